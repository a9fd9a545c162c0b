import PyProof.Rows.All
import Wide.All
import OpenK.AllK
import Wide.FinOn
import Lean
import PyProof.EqAt
import PyProof.EqKinds
import PyProof.TupleCall
import PySem.Challenge.RW_skewhouse_k61_spots
set_option Elab.async false
set_option linter.all false
set_option maxRecDepth 100000
namespace L2
open PySem PySem.Spec PyProof.Rows

noncomputable abbrev Key := Sum Int Str
noncomputable def keyIs : Key → Value → Bool
  | .inl k, v => Value.isInt k v
  | .inr x, v => Value.isStrOf x v
noncomputable def keyH (w : World) : Key → Int
  | .inl k => hashInt k
  | .inr x => hashStr w x
theorem keyIs_shape : ∀ {k : Key} {v : Value}, keyIs k v = true → (∃ i t, k = Sum.inl i ∧ v = Value.int i t) ∨ (∃ x t, k = Sum.inr x ∧ v = Value.str x t)
  | .inl i, v, h => by
    obtain ⟨t, e⟩ := Value.isInt_shape (k := i) (v := v) h
    exact .inl ⟨i, t, rfl, e⟩
  | .inr x, v, h => by
    obtain ⟨t, e⟩ := Value.isStrOf_shape (x := x) (v := v) h
    exact .inr ⟨x, t, rfl, e⟩
theorem keyIs_int (i : Int) (t : Tok) : keyIs (.inl i) (.int i t) = true := by simp [keyIs, Value.isInt]
theorem keyIs_str (x : Str) (t : Tok) : keyIs (.inr x) (.str x t) = true := by simp [keyIs, Value.isStrOf]
theorem key_ll (a b : Int) : decide ((Sum.inl a : Key) = Sum.inl b) = (a == b) := by
  by_cases e : a = b
  · subst e; simp
  · have h : ¬ (Sum.inl a : Key) = Sum.inl b := fun q => e (Sum.inl.inj q)
    rw [decide_eq_false h]
    exact (beq_eq_false_iff_ne.mpr e).symm
theorem key_rr (a b : Str) : decide ((Sum.inr a : Key) = Sum.inr b) = decide (a = b) := by
  by_cases e : a = b
  · subst e; simp
  · have h : ¬ (Sum.inr a : Key) = Sum.inr b := fun q => e (Sum.inr.inj q)
    rw [decide_eq_false h, decide_eq_false e]
theorem key_lr (a : Int) (b : Str) : decide ((Sum.inl a : Key) = Sum.inr b) = false := decide_eq_false (fun q => nomatch q)
theorem key_rl (a : Str) (b : Int) : decide ((Sum.inr a : Key) = Sum.inl b) = false := decide_eq_false (fun q => nomatch q)

noncomputable def mixKind (prog : Program) (w : World) : PySem.KeyKind prog w Key where
  is := keyIs
  hash := keyH w
  inj := fun v a b ha hb => by
    rcases keyIs_shape ha with ⟨i, t, rfl, rfl⟩ | ⟨x, t, rfl, rfl⟩
    · rcases keyIs_shape hb with ⟨j, u, rfl, e⟩ | ⟨y, u, rfl, e⟩
      · injection e with e1 _; rw [e1]
      · exact nomatch e
    · rcases keyIs_shape hb with ⟨j, u, rfl, e⟩ | ⟨y, u, rfl, e⟩
      · exact nomatch e
      · injection e with e1 _; rw [e1]
  byValue := fun k v h => by
    rcases keyIs_shape h with ⟨i, t, rfl, rfl⟩ | ⟨x, t, rfl, rfl⟩ <;> rfl
  pyHash := fun hv h => by
    rcases keyIs_shape hv with ⟨i, t, rfl, rfl⟩ | ⟨x, t, rfl, rfl⟩
    · exact wpAny_pyHash_int h
    · exact wpAny_pyHash_str h
  eqBool := fun hu hv h => by
    rcases keyIs_shape hu with ⟨i, t, rfl, rfl⟩ | ⟨x, t, rfl, rfl⟩
    · rcases keyIs_shape hv with ⟨j, u, rfl, rfl⟩ | ⟨y, u, rfl, rfl⟩
      · rw [key_ll] at h; exact wpAny_eqBool_int h
      · rw [key_lr] at h; exact SeqAt.EqAt.int_str i t y u _ _ _ _ h
    · rcases keyIs_shape hv with ⟨j, u, rfl, rfl⟩ | ⟨y, u, rfl, rfl⟩
      · rw [key_rl] at h; exact SeqAt.EqAt.str_int x t j u _ _ _ _ h
      · rw [key_rr] at h; exact wpAny_eqBool_str h
  «strs» := fun k x t v h => by
    rcases keyIs_shape h with ⟨i, u, rfl, e⟩ | ⟨y, u, rfl, e⟩
    · exact nomatch e
    · injection e with e1 _
      subst e1
      cases v <;> rfl

theorem mixKind_int (prog : Program) (w : World) (i : Int) (t : Tok) : (mixKind prog w).is (.inl i) (.int i t) = true := keyIs_int i t
theorem mixKind_str (prog : Program) (w : World) (x : Str) (t : Tok) : (mixKind prog w).is (.inr x) (.str x t) = true := keyIs_str x t
end L2

namespace L2
open PySem PySem.Spec PyProof.Rows

inductive V where
  | non | bl (b : Bool) | int (i : Int) | str (x : Str) | byt (b : Array UInt8) | flt (b : UInt64) | ref (a : Addr) | ty (n : String)
  deriving DecidableEq

noncomputable def RelV : V → Value → Prop
  | .non, u => u = Value.none
  | .bl b, u => u = Value.bool b
  | .int i, u => ∃ t, u = Value.int i t
  | .str x, u => ∃ t, u = Value.str x t
  | .byt b, u => ∃ t, u = Value.bytes b t
  | .flt b, u => ∃ t, u = Value.float b t
  | .ref a, u => u = Value.ref a
  | .ty n, u => u = Value.type n

noncomputable abbrev Vals : List V → List Value → Prop := Paired RelV
theorem Vals.length {xs : List V} {us : List Value} (r : Vals xs us) : xs.length = us.length := Paired.length r
theorem Vals.get : ∀ {xs : List V} {us : List Value} {i : Nat} {x : V}, Vals xs us → xs[i]? = some x → ∃ u, us[i]? = some u ∧ RelV x u
  | _, _, _, _, .nil, e => by simp at e
  | _, _, 0, _, .cons r _, e => by simp at e; subst e; exact ⟨_, rfl, r⟩
  | _, _, i + 1, x, .cons _ t, e => by
    obtain ⟨u, h1, h2⟩ := Vals.get (i := i) (x := x) t (by simpa using e)
    exact ⟨u, by simpa using h1, h2⟩
theorem Vals.set {x : V} {u : Value} (r : RelV x u) : ∀ {xs : List V} {us : List Value} (i : Nat), Vals xs us → Vals (xs.set i x) (us.set i u)
  | _, _, _, .nil => .nil
  | _, _, 0, .cons _ t => .cons r t
  | _, _, i + 1, .cons q t => .cons q (Vals.set r i t)
theorem Vals.append : ∀ {xs ys : List V} {us ws : List Value}, Vals xs us → Vals ys ws → Vals (xs ++ ys) (us ++ ws)
  | _, _, _, _, .nil, s => s
  | _, _, _, _, .cons r t, s => .cons r (Vals.append t s)
theorem Vals.take : ∀ {xs : List V} {us : List Value} (n : Nat), Vals xs us → Vals (xs.take n) (us.take n)
  | _, _, 0, _ => .nil
  | _, _, _ + 1, .nil => .nil
  | _, _, n + 1, .cons r t => .cons r (Vals.take n t)
theorem Vals.drop : ∀ {xs : List V} {us : List Value} (n : Nat), Vals xs us → Vals (xs.drop n) (us.drop n)
  | _, _, 0, r => r
  | _, _, _ + 1, .nil => .nil
  | _, _, n + 1, .cons _ t => Vals.drop n t
noncomputable def RelO : Option V → Option Value → Prop
  | some v, some u => RelV v u
  | none, none => True
  | _, _ => False
noncomputable def KV {κ : Type} : List (κ × V) → List (κ × Value) → Prop := Paired fun (p : κ × V) (q : κ × Value) => p.1 = q.1 ∧ RelV p.2 q.2

noncomputable def kV : Key → V
  | .inl i => .int i
  | .inr x => .str x

inductive HO where
    | lst (xs : List V)
    | tup (xs : List V)
    | dK (kvs : List (Key × V)) | dT (kvs : List (List Key × V))
    | set (S : Int → Bool) (n : Nat)
    | ins (C dx : Addr) (fs : List (Str × V))
    | own (x : Addr)
    | xd (fs : List (Str × V))
    | met (f x : Addr)
    | rng (lo hi : Int)
    | frz (o : Obj) (u : HO)
    | tbl (ps : Array Value)
    | ext (φ : Heap → Prop)

noncomputable abbrev Hp := Addr → Option HO
noncomputable def upd (H : Hp) (a : Addr) (o : HO) : Hp := fun b => if b = a then some o else H b
theorem upd_same {H : Hp} {a : Addr} {o : HO} : upd H a o a = some o := by unfold upd; rw [if_pos rfl]
theorem upd_ne {H : Hp} {a b : Addr} {o : HO} (h : b ≠ a) : upd H a o b = H b := by unfold upd; rw [if_neg h]
theorem ne_of {H : Hp} {a b : Addr} {o u : HO} (h : H a = some o) (h' : H b = some u) (d : o ≠ u) : a ≠ b := by
  intro e; subst e; rw [h] at h'; exact d (Option.some.inj h')
theorem ne_of_none {H : Hp} {a b : Addr} {o : HO} (h : H a = some o) (h' : H b = none) : a ≠ b := by
  intro e; subst e; rw [h] at h'; cases h'

section
variable (P : Program) (w : World)
noncomputable def ObjOk (H : Hp) (h : Heap) (a : Addr) : HO → Prop
  | .lst xs => xs.length ≤ sizeLine ∧ ∃ (its : List Value) (n : Nat), Vals xs its ∧ h.get? a = some { cls := .type "list", data := .seq its.toArray n }
  | .tup xs => xs.length ≤ sizeLine ∧ ∃ its : List Value, Vals xs its ∧ IsTup h a its.toArray
  | .dK kvs => kvs.length ≤ sizeLine ∧ (a == sysModules) = false ∧ ∃ vs, KV kvs vs ∧ h.DictOf (mixKind P w) a vs
  | .dT kvs => kvs.length ≤ sizeLine ∧ (a == sysModules) = false ∧ ∃ xs : List (List Key × Addr × Value),
      Paired (fun (p : List Key × V) (q : List Key × Addr × Value) => p.1 = q.1 ∧ H q.2.1 = some (.tup (p.1.map kV)) ∧ RelV p.2 q.2.2) kvs xs ∧
      ∃ o es ep, h.get? a = some o ∧ o.ExactDict ∧ o.data = .dict es ep ∧ es.toList = xs.map (entryOfKey (tupleKind (mixKind P w))) ∧ (xs.map (·.1)).Nodup
  | .set S n => h.SetOf (intKind P w) a S n
  | .ins C dx fs => H dx = some (.own a) ∧ fs.length ≤ 1000 ∧ dx ≠ a ∧ h.get? a = some (PySem.W.instObj C dx) ∧
      ∃ mA, h.Ns1 dx mA ∧ (∀ f, RelO (fs.lookup f) (mA f)) ∧ PySem.Within mA (fs.map (·.1))
  | .own _ => ∃ o, h.get? a = some o
  | .xd fs => ∃ mA, h.Ns1 a mA ∧ ∀ f, RelO (fs.lookup f) (mA f)
  | .rng lo hi => ∃ t u v, h.get? a = some { cls := .type "range", data := .fields #[.int lo t, .int hi u, .int 1 v] }
  | .frz o u => h.get? a = some o ∧ ObjOk H h a u
  | .tbl ps => h.get? a = some { cls := .none, data := .fields ps }
  | .met f x => h.get? a = some (PySem.W.methodObj (.ref f) (.ref x))
  | .ext φ => φ h ∧ (∃ o, h.get? a = some o) ∧ ∀ h1 h2 : Heap, φ h1 → (∀ o, h1.get? a = some o → h2.get? a = some o) → φ h2
noncomputable def HOk (H : Hp) (h : Heap) : Prop := ∀ a o, H a = some o → ObjOk P w H h a o
end

section
variable {P : Program} {w : World} {H H' : Hp} {h h' : Heap} {a : Addr} {o : HO}
theorem ObjOk.lt (x : ObjOk P w H h a o) : a < h.objs.size := by
  cases o with
  | lst xs => obtain ⟨_, _, _, _, e⟩ := x; exact Heap.lt_size e
  | tup xs => obtain ⟨_, _, _, p⟩ := x; exact p.lt
  | dK kvs => obtain ⟨_, _, _, _, o, _, _, e, _⟩ := x; exact Heap.lt_size e
  | dT kvs => obtain ⟨_, _, _, _, o, _, _, e, _⟩ := x; exact Heap.lt_size e
  | set S n => obtain ⟨o, _, _, _, e, _⟩ := x; exact Heap.lt_size e
  | ins C dx fs => obtain ⟨_, _, _, e, _⟩ := x; exact Heap.lt_size e
  | own y => obtain ⟨_, e⟩ := x; exact Heap.lt_size e
  | xd fs => obtain ⟨_, ⟨_, _, _, e, _⟩, _⟩ := x; exact Heap.lt_size e
  | rng lo hi => obtain ⟨_, _, _, e⟩ := x; exact Heap.lt_size e
  | frz ob u => obtain ⟨e, _⟩ := x; exact Heap.lt_size e
  | tbl ps => exact Heap.lt_size (show h.get? a = some _ from x)
  | met f y => exact Heap.lt_size (show h.get? a = some _ from x)
  | ext φ => obtain ⟨_, ⟨_, e⟩, _⟩ := x; exact Heap.lt_size e
theorem Paired.mapP {α β : Type} {F G : α → β → Prop} : ∀ {l₁ : List α} {l₂ : List β}, Paired F l₁ l₂ → (∀ a b, F a b → G a b) → Paired G l₁ l₂
  | _, _, .nil, _ => .nil
  | _, _, .cons r t, f => .cons (f _ _ r) (Paired.mapP t f)
theorem ObjOk.stay (x : ObjOk P w H h a o) (k : ∀ b u, (b = a ∨ H b = some (.own a)) → h.get? b = some u → h'.get? b = some u)
    (ho : ∀ b, H b = some (.own a) → H' b = some (.own a)) (ht : ∀ b xs, H b = some (.tup xs) → H' b = some (.tup xs)) : ObjOk P w H' h' a o := by
  induction o with
  | lst xs => obtain ⟨z, its, n, r, e⟩ := x; exact ⟨z, its, n, r, k _ _ (.inl rfl) e⟩
  | tup xs => obtain ⟨z, its, r, ob, e, c⟩ := x; exact ⟨z, its, r, ob, k _ _ (.inl rfl) e, c⟩
  | dK kvs => obtain ⟨z, y, vs, r, ob, es, ep, e, c⟩ := x; exact ⟨z, y, vs, r, ob, es, ep, k _ _ (.inl rfl) e, c⟩
  | dT kvs =>
    obtain ⟨z, y, xs, r, ob, es, ep, e, c⟩ := x
    exact ⟨z, y, xs, Paired.mapP r fun p q z => ⟨z.1, ht _ _ z.2.1, z.2.2⟩, ob, es, ep, k _ _ (.inl rfl) e, c⟩
  | set S n => obtain ⟨ob, es, ep, t, e, c⟩ := x; exact ⟨ob, es, ep, t, k _ _ (.inl rfl) e, c⟩
  | ins C dx fs =>
    obtain ⟨d, z, ne, e, mA, ⟨od, es, ep, e2, c⟩, r⟩ := x
    exact ⟨ho _ d, z, ne, k _ _ (.inl rfl) e, mA, ⟨od, es, ep, k _ _ (.inr d) e2, c⟩, r⟩
  | own y => obtain ⟨ob, e⟩ := x; exact ⟨ob, k _ _ (.inl rfl) e⟩
  | xd fs => obtain ⟨mA, ⟨od, es, ep, e, c⟩, r⟩ := x; exact ⟨mA, ⟨od, es, ep, k _ _ (.inl rfl) e, c⟩, r⟩
  | rng lo hi => obtain ⟨t, u, v, e⟩ := x; exact ⟨t, u, v, k _ _ (.inl rfl) e⟩
  | frz ob u ih => obtain ⟨e, q⟩ := x; exact ⟨k _ _ (.inl rfl) e, ih q⟩
  | tbl ps =>
    have e : h.get? a = some { cls := .none, data := .fields ps } := x
    show h'.get? a = some { cls := .none, data := .fields ps }
    exact k a _ (.inl rfl) e
  | met f y =>
    have e : h.get? a = some (PySem.W.methodObj (.ref f) (.ref y)) := x
    show h'.get? a = some (PySem.W.methodObj (.ref f) (.ref y))
    exact k a _ (.inl rfl) e
  | ext φ => obtain ⟨p, ⟨o, e⟩, st⟩ := x; exact ⟨st _ _ p fun o q => k _ _ (.inl rfl) q, ⟨o, k _ _ (.inl rfl) e⟩, st⟩
theorem HOk.lt (x : HOk P w H h) (e : H a = some o) : a < h.objs.size := (x a o e).lt
theorem HOk.fresh (x : HOk P w H h) (e : h.objs.size ≤ a) : H a = none := by
  cases q : H a with
  | none => rfl
  | some u => exact absurd (Nat.lt_of_lt_of_le (x.lt q) e) (Nat.lt_irrefl _)
theorem HOk.kept (x : HOk P w H h) (k : ∀ b u, h.get? b = some u → h'.get? b = some u) : HOk P w H h' := fun a o e =>
  (x a o e).stay (fun b u _ q => k b u q) (fun _ q => q) fun _ _ q => q
theorem HOk.laid (x : HOk P w H h) (k : ∀ b u, h.get? b = some u → h'.get? b = some u) (hp : h.objs.size ≤ a) (new : ObjOk P w (upd H a o) h' a o) : HOk P w (upd H a o) h' := fun b u e => by
  have hn := x.fresh hp
  by_cases hb : b = a
  · subst hb; rw [upd_same] at e; cases e; exact new
  · rw [upd_ne hb] at e
    exact (x b u e).stay (fun c v _ q => k c v q) (fun c q => by rw [upd_ne (ne_of_none q hn)]; exact q) fun c xs q => by rw [upd_ne (ne_of_none q hn)]; exact q
end

noncomputable def Rd (H : Hp) (a : Addr) (u : HO) : Prop := H a = some u ∨ ∃ o, H a = some (.frz o u)
theorem Rd.ok {P : Program} {w : World} {H : Hp} {h : Heap} {a : Addr} {u : HO} (r : Rd H a u) (x : HOk P w H h) : ObjOk P w H h a u := by
  rcases r with r | ⟨o, r⟩
  · exact x a u r
  · obtain ⟨_, q⟩ := x a _ r
    exact q
noncomputable def Mut : Option HO → Prop
  | some (.lst _) => True
  | some (.dK _) => True
  | some (.dT _) => True
  | some (.set _ _) => True
  | some (.ins _ _ _) => True
  | some (.ext _) => True
  | _ => False
section
variable {P : Program} {w : World} {H : Hp} {h h' : Heap} {x e : Addr} {o' : HO}
theorem HOk.write (ok : HOk P w H h) (mu : Mut (H x)) (he : e = x ∨ H e = some (.own x)) (k : ∀ b u, b ≠ e → h.get? b = some u → h'.get? b = some u) (heo : ∃ u, h'.get? e = some u)
    (new : ObjOk P w (upd H x o') h' x o') : HOk P w (upd H x o') h' := fun b u q => by
  have nown : ∀ c y, H c = some (.own y) → c ≠ x := fun c y r z => by subst z; rw [r] at mu; exact mu
  have ntup : ∀ c xs, H c = some (.tup xs) → c ≠ x := fun c xs r z => by subst z; rw [r] at mu; exact mu
  by_cases hb : b = x
  · subst hb; rw [upd_same] at q; cases q; exact new
  · rw [upd_ne hb] at q
    by_cases hbe : b = e
    · have q' : H b = some (.own x) := by
        rcases he with z | z
        · exact absurd (hbe.trans z) hb
        · rw [hbe]; exact z
      rw [q] at q'; cases q'
      obtain ⟨v, hv⟩ := heo
      exact ⟨v, by rw [hbe]; exact hv⟩
    · refine (ok b u q).stay (fun c v hc r => k c v ?_ r) (fun c r => by rw [upd_ne (nown c b r)]; exact r) fun c xs r => by rw [upd_ne (ntup c xs r)]; exact r
      rcases hc with rfl | hc
      · exact hbe
      · rintro rfl
        rcases he with z | z
        · exact nown c b hc z
        · rw [hc] at z; cases z; exact hb rfl
end

structure Un (fs ex : List Addr) (H H' : Hp) (h h' : Heap) : Prop where
  keep : ∀ b o, h.get? b = some o → H b = none → b ∉ fs → b ∉ ex → h'.get? b = some o
  slot : ∀ b o, h.get? b = some o → H b = none → b ∈ fs → b ∉ ex → ∃ sl, h'.get? b = some { o with slots := sl }
  free : ∀ b o, h.get? b = some o → H b = none → b ∉ ex → H' b = none
  there : ∀ b o, h.get? b = some o → b ∉ ex → ∃ o', h'.get? b = some o'
  tups : ∀ b xs, H b = some (.tup xs) → H' b = some (.tup xs)
  frzs : ∀ b o u, H b = some (.frz o u) → H' b = some (.frz o u)
  tbls : ∀ b ps, H b = some (.tbl ps) → ∃ more, H' b = some (.tbl (ps ++ more))
section
variable {fs fs' ex ex' : List Addr} {H H1 H2 : Hp} {h h1 h2 h' : Heap} {a x e : Addr} {o : HO}
theorem Un.any (u : Un fs ex H H1 h h1) {b : Addr} {ob : Obj} (q : h.get? b = some ob) (n : H b = none) (hx : b ∉ ex) : ∃ sl, h1.get? b = some { ob with slots := sl } := by
  by_cases hb : b ∈ fs
  · exact u.slot b ob q n hb hx
  · exact ⟨ob.slots, u.keep b ob q n hb hx⟩
theorem Un.kept (k : ∀ b u, h.get? b = some u → h'.get? b = some u) : Un fs ex H H h h' :=
  ⟨fun b ob q _ _ _ => k b ob q, fun b ob q _ _ _ => ⟨ob.slots, k b ob q⟩, fun _ _ _ n _ => n, fun b ob q _ => ⟨ob, k b ob q⟩, fun _ _ q => q, fun _ _ _ q => q, fun _ ps q => ⟨#[], by rw [q]; simp⟩⟩
theorem Un.refl : Un fs ex H H h h := Un.kept fun _ _ q => q
theorem Un.laid (k : ∀ b u, h.get? b = some u → h'.get? b = some u) (hp : h.objs.size ≤ a) (hn : H a = none) : Un fs ex H (upd H a o) h h' where
  keep := fun b u q _ _ _ => k b u q
  slot := fun b u q _ _ _ => ⟨u.slots, k b u q⟩
  free := fun b u q n _ => by rw [upd_ne (Nat.ne_of_lt (Nat.lt_of_lt_of_le (Heap.lt_size q) hp))]; exact n
  there := fun b u q _ => ⟨u, k b u q⟩
  tups := fun b xs q => by rw [upd_ne (ne_of_none q hn)]; exact q
  frzs := fun b u xs q => by rw [upd_ne (ne_of_none q hn)]; exact q
  tbls := fun b ps q => ⟨#[], by rw [upd_ne (ne_of_none q hn), q]; simp⟩
theorem Un.write (mu : Mut (H x)) (he : e = x ∨ H e = some (.own x)) (k : ∀ b u, b ≠ e → h.get? b = some u → h'.get? b = some u) (heo : ∃ u, h'.get? e = some u) : Un fs ex H (upd H x o) h h' := by
  have hx : ∀ b, H b = none → b ≠ x := fun b n z => by subst z; rw [n] at mu; exact mu
  have hb : ∀ b, H b = none → b ≠ e := fun b n z => by
    subst z
    rcases he with r | r
    · exact hx b n r
    · rw [n] at r; cases r
  have hm : ∀ b u, H b = some u → ¬ Mut (some u) → b ≠ x := fun b u q nm z => by subst z; rw [q] at mu; exact nm mu
  refine ⟨fun b u q n _ _ => k b u (hb b n) q, fun b u q n _ _ => ⟨u.slots, k b u (hb b n) q⟩, fun b u q n _ => by rw [upd_ne (hx b n)]; exact n, fun b u q _ => ?_,
    fun b xs q => by rw [upd_ne (hm b _ q fun z => z)]; exact q, fun b u xs q => by rw [upd_ne (hm b _ q fun z => z)]; exact q, fun b ps q => ⟨#[], by rw [upd_ne (hm b _ q fun z => z), q]; simp⟩⟩
  by_cases hbe : b = e
  · subst hbe; exact heo
  · exact ⟨u, k b u hbe q⟩
end

noncomputable def trk (h : Heap) (H : Hp) : List Addr := (List.range h.objs.size).filter fun a => (H a).isSome
noncomputable def hidT (h : Heap) (H : Hp) : Heap := PySem.W.hideAll h (trk h H)
theorem hidT_size (h : Heap) (H : Hp) : (hidT h H).objs.size = h.objs.size := PySem.W.hideAll_size _ _
theorem hidT_get {h : Heap} {H : Hp} {b : Addr} {o : Obj} (e : h.get? b = some o) (n : H b = none) : (hidT h H).get? b = some o :=
  PySem.W.hideAll_get _ e fun hm => by
    have q : (H b).isSome = true := (List.mem_filter.mp hm).2
    rw [n] at q; simp at q
theorem of_hidT {h : Heap} {H : Hp} {b : Addr} {o : Obj} (e : (hidT h H).get? b = some o) : h.get? b = some o ∧ H b = none := by
  have e' : h.get? b = some o := PySem.W.of_hideAll (trk h H) e
  refine ⟨e', ?_⟩
  cases q : H b with
  | none => rfl
  | some x =>
    have hm : b ∈ trk h H := List.mem_filter.mpr ⟨List.mem_range.mpr (Heap.lt_size e'), by simp [q]⟩
    have z : (hidT h H).get? b = none := PySem.W.hideAll_none (trk h H) hm
    rw [z] at e; cases e

noncomputable def allNews (g h : Heap) (L : Addr) : List (Addr × Obj) := (List.range h.objs.size).filterMap fun a => if a = L ∨ (g.get? a).isSome = true then none else (h.get? a).map fun o => (a, o)
noncomputable def rest (g h : Heap) (L d : Addr) : List (Addr × Obj) := (allNews g h L).filter fun p => decide (p.1 ≠ d)
end L2

namespace L2
open PySem PySem.Spec PyProof.Rows

structure Mod (K : PySem.W.Frag) (mg : Str → Option Value) (base : Heap) : Prop where
  kin : K.In base
  glob : base.Ns mainGlobals mg
  blt : ∃ mb, base.Ns builtinsNs mb ∧ ∀ x : Str, x ≠ "__name__" → mb x = bootBuiltins x
  nolimit : base.NoLimit

structure Cx where
  prog : Program
  w : World
  K : PySem.W.Frag
  mg : Str → Option Value
  base : Heap
  A : Around
  N : List Str
  s₀ : Shared
  H₀ : Hp
  env : Env
  outer : List Env
  stack : List Env
  ex : List Addr
  fn : Str → Bool
  calm : Bool
  pn : List (Addr × Obj)
  xe : Value → Shared → Prop
noncomputable def frs (l : List Env) : List Addr := l.filterMap (·.frame)
noncomputable abbrev Cx.fs (X : Cx) : List Addr := frs X.outer

noncomputable def Vis (sc : Scope) (x : Str) : Prop := sc.names.lookup x = some .local ∨ sc.names.lookup x = some .cell ∨ sc.names.lookup x = some .free
noncomputable def Loc (sc : Scope) (x : Str) : Prop := sc.names.lookup x = some .local ∨ sc.names.lookup x = some .cell
noncomputable def Look (env : Env) (h : Heap) (m : Str → Option Value) (x : Str) (u : Value) : Prop :=
  (env.kindOf x = some .local ∧ m x = some u) ∨ ((env.kindOf x = some .cell ∨ env.kindOf x = some .free) ∧ ∃ c, env.cells.lookup x = some c ∧ h.IsCell c (some u))

structure Cx.Ok (X : Cx) : Prop where
  mod : Mod X.K X.mg X.base
  kind : X.env.scope.kind = .function
  glob : X.env.globals = mainGlobals
  blt : X.env.builtins = builtinsNs
  above : X.s₀.heap.objs.size ≤ X.env.locals
  inj : ∀ x y c, X.env.cells.lookup x = some c → X.env.cells.lookup y = some c → x = y
  has : ∀ x, (X.env.kindOf x = some .cell ∨ X.env.kindOf x = some .free) → ∃ c, X.env.cells.lookup x = some c
  cab : ∀ x c, X.fn x = true → X.env.cells.lookup x = some c → X.s₀.heap.objs.size ≤ c
  hd : X.calm = true → X.A.handled = none
  frames : X.A.frames = some X.stack
  stk : X.stack = X.outer ∨ (X.stack = X.env :: X.outer ∧ X.env.frame = some X.env.locals)
  exf : ∀ b ∈ X.ex, b ≠ X.env.locals ∧ ∀ x c, X.env.cells.lookup x = some c → c ≠ b
  bs : ∀ b o, X.base.get? b = some o → X.s₀.heap.get? b = some o ∧ X.H₀ b = none
  bsz : X.base.objs.size ≤ X.s₀.heap.objs.size
  noex : ∀ b o, X.base.get? b = some o → b ∉ X.ex
  exfs : ∀ b ∈ X.ex, b ∉ X.fs
  funs : X.s₀.heap.FunFrames X.base X.outer
  frf : ∀ b ∈ X.fs, X.H₀ b = none

structure Inv (X : Cx) (pins : List (Addr × Obj)) (σ : List (Option V)) (H : Hp) (s : Shared) : Prop where
  ok : X.Ok
  os : s.os = X.s₀.os
  bare : AllBare s.gens
  base : Un X.fs X.ex X.H₀ H X.s₀.heap s.heap
  loc : ∃ m, s.heap.Ns X.env.locals m ∧ ∀ (i : Nat) (x : Str) (v : V), X.N[i]? = some x → σ[i]? = some (some v) → Vis X.env.scope x → ∃ u, RelV v u ∧ Look X.env s.heap m x u
  cell : ∀ x c, X.env.cells.lookup x = some c → ∃ v, s.heap.IsCell c v
  free : H X.env.locals = none
  freeC : ∀ x c, X.env.cells.lookup x = some c → H c = none
  pin : ∀ p ∈ X.pn ++ pins, s.heap.get? p.1 = some p.2 ∧ H p.1 = none ∧ p.1 ≠ X.env.locals ∧ p.1 ∉ X.fs ∧ ∀ v, p.2.data ≠ .cell v
  hok : HOk X.prog X.w H s.heap
  len : σ.length = X.N.length

section
variable {X : Cx} {pins : List (Addr × Obj)} {σ : List (Option V)} {H H' : Hp} {s : Shared} {h' : Heap}

theorem Cx.Ok.nofr (ok : X.Ok) {b : Addr} {o : Obj} (e : X.base.get? b = some o) : b ∉ X.fs := fun hb => by
  have := (ok.funs.mem hb).1
  rw [e] at this; cases this
theorem Inv.bs (I : Inv X pins σ H s) : ∀ b o, X.base.get? b = some o → s.heap.get? b = some o ∧ H b = none := fun b o e =>
  ⟨I.base.keep b o (I.ok.bs b o e).1 (I.ok.bs b o e).2 (I.ok.nofr e) (I.ok.noex b o e), I.base.free b o (I.ok.bs b o e).1 (I.ok.bs b o e).2 (I.ok.noex b o e)⟩
theorem Inv.bk (I : Inv X pins σ H s) : ∀ b o, X.base.get? b = some o → s.heap.get? b = some o := fun b o e => (I.bs b o e).1
theorem Inv.mod (I : Inv X pins σ H s) : Mod X.K X.mg X.base := I.ok.mod
theorem Inv.kIn (I : Inv X pins σ H s) : X.K.In s.heap := I.ok.mod.kin.keeps I.bk
theorem Inv.lt (I : Inv X pins σ H s) : X.env.locals < s.heap.objs.size := let ⟨_, hn, _⟩ := I.loc; hn.lt
theorem Inv.sz (I : Inv X pins σ H s) : X.s₀.heap.objs.size ≤ s.heap.objs.size := Nat.le_trans I.ok.above (Nat.le_of_lt I.lt)
theorem Inv.nofs (I : Inv X pins σ H s) {a : Addr} (h : s.heap.objs.size ≤ a) : a ∉ X.fs := fun hb => by
  obtain ⟨_, o, ho, _⟩ := I.ok.funs.mem hb
  exact absurd (Nat.lt_of_lt_of_le (Heap.lt_size ho) (Nat.le_trans I.sz h)) (Nat.lt_irrefl _)
theorem Inv.cne (I : Inv X pins σ H s) : ∀ x c, X.env.cells.lookup x = some c → c ≠ X.env.locals := fun x c e z => by
  obtain ⟨v, o, ho, hd⟩ := I.cell x c e
  obtain ⟨m, ⟨o', es, ep, ho', hd', _⟩, _⟩ := I.loc
  rw [z, ho'] at ho; cases ho; rw [hd'] at hd; cases hd
theorem Inv.funs (I : Inv X pins σ H s) : s.heap.FunFrames X.base X.outer := by
  have all : ∀ (l : List Env), (∀ b ∈ frs l, b ∈ X.fs) → X.s₀.heap.FunFrames X.base l → s.heap.FunFrames X.base l := by
    intro l
    induction l with
    | nil => intro _ _; trivial
    | cons env r ih =>
      intro hs hl
      obtain ⟨hk, ⟨L, o, hf, hn, ho, hd⟩, hr⟩ := hl
      have hL : L ∈ X.fs := hs L (by unfold frs; rw [List.filterMap_cons, hf]; exact List.mem_cons_self)
      obtain ⟨sl, e⟩ := I.base.slot L o ho (I.ok.frf L hL) hL fun z => I.ok.exfs L z hL
      exact ⟨hk, ⟨L, _, hf, hn, e, hd⟩, ih (fun b hb => hs b (by unfold frs; rw [List.filterMap_cons, hf]; exact List.mem_cons_of_mem _ hb)) hr⟩
  exact all X.outer (fun _ hb => hb) I.ok.funs

theorem Inv.stack (I : Inv X pins σ H s) : s.heap.FunFrames X.base X.stack := by
  rcases I.ok.stk with e | ⟨e, hf⟩
  · rw [e]; exact I.funs
  · rw [e]
    obtain ⟨m, hn, _⟩ := I.loc
    refine .cons (by rw [I.ok.kind]; decide) hf hn ?_ I.funs
    exact Heap.get?_none_of_le (Nat.le_trans I.ok.bsz I.ok.above)
theorem Inv.stkSub (I : Inv X pins σ H s) : ∀ b ∈ frs X.stack, b ∈ X.env.locals :: X.fs := fun b hb => by
  rcases I.ok.stk with e | ⟨e, hf⟩
  · rw [e] at hb; exact List.mem_cons_of_mem _ hb
  · rw [e] at hb
    unfold frs at hb
    rw [List.filterMap_cons, hf] at hb
    exact hb
theorem Inv.stkFree (I : Inv X pins σ H s) : ∀ b ∈ frs X.stack, H b = none := fun b hb => by
  rcases List.mem_cons.mp (I.stkSub b hb) with e | hb
  · rw [e]; exact I.free
  · obtain ⟨_, o, ho, _⟩ := I.ok.funs.mem hb
    exact I.base.free b o ho (I.ok.frf b hb) fun z => I.ok.exfs b z hb

theorem Inv.step {g' : Array GenState} {t' : Nat} {d' : Drawn} {ch : List Addr} (I : Inv X pins σ H s)
    (hch : ∀ b ∈ ch, (b ∈ X.ex ∨ X.s₀.heap.objs.size ≤ b) ∧ b ≠ X.env.locals ∧ (∀ x c, X.env.cells.lookup x = some c → c ≠ b) ∧ ∀ p ∈ X.pn ++ pins, p.1 ≠ b)
    (keep : ∀ b o, b ≠ X.env.locals → b ∉ X.fs → b ∉ ch → s.heap.get? b = some o → H b = none → h'.get? b = some o)
    (slot : ∀ b o, b ≠ X.env.locals → b ∈ X.fs → b ∉ ch → s.heap.get? b = some o → H b = none → ∃ sl, h'.get? b = some { o with slots := sl }) (free : ∀ b o, b ∉ ch → s.heap.get? b = some o → H b = none → H' b = none)
    (there : ∀ b o, b ∉ ch → s.heap.get? b = some o → ∃ o', h'.get? b = some o')
    (tups : ∀ b xs, H b = some (.tup xs) → H' b = some (.tup xs)) (frzs : ∀ b o u, H b = some (.frz o u) → H' b = some (.frz o u)) (tbls : ∀ b ps, H b = some (.tbl ps) → ∃ more, H' b = some (.tbl (ps ++ more)))
    (ns : ∀ m, s.heap.Ns X.env.locals m → h'.Ns X.env.locals m) (hok : HOk X.prog X.w H' h') (hg : AllBare g') :
    Inv X pins σ H' { s with heap := h', gens := g', drawn := d', toks := t' } := by
  have neL : ∀ b o, X.s₀.heap.get? b = some o → b ≠ X.env.locals := fun b o e => Nat.ne_of_lt (Nat.lt_of_lt_of_le (Heap.lt_size e) I.ok.above)
  have neC : ∀ b o, X.s₀.heap.get? b = some o → b ∉ X.ex → b ∉ ch := fun b o e hx hb => by
    rcases (hch b hb).1 with z | z
    · exact hx z
    · exact absurd (Nat.lt_of_lt_of_le (Heap.lt_size e) z) (Nat.lt_irrefl _)
  have cellK : ∀ x c, X.env.cells.lookup x = some c → ∀ v, s.heap.IsCell c v → h'.IsCell c v := fun x c e v ⟨o, ho, hd⟩ => by
    have nch : c ∉ ch := fun z => (hch c z).2.2.1 x c e rfl
    by_cases hc : c ∈ X.fs
    · obtain ⟨sl, q⟩ := slot c o (I.cne x c e) hc nch ho (I.freeC x c e)
      exact ⟨_, q, hd⟩
    · exact ⟨o, keep c o (I.cne x c e) hc nch ho (I.freeC x c e), hd⟩
  refine ⟨I.ok, I.os, hg, ⟨fun b o e n hb hx => ?_, fun b o e n hb hx => ?_, fun b o e n hx => ?_, fun b o e hx => ?_, fun b xs e => tups b xs (I.base.tups b xs e), fun b o xs e => frzs b o xs (I.base.frzs b o xs e), fun b ps e => ?_⟩, ?_, fun x c e => ?_, ?_, fun x c e => ?_, fun p hp => ?_, hok, I.len⟩
  · exact keep b o (neL b o e) hb (neC b o e hx) (I.base.keep b o e n hb hx) (I.base.free b o e n hx)
  · obtain ⟨sl, e1⟩ := I.base.slot b o e n hb hx
    obtain ⟨sl', e2⟩ := slot b _ (neL b o e) hb (neC b o e hx) e1 (I.base.free b o e n hx)
    exact ⟨sl', e2⟩
  · obtain ⟨o', e1⟩ := I.base.there b o e hx
    exact free b o' (neC b o e hx) e1 (I.base.free b o e n hx)
  · obtain ⟨o', e1⟩ := I.base.there b o e hx
    exact there b o' (neC b o e hx) e1
  · obtain ⟨m1, e1⟩ := I.base.tbls b ps e
    obtain ⟨m2, e2⟩ := tbls b _ e1
    exact ⟨m1 ++ m2, by rw [e2, Array.append_assoc]⟩
  · obtain ⟨m, hn, hl⟩ := I.loc
    refine ⟨m, ns m hn, fun i x v e1 e2 e3 => ?_⟩
    obtain ⟨u, r, l⟩ := hl i x v e1 e2 e3
    refine ⟨u, r, ?_⟩
    rcases l with l | ⟨k, c, e, z⟩
    · exact .inl l
    · exact .inr ⟨k, c, e, cellK x c e _ z⟩
  · obtain ⟨v, z⟩ := I.cell x c e
    exact ⟨v, cellK x c e v z⟩
  · obtain ⟨m, ⟨o, _, _, ho, _⟩, _⟩ := I.loc
    exact free _ o (fun z => (hch _ z).2.1 rfl) ho I.free
  · obtain ⟨v, o, ho, hd⟩ := I.cell x c e
    exact free c o (fun z => (hch c z).2.2.1 x c e rfl) ho (I.freeC x c e)
  · obtain ⟨e, n, ne, nf, d⟩ := I.pin p hp
    have nch : p.1 ∉ ch := fun z => (hch p.1 z).2.2.2 p hp rfl
    exact ⟨keep p.1 p.2 ne nf nch e n, free p.1 p.2 nch e n, ne, nf, d⟩
theorem Inv.un {t' : Nat} (I : Inv X pins σ H s) (u : Un X.fs [] H H' s.heap h') (hok : HOk X.prog X.w H' h') : Inv X pins σ H' { s with heap := h', toks := t' } := by
  obtain ⟨m, ⟨o, es, ep, ho, r⟩, _⟩ := id I.loc
  obtain ⟨sl, hL⟩ := u.any ho I.free (by simp)
  exact I.step (g' := s.gens) (d' := s.drawn) (ch := []) (fun _ z => nomatch z) (fun b o _ hb _ e n => u.keep b o e n hb (by simp)) (fun b o _ hb _ e n => u.slot b o e n hb (by simp)) (fun b o _ e n => u.free b o e n (by simp)) (fun b o _ e => u.there b o e (by simp)) u.tups u.frzs u.tbls (fun m' hm => by
    obtain ⟨o', es', ep', ho', r'⟩ := hm
    rw [ho] at ho'; cases ho'
    exact ⟨_, es', ep', hL, r'⟩) hok I.bare
theorem Inv.call {g' : Array GenState} {t' : Nat} {d' : Drawn} {ch : List Addr} (I : Inv X pins σ H s) (u : Un (frs X.stack) ch H H' s.heap h') (hok : HOk X.prog X.w H' h') (hg : AllBare g')
    (hch : ∀ b ∈ ch, (b ∈ X.ex ∨ X.s₀.heap.objs.size ≤ b) ∧ b ≠ X.env.locals ∧ (∀ x c, X.env.cells.lookup x = some c → c ≠ b) ∧ ∀ p ∈ X.pn ++ pins, p.1 ≠ b) :
    Inv X pins σ H' { s with heap := h', gens := g', drawn := d', toks := t' } := by
  obtain ⟨m, ⟨o, es, ep, ho, r⟩, _⟩ := id I.loc
  obtain ⟨sl, hL⟩ := u.any ho I.free fun z => (hch _ z).2.1 rfl
  exact I.step (ch := ch) hch (fun b o hL hb hc e n => u.keep b o e n (fun z => (List.mem_cons.mp (I.stkSub b z)).elim hL hb) hc) (fun b o _ _ hc e n => u.any e n hc) (fun b o hc e n => u.free b o e n hc) (fun b o hc e => u.there b o e hc) u.tups u.frzs u.tbls (fun m' hm => by
    obtain ⟨o', es', ep', ho', r'⟩ := hm
    rw [ho] at ho'; cases ho'
    exact ⟨_, es', ep', hL, r'⟩) hok hg
theorem Inv.turned {t' : Nat} {it : Addr} (I : Inv X pins σ H s) (k : ∀ b o, b ≠ it → s.heap.get? b = some o → h'.get? b = some o) (hn : H it = none) (hL : it ≠ X.env.locals)
    (h1 : it ∈ X.ex ∨ X.s₀.heap.objs.size ≤ it) (h2 : ∀ x c, X.env.cells.lookup x = some c → c ≠ it) (h3 : ∀ p ∈ X.pn ++ pins, p.1 ≠ it) : Inv X pins σ H { s with heap := h', toks := t' } := by
  have nit : ∀ b u, H b = some u → b ≠ it := fun b u e z => by rw [z, hn] at e; cases e
  refine I.step (g' := s.gens) (d' := s.drawn) (ch := [it]) (fun b hb => ?_) (fun b o _ _ hc e _ => k b o (fun z => hc (by simp [z])) e) (fun b o _ _ hc e _ => ⟨o.slots, k b o (fun z => hc (by simp [z])) e⟩) (fun _ _ _ _ n => n)
    (fun b o hc e => ⟨o, k b o (fun z => hc (by simp [z])) e⟩) (fun _ _ e => e) (fun _ _ _ e => e) (fun b ps e => ⟨#[], by rw [e]; simp⟩) (fun m hm => ?_) (fun b u e => ?_) I.bare
  · have e : b = it := by simpa using hb
    subst e
    exact ⟨h1, hL, h2, h3⟩
  · obtain ⟨o, es, ep, ho, r⟩ := hm
    exact ⟨o, es, ep, k _ o (Ne.symm hL) ho, r⟩
  · refine (I.hok b u e).stay (fun c v hc q => k c v ?_ q) (fun _ q => q) fun _ _ q => q
    rcases hc with z | z
    · rw [z]; exact nit b u e
    · exact nit c _ z
theorem Inv.tok (I : Inv X pins σ H s) (t : Nat) : Inv X pins σ H { s with toks := t } := I.un (h' := s.heap) (t' := t) Un.refl I.hok
theorem Inv.kept {t' : Nat} (I : Inv X pins σ H s) (k : ∀ b u, s.heap.get? b = some u → h'.get? b = some u) : Inv X pins σ H { s with heap := h', toks := t' } := I.un (Un.kept k) (I.hok.kept k)
theorem Inv.laid {a : Addr} {o : HO} {t' : Nat} (I : Inv X pins σ H s) (k : ∀ b u, s.heap.get? b = some u → h'.get? b = some u) (hp : s.heap.objs.size ≤ a) (new : ObjOk X.prog X.w (upd H a o) h' a o) :
    Inv X pins σ (upd H a o) { s with heap := h', toks := t' } := I.un (Un.laid k hp (I.hok.fresh hp)) (I.hok.laid k hp new)
theorem Inv.write {x e : Addr} {o : HO} {t' : Nat} (I : Inv X pins σ H s) (mu : Mut (H x)) (he : e = x ∨ H e = some (.own x)) (k : ∀ b u, b ≠ e → s.heap.get? b = some u → h'.get? b = some u) (heo : ∃ u, h'.get? e = some u)
    (new : ObjOk X.prog X.w (upd H x o) h' x o) : Inv X pins σ (upd H x o) { s with heap := h', toks := t' } := I.un (Un.write mu he k heo) (I.hok.write mu he k heo new)
theorem Inv.pins_of {pins' : List (Addr × Obj)} (I : Inv X pins σ H s) (h : ∀ p ∈ pins', s.heap.get? p.1 = some p.2 ∧ H p.1 = none ∧ p.1 ≠ X.env.locals ∧ p.1 ∉ X.fs ∧ ∀ v, p.2.data ≠ .cell v) : Inv X pins' σ H s :=
  ⟨I.ok, I.os, I.bare, I.base, I.loc, I.cell, I.free, I.freeC, fun p hp => (List.mem_append.mp hp).elim (fun z => I.pin p (List.mem_append_left _ z)) (h p), I.hok, I.len⟩

theorem nodup_ix {N : List Str} (hN : N.Nodup) {i j : Nat} {x : Str} (a : N[i]? = some x) (b : N[j]? = some x) : i = j := by
  obtain ⟨h1, e1⟩ := List.getElem?_eq_some_iff.mp a
  obtain ⟨h2, e2⟩ := List.getElem?_eq_some_iff.mp b
  exact (List.getElem_inj hN).mp (e1.trans e2.symm)

theorem store_ok2 {M : Model} {A : Around} {E : Value → Shared → Prop} {i : Nat} {x : Str} {v : V} {u : Value} {Q : Unit → Shared → Prop} (I : Inv X pins σ H s) (hN : X.N.Nodup) (hi : X.N[i]? = some x) (hx : Loc X.env.scope x) (r : RelV v u)
    (h : ∀ s', Inv X pins (σ.set i (some v)) H s' → (∃ a, Heap.SameBut a s.heap s'.heap ∧ (a = X.env.locals ∨ X.env.cells.lookup x = some a)) → Q () s') (hf : X.fn x = true ∨ X.env.scope.names.lookup x = some .local := by first | exact .inl rfl | exact .inr rfl | assumption) : wpAny M A (storeName X.env x u) Q E s := by
  obtain ⟨m, hn, hl⟩ := id I.loc
  have hcls : (X.env.scope.kind == .class || (X.env.scope.kind == .module && X.env.locals != X.env.globals)) = false := by rw [I.ok.kind]; rfl
  have hiσ : i < σ.length := by rw [I.len]; exact (List.getElem?_eq_some_iff.mp hi).1
  have cne := I.cne
  have tracked : ∀ {a : Addr} {h' : Heap}, (∃ o, s.heap.get? a = some o ∧ H a = none) → Heap.SameBut a s.heap h' → HOk X.prog X.w H h' := fun {a h'} ha hs b ob e => by
    obtain ⟨_, _, hfree⟩ := ha
    refine (I.hok b ob e).stay (fun c w' hc q => (hs.2 c ?_).trans q) (fun _ q => q) fun _ _ q => q
    rintro rfl
    rcases hc with rfl | hc
    · rw [hfree] at e; cases e
    · rw [hfree] at hc; cases hc
  rcases hx with hk | hk
  · refine wpAny_storeName_local hk hn (fun h' hn' hs => ?_) hcls
    obtain ⟨oL, _, _, hoL, _⟩ := id hn
    refine h _ ⟨I.ok, I.os, I.bare, ⟨fun b o e n hb hx => ?_, fun b o e n hb hx => ?_, I.base.free, fun b o e hx => ?_, I.base.tups, I.base.frzs, I.base.tbls⟩, ⟨_, hn', fun j y v' e1 e2 e3 => ?_⟩, fun y c e => ?_, I.free, I.freeC, fun p hp => ?_, tracked ⟨oL, hoL, I.free⟩ hs, by simpa using I.len⟩ ⟨_, hs, .inl rfl⟩
    · exact (hs.2 b (Nat.ne_of_lt (Nat.lt_of_lt_of_le (Heap.lt_size e) I.ok.above))).trans (I.base.keep b o e n hb hx)
    · obtain ⟨sl, e1⟩ := I.base.slot b o e n hb hx
      exact ⟨sl, (hs.2 b (Nat.ne_of_lt (Nat.lt_of_lt_of_le (Heap.lt_size e) I.ok.above))).trans e1⟩
    · obtain ⟨o', e1⟩ := I.base.there b o e hx
      exact ⟨o', (hs.2 b (Nat.ne_of_lt (Nat.lt_of_lt_of_le (Heap.lt_size e) I.ok.above))).trans e1⟩
    · by_cases hj : j = i
      · subst hj
        rw [hi] at e1; cases e1
        rw [List.getElem?_set_self hiσ] at e2
        cases e2
        exact ⟨u, r, .inl ⟨hk, by simp⟩⟩
      · rw [List.getElem?_set_ne (Ne.symm hj)] at e2
        obtain ⟨u', r', q⟩ := hl j y v' e1 e2 e3
        refine ⟨u', r', ?_⟩
        rcases q with ⟨k, e⟩ | ⟨k, c, e, z⟩
        · refine .inl ⟨k, ?_⟩
          have : y ≠ x := fun e => hj (nodup_ix hN e1 (e ▸ hi))
          simp [this, e]
        · exact .inr ⟨k, c, e, z.sameBut hs (cne y c e)⟩
    · obtain ⟨w', z⟩ := I.cell y c e
      exact ⟨w', z.sameBut hs (cne y c e)⟩
    · obtain ⟨e, n, ne, nf, d⟩ := I.pin p hp
      exact ⟨(hs.2 p.1 ne).trans e, n, ne, nf, d⟩
  · have hfn : X.fn x = true := by
      rcases hf with z | z
      · exact z
      · rw [z] at hk; cases hk
    obtain ⟨c, hc⟩ := I.ok.has x (.inl hk)
    obtain ⟨w', z⟩ := I.cell x c hc
    refine wpAny_storeName_cell I.ok.kind hk hc z (fun h' hc' hs => ?_)
    obtain ⟨oc, hoc, hocd⟩ := id z
    refine h { s with heap := h' } ⟨I.ok, I.os, I.bare, ⟨fun b o e n hb hx => ?_, fun b o e n hb hx => ?_, I.base.free, fun b o e hx => ?_, I.base.tups, I.base.frzs, I.base.tbls⟩, ⟨m, hn.sameBut hs (Ne.symm (cne x c hc)), fun j y v' e1 e2 e3 => ?_⟩, fun y c' e => ?_, I.free, I.freeC, fun p hp => ?_, tracked ⟨oc, hoc, I.freeC x c hc⟩ hs, by simpa using I.len⟩ ⟨c, hs, .inr hc⟩
    · exact (hs.2 b (Nat.ne_of_lt (Nat.lt_of_lt_of_le (Heap.lt_size e) (I.ok.cab x c hfn hc)))).trans (I.base.keep b o e n hb hx)
    · obtain ⟨sl, e1⟩ := I.base.slot b o e n hb hx
      exact ⟨sl, (hs.2 b (Nat.ne_of_lt (Nat.lt_of_lt_of_le (Heap.lt_size e) (I.ok.cab x c hfn hc)))).trans e1⟩
    · obtain ⟨o', e1⟩ := I.base.there b o e hx
      exact ⟨o', (hs.2 b (Nat.ne_of_lt (Nat.lt_of_lt_of_le (Heap.lt_size e) (I.ok.cab x c hfn hc)))).trans e1⟩
    · by_cases hj : j = i
      · subst hj
        rw [hi] at e1; cases e1
        rw [List.getElem?_set_self hiσ] at e2
        cases e2
        exact ⟨u, r, .inr ⟨.inl hk, c, hc, hc'⟩⟩
      · rw [List.getElem?_set_ne (Ne.symm hj)] at e2
        obtain ⟨u', r', q⟩ := hl j y v' e1 e2 e3
        refine ⟨u', r', ?_⟩
        rcases q with q | ⟨k, c', e, z'⟩
        · exact .inl q
        · refine .inr ⟨k, c', e, z'.sameBut hs ?_⟩
          rintro rfl
          exact hj (nodup_ix hN e1 (I.ok.inj _ _ _ e hc ▸ hi))
    · by_cases hcc : c' = c
      · subst hcc; exact ⟨_, hc'⟩
      · obtain ⟨w2, z2⟩ := I.cell y c' e
        exact ⟨w2, z2.sameBut hs hcc⟩
    · obtain ⟨e, n, ne, nf, d⟩ := I.pin p hp
      refine ⟨(hs.2 p.1 ?_).trans e, n, ne, nf, d⟩
      intro q
      rw [q, hoc] at e
      have q' : oc = p.2 := Option.some.inj e
      exact d w' (by rw [← q']; exact hocd)
theorem store_ok {M : Model} {A : Around} {E : Value → Shared → Prop} {i : Nat} {x : Str} {v : V} {u : Value} {Q : Unit → Shared → Prop} (I : Inv X pins σ H s) (hN : X.N.Nodup) (hi : X.N[i]? = some x) (hx : Loc X.env.scope x) (r : RelV v u)
    (h : ∀ s', Inv X pins (σ.set i (some v)) H s' → Q () s') (hf : X.fn x = true ∨ X.env.scope.names.lookup x = some .local := by first | exact .inl rfl | exact .inr rfl | assumption) : wpAny M A (storeName X.env x u) Q E s :=
  store_ok2 I hN hi hx r (fun s' I' _ => h s' I') hf
theorem Inv.call' {s' : Shared} {ch : List Addr} (I : Inv X pins σ H s) (ho : s'.os = s.os) (u : Un (frs X.stack) ch H H' s.heap s'.heap) (hok : HOk X.prog X.w H' s'.heap) (hg : AllBare s'.gens)
    (hch : ∀ b ∈ ch, (b ∈ X.ex ∨ X.s₀.heap.objs.size ≤ b) ∧ b ≠ X.env.locals ∧ (∀ x c, X.env.cells.lookup x = some c → c ≠ b) ∧ ∀ p ∈ X.pn ++ pins, p.1 ≠ b) : Inv X pins σ H' s' := by
  obtain ⟨h', g', d', t', o'⟩ := s'
  have e : o' = s.os := ho
  subst e
  exact I.call (g' := g') (t' := t') (d' := d') u hok hg hch
end

noncomputable abbrev XK := Value → Option Addr → Hp → Prop
noncomputable abbrev St := List (Option V)
noncomputable abbrev VK := V → Hp → Prop
noncomputable abbrev TE := St → Hp → VK → Prop
noncomputable abbrev TT := St → Hp → (Bool → Hp → Prop) → Prop
noncomputable abbrev TA := St → Hp → (List V → Hp → Prop) → Prop
structure Ends where
  nx : St → Hp → Prop
  rt : VK
  bk : St → Hp → Prop := fun _ _ => False
  ct : St → Hp → Prop := fun _ _ => False
noncomputable abbrev TS := Ends → St → Hp → Prop

noncomputable def EP (X : Cx) (pins : List (Addr × Obj)) (σ : St) (Q : VK) (u : Value) (s' : Shared) : Prop := ∃ v H', Inv X pins σ H' s' ∧ RelV v u ∧ Q v H'
noncomputable def TP (X : Cx) (pins : List (Addr × Obj)) (σ : St) (Q : Bool → Hp → Prop) (b : Bool) (s' : Shared) : Prop := ∃ H', Inv X pins σ H' s' ∧ Q b H'
noncomputable def AP (X : Cx) (pins : List (Addr × Obj)) (σ : St) (Q : List V → Hp → Prop) (us : List Value) (s' : Shared) : Prop := ∃ vs H', Inv X pins σ H' s' ∧ Vals vs us ∧ Q vs H'
noncomputable def SP (X : Cx) (pins : List (Addr × Obj)) (D : Ends) (f : Flow) (s' : Shared) : Prop :=
  match f with
  | .next => ∃ σ' H', Inv X pins σ' H' s' ∧ D.nx σ' H'
  | .brk => ∃ σ' H', Inv X pins σ' H' s' ∧ D.bk σ' H'
  | .cont => ∃ σ' H', Inv X pins σ' H' s' ∧ D.ct σ' H'
  | .ret u => ∃ v σ' H', Inv X pins σ' H' s' ∧ RelV v u ∧ D.rt v H'

structure PE (X : Cx) (e : Expr) (t : TE) : Prop where
  run : ∀ (pins : List (Addr × Obj)) (s : Shared) (σ : St) (H : Hp) (Q : VK), Inv X pins σ H s → t σ H Q → wpAny (model X.prog X.w) X.A (eval e X.env) (EP X pins σ Q) X.xe s
noncomputable instance {X : Cx} {e : Expr} {t : TE} : CoeFun (PE X e t) fun _ => ∀ (pins : List (Addr × Obj)) (s : Shared) (σ : St) (H : Hp) (Q : VK), Inv X pins σ H s → t σ H Q → wpAny (model X.prog X.w) X.A (eval e X.env) (EP X pins σ Q) X.xe s := ⟨PE.run⟩
structure PT (X : Cx) (e : Expr) (t : TT) : Prop where
  run : ∀ (pins : List (Addr × Obj)) (s : Shared) (σ : St) (H : Hp) (Q : Bool → Hp → Prop), Inv X pins σ H s → t σ H Q → wpAny (model X.prog X.w) X.A (isTrue e X.env (eval e X.env)) (TP X pins σ Q) X.xe s
noncomputable instance {X : Cx} {e : Expr} {t : TT} : CoeFun (PT X e t) fun _ => ∀ (pins : List (Addr × Obj)) (s : Shared) (σ : St) (H : Hp) (Q : Bool → Hp → Prop), Inv X pins σ H s → t σ H Q → wpAny (model X.prog X.w) X.A (isTrue e X.env (eval e X.env)) (TP X pins σ Q) X.xe s := ⟨PT.run⟩
structure PW (X : Cx) (e : Expr) (t : TT) : Prop where
  run : ∀ (whole : Sem Value) (pins : List (Addr × Obj)) (s : Shared) (σ : St) (H : Hp) (Q : Bool → Hp → Prop), Inv X pins σ H s → t σ H Q → wpAny (model X.prog X.w) X.A (isTrue e X.env whole) (TP X pins σ Q) X.xe s
noncomputable instance {X : Cx} {e : Expr} {t : TT} : CoeFun (PW X e t) fun _ => ∀ (whole : Sem Value) (pins : List (Addr × Obj)) (s : Shared) (σ : St) (H : Hp) (Q : Bool → Hp → Prop), Inv X pins σ H s → t σ H Q → wpAny (model X.prog X.w) X.A (isTrue e X.env whole) (TP X pins σ Q) X.xe s := ⟨PW.run⟩
theorem PW.pt {X : Cx} {e : Expr} {t : TT} (h : PW X e t) : PT X e t := ⟨h.run _⟩
structure PA (X : Cx) (es : List Expr) (t : TA) : Prop where
  run : ∀ (pos : Pos) (pins : List (Addr × Obj)) (s : Shared) (σ : St) (H : Hp) (Q : List V → Hp → Prop), Inv X pins σ H s → t σ H Q → wpAny (model X.prog X.w) X.A (spliced (backTo pos (starEach es X.env))) (AP X pins σ Q) X.xe s
noncomputable instance {X : Cx} {es : List Expr} {t : TA} : CoeFun (PA X es t) fun _ => ∀ (pos : Pos) (pins : List (Addr × Obj)) (s : Shared) (σ : St) (H : Hp) (Q : List V → Hp → Prop), Inv X pins σ H s → t σ H Q → wpAny (model X.prog X.w) X.A (spliced (backTo pos (starEach es X.env))) (AP X pins σ Q) X.xe s := ⟨PA.run⟩
structure PS (X : Cx) (st : Stmt) (t : TS) : Prop where
  run : ∀ (pins : List (Addr × Obj)) (s : Shared) (σ : St) (H : Hp) (D : Ends), Inv X pins σ H s → t D σ H → wpAny (model X.prog X.w) X.A (exec st X.env) (SP X pins D) X.xe s
noncomputable instance {X : Cx} {st : Stmt} {t : TS} : CoeFun (PS X st t) fun _ => ∀ (pins : List (Addr × Obj)) (s : Shared) (σ : St) (H : Hp) (D : Ends), Inv X pins σ H s → t D σ H → wpAny (model X.prog X.w) X.A (exec st X.env) (SP X pins D) X.xe s := ⟨PS.run⟩
structure PSs (X : Cx) (st : List Stmt) (t : TS) : Prop where
  run : ∀ (pins : List (Addr × Obj)) (s : Shared) (σ : St) (H : Hp) (D : Ends), Inv X pins σ H s → t D σ H → wpAny (model X.prog X.w) X.A (execs st X.env) (SP X pins D) X.xe s
noncomputable instance {X : Cx} {st : List Stmt} {t : TS} : CoeFun (PSs X st t) fun _ => ∀ (pins : List (Addr × Obj)) (s : Shared) (σ : St) (H : Hp) (D : Ends), Inv X pins σ H s → t D σ H → wpAny (model X.prog X.w) X.A (execs st X.env) (SP X pins D) X.xe s := ⟨PSs.run⟩
theorem thn {α : Type} {t : Sem α} {Q Q' : α → Shared → Prop} {M : Model} {A : Around} {E : Value → Shared → Prop} {s : Shared} (h : wpAny M A t Q E s) (hQ : ∀ a s, Q a s → Q' a s) : wpAny M A t Q' E s := wpAny_mono h hQ fun _ _ x => x
end L2

namespace L2
open PySem PySem.Spec PyProof.Rows
section
variable {X : Cx}

noncomputable def tVar (i : Nat) : TE := fun σ H Q => ∃ v, σ[i]? = some (some v) ∧ Q v H
noncomputable def tC (v : V) : TE := fun _ H Q => Q v H
theorem pe_var {i : Nat} {x : Str} {pos : Pos} (hN : X.N[i]? = some x) (hv : Vis X.env.scope x) (hd : (x == ("__debug__" : Str)) = false := by decide) (hcd : (x == ("__classdict__" : Str)) = false := by decide) : PE X (.Name x pos) (tVar i) := by
  constructor; intro pins s σ H Q I h
  obtain ⟨v, e, h⟩ := h
  obtain ⟨m, hn, hl⟩ := I.loc
  obtain ⟨u, r, l⟩ := hl i x v hN e hv
  have fin : EP X pins σ Q u s := ⟨v, H, I, r, h⟩
  rcases l with ⟨hk, hm⟩ | ⟨hk, c, hc, hcell⟩
  · exact wpAny_Name (wpAny_loadName_local I.ok.kind hk hn hm fin) hd
  · rcases hk with hk | hk
    · exact wpAny_Name (wpAny_loadName_cell I.ok.kind hk hc hcell fin) hd
    · exact wpAny_Name (wpAny_loadName_free I.ok.kind hk hc hcell fin hcd) hd
theorem pe_int {i j pos} : PE X (.Constant (.int i) j pos) (tC (.int i)) := ⟨fun _ _ _ H _ I h => wpAny_Constant_int ⟨.int i, H, I.tok _, ⟨_, rfl⟩, h⟩⟩
theorem pe_bl {b j pos} : PE X (.Constant (.bool b) j pos) (tC (.bl b)) := ⟨fun _ _ _ H _ I h => Constant_bool ⟨.bl b, H, I, rfl, h⟩⟩
theorem pe_non {j pos} : PE X (.Constant .none j pos) (tC .non) := ⟨fun _ _ _ H _ I h => Constant_none ⟨.non, H, I, rfl, h⟩⟩
theorem pe_str {x j pos} : PE X (.Constant (.str x) j pos) (tC (.str x)) := ⟨fun _ _ _ H _ I h => Calls.Constant_str ⟨.str x, H, I.tok _, ⟨_, rfl⟩, h⟩⟩

noncomputable def Gl (X : Cx) (x : Str) : Prop := X.env.kindOf x = some .globalImplicit
theorem ld_glob {E : Value → Shared → Prop} {pins : List (Addr × Obj)} {s : Shared} {σ : St} {H : Hp} {x : Str} {u : Value} {pos : Pos} {Q : Value → Shared → Prop} (I : Inv X pins σ H s) (hg : Gl X x) (hm : X.mg x = some u) (h : Q u s)
    (hd : (x == ("__debug__" : Str)) = false := by decide) : wpAny (model X.prog X.w) X.A (eval (.Name x pos) X.env) Q E s :=
  Calls.Name_function_global I.ok.kind hg (Calls.loadGlobal_global (by rw [I.ok.glob]; exact I.mod.glob.keeps I.bk) hm h) hd
theorem ld_blt {E : Value → Shared → Prop} {pins : List (Addr × Obj)} {s : Shared} {σ : St} {H : Hp} {x : Str} {u : Value} {pos : Pos} {Q : Value → Shared → Prop} (I : Inv X pins σ H s) (hg : Gl X x) (hm : X.mg x = none) (hv : bootBuiltins x = some u) (h : Q u s)
    (hn : x ≠ "__name__" := by decide) (hd : (x == ("__debug__" : Str)) = false := by decide) : wpAny (model X.prog X.w) X.A (eval (.Name x pos) X.env) Q E s := by
  obtain ⟨mb, h1, h2⟩ := I.mod.blt
  exact Calls.Name_function_global I.ok.kind hg (Calls.loadGlobal_builtin (by rw [I.ok.glob]; exact I.mod.glob.keeps I.bk) hm (by rw [I.ok.blt]; exact h1.keeps I.bk) ((h2 x hn).trans hv) h) hd
theorem pe_glob {x : Str} {v : V} {u : Value} {pos : Pos} (hg : Gl X x) (hm : X.mg x = some u) (r : RelV v u) (hd : (x == ("__debug__" : Str)) = false := by decide) : PE X (.Name x pos) (tC v) :=
  ⟨fun _ _ _ H _ I h => ld_glob I hg hm ⟨v, H, I, r, h⟩ hd⟩
theorem pe_bltn {x : Str} {v : V} {u : Value} {pos : Pos} (hg : Gl X x) (hm : X.mg x = none) (hv : bootBuiltins x = some u) (r : RelV v u) (hn : x ≠ "__name__" := by decide) (hd : (x == ("__debug__" : Str)) = false := by decide) : PE X (.Name x pos) (tC v) :=
  ⟨fun _ _ _ H _ I h => ld_blt I hg hm hv ⟨v, H, I, r, h⟩ hn hd⟩

variable {a b : Expr} {ta tb : TE} {pos : Pos}
structure PC (X : Cx) (op : CmpOp) (a b : Expr) (t : TE) : Prop where
  run : ∀ (pins : List (Addr × Obj)) (s : Shared) (σ : St) (H : Hp) (Q : VK), Inv X pins σ H s → t σ H Q →
    wpAny (model X.prog X.w) X.A (eval a X.env) (fun v s₁ => wpAny (model X.prog X.w) X.A (eval b X.env) (fun u s₂ => wpAny (model X.prog X.w) X.A (compareOp op v u) (EP X pins σ Q) X.xe s₂) X.xe s₁) X.xe s
noncomputable instance {X : Cx} {op : CmpOp} {a b : Expr} {t : TE} : CoeFun (PC X op a b t) fun _ => ∀ (pins : List (Addr × Obj)) (s : Shared) (σ : St) (H : Hp) (Q : VK), Inv X pins σ H s → t σ H Q →
    wpAny (model X.prog X.w) X.A (eval a X.env) (fun v s₁ => wpAny (model X.prog X.w) X.A (eval b X.env) (fun u s₂ => wpAny (model X.prog X.w) X.A (compareOp op v u) (EP X pins σ Q) X.xe s₂) X.xe s₁) X.xe s := ⟨PC.run⟩
noncomputable def tB (t : TE) : TT := fun σ H Q => t σ H fun x H1 => ∃ c, x = .bl c ∧ Q c H1
theorem pt_val {e : Expr} {t : TE} (h : PE X e t) (he : ∀ whole, isTrue e X.env whole = (do let v ← whole; standAt e.pos; holding [v] (truthy v)) := by intro _; rfl) : PT X e (tB t) := by
  constructor; intro pins s σ H Q I hw
  refine isTrue_plain (thn (h pins s σ H _ I hw) fun v s1 ⟨x, H1, I1, r1, q1⟩ => ?_) (he _)
  obtain ⟨d, rfl, q⟩ := q1
  cases r1
  exact wpAny_truthy_bool ⟨H1, I1, q⟩

variable {tA tB' : TT} {rest : List Expr}
noncomputable def tAnd (t u : TT) : TT := fun σ H Q => t σ H fun c H1 => if c = true then u σ H1 Q else Q false H1
noncomputable def tOr (t u : TT) : TT := fun σ H Q => t σ H fun c H1 => if c = true then Q true H1 else u σ H1 Q
noncomputable def tNot (t : TT) : TT := fun σ H Q => t σ H fun c H1 => Q (!c) H1
theorem pw_and1 (ha : PT X a tA) : PW X (.BoolOp .And [a] pos) tA := by
  constructor; intro wh pins s σ H Q I h
  refine isTrue_and (thn (ha pins s σ H Q I h) fun c s1 e => ?_)
  cases c with
  | true => exact isTrue_and_nil e
  | false => exact e
theorem pw_or1 (ha : PT X a tA) : PW X (.BoolOp .Or [a] pos) tA := by
  constructor; intro wh pins s σ H Q I h
  refine isTrue_or (thn (ha pins s σ H Q I h) fun c s1 e => ?_)
  cases c with
  | false => exact isTrue_or_nil e
  | true => exact e
theorem pw_and (ha : PT X a tA) (hb : PW X (.BoolOp .And (b :: rest) pos) tB') : PW X (.BoolOp .And (a :: b :: rest) pos) (tAnd tA tB') := by
  constructor; intro wh pins s σ H Q I h
  refine isTrue_and (thn (ha pins s σ H _ I h) fun c s1 ⟨H1, I1, q1⟩ => ?_)
  cases c with
  | true => exact hb wh pins s1 σ H1 Q I1 q1
  | false => exact ⟨H1, I1, q1⟩
theorem pw_or (ha : PT X a tA) (hb : PW X (.BoolOp .Or (b :: rest) pos) tB') : PW X (.BoolOp .Or (a :: b :: rest) pos) (tOr tA tB') := by
  constructor; intro wh pins s σ H Q I h
  refine isTrue_or (thn (ha pins s σ H _ I h) fun c s1 ⟨H1, I1, q1⟩ => ?_)
  cases c with
  | true => exact ⟨H1, I1, q1⟩
  | false => exact hb wh pins s1 σ H1 Q I1 q1
theorem pt_not (ha : PT X a tA) : PT X (.UnaryOp .Not a pos) (tNot tA) := by
  constructor; intro pins s σ H Q I h
  exact isTrue_not (ha pins s σ H (fun c H1 => Q (!c) H1) I h)
noncomputable def tAndV (ta tb : TE) : TE := fun σ H Q => ta σ H fun x H1 => ∃ c, x = .bl c ∧ if c = true then tb σ H1 Q else Q (.bl false) H1
noncomputable def tNotV (ta : TE) : TE := fun σ H Q => ta σ H fun x H1 => ∃ c, x = .bl c ∧ Q (.bl (!c)) H1
theorem pe_one {op} {t : TE} (h : PE X a t) : PE X (.BoolOp op [a] pos) t := ⟨fun pins s σ H Q I hw => BoolOp_one (h pins s σ H Q I hw)⟩
theorem pe_and (ha : PE X a ta) (hb : PE X (.BoolOp .And (b :: rest) pos) tb) : PE X (.BoolOp .And (a :: b :: rest) pos) (tAndV ta tb) := by
  constructor; intro pins s σ H Q I h
  refine BoolOp_and (thn (ha pins s σ H _ I h) fun v s1 ⟨x, H1, I1, r1, q1⟩ => ?_)
  obtain ⟨c, rfl, q1⟩ := q1
  cases r1
  refine wpAny_truthy_bool ?_
  cases c with
  | true => exact hb pins s1 σ H1 Q I1 q1
  | false => exact ⟨.bl false, H1, I1, rfl, q1⟩
theorem pe_not (ha : PE X a ta) : PE X (.UnaryOp .Not a pos) (tNotV ta) := by
  constructor; intro pins s σ H Q I h
  refine UnaryOp_ (thn (ha pins s σ H _ I h) fun v s1 ⟨x, H1, I1, r1, q1⟩ => ?_)
  obtain ⟨c, rfl, q1⟩ := q1
  cases r1
  exact not_of (wpAny_truthy_bool ⟨.bl (!c), H1, I1, rfl, q1⟩)
noncomputable def tIf (t : TT) (ta tb : TE) : TE := fun σ H Q => t σ H fun c H1 => if c = true then ta σ H1 Q else tb σ H1 Q
theorem pe_ifExp {c : Expr} (hc : PT X c tA) (ha : PE X a ta) (hb : PE X b tb) : PE X (.IfExp c a b pos) (tIf tA ta tb) := by
  constructor; intro pins s σ H Q I h
  refine wpAny_IfExp (thn (hc pins s σ H _ I h) fun d s1 ⟨H1, I1, q1⟩ => ?_)
  cases d with
  | true => exact ha pins s1 σ H1 Q I1 q1
  | false => exact hb pins s1 σ H1 Q I1 q1
end
end L2

namespace L2
open PySem PySem.Spec PyProof.Rows

noncomputable def SqL (K : PySem.W.Frag) (H : Hp) (a : Addr) (xs : List V) : Prop :=
  Rd H a (.lst xs) ∨
    ∃ (o : Obj) (its : Array Value) (n : Nat), K.lookup a = some o ∧ o.cls = .type "list" ∧ o.dict = none ∧ o.data = .seq its n ∧ its.size ≤ sizeLine ∧ Vals xs its.toList
noncomputable def SqT (K : PySem.W.Frag) (H : Hp) (a : Addr) (xs : List V) : Prop :=
  Rd H a (.tup xs) ∨
    ∃ (o : Obj) (its : Array Value) (n : Nat), K.lookup a = some o ∧ o.cls = .type "tuple" ∧ o.data = .seq its n ∧ its.size ≤ sizeLine ∧ Vals xs its.toList
noncomputable def absV : Value → Option V
  | .none => some .non
  | .bool b => some (.bl b)
  | .int i _ => some (.int i)
  | .str x _ => some (.str x)
  | .bytes b _ => some (.byt b)
  | .float b _ => some (.flt b)
  | .ref a => some (.ref a)
  | .type n => some (.ty n)
  | _ => none
theorem RelV.abs {x : V} {u : Value} (r : RelV x u) : absV u = some x := by
  cases x with
  | non => cases r; rfl
  | bl _ => cases r; rfl
  | int _ => obtain ⟨t, rfl⟩ := r; rfl
  | str _ => obtain ⟨t, rfl⟩ := r; rfl
  | byt _ => obtain ⟨t, rfl⟩ := r; rfl
  | flt _ => obtain ⟨t, rfl⟩ := r; rfl
  | ref _ => cases r; rfl
  | ty _ => cases r; rfl
theorem RelV.inj {x y : V} {u : Value} (r : RelV x u) (q : RelV y u) : x = y := Option.some.inj (r.abs.symm.trans q.abs)
theorem Vals.inj : ∀ {xs ys : List V} {us : List Value}, Vals xs us → Vals ys us → xs = ys
  | _, _, _, .nil, .nil => rfl
  | _, _, _, .cons r t, .cons r' t' => by rw [r.inj r', Vals.inj t t']
section
variable {X : Cx} {pins : List (Addr × Obj)} {σ : St} {H : Hp} {s : Shared} {a : Addr} {xs ys : List V}
theorem SqL.of {K : PySem.W.Frag} (h : H a = some (.lst xs)) : SqL K H a xs := .inl (.inl h)
theorem SqT.of {K : PySem.W.Frag} (h : H a = some (.tup xs)) : SqT K H a xs := .inl (.inl h)
theorem Inv.list (I : Inv X pins σ H s) (h : SqL X.K H a xs) : ∃ its : List Value, Vals xs its ∧ PlainL s.heap a its.toArray ∧ xs.length ≤ sizeLine := by
  rcases h with h | ⟨o, its, n, hk, hc, hd, hs, hz, r⟩
  · obtain ⟨z, its, n, r, e⟩ := h.ok I.hok
    exact ⟨its, r, ⟨_, n, e, rfl, rfl, rfl⟩, z⟩
  · refine ⟨its.toList, r, ⟨o, n, I.kIn a o hk, hc, hd, by simpa using hs⟩, ?_⟩
    have e := r.length
    simp only [Array.length_toList] at e
    omega
theorem Inv.tuple (I : Inv X pins σ H s) (h : SqT X.K H a xs) : ∃ its : List Value, Vals xs its ∧ IsTup s.heap a its.toArray ∧ xs.length ≤ sizeLine := by
  rcases h with h | ⟨o, its, n, hk, hc, hs, hz, r⟩
  · obtain ⟨z, its, r, p⟩ := h.ok I.hok
    exact ⟨its, r, p, z⟩
  · refine ⟨its.toList, r, ⟨o, I.kIn a o hk, hc, n, by simpa using hs⟩, ?_⟩
    have e := r.length
    simp only [Array.length_toList] at e
    omega
theorem Inv.list_inj (I : Inv X pins σ H s) (h : SqL X.K H a xs) (h' : SqL X.K H a ys) : xs = ys := by
  obtain ⟨its, r, ⟨o, n, e, _, _, d⟩, _⟩ := I.list h
  obtain ⟨its', r', ⟨o', n', e', _, _, d'⟩, _⟩ := I.list h'
  rw [e] at e'; cases e'
  rw [d] at d'
  injection d' with d1 _
  have : its = its' := by simpa using congrArg Array.toList d1
  subst this
  exact r.inj r'
end

noncomputable abbrev Cx.wish (X : Cx) (E : Value → Shared → Prop) : Cx := { X with xe := E }
noncomputable abbrev Cx.nox (X : Cx) : Cx := X.wish fun _ _ => False
theorem Cx.Ok.wish {X : Cx} (ok : X.Ok) (E : Value → Shared → Prop) : (X.wish E).Ok :=
  ⟨ok.mod, ok.kind, ok.glob, ok.blt, ok.above, ok.inj, ok.has, ok.cab, ok.hd, ok.frames, ok.stk, ok.exf, ok.bs, ok.bsz, ok.noex, ok.exfs, ok.funs, ok.frf⟩
theorem Cx.Ok.unwish {X : Cx} {E : Value → Shared → Prop} (ok : (X.wish E).Ok) : X.Ok :=
  ⟨ok.mod, ok.kind, ok.glob, ok.blt, ok.above, ok.inj, ok.has, ok.cab, ok.hd, ok.frames, ok.stk, ok.exf, ok.bs, ok.bsz, ok.noex, ok.exfs, ok.funs, ok.frf⟩
section
variable {X : Cx} {pins : List (Addr × Obj)} {σ : St} {H : Hp} {s : Shared} {E : Value → Shared → Prop}
theorem Inv.wish (I : Inv X pins σ H s) (E : Value → Shared → Prop) : Inv (X.wish E) pins σ H s := ⟨I.ok.wish E, I.os, I.bare, I.base, I.loc, I.cell, I.free, I.freeC, I.pin, I.hok, I.len⟩
theorem Inv.unwish (I : Inv (X.wish E) pins σ H s) : Inv X pins σ H s := ⟨I.ok.unwish, I.os, I.bare, I.base, I.loc, I.cell, I.free, I.freeC, I.pin, I.hok, I.len⟩
theorem SP.unwish {D : Ends} {f : Flow} {s' : Shared} (h : SP (X.wish E) pins D f s') : SP X pins D f s' := by
  cases f with
  | next => obtain ⟨σ', H', I, q⟩ := h; exact ⟨σ', H', I.unwish, q⟩
  | brk => obtain ⟨σ', H', I, q⟩ := h; exact ⟨σ', H', I.unwish, q⟩
  | cont => obtain ⟨σ', H', I, q⟩ := h; exact ⟨σ', H', I.unwish, q⟩
  | ret u => obtain ⟨v, σ', H', I, r, q⟩ := h; exact ⟨v, σ', H', I.unwish, r, q⟩
theorem PSs.nox {st : List Stmt} {t : TS} (h : PSs X.nox st t) : PSs X st t := ⟨fun pins s σ H D I hw =>
  wpAny_mono (h pins s σ H D (I.wish _) hw) (fun _ _ q => q.unwish) fun _ _ z => False.elim z⟩
end

section
variable {X : Cx} {st : Stmt} {rest : List Stmt} {t u : TS} {e : Expr} {te : TE} {pos : Pos}
noncomputable def tNext : TS := fun D σ H => D.nx σ H
noncomputable def tSeq (t u : TS) : TS := fun D σ H => t { D with nx := u D } σ H
theorem pss_nil : PSs X [] tNext := ⟨fun _ _ σ H _ I h => wpAny_execs_nil ⟨σ, H, I, h⟩⟩
theorem pss_cons (h1 : PS X st t) (h2 : PSs X rest u) : PSs X (st :: rest) (tSeq t u) := by
  constructor; intro pins s σ H D I h
  refine wpAny_execs_cons (thn (h1 pins s σ H { D with nx := u D } I h) fun f s1 q => ?_)
  cases f with
  | next =>
    obtain ⟨σ', H', I', q⟩ := q
    exact h2 pins s1 σ' H' D I' q
  | ret v => exact q
  | brk => exact q
  | cont => exact q
theorem pss_one (h1 : PS X st t) : PSs X [st] t := by
  constructor; intro pins s σ H D I h
  refine wpAny_execs_cons (thn (h1 pins s σ H D I h) fun f s1 q => ?_)
  cases f with
  | next => exact wpAny_execs_nil q
  | ret v => exact q
  | brk => exact q
  | cont => exact q
theorem Inv.quiet {pins : List (Addr × Obj)} {σ : St} {H : Hp} {s : Shared} (I : Inv X pins σ H s) : interactive X.env = false := by simp [interactive, I.ok.kind]
noncomputable def tDrop (te : TE) : TS := fun D σ H => te σ H fun _ H1 => D.nx σ H1
theorem ps_expr (he : PE X e te) (hs : swapsWith e none pos.line X.env = pure false := by rfl) : PS X (.Expr e pos) (tDrop te) := by
  constructor; intro pins s σ H D I h
  exact wpAny_Expr_any (thn (he pins s σ H _ I h) fun v s1 ⟨x, H1, I1, r1, q1⟩ => ⟨σ, H1, I1, q1⟩) I.quiet hs
noncomputable def tRet (te : TE) : TS := fun D σ H => te σ H D.rt
theorem ps_ret (he : PE X e te) : PS X (.Return (some e) pos) (tRet te) := by
  constructor; intro pins s σ H D I h
  exact wpAny_Return_some (thn (he pins s σ H _ I h) fun v s1 ⟨x, H1, I1, r1, q1⟩ => ⟨x, σ, H1, I1, r1, q1⟩)
noncomputable def tIfS (c : TT) (t u : TS) : TS := fun D σ H => c σ H fun b H1 => if b = true then t D σ H1 else u D σ H1
theorem ps_if {c : Expr} {a b : List Stmt} {tc : TT} (hc : PT X c tc) (ha : PSs X a t) (hb : PSs X b u) : PS X (.If c a b pos) (tIfS tc t u) := by
  constructor; intro pins s σ H D I h
  refine wpAny_If (thn (hc pins s σ H _ I h) fun d s1 ⟨H1, I1, q1⟩ => ?_)
  cases d with
  | true => exact ha pins s1 σ H1 D I1 q1
  | false => exact hb pins s1 σ H1 D I1 q1
noncomputable def tNever : TS := fun _ _ _ => False
end

noncomputable abbrev TG := V → St → Hp → (St → Hp → Prop) → Prop
noncomputable abbrev TGs := List V → St → Hp → (St → Hp → Prop) → Prop
structure PG (X : Cx) (target : Expr) (t : TG) : Prop where
  run : ∀ (pins : List (Addr × Obj)) (s : Shared) (σ : St) (H : Hp) (v : V) (u : Value) (Q : St → Hp → Prop), Inv X pins σ H s → RelV v u → t v σ H Q →
    wpAny (model X.prog X.w) X.A (assign target X.env u) (fun _ s' => ∃ σ' H', Inv X pins σ' H' s' ∧ Q σ' H') X.xe s
noncomputable instance {X : Cx} {target : Expr} {t : TG} : CoeFun (PG X target t) fun _ => ∀ (pins : List (Addr × Obj)) (s : Shared) (σ : St) (H : Hp) (v : V) (u : Value) (Q : St → Hp → Prop), Inv X pins σ H s → RelV v u → t v σ H Q →
    wpAny (model X.prog X.w) X.A (assign target X.env u) (fun _ s' => ∃ σ' H', Inv X pins σ' H' s' ∧ Q σ' H') X.xe s := ⟨PG.run⟩
structure PGs (X : Cx) (ts : List Expr) (t : TGs) : Prop where
  run : ∀ (pins : List (Addr × Obj)) (s : Shared) (σ : St) (H : Hp) (vs : List V) (us : List Value) (Q : St → Hp → Prop), Inv X pins σ H s → Vals vs us → t vs σ H Q →
    wpAny (model X.prog X.w) X.A (assignInOrder ((assignEach ts X.env).map (·.2)) us) (fun _ s' => ∃ σ' H', Inv X pins σ' H' s' ∧ Q σ' H') X.xe s
noncomputable instance {X : Cx} {ts : List Expr} {t : TGs} : CoeFun (PGs X ts t) fun _ => ∀ (pins : List (Addr × Obj)) (s : Shared) (σ : St) (H : Hp) (vs : List V) (us : List Value) (Q : St → Hp → Prop), Inv X pins σ H s → Vals vs us → t vs σ H Q →
    wpAny (model X.prog X.w) X.A (assignInOrder ((assignEach ts X.env).map (·.2)) us) (fun _ s' => ∃ σ' H', Inv X pins σ' H' s' ∧ Q σ' H') X.xe s := ⟨PGs.run⟩
noncomputable abbrev TSet := V → V → V → Hp → (Hp → Prop) → Prop
noncomputable def PSet (X : Cx) (t : TSet) : Prop :=
  ∀ (pins : List (Addr × Obj)) (s : Shared) (σ : St) (H : Hp) (o i v : V) (ov iv u : Value) (Q : Hp → Prop), Inv X pins σ H s → RelV o ov → RelV i iv → RelV v u → t o i v H Q →
    wpAny (model X.prog X.w) X.A (setItem ov iv u) (fun _ s' => ∃ H', Inv X pins σ H' s' ∧ Q H') X.xe s
section
variable {X : Cx} {pos : Pos}
noncomputable def gName (i : Nat) : TG := fun v σ H Q => Q (σ.set i (some v)) H
theorem pg_name {i : Nat} {x : Str} (hN : X.N.Nodup) (hi : X.N[i]? = some x) (hx : Loc X.env.scope x) (hf : X.fn x = true ∨ X.env.scope.names.lookup x = some .local := by first | exact .inl rfl | exact .inr rfl | assumption) : PG X (.Name x pos) (gName i) := by
  constructor; intro pins s σ H v u Q I r h
  exact wpAny_assign_Name (store_ok I hN hi hx r (fun s' I' => ⟨_, H, I', h⟩) hf)
noncomputable def gNil : TGs := fun vs σ H Q => vs = [] ∧ Q σ H
noncomputable def gCons (t : TG) (u : TGs) : TGs := fun vs σ H Q => ∃ v r, vs = v :: r ∧ t v σ H fun σ' H' => u r σ' H' Q
theorem pgs_nil : PGs X [] gNil := by
  constructor; intro pins s σ H vs us Q I r h
  obtain ⟨e, h⟩ := h
  subst e
  cases r
  exact assignInOrder_nil ⟨σ, H, I, h⟩
theorem pgs_cons {e : Expr} {es : List Expr} {t : TG} {u : TGs} (h1 : PG X e t) (h2 : PGs X es u)
    (hs : (assignEach (e :: es) X.env).map (·.2) = assign e X.env :: (assignEach es X.env).map (·.2) := by rfl) : PGs X (e :: es) (gCons t u) := by
  constructor; intro pins s σ H vs us Q I r h
  obtain ⟨v, vr, e1, h⟩ := h
  subst e1
  cases r with
  | cons r rr =>
    rw [hs]
    refine assignInOrder_cons (thn (h1 pins s σ H _ _ _ I r h) fun _ s1 ⟨σ1, H1, I1, q1⟩ => ?_)
    exact h2 pins s1 σ1 H1 _ _ Q I1 rr q1
noncomputable def gTup (K : PySem.W.Frag) (n : Nat) (t : TGs) : TG := fun v σ H Q => ∃ a xs, v = .ref a ∧ SqT K H a xs ∧ xs.length = n ∧ t xs σ H Q
theorem pg_tup {es : List Expr} {k : Nat} {t : TGs} {n : Nat} (hc : X.calm = true) (h : PGs X es t)
    (hn : (assignEach es X.env).length = n := by rfl) (hst : (assignEach es X.env).findIdx? (·.1) = none := by rfl) : PG X (.Tuple es k pos) (gTup X.K n t) := by
  constructor; intro pins s σ H v u Q I r hw
  obtain ⟨a, xs, e1, hq, hl, hw⟩ := hw
  subst e1
  cases r
  obtain ⟨its, rv, ht, hz⟩ := I.tuple hq
  refine assign_Tuple_tuple (I.ok.hd hc) ht (by simp [hn, ← hl, rv.length]) hst fun h' hx => ?_
  have I1 : Inv X pins σ H { s with heap := h' } := I.kept (t' := s.toks) fun b o e => hx b o (Nat.ne_of_lt (Heap.lt_size e)) e
  exact h pins _ σ H xs _ Q I1 (by simpa using rv) hw
noncomputable def gSub (to ti : TE) (t : TSet) : TG := fun v σ H Q => to σ H fun o H1 => ti σ H1 fun i H2 => t o i v H2 fun H3 => Q σ H3
theorem pg_sub {o i : Expr} {to ti : TE} {t : TSet} (ho : PE X o to) (hi : PE X i ti) (hs : PSet X t)
    (ha : ∀ v, assign (.Subscript o i pos) X.env v = (do
      let ov ← holding [v] (eval o X.env)
      let iv ← holding [v, ov] (eval i X.env)
      standAt pos
      holding [v, ov, iv] (setItem ov iv v)
      release [v, ov, iv] []) := by intro _; rfl) : PG X (.Subscript o i pos) (gSub to ti t) := by
  constructor; intro pins s σ H v u Q I r h
  rw [ha]
  refine wpAny_bind (wpAny_holding (thn (ho pins s σ H _ I h) fun ov s1 ⟨x, H1, I1, r1, q1⟩ => ?_))
  refine wpAny_bind (wpAny_holding (thn (hi pins s1 σ H1 _ I1 q1) fun iv s2 ⟨y, H2, I2, r2, q2⟩ => ?_))
  refine wpAny_bind (wpAny_standAt (wpAny_bind (wpAny_holding (thn (hs pins s2 σ H2 x y v ov iv u _ I2 r1 r2 r q2) fun _ s3 ⟨H3, I3, q3⟩ => ?_))))
  exact wpAny_release ⟨σ, H3, I3, q3⟩
noncomputable def tAsg (te : TE) (g : TG) : TS := fun D σ H => te σ H fun x H1 => g x σ H1 D.nx
theorem ps_asg {tg e : Expr} {te : TE} {g : TG} (he : PE X e te) (hg : PG X tg g) (hs : swapsWithSole [tg] e pos.line X.env = pure false := by rfl) (hw : swappedStores [tg] e X.env = pure none := by rfl)
    (h1 : (assignEach [tg] X.env).map (·.2) = [assign tg X.env] := by rfl) : PS X (.Assign [tg] e pos) (tAsg te g) := by
  constructor; intro pins s σ H D I h
  refine wpAny_Assign_stores (thn (he pins s σ H _ I h) fun v s1 ⟨x, H1, I1, r1, q1⟩ => ?_) hs hw
  rw [h1]
  exact thn (hg pins s1 σ H1 x v _ I1 r1 q1) fun _ s2 q => q
theorem ps_set {i : Nat} {x : Str} {e : Expr} {te : TE} {pos' : Pos} (hN : X.N.Nodup) (hi : X.N[i]? = some x) (hx : Loc X.env.scope x) (he : PE X e te) (hs : swapsWith e (some (.Name x pos')) pos.line X.env = pure false := by rfl) (hf : X.fn x = true ∨ X.env.scope.names.lookup x = some .local := by first | exact .inl rfl | exact .inr rfl | assumption) :
    PS X (.Assign [.Name x pos'] e pos) (tAsg te (gName i)) := by
  constructor; intro pins s σ H D I h
  refine wpAny_Assign_Name (thn (he pins s σ H _ I h) fun v s1 ⟨y, H1, I1, r1, q1⟩ => ?_) hs
  exact store_ok I1 hN hi hx r1 (fun s2 I2 => ⟨_, H1, I2, q1⟩) hf
end

section
variable {X : Cx} {pos : Pos}
end

structure It where
  go : Nat → Hp → Prop
  yld : Nat → Hp → V → Hp → Prop
  stop : Nat → Hp → Prop
noncomputable def FpOk (X : Cx) (pins : List (Addr × Obj)) (H : Hp) (b : Addr) : Prop :=
  H b = none ∧ b ≠ X.env.locals ∧ b ∉ X.fs ∧ (b ∈ X.ex ∨ X.s₀.heap.objs.size ≤ b) ∧ (∀ x c, X.env.cells.lookup x = some c → c ≠ b) ∧ ∀ p ∈ X.pn ++ pins, p.1 ≠ b
theorem Inv.fpOk {X : Cx} {pins : List (Addr × Obj)} {σ : St} {H H' : Hp} {s : Shared} {b : Addr} (I : Inv X pins σ H s) (hb : s.heap.objs.size ≤ b) (hn : H' b = none) : FpOk X pins H' b := by
  refine ⟨hn, Nat.ne_of_gt (Nat.lt_of_lt_of_le I.lt hb), I.nofs hb, .inr (Nat.le_trans I.sz hb), fun x c e z => ?_, fun p hp z => ?_⟩
  · obtain ⟨v, q⟩ := I.cell x c e
    exact absurd (Nat.lt_of_lt_of_le q.lt (by rw [z]; exact hb)) (Nat.lt_irrefl _)
  · exact absurd (Nat.lt_of_lt_of_le (Heap.lt_size (I.pin p hp).1) (by rw [z]; exact hb)) (Nat.lt_irrefl _)
structure Turn (P : Program) (w : World) (K : PySem.W.Frag) (tg : Expr) (J : It) (fp : List Addr) (it : Addr) (tn : Nat → Heap → Prop) : Prop where
  mem : it ∈ fp
  obj : ∀ i h, tn i h → ∀ b ∈ fp, ∃ o, h.get? b = some o ∧ ∀ v, o.data ≠ .cell v
  keep : ∀ i h h', tn i h → (∀ b ∈ fp, ∀ o, h.get? b = some o → h'.get? b = some o) → tn i h'
  item : ∀ (X : Cx), X.prog = P → X.w = w → X.K = K → X.calm = true → ∀ (i : Nat) (pins : List (Addr × Obj)) (s : Shared) (σ : St) (H : Hp) (E : Value → Shared → Prop), Inv X pins σ H s → (∀ b ∈ fp, FpOk X pins H b) → tn i s.heap → J.go i H →
    wpAny (model P w) X.A (pyNext (.ref it)) (fun r s1 => ∃ u, r = some u ∧
      wpAny (model P w) X.A (letOwnedTupleGo tg (.ref it) u) (fun _ s2 => ∃ x H', Inv X pins σ H' s2 ∧ RelV x u ∧ J.yld i H x H' ∧ tn (i + 1) s2.heap ∧ ∀ b ∈ fp, H' b = none) E s1) E s
  done : ∀ (X : Cx), X.prog = P → X.w = w → X.K = K → X.calm = true → ∀ (i : Nat) (pins : List (Addr × Obj)) (s : Shared) (σ : St) (H : Hp) (E : Value → Shared → Prop), Inv X pins σ H s → (∀ b ∈ fp, FpOk X pins H b) → tn i s.heap → J.stop i H →
    wpAny (model P w) X.A (pyNext (.ref it)) (fun r s1 => r = none ∧ Inv X pins σ H s1) E s
  self : ∀ (A : Around) (i : Nat) (s : Shared) (Q : Value → Shared → Prop) (E : Value → Shared → Prop), tn i s.heap → Q (.ref it) s → wpAny (model P w) A (pyIter (.ref it)) Q E s
noncomputable abbrev TI := St → Hp → (It → Hp → Prop) → Prop
noncomputable def PIE (X : Cx) (pins : List (Addr × Obj)) (σ : St) (tg : Expr) (R : It → Hp → Prop) (itv : Value) (s2 : Shared) : Prop :=
  ∃ (it : Addr) (fp : List Addr) (tn : Nat → Heap → Prop) (J : It) (H' : Hp), itv = .ref it ∧ Inv X pins σ H' s2 ∧ Turn X.prog X.w X.K tg J fp it tn ∧ tn 0 s2.heap ∧ (∀ b ∈ fp, FpOk X pins H' b) ∧ R J H'
structure PI (X : Cx) (tg iter : Expr) (wi : TI) : Prop where
  run : ∀ (pins : List (Addr × Obj)) (s : Shared) (σ : St) (H : Hp) (R : It → Hp → Prop), Inv X pins σ H s → wi σ H R →
    wpAny (model X.prog X.w) X.A (eval iter X.env) (fun v s1 => wpAny (model X.prog X.w) X.A (pyIter v) (PIE X pins σ tg R) X.xe s1) X.xe s
noncomputable instance {X : Cx} {tg iter : Expr} {wi : TI} : CoeFun (PI X tg iter wi) fun _ => ∀ (pins : List (Addr × Obj)) (s : Shared) (σ : St) (H : Hp) (R : It → Hp → Prop), Inv X pins σ H s → wi σ H R →
    wpAny (model X.prog X.w) X.A (eval iter X.env) (fun v s1 => wpAny (model X.prog X.w) X.A (pyIter v) (PIE X pins σ tg R) X.xe s1) X.xe s := ⟨PI.run⟩

theorem go_of {M : Model} {A : Around} {E : Value → Shared → Prop} {s : Shared} {tg : Expr} {it : Addr} {u : Value} {o : Obj} {n : String} {vs : Array Value} {Q : Unit → Shared → Prop} (ho : s.heap.get? it = some o) (hc : o.cls = .type n) (hd : o.data = .fields vs)
    (hn : ["enumerate", "zip", "dict_itemiterator", "dict_reverseitemiterator", "odict_iterator", "itertools.zip_longest", "itertools.pairwise"].contains n = false) (hQ : Q () s) : wpAny M A (letOwnedTupleGo tg (.ref it) u) Q E s := by
  unfold letOwnedTupleGo
  cases tg <;> first
    | exact wpAny_pure hQ
    | (cases u <;> first
        | exact wpAny_pure hQ
        | (refine wpAny_bind (wpAny_load ho ?_)
           rw [hc, hd]
           show wpAny M A (if (["enumerate", "zip", "dict_itemiterator", "dict_reverseitemiterator", "odict_iterator", "itertools.zip_longest", "itertools.pairwise"].contains n && vs[0]? == some (rawInt _)) = true then _ else _) Q E s
           rw [if_neg (by intro h; rw [hn, Bool.false_and] at h; cases h)]
           exact wpAny_pure hQ))

noncomputable def Itl (K : PySem.W.Frag) (a : Addr) : It :=
  ⟨fun i H => ∃ xs x, SqL K H a xs ∧ xs[i]? = some x, fun i H x H' => H' = H ∧ ∀ xs, SqL K H a xs → xs[i]? = some x, fun i H => ∃ xs, SqL K H a xs ∧ xs.length ≤ i⟩
noncomputable def Itt (K : PySem.W.Frag) (a : Addr) : It :=
  ⟨fun i H => ∃ xs x, SqT K H a xs ∧ xs[i]? = some x, fun i H x H' => H' = H ∧ ∀ xs, SqT K H a xs → xs[i]? = some x, fun i H => ∃ xs, SqT K H a xs ∧ xs.length ≤ i⟩
noncomputable def Itr (lo : Int) (n : Nat) : It := ⟨fun i _ => i < n, fun i H x H' => H' = H ∧ x = .int (lo + i), fun i _ => n ≤ i⟩
theorem turn_list {P : Program} {w : World} {K : PySem.W.Frag} {tg : Expr} (a it : Addr) : Turn P w K tg (Itl K a) [it] it (fun i h => h.IsListIter it a i) where
  mem := by simp
  obj := fun i h st b hb => by
    have e : b = it := by simpa using hb
    subst e
    obtain ⟨o, e, c, d⟩ := st
    exact ⟨o, e, fun v z => by rw [d] at z; cases z⟩
  keep := fun i h h' st k => st.at fun o e => k it (by simp) o e
  item := by
    intro X hP hw hK hc i pins s σ H E I hf st hg
    subst hP hw hK
    obtain ⟨xs, x, hq, hx⟩ := hg
    obtain ⟨its, rv, p, hz⟩ := I.list hq
    obtain ⟨u, hu, ru⟩ := rv.get hx
    obtain ⟨f0, f1, f2, f3, f4, f5⟩ := hf it (by simp)
    refine wpAny_pyNext_list_item st p.isList (x := u) (by simpa using hu) fun h' st' sb => ?_
    have I1 : Inv X pins σ H { s with heap := h' } := I.turned (t' := s.toks) (fun b o hb e => (sb.2 b hb).trans e) f0 f1 f3 f4 f5
    obtain ⟨o, e, c, d⟩ := id st'
    exact ⟨u, rfl, go_of (s := { s with heap := h' }) e c d (by decide) ⟨x, H, I1, ru, ⟨rfl, fun ys hy => by rw [I.list_inj hy hq]; exact hx⟩, st', fun b hb => (hf b hb).1⟩⟩
  done := by
    intro X hP hw hK hc i pins s σ H E I hf st hg
    subst hP hw hK
    obtain ⟨xs, hq, hx⟩ := hg
    obtain ⟨its, rv, p, hz⟩ := I.list hq
    obtain ⟨f0, f1, f2, f3, f4, f5⟩ := hf it (by simp)
    have hl := rv.length
    exact wpAny_pyNext_list_end (I.ok.hd hc) st p.isList (by simp; omega) fun h' eb => ⟨rfl, I.turned (t' := s.toks) (fun b o hb e => eb b o hb e) f0 f1 f3 f4 f5⟩
  self := fun _ _ _ _ _ st h => wpAny_pyIter_listiter st h
theorem turn_range {P : Program} {w : World} {K : PySem.W.Frag} {tg : Expr} (it : Addr) (lo : Int) (n : Nat) : Turn P w K tg (Itr lo n) [it] it (fun i h => IsRangeIter h it (lo + (i : Nat) * 1) ((n : Int) - (i : Nat)) 1) where
  mem := by simp
  obj := fun i h st b hb => by
    have e : b = it := by simpa using hb
    subst e
    exact ⟨_, st, fun v z => by
      have z' : Data.fields _ = Data.cell v := z
      cases z'⟩
  keep := fun i h h' st k => k it (by simp) _ st
  item := by
    intro X hP hw hK hc i pins s σ H E I hf st hg
    subst hP hw hK
    obtain ⟨f0, f1, f2, f3, f4, f5⟩ := hf it (by simp)
    have W := Walks.range (prog := X.prog) (w := X.w) (I.ok.hd hc) it lo 1 n
    refine W.item i s _ _ hg st fun v h' tk hv st' kk => ?_
    obtain ⟨t, rfl⟩ := hv
    have I1 : Inv X pins σ H { s with heap := h', toks := tk } := I.turned (fun b o hb e => kk b o (by simpa using hb) e) f0 f1 f3 f4 f5
    refine ⟨_, rfl, go_of (s := { s with heap := h', toks := tk }) (n := "range_iterator") st' rfl rfl (by decide) ⟨.int (lo + i), H, I1, ⟨t, ?_⟩, ⟨rfl, rfl⟩, st', fun b hb => (hf b hb).1⟩⟩
    rw [Int.mul_one]
  done := by
    intro X hP hw hK hc i pins s σ H E I hf st hg
    subst hP hw hK
    obtain ⟨f0, f1, f2, f3, f4, f5⟩ := hf it (by simp)
    exact wpAny_pyNext_range_end (I.ok.hd hc) st (by have : n ≤ i := hg; omega) fun h' eb => ⟨rfl, I.turned (t' := s.toks) (fun b o hb e => eb b o hb e) f0 f1 f3 f4 f5⟩
  self := fun _ _ _ _ _ st h => wpAny_pyIter_rangeiter st h
end L2

namespace L2
open PySem PySem.Spec PyProof.Rows
section
variable {X : Cx} {tg : Expr}
noncomputable def iList (K : PySem.W.Frag) (tl : TE) : TI := fun σ H R => tl σ H fun x H1 => ∃ a, x = .ref a ∧ (∃ xs, SqL K H1 a xs) ∧ R (Itl K a) H1
theorem pi_list {l : Expr} {tl : TE} (hl : PE X l tl) : PI X tg l (iList X.K tl) := by
  constructor; intro pins s σ H R I h
  refine thn (hl pins s σ H _ I h) fun v s1 ⟨x, H1, I1, r1, q1⟩ => ?_
  obtain ⟨a, e, ⟨xs, hq⟩, q⟩ := q1
  subst e
  cases r1
  obtain ⟨its, rv, p, hz⟩ := I1.list hq
  refine wpAny_pyIter_list p.isList ?_
  refine ⟨s1.heap.objs.size, [s1.heap.objs.size], _, _, H1, rfl, I1.kept (t' := s1.toks) fun b o e => Heap.get?_push_of_some _ e, turn_list a _, ⟨_, Heap.get?_push_size _ rfl, rfl, rfl⟩, fun b hb => ?_, q⟩
  have e : b = s1.heap.objs.size := by simpa using hb
  subst e
  exact I1.fpOk (Nat.le_refl _) (I1.hok.fresh (Nat.le_refl _))
theorem range_it {pins : List (Addr × Obj)} {σ : St} {H : Hp} {s : Shared} {R : It → Hp → Prop} {E : Value → Shared → Prop} {lo hi : Int} {t u v : Tok} {tk : Nat} (I : Inv X pins σ H s) (h1 : -(2 ^ 62) ≤ lo) (h2 : lo < 2 ^ 62) (h3 : -(2 ^ 62) ≤ hi) (h4 : hi < 2 ^ 62)
    (q : R (Itr lo (hi - lo).toNat) H) : wpAny (model X.prog X.w) X.A (pyIter (.ref s.heap.objs.size)) (PIE X pins σ tg R) E { s with heap := s.heap.push { cls := .type "range", data := .fields #[.int lo t, .int hi u, .int 1 v] }, toks := tk } := by
  refine wpAny_pyIter_range (IsRange.new ..) (small_one h1 h2 h3 h4) ?_
  have I1 : Inv X pins σ H { s with heap := s.heap.push { cls := .type "range", data := .fields #[.int lo t, .int hi u, .int 1 v] }, toks := tk } := I.kept fun b o e => Heap.get?_push_of_some _ e
  refine ⟨(s.heap.push { cls := .type "range", data := .fields #[.int lo t, .int hi u, .int 1 v] }).objs.size, [(s.heap.push { cls := .type "range", data := .fields #[.int lo t, .int hi u, .int 1 v] }).objs.size], _, _, H, rfl,
    I1.kept (t' := tk) fun b o e => Heap.get?_push_of_some _ e, turn_range _ lo (hi - lo).toNat, ?_, fun b hb => ?_, q⟩
  · have e1 : lo + ((0 : Nat) : Int) * 1 = lo := by simp
    have e2 : (((hi - lo).toNat : Nat) : Int) - ((0 : Nat) : Int) = Builtin.Range.rangeSize lo hi 1 := by rw [rangeSize_one]; split <;> omega
    show IsRangeIter _ _ (lo + ((0 : Nat) : Int) * 1) ((((hi - lo).toNat : Nat) : Int) - ((0 : Nat) : Int)) 1
    rw [e1, e2]
    exact Heap.get?_push_size _ rfl
  · have e : b = (s.heap.push { cls := .type "range", data := .fields #[.int lo t, .int hi u, .int 1 v] }).objs.size := by simpa using hb
    subst e
    exact I1.fpOk (Nat.le_refl _) (I1.hok.fresh (Nat.le_refl _))
noncomputable def iRng1 (ta : TA) : TI := fun σ H R => ta σ H fun vs H1 => ∃ j : Int, vs = [.int j] ∧ -(2 ^ 62) ≤ j ∧ j < 2 ^ 62 ∧ R (Itr 0 j.toNat) H1
noncomputable def iRng2 (ta : TA) : TI := fun σ H R => ta σ H fun vs H1 => ∃ i j : Int, vs = [.int i, .int j] ∧ (-(2 ^ 62) ≤ i ∧ i < 2 ^ 62 ∧ -(2 ^ 62) ≤ j ∧ j < 2 ^ 62) ∧ R (Itr i (j - i).toNat) H1
theorem pi_range1 {a : Expr} {ta : TA} {p pos : Pos} (hg : Gl X "range") (hm : X.mg "range" = none) (ha : PA X [a] ta) (hs : starEach [a] X.env = [(false, eval a X.env)] := by rfl) : PI X tg (.Call (.Name "range" p) [a] [] pos) (iRng1 ta) := by
  constructor; intro pins s σ H R I h
  refine Call_ (ld_blt I hg hm boot_range (PyProof.Rows.callWith_type1 (thn (ha pos pins s σ H _ I h) fun us s1 ⟨vs, H1, I1, r1, q1⟩ => ?_) hs rfl))
  obtain ⟨j, e, q1, q2, q⟩ := q1
  subst e
  cases r1 with
  | cons r rr =>
    cases rr
    obtain ⟨t, rfl⟩ := r
    exact call_range_1 (range_it I1 (by omega) (by omega) q1 q2 (by simpa using q))
theorem pi_range2 {a b : Expr} {ta : TA} {p pos : Pos} (hg : Gl X "range") (hm : X.mg "range" = none) (ha : PA X [a, b] ta) (hs : starEach [a, b] X.env = [(false, eval a X.env), (false, eval b X.env)] := by rfl) (hs2 : starEach [b] X.env = [(false, eval b X.env)] := by rfl) :
    PI X tg (.Call (.Name "range" p) [a, b] [] pos) (iRng2 ta) := by
  constructor; intro pins s σ H R I h
  refine Call_ (ld_blt I hg hm boot_range (PyProof.Rows.callWith_type1 (thn (ha pos pins s σ H _ I h) fun us s1 ⟨vs, H1, I1, r1, q1⟩ => ?_) (by rw [hs, hs2]) (by rw [hs2]; rfl)))
  obtain ⟨i, j, e, ⟨q1, q2, q3, q4⟩, q⟩ := q1
  subst e
  cases r1 with
  | cons r rr =>
    cases rr with
    | cons r' rr =>
      cases rr
      obtain ⟨t, rfl⟩ := r
      obtain ⟨t', rfl⟩ := r'
      exact call_range_2 (range_it I1 q1 q2 q3 q4 q)

noncomputable def tFor (wi : TI) (g : TG) (tb : TS) : TS := fun D σ H => wi σ H fun J H1 => ∃ W : Nat → Nat → St → Hp → Prop, (∃ m, W 0 m σ H1) ∧ ∀ i m σ H, W i m σ H →
  (J.stop i H ∧ D.nx σ H) ∨ (J.go i H ∧ ∃ N : St → Hp → Prop, (∀ σ' H', N σ' H' → ∃ m', m' < m ∧ W (i + 1) m' σ' H') ∧ ∀ x H', J.yld i H x H' → g x σ H' fun σ2 H2 => tb { D with nx := N, ct := N, bk := D.nx } σ2 H2)
noncomputable def pinsAt (fp : List Addr) (h : Heap) : List (Addr × Obj) := fp.filterMap fun b => (h.get? b).map fun o => (b, o)
theorem mem_pinsAt {fp : List Addr} {h : Heap} {b : Addr} {o : Obj} (hb : b ∈ fp) (e : h.get? b = some o) : (b, o) ∈ pinsAt fp h := List.mem_filterMap.mpr ⟨b, hb, by rw [e]; rfl⟩
theorem of_pinsAt {fp : List Addr} {h : Heap} {p : Addr × Obj} (hp : p ∈ pinsAt fp h) : p.1 ∈ fp ∧ h.get? p.1 = some p.2 := by
  obtain ⟨b, hb, e⟩ := List.mem_filterMap.mp hp
  cases q : h.get? b with
  | none => rw [q] at e; cases e
  | some o =>
    rw [q] at e
    have e' : (b, o) = p := Option.some.inj e
    subst e'
    exact ⟨hb, q⟩
theorem Inv.pinned {pins : List (Addr × Obj)} {σ : St} {H : Hp} {s : Shared} {fp : List Addr} (I : Inv X pins σ H s) (hf : ∀ b ∈ fp, FpOk X pins H b) (ho : ∀ b ∈ fp, ∃ o, s.heap.get? b = some o ∧ ∀ v, o.data ≠ .cell v) : Inv X (pins ++ pinsAt fp s.heap) σ H s :=
  I.pins_of fun p hp => (List.mem_append.mp hp).elim (fun z => I.pin p (List.mem_append_right _ z)) fun z => by
    obtain ⟨hb, e⟩ := of_pinsAt z
    obtain ⟨f0, f1, f2, _⟩ := hf p.1 hb
    obtain ⟨o, e', d⟩ := ho p.1 hb
    rw [e] at e'; cases e'
    exact ⟨e, f0, f1, f2, d⟩
theorem Inv.unpinned {pins pl : List (Addr × Obj)} {σ : St} {H : Hp} {s : Shared} (I : Inv X (pins ++ pl) σ H s) : Inv X pins σ H s := I.pins_of fun p hp => I.pin p (List.mem_append_right _ (List.mem_append_left _ hp))
theorem ps_for {iter : Expr} {body : List Stmt} {wi : TI} {g : TG} {tb : TS} {pos : Pos} (hp : PassesOwn (model X.prog X.w) X.A X.env X.xe) (hc : X.calm = true) (hi : PI X tg iter wi) (hg : PG X tg g) (hb : PSs X body tb)
    (hs : ∀ x, foldedSetIterable iter X.env x = pure x := by intro _; rfl) : PS X (.For tg iter body [] pos) (tFor wi g tb) := by
  constructor; intro pins s σ H D I h
  refine wpAny_For (thn (hi pins s σ H _ I h) fun v s1 h1 => thn h1 fun itv s2 h2 => ?_) hs
  obtain ⟨it, fp, tn, J, H2, e, I2, T, st2, f2, W, ⟨m0, w0⟩, turn⟩ := h2
  subst e
  -- what stays true of the iterator's objects through the loop
  have stat : ∀ {H' : Hp}, (∀ b ∈ fp, H' b = none) → ∀ b ∈ fp, FpOk X pins H' b := fun hn b hb => ⟨hn b hb, (f2 b hb).2⟩
  refine codeAny_forLoop_any (fun n s' => ∃ i σ' H', Inv X pins σ' H' s' ∧ tn i s'.heap ∧ (∀ b ∈ fp, H' b = none) ∧ W i n σ' H') ?_ m0 ⟨0, σ, H2, I2, st2, fun b hb => (f2 b hb).1, w0⟩
  rintro n s3 ⟨i, σ3, H3, I3, st3, fr3, w3⟩
  rcases turn i n σ3 H3 w3 with ⟨stop, qn⟩ | ⟨go, N, hN, step⟩
  · refine wpAny_passesOwn hp (thn (T.done X rfl rfl rfl hc i pins s3 σ3 H3 X.xe I3 (stat fr3) st3 stop) fun r s4 ⟨hr, I4⟩ => ?_)
    subst hr
    exact wpAny_execs_nil ⟨σ3, H3, I4, qn⟩
  · refine wpAny_passesOwn hp (thn (T.item X rfl rfl rfl hc i pins s3 σ3 H3 X.xe I3 (stat fr3) st3 go) fun r s4 ⟨u, hr, h4⟩ => ?_)
    subst hr
    refine wpAny_passesOwn hp (thn h4 fun _ s5 ⟨x, H5, I5, r5, y5, st5, fr5⟩ => ?_)
    have I5' := I5.pinned (stat fr5) (T.obj _ _ st5)
    refine wpAny_passesOwn hp (thn (hg _ s5 σ3 H5 x u _ I5' r5 (step x H5 y5)) fun _ s6 ⟨σ6, H6, I6, q6⟩ => ?_)
    refine wpAny_passesOwn hp (thn (hb _ s6 σ6 H6 _ I6 q6) fun f s7 q7 => ?_)
    have again : ∀ {σ7 : St} {H7 : Hp}, Inv X (pins ++ pinsAt fp s5.heap) σ7 H7 s7 → N σ7 H7 → ∃ m, m < n ∧ ∃ i σ' H', Inv X pins σ' H' s7 ∧ tn i s7.heap ∧ (∀ b ∈ fp, H' b = none) ∧ W i m σ' H' := fun {σ7 H7} I7 n7 => by
      obtain ⟨m', hm, w7⟩ := hN σ7 H7 n7
      refine ⟨m', hm, i + 1, σ7, H7, I7.unpinned, T.keep _ _ _ st5 fun b hb o e => (I7.pin (b, o) (List.mem_append_right _ (List.mem_append_right _ (mem_pinsAt hb e)))).1, fun b hb => ?_, w7⟩
      obtain ⟨o, e, d⟩ := T.obj _ _ st5 b hb
      exact (I7.pin (b, o) (List.mem_append_right _ (List.mem_append_right _ (mem_pinsAt hb e)))).2.1
    cases f with
    | next => obtain ⟨σ7, H7, I7, n7⟩ := q7; exact again I7 n7
    | cont => obtain ⟨σ7, H7, I7, n7⟩ := q7; exact again I7 n7
    | brk => obtain ⟨σ7, H7, I7, q7⟩ := q7; exact ⟨σ7, H7, I7.unpinned, q7⟩
    | ret v => obtain ⟨x7, σ7, H7, I7, r7, q7⟩ := q7; exact ⟨x7, σ7, H7, I7.unpinned, r7, q7⟩
end

theorem for_list {K : PySem.W.Frag} {a : Addr} {xs : List V} {g : TG} {tb : TS} {D : Ends} {σ : St} {H : Hp} (Pv : Nat → St → Hp → Prop) (h0 : Pv 0 σ H) (hl : ∀ i σ H, i ≤ xs.length → Pv i σ H → SqL K H a xs)
    (hs : ∀ i x σ H, xs[i]? = some x → Pv i σ H → g x σ H fun σ2 H2 => tb { D with nx := Pv (i + 1), ct := Pv (i + 1), bk := D.nx } σ2 H2) (hd : ∀ σ H, Pv xs.length σ H → D.nx σ H) :
    ∃ W : Nat → Nat → St → Hp → Prop, (∃ m, W 0 m σ H) ∧ ∀ i m σ H, W i m σ H →
      ((Itl K a).stop i H ∧ D.nx σ H) ∨ ((Itl K a).go i H ∧ ∃ N : St → Hp → Prop, (∀ σ' H', N σ' H' → ∃ m', m' < m ∧ W (i + 1) m' σ' H') ∧ ∀ x H', (Itl K a).yld i H x H' → g x σ H' fun σ2 H2 => tb { D with nx := N, ct := N, bk := D.nx } σ2 H2) := by
  refine ⟨fun i m σ H => m = xs.length - i ∧ i ≤ xs.length ∧ Pv i σ H, ⟨xs.length, by simp, Nat.zero_le _, h0⟩, ?_⟩
  rintro i m σ H ⟨rfl, hi, p⟩
  have q := hl i σ H hi p
  by_cases hlt : i < xs.length
  · refine .inr ⟨⟨xs, xs[i], q, by simp [hlt]⟩, Pv (i + 1), fun σ' H' p' => ⟨xs.length - (i + 1), by omega, rfl, hlt, p'⟩, fun x H' y => ?_⟩
    obtain ⟨e, y⟩ := y
    subst e
    exact hs i x σ _ (y xs q) p
  · have e : i = xs.length := by omega
    subst e
    exact .inl ⟨⟨xs, q, Nat.le_refl _⟩, hd σ H p⟩
theorem for_range {lo : Int} {n : Nat} {g : TG} {tb : TS} {D : Ends} {σ : St} {H : Hp} (Pv : Nat → St → Hp → Prop) (h0 : Pv 0 σ H)
    (hs : ∀ i σ H, i < n → Pv i σ H → g (.int (lo + i)) σ H fun σ2 H2 => tb { D with nx := Pv (i + 1), ct := Pv (i + 1), bk := D.nx } σ2 H2) (hd : ∀ σ H, Pv n σ H → D.nx σ H) :
    ∃ W : Nat → Nat → St → Hp → Prop, (∃ m, W 0 m σ H) ∧ ∀ i m σ H, W i m σ H →
      ((Itr lo n).stop i H ∧ D.nx σ H) ∨ ((Itr lo n).go i H ∧ ∃ N : St → Hp → Prop, (∀ σ' H', N σ' H' → ∃ m', m' < m ∧ W (i + 1) m' σ' H') ∧ ∀ x H', (Itr lo n).yld i H x H' → g x σ H' fun σ2 H2 => tb { D with nx := N, ct := N, bk := D.nx } σ2 H2) := by
  refine ⟨fun i m σ H => m = n - i ∧ i ≤ n ∧ Pv i σ H, ⟨n, by simp, Nat.zero_le _, h0⟩, ?_⟩
  rintro i m σ H ⟨rfl, hi, p⟩
  by_cases hlt : i < n
  · refine .inr ⟨hlt, Pv (i + 1), fun σ' H' p' => ⟨n - (i + 1), by omega, rfl, hlt, p'⟩, fun x H' y => ?_⟩
    obtain ⟨e, y⟩ := y
    subst e y
    exact hs i σ _ hlt p
  · have e : i = n := by omega
    subst e
    exact .inl ⟨Nat.le_refl _, hd σ H p⟩
end L2

namespace L2
open PySem PySem.Spec PyProof.Rows

noncomputable abbrev R2 := V → V → Hp → VK → Prop
noncomputable def OpR (X : Cx) (f : Value → Value → Sem Value) (r : R2) : Prop :=
  ∀ (pins : List (Addr × Obj)) (s : Shared) (σ : St) (H : Hp) (x y : V) (v u : Value) (Q : VK), Inv X pins σ H s → RelV x v → RelV y u → r x y H Q →
    wpAny (model X.prog X.w) X.A (f v u) (EP X pins σ Q) X.xe s
noncomputable def UnR (X : Cx) (f : Value → Sem Value) (r : V → Hp → VK → Prop) : Prop :=
  ∀ (pins : List (Addr × Obj)) (s : Shared) (σ : St) (H : Hp) (x : V) (v : Value) (Q : VK), Inv X pins σ H s → RelV x v → r x H Q →
    wpAny (model X.prog X.w) X.A (f v) (EP X pins σ Q) X.xe s
noncomputable def CallR (X : Cx) (f : Value) (r : List V → Hp → VK → Prop) : Prop :=
  ∀ (pins : List (Addr × Obj)) (s : Shared) (σ : St) (H : Hp) (xs : List V) (us : List Value) (Q : VK), Inv X pins σ H s → Vals xs us → r xs H Q →
    wpAny (model X.prog X.w) X.A (call f us) (EP X pins σ Q) X.xe s
noncomputable def tOp (r : R2) (ta tb : TE) : TE := fun σ H Q => ta σ H fun x H1 => tb σ H1 fun y H2 => r x y H2 Q
noncomputable def tUn (r : V → Hp → VK → Prop) (ta : TE) : TE := fun σ H Q => ta σ H fun x H1 => r x H1 Q
noncomputable def rI (C : Int → Int → Prop) (g : Int → Int → V) : R2 := fun x y H Q => ∃ i j, x = .int i ∧ y = .int j ∧ C i j ∧ Q (g i j) H
noncomputable def rI0 (g : Int → Int → V) : R2 := fun x y H Q => ∃ i j, x = .int i ∧ y = .int j ∧ Q (g i j) H
noncomputable def rU (g : Int → V) : V → Hp → VK → Prop := fun x H Q => ∃ i, x = .int i ∧ Q (g i) H

section
variable {X : Cx} {a b c : Expr} {ta tb tc : TE} {pos : Pos}

theorem binT (ha : PE X a ta) (hb : PE X b tb) {pins : List (Addr × Obj)} {s : Shared} {σ : St} {H : Hp} {R : V → V → Hp → Prop} (I : Inv X pins σ H s)
    (h : ta σ H fun x H1 => tb σ H1 fun y H2 => R x y H2) {Q : Value → Shared → Prop} {f : Value → Value → Sem Value}
    (hf : ∀ v u s2 x y H2, Inv X pins σ H2 s2 → RelV x v → RelV y u → R x y H2 → wpAny (model X.prog X.w) X.A (f v u) Q X.xe s2) :
    wpAny (model X.prog X.w) X.A (eval a X.env) (fun v s₁ => wpAny (model X.prog X.w) X.A (eval b X.env) (fun u s₂ => wpAny (model X.prog X.w) X.A (f v u) Q X.xe s₂) X.xe s₁) X.xe s := by
  refine thn (ha pins s σ H _ I h) fun v s1 ⟨x, H1, I1, r1, q1⟩ => ?_
  refine thn (hb pins s1 σ H1 _ I1 q1) fun u s2 ⟨y, H2, I2, r2, q2⟩ => ?_
  exact hf v u s2 x y H2 I2 r1 r2 q2

theorem pe_op {op : Operator} {r : R2} (ho : OpR X (binaryOp op) r) (ha : PE X a ta) (hb : PE X b tb) : PE X (.BinOp a op b pos) (tOp r ta tb) := by
  constructor; intro pins s σ H Q I h
  exact wpAny_BinOp (binT ha hb I h fun v u s2 x y H2 I2 rx ry q => ho pins s2 σ H2 x y v u Q I2 rx ry q)
theorem pe_un {op : UnaryOp} {r : V → Hp → VK → Prop} (ho : UnR X (unaryOp op) r) (ha : PE X a ta) : PE X (.UnaryOp op a pos) (tUn r ta) := by
  constructor; intro pins s σ H Q I h
  exact UnaryOp_ (thn (ha pins s σ H _ I h) fun v s1 ⟨x, H1, I1, r1, q1⟩ => ho pins s1 σ H1 x v Q I1 r1 q1)
theorem opI {f : Value → Value → Sem Value} {C : Int → Int → Prop} {g : Int → Int → Int}
    (rule : ∀ (i j : Int) (t u : Tok) (s : Shared) (Q : Value → Shared → Prop) (E : Value → Shared → Prop), C i j → Q (.int (g i j) s.toks) { s with toks := s.toks + 1 } → wpAny (model X.prog X.w) X.A (f (.int i t) (.int j u)) Q E s) :
    OpR X f (rI C fun i j => .int (g i j)) := by
  intro pins s σ H x y v u Q I rx ry h
  obtain ⟨i, j, rfl, rfl, hc, q⟩ := h
  obtain ⟨t, rfl⟩ := rx
  obtain ⟨t', rfl⟩ := ry
  exact rule i j t t' s _ _ hc ⟨.int (g i j), H, I.tok _, ⟨_, rfl⟩, q⟩
theorem opI0 {f : Value → Value → Sem Value} {g : Int → Int → Int}
    (rule : ∀ (i j : Int) (t u : Tok) (s : Shared) (Q : Value → Shared → Prop) (E : Value → Shared → Prop), Q (.int (g i j) s.toks) { s with toks := s.toks + 1 } → wpAny (model X.prog X.w) X.A (f (.int i t) (.int j u)) Q E s) :
    OpR X f (rI0 fun i j => .int (g i j)) := by
  intro pins s σ H x y v u Q I rx ry h
  obtain ⟨i, j, rfl, rfl, q⟩ := h
  obtain ⟨t, rfl⟩ := rx
  obtain ⟨t', rfl⟩ := ry
  exact rule i j t t' s _ _ ⟨.int (g i j), H, I.tok _, ⟨_, rfl⟩, q⟩
theorem opB0 {f : Value → Value → Sem Value} {g : Int → Int → Bool}
    (rule : ∀ (i j : Int) (t u : Tok) (s : Shared) (Q : Value → Shared → Prop) (E : Value → Shared → Prop), Q (.bool (g i j)) s → wpAny (model X.prog X.w) X.A (f (.int i t) (.int j u)) Q E s) :
    OpR X f (rI0 fun i j => .bl (g i j)) := by
  intro pins s σ H x y v u Q I rx ry h
  obtain ⟨i, j, rfl, rfl, q⟩ := h
  obtain ⟨t, rfl⟩ := rx
  obtain ⟨t', rfl⟩ := ry
  exact rule i j t t' s _ _ ⟨.bl (g i j), H, I, rfl, q⟩

noncomputable def CDiv (i j : Int) : Prop := 0 < j ∧ j < 1073741824
noncomputable def CPow (i j : Int) : Prop := 0 ≤ j ∧ j ≤ 1000000 ∧ i.natAbs < 2 ^ 64
noncomputable def CMul (i j : Int) : Prop := (-(2 ^ 64) < i ∧ i < 2 ^ 64) ∨ (-(2 ^ 64) < j ∧ j < 2 ^ 64)
theorem CMul.ok {i j : Int} (h : CMul i j) : IntMulOk i j := by
  rcases h with ⟨h1, h2⟩ | ⟨h1, h2⟩
  · exact .of_left (intBits_le_64 h1 h2)
  · exact .of_right (intBits_le_64 h1 h2)
theorem two_pow_nn (k : Nat) : (0 : Int) ≤ 2 ^ k := by
  rw [two_pow_cast]
  exact Int.natCast_nonneg _

theorem op_add : OpR X (binaryOp .Add) (rI0 fun i j => .int (i + j)) := opI0 fun _ _ _ _ _ _ _ q => add_int q
theorem op_sub : OpR X (binaryOp .Sub) (rI0 fun i j => .int (i - j)) := opI0 fun _ _ _ _ _ _ _ q => sub_int q
theorem op_mul : OpR X (binaryOp .Mult) (rI CMul fun i j => .int (i * j)) := opI fun _ _ _ _ _ _ _ hc q => mul_int q hc.ok
theorem op_fdiv : OpR X (binaryOp .FloorDiv) (rI CDiv fun i j => .int (i / j)) := opI fun i j _ _ _ _ _ hc q => by
  have h1 : (0 : Int) < j := hc.1
  have h2 : j < 1073741824 := hc.2
  exact floordiv_int (by omega) (by rw [Int.fdiv_eq_ediv_of_nonneg i (by omega)]; exact q) (.inl (PyProof.noPylong_small (by omega)))
theorem op_mod : OpR X (binaryOp .Mod) (rI (fun _ j => 0 < j) fun i j => .int (i % j)) := opI fun i j _ _ _ _ _ hc q => by
  have h1 : (0 : Int) < j := hc
  exact mod_int' (by omega) (by rw [Int.fmod_eq_emod_of_nonneg i (by omega)]; exact q)
theorem op_pow : OpR X (binaryOp .Pow) (rI CPow fun i j => .int (i ^ j.toNat)) := opI fun _ _ _ _ _ _ _ hc q => pow_int_small hc.1 hc.2.1 hc.2.2 q
theorem op_shr : OpR X (binaryOp .RShift) (rI (fun _ j => 0 ≤ j) fun i j => .int (i / 2 ^ j.toNat)) := opI fun i j _ _ _ _ _ hc q =>
  rshift_int hc (by rw [Int.fdiv_eq_ediv_of_nonneg i (two_pow_nn _)]; exact q)
theorem op_and : OpR X (binaryOp .BitAnd) (rI0 fun i j => .int (Builtin.bitAnd i j)) := opI0 fun _ _ _ _ _ _ _ q => and_int q
theorem unI {f : Value → Sem Value} {g : Int → Int}
    (rule : ∀ (i : Int) (t : Tok) (s : Shared) (Q : Value → Shared → Prop) (E : Value → Shared → Prop), Q (.int (g i) s.toks) { s with toks := s.toks + 1 } → wpAny (model X.prog X.w) X.A (f (.int i t)) Q E s) :
    UnR X f (rU fun i => .int (g i)) := by
  intro pins s σ H x v Q I rx h
  obtain ⟨i, rfl, q⟩ := h
  obtain ⟨t, rfl⟩ := rx
  exact rule i t s _ _ ⟨.int (g i), H, I.tok _, ⟨_, rfl⟩, q⟩
theorem un_neg : UnR X (unaryOp .USub) (rU fun i => .int (-i)) := unI fun _ _ _ _ _ q => neg_int q
end

noncomputable def scal : V → V → Bool
  | .non, .non => true | .non, .int _ => true | .int _, .non => true | .non, .bl _ => true | .bl _, .non => true | .non, .str _ => true | .str _, .non => true
  | .int _, .int _ => true | .bl _, .bl _ => true | .str _, .str _ => true | .byt _, .byt _ => true
  | .int _, .str _ => true | .str _, .int _ => true | .bl _, .str _ => true | .str _, .bl _ => true
  | _, _ => false
noncomputable def rEq : R2 := fun x y H Q => scal x y = true ∧ Q (.bl (decide (x = y))) H
noncomputable def rNe : R2 := fun x y H Q => scal x y = true ∧ Q (.bl (!decide (x = y))) H

theorem dec_int {i j : Int} : decide (V.int i = V.int j) = (i == j) := by
  rw [Bool.eq_iff_iff]
  simp
theorem dec_bl {i j : Bool} : decide (V.bl i = V.bl j) = (i == j) := by
  rw [Bool.eq_iff_iff]
  simp
theorem dec_str {i j : Str} : decide (V.str i = V.str j) = (i == j) := by
  rw [Bool.eq_iff_iff]
  simp
theorem dec_byt {i j : Array UInt8} : decide (V.byt i = V.byt j) = (i.toList == j.toList) := by
  rw [Bool.eq_iff_iff]
  cases i
  cases j
  simp

section
variable {X : Cx} {a b c : Expr} {ta tb tc : TE} {pos : Pos}
theorem fin_bl {pins : List (Addr × Obj)} {σ : St} {H : Hp} {s : Shared} {Q : VK} {k k' : Bool} (I : Inv X pins σ H s) (q : Q (.bl k) H) (e : k = k') : EP X pins σ Q (.bool k') s := by
  subst e
  exact ⟨.bl k, H, I, rfl, q⟩
theorem op_eq : OpR X (compareOp .Eq) rEq := by
  intro pins s σ H x y v u Q I rx ry h
  obtain ⟨hs, q⟩ := h
  cases x with
  | non =>
    cases rx
    cases y with
    | non => cases ry; exact PySem.EqNone.eq_none_none (fin_bl I q (by simp))
    | bl j => cases ry; exact PySem.EqNone.eq_none_bool (fin_bl I q (by simp))
    | int j => obtain ⟨t', rfl⟩ := ry; exact PySem.EqNone.eq_none_int (fin_bl I q (by simp))
    | str j => obtain ⟨t', rfl⟩ := ry; exact PySem.EqNone.eq_none_str (fin_bl I q (by simp))
    | _ => exact absurd (show false = true from hs) Bool.false_ne_true
  | bl i =>
    cases rx
    cases y with
    | non => cases ry; exact PySem.EqNone.eq_bool_none (fin_bl I q (by simp))
    | bl j => cases ry; exact eq_bool (fin_bl I q dec_bl)
    | str j => obtain ⟨t', rfl⟩ := ry; exact PySem.EqMixed.eq_bool_str (fin_bl I q (by simp))
    | _ => exact absurd (show false = true from hs) Bool.false_ne_true
  | int i =>
    obtain ⟨t, rfl⟩ := rx
    cases y with
    | non => cases ry; exact PySem.EqNone.eq_int_none (fin_bl I q (by simp))
    | int j => obtain ⟨t', rfl⟩ := ry; exact eq_int (fin_bl I q dec_int)
    | str j => obtain ⟨t', rfl⟩ := ry; exact PySem.EqMixed.eq_int_str (fin_bl I q (by simp))
    | _ => exact absurd (show false = true from hs) Bool.false_ne_true
  | str i =>
    obtain ⟨t, rfl⟩ := rx
    cases y with
    | non => cases ry; exact PySem.EqNone.eq_str_none (fin_bl I q (by simp))
    | bl j => cases ry; exact PySem.EqMixed.eq_str_bool (fin_bl I q (by simp))
    | int j => obtain ⟨t', rfl⟩ := ry; exact PySem.EqMixed.eq_str_int (fin_bl I q (by simp))
    | str j => obtain ⟨t', rfl⟩ := ry; exact eq_str (fin_bl I q dec_str)
    | _ => exact absurd (show false = true from hs) Bool.false_ne_true
  | byt i =>
    obtain ⟨t, rfl⟩ := rx
    cases y with
    | byt j => obtain ⟨t', rfl⟩ := ry; exact PySem.W.eq_bytes (fin_bl I q dec_byt)
    | _ => exact absurd (show false = true from hs) Bool.false_ne_true
  | _ => cases y <;> exact absurd (show false = true from hs) Bool.false_ne_true
theorem op_ne : OpR X (compareOp .NotEq) rNe := by
  intro pins s σ H x y v u Q I rx ry h
  obtain ⟨hs, q⟩ := h
  cases x with
  | non =>
    cases rx
    cases y with
    | non => cases ry; exact PySem.EqNone.ne_none_none (fin_bl I q (by simp))
    | bl j => cases ry; exact PySem.EqNone.ne_none_bool (fin_bl I q (by simp))
    | int j => obtain ⟨t', rfl⟩ := ry; exact PySem.EqNone.ne_none_int (fin_bl I q (by simp))
    | str j => obtain ⟨t', rfl⟩ := ry; exact PySem.EqNone.ne_none_str (fin_bl I q (by simp))
    | _ => exact absurd (show false = true from hs) Bool.false_ne_true
  | bl i =>
    cases rx
    cases y with
    | non => cases ry; exact PySem.EqNone.ne_bool_none (fin_bl I q (by simp))
    | bl j => cases ry; exact ne_bool (fin_bl I q (congrArg not dec_bl))
    | str j => obtain ⟨t', rfl⟩ := ry; exact PySem.EqMixed.ne_bool_str (fin_bl I q (by simp))
    | _ => exact absurd (show false = true from hs) Bool.false_ne_true
  | int i =>
    obtain ⟨t, rfl⟩ := rx
    cases y with
    | non => cases ry; exact PySem.EqNone.ne_int_none (fin_bl I q (by simp))
    | int j => obtain ⟨t', rfl⟩ := ry; exact ne_int (fin_bl I q (congrArg not dec_int))
    | str j => obtain ⟨t', rfl⟩ := ry; exact PySem.EqMixed.ne_int_str (fin_bl I q (by simp))
    | _ => exact absurd (show false = true from hs) Bool.false_ne_true
  | str i =>
    obtain ⟨t, rfl⟩ := rx
    cases y with
    | non => cases ry; exact PySem.EqNone.ne_str_none (fin_bl I q (by simp))
    | bl j => cases ry; exact PySem.EqMixed.ne_str_bool (fin_bl I q (by simp))
    | int j => obtain ⟨t', rfl⟩ := ry; exact PySem.EqMixed.ne_str_int (fin_bl I q (by simp))
    | str j => obtain ⟨t', rfl⟩ := ry; exact ne_str (fin_bl I q (congrArg not dec_str))
    | _ => exact absurd (show false = true from hs) Bool.false_ne_true
  | byt i =>
    obtain ⟨t, rfl⟩ := rx
    cases y with
    | byt j => obtain ⟨t', rfl⟩ := ry; exact PySem.W.ne_bytes (fin_bl I q (congrArg not dec_byt))
    | _ => exact absurd (show false = true from hs) Bool.false_ne_true
  | _ => cases y <;> exact absurd (show false = true from hs) Bool.false_ne_true

theorem op_lt : OpR X (compareOp .Lt) (rI0 fun i j => .bl (decide (i < j))) := opB0 fun _ _ _ _ _ _ _ q => lt_int q
theorem op_gt : OpR X (compareOp .Gt) (rI0 fun i j => .bl (decide (j < i))) := opB0 fun _ _ _ _ _ _ _ q => gt_int q
theorem op_isN : OpR X (compareOp .Is) (fun x y H Q => y = .non ∧ Q (.bl (decide (x = .non))) H) := by
  intro pins s σ H x y v u Q I rx ry h
  obtain ⟨rfl, q⟩ := h
  cases ry
  refine is_none_gen (fin_bl I q ?_)
  cases x <;> first
    | (cases rx; rfl)
    | (obtain ⟨t, rfl⟩ := rx; rfl)
theorem op_notN : OpR X (compareOp .IsNot) (fun x y H Q => y = .non ∧ Q (.bl (!decide (x = .non))) H) := by
  intro pins s σ H x y v u Q I rx ry h
  obtain ⟨rfl, q⟩ := h
  cases ry
  refine isnot_none_gen (fin_bl I q ?_)
  cases x <;> first
    | (cases rx; rfl)
    | (obtain ⟨t, rfl⟩ := rx; rfl)

theorem nomark (b : Expr) {op : CmpOp} (h : op ≠ .In := by decide) (h2 : op ≠ .NotIn := by decide) : behindInMarks op b = false := by
  have e1 : (op == CmpOp.In) = false := by cases op <;> first | rfl | exact absurd rfl h
  have e2 : (op == CmpOp.NotIn) = false := by cases op <;> first | rfl | exact absurd rfl h2
  cases b <;> simp [behindInMarks, e1, e2]
theorem pe_cmpR {op : CmpOp} {r : R2} (ho : OpR X (compareOp op) r) (ha : PE X a ta) (hb : PE X b tb) (hm : behindInMarks op b = false) : PE X (.Compare a [op] [b] pos) (tOp r ta tb) := by
  constructor; intro pins s σ H Q I h
  exact wpAny_Compare1 (binT ha hb I h fun v u s2 x y H2 I2 rx ry q => ho pins s2 σ H2 x y v u Q I2 rx ry q) hm
noncomputable def tTest (t : TE) : TT := fun σ H Q => t σ H fun x H' => ∃ k, x = .bl k ∧ Q k H'
theorem pt_cmpR {op : CmpOp} {r : R2} (ho : OpR X (compareOp op) r) (ha : PE X a ta) (hb : PE X b tb) (hm : behindInMarks op b = false) : PT X (.Compare a [op] [b] pos) (tTest (tOp r ta tb)) := by
  constructor; intro pins s σ H Q I h
  refine wpAny_isTrue_Compare1 (thn (ha pins s σ H _ I h) fun v s1 ⟨x, H1, I1, r1, q1⟩ => thn (hb pins s1 σ H1 _ I1 q1) fun u s2 ⟨y, H2, I2, r2, q2⟩ =>
    thn (ho pins s2 σ H2 x y v u _ I2 r1 r2 q2) fun c s3 ⟨z, H3, I3, r3, k, e, q3⟩ => ?_) hm
  subst e
  cases r3
  exact wpAny_truthy_bool ⟨H3, I3, q3⟩
theorem line63 : (sizeLine : Nat) < 2 ^ 63 := by rw [sizeLine_eq]; decide
theorem op_add_str : OpR X (binaryOp .Add) (fun x y H Q => ∃ i j, x = .str i ∧ y = .str j ∧ i.length + j.length ≤ sizeLine ∧ Q (.str (i ++ j)) H) := by
  intro pins s σ H x y v u Q I rx ry h
  obtain ⟨i, j, rfl, rfl, hz, q⟩ := h
  obtain ⟨t, rfl⟩ := rx
  obtain ⟨t', rfl⟩ := ry
  exact add_str (fun t' tk => ⟨.str (i ++ j), H, I.tok _, ⟨_, rfl⟩, q⟩) hz
theorem vals1 {x : V} {us : List Value} (r : Vals [x] us) : ∃ u, us = [u] ∧ RelV x u := by
  cases r with
  | cons r1 r2 => cases r2; exact ⟨_, rfl, r1⟩
theorem vals2 {x y : V} {us : List Value} (r : Vals [x, y] us) : ∃ u w', us = [u, w'] ∧ RelV x u ∧ RelV y w' := by
  cases r with
  | cons r1 r2 =>
    cases r2 with
    | cons r3 r4 => cases r4; exact ⟨_, _, rfl, r1, r3⟩
noncomputable def LenV (K : PySem.W.Frag) (x : V) (H : Hp) (n : Nat) : Prop :=
  match x with
  | .str y => y.length ≤ sizeLine ∧ n = y.length
  | .byt y => y.size ≤ sizeLine ∧ n = y.size
  | .ref p => (∃ xs, SqL K H p xs ∧ n = xs.length) ∨ ∃ xs, SqT K H p xs ∧ n = xs.length
  | _ => False
theorem call_len : CallR X (.builtin "len") (fun xs H Q => ∃ x n, xs = [x] ∧ LenV X.K x H n ∧ Q (.int n) H) := by
  intro pins s σ H xs us Q I r h
  obtain ⟨x, n, rfl, e, q⟩ := h
  obtain ⟨u, rfl, rx⟩ := vals1 r
  have hl := line63
  have hs : sizeLine = 16777216 := sizeLine_eq
  cases x with
  | str y =>
    obtain ⟨t, rfl⟩ := rx
    obtain ⟨hy, e'⟩ : y.length ≤ sizeLine ∧ n = y.length := e
    subst e'
    exact len_str (by omega) ⟨.int _, H, I.tok _, ⟨_, rfl⟩, q⟩
  | byt y =>
    obtain ⟨t, rfl⟩ := rx
    obtain ⟨hy, e'⟩ : y.size ≤ sizeLine ∧ n = y.size := e
    subst e'
    exact PySem.W.len_bytes (by omega) ⟨.int _, H, I.tok _, ⟨_, rfl⟩, q⟩
  | ref p =>
    cases rx
    have e' : (∃ xs, SqL X.K H p xs ∧ n = xs.length) ∨ ∃ xs, SqT X.K H p xs ∧ n = xs.length := e
    rcases e' with ⟨xs, hx, e'⟩ | ⟨xs, hx, e'⟩
    · subst e'
      obtain ⟨its, r', pl, hz⟩ := I.list hx
      have hlen := r'.length
      exact Calls.call_len_list pl.isList (by simp only [List.size_toArray]; omega) ⟨.int xs.length, H, I.tok _, ⟨_, by simp only [List.size_toArray]; rw [hlen]⟩, q⟩
    · subst e'
      obtain ⟨its, r', pl, hz⟩ := I.tuple hx
      have hlen := r'.length
      exact len_tuple pl (by simp only [List.size_toArray]; omega) ⟨.int xs.length, H, I.tok _, ⟨_, by simp only [List.size_toArray]; rw [hlen]⟩, q⟩
  | _ => exact (show False from e).elim
end
end L2

namespace L2
open PySem PySem.Spec PyProof.Rows

structure ObjM (h : Heap) (x dx C : Addr) (mA : Str → Option Value) : Prop where
  obj : h.get? x = some (PySem.W.instObj C dx)
  ns : h.Ns1 dx mA
  ne : dx ≠ x

theorem lookIn_ns {h : Heap} {dx : Addr} {mA : Str → Option Value} (n : h.Ns1 dx mA) : ∃ od, h.get? dx = some od ∧ ∀ name, PySem.W.lookIn name od = some (mA name) := by
  obtain ⟨o, es, ep, ho, hd, hk, _, hm⟩ := n
  refine ⟨o, ho, fun name => ?_⟩
  have e := hm name
  unfold nsFind findBy at e
  rw [← Array.find?_toList] at e
  unfold PySem.W.lookIn
  rw [hd]
  dsimp only
  split
  · rename_i y q
    rw [q] at e
    exact congrArg some e
  · rename_i q
    rw [q] at e
    have a : es.toList.any (·.refKey) = false := by
      rw [List.any_eq_false]
      intro y hy
      obtain ⟨z, t, hkey⟩ := hk y (Array.mem_toList_iff.mp hy)
      simp [DictEntry.refKey, hkey]
    have a' : ¬ es.toList.any (·.refKey) = true := by rw [a]; exact Bool.false_ne_true
    rw [if_neg a']
    exact congrArg some e

theorem ObjM.look {h : Heap} {x dx C : Addr} {mA : Str → Option Value} (I : ObjM h x dx C mA) : ∃ od, PySem.W.InstAt h x (PySem.W.instObj C dx) C (some od) ∧ ∀ name, PySem.W.lookIn name od = some (mA name) :=
  let ⟨od, ho, hl⟩ := lookIn_ns I.ns
  ⟨od, ⟨I.obj, rfl, rfl, ho⟩, hl⟩

section
variable {prog : Program} {w : World} {A : Around} {E : Value → Shared → Prop} {s : Shared} {K : PySem.W.Frag} {x dx C f : Addr} {mA : Str → Option Value} {name : Str} {v : Value}

theorem get_meth {pl : Sem Bool} {Q : Value × List Value → Shared → Prop} (X : K.In s.heap) (I : ObjM s.heap x dx C mA) (hg : PySem.W.plainGet K C name = true)
    (hf : PySem.W.findIn K (.ref C) name = some (some (.ref f))) (ht : PySem.W.isFn K (.ref f) = true) (hv : mA name = none) (h : Q (.ref f, [.ref x]) s) :
    wpAny (model prog w) A (getMethod (.ref x) name pl) Q E s := by
  obtain ⟨od, J, hl⟩ := I.look
  exact PySem.W.method_fn X J (PySem.W.plainGet_of hg).1 (PySem.W.plainGet_of hg).2 hf (beq_iff_eq.mp ht) (by show (PySem.W.lookIn name od).map (·.isSome) = some false; rw [hl, hv]; rfl) h

theorem make_map0 {R : Result → Shared → Prop} (X : K.In s.heap) (hm : PySem.W.makesIn K C = true)
    (hi : PySem.W.findIn K (.ref C) "__init__" = some (some (.builtin "object.__init__")))
    (hb : ∀ self, PySem.W.Looks (model prog w) s.heap (bindSpecial (.builtin "object.__init__") self) (.builtin "object.__init__", [self]))
    (h : codeAny (model prog w) (A.under (.builtin "type.__call__" ⟨[.ref C], []⟩)) (.call (.builtin "object.__init__") ⟨[.ref (s.heap.objs.size + 1)], []⟩) (PySem.W.InitBack (s.heap.objs.size + 1) R)
      { s with heap := (s.heap.push PySem.W.emptyDict).push (PySem.W.instObj C s.heap.objs.size) }) :
    codeAny (model prog w) A (.call (.ref C) ⟨[], []⟩) R s := by
  obtain ⟨hh, g, d, t, os⟩ := s
  exact PySem.W.make_core (PySem.W.makes_of X hm) (PySem.W.looks_findIn X hi) hb (.inr ⟨rfl, rfl⟩) h
end

theorem RelO.some_of {v : V} {o : Option Value} (r : RelO (some v) o) : ∃ u, o = some u ∧ RelV v u := by
  cases o with
  | none => exact (show False from r).elim
  | some u => exact ⟨u, rfl, r⟩
theorem RelO.none_of {o : Option Value} (r : RelO none o) : o = none := by
  cases o with
  | none => rfl
  | some u => exact (show False from r).elim
section
variable {P : Program} {w : World} {H H' : Hp} {h h' : Heap} {a C dx : Addr} {fs fs' : List (Str × V)}
theorem ins_get (hok : HOk P w H h) (e : H a = some (.ins C dx fs)) : ∃ mA, ObjM h a dx C mA ∧ (∀ f, RelO (fs.lookup f) (mA f)) ∧ PySem.Within mA (fs.map (·.1)) ∧ fs.length ≤ 1000 ∧ H dx = some (.own a) := by
  obtain ⟨d, z, ne, ob, mA, n, r, q⟩ := (show ObjOk P w H h a (.ins C dx fs) from hok a _ e)
  exact ⟨mA, ⟨ob, n, ne⟩, r, q, z, d⟩
end

structure Cls (K : PySem.W.Frag) (C : Addr) : Prop where
  pg : PySem.W.plainGet K C Str.empty = true
  hd : PySem.W.hasDictIn K C = true
  po : PySem.W.plainOver K C = true
  sa : PySem.W.findIn K (.ref C) "__setattr__" = some (some (.builtin "object.__setattr__"))
theorem Cls.get {K : PySem.W.Frag} {C : Addr} (c : Cls K C) (f : Str) : PySem.W.plainGet K C f = true := c.pg
structure Con (K : PySem.W.Frag) (C : Addr) (f : Str) (v : V) (u : Value) : Prop where
  at_ : PySem.W.findIn K (.ref C) f = some (some u)
  rel : RelV v u
  get : PySem.W.specialIn K u "__get__" = some none
  cp : PySem.W.copiedNames.contains f = false
structure Meth (K : PySem.W.Frag) (C : Addr) (m : Str) (f : Addr) : Prop where
  at_ : PySem.W.findIn K (.ref C) m = some (some (.ref f))
  fn : PySem.W.isFn K (.ref f) = true
  kp : PySem.W.keepIn K (.ref f) = true

section
variable {X : Cx} {pins : List (Addr × Obj)} {σ : St} {H : Hp} {s : Shared} {a C dx : Addr} {fs : List (Str × V)} {f : Str} {v : V} {A : Around} {E : Value → Shared → Prop}

theorem getmeth_ok {m : Str} {g : Addr} {pl : Sem Bool} {Q : Value × List Value → Shared → Prop} (I : Inv X pins σ H s) (e : H a = some (.ins C dx fs)) (c : Cls X.K C) (k : Meth X.K C m g) (l : fs.lookup m = none)
    (h : Q (.ref g, [.ref a]) s) : wpAny (model X.prog X.w) A (getMethod (.ref a) m pl) Q E s := by
  obtain ⟨mA, O, r, _, _, _⟩ := ins_get I.hok e
  have hn : mA m = none := RelO.none_of (by rw [← l]; exact r m)
  exact get_meth I.kIn O (c.get m) k.at_ k.fn hn h

theorem Inv.made (I : Inv X pins σ H s) : Inv X pins σ (upd (upd H s.heap.objs.size (.own (s.heap.objs.size + 1))) (s.heap.objs.size + 1) (.ins C s.heap.objs.size []))
    { s with heap := (s.heap.push PySem.W.emptyDict).push (PySem.W.instObj C s.heap.objs.size) } := by
  have e1 : (s.heap.push PySem.W.emptyDict).get? s.heap.objs.size = some PySem.W.emptyDict := Heap.get?_push_size s.heap rfl
  have e2 : ((s.heap.push PySem.W.emptyDict).push (PySem.W.instObj C s.heap.objs.size)).get? (s.heap.objs.size + 1) = some (PySem.W.instObj C s.heap.objs.size) := by
    have := Heap.get?_push_size (s.heap.push PySem.W.emptyDict) (o := PySem.W.instObj C s.heap.objs.size) rfl
    rwa [Heap.size_push] at this
  have e3 : (s.heap.push PySem.W.emptyDict).Ns s.heap.objs.size (fun _ => none) := ⟨PySem.W.emptyDict, #[], _, e1, rfl, (fun e he => absurd he (by simp)), fun _ => rfl⟩
  have I1 := I.laid (a := s.heap.objs.size) (o := .own (s.heap.objs.size + 1)) (h' := s.heap.push PySem.W.emptyDict) (t' := s.toks) (fun b u q => Heap.get?_push_of_some _ q) (Nat.le_refl _) ⟨_, e1⟩
  refine I1.laid (a := s.heap.objs.size + 1) (o := .ins C s.heap.objs.size []) (t' := s.toks) (fun b u q => Heap.get?_push_of_some _ q) (Nat.le_of_eq (Heap.size_push _ _)) ?_
  have ne : s.heap.objs.size ≠ s.heap.objs.size + 1 := Nat.ne_of_lt (Nat.lt_succ_self _)
  refine ⟨by rw [upd_ne ne, upd_same], Nat.zero_le _, ne, e2, fun _ => none, (Heap.Ns1.of_empty e3).at fun o q => Heap.get?_push_of_some _ q, fun _ => True.intro, fun y hy => absurd rfl hy⟩

end

section
variable {X : Cx} {o e value : Expr} {f : Str} {pos pos' tpos : Pos} {ta tv : TE}
end

section
variable {X : Cx} {pins : List (Addr × Obj)} {σ : St} {H : Hp} {s : Shared} {A : Around} {E : Value → Shared → Prop} {Q : Value → Shared → Prop} {c : Value} {b : Bool}
inductive TyOf (K : PySem.W.Frag) (H : Hp) : V → Value → Prop where
  | non : TyOf K H .non (.type "NoneType")
  | bl (x : Bool) : TyOf K H (.bl x) (.type "bool")
  | int (i : Int) : TyOf K H (.int i) (.type "int")
  | str (x : Str) : TyOf K H (.str x) (.type "str")
  | flt (x : UInt64) : TyOf K H (.flt x) (.type "float")
  | lst {a : Addr} {xs : List V} (e : H a = some (.lst xs)) : TyOf K H (.ref a) (.type "list")
  | frz {a : Addr} {o : Obj} {xs : List V} (e : H a = some (.frz o (.lst xs))) : TyOf K H (.ref a) (.type "list")
  | tup {a : Addr} {xs : List V} (e : H a = some (.tup xs)) : TyOf K H (.ref a) (.type "tuple")
  | dK {a : Addr} {kvs : List (Key × V)} (e : H a = some (.dK kvs)) : TyOf K H (.ref a) (.type "dict")
  | dT {a : Addr} {kvs : List (List Key × V)} (e : H a = some (.dT kvs)) : TyOf K H (.ref a) (.type "dict")
  | ins {a C dx : Addr} {fs : List (Str × V)} (e : H a = some (.ins C dx fs)) (cl : Cls K C) (ha : PySem.W.findIn K (.ref C) "__class__" = some (some (.builtin "object.__class__")))
      (hn : PySem.W.specialIn K (.builtin "object.__class__") "__get__" = some (some (.builtin "getset_descriptor.__get__"))) (htk : PySem.W.takesIn K (.builtin "object.__class__") = some true)
      (hm : PySem.W.mroIn K C (.type "object") = some true) : TyOf K H (.ref a) (.ref C)
theorem isinst_ok {x : V} {u t : Value} (I : Inv X pins σ H s) (rx : RelV x u) (ty : TyOf X.K H x t) (e : PySem.W.kitOne X.K t c = some b) (h : ∀ tk, Q (.bool b) { s with toks := tk }) :
    wpAny (model X.prog X.w) A (call (.builtin "isinstance") [u, c]) Q E s := by
  cases ty with
  | non => cases (show u = Value.none from rx); exact PySem.W.kia_one PySem.W.kitx_none I.kIn True.intro e (fun z => nomatch z) h
  | bl y => cases (show u = Value.bool y from rx); exact PySem.W.kia_one PySem.W.kitx_bool I.kIn True.intro e (fun z => nomatch z) h
  | int i => obtain ⟨t, q⟩ := (show ∃ t, u = Value.int i t from rx); cases q; exact PySem.W.kia_one PySem.W.kitx_int I.kIn True.intro e (fun z => nomatch z) h
  | str y => obtain ⟨t, q⟩ := (show ∃ t, u = Value.str y t from rx); cases q; exact PySem.W.kia_one PySem.W.kitx_str I.kIn True.intro e (fun z => nomatch z) h
  | flt y => obtain ⟨t, q⟩ := (show ∃ t, u = Value.float y t from rx); cases q; exact PySem.W.kia_one PySem.W.kitx_float I.kIn True.intro e (fun z => nomatch z) h
  | @lst a xs ea =>
    cases (show u = Value.ref a from rx)
    obtain ⟨_, _, n, _, h1⟩ := (show ObjOk X.prog X.w H s.heap a (.lst xs) from I.hok a _ ea)
    exact PySem.W.kia_one PySem.W.kitx_list I.kIn ⟨_, h1, rfl⟩ e (fun z => nomatch z) h
  | @frz a ob xs ea =>
    cases (show u = Value.ref a from rx)
    obtain ⟨_, _, _, n, _, h1⟩ := (show ObjOk X.prog X.w H s.heap a (.frz ob (.lst xs)) from I.hok a _ ea)
    exact PySem.W.kia_one PySem.W.kitx_list I.kIn ⟨_, h1, rfl⟩ e (fun z => nomatch z) h
  | @tup a xs ea =>
    cases (show u = Value.ref a from rx)
    obtain ⟨_, _, _, p⟩ := (show ObjOk X.prog X.w H s.heap a (.tup xs) from I.hok a _ ea)
    obtain ⟨o, h1, h2, _⟩ := p
    exact PySem.W.kia_one PySem.W.kitx_tuple I.kIn ⟨o, h1, h2⟩ e (fun z => nomatch z) h
  | @dK a kvs ea =>
    cases (show u = Value.ref a from rx)
    obtain ⟨_, _, vs, _, p⟩ := (show ObjOk X.prog X.w H s.heap a (.dK kvs) from I.hok a _ ea)
    obtain ⟨o, es, ep, h1, h2, _⟩ := p
    exact PySem.W.kia_one PySem.W.kitx_dict I.kIn ⟨o, h1, h2.1⟩ e (fun z => nomatch z) h
  | @dT a kvs ea =>
    cases (show u = Value.ref a from rx)
    obtain ⟨_, _, xs, _, o, es, ep, h1, h2, _⟩ := (show ObjOk X.prog X.w H s.heap a (.dT kvs) from I.hok a _ ea)
    exact PySem.W.kia_one PySem.W.kitx_dict I.kIn ⟨o, h1, h2.1⟩ e (fun z => nomatch z) h
  | @ins a C dx fs ea cl ha hn htk hm =>
    cases (show u = Value.ref a from rx)
    obtain ⟨mA, O, _⟩ := ins_get I.hok ea
    obtain ⟨od, J, _⟩ := O.look
    exact PySem.W.kia_one (PySem.W.kitx_own (cl.get _) cl.hd ha hn htk hm) I.kIn J e (fun z => nomatch z) h
end
end L2

namespace L2
open PySem PySem.Spec PyProof.Rows

structure Room (k : Nat) (A : Around) : Prop where
  hd : A.handled = none
  dp : A.depth + 3 * k + 5 < recursionLimit
  un : A.units + 16 * k + 200 < cLine
theorem Room.mono {j k : Nat} {A : Around} (r : Room k A) (h : j ≤ k) : Room j A := ⟨r.hd, by have := r.dp; omega, by have := r.un; omega⟩
theorem Room.deeper {k : Nat} {A : Around} (r : Room (k + 1) A) (env : Env) : Room k (A.deeper env) :=
  ⟨r.hd, by have := r.dp; show A.depth + 1 + 3 * k + 5 < _; omega, by have := r.un; show A.units + 3 + 16 * k + 200 < _; omega⟩
theorem Room.depth {k : Nat} {A : Around} (r : Room k A) : A.depth < recursionLimit := by have := r.dp; omega
theorem Room.units {k : Nat} {A : Around} (r : Room k A) : A.units + 64 < cLine := by have := r.un; omega
noncomputable def tNil : TA := fun _ H Q => Q [] H
noncomputable def tCons (ta : TE) (tr : TA) : TA := fun σ H Q => ta σ H fun x H1 => tr σ H1 fun xs H2 => Q (x :: xs) H2
section
variable {X : Cx} {e : Expr} {es : List Expr} {te : TE} {t : TA} {pos : Pos}
theorem pa_nil : PA X [] tNil := ⟨fun _ _ _ _ H Q I h => Calls.spliced_nil ⟨[], H, I, .nil, h⟩⟩
theorem pa_cons (ha : PE X e te) (hr : PA X es t) (hs : starEach (e :: es) X.env = (false, eval e X.env) :: starEach es X.env := by rfl) : PA X (e :: es) (tCons te t) := by
  constructor; intro pos pins s σ H Q I h
  rw [hs]
  show wpAny _ _ (spliced ((false, eval e X.env) :: backTo pos (starEach es X.env))) _ _ s
  refine Calls.spliced_cons (thn (ha pins s σ H _ I h) fun u s1 ⟨x, H1, I1, r1, q1⟩ => ?_)
  exact thn (hr pos pins s1 σ H1 _ I1 q1) fun us s2 ⟨xs, H2, I2, r2, q2⟩ => ⟨x :: xs, H2, I2, .cons r1 r2, q2⟩

noncomputable def tTup (t : TA) : TE := fun σ H Q => t σ H fun xs H1 => xs.length ≤ sizeLine ∧ ∀ p, H1 p = none → Q (.ref p) (upd H1 p (.tup xs))
noncomputable def tLst (t : TA) : TE := fun σ H Q => t σ H fun xs H1 => xs.length ≤ sizeLine ∧ ∀ p, H1 p = none → Q (.ref p) (upd H1 p (.lst xs))
theorem pe_tup {x1} (h : PA X es t) : PE X (.Tuple es x1 pos) (tTup t) := by
  constructor; intro pins s σ H Q I hq
  refine wpAny_Tuple_spliced (thn (h pos pins s σ H _ I hq) fun us s1 ⟨xs, H1, I1, r, z, q⟩ => ⟨by rw [← r.length]; exact z, ?_⟩)
  have hf : H1 s1.heap.objs.size = none := I1.hok.fresh (Nat.le_refl _)
  refine ⟨.ref s1.heap.objs.size, upd H1 s1.heap.objs.size (.tup xs), I1.laid (t' := s1.toks) (fun b u e => Heap.get?_push_of_some _ e) (Nat.le_refl _) ?_, rfl, q _ hf⟩
  exact ⟨z, us, r, ⟨_, Heap.get?_push_size _ rfl, rfl, _, rfl⟩⟩
theorem pe_lst (h : PA X es t) : PE X (.List es pos) (tLst t) := by
  constructor; intro pins s σ H Q I hq
  refine wpAny_List_spliced (thn (h pos pins s σ H _ I hq) fun us s1 ⟨xs, H1, I1, r, z, q⟩ => ⟨by rw [← r.length]; exact z, ?_⟩)
  have hf : H1 s1.heap.objs.size = none := I1.hok.fresh (Nat.le_refl _)
  refine ⟨.ref s1.heap.objs.size, upd H1 s1.heap.objs.size (.lst xs), I1.laid (t' := s1.toks) (fun b u e => Heap.get?_push_of_some _ e) (Nat.le_refl _) ?_, rfl, q _ hf⟩
  exact ⟨z, us, 0, r, Heap.get?_push_size _ rfl⟩
end

noncomputable abbrev Sp := List V → Hp → VK → XK → Prop
noncomputable abbrev CXT := List Env → Hp → Shared → XK → Value → Shared → Prop

structure Env0 (P : Program) (w : World) (K : PySem.W.Frag) (mg : Str → Option Value) (base : Heap) (A : Around) (outer : List Env) (s : Shared) (H : Hp) : Prop where
  frames : A.frames = some outer
  mod : Mod K mg base
  bs : ∀ b o, base.get? b = some o → s.heap.get? b = some o ∧ H b = none
  bsz : base.objs.size ≤ s.heap.objs.size
  funs : s.heap.FunFrames base outer
  frf : ∀ b ∈ frs outer, H b = none
  hok : HOk P w H s.heap
  bare : AllBare s.gens
noncomputable def CE (outer : List Env) (P : Program) (w : World) (H : Hp) (s : Shared) (Q : VK) (u : Value) (s' : Shared) : Prop :=
  ∃ v H', s'.os = s.os ∧ AllBare s'.gens ∧ Un (frs outer) [] H H' s.heap s'.heap ∧ HOk P w H' s'.heap ∧ RelV v u ∧ Q v H'
noncomputable def CR (CX : CXT) (outer : List Env) (P : Program) (w : World) (H : Hp) (s : Shared) (Q : VK) (E : XK) (r : Result) (s' : Shared) : Prop :=
  match r with
  | .ok (.ret u) => CE outer P w H s Q u s'
  | .ok _ => False
  | .error e => CX outer H s E e s'
structure FnOk (P : Program) (w : World) (K : PySem.W.Frag) (mg : Str → Option Value) (base : Heap) (CX : CXT) (k : Nat) (f : Addr) (fd : FuncData) (ps : List Str) (sp : Sp) : Prop where
  len : ∀ vs H Q E, sp vs H Q E → vs.length = ps.length
  run : ∀ (A : Around) (outer : List Env) (s : Shared) (H : Hp) (args : Args) (us : List Value) (vs : List V) (Q : VK) (E : XK), Room k A → Env0 P w K mg base A outer s H → BindsTo s fd args (ps.zip us) → Vals vs us → sp vs H Q E →
    codeAny (model P w) A (.call (.ref f) args) (CR CX outer P w H s Q E) s
theorem FnOk.mono {P : Program} {w : World} {K : PySem.W.Frag} {mg : Str → Option Value} {base : Heap} {CX : CXT} {j k : Nat} {f : Addr} {fd : FuncData} {ps : List Str} {sp : Sp} (F : FnOk P w K mg base CX j f fd ps sp) (h : j ≤ k) :
    FnOk P w K mg base CX k f fd ps sp := ⟨F.len, fun A outer s H args us vs Q E hr => F.run A outer s H args us vs Q E (hr.mono h)⟩
section
variable {X : Cx} {pins : List (Addr × Obj)} {σ : St} {H : Hp} {s s' : Shared}
theorem Inv.env0 (I : Inv X pins σ H s) : Env0 X.prog X.w X.K X.mg X.base X.A X.stack s H :=
  ⟨I.ok.frames, I.ok.mod, I.bs, Nat.le_trans I.ok.bsz I.sz, I.stack, I.stkFree, I.hok, I.bare⟩
theorem Inv.after {Q : VK} {u : Value} (I : Inv X pins σ H s) (h : CE X.stack X.prog X.w H s Q u s') : EP X pins σ Q u s' := by
  obtain ⟨v, H', os, bare, un, hok, r, q⟩ := h
  obtain ⟨hh, g, d, t, os'⟩ := s'
  obtain rfl : os' = s.os := os
  exact ⟨v, H', I.call (h' := hh) (g' := g) (d' := d) (t' := t) (ch := []) un hok bare (fun b z => absurd z (by simp)), r, q⟩
end

noncomputable def tCall (sp : Sp) (dvs : List V) (E : XK) (t : TA) : TE := fun σ H Q => t σ H fun vs H1 => sp (vs ++ dvs) H1 Q E
noncomputable def Binds (K : PySem.W.Frag) (fd : FuncData) (ps : List Str) (ds : List Value) : Prop :=
  ∀ (s : Shared) (us : List Value), K.In s.heap → (us ++ ds).length = ps.length → BindsTo s fd ⟨us, []⟩ (ps.zip (us ++ ds))
theorem Binds.all {K : PySem.W.Frag} {fd : FuncData} {ps : List Str} (h : ∀ us : List Value, us.length = ps.length → bindArgs fd ⟨us, []⟩ = pure (ps.zip us)) : Binds K fd ps [] := fun s us _ hl => by
  rw [List.append_nil] at hl ⊢
  exact .of_eq (h us hl)

noncomputable def Passes (CX : CXT) (X : Cx) (E : XK) : Prop := ∀ (pins : List (Addr × Obj)) (σ : St) (H : Hp) (s : Shared) (e : Value) (s' : Shared), Inv X pins σ H s → CX X.stack H s E e s' → X.xe e s'

section
variable {X : Cx} {CX : CXT} {k : Nat} {f C : Addr} {fd : FuncData} {ps : List Str} {sp : Sp} {dvs : List V} {ds : List Value} {E : XK} {x m : Str} {p pos apos : Pos} {e o : Expr} {es : List Expr} {ta : TE} {t : TA}

theorem run_fn {pins : List (Addr × Obj)} {σ : St} {H : Hp} {s : Shared} {Q : VK} {us : List Value} {vs : List V} (F : FnOk X.prog X.w X.K X.mg X.base CX k f fd ps sp) (hr : Room k X.A) (hb : Binds X.K fd ps ds) (hd : Vals dvs ds) (hx : Passes CX X E)
    (I : Inv X pins σ H s) (r : Vals vs us) (h : sp (vs ++ dvs) H Q E) : wpAny (model X.prog X.w) X.A (call (.ref f) us) (EP X pins σ Q) X.xe s := by
  have r2 : Vals (vs ++ dvs) (us ++ ds) := r.append hd
  have hl : (us ++ ds).length = ps.length := by rw [← r2.length]; exact F.len _ _ _ _ h
  refine wpAny_call (codeAny_mono (F.run X.A X.stack s H ⟨us, []⟩ (us ++ ds) (vs ++ dvs) Q E hr I.env0 (hb s us I.kIn hl) r2 h) fun r s' hq => ?_)
  cases r with
  | error e => exact hx pins σ H s e s' I hq
  | ok fl =>
    cases fl with
    | ret u => exact I.after hq
    | next => exact False.elim hq
    | brk => exact False.elim hq
    | cont => exact False.elim hq

theorem pe_call (F : FnOk X.prog X.w X.K X.mg X.base CX k f fd ps sp) (hr : Room k X.A) (hg : Gl X x) (hm : X.mg x = some (.ref f)) (hk : PySem.W.keepIn X.K (.ref f) = true) (hb : Binds X.K fd ps ds) (hd : Vals dvs ds) (hx : Passes CX X E)
    (ha : PA X (e :: es) t) (hdb : (x == ("__debug__" : Str)) = false := by decide) (he : starEach (e :: es) X.env = (false, eval e X.env) :: starEach es X.env := by rfl) (hpl : (backTo pos (starEach es X.env)).any (·.1) = false := by rfl) :
    PE X (.Call (.Name x p) (e :: es) [] pos) (tCall sp dvs E t) := by
  constructor; intro pins s σ H Q I h
  refine wpAny_Call_Name_kw (ld_glob I hg hm ?_ hdb)
  refine PySem.W.callWith_K (h₀ := X.base) I.ok.mod.kin hk (thn (ha pos pins s σ H _ I h) fun us s1 ⟨vs, H1, I1, r, q⟩ => ⟨I1.kIn, ?_⟩) he hpl
  exact run_fn F hr hb hd hx I1 r q
structure Mk (K : PySem.W.Frag) (C f : Addr) : Prop where
  makes : PySem.W.makesIn K C = true
  init : PySem.W.findIn K (.ref C) "__init__" = some (some (.ref f))
  fn : PySem.W.isFn K (.ref f) = true
  kp : PySem.W.keepIn K (.ref C) = true

end

structure PK (X : Cx) (kws : List Keyword) (t : TA) : Prop where
  run : ∀ (pos : Pos) (pins : List (Addr × Obj)) (s : Shared) (σ : St) (H : Hp) (Q : List V → Hp → Prop), Inv X pins σ H s → t σ H Q → wpAny (model X.prog X.w) X.A (evalAll ((backToKw pos (keywordEach kws X.env)).map (·.2))) (AP X pins σ Q) X.xe s
noncomputable instance {X : Cx} {kws : List Keyword} {t : TA} : CoeFun (PK X kws t) fun _ => ∀ (pos : Pos) (pins : List (Addr × Obj)) (s : Shared) (σ : St) (H : Hp) (Q : List V → Hp → Prop), Inv X pins σ H s → t σ H Q → wpAny (model X.prog X.w) X.A (evalAll ((backToKw pos (keywordEach kws X.env)).map (·.2))) (AP X pins σ Q) X.xe s := ⟨PK.run⟩
section
variable {X : Cx} {CX : CXT} {k : Nat} {f C : Addr} {fd : FuncData} {ps ks : List Str} {sp : Sp} {E : XK} {x m : Str} {p pos apos kpos : Pos} {e o : Expr} {es : List Expr} {kws : List Keyword} {te ta : TE} {t tk : TA} {nm : Option Str}
structure KBinds (K : PySem.W.Frag) (fd : FuncData) (ps ks : List Str) (g : List Value → List Value → List Value) (gV : List V → List V → List V) : Prop where
  to : ∀ (s : Shared) (us ws : List Value), K.In s.heap → (g us ws).length = ps.length → BindsTo s fd ⟨us, ks.zip ws⟩ (ps.zip (g us ws))
  rel : ∀ {vs : List V} {us : List Value} {zs : List V} {ws : List Value}, Vals vs us → Vals zs ws → Vals (gV vs zs) (g us ws)
variable {g : List Value → List Value → List Value} {gV : List V → List V → List V}
end

structure FnScope (N P : List Str) (sc : Scope) : Prop where
  kind : sc.kind = .function
  co : sc.isCoroutine = false
  gen : sc.isGenerator = false
  nd : N.Nodup
  pre : N.take P.length = P
  par : ∀ x ∈ P, sc.names.lookup x = some .local ∨ sc.names.lookup x = some .cell
  nofree : ∀ y ∈ sc.names, y.2 ≠ .free

theorem bindL_out {kindOf : Str → Option NameKind} {x : Str} : ∀ {binds : List (Str × Value)} {m : Str → Option Value}, (∀ v, (x, v) ∉ binds) → bindL kindOf binds m x = m x
  | [], _, _ => rfl
  | (n, v) :: r, m, h => by
    unfold bindL
    rw [bindL_out fun w hw => h w (List.mem_cons_of_mem _ hw)]
    split
    · have : x ≠ n := by rintro rfl; exact h v List.mem_cons_self
      simp [this]
    · rfl
theorem bindC_out {kindOf : Str → Option NameKind} {x : Str} : ∀ {binds : List (Str × Value)} {m : Str → Option Value}, (∀ v, (x, v) ∉ binds) → bindC kindOf binds m x = m x
  | [], _, _ => rfl
  | (n, v) :: r, m, h => by
    unfold bindC
    rw [bindC_out fun w hw => h w (List.mem_cons_of_mem _ hw)]
    split
    · rfl
    · have : x ≠ n := by rintro rfl; exact h v List.mem_cons_self
      simp [this]
theorem bindL_get {kindOf : Str → Option NameKind} {x : Str} {v : Value} : ∀ {P : List Str} {vs : List Value} {i : Nat} {m : Str → Option Value}, P.Nodup → P[i]? = some x → vs[i]? = some v → kindOf x = some .local →
    bindL kindOf (P.zip vs) m x = some v
  | [], _, _, _, _, h, _, _ => by simp at h
  | _ :: _, [], _, _, _, _, h, _ => by simp at h
  | p :: P, w :: vs, 0, m, nd, h1, h2, hk => by
    simp at h1 h2; subst h1; subst h2
    show bindL kindOf ((p, w) :: P.zip vs) m p = _
    unfold bindL
    rw [bindL_out fun v hv => (List.nodup_cons.mp nd).1 (List.of_mem_zip hv).1, if_pos hk]
    simp
  | p :: P, w :: vs, i + 1, m, nd, h1, h2, hk => by
    show bindL kindOf ((p, w) :: P.zip vs) m x = _
    unfold bindL
    exact bindL_get (i := i) (List.nodup_cons.mp nd).2 (by simpa using h1) (by simpa using h2) hk
theorem bindC_get {kindOf : Str → Option NameKind} {x : Str} {v : Value} : ∀ {P : List Str} {vs : List Value} {i : Nat} {m : Str → Option Value}, P.Nodup → P[i]? = some x → vs[i]? = some v → kindOf x ≠ some .local →
    bindC kindOf (P.zip vs) m x = some v
  | [], _, _, _, _, h, _, _ => by simp at h
  | _ :: _, [], _, _, _, _, h, _ => by simp at h
  | p :: P, w :: vs, 0, m, nd, h1, h2, hk => by
    simp at h1 h2; subst h1; subst h2
    show bindC kindOf ((p, w) :: P.zip vs) m p = _
    unfold bindC
    rw [bindC_out fun v hv => (List.nodup_cons.mp nd).1 (List.of_mem_zip hv).1, if_neg hk]
    simp
  | p :: P, w :: vs, i + 1, m, nd, h1, h2, hk => by
    show bindC kindOf ((p, w) :: P.zip vs) m x = _
    unfold bindC
    exact bindC_get (i := i) (List.nodup_cons.mp nd).2 (by simpa using h1) (by simpa using h2) hk

noncomputable def start (N : List Str) (vs : List V) : St := vs.map some ++ List.replicate (N.length - vs.length) none

noncomputable def cxOf (CX : CXT) (P : Program) (w : World) (K : PySem.W.Frag) (mg : Str → Option Value) (base : Heap) (N : List Str) (qual : Str) (scope : Scope) (f : Addr) (cd : Value) (A : Around) (outer : List Env) (s : Shared) (H : Hp) (E : XK) : Cx where
  prog := P
  w := w
  K := K
  mg := mg
  base := base
  A := A.deeper (envOfC qual scope s.heap.objs.size f cd)
  N := N
  s₀ := s
  H₀ := H
  env := envOfC qual scope s.heap.objs.size f cd
  outer := outer
  stack := envOfC qual scope s.heap.objs.size f cd :: outer
  ex := []
  calm := true
  fn := fun _ => true
  pn := []
  xe := fun e s' => wpAny (model P w) (A.deeper (envOfC qual scope s.heap.objs.size f cd)) (leaving (envOfC qual scope s.heap.objs.size f cd) e) (fun _ s'' => CX outer H s E e s'') (fun e' s'' => CX outer H s E e' s'') s'

theorem cell_has {sc : Scope} {n : Nat} {x : Str} (h : sc.names.lookup x = some .cell) : ∃ c, (cellsFrom n sc.names []).lookup x = some c := by
  have q := PySem.W.cellsFrom_some sc.names n [] (.inl h)
  exact Option.isSome_iff_exists.mp q

theorem inv_start {CX : CXT} {P : Program} {w : World} {K : PySem.W.Frag} {mg : Str → Option Value} {base : Heap} {N ps : List Str} {qual : Str} {scope : Scope} {f : Addr} {cd : Value} {A : Around} {outer : List Env} {s s1 : Shared} {H : Hp} {E : XK} {us : List Value} {vs : List V}
    (S : FnScope N ps scope) (hd : A.handled = none) (e0 : Env0 P w K mg base A outer s H) (hl : vs.length = ps.length) (r : Vals vs us)
    (x : InCallC s s.heap.objs.size (bindL (envOfC qual scope s.heap.objs.size f cd).kindOf (ps.zip us) fun _ => none) (cellsFrom (s.heap.objs.size + 1) scope.names []) (bindC (envOfC qual scope s.heap.objs.size f cd).kindOf (ps.zip us) fun _ => none) s1) :
    Inv (cxOf CX P w K mg base N qual scope f cd A outer s H E) [] (start N vs) H s1 := by
  have hpl : ps.length ≤ N.length := by have := congrArg List.length S.pre; rw [List.length_take] at this; omega
  obtain ⟨h1, tk, rfl, hk⟩ := x.done
  have noA : ∀ b : Addr, b ∉ (cxOf CX P w K mg base N qual scope f cd A outer s H E).ex := fun b z => absurd (show b ∈ ([] : List Addr) from z) (by simp)
  refine ⟨⟨e0.mod, S.kind, rfl, rfl, Nat.le_refl _, fun y z c h1 h2 => ?_, fun y hy => ?_, fun y c _ h => ?_, fun _ => hd, Around.frames_deeper e0.frames, .inr ⟨rfl, rfl⟩, fun b z => absurd z (noA b), e0.bs, e0.bsz, fun b _ _ => noA b, fun b z => absurd z (noA b), e0.funs, e0.frf⟩,
    rfl, e0.bare, Un.kept hk, ⟨_, x.toInCall.ns, fun i y v h1 h2 h3 => ?_⟩, fun y c h => ⟨_, x.cell y c h⟩, e0.hok.fresh (Nat.le_refl _), fun y c h => ?_, fun p hp => absurd (show p ∈ ([] : List (Addr × Obj)) from hp) (by simp), e0.hok.kept hk, ?_⟩
  · exact name_of_addr x.apart (PySem.mem_of_lookup h1) (PySem.mem_of_lookup h2)
  · have hy : scope.names.lookup y = some .cell ∨ scope.names.lookup y = some .free := hy
    rcases hy with hy | hy
    · exact cell_has hy
    · exact absurd rfl (S.nofree _ (PySem.mem_of_lookup hy))
  · exact Nat.le_of_lt (x.above y c (PySem.mem_of_lookup h))
  · have hi : i < vs.length := by
      unfold start at h2
      by_cases hi : i < vs.length
      · exact hi
      · rw [List.getElem?_append_right (by simpa using hi)] at h2
        rw [List.getElem?_replicate] at h2
        split at h2 <;> cases h2
    have ha : vs[i]? = some v := by
      unfold start at h2
      rw [List.getElem?_append_left (by simpa using hi), List.getElem?_map] at h2
      cases e : vs[i]? with
      | none => rw [e] at h2; cases h2
      | some a => rw [e] at h2; cases h2; rfl
    obtain ⟨u, hu, rv⟩ := r.get ha
    have hp : ps[i]? = some y := by
      rw [← S.pre, List.getElem?_take_of_lt (by omega)]; exact h1
    have ndP : ps.Nodup := by rw [← S.pre]; exact S.nd.sublist (List.take_sublist _ _)
    refine ⟨u, rv, ?_⟩
    rcases S.par y (List.mem_of_getElem? hp) with k | k
    · exact .inl ⟨k, bindL_get ndP hp hu k⟩
    · obtain ⟨c, e⟩ := cell_has (n := s.heap.objs.size + 1) k
      refine .inr ⟨.inl k, c, e, ?_⟩
      have q := x.cell y c e
      rw [bindC_get ndP hp hu (by show scope.names.lookup y ≠ _; rw [k]; decide)] at q
      exact q
  · exact e0.hok.fresh (Nat.le_of_lt (x.above y c (PySem.mem_of_lookup h)))
  · unfold start
    show _ = N.length
    rw [List.length_append, List.length_map, List.length_replicate]
    omega

theorem fn_of {CX : CXT} {P : Program} {w : World} {K : PySem.W.Frag} {mg : Str → Option Value} {base : Heap} {k : Nat} {f : Addr} {name qual : Str} {params : Arguments} {body : List Stmt} {scope : Scope} {dV kV doc pm cdv ct oc : Value} {an od : Option Addr}
    {osl : Array (Option Value)} {N ps : List Str} {sp : Sp} (lk : K.lookup f = some ⟨oc, od, .func (PySem.W.fnOf name qual params body scope dV kV doc pm an cdv ct), osl⟩) (hcd : PySem.W.codeIn K cdv qual = true) (S : FnScope N ps scope)
    (len : ∀ vs H Q E, sp vs H Q E → vs.length = ps.length)
    (hbody : ∀ (A : Around) (outer : List Env) (s : Shared) (H : Hp) (vs : List V) (Q : VK) (E : XK), Room k (A.deeper (envOfC qual scope s.heap.objs.size f cdv)) → sp vs H Q E →
      ∃ t, PSs (cxOf CX P w K mg base N qual scope f cdv A outer s H E) body t ∧ t { nx := fun _ H' => Q .non H', rt := Q } (start N vs) H) :
    FnOk P w K mg base CX (k + 1) f (PySem.W.fnOf name qual params body scope dV kV doc pm an cdv ct) ps sp := by
  refine ⟨len, fun A outer s H args us vs Q E hr e0 hb r hsp => ?_⟩
  have hl := len _ _ _ _ hsp
  have KX : K.In s.heap := e0.mod.kin.keeps fun b o e => (e0.bs b o e).1
  have lim : s.heap.NoLimit := e0.mod.nolimit.keeps fun b o e => (e0.bs b o e).1
  have hkind : ∀ y ∈ ps.zip us, scope.names.lookup y.1 = some .local ∨ (scope.names.lookup y.1 = some .cell ∧ ((cellsFrom (s.heap.objs.size + 1) scope.names []).lookup y.1).isSome = true) := fun ⟨n, v⟩ hy => by
    rcases S.par n (List.of_mem_zip hy).1 with q | q
    · exact .inl q
    · exact .inr ⟨q, PySem.W.cellsFrom_some _ _ _ (.inl q)⟩
  refine codeAny_call_function hr.depth (KX _ _ lk) rfl S.co S.gen rfl (PySem.W.codeRec_of KX hcd) (hb _ _ _ _ ?_)
  refine wpAny_newFunctionEnv_cells S.kind hkind fun env he s1 x => ?_
  subst he
  refine ⟨lim.keeps x.toInCall.keep, codeAny_func ?_⟩
  obtain ⟨t, ht, hq⟩ := hbody A outer s H vs Q E (hr.deeper _) hsp
  have I : Inv (cxOf CX P w K mg base N qual scope f cdv A outer s H E) [] (start N vs) H s1 := inv_start S hr.hd e0 hl r x
  refine wpAny_mono (ht [] s1 (start N vs) H _ I hq) (fun fl s' hs => ?_) fun e s' hs => hs
  have fin : ∀ {σ' : St} {H' : Hp} {v : V} {u : Value}, Inv (cxOf CX P w K mg base N qual scope f cdv A outer s H E) [] σ' H' s' → RelV v u → Q v H' → CE outer P w H s Q u s' :=
    fun {σ' H' v u} J rv q => ⟨v, H', J.os, J.bare, J.base, J.hok, rv, q⟩
  cases fl with
  | ret u =>
    obtain ⟨v, σ', H', J, rv, q⟩ := hs
    exact fin J rv q
  | next =>
    obtain ⟨σ', H', J, q⟩ := hs
    exact fin (v := V.non) (u := Value.none) J rfl q
  | brk =>
    obtain ⟨_, _, _, q⟩ := hs
    exact False.elim q
  | cont =>
    obtain ⟨_, _, _, q⟩ := hs
    exact False.elim q
end L2

namespace L2
open PySem PySem.Spec PyProof.Rows
section
variable {X : Cx} {x : Str} {p pos : Pos} {e : Expr} {es : List Expr} {t : TA} {id T : String} {r : List V → Hp → VK → Prop}

noncomputable def tCB (r : List V → Hp → VK → Prop) (t : TA) : TE := fun σ H Q => t σ H fun vs H1 => r vs H1 Q
theorem pe_callB (hc : CallR X (.builtin id) r) (hg : Gl X x) (hm : X.mg x = none) (hv : bootBuiltins x = some (.builtin id)) (ha : PA X (e :: es) t) (hn : x ≠ "__name__" := by decide) (hdb : (x == ("__debug__" : Str)) = false := by decide)
    (he : starEach (e :: es) X.env = (false, eval e X.env) :: starEach es X.env := by rfl) (hpl : (backTo pos (starEach es X.env)).any (·.1) = false := by rfl) : PE X (.Call (.Name x p) (e :: es) [] pos) (tCB r t) := by
  constructor; intro pins s σ H Q I h
  refine wpAny_Call_Name_kw (ld_blt I hg hm hv ?_ hn hdb)
  exact PyProof.Rows.callWith_builtin1 (thn (ha pos pins s σ H _ I h) fun us s1 ⟨vs, H1, I1, r1, q1⟩ => hc pins s1 σ H1 vs us Q I1 r1 q1) he hpl
theorem pe_callTy (hc : CallR X (.type T) r) (hg : Gl X x) (hm : X.mg x = none) (hv : bootBuiltins x = some (.type T)) (ha : PA X (e :: es) t) (hn : x ≠ "__name__" := by decide) (hdb : (x == ("__debug__" : Str)) = false := by decide)
    (he : starEach (e :: es) X.env = (false, eval e X.env) :: starEach es X.env := by rfl) (hpl : (backTo pos (starEach es X.env)).any (·.1) = false := by rfl) : PE X (.Call (.Name x p) (e :: es) [] pos) (tCB r t) := by
  constructor; intro pins s σ H Q I h
  refine wpAny_Call_Name_kw (ld_blt I hg hm hv ?_ hn hdb)
  exact PyProof.Rows.callWith_type1 (thn (ha pos pins s σ H _ I h) fun us s1 ⟨vs, H1, I1, r1, q1⟩ => hc pins s1 σ H1 vs us Q I1 r1 q1) he hpl
end
end L2

namespace HT
open PySem PyProof.Rows

noncomputable def lexLt : List Int → List Int → Bool
  | [], [] => false
  | [], _ :: _ => true
  | _ :: _, [] => false
  | x :: xs, y :: ys => if x = y then lexLt xs ys else decide (x < y)
theorem lexLt_cons (x y : Int) (xs ys : List Int) : lexLt (x :: xs) (y :: ys) = if x = y then lexLt xs ys else decide (x < y) := rfl
theorem lexLt_nil_nil : lexLt [] [] = false := rfl
theorem lexLt_nil_cons (y : Int) (ys : List Int) : lexLt [] (y :: ys) = true := rfl
theorem lexLt_cons_nil (x : Int) (xs : List Int) : lexLt (x :: xs) [] = false := rfl

theorem eqAt_int (A : Around) (s : Shared) (a : Int) (t : Tok) (c : Int) (u : Tok) : ∃ e, SeqAt.EqAt A s (.int a t) (.int c u) e ∧ (e = true ↔ a = c) :=
  ⟨(a == c), SeqAt.EqAt.int_int a t c u, by simp⟩
theorem rcLt_int (A : Around) (s : Shared) (a : Int) (t : Tok) (c : Int) (u : Tok) (prog : Program) (w : World) (E : Value → Shared → Prop) (Q : Value → Shared → Prop) (h : Q (.bool (decide (a < c))) s) :
    wpAny (model prog w) A (richCompare .Lt (.int a t) (.int c u)) Q E s :=
  (PyProof.Rows.lt_int h : wpAny (model prog w) A (compareOp .Lt (.int a t) (.int c u)) Q E s)

section
open PySem.SeqAt
open PySem.AutoSeq1 (wpAny_loadPart')
open PySem.MeetsSeq PySem.MeetsSeq2 PySem.MeetsSeq3

theorem tuple_lt_ints (l b : Addr) (items items2 : Array Value) (n n2 : Nat) (dd dd2 : Option Addr) (sl sl2 : Array (Option Value)) (ns ms : List Int) (hi : IntsAre items.toList ns) (hj : IntsAre items2.toList ms) :
    Meets (Builtin.«tuple.__lt__» ⟨[.ref l, .ref b], []⟩)
      (fun _ R s => s.heap.get? l = some { cls := .type "tuple", dict := dd, data := .seq items n, slots := sl } ∧ s.heap.get? b = some { cls := .type "tuple", dict := dd2, data := .seq items2 n2, slots := sl2 } ∧
        R (.ok (.ret (.bool (lexLt ns ms)))) s) :=
  .of_wp fun prog w A R s h => by
    obtain ⟨hp, g, d, tk, os⟩ := s; obtain ⟨hl, hb, h⟩ := h
    have f2 := AutoSeq1.sub_tuple_tuple
    have z1 : items.size = ns.length := by rw [← hi.length]; simp
    have z2 : items2.size = ms.length := by rw [← hj.length]; simp
    wp_walk using wpAny_loadPart' hl, wpAny_loadPart' hb, wpAny_forIn_list _ (fun rest b s' => b.1 = none ∧ s' = ⟨hp, g, d, tk, os⟩ ∧ ∃ (vs ws : List Value) (ns' ms' : List Int), rest = vs.zip ws ∧
      IntsAre vs ns' ∧ IntsAre ws ms' ∧ ns'.length + items2.size = ms'.length + items.size ∧ R (.ok (.ret (.bool (lexLt ns' ms')))) ⟨hp, g, d, tk, os⟩) _
    case turn =>
      rintro ⟨y, x⟩ rest b s' ⟨hb', rfl, vs, ws, ns', ms', hz, hvi, hwi, hlen, hR⟩
      cases hvi with
      | nil => rw [List.zip_nil_left] at hz; cases hz
      | cons a t hvi' =>
        cases hwi with
        | nil => rw [List.zip_nil_right] at hz; cases hz
        | cons c u hwi' =>
          rw [List.zip_cons_cons] at hz
          injection hz with hyx hrest
          injection hyx with hy hx
          subst hy hx
          rw [lexLt_cons] at hR
          simp only [List.length_cons] at hlen
          obtain ⟨e, he, hiff⟩ := eqAt_int A.in1 ⟨hp, g, d, tk, os⟩ a t c u
          refine wpAny_bind (he prog w _ _ ?_)
          cases e with
          | true =>
            rw [if_pos (hiff.mp rfl)] at hR
            wp_walk
            exact ⟨rfl, rfl, _, _, _, _, hrest, hvi', hwi', by omega, hR⟩
          | false =>
            rw [if_neg (fun q => absurd (hiff.mpr q) Bool.false_ne_true)] at hR
            have hri := rcLt_int A.in1 ⟨hp, g, d, tk, os⟩ a t c u prog w
            wp_walk using hri
            exact ⟨_, rfl, by simpa using hR⟩
    case fin =>
      rintro ⟨b1, b2⟩ s' ⟨hb', rfl, vs, ws, ns', ms', hz, hvi, hwi, hlen, hR⟩
      simp only at hb'
      subst hb'
      have hv : lexLt ns' ms' = decide (items.size < items2.size) := by
        cases hvi with
        | nil =>
          cases hwi with
          | nil =>
            simp only [List.length_nil] at hlen
            rw [lexLt_nil_nil]
            exact (decide_eq_false (by omega)).symm
          | cons c u hw =>
            simp only [List.length_nil, List.length_cons] at hlen
            rw [lexLt_nil_cons]
            exact (decide_eq_true (by omega)).symm
        | cons a t hv =>
          cases hwi with
          | nil =>
            simp only [List.length_nil, List.length_cons] at hlen
            rw [lexLt_cons_nil]
            exact (decide_eq_false (by omega)).symm
          | cons c u hw =>
            rw [List.zip_cons_cons] at hz
            cases hz
      rw [hv] at hR
      wp_walk
      exact ⟨_, rfl, by simpa [Builtin.Tuple.tupleCompareSizes] using hR⟩
    case h =>
      exact ⟨rfl, rfl, items.toList, items2.toList, ns, ms, rfl, hi, hj, by omega, h⟩
end

section
variable {prog : Program} {w : World} {A : Around} {E : Value → Shared → Prop} {s : Shared}

theorem lt_tupInts {l b : Addr} {items items2 : Array Value} {ns ms : List Int} {Q : Value → Shared → Prop} (hl : IsTup s.heap l items) (hb : IsTup s.heap b items2) (hi : IntsAre items.toList ns) (hj : IntsAre items2.toList ms)
    (hu : A.units < cLine) (h : Q (.bool (lexLt ns ms)) s) : wpAny (model prog w) A (compareOp .Lt (.ref l) (.ref b)) Q E s := by
  obtain ⟨⟨cls, dd, data, sl⟩, ho, hc, n, hd⟩ := id hl
  obtain ⟨⟨cls2, dd2, data2, sl2⟩, ho2, hc2, n2, hd2⟩ := id hb
  simp only at hc hd hc2 hd2
  subst hc hd hc2 hd2
  exact richCompare_meets_room (op := .Lt) ⟨_, ho, rfl⟩ ⟨_, ho2, rfl⟩ PySem.F.slot_tuple_lt PySem.F.entry_tuple_lt (PySem.F.args_tuple_lt_2 _ _) (tuple_lt_ints l b items items2 n n2 dd dd2 sl sl2 ns ms hi hj)
    ⟨ho, ho2, show Value.bool (lexLt ns ms) ≠ Value.notImplemented ∧ Q (.bool (lexLt ns ms)) s from ⟨(fun x => nomatch x), h⟩⟩ hu

noncomputable def sIx (n d : Nat) : Option Int → Nat
  | none => d
  | some v => if v < 0 then (v + (n : Int)).toNat else min v.toNat n
theorem sIx_nat (n d k : Nat) : sIx n d (some (k : Int)) = min k n := by
  show (if (k : Int) < 0 then ((k : Int) + (n : Int)).toNat else min (k : Int).toNat n) = min k n
  rw [if_neg (by omega), Int.toNat_natCast]
end
end HT

namespace L2
open PySem PySem.Spec PyProof.Rows

noncomputable abbrev TO := St → Hp → (Option Int → Hp → Prop) → Prop
structure PO (X : Cx) (e : Option Expr) (t : TO) : Prop where
  run : ∀ (pins : List (Addr × Obj)) (s : Shared) (σ : St) (H : Hp) (Q : Option Int → Hp → Prop), Inv X pins σ H s → t σ H Q →
    wpAny (model X.prog X.w) X.A (evalPart e X.env) (fun u s' => ∃ o H', Inv X pins σ H' s' ∧ IsPart u o ∧ Q o H') X.xe s
noncomputable instance {X : Cx} {e : Option Expr} {t : TO} : CoeFun (PO X e t) fun _ => ∀ (pins : List (Addr × Obj)) (s : Shared) (σ : St) (H : Hp) (Q : Option Int → Hp → Prop), Inv X pins σ H s → t σ H Q →
    wpAny (model X.prog X.w) X.A (evalPart e X.env) (fun u s' => ∃ o H', Inv X pins σ H' s' ∧ IsPart u o ∧ Q o H') X.xe s := ⟨PO.run⟩
noncomputable def tNoPart : TO := fun _ H Q => Q none H
noncomputable def tPart (t : TE) : TO := fun σ H Q => t σ H fun x H1 => ∃ i, x = .int i ∧ Q (some i) H1

section
variable {X : Cx} {e : Expr} {te : TE} {lo hi : Option Expr} {tl th : TO} {pos p2 : Pos}

theorem po_none : PO X none tNoPart := by
  constructor; intro pins s σ H Q I h
  rw [evalPart_none]
  exact wpAny_pure ⟨none, H, I, .none, h⟩
theorem po_some (h : PE X e te) : PO X (some e) (tPart te) := by
  constructor; intro pins s σ H Q I hw
  rw [evalPart_some]
  refine thn (h pins s σ H _ I hw) fun u s1 ⟨x, H1, I1, r1, q1⟩ => ?_
  obtain ⟨i, rfl, q⟩ := q1
  obtain ⟨t, rfl⟩ := r1
  exact ⟨some i, H1, I1, .int i t, q⟩

noncomputable def SlR (X : Cx) (r : V → Option Int → Option Int → Hp → VK → Prop) : Prop :=
  ∀ (pins : List (Addr × Obj)) (s : Shared) (σ : St) (H : Hp) (x : V) (v vl vu : Value) (lo hi : Option Int) (sl : Addr) (Q : VK), Inv X pins σ H s → RelV x v → s.heap.IsSliceOf sl vl vu .none → IsPart vl lo → IsPart vu hi → r x lo hi H Q →
    ∃ T id, typeLookup (.type T) "__getitem__" = pure (some (.builtin id)) ∧ s.TypeIs v T ∧ wpAny (model X.prog X.w) X.A (getItem v (.ref sl)) (EP X pins σ Q) X.xe s
noncomputable def tSl (r : V → Option Int → Option Int → Hp → VK → Prop) (te : TE) (tl th : TO) : TE := fun σ H Q => te σ H fun x H1 => tl σ H1 fun l H2 => th σ H2 fun u H3 => r x l u H3 Q
theorem pe_slice {r : V → Option Int → Option Int → Hp → VK → Prop} (hr : SlR X r) (he : PE X e te) (hl : PO X lo tl) (hu : PO X hi th) : PE X (.Subscript e (.Slice lo hi none p2) pos) (tSl r te tl th) := by
  constructor; intro pins s σ H Q I h
  refine Subscript_ (thn (he pins s σ H _ I h) fun v s1 ⟨x, H1, I1, r1, q1⟩ => ?_)
  refine wpAny_Slice (thn (hl pins s1 σ H1 _ I1 q1) fun vl s2 ⟨l, H2, I2, pl, q2⟩ => thn (hu pins s2 σ H2 _ I2 q2) fun vu s3 ⟨u, H3, I3, pu, q3⟩ => ?_)
  rw [evalPart_none]
  refine wpAny_pure ?_
  have I4 : Inv X pins σ H3 { s3 with heap := s3.heap.push { cls := .type "slice", data := .fields #[vl, vu, .none] } } := I3.kept (t' := s3.toks) fun b ob q => Heap.get?_push_of_some _ q
  obtain ⟨T, id, hT, ht, hg⟩ := hr pins { s3 with heap := s3.heap.push { cls := .type "slice", data := .fields #[vl, vu, .none] } } σ H3 x v vl vu l u s3.heap.objs.size Q I4 r1 (Heap.IsSliceOf.new ..) pl pu q3
  show wpAny (model X.prog X.w) X.A (subscriptTail e (.Slice lo hi none p2) v (.ref s3.heap.objs.size)) (EP X pins σ Q) X.xe { s3 with heap := s3.heap.push { cls := .type "slice", data := .fields #[vl, vu, .none] } }
  exact tail_any (ops := [.ref s3.heap.objs.size, v]) ht hT hg (by with_unfolding_all rfl)

noncomputable def cutV (xs : List V) (lo hi : Option Int) : List V := (xs.drop (HT.sIx xs.length 0 lo)).take (HT.sIx xs.length xs.length hi - HT.sIx xs.length 0 lo)
theorem cutV_length (xs : List V) (lo hi : Option Int) : (cutV xs lo hi).length ≤ xs.length := by
  unfold cutV
  rw [List.length_take, List.length_drop]
  omega
end
end L2

namespace L2
open PySem PySem.Spec PyProof.Rows

noncomputable def ixN (n : Nat) (i : Int) : Option Nat := if 0 ≤ i then (if i < n then some i.toNat else none) else if -(n : Int) ≤ i then some (i + n).toNat else none
noncomputable def atI {α : Type} (xs : List α) (i : Int) : Option α := (ixN xs.length i).bind fun j => xs[j]?
theorem ixN_seq {n : Nat} {i : Int} {j : Nat} (h : ixN n i = some j) : seqIndex? i n = some j ∧ j < n ∧ -(n : Int) ≤ i ∧ i < n := by
  unfold ixN at h
  by_cases h0 : 0 ≤ i
  · rw [if_pos h0] at h
    by_cases h1 : i < n
    · rw [if_pos h1] at h
      have e : i.toNat = j := Option.some.inj h
      exact ⟨by rw [seqIndex_of h0 h1, e], by omega, by omega, h1⟩
    · rw [if_neg h1] at h; cases h
  · rw [if_neg h0] at h
    by_cases h1 : -(n : Int) ≤ i
    · rw [if_pos h1] at h
      have e : (i + n).toNat = j := Option.some.inj h
      exact ⟨by rw [seqIndex_neg (by omega) h1, e], by omega, h1, by omega⟩
    · rw [if_neg h1] at h; cases h
theorem atI_get {α : Type} {xs : List α} {i : Int} {v : α} (h : atI xs i = some v) : ∃ j, seqIndex? i xs.length = some j ∧ xs[j]? = some v ∧ j < xs.length ∧ -(xs.length : Int) ≤ i ∧ i < xs.length := by
  unfold atI at h
  cases e : ixN xs.length i with
  | none => rw [e] at h; cases h
  | some j =>
    rw [e] at h
    obtain ⟨h1, h2, h3, h4⟩ := ixN_seq e
    exact ⟨j, h1, h, h2, h3, h4⟩
theorem atI_nat {α : Type} {xs : List α} {j : Nat} {v : α} (h : xs[j]? = some v) : atI xs (j : Int) = some v := by
  have hj : j < xs.length := (List.getElem?_eq_some_iff.mp h).1
  have e : ixN xs.length (j : Int) = some j := by
    unfold ixN
    rw [if_pos (by omega), if_pos (by omega)]; simp
  unfold atI; rw [e]; exact h
noncomputable def PlainIx (b : Expr) : Prop := ∀ o i, subscripted b false o i = operate [o, i] (getItem o i)
noncomputable def IxR (X : Cx) (r : R2) : Prop :=
  ∀ (value slice : Expr) (pins : List (Addr × Obj)) (s : Shared) (σ : St) (H : Hp) (x y : V) (v u : Value) (Q : VK), Inv X pins σ H s → RelV x v → RelV y u → r x y H Q →
    subscripted slice false v u = operate [v, u] (getItem v u) → wpAny (model X.prog X.w) X.A (subscriptTail value slice v u) (EP X pins σ Q) X.xe s
noncomputable def MtR (X : Cx) (id : String) (r : V → List V → Hp → VK → Prop) : Prop :=
  ∀ (pins : List (Addr × Obj)) (s : Shared) (σ : St) (H : Hp) (x : V) (xs : List V) (v : Value) (us : List Value) (Q : VK), Inv X pins σ H s → RelV x v → Vals xs us → r x xs H Q →
    wpAny (model X.prog X.w) X.A (call (.builtin id) (v :: us)) (EP X pins σ Q) X.xe s
section
variable {X : Cx} {a b : Expr} {ta tb : TE} {pos : Pos}
theorem pe_ix {r : R2} (hr : IxR X r) (ha : PE X a ta) (hb : PE X b tb) (hs : PlainIx b) : PE X (.Subscript a b pos) (tOp r ta tb) := by
  constructor; intro pins s σ H Q I h
  exact Subscript_ (binT ha hb I h fun v u s2 x y H2 I2 rx ry q => hr a b pins s2 σ H2 x y v u Q I2 rx ry q (hs _ _))

noncomputable def rIxL (K : PySem.W.Frag) : R2 := fun x y H Q => ∃ p xs i v, x = .ref p ∧ y = .int i ∧ SqL K H p xs ∧ atI xs i = some v ∧ Q v H
noncomputable def rIxT (K : PySem.W.Frag) : R2 := fun x y H Q => ∃ p xs i v, x = .ref p ∧ y = .int i ∧ SqT K H p xs ∧ atI xs i = some v ∧ Q v H
noncomputable def rIxS : R2 := fun x y H Q => ∃ z i c, x = .str z ∧ y = .int i ∧ z.length ≤ sizeLine ∧ atI z.cps.toList i = some c ∧ Q (.str ⟨#[c]⟩) H
theorem ix_list : IxR X (rIxL X.K) := by
  intro value slice pins s σ H x y v u Q I rx ry h hs
  obtain ⟨p, xs, i, z, rfl, rfl, hq, he, q⟩ := h
  cases rx
  obtain ⟨t, rfl⟩ := ry
  obtain ⟨its, r, pl, hz⟩ := I.list hq
  obtain ⟨j, h1, h2, h3, h4, h5⟩ := atI_get he
  obtain ⟨w, ew, rw'⟩ := r.get h2
  have hl := r.length
  have hn := line63
  have fin : EP X pins σ Q w s := ⟨z, H, I, rw', q⟩
  by_cases h0 : 0 ≤ i
  · have hj : i.toNat = j := by
      rw [seqIndex_of h0 h5] at h1
      exact Option.some.inj h1
    exact item_listR pl.isList h0 (by omega) (by rw [hj]; simpa using ew) fin hs
  · have hj : (i + (its.toArray.size : Int)).toNat = j := by
      rw [seqIndex_neg (by omega) h4] at h1
      rw [List.size_toArray, ← hl]
      exact Option.some.inj h1
    exact subscriptTail_builtinR (x := w) pl.isList.typeIs slot_list_getitem.lookup
      (wpAny_getItem_list_neg (Q := fun r s' => r = w ∧ EP X pins σ Q r s') pl.isList (by omega) (by rw [List.size_toArray] <;> omega) (by omega) (by rw [hj]; simpa using ew) ⟨rfl, fin⟩) hs
theorem ix_tup : IxR X (rIxT X.K) := by
  intro value slice pins s σ H x y v u Q I rx ry h hs
  obtain ⟨p, xs, i, z, rfl, rfl, hq, he, q⟩ := h
  cases rx
  obtain ⟨t, rfl⟩ := ry
  obtain ⟨its, r, pl, hz⟩ := I.tuple hq
  obtain ⟨j, h1, h2, h3, h4, h5⟩ := atI_get he
  obtain ⟨w, ew, rw'⟩ := r.get h2
  have hl := r.length
  have hn := line63
  have fin : EP X pins σ Q w s := ⟨z, H, I, rw', q⟩
  exact subscriptTail_builtinR (x := w) pl.typeIs slot_tuple_getitem.lookup
    (getItem_tuple (j := j) (Q := fun r s' => r = w ∧ EP X pins σ Q r s') pl (by omega) (by omega) (by rw [List.size_toArray, ← hl]; exact h1) (by simpa using ew) ⟨rfl, fin⟩) hs
theorem ix_str : IxR X rIxS := by
  intro value slice pins s σ H x y v u Q I rx ry h hs
  obtain ⟨z, i, c, rfl, rfl, hz, he, q⟩ := h
  obtain ⟨t, rfl⟩ := rx
  obtain ⟨t', rfl⟩ := ry
  obtain ⟨j, h1, h2, h3, h4, h5⟩ := atI_get he
  have hl : z.cps.toList.length = z.length := by simp [Str.length]
  rw [hl] at h1 h4 h5
  have hn := line63
  exact tail_any (typeIs_str s z t) slot_str_getitem.lookup (getItem_str (c := c) (by
    have e1 : decide (i < -(2 ^ 63 : Int)) = false := decide_eq_false (by omega)
    have e2 : decide (i ≥ 2 ^ 63) = false := decide_eq_false (by omega)
    rw [e1, e2, Bool.or_false]) (by rw [h1]; simpa using h2) ⟨.str ⟨#[c]⟩, H, I.tok _, ⟨_, rfl⟩, q⟩) hs
theorem mapSeq_set (its : List Value) (n j : Nat) (u : Value) : Obj.mapSeq (·.setIfInBounds j u) { cls := .type "list", data := .seq its.toArray n } = { cls := .type "list", data := .seq (its.set j u).toArray n } := by
  simp [Obj.mapSeq]
theorem Inv.lst {pins : List (Addr × Obj)} {σ : St} {H : Hp} {s : Shared} {p : Addr} {xs : List V} (I : Inv X pins σ H s) (h : H p = some (.lst xs)) :
    ∃ (its : List Value) (n : Nat), Vals xs its ∧ s.heap.get? p = some { cls := .type "list", data := .seq its.toArray n } ∧ xs.length ≤ sizeLine := by
  obtain ⟨z, its, n, r, e⟩ := I.hok p _ h
  exact ⟨its, n, r, e, z⟩
theorem Inv.lstUpd {pins : List (Addr × Obj)} {σ : St} {H : Hp} {s : Shared} {p : Addr} {xs ys : List V} {its its' : List Value} {n n' : Nat} {f : Obj → Obj} (I : Inv X pins σ H s) (h : H p = some (.lst xs))
    (ho : s.heap.get? p = some { cls := .type "list", data := .seq its.toArray n }) (hf : f { cls := .type "list", data := .seq its.toArray n } = { cls := .type "list", data := .seq its'.toArray n' }) (r : Vals ys its') (hz : ys.length ≤ sizeLine) (t : Nat) :
    Inv X pins σ (upd H p (.lst ys)) { s with heap := s.heap.update p f, toks := t } := by
  have e : (s.heap.update p f).get? p = some { cls := .type "list", data := .seq its'.toArray n' } := by
    rw [Heap.get?_update_self f ho (by rw [hf] <;> rfl), hf]
  refine I.write (x := p) (e := p) (by rw [h]; trivial) (.inl rfl) (fun b u hb q => (Heap.get?_update_other _ _ (Ne.symm hb)).trans q) ⟨_, e⟩ ?_
  exact ⟨hz, its', n', r, e⟩
noncomputable def rSetL : V → V → V → Hp → (Hp → Prop) → Prop := fun o i v H Q => ∃ p xs k j, o = .ref p ∧ i = .int k ∧ H p = some (.lst xs) ∧ ixN xs.length k = some j ∧ Q (upd H p (.lst (xs.set j v)))
theorem set_list : PSet X rSetL := by
  intro pins s σ H o i v ov iv u Q I ro ri rv h
  obtain ⟨p, xs, k, j, rfl, rfl, hp, hj, q⟩ := h
  cases ro
  obtain ⟨t, rfl⟩ := ri
  obtain ⟨its, n, r, ho, hz⟩ := I.lst hp
  obtain ⟨h1, h2, h3, h4⟩ := ixN_seq hj
  have hl := r.length
  have hn := line63
  have I' : Inv X pins σ (upd H p (.lst (xs.set j v))) { s with heap := s.heap.update p (Obj.mapSeq (·.setIfInBounds j u)) } :=
    I.lstUpd hp ho (mapSeq_set its n j u) (r.set rv j) (by rw [List.length_set]; exact hz) s.toks
  by_cases h0 : 0 ≤ k
  · have hk : k.toNat = j := by
      rw [seqIndex_of h0 h4] at h1
      exact Option.some.inj h1
    exact PySem.W.ki_setAt ho h0 (by omega) (by rw [List.size_toArray, ← hl]; exact h4) (by rw [hk]; exact ⟨_, I', q⟩)
  · have hk : (k + (its.toArray.size : Int)).toNat = j := by
      rw [seqIndex_neg (by omega) h3] at h1
      rw [List.size_toArray, ← hl]
      exact Option.some.inj h1
    exact PySem.W.ki_setBack ho (by omega) (by rw [List.size_toArray, ← hl]; exact h3) (by omega) (by rw [hk]; exact ⟨_, I', q⟩)

theorem slice_bounds (lo hi : Option Int) (n : Nat) : (sliceBounds lo hi none n).1 = ((HT.sIx n 0 lo : Nat) : Int) ∧ (sliceBounds lo hi none n).2.1 = ((HT.sIx n n hi : Nat) : Int) ∧ (sliceBounds lo hi none n).2.2 = 1 := by
  refine ⟨?_, ?_, rfl⟩
  · cases lo with
    | none => simp [sliceBounds, HT.sIx]
    | some i =>
      simp only [sliceBounds, HT.sIx, Option.getD_none, show (1 : Int) > 0 by decide, if_true]
      by_cases h : i < 0
      · simp only [h, if_true] <;> omega
      · simp only [h, if_false] <;> omega
  · cases hi with
    | none => simp [sliceBounds, HT.sIx]
    | some i =>
      simp only [sliceBounds, HT.sIx, Option.getD_none, show (1 : Int) > 0 by decide, if_true]
      by_cases h : i < 0
      · simp only [h, if_true] <;> omega
      · simp only [h, if_false] <;> omega
theorem slicePick_cut (its : List Value) (lo hi : Option Int) : slicePick its.toArray lo hi none = ((its.drop (HT.sIx its.length 0 lo)).take (HT.sIx its.length its.length hi - HT.sIx its.length 0 lo)).toArray := by
  obtain ⟨h1, h2, h3⟩ := slice_bounds lo hi its.toArray.size
  unfold slicePick
  rw [h1, h2, h3]
  simp only [sliceRange_one, pick_run, List.size_toArray] <;> rfl
noncomputable def rSlL (K : PySem.W.Frag) : V → Option Int → Option Int → Hp → VK → Prop := fun x lo hi H Q => ∃ a xs, x = .ref a ∧ SqL K H a xs ∧ ∀ p, H p = none → Q (.ref p) (upd H p (.lst (cutV xs lo hi)))
theorem sl_list : SlR X (rSlL X.K) := by
  intro pins s σ H x v vl vu lo hi sl Q I rx hs pl pu h
  obtain ⟨a, xs, rfl, hx, q⟩ := h
  cases rx
  obtain ⟨its, r, ht, hz⟩ := I.list hx
  have hlen := r.length
  refine ⟨"list", _, slot_list_getitem.lookup, ht.isList.typeIs, ?_⟩
  refine wpAny_getItem_list_slice ht.isList hs pl pu .none (by simp) ?_ (by rw [List.size_toArray] <;> omega)
  rw [slicePick_cut, ← hlen]
  refine ⟨.ref s.heap.objs.size, _, I.laid (t' := s.toks) (o := .lst (cutV xs lo hi)) (fun b ob q => Heap.get?_push_of_some _ q) (Nat.le_refl _) ?_, rfl, q _ (I.hok.fresh (Nat.le_refl _))⟩
  exact ⟨Nat.le_trans (cutV_length xs lo hi) hz, _, 0, (r.drop (HT.sIx xs.length 0 lo)).take (HT.sIx xs.length xs.length hi - HT.sIx xs.length 0 lo), Heap.get?_push_size _ rfl⟩

noncomputable def flatV : V → Bool
  | .non => true
  | .bl _ => true
  | .int _ => true
  | .str _ => true
  | _ => false
noncomputable def eqV : V → V → Bool
  | .non, .non => true
  | .bl a, .bl b => a == b
  | .bl a, .int b => (if a then 1 else 0) == b
  | .int a, .bl b => a == (if b then 1 else 0)
  | .int a, .int b => a == b
  | .str a, .str b => a == b
  | _, _ => false
theorem eqAt_V {A : Around} {s : Shared} {y x : V} {u v : Value} (ry : RelV y u) (rx : RelV x v) (fy : flatV y = true) (fx : flatV x = true) : SeqAt.EqAt A s u v (eqV y x) := by
  cases y with
  | non =>
    cases ry
    cases x with
    | non => cases rx; exact SeqAt.EqAt.same _
    | bl b => cases rx; exact SeqAt.EqAt.none_bool b
    | int b => obtain ⟨t, rfl⟩ := rx; exact SeqAt.EqAt.none_int b t
    | str b => obtain ⟨t, rfl⟩ := rx; exact SeqAt.EqAt.none_str b t
    | _ => exact absurd (show false = true from fx) Bool.false_ne_true
  | bl a =>
    cases ry
    cases x with
    | non => cases rx; exact SeqAt.EqAt.bool_none a
    | bl b => cases rx; exact SeqAt.EqAt.bool_bool a b
    | int b => obtain ⟨t, rfl⟩ := rx; exact SeqAt.EqAt.bool_int a b t
    | str b => obtain ⟨t, rfl⟩ := rx; exact SeqAt.EqAt.bool_str a b t
    | _ => exact absurd (show false = true from fx) Bool.false_ne_true
  | int a =>
    obtain ⟨t', rfl⟩ := ry
    cases x with
    | non => cases rx; exact SeqAt.EqAt.int_none a t'
    | bl b => cases rx; exact SeqAt.EqAt.int_bool a t' b
    | int b => obtain ⟨t, rfl⟩ := rx; exact SeqAt.EqAt.int_int a t' b t
    | str b => obtain ⟨t, rfl⟩ := rx; exact SeqAt.EqAt.int_str a t' b t
    | _ => exact absurd (show false = true from fx) Bool.false_ne_true
  | str a =>
    obtain ⟨t', rfl⟩ := ry
    cases x with
    | non => cases rx; exact SeqAt.EqAt.str_none a t'
    | bl b => cases rx; exact SeqAt.EqAt.str_bool a t' b
    | int b => obtain ⟨t, rfl⟩ := rx; exact SeqAt.EqAt.str_int a t' b t
    | str b => obtain ⟨t, rfl⟩ := rx; exact SeqAt.EqAt.str_str a t' b t
    | _ => exact absurd (show false = true from fx) Bool.false_ne_true
  | _ => exact absurd (show false = true from fy) Bool.false_ne_true
noncomputable def eqU (x : V) (u : Value) : Bool := match u with
  | .none => eqV .non x
  | .bool b => eqV (.bl b) x
  | .int i _ => eqV (.int i) x
  | .str z _ => eqV (.str z) x
  | _ => false
theorem eqU_of {x y : V} {u : Value} (r : RelV y u) (f : flatV y = true) : eqU x u = eqV y x := by
  cases y with
  | non => cases r; rfl
  | bl b => cases r; rfl
  | int i => obtain ⟨t, rfl⟩ := r; rfl
  | str z => obtain ⟨t, rfl⟩ := r; rfl
  | _ => exact absurd (show false = true from f) Bool.false_ne_true
theorem any_eqU {x : V} : ∀ {xs : List V} {us : List Value}, Vals xs us → xs.all flatV = true → us.any (eqU x) = xs.any fun y => eqV y x
  | _, _, .nil, _ => rfl
  | y :: xs, u :: us, .cons r t, f => by
    rw [List.all_cons, Bool.and_eq_true] at f
    rw [List.any_cons, List.any_cons, eqU_of r f.1, any_eqU t f.2]
theorem mem_eqAt {A : Around} {s : Shared} {x : V} {v : Value} (rx : RelV x v) (fx : flatV x = true) : ∀ {xs : List V} {us : List Value}, Vals xs us → xs.all flatV = true → ∀ u ∈ us, SeqAt.EqAt A s u v (eqU x u)
  | _, _, .nil, _ => fun u hu => by cases hu
  | y :: xs, u :: us, .cons r t, f => fun u' hu => by
    rw [List.all_cons, Bool.and_eq_true] at f
    rcases List.mem_cons.mp hu with rfl | hu
    · rw [eqU_of r f.1]; exact eqAt_V r rx f.1 fx
    · exact mem_eqAt rx fx t f.2 u' hu
noncomputable def inV (x : V) (xs : List V) : Bool := xs.any fun y => eqV y x
noncomputable def rIn (K : PySem.W.Frag) (neg : Bool) : R2 := fun x y H Q => ∃ p xs, y = .ref p ∧ (SqL K H p xs ∨ SqT K H p xs) ∧ flatV x = true ∧ xs.all flatV = true ∧ Q (.bl (if neg then !inV x xs else inV x xs)) H
theorem op_in_seq : OpR X (compareOp .In) (rIn X.K false) := by
  intro pins s σ H x y v u Q I rx ry h
  obtain ⟨p, xs, rfl, hq, fx, fs, q⟩ := h
  cases ry
  rcases hq with hq | hq
  · obtain ⟨its, r, pl, hz⟩ := I.list hq
    refine SeqAt.in_listAt (eqU x) pl.isList (fun w hw => mem_eqAt rx fx r fs w (by simpa using hw)) ⟨.bl _, H, I, rfl, ?_⟩
    rw [show its.toArray.any (eqU x) = its.any (eqU x) by simp, any_eqU r fs]
    exact q
  · obtain ⟨its, r, pl, hz⟩ := I.tuple hq
    refine SeqAt.in_tupleAt (eqU x) pl (fun w hw => mem_eqAt rx fx r fs w (by simpa using hw)) ⟨.bl _, H, I, rfl, ?_⟩
    rw [show its.toArray.any (eqU x) = its.any (eqU x) by simp, any_eqU r fs]
    exact q
noncomputable def tyV (K : PySem.W.Frag) (T : String) (x : V) (H : Hp) : Prop := match x with
  | .str _ => T = "str"
  | .int _ => T = "int"
  | .ref p => (T = "list" ∧ ∃ xs, SqL K H p xs) ∨ (T = "tuple" ∧ ∃ o, K.lookup p = some o ∧ o.cls = .type "tuple" ∧ o.dict = none) ∨
      (T = "dict" ∧ ((∃ kvs, H p = some (.dK kvs)) ∨ ∃ kvs, H p = some (.dT kvs))) ∨ (T = "set" ∧ ∃ S n, H p = some (.set S n))
  | _ => False
theorem tyV_is {pins : List (Addr × Obj)} {σ : St} {H : Hp} {s : Shared} {T : String} {x : V} {v : Value} (I : Inv X pins σ H s) (r : RelV x v) (ty : tyV X.K T x H) :
    s.TypeIs v T ∧ ∀ a, v = .ref a → ∃ ob, s.heap.get? a = some ob ∧ ob.dict = none := by
  cases x with
  | str z =>
    obtain ⟨t, rfl⟩ := r
    cases (show T = "str" from ty)
    exact ⟨typeIs_str s z t, fun _ e => nomatch e⟩
  | int i =>
    obtain ⟨t, rfl⟩ := r
    cases (show T = "int" from ty)
    exact ⟨typeIs_int s i t, fun _ e => nomatch e⟩
  | ref p =>
    cases r
    rcases ty with ⟨rfl, xs, hq⟩ | ⟨rfl, o, hk, hc, hd⟩ | ⟨rfl, hk⟩ | ⟨rfl, S, n, hk⟩
    · obtain ⟨its, _, pl, _⟩ := I.list hq
      refine ⟨pl.isList.typeIs, fun a e => ?_⟩
      cases e
      obtain ⟨o, n, e, c, hd, _⟩ := pl
      exact ⟨o, e, hd⟩
    · refine ⟨⟨o, I.kIn p o hk, hc⟩, fun a e => ?_⟩
      cases e
      exact ⟨o, I.kIn _ o hk, hd⟩
    · have z : ∃ o, s.heap.get? p = some o ∧ o.ExactDict := by
        rcases hk with ⟨kvs, hk⟩ | ⟨kvs, hk⟩
        · obtain ⟨_, _, _, _, o, _, _, e, ex, _⟩ := I.hok p _ hk
          exact ⟨o, e, ex⟩
        · obtain ⟨_, _, _, _, o, _, _, e, ex, _⟩ := I.hok p _ hk
          exact ⟨o, e, ex⟩
      obtain ⟨o, e, ex⟩ := z
      refine ⟨⟨o, e, ex.1⟩, fun a e2 => ?_⟩
      cases e2
      exact ⟨o, e, ex.2.1⟩
    · obtain ⟨o, _, _, _, e, ex, _⟩ := I.hok p _ hk
      refine ⟨⟨o, e, ex.1⟩, fun a e2 => ?_⟩
      cases e2
      exact ⟨o, e, ex.2.1⟩
  | _ => exact False.elim ty
noncomputable def tBM (K : PySem.W.Frag) (T : String) (r : V → List V → Hp → VK → Prop) (to : TE) (t : TA) : TE := fun σ H Q => to σ H fun x H1 => tyV K T x H1 ∧ t σ H1 fun xs H2 => r x xs H2 Q
variable {o e : Expr} {es : List Expr} {to : TE} {t : TA} {name : Str} {apos cpos : Pos} {T id : String} {r : V → List V → Hp → VK → Prop}
theorem pe_bm (pa : PlainAttrs T) (slot : Slot T name id) (hty : typeOf (.builtin id) = pure (.type "method_descriptor")) (hm : MtR X id r) (ho : PE X o to) (ha : PA X (e :: es) t)
    (hbase : attributeBase o name X.env (eval o X.env) = eval o X.env := by rfl)
    (hfew : ((backTo cpos (starEach (e :: es) X.env)).all (fun x => !x.1) && (backToKw cpos (keywordEach [] X.env)).all (fun x => x.1.isSome)
      && decide ((e :: es).length + ([] : List Keyword).length + (if ([] : List Keyword).isEmpty then 0 else 1) < 30)) = true := by rfl)
    (hline : (apos.endLine == cpos.line) = true := by rfl) (hs : starEach (e :: es) X.env = (false, eval e X.env) :: starEach es X.env := by rfl) (hplain : (backTo cpos (starEach es X.env)).any (·.1) = false := by rfl) :
    PE X (.Call (.Attribute o name apos) (e :: es) [] cpos) (tBM X.K T r to t) := by
  constructor; intro pins s σ H Q I h
  refine wpAny_Call_method_late hbase hfew hline rfl (thn (ho pins s σ H _ I h) fun v s1 ⟨x, H1, I1, r1, ty, q1⟩ => ?_)
  obtain ⟨h1, h2⟩ := tyV_is I1 r1 ty
  refine ⟨T, id, pa, slot, hty, h1, h2, ?_⟩
  have hA := ha cpos pins s1 σ H1 _ I1 q1
  rw [hs] at hA ⊢
  refine Calls.callWith_builtin (by show (false || (backTo cpos (starEach es X.env)).any (·.1)) = false; rw [hplain] <;> rfl) (Calls.evalArgs_plain ?_)
  exact thn hA fun us s2 ⟨vs, H2, I2, r2, q2⟩ => hm pins s2 σ H2 x vs v us Q I2 r1 r2 q2
/- xs.append(e), list.index on a module's tuple .. are MtR facts of 06m -/
end
end L2

namespace L2
open PySem PySem.Spec PyProof.Rows

noncomputable def MtM (X : Cx) (id : String) (r : V → List V → Hp → VK → Prop) : Prop :=
  ∀ (pins : List (Addr × Obj)) (s : Shared) (σ : St) (H : Hp) (x : V) (xs : List V) (v : Value) (us : List Value) (Q : VK), Inv X pins σ H s → RelV x v → Vals xs us → r x xs H Q →
    wpAny (model X.prog X.w) X.A (call (.builtin id) (v :: us)) (EP X pins σ Q) X.xe s

theorem Vals.one : ∀ {x : V} {us : List Value}, Vals [x] us → ∃ u, us = [u] ∧ RelV x u
  | _, _, .cons r .nil => ⟨_, rfl, r⟩
theorem Vals.eraseIdx : ∀ {xs : List V} {us : List Value} (i : Nat), Vals xs us → Vals (xs.eraseIdx i) (us.eraseIdx i)
  | _, _, _, .nil => .nil
  | _, _, 0, .cons _ t => t
  | _, _, i + 1, .cons r t => .cons r (Vals.eraseIdx i t)
theorem Vals.rep {xs : List V} {us : List Value} (h : Vals xs us) : ∀ k : Nat, Vals (List.replicate k xs).flatten (List.replicate k us).flatten
  | 0 => .nil
  | k + 1 => by
    rw [List.replicate_succ, List.replicate_succ, List.flatten_cons, List.flatten_cons]
    exact Vals.append h (Vals.rep h k)
theorem len_erase {α : Type} : ∀ (l : List α) (i : Nat), (l.eraseIdx i).length ≤ l.length
  | [], _ => Nat.le_refl _
  | _ :: _, 0 => Nat.le_succ _
  | _ :: r, i + 1 => Nat.succ_le_succ (len_erase r i)
theorem foldl_rep (its : List Value) : ∀ (k : Nat) (acc : List Value),
    List.foldl (fun x1 x2 => x1 ++ x2) acc.toArray (List.replicate k its.toArray) = (acc ++ (List.replicate k its).flatten).toArray
  | 0, acc => by simp
  | k + 1, acc => by
    have e : acc.toArray ++ its.toArray = (acc ++ its).toArray := by simp
    have e2 : (acc ++ its) ++ (List.replicate k its).flatten = acc ++ (List.replicate (k + 1) its).flatten := by
      rw [List.replicate_succ, List.flatten_cons, List.append_assoc]
    rw [← e2, ← foldl_rep its k (acc ++ its), ← e, List.replicate_succ, List.foldl_cons]

section
variable {X : Cx} {pins : List (Addr × Obj)} {σ : St} {H : Hp} {s : Shared} {l b : Addr} {xs ys zs : List V}

theorem Inv.lset {its its' : List Value} {n : Nat} {f : Array Value → Array Value} {t' : Nat} (I : Inv X pins σ H s) (hH : H l = some (.lst xs))
    (e : s.heap.get? l = some { cls := .type "list", data := .seq its.toArray n }) (hf : f its.toArray = its'.toArray) (hv : Vals ys its') (hz : ys.length ≤ sizeLine) :
    Inv X pins σ (upd H l (.lst ys)) { s with heap := s.heap.update l (Obj.mapSeq f), toks := t' } := by
  have q := PySem.IsL.update e f
  rw [hf] at q
  refine I.write (x := l) (e := l) (by rw [hH]; exact trivial) (.inl rfl) (fun b' u hb hu => (Heap.get?_update_other s.heap (Obj.mapSeq f) (Ne.symm hb)).trans hu) ⟨_, q⟩ ?_
  exact ⟨hz, its', _, hv, q⟩
theorem Inv.lnew {its : List Value} {t' : Nat} (I : Inv X pins σ H s) (hv : Vals ys its) (hz : ys.length ≤ sizeLine) :
    Inv X pins σ (upd H s.heap.objs.size (.lst ys)) { s with heap := s.heap.push { cls := .type "list", data := .seq its.toArray }, toks := t' } :=
  I.laid (fun _ _ q => Heap.get?_push_of_some _ q) (Nat.le_refl _) ⟨hz, its, 0, hv, Heap.get?_push_size _ rfl⟩
theorem Inv.fresh (I : Inv X pins σ H s) : H s.heap.objs.size = none := I.hok.fresh (Nat.le_refl _)
theorem Inv.lstM (I : Inv X pins σ H s) (hH : H l = some (.lst xs)) : xs.length ≤ sizeLine ∧ ∃ (its : List Value) (n : Nat), Vals xs its ∧ xs.length = its.length ∧ s.heap.get? l = some { cls := .type "list", data := .seq its.toArray n } := by
  obtain ⟨z, its, n, r, e⟩ := I.hok l _ hH
  exact ⟨z, its, n, r, r.length, e⟩

theorem notLongL {n : Nat} (h : n ≤ sizeLine) : Builtin.List.listTooLong n = false := by
  unfold Builtin.List.listTooLong
  exact decide_eq_false (by omega)
end

section
variable {X : Cx}

noncomputable def rAppend : V → List V → Hp → VK → Prop := fun x vs H Q => ∃ l xs y, x = .ref l ∧ vs = [y] ∧ H l = some (.lst xs) ∧ xs.length < sizeLine ∧ Q .non (upd H l (.lst (xs ++ [y])))
theorem mt_append : MtM X "list.append" rAppend := by
  intro pins s σ H x vs v us Q I rx rv h
  obtain ⟨l, xs, y, rfl, rfl, hH, hz, q⟩ := h
  cases rx
  obtain ⟨u, rfl, ru⟩ := rv.one
  obtain ⟨z, its, n, r, hl, e⟩ := I.lstM hH
  refine call_meets F.slot_list_append ⟨_, e, rfl⟩ F.entry_list_append (F.args_list_append_2 _ _) (PySem.list_append l its.toArray n u (by rw [List.size_toArray]; omega)) ⟨e, ?_⟩
  refine ⟨.non, _, I.lset (its' := its ++ [u]) hH e (by simp) (r.append (.cons ru .nil)) ?_, rfl, q⟩
  rw [List.length_append, List.length_singleton]
  omega

noncomputable def rExtend : V → List V → Hp → VK → Prop := fun x vs H Q => ∃ l b xs zs, x = .ref l ∧ vs = [.ref b] ∧ H l = some (.lst xs) ∧ H b = some (.lst zs) ∧ xs.length + zs.length ≤ sizeLine ∧ Q .non (upd H l (.lst (xs ++ zs)))
theorem mt_extend : MtM X "list.extend" rExtend := by
  intro pins s σ H x vs v us Q I rx rv h
  obtain ⟨l, b, xs, zs, rfl, rfl, hH, hB, hz, q⟩ := h
  cases rx
  obtain ⟨u, rfl, ru⟩ := rv.one
  cases ru
  obtain ⟨z, its, n, r, hl, e⟩ := I.lstM hH
  obtain ⟨z2, its2, n2, r2, hl2, e2⟩ := I.lstM hB
  have hsz : its.toArray.size + its2.toArray.size ≤ sizeLine := by rw [List.size_toArray, List.size_toArray]; omega
  have hlong : ¬ (!its.toArray.isEmpty && Builtin.List.listTooLong (its.toArray.size + its2.toArray.size)) = true := by
    rw [notLongL hsz, Bool.and_false]
    exact Bool.false_ne_true
  refine call_meets F.slot_list_extend ⟨_, e, rfl⟩ F.entry_list_extend (F.args_list_extend_2 _ _)
    (AutoSeq1.list_extend_list_list_0 l its.toArray n b its2.toArray n2 hlong (by rw [List.size_toArray]; omega) (by omega)) ⟨e, e2, ?_⟩
  refine ⟨.non, _, I.lset (its' := its ++ its2) hH e (by simp) (r.append r2) ?_, rfl, q⟩
  rw [List.length_append]
  omega

noncomputable def rPopAt : V → List V → Hp → VK → Prop := fun x vs H Q => ∃ l xs i k y, x = .ref l ∧ vs = [.int i] ∧ H l = some (.lst xs) ∧ -(2 ^ 63) ≤ i ∧ i < 2 ^ 63 ∧ seqIndex? i xs.length = some k ∧ xs[k]? = some y ∧ Q y (upd H l (.lst (xs.eraseIdx k)))
theorem mt_popAt : MtM X "list.pop" rPopAt := by
  intro pins s σ H x vs v us Q I rx rv h
  obtain ⟨l, xs, i, k, y, rfl, rfl, hH, h1, h2, hk, hy, q⟩ := h
  cases rx
  obtain ⟨u, rfl, ru⟩ := rv.one
  obtain ⟨t, rfl⟩ := ru
  obtain ⟨z, its, n, r, hl, e⟩ := I.lstM hH
  obtain ⟨w, hw, rw'⟩ := r.get hy
  refine call_meets F.slot_list_pop ⟨_, e, rfl⟩ F.entry_list_pop (F.args_list_pop_2 _ _)
    (MeetsSeq.list_pop_at l its.toArray n i t k w (fitsIndex_both h1 h2) (by rw [List.size_toArray, ← hl]; exact hk) (by rw [← Array.getElem?_toList]; exact hw) (by rw [List.size_toArray]; omega)) ⟨e, ?_⟩
  refine ⟨y, _, I.lset (its' := its.eraseIdx k) hH e ?_ (r.eraseIdx k) ?_, rw', q⟩
  · show its.toArray.eraseIdxIfInBounds k = (its.eraseIdx k).toArray
    rw [List.eraseIdxIfInBounds_toArray]
  · have := len_erase xs k
    omega

noncomputable def rCat : R2 := fun x y H Q => ∃ l b xs zs, x = .ref l ∧ y = .ref b ∧ H l = some (.lst xs) ∧ H b = some (.lst zs) ∧ xs.length + zs.length ≤ sizeLine ∧ ∀ p, H p = none → Q (.ref p) (upd H p (.lst (xs ++ zs)))
theorem op_cat : OpR X (binaryOp .Add) rCat := by
  intro pins s σ H x y v u Q I rx ry h
  obtain ⟨l, b, xs, zs, rfl, rfl, hH, hB, hz, q⟩ := h
  cases rx
  cases ry
  obtain ⟨z, its, n, r, hl, e⟩ := I.lstM hH
  obtain ⟨z2, its2, n2, r2, hl2, e2⟩ := I.lstM hB
  refine PySem.P.add_list e e2 ?_ (by rw [List.size_toArray, List.size_toArray]; omega)
  have ea : its.toArray ++ its2.toArray = (its ++ its2).toArray := by simp
  rw [ea]
  exact ⟨.ref _, _, I.lnew (t' := s.toks) (r.append r2) (by rw [List.length_append]; omega), rfl, q _ I.fresh⟩
noncomputable def rRep : R2 := fun x y H Q => ∃ l k xs, x = .ref l ∧ y = .int k ∧ H l = some (.lst xs) ∧ -(2 ^ 63) ≤ k ∧ k < 2 ^ 63 ∧ xs.length * k.toNat ≤ sizeLine ∧
  ∀ p, H p = none → Q (.ref p) (upd H p (.lst (List.replicate k.toNat xs).flatten))
theorem len_rep {α : Type} (xs : List α) (k : Nat) : (List.replicate k xs).flatten.length = k * xs.length := by
  induction k with
  | zero => simp
  | succ k ih => rw [List.replicate_succ, List.flatten_cons, List.length_append, ih, Nat.succ_mul, Nat.add_comm]
theorem op_rep : OpR X (binaryOp .Mult) rRep := by
  intro pins s σ H x y v u Q I rx ry h
  obtain ⟨l, k, xs, rfl, rfl, hH, h1, h2, hz, q⟩ := h
  cases rx
  obtain ⟨t, rfl⟩ := ry
  obtain ⟨z, its, n, r, hl, e⟩ := I.lstM hH
  have hlen : its.toArray.size * k.toNat ≤ sizeLine := by rw [List.size_toArray, ← hl]; exact hz
  have hcap : ¬ its.toArray.size * k.toNat > (2 ^ 63 - 1) / 8 := by
    have : (sizeLine : Nat) ≤ (2 ^ 63 - 1) / 8 := by decide
    omega
  have hfit : ¬ (!Builtin.List.listFitsIndex k) = true := by
    rw [fitsIndex_both h1 h2]
    exact Bool.false_ne_true
  have hlong : ¬ Builtin.List.listTooLong (its.toArray.size * k.toNat) = true := by
    rw [notLongL hlen]
    exact Bool.false_ne_true
  have hnew : List.foldl (fun x1 x2 => x1 ++ x2) #[] (List.replicate (if its.toArray.isEmpty = true then 0 else k.toNat) its.toArray) = (List.replicate k.toNat its).flatten.toArray := by
    have f0 : ∀ m : Nat, List.foldl (fun x1 x2 => x1 ++ x2) #[] (List.replicate m its.toArray) = (List.replicate m its).flatten.toArray := fun m => by
      have := foldl_rep its m []
      rw [List.nil_append] at this
      exact this
    rw [f0]
    cases its with
    | nil => simp
    | cons a r' => rw [if_neg (by simp)]
  refine wpAny_binaryOp_repeat_ref (T := "list") (U := "int") (by decide) ⟨_, e, rfl⟩ (fun s' => typeIs_int s' k t) noFill_list_mul F.fills_int_mul F.slot_int_rmul repeat_list F.slot_int_index.lookup
    (call_meets F.slot_int_rmul (typeIs_int s k t) F.entry_int_rmul (F.args_int_rmul_2 _ _) (int___rmul___int_list k t l its.toArray n)
      ⟨e, rfl, ⟨_, e, rfl⟩, call_meets F.slot_list_mul ⟨_, e, rfl⟩ F.entry_list_mul (F.args_list_mul_2 _ _) (AutoListH.list___mul___list_int_3 l its.toArray n k t hfit hcap hlong) ⟨e, ?_⟩⟩)
  rw [hnew]
  exact ⟨.ref _, _, I.lnew (t' := s.toks) (r.rep k.toNat) (by rw [len_rep, Nat.mul_comm]; exact hz), rfl, q _ I.fresh⟩

end

section
variable {prog : Program} {w : World} {A : Around} {E : Value → Shared → Prop} {s : Shared}
end

section
variable {X : Cx}
end
end L2

namespace L2
open PySem PySem.Spec PyProof.Rows

section
variable {κ : Type} [DecidableEq κ]
noncomputable def valV (kvs : List (κ × V)) (k : κ) : Option V := (kvs.find? fun kv => decide (kv.1 = k)).map (·.2)
noncomputable def putK (kvs : List (κ × V)) (k : κ) (v : V) : List (κ × V) :=
  if (kvs.any fun kv => decide (kv.1 = k)) = true then kvs.map (fun kv => if kv.1 = k then (kv.1, v) else kv) else kvs ++ [(k, v)]
theorem valV_pos {p : κ × V} {r : List (κ × V)} {k : κ} (e : p.1 = k) : valV (p :: r) k = some p.2 := by simp [valV, List.find?_cons, e]
theorem valV_neg {p : κ × V} {r : List (κ × V)} {k : κ} (e : ¬ p.1 = k) : valV (p :: r) k = valV r k := by simp [valV, List.find?_cons, e]
theorem valV_any (k : κ) : ∀ kvs : List (κ × V), (kvs.any fun kv => decide (kv.1 = k)) = (valV kvs k).isSome
  | [] => rfl
  | p :: r => by
    rw [List.any_cons]
    by_cases e : p.1 = k
    · simp only [valV_pos e, decide_eq_true e, Bool.true_or, Option.isSome_some]
    · rw [valV_neg e, decide_eq_false e, Bool.false_or]; exact valV_any k r
theorem valV_map (k j : κ) (y : V) : ∀ kvs : List (κ × V), valV (kvs.map fun kv => if kv.1 = k then (kv.1, y) else kv) j = (valV kvs j).map fun x => if j = k then y else x
  | [] => rfl
  | p :: r => by
    have ih := valV_map k j y r
    rw [List.map_cons]
    by_cases h : p.1 = k
    · rw [if_pos h]
      by_cases e : p.1 = j
      · rw [valV_pos (p := (p.1, y)) e, valV_pos e, Option.map_some, if_pos (e.symm.trans h)]
      · rw [valV_neg (p := (p.1, y)) e, valV_neg e, ih]
    · rw [if_neg h]
      by_cases e : p.1 = j
      · rw [valV_pos (p := p) e, valV_pos e, Option.map_some, if_neg (fun z => h (e.trans z))]
      · rw [valV_neg (p := p) e, valV_neg e, ih]
theorem valV_snoc (k j : κ) (y : V) : ∀ kvs : List (κ × V), valV kvs k = none → valV (kvs ++ [(k, y)]) j = if j = k then some y else valV kvs j
  | [], _ => by
    by_cases e : k = j
    · rw [if_pos e.symm]; exact valV_pos (p := (k, y)) e
    · rw [if_neg (fun z => e z.symm)]; exact valV_neg (p := (k, y)) e
  | p :: r, hn => by
    rw [List.cons_append]
    have hk : ¬ p.1 = k := fun z => by rw [valV_pos z] at hn; cases hn
    rw [valV_neg hk] at hn
    have ih := valV_snoc k j y r hn
    by_cases e : p.1 = j
    · rw [valV_pos e, valV_pos e, if_neg (fun z => hk (e.trans z))]
    · rw [valV_neg e, valV_neg e, ih]
theorem valV_put (kvs : List (κ × V)) (k j : κ) (y : V) : valV (putK kvs k y) j = if j = k then some y else valV kvs j := by
  unfold putK
  by_cases a : (kvs.any fun kv => decide (kv.1 = k)) = true
  · rw [if_pos a, valV_map]
    rw [valV_any] at a
    by_cases e : j = k
    · obtain ⟨x, hx⟩ := Option.isSome_iff_exists.mp a
      rw [if_pos e, e, hx, Option.map_some, if_pos rfl]
    · rw [if_neg e]
      cases valV kvs j with
      | none => rfl
      | some x => rw [Option.map_some, if_neg e]
  · rw [if_neg a]
    refine valV_snoc k j y kvs ?_
    rw [valV_any] at a
    cases q : valV kvs k with
    | none => rfl
    | some x => rw [q] at a; exact (a rfl).elim
theorem length_putK (kvs : List (κ × V)) (k : κ) (v : V) : (putK kvs k v).length ≤ kvs.length + 1 := by
  unfold putK
  split
  · rw [List.length_map]; omega
  · rw [List.length_append, List.length_cons, List.length_nil]; omega
theorem RelO.isSome_eq {o : Option V} {u : Option Value} (r : RelO o u) : o.isSome = u.isSome := by
  cases o with
  | none => cases u with
    | none => rfl
    | some _ => exact (show False from r).elim
  | some _ => cases u with
    | none => exact (show False from r).elim
    | some _ => rfl
theorem RelO.getD {o : Option V} {u : Option Value} {d : V} {d' : Value} (r : RelO o u) (rd : RelV d d') : RelV (o.getD d) (u.getD d') := by
  cases o with
  | none => cases u with
    | none => exact rd
    | some _ => exact (show False from r).elim
  | some _ => cases u with
    | none => exact (show False from r).elim
    | some _ => exact r

theorem KV.val {kvs : List (κ × V)} {vs : List (κ × Value)} (r : KV kvs vs) (k : κ) : RelO (valV kvs k) (valueAt vs k) := by
  unfold KV at r
  induction r with
  | nil => exact True.intro
  | @cons p q ps qs h t ih =>
    obtain ⟨h1, h2⟩ := h
    by_cases e : p.1 = k
    · have e' : q.1 = k := h1.symm.trans e
      have b : valueAt (q :: qs) k = some q.2 := by simp [valueAt, List.find?_cons, e']
      rw [valV_pos e, b]; exact h2
    · have e' : ¬ q.1 = k := fun z => e (h1.trans z)
      have b : valueAt (q :: qs) k = valueAt qs k := by simp [valueAt, List.find?_cons, e']
      rw [valV_neg e, b]; exact ih
theorem KV.any {kvs : List (κ × V)} {vs : List (κ × Value)} (r : KV kvs vs) (k : κ) : (kvs.any fun kv => decide (kv.1 = k)) = vs.any fun kv => decide (kv.1 = k) := by
  unfold KV at r
  induction r with
  | nil => rfl
  | cons h t ih => rw [List.any_cons, List.any_cons, ih, h.1]
theorem KV.repl {kvs : List (κ × V)} {vs : List (κ × Value)} (r : KV kvs vs) (k : κ) {y : V} {u : Value} (ry : RelV y u) :
    KV (kvs.map fun kv => if kv.1 = k then (kv.1, y) else kv) (vs.map fun kv => if kv.1 = k then (kv.1, u) else kv) := by
  unfold KV at r ⊢
  induction r with
  | nil => exact .nil
  | @cons p q ps qs h t ih =>
    rw [List.map_cons, List.map_cons]
    refine .cons ?_ ih
    obtain ⟨h1, h2⟩ := h
    by_cases e : p.1 = k
    · rw [if_pos e, if_pos (h1.symm.trans e)]; exact ⟨h1, ry⟩
    · rw [if_neg e, if_neg (fun z => e (h1.trans z))]; exact ⟨h1, h2⟩
theorem KV.put {kvs : List (κ × V)} {vs : List (κ × Value)} (r : KV kvs vs) (k : κ) {y : V} {u : Value} (ry : RelV y u) : KV (putK kvs k y) (stored vs k u) := by
  unfold putK stored
  rw [r.any k]
  by_cases e : (vs.any fun kv => decide (kv.1 = k)) = true
  · rw [if_pos e, if_pos e]; exact r.repl k ry
  · rw [if_neg e, if_neg e]; exact Paired.snoc r ⟨rfl, ry⟩
theorem KV.keys {kvs : List (κ × V)} {vs : List (κ × Value)} (r : KV kvs vs) : kvs.map (·.1) = vs.map (·.1) := by
  unfold KV at r
  induction r with
  | nil => rfl
  | cons h t ih => rw [List.map_cons, List.map_cons, ih, h.1]
theorem KV.length {kvs : List (κ × V)} {vs : List (κ × Value)} (r : KV kvs vs) : kvs.length = vs.length := Paired.length r
end


theorem kV_is {P : Program} {w : World} {k : Key} {u : Value} (r : RelV (kV k) u) : (mixKind P w).is k u = true := by
  cases k with
  | inl i => obtain ⟨t, e⟩ := (show ∃ t, u = Value.int i t from r); subst e; exact mixKind_int P w i t
  | inr x => obtain ⟨t, e⟩ := (show ∃ t, u = Value.str x t from r); subst e; exact mixKind_str P w x t
theorem items_are {P : Program} {w : World} : ∀ {ks : List Key} {us : List Value}, Vals (ks.map kV) us → ItemsAre (mixKind P w) ks us
  | [], _, r => by rw [List.map_nil] at r; cases r; exact .nil
  | k :: ks, _, r => by
    rw [List.map_cons] at r
    cases r with
    | cons h t => exact .cons (kV_is h) (items_are t)

noncomputable abbrev KT (H : Hp) : List (List Key × V) → List (List Key × Addr × Value) → Prop := Paired fun p q => p.1 = q.1 ∧ H q.2.1 = some (.tup (p.1.map kV)) ∧ RelV p.2 q.2.2
theorem KT.val {H : Hp} {kvs : List (List Key × V)} {xs : List (List Key × Addr × Value)} (r : KT H kvs xs) (k : List Key) : RelO (valV kvs k) ((atKey xs k).map (·.2)) := by
  induction r with
  | nil => exact True.intro
  | @cons p q ps qs h t ih =>
    obtain ⟨h1, _, h2⟩ := h
    by_cases e : p.1 = k
    · have e' : q.1 = k := h1.symm.trans e
      have b : atKey (q :: qs) k = some q.2 := by simp [atKey, List.find?_cons, e']
      rw [valV_pos e, b]; exact h2
    · have e' : ¬ q.1 = k := fun z => e (h1.trans z)
      have b : atKey (q :: qs) k = atKey qs k := by simp [atKey, List.find?_cons, e']
      rw [valV_neg e, b]; exact ih
theorem KT.repl {H : Hp} {kvs : List (List Key × V)} {xs : List (List Key × Addr × Value)} (r : KT H kvs xs) (k : List Key) {y : V} {u : Value} (ry : RelV y u) :
    KT H (kvs.map fun kv => if kv.1 = k then (kv.1, y) else kv) (xs.map (putAt k u)) := by
  induction r with
  | nil => exact .nil
  | @cons p q ps qs h t ih =>
    rw [List.map_cons, List.map_cons]
    refine .cons ?_ ih
    obtain ⟨h1, h2, h3⟩ := h
    unfold putAt
    by_cases e : p.1 = k
    · rw [if_pos e, if_pos (h1.symm.trans e)]; exact ⟨h1, h2, ry⟩
    · rw [if_neg e, if_neg (fun z => e (h1.trans z))]; exact ⟨h1, h2, h3⟩
theorem KT.put {H : Hp} {kvs : List (List Key × V)} {xs : List (List Key × Addr × Value)} (r : KT H kvs xs) (k : List Key) {b : Addr} {y : V} {u : Value} (hb : H b = some (.tup (k.map kV))) (ry : RelV y u) :
    KT H (putK kvs k y) (storedH xs k b u) := by
  have e : (kvs.any fun kv => decide (kv.1 = k)) = (atKey xs k).isSome := by
    rw [valV_any, (r.val k).isSome_eq, Option.isSome_map]
  unfold putK storedH
  rw [e]
  by_cases q : (atKey xs k).isSome = true
  · rw [if_pos q, if_pos q]; exact r.repl k ry
  · rw [if_neg q, if_neg q]; exact Paired.snoc r ⟨rfl, hb, ry⟩
theorem KT.keeps {H H' : Hp} {kvs : List (List Key × V)} {xs : List (List Key × Addr × Value)} (r : KT H kvs xs) (ht : ∀ b ys, H b = some (.tup ys) → H' b = some (.tup ys)) : KT H' kvs xs :=
  Paired.mapP r fun _ _ z => ⟨z.1, ht _ _ z.2.1, z.2.2⟩

section
variable {P : Program} {w : World} {H : Hp} {h : Heap} {a : Addr}
theorem rd_of {u : HO} (ok : HOk P w H h) (e : Rd H a u) : ObjOk P w H h a u := e.ok ok
theorem dk_rd {kvs : List (Key × V)} (ok : HOk P w H h) (e : Rd H a (.dK kvs)) : kvs.length ≤ sizeLine ∧ (a == sysModules) = false ∧ ∃ vs, KV kvs vs ∧ h.DictOf (mixKind P w) a vs :=
  show ObjOk P w H h a (.dK kvs) from rd_of ok e
theorem dk_of {kvs : List (Key × V)} (ok : HOk P w H h) (e : H a = some (.dK kvs)) : kvs.length ≤ sizeLine ∧ (a == sysModules) = false ∧ ∃ vs, KV kvs vs ∧ h.DictOf (mixKind P w) a vs := dk_rd ok (.inl e)
theorem key_of {ks : List Key} (ok : HOk P w H h) (e : H a = some (.tup (ks.map kV))) : (tupleKind (mixKind P w)).is h ks a := by
  obtain ⟨_, its, r, o, h1, h2, n, h3⟩ := (show ObjOk P w H h a (.tup (ks.map kV)) from ok a _ e)
  exact ⟨o, its.toArray, n, h1, h2, h3, by simpa using items_are r⟩
theorem dt_rd {kvs : List (List Key × V)} (ok : HOk P w H h) (e : Rd H a (.dT kvs)) : kvs.length ≤ sizeLine ∧ (a == sysModules) = false ∧
    ∃ xs, KT H kvs xs ∧ h.DictOfH (tupleKind (mixKind P w)) a xs := by
  obtain ⟨z, y, xs, r, o, es, ep, h1, h2, h3, h4, h5⟩ := (show ObjOk P w H h a (.dT kvs) from rd_of ok e)
  refine ⟨z, y, xs, r, o, es, ep, h1, h2, h3, h4, fun x hx => ?_, h5⟩
  have all : ∀ {l : List (List Key × V)} {m : List (List Key × Addr × Value)}, KT H l m → ∀ x ∈ m, (tupleKind (mixKind P w)).is h x.1 x.2.1 := by
    intro l m q
    induction q with
    | nil => intro x hx; exact nomatch hx
    | @cons p q ps qs hq t ih =>
      intro x hx
      rcases List.mem_cons.mp hx with e | hx
      · subst e
        exact key_of ok (by rw [← hq.1]; exact hq.2.1)
      · exact ih x hx
  exact all r x hx
theorem dt_of {kvs : List (List Key × V)} (ok : HOk P w H h) (e : H a = some (.dT kvs)) : kvs.length ≤ sizeLine ∧ (a == sysModules) = false ∧
    ∃ xs, KT H kvs xs ∧ h.DictOfH (tupleKind (mixKind P w)) a xs := dt_rd ok (.inl e)
end

noncomputable def DGet (H : Hp) (a : Addr) (y : V) (r : Option V) : Prop :=
  (∃ kvs k, Rd H a (.dK kvs) ∧ y = kV k ∧ r = valV kvs k) ∨ ∃ kvs k b, Rd H a (.dT kvs) ∧ y = .ref b ∧ H b = some (.tup (k.map kV)) ∧ r = valV kvs k
noncomputable def DPut (H : Hp) (a : Addr) (y v : V) (H' : Hp) : Prop :=
  (∃ kvs k, H a = some (.dK kvs) ∧ y = kV k ∧ kvs.length < sizeLine ∧ H' = upd H a (.dK (putK kvs k v))) ∨
  ∃ kvs k b, H a = some (.dT kvs) ∧ y = .ref b ∧ H b = some (.tup (k.map kV)) ∧ kvs.length < sizeLine ∧ H' = upd H a (.dT (putK kvs k v))
theorem DGet.k {H : Hp} {a : Addr} {kvs : List (Key × V)} {k : Key} (e : H a = some (.dK kvs)) : DGet H a (kV k) (valV kvs k) := .inl ⟨kvs, k, .inl e, rfl, rfl⟩
theorem DPut.k {H : Hp} {a : Addr} {kvs : List (Key × V)} {k : Key} {v : V} (e : H a = some (.dK kvs)) (hl : kvs.length < sizeLine) : DPut H a (kV k) v (upd H a (.dK (putK kvs k v))) := .inl ⟨kvs, k, e, rfl, hl, rfl⟩
section
variable {X : Cx} {pins : List (Addr × Obj)} {σ : St} {H : Hp} {s : Shared} {a : Addr} {y v : V} {u r : Value} {o : Option V} {A : Around} {E : Value → Shared → Prop}

theorem Inv.big (I : Inv X pins σ H s) : sysModules < s.heap.objs.size := by
  have h : mainGlobals < s.heap.objs.size := (I.mod.glob.keeps I.bk).lt
  exact Nat.lt_trans (by decide) h

theorem d_getItem {Q : Value → Shared → Prop} (hu : A.units + 1 < cLine) (I : Inv X pins σ H s) (g : DGet H a y (some v)) (ry : RelV y u) (h : ∀ w' s', Inv X pins σ H s' → RelV v w' → Q w' s') :
    wpAny (model X.prog X.w) A (getItem (.ref a) u) Q E s := by
  rcases g with ⟨kvs, k, e, ey, l⟩ | ⟨kvs, k, b, e, ey, eb, l⟩
  · subst ey
    obtain ⟨z, hd, vs, rel, dd⟩ := dk_rd I.hok e
    obtain ⟨w', hw, rw'⟩ := RelO.some_of (v := v) (o := valueAt vs k) (by rw [l]; exact rel.val k)
    exact wpAny_getItem_of (kV_is ry) dd.mapOf hw (h w' _ (I.tok _) rw')
  · subst ey
    cases (show u = Value.ref b from ry)
    obtain ⟨z, hd, xs, rel, dd⟩ := dt_rd I.hok e
    obtain ⟨w', hw, rw'⟩ := RelO.some_of (v := v) (o := (atKey xs k).map (·.2)) (by rw [l]; exact rel.val k)
    obtain ⟨p, hp, hp2⟩ := Option.map_eq_some_iff.mp hw
    refine wpAny_getItem_heap (tupleKind_room_in1 hu) (key_of I.hok eb) dd hp ?_
    rw [hp2]
    exact h w' _ (I.tok _) rw'
theorem d_write {h' : Heap} {t' : Nat} {ob : HO} (I : Inv X pins σ H s) (mu : Mut (H a)) (hs : Heap.SameBut a s.heap h') (he : ∃ q, h'.get? a = some q) (new : ObjOk X.prog X.w (upd H a ob) h' a ob) :
    Inv X pins σ (upd H a ob) { s with heap := h', toks := t' } :=
  I.write (x := a) (e := a) mu (.inl rfl) (fun b q hb z => (hs.2 b hb).trans z) he new
theorem dk_new {P : Program} {w : World} {H' : Hp} {h' : Heap} {kvs : List (Key × V)} {vs : List (Key × Value)} (z : kvs.length ≤ sizeLine) (hd : (a == sysModules) = false) (rel : KV kvs vs) (dd : h'.DictOf (mixKind P w) a vs) :
    ObjOk P w H' h' a (.dK kvs) := ⟨z, hd, vs, rel, dd⟩
theorem d_setItem {H' : Hp} {Q : Unit → Shared → Prop} (hu : A.units + 1 < cLine) (I : Inv X pins σ H s) (g : DPut H a y v H') (ry : RelV y u) (rv : RelV v r) (h : ∀ s', Inv X pins σ H' s' → Q () s') :
    wpAny (model X.prog X.w) A (setItem (.ref a) u r) Q E s := by
  rcases g with ⟨kvs, k, e, ey, l, eH⟩ | ⟨kvs, k, b, e, ey, eb, l, eH⟩
  · subst ey eH
    obtain ⟨z, hd, vs, rel, dd⟩ := dk_of I.hok e
    have hz : vs.length ≤ sizeLine := by rw [← rel.length]; exact z
    have hl : (putK kvs k v).length ≤ sizeLine := by have := length_putK kvs k v; omega
    refine wpAny_setItem_pairs (hsz := hz) (kV_is ry) dd fun h' dd' hs => h _ ?_
    have he : ∃ q, h'.get? a = some q := let ⟨q, _, _, hq, _⟩ := dd'; ⟨q, hq⟩
    exact d_write I (by rw [e]; exact True.intro) hs he (dk_new hl hd (rel.put k rv) dd')
  · subst ey eH
    cases (show u = Value.ref b from ry)
    obtain ⟨z, hd, xs, rel, dd⟩ := dt_of I.hok e
    have hz : xs.length ≤ sizeLine := by rw [← Paired.length rel]; exact z
    have hl : (putK kvs k v).length ≤ sizeLine := by have := length_putK kvs k v; omega
    refine wpAny_setItem_heap (hsz := hz) (tupleKind_room_in1 hu) (key_of I.hok eb) dd fun h' dd' hs => h _ ?_
    obtain ⟨q, es, ep, hq, h2, h3, h4, _, h5⟩ := dd'
    refine d_write I (by rw [e]; exact True.intro) hs ⟨q, hq⟩ ⟨hl, hd, _, (rel.put k eb rv).keeps fun c ys ec => ?_, q, es, ep, hq, h2, h3, h4, h5⟩
    rw [upd_ne (ne_of ec e (fun z => nomatch z))]
    exact ec
end

section
variable {X : Cx} {pins : List (Addr × Obj)} {σ : St} {H : Hp} {s : Shared} {a : Addr} {kvs : List (Key × V)} {k : Key} {u : Value} {A : Around} {E : Value → Shared → Prop}
theorem d_len {Q : Value → Shared → Prop} (I : Inv X pins σ H s) (e : Rd H a (.dK kvs)) (h : ∀ t s', Inv X pins σ H s' → Q (.int kvs.length t) s') : wpAny (model X.prog X.w) A (call (.builtin "len") [.ref a]) Q E s := by
  obtain ⟨z, hd, vs, rel, dd⟩ := dk_rd I.hok e
  refine call_len_dict hd dd (by rw [← rel.length]; rw [sizeLine_eq] at z; omega) ?_
  rw [← rel.length]
  exact h _ _ (I.tok _)
end


noncomputable def NoSl (i : Expr) : Prop := ∀ ov iv, subscripted i false ov iv = operate [ov, iv] (getItem ov iv)
theorem subD_of {prog : Program} {w : World} {A : Around} {E : Value → Shared → Prop} {s : Shared} {env : Env} {value slice : Expr} {pos : Pos} {T id : String} {Q : Value → Shared → Prop}
    (hl : typeLookup (.type T) "__getitem__" = pure (some (.builtin id))) (hs : NoSl slice)
    (h : wpAny (model prog w) A (eval value env) (fun o s₁ => wpAny (model prog w) A (eval slice env) (fun i s₂ => s₂.TypeIs o T ∧ wpAny (model prog w) A (getItem o i) Q E s₂) E s₁) E s) :
    wpAny (model prog w) A (eval (.Subscript value slice pos) env) Q E s := by
  refine Subscript_ (wpAny_mono h (fun o s₁ h₁ => wpAny_mono h₁ (fun i s₂ h₂ => ?_) fun _ _ x => x) fun _ _ x => x)
  obtain ⟨hT, h₂⟩ := h₂
  unfold subscriptTail
  refine wpAny_bind ?_
  rw [getitemInPython_of_ne hT.not_modules]
  refine wpAny_bind (wpAny_specialOf hT hl ?_)
  have fin : wpAny (model prog w) A (subscripted slice false o i) (fun r s₃ => wpAny (model prog w) A (letTemporaryGo value o r >>= fun _ => pure r) Q E s₃) E s₂ := by
    rw [hs o i]
    exact wpAny_operating (wpAny_mono h₂ (fun r s₃ h₃ => wpAny_bind (wpAny_letTemporaryGo (wpAny_pure h₃))) fun _ _ x => x)
  first
    | exact wpAny_pure (wpAny_bind fin)
    | exact wpAny_bind (wpAny_pure (wpAny_bind fin))
    | exact wpAny_bind fin

theorem dict_typeIs {X : Cx} {pins : List (Addr × Obj)} {σ : St} {H : Hp} {s : Shared} {a : Addr} {y : V} {o : Option V} (I : Inv X pins σ H s) (g : DGet H a y o) : s.TypeIs (.ref a) "dict" := by
  rcases g with ⟨kvs, k, e, _, _⟩ | ⟨kvs, k, b, e, _, _, _⟩
  · obtain ⟨_, _, vs, _, dd⟩ := dk_rd I.hok e
    exact dd.typeIs
  · obtain ⟨_, _, xs, _, dd⟩ := dt_rd I.hok e
    exact dd.typeIs
noncomputable def tDGet (td ty : TE) : TE := fun σ H Q => td σ H fun x H1 => ty σ H1 fun y H2 => ∃ a v, x = .ref a ∧ DGet H2 a y (some v) ∧ Q v H2
noncomputable def sDPut (td ty tv : TE) : TS := fun D σ H => tv σ H fun v H1 => td σ H1 fun x H2 => ty σ H2 fun y H3 => ∃ a H4, x = .ref a ∧ DPut H3 a y v H4 ∧ D.nx σ H4
section
variable {X : Cx} {o i e value : Expr} {pos pos' tpos : Pos} {td ty tv : TE}
theorem pe_dget (hu : X.A.units + 1 < cLine) (ho : PE X o td) (hi : PE X i ty) (hs : NoSl i) : PE X (.Subscript o i pos) (tDGet td ty) := by
  constructor; intro pins s σ H Q I h
  refine subD_of PySem.F.slot_dict_getitem.lookup hs (thn (ho pins s σ H _ I h) fun u s1 ⟨x, H1, I1, rx, q1⟩ => thn (hi pins s1 σ H1 _ I1 q1) fun iv s2 ⟨y, H2, I2, ry, a, v, ex, g, q2⟩ => ?_)
  subst ex
  obtain rfl : u = Value.ref a := rx
  exact ⟨dict_typeIs I2 g, d_getItem hu I2 g ry fun w' s3 I3 rw' => ⟨v, H2, I3, rw', q2⟩⟩
theorem ps_dput (hu : X.A.units + 1 < cLine) (ho : PE X o td) (hi : PE X i ty) (hv : PE X value tv) (hs : swapsWith value (some (.Subscript o i pos')) pos.line X.env = pure false) :
    PS X (.Assign [.Subscript o i pos'] value pos) (sDPut td ty tv) := by
  constructor; intro pins s σ H D I h
  refine wpAny_Assign_Subscript (thn (hv pins s σ H _ I h) fun r s1 ⟨v, H1, I1, rv, q1⟩ => thn (ho pins s1 σ H1 _ I1 q1) fun u s2 ⟨x, H2, I2, rx, q2⟩ => thn (hi pins s2 σ H2 _ I2 q2) fun iv s3 ⟨y, H3, I3, ry, a, H4, ex, g, q3⟩ => ?_) hs
  subst ex
  obtain rfl : u = Value.ref a := rx
  exact d_setItem hu I3 g ry rv fun s4 I4 => ⟨σ, H4, I4, q3⟩
end


theorem dk_empty {P : Program} {w : World} {H : Hp} (h : Heap) (hb : sysModules < h.objs.size) : ObjOk P w H (h.push { cls := .type "dict", data := .dict #[] }) h.objs.size (.dK []) :=
  ⟨Nat.zero_le _, beq_eq_false_iff_ne.mpr (Ne.symm (Nat.ne_of_lt hb)), [], .nil, Heap.DictOf.new h⟩
noncomputable def tDNewK : TE := fun _ H Q => ∀ p, H p = none → Q (.ref p) (upd H p (.dK []))
section
variable {X : Cx} {pos : Pos}
theorem pe_dnewK : PE X (.Dict [] [] pos) tDNewK := ⟨fun pins s σ H Q I h =>
  wpAny_Dict_empty ⟨.ref s.heap.objs.size, _, I.laid (a := s.heap.objs.size) (o := .dK []) (t' := s.toks) (fun _ _ q => Heap.get?_push_of_some _ q) (Nat.le_refl _) (dk_empty s.heap I.big), rfl, h _ (I.hok.fresh (Nat.le_refl _))⟩⟩
end

structure M1 (X : Cx) (o : Expr) (m : Str) (apos : Pos) (e : Expr) (cpos : Pos) : Prop where
  base : attributeBase o m X.env (eval o X.env) = eval o X.env
  few : ((backTo cpos (starEach [e] X.env)).all (fun x => !x.1) && (backToKw cpos (keywordEach [] X.env)).all (fun x => x.1.isSome)
    && decide (([e] : List Expr).length + ([] : List Keyword).length + (if ([] : List Keyword).isEmpty then 0 else 1) < 30)) = true
  line : (apos.endLine == cpos.line) = true
  trees : backTo cpos (starEach [e] X.env) = [(false, eval e X.env)]
structure M2 (X : Cx) (o : Expr) (m : Str) (apos : Pos) (e f : Expr) (cpos : Pos) : Prop where
  base : attributeBase o m X.env (eval o X.env) = eval o X.env
  few : ((backTo cpos (starEach [e, f] X.env)).all (fun x => !x.1) && (backToKw cpos (keywordEach [] X.env)).all (fun x => x.1.isSome)
    && decide (([e, f] : List Expr).length + ([] : List Keyword).length + (if ([] : List Keyword).isEmpty then 0 else 1) < 30)) = true
  line : (apos.endLine == cpos.line) = true
  trees : backTo cpos (starEach [e, f] X.env) = [(false, eval e X.env), (false, eval f X.env)]

noncomputable def IsD (H : Hp) (a : Addr) : Prop := (∃ kvs, Rd H a (.dK kvs)) ∨ ∃ kvs, Rd H a (.dT kvs)
theorem isD_at {X : Cx} {pins : List (Addr × Obj)} {σ : St} {H : Hp} {s : Shared} {a : Addr} (I : Inv X pins σ H s) (d : IsD H a) :
    s.TypeIs (.ref a) "dict" ∧ (∀ b, Value.ref a = .ref b → ∃ ob, s.heap.get? b = some ob ∧ ob.dict = none) ∧ (a == sysModules) = false := by
  rcases d with ⟨kvs, e⟩ | ⟨kvs, e⟩
  · obtain ⟨_, hd, vs, _, dd⟩ := dk_rd I.hok e
    refine ⟨dd.typeIs, fun b q => ?_, hd⟩
    cases q
    obtain ⟨ob, _, _, h1, h2, _⟩ := dd
    exact ⟨ob, h1, h2.2.1⟩
  · obtain ⟨_, hd, xs, _, dd⟩ := dt_rd I.hok e
    refine ⟨dd.typeIs, fun b q => ?_, hd⟩
    cases q
    obtain ⟨ob, _, _, h1, h2, _⟩ := dd
    exact ⟨ob, h1, h2.2.1⟩

section
variable {X : Cx} {pins : List (Addr × Obj)} {σ : St} {H : Hp} {s : Shared} {a : Addr} {y d : V} {u r : Value} {o : Option V} {A : Around} {E : Value → Shared → Prop}
theorem d_get2 {Q : Value → Shared → Prop} (hu : A.units + 1 < cLine) (I : Inv X pins σ H s) (g : DGet H a y o) (ry : RelV y u) (rd : RelV d r) (h : ∀ w' s', Inv X pins σ H s' → RelV (o.getD d) w' → Q w' s') :
    wpAny (model X.prog X.w) A (call (.builtin "dict.get") [.ref a, u, r]) Q E s := by
  rcases g with ⟨kvs, k, e, ey, l⟩ | ⟨kvs, k, b, e, ey, eb, l⟩
  · subst ey
    obtain ⟨z, hd, vs, rel, dd⟩ := dk_rd I.hok e
    refine call_meetsIn PySem.F.slot_dict_get dd.typeIs PySem.F.entry_dict_get (PySem.F.args_dict_get_3 _ _ _) (meets_dict_get_default (mixKind X.prog X.w) a (kV_is ry) hd r) ⟨_, dd.mapOf, h _ _ (I.tok _) ?_⟩
    rw [l]
    exact (rel.val k).getD rd
  · subst ey
    cases (show u = Value.ref b from ry)
    obtain ⟨z, hd, xs, rel, dd⟩ := dt_rd I.hok e
    refine call_meetsIn PySem.F.slot_dict_get dd.typeIs PySem.F.entry_dict_get (PySem.F.args_dict_get_3 _ _ _) (meetsH_dict_get_default (tupleKind (mixKind X.prog X.w)) a b hd r) ⟨tupleKind_room_in1 hu, k, xs, key_of I.hok eb, dd, h _ _ (I.tok _) ?_⟩
    rw [l]
    exact (rel.val k).getD rd
end

noncomputable def tDGet2 (td ty tx : TE) : TE := fun σ H Q => td σ H fun x H1 => ∃ a, x = .ref a ∧ IsD H1 a ∧ ty σ H1 fun y H2 => tx σ H2 fun z H3 => ∃ o, DGet H3 a y o ∧ Q (o.getD z) H3
section
variable {X : Cx} {o e f : Expr} {apos cpos : Pos} {td ty tx : TE}
theorem pe_dget2 (hu : X.A.units + 1 < cLine) (ho : PE X o td) (he : PE X e ty) (hf : PE X f tx) (m : M2 X o "get" apos e f cpos) : PE X (.Call (.Attribute o "get" apos) [e, f] [] cpos) (tDGet2 td ty tx) := by
  constructor; intro pins s σ H Q I h
  refine wpAny_Call_method m.base m.few m.line PySem.F.plainAttrs_dict PySem.F.slot_dict_get PySem.F.type_dict_get (thn (ho pins s σ H _ I h) fun u s1 ⟨x, H1, I1, rx, a, ex, d, q1⟩ => ?_)
  subst ex
  obtain rfl : u = Value.ref a := rx
  obtain ⟨t1, t2, _⟩ := isD_at I1 d
  refine ⟨t1, t2, ?_⟩
  rw [m.trees]
  refine Calls.callWith_builtin rfl (Calls.evalArgs_plain (Calls.spliced_cons (thn (he pins s1 σ H1 _ I1 q1) fun iv s2 ⟨y, H2, I2, ry, q2⟩ =>
    Calls.spliced_cons (thn (hf pins s2 σ H2 _ I2 q2) fun fv s3 ⟨z, H3, I3, rz, ov, g, q3⟩ => Calls.spliced_nil ?_))))
  exact d_get2 hu I3 g ry rz fun w' s4 I4 rw' => ⟨_, H3, I4, rw', q3⟩
end

section
variable {X : Cx} {pins : List (Addr × Obj)} {σ : St} {H : Hp} {s : Shared} {a : Addr} {kvs : List (Key × V)} {A : Around} {E : Value → Shared → Prop}
end


section
variable {X : Cx} {pins : List (Addr × Obj)} {σ : St} {H : Hp} {s : Shared} {a : Addr} {y : V} {u : Value} {A : Around} {E : Value → Shared → Prop}
end
end L2

namespace Att
open PySem PySem.W PySem.Calls PyProof.Rows

theorem ints_of_wellAll {P : Params} {h : Heap} : ∀ (ns : List Int) (vs : List Value), WellAll P h vs (ns.map WData.int) → IntsAre vs ns := by
  intro ns
  induction ns with
  | nil =>
    intro vs w
    rw [List.map_nil] at w
    cases w
    exact .nil
  | cons n ns ih =>
    intro vs w
    rw [List.map_cons] at w
    cases w with
    | cons a b =>
      cases a
      exact .cons _ _ (ih _ b)

theorem script_of {l : OpenLaw} {n : Nat} (hn : l.most = some n) {P : Params} {h : Heap} {args : List WData} {vals : List Value}
    (hpre : l.row.toRowW.claim.pre args = true) (hwl : WellAll P h vals args) :
    ∃ a vs ns, vals = [Value.ref a] ∧ args = [WData.list (ns.map WData.int)] ∧ h.get? a = some { cls := .type "list", data := .seq vs.toArray } ∧ IntsAre vs ns ∧ ns.length ≤ n := by
  have hsh : WShape.hasAll [] args [.list .int] = true := (pre_splitW hpre).1
  have hc : l.pre.holds [] { args := args } = true := (pre_splitW hpre).2
  obtain ⟨d, r, rfl, h1, h2⟩ := hasAllW_cons hsh
  obtain rfl := hasAllW_nil h2
  obtain ⟨xs, rfl, h3⟩ := hasW_list h1
  obtain ⟨ns, rfl⟩ := items_int h3
  have hlen : ns.length ≤ n := by
    unfold OpenLaw.pre at hc
    have h4 : (WTm.not (.lt (.lit (.int (n : Int))) (.len (.arg 0)))).holds [] { args := [.list (ns.map .int)] } = true := by
      have h4 := (holds_andW hc).1
      rw [hn] at h4
      exact h4
    have h5 := condW_of h4 (w_not (w_lt w_lit (w_len_list (w_arg rfl))))
    rw [List.length_map] at h5
    refine Nat.le_of_not_lt fun q => ?_
    have q' : (n : Int) < ((ns.length : Nat) : Int) := by omega
    first
      | (rw [decide_eq_true q'] at h5; exact absurd h5 (by decide))
      | (simp at h5; omega)
  cases hwl with
  | cons w1 w2 =>
    cases w2
    cases w1 with
    | list ho hall => exact ⟨_, _, ns, rfl, rfl, ho, ints_of_wellAll ns _ hall, hlen⟩

theorem post_true (l : OpenLaw) (args : List WData) : l.row.toRowW.claim.post args (.bool true) args = true :=
  postW_of (r := l.row.toRowW) (X := (true == true))
    (show WShape.has [] (.bool true) .bool = true by first | rfl | decide | simp [WShape.has, WShape.arms, WShape.armsAll])
    (show (WTm.eq .res (.lit (.bool true))).value [] { args := args, res := some (.bool true), after := args } = some (.bool (true == true)) from w_eq_bool (w_res rfl) w_lit) rfl

section
variable {prog : Program} {w : World} {A : Around} {E : Value → Shared → Prop} {s : Shared} {K : Frag}

noncomputable def ledger (h : Heap) (L d : Addr) : List (Addr × Obj) := (List.range h.objs.size).filterMap fun a => if a = L ∨ a = d then none else (h.get? a).map fun o => (a, o)
end
end Att

namespace L2
open PySem PySem.Spec PyProof.Rows

theorem vals_ints : ∀ {vs : List Value} {ns : List Int}, IntsAre vs ns → Vals (ns.map V.int) vs
  | _, _, .nil => .nil
  | _, _, .cons n t h => .cons ⟨t, rfl⟩ (vals_ints h)

noncomputable def Only (H : Hp) : Prop := ∀ b, H b = none ∨ ∃ o xs, H b = some (.frz o (.lst xs))

theorem law_call {P : Program} {w : World} {K : PySem.W.Frag} {mg mb : Str → Option Value} {CX : CXT} {k : Nat} {fa a : Addr} {fd : FuncData} {x : Str} {sp : Sp} {s₁ : Shared} {vs : List Value} {ns : List Int}
    (KX : K.In s₁.heap) (hns : s₁.heap.Ns mainGlobals mg) (hb : s₁.heap.Ns builtinsNs mb) (hbb : ∀ x : Str, x ≠ "__name__" → mb x = bootBuiltins x) (hlim : s₁.heap.NoLimit) (hg : s₁.gens = #[])
    (ha : s₁.heap.get? a = some { cls := .type "list", data := .seq vs.toArray }) (hi : IntsAre vs ns) (hl : ns.length ≤ sizeLine) (hr : Room k callerA)
    (F : ∀ base : Heap, K.In base → base.Ns mainGlobals mg → FnOk P w K mg base CX k fa fd [x] sp) (hbind : ∀ (s : Shared) (u : Value), BindsTo s fd ⟨[u], []⟩ [(x, u)])
    (hsp : ∀ H : Hp, Only H → SqL K H a (ns.map V.int) → sp [.ref a] H (fun v _ => v = .bl true) fun _ _ _ => False)
    (hCX : ∀ H e s', CX [] H s₁ (fun _ _ _ => False) e s' → False) :
    codeAny (model P w) callerA (.call (.ref fa) ⟨[.ref a], []⟩) (fun r s' => r = .ok (.ret (.bool true)) ∧ OldK s₁.heap s'.heap ∧ s'.os = s₁.os ∧ AllBare s'.gens) s₁ := by
  have rv := vals_ints hi
  have lenV := hi.length
  -- from an abstract heap in which nothing but the script may be tracked
  have core : ∀ H : Hp, Only H → SqL K H a (ns.map V.int) → HOk P w H s₁.heap → (∀ b, H b ≠ none → b = a) → (H a ≠ none → K.lookup a = none) →
      codeAny (model P w) callerA (.call (.ref fa) ⟨[.ref a], []⟩) (fun r s' => r = .ok (.ret (.bool true)) ∧ OldK s₁.heap s'.heap ∧ s'.os = s₁.os ∧ AllBare s'.gens) s₁ := by
    intro H hO hS hok hA hK
    have base_of : ∀ {b : Addr} {o : Obj}, s₁.heap.get? b = some o → H b = none → (hidT s₁.heap H).get? b = some o := fun e n => hidT_get e n
    have noA : ∀ {b : Addr} {o : Obj} {es : Array DictEntry} {ep : Nat}, s₁.heap.get? b = some o → o.data = .dict es ep → H b = none := fun {b o es ep} e d => by
      cases q : H b with
      | none => rfl
      | some u =>
        have e' : b = a := hA b (by rw [q]; simp)
        subst e'
        rw [ha] at e; cases e
        have d' : Data.seq vs.toArray _ = Data.dict es ep := d
        cases d'
    have nsK : ∀ {b : Addr} {m : Str → Option Value}, s₁.heap.Ns b m → (hidT s₁.heap H).Ns b m := fun {b m} ⟨o, es, ep, e, d, r⟩ => ⟨o, es, ep, base_of e (noA e d), d, r⟩
    have hKb : K.In (hidT s₁.heap H) := fun b o e => base_of (KX b o e) (by
      cases q : H b with
      | none => rfl
      | some u =>
        have e' : b = a := hA b (by rw [q]; simp)
        subst e'
        rw [hK (by rw [q]; simp)] at e; cases e)
    have hM : Mod K mg (hidT s₁.heap H) := ⟨hKb, nsK hns, ⟨mb, nsK hb, hbb⟩, let ⟨mc, h1, h2⟩ := hlim; ⟨mc, nsK h1, h2⟩⟩
    have e0 : Env0 P w K mg (hidT s₁.heap H) callerA [] s₁ H := ⟨rfl, hM, fun b o e => of_hidT e, Nat.le_of_eq (hidT_size _ _), trivial, fun b hb => absurd (show b ∈ ([] : List Addr) from hb) (by simp), hok, .of_eq hg⟩
    refine codeAny_mono ((F _ hKb (nsK hns)).run callerA [] s₁ H ⟨[.ref a], []⟩ [.ref a] [.ref a] _ _ hr e0 (hbind s₁ (.ref a)) (.cons rfl .nil) (hsp H hO hS)) fun r s' h => ?_
    cases r with
    | error e => exact (hCX H e s' h).elim
    | ok fl =>
      cases fl with
      | next => exact False.elim h
      | brk => exact False.elim h
      | cont => exact False.elim h
      | ret u =>
        obtain ⟨v, H', os, bare, un, hok', r', q⟩ := h
        have q' : v = .bl true := q
        subst q'
        obtain rfl : u = Value.bool true := r'
        refine ⟨rfl, OldK.of_keep fun b o e => ?_, os, bare⟩
        cases q : H b with
        | none => exact un.keep b o e q (by intro z; exact absurd (show b ∈ ([] : List Addr) from z) (by simp)) (by simp)
        | some u =>
          rcases hO b with z | ⟨ob, xs, z⟩
          · rw [q] at z; cases z
          · have z2 := un.frzs b ob _ z
            obtain ⟨e1, _⟩ := hok b _ z
            obtain ⟨e2, _⟩ := hok' b _ z2
            rw [e] at e1; cases e1
            exact e2
  cases hk : K.lookup a with
  | some o =>
    -- the script is one of the module's own objects
    have e := KX a o hk
    rw [ha] at e
    cases e
    refine core (fun _ => none) (fun _ => .inl rfl) (.inr ⟨_, vs.toArray, _, hk, rfl, rfl, rfl, by rw [List.size_toArray, lenV]; exact hl, by simpa using rv⟩) (fun b u z => by have z' : (none : Option HO) = some u := z; cases z') (fun b z => absurd rfl z) fun z => absurd rfl z
  | none =>
    refine core (fun b => if b = a then some (.frz { cls := .type "list", data := .seq vs.toArray } (.lst (ns.map V.int))) else none) (fun b => ?_) (.inl (.inr ⟨{ cls := .type "list", data := .seq vs.toArray }, if_pos rfl⟩)) (fun b u z => ?_) (fun b z => ?_) fun _ => hk
    · by_cases hb : b = a
      · exact .inr ⟨_, _, if_pos hb⟩
      · exact .inl (if_neg hb)
    · by_cases hb : b = a
      · have z' := (if_pos hb).symm.trans z
        cases z'
        subst hb
        exact ⟨ha, by rw [List.length_map]; exact hl, vs, _, rv, ha⟩
      · have z' := (if_neg hb).symm.trans z
        cases z'
    · by_cases hb : b = a
      · exact hb
      · exact absurd (if_neg hb) z
end L2

namespace L2
open PySem PySem.Spec PyProof.Rows

noncomputable abbrev KOf {K : PySem.W.Frag} {h : Heap} (_ : K.In h) : PySem.W.Frag := K

end L2

/- THE LAST THEOREM (shape; LID, My.* are yours):
   My.Adr: a structure of the addresses that your layer names (classes, functions); My.Txt K t: a structure (Prop) of the equations over K;
   My.txt_mk : {K} {implicit addresses ..} (e1 : nsIn K mainGlobals "law" = some (some (.ref f))) (e2 : K.lookup f = some ⟨oc, od, .func (fnOf "law" "law" params body scope dV kV doc pm an cdv ct), sl⟩) (e3 : codeIn K cdv "law" = true) .. : ∃ t, My.Txt K t

set_option maxRecDepth 100000 in
set_option maxHeartbeats 0 in
theorem PySem.Challenge.cw_LID_holds : PySem.Challenge.rw_LID.Holds := by
  w_on; o_law; k_head; (case hw => w_witness2)
  k_fill
  refine L2.walk_of (l := PySem.Challenge.rw_LID) (n := 63) (k := 40) (x := "script") (CX := fun w => ..) (sp := fun _ => My.sp_law) rfl (by decide) rfl ⟨rfl, by decide, by decide⟩ (fun w h Y => PySem.W.kIn_of Y) ?F ?S ?C
  case F =>
    intro w mg fa h KX G hmg
    have T : ∃ t, My.Txt (L2.KOf KX) t := by
      dsimp only [L2.KOf]                          -- K must stand as «<heap const> w.params» for k_is
      refine' My.txt_mk ?e1 ?e2 ?e3 ..
      (case e1 => PySem.W.k_is)                    -- in the order: a name -> its address -> its object -> its parts
      (case e2 => PySem.W.k_is)
      ..
    obtain ⟨t, T⟩ := T
    have e0 := hmg.symm.trans (PySem.W.mg_of KX G T.law)
    cases e0                                       -- fa is the law's own address
    exact ⟨_, fun s u => .of_eq rfl, fun base kb nb => My.law_fn T kb nb⟩     -- if «.of_eq rfl» comes too early: refine' ⟨_, ?b, fun base kb nb => My.law_fn T kb nb⟩; exact fun s u => .of_eq rfl
  case S => exact fun w H a ns hl hO hS => ..
  case C => exact ..
(the tactic k_is has no namespace: write k_is) -/

namespace L2
open PySem PySem.Spec PyProof.Rows

noncomputable def defArgs (s : Stmt) : Arguments := match s with
  | .FunctionDef _ a _ _ _ _ _ _ _ _ => a
  | _ => { posonlyargs := [], args := [], vararg := none, kwonlyargs := [], kw_defaults := [], kwarg := none, defaults := [] }
noncomputable def defBody (s : Stmt) : List Stmt := match s with
  | .FunctionDef _ _ b _ _ _ _ _ _ _ => b
  | _ => []
noncomputable def defScope (s : Stmt) : Scope := match s with
  | .FunctionDef _ _ _ _ _ _ sc _ _ _ => sc
  | _ => { kind := .function, names := [], isGenerator := false, isCoroutine := false }

noncomputable abbrev CX0 : CXT := fun _ _ _ _ _ _ => False
noncomputable abbrev E0 : XK := fun _ _ _ => False
theorem pass0 {X : Cx} : Passes CX0 X E0 := fun _ _ _ _ _ _ _ h => h.elim

structure Fun (K : PySem.W.Frag) (x qual : Str) (st : Stmt) (f : Addr) (fd : FuncData) : Prop where
  ex : ∃ (oc : Value) (od : Option Addr) (kV doc pm : Value) (an : Option Addr) (cdv ct : Value) (osl : Array (Option Value)),
    fd = PySem.W.fnOf x qual (defArgs st) (defBody st) (defScope st) .none kV doc pm an cdv ct ∧ K.lookup f = some ⟨oc, od, .func fd, osl⟩ ∧ PySem.W.codeIn K cdv qual = true
  kp : PySem.W.keepIn K (.ref f) = true
section
variable {P : Program} {w : World} {K : PySem.W.Frag} {mg : Str → Option Value} {base : Heap}
theorem Fun.ok {x qual : Str} {st : Stmt} {f : Addr} {fd : FuncData} {N ps : List Str} {k : Nat} {sp : Sp} (F : Fun K x qual st f fd) (S : FnScope N ps (defScope st)) (len : ∀ vs H Q E, sp vs H Q E → vs.length = ps.length)
    (hbody : ∀ (cdv : Value) (A : Around) (outer : List Env) (s : Shared) (H : Hp) (vs : List V) (Q : VK) (E : XK), Room k (A.deeper (envOfC qual (defScope st) s.heap.objs.size f cdv)) → sp vs H Q E →
      ∃ t, PSs (cxOf CX0 P w K mg base N qual (defScope st) f cdv A outer s H E).nox (defBody st) t ∧ t { nx := fun _ H' => Q .non H', rt := Q } (start N vs) H) : FnOk P w K mg base CX0 (k + 1) f fd ps sp := by
  obtain ⟨oc, od, kV, doc, pm, an, cdv, ct, osl, rfl, lk, hcd⟩ := F.ex
  refine fn_of lk hcd S len fun A outer s H vs Q E hr hsp => ?_
  obtain ⟨t, h, q⟩ := hbody cdv A outer s H vs Q E hr hsp
  exact ⟨t, h.nox, q⟩
theorem Fun.binds {x qual : Str} {st : Stmt} {f : Addr} {fd : FuncData} {ps : List Str} (F : Fun K x qual st f fd)
    (h : ∀ (kV doc pm : Value) (an : Option Addr) (cdv ct : Value) (us : List Value), us.length = ps.length → bindArgs (PySem.W.fnOf x qual (defArgs st) (defBody st) (defScope st) .none kV doc pm an cdv ct) ⟨us, []⟩ = pure (ps.zip us)) : Binds K fd ps [] := by
  obtain ⟨oc, od, kV, doc, pm, an, cdv, ct, osl, rfl, lk, hcd⟩ := F.ex
  exact .all (h kV doc pm an cdv ct)
theorem fun_mk {x qual : Str} {st : Stmt} {f : Addr} {oc : Value} {od an : Option Addr} {osl : Array (Option Value)} {kV doc pm cdv ct : Value} (l : K.lookup f = some ⟨oc, od, .func (PySem.W.fnOf x qual (defArgs st) (defBody st) (defScope st) .none kV doc pm an cdv ct), osl⟩)
    (c : PySem.W.codeIn K cdv qual = true) (k : PySem.W.keepIn K (.ref f) = true) : Fun K x qual st f (PySem.W.fnOf x qual (defArgs st) (defBody st) (defScope st) .none kV doc pm an cdv ct) := ⟨⟨oc, od, kV, doc, pm, an, cdv, ct, osl, rfl, l, c⟩, k⟩
end
theorem hu_of {A : Around} {k : Nat} (hr : Room k A) : A.units + 1 < cLine := Nat.lt_of_le_of_lt (Nat.add_le_add_left (by decide : 1 ≤ 64) _) hr.units
section
variable {X : Cx}
theorem pv (i : Nat) {x : Str} {pos : Pos} (hN : X.N[i]? = some x := by rfl) (hv : Vis X.env.scope x := by first | exact Or.inl rfl | exact Or.inr (Or.inl rfl) | exact Or.inr (Or.inr rfl)) (hd : (x == ("__debug__" : Str)) = false := by decide)
    (hcd : (x == ("__classdict__" : Str)) = false := by decide) : PE X (.Name x pos) (tVar i) := pe_var hN hv hd hcd
end

theorem iteF {A B : Prop} (h : B) : if false = true then A else B := by
  rw [if_neg Bool.false_ne_true]
  exact h
theorem iteT {A B : Prop} (h : A) : if true = true then A else B := by
  rw [if_pos rfl]
  exact h
theorem ite2 {c A B : Prop} [Decidable c] (h1 : c → A) (h2 : ¬ c → B) : if c then A else B := by
  by_cases h : c
  · rw [if_pos h]
    exact h1 h
  · rw [if_neg h]
    exact h2 h
noncomputable def Same (H H' : Hp) : Prop := ∀ b o, H b = some o → H' b = some o
theorem Same.refl (H : Hp) : Same H H := fun _ _ h => h
theorem Same.trans {H H1 H2 : Hp} (a : Same H H1) (b : Same H1 H2) : Same H H2 := fun c o h => b c o (a c o h)
theorem Same.free {H H' : Hp} (e : Same H H') {l : Addr} (h : H' l = Option.none) : H l = Option.none := by
  cases q : H l with
  | none => rfl
  | some o =>
    rw [e l o q] at h
    cases h
theorem Same.seq {K : PySem.W.Frag} {H H' : Hp} {a : Addr} {xs : List V} (e : Same H H') (h : SqL K H a xs) : SqL K H' a xs := by
  rcases h with (h | ⟨o, h⟩) | h
  · exact .inl (.inl (e _ _ h))
  · exact .inl (.inr ⟨o, e _ _ h⟩)
  · exact .inr h

end L2

namespace L2
open PySem PySem.Spec PyProof.Rows
section
variable {X : Cx}
theorem call_lenD : CallR X (.builtin "len") (fun xs H Q => ∃ a kvs, xs = [V.ref a] ∧ H a = some (.dK kvs) ∧ Q (.int kvs.length) H) := by
  intro pins s σ H xs us Q I r h
  obtain ⟨a, kvs, rfl, ha, q⟩ := h
  obtain ⟨u, rfl, ru⟩ := vals1 r
  cases ru
  exact d_len I (.inl ha) fun t s' I' => ⟨.int kvs.length, H, I', ⟨t, rfl⟩, q⟩
end
section
variable {κ : Type} [DecidableEq κ]
end
end L2

namespace My
open PySem PySem.Spec PyProof.Rows L2
section
variable {X : Cx}
theorem call_isi : CallR X (.builtin "isinstance") (fun xs H Q => ∃ x t c b, xs = [x, V.ty c] ∧ TyOf X.K H x t ∧ PySem.W.kitOne X.K t (.type c) = some b ∧ Q (.bl b) H) := by
  intro pins s σ H xs us Q I r h
  obtain ⟨x, t, c, b, rfl, ty, e, q⟩ := h
  obtain ⟨u, w', rfl, ru, rw'⟩ := vals2 r
  cases rw'
  exact isinst_ok I ru ty e fun tk => ⟨.bl b, H, I.tok tk, rfl, q⟩
end
section
variable {K : PySem.W.Frag}
theorem kit_ii : PySem.W.kitOne K (.type "int") (.type "int") = some true := by
  show (if (Value.type "int" == Value.type "int") = true then some true else if PySem.W.kitMeta "int" = true then (fastBuiltinMro "int").map (·.contains (Value.type "int")) else none) = some true
  decide +kernel
theorem kit_ib : PySem.W.kitOne K (.type "int") (.type "bool") = some false := by
  show (if (Value.type "int" == Value.type "bool") = true then some true else if PySem.W.kitMeta "bool" = true then (fastBuiltinMro "int").map (·.contains (Value.type "bool")) else none) = some false
  decide +kernel
theorem kit_tt : PySem.W.kitOne K (.type "tuple") (.type "tuple") = some true := by
  show (if (Value.type "tuple" == Value.type "tuple") = true then some true else if PySem.W.kitMeta "tuple" = true then (fastBuiltinMro "tuple").map (·.contains (Value.type "tuple")) else none) = some true
  decide +kernel
end
theorem keqs {κ : Type} [DecidableEq κ] {A : Around} {s : Shared} {kb : List (κ × Value)} : ∀ {ka : List (κ × Value)}, (∀ kv ∈ ka, ∃ y, valueAt kb kv.1 = some y ∧ SeqAt.EqAt A s kv.2 y true) → PySem.W.KeqHits A s kb ka true
  | [], _ => .nil
  | (k, v) :: r, h => by
    obtain ⟨y, e, q⟩ := h (k, v) (List.mem_cons.mpr (Or.inl rfl))
    have t : PySem.W.KeqHits A s kb r true := keqs fun kv m => h kv (List.mem_cons.mpr (Or.inr m))
    exact PySem.W.KeqHits.hit e q t
theorem valV_mem {κ : Type} [DecidableEq κ] : ∀ {kvs : List (κ × V)} {k : κ} {v : V}, (kvs.map (·.1)).Nodup → (k, v) ∈ kvs → valV kvs k = some v
  | p :: r, k, v, hn, hm => by
    have hn' : (p.1 :: r.map (·.1)).Nodup := hn
    obtain ⟨h1, h2⟩ := List.nodup_cons.mp hn'
    rcases List.mem_cons.mp hm with e | e
    · subst e
      exact valV_pos rfl
    · have ne : ¬ p.1 = k := fun z => h1 (List.mem_map.mpr ⟨(k, v), e, z.symm⟩)
      rw [valV_neg ne]
      exact valV_mem h2 e
theorem atI_lt {α : Type} {xs : List α} {i : Int} (h0 : 0 ≤ i) (h1 : i < xs.length) : ∃ v, atI xs i = some v := by
  have e : ixN xs.length i = some i.toNat := by
    unfold ixN
    rw [if_pos h0, if_pos h1]
  have hl : i.toNat < xs.length := by omega
  refine ⟨xs[i.toNat], ?_⟩
  unfold atI
  rw [e]
  exact List.getElem?_eq_getElem hl
theorem atI_mem {α : Type} {xs : List α} {i : Int} {v : α} (h : atI xs i = some v) : v ∈ xs := by
  obtain ⟨j, _, e, _⟩ := atI_get h
  exact List.mem_of_getElem? e
theorem _root_.L2.Same.upd {H : Hp} {p : Addr} {o : HO} (h : H p = none) : Same H (upd H p o) := fun b u e => by
  rw [upd_ne (ne_of_none e h)]
  exact e
theorem _root_.L2.Same.again {H H' : Hp} {p : Addr} {o : HO} (s : Same H H') (h : H p = none) : Same H (L2.upd H' p o) := fun b u e => by
  rw [upd_ne (ne_of_none e h)]
  exact s b u e
open Builtin.Int (intBits)
theorem bits_item : ∀ {ns : List Int} {m : Int}, m ∈ ns → intBits m ≤ PySem.W.WData.weightAll (ns.map PySem.W.WData.int)
  | n :: r, m, h => by
    rcases List.mem_cons.mp h with e | e
    · subst e
      simp only [List.map_cons, PySem.W.WData.weightAll, PySem.W.WData.weight, Builtin.Int.intBits]
      omega
    · have z := bits_item e
      simp only [List.map_cons, PySem.W.WData.weightAll]
      omega
theorem bits_of {ns : List Int} (h : PySem.W.WData.layableAll [PySem.W.WData.list (ns.map .int)] = true) : ∀ m ∈ ns, intBits m ≤ 1048576 := fun m hm => by
  have h1 := (PySem.W.layW_cons h).1
  have h2 : PySem.W.WData.weight (.list (ns.map .int)) ≤ 2 ^ 20 := of_decide_eq_true (Bool.and_eq_true_iff.mp h1).2
  have h3 := bits_item hm
  have h4 : PySem.W.WData.weight (.list (ns.map .int)) = PySem.W.WData.weightAll (ns.map .int) := by simp only [PySem.W.WData.weight]
  have e : (2 : Nat) ^ 20 = 1048576 := by decide
  omega
end My
namespace My
open PySem PySem.W PySem.Calls PyProof.Rows L2
theorem walk_ofB {l : PySem.W.OpenLaw} {n k : Nat} {q : Program} {loose : List Str} {XP : (Str → Option Value) → Heap → Prop} {YP : World → Heap → Prop} {d : DefRec} {K : Params → PySem.W.Frag} {CX : World → CXT} {sp : World → Sp} {x : Str}
    (hn : l.most = some n) (hn2 : n ≤ sizeLine) (hdf : d.params.defaults = []) (hr : Room k callerA)
    (hY : ∀ (w : World) (h : Heap), YP w h → (K w.params).In h)
    (F : ∀ (w : World) (mg : Str → Option Value) (fa : Addr) (h : Heap), (K w.params).In h → h.Ns mainGlobals mg → mg d.name = some (.ref fa) →
      ∃ fd : FuncData, (∀ (s : Shared) (u : Value), BindsTo s fd ⟨[u], []⟩ [(x, u)]) ∧
        ∀ base : Heap, (K w.params).In base → base.Ns mainGlobals mg → FnOk l.prog w (K w.params) mg base (CX w) k fa fd [x] (sp w))
    (hsp : ∀ (w : World) (H : Hp) (a : Addr) (ns : List Int), ns.length ≤ n → (∀ m ∈ ns, Builtin.Int.intBits m ≤ 1048576) → Only H → SqL (K w.params) H a (ns.map V.int) → sp w [.ref a] H (fun v _ => v = .bl true) fun _ _ _ => False)
    (hCX : ∀ (w : World) (H : Hp) (s : Shared) (e : Value) (s' : Shared), CX w [] H s (fun _ _ _ => False) e s' → False) :
    PySem.W.WalkO q loose XP YP l.row.toRowW d [] (fun f vs => PySem.call f vs) := by
  intro w s₀ s₁ mg mb G Y fa o pm cd doc dV kV ho hd hcd hD hmg hg args vals as hpre hlay hrd hwl hlo
  obtain rfl : dV = .none := Dflts.none hD hdf
  obtain rfl : kV = .none := Dflts.noKw hD
  obtain ⟨a, vs, ns, rfl, rfl, hobj, hints, hlen⟩ := Att.script_of hn hpre hwl
  have KX := hY w _ Y
  obtain ⟨fd, hb, hF⟩ := F w mg fa _ KX G.T.g hmg
  refine enter_call (codeAny_mono (law_call KX G.T.g G.T.b G.T.builtins G.T.nolimit hg hobj hints (Nat.le_trans hlen hn2) hr hF hb (fun H hO hS => hsp w H a ns hlen (bits_of hlay) hO hS) fun H e s' => hCX w H s₁ e s') fun r s' hq => ?_)
  obtain ⟨rfl, h2, h3, h4⟩ := hq
  exact ⟨.inl ⟨.bool true, .bool true, [], rfl, fun _ => rfl, .bool true, Att.post_true l _, fun _ => ⟨List.Pairwise.nil, fun _ hm => (nomatch hm)⟩⟩, h2, h3, h4⟩
end My
namespace My
open PySem PySem.Spec PyProof.Rows L2
mutual
inductive Dt (K : PySem.W.Frag) (H : Hp) : V → PyData → Prop where
  | non : Dt K H .non .none
  | bl (b : Bool) : Dt K H (.bl b) (.bool b)
  | int (i : Int) : Dt K H (.int i) (.int i)
  | str (x : Str) : Dt K H (.str x) (.str x)
  | lst {a : Addr} {xs : List V} {ds : List PyData} (h : SqL K H a xs) (r : Dts K H xs ds) : Dt K H (.ref a) (.list ds)
  | tup {a : Addr} {xs : List V} {ds : List PyData} (h : SqT K H a xs) (r : Dts K H xs ds) : Dt K H (.ref a) (.tuple ds)
inductive Dts (K : PySem.W.Frag) (H : Hp) : List V → List PyData → Prop where
  | nil : Dts K H [] []
  | cons {x : V} {d : PyData} {xs : List V} {ds : List PyData} (h : Dt K H x d) (r : Dts K H xs ds) : Dts K H (x :: xs) (d :: ds)
end
section
variable {X : Cx} {pins : List (Addr × Obj)} {σ : L2.St} {H : Hp} {s : Shared}
mutual
theorem Dt.reads (I : Inv X pins σ H s) {v : V} {d : PyData} (h : Dt X.K H v d) {u : Value} (r : RelV v u) : ∃ as, Reads s.heap u d as := by
  cases h with
  | non => cases r; exact ⟨_, .none⟩
  | bl b => cases r; exact ⟨_, .bool b⟩
  | int i => obtain ⟨t, rfl⟩ := r; exact ⟨_, .int i t⟩
  | str x => obtain ⟨t, rfl⟩ := r; exact ⟨_, .str x t⟩
  | lst h q =>
    cases r
    obtain ⟨its, rv, ⟨o, n, e, c, _, dd⟩, _⟩ := I.list h
    obtain ⟨as, z⟩ := Dts.reads I q rv
    exact ⟨_, .list e c dd (by simpa using z)⟩
  | tup h q =>
    cases r
    obtain ⟨its, rv, ⟨o, e, c, n, dd⟩, _⟩ := I.tuple h
    obtain ⟨as, z⟩ := Dts.reads I q rv
    exact ⟨_, .tuple e c dd (by simpa using z)⟩
theorem Dts.reads (I : Inv X pins σ H s) {vs : List V} {ds : List PyData} (h : Dts X.K H vs ds) {us : List Value} (r : Vals vs us) : ∃ as, ReadsAll s.heap us ds as := by
  cases h with
  | nil => cases r; exact ⟨_, .nil⟩
  | cons h q =>
    cases r with
    | cons r1 r2 =>
      obtain ⟨as, z⟩ := Dt.reads I h r1
      obtain ⟨bs, y⟩ := Dts.reads I q r2
      exact ⟨_, .cons z y⟩
end
end
section
variable {X : Cx}
noncomputable def rEqD (K : PySem.W.Frag) : R2 := fun x y H Q => ∃ da db, Dt K H x da ∧ Dt K H y db ∧ SeqAt.shaped da = true ∧ SeqAt.shaped db = true ∧ Q (.bl (PyData.eqv da db)) H
noncomputable def rNeD (K : PySem.W.Frag) : R2 := fun x y H Q => ∃ da db, Dt K H x da ∧ Dt K H y db ∧ SeqAt.shaped da = true ∧ SeqAt.shaped db = true ∧ Q (.bl (!PyData.eqv da db)) H
theorem op_eqS (hu : X.A.units + 64 < cLine) : OpR X (compareOp .Eq) (rEqD X.K) := by
  intro pins s σ H x y v u Q I rx ry h
  obtain ⟨da, db, ha, hb, sa, sb, q⟩ := h
  obtain ⟨as, ra⟩ := ha.reads I rx
  obtain ⟨bs, rb⟩ := hb.reads I ry
  exact SeqAt.compareEq_shaped ra rb sa sb hu ⟨.bl _, H, I, rfl, q⟩
theorem op_neS (hu : X.A.units + 64 < cLine) : OpR X (compareOp .NotEq) (rNeD X.K) := by
  intro pins s σ H x y v u Q I rx ry h
  obtain ⟨da, db, ha, hb, sa, sb, q⟩ := h
  obtain ⟨as, ra⟩ := ha.reads I rx
  obtain ⟨bs, rb⟩ := hb.reads I ry
  exact SeqAt.compareNe_shaped ra rb sa sb hu ⟨.bl _, H, I, rfl, q⟩
end
end My
namespace My
open PySem PySem.Spec PyProof.Rows L2
theorem obj_some {P : Program} {w : World} {H : Hp} {h : Heap} {a : Addr} {o : HO} (x : ObjOk P w H h a o) : ∃ ob, h.get? a = some ob := by
  cases o with
  | lst xs => obtain ⟨_, _, _, _, e⟩ := x; exact ⟨_, e⟩
  | tup xs => obtain ⟨_, _, _, ob, e, _⟩ := x; exact ⟨_, e⟩
  | dK kvs => obtain ⟨_, _, _, _, o, _, _, e, _⟩ := x; exact ⟨_, e⟩
  | dT kvs => obtain ⟨_, _, _, _, o, _, _, e, _⟩ := x; exact ⟨_, e⟩
  | set S n => obtain ⟨o, _, _, _, e, _⟩ := x; exact ⟨_, e⟩
  | ins C dx fs => obtain ⟨_, _, _, e, _⟩ := x; exact ⟨_, e⟩
  | own y => exact x
  | xd fs => obtain ⟨_, ⟨_, _, _, e, _⟩, _⟩ := x; exact ⟨_, e⟩
  | rng lo hi => obtain ⟨_, _, _, e⟩ := x; exact ⟨_, e⟩
  | frz ob u => obtain ⟨e, _⟩ := x; exact ⟨_, e⟩
  | tbl ps => exact ⟨_, (show h.get? a = some _ from x)⟩
  | met f y => exact ⟨_, (show h.get? a = some _ from x)⟩
  | ext φ => obtain ⟨_, e, _⟩ := x; exact e
section
variable {X : Cx} {pins : List (Addr × Obj)} {σ : L2.St} {H : Hp} {s : Shared}
theorem inv_none (I : Inv X pins σ H s) {D : Addr} (h : s.heap.get? D = none) : H D = none := by
  cases q : H D with
  | none => rfl
  | some u =>
    obtain ⟨ob, e⟩ := obj_some (I.hok D u q)
    rw [h] at e
    cases e
end
theorem vals_get' : ∀ {xs : List V} {us : List Value} {i : Nat} {u : Value}, Vals xs us → us[i]? = some u → ∃ x, xs[i]? = some x ∧ RelV x u
  | _, _, _, _, .nil, e => by simp at e
  | _, _, 0, _, .cons r _, e => by simp at e; subst e; exact ⟨_, rfl, r⟩
  | _, _, i + 1, u, .cons _ t, e => by
    obtain ⟨x, h1, h2⟩ := vals_get' (i := i) (u := u) t (by simpa using e)
    exact ⟨x, by simpa using h1, h2⟩
end My
namespace My
open PySem PySem.Spec PyProof.Rows L2
noncomputable def ctxF (o : Obj) : Option Value := match o.data with
  | .fields vs => vs[2]?
  | _ => none
noncomputable abbrev SameDC (a b : Obj) : Prop := a.dict = b.dict ∧ ctxF a = ctxF b
inductive Calm {α : Type} : Sem α → Prop
  | pure (a : α) : Calm (.pure a)
  | raise (e : Value) : Calm (.raise e)
  | stop (x : String) : Calm (.unsupported x)
  | rule {t k} : (∀ u, Calm (k u)) → Calm (.rule t k)
  | at {p k} : (∀ u, Calm (k u)) → Calm (.at p k)
  | load {a p k} : (∀ o, Calm (k o)) → Calm (.load a p k)
  | update {a p f k} : (∀ o : Obj, SameDC (f o) o ∧ (o.isFreed = false → (f o).isFreed = false)) → (∀ u, Calm (k u)) → Calm (.update a p f k)
  | alloc {o k} : (∀ a, Calm (k a)) → Calm (.alloc o k)
  | point {l k} : (∀ u, Calm (k u)) → Calm (.point l k)
  | fresh {k} : (∀ u, Calm (k u)) → Calm (.fresh k)
  | stack {k} : (∀ u, Calm (k u)) → Calm (.stack k)
theorem Calm.bind {α β : Type} {t : Sem α} {f : α → Sem β} (h : Calm t) (hf : ∀ a, Calm (f a)) : Calm (t >>= f) := by
  induction h with
  | pure a => exact hf a
  | raise e => exact .raise e
  | stop x => exact .stop x
  | rule _ ih => exact .rule ih
  | «at» _ ih => exact .at ih
  | load _ ih => exact .load ih
  | update h _ ih => exact .update h ih
  | alloc _ ih => exact .alloc ih
  | point _ ih => exact .point ih
  | fresh _ ih => exact .fresh ih
  | stack _ ih => exact .stack ih
noncomputable def DK (h h' : Heap) : Prop := ∀ b o, h.get? b = some o → ∃ o', h'.get? b = some o' ∧ SameDC o' o
theorem DK.refl (h : Heap) : DK h h := fun _ o e => ⟨o, e, rfl, rfl⟩
theorem DK.trans {h1 h2 h3 : Heap} (x : DK h1 h2) (y : DK h2 h3) : DK h1 h3 := fun b o e => let ⟨o1, e1, d1⟩ := x b o e; let ⟨o2, e2, d2⟩ := y b o1 e1; ⟨o2, e2, d2.1.trans d1.1, d2.2.trans d1.2⟩
theorem DK.upd {h : Heap} {a : Addr} {f : Obj → Obj} (hf : ∀ o : Obj, SameDC (f o) o ∧ (o.isFreed = false → (f o).isFreed = false)) : DK h (h.update a f) := fun b o e => by
  by_cases q : b = a
  · subst q
    exact ⟨f o, Heap.get?_update_self _ e ((hf o).2 (Heap.get?_some_iff.mp e).2), (hf o).1⟩
  · exact ⟨o, (Heap.get?_update_ne _ _ _ _ q).trans e, rfl, rfl⟩
theorem wp_calm {α : Type} {M : Model} {Γ : PySem.Ctx} {t : Sem α} (c : Calm t) : ∀ {Q : α → Pos → Shared → Prop} {E : Value → Pos → Shared → Prop} {p : Pos} {s : Shared},
    Sem.wp M Γ t Q E p s → Sem.wp M Γ t (fun a p' s' => Q a p' s' ∧ DK s.heap s'.heap) (fun e p' s' => E e p' s' ∧ DK s.heap s'.heap) p s := by
  induction c with
  | pure a => intro Q E p s h; exact ⟨h, .refl _⟩
  | raise e => intro Q E p s h; exact ⟨h, .refl _⟩
  | stop x => intro Q E p s h; exact h
  | rule _ ih => intro Q E p s h; exact ih () h
  | «at» _ ih => intro Q E p s h; exact ih () h
  | load _ ih => intro Q E p s h; obtain ⟨o, e, h⟩ := h; exact ⟨o, e, ih o h⟩
  | update hf _ ih =>
    intro Q E p s h
    obtain ⟨e, h⟩ := h
    refine ⟨e, ?_⟩
    exact Sem.wp_mono M Γ _ (fun a p' s' ⟨q, d⟩ => ⟨q, DK.trans (DK.upd hf) d⟩) (fun e p' s' ⟨q, d⟩ => ⟨q, DK.trans (DK.upd hf) d⟩) _ _ (ih () h)
  | alloc _ ih => intro Q E p s h; exact Sem.wp_mono M Γ _ (fun a p' s' ⟨q, d⟩ => ⟨q, DK.trans (fun b o e => ⟨o, Heap.get?_push_of_some _ e, rfl, rfl⟩) d⟩) (fun e p' s' ⟨q, d⟩ => ⟨q, DK.trans (fun b o e => ⟨o, Heap.get?_push_of_some _ e, rfl, rfl⟩) d⟩) _ _ (ih _ h)
  | point _ ih => intro Q E p s h; exact ih () h
  | fresh _ ih => intro Q E p s h; exact ih _ h
  | stack _ ih => intro Q E p s h; exact ih _ h
theorem wpAny_calm {α : Type} {M : Model} {A : Around} {t : Sem α} {Q : α → Shared → Prop} {E : Value → Shared → Prop} {s : Shared} (c : Calm t) (h : wpAny M A t Q E s) :
    wpAny M A t (fun a s' => Q a s' ∧ DK s.heap s'.heap) (fun e s' => E e s' ∧ DK s.heap s'.heap) s := fun Γ p hΓ => wp_calm c (h Γ p hΓ)

theorem calm_load (a : Addr) : Calm (load a) := .load fun _ => .pure _
theorem calm_fieldsOf (v : Value) : Calm (fieldsOf v) := by
  unfold fieldsOf
  cases v <;> first | exact .stop _ | skip
  refine Calm.bind (calm_load _) fun o => ?_
  split <;> first | exact .stop _ | exact .pure _
theorem calm_field (v : Value) (i : Nat) : Calm (field v i) := by
  unfold field
  refine Calm.bind (calm_fieldsOf _) fun vs => ?_
  split <;> first | exact .stop _ | exact .pure _
theorem mapFields_calm {i : Nat} (x : Value) (hi : i ≠ 2) (o : Obj) : SameDC (Obj.mapFields (·.setIfInBounds i x) o) o ∧ (o.isFreed = false → (Obj.mapFields (·.setIfInBounds i x) o).isFreed = false) := by
  obtain ⟨c, d, da, sl⟩ := o
  cases da <;> first | exact ⟨⟨rfl, rfl⟩, fun h => h⟩ | exact ⟨⟨rfl, Array.getElem?_setIfInBounds_ne hi⟩, fun h => h⟩
theorem calm_setField (v : Value) (i : Nat) (x : Value) (hi : i ≠ 2 := by decide) : Calm (setField v i x) := by
  unfold setField
  cases v <;> first | exact .stop _ | skip
  show Calm (updateField _ _ _)
  unfold updateField
  refine Calm.bind (calm_load _) fun o => ?_
  split
  · split
    · exact .update (mapFields_calm _ hi) fun _ => .pure _
    · exact .stop _
  · exact .stop _
theorem calm_setFlight (e : Value) (f : Option Addr) : Calm (setFlight e f) := by
  unfold setFlight
  refine Calm.bind (calm_field _ _) fun tb => ?_
  split
  · exact calm_setField _ _ _
  · exact .pure _
theorem calm_under : Calm underTheClaimsCaller := .stack fun _ => .pure _
theorem calm_ready : ∀ l : List Env, Calm (readyFrames l)
  | [] => .pure _
  | env :: outer => by
    unfold readyFrames
    split
    · refine Calm.bind (calm_load _) fun o => ?_
      split
      · exact .pure _
      · refine Calm.bind ?_ fun imp => Calm.bind ?_ fun back => Calm.bind ?_ fun _ => calm_ready outer
        · unfold behindIsImport
          split
          · exact .pure _
          · split
            · exact .pure _
            · exact Calm.bind (calm_field _ _) fun _ => .pure _
        · unfold keptBack
          split
          · split
            · exact .pure _
            · exact Calm.bind calm_under fun _ => .pure _
          · exact .pure _
        · refine .update (fun o => ⟨⟨rfl, rfl⟩, fun h => ?_⟩) fun _ => .pure _
          obtain ⟨c, d, da, sl⟩ := o
          cases da <;> exact h
    · exact .stop _
theorem calm_frameOf (env : Env) : Calm (PySem.frameOf env) := by
  unfold PySem.frameOf
  refine Calm.bind (.stack fun _ => .pure _) fun l => Calm.bind ?_ fun r => ?_
  · unfold frameObject
    split
    · exact .pure _
    · exact Calm.bind (calm_ready _) fun _ => .pure _
  · split
    · exact .pure _
    · exact .stop _
theorem calm_asIs (ty : String) (da : Data) : Calm (newObjAsIs (.type ty) da) := .alloc fun _ => .pure _
theorem calm_newFields (ty : String) (vs : List Value) : Calm (newFields ty vs) := by
  unfold newFields newObj
  dsimp only
  split
  · exact Calm.bind (.stop _) fun _ => calm_asIs _ _
  · exact calm_asIs _ _
theorem calm_newEntry (a b c d e : Value) (pl : List Value) : Calm (EntryCells.newEntry a b c d e pl) := calm_newFields _ _
theorem calm_place (f : Addr) (b : Bool) : Calm (entryPlaceOf f b) := by
  unfold entryPlaceOf
  refine Calm.bind (.stack fun _ => .pure _) fun acts => ?_
  split <;> exact .pure _
theorem calm_noteFrame (e : Value) (env : Env) : Calm (noteFrame e env) := by
  unfold noteFrame
  have last : ∀ (f : Addr) (head : Value), Calm (do setField e 1 (← EntryCells.newEntry head (← PySem.frameOf env) .none (rawInt f) .none (← entryPlaceOf f (head != .none)))) := fun f head =>
    Calm.bind (calm_frameOf _) fun a => Calm.bind (calm_place _ _) fun pl => Calm.bind (calm_newEntry _ _ _ _ _ _) fun b => calm_setField _ _ _
  split
  · refine Calm.bind (calm_field _ _) fun head => ?_
    split
    · refine Calm.bind (calm_field _ _) fun x => ?_
      split
      · exact .pure _
      · exact Calm.bind (calm_setField _ _ _) fun _ => last _ _
    · exact last _ _
  · exact .stop _
theorem calm_leaving (e : Value) (env : Env) : Calm (leaving env e) := Calm.bind (calm_noteFrame _ _) fun _ => calm_setFlight _ _
end My
namespace My
open PySem PySem.Spec PyProof.Rows L2
noncomputable def CXW (P : Program) (w : World) : CXT := fun outer H s E e s' =>
  ∃ (ea : Addr) (cls a0 : Value) (B : Heap) (H' : Hp) (d : Option Addr), e = .ref ea ∧ s'.os = s.os ∧ AllBare s'.gens ∧ Un (frs outer) [] H H' s.heap s'.heap ∧ HOk P w H' s'.heap ∧ Heap.FlyingW B outer ea cls a0 s'.heap ∧
    (∀ b o, s'.heap.get? b = some o → (s.heap.get? b ≠ none ∨ H' b ≠ none) → b ∉ frs outer → B.get? b = some o) ∧ H' ea = none ∧ s.heap.get? ea = none ∧ (∃ o, s'.heap.get? ea = some o ∧ o.dict = d ∧ (ctxF o = some .none ∨ ∀ d', E cls d' H')) ∧ E cls d H'
section
variable {X : Cx} {pins : List (Addr × Obj)} {σ : L2.St} {H H' : Hp} {s : Shared} {h1 h2 B : Heap}
theorem frs_obj (I : Inv X pins σ H s) : ∀ b ∈ frs X.stack, ∃ o, s.heap.get? b = some o := fun b hb => let ⟨_, o, e, _⟩ := I.stack.mem hb; ⟨o, e⟩
theorem carry (I : Inv X pins σ H s) (un : Un (frs X.stack) [] H H' s.heap h1) (hok : HOk X.prog X.w H' h1) (bk : ∀ b o, h1.get? b = some o → (s.heap.get? b ≠ none ∨ H' b ≠ none) → b ∉ frs X.stack → B.get? b = some o)
    (hst : ∀ b o, B.get? b = some o → h2.get? b = some o) (hsm : h1.UpToSlots h2) (hfn : ∀ b ∈ frs X.stack, ∃ o, h1.get? b = some o ∧ ∀ vs, o.data ≠ .fields vs) :
    Un (frs X.stack) [] H H' s.heap h2 ∧ HOk X.prog X.w H' h2 ∧ (∀ b o, h2.get? b = some o → (s.heap.get? b ≠ none ∨ H' b ≠ none) → b ∉ frs X.stack → B.get? b = some o) ∧ ∀ b ∈ frs X.stack, H' b = none := by
  have nf : ∀ b ∈ frs X.stack, H' b = none := fun b hb => by
    obtain ⟨o, e⟩ := frs_obj I b hb
    exact un.free b o e (I.stkFree b hb) (by simp)
  have keep : ∀ b o, h1.get? b = some o → (s.heap.get? b ≠ none ∨ H' b ≠ none) → b ∉ frs X.stack → h2.get? b = some o := fun b o e k n => hst b o (bk b o e k n)
  refine ⟨⟨fun b o e n hb _ => ?_, fun b o e n hb _ => ?_, un.free, fun b o e _ => ?_, un.tups, un.frzs, un.tbls⟩, fun a o e => ?_, fun b o e k n => ?_, nf⟩
  · exact keep b o (un.keep b o e n hb (by simp)) (.inl (by rw [e]; simp)) hb
  · obtain ⟨sl, e1⟩ := un.slot b o e n hb (by simp)
    obtain ⟨o', e2, hd⟩ := hfn b hb
    rw [e1] at e2
    cases e2
    obtain ⟨sl', e3⟩ := hsm b _ e1 hd
    exact ⟨sl', e3⟩
  · obtain ⟨o', e1⟩ := un.there b o e (by simp)
    by_cases hb : b ∈ frs X.stack
    · obtain ⟨o2, e2, hd⟩ := hfn b hb
      obtain ⟨sl', e3⟩ := hsm b _ e2 hd
      exact ⟨_, e3⟩
    · exact ⟨o', keep b o' e1 (.inl (by rw [e]; simp)) hb⟩
  · refine (hok a o e).stay (fun b u hb q => keep b u q (.inr ?_) (fun z => ?_)) (fun _ q => q) fun _ _ q => q
    · rcases hb with z | z
      · rw [z, e]; simp
      · rw [z]; simp
    · have q' := nf b z
      rcases hb with z | z
      · rw [z, e] at q'; cases q'
      · rw [z] at q'; cases q'
  · have there1 : ∃ o', h1.get? b = some o' := by
      rcases k with k | k
      · cases q : s.heap.get? b with
        | none => exact (k q).elim
        | some o0 => exact un.there b o0 q (by simp)
      · cases q : H' b with
        | none => exact (k q).elim
        | some u => exact obj_some (hok b u q)
    obtain ⟨o', e1⟩ := there1
    have e2 := bk b o' e1 k n
    have e3 := hst b o' e2
    rw [e] at e3
    cases e3
    exact e2
end
section
variable {P : Program} {w : World} {K : PySem.W.Frag} {mg : Str → Option Value} {base : Heap} {N : List Str} {qual : Str} {scope : Scope} {f : Addr} {cd : Value} {A : Around} {outer : List Env} {s₀ : Shared} {H₀ : Hp} {E : XK}
  {pins : List (Addr × Obj)} {σ : L2.St} {H H' : Hp} {s : Shared}
theorem leave_fin {ea : Addr} {d : Option Addr} {cls a0 : Value} {B h1 h2 : Heap} {s1 : Shared} (I : Inv (cxOf (CXW P w) P w K mg base N qual scope f cd A outer s₀ H₀ E) pins σ H s) (hos : s1.os = s.os) (hb : AllBare s1.gens)
    (un : Un (frs (envOfC qual scope s₀.heap.objs.size f cd :: outer)) [] H H' s.heap h1) (hok : HOk P w H' h1)
    (bk : ∀ b o, h1.get? b = some o → (s.heap.get? b ≠ none ∨ H' b ≠ none) → b ∉ frs (envOfC qual scope s₀.heap.objs.size f cd :: outer) → B.get? b = some o)
    (fl : Heap.FlyingW B outer ea cls a0 h2) (hsm : h1.UpToSlots h2) (hfn : ∀ b ∈ frs (envOfC qual scope s₀.heap.objs.size f cd :: outer), ∃ o, h1.get? b = some o ∧ ∀ vs, o.data ≠ .fields vs)
    (n1 : H' ea = none) (n2 : s.heap.get? ea = none) (dd : ∃ o, h2.get? ea = some o ∧ o.dict = d ∧ (ctxF o = some .none ∨ ∀ d', E cls d' H')) (hE : E cls d H') : CXW P w outer H₀ s₀ E (.ref ea) { s1 with heap := h2 } := by
  obtain ⟨un2, hok2, bk2, nf⟩ := carry I un hok bk fl.1 hsm hfn
  have sub : ∀ b ∈ frs outer, b ∈ frs (envOfC qual scope s₀.heap.objs.size f cd :: outer) := fun b hb => by
    obtain ⟨env, he, hf⟩ := List.mem_filterMap.mp hb
    exact List.mem_filterMap.mpr ⟨env, List.mem_cons_of_mem _ he, hf⟩
  have notin : ∀ b o, s₀.heap.get? b = some o → b ∉ frs outer → b ∉ frs (envOfC qual scope s₀.heap.objs.size f cd :: outer) := fun b o e hb hm => by
    rcases List.mem_cons.mp (I.stkSub b hm) with z | z
    · exact absurd (Nat.lt_of_lt_of_le (Heap.lt_size e) (z ▸ I.ok.above)) (Nat.lt_irrefl _)
    · exact hb z
  refine ⟨ea, cls, a0, B, H', d, rfl, hos.trans I.os, hb, ⟨fun b o e n hb _ => ?_, fun b o e n hb _ => ?_, fun b o e n _ => ?_, fun b o e _ => ?_, fun b xs e => un2.tups b xs (I.base.tups b xs e), fun b o u e => un2.frzs b o u (I.base.frzs b o u e), fun b ps e => ?_⟩, hok2, fl, fun b o e k hb => ?_, n1, ?_, dd, hE⟩
  · exact un2.keep b o (I.base.keep b o e n hb (by simp [cxOf])) (I.base.free b o e n (by simp [cxOf])) (notin b o e hb) (by simp)
  · obtain ⟨sl, e1⟩ := I.base.slot b o e n hb (by simp [cxOf])
    obtain ⟨sl', e2⟩ := un2.slot b _ e1 (I.base.free b o e n (by simp [cxOf])) (sub b hb) (by simp)
    exact ⟨sl', e2⟩
  · obtain ⟨o', e1⟩ := I.base.there b o e (by simp [cxOf])
    exact un2.free b o' e1 (I.base.free b o e n (by simp [cxOf])) (by simp)
  · obtain ⟨o', e1⟩ := I.base.there b o e (by simp [cxOf])
    exact un2.there b o' e1 (by simp)
  · obtain ⟨m1, e1⟩ := I.base.tbls b ps e
    obtain ⟨m2, e2⟩ := un2.tbls b _ e1
    exact ⟨m1 ++ m2, by rw [e2, Array.append_assoc]⟩
  · rcases k with k | k
    · cases q : s₀.heap.get? b with
      | none => exact (k q).elim
      | some o0 =>
        obtain ⟨o', e1⟩ := I.base.there b o0 q (by simp [cxOf])
        exact bk2 b o e (.inl (by rw [e1]; simp)) (notin b o0 q hb)
    · exact bk2 b o e (.inr k) fun z => k (nf b z)
  · cases q : s₀.heap.get? ea with
    | none => rfl
    | some o0 =>
      obtain ⟨o', e1⟩ := I.base.there ea o0 q (by simp [cxOf])
      rw [n2] at e1
      cases e1
theorem raise_leaves {ea : Addr} {cls : Value} {vs : List Value} {h1 : Heap} (I : Inv (cxOf (CXW P w) P w K mg base N qual scope f cd A outer s₀ H₀ E) pins σ H s) (hm : Heap.MadeExcOf s.heap h1 ea cls vs) (hE : E cls none H) :
    (cxOf (CXW P w) P w K mg base N qual scope f cd A outer s₀ H₀ E).xe (.ref ea) { s with heap := h1 } := by
  have hin : ∀ env ∈ (envOfC qual scope s₀.heap.objs.size f cd :: outer), ∀ b, env.frame = some b → b ∈ frs (envOfC qual scope s₀.heap.objs.size f cd :: outer) := fun env he b hb => List.mem_filterMap.mpr ⟨env, he, hb⟩
  have hl := PySem.W.funFrames_hide I.stack hin
  refine wpAny_mono (wpAny_calm (calm_leaving _ _) (wpAny_leaves_madeW (Q := fun _ s' => ∃ h2 t, s' = { s with heap := h2 } ∧ Heap.FlyingW (PySem.W.hideAll s.heap (frs (envOfC qual scope s₀.heap.objs.size f cd :: outer))) outer ea cls (.ref t) h2 ∧ h1.UpToSlots h2)
    (base := PySem.W.hideAll s.heap (frs (envOfC qual scope s₀.heap.objs.size f cd :: outer))) (h := s.heap) I.ok.frames rfl (fun b o q => PySem.W.of_hideAll _ q) hl hm fun h2 t x1 _ _ x4 => ⟨h2, t, rfl, x1, x4⟩)) (fun _ s' ⟨⟨h2, t, e, x1, x4⟩, dk⟩ => ?_) fun _ _ z => z.1
  subst e
  obtain ⟨t', he', _⟩ := hm.there
  refine leave_fin (s1 := { s with heap := h1 }) I rfl I.bare (Un.kept fun b u q => hm.keeps b u q) (I.hok.kept fun b u q => hm.keeps b u q) (fun b o e k n => ?_) x1 x4 (fun b hb => ?_) (inv_none I hm.new) hm.new (let ⟨o', q1, q2⟩ := dk ea _ he'; ⟨o', q1, q2.1, .inl (q2.2.trans rfl)⟩) hE
  · have e1 : ∃ o', s.heap.get? b = some o' := by
      rcases k with k | k
      · cases q : s.heap.get? b with
        | none => exact (k q).elim
        | some o0 => exact ⟨o0, rfl⟩
      · cases q : H b with
        | none => exact (k q).elim
        | some u => exact obj_some (I.hok b u q)
    obtain ⟨o', e1⟩ := e1
    have e2 := hm.keeps b o' e1
    rw [e] at e2
    cases e2
    exact PySem.W.hideAll_get _ e1 n
  · obtain ⟨_, o, e, hd⟩ := I.stack.mem hb
    exact ⟨o, hm.keeps b o e, hd⟩
theorem passW {E' : XK} (hE : ∀ cls d H', E' cls d H' → E cls d H') : Passes (CXW P w) (cxOf (CXW P w) P w K mg base N qual scope f cd A outer s₀ H₀ E) E' := by
  intro pins σ H s e s' I h
  obtain ⟨ea, cls, a0, B, H', d, rfl, os, bare, un, hok, fl, bk, n1, n2, ⟨o, ho, hd⟩, hw⟩ := h
  refine wpAny_mono (wpAny_calm (calm_leaving _ _) (wpAny_leaves_onW (Q := fun _ s'' => ∃ h2, s'' = { s' with heap := h2 } ∧ Heap.FlyingW B outer ea cls a0 h2 ∧ s'.heap.UpToSlots h2) I.ok.frames rfl fl fun h2 x1 x2 => ⟨h2, rfl, x1, x2⟩)) (fun _ s'' ⟨⟨h2, e, x1, x2⟩, dk⟩ => ?_) fun _ _ z => z.1
  subst e
  obtain ⟨o2, ho2, hd2⟩ := dk ea o ho
  exact leave_fin (s1 := s') I os bare un hok bk x1 x2 (fun b hb => (fl.2.2.1.mem hb).2) n1 n2 ⟨o2, ho2, hd2.1.trans hd.1, hd.2.imp (fun q => hd2.2.trans q) fun q d' => hE _ _ _ (q d')⟩ (hE _ _ _ hw)
theorem fun_okW {x qual : Str} {st : Stmt} {f : Addr} {fd : FuncData} {N ps : List Str} {k : Nat} {sp : Sp} (F : Fun K x qual st f fd) (S : FnScope N ps (defScope st)) (len : ∀ vs H Q E, sp vs H Q E → vs.length = ps.length)
    (hbody : ∀ (cdv : Value) (A : Around) (outer : List Env) (s : Shared) (H : Hp) (vs : List V) (Q : VK) (E : XK), Room k (A.deeper (envOfC qual (defScope st) s.heap.objs.size f cdv)) → sp vs H Q E →
      ∃ t, PSs (cxOf (CXW P w) P w K mg base N qual (defScope st) f cdv A outer s H E) (defBody st) t ∧ t { nx := fun _ H' => Q .non H', rt := Q } (start N vs) H) : FnOk P w K mg base (CXW P w) (k + 1) f fd ps sp := by
  obtain ⟨oc, od, kV, doc, pm, an, cdv, ct, osl, rfl, lk, hcd⟩ := F.ex
  exact fn_of lk hcd S len fun A outer s H vs Q E hr hsp => hbody cdv A outer s H vs Q E hr hsp
structure ExcC (K : PySem.W.Frag) (mg : Str → Option Value) (x : Str) (C : Addr) : Prop where
  bound : mg x = some (.ref C)
  ok : PySem.W.excIn K C [.type "ValueError", .type "Exception", .type "BaseException", .type "object"] "ValueError.__new__" = true
end
end My
namespace My
open PySem PySem.Spec PyProof.Rows L2
theorem exc_obj {K : PySem.W.Frag} {h : Heap} {C : Addr} {bmB : List Value} {nid : String} (X : K.In h) (q : PySem.W.excIn K C bmB nid = true) :
    ∃ bm N nm qn bs hd sn sub ab col dd k0 k1 k2 k3 k5, ∃ mN : Str → Option Value, h.get? C = some (excClassObj nm qn C N bs bm hd sn sub ab col dd k0 k1 k2 k3 k5 nid) ∧ h.Ns N mN ∧ mN "__init__" = none ∧ OwnTail h bmB bm := by
  unfold PySem.W.excIn at q
  split at q
  · next dd cdat slots lk =>
    split at q
    · next C2 rest a0 a1 a2 a3 n a5 em es =>
      simp only [Bool.and_eq_true, beq_iff_eq, Bool.not_eq_true'] at q
      obtain ⟨⟨⟨⟨⟨e1, e2⟩, e3⟩, e4⟩, e5⟩, e6⟩ := q
      subst e1 e2
      obtain ⟨c1, c2, c3, c4, c5, c6, c7, c8, c9, c10, c11⟩ := cdat
      dsimp only at em e3 e5 e6
      subst em e3
      obtain ⟨lst⟩ := slots
      have el : lst = [a0, a1, a2, a3, some (.builtin n), a5] := es
      subst el
      refine ⟨rest, _, _, _, _, _, _, _, _, _, dd, a0, a1, a2, a3, a5, h.nsMap c4, X _ _ lk, ?_, ?_, PySem.W.tail_of_in X e4⟩
      · exact .of_isNs (PySem.W.isNs_of_in X e5)
      · exact PySem.W.nsMap_none_of_in X e5 e6
    · cases q
  · cases q
section
variable {P : Program} {w : World} {K : PySem.W.Frag} {mg : Str → Option Value} {base : Heap} {N : List Str} {qual : Str} {scope : Scope} {f : Addr} {cd : Value} {A : Around} {outer : List Env} {s₀ : Shared} {H₀ : Hp} {E : XK}
theorem ps_raise {x : Str} {C : Addr} {e₀ : Expr} {te : TE} {np cpos pos : Pos} (T : ExcC K mg x C) (hg : Gl (cxOf (CXW P w) P w K mg base N qual scope f cd A outer s₀ H₀ E) x)
    (he : PE (cxOf (CXW P w) P w K mg base N qual scope f cd A outer s₀ H₀ E) e₀ te) (hd : (x == ("__debug__" : Str)) = false := by decide)
    (ht : backTo cpos (starEach [e₀] (envOfC qual scope s₀.heap.objs.size f cd)) = [(false, eval e₀ (envOfC qual scope s₀.heap.objs.size f cd))] := by rfl) :
    PS (cxOf (CXW P w) P w K mg base N qual scope f cd A outer s₀ H₀ E) (.Raise (some (.Call (.Name x np) [e₀] [] cpos)) none pos) (fun _ σ H => te σ H fun _ H1 => E (.ref C) none H1) := by
  constructor; intro pins s σ H D I h
  obtain ⟨bm, Nn, nm, qn, bs, hdc, sn, sub, ab, col, dd, k0, k1, k2, k3, k5, mN, hC, hN, hni, TL⟩ := exc_obj I.ok.mod.kin T.ok
  refine wpAny_Raise_call_subT (C := C) (nm := nm) (q := qn) (N := Nn) (bs := bs) (bm := bm) (hdct := hdc) (sn := sn) (sub := sub) (ab := ab) (col := col) (dd := dd) (k0 := k0) (k1 := k1) (k2 := k2) (k3 := k3) (k5 := k5)
    PySem.F.excBase_ValueError (mN := mN) (TL.hasType PySem.F.excBase_ValueError.hasBase) (I.ok.hd rfl) ?_ hni (ld_glob I hg T.bound ⟨rfl, ?_⟩ hd)
  · show (backTo cpos (starEach [e₀] (envOfC qual scope s₀.heap.objs.size f cd))).any (·.1) = false
    rw [ht]
    rfl
  · show wpAny _ _ (evalArgs (.ref C) true (backTo cpos (starEach [e₀] (envOfC qual scope s₀.heap.objs.size f cd))) []) _ _ _
    rw [ht]
    refine Calls.evalArgs_plain (Calls.spliced_cons (thn (he pins s σ H _ I h) fun u s1 ⟨v, H1, I1, r1, q1⟩ => Calls.spliced_nil ?_))
    refine ⟨rfl, (by show 1 ≤ sizeLine; decide), I1.bk _ _ hC, hN.keeps I1.bk, TL.keeps I1.bk, fun h' ea hm => raise_leaves I1 hm q1⟩
end
section
variable {X : Cx}
noncomputable abbrev markX (X : Cx) (ea : Addr) : Cx := { X with A := X.A.mark (some (.ref ea)), calm := false, xe := fun _ _ => False }
theorem inv_mark {pins : List (Addr × Obj)} {σ : L2.St} {H : Hp} {s : Shared} (I : Inv X pins σ H s) (ea : Addr) : Inv (markX X ea) pins σ H s :=
  ⟨⟨I.ok.mod, I.ok.kind, I.ok.glob, I.ok.blt, I.ok.above, I.ok.inj, I.ok.has, I.ok.cab, (fun z => nomatch z), I.ok.frames, I.ok.stk, I.ok.exf, I.ok.bs, I.ok.bsz, I.ok.noex, I.ok.exfs, I.ok.funs, I.ok.frf⟩, I.os, I.bare, I.base, I.loc, I.cell, I.free, I.freeC, I.pin, I.hok, I.len⟩
theorem inv_unmark {pins : List (Addr × Obj)} {σ : L2.St} {H : Hp} {s : Shared} {ea : Addr} (ok : X.Ok) (I : Inv (markX X ea) pins σ H s) : Inv X pins σ H s :=
  ⟨ok, I.os, I.bare, I.base, I.loc, I.cell, I.free, I.freeC, I.pin, I.hok, I.len⟩
theorem sp_unmark {pins : List (Addr × Obj)} {D : Ends} {fl : Flow} {s : Shared} {ea : Addr} (ok : X.Ok) (h : SP (markX X ea) pins D fl s) : SP X pins D fl s := by
  cases fl with
  | next => obtain ⟨σ', H', I, q⟩ := h; exact ⟨σ', H', inv_unmark ok I, q⟩
  | brk => obtain ⟨σ', H', I, q⟩ := h; exact ⟨σ', H', inv_unmark ok I, q⟩
  | cont => obtain ⟨σ', H', I, q⟩ := h; exact ⟨σ', H', inv_unmark ok I, q⟩
  | ret u => obtain ⟨v, σ', H', I, r, q⟩ := h; exact ⟨v, σ', H', inv_unmark ok I, r, q⟩
end
end My
namespace My
open PySem PySem.Spec PyProof.Rows L2
section
variable {X : Cx}
theorem sl_str : SlR X (fun x lo hi H Q => ∃ z : Str, x = .str z ∧ z.length ≤ sizeLine ∧ Q (.str (Txt.slice z lo hi)) H) := by
  intro pins s σ H x v vl vu lo hi sl Q I rx hs pl pu h
  obtain ⟨z, rfl, hz, q⟩ := h
  obtain ⟨t, rfl⟩ := rx
  refine ⟨"str", _, PySem.F.slot_str_getitem.lookup, typeIs_str _ _ _, ?_⟩
  have fin : ∀ lo hi, Q (.str (Txt.slice z lo hi)) H → (Txt.slice z lo hi).length ≤ sizeLine ∧ ∀ (t' : Tok) (k : Nat), EP X pins σ Q (.str (Txt.slice z lo hi) t') { s with toks := k } := fun lo hi q =>
    ⟨Nat.le_trans (Txt.slice_le z _ _) hz, fun t' k => ⟨.str _, H, I.tok _, ⟨_, rfl⟩, q⟩⟩
  cases pl with
  | none =>
    cases pu with
    | none => exact wpAny_getItem_str_slice (l := none) (u := none) (st := none) hs rfl (post_val_or_str (fin _ _ q))
    | int j uj => exact wpAny_getItem_str_slice (l := none) (u := some (j, uj)) (st := none) hs rfl (post_val_or_str (fin _ _ q))
  | int i ui =>
    cases pu with
    | none => exact wpAny_getItem_str_slice (l := some (i, ui)) (u := none) (st := none) hs rfl (post_val_or_str (fin _ _ q))
    | int j uj => exact wpAny_getItem_str_slice (l := some (i, ui)) (u := some (j, uj)) (st := none) hs rfl (post_val_or_str (fin _ _ q))
end
end My
namespace My
open PySem PySem.Spec PyProof.Rows L2
section
variable {X : Cx}
end
end My
namespace My
open PySem PySem.Spec PyProof.Rows L2 PySem.NumText
end My
namespace My
open PySem PySem.Spec PyProof.Rows L2 PySem.NumText
theorem app_codes (a b : Str) : (a ++ b).cps.toList = a.cps.toList ++ b.cps.toList := by
  show (a.cps ++ b.cps).toList = _
  simp
end My
namespace My
open PySem PySem.Spec PyProof.Rows L2 Builtin Builtin.ObjectAttr Builtin.Getset_descriptor
structure ExcK (K : PySem.W.Frag) (C : Addr) : Prop where
  it : PySem.W.isClsIn K C = true
  ga : PySem.W.findIn K (.ref C) "__getattribute__" = some (some (.builtin "BaseException.__getattribute__"))
  gt : PySem.W.findIn K (.ref C) "__getattr__" = some none
  cl : PySem.W.findIn K (.ref C) "__class__" = some (some (.builtin "object.__class__"))
  mB : PySem.W.mroIn K C (.type "BaseException") = some true
  mO : PySem.W.mroIn K C (.type "object") = some true
noncomputable def IsExc (a C : Addr) (h : Heap) : Prop := ∃ o, h.get? a = some o ∧ o.cls = .ref C
section
variable {prog : Program} {w : World} {A : Around} {E : Value → Shared → Prop} {h : Heap} {g : Array GenState} {d : Drawn} {t : Nat} {os : OsState} {a C : Addr} {o : Obj} {K : PySem.W.Frag}
theorem ec_get {R : Result → Shared → Prop} (X : K.In h) (T : ExcK K C) (hx : h.get? a = some o) (hc : o.cls = .ref C) (hq : R (.ok (.ret (.ref C))) ⟨h, g, d, t, os⟩) :
    codeAny (model prog w) A (.call (.builtin "getset_descriptor.__get__") ⟨[.builtin "object.__class__", .ref a, .ref C], []⟩) R ⟨h, g, d, t, os⟩ := by
  have L0 : PySem.W.Looks (model prog w) h (typeOf (.ref a)) (.ref C) := hc ▸ (PySem.W.Looks.ld hx).andThen .now
  have L1 := PySem.W.looks_mroIn (M := model prog w) X T.mO
  refine codeAny_call_builtin PySem.W.KF.slot_gs.plain PySem.W.KF.entry_gs (PySem.W.KF.slot_gs.check _ _ _ _ _ _ _ _ PySem.W.KF.type_class (PySem.W.KF.args_gs _ _ _) ?_)
  unfold Builtin.«getset_descriptor.__get__» descrGet
  rw [PySem.W.dga_obj]
  refine wpAny_bind (wpAny_pure ?_)
  unfold descrGetter descrCheckInstance descrNameAndClass isInstance
  simp only [PySem.W.KF.owner_class]
  repeat lk
  refine ⟨Code.quiet_builtin _ (by decide +kernel), codeAny_builtin PySem.W.KF.entry_class ?_⟩
  unfold Builtin.«object.__class__» shownTypeOf
  repeat lk
  exact hq
theorem ec_entry {tk : Tok} {Q : Fin → Shared → Prop} (X : K.In h) (T : ExcK K C) (hx : h.get? a = some o) (hc : o.cls = .ref C) (hq : Q (.done (.ret (.ref C))) ⟨h, g, d, t, os⟩) :
    wpAny (model prog w) A (Builtin.«object.__getattribute__» ⟨[.ref a, .str "__class__" tk], []⟩) Q E ⟨h, g, d, t, os⟩ := by
  have hT5 : (⟨h, g, d, t, os⟩ : Shared).TypeIs (.builtin "object.__class__") "getset_descriptor" := F.typeOf_object_class
  have f5 := F.typeOf_object_class
  have f6 := F.slot_gs_get.lookup
  have f7 := F.slot_gs_set.lookup
  have L2 := PySem.W.looks_findIn (M := model prog w) X T.cl
  repeat (any_goals (first | assumption | (with_reducible refine wpAny_loadPart_at hx ?_; rw [hc]) | with_reducible refine PySem.W.Looks.at L2 ?_ | wp_step))
  refine ec_get X T hx hc ?_
  repeat (any_goals (first | assumption | wp_step))
theorem ec_check {M : Model} {nameV : Value} {Q : Unit → Shared → Prop} (X : K.In h) (T : ExcK K C) (hx : h.get? a = some o) (hc : o.cls = .ref C) (hq : Q () ⟨h, g, d, t, os⟩) : wpAny M A (checkBuiltinCall "BaseException.__getattribute__" ⟨[.ref a, nameV], []⟩) Q E ⟨h, g, d, t, os⟩ := by
  have hk : builtinKind "BaseException.__getattribute__" = some .slot := by decide +kernel
  have hsplit : splitId "BaseException.__getattribute__" = some ("BaseException", "__getattribute__") := by decide +kernel
  have L1 := PySem.W.looks_mroIn (M := M) X T.mB
  have ha := F.args_bexc_ga (.ref a) nameV
  simp only [checkBuiltinCall, hk, hsplit]
  refine wpAny_bind ?_
  unfold isInstance
  repeat (first | (with_reducible refine wpAny_loadPart_at hx ?_; rw [hc]) | with_reducible refine PySem.W.Looks.at L1 ?_ | wp_step)
  exact hq
theorem ec_call {tk : Tok} {R : Result → Shared → Prop} (X : K.In h) (T : ExcK K C) (hx : h.get? a = some o) (hc : o.cls = .ref C) (hq : R (.ok (.ret (.ref C))) ⟨h, g, d, t, os⟩) :
    codeAny (model prog w) A (.call (.builtin "BaseException.__getattribute__") ⟨[.ref a, .str "__class__" tk], []⟩) R ⟨h, g, d, t, os⟩ :=
  codeAny_call_builtin PySem.F.attr_ValueError.ga.plain F.entry_bexc_ga (ec_check X T hx hc (ec_entry X T hx hc hq))
theorem ec_by {tk : Tok} {fill expr : Bool} {Q : Value → Shared → Prop} (X : K.In h) (T : ExcK K C) (hx : h.get? a = some o) (hc : o.cls = .ref C) (hq : Q (.ref C) ⟨h, g, d, t, os⟩) :
    wpAny (model prog w) A (getAttrBy (.ref a) (.str "__class__" tk) fill expr) Q E ⟨h, g, d, t, os⟩ := by
  have f3 := PySem.F.attr_ValueError.ga.bind (.ref a)
  have hx0 : (expr && onTheHeap (Value.builtin "BaseException.__getattribute__")) = false := by cases expr <;> rfl
  have hx2 : (Value.builtin "BaseException.__getattribute__" == Value.builtin "object.__getattribute__") = false := by decide +kernel
  have hx1 : (onTheHeap (Value.ref C) && Value.builtin "BaseException.__getattribute__" == Value.builtin "object.__getattribute__") = false := by rw [hx2]; rfl
  have L1 := PySem.W.looks_findIn (M := model prog w) X T.ga
  have L2 := PySem.W.looks_findIn (M := model prog w) X T.gt
  repeat (any_goals (first | assumption | (with_reducible refine wpAny_loadPart_at hx ?_; rw [hc]) | with_reducible refine PySem.W.Looks.at L1 ?_ | with_reducible refine PySem.W.Looks.at L2 ?_ | wp_step))
  refine ec_call X T hx hc ?_
  repeat (any_goals (first | assumption | wp_step))
end
theorem kitx_exc {K : PySem.W.Frag} {a C : Addr} (T : ExcK K C) : PySem.W.KitX K (.ref a) (.ref C) (IsExc a C) where
  ty := fun _ _ _ ⟨_, hx, hc⟩ => hc ▸ (PySem.W.Looks.ld hx).andThen .now
  it := fun _ h X _ => by
    have z0 := T.it
    unfold PySem.W.isClsIn PySem.W.clsIn at z0
    split at z0
    · rename_i c' d' cd' sl' ho
      intro A' Q' E' s' k q
      unfold isType loadHead
      exact wpAny_bind (wpAny_loadPart (k _ _ (X _ _ ho)) (wpAny_pure q))
    · cases z0
  ne := fun h tp dd its n sl X htp => by
    have z0 := T.it
    refine Bool.eq_false_iff.mpr fun q => ?_
    have e : C = tp := Value.ref.inj (beq_iff_eq.mp q)
    subst e
    unfold PySem.W.isClsIn PySem.W.clsIn at z0
    split at z0
    · rename_i c' d' cd' sl' ho
      have z := (X _ _ ho).symm.trans htp
      cases z
    · cases z0
  ca := fun {prog w A E Q s} X ⟨o, hx, hc⟩ k => by
    obtain ⟨h, g, d, t, os⟩ := s
    unfold getAttr? getAttrBy?
    refine wpAny_bind (wpAny_mkText (wpAny_bind (wpAny_attempt (ec_by X T hx hc ?_))))
    exact wpAny_pure k
end My
namespace My
open PySem PySem.Spec PyProof.Rows L2
noncomputable abbrev excO (a C : Addr) : HO := .ext (IsExc a C)
theorem excO_ok {P : Program} {w : World} {H : Hp} {h : Heap} {a C : Addr} {o : Obj} (e : h.get? a = some o) (hc : o.cls = .ref C) : ObjOk P w H h a (excO a C) :=
  ⟨⟨o, e, hc⟩, ⟨o, e⟩, fun _ _ ⟨o, e, hc⟩ k => ⟨o, k o e, hc⟩⟩
section
variable {X : Cx}
theorem isExc_of {pins : List (Addr × Obj)} {σ : L2.St} {H : Hp} {s : Shared} {a C : Addr} (I : Inv X pins σ H s) (h : H a = some (excO a C)) : IsExc a C s.heap :=
  (show ObjOk X.prog X.w H s.heap a (excO a C) from I.hok a _ h).1
structure KitP (K : PySem.W.Frag) (C D : Addr) (b : Bool) : Prop where
  it : PySem.W.isClsIn K D = true
  ty : PySem.W.typeIn K (.ref D) = some (.type "type")
  self : PySem.W.subIn K (.ref C) (.ref C) = some true
  sub : PySem.W.subIn K (.ref C) (.ref D) = some b
theorem KitP.one {K : PySem.W.Frag} {C D : Addr} {b : Bool} (p : KitP K C D b) : PySem.W.kitOne K (.ref C) (.ref D) = some b := by
  unfold PySem.W.kitOne
  by_cases e : (Value.ref C == Value.ref D) = true
  · rw [if_pos e]
    have e1 : C = D := Value.ref.inj (beq_iff_eq.mp e)
    have h1 := p.self
    have h2 := p.sub
    rw [← e1, h1] at h2
    exact h2
  · rw [if_neg e]
    show (if ((PySem.W.clsIn K D).isSome && PySem.W.typeIn K (.ref D) == some (.type "type")) = true then PySem.W.subIn K (.ref C) (.ref D) else none) = some b
    have h1 : (PySem.W.clsIn K D).isSome = true := p.it
    rw [h1, p.ty, if_pos (by simp), p.sub]
theorem kit_ve {K : PySem.W.Frag} {C : Addr} {b : Bool} (h : PySem.W.subIn K (.ref C) (.type "ValueError") = some b) : PySem.W.kitOne K (.ref C) (.type "ValueError") = some b := by
  have e : (Value.ref C == Value.type "ValueError") = false := Bool.eq_false_iff.mpr fun q => by cases beq_iff_eq.mp q
  unfold PySem.W.kitOne
  rw [e, if_neg (by simp)]
  show (if PySem.W.kitMeta "ValueError" = true then PySem.W.subIn K (.ref C) (.type "ValueError") else none) = some b
  rw [if_pos (by decide +kernel), h]
theorem call_isx : CallR X (.builtin "isinstance") (fun xs H Q => ∃ a C b c, xs = [V.ref a, c] ∧ H a = some (excO a C) ∧ ExcK X.K C ∧ ((∃ D, c = V.ref D ∧ PySem.W.kitOne X.K (.ref C) (.ref D) = some b) ∨ ∃ T, c = V.ty T ∧ PySem.W.kitOne X.K (.ref C) (.type T) = some b) ∧ Q (.bl b) H) := by
  intro pins s σ H xs us Q I r h
  obtain ⟨a, C, b, c, rfl, ha, T, hc, q⟩ := h
  obtain ⟨u, w', rfl, ru, rw'⟩ := vals2 r
  cases ru
  rcases hc with ⟨D, rfl, e⟩ | ⟨n, rfl, e⟩
  · cases rw'
    exact PySem.W.kia_one (kitx_exc T) I.kIn (isExc_of I ha) e (fun z => nomatch z) fun tk => ⟨.bl b, H, I.tok tk, rfl, q⟩
  · cases rw'
    exact PySem.W.kia_one (kitx_exc T) I.kIn (isExc_of I ha) e (fun z => nomatch z) fun tk => ⟨.bl b, H, I.tok tk, rfl, q⟩
theorem exc_matches {M : Model} {A : Around} {E : Value → Shared → Prop} {K : PySem.W.Frag} {h : Heap} {g : Array GenState} {d : Drawn} {t : Nat} {os : OsState} {e C S : Addr} {oe : Obj} {b : Bool} {Q : Bool → Shared → Prop} (X : K.In h) (he : h.get? e = some oe) (hcls : oe.cls = .ref C)
    (hty : PySem.W.typeIn K (.ref S) = some (.type "type")) (hit : PySem.W.isClsIn K S = true) (hB : PySem.W.mroIn K S (.type "BaseException") = some true) (hs : PySem.W.subIn K (.ref C) (.ref S) = some b) (hq : Q b ⟨h, g, d, t, os⟩) : wpAny M A (excMatches (.ref e) (.ref S)) Q E ⟨h, g, d, t, os⟩ := by
  have f := tc_notTuple
  have L0 := PySem.W.looks_typeIn (M := M) X hty
  have L1 := PySem.W.looks_mroIn (M := M) X hB
  have L2 := PySem.W.looks_subIn (M := M) X hs
  have L3 : PySem.W.Looks M h (isType (.ref S)) true := by
    unfold PySem.W.isClsIn PySem.W.clsIn at hit
    split at hit
    · rename_i c' d' cd' sl' ho
      intro A' Q' E' s' k q
      unfold isType loadHead
      exact wpAny_bind (wpAny_loadPart (k _ _ (X _ _ ho)) (wpAny_pure q))
    · cases hit
  unfold excMatches isInstance
  repeat (first | (with_reducible refine wpAny_loadPart_at he ?_; rw [hcls]) | with_reducible refine PySem.W.Looks.at L0 ?_ | with_reducible refine PySem.W.Looks.at L1 ?_ | with_reducible refine PySem.W.Looks.at L2 ?_ | with_reducible refine PySem.W.Looks.at L3 ?_ | wp_step)
  cases b <;> (wp_walk; exact hq)
end
end My
namespace My
open PySem PySem.Spec PyProof.Rows L2
section
variable {X : Cx} {pins : List (Addr × Obj)} {σ : L2.St} {H : Hp} {s : Shared}
theorem name_goes {M : Model} {A : Around} {E : Value → Shared → Prop} {j : Nat} {n : Str} {pos : Pos} {Q : Unit → Shared → Prop} (I : Inv X pins σ H s) (hN : X.N.Nodup) (hj : X.N[j]? = some n) (hk : X.env.scope.names.lookup n = some .local)
    (h : ∀ s', Inv X pins (σ.set j none) H s' → Q () s') : wpAny M A (do bindName X.env n .none; unbindBehindTheSuite X.env n pos) Q E s := by
  obtain ⟨m, hn, hl⟩ := id I.loc
  have hcls : (X.env.scope.kind == .class || (X.env.scope.kind == .module && X.env.locals != X.env.globals)) = false := by rw [I.ok.kind]; rfl
  have hjσ : j < σ.length := by rw [I.len]; exact (List.getElem?_eq_some_iff.mp hj).1
  have cne := I.cne
  refine wpAny_nameGoes_keeps hk hn hcls fun h' v hn' hs => ?_
  obtain ⟨oL, _, _, hoL, _⟩ := id hn
  refine h _ ⟨I.ok, I.os, I.bare, ⟨fun b o e n hb hx => ?_, fun b o e n hb hx => ?_, I.base.free, fun b o e hx => ?_, I.base.tups, I.base.frzs, I.base.tbls⟩, ⟨_, hn', fun i y v' e1 e2 e3 => ?_⟩, fun y c e => ?_, I.free, I.freeC, fun p hp => ?_, fun b ob e => ?_, by simpa using I.len⟩
  · exact (hs.2 b (Nat.ne_of_lt (Nat.lt_of_lt_of_le (Heap.lt_size e) I.ok.above))).trans (I.base.keep b o e n hb hx)
  · obtain ⟨sl, e1⟩ := I.base.slot b o e n hb hx
    exact ⟨sl, (hs.2 b (Nat.ne_of_lt (Nat.lt_of_lt_of_le (Heap.lt_size e) I.ok.above))).trans e1⟩
  · obtain ⟨o', e1⟩ := I.base.there b o e hx
    exact ⟨o', (hs.2 b (Nat.ne_of_lt (Nat.lt_of_lt_of_le (Heap.lt_size e) I.ok.above))).trans e1⟩
  · by_cases hi : i = j
    · subst hi
      rw [List.getElem?_set_self hjσ] at e2
      cases e2
    · rw [List.getElem?_set_ne (Ne.symm hi)] at e2
      obtain ⟨u', r', q⟩ := hl i y v' e1 e2 e3
      refine ⟨u', r', ?_⟩
      rcases q with ⟨k, e⟩ | ⟨k, c, e, z⟩
      · refine .inl ⟨k, ?_⟩
        have : y ≠ n := fun e => hi (nodup_ix hN e1 (e ▸ hj))
        simp [this, e]
      · exact .inr ⟨k, c, e, z.sameBut hs (cne y c e)⟩
  · obtain ⟨w', z⟩ := I.cell y c e
    exact ⟨w', z.sameBut hs (cne y c e)⟩
  · obtain ⟨e, n, ne, nf, d⟩ := I.pin p hp
    exact ⟨(hs.2 p.1 ne).trans e, n, ne, nf, d⟩
  · refine (I.hok b ob e).stay (fun c w' hc q => (hs.2 c ?_).trans q) (fun _ q => q) fun _ _ q => q
    rintro rfl
    rcases hc with rfl | hc
    · rw [I.free] at e; cases e
    · rw [I.free] at hc; cases hc
theorem inv_track {s1 : Shared} {H1 : Hp} {a : Addr} {o : HO} (I1 : Inv X pins σ H1 s1) (I : Inv X pins σ H s) (hn : s1.heap.get? a = none) (ha : H a = none) (ok : ObjOk X.prog X.w (upd H a o) s.heap a o) : Inv X pins σ (upd H a o) s := by
  have ne : ∀ b u, s1.heap.get? b = some u → b ≠ a := fun b u e z => by rw [z, hn] at e; cases e
  refine ⟨I.ok, I.os, I.bare, ⟨I.base.keep, I.base.slot, fun b u e n hx => ?_, I.base.there, fun b xs e => ?_, fun b u v e => ?_, fun b ps e => ?_⟩, I.loc, I.cell, ?_, fun x c e => ?_, fun p hp => ?_, fun b u e => ?_, I.len⟩
  · obtain ⟨u', e1⟩ := I1.base.there b u e hx
    rw [upd_ne (ne b u' e1)]
    exact I.base.free b u e n hx
  · have q := I.base.tups b xs e
    rw [upd_ne (ne_of_none q ha)]
    exact q
  · have q := I.base.frzs b u v e
    rw [upd_ne (ne_of_none q ha)]
    exact q
  · obtain ⟨more, q⟩ := I.base.tbls b ps e
    exact ⟨more, by rw [upd_ne (ne_of_none q ha)]; exact q⟩
  · obtain ⟨m0, ⟨u, _, _, hu, _⟩, _⟩ := I1.loc
    rw [upd_ne (ne _ u hu)]
    exact I.free
  · obtain ⟨v, u, hu, _⟩ := I1.cell x c e
    rw [upd_ne (ne c u hu)]
    exact I.freeC x c e
  · obtain ⟨e, n, n2, nf, d⟩ := I.pin p hp
    obtain ⟨e1, _⟩ := I1.pin p hp
    exact ⟨e, by rw [upd_ne (ne _ _ e1)]; exact n, n2, nf, d⟩
  · by_cases hb : b = a
    · subst hb
      rw [upd_same] at e
      cases e
      exact ok
    · rw [upd_ne hb] at e
      refine (I.hok b u e).stay (fun c v hc q => q) (fun c q => ?_) fun c xs q => ?_
      · rw [upd_ne (ne_of_none q ha)]; exact q
      · rw [upd_ne (ne_of_none q ha)]; exact q
structure ExcS (K : PySem.W.Frag) (mg : Str → Option Value) (x : Str) (S : Addr) : Prop where
  bound : mg x = some (.ref S)
  ty : PySem.W.typeIn K (.ref S) = some (.type "type")
  it : PySem.W.isClsIn K S = true
  mB : PySem.W.mroIn K S (.type "BaseException") = some true
noncomputable def gone (j : Nat) (D : Ends) : Ends := { nx := fun σ H => D.nx (σ.set j none) H, rt := D.rt, bk := fun σ H => D.bk (σ.set j none) H, ct := fun σ H => D.ct (σ.set j none) H }
noncomputable def IsExcK (a C : Addr) (d : Option Addr) (h : Heap) : Prop := ∃ o, h.get? a = some o ∧ o.cls = .ref C ∧ PySem.W.notCls o = true ∧ o.dict = d
end
end My
namespace My
open PySem PySem.Spec PyProof.Rows L2
noncomputable def Itf (ys : List V) : It := ⟨fun i _ => i < ys.length, fun i H x H' => H' = H ∧ ys[i]? = some x, fun i _ => ys.length ≤ i⟩
noncomputable abbrev vsigns (y : Str) : List V := y.cps.toList.map fun c => V.str ⟨#[c]⟩
noncomputable abbrev strIt (y : Str) : String := if y.cps.all (· < 128) then "str_ascii_iterator" else "str_iterator"
noncomputable abbrev strItO (y : Str) (t : Tok) : Obj := { cls := .type (strIt y), data := .fields #[.str y t, .int 0 0] }
section
variable {X : Cx} {tg : Expr}
end
structure Src (P : Program) (w : World) (K : PySem.W.Frag) (J : It) (it : Addr) (st : Nat → Heap → Prop) : Prop where
  obj : ∀ i h, st i h → ∃ o, h.get? it = some o ∧ ∀ v, o.data ≠ .cell v
  keep : ∀ i h h', st i h → (∀ o, h.get? it = some o → h'.get? it = some o) → st i h'
  item : ∀ (X : Cx), X.prog = P → X.w = w → X.K = K → ∀ (A : Around) (i : Nat) (pins : List (Addr × Obj)) (s : Shared) (σ : L2.St) (H : Hp) (Q : Value → Shared → Prop) (E : Value → Shared → Prop), Inv X pins σ H s → st i s.heap → J.go i H →
    (∀ x u h' tk, RelV x u → J.yld i H x H → st (i + 1) h' → Heap.SameBut it s.heap h' → Q u { s with heap := h', toks := tk }) → wpAny (model P w) A (Builtin.SmallTypes.nextOf (.ref it)) Q E s
  done : ∀ (X : Cx), X.prog = P → X.w = w → X.K = K → ∀ (A : Around), A.handled = none → ∀ (i : Nat) (pins : List (Addr × Obj)) (s : Shared) (σ : L2.St) (H : Hp) (Q : Value → Shared → Prop) (E : Value → Shared → Prop), Inv X pins σ H s → st i s.heap → J.stop i H →
    (∀ h' e, Heap.ExtBut it s.heap h' → (∃ o, h'.get? e = some o ∧ o.cls = .type "StopIteration") → E (.ref e) { s with heap := h' }) → wpAny (model P w) A (Builtin.SmallTypes.nextOf (.ref it)) Q E s
section
variable {P : Program} {w : World} {K : PySem.W.Frag}
structure ZipAp (z TI TO i1 i2 : Addr) : Prop where
  TIz : TI ≠ z
  TOz : TO ≠ z
  i1z : i1 ≠ z
  i2z : i2 ≠ z
  TITO : TI ≠ TO
  TIi1 : TI ≠ i1
  TIi2 : TI ≠ i2
  TOi1 : TO ≠ i1
  TOi2 : TO ≠ i2
  i12 : i1 ≠ i2
inductive SrcV (h : Heap) : Value → Obj → Prop where
  | list {l : Addr} {xs : Array Value} (e : h.IsList l xs) : SrcV h (.ref l) { cls := .type "list_iterator", data := .fields #[.ref l, .int 0 0] }
  | tup {l : Addr} {xs : Array Value} (e : h.IsTuple l xs) : SrcV h (.ref l) { cls := .type "tuple_iterator", data := .fields #[.ref l, .int 0 0] }
  | str (y : Str) (t : Tok) : SrcV h (.str y t) (strItO y t)
noncomputable abbrev zA (h : Heap) (o1 : Obj) : Heap := h.push o1
noncomputable abbrev zB (h : Heap) (o1 o2 : Obj) : Heap := (zA h o1).push o2
noncomputable abbrev zC (h : Heap) (o1 o2 : Obj) : Heap := (zB h o1 o2).push { cls := .type "tuple", data := .seq #[.ref h.objs.size, .ref (zA h o1).objs.size] }
noncomputable abbrev zD (h : Heap) (o1 o2 : Obj) : Heap := (zC h o1 o2).push { cls := .type "tuple", data := .seq #[.none, .none] }
structure Zipped (h g : Heap) (o1 o2 : Obj) (z TI TO i1 i2 : Addr) : Prop where
  zip : IsZip g z TI TO .none
  ins : IsPair g TI (.ref i1) (.ref i2)
  outs : IsPair g TO .none .none
  one : g.get? i1 = some o1
  two : g.get? i2 = some o2
  keep : ∀ c o, h.get? c = some o → g.get? c = some o
  young : ∀ c ∈ [z, TI, TO, i1, i2], h.objs.size ≤ c
  ap : ZipAp z TI TO i1 i2
end
inductive SrcOf (K : PySem.W.Frag) (H : Hp) : V → It → Prop where
  | list {a : Addr} {xs : List V} (h : SqL K H a xs) : SrcOf K H (.ref a) (Itl K a)
  | tup {a : Addr} {xs : List V} (h : SqT K H a xs) : SrcOf K H (.ref a) (Itt K a)
  | str (y : Str) : SrcOf K H (.str y) (Itf (vsigns y))
section
variable {X : Cx}
end
structure Gives (J : It) (H : Hp) (xs : List V) : Prop where
  go : ∀ i, i < xs.length → J.go i H
  stop : ∀ i, xs.length ≤ i → J.stop i H
  yld : ∀ i x H', J.yld i H x H' → xs[i]? = some x
theorem gives_list {K : PySem.W.Frag} {H : Hp} {a : Addr} {xs : List V} (h : SqL K H a xs) : Gives (Itl K a) H xs := ⟨fun i hi => ⟨xs, xs[i], h, by simp [hi]⟩, fun i hi => ⟨xs, h, hi⟩, fun i x H' y => y.2 xs h⟩
end My
namespace My
open PySem PySem.Spec PyProof.Rows L2 PySem.NumText
section
variable {X : Cx}
end
section
variable {K : PySem.W.Frag}
end
noncomputable def Short (n : Nat) (x : Str) : Prop := x.length ≤ n ∧ ∀ c ∈ x.cps.toList, c < 16 ^ 8
theorem Short.app {n m : Nat} {x y : Str} (h : Short n x) (g : Short m y) : Short (n + m) (x ++ y) := ⟨by rw [strLen_append]; have := h.1; have := g.1; omega, fun c hc => by
  rw [app_codes] at hc
  rcases List.mem_append.mp hc with z | z
  · exact h.2 c z
  · exact g.2 c z⟩
theorem slice_mem (x : Str) (lo hi : Option Int) : ∀ c ∈ (Txt.slice x lo hi).cps.toList, c ∈ x.cps.toList := by
  intro c hc
  unfold Txt.slice at hc
  split at hc
  · exact hc
  · have hc' : c ∈ (PySem.Builtin.Str.strSliceIndices lo hi 1 x.length).filterMap (x.cps[·]?) := hc
    obtain ⟨i, _, e⟩ := List.mem_filterMap.mp hc'
    rw [← Array.getElem?_toList] at e
    exact List.mem_of_getElem? e
theorem Short.slice {n : Nat} {x : Str} (h : Short n x) (lo hi : Option Int) : Short n (Txt.slice x lo hi) := ⟨Nat.le_trans (Txt.slice_le x _ _) h.1, fun c hc => h.2 c (slice_mem x lo hi c hc)⟩
theorem Short.one {c : Nat} (h : c < 16 ^ 8) : Short 1 ⟨#[c]⟩ := by
  refine ⟨Nat.le_refl _, fun d hd => ?_⟩
  have : d = c := by simpa using hd
  rw [this]
  exact h
section
variable {X : Cx} {K : PySem.W.Frag}
theorem call_isxK (hK : X.K = K) : CallR X (.builtin "isinstance") (fun xs H Q => ∃ a C b c, xs = [V.ref a, c] ∧ H a = some (excO a C) ∧ ExcK K C ∧ ((∃ D, c = V.ref D ∧ PySem.W.kitOne K (.ref C) (.ref D) = some b) ∨ ∃ T, c = V.ty T ∧ PySem.W.kitOne K (.ref C) (.type T) = some b) ∧ Q (.bl b) H) := by
  subst hK
  exact call_isx
end
end My
namespace My
open PySem PySem.Spec PyProof.Rows L2
section
variable {X : Cx} {pins : List (Addr × Obj)} {σ : L2.St} {H : Hp} {s : Shared} {scope : Scope} {N : List Str} {C : Addr} {ex : List Addr}
end
section
variable {X : Cx} {pins : List (Addr × Obj)} {σ : L2.St} {H : Hp} {s : Shared} {scope : Scope} {N : List Str} {target iter elt : Expr} {pos : Pos} {g : TG} {te : TE}
theorem comp_after {s' : Shared} {H' : Hp} {fp : List Addr} {C : Addr} (I : Inv X pins σ H s) (hf : ∀ b ∈ fp, FpOk X pins H b) (os : s'.os = s.os) (bare : AllBare s'.gens) (un : Un (frs X.stack) fp H H' s.heap s'.heap) (hok : HOk X.prog X.w H' s'.heap) (nC : H' C = none) (hC : s.heap.objs.size ≤ C) :
    Inv X pins σ H' s' ∧ FpOk X pins H' C :=
  ⟨I.call' os un hok bare fun b hb => let ⟨_, f1, _, f3, f4, f5⟩ := hf b hb; ⟨f3, f1, f4, f5⟩, I.fpOk hC nC⟩
theorem inv_but {H' : Hp} {C : Addr} {h' : Heap} (I : Inv X pins σ H' s) (f : FpOk X pins H' C) (k : Heap.SameBut C s.heap h') : Inv X pins σ H' { s with heap := h' } :=
  let ⟨f0, f1, _, f3, f4, f5⟩ := f
  I.turned (t' := s.toks) (fun b o hb e => (k.2 b hb).trans e) f0 f1 f3 f4 f5
end
end My
namespace My
open PySem PySem.Spec PyProof.Rows L2 PySem.Builtin.Str
section
variable {X : Cx}
end
theorem passF {P : Program} {w : World} {X : Cx} : Passes (CXW P w) X (fun _ _ _ => False) := fun _ _ _ _ _ _ _ h => by
  obtain ⟨_, _, _, _, _, _, _, _, _, _, _, _, _, _, _, _, z⟩ := h
  exact z.elim
end My
namespace My
open PySem PySem.Spec PyProof.Rows L2
structure KDict (P : Program) (w : World) (K : PySem.W.Frag) (a : Addr) (kvs : List (Key × V)) : Prop where
  get : ∀ h : Heap, K.In h → ∃ vs, KV kvs vs ∧ h.DictOf (mixKind P w) a vs
  sys : (a == sysModules) = false
inductive KEnts (w : World) : List DictEntry → List (Str × V) → Prop where
  | nil : KEnts w [] []
  | cons {x : Str} {t : Tok} {v : V} {u : Value} {es : List DictEntry} {ps : List (Str × V)} (r : RelV v u) (q : KEnts w es ps) : KEnts w ({ hash := hashStr w x, key := .str x t, val := u } :: es) ((x, v) :: ps)
end My
namespace My
open PySem PySem.Spec PyProof.Rows L2
end My
namespace My
open PySem PySem.Spec PyProof.Rows L2
end My
namespace My
open PySem PySem.Spec PyProof.Rows L2
section
variable {X : Cx}
end
end My
namespace My
open PySem
section
variable {prog : Program} {w : World} {A : Around} {E : Value → Shared → Prop} {h : Heap} {g : Array GenState} {d : Drawn} {t : Nat} {os : OsState}
variable {nm q : Str} {C N : Addr} {bs bm bmB : List Value} {hdct : Bool} {sn : List Str} {sub : List Value} {ab : Bool} {col : Option Bool} {dd : Option Addr} {k0 k1 k2 k3 k5 : Option Value} {B newId initId : String}

end
end My
namespace My
open PySem PySem.Spec PyProof.Rows L2
noncomputable abbrev mroVE : List Value := [.type "ValueError", .type "Exception", .type "BaseException", .type "object"]
noncomputable def ExcCl (K : PySem.W.Frag) (C : Addr) : Prop := ∃ bm N nm qn bs hd sn sub ab col dd k0 k1 k2 k3 k5, K.lookup C = some (excClassObj nm qn C N bs bm hd sn sub ab col dd k0 k1 k2 k3 k5 "ValueError.__new__") ∧ ∀ h, K.In h → OwnTail h mroVE bm
section
variable {prog : Program} {w : World} {A : Around} {E : Value → Shared → Prop} {h : Heap} {g : Array GenState} {d : Drawn} {t : Nat} {os : OsState} {a C : Addr} {ox : Obj} {od : Option Obj} {K : PySem.W.Frag} {name : Str} {v : Value}
structure ExcW (K : PySem.W.Frag) (C : Addr) : Prop where
  sa : PySem.W.findIn K (.ref C) "__setattr__" = some (some (.builtin "object.__setattr__"))
  hd : PySem.W.hasDictIn K C = true
  mO : PySem.W.mroIn K C (.type "object") = some true
  tl : ExcCl K C
end
end My
namespace My
open PySem PySem.Spec PyProof.Rows L2
section
variable {P : Program} {w : World} {H : Hp} {h : Heap} {a C dx : Addr} {fs : List (Str × V)}
end
section
variable {X : Cx} {pins : List (Addr × Obj)} {σ : L2.St} {H : Hp} {s : Shared} {a C dx : Addr} {fs : List (Str × V)} {A : Around} {E : Value → Shared → Prop} {f : Str} {y v : V} {u : Value}
end
section
variable {X : Cx} {o e value : Expr} {f : Str} {pos pos' : Pos} {ta tv : TE}
end
end My
namespace My
open PySem PySem.Spec PyProof.Rows L2
structure MkX (K : PySem.W.Frag) (C f : Addr) : Prop where
  cls : ExcCl K C
  init : PySem.W.findIn K (.ref C) "__init__" = some (some (.ref f))
  fn : PySem.W.isFn K (.ref f) = true
  kp : PySem.W.keepIn K (.ref C) = true
section
variable {X : Cx} {CX : CXT} {k : Nat} {f C : Addr} {fd : FuncData} {ps : List Str} {sp : Sp} {dvs : List V} {ds : List Value} {E : XK} {x m : Str} {p pos apos : Pos} {e o : Expr} {es : List Expr} {ta : TE} {t : TA}
structure ClsB (K : PySem.W.Frag) (S : Addr) (m : Str) (id : String) : Prop where
  sp : PySem.W.specialIn K (.ref S) "__getattribute__" = some (some (.builtin "type.__getattribute__"))
  rd : PySem.W.readsIn K S (.type "type") = true
  fd : PySem.W.findCls K (.ref S) (.type "type") m = some (.val (.builtin id))
  ha : PySem.W.handedIn (.builtin id) = true
end
end My
namespace My
open PySem PySem.Spec PyProof.Rows L2
section
variable {M : Model} {A : Around} {E : Value → Shared → Prop} {s : Shared} {env : Env} {K : PySem.W.Frag} {C : Addr}
end

noncomputable def del (H : Hp) (a : Addr) : Hp := fun b => if b = a then none else H b
section
variable {X : Cx} {CX : CXT} {k : Nat} {f C : Addr} {fd : FuncData} {ps : List Str} {sp : Sp} {dvs : List V} {ds : List Value} {E : XK}
end
section
variable {P : Program} {w : World} {H H2 : Hp} {fs : List Addr} {h h' h2 : Heap} {ea : Addr} {o : HO}
end

section
variable {P : Program} {w : World} {K : PySem.W.Frag} {mg : Str → Option Value} {base : Heap} {N : List Str} {qual : Str} {scope : Scope} {f : Addr} {cd : Value} {A : Around} {outer : List Env} {s₀ : Shared} {H₀ : Hp} {E : XK}
  {pins : List (Addr × Obj)} {σ : L2.St} {H H2 : Hp} {s s2 : Shared} {h' : Heap} {ea C : Addr} {d : Option Addr}
end

section
variable {P : Program} {w : World} {K : PySem.W.Frag} {mg : Str → Option Value} {base : Heap} {N : List Str} {qual : Str} {scope : Scope} {f fI : Addr} {cd : Value} {A : Around} {outer : List Env} {s₀ : Shared} {H₀ : Hp} {E : XK}
end
end My
namespace My
open PySem PySem.Spec PyProof.Rows L2
section
variable {M : Model} {A : Around} {E : Value → Shared → Prop} {s : Shared}
end
section
variable {X : Cx}
end
end My
namespace My
open PySem PySem.Spec PyProof.Rows L2
section
variable {X : Cx} {K : PySem.W.Frag}
end
end My
namespace My
open PySem PySem.Spec PyProof.Rows L2
noncomputable def closOf (cells : List (Str × Addr)) : List (Str × NameKind) → List (Str × Addr) → List (Str × Addr)
  | [], acc => acc
  | (n, k) :: r, acc => if (k == NameKind.free) = true then closOf cells r ((n, (cells.lookup n).getD 0) :: acc) else closOf cells r acc
theorem closure_is {scope : Scope} {env : Env} (h : ∀ q ∈ scope.names, q.2 = .free → ∃ c, env.cells.lookup q.1 = some c) : closureFor scope env = pure (closOf env.cells scope.names []) := by
  simp only [closureFor]
  generalize ([] : List (Str × Addr)) = acc
  revert h
  generalize scope.names = names
  intro h
  induction names generalizing acc with
  | nil => rfl
  | cons q r ih =>
    obtain ⟨n, k⟩ := q
    rw [List.forIn_cons]
    by_cases hk : (k == NameKind.free) = true
    · obtain ⟨c, hc⟩ := h (n, k) List.mem_cons_self (by simpa using hk)
      have e : cellOf env n = pure c := by simp only [cellOf, hc]
      simp only [closOf, hk, if_true, e, hc, Option.getD_some, pure_bind]
      exact ih _ fun q hq => h q (List.mem_cons_of_mem _ hq)
    · simp only [closOf, hk, if_false, pure_bind, Bool.false_eq_true]
      exact ih _ fun q hq => h q (List.mem_cons_of_mem _ hq)
theorem closOf_sub {cells : List (Str × Addr)} : ∀ {names : List (Str × NameKind)} {acc : List (Str × Addr)}, (∀ q ∈ names, q.2 = .free → ∃ c, cells.lookup q.1 = some c) → (∀ x c, acc.lookup x = some c → cells.lookup x = some c) → ∀ x c, (closOf cells names acc).lookup x = some c → cells.lookup x = some c
  | [], _, _, ha => ha
  | (n, k) :: r, acc, h, ha => by
    intro x c e
    by_cases hk : (k == NameKind.free) = true
    · obtain ⟨d, hd⟩ := h (n, k) List.mem_cons_self (by simpa using hk)
      rw [closOf, if_pos hk] at e
      refine closOf_sub (fun q hq => h q (List.mem_cons_of_mem _ hq)) (fun y b q => ?_) x c e
      cases hy : y == n with
      | true =>
        rw [List.lookup_cons, hy] at q
        have ey : y = n := by simpa using hy
        subst ey
        have hd' : List.lookup y cells = some d := hd
        rw [hd'] at q ⊢
        simpa using q
      | false =>
        rw [List.lookup_cons, hy] at q
        exact ha y b q
    · rw [closOf, if_neg hk] at e
      exact closOf_sub (fun q hq => h q (List.mem_cons_of_mem _ hq)) ha x c e
theorem closOf_has {cells : List (Str × Addr)} : ∀ {names : List (Str × NameKind)} {acc : List (Str × Addr)} {x : Str}, ((x, NameKind.free) ∈ names ∨ ∃ c, acc.lookup x = some c) → ∃ c, (closOf cells names acc).lookup x = some c
  | [], _, _, h => h.elim (fun z => by cases z) id
  | (n, k) :: r, acc, x, h => by
    by_cases hk : (k == NameKind.free) = true
    · rw [closOf, if_pos hk]
      refine closOf_has ?_
      cases hx : x == n with
      | true => exact .inr ⟨_, by rw [List.lookup_cons, hx]⟩
      | false =>
        rcases h with h | ⟨c, h⟩
        · rcases List.mem_cons.mp h with z | z
          · cases z
            simp at hx
          · exact .inl z
        · exact .inr ⟨c, by rw [List.lookup_cons, hx]; exact h⟩
    · rw [closOf, if_neg hk]
      refine closOf_has ?_
      rcases h with h | h
      · rcases List.mem_cons.mp h with z | z
        · cases z
          exact absurd rfl hk
        · exact .inl z
      · exact .inr h
theorem relabel_kind {env : Env} : ∀ {names : List (Str × NameKind)} {x : Str} {k' : NameKind}, (names.map fun (n, k) => if (k == NameKind.free && env.scope.kind == .function && env.kindOf n == some .cell) then (n, NameKind.cell) else (n, k)).lookup x = some k' →
    ∃ k, names.lookup x = some k ∧ (k' = k ∨ (k = .free ∧ k' = .cell))
  | [], _, _, h => by simp at h
  | (n, k) :: r, x, k', h => by
    have ih := @relabel_kind env r x k'
    have h : List.lookup x ((if (k == NameKind.free && env.scope.kind == .function && env.kindOf n == some .cell) = true then (n, NameKind.cell) else (n, k)) :: _) = some k' := h
    cases hx : x == n with
    | true =>
      by_cases hc : (k == NameKind.free && env.scope.kind == .function && env.kindOf n == some .cell) = true
      · rw [if_pos hc, List.lookup_cons, hx] at h
        cases h
        have hk : k = .free := by
          simp only [Bool.and_eq_true] at hc
          simpa using hc.1.1
        exact ⟨k, by rw [List.lookup_cons, hx], .inr ⟨hk, rfl⟩⟩
      · rw [if_neg hc, List.lookup_cons, hx] at h
        cases h
        exact ⟨k, by rw [List.lookup_cons, hx], .inl rfl⟩
    | false =>
      obtain ⟨k2, e, q⟩ := ih (by
        by_cases hc : (k == NameKind.free && env.scope.kind == .function && env.kindOf n == some .cell) = true
        · rw [if_pos hc, List.lookup_cons, hx] at h; exact h
        · rw [if_neg hc, List.lookup_cons, hx] at h; exact h)
      exact ⟨k2, by rw [List.lookup_cons, hx]; exact e, q⟩
noncomputable def compCxF (X : Cx) (scope : Scope) (N : List Str) (cl : List (Str × Addr)) (C : Addr) (s₀ : Shared) (H₀ : Hp) (ex : List Addr) : Cx :=
  { X with N := N, s₀ := s₀, H₀ := H₀, env := compEnvC scope cl C X.env, outer := X.stack, stack := X.stack, ex := ex, fn := fun _ => false, pn := [], xe := fun _ _ => False }
noncomputable def startF (σ : L2.St) (n : Nat) (js : List Nat) : L2.St := List.replicate n none ++ js.map fun j => (σ[j]?).getD none
noncomputable def ifsOf (ifs : List Expr) (env : Env) : Sem Bool := forIn ifs true fun c r => if r = true then do let ok ← isTrue c env (eval c env); pure (ForInStep.yield ok) else pure (ForInStep.yield r)
structure PIfs (X : Cx) (ifs : List Expr) (t : TT) : Prop where
  run : ∀ (pins : List (Addr × Obj)) (s : Shared) (σ : L2.St) (H : Hp) (Q : Bool → Hp → Prop), Inv X pins σ H s → t σ H Q → wpAny (model X.prog X.w) X.A (ifsOf ifs X.env) (TP X pins σ Q) X.xe s
noncomputable def tYes : TT := fun _ H Q => Q true H
theorem pf_nil {X : Cx} : PIfs X [] tYes := ⟨fun pins s σ H Q I h => wpAny_tests_nil ⟨H, I, h⟩⟩
theorem pf_one {X : Cx} {c : Expr} {t : TT} (h : PT X c t) : PIfs X [c] t := ⟨fun pins s σ H Q I q => wpAny_tests_one (h pins s σ H Q I q)⟩
structure CompSc (X : Cx) (scope : Scope) (fv : List Str) (js : List Nat) : Prop where
  kind : scope.kind = .function
  cell : ∀ q ∈ scope.names, q.2 ≠ .cell
  names : ∀ q ∈ scope.names, q.2 = .local → scope.names.lookup q.1 = some .local
  free : ∀ q ∈ scope.names, q.2 = .free → q.1 ∈ fv
  out : ∀ x ∈ fv, X.env.kindOf x = some .cell ∨ X.env.kindOf x = some .free
  at' : js.map (fun j => X.N[j]?) = fv.map some
  fr : ∀ x ∈ fv, scope.names.lookup x = some .free
section
variable {X : Cx} {pins : List (Addr × Obj)} {σ : L2.St} {H : Hp} {s : Shared} {scope : Scope} {N : List Str} {C : Addr} {ex : List Addr} {cl : List (Str × Addr)} {fv tg : List Str} {js : List Nat}
theorem CompSc.clos (S : CompSc X scope fv js) (ok : X.Ok) : closureFor scope X.env = pure (closOf X.env.cells scope.names []) := closure_is fun q hq e => ok.has q.1 (S.out q.1 (S.free q hq e))
theorem CompSc.sub (S : CompSc X scope fv js) (ok : X.Ok) : ∀ x c, (closOf X.env.cells scope.names []).lookup x = some c → X.env.cells.lookup x = some c :=
  closOf_sub (fun q hq e => ok.has q.1 (S.out q.1 (S.free q hq e))) (fun x c e => by cases e)
theorem comp_okF (I : Inv X pins σ H s) (S : CompSc X scope fv js) (hC : s.heap.objs.size ≤ C)
    (hf : ∀ b ∈ ex, FpOk X pins H b) (ho : ∀ b ∈ ex, ∃ o, s.heap.get? b = some o) : (compCxF X scope N (closOf X.env.cells scope.names []) C s H ex).Ok := by
  have sub := S.sub I.ok
  refine ⟨I.ok.mod, S.kind, I.ok.glob, I.ok.blt, hC, fun x y c e1 e2 => I.ok.inj x y c (sub x c e1) (sub y c e2), fun x hx => ?_, fun x c z _ => Bool.noConfusion z, I.ok.hd, I.ok.frames, .inl rfl, fun b hb => ⟨?_, fun x c e => ?_⟩, I.bs, Nat.le_trans I.ok.bsz I.sz, fun b o e hb => ?_, fun b hb hm => ?_, I.stack, I.stkFree⟩
  · have e : ∃ k', (relabel scope X.env).names.lookup x = some k' ∧ (k' = .cell ∨ k' = .free) := by
      rcases hx with z | z
      · exact ⟨_, z, .inl rfl⟩
      · exact ⟨_, z, .inr rfl⟩
    obtain ⟨k', e, hk⟩ := e
    obtain ⟨k, e2, q⟩ := relabel_kind e
    have hk2 : k = .free := by
      rcases q with rfl | ⟨rfl, _⟩
      · rcases hk with rfl | rfl
        · exact absurd rfl (S.cell _ (PySem.mem_of_lookup e2))
        · rfl
      · rfl
    subst hk2
    exact closOf_has (.inl (PySem.mem_of_lookup e2))
  · obtain ⟨o, e⟩ := ho b hb
    exact Nat.ne_of_lt (Nat.lt_of_lt_of_le (Heap.lt_size e) hC)
  · obtain ⟨_, _, _, _, q, _⟩ := hf b hb
    exact q x c (sub x c e)
  · obtain ⟨_, _, _, q, _⟩ := hf b hb
    rcases q with q | q
    · exact I.ok.noex b o e q
    · exact absurd (Nat.lt_of_lt_of_le (Heap.lt_size e) (Nat.le_trans I.ok.bsz q)) (Nat.lt_irrefl _)
  · obtain ⟨_, q1, q2, _⟩ := hf b hb
    rcases List.mem_cons.mp (I.stkSub b hm) with z | z
    · exact q1 z
    · exact q2 z
theorem comp_startF {D : Addr} {h' : Heap} {t' : Nat} {m : Str → Option Value} (I : Inv X pins σ H s) (S : CompSc X scope fv js) (ok : (compCxF X scope (tg ++ fv) (closOf X.env.cells scope.names []) C s H ex).Ok) (hk : ∀ b o, s.heap.get? b = some o → h'.get? b = some o) (hD : s.heap.get? D = none) (hC : s.heap.get? C = none) (hDC : D ≠ C)
    (hl : h'.get? D = some { cls := .type "list", data := .seq #[] }) (hn : h'.Ns C m) : Inv (compCxF X scope (tg ++ fv) (closOf X.env.cells scope.names []) C s H ex) [] (startF σ tg.length js) (upd H D (.lst [])) { s with heap := h', toks := t' } := by
  have nD := inv_none I hD
  have neD : ∀ b u, s.heap.get? b = some u → b ≠ D := fun b u e z => by rw [z, hD] at e; cases e
  have sub := S.sub I.ok
  have cellK : ∀ c v, s.heap.IsCell c v → h'.IsCell c v := fun c v ⟨o, ho, hd⟩ => ⟨o, hk c o ho, hd⟩
  have hlen : js.length = fv.length := by have := congrArg List.length S.at'; simpa using this
  refine ⟨ok, rfl, I.bare, ⟨fun b u q _ _ _ => hk b u q, fun b u q _ _ _ => ⟨u.slots, hk b u q⟩, fun b u q n _ => by rw [upd_ne (neD b u q)]; exact n, fun b u q _ => ⟨u, hk b u q⟩, fun b xs q => by rw [upd_ne (ne_of_none q nD)]; exact q,
    fun b u xs q => by rw [upd_ne (ne_of_none q nD)]; exact q, fun b ps (q : H b = _) => ⟨#[], by rw [upd_ne (ne_of_none q nD), q]; simp⟩⟩, ⟨m, hn, fun i x v e1 e2 e3 => ?_⟩, fun x c e => ?_, ?_, fun x c e => ?_, fun p hp => (by cases hp), fun b u e => ?_, by simp [compCxF, startF, hlen]⟩
  · have e1 : (tg ++ fv)[i]? = some x := e1
    rcases Nat.lt_or_ge i tg.length with hi | hi
    · rw [startF, List.getElem?_append_left (by simpa using hi), List.getElem?_replicate, if_pos hi] at e2
      cases e2
    · rw [List.getElem?_append_right hi] at e1
      rw [startF, List.getElem?_append_right (by simpa using hi), List.length_replicate, List.getElem?_map] at e2
      obtain ⟨j, hj, e2⟩ := Option.map_eq_some_iff.mp e2
      have hσ : σ[j]? = some (some v) := by
        cases q : σ[j]? with
        | none => rw [q] at e2; cases e2
        | some z => rw [q] at e2; exact congrArg some e2
      have hN : X.N[j]? = some x := by
        have q := congrArg (fun l => l[i - tg.length]?) S.at'
        simp only [List.getElem?_map, hj, e1, Option.map_some] at q
        exact Option.some.inj q
      have hx : x ∈ fv := List.mem_of_getElem? e1
      have ko := S.out x hx
      obtain ⟨m0, _, hl0⟩ := I.loc
      have vis : Vis X.env.scope x := ko.elim (fun z => .inr (.inl z)) fun z => .inr (.inr z)
      obtain ⟨u, ru, lk⟩ := hl0 j x v hN hσ vis
      obtain ⟨c, hc, hcell⟩ : ∃ c, X.env.cells.lookup x = some c ∧ s.heap.IsCell c (some u) := by
        rcases lk with ⟨z, _⟩ | ⟨_, q⟩
        · rcases ko with y | y <;> (rw [y] at z; cases z)
        · exact q
      obtain ⟨c2, hc2⟩ : ∃ c2, (closOf X.env.cells scope.names []).lookup x = some c2 := closOf_has (.inl (PySem.mem_of_lookup (S.fr x hx)))
      have ec : c2 = c := by have := sub x c2 hc2; rw [hc] at this; exact (Option.some.inj this).symm
      subst ec
      refine ⟨u, ru, .inr ⟨?_, c2, hc2, cellK _ _ hcell⟩⟩
      have e3 : (relabel scope X.env).names.lookup x = some .local ∨ (relabel scope X.env).names.lookup x = some .cell ∨ (relabel scope X.env).names.lookup x = some .free := e3
      rcases e3 with z | z | z
      · obtain ⟨k, ek, q⟩ := relabel_kind z
        rw [S.fr x hx] at ek
        cases ek
        rcases q with q | ⟨_, q⟩ <;> cases q
      · exact .inl z
      · exact .inr z
  · obtain ⟨v, z⟩ := I.cell x c (sub x c e)
    exact ⟨v, cellK c v z⟩
  · show upd H D (.lst []) C = none
    rw [upd_ne (Ne.symm hDC)]
    exact inv_none I hC
  · obtain ⟨v, o, ho, _⟩ := I.cell x c (sub x c e)
    rw [upd_ne (neD c o ho)]
    exact I.freeC x c (sub x c e)
  · by_cases hb : b = D
    · subst hb
      rw [upd_same] at e
      cases e
      exact ⟨Nat.zero_le _, [], _, .nil, hl⟩
    · rw [upd_ne hb] at e
      exact (I.hok b u e).stay (fun c v _ q => hk c v q) (fun c q => by rw [upd_ne (ne_of_none q nD)]; exact q) fun c xs q => by rw [upd_ne (ne_of_none q nD)]; exact q
end
theorem comp_loopF {prog : Program} {w : World} {A : Around} {s : Shared} {R : Result → Shared → Prop} {elt target iter : Expr} {ifs : List Expr} {scope : Scope} {pos : Pos} {it acc : Value} {env : Env} (I : Nat → Shared → Prop)
    (turn : ∀ n s, I n s → wpAny (model prog w) A (pyNext it) (fun r s1 => (r = none ∧ R (.ok .next) s1) ∨ ∃ v, r = some v ∧ wpAny (model prog w) A (letOwnedTupleGo target it v) (fun _ s2 => wpAny (model prog w) A (assign target env v) (fun _ s3 =>
      wpAny (model prog w) A (ifsOf ifs env) (fun ok s4 => if ok = true then wpAny (model prog w) A (eval elt env) (fun x s5 => wpAny (model prog w) A (call (.builtin "list.append") [acc, x]) (fun _ s6 => ∃ m, m < n ∧ I m s6) (fun _ _ => False) s5) (fun _ _ => False) s4
        else ∃ m, m < n ∧ I m s4) (fun _ _ => False) s3) (fun _ _ => False) s2) (fun _ _ => False) s1) (fun _ _ => False) s)
    (n : Nat) (h : I n s) : codeAny (model prog w) A (.compLoop (.ListComp elt [⟨target, iter, ifs, 0⟩] scope pos) 0 it acc env) R s := by
  have no : ∀ {α : Type} {E : Value → Shared → Prop} {t : Sem α} {Q : α → Shared → Prop} {u : Shared}, wpAny (model prog w) A t Q (fun _ _ => False) u → wpAny (model prog w) A t Q E u := fun z => wpAny_mono z (fun _ _ q => q) fun _ _ q => q.elim
  refine codeAny_loop rfl I (fun n s hI => wpAny_noted ?_) n h
  rw [compTurn_list]
  refine wpAny_bind (wpAny_standAt (wpAny_bind (wpAny_mono (turn n s hI) (fun r s1 q => ?_) fun _ _ z => z.elim)))
  rcases q with ⟨rfl, q⟩ | ⟨v, rfl, q⟩
  · exact wpAny_pure q
  · refine wpAny_bind (no (thn q fun _ s2 q2 => wpAny_bind (no (thn q2 fun _ s3 q3 => wpAny_bind (no (thn q3 fun ok s4 q4 => ?_))))))
    cases ok with
    | false => exact wpAny_pure ⟨rfl, q4⟩
    | true => exact wpAny_bind (wpAny_bind (no (thn q4 fun x s5 q5 => wpAny_bind (no (thn q5 fun _ s6 q6 => wpAny_pure (wpAny_pure ⟨rfl, q6⟩))))))
noncomputable def compQF (σ0 : L2.St) (J : It) (g : TG) (tc : TT) (te : TE) (Q : VK) (H1 : Hp) : Prop := ∀ D, H1 D = none → ∃ W : Nat → Nat → List V → L2.St → Hp → Prop, (∃ m, W 0 m [] σ0 (upd H1 D (.lst []))) ∧ ∀ i m ys τ H, W i m ys τ H → H D = some (.lst ys) ∧
  ((J.stop i H ∧ Q (.ref D) H) ∨ (J.go i H ∧ ys.length < sizeLine ∧ ∀ v H', J.yld i H v H' → g v τ H' fun τ2 H2 => tc τ2 H2 fun ok H3 => if ok = true then te τ2 H3 fun y H4 => H4 D = some (.lst ys) ∧ ∃ m', m' < m ∧ W (i + 1) m' (ys ++ [y]) τ2 (upd H4 D (.lst (ys ++ [y])))
    else ∃ m', m' < m ∧ W (i + 1) m' ys τ2 H3))
section
variable {X : Cx} {pins : List (Addr × Obj)} {σ : L2.St} {H : Hp} {s : Shared} {scope : Scope} {fv : List Str} {js : List Nat} {target iter elt : Expr} {ifs : List Expr} {pos : Pos} {g : TG} {tc : TT} {te : TE}
theorem comp_blockF {E : Value → Shared → Prop} {J : It} {fp : List Addr} {it : Addr} {tn : Nat → Heap → Prop} {Q : VK} {RR : Value → Addr → Result → Shared → Prop} (tg : List Str) (I : Inv X pins σ H s) (hc : X.calm = true)
    (S : CompSc X scope fv js) (T : Turn X.prog X.w X.K target J fp it tn) (st : tn 0 s.heap) (hf : ∀ b ∈ fp, FpOk X pins H b)
    (hg : ∀ cl C s₀ H₀ ex, PG (compCxF X scope (tg ++ fv) cl C s₀ H₀ ex) target g) (hi : ∀ cl C s₀ H₀ ex, PIfs (compCxF X scope (tg ++ fv) cl C s₀ H₀ ex) ifs tc) (he : ∀ cl C s₀ H₀ ex, PE (compCxF X scope (tg ++ fv) cl C s₀ H₀ ex) elt te) (q : compQF (startF σ tg.length js) J g tc te Q H)
    (hRR : ∀ D C H' s' m, s'.os = s.os → AllBare s'.gens → Un (frs X.stack) fp H H' s.heap s'.heap → HOk X.prog X.w H' s'.heap → s'.heap.Ns C m → H' C = none → s.heap.objs.size ≤ C → Q (.ref D) H' → RR (.ref D) C (.ok .next) s') :
    wpAny (model X.prog X.w) X.A (newList []) (fun acc s3 => wpAny (model X.prog X.w) X.A (newFunctionEnv scope X.env.globals (closOf X.env.cells scope.names []) [] X.env.qual none .none (some X.env)) (fun cenv s4 =>
      codeAny (model X.prog X.w) X.A (.compStart (.ListComp elt [⟨target, iter, ifs, 0⟩] scope pos) 0 (.ref it) acc { cenv with scope := relabel scope X.env }) (RR acc cenv.locals) s4) E s3) E s := by
  refine wpAny_newObj_type (wpAny_newFunctionEnv S.cell (by intro y hy; simp at hy) (fun h1 hn k1 => ?_) S.kind)
  dsimp only at hn k1 ⊢
  generalize hg2 : s.heap.push { cls := .type "list", dict := none, data := .seq ([] : List Value).toArray } = g2 at hn k1 ⊢
  have hC : g2.objs.size = s.heap.objs.size + 1 := by rw [← hg2, Heap.size_push]
  have hDC : s.heap.objs.size ≠ g2.objs.size := by rw [hC]; exact Nat.ne_of_lt (Nat.lt_succ_self _)
  have hle : s.heap.objs.size ≤ g2.objs.size := by rw [hC]; exact Nat.le_succ _
  have nD : s.heap.get? s.heap.objs.size = none := Heap.get?_none_of_le (Nat.le_refl _)
  have nC : s.heap.get? g2.objs.size = none := Heap.get?_none_of_le hle
  have old : ∀ b o, s.heap.get? b = some o → h1.get? b = some o := fun b o e => k1.extBut b o (Nat.ne_of_lt (Nat.lt_of_lt_of_le (Heap.lt_size e) hle)) (Heap.get?_push_of_some _ (hg2 ▸ Heap.get?_push_of_some _ e))
  have hl : h1.get? s.heap.objs.size = some { cls := .type "list", data := .seq #[] } := k1.extBut _ _ hDC (Heap.get?_push_of_some _ (hg2 ▸ Heap.get?_push_size _ rfl))
  have ob := T.obj 0 s.heap st
  generalize hcl : closOf X.env.cells scope.names [] = cl
  have ok : (compCxF X scope (tg ++ fv) cl g2.objs.size s H fp).Ok := hcl ▸ comp_okF I S hle hf fun b hb => let ⟨o, e, _⟩ := ob b hb; ⟨o, e⟩
  have I0 : Inv (compCxF X scope (tg ++ fv) cl g2.objs.size s H fp) [] (startF σ tg.length js) (upd H s.heap.objs.size (.lst [])) { s with heap := h1, toks := s.toks + ([] : List (Str × Value)).length } := by
    subst hcl
    exact comp_startF I S ok old nD nC hDC hl hn
  have st1 : tn 0 h1 := T.keep 0 _ _ st fun b _ o e => old b o e
  obtain ⟨W, ⟨m0, w0⟩, turn⟩ := q _ (inv_none I nD)
  have fpok : ∀ {H' : Hp} {ps : List (Addr × Obj)}, (∀ p ∈ ps, p.1 ∉ fp) → (∀ b ∈ fp, H' b = none) → ∀ b ∈ fp, FpOk (compCxF X scope (tg ++ fv) cl g2.objs.size s H fp) ps H' b := fun hps hn b hb => ⟨hn b hb, (ok.exf b hb).1, ok.exfs b hb, .inl hb, (ok.exf b hb).2, fun p hp z => hps p hp (z ▸ hb)⟩
  have loop : codeAny (model X.prog X.w) X.A (.compLoop (.ListComp elt [⟨target, iter, ifs, 0⟩] scope pos) 0 (.ref it) (.ref s.heap.objs.size) (compEnvC scope cl g2.objs.size X.env)) (RR (.ref s.heap.objs.size) g2.objs.size) { s with heap := h1, toks := s.toks + ([] : List (Str × Value)).length } := by
    refine comp_loopF (fun n s' => ∃ i ys τ H', Inv (compCxF X scope (tg ++ fv) cl g2.objs.size s H fp) [] τ H' s' ∧ tn i s'.heap ∧ (∀ b ∈ fp, H' b = none) ∧ W i n ys τ H') (fun n s' hI => ?_) m0 ⟨0, [], _, _, I0, st1, fun b hb => ?_, w0⟩
    · obtain ⟨i, ys, τ, H', I1, t1, f1, w1⟩ := hI
      obtain ⟨hD, w1⟩ := turn i n ys τ H' w1
      rcases w1 with ⟨stop, qn⟩ | ⟨go, hz, step⟩
      · refine thn (T.done (compCxF X scope (tg ++ fv) cl g2.objs.size s H fp) rfl rfl rfl hc i [] s' τ H' _ I1 (fpok (by simp) f1) t1 stop) fun r s2 ⟨hr, I2⟩ => .inl ⟨hr, ?_⟩
        obtain ⟨m, hn2, _⟩ := I2.loc
        exact hRR _ _ H' s2 m I2.os I2.bare I2.base I2.hok hn2 I2.free hle qn
      · refine thn (T.item (compCxF X scope (tg ++ fv) cl g2.objs.size s H fp) rfl rfl rfl hc i [] s' τ H' _ I1 (fpok (by simp) f1) t1 go) fun r s2 ⟨u, hr, h2⟩ => .inr ⟨u, hr, thn h2 fun _ s3 ⟨x, H3, I3, r3, y3, t3, f3⟩ => ?_⟩
        have I3' := I3.pinned (fpok (by simp) f3) (T.obj _ _ t3)
        have back : ∀ {s6 : Shared} {τ4 : L2.St} {H6 : Hp}, Inv (compCxF X scope (tg ++ fv) cl g2.objs.size s H fp) ([] ++ pinsAt fp s3.heap) τ4 H6 s6 → tn (i + 1) s6.heap ∧ ∀ b ∈ fp, H6 b = none := fun I6 =>
          ⟨T.keep _ _ _ t3 fun b hb o e => (I6.pin (b, o) (List.mem_append_right _ (List.mem_append_right _ (mem_pinsAt hb e)))).1, fun b hb => by
            obtain ⟨o, e, _⟩ := T.obj _ _ t3 b hb
            exact (I6.pin (b, o) (List.mem_append_right _ (List.mem_append_right _ (mem_pinsAt hb e)))).2.1⟩
        refine thn ((hg _ _ _ _ _) _ s3 τ H3 x u _ I3' r3 (step x H3 y3)) fun _ s4 ⟨τ4, H4, I4, q4⟩ => ?_
        refine thn ((hi _ _ _ _ _).run _ s4 τ4 H4 _ I4 q4) fun b s5 ⟨H5, I5, q5⟩ => ?_
        cases b with
        | false =>
          obtain ⟨m', hm, w5⟩ := (show ∃ m', m' < n ∧ W (i + 1) m' ys τ4 H5 from q5)
          obtain ⟨b1, b2⟩ := back I5
          exact ⟨m', hm, i + 1, _, τ4, _, I5.unpinned, b1, b2, w5⟩
        | true =>
          refine thn ((he _ _ _ _ _) _ s5 τ4 H5 _ I5 q5) fun z s6 ⟨y, H6, I6, r6, hD6, m', hm, w6⟩ => ?_
          refine thn (mt_append _ s6 τ4 H6 (.ref s.heap.objs.size) [y] (.ref s.heap.objs.size) [z] (fun _ H7 => H7 = upd H6 s.heap.objs.size (.lst (ys ++ [y]))) I6 rfl (.cons r6 .nil) ⟨_, ys, y, rfl, rfl, hD6, hz, rfl⟩) fun _ s7 ⟨v7, H7, I7, _, e7⟩ => ?_
          subst e7
          obtain ⟨b1, b2⟩ := back I7
          exact ⟨m', hm, i + 1, _, τ4, _, I7.unpinned, b1, b2, w6⟩
    · obtain ⟨o, e, _⟩ := ob b hb
      rw [upd_ne (Nat.ne_of_lt (Heap.lt_size e))]
      exact (hf b hb).1
  exact codeAny_compStart_list loop (T.self _ 0 _ _ _ st1 loop)
noncomputable def tCompF (n : Nat) (js : List Nat) (wi : TI) (g : TG) (tc : TT) (te : TE) : TE := fun σ H Q => wi σ H fun J H1 => compQF (startF σ n js) J g tc te Q H1
theorem pe_compF {wi : TI} (tg : List Str) (hc : X.calm = true) (S : CompSc X scope fv js) (hi : PI X target iter wi)
    (hg : ∀ cl C s₀ H₀ ex, PG (compCxF X scope (tg ++ fv) cl C s₀ H₀ ex) target g) (hf : ∀ cl C s₀ H₀ ex, PIfs (compCxF X scope (tg ++ fv) cl C s₀ H₀ ex) ifs tc) (he : ∀ cl C s₀ H₀ ex, PE (compCxF X scope (tg ++ fv) cl C s₀ H₀ ex) elt te) (hs : ∀ x, foldedSetIterable iter X.env x = pure x := by intro _; rfl) :
    PE X (.ListComp elt [⟨target, iter, ifs, 0⟩] scope pos) (tCompF tg.length js wi g tc te) := by
  constructor; intro pins s σ H Q I h
  rw [eval_ListComp]
  refine wpAny_comprehension_free (use := none) rfl hs (S.clos I.ok) S.kind S.names (thn (hi pins s σ H _ I h) fun v s1 h1 => thn h1 fun itv s2 h2 => ?_)
  obtain ⟨it, fp, tn, J, H2, rfl, I2, T, st2, f2, q⟩ := h2
  refine comp_blockF (RR := fun acc C => compPost (model X.prog X.w) X.A X.xe none (EP X pins σ Q) acc C) tg I2 hc S T st2 f2 hg hf he q fun D C H' s' m os bare un hok hn nC hC qq => ⟨m, hn, fun h' k => ?_⟩
  obtain ⟨IX, fC⟩ := comp_after I2 f2 os bare un hok nC hC
  exact ⟨.ref D, H', inv_but IX fC k, rfl, qq⟩
theorem ps_compF {wi : TI} {i : Nat} {y : Str} {py spos : Pos} (tg : List Str) (hc : X.calm = true) (hN : X.N.Nodup) (hy : X.N[i]? = some y) (hk : X.env.scope.names.lookup y = some .local) (S : CompSc X scope fv js) (hi : PI X target iter wi)
    (hsw : swapsWith (.ListComp elt [⟨target, iter, ifs, 0⟩] scope pos) (some (.Name y py)) spos.line X.env = pure true)
    (hg : ∀ cl C s₀ H₀ ex, PG (compCxF X scope (tg ++ fv) cl C s₀ H₀ ex) target g) (hf : ∀ cl C s₀ H₀ ex, PIfs (compCxF X scope (tg ++ fv) cl C s₀ H₀ ex) ifs tc) (he : ∀ cl C s₀ H₀ ex, PE (compCxF X scope (tg ++ fv) cl C s₀ H₀ ex) elt te) (hs : ∀ x, foldedSetIterable iter X.env x = pure x := by intro _; rfl) :
    PS X (.Assign [.Name y py] (.ListComp elt [⟨target, iter, ifs, 0⟩] scope pos) spos) (fun D σ H => tCompF tg.length js wi g tc te σ H fun v H1 => D.nx (σ.set i (some v)) H1) := by
  constructor; intro pins s σ H D I h
  rw [exec_Assign_Name_used _ _ _ _ hsw]
  refine wpAny_bind (wpAny_standAt (wpAny_bind (wpAny_bind (wpAny_mono (Q := fun _ s' => SP X pins D .next s') (E := X.xe) (wpAny_comprehension_free (use := some (assign (.Name y py) X.env)) rfl hs (S.clos I.ok) S.kind S.names
    (thn (hi pins s σ H _ I h) fun v s1 h1 => thn h1 fun itv s2 h2 => ?_)) (fun _ s' q => wpAny_pure (wpAny_pure q)) fun _ _ z => z))))
  obtain ⟨it, fp, tn, J, H2, rfl, I2, T, st2, f2, q⟩ := h2
  refine comp_blockF (RR := fun acc C => compPost (model X.prog X.w) X.A X.xe (some (assign (.Name y py) X.env)) (fun _ s' => SP X pins D .next s') acc C) tg I2 hc S T st2 f2 hg hf he q fun L C H' s' m os bare un hok hn nC hC qq => ?_
  obtain ⟨IX, fC⟩ := comp_after I2 f2 os bare un hok nC hC
  refine wpAny_assign_Name (store_ok2 IX hN hy (.inl hk) (v := .ref L) rfl (fun s3 I3 ⟨a, k3, ha⟩ => ?_) (.inr hk))
  have ne : C ≠ a := by
    rcases ha with z | z
    · rw [z]; exact fC.2.1
    · exact fun w' => fC.2.2.2.2.1 y a z w'.symm
  exact ⟨m, hn.sameBut k3 ne, fun h' k => ⟨_, H', inv_but I3 fC k, qq⟩⟩
end
theorem allc_nil {α : Type} {P : α → Prop} : ∀ x ∈ ([] : List α), P x := fun _ h => by cases h
theorem allc_cons {α : Type} {P : α → Prop} {a : α} {l : List α} (h : P a) (t : ∀ x ∈ l, P x) : ∀ x ∈ a :: l, P x := fun x hx => by
  rcases List.mem_cons.mp hx with e | e
  · exact e ▸ h
  · exact t x e
theorem ix_tupK {X : Cx} {K : PySem.W.Frag} (hK : X.K = K) : IxR X (rIxT K) := hK ▸ ix_tup
theorem ix_listK {X : Cx} {K : PySem.W.Frag} (hK : X.K = K) : IxR X (rIxL K) := hK ▸ ix_list
theorem compQF_map {σ0 fs : L2.St} {k : Nat} {J : It} {g : TG} {tc : TT} {te : TE} {Q : VK} {H1 : Hp} (n : Nat) (f : Nat → Option V) (h0 : σ0 = List.replicate k none ++ fs) (hz : n ≤ sizeLine) (hgo : ∀ i H, Same H1 H → i < n → J.go i H) (hstop : ∀ H, Same H1 H → J.stop n H)
    (step : ∀ i H (ts : L2.St) v H' (R : Option V → L2.St → Hp → Prop), Same H1 H → i < n → ts.length = k → J.yld i H v H' → (∀ (ts2 : L2.St) H3, ts2.length = k → Same H H3 → R (f i) (ts2 ++ fs) H3) →
      g v (ts ++ fs) H' fun τ2 H2 => tc τ2 H2 fun ok H3 => if ok = true then te τ2 H3 fun y H4 => R (some y) τ2 H4 else R none τ2 H3)
    (fin : ∀ D H', H1 D = none → Same H1 H' → H' D = some (.lst ((List.range n).filterMap f)) → Q (.ref D) H') : compQF σ0 J g tc te Q H1 := by
  intro D hD
  refine ⟨fun i m ys τ H => m = n - i ∧ i ≤ n ∧ ys = (List.range i).filterMap f ∧ (∃ ts : L2.St, ts.length = k ∧ τ = ts ++ fs) ∧ Same H1 H ∧ H D = some (.lst ys), ⟨n, rfl, Nat.zero_le _, rfl, ⟨_, List.length_replicate, h0⟩, Same.upd hD, upd_same⟩, ?_⟩
  rintro i m ys τ H ⟨rfl, hi, rfl, ⟨ts, ht, rfl⟩, ss, hd⟩
  refine ⟨hd, ?_⟩
  by_cases hlt : i < n
  · have hl : ((List.range i).filterMap f).length < sizeLine := Nat.lt_of_le_of_lt (List.length_filterMap_le _ _) (by rw [List.length_range]; omega)
    refine .inr ⟨hgo i H ss hlt, hl, fun v H' y => step i H ts v H' (fun o τ2 H3 => match o with
      | some y => H3 D = some (.lst ((List.range i).filterMap f)) ∧ ∃ m', m' < n - i ∧ m' = n - (i + 1) ∧ i + 1 ≤ n ∧ (List.range i).filterMap f ++ [y] = (List.range (i + 1)).filterMap f ∧ (∃ ts : L2.St, ts.length = k ∧ τ2 = ts ++ fs) ∧ Same H1 (upd H3 D (.lst ((List.range i).filterMap f ++ [y]))) ∧ upd H3 D (.lst ((List.range i).filterMap f ++ [y])) D = some (.lst ((List.range i).filterMap f ++ [y]))
      | none => ∃ m', m' < n - i ∧ m' = n - (i + 1) ∧ i + 1 ≤ n ∧ (List.range i).filterMap f = (List.range (i + 1)).filterMap f ∧ (∃ ts : L2.St, ts.length = k ∧ τ2 = ts ++ fs) ∧ Same H1 H3 ∧ H3 D = some (.lst ((List.range i).filterMap f))) ss hlt ht y fun ts2 H3 h2 s3 => ?_⟩
    cases e : f i with
    | none =>
      refine ⟨n - (i + 1), by omega, rfl, hlt, ?_, ⟨ts2, h2, rfl⟩, ss.trans s3, s3 _ _ hd⟩
      rw [List.range_succ, List.filterMap_append]
      simp [e]
    | some y =>
      refine ⟨s3 _ _ hd, n - (i + 1), by omega, rfl, hlt, ?_, ⟨ts2, h2, rfl⟩, (ss.trans s3).again hD, upd_same⟩
      rw [List.range_succ, List.filterMap_append]
      simp [e]
  · have e : i = n := by omega
    subst e
    exact .inl ⟨hstop H ss, fin D H hD ss hd⟩
end My
namespace My
open PySem PySem.Spec PyProof.Rows L2
section
variable {X : Cx} {pins : List (Addr × Obj)} {σ : L2.St} {H : Hp} {s : Shared} {a : Addr} {kvs : List (Key × V)} {k : Key} {u r : Value} {d : V} {A : Around} {E : Value → Shared → Prop}
theorem d_setdef {Q : Value → Shared → Prop} (I : Inv X pins σ H s) (e : H a = some (.dK kvs)) (ry : RelV (kV k) u) (rd : RelV d r) (hl : kvs.length < sizeLine) (h1 : ∀ v w' s', valV kvs k = some v → Inv X pins σ H s' → RelV v w' → Q w' s')
    (h2 : valV kvs k = none → ∀ s', Inv X pins σ (upd H a (.dK (putK kvs k d))) s' → Q r s') : wpAny (model X.prog X.w) A (call (.builtin "dict.setdefault") [.ref a, u, r]) Q E s := by
  obtain ⟨z, hd, vs, rel, dd⟩ := dk_of I.hok e
  refine call_meetsIn PySem.F.slot_dict_setdefault dd.typeIs PySem.F.entry_dict_setdefault (PySem.F.args_dict_setdefault_3 _ _ _) (kt_meets_setdefault (mixKind X.prog X.w) a (kV_is ry) hd r) ⟨vs, dd, by rw [← rel.length]; exact z, fun v hv => ?_, fun hn h' dd' hs => ?_⟩
  · have q := rel.val k
    cases e2 : valV kvs k with
    | none => rw [e2] at q; rw [RelO.none_of q] at hv; cases hv
    | some y =>
      rw [e2] at q
      obtain ⟨w', hw, rw'⟩ := RelO.some_of (v := y) q
      rw [hw] at hv
      cases hv
      exact h1 y _ _ e2 (I.tok _) rw'
  · have q := rel.val k
    cases e2 : valV kvs k with
    | some y =>
      rw [e2] at q
      obtain ⟨w', hw, _⟩ := RelO.some_of (v := y) q
      rw [hw] at hn
      cases hn
    | none =>
      refine h2 e2 _ ?_
      have he : ∃ q, h'.get? a = some q := let ⟨q, _, _, hq, _⟩ := dd'; ⟨q, hq⟩
      have hz : (putK kvs k d).length ≤ sizeLine := by have := length_putK kvs k d; omega
      exact d_write I (by rw [e]; exact True.intro) hs he (dk_new hz hd (rel.put k rd) dd')
end
noncomputable def tDSet (td ty tx : TE) : TE := fun σ H Q => td σ H fun x H1 => ∃ a, x = .ref a ∧ IsD H1 a ∧ ty σ H1 fun y H2 => tx σ H2 fun z H3 => ∃ kvs k, H3 a = some (.dK kvs) ∧ y = kV k ∧ kvs.length < sizeLine ∧
  (∀ v, valV kvs k = some v → Q v H3) ∧ (valV kvs k = none → Q z (upd H3 a (.dK (putK kvs k z))))
section
variable {X : Cx} {o e f : Expr} {td ty tx : TE} {apos cpos : Pos}
theorem pe_dset (ho : PE X o td) (he : PE X e ty) (hf : PE X f tx) (m : M2 X o "setdefault" apos e f cpos) : PE X (.Call (.Attribute o "setdefault" apos) [e, f] [] cpos) (tDSet td ty tx) := by
  constructor; intro pins s σ H Q I h
  refine wpAny_Call_method m.base m.few m.line PySem.F.plainAttrs_dict PySem.F.slot_dict_setdefault PySem.F.type_dict_setdefault (thn (ho pins s σ H _ I h) fun u s1 ⟨x, H1, I1, rx, a, ex, d, q1⟩ => ?_)
  subst ex
  obtain rfl : u = Value.ref a := rx
  obtain ⟨t1, t2, _⟩ := isD_at I1 d
  refine ⟨t1, t2, ?_⟩
  rw [m.trees]
  refine Calls.callWith_builtin rfl (Calls.evalArgs_plain (Calls.spliced_cons (thn (he pins s1 σ H1 _ I1 q1) fun iv s2 ⟨y, H2, I2, ry, q2⟩ =>
    Calls.spliced_cons (thn (hf pins s2 σ H2 _ I2 q2) fun fv s3 ⟨z, H3, I3, rz, kvs, k, ea, ey, hl, q3, q4⟩ => Calls.spliced_nil ?_))))
  subst ey
  exact d_setdef I3 ea ry rz hl (fun v w' s4 l I4 rw' => ⟨v, H3, I4, rw', q3 v l⟩) fun l s4 I4 => ⟨z, _, I4, rz, q4 l⟩
theorem risen_one : ∀ {a b : List Int}, a.Perm b → a.Pairwise (· ≤ ·) → b.Pairwise (· ≤ ·) → a = b
  | [], _, p, _, _ => (List.nil_perm.mp p).symm
  | x :: r, b, p, ha, hb => by
    cases b with
    | nil => exact absurd (List.perm_nil.mp p) (by simp)
    | cons y t =>
      rw [List.pairwise_cons] at ha hb
      have h1 : x ≤ y := by
        rcases List.mem_cons.mp (p.symm.subset List.mem_cons_self) with e | e
        · omega
        · exact ha.1 y e
      have h2 : y ≤ x := by
        rcases List.mem_cons.mp (p.subset List.mem_cons_self) with e | e
        · omega
        · exact hb.1 x e
      have e : x = y := by omega
      subst e
      rw [risen_one ((List.perm_cons x).mp p) ha.2 hb.2]
noncomputable def risen (ks : List Int) : List Int := ks.mergeSort (· ≤ ·)
theorem risen_perm (ks : List Int) : (risen ks).Perm ks := List.mergeSort_perm ks _
theorem risen_rises (ks : List Int) : (risen ks).Pairwise (· ≤ ·) := by
  have := List.pairwise_mergeSort (le := fun a b : Int => decide (a ≤ b)) (fun a b c h1 h2 => by simp only [decide_eq_true_eq] at *; omega) (fun a b => by simp only [Bool.or_eq_true, decide_eq_true_eq]; omega) ks
  exact this.imp fun h => by simpa using h
theorem risen_is {ks ks' : List Int} (p : ks'.Perm ks) (h : ks'.Pairwise (· ≤ ·)) : ks' = risen ks := risen_one (p.trans (risen_perm ks).symm) h (risen_rises ks)
theorem ints_vals : ∀ {us : List Value} {ns : List Int}, IntsAre us ns → Vals (ns.map V.int) us
  | _, _, .nil => .nil
  | _, _, .cons _ _ t => .cons ⟨_, rfl⟩ (ints_vals t)
theorem intsAre_of : ∀ {us : List Value} {ns : List Int}, us.length = ns.length → (∀ (j : Nat) (v : Value), us[j]? = some v → ∃ n t, ns[j]? = some n ∧ v = Value.int n t) → IntsAre us ns
  | [], [], _, _ => .nil
  | [], _ :: _, h, _ => by simp at h
  | _ :: _, [], h, _ => by simp at h
  | u :: us, n :: ns, h, hv => by
    obtain ⟨m, t, e, rfl⟩ := hv 0 u rfl
    cases (show some n = some m from e)
    exact .cons _ _ (intsAre_of (by simpa using h) fun j v e => hv (j + 1) v (by simpa using e))
theorem call_sortedD (hc : X.calm = true) : CallR X (.builtin "sorted") (fun xs H Q => ∃ (a : Addr) (kvs : List (Key × V)) (ks : List Int), xs = [V.ref a] ∧ H a = some (.dK kvs) ∧ kvs.map (·.1) = ks.map Sum.inl ∧ ks.length < 64 ∧ ∀ p, H p = none → Q (.ref p) (upd H p (.lst ((risen ks).map V.int)))) := by
  intro pins s σ H xs us Q I r h
  obtain ⟨a, kvs, ks, rfl, e, ek, h64, q⟩ := h
  obtain ⟨u, rfl, ru⟩ := vals1 r
  cases ru
  obtain ⟨z, hd, vs, rel, dd⟩ := dk_of I.hok e
  obtain ⟨ep, hat⟩ := dd.dictAt
  have hkl : vs.length = ks.length := by rw [← rel.length, ← List.length_map (f := (·.1)) (as := kvs), ek, List.length_map]
  have hsz : vs.length ≤ sizeLine := by rw [← rel.length]; exact z
  refine Calls.call_function_entry kind_sorted plain_sorted entry_sorted (args_sorted1 _) ?_
  unfold Builtin.«sorted»
  refine wpAny_bind (m := checkCount "sorted" 1 1 _) (wpAny_pure ?_)
  refine wpAny_bind (PySem.W.kdu_collect (PySem.W.kdl_dict (knd := mixKind X.prog X.w) (kvs := vs) (ep := ep) hd) (I.ok.hd hc) hat hsz fun h' tk acc hk hacc => ?_)
  have hl : acc.toList.length = vs.length := by rw [Array.length_toList]; exact hacc.1
  have hI : IntsAre acc.toList ks := intsAre_of (by rw [hl, hkl]) fun j v ev => by
    obtain ⟨k, x, hx, hkk⟩ := hacc.2 j v (by rw [← Array.getElem?_toList]; exact ev)
    have e1 : (vs.map (·.1))[j]? = some k := by rw [List.getElem?_map, hx]; rfl
    rw [← rel.keys, ek, List.getElem?_map] at e1
    obtain ⟨n, hn, rfl⟩ := Option.map_eq_some_iff.mp e1
    rcases keyIs_shape (show keyIs (Sum.inl n) v = true from hkk) with ⟨i, t, ei, ev2⟩ | ⟨y, t, ei, ev2⟩
    · cases ei
      exact ⟨n, t, hn, ev2⟩
    · cases ei
  refine wpAny_bind (wpAny_newList ?_ (by rw [hl]; exact hsz))
  have hoL : (h'.push { cls := .type "list", data := .seq acc.toList.toArray }).get? h'.objs.size = some (seqObj "list" acc.toList.toArray 0) := Heap.get?_push_size _ rfl
  refine wpAny_bind (wpAny_holding (wpAny_call_entry slot_list_sort ⟨_, hoL, rfl⟩ entry_list_sort (list_sort_tree hoL hI (by rw [hl, hkl]; exact h64) fun out ns' a1 a2 a3 => ⟨_, rfl, ?_⟩) (args_list_sort _)))
  obtain ⟨ep', hat'⟩ := sortedHeap_at (out := out) hoL
  have I1 : Inv X pins σ H { s with heap := h', toks := tk } := I.kept (t' := tk) hk
  have en := risen_is a2 a3
  subst en
  have I2 := I1.laid (a := h'.objs.size) (o := .lst ((risen ks).map V.int)) (t' := tk) (h' := sortedHeap (h'.push { cls := .type "list", data := .seq acc.toList.toArray }) h'.objs.size acc.toList out)
    (fun b v ev => by
      have hb : b < h'.objs.size := Heap.lt_size ev
      rw [sortedHeap_old (Nat.ne_of_lt hb) (by rw [size_push']; exact Nat.lt_succ_of_lt hb)]
      exact Heap.get?_push_of_some _ ev) (Nat.le_refl _)
    ⟨by rw [List.length_map, (risen_perm ks).length_eq, ← hkl]; exact hsz, out.toList, ep', ints_vals a1, by simpa [seqObj] using hat'⟩
  exact wpAny_pure ⟨_, rfl, .ref _, _, I2, rfl, q _ (I1.hok.fresh (Nat.le_refl _))⟩
end
section
variable {K : PySem.W.Frag}
theorem kit_ll : PySem.W.kitOne K (.type "list") (.type "list") = some true := by
  show (if (Value.type "list" == Value.type "list") = true then some true else if PySem.W.kitMeta "list" = true then (fastBuiltinMro "list").map (·.contains (Value.type "list")) else none) = some true
  decide +kernel
end
noncomputable def rAppendA : V → List V → Hp → VK → Prop := fun x vs H Q => ∃ l xs y, x = .ref l ∧ vs = [y] ∧ H l = some (.lst xs) ∧ xs.length < sizeLine ∧ ∀ H', H' l = some (.lst (xs ++ [y])) → (∀ b o, b ≠ l → H b = some o → H' b = some o) → Q .non H'
theorem mt_appendA {X : Cx} : MtM X "list.append" rAppendA := by
  intro pins s σ H x vs v us Q I rx rv h
  obtain ⟨l, xs, y, ex, ev, hH, hz, q⟩ := h
  exact mt_append pins s σ H x vs v us Q I rx rv ⟨l, xs, y, ex, ev, hH, hz, q _ upd_same fun b o n e => by rw [upd_ne n]; exact e⟩
noncomputable def rSetA : V → V → V → Hp → (Hp → Prop) → Prop := fun o i v H Q => ∃ p xs k j, o = .ref p ∧ i = .int k ∧ H p = some (.lst xs) ∧ ixN xs.length k = some j ∧ ∀ H', H' p = some (.lst (xs.set j v)) → (∀ b o, b ≠ p → H b = some o → H' b = some o) → Q H'
theorem set_listA {X : Cx} : PSet X rSetA := by
  intro pins s σ H o i v ov iv u Q I ro ri rv h
  obtain ⟨p, xs, k, j, eo, ei, hp, hj, q⟩ := h
  exact set_list pins s σ H o i v ov iv u Q I ro ri rv ⟨p, xs, k, j, eo, ei, hp, hj, q _ upd_same fun b o n e => by rw [upd_ne n]; exact e⟩
end My
namespace My
open PySem PySem.Spec PyProof.Rows L2
section
variable {P : Program} {w : World} {K : PySem.W.Frag}
end
section
variable {X : Cx}
end
end My
namespace My
open PySem PySem.Spec PyProof.Rows L2
section
variable {X : Cx}
theorem caught {ho : Addr → Addr → Option Addr → HO} {S : Addr} {c n : Str} {j : Nat} {b₀ : Stmt} {suite : List Stmt} {th : TS} {np hpos : Pos} {pins : List (Addr × Obj)} {σ : L2.St} {H1 : Hp} {s1 s' : Shared} {D : Ends} {e : Value}
    (I1 : Inv X pins σ H1 s1) (hq : CXW X.prog X.w X.stack H1 s1 (fun cls d H2 => ∃ C, cls = .ref C ∧ PySem.W.subIn X.K (.ref C) (.ref S) = some true ∧ ∀ ea, H2 ea = none → th (gone j D) (σ.set j (some (.ref ea))) (upd H2 ea (ho ea C d))) e s')
    (T : ExcS X.K X.mg c S) (hgc : Gl X c) (hN : X.N.Nodup) (hj : X.N[j]? = some n) (hxn : X.env.scope.names.lookup n = some .local) (hst : X.stack = X.env :: X.outer) (hfr : X.env.frame = some X.env.locals)
    (hs : ∀ ea, PSs (markX X ea) (b₀ :: suite) th) (hho : ∀ (H : Hp) (h : Heap) (ea C : Addr) (d : Option Addr), IsExcK ea C d h → ObjOk X.prog X.w H h ea (ho ea C d)) (hdc : (c == ("__debug__" : Str)) = false) :
    wpAny (model X.prog X.w) X.A (noteFrame e X.env) (fun _ s₂ => wpAny (model X.prog X.w) X.A (setFlight e none) (fun _ s₃ => wpAny (model X.prog X.w) X.A (handleBy e X.env [.ExceptHandler (some (.Name c np)) (some n) (b₀ :: suite) hpos]) (SP X pins D) X.xe s₃) X.xe s₂) X.xe s' := by
  obtain ⟨ea, cls, a0, B, H', d, rfl, os, bare, un, hok, fl, bk, n1, n2, ⟨o0, ho0, hd0⟩, C, hcls, hsub, hth⟩ := hq
  subst hcls
  have fl' := fl
  rw [hst] at fl'
  have hfnn : ∀ b ∈ frs X.stack, ∃ o, s'.heap.get? b = some o ∧ ∀ vs, o.data ≠ .fields vs := fun b hb => (fl.2.2.1.mem hb).2
  refine wpAny_mono (wpAny_calm (calm_noteFrame _ _) (wpAny_looks_onW (Q := fun _ s'' => ∃ h4, s'' = { s' with heap := h4 } ∧ Heap.HeldW B (X.env :: X.outer) ea (.ref C) a0 X.env.locals h4 ∧ s'.heap.UpToSlots h4) (by rw [I1.ok.frames, hst]) hfr fl' fun h4 x1 x2 => ⟨h4, rfl, x1, x2⟩)) (fun _ s'' ⟨⟨h4, e4, held, sm4⟩, dk4⟩ => ?_) fun _ _ z => z.1
  subst e4
  refine wpAny_mono (wpAny_calm (calm_setFlight _ _) (wpAny_landsW (Q := fun _ s'' => ∃ h5, s'' = { s' with heap := h5 } ∧ Heap.FlyingW B (X.env :: X.outer) ea (.ref C) a0 h5 ∧ h4.UpToSlots h5) held fun h5 x1 x2 => ⟨h5, rfl, x1, x2⟩)) (fun _ s'' ⟨⟨h5, e5, fl5, sm5⟩, dk5⟩ => ?_) fun _ _ z => z.1
  subst e5
  obtain ⟨ob, hob, hobc⟩ := fl5.there
  obtain ⟨un5, hok5, _, _⟩ := carry I1 un hok bk fl5.1 (sm4.trans sm5) hfnn
  have I5 : Inv X pins σ H' { s' with heap := h5 } := I1.call' (s' := { s' with heap := h5 }) os un5 hok5 bare (fun b z => absurd z (by simp))
  refine wpAny_handleBy_cons (codeAny_handlers_test (ld_glob (X := markX X ea) (inv_mark I5 ea) hgc T.bound ?_ hdc)) (by intro z; cases z)
  refine exc_matches (K := X.K) I5.kIn hob hobc T.ty T.it T.mB hsub (codeAny_handlers_suite_as ?_)
  refine wpAny_mono (wpAny_calm (calm_setFlight _ _) (lands_againW (Q := fun _ s'' => ∃ h6, s'' = { s' with heap := h6 } ∧ Heap.FlyingW B (X.env :: X.outer) ea (.ref C) a0 h6 ∧ h5.UpToSlots h6) fl5 fun h6 x1 x2 => ⟨h6, rfl, x1, x2⟩)) (fun _ s'' ⟨⟨h6, e6, fl6, sm6⟩, dk6⟩ => ?_) fun _ _ z => z.1
  subst e6
  obtain ⟨ob6, vs6, hob6, hobc6, hdat6, _⟩ := fl6.first
  have isK : IsExcK ea C d h6 := by
    obtain ⟨o4, ho4, hd4⟩ := dk4 ea o0 ho0
    obtain ⟨o5, ho5, hd5⟩ := dk5 ea o4 ho4
    obtain ⟨o6, ho6, hd6⟩ := dk6 ea o5 ho5
    have ho6' : h6.get? ea = some o6 := ho6
    rw [hob6] at ho6'
    cases ho6'
    exact ⟨ob6, hob6, hobc6, by unfold PySem.W.notCls; rw [hdat6], hd6.1.trans (hd5.1.trans (hd4.1.trans hd0.1))⟩
  obtain ⟨un6, hok6, _, _⟩ := carry I1 un hok bk fl6.1 ((sm4.trans sm5).trans sm6) hfnn
  have I6 : Inv X pins σ H' { s' with heap := h6 } := I1.call' (s' := { s' with heap := h6 }) os un6 hok6 bare (fun b z => absurd z (by simp))
  have I7 : Inv X pins σ (upd H' ea (ho ea C d)) { s' with heap := h6 } := inv_track I1 I6 n2 n1 (hho _ _ _ _ _ isK)
  refine store_ok (X := markX X ea) (i := j) (v := .ref ea) (inv_mark I7 ea) hN hj (.inl hxn) rfl (fun s8 I8 => ?_) (.inr hxn)
  refine wpAny_mono (hs ea pins _ _ _ (gone j D) I8 (hth ea n1)) (fun f2 s2 z => ?_) fun _ _ z => z.elim
  have z' := sp_unmark I6.ok z
  cases f2 with
  | next => obtain ⟨σ', H9, I9, q⟩ := z'; exact name_goes I9 hN hj hxn fun s3 I3 => ⟨_, H9, I3, q⟩
  | brk => obtain ⟨σ', H9, I9, q⟩ := z'; exact name_goes I9 hN hj hxn fun s3 I3 => ⟨_, H9, I3, q⟩
  | cont => obtain ⟨σ', H9, I9, q⟩ := z'; exact name_goes I9 hN hj hxn fun s3 I3 => ⟨_, H9, I3, q⟩
  | ret u => obtain ⟨v, σ', H9, I9, r, q⟩ := z'; exact name_goes I9 hN hj hxn fun s3 I3 => ⟨v, _, H9, I3, r, q⟩
end
end My
namespace My
open PySem PySem.Spec PyProof.Rows L2
theorem paired_get {α β : Type} {F : α → β → Prop} : ∀ {l : List α} {m : List β} {i : Nat} {a : α}, Paired F l m → l[i]? = some a → ∃ b, m[i]? = some b ∧ F a b
  | _, _, _, _, .nil, e => by simp at e
  | _, _, 0, _, .cons h _, e => by simp at e; subst e; exact ⟨_, rfl, h⟩
  | _, _, i + 1, a, .cons _ t, e => by
    obtain ⟨b, h1, h2⟩ := paired_get (i := i) (a := a) t (by simpa using e)
    exact ⟨b, by simpa using h1, h2⟩
section
variable {P : Program} {w : World} {K : PySem.W.Frag}
end
section
variable {X : Cx}
end
section
variable {X : Cx}
end
end My
namespace My
open PySem PySem.Spec PyProof.Rows L2
section
variable {X : Cx} {pins : List (Addr × Obj)} {σ : L2.St} {H : Hp} {s : Shared} {a b : Addr} {kvs : List (Key × V)}
end
section
variable {X : Cx}
end
end My
namespace My
open PySem PySem.Spec PyProof.Rows L2
end My
namespace My
open PySem PySem.Spec PyProof.Rows L2 Builtin.Str
end My
namespace My
open PySem PySem.Spec PyProof.Rows L2 Builtin.Str PySem.StrLaws
noncomputable def pre (d : Nat) : List (List Nat) → List (List Nat)
  | [] => []
  | p :: r => p :: r.map (d :: ·)
end My
namespace My
open PySem PySem.Spec PyProof.Rows L2
section
variable {X : Cx}
end
section
open Builtin.Str PySem.StrLaws
end
end My
namespace My
open PySem PySem.Spec PyProof.Rows L2 PyProof
section
variable {prog : Program} {w : World} {A : Around}
theorem take_one1 {ns : List Int} {j : Nat} {n : Int} (h : ns[j]? = some n) : ns.take (j + 1) = ns.take j ++ [n] := by rw [List.take_add_one, h]; rfl
end
theorem prs_len {α β : Type} {F : α → β → Prop} {xs : List α} {bs : List β} (p : Paired F xs bs) : xs.length = bs.length := by
  induction p with
  | nil => rfl
  | cons _ _ ih => simp only [List.length_cons, ih]
end My
namespace My
open PySem PySem.Spec PyProof.Rows L2 PyProof
section
variable {prog : Program} {w : World} {A : Around} {s : Shared}
end
end My
namespace My
open PySem PySem.Spec PyProof.Rows L2 PyProof
structure MkO (K : PySem.W.Frag) (C : Addr) : Prop where
  makes : PySem.W.makesIn K C = true
  init : PySem.W.findIn K (.ref C) "__init__" = some (some (.builtin "object.__init__"))
  kp : PySem.W.keepIn K (.ref C) = true
section
variable {X : Cx}
noncomputable def tNewO (C : Addr) : TE := fun _ H Q => ∀ x dx, H x = none → H dx = none → dx ≠ x → Q (.ref x) (upd (upd H dx (.own x)) x (.ins C dx []))
theorem pe_newO {C : Addr} {x : Str} {p pos : Pos} (M : MkO X.K C) (hg : Gl X x) (hm : X.mg x = some (.ref C)) (hdb : (x == ("__debug__" : Str)) = false := by decide) : PE X (.Call (.Name x p) [] [] pos) (tNewO C) := by
  constructor; intro pins s σ H Q I h
  refine wpAny_Call_Name_kw (ld_glob I hg hm ?_ hdb)
  refine PySem.W.callWith_K0 I.kIn M.kp (wpAny_call (make_map0 I.kIn M.makes M.init (fun self => PySem.W.Looks.of_pure (PySem.W.oi_bind self)) ?_))
  have I2 := Inv.made (C := C) I
  have hq := h (s.heap.objs.size + 1) s.heap.objs.size (I.hok.fresh (Nat.le_succ _)) (I.hok.fresh (Nat.le_refl _)) (Nat.ne_of_lt (Nat.lt_succ_self _))
  have Y := PySem.W.makes_of (M := model X.prog X.w) I.kIn M.makes
  have e2 : ((s.heap.push PySem.W.emptyDict).push (PySem.W.instObj C s.heap.objs.size)).get? (s.heap.objs.size + 1) = some (PySem.W.instObj C s.heap.objs.size) := by
    have := Heap.get?_push_size (s.heap.push PySem.W.emptyDict) (o := PySem.W.instObj C s.heap.objs.size) rfl
    rwa [size_push'] at this
  have t1 : PySem.W.Looks (model X.prog X.w) ((s.heap.push PySem.W.emptyDict).push (PySem.W.instObj C s.heap.objs.size)) (typeOf (.ref (s.heap.objs.size + 1))) (.ref C) := (PySem.W.Looks.ld e2).andThen .now
  have t2 : PySem.W.Looks (model X.prog X.w) ((s.heap.push PySem.W.emptyDict).push (PySem.W.instObj C s.heap.objs.size)) (isInstance (.ref (s.heap.objs.size + 1)) (.type "object")) true := t1.andThen (Y.top.keeps fun b o e => Heap.get?_push_of_some _ (Heap.get?_push_of_some _ e))
  refine codeAny_call_builtin PySem.W.oi_plain PySem.W.entry_oi (@PySem.W.check_slot (model X.prog X.w) _ _ _ "object.__init__" "object" "__init__" (.ref (s.heap.objs.size + 1)) [] [] _ PySem.W.oi_kind PySem.W.oi_split t2 (PySem.W.oi_args (.ref (s.heap.objs.size + 1))) ?_)
  rw [PySem.W.oi_run]
  exact wpAny_pure (And.intro rfl ⟨V.ref _, _, I2, rfl, hq⟩)
noncomputable def MethT (X : Cx) {ι : Type} (cls : ι → Addr) (m : Str) (sp : ι → Sp) (k : Nat) : Prop := ∀ l, ∃ f fd ps, Cls X.K (cls l) ∧ Meth X.K (cls l) m f ∧ FnOk X.prog X.w X.K X.mg X.base CX0 k f fd ps (sp l) ∧ Binds X.K fd ps []
noncomputable def tMethT {ι : Type} (cls : ι → Addr) (m : Str) (sp : ι → Sp) (ta : TE) (t : TA) : TE := fun σ H Q => ta σ H fun x H1 => ∃ a l dx fs, x = .ref a ∧ H1 a = some (.ins (cls l) dx fs) ∧ fs.lookup m = none ∧ t σ H1 fun vs H2 => sp l (x :: vs) H2 Q E0
theorem pe_methT {ι : Type} {cls : ι → Addr} {m : Str} {sp : ι → Sp} {k : Nat} {o e : Expr} {es : List Expr} {ta : TE} {t : TA} {apos pos : Pos} {pl : Sem Bool} (he : PE X o ta) (M : MethT X cls m sp k) (hr : Room k X.A) (ha : PA X (e :: es) t)
    (hst : starEach (e :: es) X.env = (false, eval e X.env) :: starEach es X.env := by rfl) (hpl : (backTo pos (starEach es X.env)).any (·.1) = false := by rfl)
    (ht : eval (.Call (.Attribute o m apos) (e :: es) [] pos) X.env = (do let ov ← eval o X.env; standAt apos.atName; let (f, first) ← holding [ov] (getMethod ov m pl); callWith pos f first (backTo pos (starEach (e :: es) X.env)) (backToKw pos (keywordEach [] X.env))) := by rfl) :
    PE X (.Call (.Attribute o m apos) (e :: es) [] pos) (tMethT cls m sp ta t) := by
  constructor; intro pins s σ H Q I h
  refine PySem.W.methodCall_KW (pl := pl) (thn (he pins s σ H _ I h) fun u s1 ⟨x, H1, I1, rx, a, l, dx, fs, ex, ea, lk, q⟩ => ?_) ht
  subst ex
  obtain rfl : u = Value.ref a := rx
  obtain ⟨f, fd, ps, c, hm, F, hb⟩ := M l
  refine getmeth_ok I1 ea c hm lk ?_
  refine PySem.W.callWith_K (first := [.ref a]) (h₀ := X.base) I.ok.mod.kin hm.kp (thn (ha pos pins s1 σ H1 _ I1 q) fun us s2 ⟨vs, H2, I2, r, q2⟩ => ⟨I2.kIn, ?_⟩) hst hpl
  exact run_fn (us := .ref a :: us) (vs := .ref a :: vs) F hr hb .nil pass0 I2 (.cons rfl r) (by rw [List.append_nil]; exact q2)
theorem pe_methT0 {ι : Type} {cls : ι → Addr} {m : Str} {sp : ι → Sp} {k : Nat} {o : Expr} {ta : TE} {apos pos : Pos} {pl : Sem Bool} (he : PE X o ta) (M : MethT X cls m sp k) (hr : Room k X.A)
    (ht : eval (.Call (.Attribute o m apos) [] [] pos) X.env = (do let ov ← eval o X.env; standAt apos.atName; let (f, first) ← holding [ov] (getMethod ov m pl); callWith pos f first (backTo pos (starEach [] X.env)) (backToKw pos (keywordEach [] X.env))) := by rfl) :
    PE X (.Call (.Attribute o m apos) [] [] pos) (tMethT cls m sp ta tNil) := by
  constructor; intro pins s σ H Q I h
  refine PySem.W.methodCall_KW (pl := pl) (thn (he pins s σ H _ I h) fun u s1 ⟨x, H1, I1, rx, a, l, dx, fs, ex, ea, lk, q⟩ => ?_) ht
  subst ex
  obtain rfl : u = Value.ref a := rx
  obtain ⟨f, fd, ps, c, hm, F, hb⟩ := M l
  refine getmeth_ok I1 ea c hm lk ?_
  exact PySem.W.callWith_K0 (first := [.ref a]) I1.kIn hm.kp (run_fn (us := [.ref a]) (vs := [.ref a]) F hr hb .nil pass0 I1 (.cons rfl .nil) q)
theorem ps_nox {st : Stmt} {t : TS} (h : PS X.nox st t) : PS X st t := by
  constructor; intro pins s σ H D I hw
  refine wpAny_mono (h pins s σ H D (I.wish _) hw) (fun f s' z => ?_) fun _ _ z => z.elim
  cases f with
  | next => obtain ⟨σ', H', I', q⟩ := z; exact ⟨σ', H', I'.unwish, q⟩
  | brk => obtain ⟨σ', H', I', q⟩ := z; exact ⟨σ', H', I'.unwish, q⟩
  | cont => obtain ⟨σ', H', I', q⟩ := z; exact ⟨σ', H', I'.unwish, q⟩
  | ret u => obtain ⟨v, σ', H', I', r, q⟩ := z; exact ⟨v, σ', H', I'.unwish, r, q⟩
theorem pe_fstrR {e : Expr} {z : Str} {k : Nat} {te : TE} {p1 p2 pos : Pos} (he : PE X e te) (hz : z.length ≤ 1000) (hev : evalEach [.Constant (.str z) k p2, .FormattedValue e 114 none p1] X.env = [eval (.Constant (.str z) k p2) X.env, eval (.FormattedValue e 114 none p1) X.env] := by rfl) :
    PE X (.JoinedStr [.Constant (.str z) k p2, .FormattedValue e 114 none p1] pos) (fun σ H Q => te σ H fun x H1 => ∃ y : Str, x = .str y ∧ (∀ c ∈ y.cps.toList, c < 16 ^ 8) ∧ y.length ≤ 1000 ∧ ∀ r, Q (.str r) H1) := by
  constructor; intro pins s σ H Q I h
  refine wpAny_JoinedStr ?_
  rw [hev]
  have e0 : (Str.empty ++ z).length = z.length := by rw [strLen_append]; show 0 + _ = _; omega
  have hs2 : (10002 : Nat) + 1000 ≤ sizeLine := by decide
  refine Calls.Constant_str ⟨_, _, rfl, by rw [e0]; omega, ?_⟩
  refine wpAny_FormattedValue_repr (thn (he pins _ σ H _ (I.tok _) h) fun u s1 ⟨x, H1, I1, r1, y, e1, hc, hl, q⟩ => ?_)
  subst e1
  obtain ⟨t, rfl⟩ := r1
  have hr := PySem.StrLaws.reprText_len y hc
  refine wpAny_pyReprObj_str ?_ (by omega)
  refine formatField_str (fun t' tk => ⟨_, _, rfl, by rw [strLen_append, e0]; omega, ?_⟩) (by omega)
  exact ⟨by rw [strLen_append, e0]; omega, .str _, H1, (I1.tok _).tok _, ⟨_, rfl⟩, q _⟩
end
end My
namespace My
open PySem PySem.Spec PyProof.Rows L2 PyProof
noncomputable def Ris (xs : Array Nat) : Prop := xs.toList.Pairwise (· < ·)
theorem Ris.lt {xs : Array Nat} (h : Ris xs) {i j x y : Nat} (hij : i < j) (hi : xs[i]? = some x) (hj : xs[j]? = some y) : x < y := by
  rw [← Array.getElem?_toList] at hi hj
  obtain ⟨i1, e1⟩ := List.getElem?_eq_some_iff.mp hi
  obtain ⟨j1, e2⟩ := List.getElem?_eq_some_iff.mp hj
  have := List.pairwise_iff_getElem.mp h i j i1 j1 hij
  rw [e1, e2] at this
  exact this
theorem below_go {xs : Array Nat} (h : Ris xs) (j : Nat) : ∀ (fuel lo hi : Nat), hi - lo ≤ fuel → lo ≤ hi → hi ≤ xs.size → (∀ k x, xs[k]? = some x → k < lo → x < j) → (∀ k x, xs[k]? = some x → hi ≤ k → j ≤ x) →
    ∀ k x, xs[k]? = some x → (k < SetTable.below.go xs j fuel lo hi → x < j) ∧ (SetTable.below.go xs j fuel lo hi ≤ k → j ≤ x)
  | 0, lo, hi, hf, hle, hs, h1, h2 => fun k x e => by
    unfold SetTable.below.go
    have : lo = hi := by omega
    subst this
    exact ⟨h1 k x e, h2 k x e⟩
  | fuel + 1, lo, hi, hf, hle, hs, h1, h2 => fun k x e => by
    unfold SetTable.below.go
    by_cases hlt : lo < hi
    · rw [if_pos hlt]
      have hm1 : lo ≤ (lo + hi) / 2 := by omega
      have hm2 : (lo + hi) / 2 < hi := by omega
      have hmx : (lo + hi) / 2 < xs.size := by omega
      have em : xs[(lo + hi) / 2]? = some xs[(lo + hi) / 2] := Array.getElem?_eq_getElem hmx
      have eg : xs.getD ((lo + hi) / 2) j = xs[(lo + hi) / 2] := by simp [Array.getD, hmx]
      dsimp only
      rw [eg]
      by_cases hc : xs[(lo + hi) / 2] < j
      · rw [if_pos hc]
        refine below_go h j fuel _ hi (by omega) (by omega) hs (fun k x e hk => ?_) h2 k x e
        by_cases q : k = (lo + hi) / 2
        · subst q
          rw [em] at e
          cases e
          exact hc
        · have := h.lt (show k < (lo + hi) / 2 by omega) e em
          omega
      · rw [if_neg hc]
        refine below_go h j fuel lo _ (by omega) hm1 (by omega) h1 (fun k x e hk => ?_) k x e
        by_cases q : k = (lo + hi) / 2
        · subst q
          rw [em] at e
          cases e
          omega
        · have := h.lt (show (lo + hi) / 2 < k by omega) em e
          omega
    · rw [if_neg hlt]
      have : lo = hi := by omega
      subst this
      exact ⟨h1 k x e, h2 k x e⟩
theorem below_is {xs : Array Nat} (h : Ris xs) (j : Nat) {k x : Nat} (e : xs[k]? = some x) : (k < SetTable.below xs j → x < j) ∧ (SetTable.below xs j ≤ k → j ≤ x) := by
  unfold SetTable.below
  refine below_go h j xs.size 0 xs.size (by omega) (Nat.zero_le _) (Nat.le_refl _) (fun k x _ hk => absurd hk (Nat.not_lt_zero _)) (fun k x e hk => ?_) k x e
  have := (Array.getElem?_eq_some_iff.mp e).1
  omega
theorem below_at {xs : Array Nat} (h : Ris xs) {i x : Nat} (e : xs[i]? = some x) : SetTable.below xs x = i := by
  have hb := below_is h x e
  by_cases q : SetTable.below xs x ≤ i
  · by_cases q2 : SetTable.below xs x = i
    · exact q2
    · have hlt : SetTable.below xs x < i := by omega
      have hi : i < xs.size := (Array.getElem?_eq_some_iff.mp e).1
      have e2 : xs[SetTable.below xs x]? = some xs[SetTable.below xs x] := Array.getElem?_eq_getElem (by omega)
      have h1 := (below_is h x e2).2 (Nat.le_refl _)
      have h2 := h.lt hlt e2 e
      omega
  · have := hb.1 (by omega)
    omega
theorem not_mem_place {xs : Array Nat} (h : Ris xs) {j : Nat} (e : xs[SetTable.below xs j]? ≠ some j) : j ∉ xs.toList := fun hm => by
  obtain ⟨k, hk, ek⟩ := List.getElem_of_mem hm
  have e1 : xs[k]? = some j := by rw [← Array.getElem?_toList, List.getElem?_eq_getElem hk, ek]
  rw [below_at h e1] at e
  exact e e1
theorem Ris.insert {xs : Array Nat} (h : Ris xs) {j : Nat} (hn : j ∉ xs.toList) : Ris (SetTable.insertAt xs (SetTable.below xs j) j) := by
  unfold Ris
  rw [SetTable.toList_insertAt]
  refine List.pairwise_append.mpr ⟨h.sublist (List.take_sublist _ _), List.pairwise_cons.mpr ⟨fun b hb => ?_, h.sublist (List.drop_sublist _ _)⟩, fun a ha b hb => ?_⟩
  · obtain ⟨k, hk, ek⟩ := List.getElem_of_mem hb
    rw [List.getElem_drop] at ek
    have e1 : xs[SetTable.below xs j + k]? = some b := by rw [← Array.getElem?_toList, List.getElem?_eq_getElem (by rw [List.length_drop] at hk; omega), ek]
    have := (below_is h j e1).2 (by omega)
    have ne : b ≠ j := fun z => hn (z ▸ List.mem_of_mem_drop hb)
    omega
  · obtain ⟨k, hk, ek⟩ := List.getElem_of_mem ha
    rw [List.getElem_take] at ek
    rw [List.length_take] at hk
    have e1 : xs[k]? = some a := by rw [← Array.getElem?_toList, List.getElem?_eq_getElem (by omega), ek]
    have h1 := (below_is h j e1).1 (by omega)
    rcases List.mem_cons.mp hb with z | z
    · omega
    · obtain ⟨k2, hk2, ek2⟩ := List.getElem_of_mem z
      rw [List.getElem_drop] at ek2
      have e2 : xs[SetTable.below xs j + k2]? = some b := by rw [← Array.getElem?_toList, List.getElem?_eq_getElem (by rw [List.length_drop] at hk2; omega), ek2]
      have := (below_is h j e2).2 (by omega)
      omega
structure TOk (t : SetTable) : Prop where
  up : Ris t.place
  nd : t.dummies = #[]
theorem TOk.fresh (f m : Nat) (l : Bool) : TOk (.fresh f m l) := ⟨List.Pairwise.nil, rfl⟩
theorem TOk.noDummy {t : SetTable} (h : TOk t) (j : Nat) : SetTable.has t.dummies j = false := by
  rw [h.nd]
  unfold SetTable.has
  simp
theorem TOk.probed {t : SetTable} (h : TOk t) {f : Nat → Int} {z : Int} : ∀ (fuel : Nat) (p : SetTable.Probe) {j : Nat} {d : Option Nat}, p.dummy = none → SetTable.probe.go t f z fuel p = some (.empty j d) → d = none ∧ j ∉ t.place.toList
  | 0, p, j, d, hp, e => by unfold SetTable.probe.go at e; cases e
  | fuel + 1, p, j, d, hp, e => by
    unfold SetTable.probe.go at e
    have adv : ∀ q : SetTable.Probe, (t.advance q).dummy = q.dummy := fun q => by
      unfold SetTable.advance
      split <;> rfl
    cases hs : t.slot p.j with
    | empty =>
      rw [hs] at e
      cases e
      refine ⟨hp, not_mem_place h.up fun z => ?_⟩
      unfold SetTable.slot at hs
      simp only [z, beq_self_eq_true, if_true] at hs
      cases hs
    | dummy =>
      exfalso
      unfold SetTable.slot at hs
      simp only [h.noDummy] at hs
      split at hs <;> cases hs
    | live i =>
      rw [hs] at e
      dsimp only at e
      split at e
      · cases e
      · exact TOk.probed h fuel _ (by rw [adv]; exact hp) e
theorem TOk.free {t : SetTable} (h : TOk t) {z : Int} {j : Nat} {b : Bool} (e : t.freeSlot z = some (j, b)) : j ∉ t.place.toList := by
  unfold SetTable.freeSlot at e
  cases hp : t.probe (fun _ => z + 1) z (t.probeStart z) with
  | none => rw [hp] at e; cases e
  | some m =>
    rw [hp] at e
    cases m with
    | candidate a b c => cases e
    | empty j' d =>
      obtain ⟨hd, hn⟩ := h.probed _ _ rfl hp
      subst hd
      cases e
      exact hn
theorem TOk.put {t : SetTable} (h : TOk t) {j : Nat} (hn : j ∉ t.place.toList) : TOk (t.put j).1 ∧ (t.put j).1.led = t.led := by
  refine ⟨⟨h.up.insert hn, ?_⟩, rfl⟩
  show (if SetTable.has t.dummies j = true then _ else t.dummies) = #[]
  rw [h.noDummy, if_neg (by simp)]
  exact h.nd
theorem ris_range (n : Nat) : Ris (Array.range n) := by
  unfold Ris
  rw [Array.toList_range]
  exact List.pairwise_lt_range
theorem TOk.stand (t : SetTable) (n : Nat) : TOk (t.standIn n) ∧ (t.standIn n).led = t.led := ⟨⟨ris_range n, rfl⟩, rfl⟩
theorem TOk.orStand {t : SetTable} (h : TOk t) (n : Nat) : TOk (t.orStandIn n) ∧ (t.orStandIn n).led = t.led := by
  unfold SetTable.orStandIn
  split
  · exact ⟨h, rfl⟩
  · exact TOk.stand t n
theorem TOk.laidNew {t : SetTable} (h : TOk t) (es : Array (Int × Value)) (z : Int) (x : Value) : TOk (layNew t es z x).2.1 ∧ (layNew t es z x).2.1.led = t.led := by
  unfold layNew
  split
  · rename_i slot wd e
    obtain ⟨h1, h2⟩ := h.put (h.free e)
    obtain ⟨h3, h4⟩ := h1.orStand (SetTable.insertAt es (t.put slot).2 (z, x)).size
    exact ⟨h3, h4.trans h2⟩
  · exact TOk.stand t _
theorem laid_ok {mask fi mo : Nat} {led pl : Bool} {hs : Array Int} {t : SetTable} {o : Array Nat} (e : SetTable.laid mask fi mo led pl hs = some (t, o)) : TOk t ∧ t.led = led := by
  unfold SetTable.laid at e
  cases hl : SetTable.layClean mask hs with
  | none => rw [hl] at e; cases e
  | some ow =>
    rw [hl] at e
    cases e
    refine ⟨⟨?_, rfl⟩, rfl⟩
    show List.Pairwise (· < ·) (List.map (·.1) ((List.range (mask + 1)).filterMap fun j => (ow.getD j none).map (j, ·)))
    have key : ∀ l : List Nat, l.Pairwise (· < ·) → ((l.filterMap fun j => (ow.getD j none).map (j, ·)).map (·.1)).Pairwise (· < ·) ∧ ∀ x ∈ (l.filterMap fun j => (ow.getD j none).map (j, ·)).map (·.1), x ∈ l := by
      intro l
      induction l with
      | nil => intro _; exact ⟨.nil, fun x hx => by cases hx⟩
      | cons a r ih =>
        intro hp
        obtain ⟨h1, h2⟩ := List.pairwise_cons.mp hp
        obtain ⟨i1, i2⟩ := ih h2
        rw [List.filterMap_cons]
        cases ho : ow.getD a none with
        | none => exact ⟨i1, fun x hx => List.mem_cons_of_mem _ (i2 x hx)⟩
        | some q =>
          refine ⟨List.pairwise_cons.mpr ⟨fun b hb => h1 b (i2 b hb), i1⟩, fun x hx => ?_⟩
          rcases List.mem_cons.mp hx with z | z
          · exact z ▸ List.mem_cons_self
          · exact List.mem_cons_of_mem _ (i2 x z)
    exact (key _ List.pairwise_lt_range).1
theorem TOk.relay {t : SetTable} (es : Array (Int × Value)) (wn : Nat) : TOk (relayAll t es wn).2.1 ∧ (relayAll t es wn).2.1.led = t.led := by
  unfold relayAll
  split
  · rename_i t' order e
    have := laid_ok e
    dsimp only
    split
    · exact this
    · exact TOk.stand t _
  · exact TOk.stand t _
end My
namespace My
open PySem PySem.Spec PyProof.Rows L2 PyProof
noncomputable def keyI (e : Int × Value) : Int := match e.2 with
  | .int n _ => n
  | _ => 0
section
variable {prog : Program} {w : World} {A : Around} {E : Value → Shared → Prop} {s : Shared}
noncomputable def SetG (prog : Program) (w : World) (h : Heap) (a : Addr) (ks : List Int) (led : Bool) : Prop :=
  ∃ o es ep t, h.get? a = some o ∧ o.ExactSet ∧ o.data = .set es ep t ∧ ElemsOf (intKind prog w) es.toList ∧ es.size < scanBound ∧ t.fits es.size = true ∧ TOk t ∧ t.led = led ∧ (es.toList.map keyI).Perm ks
theorem elem_int {e : Int × Value} (h : (∃ k, (intKind prog w).is k e.2 = true ∧ e.1 = (intKind prog w).hash k) ∧ e.2.scannable = true) : ∃ t, e.2 = .int (keyI e) t := by
  obtain ⟨⟨k, hk, _⟩, _⟩ := h
  obtain ⟨t, ht⟩ := Value.isInt_shape hk
  refine ⟨t, ?_⟩
  unfold keyI
  rw [ht]
theorem elem_is {e : Int × Value} {n : Int} (h : (∃ k, (intKind prog w).is k e.2 = true ∧ e.1 = (intKind prog w).hash k) ∧ e.2.scannable = true) : (intKind prog w).is n e.2 = true ↔ keyI e = n := by
  obtain ⟨t, ht⟩ := elem_int h
  rw [ht]
  constructor
  · intro z
    obtain ⟨t', e'⟩ := Value.isInt_shape (show Value.isInt n (Value.int (keyI e) t) = true from z)
    exact (Value.int.inj e').1
  · intro z
    rw [z]
    exact intKind_is _ _ _ _
theorem stored_g {h : Heap} {a : Addr} {o : Obj} {es : Array (Int × Value)} {ep : Nat} {t : SetTable} (ho : h.get? a = some o) (hd : o.data = .set es ep t) (es' : Array (Int × Value)) (t' : SetTable) : (h.update a (Obj.putSet es' t')).get? a = some { o with data := .set es' (ep + 1) t' } := by
  have q := Heap.get?_update_self (Obj.putSet es' t') ho (by rw [putSet_of es' t' hd]; rfl)
  rwa [putSet_of es' t' hd] at q
theorem add_g {a : Addr} {ks : List Int} {led : Bool} {n : Int} {t0 : Tok} {Q : Bool → Shared → Prop} (hS : SetG prog w s.heap a ks led) (hroom : ks.length + 1 < scanBound)
    (h : ∀ b h', Heap.SameBut a s.heap h' → SetG prog w h' a (step_dedup ks n) led → Q b { s with heap := h' }) : wpAny (model prog w) A (setAddHashed a (.int n t0) ((intKind prog w).hash n)) Q E s := by
  obtain ⟨o, es, ep, t, ho, hex, hd, hel, hb, hf, ht, hled, hp⟩ := hS
  have hkey : (intKind prog w).is n (.int n t0) = true := intKind_is _ _ _ _
  have hsc : (Value.int n t0).scannable = true := rfl
  have hsz : es.size = ks.length := by rw [← Array.length_toList, ← List.length_map (f := keyI), hp.length_eq]
  unfold setAddHashed setAddHashedIn
  refine wpAny_holding (wpAny_bind (wpAny_setState_of ho hd hf ?_))
  dsimp only
  rw [byScan_of hsc hb hel]; simp only [↓reduceIte]
  unfold setAddByScan
  refine wpAny_bind (wpAny_bind (wpAny_rule (wpAny_bind (wpAny_setScan_of hkey ho hd hf hel ?_))))
  cases hr : List.findIdx? (fun e => (intKind prog w).is n e.2) es.toList with
  | some j =>
    dsimp only; obtain ⟨hj, hpj, _⟩ := List.findIdx?_eq_some_iff_getElem.mp hr
    have hin : n ∈ ks := hp.mem_iff.mp (List.mem_map.mpr ⟨es.toList[j], List.getElem_mem hj, (elem_is (hel _ (List.getElem_mem hj))).mp hpj⟩)
    have es0 : s = { s with heap := s.heap } := by cases s; rfl
    refine wpAny_pure (wpAny_pure ?_)
    rw [es0]
    refine h _ s.heap (Heap.SameBut.refl a s.heap) ?_
    unfold step_dedup
    rw [if_pos (List.any_eq_true.mpr ⟨n, hin, by simp⟩)]
    exact ⟨o, es, ep, t, ho, hex, hd, hel, hb, hf, ht, hled, hp⟩
  | none =>
    dsimp only
    have hnin : n ∉ ks := fun z => by
      obtain ⟨e, he, ek⟩ := List.mem_map.mp (hp.mem_iff.mpr z)
      have q := List.findIdx?_eq_none_iff.mp hr e he
      rw [(elem_is (hel _ he)).mpr ek] at q
      cases q
    have hstep : step_dedup ks n = ks ++ [n] := by
      unfold step_dedup
      rw [if_neg fun z => by obtain ⟨x, hx, ex⟩ := List.any_eq_true.mp z; exact hnin (by rw [← beq_iff_eq.mp ex]; exact hx)]
    have gw : ∀ (b : Bool) {s₁ : Shared} {Q' : Unit → Shared → Prop}, Q' () s₁ → wpAny (model prog w) A (match b with | true => rule "set.scan.the-table-gave-way" | false => pure ()) Q' E s₁ := fun b s₁ Q' hq => by cases b <;> first | exact wpAny_pure hq | exact wpAny_rule hq
    have l1 := layNew_perm t es ((intKind prog w).hash n) (.int n t0)
    have l2 := layNew_fits t es ((intKind prog w).hash n) (.int n t0)
    have l3 := ht.laidNew es ((intKind prog w).hash n) (.int n t0)
    generalize layNew t es ((intKind prog w).hash n) (.int n t0) = L at l1 l2 l3 ⊢
    obtain ⟨es1, t1, wd, gv⟩ := L
    dsimp only at l1 l2 l3 ⊢
    rw [Array.toList_push] at l1
    have hel1 : ElemsOf (intKind prog w) es1.toList := (hel.push hkey hsc).perm l1
    have hp1 : (es1.toList.map keyI).Perm (ks ++ [n]) := (l1.map keyI).trans (by rw [List.map_append]; exact hp.append_right [n])
    have sz1 : es1.size = ks.length + 1 := by rw [← Array.length_toList, l1.length_eq, List.length_append, Array.length_toList, hsz]; rfl
    have hb1 : es1.size < scanBound := by rw [sz1]; exact hroom
    refine wpAny_bind (gw _ ?_)
    have tail : ∀ (t2 : SetTable), t2.fits es1.size = true → TOk t2 → t2.led = led → wpAny (model prog w) A (do
        storeSet a es1 t2
        if (!wd && t2.tooFull) = true then do
            (match (relayAll t2 es1 (SetTable.grown es1.size)).2.2 with | true => rule "set.scan.the-table-gave-way" | false => pure ())
            storeSet a (relayAll t2 es1 (SetTable.grown es1.size)).1 (relayAll t2 es1 (SetTable.grown es1.size)).2.1
            pure (some true)
          else pure (some true)) (fun r s' => ∃ h', s' = { s with heap := h' } ∧ r = some true ∧ Heap.SameBut a s.heap h' ∧ SetG prog w h' a (ks ++ [n]) led) E s := by
      intro t2 f2 k2 le2
      refine wpAny_bind (wpAny_storeSet_of ho hd ?_ (fits_of_scanBound hb1))
      have g1 := stored_g ho hd es1 t2
      have sb1 := Heap.SameBut.update s.heap a (Obj.putSet es1 t2)
      split
      · have r1 := relayAll_perm t2 es1 (SetTable.grown es1.size)
        have r2 := relayAll_fits t2 es1 (SetTable.grown es1.size)
        have r3 := TOk.relay (t := t2) es1 (SetTable.grown es1.size)
        generalize relayAll t2 es1 (SetTable.grown es1.size) = Rl at r1 r2 r3 ⊢
        obtain ⟨es2, t3, gv2⟩ := Rl
        dsimp only at r1 r2 r3 ⊢
        have sz2 : es2.size = es1.size := by rw [← Array.length_toList, r1.length_eq, Array.length_toList]
        refine wpAny_bind (gw _ (wpAny_bind (wpAny_storeSet_of g1 rfl ?_ (fits_of_scanBound (by rw [sz2]; exact hb1)))))
        have g2 := stored_g g1 rfl es2 t3
        exact wpAny_pure ⟨_, rfl, rfl, sb1.trans (Heap.SameBut.update _ a _), _, es2, _, t3, g2, hex, rfl, hel1.perm r1, by rw [sz2]; exact hb1, r2, r3.1, r3.2.trans le2, (r1.map keyI).trans hp1⟩
      · exact wpAny_pure ⟨_, rfl, rfl, sb1, _, es1, _, t2, g1, hex, rfl, hel1, hb1, f2, k2, le2, hp1⟩
    have fin : ∀ r s', (∃ h', s' = { s with heap := h' } ∧ r = some true ∧ Heap.SameBut a s.heap h' ∧ SetG prog w h' a (ks ++ [n]) led) → ∃ b, r = some b ∧ Q b s' := by
      rintro r s' ⟨h', rfl, rfl, hsb, hg⟩
      exact ⟨true, rfl, h true h' hsb (by rw [hstep]; exact hg)⟩
    split
    · refine wpAny_bind ?_
      rw [hashByValue_scannable 8 hsc]
      refine wpAny_pure ?_
      refine wpAny_mono (tail t1 l2 l3.1 (l3.2.trans hled)) (fun r s' z => ?_) fun _ _ z => z
      obtain ⟨b, rfl, q⟩ := fin r s' z
      exact wpAny_pure q
    · refine wpAny_bind (wpAny_pure ?_)
      refine wpAny_mono (tail t1 l2 l3.1 (l3.2.trans hled)) (fun r s' z => ?_) fun _ _ z => z
      obtain ⟨b, rfl, q⟩ := fin r s' z
      exact wpAny_pure q
end
end My
namespace My
open PySem PySem.Spec PyProof.Rows L2 PyProof
noncomputable def dd (ns : List Int) : List Int := ns.foldl step_dedup []
theorem dd_len (ns : List Int) : (dd ns).length ≤ ns.length := by
  have key : ∀ (ns acc : List Int), (ns.foldl step_dedup acc).length ≤ acc.length + ns.length := by
    intro ns
    induction ns with
    | nil => intro acc; exact Nat.le_refl _
    | cons n r ih =>
      intro acc
      have h1 := ih (step_dedup acc n)
      have h2 : (step_dedup acc n).length ≤ acc.length + 1 := by unfold step_dedup; split <;> simp
      rw [List.foldl_cons, List.length_cons]
      omega
  have := key ns []
  unfold dd
  simpa using this
theorem dd_snoc (ns : List Int) (n : Int) : dd (ns ++ [n]) = step_dedup (dd ns) n := by
  unfold dd
  rw [List.foldl_append]
  rfl
section
variable {prog : Program} {w : World} {A : Around} {E : Value → Shared → Prop} {s : Shared}
theorem SetG.keep {h h' : Heap} {a : Addr} {ks : List Int} {led : Bool} (x : SetG prog w h a ks led) (k : ∀ o, h.get? a = some o → h'.get? a = some o) : SetG prog w h' a ks led :=
  let ⟨o, es, ep, t, ho, r⟩ := x
  ⟨o, es, ep, t, k o ho, r⟩
theorem loop_g {R : Result → Shared → Prop} {I S l : Addr} {us : List Value} {ns : List Int} {led : Bool} (hh : A.handled = none) (hlen : us.length = ns.length) (hus : ∀ (j : Nat) u, us[j]? = some u → ∃ n t, ns[j]? = some n ∧ u = Value.int n t) (hlI : l ≠ I) (hSI : S ≠ I) (hSl : S ≠ l) (hb : ns.length + 1 < scanBound) :
    ∀ (k i : Nat) (s : Shared), us.length - i = k → i ≤ us.length → s.heap.IsListIter I l i → s.heap.IsList l us.toArray → SetG prog w s.heap S (dd (ns.take i)) led →
      (∀ h' tk, (∀ b o, b ≠ I → b ≠ S → s.heap.get? b = some o → h'.get? b = some o) → SetG prog w h' S (dd ns) led → R (.ok (.ret .none)) { s with heap := h', toks := tk }) →
      codeAny (model prog w) A (.builtin "set.update.loop" ⟨[.ref S, .ref I], []⟩) R s := by
  have W := Walks.list (prog := prog) (w := w) (A := A.in1) hh I l hlI us.toArray
  have us0 : us.toArray.size = us.length := by simp
  intro k
  induction k with
  | zero =>
    intro i s hk hi hit hil hg hR
    have hin : i = us.length := by omega
    refine codeAny_builtin PyProof.Rows.F.entry_set_update_loop ?_; rw [Around.under_plainId PyProof.Rows.F.plain_set_update_loop _]
    refine wpAny_bind (W.done s _ _ ⟨by rw [us0, ← hin]; exact hit, hil⟩ fun h' tk hk' => ?_)
    rw [hin, hlen, List.take_length] at hg
    exact wpAny_pure (hR h' tk (fun b o b1 _ e => hk' b o (by simpa using b1) e) (hg.keep fun o e => hk' S o (by simpa using hSI) e))
  | succ k ih =>
    intro i s hk hi hit hil hg hR
    have hlt : i < us.length := by omega
    refine codeAny_builtin PyProof.Rows.F.entry_set_update_loop ?_; rw [Around.under_plainId PyProof.Rows.F.plain_set_update_loop _]
    refine wpAny_bind (W.item i s _ _ (by rw [us0]; exact hlt) ⟨hit, hil⟩ fun v h1 tk1 hP hst hk1 => ?_)
    obtain ⟨n, t, hn, rfl⟩ := hus i v (by simpa using hP)
    show wpAny _ A.in1 (holding [Value.int n t] (setAdd S (.int n t)) >>= _) _ _ _
    refine wpAny_bind (wpAny_holding ?_)
    unfold setAdd
    refine wpAny_holding (wpAny_bind ((intKind prog w).pyHash (k := n) (intKind_is _ _ _ _) ?_))
    have hg1 : SetG prog w h1 S (dd (ns.take i)) led := hg.keep fun o e => hk1 S o (by simpa using hSI) e
    have hroom : (dd (ns.take i)).length + 1 < scanBound := by
      have := dd_len (ns.take i)
      rw [List.length_take] at this
      omega
    refine add_g (s := { s with heap := h1, toks := tk1 + 1 }) hg1 hroom fun b h2 hsb hg2 => ?_
    have oth : ∀ b, b ≠ S → h2.get? b = h1.get? b := fun b hb => hsb.2 b hb
    refine wpAny_pure ⟨plainId_quiet PyProof.Rows.F.plain_set_update_loop _, ih (i + 1) { s with heap := h2, toks := tk1 + 1 } (by omega) hlt (hst.1.at fun o e => (oth I hSI.symm).trans e) (hst.2.at fun o e => (oth l hSl.symm).trans e) (by rw [take_one1 hn, dd_snoc]; exact hg2) fun h3 tk3 k3 hg3 => ?_⟩
    exact hR h3 tk3 (fun b o b1 b2 e => k3 b o b1 b2 ((oth b b2).trans (hk1 b o (by simpa using b1) e))) hg3
theorem new_g (a : Value) {Q₁ : Value → Shared → Prop} (h : Q₁ (.ref s.heap.objs.size) { s with heap := s.heap.push { cls := .type "set", dict := none, data := .set #[] 0 (.fresh 0 0 (!w.params.followText "set-order")) } }) :
    codeAny (model prog w) A (.call (.builtin "set.__new__") ⟨[.type "set", a], []⟩) (wants Q₁ E) s := by
  refine codeAny_of_tree ?_
  show wpAny _ A.in1 (do checkBuiltinCall "set.__new__" ⟨[.type "set", a], []⟩; again (.builtin "set.__new__" ⟨[.type "set", a], []⟩)) _ _ s; refine wpAny_bind (wpAny_of_eq (PySem.F.newCall_set_1 a) (wpAny_pure ⟨plainId_quiet PySem.F.plain_set_new _, codeAny_builtin PySem.F.entry_set_new ?_⟩))
  rw [Around.under_plainId PySem.F.plain_set_new _]; unfold Builtin.«set.__new__» Builtin.Frozenset.newClass
  have hsub := sub_set_self; obtain ⟨hp, g, d, tk, os⟩ := s
  dsimp only; wp_walk
  refine wpAny_askSetting (wpAny_pure ?_); dsimp only; simp only [newObj]
  exact wpAny_bind (wpAny_alloc (wpAny_pure (wpAny_pure h)))
set_option maxHeartbeats 3200000 in
theorem call_set_g {l : Addr} {us : List Value} {ns : List Int} {Q : Value → Shared → Prop} (hh : A.handled = none) (hl : s.heap.IsList l us.toArray) (hlen : us.length = ns.length) (hus : ∀ (j : Nat) u, us[j]? = some u → ∃ n t, ns[j]? = some n ∧ u = Value.int n t) (hb : ns.length + 1 < scanBound)
    (h : ∀ h' tk, SetG prog w h' s.heap.objs.size (dd ns) (!w.params.followText "set-order") → (∀ b o, s.heap.get? b = some o → h'.get? b = some o) → Q (.ref s.heap.objs.size) { s with heap := h', toks := tk }) :
    wpAny (model prog w) A (call (.type "set") [.ref l]) Q E s := by
  obtain ⟨c, tl, hmro⟩ := PySem.F.called_set.mro; have hmade := PySem.F.called_set.made; have hsub := PySem.F.called_set.sub
  refine wpAny_call (codeAny_of_tree ?_)
  show wpAny _ _ (callAny (.type "set") _) _ _ _; refine wpAny_pure ⟨Code.quiet_builtin _ (by decide +kernel), codeAny_builtin PySem.F.entry_type_call ?_⟩
  rw [Around.under_plain (weight_type_call_type "set" [.ref l] []) rfl]; have h1 := PySem.F.called_set.notType; have h2 := PySem.F.called_set.canCreate; have hct := PySem.F.typeCall_set_1 (.ref l)
  repeat (any_goals (first | assumption | wp_step))
  generalize hfr : (SetTable.fresh 0 0 (!w.params.followText "set-order")) = fr
  refine codeAny_mono (new_g (prog := prog) (w := w) (.ref l) (E := E) (Q₁ := fun obj s₁ => obj = .ref s.heap.objs.size ∧ s₁ = { s with heap := s.heap.push { cls := .type "set", dict := none, data := .set #[] 0 fr } }) ⟨rfl, by rw [hfr]⟩) fun r s₁ hr => ?_
  cases r with
  | error e => exact hr
  | ok fl =>
    cases fl with
    | ret obj =>
      obtain ⟨rfl, rfl⟩ := hr
      have hS : (s.heap.push { cls := .type "set", dict := none, data := .set #[] 0 fr }).get? s.heap.objs.size = some { cls := .type "set", dict := none, data := .set #[] 0 fr } := Heap.get?_push_size _ rfl
      have hT : Shared.TypeIs { s with heap := s.heap.push { cls := .type "set", dict := none, data := .set #[] 0 fr } } (.ref s.heap.objs.size) "set" := ⟨_, hS, rfl⟩
      have hli := PySem.F.called_set.init.lookup; have hbi := PySem.F.called_set.init.bind (.ref s.heap.objs.size)
      repeat (any_goals (first | assumption | wp_step))
      refine codeAny_mono (codeAny_call_builtin (R := wants (fun r s₂ => r = .none ∧ ∃ h' tk, s₂ = { s with heap := h', toks := tk } ∧ SetG prog w h' s.heap.objs.size (dd ns) (!w.params.followText "set-order") ∧ ∀ b o, s.heap.get? b = some o → h'.get? b = some o) E) PySem.F.called_set.init.plain PySem.F.entry_set_init (check_set_init_1 hT ?_)) fun r₂ s₂ hr₂ => ?_
      · obtain ⟨ol, hol, hcl, nl, hdl⟩ := id hl
        obtain ⟨ocls, odict, odata, oslots⟩ := ol
        simp only at hcl hdl; subst hcl; subst hdl
        have hol' : (s.heap.push { cls := .type "set", dict := none, data := .set #[] 0 fr }).get? l = some { cls := .type "list", dict := odict, data := .seq us.toArray nl, slots := oslots } := Heap.get?_push_of_some _ hol
        have hsls := PySem.F.sub_list_set; have hslf := PySem.F.sub_list_frozenset
        have hne : (Value.type "list" == Value.type "dict") = false := by decide
        have hl1 : (s.heap.push { cls := .type "set", dict := none, data := .set #[] 0 fr }).IsList l us.toArray := ⟨_, hol', rfl, nl, rfl⟩
        have hfu : fr.fill = 0 ∧ fr.place.size = 0 ∧ fr.mask = 7 := by rw [← hfr]; exact ⟨rfl, rfl, rfl⟩
        subst hfr
        unfold Builtin.«set.__init__» noKeywords Builtin.Frozenset.updateFrom
        generalize hPI : pyIter = PI; wp_walk; subst hPI
        refine wpAny_pyIter_list hl1 (wpAny_bind (wpAny_runValue ?_))
        have hlS : l < s.heap.objs.size := Heap.lt_size hol
        have hh3 : A.in1.in1.handled = none := by simp [hh]
        refine loop_g (prog := prog) (w := w) (s := { s with heap := (s.heap.push { cls := .type "set", dict := none, data := .set #[] 0 (.fresh 0 0 (!w.params.followText "set-order")) }).push { cls := .type "list_iterator", data := .fields #[.ref l, .int 0 0] } }) (I := (s.heap.push { cls := .type "set", dict := none, data := .set #[] 0 (.fresh 0 0 (!w.params.followText "set-order")) }).objs.size) (led := !w.params.followText "set-order") hh3 hlen hus ?_ ?_ (Nat.ne_of_gt hlS) hb us.length 0 (by omega) (Nat.zero_le _) ⟨_, Heap.get?_push_size _ rfl, rfl, rfl⟩ (hl1.push _) ?_ fun h' tk k hg => ?_
        · rw [size_push']; exact Nat.ne_of_lt (Nat.lt_succ_of_lt hlS)
        · rw [size_push']; exact Nat.ne_of_lt (Nat.lt_succ_self _)
        · exact ⟨_, #[], 0, _, Heap.get?_push_of_some _ hS, ⟨rfl, rfl, rfl⟩, rfl, (fun e he => by cases he), (by decide), rfl, TOk.fresh _ _ _, rfl, .nil⟩
        · show wpAny _ _ _ _ _ _
          refine wpAny_pure ?_
          show wpAny _ _ (ret Value.none) _ _ _
          refine wpAny_pure ⟨rfl, h', tk, rfl, hg, fun b o e => ?_⟩
          have hb1 := Heap.lt_size e
          exact k b o (by rw [size_push']; exact Nat.ne_of_lt (Nat.lt_succ_of_lt hb1)) (Nat.ne_of_lt hb1) (Heap.get?_push_of_some _ (Heap.get?_push_of_some _ e))
      · cases r₂ with
        | error e => exact hr₂
        | ok fl₂ =>
          cases fl₂ with
          | ret r =>
            obtain ⟨rfl, h', tk, rfl, hg, hk'⟩ := hr₂
            repeat (any_goals (first | assumption | wp_step))
            exact h _ _ hg hk'
          | _ => exact hr₂.elim
    | _ => exact hr.elim
end
end My
namespace My
open PySem PySem.Spec PyProof.Rows L2 PyProof
theorem below_go_le {xs : Array Nat} (j : Nat) : ∀ (fuel lo hi : Nat), lo ≤ hi → SetTable.below.go xs j fuel lo hi ≤ hi
  | 0, lo, hi, h => by unfold SetTable.below.go; exact h
  | fuel + 1, lo, hi, h => by
    unfold SetTable.below.go
    split
    · dsimp only
      split
      · exact below_go_le j fuel _ hi (by omega)
      · exact Nat.le_trans (below_go_le j fuel lo _ (by omega)) (by omega)
    · exact h
theorem below_le {xs : Array Nat} (j : Nat) : SetTable.below xs j ≤ xs.size := below_go_le j _ _ _ (Nat.zero_le _)
theorem below_eq {xs : Array Nat} (h : Ris xs) {j i : Nat} (h1 : ∀ (k x : Nat), xs[k]? = some x → k < i → x < j) (h2 : ∀ (k x : Nat), xs[k]? = some x → i ≤ k → j ≤ x) (hi : i ≤ xs.size) : SetTable.below xs j = i := by
  have hle := below_le (xs := xs) j
  by_cases q : SetTable.below xs j < i
  · have hlt : SetTable.below xs j < xs.size := by omega
    have e : xs[SetTable.below xs j]? = some xs[SetTable.below xs j] := Array.getElem?_eq_getElem hlt
    have a := h1 _ _ e q
    have b := (below_is h j e).2 (Nat.le_refl _)
    omega
  · by_cases q2 : i < SetTable.below xs j
    · have e : xs[i]? = some (xs[i]'(by omega)) := Array.getElem?_eq_getElem (by omega)
      have a := h2 _ _ e (Nat.le_refl _)
      have b := (below_is h j e).1 q2
      omega
    · omega
noncomputable def slotAt (xs : Array Nat) : Nat → Nat
  | 0 => 0
  | i + 1 => xs.getD i 0 + 1
theorem slot_below {xs : Array Nat} (h : Ris xs) {i : Nat} (hi : i ≤ xs.size) : SetTable.below xs (slotAt xs i) = i := by
  cases i with
  | zero => exact below_eq h (fun k x _ z => absurd z (Nat.not_lt_zero _)) (fun k x _ _ => Nat.zero_le _) hi
  | succ i =>
    have e : xs[i]? = some (xs[i]'(by omega)) := Array.getElem?_eq_getElem (by omega)
    have ed : xs.getD i 0 = xs[i]'(by omega) := by simp [Array.getD, show i < xs.size by omega]
    refine below_eq h (fun k x ek z => ?_) (fun k x ek z => ?_) hi
    · show x < xs.getD i 0 + 1
      rw [ed]
      by_cases q : k = i
      · subst q; rw [e] at ek; cases ek; omega
      · have := h.lt (show k < i by omega) ek e
        omega
    · show xs.getD i 0 + 1 ≤ x
      rw [ed]
      exact h.lt (show i < k by omega) e ek
theorem erase_perm {α : Type} : ∀ (l : List α) (i : Nat) (h : i < l.length), (l[i] :: l.eraseIdx i).Perm l
  | [], i, h => absurd h (Nat.not_lt_zero _)
  | a :: r, 0, h => .refl _
  | a :: r, i + 1, h => by
    have hi : i < r.length := by simpa using h
    show (r[i] :: a :: r.eraseIdx i).Perm (a :: r)
    exact (List.Perm.swap _ _ _).trans ((erase_perm r i hi).cons a)
theorem pick_go {α : Type} (next : Nat → Nat) : ∀ (fuel k : Nat) (left : List α) (out : Array α), left.length ≤ fuel → (pickOrder.go next fuel k left out).toList.Perm (out.toList ++ left)
  | 0, k, left, out, h => by
    have : left = [] := List.length_eq_zero_iff.mp (by omega)
    subst this
    unfold pickOrder.go
    simp
  | fuel + 1, k, left, out, h => by
    unfold pickOrder.go
    cases left with
    | nil => simp
    | cons a r =>
      have hlt : next k % (a :: r).length < (a :: r).length := Nat.mod_lt _ (by simp)
      rw [List.getElem?_eq_getElem hlt]
      dsimp only
      refine (pick_go next fuel (k + 1) _ _ (by rw [List.length_eraseIdx_of_lt hlt]; simp at h ⊢; omega)).trans ?_
      rw [Array.toList_push, List.append_assoc]
      exact (List.Perm.append_left _ (erase_perm _ _ hlt))
theorem pick_perm {α : Type} (next : Nat → Nat) (xs : Array α) : (pickOrder next xs).toList.Perm xs.toList := by
  unfold pickOrder
  have := pick_go next xs.size 0 xs.toList #[] (by simp)
  simpa using this
section
variable {M : Model} {A : Around} {E : Value → Shared → Prop}
theorem wp_chooseD {src : Source} {n : Nat} {Q : Nat → Shared → Prop} {s : Shared} (hn : n ≠ 0) (h : ∀ m d, m < n → Q m { s with drawn := d }) : wpAny M A (choose src n) Q E s := fun Γ p _ => by
  unfold choose
  rw [Sem.wp]
  refine ⟨hn, ?_⟩
  rw [Sem.wp]
  exact h _ _ (Nat.mod_lt _ (Nat.pos_of_ne_zero hn))
theorem wp_draw {α : Type} : ∀ (n : Nat) (xs : List α) (Q : List α → Shared → Prop) (s : Shared), xs.length = n → (∀ ys d, ys.Perm xs → Q ys { s with drawn := d }) → wpAny M A (drawOrder n xs) Q E s
  | 0, xs, Q, s, hn, h => by
    have : xs = [] := List.length_eq_zero_iff.mp hn
    subst this
    have e : s = { s with drawn := s.drawn } := by cases s; rfl
    unfold drawOrder
    rw [e]
    exact wpAny_pure (h [] _ (.refl _))
  | n + 1, [], Q, s, hn, h => by cases hn
  | n + 1, a :: r, Q, s, hn, h => by
    unfold drawOrder
    refine wpAny_bind (wp_chooseD (by simp) fun m d hm => ?_)
    rw [List.getElem?_eq_getElem hm]
    dsimp only
    refine wpAny_bind (wp_draw n _ _ _ (by rw [List.length_eraseIdx_of_lt hm, hn]; rfl) fun ys d' hp => ?_)
    exact wpAny_pure (h _ _ ((hp.cons _).trans (erase_perm _ _ hm)))
end
end My
namespace My
open PySem PySem.Spec PyProof.Rows L2 PyProof
theorem sl_sin : Slot "set_iterator" "__next__" "set_iterator.__next__" := .of (owner := "set_iterator") (n := "__next__") (by rw [typeLookup_type, builtinLookup_eq_fast]; kernel_rfl) (by decide +kernel) (by decide +kernel) (by decide +kernel) (by first | exact .inl (by decide +kernel) | exact .inr (by decide +kernel)) (by rw [isSubtype_type]; kernel_rfl)
theorem sl_sii : Slot "set_iterator" "__iter__" "set_iterator.__iter__" := .of (owner := "set_iterator") (n := "__iter__") (by rw [typeLookup_type, builtinLookup_eq_fast]; kernel_rfl) (by decide +kernel) (by decide +kernel) (by decide +kernel) (by first | exact .inl (by decide +kernel) | exact .inr (by decide +kernel)) (by rw [isSubtype_type]; kernel_rfl)
theorem en_sin : entryFor table "set_iterator.__next__" = some Builtin.«set_iterator.__next__» := entryFor_of_tree (by kernel_rfl)
theorem en_sii : entryFor table "set_iterator.__iter__" = some Builtin.«dict_keyiterator.__iter__» := entryFor_alias (id' := "dict_keyiterator.__iter__") (by kernel_rfl) rfl (by decide +kernel) (by kernel_rfl)
theorem en_si : entryFor table "set.__iter__" = some Builtin.«frozenset.__iter__» := entryFor_alias (id' := "frozenset.__iter__") (by kernel_rfl) rfl (by decide +kernel) (by kernel_rfl)
theorem ow_si : Manifest.owners.lookup (String.ofList ['r', 'o', 't', 'a', 'r', 'e', 't', 'i', '_', 't', 'e', 's'].reverse) = some Manifest.sig_set_iterator := by kernel_rfl
theorem ar_sin (a : Value) : argsOk "set_iterator.__next__" ⟨[a], []⟩ := by unfold argsOk; rw [signature?_of (id := "set_iterator.__next__") (n := ['_', '_', 't', 'x', 'e', 'n', '_', '_']) (o := ['r', 'o', 't', 'a', 'r', 'e', 't', 'i', '_', 't', 'e', 's']) (by kernel_rfl) ow_si]; kernel_rfl
theorem ar_sii (a : Value) : argsOk "set_iterator.__iter__" ⟨[a], []⟩ := by unfold argsOk; rw [signature?_of (id := "set_iterator.__iter__") (n := ['_', '_', 'r', 'e', 't', 'i', '_', '_']) (o := ['r', 'o', 't', 'a', 'r', 'e', 't', 'i', '_', 't', 'e', 's']) (by kernel_rfl) ow_si]; kernel_rfl
noncomputable def ItAt (h : Heap) (I a : Addr) (first : Value) (i n ep : Nat) : Prop := ∃ o, h.get? I = some o ∧ o.cls = .type "set_iterator" ∧ o.data = .fields #[first, .int i 0, .ref a, .int n 0, .int ep 0]
noncomputable def SetIs (h : Heap) (a : Addr) (es : Array (Int × Value)) (ep : Nat) (t : SetTable) : Prop := ∃ o, h.get? a = some o ∧ o.ExactSet ∧ o.data = .set es ep t
theorem ItAt.keep {h h' : Heap} {I a : Addr} {v : Value} {i n ep : Nat} (x : ItAt h I a v i n ep) (k : ∀ o, h.get? I = some o → h'.get? I = some o) : ItAt h' I a v i n ep := let ⟨o, ho, r⟩ := x; ⟨o, k o ho, r⟩
theorem SetIs.keep {h h' : Heap} {a : Addr} {es : Array (Int × Value)} {ep : Nat} {t : SetTable} (x : SetIs h a es ep t) (k : ∀ o, h.get? a = some o → h'.get? a = some o) : SetIs h' a es ep t := let ⟨o, ho, r⟩ := x; ⟨o, k o ho, r⟩
section
variable {prog : Program} {w : World} {A : Around} {E : Value → Shared → Prop} {s : Shared} {I a : Addr} {es : Array (Int × Value)} {ep : Nat} {t : SetTable}
theorem ItAt.typeIs {v : Value} {i n : Nat} (x : ItAt s.heap I a v i n ep) : s.TypeIs (.ref I) "set_iterator" := let ⟨o, ho, hc, _⟩ := x; ⟨o, ho, hc⟩
theorem wp_drawnOf {Q : Bool → Shared → Prop} (hS : SetIs s.heap a es ep t) (hf : t.fits es.size = true) (h : Q (!w.params.followText "set-order" && (!t.plain && decide (1 < es.size))) s) : wpAny (model prog w) A (setDrawn a) Q E s := by
  obtain ⟨o, ho, hex, hd⟩ := hS
  unfold setDrawn
  refine wpAny_bind (wpAny_setState_of ho hd hf ?_)
  dsimp only
  unfold setsByText
  refine wpAny_bind (wpAny_bind (wpAny_askSetting (wpAny_pure ?_)))
  exact wpAny_pure h
theorem wp_nextT {Q : Option (Value × Nat) → Shared → Prop} {slot i : Nat} (hT : w.params.followText "set-order" = true) (hS : SetIs s.heap a es ep t) (hf : t.fits es.size = true)
    (h : Q (((pickOrder (w.params.setOrder a ep) es)[i]?).map fun e => (e.2, slot)) s) : wpAny (model prog w) A (setNext a slot i ep) Q E s := by
  obtain ⟨o, ho, hex, hd⟩ := hS
  unfold setNext
  refine wpAny_bind (wpAny_setState_of ho hd hf ?_)
  dsimp only
  have by1 : ∀ {Q : Bool → Shared → Prop}, Q true s → wpAny (model prog w) A setsByText Q E s := fun {Q} h => by
    unfold setsByText
    refine wpAny_bind (wpAny_askSetting (wpAny_pure ?_))
    rw [show (⟨(model prog w).prog, (model prog w).w.params⟩ : Setting).params.followText "set-order" = true from hT]
    exact h
  refine wpAny_bind (by1 ?_)
  rw [if_pos rfl, if_neg (by simp)]
  unfold setWalk
  refine wpAny_bind (wpAny_bind (wpAny_setState_of ho hd hf ?_))
  dsimp only
  refine wpAny_bind (by1 ?_)
  rw [if_pos rfl]
  exact wpAny_bind (wpAny_askSetting (wpAny_pure (wpAny_pure h)))
theorem wp_nextL {Q : Option (Value × Nat) → Shared → Prop} {slot i : Nat} (hT : w.params.followText "set-order" = false) (hD : (!t.plain && decide (1 < es.size)) = false) (hl : t.led = true) (hS : SetIs s.heap a es ep t) (hf : t.fits es.size = true)
    (h : Q (match es[SetTable.below t.place slot]?, t.place[SetTable.below t.place slot]? with
      | some (_, x), some j => some (x, j + 1)
      | _, _ => none) s) : wpAny (model prog w) A (setNext a slot i ep) Q E s := by
  obtain ⟨o, ho, hex, hd⟩ := hS
  unfold setNext
  refine wpAny_bind (wpAny_setState_of ho hd hf ?_)
  dsimp only
  have by0 : ∀ {Q : Bool → Shared → Prop}, Q false s → wpAny (model prog w) A setsByText Q E s := fun {Q} h => by
    unfold setsByText
    refine wpAny_bind (wpAny_askSetting (wpAny_pure ?_))
    rw [show (⟨(model prog w).prog, (model prog w).w.params⟩ : Setting).params.followText "set-order" = false from hT]
    exact h
  refine wpAny_bind (by0 ?_)
  rw [if_neg Bool.false_ne_true]
  show wpAny _ _ (if (!t.plain && decide (1 < es.size)) = true then _ else _) _ _ _
  rw [hD, if_neg Bool.false_ne_true]
  refine wpAny_bind ?_
  show wpAny _ _ (if (!t.led && !es.isEmpty) = true then _ else _) _ _ _
  rw [hl, if_neg (by simp)]
  exact wpAny_pure (wpAny_pure h)
theorem up_self {o : Obj} {vs : Array Value} (k : Nat) (x : Value) (ho : s.heap.get? I = some o) (hd : o.data = .fields vs) : (s.heap.update I (Obj.mapFields (·.setIfInBounds k x))).get? I = some (Obj.mapFields (·.setIfInBounds k x) o) := Heap.get?_update_self _ ho (Obj.isFreed_of_fields (Obj.data_mapFields hd _))
theorem nx_item {Q : Option Value → Shared → Prop} {slot slot' i : Nat} {x : Value} (hit : ItAt s.heap I a (.int slot 0) i es.size ep) (hS : SetIs s.heap a es ep t) (hf : t.fits es.size = true)
    (hn : ∀ {E' : Value → Shared → Prop} {Q' : Option (Value × Nat) → Shared → Prop}, Q' (some (x, slot')) s → wpAny (model prog w) A.in1 (setNext a slot i ep) Q' E' s)
    (hQ : ∀ h', ItAt h' I a (.int slot' 0) (i + 1) es.size ep → Heap.SameBut I s.heap h' → Q (some x) { s with heap := h' }) : wpAny (model prog w) A (pyNext (.ref I)) Q E s := by
  obtain ⟨o, ho, hc, hd⟩ := id hit
  obtain ⟨os, hos, hex, hds⟩ := id hS
  unfold pyNext
  refine wpAny_bind (wpAny_attempt (wpAny_callSpecial?_slot (name := Str.ofString "__next__") hit.typeIs sl_sin (wpAny_call_entry sl_sin hit.typeIs en_sin ?_ (ar_sin _))))
  unfold Builtin.«set_iterator.__next__»
  refine wpAny_bind (wpAny_pure ?_)
  refine wpAny_bind (wpAny_fieldsOf ho hd ?_)
  dsimp only
  refine wpAny_bind (wpAny_setEntries_of hos hds hf ?_)
  rw [if_neg (by simp)]
  refine wpAny_bind ?_
  rw [Int.toNat_natCast, Int.toNat_natCast, Int.toNat_natCast]
  refine hn ?_
  dsimp only
  refine wpAny_bind (wpAny_setField ho hd (by simp) ?_)
  have h1 := up_self (s := s) 0 (rawInt (slot' : Int)) ho hd
  refine wpAny_bind (wpAny_setField h1 (Obj.data_mapFields hd _) (by simp) ?_)
  have h2 := up_self (s := { s with heap := s.heap.update I (Obj.mapFields (·.setIfInBounds 0 (rawInt (slot' : Int)))) }) 1 (rawInt ((i : Int) + 1)) h1 (Obj.data_mapFields hd _)
  refine wpAny_pure ⟨_, rfl, ?_⟩
  refine wpAny_pure (hQ _ ⟨_, h2, (Obj.cls_mapFields ..).trans ((Obj.cls_mapFields ..).trans hc), ?_⟩ ((Heap.SameBut.update ..).trans (Heap.SameBut.update ..)))
  rw [Obj.data_mapFields (Obj.data_mapFields hd _)]
  simp [rawInt]
end
end My
namespace My
open PySem PySem.Spec PyProof.Rows L2 PyProof
section
variable {prog : Program} {w : World} {A : Around} {E : Value → Shared → Prop} {s : Shared} {I a : Addr} {es : Array (Int × Value)} {ep : Nat} {t : SetTable}
theorem stop_end {Q : Option Value → Shared → Prop} (hh : A.handled = none) (hQ : ∀ h', (∀ b o, s.heap.get? b = some o → h'.get? b = some o) → Q none { s with heap := h' }) :
    wpAny (model prog w) A.in1 (newExc (.type "StopIteration") [] >>= fun e => raiseNew e) (fun (fin : Fin) s' => ∃ v, fin = .done (.ret v) ∧ wpAny (model prog w) A (pure (some v)) Q E s')
      (fun e s' => wpAny (model prog w) A (do if ← isInstance e (.type "StopIteration") then pure none else throw e) Q E s') s := by
  refine wpAny_bind ?_
  simp only [newExc, newTuple]
  refine wpAny_bind (wpAny_newObj_type ?_ (by size_fits))
  refine wpAny_bind (m := firstArgMember _ _) (wpAny_of_eq (a := Value.none) (by first | rfl | (simp only [firstArgMember]; rfl)) ?_)
  refine wpAny_newObj_type ?_ (by size_fits)
  simp only [raiseNew]
  refine wpAny_bind (wpAny_handled ?_)
  rw [show A.in1.handled = none from hh]
  refine wpAny_bind (wpAny_pure (wpAny_throw ?_))
  refine wpAny_bind (wpAny_isInstance (T := "StopIteration") (b := true) ⟨_, Heap.get?_push_size _ rfl, rfl⟩ isSubtype_stop ?_)
  exact wpAny_pure (hQ _ fun b o e => Heap.get?_push_of_some _ (Heap.get?_push_of_some _ e))
theorem nx_end {Q : Option Value → Shared → Prop} {slot i : Nat} (hh : A.handled = none) (hit : ItAt s.heap I a (.int slot 0) i es.size ep) (hS : SetIs s.heap a es ep t) (hf : t.fits es.size = true)
    (hn : ∀ {E' : Value → Shared → Prop} {Q' : Option (Value × Nat) → Shared → Prop}, Q' none s → wpAny (model prog w) A.in1 (setNext a slot i ep) Q' E' s)
    (hQ : ∀ h', (∀ b o, b ≠ I → s.heap.get? b = some o → h'.get? b = some o) → Q none { s with heap := h' }) : wpAny (model prog w) A (pyNext (.ref I)) Q E s := by
  obtain ⟨o, ho, hc, hd⟩ := id hit
  obtain ⟨os, hos, hex, hds⟩ := id hS
  unfold pyNext
  refine wpAny_bind (wpAny_attempt (wpAny_callSpecial?_slot (name := Str.ofString "__next__") hit.typeIs sl_sin (wpAny_call_entry sl_sin hit.typeIs en_sin ?_ (ar_sin _))))
  unfold Builtin.«set_iterator.__next__»
  refine wpAny_bind (wpAny_pure ?_)
  refine wpAny_bind (wpAny_fieldsOf ho hd ?_)
  dsimp only
  refine wpAny_bind (wpAny_setEntries_of hos hds hf ?_)
  rw [if_neg (by simp)]
  refine wpAny_bind ?_
  rw [Int.toNat_natCast, Int.toNat_natCast, Int.toNat_natCast]
  refine hn ?_
  dsimp only
  refine wpAny_bind (wpAny_setField ho hd (by simp) ?_)
  exact stop_end (s := { s with heap := s.heap.update I (Obj.mapFields (·.setIfInBounds 2 Value.none)) }) hh fun h' k => hQ h' fun b o hb e => k b o ((Heap.get?_update_other _ _ (Ne.symm hb)).trans e)
theorem nd_item {Q : Option Value → Shared → Prop} {T : Addr} {ps : List Nat} {i p : Nat} {e : Int × Value} (hit : ItAt s.heap I a (.ref T) i es.size ep) (hS : SetIs s.heap a es ep t) (hf : t.fits es.size = true)
    {oT : Obj} {c : Nat} (hT : s.heap.get? T = some oT) (hdT : oT.data = .seq (ps.map fun (k : Nat) => rawInt k).toArray c) (hp : ps[i]? = some p) (he : es[p]? = some e)
    (hQ : ∀ h', ItAt h' I a (.ref T) (i + 1) es.size ep → Heap.SameBut I s.heap h' → Q (some e.2) { s with heap := h' }) : wpAny (model prog w) A (pyNext (.ref I)) Q E s := by
  obtain ⟨o, ho, hc, hd⟩ := id hit
  obtain ⟨os, hos, hex, hds⟩ := id hS
  unfold pyNext
  refine wpAny_bind (wpAny_attempt (wpAny_callSpecial?_slot (name := Str.ofString "__next__") hit.typeIs sl_sin (wpAny_call_entry sl_sin hit.typeIs en_sin ?_ (ar_sin _))))
  unfold Builtin.«set_iterator.__next__»
  refine wpAny_bind (wpAny_pure ?_)
  refine wpAny_bind (wpAny_fieldsOf ho hd ?_)
  dsimp only
  refine wpAny_bind (wpAny_setEntries_of hos hds hf ?_)
  rw [if_neg (by simp)]
  refine wpAny_bind (wpAny_seqItems hT hdT ?_)
  dsimp only
  have e1 : (ps.map fun (k : Nat) => rawInt k).toArray[(i : Int).toNat]? = some (.int p 0) := by
    rw [Int.toNat_natCast, List.getElem?_toArray, List.getElem?_map, hp]
    rfl
  rw [e1]
  dsimp only
  unfold setNextDrawn
  refine wpAny_bind (wpAny_bind (wpAny_setState_of hos hds hf ?_))
  dsimp only
  rw [Int.toNat_natCast, Int.toNat_natCast, if_neg (by simp), he]
  dsimp only
  refine wpAny_pure ?_
  refine wpAny_bind (wpAny_setField ho hd (by simp) ?_)
  have h1 := up_self (s := s) 1 (rawInt ((i : Int) + 1)) ho hd
  refine wpAny_pure ⟨_, rfl, ?_⟩
  refine wpAny_pure (hQ _ ⟨_, h1, (Obj.cls_mapFields ..).trans hc, ?_⟩ (Heap.SameBut.update ..))
  rw [Obj.data_mapFields hd]
  simp [rawInt]
theorem nd_end {Q : Option Value → Shared → Prop} {T : Addr} {ps : List Nat} {i : Nat} (hh : A.handled = none) (hit : ItAt s.heap I a (.ref T) i es.size ep) (hS : SetIs s.heap a es ep t) (hf : t.fits es.size = true)
    {oT : Obj} {c : Nat} (hT : s.heap.get? T = some oT) (hdT : oT.data = .seq (ps.map fun (k : Nat) => rawInt k).toArray c) (hp : ps[i]? = none)
    (hQ : ∀ h', (∀ b o, b ≠ I → s.heap.get? b = some o → h'.get? b = some o) → Q none { s with heap := h' }) : wpAny (model prog w) A (pyNext (.ref I)) Q E s := by
  obtain ⟨o, ho, hc, hd⟩ := id hit
  obtain ⟨os, hos, hex, hds⟩ := id hS
  unfold pyNext
  refine wpAny_bind (wpAny_attempt (wpAny_callSpecial?_slot (name := Str.ofString "__next__") hit.typeIs sl_sin (wpAny_call_entry sl_sin hit.typeIs en_sin ?_ (ar_sin _))))
  unfold Builtin.«set_iterator.__next__»
  refine wpAny_bind (wpAny_pure ?_)
  refine wpAny_bind (wpAny_fieldsOf ho hd ?_)
  dsimp only
  refine wpAny_bind (wpAny_setEntries_of hos hds hf ?_)
  rw [if_neg (by simp)]
  refine wpAny_bind (wpAny_seqItems hT hdT ?_)
  dsimp only
  have e1 : (ps.map fun (k : Nat) => rawInt k).toArray[(i : Int).toNat]? = none := by
    rw [Int.toNat_natCast, List.getElem?_toArray, List.getElem?_map, hp]
    rfl
  rw [e1]
  dsimp only
  refine wpAny_bind (wpAny_setField ho hd (by simp) ?_)
  have h1 := up_self (s := s) 0 (rawInt 0) ho hd
  refine wpAny_bind (wpAny_setField h1 (Obj.data_mapFields hd _) (by simp) ?_)
  refine stop_end (s := { s with heap := (s.heap.update I (Obj.mapFields (·.setIfInBounds 0 (rawInt 0)))).update I (Obj.mapFields (·.setIfInBounds 2 Value.none)) }) hh fun h' k => hQ h' fun b o hb e => k b o ?_
  exact (Heap.get?_update_other _ _ (Ne.symm hb)).trans ((Heap.get?_update_other _ _ (Ne.symm hb)).trans e)
theorem nx_self {Q : Value → Shared → Prop} {v : Value} {i n : Nat} (hit : ItAt s.heap I a v i n ep) (h : Q (.ref I) s) : wpAny (model prog w) A (pyIter (.ref I)) Q E s := by
  refine wpAny_pyIter_slot hit.typeIs sl_sii (wpAny_call_entry sl_sii hit.typeIs en_sii ?_ (ar_sii _))
  show wpAny _ _ (ret (.ref I)) _ _ s
  exact wpAny_pure ⟨_, rfl, "set_iterator", _, hit.typeIs, sl_sin.lookup, h⟩
end
end My
namespace My
open PySem PySem.Spec PyProof.Rows L2 PyProof
section
variable {prog : Program} {w : World} {A : Around} {E : Value → Shared → Prop} {s : Shared} {I a : Addr} {es : Array (Int × Value)} {ep : Nat} {t : SetTable}
noncomputable def NumAt (ms : List Int) (i : Nat) (v : Value) : Prop := ∃ n t, ms[i]? = some n ∧ v = Value.int n t
theorem el_at (hel : ElemsOf (intKind prog w) es.toList) {i : Nat} {e : Int × Value} (he : es[i]? = some e) : ∃ t, e.2 = .int (keyI e) t := elem_int (hel _ (List.mem_of_getElem? (by rw [Array.getElem?_toList]; exact he)))
theorem walk_T (hT : w.params.followText "set-order" = true) (hh : A.handled = none) (hne : a ≠ I) (hf : t.fits es.size = true) (hel : ElemsOf (intKind prog w) es.toList) :
    Walks prog w A I [I, a] [I] es.size (NumAt ((pickOrder (w.params.setOrder a ep) es).toList.map keyI)) (fun i h => ItAt h I a (.int 0 0) i es.size ep ∧ SetIs h a es ep t) where
  sub := fun b hb => by simp at hb; simp [hb]
  frame := fun _ _ _ st hk => ⟨st.1.keep fun o e => hk I (by simp) o e, st.2.keep fun o e => hk a (by simp) o e⟩
  item := fun i s Q E hi st hQ => by
    have hp := pick_perm (w.params.setOrder a ep) es
    have hsz : (pickOrder (w.params.setOrder a ep) es).size = es.size := by rw [← Array.length_toList, hp.length_eq, Array.length_toList]
    have hx : (pickOrder (w.params.setOrder a ep) es)[i]? = some (pickOrder (w.params.setOrder a ep) es)[i] := Array.getElem?_eq_getElem (by omega)
    obtain ⟨tk, ht⟩ := elem_int (hel _ (hp.mem_iff.mp (List.mem_of_getElem? (by rw [Array.getElem?_toList]; exact hx))))
    refine nx_item (slot' := 0) st.1 st.2 hf (fun h => wp_nextT hT st.2 hf (by rw [hx]; exact h)) fun h' it sb => hQ _ h' s.toks ⟨_, tk, by rw [List.getElem?_map, Array.getElem?_toList, hx]; rfl, ht⟩ ⟨it, st.2.keep fun o e => (sb.2 _ hne).trans e⟩ fun b o hb e => (sb.2 b (by simpa using hb)).trans e
  done := fun s Q E st hQ => by
    have hp := pick_perm (w.params.setOrder a ep) es
    have hsz : (pickOrder (w.params.setOrder a ep) es).size = es.size := by rw [← Array.length_toList, hp.length_eq, Array.length_toList]
    have hx : (pickOrder (w.params.setOrder a ep) es)[es.size]? = none := Array.getElem?_eq_none (by omega)
    exact nx_end hh st.1 st.2 hf (fun h => wp_nextT hT st.2 hf (by rw [hx]; exact h)) fun h' k => hQ h' s.toks fun b o hb e => k b o (by simpa using hb) e
  self := fun _ _ _ _ st hQ => nx_self st.1 hQ
theorem walk_L (hT : w.params.followText "set-order" = false) (hD : (!t.plain && decide (1 < es.size)) = false) (hl : t.led = true) (ht : TOk t) (hps : t.place.size = es.size) (hh : A.handled = none) (hne : a ≠ I) (hf : t.fits es.size = true) (hel : ElemsOf (intKind prog w) es.toList) :
    Walks prog w A I [I, a] [I] es.size (NumAt (es.toList.map keyI)) (fun i h => ItAt h I a (.int (slotAt t.place i) 0) i es.size ep ∧ SetIs h a es ep t) where
  sub := fun b hb => by simp at hb; simp [hb]
  frame := fun _ _ _ st hk => ⟨st.1.keep fun o e => hk I (by simp) o e, st.2.keep fun o e => hk a (by simp) o e⟩
  item := fun i s Q E hi st hQ => by
    have hb := slot_below ht.up (i := i) (by omega)
    have hx : es[i]? = some es[i] := Array.getElem?_eq_getElem hi
    have hy : t.place[i]? = some (t.place[i]'(by omega)) := Array.getElem?_eq_getElem (by omega)
    have hy2 : t.place[i]'(by omega) + 1 = slotAt t.place (i + 1) := by
      show _ = t.place.getD i 0 + 1
      simp [Array.getD, show i < t.place.size by omega]
    obtain ⟨tk, htk⟩ := el_at hel hx
    refine nx_item (slot' := slotAt t.place (i + 1)) st.1 st.2 hf (fun h => wp_nextL hT hD hl st.2 hf (by rw [hb, hx, hy]; dsimp only; rw [hy2]; exact h)) fun h' it sb => hQ _ h' s.toks ⟨_, tk, by rw [List.getElem?_map, Array.getElem?_toList, hx]; rfl, htk⟩ ⟨it, st.2.keep fun o e => (sb.2 _ hne).trans e⟩ fun b o hb e => (sb.2 b (by simpa using hb)).trans e
  done := fun s Q E st hQ => by
    have hb := slot_below ht.up (i := es.size) (by omega)
    have hx : es[es.size]? = none := Array.getElem?_eq_none (Nat.le_refl _)
    exact nx_end hh st.1 st.2 hf (fun h => wp_nextL hT hD hl st.2 hf (by rw [hb, hx]; exact h)) fun h' k => hQ h' s.toks fun b o hb e => k b o (by simpa using hb) e
  self := fun _ _ _ _ st hQ => nx_self st.1 hQ
noncomputable def TupIs (h : Heap) (T : Addr) (ps : List Nat) : Prop := ∃ o c, h.get? T = some o ∧ o.data = .seq (ps.map fun (k : Nat) => rawInt k).toArray c
noncomputable def drawnAs (es : Array (Int × Value)) (ps : List Nat) : List Int := ps.map fun p => keyI (es.getD p (0, .none))
theorem drawn_perm {ps : List Nat} (hp : ps.Perm (List.range es.size)) : (drawnAs es ps).Perm (es.toList.map keyI) := by
  refine (hp.map _).trans ?_
  have : (List.range es.size).map (fun p => keyI (es.getD p (0, .none))) = es.toList.map keyI := by
    apply List.ext_getElem
    · simp
    · intro i h1 h2
      have hi : i < es.size := by simpa using h1
      simp [Array.getD, hi]
  rw [this]
theorem walk_D {T : Addr} {ps : List Nat} (hp : ps.Perm (List.range es.size)) (hh : A.handled = none) (hne : a ≠ I) (hTI : T ≠ I) (hf : t.fits es.size = true) (hel : ElemsOf (intKind prog w) es.toList) :
    Walks prog w A I [I, a, T] [I] es.size (NumAt (drawnAs es ps)) (fun i h => ItAt h I a (.ref T) i es.size ep ∧ SetIs h a es ep t ∧ TupIs h T ps) where
  sub := fun b hb => by simp at hb; simp [hb]
  frame := fun _ _ _ st hk => ⟨st.1.keep fun o e => hk I (by simp) o e, st.2.1.keep fun o e => hk a (by simp) o e, let ⟨o, c, ho, hd⟩ := st.2.2; ⟨o, c, hk T (by simp) o ho, hd⟩⟩
  item := fun i s Q E hi st hQ => by
    have hl : ps.length = es.size := by rw [hp.length_eq, List.length_range]
    have hx : ps[i]? = some (ps[i]'(by omega)) := List.getElem?_eq_getElem (by omega)
    have hm : ps[i]'(by omega) < es.size := List.mem_range.mp (hp.mem_iff.mp (List.mem_of_getElem? hx))
    have he : es[ps[i]'(by omega)]? = some (es[ps[i]'(by omega)]'hm) := Array.getElem?_eq_getElem hm
    obtain ⟨tk, htk⟩ := el_at hel he
    obtain ⟨o, c, ho, hd⟩ := id st.2.2
    refine nd_item st.1 st.2.1 hf ho hd hx he fun h' it sb => hQ _ h' s.toks ⟨_, tk, ?_, htk⟩ ⟨it, st.2.1.keep fun o e => (sb.2 _ hne).trans e, ⟨o, c, (sb.2 _ hTI).trans ho, hd⟩⟩ fun b o hb e => (sb.2 b (by simpa using hb)).trans e
    unfold drawnAs
    rw [List.getElem?_map, hx]
    simp [Array.getD, hm]
  done := fun s Q E st hQ => by
    have hl : ps.length = es.size := by rw [hp.length_eq, List.length_range]
    obtain ⟨o, c, ho, hd⟩ := id st.2.2
    exact nd_end hh st.1 st.2.1 hf ho hd (List.getElem?_eq_none (by omega)) fun h' k => hQ h' s.toks fun b o hb e => k b o (by simpa using hb) e
  self := fun _ _ _ _ st hQ => nx_self st.1 hQ
theorem fits_place {n : Nat} (h : t.fits n = true) : t.place.size = n := by
  unfold SetTable.fits at h
  simp at h
  exact h.1
theorem iter_g {ks : List Int} {led : Bool} {Q : Value → Shared → Prop} (hh : A.handled = none) (hG : SetG prog w s.heap a ks led) (hled : led = !w.params.followText "set-order")
    (h : ∀ (I : Addr) (h' : Heap) (d : Drawn) (fp : List Addr) (St : Nat → Heap → Prop) (ms : List Int), s.heap.objs.size ≤ I → (∀ b ∈ fp, b = a ∨ s.heap.objs.size ≤ b) → (∀ b o, s.heap.get? b = some o → h'.get? b = some o) → ms.Perm ks →
      Walks prog w A I fp [I] ms.length (NumAt ms) St → St 0 h' → Q (.ref I) { s with heap := h', drawn := d }) : wpAny (model prog w) A (pyIter (.ref a)) Q E s := by
  obtain ⟨o, es, ep, t, ho, hex, hd, hel, hb, hf, ht, hl, hp⟩ := hG
  have hT : s.TypeIs (.ref a) "set" := ⟨o, ho, hex.1⟩
  have ha : a < s.heap.objs.size := Heap.lt_size ho
  have hsl : es.size ≤ sizeLine := Nat.le_trans (Nat.le_of_lt hb) (by decide)
  refine wpAny_pyIter_slot hT PySem.F.slot_set_iter (wpAny_call_entry PySem.F.slot_set_iter hT en_si ?_ (PySem.F.args_set_iter_1 _))
  unfold Builtin.«frozenset.__iter__» Builtin.Frozenset.slot0 slotArgs
  simp only [List.isEmpty_nil, Bool.not_true, Bool.false_eq_true, ↓reduceIte, bind_assoc, List.length_nil, bne_self_eq_false]
  unfold Builtin.Frozenset.addrOf Builtin.Frozenset.sizeOf
  refine wpAny_bind (wpAny_pure ?_)
  try dsimp only
  refine wpAny_bind (wpAny_pure ?_)
  refine wpAny_bind (wpAny_bind (wpAny_setEntries_of ho hd hf (wpAny_pure ?_)))
  refine wpAny_bind (wp_drawnOf ⟨o, ho, hex, hd⟩ hf ?_)
  have hpl := fits_place hf
  have sz0 : (es.toList.map keyI).length = es.size := by simp
  have hkeep : ∀ oI : Obj, ∀ b o', s.heap.get? b = some o' → (s.heap.push oI).get? b = some o' := fun oI b o' e => Heap.get?_push_of_some _ e
  have hpt : ∀ b ∈ [s.heap.objs.size, a], b = a ∨ s.heap.objs.size ≤ b := fun b hb => by
    rcases List.mem_cons.mp hb with z | z
    · exact .inr (by omega)
    · exact .inl (List.mem_singleton.mp z)
  cases hT0 : w.params.followText "set-order" with
  | true =>
    rw [show (!true && (!t.plain && decide (1 < es.size))) = false from rfl, if_neg Bool.false_ne_true]
    refine wpAny_bind (wpAny_pure ?_)
    refine wpAny_bind (wpAny_setEpoch_of ho hd hf ?_)
    refine wpAny_bind (wpAny_newObj_type ?_)
    refine wpAny_pure ⟨_, rfl, "set_iterator", _, ⟨_, Heap.get?_push_size _ rfl, rfl⟩, sl_sin.lookup, ?_⟩
    have hpp := pick_perm (w.params.setOrder a ep) es
    have hW := walk_T (prog := prog) (A := A) (I := s.heap.objs.size) (a := a) (ep := ep) hT0 hh (Nat.ne_of_lt ha) hf hel
    have hlen : ((pickOrder (w.params.setOrder a ep) es).toList.map keyI).length = es.size := by rw [List.length_map, hpp.length_eq, Array.length_toList]
    rw [← hlen] at hW
    exact h s.heap.objs.size _ s.drawn _ _ _ (Nat.le_refl _) hpt (hkeep _) ((hpp.map keyI).trans hp) hW ⟨⟨_, Heap.get?_push_size _ rfl, rfl, by rw [hlen]; rfl⟩, ⟨o, Heap.get?_push_of_some _ ho, hex, hd⟩⟩
  | false =>
    have hl1 : t.led = true := by rw [hl, hled, hT0]; rfl
    cases hD : (!t.plain && decide (1 < es.size)) with
    | true =>
      rw [if_pos (show (!false && true) = true from rfl)]
      refine wpAny_bind (wp_draw _ _ _ _ (by simp) fun ps d hps => ?_)
      have hps1 : ps.length = es.size := by rw [hps.length_eq, List.length_range]
      refine wpAny_bind (wpAny_newTuple ?_ (by rw [List.length_map, hps1]; exact hsl))
      have ho1 : (s.heap.push { cls := .type "tuple", data := .seq (ps.map fun (k : Nat) => rawInt k).toArray }).get? a = some o := Heap.get?_push_of_some _ ho
      refine wpAny_bind (wpAny_setEpoch_of ho1 hd hf ?_)
      refine wpAny_bind (wpAny_newObj_type ?_)
      refine wpAny_pure ⟨_, rfl, "set_iterator", _, ⟨_, Heap.get?_push_size _ rfl, rfl⟩, sl_sin.lookup, ?_⟩
      have hW := walk_D (prog := prog) (w := w) (A := A) (I := (s.heap.push { cls := .type "tuple", data := .seq (ps.map fun (k : Nat) => rawInt k).toArray }).objs.size) (a := a) (ep := ep) (T := s.heap.objs.size) hps hh (by rw [size_push']; exact Nat.ne_of_lt (Nat.lt_succ_of_lt ha)) (by rw [size_push']; exact Nat.ne_of_lt (Nat.lt_succ_self _)) hf hel
      have hlen : (drawnAs es ps).length = es.size := by rw [drawnAs, List.length_map, hps1]
      rw [← hlen] at hW
      refine h _ _ d _ _ _ (by rw [size_push']; exact Nat.le_succ _) (fun b hb => ?_) (fun b o' e => Heap.get?_push_of_some _ (Heap.get?_push_of_some _ e)) ((drawn_perm hps).trans hp) hW ⟨⟨_, Heap.get?_push_size _ rfl, rfl, by rw [hlen]; rfl⟩, ⟨o, Heap.get?_push_of_some _ ho1, hex, hd⟩, ⟨_, 0, Heap.get?_push_of_some _ (Heap.get?_push_size _ rfl), rfl⟩⟩
      rcases List.mem_cons.mp hb with z | z
      · exact .inr (by rw [z, size_push']; exact Nat.le_succ _)
      · rcases List.mem_cons.mp z with z | z
        · exact .inl z
        · exact .inr (by rw [List.mem_singleton.mp z]; exact Nat.le_refl _)
    | false =>
      rw [if_neg (by simp)]
      refine wpAny_bind (wpAny_pure ?_)
      refine wpAny_bind (wpAny_setEpoch_of ho hd hf ?_)
      refine wpAny_bind (wpAny_newObj_type ?_)
      refine wpAny_pure ⟨_, rfl, "set_iterator", _, ⟨_, Heap.get?_push_size _ rfl, rfl⟩, sl_sin.lookup, ?_⟩
      have hW := walk_L (prog := prog) (A := A) (I := s.heap.objs.size) (a := a) (ep := ep) hT0 hD hl1 ht hpl hh (Nat.ne_of_lt ha) hf hel
      rw [← sz0] at hW
      exact h s.heap.objs.size _ s.drawn _ _ _ (Nat.le_refl _) hpt (hkeep _) hp hW ⟨⟨_, Heap.get?_push_size _ rfl, rfl, by rw [sz0]; rfl⟩, ⟨o, Heap.get?_push_of_some _ ho, hex, hd⟩⟩
end
end My
namespace My
open PySem PySem.Spec PyProof.Rows L2 PyProof
section
variable {prog : Program} {w : World} {A : Around} {E : Value → Shared → Prop} {s : Shared} {a : Addr} {ks : List Int} {led : Bool}
theorem SetG.typeIs (x : SetG prog w s.heap a ks led) : s.TypeIs (.ref a) "set" := let ⟨o, _, _, _, ho, hex, _⟩ := x; ⟨o, ho, hex.1⟩
theorem hint_g {Q : Bool → Shared → Prop} (hT : s.TypeIs (.ref a) "set") (h : Q false s) : wpAny (model prog w) A (Builtin.List.listLengthHint (.ref a)) Q E s := by
  unfold Builtin.List.listLengthHint; refine wpAny_bind (wpAny_specialOf hT PySem.F.slot_set_len.lookup ?_)
  generalize hid : ("set.__len__" : String) = id0
  wp_delta
  rw [show splitId id0 = some ("set", "__len__") from by subst hid; decide +kernel]
  subst hid; refine wpAny_bind (wpAny_isInstance (T := "set") (b := true) hT (by rw [isSubtype_type]; kernel_rfl) ?_)
  refine wpAny_ite_split (fun z => absurd z (by decide)) (fun _ => wpAny_ite_split (fun _ => ?_) (fun z => absurd (by decide +kernel) z))
  exact wpAny_bind (wpAny_typeOf hT (wpAny_pure h))
theorem ext_g {R : Result → Shared → Prop} (hh : A.handled = none) (hG : SetG prog w s.heap a ks led) (hled : led = !w.params.followText "set-order") (hn : ks.length ≤ sizeLine) {L : Addr} (hLa : L ≠ a) {res : Value} {c₀ : Nat} (hL : s.heap.get? L = some { cls := .type "list", data := .seq #[] c₀ })
    (hR : ∀ (h' : Heap) (tk : Nat) (d : Drawn) (acc : Array Value) (c : Nat) (ms : List Int), (∀ b o, b ≠ L → s.heap.get? b = some o → h'.get? b = some o) → h'.get? L = some { cls := .type "list", dict := none, data := .seq acc c, slots := #[] } → ms.Perm ks → ItemsOf (NumAt ms) acc ms.length → R (.ok (.ret res)) { s with heap := h', toks := tk, drawn := d }) :
    wpAny (model prog w) A.in1 (Builtin.List.listExtendWith (.ref L) (.ref a) res) (fun fin s' => match fin with
      | .done f => R (.ok f) s'
      | .again c' => c'.quiet = true ∧ codeAny (model prog w) A c' R s') (fun e s' => R (.error e) s') s := by
  have hLlt : L < s.heap.objs.size := Heap.lt_size hL
  unfold Builtin.List.listExtendWith
  refine wpAny_bind (wpAny_typeOf (T := "set") hG.typeIs ?_)
  have h1 : Builtin.List.listSameRef (.ref L) (.ref a) = false := by simp [Builtin.List.listSameRef, hLa]
  have n1 : (Value.type "set" == Value.type "list") = false := by decide
  have n2 : (Value.type "set" == Value.type "tuple") = false := by decide
  simp only [h1, n1, n2, Bool.or_false, Bool.false_eq_true, if_false]
  refine wpAny_bind (iter_g (A := A.in1) hh hG hled fun I h' d fp St ms hI hfp hk hp W st => ?_)
  have hms : ms.length ≤ sizeLine := by rw [hp.length_eq]; exact hn
  have hLf : L ∉ fp := fun z => by
    rcases hfp L z with e | e
    · exact hLa e
    · exact absurd e (Nat.not_le_of_lt hLlt)
  have key : ∀ (hx : Heap) (c₁ tk : Nat), St 0 hx → (∀ b o, b ≠ L → s.heap.get? b = some o → hx.get? b = some o) → hx.get? L = some { cls := .type "list", data := .seq #[] c₁ } →
      codeAny (model prog w) A (.builtin "list.extend.loop" ⟨[.ref L, .ref I, res], []⟩) R { s with heap := hx, toks := tk, drawn := d } := fun hx c₁ tk st1 kx hL1 => by
    refine codeAny_extend_loopS W.toS hms L hLf res ms.length 0 _ #[] c₁ rfl (Nat.zero_le _) st1 hL1 (ItemsOf.nil _) fun s2 acc c2 mv hL2 hacc => ?_
    rw [Moved.eq_with mv]
    refine hR s2.heap s2.toks d acc c2 ms (fun b o hb e => mv.heap b o (fun z => ?_) (kx b o hb e)) hL2 hp hacc
    rcases List.mem_cons.mp z with e' | e'
    · exact hb e'
    · have := Heap.lt_size e
      rw [List.mem_singleton.mp e'] at this
      exact absurd hI (Nat.not_le_of_lt this)
  have hL1 := hk _ _ hL
  refine wpAny_bind (wpAny_holding (hint_g (hG.keep fun o e => hk _ _ e).typeIs ?_))
  refine wpAny_ite_split (fun _ => ?_) (fun _ => wpAny_pure ⟨plainId_quiet PySem.F.plain_extend_loop _, key _ c₀ _ st (fun b o _ e => hk b o e) hL1⟩)
  refine wpAny_bind (wpAny_rule (wpAny_bind ?_))
  show wpAny _ _ (updateSeq L (·.push .none) >>= fun _ => updateSeq L (·.pop)) _ _ _
  refine wpAny_bind (wpAny_updateSeq hL1 rfl ?_)
  have hL2 := Heap.get?_update_self (Obj.mapSeq (·.push Value.none)) hL1 rfl
  refine wpAny_updateSeq (hz := by seq_fits) hL2 rfl ?_
  have hL3 := Heap.get?_update_self (Obj.mapSeq (·.pop)) hL2 rfl
  have oth : ∀ b o, b ≠ L → h'.get? b = some o → ((h'.update L (Obj.mapSeq (·.push Value.none))).update L (Obj.mapSeq (·.pop))).get? b = some o := fun b o hb e => (Heap.get?_update_other _ _ (Ne.symm hb)).trans ((Heap.get?_update_other _ _ (Ne.symm hb)).trans e)
  exact wpAny_pure ⟨plainId_quiet PySem.F.plain_extend_loop _, key _ _ _ (W.frame 0 _ _ st fun b hb o e => oth b o (fun z => hLf (z ▸ hb)) e) (fun b o hb e => oth b o hb (hk b o e)) hL3⟩
theorem collect_g {R : List Value → Shared → Prop} (hh : A.handled = none) (hG : SetG prog w s.heap a ks led) (hled : led = !w.params.followText "set-order") (hn : ks.length ≤ sizeLine)
    (h : ∀ (h' : Heap) (tk : Nat) (d : Drawn) (acc : Array Value) (ms : List Int), (∀ b o, s.heap.get? b = some o → h'.get? b = some o) → ms.Perm ks → ItemsOf (NumAt ms) acc ms.length → R acc.toList { s with heap := h', toks := tk, drawn := d }) :
    wpAny (model prog w) A (collect (.ref a)) R E s := by
  have ha : a < s.heap.objs.size := by obtain ⟨o, _, _, _, ho, _⟩ := hG; exact Heap.lt_size ho
  unfold collect
  refine wpAny_bind (wpAny_runValue (codeAny_builtin PyProof.Rows.entry_proto_collect' ?_))
  rw [Around.under_plainId PySem.F.plain_proto_collect _]
  show wpAny _ A.in1 (newList [] >>= fun l => again (.builtin "list.__iadd__" ⟨[l, .ref a], []⟩)) _ _ s
  refine wpAny_bind (wpAny_newObj_type (wpAny_pure ⟨plainId_quiet PySem.F.plain_list_iadd _, codeAny_builtin PyProof.Rows.entry_list_iadd' ?_⟩))
  rw [Around.under_plainId PySem.F.plain_list_iadd _]
  have hL : (s.heap.push { cls := .type "list", data := .seq ([] : List Value).toArray }).get? s.heap.objs.size = some { cls := .type "list", data := .seq #[] } := Heap.get?_push_size _ rfl
  show wpAny _ A.in1 (Builtin.List.listExtendWith (.ref s.heap.objs.size) (.ref a) (.ref s.heap.objs.size)) _ _ _
  have key := ext_g (A := A) (s := { s with heap := s.heap.push { cls := .type "list", data := .seq ([] : List Value).toArray } }) (L := s.heap.objs.size) (res := .ref s.heap.objs.size)
    (R := fun (q : Result) (s' : Shared) => ∃ (h' : Heap) (tk : Nat) (d : Drawn) (acc : Array Value) (c : Nat) (ms : List Int), q = .ok (.ret (.ref s.heap.objs.size)) ∧ s' = { s with heap := h', toks := tk, drawn := d } ∧ (∀ b o, s.heap.get? b = some o → h'.get? b = some o) ∧
      h'.get? s.heap.objs.size = some { cls := .type "list", dict := none, data := .seq acc c, slots := #[] } ∧ ms.Perm ks ∧ ItemsOf (NumAt ms) acc ms.length)
    hh (hG.keep fun o e => Heap.get?_push_of_some _ e) hled hn (Nat.ne_of_gt ha) hL
    (fun h' tk d acc c ms k hL' hp hacc => ⟨h', tk, d, acc, c, ms, rfl, rfl, fun b o e => k b o (Nat.ne_of_lt (Heap.lt_size e)) (Heap.get?_push_of_some _ e), hL', hp, hacc⟩)
  refine wpAny_mono key (fun fin s' x => ?_) fun e s' x => ?_
  · cases fin with
    | done f =>
      obtain ⟨h', tk, d, acc, c, ms, e, rfl, k, hL', hp, hacc⟩ := x
      cases e; show wpAny _ A (load s.heap.objs.size >>= _) _ _ _
      exact wpAny_bind (wpAny_load hL' (wpAny_pure (h h' tk d acc ms k hp hacc)))
    | again c₁ =>
      refine ⟨x.1, codeAny_mono x.2 fun q s₂ y => ?_⟩
      obtain ⟨h', tk, d, acc, c, ms, rfl, rfl, k, hL', hp, hacc⟩ := y
      show wpAny _ A (load s.heap.objs.size >>= _) _ _ _
      exact wpAny_bind (wpAny_load hL' (wpAny_pure (h h' tk d acc ms k hp hacc)))
  · obtain ⟨_, _, _, _, _, _, e', _⟩ := x
    cases e'
end
theorem inv_drawn {X : Cx} {pins : List (Addr × Obj)} {σ : L2.St} {H : Hp} {s : Shared} (d : Drawn) (I : Inv X pins σ H s) : Inv X pins σ H { s with drawn := d } := ⟨I.ok, I.os, I.bare, I.base, I.loc, I.cell, I.free, I.freeC, I.pin, I.hok, I.len⟩
noncomputable def tSortSet (K : PySem.W.Frag) (t : TA) : TE := fun σ H Q => t σ H fun vs H1 => ∃ a ns, vs = [V.ref a] ∧ SqL K H1 a (ns.map V.int) ∧ ns.length < 4000 ∧ (dd ns).length < 64 ∧ ∀ l, H1 l = none → Q (.ref l) (upd H1 l (.lst ((risen (dd ns)).map V.int)))
theorem pe_sortSet {X : Cx} {K : PySem.W.Frag} {e : Expr} {t : TA} {p p2 pos pos2 : Pos} (hK : X.K = K) (hc : X.calm = true) (hgl : Gl X "sorted") (hml : X.mg "sorted" = none) (hg : Gl X "set") (hm : X.mg "set" = none) (ha : PA X [e] t)
    (hs : starEach [e] X.env = [(false, eval e X.env)] := by rfl) (hs2 : starEach [.Call (.Name "set" p2) [e] [] pos2] X.env = [(false, eval (.Call (.Name "set" p2) [e] [] pos2) X.env)] := by rfl) :
    PE X (.Call (.Name "sorted" p) [.Call (.Name "set" p2) [e] [] pos2] [] pos) (tSortSet K t) := by
  constructor; intro pins s σ H Q I h
  subst hK
  refine wpAny_Call_Name_kw (ld_blt I hgl hml PyProof.Rows.boot_sorted ?_ (by decide) (by decide))
  refine PyProof.Rows.callWith_builtin1 ?_ (by rw [hs2]; rfl) rfl
  rw [hs2]
  show wpAny _ _ (spliced ((false, eval (.Call (.Name "set" p2) [e] [] pos2) X.env) :: backTo pos [])) _ _ s
  refine Calls.spliced_cons ?_
  refine wpAny_Call_Name_kw (ld_blt I hg hm PyProof.Rows.boot_set (PyProof.Rows.callWith_type1 (thn (ha pos2 pins s σ H _ I h) fun us s1 ⟨vs, H1, I1, r1, q1⟩ => ?_) hs rfl) (by decide) (by decide))
  obtain ⟨l, ns, rfl, hx, h4, h64, q⟩ := q1
  obtain ⟨u, rfl, ru⟩ := vals1 r1
  cases ru
  obtain ⟨its, rv, pl, hz⟩ := I1.list hx
  have hlen := rv.length
  rw [List.length_map] at hlen
  refine call_set_g (I1.ok.hd hc) pl.isList hlen.symm (fun j u eu => ?_) (show ns.length + 1 < 4096 by omega) fun h' tk hG k => ?_
  · obtain ⟨x, hx1, rx⟩ := vals_get' rv eu
    rw [List.getElem?_map] at hx1
    cases en : ns[j]? with
    | none => rw [en] at hx1; cases hx1
    | some n =>
      rw [en] at hx1
      cases hx1
      obtain ⟨t, rfl⟩ := rx
      exact ⟨n, t, rfl, rfl⟩
  refine Calls.spliced_nil ?_
  have hsz : (dd ns).length ≤ sizeLine := Nat.le_trans (Nat.le_of_lt h64) (by decide)
  refine Calls.call_function_entry kind_sorted plain_sorted entry_sorted (args_sorted1 _) ?_
  unfold Builtin.«sorted»
  refine wpAny_bind (m := checkCount "sorted" 1 1 _) (wpAny_pure (wpAny_bind ?_))
  refine collect_g (s := { s1 with heap := h', toks := tk }) (I1.ok.hd hc) hG rfl hsz fun h2 tk2 d acc ms k2 hp hacc => ?_
  have hms : ms.length = (dd ns).length := hp.length_eq
  have hl : acc.toList.length = ms.length := by rw [Array.length_toList]; exact hacc.1
  have hI : IntsAre acc.toList ms := intsAre_of hl fun j v ev => hacc.2 j v (by rw [← Array.getElem?_toList]; exact ev)
  refine wpAny_bind (wpAny_newList ?_ (by rw [hl, hms]; exact hsz))
  have hoL : (h2.push { cls := .type "list", data := .seq acc.toList.toArray }).get? h2.objs.size = some (seqObj "list" acc.toList.toArray 0) := Heap.get?_push_size _ rfl
  refine wpAny_bind (wpAny_holding (wpAny_call_entry slot_list_sort ⟨_, hoL, rfl⟩ entry_list_sort (list_sort_tree hoL hI (by rw [hl, hms]; exact h64) fun out ns' a1 a2 a3 => ⟨_, rfl, ?_⟩) (args_list_sort _)))
  obtain ⟨ep', hat'⟩ := sortedHeap_at (out := out) hoL
  have en := risen_is (a2.trans hp) a3
  subst en
  have I2 : Inv X pins σ H1 { s1 with heap := h2, toks := tk2, drawn := d } := inv_drawn d (I1.kept (t' := tk2) (h' := h2) fun b o eb => k2 b o (k b o eb))
  have I3 := I2.laid (a := h2.objs.size) (o := .lst ((risen (dd ns)).map V.int)) (t' := tk2) (h' := sortedHeap (h2.push { cls := .type "list", data := .seq acc.toList.toArray }) h2.objs.size acc.toList out)
    (fun b v ev => by
      have hb : b < h2.objs.size := Heap.lt_size ev
      rw [sortedHeap_old (Nat.ne_of_lt hb) (by rw [size_push']; exact Nat.lt_succ_of_lt hb)]
      exact Heap.get?_push_of_some _ ev) (Nat.le_refl _)
    ⟨by rw [List.length_map, (risen_perm (dd ns)).length_eq]; exact hsz, out.toList, ep', ints_vals a1, by simpa [seqObj] using hat'⟩
  exact wpAny_pure ⟨_, rfl, .ref _, _, I3, rfl, q _ (I2.hok.fresh (Nat.le_refl _))⟩
end My
namespace My
open PySem PySem.Spec PyProof.Rows L2 PyProof
theorem dp_keys : typeLookup (.type "list") "keys" = pure none := by rw [typeLookup_type, builtinLookup_eq_fast]; exact (by kernel_rfl)
theorem dp_entry : entryFor table "dict.update.loop" = some Builtin.«dict.update.loop» := entryFor_of_tree (by kernel_rfl)
theorem dp_plain : plainId "dict.update.loop" = true := by decide +kernel
section
variable {prog : Program} {w : World} {A : Around} {E : Value → Shared → Prop} {s : Shared}
theorem no_keys {l : Addr} {its : Array Value} {Q : Option Value → Shared → Prop} (hL : PlainL s.heap l its) (hA : A.handled = none) (h : ∀ h' tk, (∀ b o, s.heap.get? b = some o → h'.get? b = some o) → Q none { s with heap := h', toks := tk }) : wpAny (model prog w) A (getAttr? (.ref l) "keys") Q E s := by
  obtain ⟨o, n, ho, hc, hd, hdat⟩ := hL
  obtain ⟨c, dct, dat, sl⟩ := o
  simp only at hc hdat hd
  subst hc hdat hd
  obtain ⟨hp, g, d, tk, os⟩ := s
  have hT : ∀ tk', (⟨hp, g, d, tk', os⟩ : Shared).TypeIs (.ref l) "list" := fun _ => ⟨_, ho, rfl⟩
  have f1 := sub_AttributeError
  have f3 := PySem.F.slot_list_getattribute.lookup
  have f4 := PySem.F.slot_list_getattribute.bind (.ref l)
  have f5 := am_list_getattr_none
  have hname : (["__module__", "__name__", "__qualname__", "__doc__", "__annotations__"] : List Str).contains "keys" = false := by decide +kernel
  unfold getAttr? getAttrBy? getAttrBy
  repeat (any_goals (first | assumption | exact hT _ | ((with_reducible show wpAny _ _ (call (Value.builtin "list.__getattribute__") _ _) _ _ _); refine call_meets PySem.F.slot_list_getattribute (hT _) am_entry_list_getattribute (PySem.F.args_list_getattribute_2 _ _) (meets_getattribute_miss_list l its n sl "keys" _ dp_keys hname (by decide +kernel)) ⟨ho, hA, fun h' tk' e hx' => ?_⟩) | wp_step))
  obtain ⟨t', u', he⟩ := hx'.there
  show wpAny _ _ (getattributeRaised _ _ _ _ _ _ _) _ _ _
  unfold getattributeRaised
  repeat (any_goals (first | assumption | wp_step))
  exact h _ _ hx'.keeps
theorem stored_len {K : Type} [DecidableEq K] (vs : List (K × Value)) (k : K) (v : Value) : (stored vs k v).length ≤ vs.length + 1 := by
  unfold stored
  split <;> simp
noncomputable def storedAll {K : Type} [DecidableEq K] (vs : List (K × Value)) (ps : List (K × Value)) : List (K × Value) := ps.foldl (fun a q => stored a q.1 q.2) vs
theorem dp_loop {R : Result → Shared → Prop} {I D l : Addr} {us : List Value} {ks : List (Key × Value)} (hh : A.handled = none) (hlI : l ≠ I) (hDI : D ≠ I) (hDl : D ≠ l) (hlen : us.length = ks.length) (hsz : ks.length < 1000000) :
    ∀ (k i : Nat) (s : Shared), us.length - i = k → i ≤ us.length → s.heap.IsListIter I l i → s.heap.IsList l us.toArray → (∀ (j : Nat) u, us[j]? = some u → ∃ t ku q, u = .ref t ∧ t ≠ I ∧ t ≠ D ∧ ks[j]? = some q ∧ s.heap.IsTuple t #[ku, q.2] ∧ (mixKind prog w).is q.1 ku = true) →
      (∃ vs, s.heap.DictOf (mixKind prog w) D vs ∧ vs = storedAll [] (ks.take i) ∧ vs.length ≤ i) →
      (∀ h' tk, (∀ b o, b ≠ I → b ≠ D → s.heap.get? b = some o → h'.get? b = some o) → h'.DictOf (mixKind prog w) D (storedAll [] ks) → R (.ok (.ret .none)) { s with heap := h', toks := tk }) →
      codeAny (model prog w) A (.builtin "dict.update.loop" ⟨[.ref D, .ref I, rawInt i, .none], []⟩) R s := by
  have W := Walks.list (prog := prog) (w := w) (A := A.in1) hh I l hlI us.toArray
  have us0 : us.toArray.size = us.length := by simp
  intro k
  induction k with
  | zero =>
    intro i s hk hi hit hil ht hg hR
    have hin : i = us.length := by omega
    refine codeAny_builtin dp_entry ?_
    rw [Around.under_plainId dp_plain _]
    refine wpAny_bind (W.done s _ _ ⟨by rw [us0, ← hin]; exact hit, hil⟩ fun h' tk hk' => ?_)
    obtain ⟨vs, dd, rfl, _⟩ := hg
    rw [hin, hlen, List.take_length] at dd
    refine wpAny_bind (wpAny_pure (wpAny_pure (hR h' tk (fun b o b1 _ e => hk' b o (by simpa using b1) e) ?_)))
    obtain ⟨o, es, ep, ho, r⟩ := dd
    exact ⟨o, es, ep, hk' D o (by simpa using hDI) ho, r⟩
  | succ k ih =>
    intro i s hk hi hit hil ht hg hR
    have hlt : i < us.length := by omega
    refine codeAny_builtin dp_entry ?_
    rw [Around.under_plainId dp_plain _]
    refine wpAny_bind (W.item i s _ _ (by rw [us0]; exact hlt) ⟨hit, hil⟩ fun v h1 tk1 hP hst hk1 => ?_)
    obtain ⟨t, ku, q, rfl, tI, tD, hq, hT, hkk⟩ := ht i v (by simpa using hP)
    obtain ⟨vs, dd, evs, hvl⟩ := hg
    obtain ⟨oT, hoT, hcT, nT, hdT⟩ := id hT
    have hoT1 := hk1 t oT (by simpa using tI) hoT
    refine wpAny_bind (wpAny_holding ?_)
    refine wpAny_bind (wpAny_tryCatch ?_)
    unfold Builtin.Dict.pairItems
    refine wpAny_bind (wpAny_typeOf (T := "tuple") ⟨oT, hoT1, hcT⟩ ?_)
    rw [if_pos (by decide)]
    refine wpAny_bind (wpAny_seqItems hoT1 hdT ?_)
    refine wpAny_pure ?_
    show wpAny _ _ (holding [ku, q.2] (dictSet D ku q.2)) _ _ _
    refine wpAny_holding ?_
    unfold dictSet
    try with_reducible refine wpAny_holding ?_
    refine wpAny_bind ((mixKind prog w).pyHash hkk ?_)
    have dd1 : h1.DictOf (mixKind prog w) D vs := by
      obtain ⟨o, es, ep, ho, r⟩ := dd
      exact ⟨o, es, ep, hk1 D o (by simpa using hDI) ho, r⟩
    have hv6 : vs.length ≤ sizeLine := Nat.le_trans hvl (Nat.le_trans hi (by rw [hlen]; exact Nat.le_trans (Nat.le_of_lt hsz) (by decide)))
    refine wpAny_dictSetHashed_pairs (s := { s with heap := h1, toks := tk1 + 1 }) (hsz := hv6) hkk dd1 fun h2 dd2 sb => ?_
    have oth : ∀ b, b ≠ D → h2.get? b = h1.get? b := fun b hb => sb.2 b hb
    refine wpAny_pure ⟨plainId_quiet dp_plain _, ?_⟩
    have en : rawInt ((i : Int) + 1) = rawInt ((i + 1 : Nat) : Int) := by rw [Int.natCast_add]; rfl
    rw [en]
    refine ih (i + 1) { s with heap := h2, toks := tk1 + 1 } (by omega) hlt (hst.1.at fun o e => (oth I hDI.symm).trans e) (hst.2.at fun o e => (oth l hDl.symm).trans e) (fun j u eu => ?_) ⟨_, dd2, ?_, ?_⟩ fun h3 tk3 k3 dd3 => ?_
    · obtain ⟨t', ku', q', e1, e2, e3, e4, ⟨oT', hoT', r'⟩, e6⟩ := ht j u eu
      exact ⟨t', ku', q', e1, e2, e3, e4, ⟨oT', (oth _ e3).trans (hk1 _ _ (by simpa using e2) hoT'), r'⟩, e6⟩
    · rw [List.take_add_one, hq, evs]
      unfold storedAll
      rw [List.foldl_append]
      rfl
    · have := stored_len (K := Key) vs q.1 q.2
      omega
    · exact hR h3 tk3 (fun b o b1 b2 e => k3 b o b1 b2 ((oth b b2).trans (hk1 b o (by simpa using b1) e))) dd3
end
inductive Prs2 (K : PySem.W.Frag) (H : Hp) : List V → List (Key × V) → Prop where
  | nil : Prs2 K H [] []
  | cons {t : Addr} {q : Key × V} {ws : List V} {ps : List (Key × V)} (h : SqT K H t [kV q.1, q.2]) (r : Prs2 K H ws ps) : Prs2 K H (.ref t :: ws) (q :: ps)
noncomputable def putAllK (kvs ps : List (Key × V)) : List (Key × V) := ps.foldl (fun a q => putK a q.1 q.2) kvs
theorem kv_all : ∀ {ps : List (Key × V)} {ks : List (Key × Value)} {kvs : List (Key × V)} {vs : List (Key × Value)}, KV ps ks → KV kvs vs → KV (putAllK kvs ps) (storedAll vs ks)
  | _, _, _, _, .nil, h => h
  | _, _, _, _, .cons (a := p) (b := q) e r, h => by
    have := KV.put h p.1 e.2
    rw [show stored _ p.1 q.2 = stored _ q.1 q.2 by rw [e.1]] at this
    have h2 := kv_all r this
    exact h2
theorem putAllK_len : ∀ (ps kvs : List (Key × V)), (putAllK kvs ps).length ≤ kvs.length + ps.length
  | [], kvs => Nat.le_refl _
  | q :: r, kvs => by
    have h1 := putAllK_len r (putK kvs q.1 q.2)
    have h2 := length_putK kvs q.1 q.2
    show (putAllK (putK kvs q.1 q.2) r).length ≤ kvs.length + (r.length + 1)
    omega
theorem prs_ks {X : Cx} {pins : List (Addr × Obj)} {σ : L2.St} {H : Hp} {s : Shared} (I : Inv X pins σ H s) : ∀ {ws : List V} {ps : List (Key × V)} {its : List Value}, Prs2 X.K H ws ps → Vals ws its →
    ∃ ks : List (Key × Value), KV ps ks ∧ its.length = ks.length ∧ ∀ (j : Nat) u, its[j]? = some u → ∃ t ku q, u = .ref t ∧ t < s.heap.objs.size ∧ ks[j]? = some q ∧ s.heap.IsTuple t #[ku, q.2] ∧ (mixKind X.prog X.w).is q.1 ku = true
  | _, _, _, .nil, .nil => ⟨[], .nil, rfl, fun j u e => by simp at e⟩
  | _, _, _, .cons (q := q) h r, .cons rv rr => by
    obtain ⟨ks, k1, k2, k3⟩ := prs_ks I r rr
    obtain ⟨its, r2, ⟨o, ho, hr⟩, _⟩ := I.tuple h
    obtain ⟨ku, vu, rfl, e1, e2⟩ := vals2 r2
    cases rv
    refine ⟨(q.1, vu) :: ks, .cons ⟨rfl, e2⟩ k1, by simp [k2], fun j u e => ?_⟩
    cases j with
    | zero =>
      cases e
      exact ⟨_, ku, (q.1, vu), rfl, Heap.lt_size ho, rfl, ⟨o, ho, hr.1, hr.2⟩, kV_is e1⟩
    | succ j => exact k3 j u (by simpa using e)
theorem call_dictP {X : Cx} {K : PySem.W.Frag} (hK : X.K = K) (hc : X.calm = true) : CallR X (.type "dict") (fun xs H Q => ∃ (a : Addr) (ws : List V) (ps : List (Key × V)), xs = [V.ref a] ∧ H a = some (.lst ws) ∧ Prs2 K H ws ps ∧ ps.length < 1000000 ∧ ∀ p, H p = none → Q (.ref p) (upd H p (.dK (putAllK [] ps)))) := by
  subst hK
  intro pins s σ H xs us Q I r h
  obtain ⟨a, ws, ps, rfl, ha, hp, hz, q⟩ := h
  obtain ⟨u, rfl, ru⟩ := vals1 r
  cases ru
  obtain ⟨its, rv, pl, _⟩ := I.list (SqL.of ha)
  obtain ⟨ks, k1, k2, k3⟩ := prs_ks I hp rv
  have kl : ks.length = ps.length := (Paired.length k1).symm
  have hal : a < s.heap.objs.size := by obtain ⟨_, _, e, _⟩ := pl; exact Heap.lt_size e
  refine callType_codes (Q₁ := fun obj s₁ => obj = .ref s.heap.objs.size ∧ s₁ = { s with heap := s.heap.push { cls := .type "dict", data := .dict #[] } }) PySem.F.kt_called_dict (PySem.F.kt_typeCall_dict_1 _) PySem.F.entry_dict_init (PySem.kt_code_dict_new _ ⟨rfl, rfl⟩) fun obj s₁ ⟨e1, e2⟩ => ?_
  subst e1 e2
  have hnew : (s.heap.push { cls := .type "dict", data := .dict #[] }).DictOf (mixKind X.prog X.w) s.heap.objs.size [] := Heap.DictOf.new s.heap
  refine ⟨hnew.typeIs, PySem.F.args_dict_init_2 _ _, ?_⟩
  unfold Builtin.«dict.__init__»
  refine wpAny_bind ?_
  unfold Builtin.Dict.selfAndRest
  refine wpAny_bind (wpAny_notOrdered_dict hnew.typeIs ?_)
  show wpAny _ _ (pure (s.heap.objs.size, [Value.ref a])) _ _ _
  refine wpAny_pure ?_
  show wpAny _ _ (Builtin.Dict.updateFrom "dict.__init__" s.heap.objs.size (.ref a) [] .none) _ _ _
  unfold Builtin.Dict.updateFrom
  have pl1 : PlainL (s.heap.push { cls := .type "dict", data := .dict #[] }) a its.toArray := pl.keeps fun b o e => Heap.get?_push_of_some _ e
  obtain ⟨oa, na, hoa, hca, _⟩ := id pl1
  refine wpAny_bind (wpAny_typeOf (T := "list") ⟨oa, hoa, hca⟩ ?_)
  rw [if_pos (by decide)]
  refine wpAny_bind (no_keys (s := { s with heap := s.heap.push { cls := .type "dict", data := .dict #[] } }) pl1 (I.ok.hd hc) fun h1 tk1 hk1 => ?_)
  rw [if_pos (show (none : Option Value).isNone = true from rfl)]
  refine wpAny_bind (wpAny_rule ?_)
  have pl2 := pl1.keeps hk1
  refine wpAny_bind (wpAny_pyIter_list pl2.isList ?_)
  have dd1 : (h1.push { cls := .type "list_iterator", data := .fields #[.ref a, .int 0 0] }).DictOf (mixKind X.prog X.w) s.heap.objs.size [] := by
    obtain ⟨o, es, ep, ho, r⟩ := hnew
    exact ⟨o, es, ep, Heap.get?_push_of_some _ (hk1 _ _ ho), r⟩
  have hDl : s.heap.objs.size < h1.objs.size := by obtain ⟨o, es, ep, ho, r⟩ := hnew; exact Heap.lt_size (hk1 _ _ ho)
  have haI : a < h1.objs.size := Nat.lt_trans hal hDl
  have kp : ∀ b o, s.heap.get? b = some o → (h1.push { cls := .type "list_iterator", data := .fields #[.ref a, .int 0 0] }).get? b = some o := fun b o e => Heap.get?_push_of_some _ (hk1 _ _ (Heap.get?_push_of_some _ e))
  refine wpAny_pure ⟨plainId_quiet dp_plain _, dp_loop (A := X.A.in1) (s := { s with heap := h1.push { cls := .type "list_iterator", data := .fields #[.ref a, .int 0 0] }, toks := tk1 }) (I := h1.objs.size) (D := s.heap.objs.size) (I.ok.hd hc) (Nat.ne_of_lt haI) (Nat.ne_of_lt hDl) (Nat.ne_of_gt hal) k2 (by rw [kl]; exact hz) its.length 0 rfl (Nat.zero_le _) ⟨_, Heap.get?_push_size _ rfl, rfl, rfl⟩ (pl2.isList.push _) (fun j u eu => ?_) ⟨[], dd1, rfl, Nat.le_refl _⟩ fun h3 tk3 k3' dd3 => ?_⟩
  · obtain ⟨t, ku, q', e1, e2, e3, ⟨oT, hoT, r'⟩, e5⟩ := k3 j u eu
    exact ⟨t, ku, q', e1, Nat.ne_of_lt (Nat.lt_trans e2 hDl), Nat.ne_of_lt e2, e3, ⟨oT, kp _ _ hoT, r'⟩, e5⟩
  · refine ⟨rfl, .ref _, _, ?_, rfl, q _ (I.hok.fresh (Nat.le_refl _))⟩
    refine I.laid (a := s.heap.objs.size) (o := .dK (putAllK [] ps)) (t' := tk3) (fun b o e => k3' b o (Nat.ne_of_lt (Nat.lt_trans (Heap.lt_size e) hDl)) (Nat.ne_of_lt (Heap.lt_size e)) (kp b o e)) (Nat.le_refl _) ?_
    exact dk_new (Nat.le_trans (putAllK_len ps []) (by simp only [List.length_nil, Nat.zero_add]; exact Nat.le_trans (Nat.le_of_lt hz) (by decide))) (beq_eq_false_iff_ne.mpr (Ne.symm (Nat.ne_of_lt I.big))) (kv_all k1 .nil) dd3
end My
namespace My
open PySem PySem.Spec PyProof.Rows L2 PyProof
section
variable {prog : Program} {w : World} {A : Around} {E : Value → Shared → Prop}
end
section
variable {X : Cx} {pos : Pos}
end
end My
namespace My
open PySem PySem.Spec PyProof.Rows L2
section
variable {P : Program} {w : World} {K : PySem.W.Frag}
end
section
variable {X : Cx}
end
end My
namespace My
open PySem PySem.Spec PyProof.Rows L2 PyProof
section
variable {X : Cx} {o e : Expr} {td te : TE} {apos cpos : Pos}
end
section
variable {X : Cx} {e : Expr} {te : TE} {lo hi : Option Expr} {st : Expr} {tl th tk : TO} {pos p2 : Pos}
end
end My
namespace My
open PySem PySem.Spec PyProof.Rows L2 PyProof
section
variable {prog : Program} {w : World} {A : Around} {E : Value → Shared → Prop} {s : Shared}
end
end My
namespace My
open PySem PySem.Spec PyProof.Rows L2
section
variable {X : Cx} {pins : List (Addr × Obj)} {σ : L2.St} {H : Hp} {s : Shared} {a b : Addr} {kvs kvs' : List (Key × V)} {ds : List (Key × PyData)}
end
section
variable {X : Cx}
end
end My
namespace My
open PySem PySem.Spec PyProof.Rows L2 PyProof
section
variable {prog : Program} {w : World} {A : Around}
end
end My
namespace My
open PySem PySem.Spec PyProof.Rows L2
section
variable {P : Program} {w : World} {K : PySem.W.Frag} {mg : Str → Option Value} {base : Heap}
end
section
variable {P : Program} {w : World} {K : PySem.W.Frag} {mg mb : Str → Option Value} {CX : CXT} {k : Nat} {fa a c0 P0 : Addr} {fd : FuncData} {x : Str} {sp : Heap → Sp} {s₁ : Shared} {vs : List Value} {ns : List Int}
end
end My
namespace My
open PySem PySem.W PySem.Calls PyProof.Rows L2
end My
namespace My
open PySem PySem.Spec PyProof.Rows L2 PyProof
noncomputable def allBut (L : Addr) (h : Heap) : List (Addr × Obj) := (List.range h.objs.size).filterMap fun b => if b = L then none else (h.get? b).map fun o => (b, o)
theorem allBut_mem {L b : Addr} {h : Heap} {o : Obj} (n : b ≠ L) (e : h.get? b = some o) : (b, o) ∈ allBut L h :=
  List.mem_filterMap.mpr ⟨b, List.mem_range.mpr (Heap.lt_size e), by rw [if_neg n, e]; rfl⟩
theorem allBut_of {L : Addr} {h : Heap} {p : Addr × Obj} (m : p ∈ allBut L h) : p.1 ≠ L ∧ h.get? p.1 = some p.2 := by
  obtain ⟨b, _, e⟩ := List.mem_filterMap.mp m
  by_cases n : b = L
  · rw [if_pos n] at e; cases e
  · rw [if_neg n] at e
    obtain ⟨o, e1, e2⟩ := Option.map_eq_some_iff.mp e
    subst e2
    exact ⟨n, e1⟩
theorem none_empty (b : Addr) : (Heap.get? ({} : Heap) b) = none := by
  cases e : Heap.get? ({} : Heap) b with
  | none => rfl
  | some o => exact absurd (Heap.lt_size e) (Nat.not_lt_zero _)
theorem ns_one {h : Heap} {a : Addr} {m m' : Str → Option Value} (x : h.Ns a m) (y : h.Ns a m') : m = m' := by
  obtain ⟨o, es, ep, e1, e2, e3⟩ := x
  obtain ⟨o', es', ep', f1, f2, f3⟩ := y
  rw [e1] at f1
  cases f1
  rw [e2] at f2
  cases f2
  exact funext fun x => (e3.2 x).symm.trans (f3.2 x)
theorem inv_namesD {X : Cx} {pins : List (Addr × Obj)} {σ : L2.St} {H : Hp} {s : Shared} {h' : Heap} {t' : Nat} {D : Addr} {u : HO} (I : Inv X pins σ H s) (keep : ∀ b o, b ≠ X.env.locals → s.heap.get? b = some o → h'.get? b = some o)
    (ns : ∀ m, s.heap.Ns X.env.locals m → h'.Ns X.env.locals m) (hD : s.heap.objs.size ≤ D) (new : ObjOk X.prog X.w (upd H D u) h' D u) : Inv X pins σ (upd H D u) { s with heap := h', toks := t' } := by
  have old : ∀ b o, H b = some o → b ≠ D := fun b o e => Nat.ne_of_lt (Nat.lt_of_lt_of_le (I.hok b o e).lt hD)
  have was : ∀ b o, s.heap.get? b = some o → b ≠ D := fun b o e => Nat.ne_of_lt (Nat.lt_of_lt_of_le (Heap.lt_size e) hD)
  refine I.step (g' := s.gens) (d' := s.drawn) (ch := []) (fun _ z => nomatch z) (fun b o nL hb _ e n => keep b o nL e) (fun b o nL hb _ e n => ⟨o.slots, keep b o nL e⟩) (fun b o _ e n => by rw [upd_ne (was b o e)]; exact n) (fun b o _ e => ?_) (fun b _ e => by rw [upd_ne (old b _ e)]; exact e) (fun b _ _ e => by rw [upd_ne (old b _ e)]; exact e) (fun b ps e => ⟨#[], by rw [upd_ne (old b _ e)]; simpa using e⟩) ns (fun b v q => ?_) I.bare
  · by_cases z : b = X.env.locals
    · obtain ⟨m, hn, _⟩ := I.loc
      obtain ⟨o', _, _, e', _⟩ := ns m hn
      exact ⟨o', z ▸ e'⟩
    · exact ⟨o, keep b o z e⟩
  · by_cases hb : b = D
    · subst hb
      rw [upd_same] at q
      cases q
      exact new
    · rw [upd_ne hb] at q
      refine (I.hok b v q).stay (fun c v hc z => keep c v (fun y => ?_) z) (fun c z => by rw [upd_ne (old c _ z)]; exact z) fun c _ z => by rw [upd_ne (old c _ z)]; exact z
      have fr := I.free
      rcases hc with rfl | hc
      · rw [← y, q] at fr; cases fr
      · rw [← y, hc] at fr; cases fr
end My
namespace My
open PySem PySem.Spec PyProof.Rows L2
section
variable {X : Cx}
end
end My
namespace My
open PySem PyProof.Rows
noncomputable def kf (p : Keyed) : Int := numOf p.1
section
variable {prog : Program} {w : World} {s : Shared} {A : Around} {E : Value → Shared → Prop}
end
noncomputable abbrev Upk (l : List Keyed) : Prop := l.Pairwise fun x y => kf x ≤ kf y
structure LInv (A B out : List Keyed) (ia ib : Nat) : Prop where
  ha : ia ≤ A.length
  hb : ib ≤ B.length
  perm : out.Perm (A.take ia ++ B.take ib)
  up : Upk out
  leA : ∀ x ∈ out, ∀ y ∈ A.drop ia, kf x ≤ kf y
  leB : ∀ x ∈ out, ∀ y ∈ B.drop ib, kf x ≤ kf y
structure SameS (st st' : SortSt) : Prop where
  kind : kindOf st' = kindOf st
  arr : arrOf st' = arrOf st
  pend : pendingOf st' = pendingOf st
  fail : failedOf st' = failedOf st
section
variable {prog : Program} {w : World} {s : Shared} {A : Around} {E : Value → Shared → Prop}
end
structure HInv (A B tl : List Keyed) (na nb : Nat) : Prop where
  ha : na ≤ A.length
  hb : nb ≤ B.length
  perm : tl.Perm (A.drop na ++ B.drop nb)
  up : Upk tl
  leA : ∀ x ∈ A.take na, ∀ y ∈ tl, kf x ≤ kf y
  leB : ∀ x ∈ B.take nb, ∀ y ∈ tl, kf x ≤ kf y
section
variable {prog : Program} {w : World} {s : Shared} {A : Around} {E : Value → Shared → Prop}
end
structure Sb (a₀ : Array Keyed) (pd : Array (Nat × Nat × Nat)) (lo : Nat) (xs : Array Keyed) (st : SortSt) : Prop where
  perm : (arrOf st).Perm a₀
  kind : kindOf st = oneType'
  fail : failedOf st = none
  pend : pendingOf st = pd
  low : ∀ k, k < lo → (arrOf st)[k]? = xs[k]?
noncomputable def Rise (xs : Array Keyed) (lo hi : Nat) : Prop := ∀ i j, lo ≤ i → i ≤ j → j < hi → K xs i ≤ K xs j
section
variable {prog : Program} {w : World} {s : Shared} {A : Around} {E : Value → Shared → Prop} {a₀ xs : Array Keyed} {pd : Array (Nat × Nat × Nat)} {lo : Nat} {st : SortSt}
end
section
variable {prog : Program} {w : World} {s : Shared} {A : Around} {E : Value → Shared → Prop} {a₀ xs : Array Keyed} {pd : Array (Nat × Nat × Nat)} {lo : Nat} {st : SortSt}
end
section
variable {prog : Program} {w : World} {s : Shared} {A : Around} {E : Value → Shared → Prop} {a₀ : Array Keyed} {st : SortSt}
end
section
variable {prog : Program} {w : World} {s : Shared} {A : Around} {E : Value → Shared → Prop} {a₀ : Array Keyed} {st : SortSt}
inductive Two (a₀ : Array Keyed) (N : Nat) (st : SortSt) : Nat → Prop where
  | zero (h : Sb a₀ #[] 0 #[] st) : Two a₀ N st 0
  | one {n1 : Nat} (h : Sb a₀ #[(0, n1, 0)] 0 #[] st) (h1 : 1 ≤ n1) (h2 : n1 ≤ N) (h3 : N / 2 + N % 2 ≤ n1) (hr : Rise (arrOf st) 0 n1) : Two a₀ N st n1
  | two {n1 pw : Nat} (h : Sb a₀ #[(0, n1, pw), (n1, N - n1, 0)] 0 #[] st) (h1 : 1 ≤ n1) (h2 : n1 < N) (hr : Rise (arrOf st) 0 n1) (hr2 : Rise (arrOf st) n1 N) : Two a₀ N st N
end
section
variable {prog : Program} {w : World} {s : Shared} {A : Around} {E : Value → Shared → Prop}
end
end My
namespace My
open PySem PySem.Spec PyProof.Rows L2
section
variable {X : Cx}
end
end My
namespace My
open PySem PySem.Spec PyProof.Rows L2
section
variable {X : Cx}
theorem op_neNil (hu : X.A.units + 64 < cLine) : OpR X (compareOp .NotEq) (fun x y H Q => ∃ (a b : Addr) (xs : List V), x = .ref a ∧ y = .ref b ∧ SqL X.K H a xs ∧ SqL X.K H b [] ∧ Q (.bl (!xs.isEmpty)) H) := by
  intro pins s σ H x y v u Q I rx ry h
  obtain ⟨a, b, xs, rfl, rfl, ha, hb, q⟩ := h
  cases xs with
  | nil => exact op_neS hu pins s σ H (.ref a) (.ref b) v u Q I rx ry ⟨_, _, .lst ha .nil, .lst hb .nil, rfl, rfl, q⟩
  | cons w r =>
    cases rx
    cases ry
    obtain ⟨its, rv, ⟨o, n, e, c, d0, dd⟩, _⟩ := I.list ha
    obtain ⟨jts, rw', ⟨o2, n2, e2, c2, d2, dd2⟩, _⟩ := I.list hb
    cases rw'
    have hne : (its.toArray.size != (#[] : Array Value).size) = true := by
      cases rv
      simp
    exact PySem.SeqAt.RcNeAt.lists_lengths ⟨_, e, c, n, dd⟩ ⟨_, e2, c2, n2, dd2⟩ hne (Nat.lt_of_le_of_lt (Nat.le_add_right _ _) hu) _ _ _ _ ⟨.bl true, H, I, rfl, q⟩
end
end My
namespace My
open PySem PySem.Spec PyProof.Rows L2
section
variable {M : Model} {A : Around} {E : Value → Shared → Prop} {s : Shared} {B : Heap} {l : List Env} {env : Env} {ea L : Addr} {cls a0 : Value}
end
section
variable {X : Cx} {pins : List (Addr × Obj)} {σ : L2.St} {H : Hp} {s : Shared} {scope : Scope} {N : List Str} {target iter elt : Expr} {pos : Pos} {g : TG} {te : TE} {E1 : XK} {C : Addr} {ex : List Addr}
end
end My
namespace My
open PySem PySem.Spec PyProof.Rows L2
section
variable {prog : Program} {w : World} {A : Around} {E : Value → Shared → Prop} {s : Shared} {env : Env} {K : PySem.W.Frag} {C ea : Addr} {o : Obj}
end
end My
namespace My
open PySem PySem.Spec PyProof.Rows L2
section
variable {X : Cx} {pins : List (Addr × Obj)} {σ : L2.St} {H H' : Hp} {s : Shared} {fp : List Addr} {B h1 h2 : Heap} {ea : Addr}
structure EaOk (X : Cx) (pins : List (Addr × Obj)) (ea : Addr) : Prop where
  old : X.s₀.heap.get? ea = none
  loc : ea ≠ X.env.locals
  cell : ∀ x c, X.env.cells.lookup x = some c → c ≠ ea
  pin : ∀ p ∈ X.pn ++ pins, p.1 ≠ ea
end
end My
namespace My
open PySem PySem.Spec PyProof.Rows L2
section
variable {X : Cx} {pins : List (Addr × Obj)} {σ : L2.St} {H : Hp} {s : Shared} {T : Addr} {h' : Heap}
end
section
variable {M : Model} {A : Around} {E : Value → Shared → Prop} {s : Shared} {B : Heap} {l : List Env} {env : Env} {ea L : Addr} {cls a0 : Value}
end
section
variable {X : Cx} {pins : List (Addr × Obj)} {σ : L2.St} {H : Hp} {s : Shared}
end
end My
namespace My
open PySem PySem.Spec PyProof.Rows L2
section
variable {X : Cx} {pins : List (Addr × Obj)} {σ : L2.St} {H : Hp} {s : Shared} {fp : List Addr}
end
end My
namespace My
open PySem PySem.Spec PyProof.Rows L2
section
variable {X : Cx} {pins : List (Addr × Obj)} {σ : L2.St} {H : Hp} {s : Shared} {fp : List Addr} {E : XK}
end
end My
namespace My
open PySem PySem.Spec PyProof.Rows L2
end My
namespace My
open PySem PySem.Spec PyProof.Rows L2 PySem.NumText
end My
namespace My
open PySem PySem.Spec PyProof.Rows L2
end My
namespace My
open PySem PySem.Spec PyProof.Rows L2
structure PET (X : Cx) (e : Expr) (t : TE) : Prop where
  run : ∀ (pins : List (Addr × Obj)) (s : Shared) (σ : L2.St) (H : Hp) (Q : VK), 0 < s.toks → Inv X pins σ H s → t σ H Q → wpAny (model X.prog X.w) X.A (eval e X.env) (EP X pins σ Q) X.xe s
structure PAT (X : Cx) (es : List Expr) (t : TA) : Prop where
  run : ∀ (pos : Pos) (pins : List (Addr × Obj)) (s : Shared) (σ : L2.St) (H : Hp) (Q : List V → Hp → Prop), 0 < s.toks → Inv X pins σ H s → t σ H Q → wpAny (model X.prog X.w) X.A (spliced (backTo pos (starEach es X.env))) (AP X pins σ Q) X.xe s
structure PSsT (X : Cx) (st : List Stmt) (t : TS) : Prop where
  run : ∀ (pins : List (Addr × Obj)) (s : Shared) (σ : L2.St) (H : Hp) (D : Ends), 0 < s.toks → Inv X pins σ H s → t D σ H → wpAny (model X.prog X.w) X.A (execs st X.env) (SP X pins D) X.xe s
section
variable {X : Cx} {e a b : Expr} {es : List Expr} {te ta tb : TE} {t : TA} {pos : Pos}
noncomputable def tCut (t u : TS) : TS := fun D σ H => ∃ W : L2.St → Hp → Prop, t { D with nx := W } σ H ∧ ∀ σ' H', W σ' H' → u D σ' H'
theorem pss_cut {st : Stmt} {rest : List Stmt} {t u : TS} (h1 : PS X st t) (h2 : PSs X rest u) : PSs X (st :: rest) (tCut t u) := by
  constructor; intro pins s σ H D I ⟨W, h, k⟩
  refine wpAny_execs_cons (thn (h1 pins s σ H { D with nx := W } I h) fun f s1 q => ?_)
  cases f with
  | next =>
    obtain ⟨σ', H', I', q⟩ := q
    exact h2 pins s1 σ' H' D I' (k σ' H' q)
  | ret v => exact q
  | brk => exact q
  | cont => exact q
end
end My
namespace My
open PySem PySem.Spec PyProof.Rows L2
end My
namespace My
open PySem PySem.Spec PyProof.Rows L2 PyProof
noncomputable def tNever : TE := fun _ _ _ => False
theorem pe_never {X : Cx} {e : Expr} : PE X e tNever := by
  constructor; intro pins s σ H Q I h
  exact h.elim
section
variable {prog : Program} {w : World} {A : Around} {E : Value → Shared → Prop} {s : Shared}
end
mutual
inductive Tr (H : Hp) : V → PyData → Prop where
  | int (i : Int) : Tr H (.int i) (.int i)
  | str (x : Str) : Tr H (.str x) (.str x)
  | lst {a : Addr} {xs : List V} {ds : List PyData} (h : H a = some (.lst xs)) (r : Trs H xs ds) : Tr H (.ref a) (.list ds)
  | tup {a : Addr} {xs : List V} {ds : List PyData} (h : H a = some (.tup xs)) (r : Trs H xs ds) : Tr H (.ref a) (.tuple ds)
inductive Trs (H : Hp) : List V → List PyData → Prop where
  | nil : Trs H [] []
  | cons {x : V} {d : PyData} {xs : List V} {ds : List PyData} (h : Tr H x d) (r : Trs H xs ds) : Trs H (x :: xs) (d :: ds)
end
mutual
theorem Tr.same {H H' : Hp} (s : Same H H') {v : V} {d : PyData} (h : Tr H v d) : Tr H' v d := by
  cases h with
  | int i => exact .int i
  | str x => exact .str x
  | lst h r => exact .lst (s _ _ h) (Trs.same s r)
  | tup h r => exact .tup (s _ _ h) (Trs.same s r)
theorem Trs.same {H H' : Hp} (s : Same H H') {vs : List V} {ds : List PyData} (h : Trs H vs ds) : Trs H' vs ds := by
  cases h with
  | nil => exact .nil
  | cons h r => exact .cons (Tr.same s h) (Trs.same s r)
end
mutual
theorem Tr.dt {K : PySem.W.Frag} {H : Hp} {v : V} {d : PyData} (h : Tr H v d) : Dt K H v d := by
  cases h with
  | int i => exact .int i
  | str x => exact .str x
  | lst h r => exact .lst (SqL.of h) (Trs.dts r)
  | tup h r => exact .tup (SqT.of h) (Trs.dts r)
theorem Trs.dts {K : PySem.W.Frag} {H : Hp} {vs : List V} {ds : List PyData} (h : Trs H vs ds) : Dts K H vs ds := by
  cases h with
  | nil => exact .nil
  | cons h r => exact .cons (Tr.dt h) (Trs.dts r)
end
theorem Trs.len {H : Hp} : ∀ {vs : List V} {ds : List PyData}, Trs H vs ds → vs.length = ds.length
  | _, _, .nil => rfl
  | _, _, .cons _ r => by simp only [List.length_cons, Trs.len r]
theorem Trs.get {H : Hp} : ∀ {vs : List V} {ds : List PyData}, Trs H vs ds → ∀ {i : Nat} {v : V}, vs[i]? = some v → ∃ d, ds[i]? = some d ∧ Tr H v d
  | _, _, .nil, i, v, e => by simp at e
  | _, _, .cons h r, 0, v, e => by cases e; exact ⟨_, rfl, h⟩
  | _, _, .cons h r, i + 1, v, e => Trs.get r (i := i) (by simpa using e)
theorem Trs.at {H : Hp} : ∀ {vs : List V} {ds : List PyData}, Trs H vs ds → ∀ {i : Nat} {d : PyData}, ds[i]? = some d → ∃ v, vs[i]? = some v ∧ Tr H v d
  | _, _, .nil, i, v, e => by simp at e
  | _, _, .cons h r, 0, v, e => by cases e; exact ⟨_, rfl, h⟩
  | _, _, .cons h r, i + 1, v, e => Trs.at r (i := i) (by simpa using e)
theorem Trs.app {H : Hp} : ∀ {vs us : List V} {ds es : List PyData}, Trs H vs ds → Trs H us es → Trs H (vs ++ us) (ds ++ es)
  | _, _, _, _, .nil, r => r
  | _, _, _, _, .cons h q, r => .cons h (Trs.app q r)
theorem Trs.ints {H : Hp} : ∀ {vs : List V} {ns : List Int}, Trs H vs (ns.map PyData.int) → vs = ns.map V.int
  | _, [], .nil => rfl
  | _, n :: r, .cons h q => by cases h; rw [Trs.ints q]; rfl
theorem Trs.ofInts {H : Hp} : ∀ (ns : List Int), Trs H (ns.map V.int) (ns.map PyData.int)
  | [] => .nil
  | n :: r => .cons (.int n) (Trs.ofInts r)
end My
namespace My
open PySem PySem.Spec PyProof.Rows L2
noncomputable def off (H H' : Hp) : Hp := fun b => if (H b).isSome = true then none else H' b
noncomputable def butD (H : Hp) (D : Addr) : Hp := fun b => if b = D then none else H b
theorem butD_sub {H : Hp} {D : Addr} : Same (butD H D) H := fun b o e => by
  unfold butD at e
  split at e
  · cases e
  · exact e
theorem off_at {H H' : Hp} {b : Addr} {o : HO} (h : H b = none) (e : H' b = some o) : off H H' b = some o := by
  unfold off
  rw [h]
  exact e
theorem off_none {H H' : Hp} {b : Addr} {o : HO} (e : off H H' b = some o) : H b = none ∧ H' b = some o := by
  unfold off at e
  split at e
  · cases e
  · next h =>
    refine ⟨?_, e⟩
    cases q : H b with
    | none => rfl
    | some z => rw [q] at h; exact absurd rfl h
theorem off_mono {H H' H'' : Hp} (s : Same H' H'') : Same (off H H') (off H H'') := fun b o e => off_at (off_none e).1 (s _ _ (off_none e).2)
theorem off_less {H H2 H' : Hp} (s : Same H H2) : Same (off H2 H') (off H H') := fun b o e => off_at (by
  cases q : H b with
  | none => rfl
  | some z => have := s _ _ q; rw [(off_none e).1] at this; cases this) (off_none e).2
theorem range_pick {α β : Type} (f : α → Option β) : ∀ (as : List α), (List.range as.length).filterMap (fun i => as[i]?.bind f) = as.filterMap f := by
  intro as
  have key : ∀ n, n ≤ as.length → (List.range n).filterMap (fun i => as[i]?.bind f) = (as.take n).filterMap f := by
    intro n
    induction n with
    | zero => intro _; rfl
    | succ n ih =>
      intro h
      rw [List.range_succ, List.filterMap_append, ih (by omega), List.take_add_one, List.filterMap_append, List.getElem?_eq_getElem (show n < as.length by omega)]
      congr 1
      show List.filterMap (fun i => as[i]?.bind f) [n] = List.filterMap f [as[n]]
      simp only [List.filterMap_cons, List.filterMap_nil, List.getElem?_eq_getElem (show n < as.length by omega), Option.bind]
  rw [key as.length (Nat.le_refl _), List.take_length]
theorem compL {α : Type} {σ0 fs : L2.St} {k : Nat} {K : PySem.W.Frag} {l : Addr} {xs : List V} {g : TG} {tc : TT} {te : TE} {Q : VK} {H1 : Hp} (as : List α) (dx : α → PyData) (f : α → Option V) (h0 : σ0 = List.replicate k none ++ fs) (hl : H1 l = some (.lst xs)) (ht : Trs H1 xs (as.map dx)) (hz : as.length ≤ sizeLine)
    (step : ∀ a, a ∈ as → ∀ H (ts : L2.St) v (R : Option V → L2.St → Hp → Prop), Same H1 H → ts.length = k → Tr H v (dx a) → (∀ (ts2 : L2.St) H3, ts2.length = k → Same H H3 → R (f a) (ts2 ++ fs) H3) →
      g v (ts ++ fs) H fun τ2 H2 => tc τ2 H2 fun ok H3 => if ok = true then te τ2 H3 fun y H4 => R (some y) τ2 H4 else R none τ2 H3)
    (fin : ∀ D H', H1 D = none → Same H1 H' → H' D = some (.lst (as.filterMap f)) → Q (.ref D) H') : compQF σ0 (Itl K l) g tc te Q H1 := by
  have hn : xs.length = as.length := by rw [ht.len, List.length_map]
  refine compQF_map as.length (fun i => as[i]?.bind f) h0 hz (fun i H ss hi => (gives_list (SqL.of (ss _ _ hl))).go i (by omega)) (fun H ss => (gives_list (SqL.of (ss _ _ hl))).stop _ (by omega)) ?_ fun D H' hD ss hd => fin D H' hD ss (by rw [hd, range_pick])
  rintro i H ts v H' R ss hi hts ⟨rfl, yy⟩ cont
  have e := yy xs (SqL.of (ss _ _ hl))
  obtain ⟨d, hd, tr⟩ := ht.get e
  rw [List.getElem?_map] at hd
  cases ea : as[i]? with
  | none => rw [ea] at hd; cases hd
  | some a =>
    rw [ea] at hd
    cases hd
    exact step a (List.mem_of_getElem? ea) H' ts v R ss hts (tr.same ss) fun ts2 H3 h2 s3 => by
      have := cont ts2 H3 h2 s3
      rw [ea] at this
      exact this
theorem compC {α : Type} {σ0 fs : L2.St} {k : Nat} {K : PySem.W.Frag} {l : Addr} {xs : List V} {g : TG} {tc : TT} {te : TE} {Q : VK} {H1 : Hp} (S : Hp → Hp → Hp) (Z : Addr → Hp → Hp) (as : List α) (dx : α → PyData) (dy : α → Option PyData) (h0 : σ0 = List.replicate k none ++ fs) (hl : H1 l = some (.lst xs)) (ht : Trs H1 xs (as.map dx)) (hz : as.length ≤ sizeLine)
    (z1 : ∀ D H H3 o, H1 D = none → Same H1 H → H D = some o → Same H H3 → Same (Z D H) (Z D H3)) (z2 : ∀ D H H3 o zs, H1 D = none → Same H1 H → H D = some o → Same H H3 → Same (S H H3) (Z D (upd H3 D (.lst zs))))
    (z3 : ∀ D H o zs, H1 D = none → Same H1 H → H D = some o → Same (Z D H) (Z D (upd H D (.lst zs))))
    (step : ∀ a, a ∈ as → ∀ H (ts : L2.St) v (R : Option V → L2.St → Hp → Prop), Same H1 H → ts.length = k → Tr H v (dx a) → Tr H1 v (dx a) → (∀ d y (ts2 : L2.St) H3, dy a = some d → ts2.length = k → Same H H3 → Tr (S H H3) y d → R (some y) (ts2 ++ fs) H3) → (dy a = none → ∀ (ts2 : L2.St) H3, ts2.length = k → Same H H3 → R none (ts2 ++ fs) H3) →
      g v (ts ++ fs) H fun τ2 H2 => tc τ2 H2 fun ok H3 => if ok = true then te τ2 H3 fun y H4 => R (some y) τ2 H4 else R none τ2 H3)
    (fin : ∀ D H' ys, H1 D = none → Same H1 H' → H' D = some (.lst ys) → Trs (Z D H') ys (as.filterMap dy) → Q (.ref D) H') : compQF σ0 (Itl K l) g tc te Q H1 := by
  have hn : xs.length = as.length := by rw [ht.len, List.length_map]
  intro D hD
  refine ⟨fun i m ys τ H => m = as.length - i ∧ i ≤ as.length ∧ ys.length ≤ i ∧ Trs (Z D H) ys ((as.take i).filterMap dy) ∧ (∃ ts : L2.St, ts.length = k ∧ τ = ts ++ fs) ∧ Same H1 H ∧ H D = some (.lst ys), ⟨as.length, rfl, Nat.zero_le _, Nat.le_refl _, .nil, ⟨_, List.length_replicate, h0⟩, Same.upd hD, upd_same⟩, ?_⟩
  rintro i m ys τ H ⟨rfl, hi, hyl, hp, ⟨ts, hts, rfl⟩, ss, hd⟩
  refine ⟨hd, ?_⟩
  by_cases hlt : i < as.length
  · refine .inr ⟨(gives_list (SqL.of (ss _ _ hl))).go i (by omega), by omega, ?_⟩
    rintro v H' ⟨rfl, yy⟩
    have e := yy xs (SqL.of (ss _ _ hl))
    obtain ⟨d, hde, tr⟩ := ht.get e
    have ea : as[i]? = some as[i] := List.getElem?_eq_getElem hlt
    rw [List.getElem?_map, ea] at hde
    cases hde
    refine step as[i] (List.getElem_mem hlt) H' ts v (fun o τ2 H3 => match o with
      | some y => H3 D = some (.lst ys) ∧ ∃ m', m' < as.length - i ∧ m' = as.length - (i + 1) ∧ i + 1 ≤ as.length ∧ (ys ++ [y]).length ≤ i + 1 ∧ Trs (Z D (upd H3 D (.lst (ys ++ [y])))) (ys ++ [y]) ((as.take (i + 1)).filterMap dy) ∧ (∃ ts : L2.St, ts.length = k ∧ τ2 = ts ++ fs) ∧ Same H1 (upd H3 D (.lst (ys ++ [y]))) ∧ upd H3 D (.lst (ys ++ [y])) D = some (.lst (ys ++ [y]))
      | none => ∃ m', m' < as.length - i ∧ m' = as.length - (i + 1) ∧ i + 1 ≤ as.length ∧ ys.length ≤ i + 1 ∧ Trs (Z D H3) ys ((as.take (i + 1)).filterMap dy) ∧ (∃ ts : L2.St, ts.length = k ∧ τ2 = ts ++ fs) ∧ Same H1 H3 ∧ H3 D = some (.lst ys)) ss hts (tr.same ss) tr (fun d y ts2 H3 hy h2 s3 tr3 => ?_) fun hy ts2 H3 h2 s3 => ?_
    · refine ⟨s3 _ _ hd, as.length - (i + 1), by omega, rfl, hlt, (by rw [List.length_append, List.length_singleton]; omega), ?_, ⟨ts2, h2, rfl⟩, (ss.trans s3).again hD, upd_same⟩
      rw [List.take_add_one, ea, List.filterMap_append]
      refine ((hp.same (z1 D H' H3 _ hD ss hd s3)).same (z3 D H3 _ _ hD (ss.trans s3) (s3 _ _ hd))).app ?_
      show Trs _ [y] (List.filterMap dy [as[i]])
      rw [List.filterMap_cons, hy]
      exact .cons (tr3.same (z2 D H' H3 _ _ hD ss hd s3)) .nil
    · refine ⟨as.length - (i + 1), by omega, rfl, hlt, by omega, ?_, ⟨ts2, h2, rfl⟩, ss.trans s3, s3 _ _ hd⟩
      rw [List.take_add_one, ea, List.filterMap_append]
      have e0 : List.filterMap dy (some as[i]).toList = [] := by
        show List.filterMap dy [as[i]] = []
        rw [List.filterMap_cons, hy]
        rfl
      rw [e0, List.append_nil]
      exact hp.same (z1 D H' H3 _ hD ss hd s3)
  · have e : i = as.length := by omega
    subst e
    rw [List.take_length] at hp
    exact .inl ⟨(gives_list (SqL.of (ss _ _ hl))).stop _ (by omega), fin D H ys hD ss hd hp⟩
theorem butD_ne {H : Hp} {D b : Addr} {o : HO} (e : butD H D b = some o) : b ≠ D ∧ H b = some o := by
  unfold butD at e
  split at e
  · cases e
  · next h => exact ⟨h, e⟩
theorem butD_at {H : Hp} {D b : Addr} {o : HO} (h : b ≠ D) (e : H b = some o) : butD H D b = some o := by
  unfold butD
  rw [if_neg h]
  exact e
theorem compN {α : Type} {σ0 fs : L2.St} {k : Nat} {K : PySem.W.Frag} {l : Addr} {xs : List V} {g : TG} {tc : TT} {te : TE} {Q : VK} {H1 : Hp} (as : List α) (dx : α → PyData) (dy : α → Option PyData) (h0 : σ0 = List.replicate k none ++ fs) (hl : H1 l = some (.lst xs)) (ht : Trs H1 xs (as.map dx)) (hz : as.length ≤ sizeLine)
    (step : ∀ a, a ∈ as → ∀ H (ts : L2.St) v (R : Option V → L2.St → Hp → Prop), Same H1 H → ts.length = k → Tr H v (dx a) → (∀ d y (ts2 : L2.St) H3, dy a = some d → ts2.length = k → Same H H3 → Tr (off H H3) y d → R (some y) (ts2 ++ fs) H3) → (dy a = none → ∀ (ts2 : L2.St) H3, ts2.length = k → Same H H3 → R none (ts2 ++ fs) H3) →
      g v (ts ++ fs) H fun τ2 H2 => tc τ2 H2 fun ok H3 => if ok = true then te τ2 H3 fun y H4 => R (some y) τ2 H4 else R none τ2 H3)
    (fin : ∀ D H' ys, H1 D = none → Same H1 H' → H' D = some (.lst ys) → Trs (off H1 H') ys (as.filterMap dy) → Q (.ref D) H') : compQF σ0 (Itl K l) g tc te Q H1 :=
  compC (fun H H3 => off H H3) (fun D H => butD (off H1 H) D) as dx dy h0 hl ht hz (fun D H H3 o hD s1 hd s3 b ob e => butD_at (butD_ne e).1 (off_mono s3 _ _ (butD_ne e).2))
    (fun D H H3 o zs hD s1 hd s3 b ob e => by
      have hb : b ≠ D := fun z => by rw [z] at e; rw [(off_none e).1] at hd; cases hd
      exact butD_at hb (off_at (off_none (off_less s1 _ _ e)).1 (by rw [upd_ne hb]; exact (off_none e).2)))
    (fun D H o zs hD s1 hd b ob e => butD_at (butD_ne e).1 (off_at (off_none (butD_ne e).2).1 (by rw [upd_ne (butD_ne e).1]; exact (off_none (butD_ne e).2).2)))
    (fun a ha H ts v R ss hts tr _ cs cn => step a ha H ts v R ss hts tr cs cn) fun D H' ys hD ss hd ht => fin D H' ys hD ss hd (ht.same butD_sub)
theorem pe_bmK {X : Cx} {K : PySem.W.Frag} {o e : Expr} {es : List Expr} {to : TE} {t : TA} {name : Str} {apos cpos : Pos} {T id : String} {r : V → List V → Hp → VK → Prop} (hK : X.K = K) (pa : PlainAttrs T) (slot : Slot T name id) (hty : typeOf (.builtin id) = pure (.type "method_descriptor")) (hm : MtR X id r) (ho : PE X o to) (ha : PA X (e :: es) t)
    (hbase : attributeBase o name X.env (eval o X.env) = eval o X.env := by rfl)
    (hfew : ((backTo cpos (starEach (e :: es) X.env)).all (fun x => !x.1) && (backToKw cpos (keywordEach [] X.env)).all (fun x => x.1.isSome)
      && decide ((e :: es).length + ([] : List Keyword).length + (if ([] : List Keyword).isEmpty then 0 else 1) < 30)) = true := by rfl)
    (hline : (apos.endLine == cpos.line) = true := by rfl) (hs : starEach (e :: es) X.env = (false, eval e X.env) :: starEach es X.env := by rfl) (hplain : (backTo cpos (starEach es X.env)).any (·.1) = false := by rfl) :
    PE X (.Call (.Attribute o name apos) (e :: es) [] cpos) (tBM K T r to t) := by
  subst hK
  exact pe_bm pa slot hty hm ho ha hbase hfew hline hs hplain
end My
namespace My
open PySem PySem.W PyProof.Rows
noncomputable def outT {α : Type} (f : Nat → Int) : KasT α → α
  | .ret a => a
  | .ask i j k => outT f (k (decide (f i < f j)))
theorem outT_bind {α β : Type} (f : Nat → Int) (g : α → KasT β) : ∀ t : KasT α, outT f (t.bind g) = outT f (g (outT f t))
  | .ret _ => rfl
  | .ask _ _ k => outT_bind f g (k _)
noncomputable def KA (f : Nat → Int) (p : Array Nat) (i : Nat) : Int := f (p.getD i 0)
theorem KA_eq {f : Nat → Int} {p q : Array Nat} {i j : Nat} (e : p[i]? = q[j]?) : KA f p i = KA f q j := by
  unfold KA
  rw [Array.getD_eq_getD_getElem?, Array.getD_eq_getD_getElem?, e]
theorem KA_rev {f : Nat → Int} {p : Array Nat} {i j : Nat} (hj : j ≤ p.size) (k : Nat) : KA f (kas_rev p i j) k = if i ≤ k ∧ k < j then KA f p (i + j - 1 - k) else KA f p k := by
  have e := getElem?_mirror_all (i := i) hj k
  unfold kas_rev
  by_cases h : i ≤ k ∧ k < j
  · rw [if_pos h] at e ⊢; exact KA_eq e
  · rw [if_neg h] at e ⊢; exact KA_eq e
theorem KA_bub {f : Nat → Int} {p : Array Nat} {src d : Nat} (hs : src < p.size) (hd : d ≤ src) (k : Nat) : KA f (bubble p src d) k = if k = src - d then KA f p src else if src - d < k ∧ k ≤ src then KA f p (k - 1) else KA f p k := by
  have e := getElem?_bubble hs d hd k
  by_cases h1 : k = src - d
  · rw [if_pos h1] at e ⊢; exact KA_eq e
  · rw [if_neg h1] at e ⊢
    by_cases h2 : src - d < k ∧ k ≤ src
    · rw [if_pos h2] at e ⊢; exact KA_eq e
    · rw [if_neg h2] at e ⊢; exact KA_eq e
theorem rev_perm (p : Array Nat) (i j : Nat) : (kas_rev p i j).Perm p := mirror_perm _ _ _ _
theorem rev_size (p : Array Nat) (i j : Nat) : (kas_rev p i j).size = p.size := mirror_size _ _ _ _
noncomputable def RiseA (f : Nat → Int) (p : Array Nat) (hi : Nat) : Prop := ∀ i j, i ≤ j → j < hi → KA f p i ≤ KA f p j
noncomputable def FallA (f : Nat → Int) (p : Array Nat) (hi : Nat) : Prop := ∀ i j, i ≤ j → j < hi → KA f p j ≤ KA f p i
noncomputable def LastA (f : Nat → Int) (p : Array Nat) (n q : Nat) : Prop := ∀ i, n - (q + 1) ≤ i → i < n → KA f p i = KA f p (n - 1)
theorem riseA_more {f : Nat → Int} {p : Array Nat} {n : Nat} (h : RiseA f p n) (h1 : 1 ≤ n) (z : KA f p (n - 1) ≤ KA f p n) : RiseA f p (n + 1) := fun i j a b => by
  by_cases e : j = n
  · subst e
    by_cases e2 : i = j
    · subst e2; exact Int.le_refl _
    · exact Int.le_trans (h i (j - 1) (by omega) (by omega)) z
  · exact h i j a (by omega)
theorem fallA_more {f : Nat → Int} {p : Array Nat} {n : Nat} (h : FallA f p n) (h1 : 1 ≤ n) (z : KA f p n ≤ KA f p (n - 1)) : FallA f p (n + 1) := fun i j a b => by
  by_cases e : j = n
  · subst e
    by_cases e2 : i = j
    · subst e2; exact Int.le_refl _
    · exact Int.le_trans z (h i (j - 1) (by omega) (by omega))
  · exact h i j a (by omega)
theorem fallA_eq {f : Nat → Int} {p q : Array Nat} {n : Nat} (h : FallA f p n) (e : ∀ k, KA f q k = KA f p k) : FallA f q n := fun i j a b => by rw [e, e]; exact h i j a b
theorem asc_out (f : Nat → Int) (p : Array Nat) : ∀ k n, 1 ≤ n → RiseA f p n → n ≤ outT f (kas_asc p k n) ∧ outT f (kas_asc p k n) ≤ n + k ∧ RiseA f p (outT f (kas_asc p k n)) ∧
    (outT f (kas_asc p k n) = n + k ∨ KA f p (outT f (kas_asc p k n)) < KA f p (outT f (kas_asc p k n) - 1))
  | 0, n, _, h => ⟨Nat.le_refl _, Nat.le_refl _, h, .inl rfl⟩
  | k + 1, n, h1, h => by
    have e : outT f (kas_asc p (k + 1) n) = outT f (if decide (KA f p n < KA f p (n - 1)) = true then KasT.ret n else kas_asc p k (n + 1)) := rfl
    by_cases z : KA f p n < KA f p (n - 1)
    · rw [if_pos (decide_eq_true z)] at e
      rw [e]
      exact ⟨Nat.le_refl _, Nat.le_add_right _ _, h, .inr z⟩
    · rw [if_neg (by simpa using z)] at e
      rw [e]
      obtain ⟨a, b, c, d⟩ := asc_out f p k (n + 1) (by omega) (riseA_more h h1 (by omega))
      exact ⟨by omega, by omega, c, d.imp (fun x => by omega) id⟩
theorem rev_last {f : Nat → Int} {p : Array Nat} {n q : Nat} (hn : n ≤ p.size) (e : LastA f p n q) (k : Nat) : KA f (kas_rev p (n - (q + 1)) n) k = KA f p k := by
  rw [KA_rev hn]
  split
  · next z => rw [e k z.1 z.2, e _ (by omega) (by omega)]
  · rfl
theorem lastA_none {f : Nat → Int} {p : Array Nat} {n : Nat} : LastA f p n 0 := fun i a b => by rw [show i = n - 1 by omega]
theorem desc_out (f : Nat → Int) : ∀ (k : Nat) (p : Array Nat) (n q : Nat), 1 ≤ n → q + 1 ≤ n → n + k ≤ p.size → FallA f p n → LastA f p n q →
    (outT f (kas_desc k p n q)).1.Perm p ∧ n ≤ (outT f (kas_desc k p n q)).2.1 ∧ (outT f (kas_desc k p n q)).2.1 ≤ n + k ∧ (outT f (kas_desc k p n q)).2.2 + 1 ≤ (outT f (kas_desc k p n q)).2.1 ∧
    FallA f (outT f (kas_desc k p n q)).1 (outT f (kas_desc k p n q)).2.1 ∧ LastA f (outT f (kas_desc k p n q)).1 (outT f (kas_desc k p n q)).2.1 (outT f (kas_desc k p n q)).2.2
  | 0, p, n, q, _, h2, _, h4, h5 => ⟨.refl _, Nat.le_refl _, Nat.le_refl _, h2, h4, h5⟩
  | k + 1, p, n, q, h1, h2, h3, h4, h5 => by
    have e : outT f (kas_desc (k + 1) p n q) = outT f (if decide (KA f p n < KA f p (n - 1)) = true then (if q > 0 then kas_desc k (kas_rev p (n - (q + 1)) n) (n + 1) 0 else kas_desc k p (n + 1) 0)
      else .ask (p.getD (n - 1) 0) (p.getD n 0) fun d => if d = true then .ret (p, n, q) else kas_desc k p (n + 1) (q + 1)) := rfl
    by_cases z : KA f p n < KA f p (n - 1)
    · rw [if_pos (decide_eq_true z)] at e
      by_cases z2 : q > 0
      · rw [if_pos z2] at e
        rw [e]
        obtain ⟨a, b, c, d⟩ := desc_out f k (kas_rev p (n - (q + 1)) n) (n + 1) 0 (by omega) (by omega) (by rw [rev_size]; omega) (fallA_eq (fallA_more h4 h1 (Int.le_of_lt z)) (rev_last (by omega) h5)) lastA_none
        exact ⟨a.trans (rev_perm _ _ _), by omega, by omega, d⟩
      · rw [if_neg z2] at e
        rw [e]
        obtain ⟨a, b, c, d⟩ := desc_out f k p (n + 1) 0 (by omega) (by omega) (by omega) (fallA_more h4 h1 (Int.le_of_lt z)) lastA_none
        exact ⟨a, by omega, by omega, d⟩
    · rw [if_neg (by simpa using z)] at e
      have e' : outT f (kas_desc (k + 1) p n q) = outT f (if decide (KA f p (n - 1) < KA f p n) = true then KasT.ret (p, n, q) else kas_desc k p (n + 1) (q + 1)) := e
      by_cases z2 : KA f p (n - 1) < KA f p n
      · rw [if_pos (decide_eq_true z2)] at e'
        rw [e']
        exact ⟨.refl _, Nat.le_refl _, Nat.le_add_right n (k + 1), h2, h4, h5⟩
      · rw [if_neg (by simpa using z2)] at e'
        rw [e']
        obtain ⟨a, b, c, d⟩ := desc_out f k p (n + 1) (q + 1) (by omega) (by omega) (by omega) (fallA_more h4 h1 (by omega)) fun i i1 i2 => by
          show KA f p i = KA f p n
          by_cases ei : i = n
          · rw [ei]
          · rw [h5 i (by omega) (by omega)]; omega
        exact ⟨a, by omega, by omega, d⟩
theorem tail3_out (f : Nat → Int) {n nrem : Nat} {p : Array Nat} (h1 : 1 ≤ n) (h2 : n ≤ nrem) (h3 : nrem ≤ p.size) (h : FallA f p n) :
    (outT f (kas_tail3 n nrem p)).2.Perm p ∧ 1 ≤ (outT f (kas_tail3 n nrem p)).1 ∧ (outT f (kas_tail3 n nrem p)).1 ≤ nrem ∧ RiseA f (outT f (kas_tail3 n nrem p)).2 (outT f (kas_tail3 n nrem p)).1 := by
  have e : outT f (kas_tail3 n nrem p) = (outT f (kas_asc (kas_rev p 0 n) (nrem - n) n), kas_rev p 0 n) := by unfold kas_tail3; rw [outT_bind]; rfl
  obtain ⟨a, b, c, _⟩ := asc_out f (kas_rev p 0 n) (nrem - n) n h1 fun i j i1 i2 => by
    rw [KA_rev (by omega), KA_rev (by omega), if_pos (by omega), if_pos (by omega)]
    exact h _ _ (by omega) (by omega)
  rw [e]
  exact ⟨rev_perm _ _ _, by show 1 ≤ outT f _; omega, by show outT f _ ≤ nrem; omega, c⟩
theorem part_out (f : Nat → Int) {n nrem : Nat} {p : Array Nat} (h2 : n + 1 ≤ nrem) (h3 : nrem ≤ p.size) (h : FallA f p (n + 1)) :
    (outT f (kas_descPart n nrem p)).2.Perm p ∧ 1 ≤ (outT f (kas_descPart n nrem p)).1 ∧ (outT f (kas_descPart n nrem p)).1 ≤ nrem ∧ RiseA f (outT f (kas_descPart n nrem p)).2 (outT f (kas_descPart n nrem p)).1 := by
  obtain ⟨a, b, c, d, e1, e2⟩ := desc_out f (nrem - (n + 1)) p (n + 1) 0 (by omega) (by omega) (by omega) h lastA_none
  have e : outT f (kas_descPart n nrem p) = outT f (if (outT f (kas_desc (nrem - (n + 1)) p (n + 1) 0)).2.2 > 0 then kas_tail3 (outT f (kas_desc (nrem - (n + 1)) p (n + 1) 0)).2.1 nrem (kas_rev (outT f (kas_desc (nrem - (n + 1)) p (n + 1) 0)).1
      ((outT f (kas_desc (nrem - (n + 1)) p (n + 1) 0)).2.1 - ((outT f (kas_desc (nrem - (n + 1)) p (n + 1) 0)).2.2 + 1)) (outT f (kas_desc (nrem - (n + 1)) p (n + 1) 0)).2.1)
      else kas_tail3 (outT f (kas_desc (nrem - (n + 1)) p (n + 1) 0)).2.1 nrem (outT f (kas_desc (nrem - (n + 1)) p (n + 1) 0)).1) := by unfold kas_descPart; rw [outT_bind]
  generalize outT f (kas_desc (nrem - (n + 1)) p (n + 1) 0) = r at a b c d e1 e2 e
  have sz := a.size_eq
  by_cases z : r.2.2 > 0
  · rw [if_pos z] at e
    rw [e]
    obtain ⟨x, y⟩ := tail3_out f (n := r.2.1) (nrem := nrem) (p := kas_rev r.1 (r.2.1 - (r.2.2 + 1)) r.2.1) (by omega) (by omega) (by rw [rev_size]; omega) (fallA_eq e1 (rev_last (by omega) e2))
    exact ⟨x.trans ((rev_perm _ _ _).trans a), y⟩
  · rw [if_neg z] at e
    rw [e]
    obtain ⟨x, y⟩ := tail3_out f (n := r.2.1) (nrem := nrem) (p := r.1) (by omega) (by omega) (by omega) e1
    exact ⟨x.trans a, y⟩
theorem count_out (f : Nat → Int) {nrem : Nat} {p : Array Nat} (h1 : 1 ≤ nrem) (h3 : nrem ≤ p.size) :
    (outT f (kas_count nrem p)).2.Perm p ∧ 1 ≤ (outT f (kas_count nrem p)).1 ∧ (outT f (kas_count nrem p)).1 ≤ nrem ∧ RiseA f (outT f (kas_count nrem p)).2 (outT f (kas_count nrem p)).1 := by
  obtain ⟨a, b, hr, hor⟩ := asc_out f p (nrem - 1) 1 (Nat.le_refl _) fun i j i1 i2 => by rw [show i = j by omega]; exact Int.le_refl _
  have e : outT f (kas_count nrem p) = outT f (if (outT f (kas_asc p (nrem - 1) 1) == nrem) = true then .ret (outT f (kas_asc p (nrem - 1) 1), p) else if outT f (kas_asc p (nrem - 1) 1) > 1 then
    .ask (p.getD 0 0) (p.getD (outT f (kas_asc p (nrem - 1) 1) - 1) 0) fun c => if c = true then .ret (outT f (kas_asc p (nrem - 1) 1), p) else kas_descPart (outT f (kas_asc p (nrem - 1) 1)) nrem (kas_rev p 0 (outT f (kas_asc p (nrem - 1) 1)))
    else kas_descPart (outT f (kas_asc p (nrem - 1) 1)) nrem p) := by unfold kas_count; rw [outT_bind]
  generalize outT f (kas_asc p (nrem - 1) 1) = n at a b hr hor e
  by_cases z : n = nrem
  · subst z
    rw [if_pos (by simp)] at e
    rw [e]
    exact ⟨.refl _, h1, Nat.le_refl _, hr⟩
  · rw [if_neg (by simpa using z)] at e
    have hlt : KA f p n < KA f p (n - 1) := hor.resolve_left (by omega)
    by_cases z2 : n > 1
    · rw [if_pos z2] at e
      have e' : outT f (kas_count nrem p) = outT f (if decide (KA f p 0 < KA f p (n - 1)) = true then .ret (n, p) else kas_descPart n nrem (kas_rev p 0 n)) := e
      by_cases z3 : KA f p 0 < KA f p (n - 1)
      · rw [if_pos (decide_eq_true z3)] at e'
        rw [e']
        exact ⟨.refl _, a, by show n ≤ nrem; omega, hr⟩
      · rw [if_neg (by simpa using z3)] at e'
        rw [e']
        have eqK : ∀ k, KA f (kas_rev p 0 n) k = KA f p k := fun k => by
          rw [KA_rev (by omega)]
          split
          · next q =>
            have z1 := hr 0 k (by omega) (by omega)
            have z2 := hr k (n - 1) (by omega) (by omega)
            have z3 := hr 0 (0 + n - 1 - k) (by omega) (by omega)
            have z4 := hr (0 + n - 1 - k) (n - 1) (by omega) (by omega)
            omega
          · rfl
        have fl : FallA f (kas_rev p 0 n) (n + 1) := fallA_eq (fallA_more (fun i j i1 i2 => by
          have z1 := hr 0 i (by omega) (by omega)
          have z2 := hr j (n - 1) (by omega) (by omega)
          omega) (by omega) (Int.le_of_lt hlt)) eqK
        obtain ⟨x, y⟩ := part_out f (n := n) (nrem := nrem) (p := kas_rev p 0 n) (by omega) (by rw [rev_size]; omega) fl
        exact ⟨x.trans (rev_perm _ _ _), y⟩
    · rw [if_neg z2] at e
      rw [e]
      exact part_out f (n := n) (nrem := nrem) (p := p) (by omega) h3 (fallA_more (fun i j i1 i2 => by rw [show i = j by omega]; exact Int.le_refl _) (by omega) (Int.le_of_lt hlt))
theorem place_out (f : Nat → Int) {p : Array Nat} {k : Nat} (hr : RiseA f p k) : ∀ d l r, l ≤ r → r ≤ k → r - l ≤ d → (∀ i, i < l → KA f p i ≤ KA f p k) → (∀ i, r ≤ i → i < k → KA f p k < KA f p i) →
    outT f (kas_place p k d l r) ≤ k ∧ (∀ i, i < outT f (kas_place p k d l r) → KA f p i ≤ KA f p k) ∧ ∀ i, outT f (kas_place p k d l r) ≤ i → i < k → KA f p k < KA f p i
  | 0, l, r, h1, h2, h3, q1, q2 => by
    have : l = r := by omega
    subst this
    exact ⟨h2, q1, q2⟩
  | d + 1, l, r, h1, h2, h3, q1, q2 => by
    have e : outT f (kas_place p k (d + 1) l r) = outT f (if l ≥ r then .ret l else .ask (p.getD k 0) (p.getD ((l + r) / 2) 0) fun c => if c = true then kas_place p k d l ((l + r) / 2) else kas_place p k d ((l + r) / 2 + 1) r) := rfl
    by_cases z : l ≥ r
    · rw [if_pos z] at e
      rw [e]
      have : l = r := by omega
      subst this
      exact ⟨h2, q1, q2⟩
    · rw [if_neg z] at e
      have e' : outT f (kas_place p k (d + 1) l r) = outT f (if decide (KA f p k < KA f p ((l + r) / 2)) = true then kas_place p k d l ((l + r) / 2) else kas_place p k d ((l + r) / 2 + 1) r) := e
      by_cases y : KA f p k < KA f p ((l + r) / 2)
      · rw [if_pos (decide_eq_true y)] at e'
        rw [e']
        exact place_out f hr d l ((l + r) / 2) (by omega) (by omega) (by omega) q1 fun i i1 i2 => by
          have := hr ((l + r) / 2) i i1 i2
          omega
      · rw [if_neg (by simpa using y)] at e'
        rw [e']
        exact place_out f hr d ((l + r) / 2 + 1) r (by omega) (by omega) (by omega) (fun i i1 => by
          have := hr i ((l + r) / 2) (by omega) (by omega)
          omega) q2
theorem bin_out (f : Nat → Int) : ∀ (d : Nat) (p : Array Nat) (k : Nat), k + d ≤ p.size → RiseA f p k → (outT f (kas_bin d p k)).Perm p ∧ RiseA f (outT f (kas_bin d p k)) (k + d)
  | 0, p, k, _, h => ⟨.refl _, h⟩
  | d + 1, p, k, hk, h => by
    have e : outT f (kas_bin (d + 1) p k) = outT f (kas_bin d (bubble p k (k - outT f (kas_place p k k 0 k))) (k + 1)) := by
      rw [show kas_bin (d + 1) p k = (kas_place p k k 0 k).bind fun l => kas_bin d (bubble p k (k - l)) (k + 1) from rfl, outT_bind]
    obtain ⟨l1, l2, l3⟩ := place_out f h k 0 k (by omega) (by omega) (by omega) (fun i i1 => by omega) fun i i1 i2 => by omega
    generalize outT f (kas_place p k k 0 k) = l at l1 l2 l3 e
    obtain ⟨a, b⟩ := bin_out f d (bubble p k (k - l)) (k + 1) (by rw [bubble_size]; omega) fun i j i1 i2 => by
      rw [KA_bub (by omega) (by omega), KA_bub (by omega) (by omega), show k - (k - l) = l by omega]
      repeat' split
      all_goals first
        | omega
        | exact l2 _ (by omega)
        | exact Int.le_of_lt (l3 _ (by omega) (by omega))
        | exact h _ _ (by omega) (by omega)
    rw [e]
    exact ⟨a.trans (bubble_perm _ _ _), by rw [show k + (d + 1) = k + 1 + d by omega]; exact b⟩
theorem sort_out (f : Nat → Int) {n : Nat} (h1 : 1 ≤ n) : (outT f (kas_sort n)).toList.Perm (List.range n) ∧ RiseA f (outT f (kas_sort n)) n := by
  have sz : (List.toArray (List.range n)).size = n := by simp
  obtain ⟨a, b, c, d⟩ := count_out f (nrem := n) (p := List.toArray (List.range n)) h1 (Nat.le_of_eq sz.symm)
  have e : outT f (kas_sort n) = outT f (if (outT f (kas_count n (List.toArray (List.range n)))).1 < n then kas_bin (n - max (outT f (kas_count n (List.toArray (List.range n)))).1 1) (outT f (kas_count n (List.toArray (List.range n)))).2 (max (outT f (kas_count n (List.toArray (List.range n)))).1 1)
    else .ret (outT f (kas_count n (List.toArray (List.range n)))).2) := by unfold kas_sort; rw [outT_bind]
  generalize outT f (kas_count n (List.toArray (List.range n))) = r at a b c d e
  have s2 := a.size_eq
  by_cases z : r.1 < n
  · rw [if_pos z, show max r.1 1 = r.1 by omega] at e
    rw [e]
    obtain ⟨x, y⟩ := bin_out f (n - r.1) r.2 r.1 (by omega) d
    rw [show r.1 + (n - r.1) = n by omega] at y
    exact ⟨by simpa using (x.trans a).toList, y⟩
  · rw [if_neg z] at e
    rw [e]
    rw [show r.1 = n by omega] at d
    exact ⟨by show r.2.toList.Perm _; simpa using a.toList, d⟩
section
open L2
end
theorem us1 {α : Type} {us : List α} (h : us.length = 1) : ∃ a, us = [a] := List.length_eq_one_iff.mp h
theorem us2 {α : Type} {us : List α} (h : us.length = 2) : ∃ a b, us = [a, b] := by
  obtain ⟨a, t, rfl⟩ := List.exists_cons_of_length_eq_add_one h
  obtain ⟨b, rfl⟩ := us1 (Nat.succ.inj h)
  exact ⟨a, b, rfl⟩
theorem us3 {α : Type} {us : List α} (h : us.length = 3) : ∃ a b c, us = [a, b, c] := by
  obtain ⟨a, t, rfl⟩ := List.exists_cons_of_length_eq_add_one h
  obtain ⟨b, c, rfl⟩ := us2 (Nat.succ.inj h)
  exact ⟨a, b, c, rfl⟩
theorem us4 {α : Type} {us : List α} (h : us.length = 4) : ∃ a b c d, us = [a, b, c, d] := by
  obtain ⟨a, t, rfl⟩ := List.exists_cons_of_length_eq_add_one h
  obtain ⟨b, c, d, rfl⟩ := us3 (Nat.succ.inj h)
  exact ⟨a, b, c, d, rfl⟩
end My
namespace My
open PySem PySem.SetTable
noncomputable def LS (mask : Nat) (h : Int) : Nat → Nat × Nat
  | 0 => (bits h % (mask + 1), bits h)
  | r + 1 => leap mask (LS mask h r).1 (LS mask h r).2
noncomputable def rl (mask i : Nat) : Nat := runEnd mask i - i
noncomputable def Size (mask : Nat) : Prop := mask = 7 ∨ mask = 31 ∨ mask = 127
noncomputable def Ps (mask : Nat) (h : Int) (r k : Nat) : Nat := (LS mask h r).1 + k
noncomputable def Bef (mask : Nat) (h : Int) (ok : Nat → Prop) (r k : Nat) : Prop := (∀ r', r' < r → ∀ k', k' ≤ rl mask (LS mask h r').1 → ok (Ps mask h r' k')) ∧ ∀ k', k' < k → ok (Ps mask h r k')
structure TT (t : SetTable) (es : List (Int × Value)) : Prop where
  size : Size t.mask
  up : Ris t.place
  nd : t.dummies = #[]
  within : ∀ j ∈ t.place.toList, j ≤ t.mask
  len : t.place.toList.length = es.length
  fnd : ∀ j e, (j, e) ∈ t.place.toList.zip es → ∃ r k, k ≤ rl t.mask (LS t.mask e.1 r).1 ∧ Ps t.mask e.1 r k = j ∧ Bef t.mask e.1 (· ∈ t.place.toList) r k
end My
namespace My
open PySem PySem.SetTable
noncomputable def Occ (ow : Array (Option Nat)) (j : Nat) : Prop := ∃ m, ow[j]? = some (some m)
structure LI (mask : Nat) (hs : List Int) (ow : Array (Option Nat)) : Prop where
  sz : ow.size = mask + 1
  at_ : ∀ (j m : Nat), ow[j]? = some (some m) → ∃ z, hs[m]? = some z ∧ ∃ r k, k ≤ rl mask (LS mask z r).1 ∧ Ps mask z r k = j ∧ Bef mask z (Occ ow) r k
  one : ∀ (j j' m : Nat), ow[j]? = some (some m) → ow[j']? = some (some m) → j = j'
  all : ∀ (m : Nat), m < hs.length → ∃ (j : Nat), ow[j]? = some (some m)
end My
namespace My
open PySem PySem.Spec PyProof.Rows L2 PyProof PySem.SeqAt
noncomputable def KpT (h h' : Heap) : Prop := ∀ b o xs n, h.get? b = some o → o.cls = .type "tuple" → o.data = .seq xs n → h'.get? b = some o
structure HVK (K : Type) [DecidableEq K] where
  is : Heap → K → Value → Prop
  hash : K → Int
  d : Nat
  inj : ∀ {h : Heap} {x y : K} {v : Value}, is h x v → is h y v → x = y
  keep : ∀ {h h' : Heap} {k : K} {v : Value}, is h k v → KpT h h' → is h' k v
  pyHash : ∀ {prog : Program} {w : World} {A : Around} {E : Value → Shared → Prop} {s : Shared} {k : K} {v : Value} {Q : Int → Shared → Prop}, A.units + d < cLine → is s.heap k v → (∀ tk, Q (hash k) { s with toks := tk }) → wpAny (model prog w) A (PySem.pyHash v) Q E s
  eq : ∀ {A : Around} {s : Shared} {x y : K} {u v : Value}, A.units + d < cLine → is s.heap x u → is s.heap y v → EqAt A s u v (decide (x = y))
  quiet : ∀ {prog : Program} {w : World} {A : Around} {E : Value → Shared → Prop} {s : Shared} {k : K} {v : Value} {Q : Bool → Shared → Prop} (n : Nat), d ≤ n → is s.heap k v → Q true s → wpAny (model prog w) A (eqIsQuiet n v) Q E s
  cls : ∀ {prog : Program} {w : World} {A : Around} {E : Value → Shared → Prop} {s : Shared} {k : K} {v : Value} {Q : Bool → Shared → Prop} (n : Nat), d ≤ n → is s.heap k v → Q false s → wpAny (model prog w) A (ofAClassStatement n v) Q E s
  byv : ∀ {prog : Program} {w : World} {A : Around} {E : Value → Shared → Prop} {s : Shared} {k : K} {v : Value} {Q : Bool → Shared → Prop} (n : Nat), d ≤ n → is s.heap k v → Q true s → wpAny (model prog w) A (hashByValue n v) Q E s
noncomputable def HVK.int : HVK Int where
  is := fun _ k v => ∃ t, v = .int k t
  hash := hashInt
  d := 0
  inj := fun ⟨t, e⟩ ⟨t', e'⟩ => by subst e; cases e'; rfl
  keep := fun x _ => x
  pyHash := fun _ ⟨t, e⟩ h => by subst e; exact wpAny_pyHash_int (h _)
  eq := fun _ ⟨t, e⟩ ⟨t', e'⟩ prog w E Q h => by subst e; subst e'; exact wpAny_eqBool_int h
  quiet := fun n _ ⟨t, e⟩ h => by
    subst e
    rw [eqIsQuiet_byValue n rfl]
    exact wpAny_pure h
  cls := fun n _ ⟨t, e⟩ h => by
    subst e
    unfold ofAClassStatement
    exact wpAny_pure h
  byv := fun n _ ⟨t, e⟩ h => by
    subst e
    unfold hashByValue
    exact wpAny_pure h
section
variable {K L : Type} [DecidableEq K] [DecidableEq L]
noncomputable def TupOf (h : Heap) (v u u' : Value) : Prop := ∃ a o n, v = .ref a ∧ h.get? a = some o ∧ o.cls = .type "tuple" ∧ o.data = .seq #[u, u'] n
theorem HVK.pair_hash (V : HVK K) (W : HVK L) {prog : Program} {w : World} {A : Around} {E : Value → Shared → Prop} {s : Shared} {x : K} {y : L} {v u u' : Value} {Q : Int → Shared → Prop} (hu : A.units + (max V.d W.d + 1) < cLine) (T : TupOf s.heap v u u') (hx : V.is s.heap x u) (hy : W.is s.heap y u')
    (h : ∀ tk, Q (reduceHash (Builtin.Tuple.tupleHashOf [V.hash x, W.hash y])) { s with toks := tk }) : wpAny (model prog w) A (PySem.pyHash v) Q E s := by
  obtain ⟨a, o, n, rfl, ho, hc, hd⟩ := T
  have hT : s.TypeIs (.ref a) "tuple" := ⟨o, ho, hc⟩
  have h1 : A.in1.units + V.d < cLine := by show A.units + 1 + V.d < cLine; have := Nat.le_max_left V.d W.d; omega
  have h2 : A.in1.units + W.d < cLine := by show A.units + 1 + W.d < cLine; have := Nat.le_max_right V.d W.d; omega
  unfold PySem.pyHash
  unfold pyHashByItsType; refine wpAny_bind (wpAny_cRoomFor_or (.inr (show A.units < cLine by omega)) (wpAny_bind (wpAny_specialOf hT PySem.F.slot_tuple_hash.lookup ?_)))
  rw [if_neg (show ¬ (some (Value.builtin "tuple.__hash__") == some Value.none) = true by rw [beq_builtin_none]; exact Bool.false_ne_true)]
  refine wpAny_bind (wpAny_specialOf hT PySem.F.slot_tuple_hash.lookup ?_)
  show wpAny _ _ (callSpecialIfBoundUnlessNone? (.ref a) (Str.ofString "__hash__") _ >>= _) _ _ _
  refine wpAny_bind (wpAny_callSpecialIfBoundUnlessNone?_slot hT PySem.F.slot_tuple_hash (wpAny_call_entry PySem.F.slot_tuple_hash hT PySem.F.entry_tuple_hash ?_ (PySem.F.args_tuple_hash_1 _)))
  show wpAny _ _ (Builtin.Tuple.tupleItemsOf (.ref a) >>= fun its => _) _ _ _
  refine wpAny_bind (wpAny_tupleItemsOf ho hd (wpAny_bind ?_))
  rw [← Array.forIn_toList, show (#[u, u'] : Array Value).toList = [u, u'] from rfl, List.forIn_cons]
  refine wpAny_bind (wpAny_bind (V.pyHash h1 hx fun tk1 => wpAny_pure ?_))
  show wpAny _ _ (forIn [u'] _ _) _ _ _
  rw [List.forIn_cons]
  refine wpAny_bind (wpAny_bind (W.pyHash h2 hy fun tk2 => wpAny_pure ?_))
  refine wpAny_pure (show wpAny _ _ (retInt (Builtin.Tuple.tupleHashOf [V.hash x, W.hash y])) _ _ _ from ?_)
  refine wpAny_ret_mkInt (show wpAny _ _ (if (decide (-(2 : Int) ^ 63 ≤ Builtin.Tuple.tupleHashOf [V.hash x, W.hash y]) && decide (Builtin.Tuple.tupleHashOf [V.hash x, W.hash y] < 2 ^ 63)) = true then _ else _) Q E _ from ?_)
  unfold reduceHash at h
  by_cases hr : (decide (-(2 : Int) ^ 63 ≤ Builtin.Tuple.tupleHashOf [V.hash x, W.hash y]) && decide (Builtin.Tuple.tupleHashOf [V.hash x, W.hash y] < 2 ^ 63)) = true
  · rw [if_pos hr] at h ⊢; exact wpAny_pure (h _)
  · rw [if_neg hr] at h ⊢; exact wpAny_bind (wpAny_rule (wpAny_pure (h _)))
theorem HVK.pair_eq (V : HVK K) (W : HVK L) {A : Around} {s : Shared} {x x' : K} {y y' : L} {v v' u1 u2 u1' u2' : Value} (hu : A.units + (max V.d W.d + 1) < cLine) (T : TupOf s.heap v u1 u2) (T' : TupOf s.heap v' u1' u2') (hx : V.is s.heap x u1) (hy : W.is s.heap y u2) (hx' : V.is s.heap x' u1') (hy' : W.is s.heap y' u2') :
    EqAt A s v v' (decide ((x, y) = (x', y'))) := by
  obtain ⟨a, o, n, rfl, ho, hc, hd⟩ := T
  obtain ⟨a', o', n', rfl, ho', hc', hd'⟩ := T'
  have h1 : A.in1.units + V.d < cLine := by show A.units + 1 + V.d < cLine; have := Nat.le_max_left V.d W.d; omega
  have h2 : A.in1.units + W.d < cLine := by show A.units + 1 + W.d < cLine; have := Nat.le_max_right V.d W.d; omega
  by_cases haa : a = a'
  · subst haa
    obtain rfl : o = o' := Option.some.inj (ho.symm.trans ho')
    rw [hd] at hd'
    injection hd' with e _
    obtain ⟨e1, e2⟩ : u1 = u1' ∧ u2 = u2' := by simpa using e
    subst e1; subst e2
    rw [V.inj hx hx', W.inj hy hy', decide_eq_true rfl]
    exact EqAt.same _
  · have key := RcAt.tuples (A := A) (s := s) (e := fun j => if j = 0 then decide (x = x') else decide (y = y')) ⟨o, ho, hc, n, hd⟩ ⟨o', ho', hc', n', hd'⟩ (by omega) fun j j1 j2 => by
      have : j = 0 ∨ j = 1 := by have : j < 2 := j1; omega
      rcases this with rfl | rfl
      · exact V.eq h1 hx hx'
      · exact W.eq h2 hy hy'
    have e : ((List.range (min (#[u1, u2] : Array Value).size (#[u1', u2'] : Array Value).size)).all (fun j => if j = 0 then decide (x = x') else decide (y = y')) && ((#[u1, u2] : Array Value).size == (#[u1', u2'] : Array Value).size)) = decide ((x, y) = (x', y')) := by
      show ((List.range 2).all _ && true) = _
      rw [show List.range 2 = [0, 1] from rfl]
      simp [Bool.decide_and]
    rw [e] at key
    exact EqAt.of_refs haa key
theorem HVK.pair_quiet (V : HVK K) (W : HVK L) {prog : Program} {w : World} {A : Around} {E : Value → Shared → Prop} {s : Shared} {x : K} {y : L} {v u u' : Value} {Q : Bool → Shared → Prop} (n : Nat) (hn : max V.d W.d + 1 ≤ n) (T : TupOf s.heap v u u') (hx : V.is s.heap x u) (hy : W.is s.heap y u') (h : Q true s) : wpAny (model prog w) A (eqIsQuiet n v) Q E s := by
  obtain ⟨a, o, c, rfl, ho, hc, hd⟩ := T
  have hT : s.TypeIs (.ref a) "tuple" := ⟨o, ho, hc⟩
  obtain ⟨m, rfl⟩ : ∃ m, n = m + 1 := ⟨n - 1, by omega⟩
  have h1 : V.d ≤ m := by have := Nat.le_max_left V.d W.d; omega
  have h2 : W.d ≤ m := by have := Nat.le_max_right V.d W.d; omega
  unfold eqIsQuiet
  refine wpAny_bind (wpAny_specialOf hT PySem.F.slot_tuple_eq.lookup (show wpAny _ _ (isInstance (.ref a) (.type "tuple") >>= fun _ => _) _ _ _ from wpAny_bind (wpAny_isInstance hT isSubtype_tuple_tuple ?_)))
  simp only [Bool.not_true, Bool.false_eq_true, if_false]; refine wpAny_bind (wpAny_seqItems ho hd (wpAny_bind ?_))
  show wpAny _ _ (forIn (#[u, u'] : Array Value) _ _) _ _ _
  rw [← Array.forIn_toList, show (#[u, u'] : Array Value).toList = [u, u'] from rfl, List.forIn_cons]
  refine wpAny_bind (wpAny_bind (V.quiet m h1 hx (wpAny_pure ?_)))
  show wpAny _ _ (forIn [u'] _ _) _ _ _
  rw [List.forIn_cons]
  exact wpAny_bind (wpAny_bind (W.quiet m h2 hy (wpAny_pure (wpAny_pure (wpAny_pure h)))))
theorem HVK.pair_cls (V : HVK K) (W : HVK L) {prog : Program} {w : World} {A : Around} {E : Value → Shared → Prop} {s : Shared} {x : K} {y : L} {v u u' : Value} {Q : Bool → Shared → Prop} (n : Nat) (hn : max V.d W.d + 1 ≤ n) (T : TupOf s.heap v u u') (hx : V.is s.heap x u) (hy : W.is s.heap y u') (h : Q false s) : wpAny (model prog w) A (ofAClassStatement n v) Q E s := by
  obtain ⟨a, o, c, rfl, ho, hc, hd⟩ := T
  have hT : s.TypeIs (.ref a) "tuple" := ⟨o, ho, hc⟩
  obtain ⟨m, rfl⟩ : ∃ m, n = m + 1 := ⟨n - 1, by omega⟩
  have h1 : V.d ≤ m := by have := Nat.le_max_left V.d W.d; omega
  have h2 : W.d ≤ m := by have := Nat.le_max_right V.d W.d; omega
  unfold ofAClassStatement
  refine wpAny_bind (wpAny_typeOf hT ?_)
  refine wpAny_bind (wpAny_pure (show wpAny _ _ (seqItems? (.ref a) >>= fun _ => _) _ _ _ from wpAny_bind (wpAny_seqItems ho hd (wpAny_bind ?_))))
  show wpAny _ _ (forIn (#[u, u'] : Array Value) _ _) _ _ _
  rw [← Array.forIn_toList, show (#[u, u'] : Array Value).toList = [u, u'] from rfl, List.forIn_cons]
  refine wpAny_bind (wpAny_bind (V.cls m h1 hx (wpAny_pure ?_)))
  show wpAny _ _ (forIn [u'] _ _) _ _ _
  rw [List.forIn_cons]
  exact wpAny_bind (wpAny_bind (W.cls m h2 hy (wpAny_pure (wpAny_pure (wpAny_pure h)))))
theorem HVK.pair_byv (V : HVK K) (W : HVK L) {prog : Program} {w : World} {A : Around} {E : Value → Shared → Prop} {s : Shared} {x : K} {y : L} {v u u' : Value} {Q : Bool → Shared → Prop} (n : Nat) (hn : max V.d W.d + 1 ≤ n) (T : TupOf s.heap v u u') (hx : V.is s.heap x u) (hy : W.is s.heap y u') (h : Q true s) : wpAny (model prog w) A (hashByValue n v) Q E s := by
  obtain ⟨a, o, c, rfl, ho, hc, hd⟩ := T
  have hT : s.TypeIs (.ref a) "tuple" := ⟨o, ho, hc⟩
  obtain ⟨m, rfl⟩ : ∃ m, n = m + 1 := ⟨n - 1, by omega⟩
  have h1 : V.d ≤ m := by have := Nat.le_max_left V.d W.d; omega
  have h2 : W.d ≤ m := by have := Nat.le_max_right V.d W.d; omega
  unfold hashByValue
  refine wpAny_bind (wpAny_specialOf hT PySem.F.slot_tuple_hash.lookup (show wpAny _ _ (seqItems? (.ref a) >>= fun _ => _) _ _ _ from wpAny_bind (wpAny_seqItems ho hd (wpAny_bind ?_))))
  show wpAny _ _ (forIn (#[u, u'] : Array Value) _ _) _ _ _
  rw [← Array.forIn_toList, show (#[u, u'] : Array Value).toList = [u, u'] from rfl, List.forIn_cons]
  refine wpAny_bind (wpAny_bind (V.byv m h1 hx (wpAny_pure ?_)))
  show wpAny _ _ (forIn [u'] _ _) _ _ _
  rw [List.forIn_cons]
  exact wpAny_bind (wpAny_bind (W.byv m h2 hy (wpAny_pure (wpAny_pure (wpAny_pure h)))))
noncomputable def HVK.pair (V : HVK K) (W : HVK L) : HVK (K × L) where
  is := fun h k v => ∃ u u', TupOf h v u u' ∧ V.is h k.1 u ∧ W.is h k.2 u'
  hash := fun k => reduceHash (Builtin.Tuple.tupleHashOf [V.hash k.1, W.hash k.2])
  d := max V.d W.d + 1
  inj := fun {h x y v} ⟨u, u', ⟨a, o, n, e, ho, hc, hd⟩, hx, hy⟩ ⟨z, z', ⟨a', o', n', e', ho', hc', hd'⟩, hx', hy'⟩ => by
    subst e
    cases e'
    obtain rfl : o = o' := Option.some.inj (ho.symm.trans ho')
    rw [hd] at hd'
    injection hd' with e _
    obtain ⟨e1, e2⟩ : u = z ∧ u' = z' := by simpa using e
    subst e1; subst e2
    exact Prod.ext (V.inj hx hx') (W.inj hy hy')
  keep := fun {h h' k v} ⟨u, u', ⟨a, o, n, e, ho, hc, hd⟩, hx, hy⟩ kp => ⟨u, u', ⟨a, o, n, e, kp a o _ _ ho hc hd, hc, hd⟩, V.keep hx kp, W.keep hy kp⟩
  pyHash := fun hu ⟨_, _, T, hx, hy⟩ h => V.pair_hash W hu T hx hy h
  eq := fun {_ _ x y _ _} hu ⟨_, _, T, hx, hy⟩ ⟨_, _, T', hx', hy'⟩ => V.pair_eq W hu T T' hx hy hx' hy'
  quiet := fun n hn ⟨_, _, T, hx, hy⟩ h => V.pair_quiet W n hn T hx hy h
  cls := fun n hn ⟨_, _, T, hx, hy⟩ h => V.pair_cls W n hn T hx hy h
  byv := fun n hn ⟨_, _, T, hx, hy⟩ h => V.pair_byv W n hn T hx hy h
end
end My
namespace My
open PySem PySem.Spec PyProof.Rows L2 PyProof PySem.SeqAt PySem.SetTable
section
variable {K : Type} [DecidableEq K]
variable {prog : Program} {w : World} {A : Around} {E : Value → Shared → Prop} {s : Shared} {V : HVK K} {kf : Value → K} {us : List Value}
end
end My
namespace My
open PySem PySem.Spec PyProof.Rows L2 PyProof PySem.SeqAt PySem.SetTable
section
variable {K : Type} [DecidableEq K]
variable {prog : Program} {w : World} {A : Around} {E : Value → Shared → Prop} {s : Shared} {V : HVK K} {kf : Value → K} {us : List Value}
end
end My
namespace My
open PySem PySem.Spec PyProof.Rows L2 PyProof PySem.SeqAt
section
variable {K : Type} [DecidableEq K]
variable {prog : Program} {w : World} {A : Around} {E : Value → Shared → Prop} {s : Shared} {V : HVK K} {kf : Value → K} {us : List Value}
end
end My
namespace My
open PySem PySem.Spec PySem.W PyProof.Rows L2 PyProof PySem.SeqAt
noncomputable def InP {α : Type} (n : Nat) (P : α → Prop) : KasT α → Prop
  | .ret a => P a
  | .ask i j k => i < n ∧ j < n ∧ ∀ b, InP n P (k b)
theorem InP.bind {α β : Type} {n : Nat} {P : α → Prop} {R : β → Prop} {g : α → KasT β} (hg : ∀ a, P a → InP n R (g a)) : ∀ t : KasT α, InP n P t → InP n R (t.bind g)
  | .ret a, h => hg a h
  | .ask _ _ k, h => ⟨h.1, h.2.1, fun b => InP.bind hg (k b) (h.2.2 b)⟩
theorem InP.wp {α : Type} {n : Nat} {P : α → Prop} {f : Nat → Int} {cmp : Nat → Nat → (Bool → Shared → Prop) → Shared → Prop} {Q : α → Shared → Prop} {s : Shared} (hc : ∀ i j (R : Bool → Shared → Prop), i < n → j < n → R (decide (f i < f j)) s → cmp i j R s) :
    ∀ t : KasT α, InP n P t → Q (outT f t) s → t.kasWp cmp Q s
  | .ret _, _, h => h
  | .ask i j k, p, h => hc i j _ p.1 p.2.1 (InP.wp hc (k _) (p.2.2 _) h)
noncomputable def Low (n : Nat) (p : Array Nat) : Prop := 0 < n ∧ ∀ x ∈ p.toList, x < n
theorem Low.at {n : Nat} {p : Array Nat} (l : Low n p) (i : Nat) : p.getD i 0 < n := by
  by_cases h : i < p.size
  · have e : p.getD i 0 = p[i] := by simp [Array.getD, h]
    rw [e]
    exact l.2 _ (by simp)
  · have e : p.getD i 0 = 0 := by simp [Array.getD, h]
    rw [e]
    exact l.1
theorem Low.perm {n : Nat} {p q : Array Nat} (l : Low n p) (h : q.Perm p) : Low n q := ⟨l.1, fun x hx => l.2 x (h.toList.mem_iff.mp hx)⟩
theorem low_asc {n : Nat} {p : Array Nat} (l : Low n p) : ∀ k m, InP n (fun _ => True) (kas_asc p k m)
  | 0, _ => trivial
  | k + 1, m => ⟨l.at _, l.at _, fun b => by cases b with | true => exact trivial | false => exact low_asc l k (m + 1)⟩
theorem low_desc {n : Nat} : ∀ (k : Nat) {p : Array Nat} (m q : Nat), Low n p → InP n (fun r => Low n r.1) (kas_desc k p m q)
  | 0, _, _, _, l => l
  | k + 1, p, m, q, l => ⟨l.at _, l.at _, fun b => by
    cases b with
    | true =>
      show InP n _ (if q > 0 then _ else _)
      split
      · exact low_desc k _ _ (l.perm (rev_perm _ _ _))
      · exact low_desc k _ _ l
    | false => exact ⟨l.at _, l.at _, fun d => by cases d with | true => exact l | false => exact low_desc k _ _ l⟩⟩
theorem low_tail3 {n m nrem : Nat} {p : Array Nat} (l : Low n p) : InP n (fun (r : Nat × Array Nat) => Low n r.2) (kas_tail3 m nrem p) := by
  have l' : Low n (kas_rev p 0 m) := l.perm (rev_perm _ _ _)
  unfold kas_tail3
  refine InP.bind (P := fun _ => True) (fun _ _ => ?_) _ (low_asc l' _ _)
  exact l'
theorem low_part {n m nrem : Nat} {p : Array Nat} (l : Low n p) : InP n (fun (r : Nat × Array Nat) => Low n r.2) (kas_descPart m nrem p) := InP.bind (fun r hr => by
  split
  · exact low_tail3 (hr.perm (rev_perm _ _ _))
  · exact low_tail3 hr) _ (low_desc _ _ _ l)
theorem low_count {n nrem : Nat} {p : Array Nat} (l : Low n p) : InP n (fun (r : Nat × Array Nat) => Low n r.2) (kas_count nrem p) := InP.bind (fun m _ => by
  split
  · exact l
  · split
    · exact ⟨l.at _, l.at _, fun c => by cases c with | true => exact l | false => exact low_part (l.perm (rev_perm _ _ _))⟩
    · exact low_part l) _ (low_asc l _ _)
theorem low_place {n : Nat} {p : Array Nat} (l : Low n p) (k : Nat) : ∀ d a r, InP n (fun _ => True) (kas_place p k d a r)
  | 0, _, _ => trivial
  | d + 1, a, r => by
    unfold kas_place
    split
    · exact trivial
    · exact ⟨l.at _, l.at _, fun c => by cases c with | true => exact low_place l k d _ _ | false => exact low_place l k d _ _⟩
theorem low_bin {n : Nat} : ∀ (d : Nat) {p : Array Nat} (k : Nat), Low n p → InP n (fun r => Low n r) (kas_bin d p k)
  | 0, _, _, l => l
  | d + 1, _, _, l => InP.bind (fun _ _ => low_bin d _ (l.perm (bubble_perm _ _ _))) _ (low_place l _ _ _ _)
theorem low_sort {n : Nat} (h : 1 ≤ n) : InP n (fun r => Low n r) (kas_sort n) := InP.bind (fun r hr => by
  split
  · exact low_bin _ _ hr
  · exact hr) _ (low_count ⟨h, fun x hx => by simpa using hx⟩)
structure VO (K : Type) [DecidableEq K] extends HVK K where
  lt : K → K → Bool
  irr : ∀ x, lt x x = false
  tr : ∀ x y z, lt x y = true → lt y z = true → lt x z = true
  tot : ∀ x y, x ≠ y → lt x y = false → lt y x = true
  T : Value
  rfT : (T == T) = true
  typ : ∀ {h : Heap} {k : K} {v : Value} (M : Model), is h k v → Looks M h (typeOf v) T
  one : ∀ {prog : Program} {w : World} {A : Around} {E : Value → Shared → Prop} {s : Shared} {x y : K} {u v : Value} {Q : Bool → Shared → Prop} (b : Bool), (b = true → (T != Value.type "tuple") = true) → A.units + d < cLine → is s.heap x u → is s.heap y v → Q (lt x y) s → wpAny (model prog w) A (oneLt' b u v) Q E s
noncomputable def ltP {K L : Type} [DecidableEq K] [DecidableEq L] (f : K → K → Bool) (g : L → L → Bool) (a b : K × L) : Bool := if a.1 = b.1 then g a.2 b.2 else f a.1 b.1
section
variable {K L : Type} [DecidableEq K] [DecidableEq L]
theorem ltP_irr (V : VO K) (W : VO L) (x : K × L) : ltP V.lt W.lt x x = false := by unfold ltP; rw [if_pos rfl]; exact W.irr _
theorem ltP_tr (V : VO K) (W : VO L) (x y z : K × L) (h : ltP V.lt W.lt x y = true) (h' : ltP V.lt W.lt y z = true) : ltP V.lt W.lt x z = true := by
  unfold ltP at *
  by_cases e : x.1 = y.1
  · rw [if_pos e] at h
    by_cases e' : y.1 = z.1
    · rw [if_pos e'] at h'
      rw [if_pos (e.trans e')]
      exact W.tr _ _ _ h h'
    · rw [if_neg e'] at h'
      rw [if_neg (fun q => e' (e.symm.trans q)), e]
      exact h'
  · rw [if_neg e] at h
    by_cases e' : y.1 = z.1
    · rw [if_neg (fun q => e (q.trans e'.symm)), ← e']
      exact h
    · rw [if_neg e'] at h'
      have t := V.tr _ _ _ h h'
      rw [if_neg fun q => ?_]
      · exact t
      · rw [q, V.irr] at t; cases t
theorem ltP_tot (V : VO K) (W : VO L) (x y : K × L) (n : x ≠ y) (h : ltP V.lt W.lt x y = false) : ltP V.lt W.lt y x = true := by
  unfold ltP at *
  by_cases e : x.1 = y.1
  · rw [if_pos e] at h
    rw [if_pos e.symm]
    exact W.tot _ _ (fun q => n (Prod.ext e q)) h
  · rw [if_neg e] at h
    rw [if_neg (fun q => e q.symm)]
    exact V.tot _ _ e h
noncomputable def VO.int : VO Int where
  toHVK := HVK.int
  lt := fun a b => decide (a < b)
  irr := fun x => by simp
  tr := fun x y z h h' => by simp only [decide_eq_true_eq] at *; omega
  tot := fun x y n h => by simp only [decide_eq_true_eq, decide_eq_false_iff_not] at *; omega
  T := .type "int"
  rfT := by decide
  typ := fun M ⟨t, e⟩ => by
    subst e
    intro A Q E s _ q
    exact wpAny_typeOf (T := "int") rfl q
  one := fun b _ _ ⟨t, e⟩ ⟨t', e'⟩ h => by
    subst e; subst e'
    cases b with
    | true => exact oneLt_int h
    | false => exact kat_one _ _ (lt_int h)
noncomputable def VO.node : VO (Int × Int) where
  toHVK := HVK.int.pair HVK.int
  lt := ltP VO.int.lt VO.int.lt
  irr := ltP_irr VO.int VO.int
  tr := ltP_tr VO.int VO.int
  tot := ltP_tot VO.int VO.int
  T := .type "tuple"
  rfT := by decide
  typ := fun M ⟨u, u', ⟨a, o, n, e, ho, hc, hd⟩, _⟩ => by
    subst e
    intro A Q E s k q
    exact wpAny_typeOf (T := "tuple") ⟨o, k a o ho, hc⟩ q
  one := fun {prog w A E s x y u v Q} b hb hu ⟨u1, u2, ⟨a, o, n, e, ho, hc, hd⟩, ⟨t1, e1⟩, ⟨t2, e2⟩⟩ ⟨v1, v2, ⟨a', o', n', e', ho', hc', hd'⟩, ⟨t1', e1'⟩, ⟨t2', e2'⟩⟩ h => by
    subst e; subst e'; subst e1; subst e2; subst e1'; subst e2'
    cases b with
    | true => exact absurd (hb rfl) (by decide)
    | false =>
      refine kat_one _ _ (HT.lt_tupInts (ns := [x.1, x.2]) (ms := [y.1, y.2]) ⟨o, ho, hc, n, hd⟩ ⟨o', ho', hc', n', hd'⟩ (.cons _ _ (.cons _ _ .nil)) (.cons _ _ (.cons _ _ .nil)) (by omega) ?_)
      have el : HT.lexLt [x.1, x.2] [y.1, y.2] = ltP VO.int.lt VO.int.lt x y := by
        unfold ltP
        rw [HT.lexLt_cons, HT.lexLt_cons, HT.lexLt_nil_nil]
        by_cases q : x.1 = y.1
        · rw [if_pos q, if_pos q]
          by_cases q2 : x.2 = y.2
          · rw [if_pos q2, q2]; exact (VO.int.irr _).symm
          · rw [if_neg q2]; rfl
        · rw [if_neg q, if_neg q]; rfl
      rw [el]
      exact h
noncomputable def rankK (lt : K → K → Bool) (ks : List K) (k : K) : Nat := (ks.filter fun x => lt x k).length
theorem rank_lt {lt : K → K → Bool} (irr : ∀ x, lt x x = false) (tr : ∀ x y z, lt x y = true → lt y z = true → lt x z = true) (tot : ∀ x y, x ≠ y → lt x y = false → lt y x = true) {ks : List K} {a b : K} (ha : a ∈ ks) :
    decide (((rankK lt ks a : Nat) : Int) < (rankK lt ks b : Nat)) = lt a b := by
  have mono : ∀ {a b : K} (l : List K), (∀ x, lt x a = true → lt x b = true) → (l.filter fun x => lt x a).length ≤ (l.filter fun x => lt x b).length := by
    intro a b l h
    induction l with
    | nil => exact Nat.le_refl _
    | cons x r ih =>
      rw [List.filter_cons, List.filter_cons]
      by_cases q : lt x a = true
      · rw [if_pos q, if_pos (h x q)]
        exact Nat.succ_le_succ ih
      · rw [if_neg q]
        split
        · exact Nat.le_succ_of_le ih
        · exact ih
  cases hl : lt a b with
  | true =>
    have key : ∀ l : List K, a ∈ l → (l.filter fun x => lt x a).length < (l.filter fun x => lt x b).length := by
      intro l
      induction l with
      | nil => intro h; cases h
      | cons x r ih =>
        intro h
        rw [List.filter_cons, List.filter_cons]
        rcases List.mem_cons.mp h with z | z
        · subst z
          rw [if_neg (by rw [irr]; exact Bool.false_ne_true), if_pos hl]
          exact Nat.lt_succ_of_le (mono r fun y hy => tr _ _ _ hy hl)
        · have := ih z
          by_cases q : lt x a = true
          · rw [if_pos q, if_pos (tr _ _ _ q hl)]
            exact Nat.succ_lt_succ this
          · rw [if_neg q]
            split
            · exact Nat.lt_succ_of_lt this
            · exact this
    have := key ks ha
    exact decide_eq_true (by unfold rankK; omega)
  | false =>
    have : (ks.filter fun x => lt x b).length ≤ (ks.filter fun x => lt x a).length := mono ks fun x hx => by
      by_cases q : a = b
      · rw [q]; exact hx
      · exact tr _ _ _ hx (tot a b q hl)
    exact decide_eq_false (by unfold rankK; omega)
end
end My
namespace My
open PySem PySem.Spec PyProof.Rows L2 PyProof PySem.SeqAt
section
variable {K : Type} [DecidableEq K] {V : HVK K} {kf : Value → K} {us : List Value}
variable {prog : Program} {w : World} {A : Around} {E : Value → Shared → Prop} {s : Shared} {I a : Addr} {es : Array (Int × Value)} {ep : Nat} {t : SetTable}
end
section
variable {K : Type} [DecidableEq K] {V : HVK K} {kf : Value → K} {us : List Value}
variable {prog : Program} {w : World} {A : Around} {E : Value → Shared → Prop} {s : Shared} {a : Addr} {ks : List K} {led : Bool}
end
end My
namespace My
open PySem PySem.Spec PySem.W PyProof.Rows L2 PyProof PySem.SeqAt
section
variable {K L : Type} [DecidableEq K] [DecidableEq L]
end
noncomputable abbrev Nk := Int × Int
noncomputable def ltN (a b : Nk) : Bool := ltP VO.int.lt VO.int.lt a b
noncomputable def NdV (H : Hp) (v : V) (n : Nk) : Prop := ∃ p, v = .ref p ∧ H p = some (.tup [.int n.1, .int n.2])
section
variable {X : Cx} {pins : List (Addr × Obj)} {σ : L2.St} {H : Hp} {s : Shared}
theorem lift_keys {α : Type} {R : V → α → Prop} : ∀ (js : List α) (out : List Value), js.length = out.length → (∀ p ∈ js.zip out, ∃ x, RelV x p.2 ∧ R x p.1) → ∃ ys, Vals ys out ∧ Paired R ys js
  | [], [], _, _ => ⟨[], .nil, .nil⟩
  | [], _ :: _, h, _ => by cases h
  | _ :: _, [], h, _ => by cases h
  | j :: js, o :: out, h, f => by
    obtain ⟨x, rx, kx⟩ := f (j, o) (by rw [List.zip_cons_cons]; exact List.mem_cons_self)
    obtain ⟨ys, a, b⟩ := lift_keys js out (Nat.succ.inj h) fun p hp => f p (by rw [List.zip_cons_cons]; exact List.mem_cons_of_mem _ hp)
    exact ⟨x :: ys, .cons rx a, .cons kx b⟩
theorem zip_src {α : Type} {R : V → α → Prop} : ∀ {xs : List V} {ks : List α} {us : List Value}, Vals xs us → Paired R xs ks → ∀ p ∈ ks.zip us, ∃ x, x ∈ xs ∧ RelV x p.2 ∧ R x p.1
  | _, _, _, .nil, .nil, p, hp => by cases hp
  | _, _, _, .cons r t, .cons k q, p, hp => by
    rw [List.zip_cons_cons] at hp
    rcases List.mem_cons.mp hp with z | z
    · subst z; exact ⟨_, List.mem_cons_self, r, k⟩
    · obtain ⟨x, a, b⟩ := zip_src t q p z
      exact ⟨x, List.mem_cons_of_mem _ a, b⟩
theorem zip_fst {α β : Type} : ∀ {xs : List α} {ys : List β}, xs.length = ys.length → (xs.zip ys).map Prod.fst = xs
  | [], [], _ => rfl
  | [], _ :: _, h => by cases h
  | _ :: _, [], h => by cases h
  | x :: xs, y :: ys, h => by rw [List.zip_cons_cons, List.map_cons, zip_fst (Nat.succ.inj h)]
theorem paired_getR {α β : Type} {F : α → β → Prop} : ∀ {l : List α} {m : List β} {i : Nat} {b : β}, Paired F l m → m[i]? = some b → ∃ a, l[i]? = some a ∧ F a b
  | _, _, _, _, .nil, e => by simp at e
  | _, _, 0, _, .cons r _, e => by simp at e; subst e; exact ⟨_, rfl, r⟩
  | _, _, i + 1, _, .cons _ t, e => by
    obtain ⟨a, ea, f⟩ := paired_getR (i := i) t (by simpa using e)
    exact ⟨a, by simpa using ea, f⟩
end
end My
namespace My
open PySem PySem.Spec PyProof.Rows L2 PyProof
section
variable {prog : Program} {w : World} {A : Around} {E : Value → Shared → Prop} {s : Shared} {it d v : Addr} {es : Array DictEntry} {i ep : Nat}
end
section
variable {P : Program} {w : World} {K : PySem.W.Frag}
end
end My
namespace My
open PySem PySem.Spec PySem.W PyProof.Rows L2 PyProof PySem.SeqAt
section
variable {prog : Program} {w : World} {A : Around}
end
section
variable {X : Cx} {pins : List (Addr × Obj)} {σ : L2.St} {H : Hp} {s : Shared}
end
section
variable {X : Cx} {pins : List (Addr × Obj)} {σ : L2.St} {H : Hp} {s : Shared}
end
section
variable {X : Cx}
end
end My
namespace My
open PySem PySem.Spec PyProof.Rows L2 PyProof
section
variable {prog : Program} {w : World} {A : Around} {E : Value → Shared → Prop} {s : Shared}
end
inductive PrsT (K : PySem.W.Frag) (H : Hp) : List V → List (List Key × V) → Prop where
  | nil : PrsT K H [] []
  | cons {t b : Addr} {q : List Key × V} {ws : List V} {ps : List (List Key × V)} (h : SqT K H t [.ref b, q.2]) (hb : H b = some (.tup (q.1.map kV))) (r : PrsT K H ws ps) : PrsT K H (.ref t :: ws) (q :: ps)
theorem u16 {A : Around} (h : A.units + 64 < cLine) : A.units + 16 < cLine := by omega
end My
namespace My
open PySem PySem.Spec PyProof.Rows L2 PyProof
section
variable {prog : Program} {w : World} {A : Around}
end
end My
namespace My
open PySem PySem.Spec PySem.W PyProof.Rows L2 PyProof PySem.SeqAt
end My
namespace My
open PySem PySem.Spec PySem.W PyProof.Rows L2 PyProof PySem.SeqAt
noncomputable abbrev Tk := Int × Int × Int
noncomputable def ltT (a b : Tk) : Bool := ltP VO.int.lt VO.node.lt a b
theorem ltT_irr (x : Tk) : ltT x x = false := ltP_irr VO.int VO.node x
theorem ltT_tr (x y z : Tk) (h : ltT x y = true) (h' : ltT y z = true) : ltT x z = true := ltP_tr VO.int VO.node x y z h h'
theorem ltT_tot (x y : Tk) (n : x ≠ y) (h : ltT x y = false) : ltT y x = true := ltP_tot VO.int VO.node x y n h
noncomputable def IsT (h : Heap) (k : Tk) (v : Value) : Prop := ∃ (a : Addr) (o : Obj) (n : Nat) (t1 t2 t3 : Tok), v = .ref a ∧ h.get? a = some o ∧ o.cls = .type "tuple" ∧ o.data = .seq #[.int k.1 t1, .int k.2.1 t2, .int k.2.2 t3] n
noncomputable def SortedT (ks : List Tk) (vs : List Value) (js : List Tk) (out : List Value) : Prop := (js.zip out).Perm (ks.zip vs) ∧ js.length = out.length ∧ js.Pairwise fun a b => ltT b a = false
theorem ask_triples {prog : Program} {w : World} {A : Around} {s : Shared} {vs : List Value} {ks : List Tk} {G : Array Nat → Shared → Prop} (hlen : ks.length = vs.length) (h1 : 1 ≤ vs.length) (hu : A.units + 1 < cLine)
    (hk : ∀ (i : Nat) k, ks[i]? = some k → IsT s.heap k (vs.getD i .none)) (d0 : Tk)
    (h : ∀ p : Array Nat, p.toList.Perm (List.range vs.length) → (∀ i j, i ≤ j → j < vs.length → ltT (ks.getD (p.getD j 0) d0) (ks.getD (p.getD i 0) d0) = false) → G p s) :
    wpAny (model prog w) A (keyKind' vs.toArray) (fun κ s' => (kas_sort vs.length).kasWp (kas_ask prog w A κ vs) G s') (fun _ _ => False) s := by
  have tups : ∀ (vs : List Value) (ks : List Tk), ks.length = vs.length → (∀ (i : Nat) k, ks[i]? = some k → IsT s.heap k (vs.getD i .none)) → ∃ fs, KatTups s.heap vs fs ∧ fs.length = vs.length ∧ ∀ v ∈ fs, ∃ k : Int, VO.int.is s.heap k v := by
    intro vs
    induction vs with
    | nil => intro ks _ _; exact ⟨[], trivial, rfl, fun v hv => by cases hv⟩
    | cons v r ih =>
      intro ks hl hk
      cases ks with
      | nil => cases hl
      | cons k kr =>
        obtain ⟨fs, t, l, a⟩ := ih kr (Nat.succ.inj hl) fun i k' e => by
          have := hk (i + 1) k' e
          simpa using this
        obtain ⟨ad, o, n, t1, t2, t3, e, ho, hc, hd⟩ := hk 0 k rfl
        have e' : v = Value.ref ad := e
        subst e'
        refine ⟨.int k.1 t1 :: fs, KatTups.cons ho hc hd rfl t, by rw [List.length_cons, List.length_cons, l], fun v hv => ?_⟩
        rcases List.mem_cons.mp hv with z | z
        · exact ⟨k.1, z ▸ ⟨t1, rfl⟩⟩
        · exact a v z
  obtain ⟨fs, t, l, a⟩ := tups vs ks hlen hk
  refine kat_kind t (by omega) (fun v hv => let ⟨k, hk⟩ := a v hv; VO.int.typ _ hk) VO.int.rfT ?_
  have hget : ∀ i, i < vs.length → ks[i]? = some (ks.getD i d0) := fun i hi => by rw [List.getElem?_eq_getElem (by omega)]; simp [List.getD, hlen, hi]
  have hmem : ∀ i, i < vs.length → ks.getD i d0 ∈ ks := fun i hi => List.mem_of_getElem? (hget i hi)
  have rk : ∀ i j, i < vs.length → decide (((rankK ltT ks (ks.getD i d0) : Nat) : Int) < (rankK ltT ks (ks.getD j d0) : Nat)) = ltT (ks.getD i d0) (ks.getD j d0) := fun i j hi => rank_lt ltT_irr ltT_tr ltT_tot (hmem i hi)
  refine InP.wp (n := vs.length) (f := fun i => (rankK ltT ks (ks.getD i d0) : Nat)) (fun i j R hi hj hR => ?_) _ (low_sort h1) ?_
  · rw [rk i j hi] at hR
    obtain ⟨ad, o, n, t1, t2, t3, e, ho, hc, hd⟩ := hk i _ (hget i hi)
    obtain ⟨ad', o', n', t1', t2', t3', e', ho', hc', hd'⟩ := hk j _ (hget j hj)
    show wpAny _ _ (keyLt' _ (vs.getD i .none) (vs.getD j .none)) _ _ _
    rw [e, e']
    generalize ks.getD i d0 = x at *
    generalize ks.getD j d0 = y at *
    have hz : ∀ {A : Around}, A.units + VO.int.d < cLine ↔ A.units < cLine := fun {A} => Iff.rfl
    refine kat_lt ho hd ho' hd' (show KatLex prog w A _ _ R [(.int x.1 t1, .int y.1 t1'), (.int x.2.1 t2, .int y.2.1 t2'), (.int x.2.2 t3, .int y.2.2 t3')] 0 s from kat_cons ?_)
    refine VO.int.eq (show A.units + 0 < cLine by omega) ⟨t1, rfl⟩ ⟨t1', rfl⟩ prog w _ _ (kat_go (fun q => kat_yes (kat_cons ?_)) fun q => kat_no ?_)
    · have q' := of_decide_eq_true q
      unfold ltT ltP at hR
      rw [if_pos q'] at hR
      refine VO.int.eq (show A.units + 0 < cLine by omega) ⟨t2, rfl⟩ ⟨t2', rfl⟩ prog w _ _ (kat_go (fun y2 => kat_yes (kat_cons ?_)) fun y2 => kat_no ?_)
      · have q2 := of_decide_eq_true y2
        have hR2 : R (VO.int.lt x.2.2 y.2.2) s := by
          have : VO.node.lt x.2 y.2 = VO.int.lt x.2.2 y.2.2 := by
            show ltP VO.int.lt VO.int.lt x.2 y.2 = _
            unfold ltP
            rw [if_pos q2]
          rw [← this]
          exact hR
        refine VO.int.eq (show A.units + 0 < cLine by omega) ⟨t3, rfl⟩ ⟨t3', rfl⟩ prog w _ _ (kat_go (fun y3 => kat_yes (kat_nil ?_)) fun y3 => kat_no ?_)
        · have q3 := of_decide_eq_true y3
          rw [q3, VO.int.irr] at hR2
          exact hR2
        · exact VO.int.one _ (fun b => absurd b (by simp)) (show A.units + 0 < cLine by omega) ⟨t3, rfl⟩ ⟨t3', rfl⟩ hR2
      · have hR2 : R (VO.int.lt x.2.1 y.2.1) s := by
          have : VO.node.lt x.2 y.2 = VO.int.lt x.2.1 y.2.1 := by
            show ltP VO.int.lt VO.int.lt x.2 y.2 = _
            unfold ltP
            rw [if_neg (of_decide_eq_false y2)]
          rw [← this]
          exact hR
        exact VO.int.one _ (fun b => absurd b (by simp)) (show A.units + 0 < cLine by omega) ⟨t2, rfl⟩ ⟨t2', rfl⟩ hR2
    · unfold ltT ltP at hR
      rw [if_neg (of_decide_eq_false q)] at hR
      exact VO.int.one _ (fun b => by simpa using b) (show A.units + 0 < cLine by omega) ⟨t1, rfl⟩ ⟨t1', rfl⟩ hR
  · obtain ⟨pp, pr⟩ := sort_out (fun i => ((rankK ltT ks (ks.getD i d0) : Nat) : Int)) h1
    refine h _ pp fun i j hij hj => ?_
    have := pr i j hij hj
    have hpj : (outT (fun i => ((rankK ltT ks (ks.getD i d0) : Nat) : Int)) (kas_sort vs.length)).getD j 0 < vs.length := Low.at ⟨h1, fun x hx => List.mem_range.mp (pp.mem_iff.mp hx)⟩ j
    rw [← rk _ _ hpj]
    unfold KA at this
    exact decide_eq_false (Int.not_lt.mpr this)
theorem sortedT_of {ks : List Tk} {vs : List Value} (hlen : ks.length = vs.length) (d0 : Tk) {p : Array Nat} (hp : p.toList.Perm (List.range vs.length))
    (ho : ∀ i j, i ≤ j → j < vs.length → ltT (ks.getD (p.getD j 0) d0) (ks.getD (p.getD i 0) d0) = false) : SortedT ks vs (p.toList.map fun i => ks.getD i d0) (p.toList.map fun i => vs.getD i .none) := by
  refine ⟨?_, by simp, ?_⟩
  · rw [List.zip_map']
    have e : ks.zip vs = (List.range vs.length).map fun i => (ks.getD i d0, vs.getD i .none) := by
      apply List.ext_getElem
      · simp [hlen]
      · intro i h1 h2
        have hi : i < vs.length := by simpa using h2
        simp [List.getD, hi, hlen]
    rw [e]
    exact hp.map _
  · have hsz : p.size = vs.length := by rw [← Array.length_toList, hp.length_eq, List.length_range]
    rw [List.pairwise_iff_getElem]
    intro i j hi hj hij
    have hi' : i < p.size := by simpa using hi
    have hj' : j < p.size := by simpa using hj
    have := ho i j (Nat.le_of_lt hij) (by omega)
    have e1 : p.getD i 0 = p[i] := by simp [Array.getD, hi']
    have e2 : p.getD j 0 = p[j] := by simp [Array.getD, hj']
    rw [e1, e2] at this
    simpa using this
theorem IsT.keep {h h' : Heap} {k : Tk} {v : Value} (x : IsT h k v) (kp : KpT h h') : IsT h' k v := let ⟨a, o, n, t1, t2, t3, e, ho, hc, hd⟩ := x; ⟨a, o, n, t1, t2, t3, e, kp a o _ n ho hc hd, hc, hd⟩
theorem lsort_T {prog : Program} {w : World} {A : Around} {E : Value → Shared → Prop} {s : Shared} {vs : List Value} {ks : List Tk} {a F : Addr} {m : Str → Option Value} {n : Nat} {P : PySem.Fin → Shared → Prop} (hlen : ks.length = vs.length) (h64 : vs.length < 64) (hu : A.units + 1 < cLine) (d0 : Tk)
    (hk : ∀ (i : Nat) k, ks[i]? = some k → IsT s.heap k (vs.getD i .none)) (ho : s.heap.get? a = some (seqObj "list" vs.toArray n)) (hns : s.heap.Ns F m)
    (h : ∀ js out h' c, (∀ b o, b ≠ F → b ≠ a → s.heap.get? b = some o → h'.get? b = some o) → h'.Ns F m → h'.get? a = some (seqObj "list" (List.toArray out) c) → SortedT ks vs js out → P (.done (.ret .none)) { s with heap := h' }) :
    wpAny (model prog w) A (Builtin.«list.sort» ⟨[.ref a], []⟩) P E s := by
  have haF : a ≠ F := fun e => by
    obtain ⟨o, es, ep, e1, e2, _⟩ := hns
    rw [← e, ho] at e1
    cases e1
    cases e2
  by_cases h2 : 2 ≤ vs.length
  · have Fr0 : Fr {} F s.heap m := ⟨hns, (fun b o e => by rw [none_empty] at e; cases e), Nat.zero_le _⟩
    have Nw : News {} F s.heap ((allBut F s.heap).filter fun p => decide (p.1 ≠ a)) := fun p hp => by
      obtain ⟨x, y⟩ := allBut_of (List.mem_filter.mp hp).1
      exact ⟨y, x, none_empty _⟩
    have hna : ∀ p ∈ (allBut F s.heap).filter (fun p => decide (p.1 ≠ a)), p.1 ≠ a := fun p hp => of_decide_eq_true (List.mem_filter.mp hp).2
    have inN : ∀ {b : Addr} {o : Obj}, b ≠ F → b ≠ a → s.heap.get? b = some o → (b, o) ∈ (allBut F s.heap).filter fun p => decide (p.1 ≠ a) := fun {b o} x y e => List.mem_filter.mpr ⟨allBut_mem x e, decide_eq_true y⟩
    refine kat_list_sort Fr0 Nw ho haF (none_empty _) hna h2 h64 fun e1 h' F' N' => ?_
    have kp : KpT s.heap h' := fun b o xs c e hc hd => (N' (b, o) (.tail _ (inN (fun z => by
      obtain ⟨o', es, ep, e1, e2, _⟩ := hns
      rw [← z, e] at e1
      cases e1
      rw [hd] at e2
      cases e2) (fun z => by
      rw [z, ho] at e
      cases e
      exact absurd (show Value.type "list" = Value.type "tuple" from hc) (by decide)) e))).1
    refine ask_triples (s := { s with heap := h' }) hlen (by omega) hu (fun i k e => (hk i k e).keep kp) d0 fun p pp po => ?_
    refine KasFin.intro F' N' (.head hna) fun h3 c F3 N3 => ?_
    exact h _ _ h3 c (fun b o x y e => (N3 (b, o) (.tail _ (inN x y e))).1) F3.ns (N3 _ (.head _)).1 (sortedT_of hlen d0 pp po)
  · rw [list_sort_plain]
    have ha : a < s.heap.objs.size := Heap.lt_size ho
    refine wpAny_bind (listItems_at ho rfl (wpAny_bind (listUpdate_at ho rfl ?_ (by rw [List.size_toArray, sizeLine_eq]; omega) (Nat.zero_le _))))
    obtain ⟨e1, ho1⟩ : ∃ e1, (s.heap.update a (Obj.mapSeq fun _ => (#[] : Array Value))).get? a = some (seqObj "list" #[] e1) := ⟨_, get?_update_seq ho (fun _ => #[])⟩
    refine wpAny_bind (seqEpoch_at ho1 rfl (wpAny_bind (wpAny_newTuple (wpAny_bind (wpAny_newList (wpAny_holding ?_) (Nat.zero_le _))) (by show vs.length ≤ _; rw [sizeLine_eq]; omega))))
    have s1 := Heap.SameBut.update s.heap a (Obj.mapSeq fun _ => (#[] : Array Value))
    have k1 : ∀ b o, b ≠ a → s.heap.get? b = some o → (((s.heap.update a (Obj.mapSeq fun _ => (#[] : Array Value))).push (seqObj "tuple" vs.toArray 0)).push (seqObj "list" #[] 0)).get? b = some o := fun b o y e => Heap.get?_push_of_some _ (Heap.get?_push_of_some _ ((s1.2 b y).trans e))
    have ho6 : (((s.heap.update a (Obj.mapSeq fun _ => (#[] : Array Value))).push (seqObj "tuple" vs.toArray 0)).push (seqObj "list" #[] 0)).get? a = some (seqObj "list" #[] e1) := Heap.get?_push_of_some _ (Heap.get?_push_of_some _ ho1)
    show wpAny (model prog w) A _ P E { s with heap := ((s.heap.update a (Obj.mapSeq fun _ => (#[] : Array Value))).push (seqObj "tuple" vs.toArray 0)).push (seqObj "list" #[] 0) }
    generalize ((s.heap.update a (Obj.mapSeq fun _ => (#[] : Array Value))).push (seqObj "tuple" vs.toArray 0)).push (seqObj "list" #[] 0) = h6 at k1 ho6
    dsimp only
    have hn2 : vs.toArray.size < 2 := by rw [List.size_toArray]; omega
    rw [if_pos hn2, if_pos hn2]
    refine wpAny_bind (wpAny_pure ?_)
    rw [StateT.run_pure]
    refine wpAny_bind (wpAny_pure (show wpAny _ _ (seqEpoch a >>= _) _ _ { s with heap := h6 } from wpAny_bind (seqEpoch_at ho6 rfl ?_)))
    have eo : (arrOf (SortSt.mk' general' (vs.toArray.zip vs.toArray) #[] 7 none)).map (·.2) = vs.toArray := by
      show (vs.toArray.zip vs.toArray).map (·.2) = _
      apply Array.ext
      · simp
      · intro i h1 h2
        simp
    dsimp only
    rw [eo]
    refine wpAny_bind (listUpdate_at ho6 rfl ?_ (Nat.zero_le _) (by rw [List.size_toArray, sizeLine_eq]; omega))
    simp only [bne_self_eq_false, Bool.false_eq_true, if_false]
    have s2 := Heap.SameBut.update h6 a (Obj.mapSeq fun _ => vs.toArray)
    obtain ⟨c2, hc2⟩ : ∃ c2, (h6.update a (Obj.mapSeq fun _ => vs.toArray)).get? a = some (seqObj "list" vs.toArray c2) := ⟨_, get?_update_seq ho6 fun _ => vs.toArray⟩
    refine wpAny_pure (h ks vs _ c2 (fun b o _ y e => (s2.2 b y).trans (k1 b o y e)) ?_ hc2 ⟨.refl _, hlen, ?_⟩)
    · obtain ⟨o, es, ep, e1, e2, e3⟩ := hns
      exact ⟨o, es, ep, (s2.2 F haF.symm).trans (k1 F o haF.symm e1), e2, e3⟩
    · have hl1 : ks.length ≤ 1 := by omega
      match ks, hl1 with
      | [], _ => exact .nil
      | [x], _ => exact List.pairwise_cons.mpr ⟨(fun _ h => by cases h), List.Pairwise.nil⟩
noncomputable def TrV (H : Hp) (v : V) (k : Tk) : Prop := ∃ p, v = .ref p ∧ H p = some (.tup [.int k.1, .int k.2.1, .int k.2.2])
section
variable {X : Cx} {pins : List (Addr × Obj)} {σ : L2.St} {H : Hp} {s : Shared}
theorem tr_is (I : Inv X pins σ H s) {v : V} {k : Tk} {u : Value} (h : TrV H v k) (r : RelV v u) : IsT s.heap k u := by
  obtain ⟨p, rfl, e⟩ := h
  obtain rfl : u = Value.ref p := r
  obtain ⟨its, rv, ⟨o, e1, e2, c, e3⟩, _⟩ := I.tuple (SqT.of e)
  cases rv with
  | cons r1 t =>
    cases t with
    | cons r2 t2 =>
      cases t2 with
      | cons r3 t3 =>
        cases t3
        obtain ⟨t1, rfl⟩ := r1
        obtain ⟨t2, rfl⟩ := r2
        obtain ⟨t3, rfl⟩ := r3
        exact ⟨p, o, c, t1, t2, t3, rfl, e1, e2, e3⟩
theorem call_sortedT (hu : X.A.units + 16 < cLine) : CallR X (.builtin "sorted") (fun xs H Q => ∃ (a : Addr) (vs : List V) (ks : List Tk), xs = [V.ref a] ∧ SqL X.K H a vs ∧ Paired (TrV H) vs ks ∧ vs.length < 64 ∧
    ∀ p ys js, H p = none → Paired (TrV H) ys js → js.Perm ks → js.Pairwise (fun a b => ltT b a = false) → Q (.ref p) (upd H p (.lst ys))) := by
  intro pins s σ H xs us Q I r h
  obtain ⟨a, vs, ks, rfl, e, pk, h64, q⟩ := h
  obtain ⟨u, rfl, ru⟩ := vals1 r
  cases ru
  obtain ⟨m, hns, _⟩ := id I.loc
  obtain ⟨its, rv, plst, _⟩ := I.list e
  have hlen : its.length = vs.length := rv.length.symm
  have hlk : ks.length = its.length := (prs_len pk).symm.trans hlen.symm
  refine Calls.call_function_entry kind_sorted plain_sorted entry_sorted (args_sorted1 _) ?_
  unfold Builtin.«sorted»
  refine wpAny_bind (m := checkCount "sorted" 1 1 _) (wpAny_pure (wpAny_bind (collect_list plst.isList (wpAny_bind (wpAny_newList ?_ (by rw [sizeLine_eq]; omega))) (by rw [sizeLine_eq]; omega))))
  have k0 : ∀ b o, s.heap.get? b = some o → ((s.heap.push (seqObj "list" #[] 0)).update s.heap.objs.size (Obj.mapSeq (· ++ its.toArray))).get? b = some o := fun b o e => by
    rw [Heap.get?_update_ne _ _ _ _ (Nat.ne_of_lt (Heap.lt_size e))]
    exact Heap.get?_push_of_some _ e
  have hsz : ((s.heap.push (seqObj "list" #[] 0)).update s.heap.objs.size (Obj.mapSeq (· ++ its.toArray))).objs.size = s.heap.objs.size + 1 := by rw [Heap.size_update, size_push']
  generalize (s.heap.push (seqObj "list" #[] 0)).update s.heap.objs.size (Obj.mapSeq (· ++ its.toArray)) = h1 at k0 hsz
  have k1 : ∀ b o, s.heap.get? b = some o → (h1.push { cls := .type "list", data := .seq its.toArray }).get? b = some o := fun b o e => Heap.get?_push_of_some _ (k0 b o e)
  have hoL : (h1.push { cls := .type "list", data := .seq its.toArray }).get? h1.objs.size = some (seqObj "list" its.toArray 0) := Heap.get?_push_size _ rfl
  have I1 : Inv X pins σ H { s with heap := h1.push { cls := .type "list", data := .seq its.toArray } } := I.kept (t' := s.toks) k1
  refine wpAny_bind (wpAny_holding (wpAny_call_entry slot_list_sort ⟨_, hoL, rfl⟩ entry_list_sort (lsort_T (s := { s with heap := h1.push { cls := .type "list", data := .seq its.toArray } }) hlk (by omega) (show X.A.in1.in1.units + 1 < cLine by show X.A.units + 1 + 1 + 1 < cLine; omega) (0, 0, 0) ?_ hoL (hns.keeps k1) ?_) (args_list_sort _)))
  · intro i k ek
    obtain ⟨x, ex, kx⟩ := paired_getR pk ek
    obtain ⟨u, eu, ru⟩ := rv.get ex
    have : its.getD i .none = u := by simp [List.getD, eu]
    rw [this]
    exact tr_is I1 kx ru
  · intro js out h' c kp ns' hD ⟨pm, l1, pw⟩
    refine ⟨_, rfl, ?_⟩
    obtain ⟨ys, vy, py⟩ := lift_keys (R := TrV H) js out l1 fun p hp => by
      obtain ⟨x, _, a, b⟩ := zip_src rv pk p (pm.mem_iff.mp hp)
      exact ⟨x, a, b⟩
    have hD' : s.heap.objs.size ≤ h1.objs.size := by rw [hsz]; exact Nat.le_succ _
    have lo : out.length = its.length := by
      have := pm.length_eq
      rw [List.length_zip, List.length_zip, l1, hlk, Nat.min_self, Nat.min_self] at this
      exact this
    have I2 := inv_namesD (t' := s.toks) (D := h1.objs.size) (u := .lst ys) (h' := h') I (fun b o nb eb => kp b o nb (Nat.ne_of_lt (Nat.lt_of_lt_of_le (Heap.lt_size eb) hD')) (k1 b o eb)) (fun m' hm => ns_one hns hm ▸ ns') hD' ⟨by rw [vy.length, lo, sizeLine_eq]; omega, out, c, vy, hD⟩
    refine wpAny_pure ⟨_, rfl, .ref _, _, I2, rfl, q _ ys js (I.hok.fresh hD') py ?_ pw⟩
    have := pm.map Prod.fst
    rwa [zip_fst l1, zip_fst hlk] at this
theorem op_neE (hu : X.A.units + 64 < cLine) : OpR X (compareOp .NotEq) (fun x y H Q => ∃ a b kvs, x = .ref a ∧ y = .ref b ∧ Rd H a (.dK kvs) ∧ Rd H b (.dK []) ∧ Q (.bl (!kvs.isEmpty)) H) := by
  intro pins s σ H x y v u Q I rx ry h
  obtain ⟨a, b, kvs, rfl, rfl, ha, hb, q⟩ := h
  cases rx
  cases ry
  obtain ⟨_, ma, va, ra, da⟩ := dk_rd I.hok ha
  obtain ⟨_, mb, vb, rb, db⟩ := dk_rd I.hok hb
  have lb : vb.length = 0 := by rw [← rb.length]; rfl
  cases kvs with
  | nil =>
    have la : va.length = 0 := by rw [← ra.length]; rfl
    have ea : va = [] := List.length_eq_zero_iff.mp la
    subst ea
    refine PySem.W.keq_ne (r := true) ma mb da db (Nat.lt_of_le_of_lt (Nat.le_add_right _ _) hu) (fun _ => keqs fun kv m => by cases m) ?_
    rw [lb]
    exact ⟨.bl false, H, I, rfl, q⟩
  | cons p r =>
    have la : va.length = r.length + 1 := by rw [← ra.length]; rfl
    refine PySem.W.keq_ne (r := true) ma mb da db (Nat.lt_of_le_of_lt (Nat.le_add_right _ _) hu) (fun z => by omega) ?_
    rw [la, lb]
    exact ⟨.bl true, H, I, rfl, q⟩
theorem mt_indexI {K : PySem.W.Frag} (hu : X.A.units + 16 < cLine) (hK : X.K = K) : MtR X "list.index" (fun x xs H Q => ∃ (l : Addr) (ns : List Int) (k : Int), x = .ref l ∧ xs = [V.int k] ∧ SqL K H l (ns.map V.int) ∧ ns.length ≤ 1000 ∧ k ∈ ns ∧ Q (.int ((ns.idxOf k : Nat) : Int)) H) := by
  subst hK
  intro pins s σ H x xs v us Q I rx rv h
  obtain ⟨l, ns, k, rfl, rfl, hl, few, hk, q⟩ := h
  cases rx
  obtain ⟨u, rfl, t, rfl⟩ := vals1 rv
  obtain ⟨its, r, pl, _⟩ := I.list hl
  obtain ⟨⟨cls, dd, data, sl⟩, ho, hc, n, hd⟩ := pl.isList
  simp only at hc hd
  subst hc hd
  have hlen : its.length = ns.length := by rw [← r.length, List.length_map]
  have hj : ns.idxOf k < ns.length := List.idxOf_lt_length_iff.mpr hk
  have at_ : ∀ (i : Nat) (hi : i < its.length), ∃ t', its[i] = Value.int (ns[i]'(by omega)) t' := fun i hi => by
    obtain ⟨y, ey, ry⟩ := vals_get' r (List.getElem?_eq_getElem hi)
    rw [List.getElem?_map, List.getElem?_eq_getElem (by omega)] at ey
    cases ey
    exact ry
  refine call_meets PySem.F.slot_list_index ⟨_, ho, rfl⟩ PySem.F.entry_list_index (PySem.F.args_list_index_2 _ _)
    (list_indexAt l its.toArray n dd sl (.int k t) (fun y => match y with | .int m _ => decide (m = k) | _ => false) (ns.idxOf k) (by simpa [hlen] using hj) (by omega) ?_ ?_) ⟨ho, fun y hy => ?_, .int _, H, I.tok _, ⟨_, rfl⟩, q⟩
  · obtain ⟨t', e⟩ := at_ (ns.idxOf k) (by omega)
    rw [List.getElem_toArray, e]
    exact decide_eq_true (List.getElem_idxOf hj)
  · intro m hm hlt
    have hm' : m < its.length := by simpa using hm
    obtain ⟨t', e⟩ := at_ m hm'
    rw [List.getElem_toArray, e]
    refine decide_eq_false fun z => ?_
    exact absurd hlt (Nat.not_lt.mpr (by
      have := List.not_of_lt_findIdx (p := (· == k)) (xs := ns) (i := m) hlt
      simp [z] at this))
  · obtain ⟨i, hi, e⟩ := List.getElem_of_mem (by simpa using hy : y ∈ its)
    obtain ⟨t', e'⟩ := at_ i hi
    rw [e'] at e
    subst e
    exact HVK.int.eq (show X.A.in1.units + 0 < cLine by show X.A.units + 1 + 0 < cLine; omega) ⟨t', rfl⟩ ⟨t, rfl⟩
noncomputable def rInsertAt : V → List V → Hp → VK → Prop := fun x vs H Q => ∃ (l : Addr) (xs : List V) (i : Int) (y : V), x = .ref l ∧ vs = [.int i, y] ∧ H l = some (.lst xs) ∧ 0 ≤ i ∧ i ≤ xs.length ∧ xs.length < sizeLine ∧
  ∀ H', H' l = some (.lst (xs.take i.toNat ++ y :: xs.drop i.toNat)) → (∀ b o, b ≠ l → H b = some o → H' b = some o) → Q .non H'
theorem mt_insertAt : MtM X "list.insert" rInsertAt := by
  intro pins s σ H x vs v us Q I rx rv h
  obtain ⟨l, xs, i, y, rfl, rfl, hH, h0, h1, hz, q⟩ := h
  cases rx
  obtain ⟨w1, u, rfl, rw1, ru⟩ := vals2 rv
  obtain ⟨t, rfl⟩ := rw1
  obtain ⟨z, its, n, r, hl, e⟩ := I.lstM hH
  have z24 : sizeLine = 2 ^ 24 := rfl
  have fits : ¬(!Builtin.List.listFitsIndex i) = true := by
    unfold Builtin.List.listFitsIndex
    rw [decide_eq_true (show -(2 ^ 63 : Int) ≤ i by omega), decide_eq_true (show i < 2 ^ 63 by omega)]
    decide
  refine call_meets F.slot_list_insert ⟨_, e, rfl⟩ F.entry_list_insert (F.args_list_insert_3 _ _ _) (AutoSeq1.list_insert_list_int_val_1 l its.toArray n i t u fits (by rw [List.size_toArray]; omega)) ⟨e, ?_⟩
  refine ⟨.non, _, I.lset (its' := its.take i.toNat ++ u :: its.drop i.toNat) (ys := xs.take i.toNat ++ y :: xs.drop i.toNat) hH e ?_ ?_ ?_, rfl, q _ upd_same fun b o n e => by rw [upd_ne n]; exact e⟩
  · have hk : ¬ i < 0 := by omega
    have hm : min i.toNat its.toArray.size = i.toNat := by rw [List.size_toArray]; omega
    show (its.toArray.extract 0 (if i < 0 then (i + ((its.toArray.size : Nat) : Int)).toNat else min i.toNat its.toArray.size)).push u ++ its.toArray.extract (if i < 0 then (i + ((its.toArray.size : Nat) : Int)).toNat else min i.toNat its.toArray.size) = _
    rw [if_neg hk, hm]
    apply Array.toList_inj.mp
    simp
    exact List.take_of_length_le (by rw [List.length_drop]; exact Nat.le_refl _)
  · exact Vals.append (r.take _) (.cons ru (r.drop _))
  · rw [List.length_append, List.length_cons, List.length_take, List.length_drop]
    omega
end
end My
namespace My
open PySem PySem.Spec PySem.W PyProof.Rows L2 PyProof PySem.SeqAt
mutual
inductive TF (H : Hp) : V → PyData → List Addr → Prop where
  | int (i : Int) : TF H (.int i) (.int i) []
  | str (x : Str) : TF H (.str x) (.str x) []
  | lst {a : Addr} {xs : List V} {ds : List PyData} {f : List Addr} (h : H a = some (.lst xs)) (r : TFs H xs ds f) : TF H (.ref a) (.list ds) (a :: f)
  | tup {a : Addr} {xs : List V} {ds : List PyData} {f : List Addr} (h : H a = some (.tup xs)) (r : TFs H xs ds f) : TF H (.ref a) (.tuple ds) (a :: f)
inductive TFs (H : Hp) : List V → List PyData → List Addr → Prop where
  | nil : TFs H [] [] []
  | cons {x : V} {d : PyData} {xs : List V} {ds : List PyData} {f g : List Addr} (h : TF H x d f) (r : TFs H xs ds g) : TFs H (x :: xs) (d :: ds) (f ++ g)
end
mutual
theorem TF.tr {H : Hp} {v : V} {d : PyData} {f : List Addr} (h : TF H v d f) : Tr H v d := by
  cases h with
  | int i => exact .int i
  | str x => exact .str x
  | lst h r => exact .lst h (TFs.trs r)
  | tup h r => exact .tup h (TFs.trs r)
theorem TFs.trs {H : Hp} {vs : List V} {ds : List PyData} {f : List Addr} (h : TFs H vs ds f) : Trs H vs ds := by
  cases h with
  | nil => exact .nil
  | cons h r => exact .cons (TF.tr h) (TFs.trs r)
end
mutual
theorem TF.fr {H H' : Hp} {v : V} {d : PyData} {f : List Addr} (h : TF H v d f) (k : ∀ b ∈ f, ∀ o, H b = some o → H' b = some o) : TF H' v d f := by
  cases h with
  | int i => exact .int i
  | str x => exact .str x
  | lst h r => exact .lst (k _ List.mem_cons_self _ h) (TFs.fr r fun b hb => k b (List.mem_cons_of_mem _ hb))
  | tup h r => exact .tup (k _ List.mem_cons_self _ h) (TFs.fr r fun b hb => k b (List.mem_cons_of_mem _ hb))
theorem TFs.fr {H H' : Hp} {vs : List V} {ds : List PyData} {f : List Addr} (h : TFs H vs ds f) (k : ∀ b ∈ f, ∀ o, H b = some o → H' b = some o) : TFs H' vs ds f := by
  cases h with
  | nil => exact .nil
  | cons h r => exact .cons (TF.fr h fun b hb => k b (List.mem_append_left _ hb)) (TFs.fr r fun b hb => k b (List.mem_append_right _ hb))
end
mutual
theorem TF.live {H : Hp} {v : V} {d : PyData} {f : List Addr} (h : TF H v d f) : ∀ b ∈ f, (∃ xs, H b = some (.lst xs)) ∨ ∃ xs, H b = some (.tup xs) := by
  cases h with
  | int i => intro b hb; cases hb
  | str x => intro b hb; cases hb
  | lst h r =>
    intro b hb
    rcases List.mem_cons.mp hb with z | z
    · exact .inl ⟨_, z ▸ h⟩
    · exact TFs.live r b z
  | tup h r =>
    intro b hb
    rcases List.mem_cons.mp hb with z | z
    · exact .inr ⟨_, z ▸ h⟩
    · exact TFs.live r b z
theorem TFs.live {H : Hp} {vs : List V} {ds : List PyData} {f : List Addr} (h : TFs H vs ds f) : ∀ b ∈ f, (∃ xs, H b = some (.lst xs)) ∨ ∃ xs, H b = some (.tup xs) := by
  cases h with
  | nil => intro b hb; cases hb
  | cons h r =>
    intro b hb
    rcases List.mem_append.mp hb with z | z
    · exact TF.live h b z
    · exact TFs.live r b z
end
theorem TF.same {H H' : Hp} (s : Same H H') {v : V} {d : PyData} {f : List Addr} (h : TF H v d f) : TF H' v d f := h.fr fun b _ o e => s b o e
theorem TFs.same {H H' : Hp} (s : Same H H') {vs : List V} {ds : List PyData} {f : List Addr} (h : TFs H vs ds f) : TFs H' vs ds f := h.fr fun b _ o e => s b o e
theorem TF.not {H : Hp} {v : V} {d : PyData} {f : List Addr} (h : TF H v d f) {b : Addr} (e : H b = none) : b ∉ f := fun hb => by
  rcases h.live b hb with ⟨xs, q⟩ | ⟨xs, q⟩ <;> rw [e] at q <;> cases q
theorem TFs.not {H : Hp} {vs : List V} {ds : List PyData} {f : List Addr} (h : TFs H vs ds f) {b : Addr} (e : H b = none) : b ∉ f := fun hb => by
  rcases h.live b hb with ⟨xs, q⟩ | ⟨xs, q⟩ <;> rw [e] at q <;> cases q
theorem TFs.app {H : Hp} : ∀ {vs us : List V} {ds es : List PyData} {f g : List Addr}, TFs H vs ds f → TFs H us es g → TFs H (vs ++ us) (ds ++ es) (f ++ g)
  | _, _, _, _, _, _, .nil, r => r
  | _, _, _, _, _, _, .cons h q, r => by
    rw [List.append_assoc]
    exact .cons h (TFs.app q r)
theorem TFs.one {H : Hp} {v : V} {d : PyData} {f : List Addr} (h : TF H v d f) : TFs H [v] [d] f := by
  have := TFs.cons h .nil
  rw [List.append_nil] at this
  exact this
theorem TFs.ints {H : Hp} : ∀ ns : List Int, TFs H (ns.map V.int) (ns.map PyData.int) []
  | [] => .nil
  | n :: r => TFs.cons (f := []) (g := []) (.int n) (TFs.ints r)
theorem TFs.ints_of {H : Hp} : ∀ {vs : List V} {ns : List Int} {f : List Addr}, TFs H vs (ns.map PyData.int) f → vs = ns.map V.int ∧ f = []
  | _, [], _, .nil => ⟨rfl, rfl⟩
  | _, n :: r, _, .cons h q => by
    cases h
    obtain ⟨e, e2⟩ := TFs.ints_of q
    exact ⟨by rw [e]; rfl, by rw [e2]; rfl⟩
theorem TFs.len {H : Hp} {vs : List V} {ds : List PyData} {f : List Addr} (h : TFs H vs ds f) : vs.length = ds.length := h.trs.len
theorem TFs.focus {H : Hp} : ∀ {vs : List V} {ds : List PyData} {f : List Addr}, TFs H vs ds f → ∀ {i : Nat} {d : PyData}, ds[i]? = some d → ∃ x f1 f2 f3, vs[i]? = some x ∧ f = f1 ++ (f2 ++ f3) ∧ TF H x d f2 ∧
    ∀ H' x' d' f2', (∀ b ∈ f1 ++ f3, ∀ o, H b = some o → H' b = some o) → TF H' x' d' f2' → TFs H' (vs.set i x') (ds.set i d') (f1 ++ (f2' ++ f3))
  | _, _, _, .nil, i, d, e => by cases e
  | _, _, _, .cons (x := x) (f := f) (g := g) h r, 0, d, e => by
    cases e
    exact ⟨x, [], f, g, rfl, rfl, h, fun H' x' d' f2' k t => (TFs.cons t (r.fr fun b hb => k b hb) : TFs H' (x' :: _) (d' :: _) (f2' ++ g))⟩
  | _, _, _, .cons (x := x) (f := f) h r, i + 1, d, e => by
    obtain ⟨y, f1, f2, f3, e1, e2, e3, e4⟩ := TFs.focus r (i := i) (d := d) (by simpa using e)
    refine ⟨y, f ++ f1, f2, f3, by simpa using e1, by rw [e2, List.append_assoc], e3, fun H' x' d' f2' k t => ?_⟩
    rw [List.append_assoc]
    exact .cons (h.fr fun b hb => k b (by rw [List.append_assoc]; exact List.mem_append_left _ hb)) (e4 H' x' d' f2' (fun b hb => k b (by rw [List.append_assoc]; exact List.mem_append_right _ hb)) t)
theorem TFs.set_self {α : Type} : ∀ {xs : List α} {i : Nat} {x : α}, xs[i]? = some x → xs.set i x = xs
  | [], _, _, h => by cases h
  | y :: r, 0, x, h => by cases h; rfl
  | y :: r, i + 1, x, h => by
    show y :: r.set i x = _
    rw [TFs.set_self (xs := r) (by simpa using h)]
theorem nd3 {α : Type} {a b c : List α} : (a ++ (b ++ c)).Nodup ↔ (a ++ c).Nodup ∧ b.Nodup ∧ ∀ x ∈ b, x ∉ a ∧ x ∉ c := by
  rw [List.nodup_append, List.nodup_append, List.nodup_append]
  constructor
  · rintro ⟨h1, ⟨h2, h3, h4⟩, h5⟩
    exact ⟨⟨h1, h3, fun x hx y hy => h5 x hx y (List.mem_append_right _ hy)⟩, h2, fun x hx => ⟨fun z => h5 x z x (List.mem_append_left _ hx) rfl, fun z => h4 x hx x z rfl⟩⟩
  · rintro ⟨⟨h1, h2, h3⟩, h4, h5⟩
    refine ⟨h1, ⟨h4, h2, fun x hx y hy e => (h5 x hx).2 (e ▸ hy)⟩, fun x hx y hy e => ?_⟩
    rcases List.mem_append.mp hy with z | z
    · exact (h5 y z).1 (e ▸ hx)
    · exact h3 x hx y z e
theorem nd2 {α : Type} {a b : List α} : (a ++ b).Nodup ↔ a.Nodup ∧ b.Nodup ∧ ∀ x ∈ b, x ∉ a := by
  rw [List.nodup_append]
  constructor
  · rintro ⟨h1, h2, h3⟩
    exact ⟨h1, h2, fun x hx z => h3 x z x hx rfl⟩
  · rintro ⟨h1, h2, h3⟩
    exact ⟨h1, h2, fun x hx y hy e => h3 y hy (e ▸ hx)⟩
theorem compW {α : Type} {σ0 fs : L2.St} {k : Nat} {K : PySem.W.Frag} {l : Addr} {xs : List V} {g : TG} {tc : L2.TT} {te : TE} {Q : VK} {H1 : Hp} (as : List α) (ow : α → List Addr) (dx : α → PyData) (dy : α → PyData) (h0 : σ0 = List.replicate k none ++ fs) (hl : H1 l = some (.lst xs)) (ht : Trs H1 xs (as.map dx)) (hz : as.length ≤ sizeLine)
    (ho : as.Pairwise fun a c => ∀ b ∈ ow c, b ∉ ow a) (hv : ∀ a ∈ as, ∀ b ∈ ow a, ∃ o, H1 b = some o)
    (step : ∀ a, a ∈ as → ∀ H (ts : L2.St) v (R : Option V → L2.St → Hp → Prop), Same H1 H → ts.length = k → Tr H v (dx a) → (∀ y f (ts2 : L2.St) H3, ts2.length = k → Same H H3 → TF H3 y (dy a) f → f.Nodup → (∀ b ∈ f, H b = none ∨ b ∈ ow a) → R (some y) (ts2 ++ fs) H3) →
      g v (ts ++ fs) H fun τ2 H2 => tc τ2 H2 fun ok H3 => if ok = true then te τ2 H3 fun y H4 => R (some y) τ2 H4 else R none τ2 H3)
    (fin : ∀ D H' ys f, H1 D = none → Same H1 H' → H' D = some (.lst ys) → TFs H' ys (as.map dy) f → f.Nodup → (∀ b ∈ f, H1 b = none ∨ ∃ a ∈ as, b ∈ ow a) → D ∉ f → Q (.ref D) H') : compQF σ0 (Itl K l) g tc te Q H1 := by
  have hn : xs.length = as.length := by rw [ht.len, List.length_map]
  intro D hD
  refine ⟨fun i m ys τ H => m = as.length - i ∧ i ≤ as.length ∧ ys.length ≤ i ∧ (∃ f, TFs H ys ((as.take i).map dy) f ∧ f.Nodup ∧ (∀ b ∈ f, H1 b = none ∨ ∃ a ∈ as.take i, b ∈ ow a) ∧ D ∉ f) ∧ (∃ ts : L2.St, ts.length = k ∧ τ = ts ++ fs) ∧ Same H1 H ∧ H D = some (.lst ys), ⟨as.length, rfl, Nat.zero_le _, Nat.le_refl _, ⟨[], .nil, .nil, (fun b hb => by cases hb), (fun hb => by cases hb)⟩, ⟨_, List.length_replicate, h0⟩, Same.upd hD, upd_same⟩, ?_⟩
  rintro i m ys τ H ⟨rfl, hi, hyl, ⟨f, hp, hf, hfn, hDf⟩, ⟨ts, hts, rfl⟩, ss, hd⟩
  refine ⟨hd, ?_⟩
  by_cases hlt : i < as.length
  · refine .inr ⟨(gives_list (SqL.of (ss _ _ hl))).go i (by omega), by omega, ?_⟩
    rintro v H' ⟨rfl, yy⟩
    have e := yy xs (SqL.of (ss _ _ hl))
    obtain ⟨d, hde, tr⟩ := ht.get e
    have ea : as[i]? = some as[i] := List.getElem?_eq_getElem hlt
    rw [List.getElem?_map, ea] at hde
    cases hde
    refine step as[i] (List.getElem_mem hlt) H' ts v (fun o τ2 H3 => match o with
      | some y => H3 D = some (.lst ys) ∧ ∃ m', m' < as.length - i ∧ m' = as.length - (i + 1) ∧ i + 1 ≤ as.length ∧ (ys ++ [y]).length ≤ i + 1 ∧ (∃ f, TFs (upd H3 D (.lst (ys ++ [y]))) (ys ++ [y]) ((as.take (i + 1)).map dy) f ∧ f.Nodup ∧ (∀ b ∈ f, H1 b = none ∨ ∃ a ∈ as.take (i + 1), b ∈ ow a) ∧ D ∉ f) ∧ (∃ ts : L2.St, ts.length = k ∧ τ2 = ts ++ fs) ∧ Same H1 (upd H3 D (.lst (ys ++ [y]))) ∧ upd H3 D (.lst (ys ++ [y])) D = some (.lst (ys ++ [y]))
      | none => ∃ m', m' < as.length - i ∧ m' = as.length - (i + 1) ∧ i + 1 ≤ as.length ∧ ys.length ≤ i + 1 ∧ (∃ f, TFs H3 ys ((as.take (i + 1)).map dy) f ∧ f.Nodup ∧ (∀ b ∈ f, H1 b = none ∨ ∃ a ∈ as.take (i + 1), b ∈ ow a) ∧ D ∉ f) ∧ (∃ ts : L2.St, ts.length = k ∧ τ2 = ts ++ fs) ∧ Same H1 H3 ∧ H3 D = some (.lst ys)) ss hts (tr.same ss) (fun y f2 ts2 H3 h2 s3 tr3 nd2' fr3 => ?_)
    refine ⟨s3 _ _ hd, as.length - (i + 1), by omega, rfl, hlt, (by rw [List.length_append, List.length_singleton]; omega), ?_, ⟨ts2, h2, rfl⟩, (ss.trans s3).again hD, upd_same⟩
    have tk : as.take (i + 1) = as.take i ++ [as[i]] := by rw [List.take_add_one, ea]; rfl
    have hD2 : D ∉ f2 := fun z => by
      rcases fr3 D z with q | q
      · rw [hd] at q; cases q
      · obtain ⟨o, q⟩ := hv _ (List.getElem_mem hlt) D q
        rw [hD] at q; cases q
    refine ⟨f ++ f2, ?_, nd2.mpr ⟨hf, nd2', fun x hx z => ?_⟩, fun b hb => ?_, fun hb => ?_⟩
    · rw [tk, List.map_append]
      refine (hp.fr fun b hb o eb => ?_).app (TFs.one (tr3.fr fun b hb o eb => ?_))
      · rw [upd_ne (show b ≠ D from fun z => hDf (z ▸ hb))]
        exact s3 _ _ eb
      · rw [upd_ne (show b ≠ D from fun z => hD2 (z ▸ hb))]
        exact eb
    · rcases fr3 x hx with q | q
      · exact hp.not q z
      · rcases hfn x z with q2 | ⟨a, ha, q2⟩
        · obtain ⟨o, q3⟩ := hv _ (List.getElem_mem hlt) x q
          rw [q2] at q3; cases q3
        · obtain ⟨j, hj, ej⟩ := List.mem_iff_getElem.mp ha
          rw [List.length_take] at hj
          rw [List.getElem_take] at ej
          have := List.pairwise_iff_getElem.mp ho j i (by omega) hlt (by omega) x q
          rw [ej] at this
          exact this q2
    · rw [tk]
      rcases List.mem_append.mp hb with z | z
      · rcases hfn b z with q | ⟨a, ha, q⟩
        · exact .inl q
        · exact .inr ⟨a, List.mem_append_left _ ha, q⟩
      · rcases fr3 b z with q | q
        · exact .inl (ss.free q)
        · exact .inr ⟨as[i], List.mem_append_right _ (List.mem_singleton.mpr rfl), q⟩
    · rcases List.mem_append.mp hb with z | z
      · exact hDf z
      · exact hD2 z
  · have e : i = as.length := by omega
    subst e
    rw [List.take_length] at hp hfn
    exact .inl ⟨(gives_list (SqL.of (ss _ _ hl))).stop _ (by omega), fin D H ys f hD ss hd hp hf hfn hDf⟩
end My
namespace My
open PySem PySem.Spec PySem.W PyProof.Rows L2 PyProof PySem.SeqAt
structure FunD (K : PySem.W.Frag) (x qual : Str) (st : Stmt) (f : Addr) (fd : FuncData) : Prop where
  ex : ∃ (oc : Value) (od : Option Addr) (dV kV doc pm : Value) (an : Option Addr) (cdv ct : Value) (osl : Array (Option Value)),
    fd = PySem.W.fnOf x qual (defArgs st) (defBody st) (defScope st) dV kV doc pm an cdv ct ∧ K.lookup f = some ⟨oc, od, .func fd, osl⟩ ∧ PySem.W.codeIn K cdv qual = true
  kp : PySem.W.keepIn K (.ref f) = true
section
variable {P : Program} {w : World} {K : PySem.W.Frag} {mg : Str → Option Value} {base : Heap}
theorem fun_okWD {x qual : Str} {st : Stmt} {f : Addr} {fd : FuncData} {N ps : List Str} {k : Nat} {sp : Sp} (F : FunD K x qual st f fd) (S : FnScope N ps (defScope st)) (len : ∀ vs H Q E, sp vs H Q E → vs.length = ps.length)
    (hbody : ∀ (cdv : Value) (A : Around) (outer : List Env) (s : Shared) (H : Hp) (vs : List V) (Q : VK) (E : XK), Room k (A.deeper (envOfC qual (defScope st) s.heap.objs.size f cdv)) → sp vs H Q E →
      ∃ t, PSs (cxOf (CXW P w) P w K mg base N qual (defScope st) f cdv A outer s H E) (defBody st) t ∧ t { nx := fun _ H' => Q .non H', rt := Q } (start N vs) H) : FnOk P w K mg base (CXW P w) (k + 1) f fd ps sp := by
  obtain ⟨oc, od, dV, kV, doc, pm, an, cdv, ct, osl, rfl, lk, hcd⟩ := F.ex
  exact fn_of lk hcd S len fun A outer s H vs Q E hr hsp => hbody cdv A outer s H vs Q E hr hsp
theorem funD_mk {x qual : Str} {st : Stmt} {f : Addr} {oc : Value} {od an : Option Addr} {osl : Array (Option Value)} {dV kV doc pm cdv ct : Value} (l : K.lookup f = some ⟨oc, od, .func (PySem.W.fnOf x qual (defArgs st) (defBody st) (defScope st) dV kV doc pm an cdv ct), osl⟩)
    (c : PySem.W.codeIn K cdv qual = true) (k : PySem.W.keepIn K (.ref f) = true) : FunD K x qual st f (PySem.W.fnOf x qual (defArgs st) (defBody st) (defScope st) dV kV doc pm an cdv ct) := ⟨⟨oc, od, dV, kV, doc, pm, an, cdv, ct, osl, rfl, l, c⟩, k⟩
theorem binds_dflt {s : Shared} {fd : FuncData} {args : Args} {binds : List (Str × Value)} {T : Addr} {o : Obj} {items : Array Value} {n : Nat} (hd : fd.defaults = .ref T) (ho : K.lookup T = some o) (hs : o.data = .seq items n) (X : K.In s.heap)
    (h : ∃ k : Option (Array Value) → Sem (List (Str × Value)), bindArgs fd args = (seqItems? fd.defaults >>= k) ∧ k (some items) = pure binds) : BindsTo s fd args binds := by
  obtain ⟨k, h1, h2⟩ := h
  exact BindsTo.of_defaults hd (X _ _ ho) hs h1 h2
end
theorem ifS {c : L2.TT} {t u : TS} {D : Ends} {σ : L2.St} {H : Hp} {b : Bool} (h1 : ∀ Q : Bool → Hp → Prop, (∀ H', Same H H' → Q b H') → c σ H Q) (h2 : ∀ H', Same H H' → if b = true then t D σ H' else u D σ H') : tIfS c t u D σ H := h1 _ h2
theorem at_mod {α : Type} {xs : List α} {n : Nat} (z : Int) (hl : xs.length = n) (hn : 0 < n) : (z % (n : Int)).toNat < n ∧ ∃ v, xs[(z % (n : Int)).toNat]? = some v ∧ atI xs (z % (n : Int)) = some v := by
  have h0 := Int.emod_nonneg z (show (n : Int) ≠ 0 by omega)
  have h1 := Int.emod_lt_of_pos z (show (0 : Int) < n by omega)
  obtain ⟨j, hj⟩ := Int.eq_ofNat_of_zero_le h0
  rw [hj] at h1 ⊢
  have hjn : j < xs.length := by omega
  refine ⟨by simpa using (by omega : j < n), xs[j], ?_, atI_nat (List.getElem?_eq_getElem hjn)⟩
  rw [Int.toNat_natCast]
  exact List.getElem?_eq_getElem hjn
theorem at_modI {ns : List Int} {n : Nat} (z : Int) (hl : ns.length = n) (hn : 0 < n) : atI (ns.map V.int) (z % (n : Int)) = some (.int (ns.getD (z % (n : Int)).toNat 0)) ∧ ns.getD (z % (n : Int)).toNat 0 ∈ ns := by
  obtain ⟨_, v, e, _⟩ := at_mod (xs := ns) z hl hn
  have g : ns.getD (z % (n : Int)).toNat 0 = v := by rw [List.getD_eq_getElem?_getD, e]; rfl
  rw [g]
  refine ⟨?_, List.mem_of_getElem? e⟩
  have h0 := Int.emod_nonneg z (show (n : Int) ≠ 0 by omega)
  have := atI_nat (xs := ns.map V.int) (j := (z % (n : Int)).toNat) (v := .int v) (by rw [List.getElem?_map, e]; rfl)
  rwa [Int.toNat_of_nonneg h0] at this
theorem ix_mod {n : Nat} (z : Int) (hn : 0 < n) : ixN n (z % (n : Int)) = some (z % (n : Int)).toNat := by
  have h0 := Int.emod_nonneg z (show (n : Int) ≠ 0 by omega)
  have h1 := Int.emod_lt_of_pos z (show (0 : Int) < n by omega)
  unfold ixN
  rw [if_pos h0, if_pos h1]
theorem nd_swap {α : Type} {x y : List α} {a b : α} (h : (x ++ a :: y).Nodup) (hb : b ∉ x ++ y) : (x ++ b :: y).Nodup := by
  have h1 := (nd3 (a := x) (b := [a]) (c := y)).mp h
  exact (nd3 (a := x) (b := [b]) (c := y)).mpr ⟨h1.1, List.nodup_cons.mpr ⟨(fun z => by cases z), .nil⟩, fun z hz => by
    rw [List.mem_singleton.mp hz]
    exact ⟨fun w => hb (List.mem_append_left _ w), fun w => hb (List.mem_append_right _ w)⟩⟩
theorem erase_map {α β : Type} (f : α → β) : ∀ (l : List α) (j : Nat), (l.map f).eraseIdx j = (l.eraseIdx j).map f
  | [], _ => rfl
  | _ :: _, 0 => rfl
  | x :: r, j + 1 => by
    show f x :: (r.map f).eraseIdx j = f x :: (r.eraseIdx j).map f
    rw [erase_map f r j]
theorem getD_at {α : Type} {xs : List α} {i : Nat} {d : α} (h : i < xs.length) : xs[i]? = some (xs.getD i d) := by
  rw [List.getElem?_eq_getElem h, List.getD_eq_getElem?_getD, List.getElem?_eq_getElem h]
  rfl
theorem lst_open {H : Hp} {D : Addr} {ds : List PyData} {f : List Addr} (h : TF H (.ref D) (.list ds) f) : ∃ dv g, f = D :: g ∧ H D = some (.lst dv) ∧ TFs H dv ds g := by
  cases h with
  | lst h r => exact ⟨_, _, rfl, h, r⟩
theorem V.int_inj' {a b : Int} (h : V.int a = V.int b) : a = b := by injection h
end My
namespace My
open PySem PySem.Spec PySem.W PyProof.Rows L2 PyProof PySem.SeqAt
section
variable {X : Cx}
theorem call_in {k : Nat} {fa : Addr} {fd : FuncData} {ps : List Str} {sp : Sp} {fn : Str} {a1 : Expr} {as : List Expr} {t : TA} {pf cpos epos : Pos} {pins : List (Addr × Obj)} {σ : L2.St} {H : Hp} {s : Shared} {Qn : VK} {E' : XK} {R : Flow → Shared → Prop} {Er : Value → Shared → Prop}
    (F : FnOk X.prog X.w X.K X.mg X.base (CXW X.prog X.w) k fa fd ps sp) (hr : Room k X.A) (hg : Gl X fn) (hm : X.mg fn = some (.ref fa)) (hk : PySem.W.keepIn X.K (.ref fa) = true) (hb : Binds X.K fd ps [])
    (ha : PA X.nox (a1 :: as) t) (I : Inv X pins σ H s) (h : t σ H fun vs H1 => sp vs H1 Qn E')
    (hok : ∀ v H2 s', Inv X pins σ H2 s' → Qn v H2 → R .next s') (her : ∀ H1 s1 e s', Inv X pins σ H1 s1 → CXW X.prog X.w X.stack H1 s1 E' e s' → Er e s')
    (hdb : (fn == ("__debug__" : Str)) = false := by decide) (he : starEach (a1 :: as) X.env = (false, eval a1 X.env) :: starEach as X.env := by rfl) (hpl : (backTo cpos (starEach as X.env)).any (·.1) = false := by rfl)
    (hsw : swapsWith (.Call (.Name fn pf) (a1 :: as) [] cpos) none epos.line X.env = pure false := by rfl) :
    wpAny (model X.prog X.w) X.A (execs [.Expr (.Call (.Name fn pf) (a1 :: as) [] cpos) epos] X.env) R Er s := by
  refine wpAny_execs_cons (wpAny_Expr_any (wpAny_Call_Name_kw (ld_glob I hg hm ?_ hdb)) I.quiet hsw)
  refine PySem.W.callWith_K (h₀ := X.base) I.ok.mod.kin hk (wpAny_mono (ha cpos pins s σ H _ (I.wish _) h) (fun us s1 ⟨vs, H1, I1w, r, q⟩ => ⟨I1w.kIn, ?_⟩) fun _ _ z => z.elim) he hpl
  have I1 : Inv X pins σ H1 s1 := I1w.unwish
  have hl : us.length = ps.length := by rw [← r.length]; exact F.len _ _ _ _ q
  have hbb := hb s1 us I1.kIn (by rw [List.append_nil]; exact hl)
  rw [List.append_nil] at hbb
  refine wpAny_call (codeAny_mono (F.run X.A X.stack s1 H1 ⟨us, []⟩ us vs _ _ hr I1.env0 hbb r q) fun res s' hq => ?_)
  cases res with
  | ok fl =>
    cases fl with
    | ret u =>
      obtain ⟨v, H2, I2, r2, q2⟩ := I1.after hq
      exact wpAny_execs_nil (hok v H2 _ I2 q2)
    | next => exact False.elim hq
    | brk => exact False.elim hq
    | cont => exact False.elim hq
  | error e => exact her H1 s1 e s' I1 hq
theorem ps_tryIF {k k' : Nat} {fa fa' S : Addr} {fd fd' : FuncData} {ps ps' : List Str} {sp sp' : Sp} {fn fn' c n : Str} {j : Nat} {ct a1 a1' : Expr} {as as' : List Expr} {b₀ : Stmt} {suite : List Stmt} {tc : L2.TT} {t t' : TA} {th : TS} {pf cpos epos pf' cpos' epos' ipos np hpos pos : Pos}
    (hc : PT X.nox ct tc)
    (F : FnOk X.prog X.w X.K X.mg X.base (CXW X.prog X.w) k fa fd ps sp) (hr : Room k X.A) (hg : Gl X fn) (hm : X.mg fn = some (.ref fa)) (hk : PySem.W.keepIn X.K (.ref fa) = true) (hb : Binds X.K fd ps []) (ha : PA X.nox (a1 :: as) t)
    (F' : FnOk X.prog X.w X.K X.mg X.base (CXW X.prog X.w) k' fa' fd' ps' sp') (hr' : Room k' X.A) (hg' : Gl X fn') (hm' : X.mg fn' = some (.ref fa')) (hk' : PySem.W.keepIn X.K (.ref fa') = true) (hb' : Binds X.K fd' ps' []) (ha' : PA X.nox (a1' :: as') t')
    (T : ExcS X.K X.mg c S) (hgc : Gl X c) (hN : X.N.Nodup) (hj : X.N[j]? = some n) (hxn : X.env.scope.names.lookup n = some .local) (hst : X.stack = X.env :: X.outer) (hfr : X.env.frame = some X.env.locals)
    (hs : ∀ ea, PSs (markX X ea) (b₀ :: suite) th)
    (hdb : (fn == ("__debug__" : Str)) = false := by decide) (hdb' : (fn' == ("__debug__" : Str)) = false := by decide) (hdc : (c == ("__debug__" : Str)) = false := by decide) (he : starEach (a1 :: as) X.env = (false, eval a1 X.env) :: starEach as X.env := by rfl) (hpl : (backTo cpos (starEach as X.env)).any (·.1) = false := by rfl)
    (hsw : swapsWith (.Call (.Name fn pf) (a1 :: as) [] cpos) none epos.line X.env = pure false := by rfl)
    (he' : starEach (a1' :: as') X.env = (false, eval a1' X.env) :: starEach as' X.env := by rfl) (hpl' : (backTo cpos' (starEach as' X.env)).any (·.1) = false := by rfl)
    (hsw' : swapsWith (.Call (.Name fn' pf') (a1' :: as') [] cpos') none epos'.line X.env = pure false := by rfl) :
    PS X (.Try [.If ct [.Expr (.Call (.Name fn pf) (a1 :: as) [] cpos) epos] [.Expr (.Call (.Name fn' pf') (a1' :: as') [] cpos') epos'] ipos] [.ExceptHandler (some (.Name c np)) (some n) (b₀ :: suite) hpos] [] [] pos)
      (fun D σ H => tc σ H fun b H0 => if b = true
        then t σ H0 fun vs H1 => sp vs H1 (fun _ H2 => D.nx σ H2) (fun cls d H2 => ∃ C, cls = .ref C ∧ PySem.W.subIn X.K (.ref C) (.ref S) = some true ∧ ∀ ea, H2 ea = none → th (gone j D) (σ.set j (some (.ref ea))) (upd H2 ea (excO ea C)))
        else t' σ H0 fun vs H1 => sp' vs H1 (fun _ H2 => D.nx σ H2) (fun cls d H2 => ∃ C, cls = .ref C ∧ PySem.W.subIn X.K (.ref C) (.ref S) = some true ∧ ∀ ea, H2 ea = none → th (gone j D) (σ.set j (some (.ref ea))) (upd H2 ea (excO ea C)))) := by
  constructor; intro pins s σ H D I h
  refine wpAny_Try_except (wpAny_execs_cons (wpAny_If (wpAny_mono (hc pins s σ H _ (I.wish _) h) (fun b s1 ⟨H0, I0w, q⟩ => ?_) fun _ _ z => z.elim)))
  have I0 : Inv X pins σ H0 s1 := I0w.unwish
  cases b with
  | true =>
    rw [if_pos rfl] at q
    exact call_in F hr hg hm hk hb ha I0 q (fun v H2 s' I2 q2 => wpAny_execs_nil (wpAny_execs_nil ⟨_, H2, I2, q2⟩)) (fun H1 s1' e s' I1 hq => caught (ho := fun ea C _ => excO ea C) I1 hq T hgc hN hj hxn hst hfr hs (fun _ _ _ _ _ ⟨_, q, c, _⟩ => excO_ok q c) hdc) hdb he hpl hsw
  | false =>
    rw [if_neg Bool.false_ne_true] at q
    exact call_in F' hr' hg' hm' hk' hb' ha' I0 q (fun v H2 s' I2 q2 => wpAny_execs_nil (wpAny_execs_nil ⟨_, H2, I2, q2⟩)) (fun H1 s1' e s' I1 hq => caught (ho := fun ea C _ => excO ea C) I1 hq T hgc hN hj hxn hst hfr hs (fun _ _ _ _ _ ⟨_, q, c, _⟩ => excO_ok q c) hdc) hdb' he' hpl' hsw'
end
end My
namespace My
open PySem PySem.Spec PySem.W PyProof.Rows L2 PyProof PySem.SeqAt
noncomputable def KN (H H' : Hp) : Prop := ∀ b o, (∀ xs, o ≠ HO.lst xs) → H b = some o → H' b = some o
theorem KN.of {H H' : Hp} (s : Same H H') : KN H H' := fun b o _ e => s b o e
theorem KN.trans {A B C : Hp} (a : KN A B) (b : KN B C) : KN A C := fun x o n e => b x o n (a x o n e)
theorem KN.but {H H' : Hp} {D : Addr} {ys : List V} (h : H D = some (.lst ys)) (k : ∀ b o, b ≠ D → H b = some o → H' b = some o) : KN H H' := fun b o n e => k b o (fun z => by rw [z, h] at e; exact n _ (Option.some.inj e).symm) e
theorem KN.upd {H : Hp} {D : Addr} {ys : List V} {o : HO} (h : H D = some (.lst ys)) : KN H (upd H D o) := KN.but h fun b o n e => by rw [upd_ne n]; exact e
theorem paired_snoc {α β : Type} {F : α → β → Prop} : ∀ {xs : List α} {bs : List β} {x : α} {b : β}, Paired F xs bs → F x b → Paired F (xs ++ [x]) (bs ++ [b])
  | _, _, _, _, .nil, h => .cons h .nil
  | _, _, _, _, .cons r t, h => .cons r (paired_snoc t h)
theorem compP {β : Type} {σ0 fs : L2.St} {k : Nat} {J : It} {g : TG} {tc : L2.TT} {te : TE} {Q : VK} {H1 : Hp} (G : Hp → V → β → Prop) (Vi : Nat → Hp → V → Prop) (n : Nat) (f : Nat → Option β) (hG : ∀ H H' y b, KN H H' → G H y b → G H' y b) (h0 : σ0 = List.replicate k none ++ fs) (hz : n ≤ sizeLine)
    (hgo : ∀ i H, Same H1 H → i < n → J.go i H) (hstop : ∀ H, Same H1 H → J.stop n H) (hy : ∀ i H v H', Same H1 H → i < n → J.yld i H v H' → H' = H ∧ Vi i H v)
    (step : ∀ i, i < n → ∀ H (ts : L2.St) v (R : Option V → L2.St → Hp → Prop), Same H1 H → ts.length = k → Vi i H v → (∀ b y (ts2 : L2.St) H3, f i = some b → ts2.length = k → Same H H3 → G H3 y b → R (some y) (ts2 ++ fs) H3) → (f i = none → ∀ (ts2 : L2.St) H3, ts2.length = k → Same H H3 → R none (ts2 ++ fs) H3) →
      g v (ts ++ fs) H fun τ2 H2 => tc τ2 H2 fun ok H3 => if ok = true then te τ2 H3 fun y H4 => R (some y) τ2 H4 else R none τ2 H3)
    (fin : ∀ D H' ys, H1 D = none → Same H1 H' → H' D = some (.lst ys) → Paired (G H') ys ((List.range n).filterMap f) → Q (.ref D) H') : compQF σ0 J g tc te Q H1 := by
  intro D hD
  refine ⟨fun i m ys τ H => m = n - i ∧ i ≤ n ∧ ys.length ≤ i ∧ Paired (G H) ys ((List.range i).filterMap f) ∧ (∃ ts : L2.St, ts.length = k ∧ τ = ts ++ fs) ∧ Same H1 H ∧ H D = some (.lst ys), ⟨n, rfl, Nat.zero_le _, Nat.le_refl _, .nil, ⟨_, List.length_replicate, h0⟩, Same.upd hD, upd_same⟩, ?_⟩
  rintro i m ys τ H ⟨rfl, hi, hyl, hp, ⟨ts, hts, rfl⟩, ss, hd⟩
  refine ⟨hd, ?_⟩
  by_cases hlt : i < n
  · refine .inr ⟨hgo i H ss hlt, by omega, ?_⟩
    intro v H' hyl'
    obtain ⟨rfl, hv⟩ := hy i H v H' ss hlt hyl'
    have er : List.range (i + 1) = List.range i ++ [i] := List.range_succ
    refine step i hlt H' ts v (fun o τ2 H3 => match o with
      | some y => H3 D = some (.lst ys) ∧ ∃ m', m' < n - i ∧ m' = n - (i + 1) ∧ i + 1 ≤ n ∧ (ys ++ [y]).length ≤ i + 1 ∧ Paired (G (upd H3 D (.lst (ys ++ [y])))) (ys ++ [y]) ((List.range (i + 1)).filterMap f) ∧ (∃ ts : L2.St, ts.length = k ∧ τ2 = ts ++ fs) ∧ Same H1 (upd H3 D (.lst (ys ++ [y]))) ∧ upd H3 D (.lst (ys ++ [y])) D = some (.lst (ys ++ [y]))
      | none => ∃ m', m' < n - i ∧ m' = n - (i + 1) ∧ i + 1 ≤ n ∧ ys.length ≤ i + 1 ∧ Paired (G H3) ys ((List.range (i + 1)).filterMap f) ∧ (∃ ts : L2.St, ts.length = k ∧ τ2 = ts ++ fs) ∧ Same H1 H3 ∧ H3 D = some (.lst ys)) ss hts hv (fun b y ts2 H3 hb h2 s3 g3 => ?_) fun hb ts2 H3 h2 s3 => ?_
    · refine ⟨s3 _ _ hd, n - (i + 1), by omega, rfl, hlt, (by rw [List.length_append, List.length_singleton]; omega), ?_, ⟨ts2, h2, rfl⟩, (ss.trans s3).again hD, upd_same⟩
      have e1 : (List.range (i + 1)).filterMap f = (List.range i).filterMap f ++ [b] := by
        rw [er, List.filterMap_append]
        show _ ++ List.filterMap f [i] = _
        rw [List.filterMap_cons, hb]
        rfl
      rw [e1]
      have kn : KN H3 (upd H3 D (.lst (ys ++ [y]))) := KN.upd (s3 _ _ hd)
      exact paired_snoc (Paired.mapP hp fun _ _ z => hG _ _ _ _ ((KN.of s3).trans kn) z) (hG _ _ _ _ kn g3)
    · refine ⟨n - (i + 1), by omega, rfl, hlt, by omega, ?_, ⟨ts2, h2, rfl⟩, ss.trans s3, s3 _ _ hd⟩
      have e1 : (List.range (i + 1)).filterMap f = (List.range i).filterMap f := by
        rw [er, List.filterMap_append]
        show _ ++ List.filterMap f [i] = _
        rw [List.filterMap_cons, hb]
        exact List.append_nil _
      rw [e1]
      exact Paired.mapP hp fun _ _ z => hG _ _ _ _ (KN.of s3) z
  · have e : i = n := by omega
    subst e
    exact .inl ⟨hstop H ss, fin D H ys hD ss hd hp⟩
theorem compPL {α β : Type} {σ0 fs : L2.St} {k : Nat} {K : PySem.W.Frag} {l : Addr} {xs : List V} {g : TG} {tc : L2.TT} {te : TE} {Q : VK} {H1 : Hp} (G : Hp → V → β → Prop) (F : Hp → V → α → Prop) (as : List α) (f : α → Option β) (hG : ∀ H H' y b, KN H H' → G H y b → G H' y b) (hF : ∀ H H' y b, Same H H' → F H y b → F H' y b) (h0 : σ0 = List.replicate k none ++ fs)
    (hl : H1 l = some (.lst xs)) (hp : Paired (F H1) xs as) (hz : as.length ≤ sizeLine)
    (step : ∀ a, a ∈ as → ∀ H (ts : L2.St) v (R : Option V → L2.St → Hp → Prop), Same H1 H → ts.length = k → F H v a → (∀ b y (ts2 : L2.St) H3, f a = some b → ts2.length = k → Same H H3 → G H3 y b → R (some y) (ts2 ++ fs) H3) → (f a = none → ∀ (ts2 : L2.St) H3, ts2.length = k → Same H H3 → R none (ts2 ++ fs) H3) →
      g v (ts ++ fs) H fun τ2 H2 => tc τ2 H2 fun ok H3 => if ok = true then te τ2 H3 fun y H4 => R (some y) τ2 H4 else R none τ2 H3)
    (fin : ∀ D H' ys, H1 D = none → Same H1 H' → H' D = some (.lst ys) → Paired (G H') ys (as.filterMap f) → Q (.ref D) H') : compQF σ0 (Itl K l) g tc te Q H1 := by
  have hn : xs.length = as.length := prs_len hp
  refine compP G (fun i H v => ∃ a, as[i]? = some a ∧ F H v a) as.length (fun i => as[i]?.bind f) hG h0 hz (fun i H ss hi => (gives_list (SqL.of (ss _ _ hl))).go i (by omega)) (fun H ss => (gives_list (SqL.of (ss _ _ hl))).stop _ (by omega)) ?_ ?_ fun D H' ys hD ss hd pp => fin D H' ys hD ss hd (by rw [range_pick] at pp; exact pp)
  · rintro i H v H' ss hi ⟨rfl, yy⟩
    have e := yy xs (SqL.of (ss _ _ hl))
    obtain ⟨a, ea, fa⟩ := paired_get hp e
    exact ⟨rfl, a, ea, hF _ _ _ _ ss fa⟩
  · rintro i hi H ts v R ss hts ⟨a, ea, fa⟩ cs cn
    refine step a (List.mem_of_getElem? ea) H ts v R ss hts fa (fun b y ts2 H3 hb h2 s3 g3 => cs b y ts2 H3 (by rw [ea]; exact hb) h2 s3 g3) fun hb ts2 H3 h2 s3 => cn (by rw [ea]; exact hb) ts2 H3 h2 s3
theorem compPR {β : Type} {σ0 fs : L2.St} {k : Nat} {lo : Int} {g : TG} {tc : L2.TT} {te : TE} {Q : VK} {H1 : Hp} (G : Hp → V → β → Prop) (n : Nat) (f : Nat → Option β) (hG : ∀ H H' y b, KN H H' → G H y b → G H' y b) (h0 : σ0 = List.replicate k none ++ fs) (hz : n ≤ sizeLine)
    (step : ∀ i, i < n → ∀ H (ts : L2.St) (R : Option V → L2.St → Hp → Prop), Same H1 H → ts.length = k → (∀ b y (ts2 : L2.St) H3, f i = some b → ts2.length = k → Same H H3 → G H3 y b → R (some y) (ts2 ++ fs) H3) → (f i = none → ∀ (ts2 : L2.St) H3, ts2.length = k → Same H H3 → R none (ts2 ++ fs) H3) →
      g (.int (lo + (i : Int))) (ts ++ fs) H fun τ2 H2 => tc τ2 H2 fun ok H3 => if ok = true then te τ2 H3 fun y H4 => R (some y) τ2 H4 else R none τ2 H3)
    (fin : ∀ D H' ys, H1 D = none → Same H1 H' → H' D = some (.lst ys) → Paired (G H') ys ((List.range n).filterMap f) → Q (.ref D) H') : compQF σ0 (Itr lo n) g tc te Q H1 := by
  refine compP G (fun i _ v => v = .int (lo + (i : Int))) n f hG h0 hz (fun i H _ hi => hi) (fun H _ => Nat.le_refl _) ?_ ?_ fin
  · rintro i H v H' _ _ ⟨rfl, rfl⟩
    exact ⟨rfl, rfl⟩
  · rintro i hi H ts v R ss hts rfl cs cn
    exact step i hi H ts R ss hts cs cn
end My
namespace My
open PySem PySem.Spec PySem.W PyProof.Rows L2 PyProof PySem.SeqAt
section
variable {X : Cx}
theorem op_eqNil (hu : X.A.units + 64 < cLine) : OpR X (compareOp .Eq) (fun x y H Q => ∃ (a b : Addr) (xs : List V), x = .ref a ∧ y = .ref b ∧ SqL X.K H a xs ∧ SqL X.K H b [] ∧ Q (.bl xs.isEmpty) H) := by
  intro pins s σ H x y v u Q I rx ry h
  obtain ⟨a, b, xs, rfl, rfl, ha, hb, q⟩ := h
  cases xs with
  | nil => exact op_eqS hu pins s σ H (.ref a) (.ref b) v u Q I rx ry ⟨_, _, .lst ha .nil, .lst hb .nil, rfl, rfl, q⟩
  | cons w r =>
    cases rx
    cases ry
    obtain ⟨its, rv, ⟨o, n, e, c, d0, dd⟩, _⟩ := I.list ha
    obtain ⟨jts, rw', ⟨o2, n2, e2, c2, d2, dd2⟩, _⟩ := I.list hb
    cases rw'
    have hne : (its.toArray.size != (#[] : Array Value).size) = true := by
      cases rv
      simp
    exact PySem.SeqAt.RcAt.lists_lengths ⟨_, e, c, n, dd⟩ ⟨_, e2, c2, n2, dd2⟩ hne (Nat.lt_of_le_of_lt (Nat.le_add_right _ _) hu) _ _ _ _ ⟨.bl false, H, I, rfl, q⟩
end
theorem compWR {σ0 fs : L2.St} {k : Nat} {lo : Int} {g : TG} {tc : L2.TT} {te : TE} {Q : VK} {H1 : Hp} (n : Nat) (dy : Nat → PyData) (h0 : σ0 = List.replicate k none ++ fs) (hz : n ≤ sizeLine)
    (step : ∀ i, i < n → ∀ H (ts : L2.St) (R : Option V → L2.St → Hp → Prop), Same H1 H → ts.length = k → (∀ y f (ts2 : L2.St) H3, ts2.length = k → Same H H3 → TF H3 y (dy i) f → f.Nodup → (∀ b ∈ f, H b = none) → R (some y) (ts2 ++ fs) H3) →
      g (.int (lo + (i : Int))) (ts ++ fs) H fun τ2 H2 => tc τ2 H2 fun ok H3 => if ok = true then te τ2 H3 fun y H4 => R (some y) τ2 H4 else R none τ2 H3)
    (fin : ∀ D H' ys f, H1 D = none → Same H1 H' → H' D = some (.lst ys) → TFs H' ys ((List.range n).map dy) f → f.Nodup → (∀ b ∈ f, H1 b = none) → D ∉ f → Q (.ref D) H') : compQF σ0 (Itr lo n) g tc te Q H1 := by
  intro D hD
  refine ⟨fun i m ys τ H => m = n - i ∧ i ≤ n ∧ ys.length ≤ i ∧ (∃ f, TFs H ys ((List.range i).map dy) f ∧ f.Nodup ∧ (∀ b ∈ f, H1 b = none) ∧ D ∉ f) ∧ (∃ ts : L2.St, ts.length = k ∧ τ = ts ++ fs) ∧ Same H1 H ∧ H D = some (.lst ys), ⟨n, rfl, Nat.zero_le _, Nat.le_refl _, ⟨[], .nil, .nil, (fun b hb => by cases hb), (fun hb => by cases hb)⟩, ⟨_, List.length_replicate, h0⟩, Same.upd hD, upd_same⟩, ?_⟩
  rintro i m ys τ H ⟨rfl, hi, hyl, ⟨f, hp, hf, hfn, hDf⟩, ⟨ts, hts, rfl⟩, ss, hd⟩
  refine ⟨hd, ?_⟩
  by_cases hlt : i < n
  · refine .inr ⟨hlt, by omega, ?_⟩
    rintro v H' ⟨rfl, rfl⟩
    refine step i hlt H' ts (fun o τ2 H3 => match o with
      | some y => H3 D = some (.lst ys) ∧ ∃ m', m' < n - i ∧ m' = n - (i + 1) ∧ i + 1 ≤ n ∧ (ys ++ [y]).length ≤ i + 1 ∧ (∃ f, TFs (upd H3 D (.lst (ys ++ [y]))) (ys ++ [y]) ((List.range (i + 1)).map dy) f ∧ f.Nodup ∧ (∀ b ∈ f, H1 b = none) ∧ D ∉ f) ∧ (∃ ts : L2.St, ts.length = k ∧ τ2 = ts ++ fs) ∧ Same H1 (upd H3 D (.lst (ys ++ [y]))) ∧ upd H3 D (.lst (ys ++ [y])) D = some (.lst (ys ++ [y]))
      | none => ∃ m', m' < n - i ∧ m' = n - (i + 1) ∧ i + 1 ≤ n ∧ ys.length ≤ i + 1 ∧ (∃ f, TFs H3 ys ((List.range (i + 1)).map dy) f ∧ f.Nodup ∧ (∀ b ∈ f, H1 b = none) ∧ D ∉ f) ∧ (∃ ts : L2.St, ts.length = k ∧ τ2 = ts ++ fs) ∧ Same H1 H3 ∧ H3 D = some (.lst ys)) ss hts (fun y f2 ts2 H3 h2 s3 tr3 nd2' fr3 => ?_)
    refine ⟨s3 _ _ hd, n - (i + 1), by omega, rfl, hlt, (by rw [List.length_append, List.length_singleton]; omega), ?_, ⟨ts2, h2, rfl⟩, (ss.trans s3).again hD, upd_same⟩
    have hD2 : D ∉ f2 := fun z => by have q := fr3 D z; rw [hd] at q; cases q
    refine ⟨f ++ f2, ?_, nd2.mpr ⟨hf, nd2', fun x hx => hp.not (fr3 x hx)⟩, fun b hb => ?_, fun hb => ?_⟩
    · rw [List.range_succ, List.map_append]
      refine (hp.fr fun b hb o eb => ?_).app (TFs.one (tr3.fr fun b hb o eb => ?_))
      · rw [upd_ne (show b ≠ D from fun z => hDf (z ▸ hb))]
        exact s3 _ _ eb
      · rw [upd_ne (show b ≠ D from fun z => hD2 (z ▸ hb))]
        exact eb
    · rcases List.mem_append.mp hb with z | z
      · exact hfn b z
      · exact ss.free (fr3 b z)
    · rcases List.mem_append.mp hb with z | z
      · exact hDf z
      · exact hD2 z
  · have e : i = n := by omega
    subst e
    exact .inl ⟨Nat.le_refl _, fin D H ys f hD ss hd hp hf hfn hDf⟩
end My

namespace Lw
open PySem PySem.Spec PyProof.Rows L2 My
set_option maxHeartbeats 4000000
inductive Lv where
  | loose | kept | make | watch | hold
noncomputable def wd : Lv → Str
  | .loose => "loose"
  | .kept => "kept"
  | .make => "make"
  | .watch => "watch"
  | .hold => "hold"
noncomputable def ix : Lv → Nat
  | .loose => 0
  | .kept => 1
  | .make => 2
  | .watch => 3
  | .hold => 4
noncomputable def spotsL : Lv → Int → Int
  | .kept, n => n + 1
  | .make, _ => 2
  | _, _ => 1
noncomputable def spWord (l : Lv) : Sp := fun vs H Q _ => ∃ x, vs = [x] ∧ Q (.str (wd l)) H
noncomputable def spSpotsL (l : Lv) : Sp := fun vs H Q _ => ∃ (x : V) (n : Int), vs = [x, .int n] ∧ Q (.int (spotsL l n)) H
theorem Same.newO {C : Addr} {H : Hp} {x dx : Addr} (hx : H x = none) (hdx : H dx = none) (n : dx ≠ x) : Same H (upd (upd H dx (.own x)) x (.ins C dx [])) := fun b o e => by
  have b1 : b ≠ x := fun z => by rw [z, hx] at e; cases e
  have b2 : b ≠ dx := fun z => by rw [z, hdx] at e; cases e
  rw [upd_ne b1, upd_ne b2]
  exact e
noncomputable def spLevelOf (cls : Lv → Addr) (N : Addr) : Sp := fun vs H Q E => ∃ x : Str, vs = [.str x] ∧ x.length ≤ 600 ∧ (∀ c ∈ x.cps.toList, c < 16 ^ 8) ∧ (∀ l, x = wd l → ∀ a dx H', Same H H' → H' a = some (.ins (cls l) dx []) → Q (.ref a) H') ∧ ((∀ l, x ≠ wd l) → ∀ H', Same H H' → E (.ref N) none H')
noncomputable def top (i : Nat) : Stmt := PySem.Challenge.pw_skewhouse_k61_spots.main.body.getD i (.Pass ⟨0, 0, 0, 0⟩)
noncomputable def clsBody (s : Stmt) : List Stmt := match s with
  | .ClassDef _ _ _ b _ _ _ _ _ _ _ => b
  | _ => []
noncomputable abbrev s_Looseword : Stmt := (clsBody (top 6)).getD 0 (.Pass ⟨0, 0, 0, 0⟩)
noncomputable abbrev s_Loosespots : Stmt := (clsBody (top 6)).getD 6 (.Pass ⟨0, 0, 0, 0⟩)
noncomputable abbrev s_Keptword : Stmt := (clsBody (top 7)).getD 0 (.Pass ⟨0, 0, 0, 0⟩)
noncomputable abbrev s_Keptspots : Stmt := (clsBody (top 7)).getD 2 (.Pass ⟨0, 0, 0, 0⟩)
noncomputable abbrev s_Makeword : Stmt := (clsBody (top 8)).getD 0 (.Pass ⟨0, 0, 0, 0⟩)
noncomputable abbrev s_Makespots : Stmt := (clsBody (top 8)).getD 3 (.Pass ⟨0, 0, 0, 0⟩)
noncomputable abbrev s_Watchword : Stmt := (clsBody (top 9)).getD 0 (.Pass ⟨0, 0, 0, 0⟩)
noncomputable abbrev s_Watchspots : Stmt := (clsBody (top 9)).getD 2 (.Pass ⟨0, 0, 0, 0⟩)
noncomputable abbrev s_Holdword : Stmt := (clsBody (top 10)).getD 0 (.Pass ⟨0, 0, 0, 0⟩)
noncomputable abbrev s_Holdspots : Stmt := (clsBody (top 10)).getD 2 (.Pass ⟨0, 0, 0, 0⟩)
noncomputable abbrev s_levelof : Stmt := top 11
noncomputable abbrev s_levelsof : Stmt := top 16
noncomputable abbrev s_spotsof : Stmt := top 17
noncomputable abbrev s_spots : Stmt := top 20
noncomputable abbrev s_edges : Stmt := top 28
noncomputable abbrev s_Lcellat : Stmt := top 30
noncomputable abbrev s_Lwhole : Stmt := top 31
noncomputable abbrev s_Lstream : Stmt := top 32
noncomputable abbrev s_Lkeys : Stmt := top 33
noncomputable abbrev s_Ltimes : Stmt := top 34
noncomputable abbrev s_Ldrawn : Stmt := top 35
noncomputable abbrev s_Lsource : Stmt := top 36
noncomputable abbrev s_Lspoiled : Stmt := top 37
noncomputable abbrev s_Ltale : Stmt := top 38
noncomputable abbrev s_Llonger : Stmt := top 39
noncomputable abbrev s_Lmany : Stmt := top 40
noncomputable abbrev s_Lword : Stmt := top 41
noncomputable abbrev s_Lodd : Stmt := top 42
noncomputable abbrev s_Ldue : Stmt := top 43
noncomputable abbrev s_Lalike : Stmt := top 44
noncomputable abbrev s_Lrefused : Stmt := top 45
noncomputable abbrev s_law : Stmt := top 46
set_option genInjectivity false in
set_option genSizeOf false in
structure Tx (K : PySem.W.Frag) (mg : Str → Option Value) where
  f_Looseword : Addr
  d_Looseword : FuncData
  F_Looseword : Fun K "word" "Loose.word" s_Looseword f_Looseword d_Looseword
  b_Looseword : Binds K d_Looseword ["self"] []
  f_Loosespots : Addr
  d_Loosespots : FuncData
  F_Loosespots : Fun K "spots" "Loose.spots" s_Loosespots f_Loosespots d_Loosespots
  b_Loosespots : Binds K d_Loosespots ["self", "looks"] []
  f_Keptword : Addr
  d_Keptword : FuncData
  F_Keptword : Fun K "word" "Kept.word" s_Keptword f_Keptword d_Keptword
  b_Keptword : Binds K d_Keptword ["self"] []
  f_Keptspots : Addr
  d_Keptspots : FuncData
  F_Keptspots : Fun K "spots" "Kept.spots" s_Keptspots f_Keptspots d_Keptspots
  b_Keptspots : Binds K d_Keptspots ["self", "looks"] []
  f_Makeword : Addr
  d_Makeword : FuncData
  F_Makeword : Fun K "word" "Make.word" s_Makeword f_Makeword d_Makeword
  b_Makeword : Binds K d_Makeword ["self"] []
  f_Makespots : Addr
  d_Makespots : FuncData
  F_Makespots : Fun K "spots" "Make.spots" s_Makespots f_Makespots d_Makespots
  b_Makespots : Binds K d_Makespots ["self", "looks"] []
  f_Watchword : Addr
  d_Watchword : FuncData
  F_Watchword : Fun K "word" "Watch.word" s_Watchword f_Watchword d_Watchword
  b_Watchword : Binds K d_Watchword ["self"] []
  f_Watchspots : Addr
  d_Watchspots : FuncData
  F_Watchspots : Fun K "spots" "Watch.spots" s_Watchspots f_Watchspots d_Watchspots
  b_Watchspots : Binds K d_Watchspots ["self", "looks"] []
  f_Holdword : Addr
  d_Holdword : FuncData
  F_Holdword : Fun K "word" "Hold.word" s_Holdword f_Holdword d_Holdword
  b_Holdword : Binds K d_Holdword ["self"] []
  f_Holdspots : Addr
  d_Holdspots : FuncData
  F_Holdspots : Fun K "spots" "Hold.spots" s_Holdspots f_Holdspots d_Holdspots
  b_Holdspots : Binds K d_Holdspots ["self", "looks"] []
  f_levelof : Addr
  d_levelof : FuncData
  F_levelof : Fun K "level_of" "level_of" s_levelof f_levelof d_levelof
  b_levelof : Binds K d_levelof ["word"] []
  m_levelof : mg "level_of" = some (.ref f_levelof)
  f_levelsof : Addr
  d_levelsof : FuncData
  F_levelsof : Fun K "levels_of" "levels_of" s_levelsof f_levelsof d_levelsof
  b_levelsof : Binds K d_levelsof ["past", "word"] []
  m_levelsof : mg "levels_of" = some (.ref f_levelsof)
  f_spotsof : Addr
  d_spotsof : FuncData
  F_spotsof : Fun K "spots_of" "spots_of" s_spotsof f_spotsof d_spotsof
  b_spotsof : Binds K d_spotsof ["deal", "level"] []
  m_spotsof : mg "spots_of" = some (.ref f_spotsof)
  f_spots : Addr
  d_spots : FuncData
  F_spots : FunD K "spots" "spots" s_spots f_spots d_spots
  b_spots : Binds K d_spots ["history", "word"] []
  bd_spots : Binds K d_spots ["history", "word"] [.none]
  m_spots : mg "spots" = some (.ref f_spots)
  f_edges : Addr
  d_edges : FuncData
  F_edges : FunD K "edges" "edges" s_edges f_edges d_edges
  b_edges : Binds K d_edges ["history", "word"] []
  bd_edges : Binds K d_edges ["history", "word"] [.none]
  m_edges : mg "edges" = some (.ref f_edges)
  f_Lcellat : Addr
  d_Lcellat : FuncData
  F_Lcellat : Fun K "_law_cell_at" "_law_cell_at" s_Lcellat f_Lcellat d_Lcellat
  b_Lcellat : Binds K d_Lcellat ["_law_script", "_law_k"] []
  m_Lcellat : mg "_law_cell_at" = some (.ref f_Lcellat)
  f_Lwhole : Addr
  d_Lwhole : FuncData
  F_Lwhole : Fun K "_law_whole" "_law_whole" s_Lwhole f_Lwhole d_Lwhole
  b_Lwhole : Binds K d_Lwhole ["_law_found"] []
  m_Lwhole : mg "_law_whole" = some (.ref f_Lwhole)
  f_Lstream : Addr
  d_Lstream : FuncData
  F_Lstream : Fun K "_law_stream" "_law_stream" s_Lstream f_Lstream d_Lstream
  b_Lstream : Binds K d_Lstream ["_law_cell", "_law_many_here"] []
  m_Lstream : mg "_law_stream" = some (.ref f_Lstream)
  f_Lkeys : Addr
  d_Lkeys : FuncData
  F_Lkeys : Fun K "_law_keys" "_law_keys" s_Lkeys f_Lkeys d_Lkeys
  b_Lkeys : Binds K d_Lkeys ["_law_cell"] []
  m_Lkeys : mg "_law_keys" = some (.ref f_Lkeys)
  f_Ltimes : Addr
  d_Ltimes : FuncData
  F_Ltimes : Fun K "_law_times" "_law_times" s_Ltimes f_Ltimes d_Ltimes
  b_Ltimes : Binds K d_Ltimes ["_law_xs", "_law_end"] []
  m_Ltimes : mg "_law_times" = some (.ref f_Ltimes)
  f_Ldrawn : Addr
  d_Ldrawn : FuncData
  F_Ldrawn : Fun K "_law_drawn" "_law_drawn" s_Ldrawn f_Ldrawn d_Ldrawn
  b_Ldrawn : Binds K d_Ldrawn ["_law_script"] []
  m_Ldrawn : mg "_law_drawn" = some (.ref f_Ldrawn)
  f_Lsource : Addr
  d_Lsource : FuncData
  F_Lsource : Fun K "_law_source" "_law_source" s_Lsource f_Lsource d_Lsource
  b_Lsource : Binds K d_Lsource ["_law_makers", "_law_ends", "_law_number", "_law_time"] []
  m_Lsource : mg "_law_source" = some (.ref f_Lsource)
  f_Lspoiled : Addr
  d_Lspoiled : FuncData
  F_Lspoiled : Fun K "_law_spoiled" "_law_spoiled" s_Lspoiled f_Lspoiled d_Lspoiled
  b_Lspoiled : Binds K d_Lspoiled ["_law_deals", "_law_makes", "_law_cell"] []
  m_Lspoiled : mg "_law_spoiled" = some (.ref f_Lspoiled)
  f_Ltale : Addr
  d_Ltale : FuncData
  F_Ltale : Fun K "_law_tale" "_law_tale" s_Ltale f_Ltale d_Ltale
  b_Ltale : Binds K d_Ltale ["_law_script"] []
  m_Ltale : mg "_law_tale" = some (.ref f_Ltale)
  f_Llonger : Addr
  d_Llonger : FuncData
  F_Llonger : Fun K "_law_longer" "_law_longer" s_Llonger f_Llonger d_Llonger
  b_Llonger : Binds K d_Llonger ["_law_script"] []
  m_Llonger : mg "_law_longer" = some (.ref f_Llonger)
  f_Lmany : Addr
  d_Lmany : FuncData
  F_Lmany : Fun K "_law_many" "_law_many" s_Lmany f_Lmany d_Lmany
  b_Lmany : Binds K d_Lmany ["_law_word_here", "_law_looks"] []
  m_Lmany : mg "_law_many" = some (.ref f_Lmany)
  f_Lword : Addr
  d_Lword : FuncData
  F_Lword : Fun K "_law_word" "_law_word" s_Lword f_Lword d_Lword
  b_Lword : Binds K d_Lword ["_law_cell"] []
  m_Lword : mg "_law_word" = some (.ref f_Lword)
  f_Lodd : Addr
  d_Lodd : FuncData
  F_Lodd : Fun K "_law_odd" "_law_odd" s_Lodd f_Lodd d_Lodd
  b_Lodd : Binds K d_Lodd ["_law_number"] []
  m_Lodd : mg "_law_odd" = some (.ref f_Lodd)
  f_Ldue : Addr
  d_Ldue : FuncData
  F_Ldue : Fun K "_law_due" "_law_due" s_Ldue f_Ldue d_Ldue
  b_Ldue : Binds K d_Ldue ["_law_tale_here", "_law_word_here"] []
  m_Ldue : mg "_law_due" = some (.ref f_Ldue)
  f_Lalike : Addr
  d_Lalike : FuncData
  F_Lalike : Fun K "_law_alike" "_law_alike" s_Lalike f_Lalike d_Lalike
  b_Lalike : Binds K d_Lalike ["_law_found", "_law_due_here"] []
  m_Lalike : mg "_law_alike" = some (.ref f_Lalike)
  f_Lrefused : Addr
  d_Lrefused : FuncData
  F_Lrefused : Fun K "_law_refused" "_law_refused" s_Lrefused f_Lrefused d_Lrefused
  b_Lrefused : Binds K d_Lrefused ["_law_tale_here", "_law_word_here", "_law_of_edges"] []
  m_Lrefused : mg "_law_refused" = some (.ref f_Lrefused)
  f_law : Addr
  d_law : FuncData
  F_law : Fun K "law" "law" s_law f_law d_law
  b_law : Binds K d_law ["_law_script"] []
  m_law : mg "law" = some (.ref f_law)
  c_SkewError : Addr
  m_SkewError : mg "SkewError" = some (.ref c_SkewError)
  c_NoLevel : Addr
  m_NoLevel : mg "NoLevel" = some (.ref c_NoLevel)
  c_Loose : Addr
  m_Loose : mg "Loose" = some (.ref c_Loose)
  c_Kept : Addr
  m_Kept : mg "Kept" = some (.ref c_Kept)
  c_Make : Addr
  m_Make : mg "Make" = some (.ref c_Make)
  c_Watch : Addr
  m_Watch : mg "Watch" = some (.ref c_Watch)
  c_Hold : Addr
  m_Hold : mg "Hold" = some (.ref c_Hold)
  c_NoHistory : Addr
  m_NoHistory : mg "NoHistory" = some (.ref c_NoHistory)
  x_NoLevel : ExcC K mg "NoLevel" c_NoLevel
  kx_NoLevel : ExcK K c_NoLevel
  mo_Loose : MkO K c_Loose
  cl_Loose : Cls K c_Loose
  tc_Loose : PySem.W.findIn K (.ref c_Loose) "__class__" = some (some (.builtin "object.__class__"))
  tm_Loose : PySem.W.mroIn K c_Loose (.type "object") = some true
  me_Loose_word : Meth K c_Loose "word" f_Looseword
  me_Loose_spots : Meth K c_Loose "spots" f_Loosespots
  mo_Kept : MkO K c_Kept
  cl_Kept : Cls K c_Kept
  tc_Kept : PySem.W.findIn K (.ref c_Kept) "__class__" = some (some (.builtin "object.__class__"))
  tm_Kept : PySem.W.mroIn K c_Kept (.type "object") = some true
  me_Kept_word : Meth K c_Kept "word" f_Keptword
  me_Kept_spots : Meth K c_Kept "spots" f_Keptspots
  mo_Make : MkO K c_Make
  cl_Make : Cls K c_Make
  tc_Make : PySem.W.findIn K (.ref c_Make) "__class__" = some (some (.builtin "object.__class__"))
  tm_Make : PySem.W.mroIn K c_Make (.type "object") = some true
  me_Make_word : Meth K c_Make "word" f_Makeword
  me_Make_spots : Meth K c_Make "spots" f_Makespots
  mo_Watch : MkO K c_Watch
  cl_Watch : Cls K c_Watch
  tc_Watch : PySem.W.findIn K (.ref c_Watch) "__class__" = some (some (.builtin "object.__class__"))
  tm_Watch : PySem.W.mroIn K c_Watch (.type "object") = some true
  me_Watch_word : Meth K c_Watch "word" f_Watchword
  me_Watch_spots : Meth K c_Watch "spots" f_Watchspots
  mo_Hold : MkO K c_Hold
  cl_Hold : Cls K c_Hold
  tc_Hold : PySem.W.findIn K (.ref c_Hold) "__class__" = some (some (.builtin "object.__class__"))
  tm_Hold : PySem.W.mroIn K c_Hold (.type "object") = some true
  me_Hold_word : Meth K c_Hold "word" f_Holdword
  me_Hold_spots : Meth K c_Hold "spots" f_Holdspots
  tg : PySem.W.specialIn K (.builtin "object.__class__") "__get__" = some (some (.builtin "getset_descriptor.__get__"))
  tt : PySem.W.takesIn K (.builtin "object.__class__") = some true
  ks_NoLevel : ExcS K mg "NoLevel" c_NoLevel
  kv_NoLevel : PySem.W.subIn K (.ref c_NoLevel) (.type "ValueError") = some true
  kp_NoLevel_SkewError : KitP K c_NoLevel c_SkewError true
  kp_NoLevel_NoHistory : KitP K c_NoLevel c_NoHistory false
  kp_NoLevel_NoLevel : KitP K c_NoLevel c_NoLevel true
  z_ValueError : mg "ValueError" = none
  z_bool : mg "bool" = none
  z_dict : mg "dict" = none
  z_int : mg "int" = none
  z_isinstance : mg "isinstance" = none
  z_len : mg "len" = none
  z_list : mg "list" = none
  z_range : mg "range" = none
  z_set : mg "set" = none
  z_sorted : mg "sorted" = none
  z_tuple : mg "tuple" = none
theorem sc_Looseword : FnScope ["self"] ["self"] (defScope s_Looseword) := ⟨rfl, rfl, rfl, by decide +kernel, rfl, by decide +kernel, by decide +kernel⟩
theorem sc_Loosespots : FnScope ["self", "looks"] ["self", "looks"] (defScope s_Loosespots) := ⟨rfl, rfl, rfl, by decide +kernel, rfl, by decide +kernel, by decide +kernel⟩
theorem sc_Keptword : FnScope ["self"] ["self"] (defScope s_Keptword) := ⟨rfl, rfl, rfl, by decide +kernel, rfl, by decide +kernel, by decide +kernel⟩
theorem sc_Keptspots : FnScope ["self", "looks"] ["self", "looks"] (defScope s_Keptspots) := ⟨rfl, rfl, rfl, by decide +kernel, rfl, by decide +kernel, by decide +kernel⟩
theorem sc_Makeword : FnScope ["self"] ["self"] (defScope s_Makeword) := ⟨rfl, rfl, rfl, by decide +kernel, rfl, by decide +kernel, by decide +kernel⟩
theorem sc_Makespots : FnScope ["self", "looks"] ["self", "looks"] (defScope s_Makespots) := ⟨rfl, rfl, rfl, by decide +kernel, rfl, by decide +kernel, by decide +kernel⟩
theorem sc_Watchword : FnScope ["self"] ["self"] (defScope s_Watchword) := ⟨rfl, rfl, rfl, by decide +kernel, rfl, by decide +kernel, by decide +kernel⟩
theorem sc_Watchspots : FnScope ["self", "looks"] ["self", "looks"] (defScope s_Watchspots) := ⟨rfl, rfl, rfl, by decide +kernel, rfl, by decide +kernel, by decide +kernel⟩
theorem sc_Holdword : FnScope ["self"] ["self"] (defScope s_Holdword) := ⟨rfl, rfl, rfl, by decide +kernel, rfl, by decide +kernel, by decide +kernel⟩
theorem sc_Holdspots : FnScope ["self", "looks"] ["self", "looks"] (defScope s_Holdspots) := ⟨rfl, rfl, rfl, by decide +kernel, rfl, by decide +kernel, by decide +kernel⟩
theorem sc_levelof : FnScope ["word", "level"] ["word"] (defScope s_levelof) := ⟨rfl, rfl, rfl, by decide +kernel, rfl, by decide +kernel, by decide +kernel⟩
theorem sc_levelsof : FnScope ["past", "word"] ["past", "word"] (defScope s_levelsof) := ⟨rfl, rfl, rfl, by decide +kernel, rfl, by decide +kernel, by decide +kernel⟩
theorem sc_spotsof : FnScope ["deal", "level"] ["deal", "level"] (defScope s_spotsof) := ⟨rfl, rfl, rfl, by decide +kernel, rfl, by decide +kernel, by decide +kernel⟩
theorem sc_spots : FnScope ["history", "word", "levels", "found", "deal"] ["history", "word"] (defScope s_spots) := ⟨rfl, rfl, rfl, by decide +kernel, rfl, by decide +kernel, by decide +kernel⟩
theorem sc_edges : FnScope ["history", "word", "levels", "found"] ["history", "word"] (defScope s_edges) := ⟨rfl, rfl, rfl, by decide +kernel, rfl, by decide +kernel, by decide +kernel⟩
theorem sc_Lcellat : FnScope ["_law_script", "_law_k"] ["_law_script", "_law_k"] (defScope s_Lcellat) := ⟨rfl, rfl, rfl, by decide +kernel, rfl, by decide +kernel, by decide +kernel⟩
theorem sc_Lwhole : FnScope ["_law_found"] ["_law_found"] (defScope s_Lwhole) := ⟨rfl, rfl, rfl, by decide +kernel, rfl, by decide +kernel, by decide +kernel⟩
theorem sc_Lstream : FnScope ["_law_cell", "_law_many_here", "_law_found", "_law_number", "_law_k"] ["_law_cell", "_law_many_here"] (defScope s_Lstream) := ⟨rfl, rfl, rfl, by decide +kernel, rfl, by decide +kernel, by decide +kernel⟩
theorem sc_Lkeys : FnScope ["_law_cell", "_law_xs", "_law_keys_here", "_law_j", "_law_key"] ["_law_cell"] (defScope s_Lkeys) := ⟨rfl, rfl, rfl, by decide +kernel, rfl, by decide +kernel, by decide +kernel⟩
theorem sc_Ltimes : FnScope ["_law_xs", "_law_end", "_law_many_here"] ["_law_xs", "_law_end"] (defScope s_Ltimes) := ⟨rfl, rfl, rfl, by decide +kernel, rfl, by decide +kernel, by decide +kernel⟩
theorem sc_Ldrawn : FnScope ["_law_script", "_law_found", "_law_number", "_law_xs", "_law_end", "_law_word_here"] ["_law_script"] (defScope s_Ldrawn) := ⟨rfl, rfl, rfl, by decide +kernel, rfl, by decide +kernel, by decide +kernel⟩
theorem sc_Lsource : FnScope ["_law_makers", "_law_ends", "_law_number", "_law_time", "_law_found", "_law_maker"] ["_law_makers", "_law_ends", "_law_number", "_law_time"] (defScope s_Lsource) := ⟨rfl, rfl, rfl, by decide +kernel, rfl, by decide +kernel, by decide +kernel⟩
theorem sc_Lspoiled : FnScope ["_law_deals", "_law_makes", "_law_cell", "_law_xs", "_law_number", "_law_word_here", "_law_looks", "_law_chain", "_law_moved", "_law_look", "_law_key", "_law_some"] ["_law_deals", "_law_makes", "_law_cell"] (defScope s_Lspoiled) := ⟨rfl, rfl, rfl, by decide +kernel, rfl, by decide +kernel, by decide +kernel⟩
theorem sc_Ltale : FnScope ["_law_script", "_law_keys_here", "_law_drawn_here", "_law_ends", "_law_makes", "_law_end", "_law_number", "_law_made", "_law_k", "_law_deals", "_law_word_here", "_law_times_here", "_law_bits", "_law_looks", "_law_j", "_law_there", "_law_cell"] ["_law_script"] (defScope s_Ltale) := ⟨rfl, rfl, rfl, by decide +kernel, rfl, by decide +kernel, by decide +kernel⟩
theorem sc_Llonger : FnScope ["_law_script", "_law_tale_here", "_law_cell", "_law_at", "_law_number", "_law_word_here", "_law_looks"] ["_law_script"] (defScope s_Llonger) := ⟨rfl, rfl, rfl, by decide +kernel, rfl, by decide +kernel, by decide +kernel⟩
theorem sc_Lmany : FnScope ["_law_word_here", "_law_looks"] ["_law_word_here", "_law_looks"] (defScope s_Lmany) := ⟨rfl, rfl, rfl, by decide +kernel, rfl, by decide +kernel, by decide +kernel⟩
theorem sc_Lword : FnScope ["_law_cell"] ["_law_cell"] (defScope s_Lword) := ⟨rfl, rfl, rfl, by decide +kernel, rfl, by decide +kernel, by decide +kernel⟩
theorem sc_Lodd : FnScope ["_law_number", "_law_some", "_law_word_here", "_law_at", "_law_letter"] ["_law_number"] (defScope s_Lodd) := ⟨rfl, rfl, rfl, by decide +kernel, rfl, by decide +kernel, by decide +kernel⟩
theorem sc_Ldue : FnScope ["_law_tale_here", "_law_word_here", "_law_due_here", "_law_number", "_law_own", "_law_looks", "_law_level"] ["_law_tale_here", "_law_word_here"] (defScope s_Ldue) := ⟨rfl, rfl, rfl, by decide +kernel, rfl, by decide +kernel, by decide +kernel⟩
theorem sc_Lalike : FnScope ["_law_found", "_law_due_here", "_law_spot"] ["_law_found", "_law_due_here"] (defScope s_Lalike) := ⟨rfl, rfl, rfl, by decide +kernel, rfl, by decide +kernel, by decide +kernel⟩
theorem sc_Lrefused : FnScope ["_law_tale_here", "_law_word_here", "_law_of_edges", "_law_kind", "e"] ["_law_tale_here", "_law_word_here", "_law_of_edges"] (defScope s_Lrefused) := ⟨rfl, rfl, rfl, by decide +kernel, rfl, by decide +kernel, by decide +kernel⟩
theorem sc_law : FnScope ["_law_script", "_law_tale_here", "_law_word_here", "_law_odd_here"] ["_law_script"] (defScope s_law) := ⟨rfl, rfl, rfl, by decide +kernel, rfl, by decide +kernel, by decide +kernel⟩
noncomputable def cO {K : PySem.W.Frag} {mg : Str → Option Value} (T : Tx K mg) : Lv → Addr
  | .loose => T.c_Loose
  | .kept => T.c_Kept
  | .make => T.c_Make
  | .watch => T.c_Watch
  | .hold => T.c_Hold
noncomputable abbrev Nds (H : Hp) : List V → List Nk → Prop := Paired (NdV H)
theorem paired_append {α β : Type} {F : α → β → Prop} : ∀ {xs : List α} {bs : List β} {ys : List α} {cs : List β}, Paired F xs bs → Paired F ys cs → Paired F (xs ++ ys) (bs ++ cs)
  | _, _, _, _, .nil, h => h
  | _, _, _, _, .cons r t, h => .cons r (paired_append t h)
noncomputable def bhF (js : List (Nk × Nk)) (n : Nk) : List Nk := (js.filter fun p => decide (p.1 = n)).map (·.2)
noncomputable def blk (E : List (Nk × Nk)) (L : List Nk) : List Nk := (E.filter fun p => decide (p.1 ∈ L)).map (·.2)
noncomputable def frE (E : List (Nk × Nk)) (L : List Nk) : List Nk := L.filter fun x => !decide (x ∈ blk E L)
structure Ord (E js : List (Nk × Nk)) (ns L acc fs : List Nk) : Prop where
  nd : L.Nodup
  pw : L.Pairwise fun a b => ltN b a = false
  sub : ∀ x ∈ L, x ∈ ns
  len : acc.length + L.length = ns.length
  fnd : fs.Nodup
  fm : ∀ x, x ∈ fs ↔ x ∈ frE E L
  past : ∀ y ∈ ns, y ∉ L → y ∉ L.flatMap (bhF js)
noncomputable def celF (cs : List Int) (k : Int) : Int := (cs[k.toNat]?).getD 0
noncomputable def spCellA (K : PySem.W.Frag) : Sp := fun vs H Q _ => ∃ (a : Addr) (cs : List Int) (k : Int), vs = [.ref a, .int k] ∧ SqL K H a (cs.map V.int) ∧ 0 ≤ k ∧ Q (.int (celF cs k)) H
noncomputable def spWhole : Sp := fun vs H Q _ => ∃ n : Int, vs = [.int n] ∧ Q (.bl true) H
noncomputable def dN (n : Nk) : PyData := .tuple [.int n.1, .int n.2]
theorem nd_dt {K : PySem.W.Frag} {H : Hp} {v : V} {n : Nk} (h : NdV H v n) : Dt K H v (dN n) := by
  obtain ⟨p, rfl, e⟩ := h
  exact .tup (SqT.of e) (.cons (.int _) (.cons (.int _) .nil))
theorem nds_dts {K : PySem.W.Frag} {H : Hp} : ∀ {vs : List V} {ns : List Nk}, Nds H vs ns → Dts K H vs (ns.map dN)
  | _, _, .nil => .nil
  | _, _, .cons r t => .cons (nd_dt r) (nds_dts t)
theorem lay_N : ∀ ns : List Nk, PyData.canLayAll0 (ns.map dN) = true ∧ PyData.depthAll (ns.map dN) ≤ 2
  | [] => ⟨rfl, Nat.zero_le _⟩
  | n :: r => by
    obtain ⟨a, b⟩ := lay_N r
    refine ⟨?_, ?_⟩
    · show (PyData.canLay0 (dN n) && PyData.canLayAll0 (r.map dN)) = true
      rw [a]
      rfl
    · show max (PyData.depth (dN n)) (PyData.depthAll (r.map dN)) ≤ 2
      exact Nat.max_le.mpr ⟨by show (1 : Nat) ≤ 2; decide, b⟩
theorem shaped_N (ns : List Nk) : SeqAt.shaped (.list (ns.map dN)) = true := by
  show (PyData.canLayAll0 (ns.map dN) && decide (PyData.depthAll (ns.map dN) + 1 ≤ 64)) = true
  have := (lay_N ns).2
  rw [(lay_N ns).1, decide_eq_true (by omega)]
  rfl
theorem eqv_N (ns : List Nk) : PyData.eqv (.list (ns.map dN)) (.list (ns.map dN)) = true := SeqAt.eqv_refl _ (lay_N ns).1
noncomputable def spLaw (K : PySem.W.Frag) : Sp := fun vs H Q _ => ∃ (a : Addr) (ns : List Int), vs = [.ref a] ∧ SqL K H a (ns.map V.int) ∧ ns.length ≤ 63 ∧ (∀ m ∈ ns, Builtin.Int.intBits m ≤ 1048576) ∧ ∀ H', Q (.bl true) H'
noncomputable def strN (c : Int) : Nat → Int
  | 0 => c % 2147483647
  | k + 1 => (strN c k * 48271 + 11 + (k : Int)) % 2147483647
noncomputable def streamF (c : Int) (m : Nat) : List Int := (List.range m).map fun k => strN c (k + 1)
theorem strN_rng (c : Int) (k : Nat) : 0 ≤ strN c k ∧ strN c k < 2147483647 := by
  cases k with
  | zero => exact ⟨Int.emod_nonneg _ (by decide), Int.emod_lt_of_pos _ (by decide)⟩
  | succ k => exact ⟨Int.emod_nonneg _ (by decide), Int.emod_lt_of_pos _ (by decide)⟩
theorem stream_len (c : Int) (m : Nat) : (streamF c m).length = m := by unfold streamF; rw [List.length_map, List.length_range]
theorem stream_at {c : Int} {m i : Nat} (h : i < m) : (streamF c m)[i]? = some (strN c (i + 1)) := by
  unfold streamF
  rw [List.getElem?_map, List.getElem?_range h]
  rfl
theorem stream_atI {c : Int} {m i : Nat} (h : i < m) : atI ((streamF c m).map V.int) (i : Int) = some (.int (strN c (i + 1))) := atI_nat (by rw [List.getElem?_map, stream_at h]; rfl)
theorem stream_snoc (c : Int) (m : Nat) : (streamF c (m + 1)).map V.int = (streamF c m).map V.int ++ [.int (strN c (m + 1))] := by
  unfold streamF
  rw [List.range_succ, List.map_append, List.map_append]
  rfl
noncomputable def spStream : Sp := fun vs H Q _ => ∃ (c : Int) (m : Nat), vs = [.int c, .int m] ∧ m ≤ 10 ∧ ∀ p H', H p = none → Same H H' → H' p = some (.lst ((streamF c m).map V.int)) → Q (.ref p) H'
noncomputable def keyF (x : Int) : Int := if x % 3 = 0 then x ^ 3 * 1009 % (2 * 10 ^ 30 - 1) - (10 ^ 30 - 1) else x / 3 % 7 - 3
noncomputable def keysF (c : Int) : List Int := risen (dd ((List.range (strN c 1 % 4).toNat).map fun j => keyF (strN c (j + 2))))
noncomputable def spKeysT (K : PySem.W.Frag) : Sp := fun vs H Q _ => ∃ c : Int, vs = [.int c] ∧ ∀ p H', H p = none → Same H H' → H' p = some (.lst ((keysF c).map V.int)) → Q (.ref p) H'
theorem stream_of (c : Int) (m : Nat) (i : Nat) (h : i < m) (z : Int) (e : z = (i : Int)) : atI ((streamF c m).map V.int) z = some (.int (strN c (i + 1))) := by rw [e]; exact stream_atI h
noncomputable def timesF (c e : Int) : List Int :=
  if strN c 4 % 4 = 0 then List.replicate (strN c 3 % 4).toNat e
  else if strN c 4 % 4 = 1 then List.replicate (strN c 3 % 4).toNat (e - strN c 8 % 400)
  else if strN c 4 % 4 = 2 then (List.range (strN c 3 % 4).toNat).map fun j : Nat => e - (strN c 3 % 4 - (j : Int)) * (strN c 8 % 150)
  else (List.range (strN c 3 % 4).toNat).map fun j : Nat => strN c (j + 5) / 8 % 1300
theorem times_len (c e : Int) : (timesF c e).length = (strN c 3 % 4).toNat := by
  unfold timesF
  split
  · rw [List.length_replicate]
  · split
    · rw [List.length_replicate]
    · split <;> rw [List.length_map, List.length_range]
theorem rep_flat {α : Type} (x : α) : ∀ n : Nat, (List.replicate n [x]).flatten = List.replicate n x
  | 0 => rfl
  | n + 1 => by rw [List.replicate_succ, List.flatten_cons, rep_flat x n]; rfl
noncomputable def spTimes (K : PySem.W.Frag) : Sp := fun vs H Q _ => ∃ (a : Addr) (c e : Int), vs = [.ref a, .int e] ∧ SqL K H a ((streamF c 10).map V.int) ∧ ∀ p H', H p = none → Same H H' → H' p = some (.lst ((timesF c e).map V.int)) → Q (.ref p) H'
theorem fm_some {α β : Type} (f : α → β) : ∀ l : List α, l.filterMap (fun j => some (f j)) = l.map f
  | [] => rfl
  | x :: r => by
    rw [List.filterMap_cons, fm_some f r]
    rfl
structure Dw where
  num : Int
  wrd : Str
  fin : Int
  tms : List Int
  bts : List Int
  mad : Int
noncomputable def wds : List Str := ["loose", "kept", "make", "watch", "hold"]
noncomputable def wdF (x : Int) : Str := wds.getD (x % 5).toNat "loose"
noncomputable def dwF (c : Int) (n : Int) : Dw := ⟨n, wdF (strN c 1), 100 * (strN c 2 % 12) + n, timesF c (100 * (strN c 2 % 12) + n), [strN c 5, strN c 6, strN c 7], strN c 9⟩
noncomputable def bitF (x : Int) (k : Nat) : Bool := decide (Builtin.bitAnd (x / 2 ^ k) 1 = 1)
theorem wd_at (x : Int) : atI [V.str "loose", V.str "kept", V.str "make", V.str "watch", V.str "hold"] (x % 5) = some (.str (wdF x)) := by
  have h0 := Int.emod_nonneg x (show (5 : Int) ≠ 0 by decide)
  have h1 := Int.emod_lt_of_pos x (show (0 : Int) < 5 by decide)
  unfold wdF
  obtain ⟨n, hn⟩ : ∃ n : Nat, x % 5 = (n : Int) := ⟨(x % 5).toNat, by omega⟩
  rw [hn] at h1 ⊢
  have : n = 0 ∨ n = 1 ∨ n = 2 ∨ n = 3 ∨ n = 4 := by omega
  rcases this with rfl | rfl | rfl | rfl | rfl <;> exact atI_nat rfl
noncomputable def dwO (cs : List Int) (j : Nat) : Option Dw := if bitF (celF cs 0 % 256) j = true then some (dwF (celF cs (1 + (1 + (j : Int))) + 7919 * (1 + (j : Int))) (1 + (j : Int))) else none
noncomputable def drawnF (cs : List Int) : List Dw := (List.range 8).filterMap (dwO cs)
noncomputable def DwV (p0 : Addr) (H : Hp) (v : V) (d : Dw) : Prop := ∃ p t b, v = .ref p ∧ t ≠ p0 ∧ b ≠ p0 ∧ H p = some (.tup [.int d.num, .str d.wrd, .int d.fin, .ref t, .ref b, .int d.mad]) ∧ H t = some (.lst (d.tms.map V.int)) ∧ H b = some (.lst (d.bts.map V.int))
noncomputable def spDrawn (K : PySem.W.Frag) : Sp := fun vs H Q _ => ∃ (a : Addr) (cs : List Int), vs = [.ref a] ∧ SqL K H a (cs.map V.int) ∧ ∀ p dv H', H p = none → Same H H' → H' p = some (.lst dv) → Paired (DwV p H') dv (drawnF cs) → Q (.ref p) H'
noncomputable abbrev Pr := Int × Int
noncomputable abbrev Lk := List Pr
noncomputable abbrev Dl := Int × Str × List Lk
noncomputable abbrev Mkr := Int × List Int
noncomputable abbrev Ps := List Dl × List Mkr
noncomputable def dPair (p : Pr) : PyData := .tuple [.int p.1, .int p.2]
noncomputable def dLook (l : Lk) : PyData := .list (l.map dPair)
noncomputable def dDeal (d : Dl) : PyData := .tuple [.int d.1, .str d.2.1, .list (d.2.2.map dLook)]
noncomputable def dMake (m : Mkr) : PyData := .tuple [.int m.1, .list (m.2.map PyData.int)]
noncomputable def dPast (p : Ps) : PyData := .tuple [.list (p.1.map dDeal), .list (p.2.map dMake)]
noncomputable def srcF (en : Int → Int) (n t : Int) (ms : List Int) : Int := ms.foldl (fun a m => if m ≠ n ∧ en m < t then m else a) 0
noncomputable def spSource : Sp := fun vs H Q _ => ∃ (a e : Addr) (kvs : List (Key × V)) (ms : List Int) (en : Int → Int) (n t : Int), vs = [.ref a, .ref e, .int n, .int t] ∧ H a = some (.lst (ms.map V.int)) ∧ H e = some (.dK kvs) ∧ (∀ m ∈ ms, valV kvs (Sum.inl m) = some (.int (en m))) ∧ Q (.int (srcF en n t ms)) H
noncomputable def ixM (ms : List Mkr) (k : Int) : Nat := (ms.map (·.1)).idxOf k
noncomputable def chF (ms : List Mkr) (k : Int) : List Int := ((ms[ixM ms k]?).map (·.2)).getD []
noncomputable def setM (ms : List Mkr) (k : Int) (ch : List Int) : List Mkr := ms.set (ixM ms k) (k, ch)
noncomputable def addM (ms : List Mkr) (k n : Int) : List Mkr := if k ∈ ms.map (·.1) then setM ms k (chF ms k ++ [n]) else ms ++ [(k, [n])]
theorem ixM_lt {ms : List Mkr} {k : Int} (h : k ∈ ms.map (·.1)) : ixM ms k < ms.length := by
  have := List.idxOf_lt_length_iff.mpr h
  rwa [List.length_map] at this
theorem ixM_at {ms : List Mkr} {k : Int} (h : k ∈ ms.map (·.1)) : ms[ixM ms k]? = some (k, chF ms k) := by
  have hl := ixM_lt h
  unfold chF
  rw [List.getElem?_eq_getElem hl]
  have h2 : (ms.map (·.1))[ixM ms k]'(by rw [List.length_map]; exact hl) = k := List.getElem_idxOf _
  rw [List.getElem_map] at h2
  exact congrArg some (Prod.ext h2 rfl)
theorem chF_none {ms : List Mkr} {k : Int} (h : k ∉ ms.map (·.1)) : chF ms k = [] := by
  unfold chF
  rw [List.getElem?_eq_none (by have := List.idxOf_eq_length h; unfold ixM; rw [this, List.length_map]; exact Nat.le_refl _)]
  rfl
theorem setM_keys (ms : List Mkr) (k : Int) (ch : List Int) : (setM ms k ch).map (·.1) = ms.map (·.1) := by
  unfold setM
  rw [List.map_set]
  by_cases h : k ∈ ms.map (·.1)
  · refine TFs.set_self ?_
    rw [List.getElem?_map, ixM_at h]
    rfl
  · rw [List.set_eq_of_length_le]
    have := List.idxOf_eq_length h
    unfold ixM
    rw [this]
    exact Nat.le_refl _
theorem addM_keys (ms : List Mkr) (k n : Int) : (addM ms k n).map (·.1) = if k ∈ ms.map (·.1) then ms.map (·.1) else ms.map (·.1) ++ [k] := by
  unfold addM
  split
  · exact setM_keys _ _ _
  · rw [List.map_append]; rfl
theorem addM_nodup {ms : List Mkr} (k n : Int) (h : (ms.map (·.1)).Nodup) : ((addM ms k n).map (·.1)).Nodup := by
  rw [addM_keys]
  split
  · exact h
  · next q => exact nd2.mpr ⟨h, List.nodup_cons.mpr ⟨(fun z => by cases z), .nil⟩, fun x hx => by rw [List.mem_singleton.mp hx]; exact q⟩
theorem mem_setM {ms : List Mkr} {k : Int} {ch : List Int} {m : Mkr} (h : m ∈ setM ms k ch) : m ∈ ms ∨ m = (k, ch) := by
  unfold setM at h
  exact (List.mem_or_eq_of_mem_set h)
theorem chF_mem {ms : List Mkr} {k x : Int} (h : x ∈ chF ms k) : ∃ m ∈ ms, x ∈ m.2 := by
  by_cases hk : k ∈ ms.map (·.1)
  · exact ⟨_, List.mem_of_getElem? (ixM_at hk), h⟩
  · rw [chF_none hk] at h; cases h
theorem mem_addM {ms : List Mkr} {k n x : Int} {m : Mkr} (h : m ∈ addM ms k n) (hx : x ∈ m.2) : x = n ∨ ∃ m' ∈ ms, x ∈ m'.2 := by
  unfold addM at h
  split at h
  · rcases mem_setM h with q | q
    · exact .inr ⟨m, q, hx⟩
    · rw [q] at hx
      rcases List.mem_append.mp hx with z | z
      · exact .inr (chF_mem z)
      · exact .inl (List.mem_singleton.mp z)
  · rcases List.mem_append.mp h with q | q
    · exact .inr ⟨m, q, hx⟩
    · rw [List.mem_singleton.mp q] at hx
      exact .inl (List.mem_singleton.mp hx)
noncomputable def dCh (m : Mkr) : PyData := .list (m.2.map PyData.int)
structure MkH (H : Hp) (M : Addr) (kvs : List (Key × V)) (ms : List Mkr) (f : List Addr) : Prop where
  dict : H M = some (.dK kvs)
  keys : kvs.map (·.1) = ms.map fun m => Sum.inl m.1
  vals : TFs H (kvs.map (·.2)) (ms.map dCh) f
theorem kv_val : ∀ {kvs : List (Key × V)} {ms : List Mkr}, kvs.map (·.1) = ms.map (fun m => Sum.inl m.1) → ∀ k : Int, valV kvs (Sum.inl k) = (kvs[ixM ms k]?).map (·.2)
  | [], [], _, k => rfl
  | [], _ :: _, h, _ => by cases h
  | _ :: _, [], h, _ => by cases h
  | q :: r, m :: s, h, k => by
    have h1 : q.1 = Sum.inl m.1 := (List.cons.inj h).1
    have h2 : r.map (·.1) = s.map (fun m => Sum.inl m.1) := (List.cons.inj h).2
    unfold valV ixM
    rw [List.find?_cons, List.map_cons, List.idxOf_cons]
    by_cases e : m.1 = k
    · rw [show decide (q.1 = Sum.inl k) = true from decide_eq_true (by rw [h1, e]), show (m.1 == k) = true from beq_iff_eq.mpr e]
      rfl
    · rw [show decide (q.1 = Sum.inl k) = false from decide_eq_false fun z => e (Sum.inl.inj (h1.symm.trans z)), show (m.1 == k) = false from beq_eq_false_iff_ne.mpr e]
      exact kv_val (kvs := r) (ms := s) h2 k
theorem MkH.has {H : Hp} {M : Addr} {kvs : List (Key × V)} {ms : List Mkr} {f : List Addr} (h : MkH H M kvs ms f) {k : Int} (hk : k ∈ ms.map (·.1)) : ∃ a f1 f3, valV kvs (Sum.inl k) = some (.ref a) ∧ H a = some (.lst ((chF ms k).map V.int)) ∧ f = f1 ++ ([a] ++ f3) ∧
    ∀ H' ch, H' M = some (.dK kvs) → (∀ b ∈ f1 ++ f3, ∀ o, H b = some o → H' b = some o) → H' a = some (.lst (ch.map V.int)) → MkH H' M kvs (setM ms k ch) f := by
  have hd : (ms.map dCh)[ixM ms k]? = some (dCh (k, chF ms k)) := by rw [List.getElem?_map, ixM_at hk]; rfl
  obtain ⟨x, f1, f2, f3, e1, e2, e3, e4⟩ := h.vals.focus hd
  have hv := kv_val h.keys k
  rw [List.getElem?_map] at e1
  rw [e1] at hv
  cases e3 with
  | lst ha r =>
    obtain ⟨rfl, rfl⟩ := TFs.ints_of r
    refine ⟨_, f1, f3, hv, ha, e2, fun H' ch hM kp h' => ⟨hM, ?_, ?_⟩⟩
    · rw [h.keys]
      have := congrArg (List.map (Sum.inl (β := Str))) (setM_keys ms k ch)
      rw [List.map_map, List.map_map] at this
      exact this.symm
    · have := e4 H' _ (dCh (k, ch)) _ kp (TF.lst h' (TFs.ints ch))
      rw [TFs.set_self (by rw [List.getElem?_map]; exact e1)] at this
      rw [e2]
      unfold setM
      rw [List.map_set]
      exact this
theorem MkH.not {H : Hp} {M : Addr} {kvs : List (Key × V)} {ms : List Mkr} {f : List Addr} (h : MkH H M kvs ms f) {k : Int} (hk : k ∉ ms.map (·.1)) : valV kvs (Sum.inl k) = none := by
  rw [kv_val h.keys k]
  have e : kvs.length = ms.length := by have := congrArg List.length h.keys; simpa using this
  rw [List.getElem?_eq_none (by have := List.idxOf_eq_length hk; unfold ixM; rw [this, List.length_map, e]; exact Nat.le_refl _)]
  rfl
theorem put_new {kvs : List (Key × V)} {k : Key} {v : V} (h : valV kvs k = none) : putK kvs k v = kvs ++ [(k, v)] := by
  unfold putK
  rw [if_neg]
  intro z
  obtain ⟨q, hq, e⟩ := List.any_eq_true.mp z
  unfold valV at h
  rw [Option.map_eq_none_iff, List.find?_eq_none] at h
  exact h q hq e
noncomputable def madeN (ks : List Int) (n made : Int) (ms : List Mkr) : Nat → List Mkr
  | 0 => ms
  | i + 1 => if bitF made i = true then addM (madeN ks n made ms i) (ks.getD i 0) n else madeN ks n made ms i
noncomputable def makesF (ks : List Int) (ts : List Tk) : List Mkr := ts.foldl (fun ms t => madeN ks t.2.1 t.2.2 ms ks.length) []
noncomputable def endF (ts : List Tk) (m : Int) : Int := ((ts.find? fun t => t.2.1 == m).map (·.1)).getD 0
noncomputable def srtF (ts : List Tk) : List Tk := ts.mergeSort fun a b => !ltT b a
theorem ltT_le_tr (a b c : Tk) (h1 : ltT b a = false) (h2 : ltT c b = false) : ltT c a = false := by
  cases h : ltT c a with
  | false => rfl
  | true =>
    by_cases e : a = b
    · rw [e] at h; rw [h] at h2; cases h2
    · have := ltT_tot b a (fun z => e z.symm) h1
      have := ltT_tr c a b h this
      rw [this] at h2; cases h2
theorem srt_is {ts js : List Tk} (p : js.Perm ts) (h : js.Pairwise fun a b => ltT b a = false) : js = srtF ts := by
  refine List.Perm.eq_of_pairwise (le := fun a b => ltT b a = false) (fun a b _ _ h1 h2 => ?_) h ?_ (p.trans (List.mergeSort_perm ts _).symm)
  · by_cases e : a = b
    · exact e
    · have := ltT_tot b a (fun z => e z.symm) h1
      rw [this] at h2; cases h2
  · have := List.pairwise_mergeSort (le := fun a b : Tk => !ltT b a) (fun a b c h1 h2 => by
      have h1' : ltT b a = false := by simpa using h1
      have h2' : ltT c b = false := by simpa using h2
      simpa using ltT_le_tr a b c h1' h2') (fun a b => by
      cases h : ltT b a with
      | false => rfl
      | true =>
        cases h' : ltT a b with
        | false => rfl
        | true =>
          have := ltT_tr a b a h' h
          rw [ltT_irr] at this; cases this) ts
    exact List.Pairwise.imp (fun h => by simpa using h) this
noncomputable def thereF (ks : List Int) (b : Int) : List Int := ks.filter fun k => bitF b (ks.idxOf k)
noncomputable def lookF (ks : List Int) (ms : List Mkr) (en : Int → Int) (n t b : Int) : Lk := (thereF ks b).map fun k => (k, srcF en n t (chF ms k))
noncomputable def dealF (ks : List Int) (ms : List Mkr) (en : Int → Int) (d : Dw) : Dl := (d.num, d.wrd, (List.range d.tms.length).map fun j => lookF ks ms en d.num (d.tms.getD j 0) (d.bts.getD j 0))
noncomputable def oddF (ms : List Mkr) (c n key : Int) : List Int := if strN c 1 / 4 % 12 = 0 then [-1] else 0 :: (chF ms key).filter fun m => decide (m ≠ n)
noncomputable def movF (c : Int) (ch : List Int) : List Int :=
  if 1 < ch.length then
    let j := (1 + strN c 4 % ((ch.length : Int) - 1)).toNat
    let p := (strN c 5 % (((ch.eraseIdx j).length : Int) + 1)).toNat
    (ch.eraseIdx j).take p ++ ch.getD j 0 :: (ch.eraseIdx j).drop p
  else ch
noncomputable def lokF (ms : List Mkr) (c n : Int) (l : Lk) : Lk :=
  let q := (strN c 4 % (l.length : Int)).toNat
  let o := oddF ms c n (l.getD q (0, 0)).1
  l.set q ((l.getD q (0, 0)).1, o.getD (strN c 5 % (o.length : Int)).toNat 0)
noncomputable def zD : Dl := (0, "", [])
noncomputable def spoilF (st : List Dl × List Mkr) (c : Int) : List Dl × List Mkr :=
  let i := (strN c 2 % (st.1.length : Int)).toNat
  let d := st.1.getD i zD
  if strN c 1 % 4 = 0 ∧ st.2 ≠ [] then
    let k := (risen (st.2.map (·.1))).getD (strN c 3 % (st.2.length : Int)).toNat 0
    (st.1, setM st.2 k (movF c (chF st.2 k)))
  else
    let j := (strN c 3 % (d.2.2.length : Int)).toNat
    if d.2.2 ≠ [] ∧ d.2.2.getD j [] ≠ [] then (st.1.set i (d.1, d.2.1, d.2.2.set j (lokF st.2 c d.1 (d.2.2.getD j []))), st.2) else st
noncomputable def tripF (ds : List Dw) : List Tk := ds.map fun d => (d.fin, d.num, d.mad)
noncomputable def stF (cs : List Int) : List Dl × List Mkr :=
  let ks := keysF (celF cs 1)
  let ts := srtF (tripF (drawnF cs))
  ((drawnF cs).map (dealF ks (makesF ks ts) (endF ts)), makesF ks ts)
noncomputable def spF (st : List Dl × List Mkr) (c : Int) : List Dl × List Mkr := if c % 6 = 0 ∧ st.1 ≠ [] then spoilF st (c / 6) else st
noncomputable def taS (cs : List Int) : List Dl × List Mkr := ((cs.drop 10).take 20).foldl spF (stF cs)
noncomputable def taleF (cs : List Int) : Ps := ((taS cs).1, (risen ((taS cs).2.map (·.1))).map fun k => (k, chF (taS cs).2 k))
structure TaH (H : Hp) (D M : Addr) (st : List Dl × List Mkr) (fd fm : List Addr) : Prop where
  deals : TF H (.ref D) (.list (st.1.map dDeal)) fd
  makes : ∃ kvs, MkH H M kvs st.2 fm
  nodup : (fd ++ fm).Nodup
  keys : (st.2.map (·.1)).Nodup
theorem MkH.same {H H' : Hp} (s : Same H H') {M : Addr} {kvs : List (Key × V)} {ms : List Mkr} {f : List Addr} (h : MkH H M kvs ms f) : MkH H' M kvs ms f := ⟨s _ _ h.dict, h.keys, h.vals.same s⟩
theorem MkH.len {H : Hp} {M : Addr} {kvs : List (Key × V)} {ms : List Mkr} {f : List Addr} (h : MkH H M kvs ms f) : kvs.length = ms.length := by have := congrArg List.length h.keys; simpa using this
theorem TaH.same {H H' : Hp} (s : Same H H') {D M : Addr} {st : List Dl × List Mkr} {fd fm : List Addr} (h : TaH H D M st fd fm) : TaH H' D M st fd fm := ⟨h.deals.same s, let ⟨kvs, m⟩ := h.makes; ⟨kvs, m.same s⟩, h.nodup, h.keys⟩
theorem deal_open {H : Hp} {v : V} {d : Dl} {f : List Addr} (h : TF H v (dDeal d) f) : ∃ p L lv fl, v = .ref p ∧ f = p :: L :: fl ∧ H p = some (.tup [.int d.1, .str d.2.1, .ref L]) ∧ H L = some (.lst lv) ∧ TFs H lv (d.2.2.map dLook) fl := by
  cases h with
  | tup h r =>
    cases r with
    | cons h1 r =>
      cases h1
      cases r with
      | cons h2 r =>
        cases h2
        cases r with
        | cons h3 r =>
          cases r
          cases h3 with
          | lst h4 r4 => exact ⟨_, _, _, _, rfl, by simp, h, h4, r4⟩
theorem deal_mk {H : Hp} {p L : Addr} {lv : List V} {d : Dl} {fl : List Addr} (h1 : H p = some (.tup [.int d.1, .str d.2.1, .ref L])) (h2 : H L = some (.lst lv)) (h3 : TFs H lv (d.2.2.map dLook) fl) : TF H (.ref p) (dDeal d) (p :: L :: fl) := by
  have := TF.tup h1 (TFs.cons (.int d.1) (TFs.cons (.str d.2.1) (TFs.one (TF.lst h2 h3))))
  exact this
theorem look_open {H : Hp} {v : V} {l : Lk} {f : List Addr} (h : TF H v (dLook l) f) : ∃ a pv fl, v = .ref a ∧ f = a :: fl ∧ H a = some (.lst pv) ∧ TFs H pv (l.map dPair) fl := by
  cases h with
  | lst h r => exact ⟨_, _, _, rfl, rfl, h, r⟩
theorem pair_open {H : Hp} {v : V} {p : Pr} {f : List Addr} (h : TF H v (dPair p) f) : ∃ a, v = .ref a ∧ f = [a] ∧ H a = some (.tup [.int p.1, .int p.2]) := by
  cases h with
  | tup h r =>
    cases r with
    | cons h1 r =>
      cases h1
      cases r with
      | cons h2 r =>
        cases h2
        cases r
        exact ⟨_, rfl, rfl, h⟩
theorem pair_mk {H : Hp} {a : Addr} {p : Pr} (h : H a = some (.tup [.int p.1, .int p.2])) : TF H (.ref a) (dPair p) [a] := TF.tup h (TFs.cons (f := []) (.int p.1) (TFs.cons (f := []) (.int p.2) .nil))
noncomputable def SpG (st : List Dl × List Mkr) : Prop := st.1.length ≤ 8 ∧ st.2.length ≤ 30 ∧ (∀ m ∈ st.2, m.2.length ≤ 30) ∧ (∀ d ∈ st.1, d.2.2.length ≤ 3 ∧ ∀ l ∈ d.2.2, l.length ≤ 3)
noncomputable def spSpoiled : Sp := fun vs H Q _ => ∃ (D M : Addr) (c : Int) (st : List Dl × List Mkr) (fd fm : List Addr), vs = [.ref D, .ref M, .int c] ∧ TaH H D M st fd fm ∧ st.1 ≠ [] ∧ SpG st ∧
  ∀ H' fd' fm', TaH H' D M (spoilF st c) fd' fm' → (∀ b o, b ∉ fd ++ fm → H b = some o → H' b = some o) → (∀ b ∈ fd' ++ fm', b ∈ fd ++ fm ∨ H b = none) → Q .non H'
noncomputable def spTale (K : PySem.W.Frag) : Sp := fun vs H Q _ => ∃ (a : Addr) (cs : List Int), vs = [.ref a] ∧ SqL K H a (cs.map V.int) ∧ cs.length ≤ 63 ∧
  ∀ v f H', Same H H' → TF H' v (dPast (taleF cs)) f → f.Nodup → (∀ b ∈ f, H b = none) → Q v H'
theorem movF_len (c : Int) (ch : List Int) : (movF c ch).length = ch.length := by
  unfold movF
  split
  · next h =>
    dsimp only
    have c0 := Int.emod_nonneg (strN c 4) (show ((ch.length : Int) - 1) ≠ 0 by omega)
    have c1 := Int.emod_lt_of_pos (strN c 4) (show (0 : Int) < (ch.length : Int) - 1 by omega)
    have hl : (ch.eraseIdx (1 + strN c 4 % ((ch.length : Int) - 1)).toNat).length = ch.length - 1 := List.length_eraseIdx_of_lt (by omega)
    rw [List.length_append, List.length_cons, List.length_take, List.length_drop]
    omega
  · rfl
theorem chF_len {ms : List Mkr} {k : Int} {n : Nat} (h : ∀ m ∈ ms, m.2.length ≤ n) : (chF ms k).length ≤ n := by
  by_cases km : k ∈ ms.map (·.1)
  · exact h _ (List.mem_of_getElem? (ixM_at km))
  · rw [chF_none km]; exact Nat.zero_le _
theorem setM_len (ms : List Mkr) (k : Int) (ch : List Int) : (setM ms k ch).length = ms.length := by unfold setM; rw [List.length_set]
theorem spG_spoil {st : List Dl × List Mkr} (h : SpG st) (c : Int) : SpG (spoilF st c) := by
  obtain ⟨h1, h2, h3, h4⟩ := h
  unfold spoilF
  dsimp only
  split
  · refine ⟨h1, by rw [setM_len]; exact h2, fun m hm => ?_, h4⟩
    rcases mem_setM hm with z | z
    · exact h3 m z
    · rw [z]
      show (movF c _).length ≤ 30
      rw [movF_len]
      exact chF_len h3
  · split
    · next e =>
      refine ⟨by rw [List.length_set]; exact h1, h2, h3, fun d hd => ?_⟩
      rcases List.mem_or_eq_of_mem_set hd with z | z
      · exact h4 d z
      · rw [z]
        dsimp only
        by_cases hi : (strN c 2 % (st.1.length : Int)).toNat < st.1.length
        · have hm := List.mem_of_getElem? (getD_at (d := zD) hi)
          obtain ⟨a1, a2⟩ := h4 _ hm
          refine ⟨by rw [List.length_set]; exact a1, fun l hl => ?_⟩
          rcases List.mem_or_eq_of_mem_set hl with w | w
          · exact a2 l w
          · rw [w]
            unfold lokF
            dsimp only
            rw [List.length_set]
            by_cases hj : (strN c 3 % ((st.1.getD (strN c 2 % (st.1.length : Int)).toNat zD).2.2.length : Int)).toNat < (st.1.getD (strN c 2 % (st.1.length : Int)).toNat zD).2.2.length
            · exact a2 _ (List.mem_of_getElem? (getD_at hj))
            · rw [List.getD_eq_getElem?_getD, List.getElem?_eq_none (by omega)]
              exact Nat.zero_le _
        · have : st.1.getD (strN c 2 % (st.1.length : Int)).toNat zD = zD := by rw [List.getD_eq_getElem?_getD, List.getElem?_eq_none (by omega)]; rfl
          rw [this] at e
          exact absurd rfl e.1
    · exact ⟨h1, h2, h3, h4⟩
theorem spG_sp {st : List Dl × List Mkr} (h : SpG st) (c : Int) : SpG (spF st c) := by
  unfold spF
  split
  · exact spG_spoil h _
  · exact h
theorem addM_few {ms : List Mkr} {k n : Int} {B : Nat} (h : ms.length ≤ B ∧ ∀ m ∈ ms, m.2.length ≤ B) : (addM ms k n).length ≤ B + 1 ∧ ∀ m ∈ addM ms k n, m.2.length ≤ B + 1 := by
  unfold addM
  split
  · refine ⟨by rw [setM_len]; omega, fun m hm => ?_⟩
    rcases mem_setM hm with z | z
    · have := h.2 m z; omega
    · rw [z]
      have := chF_len (k := k) h.2
      rw [List.length_append]
      show _ + 1 ≤ _
      omega
  · refine ⟨by rw [List.length_append]; show _ + 1 ≤ _; omega, fun m hm => ?_⟩
    rcases List.mem_append.mp hm with z | z
    · have := h.2 m z; omega
    · rw [List.mem_singleton.mp z]
      show 1 ≤ _
      omega
theorem madeN_few {ks : List Int} {n made : Int} {ms : List Mkr} {B : Nat} (h : ms.length ≤ B ∧ ∀ m ∈ ms, m.2.length ≤ B) : ∀ i, (madeN ks n made ms i).length ≤ B + i ∧ ∀ m ∈ madeN ks n made ms i, m.2.length ≤ B + i
  | 0 => h
  | i + 1 => by
    have ih := madeN_few (ks := ks) (n := n) (made := made) h i
    unfold madeN
    split
    · exact addM_few ih
    · exact ⟨by omega, fun m hm => by have := ih.2 m hm; omega⟩
theorem makes_few {ks : List Int} (hk : ks.length ≤ 3) (ts : List Tk) : ∀ i, (makesF ks (ts.take i)).length ≤ 3 * i ∧ ∀ m ∈ makesF ks (ts.take i), m.2.length ≤ 3 * i
  | 0 => ⟨Nat.le_refl _, fun m hm => by cases hm⟩
  | i + 1 => by
    have ih := makes_few hk ts i
    cases e : ts[i]? with
    | none =>
      rw [List.take_add_one, e]
      simp only [Option.toList_none, List.append_nil]
      exact ⟨by omega, fun m hm => by have := ih.2 m hm; omega⟩
    | some t =>
      have : makesF ks (ts.take (i + 1)) = madeN ks t.2.1 t.2.2 (makesF ks (ts.take i)) ks.length := by
        unfold makesF
        rw [List.take_add_one, e, List.foldl_append]
        rfl
      rw [this]
      have h := madeN_few (ks := ks) (n := t.2.1) (made := t.2.2) ih ks.length
      exact ⟨by omega, fun m hm => by have := h.2 m hm; omega⟩
theorem makes_snoc {ks : List Int} {ts : List Tk} {i : Nat} {t : Tk} (e : ts[i]? = some t) : makesF ks (ts.take (i + 1)) = madeN ks t.2.1 t.2.2 (makesF ks (ts.take i)) ks.length := by
  unfold makesF
  rw [List.take_add_one, e, List.foldl_append]
  rfl
theorem madeN_in {ks : List Int} {n made x : Int} {ms : List Mkr} : ∀ {i : Nat} {m : Mkr}, m ∈ madeN ks n made ms i → x ∈ m.2 → x = n ∨ ∃ m' ∈ ms, x ∈ m'.2
  | 0, m, h, hx => .inr ⟨m, h, hx⟩
  | i + 1, m, h, hx => by
    unfold madeN at h
    split at h
    · rcases mem_addM h hx with z | ⟨m', z, w⟩
      · exact .inl z
      · exact madeN_in z w
    · exact madeN_in h hx
theorem makes_in {ks : List Int} {ts : List Tk} {x : Int} : ∀ (i : Nat) {m : Mkr}, m ∈ makesF ks (ts.take i) → x ∈ m.2 → ∃ t ∈ ts.take i, t.2.1 = x
  | 0, m, h, hx => by cases h
  | i + 1, m, h, hx => by
    cases e : ts[i]? with
    | none =>
      rw [List.take_add_one, e] at h ⊢
      simp only [Option.toList_none, List.append_nil] at h ⊢
      exact makes_in i h hx
    | some t =>
      rw [makes_snoc e] at h
      have tk : ts.take (i + 1) = ts.take i ++ [t] := by rw [List.take_add_one, e]; rfl
      rw [tk]
      rcases madeN_in h hx with z | ⟨m', z, w⟩
      · exact ⟨t, by simp, z.symm⟩
      · obtain ⟨t', a, b⟩ := makes_in i z w
        exact ⟨t', List.mem_append_left _ a, b⟩
theorem dwO_num {cs : List Int} {j : Nat} {d : Dw} (h : dwO cs j = some d) : d.num = 1 + (j : Int) ∧ d.tms.length ≤ 3 ∧ d.bts.length = 3 ∧ d.wrd ∈ wds := by
  unfold dwO at h
  split at h
  · cases h
    refine ⟨rfl, ?_, rfl, ?_⟩
    · show (timesF _ _).length ≤ 3
      rw [times_len]
      have := Int.emod_lt_of_pos (strN (celF cs (1 + (1 + (j : Int))) + 7919 * (1 + (j : Int))) 3) (show (0 : Int) < 4 by decide)
      omega
    · show wdF _ ∈ wds
      unfold wdF
      generalize strN _ 1 = x
      have h0 := Int.emod_nonneg x (show (5 : Int) ≠ 0 by decide)
      have h1 := Int.emod_lt_of_pos x (show (0 : Int) < 5 by decide)
      exact List.mem_of_getElem? (getD_at (show (x % 5).toNat < wds.length by show _ < 5; omega))
  · cases h
theorem drawn_nums (cs : List Int) : ((drawnF cs).map (·.num)).Pairwise (· < ·) := by
  unfold drawnF
  rw [List.pairwise_map]
  refine List.Pairwise.filterMap (R := fun a b : Nat => a < b) _ (fun a b hab c hc d hd => ?_) List.pairwise_lt_range
  rw [(dwO_num hc).1, (dwO_num hd).1]
  omega
theorem drawn_has {cs : List Int} {d : Dw} (h : d ∈ drawnF cs) : (∃ j : Nat, j < 8 ∧ d.num = 1 + (j : Int)) ∧ d.tms.length ≤ 3 ∧ d.bts.length = 3 ∧ d.wrd ∈ wds := by
  unfold drawnF at h
  obtain ⟨j, hj, e⟩ := List.mem_filterMap.mp h
  obtain ⟨a, b, c, f⟩ := dwO_num e
  exact ⟨⟨j, List.mem_range.mp hj, a⟩, b, c, f⟩
theorem drawn_len (cs : List Int) : (drawnF cs).length ≤ 8 := by
  have := List.length_filterMap_le (dwO cs) (List.range 8)
  rwa [List.length_range] at this
theorem keysF_len (c : Int) : (keysF c).length ≤ 3 := by
  unfold keysF
  rw [(risen_perm _).length_eq]
  refine Nat.le_trans (dd_len _) ?_
  rw [List.length_map, List.length_range]
  have := strN_rng c 1
  omega
theorem stF_good (cs : List Int) : SpG (stF cs) := by
  unfold stF
  dsimp only
  have hk := keysF_len (celF cs 1)
  have hl : (srtF (tripF (drawnF cs))).length ≤ 8 := by
    unfold srtF tripF
    rw [List.length_mergeSort, List.length_map]
    exact drawn_len cs
  have hm := makes_few hk (srtF (tripF (drawnF cs))) (srtF (tripF (drawnF cs))).length
  rw [List.take_length] at hm
  refine ⟨by rw [List.length_map]; exact drawn_len cs, Nat.le_trans hm.1 (by omega), fun m h => by have := hm.2 m h; omega, fun d hd => ?_⟩
  obtain ⟨dw, hdw, rfl⟩ := List.mem_map.mp hd
  unfold dealF
  dsimp only
  obtain ⟨_, t3, _, _⟩ := drawn_has hdw
  refine ⟨by rw [List.length_map, List.length_range]; exact t3, fun l hl => ?_⟩
  obtain ⟨j, _, rfl⟩ := List.mem_map.mp hl
  unfold lookF thereF
  rw [List.length_map]
  exact Nat.le_trans (List.length_filter_le _ _) hk
noncomputable def dDw (d : Dw) : PyData := .tuple [.int d.num, .str d.wrd, .int d.fin, .list (d.tms.map PyData.int), .list (d.bts.map PyData.int), .int d.mad]
theorem dw_tr {p0 : Addr} {H : Hp} {v : V} {d : Dw} (h : DwV p0 H v d) : Tr H v (dDw d) := by
  obtain ⟨p, t, b, rfl, _, _, h1, h2, h3⟩ := h
  exact .tup h1 (.cons (.int _) (.cons (.str _) (.cons (.int _) (.cons (.lst h2 (Trs.ofInts _)) (.cons (.lst h3 (Trs.ofInts _)) (.cons (.int _) .nil))))))
theorem dw_trs {p0 : Addr} {H : Hp} : ∀ {vs : List V} {ds : List Dw}, Paired (DwV p0 H) vs ds → Trs H vs (ds.map dDw)
  | _, _, .nil => .nil
  | _, _, .cons h r => .cons (dw_tr h) (dw_trs r)
theorem dw_open {H : Hp} {v : V} {d : Dw} (h : Tr H v (dDw d)) : ∃ p t b, v = .ref p ∧ H p = some (.tup [.int d.num, .str d.wrd, .int d.fin, .ref t, .ref b, .int d.mad]) ∧ H t = some (.lst (d.tms.map V.int)) ∧ H b = some (.lst (d.bts.map V.int)) := by
  cases h with
  | tup h r =>
    cases r with
    | cons h1 r =>
      cases h1
      cases r with
      | cons h2 r =>
        cases h2
        cases r with
        | cons h3 r =>
          cases h3
          cases r with
          | cons h4 r =>
            cases h4 with
            | lst a4 b4 =>
              cases r with
              | cons h5 r =>
                cases h5 with
                | lst a5 b5 =>
                  cases r with
                  | cons h6 r =>
                    cases h6
                    cases r
                    rw [Trs.ints b4] at a4
                    rw [Trs.ints b5] at a5
                    exact ⟨_, _, _, rfl, h, a4, a5⟩
noncomputable def dTk (t : Tk) : PyData := .tuple [.int t.1, .int t.2.1, .int t.2.2]
theorem tk_open {H : Hp} {v : V} {t : Tk} (h : Tr H v (dTk t)) : TrV H v t := by
  cases h with
  | tup h r =>
    cases r with
    | cons h1 r =>
      cases h1
      cases r with
      | cons h2 r =>
        cases h2
        cases r with
        | cons h3 r =>
          cases h3
          cases r
          exact ⟨_, rfl, h⟩
theorem tk_paired {H : Hp} : ∀ {vs : List V} {ts : List Tk}, Trs H vs (ts.map dTk) → Paired (TrV H) vs ts
  | _, [], .nil => .nil
  | _, _ :: _, .cons h r => .cons (tk_open h) (tk_paired r)
theorem mk_addr {H : Hp} : ∀ {vs : List V} {ms : List Mkr} {f : List Addr}, TFs H vs (ms.map dCh) f → vs = f.map V.ref
  | _, [], _, .nil => rfl
  | _, m :: r, _, .cons h t => by
    cases h with
    | lst a b =>
      obtain ⟨_, rfl⟩ := TFs.ints_of b
      rw [mk_addr t]
      rfl
section
variable {P : Program} {w : World} {K : PySem.W.Frag} {mg : Str → Option Value} {base : Heap}
theorem ok_Lcellat (T : Tx K mg) : FnOk P w K mg base CX0 1 T.f_Lcellat T.d_Lcellat ["_law_script", "_law_k"] (spCellA K) := by
  refine T.F_Lcellat.ok sc_Lcellat (fun vs H Q E h => ?_) (fun cdv A outer s H vs Q E hr h => ?_)
  · obtain ⟨a, cs, k, rfl, _⟩ := h
    rfl
  · obtain ⟨a, cs, k, rfl, ha, hk, q⟩ := h
    refine ⟨_, (pss_cons (ps_if (pt_cmpR op_lt (pv 1) (pe_callB call_len (by rfl) T.z_len boot_len (pa_cons (pv 0) pa_nil)) (nomark _))
      (pss_one (ps_ret (pe_ix ix_list (pv 0) (pv 1) (fun _ _ => rfl))))
      pss_nil)
      (pss_one (ps_ret pe_int))), ?_⟩
    refine ⟨_, rfl, _, rfl, _, _, rfl, .inl ⟨_, ha, rfl⟩, _, _, rfl, rfl, _, rfl, ite2 (fun e => ?_) (fun e => ?_)⟩
    · have e1 : k < ((cs.map V.int).length : Int) := of_decide_eq_true e
      rw [List.length_map] at e1
      have hv : (cs.map V.int)[k.toNat]? = some (.int (celF cs k)) := by
        unfold celF
        rw [List.getElem?_map, List.getElem?_eq_getElem (show k.toNat < cs.length by omega)]
        rfl
      have := atI_nat hv
      rw [Int.toNat_of_nonneg hk] at this
      exact ⟨_, rfl, _, rfl, a, _, _, _, rfl, rfl, ha, this, q⟩
    · have e1 : ¬ k < ((cs.map V.int).length : Int) := fun z => e (decide_eq_true z)
      rw [List.length_map] at e1
      have : celF cs k = 0 := by
        unfold celF
        rw [List.getElem?_eq_none (by omega)]
        rfl
      rw [this] at q
      exact q
theorem ok_Lwhole (T : Tx K mg) : FnOk P w K mg base CX0 1 T.f_Lwhole T.d_Lwhole ["_law_found"] spWhole := by
  refine T.F_Lwhole.ok sc_Lwhole (fun vs H Q E h => ?_) (fun cdv A outer s H vs Q E hr h => ?_)
  · obtain ⟨z, rfl, _⟩ := h
    rfl
  · obtain ⟨z, rfl, q⟩ := h
    refine ⟨_, (pss_one (ps_ret (pe_and (pe_callB call_isi (by rfl) T.z_isinstance boot_isinstance (pa_cons (pv 0) (pa_cons (pe_bltn (v := V.ty "int") rfl T.z_int boot_int rfl) pa_nil))) (pe_one (pe_not (pe_callB call_isi (by rfl) T.z_isinstance boot_isinstance (pa_cons (pv 0) (pa_cons (pe_bltn (v := V.ty "bool") rfl T.z_bool boot_bool rfl) pa_nil)))))))), ?_⟩
    refine ⟨_, rfl, _, _, _, _, rfl, TyOf.int _, kit_ii, _, rfl, iteT ?_⟩
    exact ⟨_, rfl, _, _, _, _, rfl, TyOf.int _, kit_ib, _, rfl, q⟩
theorem ok_Lstream (T : Tx K mg) : FnOk P w K mg base CX0 1 T.f_Lstream T.d_Lstream ["_law_cell", "_law_many_here"] spStream := by
  refine T.F_Lstream.ok sc_Lstream (fun vs H Q E h => ?_) (fun cdv A outer s H vs Q E hr h => ?_)
  · obtain ⟨c, m, rfl, _⟩ := h
    rfl
  · obtain ⟨c, m, rfl, hm, q⟩ := h
    have hu := hu_of hr
    refine ⟨_, (pss_cons (ps_set (i := 2) sc_Lstream.nd rfl (Or.inl rfl) (pe_lst pa_nil))
      (pss_cons (ps_set (i := 3) sc_Lstream.nd rfl (Or.inl rfl) (pe_op op_mod (pv 0) pe_int))
      (pss_cons (ps_for PassesOwn.never rfl (pi_range1 rfl T.z_range (pa_cons (pv 1) pa_nil)) (pg_name (i := 4) sc_Lstream.nd rfl (Or.inl rfl))
      (pss_cons (ps_set (i := 3) sc_Lstream.nd rfl (Or.inl rfl) (pe_op op_mod (pe_op op_add (pe_op op_add (pe_op op_mul (pv 3) pe_int) pe_int) (pv 4)) pe_int))
      (pss_one (ps_expr (pe_bm PySem.F.plainAttrs_list PySem.F.slot_list_append PySem.F.type_list_append mt_appendA (pv 2) (pa_cons (pv 3) pa_nil))))))
      (pss_one (ps_ret (pv 2)))))), ?_⟩
    refine ⟨(by show 0 ≤ sizeLine; decide), fun p hp => ?_⟩
    have s0 := Same.upd (o := HO.lst []) hp
    refine ⟨_, rfl, _, _, rfl, rfl, (by show (0 : Int) < _; decide), ?_⟩
    refine ⟨_, rfl, _, rfl, by omega, by omega, ?_⟩
    rw [Int.toNat_natCast]
    refine for_range (fun i σ H3 => ∃ x4 : Option V, σ = [some (.int c), some (.int m), some (.ref p), some (.int (strN c i)), x4] ∧ Same H H3 ∧ H3 p = some (.lst ((streamF c i).map V.int))) ⟨none, rfl, s0, upd_same⟩ ?_ ?_
    · rintro i σ H3 hi ⟨x4, rfl, s3, hp3⟩
      refine ⟨_, rfl, _, _, rfl, rfl, .inr ⟨by decide, by decide⟩, _, _, rfl, rfl, _, rfl, _, _, rfl, rfl, _, _, rfl, rfl, (by show (0 : Int) < _; decide), ?_⟩
      rw [Int.zero_add]
      refine ⟨_, rfl, Or.inl ⟨rfl, _, SqL.of hp3⟩, _, rfl, p, _, _, rfl, rfl, hp3, (by rw [List.length_map, stream_len]; have : sizeLine = 2 ^ 24 := rfl; omega), fun H5 h5 k5 => ?_⟩
      refine ⟨_, rfl, fun b o e => k5 b o (fun z => by rw [z, hp] at e; cases e) (s3 _ _ e), ?_⟩
      rw [stream_snoc]
      exact h5
    · rintro σ H3 ⟨x4, rfl, s3, hp3⟩
      exact ⟨_, rfl, q p H3 hp s3 hp3⟩
theorem ok_Lkeys (T : Tx K mg) : FnOk P w K mg base CX0 2 T.f_Lkeys T.d_Lkeys ["_law_cell"] (spKeysT K) := by
  refine T.F_Lkeys.ok sc_Lkeys (fun vs H Q E h => ?_) (fun cdv A outer s H vs Q E hr h => ?_)
  · obtain ⟨c, rfl, _⟩ := h
    rfl
  · obtain ⟨c, rfl, q⟩ := h
    have hu := hu_of hr
    refine ⟨_, (pss_cons (ps_set (i := 1) sc_Lkeys.nd rfl (Or.inl rfl) (pe_call ((ok_Lstream T).mono (by decide)) hr rfl T.m_Lstream T.F_Lstream.kp T.b_Lstream .nil pass0 (pa_cons (pv 0) (pa_cons pe_int pa_nil))))
      (pss_cons (ps_set (i := 2) sc_Lkeys.nd rfl (Or.inl rfl) (pe_lst pa_nil))
      (pss_cons (ps_for PassesOwn.never rfl (pi_range1 rfl T.z_range (pa_cons (pe_op op_mod (pe_ix ix_list (pv 1) pe_int (fun _ _ => rfl)) pe_int) pa_nil)) (pg_name (i := 3) sc_Lkeys.nd rfl (Or.inl rfl))
      (pss_cons (ps_set (i := 4) sc_Lkeys.nd rfl (Or.inl rfl) (pe_op op_sub (pe_op op_mod (pe_op op_fdiv (pe_ix ix_list (pv 1) (pe_op op_add pe_int (pv 3)) (fun _ _ => rfl)) pe_int) pe_int) pe_int))
      (pss_cut (ps_if (pt_cmpR op_eq (pe_op op_mod (pe_ix ix_list (pv 1) (pe_op op_add pe_int (pv 3)) (fun _ _ => rfl)) pe_int) pe_int (nomark _))
      (pss_one (ps_set (i := 4) sc_Lkeys.nd rfl (Or.inl rfl) (pe_op op_sub (pe_op op_mod (pe_op op_mul (pe_op op_pow (pe_ix ix_list (pv 1) (pe_op op_add pe_int (pv 3)) (fun _ _ => rfl)) pe_int) pe_int) (pe_op op_sub (pe_op op_mul pe_int (pe_op op_pow pe_int pe_int)) pe_int)) (pe_op op_sub (pe_op op_pow pe_int pe_int) pe_int))))
      pss_nil)
      (pss_one (ps_expr (pe_bm PySem.F.plainAttrs_list PySem.F.slot_list_append PySem.F.type_list_append mt_appendA (pv 2) (pa_cons (pv 4) pa_nil)))))))
      (pss_one (ps_ret (pe_sortSet (K := K) rfl rfl rfl T.z_sorted rfl T.z_set (pa_cons (pv 2) pa_nil))))))), ?_⟩
    refine ⟨_, rfl, c, 4, rfl, by decide, fun xs H1 hxs s1 h1 => ?_⟩
    refine ⟨(by show 0 ≤ sizeLine; decide), fun p hp => ?_⟩
    have s2 := Same.upd (o := HO.lst []) hp
    have r1 := strN_rng c 1
    refine ⟨_, rfl, xs, _, _, _, rfl, rfl, SqL.of (s2 _ _ h1), stream_of c 4 0 (by decide) 0 rfl, _, _, rfl, rfl, (by show (0 : Int) < _; decide), _, rfl, by omega, by omega, ?_⟩
    have hn : (strN c 1 % 4).toNat ≤ 3 := by omega
    have sx : xs ≠ p := fun z => by rw [← z, h1] at hp; cases hp
    refine for_range (fun i σ H3 => ∃ x3 x4 : Option V, σ = [some (.int c), some (.ref xs), some (.ref p), x3, x4] ∧ Same H H3 ∧ H3 xs = some (.lst ((streamF c 4).map V.int)) ∧ H3 p = some (.lst (((List.range i).map fun j => keyF (strN c (j + 2))).map V.int))) ⟨none, none, rfl, s1.trans s2, s2 _ _ h1, upd_same⟩ ?_ ?_
    · rintro i σ H3 hi ⟨x3, x4, rfl, s3, hx3, hp3⟩
      have at1 := stream_of c 4 (i + 1) (by omega) (1 + (0 + (i : Int))) (by omega)
      have rx := strN_rng c (i + 2)
      refine ⟨_, rfl, _, rfl, _, _, rfl, rfl, xs, _, _, _, rfl, rfl, SqL.of hx3, at1, _, _, rfl, rfl, ⟨by decide, by decide⟩, _, _, rfl, rfl, (by show (0 : Int) < _; decide), _, _, rfl, rfl, ?_⟩
      refine ⟨fun σ H4 => σ = [some (.int c), some (.ref xs), some (.ref p), some (.int (0 + (i : Int))), some (.int (keyF (strN c (i + 2))))] ∧ H4 = H3, ?_, ?_⟩
      · refine ⟨_, rfl, _, rfl, _, _, rfl, rfl, xs, _, _, _, rfl, rfl, SqL.of hx3, at1, _, _, rfl, rfl, (by show (0 : Int) < _; decide), rfl, _, rfl, ite2 (fun e => ?_) (fun e => ?_)⟩
        · have e1 : strN c (i + 2) % 3 = 0 := by
            have := of_decide_eq_true e
            injection this
          refine ⟨_, rfl, _, rfl, _, _, rfl, rfl, xs, _, _, _, rfl, rfl, SqL.of hx3, at1, _, _, rfl, rfl, ⟨by decide, by decide, ?_⟩, _, _, rfl, rfl, .inr ⟨by decide, by decide⟩, _, _, rfl, rfl, ⟨by decide, by decide, by decide⟩, _, _, rfl, rfl, .inl ⟨by decide, by decide⟩, _, _, rfl, rfl, _, _, rfl, rfl, (by show (0 : Int) < _; decide), _, _, rfl, rfl, ⟨by decide, by decide, by decide⟩, _, _, rfl, rfl, _, _, rfl, rfl, ?_, rfl⟩
          · show (strN c (i + 2)).natAbs < 2 ^ 64
            omega
          · unfold keyF
            rw [if_pos e1]
            rfl
        · have e1 : ¬ strN c (i + 2) % 3 = 0 := fun z => e (decide_eq_true (show V.int (strN c (i + 2) % 3) = V.int 0 by rw [z]))
          refine ⟨?_, rfl⟩
          unfold keyF
          rw [if_neg e1]
          rfl
      · rintro σ H4 ⟨rfl, rfl⟩
        refine ⟨_, rfl, Or.inl ⟨rfl, _, SqL.of hp3⟩, _, rfl, p, _, _, rfl, rfl, hp3, (by rw [List.length_map, List.length_map, List.length_range]; have : sizeLine = 2 ^ 24 := rfl; omega), fun H5 h5 k5 => ?_⟩
        refine ⟨_, _, rfl, fun b o e => k5 b o (fun z => by rw [z, s1.free hp] at e; cases e) (s3 _ _ e), k5 _ _ sx hx3, ?_⟩
        rw [List.range_succ, List.map_append, List.map_append]
        exact h5
    · rintro σ H3 ⟨x3, x4, rfl, s3, hx3, hp3⟩
      refine ⟨_, rfl, p, _, rfl, SqL.of hp3, (by rw [List.length_map, List.length_range]; omega), ?_, fun nl hnl => ?_⟩
      · refine Nat.lt_of_le_of_lt (dd_len _) ?_
        rw [List.length_map, List.length_range]
        omega
      · exact q nl _ (s3.free hnl) (s3.trans (Same.upd hnl)) upd_same
theorem ok_Ltimes (T : Tx K mg) : FnOk P w K mg base CX0 1 T.f_Ltimes T.d_Ltimes ["_law_xs", "_law_end"] (spTimes K) := by
  refine T.F_Ltimes.ok sc_Ltimes (fun vs H Q E h => ?_) (fun cdv A outer s H vs Q E hr h => ?_)
  · obtain ⟨a, c, e, rfl, _⟩ := h
    rfl
  · obtain ⟨a, c, e, rfl, ha, q⟩ := h
    have hu := hu_of hr
    refine ⟨_, (pss_cons (ps_set (i := 2) sc_Ltimes.nd rfl (Or.inr rfl) (pe_op op_mod (pe_ix ix_list (pv 0) pe_int (fun _ _ => rfl)) pe_int))
      (pss_cons (ps_if (pt_cmpR op_eq (pe_op op_mod (pe_ix ix_list (pv 0) pe_int (fun _ _ => rfl)) pe_int) pe_int (nomark _))
      (pss_one (ps_ret (pe_op op_rep (pe_lst (pa_cons (pv 1) pa_nil)) (pv 2))))
      pss_nil)
      (pss_cons (ps_if (pt_cmpR op_eq (pe_op op_mod (pe_ix ix_list (pv 0) pe_int (fun _ _ => rfl)) pe_int) pe_int (nomark _))
      (pss_one (ps_ret (pe_op op_rep (pe_lst (pa_cons (pe_op op_sub (pv 1) (pe_op op_mod (pe_ix ix_list (pv 0) pe_int (fun _ _ => rfl)) pe_int)) pa_nil)) (pv 2))))
      pss_nil)
      (pss_cons (ps_if (pt_cmpR op_eq (pe_op op_mod (pe_ix ix_list (pv 0) pe_int (fun _ _ => rfl)) pe_int) pe_int (nomark _))
      (pss_one (ps_ret (pe_compF ["_law_j"] rfl (CompSc.mk (fv := ["_law_xs", "_law_end", "_law_many_here"]) (js := [0, 1, 2]) rfl (by decide +kernel) (by decide +kernel) (by decide +kernel) (allc_cons (Or.inl rfl) (allc_cons (Or.inl rfl) (allc_cons (Or.inl rfl) allc_nil))) rfl (by decide +kernel)) (pi_range1 rfl T.z_range (pa_cons (pv 2) pa_nil)) (fun _ _ _ _ _ => (pg_name (i := 0) (show (["_law_j", "_law_xs", "_law_end", "_law_many_here"] : List Str).Nodup by decide +kernel) rfl (Or.inl rfl))) (fun _ _ _ _ _ => pf_nil) (fun _ _ _ _ _ => (pe_op op_sub (pv 2) (pe_op op_mul (pe_op op_sub (pv 3) (pv 0)) (pe_op op_mod (pe_ix (ix_listK (K := K) rfl) (pv 1) pe_int (fun _ _ => rfl)) pe_int)))))))
      pss_nil)
      (pss_one (ps_ret (pe_compF ["_law_j"] rfl (CompSc.mk (fv := ["_law_xs"]) (js := [0]) rfl (by decide +kernel) (by decide +kernel) (by decide +kernel) (allc_cons (Or.inl rfl) allc_nil) rfl (by decide +kernel)) (pi_range1 rfl T.z_range (pa_cons (pv 2) pa_nil)) (fun _ _ _ _ _ => (pg_name (i := 0) (show (["_law_j", "_law_xs"] : List Str).Nodup by decide +kernel) rfl (Or.inl rfl))) (fun _ _ _ _ _ => pf_nil) (fun _ _ _ _ _ => (pe_op op_mod (pe_op op_fdiv (pe_ix (ix_listK (K := K) rfl) (pv 1) (pe_op op_add pe_int (pv 0)) (fun _ _ => rfl)) pe_int) pe_int))))))))), ?_⟩
    have r3 := strN_rng c 3
    have at2 := stream_of c 10 2 (by decide) 2 rfl
    have at3 := stream_of c 10 3 (by decide) 3 rfl
    have at7 := stream_of c 10 7 (by decide) 7 rfl
    refine ⟨_, rfl, a, _, _, _, rfl, rfl, ha, at2, _, _, rfl, rfl, (by show (0 : Int) < _; decide), ?_⟩
    refine ⟨_, rfl, a, _, _, _, rfl, rfl, ha, at3, _, _, rfl, rfl, (by show (0 : Int) < _; decide), rfl, _, rfl, ite2 (fun e0 => ?_) (fun e0 => ?_)⟩
    · have e1 : strN c 4 % 4 = 0 := by
        have := of_decide_eq_true e0
        injection this
      refine ⟨_, rfl, (by show 1 ≤ sizeLine; decide), fun l hl => ⟨_, rfl, l, _, _, rfl, rfl, upd_same, by omega, by omega, ?_, fun p hp => ?_⟩⟩
      · show 1 * (strN c 3 % 4).toNat ≤ sizeLine
        have : sizeLine = 2 ^ 24 := rfl
        omega
      · have s1 := Same.upd (o := HO.lst [V.int e]) hl
        refine q p _ (s1.free hp) (s1.trans (Same.upd hp)) ?_
        rw [upd_same, rep_flat]
        unfold timesF
        rw [if_pos e1, List.map_replicate]
    have n0 : ¬ strN c 4 % 4 = 0 := fun z => e0 (decide_eq_true (show V.int (strN c 4 % 4) = V.int 0 by rw [z]))
    refine ⟨_, rfl, a, _, _, _, rfl, rfl, ha, at3, _, _, rfl, rfl, (by show (0 : Int) < _; decide), rfl, _, rfl, ite2 (fun e1 => ?_) (fun e1 => ?_)⟩
    · have e2 : strN c 4 % 4 = 1 := by
        have := of_decide_eq_true e1
        injection this
      refine ⟨_, rfl, _, rfl, a, _, _, _, rfl, rfl, ha, at7, _, _, rfl, rfl, (by show (0 : Int) < _; decide), _, _, rfl, rfl, (by show 1 ≤ sizeLine; decide), fun l hl => ⟨_, rfl, l, _, _, rfl, rfl, upd_same, by omega, by omega, ?_, fun p hp => ?_⟩⟩
      · show 1 * (strN c 3 % 4).toNat ≤ sizeLine
        have : sizeLine = 2 ^ 24 := rfl
        omega
      · have s1 := Same.upd (o := HO.lst [V.int (e - strN c (7 + 1) % 400)]) hl
        refine q p _ (s1.free hp) (s1.trans (Same.upd hp)) ?_
        rw [upd_same, rep_flat]
        unfold timesF
        rw [if_neg n0, if_pos e2, List.map_replicate]
    have n1 : ¬ strN c 4 % 4 = 1 := fun z => e1 (decide_eq_true (show V.int (strN c 4 % 4) = V.int 1 by rw [z]))
    refine ⟨_, rfl, a, _, _, _, rfl, rfl, ha, at3, _, _, rfl, rfl, (by show (0 : Int) < _; decide), rfl, _, rfl, ite2 (fun e2 => ?_) (fun e2 => ?_)⟩
    · have e3 : strN c 4 % 4 = 2 := by
        have := of_decide_eq_true e2
        injection this
      refine ⟨_, rfl, _, rfl, by omega, by omega, compQF_map (k := 1) (fs := [some (.ref a), some (.int e), some (.int (strN c 3 % 4))]) (strN c 3 % 4).toNat (fun j => some (.int (e - (strN c 3 % 4 - (0 + (j : Int))) * (strN c 8 % 150)))) rfl (by have : sizeLine = 2 ^ 24 := rfl; omega) (fun j H3 _ hj => hj) (fun H3 _ => Nat.le_refl _) ?_ ?_⟩
      · rintro j H4 ts v H5 R ss hj hts ⟨rfl, rfl⟩ cb
        obtain ⟨t, rfl⟩ := List.length_eq_one_iff.mp hts
        exact ⟨_, rfl, _, rfl, _, rfl, _, _, rfl, rfl, _, rfl, a, _, _, _, rfl, rfl, ss.seq ha, at7, _, _, rfl, rfl, (by show (0 : Int) < _; decide), _, _, rfl, rfl, .inl ⟨by omega, by omega⟩, _, _, rfl, rfl, cb [_] _ rfl (Same.refl _)⟩
      · intro D H2 hD s2 h2
        refine q D H2 hD s2 ?_
        rw [h2, fm_some]
        unfold timesF
        rw [if_neg n0, if_neg n1, if_pos e3, List.map_map]
        refine congrArg (fun x => some (HO.lst x)) (List.map_congr_left fun j _ => ?_)
        show V.int _ = V.int _
        rw [Int.zero_add]
    have n2 : ¬ strN c 4 % 4 = 2 := fun z => e2 (decide_eq_true (show V.int (strN c 4 % 4) = V.int 2 by rw [z]))
    refine ⟨_, rfl, _, rfl, by omega, by omega, compQF_map (k := 1) (fs := [some (.ref a)]) (strN c 3 % 4).toNat (fun j => some (.int (strN c (4 + j + 1) / 8 % 1300))) rfl (by have : sizeLine = 2 ^ 24 := rfl; omega) (fun j H3 _ hj => hj) (fun H3 _ => Nat.le_refl _) ?_ ?_⟩
    · rintro j H4 ts v H5 R ss hj hts ⟨rfl, rfl⟩ cb
      obtain ⟨t, rfl⟩ := List.length_eq_one_iff.mp hts
      exact ⟨_, rfl, _, rfl, _, _, rfl, rfl, a, _, _, _, rfl, rfl, ss.seq ha, stream_of c 10 (4 + j) (by omega) _ (by omega), _, _, rfl, rfl, ⟨by decide, by decide⟩, _, _, rfl, rfl, (by show (0 : Int) < _; decide), cb [_] _ rfl (Same.refl _)⟩
    · intro D H2 hD s2 h2
      refine q D H2 hD s2 ?_
      rw [h2, fm_some]
      unfold timesF
      rw [if_neg n0, if_neg n1, if_neg n2, List.map_map]
      refine congrArg (fun x => some (HO.lst x)) (List.map_congr_left fun j _ => ?_)
      show V.int _ = V.int _
      rw [show 4 + j + 1 = j + 5 by omega]
theorem ok_Ldrawn (T : Tx K mg) : FnOk P w K mg base CX0 2 T.f_Ldrawn T.d_Ldrawn ["_law_script"] (spDrawn K) := by
  refine T.F_Ldrawn.ok sc_Ldrawn (fun vs H Q E h => ?_) (fun cdv A outer s H vs Q E hr h => ?_)
  · obtain ⟨a, cs, rfl, _⟩ := h
    rfl
  · obtain ⟨a, cs, rfl, ha, q⟩ := h
    have hu := hu_of hr
    refine ⟨_, (pss_cons (ps_set (i := 1) sc_Ldrawn.nd rfl (Or.inl rfl) (pe_lst pa_nil))
      (pss_cons (ps_for PassesOwn.never rfl (pi_range2 rfl T.z_range (pa_cons pe_int (pa_cons pe_int pa_nil))) (pg_name (i := 2) sc_Ldrawn.nd rfl (Or.inl rfl))
      (pss_one (ps_if (pt_cmpR op_eq (pe_op op_and (pe_op op_shr (pe_op op_mod (pe_call ((ok_Lcellat T).mono (by decide)) hr rfl T.m_Lcellat T.F_Lcellat.kp T.b_Lcellat .nil pass0 (pa_cons (pv 0) (pa_cons pe_int pa_nil))) pe_int) (pe_op op_sub (pv 2) pe_int)) pe_int) pe_int (nomark _))
      (pss_cons (ps_set (i := 3) sc_Ldrawn.nd rfl (Or.inl rfl) (pe_call ((ok_Lstream T).mono (by decide)) hr rfl T.m_Lstream T.F_Lstream.kp T.b_Lstream .nil pass0 (pa_cons (pe_op op_add (pe_call ((ok_Lcellat T).mono (by decide)) hr rfl T.m_Lcellat T.F_Lcellat.kp T.b_Lcellat .nil pass0 (pa_cons (pv 0) (pa_cons (pe_op op_add pe_int (pv 2)) pa_nil))) (pe_op op_mul pe_int (pv 2))) (pa_cons pe_int pa_nil))))
      (pss_cons (ps_set (i := 4) sc_Ldrawn.nd rfl (Or.inl rfl) (pe_op op_add (pe_op op_mul pe_int (pe_op op_mod (pe_ix ix_list (pv 3) pe_int (fun _ _ => rfl)) pe_int)) (pv 2)))
      (pss_cons (ps_set (i := 5) sc_Ldrawn.nd rfl (Or.inl rfl) (pe_ix ix_list (pe_lst (pa_cons pe_str (pa_cons pe_str (pa_cons pe_str (pa_cons pe_str (pa_cons pe_str pa_nil)))))) (pe_op op_mod (pe_ix ix_list (pv 3) pe_int (fun _ _ => rfl)) pe_int) (fun _ _ => rfl)))
      (pss_one (ps_expr (pe_bm PySem.F.plainAttrs_list PySem.F.slot_list_append PySem.F.type_list_append mt_appendA (pv 1) (pa_cons (pe_tup (pa_cons (pv 2) (pa_cons (pv 5) (pa_cons (pv 4) (pa_cons (pe_call ((ok_Ltimes T).mono (by decide)) hr rfl T.m_Ltimes T.F_Ltimes.kp T.b_Ltimes .nil pass0 (pa_cons (pv 3) (pa_cons (pv 4) pa_nil))) (pa_cons (pe_lst (pa_cons (pe_ix ix_list (pv 3) pe_int (fun _ _ => rfl)) (pa_cons (pe_ix ix_list (pv 3) pe_int (fun _ _ => rfl)) (pa_cons (pe_ix ix_list (pv 3) pe_int (fun _ _ => rfl)) pa_nil)))) (pa_cons (pe_ix ix_list (pv 3) pe_int (fun _ _ => rfl)) pa_nil))))))) pa_nil)))))))
      pss_nil)))
      (pss_one (ps_ret (pv 1))))), ?_⟩
    refine ⟨(by show 0 ≤ sizeLine; decide), fun p hp => ?_⟩
    have s0 := Same.upd (o := HO.lst []) hp
    refine ⟨1, 9, rfl, ⟨by decide, by decide, by decide, by decide⟩, ?_⟩
    refine for_range (fun i σ H3 => ∃ (x2 x3 x4 x5 : Option V) (dv : List V), σ = [some (.ref a), some (.ref p), x2, x3, x4, x5] ∧ Same H H3 ∧ H3 p = some (.lst dv) ∧ Paired (DwV p H3) dv ((List.range i).filterMap (dwO cs))) ⟨none, none, none, none, [], rfl, s0, upd_same, .nil⟩ ?_ ?_
    · rintro i σ H3 hi ⟨x2, x3, x4, x5, dv, rfl, s3, hp3, d3⟩
      have hi8 : i < 8 := hi
      have ha3 := s3.seq ha
      have lv : dv.length ≤ i := by
        have h1 := prs_len d3
        have h2 := List.length_filterMap_le (dwO cs) (List.range i)
        rw [List.length_range] at h2
        omega
      have e0 : (1 + (i : Int) - 1).toNat = i := by omega
      have snoc : (List.range (i + 1)).filterMap (dwO cs) = (List.range i).filterMap (dwO cs) ++ (dwO cs i).toList := by
        rw [List.range_succ, List.filterMap_append]
        show _ ++ List.filterMap (dwO cs) [i] = _
        rw [List.filterMap_cons]
        cases dwO cs i <;> rfl
      refine ⟨_, rfl, a, cs, 0, rfl, ha3, by decide, _, _, rfl, rfl, (by show (0 : Int) < _; decide), _, rfl, _, _, rfl, rfl, _, _, rfl, rfl, (by show (0 : Int) ≤ 1 + (i : Int) - 1; omega), _, _, rfl, rfl, rfl, _, rfl, ite2 (fun e => ?_) (fun e => ?_)⟩
      · have eb : bitF (celF cs 0 % 256) i = true := by
          have h1 := of_decide_eq_true e
          rw [e0] at h1
          unfold bitF
          exact decide_eq_true (V.int.inj h1)
        refine ⟨_, rfl, _, rfl, _, _, rfl, rfl, a, cs, _, rfl, ha3, (by omega), _, rfl, _, _, rfl, rfl, .inl ⟨by decide, by decide⟩, _, _, rfl, rfl, _, 10, rfl, by decide, fun xs H4 hxs s4 h4 => ?_⟩
        generalize hc : celF cs (1 + (1 + (i : Int))) + 7919 * (1 + (i : Int)) = c at h4
        have ed : dwO cs i = some (dwF c (1 + (i : Int))) := by unfold dwO; rw [if_pos eb, hc]
        refine ⟨_, rfl, xs, _, _, _, rfl, rfl, SqL.of h4, stream_of c 10 1 (by decide) 1 rfl, _, _, rfl, rfl, (by show (0 : Int) < _; decide), _, _, rfl, rfl, .inl ⟨by decide, by decide⟩, _, rfl, _, _, rfl, rfl, ?_⟩
        refine ⟨(by show 5 ≤ sizeLine; decide), fun wl hwl => ⟨_, rfl, xs, _, _, _, rfl, rfl, SqL.of (Same.upd hwl _ _ h4), stream_of c 10 0 (by decide) 0 rfl, _, _, rfl, rfl, (by show (0 : Int) < _; decide), wl, _, _, _, rfl, rfl, SqL.of upd_same, wd_at (strN c 1), ?_⟩⟩
        have s5 := Same.upd (o := HO.lst [V.str "loose", V.str "kept", V.str "make", V.str "watch", V.str "hold"]) hwl
        have s35 := s4.trans s5
        have hx5 := s5 _ _ h4
        generalize upd H4 wl (.lst [V.str "loose", V.str "kept", V.str "make", V.str "watch", V.str "hold"]) = H5 at s35 hx5
        refine ⟨_, rfl, Or.inl ⟨rfl, _, SqL.of (s35 _ _ hp3)⟩, _, rfl, _, rfl, _, rfl, _, rfl, _, rfl, xs, c, _, rfl, SqL.of hx5, fun t H6 ht s6 h6 => ?_⟩
        have hx6 := s6 _ _ hx5
        refine ⟨_, rfl, xs, _, _, _, rfl, rfl, SqL.of hx6, stream_of c 10 4 (by decide) 4 rfl, _, rfl, xs, _, _, _, rfl, rfl, SqL.of hx6, stream_of c 10 5 (by decide) 5 rfl, _, rfl, xs, _, _, _, rfl, rfl, SqL.of hx6, stream_of c 10 6 (by decide) 6 rfl, (by show 3 ≤ sizeLine; decide), fun b hb => ?_⟩
        have s7 := Same.upd (o := HO.lst [V.int (strN c 5), V.int (strN c 6), V.int (strN c 7)]) hb
        refine ⟨_, rfl, xs, _, _, _, rfl, rfl, SqL.of (s7 _ _ hx6), stream_of c 10 8 (by decide) 8 rfl, (by show 6 ≤ sizeLine; decide), fun tp htp => ?_⟩
        have s8 := Same.upd (o := HO.tup [.int (1 + (i : Int)), .str (wdF (strN c 1)), .int (100 * (strN c 2 % 12) + (1 + (i : Int))), .ref t, .ref b, .int (strN c 9)]) htp
        have S := s35.trans (s6.trans (s7.trans s8))
        have hpS := S _ _ hp3
        refine ⟨p, dv, .ref tp, rfl, rfl, hpS, (by have : sizeLine = 2 ^ 24 := rfl; omega), fun H9 h9 k9 => ?_⟩
        have tpp : tp ≠ p := fun z => by rw [z, s7 _ _ (s6 _ _ (s35 _ _ hp3))] at htp; cases htp
        have tp' : t ≠ p := fun z => by rw [z, s35 _ _ hp3] at ht; cases ht
        have bp : b ≠ p := fun z => by rw [z, s6 _ _ (s35 _ _ hp3)] at hb; cases hb
        have kn : ∀ x o, x ≠ p → H3 x = some o → H9 x = some o := fun x o n e => k9 x o n (S _ _ e)
        refine ⟨_, _, _, _, dv ++ [.ref tp], rfl, fun x o e => kn x o (fun z => by rw [z, hp] at e; cases e) (s3 _ _ e), h9, ?_⟩
        rw [snoc, ed]
        refine paired_append (Paired.mapP d3 fun v d' ⟨p', t', b', e1, n1, n2, e2, e3, e4⟩ => ⟨p', t', b', e1, n1, n2, kn _ _ (fun z => by rw [z, hp3] at e2; cases e2) e2, kn _ _ n1 e3, kn _ _ n2 e4⟩) (.cons ⟨tp, t, b, rfl, tp', bp, k9 _ _ tpp upd_same, k9 _ _ tp' (s8 _ _ (s7 _ _ h6)), k9 _ _ bp (s8 _ _ upd_same)⟩ .nil)
      · have eb : ¬ bitF (celF cs 0 % 256) i = true := fun z => e (by
          unfold bitF at z
          rw [e0]
          exact decide_eq_true (congrArg V.int (of_decide_eq_true z)))
        have ed : dwO cs i = none := by unfold dwO; rw [if_neg eb]
        refine ⟨_, _, _, _, dv, rfl, s3, hp3, ?_⟩
        rw [snoc, ed]
        simpa using d3
    · rintro σ H3 ⟨x2, x3, x4, x5, dv, rfl, s3, hp3, d3⟩
      exact ⟨_, rfl, q p dv H3 hp s3 hp3 d3⟩
--@STAGE
theorem src_snoc (en : Int → Int) (n t : Int) (l : List Int) (m : Int) : srcF en n t (l ++ [m]) = if m ≠ n ∧ en m < t then m else srcF en n t l := by
  unfold srcF
  rw [List.foldl_append]
  rfl
theorem ok_Lsource (T : Tx K mg) : FnOk P w K mg base CX0 1 T.f_Lsource T.d_Lsource ["_law_makers", "_law_ends", "_law_number", "_law_time"] spSource := by
  refine T.F_Lsource.ok sc_Lsource (fun vs H Q E h => ?_) (fun cdv A outer s H vs Q E hr h => ?_)
  · obtain ⟨a, e, kvs, ms, en, n, t, rfl, _⟩ := h
    rfl
  · obtain ⟨a, e, kvs, ms, en, n, t, rfl, ha, he, hv, q⟩ := h
    have hu := hu_of hr
    refine ⟨_, (pss_cons (ps_set (i := 4) sc_Lsource.nd rfl (Or.inl rfl) pe_int)
      (pss_cons (ps_for PassesOwn.never rfl (pi_list (pv 0)) (pg_name (i := 5) sc_Lsource.nd rfl (Or.inl rfl))
      (pss_one (ps_if (PW.pt (pw_and (pt_cmpR op_ne (pv 5) (pv 2) (nomark _)) (pw_and1 (pt_cmpR op_lt (pe_dget hu (pv 1) (pv 5) (fun _ _ => rfl)) (pv 3) (nomark _)))))
      (pss_one (ps_set (i := 4) sc_Lsource.nd rfl (Or.inl rfl) (pv 5)))
      pss_nil)))
      (pss_one (ps_ret (pv 4))))), ?_⟩
    refine ⟨_, rfl, a, rfl, ⟨_, SqL.of ha⟩, for_list (K := K) (a := a) (xs := ms.map V.int) (fun i σ H3 => H3 = H ∧ ∃ x : Option V, σ = [some (.ref a), some (.ref e), some (.int n), some (.int t), some (.int (srcF en n t (ms.take i))), x]) ⟨rfl, none, rfl⟩ (fun i σ H3 _ ⟨z, _⟩ => by rw [z]; exact SqL.of ha) ?_ ?_⟩
    · rintro i y σ H3 hy ⟨rfl, x, rfl⟩
      rw [List.getElem?_map] at hy
      obtain ⟨m, em, rfl⟩ := Option.map_eq_some_iff.mp hy
      have tk : ms.take (i + 1) = ms.take i ++ [m] := by rw [List.take_add_one, em]; rfl
      refine ⟨_, rfl, _, rfl, rfl, _, rfl, ite2 (fun e1 => ?_) (fun e1 => ?_)⟩
      · have n1 : m ≠ n := fun z => by rw [z] at e1; simp at e1
        have dg := DGet.k (k := Sum.inl m) he
        rw [hv m (List.mem_of_getElem? em)] at dg
        refine ⟨_, rfl, _, rfl, e, _, rfl, dg, _, rfl, _, _, rfl, rfl, _, rfl, ite2 (fun e2 => ?_) (fun e2 => ?_)⟩
        · have e3 : en m < t := of_decide_eq_true e2
          refine ⟨_, rfl, rfl, some (.int m), ?_⟩
          rw [tk, src_snoc, if_pos ⟨n1, e3⟩]
          rfl
        · have e3 : ¬ en m < t := fun z => e2 (decide_eq_true z)
          refine ⟨rfl, some (.int m), ?_⟩
          rw [tk, src_snoc, if_neg fun z => e3 z.2]
          rfl
      · have n1 : m = n := by
          by_cases z : m = n
          · exact z
          · exact absurd (by rw [decide_eq_false (show ¬ V.int m = V.int n from fun w => z (V.int_inj' w))]; rfl) e1
        refine iteF (A := _) ⟨rfl, some (.int m), ?_⟩
        rw [tk, src_snoc, if_neg fun z => z.1 n1]
        rfl
    · rintro σ H3 ⟨rfl, x, rfl⟩
      rw [List.length_map, List.take_length]
      exact ⟨_, rfl, q⟩
theorem fm_keep (n : Int) : ∀ l : List Int, l.filterMap (fun m => if m ≠ n then some (V.int m) else none) = (l.filter fun m => decide (m ≠ n)).map V.int
  | [] => rfl
  | x :: r => by
    rw [List.filterMap_cons, List.filter_cons]
    by_cases e : x ≠ n
    · rw [if_pos e, if_pos (decide_eq_true e), List.map_cons, fm_keep n r]
    · rw [if_neg e, if_neg (by simpa using e), fm_keep n r]
theorem seqIx {i : Int} {n : Nat} (h0 : 0 ≤ i) (h1 : i < n) : seqIndex? i n = some i.toNat := by
  unfold seqIndex?
  have : ¬ i < 0 := by omega
  simp [this, h0, h1]
theorem ok_Lspoiled (T : Tx K mg) : FnOk P w K mg base CX0 2 T.f_Lspoiled T.d_Lspoiled ["_law_deals", "_law_makes", "_law_cell"] spSpoiled := by
  refine T.F_Lspoiled.ok sc_Lspoiled (fun vs H Q E h => ?_) (fun cdv A outer s H vs Q E hr h => ?_)
  · obtain ⟨D, M, c, st, fd, fm, rfl, _⟩ := h
    rfl
  · obtain ⟨D, M, c, st, fd, fm, rfl, th, hne, ⟨hl8, hm3, hc8, hlk⟩, q⟩ := h
    have hu := hu_of hr
    refine ⟨_, (pss_cons (ps_set (i := 3) sc_Lspoiled.nd rfl (Or.inl rfl) (pe_call ((ok_Lstream T).mono (by decide)) hr rfl T.m_Lstream T.F_Lstream.kp T.b_Lstream .nil pass0 (pa_cons (pv 2) (pa_cons pe_int pa_nil))))
      (pss_cons (ps_asg (pe_ix ix_list (pv 0) (pe_op op_mod (pe_ix ix_list (pv 3) pe_int (fun _ _ => rfl)) (pe_callB call_len (by rfl) T.z_len boot_len (pa_cons (pv 0) pa_nil))) (fun _ _ => rfl)) (pg_tup rfl (pgs_cons (pg_name (i := 4) sc_Lspoiled.nd rfl (Or.inr rfl)) (pgs_cons (pg_name (i := 5) sc_Lspoiled.nd rfl (Or.inl rfl)) (pgs_cons (pg_name (i := 6) sc_Lspoiled.nd rfl (Or.inl rfl)) pgs_nil)))))
      (pss_one (ps_if (PW.pt (pw_and (pt_cmpR op_eq (pe_op op_mod (pe_ix ix_list (pv 3) pe_int (fun _ _ => rfl)) pe_int) pe_int (nomark _)) (pw_and1 (pt_cmpR (op_neE hr.units) (pv 1) pe_dnewK (nomark _)))))
      (pss_cons (ps_set (i := 7) sc_Lspoiled.nd rfl (Or.inl rfl) (pe_dget hu (pv 1) (pe_ix ix_list (pe_callB (call_sortedD rfl) (by rfl) T.z_sorted boot_sorted (pa_cons (pv 1) pa_nil)) (pe_op op_mod (pe_ix ix_list (pv 3) pe_int (fun _ _ => rfl)) (pe_callB call_lenD (by rfl) T.z_len boot_len (pa_cons (pv 1) pa_nil))) (fun _ _ => rfl)) (fun _ _ => rfl)))
      (pss_one (ps_if (pt_cmpR op_gt (pe_callB call_len (by rfl) T.z_len boot_len (pa_cons (pv 7) pa_nil)) pe_int (nomark _))
      (pss_cons (ps_set (i := 8) sc_Lspoiled.nd rfl (Or.inl rfl) (pe_bm PySem.F.plainAttrs_list PySem.F.slot_list_pop PySem.F.type_list_pop mt_popAt (pv 7) (pa_cons (pe_op op_add pe_int (pe_op op_mod (pe_ix ix_list (pv 3) pe_int (fun _ _ => rfl)) (pe_op op_sub (pe_callB call_len (by rfl) T.z_len boot_len (pa_cons (pv 7) pa_nil)) pe_int))) pa_nil)))
      (pss_one (ps_expr (pe_bm PySem.F.plainAttrs_list PySem.F.slot_list_insert PySem.F.type_list_insert mt_insertAt (pv 7) (pa_cons (pe_op op_mod (pe_ix ix_list (pv 3) pe_int (fun _ _ => rfl)) (pe_op op_add (pe_callB call_len (by rfl) T.z_len boot_len (pa_cons (pv 7) pa_nil)) pe_int)) (pa_cons (pv 8) pa_nil))))))
      pss_nil)))
      (pss_one (ps_if (PW.pt (pw_and (pt_cmpR (op_neNil hr.units) (pv 6) (pe_lst pa_nil) (nomark _)) (pw_and1 (pt_cmpR (op_neNil hr.units) (pe_ix ix_list (pv 6) (pe_op op_mod (pe_ix ix_list (pv 3) pe_int (fun _ _ => rfl)) (pe_callB call_len (by rfl) T.z_len boot_len (pa_cons (pv 6) pa_nil))) (fun _ _ => rfl)) (pe_lst pa_nil) (nomark _)))))
      (pss_cons (ps_set (i := 9) sc_Lspoiled.nd rfl (Or.inl rfl) (pe_ix ix_list (pv 6) (pe_op op_mod (pe_ix ix_list (pv 3) pe_int (fun _ _ => rfl)) (pe_callB call_len (by rfl) T.z_len boot_len (pa_cons (pv 6) pa_nil))) (fun _ _ => rfl)))
      (pss_cons (ps_set (i := 10) sc_Lspoiled.nd rfl (Or.inl rfl) (pe_ix ix_tup (pe_ix ix_list (pv 9) (pe_op op_mod (pe_ix ix_list (pv 3) pe_int (fun _ _ => rfl)) (pe_callB call_len (by rfl) T.z_len boot_len (pa_cons (pv 9) pa_nil))) (fun _ _ => rfl)) pe_int (fun _ _ => rfl)))
      (pss_cons (ps_set (i := 11) sc_Lspoiled.nd rfl (Or.inl rfl) (pe_op op_cat (pe_lst (pa_cons pe_int pa_nil)) (pe_compF ["_law_maker"] rfl (CompSc.mk (fv := ["_law_number"]) (js := [4]) rfl (by decide +kernel) (by decide +kernel) (by decide +kernel) (allc_cons (Or.inl rfl) allc_nil) rfl (by decide +kernel)) (pi_list (pe_dget2 hu (pv 1) (pv 10) (pe_lst pa_nil) ⟨rfl, rfl, rfl, rfl⟩)) (fun _ _ _ _ _ => (pg_name (i := 0) (show (["_law_maker", "_law_number"] : List Str).Nodup by decide +kernel) rfl (Or.inl rfl))) (fun _ _ _ _ _ => (pf_one (pt_cmpR op_ne (pv 0) (pv 1) (nomark _)))) (fun _ _ _ _ _ => (pv 0)))))
      (pss_cut (ps_if (pt_cmpR op_eq (pe_op op_mod (pe_op op_fdiv (pe_ix ix_list (pv 3) pe_int (fun _ _ => rfl)) pe_int) pe_int) pe_int (nomark _))
      (pss_one (ps_set (i := 11) sc_Lspoiled.nd rfl (Or.inl rfl) (pe_lst (pa_cons (pe_un un_neg pe_int) pa_nil))))
      pss_nil)
      (pss_one (ps_asg (pe_tup (pa_cons (pv 10) (pa_cons (pe_ix ix_list (pv 11) (pe_op op_mod (pe_ix ix_list (pv 3) pe_int (fun _ _ => rfl)) (pe_callB call_len (by rfl) T.z_len boot_len (pa_cons (pv 11) pa_nil))) (fun _ _ => rfl)) pa_nil))) (pg_sub (pv 9) (pe_op op_mod (pe_ix ix_list (pv 3) pe_int (fun _ _ => rfl)) (pe_callB call_len (by rfl) T.z_len boot_len (pa_cons (pv 9) pa_nil))) set_listA)))))))
      pss_nil)))))), ?_⟩
    refine ⟨_, rfl, c, 5, rfl, by decide, fun xs H1 hxs s1 h1 => ?_⟩
    have q1 : ∀ H' fd' fm', TaH H' D M (spoilF st c) fd' fm' → (∀ b o, b ∉ fd ++ fm → H1 b = some o → H' b = some o) → (∀ b ∈ fd' ++ fm', b ∈ fd ++ fm ∨ H1 b = none) → Q .non H' := fun H' fd' fm' a b c => q H' fd' fm' a (fun x o nx e => b x o nx (s1 _ _ e)) fun x hx => (c x hx).imp id fun z => s1.free z
    obtain ⟨dl, ⟨kvs, mk⟩, nd, nk⟩ := th.same s1
    have nfd : xs ∉ fd := th.deals.not hxs
    have nfm : xs ∉ fm := let ⟨_, m⟩ := th.makes; m.vals.not hxs
    clear q th
    obtain ⟨dv, f0, efd, hD, dvs⟩ := lst_open dl
    have n0 : 0 < st.1.length := List.length_pos_iff.mpr hne
    have ldv : dv.length = st.1.length := by rw [dvs.len, List.length_map]
    obtain ⟨hi, v0, ev0, av0⟩ := at_mod (strN c 2) ldv n0
    generalize hI : (strN c 2 % (st.1.length : Int)).toNat = i at hi ev0
    have ed : st.1[i]? = some (st.1.getD i zD) := getD_at hi
    generalize hd0 : st.1.getD i zD = d at ed
    obtain ⟨x, g1, g2, g3, ex, ef, td, put⟩ := dvs.focus (i := i) (d := dDeal d) (by rw [List.getElem?_map, ed]; rfl)
    rw [ev0] at ex
    cases ex
    obtain ⟨p, L, lv, fl, rfl, e2, hp, hL, tl⟩ := deal_open td
    have av1 : atI dv (strN c (1 + 1) % (dv.length : Int)) = some (.ref p) := by rw [ldv]; exact av0
    have llv : lv.length = d.2.2.length := by rw [tl.len, List.length_map]
    obtain ⟨hd3, hl3⟩ := hlk d (List.mem_of_getElem? ed)
    refine ⟨_, rfl, _, rfl, xs, _, _, _, rfl, rfl, SqL.of h1, stream_of c 5 1 (by decide) 1 rfl, _, rfl, _, _, rfl, .inl ⟨_, SqL.of hD, rfl⟩, _, _, rfl, rfl, (by rw [ldv]; omega), D, _, _, _, rfl, rfl, SqL.of hD, av1, p, _, rfl, SqT.of hp, rfl, _, _, rfl, _, _, rfl, _, _, rfl, rfl, ?_⟩
    have lkv := mk.len
    dsimp only
    refine ifS (b := decide (strN c 1 % 4 = 0 ∧ st.2 ≠ [])) (fun Q2 k2 => ?_) (fun H2 s2 => ite2 (fun e => ?_) (fun e => ?_))
    · refine ⟨_, rfl, xs, _, _, _, rfl, rfl, SqL.of h1, stream_of c 5 0 (by decide) 0 rfl, _, _, rfl, rfl, (by show (0 : Int) < 4; decide), rfl, _, rfl, ite2 (fun e => ?_) (fun e => ?_)⟩
      · have e1 : strN c 1 % 4 = 0 := V.int_inj' (of_decide_eq_true e)
        refine ⟨_, rfl, fun nn hnn => ⟨M, nn, kvs, rfl, rfl, .inl (Same.upd hnn _ _ mk.dict), .inl upd_same, _, rfl, ?_⟩⟩
        have : (!kvs.isEmpty) = decide (strN c 1 % 4 = 0 ∧ st.2 ≠ []) := by
          rw [Bool.eq_iff_iff, decide_eq_true_iff]
          cases kvs with
          | nil => simp; intro _; exact List.length_eq_zero_iff.mp lkv.symm
          | cons a r =>
            simp [e1]
            intro z
            rw [z] at lkv
            cases lkv
        rw [this]
        exact k2 _ (Same.upd hnn)
      · have e1 : ¬ strN c 1 % 4 = 0 := fun z => e (decide_eq_true (show V.int (strN c (0 + 1) % 4) = V.int 0 by rw [Nat.zero_add, z]))
        have : decide (strN c 1 % 4 = 0 ∧ st.2 ≠ []) = false := decide_eq_false fun z => e1 z.1
        rw [this] at k2
        exact k2 _ (Same.refl _)
    · obtain ⟨e1, e2'⟩ := of_decide_eq_true e
      have h12 := s2 _ _ h1
      have mk2 := mk.same s2
      have m0 : 0 < st.2.length := List.length_pos_iff.mpr e2'
      have lr : (risen (st.2.map (·.1))).length = st.2.length := by rw [(risen_perm _).length_eq, List.length_map]
      obtain ⟨ak, km0⟩ := at_modI (ns := risen (st.2.map (·.1))) (strN c 3) lr m0
      have sp : spoilF st c = (st.1, setM st.2 ((risen (st.2.map (·.1))).getD (strN c 3 % (st.2.length : Int)).toNat 0) (movF c (chF st.2 ((risen (st.2.map (·.1))).getD (strN c 3 % (st.2.length : Int)).toNat 0)))) := by
        unfold spoilF
        dsimp only
        rw [if_pos ⟨e1, e2'⟩]
      rw [sp] at q1
      generalize (risen (st.2.map (·.1))).getD (strN c 3 % (st.2.length : Int)).toNat 0 = k at ak km0 q1
      have km : k ∈ st.2.map (·.1) := (risen_perm _).mem_iff.mp km0
      obtain ⟨a, f1, f3, va, ha, efm, upm⟩ := mk2.has km
      have afm : a ∈ fm := by rw [efm]; simp
      have afd : a ∉ fd := fun z => (List.nodup_append.mp nd).2.2 a z a afm rfl
      have hch8 : (chF st.2 k).length ≤ 30 := hc8 _ (List.mem_of_getElem? (ixM_at km))
      have nda : ∀ b ∈ f1 ++ f3, b ≠ a := fun b hb z => by
        have h3 := (List.nodup_append.mp nd).2.1
        rw [efm] at h3
        have := (nd3.mp h3).2.2 a (List.mem_singleton.mpr rfl)
        rw [z] at hb
        rcases List.mem_append.mp hb with w | w
        · exact this.1 w
        · exact this.2 w
      have Ma : M ≠ a := fun z => by rw [← z, mk2.dict] at ha; cases ha
      have fin : ∀ H' : Hp, (∀ b o, b ≠ a → H2 b = some o → H' b = some o) → H' a = some (.lst ((movF c (chF st.2 k)).map V.int)) → Q .non H' := fun H' kp h' => by
        refine q1 H' fd fm ⟨dl.fr fun b hb o eb => kp b o (fun z => afd (z ▸ hb)) (s2 _ _ eb), ⟨kvs, upm H' _ (kp _ _ Ma mk2.dict) (fun b hb o eb => kp b o (nda b hb) eb) h'⟩, nd, by rw [setM_keys]; exact nk⟩ (fun b o nb eb => kp b o (fun z => nb (List.mem_append_right _ (z ▸ afm))) (s2 _ _ eb)) fun b hb => .inl hb
      have xa : xs ≠ a := fun z => nfm (z ▸ afm)
      refine ⟨_, rfl, _, rfl, M, kvs, st.2.map (·.1), rfl, mk2.dict, (by rw [mk2.keys, List.map_map]; rfl), (by rw [List.length_map]; omega), fun sl hsl => ?_⟩
      have s3 := Same.upd (o := HO.lst ((risen (st.2.map (·.1))).map V.int)) hsl
      have dg := DGet.k (k := Sum.inl k) (s3 _ _ mk2.dict)
      rw [va] at dg
      refine ⟨_, rfl, xs, _, _, _, rfl, rfl, SqL.of (s3 _ _ h12), stream_of c 5 2 (by decide) 2 rfl, _, rfl, M, kvs, rfl, s3 _ _ mk2.dict, _, _, rfl, rfl, (by rw [lkv]; omega), sl, _, _, _, rfl, rfl, SqL.of upd_same, (by rw [lkv]; exact ak), M, _, rfl, dg, ?_⟩
      have ha3 := s3 _ _ ha
      have hx3 := s3 _ _ h12
      generalize upd H2 sl (HO.lst ((risen (st.2.map (·.1))).map V.int)) = H3 at s3 ha3 hx3
      refine ⟨_, rfl, _, _, rfl, .inl ⟨_, SqL.of ha3, rfl⟩, _, _, rfl, rfl, _, rfl, ite2 (fun e3 => ?_) (fun e3 => ?_)⟩
      · have e4 : (1 : Int) < (((chF st.2 k).map V.int).length : Int) := of_decide_eq_true e3
        rw [List.length_map] at e4
        generalize chF st.2 k = ch at *
        have c0 := Int.emod_nonneg (strN c 4) (show ((ch.length : Int) - 1) ≠ 0 by omega)
        have c1 := Int.emod_lt_of_pos (strN c 4) (show (0 : Int) < (ch.length : Int) - 1 by omega)
        have ej : ch[(1 + strN c 4 % ((ch.length : Int) - 1)).toNat]? = some (ch.getD (1 + strN c 4 % ((ch.length : Int) - 1)).toNat 0) := getD_at (by omega)
        refine ⟨_, rfl, Or.inl ⟨rfl, _, SqL.of ha3⟩, _, rfl, xs, _, _, _, rfl, rfl, SqL.of hx3, stream_of c 5 3 (by decide) 3 rfl, _, rfl, _, _, rfl, .inl ⟨_, SqL.of ha3, rfl⟩, _, _, rfl, rfl, _, _, rfl, rfl, (by rw [List.length_map]; show (0 : Int) < (ch.length : Int) - 1; omega), _, _, rfl, rfl, a, _, _, (1 + strN c 4 % ((ch.length : Int) - 1)).toNat, .int (ch.getD (1 + strN c 4 % ((ch.length : Int) - 1)).toNat 0), rfl, rfl, ha3, (by rw [List.length_map]; show -(2 ^ 63) ≤ 1 + strN c 4 % ((ch.length : Int) - 1); omega), (by rw [List.length_map]; show 1 + strN c 4 % ((ch.length : Int) - 1) < 2 ^ 63; omega), (by rw [List.length_map]; exact seqIx (by show 0 ≤ 1 + strN c 4 % ((ch.length : Int) - 1); omega) (by show 1 + strN c 4 % ((ch.length : Int) - 1) < _; omega)), (by rw [List.getElem?_map, ej]; rfl), ?_⟩
        rw [erase_map]
        have mv : movF c ch = (ch.eraseIdx (1 + strN c 4 % ((ch.length : Int) - 1)).toNat).take (strN c 5 % (((ch.eraseIdx (1 + strN c 4 % ((ch.length : Int) - 1)).toNat).length : Int) + 1)).toNat ++ ch.getD (1 + strN c 4 % ((ch.length : Int) - 1)).toNat 0 :: (ch.eraseIdx (1 + strN c 4 % ((ch.length : Int) - 1)).toNat).drop (strN c 5 % (((ch.eraseIdx (1 + strN c 4 % ((ch.length : Int) - 1)).toNat).length : Int) + 1)).toNat := by
          unfold movF
          rw [if_pos (by omega)]
        have le1 : (ch.eraseIdx (1 + strN c 4 % ((ch.length : Int) - 1)).toNat).length ≤ ch.length := List.length_eraseIdx_le _ _
        generalize (1 + strN c 4 % ((ch.length : Int) - 1)).toNat = j at *
        generalize ch.eraseIdx j = c2 at *
        generalize ch.getD j 0 = y at *
        have d0 := Int.emod_nonneg (strN c 5) (show ((c2.length : Int) + 1) ≠ 0 by omega)
        have d1 := Int.emod_lt_of_pos (strN c 5) (show (0 : Int) < (c2.length : Int) + 1 by omega)
        refine ⟨_, rfl, Or.inl ⟨rfl, _, SqL.of upd_same⟩, _, rfl, xs, _, _, _, rfl, rfl, SqL.of (by rw [upd_ne xa]; exact hx3), stream_of c 5 4 (by decide) 4 rfl, _, rfl, _, _, rfl, .inl ⟨_, SqL.of upd_same, rfl⟩, _, _, rfl, rfl, _, _, rfl, rfl, (by rw [List.length_map]; show (0 : Int) < (c2.length : Int) + 1; omega), _, rfl, a, _, _, _, rfl, rfl, upd_same, (by rw [List.length_map]; exact d0), (by rw [List.length_map]; show strN c 5 % ((c2.length : Int) + 1) ≤ _; omega), (by rw [List.length_map]; have : sizeLine = 2 ^ 24 := rfl; omega), fun H' h' k' => ?_⟩
        refine fin H' (fun b o nb eb => k' b o nb (by rw [upd_ne nb]; exact s3 _ _ eb)) ?_
        rw [h', mv, List.length_map, List.map_append, List.map_cons, List.map_take, List.map_drop]
      · have e4 : ¬ (1 : Int) < (((chF st.2 k).map V.int).length : Int) := fun z => e3 (decide_eq_true z)
        rw [List.length_map] at e4
        refine fin H3 (fun b o _ eb => s3 _ _ eb) ?_
        rw [ha3]
        unfold movF
        rw [if_neg (by omega)]
    · have eB : ¬ (strN c 1 % 4 = 0 ∧ st.2 ≠ []) := fun z => e (decide_eq_true z)
      have sp0 : spoilF st c = (if d.2.2 ≠ [] ∧ d.2.2.getD (strN c 3 % (d.2.2.length : Int)).toNat [] ≠ [] then (st.1.set i (d.1, d.2.1, d.2.2.set (strN c 3 % (d.2.2.length : Int)).toNat (lokF st.2 c d.1 (d.2.2.getD (strN c 3 % (d.2.2.length : Int)).toNat []))), st.2) else st) := by
        unfold spoilF
        dsimp only
        rw [if_neg eB, hI, hd0]
      rw [sp0] at q1
      have h12 := s2 _ _ h1
      have hL2 := s2 _ _ hL
      generalize hJ : (strN c 3 % (d.2.2.length : Int)).toNat = j at q1
      have opn : d.2.2 ≠ [] → ∃ la pv l1 pf l3, lv[j]? = some (.ref la) ∧ atI lv (strN c (2 + 1) % (lv.length : Int)) = some (.ref la) ∧ fl = l1 ++ ((la :: pf) ++ l3) ∧ H1 la = some (.lst pv) ∧ TFs H1 pv ((d.2.2.getD j []).map dPair) pf ∧ d.2.2.getD j [] ∈ d.2.2 ∧
          ∀ H' x' d' f2', (∀ b ∈ l1 ++ l3, ∀ o, H1 b = some o → H' b = some o) → TF H' x' d' f2' → TFs H' (lv.set j x') ((d.2.2.map dLook).set j d') (l1 ++ (f2' ++ l3)) := fun hn => by
        have l0 : 0 < d.2.2.length := List.length_pos_iff.mpr hn
        obtain ⟨hj, v, ev, av⟩ := at_mod (strN c 3) llv l0
        rw [hJ] at hj ev
        have el := getD_at (d := ([] : Lk)) hj
        obtain ⟨x, l1, l2, l3, ex, efl, tk, put2⟩ := tl.focus (i := j) (d := dLook (d.2.2.getD j [])) (by rw [List.getElem?_map, el]; rfl)
        rw [ev] at ex
        cases ex
        obtain ⟨la, pv, pf, rfl, el2, hla, tpv⟩ := look_open tk
        exact ⟨la, pv, l1, pf, l3, ev, by rw [llv]; exact av, by rw [efl, el2], hla, tpv, List.mem_of_getElem? el, put2⟩
      have lvn : d.2.2 ≠ [] ↔ lv ≠ [] := by rw [← List.length_pos_iff, ← List.length_pos_iff, llv]
      refine ifS (b := decide (d.2.2 ≠ [] ∧ d.2.2.getD j [] ≠ [])) (fun Q2 k2 => ?_) (fun H3 s3 => ite2 (fun e => ?_) (fun e => ?_))
      · refine ⟨_, rfl, (by show 0 ≤ sizeLine; decide), fun nn hnn => ⟨L, nn, _, rfl, rfl, SqL.of (Same.upd hnn _ _ hL2), SqL.of upd_same, _, rfl, ite2 (fun e => ?_) (fun e => ?_)⟩⟩
        · have l0 : lv ≠ [] := fun z => by rw [z] at e; simp at e
          obtain ⟨la, pv, l1, pf, l3, ev, av, _, hla, tpv, _, _⟩ := opn (lvn.mpr l0)
          have su := Same.upd (o := HO.lst []) hnn
          refine ⟨_, rfl, _, rfl, xs, _, _, _, rfl, rfl, SqL.of (su _ _ h12), stream_of c 5 2 (by decide) 2 rfl, _, rfl, _, _, rfl, .inl ⟨_, SqL.of (su _ _ hL2), rfl⟩, _, _, rfl, rfl, (by have := List.length_pos_iff.mpr l0; omega), L, _, _, _, rfl, rfl, SqL.of (su _ _ hL2), av, (by show 0 ≤ sizeLine; decide), fun n2 hn2 => ⟨la, n2, pv, rfl, rfl, SqL.of (Same.upd hn2 _ _ (su _ _ (s2 _ _ hla))), SqL.of upd_same, _, rfl, ?_⟩⟩
          have : (!pv.isEmpty) = decide (d.2.2 ≠ [] ∧ d.2.2.getD j [] ≠ []) := by
            have lp := tpv.len
            rw [List.length_map] at lp
            rw [Bool.eq_iff_iff, decide_eq_true_iff]
            constructor
            · intro z
              refine ⟨lvn.mpr l0, fun w => ?_⟩
              rw [w] at lp
              rw [List.length_eq_zero_iff.mp lp] at z
              cases z
            · rintro ⟨_, z⟩
              cases pv with
              | nil => exact absurd (List.length_eq_zero_iff.mp lp.symm) z
              | cons => rfl
          rw [this]
          exact k2 _ (su.trans (Same.upd hn2))
        · have l0 : lv = [] := by
            cases lv with
            | nil => rfl
            | cons => simp at e
          have : decide (d.2.2 ≠ [] ∧ d.2.2.getD j [] ≠ []) = false := decide_eq_false fun z => lvn.mp z.1 l0
          rw [this] at k2
          exact k2 _ (Same.upd hnn)
      · obtain ⟨e3, e4⟩ := of_decide_eq_true e
        rw [if_pos ⟨e3, e4⟩] at q1
        obtain ⟨la, pv, l1, pf, l3, ev, av, efl, hla, tpv, hlm, put2⟩ := opn e3
        have s13 := s2.trans s3
        have hx3 := s13 _ _ h1
        have lpv : pv.length = (d.2.2.getD j []).length := by rw [tpv.len, List.length_map]
        have p0 : 0 < (d.2.2.getD j []).length := List.length_pos_iff.mpr e4
        have lp3 := hl3 _ hlm
        unfold lokF at q1
        dsimp only at q1
        generalize hl0 : d.2.2.getD j [] = l at q1 tpv lpv p0 lp3
        obtain ⟨hq, pr0, ep0, ap0⟩ := at_mod (strN c 4) lpv p0
        generalize hQ : (strN c 4 % (l.length : Int)).toNat = qi at q1 hq ep0
        have epq : l[qi]? = some (l.getD qi (0, 0)) := getD_at hq
        generalize l.getD qi (0, 0) = pr at q1 epq
        obtain ⟨x, p1, p2, p3, ex, epf, tpr, put3⟩ := tpv.focus (i := qi) (d := dPair pr) (by rw [List.getElem?_map, epq]; rfl)
        rw [ep0] at ex
        cases ex
        obtain ⟨a0, rfl, ea0, ha0⟩ := pair_open tpr
        have ap1 : atI pv (strN c (3 + 1) % (pv.length : Int)) = some (.ref a0) := by rw [lpv]; exact ap0
        refine ⟨_, rfl, _, rfl, xs, _, _, _, rfl, rfl, SqL.of hx3, stream_of c 5 2 (by decide) 2 rfl, _, rfl, _, _, rfl, .inl ⟨_, SqL.of (s13 _ _ hL), rfl⟩, _, _, rfl, rfl, (by have := List.length_pos_iff.mpr (lvn.mp e3); omega), L, _, _, _, rfl, rfl, SqL.of (s13 _ _ hL), av, ?_⟩
        refine ⟨_, rfl, _, rfl, xs, _, _, _, rfl, rfl, SqL.of hx3, stream_of c 5 3 (by decide) 3 rfl, _, rfl, _, _, rfl, .inl ⟨_, SqL.of (s13 _ _ hla), rfl⟩, _, _, rfl, rfl, (by rw [lpv]; omega), la, _, _, _, rfl, rfl, SqL.of (s13 _ _ hla), ap1, a0, _, _, _, rfl, rfl, SqT.of (s13 _ _ ha0), rfl, ?_⟩
        have mk3 := mk.same s13
        refine ⟨(by show 1 ≤ sizeLine; decide), fun zl hzl => ?_⟩
        have s4 := Same.upd (o := HO.lst [V.int 0]) hzl
        refine ⟨_, rfl, M, rfl, .inl ⟨kvs, .inl (s4 _ _ mk3.dict)⟩, _, rfl, (by show 0 ≤ sizeLine; decide), fun el hel => ?_⟩
        have s5 := Same.upd (o := HO.lst []) hel
        refine ⟨_, DGet.k (k := Sum.inl pr.1) (s5 _ _ (s4 _ _ mk3.dict)), ?_⟩
        have hch : ∀ k, (chF st.2 k).length ≤ 30 := fun k => by
          by_cases km : k ∈ st.2.map (·.1)
          · exact hc8 _ (List.mem_of_getElem? (ixM_at km))
          · rw [chF_none km]; exact Nat.zero_le _
        obtain ⟨ca, eca, hca⟩ : ∃ ca, (valV kvs (Sum.inl pr.1)).getD (.ref el) = .ref ca ∧ upd (upd H3 zl (.lst [V.int 0])) el (.lst []) ca = some (.lst ((chF st.2 pr.1).map V.int)) := by
          by_cases km : pr.1 ∈ st.2.map (·.1)
          · obtain ⟨a, f1, f3, va, ha, _⟩ := mk3.has km
            exact ⟨a, by rw [va]; rfl, s5 _ _ (s4 _ _ ha)⟩
          · exact ⟨el, by rw [mk3.not km]; rfl, by rw [chF_none km]; exact upd_same⟩
        refine ⟨ca, eca, ⟨_, SqL.of hca⟩, compL (k := 1) (fs := [some (.int d.1)]) (chF st.2 pr.1) PyData.int (fun m => if m ≠ d.1 then some (.int m) else none) rfl hca (Trs.ofInts _) (by have := hch pr.1; have : sizeLine = 2 ^ 24 := rfl; omega) (fun m hm H6 ts v R ss hts tr cont => ?_) (fun D' H6 hD' ss hd => ?_)⟩
        · cases tr
          obtain ⟨t, rfl⟩ := List.length_eq_one_iff.mp hts
          have cn := cont [some (.int m)] H6 rfl (Same.refl _)
          refine ⟨_, rfl, _, rfl, rfl, _, rfl, ite2 (fun e => ?_) (fun e => ?_)⟩
          · have e' : m ≠ d.1 := fun z => by rw [z] at e; simp at e
            rw [if_pos e'] at cn
            exact ⟨_, rfl, cn⟩
          · have e' : ¬ m ≠ d.1 := fun z => e (by rw [decide_eq_false (show ¬ V.int m = V.int d.1 from fun w => z (V.int_inj' w))]; rfl)
            rw [if_neg e'] at cn
            exact cn
        rw [fm_keep] at hd
        have S6 := s13.trans (s4.trans (s5.trans ss))
        refine ⟨zl, D', _, _, rfl, rfl, ss _ _ (s5 _ _ upd_same), hd, (by rw [List.length_map]; have h1 := List.length_filter_le (fun m => decide (m ≠ d.1)) (chF st.2 pr.1); have := hch pr.1; have : sizeLine = 2 ^ 24 := rfl; show 1 + _ ≤ _; omega), fun so hso => ?_⟩
        have S7 := S6.trans (Same.upd (o := HO.lst ([V.int 0] ++ ((chF st.2 pr.1).filter fun m => decide (m ≠ d.1)).map V.int)) hso)
        refine ⟨fun σ H8 => ∃ so, σ = [some (.ref D), some (.ref M), some (.int c), some (.ref xs), some (.int d.1), some (.str d.2.1), some (.ref L), none, none, some (.ref la), some (.int pr.1), some (.ref so)] ∧ Same H1 H8 ∧ H8 so = some (.lst ((oddF st.2 c d.1 pr.1).map V.int)), ?_, ?_⟩
        · refine ⟨_, rfl, xs, _, _, _, rfl, rfl, SqL.of (S7 _ _ h1), stream_of c 5 0 (by decide) 0 rfl, _, _, rfl, rfl, ⟨by decide, by decide⟩, _, _, rfl, rfl, (by show (0 : Int) < 12; decide), rfl, _, rfl, ite2 (fun e => ?_) (fun e => ?_)⟩
          · have e1 : strN c 1 / 4 % 12 = 0 := V.int_inj' (of_decide_eq_true e)
            refine ⟨1, rfl, (by show 1 ≤ sizeLine; decide), fun s2' hs2' => ⟨s2', rfl, S7.trans (Same.upd hs2'), ?_⟩⟩
            rw [upd_same]
            unfold oddF
            rw [if_pos e1]
            rfl
          · have e1 : ¬ strN c 1 / 4 % 12 = 0 := fun z => e (decide_eq_true (show V.int (strN c (0 + 1) / 4 % 12) = V.int 0 by rw [Nat.zero_add, z]))
            refine ⟨so, rfl, S7, ?_⟩
            rw [upd_same]
            unfold oddF
            rw [if_neg e1]
            rfl
        · rintro σ H8 ⟨so2, rfl, S8, hso2⟩
          have o0 : 0 < (oddF st.2 c d.1 pr.1).length := by
            unfold oddF
            split
            · exact Nat.zero_lt_one
            · exact Nat.succ_pos _
          generalize oddF st.2 c d.1 pr.1 = od at q1 hso2 o0
          obtain ⟨ao, _⟩ := at_modI (ns := od) (strN c 5) rfl o0
          refine ⟨_, rfl, _, rfl, _, rfl, xs, _, _, _, rfl, rfl, SqL.of (S8 _ _ h1), stream_of c 5 4 (by decide) 4 rfl, _, rfl, _, _, rfl, .inl ⟨_, SqL.of hso2, rfl⟩, _, _, rfl, rfl, (by rw [List.length_map]; omega), so2, _, _, _, rfl, rfl, SqL.of hso2, (by rw [List.length_map]; exact ao), (by show 2 ≤ sizeLine; decide), fun tp htp => ?_⟩
          generalize od.getD (strN c 5 % (od.length : Int)).toNat 0 = sv at q1
          have s9 := Same.upd (o := HO.tup [V.int pr.1, V.int sv]) htp
          refine ⟨_, rfl, _, rfl, xs, _, _, _, rfl, rfl, SqL.of (s9 _ _ (S8 _ _ h1)), stream_of c 5 3 (by decide) 3 rfl, _, rfl, _, _, rfl, .inl ⟨_, SqL.of (s9 _ _ (S8 _ _ hla)), rfl⟩, _, _, rfl, rfl, (by rw [lpv]; omega), la, pv, _, qi, rfl, rfl, s9 _ _ (S8 _ _ hla), (by rw [lpv]; have := ix_mod (n := l.length) (strN c 4) p0; rw [hQ] at this; exact this), fun H' h' k' => ?_⟩
          have live : ∀ b ∈ fd ++ fm, ∃ o, H1 b = some o := fun b hb => by
            rcases List.mem_append.mp hb with w | w
            · rcases dl.live b w with ⟨_, z⟩ | ⟨_, z⟩ <;> exact ⟨_, z⟩
            · rcases mk.vals.live b w with ⟨_, z⟩ | ⟨_, z⟩ <;> exact ⟨_, z⟩
          have ful : fd ++ fm = (D :: (g1 ++ p :: L :: (l1 ++ la :: p1))) ++ a0 :: (p3 ++ (l3 ++ (g3 ++ fm))) := by
            rw [efd, ef, e2, efl, epf, ea0]
            simp
          have ful2 : fd ++ fm = (D :: (g1 ++ p :: L :: l1)) ++ ([la] ++ (p1 ++ a0 :: (p3 ++ (l3 ++ (g3 ++ fm))))) := by
            rw [ful]
            simp
          have ful3 : (D :: (g1 ++ ((p :: L :: (l1 ++ ((la :: (p1 ++ ([tp] ++ p3))) ++ l3))) ++ g3))) ++ fm = (D :: (g1 ++ p :: L :: (l1 ++ la :: p1))) ++ tp :: (p3 ++ (l3 ++ (g3 ++ fm))) := by simp
          have tpn : tp ∉ fd ++ fm := fun z => by
            obtain ⟨o, eo⟩ := live tp z
            rw [S8 _ _ eo] at htp
            cases htp
          have nla : ∀ b, b ∈ (D :: (g1 ++ p :: L :: l1)) ++ (p1 ++ a0 :: (p3 ++ (l3 ++ (g3 ++ fm)))) → b ≠ la := fun b hb z => by
            have h3 := nd
            rw [ful2] at h3
            have := (nd3.mp h3).2.2 la (List.mem_singleton.mpr rfl)
            rw [z] at hb
            rcases List.mem_append.mp hb with w | w
            · exact this.1 w
            · exact this.2 w
          have keep : ∀ b o, b ≠ la → H1 b = some o → H' b = some o := fun b o nb eb => k' b o nb (s9 _ _ (S8 _ _ eb))
          have hlafd : la ∈ fd ++ fm := by rw [ful2]; simp
          have tpla : tp ≠ la := fun z => tpn (z ▸ hlafd)
          have t3 := put3 H' (.ref tp) (dPair (pr.1, sv)) [tp] (fun b hb o eb => keep b o (nla b (by rcases List.mem_append.mp hb with w | w <;> simp [w])) eb) (pair_mk (k' tp _ tpla upd_same))
          have t2 := put2 H' (.ref la) (dLook (l.set qi (pr.1, sv))) _ (fun b hb o eb => keep b o (nla b (by rcases List.mem_append.mp hb with w | w <;> simp [w])) eb) (TF.lst h' (by rw [List.map_set]; exact t3))
          rw [TFs.set_self ev] at t2
          have t1 := put H' (.ref p) (dDeal (d.1, d.2.1, d.2.2.set j (l.set qi (pr.1, sv)))) _ (fun b hb o eb => keep b o (nla b (by rcases List.mem_append.mp hb with w | w <;> simp [w])) eb) (deal_mk (keep p _ (nla p (by simp)) hp) (keep L _ (nla L (by simp)) hL) (by rw [List.map_set]; exact t2))
          rw [TFs.set_self ev0] at t1
          have t0 := TF.lst (keep D _ (nla D (by simp)) hD) t1
          refine q1 H' _ fm ⟨by rw [List.map_set]; exact t0, ⟨kvs, keep M _ (fun z => by have q5 := mk.dict; rw [z, hla] at q5; cases q5) mk.dict, mk.keys, mk.vals.fr fun b hb o eb => keep b o (nla b (by simp [hb])) eb⟩, ?_, nk⟩ (fun b o nb eb => keep b o (fun z => nb (z ▸ hlafd)) eb) fun b hb => ?_
          · rw [ful3]
            rw [ful] at nd tpn
            exact nd_swap nd fun z => tpn ((List.mem_append.mp z).elim (fun w => List.mem_append_left _ w) fun w => List.mem_append_right _ (List.mem_cons_of_mem _ w))
          · rw [ful3] at hb
            rcases List.mem_append.mp hb with w | w
            · exact .inl (by rw [ful]; exact List.mem_append_left _ w)
            · rcases List.mem_cons.mp w with w | w
              · rw [w]
                exact .inr (S8.free htp)
              · exact .inl (by rw [ful]; exact List.mem_append_right _ (List.mem_cons_of_mem _ w))
      · have eN : ¬ (d.2.2 ≠ [] ∧ d.2.2.getD j [] ≠ []) := fun z => e (decide_eq_true z)
        rw [if_neg eN] at q1
        have s13 := s2.trans s3
        exact q1 H3 fd fm ⟨dl.same s13, ⟨kvs, mk.same s13⟩, nd, nk⟩ (fun b o _ eb => s13 _ _ eb) fun b hb => .inl hb
--@STAGE
theorem srt_len (ts : List Tk) : (srtF ts).length = ts.length := by unfold srtF; exact List.length_mergeSort _
theorem trip_nodup (cs : List Int) : ((srtF (tripF (drawnF cs))).map fun t => t.2.1).Nodup := by
  have p : (srtF (tripF (drawnF cs))).Perm (tripF (drawnF cs)) := List.mergeSort_perm _ _
  refine ((p.map fun t => t.2.1).nodup_iff).mpr ?_
  unfold tripF
  rw [List.map_map]
  exact List.Pairwise.imp (fun h => by omega) (drawn_nums cs)
theorem end_at {ts : List Tk} (nd : (ts.map fun t => t.2.1).Nodup) {t : Tk} (h : t ∈ ts) : endF ts t.2.1 = t.1 := by
  unfold endF
  induction ts with
  | nil => cases h
  | cons x r ih =>
    obtain ⟨n1, n2⟩ := List.nodup_cons.mp (show (x.2.1 :: r.map fun t => t.2.1).Nodup from nd)
    rw [List.find?_cons]
    by_cases e : x.2.1 = t.2.1
    · rw [show (x.2.1 == t.2.1) = true from beq_iff_eq.mpr e]
      rcases List.mem_cons.mp h with z | z
      · rw [z]; rfl
      · exact absurd (List.mem_map.mpr ⟨t, z, e.symm⟩) n1
    · rw [show (x.2.1 == t.2.1) = false from beq_eq_false_iff_ne.mpr e]
      rcases List.mem_cons.mp h with z | z
      · exact absurd (by rw [z]) e
      · exact ih n2 z
theorem cut_spoil (cs : List Int) : cutV (cs.map V.int) (some 10) (some 30) = ((cs.drop 10).take 20).map V.int := by
  unfold cutV
  rw [show (10 : Int) = ((10 : Nat) : Int) from rfl, show (30 : Int) = ((30 : Nat) : Int) from rfl, HT.sIx_nat, HT.sIx_nat, List.length_map, List.map_take, List.map_drop]
  by_cases h : cs.length ≤ 10
  · rw [List.drop_eq_nil_of_le (by rw [List.length_map]; omega), List.drop_eq_nil_of_le (by rw [List.length_map]; exact h), List.take_nil, List.take_nil]
  · rw [show min 10 cs.length = 10 by omega]
    by_cases h2 : cs.length ≤ 30
    · rw [List.take_of_length_le (by rw [List.length_drop, List.length_map]; omega), List.take_of_length_le (by rw [List.length_drop, List.length_map]; omega)]
    · rw [show min 30 cs.length - 10 = 20 by omega]
theorem nodup_ix {α : Type} {l : List α} (h : l.Nodup) {i j : Nat} (hi : i < l.length) (hj : j < l.length) (e : l[i] = l[j]) : i = j := by
  rcases Nat.lt_trichotomy i j with z | z | z
  · exact absurd e (List.pairwise_iff_getElem.mp h i j hi hj z)
  · exact z
  · exact absurd e.symm (List.pairwise_iff_getElem.mp h j i hj hi z)
theorem fm_filt (p : Int → Bool) : ∀ l : List Int, l.filterMap (fun k => if p k = true then some (V.int k) else none) = (l.filter p).map V.int
  | [] => rfl
  | x :: r => by
    rw [List.filterMap_cons, List.filter_cons]
    by_cases e : p x = true
    · rw [if_pos e, if_pos e, List.map_cons, fm_filt p r]
    · rw [if_neg e, if_neg e, fm_filt p r]
theorem fm_there (ks : List Int) (b : Int) : ks.filterMap (fun k => if bitF b (ks.idxOf k) = true then some (V.int k) else none) = (thereF ks b).map V.int := fm_filt (fun k => bitF b (ks.idxOf k)) ks
structure MS (H5 H3 : Hp) (E M : Addr) (kvE : List (Key × V)) (ms : List Mkr) : Prop where
  ex : ∃ kvs fm, MkH H3 M kvs ms fm ∧ fm.Nodup ∧ ∀ b ∈ fm, H5 b = none
  keys : (ms.map (·.1)).Nodup
  ends : H3 E = some (.dK kvE)
  keep : ∀ b o, b ≠ E → b ≠ M → H5 b = some o → H3 b = some o
theorem MS.same {H5 H3 H4 : Hp} {E M : Addr} {kvE : List (Key × V)} {ms : List Mkr} (h : MS H5 H3 E M kvE ms) (s : Same H3 H4) : MS H5 H4 E M kvE ms :=
  ⟨let ⟨kvs, fm, a, b, c⟩ := h.ex; ⟨kvs, fm, a.same s, b, c⟩, h.keys, s _ _ h.ends, fun b o n1 n2 e => s _ _ (h.keep b o n1 n2 e)⟩
theorem MS.old {H5 H3 : Hp} {E M : Addr} {kvE : List (Key × V)} {ms : List Mkr} (h : MS H5 H3 E M kvE ms) {b : Addr} (e : H3 b = none) : H5 b = none := by
  obtain ⟨kvs, fm, mk, _, _⟩ := h.ex
  cases e5 : H5 b with
  | none => rfl
  | some o =>
    have := h.keep b o (fun z => by rw [z, h.ends] at e; cases e) (fun z => by rw [z, mk.dict] at e; cases e) e5
    rw [e] at this
    cases this
theorem MS.putE {H5 H3 : Hp} {E M : Addr} {kvE : List (Key × V)} {ms : List Mkr} (h : MS H5 H3 E M kvE ms) (n : M ≠ E) (kv : List (Key × V)) : MS H5 (upd H3 E (.dK kv)) E M kv ms := by
  obtain ⟨kvs, fm, mk, b, c⟩ := h.ex
  refine ⟨⟨kvs, fm, ⟨by rw [upd_ne n]; exact mk.dict, mk.keys, mk.vals.fr fun x hx o e => ?_⟩, b, c⟩, h.keys, upd_same, fun x o n1 n2 e => by rw [upd_ne n1]; exact h.keep x o n1 n2 e⟩
  rw [upd_ne (show x ≠ E from fun z => ?_)]
  · exact e
  · rcases mk.vals.live x hx with ⟨_, w⟩ | ⟨_, w⟩ <;> rw [z, h.ends] at w <;> cases w
theorem ok_Ltale (T : Tx K mg) : FnOk P w K mg base CX0 3 T.f_Ltale T.d_Ltale ["_law_script"] (spTale K) := by
  refine T.F_Ltale.ok sc_Ltale (fun vs H Q E h => ?_) (fun cdv A outer s H vs Q E hr h => ?_)
  · obtain ⟨a, cs, rfl, _⟩ := h
    rfl
  · obtain ⟨a, cs, rfl, ha, hcs, q⟩ := h
    have hu := hu_of hr
    refine ⟨_, (pss_cons (ps_set (i := 1) sc_Ltale.nd rfl (Or.inr rfl) (pe_call ((ok_Lkeys T).mono (by decide)) hr rfl T.m_Lkeys T.F_Lkeys.kp T.b_Lkeys .nil pass0 (pa_cons (pe_call ((ok_Lcellat T).mono (by decide)) hr rfl T.m_Lcellat T.F_Lcellat.kp T.b_Lcellat .nil pass0 (pa_cons (pv 0) (pa_cons pe_int pa_nil))) pa_nil)))
      (pss_cons (ps_set (i := 2) sc_Ltale.nd rfl (Or.inl rfl) (pe_call ((ok_Ldrawn T).mono (by decide)) hr rfl T.m_Ldrawn T.F_Ldrawn.kp T.b_Ldrawn .nil pass0 (pa_cons (pv 0) pa_nil)))
      (pss_cons (ps_set (i := 3) sc_Ltale.nd rfl (Or.inr rfl) pe_dnewK)
      (pss_cons (ps_set (i := 4) sc_Ltale.nd rfl (Or.inr rfl) pe_dnewK)
      (pss_cons (ps_for PassesOwn.never rfl (pi_list (pe_callB (call_sortedT (u16 hr.units)) (by rfl) T.z_sorted boot_sorted (pa_cons (pe_compF ["_law_one"] rfl (CompSc.mk (fv := []) (js := []) rfl (by decide +kernel) (by decide +kernel) (by decide +kernel) allc_nil rfl (by decide +kernel)) (pi_list (pv 2)) (fun _ _ _ _ _ => (pg_name (i := 0) (show (["_law_one"] : List Str).Nodup by decide +kernel) rfl (Or.inl rfl))) (fun _ _ _ _ _ => pf_nil) (fun _ _ _ _ _ => (pe_tup (pa_cons (pe_ix (ix_tupK (K := K) rfl) (pv 0) pe_int (fun _ _ => rfl)) (pa_cons (pe_ix (ix_tupK (K := K) rfl) (pv 0) pe_int (fun _ _ => rfl)) (pa_cons (pe_ix (ix_tupK (K := K) rfl) (pv 0) pe_int (fun _ _ => rfl)) pa_nil)))))) pa_nil))) (pg_tup rfl (pgs_cons (pg_name (i := 5) sc_Ltale.nd rfl (Or.inl rfl)) (pgs_cons (pg_name (i := 6) sc_Ltale.nd rfl (Or.inr rfl)) (pgs_cons (pg_name (i := 7) sc_Ltale.nd rfl (Or.inl rfl)) pgs_nil))))
      (pss_cons (ps_dput hu (pv 3) (pv 6) (pv 5) rfl)
      (pss_one (ps_for PassesOwn.never rfl (pi_range1 rfl T.z_range (pa_cons (pe_callB call_len (by rfl) T.z_len boot_len (pa_cons (pv 1) pa_nil)) pa_nil)) (pg_name (i := 8) sc_Ltale.nd rfl (Or.inl rfl))
      (pss_one (ps_if (pt_cmpR op_eq (pe_op op_and (pe_op op_shr (pv 7) (pv 8)) pe_int) pe_int (nomark _))
      (pss_one (ps_expr (pe_bm PySem.F.plainAttrs_list PySem.F.slot_list_append PySem.F.type_list_append mt_appendA (pe_dset (pv 4) (pe_ix ix_list (pv 1) (pv 8) (fun _ _ => rfl)) (pe_lst pa_nil) ⟨rfl, rfl, rfl, rfl⟩) (pa_cons (pv 6) pa_nil))))
      pss_nil))))))
      (pss_cons (ps_set (i := 9) sc_Ltale.nd rfl (Or.inl rfl) (pe_lst pa_nil))
      (pss_cons (ps_for PassesOwn.never rfl (pi_list (pv 2)) (pg_tup rfl (pgs_cons (pg_name (i := 6) sc_Ltale.nd rfl (Or.inr rfl)) (pgs_cons (pg_name (i := 10) sc_Ltale.nd rfl (Or.inl rfl)) (pgs_cons (pg_name (i := 5) sc_Ltale.nd rfl (Or.inl rfl)) (pgs_cons (pg_name (i := 11) sc_Ltale.nd rfl (Or.inr rfl)) (pgs_cons (pg_name (i := 12) sc_Ltale.nd rfl (Or.inr rfl)) (pgs_cons (pg_name (i := 7) sc_Ltale.nd rfl (Or.inl rfl)) pgs_nil)))))))
      (pss_cons (ps_set (i := 13) sc_Ltale.nd rfl (Or.inl rfl) (pe_lst pa_nil))
      (pss_cons (ps_for PassesOwn.never rfl (pi_range1 rfl T.z_range (pa_cons (pe_callB call_len (by rfl) T.z_len boot_len (pa_cons (pv 11) pa_nil)) pa_nil)) (pg_name (i := 14) sc_Ltale.nd rfl (Or.inr rfl))
      (pss_cons (ps_compF (i := 15) ["_law_key"] rfl sc_Ltale.nd rfl rfl (CompSc.mk (fv := ["_law_keys_here", "_law_bits", "_law_j"]) (js := [1, 12, 14]) rfl (by decide +kernel) (by decide +kernel) (by decide +kernel) (allc_cons (Or.inl rfl) (allc_cons (Or.inl rfl) (allc_cons (Or.inl rfl) allc_nil))) rfl (by decide +kernel)) (pi_list (pv 1)) rfl (fun _ _ _ _ _ => (pg_name (i := 0) (show (["_law_key", "_law_keys_here", "_law_bits", "_law_j"] : List Str).Nodup by decide +kernel) rfl (Or.inl rfl))) (fun _ _ _ _ _ => (pf_one (pt_cmpR op_eq (pe_op op_and (pe_op op_shr (pe_ix (ix_listK (K := K) rfl) (pv 2) (pv 3) (fun _ _ => rfl)) (pe_bmK (K := K) rfl PySem.F.plainAttrs_list PySem.F.slot_list_index PySem.F.type_list_index (mt_indexI (K := K) (u16 hr.units) rfl) (pv 1) (pa_cons (pv 0) pa_nil))) pe_int) pe_int (nomark _)))) (fun _ _ _ _ _ => (pv 0)))
      (pss_one (ps_expr (pe_bm PySem.F.plainAttrs_list PySem.F.slot_list_append PySem.F.type_list_append mt_appendA (pv 13) (pa_cons (pe_compF ["_law_key"] rfl (CompSc.mk (fv := ["_law_ends", "_law_makes", "_law_number", "_law_times_here", "_law_j"]) (js := [3, 4, 6, 11, 14]) rfl (by decide +kernel) (by decide +kernel) (by decide +kernel) (allc_cons (Or.inl rfl) (allc_cons (Or.inl rfl) (allc_cons (Or.inl rfl) (allc_cons (Or.inl rfl) (allc_cons (Or.inl rfl) allc_nil))))) rfl (by decide +kernel)) (pi_list (pv 15)) (fun _ _ _ _ _ => (pg_name (i := 0) (show (["_law_key", "_law_ends", "_law_makes", "_law_number", "_law_times_here", "_law_j"] : List Str).Nodup by decide +kernel) rfl (Or.inl rfl))) (fun _ _ _ _ _ => pf_nil) (fun _ _ _ _ _ => (pe_tup (pa_cons (pv 0) (pa_cons (pe_call ((ok_Lsource T).mono (by decide)) hr rfl T.m_Lsource T.F_Lsource.kp T.b_Lsource .nil pass0 (pa_cons (pe_dget2 hu (pv 2) (pv 0) (pe_lst pa_nil) ⟨rfl, rfl, rfl, rfl⟩) (pa_cons (pv 1) (pa_cons (pv 3) (pa_cons (pe_ix (ix_listK (K := K) rfl) (pv 4) (pv 5) (fun _ _ => rfl)) pa_nil))))) pa_nil))))) pa_nil))))))
      (pss_one (ps_expr (pe_bm PySem.F.plainAttrs_list PySem.F.slot_list_append PySem.F.type_list_append mt_appendA (pv 9) (pa_cons (pe_tup (pa_cons (pv 6) (pa_cons (pv 10) (pa_cons (pv 13) pa_nil)))) pa_nil)))))))
      (pss_cons (ps_for PassesOwn.never rfl (pi_list (pe_slice sl_list (pv 0) (po_some pe_int) (po_some pe_int))) (pg_name (i := 16) sc_Ltale.nd rfl (Or.inl rfl))
      (pss_one (ps_if (PW.pt (pw_and (pt_cmpR op_eq (pe_op op_mod (pv 16) pe_int) pe_int (nomark _)) (pw_and1 (pt_cmpR (op_neNil hr.units) (pv 9) (pe_lst pa_nil) (nomark _)))))
      (pss_one (ps_expr (pe_call ((ok_Lspoiled T).mono (by decide)) hr rfl T.m_Lspoiled T.F_Lspoiled.kp T.b_Lspoiled .nil pass0 (pa_cons (pv 9) (pa_cons (pv 4) (pa_cons (pe_op op_fdiv (pv 16) pe_int) pa_nil))))))
      pss_nil)))
      (pss_one (ps_ret (pe_tup (pa_cons (pv 9) (pa_cons (pe_compF ["_law_key"] rfl (CompSc.mk (fv := ["_law_makes"]) (js := [4]) rfl (by decide +kernel) (by decide +kernel) (by decide +kernel) (allc_cons (Or.inl rfl) allc_nil) rfl (by decide +kernel)) (pi_list (pe_callB (call_sortedD rfl) (by rfl) T.z_sorted boot_sorted (pa_cons (pv 4) pa_nil))) (fun _ _ _ _ _ => (pg_name (i := 0) (show (["_law_key", "_law_makes"] : List Str).Nodup by decide +kernel) rfl (Or.inl rfl))) (fun _ _ _ _ _ => pf_nil) (fun _ _ _ _ _ => (pe_tup (pa_cons (pv 0) (pa_cons (pe_dget hu (pv 1) (pv 0) (fun _ _ => rfl)) pa_nil))))) pa_nil))))))))))))), ?_⟩
    have sz : sizeLine = 2 ^ 24 := rfl
    refine ⟨_, rfl, a, cs, 1, rfl, ha, by decide, celF cs 1, rfl, fun kp H1 hkp s1 h1 => ?_⟩
    have hk3 := keysF_len (celF cs 1)
    generalize hks : keysF (celF cs 1) = ks at h1 hk3
    refine ⟨_, rfl, a, cs, rfl, s1.seq ha, fun dp dv H2 hdp s2 h2 pd => ?_⟩
    refine fun E hE => fun M hM => ?_
    have sE := Same.upd (o := HO.dK []) hE
    have sM := Same.upd (o := HO.dK []) hM
    have ME : M ≠ E := fun z => by rw [z, upd_same] at hM; cases hM
    have S0 := s1.trans (s2.trans (sE.trans sM))
    have hE4 : upd (upd H2 E (.dK [])) M (.dK []) E = some (.dK []) := by rw [upd_ne ME.symm]; exact upd_same
    have hM4 := upd_same (H := upd H2 E (.dK [])) (a := M) (o := HO.dK [])
    have hk4 := sM _ _ (sE _ _ (s2 _ _ h1))
    have hd4 := sM _ _ (sE _ _ h2)
    have tr4 := (dw_trs pd).same (sE.trans sM)
    have HE0 : H E = none := (s1.trans s2).free hE
    have HM0 : H M = none := (s1.trans (s2.trans sE)).free hM
    generalize upd (upd H2 E (.dK [])) M (.dK []) = H4 at sE sM S0 hE4 hM4 hk4 hd4 tr4
    have l8 := drawn_len cs
    have dh : ∀ d ∈ drawnF cs, _ := fun d hd => drawn_has hd
    have tnd := trip_nodup cs
    have dfold : stF cs = ((drawnF cs).map (dealF ks (makesF ks (srtF (tripF (drawnF cs)))) (endF (srtF (tripF (drawnF cs))))), makesF ks (srtF (tripF (drawnF cs)))) := by unfold stF; dsimp only; rw [hks]
    have stg := stF_good cs
    have tl8 : (srtF (tripF (drawnF cs))).length ≤ 8 := by rw [srt_len]; unfold tripF; rw [List.length_map]; exact l8
    generalize hts : srtF (tripF (drawnF cs)) = js at tnd dfold tl8
    refine ⟨_, rfl, dp, rfl, ⟨_, SqL.of hd4⟩, compN (k := 1) (fs := []) (drawnF cs) dDw (fun d => some (dTk (d.fin, d.num, d.mad))) rfl hd4 tr4 (by omega) (fun d hd H5 ts v R ss hts' tr cn _ => ?_) (fun C H5 ys hC s5 h5 ht => ?_)⟩
    · obtain ⟨t, rfl⟩ := List.length_eq_one_iff.mp hts'
      obtain ⟨p, t', b, rfl, hp, _, _⟩ := dw_open tr
      exact ⟨_, rfl, p, _, _, _, rfl, rfl, SqT.of hp, rfl, _, rfl, p, _, _, _, rfl, rfl, SqT.of hp, rfl, _, rfl, p, _, _, _, rfl, rfl, SqT.of hp, rfl, (by show 3 ≤ sizeLine; decide), fun n hn => cn _ _ [_] _ rfl rfl (Same.upd hn) (Tr.tup (off_at hn upd_same) (.cons (.int _) (.cons (.int _) (.cons (.int _) .nil))))⟩
    have pt : Paired (TrV H5) ys (tripF (drawnF cs)) := by
      have e : (drawnF cs).filterMap (fun d => some (dTk (d.fin, d.num, d.mad))) = (tripF (drawnF cs)).map dTk := by
        rw [fm_some]
        unfold tripF
        rw [List.map_map]
        rfl
      rw [e] at ht
      exact tk_paired (ht.same fun b o eb => (off_none eb).2)
    refine ⟨C, ys, _, rfl, SqL.of h5, pt, (by rw [prs_len pt]; unfold tripF; rw [List.length_map]; omega), fun sl zs js' hsl pj perm pw => ?_⟩
    have ej := srt_is perm pw
    rw [hts] at ej
    subst ej
    have s6 := s5.trans (Same.upd (o := HO.lst zs) hsl)
    have hsl6 := upd_same (H := H5) (a := sl) (o := HO.lst zs)
    have pj6 : Paired (TrV (upd H5 sl (.lst zs))) zs js' := Paired.mapP pj fun v t ⟨p, e, z⟩ => ⟨p, e, Same.upd hsl _ _ z⟩
    have slE : sl ≠ E := fun z => by rw [z, s5 _ _ hE4] at hsl; cases hsl
    have slM : sl ≠ M := fun z => by rw [z, s5 _ _ hM4] at hsl; cases hsl
    generalize upd H5 sl (.lst zs) = H6 at s6 hsl6 pj6
    refine ⟨sl, rfl, ⟨_, SqL.of hsl6⟩, for_list (K := K) (a := sl) (xs := zs) (fun i σ H3 => ∃ (x5 x6 x7 x8 : Option V) (kvE : List (Key × V)), σ = [some (.ref a), some (.ref kp), some (.ref dp), some (.ref E), some (.ref M), x5, x6, x7, x8, none, none, none, none, none, none, none, none] ∧
      MS H6 H3 E M kvE (makesF ks (js'.take i)) ∧ kvE.length ≤ i ∧ ∀ t ∈ js'.take i, valV kvE (Sum.inl t.2.1) = some (.int t.1)) ⟨none, none, none, none, [], rfl, ⟨⟨[], [], ⟨s6 _ _ hM4, rfl, .nil⟩, .nil, (fun b hb => by cases hb)⟩, .nil, s6 _ _ hE4, fun b o _ _ e => e⟩, Nat.le_refl _, fun t ht => by cases ht⟩ (fun i σ H3 _ ⟨_, _, _, _, _, _, m, _⟩ => SqL.of (m.keep _ _ slE slM hsl6)) ?_ ?_⟩
    · rintro i y σ H3 hy ⟨x5, x6, x7, x8, kvE, rfl, ms, lE, vE⟩
      obtain ⟨t, et, p, rfl, hp⟩ := paired_get pj6 hy
      have pE : p ≠ E := fun z => by rw [z, s6 _ _ hE4] at hp; cases hp
      have pM : p ≠ M := fun z => by rw [z, s6 _ _ hM4] at hp; cases hp
      have tk : js'.take (i + 1) = js'.take i ++ [t] := by rw [List.take_add_one, et]; rfl
      have hi8 : i < 8 := by have := (List.getElem?_eq_some_iff.mp et).1; omega
      refine ⟨p, _, rfl, SqT.of (ms.keep _ _ pE pM hp), rfl, _, _, rfl, _, _, rfl, _, _, rfl, rfl, _, rfl, _, rfl, _, rfl, E, _, rfl, DPut.k (k := Sum.inl t.2.1) ms.ends (by omega), ?_⟩
      have mE := ms.putE ME (putK kvE (Sum.inl t.2.1) (.int t.1))
      have hk3' := ms.keep _ _ (fun z => by rw [z, hE4] at hk4; cases hk4) (fun z => by rw [z, hM4] at hk4; cases hk4) (s6 _ _ hk4)
      have kpE : kp ≠ E := fun z => by rw [z, hE4] at hk4; cases hk4
      have kpM : kp ≠ M := fun z => by rw [z, hM4] at hk4; cases hk4
      generalize upd H3 E (.dK (putK kvE (Sum.inl t.2.1) (.int t.1))) = H3' at mE
      have hkp := mE.keep _ _ kpE kpM (s6 _ _ hk4)
      refine ⟨_, rfl, _, _, rfl, .inl ⟨_, SqL.of hkp, rfl⟩, _, rfl, (by rw [List.length_map]; omega), (by rw [List.length_map]; omega), ?_⟩
      rw [Int.toNat_natCast, List.length_map]
      refine for_range (fun m σ H7 => ∃ x8 : Option V, σ = [some (.ref a), some (.ref kp), some (.ref dp), some (.ref E), some (.ref M), some (.int t.1), some (.int t.2.1), some (.int t.2.2), x8, none, none, none, none, none, none, none, none] ∧ MS H6 H7 E M (putK kvE (Sum.inl t.2.1) (.int t.1)) (madeN ks t.2.1 t.2.2 (makesF ks (js'.take i)) m)) ⟨x8, rfl, mE⟩ ?_ ?_
      · rintro m σ H7 hm ⟨x8, rfl, m7⟩
        have fw := madeN_few (ks := ks) (n := t.2.1) (made := t.2.2) (makes_few hk3 js' i) m
        have e0 : (0 + (m : Int)).toNat = m := by omega
        refine ⟨_, rfl, _, rfl, _, _, rfl, rfl, (by show (0 : Int) ≤ 0 + (m : Int); omega), _, _, rfl, rfl, rfl, _, rfl, ite2 (fun e => ?_) (fun e => ?_)⟩
        · have eb : bitF t.2.2 m = true := by
            have h1 := of_decide_eq_true e
            rw [e0] at h1
            unfold bitF
            exact decide_eq_true (V.int_inj' h1)
          have em : madeN ks t.2.1 t.2.2 (makesF ks (js'.take i)) (m + 1) = addM (madeN ks t.2.1 t.2.2 (makesF ks (js'.take i)) m) (ks.getD m 0) t.2.1 := by
            show (if bitF t.2.2 m = true then _ else _) = _
            rw [if_pos eb]
          rw [em]
          generalize madeN ks t.2.1 t.2.2 (makesF ks (js'.take i)) m = mm at m7 fw
          have ak : atI (ks.map V.int) (0 + (m : Int)) = some (.int (ks.getD m 0)) := by
            rw [Int.zero_add]
            exact atI_nat (by rw [List.getElem?_map, My.getD_at (d := 0) hm]; rfl)
          generalize ks.getD m 0 = kn at ak
          obtain ⟨kvs, fm, mk, nfm, ffm⟩ := m7.ex
          refine ⟨_, rfl, M, rfl, .inl ⟨kvs, .inl mk.dict⟩, _, rfl, _, rfl, kp, _, _, _, rfl, rfl, SqL.of (m7.keep _ _ kpE kpM (s6 _ _ hk4)), ak, (by show 0 ≤ sizeLine; decide), fun nl hnl => ?_⟩
          have sn := Same.upd (o := HO.lst []) hnl
          have mk' := mk.same sn
          have m8 := m7.same sn
          have hnl6 : H6 nl = none := m7.old hnl
          have hnl8 := upd_same (H := H7) (a := nl) (o := HO.lst [])
          have nlE : nl ≠ E := fun z => by rw [z, m7.ends] at hnl; cases hnl
          have nlM : nl ≠ M := fun z => by rw [z, mk.dict] at hnl; cases hnl
          have nlf : nl ∉ fm := mk.vals.not hnl
          generalize upd H7 nl (.lst []) = H8 at sn mk' m8 hnl8
          refine ⟨kvs, Sum.inl kn, mk'.dict, rfl, (by rw [mk'.len]; omega), fun v hv => ?_, fun hv => ?_⟩
          · by_cases km : kn ∈ mm.map (·.1)
            · obtain ⟨c0, f1, f3, va, hc, efm, upm⟩ := mk'.has km
              rw [va] at hv
              cases hv
              have cM : c0 ≠ M := fun z => by rw [z, mk'.dict] at hc; cases hc
              have cE : c0 ≠ E := fun z => by rw [z, m8.ends] at hc; cases hc
              have cfm : c0 ∈ fm := by rw [efm]; simp
              refine ⟨Or.inl ⟨rfl, _, SqL.of hc⟩, _, rfl, c0, _, _, rfl, rfl, hc, (by rw [List.length_map]; have := chF_len (k := kn) fw.2; omega), fun H9 h9 k9 => ?_⟩
              refine ⟨_, rfl, ⟨kvs, fm, ?_, nfm, ffm⟩, addM_nodup _ _ m8.keys, k9 _ _ cE.symm m8.ends, fun b o n1 n2 eb => k9 b o (fun z => by rw [z] at eb; rw [ffm c0 cfm] at eb; cases eb) (m8.keep b o n1 n2 eb)⟩
              unfold addM
              rw [if_pos km]
              refine upm H9 _ (k9 _ _ cM.symm mk'.dict) (fun b hb o eb => k9 b o (fun z => ?_) eb) (by rw [h9, List.map_append]; rfl)
              rw [efm] at nfm
              have := (nd3.mp nfm).2.2 c0 (List.mem_singleton.mpr rfl)
              rw [z] at hb
              rcases List.mem_append.mp hb with w | w
              · exact this.1 w
              · exact this.2 w
            · rw [mk'.not km] at hv
              cases hv
          · have km : kn ∉ mm.map (·.1) := fun km => by
              obtain ⟨c0, f1, f3, va, _⟩ := mk'.has km
              rw [va] at hv
              cases hv
            rw [put_new hv]
            have hn9 : upd H8 M (.dK (kvs ++ [(Sum.inl kn, V.ref nl)])) nl = some (.lst []) := by rw [upd_ne nlM]; exact hnl8
            refine ⟨Or.inl ⟨rfl, _, SqL.of hn9⟩, _, rfl, nl, _, _, rfl, rfl, hn9, (by show 0 < sizeLine; decide), fun H9 h9 k9 => ?_⟩
            have kp9 : ∀ b o, b ≠ nl → b ≠ M → H8 b = some o → H9 b = some o := fun b o n1 n2 eb => k9 b o n1 (by rw [upd_ne n2]; exact eb)
            refine ⟨_, rfl, ⟨kvs ++ [(Sum.inl kn, V.ref nl)], fm ++ [nl], ⟨k9 _ _ nlM.symm upd_same, ?_, ?_⟩, nd2.mpr ⟨nfm, List.nodup_cons.mpr ⟨(fun z => by cases z), .nil⟩, fun x hx => by rw [List.mem_singleton.mp hx]; exact nlf⟩, fun b hb => ?_⟩, addM_nodup _ _ m8.keys, kp9 _ _ nlE.symm ME.symm m8.ends, fun b o n1 n2 eb => kp9 b o (fun z => by rw [z, hnl6] at eb; cases eb) n2 (m8.keep b o n1 n2 eb)⟩
            · unfold addM
              rw [if_neg km, List.map_append, List.map_append, mk'.keys]
              rfl
            · unfold addM
              rw [if_neg km, List.map_append, List.map_append]
              refine (mk'.vals.fr fun b hb o eb => kp9 b o (fun z => nlf (z ▸ hb)) (fun z => ?_) eb).app (TFs.one (TF.lst h9 (TFs.ints [t.2.1])))
              rw [z, mk'.dict] at eb
              rcases mk'.vals.live b hb with ⟨_, w⟩ | ⟨_, w⟩ <;> rw [z, mk'.dict] at w <;> cases w
            · rcases List.mem_append.mp hb with w | w
              · exact ffm b w
              · rw [List.mem_singleton.mp w]
                exact hnl6
        · have eb : ¬ bitF t.2.2 m = true := fun z => e (by
            unfold bitF at z
            rw [e0]
            exact decide_eq_true (congrArg V.int (of_decide_eq_true z)))
          refine ⟨_, rfl, ?_⟩
          show MS _ _ _ _ _ (if bitF t.2.2 m = true then _ else _)
          rw [if_neg eb]
          exact m7
      · rintro σ H7 ⟨x8, rfl, m7⟩
        refine ⟨_, _, _, _, putK kvE (Sum.inl t.2.1) (.int t.1), rfl, ?_, ?_, ?_⟩
        · rw [makes_snoc et]
          exact m7
        · exact Nat.le_trans (length_putK _ _ _) (by omega)
        · intro t' ht'
          rw [valV_put]
          rw [tk] at ht'
          rcases List.mem_append.mp ht' with w | w
          · have hne : ¬ (Sum.inl t'.2.1 : Key) = Sum.inl t.2.1 := fun z => by
              have z' : t'.2.1 = t.2.1 := Sum.inl.inj z
              obtain ⟨i', hi', ei'⟩ := List.mem_iff_getElem.mp w
              rw [List.length_take] at hi'
              rw [List.getElem_take] at ei'
              have hit := (List.getElem?_eq_some_iff.mp et)
              obtain ⟨hi2, ei2⟩ := hit
              have h3 := List.pairwise_iff_getElem.mp tnd i' i (by rw [List.length_map]; omega) (by rw [List.length_map]; exact hi2) (by omega)
              rw [List.getElem_map, List.getElem_map, ei', ei2] at h3
              exact h3 z'
            rw [if_neg hne]
            exact vE t' w
          · rw [List.mem_singleton.mp w, if_pos rfl]
    · rintro σ H3 ⟨x5, x6, x7, x8, kvE, rfl, ms, lE, vE⟩
      have lz : zs.length = js'.length := prs_len pj6
      rw [lz, List.take_length] at ms vE
      have S23 : Same H2 H3 := fun b o eb => ms.keep b o (fun z => by rw [z, hE] at eb; cases eb) (fun z => by rw [z, sE.free hM] at eb; cases eb) (s6 _ _ (sM _ _ (sE _ _ eb)))
      have S3 : Same H H3 := (s1.trans s2).trans S23
      have hk3' := S23 _ _ (s2 _ _ h1)
      have hd3 := S23 _ _ h2
      have tr3 := (dw_trs pd).same S23
      have envl : ∀ k, ∀ x ∈ chF (makesF ks js') k, valV kvE (Sum.inl x) = some (.int (endF js' x)) := fun k x hx => by
        obtain ⟨m, hm, hx'⟩ := chF_mem hx
        rw [← List.take_length (l := js')] at hm
        obtain ⟨t, ht, rfl⟩ := makes_in _ hm hx'
        rw [List.take_length] at ht
        rw [end_at tnd ht]
        exact vE t ht
      have clen : ∀ k, (chF (makesF ks js') k).length ≤ 30 := fun k => chF_len fun m hm => by
        have := (makes_few hk3 js' js'.length).2 m (by rw [List.take_length]; exact hm)
        omega
      obtain ⟨kvs, fm, mk, nfm, ffm⟩ := ms.ex
      have mends := ms.ends
      have mkeys := ms.keys
      have ffm0 : ∀ b ∈ fm, H b = none := fun b hb => S0.free (s6.free (ffm b hb))
      clear vE ms pj pj6 pt
      generalize hmm : makesF ks js' = mm at *
      generalize hen : endF js' = en at *
      refine ⟨(by show 0 ≤ sizeLine; decide), fun D hD => ?_⟩
      have hD0 := upd_same (H := H3) (a := D) (o := HO.lst [])
      have sD := Same.upd (o := HO.lst []) hD
      generalize upd H3 D (.lst []) = H3D at hD0 sD
      refine ⟨_, rfl, dp, rfl, ⟨_, SqL.of (sD _ _ hd3)⟩, for_list (K := K) (a := dp) (xs := dv) (fun i σ H7 => ∃ (x5 x6 x7 x8 x10 x11 x12 x13 x14 x15 : Option V) (lv : List V) (f : List Addr), σ = [some (.ref a), some (.ref kp), some (.ref dp), some (.ref E), some (.ref M), x5, x6, x7, x8, some (.ref D), x10, x11, x12, x13, x14, x15, none] ∧ Same H3 H7 ∧ H7 D = some (.lst lv) ∧ lv.length ≤ i ∧ TFs H7 lv (((drawnF cs).take i).map fun d => dDeal (dealF ks mm en d)) f ∧ f.Nodup ∧ (∀ b ∈ f, H3 b = none) ∧ D ∉ f) ⟨_, _, _, _, _, _, _, _, _, _, [], [], rfl, sD, hD0, Nat.le_refl _, .nil, .nil, (fun b hb => by cases hb), (fun hb => by cases hb)⟩ (fun i σ H7 _ ⟨_, _, _, _, _, _, _, _, _, _, _, _, _, s7, _⟩ => SqL.of (s7 _ _ hd3)) ?_ ?_⟩
      · rintro i y σ H7 hy ⟨x5, x6, x7, x8, x10, x11, x12, x13, x14, x15, lv, f, rfl, S7, hD7, lli, tf, nf, ff, Df⟩
        obtain ⟨dd, edd, trd⟩ := tr3.get hy
        rw [List.getElem?_map] at edd
        obtain ⟨d, ed, rfl⟩ := Option.map_eq_some_iff.mp edd
        obtain ⟨p, tt, bb, rfl, hp, htt, hbb⟩ := dw_open (trd.same S7)
        obtain ⟨_, d3, b3, _⟩ := dh d (List.mem_of_getElem? ed)
        have hi8 : i < 8 := by have := (List.getElem?_eq_some_iff.mp ed).1; omega
        have tkd : (drawnF cs).take (i + 1) = (drawnF cs).take i ++ [d] := by rw [List.take_add_one, ed]; rfl
        refine ⟨p, _, rfl, SqT.of hp, rfl, _, _, rfl, _, _, rfl, _, _, rfl, _, _, rfl, _, _, rfl, _, _, rfl, rfl, ?_⟩
        refine ⟨(by show 0 ≤ sizeLine; decide), fun L hL => ?_⟩
        have hL0 := upd_same (H := H7) (a := L) (o := HO.lst [])
        have sL := Same.upd (o := HO.lst []) hL
        generalize upd H7 L (.lst []) = H7L at hL0 sL
        refine ⟨_, rfl, _, _, rfl, .inl ⟨_, SqL.of (sL _ _ htt), rfl⟩, _, rfl, (by rw [List.length_map]; omega), (by rw [List.length_map]; omega), ?_⟩
        rw [Int.toNat_natCast, List.length_map]
        refine for_range (fun j σ H8 => ∃ (x14 x15 : Option V) (lkv : List V) (g : List Addr), σ = [some (.ref a), some (.ref kp), some (.ref dp), some (.ref E), some (.ref M), some (.int d.fin), some (.int d.num), some (.int d.mad), x8, some (.ref D), some (.str d.wrd), some (.ref tt), some (.ref bb), some (.ref L), x14, x15, none] ∧ Same H7 H8 ∧ H8 L = some (.lst lkv) ∧ lkv.length ≤ j ∧ TFs H8 lkv ((List.range j).map fun j => dLook (lookF ks mm en d.num (d.tms.getD j 0) (d.bts.getD j 0))) g ∧ g.Nodup ∧ (∀ b ∈ g, H7 b = none) ∧ L ∉ g) ⟨_, _, [], [], rfl, sL, hL0, Nat.le_refl _, .nil, .nil, (fun b hb => by cases hb), (fun hb => by cases hb)⟩ ?_ ?_
        · rintro j σ H8 hj ⟨x14', x15', lkv, g, rfl, S8, hL8, llj, tg, ng, fg, Lg⟩
          have hkp8 := S8 _ _ (S7 _ _ hk3')
          have hbb8 := S8 _ _ hbb
          have hj0 : (0 + (j : Int)) = (j : Int) := Int.zero_add _
          have ab : atI (d.bts.map V.int) (0 + (j : Int)) = some (.int (d.bts.getD j 0)) := by
            rw [hj0]
            exact atI_nat (by rw [List.getElem?_map, My.getD_at (d := 0) (show j < d.bts.length by omega)]; rfl)
          have at_ : atI (d.tms.map V.int) (0 + (j : Int)) = some (.int (d.tms.getD j 0)) := by
            rw [hj0]
            exact atI_nat (by rw [List.getElem?_map, My.getD_at (d := 0) hj]; rfl)
          have rsn : (List.range (j + 1)).map (fun j => dLook (lookF ks mm en d.num (d.tms.getD j 0) (d.bts.getD j 0))) = (List.range j).map (fun j => dLook (lookF ks mm en d.num (d.tms.getD j 0) (d.bts.getD j 0))) ++ [dLook (lookF ks mm en d.num (d.tms.getD j 0) (d.bts.getD j 0))] := by rw [List.range_succ, List.map_append]; rfl
          rw [rsn]
          generalize d.bts.getD j 0 = bj at ab
          generalize d.tms.getD j 0 = tj at at_
          refine ⟨_, rfl, kp, rfl, ⟨_, SqL.of hkp8⟩, compL (k := 1) (fs := [some (.ref kp), some (.ref bb), some (.int (0 + (j : Int)))]) ks PyData.int (fun k => if bitF bj (ks.idxOf k) = true then some (.int k) else none) rfl hkp8 (Trs.ofInts ks) (by omega) (fun k hk H9 ts v R ss hts' tr cont => ?_) (fun C2 H9 hC2 s9 h9 => ?_)⟩
          · cases tr
            obtain ⟨t, rfl⟩ := List.length_eq_one_iff.mp hts'
            have cn := cont [some (.int k)] H9 rfl (Same.refl _)
            refine ⟨_, rfl, _, rfl, bb, _, _, _, rfl, rfl, SqL.of (ss _ _ hbb8), ab, _, rfl, Or.inl ⟨rfl, _, SqL.of (ss _ _ hkp8)⟩, _, rfl, kp, ks, k, rfl, rfl, SqL.of (ss _ _ hkp8), (by omega), hk, _, _, rfl, rfl, (by show (0 : Int) ≤ _; omega), _, _, rfl, rfl, rfl, _, rfl, ite2 (fun e => ?_) (fun e => ?_)⟩
            · have eb : bitF bj (ks.idxOf k) = true := by
                have h1 := of_decide_eq_true e
                rw [Int.toNat_natCast] at h1
                unfold bitF
                exact decide_eq_true (V.int_inj' h1)
              rw [if_pos eb] at cn
              exact ⟨_, rfl, cn⟩
            · have eb : ¬ bitF bj (ks.idxOf k) = true := fun z => e (by
                unfold bitF at z
                rw [Int.toNat_natCast]
                exact decide_eq_true (congrArg V.int (of_decide_eq_true z)))
              rw [if_neg eb] at cn
              exact cn
          rw [fm_there] at h9
          have lth : (thereF ks bj).length ≤ 3 := Nat.le_trans (List.length_filter_le _ _) hk3
          have S9 := S7.trans (S8.trans s9)
          have mk9 := mk.same S9
          have hE9 := S9 _ _ mends
          have htt9 := s9 _ _ (S8 _ _ htt)
          refine ⟨_, rfl, Or.inl ⟨rfl, _, SqL.of (s9 _ _ hL8)⟩, _, rfl, C2, rfl, ⟨_, SqL.of h9⟩, compW (k := 1) (fs := [some (.ref E), some (.ref M), some (.int d.num), some (.ref tt), some (.int (0 + (j : Int)))]) (thereF ks bj) (fun _ => []) PyData.int (fun k => dPair (k, srcF en d.num tj (chF mm k))) rfl h9 (Trs.ofInts _) (by omega) (List.pairwise_iff_getElem.mpr fun _ _ _ _ _ b hb => by cases hb) (fun _ _ b hb => by cases hb) (fun k hk H10 ts v R ss hts' tr cont => ?_) (fun C3 H10 ys f3 hC3 s10 h10 t10 n10 fr10 D10 => ?_)⟩
          · cases tr
            obtain ⟨t, rfl⟩ := List.length_eq_one_iff.mp hts'
            refine ⟨_, rfl, _, rfl, M, rfl, .inl ⟨kvs, .inl (ss _ _ mk9.dict)⟩, _, rfl, (by show 0 ≤ sizeLine; decide), fun el hel => ?_⟩
            have s5' := Same.upd (o := HO.lst []) hel
            obtain ⟨ca, eca, hca⟩ : ∃ ca, (valV kvs (Sum.inl k)).getD (.ref el) = .ref ca ∧ upd H10 el (.lst []) ca = some (.lst ((chF mm k).map V.int)) := by
              by_cases km : k ∈ mm.map (·.1)
              · obtain ⟨c0, f1, f3, va, hc, _⟩ := mk9.has km
                exact ⟨c0, by rw [va]; rfl, s5' _ _ (ss _ _ hc)⟩
              · exact ⟨el, by rw [mk9.not km]; rfl, by rw [chF_none km]; exact upd_same⟩
            refine ⟨_, DGet.k (k := Sum.inl k) (s5' _ _ (ss _ _ mk9.dict)), _, rfl, _, rfl, _, rfl, _, rfl, tt, _, _, _, rfl, rfl, SqL.of (s5' _ _ (ss _ _ htt9)), at_, ca, E, kvE, chF mm k, en, d.num, tj, (by rw [eca]; rfl), hca, s5' _ _ (ss _ _ hE9), envl k, (by show 2 ≤ sizeLine; decide), fun tp htp => cont (.ref tp) [tp] [_] _ rfl (s5'.trans (Same.upd htp)) (pair_mk (p := (k, srcF en d.num tj (chF mm k))) upd_same) (List.nodup_cons.mpr ⟨(fun z => by cases z), .nil⟩) fun b hb => .inl (by rw [List.mem_singleton.mp hb]; exact s5'.free htp)⟩
          have fr11 : ∀ b ∈ f3, H9 b = none := fun b hb => (fr10 b hb).elim id fun ⟨_, _, z⟩ => by cases z
          have S10 := S8.trans (s9.trans s10)
          refine ⟨L, lkv, .ref C3, rfl, rfl, s10 _ _ (s9 _ _ hL8), (by omega), fun H11 h11 k11 => ?_⟩
          have L3 : L ∉ f3 := fun z => by have := fr11 L z; rw [s9 _ _ hL8] at this; cases this
          have LC : C3 ≠ L := fun z => by rw [z, s9 _ _ hL8] at hC3; cases hC3
          refine ⟨_, _, lkv ++ [.ref C3], g ++ (C3 :: f3), rfl, fun b o eb => k11 b o (fun z => by rw [z, hL] at eb; cases eb) (S10 _ _ eb), h11, (by rw [List.length_append]; show _ + 1 ≤ _; omega), ?_, ?_, ?_, ?_⟩
          · refine (tg.fr fun b hb o eb => k11 b o (fun z => Lg (z ▸ hb)) (s10 _ _ (s9 _ _ eb))).app (TFs.one (TF.lst (k11 _ _ LC h10) ?_))
            unfold lookF
            rw [List.map_map]
            exact t10.fr fun b hb o eb => k11 b o (fun z => L3 (z ▸ hb)) eb
          · refine nd2.mpr ⟨ng, List.nodup_cons.mpr ⟨D10, n10⟩, fun x hx z => ?_⟩
            rcases List.mem_cons.mp hx with w | w
            · rw [w] at z
              exact (tg.same s9).not hC3 z
            · exact (tg.same s9).not (fr11 x w) z
          · intro b hb
            rcases List.mem_append.mp hb with w | w
            · exact fg b w
            · rcases List.mem_cons.mp w with w | w
              · rw [w]; exact S8.free (s9.free hC3)
              · exact S8.free (s9.free (fr11 b w))
          · intro hb
            rcases List.mem_append.mp hb with w | w
            · exact Lg w
            · rcases List.mem_cons.mp w with w | w
              · exact LC w.symm
              · exact L3 w
        · rintro σ H8 ⟨x14', x15', lkv, g, rfl, S8, hL8, llj, tg, ng, fg, Lg⟩
          refine ⟨_, rfl, Or.inl ⟨rfl, _, SqL.of (S8 _ _ hD7)⟩, _, rfl, _, rfl, _, rfl, (by show 3 ≤ sizeLine; decide), fun tp htp => ?_⟩
          have st' := Same.upd (o := HO.tup [V.int d.num, V.str d.wrd, V.ref L]) htp
          refine ⟨D, lv, .ref tp, rfl, rfl, st' _ _ (S8 _ _ hD7), (by omega), fun H9 h9 k9 => ?_⟩
          have LD : L ≠ D := fun z => by rw [z, hD7] at hL; cases hL
          have tD : tp ≠ D := fun z => by rw [z, S8 _ _ hD7] at htp; cases htp
          have Dg : D ∉ g := fun z => by have := fg D z; rw [hD7] at this; cases this
          have k9' : ∀ b o, b ≠ D → H8 b = some o → H9 b = some o := fun b o n e => k9 b o n (st' _ _ e)
          refine ⟨_, _, _, _, _, _, _, _, _, _, lv ++ [.ref tp], f ++ (tp :: L :: g), rfl, fun b o eb => k9' b o (fun z => by rw [z, hD] at eb; cases eb) (S8 _ _ (S7 _ _ eb)), h9, (by rw [List.length_append]; show _ + 1 ≤ _; omega), ?_, ?_, ?_, ?_⟩
          · rw [tkd, List.map_append]
            refine (tf.fr fun b hb o eb => k9' b o (fun z => Df (z ▸ hb)) (S8 _ _ eb)).app (TFs.one (deal_mk (d := dealF ks mm en d) (k9 _ _ tD upd_same) (k9' _ _ LD hL8) ?_))
            unfold dealF
            dsimp only
            rw [List.map_map]
            exact tg.fr fun b hb o eb => k9' b o (fun z => Dg (z ▸ hb)) eb
          · refine nd2.mpr ⟨nf, List.nodup_cons.mpr ⟨?_, List.nodup_cons.mpr ⟨Lg, ng⟩⟩, fun x hx z => ?_⟩
            · intro z
              rcases List.mem_cons.mp z with w | w
              · rw [w, hL8] at htp; cases htp
              · exact tg.not htp w
            · rcases List.mem_cons.mp hx with w | w
              · rw [w] at z
                exact (tf.same S8).not htp z
              · rcases List.mem_cons.mp w with w | w
                · rw [w] at z
                  exact tf.not hL z
                · exact tf.not (fg x w) z
          · intro b hb
            rcases List.mem_append.mp hb with w | w
            · exact ff b w
            · rcases List.mem_cons.mp w with w | w
              · rw [w]; exact S7.free (S8.free htp)
              · rcases List.mem_cons.mp w with w | w
                · rw [w]; exact S7.free hL
                · exact S7.free (fg b w)
          · intro hb
            rcases List.mem_append.mp hb with w | w
            · exact Df w
            · rcases List.mem_cons.mp w with w | w
              · exact tD w.symm
              · rcases List.mem_cons.mp w with w | w
                · exact LD w.symm
                · exact Dg w
      · rintro σ H7 ⟨x5, x6, x7, x8, x10, x11, x12, x13, x14, x15, lv, f, rfl, S7, hD7, lli, tf, nf, ff, Df⟩
        have ldv : dv.length = (drawnF cs).length := by rw [tr3.len, List.length_map]
        rw [ldv, List.take_length] at tf
        have ecut : cutV (cs.map V.int) (some 10) (some 30) = ((cs.drop 10).take 20).map V.int := cut_spoil cs
        have S07 := S3.trans S7
        refine ⟨_, rfl, 10, rfl, 30, rfl, a, _, rfl, S07.seq ha, fun sc hsc => ?_⟩
        rw [ecut]
        have ssc := Same.upd (o := HO.lst (((cs.drop 10).take 20).map V.int)) hsc
        have hsc0 := upd_same (H := H7) (a := sc) (o := HO.lst (((cs.drop 10).take 20).map V.int))
        generalize upd H7 sc (.lst (((cs.drop 10).take 20).map V.int)) = H7s at ssc hsc0
        have mk7 := mk.same S7
        have scf : sc ∉ (D :: f) ++ fm := fun z => by
          rcases List.mem_append.mp z with w | w
          · rcases List.mem_cons.mp w with w | w
            · rw [w, hD7] at hsc; cases hsc
            · exact tf.not hsc w
          · exact mk7.vals.not hsc w
        have ta0 : TaH H7s D M (stF cs) (D :: f) fm := by
          rw [dfold]
          refine ⟨by rw [List.map_map]; exact TF.lst (ssc _ _ hD7) (tf.same ssc), ⟨kvs, mk7.same ssc⟩, ?_, mkeys⟩
          refine nd2.mpr ⟨List.nodup_cons.mpr ⟨Df, nf⟩, nfm, fun x hx z => ?_⟩
          rcases List.mem_cons.mp z with w | w
          · rw [w] at hx
            exact mk.vals.not hD hx
          · exact mk.vals.not (ff x w) hx
        have tf0 : ∀ b ∈ (D :: f) ++ fm, H b = none := fun b hb => by
          rcases List.mem_append.mp hb with w | w
          · rcases List.mem_cons.mp w with w | w
            · rw [w]; exact S3.free hD
            · exact S3.free (ff b w)
          · exact ffm0 b w
        have cl : ((cs.drop 10).take 20).length ≤ 20 := List.length_take_le _ _
        generalize hcu : (cs.drop 10).take 20 = cu at hsc0 cl
        refine ⟨sc, rfl, ⟨_, SqL.of hsc0⟩, for_list (K := K) (a := sc) (xs := cu.map V.int) (fun i σ H9 => ∃ (x5 x6 x7 x8 x10 x11 x12 x13 x14 x15 x16 : Option V) (fd fm : List Addr), σ = [some (.ref a), some (.ref kp), some (.ref dp), some (.ref E), some (.ref M), x5, x6, x7, x8, some (.ref D), x10, x11, x12, x13, x14, x15, x16] ∧ Same H H9 ∧ H9 sc = some (.lst (cu.map V.int)) ∧ SpG ((cu.take i).foldl spF (stF cs)) ∧ TaH H9 D M ((cu.take i).foldl spF (stF cs)) fd fm ∧ (∀ b ∈ fd ++ fm, H b = none) ∧ sc ∉ fd ++ fm) ⟨_, _, _, _, _, _, _, _, _, _, none, D :: f, fm, rfl, S07.trans ssc, hsc0, stg, ta0, tf0, scf⟩ (fun i σ H9 _ ⟨_, _, _, _, _, _, _, _, _, _, _, _, _, _, _, h, _⟩ => SqL.of h) ?_ ?_⟩
        · rintro i y σ H9 hy ⟨x5, x6, x7, x8, x10, x11, x12, x13, x14, x15, x16, fd, fm', rfl, S9, hsc9, sg, ta, tf9, scf9⟩
          rw [List.getElem?_map] at hy
          obtain ⟨c, ec, rfl⟩ := Option.map_eq_some_iff.mp hy
          have tkc : (cu.take (i + 1)).foldl spF (stF cs) = spF ((cu.take i).foldl spF (stF cs)) c := by rw [List.take_add_one, ec, List.foldl_append]; rfl
          rw [tkc]
          generalize (cu.take i).foldl spF (stF cs) = st at sg ta
          obtain ⟨dv9, f9, efd, hD9, dvs9⟩ := lst_open ta.deals
          have l9 : dv9.length = st.1.length := by rw [dvs9.len, List.length_map]
          refine ifS (b := decide (c % 6 = 0 ∧ st.1 ≠ [])) (fun Q2 k2 => ?_) (fun H10 s10 => ite2 (fun e => ?_) (fun e => ?_))
          · refine ⟨_, rfl, _, _, rfl, rfl, (by show (0 : Int) < 6; decide), rfl, _, rfl, ite2 (fun e => ?_) (fun e => ?_)⟩
            · have e1 : c % 6 = 0 := V.int_inj' (of_decide_eq_true e)
              refine ⟨_, rfl, (by show 0 ≤ sizeLine; decide), fun nn hnn => ⟨D, nn, dv9, rfl, rfl, SqL.of (Same.upd hnn _ _ hD9), SqL.of upd_same, _, rfl, ?_⟩⟩
              have : (!dv9.isEmpty) = decide (c % 6 = 0 ∧ st.1 ≠ []) := by
                rw [Bool.eq_iff_iff, decide_eq_true_iff]
                cases dv9 with
                | nil => simp; intro _; exact List.length_eq_zero_iff.mp l9.symm
                | cons a r =>
                  simp [e1]
                  intro z
                  rw [z] at l9
                  cases l9
              rw [this]
              exact k2 _ (Same.upd hnn)
            · have e1 : ¬ c % 6 = 0 := fun z => e (decide_eq_true (show V.int (c % 6) = V.int 0 by rw [z]))
              have : decide (c % 6 = 0 ∧ st.1 ≠ []) = false := decide_eq_false fun z => e1 z.1
              rw [this] at k2
              exact k2 _ (Same.refl _)
          · have e1 := of_decide_eq_true e
            have es : spF st c = spoilF st (c / 6) := by unfold spF; rw [if_pos e1]
            rw [es]
            refine ⟨_, rfl, _, rfl, _, rfl, _, _, rfl, rfl, ⟨by decide, by decide⟩, D, M, c / 6, st, fd, fm', rfl, ta.same s10, e1.2, sg, fun H11 fd' fm2 ta11 kp11 fr11 => ?_⟩
            refine ⟨_, _, _, _, _, _, _, _, _, _, _, fd', fm2, rfl, fun b o eb => kp11 b o (fun z => by rw [tf9 b z] at eb; cases eb) (s10 _ _ (S9 _ _ eb)), kp11 _ _ scf9 (s10 _ _ hsc9), spG_spoil sg _, ta11, fun b hb => ?_, fun hb => ?_⟩
            · rcases fr11 b hb with z | z
              · exact tf9 b z
              · exact S9.free (s10.free z)
            · rcases fr11 sc hb with z | z
              · exact scf9 z
              · rw [s10 _ _ hsc9] at z; cases z
          · have e1 : ¬ (c % 6 = 0 ∧ st.1 ≠ []) := fun z => e (decide_eq_true z)
            have es : spF st c = st := by unfold spF; rw [if_neg e1]
            rw [es]
            exact ⟨_, _, _, _, _, _, _, _, _, _, _, fd, fm', rfl, S9.trans s10, s10 _ _ hsc9, sg, ta.same s10, tf9, scf9⟩
        · rintro σ H9 ⟨x5, x6, x7, x8, x10, x11, x12, x13, x14, x15, x16, fd, fm', rfl, S9, hsc9, sg, ta, tf9, scf9⟩
          rw [List.length_map, List.take_length] at sg ta
          have eT : taS cs = cu.foldl spF (stF cs) := by unfold taS; rw [hcu]
          rw [← eT] at sg ta
          have q' : ∀ v f H', Same H H' → TF H' v (.tuple [.list ((taS cs).1.map dDeal), .list ((risen ((taS cs).2.map (·.1))).map fun k => dMake (k, chF (taS cs).2 k))]) f → f.Nodup → (∀ b ∈ f, H b = none) → Q v H' := fun v f H' a1 a2 a3 a4 => q v f H' a1 (by
            unfold dPast taleF
            dsimp only
            rw [List.map_map]
            exact a2) a3 a4
          clear q
          generalize taS cs = st at *
          obtain ⟨tdl, ⟨kv9, mk9⟩, nd9, nk9⟩ := ta
          refine ⟨_, rfl, _, rfl, M, kv9, st.2.map (·.1), rfl, mk9.dict, (by rw [mk9.keys, List.map_map]; rfl), (by rw [List.length_map]; have := sg.2.1; omega), fun rl hrl => ⟨rl, rfl, ⟨_, SqL.of upd_same⟩, ?_⟩⟩
          have srl := Same.upd (o := HO.lst ((risen (st.2.map (·.1))).map V.int)) hrl
          have hrl0 := upd_same (H := H9) (a := rl) (o := HO.lst ((risen (st.2.map (·.1))).map V.int))
          have mk10 := mk9.same srl
          generalize upd H9 rl (.lst ((risen (st.2.map (·.1))).map V.int)) = H10 at srl hrl0 mk10
          have adr := mk_addr mk10.vals
          have pick : ∀ k ∈ st.2.map (·.1), ∃ c0, valV kv9 (Sum.inl k) = some (.ref c0) ∧ H10 c0 = some (.lst ((chF st.2 k).map V.int)) ∧ c0 ∈ fm' ∧ fm'[ixM st.2 k]? = some c0 := fun k hk => by
            obtain ⟨c0, f1, f3, va, hc, efm, _⟩ := mk10.has hk
            refine ⟨c0, va, hc, by rw [efm]; simp, ?_⟩
            rw [kv_val mk10.keys k, ← List.getElem?_map, adr, List.getElem?_map] at va
            obtain ⟨x, ex, ey⟩ := Option.map_eq_some_iff.mp va
            rw [ex]
            cases ey
            rfl
          have lrs : (risen (st.2.map (·.1))).length ≤ 30 := by rw [(risen_perm _).length_eq, List.length_map]; exact sg.2.1
          refine compW (k := 1) (fs := [some (.ref M)]) (risen (st.2.map (·.1))) (fun k => match valV kv9 (Sum.inl k) with | some (.ref c0) => [c0] | _ => []) PyData.int (fun k => dMake (k, chF st.2 k)) rfl hrl0 (Trs.ofInts _) (by omega) ?_ (fun k hk b hb => ?_) (fun k hk H11 ts v R ss hts' tr cont => ?_) (fun C3 H11 ys f3 hC3 s11 h11 t11 n11 fr11 D11 => ?_)
          · have nr : (risen (st.2.map (·.1))).Nodup := ((risen_perm _).nodup_iff).mpr nk9
            refine List.pairwise_iff_getElem.mpr fun i j hi hj hij b hb hb2 => ?_
            have hne := List.pairwise_iff_getElem.mp nr i j hi hj hij
            have m1 : (risen (st.2.map (·.1)))[i] ∈ st.2.map (·.1) := (risen_perm _).mem_iff.mp (List.getElem_mem hi)
            have m2 : (risen (st.2.map (·.1)))[j] ∈ st.2.map (·.1) := (risen_perm _).mem_iff.mp (List.getElem_mem hj)
            generalize (risen (st.2.map (·.1)))[i] = k1 at *
            generalize (risen (st.2.map (·.1)))[j] = k2 at *
            obtain ⟨c1, v1, _, _, g1⟩ := pick k1 m1
            obtain ⟨c2, v2, _, _, g2⟩ := pick k2 m2
            rw [v1] at hb2
            rw [v2] at hb
            have e1 := List.mem_singleton.mp hb2
            have e2 := List.mem_singleton.mp hb
            rw [← e1] at g1
            rw [← e2] at g2
            have nfm' := (List.nodup_append.mp nd9).2.1
            obtain ⟨hi1, ei1⟩ := List.getElem?_eq_some_iff.mp g1
            obtain ⟨hi2, ei2⟩ := List.getElem?_eq_some_iff.mp g2
            have ixe := nodup_ix nfm' hi1 hi2 (ei1.trans ei2.symm)
            have a1 := ixM_at m1
            have a2 := ixM_at m2
            rw [ixe, a2] at a1
            exact hne (congrArg Prod.fst (Option.some.inj a1)).symm
          · have m1 : k ∈ st.2.map (·.1) := (risen_perm _).mem_iff.mp hk
            obtain ⟨c1, v1, h1', _, _⟩ := pick k m1
            rw [v1] at hb
            rw [List.mem_singleton.mp hb]
            exact ⟨_, h1'⟩
          · cases tr
            obtain ⟨t, rfl⟩ := List.length_eq_one_iff.mp hts'
            have m1 : k ∈ st.2.map (·.1) := (risen_perm _).mem_iff.mp hk
            obtain ⟨c1, v1, h1', _, _⟩ := pick k m1
            have dg := DGet.k (k := Sum.inl k) (ss _ _ mk10.dict)
            rw [v1] at dg
            refine ⟨_, rfl, _, rfl, _, rfl, M, _, rfl, dg, (by show 2 ≤ sizeLine; decide), fun tp htp => ?_⟩
            have stp := Same.upd (o := HO.tup [V.int k, V.ref c1]) htp
            refine cont (.ref tp) [tp, c1] [_] _ rfl stp (TF.tup upd_same (TFs.cons (f := []) (.int k) (TFs.one (TF.lst (stp _ _ (ss _ _ h1')) (TFs.ints _))))) ?_ fun b hb => ?_
            · refine List.nodup_cons.mpr ⟨fun z => ?_, List.nodup_cons.mpr ⟨(fun z => by cases z), .nil⟩⟩
              rw [List.mem_singleton.mp z, ss _ _ h1'] at htp
              cases htp
            · rcases List.mem_cons.mp hb with w | w
              · rw [w]; exact .inl htp
              · rw [v1]; exact .inr w
          have S11 := S9.trans (srl.trans s11)
          refine ⟨(by show 2 ≤ sizeLine; decide), fun tp htp => ?_⟩
          have stp := Same.upd (o := HO.tup [V.ref D, V.ref C3]) htp
          have inf : ∀ b ∈ f3, H9 b = none ∨ b ∈ fm' := fun b hb => (fr11 b hb).elim (fun z => .inl (srl.free z)) fun ⟨k, hk, z⟩ => by
            have m1 : k ∈ st.2.map (·.1) := (risen_perm _).mem_iff.mp hk
            obtain ⟨c1, v1, _, cf, _⟩ := pick k m1
            rw [v1] at z
            rw [List.mem_singleton.mp z]
            exact .inr cf
          have td11 := tdl.same (srl.trans s11)
          have fdl : ∀ b ∈ fd, ∃ o, H9 b = some o := fun b hb => by rcases tdl.live b hb with ⟨_, z⟩ | ⟨_, z⟩ <;> exact ⟨_, z⟩
          refine q' (.ref tp) (tp :: (fd ++ (C3 :: f3))) _ (S11.trans stp) (TF.tup upd_same (TFs.cons (td11.same stp) (TFs.one (TF.lst (stp _ _ h11) (t11.same stp))))) ?_ fun b hb => ?_
          · refine List.nodup_cons.mpr ⟨fun z => ?_, nd2.mpr ⟨(List.nodup_append.mp nd9).1, List.nodup_cons.mpr ⟨D11, n11⟩, fun x hx z => ?_⟩⟩
            · rcases List.mem_append.mp z with w | w
              · exact td11.not htp w
              · rcases List.mem_cons.mp w with w | w
                · rw [w, h11] at htp; cases htp
                · exact t11.not htp w
            · rcases List.mem_cons.mp hx with w | w
              · rw [w] at z
                exact (tdl.same srl).not hC3 z
              · rcases inf x w with y | y
                · exact tdl.not y z
                · exact (List.nodup_append.mp nd9).2.2 x z x y rfl
          · rcases List.mem_cons.mp hb with w | w
            · rw [w]; exact S11.free htp
            · rcases List.mem_append.mp w with w | w
              · exact tf9 b (List.mem_append_left _ w)
              · rcases List.mem_cons.mp w with w | w
                · rw [w]; exact S9.free (srl.free hC3)
                · rcases inf b w with y | y
                  · exact S9.free y
                  · exact tf9 b (List.mem_append_right _ y)
--@STAGE
theorem ok_Looseword (T : Tx K mg) : FnOk P w K mg base CX0 1 T.f_Looseword T.d_Looseword ["self"] (spWord .loose) := by
  refine T.F_Looseword.ok sc_Looseword (fun vs H Q E h => ?_) (fun cdv A outer s H vs Q E hr h => ?_)
  · obtain ⟨x, rfl, _⟩ := h
    rfl
  · obtain ⟨x, rfl, q⟩ := h
    exact ⟨_, (pss_one (ps_ret pe_str)), q⟩
theorem ok_Keptword (T : Tx K mg) : FnOk P w K mg base CX0 1 T.f_Keptword T.d_Keptword ["self"] (spWord .kept) := by
  refine T.F_Keptword.ok sc_Keptword (fun vs H Q E h => ?_) (fun cdv A outer s H vs Q E hr h => ?_)
  · obtain ⟨x, rfl, _⟩ := h
    rfl
  · obtain ⟨x, rfl, q⟩ := h
    exact ⟨_, (pss_one (ps_ret pe_str)), q⟩
theorem ok_Makeword (T : Tx K mg) : FnOk P w K mg base CX0 1 T.f_Makeword T.d_Makeword ["self"] (spWord .make) := by
  refine T.F_Makeword.ok sc_Makeword (fun vs H Q E h => ?_) (fun cdv A outer s H vs Q E hr h => ?_)
  · obtain ⟨x, rfl, _⟩ := h
    rfl
  · obtain ⟨x, rfl, q⟩ := h
    exact ⟨_, (pss_one (ps_ret pe_str)), q⟩
theorem ok_Watchword (T : Tx K mg) : FnOk P w K mg base CX0 1 T.f_Watchword T.d_Watchword ["self"] (spWord .watch) := by
  refine T.F_Watchword.ok sc_Watchword (fun vs H Q E h => ?_) (fun cdv A outer s H vs Q E hr h => ?_)
  · obtain ⟨x, rfl, _⟩ := h
    rfl
  · obtain ⟨x, rfl, q⟩ := h
    exact ⟨_, (pss_one (ps_ret pe_str)), q⟩
theorem ok_Holdword (T : Tx K mg) : FnOk P w K mg base CX0 1 T.f_Holdword T.d_Holdword ["self"] (spWord .hold) := by
  refine T.F_Holdword.ok sc_Holdword (fun vs H Q E h => ?_) (fun cdv A outer s H vs Q E hr h => ?_)
  · obtain ⟨x, rfl, _⟩ := h
    rfl
  · obtain ⟨x, rfl, q⟩ := h
    exact ⟨_, (pss_one (ps_ret pe_str)), q⟩
theorem tb_word (T : Tx K mg) : ∀ l, ∃ f fd ps, Cls K (cO T l) ∧ Meth K (cO T l) "word" f ∧ FnOk P w K mg base CX0 1 f fd ps (spWord l) ∧ Binds K fd ps [] := by
  intro l
  cases l
  · exact ⟨_, _, _, T.cl_Loose, T.me_Loose_word, ok_Looseword T, T.b_Looseword⟩
  · exact ⟨_, _, _, T.cl_Kept, T.me_Kept_word, ok_Keptword T, T.b_Keptword⟩
  · exact ⟨_, _, _, T.cl_Make, T.me_Make_word, ok_Makeword T, T.b_Makeword⟩
  · exact ⟨_, _, _, T.cl_Watch, T.me_Watch_word, ok_Watchword T, T.b_Watchword⟩
  · exact ⟨_, _, _, T.cl_Hold, T.me_Hold_word, ok_Holdword T, T.b_Holdword⟩
theorem ok_Loosespots (T : Tx K mg) : FnOk P w K mg base CX0 1 T.f_Loosespots T.d_Loosespots ["self", "looks"] (spSpotsL .loose) := by
  refine T.F_Loosespots.ok sc_Loosespots (fun vs H Q E h => ?_) (fun cdv A outer s H vs Q E hr h => ?_)
  · obtain ⟨x, n, rfl, _⟩ := h
    rfl
  · obtain ⟨x, n, rfl, q⟩ := h
    exact ⟨_, (pss_one (ps_ret pe_int)), q⟩
theorem ok_Keptspots (T : Tx K mg) : FnOk P w K mg base CX0 1 T.f_Keptspots T.d_Keptspots ["self", "looks"] (spSpotsL .kept) := by
  refine T.F_Keptspots.ok sc_Keptspots (fun vs H Q E h => ?_) (fun cdv A outer s H vs Q E hr h => ?_)
  · obtain ⟨x, n, rfl, _⟩ := h
    rfl
  · obtain ⟨x, n, rfl, q⟩ := h
    exact ⟨_, (pss_one (ps_ret (pe_op op_add (pv 1) pe_int))), ⟨_, rfl, _, _, rfl, rfl, q⟩⟩
theorem ok_Makespots (T : Tx K mg) : FnOk P w K mg base CX0 1 T.f_Makespots T.d_Makespots ["self", "looks"] (spSpotsL .make) := by
  refine T.F_Makespots.ok sc_Makespots (fun vs H Q E h => ?_) (fun cdv A outer s H vs Q E hr h => ?_)
  · obtain ⟨x, n, rfl, _⟩ := h
    rfl
  · obtain ⟨x, n, rfl, q⟩ := h
    exact ⟨_, (pss_one (ps_ret pe_int)), q⟩
theorem ok_Watchspots (T : Tx K mg) : FnOk P w K mg base CX0 1 T.f_Watchspots T.d_Watchspots ["self", "looks"] (spSpotsL .watch) := by
  refine T.F_Watchspots.ok sc_Watchspots (fun vs H Q E h => ?_) (fun cdv A outer s H vs Q E hr h => ?_)
  · obtain ⟨x, n, rfl, _⟩ := h
    rfl
  · obtain ⟨x, n, rfl, q⟩ := h
    exact ⟨_, (pss_one (ps_ret pe_int)), q⟩
theorem ok_Holdspots (T : Tx K mg) : FnOk P w K mg base CX0 1 T.f_Holdspots T.d_Holdspots ["self", "looks"] (spSpotsL .hold) := by
  refine T.F_Holdspots.ok sc_Holdspots (fun vs H Q E h => ?_) (fun cdv A outer s H vs Q E hr h => ?_)
  · obtain ⟨x, n, rfl, _⟩ := h
    rfl
  · obtain ⟨x, n, rfl, q⟩ := h
    exact ⟨_, (pss_one (ps_ret pe_int)), q⟩
theorem tb_spots (T : Tx K mg) : ∀ l, ∃ f fd ps, Cls K (cO T l) ∧ Meth K (cO T l) "spots" f ∧ FnOk P w K mg base CX0 1 f fd ps (spSpotsL l) ∧ Binds K fd ps [] := by
  intro l
  cases l
  · exact ⟨_, _, _, T.cl_Loose, T.me_Loose_spots, ok_Loosespots T, T.b_Loosespots⟩
  · exact ⟨_, _, _, T.cl_Kept, T.me_Kept_spots, ok_Keptspots T, T.b_Keptspots⟩
  · exact ⟨_, _, _, T.cl_Make, T.me_Make_spots, ok_Makespots T, T.b_Makespots⟩
  · exact ⟨_, _, _, T.cl_Watch, T.me_Watch_spots, ok_Watchspots T, T.b_Watchspots⟩
  · exact ⟨_, _, _, T.cl_Hold, T.me_Hold_spots, ok_Holdspots T, T.b_Holdspots⟩
theorem ok_levelof (T : Tx K mg) : FnOk P w K mg base (CXW P w) 2 T.f_levelof T.d_levelof ["word"] (spLevelOf (cO T) T.c_NoLevel) := by
  refine fun_okW T.F_levelof sc_levelof (fun vs H Q E h => ?_) (fun cdv A outer s H vs Q E hr h => ?_)
  · obtain ⟨x, rfl, _⟩ := h
    rfl
  · obtain ⟨x, rfl, hl, hc, k, ke⟩ := h
    refine ⟨_, (pss_cons (ps_nox (ps_for PassesOwn.never rfl (pi_list (pe_lst (pa_cons (pe_newO T.mo_Loose rfl T.m_Loose) (pa_cons (pe_newO T.mo_Kept rfl T.m_Kept) (pa_cons (pe_newO T.mo_Make rfl T.m_Make) (pa_cons (pe_newO T.mo_Watch rfl T.m_Watch) (pa_cons (pe_newO T.mo_Hold rfl T.m_Hold) pa_nil))))))) (pg_name (i := 1) sc_levelof.nd rfl (Or.inl rfl))
      (pss_one (ps_if (pt_cmpR op_eq (pe_methT0 (pv 1) (tb_word T) (hr.mono (by decide))) (pv 0) (nomark _))
      (pss_one (ps_ret (pv 1)))
      pss_nil))))
      (pss_one (ps_raise T.x_NoLevel rfl (pe_fstrR (pv 0) (by decide +kernel))))), ?_⟩
    intro x1 d1 h1 e1 n1
    have s1 := Same.newO (C := T.c_Loose) h1 e1 n1
    have o1 := upd_same (H := upd H d1 (.own x1)) (a := x1) (o := HO.ins T.c_Loose d1 [])
    generalize upd (upd H d1 (.own x1)) x1 (.ins T.c_Loose d1 []) = H1 at s1 o1 ⊢
    intro x2 d2 h2 e2 n2
    have s2 := Same.newO (C := T.c_Kept) h2 e2 n2
    have o2 := upd_same (H := upd H1 d2 (.own x2)) (a := x2) (o := HO.ins T.c_Kept d2 [])
    generalize upd (upd H1 d2 (.own x2)) x2 (.ins T.c_Kept d2 []) = H2 at s2 o2 ⊢
    intro x3 d3 h3 e3 n3
    have s3 := Same.newO (C := T.c_Make) h3 e3 n3
    have o3 := upd_same (H := upd H2 d3 (.own x3)) (a := x3) (o := HO.ins T.c_Make d3 [])
    generalize upd (upd H2 d3 (.own x3)) x3 (.ins T.c_Make d3 []) = H3 at s3 o3 ⊢
    intro x4 d4 h4 e4 n4
    have s4 := Same.newO (C := T.c_Watch) h4 e4 n4
    have o4 := upd_same (H := upd H3 d4 (.own x4)) (a := x4) (o := HO.ins T.c_Watch d4 [])
    generalize upd (upd H3 d4 (.own x4)) x4 (.ins T.c_Watch d4 []) = H4 at s4 o4 ⊢
    intro x5 d5 h5 e5 n5
    have s5 := Same.newO (C := T.c_Hold) h5 e5 n5
    have o5 := upd_same (H := upd H4 d5 (.own x5)) (a := x5) (o := HO.ins T.c_Hold d5 [])
    generalize upd (upd H4 d5 (.own x5)) x5 (.ins T.c_Hold d5 []) = H5 at s5 o5 ⊢
    refine ⟨(by show 5 ≤ sizeLine; decide), fun p hp => ?_⟩
    have s6 := Same.upd (o := HO.lst [V.ref x1, .ref x2, .ref x3, .ref x4, .ref x5]) hp
    have hpl := upd_same (H := H5) (a := p) (o := HO.lst [V.ref x1, .ref x2, .ref x3, .ref x4, .ref x5])
    have SS : Same H (upd H5 p (.lst [V.ref x1, .ref x2, .ref x3, .ref x4, .ref x5])) := s1.trans (s2.trans (s3.trans (s4.trans (s5.trans s6))))
    replace o1 := s6 _ _ (s5 _ _ (s4 _ _ (s3 _ _ (s2 _ _ o1))))
    replace o2 := s6 _ _ (s5 _ _ (s4 _ _ (s3 _ _ o2)))
    replace o3 := s6 _ _ (s5 _ _ (s4 _ _ o3))
    replace o4 := s6 _ _ (s5 _ _ o4)
    replace o5 := s6 _ _ o5
    generalize upd H5 p (HO.lst [V.ref x1, .ref x2, .ref x3, .ref x4, .ref x5]) = H6 at hpl SS o1 o2 o3 o4 o5 ⊢
    clear s1 s2 s3 s4 s5 s6 h1 h2 h3 h4 h5 e1 e2 e3 e4 e5
    have at_ : ∀ (i : Nat) y, [V.ref x1, .ref x2, .ref x3, .ref x4, .ref x5][i]? = some y → ∃ l a dx, ix l = i ∧ y = V.ref a ∧ H6 a = some (.ins (cO T l) dx []) := fun i y hy => by
      match i, hy with
      | 0, hy => exact ⟨.loose, x1, d1, rfl, (Option.some.inj hy).symm, o1⟩
      | 1, hy => exact ⟨.kept, x2, d2, rfl, (Option.some.inj hy).symm, o2⟩
      | 2, hy => exact ⟨.make, x3, d3, rfl, (Option.some.inj hy).symm, o3⟩
      | 3, hy => exact ⟨.watch, x4, d4, rfl, (Option.some.inj hy).symm, o4⟩
      | 4, hy => exact ⟨.hold, x5, d5, rfl, (Option.some.inj hy).symm, o5⟩
      | n + 5, hy => simp at hy
    refine ⟨p, rfl, ⟨_, SqL.of hpl⟩, for_list (K := K) (a := p) (xs := [V.ref x1, .ref x2, .ref x3, .ref x4, .ref x5])
      (fun i σ Hn => Hn = H6 ∧ ∃ (y : Option V), σ = [some (.str x), y] ∧ ∀ l, ix l < i → x ≠ wd l)
      ⟨rfl, none, rfl, fun l h => absurd h (Nat.not_lt_zero _)⟩ (fun i σ Hn _ ⟨z, _⟩ => z ▸ SqL.of hpl) ?_ ?_⟩
    · rintro i y σ Hn hy ⟨z2, y0, rfl, hno⟩
      subst z2
      obtain ⟨l, a, dx, hix, rfl, ha⟩ := at_ i y hy
      refine ⟨_, rfl, a, l, dx, [], rfl, ha, rfl, _, rfl, _, rfl, rfl, _, rfl, ite2 (fun e => ?_) (fun e => ?_)⟩
      · exact ⟨_, rfl, k l (V.str.inj (of_decide_eq_true e)).symm a dx _ SS ha⟩
      · refine ⟨rfl, _, rfl, fun l' hl' => ?_⟩
        rcases Nat.lt_succ_iff_lt_or_eq.mp hl' with z | z
        · exact hno l' z
        · have : l' = l := by
            rw [← hix] at z
            cases l' <;> cases l <;> first | rfl | cases z
          rw [this]
          exact fun q => e (decide_eq_true (congrArg V.str q.symm))
    · rintro σ Hn ⟨z2, y0, rfl, hno⟩
      subst z2
      exact ⟨_, rfl, x, rfl, hc, by omega, fun r => ke (fun l => hno l (by show ix l < 5; cases l <;> decide)) _ SS⟩
--@STAGE
noncomputable def lvS (x : Str) : Lv := if x = "kept" then .kept else if x = "make" then .make else if x = "watch" then .watch else if x = "hold" then .hold else .loose
theorem wd_lvS {x : Str} (h : x ∈ wds) : wd (lvS x) = x := by
  unfold wds at h
  simp only [List.mem_cons, List.not_mem_nil, or_false] at h
  rcases h with rfl | rfl | rfl | rfl | rfl <;> decide +kernel
theorem wd_in (l : Lv) : wd l ∈ wds := by cases l <;> decide +kernel
theorem wd_len (l : Lv) : (wd l).length ≤ 5 ∧ ∀ c ∈ (wd l).cps.toList, c < 128 := by
  cases l <;> decide +kernel
theorem wd_inj {l m : Lv} (h : wd l = wd m) : m = l := by
  have key : ∀ l m : Lv, ix l ≠ ix m → wd l ≠ wd m := by intro l m; cases l <;> cases m <;> decide +kernel
  by_cases e : ix l = ix m
  · cases l <;> cases m <;> first | rfl | cases e
  · exact absurd h (key l m e)
noncomputable def wV : Option Str → V
  | none => .non
  | some x => .str x
noncomputable def lvD (w : Option Str) (d : Dl) : Lv := lvS (w.getD d.2.1)
noncomputable def spotsD (w : Option Str) (d : Dl) : List Nk := (List.range (spotsL (lvD w d) (d.2.2.length : Int)).toNat).map fun j : Nat => (d.1, (j : Int))
noncomputable def GoodP (p : Ps) : Prop := p.1.length ≤ 8 ∧ (p.1.map (·.1)).Nodup ∧ ∀ d ∈ p.1, d.2.1 ∈ wds ∧ d.2.2.length ≤ 40
noncomputable def FineW (x : Str) : Prop := x.length ≤ 600 ∧ ∀ c ∈ x.cps.toList, c < 16 ^ 8
theorem fine_wd {x : Str} (h : x ∈ wds) : FineW x := by
  rw [← wd_lvS h]
  exact ⟨by have := (wd_len (lvS x)).1; omega, fun c hc => Nat.lt_trans ((wd_len (lvS x)).2 c hc) (by decide)⟩
noncomputable def LvH (cls : Lv → Addr) (H : Hp) (e : Addr) (w : Option Str) (p : Ps) : Prop := ∃ kvs, H e = some (.dK kvs) ∧ ∀ d ∈ p.1, ∃ a dx, valV kvs (Sum.inl d.1) = some (.ref a) ∧ H a = some (.ins (cls (lvD w d)) dx [])
theorem LvH.same {cls : Lv → Addr} {H H' : Hp} {e : Addr} {w : Option Str} {p : Ps} (s : Same H H') (h : LvH cls H e w p) : LvH cls H' e w p := let ⟨kvs, a, b⟩ := h; ⟨kvs, s _ _ a, fun d hd => let ⟨x, dx, c, f⟩ := b d hd; ⟨x, dx, c, s _ _ f⟩⟩
noncomputable def spLevels (cls : Lv → Addr) (N : Addr) : Sp := fun vs H Q E => ∃ (v : V) (p : Ps) (w : Option Str), vs = [v, wV w] ∧ Tr H v (dPast p) ∧ GoodP p ∧ (∀ x, w = some x → FineW x) ∧ ((∀ x, w = some x → x ∈ wds) → ∀ e H', Same H H' → LvH cls H' e w p → Q (.ref e) H') ∧ (∀ x, w = some x → x ∉ wds → ∀ H', Same H H' → E (.ref N) none H')
noncomputable def spSpotsOf (cls : Lv → Addr) : Sp := fun vs H Q _ => ∃ (v : V) (a : Addr) (d : Dl) (w : Option Str) (dx : Addr), vs = [v, .ref a] ∧ Tr H v (dDeal d) ∧ H a = some (.ins (cls (lvD w d)) dx []) ∧ d.2.2.length ≤ 40 ∧ ∀ D H' ys, H D = none → Same H H' → H' D = some (.lst ys) → Nds H' ys (spotsD w d) → Q (.ref D) H'
noncomputable def spSpotsH (cls : Lv → Addr) (N : Addr) : Sp := fun vs H Q E => ∃ (v : V) (p : Ps) (w : Option Str), vs = [v, wV w] ∧ Tr H v (dPast p) ∧ GoodP p ∧ (∀ x, w = some x → FineW x) ∧ ((∀ x, w = some x → x ∈ wds) → ∀ D H' ys, H D = none → Same H H' → H' D = some (.lst ys) → Nds H' ys (p.1.flatMap (spotsD w)) → Q (.ref D) H') ∧ (∀ x, w = some x → x ∉ wds → ∀ H', Same H H' → E (.ref N) none H')
theorem past_open {H : Hp} {v : V} {p : Ps} (h : Tr H v (dPast p)) : ∃ a l m lv mv, v = .ref a ∧ H a = some (.tup [.ref l, .ref m]) ∧ H l = some (.lst lv) ∧ Trs H lv (p.1.map dDeal) ∧ H m = some (.lst mv) ∧ Trs H mv (p.2.map dMake) := by
  cases h with
  | tup h r =>
    cases r with
    | cons h1 r =>
      cases h1 with
      | lst a1 b1 =>
        cases r with
        | cons h2 r =>
          cases h2 with
          | lst a2 b2 =>
            cases r
            exact ⟨_, _, _, _, _, rfl, h, a1, b1, a2, b2⟩
theorem deal_at {H : Hp} {v : V} {d : Dl} (h : Tr H v (dDeal d)) : ∃ p L lv, v = .ref p ∧ H p = some (.tup [.int d.1, .str d.2.1, .ref L]) ∧ H L = some (.lst lv) ∧ Trs H lv (d.2.2.map dLook) := by
  cases h with
  | tup h r =>
    cases r with
    | cons h1 r =>
      cases h1
      cases r with
      | cons h2 r =>
        cases h2
        cases r with
        | cons h3 r =>
          cases h3 with
          | lst a b =>
            cases r
            exact ⟨_, _, _, rfl, h, a, b⟩
theorem spots_le (w : Option Str) (d : Dl) (h : d.2.2.length ≤ 40) : 0 ≤ spotsL (lvD w d) (d.2.2.length : Int) ∧ spotsL (lvD w d) (d.2.2.length : Int) ≤ 41 := by
  generalize lvD w d = l
  cases l <;> simp only [spotsL] <;> omega
theorem put_all : ∀ (l a : List (Key × V)), ((a ++ l).map (·.1)).Nodup → putAllK a l = a ++ l
  | [], a, _ => by simp [putAllK]
  | q :: r, a, h => by
    have e : putK a q.1 q.2 = a ++ [q] := put_new (by
      unfold valV
      rw [Option.map_eq_none_iff, List.find?_eq_none]
      intro kv hk z
      have z' : kv.1 = q.1 := of_decide_eq_true z
      rw [List.map_append, List.map_cons, List.nodup_append] at h
      exact h.2.2 kv.1 (List.mem_map.mpr ⟨kv, hk, rfl⟩) q.1 List.mem_cons_self z')
    show putAllK (putK a q.1 q.2) r = _
    rw [e, put_all r (a ++ [q]) (by simpa using h)]
    simp
noncomputable def LvP (cls : Lv → Addr) (w : Option Str) (H : Hp) (y : V) (d : Dl) : Prop := ∃ t x dx, y = .ref t ∧ H t = some (.tup [.int d.1, .ref x]) ∧ H x = some (.ins (cls (lvD w d)) dx [])
theorem lvP_kn {cls : Lv → Addr} {w : Option Str} : ∀ H H' y d, KN H H' → LvP cls w H y d → LvP cls w H' y d := fun H H' y d k ⟨t, x, dx, e, h1, h2⟩ => ⟨t, x, dx, e, k _ _ (fun xs z => by cases z) h1, k _ _ (fun xs z => by cases z) h2⟩
theorem lvP_prs {cls : Lv → Addr} {w : Option Str} {K : PySem.W.Frag} {H : Hp} : ∀ {ys : List V} {ds : List Dl}, Paired (LvP cls w H) ys ds → ∃ ps : List (Key × V), Prs2 K H ys ps ∧ ps.map (·.1) = ds.map (fun d => (Sum.inl d.1 : Key)) ∧ ∀ d ∈ ds, ∃ x dx, ((Sum.inl d.1 : Key), V.ref x) ∈ ps ∧ H x = some (.ins (cls (lvD w d)) dx [])
  | _, _, .nil => ⟨[], .nil, rfl, fun d hd => by cases hd⟩
  | _, _, .cons (b := d) ⟨t, x, dx, e, h1, h2⟩ r => by
    obtain ⟨ps, a, b, c⟩ := lvP_prs r
    subst e
    refine ⟨(Sum.inl d.1, .ref x) :: ps, .cons (q := (Sum.inl d.1, V.ref x)) (SqT.of h1) a, by rw [List.map_cons, List.map_cons, b], fun d' hd' => ?_⟩
    rcases List.mem_cons.mp hd' with z | z
    · rw [z]
      exact ⟨x, dx, List.mem_cons_self, h2⟩
    · obtain ⟨x', dx', m, h⟩ := c d' z
      exact ⟨x', dx', List.mem_cons_of_mem _ m, h⟩
theorem nd_kn : ∀ H H' y (n : Nk), KN H H' → NdV H y n → NdV H' y n := fun H H' y n k ⟨p, e, h⟩ => ⟨p, e, k _ _ (fun xs z => by cases z) h⟩
theorem nds_kn {H H' : Hp} (k : KN H H') {ys : List V} {ns : List Nk} (h : Nds H ys ns) : Nds H' ys ns := Paired.mapP h fun _ _ z => nd_kn _ _ _ _ k z
theorem no_wd {x : Str} (h : ∀ l, x ≠ wd l) : x ∉ wds := fun z => h (lvS x) (wd_lvS z).symm
theorem trs_paired {α : Type} {H : Hp} {dx : α → PyData} : ∀ {vs : List V} {as : List α}, Trs H vs (as.map dx) → Paired (fun v a => Tr H v (dx a)) vs as
  | _, [], .nil => .nil
  | _, _ :: _, .cons h r => .cons h (trs_paired r)
theorem ok_levelsof (T : Tx K mg) : FnOk P w K mg base (CXW P w) 3 T.f_levelsof T.d_levelsof ["past", "word"] (spLevels (cO T) T.c_NoLevel) := by
  refine fun_okW T.F_levelsof sc_levelsof (fun vs H Q E h => ?_) (fun cdv A outer s H vs Q E hr h => ?_)
  · obtain ⟨v, p, wo, rfl, _⟩ := h
    rfl
  · obtain ⟨v, p, wo, rfl, tr, ⟨l8, nn, gd⟩, fw, qy, qn⟩ := h
    refine ⟨_, (pss_cut (ps_if (pt_cmpR op_notN (pv 1) pe_non (nomark _))
      (pss_one (ps_expr (pe_call ((ok_levelof T).mono (by decide)) hr rfl T.m_levelof T.F_levelof.kp T.b_levelof .nil (passW fun _ _ _ z => z) (pa_cons (pv 1) pa_nil))))
      pss_nil)
      (pss_one (ps_ret (pe_callTy (call_dictP (K := K) rfl rfl) (by rfl) T.z_dict boot_dict (pa_cons (pe_compF ["deal"] rfl (CompSc.mk (fv := ["word"]) (js := [1]) rfl (by decide +kernel) (by decide +kernel) (by decide +kernel) (allc_cons (Or.inl rfl) allc_nil) rfl (by decide +kernel)) (pi_list (pe_ix ix_tup (pv 0) pe_int (fun _ _ => rfl))) (fun _ _ _ _ _ => (pg_name (i := 0) (show (["deal", "word"] : List Str).Nodup by decide +kernel) rfl (Or.inl rfl))) (fun _ _ _ _ _ => pf_nil) (fun _ _ _ _ _ => (pe_tup (pa_cons (pe_ix (ix_tupK (K := K) rfl) (pv 0) pe_int (fun _ _ => rfl)) (pa_cons (pe_call ((ok_levelof T).mono (by decide)) hr rfl T.m_levelof T.F_levelof.kp T.b_levelof .nil passF (pa_cons (pe_ifExp (pt_cmpR op_isN (pv 1) pe_non (nomark _)) (pe_ix (ix_tupK (K := K) rfl) (pv 0) pe_int (fun _ _ => rfl)) (pv 1)) pa_nil)) pa_nil))))) pa_nil))))), ?_⟩
    refine ⟨fun σ H1 => σ = [some v, some (wV wo)] ∧ Same H H1 ∧ (∀ x, wo = some x → x ∈ wds), ?_, ?_⟩
    · cases wo with
      | none => exact ⟨_, rfl, rfl, _, rfl, iteF (A := _) ⟨rfl, Same.refl _, fun x e => by cases e⟩⟩
      | some x => exact ⟨_, rfl, rfl, _, rfl, iteT (B := _) ⟨_, rfl, x, rfl, (fw x rfl).1, (fw x rfl).2, fun l e a dx H' s' _ => ⟨rfl, s', fun y ey => by cases ey; rw [e]; exact wd_in l⟩, fun hn H' s' => qn x rfl (no_wd hn) H' s'⟩⟩
    · rintro σ H1 ⟨rfl, s1, hw⟩
      obtain ⟨a, l, m, lv, mv, rfl, ha, hl, tl, _, _⟩ := past_open tr
      refine ⟨_, rfl, a, _, _, _, rfl, rfl, SqT.of (s1 _ _ ha), rfl, l, rfl, ⟨_, SqL.of (s1 _ _ hl)⟩, compPL (k := 1) (fs := [some (wV wo)]) (LvP (cO T) wo) (fun H v d => Tr H v (dDeal d)) p.1 some lvP_kn (fun _ _ _ _ ss z => z.same ss) rfl (s1 _ _ hl) (trs_paired (tl.same s1)) (by have : sizeLine = 2 ^ 24 := rfl; omega) (fun d hd H2 ts v R ss hts trd cont _ => ?_) (fun D H2 ys hD s2 h2 pp => ?_)⟩
      · obtain ⟨t, rfl⟩ := List.length_eq_one_iff.mp hts
        obtain ⟨pd, L, lkv, rfl, hpd, _, _⟩ := deal_at trd
        obtain ⟨gw, _⟩ := gd d hd
        refine ⟨_, rfl, pd, _, _, _, rfl, rfl, SqT.of hpd, rfl, ?_⟩
        have fin : ∀ (x : Str), x ∈ wds → lvD wo d = lvS x → spLevelOf (cO T) T.c_NoLevel [.str x] H2 (fun y H4 => [V.int d.1, y].length ≤ sizeLine ∧ ∀ q, H4 q = none → R (some (.ref q)) ([some (.ref pd)] ++ [some (wV wo)]) (upd H4 q (.tup [.int d.1, y]))) (fun _ _ _ => False) := fun x hx el => by
          refine ⟨x, rfl, (fine_wd hx).1, (fine_wd hx).2, fun l e a' dx H' s' h' => ⟨(by show 2 ≤ sizeLine; decide), fun q hq => cont d _ [_] _ rfl rfl (s'.trans (Same.upd hq)) ⟨q, a', dx, rfl, upd_same, Same.upd hq _ _ ?_⟩⟩, fun hn => absurd hx (no_wd hn)⟩
          have : lvD wo d = l := by
            rw [el]
            exact wd_inj (e.symm.trans (wd_lvS hx).symm)
          rw [this]
          exact h'
        cases wo with
        | none => exact ⟨_, rfl, rfl, _, rfl, iteT (B := _) ⟨_, rfl, pd, _, _, _, rfl, rfl, SqT.of hpd, rfl, fin d.2.1 gw rfl⟩⟩
        | some x => exact ⟨_, rfl, rfl, _, rfl, iteF (A := _) ⟨_, rfl, fin x (hw x rfl) rfl⟩⟩
      · rw [List.filterMap_some] at pp
        obtain ⟨ps, pr, pk, pv⟩ := lvP_prs (K := K) pp
        have lps : ps.length = p.1.length := by have := congrArg List.length pk; simpa using this
        have nd : (ps.map (·.1)).Nodup := by
          rw [pk]
          exact List.pairwise_map.mpr (List.Pairwise.imp (fun z e => z (Sum.inl.inj e)) (List.pairwise_map.mp nn))
        refine ⟨D, ys, ps, rfl, h2, pr, (by omega), fun e he => qy hw e _ (s1.trans (s2.trans (Same.upd he))) ⟨_, upd_same, fun d hd => ?_⟩⟩
        rw [put_all ps [] (by simpa using nd)]
        obtain ⟨x, dx, hm, hx⟩ := pv d hd
        exact ⟨x, dx, valV_mem nd hm, Same.upd he _ _ hx⟩
theorem ok_spotsof (T : Tx K mg) : FnOk P w K mg base CX0 2 T.f_spotsof T.d_spotsof ["deal", "level"] (spSpotsOf (cO T)) := by
  refine T.F_spotsof.ok sc_spotsof (fun vs H Q E h => ?_) (fun cdv A outer s H vs Q E hr h => ?_)
  · obtain ⟨v, a, d, wo, dx, rfl, _⟩ := h
    rfl
  · obtain ⟨v, a, d, wo, dx, rfl, tr, ha, l40, q⟩ := h
    refine ⟨_, (pss_one (ps_ret (pe_compF ["place"] rfl (CompSc.mk (fv := ["deal"]) (js := [0]) rfl (by decide +kernel) (by decide +kernel) (by decide +kernel) (allc_cons (Or.inl rfl) allc_nil) rfl (by decide +kernel)) (pi_range1 rfl T.z_range (pa_cons (pe_methT (pv 1) (tb_spots T) (hr.mono (by decide)) (pa_cons (pe_callB call_len (by rfl) T.z_len boot_len (pa_cons (pe_ix ix_tup (pv 0) pe_int (fun _ _ => rfl)) pa_nil)) pa_nil)) pa_nil)) (fun _ _ _ _ _ => (pg_name (i := 0) (show (["place", "deal"] : List Str).Nodup by decide +kernel) rfl (Or.inl rfl))) (fun _ _ _ _ _ => pf_nil) (fun _ _ _ _ _ => (pe_tup (pa_cons (pe_ix (ix_tupK (K := K) rfl) (pv 1) pe_int (fun _ _ => rfl)) (pa_cons (pv 0) pa_nil))))))), ?_⟩
    obtain ⟨pd, L, lkv, rfl, hpd, hL, tL⟩ := deal_at tr
    have ll : lkv.length = d.2.2.length := by rw [tL.len, List.length_map]
    have sl := spots_le wo d l40
    refine ⟨_, rfl, a, lvD wo d, dx, [], rfl, ha, rfl, _, rfl, pd, _, _, _, rfl, rfl, SqT.of hpd, rfl, _, _, rfl, .inl ⟨_, SqL.of hL, rfl⟩, _, _, rfl, ?_⟩
    rw [ll]
    refine ⟨_, rfl, (by omega), (by omega), compPR (k := 1) (fs := [some (.ref pd)]) NdV _ (fun j => some (d.1, (j : Int))) nd_kn rfl (by have : sizeLine = 2 ^ 24 := rfl; omega) (fun j hj H2 ts R ss hts cont _ => ?_) (fun D H2 ys hD s2 h2 pp => q D H2 ys hD s2 h2 ?_)⟩
    · obtain ⟨t, rfl⟩ := List.length_eq_one_iff.mp hts
      refine ⟨_, rfl, pd, _, _, _, rfl, rfl, SqT.of (ss _ _ hpd), rfl, _, rfl, (by show 2 ≤ sizeLine; decide), fun n hn => cont _ _ [_] _ rfl rfl (Same.upd hn) ⟨n, rfl, ?_⟩⟩
      rw [upd_same, Int.zero_add]
    · unfold spotsD
      rw [fm_some] at pp
      exact pp
theorem ok_spots (T : Tx K mg) : FnOk P w K mg base (CXW P w) 4 T.f_spots T.d_spots ["history", "word"] (spSpotsH (cO T) T.c_NoLevel) := by
  refine fun_okWD T.F_spots sc_spots (fun vs H Q E h => ?_) (fun cdv A outer s H vs Q E hr h => ?_)
  · obtain ⟨v, p, wo, rfl, _⟩ := h
    rfl
  · obtain ⟨v, p, wo, rfl, tr, gp, fw, qy, qn⟩ := h
    have hu := hu_of hr
    refine ⟨_, (pss_cons (ps_set (i := 2) sc_spots.nd rfl (Or.inl rfl) (pe_call ((ok_levelsof T).mono (by decide)) hr rfl T.m_levelsof T.F_levelsof.kp T.b_levelsof .nil (passW fun _ _ _ z => z) (pa_cons (pv 0) (pa_cons (pv 1) pa_nil))))
      (pss_cons (ps_set (i := 3) sc_spots.nd rfl (Or.inl rfl) (pe_lst pa_nil))
      (pss_cons (ps_nox (ps_for PassesOwn.never rfl (pi_list (pe_ix ix_tup (pv 0) pe_int (fun _ _ => rfl))) (pg_name (i := 4) sc_spots.nd rfl (Or.inl rfl))
      (pss_one (ps_expr (pe_bm PySem.F.plainAttrs_list PySem.F.slot_list_extend PySem.F.type_list_extend mt_extend (pv 3) (pa_cons (pe_call ((ok_spotsof T).mono (by decide)) hr rfl T.m_spotsof T.F_spotsof.kp T.b_spotsof .nil pass0 (pa_cons (pv 4) (pa_cons (pe_dget hu (pv 2) (pe_ix ix_tup (pv 4) pe_int (fun _ _ => rfl)) (fun _ _ => rfl)) pa_nil))) pa_nil))))))
      (pss_one (ps_ret (pv 3)))))), ?_⟩
    by_cases hw : ∀ x, wo = some x → x ∈ wds
    · refine ⟨_, rfl, _, rfl, v, p, wo, rfl, tr, gp, fw, fun _ e H1 s1 lh => ?_, fun x e n => absurd (hw x e) n⟩
      refine ⟨(by show 0 ≤ sizeLine; decide), fun F hF => ?_⟩
      have hF0 := upd_same (H := H1) (a := F) (o := HO.lst [])
      have sF := Same.upd (o := HO.lst []) hF
      generalize upd H1 F (.lst []) = H1F at hF0 sF
      obtain ⟨a, l, m, lv, mv, rfl, ha, hl, tl, _, _⟩ := past_open (tr.same s1)
      refine ⟨_, rfl, a, _, _, _, rfl, rfl, SqT.of (sF _ _ ha), rfl, l, rfl, ⟨_, SqL.of (sF _ _ hl)⟩, for_list (K := K) (a := l) (xs := lv) (fun i σ H3 => ∃ (x4 : Option V) (ys : List V), σ = [some (.ref a), some (wV wo), some (.ref e), some (.ref F), x4] ∧ Same H1 H3 ∧ H3 F = some (.lst ys) ∧ ys.length ≤ 41 * i ∧ Nds H3 ys ((p.1.take i).flatMap (spotsD wo))) ⟨none, [], rfl, sF, hF0, Nat.le_refl _, .nil⟩ (fun i σ H3 _ ⟨_, _, _, s3, _⟩ => SqL.of (s3 _ _ hl)) ?_ ?_⟩
      · rintro i y σ H3 hy ⟨x4, ys, rfl, s3, hF3, ly, pn⟩
        obtain ⟨dd, edd, trd⟩ := tl.get hy
        rw [List.getElem?_map] at edd
        obtain ⟨d, ed, rfl⟩ := Option.map_eq_some_iff.mp edd
        have hd := List.mem_of_getElem? ed
        have hi8 : i < 8 := by have := (List.getElem?_eq_some_iff.mp ed).1; have := gp.1; omega
        obtain ⟨kvs, hk, vk⟩ := lh.same s3
        obtain ⟨x, dx, vx, hx⟩ := vk d hd
        obtain ⟨pd, L, lkv, rfl, hpd, _, _⟩ := deal_at (trd.same s3)
        have dg := DGet.k (k := Sum.inl d.1) hk
        rw [vx] at dg
        refine ⟨_, rfl, Or.inl ⟨rfl, _, SqL.of hF3⟩, _, rfl, _, rfl, _, rfl, pd, _, _, _, rfl, rfl, SqT.of hpd, rfl, e, _, rfl, dg, .ref pd, x, d, wo, dx, rfl, trd.same s3, hx, (gp.2.2 d hd).2, fun D H4 zs hD s4 h4 pz => ?_⟩
        have lz : zs.length ≤ 41 := by
          rw [prs_len pz]
          unfold spotsD
          rw [List.length_map, List.length_range]
          have := spots_le wo d (gp.2.2 d hd).2
          omega
        refine ⟨F, D, ys, zs, rfl, rfl, s4 _ _ hF3, h4, (by have : sizeLine = 2 ^ 24 := rfl; omega), ?_⟩
        have kn := KN.upd (o := HO.lst (ys ++ zs)) (s4 _ _ hF3)
        refine ⟨_, _, rfl, fun b o eb => ?_, upd_same, (by rw [List.length_append]; omega), ?_⟩
        · rw [upd_ne (show b ≠ F from fun z => by rw [z, hF] at eb; cases eb)]
          exact s4 _ _ (s3 _ _ eb)
        · rw [List.take_add_one, ed, List.flatMap_append]
          refine paired_append (nds_kn ((KN.of s4).trans kn) pn) ?_
          show Nds _ zs (List.flatMap (spotsD wo) [d])
          rw [List.flatMap_cons, List.flatMap_nil, List.append_nil]
          exact nds_kn kn pz
      · rintro σ H3 ⟨x4, ys, rfl, s3, hF3, ly, pn⟩
        have : lv.length = p.1.length := by rw [tl.len, List.length_map]
        rw [this, List.take_length] at pn
        exact ⟨_, rfl, qy hw F H3 ys (s1.free hF) (s1.trans s3) hF3 pn⟩
    · cases wo with
      | none => exact absurd (fun x e => by cases e) hw
      | some x =>
        have hx : x ∉ wds := fun z => hw fun y ey => by cases ey; exact z
        exact ⟨_, rfl, _, rfl, v, p, some x, rfl, tr, gp, fw, fun h => absurd (h x rfl) hx, fun y ey n H' s' => by cases ey; exact qn x rfl n H' s'⟩
--@STAGE
theorem lay_all {ds : List PyData} (h : ∀ d ∈ ds, d.canLay0 = true) : PyData.canLayAll0 ds = true := by
  induction ds with
  | nil => rfl
  | cons d r ih =>
    show (d.canLay0 && PyData.canLayAll0 r) = true
    rw [h d List.mem_cons_self, ih fun e he => h e (List.mem_cons_of_mem _ he)]
    rfl
theorem depth_all {ds : List PyData} {n : Nat} (h : ∀ d ∈ ds, d.depth ≤ n) : PyData.depthAll ds ≤ n := by
  induction ds with
  | nil => exact Nat.zero_le _
  | cons d r ih =>
    have h1 := h d List.mem_cons_self
    have h2 := ih fun e he => h e (List.mem_cons_of_mem _ he)
    show max d.depth (PyData.depthAll r) ≤ n
    omega
theorem lay_look (l : Lk) : (dLook l).canLay0 = true ∧ (dLook l).depth ≤ 2 := by
  refine ⟨lay_all fun d hd => ?_, ?_⟩
  · obtain ⟨p, _, rfl⟩ := List.mem_map.mp hd
    rfl
  · have : PyData.depthAll (l.map dPair) ≤ 1 := depth_all fun d hd => by
      obtain ⟨p, _, rfl⟩ := List.mem_map.mp hd
      exact Nat.le_refl 1
    show PyData.depthAll (l.map dPair) + 1 ≤ 2
    omega
theorem lay_deal {d : Dl} (h : d.2.1 ∈ wds) : (dDeal d).canLay0 = true ∧ (dDeal d).depth ≤ 4 := by
  have hs : ∀ x ∈ wds, (PyData.str x).canLay0 = true := by decide +kernel
  refine ⟨?_, ?_⟩
  · show (true && ((PyData.str d.2.1).canLay0 && (PyData.canLayAll0 (d.2.2.map dLook) && true))) = true
    rw [hs _ h, lay_all fun e he => by obtain ⟨l, _, rfl⟩ := List.mem_map.mp he; exact (lay_look l).1]
    rfl
  · have : PyData.depthAll (d.2.2.map dLook) ≤ 2 := depth_all fun e he => by
      obtain ⟨l, _, rfl⟩ := List.mem_map.mp he
      exact (lay_look l).2
    show max 0 (max 0 (max (PyData.depthAll (d.2.2.map dLook) + 1) 0)) + 1 ≤ 4
    omega
theorem lay_make (m : Mkr) : (dMake m).canLay0 = true ∧ (dMake m).depth ≤ 2 := by
  refine ⟨?_, ?_⟩
  · show (true && (PyData.canLayAll0 (m.2.map PyData.int) && true)) = true
    rw [lay_all fun e he => by obtain ⟨l, _, rfl⟩ := List.mem_map.mp he; rfl]
    rfl
  · have : PyData.depthAll (m.2.map PyData.int) ≤ 0 := depth_all fun e he => by
      obtain ⟨l, _, rfl⟩ := List.mem_map.mp he
      exact Nat.le_refl 0
    show max 0 (max (PyData.depthAll (m.2.map PyData.int) + 1) 0) + 1 ≤ 2
    omega
theorem lay_past {p : Ps} (h : ∀ d ∈ p.1, d.2.1 ∈ wds) : (dPast p).canLay0 = true ∧ (dPast p).depth < 7 ∧ SeqAt.shaped (dPast p) = true := by
  have h1 : (dPast p).canLay0 = true := by
    show (PyData.canLayAll0 (p.1.map dDeal) && (PyData.canLayAll0 (p.2.map dMake) && true)) = true
    rw [lay_all fun e he => by obtain ⟨d, hd, rfl⟩ := List.mem_map.mp he; exact (lay_deal (h d hd)).1, lay_all fun e he => by obtain ⟨d, hd, rfl⟩ := List.mem_map.mp he; exact (lay_make d).1]
    rfl
  have h2 : (dPast p).depth < 7 := by
    have a1 : PyData.depthAll (p.1.map dDeal) ≤ 4 := depth_all fun e he => by
      obtain ⟨d, hd, rfl⟩ := List.mem_map.mp he
      exact (lay_deal (h d hd)).2
    have a2 : PyData.depthAll (p.2.map dMake) ≤ 2 := depth_all fun e he => by
      obtain ⟨d, hd, rfl⟩ := List.mem_map.mp he
      exact (lay_make d).2
    show max (PyData.depthAll (p.1.map dDeal) + 1) (max (PyData.depthAll (p.2.map dMake) + 1) 0) + 1 < 7
    omega
  refine ⟨h1, h2, ?_⟩
  unfold SeqAt.shaped
  rw [h1, decide_eq_true (by omega)]
  rfl
theorem taS_good (cs : List Int) : SpG (taS cs) := by
  unfold taS
  generalize (cs.drop 10).take 20 = cu
  have key : ∀ (l : List Int) st, SpG st → SpG (l.foldl spF st) := by
    intro l
    induction l with
    | nil => intro st h; exact h
    | cons c r ih => intro st h; exact ih _ (spG_sp h c)
  exact key cu _ (stF_good cs)
theorem spF_heads (st : List Dl × List Mkr) (c : Int) : (spF st c).1.map (fun d => (d.1, d.2.1)) = st.1.map fun d => (d.1, d.2.1) := by
  unfold spF
  split
  · unfold spoilF
    dsimp only
    split
    · rfl
    · split
      · rw [List.map_set]
        by_cases hi : (strN (c / 6) 2 % (st.1.length : Int)).toNat < st.1.length
        · refine TFs.set_self ?_
          rw [List.getElem?_map, My.getD_at (d := zD) hi]
          rfl
        · rw [List.set_eq_of_length_le (by rw [List.length_map]; omega)]
      · rfl
  · rfl
theorem tale_heads (cs : List Int) : (taleF cs).1.map (fun d => (d.1, d.2.1)) = (drawnF cs).map fun d => (d.num, d.wrd) := by
  unfold taleF taS
  dsimp only
  generalize (cs.drop 10).take 20 = cu
  have key : ∀ (l : List Int) st, (l.foldl spF st).1.map (fun d => (d.1, d.2.1)) = st.1.map fun d => (d.1, d.2.1) := by
    intro l
    induction l with
    | nil => intro st; rfl
    | cons c r ih => intro st; exact (ih _).trans (spF_heads st c)
  rw [key]
  unfold stF
  dsimp only
  rw [List.map_map]
  rfl
theorem heads_good {p : Ps} {cs : List Int} (h : p.1.map (fun d => (d.1, d.2.1)) = (drawnF cs).map fun d => (d.num, d.wrd)) : p.1.length ≤ 8 ∧ (p.1.map (·.1)).Nodup ∧ ∀ d ∈ p.1, d.2.1 ∈ wds := by
  have l : p.1.length = (drawnF cs).length := by have := congrArg List.length h; simpa using this
  refine ⟨by rw [l]; exact drawn_len cs, ?_, fun d hd => ?_⟩
  · have := congrArg (List.map Prod.fst) h
    rw [List.map_map, List.map_map] at this
    have e : p.1.map (·.1) = (drawnF cs).map (·.num) := this
    rw [e]
    exact List.Pairwise.imp (fun z => by omega) (drawn_nums cs)
  · have hm : (d.1, d.2.1) ∈ (drawnF cs).map fun d => (d.num, d.wrd) := by rw [← h]; exact List.mem_map.mpr ⟨d, hd, rfl⟩
    obtain ⟨dw, hdw, e⟩ := List.mem_map.mp hm
    have : d.2.1 = dw.wrd := (congrArg Prod.snd e).symm
    rw [this]
    exact (drawn_has hdw).2.2.2
noncomputable def longF (cs : List Int) : Ps :=
  let t := taleF cs
  let c := celF cs 0 / 256
  if c % 8 = 3 ∧ t.1 ≠ [] then
    let i := (c / 8 % (t.1.length : Int)).toNat
    let d := t.1.getD i zD
    let l1 := d.2.2 ++ (List.range (c / 64 % 38).toNat).map fun _ => []
    let l2 := if l1 ≠ [] ∧ l1.getD (l1.length - 1) [] = [] ∧ t.2 ≠ [] then l1.set (l1.length - 1) [((t.2.getD 0 (0, [])).1, 0)] else l1
    (t.1.set i (d.1, "kept", l2), t.2)
  else t
noncomputable def spLonger (K : PySem.W.Frag) : Sp := fun vs H Q _ => ∃ (a : Addr) (cs : List Int), vs = [.ref a] ∧ SqL K H a (cs.map V.int) ∧ cs.length ≤ 63 ∧
  ∀ v H', Same H H' → Tr H' v (dPast (longF cs)) → Q v H'
theorem past_openF {H : Hp} {v : V} {p : Ps} {f : List Addr} (h : TF H v (dPast p) f) : ∃ a l m lv mv f1 f2, v = .ref a ∧ f = a :: (l :: f1 ++ (m :: f2)) ∧ H a = some (.tup [.ref l, .ref m]) ∧ H l = some (.lst lv) ∧ TFs H lv (p.1.map dDeal) f1 ∧ H m = some (.lst mv) ∧ TFs H mv (p.2.map dMake) f2 := by
  cases h with
  | tup h r =>
    cases r with
    | cons h1 r =>
      cases h1 with
      | lst a1 b1 =>
        cases r with
        | cons h2 r =>
          cases h2 with
          | lst a2 b2 =>
            cases r
            exact ⟨_, _, _, _, _, _, _, rfl, by simp, h, a1, b1, a2, b2⟩
noncomputable def manyF (x : Str) (n : Nat) : Int := if x = "kept" then (n : Int) + 1 else if x = "make" then 2 else 1
noncomputable def spMany : Sp := fun vs H Q _ => ∃ (x : Str) (L : Addr) (lv : List V), vs = [.str x, .ref L] ∧ H L = some (.lst lv) ∧ Q (.int (manyF x lv.length)) H
theorem many_spots {x : Str} (h : x ∈ wds) (n : Nat) : manyF x n = spotsL (lvS x) (n : Int) := by
  unfold wds at h
  simp only [List.mem_cons, List.not_mem_nil, or_false] at h
  have e1 : ("loose" : Str) ≠ "kept" ∧ ("loose" : Str) ≠ "make" ∧ ("loose" : Str) ≠ "watch" ∧ ("loose" : Str) ≠ "hold" ∧ ("make" : Str) ≠ "kept" ∧ ("watch" : Str) ≠ "kept" ∧ ("watch" : Str) ≠ "make" ∧ ("hold" : Str) ≠ "kept" ∧ ("hold" : Str) ≠ "make" ∧ ("hold" : Str) ≠ "watch" := by decide +kernel
  obtain ⟨a1, a2, a3, a4, a5, a6, a7, a8, a9, a10⟩ := e1
  rcases h with rfl | rfl | rfl | rfl | rfl
  · unfold manyF lvS; rw [if_neg a1, if_neg a2, if_neg a1, if_neg a2, if_neg a3, if_neg a4]; rfl
  · unfold manyF lvS; rw [if_pos rfl, if_pos rfl]; rfl
  · unfold manyF lvS; rw [if_neg a5, if_pos rfl, if_neg a5, if_pos rfl]; rfl
  · unfold manyF lvS; rw [if_neg a6, if_neg a7, if_neg a6, if_neg a7, if_pos rfl]; rfl
  · unfold manyF lvS; rw [if_neg a8, if_neg a9, if_neg a8, if_neg a9, if_neg a10, if_pos rfl]; rfl
noncomputable def wordF (c : Int) : Option Str := ([none, some "loose", some "kept", some "make", some "watch", some "hold", none] : List (Option Str)).getD (c % 7).toNat none
noncomputable def spWordF : Sp := fun vs H Q _ => ∃ c : Int, vs = [.int c] ∧ ∀ H', Same H H' → Q (wV (wordF c)) H'
theorem word_in (c : Int) : ∀ x, wordF c = some x → x ∈ wds := by
  unfold wordF
  generalize (c % 7).toNat = n
  intro x h
  match n, h with
  | 0, h => cases h
  | 1, h => cases h; decide +kernel
  | 2, h => cases h; decide +kernel
  | 3, h => cases h; decide +kernel
  | 4, h => cases h; decide +kernel
  | 5, h => cases h; decide +kernel
  | 6, h => cases h
  | n + 7, h => cases h
theorem word_at (c : Int) : atI [V.non, .str "loose", .str "kept", .str "make", .str "watch", .str "hold", .non] (c % 7) = some (wV (wordF c)) := by
  have h0 := Int.emod_nonneg c (show (7 : Int) ≠ 0 by decide)
  have h1 := Int.emod_lt_of_pos c (show (0 : Int) < 7 by decide)
  unfold wordF
  obtain ⟨n, hn⟩ : ∃ n : Nat, c % 7 = (n : Int) := ⟨(c % 7).toNat, by omega⟩
  rw [hn] at h1 ⊢
  have : n = 0 ∨ n = 1 ∨ n = 2 ∨ n = 3 ∨ n = 4 ∨ n = 5 ∨ n = 6 := by omega
  rcases this with rfl | rfl | rfl | rfl | rfl | rfl | rfl <;> exact atI_nat rfl
theorem fine_short {n : Nat} {x : Str} (h : Short n x) (hn : n ≤ 600) : FineW x := ⟨Nat.le_trans h.1 hn, h.2⟩
noncomputable def spOddW : Sp := fun vs H Q _ => ∃ n : Int, vs = [.int n] ∧ 0 ≤ n ∧ n < 1000003 ∧ ∀ x H', Same H H' → FineW x → Q (.str x) H'
noncomputable def spDueS : Sp := fun vs H Q _ => ∃ (v : V) (p : Ps) (w : Option Str), vs = [v, wV w] ∧ Tr H v (dPast p) ∧ GoodP p ∧ (∀ x, w = some x → x ∈ wds) ∧ ∀ D H' ys, H D = none → Same H H' → H' D = some (.lst ys) → Nds H' ys (p.1.flatMap (spotsD w)) → Q (.ref D) H'
noncomputable def spAlikeS : Sp := fun vs H Q _ => ∃ (a b : Addr) (xs ys : List V) (ns : List Nk), vs = [.ref a, .ref b] ∧ H a = some (.lst xs) ∧ Nds H xs ns ∧ H b = some (.lst ys) ∧ Nds H ys ns ∧ ns.length ≤ 400 ∧ Q (.bl true) H
noncomputable def spEdgesN (cls : Lv → Addr) (N : Addr) : Sp := fun vs H Q E => ∃ (v : V) (p : Ps) (x : Str), vs = [v, .str x] ∧ Tr H v (dPast p) ∧ GoodP p ∧ FineW x ∧ x ∉ wds ∧ ∀ H', Same H H' → E (.ref N) none H'
noncomputable def spRefusedS : Sp := fun vs H Q _ => ∃ (v : V) (p : Ps) (x : Str) (b : Bool), vs = [v, .str x, .bl b] ∧ Tr H v (dPast p) ∧ GoodP p ∧ FineW x ∧ x ∉ wds ∧ ∀ H', Same H H' → Q (.bl true) H'
theorem long_good (cs : List Int) : GoodP (longF cs) := by
  have th := tale_heads cs
  obtain ⟨h1, h2, h3⟩ := heads_good th
  have lk : ∀ d ∈ (taleF cs).1, d.2.2.length ≤ 3 := fun d hd => ((taS_good cs).2.2.2 d hd).1
  unfold longF
  dsimp only
  split
  · next e =>
    generalize celF cs 0 / 256 = c at *
    have n0 : 0 < (taleF cs).1.length := List.length_pos_iff.mpr e.2
    have hi := (at_mod (xs := (taleF cs).1) (c / 8) rfl n0).1
    have ed := My.getD_at (d := zD) hi
    generalize (c / 8 % ((taleF cs).1.length : Int)).toNat = i at *
    generalize (taleF cs).1.getD i zD = d at *
    have c0 := Int.emod_nonneg (c / 64) (show (38 : Int) ≠ 0 by decide)
    have c1 := Int.emod_lt_of_pos (c / 64) (show (0 : Int) < 38 by decide)
    refine ⟨by rw [List.length_set]; exact h1, ?_, fun d' hd' => ?_⟩
    · rw [List.map_set]
      rw [TFs.set_self (by rw [List.getElem?_map, ed]; rfl)]
      exact h2
    · rcases List.mem_or_eq_of_mem_set hd' with z | z
      · have := lk d' z
        exact ⟨h3 d' z, by omega⟩
      · rw [z]
        have l3 := lk d (List.mem_of_getElem? ed)
        refine ⟨(show ("kept" : Str) ∈ wds by decide +kernel), ?_⟩
        have ll : (d.2.2 ++ (List.range (c / 64 % 38).toNat).map fun _ => ([] : Lk)).length ≤ 40 := by
          rw [List.length_append, List.length_map, List.length_range]
          omega
        dsimp only
        split
        · rw [List.length_set]; exact ll
        · exact ll
  · exact ⟨h1, h2, fun d hd => ⟨h3 d hd, by have := lk d hd; omega⟩⟩
theorem spots_few (w : Option Str) {p : Ps} (h : GoodP p) : (p.1.flatMap (spotsD w)).length ≤ 400 := by
  have key : ∀ l : List Dl, (∀ d ∈ l, d.2.2.length ≤ 40) → (l.flatMap (spotsD w)).length ≤ 41 * l.length := by
    intro l
    induction l with
    | nil => intro _; exact Nat.le_refl _
    | cons d r ih =>
      intro hd
      rw [List.flatMap_cons, List.length_append, List.length_cons]
      have h1 := ih fun x hx => hd x (List.mem_cons_of_mem _ hx)
      have h2 := spots_le w d (hd d List.mem_cons_self)
      have : (spotsD w d).length ≤ 41 := by
        unfold spotsD
        rw [List.length_map, List.length_range]
        omega
      omega
  have := key p.1 fun d hd => (h.2.2 d hd).2
  have := h.1
  omega
theorem at_last {α : Type} {xs : List α} {v : α} {β : Type} {ys : List β} (hl : xs.length = ys.length) (hn : ys ≠ []) (e : xs[ys.length - 1]? = some v) : atI xs ((fun i : Int => -i) 1) = some v := by
  have p0 := List.length_pos_iff.mpr hn
  unfold atI ixN
  rw [if_neg (by show ¬ (0 : Int) ≤ -1; decide), if_pos (by show -(xs.length : Int) ≤ -1; omega)]
  show xs[(-1 + (xs.length : Int)).toNat]? = some v
  rw [show (-1 + (xs.length : Int)).toNat = ys.length - 1 by omega]
  exact e
theorem ix_last {α β : Type} {xs : List α} {ys : List β} (hl : xs.length = ys.length) (hn : ys ≠ []) : ixN xs.length ((fun i : Int => -i) 1) = some (ys.length - 1) := by
  have p0 := List.length_pos_iff.mpr hn
  unfold ixN
  rw [if_neg (by show ¬ (0 : Int) ≤ -1; decide), if_pos (by show -(xs.length : Int) ≤ -1; omega)]
  show some (-1 + (xs.length : Int)).toNat = _
  rw [show (-1 + (xs.length : Int)).toNat = ys.length - 1 by omega]
theorem make_at {H : Hp} {v : V} {m : Mkr} (h : Tr H v (dMake m)) : ∃ p c, v = .ref p ∧ H p = some (.tup [.int m.1, .ref c]) := by
  cases h with
  | tup h r =>
    cases r with
    | cons h1 r =>
      cases h1
      cases r with
      | cons h2 r =>
        cases h2 with
        | lst a b =>
          cases r
          exact ⟨_, _, rfl, h⟩
theorem letter_at (n : Int) : ∃ c, atI ("abcdefghijklmnopqrstuvwxyz LK" : Str).cps.toList (n % 29) = some c ∧ c < 16 ^ 8 := by
  have h0 := Int.emod_nonneg n (show (29 : Int) ≠ 0 by decide)
  have h1 := Int.emod_lt_of_pos n (show (0 : Int) < 29 by decide)
  obtain ⟨v, hv⟩ := atI_lt (xs := ("abcdefghijklmnopqrstuvwxyz LK" : Str).cps.toList) h0 (by show n % 29 < ((29 : Nat) : Int); omega)
  refine ⟨v, hv, ?_⟩
  have key : ∀ c ∈ ("abcdefghijklmnopqrstuvwxyz LK" : Str).cps.toList, c < 16 ^ 8 := by decide +kernel
  exact key v (atI_mem hv)
theorem inV_strs (x : Str) : ∀ ls : List Str, inV (V.str x) (ls.map V.str) = decide (x ∈ ls)
  | [] => by simp [inV]
  | l :: r => by
    have ih := inV_strs x r
    have e : inV (V.str x) ((l :: r).map V.str) = ((l == x) || inV (V.str x) (r.map V.str)) := rfl
    rw [e, ih]
    by_cases h : l = x
    · subst h
      simp
    · have h2 : ¬ x = l := fun z => h z.symm
      simp [h, h2]
theorem inV_wds (x : Str) : inV (V.str x) [V.str "loose", V.str "kept", V.str "make", V.str "watch", V.str "hold"] = decide (x ∈ wds) := inV_strs x wds
theorem ok_Llonger (T : Tx K mg) : FnOk P w K mg base CX0 4 T.f_Llonger T.d_Llonger ["_law_script"] (spLonger K) := by
  refine T.F_Llonger.ok sc_Llonger (fun vs H Q E h => ?_) (fun cdv A outer s H vs Q E hr h => ?_)
  · obtain ⟨a, cs, rfl, _⟩ := h
    rfl
  · obtain ⟨a, cs, rfl, ha, hcs, q⟩ := h
    have hu := hu_of hr
    refine ⟨_, (pss_cons (ps_set (i := 1) sc_Llonger.nd rfl (Or.inl rfl) (pe_call ((ok_Ltale T).mono (by decide)) hr rfl T.m_Ltale T.F_Ltale.kp T.b_Ltale .nil pass0 (pa_cons (pv 0) pa_nil)))
      (pss_cons (ps_set (i := 2) sc_Llonger.nd rfl (Or.inl rfl) (pe_op op_fdiv (pe_call ((ok_Lcellat T).mono (by decide)) hr rfl T.m_Lcellat T.F_Lcellat.kp T.b_Lcellat .nil pass0 (pa_cons (pv 0) (pa_cons pe_int pa_nil))) pe_int))
      (pss_cut (ps_if (PW.pt (pw_and (pt_cmpR op_eq (pe_op op_mod (pv 2) pe_int) pe_int (nomark _)) (pw_and1 (pt_cmpR (op_neNil hr.units) (pe_ix ix_tup (pv 1) pe_int (fun _ _ => rfl)) (pe_lst pa_nil) (nomark _)))))
      (pss_cons (ps_set (i := 3) sc_Llonger.nd rfl (Or.inl rfl) (pe_op op_mod (pe_op op_fdiv (pv 2) pe_int) (pe_callB call_len (by rfl) T.z_len boot_len (pa_cons (pe_ix ix_tup (pv 1) pe_int (fun _ _ => rfl)) pa_nil))))
      (pss_cons (ps_asg (pe_ix ix_list (pe_ix ix_tup (pv 1) pe_int (fun _ _ => rfl)) (pv 3) (fun _ _ => rfl)) (pg_tup rfl (pgs_cons (pg_name (i := 4) sc_Llonger.nd rfl (Or.inl rfl)) (pgs_cons (pg_name (i := 5) sc_Llonger.nd rfl (Or.inl rfl)) (pgs_cons (pg_name (i := 6) sc_Llonger.nd rfl (Or.inl rfl)) pgs_nil)))))
      (pss_cons (ps_expr (pe_bm PySem.F.plainAttrs_list PySem.F.slot_list_extend PySem.F.type_list_extend mt_extend (pv 6) (pa_cons (pe_compF ["_law_k"] rfl (CompSc.mk (fv := []) (js := []) rfl (by decide +kernel) (by decide +kernel) (by decide +kernel) allc_nil rfl (by decide +kernel)) (pi_range1 rfl T.z_range (pa_cons (pe_op op_mod (pe_op op_fdiv (pv 2) pe_int) pe_int) pa_nil)) (fun _ _ _ _ _ => (pg_name (i := 0) (show (["_law_k"] : List Str).Nodup by decide +kernel) rfl (Or.inl rfl))) (fun _ _ _ _ _ => pf_nil) (fun _ _ _ _ _ => (pe_lst pa_nil))) pa_nil)))
      (pss_cut (ps_if (PW.pt (pw_and (pt_cmpR (op_neNil hr.units) (pv 6) (pe_lst pa_nil) (nomark _)) (pw_and (pt_cmpR (op_eqNil hr.units) (pe_ix ix_list (pv 6) (pe_un un_neg pe_int) (fun _ _ => rfl)) (pe_lst pa_nil) (nomark _)) (pw_and1 (pt_cmpR (op_neNil hr.units) (pe_ix ix_tup (pv 1) pe_int (fun _ _ => rfl)) (pe_lst pa_nil) (nomark _))))))
      (pss_one (ps_asg (pe_lst (pa_cons (pe_tup (pa_cons (pe_ix ix_tup (pe_ix ix_list (pe_ix ix_tup (pv 1) pe_int (fun _ _ => rfl)) pe_int (fun _ _ => rfl)) pe_int (fun _ _ => rfl)) (pa_cons pe_int pa_nil))) pa_nil)) (pg_sub (pv 6) (pe_un un_neg pe_int) set_listA)))
      pss_nil)
      (pss_one (ps_asg (pe_tup (pa_cons (pv 4) (pa_cons pe_str (pa_cons (pv 6) pa_nil)))) (pg_sub (pe_ix ix_tup (pv 1) pe_int (fun _ _ => rfl)) (pv 3) set_listA)))))))
      pss_nil)
      (pss_one (ps_ret (pv 1)))))), ?_⟩
    have sz : sizeLine = 2 ^ 24 := rfl
    refine ⟨_, rfl, a, cs, rfl, ha, hcs, fun v f H1 s1 tf nf ff => ?_⟩
    have lk : ∀ d ∈ (taleF cs).1, d.2.2.length ≤ 3 := fun d hd => ((taS_good cs).2.2.2 d hd).1
    obtain ⟨pa, l, m, lv, mv, f1, f2, rfl, ef, hpa, hl, tl, hm, tm⟩ := past_openF tf
    refine ⟨_, rfl, a, cs, 0, rfl, s1.seq ha, by decide, _, _, rfl, rfl, ⟨by decide, by decide⟩, ?_⟩
    unfold longF at q
    dsimp only at q
    have llv : lv.length = (taleF cs).1.length := by rw [tl.len, List.length_map]
    have lmv : mv.length = (taleF cs).2.length := by rw [tm.len, List.length_map]
    generalize celF cs 0 = cq at q ⊢
    generalize taleF cs = t at *
    generalize hres : (if (cq / 256) % 8 = 3 ∧ t.1 ≠ [] then _ else t) = res at q
    refine ⟨fun σ H2 => ∃ x2 x3 x4 x5 x6 : Option V, σ = [some (.ref a), some (.ref pa), x2, x3, x4, x5, x6] ∧ Same H H2 ∧ Tr H2 (.ref pa) (dPast res), ?_, ?_⟩
    · refine ifS (b := decide ((cq / 256) % 8 = 3 ∧ t.1 ≠ [])) (fun Q2 k2 => ?_) (fun H2 s2 => ite2 (fun e => ?_) (fun e => ?_))
      · refine ⟨_, rfl, _, _, rfl, rfl, (by show (0 : Int) < 8; decide), rfl, _, rfl, ite2 (fun e => ?_) (fun e => ?_)⟩
        · have e1 : (cq / 256) % 8 = 3 := V.int_inj' (of_decide_eq_true e)
          refine ⟨_, rfl, pa, _, _, _, rfl, rfl, SqT.of hpa, rfl, (by show 0 ≤ sizeLine; decide), fun nn hnn => ⟨l, nn, lv, rfl, rfl, SqL.of (Same.upd hnn _ _ hl), SqL.of upd_same, _, rfl, ?_⟩⟩
          have : (!lv.isEmpty) = decide ((cq / 256) % 8 = 3 ∧ t.1 ≠ []) := by
            rw [Bool.eq_iff_iff, decide_eq_true_iff]
            cases lv with
            | nil => simp; intro _; exact List.length_eq_zero_iff.mp llv.symm
            | cons a r =>
              simp [e1]
              intro z
              rw [z] at llv
              cases llv
          rw [this]
          exact k2 _ (Same.upd hnn)
        · have e1 : ¬ (cq / 256) % 8 = 3 := fun z => e (decide_eq_true (show V.int ((cq / 256) % 8) = V.int 3 by rw [z]))
          have : decide ((cq / 256) % 8 = 3 ∧ t.1 ≠ []) = false := decide_eq_false fun z => e1 z.1
          rw [this] at k2
          exact k2 _ (Same.refl _)
      · have e1 := of_decide_eq_true e
        rw [if_pos e1] at hres
        have n0 : 0 < t.1.length := List.length_pos_iff.mpr e1.2
        obtain ⟨hi, v0, ev0, av0⟩ := at_mod (xs := lv) ((cq / 256) / 8) llv n0
        generalize hI : ((cq / 256) / 8 % (t.1.length : Int)).toNat = i at *
        have ed := My.getD_at (d := zD) hi
        generalize t.1.getD i zD = d at *
        obtain ⟨x, g1, g2, g3, ex, ef1, td, put⟩ := tl.focus (i := i) (d := dDeal d) (by rw [List.getElem?_map, ed]; rfl)
        rw [ev0] at ex
        cases ex
        obtain ⟨pd, L, lkv, fl, rfl, eg2, hpd, hL, tL⟩ := deal_open td
        have l3 := lk d (List.mem_of_getElem? ed)
        have llk : lkv.length = d.2.2.length := by rw [tL.len, List.length_map]
        have ful : f = pa :: l :: (g1 ++ (pd :: L :: (fl ++ (g3 ++ (m :: f2))))) := by rw [ef, ef1, eg2]; simp
        have nd := nf
        rw [ful] at nd
        have nL : ∀ b, b ∈ pa :: l :: (g1 ++ [pd]) ++ (fl ++ (g3 ++ (m :: f2))) → b ≠ L := fun b hb z => by
          have e2 : pa :: l :: (g1 ++ (pd :: L :: (fl ++ (g3 ++ (m :: f2))))) = (pa :: l :: (g1 ++ [pd])) ++ ([L] ++ (fl ++ (g3 ++ (m :: f2)))) := by simp
          rw [e2] at nd
          have := (nd3.mp nd).2.2 L (List.mem_singleton.mpr rfl)
          rw [z] at hb
          rcases List.mem_append.mp hb with w | w
          · exact this.1 w
          · exact this.2 w
        have nl : ∀ b, b ∈ pa :: (g1 ++ (pd :: L :: (fl ++ (g3 ++ (m :: f2))))) → b ≠ l := fun b hb z => by
          have e2 : pa :: l :: (g1 ++ (pd :: L :: (fl ++ (g3 ++ (m :: f2))))) = [pa] ++ ([l] ++ (g1 ++ (pd :: L :: (fl ++ (g3 ++ (m :: f2)))))) := by simp
          rw [e2] at nd
          have := (nd3.mp nd).2.2 l (List.mem_singleton.mpr rfl)
          rw [z] at hb
          rcases List.mem_cons.mp hb with w | w
          · exact this.1 (by rw [w]; exact List.mem_singleton.mpr rfl)
          · exact this.2 w
        have cm0 := Int.emod_nonneg ((cq / 256) / 64) (show (38 : Int) ≠ 0 by decide)
        have cm1 := Int.emod_lt_of_pos ((cq / 256) / 64) (show (0 : Int) < 38 by decide)
        refine ⟨_, rfl, _, _, rfl, rfl, ⟨by decide, by decide⟩, _, rfl, pa, _, _, _, rfl, rfl, SqT.of (s2 _ _ hpa), rfl, _, _, rfl, .inl ⟨_, SqL.of (s2 _ _ hl), rfl⟩, _, _, rfl, rfl, (by rw [llv]; omega), ?_⟩
        refine ⟨_, rfl, pa, _, _, _, rfl, rfl, SqT.of (s2 _ _ hpa), rfl, _, rfl, l, _, _, _, rfl, rfl, SqL.of (s2 _ _ hl), (by rw [llv]; exact av0), pd, _, rfl, SqT.of (s2 _ _ hpd), rfl, _, _, rfl, _, _, rfl, _, _, rfl, rfl, ?_⟩
        refine ⟨_, rfl, Or.inl ⟨rfl, _, SqL.of (s2 _ _ hL)⟩, _, rfl, _, _, rfl, rfl, ⟨by decide, by decide⟩, _, _, rfl, rfl, (by show (0 : Int) < 38; decide), _, rfl, (by omega), (by omega), compWR (k := 1) (fs := []) _ (fun _ => dLook []) rfl (by omega) (fun j hj H3 ts R ss hts cont => ?_) (fun C3 H3 es fe hC3 s3 h3 te ne fre De => ?_)⟩
        · obtain ⟨t', rfl⟩ := List.length_eq_one_iff.mp hts
          exact ⟨(by show 0 ≤ sizeLine; decide), fun nl' hnl => cont (.ref nl') [nl'] [_] _ rfl (Same.upd hnl) (TF.lst upd_same .nil) (List.nodup_cons.mpr ⟨(fun z => by cases z), .nil⟩) fun b hb => by rw [List.mem_singleton.mp hb]; exact hnl⟩
        have s23 := s2.trans s3
        have les : es.length = ((cq / 256) / 64 % 38).toNat := by rw [te.len, List.length_map, List.length_range]
        refine ⟨L, C3, lkv, es, rfl, rfl, s23 _ _ hL, h3, (by omega), ?_⟩
        have hL4 := upd_same (H := H3) (a := L) (o := HO.lst (lkv ++ es))
        have k4 : ∀ b o, b ≠ L → H3 b = some o → upd H3 L (.lst (lkv ++ es)) b = some o := fun b o n e => by rw [upd_ne n]; exact e
        generalize upd H3 L (.lst (lkv ++ es)) = H4 at hL4 k4
        have Lfe : L ∉ fe := fun z => by have := fre L z; rw [s2 _ _ hL] at this; cases this
        have t4 : TFs H4 (lkv ++ es) ((d.2.2 ++ (List.range ((cq / 256) / 64 % 38).toNat).map fun _ => ([] : Lk)).map dLook) (fl ++ fe) := by
          rw [List.map_append, List.map_map]
          exact (tL.fr fun b hb o eb => k4 b o (nL b (by simp [hb])) (s23 _ _ eb)).app (te.fr fun b hb o eb => k4 b o (fun z => Lfe (z ▸ hb)) eb)
        have live1 : ∀ b ∈ f, ∃ o, H1 b = some o := fun b hb => by rcases tf.live b hb with ⟨_, z⟩ | ⟨_, z⟩ <;> exact ⟨_, z⟩
        have lfe : ∀ b ∈ fe, b ∉ f := fun b hb z => by
          obtain ⟨o, eo⟩ := live1 b z
          have := fre b hb
          rw [s2 _ _ eo] at this
          cases this
        have hl1 : d.2.2 ++ (List.range ((cq / 256) / 64 % 38).toNat).map (fun _ => ([] : Lk)) = d.2.2 ++ (List.range ((cq / 256) / 64 % 38).toNat).map (fun _ => ([] : Lk)) := rfl
        generalize d.2.2 ++ (List.range ((cq / 256) / 64 % 38).toNat).map (fun _ => ([] : Lk)) = l1 at hres t4 hl1
        clear hl1
        have ll1 : (lkv ++ es).length = l1.length := by rw [t4.len, List.length_map]
        have kk4 : ∀ b o, b ≠ L → H1 b = some o → H4 b = some o := fun b o n e => k4 b o n (s23 _ _ e)
        generalize lkv ++ es = lw at *
        generalize hf0 : fl ++ fe = f0 at t4
        generalize hl2 : (if l1 ≠ [] ∧ l1.getD (l1.length - 1) [] = [] ∧ t.2 ≠ [] then l1.set (l1.length - 1) [((t.2.getD 0 (0, [])).1, 0)] else l1) = l2 at hres
        refine ⟨fun σ H5 => ∃ (lw2 : List V) (f5 : List Addr), σ = [some (.ref a), some (.ref pa), some (.int (cq / 256)), some (.int ((cq / 256) / 8 % (lv.length : Int))), some (.int d.1), some (.str d.2.1), some (.ref L)] ∧ (∀ b o, b ≠ L → H1 b = some o → H5 b = some o) ∧ H5 L = some (.lst lw2) ∧ TFs H5 lw2 (l2.map dLook) f5 ∧ l ∉ f5, ?_, ?_⟩
        · have lf0 : l ∉ f0 := fun z => by
            rw [← hf0] at z
            rcases List.mem_append.mp z with w | w
            · exact nl l (by simp [w]) rfl
            · exact lfe l w (by rw [ful]; simp)
          have hm4 := kk4 m _ (nL m (by simp)) hm
          have hpa4 := kk4 pa _ (nL pa (by simp)) hpa
          have lst1 : l1 ≠ [] → ∃ la pv g1 pf g3, lw[l1.length - 1]? = some (.ref la) ∧ f0 = g1 ++ ((la :: pf) ++ g3) ∧ H4 la = some (.lst pv) ∧ TFs H4 pv ((l1.getD (l1.length - 1) []).map dPair) pf ∧ ∀ H' x' d' f2', (∀ b ∈ g1 ++ g3, ∀ o, H4 b = some o → H' b = some o) → TF H' x' d' f2' → TFs H' (lw.set (l1.length - 1) x') ((l1.map dLook).set (l1.length - 1) d') (g1 ++ (f2' ++ g3)) := fun hn => by
            have p0 : l1.length - 1 < l1.length := by have := List.length_pos_iff.mpr hn; omega
            have el := My.getD_at (d := ([] : Lk)) p0
            obtain ⟨x, y1, y2, y3, ex, ey, tk, put2⟩ := t4.focus (i := l1.length - 1) (d := dLook (l1.getD (l1.length - 1) [])) (by rw [List.getElem?_map, el]; rfl)
            obtain ⟨la, pv, pf, rfl, el2, hla, tpv⟩ := look_open tk
            exact ⟨la, pv, y1, pf, y3, ex, by rw [ey, el2], hla, tpv, put2⟩
          have lwn : l1 ≠ [] ↔ lw ≠ [] := by rw [← List.length_pos_iff, ← List.length_pos_iff, ll1]
          refine ifS (b := decide (l1 ≠ [] ∧ l1.getD (l1.length - 1) [] = [] ∧ t.2 ≠ [])) (fun Q2 k2 => ?_) (fun H5 s5 => ite2 (fun e => ?_) (fun e => ?_))
          · refine ⟨_, rfl, (by show 0 ≤ sizeLine; decide), fun nn hnn => ⟨L, nn, lw, rfl, rfl, SqL.of (Same.upd hnn _ _ hL4), SqL.of upd_same, _, rfl, ite2 (fun e => ?_) (fun e => ?_)⟩⟩
            · have lw0 : lw ≠ [] := fun z => by rw [z] at e; simp at e
              obtain ⟨la, pv, y1, pf, y3, elw, _, hla, tpv, _⟩ := lst1 (lwn.mpr lw0)
              have su := Same.upd (o := HO.lst []) hnn
              have lp := tpv.len
              rw [List.length_map] at lp
              refine ⟨_, rfl, 1, rfl, L, _, _, _, rfl, rfl, SqL.of (su _ _ hL4), at_last ll1 (lwn.mpr lw0) elw, (by show 0 ≤ sizeLine; decide), fun n2 hn2 => ⟨la, n2, pv, rfl, rfl, SqL.of (Same.upd hn2 _ _ (su _ _ hla)), SqL.of upd_same, _, rfl, ite2 (fun e2 => ?_) (fun e2 => ?_)⟩⟩
              · have su2 := Same.upd (o := HO.lst []) hn2
                have e3 : l1.getD (l1.length - 1) [] = [] := by
                  cases pv with
                  | nil => exact List.length_eq_zero_iff.mp lp.symm
                  | cons => cases e2
                refine ⟨_, rfl, pa, _, _, _, rfl, rfl, SqT.of (su2 _ _ (su _ _ hpa4)), rfl, (by show 0 ≤ sizeLine; decide), fun n3 hn3 => ⟨m, n3, mv, rfl, rfl, SqL.of (Same.upd hn3 _ _ (su2 _ _ (su _ _ hm4))), SqL.of upd_same, _, rfl, ?_⟩⟩
                have : (!mv.isEmpty) = decide (l1 ≠ [] ∧ l1.getD (l1.length - 1) [] = [] ∧ t.2 ≠ []) := by
                  rw [Bool.eq_iff_iff, decide_eq_true_iff]
                  constructor
                  · intro z
                    refine ⟨lwn.mpr lw0, e3, fun w => ?_⟩
                    rw [w] at lmv
                    rw [List.length_eq_zero_iff.mp lmv] at z
                    cases z
                  · rintro ⟨_, _, z⟩
                    cases mv with
                    | nil => exact absurd (List.length_eq_zero_iff.mp lmv.symm) z
                    | cons => rfl
                rw [this]
                exact k2 _ (su.trans (su2.trans (Same.upd hn3)))
              · have : decide (l1 ≠ [] ∧ l1.getD (l1.length - 1) [] = [] ∧ t.2 ≠ []) = false := decide_eq_false fun z => e2 (by
                  rw [z.2.1] at lp
                  rw [List.length_eq_zero_iff.mp lp]
                  rfl)
                rw [this] at k2
                exact k2 _ (su.trans (Same.upd hn2))
            · have lw0 : lw = [] := by
                cases lw with
                | nil => rfl
                | cons => simp at e
              have : decide (l1 ≠ [] ∧ l1.getD (l1.length - 1) [] = [] ∧ t.2 ≠ []) = false := decide_eq_false fun z => lwn.mp z.1 lw0
              rw [this] at k2
              exact k2 _ (Same.upd hnn)
          · have e2 := of_decide_eq_true e
            rw [if_pos e2] at hl2
            have m0 : 0 < t.2.length := List.length_pos_iff.mpr e2.2.2
            obtain ⟨mx, emx⟩ : ∃ mx, mv[0]? = some mx := ⟨mv[0]'(by omega), List.getElem?_eq_getElem (by omega)⟩
            obtain ⟨dm, edm, trm⟩ := tm.trs.get emx
            rw [List.getElem?_map, My.getD_at (d := ((0, []) : Mkr)) m0] at edm
            cases edm
            obtain ⟨mp, mc, rfl, hmp⟩ := make_at trm
            have hmp4 : H4 mp = some (.tup [.int (t.2.getD 0 (0, [])).1, .ref mc]) := kk4 mp _ (fun z => by rw [z, hL] at hmp; cases hmp) hmp
            obtain ⟨la, pv, y1, pf, y3, elw, ef0, hla, tpv, put2⟩ := lst1 e2.1
            refine ⟨_, rfl, pa, _, _, _, rfl, rfl, SqT.of (s5 _ _ hpa4), rfl, m, _, _, _, rfl, rfl, SqL.of (s5 _ _ hm4), atI_nat (j := 0) emx, mp, _, _, _, rfl, rfl, SqT.of (s5 _ _ hmp4), rfl, (by show 2 ≤ sizeLine; decide), fun tq htq => ⟨(by show 1 ≤ sizeLine; decide), fun nl' hnl => ?_⟩⟩
            have sq := Same.upd (o := HO.tup [V.int (t.2.getD 0 (0, [])).1, V.int 0]) htq
            have sn := Same.upd (o := HO.lst [V.ref tq]) hnl
            have S6 := s5.trans (sq.trans sn)
            refine ⟨_, rfl, 1, rfl, L, lw, _, l1.length - 1, rfl, rfl, S6 _ _ hL4, ix_last ll1 e2.1, fun H6 h6 k6 => ?_⟩
            have nLn : nl' ≠ L := fun z => by rw [z, sq _ _ (s5 _ _ hL4)] at hnl; cases hnl
            have tqL : tq ≠ L := fun z => by rw [z, s5 _ _ hL4] at htq; cases htq
            have Lf0 : L ∉ f0 := fun z => by
              rw [← hf0] at z
              rcases List.mem_append.mp z with w | w
              · exact nL L (by simp [w]) rfl
              · exact Lfe w
            have tnew : TF H6 (.ref nl') (dLook [((t.2.getD 0 (0, [])).1, 0)]) (nl' :: [tq]) := TF.lst (k6 _ _ nLn upd_same) (TFs.one (pair_mk (p := ((t.2.getD 0 (0, [])).1, 0)) (k6 _ _ tqL (sn _ _ upd_same))))
            have t6 := put2 H6 (.ref nl') _ _ (fun b hb o eb => k6 b o (fun z => Lf0 (by rw [ef0, ← z]; rcases List.mem_append.mp hb with w | w <;> simp [w])) (S6 _ _ eb)) tnew
            have llw : l ≠ nl' ∧ l ≠ tq := by
              have hl5 := s5 _ _ (kk4 l _ (nL l (by simp)) hl)
              exact ⟨(fun z => by rw [← z, sq _ _ hl5] at hnl; cases hnl), (fun z => by rw [← z, hl5] at htq; cases htq)⟩
            refine ⟨_, y1 ++ ((nl' :: [tq]) ++ y3), rfl, fun b o n eb => k6 b o n (S6 _ _ (kk4 b o n eb)), h6, ?_, fun z => ?_⟩
            · rw [← hl2, List.map_set]
              exact t6
            · rcases List.mem_append.mp z with w | w
              · exact lf0 (by rw [ef0]; simp [w])
              · rcases List.mem_append.mp w with w | w
                · rcases List.mem_cons.mp w with w | w
                  · exact llw.1 w
                  · exact llw.2 (List.mem_singleton.mp w)
                · exact lf0 (by rw [ef0]; simp [w])
          · have e2 : ¬ (l1 ≠ [] ∧ l1.getD (l1.length - 1) [] = [] ∧ t.2 ≠ []) := fun z => e (decide_eq_true z)
            rw [if_neg e2] at hl2
            refine ⟨lw, f0, rfl, fun b o n eb => s5 _ _ (kk4 b o n eb), s5 _ _ hL4, ?_, lf0⟩
            rw [← hl2]
            exact t4.same s5
        · rintro σ H5 ⟨lw2, f5, rfl, kk5, hL5, t5, lf5⟩
          have hpa5 := kk5 pa _ (nL pa (by simp)) hpa
          have hl5 := kk5 l _ (nL l (by simp)) hl
          refine ⟨_, rfl, _, rfl, (by show 3 ≤ sizeLine; decide), fun tp htp => ?_⟩
          have st' := Same.upd (o := HO.tup [V.int d.1, V.str "kept", V.ref L]) htp
          refine ⟨_, rfl, pa, _, _, _, rfl, rfl, SqT.of (st' _ _ hpa5), rfl, _, rfl, l, lv, _, i, rfl, rfl, st' _ _ hl5, (by rw [llv, ← hI]; exact ix_mod ((cq / 256) / 8) n0), fun H6 h6 k6 => ?_⟩
          have kk6 : ∀ b o, b ≠ L → b ≠ l → H1 b = some o → H6 b = some o := fun b o n1 n2 eb => k6 b o n2 (st' _ _ (kk5 b o n1 eb))
          have Ll : L ≠ l := nl L (by simp)
          have tpl : tp ≠ l := fun z => by rw [z, hl5] at htp; cases htp
          have t1 := put H6 (.ref tp) (dDeal (d.1, "kept", l2)) _ (fun b hb o eb => kk6 b o (nL b (by rcases List.mem_append.mp hb with w | w <;> simp [w])) (nl b (by rcases List.mem_append.mp hb with w | w <;> simp [w])) eb) (deal_mk (d := (d.1, "kept", l2)) (k6 _ _ tpl upd_same) (k6 _ _ Ll (st' _ _ hL5)) (t5.fr fun b hb o eb => k6 b o (fun z => lf5 (z ▸ hb)) (st' _ _ eb)))
          refine ⟨_, _, _, _, _, rfl, fun b o eb => kk6 b o (fun z => ?_) (fun z => ?_) (s1 _ _ eb), ?_⟩
          · have := ff L (by rw [ful]; simp)
            rw [z, this] at eb
            cases eb
          · have := ff l (by rw [ful]; simp)
            rw [z, this] at eb
            cases eb
          · rw [← hres]
            unfold dPast
            dsimp only
            rw [List.map_set]
            exact .tup (kk6 pa _ (nL pa (by simp)) (nl pa (by simp)) hpa) (.cons (.lst h6 t1.trs) (.cons (.lst (kk6 m _ (nL m (by simp)) (nl m (by simp)) hm) (tm.fr fun b hb o eb => kk6 b o (nL b (by simp [hb])) (nl b (by simp [hb])) eb).trs) .nil))
      · have e1 : ¬ ((cq / 256) % 8 = 3 ∧ t.1 ≠ []) := fun z => e (decide_eq_true z)
        rw [if_neg e1] at hres
        rw [← hres]
        exact ⟨_, _, _, _, _, rfl, s1.trans s2, tf.tr.same s2⟩
    · rintro σ H2 ⟨x2, x3, x4, x5, x6, rfl, S2, tr⟩
      exact ⟨_, rfl, q _ H2 S2 tr⟩
--@STAGE
theorem ok_Lmany (T : Tx K mg) : FnOk P w K mg base CX0 1 T.f_Lmany T.d_Lmany ["_law_word_here", "_law_looks"] spMany := by
  refine T.F_Lmany.ok sc_Lmany (fun vs H Q E h => ?_) (fun cdv A outer s H vs Q E hr h => ?_)
  · obtain ⟨x, L, lv, rfl, _⟩ := h
    rfl
  · obtain ⟨x, L, lv, rfl, hL, q⟩ := h
    have hu := hu_of hr
    refine ⟨_, (pss_cons (ps_if (pt_cmpR op_eq (pv 0) pe_str (nomark _))
      (pss_one (ps_ret (pe_op op_add (pe_callB call_len (by rfl) T.z_len boot_len (pa_cons (pv 1) pa_nil)) pe_int)))
      pss_nil)
      (pss_cons (ps_if (pt_cmpR op_eq (pv 0) pe_str (nomark _))
      (pss_one (ps_ret pe_int))
      pss_nil)
      (pss_one (ps_ret pe_int)))), ?_⟩
    unfold manyF at q
    refine ⟨_, rfl, rfl, _, rfl, ite2 (fun e => ?_) (fun e => ?_)⟩
    · have e1 : x = "kept" := V.str.inj (of_decide_eq_true e)
      rw [if_pos e1] at q
      exact ⟨_, rfl, _, _, rfl, .inl ⟨_, SqL.of hL, rfl⟩, _, _, rfl, rfl, q⟩
    · have e1 : ¬ x = "kept" := fun z => e (decide_eq_true (congrArg V.str z))
      rw [if_neg e1] at q
      refine ⟨_, rfl, rfl, _, rfl, ite2 (fun e => ?_) (fun e => ?_)⟩
      · have e2 : x = "make" := V.str.inj (of_decide_eq_true e)
        rw [if_pos e2] at q
        exact q
      · have e2 : ¬ x = "make" := fun z => e (decide_eq_true (congrArg V.str z))
        rw [if_neg e2] at q
        exact q
theorem ok_Lword (T : Tx K mg) : FnOk P w K mg base CX0 1 T.f_Lword T.d_Lword ["_law_cell"] spWordF := by
  refine T.F_Lword.ok sc_Lword (fun vs H Q E h => ?_) (fun cdv A outer s H vs Q E hr h => ?_)
  · obtain ⟨c, rfl, _⟩ := h
    rfl
  · obtain ⟨c, rfl, q⟩ := h
    refine ⟨_, (pss_one (ps_ret (pe_ix ix_list (pe_lst (pa_cons pe_non (pa_cons pe_str (pa_cons pe_str (pa_cons pe_str (pa_cons pe_str (pa_cons pe_str (pa_cons pe_non pa_nil)))))))) (pe_op op_mod (pv 0) pe_int) (fun _ _ => rfl)))), ?_⟩
    exact ⟨(by show 7 ≤ sizeLine; decide), fun wl hwl => ⟨_, rfl, _, _, rfl, rfl, (by show (0 : Int) < 7; decide), wl, _, _, _, rfl, rfl, SqL.of upd_same, word_at c, q _ (Same.upd hwl)⟩⟩
theorem ok_Lodd (T : Tx K mg) : FnOk P w K mg base CX0 1 T.f_Lodd T.d_Lodd ["_law_number"] spOddW := by
  refine T.F_Lodd.ok sc_Lodd (fun vs H Q E h => ?_) (fun cdv A outer s H vs Q E hr h => ?_)
  · obtain ⟨n, rfl, _⟩ := h
    rfl
  · obtain ⟨n, rfl, n0, n1, q⟩ := h
    have hu := hu_of hr
    refine ⟨_, (pss_cons (ps_set (i := 1) sc_Lodd.nd rfl (Or.inl rfl) (pe_lst (pa_cons pe_str (pa_cons pe_str (pa_cons pe_str (pa_cons pe_str (pa_cons pe_str pa_nil)))))))
      (pss_cons (ps_set (i := 2) sc_Lodd.nd rfl (Or.inl rfl) (pe_ix ix_list (pv 1) (pe_op op_mod (pv 0) pe_int) (fun _ _ => rfl)))
      (pss_cons (ps_set (i := 3) sc_Lodd.nd rfl (Or.inl rfl) (pe_op op_mod (pe_op op_fdiv (pv 0) pe_int) (pe_callB call_len (by rfl) T.z_len boot_len (pa_cons (pv 2) pa_nil))))
      (pss_cons (ps_set (i := 4) sc_Lodd.nd rfl (Or.inl rfl) (pe_ix ix_str pe_str (pe_op op_mod (pe_op op_fdiv (pv 0) pe_int) pe_int) (fun _ _ => rfl)))
      (pss_cons (ps_if (pt_cmpR op_eq (pe_op op_mod (pe_op op_fdiv (pv 0) pe_int) pe_int) pe_int (nomark _))
      (pss_one (ps_ret (pe_op op_add_str (pe_slice sl_str (pv 2) po_none (po_some (pv 3))) (pe_slice sl_str (pv 2) (po_some (pe_op op_add (pv 3) pe_int)) po_none))))
      pss_nil)
      (pss_cons (ps_if (pt_cmpR op_eq (pe_op op_mod (pe_op op_fdiv (pv 0) pe_int) pe_int) pe_int (nomark _))
      (pss_one (ps_ret (pe_op op_add_str (pe_op op_add_str (pe_slice sl_str (pv 2) po_none (po_some (pv 3))) (pv 4)) (pe_slice sl_str (pv 2) (po_some (pv 3)) po_none))))
      pss_nil)
      (pss_one (ps_ret (pe_op op_add_str (pe_op op_add_str (pe_slice sl_str (pv 2) po_none (po_some (pv 3))) (pv 4)) (pe_slice sl_str (pv 2) (po_some (pe_op op_add (pv 3) pe_int)) po_none)))))))))), ?_⟩
    refine ⟨(by show 5 ≤ sizeLine; decide), fun wl hwl => ?_⟩
    have s1 := Same.upd (o := HO.lst [V.str "loose", V.str "kept", V.str "make", V.str "watch", V.str "hold"]) hwl
    refine ⟨_, rfl, _, rfl, _, _, rfl, rfl, (by show (0 : Int) < 5; decide), wl, _, _, _, rfl, rfl, SqL.of upd_same, wd_at n, ?_⟩
    have hw : wdF n ∈ wds := by
      unfold wdF
      have h0 := Int.emod_nonneg n (show (5 : Int) ≠ 0 by decide)
      have h1 := Int.emod_lt_of_pos n (show (0 : Int) < 5 by decide)
      exact List.mem_of_getElem? (My.getD_at (show (n % 5).toNat < wds.length by show _ < 5; omega))
    generalize wdF n = x at hw
    have sh : Short 5 x := by
      rw [← wd_lvS hw]
      exact ⟨(wd_len _).1, fun c hc => Nat.lt_trans ((wd_len _).2 c hc) (by decide)⟩
    have xl : 0 < x.length := by
      rw [← wd_lvS hw]
      generalize lvS x = l
      cases l <;> decide +kernel
    have hz : sizeLine = 2 ^ 24 := rfl
    have x5 := sh.1
    generalize upd H wl (HO.lst [V.str "loose", V.str "kept", V.str "make", V.str "watch", V.str "hold"]) = H1 at s1
    refine ⟨_, rfl, _, _, rfl, rfl, ⟨by decide, by decide⟩, _, rfl, .str x, x.length, rfl, ⟨by omega, rfl⟩, _, _, rfl, rfl, (by show (0 : Int) < (x.length : Int); omega), ?_⟩
    obtain ⟨ch, ech, fch⟩ := letter_at (n / 25)
    refine ⟨_, rfl, _, _, rfl, rfl, ⟨by decide, by decide⟩, _, _, rfl, rfl, (by show (0 : Int) < 29; decide), _, _, ch, rfl, rfl, (by decide +kernel), ech, ?_⟩
    have so : Short 1 ⟨#[ch]⟩ := Short.one fch
    refine ⟨_, rfl, _, _, rfl, rfl, ⟨by decide, by decide⟩, _, _, rfl, rfl, (by show (0 : Int) < 3; decide), rfl, _, rfl, ite2 (fun e => ?_) (fun e => ?_)⟩
    · have f1 := (sh.slice none (some (n / 5 % (x.length : Int)))).app (sh.slice (some (n / 5 % (x.length : Int) + 1)) none)
      exact ⟨_, rfl, _, rfl, _, rfl, x, rfl, by omega, _, rfl, _, rfl, _, _, rfl, rfl, _, rfl, x, rfl, by omega, _, _, rfl, rfl, by have := (sh.slice none (some (n / 5 % (x.length : Int)))).1; have := (sh.slice (some (n / 5 % (x.length : Int) + 1)) none).1; show (Txt.slice x none (some (n / 5 % (x.length : Int)))).length + (Txt.slice x (some (n / 5 % (x.length : Int) + 1)) none).length ≤ _; omega, q _ _ s1 (fine_short f1 (by decide))⟩
    refine ⟨_, rfl, _, _, rfl, rfl, ⟨by decide, by decide⟩, _, _, rfl, rfl, (by show (0 : Int) < 3; decide), rfl, _, rfl, ite2 (fun e => ?_) (fun e => ?_)⟩
    · have f0 := sh.slice none (some (n / 5 % (x.length : Int)))
      have f2 := sh.slice (some (n / 5 % (x.length : Int))) none
      have f1 := (f0.app so).app f2
      have a1 := f0.1
      have a2 := f2.1
      have a3 := so.1
      exact ⟨_, rfl, _, rfl, _, rfl, x, rfl, by omega, _, rfl, _, _, rfl, rfl, by show (Txt.slice x none (some (n / 5 % (x.length : Int)))).length + (⟨#[ch]⟩ : Str).length ≤ _; omega, _, rfl, _, rfl, _, rfl, x, rfl, by omega, _, _, rfl, rfl, by show (Txt.slice x none (some (n / 5 % (x.length : Int))) ++ (⟨#[ch]⟩ : Str)).length + (Txt.slice x (some (n / 5 % (x.length : Int))) none).length ≤ _; rw [strLen_append]; omega, q _ _ s1 (fine_short f1 (by decide))⟩
    · have f0 := sh.slice none (some (n / 5 % (x.length : Int)))
      have f2 := sh.slice (some (n / 5 % (x.length : Int) + 1)) none
      have f1 := (f0.app so).app f2
      have a1 := f0.1
      have a2 := f2.1
      have a3 := so.1
      exact ⟨_, rfl, _, rfl, _, rfl, x, rfl, by omega, _, rfl, _, _, rfl, rfl, by show (Txt.slice x none (some (n / 5 % (x.length : Int)))).length + (⟨#[ch]⟩ : Str).length ≤ _; omega, _, rfl, _, rfl, _, _, rfl, rfl, _, rfl, x, rfl, by omega, _, _, rfl, rfl, by show (Txt.slice x none (some (n / 5 % (x.length : Int))) ++ (⟨#[ch]⟩ : Str)).length + (Txt.slice x (some (n / 5 % (x.length : Int) + 1)) none).length ≤ _; rw [strLen_append]; omega, q _ _ s1 (fine_short f1 (by decide))⟩
theorem ok_Ldue (T : Tx K mg) : FnOk P w K mg base CX0 2 T.f_Ldue T.d_Ldue ["_law_tale_here", "_law_word_here"] spDueS := by
  refine T.F_Ldue.ok sc_Ldue (fun vs H Q E h => ?_) (fun cdv A outer s H vs Q E hr h => ?_)
  · obtain ⟨v, p, wo, rfl, _⟩ := h
    rfl
  · obtain ⟨v, p, wo, rfl, tr, gp, hw, q⟩ := h
    have hu := hu_of hr
    refine ⟨_, (pss_cons (ps_set (i := 2) sc_Ldue.nd rfl (Or.inl rfl) (pe_lst pa_nil))
      (pss_cons (ps_for PassesOwn.never rfl (pi_list (pe_ix ix_tup (pv 0) pe_int (fun _ _ => rfl))) (pg_tup rfl (pgs_cons (pg_name (i := 3) sc_Ldue.nd rfl (Or.inr rfl)) (pgs_cons (pg_name (i := 4) sc_Ldue.nd rfl (Or.inl rfl)) (pgs_cons (pg_name (i := 5) sc_Ldue.nd rfl (Or.inl rfl)) pgs_nil))))
      (pss_cons (ps_set (i := 6) sc_Ldue.nd rfl (Or.inl rfl) (pv 4))
      (pss_cut (ps_if (pt_cmpR op_notN (pv 1) pe_non (nomark _))
      (pss_one (ps_set (i := 6) sc_Ldue.nd rfl (Or.inl rfl) (pv 1)))
      pss_nil)
      (pss_one (ps_expr (pe_bm PySem.F.plainAttrs_list PySem.F.slot_list_extend PySem.F.type_list_extend mt_extend (pv 2) (pa_cons (pe_compF ["_law_place"] rfl (CompSc.mk (fv := ["_law_number"]) (js := [3]) rfl (by decide +kernel) (by decide +kernel) (by decide +kernel) (allc_cons (Or.inl rfl) allc_nil) rfl (by decide +kernel)) (pi_range1 rfl T.z_range (pa_cons (pe_call ((ok_Lmany T).mono (by decide)) hr rfl T.m_Lmany T.F_Lmany.kp T.b_Lmany .nil pass0 (pa_cons (pv 6) (pa_cons (pv 5) pa_nil))) pa_nil)) (fun _ _ _ _ _ => (pg_name (i := 0) (show (["_law_place", "_law_number"] : List Str).Nodup by decide +kernel) rfl (Or.inl rfl))) (fun _ _ _ _ _ => pf_nil) (fun _ _ _ _ _ => (pe_tup (pa_cons (pv 1) (pa_cons (pv 0) pa_nil))))) pa_nil)))))))
      (pss_one (ps_ret (pv 2))))), ?_⟩
    refine ⟨(by show 0 ≤ sizeLine; decide), fun F hF => ?_⟩
    have hF0 := upd_same (H := H) (a := F) (o := HO.lst [])
    have sF := Same.upd (o := HO.lst []) hF
    generalize upd H F (.lst []) = H1F at hF0 sF
    obtain ⟨a, l, m, lv, mv, rfl, ha, hl, tl, _, _⟩ := past_open tr
    refine ⟨_, rfl, a, _, _, _, rfl, rfl, SqT.of (sF _ _ ha), rfl, l, rfl, ⟨_, SqL.of (sF _ _ hl)⟩, for_list (K := K) (a := l) (xs := lv) (fun i σ H3 => ∃ (x3 x4 x5 x6 : Option V) (ys : List V), σ = [some (.ref a), some (wV wo), some (.ref F), x3, x4, x5, x6] ∧ Same H H3 ∧ H3 F = some (.lst ys) ∧ ys.length ≤ 41 * i ∧ Nds H3 ys ((p.1.take i).flatMap (spotsD wo))) ⟨none, none, none, none, [], rfl, sF, hF0, Nat.le_refl _, .nil⟩ (fun i σ H3 _ ⟨_, _, _, _, _, _, s3, _⟩ => SqL.of (s3 _ _ hl)) ?_ ?_⟩
    · rintro i y σ H3 hy ⟨x3, x4, x5, x6, ys, rfl, s3, hF3, ly, pn⟩
      obtain ⟨dd, edd, trd⟩ := tl.get hy
      rw [List.getElem?_map] at edd
      obtain ⟨d, ed, rfl⟩ := Option.map_eq_some_iff.mp edd
      have hd := List.mem_of_getElem? ed
      have hi8 : i < 8 := by have := (List.getElem?_eq_some_iff.mp ed).1; have := gp.1; omega
      obtain ⟨pd, L, lkv, rfl, hpd, hL, tL⟩ := deal_at (trd.same s3)
      have llk : lkv.length = d.2.2.length := by rw [tL.len, List.length_map]
      refine ⟨pd, _, rfl, SqT.of hpd, rfl, _, _, rfl, _, _, rfl, _, _, rfl, rfl, _, rfl, ?_⟩
      refine ⟨fun σ H4 => σ = [some (.ref a), some (wV wo), some (.ref F), some (.int d.1), some (.str d.2.1), some (.ref L), some (.str (wo.getD d.2.1))] ∧ H4 = H3, ?_, ?_⟩
      · cases wo with
        | none => exact ⟨_, rfl, rfl, _, rfl, iteF (A := _) ⟨rfl, rfl⟩⟩
        | some x => exact ⟨_, rfl, rfl, _, rfl, iteT (B := _) ⟨_, rfl, rfl, rfl⟩⟩
      · rintro σ H4 ⟨rfl, rfl⟩
        have xin : wo.getD d.2.1 ∈ wds := by
          cases wo with
          | none => exact (gp.2.2 d hd).1
          | some x => exact hw x rfl
        have em : manyF (wo.getD d.2.1) lkv.length = spotsL (lvD wo d) (d.2.2.length : Int) := by rw [llk]; exact many_spots xin _
        have sl := spots_le wo d (gp.2.2 d hd).2
        have hz : sizeLine = 2 ^ 24 := rfl
        refine ⟨_, rfl, Or.inl ⟨rfl, _, SqL.of hF3⟩, _, rfl, _, rfl, _, L, lkv, rfl, hL, ?_⟩
        rw [em]
        refine ⟨_, rfl, (by omega), (by omega), compPR (k := 1) (fs := [some (.int d.1)]) NdV _ (fun j => some (d.1, (j : Int))) nd_kn rfl (by omega) (fun j hj H5 ts R ss hts cont _ => ?_) (fun D H5 zs hD s5 h5 pz => ?_)⟩
        · obtain ⟨t, rfl⟩ := List.length_eq_one_iff.mp hts
          refine ⟨_, rfl, _, rfl, (by show 2 ≤ sizeLine; decide), fun n hn => cont _ _ [_] _ rfl rfl (Same.upd hn) ⟨n, rfl, ?_⟩⟩
          rw [upd_same, Int.zero_add]
        · rw [fm_some] at pz
          have lz : zs.length ≤ 41 := by rw [prs_len pz, List.length_map, List.length_range]; omega
          refine ⟨F, D, ys, zs, rfl, rfl, s5 _ _ hF3, h5, (by omega), ?_⟩
          have kn := KN.upd (o := HO.lst (ys ++ zs)) (s5 _ _ hF3)
          refine ⟨_, _, _, _, _, rfl, fun b o eb => ?_, upd_same, (by rw [List.length_append]; omega), ?_⟩
          · rw [upd_ne (show b ≠ F from fun z => by rw [z, hF] at eb; cases eb)]
            exact s5 _ _ (s3 _ _ eb)
          · rw [List.take_add_one, ed, List.flatMap_append]
            refine paired_append (nds_kn ((KN.of s5).trans kn) pn) ?_
            show Nds _ zs (List.flatMap (spotsD wo) [d])
            rw [List.flatMap_cons, List.flatMap_nil, List.append_nil]
            exact nds_kn kn pz
    · rintro σ H3 ⟨x3, x4, x5, x6, ys, rfl, s3, hF3, ly, pn⟩
      have : lv.length = p.1.length := by rw [tl.len, List.length_map]
      rw [this, List.take_length] at pn
      exact ⟨_, rfl, q F H3 ys hF s3 hF3 pn⟩
theorem ok_Lalike (T : Tx K mg) : FnOk P w K mg base CX0 2 T.f_Lalike T.d_Lalike ["_law_found", "_law_due_here"] spAlikeS := by
  refine T.F_Lalike.ok sc_Lalike (fun vs H Q E h => ?_) (fun cdv A outer s H vs Q E hr h => ?_)
  · obtain ⟨a, b, xs, ys, ns, rfl, _⟩ := h
    rfl
  · obtain ⟨a, b, xs, ys, ns, rfl, ha, px, hb, py, l4, q⟩ := h
    have hu := hu_of hr
    refine ⟨_, (pss_cons (ps_if (PW.pt (pw_or (pt_not (pt_val (pe_callB call_isi (by rfl) T.z_isinstance boot_isinstance (pa_cons (pv 0) (pa_cons (pe_bltn (v := V.ty "list") rfl T.z_list boot_list rfl) pa_nil))))) (pw_or1 (pt_cmpR (op_neS hr.units) (pv 0) (pv 1) (nomark _)))))
      (pss_one (ps_ret pe_bl))
      pss_nil)
      (pss_cons (ps_for PassesOwn.never rfl (pi_list (pv 0)) (pg_name (i := 2) sc_Lalike.nd rfl (Or.inl rfl))
      (pss_one (ps_if (PW.pt (pw_or (pt_not (pt_val (pe_callB call_isi (by rfl) T.z_isinstance boot_isinstance (pa_cons (pv 2) (pa_cons (pe_bltn (v := V.ty "tuple") rfl T.z_tuple boot_tuple rfl) pa_nil))))) (pw_or (pt_not (pt_val (pe_call ((ok_Lwhole T).mono (by decide)) hr rfl T.m_Lwhole T.F_Lwhole.kp T.b_Lwhole .nil pass0 (pa_cons (pe_ix ix_tup (pv 2) pe_int (fun _ _ => rfl)) pa_nil)))) (pw_or1 (pt_not (pt_val (pe_call ((ok_Lwhole T).mono (by decide)) hr rfl T.m_Lwhole T.F_Lwhole.kp T.b_Lwhole .nil pass0 (pa_cons (pe_ix ix_tup (pv 2) pe_int (fun _ _ => rfl)) pa_nil))))))))
      (pss_one (ps_ret pe_bl))
      pss_nil)))
      (pss_one (ps_ret pe_bl)))), ?_⟩
    refine ⟨_, rfl, _, _, _, _, rfl, TyOf.lst ha, kit_ll, _, rfl, iteF ?_⟩
    refine ⟨_, rfl, _, rfl, _, _, .lst (SqL.of ha) (nds_dts px), .lst (SqL.of hb) (nds_dts py), shaped_N ns, shaped_N ns, _, rfl, ?_⟩
    rw [eqv_N]
    refine iteF ?_
    refine ⟨_, rfl, a, rfl, ⟨_, SqL.of ha⟩, for_list (K := K) (a := a) (xs := xs) (fun i σ H2 => H2 = H ∧ ∃ x2 : Option V, σ = [some (.ref a), some (.ref b), x2]) ⟨rfl, none, rfl⟩ (fun i σ H2 _ ⟨z, _⟩ => z ▸ SqL.of ha) ?_ ?_⟩
    · rintro i y σ H2 hy ⟨z2, x2, rfl⟩
      subst z2
      obtain ⟨n, en, p, rfl, ep⟩ := paired_get px hy
      refine ⟨_, rfl, _, _, _, _, rfl, TyOf.tup ep, kit_tt, _, rfl, iteF ?_⟩
      refine ⟨_, rfl, p, _, _, _, rfl, rfl, SqT.of ep, atI_nat (j := 0) rfl, n.1, rfl, true, rfl, iteF ?_⟩
      exact ⟨_, rfl, p, _, _, _, rfl, rfl, SqT.of ep, atI_nat (j := 1) rfl, n.2, rfl, true, rfl, rfl, _, rfl⟩
    · rintro σ H2 ⟨z2, x2, rfl⟩
      subst z2
      exact q
theorem ok_edges (T : Tx K mg) : FnOk P w K mg base (CXW P w) 4 T.f_edges T.d_edges ["history", "word"] (spEdgesN (cO T) T.c_NoLevel) := by
  refine fun_okWD T.F_edges sc_edges (fun vs H Q E h => ?_) (fun cdv A outer s H vs Q E hr h => ?_)
  · obtain ⟨v, p, x, rfl, _⟩ := h
    rfl
  · obtain ⟨v, p, x, rfl, tr, gp, fx, nx, q⟩ := h
    have hu := hu_of hr
    refine ⟨_, (pss_cons (ps_set (i := 2) sc_edges.nd rfl (Or.inl rfl) (pe_call ((ok_levelsof T).mono (by decide)) hr rfl T.m_levelsof T.F_levelsof.kp T.b_levelsof .nil (passW fun _ _ _ z => z) (pa_cons (pv 0) (pa_cons (pv 1) pa_nil))))
      (pss_cons (ps_set (i := 3) sc_edges.nd rfl (Or.inl rfl) pe_never)
      (pss_one (ps_ret pe_never)))), ?_⟩
    exact ⟨_, rfl, _, rfl, v, p, some x, rfl, tr, gp, (fun y ey => by cases ey; exact fx), (fun h => absurd (h x rfl) nx), fun y ey n H' s' => q H' s'⟩
theorem ok_Lrefused (T : Tx K mg) : FnOk P w K mg base CX0 5 T.f_Lrefused T.d_Lrefused ["_law_tale_here", "_law_word_here", "_law_of_edges"] spRefusedS := by
  refine T.F_Lrefused.ok sc_Lrefused (fun vs H Q E h => ?_) (fun cdv A outer s H vs Q E hr h => ?_)
  · obtain ⟨v, p, x, b, rfl, _⟩ := h
    rfl
  · obtain ⟨v, p, x, b, rfl, tr, gp, fx, nx, q⟩ := h
    have hu := hu_of hr
    refine ⟨_, (pss_cons (ps_set (i := 3) sc_Lrefused.nd rfl (Or.inl rfl) pe_str)
      (pss_cons (ps_tryIF (j := 4) (pt_val (pv 2)) ((ok_edges T).mono (by decide)) hr rfl T.m_edges T.F_edges.kp T.b_edges (pa_cons (pv 0) (pa_cons (pv 1) pa_nil)) ((ok_spots T).mono (by decide)) hr rfl T.m_spots T.F_spots.kp T.b_spots (pa_cons (pv 0) (pa_cons (pv 1) pa_nil)) T.ks_NoLevel rfl sc_Lrefused.nd rfl rfl rfl rfl (fun ea => (pss_cons (ps_set (i := 3) sc_Lrefused.nd rfl (Or.inl rfl) pe_str)
      (pss_one (ps_if (PW.pt (pw_and (pt_val (pe_callB (call_isxK (K := K) rfl) (by rfl) T.z_isinstance boot_isinstance (pa_cons (pv 4) (pa_cons (pe_glob (v := V.ref T.c_SkewError) rfl T.m_SkewError rfl) pa_nil)))) (pw_and (pt_val (pe_callB (call_isxK (K := K) rfl) (by rfl) T.z_isinstance boot_isinstance (pa_cons (pv 4) (pa_cons (pe_bltn (v := V.ty "ValueError") rfl T.z_ValueError (by decide +kernel) rfl) pa_nil)))) (pw_and1 (pt_not (pt_val (pe_callB (call_isxK (K := K) rfl) (by rfl) T.z_isinstance boot_isinstance (pa_cons (pv 4) (pa_cons (pe_glob (v := V.ref T.c_NoHistory) rfl T.m_NoHistory rfl) pa_nil)))))))))
      (pss_one (ps_set (i := 3) sc_Lrefused.nd rfl (Or.inl rfl) pe_str))
      pss_nil)))))
      (pss_one (ps_ret (pe_cmpR op_eq (pv 3) pe_str (nomark _)))))), ?_⟩
    refine ⟨_, rfl, b, rfl, ?_⟩
    cases b with
    | true =>
      refine iteT ⟨_, rfl, _, rfl, v, p, x, rfl, tr, gp, fx, nx, fun H1 s1 => ⟨_, rfl, T.kp_NoLevel_NoLevel.sub, fun ea he => ?_⟩⟩
      refine ⟨_, rfl, ea, _, true, _, rfl, upd_same, T.kx_NoLevel, .inl ⟨_, rfl, T.kp_NoLevel_SkewError.one⟩, true, rfl, iteT ?_⟩
      refine ⟨_, rfl, ea, _, true, _, rfl, upd_same, T.kx_NoLevel, .inr ⟨_, rfl, kit_ve T.kv_NoLevel⟩, true, rfl, iteT ?_⟩
      refine ⟨_, rfl, ea, _, false, _, rfl, upd_same, T.kx_NoLevel, .inl ⟨_, rfl, T.kp_NoLevel_NoHistory.one⟩, false, rfl, iteT ?_⟩
      refine ⟨_, rfl, rfl, ?_⟩
      have := q _ (s1.trans (Same.upd (o := excO ea T.c_NoLevel) he))
      rw [decide_eq_true (show V.str "level" = V.str "level" from rfl)]
      exact this
    | false =>
      refine iteF ⟨_, rfl, _, rfl, v, p, some x, rfl, tr, gp, (fun y ey => by cases ey; exact fx), (fun h => absurd (h x rfl) nx), fun y ey n H1 s1 => ⟨_, rfl, T.kp_NoLevel_NoLevel.sub, fun ea he => ?_⟩⟩
      refine ⟨_, rfl, ea, _, true, _, rfl, upd_same, T.kx_NoLevel, .inl ⟨_, rfl, T.kp_NoLevel_SkewError.one⟩, true, rfl, iteT ?_⟩
      refine ⟨_, rfl, ea, _, true, _, rfl, upd_same, T.kx_NoLevel, .inr ⟨_, rfl, kit_ve T.kv_NoLevel⟩, true, rfl, iteT ?_⟩
      refine ⟨_, rfl, ea, _, false, _, rfl, upd_same, T.kx_NoLevel, .inl ⟨_, rfl, T.kp_NoLevel_NoHistory.one⟩, false, rfl, iteT ?_⟩
      refine ⟨_, rfl, rfl, ?_⟩
      have := q _ (s1.trans (Same.upd (o := excO ea T.c_NoLevel) he))
      rw [decide_eq_true (show V.str "level" = V.str "level" from rfl)]
      exact this
theorem ok_law (T : Tx K mg) : FnOk P w K mg base CX0 8 T.f_law T.d_law ["_law_script"] (spLaw K) := by
  refine T.F_law.ok sc_law (fun vs H Q E h => ?_) (fun cdv A outer s H vs Q E hr h => ?_)
  · obtain ⟨a, cs, rfl, _⟩ := h
    rfl
  · obtain ⟨a, cs, rfl, ha, hcs, hbits, q⟩ := h
    have hu := hu_of hr
    refine ⟨_, (pss_cons (ps_set (i := 1) sc_law.nd rfl (Or.inl rfl) (pe_call ((ok_Llonger T).mono (by decide)) hr rfl T.m_Llonger T.F_Llonger.kp T.b_Llonger .nil pass0 (pa_cons (pv 0) pa_nil)))
      (pss_cons (ps_set (i := 2) sc_law.nd rfl (Or.inl rfl) (pe_call ((ok_Lword T).mono (by decide)) hr rfl T.m_Lword T.F_Lword.kp T.b_Lword .nil pass0 (pa_cons (pe_call ((ok_Lcellat T).mono (by decide)) hr rfl T.m_Lcellat T.F_Lcellat.kp T.b_Lcellat .nil pass0 (pa_cons (pv 0) (pa_cons pe_int pa_nil))) pa_nil)))
      (pss_cons (ps_if (pt_not (pt_val (pe_call ((ok_Lalike T).mono (by decide)) hr rfl T.m_Lalike T.F_Lalike.kp T.b_Lalike .nil pass0 (pa_cons (pe_call ((ok_spots T).mono (by decide)) hr rfl T.m_spots T.F_spots.kp T.b_spots .nil passF (pa_cons (pv 1) (pa_cons (pv 2) pa_nil))) (pa_cons (pe_call ((ok_Ldue T).mono (by decide)) hr rfl T.m_Ldue T.F_Ldue.kp T.b_Ldue .nil pass0 (pa_cons (pv 1) (pa_cons (pv 2) pa_nil))) pa_nil)))))
      (pss_one (ps_ret pe_bl))
      pss_nil)
      (pss_cons (ps_if (pt_not (pt_val (pe_call ((ok_Lalike T).mono (by decide)) hr rfl T.m_Lalike T.F_Lalike.kp T.b_Lalike .nil pass0 (pa_cons (pe_call ((ok_spots T).mono (by decide)) hr rfl T.m_spots T.F_spots.kp T.bd_spots (show Vals [V.non] [Value.none] from .cons rfl .nil) passF (pa_cons (pv 1) pa_nil)) (pa_cons (pe_call ((ok_Ldue T).mono (by decide)) hr rfl T.m_Ldue T.F_Ldue.kp T.b_Ldue .nil pass0 (pa_cons (pv 1) (pa_cons pe_non pa_nil))) pa_nil)))))
      (pss_one (ps_ret pe_bl))
      pss_nil)
      (pss_cons (ps_set (i := 3) sc_law.nd rfl (Or.inl rfl) (pe_call ((ok_Lodd T).mono (by decide)) hr rfl T.m_Lodd T.F_Lodd.kp T.b_Lodd .nil pass0 (pa_cons (pe_op op_mod (pe_call ((ok_Lcellat T).mono (by decide)) hr rfl T.m_Lcellat T.F_Lcellat.kp T.b_Lcellat .nil pass0 (pa_cons (pv 0) (pa_cons pe_int pa_nil))) pe_int) pa_nil)))
      (pss_cons (ps_if (pt_cmpR op_in_seq (pv 3) (pe_tup (pa_cons pe_str (pa_cons pe_str (pa_cons pe_str (pa_cons pe_str (pa_cons pe_str pa_nil)))))) rfl)
      (pss_one (ps_if (pt_not (pt_val (pe_call ((ok_Lalike T).mono (by decide)) hr rfl T.m_Lalike T.F_Lalike.kp T.b_Lalike .nil pass0 (pa_cons (pe_call ((ok_spots T).mono (by decide)) hr rfl T.m_spots T.F_spots.kp T.b_spots .nil passF (pa_cons (pv 1) (pa_cons (pv 3) pa_nil))) (pa_cons (pe_call ((ok_Ldue T).mono (by decide)) hr rfl T.m_Ldue T.F_Ldue.kp T.b_Ldue .nil pass0 (pa_cons (pv 1) (pa_cons (pv 3) pa_nil))) pa_nil)))))
      (pss_one (ps_ret pe_bl))
      pss_nil))
      (pss_one (ps_if (PW.pt (pw_or (pt_not (pt_val (pe_call ((ok_Lrefused T).mono (by decide)) hr rfl T.m_Lrefused T.F_Lrefused.kp T.b_Lrefused .nil pass0 (pa_cons (pv 1) (pa_cons (pv 3) (pa_cons pe_bl pa_nil)))))) (pw_or1 (pt_not (pt_val (pe_call ((ok_Lrefused T).mono (by decide)) hr rfl T.m_Lrefused T.F_Lrefused.kp T.b_Lrefused .nil pass0 (pa_cons (pv 1) (pa_cons (pv 3) (pa_cons pe_bl pa_nil)))))))))
      (pss_one (ps_ret pe_bl))
      pss_nil)))
      (pss_one (ps_ret (pe_cmpR (op_eqS hr.units) (pv 1) (pe_call ((ok_Llonger T).mono (by decide)) hr rfl T.m_Llonger T.F_Llonger.kp T.b_Llonger .nil pass0 (pa_cons (pv 0) pa_nil)) (nomark _)))))))))), ?_⟩
    have gp := long_good cs
    refine ⟨_, rfl, a, cs, rfl, ha, hcs, fun v H1 s1 t1 => ?_⟩
    refine ⟨_, rfl, a, cs, 0, rfl, s1.seq ha, by decide, _, rfl, fun H2 s2 => ?_⟩
    have win := word_in (celF cs 0)
    generalize wordF (celF cs 0) = wo at win
    have lay := lay_past (p := longF cs) fun d hd => (gp.2.2 d hd).1
    generalize hp : longF cs = p at *
    have t2 := t1.same s2
    refine ⟨_, rfl, _, rfl, v, p, wo, rfl, t2, gp, (fun x e => fine_wd (win x e)), (fun _ D3 H3 ys hD3 s3 h3 n3 => ?_), fun x e n => absurd (win x e) n⟩
    refine ⟨_, rfl, _, rfl, v, p, wo, rfl, t2.same s3, gp, win, fun D4 H4 zs hD4 s4 h4 n4 => ?_⟩
    refine ⟨D3, D4, ys, zs, _, rfl, s4 _ _ h3, nds_kn (KN.of s4) n3, h4, n4, spots_few _ gp, true, rfl, iteF ?_⟩
    have S4 := s2.trans (s3.trans s4)
    have t4 := t1.same S4
    refine ⟨_, rfl, v, p, none, rfl, t4, gp, (fun x e => by cases e), (fun _ D5 H5 ys2 hD5 s5 h5 n5 => ?_), fun x e n => by cases e⟩
    refine ⟨_, rfl, v, p, none, rfl, t4.same s5, gp, (fun x e => by cases e), fun D6 H6 zs2 hD6 s6 h6 n6 => ?_⟩
    refine ⟨D5, D6, ys2, zs2, _, rfl, s6 _ _ h5, nds_kn (KN.of s6) n5, h6, n6, spots_few _ gp, true, rfl, iteF ?_⟩
    have S6 := S4.trans (s5.trans s6)
    have t6 := t1.same S6
    have m0 := Int.emod_nonneg (celF cs 2) (show (1000003 : Int) ≠ 0 by decide)
    have m1 := Int.emod_lt_of_pos (celF cs 2) (show (0 : Int) < 1000003 by decide)
    refine ⟨_, rfl, a, cs, 2, rfl, (s1.trans S6).seq ha, by decide, _, _, rfl, rfl, (by show (0 : Int) < 1000003; decide), _, rfl, m0, m1, fun x H7 s7 fx => ?_⟩
    have S7 := S6.trans s7
    have t7 := t1.same S7
    refine ⟨_, rfl, (by show 5 ≤ sizeLine; decide), fun tp htp => ⟨tp, _, rfl, .inr (SqT.of upd_same), rfl, rfl, _, rfl, ite2 (fun e => ?_) (fun e => ?_)⟩⟩
    · have hx : x ∈ wds := by
        have e' : inV (V.str x) [V.str "loose", V.str "kept", V.str "make", V.str "watch", V.str "hold"] = true := e
        rw [inV_wds] at e'
        exact of_decide_eq_true e'
      have sx := Same.upd (o := HO.tup [V.str "loose", V.str "kept", V.str "make", V.str "watch", V.str "hold"]) htp
      generalize upd H7 tp (HO.tup [V.str "loose", V.str "kept", V.str "make", V.str "watch", V.str "hold"]) = H8 at sx
      have t8 := t7.same sx
      refine ⟨_, rfl, _, rfl, v, p, some x, rfl, t8, gp, (fun y ey => by cases ey; exact fx), (fun _ D8 Ha ys3 hD8 sa ha8 na => ?_), fun y ey n => by cases ey; exact absurd hx n⟩
      refine ⟨_, rfl, _, rfl, v, p, some x, rfl, t8.same sa, gp, (fun y ey => by cases ey; exact hx), fun D9 Hb zs3 hD9 sb hb9 nb => ?_⟩
      refine ⟨D8, D9, ys3, zs3, _, rfl, sb _ _ ha8, nds_kn (KN.of sb) na, hb9, nb, spots_few _ gp, true, rfl, iteF ?_⟩
      have S8 := S7.trans (sx.trans (sa.trans sb))
      refine ⟨_, rfl, _, rfl, a, cs, rfl, (s1.trans S8).seq ha, hcs, fun v' H9 s9 t9 => ?_⟩
      rw [hp] at t9
      refine ⟨dPast p, dPast p, (t1.same ((S8).trans s9)).dt, t9.dt, lay.2.2, lay.2.2, ?_⟩
      rw [SeqAt.eqv_refl (dPast p) lay.1]
      exact q _
    · have hx : x ∉ wds := fun z => e (by
        show inV (V.str x) [V.str "loose", V.str "kept", V.str "make", V.str "watch", V.str "hold"] = true
        rw [inV_wds]
        exact decide_eq_true z)
      have sx := Same.upd (o := HO.tup [V.str "loose", V.str "kept", V.str "make", V.str "watch", V.str "hold"]) htp
      generalize upd H7 tp (HO.tup [V.str "loose", V.str "kept", V.str "make", V.str "watch", V.str "hold"]) = H8 at sx
      have t8 := t7.same sx
      refine ⟨_, rfl, _, rfl, v, p, x, false, rfl, t8, gp, fx, hx, fun Ha sa => ⟨true, rfl, iteF ?_⟩⟩
      refine ⟨_, rfl, _, rfl, v, p, x, true, rfl, t8.same sa, gp, fx, hx, fun Hb sb => ⟨true, rfl, iteF (A := _) ?_⟩⟩
      have S8 := S7.trans (sx.trans (sa.trans sb))
      refine ⟨_, rfl, _, rfl, a, cs, rfl, (s1.trans S8).seq ha, hcs, fun v' H9 s9 t9 => ?_⟩
      rw [hp] at t9
      refine ⟨dPast p, dPast p, (t1.same ((S8).trans s9)).dt, t9.dt, lay.2.2, lay.2.2, ?_⟩
      rw [SeqAt.eqv_refl (dPast p) lay.1]
      exact q _
end
theorem all_mk {l : PySem.W.OpenLaw} {w : World} {K : PySem.W.Frag} {h : Heap} {mg : Str → Option Value} {fa : Addr} (X : K.In h) (G : h.Ns mainGlobals mg) (hfa : mg "law" = some (.ref fa))
    {ec0 : Addr} (e0 : PySem.W.nsIn K mainGlobals "SkewError" = some (some (.ref ec0)))
    {ec1 : Addr} (e1 : PySem.W.nsIn K mainGlobals "NoLevel" = some (some (.ref ec1)))
    {ec2 : Addr} (e2 : PySem.W.nsIn K mainGlobals "Loose" = some (some (.ref ec2)))
    {ec3 : Addr} (e3 : PySem.W.nsIn K mainGlobals "Kept" = some (some (.ref ec3)))
    {ec4 : Addr} (e4 : PySem.W.nsIn K mainGlobals "Make" = some (some (.ref ec4)))
    {ec5 : Addr} (e5 : PySem.W.nsIn K mainGlobals "Watch" = some (some (.ref ec5)))
    {ec6 : Addr} (e6 : PySem.W.nsIn K mainGlobals "Hold" = some (some (.ref ec6)))
    {ec7 : Addr} (e7 : PySem.W.nsIn K mainGlobals "NoHistory" = some (some (.ref ec7)))
    {f0 : Addr} {od0 an0 : Option Addr} {sl0 : Array (Option Value)} {oc0 kV0 dc0 pm0 cd0 ct0 : Value}
    (a0 : PySem.W.findIn K (.ref ec2) "word" = some (some (.ref f0))) (l0 : K.lookup f0 = some ⟨oc0, od0, .func (PySem.W.fnOf "word" "Loose.word" (defArgs s_Looseword) (defBody s_Looseword) (defScope s_Looseword) .none kV0 dc0 pm0 an0 cd0 ct0), sl0⟩) (c0 : PySem.W.codeIn K cd0 "Loose.word" = true) (k0 : PySem.W.keepIn K (.ref f0) = true)
    {f1 : Addr} {od1 an1 : Option Addr} {sl1 : Array (Option Value)} {oc1 kV1 dc1 pm1 cd1 ct1 : Value}
    (a1 : PySem.W.findIn K (.ref ec2) "spots" = some (some (.ref f1))) (l1 : K.lookup f1 = some ⟨oc1, od1, .func (PySem.W.fnOf "spots" "Loose.spots" (defArgs s_Loosespots) (defBody s_Loosespots) (defScope s_Loosespots) .none kV1 dc1 pm1 an1 cd1 ct1), sl1⟩) (c1 : PySem.W.codeIn K cd1 "Loose.spots" = true) (k1 : PySem.W.keepIn K (.ref f1) = true)
    {f2 : Addr} {od2 an2 : Option Addr} {sl2 : Array (Option Value)} {oc2 kV2 dc2 pm2 cd2 ct2 : Value}
    (a2 : PySem.W.findIn K (.ref ec3) "word" = some (some (.ref f2))) (l2 : K.lookup f2 = some ⟨oc2, od2, .func (PySem.W.fnOf "word" "Kept.word" (defArgs s_Keptword) (defBody s_Keptword) (defScope s_Keptword) .none kV2 dc2 pm2 an2 cd2 ct2), sl2⟩) (c2 : PySem.W.codeIn K cd2 "Kept.word" = true) (k2 : PySem.W.keepIn K (.ref f2) = true)
    {f3 : Addr} {od3 an3 : Option Addr} {sl3 : Array (Option Value)} {oc3 kV3 dc3 pm3 cd3 ct3 : Value}
    (a3 : PySem.W.findIn K (.ref ec3) "spots" = some (some (.ref f3))) (l3 : K.lookup f3 = some ⟨oc3, od3, .func (PySem.W.fnOf "spots" "Kept.spots" (defArgs s_Keptspots) (defBody s_Keptspots) (defScope s_Keptspots) .none kV3 dc3 pm3 an3 cd3 ct3), sl3⟩) (c3 : PySem.W.codeIn K cd3 "Kept.spots" = true) (k3 : PySem.W.keepIn K (.ref f3) = true)
    {f4 : Addr} {od4 an4 : Option Addr} {sl4 : Array (Option Value)} {oc4 kV4 dc4 pm4 cd4 ct4 : Value}
    (a4 : PySem.W.findIn K (.ref ec4) "word" = some (some (.ref f4))) (l4 : K.lookup f4 = some ⟨oc4, od4, .func (PySem.W.fnOf "word" "Make.word" (defArgs s_Makeword) (defBody s_Makeword) (defScope s_Makeword) .none kV4 dc4 pm4 an4 cd4 ct4), sl4⟩) (c4 : PySem.W.codeIn K cd4 "Make.word" = true) (k4 : PySem.W.keepIn K (.ref f4) = true)
    {f5 : Addr} {od5 an5 : Option Addr} {sl5 : Array (Option Value)} {oc5 kV5 dc5 pm5 cd5 ct5 : Value}
    (a5 : PySem.W.findIn K (.ref ec4) "spots" = some (some (.ref f5))) (l5 : K.lookup f5 = some ⟨oc5, od5, .func (PySem.W.fnOf "spots" "Make.spots" (defArgs s_Makespots) (defBody s_Makespots) (defScope s_Makespots) .none kV5 dc5 pm5 an5 cd5 ct5), sl5⟩) (c5 : PySem.W.codeIn K cd5 "Make.spots" = true) (k5 : PySem.W.keepIn K (.ref f5) = true)
    {f6 : Addr} {od6 an6 : Option Addr} {sl6 : Array (Option Value)} {oc6 kV6 dc6 pm6 cd6 ct6 : Value}
    (a6 : PySem.W.findIn K (.ref ec5) "word" = some (some (.ref f6))) (l6 : K.lookup f6 = some ⟨oc6, od6, .func (PySem.W.fnOf "word" "Watch.word" (defArgs s_Watchword) (defBody s_Watchword) (defScope s_Watchword) .none kV6 dc6 pm6 an6 cd6 ct6), sl6⟩) (c6 : PySem.W.codeIn K cd6 "Watch.word" = true) (k6 : PySem.W.keepIn K (.ref f6) = true)
    {f7 : Addr} {od7 an7 : Option Addr} {sl7 : Array (Option Value)} {oc7 kV7 dc7 pm7 cd7 ct7 : Value}
    (a7 : PySem.W.findIn K (.ref ec5) "spots" = some (some (.ref f7))) (l7 : K.lookup f7 = some ⟨oc7, od7, .func (PySem.W.fnOf "spots" "Watch.spots" (defArgs s_Watchspots) (defBody s_Watchspots) (defScope s_Watchspots) .none kV7 dc7 pm7 an7 cd7 ct7), sl7⟩) (c7 : PySem.W.codeIn K cd7 "Watch.spots" = true) (k7 : PySem.W.keepIn K (.ref f7) = true)
    {f8 : Addr} {od8 an8 : Option Addr} {sl8 : Array (Option Value)} {oc8 kV8 dc8 pm8 cd8 ct8 : Value}
    (a8 : PySem.W.findIn K (.ref ec6) "word" = some (some (.ref f8))) (l8 : K.lookup f8 = some ⟨oc8, od8, .func (PySem.W.fnOf "word" "Hold.word" (defArgs s_Holdword) (defBody s_Holdword) (defScope s_Holdword) .none kV8 dc8 pm8 an8 cd8 ct8), sl8⟩) (c8 : PySem.W.codeIn K cd8 "Hold.word" = true) (k8 : PySem.W.keepIn K (.ref f8) = true)
    {f9 : Addr} {od9 an9 : Option Addr} {sl9 : Array (Option Value)} {oc9 kV9 dc9 pm9 cd9 ct9 : Value}
    (a9 : PySem.W.findIn K (.ref ec6) "spots" = some (some (.ref f9))) (l9 : K.lookup f9 = some ⟨oc9, od9, .func (PySem.W.fnOf "spots" "Hold.spots" (defArgs s_Holdspots) (defBody s_Holdspots) (defScope s_Holdspots) .none kV9 dc9 pm9 an9 cd9 ct9), sl9⟩) (c9 : PySem.W.codeIn K cd9 "Hold.spots" = true) (k9 : PySem.W.keepIn K (.ref f9) = true)
    {f10 : Addr} {od10 an10 : Option Addr} {sl10 : Array (Option Value)} {oc10 kV10 dc10 pm10 cd10 ct10 : Value}
    (a10 : PySem.W.nsIn K mainGlobals "level_of" = some (some (.ref f10))) (l10 : K.lookup f10 = some ⟨oc10, od10, .func (PySem.W.fnOf "level_of" "level_of" (defArgs s_levelof) (defBody s_levelof) (defScope s_levelof) .none kV10 dc10 pm10 an10 cd10 ct10), sl10⟩) (c10 : PySem.W.codeIn K cd10 "level_of" = true) (k10 : PySem.W.keepIn K (.ref f10) = true)
    {f11 : Addr} {od11 an11 : Option Addr} {sl11 : Array (Option Value)} {oc11 kV11 dc11 pm11 cd11 ct11 : Value}
    (a11 : PySem.W.nsIn K mainGlobals "levels_of" = some (some (.ref f11))) (l11 : K.lookup f11 = some ⟨oc11, od11, .func (PySem.W.fnOf "levels_of" "levels_of" (defArgs s_levelsof) (defBody s_levelsof) (defScope s_levelsof) .none kV11 dc11 pm11 an11 cd11 ct11), sl11⟩) (c11 : PySem.W.codeIn K cd11 "levels_of" = true) (k11 : PySem.W.keepIn K (.ref f11) = true)
    {f12 : Addr} {od12 an12 : Option Addr} {sl12 : Array (Option Value)} {oc12 kV12 dc12 pm12 cd12 ct12 : Value}
    (a12 : PySem.W.nsIn K mainGlobals "spots_of" = some (some (.ref f12))) (l12 : K.lookup f12 = some ⟨oc12, od12, .func (PySem.W.fnOf "spots_of" "spots_of" (defArgs s_spotsof) (defBody s_spotsof) (defScope s_spotsof) .none kV12 dc12 pm12 an12 cd12 ct12), sl12⟩) (c12 : PySem.W.codeIn K cd12 "spots_of" = true) (k12 : PySem.W.keepIn K (.ref f12) = true)
    {f13 : Addr} {od13 an13 : Option Addr} {sl13 : Array (Option Value)} {oc13 kV13 dc13 pm13 cd13 ct13 : Value} {dt13 : Addr} {dod13 : Option Addr} {dsl13 : Array (Option Value)} {dn13 : Nat}
    (a13 : PySem.W.nsIn K mainGlobals "spots" = some (some (.ref f13))) (l13 : K.lookup f13 = some ⟨oc13, od13, .func (PySem.W.fnOf "spots" "spots" (defArgs s_spots) (defBody s_spots) (defScope s_spots) (.ref dt13) kV13 dc13 pm13 an13 cd13 ct13), sl13⟩) (c13 : PySem.W.codeIn K cd13 "spots" = true) (k13 : PySem.W.keepIn K (.ref f13) = true)
    {f14 : Addr} {od14 an14 : Option Addr} {sl14 : Array (Option Value)} {oc14 kV14 dc14 pm14 cd14 ct14 : Value} {dt14 : Addr} {dod14 : Option Addr} {dsl14 : Array (Option Value)} {dn14 : Nat}
    (a14 : PySem.W.nsIn K mainGlobals "edges" = some (some (.ref f14))) (l14 : K.lookup f14 = some ⟨oc14, od14, .func (PySem.W.fnOf "edges" "edges" (defArgs s_edges) (defBody s_edges) (defScope s_edges) (.ref dt14) kV14 dc14 pm14 an14 cd14 ct14), sl14⟩) (c14 : PySem.W.codeIn K cd14 "edges" = true) (k14 : PySem.W.keepIn K (.ref f14) = true)
    {f15 : Addr} {od15 an15 : Option Addr} {sl15 : Array (Option Value)} {oc15 kV15 dc15 pm15 cd15 ct15 : Value}
    (a15 : PySem.W.nsIn K mainGlobals "_law_cell_at" = some (some (.ref f15))) (l15 : K.lookup f15 = some ⟨oc15, od15, .func (PySem.W.fnOf "_law_cell_at" "_law_cell_at" (defArgs s_Lcellat) (defBody s_Lcellat) (defScope s_Lcellat) .none kV15 dc15 pm15 an15 cd15 ct15), sl15⟩) (c15 : PySem.W.codeIn K cd15 "_law_cell_at" = true) (k15 : PySem.W.keepIn K (.ref f15) = true)
    {f16 : Addr} {od16 an16 : Option Addr} {sl16 : Array (Option Value)} {oc16 kV16 dc16 pm16 cd16 ct16 : Value}
    (a16 : PySem.W.nsIn K mainGlobals "_law_whole" = some (some (.ref f16))) (l16 : K.lookup f16 = some ⟨oc16, od16, .func (PySem.W.fnOf "_law_whole" "_law_whole" (defArgs s_Lwhole) (defBody s_Lwhole) (defScope s_Lwhole) .none kV16 dc16 pm16 an16 cd16 ct16), sl16⟩) (c16 : PySem.W.codeIn K cd16 "_law_whole" = true) (k16 : PySem.W.keepIn K (.ref f16) = true)
    {f17 : Addr} {od17 an17 : Option Addr} {sl17 : Array (Option Value)} {oc17 kV17 dc17 pm17 cd17 ct17 : Value}
    (a17 : PySem.W.nsIn K mainGlobals "_law_stream" = some (some (.ref f17))) (l17 : K.lookup f17 = some ⟨oc17, od17, .func (PySem.W.fnOf "_law_stream" "_law_stream" (defArgs s_Lstream) (defBody s_Lstream) (defScope s_Lstream) .none kV17 dc17 pm17 an17 cd17 ct17), sl17⟩) (c17 : PySem.W.codeIn K cd17 "_law_stream" = true) (k17 : PySem.W.keepIn K (.ref f17) = true)
    {f18 : Addr} {od18 an18 : Option Addr} {sl18 : Array (Option Value)} {oc18 kV18 dc18 pm18 cd18 ct18 : Value}
    (a18 : PySem.W.nsIn K mainGlobals "_law_keys" = some (some (.ref f18))) (l18 : K.lookup f18 = some ⟨oc18, od18, .func (PySem.W.fnOf "_law_keys" "_law_keys" (defArgs s_Lkeys) (defBody s_Lkeys) (defScope s_Lkeys) .none kV18 dc18 pm18 an18 cd18 ct18), sl18⟩) (c18 : PySem.W.codeIn K cd18 "_law_keys" = true) (k18 : PySem.W.keepIn K (.ref f18) = true)
    {f19 : Addr} {od19 an19 : Option Addr} {sl19 : Array (Option Value)} {oc19 kV19 dc19 pm19 cd19 ct19 : Value}
    (a19 : PySem.W.nsIn K mainGlobals "_law_times" = some (some (.ref f19))) (l19 : K.lookup f19 = some ⟨oc19, od19, .func (PySem.W.fnOf "_law_times" "_law_times" (defArgs s_Ltimes) (defBody s_Ltimes) (defScope s_Ltimes) .none kV19 dc19 pm19 an19 cd19 ct19), sl19⟩) (c19 : PySem.W.codeIn K cd19 "_law_times" = true) (k19 : PySem.W.keepIn K (.ref f19) = true)
    {f20 : Addr} {od20 an20 : Option Addr} {sl20 : Array (Option Value)} {oc20 kV20 dc20 pm20 cd20 ct20 : Value}
    (a20 : PySem.W.nsIn K mainGlobals "_law_drawn" = some (some (.ref f20))) (l20 : K.lookup f20 = some ⟨oc20, od20, .func (PySem.W.fnOf "_law_drawn" "_law_drawn" (defArgs s_Ldrawn) (defBody s_Ldrawn) (defScope s_Ldrawn) .none kV20 dc20 pm20 an20 cd20 ct20), sl20⟩) (c20 : PySem.W.codeIn K cd20 "_law_drawn" = true) (k20 : PySem.W.keepIn K (.ref f20) = true)
    {f21 : Addr} {od21 an21 : Option Addr} {sl21 : Array (Option Value)} {oc21 kV21 dc21 pm21 cd21 ct21 : Value}
    (a21 : PySem.W.nsIn K mainGlobals "_law_source" = some (some (.ref f21))) (l21 : K.lookup f21 = some ⟨oc21, od21, .func (PySem.W.fnOf "_law_source" "_law_source" (defArgs s_Lsource) (defBody s_Lsource) (defScope s_Lsource) .none kV21 dc21 pm21 an21 cd21 ct21), sl21⟩) (c21 : PySem.W.codeIn K cd21 "_law_source" = true) (k21 : PySem.W.keepIn K (.ref f21) = true)
    {f22 : Addr} {od22 an22 : Option Addr} {sl22 : Array (Option Value)} {oc22 kV22 dc22 pm22 cd22 ct22 : Value}
    (a22 : PySem.W.nsIn K mainGlobals "_law_spoiled" = some (some (.ref f22))) (l22 : K.lookup f22 = some ⟨oc22, od22, .func (PySem.W.fnOf "_law_spoiled" "_law_spoiled" (defArgs s_Lspoiled) (defBody s_Lspoiled) (defScope s_Lspoiled) .none kV22 dc22 pm22 an22 cd22 ct22), sl22⟩) (c22 : PySem.W.codeIn K cd22 "_law_spoiled" = true) (k22 : PySem.W.keepIn K (.ref f22) = true)
    {f23 : Addr} {od23 an23 : Option Addr} {sl23 : Array (Option Value)} {oc23 kV23 dc23 pm23 cd23 ct23 : Value}
    (a23 : PySem.W.nsIn K mainGlobals "_law_tale" = some (some (.ref f23))) (l23 : K.lookup f23 = some ⟨oc23, od23, .func (PySem.W.fnOf "_law_tale" "_law_tale" (defArgs s_Ltale) (defBody s_Ltale) (defScope s_Ltale) .none kV23 dc23 pm23 an23 cd23 ct23), sl23⟩) (c23 : PySem.W.codeIn K cd23 "_law_tale" = true) (k23 : PySem.W.keepIn K (.ref f23) = true)
    {f24 : Addr} {od24 an24 : Option Addr} {sl24 : Array (Option Value)} {oc24 kV24 dc24 pm24 cd24 ct24 : Value}
    (a24 : PySem.W.nsIn K mainGlobals "_law_longer" = some (some (.ref f24))) (l24 : K.lookup f24 = some ⟨oc24, od24, .func (PySem.W.fnOf "_law_longer" "_law_longer" (defArgs s_Llonger) (defBody s_Llonger) (defScope s_Llonger) .none kV24 dc24 pm24 an24 cd24 ct24), sl24⟩) (c24 : PySem.W.codeIn K cd24 "_law_longer" = true) (k24 : PySem.W.keepIn K (.ref f24) = true)
    {f25 : Addr} {od25 an25 : Option Addr} {sl25 : Array (Option Value)} {oc25 kV25 dc25 pm25 cd25 ct25 : Value}
    (a25 : PySem.W.nsIn K mainGlobals "_law_many" = some (some (.ref f25))) (l25 : K.lookup f25 = some ⟨oc25, od25, .func (PySem.W.fnOf "_law_many" "_law_many" (defArgs s_Lmany) (defBody s_Lmany) (defScope s_Lmany) .none kV25 dc25 pm25 an25 cd25 ct25), sl25⟩) (c25 : PySem.W.codeIn K cd25 "_law_many" = true) (k25 : PySem.W.keepIn K (.ref f25) = true)
    {f26 : Addr} {od26 an26 : Option Addr} {sl26 : Array (Option Value)} {oc26 kV26 dc26 pm26 cd26 ct26 : Value}
    (a26 : PySem.W.nsIn K mainGlobals "_law_word" = some (some (.ref f26))) (l26 : K.lookup f26 = some ⟨oc26, od26, .func (PySem.W.fnOf "_law_word" "_law_word" (defArgs s_Lword) (defBody s_Lword) (defScope s_Lword) .none kV26 dc26 pm26 an26 cd26 ct26), sl26⟩) (c26 : PySem.W.codeIn K cd26 "_law_word" = true) (k26 : PySem.W.keepIn K (.ref f26) = true)
    {f27 : Addr} {od27 an27 : Option Addr} {sl27 : Array (Option Value)} {oc27 kV27 dc27 pm27 cd27 ct27 : Value}
    (a27 : PySem.W.nsIn K mainGlobals "_law_odd" = some (some (.ref f27))) (l27 : K.lookup f27 = some ⟨oc27, od27, .func (PySem.W.fnOf "_law_odd" "_law_odd" (defArgs s_Lodd) (defBody s_Lodd) (defScope s_Lodd) .none kV27 dc27 pm27 an27 cd27 ct27), sl27⟩) (c27 : PySem.W.codeIn K cd27 "_law_odd" = true) (k27 : PySem.W.keepIn K (.ref f27) = true)
    {f28 : Addr} {od28 an28 : Option Addr} {sl28 : Array (Option Value)} {oc28 kV28 dc28 pm28 cd28 ct28 : Value}
    (a28 : PySem.W.nsIn K mainGlobals "_law_due" = some (some (.ref f28))) (l28 : K.lookup f28 = some ⟨oc28, od28, .func (PySem.W.fnOf "_law_due" "_law_due" (defArgs s_Ldue) (defBody s_Ldue) (defScope s_Ldue) .none kV28 dc28 pm28 an28 cd28 ct28), sl28⟩) (c28 : PySem.W.codeIn K cd28 "_law_due" = true) (k28 : PySem.W.keepIn K (.ref f28) = true)
    {f29 : Addr} {od29 an29 : Option Addr} {sl29 : Array (Option Value)} {oc29 kV29 dc29 pm29 cd29 ct29 : Value}
    (a29 : PySem.W.nsIn K mainGlobals "_law_alike" = some (some (.ref f29))) (l29 : K.lookup f29 = some ⟨oc29, od29, .func (PySem.W.fnOf "_law_alike" "_law_alike" (defArgs s_Lalike) (defBody s_Lalike) (defScope s_Lalike) .none kV29 dc29 pm29 an29 cd29 ct29), sl29⟩) (c29 : PySem.W.codeIn K cd29 "_law_alike" = true) (k29 : PySem.W.keepIn K (.ref f29) = true)
    {f30 : Addr} {od30 an30 : Option Addr} {sl30 : Array (Option Value)} {oc30 kV30 dc30 pm30 cd30 ct30 : Value}
    (a30 : PySem.W.nsIn K mainGlobals "_law_refused" = some (some (.ref f30))) (l30 : K.lookup f30 = some ⟨oc30, od30, .func (PySem.W.fnOf "_law_refused" "_law_refused" (defArgs s_Lrefused) (defBody s_Lrefused) (defScope s_Lrefused) .none kV30 dc30 pm30 an30 cd30 ct30), sl30⟩) (c30 : PySem.W.codeIn K cd30 "_law_refused" = true) (k30 : PySem.W.keepIn K (.ref f30) = true)
    {f31 : Addr} {od31 an31 : Option Addr} {sl31 : Array (Option Value)} {oc31 kV31 dc31 pm31 cd31 ct31 : Value}
    (a31 : PySem.W.nsIn K mainGlobals "law" = some (some (.ref f31))) (l31 : K.lookup f31 = some ⟨oc31, od31, .func (PySem.W.fnOf "law" "law" (defArgs s_law) (defBody s_law) (defScope s_law) .none kV31 dc31 pm31 an31 cd31 ct31), sl31⟩) (c31 : PySem.W.codeIn K cd31 "law" = true) (k31 : PySem.W.keepIn K (.ref f31) = true)
    (x0 : PySem.W.excIn K ec1 [.type "ValueError", .type "Exception", .type "BaseException", .type "object"] "ValueError.__new__" = true)
    (dl13 : K.lookup dt13 = some ⟨.type "tuple", dod13, .seq #[.none] dn13, dsl13⟩)
    (dl14 : K.lookup dt14 = some ⟨.type "tuple", dod14, .seq #[.none] dn14, dsl14⟩)
    (kxNoLevel_it : PySem.W.isClsIn K ec1 = true)
    (kxNoLevel_ga : PySem.W.findIn K (.ref ec1) "__getattribute__" = some (some (.builtin "BaseException.__getattribute__")))
    (kxNoLevel_gt : PySem.W.findIn K (.ref ec1) "__getattr__" = some none)
    (kxNoLevel_cl : PySem.W.findIn K (.ref ec1) "__class__" = some (some (.builtin "object.__class__")))
    (kxNoLevel_mB : PySem.W.mroIn K ec1 (.type "BaseException") = some true)
    (kxNoLevel_mO : PySem.W.mroIn K ec1 (.type "object") = some true)
    (moLoose_m : PySem.W.makesIn K ec2 = true)
    (moLoose_i : PySem.W.findIn K (.ref ec2) "__init__" = some (some (.builtin "object.__init__")))
    (moLoose_k : PySem.W.keepIn K (.ref ec2) = true)
    (clLoose_pg : PySem.W.plainGet K ec2 Str.empty = true)
    (clLoose_hd : PySem.W.hasDictIn K ec2 = true)
    (clLoose_po : PySem.W.plainOver K ec2 = true)
    (clLoose_sa : PySem.W.findIn K (.ref ec2) "__setattr__" = some (some (.builtin "object.__setattr__")))
    (tcLoose : PySem.W.findIn K (.ref ec2) "__class__" = some (some (.builtin "object.__class__")))
    (tmLoose : PySem.W.mroIn K ec2 (.type "object") = some true)
    (moKept_m : PySem.W.makesIn K ec3 = true)
    (moKept_i : PySem.W.findIn K (.ref ec3) "__init__" = some (some (.builtin "object.__init__")))
    (moKept_k : PySem.W.keepIn K (.ref ec3) = true)
    (clKept_pg : PySem.W.plainGet K ec3 Str.empty = true)
    (clKept_hd : PySem.W.hasDictIn K ec3 = true)
    (clKept_po : PySem.W.plainOver K ec3 = true)
    (clKept_sa : PySem.W.findIn K (.ref ec3) "__setattr__" = some (some (.builtin "object.__setattr__")))
    (tcKept : PySem.W.findIn K (.ref ec3) "__class__" = some (some (.builtin "object.__class__")))
    (tmKept : PySem.W.mroIn K ec3 (.type "object") = some true)
    (moMake_m : PySem.W.makesIn K ec4 = true)
    (moMake_i : PySem.W.findIn K (.ref ec4) "__init__" = some (some (.builtin "object.__init__")))
    (moMake_k : PySem.W.keepIn K (.ref ec4) = true)
    (clMake_pg : PySem.W.plainGet K ec4 Str.empty = true)
    (clMake_hd : PySem.W.hasDictIn K ec4 = true)
    (clMake_po : PySem.W.plainOver K ec4 = true)
    (clMake_sa : PySem.W.findIn K (.ref ec4) "__setattr__" = some (some (.builtin "object.__setattr__")))
    (tcMake : PySem.W.findIn K (.ref ec4) "__class__" = some (some (.builtin "object.__class__")))
    (tmMake : PySem.W.mroIn K ec4 (.type "object") = some true)
    (moWatch_m : PySem.W.makesIn K ec5 = true)
    (moWatch_i : PySem.W.findIn K (.ref ec5) "__init__" = some (some (.builtin "object.__init__")))
    (moWatch_k : PySem.W.keepIn K (.ref ec5) = true)
    (clWatch_pg : PySem.W.plainGet K ec5 Str.empty = true)
    (clWatch_hd : PySem.W.hasDictIn K ec5 = true)
    (clWatch_po : PySem.W.plainOver K ec5 = true)
    (clWatch_sa : PySem.W.findIn K (.ref ec5) "__setattr__" = some (some (.builtin "object.__setattr__")))
    (tcWatch : PySem.W.findIn K (.ref ec5) "__class__" = some (some (.builtin "object.__class__")))
    (tmWatch : PySem.W.mroIn K ec5 (.type "object") = some true)
    (moHold_m : PySem.W.makesIn K ec6 = true)
    (moHold_i : PySem.W.findIn K (.ref ec6) "__init__" = some (some (.builtin "object.__init__")))
    (moHold_k : PySem.W.keepIn K (.ref ec6) = true)
    (clHold_pg : PySem.W.plainGet K ec6 Str.empty = true)
    (clHold_hd : PySem.W.hasDictIn K ec6 = true)
    (clHold_po : PySem.W.plainOver K ec6 = true)
    (clHold_sa : PySem.W.findIn K (.ref ec6) "__setattr__" = some (some (.builtin "object.__setattr__")))
    (tcHold : PySem.W.findIn K (.ref ec6) "__class__" = some (some (.builtin "object.__class__")))
    (tmHold : PySem.W.mroIn K ec6 (.type "object") = some true)
    (mf0 : PySem.W.isFn K (.ref f0) = true)
    (mf1 : PySem.W.isFn K (.ref f1) = true)
    (mf2 : PySem.W.isFn K (.ref f2) = true)
    (mf3 : PySem.W.isFn K (.ref f3) = true)
    (mf4 : PySem.W.isFn K (.ref f4) = true)
    (mf5 : PySem.W.isFn K (.ref f5) = true)
    (mf6 : PySem.W.isFn K (.ref f6) = true)
    (mf7 : PySem.W.isFn K (.ref f7) = true)
    (mf8 : PySem.W.isFn K (.ref f8) = true)
    (mf9 : PySem.W.isFn K (.ref f9) = true)
    (tgx : PySem.W.specialIn K (.builtin "object.__class__") "__get__" = some (some (.builtin "getset_descriptor.__get__")))
    (ttx : PySem.W.takesIn K (.builtin "object.__class__") = some true)
    (ksNoLevel_ty : PySem.W.typeIn K (.ref ec1) = some (.type "type"))
    (ksNoLevel_it : PySem.W.isClsIn K ec1 = true)
    (ksNoLevel_mB : PySem.W.mroIn K ec1 (.type "BaseException") = some true)
    (kvNoLevel : PySem.W.subIn K (.ref ec1) (.type "ValueError") = some true)
    (kpNoLevelSkewError_it : PySem.W.isClsIn K ec0 = true)
    (kpNoLevelSkewError_ty : PySem.W.typeIn K (.ref ec0) = some (.type "type"))
    (kpNoLevelSkewError_se : PySem.W.subIn K (.ref ec1) (.ref ec1) = some true)
    (kpNoLevelSkewError_su : PySem.W.subIn K (.ref ec1) (.ref ec0) = some true)
    (kpNoLevelNoHistory_it : PySem.W.isClsIn K ec7 = true)
    (kpNoLevelNoHistory_ty : PySem.W.typeIn K (.ref ec7) = some (.type "type"))
    (kpNoLevelNoHistory_se : PySem.W.subIn K (.ref ec1) (.ref ec1) = some true)
    (kpNoLevelNoHistory_su : PySem.W.subIn K (.ref ec1) (.ref ec7) = some false)
    (kpNoLevelNoLevel_it : PySem.W.isClsIn K ec1 = true)
    (kpNoLevelNoLevel_ty : PySem.W.typeIn K (.ref ec1) = some (.type "type"))
    (kpNoLevelNoLevel_se : PySem.W.subIn K (.ref ec1) (.ref ec1) = some true)
    (kpNoLevelNoLevel_su : PySem.W.subIn K (.ref ec1) (.ref ec1) = some true)
    (z_ValueError : PySem.W.nsIn K mainGlobals "ValueError" = some none)
    (z_bool : PySem.W.nsIn K mainGlobals "bool" = some none)
    (z_dict : PySem.W.nsIn K mainGlobals "dict" = some none)
    (z_int : PySem.W.nsIn K mainGlobals "int" = some none)
    (z_isinstance : PySem.W.nsIn K mainGlobals "isinstance" = some none)
    (z_len : PySem.W.nsIn K mainGlobals "len" = some none)
    (z_list : PySem.W.nsIn K mainGlobals "list" = some none)
    (z_range : PySem.W.nsIn K mainGlobals "range" = some none)
    (z_set : PySem.W.nsIn K mainGlobals "set" = some none)
    (z_sorted : PySem.W.nsIn K mainGlobals "sorted" = some none)
    (z_tuple : PySem.W.nsIn K mainGlobals "tuple" = some none)
    : ∃ fd : FuncData, (∀ (s : Shared) (v : Value), BindsTo s fd ⟨[v], []⟩ [("_law_script", v)]) ∧ ∀ base : Heap, K.In base → base.Ns mainGlobals mg → FnOk l.prog w K mg base CX0 8 fa fd ["_law_script"] (spLaw K) := by
  have e := hfa.symm.trans (PySem.W.mg_of X G a31)
  cases e
  let T : Tx K mg := {
    f_Looseword := f0
    d_Looseword := _
    F_Looseword := fun_mk (st := s_Looseword) l0 c0 k0
    b_Looseword := (fun_mk (st := s_Looseword) l0 c0 k0).binds (ps := ["self"]) fun _ _ _ _ _ _ us hl => by obtain ⟨_, rfl⟩ := My.us1 hl; rfl
    f_Loosespots := f1
    d_Loosespots := _
    F_Loosespots := fun_mk (st := s_Loosespots) l1 c1 k1
    b_Loosespots := (fun_mk (st := s_Loosespots) l1 c1 k1).binds (ps := ["self", "looks"]) fun _ _ _ _ _ _ us hl => by obtain ⟨_, _, rfl⟩ := My.us2 hl; rfl
    f_Keptword := f2
    d_Keptword := _
    F_Keptword := fun_mk (st := s_Keptword) l2 c2 k2
    b_Keptword := (fun_mk (st := s_Keptword) l2 c2 k2).binds (ps := ["self"]) fun _ _ _ _ _ _ us hl => by obtain ⟨_, rfl⟩ := My.us1 hl; rfl
    f_Keptspots := f3
    d_Keptspots := _
    F_Keptspots := fun_mk (st := s_Keptspots) l3 c3 k3
    b_Keptspots := (fun_mk (st := s_Keptspots) l3 c3 k3).binds (ps := ["self", "looks"]) fun _ _ _ _ _ _ us hl => by obtain ⟨_, _, rfl⟩ := My.us2 hl; rfl
    f_Makeword := f4
    d_Makeword := _
    F_Makeword := fun_mk (st := s_Makeword) l4 c4 k4
    b_Makeword := (fun_mk (st := s_Makeword) l4 c4 k4).binds (ps := ["self"]) fun _ _ _ _ _ _ us hl => by obtain ⟨_, rfl⟩ := My.us1 hl; rfl
    f_Makespots := f5
    d_Makespots := _
    F_Makespots := fun_mk (st := s_Makespots) l5 c5 k5
    b_Makespots := (fun_mk (st := s_Makespots) l5 c5 k5).binds (ps := ["self", "looks"]) fun _ _ _ _ _ _ us hl => by obtain ⟨_, _, rfl⟩ := My.us2 hl; rfl
    f_Watchword := f6
    d_Watchword := _
    F_Watchword := fun_mk (st := s_Watchword) l6 c6 k6
    b_Watchword := (fun_mk (st := s_Watchword) l6 c6 k6).binds (ps := ["self"]) fun _ _ _ _ _ _ us hl => by obtain ⟨_, rfl⟩ := My.us1 hl; rfl
    f_Watchspots := f7
    d_Watchspots := _
    F_Watchspots := fun_mk (st := s_Watchspots) l7 c7 k7
    b_Watchspots := (fun_mk (st := s_Watchspots) l7 c7 k7).binds (ps := ["self", "looks"]) fun _ _ _ _ _ _ us hl => by obtain ⟨_, _, rfl⟩ := My.us2 hl; rfl
    f_Holdword := f8
    d_Holdword := _
    F_Holdword := fun_mk (st := s_Holdword) l8 c8 k8
    b_Holdword := (fun_mk (st := s_Holdword) l8 c8 k8).binds (ps := ["self"]) fun _ _ _ _ _ _ us hl => by obtain ⟨_, rfl⟩ := My.us1 hl; rfl
    f_Holdspots := f9
    d_Holdspots := _
    F_Holdspots := fun_mk (st := s_Holdspots) l9 c9 k9
    b_Holdspots := (fun_mk (st := s_Holdspots) l9 c9 k9).binds (ps := ["self", "looks"]) fun _ _ _ _ _ _ us hl => by obtain ⟨_, _, rfl⟩ := My.us2 hl; rfl
    f_levelof := f10
    d_levelof := _
    F_levelof := fun_mk (st := s_levelof) l10 c10 k10
    b_levelof := (fun_mk (st := s_levelof) l10 c10 k10).binds (ps := ["word"]) fun _ _ _ _ _ _ us hl => by obtain ⟨_, rfl⟩ := My.us1 hl; rfl
    m_levelof := PySem.W.mg_of X G a10
    f_levelsof := f11
    d_levelsof := _
    F_levelsof := fun_mk (st := s_levelsof) l11 c11 k11
    b_levelsof := (fun_mk (st := s_levelsof) l11 c11 k11).binds (ps := ["past", "word"]) fun _ _ _ _ _ _ us hl => by obtain ⟨_, _, rfl⟩ := My.us2 hl; rfl
    m_levelsof := PySem.W.mg_of X G a11
    f_spotsof := f12
    d_spotsof := _
    F_spotsof := fun_mk (st := s_spotsof) l12 c12 k12
    b_spotsof := (fun_mk (st := s_spotsof) l12 c12 k12).binds (ps := ["deal", "level"]) fun _ _ _ _ _ _ us hl => by obtain ⟨_, _, rfl⟩ := My.us2 hl; rfl
    m_spotsof := PySem.W.mg_of X G a12
    f_spots := f13
    d_spots := _
    F_spots := funD_mk (st := s_spots) l13 c13 k13
    b_spots := fun s us XX hl => by rw [List.append_nil] at hl ⊢; obtain ⟨_, _, rfl⟩ := My.us2 hl; exact binds_dflt rfl dl13 rfl XX ⟨_, rfl, rfl⟩
    bd_spots := fun s us XX hl => by obtain ⟨_, rfl⟩ := My.us1 (us := us) (by simpa using hl); exact binds_dflt rfl dl13 rfl XX ⟨_, rfl, rfl⟩
    m_spots := PySem.W.mg_of X G a13
    f_edges := f14
    d_edges := _
    F_edges := funD_mk (st := s_edges) l14 c14 k14
    b_edges := fun s us XX hl => by rw [List.append_nil] at hl ⊢; obtain ⟨_, _, rfl⟩ := My.us2 hl; exact binds_dflt rfl dl14 rfl XX ⟨_, rfl, rfl⟩
    bd_edges := fun s us XX hl => by obtain ⟨_, rfl⟩ := My.us1 (us := us) (by simpa using hl); exact binds_dflt rfl dl14 rfl XX ⟨_, rfl, rfl⟩
    m_edges := PySem.W.mg_of X G a14
    f_Lcellat := f15
    d_Lcellat := _
    F_Lcellat := fun_mk (st := s_Lcellat) l15 c15 k15
    b_Lcellat := (fun_mk (st := s_Lcellat) l15 c15 k15).binds (ps := ["_law_script", "_law_k"]) fun _ _ _ _ _ _ us hl => by obtain ⟨_, _, rfl⟩ := My.us2 hl; rfl
    m_Lcellat := PySem.W.mg_of X G a15
    f_Lwhole := f16
    d_Lwhole := _
    F_Lwhole := fun_mk (st := s_Lwhole) l16 c16 k16
    b_Lwhole := (fun_mk (st := s_Lwhole) l16 c16 k16).binds (ps := ["_law_found"]) fun _ _ _ _ _ _ us hl => by obtain ⟨_, rfl⟩ := My.us1 hl; rfl
    m_Lwhole := PySem.W.mg_of X G a16
    f_Lstream := f17
    d_Lstream := _
    F_Lstream := fun_mk (st := s_Lstream) l17 c17 k17
    b_Lstream := (fun_mk (st := s_Lstream) l17 c17 k17).binds (ps := ["_law_cell", "_law_many_here"]) fun _ _ _ _ _ _ us hl => by obtain ⟨_, _, rfl⟩ := My.us2 hl; rfl
    m_Lstream := PySem.W.mg_of X G a17
    f_Lkeys := f18
    d_Lkeys := _
    F_Lkeys := fun_mk (st := s_Lkeys) l18 c18 k18
    b_Lkeys := (fun_mk (st := s_Lkeys) l18 c18 k18).binds (ps := ["_law_cell"]) fun _ _ _ _ _ _ us hl => by obtain ⟨_, rfl⟩ := My.us1 hl; rfl
    m_Lkeys := PySem.W.mg_of X G a18
    f_Ltimes := f19
    d_Ltimes := _
    F_Ltimes := fun_mk (st := s_Ltimes) l19 c19 k19
    b_Ltimes := (fun_mk (st := s_Ltimes) l19 c19 k19).binds (ps := ["_law_xs", "_law_end"]) fun _ _ _ _ _ _ us hl => by obtain ⟨_, _, rfl⟩ := My.us2 hl; rfl
    m_Ltimes := PySem.W.mg_of X G a19
    f_Ldrawn := f20
    d_Ldrawn := _
    F_Ldrawn := fun_mk (st := s_Ldrawn) l20 c20 k20
    b_Ldrawn := (fun_mk (st := s_Ldrawn) l20 c20 k20).binds (ps := ["_law_script"]) fun _ _ _ _ _ _ us hl => by obtain ⟨_, rfl⟩ := My.us1 hl; rfl
    m_Ldrawn := PySem.W.mg_of X G a20
    f_Lsource := f21
    d_Lsource := _
    F_Lsource := fun_mk (st := s_Lsource) l21 c21 k21
    b_Lsource := (fun_mk (st := s_Lsource) l21 c21 k21).binds (ps := ["_law_makers", "_law_ends", "_law_number", "_law_time"]) fun _ _ _ _ _ _ us hl => by obtain ⟨_, _, _, _, rfl⟩ := My.us4 hl; rfl
    m_Lsource := PySem.W.mg_of X G a21
    f_Lspoiled := f22
    d_Lspoiled := _
    F_Lspoiled := fun_mk (st := s_Lspoiled) l22 c22 k22
    b_Lspoiled := (fun_mk (st := s_Lspoiled) l22 c22 k22).binds (ps := ["_law_deals", "_law_makes", "_law_cell"]) fun _ _ _ _ _ _ us hl => by obtain ⟨_, _, _, rfl⟩ := My.us3 hl; rfl
    m_Lspoiled := PySem.W.mg_of X G a22
    f_Ltale := f23
    d_Ltale := _
    F_Ltale := fun_mk (st := s_Ltale) l23 c23 k23
    b_Ltale := (fun_mk (st := s_Ltale) l23 c23 k23).binds (ps := ["_law_script"]) fun _ _ _ _ _ _ us hl => by obtain ⟨_, rfl⟩ := My.us1 hl; rfl
    m_Ltale := PySem.W.mg_of X G a23
    f_Llonger := f24
    d_Llonger := _
    F_Llonger := fun_mk (st := s_Llonger) l24 c24 k24
    b_Llonger := (fun_mk (st := s_Llonger) l24 c24 k24).binds (ps := ["_law_script"]) fun _ _ _ _ _ _ us hl => by obtain ⟨_, rfl⟩ := My.us1 hl; rfl
    m_Llonger := PySem.W.mg_of X G a24
    f_Lmany := f25
    d_Lmany := _
    F_Lmany := fun_mk (st := s_Lmany) l25 c25 k25
    b_Lmany := (fun_mk (st := s_Lmany) l25 c25 k25).binds (ps := ["_law_word_here", "_law_looks"]) fun _ _ _ _ _ _ us hl => by obtain ⟨_, _, rfl⟩ := My.us2 hl; rfl
    m_Lmany := PySem.W.mg_of X G a25
    f_Lword := f26
    d_Lword := _
    F_Lword := fun_mk (st := s_Lword) l26 c26 k26
    b_Lword := (fun_mk (st := s_Lword) l26 c26 k26).binds (ps := ["_law_cell"]) fun _ _ _ _ _ _ us hl => by obtain ⟨_, rfl⟩ := My.us1 hl; rfl
    m_Lword := PySem.W.mg_of X G a26
    f_Lodd := f27
    d_Lodd := _
    F_Lodd := fun_mk (st := s_Lodd) l27 c27 k27
    b_Lodd := (fun_mk (st := s_Lodd) l27 c27 k27).binds (ps := ["_law_number"]) fun _ _ _ _ _ _ us hl => by obtain ⟨_, rfl⟩ := My.us1 hl; rfl
    m_Lodd := PySem.W.mg_of X G a27
    f_Ldue := f28
    d_Ldue := _
    F_Ldue := fun_mk (st := s_Ldue) l28 c28 k28
    b_Ldue := (fun_mk (st := s_Ldue) l28 c28 k28).binds (ps := ["_law_tale_here", "_law_word_here"]) fun _ _ _ _ _ _ us hl => by obtain ⟨_, _, rfl⟩ := My.us2 hl; rfl
    m_Ldue := PySem.W.mg_of X G a28
    f_Lalike := f29
    d_Lalike := _
    F_Lalike := fun_mk (st := s_Lalike) l29 c29 k29
    b_Lalike := (fun_mk (st := s_Lalike) l29 c29 k29).binds (ps := ["_law_found", "_law_due_here"]) fun _ _ _ _ _ _ us hl => by obtain ⟨_, _, rfl⟩ := My.us2 hl; rfl
    m_Lalike := PySem.W.mg_of X G a29
    f_Lrefused := f30
    d_Lrefused := _
    F_Lrefused := fun_mk (st := s_Lrefused) l30 c30 k30
    b_Lrefused := (fun_mk (st := s_Lrefused) l30 c30 k30).binds (ps := ["_law_tale_here", "_law_word_here", "_law_of_edges"]) fun _ _ _ _ _ _ us hl => by obtain ⟨_, _, _, rfl⟩ := My.us3 hl; rfl
    m_Lrefused := PySem.W.mg_of X G a30
    f_law := fa
    d_law := _
    F_law := fun_mk (st := s_law) l31 c31 k31
    b_law := (fun_mk (st := s_law) l31 c31 k31).binds (ps := ["_law_script"]) fun _ _ _ _ _ _ us hl => by obtain ⟨_, rfl⟩ := My.us1 hl; rfl
    m_law := PySem.W.mg_of X G a31
    c_SkewError := ec0
    m_SkewError := PySem.W.mg_of X G e0
    c_NoLevel := ec1
    m_NoLevel := PySem.W.mg_of X G e1
    c_Loose := ec2
    m_Loose := PySem.W.mg_of X G e2
    c_Kept := ec3
    m_Kept := PySem.W.mg_of X G e3
    c_Make := ec4
    m_Make := PySem.W.mg_of X G e4
    c_Watch := ec5
    m_Watch := PySem.W.mg_of X G e5
    c_Hold := ec6
    m_Hold := PySem.W.mg_of X G e6
    c_NoHistory := ec7
    m_NoHistory := PySem.W.mg_of X G e7
    x_NoLevel := ⟨PySem.W.mg_of X G e1, x0⟩
    mo_Loose := ⟨moLoose_m, moLoose_i, moLoose_k⟩
    cl_Loose := ⟨clLoose_pg, clLoose_hd, clLoose_po, clLoose_sa⟩
    tc_Loose := tcLoose
    tm_Loose := tmLoose
    me_Loose_word := ⟨a0, mf0, k0⟩
    me_Loose_spots := ⟨a1, mf1, k1⟩
    mo_Kept := ⟨moKept_m, moKept_i, moKept_k⟩
    cl_Kept := ⟨clKept_pg, clKept_hd, clKept_po, clKept_sa⟩
    tc_Kept := tcKept
    tm_Kept := tmKept
    me_Kept_word := ⟨a2, mf2, k2⟩
    me_Kept_spots := ⟨a3, mf3, k3⟩
    mo_Make := ⟨moMake_m, moMake_i, moMake_k⟩
    cl_Make := ⟨clMake_pg, clMake_hd, clMake_po, clMake_sa⟩
    tc_Make := tcMake
    tm_Make := tmMake
    me_Make_word := ⟨a4, mf4, k4⟩
    me_Make_spots := ⟨a5, mf5, k5⟩
    mo_Watch := ⟨moWatch_m, moWatch_i, moWatch_k⟩
    cl_Watch := ⟨clWatch_pg, clWatch_hd, clWatch_po, clWatch_sa⟩
    tc_Watch := tcWatch
    tm_Watch := tmWatch
    me_Watch_word := ⟨a6, mf6, k6⟩
    me_Watch_spots := ⟨a7, mf7, k7⟩
    mo_Hold := ⟨moHold_m, moHold_i, moHold_k⟩
    cl_Hold := ⟨clHold_pg, clHold_hd, clHold_po, clHold_sa⟩
    tc_Hold := tcHold
    tm_Hold := tmHold
    me_Hold_word := ⟨a8, mf8, k8⟩
    me_Hold_spots := ⟨a9, mf9, k9⟩
    tg := tgx
    tt := ttx
    kx_NoLevel := ⟨kxNoLevel_it, kxNoLevel_ga, kxNoLevel_gt, kxNoLevel_cl, kxNoLevel_mB, kxNoLevel_mO⟩
    ks_NoLevel := ⟨PySem.W.mg_of X G e1, ksNoLevel_ty, ksNoLevel_it, ksNoLevel_mB⟩
    kv_NoLevel := kvNoLevel
    kp_NoLevel_SkewError := ⟨kpNoLevelSkewError_it, kpNoLevelSkewError_ty, kpNoLevelSkewError_se, kpNoLevelSkewError_su⟩
    kp_NoLevel_NoHistory := ⟨kpNoLevelNoHistory_it, kpNoLevelNoHistory_ty, kpNoLevelNoHistory_se, kpNoLevelNoHistory_su⟩
    kp_NoLevel_NoLevel := ⟨kpNoLevelNoLevel_it, kpNoLevelNoLevel_ty, kpNoLevelNoLevel_se, kpNoLevelNoLevel_su⟩
    z_ValueError := PySem.W.mg_none_of X G z_ValueError
    z_bool := PySem.W.mg_none_of X G z_bool
    z_dict := PySem.W.mg_none_of X G z_dict
    z_int := PySem.W.mg_none_of X G z_int
    z_isinstance := PySem.W.mg_none_of X G z_isinstance
    z_len := PySem.W.mg_none_of X G z_len
    z_list := PySem.W.mg_none_of X G z_list
    z_range := PySem.W.mg_none_of X G z_range
    z_set := PySem.W.mg_none_of X G z_set
    z_sorted := PySem.W.mg_none_of X G z_sorted
    z_tuple := PySem.W.mg_none_of X G z_tuple }
  exact ⟨PySem.W.fnOf "law" "law" (defArgs s_law) (defBody s_law) (defScope s_law) .none kV31 dc31 pm31 an31 cd31 ct31, fun s v => .of_eq rfl, fun base _ _ => ok_law T⟩
theorem walk {l : PySem.W.OpenLaw} {q : Program} {loose : List Str} {XP : (Str → Option Value) → Heap → Prop} {YP : World → Heap → Prop} {d : DefRec} {K : Params → PySem.W.Frag} (hn : l.most = some 63) (hdf : d.params.defaults = [])
    (hY : ∀ (w : World) (h : Heap), YP w h → (K w.params).In h)
    (F : ∀ (w : World) (mg : Str → Option Value) (fa : Addr) (h : Heap), (K w.params).In h → h.Ns mainGlobals mg → mg d.name = some (.ref fa) →
      ∃ fd : FuncData, (∀ (s : Shared) (u : Value), BindsTo s fd ⟨[u], []⟩ [("_law_script", u)]) ∧ ∀ base : Heap, (K w.params).In base → base.Ns mainGlobals mg → FnOk l.prog w (K w.params) mg base CX0 8 fa fd ["_law_script"] (spLaw (K w.params))) :
    PySem.W.WalkO q loose XP YP l.row.toRowW d [] (fun f vs => PySem.call f vs) :=
  My.walk_ofB (n := 63) (k := 8) (x := "_law_script") (CX := fun _ => CX0) (sp := fun w => spLaw (K w.params)) hn (by decide) hdf ⟨rfl, by decide, by decide⟩ hY F (fun _ _ a ns hl hb _ hS => ⟨a, ns, rfl, hS, hl, hb, fun _ => rfl⟩) fun _ _ _ _ _ z => z
end Lw
noncomputable def PySem.W.Fast.tw3590806708330624363 : Nat := 0
noncomputable def PySem.W.Fast.tw8993170376617062108 : Nat := 0
noncomputable def PySem.W.Fast.tw17225086134008870801 : Nat := 0
noncomputable def PySem.W.Fast.tw15447457458497630690 : Nat := 0
noncomputable def PySem.W.Fast.tw4091741482074188310 : Nat := 0
noncomputable def PySem.W.Fast.tw12800141213066601164 : Nat := 0
noncomputable def PySem.W.Fast.tw6274179779213350329 : Nat := 0
noncomputable def PySem.W.Fast.tw9661402572916543987 : Nat := 0
noncomputable def PySem.W.Fast.tw2896708095771527204 : Nat := 0
noncomputable def PySem.W.Fast.tw5044063925070703802 : Nat := 0
noncomputable def PySem.W.Fast.tw11828894384015604143 : Nat := 0
noncomputable def PySem.W.Fast.tw2696586183575938246 : Nat := 0
noncomputable def PySem.W.Fast.tw2319262242473690286 : Nat := 0
noncomputable def PySem.W.Fast.tw5496639819244828369 : Nat := 0
noncomputable def PySem.W.Fast.tw118159710683151604 : Nat := 0
open PySem PySem.W PyProof.Rows
set_option maxRecDepth 100000 in
set_option maxHeartbeats 0 in
theorem PySem.Challenge.cw_skewhouse_k61_spots_holds : PySem.Challenge.rw_skewhouse_k61_spots.Holds := by
  w_on; o_law; k_head; (case hw => w_witness2)
  k_fill
  refine Lw.walk (l := PySem.Challenge.rw_skewhouse_k61_spots) rfl rfl (fun w h Y => PySem.W.kIn_of Y) ?F
  case F =>
    intro w mg fa h KX G hmg
    refine' Lw.all_mk KX G hmg ?e0 ?e1 ?e2 ?e3 ?e4 ?e5 ?e6 ?e7 ?a0 ?l0 ?c0 ?k0 ?a1 ?l1 ?c1 ?k1 ?a2 ?l2 ?c2 ?k2 ?a3 ?l3 ?c3 ?k3 ?a4 ?l4 ?c4 ?k4 ?a5 ?l5 ?c5 ?k5 ?a6 ?l6 ?c6 ?k6 ?a7 ?l7 ?c7 ?k7 ?a8 ?l8 ?c8 ?k8 ?a9 ?l9 ?c9 ?k9 ?a10 ?l10 ?c10 ?k10 ?a11 ?l11 ?c11 ?k11 ?a12 ?l12 ?c12 ?k12 ?a13 ?l13 ?c13 ?k13 ?a14 ?l14 ?c14 ?k14 ?a15 ?l15 ?c15 ?k15 ?a16 ?l16 ?c16 ?k16 ?a17 ?l17 ?c17 ?k17 ?a18 ?l18 ?c18 ?k18 ?a19 ?l19 ?c19 ?k19 ?a20 ?l20 ?c20 ?k20 ?a21 ?l21 ?c21 ?k21 ?a22 ?l22 ?c22 ?k22 ?a23 ?l23 ?c23 ?k23 ?a24 ?l24 ?c24 ?k24 ?a25 ?l25 ?c25 ?k25 ?a26 ?l26 ?c26 ?k26 ?a27 ?l27 ?c27 ?k27 ?a28 ?l28 ?c28 ?k28 ?a29 ?l29 ?c29 ?k29 ?a30 ?l30 ?c30 ?k30 ?a31 ?l31 ?c31 ?k31 ?x0 ?dl13 ?dl14 ?kxNoLevel_it ?kxNoLevel_ga ?kxNoLevel_gt ?kxNoLevel_cl ?kxNoLevel_mB ?kxNoLevel_mO ?moLoose_m ?moLoose_i ?moLoose_k ?clLoose_pg ?clLoose_hd ?clLoose_po ?clLoose_sa ?tcLoose ?tmLoose ?moKept_m ?moKept_i ?moKept_k ?clKept_pg ?clKept_hd ?clKept_po ?clKept_sa ?tcKept ?tmKept ?moMake_m ?moMake_i ?moMake_k ?clMake_pg ?clMake_hd ?clMake_po ?clMake_sa ?tcMake ?tmMake ?moWatch_m ?moWatch_i ?moWatch_k ?clWatch_pg ?clWatch_hd ?clWatch_po ?clWatch_sa ?tcWatch ?tmWatch ?moHold_m ?moHold_i ?moHold_k ?clHold_pg ?clHold_hd ?clHold_po ?clHold_sa ?tcHold ?tmHold ?mf0 ?mf1 ?mf2 ?mf3 ?mf4 ?mf5 ?mf6 ?mf7 ?mf8 ?mf9 ?tgx ?ttx ?ksNoLevel_ty ?ksNoLevel_it ?ksNoLevel_mB ?kvNoLevel ?kpNoLevelSkewError_it ?kpNoLevelSkewError_ty ?kpNoLevelSkewError_se ?kpNoLevelSkewError_su ?kpNoLevelNoHistory_it ?kpNoLevelNoHistory_ty ?kpNoLevelNoHistory_se ?kpNoLevelNoHistory_su ?kpNoLevelNoLevel_it ?kpNoLevelNoLevel_ty ?kpNoLevelNoLevel_se ?kpNoLevelNoLevel_su ?z0 ?z1 ?z2 ?z3 ?z4 ?z5 ?z6 ?z7 ?z8 ?z9 ?z10
    (case e0 => k_is)
    (case e1 => k_is)
    (case e2 => k_is)
    (case e3 => k_is)
    (case e4 => k_is)
    (case e5 => k_is)
    (case e6 => k_is)
    (case e7 => k_is)
    (case a0 => k_is); (case l0 => k_is); (case c0 => k_is); (case k0 => k_is)
    (case a1 => k_is); (case l1 => k_is); (case c1 => k_is); (case k1 => k_is)
    (case a2 => k_is); (case l2 => k_is); (case c2 => k_is); (case k2 => k_is)
    (case a3 => k_is); (case l3 => k_is); (case c3 => k_is); (case k3 => k_is)
    (case a4 => k_is); (case l4 => k_is); (case c4 => k_is); (case k4 => k_is)
    (case a5 => k_is); (case l5 => k_is); (case c5 => k_is); (case k5 => k_is)
    (case a6 => k_is); (case l6 => k_is); (case c6 => k_is); (case k6 => k_is)
    (case a7 => k_is); (case l7 => k_is); (case c7 => k_is); (case k7 => k_is)
    (case a8 => k_is); (case l8 => k_is); (case c8 => k_is); (case k8 => k_is)
    (case a9 => k_is); (case l9 => k_is); (case c9 => k_is); (case k9 => k_is)
    (case a10 => k_is); (case l10 => k_is); (case c10 => k_is); (case k10 => k_is)
    (case a11 => k_is); (case l11 => k_is); (case c11 => k_is); (case k11 => k_is)
    (case a12 => k_is); (case l12 => k_is); (case c12 => k_is); (case k12 => k_is)
    (case a13 => k_is); (case l13 => k_is); (case c13 => k_is); (case k13 => k_is)
    (case a14 => k_is); (case l14 => k_is); (case c14 => k_is); (case k14 => k_is)
    (case a15 => k_is); (case l15 => k_is); (case c15 => k_is); (case k15 => k_is)
    (case a16 => k_is); (case l16 => k_is); (case c16 => k_is); (case k16 => k_is)
    (case a17 => k_is); (case l17 => k_is); (case c17 => k_is); (case k17 => k_is)
    (case a18 => k_is); (case l18 => k_is); (case c18 => k_is); (case k18 => k_is)
    (case a19 => k_is); (case l19 => k_is); (case c19 => k_is); (case k19 => k_is)
    (case a20 => k_is); (case l20 => k_is); (case c20 => k_is); (case k20 => k_is)
    (case a21 => k_is); (case l21 => k_is); (case c21 => k_is); (case k21 => k_is)
    (case a22 => k_is); (case l22 => k_is); (case c22 => k_is); (case k22 => k_is)
    (case a23 => k_is); (case l23 => k_is); (case c23 => k_is); (case k23 => k_is)
    (case a24 => k_is); (case l24 => k_is); (case c24 => k_is); (case k24 => k_is)
    (case a25 => k_is); (case l25 => k_is); (case c25 => k_is); (case k25 => k_is)
    (case a26 => k_is); (case l26 => k_is); (case c26 => k_is); (case k26 => k_is)
    (case a27 => k_is); (case l27 => k_is); (case c27 => k_is); (case k27 => k_is)
    (case a28 => k_is); (case l28 => k_is); (case c28 => k_is); (case k28 => k_is)
    (case a29 => k_is); (case l29 => k_is); (case c29 => k_is); (case k29 => k_is)
    (case a30 => k_is); (case l30 => k_is); (case c30 => k_is); (case k30 => k_is)
    (case a31 => k_is); (case l31 => k_is); (case c31 => k_is); (case k31 => k_is)
    (case x0 => k_exc)
    (case dl13 => k_is)
    (case dl14 => k_is)
    (case kxNoLevel_it => k_is)
    (case kxNoLevel_ga => k_is)
    (case kxNoLevel_gt => k_is)
    (case kxNoLevel_cl => k_is)
    (case kxNoLevel_mB => k_is)
    (case kxNoLevel_mO => k_is)
    (case moLoose_m => k_is)
    (case moLoose_i => k_is)
    (case moLoose_k => k_is)
    (case clLoose_pg => k_is)
    (case clLoose_hd => k_is)
    (case clLoose_po => k_is)
    (case clLoose_sa => k_is)
    (case tcLoose => k_is)
    (case tmLoose => k_is)
    (case moKept_m => k_is)
    (case moKept_i => k_is)
    (case moKept_k => k_is)
    (case clKept_pg => k_is)
    (case clKept_hd => k_is)
    (case clKept_po => k_is)
    (case clKept_sa => k_is)
    (case tcKept => k_is)
    (case tmKept => k_is)
    (case moMake_m => k_is)
    (case moMake_i => k_is)
    (case moMake_k => k_is)
    (case clMake_pg => k_is)
    (case clMake_hd => k_is)
    (case clMake_po => k_is)
    (case clMake_sa => k_is)
    (case tcMake => k_is)
    (case tmMake => k_is)
    (case moWatch_m => k_is)
    (case moWatch_i => k_is)
    (case moWatch_k => k_is)
    (case clWatch_pg => k_is)
    (case clWatch_hd => k_is)
    (case clWatch_po => k_is)
    (case clWatch_sa => k_is)
    (case tcWatch => k_is)
    (case tmWatch => k_is)
    (case moHold_m => k_is)
    (case moHold_i => k_is)
    (case moHold_k => k_is)
    (case clHold_pg => k_is)
    (case clHold_hd => k_is)
    (case clHold_po => k_is)
    (case clHold_sa => k_is)
    (case tcHold => k_is)
    (case tmHold => k_is)
    (case mf0 => k_is)
    (case mf1 => k_is)
    (case mf2 => k_is)
    (case mf3 => k_is)
    (case mf4 => k_is)
    (case mf5 => k_is)
    (case mf6 => k_is)
    (case mf7 => k_is)
    (case mf8 => k_is)
    (case mf9 => k_is)
    (case tgx => k_is)
    (case ttx => k_is)
    (case ksNoLevel_ty => k_is)
    (case ksNoLevel_it => k_is)
    (case ksNoLevel_mB => k_is)
    (case kvNoLevel => k_is)
    (case kpNoLevelSkewError_it => k_is)
    (case kpNoLevelSkewError_ty => k_is)
    (case kpNoLevelSkewError_se => k_is)
    (case kpNoLevelSkewError_su => k_is)
    (case kpNoLevelNoHistory_it => k_is)
    (case kpNoLevelNoHistory_ty => k_is)
    (case kpNoLevelNoHistory_se => k_is)
    (case kpNoLevelNoHistory_su => k_is)
    (case kpNoLevelNoLevel_it => k_is)
    (case kpNoLevelNoLevel_ty => k_is)
    (case kpNoLevelNoLevel_se => k_is)
    (case kpNoLevelNoLevel_su => k_is)
    (case z0 => k_is)
    (case z1 => k_is)
    (case z2 => k_is)
    (case z3 => k_is)
    (case z4 => k_is)
    (case z5 => k_is)
    (case z6 => k_is)
    (case z7 => k_is)
    (case z8 => k_is)
    (case z9 => k_is)
    (case z10 => k_is)

