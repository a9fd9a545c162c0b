import PyProof.Rows.All
import Wide.All
import OpenK.AllK
import Wide.FinOn
import Lean
import PyProof.EqAt
import PyProof.EqKinds
import PyProof.TupleCall
import PySem.Challenge.RW_skewhouse_k52_histories_shown_and_read
theorem PySem.W.Fast.te593306361887352696 : True := trivial
noncomputable def PySem.W.Fast.tw593306361887352696 : Nat := 0
set_option Elab.async false
set_option linter.all false
set_option maxRecDepth 100000
namespace L2
open PySem PySem.Spec PyProof.Rows

noncomputable abbrev Key := Sum Int Str
noncomputable def keyIs : Key → Value → Bool
  | .inl k, v => Value.isInt k v
  | .inr x, v => Value.isStrOf x v
noncomputable def keyH (w : World) : Key → Int
  | .inl k => hashInt k
  | .inr x => hashStr w x
theorem keyIs_shape : ∀ {k : Key} {v : Value}, keyIs k v = true → (∃ i t, k = Sum.inl i ∧ v = Value.int i t) ∨ (∃ x t, k = Sum.inr x ∧ v = Value.str x t)
  | .inl i, v, h => by
    obtain ⟨t, e⟩ := Value.isInt_shape (k := i) (v := v) h
    exact .inl ⟨i, t, rfl, e⟩
  | .inr x, v, h => by
    obtain ⟨t, e⟩ := Value.isStrOf_shape (x := x) (v := v) h
    exact .inr ⟨x, t, rfl, e⟩
theorem keyIs_int (i : Int) (t : Tok) : keyIs (.inl i) (.int i t) = true := by simp [keyIs, Value.isInt]
theorem keyIs_str (x : Str) (t : Tok) : keyIs (.inr x) (.str x t) = true := by simp [keyIs, Value.isStrOf]
theorem key_ll (a b : Int) : decide ((Sum.inl a : Key) = Sum.inl b) = (a == b) := by
  by_cases e : a = b
  · subst e; simp
  · have h : ¬ (Sum.inl a : Key) = Sum.inl b := fun q => e (Sum.inl.inj q)
    rw [decide_eq_false h]
    exact (beq_eq_false_iff_ne.mpr e).symm
theorem key_rr (a b : Str) : decide ((Sum.inr a : Key) = Sum.inr b) = decide (a = b) := by
  by_cases e : a = b
  · subst e; simp
  · have h : ¬ (Sum.inr a : Key) = Sum.inr b := fun q => e (Sum.inr.inj q)
    rw [decide_eq_false h, decide_eq_false e]
theorem key_lr (a : Int) (b : Str) : decide ((Sum.inl a : Key) = Sum.inr b) = false := decide_eq_false (fun q => nomatch q)
theorem key_rl (a : Str) (b : Int) : decide ((Sum.inr a : Key) = Sum.inl b) = false := decide_eq_false (fun q => nomatch q)

noncomputable def mixKind (prog : Program) (w : World) : PySem.KeyKind prog w Key where
  is := keyIs
  hash := keyH w
  inj := fun v a b ha hb => by
    rcases keyIs_shape ha with ⟨i, t, rfl, rfl⟩ | ⟨x, t, rfl, rfl⟩
    · rcases keyIs_shape hb with ⟨j, u, rfl, e⟩ | ⟨y, u, rfl, e⟩
      · injection e with e1 _; rw [e1]
      · exact nomatch e
    · rcases keyIs_shape hb with ⟨j, u, rfl, e⟩ | ⟨y, u, rfl, e⟩
      · exact nomatch e
      · injection e with e1 _; rw [e1]
  byValue := fun k v h => by
    rcases keyIs_shape h with ⟨i, t, rfl, rfl⟩ | ⟨x, t, rfl, rfl⟩ <;> rfl
  pyHash := fun hv h => by
    rcases keyIs_shape hv with ⟨i, t, rfl, rfl⟩ | ⟨x, t, rfl, rfl⟩
    · exact wpAny_pyHash_int h
    · exact wpAny_pyHash_str h
  eqBool := fun hu hv h => by
    rcases keyIs_shape hu with ⟨i, t, rfl, rfl⟩ | ⟨x, t, rfl, rfl⟩
    · rcases keyIs_shape hv with ⟨j, u, rfl, rfl⟩ | ⟨y, u, rfl, rfl⟩
      · rw [key_ll] at h; exact wpAny_eqBool_int h
      · rw [key_lr] at h; exact SeqAt.EqAt.int_str i t y u _ _ _ _ h
    · rcases keyIs_shape hv with ⟨j, u, rfl, rfl⟩ | ⟨y, u, rfl, rfl⟩
      · rw [key_rl] at h; exact SeqAt.EqAt.str_int x t j u _ _ _ _ h
      · rw [key_rr] at h; exact wpAny_eqBool_str h
  «strs» := fun k x t v h => by
    rcases keyIs_shape h with ⟨i, u, rfl, e⟩ | ⟨y, u, rfl, e⟩
    · exact nomatch e
    · injection e with e1 _
      subst e1
      cases v <;> rfl

theorem mixKind_int (prog : Program) (w : World) (i : Int) (t : Tok) : (mixKind prog w).is (.inl i) (.int i t) = true := keyIs_int i t
theorem mixKind_str (prog : Program) (w : World) (x : Str) (t : Tok) : (mixKind prog w).is (.inr x) (.str x t) = true := keyIs_str x t
end L2

namespace L2
open PySem PySem.Spec PyProof.Rows

inductive V where
  | non | bl (b : Bool) | int (i : Int) | str (x : Str) | byt (b : Array UInt8) | flt (b : UInt64) | ref (a : Addr) | ty (n : String)
  deriving DecidableEq

noncomputable def RelV : V → Value → Prop
  | .non, u => u = Value.none
  | .bl b, u => u = Value.bool b
  | .int i, u => ∃ t, u = Value.int i t
  | .str x, u => ∃ t, u = Value.str x t
  | .byt b, u => ∃ t, u = Value.bytes b t
  | .flt b, u => ∃ t, u = Value.float b t
  | .ref a, u => u = Value.ref a
  | .ty n, u => u = Value.type n

noncomputable abbrev Vals : List V → List Value → Prop := Paired RelV
theorem Vals.length {xs : List V} {us : List Value} (r : Vals xs us) : xs.length = us.length := Paired.length r
theorem Vals.get : ∀ {xs : List V} {us : List Value} {i : Nat} {x : V}, Vals xs us → xs[i]? = some x → ∃ u, us[i]? = some u ∧ RelV x u
  | _, _, _, _, .nil, e => by simp at e
  | _, _, 0, _, .cons r _, e => by simp at e; subst e; exact ⟨_, rfl, r⟩
  | _, _, i + 1, x, .cons _ t, e => by
    obtain ⟨u, h1, h2⟩ := Vals.get (i := i) (x := x) t (by simpa using e)
    exact ⟨u, by simpa using h1, h2⟩
theorem Vals.set {x : V} {u : Value} (r : RelV x u) : ∀ {xs : List V} {us : List Value} (i : Nat), Vals xs us → Vals (xs.set i x) (us.set i u)
  | _, _, _, .nil => .nil
  | _, _, 0, .cons _ t => .cons r t
  | _, _, i + 1, .cons q t => .cons q (Vals.set r i t)
theorem Vals.append : ∀ {xs ys : List V} {us ws : List Value}, Vals xs us → Vals ys ws → Vals (xs ++ ys) (us ++ ws)
  | _, _, _, _, .nil, s => s
  | _, _, _, _, .cons r t, s => .cons r (Vals.append t s)
theorem Vals.take : ∀ {xs : List V} {us : List Value} (n : Nat), Vals xs us → Vals (xs.take n) (us.take n)
  | _, _, 0, _ => .nil
  | _, _, _ + 1, .nil => .nil
  | _, _, n + 1, .cons r t => .cons r (Vals.take n t)
theorem Vals.drop : ∀ {xs : List V} {us : List Value} (n : Nat), Vals xs us → Vals (xs.drop n) (us.drop n)
  | _, _, 0, r => r
  | _, _, _ + 1, .nil => .nil
  | _, _, n + 1, .cons _ t => Vals.drop n t
noncomputable def RelO : Option V → Option Value → Prop
  | some v, some u => RelV v u
  | none, none => True
  | _, _ => False
noncomputable def KV {κ : Type} : List (κ × V) → List (κ × Value) → Prop := Paired fun (p : κ × V) (q : κ × Value) => p.1 = q.1 ∧ RelV p.2 q.2

noncomputable def kV : Key → V
  | .inl i => .int i
  | .inr x => .str x

inductive HO where
    | lst (xs : List V)
    | tup (xs : List V)
    | dK (kvs : List (Key × V)) | dT (kvs : List (List Key × V))
    | set (S : Int → Bool) (n : Nat)
    | ins (C dx : Addr) (fs : List (Str × V))
    | own (x : Addr)
    | xd (fs : List (Str × V))
    | met (f x : Addr)
    | rng (lo hi : Int)
    | frz (o : Obj) (u : HO)
    | tbl (ps : Array Value)
    | ext (φ : Heap → Prop)

noncomputable abbrev Hp := Addr → Option HO
noncomputable def upd (H : Hp) (a : Addr) (o : HO) : Hp := fun b => if b = a then some o else H b
theorem upd_same {H : Hp} {a : Addr} {o : HO} : upd H a o a = some o := by unfold upd; rw [if_pos rfl]
theorem upd_ne {H : Hp} {a b : Addr} {o : HO} (h : b ≠ a) : upd H a o b = H b := by unfold upd; rw [if_neg h]
theorem ne_of {H : Hp} {a b : Addr} {o u : HO} (h : H a = some o) (h' : H b = some u) (d : o ≠ u) : a ≠ b := by
  intro e; subst e; rw [h] at h'; exact d (Option.some.inj h')
theorem ne_of_none {H : Hp} {a b : Addr} {o : HO} (h : H a = some o) (h' : H b = none) : a ≠ b := by
  intro e; subst e; rw [h] at h'; cases h'

section
variable (P : Program) (w : World)
noncomputable def ObjOk (H : Hp) (h : Heap) (a : Addr) : HO → Prop
  | .lst xs => xs.length ≤ sizeLine ∧ ∃ (its : List Value) (n : Nat), Vals xs its ∧ h.get? a = some { cls := .type "list", data := .seq its.toArray n }
  | .tup xs => xs.length ≤ sizeLine ∧ ∃ its : List Value, Vals xs its ∧ IsTup h a its.toArray
  | .dK kvs => kvs.length ≤ sizeLine ∧ (a == sysModules) = false ∧ ∃ vs, KV kvs vs ∧ h.DictOf (mixKind P w) a vs
  | .dT kvs => kvs.length ≤ sizeLine ∧ (a == sysModules) = false ∧ ∃ xs : List (List Key × Addr × Value),
      Paired (fun (p : List Key × V) (q : List Key × Addr × Value) => p.1 = q.1 ∧ H q.2.1 = some (.tup (p.1.map kV)) ∧ RelV p.2 q.2.2) kvs xs ∧
      ∃ o es ep, h.get? a = some o ∧ o.ExactDict ∧ o.data = .dict es ep ∧ es.toList = xs.map (entryOfKey (tupleKind (mixKind P w))) ∧ (xs.map (·.1)).Nodup
  | .set S n => h.SetOf (intKind P w) a S n
  | .ins C dx fs => H dx = some (.own a) ∧ fs.length ≤ 1000 ∧ dx ≠ a ∧ h.get? a = some (PySem.W.instObj C dx) ∧
      ∃ mA, h.Ns1 dx mA ∧ (∀ f, RelO (fs.lookup f) (mA f)) ∧ PySem.Within mA (fs.map (·.1))
  | .own _ => ∃ o, h.get? a = some o
  | .xd fs => ∃ mA, h.Ns1 a mA ∧ ∀ f, RelO (fs.lookup f) (mA f)
  | .rng lo hi => ∃ t u v, h.get? a = some { cls := .type "range", data := .fields #[.int lo t, .int hi u, .int 1 v] }
  | .frz o u => h.get? a = some o ∧ ObjOk H h a u
  | .tbl ps => h.get? a = some { cls := .none, data := .fields ps }
  | .met f x => h.get? a = some (PySem.W.methodObj (.ref f) (.ref x))
  | .ext φ => φ h ∧ (∃ o, h.get? a = some o) ∧ ∀ h1 h2 : Heap, φ h1 → (∀ o, h1.get? a = some o → h2.get? a = some o) → φ h2
noncomputable def HOk (H : Hp) (h : Heap) : Prop := ∀ a o, H a = some o → ObjOk P w H h a o
end

section
variable {P : Program} {w : World} {H H' : Hp} {h h' : Heap} {a : Addr} {o : HO}
theorem ObjOk.lt (x : ObjOk P w H h a o) : a < h.objs.size := by
  cases o with
  | lst xs => obtain ⟨_, _, _, _, e⟩ := x; exact Heap.lt_size e
  | tup xs => obtain ⟨_, _, _, p⟩ := x; exact p.lt
  | dK kvs => obtain ⟨_, _, _, _, o, _, _, e, _⟩ := x; exact Heap.lt_size e
  | dT kvs => obtain ⟨_, _, _, _, o, _, _, e, _⟩ := x; exact Heap.lt_size e
  | set S n => obtain ⟨o, _, _, _, e, _⟩ := x; exact Heap.lt_size e
  | ins C dx fs => obtain ⟨_, _, _, e, _⟩ := x; exact Heap.lt_size e
  | own y => obtain ⟨_, e⟩ := x; exact Heap.lt_size e
  | xd fs => obtain ⟨_, ⟨_, _, _, e, _⟩, _⟩ := x; exact Heap.lt_size e
  | rng lo hi => obtain ⟨_, _, _, e⟩ := x; exact Heap.lt_size e
  | frz ob u => obtain ⟨e, _⟩ := x; exact Heap.lt_size e
  | tbl ps => exact Heap.lt_size (show h.get? a = some _ from x)
  | met f y => exact Heap.lt_size (show h.get? a = some _ from x)
  | ext φ => obtain ⟨_, ⟨_, e⟩, _⟩ := x; exact Heap.lt_size e
theorem Paired.mapP {α β : Type} {F G : α → β → Prop} : ∀ {l₁ : List α} {l₂ : List β}, Paired F l₁ l₂ → (∀ a b, F a b → G a b) → Paired G l₁ l₂
  | _, _, .nil, _ => .nil
  | _, _, .cons r t, f => .cons (f _ _ r) (Paired.mapP t f)
theorem ObjOk.stay (x : ObjOk P w H h a o) (k : ∀ b u, (b = a ∨ H b = some (.own a)) → h.get? b = some u → h'.get? b = some u)
    (ho : ∀ b, H b = some (.own a) → H' b = some (.own a)) (ht : ∀ b xs, H b = some (.tup xs) → H' b = some (.tup xs)) : ObjOk P w H' h' a o := by
  induction o with
  | lst xs => obtain ⟨z, its, n, r, e⟩ := x; exact ⟨z, its, n, r, k _ _ (.inl rfl) e⟩
  | tup xs => obtain ⟨z, its, r, ob, e, c⟩ := x; exact ⟨z, its, r, ob, k _ _ (.inl rfl) e, c⟩
  | dK kvs => obtain ⟨z, y, vs, r, ob, es, ep, e, c⟩ := x; exact ⟨z, y, vs, r, ob, es, ep, k _ _ (.inl rfl) e, c⟩
  | dT kvs =>
    obtain ⟨z, y, xs, r, ob, es, ep, e, c⟩ := x
    exact ⟨z, y, xs, Paired.mapP r fun p q z => ⟨z.1, ht _ _ z.2.1, z.2.2⟩, ob, es, ep, k _ _ (.inl rfl) e, c⟩
  | set S n => obtain ⟨ob, es, ep, t, e, c⟩ := x; exact ⟨ob, es, ep, t, k _ _ (.inl rfl) e, c⟩
  | ins C dx fs =>
    obtain ⟨d, z, ne, e, mA, ⟨od, es, ep, e2, c⟩, r⟩ := x
    exact ⟨ho _ d, z, ne, k _ _ (.inl rfl) e, mA, ⟨od, es, ep, k _ _ (.inr d) e2, c⟩, r⟩
  | own y => obtain ⟨ob, e⟩ := x; exact ⟨ob, k _ _ (.inl rfl) e⟩
  | xd fs => obtain ⟨mA, ⟨od, es, ep, e, c⟩, r⟩ := x; exact ⟨mA, ⟨od, es, ep, k _ _ (.inl rfl) e, c⟩, r⟩
  | rng lo hi => obtain ⟨t, u, v, e⟩ := x; exact ⟨t, u, v, k _ _ (.inl rfl) e⟩
  | frz ob u ih => obtain ⟨e, q⟩ := x; exact ⟨k _ _ (.inl rfl) e, ih q⟩
  | tbl ps =>
    have e : h.get? a = some { cls := .none, data := .fields ps } := x
    show h'.get? a = some { cls := .none, data := .fields ps }
    exact k a _ (.inl rfl) e
  | met f y =>
    have e : h.get? a = some (PySem.W.methodObj (.ref f) (.ref y)) := x
    show h'.get? a = some (PySem.W.methodObj (.ref f) (.ref y))
    exact k a _ (.inl rfl) e
  | ext φ => obtain ⟨p, ⟨o, e⟩, st⟩ := x; exact ⟨st _ _ p fun o q => k _ _ (.inl rfl) q, ⟨o, k _ _ (.inl rfl) e⟩, st⟩
theorem HOk.lt (x : HOk P w H h) (e : H a = some o) : a < h.objs.size := (x a o e).lt
theorem HOk.fresh (x : HOk P w H h) (e : h.objs.size ≤ a) : H a = none := by
  cases q : H a with
  | none => rfl
  | some u => exact absurd (Nat.lt_of_lt_of_le (x.lt q) e) (Nat.lt_irrefl _)
theorem HOk.kept (x : HOk P w H h) (k : ∀ b u, h.get? b = some u → h'.get? b = some u) : HOk P w H h' := fun a o e =>
  (x a o e).stay (fun b u _ q => k b u q) (fun _ q => q) fun _ _ q => q
theorem HOk.laid (x : HOk P w H h) (k : ∀ b u, h.get? b = some u → h'.get? b = some u) (hp : h.objs.size ≤ a) (new : ObjOk P w (upd H a o) h' a o) : HOk P w (upd H a o) h' := fun b u e => by
  have hn := x.fresh hp
  by_cases hb : b = a
  · subst hb; rw [upd_same] at e; cases e; exact new
  · rw [upd_ne hb] at e
    exact (x b u e).stay (fun c v _ q => k c v q) (fun c q => by rw [upd_ne (ne_of_none q hn)]; exact q) fun c xs q => by rw [upd_ne (ne_of_none q hn)]; exact q
end

noncomputable def Rd (H : Hp) (a : Addr) (u : HO) : Prop := H a = some u ∨ ∃ o, H a = some (.frz o u)
theorem Rd.ok {P : Program} {w : World} {H : Hp} {h : Heap} {a : Addr} {u : HO} (r : Rd H a u) (x : HOk P w H h) : ObjOk P w H h a u := by
  rcases r with r | ⟨o, r⟩
  · exact x a u r
  · obtain ⟨_, q⟩ := x a _ r
    exact q
noncomputable def Mut : Option HO → Prop
  | some (.lst _) => True
  | some (.dK _) => True
  | some (.dT _) => True
  | some (.set _ _) => True
  | some (.ins _ _ _) => True
  | some (.ext _) => True
  | _ => False
section
variable {P : Program} {w : World} {H : Hp} {h h' : Heap} {x e : Addr} {o' : HO}
theorem HOk.write (ok : HOk P w H h) (mu : Mut (H x)) (he : e = x ∨ H e = some (.own x)) (k : ∀ b u, b ≠ e → h.get? b = some u → h'.get? b = some u) (heo : ∃ u, h'.get? e = some u)
    (new : ObjOk P w (upd H x o') h' x o') : HOk P w (upd H x o') h' := fun b u q => by
  have nown : ∀ c y, H c = some (.own y) → c ≠ x := fun c y r z => by subst z; rw [r] at mu; exact mu
  have ntup : ∀ c xs, H c = some (.tup xs) → c ≠ x := fun c xs r z => by subst z; rw [r] at mu; exact mu
  by_cases hb : b = x
  · subst hb; rw [upd_same] at q; cases q; exact new
  · rw [upd_ne hb] at q
    by_cases hbe : b = e
    · have q' : H b = some (.own x) := by
        rcases he with z | z
        · exact absurd (hbe.trans z) hb
        · rw [hbe]; exact z
      rw [q] at q'; cases q'
      obtain ⟨v, hv⟩ := heo
      exact ⟨v, by rw [hbe]; exact hv⟩
    · refine (ok b u q).stay (fun c v hc r => k c v ?_ r) (fun c r => by rw [upd_ne (nown c b r)]; exact r) fun c xs r => by rw [upd_ne (ntup c xs r)]; exact r
      rcases hc with rfl | hc
      · exact hbe
      · rintro rfl
        rcases he with z | z
        · exact nown c b hc z
        · rw [hc] at z; cases z; exact hb rfl
end

structure Un (fs ex : List Addr) (H H' : Hp) (h h' : Heap) : Prop where
  keep : ∀ b o, h.get? b = some o → H b = none → b ∉ fs → b ∉ ex → h'.get? b = some o
  slot : ∀ b o, h.get? b = some o → H b = none → b ∈ fs → b ∉ ex → ∃ sl, h'.get? b = some { o with slots := sl }
  free : ∀ b o, h.get? b = some o → H b = none → b ∉ ex → H' b = none
  there : ∀ b o, h.get? b = some o → b ∉ ex → ∃ o', h'.get? b = some o'
  tups : ∀ b xs, H b = some (.tup xs) → H' b = some (.tup xs)
  frzs : ∀ b o u, H b = some (.frz o u) → H' b = some (.frz o u)
  tbls : ∀ b ps, H b = some (.tbl ps) → ∃ more, H' b = some (.tbl (ps ++ more))
section
variable {fs fs' ex ex' : List Addr} {H H1 H2 : Hp} {h h1 h2 h' : Heap} {a x e : Addr} {o : HO}
theorem Un.any (u : Un fs ex H H1 h h1) {b : Addr} {ob : Obj} (q : h.get? b = some ob) (n : H b = none) (hx : b ∉ ex) : ∃ sl, h1.get? b = some { ob with slots := sl } := by
  by_cases hb : b ∈ fs
  · exact u.slot b ob q n hb hx
  · exact ⟨ob.slots, u.keep b ob q n hb hx⟩
theorem Un.kept (k : ∀ b u, h.get? b = some u → h'.get? b = some u) : Un fs ex H H h h' :=
  ⟨fun b ob q _ _ _ => k b ob q, fun b ob q _ _ _ => ⟨ob.slots, k b ob q⟩, fun _ _ _ n _ => n, fun b ob q _ => ⟨ob, k b ob q⟩, fun _ _ q => q, fun _ _ _ q => q, fun _ ps q => ⟨#[], by rw [q]; simp⟩⟩
theorem Un.refl : Un fs ex H H h h := Un.kept fun _ _ q => q
theorem Un.laid (k : ∀ b u, h.get? b = some u → h'.get? b = some u) (hp : h.objs.size ≤ a) (hn : H a = none) : Un fs ex H (upd H a o) h h' where
  keep := fun b u q _ _ _ => k b u q
  slot := fun b u q _ _ _ => ⟨u.slots, k b u q⟩
  free := fun b u q n _ => by rw [upd_ne (Nat.ne_of_lt (Nat.lt_of_lt_of_le (Heap.lt_size q) hp))]; exact n
  there := fun b u q _ => ⟨u, k b u q⟩
  tups := fun b xs q => by rw [upd_ne (ne_of_none q hn)]; exact q
  frzs := fun b u xs q => by rw [upd_ne (ne_of_none q hn)]; exact q
  tbls := fun b ps q => ⟨#[], by rw [upd_ne (ne_of_none q hn), q]; simp⟩
theorem Un.write (mu : Mut (H x)) (he : e = x ∨ H e = some (.own x)) (k : ∀ b u, b ≠ e → h.get? b = some u → h'.get? b = some u) (heo : ∃ u, h'.get? e = some u) : Un fs ex H (upd H x o) h h' := by
  have hx : ∀ b, H b = none → b ≠ x := fun b n z => by subst z; rw [n] at mu; exact mu
  have hb : ∀ b, H b = none → b ≠ e := fun b n z => by
    subst z
    rcases he with r | r
    · exact hx b n r
    · rw [n] at r; cases r
  have hm : ∀ b u, H b = some u → ¬ Mut (some u) → b ≠ x := fun b u q nm z => by subst z; rw [q] at mu; exact nm mu
  refine ⟨fun b u q n _ _ => k b u (hb b n) q, fun b u q n _ _ => ⟨u.slots, k b u (hb b n) q⟩, fun b u q n _ => by rw [upd_ne (hx b n)]; exact n, fun b u q _ => ?_,
    fun b xs q => by rw [upd_ne (hm b _ q fun z => z)]; exact q, fun b u xs q => by rw [upd_ne (hm b _ q fun z => z)]; exact q, fun b ps q => ⟨#[], by rw [upd_ne (hm b _ q fun z => z), q]; simp⟩⟩
  by_cases hbe : b = e
  · subst hbe; exact heo
  · exact ⟨u, k b u hbe q⟩
end

noncomputable def trk (h : Heap) (H : Hp) : List Addr := (List.range h.objs.size).filter fun a => (H a).isSome
noncomputable def hidT (h : Heap) (H : Hp) : Heap := PySem.W.hideAll h (trk h H)
theorem hidT_size (h : Heap) (H : Hp) : (hidT h H).objs.size = h.objs.size := PySem.W.hideAll_size _ _
theorem hidT_get {h : Heap} {H : Hp} {b : Addr} {o : Obj} (e : h.get? b = some o) (n : H b = none) : (hidT h H).get? b = some o :=
  PySem.W.hideAll_get _ e fun hm => by
    have q : (H b).isSome = true := (List.mem_filter.mp hm).2
    rw [n] at q; simp at q
theorem of_hidT {h : Heap} {H : Hp} {b : Addr} {o : Obj} (e : (hidT h H).get? b = some o) : h.get? b = some o ∧ H b = none := by
  have e' : h.get? b = some o := PySem.W.of_hideAll (trk h H) e
  refine ⟨e', ?_⟩
  cases q : H b with
  | none => rfl
  | some x =>
    have hm : b ∈ trk h H := List.mem_filter.mpr ⟨List.mem_range.mpr (Heap.lt_size e'), by simp [q]⟩
    have z : (hidT h H).get? b = none := PySem.W.hideAll_none (trk h H) hm
    rw [z] at e; cases e

noncomputable def allNews (g h : Heap) (L : Addr) : List (Addr × Obj) := (List.range h.objs.size).filterMap fun a => if a = L ∨ (g.get? a).isSome = true then none else (h.get? a).map fun o => (a, o)
noncomputable def rest (g h : Heap) (L d : Addr) : List (Addr × Obj) := (allNews g h L).filter fun p => decide (p.1 ≠ d)
end L2

namespace L2
open PySem PySem.Spec PyProof.Rows

structure Mod (K : PySem.W.Frag) (mg : Str → Option Value) (base : Heap) : Prop where
  kin : K.In base
  glob : base.Ns mainGlobals mg
  blt : ∃ mb, base.Ns builtinsNs mb ∧ ∀ x : Str, x ≠ "__name__" → mb x = bootBuiltins x
  nolimit : base.NoLimit

structure Cx where
  prog : Program
  w : World
  K : PySem.W.Frag
  mg : Str → Option Value
  base : Heap
  A : Around
  N : List Str
  s₀ : Shared
  H₀ : Hp
  env : Env
  outer : List Env
  stack : List Env
  ex : List Addr
  fn : Str → Bool
  calm : Bool
  pn : List (Addr × Obj)
  xe : Value → Shared → Prop
noncomputable def frs (l : List Env) : List Addr := l.filterMap (·.frame)
noncomputable abbrev Cx.fs (X : Cx) : List Addr := frs X.outer

noncomputable def Vis (sc : Scope) (x : Str) : Prop := sc.names.lookup x = some .local ∨ sc.names.lookup x = some .cell ∨ sc.names.lookup x = some .free
noncomputable def Loc (sc : Scope) (x : Str) : Prop := sc.names.lookup x = some .local ∨ sc.names.lookup x = some .cell
noncomputable def Look (env : Env) (h : Heap) (m : Str → Option Value) (x : Str) (u : Value) : Prop :=
  (env.kindOf x = some .local ∧ m x = some u) ∨ ((env.kindOf x = some .cell ∨ env.kindOf x = some .free) ∧ ∃ c, env.cells.lookup x = some c ∧ h.IsCell c (some u))

structure Cx.Ok (X : Cx) : Prop where
  mod : Mod X.K X.mg X.base
  kind : X.env.scope.kind = .function
  glob : X.env.globals = mainGlobals
  blt : X.env.builtins = builtinsNs
  above : X.s₀.heap.objs.size ≤ X.env.locals
  inj : ∀ x y c, X.env.cells.lookup x = some c → X.env.cells.lookup y = some c → x = y
  has : ∀ x, (X.env.kindOf x = some .cell ∨ X.env.kindOf x = some .free) → ∃ c, X.env.cells.lookup x = some c
  cab : ∀ x c, X.fn x = true → X.env.cells.lookup x = some c → X.s₀.heap.objs.size ≤ c
  hd : X.calm = true → X.A.handled = none
  frames : X.A.frames = some X.stack
  stk : X.stack = X.outer ∨ (X.stack = X.env :: X.outer ∧ X.env.frame = some X.env.locals)
  exf : ∀ b ∈ X.ex, b ≠ X.env.locals ∧ ∀ x c, X.env.cells.lookup x = some c → c ≠ b
  bs : ∀ b o, X.base.get? b = some o → X.s₀.heap.get? b = some o ∧ X.H₀ b = none
  bsz : X.base.objs.size ≤ X.s₀.heap.objs.size
  noex : ∀ b o, X.base.get? b = some o → b ∉ X.ex
  exfs : ∀ b ∈ X.ex, b ∉ X.fs
  funs : X.s₀.heap.FunFrames X.base X.outer
  frf : ∀ b ∈ X.fs, X.H₀ b = none

structure Inv (X : Cx) (pins : List (Addr × Obj)) (σ : List (Option V)) (H : Hp) (s : Shared) : Prop where
  ok : X.Ok
  os : s.os = X.s₀.os
  bare : AllBare s.gens
  base : Un X.fs X.ex X.H₀ H X.s₀.heap s.heap
  loc : ∃ m, s.heap.Ns X.env.locals m ∧ ∀ (i : Nat) (x : Str) (v : V), X.N[i]? = some x → σ[i]? = some (some v) → Vis X.env.scope x → ∃ u, RelV v u ∧ Look X.env s.heap m x u
  cell : ∀ x c, X.env.cells.lookup x = some c → ∃ v, s.heap.IsCell c v
  free : H X.env.locals = none
  freeC : ∀ x c, X.env.cells.lookup x = some c → H c = none
  pin : ∀ p ∈ X.pn ++ pins, s.heap.get? p.1 = some p.2 ∧ H p.1 = none ∧ p.1 ≠ X.env.locals ∧ p.1 ∉ X.fs ∧ ∀ v, p.2.data ≠ .cell v
  hok : HOk X.prog X.w H s.heap
  len : σ.length = X.N.length

section
variable {X : Cx} {pins : List (Addr × Obj)} {σ : List (Option V)} {H H' : Hp} {s : Shared} {h' : Heap}

theorem Cx.Ok.nofr (ok : X.Ok) {b : Addr} {o : Obj} (e : X.base.get? b = some o) : b ∉ X.fs := fun hb => by
  have := (ok.funs.mem hb).1
  rw [e] at this; cases this
theorem Inv.bs (I : Inv X pins σ H s) : ∀ b o, X.base.get? b = some o → s.heap.get? b = some o ∧ H b = none := fun b o e =>
  ⟨I.base.keep b o (I.ok.bs b o e).1 (I.ok.bs b o e).2 (I.ok.nofr e) (I.ok.noex b o e), I.base.free b o (I.ok.bs b o e).1 (I.ok.bs b o e).2 (I.ok.noex b o e)⟩
theorem Inv.bk (I : Inv X pins σ H s) : ∀ b o, X.base.get? b = some o → s.heap.get? b = some o := fun b o e => (I.bs b o e).1
theorem Inv.mod (I : Inv X pins σ H s) : Mod X.K X.mg X.base := I.ok.mod
theorem Inv.kIn (I : Inv X pins σ H s) : X.K.In s.heap := I.ok.mod.kin.keeps I.bk
theorem Inv.lt (I : Inv X pins σ H s) : X.env.locals < s.heap.objs.size := let ⟨_, hn, _⟩ := I.loc; hn.lt
theorem Inv.sz (I : Inv X pins σ H s) : X.s₀.heap.objs.size ≤ s.heap.objs.size := Nat.le_trans I.ok.above (Nat.le_of_lt I.lt)
theorem Inv.nofs (I : Inv X pins σ H s) {a : Addr} (h : s.heap.objs.size ≤ a) : a ∉ X.fs := fun hb => by
  obtain ⟨_, o, ho, _⟩ := I.ok.funs.mem hb
  exact absurd (Nat.lt_of_lt_of_le (Heap.lt_size ho) (Nat.le_trans I.sz h)) (Nat.lt_irrefl _)
theorem Inv.cne (I : Inv X pins σ H s) : ∀ x c, X.env.cells.lookup x = some c → c ≠ X.env.locals := fun x c e z => by
  obtain ⟨v, o, ho, hd⟩ := I.cell x c e
  obtain ⟨m, ⟨o', es, ep, ho', hd', _⟩, _⟩ := I.loc
  rw [z, ho'] at ho; cases ho; rw [hd'] at hd; cases hd
theorem Inv.funs (I : Inv X pins σ H s) : s.heap.FunFrames X.base X.outer := by
  have all : ∀ (l : List Env), (∀ b ∈ frs l, b ∈ X.fs) → X.s₀.heap.FunFrames X.base l → s.heap.FunFrames X.base l := by
    intro l
    induction l with
    | nil => intro _ _; trivial
    | cons env r ih =>
      intro hs hl
      obtain ⟨hk, ⟨L, o, hf, hn, ho, hd⟩, hr⟩ := hl
      have hL : L ∈ X.fs := hs L (by unfold frs; rw [List.filterMap_cons, hf]; exact List.mem_cons_self)
      obtain ⟨sl, e⟩ := I.base.slot L o ho (I.ok.frf L hL) hL fun z => I.ok.exfs L z hL
      exact ⟨hk, ⟨L, _, hf, hn, e, hd⟩, ih (fun b hb => hs b (by unfold frs; rw [List.filterMap_cons, hf]; exact List.mem_cons_of_mem _ hb)) hr⟩
  exact all X.outer (fun _ hb => hb) I.ok.funs

theorem Inv.stack (I : Inv X pins σ H s) : s.heap.FunFrames X.base X.stack := by
  rcases I.ok.stk with e | ⟨e, hf⟩
  · rw [e]; exact I.funs
  · rw [e]
    obtain ⟨m, hn, _⟩ := I.loc
    refine .cons (by rw [I.ok.kind]; decide) hf hn ?_ I.funs
    exact Heap.get?_none_of_le (Nat.le_trans I.ok.bsz I.ok.above)
theorem Inv.stkSub (I : Inv X pins σ H s) : ∀ b ∈ frs X.stack, b ∈ X.env.locals :: X.fs := fun b hb => by
  rcases I.ok.stk with e | ⟨e, hf⟩
  · rw [e] at hb; exact List.mem_cons_of_mem _ hb
  · rw [e] at hb
    unfold frs at hb
    rw [List.filterMap_cons, hf] at hb
    exact hb
theorem Inv.stkFree (I : Inv X pins σ H s) : ∀ b ∈ frs X.stack, H b = none := fun b hb => by
  rcases List.mem_cons.mp (I.stkSub b hb) with e | hb
  · rw [e]; exact I.free
  · obtain ⟨_, o, ho, _⟩ := I.ok.funs.mem hb
    exact I.base.free b o ho (I.ok.frf b hb) fun z => I.ok.exfs b z hb

theorem Inv.step {g' : Array GenState} {t' : Nat} {d' : Drawn} {ch : List Addr} (I : Inv X pins σ H s)
    (hch : ∀ b ∈ ch, (b ∈ X.ex ∨ X.s₀.heap.objs.size ≤ b) ∧ b ≠ X.env.locals ∧ (∀ x c, X.env.cells.lookup x = some c → c ≠ b) ∧ ∀ p ∈ X.pn ++ pins, p.1 ≠ b)
    (keep : ∀ b o, b ≠ X.env.locals → b ∉ X.fs → b ∉ ch → s.heap.get? b = some o → H b = none → h'.get? b = some o)
    (slot : ∀ b o, b ≠ X.env.locals → b ∈ X.fs → b ∉ ch → s.heap.get? b = some o → H b = none → ∃ sl, h'.get? b = some { o with slots := sl }) (free : ∀ b o, b ∉ ch → s.heap.get? b = some o → H b = none → H' b = none)
    (there : ∀ b o, b ∉ ch → s.heap.get? b = some o → ∃ o', h'.get? b = some o')
    (tups : ∀ b xs, H b = some (.tup xs) → H' b = some (.tup xs)) (frzs : ∀ b o u, H b = some (.frz o u) → H' b = some (.frz o u)) (tbls : ∀ b ps, H b = some (.tbl ps) → ∃ more, H' b = some (.tbl (ps ++ more)))
    (ns : ∀ m, s.heap.Ns X.env.locals m → h'.Ns X.env.locals m) (hok : HOk X.prog X.w H' h') (hg : AllBare g') :
    Inv X pins σ H' { s with heap := h', gens := g', drawn := d', toks := t' } := by
  have neL : ∀ b o, X.s₀.heap.get? b = some o → b ≠ X.env.locals := fun b o e => Nat.ne_of_lt (Nat.lt_of_lt_of_le (Heap.lt_size e) I.ok.above)
  have neC : ∀ b o, X.s₀.heap.get? b = some o → b ∉ X.ex → b ∉ ch := fun b o e hx hb => by
    rcases (hch b hb).1 with z | z
    · exact hx z
    · exact absurd (Nat.lt_of_lt_of_le (Heap.lt_size e) z) (Nat.lt_irrefl _)
  have cellK : ∀ x c, X.env.cells.lookup x = some c → ∀ v, s.heap.IsCell c v → h'.IsCell c v := fun x c e v ⟨o, ho, hd⟩ => by
    have nch : c ∉ ch := fun z => (hch c z).2.2.1 x c e rfl
    by_cases hc : c ∈ X.fs
    · obtain ⟨sl, q⟩ := slot c o (I.cne x c e) hc nch ho (I.freeC x c e)
      exact ⟨_, q, hd⟩
    · exact ⟨o, keep c o (I.cne x c e) hc nch ho (I.freeC x c e), hd⟩
  refine ⟨I.ok, I.os, hg, ⟨fun b o e n hb hx => ?_, fun b o e n hb hx => ?_, fun b o e n hx => ?_, fun b o e hx => ?_, fun b xs e => tups b xs (I.base.tups b xs e), fun b o xs e => frzs b o xs (I.base.frzs b o xs e), fun b ps e => ?_⟩, ?_, fun x c e => ?_, ?_, fun x c e => ?_, fun p hp => ?_, hok, I.len⟩
  · exact keep b o (neL b o e) hb (neC b o e hx) (I.base.keep b o e n hb hx) (I.base.free b o e n hx)
  · obtain ⟨sl, e1⟩ := I.base.slot b o e n hb hx
    obtain ⟨sl', e2⟩ := slot b _ (neL b o e) hb (neC b o e hx) e1 (I.base.free b o e n hx)
    exact ⟨sl', e2⟩
  · obtain ⟨o', e1⟩ := I.base.there b o e hx
    exact free b o' (neC b o e hx) e1 (I.base.free b o e n hx)
  · obtain ⟨o', e1⟩ := I.base.there b o e hx
    exact there b o' (neC b o e hx) e1
  · obtain ⟨m1, e1⟩ := I.base.tbls b ps e
    obtain ⟨m2, e2⟩ := tbls b _ e1
    exact ⟨m1 ++ m2, by rw [e2, Array.append_assoc]⟩
  · obtain ⟨m, hn, hl⟩ := I.loc
    refine ⟨m, ns m hn, fun i x v e1 e2 e3 => ?_⟩
    obtain ⟨u, r, l⟩ := hl i x v e1 e2 e3
    refine ⟨u, r, ?_⟩
    rcases l with l | ⟨k, c, e, z⟩
    · exact .inl l
    · exact .inr ⟨k, c, e, cellK x c e _ z⟩
  · obtain ⟨v, z⟩ := I.cell x c e
    exact ⟨v, cellK x c e v z⟩
  · obtain ⟨m, ⟨o, _, _, ho, _⟩, _⟩ := I.loc
    exact free _ o (fun z => (hch _ z).2.1 rfl) ho I.free
  · obtain ⟨v, o, ho, hd⟩ := I.cell x c e
    exact free c o (fun z => (hch c z).2.2.1 x c e rfl) ho (I.freeC x c e)
  · obtain ⟨e, n, ne, nf, d⟩ := I.pin p hp
    have nch : p.1 ∉ ch := fun z => (hch p.1 z).2.2.2 p hp rfl
    exact ⟨keep p.1 p.2 ne nf nch e n, free p.1 p.2 nch e n, ne, nf, d⟩
theorem Inv.un {t' : Nat} (I : Inv X pins σ H s) (u : Un X.fs [] H H' s.heap h') (hok : HOk X.prog X.w H' h') : Inv X pins σ H' { s with heap := h', toks := t' } := by
  obtain ⟨m, ⟨o, es, ep, ho, r⟩, _⟩ := id I.loc
  obtain ⟨sl, hL⟩ := u.any ho I.free (by simp)
  exact I.step (g' := s.gens) (d' := s.drawn) (ch := []) (fun _ z => nomatch z) (fun b o _ hb _ e n => u.keep b o e n hb (by simp)) (fun b o _ hb _ e n => u.slot b o e n hb (by simp)) (fun b o _ e n => u.free b o e n (by simp)) (fun b o _ e => u.there b o e (by simp)) u.tups u.frzs u.tbls (fun m' hm => by
    obtain ⟨o', es', ep', ho', r'⟩ := hm
    rw [ho] at ho'; cases ho'
    exact ⟨_, es', ep', hL, r'⟩) hok I.bare
theorem Inv.call {g' : Array GenState} {t' : Nat} {d' : Drawn} {ch : List Addr} (I : Inv X pins σ H s) (u : Un (frs X.stack) ch H H' s.heap h') (hok : HOk X.prog X.w H' h') (hg : AllBare g')
    (hch : ∀ b ∈ ch, (b ∈ X.ex ∨ X.s₀.heap.objs.size ≤ b) ∧ b ≠ X.env.locals ∧ (∀ x c, X.env.cells.lookup x = some c → c ≠ b) ∧ ∀ p ∈ X.pn ++ pins, p.1 ≠ b) :
    Inv X pins σ H' { s with heap := h', gens := g', drawn := d', toks := t' } := by
  obtain ⟨m, ⟨o, es, ep, ho, r⟩, _⟩ := id I.loc
  obtain ⟨sl, hL⟩ := u.any ho I.free fun z => (hch _ z).2.1 rfl
  exact I.step (ch := ch) hch (fun b o hL hb hc e n => u.keep b o e n (fun z => (List.mem_cons.mp (I.stkSub b z)).elim hL hb) hc) (fun b o _ _ hc e n => u.any e n hc) (fun b o hc e n => u.free b o e n hc) (fun b o hc e => u.there b o e hc) u.tups u.frzs u.tbls (fun m' hm => by
    obtain ⟨o', es', ep', ho', r'⟩ := hm
    rw [ho] at ho'; cases ho'
    exact ⟨_, es', ep', hL, r'⟩) hok hg
theorem Inv.turned {t' : Nat} {it : Addr} (I : Inv X pins σ H s) (k : ∀ b o, b ≠ it → s.heap.get? b = some o → h'.get? b = some o) (hn : H it = none) (hL : it ≠ X.env.locals)
    (h1 : it ∈ X.ex ∨ X.s₀.heap.objs.size ≤ it) (h2 : ∀ x c, X.env.cells.lookup x = some c → c ≠ it) (h3 : ∀ p ∈ X.pn ++ pins, p.1 ≠ it) : Inv X pins σ H { s with heap := h', toks := t' } := by
  have nit : ∀ b u, H b = some u → b ≠ it := fun b u e z => by rw [z, hn] at e; cases e
  refine I.step (g' := s.gens) (d' := s.drawn) (ch := [it]) (fun b hb => ?_) (fun b o _ _ hc e _ => k b o (fun z => hc (by simp [z])) e) (fun b o _ _ hc e _ => ⟨o.slots, k b o (fun z => hc (by simp [z])) e⟩) (fun _ _ _ _ n => n)
    (fun b o hc e => ⟨o, k b o (fun z => hc (by simp [z])) e⟩) (fun _ _ e => e) (fun _ _ _ e => e) (fun b ps e => ⟨#[], by rw [e]; simp⟩) (fun m hm => ?_) (fun b u e => ?_) I.bare
  · have e : b = it := by simpa using hb
    subst e
    exact ⟨h1, hL, h2, h3⟩
  · obtain ⟨o, es, ep, ho, r⟩ := hm
    exact ⟨o, es, ep, k _ o (Ne.symm hL) ho, r⟩
  · refine (I.hok b u e).stay (fun c v hc q => k c v ?_ q) (fun _ q => q) fun _ _ q => q
    rcases hc with z | z
    · rw [z]; exact nit b u e
    · exact nit c _ z
theorem Inv.tok (I : Inv X pins σ H s) (t : Nat) : Inv X pins σ H { s with toks := t } := I.un (h' := s.heap) (t' := t) Un.refl I.hok
theorem Inv.kept {t' : Nat} (I : Inv X pins σ H s) (k : ∀ b u, s.heap.get? b = some u → h'.get? b = some u) : Inv X pins σ H { s with heap := h', toks := t' } := I.un (Un.kept k) (I.hok.kept k)
theorem Inv.laid {a : Addr} {o : HO} {t' : Nat} (I : Inv X pins σ H s) (k : ∀ b u, s.heap.get? b = some u → h'.get? b = some u) (hp : s.heap.objs.size ≤ a) (new : ObjOk X.prog X.w (upd H a o) h' a o) :
    Inv X pins σ (upd H a o) { s with heap := h', toks := t' } := I.un (Un.laid k hp (I.hok.fresh hp)) (I.hok.laid k hp new)
theorem Inv.write {x e : Addr} {o : HO} {t' : Nat} (I : Inv X pins σ H s) (mu : Mut (H x)) (he : e = x ∨ H e = some (.own x)) (k : ∀ b u, b ≠ e → s.heap.get? b = some u → h'.get? b = some u) (heo : ∃ u, h'.get? e = some u)
    (new : ObjOk X.prog X.w (upd H x o) h' x o) : Inv X pins σ (upd H x o) { s with heap := h', toks := t' } := I.un (Un.write mu he k heo) (I.hok.write mu he k heo new)
theorem Inv.pins_of {pins' : List (Addr × Obj)} (I : Inv X pins σ H s) (h : ∀ p ∈ pins', s.heap.get? p.1 = some p.2 ∧ H p.1 = none ∧ p.1 ≠ X.env.locals ∧ p.1 ∉ X.fs ∧ ∀ v, p.2.data ≠ .cell v) : Inv X pins' σ H s :=
  ⟨I.ok, I.os, I.bare, I.base, I.loc, I.cell, I.free, I.freeC, fun p hp => (List.mem_append.mp hp).elim (fun z => I.pin p (List.mem_append_left _ z)) (h p), I.hok, I.len⟩

theorem nodup_ix {N : List Str} (hN : N.Nodup) {i j : Nat} {x : Str} (a : N[i]? = some x) (b : N[j]? = some x) : i = j := by
  obtain ⟨h1, e1⟩ := List.getElem?_eq_some_iff.mp a
  obtain ⟨h2, e2⟩ := List.getElem?_eq_some_iff.mp b
  exact (List.getElem_inj hN).mp (e1.trans e2.symm)

theorem store_ok2 {M : Model} {A : Around} {E : Value → Shared → Prop} {i : Nat} {x : Str} {v : V} {u : Value} {Q : Unit → Shared → Prop} (I : Inv X pins σ H s) (hN : X.N.Nodup) (hi : X.N[i]? = some x) (hx : Loc X.env.scope x) (r : RelV v u)
    (h : ∀ s', Inv X pins (σ.set i (some v)) H s' → (∃ a, Heap.SameBut a s.heap s'.heap ∧ (a = X.env.locals ∨ X.env.cells.lookup x = some a)) → Q () s') (hf : X.fn x = true ∨ X.env.scope.names.lookup x = some .local := by first | exact .inl rfl | exact .inr rfl | assumption) : wpAny M A (storeName X.env x u) Q E s := by
  obtain ⟨m, hn, hl⟩ := id I.loc
  have hcls : (X.env.scope.kind == .class || (X.env.scope.kind == .module && X.env.locals != X.env.globals)) = false := by rw [I.ok.kind]; rfl
  have hiσ : i < σ.length := by rw [I.len]; exact (List.getElem?_eq_some_iff.mp hi).1
  have cne := I.cne
  have tracked : ∀ {a : Addr} {h' : Heap}, (∃ o, s.heap.get? a = some o ∧ H a = none) → Heap.SameBut a s.heap h' → HOk X.prog X.w H h' := fun {a h'} ha hs b ob e => by
    obtain ⟨_, _, hfree⟩ := ha
    refine (I.hok b ob e).stay (fun c w' hc q => (hs.2 c ?_).trans q) (fun _ q => q) fun _ _ q => q
    rintro rfl
    rcases hc with rfl | hc
    · rw [hfree] at e; cases e
    · rw [hfree] at hc; cases hc
  rcases hx with hk | hk
  · refine wpAny_storeName_local hk hn (fun h' hn' hs => ?_) hcls
    obtain ⟨oL, _, _, hoL, _⟩ := id hn
    refine h _ ⟨I.ok, I.os, I.bare, ⟨fun b o e n hb hx => ?_, fun b o e n hb hx => ?_, I.base.free, fun b o e hx => ?_, I.base.tups, I.base.frzs, I.base.tbls⟩, ⟨_, hn', fun j y v' e1 e2 e3 => ?_⟩, fun y c e => ?_, I.free, I.freeC, fun p hp => ?_, tracked ⟨oL, hoL, I.free⟩ hs, by simpa using I.len⟩ ⟨_, hs, .inl rfl⟩
    · exact (hs.2 b (Nat.ne_of_lt (Nat.lt_of_lt_of_le (Heap.lt_size e) I.ok.above))).trans (I.base.keep b o e n hb hx)
    · obtain ⟨sl, e1⟩ := I.base.slot b o e n hb hx
      exact ⟨sl, (hs.2 b (Nat.ne_of_lt (Nat.lt_of_lt_of_le (Heap.lt_size e) I.ok.above))).trans e1⟩
    · obtain ⟨o', e1⟩ := I.base.there b o e hx
      exact ⟨o', (hs.2 b (Nat.ne_of_lt (Nat.lt_of_lt_of_le (Heap.lt_size e) I.ok.above))).trans e1⟩
    · by_cases hj : j = i
      · subst hj
        rw [hi] at e1; cases e1
        rw [List.getElem?_set_self hiσ] at e2
        cases e2
        exact ⟨u, r, .inl ⟨hk, by simp⟩⟩
      · rw [List.getElem?_set_ne (Ne.symm hj)] at e2
        obtain ⟨u', r', q⟩ := hl j y v' e1 e2 e3
        refine ⟨u', r', ?_⟩
        rcases q with ⟨k, e⟩ | ⟨k, c, e, z⟩
        · refine .inl ⟨k, ?_⟩
          have : y ≠ x := fun e => hj (nodup_ix hN e1 (e ▸ hi))
          simp [this, e]
        · exact .inr ⟨k, c, e, z.sameBut hs (cne y c e)⟩
    · obtain ⟨w', z⟩ := I.cell y c e
      exact ⟨w', z.sameBut hs (cne y c e)⟩
    · obtain ⟨e, n, ne, nf, d⟩ := I.pin p hp
      exact ⟨(hs.2 p.1 ne).trans e, n, ne, nf, d⟩
  · have hfn : X.fn x = true := by
      rcases hf with z | z
      · exact z
      · rw [z] at hk; cases hk
    obtain ⟨c, hc⟩ := I.ok.has x (.inl hk)
    obtain ⟨w', z⟩ := I.cell x c hc
    refine wpAny_storeName_cell I.ok.kind hk hc z (fun h' hc' hs => ?_)
    obtain ⟨oc, hoc, hocd⟩ := id z
    refine h { s with heap := h' } ⟨I.ok, I.os, I.bare, ⟨fun b o e n hb hx => ?_, fun b o e n hb hx => ?_, I.base.free, fun b o e hx => ?_, I.base.tups, I.base.frzs, I.base.tbls⟩, ⟨m, hn.sameBut hs (Ne.symm (cne x c hc)), fun j y v' e1 e2 e3 => ?_⟩, fun y c' e => ?_, I.free, I.freeC, fun p hp => ?_, tracked ⟨oc, hoc, I.freeC x c hc⟩ hs, by simpa using I.len⟩ ⟨c, hs, .inr hc⟩
    · exact (hs.2 b (Nat.ne_of_lt (Nat.lt_of_lt_of_le (Heap.lt_size e) (I.ok.cab x c hfn hc)))).trans (I.base.keep b o e n hb hx)
    · obtain ⟨sl, e1⟩ := I.base.slot b o e n hb hx
      exact ⟨sl, (hs.2 b (Nat.ne_of_lt (Nat.lt_of_lt_of_le (Heap.lt_size e) (I.ok.cab x c hfn hc)))).trans e1⟩
    · obtain ⟨o', e1⟩ := I.base.there b o e hx
      exact ⟨o', (hs.2 b (Nat.ne_of_lt (Nat.lt_of_lt_of_le (Heap.lt_size e) (I.ok.cab x c hfn hc)))).trans e1⟩
    · by_cases hj : j = i
      · subst hj
        rw [hi] at e1; cases e1
        rw [List.getElem?_set_self hiσ] at e2
        cases e2
        exact ⟨u, r, .inr ⟨.inl hk, c, hc, hc'⟩⟩
      · rw [List.getElem?_set_ne (Ne.symm hj)] at e2
        obtain ⟨u', r', q⟩ := hl j y v' e1 e2 e3
        refine ⟨u', r', ?_⟩
        rcases q with q | ⟨k, c', e, z'⟩
        · exact .inl q
        · refine .inr ⟨k, c', e, z'.sameBut hs ?_⟩
          rintro rfl
          exact hj (nodup_ix hN e1 (I.ok.inj _ _ _ e hc ▸ hi))
    · by_cases hcc : c' = c
      · subst hcc; exact ⟨_, hc'⟩
      · obtain ⟨w2, z2⟩ := I.cell y c' e
        exact ⟨w2, z2.sameBut hs hcc⟩
    · obtain ⟨e, n, ne, nf, d⟩ := I.pin p hp
      refine ⟨(hs.2 p.1 ?_).trans e, n, ne, nf, d⟩
      intro q
      rw [q, hoc] at e
      have q' : oc = p.2 := Option.some.inj e
      exact d w' (by rw [← q']; exact hocd)
theorem store_ok {M : Model} {A : Around} {E : Value → Shared → Prop} {i : Nat} {x : Str} {v : V} {u : Value} {Q : Unit → Shared → Prop} (I : Inv X pins σ H s) (hN : X.N.Nodup) (hi : X.N[i]? = some x) (hx : Loc X.env.scope x) (r : RelV v u)
    (h : ∀ s', Inv X pins (σ.set i (some v)) H s' → Q () s') (hf : X.fn x = true ∨ X.env.scope.names.lookup x = some .local := by first | exact .inl rfl | exact .inr rfl | assumption) : wpAny M A (storeName X.env x u) Q E s :=
  store_ok2 I hN hi hx r (fun s' I' _ => h s' I') hf
theorem Inv.call' {s' : Shared} {ch : List Addr} (I : Inv X pins σ H s) (ho : s'.os = s.os) (u : Un (frs X.stack) ch H H' s.heap s'.heap) (hok : HOk X.prog X.w H' s'.heap) (hg : AllBare s'.gens)
    (hch : ∀ b ∈ ch, (b ∈ X.ex ∨ X.s₀.heap.objs.size ≤ b) ∧ b ≠ X.env.locals ∧ (∀ x c, X.env.cells.lookup x = some c → c ≠ b) ∧ ∀ p ∈ X.pn ++ pins, p.1 ≠ b) : Inv X pins σ H' s' := by
  obtain ⟨h', g', d', t', o'⟩ := s'
  have e : o' = s.os := ho
  subst e
  exact I.call (g' := g') (t' := t') (d' := d') u hok hg hch
end

noncomputable abbrev XK := Value → Option Addr → Hp → Prop
noncomputable abbrev St := List (Option V)
noncomputable abbrev VK := V → Hp → Prop
noncomputable abbrev TE := St → Hp → VK → Prop
noncomputable abbrev TT := St → Hp → (Bool → Hp → Prop) → Prop
noncomputable abbrev TA := St → Hp → (List V → Hp → Prop) → Prop
structure Ends where
  nx : St → Hp → Prop
  rt : VK
  bk : St → Hp → Prop := fun _ _ => False
  ct : St → Hp → Prop := fun _ _ => False
noncomputable abbrev TS := Ends → St → Hp → Prop

noncomputable def EP (X : Cx) (pins : List (Addr × Obj)) (σ : St) (Q : VK) (u : Value) (s' : Shared) : Prop := ∃ v H', Inv X pins σ H' s' ∧ RelV v u ∧ Q v H'
noncomputable def TP (X : Cx) (pins : List (Addr × Obj)) (σ : St) (Q : Bool → Hp → Prop) (b : Bool) (s' : Shared) : Prop := ∃ H', Inv X pins σ H' s' ∧ Q b H'
noncomputable def AP (X : Cx) (pins : List (Addr × Obj)) (σ : St) (Q : List V → Hp → Prop) (us : List Value) (s' : Shared) : Prop := ∃ vs H', Inv X pins σ H' s' ∧ Vals vs us ∧ Q vs H'
noncomputable def SP (X : Cx) (pins : List (Addr × Obj)) (D : Ends) (f : Flow) (s' : Shared) : Prop :=
  match f with
  | .next => ∃ σ' H', Inv X pins σ' H' s' ∧ D.nx σ' H'
  | .brk => ∃ σ' H', Inv X pins σ' H' s' ∧ D.bk σ' H'
  | .cont => ∃ σ' H', Inv X pins σ' H' s' ∧ D.ct σ' H'
  | .ret u => ∃ v σ' H', Inv X pins σ' H' s' ∧ RelV v u ∧ D.rt v H'

structure PE (X : Cx) (e : Expr) (t : TE) : Prop where
  run : ∀ (pins : List (Addr × Obj)) (s : Shared) (σ : St) (H : Hp) (Q : VK), Inv X pins σ H s → t σ H Q → wpAny (model X.prog X.w) X.A (eval e X.env) (EP X pins σ Q) X.xe s
noncomputable instance {X : Cx} {e : Expr} {t : TE} : CoeFun (PE X e t) fun _ => ∀ (pins : List (Addr × Obj)) (s : Shared) (σ : St) (H : Hp) (Q : VK), Inv X pins σ H s → t σ H Q → wpAny (model X.prog X.w) X.A (eval e X.env) (EP X pins σ Q) X.xe s := ⟨PE.run⟩
structure PT (X : Cx) (e : Expr) (t : TT) : Prop where
  run : ∀ (pins : List (Addr × Obj)) (s : Shared) (σ : St) (H : Hp) (Q : Bool → Hp → Prop), Inv X pins σ H s → t σ H Q → wpAny (model X.prog X.w) X.A (isTrue e X.env (eval e X.env)) (TP X pins σ Q) X.xe s
noncomputable instance {X : Cx} {e : Expr} {t : TT} : CoeFun (PT X e t) fun _ => ∀ (pins : List (Addr × Obj)) (s : Shared) (σ : St) (H : Hp) (Q : Bool → Hp → Prop), Inv X pins σ H s → t σ H Q → wpAny (model X.prog X.w) X.A (isTrue e X.env (eval e X.env)) (TP X pins σ Q) X.xe s := ⟨PT.run⟩
structure PW (X : Cx) (e : Expr) (t : TT) : Prop where
  run : ∀ (whole : Sem Value) (pins : List (Addr × Obj)) (s : Shared) (σ : St) (H : Hp) (Q : Bool → Hp → Prop), Inv X pins σ H s → t σ H Q → wpAny (model X.prog X.w) X.A (isTrue e X.env whole) (TP X pins σ Q) X.xe s
noncomputable instance {X : Cx} {e : Expr} {t : TT} : CoeFun (PW X e t) fun _ => ∀ (whole : Sem Value) (pins : List (Addr × Obj)) (s : Shared) (σ : St) (H : Hp) (Q : Bool → Hp → Prop), Inv X pins σ H s → t σ H Q → wpAny (model X.prog X.w) X.A (isTrue e X.env whole) (TP X pins σ Q) X.xe s := ⟨PW.run⟩
theorem PW.pt {X : Cx} {e : Expr} {t : TT} (h : PW X e t) : PT X e t := ⟨h.run _⟩
structure PA (X : Cx) (es : List Expr) (t : TA) : Prop where
  run : ∀ (pos : Pos) (pins : List (Addr × Obj)) (s : Shared) (σ : St) (H : Hp) (Q : List V → Hp → Prop), Inv X pins σ H s → t σ H Q → wpAny (model X.prog X.w) X.A (spliced (backTo pos (starEach es X.env))) (AP X pins σ Q) X.xe s
noncomputable instance {X : Cx} {es : List Expr} {t : TA} : CoeFun (PA X es t) fun _ => ∀ (pos : Pos) (pins : List (Addr × Obj)) (s : Shared) (σ : St) (H : Hp) (Q : List V → Hp → Prop), Inv X pins σ H s → t σ H Q → wpAny (model X.prog X.w) X.A (spliced (backTo pos (starEach es X.env))) (AP X pins σ Q) X.xe s := ⟨PA.run⟩
structure PS (X : Cx) (st : Stmt) (t : TS) : Prop where
  run : ∀ (pins : List (Addr × Obj)) (s : Shared) (σ : St) (H : Hp) (D : Ends), Inv X pins σ H s → t D σ H → wpAny (model X.prog X.w) X.A (exec st X.env) (SP X pins D) X.xe s
noncomputable instance {X : Cx} {st : Stmt} {t : TS} : CoeFun (PS X st t) fun _ => ∀ (pins : List (Addr × Obj)) (s : Shared) (σ : St) (H : Hp) (D : Ends), Inv X pins σ H s → t D σ H → wpAny (model X.prog X.w) X.A (exec st X.env) (SP X pins D) X.xe s := ⟨PS.run⟩
structure PSs (X : Cx) (st : List Stmt) (t : TS) : Prop where
  run : ∀ (pins : List (Addr × Obj)) (s : Shared) (σ : St) (H : Hp) (D : Ends), Inv X pins σ H s → t D σ H → wpAny (model X.prog X.w) X.A (execs st X.env) (SP X pins D) X.xe s
noncomputable instance {X : Cx} {st : List Stmt} {t : TS} : CoeFun (PSs X st t) fun _ => ∀ (pins : List (Addr × Obj)) (s : Shared) (σ : St) (H : Hp) (D : Ends), Inv X pins σ H s → t D σ H → wpAny (model X.prog X.w) X.A (execs st X.env) (SP X pins D) X.xe s := ⟨PSs.run⟩
theorem thn {α : Type} {t : Sem α} {Q Q' : α → Shared → Prop} {M : Model} {A : Around} {E : Value → Shared → Prop} {s : Shared} (h : wpAny M A t Q E s) (hQ : ∀ a s, Q a s → Q' a s) : wpAny M A t Q' E s := wpAny_mono h hQ fun _ _ x => x
end L2

namespace L2
open PySem PySem.Spec PyProof.Rows
section
variable {X : Cx}

noncomputable def tVar (i : Nat) : TE := fun σ H Q => ∃ v, σ[i]? = some (some v) ∧ Q v H
noncomputable def tC (v : V) : TE := fun _ H Q => Q v H
theorem pe_var {i : Nat} {x : Str} {pos : Pos} (hN : X.N[i]? = some x) (hv : Vis X.env.scope x) (hd : (x == ("__debug__" : Str)) = false := by decide) (hcd : (x == ("__classdict__" : Str)) = false := by decide) : PE X (.Name x pos) (tVar i) := by
  constructor; intro pins s σ H Q I h
  obtain ⟨v, e, h⟩ := h
  obtain ⟨m, hn, hl⟩ := I.loc
  obtain ⟨u, r, l⟩ := hl i x v hN e hv
  have fin : EP X pins σ Q u s := ⟨v, H, I, r, h⟩
  rcases l with ⟨hk, hm⟩ | ⟨hk, c, hc, hcell⟩
  · exact wpAny_Name (wpAny_loadName_local I.ok.kind hk hn hm fin) hd
  · rcases hk with hk | hk
    · exact wpAny_Name (wpAny_loadName_cell I.ok.kind hk hc hcell fin) hd
    · exact wpAny_Name (wpAny_loadName_free I.ok.kind hk hc hcell fin hcd) hd
theorem pe_int {i j pos} : PE X (.Constant (.int i) j pos) (tC (.int i)) := ⟨fun _ _ _ H _ I h => wpAny_Constant_int ⟨.int i, H, I.tok _, ⟨_, rfl⟩, h⟩⟩
theorem pe_bl {b j pos} : PE X (.Constant (.bool b) j pos) (tC (.bl b)) := ⟨fun _ _ _ H _ I h => Constant_bool ⟨.bl b, H, I, rfl, h⟩⟩
theorem pe_non {j pos} : PE X (.Constant .none j pos) (tC .non) := ⟨fun _ _ _ H _ I h => Constant_none ⟨.non, H, I, rfl, h⟩⟩
theorem pe_str {x j pos} : PE X (.Constant (.str x) j pos) (tC (.str x)) := ⟨fun _ _ _ H _ I h => Calls.Constant_str ⟨.str x, H, I.tok _, ⟨_, rfl⟩, h⟩⟩

noncomputable def Gl (X : Cx) (x : Str) : Prop := X.env.kindOf x = some .globalImplicit
theorem ld_glob {E : Value → Shared → Prop} {pins : List (Addr × Obj)} {s : Shared} {σ : St} {H : Hp} {x : Str} {u : Value} {pos : Pos} {Q : Value → Shared → Prop} (I : Inv X pins σ H s) (hg : Gl X x) (hm : X.mg x = some u) (h : Q u s)
    (hd : (x == ("__debug__" : Str)) = false := by decide) : wpAny (model X.prog X.w) X.A (eval (.Name x pos) X.env) Q E s :=
  Calls.Name_function_global I.ok.kind hg (Calls.loadGlobal_global (by rw [I.ok.glob]; exact I.mod.glob.keeps I.bk) hm h) hd
theorem ld_blt {E : Value → Shared → Prop} {pins : List (Addr × Obj)} {s : Shared} {σ : St} {H : Hp} {x : Str} {u : Value} {pos : Pos} {Q : Value → Shared → Prop} (I : Inv X pins σ H s) (hg : Gl X x) (hm : X.mg x = none) (hv : bootBuiltins x = some u) (h : Q u s)
    (hn : x ≠ "__name__" := by decide) (hd : (x == ("__debug__" : Str)) = false := by decide) : wpAny (model X.prog X.w) X.A (eval (.Name x pos) X.env) Q E s := by
  obtain ⟨mb, h1, h2⟩ := I.mod.blt
  exact Calls.Name_function_global I.ok.kind hg (Calls.loadGlobal_builtin (by rw [I.ok.glob]; exact I.mod.glob.keeps I.bk) hm (by rw [I.ok.blt]; exact h1.keeps I.bk) ((h2 x hn).trans hv) h) hd
theorem pe_glob {x : Str} {v : V} {u : Value} {pos : Pos} (hg : Gl X x) (hm : X.mg x = some u) (r : RelV v u) (hd : (x == ("__debug__" : Str)) = false := by decide) : PE X (.Name x pos) (tC v) :=
  ⟨fun _ _ _ H _ I h => ld_glob I hg hm ⟨v, H, I, r, h⟩ hd⟩
theorem pe_bltn {x : Str} {v : V} {u : Value} {pos : Pos} (hg : Gl X x) (hm : X.mg x = none) (hv : bootBuiltins x = some u) (r : RelV v u) (hn : x ≠ "__name__" := by decide) (hd : (x == ("__debug__" : Str)) = false := by decide) : PE X (.Name x pos) (tC v) :=
  ⟨fun _ _ _ H _ I h => ld_blt I hg hm hv ⟨v, H, I, r, h⟩ hn hd⟩

variable {a b : Expr} {ta tb : TE} {pos : Pos}
noncomputable def tB (t : TE) : TT := fun σ H Q => t σ H fun x H1 => ∃ c, x = .bl c ∧ Q c H1
theorem pt_val {e : Expr} {t : TE} (h : PE X e t) (he : ∀ whole, isTrue e X.env whole = (do let v ← whole; standAt e.pos; holding [v] (truthy v)) := by intro _; rfl) : PT X e (tB t) := by
  constructor; intro pins s σ H Q I hw
  refine isTrue_plain (thn (h pins s σ H _ I hw) fun v s1 ⟨x, H1, I1, r1, q1⟩ => ?_) (he _)
  obtain ⟨d, rfl, q⟩ := q1
  cases r1
  exact wpAny_truthy_bool ⟨H1, I1, q⟩

variable {tA tB' : TT} {rest : List Expr}
noncomputable def tAnd (t u : TT) : TT := fun σ H Q => t σ H fun c H1 => if c = true then u σ H1 Q else Q false H1
noncomputable def tOr (t u : TT) : TT := fun σ H Q => t σ H fun c H1 => if c = true then Q true H1 else u σ H1 Q
noncomputable def tNot (t : TT) : TT := fun σ H Q => t σ H fun c H1 => Q (!c) H1
theorem pw_and1 (ha : PT X a tA) : PW X (.BoolOp .And [a] pos) tA := by
  constructor; intro wh pins s σ H Q I h
  refine isTrue_and (thn (ha pins s σ H Q I h) fun c s1 e => ?_)
  cases c with
  | true => exact isTrue_and_nil e
  | false => exact e
theorem pw_or1 (ha : PT X a tA) : PW X (.BoolOp .Or [a] pos) tA := by
  constructor; intro wh pins s σ H Q I h
  refine isTrue_or (thn (ha pins s σ H Q I h) fun c s1 e => ?_)
  cases c with
  | false => exact isTrue_or_nil e
  | true => exact e
theorem pw_and (ha : PT X a tA) (hb : PW X (.BoolOp .And (b :: rest) pos) tB') : PW X (.BoolOp .And (a :: b :: rest) pos) (tAnd tA tB') := by
  constructor; intro wh pins s σ H Q I h
  refine isTrue_and (thn (ha pins s σ H _ I h) fun c s1 ⟨H1, I1, q1⟩ => ?_)
  cases c with
  | true => exact hb wh pins s1 σ H1 Q I1 q1
  | false => exact ⟨H1, I1, q1⟩
theorem pw_or (ha : PT X a tA) (hb : PW X (.BoolOp .Or (b :: rest) pos) tB') : PW X (.BoolOp .Or (a :: b :: rest) pos) (tOr tA tB') := by
  constructor; intro wh pins s σ H Q I h
  refine isTrue_or (thn (ha pins s σ H _ I h) fun c s1 ⟨H1, I1, q1⟩ => ?_)
  cases c with
  | true => exact ⟨H1, I1, q1⟩
  | false => exact hb wh pins s1 σ H1 Q I1 q1
theorem pt_not (ha : PT X a tA) : PT X (.UnaryOp .Not a pos) (tNot tA) := by
  constructor; intro pins s σ H Q I h
  exact isTrue_not (ha pins s σ H (fun c H1 => Q (!c) H1) I h)
noncomputable def tAndV (ta tb : TE) : TE := fun σ H Q => ta σ H fun x H1 => ∃ c, x = .bl c ∧ if c = true then tb σ H1 Q else Q (.bl false) H1
noncomputable def tOrV (ta tb : TE) : TE := fun σ H Q => ta σ H fun x H1 => ∃ c, x = .bl c ∧ if c = true then Q (.bl true) H1 else tb σ H1 Q
noncomputable def tNotV (ta : TE) : TE := fun σ H Q => ta σ H fun x H1 => ∃ c, x = .bl c ∧ Q (.bl (!c)) H1
theorem pe_one {op} {t : TE} (h : PE X a t) : PE X (.BoolOp op [a] pos) t := ⟨fun pins s σ H Q I hw => BoolOp_one (h pins s σ H Q I hw)⟩
theorem pe_and (ha : PE X a ta) (hb : PE X (.BoolOp .And (b :: rest) pos) tb) : PE X (.BoolOp .And (a :: b :: rest) pos) (tAndV ta tb) := by
  constructor; intro pins s σ H Q I h
  refine BoolOp_and (thn (ha pins s σ H _ I h) fun v s1 ⟨x, H1, I1, r1, q1⟩ => ?_)
  obtain ⟨c, rfl, q1⟩ := q1
  cases r1
  refine wpAny_truthy_bool ?_
  cases c with
  | true => exact hb pins s1 σ H1 Q I1 q1
  | false => exact ⟨.bl false, H1, I1, rfl, q1⟩
theorem pe_or (ha : PE X a ta) (hb : PE X (.BoolOp .Or (b :: rest) pos) tb) : PE X (.BoolOp .Or (a :: b :: rest) pos) (tOrV ta tb) := by
  constructor; intro pins s σ H Q I h
  refine BoolOp_or (thn (ha pins s σ H _ I h) fun v s1 ⟨x, H1, I1, r1, q1⟩ => ?_)
  obtain ⟨c, rfl, q1⟩ := q1
  cases r1
  refine wpAny_truthy_bool ?_
  cases c with
  | false => exact hb pins s1 σ H1 Q I1 q1
  | true => exact ⟨.bl true, H1, I1, rfl, q1⟩
theorem pe_not (ha : PE X a ta) : PE X (.UnaryOp .Not a pos) (tNotV ta) := by
  constructor; intro pins s σ H Q I h
  refine UnaryOp_ (thn (ha pins s σ H _ I h) fun v s1 ⟨x, H1, I1, r1, q1⟩ => ?_)
  obtain ⟨c, rfl, q1⟩ := q1
  cases r1
  exact not_of (wpAny_truthy_bool ⟨.bl (!c), H1, I1, rfl, q1⟩)
noncomputable def tIf (t : TT) (ta tb : TE) : TE := fun σ H Q => t σ H fun c H1 => if c = true then ta σ H1 Q else tb σ H1 Q
theorem pe_ifExp {c : Expr} (hc : PT X c tA) (ha : PE X a ta) (hb : PE X b tb) : PE X (.IfExp c a b pos) (tIf tA ta tb) := by
  constructor; intro pins s σ H Q I h
  refine wpAny_IfExp (thn (hc pins s σ H _ I h) fun d s1 ⟨H1, I1, q1⟩ => ?_)
  cases d with
  | true => exact ha pins s1 σ H1 Q I1 q1
  | false => exact hb pins s1 σ H1 Q I1 q1
end
end L2

namespace L2
open PySem PySem.Spec PyProof.Rows

noncomputable def SqL (K : PySem.W.Frag) (H : Hp) (a : Addr) (xs : List V) : Prop :=
  Rd H a (.lst xs) ∨
    ∃ (o : Obj) (its : Array Value) (n : Nat), K.lookup a = some o ∧ o.cls = .type "list" ∧ o.dict = none ∧ o.data = .seq its n ∧ its.size ≤ sizeLine ∧ Vals xs its.toList
noncomputable def SqT (K : PySem.W.Frag) (H : Hp) (a : Addr) (xs : List V) : Prop :=
  Rd H a (.tup xs) ∨
    ∃ (o : Obj) (its : Array Value) (n : Nat), K.lookup a = some o ∧ o.cls = .type "tuple" ∧ o.data = .seq its n ∧ its.size ≤ sizeLine ∧ Vals xs its.toList
noncomputable def absV : Value → Option V
  | .none => some .non
  | .bool b => some (.bl b)
  | .int i _ => some (.int i)
  | .str x _ => some (.str x)
  | .bytes b _ => some (.byt b)
  | .float b _ => some (.flt b)
  | .ref a => some (.ref a)
  | .type n => some (.ty n)
  | _ => none
theorem RelV.abs {x : V} {u : Value} (r : RelV x u) : absV u = some x := by
  cases x with
  | non => cases r; rfl
  | bl _ => cases r; rfl
  | int _ => obtain ⟨t, rfl⟩ := r; rfl
  | str _ => obtain ⟨t, rfl⟩ := r; rfl
  | byt _ => obtain ⟨t, rfl⟩ := r; rfl
  | flt _ => obtain ⟨t, rfl⟩ := r; rfl
  | ref _ => cases r; rfl
  | ty _ => cases r; rfl
theorem RelV.inj {x y : V} {u : Value} (r : RelV x u) (q : RelV y u) : x = y := Option.some.inj (r.abs.symm.trans q.abs)
theorem Vals.inj : ∀ {xs ys : List V} {us : List Value}, Vals xs us → Vals ys us → xs = ys
  | _, _, _, .nil, .nil => rfl
  | _, _, _, .cons r t, .cons r' t' => by rw [r.inj r', Vals.inj t t']
section
variable {X : Cx} {pins : List (Addr × Obj)} {σ : St} {H : Hp} {s : Shared} {a : Addr} {xs ys : List V}
theorem SqL.of {K : PySem.W.Frag} (h : H a = some (.lst xs)) : SqL K H a xs := .inl (.inl h)
theorem SqT.of {K : PySem.W.Frag} (h : H a = some (.tup xs)) : SqT K H a xs := .inl (.inl h)
theorem Inv.list (I : Inv X pins σ H s) (h : SqL X.K H a xs) : ∃ its : List Value, Vals xs its ∧ PlainL s.heap a its.toArray ∧ xs.length ≤ sizeLine := by
  rcases h with h | ⟨o, its, n, hk, hc, hd, hs, hz, r⟩
  · obtain ⟨z, its, n, r, e⟩ := h.ok I.hok
    exact ⟨its, r, ⟨_, n, e, rfl, rfl, rfl⟩, z⟩
  · refine ⟨its.toList, r, ⟨o, n, I.kIn a o hk, hc, hd, by simpa using hs⟩, ?_⟩
    have e := r.length
    simp only [Array.length_toList] at e
    omega
theorem Inv.tuple (I : Inv X pins σ H s) (h : SqT X.K H a xs) : ∃ its : List Value, Vals xs its ∧ IsTup s.heap a its.toArray ∧ xs.length ≤ sizeLine := by
  rcases h with h | ⟨o, its, n, hk, hc, hs, hz, r⟩
  · obtain ⟨z, its, r, p⟩ := h.ok I.hok
    exact ⟨its, r, p, z⟩
  · refine ⟨its.toList, r, ⟨o, I.kIn a o hk, hc, n, by simpa using hs⟩, ?_⟩
    have e := r.length
    simp only [Array.length_toList] at e
    omega
theorem Inv.list_inj (I : Inv X pins σ H s) (h : SqL X.K H a xs) (h' : SqL X.K H a ys) : xs = ys := by
  obtain ⟨its, r, ⟨o, n, e, _, _, d⟩, _⟩ := I.list h
  obtain ⟨its', r', ⟨o', n', e', _, _, d'⟩, _⟩ := I.list h'
  rw [e] at e'; cases e'
  rw [d] at d'
  injection d' with d1 _
  have : its = its' := by simpa using congrArg Array.toList d1
  subst this
  exact r.inj r'
theorem Inv.tuple_inj (I : Inv X pins σ H s) (h : SqT X.K H a xs) (h' : SqT X.K H a ys) : xs = ys := by
  obtain ⟨its, r, ⟨o, e, _, n, d⟩, _⟩ := I.tuple h
  obtain ⟨its', r', ⟨o', e', _, n', d'⟩, _⟩ := I.tuple h'
  rw [e] at e'; cases e'
  rw [d] at d'
  injection d' with d1 _
  have : its = its' := by simpa using congrArg Array.toList d1
  subst this
  exact r.inj r'
end

noncomputable abbrev Cx.wish (X : Cx) (E : Value → Shared → Prop) : Cx := { X with xe := E }
noncomputable abbrev Cx.nox (X : Cx) : Cx := X.wish fun _ _ => False
theorem Cx.Ok.wish {X : Cx} (ok : X.Ok) (E : Value → Shared → Prop) : (X.wish E).Ok :=
  ⟨ok.mod, ok.kind, ok.glob, ok.blt, ok.above, ok.inj, ok.has, ok.cab, ok.hd, ok.frames, ok.stk, ok.exf, ok.bs, ok.bsz, ok.noex, ok.exfs, ok.funs, ok.frf⟩
theorem Cx.Ok.unwish {X : Cx} {E : Value → Shared → Prop} (ok : (X.wish E).Ok) : X.Ok :=
  ⟨ok.mod, ok.kind, ok.glob, ok.blt, ok.above, ok.inj, ok.has, ok.cab, ok.hd, ok.frames, ok.stk, ok.exf, ok.bs, ok.bsz, ok.noex, ok.exfs, ok.funs, ok.frf⟩
section
variable {X : Cx} {pins : List (Addr × Obj)} {σ : St} {H : Hp} {s : Shared} {E : Value → Shared → Prop}
theorem Inv.wish (I : Inv X pins σ H s) (E : Value → Shared → Prop) : Inv (X.wish E) pins σ H s := ⟨I.ok.wish E, I.os, I.bare, I.base, I.loc, I.cell, I.free, I.freeC, I.pin, I.hok, I.len⟩
theorem Inv.unwish (I : Inv (X.wish E) pins σ H s) : Inv X pins σ H s := ⟨I.ok.unwish, I.os, I.bare, I.base, I.loc, I.cell, I.free, I.freeC, I.pin, I.hok, I.len⟩
theorem SP.unwish {D : Ends} {f : Flow} {s' : Shared} (h : SP (X.wish E) pins D f s') : SP X pins D f s' := by
  cases f with
  | next => obtain ⟨σ', H', I, q⟩ := h; exact ⟨σ', H', I.unwish, q⟩
  | brk => obtain ⟨σ', H', I, q⟩ := h; exact ⟨σ', H', I.unwish, q⟩
  | cont => obtain ⟨σ', H', I, q⟩ := h; exact ⟨σ', H', I.unwish, q⟩
  | ret u => obtain ⟨v, σ', H', I, r, q⟩ := h; exact ⟨v, σ', H', I.unwish, r, q⟩
theorem PSs.nox {st : List Stmt} {t : TS} (h : PSs X.nox st t) : PSs X st t := ⟨fun pins s σ H D I hw =>
  wpAny_mono (h pins s σ H D (I.wish _) hw) (fun _ _ q => q.unwish) fun _ _ z => False.elim z⟩
end

section
variable {X : Cx} {st : Stmt} {rest : List Stmt} {t u : TS} {e : Expr} {te : TE} {pos : Pos}
noncomputable def tNext : TS := fun D σ H => D.nx σ H
noncomputable def tSeq (t u : TS) : TS := fun D σ H => t { D with nx := u D } σ H
theorem pss_nil : PSs X [] tNext := ⟨fun _ _ σ H _ I h => wpAny_execs_nil ⟨σ, H, I, h⟩⟩
theorem pss_cons (h1 : PS X st t) (h2 : PSs X rest u) : PSs X (st :: rest) (tSeq t u) := by
  constructor; intro pins s σ H D I h
  refine wpAny_execs_cons (thn (h1 pins s σ H { D with nx := u D } I h) fun f s1 q => ?_)
  cases f with
  | next =>
    obtain ⟨σ', H', I', q⟩ := q
    exact h2 pins s1 σ' H' D I' q
  | ret v => exact q
  | brk => exact q
  | cont => exact q
theorem pss_one (h1 : PS X st t) : PSs X [st] t := by
  constructor; intro pins s σ H D I h
  refine wpAny_execs_cons (thn (h1 pins s σ H D I h) fun f s1 q => ?_)
  cases f with
  | next => exact wpAny_execs_nil q
  | ret v => exact q
  | brk => exact q
  | cont => exact q
theorem Inv.quiet {pins : List (Addr × Obj)} {σ : St} {H : Hp} {s : Shared} (I : Inv X pins σ H s) : interactive X.env = false := by simp [interactive, I.ok.kind]
noncomputable def tDrop (te : TE) : TS := fun D σ H => te σ H fun _ H1 => D.nx σ H1
theorem ps_expr (he : PE X e te) (hs : swapsWith e none pos.line X.env = pure false := by rfl) : PS X (.Expr e pos) (tDrop te) := by
  constructor; intro pins s σ H D I h
  exact wpAny_Expr_any (thn (he pins s σ H _ I h) fun v s1 ⟨x, H1, I1, r1, q1⟩ => ⟨σ, H1, I1, q1⟩) I.quiet hs
noncomputable def tRet (te : TE) : TS := fun D σ H => te σ H D.rt
theorem ps_ret (he : PE X e te) : PS X (.Return (some e) pos) (tRet te) := by
  constructor; intro pins s σ H D I h
  exact wpAny_Return_some (thn (he pins s σ H _ I h) fun v s1 ⟨x, H1, I1, r1, q1⟩ => ⟨x, σ, H1, I1, r1, q1⟩)
noncomputable def tIfS (c : TT) (t u : TS) : TS := fun D σ H => c σ H fun b H1 => if b = true then t D σ H1 else u D σ H1
theorem ps_if {c : Expr} {a b : List Stmt} {tc : TT} (hc : PT X c tc) (ha : PSs X a t) (hb : PSs X b u) : PS X (.If c a b pos) (tIfS tc t u) := by
  constructor; intro pins s σ H D I h
  refine wpAny_If (thn (hc pins s σ H _ I h) fun d s1 ⟨H1, I1, q1⟩ => ?_)
  cases d with
  | true => exact ha pins s1 σ H1 D I1 q1
  | false => exact hb pins s1 σ H1 D I1 q1
noncomputable def tNever : TS := fun _ _ _ => False
theorem ps_never : PS X st tNever := ⟨fun _ _ _ _ _ _ h => h.elim⟩
end

noncomputable abbrev TG := V → St → Hp → (St → Hp → Prop) → Prop
noncomputable abbrev TGs := List V → St → Hp → (St → Hp → Prop) → Prop
structure PG (X : Cx) (target : Expr) (t : TG) : Prop where
  run : ∀ (pins : List (Addr × Obj)) (s : Shared) (σ : St) (H : Hp) (v : V) (u : Value) (Q : St → Hp → Prop), Inv X pins σ H s → RelV v u → t v σ H Q →
    wpAny (model X.prog X.w) X.A (assign target X.env u) (fun _ s' => ∃ σ' H', Inv X pins σ' H' s' ∧ Q σ' H') X.xe s
noncomputable instance {X : Cx} {target : Expr} {t : TG} : CoeFun (PG X target t) fun _ => ∀ (pins : List (Addr × Obj)) (s : Shared) (σ : St) (H : Hp) (v : V) (u : Value) (Q : St → Hp → Prop), Inv X pins σ H s → RelV v u → t v σ H Q →
    wpAny (model X.prog X.w) X.A (assign target X.env u) (fun _ s' => ∃ σ' H', Inv X pins σ' H' s' ∧ Q σ' H') X.xe s := ⟨PG.run⟩
structure PGs (X : Cx) (ts : List Expr) (t : TGs) : Prop where
  run : ∀ (pins : List (Addr × Obj)) (s : Shared) (σ : St) (H : Hp) (vs : List V) (us : List Value) (Q : St → Hp → Prop), Inv X pins σ H s → Vals vs us → t vs σ H Q →
    wpAny (model X.prog X.w) X.A (assignInOrder ((assignEach ts X.env).map (·.2)) us) (fun _ s' => ∃ σ' H', Inv X pins σ' H' s' ∧ Q σ' H') X.xe s
noncomputable instance {X : Cx} {ts : List Expr} {t : TGs} : CoeFun (PGs X ts t) fun _ => ∀ (pins : List (Addr × Obj)) (s : Shared) (σ : St) (H : Hp) (vs : List V) (us : List Value) (Q : St → Hp → Prop), Inv X pins σ H s → Vals vs us → t vs σ H Q →
    wpAny (model X.prog X.w) X.A (assignInOrder ((assignEach ts X.env).map (·.2)) us) (fun _ s' => ∃ σ' H', Inv X pins σ' H' s' ∧ Q σ' H') X.xe s := ⟨PGs.run⟩
noncomputable abbrev TSet := V → V → V → Hp → (Hp → Prop) → Prop
noncomputable def PSet (X : Cx) (t : TSet) : Prop :=
  ∀ (pins : List (Addr × Obj)) (s : Shared) (σ : St) (H : Hp) (o i v : V) (ov iv u : Value) (Q : Hp → Prop), Inv X pins σ H s → RelV o ov → RelV i iv → RelV v u → t o i v H Q →
    wpAny (model X.prog X.w) X.A (setItem ov iv u) (fun _ s' => ∃ H', Inv X pins σ H' s' ∧ Q H') X.xe s
section
variable {X : Cx} {pos : Pos}
noncomputable def gName (i : Nat) : TG := fun v σ H Q => Q (σ.set i (some v)) H
theorem pg_name {i : Nat} {x : Str} (hN : X.N.Nodup) (hi : X.N[i]? = some x) (hx : Loc X.env.scope x) (hf : X.fn x = true ∨ X.env.scope.names.lookup x = some .local := by first | exact .inl rfl | exact .inr rfl | assumption) : PG X (.Name x pos) (gName i) := by
  constructor; intro pins s σ H v u Q I r h
  exact wpAny_assign_Name (store_ok I hN hi hx r (fun s' I' => ⟨_, H, I', h⟩) hf)
noncomputable def gNil : TGs := fun vs σ H Q => vs = [] ∧ Q σ H
noncomputable def gCons (t : TG) (u : TGs) : TGs := fun vs σ H Q => ∃ v r, vs = v :: r ∧ t v σ H fun σ' H' => u r σ' H' Q
theorem pgs_nil : PGs X [] gNil := by
  constructor; intro pins s σ H vs us Q I r h
  obtain ⟨e, h⟩ := h
  subst e
  cases r
  exact assignInOrder_nil ⟨σ, H, I, h⟩
theorem pgs_cons {e : Expr} {es : List Expr} {t : TG} {u : TGs} (h1 : PG X e t) (h2 : PGs X es u)
    (hs : (assignEach (e :: es) X.env).map (·.2) = assign e X.env :: (assignEach es X.env).map (·.2) := by rfl) : PGs X (e :: es) (gCons t u) := by
  constructor; intro pins s σ H vs us Q I r h
  obtain ⟨v, vr, e1, h⟩ := h
  subst e1
  cases r with
  | cons r rr =>
    rw [hs]
    refine assignInOrder_cons (thn (h1 pins s σ H _ _ _ I r h) fun _ s1 ⟨σ1, H1, I1, q1⟩ => ?_)
    exact h2 pins s1 σ1 H1 _ _ Q I1 rr q1
noncomputable def gTup (K : PySem.W.Frag) (n : Nat) (t : TGs) : TG := fun v σ H Q => ∃ a xs, v = .ref a ∧ SqT K H a xs ∧ xs.length = n ∧ t xs σ H Q
theorem pg_tup {es : List Expr} {k : Nat} {t : TGs} {n : Nat} (hc : X.calm = true) (h : PGs X es t)
    (hn : (assignEach es X.env).length = n := by rfl) (hst : (assignEach es X.env).findIdx? (·.1) = none := by rfl) : PG X (.Tuple es k pos) (gTup X.K n t) := by
  constructor; intro pins s σ H v u Q I r hw
  obtain ⟨a, xs, e1, hq, hl, hw⟩ := hw
  subst e1
  cases r
  obtain ⟨its, rv, ht, hz⟩ := I.tuple hq
  refine assign_Tuple_tuple (I.ok.hd hc) ht (by simp [hn, ← hl, rv.length]) hst fun h' hx => ?_
  have I1 : Inv X pins σ H { s with heap := h' } := I.kept (t' := s.toks) fun b o e => hx b o (Nat.ne_of_lt (Heap.lt_size e)) e
  exact h pins _ σ H xs _ Q I1 (by simpa using rv) hw
noncomputable def gSub (to ti : TE) (t : TSet) : TG := fun v σ H Q => to σ H fun o H1 => ti σ H1 fun i H2 => t o i v H2 fun H3 => Q σ H3
theorem pg_sub {o i : Expr} {to ti : TE} {t : TSet} (ho : PE X o to) (hi : PE X i ti) (hs : PSet X t)
    (ha : ∀ v, assign (.Subscript o i pos) X.env v = (do
      let ov ← holding [v] (eval o X.env)
      let iv ← holding [v, ov] (eval i X.env)
      standAt pos
      holding [v, ov, iv] (setItem ov iv v)
      release [v, ov, iv] []) := by intro _; rfl) : PG X (.Subscript o i pos) (gSub to ti t) := by
  constructor; intro pins s σ H v u Q I r h
  rw [ha]
  refine wpAny_bind (wpAny_holding (thn (ho pins s σ H _ I h) fun ov s1 ⟨x, H1, I1, r1, q1⟩ => ?_))
  refine wpAny_bind (wpAny_holding (thn (hi pins s1 σ H1 _ I1 q1) fun iv s2 ⟨y, H2, I2, r2, q2⟩ => ?_))
  refine wpAny_bind (wpAny_standAt (wpAny_bind (wpAny_holding (thn (hs pins s2 σ H2 x y v ov iv u _ I2 r1 r2 r q2) fun _ s3 ⟨H3, I3, q3⟩ => ?_))))
  exact wpAny_release ⟨σ, H3, I3, q3⟩
noncomputable def tAsg (te : TE) (g : TG) : TS := fun D σ H => te σ H fun x H1 => g x σ H1 D.nx
theorem ps_asg {tg e : Expr} {te : TE} {g : TG} (he : PE X e te) (hg : PG X tg g) (hs : swapsWithSole [tg] e pos.line X.env = pure false := by rfl) (hw : swappedStores [tg] e X.env = pure none := by rfl)
    (h1 : (assignEach [tg] X.env).map (·.2) = [assign tg X.env] := by rfl) : PS X (.Assign [tg] e pos) (tAsg te g) := by
  constructor; intro pins s σ H D I h
  refine wpAny_Assign_stores (thn (he pins s σ H _ I h) fun v s1 ⟨x, H1, I1, r1, q1⟩ => ?_) hs hw
  rw [h1]
  exact thn (hg pins s1 σ H1 x v _ I1 r1 q1) fun _ s2 q => q
theorem ps_set {i : Nat} {x : Str} {e : Expr} {te : TE} {pos' : Pos} (hN : X.N.Nodup) (hi : X.N[i]? = some x) (hx : Loc X.env.scope x) (he : PE X e te) (hs : swapsWith e (some (.Name x pos')) pos.line X.env = pure false := by rfl) (hf : X.fn x = true ∨ X.env.scope.names.lookup x = some .local := by first | exact .inl rfl | exact .inr rfl | assumption) :
    PS X (.Assign [.Name x pos'] e pos) (tAsg te (gName i)) := by
  constructor; intro pins s σ H D I h
  refine wpAny_Assign_Name (thn (he pins s σ H _ I h) fun v s1 ⟨y, H1, I1, r1, q1⟩ => ?_) hs
  exact store_ok I1 hN hi hx r1 (fun s2 I2 => ⟨_, H1, I2, q1⟩) hf
end

section
variable {X : Cx} {pos : Pos}
noncomputable def tWhile (c : TT) (tb : TS) : TS := fun D σ H => ∃ W : Nat → St → Hp → Prop, (∃ m, W m σ H) ∧ ∀ m σ H, W m σ H →
  c σ H fun b H1 => if b = true then ∃ N : St → Hp → Prop, (∀ σ' H', N σ' H' → ∃ m', m' < m ∧ W m' σ' H') ∧ tb { D with nx := N, ct := N, bk := D.nx } σ H1 else D.nx σ H1
theorem ps_while {c : Expr} {body : List Stmt} {tc : TT} {tb : TS} (hp : PassesOwn (model X.prog X.w) X.A X.env X.xe) (hc : PT X c tc) (hb : PSs X body tb) : PS X (.While c body [] pos) (tWhile tc tb) := by
  constructor; intro pins s σ H D I h
  obtain ⟨W, ⟨m0, w0⟩, turn⟩ := h
  refine wpAny_While (codeAny_whileLoop (fun n s' => ∃ σ' H', Inv X pins σ' H' s' ∧ W n σ' H') ?_ m0 ⟨σ, H, I, w0⟩)
  rintro n s1 ⟨σ1, H1, I1, w1⟩
  refine wpAny_passesOwn hp (thn (hc pins s1 σ1 H1 _ I1 (turn n σ1 H1 w1)) fun b s2 ⟨H2, I2, q2⟩ => ?_)
  cases b with
  | true =>
    obtain ⟨N, hN, q2⟩ := q2
    rw [if_pos rfl]
    refine wpAny_passesOwn hp (thn (hb pins s2 σ1 H2 _ I2 q2) fun f s3 q3 => ?_)
    cases f with
    | next =>
      obtain ⟨σ3, H3, I3, n3⟩ := q3
      obtain ⟨m', hm, w3⟩ := hN σ3 H3 n3
      exact ⟨m', hm, σ3, H3, I3, w3⟩
    | cont =>
      obtain ⟨σ3, H3, I3, n3⟩ := q3
      obtain ⟨m', hm, w3⟩ := hN σ3 H3 n3
      exact ⟨m', hm, σ3, H3, I3, w3⟩
    | brk => exact q3
    | ret v => exact q3
  | false =>
    rw [if_neg Bool.false_ne_true]
    exact wpAny_execs_nil ⟨σ1, H2, I2, q2⟩
end

structure It where
  go : Nat → Hp → Prop
  yld : Nat → Hp → V → Hp → Prop
  stop : Nat → Hp → Prop
noncomputable def FpOk (X : Cx) (pins : List (Addr × Obj)) (H : Hp) (b : Addr) : Prop :=
  H b = none ∧ b ≠ X.env.locals ∧ b ∉ X.fs ∧ (b ∈ X.ex ∨ X.s₀.heap.objs.size ≤ b) ∧ (∀ x c, X.env.cells.lookup x = some c → c ≠ b) ∧ ∀ p ∈ X.pn ++ pins, p.1 ≠ b
theorem Inv.fpOk {X : Cx} {pins : List (Addr × Obj)} {σ : St} {H H' : Hp} {s : Shared} {b : Addr} (I : Inv X pins σ H s) (hb : s.heap.objs.size ≤ b) (hn : H' b = none) : FpOk X pins H' b := by
  refine ⟨hn, Nat.ne_of_gt (Nat.lt_of_lt_of_le I.lt hb), I.nofs hb, .inr (Nat.le_trans I.sz hb), fun x c e z => ?_, fun p hp z => ?_⟩
  · obtain ⟨v, q⟩ := I.cell x c e
    exact absurd (Nat.lt_of_lt_of_le q.lt (by rw [z]; exact hb)) (Nat.lt_irrefl _)
  · exact absurd (Nat.lt_of_lt_of_le (Heap.lt_size (I.pin p hp).1) (by rw [z]; exact hb)) (Nat.lt_irrefl _)
structure Turn (P : Program) (w : World) (K : PySem.W.Frag) (tg : Expr) (J : It) (fp : List Addr) (it : Addr) (tn : Nat → Heap → Prop) : Prop where
  mem : it ∈ fp
  obj : ∀ i h, tn i h → ∀ b ∈ fp, ∃ o, h.get? b = some o ∧ ∀ v, o.data ≠ .cell v
  keep : ∀ i h h', tn i h → (∀ b ∈ fp, ∀ o, h.get? b = some o → h'.get? b = some o) → tn i h'
  item : ∀ (X : Cx), X.prog = P → X.w = w → X.K = K → X.calm = true → ∀ (i : Nat) (pins : List (Addr × Obj)) (s : Shared) (σ : St) (H : Hp) (E : Value → Shared → Prop), Inv X pins σ H s → (∀ b ∈ fp, FpOk X pins H b) → tn i s.heap → J.go i H →
    wpAny (model P w) X.A (pyNext (.ref it)) (fun r s1 => ∃ u, r = some u ∧
      wpAny (model P w) X.A (letOwnedTupleGo tg (.ref it) u) (fun _ s2 => ∃ x H', Inv X pins σ H' s2 ∧ RelV x u ∧ J.yld i H x H' ∧ tn (i + 1) s2.heap ∧ ∀ b ∈ fp, H' b = none) E s1) E s
  done : ∀ (X : Cx), X.prog = P → X.w = w → X.K = K → X.calm = true → ∀ (i : Nat) (pins : List (Addr × Obj)) (s : Shared) (σ : St) (H : Hp) (E : Value → Shared → Prop), Inv X pins σ H s → (∀ b ∈ fp, FpOk X pins H b) → tn i s.heap → J.stop i H →
    wpAny (model P w) X.A (pyNext (.ref it)) (fun r s1 => r = none ∧ Inv X pins σ H s1) E s
  self : ∀ (A : Around) (i : Nat) (s : Shared) (Q : Value → Shared → Prop) (E : Value → Shared → Prop), tn i s.heap → Q (.ref it) s → wpAny (model P w) A (pyIter (.ref it)) Q E s
noncomputable abbrev TI := St → Hp → (It → Hp → Prop) → Prop
noncomputable def PIE (X : Cx) (pins : List (Addr × Obj)) (σ : St) (tg : Expr) (R : It → Hp → Prop) (itv : Value) (s2 : Shared) : Prop :=
  ∃ (it : Addr) (fp : List Addr) (tn : Nat → Heap → Prop) (J : It) (H' : Hp), itv = .ref it ∧ Inv X pins σ H' s2 ∧ Turn X.prog X.w X.K tg J fp it tn ∧ tn 0 s2.heap ∧ (∀ b ∈ fp, FpOk X pins H' b) ∧ R J H'
structure PI (X : Cx) (tg iter : Expr) (wi : TI) : Prop where
  run : ∀ (pins : List (Addr × Obj)) (s : Shared) (σ : St) (H : Hp) (R : It → Hp → Prop), Inv X pins σ H s → wi σ H R →
    wpAny (model X.prog X.w) X.A (eval iter X.env) (fun v s1 => wpAny (model X.prog X.w) X.A (pyIter v) (PIE X pins σ tg R) X.xe s1) X.xe s
noncomputable instance {X : Cx} {tg iter : Expr} {wi : TI} : CoeFun (PI X tg iter wi) fun _ => ∀ (pins : List (Addr × Obj)) (s : Shared) (σ : St) (H : Hp) (R : It → Hp → Prop), Inv X pins σ H s → wi σ H R →
    wpAny (model X.prog X.w) X.A (eval iter X.env) (fun v s1 => wpAny (model X.prog X.w) X.A (pyIter v) (PIE X pins σ tg R) X.xe s1) X.xe s := ⟨PI.run⟩

theorem go_of {M : Model} {A : Around} {E : Value → Shared → Prop} {s : Shared} {tg : Expr} {it : Addr} {u : Value} {o : Obj} {n : String} {vs : Array Value} {Q : Unit → Shared → Prop} (ho : s.heap.get? it = some o) (hc : o.cls = .type n) (hd : o.data = .fields vs)
    (hn : ["enumerate", "zip", "dict_itemiterator", "dict_reverseitemiterator", "odict_iterator", "itertools.zip_longest", "itertools.pairwise"].contains n = false) (hQ : Q () s) : wpAny M A (letOwnedTupleGo tg (.ref it) u) Q E s := by
  unfold letOwnedTupleGo
  cases tg <;> first
    | exact wpAny_pure hQ
    | (cases u <;> first
        | exact wpAny_pure hQ
        | (refine wpAny_bind (wpAny_load ho ?_)
           rw [hc, hd]
           show wpAny M A (if (["enumerate", "zip", "dict_itemiterator", "dict_reverseitemiterator", "odict_iterator", "itertools.zip_longest", "itertools.pairwise"].contains n && vs[0]? == some (rawInt _)) = true then _ else _) Q E s
           rw [if_neg (by intro h; rw [hn, Bool.false_and] at h; cases h)]
           exact wpAny_pure hQ))

noncomputable def Itl (K : PySem.W.Frag) (a : Addr) : It :=
  ⟨fun i H => ∃ xs x, SqL K H a xs ∧ xs[i]? = some x, fun i H x H' => H' = H ∧ ∀ xs, SqL K H a xs → xs[i]? = some x, fun i H => ∃ xs, SqL K H a xs ∧ xs.length ≤ i⟩
noncomputable def Itt (K : PySem.W.Frag) (a : Addr) : It :=
  ⟨fun i H => ∃ xs x, SqT K H a xs ∧ xs[i]? = some x, fun i H x H' => H' = H ∧ ∀ xs, SqT K H a xs → xs[i]? = some x, fun i H => ∃ xs, SqT K H a xs ∧ xs.length ≤ i⟩
noncomputable def Itr (lo : Int) (n : Nat) : It := ⟨fun i _ => i < n, fun i H x H' => H' = H ∧ x = .int (lo + i), fun i _ => n ≤ i⟩
theorem turn_list {P : Program} {w : World} {K : PySem.W.Frag} {tg : Expr} (a it : Addr) : Turn P w K tg (Itl K a) [it] it (fun i h => h.IsListIter it a i) where
  mem := by simp
  obj := fun i h st b hb => by
    have e : b = it := by simpa using hb
    subst e
    obtain ⟨o, e, c, d⟩ := st
    exact ⟨o, e, fun v z => by rw [d] at z; cases z⟩
  keep := fun i h h' st k => st.at fun o e => k it (by simp) o e
  item := by
    intro X hP hw hK hc i pins s σ H E I hf st hg
    subst hP hw hK
    obtain ⟨xs, x, hq, hx⟩ := hg
    obtain ⟨its, rv, p, hz⟩ := I.list hq
    obtain ⟨u, hu, ru⟩ := rv.get hx
    obtain ⟨f0, f1, f2, f3, f4, f5⟩ := hf it (by simp)
    refine wpAny_pyNext_list_item st p.isList (x := u) (by simpa using hu) fun h' st' sb => ?_
    have I1 : Inv X pins σ H { s with heap := h' } := I.turned (t' := s.toks) (fun b o hb e => (sb.2 b hb).trans e) f0 f1 f3 f4 f5
    obtain ⟨o, e, c, d⟩ := id st'
    exact ⟨u, rfl, go_of (s := { s with heap := h' }) e c d (by decide) ⟨x, H, I1, ru, ⟨rfl, fun ys hy => by rw [I.list_inj hy hq]; exact hx⟩, st', fun b hb => (hf b hb).1⟩⟩
  done := by
    intro X hP hw hK hc i pins s σ H E I hf st hg
    subst hP hw hK
    obtain ⟨xs, hq, hx⟩ := hg
    obtain ⟨its, rv, p, hz⟩ := I.list hq
    obtain ⟨f0, f1, f2, f3, f4, f5⟩ := hf it (by simp)
    have hl := rv.length
    exact wpAny_pyNext_list_end (I.ok.hd hc) st p.isList (by simp; omega) fun h' eb => ⟨rfl, I.turned (t' := s.toks) (fun b o hb e => eb b o hb e) f0 f1 f3 f4 f5⟩
  self := fun _ _ _ _ _ st h => wpAny_pyIter_listiter st h
theorem turn_range {P : Program} {w : World} {K : PySem.W.Frag} {tg : Expr} (it : Addr) (lo : Int) (n : Nat) : Turn P w K tg (Itr lo n) [it] it (fun i h => IsRangeIter h it (lo + (i : Nat) * 1) ((n : Int) - (i : Nat)) 1) where
  mem := by simp
  obj := fun i h st b hb => by
    have e : b = it := by simpa using hb
    subst e
    exact ⟨_, st, fun v z => by
      have z' : Data.fields _ = Data.cell v := z
      cases z'⟩
  keep := fun i h h' st k => k it (by simp) _ st
  item := by
    intro X hP hw hK hc i pins s σ H E I hf st hg
    subst hP hw hK
    obtain ⟨f0, f1, f2, f3, f4, f5⟩ := hf it (by simp)
    have W := Walks.range (prog := X.prog) (w := X.w) (I.ok.hd hc) it lo 1 n
    refine W.item i s _ _ hg st fun v h' tk hv st' kk => ?_
    obtain ⟨t, rfl⟩ := hv
    have I1 : Inv X pins σ H { s with heap := h', toks := tk } := I.turned (fun b o hb e => kk b o (by simpa using hb) e) f0 f1 f3 f4 f5
    refine ⟨_, rfl, go_of (s := { s with heap := h', toks := tk }) (n := "range_iterator") st' rfl rfl (by decide) ⟨.int (lo + i), H, I1, ⟨t, ?_⟩, ⟨rfl, rfl⟩, st', fun b hb => (hf b hb).1⟩⟩
    rw [Int.mul_one]
  done := by
    intro X hP hw hK hc i pins s σ H E I hf st hg
    subst hP hw hK
    obtain ⟨f0, f1, f2, f3, f4, f5⟩ := hf it (by simp)
    exact wpAny_pyNext_range_end (I.ok.hd hc) st (by have : n ≤ i := hg; omega) fun h' eb => ⟨rfl, I.turned (t' := s.toks) (fun b o hb e => eb b o hb e) f0 f1 f3 f4 f5⟩
  self := fun _ _ _ _ _ st h => wpAny_pyIter_rangeiter st h
end L2

namespace L2
open PySem PySem.Spec PyProof.Rows
section
variable {X : Cx} {tg : Expr}
noncomputable def iList (K : PySem.W.Frag) (tl : TE) : TI := fun σ H R => tl σ H fun x H1 => ∃ a, x = .ref a ∧ (∃ xs, SqL K H1 a xs) ∧ R (Itl K a) H1
theorem pi_list {l : Expr} {tl : TE} (hl : PE X l tl) : PI X tg l (iList X.K tl) := by
  constructor; intro pins s σ H R I h
  refine thn (hl pins s σ H _ I h) fun v s1 ⟨x, H1, I1, r1, q1⟩ => ?_
  obtain ⟨a, e, ⟨xs, hq⟩, q⟩ := q1
  subst e
  cases r1
  obtain ⟨its, rv, p, hz⟩ := I1.list hq
  refine wpAny_pyIter_list p.isList ?_
  refine ⟨s1.heap.objs.size, [s1.heap.objs.size], _, _, H1, rfl, I1.kept (t' := s1.toks) fun b o e => Heap.get?_push_of_some _ e, turn_list a _, ⟨_, Heap.get?_push_size _ rfl, rfl, rfl⟩, fun b hb => ?_, q⟩
  have e : b = s1.heap.objs.size := by simpa using hb
  subst e
  exact I1.fpOk (Nat.le_refl _) (I1.hok.fresh (Nat.le_refl _))
theorem range_it {pins : List (Addr × Obj)} {σ : St} {H : Hp} {s : Shared} {R : It → Hp → Prop} {E : Value → Shared → Prop} {lo hi : Int} {t u v : Tok} {tk : Nat} (I : Inv X pins σ H s) (h1 : -(2 ^ 62) ≤ lo) (h2 : lo < 2 ^ 62) (h3 : -(2 ^ 62) ≤ hi) (h4 : hi < 2 ^ 62)
    (q : R (Itr lo (hi - lo).toNat) H) : wpAny (model X.prog X.w) X.A (pyIter (.ref s.heap.objs.size)) (PIE X pins σ tg R) E { s with heap := s.heap.push { cls := .type "range", data := .fields #[.int lo t, .int hi u, .int 1 v] }, toks := tk } := by
  refine wpAny_pyIter_range (IsRange.new ..) (small_one h1 h2 h3 h4) ?_
  have I1 : Inv X pins σ H { s with heap := s.heap.push { cls := .type "range", data := .fields #[.int lo t, .int hi u, .int 1 v] }, toks := tk } := I.kept fun b o e => Heap.get?_push_of_some _ e
  refine ⟨(s.heap.push { cls := .type "range", data := .fields #[.int lo t, .int hi u, .int 1 v] }).objs.size, [(s.heap.push { cls := .type "range", data := .fields #[.int lo t, .int hi u, .int 1 v] }).objs.size], _, _, H, rfl,
    I1.kept (t' := tk) fun b o e => Heap.get?_push_of_some _ e, turn_range _ lo (hi - lo).toNat, ?_, fun b hb => ?_, q⟩
  · have e1 : lo + ((0 : Nat) : Int) * 1 = lo := by simp
    have e2 : (((hi - lo).toNat : Nat) : Int) - ((0 : Nat) : Int) = Builtin.Range.rangeSize lo hi 1 := by rw [rangeSize_one]; split <;> omega
    show IsRangeIter _ _ (lo + ((0 : Nat) : Int) * 1) ((((hi - lo).toNat : Nat) : Int) - ((0 : Nat) : Int)) 1
    rw [e1, e2]
    exact Heap.get?_push_size _ rfl
  · have e : b = (s.heap.push { cls := .type "range", data := .fields #[.int lo t, .int hi u, .int 1 v] }).objs.size := by simpa using hb
    subst e
    exact I1.fpOk (Nat.le_refl _) (I1.hok.fresh (Nat.le_refl _))
noncomputable def iRng1 (ta : TA) : TI := fun σ H R => ta σ H fun vs H1 => ∃ j : Int, vs = [.int j] ∧ -(2 ^ 62) ≤ j ∧ j < 2 ^ 62 ∧ R (Itr 0 j.toNat) H1
theorem pi_range1 {a : Expr} {ta : TA} {p pos : Pos} (hg : Gl X "range") (hm : X.mg "range" = none) (ha : PA X [a] ta) (hs : starEach [a] X.env = [(false, eval a X.env)] := by rfl) : PI X tg (.Call (.Name "range" p) [a] [] pos) (iRng1 ta) := by
  constructor; intro pins s σ H R I h
  refine Call_ (ld_blt I hg hm boot_range (PyProof.Rows.callWith_type1 (thn (ha pos pins s σ H _ I h) fun us s1 ⟨vs, H1, I1, r1, q1⟩ => ?_) hs rfl))
  obtain ⟨j, e, q1, q2, q⟩ := q1
  subst e
  cases r1 with
  | cons r rr =>
    cases rr
    obtain ⟨t, rfl⟩ := r
    exact call_range_1 (range_it I1 (by omega) (by omega) q1 q2 (by simpa using q))
noncomputable def tFor (wi : TI) (g : TG) (tb : TS) : TS := fun D σ H => wi σ H fun J H1 => ∃ W : Nat → Nat → St → Hp → Prop, (∃ m, W 0 m σ H1) ∧ ∀ i m σ H, W i m σ H →
  (J.stop i H ∧ D.nx σ H) ∨ (J.go i H ∧ ∃ N : St → Hp → Prop, (∀ σ' H', N σ' H' → ∃ m', m' < m ∧ W (i + 1) m' σ' H') ∧ ∀ x H', J.yld i H x H' → g x σ H' fun σ2 H2 => tb { D with nx := N, ct := N, bk := D.nx } σ2 H2)
noncomputable def pinsAt (fp : List Addr) (h : Heap) : List (Addr × Obj) := fp.filterMap fun b => (h.get? b).map fun o => (b, o)
theorem mem_pinsAt {fp : List Addr} {h : Heap} {b : Addr} {o : Obj} (hb : b ∈ fp) (e : h.get? b = some o) : (b, o) ∈ pinsAt fp h := List.mem_filterMap.mpr ⟨b, hb, by rw [e]; rfl⟩
theorem of_pinsAt {fp : List Addr} {h : Heap} {p : Addr × Obj} (hp : p ∈ pinsAt fp h) : p.1 ∈ fp ∧ h.get? p.1 = some p.2 := by
  obtain ⟨b, hb, e⟩ := List.mem_filterMap.mp hp
  cases q : h.get? b with
  | none => rw [q] at e; cases e
  | some o =>
    rw [q] at e
    have e' : (b, o) = p := Option.some.inj e
    subst e'
    exact ⟨hb, q⟩
theorem Inv.pinned {pins : List (Addr × Obj)} {σ : St} {H : Hp} {s : Shared} {fp : List Addr} (I : Inv X pins σ H s) (hf : ∀ b ∈ fp, FpOk X pins H b) (ho : ∀ b ∈ fp, ∃ o, s.heap.get? b = some o ∧ ∀ v, o.data ≠ .cell v) : Inv X (pins ++ pinsAt fp s.heap) σ H s :=
  I.pins_of fun p hp => (List.mem_append.mp hp).elim (fun z => I.pin p (List.mem_append_right _ z)) fun z => by
    obtain ⟨hb, e⟩ := of_pinsAt z
    obtain ⟨f0, f1, f2, _⟩ := hf p.1 hb
    obtain ⟨o, e', d⟩ := ho p.1 hb
    rw [e] at e'; cases e'
    exact ⟨e, f0, f1, f2, d⟩
theorem Inv.unpinned {pins pl : List (Addr × Obj)} {σ : St} {H : Hp} {s : Shared} (I : Inv X (pins ++ pl) σ H s) : Inv X pins σ H s := I.pins_of fun p hp => I.pin p (List.mem_append_right _ (List.mem_append_left _ hp))
theorem ps_for {iter : Expr} {body : List Stmt} {wi : TI} {g : TG} {tb : TS} {pos : Pos} (hp : PassesOwn (model X.prog X.w) X.A X.env X.xe) (hc : X.calm = true) (hi : PI X tg iter wi) (hg : PG X tg g) (hb : PSs X body tb)
    (hs : ∀ x, foldedSetIterable iter X.env x = pure x := by intro _; rfl) : PS X (.For tg iter body [] pos) (tFor wi g tb) := by
  constructor; intro pins s σ H D I h
  refine wpAny_For (thn (hi pins s σ H _ I h) fun v s1 h1 => thn h1 fun itv s2 h2 => ?_) hs
  obtain ⟨it, fp, tn, J, H2, e, I2, T, st2, f2, W, ⟨m0, w0⟩, turn⟩ := h2
  subst e
  -- what stays true of the iterator's objects through the loop
  have stat : ∀ {H' : Hp}, (∀ b ∈ fp, H' b = none) → ∀ b ∈ fp, FpOk X pins H' b := fun hn b hb => ⟨hn b hb, (f2 b hb).2⟩
  refine codeAny_forLoop_any (fun n s' => ∃ i σ' H', Inv X pins σ' H' s' ∧ tn i s'.heap ∧ (∀ b ∈ fp, H' b = none) ∧ W i n σ' H') ?_ m0 ⟨0, σ, H2, I2, st2, fun b hb => (f2 b hb).1, w0⟩
  rintro n s3 ⟨i, σ3, H3, I3, st3, fr3, w3⟩
  rcases turn i n σ3 H3 w3 with ⟨stop, qn⟩ | ⟨go, N, hN, step⟩
  · refine wpAny_passesOwn hp (thn (T.done X rfl rfl rfl hc i pins s3 σ3 H3 X.xe I3 (stat fr3) st3 stop) fun r s4 ⟨hr, I4⟩ => ?_)
    subst hr
    exact wpAny_execs_nil ⟨σ3, H3, I4, qn⟩
  · refine wpAny_passesOwn hp (thn (T.item X rfl rfl rfl hc i pins s3 σ3 H3 X.xe I3 (stat fr3) st3 go) fun r s4 ⟨u, hr, h4⟩ => ?_)
    subst hr
    refine wpAny_passesOwn hp (thn h4 fun _ s5 ⟨x, H5, I5, r5, y5, st5, fr5⟩ => ?_)
    have I5' := I5.pinned (stat fr5) (T.obj _ _ st5)
    refine wpAny_passesOwn hp (thn (hg _ s5 σ3 H5 x u _ I5' r5 (step x H5 y5)) fun _ s6 ⟨σ6, H6, I6, q6⟩ => ?_)
    refine wpAny_passesOwn hp (thn (hb _ s6 σ6 H6 _ I6 q6) fun f s7 q7 => ?_)
    have again : ∀ {σ7 : St} {H7 : Hp}, Inv X (pins ++ pinsAt fp s5.heap) σ7 H7 s7 → N σ7 H7 → ∃ m, m < n ∧ ∃ i σ' H', Inv X pins σ' H' s7 ∧ tn i s7.heap ∧ (∀ b ∈ fp, H' b = none) ∧ W i m σ' H' := fun {σ7 H7} I7 n7 => by
      obtain ⟨m', hm, w7⟩ := hN σ7 H7 n7
      refine ⟨m', hm, i + 1, σ7, H7, I7.unpinned, T.keep _ _ _ st5 fun b hb o e => (I7.pin (b, o) (List.mem_append_right _ (List.mem_append_right _ (mem_pinsAt hb e)))).1, fun b hb => ?_, w7⟩
      obtain ⟨o, e, d⟩ := T.obj _ _ st5 b hb
      exact (I7.pin (b, o) (List.mem_append_right _ (List.mem_append_right _ (mem_pinsAt hb e)))).2.1
    cases f with
    | next => obtain ⟨σ7, H7, I7, n7⟩ := q7; exact again I7 n7
    | cont => obtain ⟨σ7, H7, I7, n7⟩ := q7; exact again I7 n7
    | brk => obtain ⟨σ7, H7, I7, q7⟩ := q7; exact ⟨σ7, H7, I7.unpinned, q7⟩
    | ret v => obtain ⟨x7, σ7, H7, I7, r7, q7⟩ := q7; exact ⟨x7, σ7, H7, I7.unpinned, r7, q7⟩
end

theorem for_list {K : PySem.W.Frag} {a : Addr} {xs : List V} {g : TG} {tb : TS} {D : Ends} {σ : St} {H : Hp} (Pv : Nat → St → Hp → Prop) (h0 : Pv 0 σ H) (hl : ∀ i σ H, i ≤ xs.length → Pv i σ H → SqL K H a xs)
    (hs : ∀ i x σ H, xs[i]? = some x → Pv i σ H → g x σ H fun σ2 H2 => tb { D with nx := Pv (i + 1), ct := Pv (i + 1), bk := D.nx } σ2 H2) (hd : ∀ σ H, Pv xs.length σ H → D.nx σ H) :
    ∃ W : Nat → Nat → St → Hp → Prop, (∃ m, W 0 m σ H) ∧ ∀ i m σ H, W i m σ H →
      ((Itl K a).stop i H ∧ D.nx σ H) ∨ ((Itl K a).go i H ∧ ∃ N : St → Hp → Prop, (∀ σ' H', N σ' H' → ∃ m', m' < m ∧ W (i + 1) m' σ' H') ∧ ∀ x H', (Itl K a).yld i H x H' → g x σ H' fun σ2 H2 => tb { D with nx := N, ct := N, bk := D.nx } σ2 H2) := by
  refine ⟨fun i m σ H => m = xs.length - i ∧ i ≤ xs.length ∧ Pv i σ H, ⟨xs.length, by simp, Nat.zero_le _, h0⟩, ?_⟩
  rintro i m σ H ⟨rfl, hi, p⟩
  have q := hl i σ H hi p
  by_cases hlt : i < xs.length
  · refine .inr ⟨⟨xs, xs[i], q, by simp [hlt]⟩, Pv (i + 1), fun σ' H' p' => ⟨xs.length - (i + 1), by omega, rfl, hlt, p'⟩, fun x H' y => ?_⟩
    obtain ⟨e, y⟩ := y
    subst e
    exact hs i x σ _ (y xs q) p
  · have e : i = xs.length := by omega
    subst e
    exact .inl ⟨⟨xs, q, Nat.le_refl _⟩, hd σ H p⟩
theorem for_range {lo : Int} {n : Nat} {g : TG} {tb : TS} {D : Ends} {σ : St} {H : Hp} (Pv : Nat → St → Hp → Prop) (h0 : Pv 0 σ H)
    (hs : ∀ i σ H, i < n → Pv i σ H → g (.int (lo + i)) σ H fun σ2 H2 => tb { D with nx := Pv (i + 1), ct := Pv (i + 1), bk := D.nx } σ2 H2) (hd : ∀ σ H, Pv n σ H → D.nx σ H) :
    ∃ W : Nat → Nat → St → Hp → Prop, (∃ m, W 0 m σ H) ∧ ∀ i m σ H, W i m σ H →
      ((Itr lo n).stop i H ∧ D.nx σ H) ∨ ((Itr lo n).go i H ∧ ∃ N : St → Hp → Prop, (∀ σ' H', N σ' H' → ∃ m', m' < m ∧ W (i + 1) m' σ' H') ∧ ∀ x H', (Itr lo n).yld i H x H' → g x σ H' fun σ2 H2 => tb { D with nx := N, ct := N, bk := D.nx } σ2 H2) := by
  refine ⟨fun i m σ H => m = n - i ∧ i ≤ n ∧ Pv i σ H, ⟨n, by simp, Nat.zero_le _, h0⟩, ?_⟩
  rintro i m σ H ⟨rfl, hi, p⟩
  by_cases hlt : i < n
  · refine .inr ⟨hlt, Pv (i + 1), fun σ' H' p' => ⟨n - (i + 1), by omega, rfl, hlt, p'⟩, fun x H' y => ?_⟩
    obtain ⟨e, y⟩ := y
    subst e y
    exact hs i σ _ hlt p
  · have e : i = n := by omega
    subst e
    exact .inl ⟨Nat.le_refl _, hd σ H p⟩
end L2

namespace L2
open PySem PySem.Spec PyProof.Rows

noncomputable abbrev R2 := V → V → Hp → VK → Prop
noncomputable def OpR (X : Cx) (f : Value → Value → Sem Value) (r : R2) : Prop :=
  ∀ (pins : List (Addr × Obj)) (s : Shared) (σ : St) (H : Hp) (x y : V) (v u : Value) (Q : VK), Inv X pins σ H s → RelV x v → RelV y u → r x y H Q →
    wpAny (model X.prog X.w) X.A (f v u) (EP X pins σ Q) X.xe s
noncomputable def UnR (X : Cx) (f : Value → Sem Value) (r : V → Hp → VK → Prop) : Prop :=
  ∀ (pins : List (Addr × Obj)) (s : Shared) (σ : St) (H : Hp) (x : V) (v : Value) (Q : VK), Inv X pins σ H s → RelV x v → r x H Q →
    wpAny (model X.prog X.w) X.A (f v) (EP X pins σ Q) X.xe s
noncomputable def CallR (X : Cx) (f : Value) (r : List V → Hp → VK → Prop) : Prop :=
  ∀ (pins : List (Addr × Obj)) (s : Shared) (σ : St) (H : Hp) (xs : List V) (us : List Value) (Q : VK), Inv X pins σ H s → Vals xs us → r xs H Q →
    wpAny (model X.prog X.w) X.A (call f us) (EP X pins σ Q) X.xe s
noncomputable def tOp (r : R2) (ta tb : TE) : TE := fun σ H Q => ta σ H fun x H1 => tb σ H1 fun y H2 => r x y H2 Q
noncomputable def tUn (r : V → Hp → VK → Prop) (ta : TE) : TE := fun σ H Q => ta σ H fun x H1 => r x H1 Q
noncomputable def rI (C : Int → Int → Prop) (g : Int → Int → V) : R2 := fun x y H Q => ∃ i j, x = .int i ∧ y = .int j ∧ C i j ∧ Q (g i j) H
noncomputable def rI0 (g : Int → Int → V) : R2 := fun x y H Q => ∃ i j, x = .int i ∧ y = .int j ∧ Q (g i j) H
noncomputable def rU (g : Int → V) : V → Hp → VK → Prop := fun x H Q => ∃ i, x = .int i ∧ Q (g i) H

section
variable {X : Cx} {a b c : Expr} {ta tb tc : TE} {pos : Pos}

theorem binT (ha : PE X a ta) (hb : PE X b tb) {pins : List (Addr × Obj)} {s : Shared} {σ : St} {H : Hp} {R : V → V → Hp → Prop} (I : Inv X pins σ H s)
    (h : ta σ H fun x H1 => tb σ H1 fun y H2 => R x y H2) {Q : Value → Shared → Prop} {f : Value → Value → Sem Value}
    (hf : ∀ v u s2 x y H2, Inv X pins σ H2 s2 → RelV x v → RelV y u → R x y H2 → wpAny (model X.prog X.w) X.A (f v u) Q X.xe s2) :
    wpAny (model X.prog X.w) X.A (eval a X.env) (fun v s₁ => wpAny (model X.prog X.w) X.A (eval b X.env) (fun u s₂ => wpAny (model X.prog X.w) X.A (f v u) Q X.xe s₂) X.xe s₁) X.xe s := by
  refine thn (ha pins s σ H _ I h) fun v s1 ⟨x, H1, I1, r1, q1⟩ => ?_
  refine thn (hb pins s1 σ H1 _ I1 q1) fun u s2 ⟨y, H2, I2, r2, q2⟩ => ?_
  exact hf v u s2 x y H2 I2 r1 r2 q2

theorem pe_op {op : Operator} {r : R2} (ho : OpR X (binaryOp op) r) (ha : PE X a ta) (hb : PE X b tb) : PE X (.BinOp a op b pos) (tOp r ta tb) := by
  constructor; intro pins s σ H Q I h
  exact wpAny_BinOp (binT ha hb I h fun v u s2 x y H2 I2 rx ry q => ho pins s2 σ H2 x y v u Q I2 rx ry q)
theorem pe_un {op : UnaryOp} {r : V → Hp → VK → Prop} (ho : UnR X (unaryOp op) r) (ha : PE X a ta) : PE X (.UnaryOp op a pos) (tUn r ta) := by
  constructor; intro pins s σ H Q I h
  exact UnaryOp_ (thn (ha pins s σ H _ I h) fun v s1 ⟨x, H1, I1, r1, q1⟩ => ho pins s1 σ H1 x v Q I1 r1 q1)
theorem opI {f : Value → Value → Sem Value} {C : Int → Int → Prop} {g : Int → Int → Int}
    (rule : ∀ (i j : Int) (t u : Tok) (s : Shared) (Q : Value → Shared → Prop) (E : Value → Shared → Prop), C i j → Q (.int (g i j) s.toks) { s with toks := s.toks + 1 } → wpAny (model X.prog X.w) X.A (f (.int i t) (.int j u)) Q E s) :
    OpR X f (rI C fun i j => .int (g i j)) := by
  intro pins s σ H x y v u Q I rx ry h
  obtain ⟨i, j, rfl, rfl, hc, q⟩ := h
  obtain ⟨t, rfl⟩ := rx
  obtain ⟨t', rfl⟩ := ry
  exact rule i j t t' s _ _ hc ⟨.int (g i j), H, I.tok _, ⟨_, rfl⟩, q⟩
theorem opI0 {f : Value → Value → Sem Value} {g : Int → Int → Int}
    (rule : ∀ (i j : Int) (t u : Tok) (s : Shared) (Q : Value → Shared → Prop) (E : Value → Shared → Prop), Q (.int (g i j) s.toks) { s with toks := s.toks + 1 } → wpAny (model X.prog X.w) X.A (f (.int i t) (.int j u)) Q E s) :
    OpR X f (rI0 fun i j => .int (g i j)) := by
  intro pins s σ H x y v u Q I rx ry h
  obtain ⟨i, j, rfl, rfl, q⟩ := h
  obtain ⟨t, rfl⟩ := rx
  obtain ⟨t', rfl⟩ := ry
  exact rule i j t t' s _ _ ⟨.int (g i j), H, I.tok _, ⟨_, rfl⟩, q⟩
theorem opB0 {f : Value → Value → Sem Value} {g : Int → Int → Bool}
    (rule : ∀ (i j : Int) (t u : Tok) (s : Shared) (Q : Value → Shared → Prop) (E : Value → Shared → Prop), Q (.bool (g i j)) s → wpAny (model X.prog X.w) X.A (f (.int i t) (.int j u)) Q E s) :
    OpR X f (rI0 fun i j => .bl (g i j)) := by
  intro pins s σ H x y v u Q I rx ry h
  obtain ⟨i, j, rfl, rfl, q⟩ := h
  obtain ⟨t, rfl⟩ := rx
  obtain ⟨t', rfl⟩ := ry
  exact rule i j t t' s _ _ ⟨.bl (g i j), H, I, rfl, q⟩

noncomputable def CDiv (i j : Int) : Prop := 0 < j ∧ j < 1073741824
noncomputable def CPow (i j : Int) : Prop := 0 ≤ j ∧ j ≤ 1000000 ∧ i.natAbs < 2 ^ 64
noncomputable def CMul (i j : Int) : Prop := (-(2 ^ 64) < i ∧ i < 2 ^ 64) ∨ (-(2 ^ 64) < j ∧ j < 2 ^ 64)
theorem CMul.ok {i j : Int} (h : CMul i j) : IntMulOk i j := by
  rcases h with ⟨h1, h2⟩ | ⟨h1, h2⟩
  · exact .of_left (intBits_le_64 h1 h2)
  · exact .of_right (intBits_le_64 h1 h2)
theorem op_add : OpR X (binaryOp .Add) (rI0 fun i j => .int (i + j)) := opI0 fun _ _ _ _ _ _ _ q => add_int q
theorem op_sub : OpR X (binaryOp .Sub) (rI0 fun i j => .int (i - j)) := opI0 fun _ _ _ _ _ _ _ q => sub_int q
theorem op_mul : OpR X (binaryOp .Mult) (rI CMul fun i j => .int (i * j)) := opI fun _ _ _ _ _ _ _ hc q => mul_int q hc.ok
theorem op_fdiv : OpR X (binaryOp .FloorDiv) (rI CDiv fun i j => .int (i / j)) := opI fun i j _ _ _ _ _ hc q => by
  have h1 : (0 : Int) < j := hc.1
  have h2 : j < 1073741824 := hc.2
  exact floordiv_int (by omega) (by rw [Int.fdiv_eq_ediv_of_nonneg i (by omega)]; exact q) (.inl (PyProof.noPylong_small (by omega)))
theorem op_mod : OpR X (binaryOp .Mod) (rI (fun _ j => 0 < j) fun i j => .int (i % j)) := opI fun i j _ _ _ _ _ hc q => by
  have h1 : (0 : Int) < j := hc
  exact mod_int' (by omega) (by rw [Int.fmod_eq_emod_of_nonneg i (by omega)]; exact q)
theorem op_pow : OpR X (binaryOp .Pow) (rI CPow fun i j => .int (i ^ j.toNat)) := opI fun _ _ _ _ _ _ _ hc q => pow_int_small hc.1 hc.2.1 hc.2.2 q
theorem unI {f : Value → Sem Value} {g : Int → Int}
    (rule : ∀ (i : Int) (t : Tok) (s : Shared) (Q : Value → Shared → Prop) (E : Value → Shared → Prop), Q (.int (g i) s.toks) { s with toks := s.toks + 1 } → wpAny (model X.prog X.w) X.A (f (.int i t)) Q E s) :
    UnR X f (rU fun i => .int (g i)) := by
  intro pins s σ H x v Q I rx h
  obtain ⟨i, rfl, q⟩ := h
  obtain ⟨t, rfl⟩ := rx
  exact rule i t s _ _ ⟨.int (g i), H, I.tok _, ⟨_, rfl⟩, q⟩
theorem un_neg : UnR X (unaryOp .USub) (rU fun i => .int (-i)) := unI fun _ _ _ _ _ q => neg_int q
end

noncomputable def scal : V → V → Bool
  | .non, .non => true | .non, .int _ => true | .int _, .non => true | .non, .bl _ => true | .bl _, .non => true | .non, .str _ => true | .str _, .non => true
  | .int _, .int _ => true | .bl _, .bl _ => true | .str _, .str _ => true | .byt _, .byt _ => true
  | .int _, .str _ => true | .str _, .int _ => true | .bl _, .str _ => true | .str _, .bl _ => true
  | _, _ => false
noncomputable def rEq : R2 := fun x y H Q => scal x y = true ∧ Q (.bl (decide (x = y))) H
noncomputable def rNe : R2 := fun x y H Q => scal x y = true ∧ Q (.bl (!decide (x = y))) H

theorem dec_int {i j : Int} : decide (V.int i = V.int j) = (i == j) := by
  rw [Bool.eq_iff_iff]
  simp
theorem dec_bl {i j : Bool} : decide (V.bl i = V.bl j) = (i == j) := by
  rw [Bool.eq_iff_iff]
  simp
theorem dec_str {i j : Str} : decide (V.str i = V.str j) = (i == j) := by
  rw [Bool.eq_iff_iff]
  simp
theorem dec_byt {i j : Array UInt8} : decide (V.byt i = V.byt j) = (i.toList == j.toList) := by
  rw [Bool.eq_iff_iff]
  cases i
  cases j
  simp

section
variable {X : Cx} {a b c : Expr} {ta tb tc : TE} {pos : Pos}
theorem fin_bl {pins : List (Addr × Obj)} {σ : St} {H : Hp} {s : Shared} {Q : VK} {k k' : Bool} (I : Inv X pins σ H s) (q : Q (.bl k) H) (e : k = k') : EP X pins σ Q (.bool k') s := by
  subst e
  exact ⟨.bl k, H, I, rfl, q⟩
theorem op_eq : OpR X (compareOp .Eq) rEq := by
  intro pins s σ H x y v u Q I rx ry h
  obtain ⟨hs, q⟩ := h
  cases x with
  | non =>
    cases rx
    cases y with
    | non => cases ry; exact PySem.EqNone.eq_none_none (fin_bl I q (by simp))
    | bl j => cases ry; exact PySem.EqNone.eq_none_bool (fin_bl I q (by simp))
    | int j => obtain ⟨t', rfl⟩ := ry; exact PySem.EqNone.eq_none_int (fin_bl I q (by simp))
    | str j => obtain ⟨t', rfl⟩ := ry; exact PySem.EqNone.eq_none_str (fin_bl I q (by simp))
    | _ => exact absurd (show false = true from hs) Bool.false_ne_true
  | bl i =>
    cases rx
    cases y with
    | non => cases ry; exact PySem.EqNone.eq_bool_none (fin_bl I q (by simp))
    | bl j => cases ry; exact eq_bool (fin_bl I q dec_bl)
    | str j => obtain ⟨t', rfl⟩ := ry; exact PySem.EqMixed.eq_bool_str (fin_bl I q (by simp))
    | _ => exact absurd (show false = true from hs) Bool.false_ne_true
  | int i =>
    obtain ⟨t, rfl⟩ := rx
    cases y with
    | non => cases ry; exact PySem.EqNone.eq_int_none (fin_bl I q (by simp))
    | int j => obtain ⟨t', rfl⟩ := ry; exact eq_int (fin_bl I q dec_int)
    | str j => obtain ⟨t', rfl⟩ := ry; exact PySem.EqMixed.eq_int_str (fin_bl I q (by simp))
    | _ => exact absurd (show false = true from hs) Bool.false_ne_true
  | str i =>
    obtain ⟨t, rfl⟩ := rx
    cases y with
    | non => cases ry; exact PySem.EqNone.eq_str_none (fin_bl I q (by simp))
    | bl j => cases ry; exact PySem.EqMixed.eq_str_bool (fin_bl I q (by simp))
    | int j => obtain ⟨t', rfl⟩ := ry; exact PySem.EqMixed.eq_str_int (fin_bl I q (by simp))
    | str j => obtain ⟨t', rfl⟩ := ry; exact eq_str (fin_bl I q dec_str)
    | _ => exact absurd (show false = true from hs) Bool.false_ne_true
  | byt i =>
    obtain ⟨t, rfl⟩ := rx
    cases y with
    | byt j => obtain ⟨t', rfl⟩ := ry; exact PySem.W.eq_bytes (fin_bl I q dec_byt)
    | _ => exact absurd (show false = true from hs) Bool.false_ne_true
  | _ => cases y <;> exact absurd (show false = true from hs) Bool.false_ne_true
theorem op_ne : OpR X (compareOp .NotEq) rNe := by
  intro pins s σ H x y v u Q I rx ry h
  obtain ⟨hs, q⟩ := h
  cases x with
  | non =>
    cases rx
    cases y with
    | non => cases ry; exact PySem.EqNone.ne_none_none (fin_bl I q (by simp))
    | bl j => cases ry; exact PySem.EqNone.ne_none_bool (fin_bl I q (by simp))
    | int j => obtain ⟨t', rfl⟩ := ry; exact PySem.EqNone.ne_none_int (fin_bl I q (by simp))
    | str j => obtain ⟨t', rfl⟩ := ry; exact PySem.EqNone.ne_none_str (fin_bl I q (by simp))
    | _ => exact absurd (show false = true from hs) Bool.false_ne_true
  | bl i =>
    cases rx
    cases y with
    | non => cases ry; exact PySem.EqNone.ne_bool_none (fin_bl I q (by simp))
    | bl j => cases ry; exact ne_bool (fin_bl I q (congrArg not dec_bl))
    | str j => obtain ⟨t', rfl⟩ := ry; exact PySem.EqMixed.ne_bool_str (fin_bl I q (by simp))
    | _ => exact absurd (show false = true from hs) Bool.false_ne_true
  | int i =>
    obtain ⟨t, rfl⟩ := rx
    cases y with
    | non => cases ry; exact PySem.EqNone.ne_int_none (fin_bl I q (by simp))
    | int j => obtain ⟨t', rfl⟩ := ry; exact ne_int (fin_bl I q (congrArg not dec_int))
    | str j => obtain ⟨t', rfl⟩ := ry; exact PySem.EqMixed.ne_int_str (fin_bl I q (by simp))
    | _ => exact absurd (show false = true from hs) Bool.false_ne_true
  | str i =>
    obtain ⟨t, rfl⟩ := rx
    cases y with
    | non => cases ry; exact PySem.EqNone.ne_str_none (fin_bl I q (by simp))
    | bl j => cases ry; exact PySem.EqMixed.ne_str_bool (fin_bl I q (by simp))
    | int j => obtain ⟨t', rfl⟩ := ry; exact PySem.EqMixed.ne_str_int (fin_bl I q (by simp))
    | str j => obtain ⟨t', rfl⟩ := ry; exact ne_str (fin_bl I q (congrArg not dec_str))
    | _ => exact absurd (show false = true from hs) Bool.false_ne_true
  | byt i =>
    obtain ⟨t, rfl⟩ := rx
    cases y with
    | byt j => obtain ⟨t', rfl⟩ := ry; exact PySem.W.ne_bytes (fin_bl I q (congrArg not dec_byt))
    | _ => exact absurd (show false = true from hs) Bool.false_ne_true
  | _ => cases y <;> exact absurd (show false = true from hs) Bool.false_ne_true

theorem op_lt : OpR X (compareOp .Lt) (rI0 fun i j => .bl (decide (i < j))) := opB0 fun _ _ _ _ _ _ _ q => lt_int q
theorem op_le : OpR X (compareOp .LtE) (rI0 fun i j => .bl (decide (i ≤ j))) := opB0 fun _ _ _ _ _ _ _ q => le_int q
theorem op_gt : OpR X (compareOp .Gt) (rI0 fun i j => .bl (decide (j < i))) := opB0 fun _ _ _ _ _ _ _ q => gt_int q
theorem op_ge : OpR X (compareOp .GtE) (rI0 fun i j => .bl (decide (j ≤ i))) := opB0 fun _ _ _ _ _ _ _ q => ge_int q
theorem op_isN : OpR X (compareOp .Is) (fun x y H Q => y = .non ∧ Q (.bl (decide (x = .non))) H) := by
  intro pins s σ H x y v u Q I rx ry h
  obtain ⟨rfl, q⟩ := h
  cases ry
  refine is_none_gen (fin_bl I q ?_)
  cases x <;> first
    | (cases rx; rfl)
    | (obtain ⟨t, rfl⟩ := rx; rfl)
theorem nomark (b : Expr) {op : CmpOp} (h : op ≠ .In := by decide) (h2 : op ≠ .NotIn := by decide) : behindInMarks op b = false := by
  have e1 : (op == CmpOp.In) = false := by cases op <;> first | rfl | exact absurd rfl h
  have e2 : (op == CmpOp.NotIn) = false := by cases op <;> first | rfl | exact absurd rfl h2
  cases b <;> simp [behindInMarks, e1, e2]
theorem pe_cmpR {op : CmpOp} {r : R2} (ho : OpR X (compareOp op) r) (ha : PE X a ta) (hb : PE X b tb) (hm : behindInMarks op b = false) : PE X (.Compare a [op] [b] pos) (tOp r ta tb) := by
  constructor; intro pins s σ H Q I h
  exact wpAny_Compare1 (binT ha hb I h fun v u s2 x y H2 I2 rx ry q => ho pins s2 σ H2 x y v u Q I2 rx ry q) hm
noncomputable def tTest (t : TE) : TT := fun σ H Q => t σ H fun x H' => ∃ k, x = .bl k ∧ Q k H'
theorem pt_cmpR {op : CmpOp} {r : R2} (ho : OpR X (compareOp op) r) (ha : PE X a ta) (hb : PE X b tb) (hm : behindInMarks op b = false) : PT X (.Compare a [op] [b] pos) (tTest (tOp r ta tb)) := by
  constructor; intro pins s σ H Q I h
  refine wpAny_isTrue_Compare1 (thn (ha pins s σ H _ I h) fun v s1 ⟨x, H1, I1, r1, q1⟩ => thn (hb pins s1 σ H1 _ I1 q1) fun u s2 ⟨y, H2, I2, r2, q2⟩ =>
    thn (ho pins s2 σ H2 x y v u _ I2 r1 r2 q2) fun c s3 ⟨z, H3, I3, r3, k, e, q3⟩ => ?_) hm
  subst e
  cases r3
  exact wpAny_truthy_bool ⟨H3, I3, q3⟩
noncomputable def tChain (r r' : R2) (ta tb tc : TE) : TE := fun σ H Q => ta σ H fun x H1 => tb σ H1 fun y H2 => r x y H2 fun z H3 => ∃ k, z = .bl k ∧
  (if k = true then tc σ H3 fun w' H4 => r' y w' H4 Q else Q (.bl false) H3)
theorem pe_chain {op op' : CmpOp} {r r' : R2} (ho : OpR X (compareOp op) r) (ho' : OpR X (compareOp op') r') (ha : PE X a ta) (hb : PE X b tb) (hc : PE X c tc)
    (hm : lastMarks [op, op'] [b, c] = false := by with_unfolding_all rfl) : PE X (.Compare a [op, op'] [b, c] pos) (tChain r r' ta tb tc) := by
  constructor; intro pins s σ H Q I h
  refine Compare_chain (thn (ha pins s σ H _ I h) fun v s1 ⟨x, H1, I1, r1, q1⟩ => chain_link (thn (hb pins s1 σ H1 _ I1 q1) fun u s2 ⟨y, H2, I2, r2, q2⟩ =>
    thn (ho pins s2 σ H2 x y v u _ I2 r1 r2 q2) fun d s3 ⟨z, H3, I3, r3, k, e, q3⟩ => ?_)) hm
  subst e
  cases r3
  refine wpAny_truthy_bool ?_
  cases k with
  | false => exact ite_ff ⟨.bl false, H3, I3, rfl, q3⟩
  | true => exact ite_tt (chain_last (thn (hc pins s3 σ H3 _ I3 q3) fun w' s4 ⟨z', H4, I4, r4, q4⟩ => ho' pins s4 σ H4 y z' u w' Q I4 r2 r4 q4))
theorem line63 : (sizeLine : Nat) < 2 ^ 63 := by rw [sizeLine_eq]; decide
theorem op_add_str : OpR X (binaryOp .Add) (fun x y H Q => ∃ i j, x = .str i ∧ y = .str j ∧ i.length + j.length ≤ sizeLine ∧ Q (.str (i ++ j)) H) := by
  intro pins s σ H x y v u Q I rx ry h
  obtain ⟨i, j, rfl, rfl, hz, q⟩ := h
  obtain ⟨t, rfl⟩ := rx
  obtain ⟨t', rfl⟩ := ry
  exact add_str (fun t' tk => ⟨.str (i ++ j), H, I.tok _, ⟨_, rfl⟩, q⟩) hz
theorem vals1 {x : V} {us : List Value} (r : Vals [x] us) : ∃ u, us = [u] ∧ RelV x u := by
  cases r with
  | cons r1 r2 => cases r2; exact ⟨_, rfl, r1⟩
theorem vals2 {x y : V} {us : List Value} (r : Vals [x, y] us) : ∃ u w', us = [u, w'] ∧ RelV x u ∧ RelV y w' := by
  cases r with
  | cons r1 r2 =>
    cases r2 with
    | cons r3 r4 => cases r4; exact ⟨_, _, rfl, r1, r3⟩
theorem call_int1 : CallR X (.type "int") (fun xs H Q => (∃ i, xs = [.int i] ∧ Q (.int i) H) ∨ ∃ k, xs = [.bl k] ∧ Q (.int (if k then 1 else 0)) H) := by
  intro pins s σ H xs us Q I r h
  rcases h with ⟨i, rfl, q⟩ | ⟨k, rfl, q⟩
  · obtain ⟨u, rfl, t, rfl⟩ := vals1 r
    exact call_int_int ⟨.int i, H, I, ⟨_, rfl⟩, q⟩
  · obtain ⟨u, rfl, r1⟩ := vals1 r
    cases r1
    exact call_int_bool ⟨.int (if k then 1 else 0), H, I.tok _, ⟨_, rfl⟩, q⟩
theorem call_str_int : CallR X (.type "str") (fun xs H Q => ∃ i, xs = [.int i] ∧ i.natAbs.log2 < 1920 ∧ Q (.str (toString i)) H) := by
  intro pins s σ H xs us Q I r h
  obtain ⟨i, rfl, hz, q⟩ := h
  obtain ⟨u, rfl, t, rfl⟩ := vals1 r
  exact PySem.P.str_of_int hz ⟨.str _, H, I.tok _, ⟨_, rfl⟩, q⟩
noncomputable def LenV (K : PySem.W.Frag) (x : V) (H : Hp) (n : Nat) : Prop :=
  match x with
  | .str y => y.length ≤ sizeLine ∧ n = y.length
  | .byt y => y.size ≤ sizeLine ∧ n = y.size
  | .ref p => (∃ xs, SqL K H p xs ∧ n = xs.length) ∨ ∃ xs, SqT K H p xs ∧ n = xs.length
  | _ => False
theorem call_len : CallR X (.builtin "len") (fun xs H Q => ∃ x n, xs = [x] ∧ LenV X.K x H n ∧ Q (.int n) H) := by
  intro pins s σ H xs us Q I r h
  obtain ⟨x, n, rfl, e, q⟩ := h
  obtain ⟨u, rfl, rx⟩ := vals1 r
  have hl := line63
  have hs : sizeLine = 16777216 := sizeLine_eq
  cases x with
  | str y =>
    obtain ⟨t, rfl⟩ := rx
    obtain ⟨hy, e'⟩ : y.length ≤ sizeLine ∧ n = y.length := e
    subst e'
    exact len_str (by omega) ⟨.int _, H, I.tok _, ⟨_, rfl⟩, q⟩
  | byt y =>
    obtain ⟨t, rfl⟩ := rx
    obtain ⟨hy, e'⟩ : y.size ≤ sizeLine ∧ n = y.size := e
    subst e'
    exact PySem.W.len_bytes (by omega) ⟨.int _, H, I.tok _, ⟨_, rfl⟩, q⟩
  | ref p =>
    cases rx
    have e' : (∃ xs, SqL X.K H p xs ∧ n = xs.length) ∨ ∃ xs, SqT X.K H p xs ∧ n = xs.length := e
    rcases e' with ⟨xs, hx, e'⟩ | ⟨xs, hx, e'⟩
    · subst e'
      obtain ⟨its, r', pl, hz⟩ := I.list hx
      have hlen := r'.length
      exact Calls.call_len_list pl.isList (by simp only [List.size_toArray]; omega) ⟨.int xs.length, H, I.tok _, ⟨_, by simp only [List.size_toArray]; rw [hlen]⟩, q⟩
    · subst e'
      obtain ⟨its, r', pl, hz⟩ := I.tuple hx
      have hlen := r'.length
      exact len_tuple pl (by simp only [List.size_toArray]; omega) ⟨.int xs.length, H, I.tok _, ⟨_, by simp only [List.size_toArray]; rw [hlen]⟩, q⟩
  | _ => exact (show False from e).elim
end
end L2

namespace L2
open PySem PySem.Spec PyProof.Rows

structure ObjM (h : Heap) (x dx C : Addr) (mA : Str → Option Value) : Prop where
  obj : h.get? x = some (PySem.W.instObj C dx)
  ns : h.Ns1 dx mA
  ne : dx ≠ x

theorem lookIn_ns {h : Heap} {dx : Addr} {mA : Str → Option Value} (n : h.Ns1 dx mA) : ∃ od, h.get? dx = some od ∧ ∀ name, PySem.W.lookIn name od = some (mA name) := by
  obtain ⟨o, es, ep, ho, hd, hk, _, hm⟩ := n
  refine ⟨o, ho, fun name => ?_⟩
  have e := hm name
  unfold nsFind findBy at e
  rw [← Array.find?_toList] at e
  unfold PySem.W.lookIn
  rw [hd]
  dsimp only
  split
  · rename_i y q
    rw [q] at e
    exact congrArg some e
  · rename_i q
    rw [q] at e
    have a : es.toList.any (·.refKey) = false := by
      rw [List.any_eq_false]
      intro y hy
      obtain ⟨z, t, hkey⟩ := hk y (Array.mem_toList_iff.mp hy)
      simp [DictEntry.refKey, hkey]
    have a' : ¬ es.toList.any (·.refKey) = true := by rw [a]; exact Bool.false_ne_true
    rw [if_neg a']
    exact congrArg some e

theorem ObjM.look {h : Heap} {x dx C : Addr} {mA : Str → Option Value} (I : ObjM h x dx C mA) : ∃ od, PySem.W.InstAt h x (PySem.W.instObj C dx) C (some od) ∧ ∀ name, PySem.W.lookIn name od = some (mA name) :=
  let ⟨od, ho, hl⟩ := lookIn_ns I.ns
  ⟨od, ⟨I.obj, rfl, rfl, ho⟩, hl⟩

section
variable {prog : Program} {w : World} {A : Around} {E : Value → Shared → Prop} {s : Shared} {K : PySem.W.Frag} {x dx C f : Addr} {mA : Str → Option Value} {name : Str} {v : Value}

end

theorem RelO.some_of {v : V} {o : Option Value} (r : RelO (some v) o) : ∃ u, o = some u ∧ RelV v u := by
  cases o with
  | none => exact (show False from r).elim
  | some u => exact ⟨u, rfl, r⟩
section
variable {P : Program} {w : World} {H H' : Hp} {h h' : Heap} {a C dx : Addr} {fs fs' : List (Str × V)}
theorem ins_get (hok : HOk P w H h) (e : H a = some (.ins C dx fs)) : ∃ mA, ObjM h a dx C mA ∧ (∀ f, RelO (fs.lookup f) (mA f)) ∧ PySem.Within mA (fs.map (·.1)) ∧ fs.length ≤ 1000 ∧ H dx = some (.own a) := by
  obtain ⟨d, z, ne, ob, mA, n, r, q⟩ := (show ObjOk P w H h a (.ins C dx fs) from hok a _ e)
  exact ⟨mA, ⟨ob, n, ne⟩, r, q, z, d⟩
end

structure Cls (K : PySem.W.Frag) (C : Addr) : Prop where
  pg : PySem.W.plainGet K C Str.empty = true
  hd : PySem.W.hasDictIn K C = true
  po : PySem.W.plainOver K C = true
  sa : PySem.W.findIn K (.ref C) "__setattr__" = some (some (.builtin "object.__setattr__"))
theorem Cls.get {K : PySem.W.Frag} {C : Addr} (c : Cls K C) (f : Str) : PySem.W.plainGet K C f = true := c.pg
section
variable {X : Cx} {pins : List (Addr × Obj)} {σ : St} {H : Hp} {s : Shared} {a C dx : Addr} {fs : List (Str × V)} {f : Str} {v : V} {A : Around} {E : Value → Shared → Prop}

end

section
variable {X : Cx} {o e value : Expr} {f : Str} {pos pos' tpos : Pos} {ta tv : TE}
end

section
variable {X : Cx} {pins : List (Addr × Obj)} {σ : St} {H : Hp} {s : Shared} {A : Around} {E : Value → Shared → Prop} {Q : Value → Shared → Prop} {c : Value} {b : Bool}
inductive TyOf (K : PySem.W.Frag) (H : Hp) : V → Value → Prop where
  | non : TyOf K H .non (.type "NoneType")
  | bl (x : Bool) : TyOf K H (.bl x) (.type "bool")
  | int (i : Int) : TyOf K H (.int i) (.type "int")
  | str (x : Str) : TyOf K H (.str x) (.type "str")
  | flt (x : UInt64) : TyOf K H (.flt x) (.type "float")
  | lst {a : Addr} {xs : List V} (e : H a = some (.lst xs)) : TyOf K H (.ref a) (.type "list")
  | frz {a : Addr} {o : Obj} {xs : List V} (e : H a = some (.frz o (.lst xs))) : TyOf K H (.ref a) (.type "list")
  | tup {a : Addr} {xs : List V} (e : H a = some (.tup xs)) : TyOf K H (.ref a) (.type "tuple")
  | dK {a : Addr} {kvs : List (Key × V)} (e : H a = some (.dK kvs)) : TyOf K H (.ref a) (.type "dict")
  | dT {a : Addr} {kvs : List (List Key × V)} (e : H a = some (.dT kvs)) : TyOf K H (.ref a) (.type "dict")
  | ins {a C dx : Addr} {fs : List (Str × V)} (e : H a = some (.ins C dx fs)) (cl : Cls K C) (ha : PySem.W.findIn K (.ref C) "__class__" = some (some (.builtin "object.__class__")))
      (hn : PySem.W.specialIn K (.builtin "object.__class__") "__get__" = some (some (.builtin "getset_descriptor.__get__"))) (htk : PySem.W.takesIn K (.builtin "object.__class__") = some true)
      (hm : PySem.W.mroIn K C (.type "object") = some true) : TyOf K H (.ref a) (.ref C)
theorem isinst_ok {x : V} {u t : Value} (I : Inv X pins σ H s) (rx : RelV x u) (ty : TyOf X.K H x t) (e : PySem.W.kitOne X.K t c = some b) (h : ∀ tk, Q (.bool b) { s with toks := tk }) :
    wpAny (model X.prog X.w) A (call (.builtin "isinstance") [u, c]) Q E s := by
  cases ty with
  | non => cases (show u = Value.none from rx); exact PySem.W.kia_one PySem.W.kitx_none I.kIn True.intro e (fun z => nomatch z) h
  | bl y => cases (show u = Value.bool y from rx); exact PySem.W.kia_one PySem.W.kitx_bool I.kIn True.intro e (fun z => nomatch z) h
  | int i => obtain ⟨t, q⟩ := (show ∃ t, u = Value.int i t from rx); cases q; exact PySem.W.kia_one PySem.W.kitx_int I.kIn True.intro e (fun z => nomatch z) h
  | str y => obtain ⟨t, q⟩ := (show ∃ t, u = Value.str y t from rx); cases q; exact PySem.W.kia_one PySem.W.kitx_str I.kIn True.intro e (fun z => nomatch z) h
  | flt y => obtain ⟨t, q⟩ := (show ∃ t, u = Value.float y t from rx); cases q; exact PySem.W.kia_one PySem.W.kitx_float I.kIn True.intro e (fun z => nomatch z) h
  | @lst a xs ea =>
    cases (show u = Value.ref a from rx)
    obtain ⟨_, _, n, _, h1⟩ := (show ObjOk X.prog X.w H s.heap a (.lst xs) from I.hok a _ ea)
    exact PySem.W.kia_one PySem.W.kitx_list I.kIn ⟨_, h1, rfl⟩ e (fun z => nomatch z) h
  | @frz a ob xs ea =>
    cases (show u = Value.ref a from rx)
    obtain ⟨_, _, _, n, _, h1⟩ := (show ObjOk X.prog X.w H s.heap a (.frz ob (.lst xs)) from I.hok a _ ea)
    exact PySem.W.kia_one PySem.W.kitx_list I.kIn ⟨_, h1, rfl⟩ e (fun z => nomatch z) h
  | @tup a xs ea =>
    cases (show u = Value.ref a from rx)
    obtain ⟨_, _, _, p⟩ := (show ObjOk X.prog X.w H s.heap a (.tup xs) from I.hok a _ ea)
    obtain ⟨o, h1, h2, _⟩ := p
    exact PySem.W.kia_one PySem.W.kitx_tuple I.kIn ⟨o, h1, h2⟩ e (fun z => nomatch z) h
  | @dK a kvs ea =>
    cases (show u = Value.ref a from rx)
    obtain ⟨_, _, vs, _, p⟩ := (show ObjOk X.prog X.w H s.heap a (.dK kvs) from I.hok a _ ea)
    obtain ⟨o, es, ep, h1, h2, _⟩ := p
    exact PySem.W.kia_one PySem.W.kitx_dict I.kIn ⟨o, h1, h2.1⟩ e (fun z => nomatch z) h
  | @dT a kvs ea =>
    cases (show u = Value.ref a from rx)
    obtain ⟨_, _, xs, _, o, es, ep, h1, h2, _⟩ := (show ObjOk X.prog X.w H s.heap a (.dT kvs) from I.hok a _ ea)
    exact PySem.W.kia_one PySem.W.kitx_dict I.kIn ⟨o, h1, h2.1⟩ e (fun z => nomatch z) h
  | @ins a C dx fs ea cl ha hn htk hm =>
    cases (show u = Value.ref a from rx)
    obtain ⟨mA, O, _⟩ := ins_get I.hok ea
    obtain ⟨od, J, _⟩ := O.look
    exact PySem.W.kia_one (PySem.W.kitx_own (cl.get _) cl.hd ha hn htk hm) I.kIn J e (fun z => nomatch z) h
end
end L2

namespace L2
open PySem PySem.Spec PyProof.Rows

structure Room (k : Nat) (A : Around) : Prop where
  hd : A.handled = none
  dp : A.depth + 3 * k + 5 < recursionLimit
  un : A.units + 16 * k + 200 < cLine
theorem Room.mono {j k : Nat} {A : Around} (r : Room k A) (h : j ≤ k) : Room j A := ⟨r.hd, by have := r.dp; omega, by have := r.un; omega⟩
theorem Room.deeper {k : Nat} {A : Around} (r : Room (k + 1) A) (env : Env) : Room k (A.deeper env) :=
  ⟨r.hd, by have := r.dp; show A.depth + 1 + 3 * k + 5 < _; omega, by have := r.un; show A.units + 3 + 16 * k + 200 < _; omega⟩
theorem Room.depth {k : Nat} {A : Around} (r : Room k A) : A.depth < recursionLimit := by have := r.dp; omega
theorem Room.units {k : Nat} {A : Around} (r : Room k A) : A.units + 64 < cLine := by have := r.un; omega
noncomputable def tNil : TA := fun _ H Q => Q [] H
noncomputable def tCons (ta : TE) (tr : TA) : TA := fun σ H Q => ta σ H fun x H1 => tr σ H1 fun xs H2 => Q (x :: xs) H2
section
variable {X : Cx} {e : Expr} {es : List Expr} {te : TE} {t : TA} {pos : Pos}
theorem pa_nil : PA X [] tNil := ⟨fun _ _ _ _ H Q I h => Calls.spliced_nil ⟨[], H, I, .nil, h⟩⟩
theorem pa_cons (ha : PE X e te) (hr : PA X es t) (hs : starEach (e :: es) X.env = (false, eval e X.env) :: starEach es X.env := by rfl) : PA X (e :: es) (tCons te t) := by
  constructor; intro pos pins s σ H Q I h
  rw [hs]
  show wpAny _ _ (spliced ((false, eval e X.env) :: backTo pos (starEach es X.env))) _ _ s
  refine Calls.spliced_cons (thn (ha pins s σ H _ I h) fun u s1 ⟨x, H1, I1, r1, q1⟩ => ?_)
  exact thn (hr pos pins s1 σ H1 _ I1 q1) fun us s2 ⟨xs, H2, I2, r2, q2⟩ => ⟨x :: xs, H2, I2, .cons r1 r2, q2⟩

noncomputable def tTup (t : TA) : TE := fun σ H Q => t σ H fun xs H1 => xs.length ≤ sizeLine ∧ ∀ p, H1 p = none → Q (.ref p) (upd H1 p (.tup xs))
noncomputable def tLst (t : TA) : TE := fun σ H Q => t σ H fun xs H1 => xs.length ≤ sizeLine ∧ ∀ p, H1 p = none → Q (.ref p) (upd H1 p (.lst xs))
theorem pe_tup {x1} (h : PA X es t) : PE X (.Tuple es x1 pos) (tTup t) := by
  constructor; intro pins s σ H Q I hq
  refine wpAny_Tuple_spliced (thn (h pos pins s σ H _ I hq) fun us s1 ⟨xs, H1, I1, r, z, q⟩ => ⟨by rw [← r.length]; exact z, ?_⟩)
  have hf : H1 s1.heap.objs.size = none := I1.hok.fresh (Nat.le_refl _)
  refine ⟨.ref s1.heap.objs.size, upd H1 s1.heap.objs.size (.tup xs), I1.laid (t' := s1.toks) (fun b u e => Heap.get?_push_of_some _ e) (Nat.le_refl _) ?_, rfl, q _ hf⟩
  exact ⟨z, us, r, ⟨_, Heap.get?_push_size _ rfl, rfl, _, rfl⟩⟩
theorem pe_lst (h : PA X es t) : PE X (.List es pos) (tLst t) := by
  constructor; intro pins s σ H Q I hq
  refine wpAny_List_spliced (thn (h pos pins s σ H _ I hq) fun us s1 ⟨xs, H1, I1, r, z, q⟩ => ⟨by rw [← r.length]; exact z, ?_⟩)
  have hf : H1 s1.heap.objs.size = none := I1.hok.fresh (Nat.le_refl _)
  refine ⟨.ref s1.heap.objs.size, upd H1 s1.heap.objs.size (.lst xs), I1.laid (t' := s1.toks) (fun b u e => Heap.get?_push_of_some _ e) (Nat.le_refl _) ?_, rfl, q _ hf⟩
  exact ⟨z, us, 0, r, Heap.get?_push_size _ rfl⟩
end

noncomputable abbrev Sp := List V → Hp → VK → XK → Prop
noncomputable abbrev CXT := List Env → Hp → Shared → XK → Value → Shared → Prop

structure Env0 (P : Program) (w : World) (K : PySem.W.Frag) (mg : Str → Option Value) (base : Heap) (A : Around) (outer : List Env) (s : Shared) (H : Hp) : Prop where
  frames : A.frames = some outer
  mod : Mod K mg base
  bs : ∀ b o, base.get? b = some o → s.heap.get? b = some o ∧ H b = none
  bsz : base.objs.size ≤ s.heap.objs.size
  funs : s.heap.FunFrames base outer
  frf : ∀ b ∈ frs outer, H b = none
  hok : HOk P w H s.heap
  bare : AllBare s.gens
noncomputable def CE (outer : List Env) (P : Program) (w : World) (H : Hp) (s : Shared) (Q : VK) (u : Value) (s' : Shared) : Prop :=
  ∃ v H', s'.os = s.os ∧ AllBare s'.gens ∧ Un (frs outer) [] H H' s.heap s'.heap ∧ HOk P w H' s'.heap ∧ RelV v u ∧ Q v H'
noncomputable def CR (CX : CXT) (outer : List Env) (P : Program) (w : World) (H : Hp) (s : Shared) (Q : VK) (E : XK) (r : Result) (s' : Shared) : Prop :=
  match r with
  | .ok (.ret u) => CE outer P w H s Q u s'
  | .ok _ => False
  | .error e => CX outer H s E e s'
structure FnOk (P : Program) (w : World) (K : PySem.W.Frag) (mg : Str → Option Value) (base : Heap) (CX : CXT) (k : Nat) (f : Addr) (fd : FuncData) (ps : List Str) (sp : Sp) : Prop where
  len : ∀ vs H Q E, sp vs H Q E → vs.length = ps.length
  run : ∀ (A : Around) (outer : List Env) (s : Shared) (H : Hp) (args : Args) (us : List Value) (vs : List V) (Q : VK) (E : XK), Room k A → Env0 P w K mg base A outer s H → BindsTo s fd args (ps.zip us) → Vals vs us → sp vs H Q E →
    codeAny (model P w) A (.call (.ref f) args) (CR CX outer P w H s Q E) s
theorem FnOk.mono {P : Program} {w : World} {K : PySem.W.Frag} {mg : Str → Option Value} {base : Heap} {CX : CXT} {j k : Nat} {f : Addr} {fd : FuncData} {ps : List Str} {sp : Sp} (F : FnOk P w K mg base CX j f fd ps sp) (h : j ≤ k) :
    FnOk P w K mg base CX k f fd ps sp := ⟨F.len, fun A outer s H args us vs Q E hr => F.run A outer s H args us vs Q E (hr.mono h)⟩
section
variable {X : Cx} {pins : List (Addr × Obj)} {σ : St} {H : Hp} {s s' : Shared}
theorem Inv.env0 (I : Inv X pins σ H s) : Env0 X.prog X.w X.K X.mg X.base X.A X.stack s H :=
  ⟨I.ok.frames, I.ok.mod, I.bs, Nat.le_trans I.ok.bsz I.sz, I.stack, I.stkFree, I.hok, I.bare⟩
theorem Inv.after {Q : VK} {u : Value} (I : Inv X pins σ H s) (h : CE X.stack X.prog X.w H s Q u s') : EP X pins σ Q u s' := by
  obtain ⟨v, H', os, bare, un, hok, r, q⟩ := h
  obtain ⟨hh, g, d, t, os'⟩ := s'
  obtain rfl : os' = s.os := os
  exact ⟨v, H', I.call (h' := hh) (g' := g) (d' := d) (t' := t) (ch := []) un hok bare (fun b z => absurd z (by simp)), r, q⟩
end

noncomputable def tCall (sp : Sp) (dvs : List V) (E : XK) (t : TA) : TE := fun σ H Q => t σ H fun vs H1 => sp (vs ++ dvs) H1 Q E
noncomputable def Binds (K : PySem.W.Frag) (fd : FuncData) (ps : List Str) (ds : List Value) : Prop :=
  ∀ (s : Shared) (us : List Value), K.In s.heap → (us ++ ds).length = ps.length → BindsTo s fd ⟨us, []⟩ (ps.zip (us ++ ds))
theorem Binds.all {K : PySem.W.Frag} {fd : FuncData} {ps : List Str} (h : ∀ us : List Value, us.length = ps.length → bindArgs fd ⟨us, []⟩ = pure (ps.zip us)) : Binds K fd ps [] := fun s us _ hl => by
  rw [List.append_nil] at hl ⊢
  exact .of_eq (h us hl)

noncomputable def Passes (CX : CXT) (X : Cx) (E : XK) : Prop := ∀ (pins : List (Addr × Obj)) (σ : St) (H : Hp) (s : Shared) (e : Value) (s' : Shared), Inv X pins σ H s → CX X.stack H s E e s' → X.xe e s'

section
variable {X : Cx} {CX : CXT} {k : Nat} {f C : Addr} {fd : FuncData} {ps : List Str} {sp : Sp} {dvs : List V} {ds : List Value} {E : XK} {x m : Str} {p pos apos : Pos} {e o : Expr} {es : List Expr} {ta : TE} {t : TA}

theorem run_fn {pins : List (Addr × Obj)} {σ : St} {H : Hp} {s : Shared} {Q : VK} {us : List Value} {vs : List V} (F : FnOk X.prog X.w X.K X.mg X.base CX k f fd ps sp) (hr : Room k X.A) (hb : Binds X.K fd ps ds) (hd : Vals dvs ds) (hx : Passes CX X E)
    (I : Inv X pins σ H s) (r : Vals vs us) (h : sp (vs ++ dvs) H Q E) : wpAny (model X.prog X.w) X.A (call (.ref f) us) (EP X pins σ Q) X.xe s := by
  have r2 : Vals (vs ++ dvs) (us ++ ds) := r.append hd
  have hl : (us ++ ds).length = ps.length := by rw [← r2.length]; exact F.len _ _ _ _ h
  refine wpAny_call (codeAny_mono (F.run X.A X.stack s H ⟨us, []⟩ (us ++ ds) (vs ++ dvs) Q E hr I.env0 (hb s us I.kIn hl) r2 h) fun r s' hq => ?_)
  cases r with
  | error e => exact hx pins σ H s e s' I hq
  | ok fl =>
    cases fl with
    | ret u => exact I.after hq
    | next => exact False.elim hq
    | brk => exact False.elim hq
    | cont => exact False.elim hq

theorem pe_call (F : FnOk X.prog X.w X.K X.mg X.base CX k f fd ps sp) (hr : Room k X.A) (hg : Gl X x) (hm : X.mg x = some (.ref f)) (hk : PySem.W.keepIn X.K (.ref f) = true) (hb : Binds X.K fd ps ds) (hd : Vals dvs ds) (hx : Passes CX X E)
    (ha : PA X (e :: es) t) (hdb : (x == ("__debug__" : Str)) = false := by decide) (he : starEach (e :: es) X.env = (false, eval e X.env) :: starEach es X.env := by rfl) (hpl : (backTo pos (starEach es X.env)).any (·.1) = false := by rfl) :
    PE X (.Call (.Name x p) (e :: es) [] pos) (tCall sp dvs E t) := by
  constructor; intro pins s σ H Q I h
  refine wpAny_Call_Name_kw (ld_glob I hg hm ?_ hdb)
  refine PySem.W.callWith_K (h₀ := X.base) I.ok.mod.kin hk (thn (ha pos pins s σ H _ I h) fun us s1 ⟨vs, H1, I1, r, q⟩ => ⟨I1.kIn, ?_⟩) he hpl
  exact run_fn F hr hb hd hx I1 r q
end

section
variable {X : Cx} {CX : CXT} {k : Nat} {f C : Addr} {fd : FuncData} {ps ks : List Str} {sp : Sp} {E : XK} {x m : Str} {p pos apos kpos : Pos} {e o : Expr} {es : List Expr} {kws : List Keyword} {te ta : TE} {t tk : TA} {nm : Option Str}
variable {g : List Value → List Value → List Value} {gV : List V → List V → List V}
end

structure FnScope (N P : List Str) (sc : Scope) : Prop where
  kind : sc.kind = .function
  co : sc.isCoroutine = false
  gen : sc.isGenerator = false
  nd : N.Nodup
  pre : N.take P.length = P
  par : ∀ x ∈ P, sc.names.lookup x = some .local ∨ sc.names.lookup x = some .cell
  nofree : ∀ y ∈ sc.names, y.2 ≠ .free

theorem bindL_out {kindOf : Str → Option NameKind} {x : Str} : ∀ {binds : List (Str × Value)} {m : Str → Option Value}, (∀ v, (x, v) ∉ binds) → bindL kindOf binds m x = m x
  | [], _, _ => rfl
  | (n, v) :: r, m, h => by
    unfold bindL
    rw [bindL_out fun w hw => h w (List.mem_cons_of_mem _ hw)]
    split
    · have : x ≠ n := by rintro rfl; exact h v List.mem_cons_self
      simp [this]
    · rfl
theorem bindC_out {kindOf : Str → Option NameKind} {x : Str} : ∀ {binds : List (Str × Value)} {m : Str → Option Value}, (∀ v, (x, v) ∉ binds) → bindC kindOf binds m x = m x
  | [], _, _ => rfl
  | (n, v) :: r, m, h => by
    unfold bindC
    rw [bindC_out fun w hw => h w (List.mem_cons_of_mem _ hw)]
    split
    · rfl
    · have : x ≠ n := by rintro rfl; exact h v List.mem_cons_self
      simp [this]
theorem bindL_get {kindOf : Str → Option NameKind} {x : Str} {v : Value} : ∀ {P : List Str} {vs : List Value} {i : Nat} {m : Str → Option Value}, P.Nodup → P[i]? = some x → vs[i]? = some v → kindOf x = some .local →
    bindL kindOf (P.zip vs) m x = some v
  | [], _, _, _, _, h, _, _ => by simp at h
  | _ :: _, [], _, _, _, _, h, _ => by simp at h
  | p :: P, w :: vs, 0, m, nd, h1, h2, hk => by
    simp at h1 h2; subst h1; subst h2
    show bindL kindOf ((p, w) :: P.zip vs) m p = _
    unfold bindL
    rw [bindL_out fun v hv => (List.nodup_cons.mp nd).1 (List.of_mem_zip hv).1, if_pos hk]
    simp
  | p :: P, w :: vs, i + 1, m, nd, h1, h2, hk => by
    show bindL kindOf ((p, w) :: P.zip vs) m x = _
    unfold bindL
    exact bindL_get (i := i) (List.nodup_cons.mp nd).2 (by simpa using h1) (by simpa using h2) hk
theorem bindC_get {kindOf : Str → Option NameKind} {x : Str} {v : Value} : ∀ {P : List Str} {vs : List Value} {i : Nat} {m : Str → Option Value}, P.Nodup → P[i]? = some x → vs[i]? = some v → kindOf x ≠ some .local →
    bindC kindOf (P.zip vs) m x = some v
  | [], _, _, _, _, h, _, _ => by simp at h
  | _ :: _, [], _, _, _, _, h, _ => by simp at h
  | p :: P, w :: vs, 0, m, nd, h1, h2, hk => by
    simp at h1 h2; subst h1; subst h2
    show bindC kindOf ((p, w) :: P.zip vs) m p = _
    unfold bindC
    rw [bindC_out fun v hv => (List.nodup_cons.mp nd).1 (List.of_mem_zip hv).1, if_neg hk]
    simp
  | p :: P, w :: vs, i + 1, m, nd, h1, h2, hk => by
    show bindC kindOf ((p, w) :: P.zip vs) m x = _
    unfold bindC
    exact bindC_get (i := i) (List.nodup_cons.mp nd).2 (by simpa using h1) (by simpa using h2) hk

noncomputable def start (N : List Str) (vs : List V) : St := vs.map some ++ List.replicate (N.length - vs.length) none

noncomputable def cxOf (CX : CXT) (P : Program) (w : World) (K : PySem.W.Frag) (mg : Str → Option Value) (base : Heap) (N : List Str) (qual : Str) (scope : Scope) (f : Addr) (cd : Value) (A : Around) (outer : List Env) (s : Shared) (H : Hp) (E : XK) : Cx where
  prog := P
  w := w
  K := K
  mg := mg
  base := base
  A := A.deeper (envOfC qual scope s.heap.objs.size f cd)
  N := N
  s₀ := s
  H₀ := H
  env := envOfC qual scope s.heap.objs.size f cd
  outer := outer
  stack := envOfC qual scope s.heap.objs.size f cd :: outer
  ex := []
  calm := true
  fn := fun _ => true
  pn := []
  xe := fun e s' => wpAny (model P w) (A.deeper (envOfC qual scope s.heap.objs.size f cd)) (leaving (envOfC qual scope s.heap.objs.size f cd) e) (fun _ s'' => CX outer H s E e s'') (fun e' s'' => CX outer H s E e' s'') s'

theorem cell_has {sc : Scope} {n : Nat} {x : Str} (h : sc.names.lookup x = some .cell) : ∃ c, (cellsFrom n sc.names []).lookup x = some c := by
  have q := PySem.W.cellsFrom_some sc.names n [] (.inl h)
  exact Option.isSome_iff_exists.mp q

theorem inv_start {CX : CXT} {P : Program} {w : World} {K : PySem.W.Frag} {mg : Str → Option Value} {base : Heap} {N ps : List Str} {qual : Str} {scope : Scope} {f : Addr} {cd : Value} {A : Around} {outer : List Env} {s s1 : Shared} {H : Hp} {E : XK} {us : List Value} {vs : List V}
    (S : FnScope N ps scope) (hd : A.handled = none) (e0 : Env0 P w K mg base A outer s H) (hl : vs.length = ps.length) (r : Vals vs us)
    (x : InCallC s s.heap.objs.size (bindL (envOfC qual scope s.heap.objs.size f cd).kindOf (ps.zip us) fun _ => none) (cellsFrom (s.heap.objs.size + 1) scope.names []) (bindC (envOfC qual scope s.heap.objs.size f cd).kindOf (ps.zip us) fun _ => none) s1) :
    Inv (cxOf CX P w K mg base N qual scope f cd A outer s H E) [] (start N vs) H s1 := by
  have hpl : ps.length ≤ N.length := by have := congrArg List.length S.pre; rw [List.length_take] at this; omega
  obtain ⟨h1, tk, rfl, hk⟩ := x.done
  have noA : ∀ b : Addr, b ∉ (cxOf CX P w K mg base N qual scope f cd A outer s H E).ex := fun b z => absurd (show b ∈ ([] : List Addr) from z) (by simp)
  refine ⟨⟨e0.mod, S.kind, rfl, rfl, Nat.le_refl _, fun y z c h1 h2 => ?_, fun y hy => ?_, fun y c _ h => ?_, fun _ => hd, Around.frames_deeper e0.frames, .inr ⟨rfl, rfl⟩, fun b z => absurd z (noA b), e0.bs, e0.bsz, fun b _ _ => noA b, fun b z => absurd z (noA b), e0.funs, e0.frf⟩,
    rfl, e0.bare, Un.kept hk, ⟨_, x.toInCall.ns, fun i y v h1 h2 h3 => ?_⟩, fun y c h => ⟨_, x.cell y c h⟩, e0.hok.fresh (Nat.le_refl _), fun y c h => ?_, fun p hp => absurd (show p ∈ ([] : List (Addr × Obj)) from hp) (by simp), e0.hok.kept hk, ?_⟩
  · exact name_of_addr x.apart (PySem.mem_of_lookup h1) (PySem.mem_of_lookup h2)
  · have hy : scope.names.lookup y = some .cell ∨ scope.names.lookup y = some .free := hy
    rcases hy with hy | hy
    · exact cell_has hy
    · exact absurd rfl (S.nofree _ (PySem.mem_of_lookup hy))
  · exact Nat.le_of_lt (x.above y c (PySem.mem_of_lookup h))
  · have hi : i < vs.length := by
      unfold start at h2
      by_cases hi : i < vs.length
      · exact hi
      · rw [List.getElem?_append_right (by simpa using hi)] at h2
        rw [List.getElem?_replicate] at h2
        split at h2 <;> cases h2
    have ha : vs[i]? = some v := by
      unfold start at h2
      rw [List.getElem?_append_left (by simpa using hi), List.getElem?_map] at h2
      cases e : vs[i]? with
      | none => rw [e] at h2; cases h2
      | some a => rw [e] at h2; cases h2; rfl
    obtain ⟨u, hu, rv⟩ := r.get ha
    have hp : ps[i]? = some y := by
      rw [← S.pre, List.getElem?_take_of_lt (by omega)]; exact h1
    have ndP : ps.Nodup := by rw [← S.pre]; exact S.nd.sublist (List.take_sublist _ _)
    refine ⟨u, rv, ?_⟩
    rcases S.par y (List.mem_of_getElem? hp) with k | k
    · exact .inl ⟨k, bindL_get ndP hp hu k⟩
    · obtain ⟨c, e⟩ := cell_has (n := s.heap.objs.size + 1) k
      refine .inr ⟨.inl k, c, e, ?_⟩
      have q := x.cell y c e
      rw [bindC_get ndP hp hu (by show scope.names.lookup y ≠ _; rw [k]; decide)] at q
      exact q
  · exact e0.hok.fresh (Nat.le_of_lt (x.above y c (PySem.mem_of_lookup h)))
  · unfold start
    show _ = N.length
    rw [List.length_append, List.length_map, List.length_replicate]
    omega

theorem fn_of {CX : CXT} {P : Program} {w : World} {K : PySem.W.Frag} {mg : Str → Option Value} {base : Heap} {k : Nat} {f : Addr} {name qual : Str} {params : Arguments} {body : List Stmt} {scope : Scope} {dV kV doc pm cdv ct oc : Value} {an od : Option Addr}
    {osl : Array (Option Value)} {N ps : List Str} {sp : Sp} (lk : K.lookup f = some ⟨oc, od, .func (PySem.W.fnOf name qual params body scope dV kV doc pm an cdv ct), osl⟩) (hcd : PySem.W.codeIn K cdv qual = true) (S : FnScope N ps scope)
    (len : ∀ vs H Q E, sp vs H Q E → vs.length = ps.length)
    (hbody : ∀ (A : Around) (outer : List Env) (s : Shared) (H : Hp) (vs : List V) (Q : VK) (E : XK), Room k (A.deeper (envOfC qual scope s.heap.objs.size f cdv)) → sp vs H Q E →
      ∃ t, PSs (cxOf CX P w K mg base N qual scope f cdv A outer s H E) body t ∧ t { nx := fun _ H' => Q .non H', rt := Q } (start N vs) H) :
    FnOk P w K mg base CX (k + 1) f (PySem.W.fnOf name qual params body scope dV kV doc pm an cdv ct) ps sp := by
  refine ⟨len, fun A outer s H args us vs Q E hr e0 hb r hsp => ?_⟩
  have hl := len _ _ _ _ hsp
  have KX : K.In s.heap := e0.mod.kin.keeps fun b o e => (e0.bs b o e).1
  have lim : s.heap.NoLimit := e0.mod.nolimit.keeps fun b o e => (e0.bs b o e).1
  have hkind : ∀ y ∈ ps.zip us, scope.names.lookup y.1 = some .local ∨ (scope.names.lookup y.1 = some .cell ∧ ((cellsFrom (s.heap.objs.size + 1) scope.names []).lookup y.1).isSome = true) := fun ⟨n, v⟩ hy => by
    rcases S.par n (List.of_mem_zip hy).1 with q | q
    · exact .inl q
    · exact .inr ⟨q, PySem.W.cellsFrom_some _ _ _ (.inl q)⟩
  refine codeAny_call_function hr.depth (KX _ _ lk) rfl S.co S.gen rfl (PySem.W.codeRec_of KX hcd) (hb _ _ _ _ ?_)
  refine wpAny_newFunctionEnv_cells S.kind hkind fun env he s1 x => ?_
  subst he
  refine ⟨lim.keeps x.toInCall.keep, codeAny_func ?_⟩
  obtain ⟨t, ht, hq⟩ := hbody A outer s H vs Q E (hr.deeper _) hsp
  have I : Inv (cxOf CX P w K mg base N qual scope f cdv A outer s H E) [] (start N vs) H s1 := inv_start S hr.hd e0 hl r x
  refine wpAny_mono (ht [] s1 (start N vs) H _ I hq) (fun fl s' hs => ?_) fun e s' hs => hs
  have fin : ∀ {σ' : St} {H' : Hp} {v : V} {u : Value}, Inv (cxOf CX P w K mg base N qual scope f cdv A outer s H E) [] σ' H' s' → RelV v u → Q v H' → CE outer P w H s Q u s' :=
    fun {σ' H' v u} J rv q => ⟨v, H', J.os, J.bare, J.base, J.hok, rv, q⟩
  cases fl with
  | ret u =>
    obtain ⟨v, σ', H', J, rv, q⟩ := hs
    exact fin J rv q
  | next =>
    obtain ⟨σ', H', J, q⟩ := hs
    exact fin (v := V.non) (u := Value.none) J rfl q
  | brk =>
    obtain ⟨_, _, _, q⟩ := hs
    exact False.elim q
  | cont =>
    obtain ⟨_, _, _, q⟩ := hs
    exact False.elim q
end L2

namespace L2
open PySem PySem.Spec PyProof.Rows
section
variable {X : Cx} {x : Str} {p pos : Pos} {e : Expr} {es : List Expr} {t : TA} {id T : String} {r : List V → Hp → VK → Prop}

noncomputable def tCB (r : List V → Hp → VK → Prop) (t : TA) : TE := fun σ H Q => t σ H fun vs H1 => r vs H1 Q
theorem pe_callB (hc : CallR X (.builtin id) r) (hg : Gl X x) (hm : X.mg x = none) (hv : bootBuiltins x = some (.builtin id)) (ha : PA X (e :: es) t) (hn : x ≠ "__name__" := by decide) (hdb : (x == ("__debug__" : Str)) = false := by decide)
    (he : starEach (e :: es) X.env = (false, eval e X.env) :: starEach es X.env := by rfl) (hpl : (backTo pos (starEach es X.env)).any (·.1) = false := by rfl) : PE X (.Call (.Name x p) (e :: es) [] pos) (tCB r t) := by
  constructor; intro pins s σ H Q I h
  refine wpAny_Call_Name_kw (ld_blt I hg hm hv ?_ hn hdb)
  exact PyProof.Rows.callWith_builtin1 (thn (ha pos pins s σ H _ I h) fun us s1 ⟨vs, H1, I1, r1, q1⟩ => hc pins s1 σ H1 vs us Q I1 r1 q1) he hpl
theorem pe_callTy (hc : CallR X (.type T) r) (hg : Gl X x) (hm : X.mg x = none) (hv : bootBuiltins x = some (.type T)) (ha : PA X (e :: es) t) (hn : x ≠ "__name__" := by decide) (hdb : (x == ("__debug__" : Str)) = false := by decide)
    (he : starEach (e :: es) X.env = (false, eval e X.env) :: starEach es X.env := by rfl) (hpl : (backTo pos (starEach es X.env)).any (·.1) = false := by rfl) : PE X (.Call (.Name x p) (e :: es) [] pos) (tCB r t) := by
  constructor; intro pins s σ H Q I h
  refine wpAny_Call_Name_kw (ld_blt I hg hm hv ?_ hn hdb)
  exact PyProof.Rows.callWith_type1 (thn (ha pos pins s σ H _ I h) fun us s1 ⟨vs, H1, I1, r1, q1⟩ => hc pins s1 σ H1 vs us Q I1 r1 q1) he hpl
end
end L2

namespace HT
open PySem PyProof.Rows

section
open PySem.SeqAt
open PySem.AutoSeq1 (wpAny_loadPart')
open PySem.MeetsSeq PySem.MeetsSeq2 PySem.MeetsSeq3

end

section
variable {prog : Program} {w : World} {A : Around} {E : Value → Shared → Prop} {s : Shared}

noncomputable def sIx (n d : Nat) : Option Int → Nat
  | none => d
  | some v => if v < 0 then (v + (n : Int)).toNat else min v.toNat n
end
end HT

namespace L2
open PySem PySem.Spec PyProof.Rows

noncomputable abbrev TO := St → Hp → (Option Int → Hp → Prop) → Prop
structure PO (X : Cx) (e : Option Expr) (t : TO) : Prop where
  run : ∀ (pins : List (Addr × Obj)) (s : Shared) (σ : St) (H : Hp) (Q : Option Int → Hp → Prop), Inv X pins σ H s → t σ H Q →
    wpAny (model X.prog X.w) X.A (evalPart e X.env) (fun u s' => ∃ o H', Inv X pins σ H' s' ∧ IsPart u o ∧ Q o H') X.xe s
noncomputable instance {X : Cx} {e : Option Expr} {t : TO} : CoeFun (PO X e t) fun _ => ∀ (pins : List (Addr × Obj)) (s : Shared) (σ : St) (H : Hp) (Q : Option Int → Hp → Prop), Inv X pins σ H s → t σ H Q →
    wpAny (model X.prog X.w) X.A (evalPart e X.env) (fun u s' => ∃ o H', Inv X pins σ H' s' ∧ IsPart u o ∧ Q o H') X.xe s := ⟨PO.run⟩
noncomputable def tNoPart : TO := fun _ H Q => Q none H
noncomputable def tPart (t : TE) : TO := fun σ H Q => t σ H fun x H1 => ∃ i, x = .int i ∧ Q (some i) H1

section
variable {X : Cx} {e : Expr} {te : TE} {lo hi : Option Expr} {tl th : TO} {pos p2 : Pos}

theorem po_none : PO X none tNoPart := by
  constructor; intro pins s σ H Q I h
  rw [evalPart_none]
  exact wpAny_pure ⟨none, H, I, .none, h⟩
theorem po_some (h : PE X e te) : PO X (some e) (tPart te) := by
  constructor; intro pins s σ H Q I hw
  rw [evalPart_some]
  refine thn (h pins s σ H _ I hw) fun u s1 ⟨x, H1, I1, r1, q1⟩ => ?_
  obtain ⟨i, rfl, q⟩ := q1
  obtain ⟨t, rfl⟩ := r1
  exact ⟨some i, H1, I1, .int i t, q⟩

noncomputable def SlR (X : Cx) (r : V → Option Int → Option Int → Hp → VK → Prop) : Prop :=
  ∀ (pins : List (Addr × Obj)) (s : Shared) (σ : St) (H : Hp) (x : V) (v vl vu : Value) (lo hi : Option Int) (sl : Addr) (Q : VK), Inv X pins σ H s → RelV x v → s.heap.IsSliceOf sl vl vu .none → IsPart vl lo → IsPart vu hi → r x lo hi H Q →
    ∃ T id, typeLookup (.type T) "__getitem__" = pure (some (.builtin id)) ∧ s.TypeIs v T ∧ wpAny (model X.prog X.w) X.A (getItem v (.ref sl)) (EP X pins σ Q) X.xe s
noncomputable def tSl (r : V → Option Int → Option Int → Hp → VK → Prop) (te : TE) (tl th : TO) : TE := fun σ H Q => te σ H fun x H1 => tl σ H1 fun l H2 => th σ H2 fun u H3 => r x l u H3 Q
theorem pe_slice {r : V → Option Int → Option Int → Hp → VK → Prop} (hr : SlR X r) (he : PE X e te) (hl : PO X lo tl) (hu : PO X hi th) : PE X (.Subscript e (.Slice lo hi none p2) pos) (tSl r te tl th) := by
  constructor; intro pins s σ H Q I h
  refine Subscript_ (thn (he pins s σ H _ I h) fun v s1 ⟨x, H1, I1, r1, q1⟩ => ?_)
  refine wpAny_Slice (thn (hl pins s1 σ H1 _ I1 q1) fun vl s2 ⟨l, H2, I2, pl, q2⟩ => thn (hu pins s2 σ H2 _ I2 q2) fun vu s3 ⟨u, H3, I3, pu, q3⟩ => ?_)
  rw [evalPart_none]
  refine wpAny_pure ?_
  have I4 : Inv X pins σ H3 { s3 with heap := s3.heap.push { cls := .type "slice", data := .fields #[vl, vu, .none] } } := I3.kept (t' := s3.toks) fun b ob q => Heap.get?_push_of_some _ q
  obtain ⟨T, id, hT, ht, hg⟩ := hr pins { s3 with heap := s3.heap.push { cls := .type "slice", data := .fields #[vl, vu, .none] } } σ H3 x v vl vu l u s3.heap.objs.size Q I4 r1 (Heap.IsSliceOf.new ..) pl pu q3
  show wpAny (model X.prog X.w) X.A (subscriptTail e (.Slice lo hi none p2) v (.ref s3.heap.objs.size)) (EP X pins σ Q) X.xe { s3 with heap := s3.heap.push { cls := .type "slice", data := .fields #[vl, vu, .none] } }
  exact tail_any (ops := [.ref s3.heap.objs.size, v]) ht hT hg (by with_unfolding_all rfl)

noncomputable def cutV (xs : List V) (lo hi : Option Int) : List V := (xs.drop (HT.sIx xs.length 0 lo)).take (HT.sIx xs.length xs.length hi - HT.sIx xs.length 0 lo)
theorem cutV_length (xs : List V) (lo hi : Option Int) : (cutV xs lo hi).length ≤ xs.length := by
  unfold cutV
  rw [List.length_take, List.length_drop]
  omega
end
end L2

namespace L2
open PySem PySem.Spec PyProof.Rows

noncomputable def ixN (n : Nat) (i : Int) : Option Nat := if 0 ≤ i then (if i < n then some i.toNat else none) else if -(n : Int) ≤ i then some (i + n).toNat else none
noncomputable def atI {α : Type} (xs : List α) (i : Int) : Option α := (ixN xs.length i).bind fun j => xs[j]?
theorem ixN_seq {n : Nat} {i : Int} {j : Nat} (h : ixN n i = some j) : seqIndex? i n = some j ∧ j < n ∧ -(n : Int) ≤ i ∧ i < n := by
  unfold ixN at h
  by_cases h0 : 0 ≤ i
  · rw [if_pos h0] at h
    by_cases h1 : i < n
    · rw [if_pos h1] at h
      have e : i.toNat = j := Option.some.inj h
      exact ⟨by rw [seqIndex_of h0 h1, e], by omega, by omega, h1⟩
    · rw [if_neg h1] at h; cases h
  · rw [if_neg h0] at h
    by_cases h1 : -(n : Int) ≤ i
    · rw [if_pos h1] at h
      have e : (i + n).toNat = j := Option.some.inj h
      exact ⟨by rw [seqIndex_neg (by omega) h1, e], by omega, h1, by omega⟩
    · rw [if_neg h1] at h; cases h
theorem atI_get {α : Type} {xs : List α} {i : Int} {v : α} (h : atI xs i = some v) : ∃ j, seqIndex? i xs.length = some j ∧ xs[j]? = some v ∧ j < xs.length ∧ -(xs.length : Int) ≤ i ∧ i < xs.length := by
  unfold atI at h
  cases e : ixN xs.length i with
  | none => rw [e] at h; cases h
  | some j =>
    rw [e] at h
    obtain ⟨h1, h2, h3, h4⟩ := ixN_seq e
    exact ⟨j, h1, h, h2, h3, h4⟩
theorem atI_nat {α : Type} {xs : List α} {j : Nat} {v : α} (h : xs[j]? = some v) : atI xs (j : Int) = some v := by
  have hj : j < xs.length := (List.getElem?_eq_some_iff.mp h).1
  have e : ixN xs.length (j : Int) = some j := by
    unfold ixN
    rw [if_pos (by omega), if_pos (by omega)]; simp
  unfold atI; rw [e]; exact h
noncomputable def PlainIx (b : Expr) : Prop := ∀ o i, subscripted b false o i = operate [o, i] (getItem o i)
noncomputable def IxR (X : Cx) (r : R2) : Prop :=
  ∀ (value slice : Expr) (pins : List (Addr × Obj)) (s : Shared) (σ : St) (H : Hp) (x y : V) (v u : Value) (Q : VK), Inv X pins σ H s → RelV x v → RelV y u → r x y H Q →
    subscripted slice false v u = operate [v, u] (getItem v u) → wpAny (model X.prog X.w) X.A (subscriptTail value slice v u) (EP X pins σ Q) X.xe s
noncomputable def MtR (X : Cx) (id : String) (r : V → List V → Hp → VK → Prop) : Prop :=
  ∀ (pins : List (Addr × Obj)) (s : Shared) (σ : St) (H : Hp) (x : V) (xs : List V) (v : Value) (us : List Value) (Q : VK), Inv X pins σ H s → RelV x v → Vals xs us → r x xs H Q →
    wpAny (model X.prog X.w) X.A (call (.builtin id) (v :: us)) (EP X pins σ Q) X.xe s
section
variable {X : Cx} {a b : Expr} {ta tb : TE} {pos : Pos}
theorem pe_ix {r : R2} (hr : IxR X r) (ha : PE X a ta) (hb : PE X b tb) (hs : PlainIx b) : PE X (.Subscript a b pos) (tOp r ta tb) := by
  constructor; intro pins s σ H Q I h
  exact Subscript_ (binT ha hb I h fun v u s2 x y H2 I2 rx ry q => hr a b pins s2 σ H2 x y v u Q I2 rx ry q (hs _ _))

noncomputable def rIxL (K : PySem.W.Frag) : R2 := fun x y H Q => ∃ p xs i v, x = .ref p ∧ y = .int i ∧ SqL K H p xs ∧ atI xs i = some v ∧ Q v H
noncomputable def rIxT (K : PySem.W.Frag) : R2 := fun x y H Q => ∃ p xs i v, x = .ref p ∧ y = .int i ∧ SqT K H p xs ∧ atI xs i = some v ∧ Q v H
noncomputable def rIxS : R2 := fun x y H Q => ∃ z i c, x = .str z ∧ y = .int i ∧ z.length ≤ sizeLine ∧ atI z.cps.toList i = some c ∧ Q (.str ⟨#[c]⟩) H
theorem ix_list : IxR X (rIxL X.K) := by
  intro value slice pins s σ H x y v u Q I rx ry h hs
  obtain ⟨p, xs, i, z, rfl, rfl, hq, he, q⟩ := h
  cases rx
  obtain ⟨t, rfl⟩ := ry
  obtain ⟨its, r, pl, hz⟩ := I.list hq
  obtain ⟨j, h1, h2, h3, h4, h5⟩ := atI_get he
  obtain ⟨w, ew, rw'⟩ := r.get h2
  have hl := r.length
  have hn := line63
  have fin : EP X pins σ Q w s := ⟨z, H, I, rw', q⟩
  by_cases h0 : 0 ≤ i
  · have hj : i.toNat = j := by
      rw [seqIndex_of h0 h5] at h1
      exact Option.some.inj h1
    exact item_listR pl.isList h0 (by omega) (by rw [hj]; simpa using ew) fin hs
  · have hj : (i + (its.toArray.size : Int)).toNat = j := by
      rw [seqIndex_neg (by omega) h4] at h1
      rw [List.size_toArray, ← hl]
      exact Option.some.inj h1
    exact subscriptTail_builtinR (x := w) pl.isList.typeIs slot_list_getitem.lookup
      (wpAny_getItem_list_neg (Q := fun r s' => r = w ∧ EP X pins σ Q r s') pl.isList (by omega) (by rw [List.size_toArray] <;> omega) (by omega) (by rw [hj]; simpa using ew) ⟨rfl, fin⟩) hs
theorem ix_tup : IxR X (rIxT X.K) := by
  intro value slice pins s σ H x y v u Q I rx ry h hs
  obtain ⟨p, xs, i, z, rfl, rfl, hq, he, q⟩ := h
  cases rx
  obtain ⟨t, rfl⟩ := ry
  obtain ⟨its, r, pl, hz⟩ := I.tuple hq
  obtain ⟨j, h1, h2, h3, h4, h5⟩ := atI_get he
  obtain ⟨w, ew, rw'⟩ := r.get h2
  have hl := r.length
  have hn := line63
  have fin : EP X pins σ Q w s := ⟨z, H, I, rw', q⟩
  exact subscriptTail_builtinR (x := w) pl.typeIs slot_tuple_getitem.lookup
    (getItem_tuple (j := j) (Q := fun r s' => r = w ∧ EP X pins σ Q r s') pl (by omega) (by omega) (by rw [List.size_toArray, ← hl]; exact h1) (by simpa using ew) ⟨rfl, fin⟩) hs
theorem ix_str : IxR X rIxS := by
  intro value slice pins s σ H x y v u Q I rx ry h hs
  obtain ⟨z, i, c, rfl, rfl, hz, he, q⟩ := h
  obtain ⟨t, rfl⟩ := rx
  obtain ⟨t', rfl⟩ := ry
  obtain ⟨j, h1, h2, h3, h4, h5⟩ := atI_get he
  have hl : z.cps.toList.length = z.length := by simp [Str.length]
  rw [hl] at h1 h4 h5
  have hn := line63
  exact tail_any (typeIs_str s z t) slot_str_getitem.lookup (getItem_str (c := c) (by
    have e1 : decide (i < -(2 ^ 63 : Int)) = false := decide_eq_false (by omega)
    have e2 : decide (i ≥ 2 ^ 63) = false := decide_eq_false (by omega)
    rw [e1, e2, Bool.or_false]) (by rw [h1]; simpa using h2) ⟨.str ⟨#[c]⟩, H, I.tok _, ⟨_, rfl⟩, q⟩) hs
theorem mapSeq_set (its : List Value) (n j : Nat) (u : Value) : Obj.mapSeq (·.setIfInBounds j u) { cls := .type "list", data := .seq its.toArray n } = { cls := .type "list", data := .seq (its.set j u).toArray n } := by
  simp [Obj.mapSeq]
theorem Inv.lst {pins : List (Addr × Obj)} {σ : St} {H : Hp} {s : Shared} {p : Addr} {xs : List V} (I : Inv X pins σ H s) (h : H p = some (.lst xs)) :
    ∃ (its : List Value) (n : Nat), Vals xs its ∧ s.heap.get? p = some { cls := .type "list", data := .seq its.toArray n } ∧ xs.length ≤ sizeLine := by
  obtain ⟨z, its, n, r, e⟩ := I.hok p _ h
  exact ⟨its, n, r, e, z⟩
theorem Inv.lstUpd {pins : List (Addr × Obj)} {σ : St} {H : Hp} {s : Shared} {p : Addr} {xs ys : List V} {its its' : List Value} {n n' : Nat} {f : Obj → Obj} (I : Inv X pins σ H s) (h : H p = some (.lst xs))
    (ho : s.heap.get? p = some { cls := .type "list", data := .seq its.toArray n }) (hf : f { cls := .type "list", data := .seq its.toArray n } = { cls := .type "list", data := .seq its'.toArray n' }) (r : Vals ys its') (hz : ys.length ≤ sizeLine) (t : Nat) :
    Inv X pins σ (upd H p (.lst ys)) { s with heap := s.heap.update p f, toks := t } := by
  have e : (s.heap.update p f).get? p = some { cls := .type "list", data := .seq its'.toArray n' } := by
    rw [Heap.get?_update_self f ho (by rw [hf] <;> rfl), hf]
  refine I.write (x := p) (e := p) (by rw [h]; trivial) (.inl rfl) (fun b u hb q => (Heap.get?_update_other _ _ (Ne.symm hb)).trans q) ⟨_, e⟩ ?_
  exact ⟨hz, its', n', r, e⟩
noncomputable def rSetL : V → V → V → Hp → (Hp → Prop) → Prop := fun o i v H Q => ∃ p xs k j, o = .ref p ∧ i = .int k ∧ H p = some (.lst xs) ∧ ixN xs.length k = some j ∧ Q (upd H p (.lst (xs.set j v)))
theorem set_list : PSet X rSetL := by
  intro pins s σ H o i v ov iv u Q I ro ri rv h
  obtain ⟨p, xs, k, j, rfl, rfl, hp, hj, q⟩ := h
  cases ro
  obtain ⟨t, rfl⟩ := ri
  obtain ⟨its, n, r, ho, hz⟩ := I.lst hp
  obtain ⟨h1, h2, h3, h4⟩ := ixN_seq hj
  have hl := r.length
  have hn := line63
  have I' : Inv X pins σ (upd H p (.lst (xs.set j v))) { s with heap := s.heap.update p (Obj.mapSeq (·.setIfInBounds j u)) } :=
    I.lstUpd hp ho (mapSeq_set its n j u) (r.set rv j) (by rw [List.length_set]; exact hz) s.toks
  by_cases h0 : 0 ≤ k
  · have hk : k.toNat = j := by
      rw [seqIndex_of h0 h4] at h1
      exact Option.some.inj h1
    exact PySem.W.ki_setAt ho h0 (by omega) (by rw [List.size_toArray, ← hl]; exact h4) (by rw [hk]; exact ⟨_, I', q⟩)
  · have hk : (k + (its.toArray.size : Int)).toNat = j := by
      rw [seqIndex_neg (by omega) h3] at h1
      rw [List.size_toArray, ← hl]
      exact Option.some.inj h1
    exact PySem.W.ki_setBack ho (by omega) (by rw [List.size_toArray, ← hl]; exact h3) (by omega) (by rw [hk]; exact ⟨_, I', q⟩)

theorem slice_bounds (lo hi : Option Int) (n : Nat) : (sliceBounds lo hi none n).1 = ((HT.sIx n 0 lo : Nat) : Int) ∧ (sliceBounds lo hi none n).2.1 = ((HT.sIx n n hi : Nat) : Int) ∧ (sliceBounds lo hi none n).2.2 = 1 := by
  refine ⟨?_, ?_, rfl⟩
  · cases lo with
    | none => simp [sliceBounds, HT.sIx]
    | some i =>
      simp only [sliceBounds, HT.sIx, Option.getD_none, show (1 : Int) > 0 by decide, if_true]
      by_cases h : i < 0
      · simp only [h, if_true] <;> omega
      · simp only [h, if_false] <;> omega
  · cases hi with
    | none => simp [sliceBounds, HT.sIx]
    | some i =>
      simp only [sliceBounds, HT.sIx, Option.getD_none, show (1 : Int) > 0 by decide, if_true]
      by_cases h : i < 0
      · simp only [h, if_true] <;> omega
      · simp only [h, if_false] <;> omega
theorem slicePick_cut (its : List Value) (lo hi : Option Int) : slicePick its.toArray lo hi none = ((its.drop (HT.sIx its.length 0 lo)).take (HT.sIx its.length its.length hi - HT.sIx its.length 0 lo)).toArray := by
  obtain ⟨h1, h2, h3⟩ := slice_bounds lo hi its.toArray.size
  unfold slicePick
  rw [h1, h2, h3]
  simp only [sliceRange_one, pick_run, List.size_toArray] <;> rfl
noncomputable def rSlL (K : PySem.W.Frag) : V → Option Int → Option Int → Hp → VK → Prop := fun x lo hi H Q => ∃ a xs, x = .ref a ∧ SqL K H a xs ∧ ∀ p, H p = none → Q (.ref p) (upd H p (.lst (cutV xs lo hi)))
theorem sl_list : SlR X (rSlL X.K) := by
  intro pins s σ H x v vl vu lo hi sl Q I rx hs pl pu h
  obtain ⟨a, xs, rfl, hx, q⟩ := h
  cases rx
  obtain ⟨its, r, ht, hz⟩ := I.list hx
  have hlen := r.length
  refine ⟨"list", _, slot_list_getitem.lookup, ht.isList.typeIs, ?_⟩
  refine wpAny_getItem_list_slice ht.isList hs pl pu .none (by simp) ?_ (by rw [List.size_toArray] <;> omega)
  rw [slicePick_cut, ← hlen]
  refine ⟨.ref s.heap.objs.size, _, I.laid (t' := s.toks) (o := .lst (cutV xs lo hi)) (fun b ob q => Heap.get?_push_of_some _ q) (Nat.le_refl _) ?_, rfl, q _ (I.hok.fresh (Nat.le_refl _))⟩
  exact ⟨Nat.le_trans (cutV_length xs lo hi) hz, _, 0, (r.drop (HT.sIx xs.length 0 lo)).take (HT.sIx xs.length xs.length hi - HT.sIx xs.length 0 lo), Heap.get?_push_size _ rfl⟩

noncomputable def flatV : V → Bool
  | .non => true
  | .bl _ => true
  | .int _ => true
  | .str _ => true
  | _ => false
noncomputable def eqV : V → V → Bool
  | .non, .non => true
  | .bl a, .bl b => a == b
  | .bl a, .int b => (if a then 1 else 0) == b
  | .int a, .bl b => a == (if b then 1 else 0)
  | .int a, .int b => a == b
  | .str a, .str b => a == b
  | _, _ => false
theorem eqAt_V {A : Around} {s : Shared} {y x : V} {u v : Value} (ry : RelV y u) (rx : RelV x v) (fy : flatV y = true) (fx : flatV x = true) : SeqAt.EqAt A s u v (eqV y x) := by
  cases y with
  | non =>
    cases ry
    cases x with
    | non => cases rx; exact SeqAt.EqAt.same _
    | bl b => cases rx; exact SeqAt.EqAt.none_bool b
    | int b => obtain ⟨t, rfl⟩ := rx; exact SeqAt.EqAt.none_int b t
    | str b => obtain ⟨t, rfl⟩ := rx; exact SeqAt.EqAt.none_str b t
    | _ => exact absurd (show false = true from fx) Bool.false_ne_true
  | bl a =>
    cases ry
    cases x with
    | non => cases rx; exact SeqAt.EqAt.bool_none a
    | bl b => cases rx; exact SeqAt.EqAt.bool_bool a b
    | int b => obtain ⟨t, rfl⟩ := rx; exact SeqAt.EqAt.bool_int a b t
    | str b => obtain ⟨t, rfl⟩ := rx; exact SeqAt.EqAt.bool_str a b t
    | _ => exact absurd (show false = true from fx) Bool.false_ne_true
  | int a =>
    obtain ⟨t', rfl⟩ := ry
    cases x with
    | non => cases rx; exact SeqAt.EqAt.int_none a t'
    | bl b => cases rx; exact SeqAt.EqAt.int_bool a t' b
    | int b => obtain ⟨t, rfl⟩ := rx; exact SeqAt.EqAt.int_int a t' b t
    | str b => obtain ⟨t, rfl⟩ := rx; exact SeqAt.EqAt.int_str a t' b t
    | _ => exact absurd (show false = true from fx) Bool.false_ne_true
  | str a =>
    obtain ⟨t', rfl⟩ := ry
    cases x with
    | non => cases rx; exact SeqAt.EqAt.str_none a t'
    | bl b => cases rx; exact SeqAt.EqAt.str_bool a t' b
    | int b => obtain ⟨t, rfl⟩ := rx; exact SeqAt.EqAt.str_int a t' b t
    | str b => obtain ⟨t, rfl⟩ := rx; exact SeqAt.EqAt.str_str a t' b t
    | _ => exact absurd (show false = true from fx) Bool.false_ne_true
  | _ => exact absurd (show false = true from fy) Bool.false_ne_true
noncomputable def eqU (x : V) (u : Value) : Bool := match u with
  | .none => eqV .non x
  | .bool b => eqV (.bl b) x
  | .int i _ => eqV (.int i) x
  | .str z _ => eqV (.str z) x
  | _ => false
theorem eqU_of {x y : V} {u : Value} (r : RelV y u) (f : flatV y = true) : eqU x u = eqV y x := by
  cases y with
  | non => cases r; rfl
  | bl b => cases r; rfl
  | int i => obtain ⟨t, rfl⟩ := r; rfl
  | str z => obtain ⟨t, rfl⟩ := r; rfl
  | _ => exact absurd (show false = true from f) Bool.false_ne_true
theorem any_eqU {x : V} : ∀ {xs : List V} {us : List Value}, Vals xs us → xs.all flatV = true → us.any (eqU x) = xs.any fun y => eqV y x
  | _, _, .nil, _ => rfl
  | y :: xs, u :: us, .cons r t, f => by
    rw [List.all_cons, Bool.and_eq_true] at f
    rw [List.any_cons, List.any_cons, eqU_of r f.1, any_eqU t f.2]
theorem mem_eqAt {A : Around} {s : Shared} {x : V} {v : Value} (rx : RelV x v) (fx : flatV x = true) : ∀ {xs : List V} {us : List Value}, Vals xs us → xs.all flatV = true → ∀ u ∈ us, SeqAt.EqAt A s u v (eqU x u)
  | _, _, .nil, _ => fun u hu => by cases hu
  | y :: xs, u :: us, .cons r t, f => fun u' hu => by
    rw [List.all_cons, Bool.and_eq_true] at f
    rcases List.mem_cons.mp hu with rfl | hu
    · rw [eqU_of r f.1]; exact eqAt_V r rx f.1 fx
    · exact mem_eqAt rx fx t f.2 u' hu
noncomputable def inV (x : V) (xs : List V) : Bool := xs.any fun y => eqV y x
noncomputable def rIn (K : PySem.W.Frag) (neg : Bool) : R2 := fun x y H Q => ∃ p xs, y = .ref p ∧ (SqL K H p xs ∨ SqT K H p xs) ∧ flatV x = true ∧ xs.all flatV = true ∧ Q (.bl (if neg then !inV x xs else inV x xs)) H
theorem op_in_seq : OpR X (compareOp .In) (rIn X.K false) := by
  intro pins s σ H x y v u Q I rx ry h
  obtain ⟨p, xs, rfl, hq, fx, fs, q⟩ := h
  cases ry
  rcases hq with hq | hq
  · obtain ⟨its, r, pl, hz⟩ := I.list hq
    refine SeqAt.in_listAt (eqU x) pl.isList (fun w hw => mem_eqAt rx fx r fs w (by simpa using hw)) ⟨.bl _, H, I, rfl, ?_⟩
    rw [show its.toArray.any (eqU x) = its.any (eqU x) by simp, any_eqU r fs]
    exact q
  · obtain ⟨its, r, pl, hz⟩ := I.tuple hq
    refine SeqAt.in_tupleAt (eqU x) pl (fun w hw => mem_eqAt rx fx r fs w (by simpa using hw)) ⟨.bl _, H, I, rfl, ?_⟩
    rw [show its.toArray.any (eqU x) = its.any (eqU x) by simp, any_eqU r fs]
    exact q
theorem call_list_of : CallR X (.type "list") (fun xs H Q => ∃ p ys, xs = [.ref p] ∧ (SqL X.K H p ys ∨ SqT X.K H p ys) ∧ ∀ l, H l = none → Q (.ref l) (upd H l (.lst ys))) := by
  intro pins s σ H xs us Q I r h
  obtain ⟨p, ys, rfl, hq, q⟩ := h
  obtain ⟨u, rfl, rx⟩ := vals1 r
  cases rx
  have fin : ∀ (its : List Value), Vals ys its → ys.length ≤ sizeLine → ∀ (h' : Heap) (c' : Nat), (∀ b o', s.heap.get? b = some o' → h'.get? b = some o') →
      h'.get? s.heap.objs.size = some { cls := .type "list", dict := none, data := .seq its.toArray c', slots := #[] } → EP X pins σ Q (.ref s.heap.objs.size) { s with heap := h' } := fun its r' hz h' c' kp e =>
    ⟨.ref s.heap.objs.size, _, I.laid (t' := s.toks) kp (Nat.le_refl _) (show ObjOk X.prog X.w _ h' _ (.lst ys) from ⟨hz, its, c', r', e⟩), rfl, q _ (I.hok.fresh (Nat.le_refl _))⟩
  rcases hq with hq | hq
  · obtain ⟨its, r', pl, hz⟩ := I.list hq
    have hlen := r'.length
    obtain ⟨o, ho, hc, n, hd⟩ := pl.isList
    exact call_list_seq p (.inl rfl) ho hc hd (fun h' c' kp e => fin its r' hz h' c' kp e) (by simp only [List.size_toArray] <;> omega)
  · obtain ⟨its, r', pl, hz⟩ := I.tuple hq
    have hlen := r'.length
    obtain ⟨o, ho, hc, n, hd⟩ := pl
    exact call_list_seq p (.inr rfl) ho hc hd (fun h' c' kp e => fin its r' hz h' c' kp e) (by simp only [List.size_toArray] <;> omega)
noncomputable def tyV (K : PySem.W.Frag) (T : String) (x : V) (H : Hp) : Prop := match x with
  | .str _ => T = "str"
  | .int _ => T = "int"
  | .ref p => (T = "list" ∧ ∃ xs, SqL K H p xs) ∨ (T = "tuple" ∧ ∃ o, K.lookup p = some o ∧ o.cls = .type "tuple" ∧ o.dict = none) ∨
      (T = "dict" ∧ ((∃ kvs, H p = some (.dK kvs)) ∨ ∃ kvs, H p = some (.dT kvs))) ∨ (T = "set" ∧ ∃ S n, H p = some (.set S n))
  | _ => False
theorem tyV_is {pins : List (Addr × Obj)} {σ : St} {H : Hp} {s : Shared} {T : String} {x : V} {v : Value} (I : Inv X pins σ H s) (r : RelV x v) (ty : tyV X.K T x H) :
    s.TypeIs v T ∧ ∀ a, v = .ref a → ∃ ob, s.heap.get? a = some ob ∧ ob.dict = none := by
  cases x with
  | str z =>
    obtain ⟨t, rfl⟩ := r
    cases (show T = "str" from ty)
    exact ⟨typeIs_str s z t, fun _ e => nomatch e⟩
  | int i =>
    obtain ⟨t, rfl⟩ := r
    cases (show T = "int" from ty)
    exact ⟨typeIs_int s i t, fun _ e => nomatch e⟩
  | ref p =>
    cases r
    rcases ty with ⟨rfl, xs, hq⟩ | ⟨rfl, o, hk, hc, hd⟩ | ⟨rfl, hk⟩ | ⟨rfl, S, n, hk⟩
    · obtain ⟨its, _, pl, _⟩ := I.list hq
      refine ⟨pl.isList.typeIs, fun a e => ?_⟩
      cases e
      obtain ⟨o, n, e, c, hd, _⟩ := pl
      exact ⟨o, e, hd⟩
    · refine ⟨⟨o, I.kIn p o hk, hc⟩, fun a e => ?_⟩
      cases e
      exact ⟨o, I.kIn _ o hk, hd⟩
    · have z : ∃ o, s.heap.get? p = some o ∧ o.ExactDict := by
        rcases hk with ⟨kvs, hk⟩ | ⟨kvs, hk⟩
        · obtain ⟨_, _, _, _, o, _, _, e, ex, _⟩ := I.hok p _ hk
          exact ⟨o, e, ex⟩
        · obtain ⟨_, _, _, _, o, _, _, e, ex, _⟩ := I.hok p _ hk
          exact ⟨o, e, ex⟩
      obtain ⟨o, e, ex⟩ := z
      refine ⟨⟨o, e, ex.1⟩, fun a e2 => ?_⟩
      cases e2
      exact ⟨o, e, ex.2.1⟩
    · obtain ⟨o, _, _, _, e, ex, _⟩ := I.hok p _ hk
      refine ⟨⟨o, e, ex.1⟩, fun a e2 => ?_⟩
      cases e2
      exact ⟨o, e, ex.2.1⟩
  | _ => exact False.elim ty
noncomputable def tBM0 (K : PySem.W.Frag) (T : String) (r : V → List V → Hp → VK → Prop) (to : TE) : TE := fun σ H Q => to σ H fun x H1 => tyV K T x H1 ∧ r x [] H1 Q
noncomputable def tBM (K : PySem.W.Frag) (T : String) (r : V → List V → Hp → VK → Prop) (to : TE) (t : TA) : TE := fun σ H Q => to σ H fun x H1 => tyV K T x H1 ∧ t σ H1 fun xs H2 => r x xs H2 Q
variable {o e : Expr} {es : List Expr} {to : TE} {t : TA} {name : Str} {apos cpos : Pos} {T id : String} {r : V → List V → Hp → VK → Prop}
theorem pe_bm0 (pa : PlainAttrs T) (slot : Slot T name id) (hty : typeOf (.builtin id) = pure (.type "method_descriptor")) (hm : MtR X id r) (ho : PE X o to)
    (hbase : attributeBase o name X.env (eval o X.env) = eval o X.env := by rfl) (hline : (apos.endLine == cpos.line) = true := by rfl) : PE X (.Call (.Attribute o name apos) [] [] cpos) (tBM0 X.K T r to) := by
  constructor; intro pins s σ H Q I h
  refine wpAny_Call_method0_late hbase hline (thn (ho pins s σ H _ I h) fun v s1 ⟨x, H1, I1, r1, ty, q1⟩ => ?_)
  obtain ⟨h1, h2⟩ := tyV_is I1 r1 ty
  exact ⟨T, id, pa, slot, hty, h1, h2, Calls.callWith_builtin rfl (PySem.evalArgs_none (hm pins s1 σ H1 x [] v [] Q I1 r1 .nil q1))⟩
theorem pe_bm (pa : PlainAttrs T) (slot : Slot T name id) (hty : typeOf (.builtin id) = pure (.type "method_descriptor")) (hm : MtR X id r) (ho : PE X o to) (ha : PA X (e :: es) t)
    (hbase : attributeBase o name X.env (eval o X.env) = eval o X.env := by rfl)
    (hfew : ((backTo cpos (starEach (e :: es) X.env)).all (fun x => !x.1) && (backToKw cpos (keywordEach [] X.env)).all (fun x => x.1.isSome)
      && decide ((e :: es).length + ([] : List Keyword).length + (if ([] : List Keyword).isEmpty then 0 else 1) < 30)) = true := by rfl)
    (hline : (apos.endLine == cpos.line) = true := by rfl) (hs : starEach (e :: es) X.env = (false, eval e X.env) :: starEach es X.env := by rfl) (hplain : (backTo cpos (starEach es X.env)).any (·.1) = false := by rfl) :
    PE X (.Call (.Attribute o name apos) (e :: es) [] cpos) (tBM X.K T r to t) := by
  constructor; intro pins s σ H Q I h
  refine wpAny_Call_method_late hbase hfew hline rfl (thn (ho pins s σ H _ I h) fun v s1 ⟨x, H1, I1, r1, ty, q1⟩ => ?_)
  obtain ⟨h1, h2⟩ := tyV_is I1 r1 ty
  refine ⟨T, id, pa, slot, hty, h1, h2, ?_⟩
  have hA := ha cpos pins s1 σ H1 _ I1 q1
  rw [hs] at hA ⊢
  refine Calls.callWith_builtin (by show (false || (backTo cpos (starEach es X.env)).any (·.1)) = false; rw [hplain] <;> rfl) (Calls.evalArgs_plain ?_)
  exact thn hA fun us s2 ⟨vs, H2, I2, r2, q2⟩ => hm pins s2 σ H2 x vs v us Q I2 r1 r2 q2
/- xs.append(e), list.index on a module's tuple .. are MtR facts of 06m -/
end
end L2

namespace L2
open PySem PySem.Spec PyProof.Rows

noncomputable def MtM (X : Cx) (id : String) (r : V → List V → Hp → VK → Prop) : Prop :=
  ∀ (pins : List (Addr × Obj)) (s : Shared) (σ : St) (H : Hp) (x : V) (xs : List V) (v : Value) (us : List Value) (Q : VK), Inv X pins σ H s → RelV x v → Vals xs us → r x xs H Q →
    wpAny (model X.prog X.w) X.A (call (.builtin id) (v :: us)) (EP X pins σ Q) X.xe s

theorem Vals.one : ∀ {x : V} {us : List Value}, Vals [x] us → ∃ u, us = [u] ∧ RelV x u
  | _, _, .cons r .nil => ⟨_, rfl, r⟩
theorem Vals.zero : ∀ {us : List Value}, Vals [] us → us = []
  | _, .nil => rfl
section
variable {X : Cx} {pins : List (Addr × Obj)} {σ : St} {H : Hp} {s : Shared} {l b : Addr} {xs ys zs : List V}

theorem Inv.lset {its its' : List Value} {n : Nat} {f : Array Value → Array Value} {t' : Nat} (I : Inv X pins σ H s) (hH : H l = some (.lst xs))
    (e : s.heap.get? l = some { cls := .type "list", data := .seq its.toArray n }) (hf : f its.toArray = its'.toArray) (hv : Vals ys its') (hz : ys.length ≤ sizeLine) :
    Inv X pins σ (upd H l (.lst ys)) { s with heap := s.heap.update l (Obj.mapSeq f), toks := t' } := by
  have q := PySem.IsL.update e f
  rw [hf] at q
  refine I.write (x := l) (e := l) (by rw [hH]; exact trivial) (.inl rfl) (fun b' u hb hu => (Heap.get?_update_other s.heap (Obj.mapSeq f) (Ne.symm hb)).trans hu) ⟨_, q⟩ ?_
  exact ⟨hz, its', _, hv, q⟩
theorem Inv.lnew {its : List Value} {t' : Nat} (I : Inv X pins σ H s) (hv : Vals ys its) (hz : ys.length ≤ sizeLine) :
    Inv X pins σ (upd H s.heap.objs.size (.lst ys)) { s with heap := s.heap.push { cls := .type "list", data := .seq its.toArray }, toks := t' } :=
  I.laid (fun _ _ q => Heap.get?_push_of_some _ q) (Nat.le_refl _) ⟨hz, its, 0, hv, Heap.get?_push_size _ rfl⟩
theorem Inv.fresh (I : Inv X pins σ H s) : H s.heap.objs.size = none := I.hok.fresh (Nat.le_refl _)
theorem Inv.lstM (I : Inv X pins σ H s) (hH : H l = some (.lst xs)) : xs.length ≤ sizeLine ∧ ∃ (its : List Value) (n : Nat), Vals xs its ∧ xs.length = its.length ∧ s.heap.get? l = some { cls := .type "list", data := .seq its.toArray n } := by
  obtain ⟨z, its, n, r, e⟩ := I.hok l _ hH
  exact ⟨z, its, n, r, r.length, e⟩

end

section
variable {X : Cx}

noncomputable def rAppend : V → List V → Hp → VK → Prop := fun x vs H Q => ∃ l xs y, x = .ref l ∧ vs = [y] ∧ H l = some (.lst xs) ∧ xs.length < sizeLine ∧ Q .non (upd H l (.lst (xs ++ [y])))
theorem mt_append : MtM X "list.append" rAppend := by
  intro pins s σ H x vs v us Q I rx rv h
  obtain ⟨l, xs, y, rfl, rfl, hH, hz, q⟩ := h
  cases rx
  obtain ⟨u, rfl, ru⟩ := rv.one
  obtain ⟨z, its, n, r, hl, e⟩ := I.lstM hH
  refine call_meets F.slot_list_append ⟨_, e, rfl⟩ F.entry_list_append (F.args_list_append_2 _ _) (PySem.list_append l its.toArray n u (by rw [List.size_toArray]; omega)) ⟨e, ?_⟩
  refine ⟨.non, _, I.lset (its' := its ++ [u]) hH e (by simp) (r.append (.cons ru .nil)) ?_, rfl, q⟩
  rw [List.length_append, List.length_singleton]
  omega

noncomputable def rClear : V → List V → Hp → VK → Prop := fun x vs H Q => ∃ l xs, x = .ref l ∧ vs = [] ∧ H l = some (.lst xs) ∧ Q .non (upd H l (.lst []))
theorem mt_clear : MtM X "list.clear" rClear := by
  intro pins s σ H x vs v us Q I rx rv h
  obtain ⟨l, xs, rfl, rfl, hH, q⟩ := h
  cases rx
  have hus := rv.zero
  subst hus
  obtain ⟨z, its, n, r, hl, e⟩ := I.lstM hH
  refine call_meets F.slot_list_clear ⟨_, e, rfl⟩ F.entry_list_clear (F.args_list_clear_1 _) (AutoSeq1.list_clear_list_0 l its.toArray n (by rw [List.size_toArray]; omega)) ⟨e, ?_⟩
  exact ⟨.non, _, I.lset (its' := []) (ys := []) hH e rfl .nil (Nat.zero_le _), rfl, q⟩

noncomputable def rCat : R2 := fun x y H Q => ∃ l b xs zs, x = .ref l ∧ y = .ref b ∧ H l = some (.lst xs) ∧ H b = some (.lst zs) ∧ xs.length + zs.length ≤ sizeLine ∧ ∀ p, H p = none → Q (.ref p) (upd H p (.lst (xs ++ zs)))
theorem op_cat : OpR X (binaryOp .Add) rCat := by
  intro pins s σ H x y v u Q I rx ry h
  obtain ⟨l, b, xs, zs, rfl, rfl, hH, hB, hz, q⟩ := h
  cases rx
  cases ry
  obtain ⟨z, its, n, r, hl, e⟩ := I.lstM hH
  obtain ⟨z2, its2, n2, r2, hl2, e2⟩ := I.lstM hB
  refine PySem.P.add_list e e2 ?_ (by rw [List.size_toArray, List.size_toArray]; omega)
  have ea : its.toArray ++ its2.toArray = (its ++ its2).toArray := by simp
  rw [ea]
  exact ⟨.ref _, _, I.lnew (t' := s.toks) (r.append r2) (by rw [List.length_append]; omega), rfl, q _ I.fresh⟩
end

section
variable {prog : Program} {w : World} {A : Around} {E : Value → Shared → Prop} {s : Shared}
end

section
variable {X : Cx}
end
end L2

namespace L2
open PySem PySem.Spec PyProof.Rows

section
variable {κ : Type} [DecidableEq κ]
noncomputable def valV (kvs : List (κ × V)) (k : κ) : Option V := (kvs.find? fun kv => decide (kv.1 = k)).map (·.2)
noncomputable def putK (kvs : List (κ × V)) (k : κ) (v : V) : List (κ × V) :=
  if (kvs.any fun kv => decide (kv.1 = k)) = true then kvs.map (fun kv => if kv.1 = k then (kv.1, v) else kv) else kvs ++ [(k, v)]
theorem valV_pos {p : κ × V} {r : List (κ × V)} {k : κ} (e : p.1 = k) : valV (p :: r) k = some p.2 := by simp [valV, List.find?_cons, e]
theorem valV_neg {p : κ × V} {r : List (κ × V)} {k : κ} (e : ¬ p.1 = k) : valV (p :: r) k = valV r k := by simp [valV, List.find?_cons, e]
theorem valV_any (k : κ) : ∀ kvs : List (κ × V), (kvs.any fun kv => decide (kv.1 = k)) = (valV kvs k).isSome
  | [] => rfl
  | p :: r => by
    rw [List.any_cons]
    by_cases e : p.1 = k
    · simp only [valV_pos e, decide_eq_true e, Bool.true_or, Option.isSome_some]
    · rw [valV_neg e, decide_eq_false e, Bool.false_or]; exact valV_any k r
theorem valV_map (k j : κ) (y : V) : ∀ kvs : List (κ × V), valV (kvs.map fun kv => if kv.1 = k then (kv.1, y) else kv) j = (valV kvs j).map fun x => if j = k then y else x
  | [] => rfl
  | p :: r => by
    have ih := valV_map k j y r
    rw [List.map_cons]
    by_cases h : p.1 = k
    · rw [if_pos h]
      by_cases e : p.1 = j
      · rw [valV_pos (p := (p.1, y)) e, valV_pos e, Option.map_some, if_pos (e.symm.trans h)]
      · rw [valV_neg (p := (p.1, y)) e, valV_neg e, ih]
    · rw [if_neg h]
      by_cases e : p.1 = j
      · rw [valV_pos (p := p) e, valV_pos e, Option.map_some, if_neg (fun z => h (e.trans z))]
      · rw [valV_neg (p := p) e, valV_neg e, ih]
theorem valV_snoc (k j : κ) (y : V) : ∀ kvs : List (κ × V), valV kvs k = none → valV (kvs ++ [(k, y)]) j = if j = k then some y else valV kvs j
  | [], _ => by
    by_cases e : k = j
    · rw [if_pos e.symm]; exact valV_pos (p := (k, y)) e
    · rw [if_neg (fun z => e z.symm)]; exact valV_neg (p := (k, y)) e
  | p :: r, hn => by
    rw [List.cons_append]
    have hk : ¬ p.1 = k := fun z => by rw [valV_pos z] at hn; cases hn
    rw [valV_neg hk] at hn
    have ih := valV_snoc k j y r hn
    by_cases e : p.1 = j
    · rw [valV_pos e, valV_pos e, if_neg (fun z => hk (e.trans z))]
    · rw [valV_neg e, valV_neg e, ih]
theorem valV_put (kvs : List (κ × V)) (k j : κ) (y : V) : valV (putK kvs k y) j = if j = k then some y else valV kvs j := by
  unfold putK
  by_cases a : (kvs.any fun kv => decide (kv.1 = k)) = true
  · rw [if_pos a, valV_map]
    rw [valV_any] at a
    by_cases e : j = k
    · obtain ⟨x, hx⟩ := Option.isSome_iff_exists.mp a
      rw [if_pos e, e, hx, Option.map_some, if_pos rfl]
    · rw [if_neg e]
      cases valV kvs j with
      | none => rfl
      | some x => rw [Option.map_some, if_neg e]
  · rw [if_neg a]
    refine valV_snoc k j y kvs ?_
    rw [valV_any] at a
    cases q : valV kvs k with
    | none => rfl
    | some x => rw [q] at a; exact (a rfl).elim
theorem length_putK (kvs : List (κ × V)) (k : κ) (v : V) : (putK kvs k v).length ≤ kvs.length + 1 := by
  unfold putK
  split
  · rw [List.length_map]; omega
  · rw [List.length_append, List.length_cons, List.length_nil]; omega
theorem RelO.isSome_eq {o : Option V} {u : Option Value} (r : RelO o u) : o.isSome = u.isSome := by
  cases o with
  | none => cases u with
    | none => rfl
    | some _ => exact (show False from r).elim
  | some _ => cases u with
    | none => exact (show False from r).elim
    | some _ => rfl
theorem RelO.getD {o : Option V} {u : Option Value} {d : V} {d' : Value} (r : RelO o u) (rd : RelV d d') : RelV (o.getD d) (u.getD d') := by
  cases o with
  | none => cases u with
    | none => exact rd
    | some _ => exact (show False from r).elim
  | some _ => cases u with
    | none => exact (show False from r).elim
    | some _ => exact r

theorem KV.val {kvs : List (κ × V)} {vs : List (κ × Value)} (r : KV kvs vs) (k : κ) : RelO (valV kvs k) (valueAt vs k) := by
  unfold KV at r
  induction r with
  | nil => exact True.intro
  | @cons p q ps qs h t ih =>
    obtain ⟨h1, h2⟩ := h
    by_cases e : p.1 = k
    · have e' : q.1 = k := h1.symm.trans e
      have b : valueAt (q :: qs) k = some q.2 := by simp [valueAt, List.find?_cons, e']
      rw [valV_pos e, b]; exact h2
    · have e' : ¬ q.1 = k := fun z => e (h1.trans z)
      have b : valueAt (q :: qs) k = valueAt qs k := by simp [valueAt, List.find?_cons, e']
      rw [valV_neg e, b]; exact ih
theorem KV.any {kvs : List (κ × V)} {vs : List (κ × Value)} (r : KV kvs vs) (k : κ) : (kvs.any fun kv => decide (kv.1 = k)) = vs.any fun kv => decide (kv.1 = k) := by
  unfold KV at r
  induction r with
  | nil => rfl
  | cons h t ih => rw [List.any_cons, List.any_cons, ih, h.1]
theorem KV.repl {kvs : List (κ × V)} {vs : List (κ × Value)} (r : KV kvs vs) (k : κ) {y : V} {u : Value} (ry : RelV y u) :
    KV (kvs.map fun kv => if kv.1 = k then (kv.1, y) else kv) (vs.map fun kv => if kv.1 = k then (kv.1, u) else kv) := by
  unfold KV at r ⊢
  induction r with
  | nil => exact .nil
  | @cons p q ps qs h t ih =>
    rw [List.map_cons, List.map_cons]
    refine .cons ?_ ih
    obtain ⟨h1, h2⟩ := h
    by_cases e : p.1 = k
    · rw [if_pos e, if_pos (h1.symm.trans e)]; exact ⟨h1, ry⟩
    · rw [if_neg e, if_neg (fun z => e (h1.trans z))]; exact ⟨h1, h2⟩
theorem KV.put {kvs : List (κ × V)} {vs : List (κ × Value)} (r : KV kvs vs) (k : κ) {y : V} {u : Value} (ry : RelV y u) : KV (putK kvs k y) (stored vs k u) := by
  unfold putK stored
  rw [r.any k]
  by_cases e : (vs.any fun kv => decide (kv.1 = k)) = true
  · rw [if_pos e, if_pos e]; exact r.repl k ry
  · rw [if_neg e, if_neg e]; exact Paired.snoc r ⟨rfl, ry⟩
theorem KV.length {kvs : List (κ × V)} {vs : List (κ × Value)} (r : KV kvs vs) : kvs.length = vs.length := Paired.length r
end


theorem kV_is {P : Program} {w : World} {k : Key} {u : Value} (r : RelV (kV k) u) : (mixKind P w).is k u = true := by
  cases k with
  | inl i => obtain ⟨t, e⟩ := (show ∃ t, u = Value.int i t from r); subst e; exact mixKind_int P w i t
  | inr x => obtain ⟨t, e⟩ := (show ∃ t, u = Value.str x t from r); subst e; exact mixKind_str P w x t
theorem items_are {P : Program} {w : World} : ∀ {ks : List Key} {us : List Value}, Vals (ks.map kV) us → ItemsAre (mixKind P w) ks us
  | [], _, r => by rw [List.map_nil] at r; cases r; exact .nil
  | k :: ks, _, r => by
    rw [List.map_cons] at r
    cases r with
    | cons h t => exact .cons (kV_is h) (items_are t)

noncomputable abbrev KT (H : Hp) : List (List Key × V) → List (List Key × Addr × Value) → Prop := Paired fun p q => p.1 = q.1 ∧ H q.2.1 = some (.tup (p.1.map kV)) ∧ RelV p.2 q.2.2
theorem KT.val {H : Hp} {kvs : List (List Key × V)} {xs : List (List Key × Addr × Value)} (r : KT H kvs xs) (k : List Key) : RelO (valV kvs k) ((atKey xs k).map (·.2)) := by
  induction r with
  | nil => exact True.intro
  | @cons p q ps qs h t ih =>
    obtain ⟨h1, _, h2⟩ := h
    by_cases e : p.1 = k
    · have e' : q.1 = k := h1.symm.trans e
      have b : atKey (q :: qs) k = some q.2 := by simp [atKey, List.find?_cons, e']
      rw [valV_pos e, b]; exact h2
    · have e' : ¬ q.1 = k := fun z => e (h1.trans z)
      have b : atKey (q :: qs) k = atKey qs k := by simp [atKey, List.find?_cons, e']
      rw [valV_neg e, b]; exact ih
theorem KT.repl {H : Hp} {kvs : List (List Key × V)} {xs : List (List Key × Addr × Value)} (r : KT H kvs xs) (k : List Key) {y : V} {u : Value} (ry : RelV y u) :
    KT H (kvs.map fun kv => if kv.1 = k then (kv.1, y) else kv) (xs.map (putAt k u)) := by
  induction r with
  | nil => exact .nil
  | @cons p q ps qs h t ih =>
    rw [List.map_cons, List.map_cons]
    refine .cons ?_ ih
    obtain ⟨h1, h2, h3⟩ := h
    unfold putAt
    by_cases e : p.1 = k
    · rw [if_pos e, if_pos (h1.symm.trans e)]; exact ⟨h1, h2, ry⟩
    · rw [if_neg e, if_neg (fun z => e (h1.trans z))]; exact ⟨h1, h2, h3⟩
theorem KT.put {H : Hp} {kvs : List (List Key × V)} {xs : List (List Key × Addr × Value)} (r : KT H kvs xs) (k : List Key) {b : Addr} {y : V} {u : Value} (hb : H b = some (.tup (k.map kV))) (ry : RelV y u) :
    KT H (putK kvs k y) (storedH xs k b u) := by
  have e : (kvs.any fun kv => decide (kv.1 = k)) = (atKey xs k).isSome := by
    rw [valV_any, (r.val k).isSome_eq, Option.isSome_map]
  unfold putK storedH
  rw [e]
  by_cases q : (atKey xs k).isSome = true
  · rw [if_pos q, if_pos q]; exact r.repl k ry
  · rw [if_neg q, if_neg q]; exact Paired.snoc r ⟨rfl, hb, ry⟩
theorem KT.keeps {H H' : Hp} {kvs : List (List Key × V)} {xs : List (List Key × Addr × Value)} (r : KT H kvs xs) (ht : ∀ b ys, H b = some (.tup ys) → H' b = some (.tup ys)) : KT H' kvs xs :=
  Paired.mapP r fun _ _ z => ⟨z.1, ht _ _ z.2.1, z.2.2⟩

section
variable {P : Program} {w : World} {H : Hp} {h : Heap} {a : Addr}
theorem rd_of {u : HO} (ok : HOk P w H h) (e : Rd H a u) : ObjOk P w H h a u := e.ok ok
theorem dk_rd {kvs : List (Key × V)} (ok : HOk P w H h) (e : Rd H a (.dK kvs)) : kvs.length ≤ sizeLine ∧ (a == sysModules) = false ∧ ∃ vs, KV kvs vs ∧ h.DictOf (mixKind P w) a vs :=
  show ObjOk P w H h a (.dK kvs) from rd_of ok e
theorem dk_of {kvs : List (Key × V)} (ok : HOk P w H h) (e : H a = some (.dK kvs)) : kvs.length ≤ sizeLine ∧ (a == sysModules) = false ∧ ∃ vs, KV kvs vs ∧ h.DictOf (mixKind P w) a vs := dk_rd ok (.inl e)
theorem key_of {ks : List Key} (ok : HOk P w H h) (e : H a = some (.tup (ks.map kV))) : (tupleKind (mixKind P w)).is h ks a := by
  obtain ⟨_, its, r, o, h1, h2, n, h3⟩ := (show ObjOk P w H h a (.tup (ks.map kV)) from ok a _ e)
  exact ⟨o, its.toArray, n, h1, h2, h3, by simpa using items_are r⟩
theorem dt_rd {kvs : List (List Key × V)} (ok : HOk P w H h) (e : Rd H a (.dT kvs)) : kvs.length ≤ sizeLine ∧ (a == sysModules) = false ∧
    ∃ xs, KT H kvs xs ∧ h.DictOfH (tupleKind (mixKind P w)) a xs := by
  obtain ⟨z, y, xs, r, o, es, ep, h1, h2, h3, h4, h5⟩ := (show ObjOk P w H h a (.dT kvs) from rd_of ok e)
  refine ⟨z, y, xs, r, o, es, ep, h1, h2, h3, h4, fun x hx => ?_, h5⟩
  have all : ∀ {l : List (List Key × V)} {m : List (List Key × Addr × Value)}, KT H l m → ∀ x ∈ m, (tupleKind (mixKind P w)).is h x.1 x.2.1 := by
    intro l m q
    induction q with
    | nil => intro x hx; exact nomatch hx
    | @cons p q ps qs hq t ih =>
      intro x hx
      rcases List.mem_cons.mp hx with e | hx
      · subst e
        exact key_of ok (by rw [← hq.1]; exact hq.2.1)
      · exact ih x hx
  exact all r x hx
theorem dt_of {kvs : List (List Key × V)} (ok : HOk P w H h) (e : H a = some (.dT kvs)) : kvs.length ≤ sizeLine ∧ (a == sysModules) = false ∧
    ∃ xs, KT H kvs xs ∧ h.DictOfH (tupleKind (mixKind P w)) a xs := dt_rd ok (.inl e)
end

noncomputable def DGet (H : Hp) (a : Addr) (y : V) (r : Option V) : Prop :=
  (∃ kvs k, Rd H a (.dK kvs) ∧ y = kV k ∧ r = valV kvs k) ∨ ∃ kvs k b, Rd H a (.dT kvs) ∧ y = .ref b ∧ H b = some (.tup (k.map kV)) ∧ r = valV kvs k
noncomputable def DPut (H : Hp) (a : Addr) (y v : V) (H' : Hp) : Prop :=
  (∃ kvs k, H a = some (.dK kvs) ∧ y = kV k ∧ kvs.length < sizeLine ∧ H' = upd H a (.dK (putK kvs k v))) ∨
  ∃ kvs k b, H a = some (.dT kvs) ∧ y = .ref b ∧ H b = some (.tup (k.map kV)) ∧ kvs.length < sizeLine ∧ H' = upd H a (.dT (putK kvs k v))
theorem DGet.k {H : Hp} {a : Addr} {kvs : List (Key × V)} {k : Key} (e : H a = some (.dK kvs)) : DGet H a (kV k) (valV kvs k) := .inl ⟨kvs, k, .inl e, rfl, rfl⟩
section
variable {X : Cx} {pins : List (Addr × Obj)} {σ : St} {H : Hp} {s : Shared} {a : Addr} {y v : V} {u r : Value} {o : Option V} {A : Around} {E : Value → Shared → Prop}

theorem Inv.big (I : Inv X pins σ H s) : sysModules < s.heap.objs.size := by
  have h : mainGlobals < s.heap.objs.size := (I.mod.glob.keeps I.bk).lt
  exact Nat.lt_trans (by decide) h

theorem d_getItem {Q : Value → Shared → Prop} (hu : A.units + 1 < cLine) (I : Inv X pins σ H s) (g : DGet H a y (some v)) (ry : RelV y u) (h : ∀ w' s', Inv X pins σ H s' → RelV v w' → Q w' s') :
    wpAny (model X.prog X.w) A (getItem (.ref a) u) Q E s := by
  rcases g with ⟨kvs, k, e, ey, l⟩ | ⟨kvs, k, b, e, ey, eb, l⟩
  · subst ey
    obtain ⟨z, hd, vs, rel, dd⟩ := dk_rd I.hok e
    obtain ⟨w', hw, rw'⟩ := RelO.some_of (v := v) (o := valueAt vs k) (by rw [l]; exact rel.val k)
    exact wpAny_getItem_of (kV_is ry) dd.mapOf hw (h w' _ (I.tok _) rw')
  · subst ey
    cases (show u = Value.ref b from ry)
    obtain ⟨z, hd, xs, rel, dd⟩ := dt_rd I.hok e
    obtain ⟨w', hw, rw'⟩ := RelO.some_of (v := v) (o := (atKey xs k).map (·.2)) (by rw [l]; exact rel.val k)
    obtain ⟨p, hp, hp2⟩ := Option.map_eq_some_iff.mp hw
    refine wpAny_getItem_heap (tupleKind_room_in1 hu) (key_of I.hok eb) dd hp ?_
    rw [hp2]
    exact h w' _ (I.tok _) rw'
theorem d_write {h' : Heap} {t' : Nat} {ob : HO} (I : Inv X pins σ H s) (mu : Mut (H a)) (hs : Heap.SameBut a s.heap h') (he : ∃ q, h'.get? a = some q) (new : ObjOk X.prog X.w (upd H a ob) h' a ob) :
    Inv X pins σ (upd H a ob) { s with heap := h', toks := t' } :=
  I.write (x := a) (e := a) mu (.inl rfl) (fun b q hb z => (hs.2 b hb).trans z) he new
theorem dk_new {P : Program} {w : World} {H' : Hp} {h' : Heap} {kvs : List (Key × V)} {vs : List (Key × Value)} (z : kvs.length ≤ sizeLine) (hd : (a == sysModules) = false) (rel : KV kvs vs) (dd : h'.DictOf (mixKind P w) a vs) :
    ObjOk P w H' h' a (.dK kvs) := ⟨z, hd, vs, rel, dd⟩
theorem d_setItem {H' : Hp} {Q : Unit → Shared → Prop} (hu : A.units + 1 < cLine) (I : Inv X pins σ H s) (g : DPut H a y v H') (ry : RelV y u) (rv : RelV v r) (h : ∀ s', Inv X pins σ H' s' → Q () s') :
    wpAny (model X.prog X.w) A (setItem (.ref a) u r) Q E s := by
  rcases g with ⟨kvs, k, e, ey, l, eH⟩ | ⟨kvs, k, b, e, ey, eb, l, eH⟩
  · subst ey eH
    obtain ⟨z, hd, vs, rel, dd⟩ := dk_of I.hok e
    have hz : vs.length ≤ sizeLine := by rw [← rel.length]; exact z
    have hl : (putK kvs k v).length ≤ sizeLine := by have := length_putK kvs k v; omega
    refine wpAny_setItem_pairs (hsz := hz) (kV_is ry) dd fun h' dd' hs => h _ ?_
    have he : ∃ q, h'.get? a = some q := let ⟨q, _, _, hq, _⟩ := dd'; ⟨q, hq⟩
    exact d_write I (by rw [e]; exact True.intro) hs he (dk_new hl hd (rel.put k rv) dd')
  · subst ey eH
    cases (show u = Value.ref b from ry)
    obtain ⟨z, hd, xs, rel, dd⟩ := dt_of I.hok e
    have hz : xs.length ≤ sizeLine := by rw [← Paired.length rel]; exact z
    have hl : (putK kvs k v).length ≤ sizeLine := by have := length_putK kvs k v; omega
    refine wpAny_setItem_heap (hsz := hz) (tupleKind_room_in1 hu) (key_of I.hok eb) dd fun h' dd' hs => h _ ?_
    obtain ⟨q, es, ep, hq, h2, h3, h4, _, h5⟩ := dd'
    refine d_write I (by rw [e]; exact True.intro) hs ⟨q, hq⟩ ⟨hl, hd, _, (rel.put k eb rv).keeps fun c ys ec => ?_, q, es, ep, hq, h2, h3, h4, h5⟩
    rw [upd_ne (ne_of ec e (fun z => nomatch z))]
    exact ec
end

section
variable {X : Cx} {pins : List (Addr × Obj)} {σ : St} {H : Hp} {s : Shared} {a : Addr} {kvs : List (Key × V)} {k : Key} {u : Value} {A : Around} {E : Value → Shared → Prop}
end


noncomputable def NoSl (i : Expr) : Prop := ∀ ov iv, subscripted i false ov iv = operate [ov, iv] (getItem ov iv)
theorem subD_of {prog : Program} {w : World} {A : Around} {E : Value → Shared → Prop} {s : Shared} {env : Env} {value slice : Expr} {pos : Pos} {T id : String} {Q : Value → Shared → Prop}
    (hl : typeLookup (.type T) "__getitem__" = pure (some (.builtin id))) (hs : NoSl slice)
    (h : wpAny (model prog w) A (eval value env) (fun o s₁ => wpAny (model prog w) A (eval slice env) (fun i s₂ => s₂.TypeIs o T ∧ wpAny (model prog w) A (getItem o i) Q E s₂) E s₁) E s) :
    wpAny (model prog w) A (eval (.Subscript value slice pos) env) Q E s := by
  refine Subscript_ (wpAny_mono h (fun o s₁ h₁ => wpAny_mono h₁ (fun i s₂ h₂ => ?_) fun _ _ x => x) fun _ _ x => x)
  obtain ⟨hT, h₂⟩ := h₂
  unfold subscriptTail
  refine wpAny_bind ?_
  rw [getitemInPython_of_ne hT.not_modules]
  refine wpAny_bind (wpAny_specialOf hT hl ?_)
  have fin : wpAny (model prog w) A (subscripted slice false o i) (fun r s₃ => wpAny (model prog w) A (letTemporaryGo value o r >>= fun _ => pure r) Q E s₃) E s₂ := by
    rw [hs o i]
    exact wpAny_operating (wpAny_mono h₂ (fun r s₃ h₃ => wpAny_bind (wpAny_letTemporaryGo (wpAny_pure h₃))) fun _ _ x => x)
  first
    | exact wpAny_pure (wpAny_bind fin)
    | exact wpAny_bind (wpAny_pure (wpAny_bind fin))
    | exact wpAny_bind fin

theorem dict_typeIs {X : Cx} {pins : List (Addr × Obj)} {σ : St} {H : Hp} {s : Shared} {a : Addr} {y : V} {o : Option V} (I : Inv X pins σ H s) (g : DGet H a y o) : s.TypeIs (.ref a) "dict" := by
  rcases g with ⟨kvs, k, e, _, _⟩ | ⟨kvs, k, b, e, _, _, _⟩
  · obtain ⟨_, _, vs, _, dd⟩ := dk_rd I.hok e
    exact dd.typeIs
  · obtain ⟨_, _, xs, _, dd⟩ := dt_rd I.hok e
    exact dd.typeIs
noncomputable def tDGet (td ty : TE) : TE := fun σ H Q => td σ H fun x H1 => ty σ H1 fun y H2 => ∃ a v, x = .ref a ∧ DGet H2 a y (some v) ∧ Q v H2
noncomputable def sDPut (td ty tv : TE) : TS := fun D σ H => tv σ H fun v H1 => td σ H1 fun x H2 => ty σ H2 fun y H3 => ∃ a H4, x = .ref a ∧ DPut H3 a y v H4 ∧ D.nx σ H4
section
variable {X : Cx} {o i e value : Expr} {pos pos' tpos : Pos} {td ty tv : TE}
theorem pe_dget (hu : X.A.units + 1 < cLine) (ho : PE X o td) (hi : PE X i ty) (hs : NoSl i) : PE X (.Subscript o i pos) (tDGet td ty) := by
  constructor; intro pins s σ H Q I h
  refine subD_of PySem.F.slot_dict_getitem.lookup hs (thn (ho pins s σ H _ I h) fun u s1 ⟨x, H1, I1, rx, q1⟩ => thn (hi pins s1 σ H1 _ I1 q1) fun iv s2 ⟨y, H2, I2, ry, a, v, ex, g, q2⟩ => ?_)
  subst ex
  obtain rfl : u = Value.ref a := rx
  exact ⟨dict_typeIs I2 g, d_getItem hu I2 g ry fun w' s3 I3 rw' => ⟨v, H2, I3, rw', q2⟩⟩
theorem ps_dput (hu : X.A.units + 1 < cLine) (ho : PE X o td) (hi : PE X i ty) (hv : PE X value tv) (hs : swapsWith value (some (.Subscript o i pos')) pos.line X.env = pure false) :
    PS X (.Assign [.Subscript o i pos'] value pos) (sDPut td ty tv) := by
  constructor; intro pins s σ H D I h
  refine wpAny_Assign_Subscript (thn (hv pins s σ H _ I h) fun r s1 ⟨v, H1, I1, rv, q1⟩ => thn (ho pins s1 σ H1 _ I1 q1) fun u s2 ⟨x, H2, I2, rx, q2⟩ => thn (hi pins s2 σ H2 _ I2 q2) fun iv s3 ⟨y, H3, I3, ry, a, H4, ex, g, q3⟩ => ?_) hs
  subst ex
  obtain rfl : u = Value.ref a := rx
  exact d_setItem hu I3 g ry rv fun s4 I4 => ⟨σ, H4, I4, q3⟩
end


theorem dk_empty {P : Program} {w : World} {H : Hp} (h : Heap) (hb : sysModules < h.objs.size) : ObjOk P w H (h.push { cls := .type "dict", data := .dict #[] }) h.objs.size (.dK []) :=
  ⟨Nat.zero_le _, beq_eq_false_iff_ne.mpr (Ne.symm (Nat.ne_of_lt hb)), [], .nil, Heap.DictOf.new h⟩
noncomputable def tDNewK : TE := fun _ H Q => ∀ p, H p = none → Q (.ref p) (upd H p (.dK []))
section
variable {X : Cx} {pos : Pos}
theorem pe_dnewK : PE X (.Dict [] [] pos) tDNewK := ⟨fun pins s σ H Q I h =>
  wpAny_Dict_empty ⟨.ref s.heap.objs.size, _, I.laid (a := s.heap.objs.size) (o := .dK []) (t' := s.toks) (fun _ _ q => Heap.get?_push_of_some _ q) (Nat.le_refl _) (dk_empty s.heap I.big), rfl, h _ (I.hok.fresh (Nat.le_refl _))⟩⟩
end

noncomputable def tPairs : List (TE × TE) → St → Hp → (List (V × V) → Hp → Prop) → Prop
  | [], _, H, Q => Q [] H
  | (tk, tv) :: r, σ, H, Q => tk σ H fun x H1 => tv σ H1 fun y H2 => tPairs r σ H2 fun ps H3 => Q ((x, y) :: ps) H3
noncomputable abbrev VV : List (V × V) → List (Value × Value) → Prop := Paired fun p q => RelV p.1 q.1 ∧ RelV p.2 q.2
noncomputable def PPs (X : Cx) (pos : Pos) (keys : List (Option Expr)) (values : List Expr) (trs : List (TE × TE)) : Prop :=
  ∀ (pins : List (Addr × Obj)) (s : Shared) (σ : St) (H : Hp) (Q : List (V × V) → Hp → Prop), Inv X pins σ H s → tPairs trs σ H Q →
    wpAny (model X.prog X.w) X.A (evalPairs (pairTrees keys values X.env pos)) (fun vs s' => ∃ ps H', Inv X pins σ H' s' ∧ VV ps vs ∧ Q ps H') X.xe s
theorem pps_nil {X : Cx} {pos : Pos} : PPs X pos [] [] [] := fun pins s σ H Q I h => pairTrees_nil_walk ⟨[], H, I, .nil, h⟩
theorem pps_cons {X : Cx} {pos : Pos} {k v : Expr} {ks : List (Option Expr)} {vs : List Expr} {tk tv : TE} {trs : List (TE × TE)} (hk : PE X k tk) (hv : PE X v tv) (hr : PPs X pos ks vs trs) :
    PPs X pos (some k :: ks) (v :: vs) ((tk, tv) :: trs) := fun pins s σ H Q I h =>
  pairTrees_cons_walk (thn (hk pins s σ H _ I h) fun u s1 ⟨x, H1, I1, rx, q1⟩ => thn (hv pins s1 σ H1 _ I1 q1) fun w2 s2 ⟨y, H2, I2, ry, q2⟩ =>
    thn (hr pins s2 σ H2 _ I2 q2) fun ws s3 ⟨ps, H3, I3, rel, q3⟩ => ⟨(x, y) :: ps, H3, I3, .cons ⟨rx, ry⟩ rel, q3⟩)

noncomputable def mergeK (kvs more : List (Key × V)) : List (Key × V) := more.foldl (fun acc kv => putK acc kv.1 kv.2) kvs
theorem KV.merge : ∀ {more : List (Key × V)} {rs : List (Key × Value)} {kvs : List (Key × V)} {vs : List (Key × Value)}, KV more rs → KV kvs vs → KV (mergeK kvs more) (merged vs rs) := by
  intro more rs kvs vs r
  unfold KV at r
  induction r generalizing kvs vs with
  | nil => intro q; exact q
  | @cons p q ps qs h t ih =>
    intro r0
    have e : KV (putK kvs p.1 p.2) (stored vs q.1 q.2) := by
      have := r0.put p.1 h.2
      rw [← h.1]; exact this
    exact ih e
theorem length_mergeK : ∀ (more kvs : List (Key × V)), (mergeK kvs more).length ≤ kvs.length + more.length
  | [], kvs => by show kvs.length ≤ kvs.length + 0; omega
  | p :: r, kvs => by
    have h1 := length_mergeK r (putK kvs p.1 p.2)
    have h2 := length_putK kvs p.1 p.2
    show (mergeK (putK kvs p.1 p.2) r).length ≤ _
    rw [List.length_cons]; omega
theorem carries_of {P : Program} {w : World} : ∀ {kvs : List (Key × V)} {ws : List (Value × Value)}, VV (kvs.map fun kv => (kV kv.1, kv.2)) ws → ∃ rs, Carries (mixKind P w) ws rs ∧ KV kvs rs
  | [], _, r => by rw [List.map_nil] at r; cases r; exact ⟨[], True.intro, .nil⟩
  | p :: kvs, _, r => by
    rw [List.map_cons] at r
    cases r with
    | @cons a b as bs h t =>
      obtain ⟨rs, c, q⟩ := carries_of (P := P) (w := w) t
      obtain ⟨b1, b2⟩ := b
      exact ⟨(p.1, b2) :: rs, ⟨kV_is h.1, rfl, c⟩, .cons ⟨rfl, h.2⟩ q⟩
noncomputable def tDisp (trs : List (TE × TE)) : TE := fun σ H Q => ∀ p, H p = none → tPairs trs σ (upd H p (.dK [])) fun ps H2 => H2 p = some (.dK []) ∧ ∃ kvs : List (Key × V), ps = kvs.map (fun kv => (kV kv.1, kv.2)) ∧ kvs.length ≤ 15 ∧ Q (.ref p) (upd H2 p (.dK (mergeK [] kvs)))
theorem pe_disp {X : Cx} {pos : Pos} {keys : List (Option Expr)} {values : List Expr} {trs : List (TE × TE)} (h : PPs X pos keys values trs) (hall : keys.all (·.isSome) = true) (hl : keys.length = values.length) (h0 : keys ≠ [])
    (h15 : keys.length ≤ 15) : PE X (.Dict keys values pos) (tDisp trs) := by
  constructor; intro pins s σ H Q I q
  have hn := I.hok.fresh (Nat.le_refl s.heap.objs.size)
  have I1 := I.laid (a := s.heap.objs.size) (o := .dK []) (h' := s.heap.push { cls := .type "dict", data := .dict #[] }) (t' := s.toks) (fun _ _ q => Heap.get?_push_of_some _ q) (Nat.le_refl _) (dk_empty s.heap I.big)
  refine wpAny_Dict_walk (knd := mixKind X.prog X.w) hall hl h0 h15 (thn (h pins _ σ _ _ I1 (q _ hn)) fun ws s2 ⟨ps, H2, I2, rel, e, kvs, ep, lk, q2⟩ => ?_)
  subst ep
  obtain ⟨rs, c, rk⟩ := carries_of (P := X.prog) (w := X.w) rel
  obtain ⟨z, hd, vs0, r0, dd⟩ := dk_of I2.hok e
  cases r0
  refine ⟨rs, c, dd, fun h' dd' hs => ⟨.ref s.heap.objs.size, _, ?_, rfl, q2⟩⟩
  have hz : (mergeK [] kvs).length ≤ sizeLine := by
    have h1 := length_mergeK kvs []
    rw [List.length_nil] at h1
    rw [sizeLine_eq]; omega
  have he : ∃ q, h'.get? s.heap.objs.size = some q := let ⟨q, _, _, hq, _⟩ := dd'; ⟨q, hq⟩
  exact d_write I2 (by rw [e]; exact True.intro) hs he (dk_new hz hd (rk.merge .nil) dd')


structure M2 (X : Cx) (o : Expr) (m : Str) (apos : Pos) (e f : Expr) (cpos : Pos) : Prop where
  base : attributeBase o m X.env (eval o X.env) = eval o X.env
  few : ((backTo cpos (starEach [e, f] X.env)).all (fun x => !x.1) && (backToKw cpos (keywordEach [] X.env)).all (fun x => x.1.isSome)
    && decide (([e, f] : List Expr).length + ([] : List Keyword).length + (if ([] : List Keyword).isEmpty then 0 else 1) < 30)) = true
  line : (apos.endLine == cpos.line) = true
  trees : backTo cpos (starEach [e, f] X.env) = [(false, eval e X.env), (false, eval f X.env)]

noncomputable def IsD (H : Hp) (a : Addr) : Prop := (∃ kvs, Rd H a (.dK kvs)) ∨ ∃ kvs, Rd H a (.dT kvs)
theorem isD_at {X : Cx} {pins : List (Addr × Obj)} {σ : St} {H : Hp} {s : Shared} {a : Addr} (I : Inv X pins σ H s) (d : IsD H a) :
    s.TypeIs (.ref a) "dict" ∧ (∀ b, Value.ref a = .ref b → ∃ ob, s.heap.get? b = some ob ∧ ob.dict = none) ∧ (a == sysModules) = false := by
  rcases d with ⟨kvs, e⟩ | ⟨kvs, e⟩
  · obtain ⟨_, hd, vs, _, dd⟩ := dk_rd I.hok e
    refine ⟨dd.typeIs, fun b q => ?_, hd⟩
    cases q
    obtain ⟨ob, _, _, h1, h2, _⟩ := dd
    exact ⟨ob, h1, h2.2.1⟩
  · obtain ⟨_, hd, xs, _, dd⟩ := dt_rd I.hok e
    refine ⟨dd.typeIs, fun b q => ?_, hd⟩
    cases q
    obtain ⟨ob, _, _, h1, h2, _⟩ := dd
    exact ⟨ob, h1, h2.2.1⟩

section
variable {X : Cx} {pins : List (Addr × Obj)} {σ : St} {H : Hp} {s : Shared} {a : Addr} {y d : V} {u r : Value} {o : Option V} {A : Around} {E : Value → Shared → Prop}
theorem d_get2 {Q : Value → Shared → Prop} (hu : A.units + 1 < cLine) (I : Inv X pins σ H s) (g : DGet H a y o) (ry : RelV y u) (rd : RelV d r) (h : ∀ w' s', Inv X pins σ H s' → RelV (o.getD d) w' → Q w' s') :
    wpAny (model X.prog X.w) A (call (.builtin "dict.get") [.ref a, u, r]) Q E s := by
  rcases g with ⟨kvs, k, e, ey, l⟩ | ⟨kvs, k, b, e, ey, eb, l⟩
  · subst ey
    obtain ⟨z, hd, vs, rel, dd⟩ := dk_rd I.hok e
    refine call_meetsIn PySem.F.slot_dict_get dd.typeIs PySem.F.entry_dict_get (PySem.F.args_dict_get_3 _ _ _) (meets_dict_get_default (mixKind X.prog X.w) a (kV_is ry) hd r) ⟨_, dd.mapOf, h _ _ (I.tok _) ?_⟩
    rw [l]
    exact (rel.val k).getD rd
  · subst ey
    cases (show u = Value.ref b from ry)
    obtain ⟨z, hd, xs, rel, dd⟩ := dt_rd I.hok e
    refine call_meetsIn PySem.F.slot_dict_get dd.typeIs PySem.F.entry_dict_get (PySem.F.args_dict_get_3 _ _ _) (meetsH_dict_get_default (tupleKind (mixKind X.prog X.w)) a b hd r) ⟨tupleKind_room_in1 hu, k, xs, key_of I.hok eb, dd, h _ _ (I.tok _) ?_⟩
    rw [l]
    exact (rel.val k).getD rd
end

noncomputable def tDGet2 (td ty tx : TE) : TE := fun σ H Q => td σ H fun x H1 => ∃ a, x = .ref a ∧ IsD H1 a ∧ ty σ H1 fun y H2 => tx σ H2 fun z H3 => ∃ o, DGet H3 a y o ∧ Q (o.getD z) H3
section
variable {X : Cx} {o e f : Expr} {apos cpos : Pos} {td ty tx : TE}
theorem pe_dget2 (hu : X.A.units + 1 < cLine) (ho : PE X o td) (he : PE X e ty) (hf : PE X f tx) (m : M2 X o "get" apos e f cpos) : PE X (.Call (.Attribute o "get" apos) [e, f] [] cpos) (tDGet2 td ty tx) := by
  constructor; intro pins s σ H Q I h
  refine wpAny_Call_method m.base m.few m.line PySem.F.plainAttrs_dict PySem.F.slot_dict_get PySem.F.type_dict_get (thn (ho pins s σ H _ I h) fun u s1 ⟨x, H1, I1, rx, a, ex, d, q1⟩ => ?_)
  subst ex
  obtain rfl : u = Value.ref a := rx
  obtain ⟨t1, t2, _⟩ := isD_at I1 d
  refine ⟨t1, t2, ?_⟩
  rw [m.trees]
  refine Calls.callWith_builtin rfl (Calls.evalArgs_plain (Calls.spliced_cons (thn (he pins s1 σ H1 _ I1 q1) fun iv s2 ⟨y, H2, I2, ry, q2⟩ =>
    Calls.spliced_cons (thn (hf pins s2 σ H2 _ I2 q2) fun fv s3 ⟨z, H3, I3, rz, ov, g, q3⟩ => Calls.spliced_nil ?_))))
  exact d_get2 hu I3 g ry rz fun w' s4 I4 rw' => ⟨_, H3, I4, rw', q3⟩
end

section
variable {X : Cx} {pins : List (Addr × Obj)} {σ : St} {H : Hp} {s : Shared} {a : Addr} {kvs : List (Key × V)} {A : Around} {E : Value → Shared → Prop}
end


section
variable {X : Cx} {pins : List (Addr × Obj)} {σ : St} {H : Hp} {s : Shared} {a : Addr} {y : V} {u : Value} {A : Around} {E : Value → Shared → Prop}
end
end L2

namespace Att
open PySem PySem.W PySem.Calls PyProof.Rows

theorem ints_of_wellAll {P : Params} {h : Heap} : ∀ (ns : List Int) (vs : List Value), WellAll P h vs (ns.map WData.int) → IntsAre vs ns := by
  intro ns
  induction ns with
  | nil =>
    intro vs w
    rw [List.map_nil] at w
    cases w
    exact .nil
  | cons n ns ih =>
    intro vs w
    rw [List.map_cons] at w
    cases w with
    | cons a b =>
      cases a
      exact .cons _ _ (ih _ b)

theorem script_of {l : OpenLaw} {n : Nat} (hn : l.most = some n) {P : Params} {h : Heap} {args : List WData} {vals : List Value}
    (hpre : l.row.toRowW.claim.pre args = true) (hwl : WellAll P h vals args) :
    ∃ a vs ns, vals = [Value.ref a] ∧ args = [WData.list (ns.map WData.int)] ∧ h.get? a = some { cls := .type "list", data := .seq vs.toArray } ∧ IntsAre vs ns ∧ ns.length ≤ n := by
  have hsh : WShape.hasAll [] args [.list .int] = true := (pre_splitW hpre).1
  have hc : l.pre.holds [] { args := args } = true := (pre_splitW hpre).2
  obtain ⟨d, r, rfl, h1, h2⟩ := hasAllW_cons hsh
  obtain rfl := hasAllW_nil h2
  obtain ⟨xs, rfl, h3⟩ := hasW_list h1
  obtain ⟨ns, rfl⟩ := items_int h3
  have hlen : ns.length ≤ n := by
    unfold OpenLaw.pre at hc
    have h4 : (WTm.not (.lt (.lit (.int (n : Int))) (.len (.arg 0)))).holds [] { args := [.list (ns.map .int)] } = true := by
      have h4 := (holds_andW hc).1
      rw [hn] at h4
      exact h4
    have h5 := condW_of h4 (w_not (w_lt w_lit (w_len_list (w_arg rfl))))
    rw [List.length_map] at h5
    refine Nat.le_of_not_lt fun q => ?_
    have q' : (n : Int) < ((ns.length : Nat) : Int) := by omega
    first
      | (rw [decide_eq_true q'] at h5; exact absurd h5 (by decide))
      | (simp at h5; omega)
  cases hwl with
  | cons w1 w2 =>
    cases w2
    cases w1 with
    | list ho hall => exact ⟨_, _, ns, rfl, rfl, ho, ints_of_wellAll ns _ hall, hlen⟩

theorem post_true (l : OpenLaw) (args : List WData) : l.row.toRowW.claim.post args (.bool true) args = true :=
  postW_of (r := l.row.toRowW) (X := (true == true))
    (show WShape.has [] (.bool true) .bool = true by first | rfl | decide | simp [WShape.has, WShape.arms, WShape.armsAll])
    (show (WTm.eq .res (.lit (.bool true))).value [] { args := args, res := some (.bool true), after := args } = some (.bool (true == true)) from w_eq_bool (w_res rfl) w_lit) rfl

section
variable {prog : Program} {w : World} {A : Around} {E : Value → Shared → Prop} {s : Shared} {K : Frag}

end
end Att

namespace L2
open PySem PySem.Spec PyProof.Rows

theorem vals_ints : ∀ {vs : List Value} {ns : List Int}, IntsAre vs ns → Vals (ns.map V.int) vs
  | _, _, .nil => .nil
  | _, _, .cons n t h => .cons ⟨t, rfl⟩ (vals_ints h)

noncomputable def Only (H : Hp) : Prop := ∀ b, H b = none ∨ ∃ o xs, H b = some (.frz o (.lst xs))

theorem law_call {P : Program} {w : World} {K : PySem.W.Frag} {mg mb : Str → Option Value} {CX : CXT} {k : Nat} {fa a : Addr} {fd : FuncData} {x : Str} {sp : Sp} {s₁ : Shared} {vs : List Value} {ns : List Int}
    (KX : K.In s₁.heap) (hns : s₁.heap.Ns mainGlobals mg) (hb : s₁.heap.Ns builtinsNs mb) (hbb : ∀ x : Str, x ≠ "__name__" → mb x = bootBuiltins x) (hlim : s₁.heap.NoLimit) (hg : s₁.gens = #[])
    (ha : s₁.heap.get? a = some { cls := .type "list", data := .seq vs.toArray }) (hi : IntsAre vs ns) (hl : ns.length ≤ sizeLine) (hr : Room k callerA)
    (F : ∀ base : Heap, K.In base → base.Ns mainGlobals mg → FnOk P w K mg base CX k fa fd [x] sp) (hbind : ∀ (s : Shared) (u : Value), BindsTo s fd ⟨[u], []⟩ [(x, u)])
    (hsp : ∀ H : Hp, Only H → SqL K H a (ns.map V.int) → sp [.ref a] H (fun v _ => v = .bl true) fun _ _ _ => False)
    (hCX : ∀ H e s', CX [] H s₁ (fun _ _ _ => False) e s' → False) :
    codeAny (model P w) callerA (.call (.ref fa) ⟨[.ref a], []⟩) (fun r s' => r = .ok (.ret (.bool true)) ∧ OldK s₁.heap s'.heap ∧ s'.os = s₁.os ∧ AllBare s'.gens) s₁ := by
  have rv := vals_ints hi
  have lenV := hi.length
  -- from an abstract heap in which nothing but the script may be tracked
  have core : ∀ H : Hp, Only H → SqL K H a (ns.map V.int) → HOk P w H s₁.heap → (∀ b, H b ≠ none → b = a) → (H a ≠ none → K.lookup a = none) →
      codeAny (model P w) callerA (.call (.ref fa) ⟨[.ref a], []⟩) (fun r s' => r = .ok (.ret (.bool true)) ∧ OldK s₁.heap s'.heap ∧ s'.os = s₁.os ∧ AllBare s'.gens) s₁ := by
    intro H hO hS hok hA hK
    have base_of : ∀ {b : Addr} {o : Obj}, s₁.heap.get? b = some o → H b = none → (hidT s₁.heap H).get? b = some o := fun e n => hidT_get e n
    have noA : ∀ {b : Addr} {o : Obj} {es : Array DictEntry} {ep : Nat}, s₁.heap.get? b = some o → o.data = .dict es ep → H b = none := fun {b o es ep} e d => by
      cases q : H b with
      | none => rfl
      | some u =>
        have e' : b = a := hA b (by rw [q]; simp)
        subst e'
        rw [ha] at e; cases e
        have d' : Data.seq vs.toArray _ = Data.dict es ep := d
        cases d'
    have nsK : ∀ {b : Addr} {m : Str → Option Value}, s₁.heap.Ns b m → (hidT s₁.heap H).Ns b m := fun {b m} ⟨o, es, ep, e, d, r⟩ => ⟨o, es, ep, base_of e (noA e d), d, r⟩
    have hKb : K.In (hidT s₁.heap H) := fun b o e => base_of (KX b o e) (by
      cases q : H b with
      | none => rfl
      | some u =>
        have e' : b = a := hA b (by rw [q]; simp)
        subst e'
        rw [hK (by rw [q]; simp)] at e; cases e)
    have hM : Mod K mg (hidT s₁.heap H) := ⟨hKb, nsK hns, ⟨mb, nsK hb, hbb⟩, let ⟨mc, h1, h2⟩ := hlim; ⟨mc, nsK h1, h2⟩⟩
    have e0 : Env0 P w K mg (hidT s₁.heap H) callerA [] s₁ H := ⟨rfl, hM, fun b o e => of_hidT e, Nat.le_of_eq (hidT_size _ _), trivial, fun b hb => absurd (show b ∈ ([] : List Addr) from hb) (by simp), hok, .of_eq hg⟩
    refine codeAny_mono ((F _ hKb (nsK hns)).run callerA [] s₁ H ⟨[.ref a], []⟩ [.ref a] [.ref a] _ _ hr e0 (hbind s₁ (.ref a)) (.cons rfl .nil) (hsp H hO hS)) fun r s' h => ?_
    cases r with
    | error e => exact (hCX H e s' h).elim
    | ok fl =>
      cases fl with
      | next => exact False.elim h
      | brk => exact False.elim h
      | cont => exact False.elim h
      | ret u =>
        obtain ⟨v, H', os, bare, un, hok', r', q⟩ := h
        have q' : v = .bl true := q
        subst q'
        obtain rfl : u = Value.bool true := r'
        refine ⟨rfl, OldK.of_keep fun b o e => ?_, os, bare⟩
        cases q : H b with
        | none => exact un.keep b o e q (by intro z; exact absurd (show b ∈ ([] : List Addr) from z) (by simp)) (by simp)
        | some u =>
          rcases hO b with z | ⟨ob, xs, z⟩
          · rw [q] at z; cases z
          · have z2 := un.frzs b ob _ z
            obtain ⟨e1, _⟩ := hok b _ z
            obtain ⟨e2, _⟩ := hok' b _ z2
            rw [e] at e1; cases e1
            exact e2
  cases hk : K.lookup a with
  | some o =>
    -- the script is one of the module's own objects
    have e := KX a o hk
    rw [ha] at e
    cases e
    refine core (fun _ => none) (fun _ => .inl rfl) (.inr ⟨_, vs.toArray, _, hk, rfl, rfl, rfl, by rw [List.size_toArray, lenV]; exact hl, by simpa using rv⟩) (fun b u z => by have z' : (none : Option HO) = some u := z; cases z') (fun b z => absurd rfl z) fun z => absurd rfl z
  | none =>
    refine core (fun b => if b = a then some (.frz { cls := .type "list", data := .seq vs.toArray } (.lst (ns.map V.int))) else none) (fun b => ?_) (.inl (.inr ⟨{ cls := .type "list", data := .seq vs.toArray }, if_pos rfl⟩)) (fun b u z => ?_) (fun b z => ?_) fun _ => hk
    · by_cases hb : b = a
      · exact .inr ⟨_, _, if_pos hb⟩
      · exact .inl (if_neg hb)
    · by_cases hb : b = a
      · have z' := (if_pos hb).symm.trans z
        cases z'
        subst hb
        exact ⟨ha, by rw [List.length_map]; exact hl, vs, _, rv, ha⟩
      · have z' := (if_neg hb).symm.trans z
        cases z'
    · by_cases hb : b = a
      · exact hb
      · exact absurd (if_neg hb) z
end L2

namespace L2
open PySem PySem.Spec PyProof.Rows

noncomputable abbrev KOf {K : PySem.W.Frag} {h : Heap} (_ : K.In h) : PySem.W.Frag := K

end L2

/- THE LAST THEOREM (shape; LID, My.* are yours):
   My.Adr: a structure of the addresses that your layer names (classes, functions); My.Txt K t: a structure (Prop) of the equations over K;
   My.txt_mk : {K} {implicit addresses ..} (e1 : nsIn K mainGlobals "law" = some (some (.ref f))) (e2 : K.lookup f = some ⟨oc, od, .func (fnOf "law" "law" params body scope dV kV doc pm an cdv ct), sl⟩) (e3 : codeIn K cdv "law" = true) .. : ∃ t, My.Txt K t

set_option maxRecDepth 100000 in
set_option maxHeartbeats 0 in
theorem PySem.Challenge.cw_LID_holds : PySem.Challenge.rw_LID.Holds := by
  w_on; o_law; k_head; (case hw => w_witness2)
  k_fill
  refine L2.walk_of (l := PySem.Challenge.rw_LID) (n := 63) (k := 40) (x := "script") (CX := fun w => ..) (sp := fun _ => My.sp_law) rfl (by decide) rfl ⟨rfl, by decide, by decide⟩ (fun w h Y => PySem.W.kIn_of Y) ?F ?S ?C
  case F =>
    intro w mg fa h KX G hmg
    have T : ∃ t, My.Txt (L2.KOf KX) t := by
      dsimp only [L2.KOf]                          -- K must stand as «<heap const> w.params» for k_is
      refine' My.txt_mk ?e1 ?e2 ?e3 ..
      (case e1 => PySem.W.k_is)                    -- in the order: a name -> its address -> its object -> its parts
      (case e2 => PySem.W.k_is)
      ..
    obtain ⟨t, T⟩ := T
    have e0 := hmg.symm.trans (PySem.W.mg_of KX G T.law)
    cases e0                                       -- fa is the law's own address
    exact ⟨_, fun s u => .of_eq rfl, fun base kb nb => My.law_fn T kb nb⟩     -- if «.of_eq rfl» comes too early: refine' ⟨_, ?b, fun base kb nb => My.law_fn T kb nb⟩; exact fun s u => .of_eq rfl
  case S => exact fun w H a ns hl hO hS => ..
  case C => exact ..
(the tactic k_is has no namespace: write k_is) -/

namespace L2
open PySem PySem.Spec PyProof.Rows

noncomputable def defArgs (s : Stmt) : Arguments := match s with
  | .FunctionDef _ a _ _ _ _ _ _ _ _ => a
  | _ => { posonlyargs := [], args := [], vararg := none, kwonlyargs := [], kw_defaults := [], kwarg := none, defaults := [] }
noncomputable def defBody (s : Stmt) : List Stmt := match s with
  | .FunctionDef _ _ b _ _ _ _ _ _ _ => b
  | _ => []
noncomputable def defScope (s : Stmt) : Scope := match s with
  | .FunctionDef _ _ _ _ _ _ sc _ _ _ => sc
  | _ => { kind := .function, names := [], isGenerator := false, isCoroutine := false }

noncomputable abbrev CX0 : CXT := fun _ _ _ _ _ _ => False
noncomputable abbrev E0 : XK := fun _ _ _ => False
theorem pass0 {X : Cx} : Passes CX0 X E0 := fun _ _ _ _ _ _ _ h => h.elim

structure Fun (K : PySem.W.Frag) (x qual : Str) (st : Stmt) (f : Addr) (fd : FuncData) : Prop where
  ex : ∃ (oc : Value) (od : Option Addr) (kV doc pm : Value) (an : Option Addr) (cdv ct : Value) (osl : Array (Option Value)),
    fd = PySem.W.fnOf x qual (defArgs st) (defBody st) (defScope st) .none kV doc pm an cdv ct ∧ K.lookup f = some ⟨oc, od, .func fd, osl⟩ ∧ PySem.W.codeIn K cdv qual = true
  kp : PySem.W.keepIn K (.ref f) = true
section
variable {P : Program} {w : World} {K : PySem.W.Frag} {mg : Str → Option Value} {base : Heap}
theorem Fun.ok {x qual : Str} {st : Stmt} {f : Addr} {fd : FuncData} {N ps : List Str} {k : Nat} {sp : Sp} (F : Fun K x qual st f fd) (S : FnScope N ps (defScope st)) (len : ∀ vs H Q E, sp vs H Q E → vs.length = ps.length)
    (hbody : ∀ (cdv : Value) (A : Around) (outer : List Env) (s : Shared) (H : Hp) (vs : List V) (Q : VK) (E : XK), Room k (A.deeper (envOfC qual (defScope st) s.heap.objs.size f cdv)) → sp vs H Q E →
      ∃ t, PSs (cxOf CX0 P w K mg base N qual (defScope st) f cdv A outer s H E).nox (defBody st) t ∧ t { nx := fun _ H' => Q .non H', rt := Q } (start N vs) H) : FnOk P w K mg base CX0 (k + 1) f fd ps sp := by
  obtain ⟨oc, od, kV, doc, pm, an, cdv, ct, osl, rfl, lk, hcd⟩ := F.ex
  refine fn_of lk hcd S len fun A outer s H vs Q E hr hsp => ?_
  obtain ⟨t, h, q⟩ := hbody cdv A outer s H vs Q E hr hsp
  exact ⟨t, h.nox, q⟩
theorem Fun.binds {x qual : Str} {st : Stmt} {f : Addr} {fd : FuncData} {ps : List Str} (F : Fun K x qual st f fd)
    (h : ∀ (kV doc pm : Value) (an : Option Addr) (cdv ct : Value) (us : List Value), us.length = ps.length → bindArgs (PySem.W.fnOf x qual (defArgs st) (defBody st) (defScope st) .none kV doc pm an cdv ct) ⟨us, []⟩ = pure (ps.zip us)) : Binds K fd ps [] := by
  obtain ⟨oc, od, kV, doc, pm, an, cdv, ct, osl, rfl, lk, hcd⟩ := F.ex
  exact .all (h kV doc pm an cdv ct)
theorem fun_mk {x qual : Str} {st : Stmt} {f : Addr} {oc : Value} {od an : Option Addr} {osl : Array (Option Value)} {kV doc pm cdv ct : Value} (l : K.lookup f = some ⟨oc, od, .func (PySem.W.fnOf x qual (defArgs st) (defBody st) (defScope st) .none kV doc pm an cdv ct), osl⟩)
    (c : PySem.W.codeIn K cdv qual = true) (k : PySem.W.keepIn K (.ref f) = true) : Fun K x qual st f (PySem.W.fnOf x qual (defArgs st) (defBody st) (defScope st) .none kV doc pm an cdv ct) := ⟨⟨oc, od, kV, doc, pm, an, cdv, ct, osl, rfl, l, c⟩, k⟩
end
theorem hu_of {A : Around} {k : Nat} (hr : Room k A) : A.units + 1 < cLine := Nat.lt_of_le_of_lt (Nat.add_le_add_left (by decide : 1 ≤ 64) _) hr.units
section
variable {X : Cx}
theorem pv (i : Nat) {x : Str} {pos : Pos} (hN : X.N[i]? = some x := by rfl) (hv : Vis X.env.scope x := by first | exact Or.inl rfl | exact Or.inr (Or.inl rfl) | exact Or.inr (Or.inr rfl)) (hd : (x == ("__debug__" : Str)) = false := by decide)
    (hcd : (x == ("__classdict__" : Str)) = false := by decide) : PE X (.Name x pos) (tVar i) := pe_var hN hv hd hcd
end

theorem iteF {A B : Prop} (h : B) : if false = true then A else B := by
  rw [if_neg Bool.false_ne_true]
  exact h
theorem iteT {A B : Prop} (h : A) : if true = true then A else B := by
  rw [if_pos rfl]
  exact h
theorem ite2 {c A B : Prop} [Decidable c] (h1 : c → A) (h2 : ¬ c → B) : if c then A else B := by
  by_cases h : c
  · rw [if_pos h]
    exact h1 h
  · rw [if_neg h]
    exact h2 h
noncomputable def Same (H H' : Hp) : Prop := ∀ b o, H b = some o → H' b = some o
theorem Same.refl (H : Hp) : Same H H := fun _ _ h => h
theorem Same.trans {H H1 H2 : Hp} (a : Same H H1) (b : Same H1 H2) : Same H H2 := fun c o h => b c o (a c o h)
theorem Same.free {H H' : Hp} (e : Same H H') {l : Addr} (h : H' l = Option.none) : H l = Option.none := by
  cases q : H l with
  | none => rfl
  | some o =>
    rw [e l o q] at h
    cases h
theorem Same.seq {K : PySem.W.Frag} {H H' : Hp} {a : Addr} {xs : List V} (e : Same H H') (h : SqL K H a xs) : SqL K H' a xs := by
  rcases h with (h | ⟨o, h⟩) | h
  · exact .inl (.inl (e _ _ h))
  · exact .inl (.inr ⟨o, e _ _ h⟩)
  · exact .inr h

end L2

namespace L2
open PySem PySem.Spec PyProof.Rows
section
variable {X : Cx}
end
section
variable {κ : Type} [DecidableEq κ]
end
end L2

namespace My
open PySem PySem.Spec PyProof.Rows L2
section
variable {X : Cx}
theorem call_isi : CallR X (.builtin "isinstance") (fun xs H Q => ∃ x t c b, xs = [x, V.ty c] ∧ TyOf X.K H x t ∧ PySem.W.kitOne X.K t (.type c) = some b ∧ Q (.bl b) H) := by
  intro pins s σ H xs us Q I r h
  obtain ⟨x, t, c, b, rfl, ty, e, q⟩ := h
  obtain ⟨u, w', rfl, ru, rw'⟩ := vals2 r
  cases rw'
  exact isinst_ok I ru ty e fun tk => ⟨.bl b, H, I.tok tk, rfl, q⟩
end
section
variable {K : PySem.W.Frag}
theorem kit_ii : PySem.W.kitOne K (.type "int") (.type "int") = some true := by
  show (if (Value.type "int" == Value.type "int") = true then some true else if PySem.W.kitMeta "int" = true then (fastBuiltinMro "int").map (·.contains (Value.type "int")) else none) = some true
  decide +kernel
theorem kit_ib : PySem.W.kitOne K (.type "int") (.type "bool") = some false := by
  show (if (Value.type "int" == Value.type "bool") = true then some true else if PySem.W.kitMeta "bool" = true then (fastBuiltinMro "int").map (·.contains (Value.type "bool")) else none) = some false
  decide +kernel
theorem kit_is : PySem.W.kitOne K (.type "int") (.type "str") = some false := by
  show (if (Value.type "int" == Value.type "str") = true then some true else if PySem.W.kitMeta "str" = true then (fastBuiltinMro "int").map (·.contains (Value.type "str")) else none) = some false
  decide +kernel
theorem kit_ss : PySem.W.kitOne K (.type "str") (.type "str") = some true := by
  show (if (Value.type "str" == Value.type "str") = true then some true else if PySem.W.kitMeta "str" = true then (fastBuiltinMro "str").map (·.contains (Value.type "str")) else none) = some true
  decide +kernel
theorem kit_tt : PySem.W.kitOne K (.type "tuple") (.type "tuple") = some true := by
  show (if (Value.type "tuple" == Value.type "tuple") = true then some true else if PySem.W.kitMeta "tuple" = true then (fastBuiltinMro "tuple").map (·.contains (Value.type "tuple")) else none) = some true
  decide +kernel
end
theorem atI_lt {α : Type} {xs : List α} {i : Int} (h0 : 0 ≤ i) (h1 : i < xs.length) : ∃ v, atI xs i = some v := by
  have e : ixN xs.length i = some i.toNat := by
    unfold ixN
    rw [if_pos h0, if_pos h1]
  have hl : i.toNat < xs.length := by omega
  refine ⟨xs[i.toNat], ?_⟩
  unfold atI
  rw [e]
  exact List.getElem?_eq_getElem hl
theorem atI_mem {α : Type} {xs : List α} {i : Int} {v : α} (h : atI xs i = some v) : v ∈ xs := by
  obtain ⟨j, _, e, _⟩ := atI_get h
  exact List.mem_of_getElem? e
theorem iteDT {c A B : Prop} [Decidable c] (hc : c) (h : A) : if decide c = true then A else B := by
  rw [if_pos (decide_eq_true hc)]
  exact h
theorem iteDF {c A B : Prop} [Decidable c] (hc : ¬ c) (h : B) : if decide c = true then A else B := by
  rw [if_neg (fun z => hc (of_decide_eq_true z))]
  exact h
theorem _root_.L2.Same.upd {H : Hp} {p : Addr} {o : HO} (h : H p = none) : Same H (upd H p o) := fun b u e => by
  rw [upd_ne (ne_of_none e h)]
  exact e
theorem _root_.L2.Same.again {H H' : Hp} {p : Addr} {o : HO} (s : Same H H') (h : H p = none) : Same H (L2.upd H' p o) := fun b u e => by
  rw [upd_ne (ne_of_none e h)]
  exact s b u e
open Builtin.Int (intBits)
theorem bits_item : ∀ {ns : List Int} {m : Int}, m ∈ ns → intBits m ≤ PySem.W.WData.weightAll (ns.map PySem.W.WData.int)
  | n :: r, m, h => by
    rcases List.mem_cons.mp h with e | e
    · subst e
      simp only [List.map_cons, PySem.W.WData.weightAll, PySem.W.WData.weight, Builtin.Int.intBits]
      omega
    · have z := bits_item e
      simp only [List.map_cons, PySem.W.WData.weightAll]
      omega
theorem bits_of {ns : List Int} (h : PySem.W.WData.layableAll [PySem.W.WData.list (ns.map .int)] = true) : ∀ m ∈ ns, intBits m ≤ 1048576 := fun m hm => by
  have h1 := (PySem.W.layW_cons h).1
  have h2 : PySem.W.WData.weight (.list (ns.map .int)) ≤ 2 ^ 20 := of_decide_eq_true (Bool.and_eq_true_iff.mp h1).2
  have h3 := bits_item hm
  have h4 : PySem.W.WData.weight (.list (ns.map .int)) = PySem.W.WData.weightAll (ns.map .int) := by simp only [PySem.W.WData.weight]
  have e : (2 : Nat) ^ 20 = 1048576 := by decide
  omega
end My
namespace My
open PySem PySem.W PySem.Calls PyProof.Rows L2
theorem walk_ofB {l : PySem.W.OpenLaw} {n k : Nat} {q : Program} {loose : List Str} {XP : (Str → Option Value) → Heap → Prop} {YP : World → Heap → Prop} {d : DefRec} {K : Params → PySem.W.Frag} {CX : World → CXT} {sp : World → Sp} {x : Str}
    (hn : l.most = some n) (hn2 : n ≤ sizeLine) (hdf : d.params.defaults = []) (hr : Room k callerA)
    (hY : ∀ (w : World) (h : Heap), YP w h → (K w.params).In h)
    (F : ∀ (w : World) (mg : Str → Option Value) (fa : Addr) (h : Heap), (K w.params).In h → h.Ns mainGlobals mg → mg d.name = some (.ref fa) →
      ∃ fd : FuncData, (∀ (s : Shared) (u : Value), BindsTo s fd ⟨[u], []⟩ [(x, u)]) ∧
        ∀ base : Heap, (K w.params).In base → base.Ns mainGlobals mg → FnOk l.prog w (K w.params) mg base (CX w) k fa fd [x] (sp w))
    (hsp : ∀ (w : World) (H : Hp) (a : Addr) (ns : List Int), ns.length ≤ n → (∀ m ∈ ns, Builtin.Int.intBits m ≤ 1048576) → Only H → SqL (K w.params) H a (ns.map V.int) → sp w [.ref a] H (fun v _ => v = .bl true) fun _ _ _ => False)
    (hCX : ∀ (w : World) (H : Hp) (s : Shared) (e : Value) (s' : Shared), CX w [] H s (fun _ _ _ => False) e s' → False) :
    PySem.W.WalkO q loose XP YP l.row.toRowW d [] (fun f vs => PySem.call f vs) := by
  intro w s₀ s₁ mg mb G Y fa o pm cd doc dV kV ho hd hcd hD hmg hg args vals as hpre hlay hrd hwl hlo
  obtain rfl : dV = .none := Dflts.none hD hdf
  obtain rfl : kV = .none := Dflts.noKw hD
  obtain ⟨a, vs, ns, rfl, rfl, hobj, hints, hlen⟩ := Att.script_of hn hpre hwl
  have KX := hY w _ Y
  obtain ⟨fd, hb, hF⟩ := F w mg fa _ KX G.T.g hmg
  refine enter_call (codeAny_mono (law_call KX G.T.g G.T.b G.T.builtins G.T.nolimit hg hobj hints (Nat.le_trans hlen hn2) hr hF hb (fun H hO hS => hsp w H a ns hlen (bits_of hlay) hO hS) fun H e s' => hCX w H s₁ e s') fun r s' hq => ?_)
  obtain ⟨rfl, h2, h3, h4⟩ := hq
  exact ⟨.inl ⟨.bool true, .bool true, [], rfl, fun _ => rfl, .bool true, Att.post_true l _, fun _ => ⟨List.Pairwise.nil, fun _ hm => (nomatch hm)⟩⟩, h2, h3, h4⟩
end My
namespace My
open PySem PySem.Spec PyProof.Rows L2
mutual
inductive Dt (K : PySem.W.Frag) (H : Hp) : V → PyData → Prop where
  | non : Dt K H .non .none
  | bl (b : Bool) : Dt K H (.bl b) (.bool b)
  | int (i : Int) : Dt K H (.int i) (.int i)
  | str (x : Str) : Dt K H (.str x) (.str x)
  | lst {a : Addr} {xs : List V} {ds : List PyData} (h : SqL K H a xs) (r : Dts K H xs ds) : Dt K H (.ref a) (.list ds)
  | tup {a : Addr} {xs : List V} {ds : List PyData} (h : SqT K H a xs) (r : Dts K H xs ds) : Dt K H (.ref a) (.tuple ds)
inductive Dts (K : PySem.W.Frag) (H : Hp) : List V → List PyData → Prop where
  | nil : Dts K H [] []
  | cons {x : V} {d : PyData} {xs : List V} {ds : List PyData} (h : Dt K H x d) (r : Dts K H xs ds) : Dts K H (x :: xs) (d :: ds)
end
section
variable {X : Cx} {pins : List (Addr × Obj)} {σ : L2.St} {H : Hp} {s : Shared}
mutual
theorem Dt.reads (I : Inv X pins σ H s) {v : V} {d : PyData} (h : Dt X.K H v d) {u : Value} (r : RelV v u) : ∃ as, Reads s.heap u d as := by
  cases h with
  | non => cases r; exact ⟨_, .none⟩
  | bl b => cases r; exact ⟨_, .bool b⟩
  | int i => obtain ⟨t, rfl⟩ := r; exact ⟨_, .int i t⟩
  | str x => obtain ⟨t, rfl⟩ := r; exact ⟨_, .str x t⟩
  | lst h q =>
    cases r
    obtain ⟨its, rv, ⟨o, n, e, c, _, dd⟩, _⟩ := I.list h
    obtain ⟨as, z⟩ := Dts.reads I q rv
    exact ⟨_, .list e c dd (by simpa using z)⟩
  | tup h q =>
    cases r
    obtain ⟨its, rv, ⟨o, e, c, n, dd⟩, _⟩ := I.tuple h
    obtain ⟨as, z⟩ := Dts.reads I q rv
    exact ⟨_, .tuple e c dd (by simpa using z)⟩
theorem Dts.reads (I : Inv X pins σ H s) {vs : List V} {ds : List PyData} (h : Dts X.K H vs ds) {us : List Value} (r : Vals vs us) : ∃ as, ReadsAll s.heap us ds as := by
  cases h with
  | nil => cases r; exact ⟨_, .nil⟩
  | cons h q =>
    cases r with
    | cons r1 r2 =>
      obtain ⟨as, z⟩ := Dt.reads I h r1
      obtain ⟨bs, y⟩ := Dts.reads I q r2
      exact ⟨_, .cons z y⟩
end
end
section
variable {X : Cx}
noncomputable def rEqD (K : PySem.W.Frag) : R2 := fun x y H Q => ∃ da db, Dt K H x da ∧ Dt K H y db ∧ SeqAt.shaped da = true ∧ SeqAt.shaped db = true ∧ Q (.bl (PyData.eqv da db)) H
noncomputable def rNeD (K : PySem.W.Frag) : R2 := fun x y H Q => ∃ da db, Dt K H x da ∧ Dt K H y db ∧ SeqAt.shaped da = true ∧ SeqAt.shaped db = true ∧ Q (.bl (!PyData.eqv da db)) H
theorem op_eqS (hu : X.A.units + 64 < cLine) : OpR X (compareOp .Eq) (rEqD X.K) := by
  intro pins s σ H x y v u Q I rx ry h
  obtain ⟨da, db, ha, hb, sa, sb, q⟩ := h
  obtain ⟨as, ra⟩ := ha.reads I rx
  obtain ⟨bs, rb⟩ := hb.reads I ry
  exact SeqAt.compareEq_shaped ra rb sa sb hu ⟨.bl _, H, I, rfl, q⟩
theorem op_neS (hu : X.A.units + 64 < cLine) : OpR X (compareOp .NotEq) (rNeD X.K) := by
  intro pins s σ H x y v u Q I rx ry h
  obtain ⟨da, db, ha, hb, sa, sb, q⟩ := h
  obtain ⟨as, ra⟩ := ha.reads I rx
  obtain ⟨bs, rb⟩ := hb.reads I ry
  exact SeqAt.compareNe_shaped ra rb sa sb hu ⟨.bl _, H, I, rfl, q⟩
end
end My
namespace My
open PySem PySem.Spec PyProof.Rows L2
theorem obj_some {P : Program} {w : World} {H : Hp} {h : Heap} {a : Addr} {o : HO} (x : ObjOk P w H h a o) : ∃ ob, h.get? a = some ob := by
  cases o with
  | lst xs => obtain ⟨_, _, _, _, e⟩ := x; exact ⟨_, e⟩
  | tup xs => obtain ⟨_, _, _, ob, e, _⟩ := x; exact ⟨_, e⟩
  | dK kvs => obtain ⟨_, _, _, _, o, _, _, e, _⟩ := x; exact ⟨_, e⟩
  | dT kvs => obtain ⟨_, _, _, _, o, _, _, e, _⟩ := x; exact ⟨_, e⟩
  | set S n => obtain ⟨o, _, _, _, e, _⟩ := x; exact ⟨_, e⟩
  | ins C dx fs => obtain ⟨_, _, _, e, _⟩ := x; exact ⟨_, e⟩
  | own y => exact x
  | xd fs => obtain ⟨_, ⟨_, _, _, e, _⟩, _⟩ := x; exact ⟨_, e⟩
  | rng lo hi => obtain ⟨_, _, _, e⟩ := x; exact ⟨_, e⟩
  | frz ob u => obtain ⟨e, _⟩ := x; exact ⟨_, e⟩
  | tbl ps => exact ⟨_, (show h.get? a = some _ from x)⟩
  | met f y => exact ⟨_, (show h.get? a = some _ from x)⟩
  | ext φ => obtain ⟨_, e, _⟩ := x; exact e
section
variable {X : Cx} {pins : List (Addr × Obj)} {σ : L2.St} {H : Hp} {s : Shared}
theorem inv_none (I : Inv X pins σ H s) {D : Addr} (h : s.heap.get? D = none) : H D = none := by
  cases q : H D with
  | none => rfl
  | some u =>
    obtain ⟨ob, e⟩ := obj_some (I.hok D u q)
    rw [h] at e
    cases e
end
noncomputable def EltOk (X : Cx) (scope : Scope) (x : Str) (elt : Expr) (H : Hp) (v y : V) : Prop :=
  ∀ (pins : List (Addr × Obj)) (σ : L2.St) (s s₃ : Shared) (C : Addr) (m₃ : Str → Option Value) (u : Value) (E' : Value → Shared → Prop), Inv X pins σ H s → s.heap.objs.size ≤ C → RelV v u → s₃.heap.Ns C m₃ → m₃ x = some u →
    (∀ b o, H b ≠ none → s.heap.get? b = some o → s₃.heap.get? b = some o) → (∀ b o, X.base.get? b = some o → s₃.heap.get? b = some o) →
    wpAny (model X.prog X.w) X.A (eval elt (compEnvC scope [] C X.env)) (fun z s₄ => RelV y z ∧ Keeps s₃ s₄) E' s₃
theorem vals_get' : ∀ {xs : List V} {us : List Value} {i : Nat} {u : Value}, Vals xs us → us[i]? = some u → ∃ x, xs[i]? = some x ∧ RelV x u
  | _, _, _, _, .nil, e => by simp at e
  | _, _, 0, _, .cons r _, e => by simp at e; subst e; exact ⟨_, rfl, r⟩
  | _, _, i + 1, u, .cons _ t, e => by
    obtain ⟨x, h1, h2⟩ := vals_get' (i := i) (u := u) t (by simpa using e)
    exact ⟨x, by simpa using h1, h2⟩
end My
namespace My
open PySem PySem.Spec PyProof.Rows L2
noncomputable def ctxF (o : Obj) : Option Value := match o.data with
  | .fields vs => vs[2]?
  | _ => none
noncomputable abbrev SameDC (a b : Obj) : Prop := a.dict = b.dict ∧ ctxF a = ctxF b
end My
namespace My
open PySem PySem.Spec PyProof.Rows L2
section
variable {X : Cx} {pins : List (Addr × Obj)} {σ : L2.St} {H H' : Hp} {s : Shared} {h1 h2 B : Heap}
end
section
variable {P : Program} {w : World} {K : PySem.W.Frag} {mg : Str → Option Value} {base : Heap} {N : List Str} {qual : Str} {scope : Scope} {f : Addr} {cd : Value} {A : Around} {outer : List Env} {s₀ : Shared} {H₀ : Hp} {E : XK}
  {pins : List (Addr × Obj)} {σ : L2.St} {H H' : Hp} {s : Shared}
end
end My
namespace My
open PySem PySem.Spec PyProof.Rows L2
section
variable {P : Program} {w : World} {K : PySem.W.Frag} {mg : Str → Option Value} {base : Heap} {N : List Str} {qual : Str} {scope : Scope} {f : Addr} {cd : Value} {A : Around} {outer : List Env} {s₀ : Shared} {H₀ : Hp} {E : XK}
end
section
variable {X : Cx}
end
end My
namespace My
open PySem PySem.Spec PyProof.Rows L2
section
variable {X : Cx}
theorem sl_str : SlR X (fun x lo hi H Q => ∃ z : Str, x = .str z ∧ z.length ≤ sizeLine ∧ Q (.str (Txt.slice z lo hi)) H) := by
  intro pins s σ H x v vl vu lo hi sl Q I rx hs pl pu h
  obtain ⟨z, rfl, hz, q⟩ := h
  obtain ⟨t, rfl⟩ := rx
  refine ⟨"str", _, PySem.F.slot_str_getitem.lookup, typeIs_str _ _ _, ?_⟩
  have fin : ∀ lo hi, Q (.str (Txt.slice z lo hi)) H → (Txt.slice z lo hi).length ≤ sizeLine ∧ ∀ (t' : Tok) (k : Nat), EP X pins σ Q (.str (Txt.slice z lo hi) t') { s with toks := k } := fun lo hi q =>
    ⟨Nat.le_trans (Txt.slice_le z _ _) hz, fun t' k => ⟨.str _, H, I.tok _, ⟨_, rfl⟩, q⟩⟩
  cases pl with
  | none =>
    cases pu with
    | none => exact wpAny_getItem_str_slice (l := none) (u := none) (st := none) hs rfl (post_val_or_str (fin _ _ q))
    | int j uj => exact wpAny_getItem_str_slice (l := none) (u := some (j, uj)) (st := none) hs rfl (post_val_or_str (fin _ _ q))
  | int i ui =>
    cases pu with
    | none => exact wpAny_getItem_str_slice (l := some (i, ui)) (u := none) (st := none) hs rfl (post_val_or_str (fin _ _ q))
    | int j uj => exact wpAny_getItem_str_slice (l := some (i, ui)) (u := some (j, uj)) (st := none) hs rfl (post_val_or_str (fin _ _ q))
theorem call_int_text : CallR X (.type "int") (fun xs H Q => ∃ (x : Str) (n : Int), xs = [V.str x] ∧ PySem.intText? x = some n ∧ x.length ≤ 640 ∧ Q (.int n) H) := by
  intro pins s σ H xs us Q I r h
  obtain ⟨x, n, rfl, hn, hl, q⟩ := h
  obtain ⟨u, rfl, t, rfl⟩ := vals1 r
  exact PySem.W.KIN.call_text hn hl ⟨.int n, H, I.tok _, ⟨_, rfl⟩, q⟩
theorem mt_startswith : MtR X "str.startswith" (fun x xs H Q => ∃ z y : Str, x = .str z ∧ xs = [V.str y] ∧ Q (.bl (decide (0 + y.length ≤ z.length) && Builtin.Str.subAt z y 0)) H) := by
  intro pins s σ H x xs v us Q I rx rv h
  obtain ⟨z, y, rfl, rfl, q⟩ := h
  obtain ⟨t, rfl⟩ := rx
  obtain ⟨u, rfl, t', rfl⟩ := vals1 rv
  exact call_gives PySem.F.slot_str_startswith (typeIs_str s z t) PySem.F.entry_str_startswith (PySem.F.args_str_startswith_2 _ _) (gives_str_startswith z y t t') ⟨.bl _, H, I, rfl, q⟩
theorem inv_new {pins : List (Addr × Obj)} {σ : L2.St} {H : Hp} {s : Shared} {D : Addr} {h' : Heap} {o : HO} {t' : Nat} (I : Inv X pins σ H s) (k : ∀ b u, s.heap.get? b = some u → h'.get? b = some u) (hD : s.heap.get? D = none)
    (new : ObjOk X.prog X.w (upd H D o) h' D o) : Inv X pins σ (upd H D o) { s with heap := h', toks := t' } := by
  have nD := inv_none I hD
  have neD : ∀ b u, s.heap.get? b = some u → b ≠ D := fun b u e z => by rw [z, hD] at e; cases e
  refine I.un ⟨fun b u q _ _ _ => k b u q, fun b u q _ _ _ => ⟨u.slots, k b u q⟩, fun b u q n _ => by rw [upd_ne (neD b u q)]; exact n, fun b u q _ => ⟨u, k b u q⟩, fun b xs q => by rw [upd_ne (ne_of_none q nD)]; exact q,
    fun b u xs q => by rw [upd_ne (ne_of_none q nD)]; exact q, fun b ps q => ⟨#[], by rw [upd_ne (ne_of_none q nD), q]; simp⟩⟩ fun b u e => ?_
  by_cases hb : b = D
  · subst hb
    rw [upd_same] at e
    cases e
    exact new
  · rw [upd_ne hb] at e
    exact (I.hok b u e).stay (fun c v _ q => k c v q) (fun c q => by rw [upd_ne (ne_of_none q nD)]; exact q) fun c xs q => by rw [upd_ne (ne_of_none q nD)]; exact q
theorem vals_signs {f : Nat → V} : ∀ {cs : List Nat} {us zs : List Value}, (us.length = cs.length) → (∀ (i : Nat) u, us[i]? = some u → ∃ c t, cs[i]? = some c ∧ u = .str ⟨#[c]⟩ t) → Paired (fun u z => ∃ c, (∃ t, u = Value.str ⟨#[c]⟩ t) ∧ RelV (f c) z) us zs → Vals (cs.map f) zs
  | [], [], _, _, _, .nil => .nil
  | [], _ :: _, _, h, _, _ => by simp at h
  | _ :: _, [], _, h, _, _ => by simp at h
  | c :: cs, u :: us, _, h, g, .cons ⟨c', ⟨t', e'⟩, r⟩ q => by
    obtain ⟨c1, t1, e1, e2⟩ := g 0 u rfl
    have e1' : c = c1 := by simpa using e1
    subst e1'
    rw [e'] at e2
    have e3 : c' = c := by
      injection e2 with e4 _
      have e5 := congrArg (fun x : Str => x.cps.toList) e4
      simpa using e5
    subst e3
    exact .cons r (vals_signs (by simpa using h) (fun i u hu => by simpa using g (i + 1) u (by simpa using hu)) q)
theorem pe_compS {j : Nat} {x z : Str} {elt : Expr} {px pz : Pos} {scope : Scope} {pos : Pos} (hc : X.calm = true) (hj : X.N[j]? = some z) (hv : Vis X.env.scope z)
    (hfree : ∀ q ∈ scope.names, q.2 ≠ .free) (hcell : ∀ q ∈ scope.names, q.2 ≠ .cell) (hkind : scope.kind = .function)
    (hnames : ∀ q ∈ scope.names, q.2 = .local → scope.names.lookup q.1 = some .local) (hx : scope.names.lookup x = some .local)
    (hd : (z == ("__debug__" : Str)) = false := by decide) (hcd : (z == ("__classdict__" : Str)) = false := by decide) :
    PE X (.ListComp elt [⟨.Name x px, .Name z pz, [], 0⟩] scope pos) (fun σ H Q => ∃ (y : Str) (f : Nat → V), σ[j]? = some (some (.str y)) ∧ y.length ≤ sizeLine ∧ (∀ c ∈ y.cps.toList, EltOk X scope x elt H (.str ⟨#[c]⟩) (f c)) ∧
      ∀ p, H p = none → Q (.ref p) (upd H p (.lst (y.cps.toList.map f)))) := by
  constructor; intro pins s σ H Q I h
  obtain ⟨y, f, hσ, hz, hel, q⟩ := h
  refine wpAny_ListComp_free (cl := []) (fun _ => true) (fun u z => ∃ c, (∃ t, u = Value.str ⟨#[c]⟩ t) ∧ RelV (f c) z) (closureFor_none hfree) hcell hkind hnames hx
    (thn (pe_var hj hv hd hcd pins s σ H (fun v H1 => v = .str y ∧ H1 = H) I ⟨_, hσ, rfl, rfl⟩) fun v s1 ⟨vv, H1, I1, r1, e1, e2⟩ => ?_) (by intro _; rfl)
  subst e1 e2
  obtain ⟨t, rfl⟩ := r1
  refine wpAny_pyIter_str fun o St W st0 => ?_
  have I2 : Inv X pins σ H1 { s1 with heap := s1.heap.push o } := I1.kept (t' := s1.toks) fun b u e => Heap.get?_push_of_some _ e
  have hylen : y.cps.toList.length = y.length := by simp [Str.length]
  refine ⟨s1.heap.objs.size, [s1.heap.objs.size], [s1.heap.objs.size], y.cps.size, SignAt y, St, rfl, W _ (I1.ok.hd hc), hz, st0, fun b hb => ?_, ⟨fun C k v s₃ m₃ E' hC hP hns hm hk2 _ => wpAny_pure ⟨rfl, s₃.heap, s₃.toks, rfl, fun _ _ e => e⟩, fun C k v s₃ m₃ E' hC hP _ hns hm hk2 _ => ?_⟩, fun D' h' tk ys vs hD hL hPl hlv hPv hF hk2 => ?_⟩
  · have e : b = s1.heap.objs.size := by simpa using hb
    show b < (s1.heap.push o).objs.size
    rw [Heap.size_push, e]
    exact Nat.lt_succ_self _
  · obtain ⟨c, u, hcu, rfl⟩ := hP
    have hmem : c ∈ y.cps.toList := by
      rw [← Array.getElem?_toList] at hcu
      exact List.mem_of_getElem? hcu
    refine wpAny_mono (hel c hmem pins σ _ s₃ C m₃ _ E' I2 hC ⟨u, rfl⟩ hns hm (fun b o' hb e => ?_) (fun b o' e => ?_)) (fun z s₄ ⟨rz, ks⟩ => ⟨⟨c, ⟨u, rfl⟩, rz⟩, ks⟩) fun _ _ e => e
    · refine hk2 b o' (fun z => ?_) e
      have z' : b = s1.heap.objs.size := by simpa using z
      rw [z'] at hb
      exact hb (I1.hok.fresh (Nat.le_refl _))
    · have e2 := I1.bk b o' e
      exact hk2 b o' (fun z => by
        have z' : b = s1.heap.objs.size := by simpa using z
        exact absurd (Heap.lt_size e2) (by rw [z']; exact Nat.lt_irrefl _)) (Heap.get?_push_of_some _ e2)
  · rw [List.filter_eq_self.mpr (fun _ _ => rfl)] at hF
    have hlv' : vs.length = y.cps.toList.length := by rw [hlv]; simp
    have rv2 : Vals (y.cps.toList.map f) ys.toList := vals_signs hlv' (fun i u hu => by
      obtain ⟨c, t, e, e'⟩ := hPv i u hu
      exact ⟨c, t, by rw [Array.getElem?_toList]; exact e, e'⟩) hF
    have hD1 : s1.heap.get? D' = none := by
      cases qq : s1.heap.get? D' with
      | none => rfl
      | some o' =>
        have e2 : (s1.heap.push o).get? D' = some o' := Heap.get?_push_of_some _ qq
        rw [hD] at e2
        cases e2
    have nD := inv_none I1 hD1
    obtain ⟨n, zz⟩ := hPl
    refine ⟨.ref D', _, inv_new (s := s1) (t' := tk) (o := .lst (y.cps.toList.map f)) I1 (fun b u e => hk2 b u (fun z => ?_) (Heap.get?_push_of_some _ e)) hD1 ⟨by rw [List.length_map, hylen]; exact hz, ys.toList, n, rv2, by simpa using zz⟩, rfl, q D' nD⟩
    have z' : b = s1.heap.objs.size := by simpa using z
    exact absurd (Heap.lt_size e) (by rw [z']; exact Nat.lt_irrefl _)
theorem call_allL (hc : X.calm = true) : CallR X (.builtin "all") (fun xs H Q => ∃ (p : Addr) (bs : List Bool), xs = [V.ref p] ∧ SqL X.K H p (bs.map V.bl) ∧ Q (.bl (bs.all id)) H) := by
  intro pins s σ H xs us Q I r h
  obtain ⟨p, bs, rfl, hx, q⟩ := h
  obtain ⟨u, rfl, ru⟩ := vals1 r
  cases ru
  obtain ⟨its, rv, pl, _⟩ := I.list hx
  have hlen := rv.length
  rw [List.length_map] at hlen
  refine call_all_walk (wpAny_pyIter_list pl.isList ?_)
  have hne : p ≠ s.heap.objs.size := Nat.ne_of_lt (by obtain ⟨o, _, e, _⟩ := pl; exact Heap.lt_size e)
  refine ⟨s.heap.objs.size, [s.heap.objs.size, p], [s.heap.objs.size], its.toArray.size, _, _, fun i => bs.getD i true, rfl, Walks.list (A := X.A.in1) (I.ok.hd hc) s.heap.objs.size p hne its.toArray, ⟨⟨_, Heap.get?_push_size _ rfl, rfl, rfl⟩, pl.isList.push _⟩, fun i v s2 Q2 E2 hP hQ => ?_, fun h' tk hk => ?_⟩
  · have hP' : its[i]? = some v := by simpa using hP
    obtain ⟨xv, hx1, rx⟩ := vals_get' rv hP'
    rw [List.getElem?_map] at hx1
    cases hb : bs[i]? with
    | none => rw [hb] at hx1; cases hx1
    | some b =>
      rw [hb] at hx1
      have e : V.bl b = xv := Option.some.inj hx1
      subst e
      cases rx
      have e2 : bs.getD i true = b := by rw [List.getD_eq_getElem?_getD, hb]; rfl
      have hQ' : Q2 (bs.getD i true) s2 := hQ
      rw [e2] at hQ'
      exact wpAny_truthy_bool hQ'
  · have e : (List.range its.toArray.size).all (fun i => bs.getD i true) = bs.all id := by
      rw [List.size_toArray, ← hlen, Bool.eq_iff_iff, List.all_eq_true, List.all_eq_true]
      constructor
      · intro g b hb
        obtain ⟨i, hi, e⟩ := List.mem_iff_getElem.mp hb
        have := g i (List.mem_range.mpr hi)
        rw [List.getD_eq_getElem?_getD, List.getElem?_eq_getElem hi, e] at this
        exact this
      · intro g i hi
        have hi' := List.mem_range.mp hi
        rw [List.getD_eq_getElem?_getD, List.getElem?_eq_getElem hi']
        exact g _ (List.getElem_mem hi')
    rw [e]
    refine ⟨.bl (bs.all id), H, I.kept (t' := tk) fun b u eu => hk b u (fun z => ?_) (Heap.get?_push_of_some _ eu), rfl, q⟩
    have z' : b = s.heap.objs.size := by simpa using z
    exact absurd (Heap.lt_size eu) (by rw [z']; exact Nat.lt_irrefl _)
theorem elt_in_glob {scope : Scope} {x g : Str} {p1 p2 pos : Pos} {H : Hp} {c : Nat} {z : Str} {tk : Tok} (hkind : scope.kind = .function) (hx : scope.names.lookup x = some .local) (hg : scope.names.lookup g = some .globalImplicit) (hm : X.mg g = some (.str z tk))
    (hd : (x == ("__debug__" : Str)) = false := by decide) (hdg : (g == ("__debug__" : Str)) = false := by decide)
    (hrg : (compEnvC scope [] 0 X.env).kindOf g = some .globalImplicit := by rfl) :
    EltOk X scope x (.Compare (.Name x p1) [.In] [.Name g p2] pos) H (.str ⟨#[c]⟩) (.bl (decide (c ∈ z.cps.toList))) := by
  intro pins σ s s₃ C m₃ u E' I hC r hn hmx hk hb
  obtain ⟨t, rfl⟩ := r
  refine wpAny_Compare1 (wpAny_Name (wpAny_loadName_local (by simp [compEnvC, relabel, hkind]) (lookup_relabel_local hx) hn hmx ?_) hd) rfl
  refine Calls.Name_function_global (by simp [compEnvC, relabel, hkind]) hrg (Calls.loadGlobal_global (by show s₃.heap.Ns X.env.globals X.mg; rw [I.ok.glob]; exact I.ok.mod.glob.keeps hb) hm ?_) hdg
  refine in_str ?_
  rw [StrLaws.found_one]
  exact ⟨rfl, s₃.heap, s₃.toks, rfl, fun _ _ q => q⟩
end
end My
namespace My
open PySem PySem.Spec PyProof.Rows L2
section
variable {X : Cx}
end
end My
namespace My
open PySem PySem.Spec PyProof.Rows L2 PySem.NumText
noncomputable def dig (c : Nat) : Bool := decide (48 ≤ c ∧ c ≤ 57)
noncomputable def figsL : List Nat → List Nat
  | [] => []
  | c :: r => if c = 45 then r else c :: r
noncomputable def isFigs : List Nat → Bool
  | [] => false
  | c :: r => !decide (c = 48) && (decide ((c :: r).length ≤ 30) && (c :: r).all dig)
noncomputable def isNumL (cs : List Nat) : Bool := decide (cs = [48]) || isFigs (figsL cs)
noncomputable def isLetL : List Nat → Bool
  | [c] => decide (97 ≤ c ∧ c ≤ 122)
  | _ => false
noncomputable def numVal : List Nat → Int
  | [] => 0
  | c :: r => if c = 45 then -((digitsVal r : Nat) : Int) else ((digitsVal (c :: r) : Nat) : Int)
theorem all_dig {cs : List Nat} (h : cs.all dig = true) : AllDigits cs := fun c hc => of_decide_eq_true (List.all_eq_true.mp h c hc)
theorem dig_all {cs : List Nat} (h : AllDigits cs) : cs.all dig = true := List.all_eq_true.mpr fun c hc => decide_eq_true (h c hc)
theorem text_eq {x : Str} {cs : List Nat} (h : x.cps.toList = cs) (y : Str) (hy : y.cps.toList = cs) : x = y := ext_toList (h.trans hy.symm)
theorem len_codes (x : Str) : x.length = x.cps.toList.length := by simp [Str.length]
theorem int_of_num {x : Str} (hl : x.length ≤ 640) (h : isNumL x.cps.toList = true) : intText? x = some (numVal x.cps.toList) := by
  unfold isNumL at h
  rcases Bool.or_eq_true_iff.mp h with h | h
  · have e := of_decide_eq_true h
    have hd : AllDigits x.cps.toList := by rw [e]; intro c hc; have : c = 48 := by simpa using hc
                                           omega
    rw [intText_digits hd (by rw [e]; simp) (by omega), e]
    rfl
  · cases e : x.cps.toList with
    | nil => rw [e] at h; cases h
    | cons c r =>
      rw [e] at h
      by_cases hc : c = 45
      · have h' : isFigs r = true := by
          have : figsL (c :: r) = r := if_pos hc
          rw [this] at h
          exact h
        have hr : AllDigits r ∧ r ≠ [] := by
          cases r with
          | nil => cases h'
          | cons d q =>
            unfold isFigs at h'
            simp only [Bool.and_eq_true] at h'
            exact ⟨all_dig h'.2.2, by simp⟩
        rw [intText_neg (cs := r) (by rw [e, hc]) hr.1 hr.2 (by omega)]
        show _ = some (if c = 45 then _ else _)
        rw [if_pos hc]
      · have h' : isFigs (c :: r) = true := by
          have : figsL (c :: r) = c :: r := if_neg hc
          rw [this] at h
          exact h
        unfold isFigs at h'
        simp only [Bool.and_eq_true] at h'
        have hd : AllDigits x.cps.toList := by rw [e]; exact all_dig h'.2.2
        rw [intText_digits hd (by rw [e]; simp) (by omega), e]
        show _ = some (if c = 45 then _ else _)
        rw [if_neg hc]
theorem val_lt : ∀ (cs : List Nat) (a : Nat), AllDigits cs → cs.foldl (fun acc c => acc * 10 + (c - 48)) a < (a + 1) * 10 ^ cs.length
  | [], a, _ => by simp
  | c :: r, a, h => by
    have h1 := val_lt r (a * 10 + (c - 48)) h.tail
    have h2 := h.head
    rw [List.foldl_cons, List.length_cons, Nat.pow_succ]
    have h3 : (a * 10 + (c - 48) + 1) * 10 ^ r.length ≤ ((a + 1) * 10) * 10 ^ r.length := Nat.mul_le_mul_right _ (by omega)
    have h4 : (a + 1) * 10 * 10 ^ r.length = (a + 1) * (10 ^ r.length * 10) := by rw [Nat.mul_assoc, Nat.mul_comm 10]
    omega
theorem digits_all (m : Nat) : AllDigits ((Nat.toDigits 10 m).map Char.toNat) := by
  intro c hc
  obtain ⟨ch, hch, e⟩ := List.mem_map.mp hc
  rw [← e]
  have r := Nat.isDigit_of_mem_toDigits (by decide) (by decide) hch
  simp only [Char.isDigit, Bool.and_eq_true, decide_eq_true_eq, ge_iff_le] at r
  obtain ⟨r1, r2⟩ := r
  have a1 : (48 : UInt32).toNat ≤ ch.val.toNat := UInt32.le_iff_toNat_le.mp r1
  have a2 : ch.val.toNat ≤ (57 : UInt32).toNat := UInt32.le_iff_toNat_le.mp r2
  exact ⟨a1, a2⟩
theorem digits_figs {m : Nat} (h0 : 0 < m) (h1 : m < 10 ^ 30) : isFigs ((Nat.toDigits 10 m).map Char.toNat) = true := by
  have hd := digits_all m
  have hv := PySem.W.KIN.val_back m
  have hl := digits10_le (k := 30) (by decide) h1
  have hl' : ((Nat.toDigits 10 m).map Char.toNat).length ≤ 30 := by rw [List.length_map]; exact hl
  have hlm : ((Nat.toDigits 10 m).map Char.toNat).length = (Nat.toDigits 10 m).length := List.length_map ..
  cases e : (Nat.toDigits 10 m).map Char.toNat with
  | nil =>
    have := tDigits_len_ge 10 m
    rw [e] at hlm
    simp at hlm
    omega
  | cons c r =>
    rw [e] at hd hv hl' hlm
    unfold isFigs
    have hc : ¬ c = 48 := by
      intro hc
      subst hc
      have hv2 : digitsVal r = m := by rw [← hv]; rfl
      cases r with
      | nil =>
        have : digitsVal ([] : List Nat) = 0 := rfl
        omega
      | cons d q =>
        have h3 := val_lt (d :: q) 0 hd.tail
        have h4 : m < 10 ^ (d :: q).length := by
          have h5 : digitsVal (d :: q) < (0 + 1) * 10 ^ (d :: q).length := h3
          rw [hv2] at h5
          omega
        have h6 := digits10_le (k := (d :: q).length) (by simp) h4
        simp only [List.length_cons] at hlm h6
        omega
    simp only [decide_eq_false hc, decide_eq_true hl', dig_all hd, Bool.not_false, Bool.and_self]
theorem num_text {n : Int} (h1 : -(10 ^ 30) < n) (h2 : n < 10 ^ 30) : isNumL (Str.ofString (toString n)).cps.toList = true ∧ numVal (Str.ofString (toString n)).cps.toList = n ∧ (Str.ofString (toString n)).length ≤ 31 ∧ isLetL (Str.ofString (toString n)).cps.toList = false := by
  have hp : ((10 : Int) ^ 30) = ((10 ^ 30 : Nat) : Int) := by decide
  rcases Int.lt_or_le n 0 with hn | hn
  · obtain ⟨m, rfl⟩ : ∃ m : Nat, n = -((m : Nat) : Int) := ⟨n.natAbs, by omega⟩
    have m0 : 0 < m := by omega
    have m1 : m < 10 ^ 30 := by omega
    have e : (Str.ofString (toString (-((m : Nat) : Int)))).cps.toList = 45 :: (Nat.toDigits 10 m).map Char.toNat := by
      obtain ⟨k, rfl⟩ : ∃ k, m = k + 1 := ⟨m - 1, by omega⟩
      have e0 : toString (-(((k + 1 : Nat) : Nat) : Int)) = "-" ++ Nat.repr (k + 1) := rfl
      rw [e0, signs_ofString, String.toList_append, List.map_append, Nat.toList_repr]
      rfl
    have hf := digits_figs m0 m1
    have hl := digits10_le (k := 30) (by decide) m1
    refine ⟨?_, ?_, ?_, ?_⟩
    · rw [e]
      unfold isNumL
      have : figsL (45 :: (Nat.toDigits 10 m).map Char.toNat) = (Nat.toDigits 10 m).map Char.toNat := rfl
      rw [this, hf, Bool.or_true]
    · rw [e]
      show -((digitsVal ((Nat.toDigits 10 m).map Char.toNat) : Nat) : Int) = _
      rw [PySem.W.KIN.val_back]
    · rw [len_codes, e, List.length_cons, List.length_map]
      omega
    · rw [e]
      cases (Nat.toDigits 10 m).map Char.toNat <;> rfl
  · obtain ⟨m, rfl⟩ := Int.eq_ofNat_of_zero_le hn
    have m1 : m < 10 ^ 30 := by omega
    have e := PySem.W.KIN.signs_num m
    have hl := digits10_le (k := 30) (by decide) m1
    have hd := digits_all m
    have hv := PySem.W.KIN.val_back m
    refine ⟨?_, ?_, ?_, ?_⟩
    · rw [e]
      unfold isNumL
      by_cases m0 : m = 0
      · subst m0
        rfl
      · have hf := digits_figs (Nat.pos_of_ne_zero m0) m1
        cases q : (Nat.toDigits 10 m).map Char.toNat with
        | nil => rw [q] at hf; cases hf
        | cons c r =>
          rw [q] at hf hd
          have hc : ¬ c = 45 := by have := hd.head; omega
          have : figsL (c :: r) = c :: r := if_neg hc
          rw [this, hf, Bool.or_true]
    · rw [e]
      cases q : (Nat.toDigits 10 m).map Char.toNat with
      | nil =>
        rw [q] at hv
        show (0 : Int) = _
        have : digitsVal ([] : List Nat) = 0 := rfl
        omega
      | cons c r =>
        rw [q] at hv hd
        have hc : ¬ c = 45 := by have := hd.head; omega
        show (if c = 45 then _ else ((digitsVal (c :: r) : Nat) : Int)) = _
        rw [if_neg hc, hv]
    · rw [len_codes, e, List.length_map]
      omega
    · rw [e]
      cases q : (Nat.toDigits 10 m).map Char.toNat with
      | nil => rfl
      | cons c r =>
        rw [q] at hd
        cases r with
        | nil =>
          have := hd.head
          exact decide_eq_false (by omega)
        | cons _ _ => rfl
theorem starts_minus (x : Str) : (decide (0 + ("-" : Str).length ≤ x.length) && Builtin.Str.subAt x ("-" : Str) 0) = decide (x.cps.toList[0]? = some 45) := by
  have h := StrLaws.subAt_one x 45 0
  have e : ("-" : Str) = ⟨#[45]⟩ := by decide +kernel
  rw [e, Bool.eq_iff_iff]
  simp only [Bool.and_eq_true, decide_eq_true_eq]
  exact h
theorem slice_tail {x : Str} (h : 1 ≤ x.length) : (Txt.slice x (some 1) none).cps.toList = x.cps.toList.tail := by
  rw [slice_from_eq (x := x) (i := 1) (b := x.length) (by decide) (by omega) rfl]
  show ((x.cps.toList.drop 1).take ((x.length : Int) - 1).toNat) = _
  have hl := len_codes x
  rw [List.take_of_length_le (by rw [List.length_drop]; omega), List.drop_one]
end My
namespace My
open PySem PySem.Spec PyProof.Rows L2 PySem.NumText
theorem app_codes (a b : Str) : (a ++ b).cps.toList = a.cps.toList ++ b.cps.toList := by
  show (a.cps ++ b.cps).toList = _
  simp
theorem num_bad {cs : List Nat} {d : Nat} (hd : d ∈ figsL cs) (hn : dig d = false) (hne : ¬ cs = [48]) : isNumL cs = false := by
  unfold isNumL
  rw [decide_eq_false hne, Bool.false_or]
  cases e : figsL cs with
  | nil => rw [e] at hd; cases hd
  | cons c r =>
    rw [e] at hd
    have ha : (c :: r).all dig = false := by
      cases q : (c :: r).all dig with
      | false => rfl
      | true => rw [List.all_eq_true.mp q d hd] at hn; cases hn
    show (!decide (c = 48) && (decide ((c :: r).length ≤ 30) && (c :: r).all dig)) = false
    rw [ha, Bool.and_false, Bool.and_false]
theorem num_not {cs : List Nat} (hne : ¬ cs = [48]) : isNumL cs = isFigs (figsL cs) := by
  unfold isNumL
  rw [decide_eq_false hne, Bool.false_or]
theorem figL_list : ("0123456789" : Str).cps.toList = [48, 49, 50, 51, 52, 53, 54, 55, 56, 57] := by decide +kernel
theorem fig_dig (c : Nat) : decide (c ∈ ("0123456789" : Str).cps.toList) = dig c := by
  rw [figL_list]
  unfold dig
  rw [Bool.eq_iff_iff, decide_eq_true_eq, decide_eq_true_eq]
  constructor
  · intro h
    exact (show ∀ x ∈ [48, 49, 50, 51, 52, 53, 54, 55, 56, 57], 48 ≤ x ∧ x ≤ 57 by decide) c h
  · intro h
    exact (show ∀ x, x < 58 → 48 ≤ x → x ∈ [48, 49, 50, 51, 52, 53, 54, 55, 56, 57] by decide) c (Nat.lt_succ_of_le h.2) h.1
theorem zero_iff (x : Str) : x = "0" ↔ x.cps.toList = [48] := by
  have e : ("0" : Str).cps.toList = [48] := by decide +kernel
  constructor
  · intro h; rw [h]; exact e
  · intro h; exact text_eq h _ e
theorem empty_iff (x : Str) : x = "" ↔ x.cps.toList = [] := by
  have e : ("" : Str).cps.toList = [] := by decide +kernel
  constructor
  · intro h; rw [h]; exact e
  · intro h; exact text_eq h _ e
theorem one_zero (c : Nat) : (⟨#[c]⟩ : Str) = "0" ↔ c = 48 := by
  rw [zero_iff]
  simp
end My
namespace My
open PySem PySem.Spec PyProof.Rows L2 Builtin Builtin.ObjectAttr Builtin.Getset_descriptor
section
variable {prog : Program} {w : World} {A : Around} {E : Value → Shared → Prop} {h : Heap} {g : Array GenState} {d : Drawn} {t : Nat} {os : OsState} {a C : Addr} {o : Obj} {K : PySem.W.Frag}
end
end My
namespace My
open PySem PySem.Spec PyProof.Rows L2
section
variable {X : Cx}
end
end My
namespace My
open PySem PySem.Spec PyProof.Rows L2
section
variable {X : Cx} {pins : List (Addr × Obj)} {σ : L2.St} {H : Hp} {s : Shared}
end
end My
namespace My
open PySem PySem.Spec PyProof.Rows L2
noncomputable def Itf (ys : List V) : It := ⟨fun i _ => i < ys.length, fun i H x H' => H' = H ∧ ys[i]? = some x, fun i _ => ys.length ≤ i⟩
noncomputable abbrev vsigns (y : Str) : List V := y.cps.toList.map fun c => V.str ⟨#[c]⟩
theorem vsigns_len (y : Str) : (vsigns y).length = y.length := by simp [vsigns, Str.length]
theorem vsigns_get {y : Str} {i : Nat} : (vsigns y)[i]? = (y.cps[i]?).map fun c => V.str ⟨#[c]⟩ := by
  rw [List.getElem?_map, Array.getElem?_toList]
noncomputable abbrev strIt (y : Str) : String := if y.cps.all (· < 128) then "str_ascii_iterator" else "str_iterator"
noncomputable abbrev strItO (y : Str) (t : Tok) : Obj := { cls := .type (strIt y), data := .fields #[.str y t, .int 0 0] }
theorem pyIter_str' {prog : Program} {w : World} {A : Around} {E : Value → Shared → Prop} {s : Shared} {x : Str} {t : Tok} {Q : Value → Shared → Prop} (hQ : Q (.ref s.heap.objs.size) { s with heap := s.heap.push (strItO x t) }) : wpAny (model prog w) A (pyIter (.str x t)) Q E s := by
  cases ha : x.cps.all (· < 128) with
  | true =>
    have e : strIt x = "str_ascii_iterator" := if_pos ha
    unfold strItO at hQ
    rw [e] at hQ
    exact wpAny_pyIter_ascii ha hQ
  | false =>
    have e : strIt x = "str_iterator" := if_neg (by rw [ha]; decide)
    unfold strItO at hQ
    rw [e] at hQ
    exact wpAny_pyIter_wide ha hQ
section
variable {X : Cx} {tg : Expr}
end
structure Src (P : Program) (w : World) (K : PySem.W.Frag) (J : It) (it : Addr) (st : Nat → Heap → Prop) : Prop where
  obj : ∀ i h, st i h → ∃ o, h.get? it = some o ∧ ∀ v, o.data ≠ .cell v
  keep : ∀ i h h', st i h → (∀ o, h.get? it = some o → h'.get? it = some o) → st i h'
  item : ∀ (X : Cx), X.prog = P → X.w = w → X.K = K → ∀ (A : Around) (i : Nat) (pins : List (Addr × Obj)) (s : Shared) (σ : L2.St) (H : Hp) (Q : Value → Shared → Prop) (E : Value → Shared → Prop), Inv X pins σ H s → st i s.heap → J.go i H →
    (∀ x u h' tk, RelV x u → J.yld i H x H → st (i + 1) h' → Heap.SameBut it s.heap h' → Q u { s with heap := h', toks := tk }) → wpAny (model P w) A (Builtin.SmallTypes.nextOf (.ref it)) Q E s
  done : ∀ (X : Cx), X.prog = P → X.w = w → X.K = K → ∀ (A : Around), A.handled = none → ∀ (i : Nat) (pins : List (Addr × Obj)) (s : Shared) (σ : L2.St) (H : Hp) (Q : Value → Shared → Prop) (E : Value → Shared → Prop), Inv X pins σ H s → st i s.heap → J.stop i H →
    (∀ h' e, Heap.ExtBut it s.heap h' → (∃ o, h'.get? e = some o ∧ o.cls = .type "StopIteration") → E (.ref e) { s with heap := h' }) → wpAny (model P w) A (Builtin.SmallTypes.nextOf (.ref it)) Q E s
section
variable {P : Program} {w : World} {K : PySem.W.Frag}
theorem src_list (a it : Addr) : Src P w K (Itl K a) it (fun i h => h.IsListIter it a i) where
  obj := fun i h st => by
    obtain ⟨o, e, c, d⟩ := st
    exact ⟨o, e, fun v z => by rw [d] at z; cases z⟩
  keep := fun i h h' st k => st.at fun o e => k o e
  item := by
    intro X hP hw hK A i pins s σ H Q E I st hg hQ
    subst hP hw hK
    obtain ⟨xs, x, hq, hx⟩ := hg
    obtain ⟨its, rv, p, hz⟩ := I.list hq
    obtain ⟨u, hu, ru⟩ := rv.get hx
    exact wpAny_nextOf_list_item st p.isList (x := u) (by simpa using hu) fun h' st' sb => hQ x u h' s.toks ru ⟨rfl, fun ys hy => by rw [I.list_inj hy hq]; exact hx⟩ st' sb
  done := by
    intro X hP hw hK A hA i pins s σ H Q E I st hg hE
    subst hP hw hK
    obtain ⟨xs, hq, hx⟩ := hg
    obtain ⟨its, rv, p, hz⟩ := I.list hq
    have hl := rv.length
    exact wpAny_nextOf_list_end hA st p.isList (by simp; omega) hE
theorem src_str (y : Str) (t : Tok) (it : Addr) : Src P w K (Itf (vsigns y)) it (fun i h => h.IsStrIter it (strIt y) y t i) where
  obj := fun i h st => by
    obtain ⟨o, e, c, d⟩ := st
    exact ⟨o, e, fun v z => by rw [d] at z; cases z⟩
  keep := fun i h h' st k => let ⟨o, ho, r⟩ := st; ⟨o, k o ho, r⟩
  item := by
    intro X hP hw hK A i pins s σ H Q E I st hg hQ
    subst hP hw hK
    have hi : i < y.cps.size := by have : i < (vsigns y).length := hg; rw [vsigns_len] at this; exact this
    have yl : (Itf (vsigns y)).yld i H (.str ⟨#[y.cps[i]]⟩) H := ⟨rfl, by rw [vsigns_get, Array.getElem?_eq_getElem hi]; rfl⟩
    cases ha : y.cps.all (· < 128) with
    | true =>
      have e : strIt y = "str_ascii_iterator" := if_pos ha
      rw [e] at st hQ
      exact wpAny_nextOf_ascii_item st (c := y.cps[i]) (by simp [hi]) fun h' st' sb => hQ (.str ⟨#[y.cps[i]]⟩) _ h' _ ⟨_, rfl⟩ yl st' sb
    | false =>
      have e : strIt y = "str_iterator" := if_neg (by rw [ha]; decide)
      rw [e] at st hQ
      exact wpAny_nextOf_wide_item st (c := y.cps[i]) (by simp [hi]) fun h' st' sb => hQ (.str ⟨#[y.cps[i]]⟩) _ h' _ ⟨_, rfl⟩ yl st' sb
  done := by
    intro X hP hw hK A hA i pins s σ H Q E I st hg hE
    subst hP hw hK
    have hi : y.cps[i]? = none := by have : (vsigns y).length ≤ i := hg; rw [vsigns_len] at this; exact Array.getElem?_eq_none this
    cases ha : y.cps.all (· < 128) with
    | true =>
      have e : strIt y = "str_ascii_iterator" := if_pos ha
      rw [e] at st
      exact wpAny_nextOf_ascii_end hA st hi hE
    | false =>
      have e : strIt y = "str_iterator" := if_neg (by rw [ha]; decide)
      rw [e] at st
      exact wpAny_nextOf_wide_end hA st hi hE

theorem nextOf_tuple {A : Around} {s : Shared} {E : Value → Shared → Prop} {it l : Addr} {i : Nat} {its : Array Value} {Q : Value → Shared → Prop} (st : s.heap.IsTupleIter it l i) (tp : s.heap.IsTuple l its)
    (hs : ∀ x g, its[i]? = some x → g.IsTupleIter it l (i + 1) → Heap.SameBut it s.heap g → Q x { s with heap := g })
    (hn : its[i]? = none → A.handled = none ∧ ∀ g e, Heap.ExtBut it s.heap g → (∃ o, g.get? e = some o ∧ o.cls = .type "StopIteration") → E (.ref e) { s with heap := g }) :
    wpAny (model P w) A (Builtin.SmallTypes.nextOf (.ref it)) Q E s := by
  obtain ⟨oi, ei, ci, di⟩ := id st
  obtain ⟨ot, et, _, nt, dt⟩ := id tp
  have new : ∀ k v, Heap.SameBut it s.heap (s.heap.update it (Obj.mapFields (·.setIfInBounds k v))) := fun _ _ => Heap.SameBut.update ..
  refine wpAny_bind (wpAny_callSpecial?_slot (name := Str.ofString "__next__") st.typeIs F.slot_tuple_iterator_next (wpAny_call_entry F.slot_tuple_iterator_next st.typeIs F.entry_tuple_iterator_next ?_ (F.args_tuple_iterator_next_1 _)))
  refine wpAny_bind (wpAny_of_eq (a := (Value.ref it, [])) rfl (wpAny_bind (wpAny_field ei di (x := .ref l) rfl ?_)))
  have nn : (Value.ref l == Value.none) = false := rfl
  dsimp only
  rw [nn, if_neg Bool.false_ne_true]
  refine wpAny_bind (wpAny_field ei di (x := .int i 0) rfl (wpAny_bind (wpAny_seqItems et dt ?_)))
  dsimp only
  rw [Int.toNat_natCast]
  cases q : its[i]? with
  | some x =>
    refine wpAny_bind (wpAny_setField ei di (by simp) (wpAny_pure ⟨x, rfl, wpAny_pure (hs x _ q ?_ (new 1 _))⟩))
    refine ⟨_, Heap.get?_update_self _ ei (Obj.isFreed_of_fields (Obj.data_mapFields di _)), ?_, ?_⟩
    · rw [Obj.cls_mapFields]; exact ci
    · rw [Obj.data_mapFields di]
      simp [rawInt]
  | none =>
    obtain ⟨hA, f⟩ := hn q
    refine wpAny_bind (wpAny_rule (wpAny_bind (wpAny_setField ei di (by simp) (wpAny_bind (m := newExc _ _) ?_))))
    unfold newExc newTuple
    refine wpAny_bind (wpAny_newObj_type (wpAny_bind (m := firstArgMember _ _) (wpAny_of_eq (a := Value.none) rfl (wpAny_newObj_type (wpAny_raiseNew_none hA (f _ _ (((new 0 _).extBut.push _).push _) ⟨_, Heap.get?_push_size _ rfl, rfl⟩)) (by size_fits)))) (by size_fits))
theorem src_tuple (a it : Addr) : Src P w K (Itt K a) it (fun i h => h.IsTupleIter it a i) where
  obj := fun i h st => by
    obtain ⟨o, e, c, d⟩ := st
    exact ⟨o, e, fun v z => by rw [d] at z; cases z⟩
  keep := fun i h h' st k => st.at fun o e => k o e
  item := by
    intro X hP hw hK A i pins s σ H Q E I st hg hQ
    subst hP hw hK
    obtain ⟨xs, x, hq, hx⟩ := hg
    obtain ⟨its, rv, p, hz⟩ := I.tuple hq
    obtain ⟨u, hu, ru⟩ := rv.get hx
    have hu' : its.toArray[i]? = some u := by simpa using hu
    refine nextOf_tuple st (show s.heap.IsTuple a its.toArray from p) (fun y g hy st' sb => ?_) (fun z => by rw [hu'] at z; cases z)
    have e : u = y := Option.some.inj (hu'.symm.trans hy)
    subst e
    exact hQ x u g s.toks ru ⟨rfl, fun ys hy => by rw [I.tuple_inj hy hq]; exact hx⟩ st' sb
  done := by
    intro X hP hw hK A hA i pins s σ H Q E I st hg hE
    subst hP hw hK
    obtain ⟨xs, hq, hx⟩ := hg
    obtain ⟨its, rv, p, hz⟩ := I.tuple hq
    have hl := rv.length
    have hn : its.toArray[i]? = none := by simp; omega
    exact nextOf_tuple st (show s.heap.IsTuple a its.toArray from p) (fun y g hy _ _ => by rw [hn] at hy; cases hy) fun _ => ⟨hA, hE⟩
theorem zip_draws {A : Around} {E : Value → Shared → Prop} {s : Shared} {z TI TO i1 i2 : Addr} {Q : Fin → Shared → Prop} (hz : IsZip s.heap z TI TO .none) (hTI : IsPair s.heap TI (.ref i1) (.ref i2))
    (h : ∀ g1, IsZip g1 z TI TO .ellipsis → Heap.SameBut z s.heap g1 →
      wpAny (model P w) A (Builtin.SmallTypes.nextOf (.ref i1)) (fun x s2 => ∃ a b, IsPair s2.heap TO a b ∧ ∀ g3, IsPair g3 TO x b → Heap.SameBut TO s2.heap g3 →
        wpAny (model P w) A (Builtin.SmallTypes.nextOf (.ref i2)) (fun y s4 => IsPair s4.heap TO x b ∧ ∀ g5, IsPair g5 TO x y → Heap.SameBut TO s4.heap g5 → IsZip g5 z TI TO .ellipsis ∧
            ∀ g7 g8, Heap.SameBut z (g5.push { cls := .type "tuple", data := .seq #[x, y] }) g7 → Heap.SameBut z g7 g8 → IsZip g8 z TI TO (rawInt g5.objs.size) → Q (.done (.ret (.ref g5.objs.size))) { s4 with heap := g8 })
          (fun e s4 => IsZip s4.heap z TI TO .ellipsis ∧ ∀ g5, Heap.SameBut z s4.heap g5 → E e { s4 with heap := g5 }) { s2 with heap := g3 })
        (fun e s2 => IsZip s2.heap z TI TO .ellipsis ∧ ∀ g3, Heap.SameBut z s2.heap g3 → E e { s2 with heap := g3 }) { s with heap := g1 }) :
    wpAny (model P w) A (Builtin.«zip.__next__» ⟨[.ref z], []⟩) Q E s := by
  have free : wpAny (model P w) A (Builtin.SmallTypes.ownedTupleIsFree (.ref z)) (fun b s' => b = true ∧ s' = s) E s := by
    unfold Builtin.SmallTypes.ownedTupleIsFree
    exact wpAny_bind (wpAny_field hz rfl rfl (wpAny_pure ⟨rfl, rfl⟩))
  refine wpAny_bind (wpAny_of_eq (a := (Value.ref z, [])) rfl ?_)
  refine wpAny_bind (wpAny_field hz rfl (x := .bool false) rfl (wpAny_bind (wpAny_field hz rfl (x := .ref TI) rfl (wpAny_bind (wpAny_seqItems hTI rfl (wpAny_bind (thn free fun b s' hb => ?_)))))))
  obtain ⟨rfl, rfl⟩ := hb
  refine wpAny_bind (wpAny_rule (wpAny_bind (wpAny_field hz rfl (x := .ref TO) rfl (wpAny_bind (wpAny_setField_rec hz (by simp) fun g1 q1 k1 => wpAny_bind ?_)))))
  simp only [List.zipIdx_cons, List.zipIdx_nil, List.forIn_cons, List.forIn_nil]
  refine wpAny_bind (wpAny_bind (wpAny_onRaise (wpAny_bind (wpAny_mono (h g1 q1 k1) (fun x s2 d1 => ?_) fun e s2 ⟨q2, f2⟩ => wpAny_setField_rec q2 (by simp) fun g3 _ k3 => f2 g3 k3))))
  obtain ⟨a, b, t2, d1⟩ := d1
  refine wpAny_pure (wpAny_bind (wpAny_seqItems t2 rfl (wpAny_bind (wpAny_updateSeq_pair t2 fun g3 t3 k3 => wpAny_bind (wpAny_letGo (wpAny_pure (wpAny_bind (wpAny_bind (wpAny_onRaise ?_)))))))))
  refine wpAny_bind (wpAny_mono (d1 g3 t3 k3) (fun y s4 d2 => ?_) fun e s4 ⟨q4, f4⟩ => wpAny_setField_rec q4 (by simp) fun g5 _ k5 => f4 g5 k5)
  obtain ⟨t4, d2⟩ := d2
  refine wpAny_pure (wpAny_bind (wpAny_seqItems t4 rfl (wpAny_bind (wpAny_updateSeq_pair t4 fun g5 t5 k5 => wpAny_bind (wpAny_letGo (wpAny_pure (wpAny_pure (wpAny_bind (wpAny_seqItems t5 rfl (wpAny_bind (wpAny_newTuple ?_ (by show 2 ≤ sizeLine; decide))))))))))))
  obtain ⟨q5, d2⟩ := d2 g5 t5 k5
  have out : wpAny (model P w) A (Builtin.SmallTypes.ownedTupleHandOut (.ref z) (.ref g5.objs.size)) (fun _ s' => Q (.done (.ret (.ref g5.objs.size))) s') E { s4 with heap := g5.push { cls := .type "tuple", data := .seq #[x, y] } } := by
    unfold Builtin.SmallTypes.ownedTupleHandOut
    refine wpAny_bind (wpAny_setField_rec (Heap.get?_push_of_some _ q5) (by simp) fun g7 q7 k7 => wpAny_setField_rec q7 (by simp) fun g8 q8 k8 => d2 g7 g8 k7 k8 ?_)
    exact q8
  exact wpAny_bind (thn out fun _ s' q => wpAny_pure q)
noncomputable def ItZ (J1 J2 : It) : It := ⟨fun i H => J1.go i H ∧ J2.go i H, fun i H v H' => ∃ p x y, J1.yld i H x H ∧ J2.yld i H y H ∧ v = .ref p ∧ H p = none ∧ H' = upd H p (.tup [x, y]), fun i H => J1.stop i H ∨ (J1.go i H ∧ J2.stop i H)⟩
structure ZipAp (z TI TO i1 i2 : Addr) : Prop where
  TIz : TI ≠ z
  TOz : TO ≠ z
  i1z : i1 ≠ z
  i2z : i2 ≠ z
  TITO : TI ≠ TO
  TIi1 : TI ≠ i1
  TIi2 : TI ≠ i2
  TOi1 : TO ≠ i1
  TOi2 : TO ≠ i2
  i12 : i1 ≠ i2
theorem zipAp_of (n : Nat) : ZipAp (n + 4) (n + 2) (n + 3) n (n + 1) := by
  constructor <;> (intro h; first | exact absurd (show n + 2 = n + 4 from h) (by omega) | exact absurd (show n + 3 = n + 4 from h) (by omega) | exact absurd (show n = n + 4 from h) (by omega) | exact absurd (show n + 1 = n + 4 from h) (by omega) | exact absurd (show n + 2 = n + 3 from h) (by omega) | exact absurd (show n + 2 = n from h) (by omega) | exact absurd (show n + 2 = n + 1 from h) (by omega) | exact absurd (show n + 3 = n from h) (by omega) | exact absurd (show n + 3 = n + 1 from h) (by omega) | exact absurd (show n = n + 1 from h) (by omega))
theorem turn_zip {J1 J2 : It} {z TI TO i1 i2 : Addr} {st1 st2 : Nat → Heap → Prop} (D : ZipAp z TI TO i1 i2) (S1 : Src P w K J1 i1 st1) (S2 : Src P w K J2 i2 st2) {elts : List Expr} {kk : Nat} {tpos : Pos} :
    Turn P w K (.Tuple elts kk tpos) (ItZ J1 J2) [z, TI, TO, i1, i2] z (fun i h => IsZip h z TI TO .none ∧ IsPair h TI (.ref i1) (.ref i2) ∧ (∃ a b, IsPair h TO a b) ∧ st1 i h ∧ st2 i h) where
  mem := by simp
  obj := fun i h ⟨hz, hTI, ⟨a, b, hTO⟩, h1, h2⟩ c hc => by
    simp only [List.mem_cons, List.not_mem_nil, or_false] at hc
    rcases hc with e | e | e | e | e
    · rw [e]; exact ⟨_, hz, fun v z => by simp at z⟩
    · rw [e]; exact ⟨_, hTI, fun v z => by simp at z⟩
    · rw [e]; exact ⟨_, hTO, fun v z => by simp at z⟩
    · rw [e]; exact S1.obj i h h1
    · rw [e]; exact S2.obj i h h2
  keep := fun i h h' ⟨hz, hTI, ⟨a, b, hTO⟩, h1, h2⟩ k => ⟨k z (by simp) _ hz, k TI (by simp) _ hTI, ⟨a, b, k TO (by simp) _ hTO⟩, S1.keep i h h' h1 (k i1 (by simp)), S2.keep i h h' h2 (k i2 (by simp))⟩
  item := by
    intro X hP hw hK hc i pins s σ H E I hf st hg
    subst hP hw hK
    obtain ⟨hz, hTI, ⟨a, b, hTO⟩, h1, h2⟩ := st
    have ty : s.TypeIs (.ref z) "zip" := ⟨_, hz, rfl⟩
    have tz : ∀ {s' : Shared} {H' : Hp} {h' : Heap} {t' : Nat} {it : Addr}, it ∈ [z, TI, TO, i1, i2] → H' it = none → Inv X pins σ H' s' → Heap.SameBut it s'.heap h' → Inv X pins σ H' { s' with heap := h', toks := t' } := fun {s' H' h' t' it} hm hn I' sb => by
      obtain ⟨f0, f1, f2, f3, f4, f5⟩ := hf it hm
      exact I'.turned (fun b o hb e => (sb.2 b hb).trans e) hn f1 f3 f4 f5
    have fz := (hf z (by simp)).1
    refine wpAny_bind (wpAny_attempt (wpAny_callSpecial?_slot (name := Str.ofString "__next__") ty F.slot_zip_next (wpAny_call_entry F.slot_zip_next ty F.entry_zip_next (zip_draws hz hTI fun u1 q1 k1 => ?_) (F.args_zip_next_1 _))))
    have I1 : Inv X pins σ H { s with heap := u1 } := tz (t' := s.toks) (by simp) fz I k1
    refine S1.item X rfl rfl rfl _ i pins { s with heap := u1 } σ H _ _ I1 (S1.keep i _ _ h1 fun o e => k1.extBut _ _ D.i1z e) hg.1 fun x ux u2 t2 rx y1 st1' k2 => ⟨a, b, k2.extBut _ _ D.TOi1 (k1.extBut _ _ D.TOz hTO), fun u3 p3 k3 => ?_⟩
    have I2 : Inv X pins σ H { s with heap := u2, toks := t2 } := tz (it := i1) (s' := { s with heap := u1 }) (by simp) (hf i1 (by simp)).1 I1 k2
    have I3 : Inv X pins σ H { s with heap := u3, toks := t2 } := tz (it := TO) (s' := { s with heap := u2, toks := t2 }) (by simp) (hf TO (by simp)).1 I2 k3
    refine S2.item X rfl rfl rfl _ i pins { s with heap := u3, toks := t2 } σ H _ _ I3 (S2.keep i _ _ h2 fun o e => k3.extBut _ _ D.TOi2.symm (k2.extBut _ _ D.i12.symm (k1.extBut _ _ D.i2z e))) hg.2 fun y uy u4 t4 ry y2 st2' k4 => ⟨k4.extBut _ _ D.TOi2 p3, fun u5 p5 k5 => ?_⟩
    have I4 : Inv X pins σ H { s with heap := u4, toks := t4 } := tz (it := i2) (s' := { s with heap := u3, toks := t2 }) (by simp) (hf i2 (by simp)).1 I3 k4
    have I5 : Inv X pins σ H { s with heap := u5, toks := t4 } := tz (it := TO) (s' := { s with heap := u4, toks := t4 }) (by simp) (hf TO (by simp)).1 I4 k5
    have all : ∀ c o, c ≠ z → c ≠ TO → c ≠ i1 → c ≠ i2 → s.heap.get? c = some o → u5.get? c = some o := fun c o n1 n2 n3 n4 e => k5.extBut _ _ n2 (k4.extBut _ _ n4 (k3.extBut _ _ n2 (k2.extBut _ _ n3 (k1.extBut _ _ n1 e))))
    have q5 : IsZip u5 z TI TO .ellipsis := k5.extBut _ _ D.TOz.symm (k4.extBut _ _ D.i2z.symm (k3.extBut _ _ D.TOz.symm (k2.extBut _ _ D.i1z.symm q1)))
    refine ⟨q5, fun u7 u8 k7 k8 q8 => ⟨_, rfl, wpAny_pure ⟨_, rfl, wpAny_letOwnedTupleGo_zip q8 fun u9 q9 k9 => ?_⟩⟩⟩
    have lt : ∀ c ∈ [z, TI, TO, i1, i2], c < u5.objs.size := fun c hc => by
      simp only [List.mem_cons, List.not_mem_nil, or_false] at hc
      rcases hc with e | e | e | e | e
      · rw [e]; exact Heap.lt_size q5
      · rw [e]; exact Heap.lt_size (all _ _ D.TIz D.TITO D.TIi1 D.TIi2 hTI)
      · rw [e]; exact Heap.lt_size p5
      · rw [e]; obtain ⟨o, eo, _⟩ := S1.obj _ _ st1'; exact Heap.lt_size (k5.extBut _ _ D.TOi1.symm (k4.extBut _ _ D.i12 (k3.extBut _ _ D.TOi1.symm eo)))
      · rw [e]; obtain ⟨o, eo, _⟩ := S2.obj _ _ st2'; exact Heap.lt_size (k5.extBut _ _ D.TOi2.symm eo)
    have nT : u5.get? u5.objs.size = none := Heap.get?_none_of_le (Nat.le_refl _)
    have I6 : Inv X pins σ (upd H u5.objs.size (.tup [x, y])) { s with heap := u5.push { cls := .type "tuple", data := .seq #[ux, uy] }, toks := t4 } :=
      inv_new (s := { s with heap := u5, toks := t4 }) I5 (fun b u e => Heap.get?_push_of_some _ e) nT ⟨by show 2 ≤ sizeLine; decide, [ux, uy], .cons rx (.cons ry .nil), _, Heap.get?_push_size _ rfl, rfl, _, rfl⟩
    have nz : (upd H u5.objs.size (.tup [x, y])) z = none := by rw [upd_ne (Nat.ne_of_lt (lt z (by simp)))]; exact fz
    have I7 : Inv X pins σ (upd H u5.objs.size (.tup [x, y])) { s with heap := u7, toks := t4 } := tz (it := z) (s' := { s with heap := u5.push { cls := .type "tuple", data := .seq #[ux, uy] }, toks := t4 }) (by simp) nz I6 k7
    have I8 : Inv X pins σ (upd H u5.objs.size (.tup [x, y])) { s with heap := u8, toks := t4 } := tz (it := z) (s' := { s with heap := u7, toks := t4 }) (by simp) nz I7 k8
    have I9 : Inv X pins σ (upd H u5.objs.size (.tup [x, y])) { s with heap := u9, toks := t4 } := tz (it := z) (s' := { s with heap := u8, toks := t4 }) (by simp) nz I8 k9
    have up : ∀ c o, c ≠ z → u5.get? c = some o → u9.get? c = some o := fun c o n e => k9.extBut _ _ n (k8.extBut _ _ n (k7.extBut _ _ n (Heap.get?_push_of_some _ e)))
    refine ⟨.ref u5.objs.size, _, I9, rfl, ⟨u5.objs.size, x, y, y1, y2, rfl, inv_none I5 nT, rfl⟩, ⟨q9, up _ _ D.TIz (all _ _ D.TIz D.TITO D.TIi1 D.TIi2 hTI), ⟨_, _, up _ _ D.TOz p5⟩,
      S1.keep _ _ _ st1' fun o e => up _ o D.i1z (k5.extBut _ _ D.TOi1.symm (k4.extBut _ _ D.i12 (k3.extBut _ _ D.TOi1.symm e))), S2.keep _ _ _ st2' fun o e => up _ o D.i2z (k5.extBut _ _ D.TOi2.symm e)⟩, fun c hc => ?_⟩
    rw [upd_ne (Nat.ne_of_lt (lt c hc))]
    exact (hf c hc).1
  done := by
    intro X hP hw hK hc i pins s σ H E I hf st hg
    subst hP hw hK
    obtain ⟨hz, hTI, ⟨a, b, hTO⟩, h1, h2⟩ := st
    have hh : X.A.in1.handled = none := I.ok.hd hc
    have ty : s.TypeIs (.ref z) "zip" := ⟨_, hz, rfl⟩
    have tz : ∀ {s' : Shared} {h' : Heap} {t' : Nat} {it : Addr}, it ∈ [z, TI, TO, i1, i2] → Inv X pins σ H s' → (∀ b o, b ≠ it → s'.heap.get? b = some o → h'.get? b = some o) → Inv X pins σ H { s' with heap := h', toks := t' } := fun {s' h' t' it} hm I' sb => by
      obtain ⟨f0, f1, f2, f3, f4, f5⟩ := hf it hm
      exact I'.turned sb f0 f1 f3 f4 f5
    have same : ∀ {it : Addr} {g h : Heap}, Heap.SameBut it g h → ∀ b o, b ≠ it → g.get? b = some o → h.get? b = some o := fun sb b o hb e => (sb.2 b hb).trans e
    refine wpAny_bind (wpAny_attempt (wpAny_callSpecial?_slot (name := Str.ofString "__next__") ty F.slot_zip_next (wpAny_call_entry F.slot_zip_next ty F.entry_zip_next (zip_draws hz hTI fun u1 q1 k1 => ?_) (F.args_zip_next_1 _))))
    have I1 : Inv X pins σ H { s with heap := u1 } := tz (it := z) (t' := s.toks) (by simp) I (same k1)
    have st1 := S1.keep i _ _ h1 fun o e => k1.extBut _ _ D.i1z e
    have ended : ∀ {g : Heap} {tk : Nat} {e : Addr}, Inv X pins σ H { s with heap := g, toks := tk } → IsZip g z TI TO .ellipsis → (∃ o, g.get? e = some o ∧ o.cls = .type "StopIteration") → IsZip g z TI TO .ellipsis ∧ ∀ g5, Heap.SameBut z g g5 →
        wpAny (model X.prog X.w) X.A ((do if ← isInstance (.ref e) (.type "StopIteration") then return none else throw (.ref e)) : Sem (Option Value)) (fun r s1 => r = none ∧ Inv X pins σ H s1) E { s with heap := g5, toks := tk } := fun {g tk e} I' q ⟨o, eo, co⟩ => ⟨q, fun g5 k5 => by
      have ne : e ≠ z := fun y => by rw [y, q] at eo; cases eo; simp at co
      exact wpAny_bind (wpAny_isInstance (T := "StopIteration") (b := true) ⟨o, k5.extBut _ _ ne eo, co⟩ isSubtype_stop (wpAny_pure ⟨rfl, tz (it := z) (s' := { s with heap := g, toks := tk }) (by simp) I' (same k5)⟩))⟩
    rcases hg with e1 | ⟨g1, e2⟩
    · exact S1.done X rfl rfl rfl _ hh i pins { s with heap := u1 } σ H _ _ I1 st1 e1 fun u2 e k2 he => ended (tk := s.toks) (tz (it := i1) (s' := { s with heap := u1 }) (by simp) I1 k2) (k2 _ _ D.i1z.symm q1) he
    · refine S1.item X rfl rfl rfl _ i pins { s with heap := u1 } σ H _ _ I1 st1 g1 fun x ux u2 t2 rx y1 st1' k2 => ⟨a, b, k2.extBut _ _ D.TOi1 (k1.extBut _ _ D.TOz hTO), fun u3 p3 k3 => ?_⟩
      have I2 : Inv X pins σ H { s with heap := u2, toks := t2 } := tz (it := i1) (s' := { s with heap := u1 }) (by simp) I1 (same k2)
      have I3 : Inv X pins σ H { s with heap := u3, toks := t2 } := tz (it := TO) (s' := { s with heap := u2, toks := t2 }) (by simp) I2 (same k3)
      refine S2.done X rfl rfl rfl _ hh i pins { s with heap := u3, toks := t2 } σ H _ _ I3 (S2.keep i _ _ h2 fun o e => k3.extBut _ _ D.TOi2.symm (k2.extBut _ _ D.i12.symm (k1.extBut _ _ D.i2z e))) e2 fun u4 e k4 he => ?_
      exact ended (tk := t2) (tz (it := i2) (s' := { s with heap := u3, toks := t2 }) (by simp) I3 k4) (k4 _ _ D.i2z.symm (k3.extBut _ _ D.TOz.symm (k2.extBut _ _ D.i1z.symm q1))) he
  self := fun _ _ _ _ _ st h => wpAny_pyIter_zip st.1 h

inductive SrcV (h : Heap) : Value → Obj → Prop where
  | list {l : Addr} {xs : Array Value} (e : h.IsList l xs) : SrcV h (.ref l) { cls := .type "list_iterator", data := .fields #[.ref l, .int 0 0] }
  | tup {l : Addr} {xs : Array Value} (e : h.IsTuple l xs) : SrcV h (.ref l) { cls := .type "tuple_iterator", data := .fields #[.ref l, .int 0 0] }
  | str (y : Str) (t : Tok) : SrcV h (.str y t) (strItO y t)
theorem SrcV.keep {h h' : Heap} {u : Value} {o : Obj} (x : SrcV h u o) (k : ∀ b o, h.get? b = some o → h'.get? b = some o) : SrcV h' u o := by
  cases x with
  | list e => exact .list (e.at fun o q => k _ o q)
  | tup e => obtain ⟨o, e, r⟩ := e; exact .tup ⟨o, k _ _ e, r⟩
  | str y t => exact .str y t
theorem pyIter_src {A : Around} {E : Value → Shared → Prop} {s : Shared} {u : Value} {o : Obj} {Q : Value → Shared → Prop} (x : SrcV s.heap u o) (h : Q (.ref s.heap.objs.size) { s with heap := s.heap.push o }) : wpAny (model P w) A (pyIter u) Q E s := by
  cases x with
  | list e => exact wpAny_pyIter_list e h
  | tup e => exact wpAny_pyIter_tuple e h
  | str y t => exact pyIter_str' h
noncomputable abbrev zA (h : Heap) (o1 : Obj) : Heap := h.push o1
noncomputable abbrev zB (h : Heap) (o1 o2 : Obj) : Heap := (zA h o1).push o2
noncomputable abbrev zC (h : Heap) (o1 o2 : Obj) : Heap := (zB h o1 o2).push { cls := .type "tuple", data := .seq #[.ref h.objs.size, .ref (zA h o1).objs.size] }
noncomputable abbrev zD (h : Heap) (o1 o2 : Obj) : Heap := (zC h o1 o2).push { cls := .type "tuple", data := .seq #[.none, .none] }
noncomputable abbrev zE (h : Heap) (o1 o2 : Obj) : Heap := (zD h o1 o2).push { cls := .type "zip", data := .fields #[.none, .bool false, .bool false, .ref (zB h o1 o2).objs.size, .ref (zC h o1 o2).objs.size] }
structure Zipped (h g : Heap) (o1 o2 : Obj) (z TI TO i1 i2 : Addr) : Prop where
  zip : IsZip g z TI TO .none
  ins : IsPair g TI (.ref i1) (.ref i2)
  outs : IsPair g TO .none .none
  one : g.get? i1 = some o1
  two : g.get? i2 = some o2
  keep : ∀ c o, h.get? c = some o → g.get? c = some o
  young : ∀ c ∈ [z, TI, TO, i1, i2], h.objs.size ≤ c
  ap : ZipAp z TI TO i1 i2
theorem zipped (h : Heap) {o1 o2 : Obj} (n1 : o1.isFreed = false) (n2 : o2.isFreed = false) : Zipped h (zE h o1 o2) o1 o2 (zD h o1 o2).objs.size (zB h o1 o2).objs.size (zC h o1 o2).objs.size h.objs.size (zA h o1).objs.size := by
  have up : ∀ {g : Heap} {a : Addr} {o u : Obj}, g.get? a = some o → (g.push u).get? a = some o := fun e => Heap.get?_push_of_some _ e
  have at_ : ∀ {g : Heap} {o : Obj}, o.isFreed = false → (g.push o).get? g.objs.size = some o := fun e => Heap.get?_push_size _ e
  have sA : (zA h o1).objs.size = h.objs.size + 1 := Heap.size_push ..
  have sB : (zB h o1 o2).objs.size = h.objs.size + 2 := by rw [Heap.size_push, sA]
  have sC : (zC h o1 o2).objs.size = h.objs.size + 3 := by rw [Heap.size_push, sB]
  have sD : (zD h o1 o2).objs.size = h.objs.size + 4 := by rw [Heap.size_push, sC]
  refine ⟨at_ rfl, up (up (at_ rfl)), up (at_ rfl), up (up (up (up (at_ n1)))), up (up (up (at_ n2))), fun c o e => up (up (up (up (up e)))), fun c hc => ?_, ?_⟩
  · rw [sA, sB, sC, sD] at hc
    simp only [List.mem_cons, List.not_mem_nil, or_false] at hc
    rcases hc with e | e | e | e | e <;> (rw [e]; first | exact Nat.le_add_right _ _ | exact Nat.le_refl _)
  · rw [sA, sB, sC, sD]
    exact zipAp_of _
theorem meets_zip_src (u1 u2 : Value) (o1 o2 : Obj) :
    Meets (Builtin.«zip.__new__» ⟨[.type "zip", u1, u2], []⟩) (fun _ R s => SrcV s.heap u1 o1 ∧ SrcV s.heap u2 o2 ∧ R (.ok (.ret (.ref (zD s.heap o1 o2).objs.size))) { s with heap := zE s.heap o1 o2 }) :=
  .of_wp fun prog w A R s ⟨x1, x2, r⟩ => by
    obtain ⟨hp, g, d, tk, os⟩ := s
    have hsub := sub_zip
    have L1 : SrcV (Shared.heap ⟨hp, g, d, tk, os⟩) u1 o1 := x1
    have L2 : SrcV (Shared.heap ⟨hp.push o1, g, d, tk, os⟩) u2 o2 := x2.keep fun b o e => Heap.get?_push_of_some _ e
    wp_walk using pyIter_src L1, pyIter_src L2
    exact ⟨_, rfl, r⟩
theorem call_zip_src {A : Around} {E : Value → Shared → Prop} {s : Shared} {u1 u2 : Value} {o1 o2 : Obj} {Q : Value → Shared → Prop} (x1 : SrcV s.heap u1 o1) (x2 : SrcV s.heap u2 o2) (n1 : o1.isFreed = false) (n2 : o2.isFreed = false)
    (k : ∀ g z TI TO i1 i2, Zipped s.heap g o1 o2 z TI TO i1 i2 → Q (.ref z) { s with heap := g }) : wpAny (model P w) A (call (.type "zip") [u1, u2]) Q E s :=
  callType_new F.called_zip (by decide) (F.typeCall_zip_2 u1 u2) (F.newCall_zip_2 u1 u2) (fun obj => F.args_object_init_3 obj u1 u2) F.entry_zip_new (meets_zip_src u1 u2 o1 o2) ⟨x1, x2, ⟨_, (zipped s.heap n1 n2).zip, rfl⟩, k _ _ _ _ _ _ (zipped s.heap n1 n2)⟩
end
inductive SrcOf (K : PySem.W.Frag) (H : Hp) : V → It → Prop where
  | list {a : Addr} {xs : List V} (h : SqL K H a xs) : SrcOf K H (.ref a) (Itl K a)
  | tup {a : Addr} {xs : List V} (h : SqT K H a xs) : SrcOf K H (.ref a) (Itt K a)
  | str (y : Str) : SrcOf K H (.str y) (Itf (vsigns y))
section
variable {X : Cx}
theorem src_of {pins : List (Addr × Obj)} {σ : L2.St} {H : Hp} {s : Shared} {v : V} {J : It} {u : Value} (I : Inv X pins σ H s) (x : SrcOf X.K H v J) (r : RelV v u) : ∃ o, SrcV s.heap u o ∧ o.isFreed = false ∧ ∀ it h', h'.get? it = some o → ∃ st, Src X.prog X.w X.K J it st ∧ st 0 h' := by
  cases x with
  | list h =>
    cases r
    obtain ⟨its, rv, p, hz⟩ := I.list h
    exact ⟨_, .list p.isList, rfl, fun it h' e => ⟨_, src_list _ it, _, e, rfl, rfl⟩⟩
  | tup h =>
    cases r
    obtain ⟨its, rv, p, hz⟩ := I.tuple h
    exact ⟨_, .tup (show s.heap.IsTuple _ its.toArray from p), rfl, fun it h' e => ⟨_, src_tuple _ it, _, e, rfl, rfl⟩⟩
  | str y =>
    obtain ⟨t, rfl⟩ := r
    exact ⟨_, .str y t, rfl, fun it h' e => ⟨_, src_str y t it, _, e, rfl, rfl⟩⟩
noncomputable def iZip (K : PySem.W.Frag) (ta : TA) : TI := fun σ H R => ta σ H fun vs H1 => ∃ u v J1 J2, vs = [u, v] ∧ SrcOf K H1 u J1 ∧ SrcOf K H1 v J2 ∧ R (ItZ J1 J2) H1
theorem pi_zip {a b : Expr} {ta : TA} {p pos : Pos} {elts : List Expr} {kk : Nat} {tpos : Pos} (hg : Gl X "zip") (hm : X.mg "zip" = none) (ha : PA X [a, b] ta) (hs : starEach [a, b] X.env = [(false, eval a X.env), (false, eval b X.env)] := by rfl) (hs2 : starEach [b] X.env = [(false, eval b X.env)] := by rfl) :
    PI X (.Tuple elts kk tpos) (.Call (.Name "zip" p) [a, b] [] pos) (iZip X.K ta) := by
  constructor; intro pins s σ H R I h
  refine Call_ (ld_blt I hg hm boot_zip (PyProof.Rows.callWith_type1 (thn (ha pos pins s σ H _ I h) fun us s1 ⟨vs, H1, I1, r1, q1⟩ => ?_) (by rw [hs, hs2]) (by rw [hs2]; rfl)))
  obtain ⟨x, y, J1, J2, rfl, x1, x2, q⟩ := q1
  obtain ⟨u, w', rfl, ru, rw'⟩ := vals2 r1
  obtain ⟨o1, v1, n1, k1⟩ := src_of I1 x1 ru
  obtain ⟨o2, v2, n2, k2⟩ := src_of I1 x2 rw'
  refine call_zip_src v1 v2 n1 n2 fun g z TI TO i1 i2 Z => ?_
  obtain ⟨st1, S1, t1⟩ := k1 _ _ Z.one
  obtain ⟨st2, S2, t2⟩ := k2 _ _ Z.two
  have I2 : Inv X pins σ H1 { s1 with heap := g } := I1.kept (t' := s1.toks) Z.keep
  exact wpAny_pyIter_zip (s := { s1 with heap := g }) Z.zip ⟨z, [z, TI, TO, i1, i2], _, ItZ J1 J2, H1, rfl, I2, turn_zip Z.ap S1 S2, ⟨Z.zip, Z.ins, ⟨_, _, Z.outs⟩, t1, t2⟩, fun b hb => I1.fpOk (Z.young b hb) (I1.hok.fresh (Z.young b hb)), q⟩
end
structure Gives (J : It) (H : Hp) (xs : List V) : Prop where
  go : ∀ i, i < xs.length → J.go i H
  stop : ∀ i, xs.length ≤ i → J.stop i H
  yld : ∀ i x H', J.yld i H x H' → xs[i]? = some x
theorem gives_list {K : PySem.W.Frag} {H : Hp} {a : Addr} {xs : List V} (h : SqL K H a xs) : Gives (Itl K a) H xs := ⟨fun i hi => ⟨xs, xs[i], h, by simp [hi]⟩, fun i hi => ⟨xs, h, hi⟩, fun i x H' y => y.2 xs h⟩
theorem gives_tup {K : PySem.W.Frag} {H : Hp} {a : Addr} {xs : List V} (h : SqT K H a xs) : Gives (Itt K a) H xs := ⟨fun i hi => ⟨xs, xs[i], h, by simp [hi]⟩, fun i hi => ⟨xs, h, hi⟩, fun i x H' y => y.2 xs h⟩
theorem for_zip {J1 J2 : It} {xs ys : List V} {g : TG} {tb : TS} {D : Ends} {σ : L2.St} {H : Hp} (Pv : Nat → L2.St → Hp → Prop) (h0 : Pv 0 σ H) (hl : ∀ i σ H, Pv i σ H → Gives J1 H xs ∧ Gives J2 H ys)
    (hs : ∀ i x y σ H p, xs[i]? = some x → ys[i]? = some y → Pv i σ H → H p = none → g (.ref p) σ (upd H p (.tup [x, y])) fun σ2 H2 => tb { D with nx := Pv (i + 1), ct := Pv (i + 1), bk := D.nx } σ2 H2) (hd : ∀ σ H, Pv (min xs.length ys.length) σ H → D.nx σ H) :
    ∃ W : Nat → Nat → L2.St → Hp → Prop, (∃ m, W 0 m σ H) ∧ ∀ i m σ H, W i m σ H →
      ((ItZ J1 J2).stop i H ∧ D.nx σ H) ∨ ((ItZ J1 J2).go i H ∧ ∃ N : L2.St → Hp → Prop, (∀ σ' H', N σ' H' → ∃ m', m' < m ∧ W (i + 1) m' σ' H') ∧ ∀ x H', (ItZ J1 J2).yld i H x H' → g x σ H' fun σ2 H2 => tb { D with nx := N, ct := N, bk := D.nx } σ2 H2) := by
  refine ⟨fun i m σ H => m = min xs.length ys.length - i ∧ i ≤ min xs.length ys.length ∧ Pv i σ H, ⟨min xs.length ys.length, by simp, Nat.zero_le _, h0⟩, ?_⟩
  rintro i m σ H ⟨rfl, hi, p⟩
  obtain ⟨G1, G2⟩ := hl i σ H p
  by_cases hlt : i < min xs.length ys.length
  · refine .inr ⟨⟨G1.go i (by omega), G2.go i (by omega)⟩, Pv (i + 1), fun σ' H' p' => ⟨min xs.length ys.length - (i + 1), by omega, rfl, hlt, p'⟩, fun v H' y => ?_⟩
    obtain ⟨q, x, y, y1, y2, rfl, hn, rfl⟩ := y
    exact hs i x y σ H q (G1.yld i x _ y1) (G2.yld i y _ y2) p hn
  · have e : i = min xs.length ys.length := by omega
    subst e
    refine .inl ⟨?_, hd σ H p⟩
    by_cases h : xs.length ≤ ys.length
    · exact .inl (G1.stop _ (by omega))
    · exact .inr ⟨G1.go _ (by omega), G2.stop _ (by omega)⟩
end My
namespace My
open PySem PySem.Spec PyProof.Rows L2 PySem.NumText
section
variable {X : Cx}
end
section
variable {K : PySem.W.Frag}
end
section
variable {X : Cx} {K : PySem.W.Frag}
end
end My
namespace My
open PySem PySem.Spec PyProof.Rows L2
section
variable {X : Cx} {pins : List (Addr × Obj)} {σ : L2.St} {H : Hp} {s : Shared} {scope : Scope} {N : List Str} {C : Addr} {ex : List Addr}
end
section
variable {X : Cx} {pins : List (Addr × Obj)} {σ : L2.St} {H : Hp} {s : Shared} {scope : Scope} {N : List Str} {target iter elt : Expr} {pos : Pos} {g : TG} {te : TE}
theorem comp_after {s' : Shared} {H' : Hp} {fp : List Addr} {C : Addr} (I : Inv X pins σ H s) (hf : ∀ b ∈ fp, FpOk X pins H b) (os : s'.os = s.os) (bare : AllBare s'.gens) (un : Un (frs X.stack) fp H H' s.heap s'.heap) (hok : HOk X.prog X.w H' s'.heap) (nC : H' C = none) (hC : s.heap.objs.size ≤ C) :
    Inv X pins σ H' s' ∧ FpOk X pins H' C :=
  ⟨I.call' os un hok bare fun b hb => let ⟨_, f1, _, f3, f4, f5⟩ := hf b hb; ⟨f3, f1, f4, f5⟩, I.fpOk hC nC⟩
theorem inv_but {H' : Hp} {C : Addr} {h' : Heap} (I : Inv X pins σ H' s) (f : FpOk X pins H' C) (k : Heap.SameBut C s.heap h') : Inv X pins σ H' { s with heap := h' } :=
  let ⟨f0, f1, _, f3, f4, f5⟩ := f
  I.turned (t' := s.toks) (fun b o hb e => (k.2 b hb).trans e) f0 f1 f3 f4 f5
end
end My
namespace My
open PySem PySem.Spec PyProof.Rows L2 PySem.Builtin.Str
theorem vals_strs : ∀ (k : Nat) (xs : List Str), Vals (xs.map V.str) (strsFrom k xs)
  | _, [] => .nil
  | k, _ :: r => .cons ⟨k, rfl⟩ (vals_strs (k + 1) r)
theorem strsAre_of : ∀ {ys : List Str} {us : List Value}, Vals (ys.map V.str) us → StrsAre us ys
  | [], _, .nil => .nil
  | y :: r, _, .cons ⟨t, e⟩ q => by
    subst e
    exact .cons y t (strsAre_of q)
section
variable {X : Cx}
theorem mt_split : MtR X "str.split" (fun x xs H Q => ∃ z y : Str, x = .str z ∧ xs = [V.str y] ∧ 1 ≤ y.length ∧ z.length ≤ 10000 ∧ ∀ p, H p = none → Q (.ref p) (upd H p (.lst ((Txt.split z y).map V.str)))) := by
  intro pins s σ H x xs v us Q I rx rv h
  obtain ⟨z, y, rfl, rfl, hy, hz, q⟩ := h
  obtain ⟨t, rfl⟩ := rx
  obtain ⟨u, rfl, t', rfl⟩ := vals1 rv
  have hs : (20000 : Nat) ≤ sizeLine := by decide
  have hl : (Txt.split z y).length ≤ 20000 := by have := split_le z y; omega
  have hy0 : (y.length == 0) = false := by
    have : ¬ y.length = 0 := by omega
    simpa using this
  have nD : s.heap.get? s.heap.objs.size = none := Heap.get?_none_of_le (Nat.le_refl _)
  have fin : ∀ (us : List Value) (k : Nat), Vals ((Txt.split z y).map V.str) us → EP X pins σ Q (.ref s.heap.objs.size) { s with heap := s.heap.push { cls := .type "list", data := .seq us.toArray }, toks := k } := fun us k r =>
    ⟨.ref _, _, inv_new (o := .lst ((Txt.split z y).map V.str)) I (fun b o e => Heap.get?_push_of_some _ e) nD ⟨by rw [List.length_map]; omega, us, _, r, Heap.get?_push_size _ rfl⟩, rfl, q _ (inv_none I nD)⟩
  have one : Txt.split z y = [z] → Vals ((Txt.split z y).map V.str) [Value.str z t] := fun e => by rw [e]; exact .cons ⟨t, rfl⟩ .nil
  cases h1 : (decide (z.length < y.length) || decide (strKind z < strKind y)) with
  | true => exact call_meets F.slot_str_split (typeIs_str _ _ _) F.entry_str_split (F.args_str_split_2 _ _) (meets_str_split_cannot_occur z y t t' h1) (fin _ _ (one (if_pos h1)))
  | false =>
    have ns : ¬ (decide (z.length < y.length) || decide (strKind z < strKind y)) = true := by rw [h1]; decide
    cases hf : (occurrences z y 0 z.length (z.length + 1)).isEmpty with
    | true => exact call_meets F.slot_str_split (typeIs_str _ _ _) F.entry_str_split (F.args_str_split_2 _ _) (meets_str_split_not_found z y t t' h1 hy0 hf) (fin _ _ (one ((if_neg ns).trans (if_pos hf))))
    | false =>
      have e : Txt.split z y = partsBetween z (occurrences z y 0 z.length (z.length + 1)) y.length := (if_neg ns).trans (if_neg (by rw [hf]; decide))
      have r := vals_strs s.toks (partsBetween z (occurrences z y 0 z.length (z.length + 1)) y.length)
      rw [← e] at r
      refine call_meets F.slot_str_split (typeIs_str _ _ _) F.entry_str_split (F.args_str_split_2 _ _) (meets_str_split_sep z y t t' h1 hy0 hf (by omega) (by rw [← e]; omega)) ?_
      have g := fin _ (s.toks + (Txt.split z y).length) r
      rw [e] at g
      exact g
theorem mt_join : MtR X "str.join" (fun x xs H Q => ∃ (z : Str) (a : Addr) (ys : List Str), x = .str z ∧ xs = [V.ref a] ∧ SqL X.K H a (ys.map V.str) ∧ (ys.map (·.length)).sum + ys.length * z.length ≤ 16777216 ∧ Q (.str (Str.join z ys)) H) := by
  intro pins s σ H x xs v us Q I rx rv h
  obtain ⟨z, a, ys, rfl, rfl, ha, hl, q⟩ := h
  obtain ⟨t, rfl⟩ := rx
  obtain ⟨u, rfl, e⟩ := vals1 rv
  cases e
  obtain ⟨its, r, pl, _⟩ := I.list ha
  have ej : Txt.join z ys = Str.join z ys := eq_of_beq (join_plain_closes z ys)
  exact join_list pl.isList (by simpa using strsAre_of r) hl fun t' k => ⟨.str _, H, I.tok _, ⟨_, rfl⟩, by rw [ej]; exact q⟩
end
noncomputable def glue (c : Nat) : List (List Nat) → List Nat
  | [] => []
  | [p] => p
  | p :: q :: r => p ++ c :: glue c (q :: r)
theorem join_codes (c : Nat) : ∀ ps : List Str, (Str.join ⟨#[c]⟩ ps).cps.toList = glue c (ps.map (·.cps.toList))
  | [] => rfl
  | [p] => rfl
  | p :: q :: r => by
    show (p ++ ⟨#[c]⟩ ++ Str.join ⟨#[c]⟩ (q :: r)).cps.toList = p.cps.toList ++ c :: glue c ((q :: r).map (·.cps.toList))
    rw [app_codes, app_codes, join_codes c (q :: r)]
    simp
theorem glue_inj {c : Nat} : ∀ {ps qs : List (List Nat)}, ps ≠ [] → qs ≠ [] → (∀ p ∈ ps, c ∉ p) → (∀ q ∈ qs, c ∉ q) → glue c ps = glue c qs → ps = qs
  | [], _, h, _, _, _, _ => (h rfl).elim
  | _, [], _, h, _, _, _ => (h rfl).elim
  | [p], [q], _, _, _, _, e => by rw [show p = q from e]
  | [p], q :: q' :: r, _, _, hp, _, e => by
    have e' : p = q ++ c :: glue c (q' :: r) := e
    exact absurd (show c ∈ p by rw [e']; simp) (hp p (by simp))
  | p :: p' :: r, [q], _, _, _, hq, e => by
    have e' : p ++ c :: glue c (p' :: r) = q := e
    exact absurd (show c ∈ q by rw [← e']; simp) (hq q (by simp))
  | p :: p' :: r, q :: q' :: r', _, _, hp, hq, e => by
    have e' : p ++ c :: glue c (p' :: r) = q ++ c :: glue c (q' :: r') := e
    have key : ∀ (a b : List Nat) (x y : List Nat), c ∉ a → c ∉ b → a ++ c :: x = b ++ c :: y → a = b ∧ x = y := by
      intro a
      induction a with
      | nil =>
        intro b x y _ hb e
        cases b with
        | nil => exact ⟨rfl, by simpa using e⟩
        | cons d b => simp at e; exact absurd (by simp [e.1]) hb
      | cons d a ih =>
        intro b x y ha hb e
        cases b with
        | nil => simp at e; exact absurd (by simp [e.1]) ha
        | cons d' b =>
          simp only [List.cons_append, List.cons.injEq] at e
          obtain ⟨h1, h2⟩ := ih b x y (fun z => ha (List.mem_cons_of_mem _ z)) (fun z => hb (List.mem_cons_of_mem _ z)) e.2
          exact ⟨by rw [e.1, h1], h2⟩
    obtain ⟨h1, h2⟩ := key p q _ _ (hp p (by simp)) (hq q (by simp)) e'
    rw [h1, glue_inj (by simp) (by simp) (fun z hz => hp z (List.mem_cons_of_mem _ hz)) (fun z hz => hq z (List.mem_cons_of_mem _ hz)) h2]
theorem split_join {c : Nat} {ps : List Str} (h : ps ≠ []) (hf : ∀ p ∈ ps, c ∉ p.cps.toList) : Txt.split (Str.join ⟨#[c]⟩ ps) ⟨#[c]⟩ = ps := by
  have e := congrArg (fun x : Str => x.cps.toList) (StrLaws.join_split (Str.join ⟨#[c]⟩ ps) ⟨#[c]⟩)
  rw [join_codes, join_codes] at e
  have hs := split_pos (Str.join ⟨#[c]⟩ ps) ⟨#[c]⟩
  have e2 := glue_inj (c := c) (by intro z; have := congrArg List.length z; simp at this; rw [this] at hs; simp at hs) (by simpa using h) (fun p hp => ?_) (fun p hp => ?_) e
  · have inj : ∀ {as bs : List Str}, as.map (·.cps.toList) = bs.map (·.cps.toList) → as = bs := by
      intro as
      induction as with
      | nil => intro bs e; cases bs with
        | nil => rfl
        | cons _ _ => cases e
      | cons a r ih => intro bs e; cases bs with
        | nil => cases e
        | cons b r' =>
          simp only [List.map_cons, List.cons.injEq] at e
          rw [ext_toList e.1, ih e.2]
    exact inj e2
  · obtain ⟨x, hx, rfl⟩ := List.mem_map.mp hp
    exact StrLaws.split_free _ c x hx
  · obtain ⟨x, hx, rfl⟩ := List.mem_map.mp hp
    exact hf x hx
theorem ps_tryN {X : Cx} {body : List Stmt} {h₀ : ExceptHandler} {hs : List ExceptHandler} {tb : TS} {pos : Pos} (hb : PSs X.nox body tb) : PS X (.Try body (h₀ :: hs) [] [] pos) tb := by
  constructor; intro pins s σ H D I h
  refine wpAny_Try_except (wpAny_mono (hb pins s σ H D (I.wish _) h) (fun f s1 q => ?_) fun _ _ z => z.elim)
  cases f with
  | next => obtain ⟨σ', H', I', q⟩ := q; exact wpAny_execs_nil ⟨σ', H', I'.unwish, q⟩
  | brk => obtain ⟨σ', H', I', q⟩ := q; exact ⟨σ', H', I'.unwish, q⟩
  | cont => obtain ⟨σ', H', I', q⟩ := q; exact ⟨σ', H', I'.unwish, q⟩
  | ret u => obtain ⟨v, σ', H', I', r, q⟩ := q; exact ⟨v, σ', H', I'.unwish, r, q⟩
end My
namespace My
open PySem PySem.Spec PyProof.Rows L2
end My
namespace My
open PySem PySem.Spec PyProof.Rows L2
theorem call_strA {X : Cx} : CallR X (.type "str") (fun xs H Q => ∃ v, xs = [v] ∧ ((∃ n : Int, v = .int n ∧ n.natAbs.log2 < 1920 ∧ Q (.str (Str.ofString (toString n))) H) ∨ ∃ x : Str, v = .str x ∧ Q (.str x) H)) := by
  intro pins s σ H xs us Q I r h
  obtain ⟨v, rfl, h⟩ := h
  rcases h with ⟨n, rfl, hz, q⟩ | ⟨x, rfl, q⟩
  · exact call_str_int pins s σ H _ us Q I r ⟨n, rfl, hz, q⟩
  · obtain ⟨u, rfl, t, rfl⟩ := vals1 r
    exact PySem.P.str_of_str ⟨.str x, H, I, ⟨t, rfl⟩, q⟩
end My
namespace My
open PySem PySem.Spec PyProof.Rows L2
theorem pg_tupK {X : Cx} {K : PySem.W.Frag} {es : List Expr} {k : Nat} {t : TGs} {n : Nat} {pos : Pos} (hK : X.K = K) (hc : X.calm = true) (h : PGs X es t) (hn : (assignEach es X.env).length = n := by rfl) (hst : (assignEach es X.env).findIdx? (·.1) = none := by rfl) : PG X (.Tuple es k pos) (gTup K n t) := by
  subst hK
  exact pg_tup hc h hn hst
end My
namespace My
open PySem PySem.Spec PyProof.Rows L2
section
variable {X : Cx}
end
end My
namespace My
open PySem
section
variable {prog : Program} {w : World} {A : Around} {E : Value → Shared → Prop} {h : Heap} {g : Array GenState} {d : Drawn} {t : Nat} {os : OsState}
variable {nm q : Str} {C N : Addr} {bs bm bmB : List Value} {hdct : Bool} {sn : List Str} {sub : List Value} {ab : Bool} {col : Option Bool} {dd : Option Addr} {k0 k1 k2 k3 k5 : Option Value} {B newId initId : String}

end
end My
namespace My
open PySem PySem.Spec PyProof.Rows L2
noncomputable abbrev mroVE : List Value := [.type "ValueError", .type "Exception", .type "BaseException", .type "object"]
section
variable {prog : Program} {w : World} {A : Around} {E : Value → Shared → Prop} {h : Heap} {g : Array GenState} {d : Drawn} {t : Nat} {os : OsState} {a C : Addr} {ox : Obj} {od : Option Obj} {K : PySem.W.Frag} {name : Str} {v : Value}
end
end My
namespace My
open PySem PySem.Spec PyProof.Rows L2
section
variable {P : Program} {w : World} {H : Hp} {h : Heap} {a C dx : Addr} {fs : List (Str × V)}
end
section
variable {X : Cx} {pins : List (Addr × Obj)} {σ : L2.St} {H : Hp} {s : Shared} {a C dx : Addr} {fs : List (Str × V)} {A : Around} {E : Value → Shared → Prop} {f : Str} {y v : V} {u : Value}
end
section
variable {X : Cx} {o e value : Expr} {f : Str} {pos pos' : Pos} {ta tv : TE}
end
end My
namespace My
open PySem PySem.Spec PyProof.Rows L2
section
variable {X : Cx} {CX : CXT} {k : Nat} {f C : Addr} {fd : FuncData} {ps : List Str} {sp : Sp} {dvs : List V} {ds : List Value} {E : XK} {x m : Str} {p pos apos : Pos} {e o : Expr} {es : List Expr} {ta : TE} {t : TA}
end
end My
namespace My
open PySem PySem.Spec PyProof.Rows L2
section
variable {M : Model} {A : Around} {E : Value → Shared → Prop} {s : Shared} {env : Env} {K : PySem.W.Frag} {C : Addr}
end

section
variable {X : Cx} {CX : CXT} {k : Nat} {f C : Addr} {fd : FuncData} {ps : List Str} {sp : Sp} {dvs : List V} {ds : List Value} {E : XK}
end
section
variable {P : Program} {w : World} {H H2 : Hp} {fs : List Addr} {h h' h2 : Heap} {ea : Addr} {o : HO}
end

section
variable {P : Program} {w : World} {K : PySem.W.Frag} {mg : Str → Option Value} {base : Heap} {N : List Str} {qual : Str} {scope : Scope} {f : Addr} {cd : Value} {A : Around} {outer : List Env} {s₀ : Shared} {H₀ : Hp} {E : XK}
  {pins : List (Addr × Obj)} {σ : L2.St} {H H2 : Hp} {s s2 : Shared} {h' : Heap} {ea C : Addr} {d : Option Addr}
end

section
variable {P : Program} {w : World} {K : PySem.W.Frag} {mg : Str → Option Value} {base : Heap} {N : List Str} {qual : Str} {scope : Scope} {f fI : Addr} {cd : Value} {A : Around} {outer : List Env} {s₀ : Shared} {H₀ : Hp} {E : XK}
end
end My
namespace My
open PySem PySem.Spec PyProof.Rows L2
section
variable {M : Model} {A : Around} {E : Value → Shared → Prop} {s : Shared}
end
section
variable {X : Cx}
end
end My
namespace My
open PySem PySem.Spec PyProof.Rows L2
section
variable {X : Cx} {K : PySem.W.Frag}
end
end My
namespace My
open PySem PySem.Spec PyProof.Rows L2
noncomputable def closOf (cells : List (Str × Addr)) : List (Str × NameKind) → List (Str × Addr) → List (Str × Addr)
  | [], acc => acc
  | (n, k) :: r, acc => if (k == NameKind.free) = true then closOf cells r ((n, (cells.lookup n).getD 0) :: acc) else closOf cells r acc
theorem closure_is {scope : Scope} {env : Env} (h : ∀ q ∈ scope.names, q.2 = .free → ∃ c, env.cells.lookup q.1 = some c) : closureFor scope env = pure (closOf env.cells scope.names []) := by
  simp only [closureFor]
  generalize ([] : List (Str × Addr)) = acc
  revert h
  generalize scope.names = names
  intro h
  induction names generalizing acc with
  | nil => rfl
  | cons q r ih =>
    obtain ⟨n, k⟩ := q
    rw [List.forIn_cons]
    by_cases hk : (k == NameKind.free) = true
    · obtain ⟨c, hc⟩ := h (n, k) List.mem_cons_self (by simpa using hk)
      have e : cellOf env n = pure c := by simp only [cellOf, hc]
      simp only [closOf, hk, if_true, e, hc, Option.getD_some, pure_bind]
      exact ih _ fun q hq => h q (List.mem_cons_of_mem _ hq)
    · simp only [closOf, hk, if_false, pure_bind, Bool.false_eq_true]
      exact ih _ fun q hq => h q (List.mem_cons_of_mem _ hq)
theorem closOf_sub {cells : List (Str × Addr)} : ∀ {names : List (Str × NameKind)} {acc : List (Str × Addr)}, (∀ q ∈ names, q.2 = .free → ∃ c, cells.lookup q.1 = some c) → (∀ x c, acc.lookup x = some c → cells.lookup x = some c) → ∀ x c, (closOf cells names acc).lookup x = some c → cells.lookup x = some c
  | [], _, _, ha => ha
  | (n, k) :: r, acc, h, ha => by
    intro x c e
    by_cases hk : (k == NameKind.free) = true
    · obtain ⟨d, hd⟩ := h (n, k) List.mem_cons_self (by simpa using hk)
      rw [closOf, if_pos hk] at e
      refine closOf_sub (fun q hq => h q (List.mem_cons_of_mem _ hq)) (fun y b q => ?_) x c e
      cases hy : y == n with
      | true =>
        rw [List.lookup_cons, hy] at q
        have ey : y = n := by simpa using hy
        subst ey
        have hd' : List.lookup y cells = some d := hd
        rw [hd'] at q ⊢
        simpa using q
      | false =>
        rw [List.lookup_cons, hy] at q
        exact ha y b q
    · rw [closOf, if_neg hk] at e
      exact closOf_sub (fun q hq => h q (List.mem_cons_of_mem _ hq)) ha x c e
theorem closOf_has {cells : List (Str × Addr)} : ∀ {names : List (Str × NameKind)} {acc : List (Str × Addr)} {x : Str}, ((x, NameKind.free) ∈ names ∨ ∃ c, acc.lookup x = some c) → ∃ c, (closOf cells names acc).lookup x = some c
  | [], _, _, h => h.elim (fun z => by cases z) id
  | (n, k) :: r, acc, x, h => by
    by_cases hk : (k == NameKind.free) = true
    · rw [closOf, if_pos hk]
      refine closOf_has ?_
      cases hx : x == n with
      | true => exact .inr ⟨_, by rw [List.lookup_cons, hx]⟩
      | false =>
        rcases h with h | ⟨c, h⟩
        · rcases List.mem_cons.mp h with z | z
          · cases z
            simp at hx
          · exact .inl z
        · exact .inr ⟨c, by rw [List.lookup_cons, hx]; exact h⟩
    · rw [closOf, if_neg hk]
      refine closOf_has ?_
      rcases h with h | h
      · rcases List.mem_cons.mp h with z | z
        · cases z
          exact absurd rfl hk
        · exact .inl z
      · exact .inr h
theorem relabel_kind {env : Env} : ∀ {names : List (Str × NameKind)} {x : Str} {k' : NameKind}, (names.map fun (n, k) => if (k == NameKind.free && env.scope.kind == .function && env.kindOf n == some .cell) then (n, NameKind.cell) else (n, k)).lookup x = some k' →
    ∃ k, names.lookup x = some k ∧ (k' = k ∨ (k = .free ∧ k' = .cell))
  | [], _, _, h => by simp at h
  | (n, k) :: r, x, k', h => by
    have ih := @relabel_kind env r x k'
    have h : List.lookup x ((if (k == NameKind.free && env.scope.kind == .function && env.kindOf n == some .cell) = true then (n, NameKind.cell) else (n, k)) :: _) = some k' := h
    cases hx : x == n with
    | true =>
      by_cases hc : (k == NameKind.free && env.scope.kind == .function && env.kindOf n == some .cell) = true
      · rw [if_pos hc, List.lookup_cons, hx] at h
        cases h
        have hk : k = .free := by
          simp only [Bool.and_eq_true] at hc
          simpa using hc.1.1
        exact ⟨k, by rw [List.lookup_cons, hx], .inr ⟨hk, rfl⟩⟩
      · rw [if_neg hc, List.lookup_cons, hx] at h
        cases h
        exact ⟨k, by rw [List.lookup_cons, hx], .inl rfl⟩
    | false =>
      obtain ⟨k2, e, q⟩ := ih (by
        by_cases hc : (k == NameKind.free && env.scope.kind == .function && env.kindOf n == some .cell) = true
        · rw [if_pos hc, List.lookup_cons, hx] at h; exact h
        · rw [if_neg hc, List.lookup_cons, hx] at h; exact h)
      exact ⟨k2, by rw [List.lookup_cons, hx]; exact e, q⟩
noncomputable def compCxF (X : Cx) (scope : Scope) (N : List Str) (cl : List (Str × Addr)) (C : Addr) (s₀ : Shared) (H₀ : Hp) (ex : List Addr) : Cx :=
  { X with N := N, s₀ := s₀, H₀ := H₀, env := compEnvC scope cl C X.env, outer := X.stack, stack := X.stack, ex := ex, fn := fun _ => false, pn := [], xe := fun _ _ => False }
noncomputable def startF (σ : L2.St) (n : Nat) (js : List Nat) : L2.St := List.replicate n none ++ js.map fun j => (σ[j]?).getD none
noncomputable def ifsOf (ifs : List Expr) (env : Env) : Sem Bool := forIn ifs true fun c r => if r = true then do let ok ← isTrue c env (eval c env); pure (ForInStep.yield ok) else pure (ForInStep.yield r)
structure PIfs (X : Cx) (ifs : List Expr) (t : TT) : Prop where
  run : ∀ (pins : List (Addr × Obj)) (s : Shared) (σ : L2.St) (H : Hp) (Q : Bool → Hp → Prop), Inv X pins σ H s → t σ H Q → wpAny (model X.prog X.w) X.A (ifsOf ifs X.env) (TP X pins σ Q) X.xe s
noncomputable def tYes : TT := fun _ H Q => Q true H
theorem pf_nil {X : Cx} : PIfs X [] tYes := ⟨fun pins s σ H Q I h => wpAny_tests_nil ⟨H, I, h⟩⟩
theorem pf_one {X : Cx} {c : Expr} {t : TT} (h : PT X c t) : PIfs X [c] t := ⟨fun pins s σ H Q I q => wpAny_tests_one (h pins s σ H Q I q)⟩
structure CompSc (X : Cx) (scope : Scope) (fv : List Str) (js : List Nat) : Prop where
  kind : scope.kind = .function
  cell : ∀ q ∈ scope.names, q.2 ≠ .cell
  names : ∀ q ∈ scope.names, q.2 = .local → scope.names.lookup q.1 = some .local
  free : ∀ q ∈ scope.names, q.2 = .free → q.1 ∈ fv
  out : ∀ x ∈ fv, X.env.kindOf x = some .cell ∨ X.env.kindOf x = some .free
  at' : js.map (fun j => X.N[j]?) = fv.map some
  fr : ∀ x ∈ fv, scope.names.lookup x = some .free
section
variable {X : Cx} {pins : List (Addr × Obj)} {σ : L2.St} {H : Hp} {s : Shared} {scope : Scope} {N : List Str} {C : Addr} {ex : List Addr} {cl : List (Str × Addr)} {fv tg : List Str} {js : List Nat}
theorem CompSc.clos (S : CompSc X scope fv js) (ok : X.Ok) : closureFor scope X.env = pure (closOf X.env.cells scope.names []) := closure_is fun q hq e => ok.has q.1 (S.out q.1 (S.free q hq e))
theorem CompSc.sub (S : CompSc X scope fv js) (ok : X.Ok) : ∀ x c, (closOf X.env.cells scope.names []).lookup x = some c → X.env.cells.lookup x = some c :=
  closOf_sub (fun q hq e => ok.has q.1 (S.out q.1 (S.free q hq e))) (fun x c e => by cases e)
theorem comp_okF (I : Inv X pins σ H s) (S : CompSc X scope fv js) (hC : s.heap.objs.size ≤ C)
    (hf : ∀ b ∈ ex, FpOk X pins H b) (ho : ∀ b ∈ ex, ∃ o, s.heap.get? b = some o) : (compCxF X scope N (closOf X.env.cells scope.names []) C s H ex).Ok := by
  have sub := S.sub I.ok
  refine ⟨I.ok.mod, S.kind, I.ok.glob, I.ok.blt, hC, fun x y c e1 e2 => I.ok.inj x y c (sub x c e1) (sub y c e2), fun x hx => ?_, fun x c z _ => Bool.noConfusion z, I.ok.hd, I.ok.frames, .inl rfl, fun b hb => ⟨?_, fun x c e => ?_⟩, I.bs, Nat.le_trans I.ok.bsz I.sz, fun b o e hb => ?_, fun b hb hm => ?_, I.stack, I.stkFree⟩
  · have e : ∃ k', (relabel scope X.env).names.lookup x = some k' ∧ (k' = .cell ∨ k' = .free) := by
      rcases hx with z | z
      · exact ⟨_, z, .inl rfl⟩
      · exact ⟨_, z, .inr rfl⟩
    obtain ⟨k', e, hk⟩ := e
    obtain ⟨k, e2, q⟩ := relabel_kind e
    have hk2 : k = .free := by
      rcases q with rfl | ⟨rfl, _⟩
      · rcases hk with rfl | rfl
        · exact absurd rfl (S.cell _ (PySem.mem_of_lookup e2))
        · rfl
      · rfl
    subst hk2
    exact closOf_has (.inl (PySem.mem_of_lookup e2))
  · obtain ⟨o, e⟩ := ho b hb
    exact Nat.ne_of_lt (Nat.lt_of_lt_of_le (Heap.lt_size e) hC)
  · obtain ⟨_, _, _, _, q, _⟩ := hf b hb
    exact q x c (sub x c e)
  · obtain ⟨_, _, _, q, _⟩ := hf b hb
    rcases q with q | q
    · exact I.ok.noex b o e q
    · exact absurd (Nat.lt_of_lt_of_le (Heap.lt_size e) (Nat.le_trans I.ok.bsz q)) (Nat.lt_irrefl _)
  · obtain ⟨_, q1, q2, _⟩ := hf b hb
    rcases List.mem_cons.mp (I.stkSub b hm) with z | z
    · exact q1 z
    · exact q2 z
theorem comp_startF {D : Addr} {h' : Heap} {t' : Nat} {m : Str → Option Value} (I : Inv X pins σ H s) (S : CompSc X scope fv js) (ok : (compCxF X scope (tg ++ fv) (closOf X.env.cells scope.names []) C s H ex).Ok) (hk : ∀ b o, s.heap.get? b = some o → h'.get? b = some o) (hD : s.heap.get? D = none) (hC : s.heap.get? C = none) (hDC : D ≠ C)
    (hl : h'.get? D = some { cls := .type "list", data := .seq #[] }) (hn : h'.Ns C m) : Inv (compCxF X scope (tg ++ fv) (closOf X.env.cells scope.names []) C s H ex) [] (startF σ tg.length js) (upd H D (.lst [])) { s with heap := h', toks := t' } := by
  have nD := inv_none I hD
  have neD : ∀ b u, s.heap.get? b = some u → b ≠ D := fun b u e z => by rw [z, hD] at e; cases e
  have sub := S.sub I.ok
  have cellK : ∀ c v, s.heap.IsCell c v → h'.IsCell c v := fun c v ⟨o, ho, hd⟩ => ⟨o, hk c o ho, hd⟩
  have hlen : js.length = fv.length := by have := congrArg List.length S.at'; simpa using this
  refine ⟨ok, rfl, I.bare, ⟨fun b u q _ _ _ => hk b u q, fun b u q _ _ _ => ⟨u.slots, hk b u q⟩, fun b u q n _ => by rw [upd_ne (neD b u q)]; exact n, fun b u q _ => ⟨u, hk b u q⟩, fun b xs q => by rw [upd_ne (ne_of_none q nD)]; exact q,
    fun b u xs q => by rw [upd_ne (ne_of_none q nD)]; exact q, fun b ps (q : H b = _) => ⟨#[], by rw [upd_ne (ne_of_none q nD), q]; simp⟩⟩, ⟨m, hn, fun i x v e1 e2 e3 => ?_⟩, fun x c e => ?_, ?_, fun x c e => ?_, fun p hp => (by cases hp), fun b u e => ?_, by simp [compCxF, startF, hlen]⟩
  · have e1 : (tg ++ fv)[i]? = some x := e1
    rcases Nat.lt_or_ge i tg.length with hi | hi
    · rw [startF, List.getElem?_append_left (by simpa using hi), List.getElem?_replicate, if_pos hi] at e2
      cases e2
    · rw [List.getElem?_append_right hi] at e1
      rw [startF, List.getElem?_append_right (by simpa using hi), List.length_replicate, List.getElem?_map] at e2
      obtain ⟨j, hj, e2⟩ := Option.map_eq_some_iff.mp e2
      have hσ : σ[j]? = some (some v) := by
        cases q : σ[j]? with
        | none => rw [q] at e2; cases e2
        | some z => rw [q] at e2; exact congrArg some e2
      have hN : X.N[j]? = some x := by
        have q := congrArg (fun l => l[i - tg.length]?) S.at'
        simp only [List.getElem?_map, hj, e1, Option.map_some] at q
        exact Option.some.inj q
      have hx : x ∈ fv := List.mem_of_getElem? e1
      have ko := S.out x hx
      obtain ⟨m0, _, hl0⟩ := I.loc
      have vis : Vis X.env.scope x := ko.elim (fun z => .inr (.inl z)) fun z => .inr (.inr z)
      obtain ⟨u, ru, lk⟩ := hl0 j x v hN hσ vis
      obtain ⟨c, hc, hcell⟩ : ∃ c, X.env.cells.lookup x = some c ∧ s.heap.IsCell c (some u) := by
        rcases lk with ⟨z, _⟩ | ⟨_, q⟩
        · rcases ko with y | y <;> (rw [y] at z; cases z)
        · exact q
      obtain ⟨c2, hc2⟩ : ∃ c2, (closOf X.env.cells scope.names []).lookup x = some c2 := closOf_has (.inl (PySem.mem_of_lookup (S.fr x hx)))
      have ec : c2 = c := by have := sub x c2 hc2; rw [hc] at this; exact (Option.some.inj this).symm
      subst ec
      refine ⟨u, ru, .inr ⟨?_, c2, hc2, cellK _ _ hcell⟩⟩
      have e3 : (relabel scope X.env).names.lookup x = some .local ∨ (relabel scope X.env).names.lookup x = some .cell ∨ (relabel scope X.env).names.lookup x = some .free := e3
      rcases e3 with z | z | z
      · obtain ⟨k, ek, q⟩ := relabel_kind z
        rw [S.fr x hx] at ek
        cases ek
        rcases q with q | ⟨_, q⟩ <;> cases q
      · exact .inl z
      · exact .inr z
  · obtain ⟨v, z⟩ := I.cell x c (sub x c e)
    exact ⟨v, cellK c v z⟩
  · show upd H D (.lst []) C = none
    rw [upd_ne (Ne.symm hDC)]
    exact inv_none I hC
  · obtain ⟨v, o, ho, _⟩ := I.cell x c (sub x c e)
    rw [upd_ne (neD c o ho)]
    exact I.freeC x c (sub x c e)
  · by_cases hb : b = D
    · subst hb
      rw [upd_same] at e
      cases e
      exact ⟨Nat.zero_le _, [], _, .nil, hl⟩
    · rw [upd_ne hb] at e
      exact (I.hok b u e).stay (fun c v _ q => hk c v q) (fun c q => by rw [upd_ne (ne_of_none q nD)]; exact q) fun c xs q => by rw [upd_ne (ne_of_none q nD)]; exact q
end
theorem comp_loopF {prog : Program} {w : World} {A : Around} {s : Shared} {R : Result → Shared → Prop} {elt target iter : Expr} {ifs : List Expr} {scope : Scope} {pos : Pos} {it acc : Value} {env : Env} (I : Nat → Shared → Prop)
    (turn : ∀ n s, I n s → wpAny (model prog w) A (pyNext it) (fun r s1 => (r = none ∧ R (.ok .next) s1) ∨ ∃ v, r = some v ∧ wpAny (model prog w) A (letOwnedTupleGo target it v) (fun _ s2 => wpAny (model prog w) A (assign target env v) (fun _ s3 =>
      wpAny (model prog w) A (ifsOf ifs env) (fun ok s4 => if ok = true then wpAny (model prog w) A (eval elt env) (fun x s5 => wpAny (model prog w) A (call (.builtin "list.append") [acc, x]) (fun _ s6 => ∃ m, m < n ∧ I m s6) (fun _ _ => False) s5) (fun _ _ => False) s4
        else ∃ m, m < n ∧ I m s4) (fun _ _ => False) s3) (fun _ _ => False) s2) (fun _ _ => False) s1) (fun _ _ => False) s)
    (n : Nat) (h : I n s) : codeAny (model prog w) A (.compLoop (.ListComp elt [⟨target, iter, ifs, 0⟩] scope pos) 0 it acc env) R s := by
  have no : ∀ {α : Type} {E : Value → Shared → Prop} {t : Sem α} {Q : α → Shared → Prop} {u : Shared}, wpAny (model prog w) A t Q (fun _ _ => False) u → wpAny (model prog w) A t Q E u := fun z => wpAny_mono z (fun _ _ q => q) fun _ _ q => q.elim
  refine codeAny_loop rfl I (fun n s hI => wpAny_noted ?_) n h
  rw [compTurn_list]
  refine wpAny_bind (wpAny_standAt (wpAny_bind (wpAny_mono (turn n s hI) (fun r s1 q => ?_) fun _ _ z => z.elim)))
  rcases q with ⟨rfl, q⟩ | ⟨v, rfl, q⟩
  · exact wpAny_pure q
  · refine wpAny_bind (no (thn q fun _ s2 q2 => wpAny_bind (no (thn q2 fun _ s3 q3 => wpAny_bind (no (thn q3 fun ok s4 q4 => ?_))))))
    cases ok with
    | false => exact wpAny_pure ⟨rfl, q4⟩
    | true => exact wpAny_bind (wpAny_bind (no (thn q4 fun x s5 q5 => wpAny_bind (no (thn q5 fun _ s6 q6 => wpAny_pure (wpAny_pure ⟨rfl, q6⟩))))))
noncomputable def compQF (σ0 : L2.St) (J : It) (g : TG) (tc : TT) (te : TE) (Q : VK) (H1 : Hp) : Prop := ∀ D, H1 D = none → ∃ W : Nat → Nat → List V → L2.St → Hp → Prop, (∃ m, W 0 m [] σ0 (upd H1 D (.lst []))) ∧ ∀ i m ys τ H, W i m ys τ H → H D = some (.lst ys) ∧
  ((J.stop i H ∧ Q (.ref D) H) ∨ (J.go i H ∧ ys.length < sizeLine ∧ ∀ v H', J.yld i H v H' → g v τ H' fun τ2 H2 => tc τ2 H2 fun ok H3 => if ok = true then te τ2 H3 fun y H4 => H4 D = some (.lst ys) ∧ ∃ m', m' < m ∧ W (i + 1) m' (ys ++ [y]) τ2 (upd H4 D (.lst (ys ++ [y])))
    else ∃ m', m' < m ∧ W (i + 1) m' ys τ2 H3))
section
variable {X : Cx} {pins : List (Addr × Obj)} {σ : L2.St} {H : Hp} {s : Shared} {scope : Scope} {fv : List Str} {js : List Nat} {target iter elt : Expr} {ifs : List Expr} {pos : Pos} {g : TG} {tc : TT} {te : TE}
theorem comp_blockF {E : Value → Shared → Prop} {J : It} {fp : List Addr} {it : Addr} {tn : Nat → Heap → Prop} {Q : VK} {RR : Value → Addr → Result → Shared → Prop} (tg : List Str) (I : Inv X pins σ H s) (hc : X.calm = true)
    (S : CompSc X scope fv js) (T : Turn X.prog X.w X.K target J fp it tn) (st : tn 0 s.heap) (hf : ∀ b ∈ fp, FpOk X pins H b)
    (hg : ∀ cl C s₀ H₀ ex, PG (compCxF X scope (tg ++ fv) cl C s₀ H₀ ex) target g) (hi : ∀ cl C s₀ H₀ ex, PIfs (compCxF X scope (tg ++ fv) cl C s₀ H₀ ex) ifs tc) (he : ∀ cl C s₀ H₀ ex, PE (compCxF X scope (tg ++ fv) cl C s₀ H₀ ex) elt te) (q : compQF (startF σ tg.length js) J g tc te Q H)
    (hRR : ∀ D C H' s' m, s'.os = s.os → AllBare s'.gens → Un (frs X.stack) fp H H' s.heap s'.heap → HOk X.prog X.w H' s'.heap → s'.heap.Ns C m → H' C = none → s.heap.objs.size ≤ C → Q (.ref D) H' → RR (.ref D) C (.ok .next) s') :
    wpAny (model X.prog X.w) X.A (newList []) (fun acc s3 => wpAny (model X.prog X.w) X.A (newFunctionEnv scope X.env.globals (closOf X.env.cells scope.names []) [] X.env.qual none .none (some X.env)) (fun cenv s4 =>
      codeAny (model X.prog X.w) X.A (.compStart (.ListComp elt [⟨target, iter, ifs, 0⟩] scope pos) 0 (.ref it) acc { cenv with scope := relabel scope X.env }) (RR acc cenv.locals) s4) E s3) E s := by
  refine wpAny_newObj_type (wpAny_newFunctionEnv S.cell (by intro y hy; simp at hy) (fun h1 hn k1 => ?_) S.kind)
  dsimp only at hn k1 ⊢
  generalize hg2 : s.heap.push { cls := .type "list", dict := none, data := .seq ([] : List Value).toArray } = g2 at hn k1 ⊢
  have hC : g2.objs.size = s.heap.objs.size + 1 := by rw [← hg2, Heap.size_push]
  have hDC : s.heap.objs.size ≠ g2.objs.size := by rw [hC]; exact Nat.ne_of_lt (Nat.lt_succ_self _)
  have hle : s.heap.objs.size ≤ g2.objs.size := by rw [hC]; exact Nat.le_succ _
  have nD : s.heap.get? s.heap.objs.size = none := Heap.get?_none_of_le (Nat.le_refl _)
  have nC : s.heap.get? g2.objs.size = none := Heap.get?_none_of_le hle
  have old : ∀ b o, s.heap.get? b = some o → h1.get? b = some o := fun b o e => k1.extBut b o (Nat.ne_of_lt (Nat.lt_of_lt_of_le (Heap.lt_size e) hle)) (Heap.get?_push_of_some _ (hg2 ▸ Heap.get?_push_of_some _ e))
  have hl : h1.get? s.heap.objs.size = some { cls := .type "list", data := .seq #[] } := k1.extBut _ _ hDC (Heap.get?_push_of_some _ (hg2 ▸ Heap.get?_push_size _ rfl))
  have ob := T.obj 0 s.heap st
  generalize hcl : closOf X.env.cells scope.names [] = cl
  have ok : (compCxF X scope (tg ++ fv) cl g2.objs.size s H fp).Ok := hcl ▸ comp_okF I S hle hf fun b hb => let ⟨o, e, _⟩ := ob b hb; ⟨o, e⟩
  have I0 : Inv (compCxF X scope (tg ++ fv) cl g2.objs.size s H fp) [] (startF σ tg.length js) (upd H s.heap.objs.size (.lst [])) { s with heap := h1, toks := s.toks + ([] : List (Str × Value)).length } := by
    subst hcl
    exact comp_startF I S ok old nD nC hDC hl hn
  have st1 : tn 0 h1 := T.keep 0 _ _ st fun b _ o e => old b o e
  obtain ⟨W, ⟨m0, w0⟩, turn⟩ := q _ (inv_none I nD)
  have fpok : ∀ {H' : Hp} {ps : List (Addr × Obj)}, (∀ p ∈ ps, p.1 ∉ fp) → (∀ b ∈ fp, H' b = none) → ∀ b ∈ fp, FpOk (compCxF X scope (tg ++ fv) cl g2.objs.size s H fp) ps H' b := fun hps hn b hb => ⟨hn b hb, (ok.exf b hb).1, ok.exfs b hb, .inl hb, (ok.exf b hb).2, fun p hp z => hps p hp (z ▸ hb)⟩
  have loop : codeAny (model X.prog X.w) X.A (.compLoop (.ListComp elt [⟨target, iter, ifs, 0⟩] scope pos) 0 (.ref it) (.ref s.heap.objs.size) (compEnvC scope cl g2.objs.size X.env)) (RR (.ref s.heap.objs.size) g2.objs.size) { s with heap := h1, toks := s.toks + ([] : List (Str × Value)).length } := by
    refine comp_loopF (fun n s' => ∃ i ys τ H', Inv (compCxF X scope (tg ++ fv) cl g2.objs.size s H fp) [] τ H' s' ∧ tn i s'.heap ∧ (∀ b ∈ fp, H' b = none) ∧ W i n ys τ H') (fun n s' hI => ?_) m0 ⟨0, [], _, _, I0, st1, fun b hb => ?_, w0⟩
    · obtain ⟨i, ys, τ, H', I1, t1, f1, w1⟩ := hI
      obtain ⟨hD, w1⟩ := turn i n ys τ H' w1
      rcases w1 with ⟨stop, qn⟩ | ⟨go, hz, step⟩
      · refine thn (T.done (compCxF X scope (tg ++ fv) cl g2.objs.size s H fp) rfl rfl rfl hc i [] s' τ H' _ I1 (fpok (by simp) f1) t1 stop) fun r s2 ⟨hr, I2⟩ => .inl ⟨hr, ?_⟩
        obtain ⟨m, hn2, _⟩ := I2.loc
        exact hRR _ _ H' s2 m I2.os I2.bare I2.base I2.hok hn2 I2.free hle qn
      · refine thn (T.item (compCxF X scope (tg ++ fv) cl g2.objs.size s H fp) rfl rfl rfl hc i [] s' τ H' _ I1 (fpok (by simp) f1) t1 go) fun r s2 ⟨u, hr, h2⟩ => .inr ⟨u, hr, thn h2 fun _ s3 ⟨x, H3, I3, r3, y3, t3, f3⟩ => ?_⟩
        have I3' := I3.pinned (fpok (by simp) f3) (T.obj _ _ t3)
        have back : ∀ {s6 : Shared} {τ4 : L2.St} {H6 : Hp}, Inv (compCxF X scope (tg ++ fv) cl g2.objs.size s H fp) ([] ++ pinsAt fp s3.heap) τ4 H6 s6 → tn (i + 1) s6.heap ∧ ∀ b ∈ fp, H6 b = none := fun I6 =>
          ⟨T.keep _ _ _ t3 fun b hb o e => (I6.pin (b, o) (List.mem_append_right _ (List.mem_append_right _ (mem_pinsAt hb e)))).1, fun b hb => by
            obtain ⟨o, e, _⟩ := T.obj _ _ t3 b hb
            exact (I6.pin (b, o) (List.mem_append_right _ (List.mem_append_right _ (mem_pinsAt hb e)))).2.1⟩
        refine thn ((hg _ _ _ _ _) _ s3 τ H3 x u _ I3' r3 (step x H3 y3)) fun _ s4 ⟨τ4, H4, I4, q4⟩ => ?_
        refine thn ((hi _ _ _ _ _).run _ s4 τ4 H4 _ I4 q4) fun b s5 ⟨H5, I5, q5⟩ => ?_
        cases b with
        | false =>
          obtain ⟨m', hm, w5⟩ := (show ∃ m', m' < n ∧ W (i + 1) m' ys τ4 H5 from q5)
          obtain ⟨b1, b2⟩ := back I5
          exact ⟨m', hm, i + 1, _, τ4, _, I5.unpinned, b1, b2, w5⟩
        | true =>
          refine thn ((he _ _ _ _ _) _ s5 τ4 H5 _ I5 q5) fun z s6 ⟨y, H6, I6, r6, hD6, m', hm, w6⟩ => ?_
          refine thn (mt_append _ s6 τ4 H6 (.ref s.heap.objs.size) [y] (.ref s.heap.objs.size) [z] (fun _ H7 => H7 = upd H6 s.heap.objs.size (.lst (ys ++ [y]))) I6 rfl (.cons r6 .nil) ⟨_, ys, y, rfl, rfl, hD6, hz, rfl⟩) fun _ s7 ⟨v7, H7, I7, _, e7⟩ => ?_
          subst e7
          obtain ⟨b1, b2⟩ := back I7
          exact ⟨m', hm, i + 1, _, τ4, _, I7.unpinned, b1, b2, w6⟩
    · obtain ⟨o, e, _⟩ := ob b hb
      rw [upd_ne (Nat.ne_of_lt (Heap.lt_size e))]
      exact (hf b hb).1
  exact codeAny_compStart_list loop (T.self _ 0 _ _ _ st1 loop)
noncomputable def tCompF (n : Nat) (js : List Nat) (wi : TI) (g : TG) (tc : TT) (te : TE) : TE := fun σ H Q => wi σ H fun J H1 => compQF (startF σ n js) J g tc te Q H1
theorem pe_compF {wi : TI} (tg : List Str) (hc : X.calm = true) (S : CompSc X scope fv js) (hi : PI X target iter wi)
    (hg : ∀ cl C s₀ H₀ ex, PG (compCxF X scope (tg ++ fv) cl C s₀ H₀ ex) target g) (hf : ∀ cl C s₀ H₀ ex, PIfs (compCxF X scope (tg ++ fv) cl C s₀ H₀ ex) ifs tc) (he : ∀ cl C s₀ H₀ ex, PE (compCxF X scope (tg ++ fv) cl C s₀ H₀ ex) elt te) (hs : ∀ x, foldedSetIterable iter X.env x = pure x := by intro _; rfl) :
    PE X (.ListComp elt [⟨target, iter, ifs, 0⟩] scope pos) (tCompF tg.length js wi g tc te) := by
  constructor; intro pins s σ H Q I h
  rw [eval_ListComp]
  refine wpAny_comprehension_free (use := none) rfl hs (S.clos I.ok) S.kind S.names (thn (hi pins s σ H _ I h) fun v s1 h1 => thn h1 fun itv s2 h2 => ?_)
  obtain ⟨it, fp, tn, J, H2, rfl, I2, T, st2, f2, q⟩ := h2
  refine comp_blockF (RR := fun acc C => compPost (model X.prog X.w) X.A X.xe none (EP X pins σ Q) acc C) tg I2 hc S T st2 f2 hg hf he q fun D C H' s' m os bare un hok hn nC hC qq => ⟨m, hn, fun h' k => ?_⟩
  obtain ⟨IX, fC⟩ := comp_after I2 f2 os bare un hok nC hC
  exact ⟨.ref D, H', inv_but IX fC k, rfl, qq⟩
theorem ps_compF {wi : TI} {i : Nat} {y : Str} {py spos : Pos} (tg : List Str) (hc : X.calm = true) (hN : X.N.Nodup) (hy : X.N[i]? = some y) (hk : X.env.scope.names.lookup y = some .local) (S : CompSc X scope fv js) (hi : PI X target iter wi)
    (hsw : swapsWith (.ListComp elt [⟨target, iter, ifs, 0⟩] scope pos) (some (.Name y py)) spos.line X.env = pure true)
    (hg : ∀ cl C s₀ H₀ ex, PG (compCxF X scope (tg ++ fv) cl C s₀ H₀ ex) target g) (hf : ∀ cl C s₀ H₀ ex, PIfs (compCxF X scope (tg ++ fv) cl C s₀ H₀ ex) ifs tc) (he : ∀ cl C s₀ H₀ ex, PE (compCxF X scope (tg ++ fv) cl C s₀ H₀ ex) elt te) (hs : ∀ x, foldedSetIterable iter X.env x = pure x := by intro _; rfl) :
    PS X (.Assign [.Name y py] (.ListComp elt [⟨target, iter, ifs, 0⟩] scope pos) spos) (fun D σ H => tCompF tg.length js wi g tc te σ H fun v H1 => D.nx (σ.set i (some v)) H1) := by
  constructor; intro pins s σ H D I h
  rw [exec_Assign_Name_used _ _ _ _ hsw]
  refine wpAny_bind (wpAny_standAt (wpAny_bind (wpAny_bind (wpAny_mono (Q := fun _ s' => SP X pins D .next s') (E := X.xe) (wpAny_comprehension_free (use := some (assign (.Name y py) X.env)) rfl hs (S.clos I.ok) S.kind S.names
    (thn (hi pins s σ H _ I h) fun v s1 h1 => thn h1 fun itv s2 h2 => ?_)) (fun _ s' q => wpAny_pure (wpAny_pure q)) fun _ _ z => z))))
  obtain ⟨it, fp, tn, J, H2, rfl, I2, T, st2, f2, q⟩ := h2
  refine comp_blockF (RR := fun acc C => compPost (model X.prog X.w) X.A X.xe (some (assign (.Name y py) X.env)) (fun _ s' => SP X pins D .next s') acc C) tg I2 hc S T st2 f2 hg hf he q fun L C H' s' m os bare un hok hn nC hC qq => ?_
  obtain ⟨IX, fC⟩ := comp_after I2 f2 os bare un hok nC hC
  refine wpAny_assign_Name (store_ok2 IX hN hy (.inl hk) (v := .ref L) rfl (fun s3 I3 ⟨a, k3, ha⟩ => ?_) (.inr hk))
  have ne : C ≠ a := by
    rcases ha with z | z
    · rw [z]; exact fC.2.1
    · exact fun w' => fC.2.2.2.2.1 y a z w'.symm
  exact ⟨m, hn.sameBut k3 ne, fun h' k => ⟨_, H', inv_but I3 fC k, qq⟩⟩
end
theorem allc_nil {α : Type} {P : α → Prop} : ∀ x ∈ ([] : List α), P x := fun _ h => by cases h
theorem allc_cons {α : Type} {P : α → Prop} {a : α} {l : List α} (h : P a) (t : ∀ x ∈ l, P x) : ∀ x ∈ a :: l, P x := fun x hx => by
  rcases List.mem_cons.mp hx with e | e
  · exact e ▸ h
  · exact t x e
theorem ix_tupK {X : Cx} {K : PySem.W.Frag} (hK : X.K = K) : IxR X (rIxT K) := hK ▸ ix_tup
theorem ix_listK {X : Cx} {K : PySem.W.Frag} (hK : X.K = K) : IxR X (rIxL K) := hK ▸ ix_list
theorem pi_listK {X : Cx} {K : PySem.W.Frag} {tg l : Expr} {tl : TE} (hK : X.K = K) (hl : PE X l tl) : PI X tg l (iList K tl) := by
  subst hK
  exact pi_list hl
theorem compQF_map {σ0 fs : L2.St} {k : Nat} {J : It} {g : TG} {tc : TT} {te : TE} {Q : VK} {H1 : Hp} (n : Nat) (f : Nat → Option V) (h0 : σ0 = List.replicate k none ++ fs) (hz : n ≤ sizeLine) (hgo : ∀ i H, Same H1 H → i < n → J.go i H) (hstop : ∀ H, Same H1 H → J.stop n H)
    (step : ∀ i H (ts : L2.St) v H' (R : Option V → L2.St → Hp → Prop), Same H1 H → i < n → ts.length = k → J.yld i H v H' → (∀ (ts2 : L2.St) H3, ts2.length = k → Same H H3 → R (f i) (ts2 ++ fs) H3) →
      g v (ts ++ fs) H' fun τ2 H2 => tc τ2 H2 fun ok H3 => if ok = true then te τ2 H3 fun y H4 => R (some y) τ2 H4 else R none τ2 H3)
    (fin : ∀ D H', H1 D = none → Same H1 H' → H' D = some (.lst ((List.range n).filterMap f)) → Q (.ref D) H') : compQF σ0 J g tc te Q H1 := by
  intro D hD
  refine ⟨fun i m ys τ H => m = n - i ∧ i ≤ n ∧ ys = (List.range i).filterMap f ∧ (∃ ts : L2.St, ts.length = k ∧ τ = ts ++ fs) ∧ Same H1 H ∧ H D = some (.lst ys), ⟨n, rfl, Nat.zero_le _, rfl, ⟨_, List.length_replicate, h0⟩, Same.upd hD, upd_same⟩, ?_⟩
  rintro i m ys τ H ⟨rfl, hi, rfl, ⟨ts, ht, rfl⟩, ss, hd⟩
  refine ⟨hd, ?_⟩
  by_cases hlt : i < n
  · have hl : ((List.range i).filterMap f).length < sizeLine := Nat.lt_of_le_of_lt (List.length_filterMap_le _ _) (by rw [List.length_range]; omega)
    refine .inr ⟨hgo i H ss hlt, hl, fun v H' y => step i H ts v H' (fun o τ2 H3 => match o with
      | some y => H3 D = some (.lst ((List.range i).filterMap f)) ∧ ∃ m', m' < n - i ∧ m' = n - (i + 1) ∧ i + 1 ≤ n ∧ (List.range i).filterMap f ++ [y] = (List.range (i + 1)).filterMap f ∧ (∃ ts : L2.St, ts.length = k ∧ τ2 = ts ++ fs) ∧ Same H1 (upd H3 D (.lst ((List.range i).filterMap f ++ [y]))) ∧ upd H3 D (.lst ((List.range i).filterMap f ++ [y])) D = some (.lst ((List.range i).filterMap f ++ [y]))
      | none => ∃ m', m' < n - i ∧ m' = n - (i + 1) ∧ i + 1 ≤ n ∧ (List.range i).filterMap f = (List.range (i + 1)).filterMap f ∧ (∃ ts : L2.St, ts.length = k ∧ τ2 = ts ++ fs) ∧ Same H1 H3 ∧ H3 D = some (.lst ((List.range i).filterMap f))) ss hlt ht y fun ts2 H3 h2 s3 => ?_⟩
    cases e : f i with
    | none =>
      refine ⟨n - (i + 1), by omega, rfl, hlt, ?_, ⟨ts2, h2, rfl⟩, ss.trans s3, s3 _ _ hd⟩
      rw [List.range_succ, List.filterMap_append]
      simp [e]
    | some y =>
      refine ⟨s3 _ _ hd, n - (i + 1), by omega, rfl, hlt, ?_, ⟨ts2, h2, rfl⟩, (ss.trans s3).again hD, upd_same⟩
      rw [List.range_succ, List.filterMap_append]
      simp [e]
  · have e : i = n := by omega
    subst e
    exact .inl ⟨hstop H ss, fin D H hD ss hd⟩
end My
namespace My
open PySem PySem.Spec PyProof.Rows L2
section
variable {X : Cx} {pins : List (Addr × Obj)} {σ : L2.St} {H : Hp} {s : Shared} {a : Addr} {kvs : List (Key × V)} {k : Key} {u r : Value} {d : V} {A : Around} {E : Value → Shared → Prop}
end
section
variable {X : Cx} {o e f : Expr} {td ty tx : TE} {apos cpos : Pos}
end
section
variable {K : PySem.W.Frag}
end
theorem dts_ints {K : PySem.W.Frag} {H : Hp} : ∀ ms : List Int, Dts K H (ms.map V.int) (ms.map PyData.int)
  | [] => .nil
  | m :: r => .cons (.int m) (dts_ints r)
noncomputable def rAppendA : V → List V → Hp → VK → Prop := fun x vs H Q => ∃ l xs y, x = .ref l ∧ vs = [y] ∧ H l = some (.lst xs) ∧ xs.length < sizeLine ∧ ∀ H', H' l = some (.lst (xs ++ [y])) → (∀ b o, b ≠ l → H b = some o → H' b = some o) → Q .non H'
theorem mt_appendA {X : Cx} : MtM X "list.append" rAppendA := by
  intro pins s σ H x vs v us Q I rx rv h
  obtain ⟨l, xs, y, ex, ev, hH, hz, q⟩ := h
  exact mt_append pins s σ H x vs v us Q I rx rv ⟨l, xs, y, ex, ev, hH, hz, q _ upd_same fun b o n e => by rw [upd_ne n]; exact e⟩
theorem eqv_nil {ms : List Int} (h : ms ≠ []) : PyData.eqv (.list (ms.map PyData.int)) (.list []) = false := by
  cases ms with
  | nil => exact absurd rfl h
  | cons m r => rfl
noncomputable def rSetA : V → V → V → Hp → (Hp → Prop) → Prop := fun o i v H Q => ∃ p xs k j, o = .ref p ∧ i = .int k ∧ H p = some (.lst xs) ∧ ixN xs.length k = some j ∧ ∀ H', H' p = some (.lst (xs.set j v)) → (∀ b o, b ≠ p → H b = some o → H' b = some o) → Q H'
theorem set_listA {X : Cx} : PSet X rSetA := by
  intro pins s σ H o i v ov iv u Q I ro ri rv h
  obtain ⟨p, xs, k, j, eo, ei, hp, hj, q⟩ := h
  exact set_list pins s σ H o i v ov iv u Q I ro ri rv ⟨p, xs, k, j, eo, ei, hp, hj, q _ upd_same fun b o n e => by rw [upd_ne n]; exact e⟩
noncomputable def rClearA : V → List V → Hp → VK → Prop := fun x vs H Q => ∃ l xs, x = .ref l ∧ vs = [] ∧ H l = some (.lst xs) ∧ ∀ H', (∀ b o, b ≠ l → H b = some o → H' b = some o) → Q .non H'
theorem mt_clearA {X : Cx} : MtM X "list.clear" rClearA := by
  intro pins s σ H x vs v us Q I rx rv h
  obtain ⟨l, xs, ex, ev, hH, q⟩ := h
  exact mt_clear pins s σ H x vs v us Q I rx rv ⟨l, xs, ex, ev, hH, q _ fun b o n e => by rw [upd_ne n]; exact e⟩
theorem shaped_ints (ms : List Int) : SeqAt.shaped (.list (ms.map PyData.int)) = true := by
  show (PyData.canLayAll0 (ms.map .int) && decide (PyData.depthAll (ms.map .int) + 1 ≤ 64)) = true
  rw [canLayAll_ints ms, depthAll_ints ms]
  rfl
end My
namespace My
open PySem PySem.Spec PyProof.Rows L2
section
variable {P : Program} {w : World} {K : PySem.W.Frag}
end
section
variable {X : Cx}
end
end My
namespace My
open PySem PySem.Spec PyProof.Rows L2
section
variable {X : Cx}
end
end My
namespace My
open PySem PySem.Spec PyProof.Rows L2
section
variable {P : Program} {w : World} {K : PySem.W.Frag}
end
section
variable {X : Cx}
end
section
variable {X : Cx}
end
end My
namespace My
open PySem PySem.Spec PyProof.Rows L2
section
variable {X : Cx} {pins : List (Addr × Obj)} {σ : L2.St} {H : Hp} {s : Shared} {a b : Addr} {kvs : List (Key × V)}
end
section
variable {X : Cx}
end
end My
namespace My
open PySem PySem.Spec PyProof.Rows L2
end My
namespace My
open PySem PySem.Spec PyProof.Rows L2 Builtin.Str
noncomputable def partV (z y : Str) : List V := match occurrences z y 0 z.length 1 with
  | i :: _ => [.str (strSub z 0 i), .str y, .str (strSub z (i + y.length) z.length)]
  | [] => [.str z, .str Str.empty, .str Str.empty]
theorem mt_partition {X : Cx} : MtR X "str.partition" (fun x xs H Q => ∃ z y : Str, x = .str z ∧ xs = [V.str y] ∧ 1 ≤ y.length ∧ z.length ≤ sizeLine ∧ ∀ p, H p = none → Q (.ref p) (upd H p (.tup (partV z y)))) := by
  intro pins s σ H x xs v us Q I rx rv h
  obtain ⟨z, y, rfl, rfl, hy, hz, q⟩ := h
  obtain ⟨t, rfl⟩ := rx
  obtain ⟨u, rfl, t', rfl⟩ := vals1 rv
  have hy0 : (y.length == 0) = false := by
    have : ¬ y.length = 0 := by omega
    simpa using this
  have nD : s.heap.get? s.heap.objs.size = none := Heap.get?_none_of_le (Nat.le_refl _)
  have fin : ∀ (us : List Value) (k : Nat), Vals (partV z y) us → EP X pins σ Q (.ref s.heap.objs.size) { s with heap := s.heap.push { cls := .type "tuple", data := .seq us.toArray }, toks := k } := fun us k r =>
    ⟨.ref _, _, inv_new (o := .tup (partV z y)) I (fun b o e => Heap.get?_push_of_some _ e) nD ⟨by unfold partV; split <;> (show 3 ≤ sizeLine; decide), us, r, _, Heap.get?_push_size _ rfl, rfl, _, rfl⟩, rfl, q _ (inv_none I nD)⟩
  refine call_meets F.slot_str_partition (typeIs_str _ _ _) F.entry_str_partition (F.args_str_partition_2 _ _) (meets_str_partition z y t t' hy0 hz) ?_
  cases e : occurrences z y 0 z.length 1 with
  | nil =>
    have ep : partV z y = [.str z, .str Str.empty, .str Str.empty] := by unfold partV; rw [e]
    exact fin _ _ (by rw [ep]; exact .cons ⟨_, rfl⟩ (.cons ⟨_, rfl⟩ (.cons ⟨_, rfl⟩ .nil)))
  | cons i r =>
    have ep : partV z y = [.str (strSub z 0 i), .str y, .str (strSub z (i + y.length) z.length)] := by unfold partV; rw [e]
    exact fin _ _ (by rw [ep]; exact .cons ⟨_, rfl⟩ (.cons ⟨_, rfl⟩ (.cons ⟨_, rfl⟩ .nil)))
end My
namespace My
open PySem PySem.Spec PyProof.Rows L2 Builtin.Str PySem.StrLaws
noncomputable def semi : Str := ⟨#[59, 32]⟩
noncomputable def Led (c d : Nat) (l : List Nat) : Prop := ∀ k : Nat, l[k]? = some c → l[k + 1]? = some d
theorem at_two {x : Str} {k : Nat} (h1 : x.cps.toList[k]? = some 59) (h2 : x.cps.toList[k + 1]? = some 32) : At x semi x.length k := by
  obtain ⟨l1, e1⟩ := List.getElem?_eq_some_iff.mp h1
  obtain ⟨l2, e2⟩ := List.getElem?_eq_some_iff.mp h2
  refine ⟨?_, ?_⟩
  · show k + 2 ≤ x.cps.size
    rw [Array.length_toList] at l2
    omega
  · rw [subAt_eq]
    show ((x.cps.toList.drop k).take 2 == [59, 32]) = true
    rw [List.drop_eq_getElem_cons l1, List.drop_eq_getElem_cons l2, e1, e2]
    simp
theorem gap_free {x : Str} {a b : Nat} (hl : Led 59 32 x.cps.toList) (hb : b ≤ x.length) (hn : ∀ k, a ≤ k → k < b → ¬ At x semi x.length k) : 59 ∉ (strSub x a b).cps.toList := by
  intro hm
  rw [strSub_toList] at hm
  obtain ⟨j, hj, e⟩ := List.getElem_of_mem hm
  rw [List.length_take, List.length_drop] at hj
  rw [List.getElem_take, List.getElem_drop] at e
  have e1 : x.cps.toList[a + j]? = some 59 := by rw [List.getElem?_eq_getElem (by omega), e]
  exact hn (a + j) (by omega) (by omega) (at_two e1 (hl _ e1))
theorem gaps_free {x : Str} (hl : Led 59 32 x.cps.toList) : ∀ (cuts : List Nat) (a f : Nat), ChainG x semi x.length a cuts f → (∀ k, f ≤ k → ¬ At x semi x.length k) → ∀ p ∈ partsFrom x semi.length a cuts, 59 ∉ p.cps.toList := by
  intro cuts
  induction cuts with
  | nil =>
    intro a f h hn p hp
    cases (show f = a from h)
    rw [List.mem_singleton.mp hp]
    exact gap_free hl (Nat.le_refl _) fun k h1 _ => hn k h1
  | cons q r ih =>
    intro a f h hn p hp
    rcases List.mem_cons.mp hp with z | z
    · rw [z]
      exact gap_free hl (by have := h.2.1.1; omega) h.2.2.1
    · exact ih _ f h.2.2.2 hn p z
theorem split_semi_free {x : Str} (hl : Led 59 32 x.cps.toList) : ∀ p ∈ Txt.split x semi, 59 ∉ p.cps.toList := by
  obtain ⟨f, hG, hn⟩ := occ_tight x semi (by decide)
  unfold Txt.split
  split
  · rename_i hc
    intro p hp hm
    rw [List.mem_singleton.mp hp] at hm
    obtain ⟨j, hj, e⟩ := List.getElem_of_mem hm
    have e1 : x.cps.toList[j]? = some 59 := by rw [List.getElem?_eq_getElem hj, e]
    have l2 := (List.getElem?_eq_some_iff.mp (hl _ e1)).1
    rw [Array.length_toList] at l2
    rw [Bool.or_eq_true, decide_eq_true_eq, decide_eq_true_eq] at hc
    rcases hc with h | h
    · have : x.cps.size < 2 := h
      omega
    · have k1 : Builtin.Str.strKind semi = 1 := by decide +kernel
      rw [k1] at h
      unfold Builtin.Str.strKind at h
      split at h
      · omega
      · split at h <;> omega
  · split
    · rename_i he
      intro p hp
      rw [List.mem_singleton.mp hp]
      rw [List.isEmpty_iff.mp he] at hG
      cases (show f = 0 from hG)
      rw [← sub_whole x]
      exact gap_free hl (Nat.le_refl _) fun k h1 _ => hn k h1
    · rw [partsBetween_eq]
      exact gaps_free hl _ 0 f hG hn
noncomputable def pre (d : Nat) : List (List Nat) → List (List Nat)
  | [] => []
  | p :: r => p :: r.map (d :: ·)
theorem glue_cons (c d : Nat) (q : List Nat) (R : List (List Nat)) : d :: glue c (q :: R) = glue c ((d :: q) :: R) := by
  cases R <;> rfl
theorem semi_codes : ∀ ps : List Str, (Str.join semi ps).cps.toList = glue 59 (pre 32 (ps.map (·.cps.toList)))
  | [] => rfl
  | [p] => rfl
  | p :: q :: r => by
    have ih := semi_codes (q :: r)
    show (p ++ semi ++ Str.join semi (q :: r)).cps.toList = p.cps.toList ++ 59 :: glue 59 ((32 :: q.cps.toList) :: (r.map (·.cps.toList)).map (32 :: ·))
    rw [app_codes, app_codes, ih, ← glue_cons]
    show (p.cps.toList ++ [59, 32]) ++ glue 59 (q.cps.toList :: (r.map (·.cps.toList)).map (32 :: ·)) = _
    simp
theorem glue_led : ∀ (R : List (List Nat)) (p : List Nat), 59 ∉ p → (∀ q ∈ R, 59 ∉ q) → Led 59 32 (glue 59 (p :: R.map (32 :: ·)))
  | [], p, h, _ => fun k e => absurd (List.mem_of_getElem? e) h
  | q :: R, p, h, hR => by
    have ih := glue_led R (32 :: q) (by intro z; rcases List.mem_cons.mp z with y | y; · cases y
                                        · exact hR q List.mem_cons_self y) (fun x hx => hR x (List.mem_cons_of_mem _ hx))
    intro k e
    have eg : glue 59 (p :: (q :: R).map (32 :: ·)) = p ++ 59 :: glue 59 ((32 :: q) :: R.map (32 :: ·)) := rfl
    rw [eg] at e ⊢
    rcases Nat.lt_trichotomy k p.length with z | z | z
    · rw [List.getElem?_append_left z] at e
      exact absurd (List.mem_of_getElem? e) h
    · subst z
      rw [List.getElem?_append_right (by omega), show p.length + 1 - p.length = 1 by omega, List.getElem?_cons_succ, ← glue_cons]
      rfl
    · rw [List.getElem?_append_right (by omega)] at e ⊢
      obtain ⟨n, hn⟩ : ∃ n, k - p.length = n + 1 := ⟨k - p.length - 1, by omega⟩
      rw [hn, List.getElem?_cons_succ] at e
      rw [show k + 1 - p.length = (n + 1) + 1 by omega, List.getElem?_cons_succ]
      exact ih n e
theorem strs_inj : ∀ {as bs : List Str}, as.map (·.cps.toList) = bs.map (·.cps.toList) → as = bs
  | [], [], _ => rfl
  | [], _ :: _, e => by cases e
  | _ :: _, [], e => by cases e
  | a :: r, b :: r', e => by
    simp only [List.map_cons, List.cons.injEq] at e
    rw [ext_toList e.1, strs_inj e.2]
theorem pre_free {us : List (List Nat)} (h : ∀ u ∈ us, 59 ∉ u) : ∀ u ∈ pre 32 us, 59 ∉ u := by
  cases us with
  | nil => intro u hu; cases hu
  | cons p r =>
    intro u hu
    rcases List.mem_cons.mp hu with z | z
    · rw [z]; exact h p List.mem_cons_self
    · obtain ⟨q, hq, rfl⟩ := List.mem_map.mp z
      intro y
      rcases List.mem_cons.mp y with y | y
      · cases y
      · exact h q (List.mem_cons_of_mem _ hq) y
theorem pre_inj {us vs : List (List Nat)} (h : pre 32 us = pre 32 vs) : us = vs := by
  cases us with
  | nil => cases vs with
    | nil => rfl
    | cons _ _ => cases h
  | cons p r => cases vs with
    | nil => cases h
    | cons q r' =>
      simp only [pre, List.cons.injEq] at h
      rw [h.1, (List.map_inj_right (fun x y e => (List.cons.inj e).2)).mp h.2]
theorem split_semi {ps : List Str} (h : ps ≠ []) (hf : ∀ p ∈ ps, 59 ∉ p.cps.toList) : Txt.split (Str.join semi ps) semi = ps := by
  have free : ∀ u ∈ ps.map (·.cps.toList), 59 ∉ u := fun u hu => by
    obtain ⟨x, hx, rfl⟩ := List.mem_map.mp hu
    exact hf x hx
  have hl : Led 59 32 (Str.join semi ps).cps.toList := by
    rw [semi_codes]
    cases ps with
    | nil => exact absurd rfl h
    | cons p r => exact glue_led (r.map (·.cps.toList)) p.cps.toList (hf p List.mem_cons_self) (fun q hq => free q (List.mem_cons_of_mem _ hq))
  have e := congrArg (fun x : Str => x.cps.toList) (StrLaws.join_split (Str.join semi ps) semi)
  have hs := split_pos (Str.join semi ps) semi
  generalize hq : Txt.split (Str.join semi ps) semi = qs at e hs
  have hqf : ∀ u ∈ qs.map (·.cps.toList), 59 ∉ u := fun u hu => by
    obtain ⟨x, hx, rfl⟩ := List.mem_map.mp hu
    exact split_semi_free hl x (hq ▸ hx)
  rw [semi_codes, semi_codes] at e
  have q0 : pre 32 (qs.map (·.cps.toList)) ≠ [] := by
    cases qs with
    | nil => simp at hs
    | cons _ _ => intro z; cases z
  have p0 : pre 32 (ps.map (·.cps.toList)) ≠ [] := by
    cases ps with
    | nil => exact absurd rfl h
    | cons _ _ => intro z; cases z
  exact strs_inj (pre_inj (glue_inj q0 p0 (pre_free hqf) (pre_free free) e))
end My
namespace My
open PySem PySem.Spec PyProof.Rows L2
section
variable {X : Cx}
end
section
open Builtin.Str PySem.StrLaws
theorem part_at {w t : Str} {c : Nat} (h : c ∉ w.cps.toList) : partV (w ++ ⟨#[c]⟩ ++ t) ⟨#[c]⟩ = [.str w, .str ⟨#[c]⟩, .str t] := by
  have ec : (w ++ ⟨#[c]⟩ ++ t).cps.toList = w.cps.toList ++ c :: t.cps.toList := by
    rw [app_codes, app_codes]
    simp
  have el : (w ++ ⟨#[c]⟩ ++ t).length = w.cps.toList.length + (1 + t.cps.toList.length) := by
    have e := congrArg List.length ec
    rw [Array.length_toList] at e
    show (w ++ ⟨#[c]⟩ ++ t).cps.size = _
    rw [e, List.length_append, List.length_cons]
    omega
  generalize w ++ ⟨#[c]⟩ ++ t = x at ec el
  have hat : At x ⟨#[c]⟩ x.length w.cps.toList.length := (subAt_one x c _).mpr (by rw [ec, List.getElem?_append_right (Nat.le_refl _), Nat.sub_self]; rfl)
  unfold partV
  rcases occ_head x ⟨#[c]⟩ 1 (Nat.le_refl 1) with ⟨_, hn⟩ | ⟨i, r, eo, ha, hn⟩
  · exact absurd hat (hn _)
  · have hi : i = w.cps.toList.length := by
      rcases Nat.lt_trichotomy i w.cps.toList.length with z | z | z
      · have e := (subAt_one x c i).mp ha
        rw [ec, List.getElem?_append_left z] at e
        exact absurd (List.mem_of_getElem? e) h
      · exact z
      · exact absurd hat (hn _ z)
    subst hi
    rw [eo]
    have e1 : strSub x 0 w.cps.toList.length = w := ext_toList (by rw [strSub_toList, ec]; simp)
    have e2 : strSub x (w.cps.toList.length + (⟨#[c]⟩ : Str).length) x.length = t := ext_toList (by
      rw [strSub_toList, ec, el]
      show ((w.cps.toList ++ c :: t.cps.toList).drop (w.cps.toList.length + 1)).take _ = _
      rw [List.drop_append, List.drop_eq_nil_of_le (by omega), List.nil_append, show w.cps.toList.length + 1 - w.cps.toList.length = 1 by omega]
      show (t.cps.toList).take _ = _
      exact List.take_of_length_le (by show _ ≤ w.cps.toList.length + (1 + t.cps.toList.length) - (w.cps.toList.length + 1); omega))
    show [V.str (strSub x 0 w.cps.toList.length), _, V.str (strSub x (w.cps.toList.length + (⟨#[c]⟩ : Str).length) x.length)] = _
    rw [e1, e2]
end
end My
namespace My
open PySem PySem.Spec PyProof.Rows L2 PyProof
section
variable {prog : Program} {w : World} {A : Around}
theorem take_one1 {ns : List Int} {j : Nat} {n : Int} (h : ns[j]? = some n) : ns.take (j + 1) = ns.take j ++ [n] := by rw [List.take_add_one, h]; rfl
end
theorem inV_ints (k : Int) : ∀ ms : List Int, inV (.int k) (ms.map V.int) = ms.contains k
  | [] => rfl
  | m :: r => by
    have ih := inV_ints k r
    unfold inV at ih ⊢
    rw [List.map_cons, List.any_cons, ih, List.contains_cons]
    show ((m == k) || _) = _
    rw [show (m == k) = (k == m) from (Bool.eq_iff_iff.mpr ⟨fun h => beq_iff_eq.mpr (beq_iff_eq.mp h).symm, fun h => beq_iff_eq.mpr (beq_iff_eq.mp h).symm⟩)]
theorem op_in_seqK {X : Cx} {K : PySem.W.Frag} (hK : X.K = K) : OpR X (compareOp .In) (rIn K false) := hK ▸ op_in_seq
end My
namespace My
open PySem PySem.Spec PyProof.Rows L2 PyProof
theorem rv_nolen : typeLookup (.type "list_reverseiterator") "__len__" = pure none := by rw [typeLookup_type, builtinLookup_eq_fast]; exact (by kernel_rfl)
theorem rv_hint : typeLookup (.type "list_reverseiterator") "__length_hint__" = pure (some (.builtin "list_reverseiterator.__length_hint__")) := by rw [typeLookup_type, builtinLookup_eq_fast]; exact (by kernel_rfl)
section
variable {prog : Program} {w : World} {A : Around} {s : Shared}
theorem rv_extend {R : Result → Shared → Prop} {l I S : Addr} {items : Array Value} {res : Value} {c0 : Nat} (hh : A.handled = none) (hl : s.heap.IsList l items) (hit : s.heap.IsRevIter I l ((items.size : Int) - 1)) (hlI : l ≠ I) (hSI : S ≠ I) (hSl : S ≠ l) (hn : items.size ≤ sizeLine)
    (hS : s.heap.get? S = some { cls := .type "list", data := .seq #[] c0 })
    (hR : ∀ h' tk acc' c', (∀ b o, b ≠ S → b ≠ I → s.heap.get? b = some o → h'.get? b = some o) → h'.get? S = some { cls := .type "list", dict := none, data := .seq acc' c', slots := #[] } → ItemsOf (fun i v => items[items.size - 1 - i]? = some v) acc' items.size → R (.ok (.ret res)) { s with heap := h', toks := tk }) :
    wpAny (model prog w) A.in1 (Builtin.List.listExtendWith (.ref S) (.ref I) res) (fun fin s' => match fin with | .done f => R (.ok f) s' | .again c' => c'.quiet = true ∧ codeAny (model prog w) A c' R s') (fun e s' => R (.error e) s') s := by
  have W := (Walks.listRev (prog := prog) (w := w) (A := A.in1) hh I l hlI items).toS
  have st0 : 0 ≤ items.size ∧ s.heap.IsRevIter I l ((items.size : Int) - 1 - ((0 : Nat) : Int)) ∧ s.heap.IsList l items := ⟨Nat.zero_le _, by simpa using hit, hl⟩
  have hSf : S ∉ [I, l] := fun hm => by
    rcases List.mem_cons.mp hm with z | z
    · exact hSI z
    · exact hSl (List.mem_singleton.mp z)
  unfold Builtin.List.listExtendWith
  have sm : Builtin.List.listSameRef (.ref S) (.ref I) = false := by simp [Builtin.List.listSameRef, hSI]
  refine wpAny_bind (wpAny_typeOf hit.typeIs ?_)
  rw [if_neg (by rw [sm]; decide)]
  refine wpAny_bind (W.self 0 _ _ _ st0 (wpAny_bind (wpAny_holding ?_)))
  unfold Builtin.List.listLengthHint
  refine wpAny_bind (wpAny_specialOf hit.typeIs rv_nolen ?_)
  show wpAny _ A.in1 (specialOf (Value.ref I) (Str.ofString "__length_hint__") >>= _) _ _ _; refine wpAny_bind (wpAny_specialOf hit.typeIs rv_hint ?_)
  generalize hid : ("list_reverseiterator.__length_hint__" : String) = id0; (fail_if_success (clear hid id0)); wp_delta; rw [show splitId id0 = some ("list_reverseiterator", "__length_hint__") from by subst hid; decide +kernel]; subst hid
  refine wpAny_bind (wpAny_isInstance (b := true) hit.typeIs (by rw [isSubtype_type]; kernel_rfl) (wpAny_pure ?_))
  rw [if_neg (by decide)]
  refine wpAny_pure ⟨plainId_quiet F.plain_extend_loop _, codeAny_extend_loopS W hn _ hSf _ items.size 0 _ _ _ rfl (Nat.zero_le _) st0 hS (ItemsOf.nil _) fun s' acc' c' hm hS' hacc => ?_⟩
  rw [Moved.eq_with hm]
  refine hR s'.heap s'.toks acc' c' (fun b ob hb hb2 e => hm.heap b ob (fun hmem => ?_) e) hS' hacc
  rcases List.mem_cons.mp hmem with z | z
  · exact hb z
  · exact hb2 (List.mem_singleton.mp z)
end
theorem vals_at {xs : List V} {its ys : List Value} (r : Vals xs its) (hl : ys.length = xs.length) (h : ∀ j v, ys[j]? = some v → its[its.length - 1 - j]? = some v) : Vals xs.reverse ys := by
  have key : ∀ {zs : List V} {us : List Value}, zs.length = us.length → (∀ (j : Nat) v, us[j]? = some v → ∃ x, zs[j]? = some x ∧ RelV x v) → Vals zs us := by
    intro zs
    induction zs with
    | nil =>
      intro us e _
      cases us with
      | nil => exact .nil
      | cons _ _ => simp at e
    | cons z r ih =>
      intro us e hh
      cases us with
      | nil => simp at e
      | cons u q =>
        obtain ⟨x, hx, rx⟩ := hh 0 u rfl
        cases hx
        exact .cons rx (ih (by simpa using e) fun j v ev => by simpa using hh (j + 1) v (by simpa using ev))
  have il := r.length
  refine key (by rw [List.length_reverse, hl]) fun j v e => ?_
  have hj : j < ys.length := (List.getElem?_eq_some_iff.mp e).1
  obtain ⟨x, hx, rx⟩ := vals_get' r (h j v e)
  refine ⟨x, ?_, rx⟩
  rw [List.getElem?_reverse (by omega), il]
  exact hx
end My
namespace My
open PySem PySem.Spec PyProof.Rows L2 PyProof
section
variable {X : Cx}
end
end My
namespace My
open PySem PySem.Spec PyProof.Rows L2 PyProof
noncomputable def Ris (xs : Array Nat) : Prop := xs.toList.Pairwise (· < ·)
theorem Ris.lt {xs : Array Nat} (h : Ris xs) {i j x y : Nat} (hij : i < j) (hi : xs[i]? = some x) (hj : xs[j]? = some y) : x < y := by
  rw [← Array.getElem?_toList] at hi hj
  obtain ⟨i1, e1⟩ := List.getElem?_eq_some_iff.mp hi
  obtain ⟨j1, e2⟩ := List.getElem?_eq_some_iff.mp hj
  have := List.pairwise_iff_getElem.mp h i j i1 j1 hij
  rw [e1, e2] at this
  exact this
theorem below_go {xs : Array Nat} (h : Ris xs) (j : Nat) : ∀ (fuel lo hi : Nat), hi - lo ≤ fuel → lo ≤ hi → hi ≤ xs.size → (∀ k x, xs[k]? = some x → k < lo → x < j) → (∀ k x, xs[k]? = some x → hi ≤ k → j ≤ x) →
    ∀ k x, xs[k]? = some x → (k < SetTable.below.go xs j fuel lo hi → x < j) ∧ (SetTable.below.go xs j fuel lo hi ≤ k → j ≤ x)
  | 0, lo, hi, hf, hle, hs, h1, h2 => fun k x e => by
    unfold SetTable.below.go
    have : lo = hi := by omega
    subst this
    exact ⟨h1 k x e, h2 k x e⟩
  | fuel + 1, lo, hi, hf, hle, hs, h1, h2 => fun k x e => by
    unfold SetTable.below.go
    by_cases hlt : lo < hi
    · rw [if_pos hlt]
      have hm1 : lo ≤ (lo + hi) / 2 := by omega
      have hm2 : (lo + hi) / 2 < hi := by omega
      have hmx : (lo + hi) / 2 < xs.size := by omega
      have em : xs[(lo + hi) / 2]? = some xs[(lo + hi) / 2] := Array.getElem?_eq_getElem hmx
      have eg : xs.getD ((lo + hi) / 2) j = xs[(lo + hi) / 2] := by simp [Array.getD, hmx]
      dsimp only
      rw [eg]
      by_cases hc : xs[(lo + hi) / 2] < j
      · rw [if_pos hc]
        refine below_go h j fuel _ hi (by omega) (by omega) hs (fun k x e hk => ?_) h2 k x e
        by_cases q : k = (lo + hi) / 2
        · subst q
          rw [em] at e
          cases e
          exact hc
        · have := h.lt (show k < (lo + hi) / 2 by omega) e em
          omega
      · rw [if_neg hc]
        refine below_go h j fuel lo _ (by omega) hm1 (by omega) h1 (fun k x e hk => ?_) k x e
        by_cases q : k = (lo + hi) / 2
        · subst q
          rw [em] at e
          cases e
          omega
        · have := h.lt (show (lo + hi) / 2 < k by omega) em e
          omega
    · rw [if_neg hlt]
      have : lo = hi := by omega
      subst this
      exact ⟨h1 k x e, h2 k x e⟩
theorem below_is {xs : Array Nat} (h : Ris xs) (j : Nat) {k x : Nat} (e : xs[k]? = some x) : (k < SetTable.below xs j → x < j) ∧ (SetTable.below xs j ≤ k → j ≤ x) := by
  unfold SetTable.below
  refine below_go h j xs.size 0 xs.size (by omega) (Nat.zero_le _) (Nat.le_refl _) (fun k x _ hk => absurd hk (Nat.not_lt_zero _)) (fun k x e hk => ?_) k x e
  have := (Array.getElem?_eq_some_iff.mp e).1
  omega
theorem below_at {xs : Array Nat} (h : Ris xs) {i x : Nat} (e : xs[i]? = some x) : SetTable.below xs x = i := by
  have hb := below_is h x e
  by_cases q : SetTable.below xs x ≤ i
  · by_cases q2 : SetTable.below xs x = i
    · exact q2
    · have hlt : SetTable.below xs x < i := by omega
      have hi : i < xs.size := (Array.getElem?_eq_some_iff.mp e).1
      have e2 : xs[SetTable.below xs x]? = some xs[SetTable.below xs x] := Array.getElem?_eq_getElem (by omega)
      have h1 := (below_is h x e2).2 (Nat.le_refl _)
      have h2 := h.lt hlt e2 e
      omega
  · have := hb.1 (by omega)
    omega
theorem not_mem_place {xs : Array Nat} (h : Ris xs) {j : Nat} (e : xs[SetTable.below xs j]? ≠ some j) : j ∉ xs.toList := fun hm => by
  obtain ⟨k, hk, ek⟩ := List.getElem_of_mem hm
  have e1 : xs[k]? = some j := by rw [← Array.getElem?_toList, List.getElem?_eq_getElem hk, ek]
  rw [below_at h e1] at e
  exact e e1
theorem Ris.insert {xs : Array Nat} (h : Ris xs) {j : Nat} (hn : j ∉ xs.toList) : Ris (SetTable.insertAt xs (SetTable.below xs j) j) := by
  unfold Ris
  rw [SetTable.toList_insertAt]
  refine List.pairwise_append.mpr ⟨h.sublist (List.take_sublist _ _), List.pairwise_cons.mpr ⟨fun b hb => ?_, h.sublist (List.drop_sublist _ _)⟩, fun a ha b hb => ?_⟩
  · obtain ⟨k, hk, ek⟩ := List.getElem_of_mem hb
    rw [List.getElem_drop] at ek
    have e1 : xs[SetTable.below xs j + k]? = some b := by rw [← Array.getElem?_toList, List.getElem?_eq_getElem (by rw [List.length_drop] at hk; omega), ek]
    have := (below_is h j e1).2 (by omega)
    have ne : b ≠ j := fun z => hn (z ▸ List.mem_of_mem_drop hb)
    omega
  · obtain ⟨k, hk, ek⟩ := List.getElem_of_mem ha
    rw [List.getElem_take] at ek
    rw [List.length_take] at hk
    have e1 : xs[k]? = some a := by rw [← Array.getElem?_toList, List.getElem?_eq_getElem (by omega), ek]
    have h1 := (below_is h j e1).1 (by omega)
    rcases List.mem_cons.mp hb with z | z
    · omega
    · obtain ⟨k2, hk2, ek2⟩ := List.getElem_of_mem z
      rw [List.getElem_drop] at ek2
      have e2 : xs[SetTable.below xs j + k2]? = some b := by rw [← Array.getElem?_toList, List.getElem?_eq_getElem (by rw [List.length_drop] at hk2; omega), ek2]
      have := (below_is h j e2).2 (by omega)
      omega
structure TOk (t : SetTable) : Prop where
  up : Ris t.place
  nd : t.dummies = #[]
theorem TOk.fresh (f m : Nat) (l : Bool) : TOk (.fresh f m l) := ⟨List.Pairwise.nil, rfl⟩
theorem TOk.noDummy {t : SetTable} (h : TOk t) (j : Nat) : SetTable.has t.dummies j = false := by
  rw [h.nd]
  unfold SetTable.has
  simp
theorem TOk.probed {t : SetTable} (h : TOk t) {f : Nat → Int} {z : Int} : ∀ (fuel : Nat) (p : SetTable.Probe) {j : Nat} {d : Option Nat}, p.dummy = none → SetTable.probe.go t f z fuel p = some (.empty j d) → d = none ∧ j ∉ t.place.toList
  | 0, p, j, d, hp, e => by unfold SetTable.probe.go at e; cases e
  | fuel + 1, p, j, d, hp, e => by
    unfold SetTable.probe.go at e
    have adv : ∀ q : SetTable.Probe, (t.advance q).dummy = q.dummy := fun q => by
      unfold SetTable.advance
      split <;> rfl
    cases hs : t.slot p.j with
    | empty =>
      rw [hs] at e
      cases e
      refine ⟨hp, not_mem_place h.up fun z => ?_⟩
      unfold SetTable.slot at hs
      simp only [z, beq_self_eq_true, if_true] at hs
      cases hs
    | dummy =>
      exfalso
      unfold SetTable.slot at hs
      simp only [h.noDummy] at hs
      split at hs <;> cases hs
    | live i =>
      rw [hs] at e
      dsimp only at e
      split at e
      · cases e
      · exact TOk.probed h fuel _ (by rw [adv]; exact hp) e
theorem TOk.free {t : SetTable} (h : TOk t) {z : Int} {j : Nat} {b : Bool} (e : t.freeSlot z = some (j, b)) : j ∉ t.place.toList := by
  unfold SetTable.freeSlot at e
  cases hp : t.probe (fun _ => z + 1) z (t.probeStart z) with
  | none => rw [hp] at e; cases e
  | some m =>
    rw [hp] at e
    cases m with
    | candidate a b c => cases e
    | empty j' d =>
      obtain ⟨hd, hn⟩ := h.probed _ _ rfl hp
      subst hd
      cases e
      exact hn
theorem TOk.put {t : SetTable} (h : TOk t) {j : Nat} (hn : j ∉ t.place.toList) : TOk (t.put j).1 ∧ (t.put j).1.led = t.led := by
  refine ⟨⟨h.up.insert hn, ?_⟩, rfl⟩
  show (if SetTable.has t.dummies j = true then _ else t.dummies) = #[]
  rw [h.noDummy, if_neg (by simp)]
  exact h.nd
theorem ris_range (n : Nat) : Ris (Array.range n) := by
  unfold Ris
  rw [Array.toList_range]
  exact List.pairwise_lt_range
theorem TOk.stand (t : SetTable) (n : Nat) : TOk (t.standIn n) ∧ (t.standIn n).led = t.led := ⟨⟨ris_range n, rfl⟩, rfl⟩
theorem TOk.orStand {t : SetTable} (h : TOk t) (n : Nat) : TOk (t.orStandIn n) ∧ (t.orStandIn n).led = t.led := by
  unfold SetTable.orStandIn
  split
  · exact ⟨h, rfl⟩
  · exact TOk.stand t n
theorem TOk.laidNew {t : SetTable} (h : TOk t) (es : Array (Int × Value)) (z : Int) (x : Value) : TOk (layNew t es z x).2.1 ∧ (layNew t es z x).2.1.led = t.led := by
  unfold layNew
  split
  · rename_i slot wd e
    obtain ⟨h1, h2⟩ := h.put (h.free e)
    obtain ⟨h3, h4⟩ := h1.orStand (SetTable.insertAt es (t.put slot).2 (z, x)).size
    exact ⟨h3, h4.trans h2⟩
  · exact TOk.stand t _
theorem laid_ok {mask fi mo : Nat} {led pl : Bool} {hs : Array Int} {t : SetTable} {o : Array Nat} (e : SetTable.laid mask fi mo led pl hs = some (t, o)) : TOk t ∧ t.led = led := by
  unfold SetTable.laid at e
  cases hl : SetTable.layClean mask hs with
  | none => rw [hl] at e; cases e
  | some ow =>
    rw [hl] at e
    cases e
    refine ⟨⟨?_, rfl⟩, rfl⟩
    show List.Pairwise (· < ·) (List.map (·.1) ((List.range (mask + 1)).filterMap fun j => (ow.getD j none).map (j, ·)))
    have key : ∀ l : List Nat, l.Pairwise (· < ·) → ((l.filterMap fun j => (ow.getD j none).map (j, ·)).map (·.1)).Pairwise (· < ·) ∧ ∀ x ∈ (l.filterMap fun j => (ow.getD j none).map (j, ·)).map (·.1), x ∈ l := by
      intro l
      induction l with
      | nil => intro _; exact ⟨.nil, fun x hx => by cases hx⟩
      | cons a r ih =>
        intro hp
        obtain ⟨h1, h2⟩ := List.pairwise_cons.mp hp
        obtain ⟨i1, i2⟩ := ih h2
        rw [List.filterMap_cons]
        cases ho : ow.getD a none with
        | none => exact ⟨i1, fun x hx => List.mem_cons_of_mem _ (i2 x hx)⟩
        | some q =>
          refine ⟨List.pairwise_cons.mpr ⟨fun b hb => h1 b (i2 b hb), i1⟩, fun x hx => ?_⟩
          rcases List.mem_cons.mp hx with z | z
          · exact z ▸ List.mem_cons_self
          · exact List.mem_cons_of_mem _ (i2 x z)
    exact (key _ List.pairwise_lt_range).1
theorem TOk.relay {t : SetTable} (es : Array (Int × Value)) (wn : Nat) : TOk (relayAll t es wn).2.1 ∧ (relayAll t es wn).2.1.led = t.led := by
  unfold relayAll
  split
  · rename_i t' order e
    have := laid_ok e
    dsimp only
    split
    · exact this
    · exact TOk.stand t _
  · exact TOk.stand t _
end My
namespace My
open PySem PySem.Spec PyProof.Rows L2 PyProof
noncomputable def keyI (e : Int × Value) : Int := match e.2 with
  | .int n _ => n
  | _ => 0
section
variable {prog : Program} {w : World} {A : Around} {E : Value → Shared → Prop} {s : Shared}
noncomputable def SetG (prog : Program) (w : World) (h : Heap) (a : Addr) (ks : List Int) (led : Bool) : Prop :=
  ∃ o es ep t, h.get? a = some o ∧ o.ExactSet ∧ o.data = .set es ep t ∧ ElemsOf (intKind prog w) es.toList ∧ es.size < scanBound ∧ t.fits es.size = true ∧ TOk t ∧ t.led = led ∧ (es.toList.map keyI).Perm ks
theorem elem_int {e : Int × Value} (h : (∃ k, (intKind prog w).is k e.2 = true ∧ e.1 = (intKind prog w).hash k) ∧ e.2.scannable = true) : ∃ t, e.2 = .int (keyI e) t := by
  obtain ⟨⟨k, hk, _⟩, _⟩ := h
  obtain ⟨t, ht⟩ := Value.isInt_shape hk
  refine ⟨t, ?_⟩
  unfold keyI
  rw [ht]
theorem elem_is {e : Int × Value} {n : Int} (h : (∃ k, (intKind prog w).is k e.2 = true ∧ e.1 = (intKind prog w).hash k) ∧ e.2.scannable = true) : (intKind prog w).is n e.2 = true ↔ keyI e = n := by
  obtain ⟨t, ht⟩ := elem_int h
  rw [ht]
  constructor
  · intro z
    obtain ⟨t', e'⟩ := Value.isInt_shape (show Value.isInt n (Value.int (keyI e) t) = true from z)
    exact (Value.int.inj e').1
  · intro z
    rw [z]
    exact intKind_is _ _ _ _
theorem stored_g {h : Heap} {a : Addr} {o : Obj} {es : Array (Int × Value)} {ep : Nat} {t : SetTable} (ho : h.get? a = some o) (hd : o.data = .set es ep t) (es' : Array (Int × Value)) (t' : SetTable) : (h.update a (Obj.putSet es' t')).get? a = some { o with data := .set es' (ep + 1) t' } := by
  have q := Heap.get?_update_self (Obj.putSet es' t') ho (by rw [putSet_of es' t' hd]; rfl)
  rwa [putSet_of es' t' hd] at q
theorem add_g {a : Addr} {ks : List Int} {led : Bool} {n : Int} {t0 : Tok} {Q : Bool → Shared → Prop} (hS : SetG prog w s.heap a ks led) (hroom : ks.length + 1 < scanBound)
    (h : ∀ b h', Heap.SameBut a s.heap h' → SetG prog w h' a (step_dedup ks n) led → Q b { s with heap := h' }) : wpAny (model prog w) A (setAddHashed a (.int n t0) ((intKind prog w).hash n)) Q E s := by
  obtain ⟨o, es, ep, t, ho, hex, hd, hel, hb, hf, ht, hled, hp⟩ := hS
  have hkey : (intKind prog w).is n (.int n t0) = true := intKind_is _ _ _ _
  have hsc : (Value.int n t0).scannable = true := rfl
  have hsz : es.size = ks.length := by rw [← Array.length_toList, ← List.length_map (f := keyI), hp.length_eq]
  unfold setAddHashed setAddHashedIn
  refine wpAny_holding (wpAny_bind (wpAny_setState_of ho hd hf ?_))
  dsimp only
  rw [byScan_of hsc hb hel]; simp only [↓reduceIte]
  unfold setAddByScan
  refine wpAny_bind (wpAny_bind (wpAny_rule (wpAny_bind (wpAny_setScan_of hkey ho hd hf hel ?_))))
  cases hr : List.findIdx? (fun e => (intKind prog w).is n e.2) es.toList with
  | some j =>
    dsimp only; obtain ⟨hj, hpj, _⟩ := List.findIdx?_eq_some_iff_getElem.mp hr
    have hin : n ∈ ks := hp.mem_iff.mp (List.mem_map.mpr ⟨es.toList[j], List.getElem_mem hj, (elem_is (hel _ (List.getElem_mem hj))).mp hpj⟩)
    have es0 : s = { s with heap := s.heap } := by cases s; rfl
    refine wpAny_pure (wpAny_pure ?_)
    rw [es0]
    refine h _ s.heap (Heap.SameBut.refl a s.heap) ?_
    unfold step_dedup
    rw [if_pos (List.any_eq_true.mpr ⟨n, hin, by simp⟩)]
    exact ⟨o, es, ep, t, ho, hex, hd, hel, hb, hf, ht, hled, hp⟩
  | none =>
    dsimp only
    have hnin : n ∉ ks := fun z => by
      obtain ⟨e, he, ek⟩ := List.mem_map.mp (hp.mem_iff.mpr z)
      have q := List.findIdx?_eq_none_iff.mp hr e he
      rw [(elem_is (hel _ he)).mpr ek] at q
      cases q
    have hstep : step_dedup ks n = ks ++ [n] := by
      unfold step_dedup
      rw [if_neg fun z => by obtain ⟨x, hx, ex⟩ := List.any_eq_true.mp z; exact hnin (by rw [← beq_iff_eq.mp ex]; exact hx)]
    have gw : ∀ (b : Bool) {s₁ : Shared} {Q' : Unit → Shared → Prop}, Q' () s₁ → wpAny (model prog w) A (match b with | true => rule "set.scan.the-table-gave-way" | false => pure ()) Q' E s₁ := fun b s₁ Q' hq => by cases b <;> first | exact wpAny_pure hq | exact wpAny_rule hq
    have l1 := layNew_perm t es ((intKind prog w).hash n) (.int n t0)
    have l2 := layNew_fits t es ((intKind prog w).hash n) (.int n t0)
    have l3 := ht.laidNew es ((intKind prog w).hash n) (.int n t0)
    generalize layNew t es ((intKind prog w).hash n) (.int n t0) = L at l1 l2 l3 ⊢
    obtain ⟨es1, t1, wd, gv⟩ := L
    dsimp only at l1 l2 l3 ⊢
    rw [Array.toList_push] at l1
    have hel1 : ElemsOf (intKind prog w) es1.toList := (hel.push hkey hsc).perm l1
    have hp1 : (es1.toList.map keyI).Perm (ks ++ [n]) := (l1.map keyI).trans (by rw [List.map_append]; exact hp.append_right [n])
    have sz1 : es1.size = ks.length + 1 := by rw [← Array.length_toList, l1.length_eq, List.length_append, Array.length_toList, hsz]; rfl
    have hb1 : es1.size < scanBound := by rw [sz1]; exact hroom
    refine wpAny_bind (gw _ ?_)
    have tail : ∀ (t2 : SetTable), t2.fits es1.size = true → TOk t2 → t2.led = led → wpAny (model prog w) A (do
        storeSet a es1 t2
        if (!wd && t2.tooFull) = true then do
            (match (relayAll t2 es1 (SetTable.grown es1.size)).2.2 with | true => rule "set.scan.the-table-gave-way" | false => pure ())
            storeSet a (relayAll t2 es1 (SetTable.grown es1.size)).1 (relayAll t2 es1 (SetTable.grown es1.size)).2.1
            pure (some true)
          else pure (some true)) (fun r s' => ∃ h', s' = { s with heap := h' } ∧ r = some true ∧ Heap.SameBut a s.heap h' ∧ SetG prog w h' a (ks ++ [n]) led) E s := by
      intro t2 f2 k2 le2
      refine wpAny_bind (wpAny_storeSet_of ho hd ?_ (fits_of_scanBound hb1))
      have g1 := stored_g ho hd es1 t2
      have sb1 := Heap.SameBut.update s.heap a (Obj.putSet es1 t2)
      split
      · have r1 := relayAll_perm t2 es1 (SetTable.grown es1.size)
        have r2 := relayAll_fits t2 es1 (SetTable.grown es1.size)
        have r3 := TOk.relay (t := t2) es1 (SetTable.grown es1.size)
        generalize relayAll t2 es1 (SetTable.grown es1.size) = Rl at r1 r2 r3 ⊢
        obtain ⟨es2, t3, gv2⟩ := Rl
        dsimp only at r1 r2 r3 ⊢
        have sz2 : es2.size = es1.size := by rw [← Array.length_toList, r1.length_eq, Array.length_toList]
        refine wpAny_bind (gw _ (wpAny_bind (wpAny_storeSet_of g1 rfl ?_ (fits_of_scanBound (by rw [sz2]; exact hb1)))))
        have g2 := stored_g g1 rfl es2 t3
        exact wpAny_pure ⟨_, rfl, rfl, sb1.trans (Heap.SameBut.update _ a _), _, es2, _, t3, g2, hex, rfl, hel1.perm r1, by rw [sz2]; exact hb1, r2, r3.1, r3.2.trans le2, (r1.map keyI).trans hp1⟩
      · exact wpAny_pure ⟨_, rfl, rfl, sb1, _, es1, _, t2, g1, hex, rfl, hel1, hb1, f2, k2, le2, hp1⟩
    have fin : ∀ r s', (∃ h', s' = { s with heap := h' } ∧ r = some true ∧ Heap.SameBut a s.heap h' ∧ SetG prog w h' a (ks ++ [n]) led) → ∃ b, r = some b ∧ Q b s' := by
      rintro r s' ⟨h', rfl, rfl, hsb, hg⟩
      exact ⟨true, rfl, h true h' hsb (by rw [hstep]; exact hg)⟩
    split
    · refine wpAny_bind ?_
      rw [hashByValue_scannable 8 hsc]
      refine wpAny_pure ?_
      refine wpAny_mono (tail t1 l2 l3.1 (l3.2.trans hled)) (fun r s' z => ?_) fun _ _ z => z
      obtain ⟨b, rfl, q⟩ := fin r s' z
      exact wpAny_pure q
    · refine wpAny_bind (wpAny_pure ?_)
      refine wpAny_mono (tail t1 l2 l3.1 (l3.2.trans hled)) (fun r s' z => ?_) fun _ _ z => z
      obtain ⟨b, rfl, q⟩ := fin r s' z
      exact wpAny_pure q
end
end My
namespace My
open PySem PySem.Spec PyProof.Rows L2 PyProof
noncomputable def dd (ns : List Int) : List Int := ns.foldl step_dedup []
theorem dd_len (ns : List Int) : (dd ns).length ≤ ns.length := by
  have key : ∀ (ns acc : List Int), (ns.foldl step_dedup acc).length ≤ acc.length + ns.length := by
    intro ns
    induction ns with
    | nil => intro acc; exact Nat.le_refl _
    | cons n r ih =>
      intro acc
      have h1 := ih (step_dedup acc n)
      have h2 : (step_dedup acc n).length ≤ acc.length + 1 := by unfold step_dedup; split <;> simp
      rw [List.foldl_cons, List.length_cons]
      omega
  have := key ns []
  unfold dd
  simpa using this
theorem dd_snoc (ns : List Int) (n : Int) : dd (ns ++ [n]) = step_dedup (dd ns) n := by
  unfold dd
  rw [List.foldl_append]
  rfl
section
variable {prog : Program} {w : World} {A : Around} {E : Value → Shared → Prop} {s : Shared}
theorem SetG.keep {h h' : Heap} {a : Addr} {ks : List Int} {led : Bool} (x : SetG prog w h a ks led) (k : ∀ o, h.get? a = some o → h'.get? a = some o) : SetG prog w h' a ks led :=
  let ⟨o, es, ep, t, ho, r⟩ := x
  ⟨o, es, ep, t, k o ho, r⟩
theorem loop_g {R : Result → Shared → Prop} {I S l : Addr} {us : List Value} {ns : List Int} {led : Bool} (hh : A.handled = none) (hlen : us.length = ns.length) (hus : ∀ (j : Nat) u, us[j]? = some u → ∃ n t, ns[j]? = some n ∧ u = Value.int n t) (hlI : l ≠ I) (hSI : S ≠ I) (hSl : S ≠ l) (hb : ns.length + 1 < scanBound) :
    ∀ (k i : Nat) (s : Shared), us.length - i = k → i ≤ us.length → s.heap.IsListIter I l i → s.heap.IsList l us.toArray → SetG prog w s.heap S (dd (ns.take i)) led →
      (∀ h' tk, (∀ b o, b ≠ I → b ≠ S → s.heap.get? b = some o → h'.get? b = some o) → SetG prog w h' S (dd ns) led → R (.ok (.ret .none)) { s with heap := h', toks := tk }) →
      codeAny (model prog w) A (.builtin "set.update.loop" ⟨[.ref S, .ref I], []⟩) R s := by
  have W := Walks.list (prog := prog) (w := w) (A := A.in1) hh I l hlI us.toArray
  have us0 : us.toArray.size = us.length := by simp
  intro k
  induction k with
  | zero =>
    intro i s hk hi hit hil hg hR
    have hin : i = us.length := by omega
    refine codeAny_builtin PyProof.Rows.F.entry_set_update_loop ?_; rw [Around.under_plainId PyProof.Rows.F.plain_set_update_loop _]
    refine wpAny_bind (W.done s _ _ ⟨by rw [us0, ← hin]; exact hit, hil⟩ fun h' tk hk' => ?_)
    rw [hin, hlen, List.take_length] at hg
    exact wpAny_pure (hR h' tk (fun b o b1 _ e => hk' b o (by simpa using b1) e) (hg.keep fun o e => hk' S o (by simpa using hSI) e))
  | succ k ih =>
    intro i s hk hi hit hil hg hR
    have hlt : i < us.length := by omega
    refine codeAny_builtin PyProof.Rows.F.entry_set_update_loop ?_; rw [Around.under_plainId PyProof.Rows.F.plain_set_update_loop _]
    refine wpAny_bind (W.item i s _ _ (by rw [us0]; exact hlt) ⟨hit, hil⟩ fun v h1 tk1 hP hst hk1 => ?_)
    obtain ⟨n, t, hn, rfl⟩ := hus i v (by simpa using hP)
    show wpAny _ A.in1 (holding [Value.int n t] (setAdd S (.int n t)) >>= _) _ _ _
    refine wpAny_bind (wpAny_holding ?_)
    unfold setAdd
    refine wpAny_holding (wpAny_bind ((intKind prog w).pyHash (k := n) (intKind_is _ _ _ _) ?_))
    have hg1 : SetG prog w h1 S (dd (ns.take i)) led := hg.keep fun o e => hk1 S o (by simpa using hSI) e
    have hroom : (dd (ns.take i)).length + 1 < scanBound := by
      have := dd_len (ns.take i)
      rw [List.length_take] at this
      omega
    refine add_g (s := { s with heap := h1, toks := tk1 + 1 }) hg1 hroom fun b h2 hsb hg2 => ?_
    have oth : ∀ b, b ≠ S → h2.get? b = h1.get? b := fun b hb => hsb.2 b hb
    refine wpAny_pure ⟨plainId_quiet PyProof.Rows.F.plain_set_update_loop _, ih (i + 1) { s with heap := h2, toks := tk1 + 1 } (by omega) hlt (hst.1.at fun o e => (oth I hSI.symm).trans e) (hst.2.at fun o e => (oth l hSl.symm).trans e) (by rw [take_one1 hn, dd_snoc]; exact hg2) fun h3 tk3 k3 hg3 => ?_⟩
    exact hR h3 tk3 (fun b o b1 b2 e => k3 b o b1 b2 ((oth b b2).trans (hk1 b o (by simpa using b1) e))) hg3
theorem new_g (a : Value) {Q₁ : Value → Shared → Prop} (h : Q₁ (.ref s.heap.objs.size) { s with heap := s.heap.push { cls := .type "set", dict := none, data := .set #[] 0 (.fresh 0 0 (!w.params.followText "set-order")) } }) :
    codeAny (model prog w) A (.call (.builtin "set.__new__") ⟨[.type "set", a], []⟩) (wants Q₁ E) s := by
  refine codeAny_of_tree ?_
  show wpAny _ A.in1 (do checkBuiltinCall "set.__new__" ⟨[.type "set", a], []⟩; again (.builtin "set.__new__" ⟨[.type "set", a], []⟩)) _ _ s; refine wpAny_bind (wpAny_of_eq (PySem.F.newCall_set_1 a) (wpAny_pure ⟨plainId_quiet PySem.F.plain_set_new _, codeAny_builtin PySem.F.entry_set_new ?_⟩))
  rw [Around.under_plainId PySem.F.plain_set_new _]; unfold Builtin.«set.__new__» Builtin.Frozenset.newClass
  have hsub := sub_set_self; obtain ⟨hp, g, d, tk, os⟩ := s
  dsimp only; wp_walk
  refine wpAny_askSetting (wpAny_pure ?_); dsimp only; simp only [newObj]
  exact wpAny_bind (wpAny_alloc (wpAny_pure (wpAny_pure h)))
set_option maxHeartbeats 3200000 in
theorem call_set_g {l : Addr} {us : List Value} {ns : List Int} {Q : Value → Shared → Prop} (hh : A.handled = none) (hl : s.heap.IsList l us.toArray) (hlen : us.length = ns.length) (hus : ∀ (j : Nat) u, us[j]? = some u → ∃ n t, ns[j]? = some n ∧ u = Value.int n t) (hb : ns.length + 1 < scanBound)
    (h : ∀ h' tk, SetG prog w h' s.heap.objs.size (dd ns) (!w.params.followText "set-order") → (∀ b o, s.heap.get? b = some o → h'.get? b = some o) → Q (.ref s.heap.objs.size) { s with heap := h', toks := tk }) :
    wpAny (model prog w) A (call (.type "set") [.ref l]) Q E s := by
  obtain ⟨c, tl, hmro⟩ := PySem.F.called_set.mro; have hmade := PySem.F.called_set.made; have hsub := PySem.F.called_set.sub
  refine wpAny_call (codeAny_of_tree ?_)
  show wpAny _ _ (callAny (.type "set") _) _ _ _; refine wpAny_pure ⟨Code.quiet_builtin _ (by decide +kernel), codeAny_builtin PySem.F.entry_type_call ?_⟩
  rw [Around.under_plain (weight_type_call_type "set" [.ref l] []) rfl]; have h1 := PySem.F.called_set.notType; have h2 := PySem.F.called_set.canCreate; have hct := PySem.F.typeCall_set_1 (.ref l)
  repeat (any_goals (first | assumption | wp_step))
  generalize hfr : (SetTable.fresh 0 0 (!w.params.followText "set-order")) = fr
  refine codeAny_mono (new_g (prog := prog) (w := w) (.ref l) (E := E) (Q₁ := fun obj s₁ => obj = .ref s.heap.objs.size ∧ s₁ = { s with heap := s.heap.push { cls := .type "set", dict := none, data := .set #[] 0 fr } }) ⟨rfl, by rw [hfr]⟩) fun r s₁ hr => ?_
  cases r with
  | error e => exact hr
  | ok fl =>
    cases fl with
    | ret obj =>
      obtain ⟨rfl, rfl⟩ := hr
      have hS : (s.heap.push { cls := .type "set", dict := none, data := .set #[] 0 fr }).get? s.heap.objs.size = some { cls := .type "set", dict := none, data := .set #[] 0 fr } := Heap.get?_push_size _ rfl
      have hT : Shared.TypeIs { s with heap := s.heap.push { cls := .type "set", dict := none, data := .set #[] 0 fr } } (.ref s.heap.objs.size) "set" := ⟨_, hS, rfl⟩
      have hli := PySem.F.called_set.init.lookup; have hbi := PySem.F.called_set.init.bind (.ref s.heap.objs.size)
      repeat (any_goals (first | assumption | wp_step))
      refine codeAny_mono (codeAny_call_builtin (R := wants (fun r s₂ => r = .none ∧ ∃ h' tk, s₂ = { s with heap := h', toks := tk } ∧ SetG prog w h' s.heap.objs.size (dd ns) (!w.params.followText "set-order") ∧ ∀ b o, s.heap.get? b = some o → h'.get? b = some o) E) PySem.F.called_set.init.plain PySem.F.entry_set_init (check_set_init_1 hT ?_)) fun r₂ s₂ hr₂ => ?_
      · obtain ⟨ol, hol, hcl, nl, hdl⟩ := id hl
        obtain ⟨ocls, odict, odata, oslots⟩ := ol
        simp only at hcl hdl; subst hcl; subst hdl
        have hol' : (s.heap.push { cls := .type "set", dict := none, data := .set #[] 0 fr }).get? l = some { cls := .type "list", dict := odict, data := .seq us.toArray nl, slots := oslots } := Heap.get?_push_of_some _ hol
        have hsls := PySem.F.sub_list_set; have hslf := PySem.F.sub_list_frozenset
        have hne : (Value.type "list" == Value.type "dict") = false := by decide
        have hl1 : (s.heap.push { cls := .type "set", dict := none, data := .set #[] 0 fr }).IsList l us.toArray := ⟨_, hol', rfl, nl, rfl⟩
        have hfu : fr.fill = 0 ∧ fr.place.size = 0 ∧ fr.mask = 7 := by rw [← hfr]; exact ⟨rfl, rfl, rfl⟩
        subst hfr
        unfold Builtin.«set.__init__» noKeywords Builtin.Frozenset.updateFrom
        generalize hPI : pyIter = PI; wp_walk; subst hPI
        refine wpAny_pyIter_list hl1 (wpAny_bind (wpAny_runValue ?_))
        have hlS : l < s.heap.objs.size := Heap.lt_size hol
        have hh3 : A.in1.in1.handled = none := by simp [hh]
        refine loop_g (prog := prog) (w := w) (s := { s with heap := (s.heap.push { cls := .type "set", dict := none, data := .set #[] 0 (.fresh 0 0 (!w.params.followText "set-order")) }).push { cls := .type "list_iterator", data := .fields #[.ref l, .int 0 0] } }) (I := (s.heap.push { cls := .type "set", dict := none, data := .set #[] 0 (.fresh 0 0 (!w.params.followText "set-order")) }).objs.size) (led := !w.params.followText "set-order") hh3 hlen hus ?_ ?_ (Nat.ne_of_gt hlS) hb us.length 0 (by omega) (Nat.zero_le _) ⟨_, Heap.get?_push_size _ rfl, rfl, rfl⟩ (hl1.push _) ?_ fun h' tk k hg => ?_
        · rw [size_push']; exact Nat.ne_of_lt (Nat.lt_succ_of_lt hlS)
        · rw [size_push']; exact Nat.ne_of_lt (Nat.lt_succ_self _)
        · exact ⟨_, #[], 0, _, Heap.get?_push_of_some _ hS, ⟨rfl, rfl, rfl⟩, rfl, (fun e he => by cases he), (by decide), rfl, TOk.fresh _ _ _, rfl, .nil⟩
        · show wpAny _ _ _ _ _ _
          refine wpAny_pure ?_
          show wpAny _ _ (ret Value.none) _ _ _
          refine wpAny_pure ⟨rfl, h', tk, rfl, hg, fun b o e => ?_⟩
          have hb1 := Heap.lt_size e
          exact k b o (by rw [size_push']; exact Nat.ne_of_lt (Nat.lt_succ_of_lt hb1)) (Nat.ne_of_lt hb1) (Heap.get?_push_of_some _ (Heap.get?_push_of_some _ e))
      · cases r₂ with
        | error e => exact hr₂
        | ok fl₂ =>
          cases fl₂ with
          | ret r =>
            obtain ⟨rfl, h', tk, rfl, hg, hk'⟩ := hr₂
            repeat (any_goals (first | assumption | wp_step))
            exact h _ _ hg hk'
          | _ => exact hr₂.elim
    | _ => exact hr.elim
end
end My
namespace My
open PySem PySem.Spec PyProof.Rows L2 PyProof
section
variable {M : Model} {A : Around} {E : Value → Shared → Prop}
end
end My
namespace My
open PySem PySem.Spec PyProof.Rows L2 PyProof
section
variable {prog : Program} {w : World} {A : Around} {E : Value → Shared → Prop} {s : Shared} {I a : Addr} {es : Array (Int × Value)} {ep : Nat} {t : SetTable}
end
end My
namespace My
open PySem PySem.Spec PyProof.Rows L2 PyProof
section
variable {prog : Program} {w : World} {A : Around} {E : Value → Shared → Prop} {s : Shared} {I a : Addr} {es : Array (Int × Value)} {ep : Nat} {t : SetTable}
end
end My
namespace My
open PySem PySem.Spec PyProof.Rows L2 PyProof
section
variable {prog : Program} {w : World} {A : Around} {E : Value → Shared → Prop} {s : Shared} {I a : Addr} {es : Array (Int × Value)} {ep : Nat} {t : SetTable}
end
end My
namespace My
open PySem PySem.Spec PyProof.Rows L2 PyProof
section
variable {prog : Program} {w : World} {A : Around} {E : Value → Shared → Prop} {s : Shared} {a : Addr} {ks : List Int} {led : Bool}
end
end My
namespace My
open PySem PySem.Spec PyProof.Rows L2 PyProof
theorem dp_keys : typeLookup (.type "list") "keys" = pure none := by rw [typeLookup_type, builtinLookup_eq_fast]; exact (by kernel_rfl)
theorem dp_entry : entryFor table "dict.update.loop" = some Builtin.«dict.update.loop» := entryFor_of_tree (by kernel_rfl)
theorem dp_plain : plainId "dict.update.loop" = true := by decide +kernel
section
variable {prog : Program} {w : World} {A : Around} {E : Value → Shared → Prop} {s : Shared}
theorem no_keys {l : Addr} {its : Array Value} {Q : Option Value → Shared → Prop} (hL : PlainL s.heap l its) (hA : A.handled = none) (h : ∀ h' tk, (∀ b o, s.heap.get? b = some o → h'.get? b = some o) → Q none { s with heap := h', toks := tk }) : wpAny (model prog w) A (getAttr? (.ref l) "keys") Q E s := by
  obtain ⟨o, n, ho, hc, hd, hdat⟩ := hL
  obtain ⟨c, dct, dat, sl⟩ := o
  simp only at hc hdat hd
  subst hc hdat hd
  obtain ⟨hp, g, d, tk, os⟩ := s
  have hT : ∀ tk', (⟨hp, g, d, tk', os⟩ : Shared).TypeIs (.ref l) "list" := fun _ => ⟨_, ho, rfl⟩
  have f1 := sub_AttributeError
  have f3 := PySem.F.slot_list_getattribute.lookup
  have f4 := PySem.F.slot_list_getattribute.bind (.ref l)
  have f5 := am_list_getattr_none
  have hname : (["__module__", "__name__", "__qualname__", "__doc__", "__annotations__"] : List Str).contains "keys" = false := by decide +kernel
  unfold getAttr? getAttrBy? getAttrBy
  repeat (any_goals (first | assumption | exact hT _ | ((with_reducible show wpAny _ _ (call (Value.builtin "list.__getattribute__") _ _) _ _ _); refine call_meets PySem.F.slot_list_getattribute (hT _) am_entry_list_getattribute (PySem.F.args_list_getattribute_2 _ _) (meets_getattribute_miss_list l its n sl "keys" _ dp_keys hname (by decide +kernel)) ⟨ho, hA, fun h' tk' e hx' => ?_⟩) | wp_step))
  obtain ⟨t', u', he⟩ := hx'.there
  show wpAny _ _ (getattributeRaised _ _ _ _ _ _ _) _ _ _
  unfold getattributeRaised
  repeat (any_goals (first | assumption | wp_step))
  exact h _ _ hx'.keeps
theorem stored_len {K : Type} [DecidableEq K] (vs : List (K × Value)) (k : K) (v : Value) : (stored vs k v).length ≤ vs.length + 1 := by
  unfold stored
  split <;> simp
noncomputable def storedAll {K : Type} [DecidableEq K] (vs : List (K × Value)) (ps : List (K × Value)) : List (K × Value) := ps.foldl (fun a q => stored a q.1 q.2) vs
theorem dp_loop {R : Result → Shared → Prop} {I D l : Addr} {us : List Value} {ks : List (Key × Value)} (hh : A.handled = none) (hlI : l ≠ I) (hDI : D ≠ I) (hDl : D ≠ l) (hlen : us.length = ks.length) (hsz : ks.length < 1000000) :
    ∀ (k i : Nat) (s : Shared), us.length - i = k → i ≤ us.length → s.heap.IsListIter I l i → s.heap.IsList l us.toArray → (∀ (j : Nat) u, us[j]? = some u → ∃ t ku q, u = .ref t ∧ t ≠ I ∧ t ≠ D ∧ ks[j]? = some q ∧ s.heap.IsTuple t #[ku, q.2] ∧ (mixKind prog w).is q.1 ku = true) →
      (∃ vs, s.heap.DictOf (mixKind prog w) D vs ∧ vs = storedAll [] (ks.take i) ∧ vs.length ≤ i) →
      (∀ h' tk, (∀ b o, b ≠ I → b ≠ D → s.heap.get? b = some o → h'.get? b = some o) → h'.DictOf (mixKind prog w) D (storedAll [] ks) → R (.ok (.ret .none)) { s with heap := h', toks := tk }) →
      codeAny (model prog w) A (.builtin "dict.update.loop" ⟨[.ref D, .ref I, rawInt i, .none], []⟩) R s := by
  have W := Walks.list (prog := prog) (w := w) (A := A.in1) hh I l hlI us.toArray
  have us0 : us.toArray.size = us.length := by simp
  intro k
  induction k with
  | zero =>
    intro i s hk hi hit hil ht hg hR
    have hin : i = us.length := by omega
    refine codeAny_builtin dp_entry ?_
    rw [Around.under_plainId dp_plain _]
    refine wpAny_bind (W.done s _ _ ⟨by rw [us0, ← hin]; exact hit, hil⟩ fun h' tk hk' => ?_)
    obtain ⟨vs, dd, rfl, _⟩ := hg
    rw [hin, hlen, List.take_length] at dd
    refine wpAny_bind (wpAny_pure (wpAny_pure (hR h' tk (fun b o b1 _ e => hk' b o (by simpa using b1) e) ?_)))
    obtain ⟨o, es, ep, ho, r⟩ := dd
    exact ⟨o, es, ep, hk' D o (by simpa using hDI) ho, r⟩
  | succ k ih =>
    intro i s hk hi hit hil ht hg hR
    have hlt : i < us.length := by omega
    refine codeAny_builtin dp_entry ?_
    rw [Around.under_plainId dp_plain _]
    refine wpAny_bind (W.item i s _ _ (by rw [us0]; exact hlt) ⟨hit, hil⟩ fun v h1 tk1 hP hst hk1 => ?_)
    obtain ⟨t, ku, q, rfl, tI, tD, hq, hT, hkk⟩ := ht i v (by simpa using hP)
    obtain ⟨vs, dd, evs, hvl⟩ := hg
    obtain ⟨oT, hoT, hcT, nT, hdT⟩ := id hT
    have hoT1 := hk1 t oT (by simpa using tI) hoT
    refine wpAny_bind (wpAny_holding ?_)
    refine wpAny_bind (wpAny_tryCatch ?_)
    unfold Builtin.Dict.pairItems
    refine wpAny_bind (wpAny_typeOf (T := "tuple") ⟨oT, hoT1, hcT⟩ ?_)
    rw [if_pos (by decide)]
    refine wpAny_bind (wpAny_seqItems hoT1 hdT ?_)
    refine wpAny_pure ?_
    show wpAny _ _ (holding [ku, q.2] (dictSet D ku q.2)) _ _ _
    refine wpAny_holding ?_
    unfold dictSet
    try with_reducible refine wpAny_holding ?_
    refine wpAny_bind ((mixKind prog w).pyHash hkk ?_)
    have dd1 : h1.DictOf (mixKind prog w) D vs := by
      obtain ⟨o, es, ep, ho, r⟩ := dd
      exact ⟨o, es, ep, hk1 D o (by simpa using hDI) ho, r⟩
    have hv6 : vs.length ≤ sizeLine := Nat.le_trans hvl (Nat.le_trans hi (by rw [hlen]; exact Nat.le_trans (Nat.le_of_lt hsz) (by decide)))
    refine wpAny_dictSetHashed_pairs (s := { s with heap := h1, toks := tk1 + 1 }) (hsz := hv6) hkk dd1 fun h2 dd2 sb => ?_
    have oth : ∀ b, b ≠ D → h2.get? b = h1.get? b := fun b hb => sb.2 b hb
    refine wpAny_pure ⟨plainId_quiet dp_plain _, ?_⟩
    have en : rawInt ((i : Int) + 1) = rawInt ((i + 1 : Nat) : Int) := by rw [Int.natCast_add]; rfl
    rw [en]
    refine ih (i + 1) { s with heap := h2, toks := tk1 + 1 } (by omega) hlt (hst.1.at fun o e => (oth I hDI.symm).trans e) (hst.2.at fun o e => (oth l hDl.symm).trans e) (fun j u eu => ?_) ⟨_, dd2, ?_, ?_⟩ fun h3 tk3 k3 dd3 => ?_
    · obtain ⟨t', ku', q', e1, e2, e3, e4, ⟨oT', hoT', r'⟩, e6⟩ := ht j u eu
      exact ⟨t', ku', q', e1, e2, e3, e4, ⟨oT', (oth _ e3).trans (hk1 _ _ (by simpa using e2) hoT'), r'⟩, e6⟩
    · rw [List.take_add_one, hq, evs]
      unfold storedAll
      rw [List.foldl_append]
      rfl
    · have := stored_len (K := Key) vs q.1 q.2
      omega
    · exact hR h3 tk3 (fun b o b1 b2 e => k3 b o b1 b2 ((oth b b2).trans (hk1 b o (by simpa using b1) e))) dd3
end
inductive Prs2 (K : PySem.W.Frag) (H : Hp) : List V → List (Key × V) → Prop where
  | nil : Prs2 K H [] []
  | cons {t : Addr} {q : Key × V} {ws : List V} {ps : List (Key × V)} (h : SqT K H t [kV q.1, q.2]) (r : Prs2 K H ws ps) : Prs2 K H (.ref t :: ws) (q :: ps)
noncomputable def putAllK (kvs ps : List (Key × V)) : List (Key × V) := ps.foldl (fun a q => putK a q.1 q.2) kvs
theorem kv_all : ∀ {ps : List (Key × V)} {ks : List (Key × Value)} {kvs : List (Key × V)} {vs : List (Key × Value)}, KV ps ks → KV kvs vs → KV (putAllK kvs ps) (storedAll vs ks)
  | _, _, _, _, .nil, h => h
  | _, _, _, _, .cons (a := p) (b := q) e r, h => by
    have := KV.put h p.1 e.2
    rw [show stored _ p.1 q.2 = stored _ q.1 q.2 by rw [e.1]] at this
    have h2 := kv_all r this
    exact h2
theorem putAllK_len : ∀ (ps kvs : List (Key × V)), (putAllK kvs ps).length ≤ kvs.length + ps.length
  | [], kvs => Nat.le_refl _
  | q :: r, kvs => by
    have h1 := putAllK_len r (putK kvs q.1 q.2)
    have h2 := length_putK kvs q.1 q.2
    show (putAllK (putK kvs q.1 q.2) r).length ≤ kvs.length + (r.length + 1)
    omega
theorem prs_ks {X : Cx} {pins : List (Addr × Obj)} {σ : L2.St} {H : Hp} {s : Shared} (I : Inv X pins σ H s) : ∀ {ws : List V} {ps : List (Key × V)} {its : List Value}, Prs2 X.K H ws ps → Vals ws its →
    ∃ ks : List (Key × Value), KV ps ks ∧ its.length = ks.length ∧ ∀ (j : Nat) u, its[j]? = some u → ∃ t ku q, u = .ref t ∧ t < s.heap.objs.size ∧ ks[j]? = some q ∧ s.heap.IsTuple t #[ku, q.2] ∧ (mixKind X.prog X.w).is q.1 ku = true
  | _, _, _, .nil, .nil => ⟨[], .nil, rfl, fun j u e => by simp at e⟩
  | _, _, _, .cons (q := q) h r, .cons rv rr => by
    obtain ⟨ks, k1, k2, k3⟩ := prs_ks I r rr
    obtain ⟨its, r2, ⟨o, ho, hr⟩, _⟩ := I.tuple h
    obtain ⟨ku, vu, rfl, e1, e2⟩ := vals2 r2
    cases rv
    refine ⟨(q.1, vu) :: ks, .cons ⟨rfl, e2⟩ k1, by simp [k2], fun j u e => ?_⟩
    cases j with
    | zero =>
      cases e
      exact ⟨_, ku, (q.1, vu), rfl, Heap.lt_size ho, rfl, ⟨o, ho, hr.1, hr.2⟩, kV_is e1⟩
    | succ j => exact k3 j u (by simpa using e)
theorem call_dictP {X : Cx} {K : PySem.W.Frag} (hK : X.K = K) (hc : X.calm = true) : CallR X (.type "dict") (fun xs H Q => ∃ (a : Addr) (ws : List V) (ps : List (Key × V)), xs = [V.ref a] ∧ H a = some (.lst ws) ∧ Prs2 K H ws ps ∧ ps.length < 1000000 ∧ ∀ p, H p = none → Q (.ref p) (upd H p (.dK (putAllK [] ps)))) := by
  subst hK
  intro pins s σ H xs us Q I r h
  obtain ⟨a, ws, ps, rfl, ha, hp, hz, q⟩ := h
  obtain ⟨u, rfl, ru⟩ := vals1 r
  cases ru
  obtain ⟨its, rv, pl, _⟩ := I.list (SqL.of ha)
  obtain ⟨ks, k1, k2, k3⟩ := prs_ks I hp rv
  have kl : ks.length = ps.length := (Paired.length k1).symm
  have hal : a < s.heap.objs.size := by obtain ⟨_, _, e, _⟩ := pl; exact Heap.lt_size e
  refine callType_codes (Q₁ := fun obj s₁ => obj = .ref s.heap.objs.size ∧ s₁ = { s with heap := s.heap.push { cls := .type "dict", data := .dict #[] } }) PySem.F.kt_called_dict (PySem.F.kt_typeCall_dict_1 _) PySem.F.entry_dict_init (PySem.kt_code_dict_new _ ⟨rfl, rfl⟩) fun obj s₁ ⟨e1, e2⟩ => ?_
  subst e1 e2
  have hnew : (s.heap.push { cls := .type "dict", data := .dict #[] }).DictOf (mixKind X.prog X.w) s.heap.objs.size [] := Heap.DictOf.new s.heap
  refine ⟨hnew.typeIs, PySem.F.args_dict_init_2 _ _, ?_⟩
  unfold Builtin.«dict.__init__»
  refine wpAny_bind ?_
  unfold Builtin.Dict.selfAndRest
  refine wpAny_bind (wpAny_notOrdered_dict hnew.typeIs ?_)
  show wpAny _ _ (pure (s.heap.objs.size, [Value.ref a])) _ _ _
  refine wpAny_pure ?_
  show wpAny _ _ (Builtin.Dict.updateFrom "dict.__init__" s.heap.objs.size (.ref a) [] .none) _ _ _
  unfold Builtin.Dict.updateFrom
  have pl1 : PlainL (s.heap.push { cls := .type "dict", data := .dict #[] }) a its.toArray := pl.keeps fun b o e => Heap.get?_push_of_some _ e
  obtain ⟨oa, na, hoa, hca, _⟩ := id pl1
  refine wpAny_bind (wpAny_typeOf (T := "list") ⟨oa, hoa, hca⟩ ?_)
  rw [if_pos (by decide)]
  refine wpAny_bind (no_keys (s := { s with heap := s.heap.push { cls := .type "dict", data := .dict #[] } }) pl1 (I.ok.hd hc) fun h1 tk1 hk1 => ?_)
  rw [if_pos (show (none : Option Value).isNone = true from rfl)]
  refine wpAny_bind (wpAny_rule ?_)
  have pl2 := pl1.keeps hk1
  refine wpAny_bind (wpAny_pyIter_list pl2.isList ?_)
  have dd1 : (h1.push { cls := .type "list_iterator", data := .fields #[.ref a, .int 0 0] }).DictOf (mixKind X.prog X.w) s.heap.objs.size [] := by
    obtain ⟨o, es, ep, ho, r⟩ := hnew
    exact ⟨o, es, ep, Heap.get?_push_of_some _ (hk1 _ _ ho), r⟩
  have hDl : s.heap.objs.size < h1.objs.size := by obtain ⟨o, es, ep, ho, r⟩ := hnew; exact Heap.lt_size (hk1 _ _ ho)
  have haI : a < h1.objs.size := Nat.lt_trans hal hDl
  have kp : ∀ b o, s.heap.get? b = some o → (h1.push { cls := .type "list_iterator", data := .fields #[.ref a, .int 0 0] }).get? b = some o := fun b o e => Heap.get?_push_of_some _ (hk1 _ _ (Heap.get?_push_of_some _ e))
  refine wpAny_pure ⟨plainId_quiet dp_plain _, dp_loop (A := X.A.in1) (s := { s with heap := h1.push { cls := .type "list_iterator", data := .fields #[.ref a, .int 0 0] }, toks := tk1 }) (I := h1.objs.size) (D := s.heap.objs.size) (I.ok.hd hc) (Nat.ne_of_lt haI) (Nat.ne_of_lt hDl) (Nat.ne_of_gt hal) k2 (by rw [kl]; exact hz) its.length 0 rfl (Nat.zero_le _) ⟨_, Heap.get?_push_size _ rfl, rfl, rfl⟩ (pl2.isList.push _) (fun j u eu => ?_) ⟨[], dd1, rfl, Nat.le_refl _⟩ fun h3 tk3 k3' dd3 => ?_⟩
  · obtain ⟨t, ku, q', e1, e2, e3, ⟨oT, hoT, r'⟩, e5⟩ := k3 j u eu
    exact ⟨t, ku, q', e1, Nat.ne_of_lt (Nat.lt_trans e2 hDl), Nat.ne_of_lt e2, e3, ⟨oT, kp _ _ hoT, r'⟩, e5⟩
  · refine ⟨rfl, .ref _, _, ?_, rfl, q _ (I.hok.fresh (Nat.le_refl _))⟩
    refine I.laid (a := s.heap.objs.size) (o := .dK (putAllK [] ps)) (t' := tk3) (fun b o e => k3' b o (Nat.ne_of_lt (Nat.lt_trans (Heap.lt_size e) hDl)) (Nat.ne_of_lt (Heap.lt_size e)) (kp b o e)) (Nat.le_refl _) ?_
    exact dk_new (Nat.le_trans (putAllK_len ps []) (by simp only [List.length_nil, Nat.zero_add]; exact Nat.le_trans (Nat.le_of_lt hz) (by decide))) (beq_eq_false_iff_ne.mpr (Ne.symm (Nat.ne_of_lt I.big))) (kv_all k1 .nil) dd3
end My
namespace My
open PySem PySem.Spec PyProof.Rows L2 PyProof
section
variable {prog : Program} {w : World} {A : Around} {E : Value → Shared → Prop}
end
section
variable {X : Cx} {pos : Pos}
end
end My
namespace My
open PySem PySem.Spec PyProof.Rows L2
section
variable {P : Program} {w : World} {K : PySem.W.Frag}
end
section
variable {X : Cx}
end
end My
namespace My
open PySem PySem.Spec PyProof.Rows L2 PyProof
section
variable {X : Cx} {o e : Expr} {td te : TE} {apos cpos : Pos}
end
section
variable {X : Cx} {e : Expr} {te : TE} {lo hi : Option Expr} {st : Expr} {tl th tk : TO} {pos p2 : Pos}
end
end My
namespace My
open PySem PySem.Spec PyProof.Rows L2 PyProof
section
variable {prog : Program} {w : World} {A : Around} {E : Value → Shared → Prop} {s : Shared}
end
end My
namespace My
open PySem PySem.Spec PyProof.Rows L2
section
variable {X : Cx} {pins : List (Addr × Obj)} {σ : L2.St} {H : Hp} {s : Shared} {a b : Addr} {kvs kvs' : List (Key × V)} {ds : List (Key × PyData)}
end
section
variable {X : Cx}
end
end My
namespace My
open PySem PySem.Spec PyProof.Rows L2 PyProof
section
variable {prog : Program} {w : World} {A : Around}
end
end My
namespace My
open PySem PySem.Spec PyProof.Rows L2
section
variable {P : Program} {w : World} {K : PySem.W.Frag} {mg : Str → Option Value} {base : Heap}
end
section
variable {P : Program} {w : World} {K : PySem.W.Frag} {mg mb : Str → Option Value} {CX : CXT} {k : Nat} {fa a c0 P0 : Addr} {fd : FuncData} {x : Str} {sp : Heap → Sp} {s₁ : Shared} {vs : List Value} {ns : List Int}
end
end My
namespace My
open PySem PySem.W PySem.Calls PyProof.Rows L2
end My
namespace My
open PySem PySem.Spec PyProof.Rows L2 PyProof
end My
namespace My
open PySem PySem.Spec PyProof.Rows L2
section
variable {X : Cx}
end
end My
namespace My
open PySem PyProof.Rows
noncomputable def kf (p : Keyed) : Int := numOf p.1
section
variable {prog : Program} {w : World} {s : Shared} {A : Around} {E : Value → Shared → Prop}
end
noncomputable abbrev Upk (l : List Keyed) : Prop := l.Pairwise fun x y => kf x ≤ kf y
section
variable {prog : Program} {w : World} {s : Shared} {A : Around} {E : Value → Shared → Prop}
end
section
variable {prog : Program} {w : World} {s : Shared} {A : Around} {E : Value → Shared → Prop}
end
structure Sb (a₀ : Array Keyed) (pd : Array (Nat × Nat × Nat)) (lo : Nat) (xs : Array Keyed) (st : SortSt) : Prop where
  perm : (arrOf st).Perm a₀
  kind : kindOf st = oneType'
  fail : failedOf st = none
  pend : pendingOf st = pd
  low : ∀ k, k < lo → (arrOf st)[k]? = xs[k]?
noncomputable def Rise (xs : Array Keyed) (lo hi : Nat) : Prop := ∀ i j, lo ≤ i → i ≤ j → j < hi → K xs i ≤ K xs j
section
variable {prog : Program} {w : World} {s : Shared} {A : Around} {E : Value → Shared → Prop} {a₀ xs : Array Keyed} {pd : Array (Nat × Nat × Nat)} {lo : Nat} {st : SortSt}
end
section
variable {prog : Program} {w : World} {s : Shared} {A : Around} {E : Value → Shared → Prop} {a₀ xs : Array Keyed} {pd : Array (Nat × Nat × Nat)} {lo : Nat} {st : SortSt}
end
section
variable {prog : Program} {w : World} {s : Shared} {A : Around} {E : Value → Shared → Prop} {a₀ : Array Keyed} {st : SortSt}
end
section
variable {prog : Program} {w : World} {s : Shared} {A : Around} {E : Value → Shared → Prop} {a₀ : Array Keyed} {st : SortSt}
inductive Two (a₀ : Array Keyed) (N : Nat) (st : SortSt) : Nat → Prop where
  | zero (h : Sb a₀ #[] 0 #[] st) : Two a₀ N st 0
  | one {n1 : Nat} (h : Sb a₀ #[(0, n1, 0)] 0 #[] st) (h1 : 1 ≤ n1) (h2 : n1 ≤ N) (h3 : N / 2 + N % 2 ≤ n1) (hr : Rise (arrOf st) 0 n1) : Two a₀ N st n1
  | two {n1 pw : Nat} (h : Sb a₀ #[(0, n1, pw), (n1, N - n1, 0)] 0 #[] st) (h1 : 1 ≤ n1) (h2 : n1 < N) (hr : Rise (arrOf st) 0 n1) (hr2 : Rise (arrOf st) n1 N) : Two a₀ N st N
end
section
variable {prog : Program} {w : World} {s : Shared} {A : Around} {E : Value → Shared → Prop}
end
end My
namespace My
open PySem PySem.Spec PyProof.Rows L2
section
variable {X : Cx}
end
end My
namespace My
open PySem PySem.Spec PyProof.Rows L2
section
variable {X : Cx}
end
end My
namespace My
open PySem PySem.Spec PyProof.Rows L2
section
variable {M : Model} {A : Around} {E : Value → Shared → Prop} {s : Shared} {B : Heap} {l : List Env} {env : Env} {ea L : Addr} {cls a0 : Value}
end
section
variable {X : Cx} {pins : List (Addr × Obj)} {σ : L2.St} {H : Hp} {s : Shared} {scope : Scope} {N : List Str} {target iter elt : Expr} {pos : Pos} {g : TG} {te : TE} {E1 : XK} {C : Addr} {ex : List Addr}
end
end My
namespace My
open PySem PySem.Spec PyProof.Rows L2
section
variable {prog : Program} {w : World} {A : Around} {E : Value → Shared → Prop} {s : Shared} {env : Env} {K : PySem.W.Frag} {C ea : Addr} {o : Obj}
end
end My
namespace My
open PySem PySem.Spec PyProof.Rows L2
section
variable {X : Cx} {pins : List (Addr × Obj)} {σ : L2.St} {H H' : Hp} {s : Shared} {fp : List Addr} {B h1 h2 : Heap} {ea : Addr}
end
end My
namespace My
open PySem PySem.Spec PyProof.Rows L2
section
variable {X : Cx} {pins : List (Addr × Obj)} {σ : L2.St} {H : Hp} {s : Shared} {T : Addr} {h' : Heap}
end
section
variable {M : Model} {A : Around} {E : Value → Shared → Prop} {s : Shared} {B : Heap} {l : List Env} {env : Env} {ea L : Addr} {cls a0 : Value}
end
section
variable {X : Cx} {pins : List (Addr × Obj)} {σ : L2.St} {H : Hp} {s : Shared}
end
end My
namespace My
open PySem PySem.Spec PyProof.Rows L2
section
variable {X : Cx} {pins : List (Addr × Obj)} {σ : L2.St} {H : Hp} {s : Shared} {fp : List Addr}
end
end My
namespace My
open PySem PySem.Spec PyProof.Rows L2
section
variable {X : Cx} {pins : List (Addr × Obj)} {σ : L2.St} {H : Hp} {s : Shared} {fp : List Addr} {E : XK}
end
end My
namespace My
open PySem PySem.Spec PyProof.Rows L2
end My
namespace My
open PySem PySem.Spec PyProof.Rows L2 PySem.NumText
end My
namespace My
open PySem PySem.Spec PyProof.Rows L2
end My
namespace My
open PySem PySem.Spec PyProof.Rows L2
section
variable {X : Cx} {e a b : Expr} {es : List Expr} {te ta tb : TE} {t : TA} {pos : Pos}
noncomputable def tCut (t u : TS) : TS := fun D σ H => ∃ W : L2.St → Hp → Prop, t { D with nx := W } σ H ∧ ∀ σ' H', W σ' H' → u D σ' H'
theorem pss_cut {st : Stmt} {rest : List Stmt} {t u : TS} (h1 : PS X st t) (h2 : PSs X rest u) : PSs X (st :: rest) (tCut t u) := by
  constructor; intro pins s σ H D I ⟨W, h, k⟩
  refine wpAny_execs_cons (thn (h1 pins s σ H { D with nx := W } I h) fun f s1 q => ?_)
  cases f with
  | next =>
    obtain ⟨σ', H', I', q⟩ := q
    exact h2 pins s1 σ' H' D I' (k σ' H' q)
  | ret v => exact q
  | brk => exact q
  | cont => exact q
end
end My
namespace My
open PySem PySem.Spec PyProof.Rows L2
end My
namespace My
open PySem PySem.Spec PyProof.Rows L2 PyProof
theorem mt_rstrip {X : Cx} : MtR X "str.rstrip" (fun x xs H Q => ∃ z y : Str, x = .str z ∧ xs = [V.str y] ∧ z.length ≤ sizeLine ∧ Q (.str (Txt.rstripChars z y)) H) := by
  intro pins s σ H x xs v us Q I rx rv h
  obtain ⟨z, y, rfl, rfl, hz, q⟩ := h
  obtain ⟨t, rfl⟩ := rx
  obtain ⟨u, rfl, t', rfl⟩ := vals1 rv
  exact call_gives PySem.F.slot_str_rstrip (typeIs_str s z t) PySem.F.entry_str_rstrip (PySem.F.args_str_rstrip_2 _ _) (gives_str_rstrip_chars z y t t') (post_val_or_made (fun _ => fits_stripped _ _ _ hz) fun t2 k => ⟨.str _, H, I.tok _, ⟨_, rfl⟩, q⟩)
theorem call_absI {X : Cx} : CallR X (.builtin "abs") (fun xs H Q => ∃ n : Int, xs = [.int n] ∧ Q (.int (if n < 0 then -n else n)) H) := by
  intro pins s σ H xs us Q I r h
  obtain ⟨n, rfl, q⟩ := h
  obtain ⟨u, rfl, t, rfl⟩ := vals1 r
  exact call_abs_int fun u tk => ⟨.int _, H, I.tok _, ⟨_, rfl⟩, q⟩
noncomputable def tNever : TE := fun _ _ _ => False
theorem pe_never {X : Cx} {e : Expr} : PE X e tNever := by
  constructor; intro pins s σ H Q I h
  exact h.elim
noncomputable def tLenSet (K : PySem.W.Frag) (t : TA) : TE := fun σ H Q => t σ H fun vs H1 => ∃ a ns, vs = [V.ref a] ∧ SqL K H1 a (ns.map V.int) ∧ ns.length < 4000 ∧ Q (.int (dd ns).length) H1
theorem pe_lenSet {X : Cx} {K : PySem.W.Frag} {e : Expr} {t : TA} {p p2 pos pos2 : Pos} (hK : X.K = K) (hc : X.calm = true) (hgl : Gl X "len") (hml : X.mg "len" = none) (hg : Gl X "set") (hm : X.mg "set" = none) (ha : PA X [e] t)
    (hs : starEach [e] X.env = [(false, eval e X.env)] := by rfl) (hs2 : starEach [.Call (.Name "set" p2) [e] [] pos2] X.env = [(false, eval (.Call (.Name "set" p2) [e] [] pos2) X.env)] := by rfl) :
    PE X (.Call (.Name "len" p) [.Call (.Name "set" p2) [e] [] pos2] [] pos) (tLenSet K t) := by
  constructor; intro pins s σ H Q I h
  subst hK
  refine wpAny_Call_Name_kw (ld_blt I hgl hml boot_len ?_ (by decide) (by decide))
  refine PyProof.Rows.callWith_builtin1 ?_ (by rw [hs2]; rfl) rfl
  rw [hs2]
  show wpAny _ _ (spliced ((false, eval (.Call (.Name "set" p2) [e] [] pos2) X.env) :: backTo pos [])) _ _ s
  refine Calls.spliced_cons ?_
  refine wpAny_Call_Name_kw (ld_blt I hg hm PyProof.Rows.boot_set (PyProof.Rows.callWith_type1 (thn (ha pos2 pins s σ H _ I h) fun us s1 ⟨vs, H1, I1, r1, q1⟩ => ?_) hs rfl) (by decide) (by decide))
  obtain ⟨l, ns, rfl, hx, h4, q⟩ := q1
  obtain ⟨u, rfl, ru⟩ := vals1 r1
  cases ru
  obtain ⟨its, rv, pl, hz⟩ := I1.list hx
  have hlen := rv.length
  rw [List.length_map] at hlen
  refine call_set_g (I1.ok.hd hc) pl.isList hlen.symm (fun j u eu => ?_) (show ns.length + 1 < 4096 by omega) fun h' tk hG k => ?_
  · obtain ⟨x, hx1, rx⟩ := vals_get' rv eu
    rw [List.getElem?_map] at hx1
    cases en : ns[j]? with
    | none => rw [en] at hx1; cases hx1
    | some n =>
      rw [en] at hx1
      cases hx1
      obtain ⟨t, rfl⟩ := rx
      exact ⟨n, t, rfl, rfl⟩
  refine Calls.spliced_nil ?_
  obtain ⟨o, es, ep, tb, ho, hex, hd, _, hsc, hf, _, _, hp⟩ := hG
  have he : es.size = (dd ns).length := by
    have := hp.length_eq
    rw [List.length_map, Array.length_toList] at this
    exact this
  have h40 : (dd ns).length ≤ ns.length := dd_len ns
  refine call_len_set (s := { s1 with heap := h', toks := tk }) ho hex hd hf (by rw [he]; omega) ?_
  have I2 : Inv X pins σ H1 { s1 with heap := h', toks := tk + 1 + 1 } := I1.kept (t' := tk + 1 + 1) (h' := h') fun b o eb => k b o eb
  exact ⟨.int _, _, I2, ⟨_, by rw [he]⟩, q⟩
section
variable {prog : Program} {w : World} {A : Around} {E : Value → Shared → Prop} {s : Shared}
theorem collect_rev {R : List Value → Shared → Prop} {l I : Addr} {items : Array Value} (hh : A.handled = none) (hl : s.heap.IsList l items) (hit : s.heap.IsRevIter I l ((items.size : Int) - 1)) (hlI : l ≠ I) (hn : items.size ≤ sizeLine)
    (h : ∀ (h' : Heap) (tk : Nat) (acc : Array Value), (∀ b o, b ≠ I → s.heap.get? b = some o → h'.get? b = some o) → ItemsOf (fun i v => items[items.size - 1 - i]? = some v) acc items.size → R acc.toList { s with heap := h', toks := tk }) :
    wpAny (model prog w) A (collect (.ref I)) R E s := by
  obtain ⟨oI, hoI, cI, dI⟩ := id hit
  obtain ⟨ol, hol, cl, nl, dl⟩ := id hl
  have hIs : I ≠ s.heap.objs.size := Nat.ne_of_lt (Heap.lt_size hoI)
  have hls : l ≠ s.heap.objs.size := Nat.ne_of_lt (Heap.lt_size hol)
  unfold collect
  refine wpAny_bind (wpAny_runValue (codeAny_builtin PyProof.Rows.entry_proto_collect' ?_))
  rw [Around.under_plainId PySem.F.plain_proto_collect _]
  show wpAny _ A.in1 (newList [] >>= fun q => again (.builtin "list.__iadd__" ⟨[q, .ref I], []⟩)) _ _ s
  refine wpAny_bind (wpAny_newObj_type (wpAny_pure ⟨plainId_quiet PySem.F.plain_list_iadd _, codeAny_builtin PyProof.Rows.entry_list_iadd' ?_⟩))
  rw [Around.under_plainId PySem.F.plain_list_iadd _]
  have hL : (s.heap.push { cls := .type "list", data := .seq ([] : List Value).toArray }).get? s.heap.objs.size = some { cls := .type "list", data := .seq #[] } := Heap.get?_push_size _ rfl
  show wpAny _ A.in1 (Builtin.List.listExtendWith (.ref s.heap.objs.size) (.ref I) (.ref s.heap.objs.size)) _ _ _
  have key := rv_extend (prog := prog) (w := w) (A := A) (s := { s with heap := s.heap.push { cls := .type "list", data := .seq ([] : List Value).toArray } }) (S := s.heap.objs.size) (res := .ref s.heap.objs.size)
    (R := fun (q : Result) (s' : Shared) => ∃ (h' : Heap) (tk : Nat) (acc : Array Value) (c : Nat), q = .ok (.ret (.ref s.heap.objs.size)) ∧ s' = { s with heap := h', toks := tk } ∧ (∀ b o, b ≠ I → s.heap.get? b = some o → h'.get? b = some o) ∧
      h'.get? s.heap.objs.size = some { cls := .type "list", dict := none, data := .seq acc c, slots := #[] } ∧ ItemsOf (fun i v => items[items.size - 1 - i]? = some v) acc items.size)
    hh (hl.at fun o e => Heap.get?_push_of_some _ e) (hit.at fun o e => Heap.get?_push_of_some _ e) hlI hIs.symm hls.symm hn hL
    (fun h' tk acc c k hL' hacc => ⟨h', tk, acc, c, rfl, rfl, fun b o hb e => k b o (Nat.ne_of_lt (Heap.lt_size e)) hb (Heap.get?_push_of_some _ e), hL', hacc⟩)
  refine wpAny_mono key (fun fin s' x => ?_) fun e s' x => ?_
  · cases fin with
    | done f =>
      obtain ⟨h', tk, acc, c, e, rfl, k, hL', hacc⟩ := x
      cases e; show wpAny _ A (load s.heap.objs.size >>= _) _ _ _
      exact wpAny_bind (wpAny_load hL' (wpAny_pure (h h' tk acc k hacc)))
    | again c₁ =>
      refine ⟨x.1, codeAny_mono x.2 fun q s₂ y => ?_⟩
      obtain ⟨h', tk, acc, c, rfl, rfl, k, hL', hacc⟩ := y
      show wpAny _ A (load s.heap.objs.size >>= _) _ _ _
      exact wpAny_bind (wpAny_load hL' (wpAny_pure (h h' tk acc k hacc)))
  · obtain ⟨_, _, _, _, e', _⟩ := x
    cases e'
theorem join_rev {Q : Value → Shared → Prop} {x : Str} {t : Tok} {l I : Addr} {items : Array Value} {ys : List Str} (hh : A.handled = none) (hl : s.heap.IsList l items) (hit : s.heap.IsRevIter I l ((items.size : Int) - 1)) (hlI : l ≠ I) (hn : items.size ≤ sizeLine)
    (hy : ∀ acc : List Value, acc.length = items.size → (∀ j v, acc[j]? = some v → items[items.size - 1 - j]? = some v) → StrsAre acc ys) (hok : (ys.map (·.length)).sum + ys.length * x.length ≤ 16777216)
    (hQ : ∀ h' tk t', (∀ b o, b ≠ I → s.heap.get? b = some o → h'.get? b = some o) → Q (.str (Txt.join x ys) t') { s with heap := h', toks := tk }) :
    wpAny (model prog w) A (call (.builtin "str.join") [.str x t, .ref I]) Q E s := by
  have W := (Walks.listRev (prog := prog) (w := w) (A := A.in1) hh I l hlI items).toS
  have st0 : 0 ≤ items.size ∧ s.heap.IsRevIter I l ((items.size : Int) - 1 - ((0 : Nat) : Int)) ∧ s.heap.IsList l items := ⟨Nat.zero_le _, by simpa using hit, hl⟩
  refine wpAny_call (codeAny_call_builtin PySem.F.slot_str_join.plain PySem.F.entry_str_join (PySem.F.slot_str_join.check _ _ _ _ _ _ _ _ (typeIs_str _ _ _) (PySem.F.args_str_join_2 _ _) ?_))
  rw [join_tree_other]
  refine wpAny_bind (wpAny_typeOf hit.typeIs ?_)
  show wpAny _ A.in1 ((pyIter (.ref I)).tryCatch _ >>= fun it => collect it >>= fun items => joinTail x items) _ _ s
  refine wpAny_bind (wpAny_tryCatch (W.self 0 s _ _ st0 ?_))
  refine wpAny_bind (collect_rev (A := A.in1) hh hl hit hlI hn fun h' tk acc k hacc => ?_)
  have hS := hy acc.toList (by rw [Array.length_toList]; exact hacc.1) fun j v ev => hacc.2 j v (by rw [← Array.getElem?_toList]; exact ev)
  obtain ⟨p, hv, ht⟩ := strsAre_values hS
  rw [hv]
  have hok' := joinOk_of hok
  rw [← ht] at hok'
  unfold JoinOk at hok'
  rw [Bool.not_eq_true'] at hok'
  have g : PySem.Gives (joinTail x (strValues p)) (joinMade x p) := by
    have g0 := gives_joinTail x p hok'
    cases p with
    | nil => exact g0
    | cons _ r => cases r with
      | nil => exact g0
      | cons _ _ => exact g0
  exact g prog w A (wants Q E) _ (post_join p ⟨joinFit_length hok', fun t' k2 => by rw [ht]; exact hQ h' k2 t' k⟩)
end
noncomputable def tJoinRev (to : TE) (t : TA) : TE := fun σ H Q => to σ H fun x H0 => ∃ z : Str, x = .str z ∧ t σ H0 fun vs H1 => ∃ (a : Addr) (ys : List Str), vs = [V.ref a] ∧ H1 a = some (.lst (ys.map V.str)) ∧ (ys.map (·.length)).sum + ys.length * z.length ≤ 16777216 ∧ Q (.str (Str.join z ys.reverse)) H1
theorem pe_joinRev {X : Cx} {o e : Expr} {to : TE} {t : TA} {p2 apos cpos pos2 : Pos} (hc : X.calm = true) (hg : Gl X "reversed") (hm : X.mg "reversed" = none) (ho : PE X o to) (ha : PA X [e] t)
    (hbase : attributeBase o "join" X.env (eval o X.env) = eval o X.env := by rfl)
    (hfew : ((backTo cpos (starEach [.Call (.Name "reversed" p2) [e] [] pos2] X.env)).all (fun x => !x.1) && (backToKw cpos (keywordEach [] X.env)).all (fun x => x.1.isSome)
      && decide (([.Call (.Name "reversed" p2) [e] [] pos2] : List Expr).length + ([] : List Keyword).length + (if ([] : List Keyword).isEmpty then 0 else 1) < 30)) = true := by rfl)
    (hline : (apos.endLine == cpos.line) = true := by rfl) (hs : starEach [e] X.env = [(false, eval e X.env)] := by rfl) (hs2 : starEach [.Call (.Name "reversed" p2) [e] [] pos2] X.env = [(false, eval (.Call (.Name "reversed" p2) [e] [] pos2) X.env)] := by rfl) :
    PE X (.Call (.Attribute o "join" apos) [.Call (.Name "reversed" p2) [e] [] pos2] [] cpos) (tJoinRev to t) := by
  constructor; intro pins s σ H Q I h
  refine wpAny_Call_method_late hbase hfew hline rfl (thn (ho pins s σ H _ I h) fun v s1 ⟨x, H1, I1, r1, q1⟩ => ?_)
  obtain ⟨z, rfl, q1⟩ := q1
  obtain ⟨tz, rfl⟩ := r1
  refine ⟨"str", "str.join", PySem.F.plainAttrs_str, PySem.F.slot_str_join, PySem.F.type_str_join, typeIs_str _ _ _, fun a z => (by cases z), ?_⟩
  rw [hs2]
  refine Calls.callWith_builtin rfl (Calls.evalArgs_plain ?_)
  show wpAny _ _ (spliced ((false, eval (.Call (.Name "reversed" p2) [e] [] pos2) X.env) :: backTo cpos [])) _ _ s1
  refine Calls.spliced_cons ?_
  refine wpAny_Call_Name_kw (ld_blt I1 hg hm boot_reversed (PyProof.Rows.callWith_type1 (thn (ha pos2 pins s1 σ H1 _ I1 q1) fun us s2 ⟨vs, H2, I2, r2, q2⟩ => ?_) hs rfl) (by decide) (by decide))
  obtain ⟨l, ys, rfl, hl, hok, q⟩ := q2
  obtain ⟨u, rfl, ru⟩ := vals1 r2
  cases ru
  obtain ⟨its, rv, pl, hz⟩ := I2.list (SqL.of hl)
  have hlen := rv.length
  refine call_reversed_list pl.isList (Calls.spliced_nil ?_)
  have hi : (s2.heap.push (revObj l ((its.toArray.size : Int) - 1))).IsRevIter s2.heap.objs.size l ((its.toArray.size : Int) - 1) := ⟨_, Heap.get?_push_size _ rfl, rfl, rfl⟩
  have hll : l < s2.heap.objs.size := by obtain ⟨_, el, _⟩ := pl.isList; exact Heap.lt_size el
  refine join_rev (s := { s2 with heap := s2.heap.push (revObj l ((its.toArray.size : Int) - 1)) }) (ys := ys.reverse) (I2.ok.hd hc) (pl.isList.push _) hi (Nat.ne_of_lt hll) (by rw [List.size_toArray, ← hlen]; exact hz) (fun acc ha hj => ?_) (by rw [List.map_reverse, List.sum_reverse, List.length_reverse]; exact hok) fun h' tk t' k => ?_
  · refine strsAre_of (by
      rw [List.map_reverse]
      exact vals_at rv (by rw [ha, List.size_toArray, hlen]) fun j v ev => by simpa using hj j v ev)
  · have I3 : Inv X pins σ H2 { s2 with heap := h', toks := tk } := I2.kept (t' := tk) (h' := h') fun b o eb => k b o (Nat.ne_of_lt (Heap.lt_size eb)) (Heap.get?_push_of_some _ eb)
    have ej : Txt.join z ys.reverse = Str.join z ys.reverse := eq_of_beq (join_plain_closes z _)
    exact ⟨.str _, _, I3, ⟨_, rfl⟩, by rw [ej]; exact q⟩
theorem vals_tys : ∀ {cs : List String} {us : List Value}, Vals (cs.map V.ty) us → us = cs.map Value.type
  | [], _, .nil => rfl
  | c :: r, _, .cons e q => by rw [vals_tys q, show _ = Value.type c from e]; rfl
theorem call_isTT {X : Cx} {K : PySem.W.Frag} (hK : X.K = K) : CallR X (.builtin "isinstance") (fun xs H Q => ∃ (x : V) (tp : Addr) (cs : List String) (t : Value) (b : Bool), xs = [x, V.ref tp] ∧ H tp = some (.tup (cs.map V.ty)) ∧ TyOf K H x t ∧ PySem.W.kitAny K t (cs.map Value.type) = some b ∧ Q (.bl b) H) := by
  subst hK
  intro pins s σ H xs us Q I r h
  obtain ⟨x, tp, cs, t, b, rfl, ht, ty, e, q⟩ := h
  obtain ⟨u, w', rfl, rx, rw'⟩ := vals2 r
  cases rw'
  obtain ⟨_, its, rv, o, e1, hc, n, hd⟩ := (show ObjOk X.prog X.w H s.heap tp (.tup (cs.map V.ty)) from I.hok tp _ ht)
  have ei := vals_tys rv
  subst ei
  obtain ⟨oc, odd, oda, osl⟩ := o
  dsimp only at hc hd
  subst hc hd
  have h : ∀ tk, EP X pins σ Q (.bool b) { s with toks := tk } := fun tk => ⟨.bl b, H, I.tok tk, rfl, q⟩
  cases ty with
  | non => cases (show u = Value.none from rx); exact PySem.W.kia_tup PySem.W.kitx_none I.kIn True.intro e1 e (fun z => nomatch z) h
  | bl y => cases (show u = Value.bool y from rx); exact PySem.W.kia_tup PySem.W.kitx_bool I.kIn True.intro e1 e (fun z => nomatch z) h
  | int i => obtain ⟨t, q⟩ := (show ∃ t, u = Value.int i t from rx); cases q; exact PySem.W.kia_tup PySem.W.kitx_int I.kIn True.intro e1 e (fun z => nomatch z) h
  | str y => obtain ⟨t, q⟩ := (show ∃ t, u = Value.str y t from rx); cases q; exact PySem.W.kia_tup PySem.W.kitx_str I.kIn True.intro e1 e (fun z => nomatch z) h
  | flt y => obtain ⟨t, q⟩ := (show ∃ t, u = Value.float y t from rx); cases q; exact PySem.W.kia_tup PySem.W.kitx_float I.kIn True.intro e1 e (fun z => nomatch z) h
  | @lst a xs ea =>
    cases (show u = Value.ref a from rx)
    obtain ⟨_, _, n, _, h1⟩ := (show ObjOk X.prog X.w H s.heap a (.lst xs) from I.hok a _ ea)
    exact PySem.W.kia_tup PySem.W.kitx_list I.kIn ⟨_, h1, rfl⟩ e1 e (fun z => nomatch z) h
  | @frz a ob xs ea =>
    cases (show u = Value.ref a from rx)
    obtain ⟨_, _, _, n, _, h1⟩ := (show ObjOk X.prog X.w H s.heap a (.frz ob (.lst xs)) from I.hok a _ ea)
    exact PySem.W.kia_tup PySem.W.kitx_list I.kIn ⟨_, h1, rfl⟩ e1 e (fun z => nomatch z) h
  | @tup a xs ea =>
    cases (show u = Value.ref a from rx)
    obtain ⟨_, _, _, p⟩ := (show ObjOk X.prog X.w H s.heap a (.tup xs) from I.hok a _ ea)
    obtain ⟨o, h1, h2, _⟩ := p
    exact PySem.W.kia_tup PySem.W.kitx_tuple I.kIn ⟨o, h1, h2⟩ e1 e (fun z => nomatch z) h
  | @dK a kvs ea =>
    cases (show u = Value.ref a from rx)
    obtain ⟨_, _, vs, _, p⟩ := (show ObjOk X.prog X.w H s.heap a (.dK kvs) from I.hok a _ ea)
    obtain ⟨o, es, ep, h1, h2, _⟩ := p
    exact PySem.W.kia_tup PySem.W.kitx_dict I.kIn ⟨o, h1, h2.1⟩ e1 e (fun z => nomatch z) h
  | @dT a kvs ea =>
    cases (show u = Value.ref a from rx)
    obtain ⟨_, _, xs, _, o, es, ep, h1, h2, _⟩ := (show ObjOk X.prog X.w H s.heap a (.dT kvs) from I.hok a _ ea)
    exact PySem.W.kia_tup PySem.W.kitx_dict I.kIn ⟨o, h1, h2.1⟩ e1 e (fun z => nomatch z) h
  | @ins a C dx fs ea cl ha hn htk hm =>
    cases (show u = Value.ref a from rx)
    obtain ⟨mA, O, _⟩ := ins_get I.hok ea
    obtain ⟨od, J, _⟩ := O.look
    exact PySem.W.kia_tup (PySem.W.kitx_own (cl.get _) cl.hd ha hn htk hm) I.kIn J e1 e (fun z => nomatch z) h
mutual
inductive Tr (H : Hp) : V → PyData → Prop where
  | int (i : Int) : Tr H (.int i) (.int i)
  | str (x : Str) : Tr H (.str x) (.str x)
  | lst {a : Addr} {xs : List V} {ds : List PyData} (h : H a = some (.lst xs)) (r : Trs H xs ds) : Tr H (.ref a) (.list ds)
  | tup {a : Addr} {xs : List V} {ds : List PyData} (h : H a = some (.tup xs)) (r : Trs H xs ds) : Tr H (.ref a) (.tuple ds)
inductive Trs (H : Hp) : List V → List PyData → Prop where
  | nil : Trs H [] []
  | cons {x : V} {d : PyData} {xs : List V} {ds : List PyData} (h : Tr H x d) (r : Trs H xs ds) : Trs H (x :: xs) (d :: ds)
end
mutual
theorem Tr.same {H H' : Hp} (s : Same H H') {v : V} {d : PyData} (h : Tr H v d) : Tr H' v d := by
  cases h with
  | int i => exact .int i
  | str x => exact .str x
  | lst h r => exact .lst (s _ _ h) (Trs.same s r)
  | tup h r => exact .tup (s _ _ h) (Trs.same s r)
theorem Trs.same {H H' : Hp} (s : Same H H') {vs : List V} {ds : List PyData} (h : Trs H vs ds) : Trs H' vs ds := by
  cases h with
  | nil => exact .nil
  | cons h r => exact .cons (Tr.same s h) (Trs.same s r)
end
mutual
theorem Tr.dt {K : PySem.W.Frag} {H : Hp} {v : V} {d : PyData} (h : Tr H v d) : Dt K H v d := by
  cases h with
  | int i => exact .int i
  | str x => exact .str x
  | lst h r => exact .lst (SqL.of h) (Trs.dts r)
  | tup h r => exact .tup (SqT.of h) (Trs.dts r)
theorem Trs.dts {K : PySem.W.Frag} {H : Hp} {vs : List V} {ds : List PyData} (h : Trs H vs ds) : Dts K H vs ds := by
  cases h with
  | nil => exact .nil
  | cons h r => exact .cons (Tr.dt h) (Trs.dts r)
end
theorem Trs.len {H : Hp} : ∀ {vs : List V} {ds : List PyData}, Trs H vs ds → vs.length = ds.length
  | _, _, .nil => rfl
  | _, _, .cons _ r => by simp only [List.length_cons, Trs.len r]
theorem Trs.get {H : Hp} : ∀ {vs : List V} {ds : List PyData}, Trs H vs ds → ∀ {i : Nat} {v : V}, vs[i]? = some v → ∃ d, ds[i]? = some d ∧ Tr H v d
  | _, _, .nil, i, v, e => by simp at e
  | _, _, .cons h r, 0, v, e => by cases e; exact ⟨_, rfl, h⟩
  | _, _, .cons h r, i + 1, v, e => Trs.get r (i := i) (by simpa using e)
theorem Trs.at {H : Hp} : ∀ {vs : List V} {ds : List PyData}, Trs H vs ds → ∀ {i : Nat} {d : PyData}, ds[i]? = some d → ∃ v, vs[i]? = some v ∧ Tr H v d
  | _, _, .nil, i, v, e => by simp at e
  | _, _, .cons h r, 0, v, e => by cases e; exact ⟨_, rfl, h⟩
  | _, _, .cons h r, i + 1, v, e => Trs.at r (i := i) (by simpa using e)
theorem Trs.app {H : Hp} : ∀ {vs us : List V} {ds es : List PyData}, Trs H vs ds → Trs H us es → Trs H (vs ++ us) (ds ++ es)
  | _, _, _, _, .nil, r => r
  | _, _, _, _, .cons h q, r => .cons h (Trs.app q r)
theorem Trs.ints {H : Hp} : ∀ {vs : List V} {ns : List Int}, Trs H vs (ns.map PyData.int) → vs = ns.map V.int
  | _, [], .nil => rfl
  | _, n :: r, .cons h q => by cases h; rw [Trs.ints q]; rfl
theorem Trs.ofInts {H : Hp} : ∀ (ns : List Int), Trs H (ns.map V.int) (ns.map PyData.int)
  | [] => .nil
  | n :: r => .cons (.int n) (Trs.ofInts r)
end My
namespace My
open PySem PySem.Spec PyProof.Rows L2
noncomputable def off (H H' : Hp) : Hp := fun b => if (H b).isSome = true then none else H' b
noncomputable def butD (H : Hp) (D : Addr) : Hp := fun b => if b = D then none else H b
noncomputable def sans (H1 H H3 : Hp) : Hp := fun b => if ((H1 b).isNone && (H b).isSome) = true then none else H3 b
theorem off_sub {H H' : Hp} : Same (off H H') H' := fun b o e => by
  unfold off at e
  split at e
  · cases e
  · exact e
theorem butD_sub {H : Hp} {D : Addr} : Same (butD H D) H := fun b o e => by
  unfold butD at e
  split at e
  · cases e
  · exact e
theorem off_at {H H' : Hp} {b : Addr} {o : HO} (h : H b = none) (e : H' b = some o) : off H H' b = some o := by
  unfold off
  rw [h]
  exact e
theorem off_none {H H' : Hp} {b : Addr} {o : HO} (e : off H H' b = some o) : H b = none ∧ H' b = some o := by
  unfold off at e
  split at e
  · cases e
  · next h =>
    refine ⟨?_, e⟩
    cases q : H b with
    | none => rfl
    | some z => rw [q] at h; exact absurd rfl h
theorem off_mono {H H' H'' : Hp} (s : Same H' H'') : Same (off H H') (off H H'') := fun b o e => off_at (off_none e).1 (s _ _ (off_none e).2)
theorem off_less {H H2 H' : Hp} (s : Same H H2) : Same (off H2 H') (off H H') := fun b o e => off_at (by
  cases q : H b with
  | none => rfl
  | some z => have := s _ _ q; rw [(off_none e).1] at this; cases this) (off_none e).2
theorem old_sans {H1 H H3 : Hp} (s : Same H1 H3) : Same H1 (sans H1 H H3) := fun b o e => by
  unfold sans
  rw [e]
  exact s _ _ e
theorem new_sans {H1 H H3 : Hp} {b : Addr} {o : HO} (h : H b = none) (e : H3 b = some o) : sans H1 H H3 b = some o := by
  unfold sans
  rw [h]
  simp [e]
theorem range_pick {α β : Type} (f : α → Option β) : ∀ (as : List α), (List.range as.length).filterMap (fun i => as[i]?.bind f) = as.filterMap f := by
  intro as
  have key : ∀ n, n ≤ as.length → (List.range n).filterMap (fun i => as[i]?.bind f) = (as.take n).filterMap f := by
    intro n
    induction n with
    | zero => intro _; rfl
    | succ n ih =>
      intro h
      rw [List.range_succ, List.filterMap_append, ih (by omega), List.take_add_one, List.filterMap_append, List.getElem?_eq_getElem (show n < as.length by omega)]
      congr 1
      show List.filterMap (fun i => as[i]?.bind f) [n] = List.filterMap f [as[n]]
      simp only [List.filterMap_cons, List.filterMap_nil, List.getElem?_eq_getElem (show n < as.length by omega), Option.bind]
  rw [key as.length (Nat.le_refl _), List.take_length]
theorem compL {α : Type} {σ0 fs : L2.St} {k : Nat} {K : PySem.W.Frag} {l : Addr} {xs : List V} {g : TG} {tc : TT} {te : TE} {Q : VK} {H1 : Hp} (as : List α) (dx : α → PyData) (f : α → Option V) (h0 : σ0 = List.replicate k none ++ fs) (hl : H1 l = some (.lst xs)) (ht : Trs H1 xs (as.map dx)) (hz : as.length ≤ sizeLine)
    (step : ∀ a, a ∈ as → ∀ H (ts : L2.St) v (R : Option V → L2.St → Hp → Prop), Same H1 H → ts.length = k → Tr H v (dx a) → (∀ (ts2 : L2.St) H3, ts2.length = k → Same H H3 → R (f a) (ts2 ++ fs) H3) →
      g v (ts ++ fs) H fun τ2 H2 => tc τ2 H2 fun ok H3 => if ok = true then te τ2 H3 fun y H4 => R (some y) τ2 H4 else R none τ2 H3)
    (fin : ∀ D H', H1 D = none → Same H1 H' → H' D = some (.lst (as.filterMap f)) → Q (.ref D) H') : compQF σ0 (Itl K l) g tc te Q H1 := by
  have hn : xs.length = as.length := by rw [ht.len, List.length_map]
  refine compQF_map as.length (fun i => as[i]?.bind f) h0 hz (fun i H ss hi => (gives_list (SqL.of (ss _ _ hl))).go i (by omega)) (fun H ss => (gives_list (SqL.of (ss _ _ hl))).stop _ (by omega)) ?_ fun D H' hD ss hd => fin D H' hD ss (by rw [hd, range_pick])
  rintro i H ts v H' R ss hi hts ⟨rfl, yy⟩ cont
  have e := yy xs (SqL.of (ss _ _ hl))
  obtain ⟨d, hd, tr⟩ := ht.get e
  rw [List.getElem?_map] at hd
  cases ea : as[i]? with
  | none => rw [ea] at hd; cases hd
  | some a =>
    rw [ea] at hd
    cases hd
    exact step a (List.mem_of_getElem? ea) H' ts v R ss hts (tr.same ss) fun ts2 H3 h2 s3 => by
      have := cont ts2 H3 h2 s3
      rw [ea] at this
      exact this
theorem compC {α : Type} {σ0 fs : L2.St} {k : Nat} {K : PySem.W.Frag} {l : Addr} {xs : List V} {g : TG} {tc : TT} {te : TE} {Q : VK} {H1 : Hp} (S : Hp → Hp → Hp) (Z : Addr → Hp → Hp) (as : List α) (dx : α → PyData) (dy : α → Option PyData) (h0 : σ0 = List.replicate k none ++ fs) (hl : H1 l = some (.lst xs)) (ht : Trs H1 xs (as.map dx)) (hz : as.length ≤ sizeLine)
    (z1 : ∀ D H H3 o, H1 D = none → Same H1 H → H D = some o → Same H H3 → Same (Z D H) (Z D H3)) (z2 : ∀ D H H3 o zs, H1 D = none → Same H1 H → H D = some o → Same H H3 → Same (S H H3) (Z D (upd H3 D (.lst zs))))
    (z3 : ∀ D H o zs, H1 D = none → Same H1 H → H D = some o → Same (Z D H) (Z D (upd H D (.lst zs))))
    (step : ∀ a, a ∈ as → ∀ H (ts : L2.St) v (R : Option V → L2.St → Hp → Prop), Same H1 H → ts.length = k → Tr H v (dx a) → Tr H1 v (dx a) → (∀ d y (ts2 : L2.St) H3, dy a = some d → ts2.length = k → Same H H3 → Tr (S H H3) y d → R (some y) (ts2 ++ fs) H3) → (dy a = none → ∀ (ts2 : L2.St) H3, ts2.length = k → Same H H3 → R none (ts2 ++ fs) H3) →
      g v (ts ++ fs) H fun τ2 H2 => tc τ2 H2 fun ok H3 => if ok = true then te τ2 H3 fun y H4 => R (some y) τ2 H4 else R none τ2 H3)
    (fin : ∀ D H' ys, H1 D = none → Same H1 H' → H' D = some (.lst ys) → Trs (Z D H') ys (as.filterMap dy) → Q (.ref D) H') : compQF σ0 (Itl K l) g tc te Q H1 := by
  have hn : xs.length = as.length := by rw [ht.len, List.length_map]
  intro D hD
  refine ⟨fun i m ys τ H => m = as.length - i ∧ i ≤ as.length ∧ ys.length ≤ i ∧ Trs (Z D H) ys ((as.take i).filterMap dy) ∧ (∃ ts : L2.St, ts.length = k ∧ τ = ts ++ fs) ∧ Same H1 H ∧ H D = some (.lst ys), ⟨as.length, rfl, Nat.zero_le _, Nat.le_refl _, .nil, ⟨_, List.length_replicate, h0⟩, Same.upd hD, upd_same⟩, ?_⟩
  rintro i m ys τ H ⟨rfl, hi, hyl, hp, ⟨ts, hts, rfl⟩, ss, hd⟩
  refine ⟨hd, ?_⟩
  by_cases hlt : i < as.length
  · refine .inr ⟨(gives_list (SqL.of (ss _ _ hl))).go i (by omega), by omega, ?_⟩
    rintro v H' ⟨rfl, yy⟩
    have e := yy xs (SqL.of (ss _ _ hl))
    obtain ⟨d, hde, tr⟩ := ht.get e
    have ea : as[i]? = some as[i] := List.getElem?_eq_getElem hlt
    rw [List.getElem?_map, ea] at hde
    cases hde
    refine step as[i] (List.getElem_mem hlt) H' ts v (fun o τ2 H3 => match o with
      | some y => H3 D = some (.lst ys) ∧ ∃ m', m' < as.length - i ∧ m' = as.length - (i + 1) ∧ i + 1 ≤ as.length ∧ (ys ++ [y]).length ≤ i + 1 ∧ Trs (Z D (upd H3 D (.lst (ys ++ [y])))) (ys ++ [y]) ((as.take (i + 1)).filterMap dy) ∧ (∃ ts : L2.St, ts.length = k ∧ τ2 = ts ++ fs) ∧ Same H1 (upd H3 D (.lst (ys ++ [y]))) ∧ upd H3 D (.lst (ys ++ [y])) D = some (.lst (ys ++ [y]))
      | none => ∃ m', m' < as.length - i ∧ m' = as.length - (i + 1) ∧ i + 1 ≤ as.length ∧ ys.length ≤ i + 1 ∧ Trs (Z D H3) ys ((as.take (i + 1)).filterMap dy) ∧ (∃ ts : L2.St, ts.length = k ∧ τ2 = ts ++ fs) ∧ Same H1 H3 ∧ H3 D = some (.lst ys)) ss hts (tr.same ss) tr (fun d y ts2 H3 hy h2 s3 tr3 => ?_) fun hy ts2 H3 h2 s3 => ?_
    · refine ⟨s3 _ _ hd, as.length - (i + 1), by omega, rfl, hlt, (by rw [List.length_append, List.length_singleton]; omega), ?_, ⟨ts2, h2, rfl⟩, (ss.trans s3).again hD, upd_same⟩
      rw [List.take_add_one, ea, List.filterMap_append]
      refine ((hp.same (z1 D H' H3 _ hD ss hd s3)).same (z3 D H3 _ _ hD (ss.trans s3) (s3 _ _ hd))).app ?_
      show Trs _ [y] (List.filterMap dy [as[i]])
      rw [List.filterMap_cons, hy]
      exact .cons (tr3.same (z2 D H' H3 _ _ hD ss hd s3)) .nil
    · refine ⟨as.length - (i + 1), by omega, rfl, hlt, by omega, ?_, ⟨ts2, h2, rfl⟩, ss.trans s3, s3 _ _ hd⟩
      rw [List.take_add_one, ea, List.filterMap_append]
      have e0 : List.filterMap dy (some as[i]).toList = [] := by
        show List.filterMap dy [as[i]] = []
        rw [List.filterMap_cons, hy]
        rfl
      rw [e0, List.append_nil]
      exact hp.same (z1 D H' H3 _ hD ss hd s3)
  · have e : i = as.length := by omega
    subst e
    rw [List.take_length] at hp
    exact .inl ⟨(gives_list (SqL.of (ss _ _ hl))).stop _ (by omega), fin D H ys hD ss hd hp⟩
theorem butD_ne {H : Hp} {D b : Addr} {o : HO} (e : butD H D b = some o) : b ≠ D ∧ H b = some o := by
  unfold butD at e
  split at e
  · cases e
  · next h => exact ⟨h, e⟩
theorem butD_at {H : Hp} {D b : Addr} {o : HO} (h : b ≠ D) (e : H b = some o) : butD H D b = some o := by
  unfold butD
  rw [if_neg h]
  exact e
theorem compN {α : Type} {σ0 fs : L2.St} {k : Nat} {K : PySem.W.Frag} {l : Addr} {xs : List V} {g : TG} {tc : TT} {te : TE} {Q : VK} {H1 : Hp} (as : List α) (dx : α → PyData) (dy : α → Option PyData) (h0 : σ0 = List.replicate k none ++ fs) (hl : H1 l = some (.lst xs)) (ht : Trs H1 xs (as.map dx)) (hz : as.length ≤ sizeLine)
    (step : ∀ a, a ∈ as → ∀ H (ts : L2.St) v (R : Option V → L2.St → Hp → Prop), Same H1 H → ts.length = k → Tr H v (dx a) → (∀ d y (ts2 : L2.St) H3, dy a = some d → ts2.length = k → Same H H3 → Tr (off H H3) y d → R (some y) (ts2 ++ fs) H3) → (dy a = none → ∀ (ts2 : L2.St) H3, ts2.length = k → Same H H3 → R none (ts2 ++ fs) H3) →
      g v (ts ++ fs) H fun τ2 H2 => tc τ2 H2 fun ok H3 => if ok = true then te τ2 H3 fun y H4 => R (some y) τ2 H4 else R none τ2 H3)
    (fin : ∀ D H' ys, H1 D = none → Same H1 H' → H' D = some (.lst ys) → Trs (off H1 H') ys (as.filterMap dy) → Q (.ref D) H') : compQF σ0 (Itl K l) g tc te Q H1 :=
  compC (fun H H3 => off H H3) (fun D H => butD (off H1 H) D) as dx dy h0 hl ht hz (fun D H H3 o hD s1 hd s3 b ob e => butD_at (butD_ne e).1 (off_mono s3 _ _ (butD_ne e).2))
    (fun D H H3 o zs hD s1 hd s3 b ob e => by
      have hb : b ≠ D := fun z => by rw [z] at e; rw [(off_none e).1] at hd; cases hd
      exact butD_at hb (off_at (off_none (off_less s1 _ _ e)).1 (by rw [upd_ne hb]; exact (off_none e).2)))
    (fun D H o zs hD s1 hd b ob e => butD_at (butD_ne e).1 (off_at (off_none (butD_ne e).2).1 (by rw [upd_ne (butD_ne e).1]; exact (off_none (butD_ne e).2).2)))
    (fun a ha H ts v R ss hts tr _ cs cn => step a ha H ts v R ss hts tr cs cn) fun D H' ys hD ss hd ht => fin D H' ys hD ss hd (ht.same butD_sub)
theorem compT {α : Type} {σ0 fs : L2.St} {k : Nat} {K : PySem.W.Frag} {l : Addr} {xs : List V} {g : TG} {tc : TT} {te : TE} {Q : VK} {H1 : Hp} (as : List α) (dx : α → PyData) (dy : α → Option PyData) (h0 : σ0 = List.replicate k none ++ fs) (hl : H1 l = some (.lst xs)) (ht : Trs H1 xs (as.map dx)) (hz : as.length ≤ sizeLine)
    (step : ∀ a, a ∈ as → ∀ H (ts : L2.St) v (R : Option V → L2.St → Hp → Prop), Same H1 H → ts.length = k → Tr H v (dx a) → (∀ d y (ts2 : L2.St) H3, dy a = some d → ts2.length = k → Same H H3 → Tr (sans H1 H H3) y d → R (some y) (ts2 ++ fs) H3) → (dy a = none → ∀ (ts2 : L2.St) H3, ts2.length = k → Same H H3 → R none (ts2 ++ fs) H3) →
      g v (ts ++ fs) H fun τ2 H2 => tc τ2 H2 fun ok H3 => if ok = true then te τ2 H3 fun y H4 => R (some y) τ2 H4 else R none τ2 H3)
    (fin : ∀ D H' ys, H1 D = none → Same H1 H' → H' D = some (.lst ys) → Trs (butD H' D) ys (as.filterMap dy) → Q (.ref D) H') : compQF σ0 (Itl K l) g tc te Q H1 :=
  compC (fun H H3 => sans H1 H H3) (fun D H => butD H D) as dx dy h0 hl ht hz (fun D H H3 o hD s1 hd s3 b ob e => butD_at (butD_ne e).1 (s3 _ _ (butD_ne e).2))
    (fun D H H3 o zs hD s1 hd s3 b ob e => by
      have hb : b ≠ D := fun z => by
        rw [z] at e
        unfold sans at e
        rw [hD, hd] at e
        simp at e
      refine butD_at hb ?_
      rw [upd_ne hb]
      unfold sans at e
      split at e
      · cases e
      · exact e)
    (fun D H o zs hD s1 hd b ob e => butD_at (butD_ne e).1 (by rw [upd_ne (butD_ne e).1]; exact (butD_ne e).2))
    (fun a ha H ts v R ss hts tr _ cs cn => step a ha H ts v R ss hts tr cs cn) fin
theorem sans_iff {Ha H H3 : Hp} {b : Addr} {o : HO} : sans Ha H H3 b = some o ↔ H3 b = some o ∧ ¬ (Ha b = none ∧ ∃ z, H b = some z) := by
  unfold sans
  constructor
  · intro e
    split at e
    · cases e
    · next h =>
      refine ⟨e, fun ⟨h1, z, h2⟩ => h ?_⟩
      rw [h1, h2]
      rfl
  · rintro ⟨e, h⟩
    rw [if_neg]
    · exact e
    · intro z
      rw [Bool.and_eq_true] at z
      refine h ⟨Option.isNone_iff_eq_none.mp z.1, ?_⟩
      exact Option.isSome_iff_exists.mp z.2
theorem compV {α : Type} {σ0 fs : L2.St} {k : Nat} {K : PySem.W.Frag} {l : Addr} {xs : List V} {g : TG} {tc : TT} {te : TE} {Q : VK} {H1 : Hp} (Hb : Hp) (sb : Same Hb H1) (as : List α) (dx : α → PyData) (dy : α → Option PyData) (h0 : σ0 = List.replicate k none ++ fs) (hl : H1 l = some (.lst xs)) (ht : Trs Hb xs (as.map dx)) (hz : as.length ≤ sizeLine)
    (step : ∀ a, a ∈ as → ∀ H (ts : L2.St) v (R : Option V → L2.St → Hp → Prop), Same H1 H → ts.length = k → Tr Hb v (dx a) → (∀ d y (ts2 : L2.St) H3, dy a = some d → ts2.length = k → Same H H3 → Tr (sans Hb H H3) y d → R (some y) (ts2 ++ fs) H3) → (dy a = none → ∀ (ts2 : L2.St) H3, ts2.length = k → Same H H3 → R none (ts2 ++ fs) H3) →
      g v (ts ++ fs) H fun τ2 H2 => tc τ2 H2 fun ok H3 => if ok = true then te τ2 H3 fun y H4 => R (some y) τ2 H4 else R none τ2 H3)
    (fin : ∀ D H' ys, H1 D = none → Same H1 H' → H' D = some (.lst ys) → Trs (butD (sans Hb H1 H') D) ys (as.filterMap dy) → Q (.ref D) H') : compQF σ0 (Itl K l) g tc te Q H1 := by
  have hn : xs.length = as.length := by rw [ht.len, List.length_map]
  have z1 : ∀ D H H3, Same H H3 → Same (butD (sans Hb H1 H) D) (butD (sans Hb H1 H3) D) := fun D H H3 s3 b o e => by
    obtain ⟨e1, e2⟩ := butD_ne e
    obtain ⟨e3, e4⟩ := sans_iff.mp e2
    exact butD_at e1 (sans_iff.mpr ⟨s3 _ _ e3, e4⟩)
  have z3 : ∀ D H zs, Same (butD (sans Hb H1 H) D) (butD (sans Hb H1 (upd H D (.lst zs))) D) := fun D H zs b o e => by
    obtain ⟨e1, e2⟩ := butD_ne e
    obtain ⟨e3, e4⟩ := sans_iff.mp e2
    exact butD_at e1 (sans_iff.mpr ⟨by rw [upd_ne e1]; exact e3, e4⟩)
  intro D hD
  have hDb : Hb D = none := sb.free hD
  refine ⟨fun i m ys τ H => m = as.length - i ∧ i ≤ as.length ∧ ys.length ≤ i ∧ Trs (butD (sans Hb H1 H) D) ys ((as.take i).filterMap dy) ∧ (∃ ts : L2.St, ts.length = k ∧ τ = ts ++ fs) ∧ Same H1 H ∧ H D = some (.lst ys), ⟨as.length, rfl, Nat.zero_le _, Nat.le_refl _, .nil, ⟨_, List.length_replicate, h0⟩, Same.upd hD, upd_same⟩, ?_⟩
  rintro i m ys τ H ⟨rfl, hi, hyl, hp, ⟨ts, hts, rfl⟩, ss, hd⟩
  refine ⟨hd, ?_⟩
  by_cases hlt : i < as.length
  · refine .inr ⟨(gives_list (SqL.of (ss _ _ hl))).go i (by omega), by omega, ?_⟩
    rintro v H' ⟨rfl, yy⟩
    have e := yy xs (SqL.of (ss _ _ hl))
    obtain ⟨d, hde, tr⟩ := ht.get e
    have ea : as[i]? = some as[i] := List.getElem?_eq_getElem hlt
    rw [List.getElem?_map, ea] at hde
    cases hde
    refine step as[i] (List.getElem_mem hlt) H' ts v (fun o τ2 H3 => match o with
      | some y => H3 D = some (.lst ys) ∧ ∃ m', m' < as.length - i ∧ m' = as.length - (i + 1) ∧ i + 1 ≤ as.length ∧ (ys ++ [y]).length ≤ i + 1 ∧ Trs (butD (sans Hb H1 (upd H3 D (.lst (ys ++ [y])))) D) (ys ++ [y]) ((as.take (i + 1)).filterMap dy) ∧ (∃ ts : L2.St, ts.length = k ∧ τ2 = ts ++ fs) ∧ Same H1 (upd H3 D (.lst (ys ++ [y]))) ∧ upd H3 D (.lst (ys ++ [y])) D = some (.lst (ys ++ [y]))
      | none => ∃ m', m' < as.length - i ∧ m' = as.length - (i + 1) ∧ i + 1 ≤ as.length ∧ ys.length ≤ i + 1 ∧ Trs (butD (sans Hb H1 H3) D) ys ((as.take (i + 1)).filterMap dy) ∧ (∃ ts : L2.St, ts.length = k ∧ τ2 = ts ++ fs) ∧ Same H1 H3 ∧ H3 D = some (.lst ys)) ss hts tr (fun d y ts2 H3 hy h2 s3 tr3 => ?_) fun hy ts2 H3 h2 s3 => ?_
    · refine ⟨s3 _ _ hd, as.length - (i + 1), by omega, rfl, hlt, (by rw [List.length_append, List.length_singleton]; omega), ?_, ⟨ts2, h2, rfl⟩, (ss.trans s3).again hD, upd_same⟩
      rw [List.take_add_one, ea, List.filterMap_append]
      refine ((hp.same (z1 D H' H3 s3)).same (z3 D H3 _)).app ?_
      show Trs _ [y] (List.filterMap dy [as[i]])
      rw [List.filterMap_cons, hy]
      refine .cons (tr3.same fun b o eb => ?_) .nil
      obtain ⟨e3, e4⟩ := sans_iff.mp eb
      have hb : b ≠ D := fun z => e4 ⟨by rw [z]; exact hDb, _, by rw [z]; exact hd⟩
      exact butD_at hb (sans_iff.mpr ⟨by rw [upd_ne hb]; exact e3, fun ⟨h1, z, h2⟩ => e4 ⟨h1, z, ss _ _ h2⟩⟩)
    · refine ⟨as.length - (i + 1), by omega, rfl, hlt, by omega, ?_, ⟨ts2, h2, rfl⟩, ss.trans s3, s3 _ _ hd⟩
      rw [List.take_add_one, ea, List.filterMap_append]
      have e0 : List.filterMap dy (some as[i]).toList = [] := by
        show List.filterMap dy [as[i]] = []
        rw [List.filterMap_cons, hy]
        rfl
      rw [e0, List.append_nil]
      exact hp.same (z1 D H' H3 s3)
  · have e : i = as.length := by omega
    subst e
    rw [List.take_length] at hp
    exact .inl ⟨(gives_list (SqL.of (ss _ _ hl))).stop _ (by omega), fin D H ys hD ss hd hp⟩
theorem pe_bmK {X : Cx} {K : PySem.W.Frag} {o e : Expr} {es : List Expr} {to : TE} {t : TA} {name : Str} {apos cpos : Pos} {T id : String} {r : V → List V → Hp → VK → Prop} (hK : X.K = K) (pa : PlainAttrs T) (slot : Slot T name id) (hty : typeOf (.builtin id) = pure (.type "method_descriptor")) (hm : MtR X id r) (ho : PE X o to) (ha : PA X (e :: es) t)
    (hbase : attributeBase o name X.env (eval o X.env) = eval o X.env := by rfl)
    (hfew : ((backTo cpos (starEach (e :: es) X.env)).all (fun x => !x.1) && (backToKw cpos (keywordEach [] X.env)).all (fun x => x.1.isSome)
      && decide ((e :: es).length + ([] : List Keyword).length + (if ([] : List Keyword).isEmpty then 0 else 1) < 30)) = true := by rfl)
    (hline : (apos.endLine == cpos.line) = true := by rfl) (hs : starEach (e :: es) X.env = (false, eval e X.env) :: starEach es X.env := by rfl) (hplain : (backTo cpos (starEach es X.env)).any (·.1) = false := by rfl) :
    PE X (.Call (.Attribute o name apos) (e :: es) [] cpos) (tBM K T r to t) := by
  subst hK
  exact pe_bm pa slot hty hm ho ha hbase hfew hline hs hplain
theorem op_neSK {X : Cx} {K : PySem.W.Frag} (hK : X.K = K) (hu : X.A.units + 64 < cLine) : OpR X (compareOp .NotEq) (rNeD K) := by
  subst hK
  exact op_neS hu
theorem compR {σ0 fs : L2.St} {k : Nat} {lo : Int} {g : TG} {tc : TT} {te : TE} {Q : VK} {H1 : Hp} (n : Nat) (dy : Nat → Option PyData) (h0 : σ0 = List.replicate k none ++ fs) (hz : n ≤ sizeLine)
    (step : ∀ i, i < n → ∀ H (ts : L2.St) (R : Option V → L2.St → Hp → Prop), Same H1 H → ts.length = k → (∀ d y (ts2 : L2.St) H3, dy i = some d → ts2.length = k → Same H H3 → Tr (sans H1 H H3) y d → R (some y) (ts2 ++ fs) H3) → (dy i = none → ∀ (ts2 : L2.St) H3, ts2.length = k → Same H H3 → R none (ts2 ++ fs) H3) →
      g (.int (lo + (i : Int))) (ts ++ fs) H fun τ2 H2 => tc τ2 H2 fun ok H3 => if ok = true then te τ2 H3 fun y H4 => R (some y) τ2 H4 else R none τ2 H3)
    (fin : ∀ D H' ys, H1 D = none → Same H1 H' → H' D = some (.lst ys) → Trs (butD H' D) ys ((List.range n).filterMap dy) → Q (.ref D) H') : compQF σ0 (Itr lo n) g tc te Q H1 := by
  intro D hD
  refine ⟨fun i m ys τ H => m = n - i ∧ i ≤ n ∧ ys.length ≤ i ∧ Trs (butD H D) ys ((List.range i).filterMap dy) ∧ (∃ ts : L2.St, ts.length = k ∧ τ = ts ++ fs) ∧ Same H1 H ∧ H D = some (.lst ys), ⟨n, rfl, Nat.zero_le _, Nat.le_refl _, .nil, ⟨_, List.length_replicate, h0⟩, Same.upd hD, upd_same⟩, ?_⟩
  rintro i m ys τ H ⟨rfl, hi, hyl, hp, ⟨ts, hts, rfl⟩, ss, hd⟩
  refine ⟨hd, ?_⟩
  by_cases hlt : i < n
  · refine .inr ⟨hlt, by omega, ?_⟩
    rintro v H' ⟨rfl, rfl⟩
    have er : List.range (i + 1) = List.range i ++ [i] := List.range_succ
    have s2 : ∀ H3 zs, Same H' H3 → Same (butD H' D) (butD (upd H3 D (.lst zs)) D) := fun H3 zs s3 b o e => butD_at (butD_ne e).1 (by rw [upd_ne (butD_ne e).1]; exact s3 _ _ (butD_ne e).2)
    refine step i hlt H' ts (fun o τ2 H3 => match o with
      | some y => H3 D = some (.lst ys) ∧ ∃ m', m' < n - i ∧ m' = n - (i + 1) ∧ i + 1 ≤ n ∧ (ys ++ [y]).length ≤ i + 1 ∧ Trs (butD (upd H3 D (.lst (ys ++ [y]))) D) (ys ++ [y]) ((List.range (i + 1)).filterMap dy) ∧ (∃ ts : L2.St, ts.length = k ∧ τ2 = ts ++ fs) ∧ Same H1 (upd H3 D (.lst (ys ++ [y]))) ∧ upd H3 D (.lst (ys ++ [y])) D = some (.lst (ys ++ [y]))
      | none => ∃ m', m' < n - i ∧ m' = n - (i + 1) ∧ i + 1 ≤ n ∧ ys.length ≤ i + 1 ∧ Trs (butD H3 D) ys ((List.range (i + 1)).filterMap dy) ∧ (∃ ts : L2.St, ts.length = k ∧ τ2 = ts ++ fs) ∧ Same H1 H3 ∧ H3 D = some (.lst ys)) ss hts (fun d y ts2 H3 hy h2 s3 tr3 => ?_) fun hy ts2 H3 h2 s3 => ?_
    · refine ⟨s3 _ _ hd, n - (i + 1), by omega, rfl, hlt, (by rw [List.length_append, List.length_singleton]; omega), ?_, ⟨ts2, h2, rfl⟩, (ss.trans s3).again hD, upd_same⟩
      rw [er, List.filterMap_append]
      refine (hp.same (s2 H3 _ s3)).app ?_
      rw [List.filterMap_cons, hy]
      refine .cons (tr3.same fun b ob e => ?_) .nil
      have hb : b ≠ D := fun z => by
        rw [z] at e
        unfold sans at e
        rw [hD, hd] at e
        simp at e
      refine butD_at hb ?_
      rw [upd_ne hb]
      unfold sans at e
      split at e
      · cases e
      · exact e
    · refine ⟨n - (i + 1), by omega, rfl, hlt, by omega, ?_, ⟨ts2, h2, rfl⟩, ss.trans s3, s3 _ _ hd⟩
      rw [er, List.filterMap_append]
      have e0 : List.filterMap dy [i] = [] := by
        rw [List.filterMap_cons, hy]
        rfl
      rw [e0, List.append_nil]
      exact hp.same fun b o e => butD_at (butD_ne e).1 (s3 _ _ (butD_ne e).2)
  · have e : i = n := by omega
    subst e
    exact .inl ⟨Nat.le_refl _, fin D H ys hD ss hd hp⟩
theorem call_list_ofK {X : Cx} {K : PySem.W.Frag} (hK : X.K = K) : CallR X (.type "list") (fun xs H Q => ∃ p ys, xs = [.ref p] ∧ (SqL K H p ys ∨ SqT K H p ys) ∧ ∀ l, H l = none → Q (.ref l) (upd H l (.lst ys))) := by
  subst hK
  exact call_list_of
end My
namespace My
open PySem PySem.W PyProof.Rows
theorem hide {p : Prop} (h : ∀ G : Prop, (p → G) → G) : p := h p id
section
open L2
theorem foldS {a b : TS} {D : Ends} {σ : L2.St} {H : Hp} (h : ∀ b', b' = b → tSeq a b' D σ H) : tSeq a b D σ H := h b rfl
theorem foldN {a b : TS} {D : Ends} {R : VK} {B C : L2.St → Hp → Prop} {σ : L2.St} {H : Hp} (h : ∀ b', b' = b → tSeq a b' D σ H) : (Ends.mk (tSeq a b D) R B C).nx σ H := h b rfl
theorem hideG {g : TG} {tb : TS} {x : V} {D : Ends} {σ : L2.St} {H : Hp} (h : ∀ D', D' = D → g x σ H fun σ2 H2 => tb D' σ2 H2) : g x σ H fun σ2 H2 => tb D σ2 H2 := h D rfl
end
theorem us1 {α : Type} {us : List α} (h : us.length = 1) : ∃ a, us = [a] := List.length_eq_one_iff.mp h
theorem us2 {α : Type} {us : List α} (h : us.length = 2) : ∃ a b, us = [a, b] := by
  obtain ⟨a, t, rfl⟩ := List.exists_cons_of_length_eq_add_one h
  obtain ⟨b, rfl⟩ := us1 (Nat.succ.inj h)
  exact ⟨a, b, rfl⟩
theorem us3 {α : Type} {us : List α} (h : us.length = 3) : ∃ a b c, us = [a, b, c] := by
  obtain ⟨a, t, rfl⟩ := List.exists_cons_of_length_eq_add_one h
  obtain ⟨b, c, rfl⟩ := us2 (Nat.succ.inj h)
  exact ⟨a, b, c, rfl⟩
theorem us4 {α : Type} {us : List α} (h : us.length = 4) : ∃ a b c d, us = [a, b, c, d] := by
  obtain ⟨a, t, rfl⟩ := List.exists_cons_of_length_eq_add_one h
  obtain ⟨b, c, d, rfl⟩ := us3 (Nat.succ.inj h)
  exact ⟨a, b, c, d, rfl⟩
end My

namespace Lw
open PySem PySem.Spec PyProof.Rows L2 My PySem.NumText
set_option maxHeartbeats 4000000
noncomputable def top (i : Nat) : Stmt := PySem.Challenge.pw_skewhouse_k52_histories_shown_and_read.main.body.getD i (.Pass ⟨0, 0, 0, 0⟩)
noncomputable abbrev s_iswrittennumber : Stmt := top 8
noncomputable abbrev s_numberof : Stmt := top 9
noncomputable abbrev s_written : Stmt := top 10
noncomputable abbrev s_islevel : Stmt := top 11
noncomputable abbrev s_showpair : Stmt := top 16
noncomputable abbrev s_showlook : Stmt := top 17
noncomputable abbrev s_showdeal : Stmt := top 18
noncomputable abbrev s_showmake : Stmt := top 19
noncomputable abbrev s_showhistory : Stmt := top 20
noncomputable abbrev s_readpair : Stmt := top 21
noncomputable abbrev s_readlook : Stmt := top 22
noncomputable abbrev s_readdeal : Stmt := top 23
noncomputable abbrev s_readmake : Stmt := top 24
noncomputable abbrev s_readrows : Stmt := top 25
noncomputable abbrev s_rise : Stmt := top 26
noncomputable abbrev s_issource : Stmt := top 27
noncomputable abbrev s_islook : Stmt := top 28
noncomputable abbrev s_isdeal : Stmt := top 29
noncomputable abbrev s_ismake : Stmt := top 30
noncomputable abbrev s_ishistory : Stmt := top 31
noncomputable abbrev s_readhistory : Stmt := top 32
noncomputable abbrev s_Lmixed : Stmt := top 34
noncomputable abbrev s_Lcell : Stmt := top 35
noncomputable abbrev s_Lspots : Stmt := top 36
noncomputable abbrev s_Lplace : Stmt := top 37
noncomputable abbrev s_Lfirst : Stmt := top 38
noncomputable abbrev s_Ldrawndeals : Stmt := top 39
noncomputable abbrev s_Ldrawnorder : Stmt := top 40
noncomputable abbrev s_Lkeys : Stmt := top 41
noncomputable abbrev s_Llook : Stmt := top 42
noncomputable abbrev s_Lkept : Stmt := top 43
noncomputable abbrev s_Lpast : Stmt := top 44
noncomputable abbrev s_Lsame : Stmt := top 45
noncomputable abbrev s_Lcopied : Stmt := top 46
noncomputable abbrev s_Lpair : Stmt := top 47
noncomputable abbrev s_Ltext : Stmt := top 48
noncomputable abbrev s_law : Stmt := top 49
set_option genInjectivity false in
set_option genSizeOf false in
structure Tx (K : PySem.W.Frag) (mg : Str → Option Value) where
  f_iswrittennumber : Addr
  d_iswrittennumber : FuncData
  F_iswrittennumber : Fun K "is_written_number" "is_written_number" s_iswrittennumber f_iswrittennumber d_iswrittennumber
  b_iswrittennumber : Binds K d_iswrittennumber ["text"] []
  m_iswrittennumber : mg "is_written_number" = some (.ref f_iswrittennumber)
  f_numberof : Addr
  d_numberof : FuncData
  F_numberof : Fun K "number_of" "number_of" s_numberof f_numberof d_numberof
  b_numberof : Binds K d_numberof ["text"] []
  m_numberof : mg "number_of" = some (.ref f_numberof)
  f_written : Addr
  d_written : FuncData
  F_written : Fun K "written" "written" s_written f_written d_written
  b_written : Binds K d_written ["number"] []
  m_written : mg "written" = some (.ref f_written)
  f_islevel : Addr
  d_islevel : FuncData
  F_islevel : Fun K "is_level" "is_level" s_islevel f_islevel d_islevel
  b_islevel : Binds K d_islevel ["word"] []
  m_islevel : mg "is_level" = some (.ref f_islevel)
  f_showpair : Addr
  d_showpair : FuncData
  F_showpair : Fun K "show_pair" "show_pair" s_showpair f_showpair d_showpair
  b_showpair : Binds K d_showpair ["pair"] []
  m_showpair : mg "show_pair" = some (.ref f_showpair)
  f_showlook : Addr
  d_showlook : FuncData
  F_showlook : Fun K "show_look" "show_look" s_showlook f_showlook d_showlook
  b_showlook : Binds K d_showlook ["look"] []
  m_showlook : mg "show_look" = some (.ref f_showlook)
  f_showdeal : Addr
  d_showdeal : FuncData
  F_showdeal : Fun K "show_deal" "show_deal" s_showdeal f_showdeal d_showdeal
  b_showdeal : Binds K d_showdeal ["deal"] []
  m_showdeal : mg "show_deal" = some (.ref f_showdeal)
  f_showmake : Addr
  d_showmake : FuncData
  F_showmake : Fun K "show_make" "show_make" s_showmake f_showmake d_showmake
  b_showmake : Binds K d_showmake ["made"] []
  m_showmake : mg "show_make" = some (.ref f_showmake)
  f_showhistory : Addr
  d_showhistory : FuncData
  F_showhistory : Fun K "show_history" "show_history" s_showhistory f_showhistory d_showhistory
  b_showhistory : Binds K d_showhistory ["past"] []
  m_showhistory : mg "show_history" = some (.ref f_showhistory)
  f_readpair : Addr
  d_readpair : FuncData
  F_readpair : Fun K "read_pair" "read_pair" s_readpair f_readpair d_readpair
  b_readpair : Binds K d_readpair ["text"] []
  m_readpair : mg "read_pair" = some (.ref f_readpair)
  f_readlook : Addr
  d_readlook : FuncData
  F_readlook : Fun K "read_look" "read_look" s_readlook f_readlook d_readlook
  b_readlook : Binds K d_readlook ["text"] []
  m_readlook : mg "read_look" = some (.ref f_readlook)
  f_readdeal : Addr
  d_readdeal : FuncData
  F_readdeal : Fun K "read_deal" "read_deal" s_readdeal f_readdeal d_readdeal
  b_readdeal : Binds K d_readdeal ["row"] []
  m_readdeal : mg "read_deal" = some (.ref f_readdeal)
  f_readmake : Addr
  d_readmake : FuncData
  F_readmake : Fun K "read_make" "read_make" s_readmake f_readmake d_readmake
  b_readmake : Binds K d_readmake ["row"] []
  m_readmake : mg "read_make" = some (.ref f_readmake)
  f_readrows : Addr
  d_readrows : FuncData
  F_readrows : Fun K "read_rows" "read_rows" s_readrows f_readrows d_readrows
  b_readrows : Binds K d_readrows ["text"] []
  m_readrows : mg "read_rows" = some (.ref f_readrows)
  f_rise : Addr
  d_rise : FuncData
  F_rise : Fun K "rise" "rise" s_rise f_rise d_rise
  b_rise : Binds K d_rise ["numbers"] []
  m_rise : mg "rise" = some (.ref f_rise)
  f_issource : Addr
  d_issource : FuncData
  F_issource : Fun K "is_source" "is_source" s_issource f_issource d_issource
  b_issource : Binds K d_issource ["source", "key", "number", "makers"] []
  m_issource : mg "is_source" = some (.ref f_issource)
  f_islook : Addr
  d_islook : FuncData
  F_islook : Fun K "is_look" "is_look" s_islook f_islook d_islook
  b_islook : Binds K d_islook ["look", "number", "makers"] []
  m_islook : mg "is_look" = some (.ref f_islook)
  f_isdeal : Addr
  d_isdeal : FuncData
  F_isdeal : Fun K "is_deal" "is_deal" s_isdeal f_isdeal d_isdeal
  b_isdeal : Binds K d_isdeal ["deal", "makers"] []
  m_isdeal : mg "is_deal" = some (.ref f_isdeal)
  f_ismake : Addr
  d_ismake : FuncData
  F_ismake : Fun K "is_make" "is_make" s_ismake f_ismake d_ismake
  b_ismake : Binds K d_ismake ["made", "numbers"] []
  m_ismake : mg "is_make" = some (.ref f_ismake)
  f_ishistory : Addr
  d_ishistory : FuncData
  F_ishistory : Fun K "is_history" "is_history" s_ishistory f_ishistory d_ishistory
  b_ishistory : Binds K d_ishistory ["past"] []
  m_ishistory : mg "is_history" = some (.ref f_ishistory)
  f_readhistory : Addr
  d_readhistory : FuncData
  F_readhistory : Fun K "read_history" "read_history" s_readhistory f_readhistory d_readhistory
  b_readhistory : Binds K d_readhistory ["text"] []
  m_readhistory : mg "read_history" = some (.ref f_readhistory)
  f_Lmixed : Addr
  d_Lmixed : FuncData
  F_Lmixed : Fun K "_law_mixed" "_law_mixed" s_Lmixed f_Lmixed d_Lmixed
  b_Lmixed : Binds K d_Lmixed ["_law_cell_here", "_law_k"] []
  m_Lmixed : mg "_law_mixed" = some (.ref f_Lmixed)
  f_Lcell : Addr
  d_Lcell : FuncData
  F_Lcell : Fun K "_law_cell" "_law_cell" s_Lcell f_Lcell d_Lcell
  b_Lcell : Binds K d_Lcell ["_law_script", "_law_k"] []
  m_Lcell : mg "_law_cell" = some (.ref f_Lcell)
  f_Lspots : Addr
  d_Lspots : FuncData
  F_Lspots : Fun K "_law_spots" "_law_spots" s_Lspots f_Lspots d_Lspots
  b_Lspots : Binds K d_Lspots ["_law_word", "_law_looks"] []
  m_Lspots : mg "_law_spots" = some (.ref f_Lspots)
  f_Lplace : Addr
  d_Lplace : FuncData
  F_Lplace : Fun K "_law_place" "_law_place" s_Lplace f_Lplace d_Lplace
  b_Lplace : Binds K d_Lplace ["_law_word", "_law_k"] []
  m_Lplace : mg "_law_place" = some (.ref f_Lplace)
  f_Lfirst : Addr
  d_Lfirst : FuncData
  F_Lfirst : Fun K "_law_first" "_law_first" s_Lfirst f_Lfirst d_Lfirst
  b_Lfirst : Binds K d_Lfirst ["_law_word", "_law_looks"] []
  m_Lfirst : mg "_law_first" = some (.ref f_Lfirst)
  f_Ldrawndeals : Addr
  d_Ldrawndeals : FuncData
  F_Ldrawndeals : Fun K "_law_drawn_deals" "_law_drawn_deals" s_Ldrawndeals f_Ldrawndeals d_Ldrawndeals
  b_Ldrawndeals : Binds K d_Ldrawndeals ["_law_script", "_law_word"] []
  m_Ldrawndeals : mg "_law_drawn_deals" = some (.ref f_Ldrawndeals)
  f_Ldrawnorder : Addr
  d_Ldrawnorder : FuncData
  F_Ldrawnorder : Fun K "_law_drawn_order" "_law_drawn_order" s_Ldrawnorder f_Ldrawnorder d_Ldrawnorder
  b_Ldrawnorder : Binds K d_Ldrawnorder ["_law_script", "_law_deals"] []
  m_Ldrawnorder : mg "_law_drawn_order" = some (.ref f_Ldrawnorder)
  f_Lkeys : Addr
  d_Lkeys : FuncData
  F_Lkeys : Fun K "_law_keys" "_law_keys" s_Lkeys f_Lkeys d_Lkeys
  b_Lkeys : Binds K d_Lkeys ["_law_cell_here"] []
  m_Lkeys : mg "_law_keys" = some (.ref f_Lkeys)
  f_Llook : Addr
  d_Llook : FuncData
  F_Llook : Fun K "_law_look" "_law_look" s_Llook f_Llook d_Llook
  b_Llook : Binds K d_Llook ["_law_keys_here", "_law_last", "_law_number", "_law_strange"] []
  m_Llook : mg "_law_look" = some (.ref f_Llook)
  f_Lkept : Addr
  d_Lkept : FuncData
  F_Lkept : Fun K "_law_kept" "_law_kept" s_Lkept f_Lkept d_Lkept
  b_Lkept : Binds K d_Lkept ["_law_number", "_law_word", "_law_mask", "_law_state"] []
  m_Lkept : mg "_law_kept" = some (.ref f_Lkept)
  f_Lpast : Addr
  d_Lpast : FuncData
  F_Lpast : Fun K "_law_past" "_law_past" s_Lpast f_Lpast d_Lpast
  b_Lpast : Binds K d_Lpast ["_law_script", "_law_deals", "_law_order"] []
  m_Lpast : mg "_law_past" = some (.ref f_Lpast)
  f_Lsame : Addr
  d_Lsame : FuncData
  F_Lsame : Fun K "_law_same" "_law_same" s_Lsame f_Lsame d_Lsame
  b_Lsame : Binds K d_Lsame ["_law_found", "_law_due"] []
  m_Lsame : mg "_law_same" = some (.ref f_Lsame)
  f_Lcopied : Addr
  d_Lcopied : FuncData
  F_Lcopied : Fun K "_law_copied" "_law_copied" s_Lcopied f_Lcopied d_Lcopied
  b_Lcopied : Binds K d_Lcopied ["_law_past_here"] []
  m_Lcopied : mg "_law_copied" = some (.ref f_Lcopied)
  f_Lpair : Addr
  d_Lpair : FuncData
  F_Lpair : Fun K "_law_pair" "_law_pair" s_Lpair f_Lpair d_Lpair
  b_Lpair : Binds K d_Lpair ["_law_key", "_law_source"] []
  m_Lpair : mg "_law_pair" = some (.ref f_Lpair)
  f_Ltext : Addr
  d_Ltext : FuncData
  F_Ltext : Fun K "_law_text" "_law_text" s_Ltext f_Ltext d_Ltext
  b_Ltext : Binds K d_Ltext ["_law_past_here"] []
  m_Ltext : mg "_law_text" = some (.ref f_Ltext)
  f_law : Addr
  d_law : FuncData
  F_law : Fun K "law" "law" s_law f_law d_law
  b_law : Binds K d_law ["_law_script"] []
  m_law : mg "law" = some (.ref f_law)
  t_FIGURES : Tok
  m_FIGURES : mg "FIGURES" = some (.str "0123456789" t_FIGURES)
  t_MOST_FIGURES : Tok
  m_MOST_FIGURES : mg "MOST_FIGURES" = some (.int (30) t_MOST_FIGURES)
  a_LEVEL_WORDS : Addr
  m_LEVEL_WORDS : mg "LEVEL_WORDS" = some (.ref a_LEVEL_WORDS)
  q_LEVEL_WORDS : ∀ H : Hp, SqT K H a_LEVEL_WORDS [V.str "loose", V.str "kept", V.str "make", V.str "watch", V.str "hold"]
  t_START : Tok
  m_START : mg "START" = some (.int (0) t_START)
  t_UNKEPT : Tok
  m_UNKEPT : mg "UNKEPT" = some (.int (-1) t_UNKEPT)
  t_MOST_DEALS : Tok
  m_MOST_DEALS : mg "MOST_DEALS" = some (.int (8) t_MOST_DEALS)
  z_abs : mg "abs" = none
  z_all : mg "all" = none
  z_bool : mg "bool" = none
  z_dict : mg "dict" = none
  z_int : mg "int" = none
  z_isinstance : mg "isinstance" = none
  z_len : mg "len" = none
  z_list : mg "list" = none
  z_range : mg "range" = none
  z_reversed : mg "reversed" = none
  z_set : mg "set" = none
  z_str : mg "str" = none
  z_tuple : mg "tuple" = none
  z_zip : mg "zip" = none
theorem sc_iswrittennumber : FnScope ["text", "figures"] ["text"] (defScope s_iswrittennumber) := ⟨rfl, rfl, rfl, by decide +kernel, rfl, by decide +kernel, by decide +kernel⟩
theorem sc_numberof : FnScope ["text"] ["text"] (defScope s_numberof) := ⟨rfl, rfl, rfl, by decide +kernel, rfl, by decide +kernel, by decide +kernel⟩
theorem sc_written : FnScope ["number", "rest", "parts", "sign"] ["number"] (defScope s_written) := ⟨rfl, rfl, rfl, by decide +kernel, rfl, by decide +kernel, by decide +kernel⟩
theorem sc_islevel : FnScope ["word"] ["word"] (defScope s_islevel) := ⟨rfl, rfl, rfl, by decide +kernel, rfl, by decide +kernel, by decide +kernel⟩
theorem sc_showpair : FnScope ["pair", "source"] ["pair"] (defScope s_showpair) := ⟨rfl, rfl, rfl, by decide +kernel, rfl, by decide +kernel, by decide +kernel⟩
theorem sc_showlook : FnScope ["look"] ["look"] (defScope s_showlook) := ⟨rfl, rfl, rfl, by decide +kernel, rfl, by decide +kernel, by decide +kernel⟩
theorem sc_showdeal : FnScope ["deal", "head"] ["deal"] (defScope s_showdeal) := ⟨rfl, rfl, rfl, by decide +kernel, rfl, by decide +kernel, by decide +kernel⟩
theorem sc_showmake : FnScope ["made"] ["made"] (defScope s_showmake) := ⟨rfl, rfl, rfl, by decide +kernel, rfl, by decide +kernel, by decide +kernel⟩
theorem sc_showhistory : FnScope ["past"] ["past"] (defScope s_showhistory) := ⟨rfl, rfl, rfl, by decide +kernel, rfl, by decide +kernel, by decide +kernel⟩
theorem sc_readpair : FnScope ["text", "halves", "source"] ["text"] (defScope s_readpair) := ⟨rfl, rfl, rfl, by decide +kernel, rfl, by decide +kernel, by decide +kernel⟩
theorem sc_readlook : FnScope ["text"] ["text"] (defScope s_readlook) := ⟨rfl, rfl, rfl, by decide +kernel, rfl, by decide +kernel, by decide +kernel⟩
theorem sc_readdeal : FnScope ["row", "halves", "head", "looks"] ["row"] (defScope s_readdeal) := ⟨rfl, rfl, rfl, by decide +kernel, rfl, by decide +kernel, by decide +kernel⟩
theorem sc_readmake : FnScope ["row", "halves", "key"] ["row"] (defScope s_readmake) := ⟨rfl, rfl, rfl, by decide +kernel, rfl, by decide +kernel, by decide +kernel⟩
theorem sc_readrows : FnScope ["text", "rows", "deals", "makes"] ["text"] (defScope s_readrows) := ⟨rfl, rfl, rfl, by decide +kernel, rfl, by decide +kernel, by decide +kernel⟩
theorem sc_rise : FnScope ["numbers"] ["numbers"] (defScope s_rise) := ⟨rfl, rfl, rfl, by decide +kernel, rfl, by decide +kernel, by decide +kernel⟩
theorem sc_issource : FnScope ["source", "key", "number", "makers"] ["source", "key", "number", "makers"] (defScope s_issource) := ⟨rfl, rfl, rfl, by decide +kernel, rfl, by decide +kernel, by decide +kernel⟩
theorem sc_islook : FnScope ["look", "number", "makers"] ["look", "number", "makers"] (defScope s_islook) := ⟨rfl, rfl, rfl, by decide +kernel, rfl, by decide +kernel, by decide +kernel⟩
theorem sc_isdeal : FnScope ["deal", "makers", "in_bounds"] ["deal", "makers"] (defScope s_isdeal) := ⟨rfl, rfl, rfl, by decide +kernel, rfl, by decide +kernel, by decide +kernel⟩
theorem sc_ismake : FnScope ["made", "numbers", "each_once"] ["made", "numbers"] (defScope s_ismake) := ⟨rfl, rfl, rfl, by decide +kernel, rfl, by decide +kernel, by decide +kernel⟩
theorem sc_ishistory : FnScope ["past", "numbers", "makers"] ["past"] (defScope s_ishistory) := ⟨rfl, rfl, rfl, by decide +kernel, rfl, by decide +kernel, by decide +kernel⟩
theorem sc_readhistory : FnScope ["text", "past", "refusal"] ["text"] (defScope s_readhistory) := ⟨rfl, rfl, rfl, by decide +kernel, rfl, by decide +kernel, by decide +kernel⟩
theorem sc_Lmixed : FnScope ["_law_cell_here", "_law_k", "_law_number"] ["_law_cell_here", "_law_k"] (defScope s_Lmixed) := ⟨rfl, rfl, rfl, by decide +kernel, rfl, by decide +kernel, by decide +kernel⟩
theorem sc_Lcell : FnScope ["_law_script", "_law_k"] ["_law_script", "_law_k"] (defScope s_Lcell) := ⟨rfl, rfl, rfl, by decide +kernel, rfl, by decide +kernel, by decide +kernel⟩
theorem sc_Lspots : FnScope ["_law_word", "_law_looks"] ["_law_word", "_law_looks"] (defScope s_Lspots) := ⟨rfl, rfl, rfl, by decide +kernel, rfl, by decide +kernel, by decide +kernel⟩
theorem sc_Lplace : FnScope ["_law_word", "_law_k"] ["_law_word", "_law_k"] (defScope s_Lplace) := ⟨rfl, rfl, rfl, by decide +kernel, rfl, by decide +kernel, by decide +kernel⟩
theorem sc_Lfirst : FnScope ["_law_word", "_law_looks"] ["_law_word", "_law_looks"] (defScope s_Lfirst) := ⟨rfl, rfl, rfl, by decide +kernel, rfl, by decide +kernel, by decide +kernel⟩
theorem sc_Ldrawndeals : FnScope ["_law_script", "_law_word", "_law_first_here", "_law_many", "_law_shift", "_law_most", "_law_deals", "_law_k", "_law_own", "_law_number"] ["_law_script", "_law_word"] (defScope s_Ldrawndeals) := ⟨rfl, rfl, rfl, by decide +kernel, rfl, by decide +kernel, by decide +kernel⟩
theorem sc_Ldrawnorder : FnScope ["_law_script", "_law_deals", "_law_gone", "_law_total", "_law_number", "_law_word", "_law_looks", "_law_order", "_law_j", "_law_going"] ["_law_script", "_law_deals"] (defScope s_Ldrawnorder) := ⟨rfl, rfl, rfl, by decide +kernel, rfl, by decide +kernel, by decide +kernel⟩
theorem sc_Lkeys : FnScope ["_law_cell_here", "_law_base", "_law_step"] ["_law_cell_here"] (defScope s_Lkeys) := ⟨rfl, rfl, rfl, by decide +kernel, rfl, by decide +kernel, by decide +kernel⟩
theorem sc_Llook : FnScope ["_law_keys_here", "_law_last", "_law_number", "_law_strange", "_law_look_here", "_law_k", "_law_source"] ["_law_keys_here", "_law_last", "_law_number", "_law_strange"] (defScope s_Llook) := ⟨rfl, rfl, rfl, by decide +kernel, rfl, by decide +kernel, by decide +kernel⟩
theorem sc_Lkept : FnScope ["_law_number", "_law_word", "_law_mask", "_law_state", "_law_k"] ["_law_number", "_law_word", "_law_mask", "_law_state"] (defScope s_Lkept) := ⟨rfl, rfl, rfl, by decide +kernel, rfl, by decide +kernel, by decide +kernel⟩
theorem sc_Lpast : FnScope ["_law_script", "_law_deals", "_law_order", "_law_keys_here", "_law_state", "_law_seen", "_law_known", "_law_number", "_law_word", "_law_looks", "_law_j", "_law_place_here", "_law_cell_here", "_law_k", "_law_look_here", "_law_makes"] ["_law_script", "_law_deals", "_law_order"] (defScope s_Lpast) := ⟨rfl, rfl, rfl, by decide +kernel, rfl, by decide +kernel, by decide +kernel⟩
theorem sc_Lsame : FnScope ["_law_found", "_law_due", "_law_one", "_law_other"] ["_law_found", "_law_due"] (defScope s_Lsame) := ⟨rfl, rfl, rfl, by decide +kernel, rfl, by decide +kernel, by decide +kernel⟩
theorem sc_Lcopied : FnScope ["_law_past_here", "_law_deals"] ["_law_past_here"] (defScope s_Lcopied) := ⟨rfl, rfl, rfl, by decide +kernel, rfl, by decide +kernel, by decide +kernel⟩
theorem sc_Lpair : FnScope ["_law_key", "_law_source"] ["_law_key", "_law_source"] (defScope s_Lpair) := ⟨rfl, rfl, rfl, by decide +kernel, rfl, by decide +kernel, by decide +kernel⟩
theorem sc_Ltext : FnScope ["_law_past_here", "_law_rows", "_law_number", "_law_word", "_law_looks", "_law_row", "_law_k", "_law_key", "_law_numbers"] ["_law_past_here"] (defScope s_Ltext) := ⟨rfl, rfl, rfl, by decide +kernel, rfl, by decide +kernel, by decide +kernel⟩
theorem sc_law : FnScope ["_law_script", "_law_deals", "_law_past_here", "_law_due", "_law_handed", "_law_shown", "_law_found"] ["_law_script"] (defScope s_law) := ⟨rfl, rfl, rfl, by decide +kernel, rfl, by decide +kernel, by decide +kernel⟩
noncomputable def spIWN : Sp := fun vs H Q _ => ∃ x : Str, vs = [.str x] ∧ x.length ≤ 1000 ∧ ∀ H', Same H H' → Q (.bl (isNumL x.cps.toList)) H'
noncomputable def lvls : List Str := ["loose", "kept", "make", "watch", "hold"]
noncomputable abbrev Pr := Int × Int
noncomputable abbrev Lk := List Pr
noncomputable abbrev Dl := Int × Str × List Lk
noncomputable abbrev Mkr := Int × List Int
noncomputable abbrev Ps := List Dl × List Mkr
noncomputable def num (n : Int) : Str := Str.ofString (toString n)
noncomputable def dPair (p : Pr) : PyData := .tuple [.int p.1, .int p.2]
noncomputable def dLook (l : Lk) : PyData := .list (l.map dPair)
noncomputable def dDeal (d : Dl) : PyData := .tuple [.int d.1, .str d.2.1, .list (d.2.2.map dLook)]
noncomputable def dMake (m : Mkr) : PyData := .tuple [.int m.1, .list (m.2.map PyData.int)]
noncomputable def dPast (p : Ps) : PyData := .tuple [.list (p.1.map dDeal), .list (p.2.map dMake)]
noncomputable def srcT (s : Int) : Str := if s = -1 then ⟨#[63]⟩ else num s
noncomputable def shPair (p : Pr) : Str := num p.1 ++ ⟨#[60]⟩ ++ srcT p.2
noncomputable def shLook (l : Lk) : Str := if l = [] then ⟨#[45]⟩ else Str.join ⟨#[32]⟩ (l.map shPair)
noncomputable def hdD (d : Dl) : Str := num d.1 ++ ⟨#[32]⟩ ++ d.2.1 ++ ⟨#[58]⟩
noncomputable def shDeal (d : Dl) : Str := if d.2.2 = [] then hdD d else hdD d ++ ⟨#[32]⟩ ++ Str.join semi (d.2.2.map shLook)
noncomputable def mkW : Str := ⟨#[109, 97, 107, 101, 32]⟩
noncomputable def shMake (m : Mkr) : Str := mkW ++ num m.1 ++ ⟨#[58]⟩ ++ Str.join ⟨#[]⟩ (m.2.map fun n => ⟨#[32]⟩ ++ num n)
noncomputable def shPast (p : Ps) : Str := Str.join ⟨#[10]⟩ (p.1.map shDeal ++ p.2.map shMake)
noncomputable def Bd (n : Int) : Prop := -(10 ^ 30) < n ∧ n < 10 ^ 30
noncomputable def BdL (l : Lk) : Prop := ∀ p ∈ l, Bd p.1 ∧ Bd p.2
noncomputable def BdD (d : Dl) : Prop := Bd d.1 ∧ ∀ l ∈ d.2.2, BdL l
noncomputable def BdM (m : Mkr) : Prop := Bd m.1 ∧ ∀ n ∈ m.2, Bd n
noncomputable def BdP (p : Ps) : Prop := (∀ d ∈ p.1, BdD d) ∧ ∀ m ∈ p.2, BdM m
noncomputable def cL (l : Lk) : Nat := l.length + 1
noncomputable def cD (d : Dl) : Nat := (d.2.2.map cL).sum + d.2.1.length + 1
noncomputable def cM (m : Mkr) : Nat := m.2.length + 1
noncomputable def cP (p : Ps) : Nat := (p.1.map cD).sum + (p.2.map cM).sum
theorem num_len31 {n : Int} (h : Bd n) : (num n).length ≤ 31 := (num_text h.1 h.2).2.2.1
theorem len1 (c : Nat) : (⟨#[c]⟩ : Str).length = 1 := rfl
theorem srcT_len {n : Int} (h : Bd n) : (srcT n).length ≤ 31 := by
  unfold srcT
  split
  · rw [len1]; decide
  · exact num_len31 h
theorem shPair_len {p : Pr} (h1 : Bd p.1) (h2 : Bd p.2) : (shPair p).length ≤ 63 := by
  have a := num_len31 h1
  have b := srcT_len h2
  unfold shPair
  rw [strLen_append, strLen_append, len1]
  omega
theorem sum_bound {α : Type} {f g : α → Nat} : ∀ {l : List α}, (∀ x ∈ l, f x ≤ g x) → (l.map f).sum ≤ (l.map g).sum
  | [], _ => Nat.le_refl _
  | x :: r, h => by
    have h1 := h x List.mem_cons_self
    have h2 := sum_bound (l := r) fun y hy => h y (List.mem_cons_of_mem _ hy)
    simp only [List.map_cons, List.sum_cons]
    omega
theorem sum_mul {α : Type} {f : α → Nat} (k : Nat) : ∀ {l : List α}, (l.map fun x => k * f x).sum = k * (l.map f).sum
  | [] => rfl
  | x :: r => by simp only [List.map_cons, List.sum_cons, sum_mul k (l := r), Nat.mul_add]
theorem sum_one {α : Type} (k : Nat) : ∀ {l : List α}, (l.map fun _ => k).sum = k * l.length
  | [] => rfl
  | x :: r => by simp only [List.map_cons, List.sum_cons, sum_one k (l := r), List.length_cons, Nat.mul_add]; omega
theorem mem_le_sum {α : Type} {f : α → Nat} : ∀ {l : List α} {x : α}, x ∈ l → f x ≤ (l.map f).sum
  | y :: r, x, h => by
    simp only [List.map_cons, List.sum_cons]
    rcases List.mem_cons.mp h with rfl | h
    · omega
    · have := mem_le_sum (f := f) h; omega
theorem len_le_sum {α : Type} {f : α → Nat} (h1 : ∀ x, 1 ≤ f x) : ∀ {l : List α}, l.length ≤ (l.map f).sum
  | [] => Nat.le_refl _
  | x :: r => by
    have := len_le_sum (f := f) h1 (l := r)
    have := h1 x
    simp only [List.map_cons, List.sum_cons, List.length_cons]
    omega
theorem joinLen (s : Str) : ∀ l : List Str, (Str.join s l).length ≤ (l.map (·.length)).sum + l.length * s.length
  | [] => Nat.zero_le _
  | [x] => by simp [Str.join]
  | x :: y :: r => by
    have ih := joinLen s (y :: r)
    show (x ++ s ++ Str.join s (y :: r)).length ≤ _
    rw [strLen_append, strLen_append]
    simp only [List.map_cons, List.sum_cons, List.length_cons, Nat.succ_mul] at ih ⊢
    omega
theorem look_sum {l : Lk} (h : BdL l) : ((l.map shPair).map (·.length)).sum ≤ 63 * l.length := by
  rw [List.map_map]
  have := sum_bound (l := l) (f := (fun x : Str => x.length) ∘ shPair) (g := fun _ => 63) fun p hp => shPair_len (h p hp).1 (h p hp).2
  rw [sum_one] at this
  exact this
theorem shLook_len {l : Lk} (h : BdL l) : (shLook l).length ≤ 64 * cL l := by
  unfold shLook cL
  split
  · rw [len1]; omega
  · have := look_sum h
    have := joinLen ⟨#[32]⟩ (l.map shPair)
    rw [len1, List.length_map] at this
    omega
theorem deal_sum {d : Dl} (h : BdD d) : ((d.2.2.map shLook).map (·.length)).sum ≤ 64 * (d.2.2.map cL).sum := by
  rw [List.map_map, ← sum_mul]
  exact sum_bound fun l hl => shLook_len (h.2 l hl)
theorem cL_pos (l : Lk) : 1 ≤ cL l := Nat.succ_le_succ (Nat.zero_le _)
theorem cD_pos (d : Dl) : 1 ≤ cD d := Nat.succ_le_succ (Nat.zero_le _)
theorem cM_pos (d : Mkr) : 1 ≤ cM d := Nat.succ_le_succ (Nat.zero_le _)
theorem hdD_len {d : Dl} (h : BdD d) : (hdD d).length ≤ 33 + d.2.1.length := by
  have := num_len31 h.1
  unfold hdD
  rw [strLen_append, strLen_append, strLen_append, len1, len1]
  omega
theorem shDeal_len {d : Dl} (h : BdD d) : (shDeal d).length ≤ 70 * cD d := by
  have h1 := hdD_len h
  have h2 := deal_sum h
  have h3 := joinLen semi (d.2.2.map shLook)
  have h4 := len_le_sum cL_pos (l := d.2.2)
  have l2 : semi.length = 2 := rfl
  rw [l2, List.length_map] at h3
  unfold shDeal cD
  split
  · omega
  · rw [strLen_append, strLen_append, len1]
    omega
theorem make_sum {ns : List Int} (h : ∀ n ∈ ns, Bd n) : ((ns.map fun n => (⟨#[32]⟩ : Str) ++ num n).map (·.length)).sum ≤ 32 * ns.length := by
  rw [List.map_map]
  have := sum_bound (l := ns) (f := (fun x : Str => x.length) ∘ fun n => (⟨#[32]⟩ : Str) ++ num n) (g := fun _ => 32) fun n hn => by
    have := num_len31 (h n hn)
    show ((⟨#[32]⟩ : Str) ++ num n).length ≤ 32
    rw [strLen_append, len1]
    omega
  rw [sum_one] at this
  exact this
theorem mkW_len : mkW.length = 5 := rfl
theorem shMake_len {m : Mkr} (h : BdM m) : (shMake m).length ≤ 70 * cM m := by
  have h1 := num_len31 h.1
  have h2 := make_sum h.2
  have h3 := joinLen ⟨#[]⟩ (m.2.map fun n => (⟨#[32]⟩ : Str) ++ num n)
  have l0 : (⟨#[]⟩ : Str).length = 0 := rfl
  rw [l0] at h3
  unfold shMake cM
  rw [strLen_append, strLen_append, strLen_append, len1, mkW_len]
  omega
theorem past_sum {p : Ps} (h : BdP p) : ((p.1.map shDeal ++ p.2.map shMake).map (·.length)).sum ≤ 70 * cP p := by
  rw [List.map_append, List.sum_append, List.map_map, List.map_map]
  have h1 := sum_bound (l := p.1) (f := (fun x : Str => x.length) ∘ shDeal) (g := fun d => 70 * cD d) fun d hd => shDeal_len (h.1 d hd)
  have h2 := sum_bound (l := p.2) (f := (fun x : Str => x.length) ∘ shMake) (g := fun d => 70 * cM d) fun d hd => shMake_len (h.2 d hd)
  rw [sum_mul] at h1 h2
  unfold cP
  omega
noncomputable def spWr : Sp := fun vs H Q _ => ∃ n : Int, vs = [.int n] ∧ Bd n ∧ ∀ H', Same H H' → Q (.str (num n)) H'
noncomputable def spShPair : Sp := fun vs H Q _ => ∃ v p, vs = [v] ∧ Tr H v (dPair p) ∧ Bd p.1 ∧ Bd p.2 ∧ ∀ H', Same H H' → Q (.str (shPair p)) H'
noncomputable def spShLook : Sp := fun vs H Q _ => ∃ v l, vs = [v] ∧ Tr H v (dLook l) ∧ BdL l ∧ cL l ≤ 20000 ∧ ∀ H', Same H H' → Q (.str (shLook l)) H'
noncomputable def spShDeal : Sp := fun vs H Q _ => ∃ v d, vs = [v] ∧ Tr H v (dDeal d) ∧ BdD d ∧ cD d ≤ 20000 ∧ ∀ H', Same H H' → Q (.str (shDeal d)) H'
noncomputable def spShMake : Sp := fun vs H Q _ => ∃ v m, vs = [v] ∧ Tr H v (dMake m) ∧ BdM m ∧ cM m ≤ 20000 ∧ ∀ H', Same H H' → Q (.str (shMake m)) H'
noncomputable def spShPast : Sp := fun vs H Q _ => ∃ v p, vs = [v] ∧ Tr H v (dPast p) ∧ BdP p ∧ cP p ≤ 20000 ∧ ∀ H', Same H H' → Q (.str (shPast p)) H'
noncomputable def riseB : List Int → Bool
  | a :: b :: r => decide (a < b) && riseB (b :: r)
  | _ => true
noncomputable def mkOf (ms : List Mkr) (k : Int) : List Int := ((ms.find? fun m => m.1 == k).map (·.2)).getD []
noncomputable def isSrc (ms : List Mkr) (n : Int) (p : Pr) : Bool := decide (p.2 = 0) || decide (p.2 = -1) || (!decide (p.2 = n) && decide (p.2 ∈ mkOf ms p.1))
noncomputable def isLk (ms : List Mkr) (n : Int) (l : Lk) : Bool := riseB (l.map (·.1)) && l.all (isSrc ms n)
noncomputable def isDl (ms : List Mkr) (d : Dl) : Bool := decide (1 ≤ d.1 ∧ d.1 ≤ 8) && decide (d.2.1 ∈ lvls) && d.2.2.all (isLk ms d.1)
noncomputable def isMk (ds : List Dl) (m : Mkr) : Bool := decide ((dd m.2).length = m.2.length) && m.2.all fun n => decide (n ∈ ds.map (·.1))
noncomputable def isPs (p : Ps) : Bool := riseB (p.1.map (·.1)) && riseB (p.2.map (·.1)) && p.1.all (isDl p.2) && p.2.all (isMk p.1)
noncomputable def Mks (H : Hp) (d : Addr) (ms : List Mkr) : Prop := ∃ kvs, H d = some (.dK kvs) ∧ ∀ k : Int, (∃ l, valV kvs (Sum.inl k) = some (.ref l) ∧ H l = some (.lst ((mkOf ms k).map V.int))) ∨ (valV kvs (Sum.inl k) = none ∧ mkOf ms k = [])
noncomputable def spLvl : Sp := fun vs H Q _ => ∃ x : Str, vs = [.str x] ∧ Q (.bl (decide (x ∈ lvls))) H
noncomputable def spRise : Sp := fun vs H Q _ => ∃ (a : Addr) (ns : List Int), vs = [.ref a] ∧ H a = some (.lst (ns.map V.int)) ∧ ns.length ≤ 20000 ∧ ∀ H', Same H H' → Q (.bl (riseB ns)) H'
noncomputable def spSrc : Sp := fun vs H Q _ => ∃ (d : Addr) (ms : List Mkr) (n : Int) (p : Pr), vs = [.int p.2, .int p.1, .int n, .ref d] ∧ Mks H d ms ∧ ∀ H', Same H H' → Q (.bl (isSrc ms n p)) H'
noncomputable def spIsLk : Sp := fun vs H Q _ => ∃ (v : V) (d : Addr) (ms : List Mkr) (n : Int) (l : Lk), vs = [v, .int n, .ref d] ∧ Tr H v (dLook l) ∧ Mks H d ms ∧ cL l ≤ 20000 ∧ ∀ H', Same H H' → Q (.bl (isLk ms n l)) H'
noncomputable def spIsDl : Sp := fun vs H Q _ => ∃ (v : V) (d : Addr) (ms : List Mkr) (x : Dl), vs = [v, .ref d] ∧ Tr H v (dDeal x) ∧ Mks H d ms ∧ cD x ≤ 20000 ∧ ∀ H', Same H H' → Q (.bl (isDl ms x)) H'
noncomputable def spIsMk : Sp := fun vs H Q _ => ∃ (v : V) (a : Addr) (ds : List Dl) (m : Mkr), vs = [v, .ref a] ∧ Tr H v (dMake m) ∧ H a = some (.lst ((ds.map (·.1)).map V.int)) ∧ m.2.length < 4000 ∧ ∀ H', Same H H' → Q (.bl (isMk ds m)) H'
noncomputable def spIsPs : Sp := fun vs H Q _ => ∃ (v : V) (p : Ps), vs = [v] ∧ Tr H v (dPast p) ∧ cP p ≤ 20000 ∧ (∀ m ∈ p.2, m.2.length < 4000) ∧ ∀ H', Same H H' → Q (.bl (isPs p)) H'
section
variable {P : Program} {w : World} {K : PySem.W.Frag} {mg : Str → Option Value} {base : Heap}
theorem ok_iswrittennumber (T : Tx K mg) : FnOk P w K mg base CX0 1 T.f_iswrittennumber T.d_iswrittennumber ["text"] spIWN := by
  refine T.F_iswrittennumber.ok sc_iswrittennumber (fun vs H Q E h => ?_) (fun cdv A outer s H vs Q E hr h => ?_)
  · obtain ⟨x, rfl, _⟩ := h
    rfl
  · obtain ⟨x, rfl, hl, k⟩ := h
    have hz : (1000 : Nat) ≤ sizeLine := by decide
    refine ⟨_, (pss_cons (ps_if (pt_cmpR op_eq (pv 0) pe_str (nomark _))
      (pss_one (ps_ret pe_bl))
      pss_nil)
      (pss_cons (ps_set (i := 1) sc_iswrittennumber.nd rfl (Or.inl rfl) (pe_ifExp (pt_val (pe_bm PySem.F.plainAttrs_str PySem.F.slot_str_startswith PySem.F.type_str_startswith mt_startswith (pv 0) (pa_cons pe_str pa_nil))) (pe_slice sl_str (pv 0) (po_some pe_int) po_none) (pv 0)))
      (pss_cons (ps_if (PW.pt (pw_or (pt_cmpR op_eq (pv 1) pe_str (nomark _)) (pw_or (pt_cmpR op_eq (pe_ix ix_str (pv 1) pe_int (fun _ _ => rfl)) pe_str (nomark _)) (pw_or1 (pt_cmpR op_gt (pe_callB call_len (by rfl) T.z_len boot_len (pa_cons (pv 1) pa_nil)) (pe_glob (v := V.int (30)) rfl T.m_MOST_FIGURES ⟨_, rfl⟩) (nomark _))))))
      (pss_one (ps_ret pe_bl))
      pss_nil)
      (pss_one (ps_ret (pe_callB (call_allL rfl) (by rfl) T.z_all boot_all (pa_cons (pe_compS (j := 1) rfl rfl (Or.inl rfl) (by decide +kernel) (by decide +kernel) rfl (by decide +kernel) rfl) pa_nil))))))), ?_⟩
    refine ⟨_, rfl, rfl, _, rfl, ite2 (fun e => ?_) (fun e => ?_)⟩
    · have ex := (zero_iff x).mp (V.str.inj (of_decide_eq_true e))
      have k1 := k H (Same.refl H)
      rw [ex] at k1
      exact k1
    · have nx : ¬ x.cps.toList = [48] := fun z => e (decide_eq_true (congrArg V.str ((zero_iff x).mpr z)))
      refine ⟨_, rfl, rfl, x, _, rfl, rfl, _, rfl, ?_⟩
      rw [starts_minus]
      have main : ∀ F : Str, F.cps.toList = figsL x.cps.toList → F.length ≤ 1000 → ∀ (p : Addr), H p = none → F.cps.toList ≠ [] → (∀ c r, F.cps.toList = c :: r → ¬ c = 48) → F.length ≤ 30 → Q (.bl ((F.cps.toList.map dig).all id)) (upd H p (.lst ((F.cps.toList.map dig).map V.bl))) := fun F hF hFl p hp hne hc h30 => by
        have k1 := k _ (Same.upd (o := .lst ((F.cps.toList.map dig).map V.bl)) hp)
        rw [num_not nx, ← hF] at k1
        have e1 : isFigs F.cps.toList = (F.cps.toList.map dig).all id := by
          cases q : F.cps.toList with
          | nil => exact (hne q).elim
          | cons c r =>
            rw [len_codes, q] at h30
            show (!decide (c = 48) && (decide ((c :: r).length ≤ 30) && (c :: r).all dig)) = _
            rw [decide_eq_false (hc c r q), decide_eq_true h30, List.all_map]
            rfl
        rw [e1] at k1
        exact k1
      have kf : isNumL x.cps.toList = false → Q (.bl false) H := fun z => by
        have k1 := k H (Same.refl H)
        rw [z] at k1
        exact k1
      by_cases hs : x.cps.toList[0]? = some 45
      · refine iteDT hs ?_
        have h1 : 1 ≤ x.length := by
          rw [len_codes]
          exact (List.getElem?_eq_some_iff.mp hs).1
        have hF : (Txt.slice x (some 1) none).cps.toList = figsL x.cps.toList := by
          rw [slice_tail h1]
          cases q : x.cps.toList with
          | nil => rw [q] at hs; simp at hs
          | cons c r =>
            rw [q] at hs
            have hc : c = 45 := by simpa using hs
            exact (if_pos hc).symm
        have hFl : (Txt.slice x (some 1) none).length ≤ 1000 := Nat.le_trans (Txt.slice_le x _ _) hl
        refine ⟨_, rfl, _, rfl, x, rfl, by omega, ?_⟩
        generalize Txt.slice x (some 1) none = F at hF hFl
        have m1 := main F hF hFl
        refine ⟨_, rfl, rfl, _, rfl, ite2 (fun e1 => iteT ?_) (fun e1 => ?_)⟩
        · have z := (empty_iff F).mp (V.str.inj (of_decide_eq_true e1))
          refine kf ?_
          rw [num_not nx, ← hF, z]
          rfl
        · have nF : F.cps.toList ≠ [] := fun z => e1 (decide_eq_true (congrArg V.str ((empty_iff F).mpr z)))
          obtain ⟨c, r, hcr⟩ : ∃ c r, F.cps.toList = c :: r := by
            cases q : F.cps.toList with
            | nil => exact (nF q).elim
            | cons c r => exact ⟨c, r, rfl⟩
          refine ⟨_, rfl, F, 0, c, rfl, rfl, by omega, by rw [hcr]; exact atI_nat (j := 0) rfl, rfl, _, rfl, ite2 (fun e2 => iteT ?_) (fun e2 => ?_)⟩
          · have z := (one_zero c).mp (V.str.inj (of_decide_eq_true e2))
            refine kf ?_
            rw [num_not nx, ← hF, hcr, z]
            rfl
          · have nc : ¬ c = 48 := fun z => e2 (decide_eq_true (congrArg V.str ((one_zero c).mpr z)))
            refine ⟨_, rfl, _, _, rfl, ⟨by omega, rfl⟩, _, _, rfl, rfl, _, rfl, ite2 (fun e3 => ?_) (fun e3 => ?_)⟩
            · have z : (30 : Int) < F.length := of_decide_eq_true e3
              refine kf ?_
              rw [num_not nx, ← hF, hcr]
              rw [len_codes, hcr] at z
              show (!decide (c = 48) && (decide ((c :: r).length ≤ 30) && (c :: r).all dig)) = false
              rw [decide_eq_false (show ¬ (c :: r).length ≤ 30 by omega)]
              simp
            · have z : ¬ (30 : Int) < F.length := fun y => e3 (decide_eq_true y)
              refine ⟨F, fun d => .bl (dig d), rfl, by omega, fun d hd => ?_, fun p hp => ⟨p, F.cps.toList.map dig, rfl, ?_, ?_⟩⟩
              · dsimp only
                rw [← fig_dig]
                exact elt_in_glob rfl rfl rfl T.m_FIGURES
              · refine SqL.of ?_
                rw [upd_same, List.map_map]
                rfl
              · have m2 := m1 p hp nF (fun c' r' q => by rw [hcr] at q; cases q; exact nc) (by omega)
                rw [List.map_map] at m2
                exact m2
      · refine iteDF hs ?_
        have hF : x.cps.toList = figsL x.cps.toList := by
          cases q : x.cps.toList with
          | nil => rfl
          | cons c r =>
            rw [q] at hs
            have hc : ¬ c = 45 := fun z => hs (by rw [z]; rfl)
            exact (if_neg hc).symm
        have m1 := main x hF hl
        refine ⟨_, rfl, ?_⟩
        refine ⟨_, rfl, rfl, _, rfl, ite2 (fun e1 => iteT ?_) (fun e1 => ?_)⟩
        · have z := (empty_iff x).mp (V.str.inj (of_decide_eq_true e1))
          refine kf ?_
          rw [num_not nx, ← hF, z]
          rfl
        · have nF : x.cps.toList ≠ [] := fun z => e1 (decide_eq_true (congrArg V.str ((empty_iff x).mpr z)))
          obtain ⟨c, r, hcr⟩ : ∃ c r, x.cps.toList = c :: r := by
            cases q : x.cps.toList with
            | nil => exact (nF q).elim
            | cons c r => exact ⟨c, r, rfl⟩
          refine ⟨_, rfl, x, 0, c, rfl, rfl, by omega, by rw [hcr]; exact atI_nat (j := 0) rfl, rfl, _, rfl, ite2 (fun e2 => iteT ?_) (fun e2 => ?_)⟩
          · have z := (one_zero c).mp (V.str.inj (of_decide_eq_true e2))
            refine kf ?_
            rw [num_not nx, ← hF, hcr, z]
            rfl
          · have nc : ¬ c = 48 := fun z => e2 (decide_eq_true (congrArg V.str ((one_zero c).mpr z)))
            refine ⟨_, rfl, _, _, rfl, ⟨by omega, rfl⟩, _, _, rfl, rfl, _, rfl, ite2 (fun e3 => ?_) (fun e3 => ?_)⟩
            · have z : (30 : Int) < x.length := of_decide_eq_true e3
              refine kf ?_
              rw [num_not nx, ← hF, hcr]
              rw [len_codes, hcr] at z
              show (!decide (c = 48) && (decide ((c :: r).length ≤ 30) && (c :: r).all dig)) = false
              rw [decide_eq_false (show ¬ (c :: r).length ≤ 30 by omega)]
              simp
            · have z : ¬ (30 : Int) < x.length := fun y => e3 (decide_eq_true y)
              refine ⟨x, fun d => .bl (dig d), rfl, by omega, fun d hd => ?_, fun p hp => ⟨p, x.cps.toList.map dig, rfl, ?_, ?_⟩⟩
              · dsimp only
                rw [← fig_dig]
                exact elt_in_glob rfl rfl rfl T.m_FIGURES
              · refine SqL.of ?_
                rw [upd_same, List.map_map]
                rfl
              · have m2 := m1 p hp nF (fun c' r' q => by rw [hcr] at q; cases q; exact nc) (by omega)
                rw [List.map_map] at m2
                exact m2
theorem num_len {x : Str} (h : isNumL x.cps.toList = true) : x.length ≤ 31 := by
  rw [len_codes]
  rcases Bool.or_eq_true_iff.mp h with z | z
  · rw [of_decide_eq_true z]; decide
  · cases q : x.cps.toList with
    | nil => simp
    | cons c r =>
      rw [q] at z
      have fl : ∀ l : List Nat, isFigs l = true → l.length ≤ 30 := fun l hl => by
        cases l with
        | nil => cases hl
        | cons b s =>
          have hl' : (!decide (b = 48) && (decide ((b :: s).length ≤ 30) && (b :: s).all dig)) = true := hl
          simp only [Bool.and_eq_true] at hl'
          exact of_decide_eq_true hl'.2.1
      by_cases hc : c = 45
      · have e : figsL (c :: r) = r := if_pos hc
        rw [e] at z
        have := fl r z
        rw [List.length_cons]
        omega
      · have e : figsL (c :: r) = c :: r := if_neg hc
        rw [e] at z
        have := fl _ z
        omega
noncomputable def spNum0 : Sp := fun vs H Q _ => ∃ x : Str, vs = [.str x] ∧ x.length ≤ 1000 ∧ (∀ c ∈ x.cps.toList, c < 16 ^ 8) ∧ (isNumL x.cps.toList = true → ∀ H', Same H H' → Q (.int (numVal x.cps.toList)) H') ∧ (isNumL x.cps.toList = false → ∀ H', Same H H' → False)
theorem ok_numberof (T : Tx K mg) : FnOk P w K mg base CX0 2 T.f_numberof T.d_numberof ["text"] spNum0 := by
  refine T.F_numberof.ok sc_numberof (fun vs H Q E h => ?_) (fun cdv A outer s H vs Q E hr h => ?_)
  · obtain ⟨x, rfl, _⟩ := h
    rfl
  · obtain ⟨x, rfl, hl, hc, k, ke⟩ := h
    refine ⟨_, (pss_cons (ps_if (pt_not (pt_val (pe_call ((ok_iswrittennumber T).mono (by decide)) hr rfl T.m_iswrittennumber T.F_iswrittennumber.kp T.b_iswrittennumber .nil pass0 (pa_cons (pv 0) pa_nil))))
      (pss_one ps_never)
      pss_nil)
      (pss_one (ps_ret (pe_callTy call_int_text (by rfl) T.z_int boot_int (pa_cons (pv 0) pa_nil))))), ?_⟩
    refine ⟨_, rfl, x, rfl, by omega, fun H1 s1 => ⟨_, rfl, ?_⟩⟩
    cases q : isNumL x.cps.toList with
    | false => exact (ke q H1 s1).elim
    | true =>
      have := num_len q
      exact iteF ⟨_, rfl, x, _, rfl, int_of_num (by omega) q, by omega, k q H1 s1⟩
theorem num_neg {n : Int} (h : n < 0) : num n = ⟨#[45]⟩ ++ num (-n) := by
  unfold num
  refine ext_toList ?_
  rw [app_codes, PyProof.Rows.toString_neg h, show 0 - n = -n by omega, signs_ofString, String.toList_append, List.map_append, signs_ofString (toString (-n))]
  rfl
theorem log_small {n : Int} (h : Bd n) : n.natAbs.log2 < 1920 := by
  obtain ⟨h1, h2⟩ := h
  have h3 : n.natAbs < 2 ^ 100 := by
    have : (10 : Int) ^ 30 < 2 ^ 100 := by decide
    omega
  rcases Nat.eq_zero_or_pos n.natAbs with h0 | hp
  · rw [h0]; decide
  · exact Nat.lt_trans ((Nat.log2_lt (Nat.ne_of_gt hp)).mpr h3) (by decide)
theorem _root_.My.Tr.pair {H : Hp} {v : V} {p : Pr} (h : Tr H v (dPair p)) : ∃ a, v = .ref a ∧ H a = some (.tup [.int p.1, .int p.2]) := by
  cases h with
  | @tup a xs _ h r =>
    cases r with
    | cons h1 r =>
      cases r with
      | cons h2 r =>
        cases r
        cases h1
        cases h2
        exact ⟨a, rfl, h⟩
theorem _root_.My.Tr.list {H : Hp} {v : V} {ds : List PyData} (h : Tr H v (.list ds)) : ∃ a xs, v = .ref a ∧ H a = some (.lst xs) ∧ Trs H xs ds := by
  cases h with
  | @lst a xs _ h r => exact ⟨a, xs, rfl, h, r⟩
theorem _root_.My.Tr.look {H : Hp} {v : V} {l : Lk} (h : Tr H v (dLook l)) : ∃ a xs, v = .ref a ∧ H a = some (.lst xs) ∧ Trs H xs (l.map dPair) := h.list
theorem _root_.My.Tr.ints {H : Hp} {v : V} {ns : List Int} (h : Tr H v (.list (ns.map PyData.int))) : ∃ a, v = .ref a ∧ H a = some (.lst (ns.map V.int)) := by
  obtain ⟨a, xs, rfl, h1, h2⟩ := h.list
  rw [h2.ints] at h1
  exact ⟨a, rfl, h1⟩
theorem _root_.My.Tr.deal {H : Hp} {v : V} {d : Dl} (h : Tr H v (dDeal d)) : ∃ a b xs, v = .ref a ∧ H a = some (.tup [.int d.1, .str d.2.1, .ref b]) ∧ H b = some (.lst xs) ∧ Trs H xs (d.2.2.map dLook) := by
  cases h with
  | @tup a xs _ h r =>
    cases r with
    | cons h1 r =>
      cases r with
      | cons h2 r =>
        cases r with
        | cons h3 r =>
          cases r
          cases h1
          cases h2
          obtain ⟨b, ys, rfl, h4, h5⟩ := h3.list
          exact ⟨a, b, ys, rfl, h, h4, h5⟩
theorem _root_.My.Tr.make {H : Hp} {v : V} {m : Mkr} (h : Tr H v (dMake m)) : ∃ a b, v = .ref a ∧ H a = some (.tup [.int m.1, .ref b]) ∧ H b = some (.lst (m.2.map V.int)) := by
  cases h with
  | @tup a xs _ h r =>
    cases r with
    | cons h1 r =>
      cases r with
      | cons h2 r =>
        cases r
        cases h1
        obtain ⟨b, rfl, h4⟩ := h2.ints
        exact ⟨a, b, rfl, h, h4⟩
theorem _root_.My.Tr.past {H : Hp} {v : V} {p : Ps} (h : Tr H v (dPast p)) : ∃ a b c xs ys, v = .ref a ∧ H a = some (.tup [.ref b, .ref c]) ∧ H b = some (.lst xs) ∧ H c = some (.lst ys) ∧ Trs H xs (p.1.map dDeal) ∧ Trs H ys (p.2.map dMake) := by
  cases h with
  | @tup a xs _ h r =>
    cases r with
    | cons h1 r =>
      cases r with
      | cons h2 r =>
        cases r
        obtain ⟨b, ys, rfl, h4, h5⟩ := h1.list
        obtain ⟨c, zs, rfl, h6, h7⟩ := h2.list
        exact ⟨a, b, c, ys, zs, rfl, h, h4, h6, h5, h7⟩
--@STAGE
theorem ok_written (T : Tx K mg) : FnOk P w K mg base CX0 1 T.f_written T.d_written ["number"] spWr := by
  refine T.F_written.ok sc_written (fun vs H Q E h => ?_) (fun cdv A outer s H vs Q E hr h => ?_)
  · obtain ⟨n, rfl, _⟩ := h
    rfl
  · obtain ⟨n, rfl, hb, k⟩ := h
    refine ⟨_, (pss_cons (ps_set (i := 1) sc_written.nd rfl (Or.inl rfl) (pe_callB call_absI (by rfl) T.z_abs boot_abs (pa_cons (pv 0) pa_nil)))
      (pss_cons (ps_set (i := 2) sc_written.nd rfl (Or.inl rfl) (pe_lst pa_nil))
      (pss_cons (ps_while PassesOwn.never (pt_cmpR op_ge (pv 1) (pe_op op_pow pe_int pe_int) (nomark _))
      (pss_cons (ps_expr pe_never)
      (pss_one (ps_set (i := 1) sc_written.nd rfl (Or.inl rfl) (pe_op op_fdiv (pv 1) (pe_op op_pow pe_int pe_int))))))
      (pss_cons (ps_expr (pe_bm PySem.F.plainAttrs_list PySem.F.slot_list_append PySem.F.type_list_append mt_appendA (pv 2) (pa_cons (pe_callTy call_strA (by rfl) T.z_str boot_str (pa_cons (pv 1) pa_nil)) pa_nil)))
      (pss_cons (ps_set (i := 3) sc_written.nd rfl (Or.inl rfl) (pe_ifExp (pt_cmpR op_lt (pv 0) pe_int (nomark _)) pe_str pe_str))
      (pss_one (ps_ret (pe_op op_add_str (pv 3) (pe_joinRev rfl rfl T.z_reversed pe_str (pa_cons (pv 2) pa_nil)))))))))), ?_⟩
    obtain ⟨m, hm0, hmb, hme⟩ : ∃ m : Int, 0 ≤ m ∧ m < 10 ^ 30 ∧ (if n < 0 then -n else n) = m := ⟨_, by split <;> omega, by obtain ⟨h1, h2⟩ := hb; split <;> omega, rfl⟩
    have hbm : Bd m := ⟨by omega, hmb⟩
    refine ⟨_, rfl, n, rfl, ?_⟩
    rw [hme]
    refine ⟨(by show 0 ≤ sizeLine; decide), fun pl hpl => ?_⟩
    refine ⟨fun i σ H2 => σ = [some (.int n), some (.int m), some (.ref pl), none] ∧ Same H H2 ∧ H2 pl = some (.lst []), ⟨0, rfl, Same.upd hpl, upd_same⟩, ?_⟩
    rintro i σ H2 ⟨rfl, s2, h2⟩
    have e64 : ¬ (10 : Int) ^ (64 : Int).toNat ≤ m := by
      have : (10 : Int) ^ 30 < 10 ^ (64 : Int).toNat := by decide
      omega
    refine ⟨_, rfl, _, _, rfl, rfl, ⟨by decide, by decide⟩, _, _, rfl, rfl, _, rfl, iteDF e64 ?_⟩
    refine ⟨_, rfl, .inl ⟨rfl, _, SqL.of h2⟩, _, rfl, _, rfl, .inl ⟨m, rfl, ?_, ?_⟩⟩
    · exact log_small hbm
    · refine ⟨pl, [], _, rfl, rfl, h2, (by decide), fun H3 h3 k3 => ?_⟩
      have s3 : Same H H3 := fun b o e => k3 _ _ (fun z => by rw [z, hpl] at e; cases e) (s2 _ _ e)
      have l31 := num_len31 hbm
      have z31 : (40 : Nat) ≤ sizeLine := by decide
      have tail : ∀ sg : Str, sg.length ≤ 1 → sg ++ num m = num n → tOp (fun x y H Q => ∃ i j, x = V.str i ∧ y = V.str j ∧ i.length + j.length ≤ sizeLine ∧ Q (V.str (i ++ j)) H) (tVar 3) (tJoinRev (tC (V.str (Str.ofString ""))) (tCons (tVar 2) tNil)) [some (V.int n), some (V.int m), some (V.ref pl), some (V.str sg)] H3 Q := fun sg hsg e => by
        refine ⟨_, rfl, ("" : Str), rfl, _, rfl, pl, [num m], rfl, h3, ?_, _, _, rfl, rfl, ?_, ?_⟩
        · show (num m).length + 0 + 1 * ("" : Str).length ≤ _
          have : ("" : Str).length = 0 := by decide +kernel
          omega
        · show sg.length + (num m).length ≤ sizeLine
          omega
        · show Q (V.str (sg ++ num m)) H3
          rw [e]
          exact k H3 s3
      refine ⟨_, rfl, _, _, rfl, rfl, _, rfl, ite2 (fun e => ?_) (fun e => ?_)⟩
      · have e' : n < 0 := of_decide_eq_true e
        rw [if_pos e'] at hme
        exact tail _ (by decide +kernel) (by rw [num_neg e', hme, show ("-" : Str) = ⟨#[45]⟩ from by decide +kernel])
      · have e' : ¬ n < 0 := fun z => e (decide_eq_true z)
        rw [if_neg e'] at hme
        exact tail _ (by decide +kernel) (by rw [hme]; exact ext_toList (by rw [app_codes, show ("" : Str).cps.toList = [] from by decide +kernel, List.nil_append]))
theorem ok_showpair (T : Tx K mg) : FnOk P w K mg base CX0 2 T.f_showpair T.d_showpair ["pair"] spShPair := by
  refine T.F_showpair.ok sc_showpair (fun vs H Q E h => ?_) (fun cdv A outer s H vs Q E hr h => ?_)
  · obtain ⟨v, p, rfl, _⟩ := h
    rfl
  · obtain ⟨v, ⟨kx, sx⟩, rfl, ht, h1, h2, k⟩ := h
    refine ⟨_, (pss_cons (ps_set (i := 1) sc_showpair.nd rfl (Or.inl rfl) (pe_ifExp (pt_cmpR op_eq (pe_ix ix_tup (pv 0) pe_int (fun _ _ => rfl)) (pe_glob (v := V.int (-1)) rfl T.m_UNKEPT ⟨_, rfl⟩) (nomark _)) pe_str (pe_call ((ok_written T).mono (by decide)) hr rfl T.m_written T.F_written.kp T.b_written .nil pass0 (pa_cons (pe_ix ix_tup (pv 0) pe_int (fun _ _ => rfl)) pa_nil))))
      (pss_one (ps_ret (pe_op op_add_str (pe_op op_add_str (pe_call ((ok_written T).mono (by decide)) hr rfl T.m_written T.F_written.kp T.b_written .nil pass0 (pa_cons (pe_ix ix_tup (pv 0) pe_int (fun _ _ => rfl)) pa_nil)) pe_str) (pv 1))))), ?_⟩
    obtain ⟨a, rfl, ha⟩ := ht.pair
    have z99 : (99 : Nat) ≤ sizeLine := by decide
    have l1 := num_len31 h1
    have l2 := srcT_len h2
    have fin : ∀ H2, Same H H2 → tOp (fun x y H Q => ∃ i j, x = V.str i ∧ y = V.str j ∧ i.length + j.length ≤ sizeLine ∧ Q (V.str (i ++ j)) H) (tOp (fun x y H Q => ∃ i j, x = V.str i ∧ y = V.str j ∧ i.length + j.length ≤ sizeLine ∧ Q (V.str (i ++ j)) H) (tCall spWr [] E0 (tCons (tOp (rIxT K) (tVar 0) (tC (V.int 0))) tNil)) (tC (V.str (Str.ofString "<")))) (tVar 1) [some (V.ref a), some (V.str (srcT sx))] H2 Q := fun H2 s2 => by
      refine ⟨_, rfl, a, _, _, _, rfl, rfl, SqT.of (s2 _ _ ha), atI_nat (j := 0) rfl, kx, rfl, h1, fun H3 s3 => ⟨_, _, rfl, rfl, ?_, _, rfl, _, _, rfl, rfl, ?_, ?_⟩⟩
      · show (num kx).length + ("<" : Str).length ≤ _
        have : ("<" : Str).length = 1 := by decide +kernel
        dsimp only at l1
        omega
      · show (num kx ++ ("<" : Str)).length + (srcT sx).length ≤ _
        have : ("<" : Str).length = 1 := by decide +kernel
        dsimp only at l1 l2
        rw [strLen_append]
        omega
      · have e : num kx ++ ("<" : Str) ++ srcT sx = shPair (kx, sx) := by
          rw [show ("<" : Str) = ⟨#[60]⟩ from by decide +kernel]
          rfl
        rw [e]
        exact k H3 (s2.trans s3)
    refine ⟨_, rfl, a, _, _, _, rfl, rfl, SqT.of ha, atI_nat (j := 1) rfl, rfl, _, rfl, ite2 (fun e => ?_) (fun e => ?_)⟩
    · have es : sx = -1 := by simpa using e
      have := fin H (Same.refl H)
      rw [show srcT sx = ("?" : Str) from by rw [es]; decide +kernel] at this
      exact this
    · have es : ¬ sx = -1 := by simpa using e
      refine ⟨_, rfl, a, _, _, _, rfl, rfl, SqT.of ha, atI_nat (j := 1) rfl, sx, rfl, h2, fun H2 s2 => ?_⟩
      have := fin H2 s2
      rw [show srcT sx = num sx from if_neg es] at this
      exact this
theorem ok_showlook (T : Tx K mg) : FnOk P w K mg base CX0 3 T.f_showlook T.d_showlook ["look"] spShLook := by
  refine T.F_showlook.ok sc_showlook (fun vs H Q E h => ?_) (fun cdv A outer s H vs Q E hr h => ?_)
  · obtain ⟨v, p, rfl, _⟩ := h
    rfl
  · obtain ⟨v, l, rfl, ht, h1, h2, k⟩ := h
    refine ⟨_, (pss_cons (ps_if (pt_cmpR op_eq (pe_callB call_len (by rfl) T.z_len boot_len (pa_cons (pv 0) pa_nil)) pe_int (nomark _))
      (pss_one (ps_ret pe_str))
      pss_nil)
      (pss_one (ps_ret (pe_bm PySem.F.plainAttrs_str PySem.F.slot_str_join PySem.F.type_str_join mt_join pe_str (pa_cons (pe_compF ["pair"] rfl (CompSc.mk (fv := []) (js := []) rfl (by decide +kernel) (by decide +kernel) (by decide +kernel) allc_nil rfl (by decide +kernel)) (pi_list (pv 0)) (fun _ _ _ _ _ => (pg_name (i := 0) (show (["pair"] : List Str).Nodup by decide +kernel) rfl (Or.inl rfl))) (fun _ _ _ _ _ => pf_nil) (fun _ _ _ _ _ => (pe_call ((ok_showpair T).mono (by decide)) hr rfl T.m_showpair T.F_showpair.kp T.b_showpair .nil pass0 (pa_cons (pv 0) pa_nil)))) pa_nil))))), ?_⟩
    obtain ⟨a, xs, rfl, ha, hx⟩ := ht.look
    have hl : xs.length = l.length := by rw [hx.len, List.length_map]
    have z9 : (20000 : Nat) ≤ sizeLine := by decide
    have hcl : l.length + 1 ≤ 20000 := h2
    refine ⟨_, rfl, _, _, rfl, .inl ⟨_, SqL.of ha, rfl⟩, rfl, _, rfl, ite2 (fun e => ?_) (fun e => ?_)⟩
    · have : l = [] := by
        have : xs.length = 0 := by simpa using e
        exact List.eq_nil_of_length_eq_zero (by omega)
      have e2 : shLook l = ("-" : Str) := by rw [this]; decide +kernel
      have := k H (Same.refl H)
      rw [e2] at this
      exact this
    · have hne : ¬ l = [] := fun z => e (by rw [z] at hl; simpa using hl)
      refine ⟨rfl, _, rfl, a, rfl, ⟨_, SqL.of ha⟩, compL (k := 1) (fs := []) l dPair (fun p => some (.str (shPair p))) rfl ha hx (by omega) (fun p hp H2 ts v R ss hts tr cont => ?_) (fun D H2 hD ss hd => ?_)⟩
      · obtain ⟨t, rfl⟩ := List.length_eq_one_iff.mp hts
        exact ⟨_, rfl, v, p, rfl, tr, (h1 p hp).1, (h1 p hp).2, fun H3 s3 => cont [_] H3 rfl s3⟩
      · rw [show l.filterMap (fun p => some (V.str (shPair p))) = (l.map shPair).map V.str from by rw [List.map_map, ← List.filterMap_eq_map]; rfl] at hd
        have hs := look_sum h1
        refine ⟨_, D, l.map shPair, rfl, rfl, SqL.of hd, ?_, ?_⟩
        · have : (" " : Str).length = 1 := by decide +kernel
          rw [this, List.length_map]
          omega
        · have := k H2 ss
          rw [show shLook l = Str.join (" " : Str) (l.map shPair) from by rw [show (" " : Str) = ⟨#[32]⟩ from by decide +kernel]; exact if_neg hne] at this
          exact this
theorem ok_showdeal (T : Tx K mg) : FnOk P w K mg base CX0 4 T.f_showdeal T.d_showdeal ["deal"] spShDeal := by
  refine T.F_showdeal.ok sc_showdeal (fun vs H Q E h => ?_) (fun cdv A outer s H vs Q E hr h => ?_)
  · obtain ⟨v, p, rfl, _⟩ := h
    rfl
  · obtain ⟨v, ⟨nx, wx, ls⟩, rfl, ht, h1, h2, k⟩ := h
    refine ⟨_, (pss_cons (ps_set (i := 1) sc_showdeal.nd rfl (Or.inl rfl) (pe_op op_add_str (pe_op op_add_str (pe_op op_add_str (pe_call ((ok_written T).mono (by decide)) hr rfl T.m_written T.F_written.kp T.b_written .nil pass0 (pa_cons (pe_ix ix_tup (pv 0) pe_int (fun _ _ => rfl)) pa_nil)) pe_str) (pe_ix ix_tup (pv 0) pe_int (fun _ _ => rfl))) pe_str))
      (pss_cons (ps_if (pt_cmpR op_eq (pe_callB call_len (by rfl) T.z_len boot_len (pa_cons (pe_ix ix_tup (pv 0) pe_int (fun _ _ => rfl)) pa_nil)) pe_int (nomark _))
      (pss_one (ps_ret (pv 1)))
      pss_nil)
      (pss_one (ps_ret (pe_op op_add_str (pe_op op_add_str (pv 1) pe_str) (pe_bm PySem.F.plainAttrs_str PySem.F.slot_str_join PySem.F.type_str_join mt_join pe_str (pa_cons (pe_compF ["look"] rfl (CompSc.mk (fv := []) (js := []) rfl (by decide +kernel) (by decide +kernel) (by decide +kernel) allc_nil rfl (by decide +kernel)) (pi_list (pe_ix ix_tup (pv 0) pe_int (fun _ _ => rfl))) (fun _ _ _ _ _ => (pg_name (i := 0) (show (["look"] : List Str).Nodup by decide +kernel) rfl (Or.inl rfl))) (fun _ _ _ _ _ => pf_nil) (fun _ _ _ _ _ => (pe_call ((ok_showlook T).mono (by decide)) hr rfl T.m_showlook T.F_showlook.kp T.b_showlook .nil pass0 (pa_cons (pv 0) pa_nil)))) pa_nil))))))), ?_⟩
    obtain ⟨a, b, xs, rfl, ha, hb, hx⟩ := ht.deal
    dsimp only at hx ha
    have hl : xs.length = ls.length := by rw [hx.len, List.length_map]
    have z9 : (2000000 : Nat) ≤ sizeLine := by decide
    have l1 := num_len31 h1.1
    dsimp only at l1
    have hc : (ls.map cL).sum + wx.length + 1 ≤ 20000 := h2
    have hll := len_le_sum cL_pos (l := ls)
    have c1 : (" " : Str).length = 1 := by decide +kernel
    have c2 : (":" : Str).length = 1 := by decide +kernel
    have eh : num nx ++ (" " : Str) ++ wx ++ (":" : Str) = hdD (nx, wx, ls) := by rw [show (" " : Str) = ⟨#[32]⟩ from by decide +kernel, show (":" : Str) = ⟨#[58]⟩ from by decide +kernel]; rfl
    refine ⟨_, rfl, a, _, _, _, rfl, rfl, SqT.of ha, atI_nat (j := 0) rfl, nx, rfl, h1.1, fun H2 s2 => ?_⟩
    refine ⟨_, _, rfl, rfl, (by show (num nx).length + (" " : Str).length ≤ _; omega), _, rfl, a, _, _, _, rfl, rfl, SqT.of (s2 _ _ ha), atI_nat (j := 1) rfl, _, _, rfl, rfl, (by show (num nx ++ (" " : Str)).length + wx.length ≤ _; rw [strLen_append]; omega), _, _, rfl, rfl, (by show (num nx ++ (" " : Str) ++ wx).length + (":" : Str).length ≤ _; rw [strLen_append, strLen_append]; omega), ?_⟩
    rw [eh]
    refine ⟨_, rfl, a, _, _, _, rfl, rfl, SqT.of (s2 _ _ ha), atI_nat (j := 2) rfl, _, _, rfl, .inl ⟨_, SqL.of (s2 _ _ hb), rfl⟩, rfl, _, rfl, ite2 (fun e => ?_) (fun e => ?_)⟩
    · have e0 : ls = [] := by
        have : xs.length = 0 := by simpa using e
        exact List.eq_nil_of_length_eq_zero (by omega)
      have e2 : shDeal (nx, wx, ls) = hdD (nx, wx, ls) := if_pos e0
      have := k H2 s2
      rw [e2] at this
      exact ⟨_, rfl, this⟩
    · have hne : ¬ ls = [] := fun z => e (by rw [z] at hl; simpa using hl)
      have hh := hdD_len h1
      dsimp only at hh
      refine ⟨_, rfl, _, _, rfl, rfl, (by show (hdD (nx, wx, ls)).length + (" " : Str).length ≤ _; omega), rfl, _, rfl, a, _, _, _, rfl, rfl, SqT.of (s2 _ _ ha), atI_nat (j := 2) rfl, b, rfl, ⟨_, SqL.of (s2 _ _ hb)⟩, compL (k := 1) (fs := []) ls dLook (fun p => some (.str (shLook p))) rfl (s2 _ _ hb) (hx.same s2) (by omega) (fun p hp H3 ts v R ss hts tr cont => ?_) (fun D H3 hD ss hd => ?_)⟩
      · obtain ⟨t, rfl⟩ := List.length_eq_one_iff.mp hts
        have := mem_le_sum (f := cL) hp
        exact ⟨_, rfl, v, p, rfl, tr, h1.2 p hp, by omega, fun H4 s4 => cont [_] H4 rfl s4⟩
      · rw [show ls.filterMap (fun p => some (V.str (shLook p))) = (ls.map shLook).map V.str from by rw [List.map_map, ← List.filterMap_eq_map]; rfl] at hd
        have hs := deal_sum h1
        have hj := joinLen semi (ls.map shLook)
        have l2 : semi.length = 2 := rfl
        dsimp only at hs
        rw [List.length_map, l2] at hj
        refine ⟨_, D, ls.map shLook, rfl, rfl, SqL.of hd, ?_, _, _, rfl, rfl, ?_, ?_⟩
        · rw [show ("; " : Str) = semi from by decide +kernel, l2, List.length_map]
          omega
        · show (hdD (nx, wx, ls) ++ (" " : Str)).length + (Str.join ("; " : Str) (ls.map shLook)).length ≤ _
          rw [strLen_append, show ("; " : Str) = semi from by decide +kernel]
          omega
        · have := k H3 (s2.trans ss)
          rw [show shDeal (nx, wx, ls) = hdD (nx, wx, ls) ++ (" " : Str) ++ Str.join ("; " : Str) (ls.map shLook) from by rw [show (" " : Str) = ⟨#[32]⟩ from by decide +kernel, show ("; " : Str) = semi from by decide +kernel]; exact if_neg hne] at this
          exact this
theorem ok_showmake (T : Tx K mg) : FnOk P w K mg base CX0 4 T.f_showmake T.d_showmake ["made"] spShMake := by
  refine T.F_showmake.ok sc_showmake (fun vs H Q E h => ?_) (fun cdv A outer s H vs Q E hr h => ?_)
  · obtain ⟨v, p, rfl, _⟩ := h
    rfl
  · obtain ⟨v, ⟨kx, ns⟩, rfl, ht, h1, h2, k⟩ := h
    refine ⟨_, (pss_one (ps_ret (pe_op op_add_str (pe_op op_add_str (pe_op op_add_str pe_str (pe_call ((ok_written T).mono (by decide)) hr rfl T.m_written T.F_written.kp T.b_written .nil pass0 (pa_cons (pe_ix ix_tup (pv 0) pe_int (fun _ _ => rfl)) pa_nil))) pe_str) (pe_bm PySem.F.plainAttrs_str PySem.F.slot_str_join PySem.F.type_str_join mt_join pe_str (pa_cons (pe_compF ["number"] rfl (CompSc.mk (fv := []) (js := []) rfl (by decide +kernel) (by decide +kernel) (by decide +kernel) allc_nil rfl (by decide +kernel)) (pi_list (pe_ix ix_tup (pv 0) pe_int (fun _ _ => rfl))) (fun _ _ _ _ _ => (pg_name (i := 0) (show (["number"] : List Str).Nodup by decide +kernel) rfl (Or.inl rfl))) (fun _ _ _ _ _ => pf_nil) (fun _ _ _ _ _ => (pe_op op_add_str pe_str (pe_call ((ok_written T).mono (by decide)) hr rfl T.m_written T.F_written.kp T.b_written .nil pass0 (pa_cons (pv 0) pa_nil))))) pa_nil))))), ?_⟩
    obtain ⟨a, b, rfl, ha, hb⟩ := ht.make
    dsimp only at hb ha
    have z9 : (2000000 : Nat) ≤ sizeLine := by decide
    have l1 := num_len31 h1.1
    dsimp only at l1
    have hc : ns.length + 1 ≤ 20000 := h2
    have c1 : (" " : Str).length = 1 := by decide +kernel
    have c2 : (":" : Str).length = 1 := by decide +kernel
    have c3 : ("make " : Str).length = 5 := by decide +kernel
    refine ⟨_, rfl, a, _, _, _, rfl, rfl, SqT.of ha, atI_nat (j := 0) rfl, kx, rfl, h1.1, fun H2 s2 => ?_⟩
    refine ⟨_, _, rfl, rfl, (by show ("make " : Str).length + (num kx).length ≤ _; omega), _, _, rfl, rfl, (by show (("make " : Str) ++ num kx).length + (":" : Str).length ≤ _; rw [strLen_append]; omega), rfl, _, rfl, a, _, _, _, rfl, rfl, SqT.of (s2 _ _ ha), atI_nat (j := 1) rfl, b, rfl, ⟨_, SqL.of (s2 _ _ hb)⟩, ?_⟩
    refine compL (k := 1) (fs := []) ns PyData.int (fun n => some (.str (⟨#[32]⟩ ++ num n))) rfl (s2 _ _ hb) (Trs.ofInts ns) (by omega) (fun p hp H3 ts v R ss hts tr cont => ?_) (fun D H3 hD ss hd => ?_)
    · obtain ⟨t, rfl⟩ := List.length_eq_one_iff.mp hts
      cases tr
      have hbp := h1.2 p hp
      have lp := num_len31 hbp
      refine ⟨_, rfl, p, rfl, hbp, fun H4 s4 => ⟨_, _, rfl, rfl, (by show (" " : Str).length + (num p).length ≤ _; omega), ?_⟩⟩
      have := cont [some (.int p)] H4 rfl s4
      rw [show (⟨#[32]⟩ : Str) = (" " : Str) from by decide +kernel] at this
      exact this
    · rw [show ns.filterMap (fun n => some (V.str (⟨#[32]⟩ ++ num n))) = (ns.map fun n => (⟨#[32]⟩ : Str) ++ num n).map V.str from by rw [List.map_map, ← List.filterMap_eq_map]; rfl] at hd
      have hs := make_sum h1.2
      have hj := joinLen ⟨#[]⟩ (ns.map fun n => (⟨#[32]⟩ : Str) ++ num n)
      have l0 : (⟨#[]⟩ : Str).length = 0 := rfl
      dsimp only at hs
      rw [l0] at hj
      refine ⟨_, D, _, rfl, rfl, SqL.of hd, ?_, _, _, rfl, rfl, ?_, ?_⟩
      · rw [show ("" : Str) = ⟨#[]⟩ from by decide +kernel, l0]
        omega
      · show (("make " : Str) ++ num kx ++ (":" : Str)).length + (Str.join ("" : Str) (ns.map fun n => (⟨#[32]⟩ : Str) ++ num n)).length ≤ _
        rw [strLen_append, strLen_append, show ("" : Str) = ⟨#[]⟩ from by decide +kernel]
        omega
      · have := k H3 (s2.trans ss)
        rw [show shMake (kx, ns) = ("make " : Str) ++ num kx ++ (":" : Str) ++ Str.join ("" : Str) (ns.map fun n => (⟨#[32]⟩ : Str) ++ num n) from by rw [show ("make " : Str) = mkW from by decide +kernel, show ("" : Str) = ⟨#[]⟩ from by decide +kernel, show (":" : Str) = ⟨#[58]⟩ from by decide +kernel]; rfl] at this
        exact this
theorem ok_showhistory (T : Tx K mg) : FnOk P w K mg base CX0 5 T.f_showhistory T.d_showhistory ["past"] spShPast := by
  refine T.F_showhistory.ok sc_showhistory (fun vs H Q E h => ?_) (fun cdv A outer s H vs Q E hr h => ?_)
  · obtain ⟨v, p, rfl, _⟩ := h
    rfl
  · obtain ⟨v, ⟨dx, mx⟩, rfl, ht, h1, h2, k⟩ := h
    refine ⟨_, (pss_one (ps_ret (pe_bm PySem.F.plainAttrs_str PySem.F.slot_str_join PySem.F.type_str_join mt_join pe_str (pa_cons (pe_op op_cat (pe_compF ["deal"] rfl (CompSc.mk (fv := []) (js := []) rfl (by decide +kernel) (by decide +kernel) (by decide +kernel) allc_nil rfl (by decide +kernel)) (pi_list (pe_ix ix_tup (pv 0) pe_int (fun _ _ => rfl))) (fun _ _ _ _ _ => (pg_name (i := 0) (show (["deal"] : List Str).Nodup by decide +kernel) rfl (Or.inl rfl))) (fun _ _ _ _ _ => pf_nil) (fun _ _ _ _ _ => (pe_call ((ok_showdeal T).mono (by decide)) hr rfl T.m_showdeal T.F_showdeal.kp T.b_showdeal .nil pass0 (pa_cons (pv 0) pa_nil)))) (pe_compF ["made"] rfl (CompSc.mk (fv := []) (js := []) rfl (by decide +kernel) (by decide +kernel) (by decide +kernel) allc_nil rfl (by decide +kernel)) (pi_list (pe_ix ix_tup (pv 0) pe_int (fun _ _ => rfl))) (fun _ _ _ _ _ => (pg_name (i := 0) (show (["made"] : List Str).Nodup by decide +kernel) rfl (Or.inl rfl))) (fun _ _ _ _ _ => pf_nil) (fun _ _ _ _ _ => (pe_call ((ok_showmake T).mono (by decide)) hr rfl T.m_showmake T.F_showmake.kp T.b_showmake .nil pass0 (pa_cons (pv 0) pa_nil))))) pa_nil)))), ?_⟩
    obtain ⟨a, b, c, xs, ys, rfl, ha, hb, hc, hx, hy⟩ := ht.past
    dsimp only at hx hy
    have z9 : (2000000 : Nat) ≤ sizeLine := by decide
    have hc2 : (dx.map cD).sum + (mx.map cM).sum ≤ 20000 := h2
    have hll := len_le_sum cD_pos (l := dx)
    have hlm := len_le_sum cM_pos (l := mx)
    refine ⟨rfl, _, rfl, a, _, _, _, rfl, rfl, SqT.of ha, atI_nat (j := 0) rfl, b, rfl, ⟨_, SqL.of hb⟩, ?_⟩
    refine compL (k := 1) (fs := []) dx dDeal (fun n => some (.str (shDeal n))) rfl hb hx (by omega) (fun p hp H3 ts v R ss hts tr cont => ?_) (fun D H3 hD ss hd => ?_)
    · obtain ⟨t, rfl⟩ := List.length_eq_one_iff.mp hts
      have := mem_le_sum (f := cD) hp
      exact ⟨_, rfl, v, p, rfl, tr, h1.1 p hp, by omega, fun H4 s4 => cont [_] H4 rfl s4⟩
    refine ⟨_, rfl, a, _, _, _, rfl, rfl, SqT.of (ss _ _ ha), atI_nat (j := 1) rfl, c, rfl, ⟨_, SqL.of (ss _ _ hc)⟩, ?_⟩
    refine compL (k := 1) (fs := []) mx dMake (fun n => some (.str (shMake n))) rfl (ss _ _ hc) (hy.same ss) (by omega) (fun p hp H4 ts v R s4 hts tr cont => ?_) (fun D2 H4 hD2 s4 hd2 => ?_)
    · obtain ⟨t, rfl⟩ := List.length_eq_one_iff.mp hts
      have := mem_le_sum (f := cM) hp
      exact ⟨_, rfl, v, p, rfl, tr, h1.2 p hp, by omega, fun H5 s5 => cont [_] H5 rfl s5⟩
    rw [show dx.filterMap (fun p => some (V.str (shDeal p))) = (dx.map shDeal).map V.str from by rw [List.map_map, ← List.filterMap_eq_map]; rfl] at hd
    rw [show mx.filterMap (fun p => some (V.str (shMake p))) = (mx.map shMake).map V.str from by rw [List.map_map, ← List.filterMap_eq_map]; rfl] at hd2
    have hs := past_sum h1
    have hcp : cP (dx, mx) ≤ 20000 := h2
    refine ⟨D, D2, _, _, rfl, rfl, s4 _ _ hd, hd2, (by rw [List.length_map, List.length_map, List.length_map, List.length_map]; omega), fun q hq => ?_⟩
    refine ⟨_, q, dx.map shDeal ++ mx.map shMake, rfl, rfl, SqL.of (by rw [List.map_append]; exact upd_same), ?_, ?_⟩
    · have : ("\n" : Str).length = 1 := by decide +kernel
      rw [this, List.length_append, List.length_map, List.length_map]
      dsimp only at hs
      omega
    · have e : shPast (dx, mx) = Str.join ("\n" : Str) (dx.map shDeal ++ mx.map shMake) := by rw [show ("\n" : Str) = ⟨#[10]⟩ from by decide +kernel]; rfl
      show Q (V.str (Str.join ("\n" : Str) (dx.map shDeal ++ mx.map shMake))) _
      rw [← e]
      exact k _ ((ss.trans s4).trans (Same.upd hq))
--@STAGE
theorem inV_strs (x : Str) : ∀ ls : List Str, inV (V.str x) (ls.map V.str) = decide (x ∈ ls)
  | [] => by simp [inV]
  | l :: r => by
    have ih := inV_strs x r
    have e : inV (V.str x) ((l :: r).map V.str) = ((l == x) || inV (V.str x) (r.map V.str)) := rfl
    rw [e, ih]
    by_cases h : l = x
    · subst h
      simp
    · have h2 : ¬ x = l := fun z => h z.symm
      simp [h, h2]
theorem cut_tail (xs : List V) : cutV xs (some 1) none = xs.tail := by
  cases xs with
  | nil => rfl
  | cons x r =>
    show ((x :: r).drop (min 1 (r.length + 1))).take (r.length + 1 - min 1 (r.length + 1)) = r
    rw [show min 1 (r.length + 1) = 1 by omega]
    show r.take (r.length + 1 - 1) = r
    rw [Nat.add_sub_cancel, List.take_length]
theorem rise_range : ∀ ns : List Int, ((List.range (ns.length - 1)).map fun i => decide (ns.getD i 0 < ns.getD (i + 1) 0)).all id = riseB ns
  | [] => rfl
  | [a] => rfl
  | a :: b :: r => by
    have ih := rise_range (b :: r)
    show ((List.range (r.length + 1)).map _).all id = (decide (a < b) && riseB (b :: r))
    rw [List.range_succ_eq_map, List.map_cons, List.all_cons, List.map_map, ← ih]
    rfl
theorem rise_pw : ∀ {ns : List Int}, riseB ns = true → ns.Pairwise (· < ·)
  | [], _ => .nil
  | [a], _ => .cons (fun _ h => by cases h) .nil
  | a :: b :: r, h => by
    have h' : (decide (a < b) && riseB (b :: r)) = true := h
    rw [Bool.and_eq_true] at h'
    have ih := rise_pw h'.2
    refine .cons (fun x hx => ?_) ih
    have hab : a < b := of_decide_eq_true h'.1
    rcases List.mem_cons.mp hx with rfl | hx
    · exact hab
    · exact Int.lt_trans hab ((List.pairwise_cons.mp ih).1 x hx)
theorem pw_rise : ∀ {ns : List Int}, ns.Pairwise (· < ·) → riseB ns = true
  | [], _ => rfl
  | [a], _ => rfl
  | a :: b :: r, h => by
    obtain ⟨h1, h2⟩ := List.pairwise_cons.mp h
    show (decide (a < b) && riseB (b :: r)) = true
    rw [decide_eq_true (h1 b List.mem_cons_self), pw_rise h2]
    rfl
theorem bls {α : Type} (as : List α) (f : α → Bool) : as.filterMap (fun a => some (V.bl (f a))) = (as.map f).map V.bl := by rw [List.map_map, ← List.filterMap_eq_map]; rfl
theorem all_id {α : Type} (as : List α) (f : α → Bool) : (as.map f).all id = as.all f := by rw [List.all_map]; rfl
theorem Mks.same {H H' : Hp} {d : Addr} {ms : List Mkr} (h : Mks H d ms) (s : Same H H') : Mks H' d ms := by
  obtain ⟨kvs, h1, h2⟩ := h
  exact ⟨kvs, s _ _ h1, fun k => (h2 k).imp (fun ⟨l, e1, e2⟩ => ⟨l, e1, s _ _ e2⟩) id⟩
theorem put_new {r : List (Key × V)} {k : Key} {v : V} (h : (r.any fun kv => decide (kv.1 = k)) = false) : putK r k v = r ++ [(k, v)] := by
  unfold putK
  rw [h]
  rfl
theorem put_all : ∀ (l a : List (Key × V)), ((a ++ l).map (·.1)).Nodup → putAllK a l = a ++ l
  | [], a, _ => by simp [putAllK]
  | q :: r, a, h => by
    have e : putK a q.1 q.2 = a ++ [q] := put_new (by
      rw [List.any_eq_false]
      intro kv hk z
      have z' : kv.1 = q.1 := of_decide_eq_true z
      rw [List.map_append, List.map_cons, List.nodup_append] at h
      exact h.2.2 kv.1 (List.mem_map.mpr ⟨kv, hk, rfl⟩) q.1 List.mem_cons_self z')
    show putAllK (putK a q.1 q.2) r = _
    rw [e, put_all r (a ++ [q]) (by simpa using h)]
    simp
theorem mk_prs {H : Hp} : ∀ {ms : List Mkr} {ys : List V}, Trs H ys (ms.map dMake) → ∃ ps : List (Key × V), Prs2 K H ys ps ∧ ps.map (·.1) = ms.map (fun m => (Sum.inl m.1 : Key)) ∧ ∀ k : Int, (∃ l, valV ps (Sum.inl k) = some (.ref l) ∧ H l = some (.lst ((mkOf ms k).map V.int))) ∨ (valV ps (Sum.inl k) = none ∧ mkOf ms k = [])
  | [], _, .nil => ⟨[], .nil, rfl, fun k => .inr ⟨rfl, rfl⟩⟩
  | m :: r, _, .cons h q => by
    obtain ⟨ps, p1, p2, p3⟩ := mk_prs q
    obtain ⟨a, b, rfl, ha, hb⟩ := h.make
    refine ⟨(Sum.inl m.1, .ref b) :: ps, .cons (SqT.of ha) p1, by rw [List.map_cons, p2]; rfl, fun k => ?_⟩
    by_cases e : m.1 = k
    · subst e
      refine .inl ⟨b, ?_, ?_⟩
      · simp [valV]
      · rw [hb]
        simp [mkOf]
    · have e1 : valV ((Sum.inl m.1, V.ref b) :: ps) (Sum.inl k : Key) = valV ps (Sum.inl k) := by
        have : decide ((Sum.inl m.1 : Key) = Sum.inl k) = false := decide_eq_false fun z => e (Sum.inl.inj z)
        unfold valV
        rw [List.find?_cons]
        dsimp only
        rw [this]
      have e2 : mkOf (m :: r) k = mkOf r k := by
        unfold mkOf
        rw [List.find?_cons]
        have : (m.1 == k) = false := by simpa using e
        rw [this]
      rw [e1, e2]
      exact p3 k
theorem ok_islevel (T : Tx K mg) : FnOk P w K mg base CX0 1 T.f_islevel T.d_islevel ["word"] spLvl := by
  refine T.F_islevel.ok sc_islevel (fun vs H Q E h => ?_) (fun cdv A outer s H vs Q E hr h => ?_)
  · obtain ⟨x, rfl, _⟩ := h
    rfl
  · obtain ⟨x, rfl, k⟩ := h
    refine ⟨_, (pss_one (ps_ret (pe_cmpR op_in_seq (pv 0) (pe_glob (v := V.ref T.a_LEVEL_WORDS) rfl T.m_LEVEL_WORDS rfl) rfl))), ?_⟩
    refine ⟨_, rfl, T.a_LEVEL_WORDS, lvls.map V.str, rfl, .inr (T.q_LEVEL_WORDS _), rfl, rfl, ?_⟩
    show Q (V.bl (inV (V.str x) (lvls.map V.str))) H
    rw [inV_strs]
    exact k
theorem ok_rise (T : Tx K mg) : FnOk P w K mg base CX0 1 T.f_rise T.d_rise ["numbers"] spRise := by
  refine T.F_rise.ok sc_rise (fun vs H Q E h => ?_) (fun cdv A outer s H vs Q E hr h => ?_)
  · obtain ⟨a, ns, rfl, _⟩ := h
    rfl
  · obtain ⟨a, ns, rfl, ha, hl, k⟩ := h
    refine ⟨_, (pss_one (ps_ret (pe_callB (call_allL rfl) (by rfl) T.z_all boot_all (pa_cons (pe_compF ["one", "other"] rfl (CompSc.mk (fv := []) (js := []) rfl (by decide +kernel) (by decide +kernel) (by decide +kernel) allc_nil rfl (by decide +kernel)) (pi_zip rfl T.z_zip (pa_cons (pv 0) (pa_cons (pe_slice sl_list (pv 0) (po_some pe_int) po_none) pa_nil))) (fun _ _ _ _ _ => (pg_tupK (K := K) (n := 2) rfl rfl (pgs_cons (pg_name (i := 0) (show (["one", "other"] : List Str).Nodup by decide +kernel) rfl (Or.inl rfl)) (pgs_cons (pg_name (i := 1) (show (["one", "other"] : List Str).Nodup by decide +kernel) rfl (Or.inl rfl)) pgs_nil)))) (fun _ _ _ _ _ => pf_nil) (fun _ _ _ _ _ => (pe_cmpR op_lt (pv 0) (pv 1) (nomark _)))) pa_nil)))), ?_⟩
    have z9 : (20000 : Nat) ≤ sizeLine := by decide
    refine ⟨_, rfl, _, rfl, 1, rfl, a, _, rfl, SqL.of ha, fun p hp => ?_⟩
    rw [cut_tail]
    have s1 := Same.upd (o := HO.lst (ns.map V.int).tail) hp
    have ha1 := s1 _ _ ha
    have hp1 : upd H p (.lst (ns.map V.int).tail) p = some (.lst (ns.map V.int).tail) := upd_same
    generalize upd H p (.lst (ns.map V.int).tail) = H1 at *
    have hln : (ns.map V.int).tail.length = ns.length - 1 := by rw [List.length_tail, List.length_map]
    refine ⟨_, _, _, _, rfl, .list (SqL.of ha1), .list (SqL.of hp1), compQF_map (k := 2) (fs := []) (ns.length - 1) (fun i => some (.bl (decide (ns.getD i 0 < ns.getD (i + 1) 0)))) rfl (by omega) (fun i H2 ss hi => ⟨(gives_list (SqL.of (ss _ _ ha1))).go i (by rw [List.length_map]; omega), (gives_list (SqL.of (ss _ _ hp1))).go i (by omega)⟩) (fun H2 ss => ?_) ?_ ?_⟩
    · rcases Nat.eq_zero_or_pos ns.length with z | z
      · exact .inl ((gives_list (SqL.of (ss _ _ ha1))).stop _ (by rw [List.length_map]; omega))
      · exact .inr ⟨(gives_list (SqL.of (ss _ _ ha1))).go _ (by rw [List.length_map]; omega), (gives_list (SqL.of (ss _ _ hp1))).stop _ (by omega)⟩
    · rintro i H2 ts v H3 R ss hi hts ⟨q, x, y, y1, y2, rfl, hq, rfl⟩ cont
      have e1 := (gives_list (SqL.of (ss _ _ ha1))).yld i x H2 y1
      have e2 := (gives_list (SqL.of (ss _ _ hp1))).yld i y H2 y2
      rw [List.getElem?_map, List.getElem?_eq_getElem (show i < ns.length by omega)] at e1
      rw [List.getElem?_tail, List.getElem?_map, List.getElem?_eq_getElem (show i + 1 < ns.length by omega)] at e2
      cases e1
      cases e2
      obtain ⟨t1, t2, rfl⟩ : ∃ t1 t2, ts = [t1, t2] := My.us2 hts
      have c := cont [some (.int ns[i]), some (.int ns[i + 1])] (upd H2 q (.tup [.int ns[i], .int ns[i + 1]])) rfl (Same.upd hq)
      rw [show ns.getD i 0 = ns[i] from by rw [List.getD_eq_getElem?_getD, List.getElem?_eq_getElem (show i < ns.length by omega)]; rfl, show ns.getD (i + 1) 0 = ns[i + 1] from by rw [List.getD_eq_getElem?_getD, List.getElem?_eq_getElem (show i + 1 < ns.length by omega)]; rfl] at c
      exact ⟨q, _, rfl, SqT.of upd_same, rfl, _, _, rfl, _, _, rfl, rfl, _, rfl, _, rfl, _, _, rfl, rfl, c⟩
    · intro D H2 hD ss hd
      rw [bls] at hd
      refine ⟨D, _, rfl, SqL.of hd, ?_⟩
      rw [rise_range]
      exact k H2 (s1.trans ss)
theorem flat_ints : ∀ ns : List Int, (ns.map V.int).all flatV = true
  | [] => rfl
  | _ :: r => by rw [List.map_cons, List.all_cons, flat_ints r]; rfl
theorem ok_issource (T : Tx K mg) : FnOk P w K mg base CX0 1 T.f_issource T.d_issource ["source", "key", "number", "makers"] spSrc := by
  refine T.F_issource.ok sc_issource (fun vs H Q E h => ?_) (fun cdv A outer s H vs Q E hr h => ?_)
  · obtain ⟨d, ms, n, p, rfl, _⟩ := h
    rfl
  · obtain ⟨d, ms, n, ⟨kx, sx⟩, rfl, ⟨kvs, hd, hk⟩, k⟩ := h
    have hu := hu_of hr
    refine ⟨_, (pss_one (ps_ret (pe_or (pe_cmpR op_in_seq (pv 0) (pe_tup (pa_cons (pe_glob (v := V.int (0)) rfl T.m_START ⟨_, rfl⟩) (pa_cons (pe_glob (v := V.int (-1)) rfl T.m_UNKEPT ⟨_, rfl⟩) pa_nil))) rfl) (pe_one (pe_and (pe_cmpR op_ne (pv 0) (pv 2) (nomark _)) (pe_one (pe_cmpR op_in_seq (pv 0) (pe_dget2 hu (pv 3) (pv 1) (pe_lst pa_nil) ⟨rfl, rfl, rfl, rfl⟩) rfl))))))), ?_⟩
    dsimp only at *
    refine ⟨_, rfl, (by show 2 ≤ sizeLine; decide), fun p hp => ⟨p, _, rfl, .inr (SqT.of upd_same), rfl, rfl, _, rfl, ?_⟩⟩
    have s1 := Same.upd (o := HO.tup [.int 0, .int (-1)]) hp
    have e0 : inV (.int sx) [.int 0, .int (-1)] = (decide (sx = 0) || decide (sx = -1)) := by
      show (((0 : Int) == sx) || (((-1 : Int) == sx) || false)) = _
      rw [Bool.eq_iff_iff, Bool.or_false, Bool.or_eq_true, Bool.or_eq_true, beq_iff_eq, beq_iff_eq, decide_eq_true_iff, decide_eq_true_iff]
      exact ⟨fun h => h.imp Eq.symm Eq.symm, fun h => h.imp Eq.symm Eq.symm⟩
    refine ite2 (fun e => ?_) (fun e => ?_)
    · have e' : (decide (sx = 0) || decide (sx = -1)) = true := by rw [← e0]; exact e
      have := k _ s1
      rw [show isSrc ms n (kx, sx) = true from by unfold isSrc; rw [e']; rfl] at this
      exact this
    · have e' : (decide (sx = 0) || decide (sx = -1)) = false := by rw [← e0]; exact Bool.eq_false_iff.mpr e
      have ei : isSrc ms n (kx, sx) = (!decide (sx = n) && decide (sx ∈ mkOf ms kx)) := by unfold isSrc; rw [e']; rfl
      refine ⟨_, rfl, _, rfl, rfl, _, rfl, ite2 (fun f => ?_) (fun f => ?_)⟩
      · have f' : decide (sx = n) = false := by
          have : ¬ sx = n := by simpa using f
          exact decide_eq_false this
        refine ⟨_, rfl, _, rfl, d, rfl, .inl ⟨kvs, .inl (s1 _ _ hd)⟩, _, rfl, (by show 0 ≤ sizeLine; decide), fun q hq => ?_⟩
        have s2 := s1.trans (Same.upd (o := HO.lst []) hq)
        refine ⟨_, DGet.k (k := Sum.inl kx) (s2 _ _ hd), ?_⟩
        rcases hk kx with ⟨l, h1, h2⟩ | ⟨h1, h2⟩
        · rw [h1]
          refine ⟨l, _, rfl, .inl (SqL.of (s2 _ _ h2)), rfl, flat_ints _, ?_⟩
          show Q (V.bl (inV (.int sx) ((mkOf ms kx).map V.int))) _
          have := k _ s2
          rw [ei, f'] at this
          rw [inV_ints]
          simpa using this
        · rw [h1]
          refine ⟨q, [], rfl, .inl (SqL.of upd_same), rfl, rfl, ?_⟩
          have := k _ s2
          rw [ei, f', h2] at this
          exact this
      · have f' : decide (sx = n) = true := by
          have : sx = n := by simpa using f
          exact decide_eq_true this
        have := k _ s1
        rw [ei, f'] at this
        exact this
theorem ok_islook (T : Tx K mg) : FnOk P w K mg base CX0 2 T.f_islook T.d_islook ["look", "number", "makers"] spIsLk := by
  refine T.F_islook.ok sc_islook (fun vs H Q E h => ?_) (fun cdv A outer s H vs Q E hr h => ?_)
  · obtain ⟨v, d, ms, n, p, rfl, _⟩ := h
    rfl
  · obtain ⟨v, d, ms, n, l, rfl, ht, hm, hc, k⟩ := h
    obtain ⟨a, xs, rfl, ha, hx⟩ := ht.look
    refine ⟨_, (pss_one (ps_ret (pe_and (pe_call ((ok_rise T).mono (by decide)) hr rfl T.m_rise T.F_rise.kp T.b_rise .nil pass0 (pa_cons (pe_compF ["pair"] rfl (CompSc.mk (fv := []) (js := []) rfl (by decide +kernel) (by decide +kernel) (by decide +kernel) allc_nil rfl (by decide +kernel)) (pi_list (pv 0)) (fun _ _ _ _ _ => (pg_name (i := 0) (show (["pair"] : List Str).Nodup by decide +kernel) rfl (Or.inl rfl))) (fun _ _ _ _ _ => pf_nil) (fun _ _ _ _ _ => (pe_ix (ix_tupK (K := K) rfl) (pv 0) pe_int (fun _ _ => rfl)))) pa_nil)) (pe_one (pe_callB (call_allL rfl) (by rfl) T.z_all boot_all (pa_cons (pe_compF ["pair"] rfl (CompSc.mk (fv := ["number", "makers"]) (js := [1, 2]) rfl (by decide +kernel) (by decide +kernel) (by decide +kernel) (allc_cons (Or.inl rfl) (allc_cons (Or.inl rfl) allc_nil)) rfl (by decide +kernel)) (pi_list (pv 0)) (fun _ _ _ _ _ => (pg_name (i := 0) (show (["pair", "number", "makers"] : List Str).Nodup by decide +kernel) rfl (Or.inl rfl))) (fun _ _ _ _ _ => pf_nil) (fun _ _ _ _ _ => (pe_call ((ok_issource T).mono (by decide)) hr rfl T.m_issource T.F_issource.kp T.b_issource .nil pass0 (pa_cons (pe_ix (ix_tupK (K := K) rfl) (pv 0) pe_int (fun _ _ => rfl)) (pa_cons (pe_ix (ix_tupK (K := K) rfl) (pv 0) pe_int (fun _ _ => rfl)) (pa_cons (pv 1) (pa_cons (pv 2) pa_nil))))))) pa_nil)))))), ?_⟩
    have hl : xs.length = l.length := by rw [hx.len, List.length_map]
    have z9 : (20000 : Nat) ≤ sizeLine := by decide
    have hcl : l.length + 1 ≤ 20000 := hc
    refine ⟨_, rfl, a, rfl, ⟨_, SqL.of ha⟩, compL (k := 1) (fs := []) l dPair (fun p => some (.int p.1)) rfl ha hx (by omega) (fun p hp H2 ts v R ss hts tr cont => ?_) (fun D H2 hD ss hd => ?_)⟩
    · obtain ⟨t, rfl⟩ := List.length_eq_one_iff.mp hts
      obtain ⟨b, rfl, hb⟩ := tr.pair
      exact ⟨_, rfl, b, _, _, _, rfl, rfl, SqT.of hb, atI_nat (j := 0) rfl, cont [_] _ rfl (Same.refl _)⟩
    rw [show l.filterMap (fun p => some (V.int p.1)) = (l.map (·.1)).map V.int from by rw [List.map_map, ← List.filterMap_eq_map]; rfl] at hd
    refine ⟨D, _, rfl, hd, by rw [List.length_map]; omega, fun H3 s3 => ⟨_, rfl, ite2 (fun e => ?_) (fun e => ?_)⟩⟩
    · have s23 := ss.trans s3
      refine ⟨_, rfl, a, rfl, ⟨_, SqL.of (s23 _ _ ha)⟩, compL (k := 1) (fs := [some (.int n), some (.ref d)]) l dPair (fun p => some (.bl (isSrc ms n p))) rfl (s23 _ _ ha) (hx.same s23) (by omega) (fun p hp H4 ts v R s4 hts tr cont => ?_) (fun D2 H4 hD2 s4 hd2 => ?_)⟩
      · obtain ⟨t, rfl⟩ := List.length_eq_one_iff.mp hts
        obtain ⟨b, rfl, hb⟩ := tr.pair
        exact ⟨_, rfl, b, _, _, _, rfl, rfl, SqT.of hb, atI_nat (j := 1) rfl, _, rfl, b, _, _, _, rfl, rfl, SqT.of hb, atI_nat (j := 0) rfl, _, rfl, _, rfl, d, ms, n, p, rfl, hm.same (s23.trans s4), fun H5 s5 => cont [_] H5 rfl s5⟩
      · rw [bls] at hd2
        refine ⟨D2, _, rfl, SqL.of hd2, ?_⟩
        rw [all_id]
        have := k H4 (s23.trans s4)
        rw [show isLk ms n l = l.all (isSrc ms n) from by unfold isLk; rw [e]; rfl] at this
        exact this
    · have := k H3 (ss.trans s3)
      rw [show isLk ms n l = false from by unfold isLk; rw [Bool.eq_false_iff.mpr e]; rfl] at this
      exact this
theorem ok_isdeal (T : Tx K mg) : FnOk P w K mg base CX0 3 T.f_isdeal T.d_isdeal ["deal", "makers"] spIsDl := by
  refine T.F_isdeal.ok sc_isdeal (fun vs H Q E h => ?_) (fun cdv A outer s H vs Q E hr h => ?_)
  · obtain ⟨v, d, ms, n, rfl, _⟩ := h
    rfl
  · obtain ⟨v, d, ms, ⟨nx, wx, ls⟩, rfl, ht, hm, hc, k⟩ := h
    obtain ⟨a, b, xs, rfl, ha, hb, hx⟩ := ht.deal
    refine ⟨_, (pss_cons (ps_set (i := 2) sc_isdeal.nd rfl (Or.inl rfl) (pe_chain op_le op_le pe_int (pe_ix ix_tup (pv 0) pe_int (fun _ _ => rfl)) (pe_glob (v := V.int (8)) rfl T.m_MOST_DEALS ⟨_, rfl⟩)))
      (pss_one (ps_ret (pe_and (pv 2) (pe_and (pe_call ((ok_islevel T).mono (by decide)) hr rfl T.m_islevel T.F_islevel.kp T.b_islevel .nil pass0 (pa_cons (pe_ix ix_tup (pv 0) pe_int (fun _ _ => rfl)) pa_nil)) (pe_one (pe_callB (call_allL rfl) (by rfl) T.z_all boot_all (pa_cons (pe_compF ["look"] rfl (CompSc.mk (fv := ["deal", "makers"]) (js := [0, 1]) rfl (by decide +kernel) (by decide +kernel) (by decide +kernel) (allc_cons (Or.inl rfl) (allc_cons (Or.inl rfl) allc_nil)) rfl (by decide +kernel)) (pi_list (pe_ix ix_tup (pv 0) pe_int (fun _ _ => rfl))) (fun _ _ _ _ _ => (pg_name (i := 0) (show (["look", "deal", "makers"] : List Str).Nodup by decide +kernel) rfl (Or.inl rfl))) (fun _ _ _ _ _ => pf_nil) (fun _ _ _ _ _ => (pe_call ((ok_islook T).mono (by decide)) hr rfl T.m_islook T.F_islook.kp T.b_islook .nil pass0 (pa_cons (pv 0) (pa_cons (pe_ix (ix_tupK (K := K) rfl) (pv 1) pe_int (fun _ _ => rfl)) (pa_cons (pv 2) pa_nil)))))) pa_nil)))))))), ?_⟩
    dsimp only at ha hb hx
    have hl : xs.length = ls.length := by rw [hx.len, List.length_map]
    have z9 : (20000 : Nat) ≤ sizeLine := by decide
    have hcl : (ls.map cL).sum + wx.length + 1 ≤ 20000 := hc
    have hll := len_le_sum cL_pos (l := ls)
    have tail : ∀ (bb : Bool), isDl ms (nx, wx, ls) = (bb && decide (wx ∈ lvls) && ls.all (isLk ms nx)) → tAndV (tVar 2) (tAndV (tCall spLvl [] E0 (tCons (tOp (rIxT K) (tVar 0) (tC (V.int 1))) tNil))
          (tCB (fun xs H_1 Q => ∃ p bs, xs = [V.ref p] ∧ SqL K H_1 p (List.map V.bl bs) ∧ Q (V.bl (bs.all id)) H_1)
            (tCons (tCompF [Str.ofString "look"].length [0, 1] (iList K (tOp (rIxT K) (tVar 0) (tC (V.int 2)))) (gName 0) tYes
                (tCall spIsLk [] E0 (tCons (tVar 0) (tCons (tOp (rIxT K) (tVar 1) (tC (V.int 0))) (tCons (tVar 2) tNil))))) tNil))) [some (.ref a), some (.ref d), some (.bl bb)] H Q := fun bb hbb => by
      refine ⟨_, rfl, _, rfl, ite2 (fun e => ?_) (fun e => ?_)⟩
      · rw [e, Bool.true_and] at hbb
        refine ⟨_, rfl, a, _, _, _, rfl, rfl, SqT.of ha, atI_nat (j := 1) rfl, wx, rfl, _, rfl, ite2 (fun f => ?_) (fun f => ?_)⟩
        · rw [f, Bool.true_and] at hbb
          refine ⟨_, rfl, a, _, _, _, rfl, rfl, SqT.of ha, atI_nat (j := 2) rfl, b, rfl, ⟨_, SqL.of hb⟩, compL (k := 1) (fs := [some (.ref a), some (.ref d)]) ls dLook (fun p => some (.bl (isLk ms nx p))) rfl hb hx (by omega) (fun p hp H4 ts v R s4 hts tr cont => ?_) (fun D2 H4 hD2 s4 hd2 => ?_)⟩
          · obtain ⟨t, rfl⟩ := List.length_eq_one_iff.mp hts
            have := mem_le_sum (f := cL) hp
            exact ⟨_, rfl, _, rfl, a, _, _, _, rfl, rfl, SqT.of (s4 _ _ ha), atI_nat (j := 0) rfl, _, rfl, v, d, ms, nx, p, rfl, tr, hm.same s4, by omega, fun H5 s5 => cont [_] H5 rfl s5⟩
          · rw [bls] at hd2
            refine ⟨D2, _, rfl, SqL.of hd2, ?_⟩
            rw [all_id]
            have := k H4 s4
            rw [hbb] at this
            exact this
        · have := k H (Same.refl H)
          rw [hbb, Bool.eq_false_iff.mpr f] at this
          exact this
      · have := k H (Same.refl H)
        rw [hbb, Bool.eq_false_iff.mpr e] at this
        exact this
    have ei : isDl ms (nx, wx, ls) = (decide (1 ≤ nx ∧ nx ≤ 8) && decide (wx ∈ lvls) && ls.all (isLk ms nx)) := rfl
    refine ⟨_, rfl, a, _, _, _, rfl, rfl, SqT.of ha, atI_nat (j := 0) rfl, _, _, rfl, rfl, _, rfl, ite2 (fun e => ?_) (fun e => ?_)⟩
    · refine ⟨_, _, rfl, rfl, tail _ ?_⟩
      rw [ei]
      have e1 : 1 ≤ nx := of_decide_eq_true e
      congr 2
      rw [Bool.eq_iff_iff]
      simp [e1]
    · refine tail _ ?_
      rw [ei]
      have e1 : ¬ 1 ≤ nx := fun z => e (decide_eq_true z)
      congr 2
      simp [e1]
theorem ok_ismake (T : Tx K mg) : FnOk P w K mg base CX0 1 T.f_ismake T.d_ismake ["made", "numbers"] spIsMk := by
  refine T.F_ismake.ok sc_ismake (fun vs H Q E h => ?_) (fun cdv A outer s H vs Q E hr h => ?_)
  · obtain ⟨v, d, ms, n, rfl, _⟩ := h
    rfl
  · obtain ⟨v, q, ds, ⟨kx, ns⟩, rfl, ht, hq, hl, k⟩ := h
    obtain ⟨a, b, rfl, ha, hb⟩ := ht.make
    refine ⟨_, (pss_cons (ps_set (i := 2) sc_ismake.nd rfl (Or.inl rfl) (pe_cmpR op_eq (pe_lenSet (K := K) rfl rfl rfl T.z_len rfl T.z_set (pa_cons (pe_ix ix_tup (pv 0) pe_int (fun _ _ => rfl)) pa_nil)) (pe_callB call_len (by rfl) T.z_len boot_len (pa_cons (pe_ix ix_tup (pv 0) pe_int (fun _ _ => rfl)) pa_nil)) (nomark _)))
      (pss_one (ps_ret (pe_and (pv 2) (pe_one (pe_callB (call_allL rfl) (by rfl) T.z_all boot_all (pa_cons (pe_compF ["number"] rfl (CompSc.mk (fv := ["numbers"]) (js := [1]) rfl (by decide +kernel) (by decide +kernel) (by decide +kernel) (allc_cons (Or.inl rfl) allc_nil) rfl (by decide +kernel)) (pi_list (pe_ix ix_tup (pv 0) pe_int (fun _ _ => rfl))) (fun _ _ _ _ _ => (pg_name (i := 0) (show (["number", "numbers"] : List Str).Nodup by decide +kernel) rfl (Or.inl rfl))) (fun _ _ _ _ _ => pf_nil) (fun _ _ _ _ _ => (pe_cmpR (op_in_seqK (K := K) rfl) (pv 0) (pv 1) rfl))) pa_nil))))))), ?_⟩
    dsimp only at *
    have z9 : (4000 : Nat) ≤ sizeLine := by decide
    refine ⟨_, rfl, a, _, _, _, rfl, rfl, SqT.of ha, atI_nat (j := 1) rfl, b, ns, rfl, SqL.of hb, hl, _, rfl, a, _, _, _, rfl, rfl, SqT.of ha, atI_nat (j := 1) rfl, _, _, rfl, .inl ⟨_, SqL.of hb, rfl⟩, rfl, ?_⟩
    have ei : isMk ds (kx, ns) = (decide ((dd ns).length = ns.length) && ns.all fun n => decide (n ∈ ds.map (·.1))) := rfl
    have ee : decide (V.int ((dd ns).length : Int) = V.int ((ns.map V.int).length : Int)) = decide ((dd ns).length = ns.length) := by
      rw [List.length_map, Bool.eq_iff_iff]
      simp [Int.ofNat_inj]
    rw [ee]
    refine ⟨_, rfl, _, rfl, ite2 (fun e => ?_) (fun e => ?_)⟩
    · refine ⟨_, rfl, a, _, _, _, rfl, rfl, SqT.of ha, atI_nat (j := 1) rfl, b, rfl, ⟨_, SqL.of hb⟩, compL (k := 1) (fs := [some (.ref q)]) ns PyData.int (fun n => some (.bl (decide (n ∈ ds.map (·.1))))) rfl hb (Trs.ofInts ns) (by omega) (fun p hp H4 ts v R s4 hts tr cont => ?_) (fun D2 H4 hD2 s4 hd2 => ?_)⟩
      · obtain ⟨t, rfl⟩ := List.length_eq_one_iff.mp hts
        cases tr
        refine ⟨_, rfl, _, rfl, q, _, rfl, .inl (SqL.of (s4 _ _ hq)), rfl, flat_ints _, ?_⟩
        have := cont [some (.int p)] _ rfl (Same.refl _)
        show R (some (V.bl (inV (.int p) ((ds.map (·.1)).map V.int)))) _ _
        rw [inV_ints]
        simpa using this
      · rw [bls] at hd2
        refine ⟨D2, _, rfl, SqL.of hd2, ?_⟩
        rw [all_id]
        have := k H4 s4
        rw [ei, e, Bool.true_and] at this
        exact this
    · have := k H (Same.refl H)
      rw [ei, Bool.eq_false_iff.mpr e] at this
      exact this
theorem ok_ishistory (T : Tx K mg) : FnOk P w K mg base CX0 4 T.f_ishistory T.d_ishistory ["past"] spIsPs := by
  refine T.F_ishistory.ok sc_ishistory (fun vs H Q E h => ?_) (fun cdv A outer s H vs Q E hr h => ?_)
  · obtain ⟨v, p, rfl, _⟩ := h
    rfl
  · obtain ⟨v, ⟨dx, mx⟩, rfl, ht, hc2, h4, k⟩ := h
    obtain ⟨a, b, c, xs, ys, rfl, ha, hb, hc, hx, hy⟩ := ht.past
    have hu := hu_of hr
    refine ⟨_, (pss_cons (ps_set (i := 1) sc_ishistory.nd rfl (Or.inr rfl) (pe_compF ["deal"] rfl (CompSc.mk (fv := []) (js := []) rfl (by decide +kernel) (by decide +kernel) (by decide +kernel) allc_nil rfl (by decide +kernel)) (pi_list (pe_ix ix_tup (pv 0) pe_int (fun _ _ => rfl))) (fun _ _ _ _ _ => (pg_name (i := 0) (show (["deal"] : List Str).Nodup by decide +kernel) rfl (Or.inl rfl))) (fun _ _ _ _ _ => pf_nil) (fun _ _ _ _ _ => (pe_ix (ix_tupK (K := K) rfl) (pv 0) pe_int (fun _ _ => rfl)))))
      (pss_cons (ps_if (PW.pt (pw_or (pt_not (pt_val (pe_call ((ok_rise T).mono (by decide)) hr rfl T.m_rise T.F_rise.kp T.b_rise .nil pass0 (pa_cons (pv 1) pa_nil)))) (pw_or1 (pt_not (pt_val (pe_call ((ok_rise T).mono (by decide)) hr rfl T.m_rise T.F_rise.kp T.b_rise .nil pass0 (pa_cons (pe_compF ["made"] rfl (CompSc.mk (fv := []) (js := []) rfl (by decide +kernel) (by decide +kernel) (by decide +kernel) allc_nil rfl (by decide +kernel)) (pi_list (pe_ix ix_tup (pv 0) pe_int (fun _ _ => rfl))) (fun _ _ _ _ _ => (pg_name (i := 0) (show (["made"] : List Str).Nodup by decide +kernel) rfl (Or.inl rfl))) (fun _ _ _ _ _ => pf_nil) (fun _ _ _ _ _ => (pe_ix (ix_tupK (K := K) rfl) (pv 0) pe_int (fun _ _ => rfl)))) pa_nil)))))))
      (pss_one (ps_ret pe_bl))
      pss_nil)
      (pss_cons (ps_set (i := 2) sc_ishistory.nd rfl (Or.inr rfl) (pe_callTy (call_dictP (K := K) rfl rfl) (by rfl) T.z_dict boot_dict (pa_cons (pe_ix ix_tup (pv 0) pe_int (fun _ _ => rfl)) pa_nil)))
      (pss_one (ps_ret (pe_and (pe_callB (call_allL rfl) (by rfl) T.z_all boot_all (pa_cons (pe_compF ["deal"] rfl (CompSc.mk (fv := ["makers"]) (js := [2]) rfl (by decide +kernel) (by decide +kernel) (by decide +kernel) (allc_cons (Or.inl rfl) allc_nil) rfl (by decide +kernel)) (pi_list (pe_ix ix_tup (pv 0) pe_int (fun _ _ => rfl))) (fun _ _ _ _ _ => (pg_name (i := 0) (show (["deal", "makers"] : List Str).Nodup by decide +kernel) rfl (Or.inl rfl))) (fun _ _ _ _ _ => pf_nil) (fun _ _ _ _ _ => (pe_call ((ok_isdeal T).mono (by decide)) hr rfl T.m_isdeal T.F_isdeal.kp T.b_isdeal .nil pass0 (pa_cons (pv 0) (pa_cons (pv 1) pa_nil))))) pa_nil)) (pe_one (pe_callB (call_allL rfl) (by rfl) T.z_all boot_all (pa_cons (pe_compF ["made"] rfl (CompSc.mk (fv := ["numbers"]) (js := [1]) rfl (by decide +kernel) (by decide +kernel) (by decide +kernel) (allc_cons (Or.inl rfl) allc_nil) rfl (by decide +kernel)) (pi_list (pe_ix ix_tup (pv 0) pe_int (fun _ _ => rfl))) (fun _ _ _ _ _ => (pg_name (i := 0) (show (["made", "numbers"] : List Str).Nodup by decide +kernel) rfl (Or.inl rfl))) (fun _ _ _ _ _ => pf_nil) (fun _ _ _ _ _ => (pe_call ((ok_ismake T).mono (by decide)) hr rfl T.m_ismake T.F_ismake.kp T.b_ismake .nil pass0 (pa_cons (pv 0) (pa_cons (pv 1) pa_nil))))) pa_nil))))))))), ?_⟩
    dsimp only at *
    have z9 : (20000 : Nat) ≤ sizeLine := by decide
    have hcp : (dx.map cD).sum + (mx.map cM).sum ≤ 20000 := hc2
    have hll := len_le_sum cD_pos (l := dx)
    have hlm := len_le_sum cM_pos (l := mx)
    have ei : isPs (dx, mx) = (riseB (dx.map (·.1)) && riseB (mx.map (·.1)) && dx.all (isDl mx) && mx.all (isMk dx)) := rfl
    refine ⟨_, rfl, a, _, _, _, rfl, rfl, SqT.of ha, atI_nat (j := 0) rfl, b, rfl, ⟨_, SqL.of hb⟩, compL (k := 1) (fs := []) dx dDeal (fun d => some (.int d.1)) rfl hb hx (by omega) (fun p hp H2 ts v R ss hts tr cont => ?_) (fun D H2 hD s2 hd => ?_)⟩
    · obtain ⟨t, rfl⟩ := List.length_eq_one_iff.mp hts
      obtain ⟨p1, p2, ps, rfl, hp1, _, _⟩ := tr.deal
      exact ⟨_, rfl, p1, _, _, _, rfl, rfl, SqT.of hp1, atI_nat (j := 0) rfl, cont [_] _ rfl (Same.refl _)⟩
    rw [show dx.filterMap (fun p => some (V.int p.1)) = (dx.map (·.1)).map V.int from by rw [List.map_map, ← List.filterMap_eq_map]; rfl] at hd
    have fin1 : ∀ H3, Same H H3 → (riseB (dx.map (·.1)) && riseB (mx.map (·.1))) = false → Q (.bl false) H3 := fun H3 s3 e => by
      have := k H3 s3
      rw [ei, e] at this
      exact this
    refine ⟨_, rfl, D, _, rfl, hd, by rw [List.length_map]; omega, fun H3 s3 => ⟨_, rfl, ite2 (fun e => ?_) (fun e => ?_)⟩⟩
    · have e' : riseB (dx.map (·.1)) = false := by simpa using e
      exact fin1 H3 (s2.trans s3) (by rw [e']; rfl)
    have e1 : riseB (dx.map (·.1)) = true := by simpa using e
    have s23 := s2.trans s3
    refine ⟨_, rfl, a, _, _, _, rfl, rfl, SqT.of (s23 _ _ ha), atI_nat (j := 1) rfl, c, rfl, ⟨_, SqL.of (s23 _ _ hc)⟩, compL (k := 1) (fs := []) mx dMake (fun d => some (.int d.1)) rfl (s23 _ _ hc) (hy.same s23) (by omega) (fun p hp H4 ts v R ss hts tr cont => ?_) (fun D2 H4 hD2 s4 hd2 => ?_)⟩
    · obtain ⟨t, rfl⟩ := List.length_eq_one_iff.mp hts
      obtain ⟨p1, p2, rfl, hp1, _⟩ := tr.make
      exact ⟨_, rfl, p1, _, _, _, rfl, rfl, SqT.of hp1, atI_nat (j := 0) rfl, cont [_] _ rfl (Same.refl _)⟩
    rw [show mx.filterMap (fun p => some (V.int p.1)) = (mx.map (·.1)).map V.int from by rw [List.map_map, ← List.filterMap_eq_map]; rfl] at hd2
    refine ⟨D2, _, rfl, hd2, by rw [List.length_map]; omega, fun H5 s5 => ⟨_, rfl, ite2 (fun f => ?_) (fun f => ?_)⟩⟩
    · have e' : riseB (mx.map (·.1)) = false := by simpa using f
      exact fin1 H5 (s23.trans (s4.trans s5)) (by rw [e']; exact Bool.and_false _)
    have e2 : riseB (mx.map (·.1)) = true := by simpa using f
    have s45 := s23.trans (s4.trans s5)
    obtain ⟨ps, pr1, pr2, pr3⟩ := mk_prs (K := K) (hy.same s45)
    have hpl : ps.length = mx.length := by
      have := congrArg List.length pr2
      rw [List.length_map, List.length_map] at this
      exact this
    have hnd : (ps.map (·.1)).Nodup := by
      rw [pr2]
      have := rise_pw e2
      rw [List.pairwise_map] at this
      unfold List.Nodup
      rw [List.pairwise_map]
      exact this.imp fun h z => absurd (Sum.inl.inj z) (Int.ne_of_lt h)
    refine ⟨_, rfl, a, _, _, _, rfl, rfl, SqT.of (s45 _ _ ha), atI_nat (j := 1) rfl, c, ys, ps, rfl, s45 _ _ hc, pr1, by omega, fun dd hdd => ?_⟩
    rw [put_all ps [] (by simpa using hnd)]
    have s6 := s45.trans (Same.upd (o := HO.dK ([] ++ ps)) hdd)
    have hM : Mks (upd H5 dd (.dK ([] ++ ps))) dd mx := ⟨ps, upd_same, fun k => (pr3 k).imp (fun ⟨l, q1, q2⟩ => ⟨l, q1, (Same.upd (o := HO.dK ([] ++ ps)) hdd) _ _ q2⟩) id⟩
    have hd6 : upd H5 dd (.dK ([] ++ ps)) D = some (.lst ((dx.map (·.1)).map V.int)) := (Same.upd (o := HO.dK ([] ++ ps)) hdd) _ _ ((s3.trans (s4.trans s5)) _ _ hd)
    generalize upd H5 dd (.dK ([] ++ ps)) = H6 at *
    have ei2 : isPs (dx, mx) = (dx.all (isDl mx) && mx.all (isMk dx)) := by rw [ei, e1, e2]; rfl
    refine ⟨_, rfl, a, _, _, _, rfl, rfl, SqT.of (s6 _ _ ha), atI_nat (j := 0) rfl, b, rfl, ⟨_, SqL.of (s6 _ _ hb)⟩, compL (k := 1) (fs := [some (.ref dd)]) dx dDeal (fun d => some (.bl (isDl mx d))) rfl (s6 _ _ hb) (hx.same s6) (by omega) (fun p hp H7 ts v R ss hts tr cont => ?_) (fun D3 H7 hD3 s7 hd3 => ?_)⟩
    · obtain ⟨t, rfl⟩ := List.length_eq_one_iff.mp hts
      have := mem_le_sum (f := cD) hp
      exact ⟨_, rfl, _, rfl, v, dd, mx, p, rfl, tr, hM.same ss, by omega, fun H8 s8 => cont [_] H8 rfl s8⟩
    rw [bls] at hd3
    refine ⟨D3, _, rfl, SqL.of hd3, _, rfl, ?_⟩
    rw [all_id]
    have s67 := s6.trans s7
    refine ite2 (fun g => ?_) (fun g => ?_)
    · rw [g, Bool.true_and] at ei2
      refine ⟨_, rfl, a, _, _, _, rfl, rfl, SqT.of (s67 _ _ ha), atI_nat (j := 1) rfl, c, rfl, ⟨_, SqL.of (s67 _ _ hc)⟩, compL (k := 1) (fs := [some (.ref D)]) mx dMake (fun d => some (.bl (isMk dx d))) rfl (s67 _ _ hc) (hy.same s67) (by omega) (fun p hp H8 ts v R ss hts tr cont => ?_) (fun D4 H8 hD4 s8 hd4 => ?_)⟩
      · obtain ⟨t, rfl⟩ := List.length_eq_one_iff.mp hts
        exact ⟨_, rfl, _, rfl, v, D, dx, p, rfl, tr, ss _ _ (s7 _ _ hd6), h4 p hp, fun H9 s9 => cont [_] H9 rfl s9⟩
      · rw [bls] at hd4
        refine ⟨D4, _, rfl, SqL.of hd4, ?_⟩
        rw [all_id]
        have := k H8 (s67.trans s8)
        rw [ei2] at this
        exact this
    · have := k H7 s67
      rw [ei2, Bool.eq_false_iff.mpr g] at this
      exact this
--@STAGE
section
open Builtin.Str PySem.StrLaws
theorem at_pair {x : Str} {c d i : Nat} : At x ⟨#[c, d]⟩ x.length i ↔ x.cps.toList[i]? = some c ∧ x.cps.toList[i + 1]? = some d := by
  constructor
  · rintro ⟨_, h⟩
    rw [subAt_eq] at h
    have e : (x.cps.toList.drop i).take 2 = [c, d] := eq_of_beq h
    have e0 := congrArg (fun l : List Nat => l[0]?) e
    have e1 := congrArg (fun l : List Nat => l[1]?) e
    rw [List.getElem?_take, List.getElem?_drop] at e0 e1
    exact ⟨by simpa using e0, by simpa using e1⟩
  · rintro ⟨h1, h2⟩
    obtain ⟨l1, e1⟩ := List.getElem?_eq_some_iff.mp h1
    obtain ⟨l2, e2⟩ := List.getElem?_eq_some_iff.mp h2
    refine ⟨?_, ?_⟩
    · show i + 2 ≤ x.cps.size
      rw [Array.length_toList] at l2
      omega
    · rw [subAt_eq]
      show ((x.cps.toList.drop i).take 2 == [c, d]) = true
      rw [List.drop_eq_getElem_cons l1, List.drop_eq_getElem_cons l2, e1, e2]
      simp
theorem part_two {w t : Str} {c d : Nat} (h : c ∉ w.cps.toList) : partV (w ++ ⟨#[c, d]⟩ ++ t) ⟨#[c, d]⟩ = [.str w, .str ⟨#[c, d]⟩, .str t] := by
  have ec : (w ++ ⟨#[c, d]⟩ ++ t).cps.toList = w.cps.toList ++ c :: d :: t.cps.toList := by
    rw [app_codes, app_codes]
    simp
  have el : (w ++ ⟨#[c, d]⟩ ++ t).length = w.cps.toList.length + (2 + t.cps.toList.length) := by
    rw [len_codes, ec, List.length_append, List.length_cons, List.length_cons]
    omega
  generalize w ++ ⟨#[c, d]⟩ ++ t = x at ec el
  have hat : At x ⟨#[c, d]⟩ x.length w.cps.toList.length := at_pair.mpr ⟨by rw [ec, List.getElem?_append_right (Nat.le_refl _), Nat.sub_self]; rfl, by rw [ec, List.getElem?_append_right (by omega), show w.cps.toList.length + 1 - w.cps.toList.length = 1 by omega]; rfl⟩
  unfold partV
  rcases occ_head x ⟨#[c, d]⟩ 1 (Nat.le_refl 1) with ⟨_, hn⟩ | ⟨i, r, eo, ha, hn⟩
  · exact absurd hat (hn _)
  · have hi : i = w.cps.toList.length := by
      rcases Nat.lt_trichotomy i w.cps.toList.length with z | z | z
      · have e := (at_pair.mp ha).1
        rw [ec, List.getElem?_append_left z] at e
        exact absurd (List.mem_of_getElem? e) h
      · exact z
      · exact absurd hat (hn _ z)
    subst hi
    rw [eo]
    have e1 : strSub x 0 w.cps.toList.length = w := ext_toList (by rw [strSub_toList, ec]; simp)
    have e2 : strSub x (w.cps.toList.length + (⟨#[c, d]⟩ : Str).length) x.length = t := ext_toList (by
      rw [strSub_toList, ec, el]
      show ((w.cps.toList ++ c :: d :: t.cps.toList).drop (w.cps.toList.length + 2)).take _ = _
      rw [List.drop_append, List.drop_eq_nil_of_le (by omega), List.nil_append, show w.cps.toList.length + 2 - w.cps.toList.length = 2 by omega]
      show (t.cps.toList).take _ = _
      exact List.take_of_length_le (by show _ ≤ w.cps.toList.length + (2 + t.cps.toList.length) - (w.cps.toList.length + 2); omega))
    show [V.str (strSub x 0 w.cps.toList.length), _, V.str (strSub x (w.cps.toList.length + (⟨#[c, d]⟩ : Str).length) x.length)] = _
    rw [e1, e2]
theorem part_no {w : Str} {c d : Nat} (h : c ∉ w.cps.toList) : partV (w ++ ⟨#[c]⟩) ⟨#[c, d]⟩ = [.str (w ++ ⟨#[c]⟩), .str Str.empty, .str Str.empty] := by
  have ec : (w ++ ⟨#[c]⟩).cps.toList = w.cps.toList ++ [c] := by rw [app_codes]
  unfold partV
  rcases occ_head (w ++ ⟨#[c]⟩) ⟨#[c, d]⟩ 1 (Nat.le_refl 1) with ⟨eo, _⟩ | ⟨i, r, eo, ha, _⟩
  · rw [eo]
  · obtain ⟨a1, a2⟩ := at_pair.mp ha
    rw [ec] at a1 a2
    rcases Nat.lt_or_ge i w.cps.toList.length with z | z
    · rw [List.getElem?_append_left z] at a1
      exact absurd (List.mem_of_getElem? a1) h
    · rw [List.getElem?_append_right (by omega)] at a2
      rw [List.getElem?_eq_none (by rw [List.length_singleton]; omega)] at a2
      cases a2
theorem rstrip_no {x : Str} {c : Nat} (h : c ∉ x.cps.toList) : Txt.rstripChars x ⟨#[c]⟩ = x := by
  unfold Txt.rstripChars Txt.stripBy
  have e : (x.cps.toList.drop 0).reverse.takeWhile (⟨#[c]⟩ : Str).cps.contains = [] := by
    cases q : (x.cps.toList.drop 0).reverse with
    | nil => rfl
    | cons a r =>
      have ha : a ∈ x.cps.toList := by
        have : a ∈ (x.cps.toList.drop 0).reverse := by rw [q]; exact List.mem_cons_self
        simpa using this
      have hc : ¬ (⟨#[c]⟩ : Str).cps.contains a = true := fun z => by
        have : a = c := by simpa using z
        exact h (this ▸ ha)
      rw [List.takeWhile_cons, if_neg hc]
  have e2 : stripSame (⟨#[c]⟩ : Str).cps.contains false true x = true := by
    show ((0 : Nat) == 0 && (x.length - ((x.cps.toList.drop 0).reverse.takeWhile (⟨#[c]⟩ : Str).cps.contains).length == x.length)) = true
    rw [e]
    simp
  rw [if_pos e2]
theorem rstrip_one {x : Str} {c : Nat} (h : c ∉ x.cps.toList) : Txt.rstripChars (x ++ ⟨#[c]⟩) ⟨#[c]⟩ = x := by
  unfold Txt.rstripChars Txt.stripBy
  have ec : (x ++ ⟨#[c]⟩).cps.toList = x.cps.toList ++ [c] := by rw [app_codes]
  have e : (((x ++ ⟨#[c]⟩ : Str).cps.toList.drop 0).reverse.takeWhile (⟨#[c]⟩ : Str).cps.contains) = [c] := by
    rw [ec, List.drop_zero, List.reverse_append, List.reverse_singleton, List.singleton_append, List.takeWhile_cons, if_pos (by simp)]
    congr 1
    cases q : x.cps.toList.reverse with
    | nil => rfl
    | cons a r =>
      have ha : a ∈ x.cps.toList := by
        have : a ∈ x.cps.toList.reverse := by rw [q]; exact List.mem_cons_self
        simpa using this
      have hc : ¬ (⟨#[c]⟩ : Str).cps.contains a = true := fun z => by
        have : a = c := by simpa using z
        exact h (this ▸ ha)
      rw [List.takeWhile_cons, if_neg hc]
  have el : (x ++ ⟨#[c]⟩ : Str).length = x.length + 1 := by rw [strLen_append]; rfl
  have e2 : stripSame (⟨#[c]⟩ : Str).cps.contains false true (x ++ ⟨#[c]⟩) = false := by
    show ((0 : Nat) == 0 && ((x ++ ⟨#[c]⟩ : Str).length - (((x ++ ⟨#[c]⟩ : Str).cps.toList.drop 0).reverse.takeWhile (⟨#[c]⟩ : Str).cps.contains).length == (x ++ ⟨#[c]⟩ : Str).length)) = false
    rw [e, el]
    simp
  rw [if_neg (by rw [e2]; decide)]
  show strSub (x ++ ⟨#[c]⟩) 0 ((x ++ ⟨#[c]⟩ : Str).length - (((x ++ ⟨#[c]⟩ : Str).cps.toList.drop 0).reverse.takeWhile (⟨#[c]⟩ : Str).cps.contains).length) = x
  rw [e, el]
  refine ext_toList ?_
  rw [strSub_toList, ec, List.drop_zero]
  show (x.cps.toList ++ [c]).take (x.length + 1 - 1 - 0) = _
  rw [Nat.add_sub_cancel, Nat.sub_zero, len_codes, List.take_left']
  rfl
end
theorem num_chars {n : Int} (h : Bd n) : ∀ c ∈ (num n).cps.toList, c = 45 ∨ dig c = true := by
  intro c hc
  by_cases hd : dig c = true
  · exact .inr hd
  refine .inl ?_
  have nd : dig c = false := Bool.eq_false_iff.mpr hd
  obtain ⟨t1, _, _, _⟩ := num_text h.1 h.2
  unfold num at hc
  by_cases h0 : (Str.ofString (toString n)).cps.toList = [48]
  · rw [h0] at hc
    have : c = 48 := by simpa using hc
    subst this
    exact absurd rfl hd
  by_cases hf : c ∈ figsL (Str.ofString (toString n)).cps.toList
  · rw [num_bad hf nd h0] at t1
    cases t1
  · cases q : (Str.ofString (toString n)).cps.toList with
    | nil => rw [q] at hc; cases hc
    | cons a r =>
      rw [q] at hc hf
      by_cases ha : a = 45
      · have e : figsL (a :: r) = r := if_pos ha
        rw [e] at hf
        rcases List.mem_cons.mp hc with z | z
        · omega
        · exact absurd z hf
      · have e : figsL (a :: r) = a :: r := if_neg ha
        rw [e] at hf
        exact absurd hc hf
theorem dig_le {c : Nat} (h : dig c = true) : 48 ≤ c ∧ c ≤ 57 := by
  unfold dig at h
  simpa using h
theorem num_no {n : Int} (h : Bd n) {c : Nat} (h1 : c ≠ 45) (h2 : c < 48 ∨ 57 < c) : c ∉ (num n).cps.toList := fun hc => by
  rcases num_chars h c hc with z | z
  · exact h1 z
  · have := dig_le z
    omega
theorem src_no {n : Int} (h : Bd n) {c : Nat} (h1 : c ≠ 45) (h2 : c < 48 ∨ 57 < c) (h3 : c ≠ 63) : c ∉ (srcT n).cps.toList := by
  unfold srcT
  split
  · intro hc
    have : c = 63 := by simpa using hc
    exact h3 this
  · exact num_no h h1 h2
theorem pair_no {p : Pr} (hb : Bd p.1 ∧ Bd p.2) {c : Nat} (h1 : c ≠ 45) (h2 : c < 48 ∨ 57 < c) (h3 : c ≠ 63) (h4 : c ≠ 60) : c ∉ (shPair p).cps.toList := by
  unfold shPair
  rw [app_codes, app_codes, List.mem_append, List.mem_append]
  rintro ((z | z) | z)
  · exact num_no hb.1 h1 h2 z
  · exact h4 (by simpa using z)
  · exact src_no hb.2 h1 h2 h3 z
theorem glue_mem {c x : Nat} : ∀ {ps : List (List Nat)}, x ∈ glue c ps → x = c ∨ ∃ p ∈ ps, x ∈ p
  | [], h => by cases h
  | [p], h => .inr ⟨p, List.mem_cons_self, h⟩
  | p :: q :: r, h => by
    have h' : x ∈ p ++ c :: glue c (q :: r) := h
    rcases List.mem_append.mp h' with z | z
    · exact .inr ⟨p, List.mem_cons_self, z⟩
    · rcases List.mem_cons.mp z with z | z
      · exact .inl z
      · rcases glue_mem z with y | ⟨u, hu, y⟩
        · exact .inl y
        · exact .inr ⟨u, List.mem_cons_of_mem _ hu, y⟩
theorem join_no {c d : Nat} {ls : List Str} (h1 : c ≠ d) (h2 : ∀ x ∈ ls, c ∉ x.cps.toList) : c ∉ (Str.join ⟨#[d]⟩ ls).cps.toList := by
  rw [join_codes]
  intro z
  rcases glue_mem z with y | ⟨u, hu, y⟩
  · exact h1 y
  · obtain ⟨x, hx, rfl⟩ := List.mem_map.mp hu
    exact h2 x hx y
theorem look_no {l : Lk} (hb : BdL l) {c : Nat} (h1 : c ≠ 45) (h2 : c < 48 ∨ 57 < c) (h3 : c ≠ 63) (h4 : c ≠ 60) (h5 : c ≠ 32) : c ∉ (shLook l).cps.toList := by
  unfold shLook
  split
  · intro z
    exact h1 (by simpa using z)
  · refine join_no h5 fun x hx => ?_
    obtain ⟨p, hp, rfl⟩ := List.mem_map.mp hx
    exact pair_no (hb p hp) h1 h2 h3 h4
theorem semi_no {c : Nat} {ls : List Str} (h1 : c ≠ 59) (h3 : c ≠ 32) (h2 : ∀ x ∈ ls, c ∉ x.cps.toList) : c ∉ (Str.join semi ls).cps.toList := by
  induction ls with
  | nil => intro z; cases z
  | cons a r ih =>
    cases r with
    | nil => exact h2 a List.mem_cons_self
    | cons b q =>
      show c ∉ (a ++ semi ++ Str.join semi (b :: q)).cps.toList
      rw [app_codes, app_codes, List.mem_append, List.mem_append]
      rintro ((z | z) | z)
      · exact h2 a List.mem_cons_self z
      · have : c = 59 ∨ c = 32 := by simpa [semi] using z
        omega
      · exact ih (fun x hx => h2 x (List.mem_cons_of_mem _ hx)) z
theorem word_no {x : Str} (h : x ∈ lvls) {c : Nat} (h1 : c < 97) : c ∉ x.cps.toList := by
  have key : ∀ y ∈ lvls, ∀ d ∈ y.cps.toList, 97 ≤ d := by decide +kernel
  intro z
  have := key x h c z
  omega
theorem hdD_no {d : Dl} (hb : BdD d) (hw : d.2.1 ∈ lvls) {c : Nat} (h1 : c < 45) (h2 : c ≠ 32) : c ∉ (hdD d).cps.toList := by
  unfold hdD
  rw [app_codes, app_codes, app_codes, List.mem_append, List.mem_append, List.mem_append]
  rintro (((z | z) | z) | z)
  · exact num_no hb.1 (by omega) (by omega) z
  · exact h2 (by simpa using z)
  · exact word_no hw (by omega) z
  · have : c = 58 := by simpa using z
    omega
theorem deal_no10 {d : Dl} (hb : BdD d) (hw : d.2.1 ∈ lvls) : 10 ∉ (shDeal d).cps.toList := by
  unfold shDeal
  split
  · exact hdD_no hb hw (by decide) (by decide)
  · rw [app_codes, app_codes, List.mem_append, List.mem_append]
    rintro ((z | z) | z)
    · exact hdD_no hb hw (by decide) (by decide) z
    · have : (10 : Nat) = 32 := by simpa using z
      omega
    · refine semi_no (by decide) (by decide) (fun x hx => ?_) z
      obtain ⟨l, hl, rfl⟩ := List.mem_map.mp hx
      exact look_no (hb.2 l hl) (by decide) (by decide) (by decide) (by decide) (by decide)
theorem glue_blank : ∀ (ns : List Str), ns ≠ [] → Str.join ⟨#[]⟩ (ns.map fun n => (⟨#[32]⟩ : Str) ++ n) = ⟨#[32]⟩ ++ Str.join ⟨#[32]⟩ ns
  | [], h => (h rfl).elim
  | [a], _ => rfl
  | a :: b :: r, _ => by
    have ih := glue_blank (b :: r) (by simp)
    show (⟨#[32]⟩ : Str) ++ a ++ ⟨#[]⟩ ++ Str.join ⟨#[]⟩ ((b :: r).map fun n => (⟨#[32]⟩ : Str) ++ n) = ⟨#[32]⟩ ++ (a ++ ⟨#[32]⟩ ++ Str.join ⟨#[32]⟩ (b :: r))
    rw [ih]
    refine ext_toList ?_
    simp only [app_codes]
    simp
theorem make_is {m : Mkr} (h : m.2 ≠ []) : shMake m = mkW ++ num m.1 ++ ⟨#[58, 32]⟩ ++ Str.join ⟨#[32]⟩ (m.2.map num) := by
  unfold shMake
  have e := glue_blank (m.2.map num) (by simpa using h)
  rw [List.map_map] at e
  have e' : Str.join ⟨#[]⟩ (m.2.map fun n => (⟨#[32]⟩ : Str) ++ num n) = ⟨#[32]⟩ ++ Str.join ⟨#[32]⟩ (m.2.map num) := e
  rw [e']
  refine ext_toList ?_
  simp only [app_codes]
  simp
theorem deal_is {d : Dl} (h : d.2.2 ≠ []) : shDeal d = num d.1 ++ ⟨#[32]⟩ ++ d.2.1 ++ ⟨#[58, 32]⟩ ++ Str.join semi (d.2.2.map shLook) := by
  unfold shDeal hdD
  rw [if_neg h]
  refine ext_toList ?_
  simp only [app_codes]
  simp
theorem make_no10 {m : Mkr} (hb : BdM m) (h : m.2 ≠ []) : 10 ∉ (shMake m).cps.toList := by
  rw [make_is h, app_codes, app_codes, app_codes, List.mem_append, List.mem_append, List.mem_append]
  rintro (((z | z) | z) | z)
  · simp [mkW] at z
  · exact num_no hb.1 (by decide) (by decide) z
  · simp at z
  · refine join_no (by decide) (fun x hx => ?_) z
    obtain ⟨n, hn, rfl⟩ := List.mem_map.mp hx
    exact num_no (hb.2 n hn) (by decide) (by decide)
theorem num_first {n : Int} (h : Bd n) : ∃ c r, (num n).cps.toList = c :: r ∧ c ≠ 109 := by
  cases q : (num n).cps.toList with
  | nil =>
    obtain ⟨t1, _, _, _⟩ := num_text h.1 h.2
    unfold num at q
    rw [q] at t1
    cases t1
  | cons c r =>
    refine ⟨c, r, rfl, fun z => ?_⟩
    have := num_no h (c := 109) (by decide) (by decide)
    rw [q, z] at this
    exact this List.mem_cons_self
theorem starts_not {x : Str} {c : Nat} {r : List Nat} (e : x.cps.toList = c :: r) (h : c ≠ 109) : (decide (0 + ("make" : Str).length ≤ x.length) && Builtin.Str.subAt x "make" 0) = false := by
  rw [Bool.and_eq_false_iff]
  refine .inr ?_
  rw [PySem.StrLaws.subAt_eq, e]
  rw [Bool.eq_false_iff]
  intro z
  have z' := eq_of_beq z
  have l4 : ("make" : Str).length = 4 := by decide +kernel
  rw [l4, List.drop_zero, show ("make" : Str).cps.toList = [109, 97, 107, 101] from by decide +kernel] at z'
  have := congrArg (fun l : List Nat => l[0]?) z'
  exact h (by simpa using this)
theorem starts_yes {x : Str} {r : List Nat} (e : x.cps.toList = 109 :: 97 :: 107 :: 101 :: r) : (decide (0 + ("make" : Str).length ≤ x.length) && Builtin.Str.subAt x "make" 0) = true := by
  have l4 : ("make" : Str).length = 4 := by decide +kernel
  rw [Bool.and_eq_true]
  refine ⟨decide_eq_true ?_, ?_⟩
  · rw [l4, len_codes, e]
    simp
  · rw [PySem.StrLaws.subAt_eq, e, l4, show ("make" : Str).cps.toList = [109, 97, 107, 101] from by decide +kernel]
    simp
--@STAGE
noncomputable def spRdPair : Sp := fun vs H Q _ => ∃ p : Pr, vs = [.str (shPair p)] ∧ Bd p.1 ∧ Bd p.2 ∧ ∀ v H', Same H H' → Tr (off H H') v (dPair p) → Q v H'
noncomputable def spRdLook : Sp := fun vs H Q _ => ∃ l : Lk, vs = [.str (shLook l)] ∧ BdL l ∧ (shLook l).length ≤ 10000 ∧ ∀ v H', Same H H' → Tr (off H H') v (dLook l) → Q v H'
noncomputable def spRdDeal : Sp := fun vs H Q _ => ∃ d : Dl, vs = [.str (shDeal d)] ∧ BdD d ∧ d.2.1 ∈ lvls ∧ (shDeal d).length ≤ 10000 ∧ ∀ v H', Same H H' → Tr (off H H') v (dDeal d) → Q v H'
noncomputable def spRdMake : Sp := fun vs H Q _ => ∃ m : Mkr, vs = [.str (shMake m)] ∧ BdM m ∧ m.2 ≠ [] ∧ (shMake m).length ≤ 10000 ∧ ∀ v H', Same H H' → Tr (off H H') v (dMake m) → Q v H'
noncomputable def RdOk (p : Ps) : Prop := BdP p ∧ (∀ d ∈ p.1, d.2.1 ∈ lvls) ∧ (∀ m ∈ p.2, m.2 ≠ []) ∧ (shPast p).length ≤ 10000
noncomputable def Two (H : Hp) (v : V) : Prop := ∃ f b c : Addr, v = .ref f ∧ H f = some (.tup [.ref b, .ref c]) ∧ b ≠ c
noncomputable def spRdRows : Sp := fun vs H Q _ => ∃ p : Ps, vs = [.str (shPast p)] ∧ RdOk p ∧ ∀ v H', Same H H' → Tr (off H H') v (dPast p) → Two H' v → Q v H'
noncomputable def spRdHist : Sp := fun vs H Q _ => ∃ p : Ps, vs = [.str (shPast p)] ∧ RdOk p ∧ cP p ≤ 20000 ∧ (∀ m ∈ p.2, m.2.length < 4000) ∧ isPs p = true ∧ ∀ v H', Same H H' → Tr (off H H') v (dPast p) → Two H' v → Q v H'
theorem num_facts {n : Int} (h : Bd n) : (num n).length ≤ 1000 ∧ (∀ c ∈ (num n).cps.toList, c < 16 ^ 8) ∧ isNumL (num n).cps.toList = true ∧ numVal (num n).cps.toList = n := by
  obtain ⟨t1, t2, t3, _⟩ := num_text h.1 h.2
  refine ⟨Nat.le_trans t3 (by decide), fun c hc => ?_, t1, t2⟩
  have : c ≤ 57 := by
    rcases num_chars h c hc with z | z
    · omega
    · exact (dig_le z).2
  exact Nat.lt_of_le_of_lt this (by decide)
theorem no_num {n : Int} (h : Bd n) {P : Prop} (z : isNumL (num n).cps.toList = false) : P := by
  rw [(num_facts h).2.2.1] at z
  cases z
theorem trs_strs {H : Hp} {α : Type} (f : α → Str) : ∀ (l : List α), Trs H ((l.map f).map V.str) (l.map fun a => PyData.str (f a))
  | [] => .nil
  | n :: r => .cons (.str (f n)) (trs_strs f r)
theorem pure_some {α : Type} (l : List α) (f : α → PyData) : l.filterMap (fun a => some (f a)) = l.map f := by rw [← List.filterMap_eq_map]; rfl
theorem ok_readpair (T : Tx K mg) : FnOk P w K mg base CX0 3 T.f_readpair T.d_readpair ["text"] spRdPair := by
  refine T.F_readpair.ok sc_readpair (fun vs H Q E h => ?_) (fun cdv A outer s H vs Q E hr h => ?_)
  · obtain ⟨p, rfl, _⟩ := h
    rfl
  · obtain ⟨⟨kx, sx⟩, rfl, h1, h2, k⟩ := h
    refine ⟨_, (pss_cons (ps_set (i := 1) sc_readpair.nd rfl (Or.inl rfl) (pe_bm PySem.F.plainAttrs_str PySem.F.slot_str_partition PySem.F.type_str_partition mt_partition (pv 0) (pa_cons pe_str pa_nil)))
      (pss_cons (ps_set (i := 2) sc_readpair.nd rfl (Or.inl rfl) (pe_ifExp (pt_cmpR op_eq (pe_ix ix_tup (pv 1) pe_int (fun _ _ => rfl)) pe_str (nomark _)) (pe_glob (v := V.int (-1)) rfl T.m_UNKEPT ⟨_, rfl⟩) (pe_call ((ok_numberof T).mono (by decide)) hr rfl T.m_numberof T.F_numberof.kp T.b_numberof .nil pass0 (pa_cons (pe_ix ix_tup (pv 1) pe_int (fun _ _ => rfl)) pa_nil))))
      (pss_one (ps_ret (pe_tup (pa_cons (pe_call ((ok_numberof T).mono (by decide)) hr rfl T.m_numberof T.F_numberof.kp T.b_numberof .nil pass0 (pa_cons (pe_ix ix_tup (pv 1) pe_int (fun _ _ => rfl)) pa_nil)) (pa_cons (pv 2) pa_nil))))))), ?_⟩
    dsimp only at h1 h2
    have l63 := shPair_len (p := (kx, sx)) h1 h2
    have z99 : (99 : Nat) ≤ sizeLine := by decide
    refine ⟨_, rfl, rfl, _, _, rfl, rfl, (by decide +kernel), (by omega), fun p hp => ?_⟩
    have ep : partV (shPair (kx, sx)) ("<" : Str) = [.str (num kx), .str ⟨#[60]⟩, .str (srcT sx)] := by
      rw [show ("<" : Str) = ⟨#[60]⟩ from by decide +kernel]
      exact part_at (num_no h1 (by decide) (by decide))
    rw [ep]
    have s1 := Same.upd (o := HO.tup [.str (num kx), .str ⟨#[60]⟩, .str (srcT sx)]) hp
    have hp1 : upd H p (.tup [.str (num kx), .str ⟨#[60]⟩, .str (srcT sx)]) p = some (.tup [.str (num kx), .str ⟨#[60]⟩, .str (srcT sx)]) := upd_same
    generalize upd H p (.tup [.str (num kx), .str ⟨#[60]⟩, .str (srcT sx)]) = H1 at *
    have fin : ∀ (E' : XK) H2, Same H1 H2 → tTup (tCons (tCall spNum0 [] E' (tCons (tOp (rIxT K) (tVar 1) (tC (V.int 0))) tNil)) (tCons (tVar 2) tNil)) [some (.str (shPair (kx, sx))), some (.ref p), some (.int sx)] H2 Q := fun E' H2 s2 => by
      refine ⟨_, rfl, p, _, _, _, rfl, rfl, SqT.of (s2 _ _ hp1), atI_nat (j := 0) rfl, num kx, rfl, (num_facts h1).1, (num_facts h1).2.1, fun _ H3 s3 => ?_, fun z => no_num h1 z⟩
      rw [(num_facts h1).2.2.2]
      refine ⟨_, rfl, (by show 2 ≤ sizeLine; decide), fun q hq => ?_⟩
      have s13 := s1.trans (s2.trans s3)
      exact k _ _ (s13.trans (Same.upd hq)) (.tup (off_at (s13.free hq) upd_same) (.cons (.int kx) (.cons (.int sx) .nil)))
    refine ⟨_, rfl, p, _, _, _, rfl, rfl, SqT.of hp1, atI_nat (j := 2) rfl, rfl, _, rfl, ite2 (fun e => ?_) (fun e => ?_)⟩
    · have e' : srcT sx = ("?" : Str) := V.str.inj (of_decide_eq_true e)
      have es : sx = -1 := by
        by_cases q : sx = -1
        · exact q
        · have e2 : num sx = ("?" : Str) := (if_neg q).symm.trans e'
          have := num_no h2 (c := 63) (by decide) (by decide)
          rw [e2, show ("?" : Str).cps.toList = [63] from by decide +kernel] at this
          exact absurd List.mem_cons_self this
      subst es
      exact fin E H1 (Same.refl _)
    · have es : ¬ sx = -1 := fun z => e (decide_eq_true (by rw [z]; decide +kernel))
      have en : srcT sx = num sx := if_neg es
      refine ⟨_, rfl, p, _, _, _, rfl, rfl, SqT.of hp1, atI_nat (j := 2) rfl, num sx, by rw [en]; rfl, (num_facts h2).1, (num_facts h2).2.1, fun _ H2 s2 => ?_, fun z => no_num h2 z⟩
      rw [(num_facts h2).2.2.2]
      exact fin E H2 s2
theorem joinMin : ∀ (l : List Str), (∀ x ∈ l, 1 ≤ x.length) → ∀ s : Str, l.length ≤ (Str.join s l).length
  | [], _, _ => Nat.zero_le _
  | [a], h, _ => h a List.mem_cons_self
  | a :: b :: r, h, s => by
    have ih := joinMin (b :: r) (fun x hx => h x (List.mem_cons_of_mem _ hx)) s
    have h1 := h a List.mem_cons_self
    show _ ≤ (a ++ s ++ Str.join s (b :: r)).length
    rw [strLen_append, strLen_append, List.length_cons]
    omega
theorem ok_readlook (T : Tx K mg) : FnOk P w K mg base CX0 4 T.f_readlook T.d_readlook ["text"] spRdLook := by
  refine T.F_readlook.ok sc_readlook (fun vs H Q E h => ?_) (fun cdv A outer s H vs Q E hr h => ?_)
  · obtain ⟨p, rfl, _⟩ := h
    rfl
  · obtain ⟨l, rfl, h1, h2, k⟩ := h
    refine ⟨_, (pss_cons (ps_if (pt_cmpR op_eq (pv 0) pe_str (nomark _))
      (pss_one (ps_ret (pe_lst pa_nil)))
      pss_nil)
      (pss_one (ps_ret (pe_compF ["part"] rfl (CompSc.mk (fv := []) (js := []) rfl (by decide +kernel) (by decide +kernel) (by decide +kernel) allc_nil rfl (by decide +kernel)) (pi_list (pe_bm PySem.F.plainAttrs_str PySem.F.slot_str_split PySem.F.type_str_split mt_split (pv 0) (pa_cons pe_str pa_nil))) (fun _ _ _ _ _ => (pg_name (i := 0) (show (["part"] : List Str).Nodup by decide +kernel) rfl (Or.inl rfl))) (fun _ _ _ _ _ => pf_nil) (fun _ _ _ _ _ => (pe_call ((ok_readpair T).mono (by decide)) hr rfl T.m_readpair T.F_readpair.kp T.b_readpair .nil pass0 (pa_cons (pv 0) pa_nil))))))), ?_⟩
    have hs9 : (10000 : Nat) ≤ sizeLine := by decide
    refine ⟨_, rfl, rfl, _, rfl, ite2 (fun e => ?_) (fun e => ?_)⟩
    · have e' : shLook l = ("-" : Str) := V.str.inj (of_decide_eq_true e)
      have e0 : l = [] := by
        by_cases q : l = []
        · exact q
        · exfalso
          have e2 : Str.join ⟨#[32]⟩ (l.map shPair) = ("-" : Str) := (if_neg q).symm.trans e'
          have e3 := congrArg (fun x : Str => x.length) e2
          cases l with
          | nil => exact q rfl
          | cons p r =>
            have e4 := congrArg (fun x : Str => x.cps.toList) e2
            have l1 : ("-" : Str).cps.toList = [45] := by decide +kernel
            have mem : (60 : Nat) ∈ (Str.join ⟨#[32]⟩ ((p :: r).map shPair)).cps.toList := by
              have m1 : (60 : Nat) ∈ (shPair p).cps.toList := by unfold shPair; rw [app_codes, app_codes]; simp
              rw [join_codes]
              cases r with
              | nil => exact m1
              | cons q r =>
                show (60 : Nat) ∈ (shPair p).cps.toList ++ _
                exact List.mem_append_left _ m1
            have e5 : (Str.join ⟨#[32]⟩ ((p :: r).map shPair)).cps.toList = [45] := e4.trans l1
            rw [e5] at mem
            simp at mem
      subst e0
      exact ⟨(by show 0 ≤ sizeLine; decide), fun q hq => k _ _ (Same.upd hq) (.lst (off_at hq upd_same) .nil)⟩
    · have hne : ¬ l = [] := fun z => e (decide_eq_true (by rw [z]; decide +kernel))
      have el : shLook l = Str.join ⟨#[32]⟩ (l.map shPair) := if_neg hne
      have esp : Txt.split (shLook l) (" " : Str) = l.map shPair := by
        rw [el, show (" " : Str) = ⟨#[32]⟩ from by decide +kernel]
        refine split_join (by simpa using hne) fun x hx => ?_
        obtain ⟨p, hp, rfl⟩ := List.mem_map.mp hx
        exact pair_no (h1 p hp) (by decide) (by decide) (by decide) (by decide)
      refine ⟨_, rfl, rfl, _, _, rfl, rfl, (by decide +kernel), h2, fun q hq => ?_⟩
      rw [esp]
      have s1 := Same.upd (o := HO.lst ((l.map shPair).map V.str)) hq
      have hll : l.length ≤ 10000 := by
        have a1 := split_le (shLook l) (" " : Str)
        rw [esp, List.length_map] at a1
        have : (10000 : Nat) + 1 ≤ 20000 := by decide
        have hs20 : (20000 : Nat) ≤ sizeLine := by decide
        have a2 := joinMin (l.map shPair) (fun x hx => by
          obtain ⟨p, hp, rfl⟩ := List.mem_map.mp hx
          unfold shPair
          rw [strLen_append, strLen_append, len1]
          omega) ⟨#[32]⟩
        rw [List.length_map, ← el] at a2
        omega
      refine ⟨q, rfl, ⟨_, SqL.of upd_same⟩, compN (k := 1) (fs := []) l (fun p => PyData.str (shPair p)) (fun p => some (dPair p)) rfl upd_same ?_ (by omega) (fun p hp H3 ts v R ss hts tr cont _ => ?_) (fun D H3 ys hD ss hd ht => ?_)⟩
      · exact trs_strs shPair l
      · obtain ⟨t, rfl⟩ := List.length_eq_one_iff.mp hts
        cases tr
        exact ⟨_, rfl, p, rfl, (h1 p hp).1, (h1 p hp).2, fun v H4 s4 t4 => cont _ v [_] H4 rfl rfl s4 t4⟩
      · rw [pure_some] at ht
        exact k _ _ (s1.trans ss) (.lst (off_at (s1.free hD) hd) (ht.same (off_less s1)))
theorem join_ge {s : Str} : ∀ {l : List Str} {x : Str}, x ∈ l → x.length ≤ (Str.join s l).length
  | [a], x, h => by rw [List.mem_singleton.mp h]; exact Nat.le_refl _
  | a :: b :: r, x, h => by
    show _ ≤ (a ++ s ++ Str.join s (b :: r)).length
    rw [strLen_append, strLen_append]
    rcases List.mem_cons.mp h with rfl | h
    · omega
    · have := join_ge (s := s) h
      omega
theorem ok_readdeal (T : Tx K mg) : FnOk P w K mg base CX0 5 T.f_readdeal T.d_readdeal ["row"] spRdDeal := by
  refine T.F_readdeal.ok sc_readdeal (fun vs H Q E h => ?_) (fun cdv A outer s H vs Q E hr h => ?_)
  · obtain ⟨p, rfl, _⟩ := h
    rfl
  · obtain ⟨⟨nx, wx, ls⟩, rfl, h1, hw, h2, k⟩ := h
    refine ⟨_, (pss_cons (ps_set (i := 1) sc_readdeal.nd rfl (Or.inl rfl) (pe_bm PySem.F.plainAttrs_str PySem.F.slot_str_partition PySem.F.type_str_partition mt_partition (pv 0) (pa_cons pe_str pa_nil)))
      (pss_cons (ps_set (i := 2) sc_readdeal.nd rfl (Or.inl rfl) (pe_bm PySem.F.plainAttrs_str PySem.F.slot_str_partition PySem.F.type_str_partition mt_partition (pe_bm PySem.F.plainAttrs_str PySem.F.slot_str_rstrip PySem.F.type_str_rstrip mt_rstrip (pe_ix ix_tup (pv 1) pe_int (fun _ _ => rfl)) (pa_cons pe_str pa_nil)) (pa_cons pe_str pa_nil)))
      (pss_cons (ps_set (i := 3) sc_readdeal.nd rfl (Or.inl rfl) (pe_ifExp (pt_cmpR op_ne (pe_ix ix_tup (pv 1) pe_int (fun _ _ => rfl)) pe_str (nomark _)) (pe_compF ["part"] rfl (CompSc.mk (fv := []) (js := []) rfl (by decide +kernel) (by decide +kernel) (by decide +kernel) allc_nil rfl (by decide +kernel)) (pi_list (pe_bm PySem.F.plainAttrs_str PySem.F.slot_str_split PySem.F.type_str_split mt_split (pe_ix ix_tup (pv 1) pe_int (fun _ _ => rfl)) (pa_cons pe_str pa_nil))) (fun _ _ _ _ _ => (pg_name (i := 0) (show (["part"] : List Str).Nodup by decide +kernel) rfl (Or.inl rfl))) (fun _ _ _ _ _ => pf_nil) (fun _ _ _ _ _ => (pe_call ((ok_readlook T).mono (by decide)) hr rfl T.m_readlook T.F_readlook.kp T.b_readlook .nil pass0 (pa_cons (pv 0) pa_nil)))) (pe_lst pa_nil)))
      (pss_one (ps_ret (pe_tup (pa_cons (pe_call ((ok_numberof T).mono (by decide)) hr rfl T.m_numberof T.F_numberof.kp T.b_numberof .nil pass0 (pa_cons (pe_ix ix_tup (pv 2) pe_int (fun _ _ => rfl)) pa_nil)) (pa_cons (pe_ix ix_tup (pv 2) pe_int (fun _ _ => rfl)) (pa_cons (pv 3) pa_nil))))))))), ?_⟩
    dsimp only at hw
    have hs9 : (10000 : Nat) ≤ sizeLine := by decide
    have h58n : (58 : Nat) ∉ (num nx ++ ⟨#[32]⟩ ++ wx : Str).cps.toList := by
      rw [app_codes, app_codes, List.mem_append, List.mem_append]
      rintro ((z | z) | z)
      · exact num_no h1.1 (by decide) (by decide) z
      · simp at z
      · exact word_no hw (by decide) z
    have l31 := num_len31 h1.1
    dsimp only at l31
    have xl : ∀ y ∈ lvls, y.length ≤ 5 := by decide +kernel
    have hwl := xl wx hw
    have hcl : (num nx ++ ⟨#[32]⟩ ++ wx : Str).length ≤ 100 := by
      rw [strLen_append, strLen_append, len1]
      omega
    have ecol : (": " : Str) = ⟨#[58, 32]⟩ := by decide +kernel
    have esp2 : partV (num nx ++ ⟨#[32]⟩ ++ wx) (" " : Str) = [.str (num nx), .str ⟨#[32]⟩, .str wx] := by
      rw [show (" " : Str) = ⟨#[32]⟩ from by decide +kernel]
      exact part_at (num_no h1.1 (by decide) (by decide))
    have fin : ∀ (E' : XK) (p hq2 lk : Addr) H2 zs, Same H H2 → H2 hq2 = some (.tup [.str (num nx), .str ⟨#[32]⟩, .str wx]) → H lk = none → H2 lk = some (.lst zs) → Trs (off H H2) zs (ls.map dLook) →
        tTup (tCons (tCall spNum0 [] E' (tCons (tOp (rIxT K) (tVar 2) (tC (V.int 0))) tNil)) (tCons (tOp (rIxT K) (tVar 2) (tC (V.int 2))) (tCons (tVar 3) tNil))) [some (.str (shDeal (nx, wx, ls))), some (.ref p), some (.ref hq2), some (.ref lk)] H2 Q := fun E' p hq2 lk H2 zs s2 hh hlk0 hlk hz => by
      refine ⟨_, rfl, hq2, _, _, _, rfl, rfl, SqT.of hh, atI_nat (j := 0) rfl, num nx, rfl, (num_facts h1.1).1, (num_facts h1.1).2.1, fun _ H3 s3 => ?_, fun z => no_num h1.1 z⟩
      rw [(num_facts h1.1).2.2.2]
      refine ⟨_, rfl, hq2, _, _, _, rfl, rfl, SqT.of (s3 _ _ hh), atI_nat (j := 2) rfl, _, rfl, (by show 3 ≤ sizeLine; decide), fun q hq => ?_⟩
      have s13 := s2.trans s3
      have s4 := Same.upd (o := HO.tup [.int nx, .str wx, .ref lk]) hq
      exact k _ _ (s13.trans s4) (.tup (off_at (s13.free hq) upd_same) (.cons (.int nx) (.cons (.str wx) (.cons (.lst (off_at hlk0 (s4 _ _ (s3 _ _ hlk))) (hz.same (off_mono (s3.trans s4)))) .nil))))
    by_cases hne : ls = []
    · subst hne
      have er : shDeal (nx, wx, []) = num nx ++ ⟨#[32]⟩ ++ wx ++ ⟨#[58]⟩ := rfl
      have ep : partV (shDeal (nx, wx, [])) (": " : Str) = [.str (num nx ++ ⟨#[32]⟩ ++ wx ++ ⟨#[58]⟩), .str Str.empty, .str Str.empty] := by rw [ecol, er]; exact part_no h58n
      refine ⟨_, rfl, rfl, _, _, rfl, rfl, (by decide +kernel), (by omega), fun p hp => ?_⟩
      rw [ep]
      have s1 := Same.upd (o := HO.tup [.str (num nx ++ ⟨#[32]⟩ ++ wx ++ ⟨#[58]⟩), .str Str.empty, .str Str.empty]) hp
      have hp1 : upd H p (.tup [.str (num nx ++ ⟨#[32]⟩ ++ wx ++ ⟨#[58]⟩), .str Str.empty, .str Str.empty]) p = some (.tup [.str (num nx ++ ⟨#[32]⟩ ++ wx ++ ⟨#[58]⟩), .str Str.empty, .str Str.empty]) := upd_same
      generalize upd H p (.tup [.str (num nx ++ ⟨#[32]⟩ ++ wx ++ ⟨#[58]⟩), .str Str.empty, .str Str.empty]) = H1 at *
      refine ⟨_, rfl, p, _, _, _, rfl, rfl, SqT.of hp1, atI_nat (j := 0) rfl, rfl, _, _, rfl, rfl, (by rw [strLen_append, len1]; omega), rfl, _, _, rfl, rfl, (by decide +kernel), ?_, fun h hh => ?_⟩
      · rw [show (":" : Str) = ⟨#[58]⟩ from by decide +kernel, rstrip_one h58n]
        omega
      rw [show (":" : Str) = ⟨#[58]⟩ from by decide +kernel, rstrip_one h58n, esp2]
      have s2 := s1.trans (Same.upd (o := HO.tup [.str (num nx), .str ⟨#[32]⟩, .str wx]) hh)
      refine ⟨_, rfl, p, _, _, _, rfl, rfl, SqT.of ((Same.upd hh) _ _ hp1), atI_nat (j := 1) rfl, rfl, _, rfl, iteF ?_⟩
      refine ⟨(by show 0 ≤ sizeLine; decide), fun lk hlk => ?_⟩
      have s3 := Same.upd (o := HO.lst []) hlk
      exact fin E p h lk _ [] (s2.trans s3) (s3 _ _ upd_same) (s2.free hlk) upd_same .nil
    · have er : shDeal (nx, wx, ls) = num nx ++ ⟨#[32]⟩ ++ wx ++ ⟨#[58, 32]⟩ ++ Str.join semi (ls.map shLook) := deal_is hne
      have ep : partV (shDeal (nx, wx, ls)) (": " : Str) = [.str (num nx ++ ⟨#[32]⟩ ++ wx), .str ⟨#[58, 32]⟩, .str (Str.join semi (ls.map shLook))] := by rw [ecol, er]; exact part_two h58n
      refine ⟨_, rfl, rfl, _, _, rfl, rfl, (by decide +kernel), (by omega), fun p hp => ?_⟩
      rw [ep]
      have s1 := Same.upd (o := HO.tup [.str (num nx ++ ⟨#[32]⟩ ++ wx), .str ⟨#[58, 32]⟩, .str (Str.join semi (ls.map shLook))]) hp
      have hp1 : upd H p (.tup [.str (num nx ++ ⟨#[32]⟩ ++ wx), .str ⟨#[58, 32]⟩, .str (Str.join semi (ls.map shLook))]) p = some (.tup [.str (num nx ++ ⟨#[32]⟩ ++ wx), .str ⟨#[58, 32]⟩, .str (Str.join semi (ls.map shLook))]) := upd_same
      generalize upd H p (.tup [.str (num nx ++ ⟨#[32]⟩ ++ wx), .str ⟨#[58, 32]⟩, .str (Str.join semi (ls.map shLook))]) = H1 at *
      refine ⟨_, rfl, p, _, _, _, rfl, rfl, SqT.of hp1, atI_nat (j := 0) rfl, rfl, _, _, rfl, rfl, (by omega), rfl, _, _, rfl, rfl, (by decide +kernel), ?_, fun h hh => ?_⟩
      · rw [show (":" : Str) = ⟨#[58]⟩ from by decide +kernel, rstrip_no h58n]
        omega
      rw [show (":" : Str) = ⟨#[58]⟩ from by decide +kernel, rstrip_no h58n, esp2]
      have s2 := s1.trans (Same.upd (o := HO.tup [.str (num nx), .str ⟨#[32]⟩, .str wx]) hh)
      have hh2 : upd H1 h (.tup [.str (num nx), .str ⟨#[32]⟩, .str wx]) h = some (.tup [.str (num nx), .str ⟨#[32]⟩, .str wx]) := upd_same
      have hp2 := (Same.upd (o := HO.tup [.str (num nx), .str ⟨#[32]⟩, .str wx]) hh) _ _ hp1
      generalize upd H1 h (.tup [.str (num nx), .str ⟨#[32]⟩, .str wx]) = H2 at *
      refine ⟨_, rfl, p, _, _, _, rfl, rfl, SqT.of hp2, atI_nat (j := 1) rfl, rfl, _, rfl, iteT ?_⟩
      have lj : (Str.join semi (ls.map shLook)).length ≤ 10000 := by
        rw [er, strLen_append] at h2
        omega
      have esm : Txt.split (Str.join semi (ls.map shLook)) ("; " : Str) = ls.map shLook := by
        rw [show ("; " : Str) = semi from by decide +kernel]
        refine split_semi (by simpa using hne) fun x hx => ?_
        obtain ⟨l, hl, rfl⟩ := List.mem_map.mp hx
        exact look_no (h1.2 l hl) (by decide) (by decide) (by decide) (by decide) (by decide)
      refine ⟨_, rfl, p, _, _, _, rfl, rfl, SqT.of hp2, atI_nat (j := 2) rfl, rfl, _, _, rfl, rfl, (by decide +kernel), lj, fun q hq => ?_⟩
      rw [esm]
      have s3 := Same.upd (o := HO.lst ((ls.map shLook).map V.str)) hq
      have one : ∀ l ∈ ls, 1 ≤ (shLook l).length := fun l hl => by
        unfold shLook
        split
        · exact Nat.le_refl _
        · next hl0 =>
          cases l with
          | nil => exact absurd rfl hl0
          | cons p r =>
            have := joinMin ((p :: r).map shPair) (fun x hx => by
              obtain ⟨p, hp, rfl⟩ := List.mem_map.mp hx
              unfold shPair
              rw [strLen_append, strLen_append, len1]
              omega) ⟨#[32]⟩
            rw [List.length_map, List.length_cons] at this
            omega
      have hll : ls.length ≤ 10000 := by
        have := joinMin (ls.map shLook) (fun x hx => by obtain ⟨l, hl, rfl⟩ := List.mem_map.mp hx; exact one l hl) semi
        rw [List.length_map] at this
        omega
      refine ⟨q, rfl, ⟨_, SqL.of upd_same⟩, compN (k := 1) (fs := []) ls (fun p => PyData.str (shLook p)) (fun p => some (dLook p)) rfl upd_same (trs_strs shLook ls) (by omega) (fun l hl H3 ts v R ss hts tr cont _ => ?_) (fun D H3 ys hD ss hd ht => ?_)⟩
      · obtain ⟨t, rfl⟩ := List.length_eq_one_iff.mp hts
        cases tr
        have : (shLook l).length ≤ 10000 := by
          have := join_ge (s := semi) (List.mem_map.mpr ⟨l, hl, rfl⟩ : shLook l ∈ ls.map shLook)
          omega
        exact ⟨_, rfl, l, rfl, h1.2 l hl, this, fun v H4 s4 t4 => cont _ v [_] H4 rfl rfl s4 t4⟩
      · rw [pure_some] at ht
        have s23 := s2.trans s3
        exact fin E p h D H3 ys (s23.trans ss) (ss _ _ (s3 _ _ hh2)) (s23.free hD) hd (ht.same (off_less s23))
theorem ok_readmake (T : Tx K mg) : FnOk P w K mg base CX0 5 T.f_readmake T.d_readmake ["row"] spRdMake := by
  refine T.F_readmake.ok sc_readmake (fun vs H Q E h => ?_) (fun cdv A outer s H vs Q E hr h => ?_)
  · obtain ⟨p, rfl, _⟩ := h
    rfl
  · obtain ⟨⟨kx, ns⟩, rfl, h1, hn, h2, k⟩ := h
    refine ⟨_, (pss_cons (ps_set (i := 1) sc_readmake.nd rfl (Or.inl rfl) (pe_bm PySem.F.plainAttrs_str PySem.F.slot_str_partition PySem.F.type_str_partition mt_partition (pv 0) (pa_cons pe_str pa_nil)))
      (pss_cons (ps_set (i := 2) sc_readmake.nd rfl (Or.inl rfl) (pe_call ((ok_numberof T).mono (by decide)) hr rfl T.m_numberof T.F_numberof.kp T.b_numberof .nil pass0 (pa_cons (pe_ix ix_tup (pe_bm PySem.F.plainAttrs_str PySem.F.slot_str_partition PySem.F.type_str_partition mt_partition (pe_ix ix_tup (pv 1) pe_int (fun _ _ => rfl)) (pa_cons pe_str pa_nil)) pe_int (fun _ _ => rfl)) pa_nil)))
      (pss_one (ps_ret (pe_tup (pa_cons (pv 2) (pa_cons (pe_compF ["part"] rfl (CompSc.mk (fv := []) (js := []) rfl (by decide +kernel) (by decide +kernel) (by decide +kernel) allc_nil rfl (by decide +kernel)) (pi_list (pe_bm PySem.F.plainAttrs_str PySem.F.slot_str_split PySem.F.type_str_split mt_split (pe_ix ix_tup (pv 1) pe_int (fun _ _ => rfl)) (pa_cons pe_str pa_nil))) (fun _ _ _ _ _ => (pg_name (i := 0) (show (["part"] : List Str).Nodup by decide +kernel) rfl (Or.inl rfl))) (fun _ _ _ _ _ => pf_nil) (fun _ _ _ _ _ => (pe_call ((ok_numberof T).mono (by decide)) hr rfl T.m_numberof T.F_numberof.kp T.b_numberof .nil pass0 (pa_cons (pv 0) pa_nil)))) pa_nil))))))), ?_⟩
    dsimp only at hn
    have hs9 : (10000 : Nat) ≤ sizeLine := by decide
    have h58n : (58 : Nat) ∉ (mkW ++ num kx : Str).cps.toList := by
      rw [app_codes, List.mem_append]
      rintro (z | z)
      · simp [mkW] at z
      · exact num_no h1.1 (by decide) (by decide) z
    have l31 := num_len31 h1.1
    dsimp only at l31
    have hcl : (mkW ++ num kx : Str).length ≤ 100 := by
      rw [strLen_append, mkW_len]
      omega
    have er : shMake (kx, ns) = mkW ++ num kx ++ ⟨#[58, 32]⟩ ++ Str.join ⟨#[32]⟩ (ns.map num) := make_is hn
    have ep : partV (shMake (kx, ns)) (": " : Str) = [.str (mkW ++ num kx), .str ⟨#[58, 32]⟩, .str (Str.join ⟨#[32]⟩ (ns.map num))] := by rw [show (": " : Str) = ⟨#[58, 32]⟩ from by decide +kernel, er]; exact part_two h58n
    have esp2 : partV (mkW ++ num kx) (" " : Str) = [.str ⟨#[109, 97, 107, 101]⟩, .str ⟨#[32]⟩, .str (num kx)] := by
      rw [show (" " : Str) = ⟨#[32]⟩ from by decide +kernel, show mkW = (⟨#[109, 97, 107, 101]⟩ : Str) ++ ⟨#[32]⟩ from by decide +kernel]
      exact part_at (by simp)
    refine ⟨_, rfl, rfl, _, _, rfl, rfl, (by decide +kernel), (by omega), fun p hp => ?_⟩
    rw [ep]
    have s1 := Same.upd (o := HO.tup [.str (mkW ++ num kx), .str ⟨#[58, 32]⟩, .str (Str.join ⟨#[32]⟩ (ns.map num))]) hp
    have hp1 : upd H p (.tup [.str (mkW ++ num kx), .str ⟨#[58, 32]⟩, .str (Str.join ⟨#[32]⟩ (ns.map num))]) p = some (.tup [.str (mkW ++ num kx), .str ⟨#[58, 32]⟩, .str (Str.join ⟨#[32]⟩ (ns.map num))]) := upd_same
    generalize upd H p (.tup [.str (mkW ++ num kx), .str ⟨#[58, 32]⟩, .str (Str.join ⟨#[32]⟩ (ns.map num))]) = H1 at *
    refine ⟨_, rfl, p, _, _, _, rfl, rfl, SqT.of hp1, atI_nat (j := 0) rfl, rfl, _, _, rfl, rfl, (by decide +kernel), (by omega), fun h hh => ?_⟩
    rw [esp2]
    have s2 := s1.trans (Same.upd (o := HO.tup [.str ⟨#[109, 97, 107, 101]⟩, .str ⟨#[32]⟩, .str (num kx)]) hh)
    have hp2 := (Same.upd (o := HO.tup [.str ⟨#[109, 97, 107, 101]⟩, .str ⟨#[32]⟩, .str (num kx)]) hh) _ _ hp1
    refine ⟨h, _, _, _, rfl, rfl, SqT.of upd_same, atI_nat (j := 2) rfl, num kx, rfl, (num_facts h1.1).1, (num_facts h1.1).2.1, fun _ H3 s3 => ?_, fun z => no_num h1.1 z⟩
    rw [(num_facts h1.1).2.2.2]
    have s03 := s2.trans s3
    have lj : (Str.join ⟨#[32]⟩ (ns.map num)).length ≤ 10000 := by
      rw [er, strLen_append] at h2
      omega
    have esm : Txt.split (Str.join ⟨#[32]⟩ (ns.map num)) (" " : Str) = ns.map num := by
      rw [show (" " : Str) = ⟨#[32]⟩ from by decide +kernel]
      refine split_join (by simpa using hn) fun x hx => ?_
      obtain ⟨l, hl, rfl⟩ := List.mem_map.mp hx
      exact num_no (h1.2 l hl) (by decide) (by decide)
    refine ⟨_, rfl, _, rfl, p, _, _, _, rfl, rfl, SqT.of (s3 _ _ hp2), atI_nat (j := 2) rfl, rfl, _, _, rfl, rfl, (by decide +kernel), lj, fun q hq => ?_⟩
    rw [esm]
    have s4 := Same.upd (o := HO.lst ((ns.map num).map V.str)) hq
    have hll : ns.length ≤ 10000 := by
      have := joinMin (ns.map num) (fun x hx => by
        obtain ⟨l, hl, rfl⟩ := List.mem_map.mp hx
        obtain ⟨c, r, e, _⟩ := num_first (h1.2 l hl)
        rw [len_codes, e]
        simp) ⟨#[32]⟩
      rw [List.length_map] at this
      omega
    refine ⟨q, rfl, ⟨_, SqL.of upd_same⟩, compN (k := 1) (fs := []) ns (fun p => PyData.str (num p)) (fun p => some (PyData.int p)) rfl upd_same (trs_strs num ns) (by omega) (fun l hl H5 ts v R ss hts tr cont _ => ?_) (fun D H5 ys hD ss hd ht => ?_)⟩
    · obtain ⟨t, rfl⟩ := List.length_eq_one_iff.mp hts
      cases tr
      refine ⟨_, rfl, num l, rfl, (num_facts (h1.2 l hl)).1, (num_facts (h1.2 l hl)).2.1, fun _ H6 s6 => ?_, fun z => no_num (h1.2 l hl) z⟩
      rw [(num_facts (h1.2 l hl)).2.2.2]
      exact cont _ _ [_] H6 rfl rfl s6 (.int l)
    · rw [pure_some] at ht
      have s04 := s03.trans s4
      refine ⟨(by show 2 ≤ sizeLine; decide), fun z hz => ?_⟩
      have s5 := s04.trans ss
      have s6 := Same.upd (o := HO.tup [.int kx, .ref D]) hz
      exact k _ _ (s5.trans s6) (.tup (off_at (s5.free hz) upd_same) (.cons (.int kx) (.cons (.lst (off_at (s04.free hD) (s6 _ _ hd)) ((ht.same (off_less s04)).same (off_mono s6))) .nil)))
theorem iteDN {p : Prop} [Decidable p] {A B : Prop} (h : p) (b : B) : if (!decide p) = true then A else B := by
  rw [decide_eq_true h]
  exact b
theorem iteDY {p : Prop} [Decidable p] {A B : Prop} (h : ¬ p) (a : A) : if (!decide p) = true then A else B := by
  rw [decide_eq_false h]
  exact a
noncomputable abbrev Rw := Dl ⊕ Mkr
noncomputable def txR : Rw → Str
  | .inl d => shDeal d
  | .inr m => shMake m
noncomputable def dyD : Rw → Option PyData
  | .inl d => some (dDeal d)
  | .inr _ => none
noncomputable def dyM : Rw → Option PyData
  | .inl _ => none
  | .inr m => some (dMake m)
noncomputable def rowsP (p : Ps) : List Rw := p.1.map Sum.inl ++ p.2.map Sum.inr
theorem rows_tx (p : Ps) : (rowsP p).map txR = p.1.map shDeal ++ p.2.map shMake := by
  unfold rowsP
  rw [List.map_append, List.map_map, List.map_map]
  rfl
theorem rows_d (p : Ps) : (rowsP p).filterMap dyD = p.1.map dDeal := by
  unfold rowsP
  rw [List.filterMap_append, List.filterMap_map, List.filterMap_map]
  have e1 : p.1.filterMap (dyD ∘ Sum.inl) = p.1.map dDeal := pure_some p.1 dDeal
  have e2 : p.2.filterMap (dyD ∘ Sum.inr) = [] := List.filterMap_eq_nil_iff.mpr fun _ _ => rfl
  rw [e1, e2, List.append_nil]
theorem rows_m (p : Ps) : (rowsP p).filterMap dyM = p.2.map dMake := by
  unfold rowsP
  rw [List.filterMap_append, List.filterMap_map, List.filterMap_map]
  have e1 : p.1.filterMap (dyM ∘ Sum.inl) = [] := List.filterMap_eq_nil_iff.mpr fun _ _ => rfl
  have e2 : p.2.filterMap (dyM ∘ Sum.inr) = p.2.map dMake := pure_some p.2 dMake
  rw [e1, e2, List.nil_append]
theorem deal_first {d : Dl} (hb : Bd d.1) : ∃ c r, (shDeal d).cps.toList = c :: r ∧ c ≠ 109 := by
  obtain ⟨c, r, e, h⟩ := num_first hb
  have hh : ∃ q, (hdD d).cps.toList = c :: q := by
    unfold hdD
    rw [app_codes, app_codes, app_codes, e]
    exact ⟨_, rfl⟩
  obtain ⟨q, hq⟩ := hh
  unfold shDeal
  split
  · exact ⟨c, q, hq, h⟩
  · rw [app_codes, app_codes, hq]
    exact ⟨c, _, rfl, h⟩
theorem make_first (m : Mkr) : ∃ r, (shMake m).cps.toList = 109 :: 97 :: 107 :: 101 :: r := by
  unfold shMake
  rw [app_codes, app_codes, app_codes]
  exact ⟨_, rfl⟩
theorem rows_ok {p : Ps} (h : RdOk p) : ∀ x ∈ rowsP p, 10 ∉ (txR x).cps.toList ∧ 1 ≤ (txR x).length ∧ (txR x).length ≤ 10000 := by
  intro x hx
  have hm : txR x ∈ p.1.map shDeal ++ p.2.map shMake := by rw [← rows_tx]; exact List.mem_map.mpr ⟨x, hx, rfl⟩
  have hl : (txR x).length ≤ 10000 := Nat.le_trans (join_ge hm) h.2.2.2
  obtain ⟨⟨b1, b2⟩, h2, h3, _⟩ := h
  unfold rowsP at hx
  rcases List.mem_append.mp hx with z | z
  · obtain ⟨d, hd, rfl⟩ := List.mem_map.mp z
    refine ⟨deal_no10 (b1 d hd) (h2 d hd), ?_, hl⟩
    obtain ⟨c, r, e, _⟩ := deal_first (b1 d hd).1
    show 1 ≤ (shDeal d).length
    rw [len_codes, e]
    simp
  · obtain ⟨m, hmm, rfl⟩ := List.mem_map.mp z
    refine ⟨make_no10 (b2 m hmm) (h3 m hmm), ?_, hl⟩
    obtain ⟨r, e⟩ := make_first m
    show 1 ≤ (shMake m).length
    rw [len_codes, e]
    simp
theorem ok_readrows (T : Tx K mg) : FnOk P w K mg base CX0 6 T.f_readrows T.d_readrows ["text"] spRdRows := by
  refine T.F_readrows.ok sc_readrows (fun vs H Q E h => ?_) (fun cdv A outer s H vs Q E hr h => ?_)
  · obtain ⟨p, rfl, _⟩ := h
    rfl
  · obtain ⟨⟨dx, mx⟩, rfl, h1, k⟩ := h
    refine ⟨_, (pss_cons (ps_set (i := 1) sc_readrows.nd rfl (Or.inl rfl) (pe_ifExp (pt_cmpR op_ne (pv 0) pe_str (nomark _)) (pe_bm PySem.F.plainAttrs_str PySem.F.slot_str_split PySem.F.type_str_split mt_split (pv 0) (pa_cons pe_str pa_nil)) (pe_lst pa_nil)))
      (pss_cons (ps_compF (i := 2) ["row"] rfl sc_readrows.nd rfl rfl (CompSc.mk (fv := []) (js := []) rfl (by decide +kernel) (by decide +kernel) (by decide +kernel) allc_nil rfl (by decide +kernel)) (pi_list (pv 1)) rfl (fun _ _ _ _ _ => (pg_name (i := 0) (show (["row"] : List Str).Nodup by decide +kernel) rfl (Or.inl rfl))) (fun _ _ _ _ _ => (pf_one (pt_not (pt_val (pe_bmK (K := K) rfl PySem.F.plainAttrs_str PySem.F.slot_str_startswith PySem.F.type_str_startswith mt_startswith (pv 0) (pa_cons pe_str pa_nil)))))) (fun _ _ _ _ _ => (pe_call ((ok_readdeal T).mono (by decide)) hr rfl T.m_readdeal T.F_readdeal.kp T.b_readdeal .nil pass0 (pa_cons (pv 0) pa_nil))))
      (pss_cons (ps_compF (i := 3) ["row"] rfl sc_readrows.nd rfl rfl (CompSc.mk (fv := []) (js := []) rfl (by decide +kernel) (by decide +kernel) (by decide +kernel) allc_nil rfl (by decide +kernel)) (pi_list (pv 1)) rfl (fun _ _ _ _ _ => (pg_name (i := 0) (show (["row"] : List Str).Nodup by decide +kernel) rfl (Or.inl rfl))) (fun _ _ _ _ _ => (pf_one (pt_val (pe_bmK (K := K) rfl PySem.F.plainAttrs_str PySem.F.slot_str_startswith PySem.F.type_str_startswith mt_startswith (pv 0) (pa_cons pe_str pa_nil))))) (fun _ _ _ _ _ => (pe_call ((ok_readmake T).mono (by decide)) hr rfl T.m_readmake T.F_readmake.kp T.b_readmake .nil pass0 (pa_cons (pv 0) pa_nil))))
      (pss_one (ps_ret (pe_tup (pa_cons (pv 2) (pa_cons (pv 3) pa_nil)))))))), ?_⟩
    have hs9 : (10000 : Nat) ≤ sizeLine := by decide
    have rok := rows_ok h1
    have ejn : shPast (dx, mx) = Str.join ⟨#[10]⟩ ((rowsP (dx, mx)).map txR) := by rw [rows_tx]; rfl
    have hrl : (rowsP (dx, mx)).length ≤ 10000 := by
      have := joinMin ((rowsP (dx, mx)).map txR) (fun x hx => by obtain ⟨y, hy, rfl⟩ := List.mem_map.mp hx; exact (rok y hy).2.1) ⟨#[10]⟩
      rw [List.length_map, ← ejn] at this
      exact Nat.le_trans this h1.2.2.2
    by_cases hne : rowsP (dx, mx) = []
    · have e0 : shPast (dx, mx) = ("" : Str) := by rw [ejn, hne]; decide +kernel
      refine ⟨_, rfl, rfl, _, rfl, iteDN (by rw [e0]) ?_⟩
      refine ⟨(by show 0 ≤ sizeLine; decide), fun q hq => ?_⟩
      have s1 := Same.upd (o := HO.lst []) hq
      have hq1 : upd H q (.lst []) q = some (.lst (((rowsP (dx, mx)).map txR).map V.str)) := by rw [hne]; exact upd_same
      generalize upd H q (.lst []) = H1 at *
      refine ⟨_, rfl, q, rfl, ⟨_, SqL.of hq1⟩, compN (k := 1) (fs := []) (rowsP (dx, mx)) (fun x => PyData.str (txR x)) dyD rfl hq1 (trs_strs txR _) (by omega) (fun x hx H3 ts v R ss hts tr cont cn => ?_) (fun D H3 ys hD s3 hd ht => ?_)⟩
      · obtain ⟨t, rfl⟩ := List.length_eq_one_iff.mp hts
        cases tr
        have hxl := (rok x hx).2.2
        refine ⟨_, rfl, rfl, _, _, rfl, rfl, _, rfl, ?_⟩
        cases x with
        | inl d =>
          have hdm : d ∈ dx := by
            rcases List.mem_append.mp hx with z | z
            · obtain ⟨d', hd', e⟩ := List.mem_map.mp z; cases e; exact hd'
            · obtain ⟨d', hd', e⟩ := List.mem_map.mp z; cases e
          obtain ⟨c, r, e, hc⟩ := deal_first (h1.1.1 d hdm).1
          rw [starts_not (x := txR (.inl d)) e hc]
          exact ⟨_, rfl, d, rfl, h1.1.1 d hdm, h1.2.1 d hdm, hxl, fun v H4 s4 t4 => cont _ v [_] H4 rfl rfl s4 t4⟩
        | inr m =>
          obtain ⟨r, e⟩ := make_first m
          rw [starts_yes (x := txR (.inr m)) e]
          exact cn rfl [_] _ rfl (Same.refl _)
      rw [rows_d] at ht
      have s13 := s1.trans s3
      refine ⟨_, rfl, q, rfl, ⟨_, SqL.of (s3 _ _ hq1)⟩, compN (k := 1) (fs := []) (rowsP (dx, mx)) (fun x => PyData.str (txR x)) dyM rfl (s3 _ _ hq1) (trs_strs txR _) (by omega) (fun x hx H4 ts v R ss hts tr cont cn => ?_) (fun D2 H4 zs hD2 s4 hd2 ht2 => ?_)⟩
      · obtain ⟨t, rfl⟩ := List.length_eq_one_iff.mp hts
        cases tr
        have hxl := (rok x hx).2.2
        refine ⟨_, rfl, rfl, _, _, rfl, rfl, _, rfl, ?_⟩
        cases x with
        | inl d =>
          have hdm : d ∈ dx := by
            rcases List.mem_append.mp hx with z | z
            · obtain ⟨d', hd', e⟩ := List.mem_map.mp z; cases e; exact hd'
            · obtain ⟨d', hd', e⟩ := List.mem_map.mp z; cases e
          obtain ⟨c, r, e, hc⟩ := deal_first (h1.1.1 d hdm).1
          rw [starts_not (x := txR (.inl d)) e hc]
          exact cn rfl [_] _ rfl (Same.refl _)
        | inr m =>
          have hdm : m ∈ mx := by
            rcases List.mem_append.mp hx with z | z
            · obtain ⟨d', hd', e⟩ := List.mem_map.mp z; cases e
            · obtain ⟨d', hd', e⟩ := List.mem_map.mp z; cases e; exact hd'
          obtain ⟨r, e⟩ := make_first m
          rw [starts_yes (x := txR (.inr m)) e]
          exact ⟨_, rfl, m, rfl, h1.1.2 m hdm, h1.2.2.1 m hdm, hxl, fun v H4 s4 t4 => cont _ v [_] H4 rfl rfl s4 t4⟩
      rw [rows_m] at ht2
      have s14 := s13.trans s4
      refine ⟨_, rfl, _, rfl, (by show 2 ≤ sizeLine; decide), fun z hz => ?_⟩
      have s5 := Same.upd (o := HO.tup [.ref D, .ref D2]) hz
      exact k _ _ (s14.trans s5) (.tup (off_at (s14.free hz) upd_same) (.cons (.lst (off_at (s1.free hD) (s5 _ _ (s4 _ _ hd))) ((ht.same (off_less s1)).same (off_mono (s4.trans s5)))) (.cons (.lst (off_at (s13.free hD2) (s5 _ _ hd2)) ((ht2.same (off_less s13)).same (off_mono s5))) .nil))) ⟨z, D, D2, rfl, upd_same, fun y => by rw [← y, hd] at hD2; cases hD2⟩
    · have e0 : ¬ shPast (dx, mx) = ("" : Str) := fun z => by
        have := joinMin ((rowsP (dx, mx)).map txR) (fun x hx => by obtain ⟨y, hy, rfl⟩ := List.mem_map.mp hx; exact (rok y hy).2.1) ⟨#[10]⟩
        rw [List.length_map, ← ejn, z, show ("" : Str).length = 0 from by decide +kernel] at this
        exact hne (List.eq_nil_of_length_eq_zero (by omega))
      have esp : Txt.split (shPast (dx, mx)) ("\n" : Str) = (rowsP (dx, mx)).map txR := by
        rw [ejn, show ("\n" : Str) = ⟨#[10]⟩ from by decide +kernel]
        refine split_join (by simpa using hne) fun x hx => ?_
        obtain ⟨y, hy, rfl⟩ := List.mem_map.mp hx
        exact (rok y hy).1
      refine ⟨_, rfl, rfl, _, rfl, iteDY (fun z => e0 (V.str.inj z)) ?_⟩
      refine ⟨_, rfl, rfl, _, _, rfl, rfl, (by decide +kernel), h1.2.2.2, fun q hq => ?_⟩
      rw [esp]
      have s1 := Same.upd (o := HO.lst (((rowsP (dx, mx)).map txR).map V.str)) hq
      have hq1 : upd H q (.lst (((rowsP (dx, mx)).map txR).map V.str)) q = some (.lst (((rowsP (dx, mx)).map txR).map V.str)) := upd_same
      generalize upd H q (.lst (((rowsP (dx, mx)).map txR).map V.str)) = H1 at *
      refine ⟨_, rfl, q, rfl, ⟨_, SqL.of hq1⟩, compN (k := 1) (fs := []) (rowsP (dx, mx)) (fun x => PyData.str (txR x)) dyD rfl hq1 (trs_strs txR _) (by omega) (fun x hx H3 ts v R ss hts tr cont cn => ?_) (fun D H3 ys hD s3 hd ht => ?_)⟩
      · obtain ⟨t, rfl⟩ := List.length_eq_one_iff.mp hts
        cases tr
        have hxl := (rok x hx).2.2
        refine ⟨_, rfl, rfl, _, _, rfl, rfl, _, rfl, ?_⟩
        cases x with
        | inl d =>
          have hdm : d ∈ dx := by
            rcases List.mem_append.mp hx with z | z
            · obtain ⟨d', hd', e⟩ := List.mem_map.mp z; cases e; exact hd'
            · obtain ⟨d', hd', e⟩ := List.mem_map.mp z; cases e
          obtain ⟨c, r, e, hc⟩ := deal_first (h1.1.1 d hdm).1
          rw [starts_not (x := txR (.inl d)) e hc]
          exact ⟨_, rfl, d, rfl, h1.1.1 d hdm, h1.2.1 d hdm, hxl, fun v H4 s4 t4 => cont _ v [_] H4 rfl rfl s4 t4⟩
        | inr m =>
          obtain ⟨r, e⟩ := make_first m
          rw [starts_yes (x := txR (.inr m)) e]
          exact cn rfl [_] _ rfl (Same.refl _)
      rw [rows_d] at ht
      have s13 := s1.trans s3
      refine ⟨_, rfl, q, rfl, ⟨_, SqL.of (s3 _ _ hq1)⟩, compN (k := 1) (fs := []) (rowsP (dx, mx)) (fun x => PyData.str (txR x)) dyM rfl (s3 _ _ hq1) (trs_strs txR _) (by omega) (fun x hx H4 ts v R ss hts tr cont cn => ?_) (fun D2 H4 zs hD2 s4 hd2 ht2 => ?_)⟩
      · obtain ⟨t, rfl⟩ := List.length_eq_one_iff.mp hts
        cases tr
        have hxl := (rok x hx).2.2
        refine ⟨_, rfl, rfl, _, _, rfl, rfl, _, rfl, ?_⟩
        cases x with
        | inl d =>
          have hdm : d ∈ dx := by
            rcases List.mem_append.mp hx with z | z
            · obtain ⟨d', hd', e⟩ := List.mem_map.mp z; cases e; exact hd'
            · obtain ⟨d', hd', e⟩ := List.mem_map.mp z; cases e
          obtain ⟨c, r, e, hc⟩ := deal_first (h1.1.1 d hdm).1
          rw [starts_not (x := txR (.inl d)) e hc]
          exact cn rfl [_] _ rfl (Same.refl _)
        | inr m =>
          have hdm : m ∈ mx := by
            rcases List.mem_append.mp hx with z | z
            · obtain ⟨d', hd', e⟩ := List.mem_map.mp z; cases e
            · obtain ⟨d', hd', e⟩ := List.mem_map.mp z; cases e; exact hd'
          obtain ⟨r, e⟩ := make_first m
          rw [starts_yes (x := txR (.inr m)) e]
          exact ⟨_, rfl, m, rfl, h1.1.2 m hdm, h1.2.2.1 m hdm, hxl, fun v H4 s4 t4 => cont _ v [_] H4 rfl rfl s4 t4⟩
      rw [rows_m] at ht2
      have s14 := s13.trans s4
      refine ⟨_, rfl, _, rfl, (by show 2 ≤ sizeLine; decide), fun z hz => ?_⟩
      have s5 := Same.upd (o := HO.tup [.ref D, .ref D2]) hz
      exact k _ _ (s14.trans s5) (.tup (off_at (s14.free hz) upd_same) (.cons (.lst (off_at (s1.free hD) (s5 _ _ (s4 _ _ hd))) ((ht.same (off_less s1)).same (off_mono (s4.trans s5)))) (.cons (.lst (off_at (s13.free hD2) (s5 _ _ hd2)) ((ht2.same (off_less s13)).same (off_mono s5))) .nil))) ⟨z, D, D2, rfl, upd_same, fun y => by rw [← y, hd] at hD2; cases hD2⟩
theorem ok_readhistory (T : Tx K mg) : FnOk P w K mg base CX0 7 T.f_readhistory T.d_readhistory ["text"] spRdHist := by
  refine T.F_readhistory.ok sc_readhistory (fun vs H Q E h => ?_) (fun cdv A outer s H vs Q E hr h => ?_)
  · obtain ⟨p, rfl, _⟩ := h
    rfl
  · obtain ⟨⟨dx, mx⟩, rfl, h1, h2, h3, h4, k⟩ := h
    refine ⟨_, (pss_cons (ps_tryN (pss_one (ps_set (i := 1) sc_readhistory.nd rfl (Or.inl rfl) (pe_call ((ok_readrows T).mono (by decide)) hr rfl T.m_readrows T.F_readrows.kp T.b_readrows .nil pass0 (pa_cons (pv 0) pa_nil)))))
      (pss_cons (ps_if (PW.pt (pw_or (pt_not (pt_val (pe_call ((ok_ishistory T).mono (by decide)) hr rfl T.m_ishistory T.F_ishistory.kp T.b_ishistory .nil pass0 (pa_cons (pv 1) pa_nil)))) (pw_or1 (pt_cmpR op_ne (pe_call ((ok_showhistory T).mono (by decide)) hr rfl T.m_showhistory T.F_showhistory.kp T.b_showhistory .nil pass0 (pa_cons (pv 1) pa_nil)) (pv 0) (nomark _)))))
      (pss_one ps_never)
      pss_nil)
      (pss_one (ps_ret (pv 1))))), ?_⟩
    refine ⟨_, rfl, (dx, mx), rfl, h1, fun v H2 s2 t2 tw => ?_⟩
    refine ⟨_, rfl, v, (dx, mx), rfl, t2.same off_sub, h2, h3, fun H3 s3 => ⟨_, rfl, ?_⟩⟩
    rw [h4]
    refine iteF ?_
    refine ⟨_, rfl, v, (dx, mx), rfl, (t2.same off_sub).same s3, h1.1, h2, fun H4 s4 => ⟨_, rfl, rfl, _, rfl, iteDN rfl ?_⟩⟩
    exact ⟨_, rfl, k _ _ (s2.trans (s3.trans s4)) (t2.same (off_mono (s3.trans s4))) (by obtain ⟨f, b, c, e1, e2, e3⟩ := tw; exact ⟨f, b, c, e1, (s3.trans s4) _ _ e2, e3⟩)⟩
--@STAGE
noncomputable def mixF (c k : Int) : Int := ((c + 7919 * k + 5) * 48271 % 2147483647) * ((c + 7919 * k + 5) * 48271 % 2147483647) % 2147483629
theorem mixF_nonneg (c k : Int) : 0 ≤ mixF c k := Int.emod_nonneg _ (by decide)
theorem mixF_lt (c k : Int) : mixF c k < 2147483629 := Int.emod_lt_of_pos _ (by decide)
noncomputable def spMix : Sp := fun vs H Q _ => ∃ c k : Int, vs = [.int c, .int k] ∧ Q (.int (mixF c k)) H
noncomputable def spCell (K : PySem.W.Frag) : Sp := fun vs H Q _ => ∃ (a : Addr) (ns : List Int) (k : Int), vs = [.ref a, .int k] ∧ SqL K H a (ns.map V.int) ∧ 0 ≤ k ∧ ∀ c : Int, Q (.int c) H
noncomputable def spotsF (w : Str) (l : Int) : Int := if w = "kept" then l + 1 else if w = "make" then 2 else 1
noncomputable def placeF (w : Str) (k : Int) : Int := if w = "kept" then k else 0
noncomputable def firstF (w : Str) (k : Int) : Int := if w = "kept" then k else 0
noncomputable def spSpots : Sp := fun vs H Q _ => ∃ (w : Str) (l : Int), vs = [.str w, .int l] ∧ Q (.int (spotsF w l)) H
noncomputable def spPlace : Sp := fun vs H Q _ => ∃ (w : Str) (l : Int), vs = [.str w, .int l] ∧ Q (.int (placeF w l)) H
noncomputable def spFirst : Sp := fun vs H Q _ => ∃ (w : Str) (l : Int), vs = [.str w, .int l] ∧ Q (.int (firstF w l)) H
noncomputable abbrev Drn := Int × Str × Int
noncomputable def dDrn (d : Drn) : PyData := .tuple [.int d.1, .str d.2.1, .int d.2.2]
noncomputable def GoodD (ds : List Drn) : Prop := ds.length ≤ 8 ∧ (ds.map (·.1)).Pairwise (· < ·) ∧ (∀ d ∈ ds, 1 ≤ d.1 ∧ d.1 ≤ 8 ∧ d.2.1 ∈ lvls ∧ 0 ≤ d.2.2 ∧ d.2.2 ≤ 7) ∧ (3 < ds.length → ∀ d ∈ ds, d.2.2 ≤ 3)
noncomputable def spDeals (K : PySem.W.Frag) : Sp := fun vs H Q _ => ∃ (a : Addr) (ns : List Int) (wv : V), vs = [.ref a, wv] ∧ SqL K H a (ns.map V.int) ∧ (wv = .non ∨ ∃ x ∈ lvls, wv = .str x) ∧
  ∀ v H' ds, Same H H' → Tr (off H H') v (.list (ds.map dDrn)) → GoodD ds → (∀ x, wv = .str x → ∀ d ∈ ds, d.2.1 = x) → Q v H'
noncomputable def cnt (os : List Pr) (i : Nat) (n : Int) : Nat := ((os.take i).filter fun p => p.1 == n).length
noncomputable def Walk (ds : List Drn) (os : List Pr) : Prop := ∀ i n g, os[i]? = some (n, g) → g = (cnt os i n : Int) ∧ ∃ d ∈ ds, d.1 = n ∧ g < spotsF d.2.1 d.2.2
noncomputable def spOrder (K : PySem.W.Frag) : Sp := fun vs H Q _ => ∃ (a : Addr) (ns : List Int) (dv : V) (ds : List Drn), vs = [.ref a, dv] ∧ SqL K H a (ns.map V.int) ∧ Tr H dv (.list (ds.map dDrn)) ∧ GoodD ds ∧
  ∀ v H' os, Same H H' → Tr (off H H') v (.list (os.map dPair)) → Walk ds os → os.length ≤ 100 → Q v H'
noncomputable def GoodK (ks : List Int) : Prop := ks.length = 4 ∧ ks.Pairwise (· < ·) ∧ ∀ k ∈ ks, Bd k
noncomputable def spKeys : Sp := fun vs H Q _ => ∃ c : Int, vs = [.int c] ∧ 0 ≤ c ∧ c < 2147483629 ∧ ∀ D H' ks, H D = none → Same H H' → H' D = some (.lst (ks.map V.int)) → GoodK ks → Q (.ref D) H'
noncomputable def LookOf (ks ls : List Int) (l : Lk) : Prop := (l.map (·.1)).Pairwise (· < ·) ∧ l.length ≤ 4 ∧ ∀ p ∈ l, ∃ j : Nat, j < 4 ∧ ks[j]? = some p.1 ∧ (p.2 = -1 ∨ ls[j]? = some p.2)
noncomputable def spLook : Sp := fun vs H Q _ => ∃ (ka la : Addr) (ks ls : List Int) (n : Int) (b : Bool), vs = [.ref ka, .ref la, .int n, .bl b] ∧ H ka = some (.lst (ks.map V.int)) ∧ H la = some (.lst (ls.map V.int)) ∧ GoodK ks ∧ ls.length = 4 ∧
  ∀ v H' l, Same H H' → Tr (off H H') v (dLook l) → LookOf ks ls l → Q v H'
theorem ok_Lmixed (T : Tx K mg) : FnOk P w K mg base CX0 1 T.f_Lmixed T.d_Lmixed ["_law_cell_here", "_law_k"] spMix := by
  refine T.F_Lmixed.ok sc_Lmixed (fun vs H Q E h => ?_) (fun cdv A outer s H vs Q E hr h => ?_)
  · obtain ⟨c, k, rfl, _⟩ := h
    rfl
  · obtain ⟨c, k, rfl, q⟩ := h
    refine ⟨_, (pss_cons (ps_set (i := 2) sc_Lmixed.nd rfl (Or.inl rfl) (pe_op op_mod (pe_op op_mul (pe_op op_add (pe_op op_add (pv 0) (pe_op op_mul pe_int (pv 1))) pe_int) pe_int) pe_int))
      (pss_one (ps_ret (pe_op op_mod (pe_op op_mul (pv 2) (pv 2)) pe_int)))), ?_⟩
    refine ⟨_, rfl, _, rfl, _, _, rfl, rfl, .inl ⟨by decide, by decide⟩, _, _, rfl, rfl, _, _, rfl, rfl, _, _, rfl, rfl, .inr ⟨by decide, by decide⟩, _, _, rfl, rfl, (by show (0 : Int) < 2147483647; decide), ?_⟩
    have a1 := Int.emod_nonneg ((c + 7919 * k + 5) * 48271) (show (2147483647 : Int) ≠ 0 by decide)
    have a2 := Int.emod_lt_of_pos ((c + 7919 * k + 5) * 48271) (show (0 : Int) < 2147483647 by decide)
    exact ⟨_, rfl, _, rfl, _, _, rfl, rfl, .inl ⟨by omega, by omega⟩, _, _, rfl, rfl, (by show (0 : Int) < 2147483629; decide), q⟩
theorem ok_Lcell (T : Tx K mg) : FnOk P w K mg base CX0 2 T.f_Lcell T.d_Lcell ["_law_script", "_law_k"] (spCell K) := by
  refine T.F_Lcell.ok sc_Lcell (fun vs H Q E h => ?_) (fun cdv A outer s H vs Q E hr h => ?_)
  · obtain ⟨a, ns, k, rfl, _⟩ := h
    rfl
  · obtain ⟨a, ns, k, rfl, ha, hk, q⟩ := h
    refine ⟨_, (pss_cons (ps_if (pt_cmpR op_lt (pv 1) (pe_callB call_len (by rfl) T.z_len boot_len (pa_cons (pv 0) pa_nil)) (nomark _))
      (pss_one (ps_ret (pe_ix ix_list (pv 0) (pv 1) (fun _ _ => rfl))))
      pss_nil)
      (pss_cons (ps_if (pt_cmpR op_gt (pe_callB call_len (by rfl) T.z_len boot_len (pa_cons (pv 0) pa_nil)) pe_int (nomark _))
      (pss_one (ps_ret (pe_call ((ok_Lmixed T).mono (by decide)) hr rfl T.m_Lmixed T.F_Lmixed.kp T.b_Lmixed .nil pass0 (pa_cons (pe_ix ix_list (pv 0) (pe_op op_mod (pv 1) (pe_callB call_len (by rfl) T.z_len boot_len (pa_cons (pv 0) pa_nil))) (fun _ _ => rfl)) (pa_cons (pv 1) pa_nil)))))
      pss_nil)
      (pss_one (ps_ret (pe_call ((ok_Lmixed T).mono (by decide)) hr rfl T.m_Lmixed T.F_Lmixed.kp T.b_Lmixed .nil pass0 (pa_cons pe_int (pa_cons (pv 1) pa_nil))))))), ?_⟩
    refine ⟨_, rfl, _, rfl, _, _, rfl, .inl ⟨_, ha, rfl⟩, _, _, rfl, rfl, _, rfl, ite2 (fun e => ?_) (fun e => ?_)⟩
    · have e1 : k < ((ns.map V.int).length : Int) := of_decide_eq_true e
      obtain ⟨v, hv⟩ := atI_lt (xs := ns.map V.int) hk e1
      obtain ⟨z, hz, rfl⟩ := List.mem_map.mp (atI_mem hv)
      exact ⟨_, rfl, _, rfl, a, _, _, _, rfl, rfl, ha, hv, q z⟩
    · refine ⟨_, rfl, _, _, rfl, .inl ⟨_, ha, rfl⟩, _, _, rfl, rfl, _, rfl, ite2 (fun e2 => ?_) (fun e2 => ?_)⟩
      · have e3 : (0 : Int) < ((ns.map V.int).length : Int) := of_decide_eq_true e2
        obtain ⟨v, hv⟩ := atI_lt (xs := ns.map V.int) (Int.emod_nonneg k (Int.ne_of_gt e3)) (Int.emod_lt_of_pos k e3)
        obtain ⟨z, hz, rfl⟩ := List.mem_map.mp (atI_mem hv)
        exact ⟨_, rfl, _, rfl, _, rfl, _, _, rfl, .inl ⟨_, ha, rfl⟩, _, _, rfl, rfl, e3, a, _, _, _, rfl, rfl, ha, hv, _, rfl, _, _, rfl, q _⟩
      · exact ⟨_, rfl, _, _, rfl, q _⟩
theorem str_dec (x y : Str) : decide (V.str x = V.str y) = decide (x = y) := by
  rw [Bool.eq_iff_iff, decide_eq_true_iff, decide_eq_true_iff]
  exact ⟨V.str.inj, congrArg V.str⟩
theorem ok_Lspots (T : Tx K mg) : FnOk P w K mg base CX0 1 T.f_Lspots T.d_Lspots ["_law_word", "_law_looks"] spSpots := by
  refine T.F_Lspots.ok sc_Lspots (fun vs H Q E h => ?_) (fun cdv A outer s H vs Q E hr h => ?_)
  · obtain ⟨c, k, rfl, _⟩ := h
    rfl
  · obtain ⟨wd, l, rfl, q⟩ := h
    refine ⟨_, (pss_cons (ps_if (pt_cmpR op_eq (pv 0) pe_str (nomark _))
      (pss_one (ps_ret (pe_op op_add (pv 1) pe_int)))
      pss_nil)
      (pss_one (ps_ret (pe_op op_add pe_int (pe_callTy call_int1 (by rfl) T.z_int boot_int (pa_cons (pe_cmpR op_eq (pv 0) pe_str (nomark _)) pa_nil)))))), ?_⟩
    unfold spotsF at q
    refine ⟨_, rfl, rfl, _, rfl, ?_⟩
    rw [str_dec]
    refine ite2 (fun e => ?_) (fun e => ?_)
    · have e' := of_decide_eq_true e
      rw [if_pos e'] at q
      exact ⟨_, rfl, _, _, rfl, rfl, q⟩
    · have e' : ¬ wd = ("kept" : Str) := fun z => e (decide_eq_true z)
      rw [if_neg e'] at q
      refine ⟨_, rfl, rfl, .inr ⟨_, rfl, _, _, rfl, rfl, ?_⟩⟩
      rw [str_dec]
      by_cases f : wd = ("make" : Str)
      · rw [if_pos f] at q
        rw [decide_eq_true f]
        exact q
      · rw [if_neg f] at q
        rw [decide_eq_false f]
        exact q
theorem ok_Lplace (T : Tx K mg) : FnOk P w K mg base CX0 1 T.f_Lplace T.d_Lplace ["_law_word", "_law_k"] spPlace := by
  refine T.F_Lplace.ok sc_Lplace (fun vs H Q E h => ?_) (fun cdv A outer s H vs Q E hr h => ?_)
  · obtain ⟨c, k, rfl, _⟩ := h
    rfl
  · obtain ⟨wd, l, rfl, q⟩ := h
    refine ⟨_, (pss_cons (ps_if (pt_cmpR op_eq (pv 0) pe_str (nomark _))
      (pss_one (ps_ret (pv 1)))
      pss_nil)
      (pss_one (ps_ret pe_int))), ?_⟩
    unfold placeF at q
    refine ⟨_, rfl, rfl, _, rfl, ?_⟩
    rw [str_dec]
    refine ite2 (fun e => ?_) (fun e => ?_)
    · rw [if_pos (of_decide_eq_true e)] at q
      exact ⟨_, rfl, q⟩
    · rw [if_neg (fun z => e (decide_eq_true z))] at q
      exact q
theorem ok_Lfirst (T : Tx K mg) : FnOk P w K mg base CX0 1 T.f_Lfirst T.d_Lfirst ["_law_word", "_law_looks"] spFirst := by
  refine T.F_Lfirst.ok sc_Lfirst (fun vs H Q E h => ?_) (fun cdv A outer s H vs Q E hr h => ?_)
  · obtain ⟨c, k, rfl, _⟩ := h
    rfl
  · obtain ⟨wd, l, rfl, q⟩ := h
    refine ⟨_, (pss_cons (ps_if (pt_cmpR op_eq (pv 0) pe_str (nomark _))
      (pss_one (ps_ret (pv 1)))
      pss_nil)
      (pss_one (ps_ret pe_int))), ?_⟩
    unfold firstF at q
    refine ⟨_, rfl, rfl, _, rfl, ?_⟩
    rw [str_dec]
    refine ite2 (fun e => ?_) (fun e => ?_)
    · rw [if_pos (of_decide_eq_true e)] at q
      exact ⟨_, rfl, q⟩
    · rw [if_neg (fun z => e (decide_eq_true z))] at q
      exact q
theorem atI_one {xs : List V} {i : Int} {v : V} (j : Nat) (e : i = (j : Int)) (h : xs[j]? = some v) : atI xs i = some v := by
  rw [e]
  exact atI_nat h
theorem keys_up (b st : Int) (h : 1 ≤ st) : ([b, b + st, b + 2 * st, b + 3 * st]).Pairwise (· < ·) := by
  refine List.pairwise_cons.mpr ⟨fun x hx => ?_, List.pairwise_cons.mpr ⟨fun x hx => ?_, List.pairwise_cons.mpr ⟨fun x hx => ?_, List.pairwise_singleton _ _⟩⟩⟩ <;> simp only [List.mem_cons, List.not_mem_nil, or_false] at hx <;> omega
theorem ok_Lkeys (T : Tx K mg) : FnOk P w K mg base CX0 1 T.f_Lkeys T.d_Lkeys ["_law_cell_here"] spKeys := by
  refine T.F_Lkeys.ok sc_Lkeys (fun vs H Q E h => ?_) (fun cdv A outer s H vs Q E hr h => ?_)
  · obtain ⟨c, rfl, _⟩ := h
    rfl
  · obtain ⟨c, rfl, c0, c1, q⟩ := h
    refine ⟨_, (pss_cons (ps_set (i := 1) sc_Lkeys.nd rfl (Or.inr rfl) (pe_op op_mod (pe_op op_mul (pe_op op_add (pv 0) pe_int) pe_int) (pe_op op_pow pe_int pe_int)))
      (pss_cons (ps_set (i := 2) sc_Lkeys.nd rfl (Or.inr rfl) (pe_op op_add pe_int (pe_op op_mul (pe_op op_mod (pe_op op_fdiv (pv 0) pe_int) pe_int) (pe_op op_mod (pe_op op_fdiv (pv 0) pe_int) (pe_op op_pow pe_int pe_int)))))
      (pss_cut (ps_if (pt_cmpR op_gt (pe_op op_mod (pv 0) pe_int) pe_int (nomark _))
      (pss_one (ps_set (i := 2) sc_Lkeys.nd rfl (Or.inr rfl) pe_int))
      pss_nil)
      (pss_cons (ps_set (i := 1) sc_Lkeys.nd rfl (Or.inr rfl) (pe_ix ix_list (pe_lst (pa_cons pe_int (pa_cons (pe_un un_neg pe_int) (pa_cons (pv 1) (pa_cons (pe_op op_sub pe_int (pv 1)) (pa_cons (pe_op op_sub (pe_op op_pow pe_int pe_int) pe_int) (pa_cons (pe_op op_sub pe_int (pe_op op_pow pe_int pe_int)) pa_nil))))))) (pe_op op_mod (pv 0) pe_int) (fun _ _ => rfl)))
      (pss_one (ps_ret (pe_compF ["_law_k"] rfl (CompSc.mk (fv := ["_law_base", "_law_step"]) (js := [1, 2]) rfl (by decide +kernel) (by decide +kernel) (by decide +kernel) (allc_cons (Or.inl rfl) (allc_cons (Or.inl rfl) allc_nil)) rfl (by decide +kernel)) (pi_range1 rfl T.z_range (pa_cons pe_int pa_nil)) (fun _ _ _ _ _ => (pg_name (i := 0) (show (["_law_k", "_law_base", "_law_step"] : List Str).Nodup by decide +kernel) rfl (Or.inl rfl))) (fun _ _ _ _ _ => pf_nil) (fun _ _ _ _ _ => (pe_op op_add (pv 1) (pe_op op_mul (pv 0) (pv 2))))))))))), ?_⟩
    refine foldS fun b' hb' => ?_
    have e28 : (10 : Int) ^ (28 : Int).toNat = 10000000000000000000000000000 := by decide
    have e27 : (10 : Int) ^ (27 : Int).toNat = 1000000000000000000000000000 := by decide
    have e30 : (10 : Int) ^ (30 : Int).toNat = 1000000000000000000000000000000 := by decide
    have e30' : (10 : Int) ^ 30 = 1000000000000000000000000000000 := by decide
    have b0 := Int.emod_nonneg ((c + 1) * 618033988749894848) (show (10 : Int) ^ (28 : Int).toNat ≠ 0 by decide)
    have b1 := Int.emod_lt_of_pos ((c + 1) * 618033988749894848) (show (0 : Int) < (10 : Int) ^ (28 : Int).toNat by decide)
    have x0 := Int.emod_nonneg (c / 4) (show (3 : Int) ≠ 0 by decide)
    have x1 := Int.emod_lt_of_pos (c / 4) (show (0 : Int) < 3 by decide)
    have y0 := Int.emod_nonneg (c / 12) (show (10 : Int) ^ (27 : Int).toNat ≠ 0 by decide)
    have y1 := Int.emod_lt_of_pos (c / 12) (show (0 : Int) < (10 : Int) ^ (27 : Int).toNat by decide)
    refine ⟨_, rfl, _, _, rfl, rfl, _, _, rfl, rfl, .inl ⟨by omega, by omega⟩, _, _, rfl, rfl, ⟨by decide, by decide, by decide⟩, _, _, rfl, rfl, (by show (0 : Int) < (10 : Int) ^ (28 : Int).toNat; decide), ?_⟩
    subst hb'; refine foldN fun b' hb' => ?_
    refine ⟨_, rfl, _, _, rfl, rfl, ⟨by decide, by decide⟩, _, _, rfl, rfl, (by show (0 : Int) < 3; decide), _, rfl, _, _, rfl, rfl, ⟨by decide, by decide⟩, _, _, rfl, rfl, ⟨by decide, by decide, by decide⟩, _, _, rfl, rfl, (by show (0 : Int) < (10 : Int) ^ (27 : Int).toNat; decide), _, _, rfl, rfl, .inl ⟨by omega, by omega⟩, _, _, rfl, rfl, ?_⟩
    obtain ⟨B, eB⟩ : ∃ B : Int, (c + 1) * 618033988749894848 % (10 : Int) ^ (28 : Int).toNat = B := ⟨_, rfl⟩
    have hS : ∃ S : Int, 1 + c / 4 % 3 * (c / 12 % (10 : Int) ^ (27 : Int).toNat) = S ∧ 1 ≤ S ∧ S ≤ 3000000000000000000000000000 := by
      generalize c / 12 % (10 : Int) ^ (27 : Int).toNat = Y at *
      rw [e27] at y1
      have : c / 4 % 3 = 0 ∨ c / 4 % 3 = 1 ∨ c / 4 % 3 = 2 := by omega
      refine ⟨_, rfl, ?_⟩
      rcases this with z | z | z <;> rw [z] <;> omega
    obtain ⟨S, eS, hS1, hS2⟩ := hS
    rw [eB] at b0 b1
    rw [e28] at b1
    subst hb'
    refine ⟨fun σ H2 => H2 = H ∧ ∃ S', σ = [some (.int c), some (.int B), some (.int S')] ∧ 1 ≤ S' ∧ S' ≤ 3000000000000000000000000000 ∧ (3 < c % 6 → S' = 1), ?_, ?_⟩
    · refine ⟨_, rfl, _, _, rfl, rfl, (by show (0 : Int) < 6; decide), _, _, rfl, rfl, _, rfl, ite2 (fun e => ?_) (fun e => ?_)⟩
      · exact ⟨rfl, 1, by rw [← eB]; rfl, by decide, by decide, fun _ => rfl⟩
      · exact ⟨rfl, S, by rw [← eB, ← eS]; rfl, hS1, hS2, fun z => absurd (decide_eq_true z) e⟩
    rintro σ H2 ⟨rfl, S', rfl, g1, g2, g3⟩
    refine foldS fun b' hb' => ?_
    refine ⟨_, rfl, _, rfl, _, rfl, _, _, rfl, rfl, _, _, rfl, rfl, ⟨by decide, by decide, by decide⟩, _, _, rfl, rfl, _, _, rfl, rfl, ⟨by decide, by decide, by decide⟩, _, _, rfl, rfl, (by show 6 ≤ sizeLine; decide), fun p hp => ?_⟩
    refine ⟨_, rfl, _, _, rfl, rfl, (by show (0 : Int) < 6; decide), ?_⟩
    have s1 := Same.upd (o := HO.lst [.int 0, .int (-2), .int B, .int (0 - B), .int ((10 : Int) ^ (30 : Int).toNat - 4), .int (1 - (10 : Int) ^ (30 : Int).toNat)]) hp
    have hp1 : upd H2 p (.lst [.int 0, .int (-2), .int B, .int (0 - B), .int ((10 : Int) ^ (30 : Int).toNat - 4), .int (1 - (10 : Int) ^ (30 : Int).toNat)]) p = some (.lst [.int 0, .int (-2), .int B, .int (0 - B), .int ((10 : Int) ^ (30 : Int).toNat - 4), .int (1 - (10 : Int) ^ (30 : Int).toNat)]) := upd_same
    have hb : ∃ b : Int, atI [V.int 0, .int (-2), .int B, .int (0 - B), .int ((10 : Int) ^ (30 : Int).toNat - 4), .int (1 - (10 : Int) ^ (30 : Int).toNat)] (c % 6) = some (.int b) ∧ -(10 ^ 30) < b ∧ b + 3 * S' < 10 ^ 30 := by
      have h6 : c % 6 = 0 ∨ c % 6 = 1 ∨ c % 6 = 2 ∨ c % 6 = 3 ∨ c % 6 = 4 ∨ c % 6 = 5 := by omega
      rw [e30', e30]
      rcases h6 with z | z | z | z | z | z
      · exact ⟨_, atI_one 0 z rfl, by omega, by omega⟩
      · exact ⟨_, atI_one 1 z rfl, by omega, by omega⟩
      · exact ⟨_, atI_one 2 z rfl, by omega, by omega⟩
      · exact ⟨_, atI_one 3 z rfl, by omega, by omega⟩
      · have := g3 (by omega)
        exact ⟨_, atI_one 4 z rfl, by omega, by omega⟩
      · have := g3 (by omega)
        exact ⟨_, atI_one 5 z rfl, by omega, by omega⟩
    obtain ⟨b, hb1, hb2, hb3⟩ := hb
    refine ⟨p, _, _, _, rfl, rfl, SqL.of hp1, hb1, ?_⟩
    generalize upd H2 p (.lst [.int 0, .int (-2), .int B, .int (0 - B), .int ((10 : Int) ^ (30 : Int).toNat - 4), .int (1 - (10 : Int) ^ (30 : Int).toNat)]) = H3 at *
    subst hb'
    refine ⟨4, rfl, by decide, by decide, compQF_map (k := 1) (fs := [some (.int b), some (.int S')]) 4 (fun i => some (.int (b + (0 + (i : Int)) * S'))) rfl (by decide) (fun j H3 _ hj => hj) (fun H3 _ => Nat.le_refl 4) ?_ ?_⟩
    · rintro j H4 ts v H5 R ss hj hts ⟨rfl, rfl⟩ cb
      obtain ⟨t, rfl⟩ := List.length_eq_one_iff.mp hts
      exact ⟨_, rfl, _, rfl, _, rfl, _, _, rfl, rfl, .inl ⟨by omega, by omega⟩, _, _, rfl, rfl, cb [_] _ rfl (Same.refl _)⟩
    · intro D H4 hD ss hd
      have ek : (List.range 4).filterMap (fun (i : Nat) => some (V.int (b + (0 + (i : Int)) * S'))) = ([b, b + S', b + 2 * S', b + 3 * S'] : List Int).map V.int := by
        show [V.int (b + (0 + ((0 : Nat) : Int)) * S'), V.int (b + (0 + ((1 : Nat) : Int)) * S'), V.int (b + (0 + ((2 : Nat) : Int)) * S'), V.int (b + (0 + ((3 : Nat) : Int)) * S')] = [V.int b, V.int (b + S'), V.int (b + 2 * S'), V.int (b + 3 * S')]
        simp
      rw [ek] at hd
      refine q D H4 _ (s1.free hD) (s1.trans ss) hd ⟨rfl, keys_up b S' g1, fun k hk => ?_⟩
      simp only [List.mem_cons, List.not_mem_nil, or_false] at hk
      rcases hk with rfl | rfl | rfl | rfl <;> exact ⟨by omega, by omega⟩
theorem ok_Llook (T : Tx K mg) : FnOk P w K mg base CX0 1 T.f_Llook T.d_Llook ["_law_keys_here", "_law_last", "_law_number", "_law_strange"] spLook := by
  refine T.F_Llook.ok sc_Llook (fun vs H Q E h => ?_) (fun cdv A outer s H vs Q E hr h => ?_)
  · obtain ⟨a1, a2, a3, a4, a5, a6, rfl, _⟩ := h
    rfl
  · obtain ⟨ka, la, ks, ls, n, sb, rfl, hka, hla, gk, l4, q⟩ := h
    refine ⟨_, (pss_cons (ps_set (i := 4) sc_Llook.nd rfl (Or.inl rfl) (pe_lst pa_nil))
      (pss_cons (ps_for PassesOwn.never rfl (pi_range1 rfl T.z_range (pa_cons pe_int pa_nil)) (pg_name (i := 5) sc_Llook.nd rfl (Or.inl rfl))
      (pss_one (ps_if (pt_cmpR op_eq (pe_op op_mod (pe_op op_fdiv (pv 2) (pe_ix ix_list (pe_lst (pa_cons pe_int (pa_cons pe_int (pa_cons pe_int (pa_cons pe_int pa_nil))))) (pv 5) (fun _ _ => rfl))) pe_int) pe_int (nomark _))
      (pss_cons (ps_set (i := 6) sc_Llook.nd rfl (Or.inl rfl) (pe_ix ix_list (pv 1) (pv 5) (fun _ _ => rfl)))
      (pss_cut (ps_if (PW.pt (pw_and (pt_val (pv 3)) (pw_and1 (pt_cmpR op_eq (pe_op op_mod (pe_op op_fdiv (pv 2) pe_int) pe_int) pe_int (nomark _)))))
      (pss_one (ps_set (i := 6) sc_Llook.nd rfl (Or.inl rfl) (pe_un un_neg pe_int)))
      pss_nil)
      (pss_one (ps_expr (pe_bm PySem.F.plainAttrs_list PySem.F.slot_list_append PySem.F.type_list_append mt_appendA (pv 4) (pa_cons (pe_tup (pa_cons (pe_ix ix_list (pv 0) (pv 5) (fun _ _ => rfl)) (pa_cons (pv 6) pa_nil))) pa_nil))))))
      pss_nil)))
      (pss_one (ps_ret (pv 4))))), ?_⟩
    have z9 : (5 : Nat) ≤ sizeLine := by decide
    obtain ⟨gk1, gk2, gk3⟩ := gk
    refine ⟨(by show 0 ≤ sizeLine; decide), fun D hD => ?_⟩
    have s1 := Same.upd (o := HO.lst []) hD
    refine ⟨4, rfl, by decide, by decide, for_range (lo := 0) (n := 4) (fun i σ H2 => ∃ (x5 x6 : Option V) (xs : List V) (l : Lk), σ = [some (.ref ka), some (.ref la), some (.int n), some (.bl sb), some (.ref D), x5, x6] ∧ Same H H2 ∧ H2 D = some (.lst xs) ∧ Trs (butD (off H H2) D) xs (l.map dPair) ∧ (l.map (·.1)).Pairwise (· < ·) ∧ l.length ≤ i ∧ ∀ p ∈ l, ∃ j : Nat, j < i ∧ ks[j]? = some p.1 ∧ (p.2 = -1 ∨ ls[j]? = some p.2))
      ⟨none, none, [], [], rfl, s1, upd_same, .nil, .nil, Nat.le_refl _, fun p h => by cases h⟩ ?_ ?_⟩
    · rintro i σ H2 hi ⟨x5, x6, xs, l, rfl, s2, h2, ht, hpw, hll, hal⟩
      refine hideG fun D' hD' => ?_
      have hxs : xs.length < sizeLine := by rw [ht.len, List.length_map]; omega
      have hz : ∃ z : Int, 0 < z ∧ z < 1073741824 ∧ atI [V.int 1, .int 2, .int 4, .int 8] (0 + (i : Int)) = some (.int z) := by
        have : i = 0 ∨ i = 1 ∨ i = 2 ∨ i = 3 := by omega
        rcases this with rfl | rfl | rfl | rfl
        · exact ⟨1, by decide, by decide, atI_one 0 rfl rfl⟩
        · exact ⟨2, by decide, by decide, atI_one 1 rfl rfl⟩
        · exact ⟨4, by decide, by decide, atI_one 2 rfl rfl⟩
        · exact ⟨8, by decide, by decide, atI_one 3 rfl rfl⟩
      obtain ⟨z, z0, z1, hz⟩ := hz
      have ek : ks[i]? = some ks[i] := List.getElem?_eq_getElem (by omega)
      have el : ls[i]? = some ls[i] := List.getElem?_eq_getElem (by omega)
      have ai : (0 + (i : Int)) = ((i : Nat) : Int) := by omega
      have hkv : atI (ks.map V.int) (0 + (i : Int)) = some (.int ks[i]) := atI_one i ai (by rw [List.getElem?_map, ek]; rfl)
      have hlv : atI (ls.map V.int) (0 + (i : Int)) = some (.int ls[i]) := atI_one i ai (by rw [List.getElem?_map, el]; rfl)
      refine ⟨_, rfl, (by show 4 ≤ sizeLine; decide), fun p hp => ⟨_, rfl, p, _, _, _, rfl, rfl, SqL.of upd_same, hz, _, _, rfl, rfl, ⟨z0, z1⟩, _, _, rfl, rfl, (by show (0 : Int) < 2; decide), rfl, _, rfl, ?_⟩⟩
      have s3 := Same.upd (o := HO.lst [.int 1, .int 2, .int 4, .int 8]) hp
      generalize upd H2 p (.lst [.int 1, .int 2, .int 4, .int 8]) = H3 at *
      have s23 := s2.trans s3
      refine ite2 (fun e => ?_) (fun e => ?_)
      · refine ⟨_, rfl, _, rfl, la, _, _, _, rfl, rfl, SqL.of (s23 _ _ hla), hlv, ?_⟩
        refine ⟨fun σ H4 => H4 = H3 ∧ ∃ sr : Int, σ = [some (.ref ka), some (.ref la), some (.int n), some (.bl sb), some (.ref D), some (.int (0 + (i : Int))), some (.int sr)] ∧ (sr = -1 ∨ ls[i]? = some sr), ?_, ?_⟩
        · refine ⟨_, rfl, _, rfl, ite2 (fun f => ?_) (fun f => ?_)⟩
          · refine ⟨_, rfl, _, _, rfl, rfl, ⟨by decide, by decide⟩, _, _, rfl, rfl, (by show (0 : Int) < 3; decide), rfl, _, rfl, ite2 (fun g => ?_) (fun g => ?_)⟩
            · exact ⟨_, rfl, rfl, -1, rfl, .inl rfl⟩
            · exact ⟨rfl, ls[i], rfl, .inr el⟩
          · exact ⟨rfl, ls[i], rfl, .inr el⟩
        rintro σ H4 ⟨rfl, sr, rfl, hsr⟩
        refine ⟨_, rfl, .inl ⟨rfl, _, SqL.of (s3 _ _ h2)⟩, _, rfl, _, rfl, ka, _, _, _, rfl, rfl, SqL.of (s23 _ _ hka), hkv, _, rfl, (by show 2 ≤ sizeLine; decide), fun t ht2 => ?_⟩
        have s4 := Same.upd (o := HO.tup [.int ks[i], .int sr]) ht2
        have ht4 : upd H4 t (.tup [.int ks[i], .int sr]) t = some (.tup [.int ks[i], .int sr]) := upd_same
        generalize upd H4 t (.tup [.int ks[i], .int sr]) = H5 at *
        refine ⟨D, xs, _, rfl, rfl, s4 _ _ (s3 _ _ h2), hxs, fun H6 h6 k6 => ?_⟩
        have tD : t ≠ D := fun zz => by rw [zz, s3 _ _ h2] at ht2; cases ht2
        have hH6 : Same H H6 := fun b o eb => k6 _ _ (fun zz => by rw [zz, hD] at eb; cases eb) (s4 _ _ (s23 _ _ eb))
        subst hD'
        refine ⟨_, _, _, l ++ [(ks[i], sr)], rfl, hH6, h6, ?_, ?_, by rw [List.length_append, List.length_singleton]; omega, ?_⟩
        · rw [List.map_append]
          refine (ht.same fun b o eb => butD_at (butD_ne eb).1 (off_at (off_none (butD_ne eb).2).1 (k6 _ _ (butD_ne eb).1 (s4 _ _ (s3 _ _ (off_none (butD_ne eb).2).2))))).app (.cons (.tup (butD_at tD (off_at (s23.free ht2) (k6 _ _ tD ht4))) (.cons (.int _) (.cons (.int _) .nil))) .nil)
        · rw [List.map_append, List.pairwise_append]
          refine ⟨hpw, List.pairwise_singleton _ _, fun x hx y hy => ?_⟩
          obtain ⟨pp, hpp, rfl⟩ := List.mem_map.mp hx
          have hy' : y = ks[i] := by simpa using hy
          obtain ⟨j, hj, ej, _⟩ := hal pp hpp
          rw [hy']
          obtain ⟨hj2, ej2⟩ := List.getElem?_eq_some_iff.mp ej
          have := List.pairwise_iff_getElem.mp gk2 j i hj2 (by omega) hj
          rw [ej2] at this
          exact this
        · intro pp hpp
          rcases List.mem_append.mp hpp with y | y
          · obtain ⟨j, hj, e1, e2⟩ := hal pp y
            exact ⟨j, by omega, e1, e2⟩
          · rw [List.mem_singleton.mp y]
            exact ⟨i, by omega, ek, hsr⟩
      · subst hD'
        exact ⟨_, _, xs, l, rfl, s23, s3 _ _ h2, ht.same fun b o eb => butD_at (butD_ne eb).1 (off_mono s3 _ _ (butD_ne eb).2), hpw, by omega, fun pp hpp => by obtain ⟨j, hj, e1, e2⟩ := hal pp hpp; exact ⟨j, by omega, e1, e2⟩⟩
    · rintro σ H2 ⟨x5, x6, xs, l, rfl, s2, h2, ht, hpw, hll, hal⟩
      exact ⟨_, rfl, q _ H2 l s2 (.lst (off_at hD h2) (ht.same butD_sub)) ⟨hpw, hll, hal⟩⟩
noncomputable def numD (sh th : Int) (j : Nat) : Int := 1 + (j : Int) + sh * (if th ≤ (j : Int) then 1 else 0)
theorem numD_lt {sh th : Int} (h : 0 ≤ sh) {i j : Nat} (hij : i < j) : numD sh th i < numD sh th j := by
  unfold numD
  by_cases h1 : th ≤ (i : Int)
  · rw [if_pos h1, if_pos (show th ≤ (j : Int) by omega)]
    omega
  · rw [if_neg h1]
    by_cases h2 : th ≤ (j : Int)
    · rw [if_pos h2]
      omega
    · rw [if_neg h2]
      omega
theorem numD_le {sh th : Int} (h : 0 ≤ sh) (j : Nat) : 1 ≤ numD sh th j ∧ numD sh th j ≤ 1 + j + sh := by
  unfold numD
  split <;> omega
theorem ok_Ldrawndeals (T : Tx K mg) : FnOk P w K mg base CX0 3 T.f_Ldrawndeals T.d_Ldrawndeals ["_law_script", "_law_word"] (spDeals K) := by
  refine T.F_Ldrawndeals.ok sc_Ldrawndeals (fun vs H Q E h => ?_) (fun cdv A outer s H vs Q E hr h => ?_)
  · obtain ⟨a1, a2, a3, rfl, _⟩ := h
    rfl
  · obtain ⟨a, ns, wv, rfl, ha, hw, q⟩ := h
    refine ⟨_, (pss_cons (ps_set (i := 2) sc_Ldrawndeals.nd rfl (Or.inl rfl) (pe_call ((ok_Lcell T).mono (by decide)) hr rfl T.m_Lcell T.F_Lcell.kp T.b_Lcell .nil pass0 (pa_cons (pv 0) (pa_cons pe_int pa_nil))))
      (pss_cons (ps_set (i := 3) sc_Ldrawndeals.nd rfl (Or.inl rfl) (pe_op op_mod (pv 2) pe_int))
      (pss_cons (ps_set (i := 4) sc_Ldrawndeals.nd rfl (Or.inl rfl) (pe_op op_mod (pe_call ((ok_Lmixed T).mono (by decide)) hr rfl T.m_Lmixed T.F_Lmixed.kp T.b_Lmixed .nil pass0 (pa_cons (pv 2) (pa_cons pe_int pa_nil))) (pe_op op_sub pe_int (pv 3))))
      (pss_cons (ps_set (i := 5) sc_Ldrawndeals.nd rfl (Or.inl rfl) pe_int)
      (pss_cut (ps_if (PW.pt (pw_and (pt_cmpR op_lt (pv 3) pe_int (nomark _)) (pw_and1 (pt_cmpR op_eq (pe_op op_mod (pe_call ((ok_Lmixed T).mono (by decide)) hr rfl T.m_Lmixed T.F_Lmixed.kp T.b_Lmixed .nil pass0 (pa_cons (pv 2) (pa_cons pe_int pa_nil))) pe_int) pe_int (nomark _)))))
      (pss_one (ps_set (i := 5) sc_Ldrawndeals.nd rfl (Or.inl rfl) pe_int))
      pss_nil)
      (pss_cons (ps_set (i := 6) sc_Ldrawndeals.nd rfl (Or.inl rfl) (pe_lst pa_nil))
      (pss_cons (ps_for PassesOwn.never rfl (pi_range1 rfl T.z_range (pa_cons (pv 3) pa_nil)) (pg_name (i := 7) sc_Ldrawndeals.nd rfl (Or.inl rfl))
      (pss_cons (ps_set (i := 8) sc_Ldrawndeals.nd rfl (Or.inl rfl) (pv 1))
      (pss_cut (ps_if (pt_cmpR op_isN (pv 1) pe_non (nomark _))
      (pss_one (ps_set (i := 8) sc_Ldrawndeals.nd rfl (Or.inl rfl) (pe_ix ix_list (pe_lst (pa_cons pe_str (pa_cons pe_str (pa_cons pe_str (pa_cons pe_str (pa_cons pe_str pa_nil)))))) (pe_op op_mod (pe_call ((ok_Lmixed T).mono (by decide)) hr rfl T.m_Lmixed T.F_Lmixed.kp T.b_Lmixed .nil pass0 (pa_cons (pv 2) (pa_cons (pe_op op_add pe_int (pv 7)) pa_nil))) pe_int) (fun _ _ => rfl))))
      pss_nil)
      (pss_cons (ps_set (i := 9) sc_Ldrawndeals.nd rfl (Or.inl rfl) (pe_op op_add (pe_op op_add pe_int (pv 7)) (pe_op op_mul (pv 4) (pe_callTy call_int1 (by rfl) T.z_int boot_int (pa_cons (pe_cmpR op_ge (pv 7) (pe_op op_mod (pe_call ((ok_Lmixed T).mono (by decide)) hr rfl T.m_Lmixed T.F_Lmixed.kp T.b_Lmixed .nil pass0 (pa_cons (pv 2) (pa_cons pe_int pa_nil))) pe_int) (nomark _)) pa_nil)))))
      (pss_one (ps_expr (pe_bm PySem.F.plainAttrs_list PySem.F.slot_list_append PySem.F.type_list_append mt_appendA (pv 6) (pa_cons (pe_tup (pa_cons (pv 9) (pa_cons (pv 8) (pa_cons (pe_op op_mod (pe_call ((ok_Lmixed T).mono (by decide)) hr rfl T.m_Lmixed T.F_Lmixed.kp T.b_Lmixed .nil pass0 (pa_cons (pv 2) (pa_cons (pe_op op_add pe_int (pv 7)) pa_nil))) (pv 5)) pa_nil)))) pa_nil))))))))
      (pss_one (ps_ret (pv 6)))))))))), ?_⟩
    refine foldS fun b' hb' => ?_
    have z9 : (9 : Nat) ≤ sizeLine := by decide
    refine ⟨_, rfl, a, ns, 0, rfl, ha, by decide, fun c => ?_⟩
    obtain ⟨m, em⟩ : ∃ m : Int, c % 9 = m := ⟨_, rfl⟩
    have m0 := Int.emod_nonneg c (show (9 : Int) ≠ 0 by decide)
    have m1 := Int.emod_lt_of_pos c (show (0 : Int) < 9 by decide)
    rw [em] at m0 m1
    subst hb'; refine foldN fun b' hb' => ?_
    refine ⟨_, rfl, _, _, rfl, rfl, (by show (0 : Int) < 9; decide), ?_⟩
    have h9 : (0 : Int) < 9 - c % 9 := by omega
    subst hb'; refine foldN fun b' hb' => ?_
    refine ⟨_, rfl, c, 1, rfl, _, rfl, _, _, rfl, rfl, _, _, rfl, rfl, h9, ?_⟩
    obtain ⟨sh, esh⟩ : ∃ sh : Int, mixF c 1 % (9 - c % 9) = sh := ⟨_, rfl⟩
    have sh0 := Int.emod_nonneg (mixF c 1) (Int.ne_of_gt h9)
    have sh1 := Int.emod_lt_of_pos (mixF c 1) h9
    rw [esh] at sh0 sh1
    rw [em] at sh1
    subst hb'
    refine ⟨fun σ H2 => H2 = H ∧ ∃ mo : Int, σ = [some (.ref a), some wv, some (.int c), some (.int m), some (.int sh), some (.int mo), none, none, none, none] ∧ (mo = 4 ∨ (mo = 8 ∧ m < 4)), ?_, ?_⟩
    · refine ⟨_, rfl, _, _, rfl, rfl, _, rfl, ite2 (fun e => ?_) (fun e => ?_)⟩
      · refine ⟨_, rfl, c, 3, rfl, _, _, rfl, rfl, (by show (0 : Int) < 3; decide), rfl, _, rfl, ite2 (fun f => ?_) (fun f => ?_)⟩
        · exact ⟨rfl, 8, by rw [← em, ← esh]; rfl, .inr ⟨rfl, by rw [← em]; exact of_decide_eq_true e⟩⟩
        · exact ⟨rfl, 4, by rw [← em, ← esh]; rfl, .inl rfl⟩
      · exact ⟨rfl, 4, by rw [← em, ← esh]; rfl, .inl rfl⟩
    rintro σ H2 ⟨rfl, mo, rfl, hmo⟩
    have mo0 : 0 < mo ∧ mo ≤ 8 := by omega
    obtain ⟨th, eth⟩ : ∃ th : Int, mixF c 2 % 8 = th := ⟨_, rfl⟩
    refine foldS fun b' hb' => ?_
    refine ⟨(by show 0 ≤ sizeLine; decide), fun D hD => ?_⟩
    have s1 := Same.upd (o := HO.lst []) hD
    subst hb'; refine foldN fun b' hb' => ?_
    refine ⟨_, rfl, m, rfl, by omega, by omega, for_range (lo := 0) (n := m.toNat) (fun i σ H3 => ∃ (x7 x8 x9 : Option V) (xs : List V) (ds : List Drn), σ = [some (.ref a), some wv, some (.int c), some (.int m), some (.int sh), some (.int mo), some (.ref D), x7, x8, x9] ∧ Same H2 H3 ∧ H3 D = some (.lst xs) ∧ Trs (butD (off H2 H3) D) xs (ds.map dDrn) ∧ ds.map (·.1) = (List.range i).map (numD sh th) ∧ ∀ d ∈ ds, d.2.1 ∈ lvls ∧ 0 ≤ d.2.2 ∧ d.2.2 < mo ∧ ∀ x, wv = .str x → d.2.1 = x)
      ⟨none, none, none, [], [], rfl, s1, upd_same, .nil, rfl, fun p h => by cases h⟩ ?_ ?_⟩
    · intro i σ H3 hi hJ'
      refine hide fun G' hG' => ?_
      obtain ⟨x7, x8, x9, xs, ds, rfl, s3, h3, ht, hnum, hal⟩ := hJ'
      refine hG' ?_
      refine hideG fun D' hD' => ?_
      have hdl : ds.length = i := by
        have := congrArg List.length hnum
        rw [List.length_map, List.length_map, List.length_range] at this
        exact this
      have hxs : xs.length < sizeLine := by rw [ht.len, List.length_map]; omega
      refine ⟨_, rfl, ?_⟩
      refine ⟨fun σ H4 => Same H3 H4 ∧ ∃ ow : Str, σ = [some (.ref a), some wv, some (.int c), some (.int m), some (.int sh), some (.int mo), some (.ref D), some (.int (0 + (i : Int))), some (.str ow), x9] ∧ ow ∈ lvls ∧ ∀ x, wv = .str x → ow = x, ?_, ?_⟩
      · rcases hw with rfl | ⟨x, hx, rfl⟩
        · refine ⟨_, rfl, rfl, _, rfl, iteDT rfl ?_⟩
          refine ⟨(by show 5 ≤ sizeLine; decide), fun p hp => ?_⟩
          obtain ⟨v, hv⟩ := atI_lt (xs := lvls.map V.str) (Int.emod_nonneg (mixF c (10 + (0 + (i : Int)))) (show (5 : Int) ≠ 0 by decide)) (Int.emod_lt_of_pos (mixF c (10 + (0 + (i : Int)))) (show (0 : Int) < 5 by decide))
          obtain ⟨x, hx, rfl⟩ := List.mem_map.mp (atI_mem hv)
          refine ⟨_, rfl, _, rfl, _, _, rfl, rfl, c, _, rfl, _, _, rfl, rfl, (by show (0 : Int) < 5; decide), p, _, _, _, rfl, rfl, SqL.of upd_same, hv, Same.upd hp, x, rfl, hx, fun x h => by cases h⟩
        · refine ⟨_, rfl, rfl, _, rfl, iteDF (fun z => by cases z) ?_⟩
          exact ⟨Same.refl _, x, rfl, hx, fun y h => by cases h; rfl⟩
      rintro σ H4 ⟨s4, ow, rfl, how, hox⟩
      refine foldS fun b2' hb2' => ?_
      refine ⟨_, rfl, _, _, rfl, rfl, _, rfl, _, rfl, _, rfl, c, 2, rfl, _, _, rfl, rfl, (by show (0 : Int) < 8; decide), _, _, rfl, rfl, .inr ⟨_, rfl, _, _, rfl, rfl, .inl ⟨by omega, by omega⟩, _, _, rfl, rfl, ?_⟩⟩
      have hlo : 0 ≤ mixF c (20 + (0 + (i : Int))) % mo ∧ mixF c (20 + (0 + (i : Int))) % mo < mo := ⟨Int.emod_nonneg _ (by omega), Int.emod_lt_of_pos _ mo0.1⟩
      subst hb2'
      refine ⟨_, rfl, .inl ⟨rfl, _, SqL.of (s4 _ _ h3)⟩, _, rfl, _, rfl, _, rfl, _, rfl, _, _, rfl, rfl, c, _, rfl, _, rfl, _, _, rfl, rfl, mo0.1, (by show 3 ≤ sizeLine; decide), fun t ht2 => ?_⟩
      have en : 1 + (0 + (i : Int)) + sh * (if decide (mixF c 2 % 8 ≤ 0 + (i : Int)) = true then 1 else 0) = numD sh th i := by
        unfold numD
        rw [eth, show (0 + (i : Int)) = (i : Int) by omega]
        by_cases g : th ≤ (i : Int)
        · rw [if_pos g, if_pos (decide_eq_true g)]
        · rw [if_neg g, if_neg (fun z => g (of_decide_eq_true z))]
      have tD : t ≠ D := fun zz => by rw [zz, s4 _ _ h3] at ht2; cases ht2
      have key : ∀ nn : Int, nn = numD sh th i → ∀ H5, upd H4 t (.tup [.int nn, .str ow, .int (mixF c (20 + (0 + (i : Int))) % mo)]) = H5 → ∀ H6, H6 D = some (.lst (xs ++ [.ref t])) → (∀ b o, b ≠ D → H5 b = some o → H6 b = some o) → ∃ (x7 x8 x9' : Option V) (xs' : List V) (ds' : List Drn), [some (.ref a), some wv, some (.int c), some (.int m), some (.int sh), some (.int mo), some (.ref D), some (.int (0 + (i : Int))), some (.str ow), some (V.int nn)] = [some (.ref a), some wv, some (.int c), some (.int m), some (.int sh), some (.int mo), some (.ref D), x7, x8, x9'] ∧ Same H2 H6 ∧ H6 D = some (.lst xs') ∧ Trs (butD (off H2 H6) D) xs' (ds'.map dDrn) ∧ ds'.map (·.1) = (List.range (i + 1)).map (numD sh th) ∧ ∀ d ∈ ds', d.2.1 ∈ lvls ∧ 0 ≤ d.2.2 ∧ d.2.2 < mo ∧ ∀ x, wv = .str x → d.2.1 = x := by
        intro nn enn H5 e5 H6 h6 k6
        have s5 : Same H4 H5 := by rw [← e5]; exact Same.upd ht2
        have ht5 : H5 t = some (.tup [.int nn, .str ow, .int (mixF c (20 + (0 + (i : Int))) % mo)]) := by rw [← e5]; exact upd_same
        have s35 := s4.trans s5
        have hH6 : Same H2 H6 := fun b o eb => k6 _ _ (fun zz => by rw [zz, hD] at eb; cases eb) (s35 _ _ (s3 _ _ eb))
        refine ⟨_, _, _, _, ds ++ [(nn, ow, mixF c (20 + (0 + (i : Int))) % mo)], rfl, hH6, h6, ?_, ?_, ?_⟩
        · rw [List.map_append]
          exact (ht.same fun b o eb => butD_at (butD_ne eb).1 (off_at (off_none (butD_ne eb).2).1 (k6 _ _ (butD_ne eb).1 (s35 _ _ (off_none (butD_ne eb).2).2)))).app (.cons (.tup (butD_at tD (off_at ((s3.trans s4).free ht2) (k6 _ _ tD ht5))) (.cons (.int _) (.cons (.str _) (.cons (.int _) .nil)))) .nil)
        · rw [List.map_append, hnum, List.range_succ, List.map_append, enn]
          rfl
        · intro d hd
          rcases List.mem_append.mp hd with y | y
          · exact hal d y
          · rw [List.mem_singleton.mp y]
            exact ⟨how, hlo.1, hlo.2, hox⟩
      refine ⟨D, xs, _, rfl, rfl, (Same.upd ht2) _ _ (s4 _ _ h3), hxs, fun H6 h6 k6 => ?_⟩
      subst hD'
      exact key _ en _ rfl H6 h6 k6
    · intro σ H3 hJ'
      refine hide fun G' hG' => ?_
      obtain ⟨x7, x8, x9, xs, ds, rfl, s3, h3, ht, hnum, hal⟩ := hJ'
      refine hG' ?_
      subst hb'
      have hdl : ds.length = m.toNat := by
        have := congrArg List.length hnum
        rw [List.length_map, List.length_map, List.length_range] at this
        exact this
      refine ⟨_, rfl, q _ H3 ds s3 (.lst (off_at hD h3) (ht.same butD_sub)) ⟨by omega, ?_, fun d hd => ?_, fun h4 d hd => ?_⟩ fun x hx d hd => (hal d hd).2.2.2 x hx⟩
      · rw [hnum, List.pairwise_map]
        exact List.pairwise_lt_range.imp fun h => numD_lt sh0 h
      · have hm : d.1 ∈ (List.range m.toNat).map (numD sh th) := by rw [← hnum]; exact List.mem_map.mpr ⟨d, hd, rfl⟩
        obtain ⟨j, hj, ej⟩ := List.mem_map.mp hm
        have hj' := List.mem_range.mp hj
        have := numD_le (th := th) sh0 j
        rw [ej] at this
        have h2 := hal d hd
        exact ⟨this.1, by omega, h2.1, h2.2.1, by omega⟩
      · have h2 := hal d hd
        omega
noncomputable def dkC (ds : List Drn) (c : Int → Int) : List (Key × V) := ds.map fun d => (Sum.inl d.1, .int (c d.1))
theorem dkC_at {ds : List Drn} {c : Int → Int} {n : Int} (h : ∃ d ∈ ds, d.1 = n) : valV (dkC ds c) (Sum.inl n : Key) = some (.int (c n)) := by
  obtain ⟨d, hd, rfl⟩ := h
  unfold valV dkC
  rw [List.find?_map]
  have : ∃ e, ds.find? ((fun kv : Key × V => decide (kv.1 = Sum.inl d.1)) ∘ fun e : Drn => (Sum.inl e.1, V.int (c e.1))) = some e := by
    rw [← Option.isSome_iff_exists, List.find?_isSome]
    exact ⟨d, hd, decide_eq_true rfl⟩
  obtain ⟨e, he⟩ := this
  rw [he]
  have h1 := List.find?_some he
  have h2 : (Sum.inl e.1 : Key) = Sum.inl d.1 := of_decide_eq_true h1
  have h3 : e.1 = d.1 := Sum.inl.inj h2
  show some (V.int (c e.1)) = some (V.int (c d.1))
  rw [h3]
theorem dkC_put {ds : List Drn} {c : Int → Int} {n v : Int} (h : ∃ d ∈ ds, d.1 = n) : putK (dkC ds c) (Sum.inl n : Key) (.int v) = dkC ds fun m => if m = n then v else c m := by
  obtain ⟨d, hd, rfl⟩ := h
  unfold putK
  have ha : ((dkC ds c).any fun kv => decide (kv.1 = Sum.inl d.1)) = true := by
    rw [List.any_eq_true]
    exact ⟨_, List.mem_map.mpr ⟨d, hd, rfl⟩, decide_eq_true rfl⟩
  rw [if_pos ha]
  unfold dkC
  rw [List.map_map]
  refine List.map_congr_left fun e _ => ?_
  show (if (Sum.inl e.1 : Key) = Sum.inl d.1 then ((Sum.inl e.1 : Key), V.int v) else (Sum.inl e.1, V.int (c e.1))) = (Sum.inl e.1, V.int (if e.1 = d.1 then v else c e.1))
  by_cases g : e.1 = d.1
  · rw [if_pos (congrArg Sum.inl g), if_pos g]
  · rw [if_neg (fun z => g (Sum.inl.inj z)), if_neg g]
theorem dkC_new {ds : List Drn} {c : Int → Int} {d : Drn} (h : ∀ e ∈ ds, e.1 ≠ d.1) : putK (dkC ds c) (Sum.inl d.1 : Key) (.int (c d.1)) = dkC (ds ++ [d]) c := by
  rw [put_new]
  · unfold dkC
    rw [List.map_append]
    rfl
  · rw [List.any_eq_false]
    intro kv hk z
    obtain ⟨e, he, rfl⟩ := List.mem_map.mp hk
    exact h e he (Sum.inl.inj (of_decide_eq_true z))
theorem sum_incr {c : Int → Int} {n : Int} : ∀ {ds : List Drn}, (ds.map (·.1)).Pairwise (· < ·) → (∃ d ∈ ds, d.1 = n) → (ds.map fun d => if d.1 = n then c n + 1 else c d.1).sum = (ds.map fun d => c d.1).sum + 1
  | [], _, ⟨d, hd, _⟩ => by cases hd
  | e :: r, hp, hx => by
    rw [List.map_cons, List.pairwise_cons] at hp
    simp only [List.map_cons, List.sum_cons]
    by_cases g : e.1 = n
    · have hr : (r.map fun d => if d.1 = n then c n + 1 else c d.1) = r.map fun d => c d.1 := List.map_congr_left fun d hd => by
        have := hp.1 d.1 (List.mem_map.mpr ⟨d, hd, rfl⟩)
        rw [if_neg (by omega)]
      rw [if_pos g, hr, g]
      omega
    · have : ∃ d ∈ r, d.1 = n := by
        obtain ⟨d, hd, ed⟩ := hx
        rcases List.mem_cons.mp hd with rfl | z
        · exact absurd ed g
        · exact ⟨d, z, ed⟩
      rw [if_neg g, sum_incr hp.2 this]
      omega
theorem cnt_snoc (os : List Pr) (p : Pr) (n : Int) : cnt (os ++ [p]) (os.length + 1) n = cnt os os.length n + (if p.1 = n then 1 else 0) := by
  unfold cnt
  rw [List.take_of_length_le (by simp), List.take_length, List.filter_append, List.length_append]
  congr 1
  by_cases h : p.1 = n
  · rw [if_pos h]
    have : (p.1 == n) = true := by simpa using h
    simp [this]
  · rw [if_neg h]
    have : (p.1 == n) = false := by simpa using h
    simp [this]
theorem cnt_old (os : List Pr) (p : Pr) {i : Nat} (h : i ≤ os.length) (n : Int) : cnt (os ++ [p]) i n = cnt os i n := by
  unfold cnt
  rw [List.take_append_of_le_length h]
theorem Walk.snoc {ds : List Drn} {os : List Pr} (h : Walk ds os) {n : Int} (hd : ∃ d ∈ ds, d.1 = n ∧ (cnt os os.length n : Int) < spotsF d.2.1 d.2.2) : Walk ds (os ++ [(n, (cnt os os.length n : Int))]) := by
  intro i m g e
  rcases Nat.lt_or_ge i os.length with hi | hi
  · rw [List.getElem?_append_left hi] at e
    rw [cnt_old _ _ (Nat.le_of_lt hi)]
    exact h i m g e
  · rw [List.getElem?_append_right hi] at e
    have hi2 : i - os.length = 0 := by
      rcases Nat.eq_zero_or_pos (i - os.length) with z | z
      · exact z
      · rw [List.getElem?_eq_none (by rw [List.length_singleton]; omega)] at e
        cases e
    rw [hi2] at e
    cases e
    have : i = os.length := by omega
    subst this
    rw [cnt_old _ _ (Nat.le_refl _)]
    exact ⟨rfl, hd⟩
theorem spots_ok {w : Str} {l : Int} (h0 : 0 ≤ l) (h7 : l ≤ 7) : 1 ≤ spotsF w l ∧ spotsF w l ≤ 8 := by
  unfold spotsF
  split
  · omega
  · split <;> omega
theorem sum_all_le {α : Type} {f g : α → Int} : ∀ {l : List α}, (∀ x ∈ l, f x ≤ g x) → (l.map f).sum ≤ (l.map g).sum
  | [], _ => Int.le_refl _
  | x :: r, h => by
    have h1 := h x List.mem_cons_self
    have h2 := sum_all_le (l := r) fun y hy => h y (List.mem_cons_of_mem _ hy)
    simp only [List.map_cons, List.sum_cons]
    omega
theorem sum_const_le {α : Type} {f : α → Int} {k : Int} : ∀ {l : List α}, (∀ x ∈ l, f x ≤ k) → (l.map f).sum ≤ k * l.length
  | [], _ => by simp
  | x :: r, h => by
    have h1 := h x List.mem_cons_self
    have h2 := sum_const_le (l := r) fun y hy => h y (List.mem_cons_of_mem _ hy)
    simp only [List.map_cons, List.sum_cons, List.length_cons]
    rw [show k * ((r.length + 1 : Nat) : Int) = k * r.length + k by push_cast; rw [Int.mul_add, Int.mul_one]]
    omega
theorem _root_.My.Tr.drn {H : Hp} {v : V} {d : Drn} (h : Tr H v (dDrn d)) : ∃ a, v = .ref a ∧ H a = some (.tup [.int d.1, .str d.2.1, .int d.2.2]) := by
  cases h with
  | @tup a xs _ h r =>
    cases r with
    | cons h1 r =>
      cases r with
      | cons h2 r =>
        cases r with
        | cons h3 r =>
          cases r
          cases h1
          cases h2
          cases h3
          exact ⟨a, rfl, h⟩
theorem sum_zero {α : Type} : ∀ l : List α, (l.map fun _ => (0 : Int)).sum = 0
  | [] => rfl
  | _ :: r => by rw [List.map_cons, List.sum_cons, sum_zero r]; rfl
theorem going_is (cf : Int → Int) : ∀ ds : List Drn, ds.filterMap (fun d => if cf d.1 < spotsF d.2.1 d.2.2 then some (V.int d.1) else none) = ((ds.filter fun d => decide (cf d.1 < spotsF d.2.1 d.2.2)).map (·.1)).map V.int
  | [] => rfl
  | d :: r => by
    rw [List.filterMap_cons, List.filter_cons]
    by_cases e : cf d.1 < spotsF d.2.1 d.2.2
    · rw [if_pos e, if_pos (decide_eq_true e), going_is cf r]
      rfl
    · rw [if_neg e, if_neg (fun z => e (of_decide_eq_true z)), going_is cf r]
theorem num_inj {ds : List Drn} (h : (ds.map (·.1)).Pairwise (· < ·)) {d e : Drn} (hd : d ∈ ds) (he : e ∈ ds) (x : d.1 = e.1) : d = e := by
  have hp := List.pairwise_iff_getElem.mp (List.pairwise_map.mp h)
  obtain ⟨i, hi, rfl⟩ := List.getElem_of_mem hd
  obtain ⟨j, hj, rfl⟩ := List.getElem_of_mem he
  rcases Nat.lt_trichotomy i j with z | z | z
  · have := hp i j hi hj z
    omega
  · subst z
    rfl
  · have := hp j i hj hi z
    omega
theorem but2 {H H3 : Hp} {D g b : Addr} {o : HO} : butD (butD (off H H3) D) g b = some o ↔ b ≠ g ∧ b ≠ D ∧ H b = none ∧ H3 b = some o := by
  constructor
  · intro e
    have e1 := butD_ne e
    have e2 := butD_ne e1.2
    have e3 := off_none e2.2
    exact ⟨e1.1, e2.1, e3.1, e3.2⟩
  · rintro ⟨h1, h2, h3, h4⟩
    exact butD_at h1 (butD_at h2 (off_at h3 h4))
theorem ok_Ldrawnorder (T : Tx K mg) : FnOk P w K mg base CX0 3 T.f_Ldrawnorder T.d_Ldrawnorder ["_law_script", "_law_deals"] (spOrder K) := by
  refine T.F_Ldrawnorder.ok sc_Ldrawnorder (fun vs H Q E h => ?_) (fun cdv A outer s H vs Q E hr h => ?_)
  · obtain ⟨a1, a2, a3, a4, rfl, _⟩ := h
    rfl
  · obtain ⟨a, ns, dv, ds, rfl, ha, hd, gd, q⟩ := h
    have hu := hu_of hr
    refine ⟨_, (pss_cons (ps_set (i := 2) sc_Ldrawnorder.nd rfl (Or.inr rfl) pe_dnewK)
      (pss_cons (ps_set (i := 3) sc_Ldrawnorder.nd rfl (Or.inl rfl) pe_int)
      (pss_cons (ps_for PassesOwn.never rfl (pi_list (pv 1)) (pg_tup rfl (pgs_cons (pg_name (i := 4) sc_Ldrawnorder.nd rfl (Or.inl rfl)) (pgs_cons (pg_name (i := 5) sc_Ldrawnorder.nd rfl (Or.inl rfl)) (pgs_cons (pg_name (i := 6) sc_Ldrawnorder.nd rfl (Or.inl rfl)) pgs_nil))))
      (pss_cons (ps_dput hu (pv 2) (pv 4) pe_int rfl)
      (pss_one (ps_set (i := 3) sc_Ldrawnorder.nd rfl (Or.inl rfl) (pe_op op_add (pv 3) (pe_call ((ok_Lspots T).mono (by decide)) hr rfl T.m_Lspots T.F_Lspots.kp T.b_Lspots .nil pass0 (pa_cons (pv 5) (pa_cons (pv 6) pa_nil))))))))
      (pss_cons (ps_set (i := 7) sc_Ldrawnorder.nd rfl (Or.inl rfl) (pe_lst pa_nil))
      (pss_cons (ps_for PassesOwn.never rfl (pi_range1 rfl T.z_range (pa_cons (pv 3) pa_nil)) (pg_name (i := 8) sc_Ldrawnorder.nd rfl (Or.inl rfl))
      (pss_cons (ps_compF (i := 9) ["_law_row"] rfl sc_Ldrawnorder.nd rfl rfl (CompSc.mk (fv := ["_law_gone"]) (js := [2]) rfl (by decide +kernel) (by decide +kernel) (by decide +kernel) (allc_cons (Or.inl rfl) allc_nil) rfl (by decide +kernel)) (pi_list (pv 1)) rfl (fun _ _ _ _ _ => (pg_name (i := 0) (show (["_law_row", "_law_gone"] : List Str).Nodup by decide +kernel) rfl (Or.inl rfl))) (fun _ _ _ _ _ => (pf_one (pt_cmpR op_lt (pe_dget hu (pv 1) (pe_ix (ix_tupK (K := K) rfl) (pv 0) pe_int (fun _ _ => rfl)) (fun _ _ => rfl)) (pe_call ((ok_Lspots T).mono (by decide)) hr rfl T.m_Lspots T.F_Lspots.kp T.b_Lspots .nil pass0 (pa_cons (pe_ix (ix_tupK (K := K) rfl) (pv 0) pe_int (fun _ _ => rfl)) (pa_cons (pe_ix (ix_tupK (K := K) rfl) (pv 0) pe_int (fun _ _ => rfl)) pa_nil))) (nomark _)))) (fun _ _ _ _ _ => (pe_ix (ix_tupK (K := K) rfl) (pv 0) pe_int (fun _ _ => rfl))))
      (pss_cons (ps_set (i := 4) sc_Ldrawnorder.nd rfl (Or.inl rfl) (pe_ix ix_list (pv 9) (pe_op op_mod (pe_call ((ok_Lmixed T).mono (by decide)) hr rfl T.m_Lmixed T.F_Lmixed.kp T.b_Lmixed .nil pass0 (pa_cons (pe_call ((ok_Lcell T).mono (by decide)) hr rfl T.m_Lcell T.F_Lcell.kp T.b_Lcell .nil pass0 (pa_cons (pv 0) (pa_cons (pe_op op_add pe_int (pv 8)) pa_nil))) (pa_cons pe_int pa_nil))) (pe_callB call_len (by rfl) T.z_len boot_len (pa_cons (pv 9) pa_nil))) (fun _ _ => rfl)))
      (pss_cons (ps_expr (pe_bm PySem.F.plainAttrs_list PySem.F.slot_list_append PySem.F.type_list_append mt_appendA (pv 7) (pa_cons (pe_tup (pa_cons (pv 4) (pa_cons (pe_dget hu (pv 2) (pv 4) (fun _ _ => rfl)) pa_nil))) pa_nil)))
      (pss_one (ps_dput hu (pv 2) (pv 4) (pe_op op_add (pe_dget hu (pv 2) (pv 4) (fun _ _ => rfl)) pe_int) rfl))))))
      (pss_one (ps_ret (pv 7)))))))), ?_⟩
    refine foldS fun b' hb' => ?_
    have z9 : (200 : Nat) ≤ sizeLine := by decide
    obtain ⟨dl, xs, rfl, hdl, htx⟩ := hd.list
    obtain ⟨g1, g2, g3, g4⟩ := gd
    have hxl : xs.length = ds.length := by rw [htx.len, List.length_map]
    intro g hg
    have s1 := Same.upd (o := HO.dK []) hg
    subst hb'
    refine ⟨_, rfl, dl, rfl, ⟨_, SqL.of (s1 _ _ hdl)⟩, for_list (K := K) (a := dl) (xs := xs) (fun i σ H2 => ∃ (x4 x5 x6 : Option V), σ = [some (.ref a), some (.ref dl), some (.ref g), some (.int ((ds.take i).map fun d => spotsF d.2.1 d.2.2).sum), x4, x5, x6, none, none, none] ∧ Same H H2 ∧ H2 g = some (.dK (dkC (ds.take i) fun _ => 0)))
      ⟨none, none, none, rfl, s1, upd_same⟩ (fun i σ H2 _ hJ' => by obtain ⟨_, _, _, _, s2, _⟩ := hJ'; exact SqL.of (s2 _ _ hdl)) ?_ ?_⟩
    · intro i x σ H2 hx hJ'
      refine hide fun G' hG' => ?_
      obtain ⟨x4, x5, x6, rfl, s2, h2⟩ := hJ'
      obtain ⟨pd, hpd, tr⟩ := htx.get hx
      have hi : i < ds.length := by rw [← hxl]; exact (List.getElem?_eq_some_iff.mp hx).1
      have ed : ds[i]? = some ds[i] := List.getElem?_eq_getElem hi
      rw [List.getElem?_map, ed] at hpd
      cases hpd
      obtain ⟨t, rfl, ht⟩ := tr.drn
      refine hG' ?_
      refine hideG fun D' hD' => ?_
      refine ⟨t, _, rfl, SqT.of (s2 _ _ ht), rfl, _, _, rfl, _, _, rfl, _, _, rfl, rfl, ?_⟩
      have hnew : ∀ e ∈ ds.take i, e.1 ≠ ds[i].1 := fun e he z => by
        have hp := List.pairwise_iff_getElem.mp (List.pairwise_map.mp g2)
        obtain ⟨j, hj, rfl⟩ := List.getElem_of_mem he
        rw [List.length_take] at hj
        have := hp j i (by omega) hi (by omega)
        rw [List.getElem_take] at z
        omega
      have ep := dkC_new (c := fun _ => 0) hnew
      have htk : ds.take (i + 1) = ds.take i ++ [ds[i]] := by rw [List.take_add_one, ed]; rfl
      refine foldS fun b2' hb2' => ?_
      refine ⟨_, rfl, _, rfl, g, upd H2 g (.dK (dkC (ds.take (i + 1)) fun _ => 0)), rfl, .inl ⟨_, Sum.inl ds[i].1, h2, rfl, ?_, by rw [htk, ← ep]⟩, ?_⟩
      · unfold dkC
        rw [List.length_map, List.length_take]
        omega
      subst hb2'; subst hD'
      refine ⟨_, rfl, _, rfl, _, rfl, ds[i].2.1, ds[i].2.2, rfl, _, _, rfl, rfl, some (.int ds[i].1), some (.str ds[i].2.1), some (.int ds[i].2.2), ?_, s2.again hg, upd_same⟩
      rw [htk, List.map_append, List.sum_append, List.map_singleton, List.sum_singleton]
      rfl
    intro σ H2 hJ'
    refine hide fun G' hG' => ?_
    obtain ⟨x4, x5, x6, rfl, s2, h2⟩ := hJ'
    refine hG' ?_
    rw [hxl, List.take_length] at h2
    rw [hxl, List.take_length]
    obtain ⟨tot, etot⟩ : ∃ tot : Int, (ds.map fun d => spotsF d.2.1 d.2.2).sum = tot := ⟨_, rfl⟩
    rw [etot]
    have htot : tot ≤ 64 := by
      have := sum_const_le (l := ds) (f := fun d => spotsF d.2.1 d.2.2) (k := 8) fun d hd => (spots_ok (g3 d hd).2.2.2.1 (g3 d hd).2.2.2.2).2
      rw [etot] at this
      omega
    have htot0 : 0 ≤ tot := by
      have := sum_all_le (l := ds) (f := fun _ => (0 : Int)) (g := fun d => spotsF d.2.1 d.2.2) fun d hd => by have := (spots_ok (w := d.2.1) (g3 d hd).2.2.2.1 (g3 d hd).2.2.2.2).1; omega
      rw [etot] at this
      have e0 := sum_zero ds
      omega
    refine foldN fun b' hb' => ?_
    refine ⟨(by show 0 ≤ sizeLine; decide), fun D hD => ?_⟩
    have gD : g ≠ D := fun z => by rw [z, hD] at h2; cases h2
    have hD0 : H D = none := s2.free hD
    have s3 := Same.upd (o := HO.lst []) hD
    subst hb'; refine foldN fun b' hb' => ?_
    refine ⟨_, rfl, tot, rfl, by omega, by omega, for_range (lo := 0) (n := tot.toNat) (fun j σ H3 => ∃ (x4 x5 x6 x8 x9 : Option V) (ys : List V) (os : List Pr), σ = [some (.ref a), some (.ref dl), some (.ref g), some (.int tot), x4, x5, x6, some (.ref D), x8, x9] ∧ Same H H3 ∧ H3 D = some (.lst ys) ∧ Trs (butD (butD (off H H3) D) g) ys (os.map dPair) ∧ H3 g = some (.dK (dkC ds fun n => (cnt os os.length n : Int))) ∧ Walk ds os ∧ os.length = j ∧ (ds.map fun d => (cnt os os.length d.1 : Int)).sum = j ∧ ∀ d ∈ ds, (cnt os os.length d.1 : Int) ≤ spotsF d.2.1 d.2.2)
      ⟨x4, x5, x6, none, none, [], [], rfl, s2.trans s3, upd_same, .nil, s3 _ _ h2, fun i n g e => by simp at e, rfl, ?_, fun d hd => ?_⟩ ?_ ?_⟩
    · exact sum_zero ds
    · have := (spots_ok (w := d.2.1) (g3 d hd).2.2.2.1 (g3 d hd).2.2.2.2).1
      show (0 : Int) ≤ _
      omega
    · intro j σ H3 hj hJ'
      refine hide fun G' hG' => ?_
      obtain ⟨x4, x5, x6, x8, x9, ys, os, rfl, s4, h4, ht, hg4, hW, hol, hsum, hle⟩ := hJ'
      have hyl : ys.length = os.length := by rw [ht.len, List.length_map]
      obtain ⟨cf, ecf⟩ : ∃ cf : Int → Int, (fun n => (cnt os os.length n : Int)) = cf := ⟨_, rfl⟩
      have hcf : ∀ n, (cnt os os.length n : Int) = cf n := fun n => congrFun ecf n
      rw [ecf] at hg4
      simp only [hcf] at hsum hle
      refine hG' ?_
      refine hideG fun D' hD' => ?_
      refine foldS fun b2' hb2' => ?_
      refine ⟨_, rfl, dl, rfl, ⟨_, SqL.of (s4 _ _ hdl)⟩, compL (k := 1) (fs := [some (.ref g)]) ds dDrn (fun d => if cf d.1 < spotsF d.2.1 d.2.2 then some (.int d.1) else none) rfl (s4 _ _ hdl) (htx.same s4) (by omega) (fun d hd H5 ts v R ss hts tr cont => ?_) (fun D2 H5 hD2 s5 hd2 => ?_)⟩
      · obtain ⟨t, rfl⟩ := List.length_eq_one_iff.mp hts
        obtain ⟨t1, rfl, ht1⟩ := tr.drn
        have hdgd : DGet H5 g (.int d.1) (some (.int (cf d.1))) := by
          have := DGet.k (k := Sum.inl d.1) (ss _ _ hg4)
          rw [dkC_at ⟨d, hd, rfl⟩] at this
          exact this
        refine ⟨_, rfl, _, rfl, t1, _, _, _, rfl, rfl, SqT.of ht1, atI_nat (j := 0) rfl, g, .int (cf d.1), rfl, hdgd, _, rfl, t1, _, _, _, rfl, rfl, SqT.of ht1, atI_nat (j := 1) rfl, _, rfl, t1, _, _, _, rfl, rfl, SqT.of ht1, atI_nat (j := 2) rfl, d.2.1, d.2.2, rfl, _, _, rfl, rfl, _, rfl, ?_⟩
        · have c1 := cont [some (.ref t1)] H5 rfl (Same.refl _)
          by_cases e : cf d.1 < spotsF d.2.1 d.2.2
          · rw [if_pos e] at c1
            rw [decide_eq_true e]
            exact ⟨_, rfl, t1, _, _, _, rfl, rfl, SqT.of ht1, atI_nat (j := 0) rfl, c1⟩
          · rw [if_neg e] at c1
            rw [decide_eq_false e]
            exact c1
      obtain ⟨gl, egl⟩ : ∃ gl : List Int, ds.filterMap (fun d => if cf d.1 < spotsF d.2.1 d.2.2 then some (V.int d.1) else none) = gl.map V.int ∧ (∀ n ∈ gl, ∃ d ∈ ds, d.1 = n ∧ cf n < spotsF d.2.1 d.2.2) ∧ (∀ d ∈ ds, cf d.1 < spotsF d.2.1 d.2.2 → d.1 ∈ gl) := by
        refine ⟨(ds.filter fun d => decide (cf d.1 < spotsF d.2.1 d.2.2)).map (·.1), ?_, fun n hn => ?_, fun d hd hlt => ?_⟩
        · exact going_is cf ds
        · obtain ⟨d, hd, rfl⟩ := List.mem_map.mp hn
          obtain ⟨h1, h2⟩ := List.mem_filter.mp hd
          exact ⟨d, h1, rfl, of_decide_eq_true h2⟩
        · exact List.mem_map.mpr ⟨d, List.mem_filter.mpr ⟨hd, decide_eq_true hlt⟩, rfl⟩
      obtain ⟨egl, hgl1, hgl2⟩ := egl
      rw [egl] at hd2
      have hne : 0 < gl.length := by
        rcases Nat.eq_zero_or_pos gl.length with z | z
        · exfalso
          have e0 := List.eq_nil_of_length_eq_zero z
          have all : ∀ d ∈ ds, spotsF d.2.1 d.2.2 ≤ cf d.1 := fun d hd => by
            rcases Int.lt_or_le (cf d.1) (spotsF d.2.1 d.2.2) with y | y
            · have := hgl2 d hd y
              rw [e0] at this
              cases this
            · exact y
          have := sum_all_le all
          rw [etot, hsum] at this
          omega
        · exact z
      have hne' : (0 : Int) < ((gl.map V.int).length : Int) := by rw [List.length_map]; omega
      have s45 := s4.trans s5
      subst hb2'; refine foldN fun b2' hb2' => ?_
      refine ⟨_, rfl, _, rfl, _, rfl, _, _, rfl, rfl, a, ns, _, rfl, s45.seq ha, by omega, fun cz => ⟨_, 0, rfl, _, rfl, _, _, rfl, .inl ⟨_, SqL.of hd2, rfl⟩, _, _, rfl, rfl, hne', ?_⟩⟩
      obtain ⟨v, hv⟩ := atI_lt (xs := gl.map V.int) (Int.emod_nonneg (mixF cz 0) (Int.ne_of_gt hne')) (Int.emod_lt_of_pos (mixF cz 0) hne')
      obtain ⟨n0, hn0, rfl⟩ := List.mem_map.mp (atI_mem hv)
      refine ⟨D2, _, _, _, rfl, rfl, SqL.of hd2, hv, ?_⟩
      obtain ⟨d0, hd0, ed0, hlt0⟩ := hgl1 n0 hn0
      have hex : ∃ d ∈ ds, d.1 = n0 := ⟨d0, hd0, ed0⟩
      have hg5 := s5 _ _ hg4
      have hdg : ∀ {HH : Hp}, HH g = some (.dK (dkC ds cf)) → DGet HH g (.int n0) (some (.int (cf n0))) := fun e => by
        have := DGet.k (k := Sum.inl n0) e
        rw [dkC_at hex] at this
        exact this
      subst hb2'; refine foldN fun b2' hb2' => ?_
      refine ⟨_, rfl, .inl ⟨rfl, _, SqL.of (s5 _ _ h4)⟩, _, rfl, _, rfl, _, rfl, g, _, rfl, hdg hg5, (by show 2 ≤ sizeLine; decide), fun t ht2 => ?_⟩
      have s6 := Same.upd (o := HO.tup [.int n0, .int (cf n0)]) ht2
      have ht6 : upd H5 t (.tup [.int n0, .int (cf n0)]) t = some (.tup [.int n0, .int (cf n0)]) := upd_same
      generalize upd H5 t (.tup [.int n0, .int (cf n0)]) = H6 at *
      refine ⟨D, ys, _, rfl, rfl, s6 _ _ (s5 _ _ h4), by omega, fun H7 h7 k7 => ?_⟩
      have hg7 := k7 _ _ gD (s6 _ _ hg5)
      have tD : t ≠ D := fun zz => by rw [zz, s5 _ _ h4] at ht2; cases ht2
      have tg : t ≠ g := fun zz => by rw [zz, hg5] at ht2; cases ht2
      subst hb2'
      refine ⟨_, rfl, _, rfl, g, _, rfl, hdg hg7, _, _, rfl, rfl, _, rfl, _, rfl, g, upd H7 g (.dK (dkC ds fun m => if m = n0 then cf n0 + 1 else cf m)), rfl, .inl ⟨_, Sum.inl n0, hg7, rfl, ?_, by rw [dkC_put hex]⟩, ?_⟩
      · unfold dkC
        rw [List.length_map]
        omega
      have hcn : ∀ n, (cnt (os ++ [(n0, cf n0)]) (os ++ [(n0, cf n0)]).length n : Int) = if n = n0 then cf n0 + 1 else cf n := fun n => by
        rw [List.length_append, List.length_singleton, cnt_snoc]
        push_cast
        rw [hcf]
        by_cases e : n = n0
        · rw [if_pos e, if_pos e.symm, e]
          rfl
        · rw [if_neg e, if_neg (fun z => e z.symm)]
          simp
      have hS7 : Same H (upd H7 g (.dK (dkC ds fun m => if m = n0 then cf n0 + 1 else cf m))) := fun b o eb => by
        have nb1 : b ≠ g := fun z => by rw [z, hg] at eb; cases eb
        have nb2 : b ≠ D := fun z => by rw [z, hD0] at eb; cases eb
        rw [upd_ne nb1]
        exact k7 _ _ nb2 (s6 _ _ (s45 _ _ eb))
      subst hD'
      refine ⟨_, _, _, _, _, _, os ++ [(n0, cf n0)], rfl, hS7, by rw [upd_ne gD.symm]; exact h7, ?_, ?_, ?_, by rw [List.length_append, List.length_singleton, hol], ?_, fun d hd => ?_⟩
      · rw [List.map_append]
        refine (ht.same fun b o eb => ?_).app (.cons (.tup (but2.mpr ⟨tg, tD, s45.free ht2, by rw [upd_ne tg]; exact k7 _ _ tD ht6⟩) (.cons (.int _) (.cons (.int _) .nil))) .nil)
        obtain ⟨e1, e2, e3, e4⟩ := but2.mp eb
        exact but2.mpr ⟨e1, e2, e3, by rw [upd_ne e1]; exact k7 _ _ e2 (s6 _ _ (s5 _ _ e4))⟩
      · rw [upd_same]
        congr 3
        funext n
        rw [hcn]
      · have := hW.snoc (n := n0) ⟨d0, hd0, ed0, by rw [hcf]; exact hlt0⟩
        rw [hcf] at this
        exact this
      · simp only [hcn]
        rw [sum_incr g2 hex, hsum]
        omega
      · rw [hcn]
        by_cases e : d.1 = n0
        · rw [if_pos e]
          have : d = d0 := num_inj g2 hd hd0 (e.trans ed0.symm)
          rw [this]
          omega
        · rw [if_neg e]
          exact hle d hd
    · intro σ H3 hJ'
      refine hide fun G' hG' => ?_
      obtain ⟨x4, x5, x6, x8, x9, ys, os, rfl, s4, h4, ht, hg4, hW, hol, hsum, hle⟩ := hJ'
      refine hG' ?_
      subst hb'
      exact ⟨_, rfl, q _ H3 os s4 (.lst (off_at hD0 h4) (ht.same fun b o eb => by obtain ⟨_, _, e3, e4⟩ := but2.mp eb; exact off_at e3 e4)) hW (by omega)⟩
--@STAGE
noncomputable def skO (L M S : Addr) : List (Key × V) := [(Sum.inr "last", .ref L), (Sum.inr "makers", .ref M), (Sum.inr "stood", .ref S)]
structure Sta (H : Hp) (st L M S : Addr) (ms : List Addr) (ls : List Int) (mk : List (List Int)) (skv : List (Key × V)) : Prop where
  h0 : H st = some (.dK (skO L M S))
  h1 : H L = some (.lst (ls.map V.int))
  h2 : H M = some (.lst (ms.map V.ref))
  h3 : H S = some (.dK skv)
  n1 : ls.length = 4
  n2 : ms.length = 4
  n3 : mk.length = 4
  hm : ∀ (j : Nat) (m : Addr) (ns : List Int), ms[j]? = some m → mk[j]? = some ns → H m = some (.lst (ns.map V.int))
  nd : ms.Nodup
  nL : L ∉ ms
  nM : M ≠ L ∧ M ∉ ms
theorem Sta.same {H H' : Hp} {st L M S : Addr} {ms : List Addr} {ls : List Int} {mk : List (List Int)} {skv : List (Key × V)} (h : Sta H st L M S ms ls mk skv) (s : Same H H') : Sta H' st L M S ms ls mk skv :=
  ⟨s _ _ h.h0, s _ _ h.h1, s _ _ h.h2, s _ _ h.h3, h.n1, h.n2, h.n3, fun j m ns e1 e2 => s _ _ (h.hm j m ns e1 e2), h.nd, h.nL, h.nM⟩
theorem sk_last (L M S : Addr) : valV (skO L M S) (Sum.inr "last" : Key) = some (.ref L) := by
  unfold valV skO
  rw [List.find?_cons]
  simp
theorem sk_makers (L M S : Addr) : valV (skO L M S) (Sum.inr "makers" : Key) = some (.ref M) := by
  have e1 : decide ((Sum.inr "last" : Key) = (Sum.inr "makers" : Key)) = false := by decide +kernel
  unfold valV skO
  rw [List.find?_cons]
  dsimp only
  rw [e1]
  dsimp only
  rw [List.find?_cons]
  simp
theorem sk_stood (L M S : Addr) : valV (skO L M S) (Sum.inr "stood" : Key) = some (.ref S) := by
  have e1 : decide ((Sum.inr "last" : Key) = (Sum.inr "stood" : Key)) = false := by decide +kernel
  have e2 : decide ((Sum.inr "makers" : Key) = (Sum.inr "stood" : Key)) = false := by decide +kernel
  unfold valV skO
  rw [List.find?_cons]
  dsimp only
  rw [e1]
  dsimp only
  rw [List.find?_cons]
  dsimp only
  rw [e2]
  dsimp only
  rw [List.find?_cons]
  simp
theorem Sta.last {H : Hp} {st L M S : Addr} {ms : List Addr} {ls : List Int} {mk : List (List Int)} {skv : List (Key × V)} (h : Sta H st L M S ms ls mk skv) : DGet H st (.str "last") (some (.ref L)) := by
  have := DGet.k (k := Sum.inr "last") h.h0
  rw [sk_last] at this
  exact this
theorem Sta.makers {H : Hp} {st L M S : Addr} {ms : List Addr} {ls : List Int} {mk : List (List Int)} {skv : List (Key × V)} (h : Sta H st L M S ms ls mk skv) : DGet H st (.str "makers") (some (.ref M)) := by
  have := DGet.k (k := Sum.inr "makers") h.h0
  rw [sk_makers] at this
  exact this
theorem Sta.stood {H : Hp} {st L M S : Addr} {ms : List Addr} {ls : List Int} {mk : List (List Int)} {skv : List (Key × V)} (h : Sta H st L M S ms ls mk skv) : DGet H st (.str "stood") (some (.ref S)) := by
  have := DGet.k (k := Sum.inr "stood") h.h0
  rw [sk_stood] at this
  exact this
theorem Sta.turn {H H4 H5 : Hp} {st L M S m : Addr} {ms : List Addr} {ls ns : List Int} {mk : List (List Int)} {skv : List (Key × V)} (h : Sta H st L M S ms ls mk skv) {i : Nat} {n : Int} (em : ms[i]? = some m) (en : mk[i]? = some ns)
    (h4 : H4 L = some (.lst ((ls.map V.int).set i (.int n)))) (k4 : ∀ b o, b ≠ L → H b = some o → H4 b = some o) (h5 : H5 m = some (.lst (ns.map V.int ++ [.int n]))) (k5 : ∀ b o, b ≠ m → H4 b = some o → H5 b = some o) :
    Sta H5 st L M S ms (ls.set i n) (mk.set i (ns ++ [n])) skv := by
  have hmm : m ∈ ms := List.mem_of_getElem? em
  have mL : m ≠ L := fun z => h.nL (z ▸ hmm)
  have lst_ne : ∀ b kv, H b = some (.dK kv) → b ≠ L ∧ b ≠ m := fun b kv e => ⟨fun z => (by rw [z, h.h1] at e; cases e), fun z => (by rw [z, h.hm i m ns em en] at e; cases e)⟩
  obtain ⟨a1, a2⟩ := lst_ne _ _ h.h0
  obtain ⟨b1, b2⟩ := lst_ne _ _ h.h3
  refine ⟨k5 _ _ a2 (k4 _ _ a1 h.h0), ?_, k5 _ _ (fun z => h.nM.2 (z ▸ hmm)) (k4 _ _ h.nM.1 h.h2), k5 _ _ b2 (k4 _ _ b1 h.h3), by rw [List.length_set]; exact h.n1, h.n2, by rw [List.length_set]; exact h.n3, fun j m' ns' e1 e2 => ?_, h.nd, h.nL, h.nM⟩
  · rw [List.map_set]
    exact k5 _ _ mL.symm h4
  · by_cases e : j = i
    · subst e
      rw [em] at e1
      cases e1
      obtain ⟨hj, _⟩ := List.getElem?_eq_some_iff.mp en
      rw [List.getElem?_set_self hj] at e2
      cases e2
      rw [List.map_append]
      exact h5
    · rw [List.getElem?_set_ne (fun z => e z.symm)] at e2
      have nm : m' ≠ m := fun z => by
        obtain ⟨hj, ej⟩ := List.getElem?_eq_some_iff.mp e1
        obtain ⟨hi, ei⟩ := List.getElem?_eq_some_iff.mp em
        exact e ((List.getElem_inj h.nd).mp (ej.trans (z.trans ei.symm)))
      have nL' : m' ≠ L := fun z => h.nL (z ▸ List.mem_of_getElem? e1)
      exact k5 _ _ nm (k4 _ _ nL' (h.hm j m' ns' e1 e2))
noncomputable def Turned (n : Int) (ls ls' : List Int) (mk mk' : List (List Int)) (j : Nat) : Prop := (ls'[j]? = ls[j]? ∧ mk'[j]? = mk[j]?) ∨ (ls'[j]? = some n ∧ ∃ ns, mk[j]? = some ns ∧ mk'[j]? = some (ns ++ [n]))
noncomputable def spKept : Sp := fun vs H Q _ => ∃ (st L M S so : Addr) (ms : List Addr) (ls sl : List Int) (mk : List (List Int)) (skv : List (Key × V)) (n mask : Int) (w : Str), vs = [.int n, .str w, .int mask, .ref st] ∧ Sta H st L M S ms ls mk skv ∧ valV skv (Sum.inl n) = some (.ref so) ∧ H so = some (.lst (sl.map V.int)) ∧ sl.length = 4 ∧ so ≠ L ∧ so ∉ ms ∧ (∀ ns ∈ mk, ns.length ≤ 100) ∧
  ∀ H' ls' mk', Sta H' st L M S ms ls' mk' skv → (∀ b o, b ≠ L → b ∉ ms → H b = some o → H' b = some o) → (∀ j, j < 4 → Turned n ls ls' mk mk' j) → Q .non H'
theorem ok_Lkept (T : Tx K mg) : FnOk P w K mg base CX0 1 T.f_Lkept T.d_Lkept ["_law_number", "_law_word", "_law_mask", "_law_state"] spKept := by
  refine T.F_Lkept.ok sc_Lkept (fun vs H Q E h => ?_) (fun cdv A outer s H vs Q E hr h => ?_)
  · obtain ⟨a1, a2, a3, a4, a5, a6, a7, a8, a9, a10, a11, a12, a13, rfl, _⟩ := h
    rfl
  · obtain ⟨st, L, M, S, so, ms, ls, sl, mk, skv, n, mask, wd, rfl, hS, hso, hsl, l4, nso1, nso2, hmk, q⟩ := h
    have hu := hu_of hr
    refine ⟨_, (pss_one (ps_for PassesOwn.never rfl (pi_range1 rfl T.z_range (pa_cons pe_int pa_nil)) (pg_name (i := 4) sc_Lkept.nd rfl (Or.inl rfl))
      (pss_one (ps_if (PW.pt (pw_and (pt_cmpR op_eq (pe_op op_mod (pe_op op_fdiv (pv 2) (pe_ix ix_list (pe_lst (pa_cons pe_int (pa_cons pe_int (pa_cons pe_int (pa_cons pe_int pa_nil))))) (pv 4) (fun _ _ => rfl))) pe_int) pe_int (nomark _)) (pw_and1 (pt_cmpR op_eq (pe_ix ix_list (pe_dget hu (pe_dget hu (pv 3) pe_str (fun _ _ => rfl)) (pv 0) (fun _ _ => rfl)) (pv 4) (fun _ _ => rfl)) (pe_ix ix_list (pe_dget hu (pv 3) pe_str (fun _ _ => rfl)) (pv 4) (fun _ _ => rfl)) (nomark _)))))
      (pss_cons (ps_asg (pv 0) (pg_sub (pe_dget hu (pv 3) pe_str (fun _ _ => rfl)) (pv 4) set_listA))
      (pss_one (ps_expr (pe_bm PySem.F.plainAttrs_list PySem.F.slot_list_append PySem.F.type_list_append mt_appendA (pe_ix ix_list (pe_dget hu (pv 3) pe_str (fun _ _ => rfl)) (pv 4) (fun _ _ => rfl)) (pa_cons (pv 0) pa_nil)))))
      pss_nil)))), ?_⟩
    refine ⟨4, rfl, by decide, by decide, for_range (lo := 0) (n := 4) (fun i σ H2 => ∃ (x4 : Option V) (ls' : List Int) (mk' : List (List Int)), σ = [some (.int n), some (.str wd), some (.int mask), some (.ref st), x4] ∧ Sta H2 st L M S ms ls' mk' skv ∧ (∀ b o, b ≠ L → b ∉ ms → H b = some o → H2 b = some o) ∧ (∀ j, j < i → Turned n ls ls' mk mk' j) ∧ (∀ j, i ≤ j → ls'[j]? = ls[j]? ∧ mk'[j]? = mk[j]?))
      ⟨none, ls, mk, rfl, hS, fun _ _ _ _ e => e, (fun j h => absurd h (Nat.not_lt_zero _)), fun _ _ => ⟨rfl, rfl⟩⟩ ?_ ?_⟩
    · rintro i σ H2 hi ⟨x4, ls', mk', rfl, hS2, k2, ht, hn⟩
      have ai : (0 + (i : Int)) = ((i : Nat) : Int) := by omega
      have hz : ∃ z : Int, 0 < z ∧ z < 1073741824 ∧ atI [V.int 1, .int 2, .int 4, .int 8] (0 + (i : Int)) = some (.int z) := by
        have : i = 0 ∨ i = 1 ∨ i = 2 ∨ i = 3 := by omega
        rcases this with rfl | rfl | rfl | rfl
        · exact ⟨1, by decide, by decide, atI_one 0 rfl rfl⟩
        · exact ⟨2, by decide, by decide, atI_one 1 rfl rfl⟩
        · exact ⟨4, by decide, by decide, atI_one 2 rfl rfl⟩
        · exact ⟨8, by decide, by decide, atI_one 3 rfl rfl⟩
      obtain ⟨z, z0, z1, hz⟩ := hz
      have stay : ∀ H3 (x : Option V), Same H2 H3 → ∃ (x4 : Option V) (ls' : List Int) (mk' : List (List Int)), [some (.int n), some (.str wd), some (.int mask), some (.ref st), x] = [some (.int n), some (.str wd), some (.int mask), some (.ref st), x4] ∧ Sta H3 st L M S ms ls' mk' skv ∧ (∀ b o, b ≠ L → b ∉ ms → H b = some o → H3 b = some o) ∧ (∀ j, j < i + 1 → Turned n ls ls' mk mk' j) ∧ (∀ j, i + 1 ≤ j → ls'[j]? = ls[j]? ∧ mk'[j]? = mk[j]?) := fun H3 x s3 =>
        ⟨x, ls', mk', rfl, hS2.same s3, fun b o b1 b2 e => s3 _ _ (k2 b o b1 b2 e), fun j hj => by
          rcases Nat.lt_or_ge j i with y | y
          · exact ht j y
          · exact .inl (hn j y), fun j hj => hn j (by omega)⟩
      refine hideG fun D' hD' => ?_
      refine ⟨_, rfl, (by show 4 ≤ sizeLine; decide), fun p hp => ⟨_, rfl, p, _, _, _, rfl, rfl, SqL.of upd_same, hz, _, _, rfl, rfl, ⟨z0, z1⟩, _, _, rfl, rfl, (by show (0 : Int) < 2; decide), rfl, _, rfl, ?_⟩⟩
      have s3 := Same.upd (o := HO.lst [.int 1, .int 2, .int 4, .int 8]) hp
      generalize upd H2 p (.lst [.int 1, .int 2, .int 4, .int 8]) = H3 at *
      refine ite2 (fun e => ?_) (fun e => by subst hD'; exact stay H3 _ s3)
      have hS3 := hS2.same s3
      have hso3 : H3 so = some (.lst (sl.map V.int)) := s3 _ _ (k2 _ _ nso1 nso2 hsl)
      have es : sl[i]? = some sl[i] := List.getElem?_eq_getElem (by omega)
      have el : ls'[i]? = some (ls'[i]'(by rw [hS3.n1]; exact hi)) := List.getElem?_eq_getElem _
      have em : ms[i]? = some (ms[i]'(by rw [hS3.n2]; exact hi)) := List.getElem?_eq_getElem _
      have en : mk'[i]? = some (mk'[i]'(by rw [hS3.n3]; exact hi)) := List.getElem?_eq_getElem _
      have hg : DGet H3 S (.int n) (some (.ref so)) := by
        have := DGet.k (k := Sum.inl n) hS3.h3
        rw [hso] at this
        exact this
      refine ⟨_, rfl, st, _, rfl, hS3.stood, _, rfl, S, _, rfl, hg, _, rfl, so, _, _, _, rfl, rfl, SqL.of hso3, atI_one i ai (by rw [List.getElem?_map, es]; rfl), _, rfl, st, _, rfl, hS3.last, _, rfl, L, _, _, _, rfl, rfl, SqL.of hS3.h1, atI_one i ai (by rw [List.getElem?_map, el]; rfl), rfl, _, rfl, ite2 (fun f => ?_) (fun f => by subst hD'; exact stay H3 _ s3)⟩
      have ixn : ixN (ls'.map V.int).length (0 + (i : Int)) = some i := by
        unfold ixN
        rw [List.length_map, hS3.n1, if_pos (by omega), if_pos (by omega)]
        congr 1
        omega
      refine ⟨_, rfl, _, rfl, st, _, rfl, hS3.last, _, rfl, L, _, _, i, rfl, rfl, hS3.h1, ixn, fun H4 h4 k4 => ?_⟩
      have hmm : ms[i]'(by rw [hS3.n2]; exact hi) ∈ ms := List.getElem_mem _
      have mL : ms[i]'(by rw [hS3.n2]; exact hi) ≠ L := fun y => hS3.nL (y ▸ hmm)
      have hm4 := k4 _ _ mL (hS3.hm i _ _ em en)
      have st4 : DGet H4 st (.str "makers") (some (.ref M)) := by
        have stL : st ≠ L := fun y => by have := hS3.h0; rw [y, hS3.h1] at this; cases this
        have := DGet.k (k := Sum.inr "makers") (k4 _ _ stL hS3.h0)
        rw [sk_makers] at this
        exact this
      have hl100 : (mk'[i]'(by rw [hS3.n3]; exact hi)).length ≤ 100 := by
        have h1 := (hn i (Nat.le_refl _)).2
        rw [en] at h1
        exact hmk _ (List.mem_of_getElem? h1.symm)
      have z101 : (101 : Nat) ≤ sizeLine := by decide
      refine ⟨_, rfl, st, _, rfl, st4, _, rfl, M, _, _, .ref (ms[i]'(by rw [hS3.n2]; exact hi)), rfl, rfl, SqL.of (k4 _ _ hS3.nM.1 hS3.h2), atI_one i ai (by rw [List.getElem?_map, em]; rfl), .inl ⟨rfl, _, SqL.of hm4⟩, _, rfl, _, _, _, rfl, rfl, hm4, (by rw [List.length_map]; omega), fun H5 h5 k5 => ?_⟩
      subst hD'
      refine ⟨_, _, _, rfl, hS3.turn em en h4 k4 h5 k5, fun b o b1 b2 eb => k5 _ _ (fun y => b2 (y ▸ hmm)) (k4 _ _ b1 (s3 _ _ (k2 _ _ b1 b2 eb))), fun j hj => ?_, fun j hj => ?_⟩
      · rcases Nat.lt_or_ge j i with y | y
        · have h1 : (ls'.set i n)[j]? = ls'[j]? := List.getElem?_set_ne (by omega)
          have h2 : (mk'.set i ((mk'[i]'(by rw [hS3.n3]; exact hi)) ++ [n]))[j]? = mk'[j]? := List.getElem?_set_ne (by omega)
          unfold Turned
          rw [h1, h2]
          exact ht j y
        · have ej : j = i := by omega
          subst ej
          refine .inr ⟨List.getElem?_set_self (by rw [hS3.n1]; exact hi), _, (hn j (Nat.le_refl _)).2.symm.trans en, List.getElem?_set_self (by rw [hS3.n3]; exact hi)⟩
      · rw [List.getElem?_set_ne (by omega), List.getElem?_set_ne (by omega)]
        exact hn j (by omega)
    · rintro σ H2 ⟨x4, ls', mk', rfl, hS2, k2, ht, hn⟩
      exact q H2 ls' mk' hS2 k2 ht
--@STAGE
noncomputable def lookB (d : Drn) (c : Int) : Int := if d.2.1 = "kept" then min c d.2.2 else if c ≤ 0 then 0 else d.2.2
noncomputable def innB (d : Drn) (g : Int) (i : Nat) : Int := if d.2.1 = "kept" then (if g < (i : Int) then 1 else 0) else if g = 0 then (i : Int) else 0
theorem innB_up {d : Drn} {g : Int} {i : Nat} (h : placeF d.2.1 (0 + (i : Int)) = g) : innB d g i + 1 ≤ innB d g (i + 1) := by
  unfold placeF at h
  unfold innB
  by_cases e : d.2.1 = "kept"
  · rw [if_pos e] at h
    rw [if_pos e, if_pos e, if_neg (by omega), if_pos (by omega)]
    omega
  · rw [if_neg e] at h
    rw [if_neg e, if_neg e, if_pos h.symm, if_pos h.symm]
    push_cast
    omega
theorem innB_stay {d : Drn} {g : Int} {i : Nat} : innB d g i ≤ innB d g (i + 1) := by
  unfold innB
  split
  · split <;> split <;> omega
  · split <;> push_cast <;> omega
theorem innB_end {d : Drn} {g : Int} (h0 : 0 ≤ d.2.2) (hg : 0 ≤ g) : lookB d g + innB d g d.2.2.toNat ≤ lookB d (g + 1) := by
  unfold lookB innB
  by_cases e : d.2.1 = "kept"
  · rw [if_pos e, if_pos e, if_pos e]
    split <;> omega
  · rw [if_neg e, if_neg e, if_neg e]
    by_cases z : g = 0
    · rw [if_pos (by omega), if_pos z, if_neg (by omega)]
      omega
    · rw [if_neg (by omega), if_neg z, if_neg (by omega)]
      omega
theorem innB_nonneg {d : Drn} {g : Int} (i : Nat) : 0 ≤ innB d g i := by
  unfold innB
  split
  · split <;> omega
  · split <;> omega
theorem first_le {w : Str} {l : Int} (h : 0 ≤ l) : 0 ≤ firstF w l ∧ firstF w l ≤ spotsF w l - 1 := by
  unfold firstF spotsF
  split
  · omega
  · split <;> omega
theorem cnt_next {os : List Pr} {j : Nat} {n g : Int} (e : os[j]? = some (n, g)) (m : Int) : (cnt os (j + 1) m : Int) = cnt os j m + (if n = m then 1 else 0) := by
  unfold cnt
  rw [List.take_add_one, e, List.filter_append, List.length_append]
  by_cases h : n = m
  · rw [if_pos h]
    have : (n == m) = true := by simpa using h
    simp [this]
  · rw [if_neg h]
    have : (n == m) = false := by simpa using h
    simp [this]
theorem lookB_le {d : Drn} {c : Int} (h0 : 0 ≤ d.2.2) : lookB d c ≤ d.2.2 := by
  unfold lookB
  split
  · omega
  · split <;> omega
structure Fx (ds : List Drn) (ks : List Int) (H0 : Hp) (Sa : Int → Addr) (st L M S : Addr) (ms : List Addr) : Prop where
  up : (ds.map (·.1)).Pairwise (· < ·)
  n4 : ks.length = 4
  hL : ∃ xs, H0 L = some (.lst xs)
  hms : ∀ m ∈ ms, ∃ xs, H0 m = some (.lst xs)
  hS : ∃ kv, H0 S = some (.dK kv)
  hSa : ∀ d ∈ ds, ∃ xs, H0 (Sa d.1) = some (.lst xs)
  inj : ∀ d ∈ ds, ∀ e ∈ ds, Sa d.1 = Sa e.1 → d.1 = e.1
  sep : ∀ d ∈ ds, Sa d.1 ≠ L ∧ Sa d.1 ∉ ms ∧ Sa d.1 ≠ M
  sS : st ≠ S
structure PSt (ds : List Drn) (ks : List Int) (H0 : Hp) (Sa : Int → Addr) (st L M S : Addr) (ms : List Addr) (c : Int → Int) (fb : Drn → Int) (N : Nat) (H2 : Hp) (ls : List Int) (mk : List (List Int)) (skv : List (Key × V)) (xs : Int → List V) (lk : Int → List Lk) : Prop where
  sta : Sta H2 st L M S ms ls mk skv
  fr : ∀ b o, H0 b = some o → b ≠ L → b ∉ ms → b ≠ S → (∀ d ∈ ds, b ≠ Sa d.1) → H2 b = some o
  dom : ∀ b, H2 b = none → H0 b = none
  seen : ∀ d ∈ ds, H2 (Sa d.1) = some (.lst (xs d.1)) ∧ Trs (off H0 H2) (xs d.1) ((lk d.1).map dLook)
  stood : ∀ d ∈ ds, firstF d.2.1 d.2.2 < c d.1 → ∃ (so : Addr) (sl : List Int), valV skv (Sum.inl d.1) = some (.ref so) ∧ off H0 H2 so = some (.lst (sl.map V.int)) ∧ sl.length = 4
  slen : skv.length ≤ N
  few : ∀ d ∈ ds, ((lk d.1).length : Int) ≤ fb d
  lks : ∀ d ∈ ds, ∀ l ∈ lk d.1, (l.map (·.1)).Pairwise (· < ·) ∧ l.length ≤ 4 ∧ ∀ x ∈ l, ∃ i : Nat, i < 4 ∧ ks[i]? = some x.1 ∧ (x.2 = -1 ∨ x.2 = 0 ∨ (x.2 ≠ d.1 ∧ ∃ ns, mk[i]? = some ns ∧ x.2 ∈ ns))
  mks : ∀ ns ∈ mk, ns.Nodup ∧ ∀ n ∈ ns, ∃ d ∈ ds, d.1 = n ∧ c n = spotsF d.2.1 d.2.2
  lst : ∀ (i : Nat) (v : Int), ls[i]? = some v → v = 0 ∨ ∃ ns, mk[i]? = some ns ∧ v ∈ ns
  mlen : ∀ ns ∈ mk, ns.length ≤ N
theorem putK_le (kvs : List (Key × V)) (k : Key) (v : V) : (putK kvs k v).length ≤ kvs.length + 1 := by
  unfold putK
  split
  · rw [List.length_map]; omega
  · rw [List.length_append, List.length_singleton]; omega
section
variable {ds : List Drn} {ks : List Int} {H0 H2 H3 H4 : Hp} {Sa : Int → Addr} {st L M S : Addr} {ms : List Addr} {c : Int → Int} {fb : Drn → Int} {N : Nat} {ls : List Int} {mk : List (List Int)} {skv : List (Key × V)} {xs : Int → List V} {lk : Int → List Lk}
theorem PSt.same (h : PSt ds ks H0 Sa st L M S ms c fb N H2 ls mk skv xs lk) (s : Same H2 H3) : PSt ds ks H0 Sa st L M S ms c fb N H3 ls mk skv xs lk :=
  ⟨h.sta.same s, fun b o e b1 b2 b3 b4 => s _ _ (h.fr b o e b1 b2 b3 b4), fun b e => h.dom b (s.free e), fun d hd => ⟨s _ _ (h.seen d hd).1, (h.seen d hd).2.same (off_mono s)⟩,
    fun d hd hc => by obtain ⟨so, sl, e1, e2, e3⟩ := h.stood d hd hc; exact ⟨so, sl, e1, off_mono s _ _ e2, e3⟩, h.slen, h.few, h.lks, h.mks, h.lst, h.mlen⟩
theorem PSt.tup (F : Fx ds ks H0 Sa st L M S ms) (h : PSt ds ks H0 Sa st L M S ms c fb N H2 ls mk skv xs lk) {b : Addr} {ys : List V} (e : H0 b = some (.tup ys)) : H2 b = some (.tup ys) := by
  obtain ⟨x1, e1⟩ := F.hL
  obtain ⟨x3, e3⟩ := F.hS
  refine h.fr b _ e (fun z => by rw [z, e1] at e; cases e) (fun z => by obtain ⟨x2, e2⟩ := F.hms b z; rw [e2] at e; cases e) (fun z => by rw [z, e3] at e; cases e) fun d hd z => ?_
  obtain ⟨x4, e4⟩ := F.hSa d hd
  rw [z, e4] at e
  cases e
theorem PSt.dict (F : Fx ds ks H0 Sa st L M S ms) (h : PSt ds ks H0 Sa st L M S ms c fb N H2 ls mk skv xs lk) {b : Addr} {kv : List (Key × V)} (e : H0 b = some (.dK kv)) (n : b ≠ S) : H2 b = some (.dK kv) := by
  obtain ⟨x1, e1⟩ := F.hL
  refine h.fr b _ e (fun z => by rw [z, e1] at e; cases e) (fun z => by obtain ⟨x2, e2⟩ := F.hms b z; rw [e2] at e; cases e) n fun d hd z => ?_
  obtain ⟨x4, e4⟩ := F.hSa d hd
  rw [z, e4] at e
  cases e
theorem PSt.keep (F : Fx ds ks H0 Sa st L M S ms) (h : PSt ds ks H0 Sa st L M S ms c fb N H2 ls mk skv xs lk) {d : Drn} (hd : d ∈ ds) {ls' : List Int} {mk' : List (List Int)} (hS : Sta H3 st L M S ms ls' mk' skv) (k : ∀ b o, b ≠ L → b ∉ ms → H2 b = some o → H3 b = some o) (tn : ∀ j, j < 4 → Turned d.1 ls ls' mk mk' j) (hn : ∀ ns ∈ mk, d.1 ∉ ns) (hc : c d.1 = spotsF d.2.1 d.2.2) (hml : ∀ ns ∈ mk, ns.length < N) :
    PSt ds ks H0 Sa st L M S ms c fb N H3 ls' mk' skv xs lk := by
  obtain ⟨x1, e1⟩ := F.hL
  have ne : ∀ b, H0 b = none → b ≠ L ∧ b ∉ ms := fun b e => ⟨fun z => (by rw [z, e1] at e; cases e), fun z => (by obtain ⟨x2, e2⟩ := F.hms b z; rw [e2] at e; cases e)⟩
  have so : Same (off H0 H2) (off H0 H3) := fun b o e => off_at (off_none e).1 (k _ _ (ne b (off_none e).1).1 (ne b (off_none e).1).2 (off_none e).2)
  have grow : ∀ (i : Nat) (ns : List Int), mk[i]? = some ns → ∃ ns', mk'[i]? = some ns' ∧ ∀ x ∈ ns, x ∈ ns' := fun i ns e => by
    have hi : i < 4 := by rw [← h.sta.n3]; exact (List.getElem?_eq_some_iff.mp e).1
    rcases tn i hi with ⟨_, q⟩ | ⟨_, ns2, q1, q2⟩
    · exact ⟨ns, q.trans e, fun x hx => hx⟩
    · rw [e] at q1
      cases q1
      exact ⟨_, q2, fun x hx => List.mem_append_left _ hx⟩
  refine ⟨hS, fun b o e b1 b2 b3 b4 => k _ _ b1 b2 (h.fr b o e b1 b2 b3 b4), fun b e => ?_, fun e he => ⟨k _ _ (F.sep e he).1 (F.sep e he).2.1 (h.seen e he).1, (h.seen e he).2.same so⟩, fun e he hc' => ?_, h.slen, h.few, fun e he l hl => ?_, fun ns hns => ?_, fun i v hv => ?_, fun ns hns => ?_⟩
  · cases q : H2 b with
    | none => exact h.dom b q
    | some o =>
      exfalso
      by_cases z : b = L
      · rw [z, hS.h1] at e
        cases e
      · by_cases z2 : b ∈ ms
        · obtain ⟨j, hj, ej⟩ := List.getElem_of_mem z2
          have hj4 : j < mk'.length := by rw [hS.n3, ← hS.n2]; exact hj
          rw [hS.hm j b mk'[j] (by rw [List.getElem?_eq_getElem hj, ej]) (List.getElem?_eq_getElem hj4)] at e
          cases e
        · rw [k _ _ z z2 q] at e
          cases e
  · obtain ⟨so', sl, q1, q2, q3⟩ := h.stood e he hc'
    exact ⟨so', sl, q1, so _ _ q2, q3⟩
  · obtain ⟨q1, q2, q3⟩ := h.lks e he l hl
    refine ⟨q1, q2, fun x hx => ?_⟩
    obtain ⟨i, hi, r1, r2⟩ := q3 x hx
    refine ⟨i, hi, r1, ?_⟩
    rcases r2 with r2 | r2 | ⟨r2, ns, r3, r4⟩
    · exact .inl r2
    · exact .inr (.inl r2)
    · obtain ⟨ns', g1, g2⟩ := grow i ns r3
      exact .inr (.inr ⟨r2, ns', g1, g2 _ r4⟩)
  · obtain ⟨j, hj, ej⟩ := List.getElem_of_mem hns
    have hj4 : j < 4 := by rw [← hS.n3]; exact hj
    have ej' : mk'[j]? = some ns := by rw [List.getElem?_eq_getElem hj, ej]
    rcases tn j hj4 with ⟨_, q⟩ | ⟨_, ns2, q1, q2⟩
    · exact h.mks ns (List.mem_of_getElem? (q.symm.trans ej'))
    · rw [ej'] at q2
      cases q2
      have hm2 := List.mem_of_getElem? q1
      refine ⟨?_, fun n hn' => ?_⟩
      · rw [List.nodup_append]
        refine ⟨(h.mks ns2 hm2).1, List.pairwise_singleton _ _, fun x hx y hy => ?_⟩
        rw [List.mem_singleton.mp hy]
        exact fun z => hn ns2 hm2 (z ▸ hx)
      · rcases List.mem_append.mp hn' with y | y
        · exact (h.mks ns2 hm2).2 n y
        · rw [List.mem_singleton.mp y]
          exact ⟨d, hd, rfl, hc⟩
  · have hi : i < 4 := by rw [← hS.n1]; exact (List.getElem?_eq_some_iff.mp hv).1
    rcases tn i hi with ⟨q, q'⟩ | ⟨q, ns2, q1, q2⟩
    · rcases h.lst i v (q.symm.trans hv) with y | ⟨ns, y1, y2⟩
      · exact .inl y
      · exact .inr ⟨ns, q'.trans y1, y2⟩
    · rw [hv] at q
      cases q
      exact .inr ⟨_, q2, List.mem_append_right _ List.mem_cons_self⟩
  · obtain ⟨j, hj, ej⟩ := List.getElem_of_mem hns
    have hj4 : j < 4 := by rw [← hS.n3]; exact hj
    have ej' : mk'[j]? = some ns := by rw [List.getElem?_eq_getElem hj, ej]
    rcases tn j hj4 with ⟨_, q⟩ | ⟨_, ns2, q1, q2⟩
    · exact h.mlen ns (List.mem_of_getElem? (q.symm.trans ej'))
    · rw [ej'] at q2
      cases q2
      have := hml ns2 (List.mem_of_getElem? q1)
      rw [List.length_append, List.length_singleton]
      omega
theorem PSt.count (h : PSt ds ks H0 Sa st L M S ms c fb N H2 ls mk skv xs lk) {c' : Int → Int} {fb' : Drn → Int} {N' : Nat} (hN : N ≤ N') (h1 : ∀ d ∈ ds, firstF d.2.1 d.2.2 < c' d.1 → firstF d.2.1 d.2.2 < c d.1) (h2 : ∀ d ∈ ds, fb d ≤ fb' d) (h3 : ∀ ns ∈ mk, ∀ n ∈ ns, c' n = c n) : PSt ds ks H0 Sa st L M S ms c' fb' N' H2 ls mk skv xs lk :=
  ⟨h.sta, h.fr, h.dom, h.seen, fun d hd hc => h.stood d hd (h1 d hd hc), Nat.le_trans h.slen hN, fun d hd => Int.le_trans (h.few d hd) (h2 d hd), h.lks,
    fun ns hns => ⟨(h.mks ns hns).1, fun n hn => by obtain ⟨d, hd, e1, e2⟩ := (h.mks ns hns).2 n hn; exact ⟨d, hd, e1, by rw [h3 ns hns n hn]; exact e2⟩⟩, h.lst, fun ns hns => Nat.le_trans (h.mlen ns hns) hN⟩
theorem PSt.look (F : Fx ds ks H0 Sa st L M S ms) (h : PSt ds ks H0 Sa st L M S ms c fb N H2 ls mk skv xs lk) {d : Drn} (hd : d ∈ ds) {v : V} {l : Lk} (s3 : Same H2 H3) (tr : Tr (off H2 H3) v (dLook l)) (lo : LookOf ks ls l)
    (h4 : H4 (Sa d.1) = some (.lst (xs d.1 ++ [v]))) (k4 : ∀ b o, b ≠ Sa d.1 → H3 b = some o → H4 b = some o) (hn : ∀ ns ∈ mk, d.1 ∉ ns) {fb' : Drn → Int} (hf1 : fb d + 1 ≤ fb' d) (hf2 : ∀ e ∈ ds, e.1 ≠ d.1 → fb e ≤ fb' e) :
    PSt ds ks H0 Sa st L M S ms c fb' N H4 ls mk skv (fun n => if n = d.1 then xs n ++ [v] else xs n) (fun n => if n = d.1 then lk n ++ [l] else lk n) := by
  have h3 := h.same s3
  obtain ⟨xs0, hxs0⟩ := F.hSa d hd
  have hl3 := (h3.seen d hd).1
  have ne : ∀ b, H0 b = none → b ≠ Sa d.1 := fun b e z => by rw [z, hxs0] at e; cases e
  have so : Same (off H0 H3) (off H0 H4) := fun b o e => off_at (off_none e).1 (k4 _ _ (ne b (off_none e).1) (off_none e).2)
  have dict_ne : ∀ b kv, H3 b = some (.dK kv) → b ≠ Sa d.1 := fun b kv e z => by rw [z, hl3] at e; cases e
  obtain ⟨p1, p2, p3⟩ := F.sep d hd
  refine ⟨⟨k4 _ _ (dict_ne _ _ h3.sta.h0) h3.sta.h0, k4 _ _ p1.symm h3.sta.h1, k4 _ _ p3.symm h3.sta.h2, k4 _ _ (dict_ne _ _ h3.sta.h3) h3.sta.h3, h3.sta.n1, h3.sta.n2, h3.sta.n3, fun j m ns e1 e2 => k4 _ _ (fun z => p2 (z ▸ List.mem_of_getElem? e1)) (h3.sta.hm j m ns e1 e2), h3.sta.nd, h3.sta.nL, h3.sta.nM⟩,
    fun b o e b1 b2 b3 b4 => k4 _ _ (b4 d hd) (h3.fr b o e b1 b2 b3 b4), fun b e => h3.dom b ?_, fun e he => ?_, fun e he hc => ?_, h3.slen, fun e he => ?_, fun e he => ?_, h3.mks, h3.lst, h3.mlen⟩
  · cases q : H3 b with
    | none => rfl
    | some o =>
      by_cases z : b = Sa d.1
      · rw [z, h4] at e
        cases e
      · rw [k4 _ _ z q] at e
        cases e
  · by_cases z : e.1 = d.1
    · have : e = d := num_inj F.up he hd z
      subst this
      refine ⟨?_, ?_⟩
      · rw [if_pos rfl]
        exact h4
      · rw [if_pos rfl, if_pos rfl, List.map_append]
        exact ((h3.seen e he).2.same so).app (.cons (tr.same fun b o eb => off_at (h.dom b (off_none eb).1) (k4 _ _ (ne b (h.dom b (off_none eb).1)) (off_none eb).2)) .nil)
    · rw [if_neg z, if_neg z]
      exact ⟨k4 _ _ (fun y => z (F.inj e he d hd y)) (h3.seen e he).1, (h3.seen e he).2.same so⟩
  · obtain ⟨so', sl, e1, e2, e3⟩ := h3.stood e he hc
    exact ⟨so', sl, e1, so _ _ e2, e3⟩
  · by_cases z : e.1 = d.1
    · have : e = d := num_inj F.up he hd z
      subst this
      rw [if_pos rfl, List.length_append, List.length_singleton]
      have := h3.few e he
      push_cast
      omega
    · rw [if_neg z]
      exact Int.le_trans (h3.few e he) (hf2 e he z)
  · by_cases z : e.1 = d.1
    · rw [if_pos z]
      intro l' hl'
      rcases List.mem_append.mp hl' with y | y
      · exact h3.lks e he l' y
      · rw [List.mem_singleton.mp y]
        refine ⟨lo.1, lo.2.1, fun x hx => ?_⟩
        obtain ⟨i, hi, e1, e2⟩ := lo.2.2 x hx
        refine ⟨i, hi, e1, ?_⟩
        rcases e2 with e2 | e2
        · exact .inl e2
        · rcases h.lst i x.2 e2 with g | ⟨ns, g1, g2⟩
          · exact .inr (.inl g)
          · exact .inr (.inr ⟨fun w => hn ns (List.mem_of_getElem? g1) (by rw [← z, ← w]; exact g2), ns, g1, g2⟩)
    · rw [if_neg z]
      exact h3.lks e he
theorem PSt.stand (F : Fx ds ks H0 Sa st L M S ms) (h : PSt ds ks H0 Sa st L M S ms c fb N H2 ls mk skv xs lk) {d : Drn} (hd : d ∈ ds) {so : Addr} (s3 : Same H2 H3) (hso0 : H2 so = none) (hso : H3 so = some (.lst (ls.map V.int))) {c' : Int → Int} (h1 : ∀ e ∈ ds, firstF e.2.1 e.2.2 < c' e.1 → e.1 = d.1 ∨ firstF e.2.1 e.2.2 < c e.1) (h3' : ∀ ns ∈ mk, ∀ n ∈ ns, c' n = c n) :
    PSt ds ks H0 Sa st L M S ms c' fb (N + 1) (upd H3 S (.dK (putK skv (Sum.inl d.1) (.ref so)))) ls mk (putK skv (Sum.inl d.1) (.ref so)) xs lk := by
  have h3 := h.same s3
  obtain ⟨oS, hS0⟩ := F.hS
  have hS3 := h3.sta.h3
  have ne : ∀ b, H0 b = none → b ≠ S := fun b e z => by rw [z, hS0] at e; cases e
  have soo : Same (off H0 H3) (off H0 (upd H3 S (.dK (putK skv (Sum.inl d.1) (.ref so))))) := fun b o e => off_at (off_none e).1 (by rw [upd_ne (ne b (off_none e).1)]; exact (off_none e).2)
  have lne : ∀ b ys, H3 b = some (.lst ys) → b ≠ S := fun b ys e z => by rw [z, hS3] at e; cases e
  have stS := F.sS
  refine ⟨⟨by rw [upd_ne stS]; exact h3.sta.h0, by rw [upd_ne (lne _ _ h3.sta.h1)]; exact h3.sta.h1, by rw [upd_ne (lne _ _ h3.sta.h2)]; exact h3.sta.h2, upd_same, h3.sta.n1, h3.sta.n2, h3.sta.n3, fun j m ns e1 e2 => by rw [upd_ne (lne _ _ (h3.sta.hm j m ns e1 e2))]; exact h3.sta.hm j m ns e1 e2, h3.sta.nd, h3.sta.nL, h3.sta.nM⟩,
    fun b o e b1 b2 b3 b4 => by rw [upd_ne b3]; exact h3.fr b o e b1 b2 b3 b4, fun b e => h3.dom b ?_, fun e he => ⟨by rw [upd_ne (lne _ _ (h3.seen e he).1)]; exact (h3.seen e he).1, (h3.seen e he).2.same soo⟩, fun e he hc => ?_, ?_, h3.few, h3.lks, fun ns hns => ⟨(h3.mks ns hns).1, fun n hn => by obtain ⟨e, he, e1, e2⟩ := (h3.mks ns hns).2 n hn; exact ⟨e, he, e1, by rw [h3' ns hns n hn]; exact e2⟩⟩, h3.lst, fun ns hns => Nat.le_succ_of_le (h3.mlen ns hns)⟩
  · by_cases z : b = S
    · rw [z, upd_same] at e
      cases e
    · rw [upd_ne z] at e
      exact e
  · rw [valV_put]
    by_cases z : e.1 = d.1
    · rw [if_pos (by rw [z])]
      exact ⟨so, ls, rfl, soo _ _ (off_at (h.dom so hso0) hso), h3.sta.n1⟩
    · rw [if_neg (fun y => z (Sum.inl.inj y))]
      rcases h1 e he hc with y | y
      · exact absurd y z
      · obtain ⟨so', sl, e1, e2, e3⟩ := h3.stood e he y
        exact ⟨so', sl, e1, soo _ _ e2, e3⟩
  · have := putK_le skv (Sum.inl d.1 : Key) (.ref so)
    have := h3.slen
    omega
end
--@STAGE
structure GoodP (ds : List Drn) (p : Ps) : Prop where
  names : p.1.map (fun d => (d.1, d.2.1)) = ds.map fun d => (d.1, d.2.1)
  few : ∀ (i : Nat) (d : Dl) (e : Drn), p.1[i]? = some d → ds[i]? = some e → (d.2.2.length : Int) ≤ e.2.2
  looks : ∀ d ∈ p.1, ∀ l ∈ d.2.2, (l.map (·.1)).Pairwise (· < ·) ∧ l.length ≤ 4 ∧ ∀ x ∈ l, Bd x.1 ∧ (x.2 = -1 ∨ x.2 = 0 ∨ (x.2 ≠ d.1 ∧ x.2 ∈ mkOf p.2 x.1))
  up : (p.2.map (·.1)).Pairwise (· < ·)
  many : p.2.length ≤ 4
  makes : ∀ m ∈ p.2, Bd m.1 ∧ m.2 ≠ [] ∧ m.2.length ≤ 100 ∧ m.2.Nodup ∧ ∀ n ∈ m.2, n ∈ ds.map (·.1)
noncomputable def spPast (K : PySem.W.Frag) : Sp := fun vs H Q _ => ∃ (a : Addr) (ns : List Int) (dv ov : V) (ds : List Drn) (os : List Pr), vs = [.ref a, dv, ov] ∧ SqL K H a (ns.map V.int) ∧ Tr H dv (.list (ds.map dDrn)) ∧ Tr H ov (.list (os.map dPair)) ∧ GoodD ds ∧ Walk ds os ∧ os.length ≤ 100 ∧
  ∀ v H' p, Same H H' → Tr H' v (dPast p) → GoodP ds p → Q v H'
noncomputable def mkMk (ks : List Int) (mk : List (List Int)) (i : Nat) : Option Mkr := match ks[i]?, mk[i]? with
  | some k, some (n :: r) => some (k, n :: r)
  | _, _ => none
theorem mkMk_some {ks : List Int} {mk : List (List Int)} {i : Nat} {m : Mkr} (h : mkMk ks mk i = some m) : ks[i]? = some m.1 ∧ mk[i]? = some m.2 ∧ m.2 ≠ [] := by
  unfold mkMk at h
  split at h
  · next k n r e1 e2 => cases h; exact ⟨e1, e2, by simp⟩
  · cases h
theorem mkMk_at {ks : List Int} {mk : List (List Int)} {i : Nat} {k : Int} {ns : List Int} (h1 : ks[i]? = some k) (h2 : mk[i]? = some ns) (h3 : ns ≠ []) : mkMk ks mk i = some (k, ns) := by
  unfold mkMk
  rw [h1, h2]
  cases ns with
  | nil => exact absurd rfl h3
  | cons a r => rfl
noncomputable def mkAll (ks : List Int) (mk : List (List Int)) : List Mkr := (List.range 4).filterMap (mkMk ks mk)
theorem mkAll_up {ks : List Int} {mk : List (List Int)} (hk : ks.Pairwise (· < ·)) : ((mkAll ks mk).map (·.1)).Pairwise (· < ·) := by
  rw [List.pairwise_map]
  unfold mkAll
  rw [List.pairwise_filterMap]
  refine List.pairwise_lt_range.imp fun {i j} hij m hm m' hm' => ?_
  obtain ⟨a1, _, _⟩ := mkMk_some hm
  obtain ⟨b1, _, _⟩ := mkMk_some hm'
  obtain ⟨ai, ae⟩ := List.getElem?_eq_some_iff.mp a1
  obtain ⟨bi, be⟩ := List.getElem?_eq_some_iff.mp b1
  have := List.pairwise_iff_getElem.mp hk i j ai bi hij
  rw [ae, be] at this
  exact this
theorem mkOf_mem {ms : List Mkr} (h : (ms.map (·.1)).Pairwise (· < ·)) {m : Mkr} (hm : m ∈ ms) : mkOf ms m.1 = m.2 := by
  unfold mkOf
  have : ms.find? (fun x => x.1 == m.1) = some m := by
    rw [List.find?_eq_some_iff_getElem]
    obtain ⟨i, hi, ei⟩ := List.getElem_of_mem hm
    refine ⟨by simp, i, hi, ei, fun j hj => ?_⟩
    have := List.pairwise_iff_getElem.mp (List.pairwise_map.mp h) j i (by omega) hi hj
    rw [ei] at this
    have ne : ms[j].1 ≠ m.1 := Int.ne_of_lt this
    simpa using ne
  rw [this]
  rfl
theorem mkOf_all {ks : List Int} {mk : List (List Int)} (hk : ks.Pairwise (· < ·)) {i : Nat} {k x : Int} {ns : List Int} (hi : i < 4) (h1 : ks[i]? = some k) (h2 : mk[i]? = some ns) (hx : x ∈ ns) : x ∈ mkOf (mkAll ks mk) k := by
  have hm : (k, ns) ∈ mkAll ks mk := List.mem_filterMap.mpr ⟨i, List.mem_range.mpr hi, mkMk_at h1 h2 (List.ne_nil_of_mem hx)⟩
  have := mkOf_mem (mkAll_up (mk := mk) hk) hm
  rw [this]
  exact hx
--@STAGE
theorem ok_Lpast (T : Tx K mg) : FnOk P w K mg base CX0 4 T.f_Lpast T.d_Lpast ["_law_script", "_law_deals", "_law_order"] (spPast K) := by
  refine T.F_Lpast.ok sc_Lpast (fun vs H Q E h => ?_) (fun cdv A outer s H vs Q E hr h => ?_)
  · obtain ⟨a, ns, dv, ov, ds, os, rfl, _⟩ := h
    rfl
  · obtain ⟨a, ns, dv, ov, ds, os, rfl, ha, hd, ho, ⟨g1, g2, g3, g4⟩, hW, hol, q⟩ := h
    have hu := hu_of hr
    refine ⟨_, (pss_cons (ps_set (i := 3) sc_Lpast.nd rfl (Or.inr rfl) (pe_call ((ok_Lkeys T).mono (by decide)) hr rfl T.m_Lkeys T.F_Lkeys.kp T.b_Lkeys .nil pass0 (pa_cons (pe_call ((ok_Lmixed T).mono (by decide)) hr rfl T.m_Lmixed T.F_Lmixed.kp T.b_Lmixed .nil pass0 (pa_cons (pe_call ((ok_Lcell T).mono (by decide)) hr rfl T.m_Lcell T.F_Lcell.kp T.b_Lcell .nil pass0 (pa_cons (pv 0) (pa_cons pe_int pa_nil))) (pa_cons pe_int pa_nil))) pa_nil)))
      (pss_cons (ps_set (i := 4) sc_Lpast.nd rfl (Or.inr rfl) (pe_disp (pps_cons pe_str (pe_lst (pa_cons pe_int (pa_cons pe_int (pa_cons pe_int (pa_cons pe_int pa_nil))))) (pps_cons pe_str (pe_lst (pa_cons (pe_lst pa_nil) (pa_cons (pe_lst pa_nil) (pa_cons (pe_lst pa_nil) (pa_cons (pe_lst pa_nil) pa_nil))))) (pps_cons pe_str pe_dnewK pps_nil))) rfl rfl (by simp) (by decide)))
      (pss_cons (ps_set (i := 5) sc_Lpast.nd rfl (Or.inr rfl) pe_dnewK)
      (pss_cons (ps_set (i := 6) sc_Lpast.nd rfl (Or.inl rfl) pe_dnewK)
      (pss_cons (ps_for PassesOwn.never rfl (pi_list (pv 1)) (pg_tup rfl (pgs_cons (pg_name (i := 7) sc_Lpast.nd rfl (Or.inl rfl)) (pgs_cons (pg_name (i := 8) sc_Lpast.nd rfl (Or.inl rfl)) (pgs_cons (pg_name (i := 9) sc_Lpast.nd rfl (Or.inl rfl)) pgs_nil))))
      (pss_cons (ps_dput hu (pv 5) (pv 7) (pe_lst pa_nil) rfl)
      (pss_one (ps_dput hu (pv 6) (pv 7) (pe_tup (pa_cons (pv 8) (pa_cons (pv 9) pa_nil))) rfl))))
      (pss_cons (ps_for PassesOwn.never rfl (pi_range1 rfl T.z_range (pa_cons (pe_callB call_len (by rfl) T.z_len boot_len (pa_cons (pv 2) pa_nil)) pa_nil)) (pg_name (i := 10) sc_Lpast.nd rfl (Or.inl rfl))
      (pss_cons (ps_asg (pe_ix ix_list (pv 2) (pv 10) (fun _ _ => rfl)) (pg_tup rfl (pgs_cons (pg_name (i := 7) sc_Lpast.nd rfl (Or.inl rfl)) (pgs_cons (pg_name (i := 11) sc_Lpast.nd rfl (Or.inl rfl)) pgs_nil))))
      (pss_cons (ps_asg (pe_dget hu (pv 6) (pv 7) (fun _ _ => rfl)) (pg_tup rfl (pgs_cons (pg_name (i := 8) sc_Lpast.nd rfl (Or.inl rfl)) (pgs_cons (pg_name (i := 9) sc_Lpast.nd rfl (Or.inl rfl)) pgs_nil))))
      (pss_cons (ps_set (i := 12) sc_Lpast.nd rfl (Or.inl rfl) (pe_call ((ok_Lcell T).mono (by decide)) hr rfl T.m_Lcell T.F_Lcell.kp T.b_Lcell .nil pass0 (pa_cons (pv 0) (pa_cons (pe_op op_add pe_int (pv 10)) pa_nil))))
      (pss_cons (ps_for PassesOwn.never rfl (pi_range1 rfl T.z_range (pa_cons (pv 9) pa_nil)) (pg_name (i := 13) sc_Lpast.nd rfl (Or.inl rfl))
      (pss_one (ps_if (pt_cmpR op_eq (pe_call ((ok_Lplace T).mono (by decide)) hr rfl T.m_Lplace T.F_Lplace.kp T.b_Lplace .nil pass0 (pa_cons (pv 8) (pa_cons (pv 13) pa_nil))) (pv 11) (nomark _))
      (pss_cons (ps_set (i := 14) sc_Lpast.nd rfl (Or.inl rfl) (pe_call ((ok_Llook T).mono (by decide)) hr rfl T.m_Llook T.F_Llook.kp T.b_Llook .nil pass0 (pa_cons (pv 3) (pa_cons (pe_dget hu (pv 4) pe_str (fun _ _ => rfl)) (pa_cons (pe_call ((ok_Lmixed T).mono (by decide)) hr rfl T.m_Lmixed T.F_Lmixed.kp T.b_Lmixed .nil pass0 (pa_cons (pv 12) (pa_cons (pe_op op_add pe_int (pv 13)) pa_nil))) (pa_cons (pe_cmpR op_eq (pv 8) pe_str (nomark _)) pa_nil))))))
      (pss_one (ps_expr (pe_bm PySem.F.plainAttrs_list PySem.F.slot_list_append PySem.F.type_list_append mt_appendA (pe_dget hu (pv 5) (pv 7) (fun _ _ => rfl)) (pa_cons (pv 14) pa_nil)))))
      pss_nil)))
      (pss_cut (ps_if (pt_cmpR op_eq (pv 11) (pe_call ((ok_Lfirst T).mono (by decide)) hr rfl T.m_Lfirst T.F_Lfirst.kp T.b_Lfirst .nil pass0 (pa_cons (pv 8) (pa_cons (pv 9) pa_nil))) (nomark _))
      (pss_one (ps_dput hu (pe_dget hu (pv 4) pe_str (fun _ _ => rfl)) (pv 7) (pe_callTy call_list_of (by rfl) T.z_list boot_list (pa_cons (pe_dget hu (pv 4) pe_str (fun _ _ => rfl)) pa_nil)) rfl))
      pss_nil)
      (pss_one (ps_if (pt_cmpR op_eq (pv 11) (pe_op op_sub (pe_call ((ok_Lspots T).mono (by decide)) hr rfl T.m_Lspots T.F_Lspots.kp T.b_Lspots .nil pass0 (pa_cons (pv 8) (pa_cons (pv 9) pa_nil))) pe_int) (nomark _))
      (pss_one (ps_expr (pe_call ((ok_Lkept T).mono (by decide)) hr rfl T.m_Lkept T.F_Lkept.kp T.b_Lkept .nil pass0 (pa_cons (pv 7) (pa_cons (pv 8) (pa_cons (pe_call ((ok_Lmixed T).mono (by decide)) hr rfl T.m_Lmixed T.F_Lmixed.kp T.b_Lmixed .nil pass0 (pa_cons (pv 12) (pa_cons pe_int pa_nil))) (pa_cons (pv 4) pa_nil)))))))
      pss_nil))))))))
      (pss_cons (ps_compF (i := 15) ["_law_k"] rfl sc_Lpast.nd rfl rfl (CompSc.mk (fv := ["_law_keys_here", "_law_state"]) (js := [3, 4]) rfl (by decide +kernel) (by decide +kernel) (by decide +kernel) (allc_cons (Or.inl rfl) (allc_cons (Or.inl rfl) allc_nil)) rfl (by decide +kernel)) (pi_range1 rfl T.z_range (pa_cons pe_int pa_nil)) rfl (fun _ _ _ _ _ => (pg_name (i := 0) (show (["_law_k", "_law_keys_here", "_law_state"] : List Str).Nodup by decide +kernel) rfl (Or.inl rfl))) (fun _ _ _ _ _ => (pf_one (pt_cmpR (op_neSK (K := K) rfl hr.units) (pe_ix (ix_listK (K := K) rfl) (pe_dget hu (pv 2) pe_str (fun _ _ => rfl)) (pv 0) (fun _ _ => rfl)) (pe_lst pa_nil) (nomark _)))) (fun _ _ _ _ _ => (pe_tup (pa_cons (pe_ix (ix_listK (K := K) rfl) (pv 1) (pv 0) (fun _ _ => rfl)) (pa_cons (pe_ix (ix_listK (K := K) rfl) (pe_dget hu (pv 2) pe_str (fun _ _ => rfl)) (pv 0) (fun _ _ => rfl)) pa_nil)))))
      (pss_one (ps_ret (pe_tup (pa_cons (pe_compF ["_law_number", "_law_word", "_law_looks"] rfl (CompSc.mk (fv := ["_law_seen"]) (js := [5]) rfl (by decide +kernel) (by decide +kernel) (by decide +kernel) (allc_cons (Or.inl rfl) allc_nil) rfl (by decide +kernel)) (pi_list (pv 1)) (fun _ _ _ _ _ => (pg_tupK (K := K) (n := 3) rfl rfl (pgs_cons (pg_name (i := 0) (show (["_law_number", "_law_word", "_law_looks", "_law_seen"] : List Str).Nodup by decide +kernel) rfl (Or.inl rfl)) (pgs_cons (pg_name (i := 1) (show (["_law_number", "_law_word", "_law_looks", "_law_seen"] : List Str).Nodup by decide +kernel) rfl (Or.inl rfl)) (pgs_cons (pg_name (i := 2) (show (["_law_number", "_law_word", "_law_looks", "_law_seen"] : List Str).Nodup by decide +kernel) rfl (Or.inl rfl)) pgs_nil))))) (fun _ _ _ _ _ => pf_nil) (fun _ _ _ _ _ => (pe_tup (pa_cons (pv 0) (pa_cons (pv 1) (pa_cons (pe_dget hu (pv 3) (pv 0) (fun _ _ => rfl)) pa_nil)))))) (pa_cons (pv 15) pa_nil)))))))))))), ?_⟩
    refine foldS fun b' hb' => ?_
    have z9 : (200 : Nat) ≤ sizeLine := by decide
    obtain ⟨dl, dxs, rfl, hdl, htd⟩ := hd.list
    obtain ⟨ol, oxs, rfl, hol2, hto⟩ := ho.list
    have hdxl : dxs.length = ds.length := by rw [htd.len, List.length_map]
    have hoxl : oxs.length = os.length := by rw [hto.len, List.length_map]
    refine ⟨_, rfl, a, ns, 0, rfl, ha, by decide, fun c0 => ⟨c0, 4, rfl, mixF c0 4, rfl, mixF_nonneg _ _, mixF_lt _ _, fun Dk H1 ks hDk s1 hk gk => ?_⟩⟩
    have gk1 := gk.1; have gk2 := gk.2.1; have gk3 := gk.2.2
    subst hb'; refine foldN fun b' hb' => ?_
    intro st hst
    refine ⟨(by show 4 ≤ sizeLine; decide), fun L hL => ⟨(by show 0 ≤ sizeLine; decide), fun m0 hm0 => ⟨(by show 0 ≤ sizeLine; decide), fun m1 hm1 => ⟨(by show 0 ≤ sizeLine; decide), fun m2 hm2 => ⟨(by show 0 ≤ sizeLine; decide), fun m3 hm3 => ⟨(by show 4 ≤ sizeLine; decide), fun M hM => fun S hS => ?_⟩⟩⟩⟩⟩⟩
    have p0 := Same.upd (o := HO.dK []) hst
    have p1 := Same.upd (o := HO.lst [.int 0, .int 0, .int 0, .int 0]) hL
    have p2 := Same.upd (o := HO.lst []) hm0
    have p3 := Same.upd (o := HO.lst []) hm1
    have p4 := Same.upd (o := HO.lst []) hm2
    have p5 := Same.upd (o := HO.lst []) hm3
    have p6 := Same.upd (o := HO.lst [.ref m0, .ref m1, .ref m2, .ref m3]) hM
    have p7 := Same.upd (o := HO.dK []) hS
    have r0 : upd H1 st (.dK []) st = some (.dK []) := upd_same
    have r1 : upd (upd H1 st (.dK [])) L (.lst [.int 0, .int 0, .int 0, .int 0]) L = some (.lst [.int 0, .int 0, .int 0, .int 0]) := upd_same
    generalize upd (upd H1 st (.dK [])) L (.lst [.int 0, .int 0, .int 0, .int 0]) = G1 at *
    have r2 : upd G1 m0 (.lst []) m0 = some (.lst []) := upd_same
    generalize upd G1 m0 (.lst []) = G2 at *
    have r3 : upd G2 m1 (.lst []) m1 = some (.lst []) := upd_same
    generalize upd G2 m1 (.lst []) = G3 at *
    have r4 : upd G3 m2 (.lst []) m2 = some (.lst []) := upd_same
    generalize upd G3 m2 (.lst []) = G4 at *
    have r5 : upd G4 m3 (.lst []) m3 = some (.lst []) := upd_same
    generalize upd G4 m3 (.lst []) = G5 at *
    have r6 : upd G5 M (.lst [.ref m0, .ref m1, .ref m2, .ref m3]) M = some (.lst [.ref m0, .ref m1, .ref m2, .ref m3]) := upd_same
    generalize upd G5 M (.lst [.ref m0, .ref m1, .ref m2, .ref m3]) = G6 at *
    have r7 : upd G6 S (.dK []) S = some (.dK []) := upd_same
    generalize upd G6 S (.dK []) = G7 at *
    have q1 := p1.trans (p2.trans (p3.trans (p4.trans (p5.trans (p6.trans p7)))))
    have q2 := p2.trans (p3.trans (p4.trans (p5.trans (p6.trans p7))))
    have q3 := p3.trans (p4.trans (p5.trans (p6.trans p7)))
    have q4 := p4.trans (p5.trans (p6.trans p7))
    have q5 := p5.trans (p6.trans p7)
    have q6 := p6.trans p7
    have emg : mergeK [] (skO L M S) = skO L M S := put_all (skO L M S) [] (by show ([Sum.inr "last", Sum.inr "makers", Sum.inr "stood"] : List Key).Nodup; decide +kernel)
    refine ⟨q1 _ _ r0, skO L M S, rfl, (by show 3 ≤ 15; decide), ?_⟩
    rw [emg]
    have ne2 : ∀ {HA : Hp} {x y : Addr} {o : HO}, HA x = none → HA y = some o → x ≠ y := fun e1 e2 z => by rw [z, e2] at e1; cases e1
    -- who is who
    have nL : L ≠ st := ne2 hL r0
    have n0 : m0 ≠ L := ne2 hm0 r1
    have n0s : m0 ≠ st := ne2 hm0 (p1 _ _ r0)
    have n1 : m1 ≠ L := ne2 hm1 (p2 _ _ r1)
    have n10 : m1 ≠ m0 := ne2 hm1 r2
    have n1s : m1 ≠ st := ne2 hm1 (p2 _ _ (p1 _ _ r0))
    have n2 : m2 ≠ L := ne2 hm2 (p3 _ _ (p2 _ _ r1))
    have n20 : m2 ≠ m0 := ne2 hm2 (p3 _ _ r2)
    have n21 : m2 ≠ m1 := ne2 hm2 r3
    have n2s : m2 ≠ st := ne2 hm2 (p3 _ _ (p2 _ _ (p1 _ _ r0)))
    have n3 : m3 ≠ L := ne2 hm3 (p4 _ _ (p3 _ _ (p2 _ _ r1)))
    have n30 : m3 ≠ m0 := ne2 hm3 (p4 _ _ (p3 _ _ r2))
    have n31 : m3 ≠ m1 := ne2 hm3 (p4 _ _ r3)
    have n32 : m3 ≠ m2 := ne2 hm3 r4
    have n3s : m3 ≠ st := ne2 hm3 (p4 _ _ (p3 _ _ (p2 _ _ (p1 _ _ r0))))
    have nMs : M ≠ st := ne2 hM (p5 _ _ (p4 _ _ (p3 _ _ (p2 _ _ (p1 _ _ r0)))))
    have nML : M ≠ L := ne2 hM (p5 _ _ (p4 _ _ (p3 _ _ (p2 _ _ r1))))
    have nM0 : M ≠ m0 := ne2 hM (p5 _ _ (p4 _ _ (p3 _ _ r2)))
    have nM1 : M ≠ m1 := ne2 hM (p5 _ _ (p4 _ _ r3))
    have nM2 : M ≠ m2 := ne2 hM (p5 _ _ r4)
    have nM3 : M ≠ m3 := ne2 hM r5
    have nSs : S ≠ st := ne2 hS (p6 _ _ (p5 _ _ (p4 _ _ (p3 _ _ (p2 _ _ (p1 _ _ r0))))))
    have sG : Same H1 (upd G7 st (.dK (skO L M S))) := (p0.trans q1).again hst
    have fresh1 : H1 L = none ∧ H1 m0 = none ∧ H1 m1 = none ∧ H1 m2 = none ∧ H1 m3 = none ∧ H1 M = none ∧ H1 S = none := ⟨p0.free hL, (p0.trans p1).free hm0, (p0.trans (p1.trans p2)).free hm1, (p0.trans (p1.trans (p2.trans p3))).free hm2, (p0.trans (p1.trans (p2.trans (p3.trans p4)))).free hm3, (p0.trans (p1.trans (p2.trans (p3.trans (p4.trans p5))))).free hM, (p0.trans (p1.trans (p2.trans (p3.trans (p4.trans (p5.trans p6)))))).free hS⟩
    have hStaG : Sta (upd G7 st (.dK (skO L M S))) st L M S [m0, m1, m2, m3] [0, 0, 0, 0] [[], [], [], []] [] := by
      refine ⟨upd_same, by rw [upd_ne nL]; exact q2 _ _ r1, by rw [upd_ne nMs]; exact p7 _ _ r6, by rw [upd_ne nSs]; exact r7, rfl, rfl, rfl, fun j m nn e1 e2 => ?_, ?_, ?_, ⟨nML, ?_⟩⟩
      · have : j = 0 ∨ j = 1 ∨ j = 2 ∨ j = 3 := by
          have := (List.getElem?_eq_some_iff.mp e1).1
          simp only [List.length_cons, List.length_nil] at this
          omega
        rcases this with rfl | rfl | rfl | rfl <;> cases e1 <;> cases e2
        · rw [upd_ne n0s]; exact q3 _ _ r2
        · rw [upd_ne n1s]; exact q4 _ _ r3
        · rw [upd_ne n2s]; exact q5 _ _ r4
        · rw [upd_ne n3s]; exact q6 _ _ r5
      · simp only [List.nodup_cons, List.mem_cons, List.not_mem_nil, or_false, not_or, List.nodup_nil, and_true, not_false_eq_true]
        exact ⟨⟨n10.symm, n20.symm, n30.symm⟩, ⟨n21.symm, n31.symm⟩, n32.symm⟩
      · simp only [List.mem_cons, List.not_mem_nil, or_false, not_or]
        exact ⟨n0.symm, n1.symm, n2.symm, n3.symm⟩
      · simp only [List.mem_cons, List.not_mem_nil, or_false, not_or]
        exact ⟨nM0, nM1, nM2, nM3⟩
    generalize upd G7 st (.dK (skO L M S)) = G8 at *
    clear p0 p1 p2 p3 p4 p5 p6 p7 r0 r1 r2 r3 r4 r5 r6 r7 q1 q2 q3 q4 q5 q6 n0 n0s n1 n10 n1s n2 n20 n21 n2s n3 n30 n31 n32 n3s nMs nML nM0 nM1 nM2 nM3
    subst hb'; refine foldN fun b' hb' => ?_
    intro se hse
    subst hb'; refine foldN fun b' hb' => ?_
    intro kn hkn
    subst hb'; refine foldN fun b' hb' => ?_
    have s8a := Same.upd (o := HO.dK []) hse
    have s8b := Same.upd (o := HO.dK []) hkn
    have knse : kn ≠ se := ne2 hkn upd_same
    have seS : se ≠ S := ne2 hse hStaG.h3
    have knS : kn ≠ S := ne2 hkn (s8a _ _ hStaG.h3)
    have hkn8 : G8 kn = none := s8a.free hkn
    refine ⟨_, rfl, dl, rfl, ⟨_, SqL.of ((sG.trans (s8a.trans s8b)) _ _ (s1 _ _ hdl))⟩, for_list (K := K) (a := dl) (xs := dxs) (fun i σ H2 => ∃ (x7 x8 x9 : Option V) (Sa Ka : Int → Addr) (sv kv : List (Key × V)), σ = [some (.ref a), some (.ref dl), some (.ref ol), some (.ref Dk), some (.ref st), some (.ref se), some (.ref kn), x7, x8, x9, none, none, none, none, none, none] ∧ Same G8 H2 ∧ H2 se = some (.dK sv) ∧ H2 kn = some (.dK kv) ∧ sv.length ≤ i ∧ kv.length ≤ i ∧ (∀ d ∈ ds.take i, valV sv (Sum.inl d.1) = some (.ref (Sa d.1)) ∧ H2 (Sa d.1) = some (.lst []) ∧ G8 (Sa d.1) = none ∧ valV kv (Sum.inl d.1) = some (.ref (Ka d.1)) ∧ H2 (Ka d.1) = some (.tup [.str d.2.1, .int d.2.2])) ∧ ∀ d ∈ ds.take i, ∀ e ∈ ds.take i, Sa d.1 = Sa e.1 → d.1 = e.1)
      ⟨none, none, none, fun _ => 0, fun _ => 0, [], [], rfl, s8a.trans s8b, s8b _ _ upd_same, upd_same, Nat.le_refl _, Nat.le_refl _, (fun d h => by simp at h), fun d h => by simp at h⟩ (fun i σ H2 _ hJ' => by obtain ⟨_, _, _, _, _, _, _, _, s2, _⟩ := hJ'; exact SqL.of (s2 _ _ (sG _ _ (s1 _ _ hdl)))) ?_ ?_⟩
    · intro i x σ H2 hx hJ'
      refine hide fun G' hG' => ?_
      obtain ⟨x7, x8, x9, Sa, Ka, sv, kv, rfl, s2, hsv, hkv, lsv, lkv, hal, hinj⟩ := hJ'
      refine hG' ?_
      refine hideG fun D' hD' => ?_
      obtain ⟨pd, hpd, tr⟩ := htd.get hx
      have hi : i < ds.length := by rw [← hdxl]; exact (List.getElem?_eq_some_iff.mp hx).1
      have ed : ds[i]? = some ds[i] := List.getElem?_eq_getElem hi
      rw [List.getElem?_map, ed] at hpd
      cases hpd
      obtain ⟨t, rfl, ht⟩ := tr.drn
      have htk : ds.take (i + 1) = ds.take i ++ [ds[i]] := by rw [List.take_add_one, ed]; rfl
      have hnew : ∀ e ∈ ds.take i, e.1 ≠ ds[i].1 := fun e he z => by
        have hp := List.pairwise_iff_getElem.mp (List.pairwise_map.mp g2)
        obtain ⟨j, hj, rfl⟩ := List.getElem_of_mem he
        rw [List.length_take] at hj
        have := hp j i (by omega) hi (by omega)
        rw [List.getElem_take] at z
        omega
      refine ⟨t, _, rfl, SqT.of (s2 _ _ (sG _ _ (s1 _ _ ht))), rfl, _, _, rfl, _, _, rfl, _, _, rfl, rfl, ?_⟩
      refine foldS fun b2' hb2' => ?_
      refine ⟨(by show 0 ≤ sizeLine; decide), fun b hb => ⟨_, rfl, _, rfl, se, _, rfl, .inl ⟨sv, Sum.inl ds[i].1, (Same.upd hb) _ _ hsv, rfl, by omega, rfl⟩, ?_⟩⟩
      have bse : b ≠ se := ne2 hb hsv
      have bkn : b ≠ kn := ne2 hb hkv
      have k3 : ∀ x o, x ≠ se → H2 x = some o → upd (upd H2 b (.lst [])) se (.dK (putK sv (Sum.inl ds[i].1) (.ref b))) x = some o := fun x o hx e => by rw [upd_ne hx]; exact (Same.upd hb) _ _ e
      have hb3 : upd (upd H2 b (.lst [])) se (.dK (putK sv (Sum.inl ds[i].1) (.ref b))) b = some (.lst []) := by rw [upd_ne bse]; exact upd_same
      have hse3 : upd (upd H2 b (.lst [])) se (.dK (putK sv (Sum.inl ds[i].1) (.ref b))) se = some (.dK (putK sv (Sum.inl ds[i].1) (.ref b))) := upd_same
      generalize upd (upd H2 b (.lst [])) se (.dK (putK sv (Sum.inl ds[i].1) (.ref b))) = H3 at *
      subst hb2'
      refine ⟨_, rfl, _, rfl, (by show 2 ≤ sizeLine; decide), fun t2 ht2 => ⟨_, rfl, _, rfl, kn, _, rfl, .inl ⟨kv, Sum.inl ds[i].1, (Same.upd ht2) _ _ (k3 _ _ knse hkv), rfl, by omega, rfl⟩, ?_⟩⟩
      have s4 := Same.upd (o := HO.tup [.str ds[i].2.1, .int ds[i].2.2]) ht2
      have ht4 : upd H3 t2 (.tup [.str ds[i].2.1, .int ds[i].2.2]) t2 = some (.tup [.str ds[i].2.1, .int ds[i].2.2]) := upd_same
      have tkn : t2 ≠ kn := ne2 ht2 (k3 _ _ knse hkv)
      have k5 : ∀ x o, x ≠ kn → H3 x = some o → upd (upd H3 t2 (.tup [.str ds[i].2.1, .int ds[i].2.2])) kn (.dK (putK kv (Sum.inl ds[i].1) (.ref t2))) x = some o := fun x o hx e => by rw [upd_ne hx]; exact s4 _ _ e
      have ht5 : upd (upd H3 t2 (.tup [.str ds[i].2.1, .int ds[i].2.2])) kn (.dK (putK kv (Sum.inl ds[i].1) (.ref t2))) t2 = some (.tup [.str ds[i].2.1, .int ds[i].2.2]) := by rw [upd_ne tkn]; exact ht4
      subst hD'
      refine ⟨_, _, _, fun m => if m = ds[i].1 then b else Sa m, fun m => if m = ds[i].1 then t2 else Ka m, _, _, rfl, fun x o e => ?_, k5 _ _ knse.symm hse3, upd_same, ?_, ?_, ?_, ?_⟩
      · exact k5 _ _ (ne2 hkn8 e).symm (k3 _ _ (ne2 hse e).symm (s2 _ _ e))
      · have := putK_le sv (Sum.inl ds[i].1 : Key) (.ref b)
        omega
      · have := putK_le kv (Sum.inl ds[i].1 : Key) (.ref t2)
        omega
      · intro d hd
        rw [htk] at hd
        rw [valV_put, valV_put]
        dsimp only
        rcases List.mem_append.mp hd with y | y
        · obtain ⟨a1, a2, a3, a4, a5⟩ := hal d y
          have ne := hnew d y
          rw [if_neg (fun z => ne (Sum.inl.inj z)), if_neg (fun z => ne (Sum.inl.inj z)), if_neg ne, if_neg ne]
          exact ⟨a1, k5 _ _ (fun z => by rw [z, hkv] at a2; cases a2) (k3 _ _ (fun z => by rw [z, hsv] at a2; cases a2) a2), a3, a4, k5 _ _ (fun z => by rw [z, hkv] at a5; cases a5) (k3 _ _ (fun z => by rw [z, hsv] at a5; cases a5) a5)⟩
        · rw [List.mem_singleton.mp y, if_pos rfl, if_pos rfl, if_pos rfl, if_pos rfl]
          exact ⟨rfl, k5 _ _ bkn hb3, s2.free hb, rfl, ht5⟩
      · intro d hd e he
        rw [htk] at hd he
        dsimp only
        rcases List.mem_append.mp hd with y | y <;> rcases List.mem_append.mp he with y' | y'
        · rw [if_neg (hnew d y), if_neg (hnew e y')]
          exact hinj d y e y'
        · rw [List.mem_singleton.mp y', if_neg (hnew d y), if_pos rfl]
          exact fun z => absurd z.symm (ne2 hb (hal d y).2.1)
        · rw [List.mem_singleton.mp y, if_neg (hnew e y'), if_pos rfl]
          exact fun z => absurd z (ne2 hb (hal e y').2.1)
        · rw [List.mem_singleton.mp y, List.mem_singleton.mp y']
          exact fun _ => rfl
    intro σ H0 hJ'
    refine hide fun G' hG' => ?_
    obtain ⟨x7, x8, x9, Sa, Ka, sv, kv, rfl, s2, hsv, hkv, lsv, lkv, hal, hinj⟩ := hJ'
    refine hG' ?_
    subst hb'; refine foldN fun b' hb' => ?_
    rw [hdxl, List.take_length] at hal hinj
    obtain ⟨hf1, hf2, hf3, hf4, hf5, hf6, hf7⟩ := fresh1
    have hms8 : ∀ m ∈ [m0, m1, m2, m3], ∃ xs, G8 m = some (.lst xs) := fun m hm => by
      obtain ⟨j, hj, ej⟩ := List.getElem_of_mem hm
      have hj4 : j < 4 := hj
      exact ⟨_, hStaG.hm j m _ (by rw [List.getElem?_eq_getElem hj, ej]) (List.getElem?_eq_getElem (show j < [([] : List Int), [], [], []].length from hj4))⟩
    have F : Fx ds ks H0 Sa st L M S [m0, m1, m2, m3] := ⟨g2, gk1, ⟨_, s2 _ _ hStaG.h1⟩, fun m hm => by obtain ⟨xs, e⟩ := hms8 m hm; exact ⟨xs, s2 _ _ e⟩, ⟨_, s2 _ _ hStaG.h3⟩, fun d hd => ⟨_, (hal d hd).2.1⟩, hinj, fun d hd => ⟨ne2 (hal d hd).2.2.1 hStaG.h1, fun z => by obtain ⟨xs, e⟩ := hms8 _ z; exact ne2 (hal d hd).2.2.1 e rfl, ne2 (hal d hd).2.2.1 hStaG.h2⟩, nSs.symm⟩
    have old : ∀ {c : Int → Int} {fb : Drn → Int} {N : Nat} {H2 : Hp} {ls : List Int} {mk : List (List Int)} {skv : List (Key × V)} {xs : Int → List V} {lk : Int → List Lk}, PSt ds ks H0 Sa st L M S [m0, m1, m2, m3] c fb N H2 ls mk skv xs lk → Same H1 H2 := fun hP b o e => by
      refine hP.fr b o (s2 _ _ (sG _ _ e)) (ne2 hf1 e).symm (fun z => ?_) (ne2 hf7 e).symm fun d hd => (ne2 (hal d hd).2.2.1 (sG _ _ e)).symm
      simp only [List.mem_cons, List.not_mem_nil, or_false] at z
      rcases z with rfl | rfl | rfl | rfl
      · rw [hf2] at e; cases e
      · rw [hf3] at e; cases e
      · rw [hf4] at e; cases e
      · rw [hf5] at e; cases e
    have hP0 : PSt ds ks H0 Sa st L M S [m0, m1, m2, m3] (fun n => (cnt os 0 n : Int)) (fun d => lookB d (cnt os 0 d.1)) 0 H0 [0, 0, 0, 0] [[], [], [], []] [] (fun _ => []) (fun _ => []) := by
      refine ⟨hStaG.same s2, fun b o e _ _ _ _ => e, fun b e => e, fun d hd => ⟨(hal d hd).2.1, .nil⟩, fun d hd hc => ?_, Nat.le_refl _, fun d hd => ?_, (fun d hd l hl => by cases hl), fun nn hn => ?_, fun i v hv => .inl ?_, fun nn hn => ?_⟩
      · have := (first_le (w := d.2.1) (g3 d hd).2.2.2.1).1
        have hc' : firstF d.2.1 d.2.2 < (0 : Int) := hc
        omega
      · show (0 : Int) ≤ lookB d (0 : Int)
        have := (g3 d hd).2.2.2.1
        unfold lookB
        split
        · omega
        · split <;> omega
      · simp only [List.mem_cons, List.not_mem_nil, or_false, or_self] at hn
        rw [hn]
        exact ⟨List.nodup_nil, fun n h => by cases h⟩
      · have := List.mem_of_getElem? hv
        simpa using this
      · simp only [List.mem_cons, List.not_mem_nil, or_false, or_self] at hn
        rw [hn]
        exact Nat.le_refl _
    refine ⟨_, rfl, _, _, rfl, .inl ⟨_, SqL.of ((old hP0) _ _ (s1 _ _ hol2)), rfl⟩, _, rfl, by omega, by omega, for_range (lo := 0) (n := ((oxs.length : Nat) : Int).toNat) (fun j σ H2 => ∃ (x7 x8 x9 x10 x11 x12 x13 x14 : Option V) (ls : List Int) (mk : List (List Int)) (skv : List (Key × V)) (xs : Int → List V) (lk : Int → List Lk), σ = [some (.ref a), some (.ref dl), some (.ref ol), some (.ref Dk), some (.ref st), some (.ref se), some (.ref kn), x7, x8, x9, x10, x11, x12, x13, x14, none] ∧ PSt ds ks H0 Sa st L M S [m0, m1, m2, m3] (fun n => (cnt os j n : Int)) (fun d => lookB d (cnt os j d.1)) j H2 ls mk skv xs lk)
      ⟨x7, x8, x9, none, none, none, none, none, _, _, _, _, _, rfl, hP0⟩ ?_ ?_⟩
    · intro j σ H2 hj hJ'
      refine hide fun G' hG' => ?_
      obtain ⟨x7, x8, x9, x10, x11, x12, x13, x14, ls, mk, skv, xs, lk, rfl, hP⟩ := hJ'
      have hj' : j < os.length := by omega
      obtain ⟨⟨n, g⟩, eo⟩ : ∃ p, os[j]? = some p := ⟨_, List.getElem?_eq_getElem hj'⟩
      obtain ⟨hg, d, hd, rfl, hlt⟩ := hW j n g eo
      have sH := old hP
      obtain ⟨ov, hov, otr⟩ := hto.at (i := j) (d := dPair (d.1, g)) (by rw [List.getElem?_map, eo]; rfl)
      obtain ⟨ot, rfl, hot⟩ := otr.pair
      obtain ⟨a1, a2, a3, a4, a5⟩ := hal d hd
      obtain ⟨b1, b2, b3, b4, b5⟩ := g3 d hd
      have hkn2 := hP.dict F hkv knS
      have hgk : DGet H2 kn (.int d.1) (some (.ref (Ka d.1))) := by
        have := DGet.k (k := Sum.inl d.1) hkn2
        rw [a4] at this
        exact this
      have g0 : 0 ≤ g := by omega
      refine hG' ?_
      refine hideG fun D' hD' => ?_
      refine foldS fun b2' hb2' => ?_
      refine ⟨_, rfl, _, rfl, ol, _, _, _, rfl, rfl, SqL.of (sH _ _ (s1 _ _ hol2)), atI_one j (by omega) hov, ot, _, rfl, SqT.of (sH _ _ (s1 _ _ hot)), rfl, _, _, rfl, _, _, rfl, rfl, ?_⟩
      subst hb2'; refine foldN fun b2' hb2' => ?_
      refine ⟨_, rfl, _, rfl, kn, _, rfl, hgk, Ka d.1, _, rfl, SqT.of (hP.tup F a5), rfl, _, _, rfl, _, _, rfl, rfl, ?_⟩
      subst hb2'; refine foldN fun b2' hb2' => ?_
      refine ⟨_, rfl, _, rfl, _, _, rfl, rfl, a, ns, _, rfl, sH.seq (s1.seq ha), by omega, fun cz => ?_⟩
      subst hb2'; refine foldN fun b2' hb2' => ?_
      have notin : ∀ nn ∈ mk, d.1 ∉ nn := fun nn hnn z => by
        obtain ⟨e, he, e1, e2⟩ := (hP.mks nn hnn).2 d.1 z
        have : e = d := num_inj g2 he hd e1
        subst this
        omega
      refine ⟨_, rfl, d.2.2, rfl, by omega, by omega, for_range (lo := 0) (n := d.2.2.toNat) (fun i σ H3 => ∃ (x13 x14 : Option V) (xs : Int → List V) (lk : Int → List Lk), σ = [some (.ref a), some (.ref dl), some (.ref ol), some (.ref Dk), some (.ref st), some (.ref se), some (.ref kn), some (.int d.1), some (.str d.2.1), some (.int d.2.2), some (.int (0 + (j : Int))), some (.int g), some (.int cz), x13, x14, none] ∧ PSt ds ks H0 Sa st L M S [m0, m1, m2, m3] (fun n => (cnt os j n : Int)) (fun e => lookB e (cnt os j e.1) + if e.1 = d.1 then innB d g i else 0) j H3 ls mk skv xs lk)
        ⟨x13, x14, xs, lk, rfl, hP.count (Nat.le_refl _) (fun e he h => h) (fun e he => ?_) (fun _ _ _ _ => rfl)⟩ ?_ ?_⟩
      · have := innB_nonneg (d := d) (g := g) 0
        show lookB e (cnt os j e.1) ≤ lookB e (cnt os j e.1) + if e.1 = d.1 then innB d g 0 else 0
        split <;> omega
      · intro i σ H3 hi hJ'
        refine hide fun G' hG' => ?_
        obtain ⟨x13, x14, xs, lk, rfl, hP3⟩ := hJ'
        refine hG' ?_
        refine hideG fun D3' hD3' => ?_
        have sH3 := old hP3
        refine ⟨_, rfl, _, rfl, d.2.1, _, rfl, _, rfl, rfl, _, rfl, ite2 (fun e => ?_) (fun e => ?_)⟩
        · have e' : placeF d.2.1 (0 + (i : Int)) = g := by
            have := of_decide_eq_true e
            exact V.int.inj this
          have hse3 := hP3.dict F hsv seS
          refine ⟨_, rfl, _, rfl, st, _, rfl, hP3.sta.last, _, rfl, _, rfl, _, _, rfl, rfl, cz, _, rfl, _, rfl, rfl, Dk, L, ks, ls, _, _, rfl, sH3 _ _ hk, hP3.sta.h1, ⟨gk1, gk2, gk3⟩, hP3.sta.n1, fun v H4 l s4 tr lo => ?_⟩
          have hP4 := hP3.same s4
          have hgs : DGet H4 se (.int d.1) (some (.ref (Sa d.1))) := by
            have := DGet.k (k := Sum.inl d.1) (s4 _ _ hse3)
            rw [a1] at this
            exact this
          have hsd := (hP4.seen d hd).1
          have hln : (xs d.1).length < sizeLine := by
            have h1 := (hP4.seen d hd).2.len
            have h2 := hP3.few d hd
            rw [List.length_map] at h1
            have h3 := lookB_le (d := d) (c := (cnt os j d.1 : Int)) b4
            have h4 : innB d g i ≤ 8 := by
              unfold innB
              split
              · split <;> omega
              · split <;> omega
            rw [if_pos rfl] at h2
            omega
          refine ⟨_, rfl, _, rfl, se, _, rfl, hgs, .inl ⟨rfl, _, SqL.of hsd⟩, _, rfl, Sa d.1, xs d.1, _, rfl, rfl, hsd, hln, fun H5 h5 k5 => ?_⟩
          subst hD3'
          refine ⟨_, _, _, _, rfl, hP3.look F hd s4 tr lo h5 k5 notin ?_ fun e he hne => ?_⟩
          · rw [if_pos rfl, if_pos rfl]
            have := innB_up e'
            omega
          · rw [if_neg hne, if_neg hne]
            exact Int.le_refl _
        · subst hD3'
          refine ⟨_, _, xs, lk, rfl, hP3.count (Nat.le_refl _) (fun e he h => h) (fun e he => ?_) (fun _ _ _ _ => rfl)⟩
          have := innB_stay (d := d) (g := g) (i := i)
          split <;> omega
      intro σ H3 hJ'
      refine hide fun G' hG' => ?_
      obtain ⟨x13, x14, xs, lk, rfl, hP3⟩ := hJ'
      refine hG' ?_
      subst hb2'
      have hcn := cnt_next eo
      have hlook : ∀ e ∈ ds, (lookB e (cnt os j e.1) + if e.1 = d.1 then innB d g d.2.2.toNat else 0) ≤ lookB e (cnt os (j + 1) e.1) := fun e he => by
        rw [hcn]
        by_cases z : e.1 = d.1
        · have : e = d := num_inj g2 he hd z
          subst this
          rw [if_pos rfl, if_pos rfl, ← hg]
          exact innB_end b4 g0
        · rw [if_neg z, if_neg (fun y => z y.symm)]
          exact Int.le_of_eq (by simp)
      have hcmk : ∀ nn ∈ mk, ∀ n ∈ nn, (cnt os (j + 1) n : Int) = cnt os j n := fun nn hnn n hn => by
        rw [hcn, if_neg (fun z => notin nn hnn (by rw [z]; exact hn))]
        simp
      refine ⟨fun σ H4 => ∃ (x13 x14 : Option V) (skv' : List (Key × V)), σ = [some (.ref a), some (.ref dl), some (.ref ol), some (.ref Dk), some (.ref st), some (.ref se), some (.ref kn), some (.int d.1), some (.str d.2.1), some (.int d.2.2), some (.int (0 + (j : Int))), some (.int g), some (.int cz), x13, x14, none] ∧ PSt ds ks H0 Sa st L M S [m0, m1, m2, m3] (fun n => (cnt os (j + 1) n : Int)) (fun e => lookB e (cnt os (j + 1) e.1)) (j + 1) H4 ls mk skv' xs lk, ?_, ?_⟩
      · refine ⟨_, rfl, _, rfl, _, rfl, d.2.1, d.2.2, rfl, rfl, _, rfl, ite2 (fun e => ?_) (fun e => ?_)⟩
        · refine ⟨_, rfl, st, _, rfl, hP3.sta.last, L, _, rfl, .inl (SqL.of hP3.sta.h1), fun so hso => ?_⟩
          have s4 := Same.upd (o := HO.lst (ls.map V.int)) hso
          have hP4 := hP3.same s4
          refine ⟨_, rfl, st, _, rfl, hP4.sta.stood, _, rfl, S, _, rfl, .inl ⟨skv, Sum.inl d.1, hP4.sta.h3, rfl, ?_, rfl⟩, _, _, putK skv (Sum.inl d.1) (.ref so), rfl, ?_⟩
          · have := hP3.slen
            omega
          · refine (hP3.stand F hd s4 hso upd_same (c' := fun n => (cnt os (j + 1) n : Int)) (fun e he h => ?_) hcmk).count (Nat.le_refl _) (fun e he h => h) hlook (fun _ _ _ _ => rfl)
            by_cases z : e.1 = d.1
            · exact .inl z
            · refine .inr ?_
              have h' : firstF e.2.1 e.2.2 < (cnt os (j + 1) e.1 : Int) := h
              rw [hcn, if_neg (fun y => z y.symm)] at h'
              simpa using h'
        · have e' : ¬ g = firstF d.2.1 d.2.2 := fun z => e (decide_eq_true (congrArg V.int z))
          refine ⟨_, _, skv, rfl, hP3.count (Nat.le_succ _) (fun f hf h => ?_) hlook hcmk⟩
          have h' : firstF f.2.1 f.2.2 < (cnt os (j + 1) f.1 : Int) := h
          rw [hcn] at h'
          by_cases z : f.1 = d.1
          · have : f = d := num_inj g2 hf hd z
            subst this
            rw [if_pos rfl] at h'
            show firstF f.2.1 f.2.2 < (cnt os j f.1 : Int)
            omega
          · rw [if_neg (fun y => z y.symm)] at h'
            simpa using h'
      rintro σ H4 ⟨x13, x14, skv', rfl, hP4⟩
      refine ⟨_, rfl, _, rfl, _, rfl, d.2.1, d.2.2, rfl, _, _, rfl, rfl, rfl, _, rfl, ite2 (fun e => ?_) (fun e => ?_)⟩
      · have e' : g = spotsF d.2.1 d.2.2 - 1 := V.int.inj (of_decide_eq_true e)
        have hcd : (cnt os (j + 1) d.1 : Int) = spotsF d.2.1 d.2.2 := by
          rw [hcn, if_pos rfl]
          omega
        have hfl := first_le (w := d.2.1) b4
        obtain ⟨so, sl, hso, hsl, hsl4⟩ := hP4.stood d hd (by show firstF d.2.1 d.2.2 < (cnt os (j + 1) d.1 : Int); omega)
        have hso0 := (off_none hsl).1
        refine ⟨_, rfl, _, rfl, _, rfl, cz, 9, rfl, _, rfl, st, L, M, S, so, [m0, m1, m2, m3], ls, sl, mk, skv', d.1, _, d.2.1, rfl, hP4.sta, hso, (off_none hsl).2, hsl4, ?_, ?_, fun nn hnn => ?_, fun H5 ls' mk' hS5 k5 tn => ?_⟩
        · exact ne2 hso0 (s2 _ _ hStaG.h1)
        · exact fun z => by obtain ⟨xx, ex⟩ := hms8 so z; exact ne2 hso0 (s2 _ _ ex) rfl
        · have := hP3.mlen nn hnn
          omega
        · subst hD'
          exact ⟨_, _, _, _, _, _, _, _, ls', mk', skv', xs, lk, rfl, hP4.keep F hd hS5 k5 tn notin hcd fun nn hnn => Nat.lt_succ_of_le (hP3.mlen nn hnn)⟩
      · subst hD'
        exact ⟨_, _, _, _, _, _, _, _, ls, mk, skv', xs, lk, rfl, hP4⟩
    intro σ H2 hJ'
    refine hide fun G' hG' => ?_
    obtain ⟨x7, x8, x9, x10, x11, x12, x13, x14, ls, mk, skv, xs, lk, rfl, hP⟩ := hJ'
    refine hG' ?_
    subst hb'; refine foldN fun b' hb' => ?_
    have sH := old hP
    have hD2 := hP.sta
    have ek4 : ∀ i, i < 4 → ∃ k nn m, ks[i]? = some k ∧ mk[i]? = some nn ∧ [m0, m1, m2, m3][i]? = some m := fun i hi => ⟨_, _, _, List.getElem?_eq_getElem (by omega), List.getElem?_eq_getElem (by rw [hD2.n3]; exact hi), List.getElem?_eq_getElem (show i < [m0, m1, m2, m3].length from hi)⟩
    refine ⟨4, rfl, by decide, by decide, compR (k := 1) (fs := [some (.ref Dk), some (.ref st)]) 4 (fun i => (mkMk ks mk i).map dMake) rfl (by decide) (fun i hi H3 ts R s3 hts cs cn => ?_) (fun D H3 ys hD s3 hd3 ht3 => ?_)⟩
    · obtain ⟨t, rfl⟩ := List.length_eq_one_iff.mp hts
      obtain ⟨k, nn, m, e1, e2, e3⟩ := ek4 i hi
      have hS3 := hD2.same s3
      have hm2 := hD2.hm i m nn e3 e2
      have ai : (0 + (i : Int)) = ((i : Nat) : Int) := by omega
      have hvm : atI ([m0, m1, m2, m3].map V.ref) (0 + (i : Int)) = some (.ref m) := atI_one i ai (by rw [List.getElem?_map, e3]; rfl)
      have hvk : atI (ks.map V.int) (0 + (i : Int)) = some (.int k) := atI_one i ai (by rw [List.getElem?_map, e1]; rfl)
      refine ⟨_, rfl, st, _, rfl, hS3.makers, _, rfl, M, _, _, .ref m, rfl, rfl, SqL.of hS3.h2, hvm, (by show 0 ≤ sizeLine; decide), fun el hel => ?_⟩
      have s4 := s3.trans (Same.upd (o := HO.lst []) hel)
      refine ⟨.list (nn.map PyData.int), .list [], .lst (SqL.of (s4 _ _ hm2)) (dts_ints nn), .lst (SqL.of upd_same) .nil, shaped_ints nn, rfl, _, rfl, ?_⟩
      by_cases hne : nn = []
      · subst hne
        have en : mkMk ks mk i = none := by unfold mkMk; rw [e1, e2]
        exact cn (by rw [en]; rfl) [_] _ rfl (Same.upd hel)
      · rw [eqv_nil hne]
        have hS4 := hD2.same s4
        have en := mkMk_at e1 e2 hne
        refine ⟨_, rfl, _, rfl, Dk, _, _, _, rfl, rfl, SqL.of (s4 _ _ (sH _ _ hk)), hvk, _, rfl, st, _, rfl, hS4.makers, _, rfl, M, _, _, .ref m, rfl, rfl, SqL.of hS4.h2, hvm, (by show 2 ≤ sizeLine; decide), fun tt htt => ?_⟩
        have s5 := Same.upd (o := HO.tup [.int k, .ref m]) htt
        refine cs (dMake (k, nn)) _ [_] _ (by rw [en]; rfl) rfl ((Same.upd hel).trans s5) ?_
        exact .tup (new_sans ((Same.upd hel).free htt) upd_same) (.cons (.int k) (.cons (.lst (old_sans (s4.trans s5) _ _ hm2) (Trs.ofInts nn)) .nil))
    have emk : (List.range 4).filterMap (fun i => (mkMk ks mk i).map dMake) = (mkAll ks mk).map dMake := by
      unfold mkAll
      rw [List.map_filterMap]
    rw [emk] at ht3
    have sH3 := sH.trans s3
    subst hb'
    refine ⟨_, rfl, dl, rfl, ⟨_, SqL.of (sH3 _ _ (s1 _ _ hdl))⟩, compT (k := 3) (fs := [some (.ref se)]) ds dDrn (fun d => some (dDeal (d.1, d.2.1, lk d.1))) rfl (sH3 _ _ (s1 _ _ hdl)) ((htd.same s1).same sH3) (by omega) (fun d hd H4 ts v R s4 hts tr cs _ => ?_) (fun D2 H4 zs hD2' s4 hd4 ht4 => ?_)⟩
    · obtain ⟨t1, t2, t3, rfl⟩ : ∃ t1 t2 t3, ts = [t1, t2, t3] := My.us3 hts
      obtain ⟨pt, rfl, hpt⟩ := tr.drn
      have hsv4 := s4 _ _ (s3 _ _ (hP.dict F hsv seS))
      have hgs : DGet H4 se (.int d.1) (some (.ref (Sa d.1))) := by
        have := DGet.k (k := Sum.inl d.1) hsv4
        rw [(hal d hd).1] at this
        exact this
      obtain ⟨hs1, hs2⟩ := (hP.same s3).seen d hd
      refine ⟨pt, _, rfl, SqT.of hpt, rfl, _, _, rfl, _, _, rfl, _, _, rfl, rfl, _, rfl, _, rfl, _, rfl, _, rfl, se, _, rfl, hgs, (by show 3 ≤ sizeLine; decide), fun tt htt => ?_⟩
      have s5 := Same.upd (o := HO.tup [.int d.1, .str d.2.1, .ref (Sa d.1)]) htt
      refine cs _ _ [_, _, _] _ rfl rfl s5 ?_
      exact .tup (new_sans htt upd_same) (.cons (.int _) (.cons (.str _) (.cons (.lst (old_sans (s4.trans s5) _ _ hs1) ((hs2.same off_sub).same (old_sans (s4.trans s5)))) .nil)))
    rw [pure_some] at ht4
    refine ⟨_, rfl, (by show 2 ≤ sizeLine; decide), fun z hz => ?_⟩
    have s5 := Same.upd (o := HO.tup [.ref D2, .ref D]) hz
    have s45 := s4.trans s5
    have em : ds.map (fun d => dDeal (d.1, d.2.1, lk d.1)) = (ds.map fun d => (d.1, d.2.1, lk d.1)).map dDeal := by rw [List.map_map]; rfl
    refine q _ _ (ds.map (fun d => (d.1, d.2.1, lk d.1)), mkAll ks mk) ((s1.trans sH3).trans s45) (.tup upd_same (.cons (.lst (s5 _ _ hd4) (by rw [← em]; exact (ht4.same butD_sub).same s5)) (.cons (.lst (s45 _ _ hd3) ((ht3.same butD_sub).same s45)) .nil))) ?_
    refine ⟨by rw [List.map_map]; rfl, fun i d e h1 h2 => ?_, fun d hd l hl => ?_, mkAll_up gk2, ?_, fun m hm => ?_⟩
    · rw [List.getElem?_map, h2] at h1
      cases h1
      have he := List.mem_of_getElem? h2
      have := hP.few e he
      have := lookB_le (d := e) (c := (cnt os ((oxs.length : Nat) : Int).toNat e.1 : Int)) (g3 e he).2.2.2.1
      show ((lk e.1).length : Int) ≤ e.2.2
      omega
    · obtain ⟨e, he, rfl⟩ := List.mem_map.mp hd
      obtain ⟨k1, k2, k3⟩ := hP.lks e he l hl
      refine ⟨k1, k2, fun x hx => ?_⟩
      obtain ⟨i, hi, r1, r2⟩ := k3 x hx
      refine ⟨gk3 _ (List.mem_of_getElem? r1), ?_⟩
      rcases r2 with r2 | r2 | ⟨r2, nn, r3, r4⟩
      · exact .inl r2
      · exact .inr (.inl r2)
      · exact .inr (.inr ⟨r2, mkOf_all gk2 hi r1 r3 r4⟩)
    · unfold mkAll
      exact Nat.le_trans (List.length_filterMap_le _ _) (by rw [List.length_range]; exact Nat.le_refl _)
    · obtain ⟨i, hi, e⟩ := List.mem_filterMap.mp hm
      obtain ⟨r1, r2, r3⟩ := mkMk_some e
      obtain ⟨u1, u2⟩ := hP.mks _ (List.mem_of_getElem? r2)
      exact ⟨gk3 _ (List.mem_of_getElem? r1), r3, (by have := hP.mlen _ (List.mem_of_getElem? r2); omega), u1, fun n hn => by obtain ⟨d, hd, e1, _⟩ := u2 n hn; exact List.mem_map.mpr ⟨d, hd, e1⟩⟩
--@STAGE
theorem kit_ll : PySem.W.kitOne K (.type "list") (.type "list") = some true := by
  show (if (Value.type "list" == Value.type "list") = true then some true else if PySem.W.kitMeta "list" = true then (fastBuiltinMro "list").map (·.contains (Value.type "list")) else none) = some true
  decide +kernel
theorem kit_lt : PySem.W.kitOne K (.type "list") (.type "tuple") = some false := by
  show (if (Value.type "list" == Value.type "tuple") = true then some true else if PySem.W.kitMeta "tuple" = true then (fastBuiltinMro "list").map (·.contains (Value.type "tuple")) else none) = some false
  decide +kernel
theorem kit_tl : PySem.W.kitOne K (.type "tuple") (.type "list") = some false := by
  show (if (Value.type "tuple" == Value.type "list") = true then some true else if PySem.W.kitMeta "list" = true then (fastBuiltinMro "tuple").map (·.contains (Value.type "list")) else none) = some false
  decide +kernel
theorem kit_il : PySem.W.kitOne K (.type "int") (.type "list") = some false := by
  show (if (Value.type "int" == Value.type "list") = true then some true else if PySem.W.kitMeta "list" = true then (fastBuiltinMro "int").map (·.contains (Value.type "list")) else none) = some false
  decide +kernel
theorem kit_it : PySem.W.kitOne K (.type "int") (.type "tuple") = some false := by
  show (if (Value.type "int" == Value.type "tuple") = true then some true else if PySem.W.kitMeta "tuple" = true then (fastBuiltinMro "int").map (·.contains (Value.type "tuple")) else none) = some false
  decide +kernel
theorem kit_sl : PySem.W.kitOne K (.type "str") (.type "list") = some false := by
  show (if (Value.type "str" == Value.type "list") = true then some true else if PySem.W.kitMeta "list" = true then (fastBuiltinMro "str").map (·.contains (Value.type "list")) else none) = some false
  decide +kernel
theorem kit_st : PySem.W.kitOne K (.type "str") (.type "tuple") = some false := by
  show (if (Value.type "str" == Value.type "tuple") = true then some true else if PySem.W.kitMeta "tuple" = true then (fastBuiltinMro "str").map (·.contains (Value.type "tuple")) else none) = some false
  decide +kernel
theorem kitA_i : PySem.W.kitAny K (.type "int") (["list", "tuple"].map Value.type) = some false := by
  show PySem.W.kitAny K (.type "int") [.type "list", .type "tuple"] = _
  simp only [PySem.W.kitAny, kit_il, kit_it]
theorem kitA_s : PySem.W.kitAny K (.type "str") (["list", "tuple"].map Value.type) = some false := by
  show PySem.W.kitAny K (.type "str") [.type "list", .type "tuple"] = _
  simp only [PySem.W.kitAny, kit_sl, kit_st]
theorem kitA_l : PySem.W.kitAny K (.type "list") (["list", "tuple"].map Value.type) = some true := by
  show PySem.W.kitAny K (.type "list") [.type "list", .type "tuple"] = _
  simp only [PySem.W.kitAny, kit_ll]
theorem kitA_t : PySem.W.kitAny K (.type "tuple") (["list", "tuple"].map Value.type) = some true := by
  show PySem.W.kitAny K (.type "tuple") [.type "list", .type "tuple"] = _
  simp only [PySem.W.kitAny, kit_tl, kit_tt]
theorem depth_mem : ∀ {ds : List PyData} {i : Nat} {d : PyData}, ds[i]? = some d → d.depth ≤ PyData.depthAll ds
  | [], i, d, e => by simp at e
  | x :: r, 0, d, e => by
    cases e
    show x.depth ≤ max x.depth (PyData.depthAll r)
    omega
  | x :: r, i + 1, d, e => by
    have := depth_mem (ds := r) (i := i) (d := d) (by simpa using e)
    show d.depth ≤ max x.depth (PyData.depthAll r)
    omega
noncomputable def spSameT (n : Nat) : Sp := fun vs H Q _ => ∃ (v u : V) (d : PyData), vs = [v, u] ∧ Tr H v d ∧ Tr H u d ∧ d.depth < n ∧ ∀ H', Same H H' → Q (.bl true) H'
noncomputable def spCopied : Sp := fun vs H Q _ => ∃ (v : V) (p : Ps), vs = [v] ∧ Tr H v (dPast p) ∧ cP p ≤ 20000 ∧ ∀ u H', Same H H' → Tr H' u (dPast p) → Q u H'
noncomputable def spLpair : Sp := fun vs H Q _ => ∃ k sr : Int, vs = [.int k, .int sr] ∧ Bd k ∧ Bd sr ∧ -1 ≤ sr ∧ Q (.str (shPair (k, sr))) H
noncomputable def spLtext : Sp := fun vs H Q _ => ∃ (v : V) (p : Ps), vs = [v] ∧ Tr H v (dPast p) ∧ BdP p ∧ (∀ d ∈ p.1, ∀ l ∈ d.2.2, ∀ x ∈ l, -1 ≤ x.2) ∧ cP p ≤ 20000 ∧ ∀ H', Same H H' → Q (.str (shPast p)) H'
theorem none_Lsame (T : Tx K mg) : FnOk P w K mg base CX0 0 T.f_Lsame T.d_Lsame ["_law_found", "_law_due"] (spSameT 0) :=
  ⟨fun vs H Q E h => by obtain ⟨v, u, d, rfl, _⟩ := h; rfl, fun A outer s H args us vs Q E _ _ _ _ h => by obtain ⟨v, u, d, _, _, _, h0, _⟩ := h; exact absurd h0 (Nat.not_lt_zero _)⟩
theorem step_Lsame (T : Tx K mg) {n : Nat} (ih : FnOk P w K mg base CX0 n T.f_Lsame T.d_Lsame ["_law_found", "_law_due"] (spSameT n)) : FnOk P w K mg base CX0 (n + 1) T.f_Lsame T.d_Lsame ["_law_found", "_law_due"] (spSameT (n + 1)) := by
  refine T.F_Lsame.ok sc_Lsame (fun vs H Q E h => ?_) (fun cdv A outer s H vs Q E hr h => ?_)
  · obtain ⟨v, u, d, rfl, _⟩ := h
    rfl
  · obtain ⟨v, u, d, rfl, hv, hu', hd, q⟩ := h
    refine ⟨_, (pss_cons (ps_if (pt_val (pe_callB (call_isTT (K := K) rfl) (by rfl) T.z_isinstance boot_isinstance (pa_cons (pv 1) (pa_cons (pe_tup (pa_cons (pe_bltn (v := V.ty "list") rfl T.z_list boot_list rfl) (pa_cons (pe_bltn (v := V.ty "tuple") rfl T.z_tuple boot_tuple rfl) pa_nil))) pa_nil))))
      (pss_cons (ps_if (PW.pt (pw_and (pt_val (pe_callB call_isi (by rfl) T.z_isinstance boot_isinstance (pa_cons (pv 1) (pa_cons (pe_bltn (v := V.ty "list") rfl T.z_list boot_list rfl) pa_nil)))) (pw_and1 (pt_not (pt_val (pe_callB call_isi (by rfl) T.z_isinstance boot_isinstance (pa_cons (pv 0) (pa_cons (pe_bltn (v := V.ty "list") rfl T.z_list boot_list rfl) pa_nil))))))))
      (pss_one (ps_ret pe_bl))
      pss_nil)
      (pss_cons (ps_if (PW.pt (pw_and (pt_val (pe_callB call_isi (by rfl) T.z_isinstance boot_isinstance (pa_cons (pv 1) (pa_cons (pe_bltn (v := V.ty "tuple") rfl T.z_tuple boot_tuple rfl) pa_nil)))) (pw_and1 (pt_not (pt_val (pe_callB call_isi (by rfl) T.z_isinstance boot_isinstance (pa_cons (pv 0) (pa_cons (pe_bltn (v := V.ty "tuple") rfl T.z_tuple boot_tuple rfl) pa_nil))))))))
      (pss_one (ps_ret pe_bl))
      pss_nil)
      (pss_cons (ps_if (pt_cmpR op_ne (pe_callB call_len (by rfl) T.z_len boot_len (pa_cons (pv 0) pa_nil)) (pe_callB call_len (by rfl) T.z_len boot_len (pa_cons (pv 1) pa_nil)) (nomark _))
      (pss_one (ps_ret pe_bl))
      pss_nil)
      (pss_cons (ps_for PassesOwn.never rfl (pi_zip rfl T.z_zip (pa_cons (pv 0) (pa_cons (pv 1) pa_nil))) (pg_tup rfl (pgs_cons (pg_name (i := 2) sc_Lsame.nd rfl (Or.inl rfl)) (pgs_cons (pg_name (i := 3) sc_Lsame.nd rfl (Or.inl rfl)) pgs_nil)))
      (pss_one (ps_if (pt_not (pt_val (pe_call ih hr rfl T.m_Lsame T.F_Lsame.kp T.b_Lsame .nil pass0 (pa_cons (pv 2) (pa_cons (pv 3) pa_nil)))))
      (pss_one (ps_ret pe_bl))
      pss_nil)))
      (pss_one (ps_ret pe_bl))))))
      pss_nil)
      (pss_cons (ps_if (pt_val (pe_callB call_isi (by rfl) T.z_isinstance boot_isinstance (pa_cons (pv 1) (pa_cons (pe_bltn (v := V.ty "str") rfl T.z_str boot_str rfl) pa_nil))))
      (pss_one (ps_ret (pe_and (pe_callB call_isi (by rfl) T.z_isinstance boot_isinstance (pa_cons (pv 0) (pa_cons (pe_bltn (v := V.ty "str") rfl T.z_str boot_str rfl) pa_nil))) (pe_one (pe_cmpR op_eq (pv 0) (pv 1) (nomark _))))))
      pss_nil)
      (pss_one (ps_ret (pe_and (pe_callB call_isi (by rfl) T.z_isinstance boot_isinstance (pa_cons (pv 0) (pa_cons (pe_bltn (v := V.ty "int") rfl T.z_int boot_int rfl) pa_nil))) (pe_and (pe_not (pe_callB call_isi (by rfl) T.z_isinstance boot_isinstance (pa_cons (pv 0) (pa_cons (pe_bltn (v := V.ty "bool") rfl T.z_bool boot_bool rfl) pa_nil)))) (pe_one (pe_cmpR op_eq (pv 0) (pv 1) (nomark _))))))))), ?_⟩
    cases hv with
    | int i =>
      cases hu'
      refine ⟨_, rfl, (by show 2 ≤ sizeLine; decide), fun tp htp => ⟨_, tp, ["list", "tuple"], _, _, rfl, upd_same, .int i, kitA_i, _, rfl, iteF ?_⟩⟩
      refine ⟨_, rfl, _, _, _, _, rfl, .int i, kit_is, _, rfl, iteF ?_⟩
      refine ⟨_, rfl, _, _, _, _, rfl, .int i, kit_ii, _, rfl, iteT ⟨_, rfl, _, _, _, _, rfl, .int i, kit_ib, _, rfl, _, rfl, iteT ⟨_, rfl, _, rfl, rfl, ?_⟩⟩⟩
      show Q (.bl (decide (V.int i = V.int i))) _
      rw [decide_eq_true rfl]
      exact q _ (Same.upd htp)
    | str x =>
      cases hu'
      refine ⟨_, rfl, (by show 2 ≤ sizeLine; decide), fun tp htp => ⟨_, tp, ["list", "tuple"], _, _, rfl, upd_same, .str x, kitA_s, _, rfl, iteF ?_⟩⟩
      refine ⟨_, rfl, _, _, _, _, rfl, .str x, kit_ss, _, rfl, iteT ?_⟩
      refine ⟨_, rfl, _, _, _, _, rfl, .str x, kit_ss, _, rfl, iteT ⟨_, rfl, _, rfl, rfl, ?_⟩⟩
      show Q (.bl (decide (V.str x = V.str x))) _
      rw [decide_eq_true rfl]
      exact q _ (Same.upd htp)
    | @lst a xs ds h1 r1 =>
      cases hu' with
      | @lst b ys _ h2 r2 =>
        have l1 : xs.length = ds.length := r1.len
        have l2 : ys.length = ds.length := r2.len
        refine ⟨_, rfl, (by show 2 ≤ sizeLine; decide), fun tp htp => ⟨_, tp, ["list", "tuple"], _, _, rfl, upd_same, .lst ((Same.upd htp) _ _ h2), kitA_l, _, rfl, iteT ?_⟩⟩
        have s1 := Same.upd (o := HO.tup [.ty "list", .ty "tuple"]) htp
        have g1 := s1 _ _ h1
        have g2 := s1 _ _ h2
        have hH : Same H (upd H tp (.tup [.ty "list", .ty "tuple"])) := s1
        generalize upd H tp (.tup [.ty "list", .ty "tuple"]) = H1 at *
        refine ⟨_, rfl, _, _, _, _, rfl, .lst g2, kit_ll, _, rfl, iteT ⟨_, rfl, _, _, _, _, rfl, .lst g1, kit_ll, _, rfl, iteF ?_⟩⟩
        refine ⟨_, rfl, _, _, _, _, rfl, .lst g2, kit_lt, _, rfl, iteF (iteF ?_)⟩
        refine ⟨_, rfl, _, _, rfl, .inl ⟨_, SqL.of g1, rfl⟩, _, rfl, _, _, rfl, .inl ⟨_, SqL.of g2, rfl⟩, rfl, _, rfl, iteDN (by rw [l1, l2]) ?_⟩
        refine ⟨_, rfl, _, rfl, _, _, _, _, rfl, .list (SqL.of g1), .list (SqL.of g2), for_zip (xs := xs) (ys := ys) (fun i σ H2 => ∃ x2 x3 : Option V, σ = [some (.ref a), some (.ref b), x2, x3] ∧ Same H1 H2) ⟨none, none, rfl, Same.refl _⟩ (fun i σ H2 ⟨_, _, _, s2⟩ => ⟨gives_list (SqL.of (s2 _ _ g1)), gives_list (SqL.of (s2 _ _ g2))⟩) ?_ ?_⟩
        · rintro i x y σ H2 p hx hy ⟨x2, x3, rfl, s2⟩ hp
          obtain ⟨d, ed, tx⟩ := r1.get hx
          obtain ⟨d', ed', ty'⟩ := r2.get hy
          rw [ed] at ed'
          cases ed'
          have s3 := s2.trans (Same.upd (o := HO.tup [x, y]) hp)
          have hdd : d.depth < n := by
            have := depth_mem ed
            have h9 : PyData.depthAll ds + 1 < n + 1 := hd
            omega
          refine ⟨p, _, rfl, SqT.of upd_same, rfl, _, _, rfl, _, _, rfl, rfl, _, rfl, _, rfl, x, y, d, rfl, tx.same (hH.trans s3), ty'.same (hH.trans s3), hdd, fun H3 s4 => ⟨_, rfl, iteF ⟨_, _, rfl, s3.trans s4⟩⟩⟩
        · rintro σ H2 ⟨x2, x3, rfl, s2⟩
          exact q H2 (hH.trans s2)
    | @tup a xs ds h1 r1 =>
      cases hu' with
      | @tup b ys _ h2 r2 =>
        have l1 : xs.length = ds.length := r1.len
        have l2 : ys.length = ds.length := r2.len
        refine ⟨_, rfl, (by show 2 ≤ sizeLine; decide), fun tp htp => ⟨_, tp, ["list", "tuple"], _, _, rfl, upd_same, .tup ((Same.upd htp) _ _ h2), kitA_t, _, rfl, iteT ?_⟩⟩
        have s1 := Same.upd (o := HO.tup [.ty "list", .ty "tuple"]) htp
        have g1 := s1 _ _ h1
        have g2 := s1 _ _ h2
        have hH : Same H (upd H tp (.tup [.ty "list", .ty "tuple"])) := s1
        generalize upd H tp (.tup [.ty "list", .ty "tuple"]) = H1 at *
        refine ⟨_, rfl, _, _, _, _, rfl, .tup g2, kit_tl, _, rfl, iteF (iteF ?_)⟩
        refine ⟨_, rfl, _, _, _, _, rfl, .tup g2, kit_tt, _, rfl, iteT ⟨_, rfl, _, _, _, _, rfl, .tup g1, kit_tt, _, rfl, iteF ?_⟩⟩
        refine ⟨_, rfl, _, _, rfl, .inr ⟨_, SqT.of g1, rfl⟩, _, rfl, _, _, rfl, .inr ⟨_, SqT.of g2, rfl⟩, rfl, _, rfl, iteDN (by rw [l1, l2]) ?_⟩
        refine ⟨_, rfl, _, rfl, _, _, _, _, rfl, .tup (SqT.of g1), .tup (SqT.of g2), for_zip (xs := xs) (ys := ys) (fun i σ H2 => ∃ x2 x3 : Option V, σ = [some (.ref a), some (.ref b), x2, x3] ∧ Same H1 H2) ⟨none, none, rfl, Same.refl _⟩ (fun i σ H2 ⟨_, _, _, s2⟩ => ⟨gives_tup (SqT.of (s2 _ _ g1)), gives_tup (SqT.of (s2 _ _ g2))⟩) ?_ ?_⟩
        · rintro i x y σ H2 p hx hy ⟨x2, x3, rfl, s2⟩ hp
          obtain ⟨d, ed, tx⟩ := r1.get hx
          obtain ⟨d', ed', ty'⟩ := r2.get hy
          rw [ed] at ed'
          cases ed'
          have s3 := s2.trans (Same.upd (o := HO.tup [x, y]) hp)
          have hdd : d.depth < n := by
            have := depth_mem ed
            have h9 : PyData.depthAll ds + 1 < n + 1 := hd
            omega
          refine ⟨p, _, rfl, SqT.of upd_same, rfl, _, _, rfl, _, _, rfl, rfl, _, rfl, _, rfl, x, y, d, rfl, tx.same (hH.trans s3), ty'.same (hH.trans s3), hdd, fun H3 s4 => ⟨_, rfl, iteF ⟨_, _, rfl, s3.trans s4⟩⟩⟩
        · rintro σ H2 ⟨x2, x3, rfl, s2⟩
          exact q H2 (hH.trans s2)
theorem ok_LsameN (T : Tx K mg) : ∀ n : Nat, FnOk P w K mg base CX0 n T.f_Lsame T.d_Lsame ["_law_found", "_law_due"] (spSameT n)
  | 0 => none_Lsame T
  | n + 1 => step_Lsame T (ok_LsameN T n)
theorem ok_Lsame (T : Tx K mg) : FnOk P w K mg base CX0 7 T.f_Lsame T.d_Lsame ["_law_found", "_law_due"] (spSameT 7) := ok_LsameN T 7
theorem ok_Lcopied (T : Tx K mg) : FnOk P w K mg base CX0 1 T.f_Lcopied T.d_Lcopied ["_law_past_here"] spCopied := by
  refine T.F_Lcopied.ok sc_Lcopied (fun vs H Q E h => ?_) (fun cdv A outer s H vs Q E hr h => ?_)
  · obtain ⟨v, p, rfl, _⟩ := h
    rfl
  · obtain ⟨v, ⟨dx, mx⟩, rfl, ht, hc2, q⟩ := h
    obtain ⟨a, b, c, xs, ys, rfl, ha, hb, hc, hx, hy⟩ := ht.past
    refine ⟨_, (pss_cons (ps_compF (i := 1) ["_law_number", "_law_word", "_law_looks"] rfl sc_Lcopied.nd rfl rfl (CompSc.mk (fv := []) (js := []) rfl (by decide +kernel) (by decide +kernel) (by decide +kernel) allc_nil rfl (by decide +kernel)) (pi_list (pe_ix ix_tup (pv 0) pe_int (fun _ _ => rfl))) rfl (fun _ _ _ _ _ => (pg_tupK (K := K) (n := 3) rfl rfl (pgs_cons (pg_name (i := 0) (show (["_law_number", "_law_word", "_law_looks"] : List Str).Nodup by decide +kernel) rfl (Or.inl rfl)) (pgs_cons (pg_name (i := 1) (show (["_law_number", "_law_word", "_law_looks"] : List Str).Nodup by decide +kernel) rfl (Or.inl rfl)) (pgs_cons (pg_name (i := 2) (show (["_law_number", "_law_word", "_law_looks"] : List Str).Nodup by decide +kernel) rfl (Or.inl rfl)) pgs_nil))))) (fun _ _ _ _ _ => pf_nil) (fun _ _ _ _ _ => (pe_tup (pa_cons (pv 0) (pa_cons (pv 1) (pa_cons (pe_compF ["_law_look_here"] rfl (CompSc.mk (fv := []) (js := []) rfl (by decide +kernel) (by decide +kernel) (by decide +kernel) allc_nil rfl (by decide +kernel)) (pi_listK (K := K) rfl (pv 2)) (fun _ _ _ _ _ => (pg_name (i := 0) (show (["_law_look_here"] : List Str).Nodup by decide +kernel) rfl (Or.inl rfl))) (fun _ _ _ _ _ => pf_nil) (fun _ _ _ _ _ => (pe_callTy (call_list_ofK (K := K) rfl) (by rfl) T.z_list boot_list (pa_cons (pv 0) pa_nil)))) pa_nil))))))
      (pss_one (ps_ret (pe_tup (pa_cons (pv 1) (pa_cons (pe_compF ["_law_key", "_law_numbers"] rfl (CompSc.mk (fv := []) (js := []) rfl (by decide +kernel) (by decide +kernel) (by decide +kernel) allc_nil rfl (by decide +kernel)) (pi_list (pe_ix ix_tup (pv 0) pe_int (fun _ _ => rfl))) (fun _ _ _ _ _ => (pg_tupK (K := K) (n := 2) rfl rfl (pgs_cons (pg_name (i := 0) (show (["_law_key", "_law_numbers"] : List Str).Nodup by decide +kernel) rfl (Or.inl rfl)) (pgs_cons (pg_name (i := 1) (show (["_law_key", "_law_numbers"] : List Str).Nodup by decide +kernel) rfl (Or.inl rfl)) pgs_nil)))) (fun _ _ _ _ _ => pf_nil) (fun _ _ _ _ _ => (pe_tup (pa_cons (pv 0) (pa_cons (pe_callTy (call_list_ofK (K := K) rfl) (by rfl) T.z_list boot_list (pa_cons (pv 1) pa_nil)) pa_nil))))) pa_nil)))))), ?_⟩
    dsimp only at hx hy
    have z9 : (20000 : Nat) ≤ sizeLine := by decide
    have hcp : (dx.map cD).sum + (mx.map cM).sum ≤ 20000 := hc2
    have hll := len_le_sum cD_pos (l := dx)
    have hlm := len_le_sum cM_pos (l := mx)
    have old : ∀ {HA HB : Hp}, Same H HB → Same H (sans H HA HB) := fun s b o e => sans_iff.mpr ⟨s _ _ e, fun ⟨h1, _⟩ => by rw [e] at h1; cases h1⟩
    refine ⟨_, rfl, a, _, _, _, rfl, rfl, SqT.of ha, atI_nat (j := 0) rfl, b, rfl, ⟨_, SqL.of hb⟩, compV (k := 3) (fs := []) H (Same.refl H) dx dDeal (fun d => some (dDeal d)) rfl hb hx (by omega) (fun d hd H2 ts v R s2 hts tr cs _ => ?_) (fun D H2 zs hD s2 hd2 ht2 => ?_)⟩
    · obtain ⟨t1, t2, t3, rfl⟩ : ∃ t1 t2 t3, ts = [t1, t2, t3] := My.us3 hts
      obtain ⟨p1, p2, ps, rfl, hp1, hp2, hps⟩ := tr.deal
      have hcd := mem_le_sum (f := cD) hd
      have hlk := len_le_sum cL_pos (l := d.2.2)
      have ecd : cD d = (d.2.2.map cL).sum + d.2.1.length + 1 := rfl
      refine ⟨p1, _, rfl, SqT.of (s2 _ _ hp1), rfl, _, _, rfl, _, _, rfl, _, _, rfl, rfl, _, rfl, _, rfl, _, rfl, p2, rfl, ⟨_, SqL.of (s2 _ _ hp2)⟩, compV (k := 1) (fs := []) H s2 d.2.2 dLook (fun l => some (dLook l)) rfl (s2 _ _ hp2) hps (by omega) (fun l hl H3 ts v R s3 hts tr cs2 _ => ?_) (fun D3 H3 us hD3 s3 hd3 ht3 => ?_)⟩
      · obtain ⟨t, rfl⟩ := List.length_eq_one_iff.mp hts
        obtain ⟨l1, ls, rfl, hl1, hls⟩ := tr.look
        have s23 := s2.trans s3
        refine ⟨_, rfl, l1, _, rfl, .inl (SqL.of (s23 _ _ hl1)), fun nl hnl => ?_⟩
        have s4 := Same.upd (o := HO.lst ls) hnl
        exact cs2 _ _ [_] _ rfl rfl s4 (.lst (new_sans hnl upd_same) (hls.same (old (s23.trans s4))))
      · rw [pure_some] at ht3
        refine ⟨(by show 3 ≤ sizeLine; decide), fun z hz => ?_⟩
        have s4 := Same.upd (o := HO.tup [.int d.1, .str d.2.1, .ref D3]) hz
        exact cs _ _ [_, _, _] _ rfl rfl (s3.trans s4) (.tup (new_sans (s3.free hz) upd_same) (.cons (.int _) (.cons (.str _) (.cons (.lst (new_sans hD3 (s4 _ _ hd3)) (ht3.same fun b o e => by
          obtain ⟨e1, e2⟩ := butD_ne e
          obtain ⟨e3, e4⟩ := sans_iff.mp e2
          exact sans_iff.mpr ⟨s4 _ _ e3, e4⟩)) .nil))))
    rw [pure_some] at ht2
    have ht2' : Trs H2 zs (dx.map dDeal) := (ht2.same butD_sub).same fun b o e => (sans_iff.mp e).1
    refine ⟨_, rfl, _, rfl, a, _, _, _, rfl, rfl, SqT.of (s2 _ _ ha), atI_nat (j := 1) rfl, c, rfl, ⟨_, SqL.of (s2 _ _ hc)⟩, compV (k := 2) (fs := []) H2 (Same.refl H2) mx dMake (fun d => some (dMake d)) rfl (s2 _ _ hc) (hy.same s2) (by omega) (fun m hm H3 ts v R s3 hts tr cs _ => ?_) (fun D3 H3 us hD3 s3 hd3 ht3 => ?_)⟩
    · obtain ⟨t1, t2, rfl⟩ : ∃ t1 t2, ts = [t1, t2] := My.us2 hts
      obtain ⟨p1, p2, rfl, hp1, hp2⟩ := tr.make
      refine ⟨p1, _, rfl, SqT.of (s3 _ _ hp1), rfl, _, _, rfl, _, _, rfl, rfl, _, rfl, _, rfl, p2, _, rfl, .inl (SqL.of (s3 _ _ hp2)), fun nl hnl => ⟨(by show 2 ≤ sizeLine; decide), fun z hz => ?_⟩⟩
      have s4 := Same.upd (o := HO.lst (m.2.map V.int)) hnl
      have s5 := Same.upd (o := HO.tup [.int m.1, .ref nl]) hz
      exact cs _ _ [_, _] _ rfl rfl (s4.trans s5) (.tup (new_sans (s4.free hz) upd_same) (.cons (.int _) (.cons (.lst (new_sans hnl (s5 _ _ upd_same)) (Trs.ofInts _)) .nil)))
    rw [pure_some] at ht3
    have ht3' : Trs H3 us (mx.map dMake) := (ht3.same butD_sub).same fun b o e => (sans_iff.mp e).1
    refine ⟨(by show 2 ≤ sizeLine; decide), fun z hz => ?_⟩
    have s5 := Same.upd (o := HO.tup [.ref D, .ref D3]) hz
    exact q _ _ ((s2.trans s3).trans s5) (.tup upd_same (.cons (.lst (s5 _ _ (s3 _ _ hd2)) (ht2'.same (s3.trans s5))) (.cons (.lst (s5 _ _ hd3) (ht3'.same s5)) .nil)))
theorem ok_Lpair (T : Tx K mg) : FnOk P w K mg base CX0 1 T.f_Lpair T.d_Lpair ["_law_key", "_law_source"] spLpair := by
  refine T.F_Lpair.ok sc_Lpair (fun vs H Q E h => ?_) (fun cdv A outer s H vs Q E hr h => ?_)
  · obtain ⟨v, p, rfl, _⟩ := h
    rfl
  · obtain ⟨k, sr, rfl, b1, b2, hs, q⟩ := h
    refine ⟨_, (pss_cons (ps_if (pt_cmpR op_lt (pv 1) pe_int (nomark _))
      (pss_one (ps_ret (pe_op op_add_str (pe_callTy call_strA (by rfl) T.z_str boot_str (pa_cons (pv 0) pa_nil)) pe_str)))
      pss_nil)
      (pss_one (ps_ret (pe_op op_add_str (pe_op op_add_str (pe_callTy call_strA (by rfl) T.z_str boot_str (pa_cons (pv 0) pa_nil)) pe_str) (pe_callTy call_strA (by rfl) T.z_str boot_str (pa_cons (pv 1) pa_nil)))))), ?_⟩
    have z9 : (99 : Nat) ≤ sizeLine := by decide
    have l1 := num_len31 b1
    have l2 := num_len31 b2
    have c1 : ("<?" : Str).length = 2 := by decide +kernel
    have c2 : ("<" : Str).length = 1 := by decide +kernel
    refine ⟨_, rfl, _, _, rfl, rfl, _, rfl, ite2 (fun e => ?_) (fun e => ?_)⟩
    · have e' : sr = -1 := by
        have : sr < 0 := of_decide_eq_true e
        omega
      refine ⟨_, rfl, _, rfl, .inl ⟨k, rfl, log_small b1, _, _, rfl, rfl, (by show (num k).length + ("<?" : Str).length ≤ _; omega), ?_⟩⟩
      have ee : shPair (k, sr) = num k ++ ("<?" : Str) := by
        rw [e']
        refine ext_toList ?_
        unfold shPair
        rw [app_codes, app_codes, app_codes, show ("<?" : Str).cps.toList = [60, 63] from by decide +kernel, show srcT (k, (-1 : Int)).2 = (⟨#[63]⟩ : Str) from rfl]
        simp
      rw [ee] at q
      exact q
    · have e' : ¬ sr = -1 := fun z => e (decide_eq_true (by omega))
      refine ⟨_, rfl, _, rfl, .inl ⟨k, rfl, log_small b1, _, _, rfl, rfl, (by show (num k).length + ("<" : Str).length ≤ _; omega), _, rfl, _, rfl, .inl ⟨sr, rfl, log_small b2, _, _, rfl, rfl, (by show (num k ++ ("<" : Str)).length + (num sr).length ≤ _; rw [strLen_append]; omega), ?_⟩⟩⟩
      have ee : shPair (k, sr) = num k ++ ("<" : Str) ++ num sr := by
        unfold shPair srcT
        rw [if_neg e', show ("<" : Str) = ⟨#[60]⟩ from by decide +kernel]
      rw [ee] at q
      exact q
theorem lay_all {ds : List PyData} (h : ∀ d ∈ ds, d.canLay0 = true) : PyData.canLayAll0 ds = true := by
  induction ds with
  | nil => rfl
  | cons d r ih =>
    show (d.canLay0 && PyData.canLayAll0 r) = true
    rw [h d List.mem_cons_self, ih fun e he => h e (List.mem_cons_of_mem _ he)]
    rfl
theorem depth_all {ds : List PyData} {n : Nat} (h : ∀ d ∈ ds, d.depth ≤ n) : PyData.depthAll ds ≤ n := by
  induction ds with
  | nil => exact Nat.zero_le _
  | cons d r ih =>
    have h1 := h d List.mem_cons_self
    have h2 := ih fun e he => h e (List.mem_cons_of_mem _ he)
    show max d.depth (PyData.depthAll r) ≤ n
    omega
theorem lay_look (l : Lk) : (dLook l).canLay0 = true ∧ (dLook l).depth ≤ 2 := by
  refine ⟨lay_all fun d hd => ?_, ?_⟩
  · obtain ⟨p, _, rfl⟩ := List.mem_map.mp hd
    rfl
  · have : PyData.depthAll (l.map dPair) ≤ 1 := depth_all fun d hd => by
      obtain ⟨p, _, rfl⟩ := List.mem_map.mp hd
      exact Nat.le_refl 1
    show PyData.depthAll (l.map dPair) + 1 ≤ 2
    omega
theorem lay_deal {d : Dl} (h : d.2.1 ∈ lvls) : (dDeal d).canLay0 = true ∧ (dDeal d).depth ≤ 4 := by
  have hs : ∀ x ∈ lvls, (PyData.str x).canLay0 = true := by decide +kernel
  refine ⟨?_, ?_⟩
  · show (true && ((PyData.str d.2.1).canLay0 && (PyData.canLayAll0 (d.2.2.map dLook) && true))) = true
    rw [hs _ h, lay_all fun e he => by obtain ⟨l, _, rfl⟩ := List.mem_map.mp he; exact (lay_look l).1]
    rfl
  · have : PyData.depthAll (d.2.2.map dLook) ≤ 2 := depth_all fun e he => by
      obtain ⟨l, _, rfl⟩ := List.mem_map.mp he
      exact (lay_look l).2
    show max 0 (max 0 (max (PyData.depthAll (d.2.2.map dLook) + 1) 0)) + 1 ≤ 4
    omega
theorem lay_make (m : Mkr) : (dMake m).canLay0 = true ∧ (dMake m).depth ≤ 2 := by
  refine ⟨?_, ?_⟩
  · show (true && (PyData.canLayAll0 (m.2.map PyData.int) && true)) = true
    rw [lay_all fun e he => by obtain ⟨l, _, rfl⟩ := List.mem_map.mp he; rfl]
    rfl
  · have : PyData.depthAll (m.2.map PyData.int) ≤ 0 := depth_all fun e he => by
      obtain ⟨l, _, rfl⟩ := List.mem_map.mp he
      exact Nat.le_refl 0
    show max 0 (max (PyData.depthAll (m.2.map PyData.int) + 1) 0) + 1 ≤ 2
    omega
theorem lay_past {p : Ps} (h : ∀ d ∈ p.1, d.2.1 ∈ lvls) : (dPast p).canLay0 = true ∧ (dPast p).depth < 7 ∧ SeqAt.shaped (dPast p) = true := by
  have h1 : (dPast p).canLay0 = true := by
    show (PyData.canLayAll0 (p.1.map dDeal) && (PyData.canLayAll0 (p.2.map dMake) && true)) = true
    rw [lay_all fun e he => by obtain ⟨d, hd, rfl⟩ := List.mem_map.mp he; exact (lay_deal (h d hd)).1, lay_all fun e he => by obtain ⟨d, hd, rfl⟩ := List.mem_map.mp he; exact (lay_make d).1]
    rfl
  have h2 : (dPast p).depth < 7 := by
    have a1 : PyData.depthAll (p.1.map dDeal) ≤ 4 := depth_all fun e he => by
      obtain ⟨d, hd, rfl⟩ := List.mem_map.mp he
      exact (lay_deal (h d hd)).2
    have a2 : PyData.depthAll (p.2.map dMake) ≤ 2 := depth_all fun e he => by
      obtain ⟨d, hd, rfl⟩ := List.mem_map.mp he
      exact (lay_make d).2
    show max (PyData.depthAll (p.1.map dDeal) + 1) (max (PyData.depthAll (p.2.map dMake) + 1) 0) + 1 < 7
    omega
  refine ⟨h1, h2, ?_⟩
  unfold SeqAt.shaped
  rw [h1, decide_eq_true (by omega)]
  rfl
theorem look_shaped (l : Lk) : SeqAt.shaped (dLook l) = true := by
  unfold SeqAt.shaped
  rw [(lay_look l).1, decide_eq_true (by have := (lay_look l).2; omega)]
  rfl
theorem look_nil (l : Lk) : PyData.eqv (dLook l) (.list []) = decide (l = []) := by
  cases l with
  | nil => rfl
  | cons p r => rfl
theorem join_snoc {s : Str} : ∀ {l : List Str} (x : Str), l ≠ [] → Str.join s (l ++ [x]) = Str.join s l ++ s ++ x
  | [], _, h => (h rfl).elim
  | [a], x, _ => rfl
  | a :: b :: r, x, _ => by
    have ih := join_snoc (s := s) (l := b :: r) x (by simp)
    show a ++ s ++ Str.join s ((b :: r) ++ [x]) = a ++ s ++ Str.join s (b :: r) ++ s ++ x
    rw [ih]
    refine ext_toList ?_
    simp only [app_codes, List.append_assoc]
noncomputable def cutD (d : Dl) (i : Nat) : Dl := (d.1, d.2.1, d.2.2.take i)
theorem cutD_all (d : Dl) : cutD d d.2.2.length = d := by
  unfold cutD
  rw [List.take_length]
theorem cutD_zero (d : Dl) : shDeal (cutD d 0) = hdD d := rfl
theorem cutD_next {d : Dl} {i : Nat} {l : Lk} (e : d.2.2[i]? = some l) : shDeal (cutD d (i + 1)) = shDeal (cutD d i) ++ (if i = 0 then ⟨#[32]⟩ else semi) ++ shLook l := by
  have htk : d.2.2.take (i + 1) = d.2.2.take i ++ [l] := by rw [List.take_add_one, e]; rfl
  have h1 : shDeal (cutD d (i + 1)) = hdD d ++ ⟨#[32]⟩ ++ Str.join semi ((d.2.2.take i ++ [l]).map shLook) := by
    unfold shDeal
    rw [if_neg (by show ¬ d.2.2.take (i + 1) = []; rw [htk]; simp)]
    show hdD d ++ ⟨#[32]⟩ ++ Str.join semi ((d.2.2.take (i + 1)).map shLook) = _
    rw [htk]
  rw [h1]
  by_cases hi : i = 0
  · subst hi
    rw [if_pos rfl, cutD_zero]
    rfl
  · have hne : d.2.2.take i ≠ [] := fun z => by
      have := congrArg List.length z
      have hl := (List.getElem?_eq_some_iff.mp e).1
      rw [List.length_take, List.length_nil] at this
      omega
    have h2 : shDeal (cutD d i) = hdD d ++ ⟨#[32]⟩ ++ Str.join semi ((d.2.2.take i).map shLook) := if_neg hne
    rw [if_neg hi, h2, List.map_append, List.map_singleton, join_snoc _ (by simpa using hne)]
    refine ext_toList ?_
    simp only [app_codes, List.append_assoc]
theorem cutD_bd {d : Dl} (h : BdD d) (i : Nat) : BdD (cutD d i) := ⟨h.1, fun l hl => h.2 l (List.mem_of_mem_take hl)⟩
theorem sum_take {α : Type} (f : α → Nat) : ∀ (l : List α) (i : Nat), ((l.take i).map f).sum ≤ (l.map f).sum
  | [], i => by simp
  | a :: r, 0 => Nat.zero_le _
  | a :: r, i + 1 => by
    have := sum_take f r i
    simp only [List.take_succ_cons, List.map_cons, List.sum_cons]
    omega
theorem cutD_c (d : Dl) (i : Nat) : cD (cutD d i) ≤ cD d := by
  have := sum_take cL d.2.2 i
  show ((d.2.2.take i).map cL).sum + d.2.1.length + 1 ≤ (d.2.2.map cL).sum + d.2.1.length + 1
  omega
noncomputable def cutM (m : Mkr) (i : Nat) : Mkr := (m.1, m.2.take i)
theorem cutM_all (d : Mkr) : cutM d d.2.length = d := by
  unfold cutM
  rw [List.take_length]
theorem join0_snoc : ∀ (l : List Str) (x : Str), Str.join ⟨#[]⟩ (l ++ [x]) = Str.join ⟨#[]⟩ l ++ x
  | [], x => by
    refine ext_toList ?_
    rw [app_codes]
    rfl
  | a :: r, x => by
    rw [join_snoc x (by simp)]
    refine ext_toList ?_
    simp only [app_codes]
    simp
theorem cutM_next {m : Mkr} {i : Nat} {n : Int} (e : m.2[i]? = some n) : shMake (cutM m (i + 1)) = shMake (cutM m i) ++ ⟨#[32]⟩ ++ num n := by
  have htk : m.2.take (i + 1) = m.2.take i ++ [n] := by rw [List.take_add_one, e]; rfl
  unfold shMake cutM
  dsimp only
  rw [htk, List.map_append, List.map_singleton, join0_snoc]
  refine ext_toList ?_
  simp only [app_codes, List.append_assoc]
theorem cutM_bd {d : Mkr} (h : BdM d) (i : Nat) : BdM (cutM d i) := ⟨h.1, fun l hl => h.2 l (List.mem_of_mem_take hl)⟩
theorem cutM_c (d : Mkr) (i : Nat) : cM (cutM d i) ≤ cM d := by
  show (d.2.take i).length + 1 ≤ d.2.length + 1
  rw [List.length_take]
  omega
theorem ok_Ltext (T : Tx K mg) : FnOk P w K mg base CX0 2 T.f_Ltext T.d_Ltext ["_law_past_here"] spLtext := by
  refine T.F_Ltext.ok sc_Ltext (fun vs H Q E h => ?_) (fun cdv A outer s H vs Q E hr h => ?_)
  · obtain ⟨v, p, rfl, _⟩ := h
    rfl
  · obtain ⟨v, ⟨dx, mx⟩, rfl, ht, hb0, hs, hc2, q⟩ := h
    obtain ⟨a, b, c, xs, ys, rfl, ha, hb, hc, hx, hy⟩ := ht.past
    refine ⟨_, (pss_cons (ps_set (i := 1) sc_Ltext.nd rfl (Or.inl rfl) (pe_lst pa_nil))
      (pss_cons (ps_for PassesOwn.never rfl (pi_list (pe_ix ix_tup (pv 0) pe_int (fun _ _ => rfl))) (pg_tup rfl (pgs_cons (pg_name (i := 2) sc_Ltext.nd rfl (Or.inl rfl)) (pgs_cons (pg_name (i := 3) sc_Ltext.nd rfl (Or.inl rfl)) (pgs_cons (pg_name (i := 4) sc_Ltext.nd rfl (Or.inl rfl)) pgs_nil))))
      (pss_cons (ps_set (i := 5) sc_Ltext.nd rfl (Or.inl rfl) (pe_op op_add_str (pe_op op_add_str (pe_op op_add_str (pe_callTy call_strA (by rfl) T.z_str boot_str (pa_cons (pv 2) pa_nil)) pe_str) (pv 3)) pe_str))
      (pss_cons (ps_for PassesOwn.never rfl (pi_range1 rfl T.z_range (pa_cons (pe_callB call_len (by rfl) T.z_len boot_len (pa_cons (pv 4) pa_nil)) pa_nil)) (pg_name (i := 6) sc_Ltext.nd rfl (Or.inl rfl))
      (pss_cons (ps_set (i := 5) sc_Ltext.nd rfl (Or.inl rfl) (pe_op op_add_str (pv 5) (pe_ix ix_list (pe_lst (pa_cons pe_str (pa_cons pe_str pa_nil))) (pe_callTy call_int1 (by rfl) T.z_int boot_int (pa_cons (pe_cmpR op_eq (pv 6) pe_int (nomark _)) pa_nil)) (fun _ _ => rfl))))
      (pss_cons (ps_set (i := 5) sc_Ltext.nd rfl (Or.inl rfl) (pe_op op_add_str (pv 5) (pe_bm PySem.F.plainAttrs_str PySem.F.slot_str_join PySem.F.type_str_join mt_join pe_str (pa_cons (pe_compF ["_law_key", "_law_source"] rfl (CompSc.mk (fv := []) (js := []) rfl (by decide +kernel) (by decide +kernel) (by decide +kernel) allc_nil rfl (by decide +kernel)) (pi_list (pe_ix ix_list (pv 4) (pv 6) (fun _ _ => rfl))) (fun _ _ _ _ _ => (pg_tupK (K := K) (n := 2) rfl rfl (pgs_cons (pg_name (i := 0) (show (["_law_key", "_law_source"] : List Str).Nodup by decide +kernel) rfl (Or.inl rfl)) (pgs_cons (pg_name (i := 1) (show (["_law_key", "_law_source"] : List Str).Nodup by decide +kernel) rfl (Or.inl rfl)) pgs_nil)))) (fun _ _ _ _ _ => pf_nil) (fun _ _ _ _ _ => (pe_call ((ok_Lpair T).mono (by decide)) hr rfl T.m_Lpair T.F_Lpair.kp T.b_Lpair .nil pass0 (pa_cons (pv 0) (pa_cons (pv 1) pa_nil))))) pa_nil))))
      (pss_one (ps_if (pt_cmpR (op_eqS hr.units) (pe_ix ix_list (pv 4) (pv 6) (fun _ _ => rfl)) (pe_lst pa_nil) (nomark _))
      (pss_one (ps_set (i := 5) sc_Ltext.nd rfl (Or.inl rfl) (pe_op op_add_str (pv 5) pe_str)))
      pss_nil)))))
      (pss_one (ps_expr (pe_bm PySem.F.plainAttrs_list PySem.F.slot_list_append PySem.F.type_list_append mt_appendA (pv 1) (pa_cons (pv 5) pa_nil)))))))
      (pss_cons (ps_for PassesOwn.never rfl (pi_list (pe_ix ix_tup (pv 0) pe_int (fun _ _ => rfl))) (pg_tup rfl (pgs_cons (pg_name (i := 7) sc_Ltext.nd rfl (Or.inl rfl)) (pgs_cons (pg_name (i := 8) sc_Ltext.nd rfl (Or.inl rfl)) pgs_nil)))
      (pss_cons (ps_set (i := 5) sc_Ltext.nd rfl (Or.inl rfl) (pe_op op_add_str (pe_op op_add_str pe_str (pe_callTy call_strA (by rfl) T.z_str boot_str (pa_cons (pv 7) pa_nil))) pe_str))
      (pss_cons (ps_for PassesOwn.never rfl (pi_list (pv 8)) (pg_name (i := 2) sc_Ltext.nd rfl (Or.inl rfl))
      (pss_one (ps_set (i := 5) sc_Ltext.nd rfl (Or.inl rfl) (pe_op op_add_str (pe_op op_add_str (pv 5) pe_str) (pe_callTy call_strA (by rfl) T.z_str boot_str (pa_cons (pv 2) pa_nil))))))
      (pss_one (ps_expr (pe_bm PySem.F.plainAttrs_list PySem.F.slot_list_append PySem.F.type_list_append mt_appendA (pv 1) (pa_cons (pv 5) pa_nil)))))))
      (pss_one (ps_ret (pe_bm PySem.F.plainAttrs_str PySem.F.slot_str_join PySem.F.type_str_join mt_join pe_str (pa_cons (pv 1) pa_nil))))))), ?_⟩
    refine foldS fun b' hb' => ?_
    dsimp only at hx hy hs
    have z9 : (6000000 : Nat) ≤ sizeLine := by decide
    have hcp : (dx.map cD).sum + (mx.map cM).sum ≤ 20000 := hc2
    have hll := len_le_sum cD_pos (l := dx)
    have hlm := len_le_sum cM_pos (l := mx)
    have c1 : (" " : Str).length = 1 := by decide +kernel
    have c2 : (":" : Str).length = 1 := by decide +kernel
    have c3 : ("make " : Str).length = 5 := by decide +kernel
    have c4 : ("-" : Str).length = 1 := by decide +kernel
    have c5 : ("; " : Str).length = 2 := by decide +kernel
    have hxl : xs.length = dx.length := by rw [hx.len, List.length_map]
    have hyl : ys.length = mx.length := by rw [hy.len, List.length_map]
    refine ⟨(by show 0 ≤ sizeLine; decide), fun D hD => ?_⟩
    have s1 := Same.upd (o := HO.lst []) hD
    subst hb'; refine foldN fun b' hb' => ?_
    refine ⟨_, rfl, a, _, _, _, rfl, rfl, SqT.of (s1 _ _ ha), atI_nat (j := 0) rfl, b, rfl, ⟨_, SqL.of (s1 _ _ hb)⟩, for_list (K := K) (a := b) (xs := xs) (fun i σ H2 => ∃ (x2 x3 x4 x5 x6 : Option V), σ = [some (.ref a), some (.ref D), x2, x3, x4, x5, x6, none, none] ∧ Same H H2 ∧ H2 D = some (.lst (((dx.take i).map shDeal).map V.str)))
      ⟨none, none, none, none, none, rfl, s1, upd_same⟩ (fun i σ H2 _ hJ' => by obtain ⟨_, _, _, _, _, _, s2, _⟩ := hJ'; exact SqL.of (s2 _ _ hb)) ?_ ?_⟩
    · intro i x σ H2 hxi hJ'
      refine hide fun G' hG' => ?_
      obtain ⟨x2, x3, x4, x5, x6, rfl, s2, h2⟩ := hJ'
      obtain ⟨pd, hpd, tr⟩ := hx.get hxi
      have hi : i < dx.length := by rw [← hxl]; exact (List.getElem?_eq_some_iff.mp hxi).1
      have ed : dx[i]? = some dx[i] := List.getElem?_eq_getElem hi
      rw [List.getElem?_map, ed] at hpd
      cases hpd
      have hdm : dx[i] ∈ dx := List.getElem_mem hi
      generalize dx[i] = d at *
      obtain ⟨p1, p2, ps, rfl, hp1, hp2, hps⟩ := tr.deal
      have hbd := hb0.1 d hdm
      have hcd := mem_le_sum (f := cD) hdm
      have hlk := len_le_sum cL_pos (l := d.2.2)
      have ecd : cD d = (d.2.2.map cL).sum + d.2.1.length + 1 := rfl
      have l31 := num_len31 hbd.1
      have hpl : ps.length = d.2.2.length := by rw [hps.len, List.length_map]
      refine hG' ?_
      refine hideG fun D' hD' => ?_
      refine ⟨p1, _, rfl, SqT.of (s2 _ _ hp1), rfl, _, _, rfl, _, _, rfl, _, _, rfl, rfl, ?_⟩
      have eh : num d.1 ++ (" " : Str) ++ d.2.1 ++ (":" : Str) = shDeal (cutD d 0) := by rw [show (" " : Str) = ⟨#[32]⟩ from by decide +kernel, show (":" : Str) = ⟨#[58]⟩ from by decide +kernel]; rfl
      refine foldS fun b2' hb2' => ?_
      refine ⟨_, rfl, _, rfl, .inl ⟨d.1, rfl, log_small hbd.1, _, _, rfl, rfl, (by show (num d.1).length + (" " : Str).length ≤ _; omega), _, rfl, _, _, rfl, rfl, (by show (num d.1 ++ (" " : Str)).length + d.2.1.length ≤ _; rw [strLen_append]; omega), _, _, rfl, rfl, (by show (num d.1 ++ (" " : Str) ++ d.2.1).length + (":" : Str).length ≤ _; rw [strLen_append, strLen_append]; omega), ?_⟩⟩
      subst hb2'
      show (Ends.mk (tSeq _ _ _) _ _ _).nx [some (.ref a), some (.ref D), some (.int d.1), some (.str d.2.1), some (.ref p2), some (.str (num d.1 ++ (" " : Str) ++ d.2.1 ++ (":" : Str))), x6, none, none] H2
      rw [eh]
      refine foldN fun b2' hb2' => ?_
      refine ⟨_, rfl, _, _, rfl, .inl ⟨_, SqL.of (s2 _ _ hp2), rfl⟩, _, rfl, by omega, by omega, for_range (lo := 0) (n := ((ps.length : Nat) : Int).toNat) (fun k σ H3 => ∃ (x6 : Option V), σ = [some (.ref a), some (.ref D), some (.int d.1), some (.str d.2.1), some (.ref p2), some (.str (shDeal (cutD d k))), x6, none, none] ∧ Same H2 H3)
        ⟨x6, rfl, Same.refl _⟩ ?_ ?_⟩
      · intro k σ H3 hk hJ'
        refine hide fun G' hG' => ?_
        obtain ⟨x6, rfl, s3⟩ := hJ'
        refine hG' ?_
        refine hideG fun D3' hD3' => ?_
        have s23 := s2.trans s3
        have hk' : k < d.2.2.length := by omega
        have el : d.2.2[k]? = some d.2.2[k] := List.getElem?_eq_getElem hk'
        have hlm : d.2.2[k] ∈ d.2.2 := List.getElem_mem hk'
        obtain ⟨lv, hlv, ltr⟩ := hps.at (i := k) (d := dLook d.2.2[k]) (by rw [List.getElem?_map, el]; rfl)
        have enx := cutD_next el
        generalize d.2.2[k] = l at *
        obtain ⟨la, ls, rfl, hla, hls⟩ := ltr.look
        have hbl := hbd.2 l hlm
        have hcl := mem_le_sum (f := cL) hlm
        have ecl : cL l = l.length + 1 := rfl
        have b1 := shDeal_len (cutD_bd hbd k)
        have b2 := cutD_c d k
        have b3 := look_sum hbl
        have b4 := joinLen ⟨#[32]⟩ (l.map shPair)
        rw [len1, List.length_map] at b4
        obtain ⟨sp, esp⟩ : ∃ sp : Str, (if k = 0 then (⟨#[32]⟩ : Str) else semi) = sp := ⟨_, rfl⟩
        have hspl : sp.length ≤ 2 := by
          rw [← esp]
          split <;> decide
        have hsv : atI [V.str "; ", V.str " "] (if decide (V.int (0 + (k : Int)) = V.int 0) = true then 1 else 0) = some (.str sp) := by
          by_cases hk0 : k = 0
          · subst hk0
            rw [if_pos rfl] at esp
            rw [if_pos (by decide), ← esp, show (⟨#[32]⟩ : Str) = (" " : Str) from by decide +kernel]
            rfl
          · rw [if_neg hk0] at esp
            rw [if_neg (fun z => hk0 (by have := V.int.inj (of_decide_eq_true z); omega)), ← esp, show semi = ("; " : Str) from by decide +kernel]
            rfl
        refine foldS fun b3' hb3' => ?_
        refine ⟨_, rfl, (by show 2 ≤ sizeLine; decide), fun p hp => ⟨_, rfl, rfl, .inr ⟨_, rfl, p, _, _, _, rfl, rfl, SqL.of upd_same, hsv, _, _, rfl, rfl, (by show (shDeal (cutD d k)).length + sp.length ≤ _; omega), ?_⟩⟩⟩
        have s4 := s23.trans (Same.upd (o := HO.lst [.str "; ", .str " "]) hp)
        have s34 := s3.trans (Same.upd (o := HO.lst [.str "; ", .str " "]) hp)
        generalize upd H3 p (.lst [.str "; ", .str " "]) = H4 at *
        have hvl : atI ps (0 + (k : Int)) = some (.ref la) := atI_one k (by omega) hlv
        subst hb3'; refine foldN fun b3' hb3' => ?_
        refine ⟨_, rfl, rfl, _, rfl, _, rfl, p2, _, _, _, rfl, rfl, SqL.of (s4 _ _ hp2), hvl, la, rfl, ⟨_, SqL.of (s4 _ _ hla)⟩, compL (k := 2) (fs := []) l dPair (fun p => some (.str (shPair p))) rfl (s4 _ _ hla) (hls.same s4) (by omega) (fun pr hpr H5 ts v R s5 hts tr5 cont => ?_) (fun D5 H5 hD5 s5 hd5 => ?_)⟩
        · obtain ⟨t1, t2, rfl⟩ : ∃ t1 t2, ts = [t1, t2] := My.us2 hts
          obtain ⟨pa, rfl, hpa⟩ := tr5.pair
          refine ⟨pa, _, rfl, SqT.of hpa, rfl, _, _, rfl, _, _, rfl, rfl, _, rfl, _, rfl, pr.1, pr.2, rfl, (hbl pr hpr).1, (hbl pr hpr).2, hs d hdm l hlm pr hpr, ?_⟩
          exact cont [_, _] H5 rfl (Same.refl _)
        rw [show l.filterMap (fun p => some (V.str (shPair p))) = (l.map shPair).map V.str from by rw [List.map_map, ← List.filterMap_eq_map]; rfl] at hd5
        refine ⟨_, D5, l.map shPair, rfl, rfl, SqL.of hd5, ?_, _, _, rfl, rfl, ?_, ?_⟩
        · rw [c1, List.length_map]
          omega
        · show (shDeal (cutD d k) ++ sp).length + (Str.join (" " : Str) (l.map shPair)).length ≤ _
          rw [strLen_append, show (" " : Str) = ⟨#[32]⟩ from by decide +kernel]
          omega
        have s45 := s4.trans s5
        subst hb3'
        refine ⟨_, rfl, _, rfl, p2, _, _, _, rfl, rfl, SqL.of (s45 _ _ hp2), hvl, (by show 0 ≤ sizeLine; decide), fun el' hel => ⟨dLook l, .list [], Tr.dt (.lst ((s45.trans (Same.upd hel)) _ _ hla) (hls.same (s45.trans (Same.upd hel)))), .lst (SqL.of upd_same) .nil, look_shaped l, rfl, _, rfl, ?_⟩⟩
        rw [look_nil]
        have s35 := (s34.trans s5).trans (Same.upd (o := HO.lst []) hel)
        refine ite2 (fun e => ?_) (fun e => ?_)
        · have e0 : l = [] := of_decide_eq_true e
          subst e0
          subst hD3'
          refine ⟨_, rfl, _, _, rfl, rfl, ?_, some (.int (0 + (k : Int))), ?_, s35⟩
          · show (shDeal (cutD d k) ++ sp ++ Str.join (" " : Str) []).length + ("-" : Str).length ≤ _
            rw [strLen_append, strLen_append, show (Str.join (" " : Str) ([] : List Str)).length = 0 from by decide +kernel]
            omega
          · rw [enx, esp]
            have : shDeal (cutD d k) ++ sp ++ Str.join (" " : Str) (([] : Lk).map shPair) ++ ("-" : Str) = shDeal (cutD d k) ++ sp ++ shLook [] := by
              refine ext_toList ?_
              have hJ : (Str.join (" " : Str) (([] : Lk).map shPair)).cps.toList = [] := by decide +kernel
              have hm : ("-" : Str).cps.toList = (shLook []).cps.toList := by decide +kernel
              simp only [app_codes, hJ, hm, List.append_nil]
            rw [← this]
            rfl
        · have e0 : ¬ l = [] := fun z => e (decide_eq_true z)
          subst hD3'
          refine ⟨some (.int (0 + (k : Int))), ?_, s35⟩
          rw [enx, esp, show shLook l = Str.join (" " : Str) (l.map shPair) from by rw [show (" " : Str) = ⟨#[32]⟩ from by decide +kernel]; exact if_neg e0]
          rfl
      intro σ H3 hJ'
      refine hide fun G' hG' => ?_
      obtain ⟨x6, rfl, s3⟩ := hJ'
      refine hG' ?_
      subst hb2'
      have e9 : ((ps.length : Nat) : Int).toNat = d.2.2.length := by omega
      rw [e9, cutD_all]
      have s23 := s2.trans s3
      subst hD'
      refine ⟨_, rfl, .inl ⟨rfl, _, SqL.of (s3 _ _ h2)⟩, _, rfl, D, _, _, rfl, rfl, s3 _ _ h2, ?_, fun H4 h4 k4 => ⟨_, _, _, _, _, rfl, fun b o e => k4 _ _ (fun z => by rw [z, hD] at e; cases e) (s23 _ _ e), ?_⟩⟩
      · rw [List.length_map, List.length_map, List.length_take]
        omega
      · rw [List.take_add_one, ed, List.map_append, List.map_append]
        exact h4
    intro σ H2 hJ'
    refine hide fun G' hG' => ?_
    obtain ⟨x2, x3, x4, x5, x6, rfl, s2, h2⟩ := hJ'
    refine hG' ?_
    subst hb'; refine foldN fun b' hb' => ?_
    rw [hxl, List.take_length] at h2
    refine ⟨_, rfl, a, _, _, _, rfl, rfl, SqT.of (s2 _ _ ha), atI_nat (j := 1) rfl, c, rfl, ⟨_, SqL.of (s2 _ _ hc)⟩, for_list (K := K) (a := c) (xs := ys) (fun i σ H3 => ∃ (x2 x3 x4 x5 x6 x7 x8 : Option V), σ = [some (.ref a), some (.ref D), x2, x3, x4, x5, x6, x7, x8] ∧ Same H H3 ∧ H3 D = some (.lst ((dx.map shDeal ++ (mx.take i).map shMake).map V.str)))
      ⟨x2, x3, x4, x5, x6, none, none, rfl, s2, by rw [List.take_zero, List.map_nil, List.append_nil]; exact h2⟩ (fun i σ H3 _ hJ' => by obtain ⟨_, _, _, _, _, _, _, _, s3, _⟩ := hJ'; exact SqL.of (s3 _ _ hc)) ?_ ?_⟩
    · intro i x σ H3 hxi hJ'
      refine hide fun G' hG' => ?_
      obtain ⟨x2, x3, x4, x5, x6, x7, x8, rfl, s3, h3⟩ := hJ'
      obtain ⟨pd, hpd, tr⟩ := hy.get hxi
      have hi : i < mx.length := by rw [← hyl]; exact (List.getElem?_eq_some_iff.mp hxi).1
      have ed : mx[i]? = some mx[i] := List.getElem?_eq_getElem hi
      rw [List.getElem?_map, ed] at hpd
      cases hpd
      have hdm : mx[i] ∈ mx := List.getElem_mem hi
      generalize mx[i] = m at *
      obtain ⟨p1, p2, rfl, hp1, hp2⟩ := tr.make
      have hbm := hb0.2 m hdm
      have hcm := mem_le_sum (f := cM) hdm
      have ecm : cM m = m.2.length + 1 := rfl
      have l31 := num_len31 hbm.1
      refine hG' ?_
      refine hideG fun D' hD' => ?_
      refine ⟨p1, _, rfl, SqT.of (s3 _ _ hp1), rfl, _, _, rfl, _, _, rfl, rfl, ?_⟩
      have eh : ("make " : Str) ++ num m.1 ++ (":" : Str) = shMake (cutM m 0) := by
        rw [show ("make " : Str) = mkW from by decide +kernel, show (":" : Str) = ⟨#[58]⟩ from by decide +kernel]
        refine ext_toList ?_
        unfold shMake cutM
        rw [app_codes, app_codes, app_codes, app_codes, app_codes]
        show _ = _ ++ []
        rw [List.append_nil]
      refine foldS fun b2' hb2' => ?_
      refine ⟨_, rfl, _, rfl, .inl ⟨m.1, rfl, log_small hbm.1, _, _, rfl, rfl, (by show ("make " : Str).length + (num m.1).length ≤ _; omega), _, _, rfl, rfl, (by show (("make " : Str) ++ num m.1).length + (":" : Str).length ≤ _; rw [strLen_append]; omega), ?_⟩⟩
      subst hb2'
      show (Ends.mk (tSeq _ _ _) _ _ _).nx [some (.ref a), some (.ref D), x2, x3, x4, some (.str (("make " : Str) ++ num m.1 ++ (":" : Str))), x6, some (.int m.1), some (.ref p2)] H3
      rw [eh]
      refine foldN fun b2' hb2' => ?_
      refine ⟨_, rfl, p2, rfl, ⟨_, SqL.of (s3 _ _ hp2)⟩, for_list (K := K) (a := p2) (xs := m.2.map V.int) (fun k σ H4 => ∃ (x2 : Option V), σ = [some (.ref a), some (.ref D), x2, x3, x4, some (.str (shMake (cutM m k))), x6, some (.int m.1), some (.ref p2)] ∧ Same H3 H4)
        ⟨x2, rfl, Same.refl _⟩ (fun k σ H4 _ hJ' => by obtain ⟨_, _, s4⟩ := hJ'; exact SqL.of (s4 _ _ (s3 _ _ hp2))) ?_ ?_⟩
      · intro k x σ H4 hxk hJ'
        refine hide fun G' hG' => ?_
        obtain ⟨x2, rfl, s4⟩ := hJ'
        refine hG' ?_
        refine hideG fun D3' hD3' => ?_
        rw [List.getElem?_map] at hxk
        cases en : m.2[k]? with
        | none => rw [en] at hxk; cases hxk
        | some n =>
          rw [en] at hxk
          cases hxk
          have hbn := hbm.2 n (List.mem_of_getElem? en)
          have ln := num_len31 hbn
          have b1 := shMake_len (cutM_bd hbm k)
          have b2 := cutM_c m k
          subst hD3'
          refine ⟨_, rfl, _, _, rfl, rfl, (by show (shMake (cutM m k)).length + (" " : Str).length ≤ _; omega), _, rfl, _, rfl, .inl ⟨n, rfl, log_small hbn, _, _, rfl, rfl, (by show (shMake (cutM m k) ++ (" " : Str)).length + (num n).length ≤ _; rw [strLen_append]; omega), some (.int n), ?_, s4⟩⟩
          rw [cutM_next en, show (⟨#[32]⟩ : Str) = (" " : Str) from by decide +kernel]
          rfl
      intro σ H4 hJ'
      refine hide fun G' hG' => ?_
      obtain ⟨x2, rfl, s4⟩ := hJ'
      refine hG' ?_
      subst hb2'
      rw [List.length_map, cutM_all]
      have s34 := s3.trans s4
      subst hD'
      refine ⟨_, rfl, .inl ⟨rfl, _, SqL.of (s4 _ _ h3)⟩, _, rfl, D, _, _, rfl, rfl, s4 _ _ h3, ?_, fun H5 h5 k5 => ⟨_, _, _, _, _, _, _, rfl, fun b o e => k5 _ _ (fun z => by rw [z, hD] at e; cases e) (s34 _ _ e), ?_⟩⟩
      · rw [List.length_map, List.length_append, List.length_map, List.length_map, List.length_take]
        omega
      · rw [List.take_add_one, ed, List.map_append (l₂ := (some m).toList), ← List.append_assoc, List.map_append (l₂ := List.map shMake (some m).toList)]
        exact h5
    intro σ H3 hJ'
    refine hide fun G' hG' => ?_
    obtain ⟨x2, x3, x4, x5, x6, x7, x8, rfl, s3, h3⟩ := hJ'
    refine hG' ?_
    subst hb'
    rw [hyl, List.take_length] at h3
    have hsum := past_sum hb0
    have cn : ("\n" : Str).length = 1 := by decide +kernel
    have hcp2 : cP (dx, mx) ≤ 20000 := hc2
    dsimp only at hsum
    refine ⟨rfl, _, rfl, _, D, dx.map shDeal ++ mx.map shMake, rfl, rfl, SqL.of h3, ?_, ?_⟩
    · rw [cn, List.length_append, List.length_map, List.length_map]
      omega
    · have e : shPast (dx, mx) = Str.join ("\n" : Str) (dx.map shDeal ++ mx.map shMake) := by rw [show ("\n" : Str) = ⟨#[10]⟩ from by decide +kernel]; rfl
      show Q (V.str (Str.join ("\n" : Str) (dx.map shDeal ++ mx.map shMake))) _
      rw [← e]
      exact q _ s3
--@STAGE
theorem dd_is {ns : List Int} (h : ns.Nodup) : dd ns = ns := by
  have key : ∀ (ns acc : List Int), (acc ++ ns).Nodup → ns.foldl step_dedup acc = acc ++ ns := by
    intro ns
    induction ns with
    | nil => intro acc _; simp
    | cons n r ih =>
      intro acc hn
      have hna : n ∉ acc := fun z => by
        rw [List.nodup_append] at hn
        exact hn.2.2 n z n List.mem_cons_self rfl
      have es : step_dedup acc n = acc ++ [n] := by
        unfold step_dedup
        simp [hna]
      rw [List.foldl_cons, es, ih (acc ++ [n]) (by simpa using hn)]
      simp
  exact key ns [] (by simpa using h)
theorem num1 {n : Int} (h0 : 0 ≤ n) (h9 : n ≤ 9) : (num n).length ≤ 1 := by
  have key : ∀ k, k < 10 → (num ((k : Nat) : Int)).length ≤ 1 := by decide +kernel
  obtain ⟨k, rfl⟩ := Int.eq_ofNat_of_zero_le h0
  exact key k (by omega)
structure Fit (p : Ps) : Prop where
  bd : BdP p
  src : ∀ d ∈ p.1, ∀ l ∈ d.2.2, ∀ x ∈ l, -1 ≤ x.2
  c : cP p ≤ 20000
  rd : RdOk p
  few : ∀ m ∈ p.2, m.2.length < 4000
  ok : isPs p = true
theorem GoodP.fit {ds : List Drn} {p : Ps} (gd : GoodD ds) (gp : GoodP ds p) : Fit p := by
  obtain ⟨g1, g2, g3, g4⟩ := gd
  have hnum : p.1.map (·.1) = ds.map (·.1) := by
    have := congrArg (List.map Prod.fst) gp.names
    rw [List.map_map, List.map_map] at this
    exact this
  have hlen : p.1.length = ds.length := by
    have := congrArg List.length gp.names
    rw [List.length_map, List.length_map] at this
    exact this
  have hdd : ∀ d ∈ p.1, 1 ≤ d.1 ∧ d.1 ≤ 8 ∧ d.2.1 ∈ lvls ∧ d.2.2.length ≤ 7 := fun d hd => by
    obtain ⟨i, hi, ei⟩ := List.getElem_of_mem hd
    have e1 : p.1[i]? = some d := by rw [List.getElem?_eq_getElem hi, ei]
    have e2 : ds[i]? = some ds[i] := List.getElem?_eq_getElem (by omega)
    have hm := g3 _ (List.getElem_mem (show i < ds.length by omega))
    have hf := gp.few i d _ e1 e2
    have hn := congrArg (fun l : List (Int × Str) => l[i]?) gp.names
    rw [List.getElem?_map, List.getElem?_map, e1, e2] at hn
    have h1 : (d.1, d.2.1) = (ds[i].1, ds[i].2.1) := Option.some.inj hn
    have h2 : d.1 = ds[i].1 := congrArg Prod.fst h1
    have h3 : d.2.1 = ds[i].2.1 := congrArg Prod.snd h1
    rw [h2, h3]
    exact ⟨hm.1, hm.2.1, hm.2.2.1, by omega⟩
  have h18 : ∀ n ∈ ds.map (·.1), 1 ≤ n ∧ n ≤ 8 := fun n hn => by
    obtain ⟨d, hd, rfl⟩ := List.mem_map.mp hn
    exact ⟨(g3 d hd).1, (g3 d hd).2.1⟩
  have e30 : (10 : Int) ^ 30 = 1000000000000000000000000000000 := by decide
  have bd8 : ∀ n : Int, -1 ≤ n → n ≤ 8 → Bd n := fun n h1 h2 => ⟨by rw [e30]; omega, by rw [e30]; omega⟩
  have hsrc : ∀ d ∈ p.1, ∀ l ∈ d.2.2, ∀ x ∈ l, -1 ≤ x.2 ∧ x.2 ≤ 8 := fun d hd l hl x hx => by
    rcases ((gp.looks d hd l hl).2.2 x hx).2 with z | z | ⟨_, z⟩
    · omega
    · omega
    · have hmk : ∃ m ∈ p.2, x.2 ∈ m.2 := by
        unfold mkOf at z
        cases q : p.2.find? fun m => m.1 == x.1 with
        | none => rw [q] at z; cases z
        | some m =>
          rw [q] at z
          exact ⟨m, List.mem_of_find?_eq_some q, z⟩
      obtain ⟨m, hm, hxm⟩ := hmk
      have := h18 _ ((gp.makes m hm).2.2.2.2 _ hxm)
      omega
  have hBd : BdP p := ⟨fun d hd => ⟨bd8 _ (by have := (hdd d hd).1; omega) (hdd d hd).2.1, fun l hl x hx => ⟨((gp.looks d hd l hl).2.2 x hx).1, bd8 _ (hsrc d hd l hl x hx).1 (hsrc d hd l hl x hx).2⟩⟩, fun m hm => ⟨(gp.makes m hm).1, fun n hn => by have := h18 n ((gp.makes m hm).2.2.2.2 n hn); exact bd8 n (by omega) this.2⟩⟩
  have xl : ∀ y ∈ lvls, y.length ≤ 5 := by decide +kernel
  have hcD : ∀ d ∈ p.1, cD d ≤ 41 := fun d hd => by
    have h1 := sum_bound (l := d.2.2) (f := cL) (g := fun _ => 5) fun l hl => by
      have := (gp.looks d hd l hl).2.1
      show l.length + 1 ≤ 5
      omega
    rw [sum_one] at h1
    have h2 := (hdd d hd).2.2.2
    have h3 := xl _ (hdd d hd).2.2.1
    show (d.2.2.map cL).sum + d.2.1.length + 1 ≤ 41
    omega
  have hcM : ∀ m ∈ p.2, cM m ≤ 101 := fun m hm => by
    have := (gp.makes m hm).2.2.1
    show m.2.length + 1 ≤ 101
    omega
  have hcP : cP p ≤ 20000 := by
    have h1 := sum_bound (l := p.1) (f := cD) (g := fun _ => 41) hcD
    have h2 := sum_bound (l := p.2) (f := cM) (g := fun _ => 101) hcM
    rw [sum_one] at h1 h2
    have h3 := gp.many
    unfold cP
    omega
  have src1 : ∀ d ∈ p.1, ∀ l ∈ d.2.2, ∀ x ∈ l, (shPair x).length ≤ 33 := fun d hd l hl x hx => by
    have h1 := num_len31 ((gp.looks d hd l hl).2.2 x hx).1
    have h2 : (srcT x.2).length ≤ 1 := by
      unfold srcT
      split
      · exact Nat.le_refl 1
      · next hne => exact num1 (by have := (hsrc d hd l hl x hx).1; omega) (by have := (hsrc d hd l hl x hx).2; omega)
    unfold shPair
    rw [strLen_append, strLen_append, len1]
    omega
  have lk1 : ∀ d ∈ p.1, ∀ l ∈ d.2.2, (shLook l).length ≤ 136 := fun d hd l hl => by
    unfold shLook
    split
    · rw [len1]; decide
    · have h1 := sum_bound (l := l) (f := (fun x : Str => x.length) ∘ shPair) (g := fun _ => 33) fun x hx => src1 d hd l hl x hx
      rw [sum_one, ← List.map_map] at h1
      have h2 := joinLen ⟨#[32]⟩ (l.map shPair)
      rw [len1, List.length_map] at h2
      have h3 := (gp.looks d hd l hl).2.1
      omega
  have dl1 : ∀ d ∈ p.1, (shDeal d).length ≤ 1010 := fun d hd => by
    have h1 := hdD_len (hBd.1 d hd)
    have h3 := xl _ (hdd d hd).2.2.1
    have h4 := sum_bound (l := d.2.2) (f := (fun x : Str => x.length) ∘ shLook) (g := fun _ => 136) fun l hl => lk1 d hd l hl
    rw [sum_one, ← List.map_map] at h4
    have h5 := joinLen semi (d.2.2.map shLook)
    have l2 : semi.length = 2 := rfl
    rw [l2, List.length_map] at h5
    have h6 := (hdd d hd).2.2.2
    unfold shDeal
    split
    · omega
    · rw [strLen_append, strLen_append, len1]
      omega
  have mk1 : ∀ m ∈ p.2, (shMake m).length ≤ 240 := fun m hm => by
    have h1 := num_len31 (hBd.2 m hm).1
    have h2 := sum_bound (l := m.2) (f := (fun x : Str => x.length) ∘ fun n => (⟨#[32]⟩ : Str) ++ num n) (g := fun _ => 2) fun n hn => by
      have h8 := h18 n ((gp.makes m hm).2.2.2.2 n hn)
      have := num1 (n := n) (by omega) (by omega)
      show ((⟨#[32]⟩ : Str) ++ num n).length ≤ 2
      rw [strLen_append, len1]
      omega
    rw [sum_one, ← List.map_map] at h2
    have h3 := joinLen ⟨#[]⟩ (m.2.map fun n => (⟨#[32]⟩ : Str) ++ num n)
    have l0 : (⟨#[]⟩ : Str).length = 0 := rfl
    rw [l0] at h3
    have h4 := (gp.makes m hm).2.2.1
    unfold shMake
    rw [strLen_append, strLen_append, strLen_append, len1, mkW_len]
    omega
  have hT : (shPast p).length ≤ 10000 := by
    have h1 := joinLen ⟨#[10]⟩ (p.1.map shDeal ++ p.2.map shMake)
    rw [len1, List.length_append, List.length_map, List.length_map, List.map_append, List.sum_append, List.map_map, List.map_map] at h1
    have h2 := sum_bound (l := p.1) (f := (fun x : Str => x.length) ∘ shDeal) (g := fun _ => 1010) dl1
    have h3 := sum_bound (l := p.2) (f := (fun x : Str => x.length) ∘ shMake) (g := fun _ => 240) mk1
    rw [sum_one] at h2 h3
    have h4 := gp.many
    show (Str.join ⟨#[10]⟩ (p.1.map shDeal ++ p.2.map shMake)).length ≤ 10000
    omega
  refine ⟨hBd, fun d hd l hl x hx => (hsrc d hd l hl x hx).1, hcP, ⟨hBd, fun d hd => (hdd d hd).2.2.1, fun m hm => (gp.makes m hm).2.1, hT⟩, fun m hm => by have := (gp.makes m hm).2.2.1; omega, ?_⟩
  unfold isPs
  rw [hnum, pw_rise g2, pw_rise gp.up, Bool.true_and, Bool.true_and, Bool.and_eq_true, List.all_eq_true, List.all_eq_true]
  refine ⟨fun d hd => ?_, fun m hm => ?_⟩
  · unfold isDl
    rw [decide_eq_true ⟨(hdd d hd).1, (hdd d hd).2.1⟩, decide_eq_true (hdd d hd).2.2.1, Bool.true_and, Bool.true_and, List.all_eq_true]
    intro l hl
    obtain ⟨k1, k2, k3⟩ := gp.looks d hd l hl
    unfold isLk
    rw [pw_rise k1, Bool.true_and, List.all_eq_true]
    intro x hx
    unfold isSrc
    rcases (k3 x hx).2 with z | z | ⟨z1, z2⟩
    · simp [z]
    · simp [z]
    · rw [decide_eq_false z1, decide_eq_true z2]
      simp
  · unfold isMk
    rw [dd_is (gp.makes m hm).2.2.2.1, decide_eq_true rfl, Bool.true_and, List.all_eq_true]
    intro n hn
    rw [hnum]
    exact decide_eq_true ((gp.makes m hm).2.2.2.2 n hn)
--@STAGE
noncomputable def spLaw (K : PySem.W.Frag) : Sp := fun vs H Q _ => ∃ (a : Addr) (ns : List Int), vs = [.ref a] ∧ SqL K H a (ns.map V.int) ∧ ns.length ≤ 63 ∧ (∀ m ∈ ns, Builtin.Int.intBits m ≤ 1048576) ∧ ∀ H', Q (.bl true) H'
theorem ok_law (T : Tx K mg) : FnOk P w K mg base CX0 9 T.f_law T.d_law ["_law_script"] (spLaw K) := by
  refine T.F_law.ok sc_law (fun vs H Q E h => ?_) (fun cdv A outer s H vs Q E hr h => ?_)
  · obtain ⟨a, ns, rfl, _⟩ := h
    rfl
  · obtain ⟨a, ns, rfl, ha, h63, hbits, k⟩ := h
    refine ⟨_, (pss_cons (ps_set (i := 1) sc_law.nd rfl (Or.inl rfl) (pe_call ((ok_Ldrawndeals T).mono (by decide)) hr rfl T.m_Ldrawndeals T.F_Ldrawndeals.kp T.b_Ldrawndeals .nil pass0 (pa_cons (pv 0) (pa_cons pe_non pa_nil))))
      (pss_cons (ps_set (i := 2) sc_law.nd rfl (Or.inl rfl) (pe_call ((ok_Lpast T).mono (by decide)) hr rfl T.m_Lpast T.F_Lpast.kp T.b_Lpast .nil pass0 (pa_cons (pv 0) (pa_cons (pv 1) (pa_cons (pe_call ((ok_Ldrawnorder T).mono (by decide)) hr rfl T.m_Ldrawnorder T.F_Ldrawnorder.kp T.b_Ldrawnorder .nil pass0 (pa_cons (pv 0) (pa_cons (pv 1) pa_nil))) pa_nil)))))
      (pss_cons (ps_set (i := 3) sc_law.nd rfl (Or.inl rfl) (pe_call ((ok_Ltext T).mono (by decide)) hr rfl T.m_Ltext T.F_Ltext.kp T.b_Ltext .nil pass0 (pa_cons (pv 2) pa_nil)))
      (pss_cons (ps_set (i := 4) sc_law.nd rfl (Or.inl rfl) (pe_call ((ok_Lcopied T).mono (by decide)) hr rfl T.m_Lcopied T.F_Lcopied.kp T.b_Lcopied .nil pass0 (pa_cons (pv 2) pa_nil)))
      (pss_cons (ps_set (i := 5) sc_law.nd rfl (Or.inl rfl) (pe_call ((ok_showhistory T).mono (by decide)) hr rfl T.m_showhistory T.F_showhistory.kp T.b_showhistory .nil pass0 (pa_cons (pv 4) pa_nil)))
      (pss_cons (ps_if (PW.pt (pw_or (pt_not (pt_val (pe_callB call_isi (by rfl) T.z_isinstance boot_isinstance (pa_cons (pv 5) (pa_cons (pe_bltn (v := V.ty "str") rfl T.z_str boot_str rfl) pa_nil))))) (pw_or (pt_cmpR op_ne (pv 5) (pv 3) (nomark _)) (pw_or1 (pt_cmpR (op_neS hr.units) (pv 4) (pv 2) (nomark _))))))
      (pss_one (ps_ret pe_bl))
      pss_nil)
      (pss_cons (ps_set (i := 6) sc_law.nd rfl (Or.inl rfl) (pe_call ((ok_readhistory T).mono (by decide)) hr rfl T.m_readhistory T.F_readhistory.kp T.b_readhistory .nil pass0 (pa_cons (pv 3) pa_nil)))
      (pss_cons (ps_if (pt_not (pt_val (pe_call ((ok_Lsame T).mono (by decide)) hr rfl T.m_Lsame T.F_Lsame.kp T.b_Lsame .nil pass0 (pa_cons (pv 6) (pa_cons (pv 2) pa_nil)))))
      (pss_one (ps_ret pe_bl))
      pss_nil)
      (pss_cons (ps_expr (pe_bm0 PySem.F.plainAttrs_list PySem.F.slot_list_clear PySem.F.type_list_clear mt_clearA (pe_ix ix_tup (pv 6) pe_int (fun _ _ => rfl))))
      (pss_cons (ps_expr (pe_bm0 PySem.F.plainAttrs_list PySem.F.slot_list_clear PySem.F.type_list_clear mt_clearA (pe_ix ix_tup (pv 6) pe_int (fun _ _ => rfl))))
      (pss_one (ps_ret (pe_and (pe_call ((ok_Lsame T).mono (by decide)) hr rfl T.m_Lsame T.F_Lsame.kp T.b_Lsame .nil pass0 (pa_cons (pe_call ((ok_readhistory T).mono (by decide)) hr rfl T.m_readhistory T.F_readhistory.kp T.b_readhistory .nil pass0 (pa_cons (pv 3) pa_nil)) (pa_cons (pv 2) pa_nil))) (pe_and (pe_cmpR op_eq (pe_call ((ok_showhistory T).mono (by decide)) hr rfl T.m_showhistory T.F_showhistory.kp T.b_showhistory .nil pass0 (pa_cons (pe_tup (pa_cons (pe_lst pa_nil) (pa_cons (pe_lst pa_nil) pa_nil))) pa_nil)) pe_str (nomark _)) (pe_one (pe_cmpR (op_eqS hr.units) (pe_call ((ok_readhistory T).mono (by decide)) hr rfl T.m_readhistory T.F_readhistory.kp T.b_readhistory .nil pass0 (pa_cons pe_str pa_nil)) (pe_tup (pa_cons (pe_lst pa_nil) (pa_cons (pe_lst pa_nil) pa_nil))) (nomark _))))))))))))))))), ?_⟩
    refine ⟨_, rfl, a, ns, .non, rfl, ha, .inl rfl, fun v1 H1 ds s1 t1 gd _ => ?_⟩
    refine ⟨_, rfl, _, rfl, _, rfl, _, rfl, a, ns, v1, ds, rfl, s1.seq ha, t1.same off_sub, gd, fun v2 H2 os s2 t2 hW hol => ⟨a, ns, v1, v2, ds, os, rfl, (s1.trans s2).seq ha, (t1.same off_sub).same s2, t2.same off_sub, gd, hW, hol, fun v3 H3 p s3 t3 gp => ?_⟩⟩
    have ft := gp.fit gd
    obtain ⟨lay1, lay2, lay3⟩ := lay_past ft.rd.2.1
    refine ⟨_, rfl, v3, p, rfl, t3, ft.bd, ft.src, ft.c, fun H4 s4 => ?_⟩
    refine ⟨_, rfl, v3, p, rfl, t3.same s4, ft.c, fun v5 H5 s5 t5 => ?_⟩
    refine ⟨_, rfl, v5, p, rfl, t5, ft.bd, ft.c, fun H6 s6 => ?_⟩
    have t36 := t3.same (s4.trans (s5.trans s6))
    refine ⟨_, rfl, _, _, _, _, rfl, .str _, kit_ss, _, rfl, iteF ⟨_, rfl, _, rfl, rfl, _, rfl, iteDN rfl ⟨_, rfl, _, rfl, dPast p, dPast p, (t5.same s6).dt, t36.dt, lay3, lay3, _, rfl, ?_⟩⟩⟩
    rw [SeqAt.eqv_refl (dPast p) lay1]
    refine iteF ?_
    refine ⟨_, rfl, p, rfl, ft.rd, ft.c, ft.few, ft.ok, fun v7 H7 s7 t7 tw => ?_⟩
    refine ⟨_, rfl, _, rfl, v7, v3, dPast p, rfl, t7.same off_sub, t36.same s7, lay2, fun H8 s8 => ⟨_, rfl, iteF ?_⟩⟩
    obtain ⟨f, fb, fc, xs, ys, rfl, hf, hfb, hfc, _, _⟩ := t7.past
    obtain ⟨nf, hf7⟩ := off_none hf
    obtain ⟨nb, hb7⟩ := off_none hfb
    obtain ⟨nc, hc7⟩ := off_none hfc
    have hbc : fb ≠ fc := by
      obtain ⟨f', b', c', e1, e2, e3⟩ := tw
      cases e1
      rw [hf7] at e2
      cases e2
      exact e3
    have f8 := s8 _ _ hf7
    have b8 := s8 _ _ hb7
    have c8 := s8 _ _ hc7
    have fbn : f ≠ fb := fun z => by rw [z, hb7] at hf7; cases hf7
    refine ⟨_, rfl, f, _, _, _, rfl, rfl, SqT.of f8, atI_nat (j := 0) rfl, .inl ⟨rfl, _, SqL.of b8⟩, fb, _, rfl, rfl, b8, fun H9 k9 => ?_⟩
    have c9 := k9 _ _ hbc.symm c8
    refine ⟨_, rfl, f, _, _, _, rfl, rfl, SqT.of (k9 _ _ fbn f8), atI_nat (j := 1) rfl, .inl ⟨rfl, _, SqL.of c9⟩, fc, _, rfl, rfl, c9, fun H10 k10 => ?_⟩
    have sA : Same H6 H10 := fun b o e => k10 _ _ (fun z => by rw [z, nc] at e; cases e) (k9 _ _ (fun z => by rw [z, nb] at e; cases e) (s8 _ _ (s7 _ _ e)))
    refine ⟨_, rfl, p, rfl, ft.rd, ft.c, ft.few, ft.ok, fun v11 H11 s11 t11 _ => ⟨_, rfl, v11, v3, dPast p, rfl, t11.same off_sub, t36.same (sA.trans s11), lay2, fun H12 s12 => ⟨_, rfl, iteT ?_⟩⟩⟩
    have fe : BdP ([], []) := ⟨(fun d h => by cases h), (fun d h => by cases h)⟩
    have e0 : shPast ([], []) = ("" : Str) := by decide +kernel
    have re : RdOk ([], []) := ⟨fe, (fun d h => by cases h), (fun d h => by cases h), by rw [e0]; decide +kernel⟩
    refine ⟨(by show 0 ≤ sizeLine; decide), fun l1 hl1 => ⟨(by show 0 ≤ sizeLine; decide), fun l2 hl2 => ⟨(by show 2 ≤ sizeLine; decide), fun tt htt => ?_⟩⟩⟩
    have u2 := Same.upd (o := HO.lst []) hl2
    have u3 := Same.upd (o := HO.tup [.ref l1, .ref l2]) htt
    refine ⟨.ref tt, ([], []), rfl, .tup upd_same (.cons (.lst (u3 _ _ (u2 _ _ upd_same)) .nil) (.cons (.lst (u3 _ _ upd_same) .nil) .nil)), fe, by decide, fun H13 s13 => ⟨rfl, _, rfl, ?_⟩⟩
    refine iteDT (by rw [e0]) ?_
    refine ⟨([], []), by rw [e0]; rfl, re, by decide, (fun m h => by cases h), rfl, fun v14 H14 s14 t14 _ => ?_⟩
    refine ⟨(by show 0 ≤ sizeLine; decide), fun l3 hl3 => ⟨(by show 0 ≤ sizeLine; decide), fun l4 hl4 => ⟨(by show 2 ≤ sizeLine; decide), fun t5' ht5' => ?_⟩⟩⟩
    have w1 := Same.upd (o := HO.lst []) hl3
    have w2 := Same.upd (o := HO.lst []) hl4
    have w3 := Same.upd (o := HO.tup [.ref l3, .ref l4]) ht5'
    have tE : Tr _ (.ref t5') (dPast ([], [])) := .tup (upd_same (H := upd (upd H14 l3 (.lst [])) l4 (.lst [])) (o := HO.tup [.ref l3, .ref l4])) (.cons (.lst (w3 _ _ (w2 _ _ upd_same)) .nil) (.cons (.lst (w3 _ _ upd_same) .nil) .nil))
    exact ⟨dPast ([], []), dPast ([], []), ((t14.same off_sub).same (w1.trans (w2.trans w3))).dt, tE.dt, rfl, rfl, k _⟩
end
theorem all_mk {l : PySem.W.OpenLaw} {w : World} {K : PySem.W.Frag} {h : Heap} {mg : Str → Option Value} {fa : Addr} (X : K.In h) (G : h.Ns mainGlobals mg) (hfa : mg "law" = some (.ref fa))
    {f0 : Addr} {od0 an0 : Option Addr} {sl0 : Array (Option Value)} {oc0 kV0 dc0 pm0 cd0 ct0 : Value}
    (a0 : PySem.W.nsIn K mainGlobals "is_written_number" = some (some (.ref f0))) (l0 : K.lookup f0 = some ⟨oc0, od0, .func (PySem.W.fnOf "is_written_number" "is_written_number" (defArgs s_iswrittennumber) (defBody s_iswrittennumber) (defScope s_iswrittennumber) .none kV0 dc0 pm0 an0 cd0 ct0), sl0⟩) (c0 : PySem.W.codeIn K cd0 "is_written_number" = true) (k0 : PySem.W.keepIn K (.ref f0) = true)
    {f1 : Addr} {od1 an1 : Option Addr} {sl1 : Array (Option Value)} {oc1 kV1 dc1 pm1 cd1 ct1 : Value}
    (a1 : PySem.W.nsIn K mainGlobals "number_of" = some (some (.ref f1))) (l1 : K.lookup f1 = some ⟨oc1, od1, .func (PySem.W.fnOf "number_of" "number_of" (defArgs s_numberof) (defBody s_numberof) (defScope s_numberof) .none kV1 dc1 pm1 an1 cd1 ct1), sl1⟩) (c1 : PySem.W.codeIn K cd1 "number_of" = true) (k1 : PySem.W.keepIn K (.ref f1) = true)
    {f2 : Addr} {od2 an2 : Option Addr} {sl2 : Array (Option Value)} {oc2 kV2 dc2 pm2 cd2 ct2 : Value}
    (a2 : PySem.W.nsIn K mainGlobals "written" = some (some (.ref f2))) (l2 : K.lookup f2 = some ⟨oc2, od2, .func (PySem.W.fnOf "written" "written" (defArgs s_written) (defBody s_written) (defScope s_written) .none kV2 dc2 pm2 an2 cd2 ct2), sl2⟩) (c2 : PySem.W.codeIn K cd2 "written" = true) (k2 : PySem.W.keepIn K (.ref f2) = true)
    {f3 : Addr} {od3 an3 : Option Addr} {sl3 : Array (Option Value)} {oc3 kV3 dc3 pm3 cd3 ct3 : Value}
    (a3 : PySem.W.nsIn K mainGlobals "is_level" = some (some (.ref f3))) (l3 : K.lookup f3 = some ⟨oc3, od3, .func (PySem.W.fnOf "is_level" "is_level" (defArgs s_islevel) (defBody s_islevel) (defScope s_islevel) .none kV3 dc3 pm3 an3 cd3 ct3), sl3⟩) (c3 : PySem.W.codeIn K cd3 "is_level" = true) (k3 : PySem.W.keepIn K (.ref f3) = true)
    {f4 : Addr} {od4 an4 : Option Addr} {sl4 : Array (Option Value)} {oc4 kV4 dc4 pm4 cd4 ct4 : Value}
    (a4 : PySem.W.nsIn K mainGlobals "show_pair" = some (some (.ref f4))) (l4 : K.lookup f4 = some ⟨oc4, od4, .func (PySem.W.fnOf "show_pair" "show_pair" (defArgs s_showpair) (defBody s_showpair) (defScope s_showpair) .none kV4 dc4 pm4 an4 cd4 ct4), sl4⟩) (c4 : PySem.W.codeIn K cd4 "show_pair" = true) (k4 : PySem.W.keepIn K (.ref f4) = true)
    {f5 : Addr} {od5 an5 : Option Addr} {sl5 : Array (Option Value)} {oc5 kV5 dc5 pm5 cd5 ct5 : Value}
    (a5 : PySem.W.nsIn K mainGlobals "show_look" = some (some (.ref f5))) (l5 : K.lookup f5 = some ⟨oc5, od5, .func (PySem.W.fnOf "show_look" "show_look" (defArgs s_showlook) (defBody s_showlook) (defScope s_showlook) .none kV5 dc5 pm5 an5 cd5 ct5), sl5⟩) (c5 : PySem.W.codeIn K cd5 "show_look" = true) (k5 : PySem.W.keepIn K (.ref f5) = true)
    {f6 : Addr} {od6 an6 : Option Addr} {sl6 : Array (Option Value)} {oc6 kV6 dc6 pm6 cd6 ct6 : Value}
    (a6 : PySem.W.nsIn K mainGlobals "show_deal" = some (some (.ref f6))) (l6 : K.lookup f6 = some ⟨oc6, od6, .func (PySem.W.fnOf "show_deal" "show_deal" (defArgs s_showdeal) (defBody s_showdeal) (defScope s_showdeal) .none kV6 dc6 pm6 an6 cd6 ct6), sl6⟩) (c6 : PySem.W.codeIn K cd6 "show_deal" = true) (k6 : PySem.W.keepIn K (.ref f6) = true)
    {f7 : Addr} {od7 an7 : Option Addr} {sl7 : Array (Option Value)} {oc7 kV7 dc7 pm7 cd7 ct7 : Value}
    (a7 : PySem.W.nsIn K mainGlobals "show_make" = some (some (.ref f7))) (l7 : K.lookup f7 = some ⟨oc7, od7, .func (PySem.W.fnOf "show_make" "show_make" (defArgs s_showmake) (defBody s_showmake) (defScope s_showmake) .none kV7 dc7 pm7 an7 cd7 ct7), sl7⟩) (c7 : PySem.W.codeIn K cd7 "show_make" = true) (k7 : PySem.W.keepIn K (.ref f7) = true)
    {f8 : Addr} {od8 an8 : Option Addr} {sl8 : Array (Option Value)} {oc8 kV8 dc8 pm8 cd8 ct8 : Value}
    (a8 : PySem.W.nsIn K mainGlobals "show_history" = some (some (.ref f8))) (l8 : K.lookup f8 = some ⟨oc8, od8, .func (PySem.W.fnOf "show_history" "show_history" (defArgs s_showhistory) (defBody s_showhistory) (defScope s_showhistory) .none kV8 dc8 pm8 an8 cd8 ct8), sl8⟩) (c8 : PySem.W.codeIn K cd8 "show_history" = true) (k8 : PySem.W.keepIn K (.ref f8) = true)
    {f9 : Addr} {od9 an9 : Option Addr} {sl9 : Array (Option Value)} {oc9 kV9 dc9 pm9 cd9 ct9 : Value}
    (a9 : PySem.W.nsIn K mainGlobals "read_pair" = some (some (.ref f9))) (l9 : K.lookup f9 = some ⟨oc9, od9, .func (PySem.W.fnOf "read_pair" "read_pair" (defArgs s_readpair) (defBody s_readpair) (defScope s_readpair) .none kV9 dc9 pm9 an9 cd9 ct9), sl9⟩) (c9 : PySem.W.codeIn K cd9 "read_pair" = true) (k9 : PySem.W.keepIn K (.ref f9) = true)
    {f10 : Addr} {od10 an10 : Option Addr} {sl10 : Array (Option Value)} {oc10 kV10 dc10 pm10 cd10 ct10 : Value}
    (a10 : PySem.W.nsIn K mainGlobals "read_look" = some (some (.ref f10))) (l10 : K.lookup f10 = some ⟨oc10, od10, .func (PySem.W.fnOf "read_look" "read_look" (defArgs s_readlook) (defBody s_readlook) (defScope s_readlook) .none kV10 dc10 pm10 an10 cd10 ct10), sl10⟩) (c10 : PySem.W.codeIn K cd10 "read_look" = true) (k10 : PySem.W.keepIn K (.ref f10) = true)
    {f11 : Addr} {od11 an11 : Option Addr} {sl11 : Array (Option Value)} {oc11 kV11 dc11 pm11 cd11 ct11 : Value}
    (a11 : PySem.W.nsIn K mainGlobals "read_deal" = some (some (.ref f11))) (l11 : K.lookup f11 = some ⟨oc11, od11, .func (PySem.W.fnOf "read_deal" "read_deal" (defArgs s_readdeal) (defBody s_readdeal) (defScope s_readdeal) .none kV11 dc11 pm11 an11 cd11 ct11), sl11⟩) (c11 : PySem.W.codeIn K cd11 "read_deal" = true) (k11 : PySem.W.keepIn K (.ref f11) = true)
    {f12 : Addr} {od12 an12 : Option Addr} {sl12 : Array (Option Value)} {oc12 kV12 dc12 pm12 cd12 ct12 : Value}
    (a12 : PySem.W.nsIn K mainGlobals "read_make" = some (some (.ref f12))) (l12 : K.lookup f12 = some ⟨oc12, od12, .func (PySem.W.fnOf "read_make" "read_make" (defArgs s_readmake) (defBody s_readmake) (defScope s_readmake) .none kV12 dc12 pm12 an12 cd12 ct12), sl12⟩) (c12 : PySem.W.codeIn K cd12 "read_make" = true) (k12 : PySem.W.keepIn K (.ref f12) = true)
    {f13 : Addr} {od13 an13 : Option Addr} {sl13 : Array (Option Value)} {oc13 kV13 dc13 pm13 cd13 ct13 : Value}
    (a13 : PySem.W.nsIn K mainGlobals "read_rows" = some (some (.ref f13))) (l13 : K.lookup f13 = some ⟨oc13, od13, .func (PySem.W.fnOf "read_rows" "read_rows" (defArgs s_readrows) (defBody s_readrows) (defScope s_readrows) .none kV13 dc13 pm13 an13 cd13 ct13), sl13⟩) (c13 : PySem.W.codeIn K cd13 "read_rows" = true) (k13 : PySem.W.keepIn K (.ref f13) = true)
    {f14 : Addr} {od14 an14 : Option Addr} {sl14 : Array (Option Value)} {oc14 kV14 dc14 pm14 cd14 ct14 : Value}
    (a14 : PySem.W.nsIn K mainGlobals "rise" = some (some (.ref f14))) (l14 : K.lookup f14 = some ⟨oc14, od14, .func (PySem.W.fnOf "rise" "rise" (defArgs s_rise) (defBody s_rise) (defScope s_rise) .none kV14 dc14 pm14 an14 cd14 ct14), sl14⟩) (c14 : PySem.W.codeIn K cd14 "rise" = true) (k14 : PySem.W.keepIn K (.ref f14) = true)
    {f15 : Addr} {od15 an15 : Option Addr} {sl15 : Array (Option Value)} {oc15 kV15 dc15 pm15 cd15 ct15 : Value}
    (a15 : PySem.W.nsIn K mainGlobals "is_source" = some (some (.ref f15))) (l15 : K.lookup f15 = some ⟨oc15, od15, .func (PySem.W.fnOf "is_source" "is_source" (defArgs s_issource) (defBody s_issource) (defScope s_issource) .none kV15 dc15 pm15 an15 cd15 ct15), sl15⟩) (c15 : PySem.W.codeIn K cd15 "is_source" = true) (k15 : PySem.W.keepIn K (.ref f15) = true)
    {f16 : Addr} {od16 an16 : Option Addr} {sl16 : Array (Option Value)} {oc16 kV16 dc16 pm16 cd16 ct16 : Value}
    (a16 : PySem.W.nsIn K mainGlobals "is_look" = some (some (.ref f16))) (l16 : K.lookup f16 = some ⟨oc16, od16, .func (PySem.W.fnOf "is_look" "is_look" (defArgs s_islook) (defBody s_islook) (defScope s_islook) .none kV16 dc16 pm16 an16 cd16 ct16), sl16⟩) (c16 : PySem.W.codeIn K cd16 "is_look" = true) (k16 : PySem.W.keepIn K (.ref f16) = true)
    {f17 : Addr} {od17 an17 : Option Addr} {sl17 : Array (Option Value)} {oc17 kV17 dc17 pm17 cd17 ct17 : Value}
    (a17 : PySem.W.nsIn K mainGlobals "is_deal" = some (some (.ref f17))) (l17 : K.lookup f17 = some ⟨oc17, od17, .func (PySem.W.fnOf "is_deal" "is_deal" (defArgs s_isdeal) (defBody s_isdeal) (defScope s_isdeal) .none kV17 dc17 pm17 an17 cd17 ct17), sl17⟩) (c17 : PySem.W.codeIn K cd17 "is_deal" = true) (k17 : PySem.W.keepIn K (.ref f17) = true)
    {f18 : Addr} {od18 an18 : Option Addr} {sl18 : Array (Option Value)} {oc18 kV18 dc18 pm18 cd18 ct18 : Value}
    (a18 : PySem.W.nsIn K mainGlobals "is_make" = some (some (.ref f18))) (l18 : K.lookup f18 = some ⟨oc18, od18, .func (PySem.W.fnOf "is_make" "is_make" (defArgs s_ismake) (defBody s_ismake) (defScope s_ismake) .none kV18 dc18 pm18 an18 cd18 ct18), sl18⟩) (c18 : PySem.W.codeIn K cd18 "is_make" = true) (k18 : PySem.W.keepIn K (.ref f18) = true)
    {f19 : Addr} {od19 an19 : Option Addr} {sl19 : Array (Option Value)} {oc19 kV19 dc19 pm19 cd19 ct19 : Value}
    (a19 : PySem.W.nsIn K mainGlobals "is_history" = some (some (.ref f19))) (l19 : K.lookup f19 = some ⟨oc19, od19, .func (PySem.W.fnOf "is_history" "is_history" (defArgs s_ishistory) (defBody s_ishistory) (defScope s_ishistory) .none kV19 dc19 pm19 an19 cd19 ct19), sl19⟩) (c19 : PySem.W.codeIn K cd19 "is_history" = true) (k19 : PySem.W.keepIn K (.ref f19) = true)
    {f20 : Addr} {od20 an20 : Option Addr} {sl20 : Array (Option Value)} {oc20 kV20 dc20 pm20 cd20 ct20 : Value}
    (a20 : PySem.W.nsIn K mainGlobals "read_history" = some (some (.ref f20))) (l20 : K.lookup f20 = some ⟨oc20, od20, .func (PySem.W.fnOf "read_history" "read_history" (defArgs s_readhistory) (defBody s_readhistory) (defScope s_readhistory) .none kV20 dc20 pm20 an20 cd20 ct20), sl20⟩) (c20 : PySem.W.codeIn K cd20 "read_history" = true) (k20 : PySem.W.keepIn K (.ref f20) = true)
    {f21 : Addr} {od21 an21 : Option Addr} {sl21 : Array (Option Value)} {oc21 kV21 dc21 pm21 cd21 ct21 : Value}
    (a21 : PySem.W.nsIn K mainGlobals "_law_mixed" = some (some (.ref f21))) (l21 : K.lookup f21 = some ⟨oc21, od21, .func (PySem.W.fnOf "_law_mixed" "_law_mixed" (defArgs s_Lmixed) (defBody s_Lmixed) (defScope s_Lmixed) .none kV21 dc21 pm21 an21 cd21 ct21), sl21⟩) (c21 : PySem.W.codeIn K cd21 "_law_mixed" = true) (k21 : PySem.W.keepIn K (.ref f21) = true)
    {f22 : Addr} {od22 an22 : Option Addr} {sl22 : Array (Option Value)} {oc22 kV22 dc22 pm22 cd22 ct22 : Value}
    (a22 : PySem.W.nsIn K mainGlobals "_law_cell" = some (some (.ref f22))) (l22 : K.lookup f22 = some ⟨oc22, od22, .func (PySem.W.fnOf "_law_cell" "_law_cell" (defArgs s_Lcell) (defBody s_Lcell) (defScope s_Lcell) .none kV22 dc22 pm22 an22 cd22 ct22), sl22⟩) (c22 : PySem.W.codeIn K cd22 "_law_cell" = true) (k22 : PySem.W.keepIn K (.ref f22) = true)
    {f23 : Addr} {od23 an23 : Option Addr} {sl23 : Array (Option Value)} {oc23 kV23 dc23 pm23 cd23 ct23 : Value}
    (a23 : PySem.W.nsIn K mainGlobals "_law_spots" = some (some (.ref f23))) (l23 : K.lookup f23 = some ⟨oc23, od23, .func (PySem.W.fnOf "_law_spots" "_law_spots" (defArgs s_Lspots) (defBody s_Lspots) (defScope s_Lspots) .none kV23 dc23 pm23 an23 cd23 ct23), sl23⟩) (c23 : PySem.W.codeIn K cd23 "_law_spots" = true) (k23 : PySem.W.keepIn K (.ref f23) = true)
    {f24 : Addr} {od24 an24 : Option Addr} {sl24 : Array (Option Value)} {oc24 kV24 dc24 pm24 cd24 ct24 : Value}
    (a24 : PySem.W.nsIn K mainGlobals "_law_place" = some (some (.ref f24))) (l24 : K.lookup f24 = some ⟨oc24, od24, .func (PySem.W.fnOf "_law_place" "_law_place" (defArgs s_Lplace) (defBody s_Lplace) (defScope s_Lplace) .none kV24 dc24 pm24 an24 cd24 ct24), sl24⟩) (c24 : PySem.W.codeIn K cd24 "_law_place" = true) (k24 : PySem.W.keepIn K (.ref f24) = true)
    {f25 : Addr} {od25 an25 : Option Addr} {sl25 : Array (Option Value)} {oc25 kV25 dc25 pm25 cd25 ct25 : Value}
    (a25 : PySem.W.nsIn K mainGlobals "_law_first" = some (some (.ref f25))) (l25 : K.lookup f25 = some ⟨oc25, od25, .func (PySem.W.fnOf "_law_first" "_law_first" (defArgs s_Lfirst) (defBody s_Lfirst) (defScope s_Lfirst) .none kV25 dc25 pm25 an25 cd25 ct25), sl25⟩) (c25 : PySem.W.codeIn K cd25 "_law_first" = true) (k25 : PySem.W.keepIn K (.ref f25) = true)
    {f26 : Addr} {od26 an26 : Option Addr} {sl26 : Array (Option Value)} {oc26 kV26 dc26 pm26 cd26 ct26 : Value}
    (a26 : PySem.W.nsIn K mainGlobals "_law_drawn_deals" = some (some (.ref f26))) (l26 : K.lookup f26 = some ⟨oc26, od26, .func (PySem.W.fnOf "_law_drawn_deals" "_law_drawn_deals" (defArgs s_Ldrawndeals) (defBody s_Ldrawndeals) (defScope s_Ldrawndeals) .none kV26 dc26 pm26 an26 cd26 ct26), sl26⟩) (c26 : PySem.W.codeIn K cd26 "_law_drawn_deals" = true) (k26 : PySem.W.keepIn K (.ref f26) = true)
    {f27 : Addr} {od27 an27 : Option Addr} {sl27 : Array (Option Value)} {oc27 kV27 dc27 pm27 cd27 ct27 : Value}
    (a27 : PySem.W.nsIn K mainGlobals "_law_drawn_order" = some (some (.ref f27))) (l27 : K.lookup f27 = some ⟨oc27, od27, .func (PySem.W.fnOf "_law_drawn_order" "_law_drawn_order" (defArgs s_Ldrawnorder) (defBody s_Ldrawnorder) (defScope s_Ldrawnorder) .none kV27 dc27 pm27 an27 cd27 ct27), sl27⟩) (c27 : PySem.W.codeIn K cd27 "_law_drawn_order" = true) (k27 : PySem.W.keepIn K (.ref f27) = true)
    {f28 : Addr} {od28 an28 : Option Addr} {sl28 : Array (Option Value)} {oc28 kV28 dc28 pm28 cd28 ct28 : Value}
    (a28 : PySem.W.nsIn K mainGlobals "_law_keys" = some (some (.ref f28))) (l28 : K.lookup f28 = some ⟨oc28, od28, .func (PySem.W.fnOf "_law_keys" "_law_keys" (defArgs s_Lkeys) (defBody s_Lkeys) (defScope s_Lkeys) .none kV28 dc28 pm28 an28 cd28 ct28), sl28⟩) (c28 : PySem.W.codeIn K cd28 "_law_keys" = true) (k28 : PySem.W.keepIn K (.ref f28) = true)
    {f29 : Addr} {od29 an29 : Option Addr} {sl29 : Array (Option Value)} {oc29 kV29 dc29 pm29 cd29 ct29 : Value}
    (a29 : PySem.W.nsIn K mainGlobals "_law_look" = some (some (.ref f29))) (l29 : K.lookup f29 = some ⟨oc29, od29, .func (PySem.W.fnOf "_law_look" "_law_look" (defArgs s_Llook) (defBody s_Llook) (defScope s_Llook) .none kV29 dc29 pm29 an29 cd29 ct29), sl29⟩) (c29 : PySem.W.codeIn K cd29 "_law_look" = true) (k29 : PySem.W.keepIn K (.ref f29) = true)
    {f30 : Addr} {od30 an30 : Option Addr} {sl30 : Array (Option Value)} {oc30 kV30 dc30 pm30 cd30 ct30 : Value}
    (a30 : PySem.W.nsIn K mainGlobals "_law_kept" = some (some (.ref f30))) (l30 : K.lookup f30 = some ⟨oc30, od30, .func (PySem.W.fnOf "_law_kept" "_law_kept" (defArgs s_Lkept) (defBody s_Lkept) (defScope s_Lkept) .none kV30 dc30 pm30 an30 cd30 ct30), sl30⟩) (c30 : PySem.W.codeIn K cd30 "_law_kept" = true) (k30 : PySem.W.keepIn K (.ref f30) = true)
    {f31 : Addr} {od31 an31 : Option Addr} {sl31 : Array (Option Value)} {oc31 kV31 dc31 pm31 cd31 ct31 : Value}
    (a31 : PySem.W.nsIn K mainGlobals "_law_past" = some (some (.ref f31))) (l31 : K.lookup f31 = some ⟨oc31, od31, .func (PySem.W.fnOf "_law_past" "_law_past" (defArgs s_Lpast) (defBody s_Lpast) (defScope s_Lpast) .none kV31 dc31 pm31 an31 cd31 ct31), sl31⟩) (c31 : PySem.W.codeIn K cd31 "_law_past" = true) (k31 : PySem.W.keepIn K (.ref f31) = true)
    {f32 : Addr} {od32 an32 : Option Addr} {sl32 : Array (Option Value)} {oc32 kV32 dc32 pm32 cd32 ct32 : Value}
    (a32 : PySem.W.nsIn K mainGlobals "_law_same" = some (some (.ref f32))) (l32 : K.lookup f32 = some ⟨oc32, od32, .func (PySem.W.fnOf "_law_same" "_law_same" (defArgs s_Lsame) (defBody s_Lsame) (defScope s_Lsame) .none kV32 dc32 pm32 an32 cd32 ct32), sl32⟩) (c32 : PySem.W.codeIn K cd32 "_law_same" = true) (k32 : PySem.W.keepIn K (.ref f32) = true)
    {f33 : Addr} {od33 an33 : Option Addr} {sl33 : Array (Option Value)} {oc33 kV33 dc33 pm33 cd33 ct33 : Value}
    (a33 : PySem.W.nsIn K mainGlobals "_law_copied" = some (some (.ref f33))) (l33 : K.lookup f33 = some ⟨oc33, od33, .func (PySem.W.fnOf "_law_copied" "_law_copied" (defArgs s_Lcopied) (defBody s_Lcopied) (defScope s_Lcopied) .none kV33 dc33 pm33 an33 cd33 ct33), sl33⟩) (c33 : PySem.W.codeIn K cd33 "_law_copied" = true) (k33 : PySem.W.keepIn K (.ref f33) = true)
    {f34 : Addr} {od34 an34 : Option Addr} {sl34 : Array (Option Value)} {oc34 kV34 dc34 pm34 cd34 ct34 : Value}
    (a34 : PySem.W.nsIn K mainGlobals "_law_pair" = some (some (.ref f34))) (l34 : K.lookup f34 = some ⟨oc34, od34, .func (PySem.W.fnOf "_law_pair" "_law_pair" (defArgs s_Lpair) (defBody s_Lpair) (defScope s_Lpair) .none kV34 dc34 pm34 an34 cd34 ct34), sl34⟩) (c34 : PySem.W.codeIn K cd34 "_law_pair" = true) (k34 : PySem.W.keepIn K (.ref f34) = true)
    {f35 : Addr} {od35 an35 : Option Addr} {sl35 : Array (Option Value)} {oc35 kV35 dc35 pm35 cd35 ct35 : Value}
    (a35 : PySem.W.nsIn K mainGlobals "_law_text" = some (some (.ref f35))) (l35 : K.lookup f35 = some ⟨oc35, od35, .func (PySem.W.fnOf "_law_text" "_law_text" (defArgs s_Ltext) (defBody s_Ltext) (defScope s_Ltext) .none kV35 dc35 pm35 an35 cd35 ct35), sl35⟩) (c35 : PySem.W.codeIn K cd35 "_law_text" = true) (k35 : PySem.W.keepIn K (.ref f35) = true)
    {f36 : Addr} {od36 an36 : Option Addr} {sl36 : Array (Option Value)} {oc36 kV36 dc36 pm36 cd36 ct36 : Value}
    (a36 : PySem.W.nsIn K mainGlobals "law" = some (some (.ref f36))) (l36 : K.lookup f36 = some ⟨oc36, od36, .func (PySem.W.fnOf "law" "law" (defArgs s_law) (defBody s_law) (defScope s_law) .none kV36 dc36 pm36 an36 cd36 ct36), sl36⟩) (c36 : PySem.W.codeIn K cd36 "law" = true) (k36 : PySem.W.keepIn K (.ref f36) = true)
    {ct100 : Tok} (n0 : PySem.W.nsIn K mainGlobals "FIGURES" = some (some (.str "0123456789" ct100)))
    {ct101 : Tok} (n1 : PySem.W.nsIn K mainGlobals "MOST_FIGURES" = some (some (.int (30) ct101)))
    {ca2 : Addr} {cd102 : Option Addr} {cs2 : Array (Option Value)} {cn2 : Nat} {cx2_0 cx2_1 cx2_2 cx2_3 cx2_4 : Tok} (n2 : PySem.W.nsIn K mainGlobals "LEVEL_WORDS" = some (some (.ref ca2))) (q2 : K.lookup ca2 = some ⟨.type "tuple", cd102, .seq #[.str "loose" cx2_0, .str "kept" cx2_1, .str "make" cx2_2, .str "watch" cx2_3, .str "hold" cx2_4] cn2, cs2⟩)
    {ct103 : Tok} (n3 : PySem.W.nsIn K mainGlobals "START" = some (some (.int (0) ct103)))
    {ct104 : Tok} (n4 : PySem.W.nsIn K mainGlobals "UNKEPT" = some (some (.int (-1) ct104)))
    {ct105 : Tok} (n5 : PySem.W.nsIn K mainGlobals "MOST_DEALS" = some (some (.int (8) ct105)))
    (z_abs : PySem.W.nsIn K mainGlobals "abs" = some none)
    (z_all : PySem.W.nsIn K mainGlobals "all" = some none)
    (z_bool : PySem.W.nsIn K mainGlobals "bool" = some none)
    (z_dict : PySem.W.nsIn K mainGlobals "dict" = some none)
    (z_int : PySem.W.nsIn K mainGlobals "int" = some none)
    (z_isinstance : PySem.W.nsIn K mainGlobals "isinstance" = some none)
    (z_len : PySem.W.nsIn K mainGlobals "len" = some none)
    (z_list : PySem.W.nsIn K mainGlobals "list" = some none)
    (z_range : PySem.W.nsIn K mainGlobals "range" = some none)
    (z_reversed : PySem.W.nsIn K mainGlobals "reversed" = some none)
    (z_set : PySem.W.nsIn K mainGlobals "set" = some none)
    (z_str : PySem.W.nsIn K mainGlobals "str" = some none)
    (z_tuple : PySem.W.nsIn K mainGlobals "tuple" = some none)
    (z_zip : PySem.W.nsIn K mainGlobals "zip" = some none)
    : ∃ fd : FuncData, (∀ (s : Shared) (v : Value), BindsTo s fd ⟨[v], []⟩ [("_law_script", v)]) ∧ ∀ base : Heap, K.In base → base.Ns mainGlobals mg → FnOk l.prog w K mg base CX0 9 fa fd ["_law_script"] (spLaw K) := by
  have e := hfa.symm.trans (PySem.W.mg_of X G a36)
  cases e
  let T : Tx K mg := {
    f_iswrittennumber := f0
    d_iswrittennumber := _
    F_iswrittennumber := fun_mk (st := s_iswrittennumber) l0 c0 k0
    b_iswrittennumber := (fun_mk (st := s_iswrittennumber) l0 c0 k0).binds (ps := ["text"]) fun _ _ _ _ _ _ us hl => by obtain ⟨_, rfl⟩ := My.us1 hl; rfl
    m_iswrittennumber := PySem.W.mg_of X G a0
    f_numberof := f1
    d_numberof := _
    F_numberof := fun_mk (st := s_numberof) l1 c1 k1
    b_numberof := (fun_mk (st := s_numberof) l1 c1 k1).binds (ps := ["text"]) fun _ _ _ _ _ _ us hl => by obtain ⟨_, rfl⟩ := My.us1 hl; rfl
    m_numberof := PySem.W.mg_of X G a1
    f_written := f2
    d_written := _
    F_written := fun_mk (st := s_written) l2 c2 k2
    b_written := (fun_mk (st := s_written) l2 c2 k2).binds (ps := ["number"]) fun _ _ _ _ _ _ us hl => by obtain ⟨_, rfl⟩ := My.us1 hl; rfl
    m_written := PySem.W.mg_of X G a2
    f_islevel := f3
    d_islevel := _
    F_islevel := fun_mk (st := s_islevel) l3 c3 k3
    b_islevel := (fun_mk (st := s_islevel) l3 c3 k3).binds (ps := ["word"]) fun _ _ _ _ _ _ us hl => by obtain ⟨_, rfl⟩ := My.us1 hl; rfl
    m_islevel := PySem.W.mg_of X G a3
    f_showpair := f4
    d_showpair := _
    F_showpair := fun_mk (st := s_showpair) l4 c4 k4
    b_showpair := (fun_mk (st := s_showpair) l4 c4 k4).binds (ps := ["pair"]) fun _ _ _ _ _ _ us hl => by obtain ⟨_, rfl⟩ := My.us1 hl; rfl
    m_showpair := PySem.W.mg_of X G a4
    f_showlook := f5
    d_showlook := _
    F_showlook := fun_mk (st := s_showlook) l5 c5 k5
    b_showlook := (fun_mk (st := s_showlook) l5 c5 k5).binds (ps := ["look"]) fun _ _ _ _ _ _ us hl => by obtain ⟨_, rfl⟩ := My.us1 hl; rfl
    m_showlook := PySem.W.mg_of X G a5
    f_showdeal := f6
    d_showdeal := _
    F_showdeal := fun_mk (st := s_showdeal) l6 c6 k6
    b_showdeal := (fun_mk (st := s_showdeal) l6 c6 k6).binds (ps := ["deal"]) fun _ _ _ _ _ _ us hl => by obtain ⟨_, rfl⟩ := My.us1 hl; rfl
    m_showdeal := PySem.W.mg_of X G a6
    f_showmake := f7
    d_showmake := _
    F_showmake := fun_mk (st := s_showmake) l7 c7 k7
    b_showmake := (fun_mk (st := s_showmake) l7 c7 k7).binds (ps := ["made"]) fun _ _ _ _ _ _ us hl => by obtain ⟨_, rfl⟩ := My.us1 hl; rfl
    m_showmake := PySem.W.mg_of X G a7
    f_showhistory := f8
    d_showhistory := _
    F_showhistory := fun_mk (st := s_showhistory) l8 c8 k8
    b_showhistory := (fun_mk (st := s_showhistory) l8 c8 k8).binds (ps := ["past"]) fun _ _ _ _ _ _ us hl => by obtain ⟨_, rfl⟩ := My.us1 hl; rfl
    m_showhistory := PySem.W.mg_of X G a8
    f_readpair := f9
    d_readpair := _
    F_readpair := fun_mk (st := s_readpair) l9 c9 k9
    b_readpair := (fun_mk (st := s_readpair) l9 c9 k9).binds (ps := ["text"]) fun _ _ _ _ _ _ us hl => by obtain ⟨_, rfl⟩ := My.us1 hl; rfl
    m_readpair := PySem.W.mg_of X G a9
    f_readlook := f10
    d_readlook := _
    F_readlook := fun_mk (st := s_readlook) l10 c10 k10
    b_readlook := (fun_mk (st := s_readlook) l10 c10 k10).binds (ps := ["text"]) fun _ _ _ _ _ _ us hl => by obtain ⟨_, rfl⟩ := My.us1 hl; rfl
    m_readlook := PySem.W.mg_of X G a10
    f_readdeal := f11
    d_readdeal := _
    F_readdeal := fun_mk (st := s_readdeal) l11 c11 k11
    b_readdeal := (fun_mk (st := s_readdeal) l11 c11 k11).binds (ps := ["row"]) fun _ _ _ _ _ _ us hl => by obtain ⟨_, rfl⟩ := My.us1 hl; rfl
    m_readdeal := PySem.W.mg_of X G a11
    f_readmake := f12
    d_readmake := _
    F_readmake := fun_mk (st := s_readmake) l12 c12 k12
    b_readmake := (fun_mk (st := s_readmake) l12 c12 k12).binds (ps := ["row"]) fun _ _ _ _ _ _ us hl => by obtain ⟨_, rfl⟩ := My.us1 hl; rfl
    m_readmake := PySem.W.mg_of X G a12
    f_readrows := f13
    d_readrows := _
    F_readrows := fun_mk (st := s_readrows) l13 c13 k13
    b_readrows := (fun_mk (st := s_readrows) l13 c13 k13).binds (ps := ["text"]) fun _ _ _ _ _ _ us hl => by obtain ⟨_, rfl⟩ := My.us1 hl; rfl
    m_readrows := PySem.W.mg_of X G a13
    f_rise := f14
    d_rise := _
    F_rise := fun_mk (st := s_rise) l14 c14 k14
    b_rise := (fun_mk (st := s_rise) l14 c14 k14).binds (ps := ["numbers"]) fun _ _ _ _ _ _ us hl => by obtain ⟨_, rfl⟩ := My.us1 hl; rfl
    m_rise := PySem.W.mg_of X G a14
    f_issource := f15
    d_issource := _
    F_issource := fun_mk (st := s_issource) l15 c15 k15
    b_issource := (fun_mk (st := s_issource) l15 c15 k15).binds (ps := ["source", "key", "number", "makers"]) fun _ _ _ _ _ _ us hl => by obtain ⟨_, _, _, _, rfl⟩ := My.us4 hl; rfl
    m_issource := PySem.W.mg_of X G a15
    f_islook := f16
    d_islook := _
    F_islook := fun_mk (st := s_islook) l16 c16 k16
    b_islook := (fun_mk (st := s_islook) l16 c16 k16).binds (ps := ["look", "number", "makers"]) fun _ _ _ _ _ _ us hl => by obtain ⟨_, _, _, rfl⟩ := My.us3 hl; rfl
    m_islook := PySem.W.mg_of X G a16
    f_isdeal := f17
    d_isdeal := _
    F_isdeal := fun_mk (st := s_isdeal) l17 c17 k17
    b_isdeal := (fun_mk (st := s_isdeal) l17 c17 k17).binds (ps := ["deal", "makers"]) fun _ _ _ _ _ _ us hl => by obtain ⟨_, _, rfl⟩ := My.us2 hl; rfl
    m_isdeal := PySem.W.mg_of X G a17
    f_ismake := f18
    d_ismake := _
    F_ismake := fun_mk (st := s_ismake) l18 c18 k18
    b_ismake := (fun_mk (st := s_ismake) l18 c18 k18).binds (ps := ["made", "numbers"]) fun _ _ _ _ _ _ us hl => by obtain ⟨_, _, rfl⟩ := My.us2 hl; rfl
    m_ismake := PySem.W.mg_of X G a18
    f_ishistory := f19
    d_ishistory := _
    F_ishistory := fun_mk (st := s_ishistory) l19 c19 k19
    b_ishistory := (fun_mk (st := s_ishistory) l19 c19 k19).binds (ps := ["past"]) fun _ _ _ _ _ _ us hl => by obtain ⟨_, rfl⟩ := My.us1 hl; rfl
    m_ishistory := PySem.W.mg_of X G a19
    f_readhistory := f20
    d_readhistory := _
    F_readhistory := fun_mk (st := s_readhistory) l20 c20 k20
    b_readhistory := (fun_mk (st := s_readhistory) l20 c20 k20).binds (ps := ["text"]) fun _ _ _ _ _ _ us hl => by obtain ⟨_, rfl⟩ := My.us1 hl; rfl
    m_readhistory := PySem.W.mg_of X G a20
    f_Lmixed := f21
    d_Lmixed := _
    F_Lmixed := fun_mk (st := s_Lmixed) l21 c21 k21
    b_Lmixed := (fun_mk (st := s_Lmixed) l21 c21 k21).binds (ps := ["_law_cell_here", "_law_k"]) fun _ _ _ _ _ _ us hl => by obtain ⟨_, _, rfl⟩ := My.us2 hl; rfl
    m_Lmixed := PySem.W.mg_of X G a21
    f_Lcell := f22
    d_Lcell := _
    F_Lcell := fun_mk (st := s_Lcell) l22 c22 k22
    b_Lcell := (fun_mk (st := s_Lcell) l22 c22 k22).binds (ps := ["_law_script", "_law_k"]) fun _ _ _ _ _ _ us hl => by obtain ⟨_, _, rfl⟩ := My.us2 hl; rfl
    m_Lcell := PySem.W.mg_of X G a22
    f_Lspots := f23
    d_Lspots := _
    F_Lspots := fun_mk (st := s_Lspots) l23 c23 k23
    b_Lspots := (fun_mk (st := s_Lspots) l23 c23 k23).binds (ps := ["_law_word", "_law_looks"]) fun _ _ _ _ _ _ us hl => by obtain ⟨_, _, rfl⟩ := My.us2 hl; rfl
    m_Lspots := PySem.W.mg_of X G a23
    f_Lplace := f24
    d_Lplace := _
    F_Lplace := fun_mk (st := s_Lplace) l24 c24 k24
    b_Lplace := (fun_mk (st := s_Lplace) l24 c24 k24).binds (ps := ["_law_word", "_law_k"]) fun _ _ _ _ _ _ us hl => by obtain ⟨_, _, rfl⟩ := My.us2 hl; rfl
    m_Lplace := PySem.W.mg_of X G a24
    f_Lfirst := f25
    d_Lfirst := _
    F_Lfirst := fun_mk (st := s_Lfirst) l25 c25 k25
    b_Lfirst := (fun_mk (st := s_Lfirst) l25 c25 k25).binds (ps := ["_law_word", "_law_looks"]) fun _ _ _ _ _ _ us hl => by obtain ⟨_, _, rfl⟩ := My.us2 hl; rfl
    m_Lfirst := PySem.W.mg_of X G a25
    f_Ldrawndeals := f26
    d_Ldrawndeals := _
    F_Ldrawndeals := fun_mk (st := s_Ldrawndeals) l26 c26 k26
    b_Ldrawndeals := (fun_mk (st := s_Ldrawndeals) l26 c26 k26).binds (ps := ["_law_script", "_law_word"]) fun _ _ _ _ _ _ us hl => by obtain ⟨_, _, rfl⟩ := My.us2 hl; rfl
    m_Ldrawndeals := PySem.W.mg_of X G a26
    f_Ldrawnorder := f27
    d_Ldrawnorder := _
    F_Ldrawnorder := fun_mk (st := s_Ldrawnorder) l27 c27 k27
    b_Ldrawnorder := (fun_mk (st := s_Ldrawnorder) l27 c27 k27).binds (ps := ["_law_script", "_law_deals"]) fun _ _ _ _ _ _ us hl => by obtain ⟨_, _, rfl⟩ := My.us2 hl; rfl
    m_Ldrawnorder := PySem.W.mg_of X G a27
    f_Lkeys := f28
    d_Lkeys := _
    F_Lkeys := fun_mk (st := s_Lkeys) l28 c28 k28
    b_Lkeys := (fun_mk (st := s_Lkeys) l28 c28 k28).binds (ps := ["_law_cell_here"]) fun _ _ _ _ _ _ us hl => by obtain ⟨_, rfl⟩ := My.us1 hl; rfl
    m_Lkeys := PySem.W.mg_of X G a28
    f_Llook := f29
    d_Llook := _
    F_Llook := fun_mk (st := s_Llook) l29 c29 k29
    b_Llook := (fun_mk (st := s_Llook) l29 c29 k29).binds (ps := ["_law_keys_here", "_law_last", "_law_number", "_law_strange"]) fun _ _ _ _ _ _ us hl => by obtain ⟨_, _, _, _, rfl⟩ := My.us4 hl; rfl
    m_Llook := PySem.W.mg_of X G a29
    f_Lkept := f30
    d_Lkept := _
    F_Lkept := fun_mk (st := s_Lkept) l30 c30 k30
    b_Lkept := (fun_mk (st := s_Lkept) l30 c30 k30).binds (ps := ["_law_number", "_law_word", "_law_mask", "_law_state"]) fun _ _ _ _ _ _ us hl => by obtain ⟨_, _, _, _, rfl⟩ := My.us4 hl; rfl
    m_Lkept := PySem.W.mg_of X G a30
    f_Lpast := f31
    d_Lpast := _
    F_Lpast := fun_mk (st := s_Lpast) l31 c31 k31
    b_Lpast := (fun_mk (st := s_Lpast) l31 c31 k31).binds (ps := ["_law_script", "_law_deals", "_law_order"]) fun _ _ _ _ _ _ us hl => by obtain ⟨_, _, _, rfl⟩ := My.us3 hl; rfl
    m_Lpast := PySem.W.mg_of X G a31
    f_Lsame := f32
    d_Lsame := _
    F_Lsame := fun_mk (st := s_Lsame) l32 c32 k32
    b_Lsame := (fun_mk (st := s_Lsame) l32 c32 k32).binds (ps := ["_law_found", "_law_due"]) fun _ _ _ _ _ _ us hl => by obtain ⟨_, _, rfl⟩ := My.us2 hl; rfl
    m_Lsame := PySem.W.mg_of X G a32
    f_Lcopied := f33
    d_Lcopied := _
    F_Lcopied := fun_mk (st := s_Lcopied) l33 c33 k33
    b_Lcopied := (fun_mk (st := s_Lcopied) l33 c33 k33).binds (ps := ["_law_past_here"]) fun _ _ _ _ _ _ us hl => by obtain ⟨_, rfl⟩ := My.us1 hl; rfl
    m_Lcopied := PySem.W.mg_of X G a33
    f_Lpair := f34
    d_Lpair := _
    F_Lpair := fun_mk (st := s_Lpair) l34 c34 k34
    b_Lpair := (fun_mk (st := s_Lpair) l34 c34 k34).binds (ps := ["_law_key", "_law_source"]) fun _ _ _ _ _ _ us hl => by obtain ⟨_, _, rfl⟩ := My.us2 hl; rfl
    m_Lpair := PySem.W.mg_of X G a34
    f_Ltext := f35
    d_Ltext := _
    F_Ltext := fun_mk (st := s_Ltext) l35 c35 k35
    b_Ltext := (fun_mk (st := s_Ltext) l35 c35 k35).binds (ps := ["_law_past_here"]) fun _ _ _ _ _ _ us hl => by obtain ⟨_, rfl⟩ := My.us1 hl; rfl
    m_Ltext := PySem.W.mg_of X G a35
    f_law := fa
    d_law := _
    F_law := fun_mk (st := s_law) l36 c36 k36
    b_law := (fun_mk (st := s_law) l36 c36 k36).binds (ps := ["_law_script"]) fun _ _ _ _ _ _ us hl => by obtain ⟨_, rfl⟩ := My.us1 hl; rfl
    m_law := PySem.W.mg_of X G a36
    t_FIGURES := _
    m_FIGURES := PySem.W.mg_of X G n0
    t_MOST_FIGURES := _
    m_MOST_FIGURES := PySem.W.mg_of X G n1
    a_LEVEL_WORDS := ca2
    m_LEVEL_WORDS := PySem.W.mg_of X G n2
    q_LEVEL_WORDS := fun _ => .inr ⟨_, _, _, q2, rfl, rfl, (by show 5 ≤ sizeLine; decide), (.cons ⟨_, rfl⟩ (.cons ⟨_, rfl⟩ (.cons ⟨_, rfl⟩ (.cons ⟨_, rfl⟩ (.cons ⟨_, rfl⟩ .nil)))))⟩
    t_START := _
    m_START := PySem.W.mg_of X G n3
    t_UNKEPT := _
    m_UNKEPT := PySem.W.mg_of X G n4
    t_MOST_DEALS := _
    m_MOST_DEALS := PySem.W.mg_of X G n5
    z_abs := PySem.W.mg_none_of X G z_abs
    z_all := PySem.W.mg_none_of X G z_all
    z_bool := PySem.W.mg_none_of X G z_bool
    z_dict := PySem.W.mg_none_of X G z_dict
    z_int := PySem.W.mg_none_of X G z_int
    z_isinstance := PySem.W.mg_none_of X G z_isinstance
    z_len := PySem.W.mg_none_of X G z_len
    z_list := PySem.W.mg_none_of X G z_list
    z_range := PySem.W.mg_none_of X G z_range
    z_reversed := PySem.W.mg_none_of X G z_reversed
    z_set := PySem.W.mg_none_of X G z_set
    z_str := PySem.W.mg_none_of X G z_str
    z_tuple := PySem.W.mg_none_of X G z_tuple
    z_zip := PySem.W.mg_none_of X G z_zip }
  exact ⟨PySem.W.fnOf "law" "law" (defArgs s_law) (defBody s_law) (defScope s_law) .none kV36 dc36 pm36 an36 cd36 ct36, fun s v => .of_eq rfl, fun base _ _ => ok_law T⟩
theorem walk {l : PySem.W.OpenLaw} {q : Program} {loose : List Str} {XP : (Str → Option Value) → Heap → Prop} {YP : World → Heap → Prop} {d : DefRec} {K : Params → PySem.W.Frag} (hn : l.most = some 63) (hdf : d.params.defaults = [])
    (hY : ∀ (w : World) (h : Heap), YP w h → (K w.params).In h)
    (F : ∀ (w : World) (mg : Str → Option Value) (fa : Addr) (h : Heap), (K w.params).In h → h.Ns mainGlobals mg → mg d.name = some (.ref fa) →
      ∃ fd : FuncData, (∀ (s : Shared) (u : Value), BindsTo s fd ⟨[u], []⟩ [("_law_script", u)]) ∧ ∀ base : Heap, (K w.params).In base → base.Ns mainGlobals mg → FnOk l.prog w (K w.params) mg base CX0 9 fa fd ["_law_script"] (spLaw (K w.params))) :
    PySem.W.WalkO q loose XP YP l.row.toRowW d [] (fun f vs => PySem.call f vs) :=
  My.walk_ofB (n := 63) (k := 9) (x := "_law_script") (CX := fun _ => CX0) (sp := fun w => spLaw (K w.params)) hn (by decide) hdf ⟨rfl, by decide, by decide⟩ hY F (fun _ _ a ns hl hb _ hS => ⟨a, ns, rfl, hS, hl, hb, fun _ => rfl⟩) fun _ _ _ _ _ z => z
end Lw
open PySem PySem.W PyProof.Rows
set_option maxRecDepth 100000 in
set_option maxHeartbeats 0 in
theorem PySem.Challenge.cw_skewhouse_k52_histories_shown_and_read_holds : PySem.Challenge.rw_skewhouse_k52_histories_shown_and_read.Holds := by
  w_on; o_law; k_head; (case hw => w_witness2)
  k_fill
  refine Lw.walk (l := PySem.Challenge.rw_skewhouse_k52_histories_shown_and_read) rfl rfl (fun w h Y => PySem.W.kIn_of Y) ?F
  case F =>
    intro w mg fa h KX G hmg
    refine' Lw.all_mk KX G hmg ?a0 ?l0 ?c0 ?k0 ?a1 ?l1 ?c1 ?k1 ?a2 ?l2 ?c2 ?k2 ?a3 ?l3 ?c3 ?k3 ?a4 ?l4 ?c4 ?k4 ?a5 ?l5 ?c5 ?k5 ?a6 ?l6 ?c6 ?k6 ?a7 ?l7 ?c7 ?k7 ?a8 ?l8 ?c8 ?k8 ?a9 ?l9 ?c9 ?k9 ?a10 ?l10 ?c10 ?k10 ?a11 ?l11 ?c11 ?k11 ?a12 ?l12 ?c12 ?k12 ?a13 ?l13 ?c13 ?k13 ?a14 ?l14 ?c14 ?k14 ?a15 ?l15 ?c15 ?k15 ?a16 ?l16 ?c16 ?k16 ?a17 ?l17 ?c17 ?k17 ?a18 ?l18 ?c18 ?k18 ?a19 ?l19 ?c19 ?k19 ?a20 ?l20 ?c20 ?k20 ?a21 ?l21 ?c21 ?k21 ?a22 ?l22 ?c22 ?k22 ?a23 ?l23 ?c23 ?k23 ?a24 ?l24 ?c24 ?k24 ?a25 ?l25 ?c25 ?k25 ?a26 ?l26 ?c26 ?k26 ?a27 ?l27 ?c27 ?k27 ?a28 ?l28 ?c28 ?k28 ?a29 ?l29 ?c29 ?k29 ?a30 ?l30 ?c30 ?k30 ?a31 ?l31 ?c31 ?k31 ?a32 ?l32 ?c32 ?k32 ?a33 ?l33 ?c33 ?k33 ?a34 ?l34 ?c34 ?k34 ?a35 ?l35 ?c35 ?k35 ?a36 ?l36 ?c36 ?k36 ?n0 ?n1 ?n2 ?q2 ?n3 ?n4 ?n5 ?z0 ?z1 ?z2 ?z3 ?z4 ?z5 ?z6 ?z7 ?z8 ?z9 ?z10 ?z11 ?z12 ?z13
    (case a0 => k_is); (case l0 => k_is); (case c0 => k_is); (case k0 => k_is)
    (case a1 => k_is); (case l1 => k_is); (case c1 => k_is); (case k1 => k_is)
    (case a2 => k_is); (case l2 => k_is); (case c2 => k_is); (case k2 => k_is)
    (case a3 => k_is); (case l3 => k_is); (case c3 => k_is); (case k3 => k_is)
    (case a4 => k_is); (case l4 => k_is); (case c4 => k_is); (case k4 => k_is)
    (case a5 => k_is); (case l5 => k_is); (case c5 => k_is); (case k5 => k_is)
    (case a6 => k_is); (case l6 => k_is); (case c6 => k_is); (case k6 => k_is)
    (case a7 => k_is); (case l7 => k_is); (case c7 => k_is); (case k7 => k_is)
    (case a8 => k_is); (case l8 => k_is); (case c8 => k_is); (case k8 => k_is)
    (case a9 => k_is); (case l9 => k_is); (case c9 => k_is); (case k9 => k_is)
    (case a10 => k_is); (case l10 => k_is); (case c10 => k_is); (case k10 => k_is)
    (case a11 => k_is); (case l11 => k_is); (case c11 => k_is); (case k11 => k_is)
    (case a12 => k_is); (case l12 => k_is); (case c12 => k_is); (case k12 => k_is)
    (case a13 => k_is); (case l13 => k_is); (case c13 => k_is); (case k13 => k_is)
    (case a14 => k_is); (case l14 => k_is); (case c14 => k_is); (case k14 => k_is)
    (case a15 => k_is); (case l15 => k_is); (case c15 => k_is); (case k15 => k_is)
    (case a16 => k_is); (case l16 => k_is); (case c16 => k_is); (case k16 => k_is)
    (case a17 => k_is); (case l17 => k_is); (case c17 => k_is); (case k17 => k_is)
    (case a18 => k_is); (case l18 => k_is); (case c18 => k_is); (case k18 => k_is)
    (case a19 => k_is); (case l19 => k_is); (case c19 => k_is); (case k19 => k_is)
    (case a20 => k_is); (case l20 => k_is); (case c20 => k_is); (case k20 => k_is)
    (case a21 => k_is); (case l21 => k_is); (case c21 => k_is); (case k21 => k_is)
    (case a22 => k_is); (case l22 => k_is); (case c22 => k_is); (case k22 => k_is)
    (case a23 => k_is); (case l23 => k_is); (case c23 => k_is); (case k23 => k_is)
    (case a24 => k_is); (case l24 => k_is); (case c24 => k_is); (case k24 => k_is)
    (case a25 => k_is); (case l25 => k_is); (case c25 => k_is); (case k25 => k_is)
    (case a26 => k_is); (case l26 => k_is); (case c26 => k_is); (case k26 => k_is)
    (case a27 => k_is); (case l27 => k_is); (case c27 => k_is); (case k27 => k_is)
    (case a28 => k_is); (case l28 => k_is); (case c28 => k_is); (case k28 => k_is)
    (case a29 => k_is); (case l29 => k_is); (case c29 => k_is); (case k29 => k_is)
    (case a30 => k_is); (case l30 => k_is); (case c30 => k_is); (case k30 => k_is)
    (case a31 => k_is); (case l31 => k_is); (case c31 => k_is); (case k31 => k_is)
    (case a32 => k_is); (case l32 => k_is); (case c32 => k_is); (case k32 => k_is)
    (case a33 => k_is); (case l33 => k_is); (case c33 => k_is); (case k33 => k_is)
    (case a34 => k_is); (case l34 => k_is); (case c34 => k_is); (case k34 => k_is)
    (case a35 => k_is); (case l35 => k_is); (case c35 => k_is); (case k35 => k_is)
    (case a36 => k_is); (case l36 => k_is); (case c36 => k_is); (case k36 => k_is)
    (case n0 => k_is)
    (case n1 => k_is)
    (case n2 => k_is); (case q2 => k_is)
    (case n3 => k_is)
    (case n4 => k_is)
    (case n5 => k_is)
    (case z0 => k_is)
    (case z1 => k_is)
    (case z2 => k_is)
    (case z3 => k_is)
    (case z4 => k_is)
    (case z5 => k_is)
    (case z6 => k_is)
    (case z7 => k_is)
    (case z8 => k_is)
    (case z9 => k_is)
    (case z10 => k_is)
    (case z11 => k_is)
    (case z12 => k_is)
    (case z13 => k_is)

