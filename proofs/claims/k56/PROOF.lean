import PyProof.Rows.All
import Wide.All
import OpenK.AllK
import Wide.FinOn
import Lean
import PyProof.EqAt
import PyProof.EqKinds
import PyProof.TupleCall
import PySem.Challenge.RW_skewhouse_k56_orders_at_a_word
noncomputable section
set_option genSizeOf false
set_option Elab.async false
set_option linter.all false
set_option maxRecDepth 100000
namespace L2
open PySem PySem.Spec PyProof.Rows
abbrev Key:=Sum Int Str
def d6c:Key->Value->Bool
 | .inl k,v=>Value.isInt k v
 | .inr x,v=>Value.isStrOf x v
def f4e (w:World):Key->Int
 | .inl k=>hashInt k
 | .inr x=>hashStr w x
theorem a2z:∀ {k:Key} {v:Value},d6c k v=true->(∃ i t,k=Sum.inl i/\v=Value.int i t)\/(∃ x t,k=Sum.inr x/\v=Value.str x t)
 | .inl i,v,h=>by
  obtain⟨t,e⟩:=Value.isInt_shape (k:=i) (v:=v) h
  exact .inl ⟨i,t,rfl,e⟩
 | .inr x,v,h=>by
  obtain⟨t,e⟩:=Value.isStrOf_shape (x:=x) (v:=v) h
  exact .inr ⟨x,t,rfl,e⟩
theorem d8b (i:Int) (t:Tok):d6c (.inl i) (.int i t)=true:=by simp[d6c,Value.isInt]
theorem d6u (x:Str) (t:Tok):d6c (.inr x) (.str x t)=true:=by simp[d6c,Value.isStrOf]
theorem f0x (a b:Int):decide ((Sum.inl a:Key)=Sum.inl b)=(a == b):=by
 by_cases e:a=b
 ·subst e;simp
 ·have h:¬ (Sum.inl a:Key)=Sum.inl b:=λ q=>e (Sum.inl.inj q)
  rw[decide_eq_false h]
  exact(beq_eq_false_iff_ne.mpr e).symm
theorem e9v (a b:Str):decide ((Sum.inr a:Key)=Sum.inr b)=decide (a=b):=by
 by_cases e:a=b
 ·subst e;simp
 ·have h:¬ (Sum.inr a:Key)=Sum.inr b:=λ q=>e (Sum.inr.inj q)
  rw[decide_eq_false h,decide_eq_false e]
theorem e8y (a:Int) (b:Str):decide ((Sum.inl a:Key)=Sum.inr b)=false:=decide_eq_false (λ q=>nomatch q)
theorem e9q (a:Str) (b:Int):decide ((Sum.inr a:Key)=Sum.inl b)=false:=decide_eq_false (λ q=>nomatch q)
def a1e (prog:Program) (w:World):PySem.KeyKind prog w Key where
 is:=d6c
 hash:=f4e w
 inj:=λ v a b ha hb=>by
  rcases a2z ha with ⟨i,t,rfl,rfl⟩ | ⟨x,t,rfl,rfl⟩
  ·rcases a2z hb with ⟨j,u,rfl,e⟩ | ⟨y,u,rfl,e⟩
   ·injection e with e1 _;rw[e1]
   ·exact nomatch e
  ·rcases a2z hb with ⟨j,u,rfl,e⟩ | ⟨y,u,rfl,e⟩
   ·exact nomatch e
   ·injection e with e1 _;rw[e1]
 byValue:=λ k v h=>by
  rcases a2z h with ⟨i,t,rfl,rfl⟩ | ⟨x,t,rfl,rfl⟩<;>rfl
 pyHash:=λ hv h=>by
  rcases a2z hv with ⟨i,t,rfl,rfl⟩ | ⟨x,t,rfl,rfl⟩
  ·exact wpAny_pyHash_int h
  ·exact wpAny_pyHash_str h
 eqBool:=λ hu hv h=>by
  rcases a2z hu with ⟨i,t,rfl,rfl⟩ | ⟨x,t,rfl,rfl⟩
  ·rcases a2z hv with ⟨j,u,rfl,rfl⟩ | ⟨y,u,rfl,rfl⟩
   ·rw[f0x] at h;exact wpAny_eqBool_int h
   ·rw[e8y] at h;exact SeqAt.EqAt.int_str i t y u _ _ _ _ h
  ·rcases a2z hv with ⟨j,u,rfl,rfl⟩ | ⟨y,u,rfl,rfl⟩
   ·rw[e9q] at h;exact SeqAt.EqAt.str_int x t j u _ _ _ _ h
   ·rw[e9v] at h;exact wpAny_eqBool_str h
 «strs»:=λ k x t v h=>by
  rcases a2z h with ⟨i,u,rfl,e⟩ | ⟨y,u,rfl,e⟩
  ·exact nomatch e
  ·injection e with e1 _
   subst e1
   cases v<;>rfl
theorem d2b (prog:Program) (w:World) (i:Int) (t:Tok):(a1e prog w).is (.inl i) (.int i t)=true:=d8b i t
theorem d2s (prog:Program) (w:World) (x:Str) (t:Tok):(a1e prog w).is (.inr x) (.str x t)=true:=d6u x t
end L2
namespace L2
open PySem PySem.Spec PyProof.Rows
inductive V where
 | non | bl (b:Bool) | int (i:Int) | str (x:Str) | byt (b:Array UInt8) | flt (b:UInt64) | ref (a:Addr) | ty (n:String)
 deriving DecidableEq
def a3n:V->Value->Prop
 | .non,u=>u=Value.none
 | .bl b,u=>u=Value.bool b
 | .int i,u=>∃ t,u=Value.int i t
 | .str x,u=>∃ t,u=Value.str x t
 | .byt b,u=>∃ t,u=Value.bytes b t
 | .flt b,u=>∃ t,u=Value.float b t
 | .ref a,u=>u=Value.ref a
 | .ty n,u=>u=Value.type n
abbrev a3o:List V->List Value->Prop:=Paired a3n
theorem a3o.length {xs:List V} {us:List Value} (r:a3o xs us):xs.length=us.length:=Paired.length r
theorem a3o.get:∀ {xs:List V} {us:List Value} {i:Nat} {x:V},a3o xs us->xs[i]?=some x->∃ u,us[i]?=some u/\a3n x u
 | _,_,_,_,.nil,e=>by simp at e
 | _,_,0,_,.cons r _,e=>by simp at e;subst e;exact⟨_,rfl,r⟩
 | _,_,i+1,x,.cons _ t,e=>by
  obtain⟨u,h1,h2⟩:=a3o.get (i:=i) (x:=x) t (by simpa using e)
  exact⟨u,by simpa using h1,h2⟩
theorem a3o.set {x:V} {u:Value} (r:a3n x u):∀ {xs:List V} {us:List Value} (i:Nat),a3o xs us->a3o (xs.set i x) (us.set i u)
 | _,_,_,.nil=>.nil
 | _,_,0,.cons _ t=>.cons r t
 | _,_,i+1,.cons q t=>.cons q (a3o.set r i t)
theorem a3o.append:∀ {xs ys:List V} {us ws:List Value},a3o xs us->a3o ys ws->a3o (xs++ys) (us++ws)
 | _,_,_,_,.nil,s=>s
 | _,_,_,_,.cons r t,s=>.cons r (a3o.append t s)
theorem a3o.take:∀ {xs:List V} {us:List Value} (n:Nat),a3o xs us->a3o (xs.take n) (us.take n)
 | _,_,0,_=>.nil
 | _,_,_+1,.nil=>.nil
 | _,_,n+1,.cons r t=>.cons r (a3o.take n t)
theorem a3o.drop:∀ {xs:List V} {us:List Value} (n:Nat),a3o xs us->a3o (xs.drop n) (us.drop n)
 | _,_,0,r=>r
 | _,_,_+1,.nil=>.nil
 | _,_,n+1,.cons _ t=>a3o.drop n t
def d0y:Option V->Option Value->Prop
 | some v,some u=>a3n v u
 | none,none=>True
 | _,_=>False
def KV {κ:Type}:List (κ×V)->List (κ×Value)->Prop:=Paired λ (p:κ×V) (q:κ×Value)=>p.1=q.1/\a3n p.2 q.2
def kV:Key->V
 | .inl i=>.int i
 | .inr x=>.str x
inductive HO where
  | lst (xs:List V)
  | tup (xs:List V)
  | dK (kvs:List (Key×V)) | dT (kvs:List (List Key×V))
  | set (S:Int->Bool) (n:Nat)
  | ins (C dx:Addr) (fs:List (Str×V))
  | own (x:Addr)
  | xd (fs:List (Str×V))
  | met (f x:Addr)
  | rng (lo hi:Int)
  | frz (o:Obj) (u:HO)
  | tbl (ps:Array Value)
  | ext (φ:Heap->Prop)
abbrev Hp:=Addr->Option HO
def upd (H:Hp) (a:Addr) (o:HO):Hp:=λ b=>if b=a then some o else H b
theorem a0b {H:Hp} {a:Addr} {o:HO}:upd H a o a=some o:=by unfold upd;rw[if_pos rfl]
theorem a0h {H:Hp} {a b:Addr} {o:HO} (h:b≠a):upd H a o b=H b:=by unfold upd;rw[if_neg h]
theorem c2g {H:Hp} {a b:Addr} {o u:HO} (h:H a=some o) (h':H b=some u) (d:o≠u):a≠b:=by
 intro e;subst e;rw[h] at h';exact d (Option.some.inj h')
theorem a1b {H:Hp} {a b:Addr} {o:HO} (h:H a=some o) (h':H b=none):a≠b:=by
 intro e;subst e;rw[h] at h';cases h'
section
variable (P:Program) (w:World)
def a3f (H:Hp) (h:Heap) (a:Addr):HO->Prop
 | .lst xs=>xs.length<=sizeLine/\∃ (its:List Value) (n:Nat),a3o xs its/\h.get? a=some {cls:=.type "list",data:=.seq its.toArray n}
 | .tup xs=>xs.length<=sizeLine/\∃ its:List Value,a3o xs its/\IsTup h a its.toArray
 | .dK kvs=>kvs.length<=sizeLine/\(a == sysModules)=false/\∃ vs,KV kvs vs/\h.DictOf (a1e P w) a vs
 | .dT kvs=>kvs.length<=sizeLine/\(a == sysModules)=false/\∃ xs:List (List Key×Addr×Value),
   Paired (λ (p:List Key×V) (q:List Key×Addr×Value)=>p.1=q.1/\H q.2.1=some (.tup (p.1.map kV))/\a3n p.2 q.2.2) kvs xs /\
   ∃ o es ep,h.get? a=some o/\o.ExactDict/\o.data=.dict es ep/\es.toList=xs.map (entryOfKey (tupleKind (a1e P w)))/\(xs.map (·.1)).Nodup
 | .set S n=>h.SetOf (intKind P w) a S n
 | .ins C dx fs=>H dx=some (.own a)/\fs.length<=1000/\dx≠a/\h.get? a=some (PySem.W.instObj C dx) /\
   ∃ mA,h.Ns1 dx mA/\(∀ f,d0y (fs.lookup f) (mA f))/\PySem.Within mA (fs.map (·.1))
 | .own _=>∃ o,h.get? a=some o
 | .xd fs=>∃ mA,h.Ns1 a mA/\∀ f,d0y (fs.lookup f) (mA f)
 | .rng lo hi=>∃ t u v,h.get? a=some {cls:=.type "range",data:=.fields #[.int lo t,.int hi u,.int 1 v]}
 | .frz o u=>h.get? a=some o/\a3f H h a u
 | .tbl ps=>h.get? a=some {cls:=.none,data:=.fields ps}
 | .met f x=>h.get? a=some (PySem.W.methodObj (.ref f) (.ref x))
 | .ext φ=>φ h/\(∃ o,h.get? a=some o)/\∀ h1 h2:Heap,φ h1->(∀ o,h1.get? a=some o->h2.get? a=some o)->φ h2
def HOk (H:Hp) (h:Heap):Prop:=∀ a o,H a=some o->a3f P w H h a o
end
section
variable {P:Program} {w:World} {H H':Hp} {h h':Heap} {a:Addr} {o:HO}
theorem a3f.lt (x:a3f P w H h a o):a < h.objs.size:=by
 cases o with
 | lst xs=>obtain⟨_,_,_,_,e⟩:=x;exact Heap.lt_size e
 | tup xs=>obtain⟨_,_,_,p⟩:=x;exact p.lt
 | dK kvs=>obtain⟨_,_,_,_,o,_,_,e,_⟩:=x;exact Heap.lt_size e
 | dT kvs=>obtain⟨_,_,_,_,o,_,_,e,_⟩:=x;exact Heap.lt_size e
 | set S n=>obtain⟨o,_,_,_,e,_⟩:=x;exact Heap.lt_size e
 | ins C dx fs=>obtain⟨_,_,_,e,_⟩:=x;exact Heap.lt_size e
 | own y=>obtain⟨_,e⟩:=x;exact Heap.lt_size e
 | xd fs=>obtain⟨_,⟨_,_,_,e,_⟩,_⟩:=x;exact Heap.lt_size e
 | rng lo hi=>obtain⟨_,_,_,e⟩:=x;exact Heap.lt_size e
 | frz ob u=>obtain⟨e,_⟩:=x;exact Heap.lt_size e
 | tbl ps=>exact Heap.lt_size (show h.get? a=some _ from x)
 | met f y=>exact Heap.lt_size (show h.get? a=some _ from x)
 | ext φ=>obtain⟨_,⟨_,e⟩,_⟩:=x;exact Heap.lt_size e
theorem Paired.mapP {α β:Type} {F G:α->β->Prop}:∀ {l₁:List α} {l₂:List β},Paired F l₁ l₂->(∀ a b,F a b->G a b)->Paired G l₁ l₂
 | _,_,.nil,_=>.nil
 | _,_,.cons r t,f=>.cons (f _ _ r) (Paired.mapP t f)
theorem Paired.imp' {α β:Type} {F G:α->β->Prop} (f:∀ a b,F a b->G a b) {l₁:List α} {l₂:List β} (r:Paired F l₁ l₂):Paired G l₁ l₂:=Paired.mapP r f
theorem a3f.stay (x:a3f P w H h a o) (k:∀ b u,(b=a\/H b=some (.own a))->h.get? b=some u->h'.get? b=some u)
  (ho:∀ b,H b=some (.own a)->H' b=some (.own a)) (ht:∀ b xs,H b=some (.tup xs)->H' b=some (.tup xs)):a3f P w H' h' a o:=by
 induction o with
 | lst xs=>obtain⟨z,its,n,r,e⟩:=x;exact⟨z,its,n,r,k _ _ (.inl rfl) e⟩
 | tup xs=>obtain⟨z,its,r,ob,e,c⟩:=x;exact⟨z,its,r,ob,k _ _ (.inl rfl) e,c⟩
 | dK kvs=>obtain⟨z,y,vs,r,ob,es,ep,e,c⟩:=x;exact⟨z,y,vs,r,ob,es,ep,k _ _ (.inl rfl) e,c⟩
 | dT kvs =>
  obtain⟨z,y,xs,r,ob,es,ep,e,c⟩:=x
  exact⟨z,y,xs,Paired.mapP r λ p q z=>⟨z.1,ht _ _ z.2.1,z.2.2⟩,ob,es,ep,k _ _ (.inl rfl) e,c⟩
 | set S n=>obtain⟨ob,es,ep,t,e,c⟩:=x;exact⟨ob,es,ep,t,k _ _ (.inl rfl) e,c⟩
 | ins C dx fs =>
  obtain⟨d,z,ne,e,mA,⟨od,es,ep,e2,c⟩,r⟩:=x
  exact⟨ho _ d,z,ne,k _ _ (.inl rfl) e,mA,⟨od,es,ep,k _ _ (.inr d) e2,c⟩,r⟩
 | own y=>obtain⟨ob,e⟩:=x;exact⟨ob,k _ _ (.inl rfl) e⟩
 | xd fs=>obtain⟨mA,⟨od,es,ep,e,c⟩,r⟩:=x;exact⟨mA,⟨od,es,ep,k _ _ (.inl rfl) e,c⟩,r⟩
 | rng lo hi=>obtain⟨t,u,v,e⟩:=x;exact⟨t,u,v,k _ _ (.inl rfl) e⟩
 | frz ob u ih=>obtain⟨e,q⟩:=x;exact⟨k _ _ (.inl rfl) e,ih q⟩
 | tbl ps =>
  have e:h.get? a=some {cls:=.none,data:=.fields ps}:=x
  show h'.get? a=some {cls:=.none,data:=.fields ps}
  exact k a _ (.inl rfl) e
 | met f y =>
  have e:h.get? a=some (PySem.W.methodObj (.ref f) (.ref y)):=x
  show h'.get? a=some (PySem.W.methodObj (.ref f) (.ref y))
  exact k a _ (.inl rfl) e
 | ext φ=>obtain⟨p,⟨o,e⟩,st⟩:=x;exact⟨st _ _ p λ o q=>k _ _ (.inl rfl) q,⟨o,k _ _ (.inl rfl) e⟩,st⟩
theorem HOk.lt (x:HOk P w H h) (e:H a=some o):a < h.objs.size:=(x a o e).lt
theorem HOk.fresh (x:HOk P w H h) (e:h.objs.size<=a):H a=none:=by
 cases q:H a with
 | none=>rfl
 | some u=>exact absurd (Nat.lt_of_lt_of_le (x.lt q) e) (Nat.lt_irrefl _)
theorem HOk.kept (x:HOk P w H h) (k:∀ b u,h.get? b=some u->h'.get? b=some u):HOk P w H h':=λ a o e =>
 (x a o e).stay (λ b u _ q=>k b u q) (λ _ q=>q) λ _ _ q=>q
theorem HOk.laid (x:HOk P w H h) (k:∀ b u,h.get? b=some u->h'.get? b=some u) (hp:h.objs.size<=a) (new:a3f P w (upd H a o) h' a o):HOk P w (upd H a o) h':=λ b u e=>by
 have hn:=x.fresh hp
 by_cases hb:b=a
 ·subst hb;rw[a0b] at e;cases e;exact new
 ·rw[a0h hb] at e
  exact(x b u e).stay (λ c v _ q=>k c v q) (λ c q=>by rw[a0h (a1b q hn)];exact q) λ c xs q=>by rw[a0h (a1b q hn)];exact q
end
def Rd (H:Hp) (a:Addr) (u:HO):Prop:=H a=some u\/∃ o,H a=some (.frz o u)
theorem Rd.ok {P:Program} {w:World} {H:Hp} {h:Heap} {a:Addr} {u:HO} (r:Rd H a u) (x:HOk P w H h):a3f P w H h a u:=by
 rcases r with r | ⟨o,r⟩
 ·exact x a u r
 ·obtain⟨_,q⟩:=x a _ r
  exact q
def Mut:Option HO->Prop
 | some (.lst _)=>True
 | some (.dK _)=>True
 | some (.dT _)=>True
 | some (.set _ _)=>True
 | some (.ins _ _ _)=>True
 | some (.ext _)=>True
 | _=>False
section
variable {P:Program} {w:World} {H:Hp} {h h':Heap} {x e:Addr} {o':HO}
theorem HOk.write (ok:HOk P w H h) (mu:Mut (H x)) (he:e=x\/H e=some (.own x)) (k:∀ b u,b≠e->h.get? b=some u->h'.get? b=some u) (heo:∃ u,h'.get? e=some u)
  (new:a3f P w (upd H x o') h' x o'):HOk P w (upd H x o') h':=λ b u q=>by
 have nown:∀ c y,H c=some (.own y)->c≠x:=λ c y r z=>by subst z;rw[r] at mu;exact mu
 have ntup:∀ c xs,H c=some (.tup xs)->c≠x:=λ c xs r z=>by subst z;rw[r] at mu;exact mu
 by_cases hb:b=x
 ·subst hb;rw[a0b] at q;cases q;exact new
 ·rw[a0h hb] at q
  by_cases hbe:b=e
  ·have q':H b=some (.own x):=by
    rcases he with z | z
    ·exact absurd (hbe.trans z) hb
    ·rw[hbe];exact z
   rw[q] at q';cases q'
   obtain⟨v,hv⟩:=heo
   exact⟨v,by rw[hbe];exact hv⟩
  ·refine(ok b u q).stay (λ c v hc r=>k c v ?_ r) (λ c r=>by rw[a0h (nown c b r)];exact r) λ c xs r=>by rw[a0h (ntup c xs r)];exact r
   rcases hc with rfl | hc
   ·exact hbe
   ·rintro rfl
    rcases he with z | z
    ·exact nown c b hc z
    ·rw[hc] at z;cases z;exact hb rfl
end
structure Un (fs ex:List Addr) (H H':Hp) (h h':Heap):Prop where
 keep:∀ b o,h.get? b=some o->H b=none->b ∉ fs->b ∉ ex->h'.get? b=some o
 slot:∀ b o,h.get? b=some o->H b=none->b∈fs->b ∉ ex->∃ sl,h'.get? b=some {o with slots:=sl}
 free:∀ b o,h.get? b=some o->H b=none->b ∉ ex->H' b=none
 there:∀ b o,h.get? b=some o->b ∉ ex->∃ o',h'.get? b=some o'
 tups:∀ b xs,H b=some (.tup xs)->H' b=some (.tup xs)
 frzs:∀ b o u,H b=some (.frz o u)->H' b=some (.frz o u)
 tbls:∀ b ps,H b=some (.tbl ps)->∃ more,H' b=some (.tbl (ps++more))
section
variable {fs fs' ex ex':List Addr} {H H1 H2:Hp} {h h1 h2 h':Heap} {a x e:Addr} {o:HO}
theorem Un.any (u:Un fs ex H H1 h h1) {b:Addr} {ob:Obj} (q:h.get? b=some ob) (n:H b=none) (hx:b ∉ ex):∃ sl,h1.get? b=some {ob with slots:=sl}:=by
 by_cases hb:b∈fs
 ·exact u.slot b ob q n hb hx
 ·exact⟨ob.slots,u.keep b ob q n hb hx⟩
theorem Un.trans (a:Un fs ex H H1 h h1) (b:Un fs ex H1 H2 h1 h2):Un fs ex H H2 h h2 where
 keep:=λ c ob q n hc hx=>b.keep c ob (a.keep c ob q n hc hx) (a.free c ob q n hx) hc hx
 slot:=λ c ob q n hc hx=>by
  obtain⟨sl,e1⟩:=a.slot c ob q n hc hx
  obtain⟨sl',e2⟩:=b.slot c _ e1 (a.free c ob q n hx) hc hx
  exact⟨sl',e2⟩
 free:=λ c ob q n hx=>by
  obtain⟨o',e1⟩:=a.there c ob q hx
  exact b.free c o' e1 (a.free c ob q n hx) hx
 there:=λ c ob q hx=>by
  obtain⟨o',e1⟩:=a.there c ob q hx
  exact b.there c o' e1 hx
 tups:=λ c xs q=>b.tups c xs (a.tups c xs q)
 frzs:=λ c ob xs q=>b.frzs c ob xs (a.frzs c ob xs q)
 tbls:=λ c ps q=>by
  obtain⟨m1,e1⟩:=a.tbls c ps q
  obtain⟨m2,e2⟩:=b.tbls c _ e1
  exact⟨m1++m2,by rw[e2,Array.append_assoc]⟩
theorem Un.kept (k:∀ b u,h.get? b=some u->h'.get? b=some u):Un fs ex H H h h' :=
 ⟨λ b ob q _ _ _=>k b ob q,λ b ob q _ _ _=>⟨ob.slots,k b ob q⟩,λ _ _ _ n _=>n,λ b ob q _=>⟨ob,k b ob q⟩,λ _ _ q=>q,λ _ _ _ q=>q,λ _ ps q=>⟨#[],by rw[q];simp⟩⟩
theorem Un.refl:Un fs ex H H h h:=Un.kept λ _ _ q=>q
theorem Un.laid (k:∀ b u,h.get? b=some u->h'.get? b=some u) (hp:h.objs.size<=a) (hn:H a=none):Un fs ex H (upd H a o) h h' where
 keep:=λ b u q _ _ _=>k b u q
 slot:=λ b u q _ _ _=>⟨u.slots,k b u q⟩
 free:=λ b u q n _=>by rw[a0h (Nat.ne_of_lt (Nat.lt_of_lt_of_le (Heap.lt_size q) hp))];exact n
 there:=λ b u q _=>⟨u,k b u q⟩
 tups:=λ b xs q=>by rw[a0h (a1b q hn)];exact q
 frzs:=λ b u xs q=>by rw[a0h (a1b q hn)];exact q
 tbls:=λ b ps q=>⟨#[],by rw[a0h (a1b q hn),q];simp⟩
theorem Un.write (mu:Mut (H x)) (he:e=x\/H e=some (.own x)) (k:∀ b u,b≠e->h.get? b=some u->h'.get? b=some u) (heo:∃ u,h'.get? e=some u):Un fs ex H (upd H x o) h h':=by
 have hx:∀ b,H b=none->b≠x:=λ b n z=>by subst z;rw[n] at mu;exact mu
 have hb:∀ b,H b=none->b≠e:=λ b n z=>by
  subst z
  rcases he with r | r
  ·exact hx b n r
  ·rw[n] at r;cases r
 have hm:∀ b u,H b=some u->¬ Mut (some u)->b≠x:=λ b u q nm z=>by subst z;rw[q] at mu;exact nm mu
 refine⟨λ b u q n _ _=>k b u (hb b n) q,λ b u q n _ _=>⟨u.slots,k b u (hb b n) q⟩,λ b u q n _=>by rw[a0h (hx b n)];exact n,λ b u q _=>?_,
  λ b xs q=>by rw[a0h (hm b _ q λ z=>z)];exact q,λ b u xs q=>by rw[a0h (hm b _ q λ z=>z)];exact q,λ b ps q=>⟨#[],by rw[a0h (hm b _ q λ z=>z),q];simp⟩⟩
 by_cases hbe:b=e
 ·subst hbe;exact heo
 ·exact⟨u,k b u hbe q⟩
end
def trk (h:Heap) (H:Hp):List Addr:=(List.range h.objs.size).filter λ a=>(H a).isSome
def e4h (h:Heap) (H:Hp):Heap:=PySem.W.hideAll h (trk h H)
theorem d9p (h:Heap) (H:Hp):(e4h h H).objs.size=h.objs.size:=PySem.W.hideAll_size _ _
theorem e1p {h:Heap} {H:Hp} {b:Addr} {o:Obj} (e:h.get? b=some o) (n:H b=none):(e4h h H).get? b=some o :=
 PySem.W.hideAll_get _ e λ hm=>by
  have q:(H b).isSome=true:=(List.mem_filter.mp hm).2
  rw[n] at q;simp at q
theorem e7z {h:Heap} {H:Hp} {b:Addr} {o:Obj} (e:(e4h h H).get? b=some o):h.get? b=some o/\H b=none:=by
 have e':h.get? b=some o:=PySem.W.of_hideAll (trk h H) e
 refine⟨e',?_⟩
 cases q:H b with
 | none=>rfl
 | some x =>
  have hm:b∈trk h H:=List.mem_filter.mpr ⟨List.mem_range.mpr (Heap.lt_size e'),by simp[q]⟩
  have z:(e4h h H).get? b=none:=PySem.W.hideAll_none (trk h H) hm
  rw[z] at e;cases e
def e6r (g h:Heap) (L:Addr):List (Addr×Obj):=(List.range h.objs.size).filterMap λ a=>if a=L\/(g.get? a).isSome=true then none else (h.get? a).map λ o=>(a,o)
def c7y (g h:Heap) (L d:Addr):List (Addr×Obj):=(e6r g h L).filter λ p=>decide (p.1≠d)
end L2
namespace L2
open PySem PySem.Spec PyProof.Rows
structure Mod (K:PySem.W.Frag) (mg:Str->Option Value) (base:Heap):Prop where
 kin:K.In base
 glob:base.Ns mainGlobals mg
 blt:∃ mb,base.Ns builtinsNs mb/\∀ x:Str,x≠"__name__"->mb x=bootBuiltins x
 nolimit:base.NoLimit
structure Cx where
 prog:Program
 w:World
 K:PySem.W.Frag
 mg:Str->Option Value
 base:Heap
 A:Around
 N:List Str
 s₀:Shared
 H₀:Hp
 env:Env
 outer:List Env
 stack:List Env
 ex:List Addr
 fn:Str->Bool
 calm:Bool
 pn:List (Addr×Obj)
 xe:Value->Shared->Prop
def frs (l:List Env):List Addr:=l.filterMap (·.frame)
abbrev Cx.fs (X:Cx):List Addr:=frs X.outer
def Vis (sc:Scope) (x:Str):Prop:=sc.names.lookup x=some .local\/sc.names.lookup x=some .cell\/sc.names.lookup x=some .free
def Loc (sc:Scope) (x:Str):Prop:=sc.names.lookup x=some .local\/sc.names.lookup x=some .cell
def f4g (env:Env) (h:Heap) (m:Str->Option Value) (x:Str) (u:Value):Prop :=
 (env.kindOf x=some .local/\m x=some u)\/((env.kindOf x=some .cell\/env.kindOf x=some .free)/\∃ c,env.cells.lookup x=some c/\h.IsCell c (some u))
structure Cx.Ok (X:Cx):Prop where
 mod:Mod X.K X.mg X.base
 kind:X.env.scope.kind=.function
 glob:X.env.globals=mainGlobals
 blt:X.env.builtins=builtinsNs
 above:X.s₀.heap.objs.size<=X.env.locals
 inj:∀ x y c,X.env.cells.lookup x=some c->X.env.cells.lookup y=some c->x=y
 has:∀ x,(X.env.kindOf x=some .cell\/X.env.kindOf x=some .free)->∃ c,X.env.cells.lookup x=some c
 cab:∀ x c,X.fn x=true->X.env.cells.lookup x=some c->X.s₀.heap.objs.size<=c
 hd:X.calm=true->X.A.handled=none
 frames:X.A.frames=some X.stack
 stk:X.stack=X.outer\/(X.stack=X.env::X.outer/\X.env.frame=some X.env.locals)
 exf:∀ b∈X.ex,b≠X.env.locals/\∀ x c,X.env.cells.lookup x=some c->c≠b
 bs:∀ b o,X.base.get? b=some o->X.s₀.heap.get? b=some o/\X.H₀ b=none
 bsz:X.base.objs.size<=X.s₀.heap.objs.size
 noex:∀ b o,X.base.get? b=some o->b ∉ X.ex
 exfs:∀ b∈X.ex,b ∉ X.fs
 funs:X.s₀.heap.FunFrames X.base X.outer
 frf:∀ b∈X.fs,X.H₀ b=none
structure Inv (X:Cx) (pins:List (Addr×Obj)) (σ:List (Option V)) (H:Hp) (s:Shared):Prop where
 ok:X.Ok
 os:s.os=X.s₀.os
 bare:AllBare s.gens
 base:Un X.fs X.ex X.H₀ H X.s₀.heap s.heap
 loc:∃ m,s.heap.Ns X.env.locals m/\∀ (i:Nat) (x:Str) (v:V),X.N[i]?=some x->σ[i]?=some (some v)->Vis X.env.scope x->∃ u,a3n v u/\f4g X.env s.heap m x u
 cell:∀ x c,X.env.cells.lookup x=some c->∃ v,s.heap.IsCell c v
 free:H X.env.locals=none
 freeC:∀ x c,X.env.cells.lookup x=some c->H c=none
 pin:∀ p∈X.pn++pins,s.heap.get? p.1=some p.2/\H p.1=none/\p.1≠X.env.locals/\p.1 ∉ X.fs/\∀ v,p.2.data≠.cell v
 hok:HOk X.prog X.w H s.heap
 len:σ.length=X.N.length
section
variable {X:Cx} {pins:List (Addr×Obj)} {σ:List (Option V)} {H H':Hp} {s:Shared} {h':Heap}
theorem Cx.Ok.nofr (ok:X.Ok) {b:Addr} {o:Obj} (e:X.base.get? b=some o):b ∉ X.fs:=λ hb=>by
 have:=(ok.funs.mem hb).1
 rw[e] at this;cases this
theorem Inv.bs (I:Inv X pins σ H s):∀ b o,X.base.get? b=some o->s.heap.get? b=some o/\H b=none:=λ b o e =>
 ⟨I.base.keep b o (I.ok.bs b o e).1 (I.ok.bs b o e).2 (I.ok.nofr e) (I.ok.noex b o e),I.base.free b o (I.ok.bs b o e).1 (I.ok.bs b o e).2 (I.ok.noex b o e)⟩
theorem Inv.bk (I:Inv X pins σ H s):∀ b o,X.base.get? b=some o->s.heap.get? b=some o:=λ b o e=>(I.bs b o e).1
theorem Inv.mod (I:Inv X pins σ H s):Mod X.K X.mg X.base:=I.ok.mod
theorem Inv.kIn (I:Inv X pins σ H s):X.K.In s.heap:=I.ok.mod.kin.keeps I.bk
theorem Inv.lt (I:Inv X pins σ H s):X.env.locals < s.heap.objs.size:=let ⟨_,hn,_⟩:=I.loc;hn.lt
theorem Inv.sz (I:Inv X pins σ H s):X.s₀.heap.objs.size<=s.heap.objs.size:=Nat.le_trans I.ok.above (Nat.le_of_lt I.lt)
theorem Inv.nofs (I:Inv X pins σ H s) {a:Addr} (h:s.heap.objs.size<=a):a ∉ X.fs:=λ hb=>by
 obtain⟨_,o,ho,_⟩:=I.ok.funs.mem hb
 exact absurd (Nat.lt_of_lt_of_le (Heap.lt_size ho) (Nat.le_trans I.sz h)) (Nat.lt_irrefl _)
theorem Inv.cne (I:Inv X pins σ H s):∀ x c,X.env.cells.lookup x=some c->c≠X.env.locals:=λ x c e z=>by
 obtain⟨v,o,ho,hd⟩:=I.cell x c e
 obtain⟨m,⟨o',es,ep,ho',hd',_⟩,_⟩:=I.loc
 rw[z,ho'] at ho;cases ho;rw[hd'] at hd;cases hd
theorem Inv.funs (I:Inv X pins σ H s):s.heap.FunFrames X.base X.outer:=by
 have all:∀ (l:List Env),(∀ b∈frs l,b∈X.fs)->X.s₀.heap.FunFrames X.base l->s.heap.FunFrames X.base l:=by
  intro l
  induction l with
  | nil=>intro _ _;trivial
  | cons env r ih =>
   intro hs hl
   obtain⟨hk,⟨L,o,hf,hn,ho,hd⟩,hr⟩:=hl
   have hL:L∈X.fs:=hs L (by unfold frs;rw[List.filterMap_cons,hf];exact List.mem_cons_self)
   obtain⟨sl,e⟩:=I.base.slot L o ho (I.ok.frf L hL) hL λ z=>I.ok.exfs L z hL
   exact⟨hk,⟨L,_,hf,hn,e,hd⟩,ih (λ b hb=>hs b (by unfold frs;rw[List.filterMap_cons,hf];exact List.mem_cons_of_mem _ hb)) hr⟩
 exact all X.outer (λ _ hb=>hb) I.ok.funs
theorem Inv.stack (I:Inv X pins σ H s):s.heap.FunFrames X.base X.stack:=by
 rcases I.ok.stk with e | ⟨e,hf⟩
 ·rw[e];exact I.funs
 ·rw[e]
  obtain⟨m,hn,_⟩:=I.loc
  refine .cons (by rw[I.ok.kind];decide) hf hn ?_ I.funs
  exact Heap.get?_none_of_le (Nat.le_trans I.ok.bsz I.ok.above)
theorem Inv.stkSub (I:Inv X pins σ H s):∀ b∈frs X.stack,b∈X.env.locals::X.fs:=λ b hb=>by
 rcases I.ok.stk with e | ⟨e,hf⟩
 ·rw[e] at hb;exact List.mem_cons_of_mem _ hb
 ·rw[e] at hb
  unfold frs at hb
  rw[List.filterMap_cons,hf] at hb
  exact hb
theorem Inv.stkFree (I:Inv X pins σ H s):∀ b∈frs X.stack,H b=none:=λ b hb=>by
 rcases List.mem_cons.mp (I.stkSub b hb) with e | hb
 ·rw[e];exact I.free
 ·obtain⟨_,o,ho,_⟩:=I.ok.funs.mem hb
  exact I.base.free b o ho (I.ok.frf b hb) λ z=>I.ok.exfs b z hb
theorem Inv.step {g':Array GenState} {t':Nat} {d':Drawn} {ch:List Addr} (I:Inv X pins σ H s)
  (hch:∀ b∈ch,(b∈X.ex\/X.s₀.heap.objs.size<=b)/\b≠X.env.locals/\(∀ x c,X.env.cells.lookup x=some c->c≠b)/\∀ p∈X.pn++pins,p.1≠b)
  (keep:∀ b o,b≠X.env.locals->b ∉ X.fs->b ∉ ch->s.heap.get? b=some o->H b=none->h'.get? b=some o)
  (slot:∀ b o,b≠X.env.locals->b∈X.fs->b ∉ ch->s.heap.get? b=some o->H b=none->∃ sl,h'.get? b=some {o with slots:=sl}) (free:∀ b o,b ∉ ch->s.heap.get? b=some o->H b=none->H' b=none)
  (there:∀ b o,b ∉ ch->s.heap.get? b=some o->∃ o',h'.get? b=some o')
  (tups:∀ b xs,H b=some (.tup xs)->H' b=some (.tup xs)) (frzs:∀ b o u,H b=some (.frz o u)->H' b=some (.frz o u)) (tbls:∀ b ps,H b=some (.tbl ps)->∃ more,H' b=some (.tbl (ps++more)))
  (ns:∀ m,s.heap.Ns X.env.locals m->h'.Ns X.env.locals m) (hok:HOk X.prog X.w H' h') (hg:AllBare g') :
  Inv X pins σ H' {s with heap:=h',gens:=g',drawn:=d',toks:=t'}:=by
 have neL:∀ b o,X.s₀.heap.get? b=some o->b≠X.env.locals:=λ b o e=>Nat.ne_of_lt (Nat.lt_of_lt_of_le (Heap.lt_size e) I.ok.above)
 have neC:∀ b o,X.s₀.heap.get? b=some o->b ∉ X.ex->b ∉ ch:=λ b o e hx hb=>by
  rcases(hch b hb).1 with z | z
  ·exact hx z
  ·exact absurd (Nat.lt_of_lt_of_le (Heap.lt_size e) z) (Nat.lt_irrefl _)
 have cellK:∀ x c,X.env.cells.lookup x=some c->∀ v,s.heap.IsCell c v->h'.IsCell c v:=λ x c e v ⟨o,ho,hd⟩=>by
  have nch:c ∉ ch:=λ z=>(hch c z).2.2.1 x c e rfl
  by_cases hc:c∈X.fs
  ·obtain⟨sl,q⟩:=slot c o (I.cne x c e) hc nch ho (I.freeC x c e)
   exact⟨_,q,hd⟩
  ·exact⟨o,keep c o (I.cne x c e) hc nch ho (I.freeC x c e),hd⟩
 refine⟨I.ok,I.os,hg,⟨λ b o e n hb hx=>?_,λ b o e n hb hx=>?_,λ b o e n hx=>?_,λ b o e hx=>?_,λ b xs e=>tups b xs (I.base.tups b xs e),λ b o xs e=>frzs b o xs (I.base.frzs b o xs e),λ b ps e=>?_⟩,?_,λ x c e=>?_,?_,λ x c e=>?_,λ p hp=>?_,hok,I.len⟩
 ·exact keep b o (neL b o e) hb (neC b o e hx) (I.base.keep b o e n hb hx) (I.base.free b o e n hx)
 ·obtain⟨sl,e1⟩:=I.base.slot b o e n hb hx
  obtain⟨sl',e2⟩:=slot b _ (neL b o e) hb (neC b o e hx) e1 (I.base.free b o e n hx)
  exact⟨sl',e2⟩
 ·obtain⟨o',e1⟩:=I.base.there b o e hx
  exact free b o' (neC b o e hx) e1 (I.base.free b o e n hx)
 ·obtain⟨o',e1⟩:=I.base.there b o e hx
  exact there b o' (neC b o e hx) e1
 ·obtain⟨m1,e1⟩:=I.base.tbls b ps e
  obtain⟨m2,e2⟩:=tbls b _ e1
  exact⟨m1++m2,by rw[e2,Array.append_assoc]⟩
 ·obtain⟨m,hn,hl⟩:=I.loc
  refine⟨m,ns m hn,λ i x v e1 e2 e3=>?_⟩
  obtain⟨u,r,l⟩:=hl i x v e1 e2 e3
  refine⟨u,r,?_⟩
  rcases l with l | ⟨k,c,e,z⟩
  ·exact .inl l
  ·exact .inr ⟨k,c,e,cellK x c e _ z⟩
 ·obtain⟨v,z⟩:=I.cell x c e
  exact⟨v,cellK x c e v z⟩
 ·obtain⟨m,⟨o,_,_,ho,_⟩,_⟩:=I.loc
  exact free _ o (λ z=>(hch _ z).2.1 rfl) ho I.free
 ·obtain⟨v,o,ho,hd⟩:=I.cell x c e
  exact free c o (λ z=>(hch c z).2.2.1 x c e rfl) ho (I.freeC x c e)
 ·obtain⟨e,n,ne,nf,d⟩:=I.pin p hp
  have nch:p.1 ∉ ch:=λ z=>(hch p.1 z).2.2.2 p hp rfl
  exact⟨keep p.1 p.2 ne nf nch e n,free p.1 p.2 nch e n,ne,nf,d⟩
theorem Inv.un {t':Nat} (I:Inv X pins σ H s) (u:Un X.fs [] H H' s.heap h') (hok:HOk X.prog X.w H' h'):Inv X pins σ H' {s with heap:=h',toks:=t'}:=by
 obtain⟨m,⟨o,es,ep,ho,r⟩,_⟩:=id I.loc
 obtain⟨sl,hL⟩:=u.any ho I.free (by simp)
 exact I.step (g':=s.gens) (d':=s.drawn) (ch:=[]) (λ _ z=>nomatch z) (λ b o _ hb _ e n=>u.keep b o e n hb (by simp)) (λ b o _ hb _ e n=>u.slot b o e n hb (by simp)) (λ b o _ e n=>u.free b o e n (by simp)) (λ b o _ e=>u.there b o e (by simp)) u.tups u.frzs u.tbls (λ m' hm=>by
  obtain⟨o',es',ep',ho',r'⟩:=hm
  rw[ho] at ho';cases ho'
  exact⟨_,es',ep',hL,r'⟩) hok I.bare
theorem Inv.call {g':Array GenState} {t':Nat} {d':Drawn} {ch:List Addr} (I:Inv X pins σ H s) (u:Un (frs X.stack) ch H H' s.heap h') (hok:HOk X.prog X.w H' h') (hg:AllBare g')
  (hch:∀ b∈ch,(b∈X.ex\/X.s₀.heap.objs.size<=b)/\b≠X.env.locals/\(∀ x c,X.env.cells.lookup x=some c->c≠b)/\∀ p∈X.pn++pins,p.1≠b) :
  Inv X pins σ H' {s with heap:=h',gens:=g',drawn:=d',toks:=t'}:=by
 obtain⟨m,⟨o,es,ep,ho,r⟩,_⟩:=id I.loc
 obtain⟨sl,hL⟩:=u.any ho I.free λ z=>(hch _ z).2.1 rfl
 exact I.step (ch:=ch) hch (λ b o hL hb hc e n=>u.keep b o e n (λ z=>(List.mem_cons.mp (I.stkSub b z)).elim hL hb) hc) (λ b o _ _ hc e n=>u.any e n hc) (λ b o hc e n=>u.free b o e n hc) (λ b o hc e=>u.there b o e hc) u.tups u.frzs u.tbls (λ m' hm=>by
  obtain⟨o',es',ep',ho',r'⟩:=hm
  rw[ho] at ho';cases ho'
  exact⟨_,es',ep',hL,r'⟩) hok hg
theorem Inv.turned {t':Nat} {it:Addr} (I:Inv X pins σ H s) (k:∀ b o,b≠it->s.heap.get? b=some o->h'.get? b=some o) (hn:H it=none) (hL:it≠X.env.locals)
  (h1:it∈X.ex\/X.s₀.heap.objs.size<=it) (h2:∀ x c,X.env.cells.lookup x=some c->c≠it) (h3:∀ p∈X.pn++pins,p.1≠it):Inv X pins σ H {s with heap:=h',toks:=t'}:=by
 have nit:∀ b u,H b=some u->b≠it:=λ b u e z=>by rw[z,hn] at e;cases e
 refine I.step (g':=s.gens) (d':=s.drawn) (ch:=[it]) (λ b hb=>?_) (λ b o _ _ hc e _=>k b o (λ z=>hc (by simp[z])) e) (λ b o _ _ hc e _=>⟨o.slots,k b o (λ z=>hc (by simp[z])) e⟩) (λ _ _ _ _ n=>n)
  (λ b o hc e=>⟨o,k b o (λ z=>hc (by simp[z])) e⟩) (λ _ _ e=>e) (λ _ _ _ e=>e) (λ b ps e=>⟨#[],by rw[e];simp⟩) (λ m hm=>?_) (λ b u e=>?_) I.bare
 ·have e:b=it:=by simpa using hb
  subst e
  exact⟨h1,hL,h2,h3⟩
 ·obtain⟨o,es,ep,ho,r⟩:=hm
  exact⟨o,es,ep,k _ o (Ne.symm hL) ho,r⟩
 ·refine(I.hok b u e).stay (λ c v hc q=>k c v ?_ q) (λ _ q=>q) λ _ _ q=>q
  rcases hc with z | z
  ·rw[z];exact nit b u e
  ·exact nit c _ z
theorem Inv.tok (I:Inv X pins σ H s) (t:Nat):Inv X pins σ H {s with toks:=t}:=I.un (h':=s.heap) (t':=t) Un.refl I.hok
theorem Inv.kept {t':Nat} (I:Inv X pins σ H s) (k:∀ b u,s.heap.get? b=some u->h'.get? b=some u):Inv X pins σ H {s with heap:=h',toks:=t'}:=I.un (Un.kept k) (I.hok.kept k)
theorem Inv.laid {a:Addr} {o:HO} {t':Nat} (I:Inv X pins σ H s) (k:∀ b u,s.heap.get? b=some u->h'.get? b=some u) (hp:s.heap.objs.size<=a) (new:a3f X.prog X.w (upd H a o) h' a o) :
  Inv X pins σ (upd H a o) {s with heap:=h',toks:=t'}:=I.un (Un.laid k hp (I.hok.fresh hp)) (I.hok.laid k hp new)
theorem Inv.write {x e:Addr} {o:HO} {t':Nat} (I:Inv X pins σ H s) (mu:Mut (H x)) (he:e=x\/H e=some (.own x)) (k:∀ b u,b≠e->s.heap.get? b=some u->h'.get? b=some u) (heo:∃ u,h'.get? e=some u)
  (new:a3f X.prog X.w (upd H x o) h' x o):Inv X pins σ (upd H x o) {s with heap:=h',toks:=t'}:=I.un (Un.write mu he k heo) (I.hok.write mu he k heo new)
theorem Inv.pins_of {pins':List (Addr×Obj)} (I:Inv X pins σ H s) (h:∀ p∈pins',s.heap.get? p.1=some p.2/\H p.1=none/\p.1≠X.env.locals/\p.1 ∉ X.fs/\∀ v,p.2.data≠.cell v):Inv X pins' σ H s :=
 ⟨I.ok,I.os,I.bare,I.base,I.loc,I.cell,I.free,I.freeC,λ p hp=>(List.mem_append.mp hp).elim (λ z=>I.pin p (List.mem_append_left _ z)) (h p),I.hok,I.len⟩
theorem c6p {N:List Str} (hN:N.Nodup) {i j:Nat} {x:Str} (a:N[i]?=some x) (b:N[j]?=some x):i=j:=by
 obtain⟨h1,e1⟩:=List.getElem?_eq_some_iff.mp a
 obtain⟨h2,e2⟩:=List.getElem?_eq_some_iff.mp b
 exact(List.getElem_inj hN).mp (e1.trans e2.symm)
theorem d0q {M:Model} {A:Around} {E:Value->Shared->Prop} {i:Nat} {x:Str} {v:V} {u:Value} {Q:Unit->Shared->Prop} (I:Inv X pins σ H s) (hN:X.N.Nodup) (hi:X.N[i]?=some x) (hx:Loc X.env.scope x) (r:a3n v u)
  (h:∀ s',Inv X pins (σ.set i (some v)) H s'->(∃ a,Heap.SameBut a s.heap s'.heap/\(a=X.env.locals\/X.env.cells.lookup x=some a))->Q () s') (hf:X.fn x=true\/X.env.scope.names.lookup x=some .local:=by first | exact .inl rfl | exact .inr rfl | assumption):wpAny M A (storeName X.env x u) Q E s:=by
 obtain⟨m,hn,hl⟩:=id I.loc
 have hcls:(X.env.scope.kind == .class || (X.env.scope.kind == .module && X.env.locals != X.env.globals))=false:=by rw[I.ok.kind];rfl
 have hiσ:i < σ.length:=by rw[I.len];exact(List.getElem?_eq_some_iff.mp hi).1
 have cne:=I.cne
 have tracked:∀ {a:Addr} {h':Heap},(∃ o,s.heap.get? a=some o/\H a=none)->Heap.SameBut a s.heap h'->HOk X.prog X.w H h':=λ {a h'} ha hs b ob e=>by
  obtain⟨_,_,hfree⟩:=ha
  refine(I.hok b ob e).stay (λ c w' hc q=>(hs.2 c ?_).trans q) (λ _ q=>q) λ _ _ q=>q
  rintro rfl
  rcases hc with rfl | hc
  ·rw[hfree] at e;cases e
  ·rw[hfree] at hc;cases hc
 rcases hx with hk | hk
 ·refine wpAny_storeName_local hk hn (λ h' hn' hs=>?_) hcls
  obtain⟨oL,_,_,hoL,_⟩:=id hn
  refine h _ ⟨I.ok,I.os,I.bare,⟨λ b o e n hb hx=>?_,λ b o e n hb hx=>?_,I.base.free,λ b o e hx=>?_,I.base.tups,I.base.frzs,I.base.tbls⟩,⟨_,hn',λ j y v' e1 e2 e3=>?_⟩,λ y c e=>?_,I.free,I.freeC,λ p hp=>?_,tracked ⟨oL,hoL,I.free⟩ hs,by simpa using I.len⟩ ⟨_,hs,.inl rfl⟩
  ·exact(hs.2 b (Nat.ne_of_lt (Nat.lt_of_lt_of_le (Heap.lt_size e) I.ok.above))).trans (I.base.keep b o e n hb hx)
  ·obtain⟨sl,e1⟩:=I.base.slot b o e n hb hx
   exact⟨sl,(hs.2 b (Nat.ne_of_lt (Nat.lt_of_lt_of_le (Heap.lt_size e) I.ok.above))).trans e1⟩
  ·obtain⟨o',e1⟩:=I.base.there b o e hx
   exact⟨o',(hs.2 b (Nat.ne_of_lt (Nat.lt_of_lt_of_le (Heap.lt_size e) I.ok.above))).trans e1⟩
  ·by_cases hj:j=i
   ·subst hj
    rw[hi] at e1;cases e1
    rw[List.getElem?_set_self hiσ] at e2
    cases e2
    exact⟨u,r,.inl ⟨hk,by simp⟩⟩
   ·rw[List.getElem?_set_ne (Ne.symm hj)] at e2
    obtain⟨u',r',q⟩:=hl j y v' e1 e2 e3
    refine⟨u',r',?_⟩
    rcases q with ⟨k,e⟩ | ⟨k,c,e,z⟩
    ·refine .inl ⟨k,?_⟩
     have:y≠x:=λ e=>hj (c6p hN e1 (e ▸ hi))
     simp[this,e]
    ·exact .inr ⟨k,c,e,z.sameBut hs (cne y c e)⟩
  ·obtain⟨w',z⟩:=I.cell y c e
   exact⟨w',z.sameBut hs (cne y c e)⟩
  ·obtain⟨e,n,ne,nf,d⟩:=I.pin p hp
   exact⟨(hs.2 p.1 ne).trans e,n,ne,nf,d⟩
 ·have hfn:X.fn x=true:=by
   rcases hf with z | z
   ·exact z
   ·rw[z] at hk;cases hk
  obtain⟨c,hc⟩:=I.ok.has x (.inl hk)
  obtain⟨w',z⟩:=I.cell x c hc
  refine wpAny_storeName_cell I.ok.kind hk hc z (λ h' hc' hs=>?_)
  obtain⟨oc,hoc,hocd⟩:=id z
  refine h {s with heap:=h'} ⟨I.ok,I.os,I.bare,⟨λ b o e n hb hx=>?_,λ b o e n hb hx=>?_,I.base.free,λ b o e hx=>?_,I.base.tups,I.base.frzs,I.base.tbls⟩,⟨m,hn.sameBut hs (Ne.symm (cne x c hc)),λ j y v' e1 e2 e3=>?_⟩,λ y c' e=>?_,I.free,I.freeC,λ p hp=>?_,tracked ⟨oc,hoc,I.freeC x c hc⟩ hs,by simpa using I.len⟩ ⟨c,hs,.inr hc⟩
  ·exact(hs.2 b (Nat.ne_of_lt (Nat.lt_of_lt_of_le (Heap.lt_size e) (I.ok.cab x c hfn hc)))).trans (I.base.keep b o e n hb hx)
  ·obtain⟨sl,e1⟩:=I.base.slot b o e n hb hx
   exact⟨sl,(hs.2 b (Nat.ne_of_lt (Nat.lt_of_lt_of_le (Heap.lt_size e) (I.ok.cab x c hfn hc)))).trans e1⟩
  ·obtain⟨o',e1⟩:=I.base.there b o e hx
   exact⟨o',(hs.2 b (Nat.ne_of_lt (Nat.lt_of_lt_of_le (Heap.lt_size e) (I.ok.cab x c hfn hc)))).trans e1⟩
  ·by_cases hj:j=i
   ·subst hj
    rw[hi] at e1;cases e1
    rw[List.getElem?_set_self hiσ] at e2
    cases e2
    exact⟨u,r,.inr ⟨.inl hk,c,hc,hc'⟩⟩
   ·rw[List.getElem?_set_ne (Ne.symm hj)] at e2
    obtain⟨u',r',q⟩:=hl j y v' e1 e2 e3
    refine⟨u',r',?_⟩
    rcases q with q | ⟨k,c',e,z'⟩
    ·exact .inl q
    ·refine .inr ⟨k,c',e,z'.sameBut hs ?_⟩
     rintro rfl
     exact hj (c6p hN e1 (I.ok.inj _ _ _ e hc ▸ hi))
  ·by_cases hcc:c'=c
   ·subst hcc;exact⟨_,hc'⟩
   ·obtain⟨w2,z2⟩:=I.cell y c' e
    exact⟨w2,z2.sameBut hs hcc⟩
  ·obtain⟨e,n,ne,nf,d⟩:=I.pin p hp
   refine⟨(hs.2 p.1 ?_).trans e,n,ne,nf,d⟩
   intro q
   rw[q,hoc] at e
   have q':oc=p.2:=Option.some.inj e
   exact d w' (by rw[<-q'];exact hocd)
theorem c6c {M:Model} {A:Around} {E:Value->Shared->Prop} {i:Nat} {x:Str} {v:V} {u:Value} {Q:Unit->Shared->Prop} (I:Inv X pins σ H s) (hN:X.N.Nodup) (hi:X.N[i]?=some x) (hx:Loc X.env.scope x) (r:a3n v u)
  (h:∀ s',Inv X pins (σ.set i (some v)) H s'->Q () s') (hf:X.fn x=true\/X.env.scope.names.lookup x=some .local:=by first | exact .inl rfl | exact .inr rfl | assumption):wpAny M A (storeName X.env x u) Q E s :=
 d0q I hN hi hx r (λ s' I' _=>h s' I') hf
theorem Inv.call' {s':Shared} {ch:List Addr} (I:Inv X pins σ H s) (ho:s'.os=s.os) (u:Un (frs X.stack) ch H H' s.heap s'.heap) (hok:HOk X.prog X.w H' s'.heap) (hg:AllBare s'.gens)
  (hch:∀ b∈ch,(b∈X.ex\/X.s₀.heap.objs.size<=b)/\b≠X.env.locals/\(∀ x c,X.env.cells.lookup x=some c->c≠b)/\∀ p∈X.pn++pins,p.1≠b):Inv X pins σ H' s':=by
 obtain⟨h',g',d',t',o'⟩:=s'
 have e:o'=s.os:=ho
 subst e
 exact I.call (g':=g') (t':=t') (d':=d') u hok hg hch
end
abbrev XK:=Value->Option Addr->Hp->Prop
abbrev St:=List (Option V)
abbrev VK:=V->Hp->Prop
abbrev TE:=St->Hp->VK->Prop
abbrev TT:=St->Hp->(Bool->Hp->Prop)->Prop
abbrev TA:=St->Hp->(List V->Hp->Prop)->Prop
structure c4f where
 nx:St->Hp->Prop
 rt:VK
 bk:St->Hp->Prop:=λ _ _=>False
 ct:St->Hp->Prop:=λ _ _=>False
abbrev TS:=c4f->St->Hp->Prop
def EP (X:Cx) (pins:List (Addr×Obj)) (σ:St) (Q:VK) (u:Value) (s':Shared):Prop:=∃ v H',Inv X pins σ H' s'/\a3n v u/\Q v H'
def TP (X:Cx) (pins:List (Addr×Obj)) (σ:St) (Q:Bool->Hp->Prop) (b:Bool) (s':Shared):Prop:=∃ H',Inv X pins σ H' s'/\Q b H'
def AP (X:Cx) (pins:List (Addr×Obj)) (σ:St) (Q:List V->Hp->Prop) (us:List Value) (s':Shared):Prop:=∃ vs H',Inv X pins σ H' s'/\a3o vs us/\Q vs H'
def SP (X:Cx) (pins:List (Addr×Obj)) (D:c4f) (f:Flow) (s':Shared):Prop :=
 match f with
 | .next=>∃ σ' H',Inv X pins σ' H' s'/\D.nx σ' H'
 | .brk=>∃ σ' H',Inv X pins σ' H' s'/\D.bk σ' H'
 | .cont=>∃ σ' H',Inv X pins σ' H' s'/\D.ct σ' H'
 | .ret u=>∃ v σ' H',Inv X pins σ' H' s'/\a3n v u/\D.rt v H'
structure PE (X:Cx) (e:Expr) (t:TE):Prop where
 run:∀ (pins:List (Addr×Obj)) (s:Shared) (σ:St) (H:Hp) (Q:VK),Inv X pins σ H s->t σ H Q->wpAny (model X.prog X.w) X.A (eval e X.env) (EP X pins σ Q) X.xe s
instance {X:Cx} {e:Expr} {t:TE}:CoeFun (PE X e t) λ _=>∀ (pins:List (Addr×Obj)) (s:Shared) (σ:St) (H:Hp) (Q:VK),Inv X pins σ H s->t σ H Q->wpAny (model X.prog X.w) X.A (eval e X.env) (EP X pins σ Q) X.xe s:=⟨PE.run⟩
structure PT (X:Cx) (e:Expr) (t:TT):Prop where
 run:∀ (pins:List (Addr×Obj)) (s:Shared) (σ:St) (H:Hp) (Q:Bool->Hp->Prop),Inv X pins σ H s->t σ H Q->wpAny (model X.prog X.w) X.A (isTrue e X.env (eval e X.env)) (TP X pins σ Q) X.xe s
instance {X:Cx} {e:Expr} {t:TT}:CoeFun (PT X e t) λ _=>∀ (pins:List (Addr×Obj)) (s:Shared) (σ:St) (H:Hp) (Q:Bool->Hp->Prop),Inv X pins σ H s->t σ H Q->wpAny (model X.prog X.w) X.A (isTrue e X.env (eval e X.env)) (TP X pins σ Q) X.xe s:=⟨PT.run⟩
structure PW (X:Cx) (e:Expr) (t:TT):Prop where
 run:∀ (whole:Sem Value) (pins:List (Addr×Obj)) (s:Shared) (σ:St) (H:Hp) (Q:Bool->Hp->Prop),Inv X pins σ H s->t σ H Q->wpAny (model X.prog X.w) X.A (isTrue e X.env whole) (TP X pins σ Q) X.xe s
instance {X:Cx} {e:Expr} {t:TT}:CoeFun (PW X e t) λ _=>∀ (whole:Sem Value) (pins:List (Addr×Obj)) (s:Shared) (σ:St) (H:Hp) (Q:Bool->Hp->Prop),Inv X pins σ H s->t σ H Q->wpAny (model X.prog X.w) X.A (isTrue e X.env whole) (TP X pins σ Q) X.xe s:=⟨PW.run⟩
theorem PW.pt {X:Cx} {e:Expr} {t:TT} (h:PW X e t):PT X e t:=⟨h.run _⟩
structure PA (X:Cx) (es:List Expr) (t:TA):Prop where
 run:∀ (pos:Pos) (pins:List (Addr×Obj)) (s:Shared) (σ:St) (H:Hp) (Q:List V->Hp->Prop),Inv X pins σ H s->t σ H Q->wpAny (model X.prog X.w) X.A (spliced (backTo pos (starEach es X.env))) (AP X pins σ Q) X.xe s
instance {X:Cx} {es:List Expr} {t:TA}:CoeFun (PA X es t) λ _=>∀ (pos:Pos) (pins:List (Addr×Obj)) (s:Shared) (σ:St) (H:Hp) (Q:List V->Hp->Prop),Inv X pins σ H s->t σ H Q->wpAny (model X.prog X.w) X.A (spliced (backTo pos (starEach es X.env))) (AP X pins σ Q) X.xe s:=⟨PA.run⟩
structure PS (X:Cx) (st:Stmt) (t:TS):Prop where
 run:∀ (pins:List (Addr×Obj)) (s:Shared) (σ:St) (H:Hp) (D:c4f),Inv X pins σ H s->t D σ H->wpAny (model X.prog X.w) X.A (exec st X.env) (SP X pins D) X.xe s
instance {X:Cx} {st:Stmt} {t:TS}:CoeFun (PS X st t) λ _=>∀ (pins:List (Addr×Obj)) (s:Shared) (σ:St) (H:Hp) (D:c4f),Inv X pins σ H s->t D σ H->wpAny (model X.prog X.w) X.A (exec st X.env) (SP X pins D) X.xe s:=⟨PS.run⟩
structure PSs (X:Cx) (st:List Stmt) (t:TS):Prop where
 run:∀ (pins:List (Addr×Obj)) (s:Shared) (σ:St) (H:Hp) (D:c4f),Inv X pins σ H s->t D σ H->wpAny (model X.prog X.w) X.A (execs st X.env) (SP X pins D) X.xe s
instance {X:Cx} {st:List Stmt} {t:TS}:CoeFun (PSs X st t) λ _=>∀ (pins:List (Addr×Obj)) (s:Shared) (σ:St) (H:Hp) (D:c4f),Inv X pins σ H s->t D σ H->wpAny (model X.prog X.w) X.A (execs st X.env) (SP X pins D) X.xe s:=⟨PSs.run⟩
theorem thn {α:Type} {t:Sem α} {Q Q':α->Shared->Prop} {M:Model} {A:Around} {E:Value->Shared->Prop} {s:Shared} (h:wpAny M A t Q E s) (hQ:∀ a s,Q a s->Q' a s):wpAny M A t Q' E s:=wpAny_mono h hQ λ _ _ x=>x
end L2
namespace L2
open PySem PySem.Spec PyProof.Rows
section
variable {X:Cx}
def d2o (i:Nat):TE:=λ σ H Q=>∃ v,σ[i]?=some (some v)/\Q v H
def tC (v:V):TE:=λ _ H Q=>Q v H
theorem f0o {i:Nat} {x:Str} {pos:Pos} (hN:X.N[i]?=some x) (hv:Vis X.env.scope x) (hd:(x == ("__debug__":Str))=false:=by decide) (hcd:(x == ("__classdict__":Str))=false:=by decide):PE X (.Name x pos) (d2o i):=by
 constructor;intro pins s σ H Q I h
 obtain⟨v,e,h⟩:=h
 obtain⟨m,hn,hl⟩:=I.loc
 obtain⟨u,r,l⟩:=hl i x v hN e hv
 have fin:EP X pins σ Q u s:=⟨v,H,I,r,h⟩
 rcases l with ⟨hk,hm⟩ | ⟨hk,c,hc,hcell⟩
 ·exact wpAny_Name (wpAny_loadName_local I.ok.kind hk hn hm fin) hd
 ·rcases hk with hk | hk
  ·exact wpAny_Name (wpAny_loadName_cell I.ok.kind hk hc hcell fin) hd
  ·exact wpAny_Name (wpAny_loadName_free I.ok.kind hk hc hcell fin hcd) hd
theorem a0c {i j pos}:PE X (.Constant (.int i) j pos) (tC (.int i)):=⟨λ _ _ _ H _ I h=>wpAny_Constant_int ⟨.int i,H,I.tok _,⟨_,rfl⟩,h⟩⟩
theorem b2a {b j pos}:PE X (.Constant (.bool b) j pos) (tC (.bl b)):=⟨λ _ _ _ H _ I h=>Constant_bool ⟨.bl b,H,I,rfl,h⟩⟩
theorem b5s {j pos}:PE X (.Constant .none j pos) (tC .non):=⟨λ _ _ _ H _ I h=>Constant_none ⟨.non,H,I,rfl,h⟩⟩
theorem a1c {x j pos}:PE X (.Constant (.str x) j pos) (tC (.str x)):=⟨λ _ _ _ H _ I h=>Calls.Constant_str ⟨.str x,H,I.tok _,⟨_,rfl⟩,h⟩⟩
def Gl (X:Cx) (x:Str):Prop:=X.env.kindOf x=some .globalImplicit
theorem b7b {E:Value->Shared->Prop} {pins:List (Addr×Obj)} {s:Shared} {σ:St} {H:Hp} {x:Str} {u:Value} {pos:Pos} {Q:Value->Shared->Prop} (I:Inv X pins σ H s) (hg:Gl X x) (hm:X.mg x=some u) (h:Q u s)
  (hd:(x == ("__debug__":Str))=false:=by decide):wpAny (model X.prog X.w) X.A (eval (.Name x pos) X.env) Q E s :=
 Calls.Name_function_global I.ok.kind hg (Calls.loadGlobal_global (by rw[I.ok.glob];exact I.mod.glob.keeps I.bk) hm h) hd
theorem c4p {E:Value->Shared->Prop} {pins:List (Addr×Obj)} {s:Shared} {σ:St} {H:Hp} {x:Str} {u:Value} {pos:Pos} {Q:Value->Shared->Prop} (I:Inv X pins σ H s) (hg:Gl X x) (hm:X.mg x=none) (hv:bootBuiltins x=some u) (h:Q u s)
  (hn:x≠"__name__":=by decide) (hd:(x == ("__debug__":Str))=false:=by decide):wpAny (model X.prog X.w) X.A (eval (.Name x pos) X.env) Q E s:=by
 obtain⟨mb,h1,h2⟩:=I.mod.blt
 exact Calls.Name_function_global I.ok.kind hg (Calls.loadGlobal_builtin (by rw[I.ok.glob];exact I.mod.glob.keeps I.bk) hm (by rw[I.ok.blt];exact h1.keeps I.bk) ((h2 x hn).trans hv) h) hd
theorem d3f {x:Str} {v:V} {u:Value} {pos:Pos} (hg:Gl X x) (hm:X.mg x=some u) (r:a3n v u) (hd:(x == ("__debug__":Str))=false:=by decide):PE X (.Name x pos) (tC v) :=
 ⟨λ _ _ _ H _ I h=>b7b I hg hm ⟨v,H,I,r,h⟩ hd⟩
theorem e7b {x:Str} {v:V} {u:Value} {pos:Pos} (hg:Gl X x) (hm:X.mg x=none) (hv:bootBuiltins x=some u) (r:a3n v u) (hn:x≠"__name__":=by decide) (hd:(x == ("__debug__":Str))=false:=by decide):PE X (.Name x pos) (tC v) :=
 ⟨λ _ _ _ H _ I h=>c4p I hg hm hv ⟨v,H,I,r,h⟩ hn hd⟩
variable {a b:Expr} {ta tb:TE} {pos:Pos}
def tB (t:TE):TT:=λ σ H Q=>t σ H λ x H1=>∃ c,x=.bl c/\Q c H1
theorem c2y {e:Expr} {t:TE} (h:PE X e t) (he:∀ whole,isTrue e X.env whole=(do let v <- whole;standAt e.pos;holding [v] (truthy v)):=by intro _;rfl):PT X e (tB t):=by
 constructor;intro pins s σ H Q I hw
 refine isTrue_plain (thn (h pins s σ H _ I hw) λ v s1 ⟨x,H1,I1,r1,q1⟩=>?_) (he _)
 obtain⟨d,rfl,q⟩:=q1
 cases r1
 exact wpAny_truthy_bool ⟨H1,I1,q⟩
variable {tA tB':TT} {c7y:List Expr}
def f3v (t u:TT):TT:=λ σ H Q=>t σ H λ c H1=>if c=true then u σ H1 Q else Q false H1
def tOr (t u:TT):TT:=λ σ H Q=>t σ H λ c H1=>if c=true then Q true H1 else u σ H1 Q
def f4a (t:TT):TT:=λ σ H Q=>t σ H λ c H1=>Q (!c) H1
theorem a9b (ha:PT X a tA):PW X (.BoolOp .And [a] pos) tA:=by
 constructor;intro wh pins s σ H Q I h
 refine isTrue_and (thn (ha pins s σ H Q I h) λ c s1 e=>?_)
 cases c with
 | true=>exact isTrue_and_nil e
 | false=>exact e
theorem d4u (ha:PT X a tA):PW X (.BoolOp .Or [a] pos) tA:=by
 constructor;intro wh pins s σ H Q I h
 refine isTrue_or (thn (ha pins s σ H Q I h) λ c s1 e=>?_)
 cases c with
 | false=>exact isTrue_or_nil e
 | true=>exact e
theorem b4h (ha:PT X a tA) (hb:PW X (.BoolOp .And (b::c7y) pos) tB'):PW X (.BoolOp .And (a::b::c7y) pos) (f3v tA tB'):=by
 constructor;intro wh pins s σ H Q I h
 refine isTrue_and (thn (ha pins s σ H _ I h) λ c s1 ⟨H1,I1,q1⟩=>?_)
 cases c with
 | true=>exact hb wh pins s1 σ H1 Q I1 q1
 | false=>exact⟨H1,I1,q1⟩
theorem e0k (ha:PT X a tA) (hb:PW X (.BoolOp .Or (b::c7y) pos) tB'):PW X (.BoolOp .Or (a::b::c7y) pos) (tOr tA tB'):=by
 constructor;intro wh pins s σ H Q I h
 refine isTrue_or (thn (ha pins s σ H _ I h) λ c s1 ⟨H1,I1,q1⟩=>?_)
 cases c with
 | true=>exact⟨H1,I1,q1⟩
 | false=>exact hb wh pins s1 σ H1 Q I1 q1
theorem c8g (ha:PT X a tA):PT X (.UnaryOp .Not a pos) (f4a tA):=by
 constructor;intro pins s σ H Q I h
 exact isTrue_not (ha pins s σ H (λ c H1=>Q (!c) H1) I h)
def f2k (ta tb:TE):TE:=λ σ H Q=>ta σ H λ x H1=>∃ c,x=.bl c/\if c=true then tb σ H1 Q else Q (.bl false) H1
def f1s (ta:TE):TE:=λ σ H Q=>ta σ H λ x H1=>∃ c,x=.bl c/\Q (.bl (!c)) H1
theorem d9m {op} {t:TE} (h:PE X a t):PE X (.BoolOp op [a] pos) t:=⟨λ pins s σ H Q I hw=>BoolOp_one (h pins s σ H Q I hw)⟩
theorem d7n (ha:PE X a ta) (hb:PE X (.BoolOp .And (b::c7y) pos) tb):PE X (.BoolOp .And (a::b::c7y) pos) (f2k ta tb):=by
 constructor;intro pins s σ H Q I h
 refine BoolOp_and (thn (ha pins s σ H _ I h) λ v s1 ⟨x,H1,I1,r1,q1⟩=>?_)
 obtain⟨c,rfl,q1⟩:=q1
 cases r1
 refine wpAny_truthy_bool ?_
 cases c with
 | true=>exact hb pins s1 σ H1 Q I1 q1
 | false=>exact⟨.bl false,H1,I1,rfl,q1⟩
theorem f0p (ha:PE X a ta):PE X (.UnaryOp .Not a pos) (f1s ta):=by
 constructor;intro pins s σ H Q I h
 refine UnaryOp_ (thn (ha pins s σ H _ I h) λ v s1 ⟨x,H1,I1,r1,q1⟩=>?_)
 obtain⟨c,rfl,q1⟩:=q1
 cases r1
 exact not_of (wpAny_truthy_bool ⟨.bl (!c),H1,I1,rfl,q1⟩)
def tIf (t:TT) (ta tb:TE):TE:=λ σ H Q=>t σ H λ c H1=>if c=true then ta σ H1 Q else tb σ H1 Q
theorem e3a {c:Expr} (hc:PT X c tA) (ha:PE X a ta) (hb:PE X b tb):PE X (.IfExp c a b pos) (tIf tA ta tb):=by
 constructor;intro pins s σ H Q I h
 refine wpAny_IfExp (thn (hc pins s σ H _ I h) λ d s1 ⟨H1,I1,q1⟩=>?_)
 cases d with
 | true=>exact ha pins s1 σ H1 Q I1 q1
 | false=>exact hb pins s1 σ H1 Q I1 q1
end
end L2
namespace L2
open PySem PySem.Spec PyProof.Rows
def SqL (K:PySem.W.Frag) (H:Hp) (a:Addr) (xs:List V):Prop :=
 Rd H a (.lst xs) \/
  ∃ (o:Obj) (its:Array Value) (n:Nat),K.lookup a=some o/\o.cls=.type "list"/\o.dict=none/\o.data=.seq its n/\its.size<=sizeLine/\a3o xs its.toList
def SqT (K:PySem.W.Frag) (H:Hp) (a:Addr) (xs:List V):Prop :=
 Rd H a (.tup xs) \/
  ∃ (o:Obj) (its:Array Value) (n:Nat),K.lookup a=some o/\o.cls=.type "tuple"/\o.data=.seq its n/\its.size<=sizeLine/\a3o xs its.toList
def f4i:Value->Option V
 | .none=>some .non
 | .bool b=>some (.bl b)
 | .int i _=>some (.int i)
 | .str x _=>some (.str x)
 | .bytes b _=>some (.byt b)
 | .float b _=>some (.flt b)
 | .ref a=>some (.ref a)
 | .type n=>some (.ty n)
 | _=>none
theorem a3n.abs {x:V} {u:Value} (r:a3n x u):f4i u=some x:=by
 cases x with
 | non=>cases r;rfl
 | bl _=>cases r;rfl
 | int _=>obtain⟨t,rfl⟩:=r;rfl
 | str _=>obtain⟨t,rfl⟩:=r;rfl
 | byt _=>obtain⟨t,rfl⟩:=r;rfl
 | flt _=>obtain⟨t,rfl⟩:=r;rfl
 | ref _=>cases r;rfl
 | ty _=>cases r;rfl
theorem a3n.inj {x y:V} {u:Value} (r:a3n x u) (q:a3n y u):x=y:=Option.some.inj (r.abs.symm.trans q.abs)
theorem a3o.inj:∀ {xs ys:List V} {us:List Value},a3o xs us->a3o ys us->xs=ys
 | _,_,_,.nil,.nil=>rfl
 | _,_,_,.cons r t,.cons r' t'=>by rw[r.inj r',a3o.inj t t']
section
variable {X:Cx} {pins:List (Addr×Obj)} {σ:St} {H:Hp} {s:Shared} {a:Addr} {xs ys:List V}
theorem SqL.of {K:PySem.W.Frag} (h:H a=some (.lst xs)):SqL K H a xs:=.inl (.inl h)
theorem SqT.of {K:PySem.W.Frag} (h:H a=some (.tup xs)):SqT K H a xs:=.inl (.inl h)
theorem Inv.list (I:Inv X pins σ H s) (h:SqL X.K H a xs):∃ its:List Value,a3o xs its/\PlainL s.heap a its.toArray/\xs.length<=sizeLine:=by
 rcases h with h | ⟨o,its,n,hk,hc,hd,hs,hz,r⟩
 ·obtain⟨z,its,n,r,e⟩:=h.ok I.hok
  exact⟨its,r,⟨_,n,e,rfl,rfl,rfl⟩,z⟩
 ·refine⟨its.toList,r,⟨o,n,I.kIn a o hk,hc,hd,by simpa using hs⟩,?_⟩
  have e:=r.length
  simp only [Array.length_toList] at e
  omega
theorem Inv.tuple (I:Inv X pins σ H s) (h:SqT X.K H a xs):∃ its:List Value,a3o xs its/\IsTup s.heap a its.toArray/\xs.length<=sizeLine:=by
 rcases h with h | ⟨o,its,n,hk,hc,hs,hz,r⟩
 ·obtain⟨z,its,r,p⟩:=h.ok I.hok
  exact⟨its,r,p,z⟩
 ·refine⟨its.toList,r,⟨o,I.kIn a o hk,hc,n,by simpa using hs⟩,?_⟩
  have e:=r.length
  simp only [Array.length_toList] at e
  omega
theorem Inv.list_inj (I:Inv X pins σ H s) (h:SqL X.K H a xs) (h':SqL X.K H a ys):xs=ys:=by
 obtain⟨its,r,⟨o,n,e,_,_,d⟩,_⟩:=I.list h
 obtain⟨its',r',⟨o',n',e',_,_,d'⟩,_⟩:=I.list h'
 rw[e] at e';cases e'
 rw[d] at d'
 injection d' with d1 _
 have:its=its':=by simpa using congrArg Array.toList d1
 subst this
 exact r.inj r'
theorem Inv.tuple_inj (I:Inv X pins σ H s) (h:SqT X.K H a xs) (h':SqT X.K H a ys):xs=ys:=by
 obtain⟨its,r,⟨o,e,_,n,d⟩,_⟩:=I.tuple h
 obtain⟨its',r',⟨o',e',_,n',d'⟩,_⟩:=I.tuple h'
 rw[e] at e';cases e'
 rw[d] at d'
 injection d' with d1 _
 have:its=its':=by simpa using congrArg Array.toList d1
 subst this
 exact r.inj r'
end
abbrev Cx.wish (X:Cx) (E:Value->Shared->Prop):Cx:={X with xe:=E}
abbrev Cx.nox (X:Cx):Cx:=X.wish λ _ _=>False
theorem Cx.Ok.wish {X:Cx} (ok:X.Ok) (E:Value->Shared->Prop):(X.wish E).Ok :=
 ⟨ok.mod,ok.kind,ok.glob,ok.blt,ok.above,ok.inj,ok.has,ok.cab,ok.hd,ok.frames,ok.stk,ok.exf,ok.bs,ok.bsz,ok.noex,ok.exfs,ok.funs,ok.frf⟩
theorem Cx.Ok.unwish {X:Cx} {E:Value->Shared->Prop} (ok:(X.wish E).Ok):X.Ok :=
 ⟨ok.mod,ok.kind,ok.glob,ok.blt,ok.above,ok.inj,ok.has,ok.cab,ok.hd,ok.frames,ok.stk,ok.exf,ok.bs,ok.bsz,ok.noex,ok.exfs,ok.funs,ok.frf⟩
section
variable {X:Cx} {pins:List (Addr×Obj)} {σ:St} {H:Hp} {s:Shared} {E:Value->Shared->Prop}
theorem Inv.wish (I:Inv X pins σ H s) (E:Value->Shared->Prop):Inv (X.wish E) pins σ H s:=⟨I.ok.wish E,I.os,I.bare,I.base,I.loc,I.cell,I.free,I.freeC,I.pin,I.hok,I.len⟩
theorem Inv.unwish (I:Inv (X.wish E) pins σ H s):Inv X pins σ H s:=⟨I.ok.unwish,I.os,I.bare,I.base,I.loc,I.cell,I.free,I.freeC,I.pin,I.hok,I.len⟩
theorem SP.unwish {D:c4f} {f:Flow} {s':Shared} (h:SP (X.wish E) pins D f s'):SP X pins D f s':=by
 cases f with
 | next=>obtain⟨σ',H',I,q⟩:=h;exact⟨σ',H',I.unwish,q⟩
 | brk=>obtain⟨σ',H',I,q⟩:=h;exact⟨σ',H',I.unwish,q⟩
 | cont=>obtain⟨σ',H',I,q⟩:=h;exact⟨σ',H',I.unwish,q⟩
 | ret u=>obtain⟨v,σ',H',I,r,q⟩:=h;exact⟨v,σ',H',I.unwish,r,q⟩
theorem PE.nox {e:Expr} {t:TE} (h:PE X.nox e t):PE X e t:=⟨λ pins s σ H Q I hw =>
 wpAny_mono (h pins s σ H Q (I.wish _) hw) (λ _ _ ⟨v,H',I',r,q⟩=>⟨v,H',I'.unwish,r,q⟩) λ _ _ z=>False.elim z⟩
theorem PT.nox {e:Expr} {t:TT} (h:PT X.nox e t):PT X e t:=⟨λ pins s σ H Q I hw =>
 wpAny_mono (h pins s σ H Q (I.wish _) hw) (λ _ _ ⟨H',I',q⟩=>⟨H',I'.unwish,q⟩) λ _ _ z=>False.elim z⟩
theorem PSs.nox {st:List Stmt} {t:TS} (h:PSs X.nox st t):PSs X st t:=⟨λ pins s σ H D I hw =>
 wpAny_mono (h pins s σ H D (I.wish _) hw) (λ _ _ q=>q.unwish) λ _ _ z=>False.elim z⟩
end
section
variable {X:Cx} {st:Stmt} {c7y:List Stmt} {t u:TS} {e:Expr} {te:TE} {pos:Pos}
def f0r:TS:=λ D σ H=>D.nx σ H
def e8t (t u:TS):TS:=λ D σ H=>t {D with nx:=u D} σ H
theorem a1d:PSs X [] f0r:=⟨λ _ _ σ H _ I h=>wpAny_execs_nil ⟨σ,H,I,h⟩⟩
theorem a0e (h1:PS X st t) (h2:PSs X c7y u):PSs X (st::c7y) (e8t t u):=by
 constructor;intro pins s σ H D I h
 refine wpAny_execs_cons (thn (h1 pins s σ H {D with nx:=u D} I h) λ f s1 q=>?_)
 cases f with
 | next =>
  obtain⟨σ',H',I',q⟩:=q
  exact h2 pins s1 σ' H' D I' q
 | ret v=>exact q
 | brk=>exact q
 | cont=>exact q
theorem a0g (h1:PS X st t):PSs X [st] t:=by
 constructor;intro pins s σ H D I h
 refine wpAny_execs_cons (thn (h1 pins s σ H D I h) λ f s1 q=>?_)
 cases f with
 | next=>exact wpAny_execs_nil q
 | ret v=>exact q
 | brk=>exact q
 | cont=>exact q
theorem Inv.quiet {pins:List (Addr×Obj)} {σ:St} {H:Hp} {s:Shared} (I:Inv X pins σ H s):interactive X.env=false:=by simp[interactive,I.ok.kind]
def f0f (te:TE):TS:=λ D σ H=>te σ H λ _ H1=>D.nx σ H1
theorem a6l (he:PE X e te) (hs:swapsWith e none pos.line X.env=pure false:=by rfl):PS X (.Expr e pos) (f0f te):=by
 constructor;intro pins s σ H D I h
 exact wpAny_Expr_any (thn (he pins s σ H _ I h) λ v s1 ⟨x,H1,I1,r1,q1⟩=>⟨σ,H1,I1,q1⟩) I.quiet hs
def f3n (te:TE):TS:=λ D σ H=>te σ H D.rt
theorem a0u (he:PE X e te):PS X (.Return (some e) pos) (f3n te):=by
 constructor;intro pins s σ H D I h
 exact wpAny_Return_some (thn (he pins s σ H _ I h) λ v s1 ⟨x,H1,I1,r1,q1⟩=>⟨x,σ,H1,I1,r1,q1⟩)
def f3r (c:TT) (t u:TS):TS:=λ D σ H=>c σ H λ b H1=>if b=true then t D σ H1 else u D σ H1
theorem a3r {c:Expr} {a b:List Stmt} {tc:TT} (hc:PT X c tc) (ha:PSs X a t) (hb:PSs X b u):PS X (.If c a b pos) (f3r tc t u):=by
 constructor;intro pins s σ H D I h
 refine wpAny_If (thn (hc pins s σ H _ I h) λ d s1 ⟨H1,I1,q1⟩=>?_)
 cases d with
 | true=>exact ha pins s1 σ H1 D I1 q1
 | false=>exact hb pins s1 σ H1 D I1 q1
end
abbrev TG:=V->St->Hp->(St->Hp->Prop)->Prop
abbrev TGs:=List V->St->Hp->(St->Hp->Prop)->Prop
structure PG (X:Cx) (target:Expr) (t:TG):Prop where
 run:∀ (pins:List (Addr×Obj)) (s:Shared) (σ:St) (H:Hp) (v:V) (u:Value) (Q:St->Hp->Prop),Inv X pins σ H s->a3n v u->t v σ H Q ->
  wpAny (model X.prog X.w) X.A (assign target X.env u) (λ _ s'=>∃ σ' H',Inv X pins σ' H' s'/\Q σ' H') X.xe s
instance {X:Cx} {target:Expr} {t:TG}:CoeFun (PG X target t) λ _=>∀ (pins:List (Addr×Obj)) (s:Shared) (σ:St) (H:Hp) (v:V) (u:Value) (Q:St->Hp->Prop),Inv X pins σ H s->a3n v u->t v σ H Q ->
  wpAny (model X.prog X.w) X.A (assign target X.env u) (λ _ s'=>∃ σ' H',Inv X pins σ' H' s'/\Q σ' H') X.xe s:=⟨PG.run⟩
structure PGs (X:Cx) (ts:List Expr) (t:TGs):Prop where
 run:∀ (pins:List (Addr×Obj)) (s:Shared) (σ:St) (H:Hp) (vs:List V) (us:List Value) (Q:St->Hp->Prop),Inv X pins σ H s->a3o vs us->t vs σ H Q ->
  wpAny (model X.prog X.w) X.A (assignInOrder ((assignEach ts X.env).map (·.2)) us) (λ _ s'=>∃ σ' H',Inv X pins σ' H' s'/\Q σ' H') X.xe s
instance {X:Cx} {ts:List Expr} {t:TGs}:CoeFun (PGs X ts t) λ _=>∀ (pins:List (Addr×Obj)) (s:Shared) (σ:St) (H:Hp) (vs:List V) (us:List Value) (Q:St->Hp->Prop),Inv X pins σ H s->a3o vs us->t vs σ H Q ->
  wpAny (model X.prog X.w) X.A (assignInOrder ((assignEach ts X.env).map (·.2)) us) (λ _ s'=>∃ σ' H',Inv X pins σ' H' s'/\Q σ' H') X.xe s:=⟨PGs.run⟩
abbrev f2e:=V->V->V->Hp->(Hp->Prop)->Prop
def f2d (X:Cx) (t:f2e):Prop :=
 ∀ (pins:List (Addr×Obj)) (s:Shared) (σ:St) (H:Hp) (o i v:V) (ov iv u:Value) (Q:Hp->Prop),Inv X pins σ H s->a3n o ov->a3n i iv->a3n v u->t o i v H Q ->
  wpAny (model X.prog X.w) X.A (setItem ov iv u) (λ _ s'=>∃ H',Inv X pins σ H' s'/\Q H') X.xe s
section
variable {X:Cx} {pos:Pos}
def e9h (i:Nat):TG:=λ v σ H Q=>Q (σ.set i (some v)) H
theorem a0j {i:Nat} {x:Str} (hN:X.N.Nodup) (hi:X.N[i]?=some x) (hx:Loc X.env.scope x) (hf:X.fn x=true\/X.env.scope.names.lookup x=some .local:=by first | exact .inl rfl | exact .inr rfl | assumption):PG X (.Name x pos) (e9h i):=by
 constructor;intro pins s σ H v u Q I r h
 exact wpAny_assign_Name (c6c I hN hi hx r (λ s' I'=>⟨_,H,I',h⟩) hf)
def f4r:TGs:=λ vs σ H Q=>vs=[]/\Q σ H
def f2a (t:TG) (u:TGs):TGs:=λ vs σ H Q=>∃ v r,vs=v::r/\t v σ H λ σ' H'=>u r σ' H' Q
theorem a4n:PGs X [] f4r:=by
 constructor;intro pins s σ H vs us Q I r h
 obtain⟨e,h⟩:=h
 subst e
 cases r
 exact assignInOrder_nil ⟨σ,H,I,h⟩
theorem a0s {e:Expr} {es:List Expr} {t:TG} {u:TGs} (h1:PG X e t) (h2:PGs X es u)
  (hs:(assignEach (e::es) X.env).map (·.2)=assign e X.env::(assignEach es X.env).map (·.2):=by rfl):PGs X (e::es) (f2a t u):=by
 constructor;intro pins s σ H vs us Q I r h
 obtain⟨v,vr,e1,h⟩:=h
 subst e1
 cases r with
 | cons r rr =>
  rw[hs]
  refine assignInOrder_cons (thn (h1 pins s σ H _ _ _ I r h) λ _ s1 ⟨σ1,H1,I1,q1⟩=>?_)
  exact h2 pins s1 σ1 H1 _ _ Q I1 rr q1
def f3m (K:PySem.W.Frag) (n:Nat) (t:TGs):TG:=λ v σ H Q=>∃ a xs,v=.ref a/\SqT K H a xs/\xs.length=n/\t xs σ H Q
theorem b1j {es:List Expr} {k:Nat} {t:TGs} {n:Nat} (hc:X.calm=true) (h:PGs X es t)
  (hn:(assignEach es X.env).length=n:=by rfl) (hst:(assignEach es X.env).findIdx? (·.1)=none:=by rfl):PG X (.Tuple es k pos) (f3m X.K n t):=by
 constructor;intro pins s σ H v u Q I r hw
 obtain⟨a,xs,e1,hq,hl,hw⟩:=hw
 subst e1
 cases r
 obtain⟨its,rv,ht,hz⟩:=I.tuple hq
 refine assign_Tuple_tuple (I.ok.hd hc) ht (by simp[hn,<-hl,rv.length]) hst λ h' hx=>?_
 have I1:Inv X pins σ H {s with heap:=h'}:=I.kept (t':=s.toks) λ b o e=>hx b o (Nat.ne_of_lt (Heap.lt_size e)) e
 exact h pins _ σ H xs _ Q I1 (by simpa using rv) hw
def f3t (to ti:TE) (t:f2e):TG:=λ v σ H Q=>to σ H λ o H1=>ti σ H1 λ i H2=>t o i v H2 λ H3=>Q σ H3
theorem d3s {o i:Expr} {to ti:TE} {t:f2e} (ho:PE X o to) (hi:PE X i ti) (hs:f2d X t)
  (ha:∀ v,assign (.Subscript o i pos) X.env v=(do
   let ov <- holding [v] (eval o X.env)
   let iv <- holding [v,ov] (eval i X.env)
   standAt pos
   holding [v,ov,iv] (setItem ov iv v)
   release [v,ov,iv] []):=by intro _;rfl):PG X (.Subscript o i pos) (f3t to ti t):=by
 constructor;intro pins s σ H v u Q I r h
 rw[ha]
 refine wpAny_bind (wpAny_holding (thn (ho pins s σ H _ I h) λ ov s1 ⟨x,H1,I1,r1,q1⟩=>?_))
 refine wpAny_bind (wpAny_holding (thn (hi pins s1 σ H1 _ I1 q1) λ iv s2 ⟨y,H2,I2,r2,q2⟩=>?_))
 refine wpAny_bind (wpAny_standAt (wpAny_bind (wpAny_holding (thn (hs pins s2 σ H2 x y v ov iv u _ I2 r1 r2 r q2) λ _ s3 ⟨H3,I3,q3⟩=>?_))))
 exact wpAny_release ⟨σ,H3,I3,q3⟩
def f2x (te:TE) (g:TG):TS:=λ D σ H=>te σ H λ x H1=>g x σ H1 D.nx
theorem b8j {tg e:Expr} {te:TE} {g:TG} (he:PE X e te) (hg:PG X tg g) (hs:swapsWithSole [tg] e pos.line X.env=pure false:=by rfl) (hw:swappedStores [tg] e X.env=pure none:=by rfl)
  (h1:(assignEach [tg] X.env).map (·.2)=[assign tg X.env]:=by rfl):PS X (.Assign [tg] e pos) (f2x te g):=by
 constructor;intro pins s σ H D I h
 refine wpAny_Assign_stores (thn (he pins s σ H _ I h) λ v s1 ⟨x,H1,I1,r1,q1⟩=>?_) hs hw
 rw[h1]
 exact thn (hg pins s1 σ H1 x v _ I1 r1 q1) λ _ s2 q=>q
theorem a0n {i:Nat} {x:Str} {e:Expr} {te:TE} {pos':Pos} (hN:X.N.Nodup) (hi:X.N[i]?=some x) (hx:Loc X.env.scope x) (he:PE X e te) (hs:swapsWith e (some (.Name x pos')) pos.line X.env=pure false:=by rfl) (hf:X.fn x=true\/X.env.scope.names.lookup x=some .local:=by first | exact .inl rfl | exact .inr rfl | assumption) :
  PS X (.Assign [.Name x pos'] e pos) (f2x te (e9h i)):=by
 constructor;intro pins s σ H D I h
 refine wpAny_Assign_Name (thn (he pins s σ H _ I h) λ v s1 ⟨y,H1,I1,r1,q1⟩=>?_) hs
 exact c6c I1 hN hi hx r1 (λ s2 I2=>⟨_,H1,I2,q1⟩) hf
end
structure It where
 go:Nat->Hp->Prop
 yld:Nat->Hp->V->Hp->Prop
 stop:Nat->Hp->Prop
def d5e (X:Cx) (pins:List (Addr×Obj)) (H:Hp) (b:Addr):Prop :=
 H b=none/\b≠X.env.locals/\b ∉ X.fs/\(b∈X.ex\/X.s₀.heap.objs.size<=b)/\(∀ x c,X.env.cells.lookup x=some c->c≠b)/\∀ p∈X.pn++pins,p.1≠b
theorem Inv.fpOk {X:Cx} {pins:List (Addr×Obj)} {σ:St} {H H':Hp} {s:Shared} {b:Addr} (I:Inv X pins σ H s) (hb:s.heap.objs.size<=b) (hn:H' b=none):d5e X pins H' b:=by
 refine⟨hn,Nat.ne_of_gt (Nat.lt_of_lt_of_le I.lt hb),I.nofs hb,.inr (Nat.le_trans I.sz hb),λ x c e z=>?_,λ p hp z=>?_⟩
 ·obtain⟨v,q⟩:=I.cell x c e
  exact absurd (Nat.lt_of_lt_of_le q.lt (by rw[z];exact hb)) (Nat.lt_irrefl _)
 ·exact absurd (Nat.lt_of_lt_of_le (Heap.lt_size (I.pin p hp).1) (by rw[z];exact hb)) (Nat.lt_irrefl _)
structure e7n (P:Program) (w:World) (K:PySem.W.Frag) (tg:Expr) (J:It) (fp:List Addr) (it:Addr) (tn:Nat->Heap->Prop):Prop where
 mem:it∈fp
 obj:∀ i h,tn i h->∀ b∈fp,∃ o,h.get? b=some o/\∀ v,o.data≠.cell v
 keep:∀ i h h',tn i h->(∀ b∈fp,∀ o,h.get? b=some o->h'.get? b=some o)->tn i h'
 item:∀ (X:Cx),X.prog=P->X.w=w->X.K=K->X.calm=true->∀ (i:Nat) (pins:List (Addr×Obj)) (s:Shared) (σ:St) (H:Hp) (E:Value->Shared->Prop),Inv X pins σ H s->(∀ b∈fp,d5e X pins H b)->tn i s.heap->J.go i H ->
  wpAny (model P w) X.A (pyNext (.ref it)) (λ r s1=>∃ u,r=some u /\
   wpAny (model P w) X.A (letOwnedTupleGo tg (.ref it) u) (λ _ s2=>∃ x H',Inv X pins σ H' s2/\a3n x u/\J.yld i H x H'/\tn (i+1) s2.heap/\∀ b∈fp,H' b=none) E s1) E s
 done:∀ (X:Cx),X.prog=P->X.w=w->X.K=K->X.calm=true->∀ (i:Nat) (pins:List (Addr×Obj)) (s:Shared) (σ:St) (H:Hp) (E:Value->Shared->Prop),Inv X pins σ H s->(∀ b∈fp,d5e X pins H b)->tn i s.heap->J.stop i H ->
  wpAny (model P w) X.A (pyNext (.ref it)) (λ r s1=>r=none/\Inv X pins σ H s1) E s
 self:∀ (A:Around) (i:Nat) (s:Shared) (Q:Value->Shared->Prop) (E:Value->Shared->Prop),tn i s.heap->Q (.ref it) s->wpAny (model P w) A (pyIter (.ref it)) Q E s
abbrev TI:=St->Hp->(It->Hp->Prop)->Prop
def PIE (X:Cx) (pins:List (Addr×Obj)) (σ:St) (tg:Expr) (R:It->Hp->Prop) (itv:Value) (s2:Shared):Prop :=
 ∃ (it:Addr) (fp:List Addr) (tn:Nat->Heap->Prop) (J:It) (H':Hp),itv=.ref it/\Inv X pins σ H' s2/\e7n X.prog X.w X.K tg J fp it tn/\tn 0 s2.heap/\(∀ b∈fp,d5e X pins H' b)/\R J H'
structure PI (X:Cx) (tg iter:Expr) (wi:TI):Prop where
 run:∀ (pins:List (Addr×Obj)) (s:Shared) (σ:St) (H:Hp) (R:It->Hp->Prop),Inv X pins σ H s->wi σ H R ->
  wpAny (model X.prog X.w) X.A (eval iter X.env) (λ v s1=>wpAny (model X.prog X.w) X.A (pyIter v) (PIE X pins σ tg R) X.xe s1) X.xe s
instance {X:Cx} {tg iter:Expr} {wi:TI}:CoeFun (PI X tg iter wi) λ _=>∀ (pins:List (Addr×Obj)) (s:Shared) (σ:St) (H:Hp) (R:It->Hp->Prop),Inv X pins σ H s->wi σ H R ->
  wpAny (model X.prog X.w) X.A (eval iter X.env) (λ v s1=>wpAny (model X.prog X.w) X.A (pyIter v) (PIE X pins σ tg R) X.xe s1) X.xe s:=⟨PI.run⟩
theorem e5s {M:Model} {A:Around} {E:Value->Shared->Prop} {s:Shared} {tg:Expr} {it:Addr} {u:Value} {o:Obj} {n:String} {vs:Array Value} {Q:Unit->Shared->Prop} (ho:s.heap.get? it=some o) (hc:o.cls=.type n) (hd:o.data=.fields vs)
    (hn:["enumerate","zip","dict_itemiterator","dict_reverseitemiterator","odict_iterator","itertools.zip_longest","itertools.pairwise"].contains n=false) (hQ:Q () s):wpAny M A (letOwnedTupleGo tg (.ref it) u) Q E s:=by
  unfold letOwnedTupleGo
  cases tg<;>first
    | exact wpAny_pure hQ
    | (cases u<;>first
        | exact wpAny_pure hQ
        | (refine wpAny_bind (wpAny_load ho ?_)
           rw[hc,hd]
           show wpAny M A (if (["enumerate","zip","dict_itemiterator","dict_reverseitemiterator","odict_iterator","itertools.zip_longest","itertools.pairwise"].contains n && vs[0]? == some (rawInt _))=true then _ else _) Q E s
           rw[if_neg (by intro h;rw[hn,Bool.false_and] at h;cases h)]
           exact wpAny_pure hQ))
def Itl (K:PySem.W.Frag) (a:Addr):It :=
 ⟨λ i H=>∃ xs x,SqL K H a xs/\xs[i]?=some x,λ i H x H'=>H'=H/\∀ xs,SqL K H a xs->xs[i]?=some x,λ i H=>∃ xs,SqL K H a xs/\xs.length<=i⟩
def Itt (K:PySem.W.Frag) (a:Addr):It :=
 ⟨λ i H=>∃ xs x,SqT K H a xs/\xs[i]?=some x,λ i H x H'=>H'=H/\∀ xs,SqT K H a xs->xs[i]?=some x,λ i H=>∃ xs,SqT K H a xs/\xs.length<=i⟩
def Itr (lo:Int) (n:Nat):It:=⟨λ i _=>i < n,λ i H x H'=>H'=H/\x=.int (lo+i),λ i _=>n<=i⟩
theorem d9t {P:Program} {w:World} {K:PySem.W.Frag} {tg:Expr} (a it:Addr):e7n P w K tg (Itl K a) [it] it (λ i h=>h.IsListIter it a i) where
 mem:=by simp
 obj:=λ i h st b hb=>by
  have e:b=it:=by simpa using hb
  subst e
  obtain⟨o,e,c,d⟩:=st
  exact⟨o,e,λ v z=>by rw[d] at z;cases z⟩
 keep:=λ i h h' st k=>st.at λ o e=>k it (by simp) o e
 item:=by
  intro X hP hw hK hc i pins s σ H E I hf st hg
  subst hP hw hK
  obtain⟨xs,x,hq,hx⟩:=hg
  obtain⟨its,rv,p,hz⟩:=I.list hq
  obtain⟨u,hu,ru⟩:=rv.get hx
  obtain⟨f0,f1,f2,f3,f4,f5⟩:=hf it (by simp)
  refine wpAny_pyNext_list_item st p.isList (x:=u) (by simpa using hu) λ h' st' sb=>?_
  have I1:Inv X pins σ H {s with heap:=h'}:=I.turned (t':=s.toks) (λ b o hb e=>(sb.2 b hb).trans e) f0 f1 f3 f4 f5
  obtain⟨o,e,c,d⟩:=id st'
  exact⟨u,rfl,e5s (s:={s with heap:=h'}) e c d (by decide) ⟨x,H,I1,ru,⟨rfl,λ ys hy=>by rw[I.list_inj hy hq];exact hx⟩,st',λ b hb=>(hf b hb).1⟩⟩
 done:=by
  intro X hP hw hK hc i pins s σ H E I hf st hg
  subst hP hw hK
  obtain⟨xs,hq,hx⟩:=hg
  obtain⟨its,rv,p,hz⟩:=I.list hq
  obtain⟨f0,f1,f2,f3,f4,f5⟩:=hf it (by simp)
  have hl:=rv.length
  exact wpAny_pyNext_list_end (I.ok.hd hc) st p.isList (by simp;omega) λ h' eb=>⟨rfl,I.turned (t':=s.toks) (λ b o hb e=>eb b o hb e) f0 f1 f3 f4 f5⟩
 self:=λ _ _ _ _ _ st h=>wpAny_pyIter_listiter st h
theorem d5v {P:Program} {w:World} {K:PySem.W.Frag} {tg:Expr} (it:Addr) (lo:Int) (n:Nat):e7n P w K tg (Itr lo n) [it] it (λ i h=>IsRangeIter h it (lo+(i:Nat)*1) ((n:Int) - (i:Nat)) 1) where
 mem:=by simp
 obj:=λ i h st b hb=>by
  have e:b=it:=by simpa using hb
  subst e
  exact⟨_,st,λ v z=>by
   have z':Data.fields _=Data.cell v:=z
   cases z'⟩
 keep:=λ i h h' st k=>k it (by simp) _ st
 item:=by
  intro X hP hw hK hc i pins s σ H E I hf st hg
  subst hP hw hK
  obtain⟨f0,f1,f2,f3,f4,f5⟩:=hf it (by simp)
  have W:=Walks.range (prog:=X.prog) (w:=X.w) (I.ok.hd hc) it lo 1 n
  refine W.item i s _ _ hg st λ v h' tk hv st' kk=>?_
  obtain⟨t,rfl⟩:=hv
  have I1:Inv X pins σ H {s with heap:=h',toks:=tk}:=I.turned (λ b o hb e=>kk b o (by simpa using hb) e) f0 f1 f3 f4 f5
  refine⟨_,rfl,e5s (s:={s with heap:=h',toks:=tk}) (n:="range_iterator") st' rfl rfl (by decide) ⟨.int (lo+i),H,I1,⟨t,?_⟩,⟨rfl,rfl⟩,st',λ b hb=>(hf b hb).1⟩⟩
  rw[Int.mul_one]
 done:=by
  intro X hP hw hK hc i pins s σ H E I hf st hg
  subst hP hw hK
  obtain⟨f0,f1,f2,f3,f4,f5⟩:=hf it (by simp)
  exact wpAny_pyNext_range_end (I.ok.hd hc) st (by have:n<=i:=hg;omega) λ h' eb=>⟨rfl,I.turned (t':=s.toks) (λ b o hb e=>eb b o hb e) f0 f1 f3 f4 f5⟩
 self:=λ _ _ _ _ _ st h=>wpAny_pyIter_rangeiter st h
end L2
namespace L2
open PySem PySem.Spec PyProof.Rows
section
variable {X:Cx} {tg:Expr}
def f0d (K:PySem.W.Frag) (tl:TE):TI:=λ σ H R=>tl σ H λ x H1=>∃ a,x=.ref a/\(∃ xs,SqL K H1 a xs)/\R (Itl K a) H1
theorem a1t {l:Expr} {tl:TE} (hl:PE X l tl):PI X tg l (f0d X.K tl):=by
 constructor;intro pins s σ H R I h
 refine thn (hl pins s σ H _ I h) λ v s1 ⟨x,H1,I1,r1,q1⟩=>?_
 obtain⟨a,e,⟨xs,hq⟩,q⟩:=q1
 subst e
 cases r1
 obtain⟨its,rv,p,hz⟩:=I1.list hq
 refine wpAny_pyIter_list p.isList ?_
 refine⟨s1.heap.objs.size,[s1.heap.objs.size],_,_,H1,rfl,I1.kept (t':=s1.toks) λ b o e=>Heap.get?_push_of_some _ e,d9t a _,⟨_,Heap.get?_push_size _ rfl,rfl,rfl⟩,λ b hb=>?_,q⟩
 have e:b=s1.heap.objs.size:=by simpa using hb
 subst e
 exact I1.fpOk (Nat.le_refl _) (I1.hok.fresh (Nat.le_refl _))
theorem range_it {pins:List (Addr×Obj)} {σ:St} {H:Hp} {s:Shared} {R:It->Hp->Prop} {E:Value->Shared->Prop} {lo hi:Int} {t u v:Tok} {tk:Nat} (I:Inv X pins σ H s) (h1:-(2 ^ 62)<=lo) (h2:lo < 2 ^ 62) (h3:-(2 ^ 62)<=hi) (h4:hi < 2 ^ 62)
  (q:R (Itr lo (hi - lo).toNat) H):wpAny (model X.prog X.w) X.A (pyIter (.ref s.heap.objs.size)) (PIE X pins σ tg R) E {s with heap:=s.heap.push {cls:=.type "range",data:=.fields #[.int lo t,.int hi u,.int 1 v]},toks:=tk}:=by
 refine wpAny_pyIter_range (IsRange.new ..) (small_one h1 h2 h3 h4) ?_
 have I1:Inv X pins σ H {s with heap:=s.heap.push {cls:=.type "range",data:=.fields #[.int lo t,.int hi u,.int 1 v]},toks:=tk}:=I.kept λ b o e=>Heap.get?_push_of_some _ e
 refine⟨(s.heap.push {cls:=.type "range",data:=.fields #[.int lo t,.int hi u,.int 1 v]}).objs.size,[(s.heap.push {cls:=.type "range",data:=.fields #[.int lo t,.int hi u,.int 1 v]}).objs.size],_,_,H,rfl,
  I1.kept (t':=tk) λ b o e=>Heap.get?_push_of_some _ e,d5v _ lo (hi - lo).toNat,?_,λ b hb=>?_,q⟩
 ·have e1:lo+((0:Nat):Int)*1=lo:=by simp
  have e2:(((hi - lo).toNat:Nat):Int) - ((0:Nat):Int)=Builtin.Range.rangeSize lo hi 1:=by rw[rangeSize_one];split<;>omega
  show IsRangeIter _ _ (lo+((0:Nat):Int)*1) ((((hi - lo).toNat:Nat):Int) - ((0:Nat):Int)) 1
  rw[e1,e2]
  exact Heap.get?_push_size _ rfl
 ·have e:b=(s.heap.push {cls:=.type "range",data:=.fields #[.int lo t,.int hi u,.int 1 v]}).objs.size:=by simpa using hb
  subst e
  exact I1.fpOk (Nat.le_refl _) (I1.hok.fresh (Nat.le_refl _))
def f2w (ta:TA):TI:=λ σ H R=>ta σ H λ vs H1=>∃ j:Int,vs=[.int j]/\-(2 ^ 62)<=j/\j < 2 ^ 62/\R (Itr 0 j.toNat) H1
theorem a1q {a:Expr} {ta:TA} {p pos:Pos} (hg:Gl X "range") (hm:X.mg "range"=none) (ha:PA X [a] ta) (hs:starEach [a] X.env=[(false,eval a X.env)]:=by rfl):PI X tg (.Call (.Name "range" p) [a] [] pos) (f2w ta):=by
 constructor;intro pins s σ H R I h
 refine Call_ (c4p I hg hm boot_range (PyProof.Rows.callWith_type1 (thn (ha pos pins s σ H _ I h) λ us s1 ⟨vs,H1,I1,r1,q1⟩=>?_) hs rfl))
 obtain⟨j,e,q1,q2,q⟩:=q1
 subst e
 cases r1 with
 | cons r rr =>
  cases rr
  obtain⟨t,rfl⟩:=r
  exact call_range_1 (range_it I1 (by omega) (by omega) q1 q2 (by simpa using q))
def f4j (wi:TI) (g:TG) (tb:TS):TS:=λ D σ H=>wi σ H λ J H1=>∃ W:Nat->Nat->St->Hp->Prop,(∃ m,W 0 m σ H1)/\∀ i m σ H,W i m σ H ->
 (J.stop i H/\D.nx σ H)\/(J.go i H/\∃ N:St->Hp->Prop,(∀ σ' H',N σ' H'->∃ m',m' < m/\W (i+1) m' σ' H')/\∀ x H',J.yld i H x H'->g x σ H' λ σ2 H2=>tb {D with nx:=N,ct:=N,bk:=D.nx} σ2 H2)
def c8c (fp:List Addr) (h:Heap):List (Addr×Obj):=fp.filterMap λ b=>(h.get? b).map λ o=>(b,o)
theorem b3c {fp:List Addr} {h:Heap} {b:Addr} {o:Obj} (hb:b∈fp) (e:h.get? b=some o):(b,o)∈c8c fp h:=List.mem_filterMap.mpr ⟨b,hb,by rw[e];rfl⟩
theorem d8k {fp:List Addr} {h:Heap} {p:Addr×Obj} (hp:p∈c8c fp h):p.1∈fp/\h.get? p.1=some p.2:=by
 obtain⟨b,hb,e⟩:=List.mem_filterMap.mp hp
 cases q:h.get? b with
 | none=>rw[q] at e;cases e
 | some o =>
  rw[q] at e
  have e':(b,o)=p:=Option.some.inj e
  subst e'
  exact⟨hb,q⟩
theorem Inv.pinned {pins:List (Addr×Obj)} {σ:St} {H:Hp} {s:Shared} {fp:List Addr} (I:Inv X pins σ H s) (hf:∀ b∈fp,d5e X pins H b) (ho:∀ b∈fp,∃ o,s.heap.get? b=some o/\∀ v,o.data≠.cell v):Inv X (pins++c8c fp s.heap) σ H s :=
 I.pins_of λ p hp=>(List.mem_append.mp hp).elim (λ z=>I.pin p (List.mem_append_right _ z)) λ z=>by
  obtain⟨hb,e⟩:=d8k z
  obtain⟨f0,f1,f2,_⟩:=hf p.1 hb
  obtain⟨o,e',d⟩:=ho p.1 hb
  rw[e] at e';cases e'
  exact⟨e,f0,f1,f2,d⟩
theorem Inv.unpinned {pins pl:List (Addr×Obj)} {σ:St} {H:Hp} {s:Shared} (I:Inv X (pins++pl) σ H s):Inv X pins σ H s:=I.pins_of λ p hp=>I.pin p (List.mem_append_right _ (List.mem_append_left _ hp))
theorem a2q {iter:Expr} {body:List Stmt} {wi:TI} {g:TG} {tb:TS} {pos:Pos} (hp:PassesOwn (model X.prog X.w) X.A X.env X.xe) (hc:X.calm=true) (hi:PI X tg iter wi) (hg:PG X tg g) (hb:PSs X body tb)
  (hs:∀ x,foldedSetIterable iter X.env x=pure x:=by intro _;rfl):PS X (.For tg iter body [] pos) (f4j wi g tb):=by
 constructor;intro pins s σ H D I h
 refine wpAny_For (thn (hi pins s σ H _ I h) λ v s1 h1=>thn h1 λ itv s2 h2=>?_) hs
 obtain⟨it,fp,tn,J,H2,e,I2,T,st2,f2,W,⟨m0,w0⟩,turn⟩:=h2
 subst e
 have stat:∀ {H':Hp},(∀ b∈fp,H' b=none)->∀ b∈fp,d5e X pins H' b:=λ hn b hb=>⟨hn b hb,(f2 b hb).2⟩
 refine codeAny_forLoop_any (λ n s'=>∃ i σ' H',Inv X pins σ' H' s'/\tn i s'.heap/\(∀ b∈fp,H' b=none)/\W i n σ' H') ?_ m0 ⟨0,σ,H2,I2,st2,λ b hb=>(f2 b hb).1,w0⟩
 rintro n s3 ⟨i,σ3,H3,I3,st3,fr3,w3⟩
 rcases turn i n σ3 H3 w3 with ⟨stop,qn⟩ | ⟨go,N,hN,step⟩
 ·refine wpAny_passesOwn hp (thn (T.done X rfl rfl rfl hc i pins s3 σ3 H3 X.xe I3 (stat fr3) st3 stop) λ r s4 ⟨hr,I4⟩=>?_)
  subst hr
  exact wpAny_execs_nil ⟨σ3,H3,I4,qn⟩
 ·refine wpAny_passesOwn hp (thn (T.item X rfl rfl rfl hc i pins s3 σ3 H3 X.xe I3 (stat fr3) st3 go) λ r s4 ⟨u,hr,h4⟩=>?_)
  subst hr
  refine wpAny_passesOwn hp (thn h4 λ _ s5 ⟨x,H5,I5,r5,y5,st5,fr5⟩=>?_)
  have I5':=I5.pinned (stat fr5) (T.obj _ _ st5)
  refine wpAny_passesOwn hp (thn (hg _ s5 σ3 H5 x u _ I5' r5 (step x H5 y5)) λ _ s6 ⟨σ6,H6,I6,q6⟩=>?_)
  refine wpAny_passesOwn hp (thn (hb _ s6 σ6 H6 _ I6 q6) λ f s7 q7=>?_)
  have again:∀ {σ7:St} {H7:Hp},Inv X (pins++c8c fp s5.heap) σ7 H7 s7->N σ7 H7->∃ m,m < n/\∃ i σ' H',Inv X pins σ' H' s7/\tn i s7.heap/\(∀ b∈fp,H' b=none)/\W i m σ' H':=λ {σ7 H7} I7 n7=>by
   obtain⟨m',hm,w7⟩:=hN σ7 H7 n7
   refine⟨m',hm,i+1,σ7,H7,I7.unpinned,T.keep _ _ _ st5 λ b hb o e=>(I7.pin (b,o) (List.mem_append_right _ (List.mem_append_right _ (b3c hb e)))).1,λ b hb=>?_,w7⟩
   obtain⟨o,e,d⟩:=T.obj _ _ st5 b hb
   exact(I7.pin (b,o) (List.mem_append_right _ (List.mem_append_right _ (b3c hb e)))).2.1
  cases f with
  | next=>obtain⟨σ7,H7,I7,n7⟩:=q7;exact again I7 n7
  | cont=>obtain⟨σ7,H7,I7,n7⟩:=q7;exact again I7 n7
  | brk=>obtain⟨σ7,H7,I7,q7⟩:=q7;exact⟨σ7,H7,I7.unpinned,q7⟩
  | ret v=>obtain⟨x7,σ7,H7,I7,r7,q7⟩:=q7;exact⟨x7,σ7,H7,I7.unpinned,r7,q7⟩
end
theorem a4u {K:PySem.W.Frag} {a:Addr} {xs:List V} {g:TG} {tb:TS} {D:c4f} {σ:St} {H:Hp} (Pv:Nat->St->Hp->Prop) (h0:Pv 0 σ H) (hl:∀ i σ H,i<=xs.length->Pv i σ H->SqL K H a xs)
  (hs:∀ i x σ H,xs[i]?=some x->Pv i σ H->g x σ H λ σ2 H2=>tb {D with nx:=Pv (i+1),ct:=Pv (i+1),bk:=D.nx} σ2 H2) (hd:∀ σ H,Pv xs.length σ H->D.nx σ H) :
  ∃ W:Nat->Nat->St->Hp->Prop,(∃ m,W 0 m σ H)/\∀ i m σ H,W i m σ H ->
   ((Itl K a).stop i H/\D.nx σ H)\/((Itl K a).go i H/\∃ N:St->Hp->Prop,(∀ σ' H',N σ' H'->∃ m',m' < m/\W (i+1) m' σ' H')/\∀ x H',(Itl K a).yld i H x H'->g x σ H' λ σ2 H2=>tb {D with nx:=N,ct:=N,bk:=D.nx} σ2 H2):=by
 refine⟨λ i m σ H=>m=xs.length - i/\i<=xs.length/\Pv i σ H,⟨xs.length,by simp,Nat.zero_le _,h0⟩,?_⟩
 rintro i m σ H ⟨rfl,hi,p⟩
 have q:=hl i σ H hi p
 by_cases hlt:i < xs.length
 ·refine .inr ⟨⟨xs,xs[i],q,by simp[hlt]⟩,Pv (i+1),λ σ' H' p'=>⟨xs.length - (i+1),by omega,rfl,hlt,p'⟩,λ x H' y=>?_⟩
  obtain⟨e,y⟩:=y
  subst e
  exact hs i x σ _ (y xs q) p
 ·have e:i=xs.length:=by omega
  subst e
  exact .inl ⟨⟨xs,q,Nat.le_refl _⟩,hd σ H p⟩
theorem a2h {lo:Int} {n:Nat} {g:TG} {tb:TS} {D:c4f} {σ:St} {H:Hp} (Pv:Nat->St->Hp->Prop) (h0:Pv 0 σ H)
  (hs:∀ i σ H,i < n->Pv i σ H->g (.int (lo+i)) σ H λ σ2 H2=>tb {D with nx:=Pv (i+1),ct:=Pv (i+1),bk:=D.nx} σ2 H2) (hd:∀ σ H,Pv n σ H->D.nx σ H) :
  ∃ W:Nat->Nat->St->Hp->Prop,(∃ m,W 0 m σ H)/\∀ i m σ H,W i m σ H ->
   ((Itr lo n).stop i H/\D.nx σ H)\/((Itr lo n).go i H/\∃ N:St->Hp->Prop,(∀ σ' H',N σ' H'->∃ m',m' < m/\W (i+1) m' σ' H')/\∀ x H',(Itr lo n).yld i H x H'->g x σ H' λ σ2 H2=>tb {D with nx:=N,ct:=N,bk:=D.nx} σ2 H2):=by
 refine⟨λ i m σ H=>m=n - i/\i<=n/\Pv i σ H,⟨n,by simp,Nat.zero_le _,h0⟩,?_⟩
 rintro i m σ H ⟨rfl,hi,p⟩
 by_cases hlt:i < n
 ·refine .inr ⟨hlt,Pv (i+1),λ σ' H' p'=>⟨n - (i+1),by omega,rfl,hlt,p'⟩,λ x H' y=>?_⟩
  obtain⟨e,y⟩:=y
  subst e y
  exact hs i σ _ hlt p
 ·have e:i=n:=by omega
  subst e
  exact .inl ⟨Nat.le_refl _,hd σ H p⟩
end L2
namespace L2
open PySem PySem.Spec PyProof.Rows
abbrev R2:=V->V->Hp->VK->Prop
def OpR (X:Cx) (f:Value->Value->Sem Value) (r:R2):Prop :=
 ∀ (pins:List (Addr×Obj)) (s:Shared) (σ:St) (H:Hp) (x y:V) (v u:Value) (Q:VK),Inv X pins σ H s->a3n x v->a3n y u->r x y H Q ->
  wpAny (model X.prog X.w) X.A (f v u) (EP X pins σ Q) X.xe s
def UnR (X:Cx) (f:Value->Sem Value) (r:V->Hp->VK->Prop):Prop :=
 ∀ (pins:List (Addr×Obj)) (s:Shared) (σ:St) (H:Hp) (x:V) (v:Value) (Q:VK),Inv X pins σ H s->a3n x v->r x H Q ->
  wpAny (model X.prog X.w) X.A (f v) (EP X pins σ Q) X.xe s
def b7n (X:Cx) (f:Value) (r:List V->Hp->VK->Prop):Prop :=
 ∀ (pins:List (Addr×Obj)) (s:Shared) (σ:St) (H:Hp) (xs:List V) (us:List Value) (Q:VK),Inv X pins σ H s->a3o xs us->r xs H Q ->
  wpAny (model X.prog X.w) X.A (call f us) (EP X pins σ Q) X.xe s
def tOp (r:R2) (ta tb:TE):TE:=λ σ H Q=>ta σ H λ x H1=>tb σ H1 λ y H2=>r x y H2 Q
def tUn (r:V->Hp->VK->Prop) (ta:TE):TE:=λ σ H Q=>ta σ H λ x H1=>r x H1 Q
def rI (C:Int->Int->Prop) (g:Int->Int->V):R2:=λ x y H Q=>∃ i j,x=.int i/\y=.int j/\C i j/\Q (g i j) H
def rI0 (g:Int->Int->V):R2:=λ x y H Q=>∃ i j,x=.int i/\y=.int j/\Q (g i j) H
def rU (g:Int->V):V->Hp->VK->Prop:=λ x H Q=>∃ i,x=.int i/\Q (g i) H
section
variable {X:Cx} {a b c:Expr} {ta tb tc:TE} {pos:Pos}
theorem f3d (ha:PE X a ta) (hb:PE X b tb) {pins:List (Addr×Obj)} {s:Shared} {σ:St} {H:Hp} {R:V->V->Hp->Prop} (I:Inv X pins σ H s)
  (h:ta σ H λ x H1=>tb σ H1 λ y H2=>R x y H2) {Q:Value->Shared->Prop} {f:Value->Value->Sem Value}
  (hf:∀ v u s2 x y H2,Inv X pins σ H2 s2->a3n x v->a3n y u->R x y H2->wpAny (model X.prog X.w) X.A (f v u) Q X.xe s2) :
  wpAny (model X.prog X.w) X.A (eval a X.env) (λ v s₁=>wpAny (model X.prog X.w) X.A (eval b X.env) (λ u s₂=>wpAny (model X.prog X.w) X.A (f v u) Q X.xe s₂) X.xe s₁) X.xe s:=by
 refine thn (ha pins s σ H _ I h) λ v s1 ⟨x,H1,I1,r1,q1⟩=>?_
 refine thn (hb pins s1 σ H1 _ I1 q1) λ u s2 ⟨y,H2,I2,r2,q2⟩=>?_
 exact hf v u s2 x y H2 I2 r1 r2 q2
theorem a0x {op:Operator} {r:R2} (ho:OpR X (binaryOp op) r) (ha:PE X a ta) (hb:PE X b tb):PE X (.BinOp a op b pos) (tOp r ta tb):=by
 constructor;intro pins s σ H Q I h
 exact wpAny_BinOp (f3d ha hb I h λ v u s2 x y H2 I2 rx ry q=>ho pins s2 σ H2 x y v u Q I2 rx ry q)
theorem d5j {op:UnaryOp} {r:V->Hp->VK->Prop} (ho:UnR X (unaryOp op) r) (ha:PE X a ta):PE X (.UnaryOp op a pos) (tUn r ta):=by
 constructor;intro pins s σ H Q I h
 exact UnaryOp_ (thn (ha pins s σ H _ I h) λ v s1 ⟨x,H1,I1,r1,q1⟩=>ho pins s1 σ H1 x v Q I1 r1 q1)
theorem opI {f:Value->Value->Sem Value} {C:Int->Int->Prop} {g:Int->Int->Int}
  (rule:∀ (i j:Int) (t u:Tok) (s:Shared) (Q:Value->Shared->Prop) (E:Value->Shared->Prop),C i j->Q (.int (g i j) s.toks) {s with toks:=s.toks+1}->wpAny (model X.prog X.w) X.A (f (.int i t) (.int j u)) Q E s) :
  OpR X f (rI C λ i j=>.int (g i j)):=by
 intro pins s σ H x y v u Q I rx ry h
 obtain⟨i,j,rfl,rfl,hc,q⟩:=h
 obtain⟨t,rfl⟩:=rx
 obtain⟨t',rfl⟩:=ry
 exact rule i j t t' s _ _ hc ⟨.int (g i j),H,I.tok _,⟨_,rfl⟩,q⟩
theorem f3o {f:Value->Value->Sem Value} {g:Int->Int->Int}
  (rule:∀ (i j:Int) (t u:Tok) (s:Shared) (Q:Value->Shared->Prop) (E:Value->Shared->Prop),Q (.int (g i j) s.toks) {s with toks:=s.toks+1}->wpAny (model X.prog X.w) X.A (f (.int i t) (.int j u)) Q E s) :
  OpR X f (rI0 λ i j=>.int (g i j)):=by
 intro pins s σ H x y v u Q I rx ry h
 obtain⟨i,j,rfl,rfl,q⟩:=h
 obtain⟨t,rfl⟩:=rx
 obtain⟨t',rfl⟩:=ry
 exact rule i j t t' s _ _ ⟨.int (g i j),H,I.tok _,⟨_,rfl⟩,q⟩
theorem f1n {f:Value->Value->Sem Value} {g:Int->Int->Bool}
  (rule:∀ (i j:Int) (t u:Tok) (s:Shared) (Q:Value->Shared->Prop) (E:Value->Shared->Prop),Q (.bool (g i j)) s->wpAny (model X.prog X.w) X.A (f (.int i t) (.int j u)) Q E s) :
  OpR X f (rI0 λ i j=>.bl (g i j)):=by
 intro pins s σ H x y v u Q I rx ry h
 obtain⟨i,j,rfl,rfl,q⟩:=h
 obtain⟨t,rfl⟩:=rx
 obtain⟨t',rfl⟩:=ry
 exact rule i j t t' s _ _ ⟨.bl (g i j),H,I,rfl,q⟩
def f4k (i j:Int):Prop:=0 < j/\j < 1073741824
def f4b (i j:Int):Prop:=0<=j/\j<=1000000/\i.natAbs < 2 ^ 64
def f2n (i j:Int):Prop:=(-(2 ^ 64) < i/\i < 2 ^ 64)\/(-(2 ^ 64) < j/\j < 2 ^ 64)
theorem f2n.ok {i j:Int} (h:f2n i j):IntMulOk i j:=by
 rcases h with ⟨h1,h2⟩ | ⟨h1,h2⟩
 ·exact .of_left (intBits_le_64 h1 h2)
 ·exact .of_right (intBits_le_64 h1 h2)
theorem a3v:OpR X (binaryOp .Add) (rI0 λ i j=>.int (i+j)):=f3o λ _ _ _ _ _ _ _ q=>add_int q
theorem c4l:OpR X (binaryOp .Sub) (rI0 λ i j=>.int (i - j)):=f3o λ _ _ _ _ _ _ _ q=>sub_int q
theorem c2q:OpR X (binaryOp .Mult) (rI f2n λ i j=>.int (i*j)):=opI λ _ _ _ _ _ _ _ hc q=>mul_int q hc.ok
theorem a7s:OpR X (binaryOp .FloorDiv) (rI f4k λ i j=>.int (i / j)):=opI λ i j _ _ _ _ _ hc q=>by
 have h1:(0:Int) < j:=hc.1
 have h2:j < 1073741824:=hc.2
 exact floordiv_int (by omega) (by rw[Int.fdiv_eq_ediv_of_nonneg i (by omega)];exact q) (.inl (PyProof.noPylong_small (by omega)))
theorem a1v:OpR X (binaryOp .Mod) (rI (λ _ j=>0 < j) λ i j=>.int (i%j)):=opI λ i j _ _ _ _ _ hc q=>by
 have h1:(0:Int) < j:=hc
 exact mod_int' (by omega) (by rw[Int.fmod_eq_emod_of_nonneg i (by omega)];exact q)
theorem e4v:OpR X (binaryOp .Pow) (rI f4b λ i j=>.int (i ^ j.toNat)):=opI λ _ _ _ _ _ _ _ hc q=>pow_int_small hc.1 hc.2.1 hc.2.2 q
theorem unI {f:Value->Sem Value} {g:Int->Int}
  (rule:∀ (i:Int) (t:Tok) (s:Shared) (Q:Value->Shared->Prop) (E:Value->Shared->Prop),Q (.int (g i) s.toks) {s with toks:=s.toks+1}->wpAny (model X.prog X.w) X.A (f (.int i t)) Q E s) :
  UnR X f (rU λ i=>.int (g i)):=by
 intro pins s σ H x v Q I rx h
 obtain⟨i,rfl,q⟩:=h
 obtain⟨t,rfl⟩:=rx
 exact rule i t s _ _ ⟨.int (g i),H,I.tok _,⟨_,rfl⟩,q⟩
theorem c4e:UnR X (unaryOp .USub) (rU λ i=>.int (-i)):=unI λ _ _ _ _ _ q=>neg_int q
end
def f1p:V->V->Bool
 | .non,.non=>true | .non,.int _=>true | .int _,.non=>true | .non,.bl _=>true | .bl _,.non=>true | .non,.str _=>true | .str _,.non=>true
 | .int _,.int _=>true | .bl _,.bl _=>true | .str _,.str _=>true | .byt _,.byt _=>true
 | .int _,.str _=>true | .str _,.int _=>true | .bl _,.str _=>true | .str _,.bl _=>true
 | _,_=>false
def rEq:R2:=λ x y H Q=>f1p x y=true/\Q (.bl (decide (x=y))) H
def rNe:R2:=λ x y H Q=>f1p x y=true/\Q (.bl (!decide (x=y))) H
theorem d8y {i j:Int}:decide (V.int i=V.int j)=(i == j):=by
 rw[Bool.eq_iff_iff]
 simp
theorem e4r {i j:Bool}:decide (V.bl i=V.bl j)=(i == j):=by
 rw[Bool.eq_iff_iff]
 simp
theorem d9q {i j:Str}:decide (V.str i=V.str j)=(i == j):=by
 rw[Bool.eq_iff_iff]
 simp
theorem e0h {i j:Array UInt8}:decide (V.byt i=V.byt j)=(i.toList == j.toList):=by
 rw[Bool.eq_iff_iff]
 cases i
 cases j
 simp
section
variable {X:Cx} {a b c:Expr} {ta tb tc:TE} {pos:Pos}
theorem a1z {pins:List (Addr×Obj)} {σ:St} {H:Hp} {s:Shared} {Q:VK} {k k':Bool} (I:Inv X pins σ H s) (q:Q (.bl k) H) (e:k=k'):EP X pins σ Q (.bool k') s:=by
 subst e
 exact⟨.bl k,H,I,rfl,q⟩
theorem a7v:OpR X (compareOp .Eq) rEq:=by
 intro pins s σ H x y v u Q I rx ry h
 obtain⟨hs,q⟩:=h
 cases x with
 | non =>
  cases rx
  cases y with
  | non=>cases ry;exact PySem.EqNone.eq_none_none (a1z I q (by simp))
  | bl j=>cases ry;exact PySem.EqNone.eq_none_bool (a1z I q (by simp))
  | int j=>obtain⟨t',rfl⟩:=ry;exact PySem.EqNone.eq_none_int (a1z I q (by simp))
  | str j=>obtain⟨t',rfl⟩:=ry;exact PySem.EqNone.eq_none_str (a1z I q (by simp))
  | _=>exact absurd (show false=true from hs) Bool.false_ne_true
 | bl i =>
  cases rx
  cases y with
  | non=>cases ry;exact PySem.EqNone.eq_bool_none (a1z I q (by simp))
  | bl j=>cases ry;exact eq_bool (a1z I q e4r)
  | str j=>obtain⟨t',rfl⟩:=ry;exact PySem.EqMixed.eq_bool_str (a1z I q (by simp))
  | _=>exact absurd (show false=true from hs) Bool.false_ne_true
 | int i =>
  obtain⟨t,rfl⟩:=rx
  cases y with
  | non=>cases ry;exact PySem.EqNone.eq_int_none (a1z I q (by simp))
  | int j=>obtain⟨t',rfl⟩:=ry;exact eq_int (a1z I q d8y)
  | str j=>obtain⟨t',rfl⟩:=ry;exact PySem.EqMixed.eq_int_str (a1z I q (by simp))
  | _=>exact absurd (show false=true from hs) Bool.false_ne_true
 | str i =>
  obtain⟨t,rfl⟩:=rx
  cases y with
  | non=>cases ry;exact PySem.EqNone.eq_str_none (a1z I q (by simp))
  | bl j=>cases ry;exact PySem.EqMixed.eq_str_bool (a1z I q (by simp))
  | int j=>obtain⟨t',rfl⟩:=ry;exact PySem.EqMixed.eq_str_int (a1z I q (by simp))
  | str j=>obtain⟨t',rfl⟩:=ry;exact eq_str (a1z I q d9q)
  | _=>exact absurd (show false=true from hs) Bool.false_ne_true
 | byt i =>
  obtain⟨t,rfl⟩:=rx
  cases y with
  | byt j=>obtain⟨t',rfl⟩:=ry;exact PySem.W.eq_bytes (a1z I q e0h)
  | _=>exact absurd (show false=true from hs) Bool.false_ne_true
 | _=>cases y<;>exact absurd (show false=true from hs) Bool.false_ne_true
theorem d3h:OpR X (compareOp .NotEq) rNe:=by
 intro pins s σ H x y v u Q I rx ry h
 obtain⟨hs,q⟩:=h
 cases x with
 | non =>
  cases rx
  cases y with
  | non=>cases ry;exact PySem.EqNone.ne_none_none (a1z I q (by simp))
  | bl j=>cases ry;exact PySem.EqNone.ne_none_bool (a1z I q (by simp))
  | int j=>obtain⟨t',rfl⟩:=ry;exact PySem.EqNone.ne_none_int (a1z I q (by simp))
  | str j=>obtain⟨t',rfl⟩:=ry;exact PySem.EqNone.ne_none_str (a1z I q (by simp))
  | _=>exact absurd (show false=true from hs) Bool.false_ne_true
 | bl i =>
  cases rx
  cases y with
  | non=>cases ry;exact PySem.EqNone.ne_bool_none (a1z I q (by simp))
  | bl j=>cases ry;exact ne_bool (a1z I q (congrArg not e4r))
  | str j=>obtain⟨t',rfl⟩:=ry;exact PySem.EqMixed.ne_bool_str (a1z I q (by simp))
  | _=>exact absurd (show false=true from hs) Bool.false_ne_true
 | int i =>
  obtain⟨t,rfl⟩:=rx
  cases y with
  | non=>cases ry;exact PySem.EqNone.ne_int_none (a1z I q (by simp))
  | int j=>obtain⟨t',rfl⟩:=ry;exact ne_int (a1z I q (congrArg not d8y))
  | str j=>obtain⟨t',rfl⟩:=ry;exact PySem.EqMixed.ne_int_str (a1z I q (by simp))
  | _=>exact absurd (show false=true from hs) Bool.false_ne_true
 | str i =>
  obtain⟨t,rfl⟩:=rx
  cases y with
  | non=>cases ry;exact PySem.EqNone.ne_str_none (a1z I q (by simp))
  | bl j=>cases ry;exact PySem.EqMixed.ne_str_bool (a1z I q (by simp))
  | int j=>obtain⟨t',rfl⟩:=ry;exact PySem.EqMixed.ne_str_int (a1z I q (by simp))
  | str j=>obtain⟨t',rfl⟩:=ry;exact ne_str (a1z I q (congrArg not d9q))
  | _=>exact absurd (show false=true from hs) Bool.false_ne_true
 | byt i =>
  obtain⟨t,rfl⟩:=rx
  cases y with
  | byt j=>obtain⟨t',rfl⟩:=ry;exact PySem.W.ne_bytes (a1z I q (congrArg not e0h))
  | _=>exact absurd (show false=true from hs) Bool.false_ne_true
 | _=>cases y<;>exact absurd (show false=true from hs) Bool.false_ne_true
theorem c9c:OpR X (compareOp .Lt) (rI0 λ i j=>.bl (decide (i < j))):=f1n λ _ _ _ _ _ _ _ q=>lt_int q
theorem f2u:OpR X (compareOp .LtE) (rI0 λ i j=>.bl (decide (i<=j))):=f1n λ _ _ _ _ _ _ _ q=>le_int q
theorem e6j:OpR X (compareOp .Gt) (rI0 λ i j=>.bl (decide (j < i))):=f1n λ _ _ _ _ _ _ _ q=>gt_int q
theorem e7p:OpR X (compareOp .GtE) (rI0 λ i j=>.bl (decide (j<=i))):=f1n λ _ _ _ _ _ _ _ q=>ge_int q
theorem d7h:OpR X (compareOp .Is) (λ x y H Q=>y=.non/\Q (.bl (decide (x=.non))) H):=by
 intro pins s σ H x y v u Q I rx ry h
 obtain⟨rfl,q⟩:=h
 cases ry
 refine is_none_gen (a1z I q ?_)
 cases x<;>first
  | (cases rx;rfl)
  | (obtain⟨t,rfl⟩:=rx;rfl)
theorem d8q:OpR X (compareOp .IsNot) (λ x y H Q=>y=.non/\Q (.bl (!decide (x=.non))) H):=by
 intro pins s σ H x y v u Q I rx ry h
 obtain⟨rfl,q⟩:=h
 cases ry
 refine isnot_none_gen (a1z I q ?_)
 cases x<;>first
  | (cases rx;rfl)
  | (obtain⟨t,rfl⟩:=rx;rfl)
theorem a0z (b:Expr) {op:CmpOp} (h:op≠.In:=by decide) (h2:op≠.NotIn:=by decide):behindInMarks op b=false:=by
 have e1:(op == CmpOp.In)=false:=by cases op<;>first | rfl | exact absurd rfl h
 have e2:(op == CmpOp.NotIn)=false:=by cases op<;>first | rfl | exact absurd rfl h2
 cases b<;>simp[behindInMarks,e1,e2]
theorem b7j {op:CmpOp} {r:R2} (ho:OpR X (compareOp op) r) (ha:PE X a ta) (hb:PE X b tb) (hm:behindInMarks op b=false):PE X (.Compare a [op] [b] pos) (tOp r ta tb):=by
 constructor;intro pins s σ H Q I h
 exact wpAny_Compare1 (f3d ha hb I h λ v u s2 x y H2 I2 rx ry q=>ho pins s2 σ H2 x y v u Q I2 rx ry q) hm
def e3y (t:TE):TT:=λ σ H Q=>t σ H λ x H'=>∃ k,x=.bl k/\Q k H'
theorem a0t {op:CmpOp} {r:R2} (ho:OpR X (compareOp op) r) (ha:PE X a ta) (hb:PE X b tb) (hm:behindInMarks op b=false):PT X (.Compare a [op] [b] pos) (e3y (tOp r ta tb)):=by
 constructor;intro pins s σ H Q I h
 refine wpAny_isTrue_Compare1 (thn (ha pins s σ H _ I h) λ v s1 ⟨x,H1,I1,r1,q1⟩=>thn (hb pins s1 σ H1 _ I1 q1) λ u s2 ⟨y,H2,I2,r2,q2⟩ =>
  thn (ho pins s2 σ H2 x y v u _ I2 r1 r2 q2) λ c s3 ⟨z,H3,I3,r3,k,e,q3⟩=>?_) hm
 subst e
 cases r3
 exact wpAny_truthy_bool ⟨H3,I3,q3⟩
def e5h (r r':R2) (ta tb tc:TE):TE:=λ σ H Q=>ta σ H λ x H1=>tb σ H1 λ y H2=>r x y H2 λ z H3=>∃ k,z=.bl k /\
 (if k=true then tc σ H3 λ w' H4=>r' y w' H4 Q else Q (.bl false) H3)
theorem e3q {op op':CmpOp} {r r':R2} (ho:OpR X (compareOp op) r) (ho':OpR X (compareOp op') r') (ha:PE X a ta) (hb:PE X b tb) (hc:PE X c tc)
  (hm:lastMarks [op,op'] [b,c]=false:=by with_unfolding_all rfl):PT X (.Compare a [op,op'] [b,c] pos) (e3y (e5h r r' ta tb tc)):=by
 constructor;intro pins s σ H Q I h
 refine isTrue_chain (thn (ha pins s σ H _ I h) λ v s1 ⟨x,H1,I1,r1,q1⟩=>test_link (thn (hb pins s1 σ H1 _ I1 q1) λ u s2 ⟨y,H2,I2,r2,q2⟩ =>
  thn (ho pins s2 σ H2 x y v u _ I2 r1 r2 q2) λ d s3 ⟨z,H3,I3,r3,k,e,q3⟩=>?_)) hm
 subst e
 cases r3
 refine wpAny_truthy_bool ?_
 cases k with
 | false =>
  obtain⟨k',e',q'⟩:=q3
  cases e'
  exact ite_ff ⟨H3,I3,q'⟩
 | true =>
  refine ite_tt (test_last (thn (hc pins s3 σ H3 _ I3 q3) λ w' s4 ⟨z',H4,I4,r4,q4⟩=>thn (ho' pins s4 σ H4 y z' u w' _ I4 r2 r4 q4) λ d' s5 ⟨z2,H5,I5,r5,k2,e2,q5⟩=>?_))
  subst e2
  cases r5
  exact wpAny_truthy_bool ⟨H5,I5,q5⟩
theorem d4p:(sizeLine:Nat) < 2 ^ 63:=by rw[sizeLine_eq];decide
theorem c6a {x:V} {us:List Value} (r:a3o [x] us):∃ u,us=[u]/\a3n x u:=by
 cases r with
 | cons r1 r2=>cases r2;exact⟨_,rfl,r1⟩
theorem e2u {x y:V} {us:List Value} (r:a3o [x,y] us):∃ u w',us=[u,w']/\a3n x u/\a3n y w':=by
 cases r with
 | cons r1 r2 =>
  cases r2 with
  | cons r3 r4=>cases r4;exact⟨_,_,rfl,r1,r3⟩
theorem d0r:b7n X (.type "int") (λ xs H Q=>(∃ i,xs=[.int i]/\Q (.int i) H)\/∃ k,xs=[.bl k]/\Q (.int (if k then 1 else 0)) H):=by
 intro pins s σ H xs us Q I r h
 rcases h with ⟨i,rfl,q⟩ | ⟨k,rfl,q⟩
 ·obtain⟨u,rfl,t,rfl⟩:=c6a r
  exact call_int_int ⟨.int i,H,I,⟨_,rfl⟩,q⟩
 ·obtain⟨u,rfl,r1⟩:=c6a r
  cases r1
  exact call_int_bool ⟨.int (if k then 1 else 0),H,I.tok _,⟨_,rfl⟩,q⟩
def f3w (K:PySem.W.Frag) (x:V) (H:Hp) (n:Nat):Prop :=
 match x with
 | .str y=>y.length<=sizeLine/\n=y.length
 | .byt y=>y.size<=sizeLine/\n=y.size
 | .ref p=>(∃ xs,SqL K H p xs/\n=xs.length)\/∃ xs,SqT K H p xs/\n=xs.length
 | _=>False
theorem a1h:b7n X (.builtin "len") (λ xs H Q=>∃ x n,xs=[x]/\f3w X.K x H n/\Q (.int n) H):=by
 intro pins s σ H xs us Q I r h
 obtain⟨x,n,rfl,e,q⟩:=h
 obtain⟨u,rfl,rx⟩:=c6a r
 have hl:=d4p
 have hs:sizeLine=16777216:=sizeLine_eq
 cases x with
 | str y =>
  obtain⟨t,rfl⟩:=rx
  obtain⟨hy,e'⟩:y.length<=sizeLine/\n=y.length:=e
  subst e'
  exact len_str (by omega) ⟨.int _,H,I.tok _,⟨_,rfl⟩,q⟩
 | byt y =>
  obtain⟨t,rfl⟩:=rx
  obtain⟨hy,e'⟩:y.size<=sizeLine/\n=y.size:=e
  subst e'
  exact PySem.W.len_bytes (by omega) ⟨.int _,H,I.tok _,⟨_,rfl⟩,q⟩
 | ref p =>
  cases rx
  have e':(∃ xs,SqL X.K H p xs/\n=xs.length)\/∃ xs,SqT X.K H p xs/\n=xs.length:=e
  rcases e' with ⟨xs,hx,e'⟩ | ⟨xs,hx,e'⟩
  ·subst e'
   obtain⟨its,r',pl,hz⟩:=I.list hx
   have hlen:=r'.length
   exact Calls.call_len_list pl.isList (by simp only [List.size_toArray];omega) ⟨.int xs.length,H,I.tok _,⟨_,by simp only [List.size_toArray];rw[hlen]⟩,q⟩
  ·subst e'
   obtain⟨its,r',pl,hz⟩:=I.tuple hx
   have hlen:=r'.length
   exact len_tuple pl (by simp only [List.size_toArray];omega) ⟨.int xs.length,H,I.tok _,⟨_,by simp only [List.size_toArray];rw[hlen]⟩,q⟩
 | _=>exact(show False from e).elim
end
end L2
namespace L2
open PySem PySem.Spec PyProof.Rows
structure f1q (h:Heap) (x dx C:Addr) (mA:Str->Option Value):Prop where
 obj:h.get? x=some (PySem.W.instObj C dx)
 ns:h.Ns1 dx mA
 ne:dx≠x
theorem d9i {h:Heap} {dx:Addr} {mA:Str->Option Value} (n:h.Ns1 dx mA):∃ od,h.get? dx=some od/\∀ name,PySem.W.lookIn name od=some (mA name):=by
 obtain⟨o,es,ep,ho,hd,hk,_,hm⟩:=n
 refine⟨o,ho,λ name=>?_⟩
 have e:=hm name
 unfold nsFind findBy at e
 rw[<-Array.find?_toList] at e
 unfold PySem.W.lookIn
 rw[hd]
 dsimp only
 split
 ·rename_i y q
  rw[q] at e
  exact congrArg some e
 ·rename_i q
  rw[q] at e
  have a:es.toList.any (·.refKey)=false:=by
   rw[List.any_eq_false]
   intro y hy
   obtain⟨z,t,hkey⟩:=hk y (Array.mem_toList_iff.mp hy)
   simp[DictEntry.refKey,hkey]
  have a':¬ es.toList.any (·.refKey)=true:=by rw[a];exact Bool.false_ne_true
  rw[if_neg a']
  exact congrArg some e
theorem f1q.look {h:Heap} {x dx C:Addr} {mA:Str->Option Value} (I:f1q h x dx C mA):∃ od,PySem.W.InstAt h x (PySem.W.instObj C dx) C (some od)/\∀ name,PySem.W.lookIn name od=some (mA name) :=
 let ⟨od,ho,hl⟩:=d9i I.ns
 ⟨od,⟨I.obj,rfl,rfl,ho⟩,hl⟩
section
variable {prog:Program} {w:World} {A:Around} {E:Value->Shared->Prop} {s:Shared} {K:PySem.W.Frag} {x dx C f:Addr} {mA:Str->Option Value} {name:Str} {v:Value}
theorem e2n {pl:Sem Bool} {Q:Value×List Value->Shared->Prop} (X:K.In s.heap) (I:f1q s.heap x dx C mA) (hg:PySem.W.plainGet K C name=true)
  (hf:PySem.W.findIn K (.ref C) name=some (some (.ref f))) (ht:PySem.W.isFn K (.ref f)=true) (hv:mA name=none) (h:Q (.ref f,[.ref x]) s) :
  wpAny (model prog w) A (getMethod (.ref x) name pl) Q E s:=by
 obtain⟨od,J,hl⟩:=I.look
 exact PySem.W.method_fn X J (PySem.W.plainGet_of hg).1 (PySem.W.plainGet_of hg).2 hf (beq_iff_eq.mp ht) (by show (PySem.W.lookIn name od).map (·.isSome)=some false;rw[hl,hv];rfl) h
theorem d9u {R:Result->Shared->Prop} (X:K.In s.heap) (hm:PySem.W.makesIn K C=true)
  (hi:PySem.W.findIn K (.ref C) "__init__"=some (some (.builtin "object.__init__")))
  (hb:∀ self,PySem.W.Looks (model prog w) s.heap (bindSpecial (.builtin "object.__init__") self) (.builtin "object.__init__",[self]))
  (h:codeAny (model prog w) (A.under (.builtin "type.__call__" ⟨[.ref C],[]⟩)) (.call (.builtin "object.__init__") ⟨[.ref (s.heap.objs.size+1)],[]⟩) (PySem.W.InitBack (s.heap.objs.size+1) R)
   {s with heap:=(s.heap.push PySem.W.emptyDict).push (PySem.W.instObj C s.heap.objs.size)}) :
  codeAny (model prog w) A (.call (.ref C) ⟨[],[]⟩) R s:=by
 obtain⟨hh,g,d,t,os⟩:=s
 exact PySem.W.make_core (PySem.W.makes_of X hm) (PySem.W.looks_findIn X hi) hb (.inr ⟨rfl,rfl⟩) h
end
theorem d0y.some_of {v:V} {o:Option Value} (r:d0y (some v) o):∃ u,o=some u/\a3n v u:=by
 cases o with
 | none=>exact(show False from r).elim
 | some u=>exact⟨u,rfl,r⟩
theorem d0y.none_of {o:Option Value} (r:d0y none o):o=none:=by
 cases o with
 | none=>rfl
 | some u=>exact(show False from r).elim
section
variable {P:Program} {w:World} {H H':Hp} {h h':Heap} {a C dx:Addr} {fs fs':List (Str×V)}
theorem e0w (hok:HOk P w H h) (e:H a=some (.ins C dx fs)):∃ mA,f1q h a dx C mA/\(∀ f,d0y (fs.lookup f) (mA f))/\PySem.Within mA (fs.map (·.1))/\fs.length<=1000/\H dx=some (.own a):=by
 obtain⟨d,z,ne,ob,mA,n,r,q⟩:=(show a3f P w H h a (.ins C dx fs) from hok a _ e)
 exact⟨mA,⟨ob,n,ne⟩,r,q,z,d⟩
end
structure Cls (K:PySem.W.Frag) (C:Addr):Prop where
 pg:PySem.W.plainGet K C Str.empty=true
 hd:PySem.W.hasDictIn K C=true
 po:PySem.W.plainOver K C=true
 sa:PySem.W.findIn K (.ref C) "__setattr__"=some (some (.builtin "object.__setattr__"))
theorem Cls.get {K:PySem.W.Frag} {C:Addr} (c:Cls K C) (f:Str):PySem.W.plainGet K C f=true:=c.pg
structure b8r (K:PySem.W.Frag) (C:Addr) (m:Str) (f:Addr):Prop where
 at_:PySem.W.findIn K (.ref C) m=some (some (.ref f))
 fn:PySem.W.isFn K (.ref f)=true
 kp:PySem.W.keepIn K (.ref f)=true
section
variable {X:Cx} {pins:List (Addr×Obj)} {σ:St} {H:Hp} {s:Shared} {a C dx:Addr} {fs:List (Str×V)} {f:Str} {v:V} {A:Around} {E:Value->Shared->Prop}
theorem c3y {m:Str} {g:Addr} {pl:Sem Bool} {Q:Value×List Value->Shared->Prop} (I:Inv X pins σ H s) (e:H a=some (.ins C dx fs)) (c:Cls X.K C) (k:b8r X.K C m g) (l:fs.lookup m=none)
  (h:Q (.ref g,[.ref a]) s):wpAny (model X.prog X.w) A (getMethod (.ref a) m pl) Q E s:=by
 obtain⟨mA,O,r,_,_,_⟩:=e0w I.hok e
 have hn:mA m=none:=d0y.none_of (by rw[<-l];exact r m)
 exact e2n I.kIn O (c.get m) k.at_ k.fn hn h
theorem Inv.made (I:Inv X pins σ H s):Inv X pins σ (upd (upd H s.heap.objs.size (.own (s.heap.objs.size+1))) (s.heap.objs.size+1) (.ins C s.heap.objs.size []))
  {s with heap:=(s.heap.push PySem.W.emptyDict).push (PySem.W.instObj C s.heap.objs.size)}:=by
 have e1:(s.heap.push PySem.W.emptyDict).get? s.heap.objs.size=some PySem.W.emptyDict:=Heap.get?_push_size s.heap rfl
 have e2:((s.heap.push PySem.W.emptyDict).push (PySem.W.instObj C s.heap.objs.size)).get? (s.heap.objs.size+1)=some (PySem.W.instObj C s.heap.objs.size):=by
  have:=Heap.get?_push_size (s.heap.push PySem.W.emptyDict) (o:=PySem.W.instObj C s.heap.objs.size) rfl
  rwa [Heap.size_push] at this
 have e3:(s.heap.push PySem.W.emptyDict).Ns s.heap.objs.size (λ _=>none):=⟨PySem.W.emptyDict,#[],_,e1,rfl,(λ e he=>absurd he (by simp)),λ _=>rfl⟩
 have I1:=I.laid (a:=s.heap.objs.size) (o:=.own (s.heap.objs.size+1)) (h':=s.heap.push PySem.W.emptyDict) (t':=s.toks) (λ b u q=>Heap.get?_push_of_some _ q) (Nat.le_refl _) ⟨_,e1⟩
 refine I1.laid (a:=s.heap.objs.size+1) (o:=.ins C s.heap.objs.size []) (t':=s.toks) (λ b u q=>Heap.get?_push_of_some _ q) (Nat.le_of_eq (Heap.size_push _ _)) ?_
 have ne:s.heap.objs.size≠s.heap.objs.size+1:=Nat.ne_of_lt (Nat.lt_succ_self _)
 refine⟨by rw[a0h ne,a0b],Nat.zero_le _,ne,e2,λ _=>none,(Heap.Ns1.of_empty e3).at λ o q=>Heap.get?_push_of_some _ q,λ _=>True.intro,λ y hy=>absurd rfl hy⟩
end
section
variable {X:Cx} {pins:List (Addr×Obj)} {σ:St} {H:Hp} {s:Shared} {A:Around} {E:Value->Shared->Prop} {Q:Value->Shared->Prop} {c:Value} {b:Bool}
inductive d5i (K:PySem.W.Frag) (H:Hp):V->Value->Prop where
 | non:d5i K H .non (.type "NoneType")
 | bl (x:Bool):d5i K H (.bl x) (.type "bool")
 | int (i:Int):d5i K H (.int i) (.type "int")
 | str (x:Str):d5i K H (.str x) (.type "str")
 | flt (x:UInt64):d5i K H (.flt x) (.type "float")
 | lst {a:Addr} {xs:List V} (e:H a=some (.lst xs)):d5i K H (.ref a) (.type "list")
 | frz {a:Addr} {o:Obj} {xs:List V} (e:H a=some (.frz o (.lst xs))):d5i K H (.ref a) (.type "list")
 | tup {a:Addr} {xs:List V} (e:H a=some (.tup xs)):d5i K H (.ref a) (.type "tuple")
 | dK {a:Addr} {kvs:List (Key×V)} (e:H a=some (.dK kvs)):d5i K H (.ref a) (.type "dict")
 | dT {a:Addr} {kvs:List (List Key×V)} (e:H a=some (.dT kvs)):d5i K H (.ref a) (.type "dict")
 | ins {a C dx:Addr} {fs:List (Str×V)} (e:H a=some (.ins C dx fs)) (cl:Cls K C) (ha:PySem.W.findIn K (.ref C) "__class__"=some (some (.builtin "object.__class__")))
   (hn:PySem.W.specialIn K (.builtin "object.__class__") "__get__"=some (some (.builtin "getset_descriptor.__get__"))) (htk:PySem.W.takesIn K (.builtin "object.__class__")=some true)
   (hm:PySem.W.mroIn K C (.type "object")=some true):d5i K H (.ref a) (.ref C)
theorem d9v {x:V} {u t:Value} (I:Inv X pins σ H s) (rx:a3n x u) (ty:d5i X.K H x t) (e:PySem.W.kitOne X.K t c=some b) (h:∀ tk,Q (.bool b) {s with toks:=tk}) :
  wpAny (model X.prog X.w) A (call (.builtin "isinstance") [u,c]) Q E s:=by
 cases ty with
 | non=>cases (show u=Value.none from rx);exact PySem.W.kia_one PySem.W.kitx_none I.kIn True.intro e (λ z=>nomatch z) h
 | bl y=>cases (show u=Value.bool y from rx);exact PySem.W.kia_one PySem.W.kitx_bool I.kIn True.intro e (λ z=>nomatch z) h
 | int i=>obtain⟨t,q⟩:=(show ∃ t,u=Value.int i t from rx);cases q;exact PySem.W.kia_one PySem.W.kitx_int I.kIn True.intro e (λ z=>nomatch z) h
 | str y=>obtain⟨t,q⟩:=(show ∃ t,u=Value.str y t from rx);cases q;exact PySem.W.kia_one PySem.W.kitx_str I.kIn True.intro e (λ z=>nomatch z) h
 | flt y=>obtain⟨t,q⟩:=(show ∃ t,u=Value.float y t from rx);cases q;exact PySem.W.kia_one PySem.W.kitx_float I.kIn True.intro e (λ z=>nomatch z) h
 | @lst a xs ea =>
  cases (show u=Value.ref a from rx)
  obtain⟨_,_,n,_,h1⟩:=(show a3f X.prog X.w H s.heap a (.lst xs) from I.hok a _ ea)
  exact PySem.W.kia_one PySem.W.kitx_list I.kIn ⟨_,h1,rfl⟩ e (λ z=>nomatch z) h
 | @frz a ob xs ea =>
  cases (show u=Value.ref a from rx)
  obtain⟨_,_,_,n,_,h1⟩:=(show a3f X.prog X.w H s.heap a (.frz ob (.lst xs)) from I.hok a _ ea)
  exact PySem.W.kia_one PySem.W.kitx_list I.kIn ⟨_,h1,rfl⟩ e (λ z=>nomatch z) h
 | @tup a xs ea =>
  cases (show u=Value.ref a from rx)
  obtain⟨_,_,_,p⟩:=(show a3f X.prog X.w H s.heap a (.tup xs) from I.hok a _ ea)
  obtain⟨o,h1,h2,_⟩:=p
  exact PySem.W.kia_one PySem.W.kitx_tuple I.kIn ⟨o,h1,h2⟩ e (λ z=>nomatch z) h
 | @dK a kvs ea =>
  cases (show u=Value.ref a from rx)
  obtain⟨_,_,vs,_,p⟩:=(show a3f X.prog X.w H s.heap a (.dK kvs) from I.hok a _ ea)
  obtain⟨o,es,ep,h1,h2,_⟩:=p
  exact PySem.W.kia_one PySem.W.kitx_dict I.kIn ⟨o,h1,h2.1⟩ e (λ z=>nomatch z) h
 | @dT a kvs ea =>
  cases (show u=Value.ref a from rx)
  obtain⟨_,_,xs,_,o,es,ep,h1,h2,_⟩:=(show a3f X.prog X.w H s.heap a (.dT kvs) from I.hok a _ ea)
  exact PySem.W.kia_one PySem.W.kitx_dict I.kIn ⟨o,h1,h2.1⟩ e (λ z=>nomatch z) h
 | @ins a C dx fs ea cl ha hn htk hm =>
  cases (show u=Value.ref a from rx)
  obtain⟨mA,O,_⟩:=e0w I.hok ea
  obtain⟨od,J,_⟩:=O.look
  exact PySem.W.kia_one (PySem.W.kitx_own (cl.get _) cl.hd ha hn htk hm) I.kIn J e (λ z=>nomatch z) h
end
end L2
namespace L2
open PySem PySem.Spec PyProof.Rows
structure Room (k:Nat) (A:Around):Prop where
 hd:A.handled=none
 dp:A.depth+3*k+5 < recursionLimit
 un:A.units+16*k+200 < cLine
theorem Room.mono {j k:Nat} {A:Around} (r:Room k A) (h:j<=k):Room j A:=⟨r.hd,by have:=r.dp;omega,by have:=r.un;omega⟩
theorem Room.deeper {k:Nat} {A:Around} (r:Room (k+1) A) (env:Env):Room k (A.deeper env) :=
 ⟨r.hd,by have:=r.dp;show A.depth+1+3*k+5 < _;omega,by have:=r.un;show A.units+3+16*k+200 < _;omega⟩
theorem Room.in1 {k:Nat} {A:Around} (r:Room (k+1) A):Room k A.in1 :=
 ⟨r.hd,by have:=r.dp;show A.depth+3*k+5 < _;omega,by have:=r.un;show A.units+1+16*k+200 < _;omega⟩
theorem Room.depth {k:Nat} {A:Around} (r:Room k A):A.depth < recursionLimit:=by have:=r.dp;omega
theorem Room.units {k:Nat} {A:Around} (r:Room k A):A.units+64 < cLine:=by have:=r.un;omega
def f2z:TA:=λ _ H Q=>Q [] H
def f0q (ta:TE) (tr:TA):TA:=λ σ H Q=>ta σ H λ x H1=>tr σ H1 λ xs H2=>Q (x::xs) H2
section
variable {X:Cx} {e:Expr} {es:List Expr} {te:TE} {t:TA} {pos:Pos}
theorem a0d:PA X [] f2z:=⟨λ _ _ _ _ H Q I h=>Calls.spliced_nil ⟨[],H,I,.nil,h⟩⟩
theorem a0a (ha:PE X e te) (hr:PA X es t) (hs:starEach (e::es) X.env=(false,eval e X.env)::starEach es X.env:=by rfl):PA X (e::es) (f0q te t):=by
 constructor;intro pos pins s σ H Q I h
 rw[hs]
 show wpAny _ _ (spliced ((false,eval e X.env)::backTo pos (starEach es X.env))) _ _ s
 refine Calls.spliced_cons (thn (ha pins s σ H _ I h) λ u s1 ⟨x,H1,I1,r1,q1⟩=>?_)
 exact thn (hr pos pins s1 σ H1 _ I1 q1) λ us s2 ⟨xs,H2,I2,r2,q2⟩=>⟨x::xs,H2,I2,.cons r1 r2,q2⟩
def f4l (t:TA):TE:=λ σ H Q=>t σ H λ xs H1=>xs.length<=sizeLine/\∀ p,H1 p=none->Q (.ref p) (upd H1 p (.tup xs))
def f4o (t:TA):TE:=λ σ H Q=>t σ H λ xs H1=>xs.length<=sizeLine/\∀ p,H1 p=none->Q (.ref p) (upd H1 p (.lst xs))
theorem a2b {x1} (h:PA X es t):PE X (.Tuple es x1 pos) (f4l t):=by
 constructor;intro pins s σ H Q I hq
 refine wpAny_Tuple_spliced (thn (h pos pins s σ H _ I hq) λ us s1 ⟨xs,H1,I1,r,z,q⟩=>⟨by rw[<-r.length];exact z,?_⟩)
 have hf:H1 s1.heap.objs.size=none:=I1.hok.fresh (Nat.le_refl _)
 refine⟨.ref s1.heap.objs.size,upd H1 s1.heap.objs.size (.tup xs),I1.laid (t':=s1.toks) (λ b u e=>Heap.get?_push_of_some _ e) (Nat.le_refl _) ?_,rfl,q _ hf⟩
 exact⟨z,us,r,⟨_,Heap.get?_push_size _ rfl,rfl,_,rfl⟩⟩
theorem a1o (h:PA X es t):PE X (.List es pos) (f4o t):=by
 constructor;intro pins s σ H Q I hq
 refine wpAny_List_spliced (thn (h pos pins s σ H _ I hq) λ us s1 ⟨xs,H1,I1,r,z,q⟩=>⟨by rw[<-r.length];exact z,?_⟩)
 have hf:H1 s1.heap.objs.size=none:=I1.hok.fresh (Nat.le_refl _)
 refine⟨.ref s1.heap.objs.size,upd H1 s1.heap.objs.size (.lst xs),I1.laid (t':=s1.toks) (λ b u e=>Heap.get?_push_of_some _ e) (Nat.le_refl _) ?_,rfl,q _ hf⟩
 exact⟨z,us,0,r,Heap.get?_push_size _ rfl⟩
end
abbrev Sp:=List V->Hp->VK->XK->Prop
abbrev CXT:=List Env->Hp->Shared->XK->Value->Shared->Prop
structure e7j (P:Program) (w:World) (K:PySem.W.Frag) (mg:Str->Option Value) (base:Heap) (A:Around) (outer:List Env) (s:Shared) (H:Hp):Prop where
 frames:A.frames=some outer
 mod:Mod K mg base
 bs:∀ b o,base.get? b=some o->s.heap.get? b=some o/\H b=none
 bsz:base.objs.size<=s.heap.objs.size
 funs:s.heap.FunFrames base outer
 frf:∀ b∈frs outer,H b=none
 hok:HOk P w H s.heap
 bare:AllBare s.gens
def CE (outer:List Env) (P:Program) (w:World) (H:Hp) (s:Shared) (Q:VK) (u:Value) (s':Shared):Prop :=
 ∃ v H',s'.os=s.os/\AllBare s'.gens/\Un (frs outer) [] H H' s.heap s'.heap/\HOk P w H' s'.heap/\a3n v u/\Q v H'
def CR (CX:CXT) (outer:List Env) (P:Program) (w:World) (H:Hp) (s:Shared) (Q:VK) (E:XK) (r:Result) (s':Shared):Prop :=
 match r with
 | .ok (.ret u)=>CE outer P w H s Q u s'
 | .ok _=>False
 | .error e=>CX outer H s E e s'
structure a4j (P:Program) (w:World) (K:PySem.W.Frag) (mg:Str->Option Value) (base:Heap) (CX:CXT) (k:Nat) (f:Addr) (fd:FuncData) (ps:List Str) (sp:Sp):Prop where
 len:∀ vs H Q E,sp vs H Q E->vs.length=ps.length
 run:∀ (A:Around) (outer:List Env) (s:Shared) (H:Hp) (args:Args) (us:List Value) (vs:List V) (Q:VK) (E:XK),Room k A->e7j P w K mg base A outer s H->BindsTo s fd args (ps.zip us)->a3o vs us->sp vs H Q E ->
  codeAny (model P w) A (.call (.ref f) args) (CR CX outer P w H s Q E) s
theorem a4j.mono {P:Program} {w:World} {K:PySem.W.Frag} {mg:Str->Option Value} {base:Heap} {CX:CXT} {j k:Nat} {f:Addr} {fd:FuncData} {ps:List Str} {sp:Sp} (F:a4j P w K mg base CX j f fd ps sp) (h:j<=k) :
  a4j P w K mg base CX k f fd ps sp:=⟨F.len,λ A outer s H args us vs Q E hr=>F.run A outer s H args us vs Q E (hr.mono h)⟩
theorem e7j.in1 {P:Program} {w:World} {K:PySem.W.Frag} {mg:Str->Option Value} {base:Heap} {A:Around} {outer:List Env} {s:Shared} {H:Hp} (e:e7j P w K mg base A outer s H) :
  e7j P w K mg base A.in1 outer s H:=⟨e.frames,e.mod,e.bs,e.bsz,e.funs,e.frf,e.hok,e.bare⟩
section
variable {X:Cx} {pins:List (Addr×Obj)} {σ:St} {H:Hp} {s s':Shared}
theorem Inv.env0 (I:Inv X pins σ H s):e7j X.prog X.w X.K X.mg X.base X.A X.stack s H :=
 ⟨I.ok.frames,I.ok.mod,I.bs,Nat.le_trans I.ok.bsz I.sz,I.stack,I.stkFree,I.hok,I.bare⟩
theorem Inv.after {Q:VK} {u:Value} (I:Inv X pins σ H s) (h:CE X.stack X.prog X.w H s Q u s'):EP X pins σ Q u s':=by
 obtain⟨v,H',os,bare,un,hok,r,q⟩:=h
 obtain⟨hh,g,d,t,os'⟩:=s'
 obtain rfl:os'=s.os:=os
 exact⟨v,H',I.call (h':=hh) (g':=g) (d':=d) (t':=t) (ch:=[]) un hok bare (λ b z=>absurd z (by simp)),r,q⟩
end
def f2r (sp:Sp) (dvs:List V) (E:XK) (t:TA):TE:=λ σ H Q=>t σ H λ vs H1=>sp (vs++dvs) H1 Q E
def a1k (K:PySem.W.Frag) (fd:FuncData) (ps:List Str) (ds:List Value):Prop :=
 ∀ (s:Shared) (us:List Value),K.In s.heap->(us++ds).length=ps.length->BindsTo s fd ⟨us,[]⟩ (ps.zip (us++ds))
theorem a1k.all {K:PySem.W.Frag} {fd:FuncData} {ps:List Str} (h:∀ us:List Value,us.length=ps.length->bindArgs fd ⟨us,[]⟩=pure (ps.zip us)):a1k K fd ps []:=λ s us _ hl=>by
 rw[List.append_nil] at hl ⊢
 exact .of_eq (h us hl)
def d0f (CX:CXT) (X:Cx) (E:XK):Prop:=∀ (pins:List (Addr×Obj)) (σ:St) (H:Hp) (s:Shared) (e:Value) (s':Shared),Inv X pins σ H s->CX X.stack H s E e s'->X.xe e s'
section
variable {X:Cx} {CX:CXT} {k:Nat} {f C:Addr} {fd:FuncData} {ps:List Str} {sp:Sp} {dvs:List V} {ds:List Value} {E:XK} {x m:Str} {p pos apos:Pos} {e o:Expr} {es:List Expr} {ta:TE} {t:TA}
theorem d6s {pins:List (Addr×Obj)} {σ:St} {H:Hp} {s:Shared} {Q:VK} {us:List Value} {vs:List V} (F:a4j X.prog X.w X.K X.mg X.base CX k f fd ps sp) (hr:Room k X.A) (hb:a1k X.K fd ps ds) (hd:a3o dvs ds) (hx:d0f CX X E)
  (I:Inv X pins σ H s) (r:a3o vs us) (h:sp (vs++dvs) H Q E):wpAny (model X.prog X.w) X.A (call (.ref f) us) (EP X pins σ Q) X.xe s:=by
 have r2:a3o (vs++dvs) (us++ds):=r.append hd
 have hl:(us++ds).length=ps.length:=by rw[<-r2.length];exact F.len _ _ _ _ h
 refine wpAny_call (codeAny_mono (F.run X.A X.stack s H ⟨us,[]⟩ (us++ds) (vs++dvs) Q E hr I.env0 (hb s us I.kIn hl) r2 h) λ r s' hq=>?_)
 cases r with
 | error e=>exact hx pins σ H s e s' I hq
 | ok fl =>
  cases fl with
  | ret u=>exact I.after hq
  | next=>exact False.elim hq
  | brk=>exact False.elim hq
  | cont=>exact False.elim hq
theorem a0l (F:a4j X.prog X.w X.K X.mg X.base CX k f fd ps sp) (hr:Room k X.A) (hg:Gl X x) (hm:X.mg x=some (.ref f)) (hk:PySem.W.keepIn X.K (.ref f)=true) (hb:a1k X.K fd ps ds) (hd:a3o dvs ds) (hx:d0f CX X E)
  (ha:PA X (e::es) t) (hdb:(x == ("__debug__":Str))=false:=by decide) (he:starEach (e::es) X.env=(false,eval e X.env)::starEach es X.env:=by rfl) (hpl:(backTo pos (starEach es X.env)).any (·.1)=false:=by rfl) :
  PE X (.Call (.Name x p) (e::es) [] pos) (f2r sp dvs E t):=by
 constructor;intro pins s σ H Q I h
 refine wpAny_Call_Name_kw (b7b I hg hm ?_ hdb)
 refine PySem.W.callWith_K (h₀:=X.base) I.ok.mod.kin hk (thn (ha pos pins s σ H _ I h) λ us s1 ⟨vs,H1,I1,r,q⟩=>⟨I1.kIn,?_⟩) he hpl
 exact d6s F hr hb hd hx I1 r q
end
structure a0r (N P:List Str) (sc:Scope):Prop where
 kind:sc.kind=.function
 co:sc.isCoroutine=false
 gen:sc.isGenerator=false
 nd:N.Nodup
 pre:N.take P.length=P
 par:∀ x∈P,sc.names.lookup x=some .local\/sc.names.lookup x=some .cell
 nofree:∀ y∈sc.names,y.2≠.free
theorem c8u {kindOf:Str->Option NameKind} {x:Str}:∀ {binds:List (Str×Value)} {m:Str->Option Value},(∀ v,(x,v) ∉ binds)->bindL kindOf binds m x=m x
 | [],_,_=>rfl
 | (n,v)::r,m,h=>by
  unfold bindL
  rw[c8u λ w hw=>h w (List.mem_cons_of_mem _ hw)]
  split
  ·have:x≠n:=by rintro rfl;exact h v List.mem_cons_self
   simp[this]
  ·rfl
theorem c9k {kindOf:Str->Option NameKind} {x:Str}:∀ {binds:List (Str×Value)} {m:Str->Option Value},(∀ v,(x,v) ∉ binds)->bindC kindOf binds m x=m x
 | [],_,_=>rfl
 | (n,v)::r,m,h=>by
  unfold bindC
  rw[c9k λ w hw=>h w (List.mem_cons_of_mem _ hw)]
  split
  ·rfl
  ·have:x≠n:=by rintro rfl;exact h v List.mem_cons_self
   simp[this]
theorem d0e {kindOf:Str->Option NameKind} {x:Str} {v:Value}:∀ {P:List Str} {vs:List Value} {i:Nat} {m:Str->Option Value},P.Nodup->P[i]?=some x->vs[i]?=some v->kindOf x=some .local ->
  bindL kindOf (P.zip vs) m x=some v
 | [],_,_,_,_,h,_,_=>by simp at h
 | _::_,[],_,_,_,_,h,_=>by simp at h
 | p::P,w::vs,0,m,nd,h1,h2,hk=>by
  simp at h1 h2;subst h1;subst h2
  show bindL kindOf ((p,w)::P.zip vs) m p=_
  unfold bindL
  rw[c8u λ v hv=>(List.nodup_cons.mp nd).1 (List.of_mem_zip hv).1,if_pos hk]
  simp
 | p::P,w::vs,i+1,m,nd,h1,h2,hk=>by
  show bindL kindOf ((p,w)::P.zip vs) m x=_
  unfold bindL
  exact d0e (i:=i) (List.nodup_cons.mp nd).2 (by simpa using h1) (by simpa using h2) hk
theorem d0x {kindOf:Str->Option NameKind} {x:Str} {v:Value}:∀ {P:List Str} {vs:List Value} {i:Nat} {m:Str->Option Value},P.Nodup->P[i]?=some x->vs[i]?=some v->kindOf x≠some .local ->
  bindC kindOf (P.zip vs) m x=some v
 | [],_,_,_,_,h,_,_=>by simp at h
 | _::_,[],_,_,_,_,h,_=>by simp at h
 | p::P,w::vs,0,m,nd,h1,h2,hk=>by
  simp at h1 h2;subst h1;subst h2
  show bindC kindOf ((p,w)::P.zip vs) m p=_
  unfold bindC
  rw[c9k λ v hv=>(List.nodup_cons.mp nd).1 (List.of_mem_zip hv).1,if_neg hk]
  simp
 | p::P,w::vs,i+1,m,nd,h1,h2,hk=>by
  show bindC kindOf ((p,w)::P.zip vs) m x=_
  unfold bindC
  exact d0x (i:=i) (List.nodup_cons.mp nd).2 (by simpa using h1) (by simpa using h2) hk
def c3q (N:List Str) (vs:List V):St:=vs.map some++List.replicate (N.length - vs.length) none
def b9n (CX:CXT) (P:Program) (w:World) (K:PySem.W.Frag) (mg:Str->Option Value) (base:Heap) (N:List Str) (qual:Str) (scope:Scope) (f:Addr) (cd:Value) (A:Around) (outer:List Env) (s:Shared) (H:Hp) (E:XK):Cx where
 prog:=P
 w:=w
 K:=K
 mg:=mg
 base:=base
 A:=A.deeper (envOfC qual scope s.heap.objs.size f cd)
 N:=N
 s₀:=s
 H₀:=H
 env:=envOfC qual scope s.heap.objs.size f cd
 outer:=outer
 stack:=envOfC qual scope s.heap.objs.size f cd::outer
 ex:=[]
 calm:=true
 fn:=λ _=>true
 pn:=[]
 xe:=λ e s'=>wpAny (model P w) (A.deeper (envOfC qual scope s.heap.objs.size f cd)) (leaving (envOfC qual scope s.heap.objs.size f cd) e) (λ _ s''=>CX outer H s E e s'') (λ e' s''=>CX outer H s E e' s'') s'
theorem d3n {sc:Scope} {n:Nat} {x:Str} (h:sc.names.lookup x=some .cell):∃ c,(cellsFrom n sc.names []).lookup x=some c:=by
 have q:=PySem.W.cellsFrom_some sc.names n [] (.inl h)
 exact Option.isSome_iff_exists.mp q
theorem e0u {CX:CXT} {P:Program} {w:World} {K:PySem.W.Frag} {mg:Str->Option Value} {base:Heap} {N ps:List Str} {qual:Str} {scope:Scope} {f:Addr} {cd:Value} {A:Around} {outer:List Env} {s s1:Shared} {H:Hp} {E:XK} {us:List Value} {vs:List V}
  (S:a0r N ps scope) (hd:A.handled=none) (e0:e7j P w K mg base A outer s H) (hl:vs.length=ps.length) (r:a3o vs us)
  (x:InCallC s s.heap.objs.size (bindL (envOfC qual scope s.heap.objs.size f cd).kindOf (ps.zip us) λ _=>none) (cellsFrom (s.heap.objs.size+1) scope.names []) (bindC (envOfC qual scope s.heap.objs.size f cd).kindOf (ps.zip us) λ _=>none) s1) :
  Inv (b9n CX P w K mg base N qual scope f cd A outer s H E) [] (c3q N vs) H s1:=by
 have hpl:ps.length<=N.length:=by have:=congrArg List.length S.pre;rw[List.length_take] at this;omega
 obtain⟨h1,tk,rfl,hk⟩:=x.done
 have noA:∀ b:Addr,b ∉ (b9n CX P w K mg base N qual scope f cd A outer s H E).ex:=λ b z=>absurd (show b∈([]:List Addr) from z) (by simp)
 refine⟨⟨e0.mod,S.kind,rfl,rfl,Nat.le_refl _,λ y z c h1 h2=>?_,λ y hy=>?_,λ y c _ h=>?_,λ _=>hd,Around.frames_deeper e0.frames,.inr ⟨rfl,rfl⟩,λ b z=>absurd z (noA b),e0.bs,e0.bsz,λ b _ _=>noA b,λ b z=>absurd z (noA b),e0.funs,e0.frf⟩,
  rfl,e0.bare,Un.kept hk,⟨_,x.toInCall.ns,λ i y v h1 h2 h3=>?_⟩,λ y c h=>⟨_,x.cell y c h⟩,e0.hok.fresh (Nat.le_refl _),λ y c h=>?_,λ p hp=>absurd (show p∈([]:List (Addr×Obj)) from hp) (by simp),e0.hok.kept hk,?_⟩
 ·exact name_of_addr x.apart (PySem.mem_of_lookup h1) (PySem.mem_of_lookup h2)
 ·have hy:scope.names.lookup y=some .cell\/scope.names.lookup y=some .free:=hy
  rcases hy with hy | hy
  ·exact d3n hy
  ·exact absurd rfl (S.nofree _ (PySem.mem_of_lookup hy))
 ·exact Nat.le_of_lt (x.above y c (PySem.mem_of_lookup h))
 ·have hi:i < vs.length:=by
   unfold c3q at h2
   by_cases hi:i < vs.length
   ·exact hi
   ·rw[List.getElem?_append_right (by simpa using hi)] at h2
    rw[List.getElem?_replicate] at h2
    split at h2<;>cases h2
  have ha:vs[i]?=some v:=by
   unfold c3q at h2
   rw[List.getElem?_append_left (by simpa using hi),List.getElem?_map] at h2
   cases e:vs[i]? with
   | none=>rw[e] at h2;cases h2
   | some a=>rw[e] at h2;cases h2;rfl
  obtain⟨u,hu,rv⟩:=r.get ha
  have hp:ps[i]?=some y:=by
   rw[<-S.pre,List.getElem?_take_of_lt (by omega)];exact h1
  have ndP:ps.Nodup:=by rw[<-S.pre];exact S.nd.sublist (List.take_sublist _ _)
  refine⟨u,rv,?_⟩
  rcases S.par y (List.mem_of_getElem? hp) with k | k
  ·exact .inl ⟨k,d0e ndP hp hu k⟩
  ·obtain⟨c,e⟩:=d3n (n:=s.heap.objs.size+1) k
   refine .inr ⟨.inl k,c,e,?_⟩
   have q:=x.cell y c e
   rw[d0x ndP hp hu (by show scope.names.lookup y≠_;rw[k];decide)] at q
   exact q
 ·exact e0.hok.fresh (Nat.le_of_lt (x.above y c (PySem.mem_of_lookup h)))
 ·unfold c3q
  show _=N.length
  rw[List.length_append,List.length_map,List.length_replicate]
  omega
theorem e6n {CX:CXT} {P:Program} {w:World} {K:PySem.W.Frag} {mg:Str->Option Value} {base:Heap} {k:Nat} {f:Addr} {name qual:Str} {params:Arguments} {body:List Stmt} {scope:Scope} {dV kV doc pm cdv ct oc:Value} {an od:Option Addr}
  {osl:Array (Option Value)} {N ps:List Str} {sp:Sp} (lk:K.lookup f=some ⟨oc,od,.func (PySem.W.fnOf name qual params body scope dV kV doc pm an cdv ct),osl⟩) (hcd:PySem.W.codeIn K cdv qual=true) (S:a0r N ps scope)
  (len:∀ vs H Q E,sp vs H Q E->vs.length=ps.length)
  (hbody:∀ (A:Around) (outer:List Env) (s:Shared) (H:Hp) (vs:List V) (Q:VK) (E:XK),Room k (A.deeper (envOfC qual scope s.heap.objs.size f cdv))->sp vs H Q E ->
   ∃ t,PSs (b9n CX P w K mg base N qual scope f cdv A outer s H E) body t/\t {nx:=λ _ H'=>Q .non H',rt:=Q} (c3q N vs) H) :
  a4j P w K mg base CX (k+1) f (PySem.W.fnOf name qual params body scope dV kV doc pm an cdv ct) ps sp:=by
 refine⟨len,λ A outer s H args us vs Q E hr e0 hb r hsp=>?_⟩
 have hl:=len _ _ _ _ hsp
 have KX:K.In s.heap:=e0.mod.kin.keeps λ b o e=>(e0.bs b o e).1
 have lim:s.heap.NoLimit:=e0.mod.nolimit.keeps λ b o e=>(e0.bs b o e).1
 have hkind:∀ y∈ps.zip us,scope.names.lookup y.1=some .local\/(scope.names.lookup y.1=some .cell/\((cellsFrom (s.heap.objs.size+1) scope.names []).lookup y.1).isSome=true):=λ ⟨n,v⟩ hy=>by
  rcases S.par n (List.of_mem_zip hy).1 with q | q
  ·exact .inl q
  ·exact .inr ⟨q,PySem.W.cellsFrom_some _ _ _ (.inl q)⟩
 refine codeAny_call_function hr.depth (KX _ _ lk) rfl S.co S.gen rfl (PySem.W.codeRec_of KX hcd) (hb _ _ _ _ ?_)
 refine wpAny_newFunctionEnv_cells S.kind hkind λ env he s1 x=>?_
 subst he
 refine⟨lim.keeps x.toInCall.keep,codeAny_func ?_⟩
 obtain⟨t,ht,hq⟩:=hbody A outer s H vs Q E (hr.deeper _) hsp
 have I:Inv (b9n CX P w K mg base N qual scope f cdv A outer s H E) [] (c3q N vs) H s1:=e0u S hr.hd e0 hl r x
 refine wpAny_mono (ht [] s1 (c3q N vs) H _ I hq) (λ fl s' hs=>?_) λ e s' hs=>hs
 have fin:∀ {σ':St} {H':Hp} {v:V} {u:Value},Inv (b9n CX P w K mg base N qual scope f cdv A outer s H E) [] σ' H' s'->a3n v u->Q v H'->CE outer P w H s Q u s' :=
  λ {σ' H' v u} J rv q=>⟨v,H',J.os,J.bare,J.base,J.hok,rv,q⟩
 cases fl with
 | ret u =>
  obtain⟨v,σ',H',J,rv,q⟩:=hs
  exact fin J rv q
 | next =>
  obtain⟨σ',H',J,q⟩:=hs
  exact fin (v:=V.non) (u:=Value.none) J rfl q
 | brk =>
  obtain⟨_,_,_,q⟩:=hs
  exact False.elim q
 | cont =>
  obtain⟨_,_,_,q⟩:=hs
  exact False.elim q
end L2
namespace L2
open PySem PySem.Spec PyProof.Rows
section
variable {X:Cx} {x:Str} {p pos:Pos} {e:Expr} {es:List Expr} {t:TA} {id T:String} {r:List V->Hp->VK->Prop}
def tCB (r:List V->Hp->VK->Prop) (t:TA):TE:=λ σ H Q=>t σ H λ vs H1=>r vs H1 Q
theorem a1a (hc:b7n X (.builtin id) r) (hg:Gl X x) (hm:X.mg x=none) (hv:bootBuiltins x=some (.builtin id)) (ha:PA X (e::es) t) (hn:x≠"__name__":=by decide) (hdb:(x == ("__debug__":Str))=false:=by decide)
  (he:starEach (e::es) X.env=(false,eval e X.env)::starEach es X.env:=by rfl) (hpl:(backTo pos (starEach es X.env)).any (·.1)=false:=by rfl):PE X (.Call (.Name x p) (e::es) [] pos) (tCB r t):=by
 constructor;intro pins s σ H Q I h
 refine wpAny_Call_Name_kw (c4p I hg hm hv ?_ hn hdb)
 exact PyProof.Rows.callWith_builtin1 (thn (ha pos pins s σ H _ I h) λ us s1 ⟨vs,H1,I1,r1,q1⟩=>hc pins s1 σ H1 vs us Q I1 r1 q1) he hpl
theorem a2i (hc:b7n X (.type T) r) (hg:Gl X x) (hm:X.mg x=none) (hv:bootBuiltins x=some (.type T)) (ha:PA X (e::es) t) (hn:x≠"__name__":=by decide) (hdb:(x == ("__debug__":Str))=false:=by decide)
  (he:starEach (e::es) X.env=(false,eval e X.env)::starEach es X.env:=by rfl) (hpl:(backTo pos (starEach es X.env)).any (·.1)=false:=by rfl):PE X (.Call (.Name x p) (e::es) [] pos) (tCB r t):=by
 constructor;intro pins s σ H Q I h
 refine wpAny_Call_Name_kw (c4p I hg hm hv ?_ hn hdb)
 exact PyProof.Rows.callWith_type1 (thn (ha pos pins s σ H _ I h) λ us s1 ⟨vs,H1,I1,r1,q1⟩=>hc pins s1 σ H1 vs us Q I1 r1 q1) he hpl
end
end L2
namespace HT
open PySem PyProof.Rows
def lexLt:List Int->List Int->Bool
 | [],[]=>false
 | [],_::_=>true
 | _::_,[]=>false
 | x::xs,y::ys=>if x=y then lexLt xs ys else decide (x < y)
theorem lexLt_cons (x y:Int) (xs ys:List Int):lexLt (x::xs) (y::ys)=if x=y then lexLt xs ys else decide (x < y):=rfl
theorem lexLt_nil_nil:lexLt [] []=false:=rfl
theorem c3r (y:Int) (ys:List Int):lexLt [] (y::ys)=true:=rfl
theorem c3o (x:Int) (xs:List Int):lexLt (x::xs) []=false:=rfl
theorem e2c (A:Around) (s:Shared) (a:Int) (t:Tok) (c:Int) (u:Tok):∃ e,SeqAt.EqAt A s (.int a t) (.int c u) e/\(e=true ↔ a=c) :=
 ⟨(a == c),SeqAt.EqAt.int_int a t c u,by simp⟩
theorem e2v (A:Around) (s:Shared) (a:Int) (t:Tok) (c:Int) (u:Tok) (prog:Program) (w:World) (E:Value->Shared->Prop) (Q:Value->Shared->Prop) (h:Q (.bool (decide (a < c))) s) :
  wpAny (model prog w) A (richCompare .Lt (.int a t) (.int c u)) Q E s :=
 (PyProof.Rows.lt_int h:wpAny (model prog w) A (compareOp .Lt (.int a t) (.int c u)) Q E s)
section
open PySem.SeqAt
open PySem.AutoSeq1 (wpAny_loadPart')
open PySem.MeetsSeq PySem.MeetsSeq2 PySem.MeetsSeq3
theorem c7c (l b:Addr) (items items2:Array Value) (n n2:Nat) (dd dd2:Option Addr) (sl sl2:Array (Option Value)) (ns ms:List Int) (hi:IntsAre items.toList ns) (hj:IntsAre items2.toList ms) :
  Meets (Builtin.«tuple.__lt__» ⟨[.ref l,.ref b],[]⟩)
   (λ _ R s=>s.heap.get? l=some {cls:=.type "tuple",dict:=dd,data:=.seq items n,slots:=sl}/\s.heap.get? b=some {cls:=.type "tuple",dict:=dd2,data:=.seq items2 n2,slots:=sl2} /\
    R (.ok (.ret (.bool (lexLt ns ms)))) s) :=
 .of_wp λ prog w A R s h=>by
  obtain⟨hp,g,d,tk,os⟩:=s;obtain⟨hl,hb,h⟩:=h
  have f2:=AutoSeq1.sub_tuple_tuple
  have z1:items.size=ns.length:=by rw[<-hi.length];simp
  have z2:items2.size=ms.length:=by rw[<-hj.length];simp
  wp_walk using wpAny_loadPart' hl,wpAny_loadPart' hb,wpAny_forIn_list _ (λ c7y b s'=>b.1=none/\s'=⟨hp,g,d,tk,os⟩/\∃ (vs ws:List Value) (ns' ms':List Int),c7y=vs.zip ws /\
   IntsAre vs ns'/\IntsAre ws ms'/\ns'.length+items2.size=ms'.length+items.size/\R (.ok (.ret (.bool (lexLt ns' ms')))) ⟨hp,g,d,tk,os⟩) _
  case turn =>
   rintro⟨y,x⟩ c7y b s' ⟨hb',rfl,vs,ws,ns',ms',hz,hvi,hwi,hlen,hR⟩
   cases hvi with
   | nil=>rw[List.zip_nil_left] at hz;cases hz
   | cons a t hvi' =>
    cases hwi with
    | nil=>rw[List.zip_nil_right] at hz;cases hz
    | cons c u hwi' =>
     rw[List.zip_cons_cons] at hz
     injection hz with hyx hrest
     injection hyx with hy hx
     subst hy hx
     rw[lexLt_cons] at hR
     simp only [List.length_cons] at hlen
     obtain⟨e,he,hiff⟩:=e2c A.in1 ⟨hp,g,d,tk,os⟩ a t c u
     refine wpAny_bind (he prog w _ _ ?_)
     cases e with
     | true =>
      rw[if_pos (hiff.mp rfl)] at hR
      wp_walk
      exact⟨rfl,rfl,_,_,_,_,hrest,hvi',hwi',by omega,hR⟩
     | false =>
      rw[if_neg (λ q=>absurd (hiff.mpr q) Bool.false_ne_true)] at hR
      have hri:=e2v A.in1 ⟨hp,g,d,tk,os⟩ a t c u prog w
      wp_walk using hri
      exact⟨_,rfl,by simpa using hR⟩
  case fin =>
   rintro⟨b1,b2⟩ s' ⟨hb',rfl,vs,ws,ns',ms',hz,hvi,hwi,hlen,hR⟩
   simp only at hb'
   subst hb'
   have hv:lexLt ns' ms'=decide (items.size < items2.size):=by
    cases hvi with
    | nil =>
     cases hwi with
     | nil =>
      simp only [List.length_nil] at hlen
      rw[lexLt_nil_nil]
      exact(decide_eq_false (by omega)).symm
     | cons c u hw =>
      simp only [List.length_nil,List.length_cons] at hlen
      rw[c3r]
      exact(decide_eq_true (by omega)).symm
    | cons a t hv =>
     cases hwi with
     | nil =>
      simp only [List.length_nil,List.length_cons] at hlen
      rw[c3o]
      exact(decide_eq_false (by omega)).symm
     | cons c u hw =>
      rw[List.zip_cons_cons] at hz
      cases hz
   rw[hv] at hR
   wp_walk
   exact⟨_,rfl,by simpa [Builtin.Tuple.tupleCompareSizes] using hR⟩
  case h =>
   exact⟨rfl,rfl,items.toList,items2.toList,ns,ms,rfl,hi,hj,by omega,h⟩
end
section
variable {prog:Program} {w:World} {A:Around} {E:Value->Shared->Prop} {s:Shared}
theorem lt_tupInts {l b:Addr} {items items2:Array Value} {ns ms:List Int} {Q:Value->Shared->Prop} (hl:IsTup s.heap l items) (hb:IsTup s.heap b items2) (hi:IntsAre items.toList ns) (hj:IntsAre items2.toList ms)
  (hu:A.units < cLine) (h:Q (.bool (lexLt ns ms)) s):wpAny (model prog w) A (compareOp .Lt (.ref l) (.ref b)) Q E s:=by
 obtain⟨⟨cls,dd,data,sl⟩,ho,hc,n,hd⟩:=id hl
 obtain⟨⟨cls2,dd2,data2,sl2⟩,ho2,hc2,n2,hd2⟩:=id hb
 simp only at hc hd hc2 hd2
 subst hc hd hc2 hd2
 exact richCompare_meets_room (op:=.Lt) ⟨_,ho,rfl⟩ ⟨_,ho2,rfl⟩ PySem.F.slot_tuple_lt PySem.F.entry_tuple_lt (PySem.F.args_tuple_lt_2 _ _) (c7c l b items items2 n n2 dd dd2 sl sl2 ns ms hi hj)
  ⟨ho,ho2,show Value.bool (lexLt ns ms)≠Value.notImplemented/\Q (.bool (lexLt ns ms)) s from ⟨(λ x=>nomatch x),h⟩⟩ hu
def sIx (n d:Nat):Option Int->Nat
 | none=>d
 | some v=>if v < 0 then (v+(n:Int)).toNat else min v.toNat n
theorem sIx_none (n d:Nat):sIx n d none=d:=rfl
theorem sIx_nat (n d k:Nat):sIx n d (some (k:Int))=min k n:=by
 show (if (k:Int) < 0 then ((k:Int)+(n:Int)).toNat else min (k:Int).toNat n)=min k n
 rw[if_neg (by omega),Int.toNat_natCast]
end
end HT
namespace L2
open PySem PySem.Spec PyProof.Rows
abbrev TO:=St->Hp->(Option Int->Hp->Prop)->Prop
structure PO (X:Cx) (e:Option Expr) (t:TO):Prop where
 run:∀ (pins:List (Addr×Obj)) (s:Shared) (σ:St) (H:Hp) (Q:Option Int->Hp->Prop),Inv X pins σ H s->t σ H Q ->
  wpAny (model X.prog X.w) X.A (evalPart e X.env) (λ u s'=>∃ o H',Inv X pins σ H' s'/\IsPart u o/\Q o H') X.xe s
instance {X:Cx} {e:Option Expr} {t:TO}:CoeFun (PO X e t) λ _=>∀ (pins:List (Addr×Obj)) (s:Shared) (σ:St) (H:Hp) (Q:Option Int->Hp->Prop),Inv X pins σ H s->t σ H Q ->
  wpAny (model X.prog X.w) X.A (evalPart e X.env) (λ u s'=>∃ o H',Inv X pins σ H' s'/\IsPart u o/\Q o H') X.xe s:=⟨PO.run⟩
def e5n:TO:=λ _ H Q=>Q none H
def f3c (t:TE):TO:=λ σ H Q=>t σ H λ x H1=>∃ i,x=.int i/\Q (some i) H1
section
variable {X:Cx} {e:Expr} {te:TE} {lo hi:Option Expr} {tl th:TO} {pos p2:Pos}
theorem b0r:PO X none e5n:=by
 constructor;intro pins s σ H Q I h
 rw[evalPart_none]
 exact wpAny_pure ⟨none,H,I,.none,h⟩
theorem a9z (h:PE X e te):PO X (some e) (f3c te):=by
 constructor;intro pins s σ H Q I hw
 rw[evalPart_some]
 refine thn (h pins s σ H _ I hw) λ u s1 ⟨x,H1,I1,r1,q1⟩=>?_
 obtain⟨i,rfl,q⟩:=q1
 obtain⟨t,rfl⟩:=r1
 exact⟨some i,H1,I1,.int i t,q⟩
def SlR (X:Cx) (r:V->Option Int->Option Int->Hp->VK->Prop):Prop :=
 ∀ (pins:List (Addr×Obj)) (s:Shared) (σ:St) (H:Hp) (x:V) (v vl vu:Value) (lo hi:Option Int) (sl:Addr) (Q:VK),Inv X pins σ H s->a3n x v->s.heap.IsSliceOf sl vl vu .none->IsPart vl lo->IsPart vu hi->r x lo hi H Q ->
  ∃ T id,typeLookup (.type T) "__getitem__"=pure (some (.builtin id))/\s.TypeIs v T/\wpAny (model X.prog X.w) X.A (getItem v (.ref sl)) (EP X pins σ Q) X.xe s
def tSl (r:V->Option Int->Option Int->Hp->VK->Prop) (te:TE) (tl th:TO):TE:=λ σ H Q=>te σ H λ x H1=>tl σ H1 λ l H2=>th σ H2 λ u H3=>r x l u H3 Q
theorem a7h {r:V->Option Int->Option Int->Hp->VK->Prop} (hr:SlR X r) (he:PE X e te) (hl:PO X lo tl) (hu:PO X hi th):PE X (.Subscript e (.Slice lo hi none p2) pos) (tSl r te tl th):=by
 constructor;intro pins s σ H Q I h
 refine Subscript_ (thn (he pins s σ H _ I h) λ v s1 ⟨x,H1,I1,r1,q1⟩=>?_)
 refine wpAny_Slice (thn (hl pins s1 σ H1 _ I1 q1) λ vl s2 ⟨l,H2,I2,pl,q2⟩=>thn (hu pins s2 σ H2 _ I2 q2) λ vu s3 ⟨u,H3,I3,pu,q3⟩=>?_)
 rw[evalPart_none]
 refine wpAny_pure ?_
 have I4:Inv X pins σ H3 {s3 with heap:=s3.heap.push {cls:=.type "slice",data:=.fields #[vl,vu,.none]}}:=I3.kept (t':=s3.toks) λ b ob q=>Heap.get?_push_of_some _ q
 obtain⟨T,id,hT,ht,hg⟩:=hr pins {s3 with heap:=s3.heap.push {cls:=.type "slice",data:=.fields #[vl,vu,.none]}} σ H3 x v vl vu l u s3.heap.objs.size Q I4 r1 (Heap.IsSliceOf.new ..) pl pu q3
 show wpAny (model X.prog X.w) X.A (subscriptTail e (.Slice lo hi none p2) v (.ref s3.heap.objs.size)) (EP X pins σ Q) X.xe {s3 with heap:=s3.heap.push {cls:=.type "slice",data:=.fields #[vl,vu,.none]}}
 exact tail_any (ops:=[.ref s3.heap.objs.size,v]) ht hT hg (by with_unfolding_all rfl)
def a8g (xs:List V) (lo hi:Option Int):List V:=(xs.drop (HT.sIx xs.length 0 lo)).take (HT.sIx xs.length xs.length hi - HT.sIx xs.length 0 lo)
theorem a6h (xs:List V) (lo hi:Option Int):(a8g xs lo hi).length<=xs.length:=by
 unfold a8g
 rw[List.length_take,List.length_drop]
 omega
end
end L2
namespace L2
open PySem PySem.Spec PyProof.Rows
def ixN (n:Nat) (i:Int):Option Nat:=if 0<=i then (if i < n then some i.toNat else none) else if -(n:Int)<=i then some (i+n).toNat else none
def atI {α:Type} (xs:List α) (i:Int):Option α:=(ixN xs.length i).bind λ j=>xs[j]?
theorem d9z {n:Nat} {i:Int} {j:Nat} (h:ixN n i=some j):seqIndex? i n=some j/\j < n/\-(n:Int)<=i/\i < n:=by
 unfold ixN at h
 by_cases h0:0<=i
 ·rw[if_pos h0] at h
  by_cases h1:i < n
  ·rw[if_pos h1] at h
   have e:i.toNat=j:=Option.some.inj h
   exact⟨by rw[seqIndex_of h0 h1,e],by omega,by omega,h1⟩
  ·rw[if_neg h1] at h;cases h
 ·rw[if_neg h0] at h
  by_cases h1:-(n:Int)<=i
  ·rw[if_pos h1] at h
   have e:(i+n).toNat=j:=Option.some.inj h
   exact⟨by rw[seqIndex_neg (by omega) h1,e],by omega,h1,by omega⟩
  ·rw[if_neg h1] at h;cases h
theorem d2i {α:Type} {xs:List α} {i:Int} {v:α} (h:atI xs i=some v):∃ j,seqIndex? i xs.length=some j/\xs[j]?=some v/\j < xs.length/\-(xs.length:Int)<=i/\i < xs.length:=by
 unfold atI at h
 cases e:ixN xs.length i with
 | none=>rw[e] at h;cases h
 | some j =>
  rw[e] at h
  obtain⟨h1,h2,h3,h4⟩:=d9z e
  exact⟨j,h1,h,h2,h3,h4⟩
theorem a0i {α:Type} {xs:List α} {j:Nat} {v:α} (h:xs[j]?=some v):atI xs (j:Int)=some v:=by
 have hj:j < xs.length:=(List.getElem?_eq_some_iff.mp h).1
 have e:ixN xs.length (j:Int)=some j:=by
  unfold ixN
  rw[if_pos (by omega),if_pos (by omega)];simp
 unfold atI;rw[e];exact h
def e7v (b:Expr):Prop:=∀ o i,subscripted b false o i=operate [o,i] (getItem o i)
def IxR (X:Cx) (r:R2):Prop :=
 ∀ (value slice:Expr) (pins:List (Addr×Obj)) (s:Shared) (σ:St) (H:Hp) (x y:V) (v u:Value) (Q:VK),Inv X pins σ H s->a3n x v->a3n y u->r x y H Q ->
  subscripted slice false v u=operate [v,u] (getItem v u)->wpAny (model X.prog X.w) X.A (subscriptTail value slice v u) (EP X pins σ Q) X.xe s
def MtR (X:Cx) (id:String) (r:V->List V->Hp->VK->Prop):Prop :=
 ∀ (pins:List (Addr×Obj)) (s:Shared) (σ:St) (H:Hp) (x:V) (xs:List V) (v:Value) (us:List Value) (Q:VK),Inv X pins σ H s->a3n x v->a3o xs us->r x xs H Q ->
  wpAny (model X.prog X.w) X.A (call (.builtin id) (v::us)) (EP X pins σ Q) X.xe s
section
variable {X:Cx} {a b:Expr} {ta tb:TE} {pos:Pos}
theorem a0m {r:R2} (hr:IxR X r) (ha:PE X a ta) (hb:PE X b tb) (hs:e7v b):PE X (.Subscript a b pos) (tOp r ta tb):=by
 constructor;intro pins s σ H Q I h
 exact Subscript_ (f3d ha hb I h λ v u s2 x y H2 I2 rx ry q=>hr a b pins s2 σ H2 x y v u Q I2 rx ry q (hs _ _))
def f1j (K:PySem.W.Frag):R2:=λ x y H Q=>∃ p xs i v,x=.ref p/\y=.int i/\SqL K H p xs/\atI xs i=some v/\Q v H
def f3p (K:PySem.W.Frag):R2:=λ x y H Q=>∃ p xs i v,x=.ref p/\y=.int i/\SqT K H p xs/\atI xs i=some v/\Q v H
theorem a0v:IxR X (f1j X.K):=by
 intro value slice pins s σ H x y v u Q I rx ry h hs
 obtain⟨p,xs,i,z,rfl,rfl,hq,he,q⟩:=h
 cases rx
 obtain⟨t,rfl⟩:=ry
 obtain⟨its,r,pl,hz⟩:=I.list hq
 obtain⟨j,h1,h2,h3,h4,h5⟩:=d2i he
 obtain⟨w,ew,rw'⟩:=r.get h2
 have hl:=r.length
 have hn:=d4p
 have fin:EP X pins σ Q w s:=⟨z,H,I,rw',q⟩
 by_cases h0:0<=i
 ·have hj:i.toNat=j:=by
   rw[seqIndex_of h0 h5] at h1
   exact Option.some.inj h1
  exact item_listR pl.isList h0 (by omega) (by rw[hj];simpa using ew) fin hs
 ·have hj:(i+(its.toArray.size:Int)).toNat=j:=by
   rw[seqIndex_neg (by omega) h4] at h1
   rw[List.size_toArray,<-hl]
   exact Option.some.inj h1
  exact subscriptTail_builtinR (x:=w) pl.isList.typeIs slot_list_getitem.lookup
   (wpAny_getItem_list_neg (Q:=λ r s'=>r=w/\EP X pins σ Q r s') pl.isList (by omega) (by rw[List.size_toArray]<;>omega) (by omega) (by rw[hj];simpa using ew) ⟨rfl,fin⟩) hs
theorem a0w:IxR X (f3p X.K):=by
 intro value slice pins s σ H x y v u Q I rx ry h hs
 obtain⟨p,xs,i,z,rfl,rfl,hq,he,q⟩:=h
 cases rx
 obtain⟨t,rfl⟩:=ry
 obtain⟨its,r,pl,hz⟩:=I.tuple hq
 obtain⟨j,h1,h2,h3,h4,h5⟩:=d2i he
 obtain⟨w,ew,rw'⟩:=r.get h2
 have hl:=r.length
 have hn:=d4p
 have fin:EP X pins σ Q w s:=⟨z,H,I,rw',q⟩
 exact subscriptTail_builtinR (x:=w) pl.typeIs slot_tuple_getitem.lookup
  (getItem_tuple (j:=j) (Q:=λ r s'=>r=w/\EP X pins σ Q r s') pl (by omega) (by omega) (by rw[List.size_toArray,<-hl];exact h1) (by simpa using ew) ⟨rfl,fin⟩) hs
theorem d6h (its:List Value) (n j:Nat) (u:Value):Obj.mapSeq (·.setIfInBounds j u) {cls:=.type "list",data:=.seq its.toArray n}={cls:=.type "list",data:=.seq (its.set j u).toArray n}:=by
 simp[Obj.mapSeq]
theorem Inv.lst {pins:List (Addr×Obj)} {σ:St} {H:Hp} {s:Shared} {p:Addr} {xs:List V} (I:Inv X pins σ H s) (h:H p=some (.lst xs)) :
  ∃ (its:List Value) (n:Nat),a3o xs its/\s.heap.get? p=some {cls:=.type "list",data:=.seq its.toArray n}/\xs.length<=sizeLine:=by
 obtain⟨z,its,n,r,e⟩:=I.hok p _ h
 exact⟨its,n,r,e,z⟩
theorem Inv.lstUpd {pins:List (Addr×Obj)} {σ:St} {H:Hp} {s:Shared} {p:Addr} {xs ys:List V} {its its':List Value} {n n':Nat} {f:Obj->Obj} (I:Inv X pins σ H s) (h:H p=some (.lst xs))
  (ho:s.heap.get? p=some {cls:=.type "list",data:=.seq its.toArray n}) (hf:f {cls:=.type "list",data:=.seq its.toArray n}={cls:=.type "list",data:=.seq its'.toArray n'}) (r:a3o ys its') (hz:ys.length<=sizeLine) (t:Nat) :
  Inv X pins σ (upd H p (.lst ys)) {s with heap:=s.heap.update p f,toks:=t}:=by
 have e:(s.heap.update p f).get? p=some {cls:=.type "list",data:=.seq its'.toArray n'}:=by
  rw[Heap.get?_update_self f ho (by rw[hf]<;>rfl),hf]
 refine I.write (x:=p) (e:=p) (by rw[h];trivial) (.inl rfl) (λ b u hb q=>(Heap.get?_update_other _ _ (Ne.symm hb)).trans q) ⟨_,e⟩ ?_
 exact⟨hz,its',n',r,e⟩
def f3h:V->V->V->Hp->(Hp->Prop)->Prop:=λ o i v H Q=>∃ p xs k j,o=.ref p/\i=.int k/\H p=some (.lst xs)/\ixN xs.length k=some j/\Q (upd H p (.lst (xs.set j v)))
theorem e3f:f2d X f3h:=by
 intro pins s σ H o i v ov iv u Q I ro ri rv h
 obtain⟨p,xs,k,j,rfl,rfl,hp,hj,q⟩:=h
 cases ro
 obtain⟨t,rfl⟩:=ri
 obtain⟨its,n,r,ho,hz⟩:=I.lst hp
 obtain⟨h1,h2,h3,h4⟩:=d9z hj
 have hl:=r.length
 have hn:=d4p
 have I':Inv X pins σ (upd H p (.lst (xs.set j v))) {s with heap:=s.heap.update p (Obj.mapSeq (·.setIfInBounds j u))} :=
  I.lstUpd hp ho (d6h its n j u) (r.set rv j) (by rw[List.length_set];exact hz) s.toks
 by_cases h0:0<=k
 ·have hk:k.toNat=j:=by
   rw[seqIndex_of h0 h4] at h1
   exact Option.some.inj h1
  exact PySem.W.ki_setAt ho h0 (by omega) (by rw[List.size_toArray,<-hl];exact h4) (by rw[hk];exact⟨_,I',q⟩)
 ·have hk:(k+(its.toArray.size:Int)).toNat=j:=by
   rw[seqIndex_neg (by omega) h3] at h1
   rw[List.size_toArray,<-hl]
   exact Option.some.inj h1
  exact PySem.W.ki_setBack ho (by omega) (by rw[List.size_toArray,<-hl];exact h3) (by omega) (by rw[hk];exact⟨_,I',q⟩)
theorem c8s (lo hi:Option Int) (n:Nat):(sliceBounds lo hi none n).1=((HT.sIx n 0 lo:Nat):Int)/\(sliceBounds lo hi none n).2.1=((HT.sIx n n hi:Nat):Int)/\(sliceBounds lo hi none n).2.2=1:=by
 refine⟨?_,?_,rfl⟩
 ·cases lo with
  | none=>simp[sliceBounds,HT.sIx]
  | some i =>
   simp only [sliceBounds,HT.sIx,Option.getD_none,show (1:Int) > 0 by decide,if_true]
   by_cases h:i < 0
   ·simp only [h,if_true]<;>omega
   ·simp only [h,if_false]<;>omega
 ·cases hi with
  | none=>simp[sliceBounds,HT.sIx]
  | some i =>
   simp only [sliceBounds,HT.sIx,Option.getD_none,show (1:Int) > 0 by decide,if_true]
   by_cases h:i < 0
   ·simp only [h,if_true]<;>omega
   ·simp only [h,if_false]<;>omega
theorem c6d (its:List Value) (lo hi:Option Int):slicePick its.toArray lo hi none=((its.drop (HT.sIx its.length 0 lo)).take (HT.sIx its.length its.length hi - HT.sIx its.length 0 lo)).toArray:=by
 obtain⟨h1,h2,h3⟩:=c8s lo hi its.toArray.size
 unfold slicePick
 rw[h1,h2,h3]
 simp only [sliceRange_one,pick_run,List.size_toArray]<;>rfl
def f4q (K:PySem.W.Frag):V->Option Int->Option Int->Hp->VK->Prop:=λ x lo hi H Q=>∃ a xs,x=.ref a/\SqL K H a xs/\∀ p,H p=none->Q (.ref p) (upd H p (.lst (a8g xs lo hi)))
theorem b0j:SlR X (f4q X.K):=by
 intro pins s σ H x v vl vu lo hi sl Q I rx hs pl pu h
 obtain⟨a,xs,rfl,hx,q⟩:=h
 cases rx
 obtain⟨its,r,ht,hz⟩:=I.list hx
 have hlen:=r.length
 refine⟨"list",_,slot_list_getitem.lookup,ht.isList.typeIs,?_⟩
 refine wpAny_getItem_list_slice ht.isList hs pl pu .none (by simp) ?_ (by rw[List.size_toArray]<;>omega)
 rw[c6d,<-hlen]
 refine⟨.ref s.heap.objs.size,_,I.laid (t':=s.toks) (o:=.lst (a8g xs lo hi)) (λ b ob q=>Heap.get?_push_of_some _ q) (Nat.le_refl _) ?_,rfl,q _ (I.hok.fresh (Nat.le_refl _))⟩
 exact⟨Nat.le_trans (a6h xs lo hi) hz,_,0,(r.drop (HT.sIx xs.length 0 lo)).take (HT.sIx xs.length xs.length hi - HT.sIx xs.length 0 lo),Heap.get?_push_size _ rfl⟩
def c6q:V->Bool
 | .non=>true
 | .bl _=>true
 | .int _=>true
 | .str _=>true
 | _=>false
def eqV:V->V->Bool
 | .non,.non=>true
 | .bl a,.bl b=>a == b
 | .bl a,.int b=>(if a then 1 else 0) == b
 | .int a,.bl b=>a == (if b then 1 else 0)
 | .int a,.int b=>a == b
 | .str a,.str b=>a == b
 | _,_=>false
theorem f0n {A:Around} {s:Shared} {y x:V} {u v:Value} (ry:a3n y u) (rx:a3n x v) (fy:c6q y=true) (fx:c6q x=true):SeqAt.EqAt A s u v (eqV y x):=by
 cases y with
 | non =>
  cases ry
  cases x with
  | non=>cases rx;exact SeqAt.EqAt.same _
  | bl b=>cases rx;exact SeqAt.EqAt.none_bool b
  | int b=>obtain⟨t,rfl⟩:=rx;exact SeqAt.EqAt.none_int b t
  | str b=>obtain⟨t,rfl⟩:=rx;exact SeqAt.EqAt.none_str b t
  | _=>exact absurd (show false=true from fx) Bool.false_ne_true
 | bl a =>
  cases ry
  cases x with
  | non=>cases rx;exact SeqAt.EqAt.bool_none a
  | bl b=>cases rx;exact SeqAt.EqAt.bool_bool a b
  | int b=>obtain⟨t,rfl⟩:=rx;exact SeqAt.EqAt.bool_int a b t
  | str b=>obtain⟨t,rfl⟩:=rx;exact SeqAt.EqAt.bool_str a b t
  | _=>exact absurd (show false=true from fx) Bool.false_ne_true
 | int a =>
  obtain⟨t',rfl⟩:=ry
  cases x with
  | non=>cases rx;exact SeqAt.EqAt.int_none a t'
  | bl b=>cases rx;exact SeqAt.EqAt.int_bool a t' b
  | int b=>obtain⟨t,rfl⟩:=rx;exact SeqAt.EqAt.int_int a t' b t
  | str b=>obtain⟨t,rfl⟩:=rx;exact SeqAt.EqAt.int_str a t' b t
  | _=>exact absurd (show false=true from fx) Bool.false_ne_true
 | str a =>
  obtain⟨t',rfl⟩:=ry
  cases x with
  | non=>cases rx;exact SeqAt.EqAt.str_none a t'
  | bl b=>cases rx;exact SeqAt.EqAt.str_bool a t' b
  | int b=>obtain⟨t,rfl⟩:=rx;exact SeqAt.EqAt.str_int a t' b t
  | str b=>obtain⟨t,rfl⟩:=rx;exact SeqAt.EqAt.str_str a t' b t
  | _=>exact absurd (show false=true from fx) Bool.false_ne_true
 | _=>exact absurd (show false=true from fy) Bool.false_ne_true
def eqU (x:V) (u:Value):Bool:=match u with
 | .none=>eqV .non x
 | .bool b=>eqV (.bl b) x
 | .int i _=>eqV (.int i) x
 | .str z _=>eqV (.str z) x
 | _=>false
theorem e5i {x y:V} {u:Value} (r:a3n y u) (f:c6q y=true):eqU x u=eqV y x:=by
 cases y with
 | non=>cases r;rfl
 | bl b=>cases r;rfl
 | int i=>obtain⟨t,rfl⟩:=r;rfl
 | str z=>obtain⟨t,rfl⟩:=r;rfl
 | _=>exact absurd (show false=true from f) Bool.false_ne_true
theorem d1s {x:V}:∀ {xs:List V} {us:List Value},a3o xs us->xs.all c6q=true->us.any (eqU x)=xs.any λ y=>eqV y x
 | _,_,.nil,_=>rfl
 | y::xs,u::us,.cons r t,f=>by
  rw[List.all_cons,Bool.and_eq_true] at f
  rw[List.any_cons,List.any_cons,e5i r f.1,d1s t f.2]
theorem c6y {A:Around} {s:Shared} {x:V} {v:Value} (rx:a3n x v) (fx:c6q x=true):∀ {xs:List V} {us:List Value},a3o xs us->xs.all c6q=true->∀ u∈us,SeqAt.EqAt A s u v (eqU x u)
 | _,_,.nil,_=>λ u hu=>by cases hu
 | y::xs,u::us,.cons r t,f=>λ u' hu=>by
  rw[List.all_cons,Bool.and_eq_true] at f
  rcases List.mem_cons.mp hu with rfl | hu
  ·rw[e5i r f.1];exact f0n r rx f.1 fx
  ·exact c6y rx fx t f.2 u' hu
def inV (x:V) (xs:List V):Bool:=xs.any λ y=>eqV y x
def rIn (K:PySem.W.Frag) (neg:Bool):R2:=λ x y H Q=>∃ p xs,y=.ref p/\(SqL K H p xs\/SqT K H p xs)/\c6q x=true/\xs.all c6q=true/\Q (.bl (if neg then !inV x xs else inV x xs)) H
theorem d7z:OpR X (compareOp .In) (rIn X.K false):=by
 intro pins s σ H x y v u Q I rx ry h
 obtain⟨p,xs,rfl,hq,fx,fs,q⟩:=h
 cases ry
 rcases hq with hq | hq
 ·obtain⟨its,r,pl,hz⟩:=I.list hq
  refine SeqAt.in_listAt (eqU x) pl.isList (λ w hw=>c6y rx fx r fs w (by simpa using hw)) ⟨.bl _,H,I,rfl,?_⟩
  rw[show its.toArray.any (eqU x)=its.any (eqU x) by simp,d1s r fs]
  exact q
 ·obtain⟨its,r,pl,hz⟩:=I.tuple hq
  refine SeqAt.in_tupleAt (eqU x) pl (λ w hw=>c6y rx fx r fs w (by simpa using hw)) ⟨.bl _,H,I,rfl,?_⟩
  rw[show its.toArray.any (eqU x)=its.any (eqU x) by simp,d1s r fs]
  exact q
theorem a5h:b7n X (.type "list") (λ xs H Q=>∃ p ys,xs=[.ref p]/\(SqL X.K H p ys\/SqT X.K H p ys)/\∀ l,H l=none->Q (.ref l) (upd H l (.lst ys))):=by
 intro pins s σ H xs us Q I r h
 obtain⟨p,ys,rfl,hq,q⟩:=h
 obtain⟨u,rfl,rx⟩:=c6a r
 cases rx
 have fin:∀ (its:List Value),a3o ys its->ys.length<=sizeLine->∀ (h':Heap) (c':Nat),(∀ b o',s.heap.get? b=some o'->h'.get? b=some o') ->
   h'.get? s.heap.objs.size=some {cls:=.type "list",dict:=none,data:=.seq its.toArray c',slots:=#[]}->EP X pins σ Q (.ref s.heap.objs.size) {s with heap:=h'}:=λ its r' hz h' c' kp e =>
  ⟨.ref s.heap.objs.size,_,I.laid (t':=s.toks) kp (Nat.le_refl _) (show a3f X.prog X.w _ h' _ (.lst ys) from ⟨hz,its,c',r',e⟩),rfl,q _ (I.hok.fresh (Nat.le_refl _))⟩
 rcases hq with hq | hq
 ·obtain⟨its,r',pl,hz⟩:=I.list hq
  have hlen:=r'.length
  obtain⟨o,ho,hc,n,hd⟩:=pl.isList
  exact call_list_seq p (.inl rfl) ho hc hd (λ h' c' kp e=>fin its r' hz h' c' kp e) (by simp only [List.size_toArray]<;>omega)
 ·obtain⟨its,r',pl,hz⟩:=I.tuple hq
  have hlen:=r'.length
  obtain⟨o,ho,hc,n,hd⟩:=pl
  exact call_list_seq p (.inr rfl) ho hc hd (λ h' c' kp e=>fin its r' hz h' c' kp e) (by simp only [List.size_toArray]<;>omega)
def tyV (K:PySem.W.Frag) (T:String) (x:V) (H:Hp):Prop:=match x with
 | .str _=>T="str"
 | .int _=>T="int"
 | .ref p=>(T="list"/\∃ xs,SqL K H p xs)\/(T="tuple"/\∃ o,K.lookup p=some o/\o.cls=.type "tuple"/\o.dict=none) \/
   (T="dict"/\((∃ kvs,H p=some (.dK kvs))\/∃ kvs,H p=some (.dT kvs)))\/(T="set"/\∃ S n,H p=some (.set S n))
 | _=>False
theorem e8u {pins:List (Addr×Obj)} {σ:St} {H:Hp} {s:Shared} {T:String} {x:V} {v:Value} (I:Inv X pins σ H s) (r:a3n x v) (ty:tyV X.K T x H) :
  s.TypeIs v T/\∀ a,v=.ref a->∃ ob,s.heap.get? a=some ob/\ob.dict=none:=by
 cases x with
 | str z =>
  obtain⟨t,rfl⟩:=r
  cases (show T="str" from ty)
  exact⟨typeIs_str s z t,λ _ e=>nomatch e⟩
 | int i =>
  obtain⟨t,rfl⟩:=r
  cases (show T="int" from ty)
  exact⟨typeIs_int s i t,λ _ e=>nomatch e⟩
 | ref p =>
  cases r
  rcases ty with ⟨rfl,xs,hq⟩ | ⟨rfl,o,hk,hc,hd⟩ | ⟨rfl,hk⟩ | ⟨rfl,S,n,hk⟩
  ·obtain⟨its,_,pl,_⟩:=I.list hq
   refine⟨pl.isList.typeIs,λ a e=>?_⟩
   cases e
   obtain⟨o,n,e,c,hd,_⟩:=pl
   exact⟨o,e,hd⟩
  ·refine⟨⟨o,I.kIn p o hk,hc⟩,λ a e=>?_⟩
   cases e
   exact⟨o,I.kIn _ o hk,hd⟩
  ·have z:∃ o,s.heap.get? p=some o/\o.ExactDict:=by
    rcases hk with ⟨kvs,hk⟩ | ⟨kvs,hk⟩
    ·obtain⟨_,_,_,_,o,_,_,e,ex,_⟩:=I.hok p _ hk
     exact⟨o,e,ex⟩
    ·obtain⟨_,_,_,_,o,_,_,e,ex,_⟩:=I.hok p _ hk
     exact⟨o,e,ex⟩
   obtain⟨o,e,ex⟩:=z
   refine⟨⟨o,e,ex.1⟩,λ a e2=>?_⟩
   cases e2
   exact⟨o,e,ex.2.1⟩
  ·obtain⟨o,_,_,_,e,ex,_⟩:=I.hok p _ hk
   refine⟨⟨o,e,ex.1⟩,λ a e2=>?_⟩
   cases e2
   exact⟨o,e,ex.2.1⟩
 | _=>exact False.elim ty
def tBM (K:PySem.W.Frag) (T:String) (r:V->List V->Hp->VK->Prop) (to:TE) (t:TA):TE:=λ σ H Q=>to σ H λ x H1=>tyV K T x H1/\t σ H1 λ xs H2=>r x xs H2 Q
variable {o e:Expr} {es:List Expr} {to:TE} {t:TA} {name:Str} {apos cpos:Pos} {T id:String} {r:V->List V->Hp->VK->Prop}
theorem b9f (pa:PlainAttrs T) (slot:Slot T name id) (hty:typeOf (.builtin id)=pure (.type "method_descriptor")) (hm:MtR X id r) (ho:PE X o to) (ha:PA X (e::es) t)
  (hbase:attributeBase o name X.env (eval o X.env)=eval o X.env:=by rfl)
  (hfew:((backTo cpos (starEach (e::es) X.env)).all (λ x=>!x.1) && (backToKw cpos (keywordEach [] X.env)).all (λ x=>x.1.isSome)
   && decide ((e::es).length+([]:List Keyword).length+(if ([]:List Keyword).isEmpty then 0 else 1) < 30))=true:=by rfl)
  (hline:(apos.endLine == cpos.line)=true:=by rfl) (hs:starEach (e::es) X.env=(false,eval e X.env)::starEach es X.env:=by rfl) (hplain:(backTo cpos (starEach es X.env)).any (·.1)=false:=by rfl) :
  PE X (.Call (.Attribute o name apos) (e::es) [] cpos) (tBM X.K T r to t):=by
 constructor;intro pins s σ H Q I h
 refine wpAny_Call_method_late hbase hfew hline rfl (thn (ho pins s σ H _ I h) λ v s1 ⟨x,H1,I1,r1,ty,q1⟩=>?_)
 obtain⟨h1,h2⟩:=e8u I1 r1 ty
 refine⟨T,id,pa,slot,hty,h1,h2,?_⟩
 have hA:=ha cpos pins s1 σ H1 _ I1 q1
 rw[hs] at hA ⊢
 refine Calls.callWith_builtin (by show (false || (backTo cpos (starEach es X.env)).any (·.1))=false;rw[hplain]<;>rfl) (Calls.evalArgs_plain ?_)
 exact thn hA λ us s2 ⟨vs,H2,I2,r2,q2⟩=>hm pins s2 σ H2 x vs v us Q I2 r1 r2 q2
end
end L2
namespace L2
open PySem PySem.Spec PyProof.Rows
def MtM (X:Cx) (id:String) (r:V->List V->Hp->VK->Prop):Prop :=
 ∀ (pins:List (Addr×Obj)) (s:Shared) (σ:St) (H:Hp) (x:V) (xs:List V) (v:Value) (us:List Value) (Q:VK),Inv X pins σ H s->a3n x v->a3o xs us->r x xs H Q ->
  wpAny (model X.prog X.w) X.A (call (.builtin id) (v::us)) (EP X pins σ Q) X.xe s
theorem a3o.one:∀ {x:V} {us:List Value},a3o [x] us->∃ u,us=[u]/\a3n x u
 | _,_,.cons r .nil=>⟨_,rfl,r⟩
theorem a3o.eraseIdx:∀ {xs:List V} {us:List Value} (i:Nat),a3o xs us->a3o (xs.eraseIdx i) (us.eraseIdx i)
 | _,_,_,.nil=>.nil
 | _,_,0,.cons _ t=>t
 | _,_,i+1,.cons r t=>.cons r (a3o.eraseIdx i t)
theorem c8r {α:Type}:∀ (l:List α) (i:Nat),(l.eraseIdx i).length<=l.length
 | [],_=>Nat.le_refl _
 | _::_,0=>Nat.le_succ _
 | _::r,i+1=>Nat.succ_le_succ (c8r r i)
section
variable {X:Cx} {pins:List (Addr×Obj)} {σ:St} {H:Hp} {s:Shared} {l b:Addr} {xs ys zs:List V}
theorem Inv.lset {its its':List Value} {n:Nat} {f:Array Value->Array Value} {t':Nat} (I:Inv X pins σ H s) (hH:H l=some (.lst xs))
  (e:s.heap.get? l=some {cls:=.type "list",data:=.seq its.toArray n}) (hf:f its.toArray=its'.toArray) (hv:a3o ys its') (hz:ys.length<=sizeLine) :
  Inv X pins σ (upd H l (.lst ys)) {s with heap:=s.heap.update l (Obj.mapSeq f),toks:=t'}:=by
 have q:=PySem.IsL.update e f
 rw[hf] at q
 refine I.write (x:=l) (e:=l) (by rw[hH];exact trivial) (.inl rfl) (λ b' u hb hu=>(Heap.get?_update_other s.heap (Obj.mapSeq f) (Ne.symm hb)).trans hu) ⟨_,q⟩ ?_
 exact⟨hz,its',_,hv,q⟩
theorem Inv.lnew {its:List Value} {t':Nat} (I:Inv X pins σ H s) (hv:a3o ys its) (hz:ys.length<=sizeLine) :
  Inv X pins σ (upd H s.heap.objs.size (.lst ys)) {s with heap:=s.heap.push {cls:=.type "list",data:=.seq its.toArray},toks:=t'} :=
 I.laid (λ _ _ q=>Heap.get?_push_of_some _ q) (Nat.le_refl _) ⟨hz,its,0,hv,Heap.get?_push_size _ rfl⟩
theorem Inv.fresh (I:Inv X pins σ H s):H s.heap.objs.size=none:=I.hok.fresh (Nat.le_refl _)
theorem Inv.lstM (I:Inv X pins σ H s) (hH:H l=some (.lst xs)):xs.length<=sizeLine/\∃ (its:List Value) (n:Nat),a3o xs its/\xs.length=its.length/\s.heap.get? l=some {cls:=.type "list",data:=.seq its.toArray n}:=by
 obtain⟨z,its,n,r,e⟩:=I.hok l _ hH
 exact⟨z,its,n,r,r.length,e⟩
theorem e1c {n:Nat} (h:n<=sizeLine):Builtin.List.listTooLong n=false:=by
 unfold Builtin.List.listTooLong
 exact decide_eq_false (by omega)
end
section
variable {X:Cx}
def rAppend:V->List V->Hp->VK->Prop:=λ x vs H Q=>∃ l xs y,x=.ref l/\vs=[y]/\H l=some (.lst xs)/\xs.length < sizeLine/\Q .non (upd H l (.lst (xs++[y])))
theorem c8n:MtM X "list.append" rAppend:=by
 intro pins s σ H x vs v us Q I rx rv h
 obtain⟨l,xs,y,rfl,rfl,hH,hz,q⟩:=h
 cases rx
 obtain⟨u,rfl,ru⟩:=rv.one
 obtain⟨z,its,n,r,hl,e⟩:=I.lstM hH
 refine call_meets F.slot_list_append ⟨_,e,rfl⟩ F.entry_list_append (F.args_list_append_2 _ _) (PySem.list_append l its.toArray n u (by rw[List.size_toArray];omega)) ⟨e,?_⟩
 refine⟨.non,_,I.lset (its':=its++[u]) hH e (by simp) (r.append (.cons ru .nil)) ?_,rfl,q⟩
 rw[List.length_append,List.length_singleton]
 omega
def rExtend:V->List V->Hp->VK->Prop:=λ x vs H Q=>∃ l b xs zs,x=.ref l/\vs=[.ref b]/\H l=some (.lst xs)/\H b=some (.lst zs)/\xs.length+zs.length<=sizeLine/\Q .non (upd H l (.lst (xs++zs)))
theorem d9n:MtM X "list.extend" rExtend:=by
 intro pins s σ H x vs v us Q I rx rv h
 obtain⟨l,b,xs,zs,rfl,rfl,hH,hB,hz,q⟩:=h
 cases rx
 obtain⟨u,rfl,ru⟩:=rv.one
 cases ru
 obtain⟨z,its,n,r,hl,e⟩:=I.lstM hH
 obtain⟨z2,its2,n2,r2,hl2,e2⟩:=I.lstM hB
 have hsz:its.toArray.size+its2.toArray.size<=sizeLine:=by rw[List.size_toArray,List.size_toArray];omega
 have hlong:¬ (!its.toArray.isEmpty && Builtin.List.listTooLong (its.toArray.size+its2.toArray.size))=true:=by
  rw[e1c hsz,Bool.and_false]
  exact Bool.false_ne_true
 refine call_meets F.slot_list_extend ⟨_,e,rfl⟩ F.entry_list_extend (F.args_list_extend_2 _ _)
  (AutoSeq1.list_extend_list_list_0 l its.toArray n b its2.toArray n2 hlong (by rw[List.size_toArray];omega) (by omega)) ⟨e,e2,?_⟩
 refine⟨.non,_,I.lset (its':=its++its2) hH e (by simp) (r.append r2) ?_,rfl,q⟩
 rw[List.length_append]
 omega
def rPopAt:V->List V->Hp->VK->Prop:=λ x vs H Q=>∃ l xs i k y,x=.ref l/\vs=[.int i]/\H l=some (.lst xs)/\-(2 ^ 63)<=i/\i < 2 ^ 63/\seqIndex? i xs.length=some k/\xs[k]?=some y/\Q y (upd H l (.lst (xs.eraseIdx k)))
theorem e3s:MtM X "list.pop" rPopAt:=by
 intro pins s σ H x vs v us Q I rx rv h
 obtain⟨l,xs,i,k,y,rfl,rfl,hH,h1,h2,hk,hy,q⟩:=h
 cases rx
 obtain⟨u,rfl,ru⟩:=rv.one
 obtain⟨t,rfl⟩:=ru
 obtain⟨z,its,n,r,hl,e⟩:=I.lstM hH
 obtain⟨w,hw,rw'⟩:=r.get hy
 refine call_meets F.slot_list_pop ⟨_,e,rfl⟩ F.entry_list_pop (F.args_list_pop_2 _ _)
  (MeetsSeq.list_pop_at l its.toArray n i t k w (fitsIndex_both h1 h2) (by rw[List.size_toArray,<-hl];exact hk) (by rw[<-Array.getElem?_toList];exact hw) (by rw[List.size_toArray];omega)) ⟨e,?_⟩
 refine⟨y,_,I.lset (its':=its.eraseIdx k) hH e ?_ (r.eraseIdx k) ?_,rw',q⟩
 ·show its.toArray.eraseIdxIfInBounds k=(its.eraseIdx k).toArray
  rw[List.eraseIdxIfInBounds_toArray]
 ·have:=c8r xs k
  omega
def f4h:R2:=λ x y H Q=>∃ l b xs zs,x=.ref l/\y=.ref b/\H l=some (.lst xs)/\H b=some (.lst zs)/\xs.length+zs.length<=sizeLine/\∀ p,H p=none->Q (.ref p) (upd H p (.lst (xs++zs)))
theorem b8q:OpR X (binaryOp .Add) f4h:=by
 intro pins s σ H x y v u Q I rx ry h
 obtain⟨l,b,xs,zs,rfl,rfl,hH,hB,hz,q⟩:=h
 cases rx
 cases ry
 obtain⟨z,its,n,r,hl,e⟩:=I.lstM hH
 obtain⟨z2,its2,n2,r2,hl2,e2⟩:=I.lstM hB
 refine PySem.P.add_list e e2 ?_ (by rw[List.size_toArray,List.size_toArray];omega)
 have ea:its.toArray++its2.toArray=(its++its2).toArray:=by simp
 rw[ea]
 exact⟨.ref _,_,I.lnew (t':=s.toks) (r.append r2) (by rw[List.length_append];omega),rfl,q _ I.fresh⟩
end
end L2
namespace L2
open PySem PySem.Spec PyProof.Rows
section
variable {κ:Type} [DecidableEq κ]
def a4l (kvs:List (κ×V)) (k:κ):Option V:=(kvs.find? λ kv=>decide (kv.1=k)).map (·.2)
def a6v (kvs:List (κ×V)) (k:κ) (v:V):List (κ×V) :=
 if (kvs.any λ kv=>decide (kv.1=k))=true then kvs.map (λ kv=>if kv.1=k then (kv.1,v) else kv) else kvs++[(k,v)]
def e9b (kvs:List (κ×V)) (k:κ):List (κ×V):=kvs.filter λ kv=>decide (kv.1≠k)
theorem a4q {p:κ×V} {r:List (κ×V)} {k:κ} (e:p.1=k):a4l (p::r) k=some p.2:=by simp[a4l,List.find?_cons,e]
theorem a4s {p:κ×V} {r:List (κ×V)} {k:κ} (e:¬ p.1=k):a4l (p::r) k=a4l r k:=by simp[a4l,List.find?_cons,e]
theorem b3b (k:κ):∀ kvs:List (κ×V),(kvs.any λ kv=>decide (kv.1=k))=(a4l kvs k).isSome
 | []=>rfl
 | p::r=>by
  rw[List.any_cons]
  by_cases e:p.1=k
  ·simp only [a4q e,decide_eq_true e,Bool.true_or,Option.isSome_some]
  ·rw[a4s e,decide_eq_false e,Bool.false_or];exact b3b k r
theorem d4n (k j:κ) (y:V):∀ kvs:List (κ×V),a4l (kvs.map λ kv=>if kv.1=k then (kv.1,y) else kv) j=(a4l kvs j).map λ x=>if j=k then y else x
 | []=>rfl
 | p::r=>by
  have ih:=d4n k j y r
  rw[List.map_cons]
  by_cases h:p.1=k
  ·rw[if_pos h]
   by_cases e:p.1=j
   ·rw[a4q (p:=(p.1,y)) e,a4q e,Option.map_some,if_pos (e.symm.trans h)]
   ·rw[a4s (p:=(p.1,y)) e,a4s e,ih]
  ·rw[if_neg h]
   by_cases e:p.1=j
   ·rw[a4q (p:=p) e,a4q e,Option.map_some,if_neg (λ z=>h (e.trans z))]
   ·rw[a4s (p:=p) e,a4s e,ih]
theorem c9y (k j:κ) (y:V):∀ kvs:List (κ×V),a4l kvs k=none->a4l (kvs++[(k,y)]) j=if j=k then some y else a4l kvs j
 | [],_=>by
  by_cases e:k=j
  ·rw[if_pos e.symm];exact a4q (p:=(k,y)) e
  ·rw[if_neg (λ z=>e z.symm)];exact a4s (p:=(k,y)) e
 | p::r,hn=>by
  rw[List.cons_append]
  have hk:¬ p.1=k:=λ z=>by rw[a4q z] at hn;cases hn
  rw[a4s hk] at hn
  have ih:=c9y k j y r hn
  by_cases e:p.1=j
  ·rw[a4q e,a4q e,if_neg (λ z=>hk (e.trans z))]
  ·rw[a4s e,a4s e,ih]
theorem a8l (kvs:List (κ×V)) (k j:κ) (y:V):a4l (a6v kvs k y) j=if j=k then some y else a4l kvs j:=by
 unfold a6v
 by_cases a:(kvs.any λ kv=>decide (kv.1=k))=true
 ·rw[if_pos a,d4n]
  rw[b3b] at a
  by_cases e:j=k
  ·obtain⟨x,hx⟩:=Option.isSome_iff_exists.mp a
   rw[if_pos e,e,hx,Option.map_some,if_pos rfl]
  ·rw[if_neg e]
   cases a4l kvs j with
   | none=>rfl
   | some x=>rw[Option.map_some,if_neg e]
 ·rw[if_neg a]
  refine c9y k j y kvs ?_
  rw[b3b] at a
  cases q:a4l kvs k with
  | none=>rfl
  | some x=>rw[q] at a;exact(a rfl).elim
theorem a3z (kvs:List (κ×V)) (k:κ) (v:V):(a6v kvs k v).length<=kvs.length+1:=by
 unfold a6v
 split
 ·rw[List.length_map];omega
 ·rw[List.length_append,List.length_cons,List.length_nil];omega
theorem d3y {kvs:List (κ×V)} {k:κ} (v:V) (h:a4l kvs k=none):a6v kvs k v=kvs++[(k,v)]:=by
 unfold a6v
 rw[b3b,h]
 exact if_neg (by decide)
theorem d0y.isSome_eq {o:Option V} {u:Option Value} (r:d0y o u):o.isSome=u.isSome:=by
 cases o with
 | none=>cases u with
  | none=>rfl
  | some _=>exact(show False from r).elim
 | some _=>cases u with
  | none=>exact(show False from r).elim
  | some _=>rfl
theorem d0y.getD {o:Option V} {u:Option Value} {d:V} {d':Value} (r:d0y o u) (rd:a3n d d'):a3n (o.getD d) (u.getD d'):=by
 cases o with
 | none=>cases u with
  | none=>exact rd
  | some _=>exact(show False from r).elim
 | some _=>cases u with
  | none=>exact(show False from r).elim
  | some _=>exact r
theorem KV.val {kvs:List (κ×V)} {vs:List (κ×Value)} (r:KV kvs vs) (k:κ):d0y (a4l kvs k) (valueAt vs k):=by
 unfold KV at r
 induction r with
 | nil=>exact True.intro
 | @cons p q ps qs h t ih =>
  obtain⟨h1,h2⟩:=h
  by_cases e:p.1=k
  ·have e':q.1=k:=h1.symm.trans e
   have b:valueAt (q::qs) k=some q.2:=by simp[valueAt,List.find?_cons,e']
   rw[a4q e,b];exact h2
  ·have e':¬ q.1=k:=λ z=>e (h1.trans z)
   have b:valueAt (q::qs) k=valueAt qs k:=by simp[valueAt,List.find?_cons,e']
   rw[a4s e,b];exact ih
theorem KV.any {kvs:List (κ×V)} {vs:List (κ×Value)} (r:KV kvs vs) (k:κ):(kvs.any λ kv=>decide (kv.1=k))=vs.any λ kv=>decide (kv.1=k):=by
 unfold KV at r
 induction r with
 | nil=>rfl
 | cons h t ih=>rw[List.any_cons,List.any_cons,ih,h.1]
theorem KV.repl {kvs:List (κ×V)} {vs:List (κ×Value)} (r:KV kvs vs) (k:κ) {y:V} {u:Value} (ry:a3n y u) :
  KV (kvs.map λ kv=>if kv.1=k then (kv.1,y) else kv) (vs.map λ kv=>if kv.1=k then (kv.1,u) else kv):=by
 unfold KV at r ⊢
 induction r with
 | nil=>exact .nil
 | @cons p q ps qs h t ih =>
  rw[List.map_cons,List.map_cons]
  refine .cons ?_ ih
  obtain⟨h1,h2⟩:=h
  by_cases e:p.1=k
  ·rw[if_pos e,if_pos (h1.symm.trans e)];exact⟨h1,ry⟩
  ·rw[if_neg e,if_neg (λ z=>e (h1.trans z))];exact⟨h1,h2⟩
theorem KV.put {kvs:List (κ×V)} {vs:List (κ×Value)} (r:KV kvs vs) (k:κ) {y:V} {u:Value} (ry:a3n y u):KV (a6v kvs k y) (stored vs k u):=by
 unfold a6v stored
 rw[r.any k]
 by_cases e:(vs.any λ kv=>decide (kv.1=k))=true
 ·rw[if_pos e,if_pos e];exact r.repl k ry
 ·rw[if_neg e,if_neg e];exact Paired.snoc r ⟨rfl,ry⟩
theorem KV.drop {kvs:List (κ×V)} {vs:List (κ×Value)} (r:KV kvs vs) (k:κ):KV (e9b kvs k) (without vs k):=by
 unfold KV at r ⊢
 unfold e9b without
 induction r with
 | nil=>exact .nil
 | @cons p q ps qs h t ih =>
  obtain⟨h1,h2⟩:=h
  rw[List.filter_cons,List.filter_cons]
  by_cases e:p.1=k
  ·have a:¬ decide (p.1≠k)=true:=by simp[e]
   have b:¬ decide (q.1≠k)=true:=by simp[h1.symm.trans e]
   rw[if_neg a,if_neg b];exact ih
  ·have e':¬ q.1=k:=λ z=>e (h1.trans z)
   have a:decide (p.1≠k)=true:=by simp[e]
   have b:decide (q.1≠k)=true:=by simp[e']
   rw[if_pos a,if_pos b];exact .cons ⟨h1,h2⟩ ih
theorem KV.length {kvs:List (κ×V)} {vs:List (κ×Value)} (r:KV kvs vs):kvs.length=vs.length:=Paired.length r
end
theorem c8f {P:Program} {w:World} {k:Key} {u:Value} (r:a3n (kV k) u):(a1e P w).is k u=true:=by
 cases k with
 | inl i=>obtain⟨t,e⟩:=(show ∃ t,u=Value.int i t from r);subst e;exact d2b P w i t
 | inr x=>obtain⟨t,e⟩:=(show ∃ t,u=Value.str x t from r);subst e;exact d2s P w x t
theorem f1c {a b:Key} (e:kV a=kV b):a=b:=by
 cases a with
 | inl i=>cases b with
  | inl j=>have e':V.int i=V.int j:=e;injection e' with e';rw[e']
  | inr y=>exact nomatch (show V.int i=V.str y from e)
 | inr x=>cases b with
  | inl j=>exact nomatch (show V.str x=V.int j from e)
  | inr y=>have e':V.str x=V.str y:=e;injection e' with e';rw[e']
theorem d8i:∀ {a b:List Key},a.map kV=b.map kV->a=b
 | [],[],_=>rfl
 | [],_::_,e=>by simp at e
 | _::_,[],e=>by simp at e
 | x::xs,y::ys,e=>by
  rw[List.map_cons,List.map_cons] at e
  injection e with e1 e2
  rw[f1c e1,d8i e2]
theorem c8b {P:Program} {w:World}:∀ {ks:List Key} {us:List Value},a3o (ks.map kV) us->ItemsAre (a1e P w) ks us
 | [],_,r=>by rw[List.map_nil] at r;cases r;exact .nil
 | k::ks,_,r=>by
  rw[List.map_cons] at r
  cases r with
  | cons h t=>exact .cons (c8f h) (c8b t)
abbrev KT (H:Hp):List (List Key×V)->List (List Key×Addr×Value)->Prop:=Paired λ p q=>p.1=q.1/\H q.2.1=some (.tup (p.1.map kV))/\a3n p.2 q.2.2
theorem KT.val {H:Hp} {kvs:List (List Key×V)} {xs:List (List Key×Addr×Value)} (r:KT H kvs xs) (k:List Key):d0y (a4l kvs k) ((atKey xs k).map (·.2)):=by
 induction r with
 | nil=>exact True.intro
 | @cons p q ps qs h t ih =>
  obtain⟨h1,_,h2⟩:=h
  by_cases e:p.1=k
  ·have e':q.1=k:=h1.symm.trans e
   have b:atKey (q::qs) k=some q.2:=by simp[atKey,List.find?_cons,e']
   rw[a4q e,b];exact h2
  ·have e':¬ q.1=k:=λ z=>e (h1.trans z)
   have b:atKey (q::qs) k=atKey qs k:=by simp[atKey,List.find?_cons,e']
   rw[a4s e,b];exact ih
theorem KT.repl {H:Hp} {kvs:List (List Key×V)} {xs:List (List Key×Addr×Value)} (r:KT H kvs xs) (k:List Key) {y:V} {u:Value} (ry:a3n y u) :
  KT H (kvs.map λ kv=>if kv.1=k then (kv.1,y) else kv) (xs.map (putAt k u)):=by
 induction r with
 | nil=>exact .nil
 | @cons p q ps qs h t ih =>
  rw[List.map_cons,List.map_cons]
  refine .cons ?_ ih
  obtain⟨h1,h2,h3⟩:=h
  unfold putAt
  by_cases e:p.1=k
  ·rw[if_pos e,if_pos (h1.symm.trans e)];exact⟨h1,h2,ry⟩
  ·rw[if_neg e,if_neg (λ z=>e (h1.trans z))];exact⟨h1,h2,h3⟩
theorem KT.put {H:Hp} {kvs:List (List Key×V)} {xs:List (List Key×Addr×Value)} (r:KT H kvs xs) (k:List Key) {b:Addr} {y:V} {u:Value} (hb:H b=some (.tup (k.map kV))) (ry:a3n y u) :
  KT H (a6v kvs k y) (storedH xs k b u):=by
 have e:(kvs.any λ kv=>decide (kv.1=k))=(atKey xs k).isSome:=by
  rw[b3b,(r.val k).isSome_eq,Option.isSome_map]
 unfold a6v storedH
 rw[e]
 by_cases q:(atKey xs k).isSome=true
 ·rw[if_pos q,if_pos q];exact r.repl k ry
 ·rw[if_neg q,if_neg q];exact Paired.snoc r ⟨rfl,hb,ry⟩
theorem KT.keeps {H H':Hp} {kvs:List (List Key×V)} {xs:List (List Key×Addr×Value)} (r:KT H kvs xs) (ht:∀ b ys,H b=some (.tup ys)->H' b=some (.tup ys)):KT H' kvs xs :=
 Paired.mapP r λ _ _ z=>⟨z.1,ht _ _ z.2.1,z.2.2⟩
section
variable {P:Program} {w:World} {H:Hp} {h:Heap} {a:Addr}
theorem f1f {u:HO} (ok:HOk P w H h) (e:Rd H a u):a3f P w H h a u:=e.ok ok
theorem d9a {kvs:List (Key×V)} (ok:HOk P w H h) (e:Rd H a (.dK kvs)):kvs.length<=sizeLine/\(a == sysModules)=false/\∃ vs,KV kvs vs/\h.DictOf (a1e P w) a vs :=
 show a3f P w H h a (.dK kvs) from f1f ok e
theorem e8f {kvs:List (Key×V)} (ok:HOk P w H h) (e:H a=some (.dK kvs)):kvs.length<=sizeLine/\(a == sysModules)=false/\∃ vs,KV kvs vs/\h.DictOf (a1e P w) a vs:=d9a ok (.inl e)
theorem d4v {ks:List Key} (ok:HOk P w H h) (e:H a=some (.tup (ks.map kV))):(tupleKind (a1e P w)).is h ks a:=by
 obtain⟨_,its,r,o,h1,h2,n,h3⟩:=(show a3f P w H h a (.tup (ks.map kV)) from ok a _ e)
 exact⟨o,its.toArray,n,h1,h2,h3,by simpa using c8b r⟩
theorem d9r {kvs:List (List Key×V)} (ok:HOk P w H h) (e:Rd H a (.dT kvs)):kvs.length<=sizeLine/\(a == sysModules)=false /\
  ∃ xs,KT H kvs xs/\h.DictOfH (tupleKind (a1e P w)) a xs:=by
 obtain⟨z,y,xs,r,o,es,ep,h1,h2,h3,h4,h5⟩:=(show a3f P w H h a (.dT kvs) from f1f ok e)
 refine⟨z,y,xs,r,o,es,ep,h1,h2,h3,h4,λ x hx=>?_,h5⟩
 have all:∀ {l:List (List Key×V)} {m:List (List Key×Addr×Value)},KT H l m->∀ x∈m,(tupleKind (a1e P w)).is h x.1 x.2.1:=by
  intro l m q
  induction q with
  | nil=>intro x hx;exact nomatch hx
  | @cons p q ps qs hq t ih =>
   intro x hx
   rcases List.mem_cons.mp hx with e | hx
   ·subst e
    exact d4v ok (by rw[<-hq.1];exact hq.2.1)
   ·exact ih x hx
 exact all r x hx
theorem f3g {kvs:List (List Key×V)} (ok:HOk P w H h) (e:H a=some (.dT kvs)):kvs.length<=sizeLine/\(a == sysModules)=false /\
  ∃ xs,KT H kvs xs/\h.DictOfH (tupleKind (a1e P w)) a xs:=d9r ok (.inl e)
end
def b3y (H:Hp) (a:Addr) (y:V) (r:Option V):Prop :=
 (∃ kvs k,Rd H a (.dK kvs)/\y=kV k/\r=a4l kvs k)\/∃ kvs k b,Rd H a (.dT kvs)/\y=.ref b/\H b=some (.tup (k.map kV))/\r=a4l kvs k
def d5t (H:Hp) (a:Addr) (y v:V) (H':Hp):Prop :=
 (∃ kvs k,H a=some (.dK kvs)/\y=kV k/\kvs.length < sizeLine/\H'=upd H a (.dK (a6v kvs k v))) \/
 ∃ kvs k b,H a=some (.dT kvs)/\y=.ref b/\H b=some (.tup (k.map kV))/\kvs.length < sizeLine/\H'=upd H a (.dT (a6v kvs k v))
theorem b3y.k {H:Hp} {a:Addr} {kvs:List (Key×V)} {k:Key} (e:H a=some (.dK kvs)):b3y H a (kV k) (a4l kvs k):=.inl ⟨kvs,k,.inl e,rfl,rfl⟩
theorem d5t.k {H:Hp} {a:Addr} {kvs:List (Key×V)} {k:Key} {v:V} (e:H a=some (.dK kvs)) (hl:kvs.length < sizeLine):d5t H a (kV k) v (upd H a (.dK (a6v kvs k v))):=.inl ⟨kvs,k,e,rfl,hl,rfl⟩
theorem d5t.t {H:Hp} {a b:Addr} {kvs:List (List Key×V)} {k:List Key} {v:V} (e:H a=some (.dT kvs)) (eb:H b=some (.tup (k.map kV))) (hl:kvs.length < sizeLine) :
  d5t H a (.ref b) v (upd H a (.dT (a6v kvs k v))):=.inr ⟨kvs,k,b,e,rfl,eb,hl,rfl⟩
section
variable {X:Cx} {pins:List (Addr×Obj)} {σ:St} {H:Hp} {s:Shared} {a:Addr} {y v:V} {u r:Value} {o:Option V} {A:Around} {E:Value->Shared->Prop}
theorem Inv.big (I:Inv X pins σ H s):sysModules < s.heap.objs.size:=by
 have h:mainGlobals < s.heap.objs.size:=(I.mod.glob.keeps I.bk).lt
 exact Nat.lt_trans (by decide) h
theorem d8x {Q:Value->Shared->Prop} (hu:A.units+1 < cLine) (I:Inv X pins σ H s) (g:b3y H a y (some v)) (ry:a3n y u) (h:∀ w' s',Inv X pins σ H s'->a3n v w'->Q w' s') :
  wpAny (model X.prog X.w) A (getItem (.ref a) u) Q E s:=by
 rcases g with ⟨kvs,k,e,ey,l⟩ | ⟨kvs,k,b,e,ey,eb,l⟩
 ·subst ey
  obtain⟨z,hd,vs,rel,dd⟩:=d9a I.hok e
  obtain⟨w',hw,rw'⟩:=d0y.some_of (v:=v) (o:=valueAt vs k) (by rw[l];exact rel.val k)
  exact wpAny_getItem_of (c8f ry) dd.mapOf hw (h w' _ (I.tok _) rw')
 ·subst ey
  cases (show u=Value.ref b from ry)
  obtain⟨z,hd,xs,rel,dd⟩:=d9r I.hok e
  obtain⟨w',hw,rw'⟩:=d0y.some_of (v:=v) (o:=(atKey xs k).map (·.2)) (by rw[l];exact rel.val k)
  obtain⟨p,hp,hp2⟩:=Option.map_eq_some_iff.mp hw
  refine wpAny_getItem_heap (tupleKind_room_in1 hu) (d4v I.hok eb) dd hp ?_
  rw[hp2]
  exact h w' _ (I.tok _) rw'
theorem d2j {h':Heap} {t':Nat} {ob:HO} (I:Inv X pins σ H s) (mu:Mut (H a)) (hs:Heap.SameBut a s.heap h') (he:∃ q,h'.get? a=some q) (new:a3f X.prog X.w (upd H a ob) h' a ob) :
  Inv X pins σ (upd H a ob) {s with heap:=h',toks:=t'} :=
 I.write (x:=a) (e:=a) mu (.inl rfl) (λ b q hb z=>(hs.2 b hb).trans z) he new
theorem d4h {P:Program} {w:World} {H':Hp} {h':Heap} {kvs:List (Key×V)} {vs:List (Key×Value)} (z:kvs.length<=sizeLine) (hd:(a == sysModules)=false) (rel:KV kvs vs) (dd:h'.DictOf (a1e P w) a vs) :
  a3f P w H' h' a (.dK kvs):=⟨z,hd,vs,rel,dd⟩
theorem e0c {H':Hp} {Q:Unit->Shared->Prop} (hu:A.units+1 < cLine) (I:Inv X pins σ H s) (g:d5t H a y v H') (ry:a3n y u) (rv:a3n v r) (h:∀ s',Inv X pins σ H' s'->Q () s') :
  wpAny (model X.prog X.w) A (setItem (.ref a) u r) Q E s:=by
 rcases g with ⟨kvs,k,e,ey,l,eH⟩ | ⟨kvs,k,b,e,ey,eb,l,eH⟩
 ·subst ey eH
  obtain⟨z,hd,vs,rel,dd⟩:=e8f I.hok e
  have hz:vs.length<=sizeLine:=by rw[<-rel.length];exact z
  have hl:(a6v kvs k v).length<=sizeLine:=by have:=a3z kvs k v;omega
  refine wpAny_setItem_pairs (hsz:=hz) (c8f ry) dd λ h' dd' hs=>h _ ?_
  have he:∃ q,h'.get? a=some q:=let ⟨q,_,_,hq,_⟩:=dd';⟨q,hq⟩
  exact d2j I (by rw[e];exact True.intro) hs he (d4h hl hd (rel.put k rv) dd')
 ·subst ey eH
  cases (show u=Value.ref b from ry)
  obtain⟨z,hd,xs,rel,dd⟩:=f3g I.hok e
  have hz:xs.length<=sizeLine:=by rw[<-Paired.length rel];exact z
  have hl:(a6v kvs k v).length<=sizeLine:=by have:=a3z kvs k v;omega
  refine wpAny_setItem_heap (hsz:=hz) (tupleKind_room_in1 hu) (d4v I.hok eb) dd λ h' dd' hs=>h _ ?_
  obtain⟨q,es,ep,hq,h2,h3,h4,_,h5⟩:=dd'
  refine d2j I (by rw[e];exact True.intro) hs ⟨q,hq⟩ ⟨hl,hd,_,(rel.put k eb rv).keeps λ c ys ec=>?_,q,es,ep,hq,h2,h3,h4,h5⟩
  rw[a0h (c2g ec e (λ z=>nomatch z))]
  exact ec
end
def f3x (i:Expr):Prop:=∀ ov iv,subscripted i false ov iv=operate [ov,iv] (getItem ov iv)
theorem e7c {prog:Program} {w:World} {A:Around} {E:Value->Shared->Prop} {s:Shared} {env:Env} {value slice:Expr} {pos:Pos} {T id:String} {Q:Value->Shared->Prop}
  (hl:typeLookup (.type T) "__getitem__"=pure (some (.builtin id))) (hs:f3x slice)
  (h:wpAny (model prog w) A (eval value env) (λ o s₁=>wpAny (model prog w) A (eval slice env) (λ i s₂=>s₂.TypeIs o T/\wpAny (model prog w) A (getItem o i) Q E s₂) E s₁) E s) :
  wpAny (model prog w) A (eval (.Subscript value slice pos) env) Q E s:=by
 refine Subscript_ (wpAny_mono h (λ o s₁ h₁=>wpAny_mono h₁ (λ i s₂ h₂=>?_) λ _ _ x=>x) λ _ _ x=>x)
 obtain⟨hT,h₂⟩:=h₂
 unfold subscriptTail
 refine wpAny_bind ?_
 rw[getitemInPython_of_ne hT.not_modules]
 refine wpAny_bind (wpAny_specialOf hT hl ?_)
 have fin:wpAny (model prog w) A (subscripted slice false o i) (λ r s₃=>wpAny (model prog w) A (letTemporaryGo value o r>>=λ _=>pure r) Q E s₃) E s₂:=by
  rw[hs o i]
  exact wpAny_operating (wpAny_mono h₂ (λ r s₃ h₃=>wpAny_bind (wpAny_letTemporaryGo (wpAny_pure h₃))) λ _ _ x=>x)
 first
  | exact wpAny_pure (wpAny_bind fin)
  | exact wpAny_bind (wpAny_pure (wpAny_bind fin))
  | exact wpAny_bind fin
theorem d2w {X:Cx} {pins:List (Addr×Obj)} {σ:St} {H:Hp} {s:Shared} {a:Addr} {y:V} {o:Option V} (I:Inv X pins σ H s) (g:b3y H a y o):s.TypeIs (.ref a) "dict":=by
 rcases g with ⟨kvs,k,e,_,_⟩ | ⟨kvs,k,b,e,_,_,_⟩
 ·obtain⟨_,_,vs,_,dd⟩:=d9a I.hok e
  exact dd.typeIs
 ·obtain⟨_,_,xs,_,dd⟩:=d9r I.hok e
  exact dd.typeIs
def e4b (td ty:TE):TE:=λ σ H Q=>td σ H λ x H1=>ty σ H1 λ y H2=>∃ a v,x=.ref a/\b3y H2 a y (some v)/\Q v H2
def f3a (td ty tv:TE):TS:=λ D σ H=>tv σ H λ v H1=>td σ H1 λ x H2=>ty σ H2 λ y H3=>∃ a H4,x=.ref a/\d5t H3 a y v H4/\D.nx σ H4
section
variable {X:Cx} {o i e value:Expr} {pos pos' tpos:Pos} {td ty tv:TE}
theorem a1f (hu:X.A.units+1 < cLine) (ho:PE X o td) (hi:PE X i ty) (hs:f3x i):PE X (.Subscript o i pos) (e4b td ty):=by
 constructor;intro pins s σ H Q I h
 refine e7c PySem.F.slot_dict_getitem.lookup hs (thn (ho pins s σ H _ I h) λ u s1 ⟨x,H1,I1,rx,q1⟩=>thn (hi pins s1 σ H1 _ I1 q1) λ iv s2 ⟨y,H2,I2,ry,a,v,ex,g,q2⟩=>?_)
 subst ex
 obtain rfl:u=Value.ref a:=rx
 exact⟨d2w I2 g,d8x hu I2 g ry λ w' s3 I3 rw'=>⟨v,H2,I3,rw',q2⟩⟩
theorem a7t (hu:X.A.units+1 < cLine) (ho:PE X o td) (hi:PE X i ty) (hv:PE X value tv) (hs:swapsWith value (some (.Subscript o i pos')) pos.line X.env=pure false) :
  PS X (.Assign [.Subscript o i pos'] value pos) (f3a td ty tv):=by
 constructor;intro pins s σ H D I h
 refine wpAny_Assign_Subscript (thn (hv pins s σ H _ I h) λ r s1 ⟨v,H1,I1,rv,q1⟩=>thn (ho pins s1 σ H1 _ I1 q1) λ u s2 ⟨x,H2,I2,rx,q2⟩=>thn (hi pins s2 σ H2 _ I2 q2) λ iv s3 ⟨y,H3,I3,ry,a,H4,ex,g,q3⟩=>?_) hs
 subst ex
 obtain rfl:u=Value.ref a:=rx
 exact e0c hu I3 g ry rv λ s4 I4=>⟨σ,H4,I4,q3⟩
end
theorem d5a {P:Program} {w:World} {H:Hp} (h:Heap) (hb:sysModules < h.objs.size):a3f P w H (h.push {cls:=.type "dict",data:=.dict #[]}) h.objs.size (.dK []) :=
 ⟨Nat.zero_le _,beq_eq_false_iff_ne.mpr (Ne.symm (Nat.ne_of_lt hb)),[],.nil,Heap.DictOf.new h⟩
theorem e2f {P:Program} {w:World} {H:Hp} (h:Heap) (hb:sysModules < h.objs.size):a3f P w H (h.push {cls:=.type "dict",data:=.dict #[]}) h.objs.size (.dT []) :=
 ⟨Nat.zero_le _,beq_eq_false_iff_ne.mpr (Ne.symm (Nat.ne_of_lt hb)),[],.nil,_,#[],0,Heap.get?_push_size _ rfl,⟨rfl,rfl,rfl⟩,rfl,rfl,List.nodup_nil⟩
def e8z:TE:=λ _ H Q=>∀ p,H p=none->Q (.ref p) (upd H p (.dK []))
def e9n:TE:=λ _ H Q=>∀ p,H p=none->Q (.ref p) (upd H p (.dT []))
section
variable {X:Cx} {pos:Pos}
theorem a7f:PE X (.Dict [] [] pos) e8z:=⟨λ pins s σ H Q I h =>
 wpAny_Dict_empty ⟨.ref s.heap.objs.size,_,I.laid (a:=s.heap.objs.size) (o:=.dK []) (t':=s.toks) (λ _ _ q=>Heap.get?_push_of_some _ q) (Nat.le_refl _) (d5a s.heap I.big),rfl,h _ (I.hok.fresh (Nat.le_refl _))⟩⟩
theorem e3o:PE X (.Dict [] [] pos) e9n:=⟨λ pins s σ H Q I h =>
 wpAny_Dict_empty ⟨.ref s.heap.objs.size,_,I.laid (a:=s.heap.objs.size) (o:=.dT []) (t':=s.toks) (λ _ _ q=>Heap.get?_push_of_some _ q) (Nat.le_refl _) (e2f s.heap I.big),rfl,h _ (I.hok.fresh (Nat.le_refl _))⟩⟩
end
def d6w:List (TE×TE)->St->Hp->(List (V×V)->Hp->Prop)->Prop
 | [],_,H,Q=>Q [] H
 | (tk,tv)::r,σ,H,Q=>tk σ H λ x H1=>tv σ H1 λ y H2=>d6w r σ H2 λ ps H3=>Q ((x,y)::ps) H3
abbrev VV:List (V×V)->List (Value×Value)->Prop:=Paired λ p q=>a3n p.1 q.1/\a3n p.2 q.2
def PPs (X:Cx) (pos:Pos) (keys:List (Option Expr)) (values:List Expr) (trs:List (TE×TE)):Prop :=
 ∀ (pins:List (Addr×Obj)) (s:Shared) (σ:St) (H:Hp) (Q:List (V×V)->Hp->Prop),Inv X pins σ H s->d6w trs σ H Q ->
  wpAny (model X.prog X.w) X.A (evalPairs (pairTrees keys values X.env pos)) (λ vs s'=>∃ ps H',Inv X pins σ H' s'/\VV ps vs/\Q ps H') X.xe s
theorem e7d {X:Cx} {pos:Pos}:PPs X pos [] [] []:=λ pins s σ H Q I h=>pairTrees_nil_walk ⟨[],H,I,.nil,h⟩
theorem c5h {X:Cx} {pos:Pos} {k v:Expr} {ks:List (Option Expr)} {vs:List Expr} {tk tv:TE} {trs:List (TE×TE)} (hk:PE X k tk) (hv:PE X v tv) (hr:PPs X pos ks vs trs) :
  PPs X pos (some k::ks) (v::vs) ((tk,tv)::trs):=λ pins s σ H Q I h =>
 pairTrees_cons_walk (thn (hk pins s σ H _ I h) λ u s1 ⟨x,H1,I1,rx,q1⟩=>thn (hv pins s1 σ H1 _ I1 q1) λ w2 s2 ⟨y,H2,I2,ry,q2⟩ =>
  thn (hr pins s2 σ H2 _ I2 q2) λ ws s3 ⟨ps,H3,I3,rel,q3⟩=>⟨(x,y)::ps,H3,I3,.cons ⟨rx,ry⟩ rel,q3⟩)
def c4u (kvs more:List (Key×V)):List (Key×V):=more.foldl (λ acc kv=>a6v acc kv.1 kv.2) kvs
theorem KV.merge:∀ {more:List (Key×V)} {rs:List (Key×Value)} {kvs:List (Key×V)} {vs:List (Key×Value)},KV more rs->KV kvs vs->KV (c4u kvs more) (merged vs rs):=by
 intro more rs kvs vs r
 unfold KV at r
 induction r generalizing kvs vs with
 | nil=>intro q;exact q
 | @cons p q ps qs h t ih =>
  intro r0
  have e:KV (a6v kvs p.1 p.2) (stored vs q.1 q.2):=by
   have:=r0.put p.1 h.2
   rw[<-h.1];exact this
  exact ih e
theorem b5c:∀ (more kvs:List (Key×V)),(c4u kvs more).length<=kvs.length+more.length
 | [],kvs=>by show kvs.length<=kvs.length+0;omega
 | p::r,kvs=>by
  have h1:=b5c r (a6v kvs p.1 p.2)
  have h2:=a3z kvs p.1 p.2
  show (c4u (a6v kvs p.1 p.2) r).length<=_
  rw[List.length_cons];omega
theorem c4d {P:Program} {w:World}:∀ {kvs:List (Key×V)} {ws:List (Value×Value)},VV (kvs.map λ kv=>(kV kv.1,kv.2)) ws->∃ rs,Carries (a1e P w) ws rs/\KV kvs rs
 | [],_,r=>by rw[List.map_nil] at r;cases r;exact⟨[],True.intro,.nil⟩
 | p::kvs,_,r=>by
  rw[List.map_cons] at r
  cases r with
  | @cons a b as bs h t =>
   obtain⟨rs,c,q⟩:=c4d (P:=P) (w:=w) t
   obtain⟨b1,b2⟩:=b
   exact⟨(p.1,b2)::rs,⟨c8f h.1,rfl,c⟩,.cons ⟨rfl,h.2⟩ q⟩
def f2h (trs:List (TE×TE)):TE:=λ σ H Q=>∀ p,H p=none->d6w trs σ (upd H p (.dK [])) λ ps H2=>H2 p=some (.dK [])/\∃ kvs:List (Key×V),ps=kvs.map (λ kv=>(kV kv.1,kv.2))/\kvs.length<=15/\Q (.ref p) (upd H2 p (.dK (c4u [] kvs)))
theorem e6g {X:Cx} {pos:Pos} {keys:List (Option Expr)} {values:List Expr} {trs:List (TE×TE)} (h:PPs X pos keys values trs) (hall:keys.all (·.isSome)=true) (hl:keys.length=values.length) (h0:keys≠[])
  (h15:keys.length<=15):PE X (.Dict keys values pos) (f2h trs):=by
 constructor;intro pins s σ H Q I q
 have hn:=I.hok.fresh (Nat.le_refl s.heap.objs.size)
 have I1:=I.laid (a:=s.heap.objs.size) (o:=.dK []) (h':=s.heap.push {cls:=.type "dict",data:=.dict #[]}) (t':=s.toks) (λ _ _ q=>Heap.get?_push_of_some _ q) (Nat.le_refl _) (d5a s.heap I.big)
 refine wpAny_Dict_walk (knd:=a1e X.prog X.w) hall hl h0 h15 (thn (h pins _ σ _ _ I1 (q _ hn)) λ ws s2 ⟨ps,H2,I2,rel,e,kvs,ep,lk,q2⟩=>?_)
 subst ep
 obtain⟨rs,c,rk⟩:=c4d (P:=X.prog) (w:=X.w) rel
 obtain⟨z,hd,vs0,r0,dd⟩:=e8f I2.hok e
 cases r0
 refine⟨rs,c,dd,λ h' dd' hs=>⟨.ref s.heap.objs.size,_,?_,rfl,q2⟩⟩
 have hz:(c4u [] kvs).length<=sizeLine:=by
  have h1:=b5c kvs []
  rw[List.length_nil] at h1
  rw[sizeLine_eq];omega
 have he:∃ q,h'.get? s.heap.objs.size=some q:=let ⟨q,_,_,hq,_⟩:=dd';⟨q,hq⟩
 exact d2j I2 (by rw[e];exact True.intro) hs he (d4h hz hd (rk.merge .nil) dd')
structure M1 (X:Cx) (o:Expr) (m:Str) (apos:Pos) (e:Expr) (cpos:Pos):Prop where
 base:attributeBase o m X.env (eval o X.env)=eval o X.env
 few:((backTo cpos (starEach [e] X.env)).all (λ x=>!x.1) && (backToKw cpos (keywordEach [] X.env)).all (λ x=>x.1.isSome)
  && decide (([e]:List Expr).length+([]:List Keyword).length+(if ([]:List Keyword).isEmpty then 0 else 1) < 30))=true
 line:(apos.endLine == cpos.line)=true
 trees:backTo cpos (starEach [e] X.env)=[(false,eval e X.env)]
structure M2 (X:Cx) (o:Expr) (m:Str) (apos:Pos) (e f:Expr) (cpos:Pos):Prop where
 base:attributeBase o m X.env (eval o X.env)=eval o X.env
 few:((backTo cpos (starEach [e,f] X.env)).all (λ x=>!x.1) && (backToKw cpos (keywordEach [] X.env)).all (λ x=>x.1.isSome)
  && decide (([e,f]:List Expr).length+([]:List Keyword).length+(if ([]:List Keyword).isEmpty then 0 else 1) < 30))=true
 line:(apos.endLine == cpos.line)=true
 trees:backTo cpos (starEach [e,f] X.env)=[(false,eval e X.env),(false,eval f X.env)]
def IsD (H:Hp) (a:Addr):Prop:=(∃ kvs,Rd H a (.dK kvs))\/∃ kvs,Rd H a (.dT kvs)
theorem d7s {X:Cx} {pins:List (Addr×Obj)} {σ:St} {H:Hp} {s:Shared} {a:Addr} (I:Inv X pins σ H s) (d:IsD H a) :
  s.TypeIs (.ref a) "dict"/\(∀ b,Value.ref a=.ref b->∃ ob,s.heap.get? b=some ob/\ob.dict=none)/\(a == sysModules)=false:=by
 rcases d with ⟨kvs,e⟩ | ⟨kvs,e⟩
 ·obtain⟨_,hd,vs,_,dd⟩:=d9a I.hok e
  refine⟨dd.typeIs,λ b q=>?_,hd⟩
  cases q
  obtain⟨ob,_,_,h1,h2,_⟩:=dd
  exact⟨ob,h1,h2.2.1⟩
 ·obtain⟨_,hd,xs,_,dd⟩:=d9r I.hok e
  refine⟨dd.typeIs,λ b q=>?_,hd⟩
  cases q
  obtain⟨ob,_,_,h1,h2,_⟩:=dd
  exact⟨ob,h1,h2.2.1⟩
section
variable {X:Cx} {pins:List (Addr×Obj)} {σ:St} {H:Hp} {s:Shared} {a:Addr} {y d:V} {u r:Value} {o:Option V} {A:Around} {E:Value->Shared->Prop}
theorem f0h {Q:Value->Shared->Prop} (hu:A.units+1 < cLine) (I:Inv X pins σ H s) (g:b3y H a y o) (ry:a3n y u) (rd:a3n d r) (h:∀ w' s',Inv X pins σ H s'->a3n (o.getD d) w'->Q w' s') :
  wpAny (model X.prog X.w) A (call (.builtin "dict.get") [.ref a,u,r]) Q E s:=by
 rcases g with ⟨kvs,k,e,ey,l⟩ | ⟨kvs,k,b,e,ey,eb,l⟩
 ·subst ey
  obtain⟨z,hd,vs,rel,dd⟩:=d9a I.hok e
  refine call_meetsIn PySem.F.slot_dict_get dd.typeIs PySem.F.entry_dict_get (PySem.F.args_dict_get_3 _ _ _) (meets_dict_get_default (a1e X.prog X.w) a (c8f ry) hd r) ⟨_,dd.mapOf,h _ _ (I.tok _) ?_⟩
  rw[l]
  exact(rel.val k).getD rd
 ·subst ey
  cases (show u=Value.ref b from ry)
  obtain⟨z,hd,xs,rel,dd⟩:=d9r I.hok e
  refine call_meetsIn PySem.F.slot_dict_get dd.typeIs PySem.F.entry_dict_get (PySem.F.args_dict_get_3 _ _ _) (meetsH_dict_get_default (tupleKind (a1e X.prog X.w)) a b hd r) ⟨tupleKind_room_in1 hu,k,xs,d4v I.hok eb,dd,h _ _ (I.tok _) ?_⟩
  rw[l]
  exact(rel.val k).getD rd
end
def f0v (td ty tx:TE):TE:=λ σ H Q=>td σ H λ x H1=>∃ a,x=.ref a/\IsD H1 a/\ty σ H1 λ y H2=>tx σ H2 λ z H3=>∃ o,b3y H3 a y o/\Q (o.getD z) H3
section
variable {X:Cx} {o e f:Expr} {apos cpos:Pos} {td ty tx:TE}
theorem b3w (hu:X.A.units+1 < cLine) (ho:PE X o td) (he:PE X e ty) (hf:PE X f tx) (m:M2 X o "get" apos e f cpos):PE X (.Call (.Attribute o "get" apos) [e,f] [] cpos) (f0v td ty tx):=by
 constructor;intro pins s σ H Q I h
 refine wpAny_Call_method m.base m.few m.line PySem.F.plainAttrs_dict PySem.F.slot_dict_get PySem.F.type_dict_get (thn (ho pins s σ H _ I h) λ u s1 ⟨x,H1,I1,rx,a,ex,d,q1⟩=>?_)
 subst ex
 obtain rfl:u=Value.ref a:=rx
 obtain⟨t1,t2,_⟩:=d7s I1 d
 refine⟨t1,t2,?_⟩
 rw[m.trees]
 refine Calls.callWith_builtin rfl (Calls.evalArgs_plain (Calls.spliced_cons (thn (he pins s1 σ H1 _ I1 q1) λ iv s2 ⟨y,H2,I2,ry,q2⟩ =>
  Calls.spliced_cons (thn (hf pins s2 σ H2 _ I2 q2) λ fv s3 ⟨z,H3,I3,rz,ov,g,q3⟩=>Calls.spliced_nil ?_))))
 exact f0h hu I3 g ry rz λ w' s4 I4 rw'=>⟨_,H3,I4,rw',q3⟩
end
end L2
namespace Att
open PySem PySem.W PySem.Calls PyProof.Rows
theorem c3d {P:Params} {h:Heap}:∀ (ns:List Int) (vs:List Value),WellAll P h vs (ns.map WData.int)->IntsAre vs ns:=by
 intro ns
 induction ns with
 | nil =>
  intro vs w
  rw[List.map_nil] at w
  cases w
  exact .nil
 | cons n ns ih =>
  intro vs w
  rw[List.map_cons] at w
  cases w with
  | cons a b =>
   cases a
   exact .cons _ _ (ih _ b)
theorem d8r {l:OpenLaw} {n:Nat} (hn:l.most=some n) {P:Params} {h:Heap} {args:List WData} {vals:List Value}
  (hpre:l.row.toRowW.claim.pre args=true) (hwl:WellAll P h vals args) :
  ∃ a vs ns,vals=[Value.ref a]/\args=[WData.list (ns.map WData.int)]/\h.get? a=some {cls:=.type "list",data:=.seq vs.toArray}/\IntsAre vs ns/\ns.length<=n:=by
 have hsh:WShape.hasAll [] args [.list .int]=true:=(pre_splitW hpre).1
 have hc:l.pre.holds [] {args:=args}=true:=(pre_splitW hpre).2
 obtain⟨d,r,rfl,h1,h2⟩:=hasAllW_cons hsh
 obtain rfl:=hasAllW_nil h2
 obtain⟨xs,rfl,h3⟩:=hasW_list h1
 obtain⟨ns,rfl⟩:=items_int h3
 have hlen:ns.length<=n:=by
  unfold OpenLaw.pre at hc
  have h4:(WTm.not (.lt (.lit (.int (n:Int))) (.len (.arg 0)))).holds [] {args:=[.list (ns.map .int)]}=true:=by
   have h4:=(holds_andW hc).1
   rw[hn] at h4
   exact h4
  have h5:=condW_of h4 (w_not (w_lt w_lit (w_len_list (w_arg rfl))))
  rw[List.length_map] at h5
  refine Nat.le_of_not_lt λ q=>?_
  have q':(n:Int) < ((ns.length:Nat):Int):=by omega
  first
   | (rw[decide_eq_true q'] at h5;exact absurd h5 (by decide))
   | (simp at h5;omega)
 cases hwl with
 | cons w1 w2 =>
  cases w2
  cases w1 with
  | list ho hall=>exact⟨_,_,ns,rfl,rfl,ho,c3d ns _ hall,hlen⟩
theorem d7k (l:OpenLaw) (args:List WData):l.row.toRowW.claim.post args (.bool true) args=true :=
 postW_of (r:=l.row.toRowW) (X:=(true == true))
  (show WShape.has [] (.bool true) .bool=true by first | rfl | decide | simp[WShape.has,WShape.arms,WShape.armsAll])
  (show (WTm.eq .res (.lit (.bool true))).value [] {args:=args,res:=some (.bool true),after:=args}=some (.bool (true == true)) from w_eq_bool (w_res rfl) w_lit) rfl
section
variable {prog:Program} {w:World} {A:Around} {E:Value->Shared->Prop} {s:Shared} {K:Frag}
def f3u (h:Heap) (L d:Addr):List (Addr×Obj):=(List.range h.objs.size).filterMap λ a=>if a=L\/a=d then none else (h.get? a).map λ o=>(a,o)
end
end Att
namespace L2
open PySem PySem.Spec PyProof.Rows
theorem d0a:∀ {vs:List Value} {ns:List Int},IntsAre vs ns->a3o (ns.map V.int) vs
 | _,_,.nil=>.nil
 | _,_,.cons n t h=>.cons ⟨t,rfl⟩ (d0a h)
def f3e (H:Hp):Prop:=∀ b,H b=none\/∃ o xs,H b=some (.frz o (.lst xs))
theorem e2w {P:Program} {w:World} {K:PySem.W.Frag} {mg mb:Str->Option Value} {CX:CXT} {k:Nat} {fa a:Addr} {fd:FuncData} {x:Str} {sp:Sp} {s₁:Shared} {vs:List Value} {ns:List Int}
  (KX:K.In s₁.heap) (hns:s₁.heap.Ns mainGlobals mg) (hb:s₁.heap.Ns builtinsNs mb) (hbb:∀ x:Str,x≠"__name__"->mb x=bootBuiltins x) (hlim:s₁.heap.NoLimit) (hg:s₁.gens=#[])
  (ha:s₁.heap.get? a=some {cls:=.type "list",data:=.seq vs.toArray}) (hi:IntsAre vs ns) (hl:ns.length<=sizeLine) (hr:Room k callerA)
  (F:∀ base:Heap,K.In base->base.Ns mainGlobals mg->a4j P w K mg base CX k fa fd [x] sp) (hbind:∀ (s:Shared) (u:Value),BindsTo s fd ⟨[u],[]⟩ [(x,u)])
  (hsp:∀ H:Hp,f3e H->SqL K H a (ns.map V.int)->sp [.ref a] H (λ v _=>v=.bl true) λ _ _ _=>False)
  (hCX:∀ H e s',CX [] H s₁ (λ _ _ _=>False) e s'->False) :
  codeAny (model P w) callerA (.call (.ref fa) ⟨[.ref a],[]⟩) (λ r s'=>r=.ok (.ret (.bool true))/\OldK s₁.heap s'.heap/\s'.os=s₁.os/\AllBare s'.gens) s₁:=by
 have rv:=d0a hi
 have lenV:=hi.length
 have core:∀ H:Hp,f3e H->SqL K H a (ns.map V.int)->HOk P w H s₁.heap->(∀ b,H b≠none->b=a)->(H a≠none->K.lookup a=none) ->
   codeAny (model P w) callerA (.call (.ref fa) ⟨[.ref a],[]⟩) (λ r s'=>r=.ok (.ret (.bool true))/\OldK s₁.heap s'.heap/\s'.os=s₁.os/\AllBare s'.gens) s₁:=by
  intro H hO hS hok hA hK
  have base_of:∀ {b:Addr} {o:Obj},s₁.heap.get? b=some o->H b=none->(e4h s₁.heap H).get? b=some o:=λ e n=>e1p e n
  have noA:∀ {b:Addr} {o:Obj} {es:Array DictEntry} {ep:Nat},s₁.heap.get? b=some o->o.data=.dict es ep->H b=none:=λ {b o es ep} e d=>by
   cases q:H b with
   | none=>rfl
   | some u =>
    have e':b=a:=hA b (by rw[q];simp)
    subst e'
    rw[ha] at e;cases e
    have d':Data.seq vs.toArray _=Data.dict es ep:=d
    cases d'
  have nsK:∀ {b:Addr} {m:Str->Option Value},s₁.heap.Ns b m->(e4h s₁.heap H).Ns b m:=λ {b m} ⟨o,es,ep,e,d,r⟩=>⟨o,es,ep,base_of e (noA e d),d,r⟩
  have hKb:K.In (e4h s₁.heap H):=λ b o e=>base_of (KX b o e) (by
   cases q:H b with
   | none=>rfl
   | some u =>
    have e':b=a:=hA b (by rw[q];simp)
    subst e'
    rw[hK (by rw[q];simp)] at e;cases e)
  have hM:Mod K mg (e4h s₁.heap H):=⟨hKb,nsK hns,⟨mb,nsK hb,hbb⟩,let ⟨mc,h1,h2⟩:=hlim;⟨mc,nsK h1,h2⟩⟩
  have e0:e7j P w K mg (e4h s₁.heap H) callerA [] s₁ H:=⟨rfl,hM,λ b o e=>e7z e,Nat.le_of_eq (d9p _ _),trivial,λ b hb=>absurd (show b∈([]:List Addr) from hb) (by simp),hok,.of_eq hg⟩
  refine codeAny_mono ((F _ hKb (nsK hns)).run callerA [] s₁ H ⟨[.ref a],[]⟩ [.ref a] [.ref a] _ _ hr e0 (hbind s₁ (.ref a)) (.cons rfl .nil) (hsp H hO hS)) λ r s' h=>?_
  cases r with
  | error e=>exact(hCX H e s' h).elim
  | ok fl =>
   cases fl with
   | next=>exact False.elim h
   | brk=>exact False.elim h
   | cont=>exact False.elim h
   | ret u =>
    obtain⟨v,H',os,bare,un,hok',r',q⟩:=h
    have q':v=.bl true:=q
    subst q'
    obtain rfl:u=Value.bool true:=r'
    refine⟨rfl,OldK.of_keep λ b o e=>?_,os,bare⟩
    cases q:H b with
    | none=>exact un.keep b o e q (by intro z;exact absurd (show b∈([]:List Addr) from z) (by simp)) (by simp)
    | some u =>
     rcases hO b with z | ⟨ob,xs,z⟩
     ·rw[q] at z;cases z
     ·have z2:=un.frzs b ob _ z
      obtain⟨e1,_⟩:=hok b _ z
      obtain⟨e2,_⟩:=hok' b _ z2
      rw[e] at e1;cases e1
      exact e2
 cases hk:K.lookup a with
 | some o =>
  have e:=KX a o hk
  rw[ha] at e
  cases e
  refine core (λ _=>none) (λ _=>.inl rfl) (.inr ⟨_,vs.toArray,_,hk,rfl,rfl,rfl,by rw[List.size_toArray,lenV];exact hl,by simpa using rv⟩) (λ b u z=>by have z':(none:Option HO)=some u:=z;cases z') (λ b z=>absurd rfl z) λ z=>absurd rfl z
 | none =>
  refine core (λ b=>if b=a then some (.frz {cls:=.type "list",data:=.seq vs.toArray} (.lst (ns.map V.int))) else none) (λ b=>?_) (.inl (.inr ⟨{cls:=.type "list",data:=.seq vs.toArray},if_pos rfl⟩)) (λ b u z=>?_) (λ b z=>?_) λ _=>hk
  ·by_cases hb:b=a
   ·exact .inr ⟨_,_,if_pos hb⟩
   ·exact .inl (if_neg hb)
  ·by_cases hb:b=a
   ·have z':=(if_pos hb).symm.trans z
    cases z'
    subst hb
    exact⟨ha,by rw[List.length_map];exact hl,vs,_,rv,ha⟩
   ·have z':=(if_neg hb).symm.trans z
    cases z'
  ·by_cases hb:b=a
   ·exact hb
   ·exact absurd (if_neg hb) z
end L2
namespace L2
open PySem PySem.Spec PyProof.Rows
abbrev KOf {K:PySem.W.Frag} {h:Heap} (_:K.In h):PySem.W.Frag:=K
end L2
namespace L2
open PySem PySem.Spec PyProof.Rows
def a0p (s:Stmt):Arguments:=match s with
 | .FunctionDef _ a _ _ _ _ _ _ _ _=>a
 | _=>{posonlyargs:=[],args:=[],vararg:=none,kwonlyargs:=[],kw_defaults:=[],kwarg:=none,defaults:=[]}
def a0o (s:Stmt):List Stmt:=match s with
 | .FunctionDef _ _ b _ _ _ _ _ _ _=>b
 | _=>[]
def a0f (s:Stmt):Scope:=match s with
 | .FunctionDef _ _ _ _ _ _ sc _ _ _=>sc
 | _=>{kind:=.function,names:=[],isGenerator:=false,isCoroutine:=false}
abbrev CX0:CXT:=λ _ _ _ _ _ _=>False
abbrev E0:XK:=λ _ _ _=>False
theorem a1l {X:Cx}:d0f CX0 X E0:=λ _ _ _ _ _ _ _ h=>h.elim
structure Fun (K:PySem.W.Frag) (x qual:Str) (st:Stmt) (f:Addr) (fd:FuncData):Prop where
 ex:∃ (oc:Value) (od:Option Addr) (kV doc pm:Value) (an:Option Addr) (cdv ct:Value) (osl:Array (Option Value)),
  fd=PySem.W.fnOf x qual (a0p st) (a0o st) (a0f st) .none kV doc pm an cdv ct/\K.lookup f=some ⟨oc,od,.func fd,osl⟩/\PySem.W.codeIn K cdv qual=true
 kp:PySem.W.keepIn K (.ref f)=true
section
variable {P:Program} {w:World} {K:PySem.W.Frag} {mg:Str->Option Value} {base:Heap}
theorem Fun.ok {x qual:Str} {st:Stmt} {f:Addr} {fd:FuncData} {N ps:List Str} {k:Nat} {sp:Sp} (F:Fun K x qual st f fd) (S:a0r N ps (a0f st)) (len:∀ vs H Q E,sp vs H Q E->vs.length=ps.length)
  (hbody:∀ (cdv:Value) (A:Around) (outer:List Env) (s:Shared) (H:Hp) (vs:List V) (Q:VK) (E:XK),Room k (A.deeper (envOfC qual (a0f st) s.heap.objs.size f cdv))->sp vs H Q E ->
   ∃ t,PSs (b9n CX0 P w K mg base N qual (a0f st) f cdv A outer s H E).nox (a0o st) t/\t {nx:=λ _ H'=>Q .non H',rt:=Q} (c3q N vs) H):a4j P w K mg base CX0 (k+1) f fd ps sp:=by
 obtain⟨oc,od,kV,doc,pm,an,cdv,ct,osl,rfl,lk,hcd⟩:=F.ex
 refine e6n lk hcd S len λ A outer s H vs Q E hr hsp=>?_
 obtain⟨t,h,q⟩:=hbody cdv A outer s H vs Q E hr hsp
 exact⟨t,h.nox,q⟩
theorem Fun.binds {x qual:Str} {st:Stmt} {f:Addr} {fd:FuncData} {ps:List Str} (F:Fun K x qual st f fd)
  (h:∀ (kV doc pm:Value) (an:Option Addr) (cdv ct:Value) (us:List Value),us.length=ps.length->bindArgs (PySem.W.fnOf x qual (a0p st) (a0o st) (a0f st) .none kV doc pm an cdv ct) ⟨us,[]⟩=pure (ps.zip us)):a1k K fd ps []:=by
 obtain⟨oc,od,kV,doc,pm,an,cdv,ct,osl,rfl,lk,hcd⟩:=F.ex
 exact .all (h kV doc pm an cdv ct)
theorem a0k {x qual:Str} {st:Stmt} {f:Addr} {oc:Value} {od an:Option Addr} {osl:Array (Option Value)} {kV doc pm cdv ct:Value} (l:K.lookup f=some ⟨oc,od,.func (PySem.W.fnOf x qual (a0p st) (a0o st) (a0f st) .none kV doc pm an cdv ct),osl⟩)
  (c:PySem.W.codeIn K cdv qual=true) (k:PySem.W.keepIn K (.ref f)=true):Fun K x qual st f (PySem.W.fnOf x qual (a0p st) (a0o st) (a0f st) .none kV doc pm an cdv ct):=⟨⟨oc,od,kV,doc,pm,an,cdv,ct,osl,rfl,l,c⟩,k⟩
end
theorem a9a {A:Around} {k:Nat} (hr:Room k A):A.units+1 < cLine:=Nat.lt_of_le_of_lt (Nat.add_le_add_left (by decide:1<=64) _) hr.units
section
variable {X:Cx}
theorem pv (i:Nat) {x:Str} {pos:Pos} (hN:X.N[i]?=some x:=by rfl) (hv:Vis X.env.scope x:=by first | exact Or.inl rfl | exact Or.inr (Or.inl rfl) | exact Or.inr (Or.inr rfl)) (hd:(x == ("__debug__":Str))=false:=by decide)
  (hcd:(x == ("__classdict__":Str))=false:=by decide):PE X (.Name x pos) (d2o i):=f0o hN hv hd hcd
end
theorem b5e {A B:Prop} (h:B):if false=true then A else B:=by
 rw[if_neg Bool.false_ne_true]
 exact h
theorem c7z {A B:Prop} (h:A):if true=true then A else B:=by
 rw[if_pos rfl]
 exact h
theorem b1n {c A B:Prop} [Decidable c] (h1:c->A) (h2:¬ c->B):if c then A else B:=by
 by_cases h:c
 ·rw[if_pos h]
  exact h1 h
 ·rw[if_neg h]
  exact h2 h
def Same (H H':Hp):Prop:=∀ b o,H b=some o->H' b=some o
theorem Same.refl (H:Hp):Same H H:=λ _ _ h=>h
theorem Same.trans {H H1 H2:Hp} (a:Same H H1) (b:Same H1 H2):Same H H2:=λ c o h=>b c o (a c o h)
theorem Same.free {H H':Hp} (e:Same H H') {l:Addr} (h:H' l=Option.none):H l=Option.none:=by
 cases q:H l with
 | none=>rfl
 | some o =>
  rw[e l o q] at h
  cases h
theorem Same.seq {K:PySem.W.Frag} {H H':Hp} {a:Addr} {xs:List V} (e:Same H H') (h:SqL K H a xs):SqL K H' a xs:=by
 rcases h with (h | ⟨o,h⟩) | h
 ·exact .inl (.inl (e _ _ h))
 ·exact .inl (.inr ⟨o,e _ _ h⟩)
 ·exact .inr h
end L2
namespace L2
open PySem PySem.Spec PyProof.Rows
section
variable {κ:Type} [DecidableEq κ]
theorem d3c {kvs:List (κ×V)} {k:κ} {v:V} (h:a4l kvs k=some v):k∈kvs.map (·.1):=by
 have q:(kvs.any λ kv=>decide (kv.1=k))=true:=by
  rw[b3b,h]
  all_goals rfl
 obtain⟨p,hp,e⟩:=List.any_eq_true.mp q
 exact List.mem_map.mpr ⟨p,hp,of_decide_eq_true e⟩
end
end L2
namespace My
open PySem PySem.Spec PyProof.Rows L2
section
variable {X:Cx}
theorem e1j:b7n X (.builtin "isinstance") (λ xs H Q=>∃ x t c b,xs=[x,V.ty c]/\d5i X.K H x t/\PySem.W.kitOne X.K t (.type c)=some b/\Q (.bl b) H):=by
 intro pins s σ H xs us Q I r h
 obtain⟨x,t,c,b,rfl,ty,e,q⟩:=h
 obtain⟨u,w',rfl,ru,rw'⟩:=e2u r
 cases rw'
 exact d9v I ru ty e λ tk=>⟨.bl b,H,I.tok tk,rfl,q⟩
end
section
variable {K:PySem.W.Frag}
theorem f0j:PySem.W.kitOne K (.type "bool") (.type "bool")=some true:=by
 show (if (Value.type "bool" == Value.type "bool")=true then some true else if PySem.W.kitMeta "bool"=true then (fastBuiltinMro "bool").map (·.contains (Value.type "bool")) else none)=some true
 decide +kernel
end
theorem b3g {κ:Type} [DecidableEq κ]:∀ {kvs:List (κ×V)} {k:κ} {v:V},(kvs.map (·.1)).Nodup->(k,v)∈kvs->a4l kvs k=some v
 | p::r,k,v,hn,hm=>by
  have hn':(p.1::r.map (·.1)).Nodup:=hn
  obtain⟨h1,h2⟩:=List.nodup_cons.mp hn'
  rcases List.mem_cons.mp hm with e | e
  ·subst e
   exact a4q rfl
  ·have ne:¬ p.1=k:=λ z=>h1 (List.mem_map.mpr ⟨(k,v),e,z.symm⟩)
   rw[a4s ne]
   exact b3g h2 e
theorem d4o {α:Type} {xs:List α} {i:Int} (h0:0<=i) (h1:i < xs.length):∃ v,atI xs i=some v:=by
 have e:ixN xs.length i=some i.toNat:=by
  unfold ixN
  rw[if_pos h0,if_pos h1]
 have hl:i.toNat < xs.length:=by omega
 refine⟨xs[i.toNat],?_⟩
 unfold atI
 rw[e]
 exact List.getElem?_eq_getElem hl
theorem c5p {α:Type} {xs:List α} {i:Int} {v:α} (h:atI xs i=some v):v∈xs:=by
 obtain⟨j,_,e,_⟩:=d2i h
 exact List.mem_of_getElem? e
theorem f2i {c A B:Prop} [Decidable c] (hc:c) (h:A):if decide c=true then A else B:=by
 rw[if_pos (decide_eq_true hc)]
 exact h
theorem f2p {c A B:Prop} [Decidable c] (hc:¬ c) (h:B):if decide c=true then A else B:=by
 rw[if_neg (λ z=>hc (of_decide_eq_true z))]
 exact h
theorem _root_.L2.Same.upd {H:Hp} {p:Addr} {o:HO} (h:H p=none):Same H (upd H p o):=λ b u e=>by
 rw[a0h (a1b e h)]
 exact e
theorem _root_.L2.Same.again {H H':Hp} {p:Addr} {o:HO} (s:Same H H') (h:H p=none):Same H (L2.upd H' p o):=λ b u e=>by
 rw[a0h (a1b e h)]
 exact s b u e
open Builtin.Int (intBits)
theorem d0h:∀ {ns:List Int} {m:Int},m∈ns->intBits m<=PySem.W.WData.weightAll (ns.map PySem.W.WData.int)
 | n::r,m,h=>by
  rcases List.mem_cons.mp h with e | e
  ·subst e
   simp only [List.map_cons,PySem.W.WData.weightAll,PySem.W.WData.weight,Builtin.Int.intBits]
   omega
  ·have z:=d0h e
   simp only [List.map_cons,PySem.W.WData.weightAll]
   omega
theorem e6l {ns:List Int} (h:PySem.W.WData.layableAll [PySem.W.WData.list (ns.map .int)]=true):∀ m∈ns,intBits m<=1048576:=λ m hm=>by
 have h1:=(PySem.W.layW_cons h).1
 have h2:PySem.W.WData.weight (.list (ns.map .int))<=2 ^ 20:=of_decide_eq_true (Bool.and_eq_true_iff.mp h1).2
 have h3:=d0h hm
 have h4:PySem.W.WData.weight (.list (ns.map .int))=PySem.W.WData.weightAll (ns.map .int):=by simp only [PySem.W.WData.weight]
 have e:(2:Nat) ^ 20=1048576:=by decide
 omega
end My
namespace My
open PySem PySem.W PySem.Calls PyProof.Rows L2
theorem e3u {l:PySem.W.OpenLaw} {n k:Nat} {q:Program} {loose:List Str} {XP:(Str->Option Value)->Heap->Prop} {YP:World->Heap->Prop} {d:DefRec} {K:Params->PySem.W.Frag} {CX:World->CXT} {sp:World->Sp} {x:Str}
  (hn:l.most=some n) (hn2:n<=sizeLine) (hdf:d.params.defaults=[]) (hr:Room k callerA)
  (hY:∀ (w:World) (h:Heap),YP w h->(K w.params).In h)
  (F:∀ (w:World) (mg:Str->Option Value) (fa:Addr) (h:Heap),(K w.params).In h->h.Ns mainGlobals mg->mg d.name=some (.ref fa) ->
   ∃ fd:FuncData,(∀ (s:Shared) (u:Value),BindsTo s fd ⟨[u],[]⟩ [(x,u)]) /\
    ∀ base:Heap,(K w.params).In base->base.Ns mainGlobals mg->a4j l.prog w (K w.params) mg base (CX w) k fa fd [x] (sp w))
  (hsp:∀ (w:World) (H:Hp) (a:Addr) (ns:List Int),ns.length<=n->(∀ m∈ns,Builtin.Int.intBits m<=1048576)->f3e H->SqL (K w.params) H a (ns.map V.int)->sp w [.ref a] H (λ v _=>v=.bl true) λ _ _ _=>False)
  (hCX:∀ (w:World) (H:Hp) (s:Shared) (e:Value) (s':Shared),CX w [] H s (λ _ _ _=>False) e s'->False) :
  PySem.W.WalkO q loose XP YP l.row.toRowW d [] (λ f vs=>PySem.call f vs):=by
 intro w s₀ s₁ mg mb G Y fa o pm cd doc dV kV ho hd hcd hD hmg hg args vals as hpre hlay hrd hwl hlo
 obtain rfl:dV=.none:=Dflts.none hD hdf
 obtain rfl:kV=.none:=Dflts.noKw hD
 obtain⟨a,vs,ns,rfl,rfl,hobj,hints,hlen⟩:=Att.d8r hn hpre hwl
 have KX:=hY w _ Y
 obtain⟨fd,hb,hF⟩:=F w mg fa _ KX G.T.g hmg
 refine enter_call (codeAny_mono (e2w KX G.T.g G.T.b G.T.builtins G.T.nolimit hg hobj hints (Nat.le_trans hlen hn2) hr hF hb (λ H hO hS=>hsp w H a ns hlen (e6l hlay) hO hS) λ H e s'=>hCX w H s₁ e s') λ r s' hq=>?_)
 obtain⟨rfl,h2,h3,h4⟩:=hq
 exact⟨.inl ⟨.bool true,.bool true,[],rfl,λ _=>rfl,.bool true,Att.d7k l _,λ _=>⟨List.Pairwise.nil,λ _ hm=>(nomatch hm)⟩⟩,h2,h3,h4⟩
end My
namespace My
open PySem PySem.Spec PyProof.Rows L2
mutual
inductive Dt (K:PySem.W.Frag) (H:Hp):V->PyData->Prop where
 | non:Dt K H .non .none
 | bl (b:Bool):Dt K H (.bl b) (.bool b)
 | int (i:Int):Dt K H (.int i) (.int i)
 | str (x:Str):Dt K H (.str x) (.str x)
 | lst {a:Addr} {xs:List V} {ds:List PyData} (h:SqL K H a xs) (r:Dts K H xs ds):Dt K H (.ref a) (.list ds)
 | tup {a:Addr} {xs:List V} {ds:List PyData} (h:SqT K H a xs) (r:Dts K H xs ds):Dt K H (.ref a) (.tuple ds)
inductive Dts (K:PySem.W.Frag) (H:Hp):List V->List PyData->Prop where
 | nil:Dts K H [] []
 | cons {x:V} {d:PyData} {xs:List V} {ds:List PyData} (h:Dt K H x d) (r:Dts K H xs ds):Dts K H (x::xs) (d::ds)
end
section
variable {X:Cx} {pins:List (Addr×Obj)} {σ:L2.St} {H:Hp} {s:Shared}
mutual
theorem Dt.reads (I:Inv X pins σ H s) {v:V} {d:PyData} (h:Dt X.K H v d) {u:Value} (r:a3n v u):∃ as,Reads s.heap u d as:=by
 cases h with
 | non=>cases r;exact⟨_,.none⟩
 | bl b=>cases r;exact⟨_,.bool b⟩
 | int i=>obtain⟨t,rfl⟩:=r;exact⟨_,.int i t⟩
 | str x=>obtain⟨t,rfl⟩:=r;exact⟨_,.str x t⟩
 | lst h q =>
  cases r
  obtain⟨its,rv,⟨o,n,e,c,_,dd⟩,_⟩:=I.list h
  obtain⟨as,z⟩:=Dts.reads I q rv
  exact⟨_,.list e c dd (by simpa using z)⟩
 | tup h q =>
  cases r
  obtain⟨its,rv,⟨o,e,c,n,dd⟩,_⟩:=I.tuple h
  obtain⟨as,z⟩:=Dts.reads I q rv
  exact⟨_,.tuple e c dd (by simpa using z)⟩
theorem Dts.reads (I:Inv X pins σ H s) {vs:List V} {ds:List PyData} (h:Dts X.K H vs ds) {us:List Value} (r:a3o vs us):∃ as,ReadsAll s.heap us ds as:=by
 cases h with
 | nil=>cases r;exact⟨_,.nil⟩
 | cons h q =>
  cases r with
  | cons r1 r2 =>
   obtain⟨as,z⟩:=Dt.reads I h r1
   obtain⟨bs,y⟩:=Dts.reads I q r2
   exact⟨_,.cons z y⟩
end
end
section
variable {X:Cx}
def f3z (K:PySem.W.Frag):R2:=λ x y H Q=>∃ da db,Dt K H x da/\Dt K H y db/\SeqAt.shaped da=true/\SeqAt.shaped db=true/\Q (.bl (PyData.eqv da db)) H
def f3s (K:PySem.W.Frag):R2:=λ x y H Q=>∃ da db,Dt K H x da/\Dt K H y db/\SeqAt.shaped da=true/\SeqAt.shaped db=true/\Q (.bl (!PyData.eqv da db)) H
theorem e9f (hu:X.A.units+64 < cLine):OpR X (compareOp .Eq) (f3z X.K):=by
 intro pins s σ H x y v u Q I rx ry h
 obtain⟨da,db,ha,hb,sa,sb,q⟩:=h
 obtain⟨as,ra⟩:=ha.reads I rx
 obtain⟨bs,rb⟩:=hb.reads I ry
 exact SeqAt.compareEq_shaped ra rb sa sb hu ⟨.bl _,H,I,rfl,q⟩
theorem c4r (hu:X.A.units+64 < cLine):OpR X (compareOp .NotEq) (f3s X.K):=by
 intro pins s σ H x y v u Q I rx ry h
 obtain⟨da,db,ha,hb,sa,sb,q⟩:=h
 obtain⟨as,ra⟩:=ha.reads I rx
 obtain⟨bs,rb⟩:=hb.reads I ry
 exact SeqAt.compareNe_shaped ra rb sa sb hu ⟨.bl _,H,I,rfl,q⟩
end
end My
namespace My
open PySem PySem.Spec PyProof.Rows L2
theorem b0g {P:Program} {w:World} {H:Hp} {h:Heap} {a:Addr} {o:HO} (x:a3f P w H h a o):∃ ob,h.get? a=some ob:=by
 cases o with
 | lst xs=>obtain⟨_,_,_,_,e⟩:=x;exact⟨_,e⟩
 | tup xs=>obtain⟨_,_,_,ob,e,_⟩:=x;exact⟨_,e⟩
 | dK kvs=>obtain⟨_,_,_,_,o,_,_,e,_⟩:=x;exact⟨_,e⟩
 | dT kvs=>obtain⟨_,_,_,_,o,_,_,e,_⟩:=x;exact⟨_,e⟩
 | set S n=>obtain⟨o,_,_,_,e,_⟩:=x;exact⟨_,e⟩
 | ins C dx fs=>obtain⟨_,_,_,e,_⟩:=x;exact⟨_,e⟩
 | own y=>exact x
 | xd fs=>obtain⟨_,⟨_,_,_,e,_⟩,_⟩:=x;exact⟨_,e⟩
 | rng lo hi=>obtain⟨_,_,_,e⟩:=x;exact⟨_,e⟩
 | frz ob u=>obtain⟨e,_⟩:=x;exact⟨_,e⟩
 | tbl ps=>exact⟨_,(show h.get? a=some _ from x)⟩
 | met f y=>exact⟨_,(show h.get? a=some _ from x)⟩
 | ext φ=>obtain⟨_,e,_⟩:=x;exact e
section
variable {X:Cx} {pins:List (Addr×Obj)} {σ:L2.St} {H:Hp} {s:Shared}
theorem b0s (I:Inv X pins σ H s) {D:Addr} (h:s.heap.get? D=none):H D=none:=by
 cases q:H D with
 | none=>rfl
 | some u =>
  obtain⟨ob,e⟩:=b0g (I.hok D u q)
  rw[h] at e
  cases e
end
theorem b5d:∀ {xs:List V} {us:List Value} {i:Nat} {u:Value},a3o xs us->us[i]?=some u->∃ x,xs[i]?=some x/\a3n x u
 | _,_,_,_,.nil,e=>by simp at e
 | _,_,0,_,.cons r _,e=>by simp at e;subst e;exact⟨_,rfl,r⟩
 | _,_,i+1,u,.cons _ t,e=>by
  obtain⟨x,h1,h2⟩:=b5d (i:=i) (u:=u) t (by simpa using e)
  exact⟨x,by simpa using h1,h2⟩
end My
namespace My
open PySem PySem.Spec PyProof.Rows L2
def f1o (o:Obj):Option Value:=match o.data with
 | .fields vs=>vs[2]?
 | _=>none
abbrev d4t (a b:Obj):Prop:=a.dict=b.dict/\f1o a=f1o b
inductive a5b {α:Type}:Sem α->Prop
 | pure (a:α):a5b (.pure a)
 | raise (e:Value):a5b (.raise e)
 | stop (x:String):a5b (.unsupported x)
 | rule {t k}:(∀ u,a5b (k u))->a5b (.rule t k)
 | at {p k}:(∀ u,a5b (k u))->a5b (.at p k)
 | load {a p k}:(∀ o,a5b (k o))->a5b (.load a p k)
 | update {a p f k}:(∀ o:Obj,d4t (f o) o/\(o.isFreed=false->(f o).isFreed=false))->(∀ u,a5b (k u))->a5b (.update a p f k)
 | alloc {o k}:(∀ a,a5b (k a))->a5b (.alloc o k)
 | point {l k}:(∀ u,a5b (k u))->a5b (.point l k)
 | fresh {k}:(∀ u,a5b (k u))->a5b (.fresh k)
 | stack {k}:(∀ u,a5b (k u))->a5b (.stack k)
theorem a5b.bind {α β:Type} {t:Sem α} {f:α->Sem β} (h:a5b t) (hf:∀ a,a5b (f a)):a5b (t>>=f):=by
 induction h with
 | pure a=>exact hf a
 | raise e=>exact .raise e
 | stop x=>exact .stop x
 | rule _ ih=>exact .rule ih
 | «at» _ ih=>exact .at ih
 | load _ ih=>exact .load ih
 | update h _ ih=>exact .update h ih
 | alloc _ ih=>exact .alloc ih
 | point _ ih=>exact .point ih
 | fresh _ ih=>exact .fresh ih
 | stack _ ih=>exact .stack ih
def DK (h h':Heap):Prop:=∀ b o,h.get? b=some o->∃ o',h'.get? b=some o'/\d4t o' o
theorem DK.refl (h:Heap):DK h h:=λ _ o e=>⟨o,e,rfl,rfl⟩
theorem DK.trans {h1 h2 h3:Heap} (x:DK h1 h2) (y:DK h2 h3):DK h1 h3:=λ b o e=>let ⟨o1,e1,d1⟩:=x b o e;let ⟨o2,e2,d2⟩:=y b o1 e1;⟨o2,e2,d2.1.trans d1.1,d2.2.trans d1.2⟩
theorem DK.upd {h:Heap} {a:Addr} {f:Obj->Obj} (hf:∀ o:Obj,d4t (f o) o/\(o.isFreed=false->(f o).isFreed=false)):DK h (h.update a f):=λ b o e=>by
 by_cases q:b=a
 ·subst q
  exact⟨f o,Heap.get?_update_self _ e ((hf o).2 (Heap.get?_some_iff.mp e).2),(hf o).1⟩
 ·exact⟨o,(Heap.get?_update_ne _ _ _ _ q).trans e,rfl,rfl⟩
theorem e8g {α:Type} {M:Model} {Γ:PySem.Ctx} {t:Sem α} (c:a5b t):∀ {Q:α->Pos->Shared->Prop} {E:Value->Pos->Shared->Prop} {p:Pos} {s:Shared},
  Sem.wp M Γ t Q E p s->Sem.wp M Γ t (λ a p' s'=>Q a p' s'/\DK s.heap s'.heap) (λ e p' s'=>E e p' s'/\DK s.heap s'.heap) p s:=by
 induction c with
 | pure a=>intro Q E p s h;exact⟨h,.refl _⟩
 | raise e=>intro Q E p s h;exact⟨h,.refl _⟩
 | stop x=>intro Q E p s h;exact h
 | rule _ ih=>intro Q E p s h;exact ih () h
 | «at» _ ih=>intro Q E p s h;exact ih () h
 | load _ ih=>intro Q E p s h;obtain⟨o,e,h⟩:=h;exact⟨o,e,ih o h⟩
 | update hf _ ih =>
  intro Q E p s h
  obtain⟨e,h⟩:=h
  refine⟨e,?_⟩
  exact Sem.wp_mono M Γ _ (λ a p' s' ⟨q,d⟩=>⟨q,DK.trans (DK.upd hf) d⟩) (λ e p' s' ⟨q,d⟩=>⟨q,DK.trans (DK.upd hf) d⟩) _ _ (ih () h)
 | alloc _ ih=>intro Q E p s h;exact Sem.wp_mono M Γ _ (λ a p' s' ⟨q,d⟩=>⟨q,DK.trans (λ b o e=>⟨o,Heap.get?_push_of_some _ e,rfl,rfl⟩) d⟩) (λ e p' s' ⟨q,d⟩=>⟨q,DK.trans (λ b o e=>⟨o,Heap.get?_push_of_some _ e,rfl,rfl⟩) d⟩) _ _ (ih _ h)
 | point _ ih=>intro Q E p s h;exact ih () h
 | fresh _ ih=>intro Q E p s h;exact ih _ h
 | stack _ ih=>intro Q E p s h;exact ih _ h
theorem a9l {α:Type} {M:Model} {A:Around} {t:Sem α} {Q:α->Shared->Prop} {E:Value->Shared->Prop} {s:Shared} (c:a5b t) (h:wpAny M A t Q E s) :
  wpAny M A t (λ a s'=>Q a s'/\DK s.heap s'.heap) (λ e s'=>E e s'/\DK s.heap s'.heap) s:=λ Γ p hΓ=>e8g c (h Γ p hΓ)
theorem c2f (a:Addr):a5b (load a):=.load λ _=>.pure _
theorem c6e (v:Value):a5b (fieldsOf v):=by
 unfold fieldsOf
 cases v<;>first | exact .stop _ | skip
 refine a5b.bind (c2f _) λ o=>?_
 split<;>first | exact .stop _ | exact .pure _
theorem b3k (v:Value) (i:Nat):a5b (field v i):=by
 unfold field
 refine a5b.bind (c6e _) λ vs=>?_
 split<;>first | exact .stop _ | exact .pure _
theorem c3m {i:Nat} (x:Value) (hi:i≠2) (o:Obj):d4t (Obj.mapFields (·.setIfInBounds i x) o) o/\(o.isFreed=false->(Obj.mapFields (·.setIfInBounds i x) o).isFreed=false):=by
 obtain⟨c,d,da,sl⟩:=o
 cases da<;>first | exact⟨⟨rfl,rfl⟩,λ h=>h⟩ | exact⟨⟨rfl,Array.getElem?_setIfInBounds_ne hi⟩,λ h=>h⟩
theorem b1d (v:Value) (i:Nat) (x:Value) (hi:i≠2:=by decide):a5b (setField v i x):=by
 unfold setField
 cases v<;>first | exact .stop _ | skip
 show a5b (updateField _ _ _)
 unfold updateField
 refine a5b.bind (c2f _) λ o=>?_
 split
 ·split
  ·exact .update (c3m _ hi) λ _=>.pure _
  ·exact .stop _
 ·exact .stop _
theorem a9f (e:Value) (f:Option Addr):a5b (setFlight e f):=by
 unfold setFlight
 refine a5b.bind (b3k _ _) λ tb=>?_
 split
 ·exact b1d _ _ _
 ·exact .pure _
theorem d5m:a5b underTheClaimsCaller:=.stack λ _=>.pure _
theorem c4g:∀ l:List Env,a5b (readyFrames l)
 | []=>.pure _
 | env::outer=>by
  unfold readyFrames
  split
  ·refine a5b.bind (c2f _) λ o=>?_
   split
   ·exact .pure _
   ·refine a5b.bind ?_ λ imp=>a5b.bind ?_ λ back=>a5b.bind ?_ λ _=>c4g outer
    ·unfold behindIsImport
     split
     ·exact .pure _
     ·split
      ·exact .pure _
      ·exact a5b.bind (b3k _ _) λ _=>.pure _
    ·unfold keptBack
     split
     ·split
      ·exact .pure _
      ·exact a5b.bind d5m λ _=>.pure _
     ·exact .pure _
    ·refine .update (λ o=>⟨⟨rfl,rfl⟩,λ h=>?_⟩) λ _=>.pure _
     obtain⟨c,d,da,sl⟩:=o
     cases da<;>exact h
  ·exact .stop _
theorem d0v (env:Env):a5b (PySem.frameOf env):=by
 unfold PySem.frameOf
 refine a5b.bind (.stack λ _=>.pure _) λ l=>a5b.bind ?_ λ r=>?_
 ·unfold frameObject
  split
  ·exact .pure _
  ·exact a5b.bind (c4g _) λ _=>.pure _
 ·split
  ·exact .pure _
  ·exact .stop _
theorem c8q (ty:String) (da:Data):a5b (newObjAsIs (.type ty) da):=.alloc λ _=>.pure _
theorem c3p (ty:String) (vs:List Value):a5b (newFields ty vs):=by
 unfold newFields newObj
 dsimp only
 split
 ·exact a5b.bind (.stop _) λ _=>c8q _ _
 ·exact c8q _ _
theorem c7e (a b c d e:Value) (pl:List Value):a5b (EntryCells.newEntry a b c d e pl):=c3p _ _
theorem d5r (f:Addr) (b:Bool):a5b (entryPlaceOf f b):=by
 unfold entryPlaceOf
 refine a5b.bind (.stack λ _=>.pure _) λ acts=>?_
 split<;>exact .pure _
theorem b4j (e:Value) (env:Env):a5b (noteFrame e env):=by
 unfold noteFrame
 have last:∀ (f:Addr) (head:Value),a5b (do setField e 1 (<- EntryCells.newEntry head (<- PySem.frameOf env) .none (rawInt f) .none (<- entryPlaceOf f (head != .none)))):=λ f head =>
  a5b.bind (d0v _) λ a=>a5b.bind (d5r _ _) λ pl=>a5b.bind (c7e _ _ _ _ _ _) λ b=>b1d _ _ _
 split
 ·refine a5b.bind (b3k _ _) λ head=>?_
  split
  ·refine a5b.bind (b3k _ _) λ x=>?_
   split
   ·exact .pure _
   ·exact a5b.bind (b1d _ _ _) λ _=>last _ _
  ·exact last _ _
 ·exact .stop _
theorem b8o (e:Value) (env:Env):a5b (leaving env e):=a5b.bind (b4j _ _) λ _=>a9f _ _
end My
namespace My
open PySem PySem.Spec PyProof.Rows L2
def CXW (P:Program) (w:World):CXT:=λ outer H s E e s' =>
 ∃ (ea:Addr) (cls a0:Value) (B:Heap) (H':Hp) (d:Option Addr),e=.ref ea/\s'.os=s.os/\AllBare s'.gens/\Un (frs outer) [] H H' s.heap s'.heap/\HOk P w H' s'.heap/\Heap.FlyingW B outer ea cls a0 s'.heap /\
  (∀ b o,s'.heap.get? b=some o->(s.heap.get? b≠none\/H' b≠none)->b ∉ frs outer->B.get? b=some o)/\H' ea=none/\s.heap.get? ea=none/\(∃ o,s'.heap.get? ea=some o/\o.dict=d/\(f1o o=some .none\/∀ d',E cls d' H'))/\E cls d H'
section
variable {X:Cx} {pins:List (Addr×Obj)} {σ:L2.St} {H H':Hp} {s:Shared} {h1 h2 B:Heap}
theorem e5t (I:Inv X pins σ H s):∀ b∈frs X.stack,∃ o,s.heap.get? b=some o:=λ b hb=>let ⟨_,o,e,_⟩:=I.stack.mem hb;⟨o,e⟩
theorem e6c (I:Inv X pins σ H s) (un:Un (frs X.stack) [] H H' s.heap h1) (hok:HOk X.prog X.w H' h1) (bk:∀ b o,h1.get? b=some o->(s.heap.get? b≠none\/H' b≠none)->b ∉ frs X.stack->B.get? b=some o)
  (hst:∀ b o,B.get? b=some o->h2.get? b=some o) (hsm:h1.UpToSlots h2) (hfn:∀ b∈frs X.stack,∃ o,h1.get? b=some o/\∀ vs,o.data≠.fields vs) :
  Un (frs X.stack) [] H H' s.heap h2/\HOk X.prog X.w H' h2/\(∀ b o,h2.get? b=some o->(s.heap.get? b≠none\/H' b≠none)->b ∉ frs X.stack->B.get? b=some o)/\∀ b∈frs X.stack,H' b=none:=by
 have nf:∀ b∈frs X.stack,H' b=none:=λ b hb=>by
  obtain⟨o,e⟩:=e5t I b hb
  exact un.free b o e (I.stkFree b hb) (by simp)
 have keep:∀ b o,h1.get? b=some o->(s.heap.get? b≠none\/H' b≠none)->b ∉ frs X.stack->h2.get? b=some o:=λ b o e k n=>hst b o (bk b o e k n)
 refine⟨⟨λ b o e n hb _=>?_,λ b o e n hb _=>?_,un.free,λ b o e _=>?_,un.tups,un.frzs,un.tbls⟩,λ a o e=>?_,λ b o e k n=>?_,nf⟩
 ·exact keep b o (un.keep b o e n hb (by simp)) (.inl (by rw[e];simp)) hb
 ·obtain⟨sl,e1⟩:=un.slot b o e n hb (by simp)
  obtain⟨o',e2,hd⟩:=hfn b hb
  rw[e1] at e2
  cases e2
  obtain⟨sl',e3⟩:=hsm b _ e1 hd
  exact⟨sl',e3⟩
 ·obtain⟨o',e1⟩:=un.there b o e (by simp)
  by_cases hb:b∈frs X.stack
  ·obtain⟨o2,e2,hd⟩:=hfn b hb
   obtain⟨sl',e3⟩:=hsm b _ e2 hd
   exact⟨_,e3⟩
  ·exact⟨o',keep b o' e1 (.inl (by rw[e];simp)) hb⟩
 ·refine(hok a o e).stay (λ b u hb q=>keep b u q (.inr ?_) (λ z=>?_)) (λ _ q=>q) λ _ _ q=>q
  ·rcases hb with z | z
   ·rw[z,e];simp
   ·rw[z];simp
  ·have q':=nf b z
   rcases hb with z | z
   ·rw[z,e] at q';cases q'
   ·rw[z] at q';cases q'
 ·have there1:∃ o',h1.get? b=some o':=by
   rcases k with k | k
   ·cases q:s.heap.get? b with
    | none=>exact(k q).elim
    | some o0=>exact un.there b o0 q (by simp)
   ·cases q:H' b with
    | none=>exact(k q).elim
    | some u=>exact b0g (hok b u q)
  obtain⟨o',e1⟩:=there1
  have e2:=bk b o' e1 k n
  have e3:=hst b o' e2
  rw[e] at e3
  cases e3
  exact e2
end
section
variable {P:Program} {w:World} {K:PySem.W.Frag} {mg:Str->Option Value} {base:Heap} {N:List Str} {qual:Str} {scope:Scope} {f:Addr} {cd:Value} {A:Around} {outer:List Env} {s₀:Shared} {H₀:Hp} {E:XK}
 {pins:List (Addr×Obj)} {σ:L2.St} {H H':Hp} {s:Shared}
theorem d0d {ea:Addr} {d:Option Addr} {cls a0:Value} {B h1 h2:Heap} {s1:Shared} (I:Inv (b9n (CXW P w) P w K mg base N qual scope f cd A outer s₀ H₀ E) pins σ H s) (hos:s1.os=s.os) (hb:AllBare s1.gens)
  (un:Un (frs (envOfC qual scope s₀.heap.objs.size f cd::outer)) [] H H' s.heap h1) (hok:HOk P w H' h1)
  (bk:∀ b o,h1.get? b=some o->(s.heap.get? b≠none\/H' b≠none)->b ∉ frs (envOfC qual scope s₀.heap.objs.size f cd::outer)->B.get? b=some o)
  (fl:Heap.FlyingW B outer ea cls a0 h2) (hsm:h1.UpToSlots h2) (hfn:∀ b∈frs (envOfC qual scope s₀.heap.objs.size f cd::outer),∃ o,h1.get? b=some o/\∀ vs,o.data≠.fields vs)
  (n1:H' ea=none) (n2:s.heap.get? ea=none) (dd:∃ o,h2.get? ea=some o/\o.dict=d/\(f1o o=some .none\/∀ d',E cls d' H')) (hE:E cls d H'):CXW P w outer H₀ s₀ E (.ref ea) {s1 with heap:=h2}:=by
 obtain⟨un2,hok2,bk2,nf⟩:=e6c I un hok bk fl.1 hsm hfn
 have sub:∀ b∈frs outer,b∈frs (envOfC qual scope s₀.heap.objs.size f cd::outer):=λ b hb=>by
  obtain⟨env,he,hf⟩:=List.mem_filterMap.mp hb
  exact List.mem_filterMap.mpr ⟨env,List.mem_cons_of_mem _ he,hf⟩
 have notin:∀ b o,s₀.heap.get? b=some o->b ∉ frs outer->b ∉ frs (envOfC qual scope s₀.heap.objs.size f cd::outer):=λ b o e hb hm=>by
  rcases List.mem_cons.mp (I.stkSub b hm) with z | z
  ·exact absurd (Nat.lt_of_lt_of_le (Heap.lt_size e) (z ▸ I.ok.above)) (Nat.lt_irrefl _)
  ·exact hb z
 refine⟨ea,cls,a0,B,H',d,rfl,hos.trans I.os,hb,⟨λ b o e n hb _=>?_,λ b o e n hb _=>?_,λ b o e n _=>?_,λ b o e _=>?_,λ b xs e=>un2.tups b xs (I.base.tups b xs e),λ b o u e=>un2.frzs b o u (I.base.frzs b o u e),λ b ps e=>?_⟩,hok2,fl,λ b o e k hb=>?_,n1,?_,dd,hE⟩
 ·exact un2.keep b o (I.base.keep b o e n hb (by simp[b9n])) (I.base.free b o e n (by simp[b9n])) (notin b o e hb) (by simp)
 ·obtain⟨sl,e1⟩:=I.base.slot b o e n hb (by simp[b9n])
  obtain⟨sl',e2⟩:=un2.slot b _ e1 (I.base.free b o e n (by simp[b9n])) (sub b hb) (by simp)
  exact⟨sl',e2⟩
 ·obtain⟨o',e1⟩:=I.base.there b o e (by simp[b9n])
  exact un2.free b o' e1 (I.base.free b o e n (by simp[b9n])) (by simp)
 ·obtain⟨o',e1⟩:=I.base.there b o e (by simp[b9n])
  exact un2.there b o' e1 (by simp)
 ·obtain⟨m1,e1⟩:=I.base.tbls b ps e
  obtain⟨m2,e2⟩:=un2.tbls b _ e1
  exact⟨m1++m2,by rw[e2,Array.append_assoc]⟩
 ·rcases k with k | k
  ·cases q:s₀.heap.get? b with
   | none=>exact(k q).elim
   | some o0 =>
    obtain⟨o',e1⟩:=I.base.there b o0 q (by simp[b9n])
    exact bk2 b o e (.inl (by rw[e1];simp)) (notin b o0 q hb)
  ·exact bk2 b o e (.inr k) λ z=>k (nf b z)
 ·cases q:s₀.heap.get? ea with
  | none=>rfl
  | some o0 =>
   obtain⟨o',e1⟩:=I.base.there ea o0 q (by simp[b9n])
   rw[n2] at e1
   cases e1
theorem d0i {ea:Addr} {cls:Value} {vs:List Value} {h1:Heap} (I:Inv (b9n (CXW P w) P w K mg base N qual scope f cd A outer s₀ H₀ E) pins σ H s) (hm:Heap.MadeExcOf s.heap h1 ea cls vs) (hE:E cls none H) :
  (b9n (CXW P w) P w K mg base N qual scope f cd A outer s₀ H₀ E).xe (.ref ea) {s with heap:=h1}:=by
 have hin:∀ env∈(envOfC qual scope s₀.heap.objs.size f cd::outer),∀ b,env.frame=some b->b∈frs (envOfC qual scope s₀.heap.objs.size f cd::outer):=λ env he b hb=>List.mem_filterMap.mpr ⟨env,he,hb⟩
 have hl:=PySem.W.funFrames_hide I.stack hin
 refine wpAny_mono (a9l (b8o _ _) (wpAny_leaves_madeW (Q:=λ _ s'=>∃ h2 t,s'={s with heap:=h2}/\Heap.FlyingW (PySem.W.hideAll s.heap (frs (envOfC qual scope s₀.heap.objs.size f cd::outer))) outer ea cls (.ref t) h2/\h1.UpToSlots h2)
  (base:=PySem.W.hideAll s.heap (frs (envOfC qual scope s₀.heap.objs.size f cd::outer))) (h:=s.heap) I.ok.frames rfl (λ b o q=>PySem.W.of_hideAll _ q) hl hm λ h2 t x1 _ _ x4=>⟨h2,t,rfl,x1,x4⟩)) (λ _ s' ⟨⟨h2,t,e,x1,x4⟩,dk⟩=>?_) λ _ _ z=>z.1
 subst e
 obtain⟨t',he',_⟩:=hm.there
 refine d0d (s1:={s with heap:=h1}) I rfl I.bare (Un.kept λ b u q=>hm.keeps b u q) (I.hok.kept λ b u q=>hm.keeps b u q) (λ b o e k n=>?_) x1 x4 (λ b hb=>?_) (b0s I hm.new) hm.new (let ⟨o',q1,q2⟩:=dk ea _ he';⟨o',q1,q2.1,.inl (q2.2.trans rfl)⟩) hE
 ·have e1:∃ o',s.heap.get? b=some o':=by
   rcases k with k | k
   ·cases q:s.heap.get? b with
    | none=>exact(k q).elim
    | some o0=>exact⟨o0,rfl⟩
   ·cases q:H b with
    | none=>exact(k q).elim
    | some u=>exact b0g (I.hok b u q)
  obtain⟨o',e1⟩:=e1
  have e2:=hm.keeps b o' e1
  rw[e] at e2
  cases e2
  exact PySem.W.hideAll_get _ e1 n
 ·obtain⟨_,o,e,hd⟩:=I.stack.mem hb
  exact⟨o,hm.keeps b o e,hd⟩
theorem e2o {E':XK} (hE:∀ cls d H',E' cls d H'->E cls d H'):d0f (CXW P w) (b9n (CXW P w) P w K mg base N qual scope f cd A outer s₀ H₀ E) E':=by
 intro pins σ H s e s' I h
 obtain⟨ea,cls,a0,B,H',d,rfl,os,bare,un,hok,fl,bk,n1,n2,⟨o,ho,hd⟩,hw⟩:=h
 refine wpAny_mono (a9l (b8o _ _) (wpAny_leaves_onW (Q:=λ _ s''=>∃ h2,s''={s' with heap:=h2}/\Heap.FlyingW B outer ea cls a0 h2/\s'.heap.UpToSlots h2) I.ok.frames rfl fl λ h2 x1 x2=>⟨h2,rfl,x1,x2⟩)) (λ _ s'' ⟨⟨h2,e,x1,x2⟩,dk⟩=>?_) λ _ _ z=>z.1
 subst e
 obtain⟨o2,ho2,hd2⟩:=dk ea o ho
 exact d0d (s1:=s') I os bare un hok bk x1 x2 (λ b hb=>(fl.2.2.1.mem hb).2) n1 n2 ⟨o2,ho2,hd2.1.trans hd.1,hd.2.imp (λ q=>hd2.2.trans q) λ q d'=>hE _ _ _ (q d')⟩ (hE _ _ _ hw)
theorem d7g {x qual:Str} {st:Stmt} {f:Addr} {fd:FuncData} {N ps:List Str} {k:Nat} {sp:Sp} (F:Fun K x qual st f fd) (S:a0r N ps (a0f st)) (len:∀ vs H Q E,sp vs H Q E->vs.length=ps.length)
  (hbody:∀ (cdv:Value) (A:Around) (outer:List Env) (s:Shared) (H:Hp) (vs:List V) (Q:VK) (E:XK),Room k (A.deeper (envOfC qual (a0f st) s.heap.objs.size f cdv))->sp vs H Q E ->
   ∃ t,PSs (b9n (CXW P w) P w K mg base N qual (a0f st) f cdv A outer s H E) (a0o st) t/\t {nx:=λ _ H'=>Q .non H',rt:=Q} (c3q N vs) H):a4j P w K mg base (CXW P w) (k+1) f fd ps sp:=by
 obtain⟨oc,od,kV,doc,pm,an,cdv,ct,osl,rfl,lk,hcd⟩:=F.ex
 exact e6n lk hcd S len λ A outer s H vs Q E hr hsp=>hbody cdv A outer s H vs Q E hr hsp
structure f3q (K:PySem.W.Frag) (mg:Str->Option Value) (x:Str) (C:Addr):Prop where
 bound:mg x=some (.ref C)
 ok:PySem.W.excIn K C [.type "ValueError",.type "Exception",.type "BaseException",.type "object"] "ValueError.__new__"=true
end
end My
namespace My
open PySem PySem.Spec PyProof.Rows L2
theorem e8e {K:PySem.W.Frag} {h:Heap} {C:Addr} {bmB:List Value} {nid:String} (X:K.In h) (q:PySem.W.excIn K C bmB nid=true) :
  ∃ bm N nm qn bs hd sn sub ab col dd k0 k1 k2 k3 k5,∃ mN:Str->Option Value,h.get? C=some (excClassObj nm qn C N bs bm hd sn sub ab col dd k0 k1 k2 k3 k5 nid)/\h.Ns N mN/\mN "__init__"=none/\OwnTail h bmB bm:=by
 unfold PySem.W.excIn at q
 split at q
 ·next dd cdat slots lk =>
  split at q
  ·next C2 c7y a0 a1 a2 a3 n a5 em es =>
   simp only [Bool.and_eq_true,beq_iff_eq,Bool.not_eq_true'] at q
   obtain⟨⟨⟨⟨⟨e1,e2⟩,e3⟩,e4⟩,e5⟩,e6⟩:=q
   subst e1 e2
   obtain⟨c1,c2,c3,c4,c5,c6,c7,c8,c9,c10,c11⟩:=cdat
   dsimp only at em e3 e5 e6
   subst em e3
   obtain⟨lst⟩:=slots
   have el:lst=[a0,a1,a2,a3,some (.builtin n),a5]:=es
   subst el
   refine⟨c7y,_,_,_,_,_,_,_,_,_,dd,a0,a1,a2,a3,a5,h.nsMap c4,X _ _ lk,?_,?_,PySem.W.tail_of_in X e4⟩
   ·exact .of_isNs (PySem.W.isNs_of_in X e5)
   ·exact PySem.W.nsMap_none_of_in X e5 e6
  ·cases q
 ·cases q
section
variable {P:Program} {w:World} {K:PySem.W.Frag} {mg:Str->Option Value} {base:Heap} {N:List Str} {qual:Str} {scope:Scope} {f:Addr} {cd:Value} {A:Around} {outer:List Env} {s₀:Shared} {H₀:Hp} {E:XK}
theorem e1r {x:Str} {C:Addr} {e₀:Expr} {te:TE} {np cpos pos:Pos} (T:f3q K mg x C) (hg:Gl (b9n (CXW P w) P w K mg base N qual scope f cd A outer s₀ H₀ E) x)
  (he:PE (b9n (CXW P w) P w K mg base N qual scope f cd A outer s₀ H₀ E) e₀ te) (hd:(x == ("__debug__":Str))=false:=by decide)
  (ht:backTo cpos (starEach [e₀] (envOfC qual scope s₀.heap.objs.size f cd))=[(false,eval e₀ (envOfC qual scope s₀.heap.objs.size f cd))]:=by rfl) :
  PS (b9n (CXW P w) P w K mg base N qual scope f cd A outer s₀ H₀ E) (.Raise (some (.Call (.Name x np) [e₀] [] cpos)) none pos) (λ _ σ H=>te σ H λ _ H1=>E (.ref C) none H1):=by
 constructor;intro pins s σ H D I h
 obtain⟨bm,Nn,nm,qn,bs,hdc,sn,sub,ab,col,dd,k0,k1,k2,k3,k5,mN,hC,hN,hni,TL⟩:=e8e I.ok.mod.kin T.ok
 refine wpAny_Raise_call_subT (C:=C) (nm:=nm) (q:=qn) (N:=Nn) (bs:=bs) (bm:=bm) (hdct:=hdc) (sn:=sn) (sub:=sub) (ab:=ab) (col:=col) (dd:=dd) (k0:=k0) (k1:=k1) (k2:=k2) (k3:=k3) (k5:=k5)
  PySem.F.excBase_ValueError (mN:=mN) (TL.hasType PySem.F.excBase_ValueError.hasBase) (I.ok.hd rfl) ?_ hni (b7b I hg T.bound ⟨rfl,?_⟩ hd)
 ·show (backTo cpos (starEach [e₀] (envOfC qual scope s₀.heap.objs.size f cd))).any (·.1)=false
  rw[ht]
  rfl
 ·show wpAny _ _ (evalArgs (.ref C) true (backTo cpos (starEach [e₀] (envOfC qual scope s₀.heap.objs.size f cd))) []) _ _ _
  rw[ht]
  refine Calls.evalArgs_plain (Calls.spliced_cons (thn (he pins s σ H _ I h) λ u s1 ⟨v,H1,I1,r1,q1⟩=>Calls.spliced_nil ?_))
  refine⟨rfl,(by show 1<=sizeLine;decide),I1.bk _ _ hC,hN.keeps I1.bk,TL.keeps I1.bk,λ h' ea hm=>d0i I1 hm q1⟩
end
section
variable {X:Cx}
abbrev d3b (X:Cx) (ea:Addr):Cx:={X with A:=X.A.mark (some (.ref ea)),calm:=false,xe:=λ _ _=>False}
theorem d4w {pins:List (Addr×Obj)} {σ:L2.St} {H:Hp} {s:Shared} (I:Inv X pins σ H s) (ea:Addr):Inv (d3b X ea) pins σ H s :=
 ⟨⟨I.ok.mod,I.ok.kind,I.ok.glob,I.ok.blt,I.ok.above,I.ok.inj,I.ok.has,I.ok.cab,(λ z=>nomatch z),I.ok.frames,I.ok.stk,I.ok.exf,I.ok.bs,I.ok.bsz,I.ok.noex,I.ok.exfs,I.ok.funs,I.ok.frf⟩,I.os,I.bare,I.base,I.loc,I.cell,I.free,I.freeC,I.pin,I.hok,I.len⟩
theorem b3p {pins:List (Addr×Obj)} {σ:L2.St} {H:Hp} {s:Shared} {ea:Addr} (ok:X.Ok) (I:Inv (d3b X ea) pins σ H s):Inv X pins σ H s :=
 ⟨ok,I.os,I.bare,I.base,I.loc,I.cell,I.free,I.freeC,I.pin,I.hok,I.len⟩
theorem d8p {pins:List (Addr×Obj)} {D:c4f} {fl:Flow} {s:Shared} {ea:Addr} (ok:X.Ok) (h:SP (d3b X ea) pins D fl s):SP X pins D fl s:=by
 cases fl with
 | next=>obtain⟨σ',H',I,q⟩:=h;exact⟨σ',H',b3p ok I,q⟩
 | brk=>obtain⟨σ',H',I,q⟩:=h;exact⟨σ',H',b3p ok I,q⟩
 | cont=>obtain⟨σ',H',I,q⟩:=h;exact⟨σ',H',b3p ok I,q⟩
 | ret u=>obtain⟨v,σ',H',I,r,q⟩:=h;exact⟨v,σ',H',b3p ok I,r,q⟩
end
end My
namespace My
open PySem PySem.Spec PyProof.Rows L2
section
variable {X:Cx}
theorem e6y {pins:List (Addr×Obj)} {σ:L2.St} {H:Hp} {s:Shared} {D:Addr} {h':Heap} {o:HO} {t':Nat} (I:Inv X pins σ H s) (k:∀ b u,s.heap.get? b=some u->h'.get? b=some u) (hD:s.heap.get? D=none)
  (new:a3f X.prog X.w (upd H D o) h' D o):Inv X pins σ (upd H D o) {s with heap:=h',toks:=t'}:=by
 have nD:=b0s I hD
 have neD:∀ b u,s.heap.get? b=some u->b≠D:=λ b u e z=>by rw[z,hD] at e;cases e
 refine I.un ⟨λ b u q _ _ _=>k b u q,λ b u q _ _ _=>⟨u.slots,k b u q⟩,λ b u q n _=>by rw[a0h (neD b u q)];exact n,λ b u q _=>⟨u,k b u q⟩,λ b xs q=>by rw[a0h (a1b q nD)];exact q,
  λ b u xs q=>by rw[a0h (a1b q nD)];exact q,λ b ps q=>⟨#[],by rw[a0h (a1b q nD),q];simp⟩⟩ λ b u e=>?_
 by_cases hb:b=D
 ·subst hb
  rw[a0b] at e
  cases e
  exact new
 ·rw[a0h hb] at e
  exact(I.hok b u e).stay (λ c v _ q=>k c v q) (λ c q=>by rw[a0h (a1b q nD)];exact q) λ c xs q=>by rw[a0h (a1b q nD)];exact q
theorem d0o (hc:X.calm=true):b7n X (.builtin "all") (λ xs H Q=>∃ (p:Addr) (bs:List Bool),xs=[V.ref p]/\SqL X.K H p (bs.map V.bl)/\Q (.bl (bs.all id)) H):=by
 intro pins s σ H xs us Q I r h
 obtain⟨p,bs,rfl,hx,q⟩:=h
 obtain⟨u,rfl,ru⟩:=c6a r
 cases ru
 obtain⟨its,rv,pl,_⟩:=I.list hx
 have hlen:=rv.length
 rw[List.length_map] at hlen
 refine call_all_walk (wpAny_pyIter_list pl.isList ?_)
 have hne:p≠s.heap.objs.size:=Nat.ne_of_lt (by obtain⟨o,_,e,_⟩:=pl;exact Heap.lt_size e)
 refine⟨s.heap.objs.size,[s.heap.objs.size,p],[s.heap.objs.size],its.toArray.size,_,_,λ i=>bs.getD i true,rfl,Walks.list (A:=X.A.in1) (I.ok.hd hc) s.heap.objs.size p hne its.toArray,⟨⟨_,Heap.get?_push_size _ rfl,rfl,rfl⟩,pl.isList.push _⟩,λ i v s2 Q2 E2 hP hQ=>?_,λ h' tk hk=>?_⟩
 ·have hP':its[i]?=some v:=by simpa using hP
  obtain⟨xv,hx1,rx⟩:=b5d rv hP'
  rw[List.getElem?_map] at hx1
  cases hb:bs[i]? with
  | none=>rw[hb] at hx1;cases hx1
  | some b =>
   rw[hb] at hx1
   have e:V.bl b=xv:=Option.some.inj hx1
   subst e
   cases rx
   have e2:bs.getD i true=b:=by rw[List.getD_eq_getElem?_getD,hb];rfl
   have hQ':Q2 (bs.getD i true) s2:=hQ
   rw[e2] at hQ'
   exact wpAny_truthy_bool hQ'
 ·have e:(List.range its.toArray.size).all (λ i=>bs.getD i true)=bs.all id:=by
   rw[List.size_toArray,<-hlen,Bool.eq_iff_iff,List.all_eq_true,List.all_eq_true]
   constructor
   ·intro g b hb
    obtain⟨i,hi,e⟩:=List.mem_iff_getElem.mp hb
    have:=g i (List.mem_range.mpr hi)
    rw[List.getD_eq_getElem?_getD,List.getElem?_eq_getElem hi,e] at this
    exact this
   ·intro g i hi
    have hi':=List.mem_range.mp hi
    rw[List.getD_eq_getElem?_getD,List.getElem?_eq_getElem hi']
    exact g _ (List.getElem_mem hi')
  rw[e]
  refine⟨.bl (bs.all id),H,I.kept (t':=tk) λ b u eu=>hk b u (λ z=>?_) (Heap.get?_push_of_some _ eu),rfl,q⟩
  have z':b=s.heap.objs.size:=by simpa using z
  exact absurd (Heap.lt_size eu) (by rw[z'];exact Nat.lt_irrefl _)
end
end My
namespace My
open PySem PySem.Spec PyProof.Rows L2 Builtin Builtin.ObjectAttr Builtin.Getset_descriptor
structure e1q (K:PySem.W.Frag) (C:Addr):Prop where
 it:PySem.W.isClsIn K C=true
 ga:PySem.W.findIn K (.ref C) "__getattribute__"=some (some (.builtin "BaseException.__getattribute__"))
 gt:PySem.W.findIn K (.ref C) "__getattr__"=some none
 cl:PySem.W.findIn K (.ref C) "__class__"=some (some (.builtin "object.__class__"))
 mB:PySem.W.mroIn K C (.type "BaseException")=some true
 mO:PySem.W.mroIn K C (.type "object")=some true
def d6z (a C:Addr) (h:Heap):Prop:=∃ o,h.get? a=some o/\o.cls=.ref C
section
variable {prog:Program} {w:World} {A:Around} {E:Value->Shared->Prop} {h:Heap} {g:Array GenState} {d:Drawn} {t:Nat} {os:OsState} {a C:Addr} {o:Obj} {K:PySem.W.Frag}
theorem e9e {R:Result->Shared->Prop} (X:K.In h) (T:e1q K C) (hx:h.get? a=some o) (hc:o.cls=.ref C) (hq:R (.ok (.ret (.ref C))) ⟨h,g,d,t,os⟩) :
  codeAny (model prog w) A (.call (.builtin "getset_descriptor.__get__") ⟨[.builtin "object.__class__",.ref a,.ref C],[]⟩) R ⟨h,g,d,t,os⟩:=by
 have L0:PySem.W.Looks (model prog w) h (typeOf (.ref a)) (.ref C):=hc ▸ (PySem.W.Looks.ld hx).andThen .now
 have L1:=PySem.W.looks_mroIn (M:=model prog w) X T.mO
 refine codeAny_call_builtin PySem.W.KF.slot_gs.plain PySem.W.KF.entry_gs (PySem.W.KF.slot_gs.check _ _ _ _ _ _ _ _ PySem.W.KF.type_class (PySem.W.KF.args_gs _ _ _) ?_)
 unfold Builtin.«getset_descriptor.__get__» descrGet
 rw[PySem.W.dga_obj]
 refine wpAny_bind (wpAny_pure ?_)
 unfold descrGetter descrCheckInstance descrNameAndClass isInstance
 simp only [PySem.W.KF.owner_class]
 repeat lk
 refine⟨Code.quiet_builtin _ (by decide +kernel),codeAny_builtin PySem.W.KF.entry_class ?_⟩
 unfold Builtin.«object.__class__» shownTypeOf
 repeat lk
 exact hq
theorem e2s {tk:Tok} {Q:Fin->Shared->Prop} (X:K.In h) (T:e1q K C) (hx:h.get? a=some o) (hc:o.cls=.ref C) (hq:Q (.done (.ret (.ref C))) ⟨h,g,d,t,os⟩) :
  wpAny (model prog w) A (Builtin.«object.__getattribute__» ⟨[.ref a,.str "__class__" tk],[]⟩) Q E ⟨h,g,d,t,os⟩:=by
 have hT5:(⟨h,g,d,t,os⟩:Shared).TypeIs (.builtin "object.__class__") "getset_descriptor":=F.typeOf_object_class
 have f5:=F.typeOf_object_class
 have f6:=F.slot_gs_get.lookup
 have f7:=F.slot_gs_set.lookup
 have L2:=PySem.W.looks_findIn (M:=model prog w) X T.cl
 repeat (any_goals (first | assumption | (with_reducible refine wpAny_loadPart_at hx ?_;rw[hc]) | with_reducible refine PySem.W.Looks.at L2 ?_ | wp_step))
 refine e9e X T hx hc ?_
 repeat (any_goals (first | assumption | wp_step))
theorem e2p {M:Model} {nameV:Value} {Q:Unit->Shared->Prop} (X:K.In h) (T:e1q K C) (hx:h.get? a=some o) (hc:o.cls=.ref C) (hq:Q () ⟨h,g,d,t,os⟩):wpAny M A (checkBuiltinCall "BaseException.__getattribute__" ⟨[.ref a,nameV],[]⟩) Q E ⟨h,g,d,t,os⟩:=by
 have hk:builtinKind "BaseException.__getattribute__"=some .slot:=by decide +kernel
 have hsplit:splitId "BaseException.__getattribute__"=some ("BaseException","__getattribute__"):=by decide +kernel
 have L1:=PySem.W.looks_mroIn (M:=M) X T.mB
 have ha:=F.args_bexc_ga (.ref a) nameV
 simp only [checkBuiltinCall,hk,hsplit]
 refine wpAny_bind ?_
 unfold isInstance
 repeat (first | (with_reducible refine wpAny_loadPart_at hx ?_;rw[hc]) | with_reducible refine PySem.W.Looks.at L1 ?_ | wp_step)
 exact hq
theorem e5r {tk:Tok} {R:Result->Shared->Prop} (X:K.In h) (T:e1q K C) (hx:h.get? a=some o) (hc:o.cls=.ref C) (hq:R (.ok (.ret (.ref C))) ⟨h,g,d,t,os⟩) :
  codeAny (model prog w) A (.call (.builtin "BaseException.__getattribute__") ⟨[.ref a,.str "__class__" tk],[]⟩) R ⟨h,g,d,t,os⟩ :=
 codeAny_call_builtin PySem.F.attr_ValueError.ga.plain F.entry_bexc_ga (e2p X T hx hc (e2s X T hx hc hq))
theorem f3b {tk:Tok} {fill expr:Bool} {Q:Value->Shared->Prop} (X:K.In h) (T:e1q K C) (hx:h.get? a=some o) (hc:o.cls=.ref C) (hq:Q (.ref C) ⟨h,g,d,t,os⟩) :
  wpAny (model prog w) A (getAttrBy (.ref a) (.str "__class__" tk) fill expr) Q E ⟨h,g,d,t,os⟩:=by
 have f3:=PySem.F.attr_ValueError.ga.bind (.ref a)
 have hx0:(expr && onTheHeap (Value.builtin "BaseException.__getattribute__"))=false:=by cases expr<;>rfl
 have hx2:(Value.builtin "BaseException.__getattribute__" == Value.builtin "object.__getattribute__")=false:=by decide +kernel
 have hx1:(onTheHeap (Value.ref C) && Value.builtin "BaseException.__getattribute__" == Value.builtin "object.__getattribute__")=false:=by rw[hx2];rfl
 have L1:=PySem.W.looks_findIn (M:=model prog w) X T.ga
 have L2:=PySem.W.looks_findIn (M:=model prog w) X T.gt
 repeat (any_goals (first | assumption | (with_reducible refine wpAny_loadPart_at hx ?_;rw[hc]) | with_reducible refine PySem.W.Looks.at L1 ?_ | with_reducible refine PySem.W.Looks.at L2 ?_ | wp_step))
 refine e5r X T hx hc ?_
 repeat (any_goals (first | assumption | wp_step))
end
theorem d5f {K:PySem.W.Frag} {a C:Addr} (T:e1q K C):PySem.W.KitX K (.ref a) (.ref C) (d6z a C) where
 ty:=λ _ _ _ ⟨_,hx,hc⟩=>hc ▸ (PySem.W.Looks.ld hx).andThen .now
 it:=λ _ h X _=>by
  have z0:=T.it
  unfold PySem.W.isClsIn PySem.W.clsIn at z0
  split at z0
  ·rename_i c' d' cd' sl' ho
   intro A' Q' E' s' k q
   unfold isType loadHead
   exact wpAny_bind (wpAny_loadPart (k _ _ (X _ _ ho)) (wpAny_pure q))
  ·cases z0
 ne:=λ h tp dd its n sl X htp=>by
  have z0:=T.it
  refine Bool.eq_false_iff.mpr λ q=>?_
  have e:C=tp:=Value.ref.inj (beq_iff_eq.mp q)
  subst e
  unfold PySem.W.isClsIn PySem.W.clsIn at z0
  split at z0
  ·rename_i c' d' cd' sl' ho
   have z:=(X _ _ ho).symm.trans htp
   cases z
  ·cases z0
 ca:=λ {prog w A E Q s} X ⟨o,hx,hc⟩ k=>by
  obtain⟨h,g,d,t,os⟩:=s
  unfold getAttr? getAttrBy?
  refine wpAny_bind (wpAny_mkText (wpAny_bind (wpAny_attempt (f3b X T hx hc ?_))))
  exact wpAny_pure k
end My
namespace My
open PySem PySem.Spec PyProof.Rows L2
abbrev e5x (a C:Addr):HO:=.ext (d6z a C)
theorem e6m {P:Program} {w:World} {H:Hp} {h:Heap} {a C:Addr} {o:Obj} (e:h.get? a=some o) (hc:o.cls=.ref C):a3f P w H h a (e5x a C) :=
 ⟨⟨o,e,hc⟩,⟨o,e⟩,λ _ _ ⟨o,e,hc⟩ k=>⟨o,k o e,hc⟩⟩
section
variable {X:Cx}
theorem d5d {pins:List (Addr×Obj)} {σ:L2.St} {H:Hp} {s:Shared} {a C:Addr} (I:Inv X pins σ H s) (h:H a=some (e5x a C)):d6z a C s.heap :=
 (show a3f X.prog X.w H s.heap a (e5x a C) from I.hok a _ h).1
structure f0e (K:PySem.W.Frag) (C D:Addr) (b:Bool):Prop where
 it:PySem.W.isClsIn K D=true
 ty:PySem.W.typeIn K (.ref D)=some (.type "type")
 self:PySem.W.subIn K (.ref C) (.ref C)=some true
 sub:PySem.W.subIn K (.ref C) (.ref D)=some b
theorem f0e.one {K:PySem.W.Frag} {C D:Addr} {b:Bool} (p:f0e K C D b):PySem.W.kitOne K (.ref C) (.ref D)=some b:=by
 unfold PySem.W.kitOne
 by_cases e:(Value.ref C == Value.ref D)=true
 ·rw[if_pos e]
  have e1:C=D:=Value.ref.inj (beq_iff_eq.mp e)
  have h1:=p.self
  have h2:=p.sub
  rw[<-e1,h1] at h2
  exact h2
 ·rw[if_neg e]
  show (if ((PySem.W.clsIn K D).isSome && PySem.W.typeIn K (.ref D) == some (.type "type"))=true then PySem.W.subIn K (.ref C) (.ref D) else none)=some b
  have h1:(PySem.W.clsIn K D).isSome=true:=p.it
  rw[h1,p.ty,if_pos (by simp),p.sub]
theorem e2a:b7n X (.builtin "isinstance") (λ xs H Q=>∃ a C b c,xs=[V.ref a,c]/\H a=some (e5x a C)/\e1q X.K C/\((∃ D,c=V.ref D/\PySem.W.kitOne X.K (.ref C) (.ref D)=some b)\/∃ T,c=V.ty T/\PySem.W.kitOne X.K (.ref C) (.type T)=some b)/\Q (.bl b) H):=by
 intro pins s σ H xs us Q I r h
 obtain⟨a,C,b,c,rfl,ha,T,hc,q⟩:=h
 obtain⟨u,w',rfl,ru,rw'⟩:=e2u r
 cases ru
 rcases hc with ⟨D,rfl,e⟩ | ⟨n,rfl,e⟩
 ·cases rw'
  exact PySem.W.kia_one (d5f T) I.kIn (d5d I ha) e (λ z=>nomatch z) λ tk=>⟨.bl b,H,I.tok tk,rfl,q⟩
 ·cases rw'
  exact PySem.W.kia_one (d5f T) I.kIn (d5d I ha) e (λ z=>nomatch z) λ tk=>⟨.bl b,H,I.tok tk,rfl,q⟩
theorem d2r {M:Model} {A:Around} {E:Value->Shared->Prop} {K:PySem.W.Frag} {h:Heap} {g:Array GenState} {d:Drawn} {t:Nat} {os:OsState} {e C S:Addr} {oe:Obj} {b:Bool} {Q:Bool->Shared->Prop} (X:K.In h) (he:h.get? e=some oe) (hcls:oe.cls=.ref C)
  (hty:PySem.W.typeIn K (.ref S)=some (.type "type")) (hit:PySem.W.isClsIn K S=true) (hB:PySem.W.mroIn K S (.type "BaseException")=some true) (hs:PySem.W.subIn K (.ref C) (.ref S)=some b) (hq:Q b ⟨h,g,d,t,os⟩):wpAny M A (excMatches (.ref e) (.ref S)) Q E ⟨h,g,d,t,os⟩:=by
 have f:=tc_notTuple
 have L0:=PySem.W.looks_typeIn (M:=M) X hty
 have L1:=PySem.W.looks_mroIn (M:=M) X hB
 have L2:=PySem.W.looks_subIn (M:=M) X hs
 have L3:PySem.W.Looks M h (isType (.ref S)) true:=by
  unfold PySem.W.isClsIn PySem.W.clsIn at hit
  split at hit
  ·rename_i c' d' cd' sl' ho
   intro A' Q' E' s' k q
   unfold isType loadHead
   exact wpAny_bind (wpAny_loadPart (k _ _ (X _ _ ho)) (wpAny_pure q))
  ·cases hit
 unfold excMatches isInstance
 repeat (first | (with_reducible refine wpAny_loadPart_at he ?_;rw[hcls]) | with_reducible refine PySem.W.Looks.at L0 ?_ | with_reducible refine PySem.W.Looks.at L1 ?_ | with_reducible refine PySem.W.Looks.at L2 ?_ | with_reducible refine PySem.W.Looks.at L3 ?_ | wp_step)
 cases b<;>(wp_walk;exact hq)
end
end My
namespace My
open PySem PySem.Spec PyProof.Rows L2
section
variable {X:Cx} {pins:List (Addr×Obj)} {σ:L2.St} {H:Hp} {s:Shared}
theorem b6o {M:Model} {A:Around} {E:Value->Shared->Prop} {j:Nat} {n:Str} {pos:Pos} {Q:Unit->Shared->Prop} (I:Inv X pins σ H s) (hN:X.N.Nodup) (hj:X.N[j]?=some n) (hk:X.env.scope.names.lookup n=some .local)
  (h:∀ s',Inv X pins (σ.set j none) H s'->Q () s'):wpAny M A (do bindName X.env n .none;unbindBehindTheSuite X.env n pos) Q E s:=by
 obtain⟨m,hn,hl⟩:=id I.loc
 have hcls:(X.env.scope.kind == .class || (X.env.scope.kind == .module && X.env.locals != X.env.globals))=false:=by rw[I.ok.kind];rfl
 have hjσ:j < σ.length:=by rw[I.len];exact(List.getElem?_eq_some_iff.mp hj).1
 have cne:=I.cne
 refine wpAny_nameGoes_keeps hk hn hcls λ h' v hn' hs=>?_
 obtain⟨oL,_,_,hoL,_⟩:=id hn
 refine h _ ⟨I.ok,I.os,I.bare,⟨λ b o e n hb hx=>?_,λ b o e n hb hx=>?_,I.base.free,λ b o e hx=>?_,I.base.tups,I.base.frzs,I.base.tbls⟩,⟨_,hn',λ i y v' e1 e2 e3=>?_⟩,λ y c e=>?_,I.free,I.freeC,λ p hp=>?_,λ b ob e=>?_,by simpa using I.len⟩
 ·exact(hs.2 b (Nat.ne_of_lt (Nat.lt_of_lt_of_le (Heap.lt_size e) I.ok.above))).trans (I.base.keep b o e n hb hx)
 ·obtain⟨sl,e1⟩:=I.base.slot b o e n hb hx
  exact⟨sl,(hs.2 b (Nat.ne_of_lt (Nat.lt_of_lt_of_le (Heap.lt_size e) I.ok.above))).trans e1⟩
 ·obtain⟨o',e1⟩:=I.base.there b o e hx
  exact⟨o',(hs.2 b (Nat.ne_of_lt (Nat.lt_of_lt_of_le (Heap.lt_size e) I.ok.above))).trans e1⟩
 ·by_cases hi:i=j
  ·subst hi
   rw[List.getElem?_set_self hjσ] at e2
   cases e2
  ·rw[List.getElem?_set_ne (Ne.symm hi)] at e2
   obtain⟨u',r',q⟩:=hl i y v' e1 e2 e3
   refine⟨u',r',?_⟩
   rcases q with ⟨k,e⟩ | ⟨k,c,e,z⟩
   ·refine .inl ⟨k,?_⟩
    have:y≠n:=λ e=>hi (c6p hN e1 (e ▸ hj))
    simp[this,e]
   ·exact .inr ⟨k,c,e,z.sameBut hs (cne y c e)⟩
 ·obtain⟨w',z⟩:=I.cell y c e
  exact⟨w',z.sameBut hs (cne y c e)⟩
 ·obtain⟨e,n,ne,nf,d⟩:=I.pin p hp
  exact⟨(hs.2 p.1 ne).trans e,n,ne,nf,d⟩
 ·refine(I.hok b ob e).stay (λ c w' hc q=>(hs.2 c ?_).trans q) (λ _ q=>q) λ _ _ q=>q
  rintro rfl
  rcases hc with rfl | hc
  ·rw[I.free] at e;cases e
  ·rw[I.free] at hc;cases hc
theorem c9x {s1:Shared} {H1:Hp} {a:Addr} {o:HO} (I1:Inv X pins σ H1 s1) (I:Inv X pins σ H s) (hn:s1.heap.get? a=none) (ha:H a=none) (ok:a3f X.prog X.w (upd H a o) s.heap a o):Inv X pins σ (upd H a o) s:=by
 have ne:∀ b u,s1.heap.get? b=some u->b≠a:=λ b u e z=>by rw[z,hn] at e;cases e
 refine⟨I.ok,I.os,I.bare,⟨I.base.keep,I.base.slot,λ b u e n hx=>?_,I.base.there,λ b xs e=>?_,λ b u v e=>?_,λ b ps e=>?_⟩,I.loc,I.cell,?_,λ x c e=>?_,λ p hp=>?_,λ b u e=>?_,I.len⟩
 ·obtain⟨u',e1⟩:=I1.base.there b u e hx
  rw[a0h (ne b u' e1)]
  exact I.base.free b u e n hx
 ·have q:=I.base.tups b xs e
  rw[a0h (a1b q ha)]
  exact q
 ·have q:=I.base.frzs b u v e
  rw[a0h (a1b q ha)]
  exact q
 ·obtain⟨more,q⟩:=I.base.tbls b ps e
  exact⟨more,by rw[a0h (a1b q ha)];exact q⟩
 ·obtain⟨m0,⟨u,_,_,hu,_⟩,_⟩:=I1.loc
  rw[a0h (ne _ u hu)]
  exact I.free
 ·obtain⟨v,u,hu,_⟩:=I1.cell x c e
  rw[a0h (ne c u hu)]
  exact I.freeC x c e
 ·obtain⟨e,n,n2,nf,d⟩:=I.pin p hp
  obtain⟨e1,_⟩:=I1.pin p hp
  exact⟨e,by rw[a0h (ne _ _ e1)];exact n,n2,nf,d⟩
 ·by_cases hb:b=a
  ·subst hb
   rw[a0b] at e
   cases e
   exact ok
  ·rw[a0h hb] at e
   refine(I.hok b u e).stay (λ c v hc q=>q) (λ c q=>?_) λ c xs q=>?_
   ·rw[a0h (a1b q ha)];exact q
   ·rw[a0h (a1b q ha)];exact q
structure f2b (K:PySem.W.Frag) (mg:Str->Option Value) (x:Str) (S:Addr):Prop where
 bound:mg x=some (.ref S)
 ty:PySem.W.typeIn K (.ref S)=some (.type "type")
 it:PySem.W.isClsIn K S=true
 mB:PySem.W.mroIn K S (.type "BaseException")=some true
def gone (j:Nat) (D:c4f):c4f:={nx:=λ σ H=>D.nx (σ.set j none) H,rt:=D.rt,bk:=λ σ H=>D.bk (σ.set j none) H,ct:=λ σ H=>D.ct (σ.set j none) H}
def c9t (a C:Addr) (d:Option Addr) (h:Heap):Prop:=∃ o,h.get? a=some o/\o.cls=.ref C/\PySem.W.notCls o=true/\o.dict=d
end
end My
namespace My
open PySem PySem.Spec PyProof.Rows L2
def Itf (ys:List V):It:=⟨λ i _=>i < ys.length,λ i H x H'=>H'=H/\ys[i]?=some x,λ i _=>ys.length<=i⟩
abbrev b8t (y:Str):List V:=y.cps.toList.map λ c=>V.str ⟨#[c]⟩
theorem c3x (y:Str):(b8t y).length=y.length:=by simp[b8t,Str.length]
theorem d6g {y:Str} {i:Nat}:(b8t y)[i]?=(y.cps[i]?).map λ c=>V.str ⟨#[c]⟩:=by
 rw[List.getElem?_map,Array.getElem?_toList]
abbrev c9r (y:Str):String:=if y.cps.all (· < 128) then "str_ascii_iterator" else "str_iterator"
abbrev d4f (y:Str) (t:Tok):Obj:={cls:=.type (c9r y),data:=.fields #[.str y t,.int 0 0]}
theorem d1l {prog:Program} {w:World} {A:Around} {E:Value->Shared->Prop} {s:Shared} {x:Str} {t:Tok} {Q:Value->Shared->Prop} (hQ:Q (.ref s.heap.objs.size) {s with heap:=s.heap.push (d4f x t)}):wpAny (model prog w) A (pyIter (.str x t)) Q E s:=by
 cases ha:x.cps.all (· < 128) with
 | true =>
  have e:c9r x="str_ascii_iterator":=if_pos ha
  unfold d4f at hQ
  rw[e] at hQ
  exact wpAny_pyIter_ascii ha hQ
 | false =>
  have e:c9r x="str_iterator":=if_neg (by rw[ha];decide)
  unfold d4f at hQ
  rw[e] at hQ
  exact wpAny_pyIter_wide ha hQ
structure Src (P:Program) (w:World) (K:PySem.W.Frag) (J:It) (it:Addr) (st:Nat->Heap->Prop):Prop where
 obj:∀ i h,st i h->∃ o,h.get? it=some o/\∀ v,o.data≠.cell v
 keep:∀ i h h',st i h->(∀ o,h.get? it=some o->h'.get? it=some o)->st i h'
 item:∀ (X:Cx),X.prog=P->X.w=w->X.K=K->∀ (A:Around) (i:Nat) (pins:List (Addr×Obj)) (s:Shared) (σ:L2.St) (H:Hp) (Q:Value->Shared->Prop) (E:Value->Shared->Prop),Inv X pins σ H s->st i s.heap->J.go i H ->
  (∀ x u h' tk,a3n x u->J.yld i H x H->st (i+1) h'->Heap.SameBut it s.heap h'->Q u {s with heap:=h',toks:=tk})->wpAny (model P w) A (Builtin.SmallTypes.nextOf (.ref it)) Q E s
 done:∀ (X:Cx),X.prog=P->X.w=w->X.K=K->∀ (A:Around),A.handled=none->∀ (i:Nat) (pins:List (Addr×Obj)) (s:Shared) (σ:L2.St) (H:Hp) (Q:Value->Shared->Prop) (E:Value->Shared->Prop),Inv X pins σ H s->st i s.heap->J.stop i H ->
  (∀ h' e,Heap.ExtBut it s.heap h'->(∃ o,h'.get? e=some o/\o.cls=.type "StopIteration")->E (.ref e) {s with heap:=h'})->wpAny (model P w) A (Builtin.SmallTypes.nextOf (.ref it)) Q E s
section
variable {P:Program} {w:World} {K:PySem.W.Frag}
theorem e2h (a it:Addr):Src P w K (Itl K a) it (λ i h=>h.IsListIter it a i) where
 obj:=λ i h st=>by
  obtain⟨o,e,c,d⟩:=st
  exact⟨o,e,λ v z=>by rw[d] at z;cases z⟩
 keep:=λ i h h' st k=>st.at λ o e=>k o e
 item:=by
  intro X hP hw hK A i pins s σ H Q E I st hg hQ
  subst hP hw hK
  obtain⟨xs,x,hq,hx⟩:=hg
  obtain⟨its,rv,p,hz⟩:=I.list hq
  obtain⟨u,hu,ru⟩:=rv.get hx
  exact wpAny_nextOf_list_item st p.isList (x:=u) (by simpa using hu) λ h' st' sb=>hQ x u h' s.toks ru ⟨rfl,λ ys hy=>by rw[I.list_inj hy hq];exact hx⟩ st' sb
 done:=by
  intro X hP hw hK A hA i pins s σ H Q E I st hg hE
  subst hP hw hK
  obtain⟨xs,hq,hx⟩:=hg
  obtain⟨its,rv,p,hz⟩:=I.list hq
  have hl:=rv.length
  exact wpAny_nextOf_list_end hA st p.isList (by simp;omega) hE
theorem e8a (y:Str) (t:Tok) (it:Addr):Src P w K (Itf (b8t y)) it (λ i h=>h.IsStrIter it (c9r y) y t i) where
 obj:=λ i h st=>by
  obtain⟨o,e,c,d⟩:=st
  exact⟨o,e,λ v z=>by rw[d] at z;cases z⟩
 keep:=λ i h h' st k=>let ⟨o,ho,r⟩:=st;⟨o,k o ho,r⟩
 item:=by
  intro X hP hw hK A i pins s σ H Q E I st hg hQ
  subst hP hw hK
  have hi:i < y.cps.size:=by have:i < (b8t y).length:=hg;rw[c3x] at this;exact this
  have yl:(Itf (b8t y)).yld i H (.str ⟨#[y.cps[i]]⟩) H:=⟨rfl,by rw[d6g,Array.getElem?_eq_getElem hi];rfl⟩
  cases ha:y.cps.all (· < 128) with
  | true =>
   have e:c9r y="str_ascii_iterator":=if_pos ha
   rw[e] at st hQ
   exact wpAny_nextOf_ascii_item st (c:=y.cps[i]) (by simp[hi]) λ h' st' sb=>hQ (.str ⟨#[y.cps[i]]⟩) _ h' _ ⟨_,rfl⟩ yl st' sb
  | false =>
   have e:c9r y="str_iterator":=if_neg (by rw[ha];decide)
   rw[e] at st hQ
   exact wpAny_nextOf_wide_item st (c:=y.cps[i]) (by simp[hi]) λ h' st' sb=>hQ (.str ⟨#[y.cps[i]]⟩) _ h' _ ⟨_,rfl⟩ yl st' sb
 done:=by
  intro X hP hw hK A hA i pins s σ H Q E I st hg hE
  subst hP hw hK
  have hi:y.cps[i]?=none:=by have:(b8t y).length<=i:=hg;rw[c3x] at this;exact Array.getElem?_eq_none this
  cases ha:y.cps.all (· < 128) with
  | true =>
   have e:c9r y="str_ascii_iterator":=if_pos ha
   rw[e] at st
   exact wpAny_nextOf_ascii_end hA st hi hE
  | false =>
   have e:c9r y="str_iterator":=if_neg (by rw[ha];decide)
   rw[e] at st
   exact wpAny_nextOf_wide_end hA st hi hE
theorem b8m {A:Around} {s:Shared} {E:Value->Shared->Prop} {it l:Addr} {i:Nat} {its:Array Value} {Q:Value->Shared->Prop} (st:s.heap.IsTupleIter it l i) (tp:s.heap.IsTuple l its)
  (hs:∀ x g,its[i]?=some x->g.IsTupleIter it l (i+1)->Heap.SameBut it s.heap g->Q x {s with heap:=g})
  (hn:its[i]?=none->A.handled=none/\∀ g e,Heap.ExtBut it s.heap g->(∃ o,g.get? e=some o/\o.cls=.type "StopIteration")->E (.ref e) {s with heap:=g}) :
  wpAny (model P w) A (Builtin.SmallTypes.nextOf (.ref it)) Q E s:=by
 obtain⟨oi,ei,ci,di⟩:=id st
 obtain⟨ot,et,_,nt,dt⟩:=id tp
 have new:∀ k v,Heap.SameBut it s.heap (s.heap.update it (Obj.mapFields (·.setIfInBounds k v))):=λ _ _=>Heap.SameBut.update ..
 refine wpAny_bind (wpAny_callSpecial?_slot (name:=Str.ofString "__next__") st.typeIs F.slot_tuple_iterator_next (wpAny_call_entry F.slot_tuple_iterator_next st.typeIs F.entry_tuple_iterator_next ?_ (F.args_tuple_iterator_next_1 _)))
 refine wpAny_bind (wpAny_of_eq (a:=(Value.ref it,[])) rfl (wpAny_bind (wpAny_field ei di (x:=.ref l) rfl ?_)))
 have nn:(Value.ref l == Value.none)=false:=rfl
 dsimp only
 rw[nn,if_neg Bool.false_ne_true]
 refine wpAny_bind (wpAny_field ei di (x:=.int i 0) rfl (wpAny_bind (wpAny_seqItems et dt ?_)))
 dsimp only
 rw[Int.toNat_natCast]
 cases q:its[i]? with
 | some x =>
  refine wpAny_bind (wpAny_setField ei di (by simp) (wpAny_pure ⟨x,rfl,wpAny_pure (hs x _ q ?_ (new 1 _))⟩))
  refine⟨_,Heap.get?_update_self _ ei (Obj.isFreed_of_fields (Obj.data_mapFields di _)),?_,?_⟩
  ·rw[Obj.cls_mapFields];exact ci
  ·rw[Obj.data_mapFields di]
   simp[rawInt]
 | none =>
  obtain⟨hA,f⟩:=hn q
  refine wpAny_bind (wpAny_rule (wpAny_bind (wpAny_setField ei di (by simp) (wpAny_bind (m:=newExc _ _) ?_))))
  unfold newExc newTuple
  refine wpAny_bind (wpAny_newObj_type (wpAny_bind (m:=firstArgMember _ _) (wpAny_of_eq (a:=Value.none) rfl (wpAny_newObj_type (wpAny_raiseNew_none hA (f _ _ (((new 0 _).extBut.push _).push _) ⟨_,Heap.get?_push_size _ rfl,rfl⟩)) (by size_fits)))) (by size_fits))
theorem e0s (a it:Addr):Src P w K (Itt K a) it (λ i h=>h.IsTupleIter it a i) where
 obj:=λ i h st=>by
  obtain⟨o,e,c,d⟩:=st
  exact⟨o,e,λ v z=>by rw[d] at z;cases z⟩
 keep:=λ i h h' st k=>st.at λ o e=>k o e
 item:=by
  intro X hP hw hK A i pins s σ H Q E I st hg hQ
  subst hP hw hK
  obtain⟨xs,x,hq,hx⟩:=hg
  obtain⟨its,rv,p,hz⟩:=I.tuple hq
  obtain⟨u,hu,ru⟩:=rv.get hx
  have hu':its.toArray[i]?=some u:=by simpa using hu
  refine b8m st (show s.heap.IsTuple a its.toArray from p) (λ y g hy st' sb=>?_) (λ z=>by rw[hu'] at z;cases z)
  have e:u=y:=Option.some.inj (hu'.symm.trans hy)
  subst e
  exact hQ x u g s.toks ru ⟨rfl,λ ys hy=>by rw[I.tuple_inj hy hq];exact hx⟩ st' sb
 done:=by
  intro X hP hw hK A hA i pins s σ H Q E I st hg hE
  subst hP hw hK
  obtain⟨xs,hq,hx⟩:=hg
  obtain⟨its,rv,p,hz⟩:=I.tuple hq
  have hl:=rv.length
  have hn:its.toArray[i]?=none:=by simp;omega
  exact b8m st (show s.heap.IsTuple a its.toArray from p) (λ y g hy _ _=>by rw[hn] at hy;cases hy) λ _=>⟨hA,hE⟩
theorem c8l {A:Around} {E:Value->Shared->Prop} {s:Shared} {z TI TO i1 i2:Addr} {Q:Fin->Shared->Prop} (hz:IsZip s.heap z TI TO .none) (hTI:IsPair s.heap TI (.ref i1) (.ref i2))
  (h:∀ g1,IsZip g1 z TI TO .ellipsis->Heap.SameBut z s.heap g1 ->
   wpAny (model P w) A (Builtin.SmallTypes.nextOf (.ref i1)) (λ x s2=>∃ a b,IsPair s2.heap TO a b/\∀ g3,IsPair g3 TO x b->Heap.SameBut TO s2.heap g3 ->
    wpAny (model P w) A (Builtin.SmallTypes.nextOf (.ref i2)) (λ y s4=>IsPair s4.heap TO x b/\∀ g5,IsPair g5 TO x y->Heap.SameBut TO s4.heap g5->IsZip g5 z TI TO .ellipsis /\
      ∀ g7 g8,Heap.SameBut z (g5.push {cls:=.type "tuple",data:=.seq #[x,y]}) g7->Heap.SameBut z g7 g8->IsZip g8 z TI TO (rawInt g5.objs.size)->Q (.done (.ret (.ref g5.objs.size))) {s4 with heap:=g8})
     (λ e s4=>IsZip s4.heap z TI TO .ellipsis/\∀ g5,Heap.SameBut z s4.heap g5->E e {s4 with heap:=g5}) {s2 with heap:=g3})
    (λ e s2=>IsZip s2.heap z TI TO .ellipsis/\∀ g3,Heap.SameBut z s2.heap g3->E e {s2 with heap:=g3}) {s with heap:=g1}) :
  wpAny (model P w) A (Builtin.«zip.__next__» ⟨[.ref z],[]⟩) Q E s:=by
 have free:wpAny (model P w) A (Builtin.SmallTypes.ownedTupleIsFree (.ref z)) (λ b s'=>b=true/\s'=s) E s:=by
  unfold Builtin.SmallTypes.ownedTupleIsFree
  exact wpAny_bind (wpAny_field hz rfl rfl (wpAny_pure ⟨rfl,rfl⟩))
 refine wpAny_bind (wpAny_of_eq (a:=(Value.ref z,[])) rfl ?_)
 refine wpAny_bind (wpAny_field hz rfl (x:=.bool false) rfl (wpAny_bind (wpAny_field hz rfl (x:=.ref TI) rfl (wpAny_bind (wpAny_seqItems hTI rfl (wpAny_bind (thn free λ b s' hb=>?_)))))))
 obtain⟨rfl,rfl⟩:=hb
 refine wpAny_bind (wpAny_rule (wpAny_bind (wpAny_field hz rfl (x:=.ref TO) rfl (wpAny_bind (wpAny_setField_rec hz (by simp) λ g1 q1 k1=>wpAny_bind ?_)))))
 simp only [List.zipIdx_cons,List.zipIdx_nil,List.forIn_cons,List.forIn_nil]
 refine wpAny_bind (wpAny_bind (wpAny_onRaise (wpAny_bind (wpAny_mono (h g1 q1 k1) (λ x s2 d1=>?_) λ e s2 ⟨q2,f2⟩=>wpAny_setField_rec q2 (by simp) λ g3 _ k3=>f2 g3 k3))))
 obtain⟨a,b,t2,d1⟩:=d1
 refine wpAny_pure (wpAny_bind (wpAny_seqItems t2 rfl (wpAny_bind (wpAny_updateSeq_pair t2 λ g3 t3 k3=>wpAny_bind (wpAny_letGo (wpAny_pure (wpAny_bind (wpAny_bind (wpAny_onRaise ?_)))))))))
 refine wpAny_bind (wpAny_mono (d1 g3 t3 k3) (λ y s4 d2=>?_) λ e s4 ⟨q4,f4⟩=>wpAny_setField_rec q4 (by simp) λ g5 _ k5=>f4 g5 k5)
 obtain⟨t4,d2⟩:=d2
 refine wpAny_pure (wpAny_bind (wpAny_seqItems t4 rfl (wpAny_bind (wpAny_updateSeq_pair t4 λ g5 t5 k5=>wpAny_bind (wpAny_letGo (wpAny_pure (wpAny_pure (wpAny_bind (wpAny_seqItems t5 rfl (wpAny_bind (wpAny_newTuple ?_ (by show 2<=sizeLine;decide))))))))))))
 obtain⟨q5,d2⟩:=d2 g5 t5 k5
 have out:wpAny (model P w) A (Builtin.SmallTypes.ownedTupleHandOut (.ref z) (.ref g5.objs.size)) (λ _ s'=>Q (.done (.ret (.ref g5.objs.size))) s') E {s4 with heap:=g5.push {cls:=.type "tuple",data:=.seq #[x,y]}}:=by
  unfold Builtin.SmallTypes.ownedTupleHandOut
  refine wpAny_bind (wpAny_setField_rec (Heap.get?_push_of_some _ q5) (by simp) λ g7 q7 k7=>wpAny_setField_rec q7 (by simp) λ g8 q8 k8=>d2 g7 g8 k7 k8 ?_)
  exact q8
 exact wpAny_bind (thn out λ _ s' q=>wpAny_pure q)
def ItZ (J1 J2:It):It:=⟨λ i H=>J1.go i H/\J2.go i H,λ i H v H'=>∃ p x y,J1.yld i H x H/\J2.yld i H y H/\v=.ref p/\H p=none/\H'=upd H p (.tup [x,y]),λ i H=>J1.stop i H\/(J1.go i H/\J2.stop i H)⟩
structure e7o (z TI TO i1 i2:Addr):Prop where
 TIz:TI≠z
 TOz:TO≠z
 i1z:i1≠z
 i2z:i2≠z
 TITO:TI≠TO
 TIi1:TI≠i1
 TIi2:TI≠i2
 TOi1:TO≠i1
 TOi2:TO≠i2
 i12:i1≠i2
theorem e3z (n:Nat):e7o (n+4) (n+2) (n+3) n (n+1):=by
 constructor<;>(intro h;first | exact absurd (show n+2=n+4 from h) (by omega) | exact absurd (show n+3=n+4 from h) (by omega) | exact absurd (show n=n+4 from h) (by omega) | exact absurd (show n+1=n+4 from h) (by omega) | exact absurd (show n+2=n+3 from h) (by omega) | exact absurd (show n+2=n from h) (by omega) | exact absurd (show n+2=n+1 from h) (by omega) | exact absurd (show n+3=n from h) (by omega) | exact absurd (show n+3=n+1 from h) (by omega) | exact absurd (show n=n+1 from h) (by omega))
theorem e3r {J1 J2:It} {z TI TO i1 i2:Addr} {st1 st2:Nat->Heap->Prop} (D:e7o z TI TO i1 i2) (S1:Src P w K J1 i1 st1) (S2:Src P w K J2 i2 st2) {elts:List Expr} {kk:Nat} {tpos:Pos} :
  e7n P w K (.Tuple elts kk tpos) (ItZ J1 J2) [z,TI,TO,i1,i2] z (λ i h=>IsZip h z TI TO .none/\IsPair h TI (.ref i1) (.ref i2)/\(∃ a b,IsPair h TO a b)/\st1 i h/\st2 i h) where
 mem:=by simp
 obj:=λ i h ⟨hz,hTI,⟨a,b,hTO⟩,h1,h2⟩ c hc=>by
  simp only [List.mem_cons,List.not_mem_nil,or_false] at hc
  rcases hc with e | e | e | e | e
  ·rw[e];exact⟨_,hz,λ v z=>by simp at z⟩
  ·rw[e];exact⟨_,hTI,λ v z=>by simp at z⟩
  ·rw[e];exact⟨_,hTO,λ v z=>by simp at z⟩
  ·rw[e];exact S1.obj i h h1
  ·rw[e];exact S2.obj i h h2
 keep:=λ i h h' ⟨hz,hTI,⟨a,b,hTO⟩,h1,h2⟩ k=>⟨k z (by simp) _ hz,k TI (by simp) _ hTI,⟨a,b,k TO (by simp) _ hTO⟩,S1.keep i h h' h1 (k i1 (by simp)),S2.keep i h h' h2 (k i2 (by simp))⟩
 item:=by
  intro X hP hw hK hc i pins s σ H E I hf st hg
  subst hP hw hK
  obtain⟨hz,hTI,⟨a,b,hTO⟩,h1,h2⟩:=st
  have ty:s.TypeIs (.ref z) "zip":=⟨_,hz,rfl⟩
  have tz:∀ {s':Shared} {H':Hp} {h':Heap} {t':Nat} {it:Addr},it∈[z,TI,TO,i1,i2]->H' it=none->Inv X pins σ H' s'->Heap.SameBut it s'.heap h'->Inv X pins σ H' {s' with heap:=h',toks:=t'}:=λ {s' H' h' t' it} hm hn I' sb=>by
   obtain⟨f0,f1,f2,f3,f4,f5⟩:=hf it hm
   exact I'.turned (λ b o hb e=>(sb.2 b hb).trans e) hn f1 f3 f4 f5
  have fz:=(hf z (by simp)).1
  refine wpAny_bind (wpAny_attempt (wpAny_callSpecial?_slot (name:=Str.ofString "__next__") ty F.slot_zip_next (wpAny_call_entry F.slot_zip_next ty F.entry_zip_next (c8l hz hTI λ u1 q1 k1=>?_) (F.args_zip_next_1 _))))
  have I1:Inv X pins σ H {s with heap:=u1}:=tz (t':=s.toks) (by simp) fz I k1
  refine S1.item X rfl rfl rfl _ i pins {s with heap:=u1} σ H _ _ I1 (S1.keep i _ _ h1 λ o e=>k1.extBut _ _ D.i1z e) hg.1 λ x ux u2 t2 rx y1 st1' k2=>⟨a,b,k2.extBut _ _ D.TOi1 (k1.extBut _ _ D.TOz hTO),λ u3 p3 k3=>?_⟩
  have I2:Inv X pins σ H {s with heap:=u2,toks:=t2}:=tz (it:=i1) (s':={s with heap:=u1}) (by simp) (hf i1 (by simp)).1 I1 k2
  have I3:Inv X pins σ H {s with heap:=u3,toks:=t2}:=tz (it:=TO) (s':={s with heap:=u2,toks:=t2}) (by simp) (hf TO (by simp)).1 I2 k3
  refine S2.item X rfl rfl rfl _ i pins {s with heap:=u3,toks:=t2} σ H _ _ I3 (S2.keep i _ _ h2 λ o e=>k3.extBut _ _ D.TOi2.symm (k2.extBut _ _ D.i12.symm (k1.extBut _ _ D.i2z e))) hg.2 λ y uy u4 t4 ry y2 st2' k4=>⟨k4.extBut _ _ D.TOi2 p3,λ u5 p5 k5=>?_⟩
  have I4:Inv X pins σ H {s with heap:=u4,toks:=t4}:=tz (it:=i2) (s':={s with heap:=u3,toks:=t2}) (by simp) (hf i2 (by simp)).1 I3 k4
  have I5:Inv X pins σ H {s with heap:=u5,toks:=t4}:=tz (it:=TO) (s':={s with heap:=u4,toks:=t4}) (by simp) (hf TO (by simp)).1 I4 k5
  have all:∀ c o,c≠z->c≠TO->c≠i1->c≠i2->s.heap.get? c=some o->u5.get? c=some o:=λ c o n1 n2 n3 n4 e=>k5.extBut _ _ n2 (k4.extBut _ _ n4 (k3.extBut _ _ n2 (k2.extBut _ _ n3 (k1.extBut _ _ n1 e))))
  have q5:IsZip u5 z TI TO .ellipsis:=k5.extBut _ _ D.TOz.symm (k4.extBut _ _ D.i2z.symm (k3.extBut _ _ D.TOz.symm (k2.extBut _ _ D.i1z.symm q1)))
  refine⟨q5,λ u7 u8 k7 k8 q8=>⟨_,rfl,wpAny_pure ⟨_,rfl,wpAny_letOwnedTupleGo_zip q8 λ u9 q9 k9=>?_⟩⟩⟩
  have lt:∀ c∈[z,TI,TO,i1,i2],c < u5.objs.size:=λ c hc=>by
   simp only [List.mem_cons,List.not_mem_nil,or_false] at hc
   rcases hc with e | e | e | e | e
   ·rw[e];exact Heap.lt_size q5
   ·rw[e];exact Heap.lt_size (all _ _ D.TIz D.TITO D.TIi1 D.TIi2 hTI)
   ·rw[e];exact Heap.lt_size p5
   ·rw[e];obtain⟨o,eo,_⟩:=S1.obj _ _ st1';exact Heap.lt_size (k5.extBut _ _ D.TOi1.symm (k4.extBut _ _ D.i12 (k3.extBut _ _ D.TOi1.symm eo)))
   ·rw[e];obtain⟨o,eo,_⟩:=S2.obj _ _ st2';exact Heap.lt_size (k5.extBut _ _ D.TOi2.symm eo)
  have nT:u5.get? u5.objs.size=none:=Heap.get?_none_of_le (Nat.le_refl _)
  have I6:Inv X pins σ (upd H u5.objs.size (.tup [x,y])) {s with heap:=u5.push {cls:=.type "tuple",data:=.seq #[ux,uy]},toks:=t4} :=
   e6y (s:={s with heap:=u5,toks:=t4}) I5 (λ b u e=>Heap.get?_push_of_some _ e) nT ⟨by show 2<=sizeLine;decide,[ux,uy],.cons rx (.cons ry .nil),_,Heap.get?_push_size _ rfl,rfl,_,rfl⟩
  have nz:(upd H u5.objs.size (.tup [x,y])) z=none:=by rw[a0h (Nat.ne_of_lt (lt z (by simp)))];exact fz
  have I7:Inv X pins σ (upd H u5.objs.size (.tup [x,y])) {s with heap:=u7,toks:=t4}:=tz (it:=z) (s':={s with heap:=u5.push {cls:=.type "tuple",data:=.seq #[ux,uy]},toks:=t4}) (by simp) nz I6 k7
  have I8:Inv X pins σ (upd H u5.objs.size (.tup [x,y])) {s with heap:=u8,toks:=t4}:=tz (it:=z) (s':={s with heap:=u7,toks:=t4}) (by simp) nz I7 k8
  have I9:Inv X pins σ (upd H u5.objs.size (.tup [x,y])) {s with heap:=u9,toks:=t4}:=tz (it:=z) (s':={s with heap:=u8,toks:=t4}) (by simp) nz I8 k9
  have up:∀ c o,c≠z->u5.get? c=some o->u9.get? c=some o:=λ c o n e=>k9.extBut _ _ n (k8.extBut _ _ n (k7.extBut _ _ n (Heap.get?_push_of_some _ e)))
  refine⟨.ref u5.objs.size,_,I9,rfl,⟨u5.objs.size,x,y,y1,y2,rfl,b0s I5 nT,rfl⟩,⟨q9,up _ _ D.TIz (all _ _ D.TIz D.TITO D.TIi1 D.TIi2 hTI),⟨_,_,up _ _ D.TOz p5⟩,
   S1.keep _ _ _ st1' λ o e=>up _ o D.i1z (k5.extBut _ _ D.TOi1.symm (k4.extBut _ _ D.i12 (k3.extBut _ _ D.TOi1.symm e))),S2.keep _ _ _ st2' λ o e=>up _ o D.i2z (k5.extBut _ _ D.TOi2.symm e)⟩,λ c hc=>?_⟩
  rw[a0h (Nat.ne_of_lt (lt c hc))]
  exact(hf c hc).1
 done:=by
  intro X hP hw hK hc i pins s σ H E I hf st hg
  subst hP hw hK
  obtain⟨hz,hTI,⟨a,b,hTO⟩,h1,h2⟩:=st
  have hh:X.A.in1.handled=none:=I.ok.hd hc
  have ty:s.TypeIs (.ref z) "zip":=⟨_,hz,rfl⟩
  have tz:∀ {s':Shared} {h':Heap} {t':Nat} {it:Addr},it∈[z,TI,TO,i1,i2]->Inv X pins σ H s'->(∀ b o,b≠it->s'.heap.get? b=some o->h'.get? b=some o)->Inv X pins σ H {s' with heap:=h',toks:=t'}:=λ {s' h' t' it} hm I' sb=>by
   obtain⟨f0,f1,f2,f3,f4,f5⟩:=hf it hm
   exact I'.turned sb f0 f1 f3 f4 f5
  have same:∀ {it:Addr} {g h:Heap},Heap.SameBut it g h->∀ b o,b≠it->g.get? b=some o->h.get? b=some o:=λ sb b o hb e=>(sb.2 b hb).trans e
  refine wpAny_bind (wpAny_attempt (wpAny_callSpecial?_slot (name:=Str.ofString "__next__") ty F.slot_zip_next (wpAny_call_entry F.slot_zip_next ty F.entry_zip_next (c8l hz hTI λ u1 q1 k1=>?_) (F.args_zip_next_1 _))))
  have I1:Inv X pins σ H {s with heap:=u1}:=tz (it:=z) (t':=s.toks) (by simp) I (same k1)
  have st1:=S1.keep i _ _ h1 λ o e=>k1.extBut _ _ D.i1z e
  have ended:∀ {g:Heap} {tk:Nat} {e:Addr},Inv X pins σ H {s with heap:=g,toks:=tk}->IsZip g z TI TO .ellipsis->(∃ o,g.get? e=some o/\o.cls=.type "StopIteration")->IsZip g z TI TO .ellipsis/\∀ g5,Heap.SameBut z g g5 ->
    wpAny (model X.prog X.w) X.A ((do if <- isInstance (.ref e) (.type "StopIteration") then return none else throw (.ref e)):Sem (Option Value)) (λ r s1=>r=none/\Inv X pins σ H s1) E {s with heap:=g5,toks:=tk}:=λ {g tk e} I' q ⟨o,eo,co⟩=>⟨q,λ g5 k5=>by
   have ne:e≠z:=λ y=>by rw[y,q] at eo;cases eo;simp at co
   exact wpAny_bind (wpAny_isInstance (T:="StopIteration") (b:=true) ⟨o,k5.extBut _ _ ne eo,co⟩ isSubtype_stop (wpAny_pure ⟨rfl,tz (it:=z) (s':={s with heap:=g,toks:=tk}) (by simp) I' (same k5)⟩))⟩
  rcases hg with e1 | ⟨g1,e2⟩
  ·exact S1.done X rfl rfl rfl _ hh i pins {s with heap:=u1} σ H _ _ I1 st1 e1 λ u2 e k2 he=>ended (tk:=s.toks) (tz (it:=i1) (s':={s with heap:=u1}) (by simp) I1 k2) (k2 _ _ D.i1z.symm q1) he
  ·refine S1.item X rfl rfl rfl _ i pins {s with heap:=u1} σ H _ _ I1 st1 g1 λ x ux u2 t2 rx y1 st1' k2=>⟨a,b,k2.extBut _ _ D.TOi1 (k1.extBut _ _ D.TOz hTO),λ u3 p3 k3=>?_⟩
   have I2:Inv X pins σ H {s with heap:=u2,toks:=t2}:=tz (it:=i1) (s':={s with heap:=u1}) (by simp) I1 (same k2)
   have I3:Inv X pins σ H {s with heap:=u3,toks:=t2}:=tz (it:=TO) (s':={s with heap:=u2,toks:=t2}) (by simp) I2 (same k3)
   refine S2.done X rfl rfl rfl _ hh i pins {s with heap:=u3,toks:=t2} σ H _ _ I3 (S2.keep i _ _ h2 λ o e=>k3.extBut _ _ D.TOi2.symm (k2.extBut _ _ D.i12.symm (k1.extBut _ _ D.i2z e))) e2 λ u4 e k4 he=>?_
   exact ended (tk:=t2) (tz (it:=i2) (s':={s with heap:=u3,toks:=t2}) (by simp) I3 k4) (k4 _ _ D.i2z.symm (k3.extBut _ _ D.TOz.symm (k2.extBut _ _ D.i1z.symm q1))) he
 self:=λ _ _ _ _ _ st h=>wpAny_pyIter_zip st.1 h
inductive d4r (h:Heap):Value->Obj->Prop where
 | list {l:Addr} {xs:Array Value} (e:h.IsList l xs):d4r h (.ref l) {cls:=.type "list_iterator",data:=.fields #[.ref l,.int 0 0]}
 | tup {l:Addr} {xs:Array Value} (e:h.IsTuple l xs):d4r h (.ref l) {cls:=.type "tuple_iterator",data:=.fields #[.ref l,.int 0 0]}
 | str (y:Str) (t:Tok):d4r h (.str y t) (d4f y t)
theorem d4r.keep {h h':Heap} {u:Value} {o:Obj} (x:d4r h u o) (k:∀ b o,h.get? b=some o->h'.get? b=some o):d4r h' u o:=by
 cases x with
 | list e=>exact .list (e.at λ o q=>k _ o q)
 | tup e=>obtain⟨o,e,r⟩:=e;exact .tup ⟨o,k _ _ e,r⟩
 | str y t=>exact .str y t
theorem c4o {A:Around} {E:Value->Shared->Prop} {s:Shared} {u:Value} {o:Obj} {Q:Value->Shared->Prop} (x:d4r s.heap u o) (h:Q (.ref s.heap.objs.size) {s with heap:=s.heap.push o}):wpAny (model P w) A (pyIter u) Q E s:=by
 cases x with
 | list e=>exact wpAny_pyIter_list e h
 | tup e=>exact wpAny_pyIter_tuple e h
 | str y t=>exact d1l h
abbrev zA (h:Heap) (o1:Obj):Heap:=h.push o1
abbrev zB (h:Heap) (o1 o2:Obj):Heap:=(zA h o1).push o2
abbrev zC (h:Heap) (o1 o2:Obj):Heap:=(zB h o1 o2).push {cls:=.type "tuple",data:=.seq #[.ref h.objs.size,.ref (zA h o1).objs.size]}
abbrev zD (h:Heap) (o1 o2:Obj):Heap:=(zC h o1 o2).push {cls:=.type "tuple",data:=.seq #[.none,.none]}
abbrev zE (h:Heap) (o1 o2:Obj):Heap:=(zD h o1 o2).push {cls:=.type "zip",data:=.fields #[.none,.bool false,.bool false,.ref (zB h o1 o2).objs.size,.ref (zC h o1 o2).objs.size]}
structure e4w (h g:Heap) (o1 o2:Obj) (z TI TO i1 i2:Addr):Prop where
 zip:IsZip g z TI TO .none
 ins:IsPair g TI (.ref i1) (.ref i2)
 outs:IsPair g TO .none .none
 one:g.get? i1=some o1
 two:g.get? i2=some o2
 keep:∀ c o,h.get? c=some o->g.get? c=some o
 young:∀ c∈[z,TI,TO,i1,i2],h.objs.size<=c
 ap:e7o z TI TO i1 i2
theorem e4s (h:Heap) {o1 o2:Obj} (n1:o1.isFreed=false) (n2:o2.isFreed=false):e4w h (zE h o1 o2) o1 o2 (zD h o1 o2).objs.size (zB h o1 o2).objs.size (zC h o1 o2).objs.size h.objs.size (zA h o1).objs.size:=by
 have up:∀ {g:Heap} {a:Addr} {o u:Obj},g.get? a=some o->(g.push u).get? a=some o:=λ e=>Heap.get?_push_of_some _ e
 have at_:∀ {g:Heap} {o:Obj},o.isFreed=false->(g.push o).get? g.objs.size=some o:=λ e=>Heap.get?_push_size _ e
 have sA:(zA h o1).objs.size=h.objs.size+1:=Heap.size_push ..
 have sB:(zB h o1 o2).objs.size=h.objs.size+2:=by rw[Heap.size_push,sA]
 have sC:(zC h o1 o2).objs.size=h.objs.size+3:=by rw[Heap.size_push,sB]
 have sD:(zD h o1 o2).objs.size=h.objs.size+4:=by rw[Heap.size_push,sC]
 refine⟨at_ rfl,up (up (at_ rfl)),up (at_ rfl),up (up (up (up (at_ n1)))),up (up (up (at_ n2))),λ c o e=>up (up (up (up (up e)))),λ c hc=>?_,?_⟩
 ·rw[sA,sB,sC,sD] at hc
  simp only [List.mem_cons,List.not_mem_nil,or_false] at hc
  rcases hc with e | e | e | e | e<;>(rw[e];first | exact Nat.le_add_right _ _ | exact Nat.le_refl _)
 ·rw[sA,sB,sC,sD]
  exact e3z _
theorem c7f (u1 u2:Value) (o1 o2:Obj) :
  Meets (Builtin.«zip.__new__» ⟨[.type "zip",u1,u2],[]⟩) (λ _ R s=>d4r s.heap u1 o1/\d4r s.heap u2 o2/\R (.ok (.ret (.ref (zD s.heap o1 o2).objs.size))) {s with heap:=zE s.heap o1 o2}) :=
 .of_wp λ prog w A R s ⟨x1,x2,r⟩=>by
  obtain⟨hp,g,d,tk,os⟩:=s
  have hsub:=sub_zip
  have L1:d4r (Shared.heap ⟨hp,g,d,tk,os⟩) u1 o1:=x1
  have L2:d4r (Shared.heap ⟨hp.push o1,g,d,tk,os⟩) u2 o2:=x2.keep λ b o e=>Heap.get?_push_of_some _ e
  wp_walk using c4o L1,c4o L2
  exact⟨_,rfl,r⟩
theorem c9i {A:Around} {E:Value->Shared->Prop} {s:Shared} {u1 u2:Value} {o1 o2:Obj} {Q:Value->Shared->Prop} (x1:d4r s.heap u1 o1) (x2:d4r s.heap u2 o2) (n1:o1.isFreed=false) (n2:o2.isFreed=false)
  (k:∀ g z TI TO i1 i2,e4w s.heap g o1 o2 z TI TO i1 i2->Q (.ref z) {s with heap:=g}):wpAny (model P w) A (call (.type "zip") [u1,u2]) Q E s :=
 callType_new F.called_zip (by decide) (F.typeCall_zip_2 u1 u2) (F.newCall_zip_2 u1 u2) (λ obj=>F.args_object_init_3 obj u1 u2) F.entry_zip_new (c7f u1 u2 o1 o2) ⟨x1,x2,⟨_,(e4s s.heap n1 n2).zip,rfl⟩,k _ _ _ _ _ _ (e4s s.heap n1 n2)⟩
end
inductive d6i (K:PySem.W.Frag) (H:Hp):V->It->Prop where
 | list {a:Addr} {xs:List V} (h:SqL K H a xs):d6i K H (.ref a) (Itl K a)
 | tup {a:Addr} {xs:List V} (h:SqT K H a xs):d6i K H (.ref a) (Itt K a)
 | str (y:Str):d6i K H (.str y) (Itf (b8t y))
section
variable {X:Cx}
theorem e5f {pins:List (Addr×Obj)} {σ:L2.St} {H:Hp} {s:Shared} {v:V} {J:It} {u:Value} (I:Inv X pins σ H s) (x:d6i X.K H v J) (r:a3n v u):∃ o,d4r s.heap u o/\o.isFreed=false/\∀ it h',h'.get? it=some o->∃ st,Src X.prog X.w X.K J it st/\st 0 h':=by
 cases x with
 | list h =>
  cases r
  obtain⟨its,rv,p,hz⟩:=I.list h
  exact⟨_,.list p.isList,rfl,λ it h' e=>⟨_,e2h _ it,_,e,rfl,rfl⟩⟩
 | tup h =>
  cases r
  obtain⟨its,rv,p,hz⟩:=I.tuple h
  exact⟨_,.tup (show s.heap.IsTuple _ its.toArray from p),rfl,λ it h' e=>⟨_,e0s _ it,_,e,rfl,rfl⟩⟩
 | str y =>
  obtain⟨t,rfl⟩:=r
  exact⟨_,.str y t,rfl,λ it h' e=>⟨_,e8a y t it,_,e,rfl,rfl⟩⟩
def f4p (K:PySem.W.Frag) (ta:TA):TI:=λ σ H R=>ta σ H λ vs H1=>∃ u v J1 J2,vs=[u,v]/\d6i K H1 u J1/\d6i K H1 v J2/\R (ItZ J1 J2) H1
theorem e9m {a b:Expr} {ta:TA} {p pos:Pos} {elts:List Expr} {kk:Nat} {tpos:Pos} (hg:Gl X "zip") (hm:X.mg "zip"=none) (ha:PA X [a,b] ta) (hs:starEach [a,b] X.env=[(false,eval a X.env),(false,eval b X.env)]:=by rfl) (hs2:starEach [b] X.env=[(false,eval b X.env)]:=by rfl) :
  PI X (.Tuple elts kk tpos) (.Call (.Name "zip" p) [a,b] [] pos) (f4p X.K ta):=by
 constructor;intro pins s σ H R I h
 refine Call_ (c4p I hg hm boot_zip (PyProof.Rows.callWith_type1 (thn (ha pos pins s σ H _ I h) λ us s1 ⟨vs,H1,I1,r1,q1⟩=>?_) (by rw[hs,hs2]) (by rw[hs2];rfl)))
 obtain⟨x,y,J1,J2,rfl,x1,x2,q⟩:=q1
 obtain⟨u,w',rfl,ru,rw'⟩:=e2u r1
 obtain⟨o1,v1,n1,k1⟩:=e5f I1 x1 ru
 obtain⟨o2,v2,n2,k2⟩:=e5f I1 x2 rw'
 refine c9i v1 v2 n1 n2 λ g z TI TO i1 i2 Z=>?_
 obtain⟨st1,S1,t1⟩:=k1 _ _ Z.one
 obtain⟨st2,S2,t2⟩:=k2 _ _ Z.two
 have I2:Inv X pins σ H1 {s1 with heap:=g}:=I1.kept (t':=s1.toks) Z.keep
 exact wpAny_pyIter_zip (s:={s1 with heap:=g}) Z.zip ⟨z,[z,TI,TO,i1,i2],_,ItZ J1 J2,H1,rfl,I2,e3r Z.ap S1 S2,⟨Z.zip,Z.ins,⟨_,_,Z.outs⟩,t1,t2⟩,λ b hb=>I1.fpOk (Z.young b hb) (I1.hok.fresh (Z.young b hb)),q⟩
end
structure e6o (J:It) (H:Hp) (xs:List V):Prop where
 go:∀ i,i < xs.length->J.go i H
 stop:∀ i,xs.length<=i->J.stop i H
 yld:∀ i x H',J.yld i H x H'->xs[i]?=some x
theorem a2s {K:PySem.W.Frag} {H:Hp} {a:Addr} {xs:List V} (h:SqL K H a xs):e6o (Itl K a) H xs:=⟨λ i hi=>⟨xs,xs[i],h,by simp[hi]⟩,λ i hi=>⟨xs,h,hi⟩,λ i x H' y=>y.2 xs h⟩
theorem e7s {J1 J2:It} {xs ys:List V} {g:TG} {tb:TS} {D:c4f} {σ:L2.St} {H:Hp} (Pv:Nat->L2.St->Hp->Prop) (h0:Pv 0 σ H) (hl:∀ i σ H,Pv i σ H->e6o J1 H xs/\e6o J2 H ys)
  (hs:∀ i x y σ H p,xs[i]?=some x->ys[i]?=some y->Pv i σ H->H p=none->g (.ref p) σ (upd H p (.tup [x,y])) λ σ2 H2=>tb {D with nx:=Pv (i+1),ct:=Pv (i+1),bk:=D.nx} σ2 H2) (hd:∀ σ H,Pv (min xs.length ys.length) σ H->D.nx σ H) :
  ∃ W:Nat->Nat->L2.St->Hp->Prop,(∃ m,W 0 m σ H)/\∀ i m σ H,W i m σ H ->
   ((ItZ J1 J2).stop i H/\D.nx σ H)\/((ItZ J1 J2).go i H/\∃ N:L2.St->Hp->Prop,(∀ σ' H',N σ' H'->∃ m',m' < m/\W (i+1) m' σ' H')/\∀ x H',(ItZ J1 J2).yld i H x H'->g x σ H' λ σ2 H2=>tb {D with nx:=N,ct:=N,bk:=D.nx} σ2 H2):=by
 refine⟨λ i m σ H=>m=min xs.length ys.length - i/\i<=min xs.length ys.length/\Pv i σ H,⟨min xs.length ys.length,by simp,Nat.zero_le _,h0⟩,?_⟩
 rintro i m σ H ⟨rfl,hi,p⟩
 obtain⟨G1,G2⟩:=hl i σ H p
 by_cases hlt:i < min xs.length ys.length
 ·refine .inr ⟨⟨G1.go i (by omega),G2.go i (by omega)⟩,Pv (i+1),λ σ' H' p'=>⟨min xs.length ys.length - (i+1),by omega,rfl,hlt,p'⟩,λ v H' y=>?_⟩
  obtain⟨q,x,y,y1,y2,rfl,hn,rfl⟩:=y
  exact hs i x y σ H q (G1.yld i x _ y1) (G2.yld i y _ y2) p hn
 ·have e:i=min xs.length ys.length:=by omega
  subst e
  refine .inl ⟨?_,hd σ H p⟩
  by_cases h:xs.length<=ys.length
  ·exact .inl (G1.stop _ (by omega))
  ·exact .inr ⟨G1.go _ (by omega),G2.stop _ (by omega)⟩
end My
namespace My
open PySem PySem.Spec PyProof.Rows L2 PySem.NumText
def e8n (n:Nat) (x:Str):Prop:=x.length<=n/\∀ c∈x.cps.toList,c < 16 ^ 8
section
variable {X:Cx} {K:PySem.W.Frag}
theorem c8k (hK:X.K=K):b7n X (.builtin "isinstance") (λ xs H Q=>∃ a C b c,xs=[V.ref a,c]/\H a=some (e5x a C)/\e1q K C/\((∃ D,c=V.ref D/\PySem.W.kitOne K (.ref C) (.ref D)=some b)\/∃ T,c=V.ty T/\PySem.W.kitOne K (.ref C) (.type T)=some b)/\Q (.bl b) H):=by
 subst hK
 exact e2a
end
end My
namespace My
open PySem PySem.Spec PyProof.Rows L2
section
variable {X:Cx} {pins:List (Addr×Obj)} {σ:L2.St} {H:Hp} {s:Shared} {scope:Scope} {N:List Str} {target iter elt:Expr} {pos:Pos} {g:TG} {te:TE}
theorem c4c {s':Shared} {H':Hp} {fp:List Addr} {C:Addr} (I:Inv X pins σ H s) (hf:∀ b∈fp,d5e X pins H b) (os:s'.os=s.os) (bare:AllBare s'.gens) (un:Un (frs X.stack) fp H H' s.heap s'.heap) (hok:HOk X.prog X.w H' s'.heap) (nC:H' C=none) (hC:s.heap.objs.size<=C) :
  Inv X pins σ H' s'/\d5e X pins H' C :=
 ⟨I.call' os un hok bare λ b hb=>let ⟨_,f1,_,f3,f4,f5⟩:=hf b hb;⟨f3,f1,f4,f5⟩,I.fpOk hC nC⟩
theorem d8j {H':Hp} {C:Addr} {h':Heap} (I:Inv X pins σ H' s) (f:d5e X pins H' C) (k:Heap.SameBut C s.heap h'):Inv X pins σ H' {s with heap:=h'} :=
 let ⟨f0,f1,_,f3,f4,f5⟩:=f
 I.turned (t':=s.toks) (λ b o hb e=>(k.2 b hb).trans e) f0 f1 f3 f4 f5
end
end My
namespace My
open PySem PySem.Spec PyProof.Rows L2 PySem.Builtin.Str
theorem e1a {P:Program} {w:World} {X:Cx}:d0f (CXW P w) X (λ _ _ _=>False):=λ _ _ _ _ _ _ _ h=>by
 obtain⟨_,_,_,_,_,_,_,_,_,_,_,_,_,_,_,_,z⟩:=h
 exact z.elim
end My
namespace My
open PySem PySem.Spec PyProof.Rows L2
theorem c2j {X:Cx} {K:PySem.W.Frag} {es:List Expr} {k:Nat} {t:TGs} {n:Nat} {pos:Pos} (hK:X.K=K) (hc:X.calm=true) (h:PGs X es t) (hn:(assignEach es X.env).length=n:=by rfl) (hst:(assignEach es X.env).findIdx? (·.1)=none:=by rfl):PG X (.Tuple es k pos) (f3m K n t):=by
 subst hK
 exact b1j hc h hn hst
end My
namespace My
open PySem PySem.Spec PyProof.Rows L2
def d3p (a C:Addr) (d:Option Addr) (h:Heap):Prop:=∃ o,h.get? a=some o/\o.cls=.ref C/\o.dict=d/\∃ vs t0,o.data=.fields vs/\vs[0]?=some (.ref t0)/\vs[1]?=some .none/\vs[2]?=some .none
abbrev e8w (a C dx:Addr) (h:Heap):Prop:=c9t a C (some dx) h
section
variable {P:Program} {w:World} {H:Hp} {h:Heap} {a C dx:Addr} {fs:List (Str×V)}
theorem d3p.any {h:Heap} (e:d3p a C (some dx) h):e8w a C dx h:=let ⟨o,q,c,d,vs,t0,x,_⟩:=e;⟨o,q,c,by unfold PySem.W.notCls;rw[x],d⟩
end
end My
namespace My
open PySem PySem.Spec PyProof.Rows L2
def del (H:Hp) (a:Addr):Hp:=λ b=>if b=a then none else H b
section
variable {P:Program} {w:World} {K:PySem.W.Frag} {mg:Str->Option Value} {base:Heap} {N:List Str} {qual:Str} {scope:Scope} {f:Addr} {cd:Value} {A:Around} {outer:List Env} {s₀:Shared} {H₀:Hp} {E:XK}
 {pins:List (Addr×Obj)} {σ:L2.St} {H H2:Hp} {s s2:Shared} {h':Heap} {ea C:Addr} {d:Option Addr}
end
end My
namespace My
open PySem PySem.Spec PyProof.Rows L2
section
variable {X:Cx} {K:PySem.W.Frag}
theorem c9t.is {a C:Addr} {d:Option Addr} {h:Heap} (x:c9t a C d h):d6z a C h:=let ⟨o,e,c,_⟩:=x;⟨o,e,c⟩
theorem d3p.is {a C:Addr} {d:Option Addr} {h:Heap} (x:d3p a C d h):d6z a C h:=let ⟨o,e,c,_⟩:=x;⟨o,e,c⟩
end
end My
namespace My
open PySem PySem.Spec PyProof.Rows L2
def a5s (cells:List (Str×Addr)):List (Str×NameKind)->List (Str×Addr)->List (Str×Addr)
 | [],acc=>acc
 | (n,k)::r,acc=>if (k == NameKind.free)=true then a5s cells r ((n,(cells.lookup n).getD 0)::acc) else a5s cells r acc
theorem d5y {scope:Scope} {env:Env} (h:∀ q∈scope.names,q.2=.free->∃ c,env.cells.lookup q.1=some c):closureFor scope env=pure (a5s env.cells scope.names []):=by
 simp only [closureFor]
 generalize ([]:List (Str×Addr))=acc
 revert h
 generalize scope.names=names
 intro h
 induction names generalizing acc with
 | nil=>rfl
 | cons q r ih =>
  obtain⟨n,k⟩:=q
  rw[List.forIn_cons]
  by_cases hk:(k == NameKind.free)=true
  ·obtain⟨c,hc⟩:=h (n,k) List.mem_cons_self (by simpa using hk)
   have e:cellOf env n=pure c:=by simp only [cellOf,hc]
   simp only [a5s,hk,if_true,e,hc,Option.getD_some,pure_bind]
   exact ih _ λ q hq=>h q (List.mem_cons_of_mem _ hq)
  ·simp only [a5s,hk,if_false,pure_bind,Bool.false_eq_true]
   exact ih _ λ q hq=>h q (List.mem_cons_of_mem _ hq)
theorem b7w {cells:List (Str×Addr)}:∀ {names:List (Str×NameKind)} {acc:List (Str×Addr)},(∀ q∈names,q.2=.free->∃ c,cells.lookup q.1=some c)->(∀ x c,acc.lookup x=some c->cells.lookup x=some c)->∀ x c,(a5s cells names acc).lookup x=some c->cells.lookup x=some c
 | [],_,_,ha=>ha
 | (n,k)::r,acc,h,ha=>by
  intro x c e
  by_cases hk:(k == NameKind.free)=true
  ·obtain⟨d,hd⟩:=h (n,k) List.mem_cons_self (by simpa using hk)
   rw[a5s,if_pos hk] at e
   refine b7w (λ q hq=>h q (List.mem_cons_of_mem _ hq)) (λ y b q=>?_) x c e
   cases hy:y == n with
   | true =>
    rw[List.lookup_cons,hy] at q
    have ey:y=n:=by simpa using hy
    subst ey
    have hd':List.lookup y cells=some d:=hd
    rw[hd'] at q ⊢
    simpa using q
   | false =>
    rw[List.lookup_cons,hy] at q
    exact ha y b q
  ·rw[a5s,if_neg hk] at e
   exact b7w (λ q hq=>h q (List.mem_cons_of_mem _ hq)) ha x c e
theorem b3d {cells:List (Str×Addr)}:∀ {names:List (Str×NameKind)} {acc:List (Str×Addr)} {x:Str},((x,NameKind.free)∈names\/∃ c,acc.lookup x=some c)->∃ c,(a5s cells names acc).lookup x=some c
 | [],_,_,h=>h.elim (λ z=>by cases z) id
 | (n,k)::r,acc,x,h=>by
  by_cases hk:(k == NameKind.free)=true
  ·rw[a5s,if_pos hk]
   refine b3d ?_
   cases hx:x == n with
   | true=>exact .inr ⟨_,by rw[List.lookup_cons,hx]⟩
   | false =>
    rcases h with h | ⟨c,h⟩
    ·rcases List.mem_cons.mp h with z | z
     ·cases z
      simp at hx
     ·exact .inl z
    ·exact .inr ⟨c,by rw[List.lookup_cons,hx];exact h⟩
  ·rw[a5s,if_neg hk]
   refine b3d ?_
   rcases h with h | h
   ·rcases List.mem_cons.mp h with z | z
    ·cases z
     exact absurd rfl hk
    ·exact .inl z
   ·exact .inr h
theorem b1p {env:Env}:∀ {names:List (Str×NameKind)} {x:Str} {k':NameKind},(names.map λ (n,k)=>if (k == NameKind.free && env.scope.kind == .function && env.kindOf n == some .cell) then (n,NameKind.cell) else (n,k)).lookup x=some k' ->
  ∃ k,names.lookup x=some k/\(k'=k\/(k=.free/\k'=.cell))
 | [],_,_,h=>by simp at h
 | (n,k)::r,x,k',h=>by
  have ih:=@b1p env r x k'
  have h:List.lookup x ((if (k == NameKind.free && env.scope.kind == .function && env.kindOf n == some .cell)=true then (n,NameKind.cell) else (n,k))::_)=some k':=h
  cases hx:x == n with
  | true =>
   by_cases hc:(k == NameKind.free && env.scope.kind == .function && env.kindOf n == some .cell)=true
   ·rw[if_pos hc,List.lookup_cons,hx] at h
    cases h
    have hk:k=.free:=by
     simp only [Bool.and_eq_true] at hc
     simpa using hc.1.1
    exact⟨k,by rw[List.lookup_cons,hx],.inr ⟨hk,rfl⟩⟩
   ·rw[if_neg hc,List.lookup_cons,hx] at h
    cases h
    exact⟨k,by rw[List.lookup_cons,hx],.inl rfl⟩
  | false =>
   obtain⟨k2,e,q⟩:=ih (by
    by_cases hc:(k == NameKind.free && env.scope.kind == .function && env.kindOf n == some .cell)=true
    ·rw[if_pos hc,List.lookup_cons,hx] at h;exact h
    ·rw[if_neg hc,List.lookup_cons,hx] at h;exact h)
   exact⟨k2,by rw[List.lookup_cons,hx];exact e,q⟩
def a3b (X:Cx) (scope:Scope) (N:List Str) (cl:List (Str×Addr)) (C:Addr) (s₀:Shared) (H₀:Hp) (ex:List Addr):Cx :=
 {X with N:=N,s₀:=s₀,H₀:=H₀,env:=compEnvC scope cl C X.env,outer:=X.stack,stack:=X.stack,ex:=ex,fn:=λ _=>false,pn:=[],xe:=λ _ _=>False}
def c1v (σ:L2.St) (n:Nat) (js:List Nat):L2.St:=List.replicate n none++js.map λ j=>(σ[j]?).getD none
def e9i (ifs:List Expr) (env:Env):Sem Bool:=forIn ifs true λ c r=>if r=true then do let ok <- isTrue c env (eval c env);pure (ForInStep.yield ok) else pure (ForInStep.yield r)
structure f0a (X:Cx) (ifs:List Expr) (t:TT):Prop where
 run:∀ (pins:List (Addr×Obj)) (s:Shared) (σ:L2.St) (H:Hp) (Q:Bool->Hp->Prop),Inv X pins σ H s->t σ H Q->wpAny (model X.prog X.w) X.A (e9i ifs X.env) (TP X pins σ Q) X.xe s
def f4f:TT:=λ _ H Q=>Q true H
theorem a9r {X:Cx}:f0a X [] f4f:=⟨λ pins s σ H Q I h=>wpAny_tests_nil ⟨H,I,h⟩⟩
theorem c9j {X:Cx} {c:Expr} {t:TT} (h:PT X c t):f0a X [c] t:=⟨λ pins s σ H Q I q=>wpAny_tests_one (h pins s σ H Q I q)⟩
structure a3c (X:Cx) (scope:Scope) (fv:List Str) (js:List Nat):Prop where
 kind:scope.kind=.function
 cell:∀ q∈scope.names,q.2≠.cell
 names:∀ q∈scope.names,q.2=.local->scope.names.lookup q.1=some .local
 free:∀ q∈scope.names,q.2=.free->q.1∈fv
 out:∀ x∈fv,X.env.kindOf x=some .cell\/X.env.kindOf x=some .free
 at':js.map (λ j=>X.N[j]?)=fv.map some
 fr:∀ x∈fv,scope.names.lookup x=some .free
section
variable {X:Cx} {pins:List (Addr×Obj)} {σ:L2.St} {H:Hp} {s:Shared} {scope:Scope} {N:List Str} {C:Addr} {ex:List Addr} {cl:List (Str×Addr)} {fv tg:List Str} {js:List Nat}
theorem a3c.clos (S:a3c X scope fv js) (ok:X.Ok):closureFor scope X.env=pure (a5s X.env.cells scope.names []):=d5y λ q hq e=>ok.has q.1 (S.out q.1 (S.free q hq e))
theorem a3c.sub (S:a3c X scope fv js) (ok:X.Ok):∀ x c,(a5s X.env.cells scope.names []).lookup x=some c->X.env.cells.lookup x=some c :=
 b7w (λ q hq e=>ok.has q.1 (S.out q.1 (S.free q hq e))) (λ x c e=>by cases e)
theorem e3p (I:Inv X pins σ H s) (S:a3c X scope fv js) (hC:s.heap.objs.size<=C)
  (hf:∀ b∈ex,d5e X pins H b) (ho:∀ b∈ex,∃ o,s.heap.get? b=some o):(a3b X scope N (a5s X.env.cells scope.names []) C s H ex).Ok:=by
 have sub:=S.sub I.ok
 refine⟨I.ok.mod,S.kind,I.ok.glob,I.ok.blt,hC,λ x y c e1 e2=>I.ok.inj x y c (sub x c e1) (sub y c e2),λ x hx=>?_,λ x c z _=>Bool.noConfusion z,I.ok.hd,I.ok.frames,.inl rfl,λ b hb=>⟨?_,λ x c e=>?_⟩,I.bs,Nat.le_trans I.ok.bsz I.sz,λ b o e hb=>?_,λ b hb hm=>?_,I.stack,I.stkFree⟩
 ·have e:∃ k',(relabel scope X.env).names.lookup x=some k'/\(k'=.cell\/k'=.free):=by
   rcases hx with z | z
   ·exact⟨_,z,.inl rfl⟩
   ·exact⟨_,z,.inr rfl⟩
  obtain⟨k',e,hk⟩:=e
  obtain⟨k,e2,q⟩:=b1p e
  have hk2:k=.free:=by
   rcases q with rfl | ⟨rfl,_⟩
   ·rcases hk with rfl | rfl
    ·exact absurd rfl (S.cell _ (PySem.mem_of_lookup e2))
    ·rfl
   ·rfl
  subst hk2
  exact b3d (.inl (PySem.mem_of_lookup e2))
 ·obtain⟨o,e⟩:=ho b hb
  exact Nat.ne_of_lt (Nat.lt_of_lt_of_le (Heap.lt_size e) hC)
 ·obtain⟨_,_,_,_,q,_⟩:=hf b hb
  exact q x c (sub x c e)
 ·obtain⟨_,_,_,q,_⟩:=hf b hb
  rcases q with q | q
  ·exact I.ok.noex b o e q
  ·exact absurd (Nat.lt_of_lt_of_le (Heap.lt_size e) (Nat.le_trans I.ok.bsz q)) (Nat.lt_irrefl _)
 ·obtain⟨_,q1,q2,_⟩:=hf b hb
  rcases List.mem_cons.mp (I.stkSub b hm) with z | z
  ·exact q1 z
  ·exact q2 z
theorem d2q {D:Addr} {h':Heap} {t':Nat} {m:Str->Option Value} (I:Inv X pins σ H s) (S:a3c X scope fv js) (ok:(a3b X scope (tg++fv) (a5s X.env.cells scope.names []) C s H ex).Ok) (hk:∀ b o,s.heap.get? b=some o->h'.get? b=some o) (hD:s.heap.get? D=none) (hC:s.heap.get? C=none) (hDC:D≠C)
  (hl:h'.get? D=some {cls:=.type "list",data:=.seq #[]}) (hn:h'.Ns C m):Inv (a3b X scope (tg++fv) (a5s X.env.cells scope.names []) C s H ex) [] (c1v σ tg.length js) (upd H D (.lst [])) {s with heap:=h',toks:=t'}:=by
 have nD:=b0s I hD
 have neD:∀ b u,s.heap.get? b=some u->b≠D:=λ b u e z=>by rw[z,hD] at e;cases e
 have sub:=S.sub I.ok
 have cellK:∀ c v,s.heap.IsCell c v->h'.IsCell c v:=λ c v ⟨o,ho,hd⟩=>⟨o,hk c o ho,hd⟩
 have hlen:js.length=fv.length:=by have:=congrArg List.length S.at';simpa using this
 refine⟨ok,rfl,I.bare,⟨λ b u q _ _ _=>hk b u q,λ b u q _ _ _=>⟨u.slots,hk b u q⟩,λ b u q n _=>by rw[a0h (neD b u q)];exact n,λ b u q _=>⟨u,hk b u q⟩,λ b xs q=>by rw[a0h (a1b q nD)];exact q,
  λ b u xs q=>by rw[a0h (a1b q nD)];exact q,λ b ps (q:H b=_)=>⟨#[],by rw[a0h (a1b q nD),q];simp⟩⟩,⟨m,hn,λ i x v e1 e2 e3=>?_⟩,λ x c e=>?_,?_,λ x c e=>?_,λ p hp=>(by cases hp),λ b u e=>?_,by simp[a3b,c1v,hlen]⟩
 ·have e1:(tg++fv)[i]?=some x:=e1
  rcases Nat.lt_or_ge i tg.length with hi | hi
  ·rw[c1v,List.getElem?_append_left (by simpa using hi),List.getElem?_replicate,if_pos hi] at e2
   cases e2
  ·rw[List.getElem?_append_right hi] at e1
   rw[c1v,List.getElem?_append_right (by simpa using hi),List.length_replicate,List.getElem?_map] at e2
   obtain⟨j,hj,e2⟩:=Option.map_eq_some_iff.mp e2
   have hσ:σ[j]?=some (some v):=by
    cases q:σ[j]? with
    | none=>rw[q] at e2;cases e2
    | some z=>rw[q] at e2;exact congrArg some e2
   have hN:X.N[j]?=some x:=by
    have q:=congrArg (λ l=>l[i - tg.length]?) S.at'
    simp only [List.getElem?_map,hj,e1,Option.map_some] at q
    exact Option.some.inj q
   have hx:x∈fv:=List.mem_of_getElem? e1
   have ko:=S.out x hx
   obtain⟨m0,_,hl0⟩:=I.loc
   have vis:Vis X.env.scope x:=ko.elim (λ z=>.inr (.inl z)) λ z=>.inr (.inr z)
   obtain⟨u,ru,lk⟩:=hl0 j x v hN hσ vis
   obtain⟨c,hc,hcell⟩:∃ c,X.env.cells.lookup x=some c/\s.heap.IsCell c (some u):=by
    rcases lk with ⟨z,_⟩ | ⟨_,q⟩
    ·rcases ko with y | y<;>(rw[y] at z;cases z)
    ·exact q
   obtain⟨c2,hc2⟩:∃ c2,(a5s X.env.cells scope.names []).lookup x=some c2:=b3d (.inl (PySem.mem_of_lookup (S.fr x hx)))
   have ec:c2=c:=by have:=sub x c2 hc2;rw[hc] at this;exact(Option.some.inj this).symm
   subst ec
   refine⟨u,ru,.inr ⟨?_,c2,hc2,cellK _ _ hcell⟩⟩
   have e3:(relabel scope X.env).names.lookup x=some .local\/(relabel scope X.env).names.lookup x=some .cell\/(relabel scope X.env).names.lookup x=some .free:=e3
   rcases e3 with z | z | z
   ·obtain⟨k,ek,q⟩:=b1p z
    rw[S.fr x hx] at ek
    cases ek
    rcases q with q | ⟨_,q⟩<;>cases q
   ·exact .inl z
   ·exact .inr z
 ·obtain⟨v,z⟩:=I.cell x c (sub x c e)
  exact⟨v,cellK c v z⟩
 ·show upd H D (.lst []) C=none
  rw[a0h (Ne.symm hDC)]
  exact b0s I hC
 ·obtain⟨v,o,ho,_⟩:=I.cell x c (sub x c e)
  rw[a0h (neD c o ho)]
  exact I.freeC x c (sub x c e)
 ·by_cases hb:b=D
  ·subst hb
   rw[a0b] at e
   cases e
   exact⟨Nat.zero_le _,[],_,.nil,hl⟩
  ·rw[a0h hb] at e
   exact(I.hok b u e).stay (λ c v _ q=>hk c v q) (λ c q=>by rw[a0h (a1b q nD)];exact q) λ c xs q=>by rw[a0h (a1b q nD)];exact q
end
theorem d5p {prog:Program} {w:World} {A:Around} {s:Shared} {R:Result->Shared->Prop} {elt target iter:Expr} {ifs:List Expr} {scope:Scope} {pos:Pos} {it acc:Value} {env:Env} (I:Nat->Shared->Prop)
  (turn:∀ n s,I n s->wpAny (model prog w) A (pyNext it) (λ r s1=>(r=none/\R (.ok .next) s1)\/∃ v,r=some v/\wpAny (model prog w) A (letOwnedTupleGo target it v) (λ _ s2=>wpAny (model prog w) A (assign target env v) (λ _ s3 =>
   wpAny (model prog w) A (e9i ifs env) (λ ok s4=>if ok=true then wpAny (model prog w) A (eval elt env) (λ x s5=>wpAny (model prog w) A (call (.builtin "list.append") [acc,x]) (λ _ s6=>∃ m,m < n/\I m s6) (λ _ _=>False) s5) (λ _ _=>False) s4
    else ∃ m,m < n/\I m s4) (λ _ _=>False) s3) (λ _ _=>False) s2) (λ _ _=>False) s1) (λ _ _=>False) s)
  (n:Nat) (h:I n s):codeAny (model prog w) A (.compLoop (.ListComp elt [⟨target,iter,ifs,0⟩] scope pos) 0 it acc env) R s:=by
 have no:∀ {α:Type} {E:Value->Shared->Prop} {t:Sem α} {Q:α->Shared->Prop} {u:Shared},wpAny (model prog w) A t Q (λ _ _=>False) u->wpAny (model prog w) A t Q E u:=λ z=>wpAny_mono z (λ _ _ q=>q) λ _ _ q=>q.elim
 refine codeAny_loop rfl I (λ n s hI=>wpAny_noted ?_) n h
 rw[compTurn_list]
 refine wpAny_bind (wpAny_standAt (wpAny_bind (wpAny_mono (turn n s hI) (λ r s1 q=>?_) λ _ _ z=>z.elim)))
 rcases q with ⟨rfl,q⟩ | ⟨v,rfl,q⟩
 ·exact wpAny_pure q
 ·refine wpAny_bind (no (thn q λ _ s2 q2=>wpAny_bind (no (thn q2 λ _ s3 q3=>wpAny_bind (no (thn q3 λ ok s4 q4=>?_))))))
  cases ok with
  | false=>exact wpAny_pure ⟨rfl,q4⟩
  | true=>exact wpAny_bind (wpAny_bind (no (thn q4 λ x s5 q5=>wpAny_bind (no (thn q5 λ _ s6 q6=>wpAny_pure (wpAny_pure ⟨rfl,q6⟩))))))
def b1i (σ0:L2.St) (J:It) (g:TG) (tc:TT) (te:TE) (Q:VK) (H1:Hp):Prop:=∀ D,H1 D=none->∃ W:Nat->Nat->List V->L2.St->Hp->Prop,(∃ m,W 0 m [] σ0 (upd H1 D (.lst [])))/\∀ i m ys τ H,W i m ys τ H->H D=some (.lst ys) /\
 ((J.stop i H/\Q (.ref D) H)\/(J.go i H/\ys.length < sizeLine/\∀ v H',J.yld i H v H'->g v τ H' λ τ2 H2=>tc τ2 H2 λ ok H3=>if ok=true then te τ2 H3 λ y H4=>H4 D=some (.lst ys)/\∃ m',m' < m/\W (i+1) m' (ys++[y]) τ2 (upd H4 D (.lst (ys++[y])))
  else ∃ m',m' < m/\W (i+1) m' ys τ2 H3))
section
variable {X:Cx} {pins:List (Addr×Obj)} {σ:L2.St} {H:Hp} {s:Shared} {scope:Scope} {fv:List Str} {js:List Nat} {target iter elt:Expr} {ifs:List Expr} {pos:Pos} {g:TG} {tc:TT} {te:TE}
theorem c1f {E:Value->Shared->Prop} {J:It} {fp:List Addr} {it:Addr} {tn:Nat->Heap->Prop} {Q:VK} {RR:Value->Addr->Result->Shared->Prop} (tg:List Str) (I:Inv X pins σ H s) (hc:X.calm=true)
  (S:a3c X scope fv js) (T:e7n X.prog X.w X.K target J fp it tn) (st:tn 0 s.heap) (hf:∀ b∈fp,d5e X pins H b)
  (hg:∀ cl C s₀ H₀ ex,PG (a3b X scope (tg++fv) cl C s₀ H₀ ex) target g) (hi:∀ cl C s₀ H₀ ex,f0a (a3b X scope (tg++fv) cl C s₀ H₀ ex) ifs tc) (he:∀ cl C s₀ H₀ ex,PE (a3b X scope (tg++fv) cl C s₀ H₀ ex) elt te) (q:b1i (c1v σ tg.length js) J g tc te Q H)
  (hRR:∀ D C H' s' m,s'.os=s.os->AllBare s'.gens->Un (frs X.stack) fp H H' s.heap s'.heap->HOk X.prog X.w H' s'.heap->s'.heap.Ns C m->H' C=none->s.heap.objs.size<=C->Q (.ref D) H'->RR (.ref D) C (.ok .next) s') :
  wpAny (model X.prog X.w) X.A (newList []) (λ acc s3=>wpAny (model X.prog X.w) X.A (newFunctionEnv scope X.env.globals (a5s X.env.cells scope.names []) [] X.env.qual none .none (some X.env)) (λ cenv s4 =>
   codeAny (model X.prog X.w) X.A (.compStart (.ListComp elt [⟨target,iter,ifs,0⟩] scope pos) 0 (.ref it) acc {cenv with scope:=relabel scope X.env}) (RR acc cenv.locals) s4) E s3) E s:=by
 refine wpAny_newObj_type (wpAny_newFunctionEnv S.cell (by intro y hy;simp at hy) (λ h1 hn k1=>?_) S.kind)
 dsimp only at hn k1 ⊢
 generalize hg2:s.heap.push {cls:=.type "list",dict:=none,data:=.seq ([]:List Value).toArray}=g2 at hn k1 ⊢
 have hC:g2.objs.size=s.heap.objs.size+1:=by rw[<-hg2,Heap.size_push]
 have hDC:s.heap.objs.size≠g2.objs.size:=by rw[hC];exact Nat.ne_of_lt (Nat.lt_succ_self _)
 have hle:s.heap.objs.size<=g2.objs.size:=by rw[hC];exact Nat.le_succ _
 have nD:s.heap.get? s.heap.objs.size=none:=Heap.get?_none_of_le (Nat.le_refl _)
 have nC:s.heap.get? g2.objs.size=none:=Heap.get?_none_of_le hle
 have old:∀ b o,s.heap.get? b=some o->h1.get? b=some o:=λ b o e=>k1.extBut b o (Nat.ne_of_lt (Nat.lt_of_lt_of_le (Heap.lt_size e) hle)) (Heap.get?_push_of_some _ (hg2 ▸ Heap.get?_push_of_some _ e))
 have hl:h1.get? s.heap.objs.size=some {cls:=.type "list",data:=.seq #[]}:=k1.extBut _ _ hDC (Heap.get?_push_of_some _ (hg2 ▸ Heap.get?_push_size _ rfl))
 have ob:=T.obj 0 s.heap st
 generalize hcl:a5s X.env.cells scope.names []=cl
 have ok:(a3b X scope (tg++fv) cl g2.objs.size s H fp).Ok:=hcl ▸ e3p I S hle hf λ b hb=>let ⟨o,e,_⟩:=ob b hb;⟨o,e⟩
 have I0:Inv (a3b X scope (tg++fv) cl g2.objs.size s H fp) [] (c1v σ tg.length js) (upd H s.heap.objs.size (.lst [])) {s with heap:=h1,toks:=s.toks+([]:List (Str×Value)).length}:=by
  subst hcl
  exact d2q I S ok old nD nC hDC hl hn
 have st1:tn 0 h1:=T.keep 0 _ _ st λ b _ o e=>old b o e
 obtain⟨W,⟨m0,w0⟩,turn⟩:=q _ (b0s I nD)
 have fpok:∀ {H':Hp} {ps:List (Addr×Obj)},(∀ p∈ps,p.1 ∉ fp)->(∀ b∈fp,H' b=none)->∀ b∈fp,d5e (a3b X scope (tg++fv) cl g2.objs.size s H fp) ps H' b:=λ hps hn b hb=>⟨hn b hb,(ok.exf b hb).1,ok.exfs b hb,.inl hb,(ok.exf b hb).2,λ p hp z=>hps p hp (z ▸ hb)⟩
 have loop:codeAny (model X.prog X.w) X.A (.compLoop (.ListComp elt [⟨target,iter,ifs,0⟩] scope pos) 0 (.ref it) (.ref s.heap.objs.size) (compEnvC scope cl g2.objs.size X.env)) (RR (.ref s.heap.objs.size) g2.objs.size) {s with heap:=h1,toks:=s.toks+([]:List (Str×Value)).length}:=by
  refine d5p (λ n s'=>∃ i ys τ H',Inv (a3b X scope (tg++fv) cl g2.objs.size s H fp) [] τ H' s'/\tn i s'.heap/\(∀ b∈fp,H' b=none)/\W i n ys τ H') (λ n s' hI=>?_) m0 ⟨0,[],_,_,I0,st1,λ b hb=>?_,w0⟩
  ·obtain⟨i,ys,τ,H',I1,t1,f1,w1⟩:=hI
   obtain⟨hD,w1⟩:=turn i n ys τ H' w1
   rcases w1 with ⟨stop,qn⟩ | ⟨go,hz,step⟩
   ·refine thn (T.done (a3b X scope (tg++fv) cl g2.objs.size s H fp) rfl rfl rfl hc i [] s' τ H' _ I1 (fpok (by simp) f1) t1 stop) λ r s2 ⟨hr,I2⟩=>.inl ⟨hr,?_⟩
    obtain⟨m,hn2,_⟩:=I2.loc
    exact hRR _ _ H' s2 m I2.os I2.bare I2.base I2.hok hn2 I2.free hle qn
   ·refine thn (T.item (a3b X scope (tg++fv) cl g2.objs.size s H fp) rfl rfl rfl hc i [] s' τ H' _ I1 (fpok (by simp) f1) t1 go) λ r s2 ⟨u,hr,h2⟩=>.inr ⟨u,hr,thn h2 λ _ s3 ⟨x,H3,I3,r3,y3,t3,f3⟩=>?_⟩
    have I3':=I3.pinned (fpok (by simp) f3) (T.obj _ _ t3)
    have back:∀ {s6:Shared} {τ4:L2.St} {H6:Hp},Inv (a3b X scope (tg++fv) cl g2.objs.size s H fp) ([]++c8c fp s3.heap) τ4 H6 s6->tn (i+1) s6.heap/\∀ b∈fp,H6 b=none:=λ I6 =>
     ⟨T.keep _ _ _ t3 λ b hb o e=>(I6.pin (b,o) (List.mem_append_right _ (List.mem_append_right _ (b3c hb e)))).1,λ b hb=>by
      obtain⟨o,e,_⟩:=T.obj _ _ t3 b hb
      exact(I6.pin (b,o) (List.mem_append_right _ (List.mem_append_right _ (b3c hb e)))).2.1⟩
    refine thn ((hg _ _ _ _ _) _ s3 τ H3 x u _ I3' r3 (step x H3 y3)) λ _ s4 ⟨τ4,H4,I4,q4⟩=>?_
    refine thn ((hi _ _ _ _ _).run _ s4 τ4 H4 _ I4 q4) λ b s5 ⟨H5,I5,q5⟩=>?_
    cases b with
    | false =>
     obtain⟨m',hm,w5⟩:=(show ∃ m',m' < n/\W (i+1) m' ys τ4 H5 from q5)
     obtain⟨b1,b2⟩:=back I5
     exact⟨m',hm,i+1,_,τ4,_,I5.unpinned,b1,b2,w5⟩
    | true =>
     refine thn ((he _ _ _ _ _) _ s5 τ4 H5 _ I5 q5) λ z s6 ⟨y,H6,I6,r6,hD6,m',hm,w6⟩=>?_
     refine thn (c8n _ s6 τ4 H6 (.ref s.heap.objs.size) [y] (.ref s.heap.objs.size) [z] (λ _ H7=>H7=upd H6 s.heap.objs.size (.lst (ys++[y]))) I6 rfl (.cons r6 .nil) ⟨_,ys,y,rfl,rfl,hD6,hz,rfl⟩) λ _ s7 ⟨v7,H7,I7,_,e7⟩=>?_
     subst e7
     obtain⟨b1,b2⟩:=back I7
     exact⟨m',hm,i+1,_,τ4,_,I7.unpinned,b1,b2,w6⟩
  ·obtain⟨o,e,_⟩:=ob b hb
   rw[a0h (Nat.ne_of_lt (Heap.lt_size e))]
   exact(hf b hb).1
 exact codeAny_compStart_list loop (T.self _ 0 _ _ _ st1 loop)
def e4m (n:Nat) (js:List Nat) (wi:TI) (g:TG) (tc:TT) (te:TE):TE:=λ σ H Q=>wi σ H λ J H1=>b1i (c1v σ n js) J g tc te Q H1
theorem a3k {wi:TI} (tg:List Str) (hc:X.calm=true) (S:a3c X scope fv js) (hi:PI X target iter wi)
  (hg:∀ cl C s₀ H₀ ex,PG (a3b X scope (tg++fv) cl C s₀ H₀ ex) target g) (hf:∀ cl C s₀ H₀ ex,f0a (a3b X scope (tg++fv) cl C s₀ H₀ ex) ifs tc) (he:∀ cl C s₀ H₀ ex,PE (a3b X scope (tg++fv) cl C s₀ H₀ ex) elt te) (hs:∀ x,foldedSetIterable iter X.env x=pure x:=by intro _;rfl) :
  PE X (.ListComp elt [⟨target,iter,ifs,0⟩] scope pos) (e4m tg.length js wi g tc te):=by
 constructor;intro pins s σ H Q I h
 rw[eval_ListComp]
 refine wpAny_comprehension_free (use:=none) rfl hs (S.clos I.ok) S.kind S.names (thn (hi pins s σ H _ I h) λ v s1 h1=>thn h1 λ itv s2 h2=>?_)
 obtain⟨it,fp,tn,J,H2,rfl,I2,T,st2,f2,q⟩:=h2
 refine c1f (RR:=λ acc C=>compPost (model X.prog X.w) X.A X.xe none (EP X pins σ Q) acc C) tg I2 hc S T st2 f2 hg hf he q λ D C H' s' m os bare un hok hn nC hC qq=>⟨m,hn,λ h' k=>?_⟩
 obtain⟨IX,fC⟩:=c4c I2 f2 os bare un hok nC hC
 exact⟨.ref D,H',d8j IX fC k,rfl,qq⟩
theorem c5w {wi:TI} {i:Nat} {y:Str} {py spos:Pos} (tg:List Str) (hc:X.calm=true) (hN:X.N.Nodup) (hy:X.N[i]?=some y) (hk:X.env.scope.names.lookup y=some .local) (S:a3c X scope fv js) (hi:PI X target iter wi)
  (hsw:swapsWith (.ListComp elt [⟨target,iter,ifs,0⟩] scope pos) (some (.Name y py)) spos.line X.env=pure true)
  (hg:∀ cl C s₀ H₀ ex,PG (a3b X scope (tg++fv) cl C s₀ H₀ ex) target g) (hf:∀ cl C s₀ H₀ ex,f0a (a3b X scope (tg++fv) cl C s₀ H₀ ex) ifs tc) (he:∀ cl C s₀ H₀ ex,PE (a3b X scope (tg++fv) cl C s₀ H₀ ex) elt te) (hs:∀ x,foldedSetIterable iter X.env x=pure x:=by intro _;rfl) :
  PS X (.Assign [.Name y py] (.ListComp elt [⟨target,iter,ifs,0⟩] scope pos) spos) (λ D σ H=>e4m tg.length js wi g tc te σ H λ v H1=>D.nx (σ.set i (some v)) H1):=by
 constructor;intro pins s σ H D I h
 rw[exec_Assign_Name_used _ _ _ _ hsw]
 refine wpAny_bind (wpAny_standAt (wpAny_bind (wpAny_bind (wpAny_mono (Q:=λ _ s'=>SP X pins D .next s') (E:=X.xe) (wpAny_comprehension_free (use:=some (assign (.Name y py) X.env)) rfl hs (S.clos I.ok) S.kind S.names
  (thn (hi pins s σ H _ I h) λ v s1 h1=>thn h1 λ itv s2 h2=>?_)) (λ _ s' q=>wpAny_pure (wpAny_pure q)) λ _ _ z=>z))))
 obtain⟨it,fp,tn,J,H2,rfl,I2,T,st2,f2,q⟩:=h2
 refine c1f (RR:=λ acc C=>compPost (model X.prog X.w) X.A X.xe (some (assign (.Name y py) X.env)) (λ _ s'=>SP X pins D .next s') acc C) tg I2 hc S T st2 f2 hg hf he q λ L C H' s' m os bare un hok hn nC hC qq=>?_
 obtain⟨IX,fC⟩:=c4c I2 f2 os bare un hok nC hC
 refine wpAny_assign_Name (d0q IX hN hy (.inl hk) (v:=.ref L) rfl (λ s3 I3 ⟨a,k3,ha⟩=>?_) (.inr hk))
 have ne:C≠a:=by
  rcases ha with z | z
  ·rw[z];exact fC.2.1
  ·exact λ w'=>fC.2.2.2.2.1 y a z w'.symm
 exact⟨m,hn.sameBut k3 ne,λ h' k=>⟨_,H',d8j I3 fC k,qq⟩⟩
end
theorem a2n {α:Type} {P:α->Prop}:∀ x∈([]:List α),P x:=λ _ h=>by cases h
theorem a1n {α:Type} {P:α->Prop} {a:α} {l:List α} (h:P a) (t:∀ x∈l,P x):∀ x∈a::l,P x:=λ x hx=>by
 rcases List.mem_cons.mp hx with e | e
 ·exact e ▸ h
 ·exact t x e
theorem a2r {X:Cx} {K:PySem.W.Frag} (hK:X.K=K):IxR X (f3p K):=hK ▸ a0w
theorem b5t {X:Cx} {K:PySem.W.Frag} (hK:X.K=K):IxR X (f1j K):=hK ▸ a0v
theorem e1s {X:Cx} {K:PySem.W.Frag} {tg l:Expr} {tl:TE} (hK:X.K=K) (hl:PE X l tl):PI X tg l (f0d K tl):=by
 subst hK
 exact a1t hl
theorem b6z {σ0 fs:L2.St} {k:Nat} {J:It} {g:TG} {tc:TT} {te:TE} {Q:VK} {H1:Hp} (n:Nat) (f:Nat->Option V) (h0:σ0=List.replicate k none++fs) (hz:n<=sizeLine) (hgo:∀ i H,Same H1 H->i < n->J.go i H) (hstop:∀ H,Same H1 H->J.stop n H)
  (step:∀ i H (ts:L2.St) v H' (R:Option V->L2.St->Hp->Prop),Same H1 H->i < n->ts.length=k->J.yld i H v H'->(∀ (ts2:L2.St) H3,ts2.length=k->Same H H3->R (f i) (ts2++fs) H3) ->
   g v (ts++fs) H' λ τ2 H2=>tc τ2 H2 λ ok H3=>if ok=true then te τ2 H3 λ y H4=>R (some y) τ2 H4 else R none τ2 H3)
  (fin:∀ D H',H1 D=none->Same H1 H'->H' D=some (.lst ((List.range n).filterMap f))->Q (.ref D) H'):b1i σ0 J g tc te Q H1:=by
 intro D hD
 refine⟨λ i m ys τ H=>m=n - i/\i<=n/\ys=(List.range i).filterMap f/\(∃ ts:L2.St,ts.length=k/\τ=ts++fs)/\Same H1 H/\H D=some (.lst ys),⟨n,rfl,Nat.zero_le _,rfl,⟨_,List.length_replicate,h0⟩,Same.upd hD,a0b⟩,?_⟩
 rintro i m ys τ H ⟨rfl,hi,rfl,⟨ts,ht,rfl⟩,ss,hd⟩
 refine⟨hd,?_⟩
 by_cases hlt:i < n
 ·have hl:((List.range i).filterMap f).length < sizeLine:=Nat.lt_of_le_of_lt (List.length_filterMap_le _ _) (by rw[List.length_range];omega)
  refine .inr ⟨hgo i H ss hlt,hl,λ v H' y=>step i H ts v H' (λ o τ2 H3=>match o with
   | some y=>H3 D=some (.lst ((List.range i).filterMap f))/\∃ m',m' < n - i/\m'=n - (i+1)/\i+1<=n/\(List.range i).filterMap f++[y]=(List.range (i+1)).filterMap f/\(∃ ts:L2.St,ts.length=k/\τ2=ts++fs)/\Same H1 (upd H3 D (.lst ((List.range i).filterMap f++[y])))/\upd H3 D (.lst ((List.range i).filterMap f++[y])) D=some (.lst ((List.range i).filterMap f++[y]))
   | none=>∃ m',m' < n - i/\m'=n - (i+1)/\i+1<=n/\(List.range i).filterMap f=(List.range (i+1)).filterMap f/\(∃ ts:L2.St,ts.length=k/\τ2=ts++fs)/\Same H1 H3/\H3 D=some (.lst ((List.range i).filterMap f))) ss hlt ht y λ ts2 H3 h2 s3=>?_⟩
  cases e:f i with
  | none =>
   refine⟨n - (i+1),by omega,rfl,hlt,?_,⟨ts2,h2,rfl⟩,ss.trans s3,s3 _ _ hd⟩
   rw[List.range_succ,List.filterMap_append]
   simp[e]
  | some y =>
   refine⟨s3 _ _ hd,n - (i+1),by omega,rfl,hlt,?_,⟨ts2,h2,rfl⟩,(ss.trans s3).again hD,a0b⟩
   rw[List.range_succ,List.filterMap_append]
   simp[e]
 ·have e:i=n:=by omega
  subst e
  exact .inl ⟨hstop H ss,fin D H hD ss hd⟩
end My
namespace My
open PySem PySem.Spec PyProof.Rows L2
theorem d4g {K:PySem.W.Frag} {H:Hp}:∀ ms:List Int,Dts K H (ms.map V.int) (ms.map PyData.int)
 | []=>.nil
 | m::r=>.cons (.int m) (d4g r)
def rAppendA:V->List V->Hp->VK->Prop:=λ x vs H Q=>∃ l xs y,x=.ref l/\vs=[y]/\H l=some (.lst xs)/\xs.length < sizeLine/\∀ H',H' l=some (.lst (xs++[y]))->(∀ b o,b≠l->H b=some o->H' b=some o)->Q .non H'
theorem a5k {X:Cx}:MtM X "list.append" rAppendA:=by
 intro pins s σ H x vs v us Q I rx rv h
 obtain⟨l,xs,y,ex,ev,hH,hz,q⟩:=h
 exact c8n pins s σ H x vs v us Q I rx rv ⟨l,xs,y,ex,ev,hH,hz,q _ a0b λ b o n e=>by rw[a0h n];exact e⟩
theorem e6i {ms:List Int} (h:ms≠[]):PyData.eqv (.list (ms.map PyData.int)) (.list [])=false:=by
 cases ms with
 | nil=>exact absurd rfl h
 | cons m r=>rfl
def e9y:V->V->V->Hp->(Hp->Prop)->Prop:=λ o i v H Q=>∃ p xs k j,o=.ref p/\i=.int k/\H p=some (.lst xs)/\ixN xs.length k=some j/\∀ H',H' p=some (.lst (xs.set j v))->(∀ b o,b≠p->H b=some o->H' b=some o)->Q H'
theorem b5n {X:Cx}:f2d X e9y:=by
 intro pins s σ H o i v ov iv u Q I ro ri rv h
 obtain⟨p,xs,k,j,eo,ei,hp,hj,q⟩:=h
 exact e3f pins s σ H o i v ov iv u Q I ro ri rv ⟨p,xs,k,j,eo,ei,hp,hj,q _ a0b λ b o n e=>by rw[a0h n];exact e⟩
theorem d2h (ms:List Int):SeqAt.shaped (.list (ms.map PyData.int))=true:=by
 show (PyData.canLayAll0 (ms.map .int) && decide (PyData.depthAll (ms.map .int)+1<=64))=true
 rw[canLayAll_ints ms,depthAll_ints ms]
 rfl
end My
namespace My
open PySem PySem.Spec PyProof.Rows L2
def ItE (K:PySem.W.Frag) (a:Addr):It :=
 ⟨λ i H=>∃ xs x,SqL K H a xs/\xs[i]?=some x,λ i H v H'=>∃ p x,(∀ xs,SqL K H a xs->xs[i]?=some x)/\v=.ref p/\H p=none/\H'=upd H p (.tup [.int i,x]),λ i H=>∃ xs,SqL K H a xs/\xs.length=i⟩
section
variable {P:Program} {w:World} {K:PySem.W.Frag}
theorem e8l {X:Cx} {pins:List (Addr×Obj)} {σ:L2.St} {H:Hp} {s:Shared} {e it:Addr} {h':Heap} {t':Nat} (I:Inv X pins σ H s) (fe:d5e X pins H e) (fi:d5e X pins H it) (oe:∃ o,h'.get? e=some o) (oi:∃ o,h'.get? it=some o)
  (k:∀ b o,b≠e->b≠it->s.heap.get? b=some o->h'.get? b=some o):Inv X pins σ H {s with heap:=h',toks:=t'}:=by
 have nb:∀ b o,H b=some o->b≠e/\b≠it:=λ b o q=>⟨λ z=>(by rw[z,fe.1] at q;cases q),λ z=>(by rw[z,fi.1] at q;cases q)⟩
 refine I.call' (ch:=[e,it]) (s':={s with heap:=h',toks:=t'}) rfl ⟨λ b o q _ _ hx=>?_,λ b o q _ _ hx=>?_,λ b o q n _=>n,λ b o q hx=>?_,λ b xs q=>q,λ b o u q=>q,λ b ps (q:H b=_)=>⟨#[],by rw[q];simp⟩⟩ (λ b u q=>?_) I.bare λ b hb=>?_
 ·simp only [List.mem_cons,List.not_mem_nil,or_false,not_or] at hx
  exact k b o hx.1 hx.2 q
 ·simp only [List.mem_cons,List.not_mem_nil,or_false,not_or] at hx
  exact⟨o.slots,k b o hx.1 hx.2 q⟩
 ·by_cases z:b=e
  ·rw[z];exact oe
  ·by_cases y:b=it
   ·rw[y];exact oi
   ·exact⟨o,k b o z y q⟩
 ·refine(I.hok b u q).stay (λ c v hc z=>?_) (λ c z=>z) λ c xs z=>z
  rcases hc with y | y
  ·subst y
   obtain⟨n1,n2⟩:=nb _ _ q
   exact k _ v n1 n2 z
  ·obtain⟨n1,n2⟩:=nb _ _ y
   exact k _ v n1 n2 z
 ·simp only [List.mem_cons,List.not_mem_nil,or_false] at hb
  rcases hb with rfl | rfl
  ·exact⟨fe.2.2.2.1,fe.2.1,fe.2.2.2.2.1,fe.2.2.2.2.2⟩
  ·exact⟨fi.2.2.2.1,fi.2.1,fi.2.2.2.2.1,fi.2.2.2.2.2⟩
theorem d8c (a e it:Addr) (hei:e≠it) {elts:List Expr} {kk:Nat} {tpos:Pos}:e7n P w K (.Tuple elts kk tpos) (ItE K a) [e,it] e (λ i h=>(∃ old,IsEnum h e it i old)/\h.IsListIter it a i) where
 mem:=by simp
 obj:=λ i h ⟨⟨old,he⟩,hi⟩ c hc=>by
  simp only [List.mem_cons,List.not_mem_nil,or_false] at hc
  rcases hc with z | z
  ·rw[z];exact⟨_,he,λ v z=>by simp at z⟩
  ·rw[z]
   obtain⟨o,eo,c,d⟩:=hi
   exact⟨o,eo,λ v z=>by rw[d] at z;cases z⟩
 keep:=λ i h h' ⟨⟨old,he⟩,hi⟩ k=>⟨⟨old,k e (by simp) _ he⟩,hi.at λ o eo=>k it (by simp) o eo⟩
 item:=by
  intro X hP hw hK hc i pins s σ H E I hf st hg
  subst hP hw hK
  obtain⟨⟨old,he⟩,hi⟩:=st
  obtain⟨xs,x,hq,hx⟩:=hg
  obtain⟨its,rv,p,hz⟩:=I.list hq
  obtain⟨u,hu,ru⟩:=rv.get hx
  have hlt:i < its.toArray.size:=by rw[List.size_toArray];exact(List.getElem?_eq_some_iff.mp hu).1
  have hai:a≠it:=λ z=>by
   obtain⟨o,e1,c1,_⟩:=p.isList
   obtain⟨o2,e2,c2,_⟩:=hi
   rw[z,e2] at e1
   cases e1
   rw[c2] at c1
   exact absurd c1 (by decide)
  have hae:e≠a:=λ z=>by
   obtain⟨o,e1,c1,_⟩:=p.isList
   rw[<-z,he] at e1
   cases e1
   exact absurd c1 (show ¬ (Value.type "enumerate"=Value.type "list") from by decide)
  refine wpAny_pyNext_enum_itemD (Draws.list (A:=X.A.in1) (I.ok.hd hc) it a hai its.toArray) he ⟨hi,p.isList⟩ hlt hei ?_ λ x' h' tk hx' ho' st' ht' hz' k'=>?_
  ·simp only [List.mem_cons,List.not_mem_nil,or_false,not_or]
   exact⟨hei,hae⟩
  have ex:x'=u:=by
   have:its[i]?=some x':=by simpa using hx'
   rw[hu] at this
   exact(Option.some.inj this).symm
  subst ex
  refine⟨_,rfl,wpAny_letOwnedTupleGo_enum ho' λ h2 he2 hs2=>?_⟩
  have helt:e < s.heap.objs.size:=Heap.lt_size he
  have hilt:it < s.heap.objs.size:=let ⟨o,eo,_⟩:=hi;Heap.lt_size eo
  have nT:s.heap.get? s.heap.objs.size=none:=Heap.get?_none_of_le (Nat.le_refl _)
  have hT:h2.get? s.heap.objs.size=some {cls:=.type "tuple",data:=.seq #[.int i tk,x']}:=hs2.extBut _ _ (Nat.ne_of_gt helt) ht'
  have st2:=st'.1.at λ o eo=>hs2.extBut _ _ (Ne.symm hei) eo
  have I2:Inv X pins σ H {s with heap:=h2,toks:=tk+1}:=e8l I (hf e (by simp)) (hf it (by simp)) ⟨_,he2⟩ (let ⟨o,eo,_⟩:=st2;⟨o,eo⟩) λ b o n1 n2 q=>hs2.extBut _ _ n1 (k' b o n1 n2 q)
  have HT:H s.heap.objs.size=none:=b0s I nT
  have I3:Inv X pins σ (upd H s.heap.objs.size (.tup [.int i,x])) {s with heap:=h2,toks:=tk+1}:=c9x I I2 nT HT ⟨by show 2<=sizeLine;decide,[.int i tk,x'],.cons ⟨_,rfl⟩ (.cons ru .nil),_,hT,rfl,_,rfl⟩
  refine⟨.ref s.heap.objs.size,_,I3,rfl,⟨s.heap.objs.size,x,λ ys hy=>by rw[I.list_inj hy hq];exact hx,rfl,HT,rfl⟩,⟨⟨_,he2⟩,st2⟩,λ c hcm=>?_⟩
  simp only [List.mem_cons,List.not_mem_nil,or_false] at hcm
  rcases hcm with z | z
  ·rw[z,a0h (Nat.ne_of_lt helt)];exact(hf e (by simp)).1
  ·rw[z,a0h (Nat.ne_of_lt hilt)];exact(hf it (by simp)).1
 done:=by
  intro X hP hw hK hc i pins s σ H E I hf st hg
  subst hP hw hK
  obtain⟨⟨old,he⟩,hi⟩:=st
  obtain⟨xs,hq,hx⟩:=hg
  obtain⟨its,rv,p,hz⟩:=I.list hq
  have hai:a≠it:=λ z=>by
   obtain⟨o,e1,c1,_⟩:=p.isList
   obtain⟨o2,e2,c2,_⟩:=hi
   rw[z,e2] at e1
   cases e1
   rw[c2] at c1
   exact absurd c1 (by decide)
  have hn:its.toArray.size=i:=by rw[List.size_toArray,<-rv.length];exact hx
  subst hn
  refine wpAny_pyNext_enum_endD (Draws.list (A:=X.A.in1) (I.ok.hd hc) it a hai its.toArray) he ⟨hi,p.isList⟩ λ h' k=>⟨rfl,?_⟩
  obtain⟨f0,f1,f2,f3,f4,f5⟩:=hf it (by simp)
  exact I.turned (t':=s.toks) (λ b o hb eo=>k b o hb eo) f0 f1 f3 f4 f5
 self:=λ _ _ _ _ _ st h=>let ⟨⟨_,he⟩,_⟩:=st;wpAny_pyIter_enum he h
end
section
variable {X:Cx}
def f2v (K:PySem.W.Frag) (ta:TA):TI:=λ σ H R=>ta σ H λ vs H1=>∃ a xs,vs=[.ref a]/\H1 a=some (.lst xs)/\R (ItE K a) H1
theorem e8j {a:Expr} {ta:TA} {p pos:Pos} {elts:List Expr} {kk:Nat} {tpos:Pos} (hg:Gl X "enumerate") (hm:X.mg "enumerate"=none) (ha:PA X [a] ta) (hs:starEach [a] X.env=[(false,eval a X.env)]:=by rfl) :
  PI X (.Tuple elts kk tpos) (.Call (.Name "enumerate" p) [a] [] pos) (f2v X.K ta):=by
 constructor;intro pins s σ H R I h
 refine Call_ (c4p I hg hm boot_enumerate (PyProof.Rows.callWith_type1 (thn (ha pos pins s σ H _ I h) λ us s1 ⟨vs,H1,I1,r1,q1⟩=>?_) hs rfl))
 obtain⟨l,xs,rfl,hl,q⟩:=q1
 obtain⟨u,rfl,ru⟩:=c6a r1
 cases ru
 obtain⟨z,its,n,rv,e⟩:=(show a3f X.prog X.w H1 s1.heap l (.lst xs) from I1.hok l _ hl)
 refine call_enumerate_1 e λ h' he hi hz k=>?_
 have I2:Inv X pins σ H1 {s1 with heap:=h'}:=I1.kept (t':=s1.toks) k
 refine wpAny_pyIter_enum (s:={s1 with heap:=h'}) he ⟨s1.heap.objs.size+1,[s1.heap.objs.size+1,s1.heap.objs.size],_,ItE X.K l,H1,rfl,I2,d8c l _ _ (Nat.ne_of_gt (Nat.lt_succ_self _)),⟨⟨_,he⟩,hi⟩,λ b hb=>?_,q⟩
 have hb':s1.heap.objs.size<=b:=by
  simp only [List.mem_cons,List.not_mem_nil,or_false] at hb
  rcases hb with z | z<;>(rw[z];first | exact Nat.le_succ _ | exact Nat.le_refl _)
 exact I1.fpOk hb' (I1.hok.fresh hb')
end
end My
namespace My
open PySem PySem.Spec PyProof.Rows L2
section
variable {X:Cx}
theorem e9d {ho:Addr->Addr->Option Addr->HO} {S:Addr} {c n:Str} {j:Nat} {b₀:Stmt} {suite:List Stmt} {th:TS} {np hpos:Pos} {pins:List (Addr×Obj)} {σ:L2.St} {H1:Hp} {s1 s':Shared} {D:c4f} {e:Value}
  (I1:Inv X pins σ H1 s1) (hq:CXW X.prog X.w X.stack H1 s1 (λ cls d H2=>∃ C,cls=.ref C/\PySem.W.subIn X.K (.ref C) (.ref S)=some true/\∀ ea,H2 ea=none->th (gone j D) (σ.set j (some (.ref ea))) (upd H2 ea (ho ea C d))) e s')
  (T:f2b X.K X.mg c S) (hgc:Gl X c) (hN:X.N.Nodup) (hj:X.N[j]?=some n) (hxn:X.env.scope.names.lookup n=some .local) (hst:X.stack=X.env::X.outer) (hfr:X.env.frame=some X.env.locals)
  (hs:∀ ea,PSs (d3b X ea) (b₀::suite) th) (hho:∀ (H:Hp) (h:Heap) (ea C:Addr) (d:Option Addr),c9t ea C d h->a3f X.prog X.w H h ea (ho ea C d)) (hdc:(c == ("__debug__":Str))=false) :
  wpAny (model X.prog X.w) X.A (noteFrame e X.env) (λ _ s₂=>wpAny (model X.prog X.w) X.A (setFlight e none) (λ _ s₃=>wpAny (model X.prog X.w) X.A (handleBy e X.env [.ExceptHandler (some (.Name c np)) (some n) (b₀::suite) hpos]) (SP X pins D) X.xe s₃) X.xe s₂) X.xe s':=by
 obtain⟨ea,cls,a0,B,H',d,rfl,os,bare,un,hok,fl,bk,n1,n2,⟨o0,ho0,hd0⟩,C,hcls,hsub,hth⟩:=hq
 subst hcls
 have fl':=fl
 rw[hst] at fl'
 have hfnn:∀ b∈frs X.stack,∃ o,s'.heap.get? b=some o/\∀ vs,o.data≠.fields vs:=λ b hb=>(fl.2.2.1.mem hb).2
 refine wpAny_mono (a9l (b4j _ _) (wpAny_looks_onW (Q:=λ _ s''=>∃ h4,s''={s' with heap:=h4}/\Heap.HeldW B (X.env::X.outer) ea (.ref C) a0 X.env.locals h4/\s'.heap.UpToSlots h4) (by rw[I1.ok.frames,hst]) hfr fl' λ h4 x1 x2=>⟨h4,rfl,x1,x2⟩)) (λ _ s'' ⟨⟨h4,e4,held,sm4⟩,dk4⟩=>?_) λ _ _ z=>z.1
 subst e4
 refine wpAny_mono (a9l (a9f _ _) (wpAny_landsW (Q:=λ _ s''=>∃ h5,s''={s' with heap:=h5}/\Heap.FlyingW B (X.env::X.outer) ea (.ref C) a0 h5/\h4.UpToSlots h5) held λ h5 x1 x2=>⟨h5,rfl,x1,x2⟩)) (λ _ s'' ⟨⟨h5,e5,fl5,sm5⟩,dk5⟩=>?_) λ _ _ z=>z.1
 subst e5
 obtain⟨ob,hob,hobc⟩:=fl5.there
 obtain⟨un5,hok5,_,_⟩:=e6c I1 un hok bk fl5.1 (sm4.trans sm5) hfnn
 have I5:Inv X pins σ H' {s' with heap:=h5}:=I1.call' (s':={s' with heap:=h5}) os un5 hok5 bare (λ b z=>absurd z (by simp))
 refine wpAny_handleBy_cons (codeAny_handlers_test (b7b (X:=d3b X ea) (d4w I5 ea) hgc T.bound ?_ hdc)) (by intro z;cases z)
 refine d2r (K:=X.K) I5.kIn hob hobc T.ty T.it T.mB hsub (codeAny_handlers_suite_as ?_)
 refine wpAny_mono (a9l (a9f _ _) (lands_againW (Q:=λ _ s''=>∃ h6,s''={s' with heap:=h6}/\Heap.FlyingW B (X.env::X.outer) ea (.ref C) a0 h6/\h5.UpToSlots h6) fl5 λ h6 x1 x2=>⟨h6,rfl,x1,x2⟩)) (λ _ s'' ⟨⟨h6,e6,fl6,sm6⟩,dk6⟩=>?_) λ _ _ z=>z.1
 subst e6
 obtain⟨ob6,vs6,hob6,hobc6,hdat6,_⟩:=fl6.first
 have isK:c9t ea C d h6:=by
  obtain⟨o4,ho4,hd4⟩:=dk4 ea o0 ho0
  obtain⟨o5,ho5,hd5⟩:=dk5 ea o4 ho4
  obtain⟨o6,ho6,hd6⟩:=dk6 ea o5 ho5
  have ho6':h6.get? ea=some o6:=ho6
  rw[hob6] at ho6'
  cases ho6'
  exact⟨ob6,hob6,hobc6,by unfold PySem.W.notCls;rw[hdat6],hd6.1.trans (hd5.1.trans (hd4.1.trans hd0.1))⟩
 obtain⟨un6,hok6,_,_⟩:=e6c I1 un hok bk fl6.1 ((sm4.trans sm5).trans sm6) hfnn
 have I6:Inv X pins σ H' {s' with heap:=h6}:=I1.call' (s':={s' with heap:=h6}) os un6 hok6 bare (λ b z=>absurd z (by simp))
 have I7:Inv X pins σ (upd H' ea (ho ea C d)) {s' with heap:=h6}:=c9x I1 I6 n2 n1 (hho _ _ _ _ _ isK)
 refine c6c (X:=d3b X ea) (i:=j) (v:=.ref ea) (d4w I7 ea) hN hj (.inl hxn) rfl (λ s8 I8=>?_) (.inr hxn)
 refine wpAny_mono (hs ea pins _ _ _ (gone j D) I8 (hth ea n1)) (λ f2 s2 z=>?_) λ _ _ z=>z.elim
 have z':=d8p I6.ok z
 cases f2 with
 | next=>obtain⟨σ',H9,I9,q⟩:=z';exact b6o I9 hN hj hxn λ s3 I3=>⟨_,H9,I3,q⟩
 | brk=>obtain⟨σ',H9,I9,q⟩:=z';exact b6o I9 hN hj hxn λ s3 I3=>⟨_,H9,I3,q⟩
 | cont=>obtain⟨σ',H9,I9,q⟩:=z';exact b6o I9 hN hj hxn λ s3 I3=>⟨_,H9,I3,q⟩
 | ret u=>obtain⟨v,σ',H9,I9,r,q⟩:=z';exact b6o I9 hN hj hxn λ s3 I3=>⟨v,_,H9,I3,r,q⟩
end
end My
namespace My
open PySem PySem.Spec PyProof.Rows L2
theorem c5a {X:Cx} {pins:List (Addr×Obj)} {σ:L2.St} {H:Hp} {s:Shared} {d:Addr} {ob:Obj} {kvs:List (Key×V)} (I:Inv X pins σ H s) (e:H d=some (.dK kvs)) (ho:s.heap.get? d=some ob):Inv X pins σ (upd H d (.frz ob (.dK kvs))) s:=by
 have ne:∀ b,H b=none->b≠d:=λ b q z=>by rw[z,e] at q;cases q
 refine⟨I.ok,I.os,I.bare,⟨I.base.keep,I.base.slot,λ b o q n hx=>?_,I.base.there,λ b xs q=>?_,λ b o u q=>?_,λ b ps q=>?_⟩,I.loc,I.cell,?_,λ x c q=>?_,λ p hp=>?_,λ b u q=>?_,I.len⟩
 ·have:=I.base.free b o q n hx
  rw[a0h (ne b this)];exact this
 ·have:=I.base.tups b xs q
  rw[a0h λ z=>by rw[z,e] at this;cases this];exact this
 ·have:=I.base.frzs b o u q
  rw[a0h λ z=>by rw[z,e] at this;cases this];exact this
 ·obtain⟨more,q2⟩:=I.base.tbls b ps q
  exact⟨more,by rw[a0h λ z=>by rw[z,e] at q2;cases q2];exact q2⟩
 ·rw[a0h (ne _ I.free)];exact I.free
 ·rw[a0h (ne _ (I.freeC x c q))];exact I.freeC x c q
 ·obtain⟨a1,a2,a3⟩:=I.pin p hp
  exact⟨a1,by rw[a0h (ne _ a2)];exact a2,a3⟩
 ·by_cases hb:b=d
  ·subst hb
   rw[a0b] at q
   cases q
   exact⟨ho,(I.hok b _ e).stay (λ c v _ z=>z) (λ c z=>by rw[a0h λ y=>by rw[y,e] at z;cases z];exact z) λ c xs z=>by rw[a0h λ y=>by rw[y,e] at z;cases z];exact z⟩
  ·rw[a0h hb] at q
   exact(I.hok b u q).stay (λ c v _ z=>z) (λ c z=>by rw[a0h λ y=>by rw[y,e] at z;cases z];exact z) λ c xs z=>by rw[a0h λ y=>by rw[y,e] at z;cases z];exact z
theorem a2a {α β:Type} {F:α->β->Prop}:∀ {l:List α} {m:List β} {i:Nat} {a:α},Paired F l m->l[i]?=some a->∃ b,m[i]?=some b/\F a b
 | _,_,_,_,.nil,e=>by simp at e
 | _,_,0,_,.cons h _,e=>by simp at e;subst e;exact⟨_,rfl,h⟩
 | _,_,i+1,a,.cons _ t,e=>by
  obtain⟨b,h1,h2⟩:=a2a (i:=i) (a:=a) t (by simpa using e)
  exact⟨b,by simpa using h1,h2⟩
section
variable {P:Program} {w:World} {K:PySem.W.Frag}
theorem e6b {k:Key} {key:Value} (h:(a1e P w).is k key=true):a3n (kV k) key:=by
 rcases a2z h with ⟨i,t,rfl,rfl⟩ | ⟨y,t,rfl,rfl⟩
 ·exact⟨t,rfl⟩
 ·exact⟨t,rfl⟩
end
end My
namespace My
open PySem PySem.Spec PyProof.Rows L2 Builtin.Str PySem.StrLaws
def pre (d:Nat):List (List Nat)->List (List Nat)
 | []=>[]
 | p::r=>p::r.map (d::·)
end My
namespace My
open PySem PySem.Spec PyProof.Rows L2 PyProof
theorem a6g {α β:Type} {F:α->β->Prop} {xs:List α} {bs:List β} (p:Paired F xs bs):xs.length=bs.length:=by
 induction p with
 | nil=>rfl
 | cons _ _ ih=>simp only [List.length_cons,ih]
theorem d4c (k:Int):∀ ms:List Int,inV (.int k) (ms.map V.int)=ms.contains k
 | []=>rfl
 | m::r=>by
  have ih:=d4c k r
  unfold inV at ih ⊢
  rw[List.map_cons,List.any_cons,ih,List.contains_cons]
  show ((m == k) || _)=_
  rw[show (m == k)=(k == m) from (Bool.eq_iff_iff.mpr ⟨λ h=>beq_iff_eq.mpr (beq_iff_eq.mp h).symm,λ h=>beq_iff_eq.mpr (beq_iff_eq.mp h).symm⟩)]
theorem d5s {X:Cx} {K:PySem.W.Frag} (hK:X.K=K):OpR X (compareOp .In) (rIn K false):=hK ▸ d7z
theorem e0a (ms:List Int):(ms.map V.int).all c6q=true:=by
 rw[List.all_eq_true]
 intro v hv
 obtain⟨m,_,rfl⟩:=List.mem_map.mp hv
 rfl
end My
namespace My
open PySem PySem.Spec PyProof.Rows L2 PyProof
structure MkO (K:PySem.W.Frag) (C:Addr):Prop where
 makes:PySem.W.makesIn K C=true
 init:PySem.W.findIn K (.ref C) "__init__"=some (some (.builtin "object.__init__"))
 kp:PySem.W.keepIn K (.ref C)=true
section
variable {X:Cx}
def f1x (C:Addr):TE:=λ _ H Q=>∀ x dx,H x=none->H dx=none->dx≠x->Q (.ref x) (upd (upd H dx (.own x)) x (.ins C dx []))
theorem c2l {C:Addr} {x:Str} {p pos:Pos} (M:MkO X.K C) (hg:Gl X x) (hm:X.mg x=some (.ref C)) (hdb:(x == ("__debug__":Str))=false:=by decide):PE X (.Call (.Name x p) [] [] pos) (f1x C):=by
 constructor;intro pins s σ H Q I h
 refine wpAny_Call_Name_kw (b7b I hg hm ?_ hdb)
 refine PySem.W.callWith_K0 I.kIn M.kp (wpAny_call (d9u I.kIn M.makes M.init (λ self=>PySem.W.Looks.of_pure (PySem.W.oi_bind self)) ?_))
 have I2:=Inv.made (C:=C) I
 have hq:=h (s.heap.objs.size+1) s.heap.objs.size (I.hok.fresh (Nat.le_succ _)) (I.hok.fresh (Nat.le_refl _)) (Nat.ne_of_lt (Nat.lt_succ_self _))
 have Y:=PySem.W.makes_of (M:=model X.prog X.w) I.kIn M.makes
 have e2:((s.heap.push PySem.W.emptyDict).push (PySem.W.instObj C s.heap.objs.size)).get? (s.heap.objs.size+1)=some (PySem.W.instObj C s.heap.objs.size):=by
  have:=Heap.get?_push_size (s.heap.push PySem.W.emptyDict) (o:=PySem.W.instObj C s.heap.objs.size) rfl
  rwa [size_push'] at this
 have t1:PySem.W.Looks (model X.prog X.w) ((s.heap.push PySem.W.emptyDict).push (PySem.W.instObj C s.heap.objs.size)) (typeOf (.ref (s.heap.objs.size+1))) (.ref C):=(PySem.W.Looks.ld e2).andThen .now
 have t2:PySem.W.Looks (model X.prog X.w) ((s.heap.push PySem.W.emptyDict).push (PySem.W.instObj C s.heap.objs.size)) (isInstance (.ref (s.heap.objs.size+1)) (.type "object")) true:=t1.andThen (Y.top.keeps λ b o e=>Heap.get?_push_of_some _ (Heap.get?_push_of_some _ e))
 refine codeAny_call_builtin PySem.W.oi_plain PySem.W.entry_oi (@PySem.W.check_slot (model X.prog X.w) _ _ _ "object.__init__" "object" "__init__" (.ref (s.heap.objs.size+1)) [] [] _ PySem.W.oi_kind PySem.W.oi_split t2 (PySem.W.oi_args (.ref (s.heap.objs.size+1))) ?_)
 rw[PySem.W.oi_run]
 exact wpAny_pure (And.intro rfl ⟨V.ref _,_,I2,rfl,hq⟩)
def f1d (X:Cx) {ι:Type} (cls:ι->Addr) (m:Str) (sp:ι->Sp) (k:Nat):Prop:=∀ l,∃ f fd ps,Cls X.K (cls l)/\b8r X.K (cls l) m f/\a4j X.prog X.w X.K X.mg X.base CX0 k f fd ps (sp l)/\a1k X.K fd ps []
def e5b {ι:Type} (cls:ι->Addr) (m:Str) (sp:ι->Sp) (ta:TE) (t:TA):TE:=λ σ H Q=>ta σ H λ x H1=>∃ a l dx fs,x=.ref a/\H1 a=some (.ins (cls l) dx fs)/\fs.lookup m=none/\t σ H1 λ vs H2=>sp l (x::vs) H2 Q E0
theorem c6s {ι:Type} {cls:ι->Addr} {m:Str} {sp:ι->Sp} {k:Nat} {o e:Expr} {es:List Expr} {ta:TE} {t:TA} {apos pos:Pos} {pl:Sem Bool} (he:PE X o ta) (M:f1d X cls m sp k) (hr:Room k X.A) (ha:PA X (e::es) t)
  (hst:starEach (e::es) X.env=(false,eval e X.env)::starEach es X.env:=by rfl) (hpl:(backTo pos (starEach es X.env)).any (·.1)=false:=by rfl)
  (ht:eval (.Call (.Attribute o m apos) (e::es) [] pos) X.env=(do let ov <- eval o X.env;standAt apos.atName;let (f,first) <- holding [ov] (getMethod ov m pl);callWith pos f first (backTo pos (starEach (e::es) X.env)) (backToKw pos (keywordEach [] X.env))):=by rfl) :
  PE X (.Call (.Attribute o m apos) (e::es) [] pos) (e5b cls m sp ta t):=by
 constructor;intro pins s σ H Q I h
 refine PySem.W.methodCall_KW (pl:=pl) (thn (he pins s σ H _ I h) λ u s1 ⟨x,H1,I1,rx,a,l,dx,fs,ex,ea,lk,q⟩=>?_) ht
 subst ex
 obtain rfl:u=Value.ref a:=rx
 obtain⟨f,fd,ps,c,hm,F,hb⟩:=M l
 refine c3y I1 ea c hm lk ?_
 refine PySem.W.callWith_K (first:=[.ref a]) (h₀:=X.base) I.ok.mod.kin hm.kp (thn (ha pos pins s1 σ H1 _ I1 q) λ us s2 ⟨vs,H2,I2,r,q2⟩=>⟨I2.kIn,?_⟩) hst hpl
 exact d6s (us:=.ref a::us) (vs:=.ref a::vs) F hr hb .nil a1l I2 (.cons rfl r) (by rw[List.append_nil];exact q2)
theorem d8t {ι:Type} {cls:ι->Addr} {m:Str} {sp:ι->Sp} {k:Nat} {o:Expr} {ta:TE} {apos pos:Pos} {pl:Sem Bool} (he:PE X o ta) (M:f1d X cls m sp k) (hr:Room k X.A)
  (ht:eval (.Call (.Attribute o m apos) [] [] pos) X.env=(do let ov <- eval o X.env;standAt apos.atName;let (f,first) <- holding [ov] (getMethod ov m pl);callWith pos f first (backTo pos (starEach [] X.env)) (backToKw pos (keywordEach [] X.env))):=by rfl) :
  PE X (.Call (.Attribute o m apos) [] [] pos) (e5b cls m sp ta f2z):=by
 constructor;intro pins s σ H Q I h
 refine PySem.W.methodCall_KW (pl:=pl) (thn (he pins s σ H _ I h) λ u s1 ⟨x,H1,I1,rx,a,l,dx,fs,ex,ea,lk,q⟩=>?_) ht
 subst ex
 obtain rfl:u=Value.ref a:=rx
 obtain⟨f,fd,ps,c,hm,F,hb⟩:=M l
 refine c3y I1 ea c hm lk ?_
 exact PySem.W.callWith_K0 (first:=[.ref a]) I1.kIn hm.kp (d6s (us:=[.ref a]) (vs:=[.ref a]) F hr hb .nil a1l I1 (.cons rfl .nil) q)
theorem e4z {st:Stmt} {t:TS} (h:PS X.nox st t):PS X st t:=by
 constructor;intro pins s σ H D I hw
 refine wpAny_mono (h pins s σ H D (I.wish _) hw) (λ f s' z=>?_) λ _ _ z=>z.elim
 cases f with
 | next=>obtain⟨σ',H',I',q⟩:=z;exact⟨σ',H',I'.unwish,q⟩
 | brk=>obtain⟨σ',H',I',q⟩:=z;exact⟨σ',H',I'.unwish,q⟩
 | cont=>obtain⟨σ',H',I',q⟩:=z;exact⟨σ',H',I'.unwish,q⟩
 | ret u=>obtain⟨v,σ',H',I',r,q⟩:=z;exact⟨v,σ',H',I'.unwish,r,q⟩
theorem e3h {e:Expr} {z:Str} {k:Nat} {te:TE} {p1 p2 pos:Pos} (he:PE X e te) (hz:z.length<=1000) (hev:evalEach [.Constant (.str z) k p2,.FormattedValue e 114 none p1] X.env=[eval (.Constant (.str z) k p2) X.env,eval (.FormattedValue e 114 none p1) X.env]:=by rfl) :
  PE X (.JoinedStr [.Constant (.str z) k p2,.FormattedValue e 114 none p1] pos) (λ σ H Q=>te σ H λ x H1=>∃ y:Str,x=.str y/\(∀ c∈y.cps.toList,c < 16 ^ 8)/\y.length<=1000/\∀ r,Q (.str r) H1):=by
 constructor;intro pins s σ H Q I h
 refine wpAny_JoinedStr ?_
 rw[hev]
 have e0:(Str.empty++z).length=z.length:=by rw[strLen_append];show 0+_=_;omega
 have hs2:(10002:Nat)+1000<=sizeLine:=by decide
 refine Calls.Constant_str ⟨_,_,rfl,by rw[e0];omega,?_⟩
 refine wpAny_FormattedValue_repr (thn (he pins _ σ H _ (I.tok _) h) λ u s1 ⟨x,H1,I1,r1,y,e1,hc,hl,q⟩=>?_)
 subst e1
 obtain⟨t,rfl⟩:=r1
 have hr:=PySem.StrLaws.reprText_len y hc
 refine wpAny_pyReprObj_str ?_ (by omega)
 refine formatField_str (λ t' tk=>⟨_,_,rfl,by rw[strLen_append,e0];omega,?_⟩) (by omega)
 exact⟨by rw[strLen_append,e0];omega,.str _,H1,(I1.tok _).tok _,⟨_,rfl⟩,q _⟩
theorem e5y {k:Nat} {fa S:Addr} {fd:FuncData} {ps:List Str} {sp:Sp} {fn c n:Str} {j:Nat} {a1:Expr} {as:List Expr} {b₀:Stmt} {suite:List Stmt} {t:TA} {th:TS} {pf cpos epos np hpos pos:Pos}
  (F:a4j X.prog X.w X.K X.mg X.base (CXW X.prog X.w) k fa fd ps sp) (hr:Room k X.A) (hg:Gl X fn) (hm:X.mg fn=some (.ref fa)) (hk:PySem.W.keepIn X.K (.ref fa)=true) (hb:a1k X.K fd ps [])
  (ha:PA X.nox (a1::as) t) (T:f2b X.K X.mg c S) (hgc:Gl X c) (hN:X.N.Nodup) (hj:X.N[j]?=some n) (hxn:X.env.scope.names.lookup n=some .local) (hst:X.stack=X.env::X.outer) (hfr:X.env.frame=some X.env.locals)
  (hs:∀ ea,PSs (d3b X ea) (b₀::suite) th)
  (hdb:(fn == ("__debug__":Str))=false:=by decide) (hdc:(c == ("__debug__":Str))=false:=by decide) (he:starEach (a1::as) X.env=(false,eval a1 X.env)::starEach as X.env:=by rfl) (hpl:(backTo cpos (starEach as X.env)).any (·.1)=false:=by rfl)
  (hsw:swapsWith (.Call (.Name fn pf) (a1::as) [] cpos) none epos.line X.env=pure false:=by rfl) :
  PS X (.Try [.Expr (.Call (.Name fn pf) (a1::as) [] cpos) epos] [.ExceptHandler (some (.Name c np)) (some n) (b₀::suite) hpos] [] [] pos)
   (λ D σ H=>t σ H λ vs H1=>sp vs H1 (λ _ H2=>D.nx σ H2) (λ cls d H2=>∃ C,cls=.ref C/\PySem.W.subIn X.K (.ref C) (.ref S)=some true/\∀ ea,H2 ea=none->th (gone j D) (σ.set j (some (.ref ea))) (upd H2 ea (e5x ea C)))):=by
 constructor;intro pins s σ H D I h
 refine wpAny_Try_except (wpAny_execs_cons (wpAny_Expr_any (wpAny_Call_Name_kw (b7b I hg hm ?_ hdb)) I.quiet hsw))
 refine PySem.W.callWith_K (h₀:=X.base) I.ok.mod.kin hk (wpAny_mono (ha cpos pins s σ H _ (I.wish _) h) (λ us s1 ⟨vs,H1,I1w,r,q⟩=>⟨I1w.kIn,?_⟩) λ _ _ z=>z.elim) he hpl
 have I1:Inv X pins σ H1 s1:=I1w.unwish
 have hl:us.length=ps.length:=by rw[<-r.length];exact F.len _ _ _ _ q
 have hbb:=hb s1 us I1.kIn (by rw[List.append_nil];exact hl)
 rw[List.append_nil] at hbb
 refine wpAny_call (codeAny_mono (F.run X.A X.stack s1 H1 ⟨us,[]⟩ us vs _ _ hr I1.env0 hbb r q) λ res s' hq=>?_)
 cases res with
 | ok fl =>
  cases fl with
  | ret u =>
   obtain⟨v,H2,I2,r2,q2⟩:=I1.after hq
   exact wpAny_execs_nil (wpAny_execs_nil ⟨_,H2,I2,q2⟩)
  | next=>exact False.elim hq
  | brk=>exact False.elim hq
  | cont=>exact False.elim hq
 | error e=>exact e9d (ho:=λ ea C _=>e5x ea C) I1 hq T hgc hN hj hxn hst hfr hs (λ _ _ _ _ _ ⟨_,q,c,_⟩=>e6m q c) hdc
end
end My
namespace My
open PySem PySem.Spec PyProof.Rows L2 PyProof
def Ris (xs:Array Nat):Prop:=xs.toList.Pairwise (· < ·)
theorem Ris.lt {xs:Array Nat} (h:Ris xs) {i j x y:Nat} (hij:i < j) (hi:xs[i]?=some x) (hj:xs[j]?=some y):x < y:=by
 rw[<-Array.getElem?_toList] at hi hj
 obtain⟨i1,e1⟩:=List.getElem?_eq_some_iff.mp hi
 obtain⟨j1,e2⟩:=List.getElem?_eq_some_iff.mp hj
 have:=List.pairwise_iff_getElem.mp h i j i1 j1 hij
 rw[e1,e2] at this
 exact this
theorem c6x {xs:Array Nat} (h:Ris xs) (j:Nat):∀ (fuel lo hi:Nat),hi - lo<=fuel->lo<=hi->hi<=xs.size->(∀ k x,xs[k]?=some x->k < lo->x < j)->(∀ k x,xs[k]?=some x->hi<=k->j<=x) ->
  ∀ k x,xs[k]?=some x->(k < SetTable.below.go xs j fuel lo hi->x < j)/\(SetTable.below.go xs j fuel lo hi<=k->j<=x)
 | 0,lo,hi,hf,hle,hs,h1,h2=>λ k x e=>by
  unfold SetTable.below.go
  have:lo=hi:=by omega
  subst this
  exact⟨h1 k x e,h2 k x e⟩
 | fuel+1,lo,hi,hf,hle,hs,h1,h2=>λ k x e=>by
  unfold SetTable.below.go
  by_cases hlt:lo < hi
  ·rw[if_pos hlt]
   have hm1:lo<=(lo+hi) / 2:=by omega
   have hm2:(lo+hi) / 2 < hi:=by omega
   have hmx:(lo+hi) / 2 < xs.size:=by omega
   have em:xs[(lo+hi) / 2]?=some xs[(lo+hi) / 2]:=Array.getElem?_eq_getElem hmx
   have eg:xs.getD ((lo+hi) / 2) j=xs[(lo+hi) / 2]:=by simp[Array.getD,hmx]
   dsimp only
   rw[eg]
   by_cases hc:xs[(lo+hi) / 2] < j
   ·rw[if_pos hc]
    refine c6x h j fuel _ hi (by omega) (by omega) hs (λ k x e hk=>?_) h2 k x e
    by_cases q:k=(lo+hi) / 2
    ·subst q
     rw[em] at e
     cases e
     exact hc
    ·have:=h.lt (show k < (lo+hi) / 2 by omega) e em
     omega
   ·rw[if_neg hc]
    refine c6x h j fuel lo _ (by omega) hm1 (by omega) h1 (λ k x e hk=>?_) k x e
    by_cases q:k=(lo+hi) / 2
    ·subst q
     rw[em] at e
     cases e
     omega
    ·have:=h.lt (show (lo+hi) / 2 < k by omega) em e
     omega
  ·rw[if_neg hlt]
   have:lo=hi:=by omega
   subst this
   exact⟨h1 k x e,h2 k x e⟩
theorem d4j {xs:Array Nat} (h:Ris xs) (j:Nat) {k x:Nat} (e:xs[k]?=some x):(k < SetTable.below xs j->x < j)/\(SetTable.below xs j<=k->j<=x):=by
 unfold SetTable.below
 refine c6x h j xs.size 0 xs.size (by omega) (Nat.zero_le _) (Nat.le_refl _) (λ k x _ hk=>absurd hk (Nat.not_lt_zero _)) (λ k x e hk=>?_) k x e
 have:=(Array.getElem?_eq_some_iff.mp e).1
 omega
theorem e1v {xs:Array Nat} (h:Ris xs) {i x:Nat} (e:xs[i]?=some x):SetTable.below xs x=i:=by
 have hb:=d4j h x e
 by_cases q:SetTable.below xs x<=i
 ·by_cases q2:SetTable.below xs x=i
  ·exact q2
  ·have hlt:SetTable.below xs x < i:=by omega
   have hi:i < xs.size:=(Array.getElem?_eq_some_iff.mp e).1
   have e2:xs[SetTable.below xs x]?=some xs[SetTable.below xs x]:=Array.getElem?_eq_getElem (by omega)
   have h1:=(d4j h x e2).2 (Nat.le_refl _)
   have h2:=h.lt hlt e2 e
   omega
 ·have:=hb.1 (by omega)
  omega
theorem c6k {xs:Array Nat} (h:Ris xs) {j:Nat} (e:xs[SetTable.below xs j]?≠some j):j ∉ xs.toList:=λ hm=>by
 obtain⟨k,hk,ek⟩:=List.getElem_of_mem hm
 have e1:xs[k]?=some j:=by rw[<-Array.getElem?_toList,List.getElem?_eq_getElem hk,ek]
 rw[e1v h e1] at e
 exact e e1
structure TOk (t:SetTable):Prop where
 up:Ris t.place
 nd:t.dummies=#[]
theorem TOk.noDummy {t:SetTable} (h:TOk t) (j:Nat):SetTable.has t.dummies j=false:=by
 rw[h.nd]
 unfold SetTable.has
 simp
theorem TOk.probed {t:SetTable} (h:TOk t) {f:Nat->Int} {z:Int}:∀ (fuel:Nat) (p:SetTable.Probe) {j:Nat} {d:Option Nat},p.dummy=none->SetTable.probe.go t f z fuel p=some (.empty j d)->d=none/\j ∉ t.place.toList
 | 0,p,j,d,hp,e=>by unfold SetTable.probe.go at e;cases e
 | fuel+1,p,j,d,hp,e=>by
  unfold SetTable.probe.go at e
  have adv:∀ q:SetTable.Probe,(t.advance q).dummy=q.dummy:=λ q=>by
   unfold SetTable.advance
   split<;>rfl
  cases hs:t.slot p.j with
  | empty =>
   rw[hs] at e
   cases e
   refine⟨hp,c6k h.up λ z=>?_⟩
   unfold SetTable.slot at hs
   simp only [z,beq_self_eq_true,if_true] at hs
   cases hs
  | dummy =>
   exfalso
   unfold SetTable.slot at hs
   simp only [h.noDummy] at hs
   split at hs<;>cases hs
  | live i =>
   rw[hs] at e
   dsimp only at e
   split at e
   ·cases e
   ·exact TOk.probed h fuel _ (by rw[adv];exact hp) e
theorem TOk.free {t:SetTable} (h:TOk t) {z:Int} {j:Nat} {b:Bool} (e:t.freeSlot z=some (j,b)):j ∉ t.place.toList:=by
 unfold SetTable.freeSlot at e
 cases hp:t.probe (λ _=>z+1) z (t.probeStart z) with
 | none=>rw[hp] at e;cases e
 | some m =>
  rw[hp] at e
  cases m with
  | candidate a b c=>cases e
  | empty j' d =>
   obtain⟨hd,hn⟩:=h.probed _ _ rfl hp
   subst hd
   cases e
   exact hn
end My
namespace My
open PySem PySem.Spec PyProof.Rows L2 PyProof
def f4n (e:Int×Value):Int:=match e.2 with
 | .int n _=>n
 | _=>0
section
variable {prog:Program} {w:World} {A:Around} {E:Value->Shared->Prop} {s:Shared}
def f2f (prog:Program) (w:World) (h:Heap) (a:Addr) (ks:List Int) (led:Bool):Prop :=
 ∃ o es ep t,h.get? a=some o/\o.ExactSet/\o.data=.set es ep t/\ElemsOf (intKind prog w) es.toList/\es.size < scanBound/\t.fits es.size=true/\TOk t/\t.led=led/\(es.toList.map f4n).Perm ks
end
end My
namespace My
open PySem PySem.Spec PyProof.Rows L2 PyProof
def dd (ns:List Int):List Int:=ns.foldl step_dedup []
section
variable {prog:Program} {w:World} {A:Around} {E:Value->Shared->Prop} {s:Shared}
theorem f2f.keep {h h':Heap} {a:Addr} {ks:List Int} {led:Bool} (x:f2f prog w h a ks led) (k:∀ o,h.get? a=some o->h'.get? a=some o):f2f prog w h' a ks led :=
 let ⟨o,es,ep,t,ho,r⟩:=x
 ⟨o,es,ep,t,k o ho,r⟩
end
end My
namespace My
open PySem PySem.Spec PyProof.Rows L2 PyProof
def f2g (h:Heap) (I a:Addr) (first:Value) (i n ep:Nat):Prop:=∃ o,h.get? I=some o/\o.cls=.type "set_iterator"/\o.data=.fields #[first,.int i 0,.ref a,.int n 0,.int ep 0]
def e5q (h:Heap) (a:Addr) (es:Array (Int×Value)) (ep:Nat) (t:SetTable):Prop:=∃ o,h.get? a=some o/\o.ExactSet/\o.data=.set es ep t
theorem f2g.keep {h h':Heap} {I a:Addr} {v:Value} {i n ep:Nat} (x:f2g h I a v i n ep) (k:∀ o,h.get? I=some o->h'.get? I=some o):f2g h' I a v i n ep:=let ⟨o,ho,r⟩:=x;⟨o,k o ho,r⟩
theorem e5q.keep {h h':Heap} {a:Addr} {es:Array (Int×Value)} {ep:Nat} {t:SetTable} (x:e5q h a es ep t) (k:∀ o,h.get? a=some o->h'.get? a=some o):e5q h' a es ep t:=let ⟨o,ho,r⟩:=x;⟨o,k o ho,r⟩
end My
namespace My
open PySem PySem.Spec PyProof.Rows L2 PyProof
theorem e5u:typeLookup (.type "list") "keys"=pure none:=by rw[typeLookup_type,builtinLookup_eq_fast];exact(by kernel_rfl)
theorem b9l:entryFor table "dict.update.loop"=some Builtin.«dict.update.loop»:=entryFor_of_tree (by kernel_rfl)
theorem a8z:plainId "dict.update.loop"=true:=by decide +kernel
section
variable {prog:Program} {w:World} {A:Around} {E:Value->Shared->Prop} {s:Shared}
theorem d7u {l:Addr} {its:Array Value} {Q:Option Value->Shared->Prop} (hL:PlainL s.heap l its) (hA:A.handled=none) (h:∀ h' tk,(∀ b o,s.heap.get? b=some o->h'.get? b=some o)->Q none {s with heap:=h',toks:=tk}):wpAny (model prog w) A (getAttr? (.ref l) "keys") Q E s:=by
 obtain⟨o,n,ho,hc,hd,hdat⟩:=hL
 obtain⟨c,dct,dat,sl⟩:=o
 simp only at hc hdat hd
 subst hc hdat hd
 obtain⟨hp,g,d,tk,os⟩:=s
 have hT:∀ tk',(⟨hp,g,d,tk',os⟩:Shared).TypeIs (.ref l) "list":=λ _=>⟨_,ho,rfl⟩
 have f1:=sub_AttributeError
 have f3:=PySem.F.slot_list_getattribute.lookup
 have f4:=PySem.F.slot_list_getattribute.bind (.ref l)
 have f5:=am_list_getattr_none
 have hname:(["__module__","__name__","__qualname__","__doc__","__annotations__"]:List Str).contains "keys"=false:=by decide +kernel
 unfold getAttr? getAttrBy? getAttrBy
 repeat (any_goals (first | assumption | exact hT _ | ((with_reducible show wpAny _ _ (call (Value.builtin "list.__getattribute__") _ _) _ _ _);refine call_meets PySem.F.slot_list_getattribute (hT _) am_entry_list_getattribute (PySem.F.args_list_getattribute_2 _ _) (meets_getattribute_miss_list l its n sl "keys" _ e5u hname (by decide +kernel)) ⟨ho,hA,λ h' tk' e hx'=>?_⟩) | wp_step))
 obtain⟨t',u',he⟩:=hx'.there
 show wpAny _ _ (getattributeRaised _ _ _ _ _ _ _) _ _ _
 unfold getattributeRaised
 repeat (any_goals (first | assumption | wp_step))
 exact h _ _ hx'.keeps
theorem c4i {K:Type} [DecidableEq K] (vs:List (K×Value)) (k:K) (v:Value):(stored vs k v).length<=vs.length+1:=by
 unfold stored
 split<;>simp
def a7x {K:Type} [DecidableEq K] (vs:List (K×Value)) (ps:List (K×Value)):List (K×Value):=ps.foldl (λ a q=>stored a q.1 q.2) vs
theorem e6u {R:Result->Shared->Prop} {I D l:Addr} {us:List Value} {ks:List (Key×Value)} (hh:A.handled=none) (hlI:l≠I) (hDI:D≠I) (hDl:D≠l) (hlen:us.length=ks.length) (hsz:ks.length < 1000000) :
  ∀ (k i:Nat) (s:Shared),us.length - i=k->i<=us.length->s.heap.IsListIter I l i->s.heap.IsList l us.toArray->(∀ (j:Nat) u,us[j]?=some u->∃ t ku q,u=.ref t/\t≠I/\t≠D/\ks[j]?=some q/\s.heap.IsTuple t #[ku,q.2]/\(a1e prog w).is q.1 ku=true) ->
   (∃ vs,s.heap.DictOf (a1e prog w) D vs/\vs=a7x [] (ks.take i)/\vs.length<=i) ->
   (∀ h' tk,(∀ b o,b≠I->b≠D->s.heap.get? b=some o->h'.get? b=some o)->h'.DictOf (a1e prog w) D (a7x [] ks)->R (.ok (.ret .none)) {s with heap:=h',toks:=tk}) ->
   codeAny (model prog w) A (.builtin "dict.update.loop" ⟨[.ref D,.ref I,rawInt i,.none],[]⟩) R s:=by
 have W:=Walks.list (prog:=prog) (w:=w) (A:=A.in1) hh I l hlI us.toArray
 have us0:us.toArray.size=us.length:=by simp
 intro k
 induction k with
 | zero =>
  intro i s hk hi hit hil ht hg hR
  have hin:i=us.length:=by omega
  refine codeAny_builtin b9l ?_
  rw[Around.under_plainId a8z _]
  refine wpAny_bind (W.done s _ _ ⟨by rw[us0,<-hin];exact hit,hil⟩ λ h' tk hk'=>?_)
  obtain⟨vs,dd,rfl,_⟩:=hg
  rw[hin,hlen,List.take_length] at dd
  refine wpAny_bind (wpAny_pure (wpAny_pure (hR h' tk (λ b o b1 _ e=>hk' b o (by simpa using b1) e) ?_)))
  obtain⟨o,es,ep,ho,r⟩:=dd
  exact⟨o,es,ep,hk' D o (by simpa using hDI) ho,r⟩
 | succ k ih =>
  intro i s hk hi hit hil ht hg hR
  have hlt:i < us.length:=by omega
  refine codeAny_builtin b9l ?_
  rw[Around.under_plainId a8z _]
  refine wpAny_bind (W.item i s _ _ (by rw[us0];exact hlt) ⟨hit,hil⟩ λ v h1 tk1 hP hst hk1=>?_)
  obtain⟨t,ku,q,rfl,tI,tD,hq,hT,hkk⟩:=ht i v (by simpa using hP)
  obtain⟨vs,dd,evs,hvl⟩:=hg
  obtain⟨oT,hoT,hcT,nT,hdT⟩:=id hT
  have hoT1:=hk1 t oT (by simpa using tI) hoT
  refine wpAny_bind (wpAny_holding ?_)
  refine wpAny_bind (wpAny_tryCatch ?_)
  unfold Builtin.Dict.pairItems
  refine wpAny_bind (wpAny_typeOf (T:="tuple") ⟨oT,hoT1,hcT⟩ ?_)
  rw[if_pos (by decide)]
  refine wpAny_bind (wpAny_seqItems hoT1 hdT ?_)
  refine wpAny_pure ?_
  show wpAny _ _ (holding [ku,q.2] (dictSet D ku q.2)) _ _ _
  refine wpAny_holding ?_
  unfold dictSet
  try with_reducible refine wpAny_holding ?_
  refine wpAny_bind ((a1e prog w).pyHash hkk ?_)
  have dd1:h1.DictOf (a1e prog w) D vs:=by
   obtain⟨o,es,ep,ho,r⟩:=dd
   exact⟨o,es,ep,hk1 D o (by simpa using hDI) ho,r⟩
  have hv6:vs.length<=sizeLine:=Nat.le_trans hvl (Nat.le_trans hi (by rw[hlen];exact Nat.le_trans (Nat.le_of_lt hsz) (by decide)))
  refine wpAny_dictSetHashed_pairs (s:={s with heap:=h1,toks:=tk1+1}) (hsz:=hv6) hkk dd1 λ h2 dd2 sb=>?_
  have oth:∀ b,b≠D->h2.get? b=h1.get? b:=λ b hb=>sb.2 b hb
  refine wpAny_pure ⟨plainId_quiet a8z _,?_⟩
  have en:rawInt ((i:Int)+1)=rawInt ((i+1:Nat):Int):=by rw[Int.natCast_add];rfl
  rw[en]
  refine ih (i+1) {s with heap:=h2,toks:=tk1+1} (by omega) hlt (hst.1.at λ o e=>(oth I hDI.symm).trans e) (hst.2.at λ o e=>(oth l hDl.symm).trans e) (λ j u eu=>?_) ⟨_,dd2,?_,?_⟩ λ h3 tk3 k3 dd3=>?_
  ·obtain⟨t',ku',q',e1,e2,e3,e4,⟨oT',hoT',r'⟩,e6⟩:=ht j u eu
   exact⟨t',ku',q',e1,e2,e3,e4,⟨oT',(oth _ e3).trans (hk1 _ _ (by simpa using e2) hoT'),r'⟩,e6⟩
  ·rw[List.take_add_one,hq,evs]
   unfold a7x
   rw[List.foldl_append]
   rfl
  ·have:=c4i (K:=Key) vs q.1 q.2
   omega
  ·exact hR h3 tk3 (λ b o b1 b2 e=>k3 b o b1 b2 ((oth b b2).trans (hk1 b o (by simpa using b1) e))) dd3
end
inductive d6q (K:PySem.W.Frag) (H:Hp):List V->List (Key×V)->Prop where
 | nil:d6q K H [] []
 | cons {t:Addr} {q:Key×V} {ws:List V} {ps:List (Key×V)} (h:SqT K H t [kV q.1,q.2]) (r:d6q K H ws ps):d6q K H (.ref t::ws) (q::ps)
def a6d (kvs ps:List (Key×V)):List (Key×V):=ps.foldl (λ a q=>a6v a q.1 q.2) kvs
theorem d6p:∀ {ps:List (Key×V)} {ks:List (Key×Value)} {kvs:List (Key×V)} {vs:List (Key×Value)},KV ps ks->KV kvs vs->KV (a6d kvs ps) (a7x vs ks)
 | _,_,_,_,.nil,h=>h
 | _,_,_,_,.cons (a:=p) (b:=q) e r,h=>by
  have:=KV.put h p.1 e.2
  rw[show stored _ p.1 q.2=stored _ q.1 q.2 by rw[e.1]] at this
  have h2:=d6p r this
  exact h2
theorem b0v:∀ (ps kvs:List (Key×V)),(a6d kvs ps).length<=kvs.length+ps.length
 | [],kvs=>Nat.le_refl _
 | q::r,kvs=>by
  have h1:=b0v r (a6v kvs q.1 q.2)
  have h2:=a3z kvs q.1 q.2
  show (a6d (a6v kvs q.1 q.2) r).length<=kvs.length+(r.length+1)
  omega
theorem e0r {X:Cx} {pins:List (Addr×Obj)} {σ:L2.St} {H:Hp} {s:Shared} (I:Inv X pins σ H s):∀ {ws:List V} {ps:List (Key×V)} {its:List Value},d6q X.K H ws ps->a3o ws its ->
  ∃ ks:List (Key×Value),KV ps ks/\its.length=ks.length/\∀ (j:Nat) u,its[j]?=some u->∃ t ku q,u=.ref t/\t < s.heap.objs.size/\ks[j]?=some q/\s.heap.IsTuple t #[ku,q.2]/\(a1e X.prog X.w).is q.1 ku=true
 | _,_,_,.nil,.nil=>⟨[],.nil,rfl,λ j u e=>by simp at e⟩
 | _,_,_,.cons (q:=q) h r,.cons rv rr=>by
  obtain⟨ks,k1,k2,k3⟩:=e0r I r rr
  obtain⟨its,r2,⟨o,ho,hr⟩,_⟩:=I.tuple h
  obtain⟨ku,vu,rfl,e1,e2⟩:=e2u r2
  cases rv
  refine⟨(q.1,vu)::ks,.cons ⟨rfl,e2⟩ k1,by simp[k2],λ j u e=>?_⟩
  cases j with
  | zero =>
   cases e
   exact⟨_,ku,(q.1,vu),rfl,Heap.lt_size ho,rfl,⟨o,ho,hr.1,hr.2⟩,c8f e1⟩
  | succ j=>exact k3 j u (by simpa using e)
theorem a7r {X:Cx} {K:PySem.W.Frag} (hK:X.K=K) (hc:X.calm=true):b7n X (.type "dict") (λ xs H Q=>∃ (a:Addr) (ws:List V) (ps:List (Key×V)),xs=[V.ref a]/\H a=some (.lst ws)/\d6q K H ws ps/\ps.length < 1000000/\∀ p,H p=none->Q (.ref p) (upd H p (.dK (a6d [] ps)))):=by
 subst hK
 intro pins s σ H xs us Q I r h
 obtain⟨a,ws,ps,rfl,ha,hp,hz,q⟩:=h
 obtain⟨u,rfl,ru⟩:=c6a r
 cases ru
 obtain⟨its,rv,pl,_⟩:=I.list (SqL.of ha)
 obtain⟨ks,k1,k2,k3⟩:=e0r I hp rv
 have kl:ks.length=ps.length:=(Paired.length k1).symm
 have hal:a < s.heap.objs.size:=by obtain⟨_,_,e,_⟩:=pl;exact Heap.lt_size e
 refine callType_codes (Q₁:=λ obj s₁=>obj=.ref s.heap.objs.size/\s₁={s with heap:=s.heap.push {cls:=.type "dict",data:=.dict #[]}}) PySem.F.kt_called_dict (PySem.F.kt_typeCall_dict_1 _) PySem.F.entry_dict_init (PySem.kt_code_dict_new _ ⟨rfl,rfl⟩) λ obj s₁ ⟨e1,e2⟩=>?_
 subst e1 e2
 have hnew:(s.heap.push {cls:=.type "dict",data:=.dict #[]}).DictOf (a1e X.prog X.w) s.heap.objs.size []:=Heap.DictOf.new s.heap
 refine⟨hnew.typeIs,PySem.F.args_dict_init_2 _ _,?_⟩
 unfold Builtin.«dict.__init__»
 refine wpAny_bind ?_
 unfold Builtin.Dict.selfAndRest
 refine wpAny_bind (wpAny_notOrdered_dict hnew.typeIs ?_)
 show wpAny _ _ (pure (s.heap.objs.size,[Value.ref a])) _ _ _
 refine wpAny_pure ?_
 show wpAny _ _ (Builtin.Dict.updateFrom "dict.__init__" s.heap.objs.size (.ref a) [] .none) _ _ _
 unfold Builtin.Dict.updateFrom
 have pl1:PlainL (s.heap.push {cls:=.type "dict",data:=.dict #[]}) a its.toArray:=pl.keeps λ b o e=>Heap.get?_push_of_some _ e
 obtain⟨oa,na,hoa,hca,_⟩:=id pl1
 refine wpAny_bind (wpAny_typeOf (T:="list") ⟨oa,hoa,hca⟩ ?_)
 rw[if_pos (by decide)]
 refine wpAny_bind (d7u (s:={s with heap:=s.heap.push {cls:=.type "dict",data:=.dict #[]}}) pl1 (I.ok.hd hc) λ h1 tk1 hk1=>?_)
 rw[if_pos (show (none:Option Value).isNone=true from rfl)]
 refine wpAny_bind (wpAny_rule ?_)
 have pl2:=pl1.keeps hk1
 refine wpAny_bind (wpAny_pyIter_list pl2.isList ?_)
 have dd1:(h1.push {cls:=.type "list_iterator",data:=.fields #[.ref a,.int 0 0]}).DictOf (a1e X.prog X.w) s.heap.objs.size []:=by
  obtain⟨o,es,ep,ho,r⟩:=hnew
  exact⟨o,es,ep,Heap.get?_push_of_some _ (hk1 _ _ ho),r⟩
 have hDl:s.heap.objs.size < h1.objs.size:=by obtain⟨o,es,ep,ho,r⟩:=hnew;exact Heap.lt_size (hk1 _ _ ho)
 have haI:a < h1.objs.size:=Nat.lt_trans hal hDl
 have kp:∀ b o,s.heap.get? b=some o->(h1.push {cls:=.type "list_iterator",data:=.fields #[.ref a,.int 0 0]}).get? b=some o:=λ b o e=>Heap.get?_push_of_some _ (hk1 _ _ (Heap.get?_push_of_some _ e))
 refine wpAny_pure ⟨plainId_quiet a8z _,e6u (A:=X.A.in1) (s:={s with heap:=h1.push {cls:=.type "list_iterator",data:=.fields #[.ref a,.int 0 0]},toks:=tk1}) (I:=h1.objs.size) (D:=s.heap.objs.size) (I.ok.hd hc) (Nat.ne_of_lt haI) (Nat.ne_of_lt hDl) (Nat.ne_of_gt hal) k2 (by rw[kl];exact hz) its.length 0 rfl (Nat.zero_le _) ⟨_,Heap.get?_push_size _ rfl,rfl,rfl⟩ (pl2.isList.push _) (λ j u eu=>?_) ⟨[],dd1,rfl,Nat.le_refl _⟩ λ h3 tk3 k3' dd3=>?_⟩
 ·obtain⟨t,ku,q',e1,e2,e3,⟨oT,hoT,r'⟩,e5⟩:=k3 j u eu
  exact⟨t,ku,q',e1,Nat.ne_of_lt (Nat.lt_trans e2 hDl),Nat.ne_of_lt e2,e3,⟨oT,kp _ _ hoT,r'⟩,e5⟩
 ·refine⟨rfl,.ref _,_,?_,rfl,q _ (I.hok.fresh (Nat.le_refl _))⟩
  refine I.laid (a:=s.heap.objs.size) (o:=.dK (a6d [] ps)) (t':=tk3) (λ b o e=>k3' b o (Nat.ne_of_lt (Nat.lt_trans (Heap.lt_size e) hDl)) (Nat.ne_of_lt (Heap.lt_size e)) (kp b o e)) (Nat.le_refl _) ?_
  exact d4h (Nat.le_trans (b0v ps []) (by simp only [List.length_nil,Nat.zero_add];exact Nat.le_trans (Nat.le_of_lt hz) (by decide))) (beq_eq_false_iff_ne.mpr (Ne.symm (Nat.ne_of_lt I.big))) (d6p k1 .nil) dd3
end My
namespace My
open PySem PySem.Spec PyProof.Rows L2
def ItK (d:Addr) (ob:Obj) (kvs:List (Key×V)):It :=
 ⟨λ i H=>H d=some (.frz ob (.dK kvs))/\i < kvs.length,λ i H v H'=>H'=H/\∃ k x,kvs[i]?=some (k,x)/\v=kV k,λ i H=>H d=some (.frz ob (.dK kvs))/\i=kvs.length⟩
section
variable {P:Program} {w:World} {K:PySem.W.Frag}
theorem d0j {tg:Expr} (d it ep:Addr) (ob:Obj) (kvs:List (Key×V)) (vs:List (Key×Value)) (rel:KV kvs vs) (hat:∀ h:Heap,h.get? d=some ob->h.DictAt (a1e P w) d vs ep) :
  e7n P w K tg (ItK d ob kvs) [it] it (λ i h=>h.IsKeyIter it d i vs.length ep) where
 mem:=by simp
 obj:=λ i h hi c hc=>by
  rw[List.mem_singleton.mp hc]
  obtain⟨o,eo,_,dd⟩:=hi
  exact⟨o,eo,λ v z=>by rw[dd] at z;cases z⟩
 keep:=λ i h h' hi k=>hi.at λ o eo=>k it (by simp) o eo
 item:=by
  intro X hP hw hK hc i pins s σ H E I hf st hg
  subst hP hw hK
  obtain⟨hd,hi⟩:=hg
  obtain⟨ho,_⟩:=(show a3f X.prog X.w H s.heap d (.frz ob (.dK kvs)) from I.hok d _ hd)
  obtain⟨⟨k,x⟩,hq⟩:∃ q,kvs[i]?=some q:=⟨_,List.getElem?_eq_getElem hi⟩
  obtain⟨⟨k2,u⟩,hu,hk2,ru⟩:=a2a rel hq
  cases (show k=k2 from hk2)
  refine wpAny_pyNext_dict_item st (hat _ ho) hu λ key h' hkey hi' hs'=>?_
  obtain⟨f0,f1,f2,f3,f4,f5⟩:=hf it (by simp)
  obtain⟨o',eo',co',do'⟩:=id hi'
  exact⟨key,rfl,e5s eo' co' do' (by decide) ⟨kV k,H,I.turned (t':=s.toks) (λ b o hb eo=>(hs'.2 b hb).trans eo) f0 f1 f3 f4 f5,e6b hkey,⟨rfl,k,x,hq,rfl⟩,hi',λ c hcm=>by rw[List.mem_singleton.mp hcm];exact f0⟩⟩
 done:=by
  intro X hP hw hK hc i pins s σ H E I hf st hg
  subst hP hw hK
  obtain⟨hd,hi⟩:=hg
  obtain⟨ho,_⟩:=(show a3f X.prog X.w H s.heap d (.frz ob (.dK kvs)) from I.hok d _ hd)
  have hn:vs[i]?=none:=List.getElem?_eq_none_iff.mpr (by rw[<-rel.length];omega)
  refine wpAny_pyNext_dict_end (I.ok.hd hc) st (hat _ ho) hn λ h' k=>⟨rfl,?_⟩
  obtain⟨f0,f1,f2,f3,f4,f5⟩:=hf it (by simp)
  exact I.turned (t':=s.toks) (λ b o hb eo=>k b o hb eo) f0 f1 f3 f4 f5
 self:=λ _ _ _ _ _ st h=>wpAny_pyIter_keyiter st h
end
theorem d4d {d:Addr} {ob:Obj} {kvs:List (Key×V)} {g:TG} {tb:TS} {D:c4f} {σ:L2.St} {H:Hp} (Pv:Nat->L2.St->Hp->Prop) (h0:Pv 0 σ H) (hl:∀ i σ H,Pv i σ H->H d=some (.frz ob (.dK kvs)))
  (hs:∀ i k x σ H,kvs[i]?=some (k,x)->Pv i σ H->g (kV k) σ H λ σ2 H2=>tb {D with nx:=Pv (i+1),ct:=Pv (i+1),bk:=D.nx} σ2 H2) (hd:∀ σ H,Pv kvs.length σ H->D.nx σ H) :
  ∃ W:Nat->Nat->L2.St->Hp->Prop,(∃ m,W 0 m σ H)/\∀ i m σ H,W i m σ H ->
   ((ItK d ob kvs).stop i H/\D.nx σ H)\/((ItK d ob kvs).go i H/\∃ N:L2.St->Hp->Prop,(∀ σ' H',N σ' H'->∃ m',m' < m/\W (i+1) m' σ' H')/\∀ x H',(ItK d ob kvs).yld i H x H'->g x σ H' λ σ2 H2=>tb {D with nx:=N,ct:=N,bk:=D.nx} σ2 H2):=by
 refine⟨λ i m σ H=>m=kvs.length - i/\i<=kvs.length/\Pv i σ H,⟨kvs.length,by simp,Nat.zero_le _,h0⟩,?_⟩
 rintro i m σ H ⟨rfl,hi,p⟩
 by_cases hlt:i < kvs.length
 ·refine .inr ⟨⟨hl i σ H p,hlt⟩,Pv (i+1),λ σ' H' p'=>⟨kvs.length - (i+1),by omega,rfl,hlt,p'⟩,?_⟩
  rintro v H' ⟨rfl,k,x,hx,rfl⟩
  exact hs i k x σ _ hx p
 ·have e:i=kvs.length:=by omega
  subst e
  exact .inl ⟨⟨hl _ σ H p,rfl⟩,hd σ H p⟩
end My
namespace My
open PySem PySem.Spec PyProof.Rows L2 PyProof
def c9a (L:Addr) (h:Heap):List (Addr×Obj):=(List.range h.objs.size).filterMap λ b=>if b=L then none else (h.get? b).map λ o=>(b,o)
theorem d5h {L b:Addr} {h:Heap} {o:Obj} (n:b≠L) (e:h.get? b=some o):(b,o)∈c9a L h :=
 List.mem_filterMap.mpr ⟨b,List.mem_range.mpr (Heap.lt_size e),by rw[if_neg n,e];rfl⟩
theorem e0q {L:Addr} {h:Heap} {p:Addr×Obj} (m:p∈c9a L h):p.1≠L/\h.get? p.1=some p.2:=by
 obtain⟨b,_,e⟩:=List.mem_filterMap.mp m
 by_cases n:b=L
 ·rw[if_pos n] at e;cases e
 ·rw[if_neg n] at e
  obtain⟨o,e1,e2⟩:=Option.map_eq_some_iff.mp e
  subst e2
  exact⟨n,e1⟩
theorem b7x (b:Addr):(Heap.get? ({}:Heap) b)=none:=by
 cases e:Heap.get? ({}:Heap) b with
 | none=>rfl
 | some o=>exact absurd (Heap.lt_size e) (Nat.not_lt_zero _)
theorem e9p {h:Heap} {a:Addr} {m m':Str->Option Value} (x:h.Ns a m) (y:h.Ns a m'):m=m':=by
 obtain⟨o,es,ep,e1,e2,e3⟩:=x
 obtain⟨o',es',ep',f1,f2,f3⟩:=y
 rw[e1] at f1
 cases f1
 rw[e2] at f2
 cases f2
 exact funext λ x=>(e3.2 x).symm.trans (f3.2 x)
theorem d5o {X:Cx} {pins:List (Addr×Obj)} {σ:L2.St} {H:Hp} {s:Shared} {h':Heap} {t':Nat} {D:Addr} {u:HO} (I:Inv X pins σ H s) (keep:∀ b o,b≠X.env.locals->s.heap.get? b=some o->h'.get? b=some o)
  (ns:∀ m,s.heap.Ns X.env.locals m->h'.Ns X.env.locals m) (hD:s.heap.objs.size<=D) (new:a3f X.prog X.w (upd H D u) h' D u):Inv X pins σ (upd H D u) {s with heap:=h',toks:=t'}:=by
 have old:∀ b o,H b=some o->b≠D:=λ b o e=>Nat.ne_of_lt (Nat.lt_of_lt_of_le (I.hok b o e).lt hD)
 have was:∀ b o,s.heap.get? b=some o->b≠D:=λ b o e=>Nat.ne_of_lt (Nat.lt_of_lt_of_le (Heap.lt_size e) hD)
 refine I.step (g':=s.gens) (d':=s.drawn) (ch:=[]) (λ _ z=>nomatch z) (λ b o nL hb _ e n=>keep b o nL e) (λ b o nL hb _ e n=>⟨o.slots,keep b o nL e⟩) (λ b o _ e n=>by rw[a0h (was b o e)];exact n) (λ b o _ e=>?_) (λ b _ e=>by rw[a0h (old b _ e)];exact e) (λ b _ _ e=>by rw[a0h (old b _ e)];exact e) (λ b ps e=>⟨#[],by rw[a0h (old b _ e)];simpa using e⟩) ns (λ b v q=>?_) I.bare
 ·by_cases z:b=X.env.locals
  ·obtain⟨m,hn,_⟩:=I.loc
   obtain⟨o',_,_,e',_⟩:=ns m hn
   exact⟨o',z ▸ e'⟩
  ·exact⟨o,keep b o z e⟩
 ·by_cases hb:b=D
  ·subst hb
   rw[a0b] at q
   cases q
   exact new
  ·rw[a0h hb] at q
   refine(I.hok b v q).stay (λ c v hc z=>keep c v (λ y=>?_) z) (λ c z=>by rw[a0h (old c _ z)];exact z) λ c _ z=>by rw[a0h (old c _ z)];exact z
   have fr:=I.free
   rcases hc with rfl | hc
   ·rw[<-y,q] at fr;cases fr
   ·rw[<-y,hc] at fr;cases fr
end My
namespace My
open PySem PyProof.Rows
def kf (p:Keyed):Int:=numOf p.1
def f3l (p:Keyed):Prop:=∃ n t,p.1=.int n t
theorem f3l.is {p:Keyed} (h:f3l p):∃ t,p=(.int (kf p) t,p.2):=by
 obtain⟨n,t,e⟩:=h
 refine⟨t,?_⟩
 obtain⟨x,y⟩:=p
 cases (show x=.int n t from e)
 rfl
structure e4i (st st':SortSt):Prop where
 kind:kindOf st'=kindOf st
 arr:arrOf st'=arrOf st
 pend:pendingOf st'=pendingOf st
 fail:failedOf st'=failedOf st
theorem e4i.trans {a b c:SortSt} (h:e4i a b) (k:e4i b c):e4i a c:=⟨k.kind.trans h.kind,k.arr.trans h.arr,k.pend.trans h.pend,k.fail.trans h.fail⟩
structure Sb (a₀:Array Keyed) (pd:Array (Nat×Nat×Nat)) (lo:Nat) (xs:Array Keyed) (st:SortSt):Prop where
 perm:(arrOf st).Perm a₀
 kind:kindOf st=oneType'
 fail:failedOf st=none
 pend:pendingOf st=pd
 low:∀ k,k < lo->(arrOf st)[k]?=xs[k]?
section
variable {prog:Program} {w:World} {s:Shared} {A:Around} {E:Value->Shared->Prop} {a₀ xs:Array Keyed} {pd:Array (Nat×Nat×Nat)} {lo:Nat} {st:SortSt}
theorem Sb.size (h:Sb a₀ pd lo xs st):(arrOf st).size=a₀.size:=h.perm.size_eq
theorem Sb.set (h:Sb a₀ pd lo xs st) {ys:Array Keyed} (p:ys.Perm (arrOf st)) (l:∀ k,k < lo->ys[k]?=(arrOf st)[k]?):Sb a₀ pd lo xs (setArr st ys):=⟨p.trans h.perm,h.kind,h.fail,h.pend,λ k hk=>(l k hk).trans (h.low k hk)⟩
end
end My
namespace My
open PySem PySem.Spec PyProof.Rows L2
section
variable {X:Cx} {e a b:Expr} {es:List Expr} {te ta tb:TE} {t:TA} {pos:Pos}
def f4d (t u:TS):TS:=λ D σ H=>∃ W:L2.St->Hp->Prop,t {D with nx:=W} σ H/\∀ σ' H',W σ' H'->u D σ' H'
theorem a9e {st:Stmt} {c7y:List Stmt} {t u:TS} (h1:PS X st t) (h2:PSs X c7y u):PSs X (st::c7y) (f4d t u):=by
 constructor;intro pins s σ H D I ⟨W,h,k⟩
 refine wpAny_execs_cons (thn (h1 pins s σ H {D with nx:=W} I h) λ f s1 q=>?_)
 cases f with
 | next =>
  obtain⟨σ',H',I',q⟩:=q
  exact h2 pins s1 σ' H' D I' (k σ' H' q)
 | ret v=>exact q
 | brk=>exact q
 | cont=>exact q
end
theorem e8n.up {n:Nat} {x:Str} (hx:e8n n x) (ha:∀ c∈x.cps.toList,c < 128):e8n n (Txt.upper x):=by
 rw[upper_ascii ha]
 refine⟨?_,λ c hc=>?_⟩
 ·have e:(⟨x.cps.map up1⟩:Str).length=x.length:=by simp[Str.length]
  rw[e]
  exact hx.1
 ·have hc':c∈x.cps.toList.map up1:=by simpa using hc
  obtain⟨d,hd,rfl⟩:=List.mem_map.mp hc'
  have h1:=ha d hd
  have key:∀ d,d < 128->up1 d < 16 ^ 8:=by decide +kernel
  exact key d h1
end My
namespace My
open PySem PySem.Spec PyProof.Rows L2 PyProof
mutual
inductive Tr (H:Hp):V->PyData->Prop where
 | int (i:Int):Tr H (.int i) (.int i)
 | str (x:Str):Tr H (.str x) (.str x)
 | lst {a:Addr} {xs:List V} {ds:List PyData} (h:H a=some (.lst xs)) (r:Trs H xs ds):Tr H (.ref a) (.list ds)
 | tup {a:Addr} {xs:List V} {ds:List PyData} (h:H a=some (.tup xs)) (r:Trs H xs ds):Tr H (.ref a) (.tuple ds)
inductive Trs (H:Hp):List V->List PyData->Prop where
 | nil:Trs H [] []
 | cons {x:V} {d:PyData} {xs:List V} {ds:List PyData} (h:Tr H x d) (r:Trs H xs ds):Trs H (x::xs) (d::ds)
end
mutual
theorem Tr.same {H H':Hp} (s:Same H H') {v:V} {d:PyData} (h:Tr H v d):Tr H' v d:=by
 cases h with
 | int i=>exact .int i
 | str x=>exact .str x
 | lst h r=>exact .lst (s _ _ h) (Trs.same s r)
 | tup h r=>exact .tup (s _ _ h) (Trs.same s r)
theorem Trs.same {H H':Hp} (s:Same H H') {vs:List V} {ds:List PyData} (h:Trs H vs ds):Trs H' vs ds:=by
 cases h with
 | nil=>exact .nil
 | cons h r=>exact .cons (Tr.same s h) (Trs.same s r)
end
mutual
theorem Tr.dt {K:PySem.W.Frag} {H:Hp} {v:V} {d:PyData} (h:Tr H v d):Dt K H v d:=by
 cases h with
 | int i=>exact .int i
 | str x=>exact .str x
 | lst h r=>exact .lst (SqL.of h) (Trs.dts r)
 | tup h r=>exact .tup (SqT.of h) (Trs.dts r)
theorem Trs.dts {K:PySem.W.Frag} {H:Hp} {vs:List V} {ds:List PyData} (h:Trs H vs ds):Dts K H vs ds:=by
 cases h with
 | nil=>exact .nil
 | cons h r=>exact .cons (Tr.dt h) (Trs.dts r)
end
theorem Trs.len {H:Hp}:∀ {vs:List V} {ds:List PyData},Trs H vs ds->vs.length=ds.length
 | _,_,.nil=>rfl
 | _,_,.cons _ r=>by simp only [List.length_cons,Trs.len r]
theorem Trs.get {H:Hp}:∀ {vs:List V} {ds:List PyData},Trs H vs ds->∀ {i:Nat} {v:V},vs[i]?=some v->∃ d,ds[i]?=some d/\Tr H v d
 | _,_,.nil,i,v,e=>by simp at e
 | _,_,.cons h r,0,v,e=>by cases e;exact⟨_,rfl,h⟩
 | _,_,.cons h r,i+1,v,e=>Trs.get r (i:=i) (by simpa using e)
theorem Trs.at {H:Hp}:∀ {vs:List V} {ds:List PyData},Trs H vs ds->∀ {i:Nat} {d:PyData},ds[i]?=some d->∃ v,vs[i]?=some v/\Tr H v d
 | _,_,.nil,i,v,e=>by simp at e
 | _,_,.cons h r,0,v,e=>by cases e;exact⟨_,rfl,h⟩
 | _,_,.cons h r,i+1,v,e=>Trs.at r (i:=i) (by simpa using e)
theorem Trs.app {H:Hp}:∀ {vs us:List V} {ds es:List PyData},Trs H vs ds->Trs H us es->Trs H (vs++us) (ds++es)
 | _,_,_,_,.nil,r=>r
 | _,_,_,_,.cons h q,r=>.cons h (Trs.app q r)
theorem Trs.ints {H:Hp}:∀ {vs:List V} {ns:List Int},Trs H vs (ns.map PyData.int)->vs=ns.map V.int
 | _,[],.nil=>rfl
 | _,n::r,.cons h q=>by cases h;rw[Trs.ints q];rfl
theorem Trs.ofInts {H:Hp}:∀ (ns:List Int),Trs H (ns.map V.int) (ns.map PyData.int)
 | []=>.nil
 | n::r=>.cons (.int n) (Trs.ofInts r)
end My
namespace My
open PySem PySem.Spec PyProof.Rows L2
def off (H H':Hp):Hp:=λ b=>if (H b).isSome=true then none else H' b
def b9e (H:Hp) (D:Addr):Hp:=λ b=>if b=D then none else H b
def c7k (H1 H H3:Hp):Hp:=λ b=>if ((H1 b).isNone && (H b).isSome)=true then none else H3 b
theorem c7l {H H':Hp}:Same (off H H') H':=λ b o e=>by
 unfold off at e
 split at e
 ·cases e
 ·exact e
theorem b6r {H:Hp} {D:Addr}:Same (b9e H D) H:=λ b o e=>by
 unfold b9e at e
 split at e
 ·cases e
 ·exact e
theorem b2h {H H':Hp} {b:Addr} {o:HO} (h:H b=none) (e:H' b=some o):off H H' b=some o:=by
 unfold off
 rw[h]
 exact e
theorem a2t {H H':Hp} {b:Addr} {o:HO} (e:off H H' b=some o):H b=none/\H' b=some o:=by
 unfold off at e
 split at e
 ·cases e
 ·next h =>
  refine⟨?_,e⟩
  cases q:H b with
  | none=>rfl
  | some z=>rw[q] at h;exact absurd rfl h
theorem e2b {H H' H'':Hp} (s:Same H' H''):Same (off H H') (off H H''):=λ b o e=>b2h (a2t e).1 (s _ _ (a2t e).2)
theorem b3x {H1 H H3:Hp} {b:Addr} {o:HO} (h:H b=none) (e:H3 b=some o):c7k H1 H H3 b=some o:=by
 unfold c7k
 rw[h]
 simp[e]
theorem c3z {α β:Type} (f:α->Option β):∀ (as:List α),(List.range as.length).filterMap (λ i=>as[i]?.bind f)=as.filterMap f:=by
 intro as
 have key:∀ n,n<=as.length->(List.range n).filterMap (λ i=>as[i]?.bind f)=(as.take n).filterMap f:=by
  intro n
  induction n with
  | zero=>intro _;rfl
  | succ n ih =>
   intro h
   rw[List.range_succ,List.filterMap_append,ih (by omega),List.take_add_one,List.filterMap_append,List.getElem?_eq_getElem (show n < as.length by omega)]
   congr 1
   show List.filterMap (λ i=>as[i]?.bind f) [n]=List.filterMap f [as[n]]
   simp only [List.filterMap_cons,List.filterMap_nil,List.getElem?_eq_getElem (show n < as.length by omega),Option.bind]
 rw[key as.length (Nat.le_refl _),List.take_length]
theorem e8c {α:Type} {σ0 fs:L2.St} {k:Nat} {K:PySem.W.Frag} {l:Addr} {xs:List V} {g:TG} {tc:TT} {te:TE} {Q:VK} {H1:Hp} (as:List α) (dx:α->PyData) (f:α->Option V) (h0:σ0=List.replicate k none++fs) (hl:H1 l=some (.lst xs)) (ht:Trs H1 xs (as.map dx)) (hz:as.length<=sizeLine)
  (step:∀ a,a∈as->∀ H (ts:L2.St) v (R:Option V->L2.St->Hp->Prop),Same H1 H->ts.length=k->Tr H v (dx a)->(∀ (ts2:L2.St) H3,ts2.length=k->Same H H3->R (f a) (ts2++fs) H3) ->
   g v (ts++fs) H λ τ2 H2=>tc τ2 H2 λ ok H3=>if ok=true then te τ2 H3 λ y H4=>R (some y) τ2 H4 else R none τ2 H3)
  (fin:∀ D H',H1 D=none->Same H1 H'->H' D=some (.lst (as.filterMap f))->Q (.ref D) H'):b1i σ0 (Itl K l) g tc te Q H1:=by
 have hn:xs.length=as.length:=by rw[ht.len,List.length_map]
 refine b6z as.length (λ i=>as[i]?.bind f) h0 hz (λ i H ss hi=>(a2s (SqL.of (ss _ _ hl))).go i (by omega)) (λ H ss=>(a2s (SqL.of (ss _ _ hl))).stop _ (by omega)) ?_ λ D H' hD ss hd=>fin D H' hD ss (by rw[hd,c3z])
 rintro i H ts v H' R ss hi hts ⟨rfl,yy⟩ cont
 have e:=yy xs (SqL.of (ss _ _ hl))
 obtain⟨d,hd,tr⟩:=ht.get e
 rw[List.getElem?_map] at hd
 cases ea:as[i]? with
 | none=>rw[ea] at hd;cases hd
 | some a =>
  rw[ea] at hd
  cases hd
  exact step a (List.mem_of_getElem? ea) H' ts v R ss hts (tr.same ss) λ ts2 H3 h2 s3=>by
   have:=cont ts2 H3 h2 s3
   rw[ea] at this
   exact this
theorem f2t {α:Type} {σ0 fs:L2.St} {k:Nat} {K:PySem.W.Frag} {l:Addr} {xs:List V} {g:TG} {tc:TT} {te:TE} {Q:VK} {H1:Hp} (S:Hp->Hp->Hp) (Z:Addr->Hp->Hp) (as:List α) (dx:α->PyData) (dy:α->Option PyData) (h0:σ0=List.replicate k none++fs) (hl:H1 l=some (.lst xs)) (ht:Trs H1 xs (as.map dx)) (hz:as.length<=sizeLine)
  (z1:∀ D H H3 o,H1 D=none->Same H1 H->H D=some o->Same H H3->Same (Z D H) (Z D H3)) (z2:∀ D H H3 o zs,H1 D=none->Same H1 H->H D=some o->Same H H3->Same (S H H3) (Z D (upd H3 D (.lst zs))))
  (z3:∀ D H o zs,H1 D=none->Same H1 H->H D=some o->Same (Z D H) (Z D (upd H D (.lst zs))))
  (step:∀ a,a∈as->∀ H (ts:L2.St) v (R:Option V->L2.St->Hp->Prop),Same H1 H->ts.length=k->Tr H v (dx a)->Tr H1 v (dx a)->(∀ d y (ts2:L2.St) H3,dy a=some d->ts2.length=k->Same H H3->Tr (S H H3) y d->R (some y) (ts2++fs) H3)->(dy a=none->∀ (ts2:L2.St) H3,ts2.length=k->Same H H3->R none (ts2++fs) H3) ->
   g v (ts++fs) H λ τ2 H2=>tc τ2 H2 λ ok H3=>if ok=true then te τ2 H3 λ y H4=>R (some y) τ2 H4 else R none τ2 H3)
  (fin:∀ D H' ys,H1 D=none->Same H1 H'->H' D=some (.lst ys)->Trs (Z D H') ys (as.filterMap dy)->Q (.ref D) H'):b1i σ0 (Itl K l) g tc te Q H1:=by
 have hn:xs.length=as.length:=by rw[ht.len,List.length_map]
 intro D hD
 refine⟨λ i m ys τ H=>m=as.length - i/\i<=as.length/\ys.length<=i/\Trs (Z D H) ys ((as.take i).filterMap dy)/\(∃ ts:L2.St,ts.length=k/\τ=ts++fs)/\Same H1 H/\H D=some (.lst ys),⟨as.length,rfl,Nat.zero_le _,Nat.le_refl _,.nil,⟨_,List.length_replicate,h0⟩,Same.upd hD,a0b⟩,?_⟩
 rintro i m ys τ H ⟨rfl,hi,hyl,hp,⟨ts,hts,rfl⟩,ss,hd⟩
 refine⟨hd,?_⟩
 by_cases hlt:i < as.length
 ·refine .inr ⟨(a2s (SqL.of (ss _ _ hl))).go i (by omega),by omega,?_⟩
  rintro v H' ⟨rfl,yy⟩
  have e:=yy xs (SqL.of (ss _ _ hl))
  obtain⟨d,hde,tr⟩:=ht.get e
  have ea:as[i]?=some as[i]:=List.getElem?_eq_getElem hlt
  rw[List.getElem?_map,ea] at hde
  cases hde
  refine step as[i] (List.getElem_mem hlt) H' ts v (λ o τ2 H3=>match o with
   | some y=>H3 D=some (.lst ys)/\∃ m',m' < as.length - i/\m'=as.length - (i+1)/\i+1<=as.length/\(ys++[y]).length<=i+1/\Trs (Z D (upd H3 D (.lst (ys++[y])))) (ys++[y]) ((as.take (i+1)).filterMap dy)/\(∃ ts:L2.St,ts.length=k/\τ2=ts++fs)/\Same H1 (upd H3 D (.lst (ys++[y])))/\upd H3 D (.lst (ys++[y])) D=some (.lst (ys++[y]))
   | none=>∃ m',m' < as.length - i/\m'=as.length - (i+1)/\i+1<=as.length/\ys.length<=i+1/\Trs (Z D H3) ys ((as.take (i+1)).filterMap dy)/\(∃ ts:L2.St,ts.length=k/\τ2=ts++fs)/\Same H1 H3/\H3 D=some (.lst ys)) ss hts (tr.same ss) tr (λ d y ts2 H3 hy h2 s3 tr3=>?_) λ hy ts2 H3 h2 s3=>?_
  ·refine⟨s3 _ _ hd,as.length - (i+1),by omega,rfl,hlt,(by rw[List.length_append,List.length_singleton];omega),?_,⟨ts2,h2,rfl⟩,(ss.trans s3).again hD,a0b⟩
   rw[List.take_add_one,ea,List.filterMap_append]
   refine((hp.same (z1 D H' H3 _ hD ss hd s3)).same (z3 D H3 _ _ hD (ss.trans s3) (s3 _ _ hd))).app ?_
   show Trs _ [y] (List.filterMap dy [as[i]])
   rw[List.filterMap_cons,hy]
   exact .cons (tr3.same (z2 D H' H3 _ _ hD ss hd s3)) .nil
  ·refine⟨as.length - (i+1),by omega,rfl,hlt,by omega,?_,⟨ts2,h2,rfl⟩,ss.trans s3,s3 _ _ hd⟩
   rw[List.take_add_one,ea,List.filterMap_append]
   have e0:List.filterMap dy (some as[i]).toList=[]:=by
    show List.filterMap dy [as[i]]=[]
    rw[List.filterMap_cons,hy]
    rfl
   rw[e0,List.append_nil]
   exact hp.same (z1 D H' H3 _ hD ss hd s3)
 ·have e:i=as.length:=by omega
  subst e
  rw[List.take_length] at hp
  exact .inl ⟨(a2s (SqL.of (ss _ _ hl))).stop _ (by omega),fin D H ys hD ss hd hp⟩
theorem a4g {H:Hp} {D b:Addr} {o:HO} (e:b9e H D b=some o):b≠D/\H b=some o:=by
 unfold b9e at e
 split at e
 ·cases e
 ·next h=>exact⟨h,e⟩
theorem a7b {H:Hp} {D b:Addr} {o:HO} (h:b≠D) (e:H b=some o):b9e H D b=some o:=by
 unfold b9e
 rw[if_neg h]
 exact e
theorem f1y {α:Type} {σ0 fs:L2.St} {k:Nat} {K:PySem.W.Frag} {l:Addr} {xs:List V} {g:TG} {tc:TT} {te:TE} {Q:VK} {H1:Hp} (as:List α) (dx:α->PyData) (dy:α->Option PyData) (h0:σ0=List.replicate k none++fs) (hl:H1 l=some (.lst xs)) (ht:Trs H1 xs (as.map dx)) (hz:as.length<=sizeLine)
  (step:∀ a,a∈as->∀ H (ts:L2.St) v (R:Option V->L2.St->Hp->Prop),Same H1 H->ts.length=k->Tr H v (dx a)->(∀ d y (ts2:L2.St) H3,dy a=some d->ts2.length=k->Same H H3->Tr (c7k H1 H H3) y d->R (some y) (ts2++fs) H3)->(dy a=none->∀ (ts2:L2.St) H3,ts2.length=k->Same H H3->R none (ts2++fs) H3) ->
   g v (ts++fs) H λ τ2 H2=>tc τ2 H2 λ ok H3=>if ok=true then te τ2 H3 λ y H4=>R (some y) τ2 H4 else R none τ2 H3)
  (fin:∀ D H' ys,H1 D=none->Same H1 H'->H' D=some (.lst ys)->Trs (b9e H' D) ys (as.filterMap dy)->Q (.ref D) H'):b1i σ0 (Itl K l) g tc te Q H1 :=
 f2t (λ H H3=>c7k H1 H H3) (λ D H=>b9e H D) as dx dy h0 hl ht hz (λ D H H3 o hD s1 hd s3 b ob e=>a7b (a4g e).1 (s3 _ _ (a4g e).2))
  (λ D H H3 o zs hD s1 hd s3 b ob e=>by
   have hb:b≠D:=λ z=>by
    rw[z] at e
    unfold c7k at e
    rw[hD,hd] at e
    simp at e
   refine a7b hb ?_
   rw[a0h hb]
   unfold c7k at e
   split at e
   ·cases e
   ·exact e)
  (λ D H o zs hD s1 hd b ob e=>a7b (a4g e).1 (by rw[a0h (a4g e).1];exact(a4g e).2))
  (λ a ha H ts v R ss hts tr _ cs cn=>step a ha H ts v R ss hts tr cs cn) fin
theorem a4k {Ha H H3:Hp} {b:Addr} {o:HO}:c7k Ha H H3 b=some o ↔ H3 b=some o/\¬ (Ha b=none/\∃ z,H b=some z):=by
 unfold c7k
 constructor
 ·intro e
  split at e
  ·cases e
  ·next h =>
   refine⟨e,λ ⟨h1,z,h2⟩=>h ?_⟩
   rw[h1,h2]
   rfl
 ·rintro⟨e,h⟩
  rw[if_neg]
  ·exact e
  ·intro z
   rw[Bool.and_eq_true] at z
   refine h ⟨Option.isNone_iff_eq_none.mp z.1,?_⟩
   exact Option.isSome_iff_exists.mp z.2
theorem e2t {α:Type} {σ0 fs:L2.St} {k:Nat} {K:PySem.W.Frag} {l:Addr} {xs:List V} {g:TG} {tc:TT} {te:TE} {Q:VK} {H1:Hp} (Hb:Hp) (sb:Same Hb H1) (as:List α) (dx:α->PyData) (dy:α->Option PyData) (h0:σ0=List.replicate k none++fs) (hl:H1 l=some (.lst xs)) (ht:Trs Hb xs (as.map dx)) (hz:as.length<=sizeLine)
  (step:∀ a,a∈as->∀ H (ts:L2.St) v (R:Option V->L2.St->Hp->Prop),Same H1 H->ts.length=k->Tr Hb v (dx a)->(∀ d y (ts2:L2.St) H3,dy a=some d->ts2.length=k->Same H H3->Tr (c7k Hb H H3) y d->R (some y) (ts2++fs) H3)->(dy a=none->∀ (ts2:L2.St) H3,ts2.length=k->Same H H3->R none (ts2++fs) H3) ->
   g v (ts++fs) H λ τ2 H2=>tc τ2 H2 λ ok H3=>if ok=true then te τ2 H3 λ y H4=>R (some y) τ2 H4 else R none τ2 H3)
  (fin:∀ D H' ys,H1 D=none->Same H1 H'->H' D=some (.lst ys)->Trs (b9e (c7k Hb H1 H') D) ys (as.filterMap dy)->Q (.ref D) H'):b1i σ0 (Itl K l) g tc te Q H1:=by
 have hn:xs.length=as.length:=by rw[ht.len,List.length_map]
 have z1:∀ D H H3,Same H H3->Same (b9e (c7k Hb H1 H) D) (b9e (c7k Hb H1 H3) D):=λ D H H3 s3 b o e=>by
  obtain⟨e1,e2⟩:=a4g e
  obtain⟨e3,e4⟩:=a4k.mp e2
  exact a7b e1 (a4k.mpr ⟨s3 _ _ e3,e4⟩)
 have z3:∀ D H zs,Same (b9e (c7k Hb H1 H) D) (b9e (c7k Hb H1 (upd H D (.lst zs))) D):=λ D H zs b o e=>by
  obtain⟨e1,e2⟩:=a4g e
  obtain⟨e3,e4⟩:=a4k.mp e2
  exact a7b e1 (a4k.mpr ⟨by rw[a0h e1];exact e3,e4⟩)
 intro D hD
 have hDb:Hb D=none:=sb.free hD
 refine⟨λ i m ys τ H=>m=as.length - i/\i<=as.length/\ys.length<=i/\Trs (b9e (c7k Hb H1 H) D) ys ((as.take i).filterMap dy)/\(∃ ts:L2.St,ts.length=k/\τ=ts++fs)/\Same H1 H/\H D=some (.lst ys),⟨as.length,rfl,Nat.zero_le _,Nat.le_refl _,.nil,⟨_,List.length_replicate,h0⟩,Same.upd hD,a0b⟩,?_⟩
 rintro i m ys τ H ⟨rfl,hi,hyl,hp,⟨ts,hts,rfl⟩,ss,hd⟩
 refine⟨hd,?_⟩
 by_cases hlt:i < as.length
 ·refine .inr ⟨(a2s (SqL.of (ss _ _ hl))).go i (by omega),by omega,?_⟩
  rintro v H' ⟨rfl,yy⟩
  have e:=yy xs (SqL.of (ss _ _ hl))
  obtain⟨d,hde,tr⟩:=ht.get e
  have ea:as[i]?=some as[i]:=List.getElem?_eq_getElem hlt
  rw[List.getElem?_map,ea] at hde
  cases hde
  refine step as[i] (List.getElem_mem hlt) H' ts v (λ o τ2 H3=>match o with
   | some y=>H3 D=some (.lst ys)/\∃ m',m' < as.length - i/\m'=as.length - (i+1)/\i+1<=as.length/\(ys++[y]).length<=i+1/\Trs (b9e (c7k Hb H1 (upd H3 D (.lst (ys++[y])))) D) (ys++[y]) ((as.take (i+1)).filterMap dy)/\(∃ ts:L2.St,ts.length=k/\τ2=ts++fs)/\Same H1 (upd H3 D (.lst (ys++[y])))/\upd H3 D (.lst (ys++[y])) D=some (.lst (ys++[y]))
   | none=>∃ m',m' < as.length - i/\m'=as.length - (i+1)/\i+1<=as.length/\ys.length<=i+1/\Trs (b9e (c7k Hb H1 H3) D) ys ((as.take (i+1)).filterMap dy)/\(∃ ts:L2.St,ts.length=k/\τ2=ts++fs)/\Same H1 H3/\H3 D=some (.lst ys)) ss hts tr (λ d y ts2 H3 hy h2 s3 tr3=>?_) λ hy ts2 H3 h2 s3=>?_
  ·refine⟨s3 _ _ hd,as.length - (i+1),by omega,rfl,hlt,(by rw[List.length_append,List.length_singleton];omega),?_,⟨ts2,h2,rfl⟩,(ss.trans s3).again hD,a0b⟩
   rw[List.take_add_one,ea,List.filterMap_append]
   refine((hp.same (z1 D H' H3 s3)).same (z3 D H3 _)).app ?_
   show Trs _ [y] (List.filterMap dy [as[i]])
   rw[List.filterMap_cons,hy]
   refine .cons (tr3.same λ b o eb=>?_) .nil
   obtain⟨e3,e4⟩:=a4k.mp eb
   have hb:b≠D:=λ z=>e4 ⟨by rw[z];exact hDb,_,by rw[z];exact hd⟩
   exact a7b hb (a4k.mpr ⟨by rw[a0h hb];exact e3,λ ⟨h1,z,h2⟩=>e4 ⟨h1,z,ss _ _ h2⟩⟩)
  ·refine⟨as.length - (i+1),by omega,rfl,hlt,by omega,?_,⟨ts2,h2,rfl⟩,ss.trans s3,s3 _ _ hd⟩
   rw[List.take_add_one,ea,List.filterMap_append]
   have e0:List.filterMap dy (some as[i]).toList=[]:=by
    show List.filterMap dy [as[i]]=[]
    rw[List.filterMap_cons,hy]
    rfl
   rw[e0,List.append_nil]
   exact hp.same (z1 D H' H3 s3)
 ·have e:i=as.length:=by omega
  subst e
  rw[List.take_length] at hp
  exact .inl ⟨(a2s (SqL.of (ss _ _ hl))).stop _ (by omega),fin D H ys hD ss hd hp⟩
theorem e5z {X:Cx} {K:PySem.W.Frag} (hK:X.K=K) (hu:X.A.units+64 < cLine):OpR X (compareOp .NotEq) (f3s K):=by
 subst hK
 exact c4r hu
theorem b6p {X:Cx} {K:PySem.W.Frag} (hK:X.K=K):b7n X (.type "list") (λ xs H Q=>∃ p ys,xs=[.ref p]/\(SqL K H p ys\/SqT K H p ys)/\∀ l,H l=none->Q (.ref l) (upd H l (.lst ys))):=by
 subst hK
 exact a5h
end My
namespace My
open PySem PySem.W PyProof.Rows
def a2l {α:Type} (f:Nat->Int):KasT α->α
 | .ret a=>a
 | .ask i j k=>a2l f (k (decide (f i < f j)))
theorem a9q {α β:Type} (f:Nat->Int) (g:α->KasT β):∀ t:KasT α,a2l f (t.bind g)=a2l f (g (a2l f t))
 | .ret _=>rfl
 | .ask _ _ k=>a9q f g (k _)
def KA (f:Nat->Int) (p:Array Nat) (i:Nat):Int:=f (p.getD i 0)
theorem d6o {f:Nat->Int} {p q:Array Nat} {i j:Nat} (e:p[i]?=q[j]?):KA f p i=KA f q j:=by
 unfold KA
 rw[Array.getD_eq_getD_getElem?,Array.getD_eq_getD_getElem?,e]
theorem d4y {f:Nat->Int} {p:Array Nat} {i j:Nat} (hj:j<=p.size) (k:Nat):KA f (kas_rev p i j) k=if i<=k/\k < j then KA f p (i+j - 1 - k) else KA f p k:=by
 have e:=getElem?_mirror_all (i:=i) hj k
 unfold kas_rev
 by_cases h:i<=k/\k < j
 ·rw[if_pos h] at e ⊢;exact d6o e
 ·rw[if_neg h] at e ⊢;exact d6o e
theorem e4y {f:Nat->Int} {p:Array Nat} {src d:Nat} (hs:src < p.size) (hd:d<=src) (k:Nat):KA f (bubble p src d) k=if k=src - d then KA f p src else if src - d < k/\k<=src then KA f p (k - 1) else KA f p k:=by
 have e:=getElem?_bubble hs d hd k
 by_cases h1:k=src - d
 ·rw[if_pos h1] at e ⊢;exact d6o e
 ·rw[if_neg h1] at e ⊢
  by_cases h2:src - d < k/\k<=src
  ·rw[if_pos h2] at e ⊢;exact d6o e
  ·rw[if_neg h2] at e ⊢;exact d6o e
theorem a8j (p:Array Nat) (i j:Nat):(kas_rev p i j).Perm p:=mirror_perm _ _ _ _
theorem c6v (p:Array Nat) (i j:Nat):(kas_rev p i j).size=p.size:=mirror_size _ _ _ _
def c0j (f:Nat->Int) (p:Array Nat) (hi:Nat):Prop:=∀ i j,i<=j->j < hi->KA f p i<=KA f p j
def c6b (f:Nat->Int) (p:Array Nat) (hi:Nat):Prop:=∀ i j,i<=j->j < hi->KA f p j<=KA f p i
def e1g (f:Nat->Int) (p:Array Nat) (n q:Nat):Prop:=∀ i,n - (q+1)<=i->i < n->KA f p i=KA f p (n - 1)
theorem d5l {f:Nat->Int} {p:Array Nat} {n:Nat} (h:c0j f p n) (h1:1<=n) (z:KA f p (n - 1)<=KA f p n):c0j f p (n+1):=λ i j a b=>by
 by_cases e:j=n
 ·subst e
  by_cases e2:i=j
  ·subst e2;exact Int.le_refl _
  ·exact Int.le_trans (h i (j - 1) (by omega) (by omega)) z
 ·exact h i j a (by omega)
theorem a9t {f:Nat->Int} {p:Array Nat} {n:Nat} (h:c6b f p n) (h1:1<=n) (z:KA f p n<=KA f p (n - 1)):c6b f p (n+1):=λ i j a b=>by
 by_cases e:j=n
 ·subst e
  by_cases e2:i=j
  ·subst e2;exact Int.le_refl _
  ·exact Int.le_trans z (h i (j - 1) (by omega) (by omega))
 ·exact h i j a (by omega)
theorem c6h {f:Nat->Int} {p q:Array Nat} {n:Nat} (h:c6b f p n) (e:∀ k,KA f q k=KA f p k):c6b f q n:=λ i j a b=>by rw[e,e];exact h i j a b
theorem d1c (f:Nat->Int) (p:Array Nat):∀ k n,1<=n->c0j f p n->n<=a2l f (kas_asc p k n)/\a2l f (kas_asc p k n)<=n+k/\c0j f p (a2l f (kas_asc p k n)) /\
  (a2l f (kas_asc p k n)=n+k\/KA f p (a2l f (kas_asc p k n)) < KA f p (a2l f (kas_asc p k n) - 1))
 | 0,n,_,h=>⟨Nat.le_refl _,Nat.le_refl _,h,.inl rfl⟩
 | k+1,n,h1,h=>by
  have e:a2l f (kas_asc p (k+1) n)=a2l f (if decide (KA f p n < KA f p (n - 1))=true then KasT.ret n else kas_asc p k (n+1)):=rfl
  by_cases z:KA f p n < KA f p (n - 1)
  ·rw[if_pos (decide_eq_true z)] at e
   rw[e]
   exact⟨Nat.le_refl _,Nat.le_add_right _ _,h,.inr z⟩
  ·rw[if_neg (by simpa using z)] at e
   rw[e]
   obtain⟨a,b,c,d⟩:=d1c f p k (n+1) (by omega) (d5l h h1 (by omega))
   exact⟨by omega,by omega,c,d.imp (λ x=>by omega) id⟩
theorem d5b {f:Nat->Int} {p:Array Nat} {n q:Nat} (hn:n<=p.size) (e:e1g f p n q) (k:Nat):KA f (kas_rev p (n - (q+1)) n) k=KA f p k:=by
 rw[d4y hn]
 split
 ·next z=>rw[e k z.1 z.2,e _ (by omega) (by omega)]
 ·rfl
theorem b8b {f:Nat->Int} {p:Array Nat} {n:Nat}:e1g f p n 0:=λ i a b=>by rw[show i=n - 1 by omega]
theorem c0b (f:Nat->Int):∀ (k:Nat) (p:Array Nat) (n q:Nat),1<=n->q+1<=n->n+k<=p.size->c6b f p n->e1g f p n q ->
  (a2l f (kas_desc k p n q)).1.Perm p/\n<=(a2l f (kas_desc k p n q)).2.1/\(a2l f (kas_desc k p n q)).2.1<=n+k/\(a2l f (kas_desc k p n q)).2.2+1<=(a2l f (kas_desc k p n q)).2.1 /\
  c6b f (a2l f (kas_desc k p n q)).1 (a2l f (kas_desc k p n q)).2.1/\e1g f (a2l f (kas_desc k p n q)).1 (a2l f (kas_desc k p n q)).2.1 (a2l f (kas_desc k p n q)).2.2
 | 0,p,n,q,_,h2,_,h4,h5=>⟨.refl _,Nat.le_refl _,Nat.le_refl _,h2,h4,h5⟩
 | k+1,p,n,q,h1,h2,h3,h4,h5=>by
  have e:a2l f (kas_desc (k+1) p n q)=a2l f (if decide (KA f p n < KA f p (n - 1))=true then (if q > 0 then kas_desc k (kas_rev p (n - (q+1)) n) (n+1) 0 else kas_desc k p (n+1) 0)
   else .ask (p.getD (n - 1) 0) (p.getD n 0) λ d=>if d=true then .ret (p,n,q) else kas_desc k p (n+1) (q+1)):=rfl
  by_cases z:KA f p n < KA f p (n - 1)
  ·rw[if_pos (decide_eq_true z)] at e
   by_cases z2:q > 0
   ·rw[if_pos z2] at e
    rw[e]
    obtain⟨a,b,c,d⟩:=c0b f k (kas_rev p (n - (q+1)) n) (n+1) 0 (by omega) (by omega) (by rw[c6v];omega) (c6h (a9t h4 h1 (Int.le_of_lt z)) (d5b (by omega) h5)) b8b
    exact⟨a.trans (a8j _ _ _),by omega,by omega,d⟩
   ·rw[if_neg z2] at e
    rw[e]
    obtain⟨a,b,c,d⟩:=c0b f k p (n+1) 0 (by omega) (by omega) (by omega) (a9t h4 h1 (Int.le_of_lt z)) b8b
    exact⟨a,by omega,by omega,d⟩
  ·rw[if_neg (by simpa using z)] at e
   have e':a2l f (kas_desc (k+1) p n q)=a2l f (if decide (KA f p (n - 1) < KA f p n)=true then KasT.ret (p,n,q) else kas_desc k p (n+1) (q+1)):=e
   by_cases z2:KA f p (n - 1) < KA f p n
   ·rw[if_pos (decide_eq_true z2)] at e'
    rw[e']
    exact⟨.refl _,Nat.le_refl _,Nat.le_add_right n (k+1),h2,h4,h5⟩
   ·rw[if_neg (by simpa using z2)] at e'
    rw[e']
    obtain⟨a,b,c,d⟩:=c0b f k p (n+1) (q+1) (by omega) (by omega) (by omega) (a9t h4 h1 (by omega)) λ i i1 i2=>by
     show KA f p i=KA f p n
     by_cases ei:i=n
     ·rw[ei]
     ·rw[h5 i (by omega) (by omega)];omega
    exact⟨a,by omega,by omega,d⟩
theorem c8h (f:Nat->Int) {n nrem:Nat} {p:Array Nat} (h1:1<=n) (h2:n<=nrem) (h3:nrem<=p.size) (h:c6b f p n) :
  (a2l f (kas_tail3 n nrem p)).2.Perm p/\1<=(a2l f (kas_tail3 n nrem p)).1/\(a2l f (kas_tail3 n nrem p)).1<=nrem/\c0j f (a2l f (kas_tail3 n nrem p)).2 (a2l f (kas_tail3 n nrem p)).1:=by
 have e:a2l f (kas_tail3 n nrem p)=(a2l f (kas_asc (kas_rev p 0 n) (nrem - n) n),kas_rev p 0 n):=by unfold kas_tail3;rw[a9q];rfl
 obtain⟨a,b,c,_⟩:=d1c f (kas_rev p 0 n) (nrem - n) n h1 λ i j i1 i2=>by
  rw[d4y (by omega),d4y (by omega),if_pos (by omega),if_pos (by omega)]
  exact h _ _ (by omega) (by omega)
 rw[e]
 exact⟨a8j _ _ _,by show 1<=a2l f _;omega,by show a2l f _<=nrem;omega,c⟩
theorem d3o (f:Nat->Int) {n nrem:Nat} {p:Array Nat} (h2:n+1<=nrem) (h3:nrem<=p.size) (h:c6b f p (n+1)) :
  (a2l f (kas_descPart n nrem p)).2.Perm p/\1<=(a2l f (kas_descPart n nrem p)).1/\(a2l f (kas_descPart n nrem p)).1<=nrem/\c0j f (a2l f (kas_descPart n nrem p)).2 (a2l f (kas_descPart n nrem p)).1:=by
 obtain⟨a,b,c,d,e1,e2⟩:=c0b f (nrem - (n+1)) p (n+1) 0 (by omega) (by omega) (by omega) h b8b
 have e:a2l f (kas_descPart n nrem p)=a2l f (if (a2l f (kas_desc (nrem - (n+1)) p (n+1) 0)).2.2 > 0 then kas_tail3 (a2l f (kas_desc (nrem - (n+1)) p (n+1) 0)).2.1 nrem (kas_rev (a2l f (kas_desc (nrem - (n+1)) p (n+1) 0)).1
   ((a2l f (kas_desc (nrem - (n+1)) p (n+1) 0)).2.1 - ((a2l f (kas_desc (nrem - (n+1)) p (n+1) 0)).2.2+1)) (a2l f (kas_desc (nrem - (n+1)) p (n+1) 0)).2.1)
   else kas_tail3 (a2l f (kas_desc (nrem - (n+1)) p (n+1) 0)).2.1 nrem (a2l f (kas_desc (nrem - (n+1)) p (n+1) 0)).1):=by unfold kas_descPart;rw[a9q]
 generalize a2l f (kas_desc (nrem - (n+1)) p (n+1) 0)=r at a b c d e1 e2 e
 have sz:=a.size_eq
 by_cases z:r.2.2 > 0
 ·rw[if_pos z] at e
  rw[e]
  obtain⟨x,y⟩:=c8h f (n:=r.2.1) (nrem:=nrem) (p:=kas_rev r.1 (r.2.1 - (r.2.2+1)) r.2.1) (by omega) (by omega) (by rw[c6v];omega) (c6h e1 (d5b (by omega) e2))
  exact⟨x.trans ((a8j _ _ _).trans a),y⟩
 ·rw[if_neg z] at e
  rw[e]
  obtain⟨x,y⟩:=c8h f (n:=r.2.1) (nrem:=nrem) (p:=r.1) (by omega) (by omega) (by omega) e1
  exact⟨x.trans a,y⟩
theorem d8w (f:Nat->Int) {nrem:Nat} {p:Array Nat} (h1:1<=nrem) (h3:nrem<=p.size) :
  (a2l f (kas_count nrem p)).2.Perm p/\1<=(a2l f (kas_count nrem p)).1/\(a2l f (kas_count nrem p)).1<=nrem/\c0j f (a2l f (kas_count nrem p)).2 (a2l f (kas_count nrem p)).1:=by
 obtain⟨a,b,hr,hor⟩:=d1c f p (nrem - 1) 1 (Nat.le_refl _) λ i j i1 i2=>by rw[show i=j by omega];exact Int.le_refl _
 have e:a2l f (kas_count nrem p)=a2l f (if (a2l f (kas_asc p (nrem - 1) 1) == nrem)=true then .ret (a2l f (kas_asc p (nrem - 1) 1),p) else if a2l f (kas_asc p (nrem - 1) 1) > 1 then
  .ask (p.getD 0 0) (p.getD (a2l f (kas_asc p (nrem - 1) 1) - 1) 0) λ c=>if c=true then .ret (a2l f (kas_asc p (nrem - 1) 1),p) else kas_descPart (a2l f (kas_asc p (nrem - 1) 1)) nrem (kas_rev p 0 (a2l f (kas_asc p (nrem - 1) 1)))
  else kas_descPart (a2l f (kas_asc p (nrem - 1) 1)) nrem p):=by unfold kas_count;rw[a9q]
 generalize a2l f (kas_asc p (nrem - 1) 1)=n at a b hr hor e
 by_cases z:n=nrem
 ·subst z
  rw[if_pos (by simp)] at e
  rw[e]
  exact⟨.refl _,h1,Nat.le_refl _,hr⟩
 ·rw[if_neg (by simpa using z)] at e
  have hlt:KA f p n < KA f p (n - 1):=hor.resolve_left (by omega)
  by_cases z2:n > 1
  ·rw[if_pos z2] at e
   have e':a2l f (kas_count nrem p)=a2l f (if decide (KA f p 0 < KA f p (n - 1))=true then .ret (n,p) else kas_descPart n nrem (kas_rev p 0 n)):=e
   by_cases z3:KA f p 0 < KA f p (n - 1)
   ·rw[if_pos (decide_eq_true z3)] at e'
    rw[e']
    exact⟨.refl _,a,by show n<=nrem;omega,hr⟩
   ·rw[if_neg (by simpa using z3)] at e'
    rw[e']
    have eqK:∀ k,KA f (kas_rev p 0 n) k=KA f p k:=λ k=>by
     rw[d4y (by omega)]
     split
     ·next q =>
      have z1:=hr 0 k (by omega) (by omega)
      have z2:=hr k (n - 1) (by omega) (by omega)
      have z3:=hr 0 (0+n - 1 - k) (by omega) (by omega)
      have z4:=hr (0+n - 1 - k) (n - 1) (by omega) (by omega)
      omega
     ·rfl
    have fl:c6b f (kas_rev p 0 n) (n+1):=c6h (a9t (λ i j i1 i2=>by
     have z1:=hr 0 i (by omega) (by omega)
     have z2:=hr j (n - 1) (by omega) (by omega)
     omega) (by omega) (Int.le_of_lt hlt)) eqK
    obtain⟨x,y⟩:=d3o f (n:=n) (nrem:=nrem) (p:=kas_rev p 0 n) (by omega) (by rw[c6v];omega) fl
    exact⟨x.trans (a8j _ _ _),y⟩
  ·rw[if_neg z2] at e
   rw[e]
   exact d3o f (n:=n) (nrem:=nrem) (p:=p) (by omega) h3 (a9t (λ i j i1 i2=>by rw[show i=j by omega];exact Int.le_refl _) (by omega) (Int.le_of_lt hlt))
theorem c1i (f:Nat->Int) {p:Array Nat} {k:Nat} (hr:c0j f p k):∀ d l r,l<=r->r<=k->r - l<=d->(∀ i,i < l->KA f p i<=KA f p k)->(∀ i,r<=i->i < k->KA f p k < KA f p i) ->
  a2l f (kas_place p k d l r)<=k/\(∀ i,i < a2l f (kas_place p k d l r)->KA f p i<=KA f p k)/\∀ i,a2l f (kas_place p k d l r)<=i->i < k->KA f p k < KA f p i
 | 0,l,r,h1,h2,h3,q1,q2=>by
  have:l=r:=by omega
  subst this
  exact⟨h2,q1,q2⟩
 | d+1,l,r,h1,h2,h3,q1,q2=>by
  have e:a2l f (kas_place p k (d+1) l r)=a2l f (if l ≥ r then .ret l else .ask (p.getD k 0) (p.getD ((l+r) / 2) 0) λ c=>if c=true then kas_place p k d l ((l+r) / 2) else kas_place p k d ((l+r) / 2+1) r):=rfl
  by_cases z:l ≥ r
  ·rw[if_pos z] at e
   rw[e]
   have:l=r:=by omega
   subst this
   exact⟨h2,q1,q2⟩
  ·rw[if_neg z] at e
   have e':a2l f (kas_place p k (d+1) l r)=a2l f (if decide (KA f p k < KA f p ((l+r) / 2))=true then kas_place p k d l ((l+r) / 2) else kas_place p k d ((l+r) / 2+1) r):=e
   by_cases y:KA f p k < KA f p ((l+r) / 2)
   ·rw[if_pos (decide_eq_true y)] at e'
    rw[e']
    exact c1i f hr d l ((l+r) / 2) (by omega) (by omega) (by omega) q1 λ i i1 i2=>by
     have:=hr ((l+r) / 2) i i1 i2
     omega
   ·rw[if_neg (by simpa using y)] at e'
    rw[e']
    exact c1i f hr d ((l+r) / 2+1) r (by omega) (by omega) (by omega) (λ i i1=>by
     have:=hr i ((l+r) / 2) (by omega) (by omega)
     omega) q2
theorem d9s (f:Nat->Int):∀ (d:Nat) (p:Array Nat) (k:Nat),k+d<=p.size->c0j f p k->(a2l f (kas_bin d p k)).Perm p/\c0j f (a2l f (kas_bin d p k)) (k+d)
 | 0,p,k,_,h=>⟨.refl _,h⟩
 | d+1,p,k,hk,h=>by
  have e:a2l f (kas_bin (d+1) p k)=a2l f (kas_bin d (bubble p k (k - a2l f (kas_place p k k 0 k))) (k+1)):=by
   rw[show kas_bin (d+1) p k=(kas_place p k k 0 k).bind λ l=>kas_bin d (bubble p k (k - l)) (k+1) from rfl,a9q]
  obtain⟨l1,l2,l3⟩:=c1i f h k 0 k (by omega) (by omega) (by omega) (λ i i1=>by omega) λ i i1 i2=>by omega
  generalize a2l f (kas_place p k k 0 k)=l at l1 l2 l3 e
  obtain⟨a,b⟩:=d9s f d (bubble p k (k - l)) (k+1) (by rw[bubble_size];omega) λ i j i1 i2=>by
   rw[e4y (by omega) (by omega),e4y (by omega) (by omega),show k - (k - l)=l by omega]
   repeat' split
   all_goals first
    | omega
    | exact l2 _ (by omega)
    | exact Int.le_of_lt (l3 _ (by omega) (by omega))
    | exact h _ _ (by omega) (by omega)
  rw[e]
  exact⟨a.trans (bubble_perm _ _ _),by rw[show k+(d+1)=k+1+d by omega];exact b⟩
theorem e4f (f:Nat->Int) {n:Nat} (h1:1<=n):(a2l f (kas_sort n)).toList.Perm (List.range n)/\c0j f (a2l f (kas_sort n)) n:=by
 have sz:(List.toArray (List.range n)).size=n:=by simp
 obtain⟨a,b,c,d⟩:=d8w f (nrem:=n) (p:=List.toArray (List.range n)) h1 (Nat.le_of_eq sz.symm)
 have e:a2l f (kas_sort n)=a2l f (if (a2l f (kas_count n (List.toArray (List.range n)))).1 < n then kas_bin (n - max (a2l f (kas_count n (List.toArray (List.range n)))).1 1) (a2l f (kas_count n (List.toArray (List.range n)))).2 (max (a2l f (kas_count n (List.toArray (List.range n)))).1 1)
  else .ret (a2l f (kas_count n (List.toArray (List.range n)))).2):=by unfold kas_sort;rw[a9q]
 generalize a2l f (kas_count n (List.toArray (List.range n)))=r at a b c d e
 have s2:=a.size_eq
 by_cases z:r.1 < n
 ·rw[if_pos z,show max r.1 1=r.1 by omega] at e
  rw[e]
  obtain⟨x,y⟩:=d9s f (n - r.1) r.2 r.1 (by omega) d
  rw[show r.1+(n - r.1)=n by omega] at y
  exact⟨by simpa using (x.trans a).toList,y⟩
 ·rw[if_neg z] at e
  rw[e]
  rw[show r.1=n by omega] at d
  exact⟨by show r.2.toList.Perm _;simpa using a.toList,d⟩
theorem d6k {p:Prop} (h:∀ G:Prop,(p->G)->G):p:=h p id
section
open L2
theorem c6l {a b:TS} {D:c4f} {σ:L2.St} {H:Hp} (h:∀ b',b'=b->e8t a b' D σ H):e8t a b D σ H:=h b rfl
theorem b2n {a b:TS} {D:c4f} {R:VK} {B C:L2.St->Hp->Prop} {σ:L2.St} {H:Hp} (h:∀ b',b'=b->e8t a b' D σ H):(c4f.mk (e8t a b D) R B C).nx σ H:=h b rfl
theorem d0n {g:TG} {tb:TS} {x:V} {D:c4f} {σ:L2.St} {H:Hp} (h:∀ D',D'=D->g x σ H λ σ2 H2=>tb D' σ2 H2):g x σ H λ σ2 H2=>tb D σ2 H2:=h D rfl
end
theorem us1 {α:Type} {us:List α} (h:us.length=1):∃ a,us=[a]:=List.length_eq_one_iff.mp h
theorem us2 {α:Type} {us:List α} (h:us.length=2):∃ a b,us=[a,b]:=by
 obtain⟨a,t,rfl⟩:=List.exists_cons_of_length_eq_add_one h
 obtain⟨b,rfl⟩:=us1 (Nat.succ.inj h)
 exact⟨a,b,rfl⟩
theorem us3 {α:Type} {us:List α} (h:us.length=3):∃ a b c,us=[a,b,c]:=by
 obtain⟨a,t,rfl⟩:=List.exists_cons_of_length_eq_add_one h
 obtain⟨b,c,rfl⟩:=us2 (Nat.succ.inj h)
 exact⟨a,b,c,rfl⟩
theorem us4 {α:Type} {us:List α} (h:us.length=4):∃ a b c d,us=[a,b,c,d]:=by
 obtain⟨a,t,rfl⟩:=List.exists_cons_of_length_eq_add_one h
 obtain⟨b,c,d,rfl⟩:=us3 (Nat.succ.inj h)
 exact⟨a,b,c,d,rfl⟩
end My
namespace My
open PySem PySem.SetTable
def LS (mask:Nat) (h:Int):Nat->Nat×Nat
 | 0=>(bits h%(mask+1),bits h)
 | r+1=>leap mask (LS mask h r).1 (LS mask h r).2
def rl (mask i:Nat):Nat:=runEnd mask i - i
def f4c (mask:Nat):Prop:=mask=7\/mask=31\/mask=127
def Ps (mask:Nat) (h:Int) (r k:Nat):Nat:=(LS mask h r).1+k
def Bef (mask:Nat) (h:Int) (ok:Nat->Prop) (r k:Nat):Prop:=(∀ r',r' < r->∀ k',k'<=rl mask (LS mask h r').1->ok (Ps mask h r' k'))/\∀ k',k' < k->ok (Ps mask h r k')
structure TT (t:SetTable) (es:List (Int×Value)):Prop where
 size:f4c t.mask
 up:Ris t.place
 nd:t.dummies=#[]
 within:∀ j∈t.place.toList,j<=t.mask
 len:t.place.toList.length=es.length
 fnd:∀ j e,(j,e)∈t.place.toList.zip es->∃ r k,k<=rl t.mask (LS t.mask e.1 r).1/\Ps t.mask e.1 r k=j/\Bef t.mask e.1 (·∈t.place.toList) r k
end My
namespace My
open PySem PySem.Spec PyProof.Rows L2 PyProof PySem.SeqAt
def KpT (h h':Heap):Prop:=∀ b o xs n,h.get? b=some o->o.cls=.type "tuple"->o.data=.seq xs n->h'.get? b=some o
structure HVK (K:Type) [DecidableEq K] where
 is:Heap->K->Value->Prop
 hash:K->Int
 d:Nat
 inj:∀ {h:Heap} {x y:K} {v:Value},is h x v->is h y v->x=y
 keep:∀ {h h':Heap} {k:K} {v:Value},is h k v->KpT h h'->is h' k v
 pyHash:∀ {prog:Program} {w:World} {A:Around} {E:Value->Shared->Prop} {s:Shared} {k:K} {v:Value} {Q:Int->Shared->Prop},A.units+d < cLine->is s.heap k v->(∀ tk,Q (hash k) {s with toks:=tk})->wpAny (model prog w) A (PySem.pyHash v) Q E s
 eq:∀ {A:Around} {s:Shared} {x y:K} {u v:Value},A.units+d < cLine->is s.heap x u->is s.heap y v->EqAt A s u v (decide (x=y))
 quiet:∀ {prog:Program} {w:World} {A:Around} {E:Value->Shared->Prop} {s:Shared} {k:K} {v:Value} {Q:Bool->Shared->Prop} (n:Nat),d<=n->is s.heap k v->Q true s->wpAny (model prog w) A (eqIsQuiet n v) Q E s
 cls:∀ {prog:Program} {w:World} {A:Around} {E:Value->Shared->Prop} {s:Shared} {k:K} {v:Value} {Q:Bool->Shared->Prop} (n:Nat),d<=n->is s.heap k v->Q false s->wpAny (model prog w) A (ofAClassStatement n v) Q E s
 byv:∀ {prog:Program} {w:World} {A:Around} {E:Value->Shared->Prop} {s:Shared} {k:K} {v:Value} {Q:Bool->Shared->Prop} (n:Nat),d<=n->is s.heap k v->Q true s->wpAny (model prog w) A (hashByValue n v) Q E s
def HVK.int:HVK Int where
 is:=λ _ k v=>∃ t,v=.int k t
 hash:=hashInt
 d:=0
 inj:=λ ⟨t,e⟩ ⟨t',e'⟩=>by subst e;cases e';rfl
 keep:=λ x _=>x
 pyHash:=λ _ ⟨t,e⟩ h=>by subst e;exact wpAny_pyHash_int (h _)
 eq:=λ _ ⟨t,e⟩ ⟨t',e'⟩ prog w E Q h=>by subst e;subst e';exact wpAny_eqBool_int h
 quiet:=λ n _ ⟨t,e⟩ h=>by
  subst e
  rw[eqIsQuiet_byValue n rfl]
  exact wpAny_pure h
 cls:=λ n _ ⟨t,e⟩ h=>by
  subst e
  unfold ofAClassStatement
  exact wpAny_pure h
 byv:=λ n _ ⟨t,e⟩ h=>by
  subst e
  unfold hashByValue
  exact wpAny_pure h
section
variable {K L:Type} [DecidableEq K] [DecidableEq L]
def d1a (h:Heap) (v u u':Value):Prop:=∃ a o n,v=.ref a/\h.get? a=some o/\o.cls=.type "tuple"/\o.data=.seq #[u,u'] n
theorem HVK.pair_hash (V:HVK K) (W:HVK L) {prog:Program} {w:World} {A:Around} {E:Value->Shared->Prop} {s:Shared} {x:K} {y:L} {v u u':Value} {Q:Int->Shared->Prop} (hu:A.units+(max V.d W.d+1) < cLine) (T:d1a s.heap v u u') (hx:V.is s.heap x u) (hy:W.is s.heap y u')
  (h:∀ tk,Q (reduceHash (Builtin.Tuple.tupleHashOf [V.hash x,W.hash y])) {s with toks:=tk}):wpAny (model prog w) A (PySem.pyHash v) Q E s:=by
 obtain⟨a,o,n,rfl,ho,hc,hd⟩:=T
 have hT:s.TypeIs (.ref a) "tuple":=⟨o,ho,hc⟩
 have h1:A.in1.units+V.d < cLine:=by show A.units+1+V.d < cLine;have:=Nat.le_max_left V.d W.d;omega
 have h2:A.in1.units+W.d < cLine:=by show A.units+1+W.d < cLine;have:=Nat.le_max_right V.d W.d;omega
 unfold PySem.pyHash
 unfold pyHashByItsType;refine wpAny_bind (wpAny_cRoomFor_or (.inr (show A.units < cLine by omega)) (wpAny_bind (wpAny_specialOf hT PySem.F.slot_tuple_hash.lookup ?_)))
 rw[if_neg (show ¬ (some (Value.builtin "tuple.__hash__") == some Value.none)=true by rw[beq_builtin_none];exact Bool.false_ne_true)]
 refine wpAny_bind (wpAny_specialOf hT PySem.F.slot_tuple_hash.lookup ?_)
 show wpAny _ _ (callSpecialIfBoundUnlessNone? (.ref a) (Str.ofString "__hash__") _>>=_) _ _ _
 refine wpAny_bind (wpAny_callSpecialIfBoundUnlessNone?_slot hT PySem.F.slot_tuple_hash (wpAny_call_entry PySem.F.slot_tuple_hash hT PySem.F.entry_tuple_hash ?_ (PySem.F.args_tuple_hash_1 _)))
 show wpAny _ _ (Builtin.Tuple.tupleItemsOf (.ref a)>>=λ its=>_) _ _ _
 refine wpAny_bind (wpAny_tupleItemsOf ho hd (wpAny_bind ?_))
 rw[<-Array.forIn_toList,show (#[u,u']:Array Value).toList=[u,u'] from rfl,List.forIn_cons]
 refine wpAny_bind (wpAny_bind (V.pyHash h1 hx λ tk1=>wpAny_pure ?_))
 show wpAny _ _ (forIn [u'] _ _) _ _ _
 rw[List.forIn_cons]
 refine wpAny_bind (wpAny_bind (W.pyHash h2 hy λ tk2=>wpAny_pure ?_))
 refine wpAny_pure (show wpAny _ _ (retInt (Builtin.Tuple.tupleHashOf [V.hash x,W.hash y])) _ _ _ from ?_)
 refine wpAny_ret_mkInt (show wpAny _ _ (if (decide (-(2:Int) ^ 63<=Builtin.Tuple.tupleHashOf [V.hash x,W.hash y]) && decide (Builtin.Tuple.tupleHashOf [V.hash x,W.hash y] < 2 ^ 63))=true then _ else _) Q E _ from ?_)
 unfold reduceHash at h
 by_cases hr:(decide (-(2:Int) ^ 63<=Builtin.Tuple.tupleHashOf [V.hash x,W.hash y]) && decide (Builtin.Tuple.tupleHashOf [V.hash x,W.hash y] < 2 ^ 63))=true
 ·rw[if_pos hr] at h ⊢;exact wpAny_pure (h _)
 ·rw[if_neg hr] at h ⊢;exact wpAny_bind (wpAny_rule (wpAny_pure (h _)))
theorem HVK.pair_eq (V:HVK K) (W:HVK L) {A:Around} {s:Shared} {x x':K} {y y':L} {v v' u1 u2 u1' u2':Value} (hu:A.units+(max V.d W.d+1) < cLine) (T:d1a s.heap v u1 u2) (T':d1a s.heap v' u1' u2') (hx:V.is s.heap x u1) (hy:W.is s.heap y u2) (hx':V.is s.heap x' u1') (hy':W.is s.heap y' u2') :
  EqAt A s v v' (decide ((x,y)=(x',y'))):=by
 obtain⟨a,o,n,rfl,ho,hc,hd⟩:=T
 obtain⟨a',o',n',rfl,ho',hc',hd'⟩:=T'
 have h1:A.in1.units+V.d < cLine:=by show A.units+1+V.d < cLine;have:=Nat.le_max_left V.d W.d;omega
 have h2:A.in1.units+W.d < cLine:=by show A.units+1+W.d < cLine;have:=Nat.le_max_right V.d W.d;omega
 by_cases haa:a=a'
 ·subst haa
  obtain rfl:o=o':=Option.some.inj (ho.symm.trans ho')
  rw[hd] at hd'
  injection hd' with e _
  obtain⟨e1,e2⟩:u1=u1'/\u2=u2':=by simpa using e
  subst e1;subst e2
  rw[V.inj hx hx',W.inj hy hy',decide_eq_true rfl]
  exact EqAt.same _
 ·have key:=RcAt.tuples (A:=A) (s:=s) (e:=λ j=>if j=0 then decide (x=x') else decide (y=y')) ⟨o,ho,hc,n,hd⟩ ⟨o',ho',hc',n',hd'⟩ (by omega) λ j j1 j2=>by
   have:j=0\/j=1:=by have:j < 2:=j1;omega
   rcases this with rfl | rfl
   ·exact V.eq h1 hx hx'
   ·exact W.eq h2 hy hy'
  have e:((List.range (min (#[u1,u2]:Array Value).size (#[u1',u2']:Array Value).size)).all (λ j=>if j=0 then decide (x=x') else decide (y=y')) && ((#[u1,u2]:Array Value).size == (#[u1',u2']:Array Value).size))=decide ((x,y)=(x',y')):=by
   show ((List.range 2).all _ && true)=_
   rw[show List.range 2=[0,1] from rfl]
   simp[Bool.decide_and]
  rw[e] at key
  exact EqAt.of_refs haa key
theorem HVK.pair_quiet (V:HVK K) (W:HVK L) {prog:Program} {w:World} {A:Around} {E:Value->Shared->Prop} {s:Shared} {x:K} {y:L} {v u u':Value} {Q:Bool->Shared->Prop} (n:Nat) (hn:max V.d W.d+1<=n) (T:d1a s.heap v u u') (hx:V.is s.heap x u) (hy:W.is s.heap y u') (h:Q true s):wpAny (model prog w) A (eqIsQuiet n v) Q E s:=by
 obtain⟨a,o,c,rfl,ho,hc,hd⟩:=T
 have hT:s.TypeIs (.ref a) "tuple":=⟨o,ho,hc⟩
 obtain⟨m,rfl⟩:∃ m,n=m+1:=⟨n - 1,by omega⟩
 have h1:V.d<=m:=by have:=Nat.le_max_left V.d W.d;omega
 have h2:W.d<=m:=by have:=Nat.le_max_right V.d W.d;omega
 unfold eqIsQuiet
 refine wpAny_bind (wpAny_specialOf hT PySem.F.slot_tuple_eq.lookup (show wpAny _ _ (isInstance (.ref a) (.type "tuple")>>=λ _=>_) _ _ _ from wpAny_bind (wpAny_isInstance hT isSubtype_tuple_tuple ?_)))
 simp only [Bool.not_true,Bool.false_eq_true,if_false];refine wpAny_bind (wpAny_seqItems ho hd (wpAny_bind ?_))
 show wpAny _ _ (forIn (#[u,u']:Array Value) _ _) _ _ _
 rw[<-Array.forIn_toList,show (#[u,u']:Array Value).toList=[u,u'] from rfl,List.forIn_cons]
 refine wpAny_bind (wpAny_bind (V.quiet m h1 hx (wpAny_pure ?_)))
 show wpAny _ _ (forIn [u'] _ _) _ _ _
 rw[List.forIn_cons]
 exact wpAny_bind (wpAny_bind (W.quiet m h2 hy (wpAny_pure (wpAny_pure (wpAny_pure h)))))
theorem HVK.pair_cls (V:HVK K) (W:HVK L) {prog:Program} {w:World} {A:Around} {E:Value->Shared->Prop} {s:Shared} {x:K} {y:L} {v u u':Value} {Q:Bool->Shared->Prop} (n:Nat) (hn:max V.d W.d+1<=n) (T:d1a s.heap v u u') (hx:V.is s.heap x u) (hy:W.is s.heap y u') (h:Q false s):wpAny (model prog w) A (ofAClassStatement n v) Q E s:=by
 obtain⟨a,o,c,rfl,ho,hc,hd⟩:=T
 have hT:s.TypeIs (.ref a) "tuple":=⟨o,ho,hc⟩
 obtain⟨m,rfl⟩:∃ m,n=m+1:=⟨n - 1,by omega⟩
 have h1:V.d<=m:=by have:=Nat.le_max_left V.d W.d;omega
 have h2:W.d<=m:=by have:=Nat.le_max_right V.d W.d;omega
 unfold ofAClassStatement
 refine wpAny_bind (wpAny_typeOf hT ?_)
 refine wpAny_bind (wpAny_pure (show wpAny _ _ (seqItems? (.ref a)>>=λ _=>_) _ _ _ from wpAny_bind (wpAny_seqItems ho hd (wpAny_bind ?_))))
 show wpAny _ _ (forIn (#[u,u']:Array Value) _ _) _ _ _
 rw[<-Array.forIn_toList,show (#[u,u']:Array Value).toList=[u,u'] from rfl,List.forIn_cons]
 refine wpAny_bind (wpAny_bind (V.cls m h1 hx (wpAny_pure ?_)))
 show wpAny _ _ (forIn [u'] _ _) _ _ _
 rw[List.forIn_cons]
 exact wpAny_bind (wpAny_bind (W.cls m h2 hy (wpAny_pure (wpAny_pure (wpAny_pure h)))))
theorem HVK.pair_byv (V:HVK K) (W:HVK L) {prog:Program} {w:World} {A:Around} {E:Value->Shared->Prop} {s:Shared} {x:K} {y:L} {v u u':Value} {Q:Bool->Shared->Prop} (n:Nat) (hn:max V.d W.d+1<=n) (T:d1a s.heap v u u') (hx:V.is s.heap x u) (hy:W.is s.heap y u') (h:Q true s):wpAny (model prog w) A (hashByValue n v) Q E s:=by
 obtain⟨a,o,c,rfl,ho,hc,hd⟩:=T
 have hT:s.TypeIs (.ref a) "tuple":=⟨o,ho,hc⟩
 obtain⟨m,rfl⟩:∃ m,n=m+1:=⟨n - 1,by omega⟩
 have h1:V.d<=m:=by have:=Nat.le_max_left V.d W.d;omega
 have h2:W.d<=m:=by have:=Nat.le_max_right V.d W.d;omega
 unfold hashByValue
 refine wpAny_bind (wpAny_specialOf hT PySem.F.slot_tuple_hash.lookup (show wpAny _ _ (seqItems? (.ref a)>>=λ _=>_) _ _ _ from wpAny_bind (wpAny_seqItems ho hd (wpAny_bind ?_))))
 show wpAny _ _ (forIn (#[u,u']:Array Value) _ _) _ _ _
 rw[<-Array.forIn_toList,show (#[u,u']:Array Value).toList=[u,u'] from rfl,List.forIn_cons]
 refine wpAny_bind (wpAny_bind (V.byv m h1 hx (wpAny_pure ?_)))
 show wpAny _ _ (forIn [u'] _ _) _ _ _
 rw[List.forIn_cons]
 exact wpAny_bind (wpAny_bind (W.byv m h2 hy (wpAny_pure (wpAny_pure (wpAny_pure h)))))
def HVK.pair (V:HVK K) (W:HVK L):HVK (K×L) where
 is:=λ h k v=>∃ u u',d1a h v u u'/\V.is h k.1 u/\W.is h k.2 u'
 hash:=λ k=>reduceHash (Builtin.Tuple.tupleHashOf [V.hash k.1,W.hash k.2])
 d:=max V.d W.d+1
 inj:=λ {h x y v} ⟨u,u',⟨a,o,n,e,ho,hc,hd⟩,hx,hy⟩ ⟨z,z',⟨a',o',n',e',ho',hc',hd'⟩,hx',hy'⟩=>by
  subst e
  cases e'
  obtain rfl:o=o':=Option.some.inj (ho.symm.trans ho')
  rw[hd] at hd'
  injection hd' with e _
  obtain⟨e1,e2⟩:u=z/\u'=z':=by simpa using e
  subst e1;subst e2
  exact Prod.ext (V.inj hx hx') (W.inj hy hy')
 keep:=λ {h h' k v} ⟨u,u',⟨a,o,n,e,ho,hc,hd⟩,hx,hy⟩ kp=>⟨u,u',⟨a,o,n,e,kp a o _ _ ho hc hd,hc,hd⟩,V.keep hx kp,W.keep hy kp⟩
 pyHash:=λ hu ⟨_,_,T,hx,hy⟩ h=>V.pair_hash W hu T hx hy h
 eq:=λ {_ _ x y _ _} hu ⟨_,_,T,hx,hy⟩ ⟨_,_,T',hx',hy'⟩=>V.pair_eq W hu T T' hx hy hx' hy'
 quiet:=λ n hn ⟨_,_,T,hx,hy⟩ h=>V.pair_quiet W n hn T hx hy h
 cls:=λ n hn ⟨_,_,T,hx,hy⟩ h=>V.pair_cls W n hn T hx hy h
 byv:=λ n hn ⟨_,_,T,hx,hy⟩ h=>V.pair_byv W n hn T hx hy h
end
end My
namespace My
open PySem PySem.Spec PyProof.Rows L2 PyProof PySem.SeqAt PySem.SetTable
section
variable {K:Type} [DecidableEq K]
def f2y (V:HVK K) (kf:Value->K) (us:List Value) (h:Heap) (a:Addr) (ks:List K) (led:Bool):Prop :=
 ∃ o es ep t,h.get? a=some o/\o.ExactSet/\o.data=.set es ep t/\TT t es.toList/\t.led=led/\5*es.size < 3*t.mask/\(∀ e∈es.toList,e.2∈us/\e.1=V.hash (kf e.2))/\(es.toList.map λ e=>kf e.2).Perm ks
theorem TT.fits {t:SetTable} {es:Array (Int×Value)} (T:TT t es.toList) (few:es.size<=t.mask):t.fits es.size=true:=by
 have e:t.place.size=es.size:=by have:=T.len;simpa using this
 unfold SetTable.fits SetTable.fill
 rw[T.nd,e]
 simp[few]
variable {prog:Program} {w:World} {A:Around} {E:Value->Shared->Prop} {s:Shared} {V:HVK K} {kf:Value->K} {us:List Value}
end
end My
namespace My
open PySem PySem.Spec PyProof.Rows L2 PyProof PySem.SeqAt
section
variable {K:Type} [DecidableEq K]
variable {prog:Program} {w:World} {A:Around} {E:Value->Shared->Prop} {s:Shared} {V:HVK K} {kf:Value->K} {us:List Value}
theorem f2y.keep {h h':Heap} {a:Addr} {ks:List K} {led:Bool} (x:f2y V kf us h a ks led) (k:∀ o,h.get? a=some o->h'.get? a=some o):f2y V kf us h' a ks led :=
 let ⟨o,es,ep,t,ho,r⟩:=x
 ⟨o,es,ep,t,k o ho,r⟩
end
end My
namespace My
open PySem PySem.Spec PySem.W PyProof.Rows L2 PyProof PySem.SeqAt
def InP {α:Type} (n:Nat) (P:α->Prop):KasT α->Prop
 | .ret a=>P a
 | .ask i j k=>i < n/\j < n/\∀ b,InP n P (k b)
theorem InP.bind {α β:Type} {n:Nat} {P:α->Prop} {R:β->Prop} {g:α->KasT β} (hg:∀ a,P a->InP n R (g a)):∀ t:KasT α,InP n P t->InP n R (t.bind g)
 | .ret a,h=>hg a h
 | .ask _ _ k,h=>⟨h.1,h.2.1,λ b=>InP.bind hg (k b) (h.2.2 b)⟩
theorem InP.wp {α:Type} {n:Nat} {P:α->Prop} {f:Nat->Int} {cmp:Nat->Nat->(Bool->Shared->Prop)->Shared->Prop} {Q:α->Shared->Prop} {s:Shared} (hc:∀ i j (R:Bool->Shared->Prop),i < n->j < n->R (decide (f i < f j)) s->cmp i j R s) :
  ∀ t:KasT α,InP n P t->Q (a2l f t) s->t.kasWp cmp Q s
 | .ret _,_,h=>h
 | .ask i j k,p,h=>hc i j _ p.1 p.2.1 (InP.wp hc (k _) (p.2.2 _) h)
def Low (n:Nat) (p:Array Nat):Prop:=0 < n/\∀ x∈p.toList,x < n
theorem Low.at {n:Nat} {p:Array Nat} (l:Low n p) (i:Nat):p.getD i 0 < n:=by
 by_cases h:i < p.size
 ·have e:p.getD i 0=p[i]:=by simp[Array.getD,h]
  rw[e]
  exact l.2 _ (by simp)
 ·have e:p.getD i 0=0:=by simp[Array.getD,h]
  rw[e]
  exact l.1
theorem Low.perm {n:Nat} {p q:Array Nat} (l:Low n p) (h:q.Perm p):Low n q:=⟨l.1,λ x hx=>l.2 x (h.toList.mem_iff.mp hx)⟩
theorem d1e {n:Nat} {p:Array Nat} (l:Low n p):∀ k m,InP n (λ _=>True) (kas_asc p k m)
 | 0,_=>trivial
 | k+1,m=>⟨l.at _,l.at _,λ b=>by cases b with | true=>exact trivial | false=>exact d1e l k (m+1)⟩
theorem c0a {n:Nat}:∀ (k:Nat) {p:Array Nat} (m q:Nat),Low n p->InP n (λ r=>Low n r.1) (kas_desc k p m q)
 | 0,_,_,_,l=>l
 | k+1,p,m,q,l=>⟨l.at _,l.at _,λ b=>by
  cases b with
  | true =>
   show InP n _ (if q > 0 then _ else _)
   split
   ·exact c0a k _ _ (l.perm (a8j _ _ _))
   ·exact c0a k _ _ l
  | false=>exact⟨l.at _,l.at _,λ d=>by cases d with | true=>exact l | false=>exact c0a k _ _ l⟩⟩
theorem c9g {n m nrem:Nat} {p:Array Nat} (l:Low n p):InP n (λ (r:Nat×Array Nat)=>Low n r.2) (kas_tail3 m nrem p):=by
 have l':Low n (kas_rev p 0 m):=l.perm (a8j _ _ _)
 unfold kas_tail3
 refine InP.bind (P:=λ _=>True) (λ _ _=>?_) _ (d1e l' _ _)
 exact l'
theorem d3k {n m nrem:Nat} {p:Array Nat} (l:Low n p):InP n (λ (r:Nat×Array Nat)=>Low n r.2) (kas_descPart m nrem p):=InP.bind (λ r hr=>by
 split
 ·exact c9g (hr.perm (a8j _ _ _))
 ·exact c9g hr) _ (c0a _ _ _ l)
theorem d7c {n nrem:Nat} {p:Array Nat} (l:Low n p):InP n (λ (r:Nat×Array Nat)=>Low n r.2) (kas_count nrem p):=InP.bind (λ m _=>by
 split
 ·exact l
 ·split
  ·exact⟨l.at _,l.at _,λ c=>by cases c with | true=>exact l | false=>exact d3k (l.perm (a8j _ _ _))⟩
  ·exact d3k l) _ (d1e l _ _)
theorem c1u {n:Nat} {p:Array Nat} (l:Low n p) (k:Nat):∀ d a r,InP n (λ _=>True) (kas_place p k d a r)
 | 0,_,_=>trivial
 | d+1,a,r=>by
  unfold kas_place
  split
  ·exact trivial
  ·exact⟨l.at _,l.at _,λ c=>by cases c with | true=>exact c1u l k d _ _ | false=>exact c1u l k d _ _⟩
theorem d8e {n:Nat}:∀ (d:Nat) {p:Array Nat} (k:Nat),Low n p->InP n (λ r=>Low n r) (kas_bin d p k)
 | 0,_,_,l=>l
 | d+1,_,_,l=>InP.bind (λ _ _=>d8e d _ (l.perm (bubble_perm _ _ _))) _ (c1u l _ _ _ _)
theorem e0z {n:Nat} (h:1<=n):InP n (λ r=>Low n r) (kas_sort n):=InP.bind (λ r hr=>by
 split
 ·exact d8e _ _ hr
 ·exact hr) _ (d7c ⟨h,λ x hx=>by simpa using hx⟩)
structure VO (K:Type) [DecidableEq K] extends HVK K where
 lt:K->K->Bool
 irr:∀ x,lt x x=false
 tr:∀ x y z,lt x y=true->lt y z=true->lt x z=true
 tot:∀ x y,x≠y->lt x y=false->lt y x=true
 T:Value
 rfT:(T == T)=true
 typ:∀ {h:Heap} {k:K} {v:Value} (M:Model),is h k v->Looks M h (typeOf v) T
 one:∀ {prog:Program} {w:World} {A:Around} {E:Value->Shared->Prop} {s:Shared} {x y:K} {u v:Value} {Q:Bool->Shared->Prop} (b:Bool),(b=true->(T != Value.type "tuple")=true)->A.units+d < cLine->is s.heap x u->is s.heap y v->Q (lt x y) s->wpAny (model prog w) A (oneLt' b u v) Q E s
def ltP {K L:Type} [DecidableEq K] [DecidableEq L] (f:K->K->Bool) (g:L->L->Bool) (a b:K×L):Bool:=if a.1=b.1 then g a.2 b.2 else f a.1 b.1
section
variable {K L:Type} [DecidableEq K] [DecidableEq L]
theorem e6t (V:VO K) (W:VO L) (x:K×L):ltP V.lt W.lt x x=false:=by unfold ltP;rw[if_pos rfl];exact W.irr _
theorem f0m (V:VO K) (W:VO L) (x y z:K×L) (h:ltP V.lt W.lt x y=true) (h':ltP V.lt W.lt y z=true):ltP V.lt W.lt x z=true:=by
 unfold ltP at *
 by_cases e:x.1=y.1
 ·rw[if_pos e] at h
  by_cases e':y.1=z.1
  ·rw[if_pos e'] at h'
   rw[if_pos (e.trans e')]
   exact W.tr _ _ _ h h'
  ·rw[if_neg e'] at h'
   rw[if_neg (λ q=>e' (e.symm.trans q)),e]
   exact h'
 ·rw[if_neg e] at h
  by_cases e':y.1=z.1
  ·rw[if_neg (λ q=>e (q.trans e'.symm)),<-e']
   exact h
  ·rw[if_neg e'] at h'
   have t:=V.tr _ _ _ h h'
   rw[if_neg λ q=>?_]
   ·exact t
   ·rw[q,V.irr] at t;cases t
theorem e5w (V:VO K) (W:VO L) (x y:K×L) (n:x≠y) (h:ltP V.lt W.lt x y=false):ltP V.lt W.lt y x=true:=by
 unfold ltP at *
 by_cases e:x.1=y.1
 ·rw[if_pos e] at h
  rw[if_pos e.symm]
  exact W.tot _ _ (λ q=>n (Prod.ext e q)) h
 ·rw[if_neg e] at h
  rw[if_neg (λ q=>e q.symm)]
  exact V.tot _ _ e h
def VO.int:VO Int where
 toHVK:=HVK.int
 lt:=λ a b=>decide (a < b)
 irr:=λ x=>by simp
 tr:=λ x y z h h'=>by simp only [decide_eq_true_eq] at *;omega
 tot:=λ x y n h=>by simp only [decide_eq_true_eq,decide_eq_false_iff_not] at *;omega
 T:=.type "int"
 rfT:=by decide
 typ:=λ M ⟨t,e⟩=>by
  subst e
  intro A Q E s _ q
  exact wpAny_typeOf (T:="int") rfl q
 one:=λ b _ _ ⟨t,e⟩ ⟨t',e'⟩ h=>by
  subst e;subst e'
  cases b with
  | true=>exact oneLt_int h
  | false=>exact kat_one _ _ (lt_int h)
def VO.node:VO (Int×Int) where
 toHVK:=HVK.int.pair HVK.int
 lt:=ltP VO.int.lt VO.int.lt
 irr:=e6t VO.int VO.int
 tr:=f0m VO.int VO.int
 tot:=e5w VO.int VO.int
 T:=.type "tuple"
 rfT:=by decide
 typ:=λ M ⟨u,u',⟨a,o,n,e,ho,hc,hd⟩,_⟩=>by
  subst e
  intro A Q E s k q
  exact wpAny_typeOf (T:="tuple") ⟨o,k a o ho,hc⟩ q
 one:=λ {prog w A E s x y u v Q} b hb hu ⟨u1,u2,⟨a,o,n,e,ho,hc,hd⟩,⟨t1,e1⟩,⟨t2,e2⟩⟩ ⟨v1,v2,⟨a',o',n',e',ho',hc',hd'⟩,⟨t1',e1'⟩,⟨t2',e2'⟩⟩ h=>by
  subst e;subst e';subst e1;subst e2;subst e1';subst e2'
  cases b with
  | true=>exact absurd (hb rfl) (by decide)
  | false =>
   refine kat_one _ _ (HT.lt_tupInts (ns:=[x.1,x.2]) (ms:=[y.1,y.2]) ⟨o,ho,hc,n,hd⟩ ⟨o',ho',hc',n',hd'⟩ (.cons _ _ (.cons _ _ .nil)) (.cons _ _ (.cons _ _ .nil)) (by omega) ?_)
   have el:HT.lexLt [x.1,x.2] [y.1,y.2]=ltP VO.int.lt VO.int.lt x y:=by
    unfold ltP
    rw[HT.lexLt_cons,HT.lexLt_cons,HT.lexLt_nil_nil]
    by_cases q:x.1=y.1
    ·rw[if_pos q,if_pos q]
     by_cases q2:x.2=y.2
     ·rw[if_pos q2,q2];exact(VO.int.irr _).symm
     ·rw[if_neg q2];rfl
    ·rw[if_neg q,if_neg q];rfl
   rw[el]
   exact h
def c5x (lt:K->K->Bool) (ks:List K) (k:K):Nat:=(ks.filter λ x=>lt x k).length
theorem e8h {lt:K->K->Bool} (irr:∀ x,lt x x=false) (tr:∀ x y z,lt x y=true->lt y z=true->lt x z=true) (tot:∀ x y,x≠y->lt x y=false->lt y x=true) {ks:List K} {a b:K} (ha:a∈ks) :
  decide (((c5x lt ks a:Nat):Int) < (c5x lt ks b:Nat))=lt a b:=by
 have mono:∀ {a b:K} (l:List K),(∀ x,lt x a=true->lt x b=true)->(l.filter λ x=>lt x a).length<=(l.filter λ x=>lt x b).length:=by
  intro a b l h
  induction l with
  | nil=>exact Nat.le_refl _
  | cons x r ih =>
   rw[List.filter_cons,List.filter_cons]
   by_cases q:lt x a=true
   ·rw[if_pos q,if_pos (h x q)]
    exact Nat.succ_le_succ ih
   ·rw[if_neg q]
    split
    ·exact Nat.le_succ_of_le ih
    ·exact ih
 cases hl:lt a b with
 | true =>
  have key:∀ l:List K,a∈l->(l.filter λ x=>lt x a).length < (l.filter λ x=>lt x b).length:=by
   intro l
   induction l with
   | nil=>intro h;cases h
   | cons x r ih =>
    intro h
    rw[List.filter_cons,List.filter_cons]
    rcases List.mem_cons.mp h with z | z
    ·subst z
     rw[if_neg (by rw[irr];exact Bool.false_ne_true),if_pos hl]
     exact Nat.lt_succ_of_le (mono r λ y hy=>tr _ _ _ hy hl)
    ·have:=ih z
     by_cases q:lt x a=true
     ·rw[if_pos q,if_pos (tr _ _ _ q hl)]
      exact Nat.succ_lt_succ this
     ·rw[if_neg q]
      split
      ·exact Nat.lt_succ_of_lt this
      ·exact this
  have:=key ks ha
  exact decide_eq_true (by unfold c5x;omega)
 | false =>
  have:(ks.filter λ x=>lt x b).length<=(ks.filter λ x=>lt x a).length:=mono ks λ x hx=>by
   by_cases q:a=b
   ·rw[q];exact hx
   ·exact tr _ _ _ hx (tot a b q hl)
  exact decide_eq_false (by unfold c5x;omega)
end
end My
namespace My
open PySem PySem.Spec PySem.W PyProof.Rows L2 PyProof PySem.SeqAt
abbrev Nk:=Int×Int
def NdV (H:Hp) (v:V) (n:Nk):Prop:=∃ p,v=.ref p/\H p=some (.tup [.int n.1,.int n.2])
section
variable {X:Cx} {pins:List (Addr×Obj)} {σ:L2.St} {H:Hp} {s:Shared}
theorem e9c (I:Inv X pins σ H s) {v:V} {n:Nk} {u:Value} (h:NdV H v n) (r:a3n v u):(VO.int.toHVK.pair VO.int.toHVK).is s.heap n u:=by
 obtain⟨p,rfl,e⟩:=h
 obtain rfl:u=Value.ref p:=r
 obtain⟨its,rv,⟨o,e1,e2,c,e3⟩,_⟩:=I.tuple (SqT.of e)
 cases rv with
 | cons r1 t =>
  cases t with
  | cons r2 t2 =>
   cases t2
   exact⟨_,_,⟨p,o,c,rfl,e1,e2,e3⟩,r1,r2⟩
theorem d0m {α:Type} {R:V->α->Prop}:∀ (js:List α) (out:List Value),js.length=out.length->(∀ p∈js.zip out,∃ x,a3n x p.2/\R x p.1)->∃ ys,a3o ys out/\Paired R ys js
 | [],[],_,_=>⟨[],.nil,.nil⟩
 | [],_::_,h,_=>by cases h
 | _::_,[],h,_=>by cases h
 | j::js,o::out,h,f=>by
  obtain⟨x,rx,kx⟩:=f (j,o) (by rw[List.zip_cons_cons];exact List.mem_cons_self)
  obtain⟨ys,a,b⟩:=d0m js out (Nat.succ.inj h) λ p hp=>f p (by rw[List.zip_cons_cons];exact List.mem_cons_of_mem _ hp)
  exact⟨x::ys,.cons rx a,.cons kx b⟩
open Classical in
noncomputable def e5p (K:Type) [DecidableEq K] (V:HVK K) (h:Heap) (d0:K) (u:Value):K:=if x:∃ k,V.is h k u then Classical.choose x else d0
theorem c6w {K:Type} [DecidableEq K] {V:HVK K} {h:Heap} {d0 k:K} {u:Value} (x:V.is h k u):e5p K V h d0 u=k:=by
 unfold e5p
 have e:∃ k,V.is h k u:=⟨k,x⟩
 rw[dif_pos e]
 exact V.inj (Classical.choose_spec e) x
end
end My
namespace My
open PySem PySem.Spec PySem.W PyProof.Rows L2 PyProof PySem.SeqAt
abbrev e8b:HVK Nk:=VO.int.toHVK.pair VO.int.toHVK
end My
namespace My
open PySem PySem.Spec PyProof.Rows L2 PyProof
theorem u16 {A:Around} (h:A.units+64 < cLine):A.units+16 < cLine:=by omega
end My
namespace My
open PySem PySem.Spec PySem.W PyProof.Rows L2 PyProof PySem.SeqAt
abbrev Tk:=Int×Int×Int
def IsT (h:Heap) (k:Tk) (v:Value):Prop:=∃ (a:Addr) (o:Obj) (n:Nat) (t1 t2 t3:Tok),v=.ref a/\h.get? a=some o/\o.cls=.type "tuple"/\o.data=.seq #[.int k.1 t1,.int k.2.1 t2,.int k.2.2 t3] n
theorem IsT.keep {h h':Heap} {k:Tk} {v:Value} (x:IsT h k v) (kp:KpT h h'):IsT h' k v:=let ⟨a,o,n,t1,t2,t3,e,ho,hc,hd⟩:=x;⟨a,o,n,t1,t2,t3,e,kp a o _ n ho hc hd,hc,hd⟩
end My
namespace My
open PySem PySem.Spec PySem.W PyProof.Rows L2 PyProof PySem.SeqAt
mutual
inductive TF (H:Hp):V->PyData->List Addr->Prop where
 | int (i:Int):TF H (.int i) (.int i) []
 | str (x:Str):TF H (.str x) (.str x) []
 | lst {a:Addr} {xs:List V} {ds:List PyData} {f:List Addr} (h:H a=some (.lst xs)) (r:TFs H xs ds f):TF H (.ref a) (.list ds) (a::f)
 | tup {a:Addr} {xs:List V} {ds:List PyData} {f:List Addr} (h:H a=some (.tup xs)) (r:TFs H xs ds f):TF H (.ref a) (.tuple ds) (a::f)
inductive TFs (H:Hp):List V->List PyData->List Addr->Prop where
 | nil:TFs H [] [] []
 | cons {x:V} {d:PyData} {xs:List V} {ds:List PyData} {f g:List Addr} (h:TF H x d f) (r:TFs H xs ds g):TFs H (x::xs) (d::ds) (f++g)
end
mutual
theorem TF.tr {H:Hp} {v:V} {d:PyData} {f:List Addr} (h:TF H v d f):Tr H v d:=by
 cases h with
 | int i=>exact .int i
 | str x=>exact .str x
 | lst h r=>exact .lst h (TFs.trs r)
 | tup h r=>exact .tup h (TFs.trs r)
theorem TFs.trs {H:Hp} {vs:List V} {ds:List PyData} {f:List Addr} (h:TFs H vs ds f):Trs H vs ds:=by
 cases h with
 | nil=>exact .nil
 | cons h r=>exact .cons (TF.tr h) (TFs.trs r)
end
mutual
theorem TF.fr {H H':Hp} {v:V} {d:PyData} {f:List Addr} (h:TF H v d f) (k:∀ b∈f,∀ o,H b=some o->H' b=some o):TF H' v d f:=by
 cases h with
 | int i=>exact .int i
 | str x=>exact .str x
 | lst h r=>exact .lst (k _ List.mem_cons_self _ h) (TFs.fr r λ b hb=>k b (List.mem_cons_of_mem _ hb))
 | tup h r=>exact .tup (k _ List.mem_cons_self _ h) (TFs.fr r λ b hb=>k b (List.mem_cons_of_mem _ hb))
theorem TFs.fr {H H':Hp} {vs:List V} {ds:List PyData} {f:List Addr} (h:TFs H vs ds f) (k:∀ b∈f,∀ o,H b=some o->H' b=some o):TFs H' vs ds f:=by
 cases h with
 | nil=>exact .nil
 | cons h r=>exact .cons (TF.fr h λ b hb=>k b (List.mem_append_left _ hb)) (TFs.fr r λ b hb=>k b (List.mem_append_right _ hb))
end
mutual
theorem TF.live {H:Hp} {v:V} {d:PyData} {f:List Addr} (h:TF H v d f):∀ b∈f,(∃ xs,H b=some (.lst xs))\/∃ xs,H b=some (.tup xs):=by
 cases h with
 | int i=>intro b hb;cases hb
 | str x=>intro b hb;cases hb
 | lst h r =>
  intro b hb
  rcases List.mem_cons.mp hb with z | z
  ·exact .inl ⟨_,z ▸ h⟩
  ·exact TFs.live r b z
 | tup h r =>
  intro b hb
  rcases List.mem_cons.mp hb with z | z
  ·exact .inr ⟨_,z ▸ h⟩
  ·exact TFs.live r b z
theorem TFs.live {H:Hp} {vs:List V} {ds:List PyData} {f:List Addr} (h:TFs H vs ds f):∀ b∈f,(∃ xs,H b=some (.lst xs))\/∃ xs,H b=some (.tup xs):=by
 cases h with
 | nil=>intro b hb;cases hb
 | cons h r =>
  intro b hb
  rcases List.mem_append.mp hb with z | z
  ·exact TF.live h b z
  ·exact TFs.live r b z
end
theorem TF.same {H H':Hp} (s:Same H H') {v:V} {d:PyData} {f:List Addr} (h:TF H v d f):TF H' v d f:=h.fr λ b _ o e=>s b o e
theorem TFs.same {H H':Hp} (s:Same H H') {vs:List V} {ds:List PyData} {f:List Addr} (h:TFs H vs ds f):TFs H' vs ds f:=h.fr λ b _ o e=>s b o e
theorem TF.not {H:Hp} {v:V} {d:PyData} {f:List Addr} (h:TF H v d f) {b:Addr} (e:H b=none):b ∉ f:=λ hb=>by
 rcases h.live b hb with ⟨xs,q⟩ | ⟨xs,q⟩<;>rw[e] at q<;>cases q
theorem TFs.not {H:Hp} {vs:List V} {ds:List PyData} {f:List Addr} (h:TFs H vs ds f) {b:Addr} (e:H b=none):b ∉ f:=λ hb=>by
 rcases h.live b hb with ⟨xs,q⟩ | ⟨xs,q⟩<;>rw[e] at q<;>cases q
theorem TFs.app {H:Hp}:∀ {vs us:List V} {ds es:List PyData} {f g:List Addr},TFs H vs ds f->TFs H us es g->TFs H (vs++us) (ds++es) (f++g)
 | _,_,_,_,_,_,.nil,r=>r
 | _,_,_,_,_,_,.cons h q,r=>by
  rw[List.append_assoc]
  exact .cons h (TFs.app q r)
theorem TFs.one {H:Hp} {v:V} {d:PyData} {f:List Addr} (h:TF H v d f):TFs H [v] [d] f:=by
 have:=TFs.cons h .nil
 rw[List.append_nil] at this
 exact this
theorem TFs.ints {H:Hp}:∀ ns:List Int,TFs H (ns.map V.int) (ns.map PyData.int) []
 | []=>.nil
 | n::r=>TFs.cons (f:=[]) (g:=[]) (.int n) (TFs.ints r)
theorem TFs.ints_of {H:Hp}:∀ {vs:List V} {ns:List Int} {f:List Addr},TFs H vs (ns.map PyData.int) f->vs=ns.map V.int/\f=[]
 | _,[],_,.nil=>⟨rfl,rfl⟩
 | _,n::r,_,.cons h q=>by
  cases h
  obtain⟨e,e2⟩:=TFs.ints_of q
  exact⟨by rw[e];rfl,by rw[e2];rfl⟩
theorem TFs.len {H:Hp} {vs:List V} {ds:List PyData} {f:List Addr} (h:TFs H vs ds f):vs.length=ds.length:=h.trs.len
theorem TFs.focus {H:Hp}:∀ {vs:List V} {ds:List PyData} {f:List Addr},TFs H vs ds f->∀ {i:Nat} {d:PyData},ds[i]?=some d->∃ x f1 f2 f3,vs[i]?=some x/\f=f1++(f2++f3)/\TF H x d f2 /\
  ∀ H' x' d' f2',(∀ b∈f1++f3,∀ o,H b=some o->H' b=some o)->TF H' x' d' f2'->TFs H' (vs.set i x') (ds.set i d') (f1++(f2'++f3))
 | _,_,_,.nil,i,d,e=>by cases e
 | _,_,_,.cons (x:=x) (f:=f) (g:=g) h r,0,d,e=>by
  cases e
  exact⟨x,[],f,g,rfl,rfl,h,λ H' x' d' f2' k t=>(TFs.cons t (r.fr λ b hb=>k b hb):TFs H' (x'::_) (d'::_) (f2'++g))⟩
 | _,_,_,.cons (x:=x) (f:=f) h r,i+1,d,e=>by
  obtain⟨y,f1,f2,f3,e1,e2,e3,e4⟩:=TFs.focus r (i:=i) (d:=d) (by simpa using e)
  refine⟨y,f++f1,f2,f3,by simpa using e1,by rw[e2,List.append_assoc],e3,λ H' x' d' f2' k t=>?_⟩
  rw[List.append_assoc]
  exact .cons (h.fr λ b hb=>k b (by rw[List.append_assoc];exact List.mem_append_left _ hb)) (e4 H' x' d' f2' (λ b hb=>k b (by rw[List.append_assoc];exact List.mem_append_right _ hb)) t)
theorem TFs.set_self {α:Type}:∀ {xs:List α} {i:Nat} {x:α},xs[i]?=some x->xs.set i x=xs
 | [],_,_,h=>by cases h
 | y::r,0,x,h=>by cases h;rfl
 | y::r,i+1,x,h=>by
  show y::r.set i x=_
  rw[TFs.set_self (xs:=r) (by simpa using h)]
theorem nd3 {α:Type} {a b c:List α}:(a++(b++c)).Nodup ↔ (a++c).Nodup/\b.Nodup/\∀ x∈b,x ∉ a/\x ∉ c:=by
 rw[List.nodup_append,List.nodup_append,List.nodup_append]
 constructor
 ·rintro⟨h1,⟨h2,h3,h4⟩,h5⟩
  exact⟨⟨h1,h3,λ x hx y hy=>h5 x hx y (List.mem_append_right _ hy)⟩,h2,λ x hx=>⟨λ z=>h5 x z x (List.mem_append_left _ hx) rfl,λ z=>h4 x hx x z rfl⟩⟩
 ·rintro⟨⟨h1,h2,h3⟩,h4,h5⟩
  refine⟨h1,⟨h4,h2,λ x hx y hy e=>(h5 x hx).2 (e ▸ hy)⟩,λ x hx y hy e=>?_⟩
  rcases List.mem_append.mp hy with z | z
  ·exact(h5 y z).1 (e ▸ hx)
  ·exact h3 x hx y z e
theorem nd2 {α:Type} {a b:List α}:(a++b).Nodup ↔ a.Nodup/\b.Nodup/\∀ x∈b,x ∉ a:=by
 rw[List.nodup_append]
 constructor
 ·rintro⟨h1,h2,h3⟩
  exact⟨h1,h2,λ x hx z=>h3 x z x hx rfl⟩
 ·rintro⟨h1,h2,h3⟩
  exact⟨h1,h2,λ x hx y hy e=>h3 y hy (e ▸ hx)⟩
theorem f1u {α:Type} {σ0 fs:L2.St} {k:Nat} {K:PySem.W.Frag} {l:Addr} {xs:List V} {g:TG} {tc:L2.TT} {te:TE} {Q:VK} {H1:Hp} (as:List α) (ow:α->List Addr) (dx:α->PyData) (dy:α->PyData) (h0:σ0=List.replicate k none++fs) (hl:H1 l=some (.lst xs)) (ht:Trs H1 xs (as.map dx)) (hz:as.length<=sizeLine)
  (ho:as.Pairwise λ a c=>∀ b∈ow c,b ∉ ow a) (hv:∀ a∈as,∀ b∈ow a,∃ o,H1 b=some o)
  (step:∀ a,a∈as->∀ H (ts:L2.St) v (R:Option V->L2.St->Hp->Prop),Same H1 H->ts.length=k->Tr H v (dx a)->(∀ y f (ts2:L2.St) H3,ts2.length=k->Same H H3->TF H3 y (dy a) f->f.Nodup->(∀ b∈f,H b=none\/b∈ow a)->R (some y) (ts2++fs) H3) ->
   g v (ts++fs) H λ τ2 H2=>tc τ2 H2 λ ok H3=>if ok=true then te τ2 H3 λ y H4=>R (some y) τ2 H4 else R none τ2 H3)
  (fin:∀ D H' ys f,H1 D=none->Same H1 H'->H' D=some (.lst ys)->TFs H' ys (as.map dy) f->f.Nodup->(∀ b∈f,H1 b=none\/∃ a∈as,b∈ow a)->D ∉ f->Q (.ref D) H'):b1i σ0 (Itl K l) g tc te Q H1:=by
 have hn:xs.length=as.length:=by rw[ht.len,List.length_map]
 intro D hD
 refine⟨λ i m ys τ H=>m=as.length - i/\i<=as.length/\ys.length<=i/\(∃ f,TFs H ys ((as.take i).map dy) f/\f.Nodup/\(∀ b∈f,H1 b=none\/∃ a∈as.take i,b∈ow a)/\D ∉ f)/\(∃ ts:L2.St,ts.length=k/\τ=ts++fs)/\Same H1 H/\H D=some (.lst ys),⟨as.length,rfl,Nat.zero_le _,Nat.le_refl _,⟨[],.nil,.nil,(λ b hb=>by cases hb),(λ hb=>by cases hb)⟩,⟨_,List.length_replicate,h0⟩,Same.upd hD,a0b⟩,?_⟩
 rintro i m ys τ H ⟨rfl,hi,hyl,⟨f,hp,hf,hfn,hDf⟩,⟨ts,hts,rfl⟩,ss,hd⟩
 refine⟨hd,?_⟩
 by_cases hlt:i < as.length
 ·refine .inr ⟨(a2s (SqL.of (ss _ _ hl))).go i (by omega),by omega,?_⟩
  rintro v H' ⟨rfl,yy⟩
  have e:=yy xs (SqL.of (ss _ _ hl))
  obtain⟨d,hde,tr⟩:=ht.get e
  have ea:as[i]?=some as[i]:=List.getElem?_eq_getElem hlt
  rw[List.getElem?_map,ea] at hde
  cases hde
  refine step as[i] (List.getElem_mem hlt) H' ts v (λ o τ2 H3=>match o with
   | some y=>H3 D=some (.lst ys)/\∃ m',m' < as.length - i/\m'=as.length - (i+1)/\i+1<=as.length/\(ys++[y]).length<=i+1/\(∃ f,TFs (upd H3 D (.lst (ys++[y]))) (ys++[y]) ((as.take (i+1)).map dy) f/\f.Nodup/\(∀ b∈f,H1 b=none\/∃ a∈as.take (i+1),b∈ow a)/\D ∉ f)/\(∃ ts:L2.St,ts.length=k/\τ2=ts++fs)/\Same H1 (upd H3 D (.lst (ys++[y])))/\upd H3 D (.lst (ys++[y])) D=some (.lst (ys++[y]))
   | none=>∃ m',m' < as.length - i/\m'=as.length - (i+1)/\i+1<=as.length/\ys.length<=i+1/\(∃ f,TFs H3 ys ((as.take (i+1)).map dy) f/\f.Nodup/\(∀ b∈f,H1 b=none\/∃ a∈as.take (i+1),b∈ow a)/\D ∉ f)/\(∃ ts:L2.St,ts.length=k/\τ2=ts++fs)/\Same H1 H3/\H3 D=some (.lst ys)) ss hts (tr.same ss) (λ y f2 ts2 H3 h2 s3 tr3 nd2' fr3=>?_)
  refine⟨s3 _ _ hd,as.length - (i+1),by omega,rfl,hlt,(by rw[List.length_append,List.length_singleton];omega),?_,⟨ts2,h2,rfl⟩,(ss.trans s3).again hD,a0b⟩
  have tk:as.take (i+1)=as.take i++[as[i]]:=by rw[List.take_add_one,ea];rfl
  have hD2:D ∉ f2:=λ z=>by
   rcases fr3 D z with q | q
   ·rw[hd] at q;cases q
   ·obtain⟨o,q⟩:=hv _ (List.getElem_mem hlt) D q
    rw[hD] at q;cases q
  refine⟨f++f2,?_,nd2.mpr ⟨hf,nd2',λ x hx z=>?_⟩,λ b hb=>?_,λ hb=>?_⟩
  ·rw[tk,List.map_append]
   refine(hp.fr λ b hb o eb=>?_).app (TFs.one (tr3.fr λ b hb o eb=>?_))
   ·rw[a0h (show b≠D from λ z=>hDf (z ▸ hb))]
    exact s3 _ _ eb
   ·rw[a0h (show b≠D from λ z=>hD2 (z ▸ hb))]
    exact eb
  ·rcases fr3 x hx with q | q
   ·exact hp.not q z
   ·rcases hfn x z with q2 | ⟨a,ha,q2⟩
    ·obtain⟨o,q3⟩:=hv _ (List.getElem_mem hlt) x q
     rw[q2] at q3;cases q3
    ·obtain⟨j,hj,ej⟩:=List.mem_iff_getElem.mp ha
     rw[List.length_take] at hj
     rw[List.getElem_take] at ej
     have:=List.pairwise_iff_getElem.mp ho j i (by omega) hlt (by omega) x q
     rw[ej] at this
     exact this q2
  ·rw[tk]
   rcases List.mem_append.mp hb with z | z
   ·rcases hfn b z with q | ⟨a,ha,q⟩
    ·exact .inl q
    ·exact .inr ⟨a,List.mem_append_left _ ha,q⟩
   ·rcases fr3 b z with q | q
    ·exact .inl (ss.free q)
    ·exact .inr ⟨as[i],List.mem_append_right _ (List.mem_singleton.mpr rfl),q⟩
  ·rcases List.mem_append.mp hb with z | z
   ·exact hDf z
   ·exact hD2 z
 ·have e:i=as.length:=by omega
  subst e
  rw[List.take_length] at hp hfn
  exact .inl ⟨(a2s (SqL.of (ss _ _ hl))).stop _ (by omega),fin D H ys f hD ss hd hp hf hfn hDf⟩
end My
namespace My
open PySem PySem.Spec PySem.W PyProof.Rows L2 PyProof PySem.SeqAt
structure f1k (K:PySem.W.Frag) (x qual:Str) (st:Stmt) (f:Addr) (fd:FuncData):Prop where
 ex:∃ (oc:Value) (od:Option Addr) (dV kV doc pm:Value) (an:Option Addr) (cdv ct:Value) (osl:Array (Option Value)),
  fd=PySem.W.fnOf x qual (a0p st) (a0o st) (a0f st) dV kV doc pm an cdv ct/\K.lookup f=some ⟨oc,od,.func fd,osl⟩/\PySem.W.codeIn K cdv qual=true
 kp:PySem.W.keepIn K (.ref f)=true
section
variable {P:Program} {w:World} {K:PySem.W.Frag} {mg:Str->Option Value} {base:Heap}
theorem d4z {x qual:Str} {st:Stmt} {f:Addr} {fd:FuncData} {N ps:List Str} {k:Nat} {sp:Sp} (F:f1k K x qual st f fd) (S:a0r N ps (a0f st)) (len:∀ vs H Q E,sp vs H Q E->vs.length=ps.length)
  (hbody:∀ (cdv:Value) (A:Around) (outer:List Env) (s:Shared) (H:Hp) (vs:List V) (Q:VK) (E:XK),Room k (A.deeper (envOfC qual (a0f st) s.heap.objs.size f cdv))->sp vs H Q E ->
   ∃ t,PSs (b9n (CXW P w) P w K mg base N qual (a0f st) f cdv A outer s H E) (a0o st) t/\t {nx:=λ _ H'=>Q .non H',rt:=Q} (c3q N vs) H):a4j P w K mg base (CXW P w) (k+1) f fd ps sp:=by
 obtain⟨oc,od,dV,kV,doc,pm,an,cdv,ct,osl,rfl,lk,hcd⟩:=F.ex
 exact e6n lk hcd S len λ A outer s H vs Q E hr hsp=>hbody cdv A outer s H vs Q E hr hsp
theorem e0j {x qual:Str} {st:Stmt} {f:Addr} {oc:Value} {od an:Option Addr} {osl:Array (Option Value)} {dV kV doc pm cdv ct:Value} (l:K.lookup f=some ⟨oc,od,.func (PySem.W.fnOf x qual (a0p st) (a0o st) (a0f st) dV kV doc pm an cdv ct),osl⟩)
  (c:PySem.W.codeIn K cdv qual=true) (k:PySem.W.keepIn K (.ref f)=true):f1k K x qual st f (PySem.W.fnOf x qual (a0p st) (a0o st) (a0f st) dV kV doc pm an cdv ct):=⟨⟨oc,od,dV,kV,doc,pm,an,cdv,ct,osl,rfl,l,c⟩,k⟩
theorem b3a {s:Shared} {fd:FuncData} {args:Args} {binds:List (Str×Value)} {T:Addr} {o:Obj} {items:Array Value} {n:Nat} (hd:fd.defaults=.ref T) (ho:K.lookup T=some o) (hs:o.data=.seq items n) (X:K.In s.heap)
  (h:∃ k:Option (Array Value)->Sem (List (Str×Value)),bindArgs fd args=(seqItems? fd.defaults>>=k)/\k (some items)=pure binds):BindsTo s fd args binds:=by
 obtain⟨k,h1,h2⟩:=h
 exact BindsTo.of_defaults hd (X _ _ ho) hs h1 h2
end
theorem d3r {α:Type} {xs:List α} {n:Nat} (z:Int) (hl:xs.length=n) (hn:0 < n):(z%(n:Int)).toNat < n/\∃ v,xs[(z%(n:Int)).toNat]?=some v/\atI xs (z%(n:Int))=some v:=by
 have h0:=Int.emod_nonneg z (show (n:Int)≠0 by omega)
 have h1:=Int.emod_lt_of_pos z (show (0:Int) < n by omega)
 obtain⟨j,hj⟩:=Int.eq_ofNat_of_zero_le h0
 rw[hj] at h1 ⊢
 have hjn:j < xs.length:=by omega
 refine⟨by simpa using (by omega:j < n),xs[j],?_,a0i (List.getElem?_eq_getElem hjn)⟩
 rw[Int.toNat_natCast]
 exact List.getElem?_eq_getElem hjn
theorem e5o {ns:List Int} {n:Nat} (z:Int) (hl:ns.length=n) (hn:0 < n):atI (ns.map V.int) (z%(n:Int))=some (.int (ns.getD (z%(n:Int)).toNat 0))/\ns.getD (z%(n:Int)).toNat 0∈ns:=by
 obtain⟨_,v,e,_⟩:=d3r (xs:=ns) z hl hn
 have g:ns.getD (z%(n:Int)).toNat 0=v:=by rw[List.getD_eq_getElem?_getD,e];rfl
 rw[g]
 refine⟨?_,List.mem_of_getElem? e⟩
 have h0:=Int.emod_nonneg z (show (n:Int)≠0 by omega)
 have:=a0i (xs:=ns.map V.int) (j:=(z%(n:Int)).toNat) (v:=.int v) (by rw[List.getElem?_map,e];rfl)
 rwa [Int.toNat_of_nonneg h0] at this
theorem f0c {n:Nat} (z:Int) (hn:0 < n):ixN n (z%(n:Int))=some (z%(n:Int)).toNat:=by
 have h0:=Int.emod_nonneg z (show (n:Int)≠0 by omega)
 have h1:=Int.emod_lt_of_pos z (show (0:Int) < n by omega)
 unfold ixN
 rw[if_pos h0,if_pos h1]
theorem e8q {α:Type} {x y:List α} {a b:α} (h:(x++a::y).Nodup) (hb:b ∉ x++y):(x++b::y).Nodup:=by
 have h1:=(nd3 (a:=x) (b:=[a]) (c:=y)).mp h
 exact(nd3 (a:=x) (b:=[b]) (c:=y)).mpr ⟨h1.1,List.nodup_cons.mpr ⟨(λ z=>by cases z),.nil⟩,λ z hz=>by
  rw[List.mem_singleton.mp hz]
  exact⟨λ w=>hb (List.mem_append_left _ w),λ w=>hb (List.mem_append_right _ w)⟩⟩
theorem c0i {α β:Type} (f:α->β):∀ (l:List α) (j:Nat),(l.map f).eraseIdx j=(l.eraseIdx j).map f
 | [],_=>rfl
 | _::_,0=>rfl
 | x::r,j+1=>by
  show f x::(r.map f).eraseIdx j=f x::(r.eraseIdx j).map f
  rw[c0i f r j]
end My
namespace My
open PySem PySem.Spec PySem.W PyProof.Rows L2 PyProof PySem.SeqAt
def KN (H H':Hp):Prop:=∀ b o,(∀ xs,o≠HO.lst xs)->H b=some o->H' b=some o
theorem KN.of {H H':Hp} (s:Same H H'):KN H H':=λ b o _ e=>s b o e
theorem KN.trans {A B C:Hp} (a:KN A B) (b:KN B C):KN A C:=λ x o n e=>b x o n (a x o n e)
theorem KN.but {H H':Hp} {D:Addr} {ys:List V} (h:H D=some (.lst ys)) (k:∀ b o,b≠D->H b=some o->H' b=some o):KN H H':=λ b o n e=>k b o (λ z=>by rw[z,h] at e;exact n _ (Option.some.inj e).symm) e
theorem KN.upd {H:Hp} {D:Addr} {ys:List V} {o:HO} (h:H D=some (.lst ys)):KN H (upd H D o):=KN.but h λ b o n e=>by rw[a0h n];exact e
theorem c2p {α β:Type} {F:α->β->Prop}:∀ {xs:List α} {bs:List β} {x:α} {b:β},Paired F xs bs->F x b->Paired F (xs++[x]) (bs++[b])
 | _,_,_,_,.nil,h=>.cons h .nil
 | _,_,_,_,.cons r t,h=>.cons r (c2p t h)
theorem e9l {β:Type} {σ0 fs:L2.St} {k:Nat} {J:It} {g:TG} {tc:L2.TT} {te:TE} {Q:VK} {H1:Hp} (G:Hp->V->β->Prop) (Vi:Nat->Hp->V->Prop) (n:Nat) (f:Nat->Option β) (hG:∀ H H' y b,KN H H'->G H y b->G H' y b) (h0:σ0=List.replicate k none++fs) (hz:n<=sizeLine)
  (hgo:∀ i H,Same H1 H->i < n->J.go i H) (hstop:∀ H,Same H1 H->J.stop n H) (hy:∀ i H v H',Same H1 H->i < n->J.yld i H v H'->H'=H/\Vi i H v)
  (step:∀ i,i < n->∀ H (ts:L2.St) v (R:Option V->L2.St->Hp->Prop),Same H1 H->ts.length=k->Vi i H v->(∀ b y (ts2:L2.St) H3,f i=some b->ts2.length=k->Same H H3->G H3 y b->R (some y) (ts2++fs) H3)->(f i=none->∀ (ts2:L2.St) H3,ts2.length=k->Same H H3->R none (ts2++fs) H3) ->
   g v (ts++fs) H λ τ2 H2=>tc τ2 H2 λ ok H3=>if ok=true then te τ2 H3 λ y H4=>R (some y) τ2 H4 else R none τ2 H3)
  (fin:∀ D H' ys,H1 D=none->Same H1 H'->H' D=some (.lst ys)->Paired (G H') ys ((List.range n).filterMap f)->Q (.ref D) H'):b1i σ0 J g tc te Q H1:=by
 intro D hD
 refine⟨λ i m ys τ H=>m=n - i/\i<=n/\ys.length<=i/\Paired (G H) ys ((List.range i).filterMap f)/\(∃ ts:L2.St,ts.length=k/\τ=ts++fs)/\Same H1 H/\H D=some (.lst ys),⟨n,rfl,Nat.zero_le _,Nat.le_refl _,.nil,⟨_,List.length_replicate,h0⟩,Same.upd hD,a0b⟩,?_⟩
 rintro i m ys τ H ⟨rfl,hi,hyl,hp,⟨ts,hts,rfl⟩,ss,hd⟩
 refine⟨hd,?_⟩
 by_cases hlt:i < n
 ·refine .inr ⟨hgo i H ss hlt,by omega,?_⟩
  intro v H' hyl'
  obtain⟨rfl,hv⟩:=hy i H v H' ss hlt hyl'
  have er:List.range (i+1)=List.range i++[i]:=List.range_succ
  refine step i hlt H' ts v (λ o τ2 H3=>match o with
   | some y=>H3 D=some (.lst ys)/\∃ m',m' < n - i/\m'=n - (i+1)/\i+1<=n/\(ys++[y]).length<=i+1/\Paired (G (upd H3 D (.lst (ys++[y])))) (ys++[y]) ((List.range (i+1)).filterMap f)/\(∃ ts:L2.St,ts.length=k/\τ2=ts++fs)/\Same H1 (upd H3 D (.lst (ys++[y])))/\upd H3 D (.lst (ys++[y])) D=some (.lst (ys++[y]))
   | none=>∃ m',m' < n - i/\m'=n - (i+1)/\i+1<=n/\ys.length<=i+1/\Paired (G H3) ys ((List.range (i+1)).filterMap f)/\(∃ ts:L2.St,ts.length=k/\τ2=ts++fs)/\Same H1 H3/\H3 D=some (.lst ys)) ss hts hv (λ b y ts2 H3 hb h2 s3 g3=>?_) λ hb ts2 H3 h2 s3=>?_
  ·refine⟨s3 _ _ hd,n - (i+1),by omega,rfl,hlt,(by rw[List.length_append,List.length_singleton];omega),?_,⟨ts2,h2,rfl⟩,(ss.trans s3).again hD,a0b⟩
   have e1:(List.range (i+1)).filterMap f=(List.range i).filterMap f++[b]:=by
    rw[er,List.filterMap_append]
    show _++List.filterMap f [i]=_
    rw[List.filterMap_cons,hb]
    rfl
   rw[e1]
   have kn:KN H3 (upd H3 D (.lst (ys++[y]))):=KN.upd (s3 _ _ hd)
   exact c2p (Paired.mapP hp λ _ _ z=>hG _ _ _ _ ((KN.of s3).trans kn) z) (hG _ _ _ _ kn g3)
  ·refine⟨n - (i+1),by omega,rfl,hlt,by omega,?_,⟨ts2,h2,rfl⟩,ss.trans s3,s3 _ _ hd⟩
   have e1:(List.range (i+1)).filterMap f=(List.range i).filterMap f:=by
    rw[er,List.filterMap_append]
    show _++List.filterMap f [i]=_
    rw[List.filterMap_cons,hb]
    exact List.append_nil _
   rw[e1]
   exact Paired.mapP hp λ _ _ z=>hG _ _ _ _ (KN.of s3) z
 ·have e:i=n:=by omega
  subst e
  exact .inl ⟨hstop H ss,fin D H ys hD ss hd hp⟩
theorem c8m {α β:Type} {σ0 fs:L2.St} {k:Nat} {K:PySem.W.Frag} {l:Addr} {xs:List V} {g:TG} {tc:L2.TT} {te:TE} {Q:VK} {H1:Hp} (G:Hp->V->β->Prop) (F:Hp->V->α->Prop) (as:List α) (f:α->Option β) (hG:∀ H H' y b,KN H H'->G H y b->G H' y b) (hF:∀ H H' y b,Same H H'->F H y b->F H' y b) (h0:σ0=List.replicate k none++fs)
  (hl:H1 l=some (.lst xs)) (hp:Paired (F H1) xs as) (hz:as.length<=sizeLine)
  (step:∀ a,a∈as->∀ H (ts:L2.St) v (R:Option V->L2.St->Hp->Prop),Same H1 H->ts.length=k->F H v a->(∀ b y (ts2:L2.St) H3,f a=some b->ts2.length=k->Same H H3->G H3 y b->R (some y) (ts2++fs) H3)->(f a=none->∀ (ts2:L2.St) H3,ts2.length=k->Same H H3->R none (ts2++fs) H3) ->
   g v (ts++fs) H λ τ2 H2=>tc τ2 H2 λ ok H3=>if ok=true then te τ2 H3 λ y H4=>R (some y) τ2 H4 else R none τ2 H3)
  (fin:∀ D H' ys,H1 D=none->Same H1 H'->H' D=some (.lst ys)->Paired (G H') ys (as.filterMap f)->Q (.ref D) H'):b1i σ0 (Itl K l) g tc te Q H1:=by
 have hn:xs.length=as.length:=a6g hp
 refine e9l G (λ i H v=>∃ a,as[i]?=some a/\F H v a) as.length (λ i=>as[i]?.bind f) hG h0 hz (λ i H ss hi=>(a2s (SqL.of (ss _ _ hl))).go i (by omega)) (λ H ss=>(a2s (SqL.of (ss _ _ hl))).stop _ (by omega)) ?_ ?_ λ D H' ys hD ss hd pp=>fin D H' ys hD ss hd (by rw[c3z] at pp;exact pp)
 ·rintro i H v H' ss hi ⟨rfl,yy⟩
  have e:=yy xs (SqL.of (ss _ _ hl))
  obtain⟨a,ea,fa⟩:=a2a hp e
  exact⟨rfl,a,ea,hF _ _ _ _ ss fa⟩
 ·rintro i hi H ts v R ss hts ⟨a,ea,fa⟩ cs cn
  refine step a (List.mem_of_getElem? ea) H ts v R ss hts fa (λ b y ts2 H3 hb h2 s3 g3=>cs b y ts2 H3 (by rw[ea];exact hb) h2 s3 g3) λ hb ts2 H3 h2 s3=>cn (by rw[ea];exact hb) ts2 H3 h2 s3
theorem f0l {β:Type} {σ0 fs:L2.St} {k:Nat} {lo:Int} {g:TG} {tc:L2.TT} {te:TE} {Q:VK} {H1:Hp} (G:Hp->V->β->Prop) (n:Nat) (f:Nat->Option β) (hG:∀ H H' y b,KN H H'->G H y b->G H' y b) (h0:σ0=List.replicate k none++fs) (hz:n<=sizeLine)
  (step:∀ i,i < n->∀ H (ts:L2.St) (R:Option V->L2.St->Hp->Prop),Same H1 H->ts.length=k->(∀ b y (ts2:L2.St) H3,f i=some b->ts2.length=k->Same H H3->G H3 y b->R (some y) (ts2++fs) H3)->(f i=none->∀ (ts2:L2.St) H3,ts2.length=k->Same H H3->R none (ts2++fs) H3) ->
   g (.int (lo+(i:Int))) (ts++fs) H λ τ2 H2=>tc τ2 H2 λ ok H3=>if ok=true then te τ2 H3 λ y H4=>R (some y) τ2 H4 else R none τ2 H3)
  (fin:∀ D H' ys,H1 D=none->Same H1 H'->H' D=some (.lst ys)->Paired (G H') ys ((List.range n).filterMap f)->Q (.ref D) H'):b1i σ0 (Itr lo n) g tc te Q H1:=by
 refine e9l G (λ i _ v=>v=.int (lo+(i:Int))) n f hG h0 hz (λ i H _ hi=>hi) (λ H _=>Nat.le_refl _) ?_ ?_ fin
 ·rintro i H v H' _ _ ⟨rfl,rfl⟩
  exact⟨rfl,rfl⟩
 ·rintro i hi H ts v R ss hts rfl cs cn
  exact step i hi H ts R ss hts cs cn
end My
namespace My
open PySem PySem.Spec PySem.W PyProof.Rows L2 PyProof PySem.SeqAt
structure d0s (k:Nat) (A:Around):Prop where
 dp:A.depth+3*k+5 < recursionLimit
 un:A.units+16*k+200 < cLine
theorem _root_.L2.Room.m {k:Nat} {A:Around} {x:Option Value} (r:Room k A):d0s k (A.mark x):=⟨r.dp,r.un⟩
theorem d0s.units {k:Nat} {A:Around} (r:d0s k A):A.units+64 < cLine:=by have:=r.un;omega
theorem d0s.depth {k:Nat} {A:Around} (r:d0s k A):A.depth < recursionLimit:=by have:=r.dp;omega
theorem d0s.deeper {k:Nat} {A:Around} (r:d0s (k+1) A) (env:Env):d0s k (A.deeper env) :=
 ⟨by have:=r.dp;show A.depth+1+3*k+5 < _;omega,by have:=r.un;show A.units+3+16*k+200 < _;omega⟩
end My
namespace My
open PySem PySem.Spec PySem.W PyProof.Rows L2 PyProof PySem.SeqAt
def b4w:List Int->List Int->Bool
 | [],[]=>false
 | [],_::_=>true
 | _::_,[]=>false
 | x::r,y::t=>if x=y then b4w r t else decide (x < y)
theorem d3i:∀ l:List Int,b4w l l=false
 | []=>rfl
 | x::r=>by
  show (if x=x then b4w r r else decide (x < x))=false
  rw[if_pos rfl]
  exact d3i r
theorem e0l:∀ x y z:List Int,b4w x y=true->b4w y z=true->b4w x z=true
 | [],[],_,h,_=>by cases h
 | [],_::_,[],_,h=>by cases h
 | [],_::_,_::_,_,_=>rfl
 | _::_,[],_,h,_=>by cases h
 | _::_,_::_,[],_,h=>by cases h
 | a::r,b::t,c::u,h,h'=>by
  have h1:(if a=b then b4w r t else decide (a < b))=true:=h
  have h2:(if b=c then b4w t u else decide (b < c))=true:=h'
  show (if a=c then b4w r u else decide (a < c))=true
  by_cases e:a=b
  ·rw[if_pos e] at h1
   by_cases e':b=c
   ·rw[if_pos e'] at h2
    rw[if_pos (e.trans e')]
    exact e0l r t u h1 h2
   ·rw[if_neg e'] at h2
    rw[if_neg (λ q=>e' (e.symm.trans q)),e]
    exact h2
  ·rw[if_neg e] at h1
   have l1:=of_decide_eq_true h1
   by_cases e':b=c
   ·rw[if_neg (λ q=>e (q.trans e'.symm)),<-e']
    exact h1
   ·rw[if_neg e'] at h2
    have l2:=of_decide_eq_true h2
    rw[if_neg (by omega)]
    exact decide_eq_true (by omega)
theorem c7m:∀ x y:List Int,x≠y->b4w x y=false->b4w y x=true
 | [],[],n,_=>absurd rfl n
 | [],_::_,_,h=>by cases h
 | _::_,[],_,_=>rfl
 | a::r,b::t,n,h=>by
  have h1:(if a=b then b4w r t else decide (a < b))=false:=h
  show (if b=a then b4w t r else decide (b < a))=true
  by_cases e:a=b
  ·rw[if_pos e] at h1
   rw[if_pos e.symm]
   exact c7m r t (λ q=>n (by rw[e,q])) h1
  ·rw[if_neg e] at h1
   have l1:=of_decide_eq_false h1
   rw[if_neg (λ q=>e q.symm)]
   exact decide_eq_true (by omega)
def e1y (cd:Key->Int):Key->Key->Prop
 | .inl i,.inl j=>cd (.inl i)=i/\cd (.inl j)=j
 | .inr x,.inr y=>(x=y ↔ cd (.inr x)=cd (.inr y))/\decide (x.cps.toList < y.cps.toList)=decide (cd (.inr x) < cd (.inr y))
 | _,_=>False
def e0i (cd:Key->Int):List Key->List Key->Prop
 | a::r,b::t=>e1y cd a b/\e0i cd r t
 | _,_=>True
def f1m (cd:Key->Int) (ks:List (List Key)):Prop:=(∀ k∈ks,∀ l∈ks,e0i cd k l)/\∀ k∈ks,k≠[]
theorem d3j {cd:Key->Int} {a b:Key} (h:e1y cd a b):(a=b) ↔ (cd a=cd b):=by
 match a,b,h with
 | .inl i,.inl j,h =>
  rw[h.1,h.2]
  exact⟨λ e=>Sum.inl.inj e,λ e=>congrArg _ e⟩
 | .inr x,.inr y,h=>exact⟨λ e=>h.1.mp (Sum.inr.inj e),λ e=>congrArg _ (h.1.mpr e)⟩
 | .inl _,.inr _,h=>exact h.elim
 | .inr _,.inl _,h=>exact h.elim
def IsK (h:Heap) (k:List Key) (v:Value):Prop:=∃ (a:Addr) (o:Obj) (n:Nat) (us:List Value),v=.ref a/\h.get? a=some o/\o.cls=.type "tuple"/\o.data=.seq us.toArray n/\a3o (k.map kV) us
theorem e9t {k l:Key} {u:Value} (h:a3n (kV k) u) (g:a3n (kV l) u):k=l:=by
 match k,l,h,g with
 | .inl i,.inl j,h,g =>
  obtain⟨t,rfl⟩:=(show ∃ t,u=Value.int i t from h)
  obtain⟨t',e⟩:=(show ∃ t',Value.int i t=Value.int j t' from g)
  injection e with e1 _
  rw[e1]
 | .inr x,.inr y,h,g =>
  obtain⟨t,rfl⟩:=(show ∃ t,u=Value.str x t from h)
  obtain⟨t',e⟩:=(show ∃ t',Value.str x t=Value.str y t' from g)
  injection e with e1 _
  rw[e1]
 | .inl i,.inr y,h,g =>
  obtain⟨t,rfl⟩:=(show ∃ t,u=Value.int i t from h)
  obtain⟨t',e⟩:=(show ∃ t',Value.int i t=Value.str y t' from g)
  cases e
 | .inr x,.inl j,h,g =>
  obtain⟨t,rfl⟩:=(show ∃ t,u=Value.str x t from h)
  obtain⟨t',e⟩:=(show ∃ t',Value.str x t=Value.int j t' from g)
  cases e
theorem b6g:∀ {k l:List Key} {us:List Value},a3o (k.map kV) us->a3o (l.map kV) us->k=l
 | [],[],_,_,_=>rfl
 | [],_::_,_,.nil,h=>nomatch h
 | _::_,[],_,h,.nil=>nomatch h
 | a::r,b::t,_,.cons h1 h2,.cons g1 g2=>by
  have e1:a=b:=e9t h1 g1
  rw[e1,b6g h2 g2]
theorem IsK.inj {h:Heap} {k l:List Key} {v:Value} (x:IsK h k v) (y:IsK h l v):k=l:=by
 obtain⟨a,o,n,us,rfl,ho,_,hd,hv⟩:=x
 obtain⟨a',o',n',us',e,ho',_,hd',hv'⟩:=y
 cases e
 rw[ho] at ho'
 cases ho'
 rw[hd] at hd'
 injection hd' with e1 _
 have e2:us=us':=by
  have:=congrArg Array.toList e1
  simpa using this
 subst e2
 exact b6g hv hv'
section
variable {prog:Program} {w:World} {A:Around} {s:Shared}
theorem e9s {cd:Key->Int} {a b:Key} {u v:Value} {c:Bool} {R:Bool->Shared->Prop} {E:Value->Shared->Prop} (h:e1y cd a b) (ra:a3n (kV a) u) (rb:a3n (kV b) v) (q:R (decide (cd a < cd b)) s):wpAny (model prog w) A (oneLt' c u v) R E s:=by
 match a,b,h with
 | .inl i,.inl j,h =>
  obtain⟨t,rfl⟩:=(show ∃ t,u=Value.int i t from ra)
  obtain⟨t',rfl⟩:=(show ∃ t,v=Value.int j t from rb)
  rw[h.1,h.2] at q
  cases c with
  | true=>exact oneLt_int q
  | false=>exact kat_one _ _ (lt_int q)
 | .inr x,.inr y,h =>
  obtain⟨t,rfl⟩:=(show ∃ t,u=Value.str x t from ra)
  obtain⟨t',rfl⟩:=(show ∃ t,v=Value.str y t from rb)
  rw[<-h.2] at q
  cases c with
  | true=>exact oneLt_str q
  | false=>exact kat_one _ _ (PyProof.Rows.lt_str q)
 | .inl _,.inr _,h=>exact h.elim
 | .inr _,.inl _,h=>exact h.elim
theorem f3y {b fin:Bool} {R:Bool->Shared->Prop} {cd:Key->Int}:∀ {k l:List Key} {us vs:List Value} {i:Nat},a3o (k.map kV) us->a3o (l.map kV) vs->e0i cd k l->fin=decide (us.length < vs.length)->R (b4w (k.map cd) (l.map cd)) s->KatLex prog w A b fin R (us.zip vs) i s
 | [],[],_,_,_,.nil,.nil,_,f,q=>by subst f;exact kat_nil q
 | [],_::_,_,_,_,.nil,.cons _ _,_,f,q=>by subst f;exact kat_nil (by simpa [b4w] using q)
 | _::_,[],_,_,_,.cons _ _,.nil,_,f,q=>by subst f;exact kat_nil (by simpa [b4w] using q)
 | x::r,y::t,_,_,i,.cons h1 h2,.cons g1 g2,al,f,q=>by
  have q':R (if cd x=cd y then b4w (r.map cd) (t.map cd) else decide (cd x < cd y)) s:=q
  refine kat_cons ((a1e prog w).eqBool (c8f h1) (c8f g1) (kat_go (λ e=>kat_yes ?_) λ e=>kat_no ?_))
  ·rw[if_pos ((d3j al.1).mp (of_decide_eq_true e))] at q'
   exact f3y h2 g2 al.2 (by rw[f];simp) q'
  ·rw[if_neg λ z=>of_decide_eq_false e ((d3j al.1).mpr z)] at q'
   exact e9s al.1 h1 g1 q'
open Classical in
noncomputable def a9w (h:Heap) (u:Value):List Key:=if x:∃ k,IsK h k u then Classical.choose x else []
theorem b5o {h:Heap} {k:List Key} {u:Value} (x:IsK h k u):a9w h u=k:=by
 unfold a9w
 rw[dif_pos ⟨k,x⟩]
 exact(Classical.choose_spec (⟨k,x⟩:∃ k,IsK h k u)).inj x
theorem d8d {h:Heap} {cd:Key->Int}:∀ {vs:List Value} {ks:List (List Key)},Paired (λ v k=>IsK h k v) vs ks->(∀ k∈ks,k≠[])->∃ fs,KatTups h vs fs/\fs.length=vs.length/\∀ v∈fs,∃ k r,k::r∈ks/\a3n (kV k) v
 | [],[],_,_=>⟨[],trivial,rfl,λ v hv=>by cases hv⟩
 | v::vr,k::kr,.cons h1 t,ne=>by
  obtain⟨fs,ht,hl,ha⟩:=d8d (cd:=cd) t λ k hk=>ne k (.tail _ hk)
  obtain⟨a,o,n,us,rfl,ho,hc,hd,hv⟩:=h1
  match k,ne k (.head _),hv with
  | k0::r,_,hv =>
   cases hv with
   | @cons x u xs us r1 r2 =>
    refine⟨u::fs,KatTups.cons ho hc hd rfl ht,by rw[List.length_cons,List.length_cons,hl],λ v hv=>?_⟩
    rcases List.mem_cons.mp hv with z | z
    ·exact⟨k0,r,.head _,z ▸ r1⟩
    ·obtain⟨k,r,m,rr⟩:=ha v z
     exact⟨k,r,.tail _ m,rr⟩
def tyK:Key->Value
 | .inl _=>.type "int"
 | .inr _=>.type "str"
theorem e3w {M:Model} {h:Heap} {k:Key} {u:Value} (r:a3n (kV k) u):Looks M h (typeOf u) (tyK k):=by
 match k with
 | .inl i =>
  obtain⟨t,rfl⟩:=(show ∃ t,u=Value.int i t from r)
  intro A Q E s _ q
  exact wpAny_typeOf (T:="int") rfl q
 | .inr x =>
  obtain⟨t,rfl⟩:=(show ∃ t,u=Value.str x t from r)
  intro A Q E s _ q
  exact wpAny_typeOf (T:="str") rfl q
theorem e1b {cd:Key->Int} {a b:Key} (h:e1y cd a b):tyK a=tyK b:=by
 match a,b,h with
 | .inl _,.inl _,_=>rfl
 | .inr _,.inr _,_=>rfl
 | .inl _,.inr _,h=>exact h.elim
 | .inr _,.inl _,h=>exact h.elim
theorem e7g (a:Key):(tyK a == tyK a)=true:=by
 cases a with
 | inl i=>exact(show (Value.type "int" == Value.type "int")=true by decide)
 | inr x=>exact(show (Value.type "str" == Value.type "str")=true by decide)
theorem IsK.keep {h h':Heap} {k:List Key} {v:Value} (x:IsK h k v) (kp:∀ b o,o.cls=.type "tuple"->h.get? b=some o->h'.get? b=some o):IsK h' k v:=let ⟨a,o,n,us,e,ho,hc,hd,hv⟩:=x;⟨a,o,n,us,e,kp a o hc ho,hc,hd,hv⟩
end
def TkV (H:Hp) (v:V) (k:List Key):Prop:=∃ p,v=.ref p/\H p=some (.tup (k.map kV))
section
variable {X:Cx} {pins:List (Addr×Obj)} {σ:L2.St} {H:Hp} {s:Shared}
theorem f0w (I:Inv X pins σ H s) {v:V} {k:List Key} {u:Value} (h:TkV H v k) (r:a3n v u):IsK s.heap k u:=by
 obtain⟨p,rfl,e⟩:=h
 obtain rfl:u=Value.ref p:=r
 obtain⟨its,rv,⟨o,e1,e2,c,e3⟩,_⟩:=I.tuple (SqT.of e)
 exact⟨p,o,c,its,rfl,e1,e2,e3,rv⟩
def KF (H H':Hp):Prop:=∀ b o,H b=some o->H' b=some o\/∃ kvs ob,o=.dK kvs/\H' b=some (.frz ob (.dK kvs))
theorem KF.of {H H':Hp} (s:Same H H'):KF H H':=λ b o e=>.inl (s b o e)
theorem KF.refl (H:Hp):KF H H:=λ _ _ e=>.inl e
theorem KF.trans {H H' H'':Hp} (a:KF H H') (b:KF H' H''):KF H H'':=λ c o e=>by
 rcases a c o e with h | ⟨kvs,ob,rfl,h⟩
 ·exact b c o h
 ·rcases b c _ h with h2 | ⟨_,_,z,_⟩
  ·exact .inr ⟨kvs,ob,rfl,h2⟩
  ·cases z
theorem KF.lst {H H':Hp} (a:KF H H') {b:Addr} {xs:List V} (e:H b=some (.lst xs)):H' b=some (.lst xs):=by
 rcases a b _ e with h | ⟨_,_,z,_⟩
 ·exact h
 ·cases z
theorem KF.tup {H H':Hp} (a:KF H H') {b:Addr} {xs:List V} (e:H b=some (.tup xs)):H' b=some (.tup xs):=by
 rcases a b _ e with h | ⟨_,_,z,_⟩
 ·exact h
 ·cases z
theorem KF.frz {H H':Hp} (a:KF H H') {b:Addr} {ob:Obj} {u:HO} (e:H b=some (.frz ob u)):H' b=some (.frz ob u):=by
 rcases a b _ e with h | ⟨_,_,z,_⟩
 ·exact h
 ·cases z
theorem KF.rd {H H':Hp} (a:KF H H') {b:Addr} {kvs:List (Key×V)} (e:Rd H b (.dK kvs)):Rd H' b (.dK kvs):=by
 rcases e with e | ⟨ob,e⟩
 ·rcases a b _ e with h | ⟨_,ob,z,h⟩
  ·exact .inl h
  ·cases z
   exact .inr ⟨ob,h⟩
 ·exact .inr ⟨ob,a.frz e⟩
mutual
theorem Tr.kf {H H':Hp} (s:KF H H') {v:V} {d:PyData} (h:Tr H v d):Tr H' v d:=by
 cases h with
 | int i=>exact .int i
 | str x=>exact .str x
 | lst h r=>exact .lst (s.lst h) (Trs.kf s r)
 | tup h r=>exact .tup (s.tup h) (Trs.kf s r)
theorem Trs.kf {H H':Hp} (s:KF H H') {vs:List V} {ds:List PyData} (h:Trs H vs ds):Trs H' vs ds:=by
 cases h with
 | nil=>exact .nil
 | cons h r=>exact .cons (Tr.kf s h) (Trs.kf s r)
end
def f1a (td:TE):TI:=λ σ H R=>td σ H λ x H1=>∃ d kvs,x=.ref d/\Rd H1 d (.dK kvs)/\∀ ob H2,H2 d=some (.frz ob (.dK kvs))->KF H1 H2->(∀ b,H1 b=none->H2 b=none)->R (ItK d ob kvs) H2
theorem e3v {tg o:Expr} {td:TE} (ho:PE X o td):PI X tg o (f1a td):=by
 constructor;intro pins s σ H R I h
 refine thn (ho pins s σ H _ I h) λ v s1 ⟨x,H1,I1,r1,d,kvs,ex,hd,q⟩=>?_
 subst ex
 cases r1
 obtain⟨ob,H2,I2,h2,k2,n2⟩:∃ ob H2,Inv X pins σ H2 s1/\H2 d=some (.frz ob (.dK kvs))/\KF H1 H2/\∀ b,H1 b=none->H2 b=none:=by
  rcases hd with e | ⟨ob,e⟩
  ·obtain⟨ob,eo⟩:=b0g (I1.hok d _ e)
   refine⟨ob,_,c5a I1 e eo,a0b,λ b o eb=>?_,λ b eb=>?_⟩
   ·by_cases n:b=d
    ·subst n
     rw[e] at eb
     cases eb
     exact .inr ⟨kvs,ob,rfl,a0b⟩
    ·exact .inl (by rw[a0h n];exact eb)
   ·have n:b≠d:=λ z=>by rw[z,e] at eb;cases eb
    rw[a0h n];exact eb
  ·exact⟨ob,H1,I1,e,KF.refl _,λ _ q=>q⟩
 obtain⟨ho2,z,hs,vs,rel,dd⟩:=(show a3f X.prog X.w H2 s1.heap d (.frz ob (.dK kvs)) from I2.hok d _ h2)
 obtain⟨ep,hat⟩:=dd.dictAt
 have hat':∀ h:Heap,h.get? d=some ob->h.DictAt (a1e X.prog X.w) d vs ep:=λ h e=>hat.at' λ o e2=>by
  rw[ho2] at e2
  cases e2
  exact e
 refine wpAny_pyIter_dict hs hat ?_
 have I3:=I2.kept (t':=s1.toks) (h':=s1.heap.push {cls:=.type "dict_keyiterator",data:=.fields #[.ref d,.int 0 0,.int vs.length 0,.int ep 0]}) λ b o e=>Heap.get?_push_of_some _ e
 exact⟨_,[s1.heap.objs.size],_,_,H2,rfl,I3,d0j d _ ep ob kvs vs rel hat',⟨_,Heap.get?_push_size _ rfl,rfl,rfl⟩,λ b hb=>by
  rw[List.mem_singleton.mp hb]
  exact I2.fpOk (Nat.le_refl _) (I2.hok.fresh (Nat.le_refl _)),q ob H2 h2 k2 n2⟩
end
end My
namespace My
open PySem PySem.Spec PySem.W PyProof.Rows L2 PyProof PySem.SeqAt
section
variable {prog:Program} {w:World} {A:Around} {E:Value->Shared->Prop} {s:Shared}
theorem e1e {R:Result->Shared->Prop} {I D l:Addr} {us:List Value} {ks v0:List (Key×Value)} (hh:A.handled=none) (hlI:l≠I) (hDI:D≠I) (hDl:D≠l) (hlen:us.length=ks.length) (hsz:v0.length+ks.length < 1000000) :
  ∀ (k i:Nat) (s:Shared),us.length - i=k->i<=us.length->s.heap.IsListIter I l i->s.heap.IsList l us.toArray->(∀ (j:Nat) u,us[j]?=some u->∃ t ku q,u=.ref t/\t≠I/\t≠D/\ks[j]?=some q/\s.heap.IsTuple t #[ku,q.2]/\(a1e prog w).is q.1 ku=true) ->
   (∃ vs,s.heap.DictOf (a1e prog w) D vs/\vs=a7x v0 (ks.take i)/\vs.length<=v0.length+i) ->
   (∀ h' tk,(∀ b o,b≠I->b≠D->s.heap.get? b=some o->h'.get? b=some o)->h'.DictOf (a1e prog w) D (a7x v0 ks)->R (.ok (.ret .none)) {s with heap:=h',toks:=tk}) ->
   codeAny (model prog w) A (.builtin "dict.update.loop" ⟨[.ref D,.ref I,rawInt i,.none],[]⟩) R s:=by
 have W:=Walks.list (prog:=prog) (w:=w) (A:=A.in1) hh I l hlI us.toArray
 have us0:us.toArray.size=us.length:=by simp
 intro k
 induction k with
 | zero =>
  intro i s hk hi hit hil ht hg hR
  have hin:i=us.length:=by omega
  refine codeAny_builtin b9l ?_
  rw[Around.under_plainId a8z _]
  refine wpAny_bind (W.done s _ _ ⟨by rw[us0,<-hin];exact hit,hil⟩ λ h' tk hk'=>?_)
  obtain⟨vs,dd,rfl,_⟩:=hg
  rw[hin,hlen,List.take_length] at dd
  refine wpAny_bind (wpAny_pure (wpAny_pure (hR h' tk (λ b o b1 _ e=>hk' b o (by simpa using b1) e) ?_)))
  obtain⟨o,es,ep,ho,r⟩:=dd
  exact⟨o,es,ep,hk' D o (by simpa using hDI) ho,r⟩
 | succ k ih =>
  intro i s hk hi hit hil ht hg hR
  have hlt:i < us.length:=by omega
  refine codeAny_builtin b9l ?_
  rw[Around.under_plainId a8z _]
  refine wpAny_bind (W.item i s _ _ (by rw[us0];exact hlt) ⟨hit,hil⟩ λ v h1 tk1 hP hst hk1=>?_)
  obtain⟨t,ku,q,rfl,tI,tD,hq,hT,hkk⟩:=ht i v (by simpa using hP)
  obtain⟨vs,dd,evs,hvl⟩:=hg
  obtain⟨oT,hoT,hcT,nT,hdT⟩:=id hT
  have hoT1:=hk1 t oT (by simpa using tI) hoT
  refine wpAny_bind (wpAny_holding ?_)
  refine wpAny_bind (wpAny_tryCatch ?_)
  unfold Builtin.Dict.pairItems
  refine wpAny_bind (wpAny_typeOf (T:="tuple") ⟨oT,hoT1,hcT⟩ ?_)
  rw[if_pos (by decide)]
  refine wpAny_bind (wpAny_seqItems hoT1 hdT ?_)
  refine wpAny_pure ?_
  show wpAny _ _ (holding [ku,q.2] (dictSet D ku q.2)) _ _ _
  refine wpAny_holding ?_
  unfold dictSet
  try with_reducible refine wpAny_holding ?_
  refine wpAny_bind ((a1e prog w).pyHash hkk ?_)
  have dd1:h1.DictOf (a1e prog w) D vs:=by
   obtain⟨o,es,ep,ho,r⟩:=dd
   exact⟨o,es,ep,hk1 D o (by simpa using hDI) ho,r⟩
  have hv6:vs.length<=sizeLine:=Nat.le_trans hvl (Nat.le_trans (show v0.length+i<=1000000 by omega) (by decide))
  refine wpAny_dictSetHashed_pairs (s:={s with heap:=h1,toks:=tk1+1}) (hsz:=hv6) hkk dd1 λ h2 dd2 sb=>?_
  have oth:∀ b,b≠D->h2.get? b=h1.get? b:=λ b hb=>sb.2 b hb
  refine wpAny_pure ⟨plainId_quiet a8z _,?_⟩
  have en:rawInt ((i:Int)+1)=rawInt ((i+1:Nat):Int):=by rw[Int.natCast_add];rfl
  rw[en]
  refine ih (i+1) {s with heap:=h2,toks:=tk1+1} (by omega) hlt (hst.1.at λ o e=>(oth I hDI.symm).trans e) (hst.2.at λ o e=>(oth l hDl.symm).trans e) (λ j u eu=>?_) ⟨_,dd2,?_,?_⟩ λ h3 tk3 k3 dd3=>?_
  ·obtain⟨t',ku',q',e1,e2,e3,e4,⟨oT',hoT',r'⟩,e6⟩:=ht j u eu
   exact⟨t',ku',q',e1,e2,e3,e4,⟨oT',(oth _ e3).trans (hk1 _ _ (by simpa using e2) hoT'),r'⟩,e6⟩
  ·rw[List.take_add_one,hq,evs]
   unfold a7x
   rw[List.foldl_append]
   rfl
  ·have:=c4i (K:=Key) vs q.1 q.2
   omega
  ·exact hR h3 tk3 (λ b o b1 b2 e=>k3 b o b1 b2 ((oth b b2).trans (hk1 b o (by simpa using b1) e))) dd3
end
def e9r (K:PySem.W.Frag) (td te:TE):TE:=λ σ H Q=>td σ H λ x H1=>∃ a,x=.ref a/\IsD H1 a/\te σ H1 λ y H2=>∃ b ws kvs ps,y=.ref b/\H2 a=some (.dK kvs)/\H2 b=some (.lst ws)/\d6q K H2 ws ps/\kvs.length+ps.length < 1000000/\Q .non (upd H2 a (.dK (a6d kvs ps)))
section
variable {X:Cx} {o e:Expr} {td te:TE} {apos cpos:Pos}
theorem e3i {K:PySem.W.Frag} (hK:X.K=K) (hc:X.calm=true) (ho:PE X o td) (he:PE X e te) (m:M1 X o "update" apos e cpos):PE X (.Call (.Attribute o "update" apos) [e] [] cpos) (e9r K td te):=by
 constructor;intro pins s σ H Q I h
 subst hK
 refine wpAny_Call_method m.base m.few m.line PySem.F.plainAttrs_dict PySem.F.slot_dict_update PySem.F.type_dict_update (thn (ho pins s σ H _ I h) λ u s1 ⟨x,H1,I1,rx,a,ex,d,q1⟩=>?_)
 subst ex
 obtain rfl:u=Value.ref a:=rx
 obtain⟨t1,t2,_⟩:=d7s I1 d
 refine⟨t1,t2,?_⟩
 rw[m.trees]
 refine Calls.callWith_builtin rfl (Calls.evalArgs_plain (Calls.spliced_cons (thn (he pins s1 σ H1 _ I1 q1) λ iv s2 ⟨y,H2,I2,ry,b,ws,kvs,ps,ey,ha,hb,hp,hz,q2⟩=>Calls.spliced_nil ?_)))
 subst ey
 obtain rfl:iv=Value.ref b:=ry
 obtain⟨z,hd,vs,rel,dd⟩:=e8f I2.hok ha
 obtain⟨t3,_,_⟩:=d7s I2 (.inl ⟨kvs,.inl ha⟩)
 obtain⟨its,rv,pl,_⟩:=I2.list (SqL.of hb)
 obtain⟨ks,k1,k2,k3⟩:=e0r I2 hp rv
 have kl:ks.length=ps.length:=(Paired.length k1).symm
 have vl:vs.length=kvs.length:=rel.length.symm
 have hab:a≠b:=λ z=>by rw[z,hb] at ha;cases ha
 have hbl:b < s2.heap.objs.size:=by obtain⟨_,_,e,_⟩:=pl;exact Heap.lt_size e
 have hal:a < s2.heap.objs.size:=(I2.hok a _ ha).lt
 refine wpAny_call (codeAny_call_builtin PySem.F.slot_dict_update.plain PySem.F.entry_dict_update (PySem.F.slot_dict_update.check _ _ _ _ _ _ _ _ t3 (PySem.F.args_dict_update_2 _ _) ?_))
 unfold Builtin.«dict.update»
 refine wpAny_bind ?_
 unfold Builtin.Dict.selfAndRest
 refine wpAny_bind (wpAny_notOrdered_dict t3 ?_)
 show wpAny _ _ (pure (a,[Value.ref b])) _ _ _
 refine wpAny_pure ?_
 show wpAny _ _ (Builtin.Dict.updateFrom "dict.update" a (.ref b) [] .none) _ _ _
 unfold Builtin.Dict.updateFrom
 obtain⟨oa,na,hoa,hca,_⟩:=id pl
 refine wpAny_bind (wpAny_typeOf (T:="list") ⟨oa,hoa,hca⟩ ?_)
 rw[if_pos (by decide)]
 refine wpAny_bind (d7u pl (I2.ok.hd hc) λ h1 tk1 hk1=>?_)
 rw[if_pos (show (none:Option Value).isNone=true from rfl)]
 refine wpAny_bind (wpAny_rule ?_)
 have pl2:=pl.keeps hk1
 refine wpAny_bind (wpAny_pyIter_list pl2.isList ?_)
 have dd1:(h1.push {cls:=.type "list_iterator",data:=.fields #[.ref b,.int 0 0]}).DictOf (a1e X.prog X.w) a vs:=by
  obtain⟨o,es,ep,ho,r⟩:=dd
  exact⟨o,es,ep,Heap.get?_push_of_some _ (hk1 _ _ ho),r⟩
 have inI:∀ c o,s2.heap.get? c=some o->c≠h1.objs.size:=λ c o e=>Nat.ne_of_lt (Heap.lt_size (hk1 c o e))
 have kp:∀ c o,s2.heap.get? c=some o->(h1.push {cls:=.type "list_iterator",data:=.fields #[.ref b,.int 0 0]}).get? c=some o:=λ c o e=>Heap.get?_push_of_some _ (hk1 _ _ e)
 obtain⟨ob,hob⟩:=b0g (I2.hok b _ hb)
 obtain⟨oA,hoA⟩:=b0g (I2.hok a _ ha)
 refine wpAny_pure ⟨plainId_quiet a8z _,e1e (A:=X.A) (s:={s2 with heap:=h1.push {cls:=.type "list_iterator",data:=.fields #[.ref b,.int 0 0]},toks:=tk1}) (I:=h1.objs.size) (D:=a) (v0:=vs) (I2.ok.hd hc) (inI b ob hob) (inI a oA hoA) hab k2 (by rw[kl,vl];exact hz) its.length 0 rfl (Nat.zero_le _) ⟨_,Heap.get?_push_size _ rfl,rfl,rfl⟩ (pl2.isList.push _) (λ j u eu=>?_) ⟨vs,dd1,rfl,Nat.le_refl _⟩ λ h3 tk3 k3' dd3=>?_⟩
 ·obtain⟨t,ku,q',e1,e2,e3,⟨oT,hoT,r'⟩,e5⟩:=k3 j u eu
  refine⟨t,ku,q',e1,inI t oT hoT,λ z=>?_,e3,⟨oT,kp _ _ hoT,r'⟩,e5⟩
  obtain⟨o',es,ep,ho',hex,hdt,_⟩:=dd
  rw[z,ho'] at hoT
  cases hoT
  rw[hdt] at r'
  obtain⟨_,_,z2⟩:=r'
  cases z2
 ·have he':∃ q,h3.get? a=some q:=let ⟨q,_,_,hq,_⟩:=dd3;⟨q,hq⟩
  refine⟨.non,_,I2.write (x:=a) (e:=a) (t':=tk3) (o:=.dK (a6d kvs ps)) (by rw[ha];exact True.intro) (.inl rfl) (λ c q hc' hq=>k3' c q (inI c q hq) hc' (kp c q hq)) he' (d4h (Nat.le_trans (b0v ps kvs) (Nat.le_trans (Nat.le_of_lt hz) (by decide))) hd (d6p k1 rel) dd3),rfl,q2⟩
theorem c9f {K:PySem.W.Frag} (hu:X.A.units+16 < cLine) (hK:X.K=K):MtR X "list.index" (λ x xs H Q=>∃ (l:Addr) (ys:List V) (ns:List Nk) (v:V) (k:Nk),x=.ref l/\xs=[v]/\SqL K H l ys/\Paired (NdV H) ys ns/\NdV H v k/\ns.length<=1000/\k∈ns/\Q (.int ((ns.idxOf k:Nat):Int)) H):=by
 subst hK
 intro pins s σ H x xs v us Q I rx rv h
 obtain⟨l,ys,ns,y0,k,rfl,rfl,hl,pk,hv,few,hk,q⟩:=h
 cases rx
 obtain⟨u,rfl,ru⟩:=c6a rv
 obtain⟨its,r,pl,_⟩:=I.list hl
 obtain⟨⟨cls,dd,data,sl⟩,ho,hc,n,hd⟩:=pl.isList
 simp only at hc hd
 subst hc hd
 have hlen:its.length=ns.length:=by rw[<-r.length,a6g pk]
 have hj:ns.idxOf k < ns.length:=List.idxOf_lt_length_iff.mpr hk
 have hku:=e9c I hv ru
 have at_:∀ (i:Nat) (hi:i < its.length),e8b.is s.heap (ns[i]'(by omega)) its[i]:=λ i hi=>by
  obtain⟨y,ey,ry⟩:=b5d r (List.getElem?_eq_getElem hi)
  obtain⟨m,em,hm⟩:=a2a pk ey
  rw[List.getElem?_eq_getElem (by omega)] at em
  cases em
  exact e9c I hm ry
 refine call_meets PySem.F.slot_list_index ⟨_,ho,rfl⟩ PySem.F.entry_list_index (PySem.F.args_list_index_2 _ _)
  (list_indexAt l its.toArray n dd sl u (λ y=>decide (e5p _ e8b s.heap (0,0) y=k)) (ns.idxOf k) (by simpa [hlen] using hj) (by omega) ?_ ?_) ⟨ho,λ y hy=>?_,.int _,H,I.tok _,⟨_,rfl⟩,q⟩
 ·have e:=at_ (ns.idxOf k) (by omega)
  rw[List.getElem_toArray,c6w e]
  exact decide_eq_true (List.getElem_idxOf hj)
 ·intro m hm hlt
  have hm':m < its.length:=by simpa using hm
  have e:=at_ m hm'
  rw[List.getElem_toArray,c6w e]
  refine decide_eq_false λ z=>?_
  exact absurd hlt (Nat.not_lt.mpr (by
   have:=List.not_of_lt_findIdx (p:=(· == k)) (xs:=ns) (i:=m) hlt
   simp[z] at this))
 ·obtain⟨i,hi,e⟩:=List.getElem_of_mem (by simpa using hy:y∈its)
  have e':=at_ i hi
  rw[e] at e'
  rw[c6w e']
  exact e8b.eq (show X.A.in1.units+1 < cLine by show X.A.units+1+1 < cLine;omega) e' hku
theorem d9k {K:PySem.W.Frag} (hK:X.K=K):b7n X (.builtin "len") (λ xs H Q=>∃ x n,xs=[x]/\f3w K x H n/\Q (.int n) H):=hK ▸ a1h
def f0z (td:TE):TI:=λ σ H R=>td σ H λ x H1=>∃ d kvs,x=.ref d/\Rd H1 d (.dK kvs)/\∀ ob H2,H2 d=some (.frz ob (.dK kvs))->KF H1 H2->(∀ b,b≠d->H2 b=H1 b)->R (ItK d ob kvs) H2
theorem e2l {tg o:Expr} {td:TE} (ho:PE X o td):PI X tg o (f0z td):=by
 constructor;intro pins s σ H R I h
 refine thn (ho pins s σ H _ I h) λ v s1 ⟨x,H1,I1,r1,d,kvs,ex,hd,q⟩=>?_
 subst ex
 cases r1
 obtain⟨ob,H2,I2,h2,k2,n2⟩:∃ ob H2,Inv X pins σ H2 s1/\H2 d=some (.frz ob (.dK kvs))/\KF H1 H2/\∀ b,b≠d->H2 b=H1 b:=by
  rcases hd with e | ⟨ob,e⟩
  ·obtain⟨ob,eo⟩:=b0g (I1.hok d _ e)
   refine⟨ob,_,c5a I1 e eo,a0b,λ b o eb=>?_,λ b eb=>?_⟩
   ·by_cases n:b=d
    ·subst n
     rw[e] at eb
     cases eb
     exact .inr ⟨kvs,ob,rfl,a0b⟩
    ·exact .inl (by rw[a0h n];exact eb)
   ·exact a0h eb
  ·exact⟨ob,H1,I1,e,KF.refl _,λ _ _=>rfl⟩
 obtain⟨ho2,z,hs,vs,rel,dd⟩:=(show a3f X.prog X.w H2 s1.heap d (.frz ob (.dK kvs)) from I2.hok d _ h2)
 obtain⟨ep,hat⟩:=dd.dictAt
 have hat':∀ h:Heap,h.get? d=some ob->h.DictAt (a1e X.prog X.w) d vs ep:=λ h e=>hat.at' λ o e2=>by
  rw[ho2] at e2
  cases e2
  exact e
 refine wpAny_pyIter_dict hs hat ?_
 have I3:=I2.kept (t':=s1.toks) (h':=s1.heap.push {cls:=.type "dict_keyiterator",data:=.fields #[.ref d,.int 0 0,.int vs.length 0,.int ep 0]}) λ b o e=>Heap.get?_push_of_some _ e
 exact⟨_,[s1.heap.objs.size],_,_,H2,rfl,I3,d0j d _ ep ob kvs vs rel hat',⟨_,Heap.get?_push_size _ rfl,rfl,rfl⟩,λ b hb=>by
  rw[List.mem_singleton.mp hb]
  exact I2.fpOk (Nat.le_refl _) (I2.hok.fresh (Nat.le_refl _)),q ob H2 h2 k2 n2⟩
end
end My
namespace My
open PySem PySem.Spec PySem.W PyProof.Rows L2 PyProof PySem.SeqAt
theorem e7q {prog:Program} {w:World} {A:Around} {E:Value->Shared->Prop} {s:Shared} {vs:List Value} {a F:Addr} {m:Str->Option Value} {n:Nat} {P:PySem.Fin->Shared->Prop} (κ:SortKind) (rk:Value->Int) (h64:vs.length < 64)
  (ho:s.heap.get? a=some (seqObj "list" vs.toArray n)) (hns:s.heap.Ns F m)
  (hkind:2<=vs.length->∀ h',KpT s.heap h'->∀ (R:SortKind->Shared->Prop) (E':Value->Shared->Prop),R κ {s with heap:=h'}->wpAny (model prog w) A (keyKind' vs.toArray) R E' {s with heap:=h'})
  (hlt:2<=vs.length->∀ h',KpT s.heap h'->∀ x∈vs,∀ y∈vs,∀ (R:Bool->Shared->Prop) (E':Value->Shared->Prop),R (decide (rk x < rk y)) {s with heap:=h'}->wpAny (model prog w) A (keyLt' κ x y) R E' {s with heap:=h'})
  (h:∀ out h' c,(∀ b o,b≠F->b≠a->s.heap.get? b=some o->h'.get? b=some o)->h'.Ns F m->h'.get? a=some (seqObj "list" (List.toArray out) c)->out.Perm vs->out.Pairwise (λ x y=>rk x<=rk y)->P (.done (.ret .none)) {s with heap:=h'}) :
  wpAny (model prog w) A (Builtin.«list.sort» ⟨[.ref a],[]⟩) P E s:=by
 have haF:a≠F:=λ e=>by
  obtain⟨o,es,ep,e1,e2,_⟩:=hns
  rw[<-e,ho] at e1
  cases e1
  cases e2
 by_cases h2:2<=vs.length
 ·have Fr0:Fr {} F s.heap m:=⟨hns,(λ b o e=>by rw[b7x] at e;cases e),Nat.zero_le _⟩
  have Nw:News {} F s.heap ((c9a F s.heap).filter λ p=>decide (p.1≠a)):=λ p hp=>by
   obtain⟨x,y⟩:=e0q (List.mem_filter.mp hp).1
   exact⟨y,x,b7x _⟩
  have hna:∀ p∈(c9a F s.heap).filter (λ p=>decide (p.1≠a)),p.1≠a:=λ p hp=>of_decide_eq_true (List.mem_filter.mp hp).2
  have inN:∀ {b:Addr} {o:Obj},b≠F->b≠a->s.heap.get? b=some o->(b,o)∈(c9a F s.heap).filter λ p=>decide (p.1≠a):=λ {b o} x y e=>List.mem_filter.mpr ⟨d5h x e,decide_eq_true y⟩
  refine kat_list_sort Fr0 Nw ho haF (b7x _) hna h2 h64 λ e1 h' F' N'=>?_
  have kp:KpT s.heap h':=λ b o xs c e hc hd=>(N' (b,o) (.tail _ (inN (λ z=>by
   obtain⟨o',es,ep,e1,e2,_⟩:=hns
   rw[<-z,e] at e1
   cases e1
   rw[hd] at e2
   cases e2) (λ z=>by
   rw[z,ho] at e
   cases e
   exact absurd (show Value.type "list"=Value.type "tuple" from hc) (by decide)) e))).1
  refine hkind h2 h' kp _ _ ?_
  have mem:∀ i,i < vs.length->vs.getD i .none∈vs:=λ i hi=>by
   have:vs.getD i .none=vs[i]:=by simp[List.getD,hi]
   rw[this]
   exact List.getElem_mem hi
  refine InP.wp (n:=vs.length) (f:=λ i=>rk (vs.getD i .none)) (λ i j R hi hj hR=>?_) _ (e0z (by omega)) ?_
  ·show wpAny _ _ (keyLt' κ (vs.getD i .none) (vs.getD j .none)) _ _ _
   exact hlt h2 h' kp _ (mem i hi) _ (mem j hj) _ _ hR
  obtain⟨pp,pr⟩:=e4f (λ i=>rk (vs.getD i .none)) (n:=vs.length) (by omega)
  generalize a2l (λ i=>rk (vs.getD i .none)) (kas_sort vs.length)=p at *
  refine KasFin.intro F' N' (.head hna) λ h3 c F3 N3=>?_
  refine h _ h3 c (λ b o x y e=>(N3 (b,o) (.tail _ (inN x y e))).1) F3.ns (N3 _ (.head _)).1 ?_ ?_
  ·have e:vs=(List.range vs.length).map λ i=>vs.getD i .none:=by
    apply List.ext_getElem
    ·simp
    ·intro i h1 h2
     simp[List.getD,h1]
   have:=pp.map λ i=>vs.getD i Value.none
   rw[<-e] at this
   exact this
  ·have hsz:p.size=vs.length:=by rw[<-Array.length_toList,pp.length_eq,List.length_range]
   rw[List.pairwise_iff_getElem]
   intro i j hi hj hij
   have hi':i < p.size:=by simpa using hi
   have hj':j < p.size:=by simpa using hj
   have:=pr i j (Nat.le_of_lt hij) (by omega)
   unfold KA at this
   have e1:p.getD i 0=p[i]:=by simp[Array.getD,hi']
   have e2:p.getD j 0=p[j]:=by simp[Array.getD,hj']
   rw[e1,e2] at this
   simpa using this
 ·rw[list_sort_plain]
  have ha:a < s.heap.objs.size:=Heap.lt_size ho
  refine wpAny_bind (listItems_at ho rfl (wpAny_bind (listUpdate_at ho rfl ?_ (by rw[List.size_toArray,sizeLine_eq];omega) (Nat.zero_le _))))
  obtain⟨e1,ho1⟩:∃ e1,(s.heap.update a (Obj.mapSeq λ _=>(#[]:Array Value))).get? a=some (seqObj "list" #[] e1):=⟨_,get?_update_seq ho (λ _=>#[])⟩
  refine wpAny_bind (seqEpoch_at ho1 rfl (wpAny_bind (wpAny_newTuple (wpAny_bind (wpAny_newList (wpAny_holding ?_) (Nat.zero_le _))) (by show vs.length<=_;rw[sizeLine_eq];omega))))
  have s1:=Heap.SameBut.update s.heap a (Obj.mapSeq λ _=>(#[]:Array Value))
  have k1:∀ b o,b≠a->s.heap.get? b=some o->(((s.heap.update a (Obj.mapSeq λ _=>(#[]:Array Value))).push (seqObj "tuple" vs.toArray 0)).push (seqObj "list" #[] 0)).get? b=some o:=λ b o y e=>Heap.get?_push_of_some _ (Heap.get?_push_of_some _ ((s1.2 b y).trans e))
  have ho6:(((s.heap.update a (Obj.mapSeq λ _=>(#[]:Array Value))).push (seqObj "tuple" vs.toArray 0)).push (seqObj "list" #[] 0)).get? a=some (seqObj "list" #[] e1):=Heap.get?_push_of_some _ (Heap.get?_push_of_some _ ho1)
  show wpAny (model prog w) A _ P E {s with heap:=((s.heap.update a (Obj.mapSeq λ _=>(#[]:Array Value))).push (seqObj "tuple" vs.toArray 0)).push (seqObj "list" #[] 0)}
  generalize ((s.heap.update a (Obj.mapSeq λ _=>(#[]:Array Value))).push (seqObj "tuple" vs.toArray 0)).push (seqObj "list" #[] 0)=h6 at k1 ho6
  dsimp only
  have hn2:vs.toArray.size < 2:=by rw[List.size_toArray];omega
  rw[if_pos hn2,if_pos hn2]
  refine wpAny_bind (wpAny_pure ?_)
  rw[StateT.run_pure]
  refine wpAny_bind (wpAny_pure (show wpAny _ _ (seqEpoch a>>=_) _ _ {s with heap:=h6} from wpAny_bind (seqEpoch_at ho6 rfl ?_)))
  have eo:(arrOf (SortSt.mk' general' (vs.toArray.zip vs.toArray) #[] 7 none)).map (·.2)=vs.toArray:=by
   show (vs.toArray.zip vs.toArray).map (·.2)=_
   apply Array.ext
   ·simp
   ·intro i h1 h2
    simp
  dsimp only
  rw[eo]
  refine wpAny_bind (listUpdate_at ho6 rfl ?_ (Nat.zero_le _) (by rw[List.size_toArray,sizeLine_eq];omega))
  simp only [bne_self_eq_false,Bool.false_eq_true,if_false]
  have s2:=Heap.SameBut.update h6 a (Obj.mapSeq λ _=>vs.toArray)
  obtain⟨c2,hc2⟩:∃ c2,(h6.update a (Obj.mapSeq λ _=>vs.toArray)).get? a=some (seqObj "list" vs.toArray c2):=⟨_,get?_update_seq ho6 λ _=>vs.toArray⟩
  refine wpAny_pure (h vs _ c2 (λ b o _ y e=>(s2.2 b y).trans (k1 b o y e)) ?_ hc2 (.refl _) ?_)
  ·obtain⟨o,es,ep,e1,e2,e3⟩:=hns
   exact⟨o,es,ep,(s2.2 F haF.symm).trans (k1 F o haF.symm e1),e2,e3⟩
  ·have hl1:vs.length<=1:=by omega
   match vs,hl1 with
   | [],_=>exact .nil
   | [x],_=>exact List.pairwise_cons.mpr ⟨(λ _ h=>by cases h),List.Pairwise.nil⟩
section
variable {prog:Program} {w:World} {A:Around} {s:Shared}
theorem IsK.keep2 {h h':Heap} {k:List Key} {v:Value} (x:IsK h k v) (kp:KpT h h'):IsK h' k v:=let ⟨a,o,n,us,e,ho,hc,hd,hv⟩:=x;⟨a,o,n,us,e,kp a o _ n ho hc hd,hc,hd,hv⟩
theorem e2m {E:Value->Shared->Prop} {vs:List Value} {ks:List (List Key)} {a F:Addr} {m:Str->Option Value} {n:Nat} {P:PySem.Fin->Shared->Prop} (cd:Key->Int) (h64:vs.length < 64)
  (hk:Paired (λ v k=>IsK s.heap k v) vs ks) (sk:f1m cd ks) (ho:s.heap.get? a=some (seqObj "list" vs.toArray n)) (hns:s.heap.Ns F m)
  (h:∀ out h' c,(∀ b o,b≠F->b≠a->s.heap.get? b=some o->h'.get? b=some o)->h'.Ns F m->h'.get? a=some (seqObj "list" (List.toArray out) c)->out.Perm vs->out.Pairwise (λ x y=>b4w ((a9w s.heap y).map cd) ((a9w s.heap x).map cd)=false)->P (.done (.ret .none)) {s with heap:=h'}) :
  wpAny (model prog w) A (Builtin.«list.sort» ⟨[.ref a],[]⟩) P E s:=by
 have at_:∀ x∈vs,∃ k∈ks,IsK s.heap k x:=λ x hx=>by
  obtain⟨i,hi⟩:=List.mem_iff_getElem?.mp hx
  obtain⟨k,ek,ik⟩:=a2a hk hi
  exact⟨k,List.mem_of_getElem? ek,ik⟩
 have rkl:∀ x∈vs,∀ y,decide (((c5x b4w (ks.map (·.map cd)) ((a9w s.heap x).map cd):Nat):Int) < (c5x b4w (ks.map (·.map cd)) ((a9w s.heap y).map cd):Nat))=b4w ((a9w s.heap x).map cd) ((a9w s.heap y).map cd):=λ x hx y=>by
  obtain⟨k,hm,ik⟩:=at_ x hx
  exact e8h d3i e0l c7m (by rw[b5o ik];exact List.mem_map_of_mem hm)
 obtain⟨T,hT⟩:∃ T:Value,(T == T)=true/\∀ k r,k::r∈ks->tyK k=T:=by
  match ks,sk with
  | [],_=>exact⟨.type "int",by decide,λ k r hm=>by cases hm⟩
  | []::_,sk=>exact absurd rfl (sk.2 _ (.head _))
  | (k0::r0)::kr,sk=>exact⟨tyK k0,e7g _,λ k r hm=>e1b (sk.1 _ hm _ (.head _)).1⟩
 refine e7q (tuples' (T != Value.type "tuple")) (λ u=>(c5x b4w (ks.map (·.map cd)) ((a9w s.heap u).map cd):Nat)) h64 ho hns (λ h2 h' k R E' q=>?_) (λ h2 h' k x hx y hy R E' q=>?_) (λ out h' c k1 k2 k3 pm pw=>h out h' c k1 k2 k3 pm ?_)
 ·obtain⟨fs,t,l,fa⟩:=d8d (cd:=cd) (Paired.imp' (λ v k' x=>IsK.keep2 x k) hk) sk.2
  refine kat_kind (s:={s with heap:=h'}) t (by omega) (λ v hv=>?_) hT.1 q
  obtain⟨k0,r,hm,rr⟩:=fa v hv
  rw[<-hT.2 k0 r hm]
  exact e3w rr
 ·have q':R (decide (((c5x b4w (ks.map (·.map cd)) ((a9w s.heap x).map cd):Nat):Int) < (c5x b4w (ks.map (·.map cd)) ((a9w s.heap y).map cd):Nat))) {s with heap:=h'}:=q
  rw[rkl x hx y] at q'
  obtain⟨kx,mx,ix⟩:=at_ x hx
  obtain⟨ky,my,iy⟩:=at_ y hy
  rw[b5o ix,b5o iy] at q'
  obtain⟨ax,ox,nx,ux,rfl,hox,_,hdx,hvx⟩:=ix.keep2 k
  obtain⟨ay,oy,ny,uy,rfl,hoy,_,hdy,hvy⟩:=iy.keep2 k
  exact kat_lt (s:={s with heap:=h'}) hox hdx hoy hdy (f3y (s:={s with heap:=h'}) hvx hvy (sk.1 _ mx _ my) (by simp) q')
 ·refine List.Pairwise.imp_of_mem (λ {x y} hx hy hxy=>?_) pw
  rw[<-rkl y (pm.mem_iff.mp hy) x]
  exact decide_eq_false (Int.not_lt.mpr hxy)
end
section
variable {X:Cx} {pins:List (Addr×Obj)} {σ:L2.St} {H:Hp} {s:Shared}
theorem d9o {A:Around} {E:Value->Shared->Prop} (I:Inv X pins σ H s) {h1:Heap} {tk:Nat} {xs:List V} {its:List Value} {ks:List (List Key)} {cd:Key->Int} {P:PySem.Fin->Shared->Prop} (k0:∀ b o,s.heap.get? b=some o->h1.get? b=some o) (hs:s.heap.objs.size<=h1.objs.size) (rv:a3o xs its) (pk:Paired (TkV H) xs ks) (hz:its.length<=sizeLine) (h64:its.length < 64) (sk:f1m cd ks)
  (q:∀ (ys:List V) (js:List (List Key)) (h':Heap),Paired (TkV H) ys js->js.Perm ks->js.Pairwise (λ a b=>b4w (b.map cd) (a.map cd)=false)->Inv X pins σ (upd H h1.objs.size (.lst ys)) {s with heap:=h',toks:=tk}->H h1.objs.size=none->P (.done (.ret .none)) {s with heap:=h',toks:=tk}) :
  wpAny (model X.prog X.w) A (Builtin.«list.sort» ⟨[.ref h1.objs.size],[]⟩) P E {s with heap:=h1.push {cls:=.type "list",data:=.seq its.toArray},toks:=tk}:=by
 have k1:∀ b o,s.heap.get? b=some o->(h1.push {cls:=.type "list",data:=.seq its.toArray}).get? b=some o:=λ b o e=>Heap.get?_push_of_some _ (k0 b o e)
 have hoL:(h1.push {cls:=.type "list",data:=.seq its.toArray}).get? h1.objs.size=some (seqObj "list" its.toArray 0):=Heap.get?_push_size _ rfl
 have I1:Inv X pins σ H {s with heap:=h1.push {cls:=.type "list",data:=.seq its.toArray},toks:=tk}:=I.kept (t':=tk) k1
 obtain⟨m,hns,_⟩:=id I.loc
 have pu:Paired (λ v k=>IsK (h1.push {cls:=.type "list",data:=.seq its.toArray}) k v) its ks:=by
  have:∀ {xs:List V} {its:List Value} {ks:List (List Key)},a3o xs its->Paired (TkV H) xs ks->Paired (λ v k=>IsK (h1.push {cls:=.type "list",data:=.seq its.toArray}) k v) its ks->True:=λ _ _ _=>trivial
  have go:∀ {ys:List V} {us:List Value} {ls:List (List Key)},a3o ys us->Paired (TkV H) ys ls->Paired (λ v k=>IsK (h1.push {cls:=.type "list",data:=.seq its.toArray}) k v) us ls:=by
   intro ys us ls v p
   induction v generalizing ls with
   | nil=>cases p;exact .nil
   | cons r t ih =>
    cases p with
    | cons a b=>exact .cons (f0w I1 a r) (ih b)
  exact go rv pk
 refine e2m (s:={s with heap:=h1.push {cls:=.type "list",data:=.seq its.toArray},toks:=tk}) cd h64 pu sk hoL (hns.keeps k1) λ out h' c kp ns' hD pm pw=>?_
 have at_:∀ u∈its,∃ p k,u=Value.ref p/\H p=some (.tup (k.map kV))/\a9w (h1.push {cls:=.type "list",data:=.seq its.toArray}) u=k:=λ u hu=>by
  obtain⟨i,hi⟩:=List.mem_iff_getElem?.mp hu
  obtain⟨x,ex,rx⟩:=b5d rv hi
  obtain⟨k,ek,p,rfl,hp⟩:=a2a pk ex
  obtain rfl:u=Value.ref p:=rx
  exact⟨p,k,rfl,hp,b5o (f0w I1 ⟨p,rfl,hp⟩ rfl)⟩
 generalize a9w (h1.push {cls:=.type "list",data:=.seq its.toArray})=kf at pw at_
 have em:its.map kf=ks:=by
  have go:∀ {ys:List V} {us:List Value} {ls:List (List Key)},a3o ys us->Paired (TkV H) ys ls->(∀ u∈us,∃ p k,u=Value.ref p/\H p=some (.tup (k.map kV))/\kf u=k)->us.map kf=ls:=by
   intro ys us ls v p
   induction v generalizing ls with
   | nil=>intro _;cases p;rfl
   | cons r t ih =>
    intro ha
    cases p with
    | cons a b =>
     rw[List.map_cons,ih b λ u hu=>ha u (.tail _ hu)]
     obtain⟨pa,k,e1,e2,e3⟩:=ha _ (.head _)
     obtain⟨p2,rfl,e4⟩:=a
     cases (show _=Value.ref p2 from r)
     cases e1
     rw[e2] at e4
     injection e4 with e5
     injection e5 with e6
     rw[e3,d8i e6]
  exact go rv pk at_
 obtain⟨ys,vy,py⟩:=d0m (R:=TkV H) (out.map kf) out (by simp) λ p hp=>by
  obtain⟨i,hi⟩:=List.mem_iff_getElem?.mp hp
  rw[List.getElem?_zip_eq_some] at hi
  obtain⟨h3,h4⟩:=hi
  rw[List.getElem?_map,h4] at h3
  obtain⟨pa,k,e1,e2,e3⟩:=at_ p.2 (pm.mem_iff.mp (List.mem_of_getElem? h4))
  refine⟨.ref pa,e1,pa,rfl,?_⟩
  have e5:kf p.2=p.1:=Option.some.inj h3
  rw[<-e5,e3]
  exact e2
 have lo:out.length=its.length:=pm.length_eq
 have I2:=d5o (t':=tk) (D:=h1.objs.size) (u:=.lst ys) (h':=h') I (λ b o nb eb=>kp b o nb (Nat.ne_of_lt (Nat.lt_of_lt_of_le (Heap.lt_size eb) hs)) (k1 b o eb)) (λ m' hm=>e9p hns hm ▸ ns') hs ⟨by rw[vy.length,lo];exact hz,out,c,vy,hD⟩
 refine q ys (out.map kf) h' py ?_ (List.pairwise_map.mpr pw) I2 (I.hok.fresh hs)
 rw[<-em]
 exact pm.map kf
theorem c8o:b7n X (.builtin "sorted") (λ xs H Q=>∃ (a:Addr) (vs:List V) (ks:List (List Key)) (cd:Key->Int),xs=[V.ref a]/\SqL X.K H a vs/\Paired (TkV H) vs ks/\f1m cd ks/\vs.length < 64 /\
  ∀ p ys js,H p=none->Paired (TkV H) ys js->js.Perm ks->js.Pairwise (λ a b=>b4w (b.map cd) (a.map cd)=false)->Q (.ref p) (upd H p (.lst ys))):=by
 intro pins s σ H xs us Q I r h
 obtain⟨a,vs,ks,cd,rfl,e,pk,sk,h64,q⟩:=h
 obtain⟨u,rfl,ru⟩:=c6a r
 cases ru
 obtain⟨its,rv,plst,hz0⟩:=I.list e
 have hlen:its.length=vs.length:=rv.length.symm
 have hz:its.length<=sizeLine:=by rw[hlen];exact hz0
 refine Calls.call_function_entry kind_sorted plain_sorted entry_sorted (args_sorted1 _) ?_
 unfold Builtin.«sorted»
 refine wpAny_bind (m:=checkCount "sorted" 1 1 _) (wpAny_pure (wpAny_bind (collect_list plst.isList (wpAny_bind (wpAny_newList ?_ (by simpa using hz))) (by simpa using hz))))
 have k0:∀ b o,s.heap.get? b=some o->((s.heap.push (seqObj "list" #[] 0)).update s.heap.objs.size (Obj.mapSeq (·++its.toArray))).get? b=some o:=λ b o e=>by
  rw[Heap.get?_update_ne _ _ _ _ (Nat.ne_of_lt (Heap.lt_size e))]
  exact Heap.get?_push_of_some _ e
 have hsz:((s.heap.push (seqObj "list" #[] 0)).update s.heap.objs.size (Obj.mapSeq (·++its.toArray))).objs.size=s.heap.objs.size+1:=by rw[Heap.size_update,size_push']
 generalize (s.heap.push (seqObj "list" #[] 0)).update s.heap.objs.size (Obj.mapSeq (·++its.toArray))=h1 at k0 hsz
 have hoL:(h1.push {cls:=.type "list",data:=.seq its.toArray}).get? h1.objs.size=some (seqObj "list" its.toArray 0):=Heap.get?_push_size _ rfl
 refine wpAny_bind (wpAny_holding (wpAny_call_entry slot_list_sort ⟨_,hoL,rfl⟩ entry_list_sort (d9o I k0 (by rw[hsz];exact Nat.le_succ _) rv pk hz (by rw[hlen];exact h64) sk λ ys js h' py pj pw I2 hn=>?_) (args_list_sort _)))
 exact⟨_,rfl,wpAny_pure ⟨_,rfl,.ref _,_,I2,rfl,q _ ys js hn py pj pw⟩⟩
end
end My
namespace Lw
open PySem PySem.Spec PyProof.Rows L2 My
set_option maxHeartbeats 4000000
inductive Lv where
 | loose | kept | make | watch | hold
def wd:Lv->Str
 | .loose=>"loose"
 | .kept=>"kept"
 | .make=>"make"
 | .watch=>"watch"
 | .hold=>"hold"
def ix:Lv->Nat
 | .loose=>0
 | .kept=>1
 | .make=>2
 | .watch=>3
 | .hold=>4
def a5m:Lv->Int->Int
 | .kept,n=>n+1
 | .make,_=>2
 | _,_=>1
def f1z:Option Int->V
 | none=>.non
 | some k=>.int k
def b1u:Lv->Int->Option Int
 | .loose,_=>none
 | .kept,p=>some p
 | _,_=>some 0
def c4a:Lv->Int->Int
 | .kept,n=>n
 | _,_=>0
def c4q (l:Lv):Sp:=λ vs H Q _=>∃ x,vs=[x]/\Q (.str (wd l)) H
def b3q (l:Lv):Sp:=λ vs H Q _=>∃ (x:V) (n:Int),vs=[x,.int n]/\Q (.int (a5m l n)) H
def c2c (l:Lv):Sp:=λ vs H Q _=>∃ (x:V) (n:Int),vs=[x,.int n]/\Q (f1z (b1u l n)) H
def b6j (l:Lv):Sp:=λ vs H Q _=>∃ (x:V) (n:Int),vs=[x,.int n]/\Q (.int (c4a l n)) H
theorem Same.newO {C:Addr} {H:Hp} {x dx:Addr} (hx:H x=none) (hdx:H dx=none) (n:dx≠x):Same H (upd (upd H dx (.own x)) x (.ins C dx [])):=λ b o e=>by
 have b1:b≠x:=λ z=>by rw[z,hx] at e;cases e
 have b2:b≠dx:=λ z=>by rw[z,hdx] at e;cases e
 rw[a0h b1,a0h b2]
 exact e
def c8y (cls:Lv->Addr) (N:Addr):Sp:=λ vs H Q E=>∃ x:Str,vs=[.str x]/\x.length<=600/\(∀ c∈x.cps.toList,c < 16 ^ 8)/\(∀ l,x=wd l->∀ a dx H',Same H H'->H' a=some (.ins (cls l) dx [])->Q (.ref a) H')/\((∀ l,x≠wd l)->∀ H',Same H H'->E (.ref N) none H')
def top (i:Nat):Stmt:=PySem.Challenge.pw_skewhouse_k56_orders_at_a_word.main.body.getD i (.Pass ⟨0,0,0,0⟩)
def a3s (s:Stmt):List Stmt:=match s with
 | .ClassDef _ _ _ b _ _ _ _ _ _ _=>b
 | _=>[]
abbrev a4x:Stmt:=(a3s (top 7)).getD 0 (.Pass ⟨0,0,0,0⟩)
abbrev a4h:Stmt:=(a3s (top 7)).getD 6 (.Pass ⟨0,0,0,0⟩)
abbrev a2d:Stmt:=(a3s (top 7)).getD 7 (.Pass ⟨0,0,0,0⟩)
abbrev a1u:Stmt:=(a3s (top 7)).getD 8 (.Pass ⟨0,0,0,0⟩)
abbrev a6i:Stmt:=(a3s (top 8)).getD 0 (.Pass ⟨0,0,0,0⟩)
abbrev a4y:Stmt:=(a3s (top 8)).getD 2 (.Pass ⟨0,0,0,0⟩)
abbrev a3a:Stmt:=(a3s (top 8)).getD 3 (.Pass ⟨0,0,0,0⟩)
abbrev a2e:Stmt:=(a3s (top 8)).getD 4 (.Pass ⟨0,0,0,0⟩)
abbrev a6f:Stmt:=(a3s (top 9)).getD 0 (.Pass ⟨0,0,0,0⟩)
abbrev a5e:Stmt:=(a3s (top 9)).getD 3 (.Pass ⟨0,0,0,0⟩)
abbrev a2v:Stmt:=(a3s (top 9)).getD 4 (.Pass ⟨0,0,0,0⟩)
abbrev a2g:Stmt:=(a3s (top 9)).getD 5 (.Pass ⟨0,0,0,0⟩)
abbrev a5f:Stmt:=(a3s (top 10)).getD 0 (.Pass ⟨0,0,0,0⟩)
abbrev a4i:Stmt:=(a3s (top 10)).getD 2 (.Pass ⟨0,0,0,0⟩)
abbrev a6m:Stmt:=(a3s (top 11)).getD 0 (.Pass ⟨0,0,0,0⟩)
abbrev a5g:Stmt:=(a3s (top 11)).getD 2 (.Pass ⟨0,0,0,0⟩)
abbrev a2w:Stmt:=(a3s (top 11)).getD 3 (.Pass ⟨0,0,0,0⟩)
abbrev a2f:Stmt:=(a3s (top 11)).getD 4 (.Pass ⟨0,0,0,0⟩)
abbrev a7y:Stmt:=top 12
abbrev a6c:Stmt:=top 14
abbrev a8d:Stmt:=top 15
abbrev a8b:Stmt:=top 16
abbrev a6n:Stmt:=top 17
abbrev b8a:Stmt:=top 18
abbrev a2c:Stmt:=top 20
abbrev a8c:Stmt:=top 21
abbrev b4y:Stmt:=top 22
abbrev a5d:Stmt:=top 23
abbrev a3l:Stmt:=top 24
abbrev a9m:Stmt:=top 25
abbrev b0w:Stmt:=top 27
abbrev b4m:Stmt:=top 28
abbrev b0y:Stmt:=top 29
abbrev a9y:Stmt:=top 30
abbrev b0h:Stmt:=top 31
abbrev a3m:Stmt:=top 32
abbrev a3h:Stmt:=top 33
abbrev b5a:Stmt:=top 34
abbrev b4z:Stmt:=top 35
abbrev b4x:Stmt:=top 36
abbrev b4q:Stmt:=top 37
abbrev a8e:Stmt:=top 38
abbrev b4r:Stmt:=top 39
abbrev a7u:Stmt:=top 40
abbrev a3i:Stmt:=top 41
abbrev b4u:Stmt:=top 42
abbrev c0e:Stmt:=top 43
abbrev a2x:Stmt:=top 44
abbrev a4a:Stmt:=top 45
abbrev a6j:Stmt:=top 46
abbrev c3n:Stmt:=top 47
set_option genInjectivity false in
set_option genSizeOf false in
open PySem.W in
structure Tx (K:Frag) (mg:Str->Option Value) where
 b0p:Addr
 b0o:FuncData
 c2x:Fun K "word" "Loose.word" a4x b0p b0o
 c2k:a1k K b0o ["self"] []
 a8h:Addr
 a8r:FuncData
 b8k:Fun K "spots" "Loose.spots" a4h a8h a8r
 b8p:a1k K a8r ["self","looks"] []
 a5q:Addr
 a5z:FuncData
 b1y:Fun K "look_spot" "Loose.look_spot" a2d a5q a5z
 b1t:a1k K a5z ["self","place"] []
 a4r:Addr
 a4t:FuncData
 b1k:Fun K "first_spot" "Loose.first_spot" a1u a4r a4t
 b1m:a1k K a4t ["self","looks"] []
 b3i:Addr
 b2z:FuncData
 c4h:Fun K "word" "Kept.word" a6i b3i b2z
 c4n:a1k K b2z ["self"] []
 b0x:Addr
 b0n:FuncData
 c1x:Fun K "spots" "Kept.spots" a4y b0x b0n
 c0o:a1k K b0n ["self","looks"] []
 a6r:Addr
 a6p:FuncData
 b4l:Fun K "look_spot" "Kept.look_spot" a3a a6r a6p
 b4g:a1k K a6p ["self","place"] []
 a5p:Addr
 a5w:FuncData
 b1r:Fun K "first_spot" "Kept.first_spot" a2e a5p a5w
 b2s:a1k K a5w ["self","looks"] []
 b3e:Addr
 b3m:FuncData
 c4b:Fun K "word" "Make.word" a6f b3e b3m
 c3s:a1k K b3m ["self"] []
 b0c:Addr
 b0d:FuncData
 c0t:Fun K "spots" "Make.spots" a5e b0c b0d
 c0k:a1k K b0d ["self","looks"] []
 a4o:Addr
 a6q:FuncData
 b4k:Fun K "look_spot" "Make.look_spot" a2v a4o a6q
 a9h:a1k K a6q ["self","place"] []
 a4c:Addr
 a5x:FuncData
 b1v:Fun K "first_spot" "Make.first_spot" a2g a4c a5x
 a8f:a1k K a5x ["self","looks"] []
 b0q:Addr
 b0e:FuncData
 c2i:Fun K "word" "Watch.word" a5f b0q b0e
 c2h:a1k K b0e ["self"] []
 a8m:Addr
 a8v:FuncData
 b8l:Fun K "spots" "Watch.spots" a4i a8m a8v
 b8e:a1k K a8v ["self","looks"] []
 b3l:Addr
 b3r:FuncData
 c3w:Fun K "word" "Hold.word" a6m b3l b3r
 c4z:a1k K b3r ["self"] []
 b1g:Addr
 b0t:FuncData
 c1j:Fun K "spots" "Hold.spots" a5g b1g b0t
 c2z:a1k K b0t ["self","looks"] []
 a6u:Addr
 a6s:FuncData
 b4e:Fun K "look_spot" "Hold.look_spot" a2w a6u a6s
 b4c:a1k K a6s ["self","place"] []
 a5o:Addr
 a5t:FuncData
 b2o:Fun K "first_spot" "Hold.first_spot" a2f a5o a5t
 b1w:a1k K a5t ["self","looks"] []
 b6n:Addr
 b5q:FuncData
 b5v:Fun K "level_of" "level_of" a7y b6n b5q
 c3a:a1k K b5q ["word"] []
 c2m:mg "level_of"=some (.ref b6n)
 b3f:Addr
 b2y:FuncData
 b2x:Fun K "levels_of" "levels_of" a6c b3f b2y
 b7d:a1k K b2y ["past","word"] []
 b7z:mg "levels_of"=some (.ref b3f)
 b6k:Addr
 b5p:FuncData
 b6t:Fun K "spots_of" "spots_of" a8d b6k b5p
 c0h:a1k K b5p ["deal","level"] []
 c2r:mg "spots_of"=some (.ref b6k)
 b6h:Addr
 b6d:FuncData
 b5k:Fun K "keeps_of" "keeps_of" a8b b6h b6d
 c1z:a1k K b6d ["past","levels"] []
 c0f:mg "keeps_of"=some (.ref b6h)
 b3h:Addr
 b2u:FuncData
 b7q:Fun K "firsts_of" "firsts_of" a6n b3h b2u
 c4m:a1k K b2u ["past","levels"] []
 c4t:mg "firsts_of"=some (.ref b3h)
 c5j:Addr
 c1a:FuncData
 d1w:f1k K "spots" "spots" b8a c5j c1a
 d9l:a1k K c1a ["history","word"] []
 e3t:a1k K c1a ["history","word"] [.none]
 d9g:mg "spots"=some (.ref c5j)
 a5y:Addr
 a5l:FuncData
 a7z:Fun K "comes_by_places" "comes_by_places" a2c a5y a5l
 b1q:a1k K a5l ["order"] []
 b2d:mg "comes_by_places"=some (.ref a5y)
 b5x:Addr
 b6l:FuncData
 c3c:Fun K "looks_at" "looks_at" a8c b5x b6l
 c8t:a1k K b6l ["deal","level","place"] []
 c9z:mg "looks_at"=some (.ref b5x)
 c7h:Addr
 c6g:FuncData
 d1t:Fun K "finds" "finds" b4y c7h c6g
 d9e:a1k K c6g ["look","makers"] []
 d8n:mg "finds"=some (.ref c7h)
 b1c:Addr
 b0z:FuncData
 b4o:Fun K "looks_find" "looks_find" a5d b1c b0z
 c2s:a1k K b0z ["past","order","levels"] []
 c2a:mg "looks_find"=some (.ref b1c)
 a7i:Addr
 a7j:FuncData
 b0m:Fun K "makes_follow" "makes_follow" a3l a7i a7j
 b6w:a1k K a7j ["past","order","levels"] []
 b6a:mg "makes_follow"=some (.ref a7i)
 b6f:Addr
 b2f:FuncData
 a9p:f1k K "allowed" "allowed" a9m b6f b2f
 b5u:a1k K b2f ["past","order","word"] []
 c5c:a1k K b2f ["past","order","word"] [.none]
 b2i:mg "allowed"=some (.ref b6f)
 b9q:Addr
 b9j:FuncData
 a1w:Fun K "_law_mixed" "_law_mixed" b0w b9q b9j
 a2m:a1k K b9j ["_law_cell_here","_law_k"] []
 a2o:mg "_law_mixed"=some (.ref b9q)
 c5i:Addr
 c7w:FuncData
 b2g:Fun K "_law_cell" "_law_cell" b4m c5i c7w
 b4t:a1k K c7w ["_law_script","_law_k"] []
 b4n:mg "_law_cell"=some (.ref c5i)
 b9s:Addr
 b9i:FuncData
 b0u:Fun K "_law_spots" "_law_spots" b0y b9s b9i
 b3n:a1k K b9i ["_law_word","_law_looks"] []
 b2v:mg "_law_spots"=some (.ref b9s)
 b9x:Addr
 b9r:FuncData
 b9t:Fun K "_law_place" "_law_place" a9y b9x b9r
 c7q:a1k K b9r ["_law_word","_law_k"] []
 c5n:mg "_law_place"=some (.ref b9x)
 b9w:Addr
 b9u:FuncData
 b9z:Fun K "_law_first" "_law_first" b0h b9w b9u
 c5r:a1k K b9u ["_law_word","_law_looks"] []
 c5k:mg "_law_first"=some (.ref b9w)
 a7g:Addr
 a7p:FuncData
 b0i:Fun K "_law_drawn_deals" "_law_drawn_deals" a3m a7g a7p
 b6s:a1k K a7p ["_law_script","_law_word"] []
 b5w:mg "_law_drawn_deals"=some (.ref a7g)
 a7k:Addr
 a7e:FuncData
 b1b:Fun K "_law_drawn_order" "_law_drawn_order" a3h a7k a7e
 b6u:a1k K a7e ["_law_script","_law_deals"] []
 b6c:mg "_law_drawn_order"=some (.ref a7k)
 c7g:Addr
 c7v:FuncData
 d1h:Fun K "_law_keys" "_law_keys" b5a c7g c7v
 d8v:a1k K c7v ["_law_cell_here"] []
 d7j:mg "_law_keys"=some (.ref c7g)
 c5s:Addr
 c5v:FuncData
 d2l:Fun K "_law_look" "_law_look" b4z c5s c5v
 d8z:a1k K c5v ["_law_keys_here","_law_last","_law_number","_law_strange"] []
 e0x:mg "_law_look"=some (.ref c5s)
 c5z:Addr
 c5d:FuncData
 d1r:Fun K "_law_kept" "_law_kept" b4x c5z c5d
 d7i:a1k K c5d ["_law_number","_law_word","_law_mask","_law_state"] []
 d7o:mg "_law_kept"=some (.ref c5z)
 c6u:Addr
 c7t:FuncData
 d1i:Fun K "_law_past" "_law_past" b4q c6u c7t
 d6v:a1k K c7t ["_law_script","_law_deals","_law_order"] []
 d8l:mg "_law_past"=some (.ref c6u)
 b5b:Addr
 b5h:FuncData
 c2t:Fun K "_law_copied" "_law_copied" a8e b5b b5h
 c9v:a1k K b5h ["_law_past_here"] []
 c9q:mg "_law_copied"=some (.ref b5b)
 c6f:Addr
 c6o:FuncData
 d3a:Fun K "_law_ways" "_law_ways" b4r c6f c6o
 d7l:a1k K c6o ["_law_deals","_law_word"] []
 e0o:mg "_law_ways"=some (.ref c6f)
 b5z:Addr
 b5f:FuncData
 c1r:Fun K "_law_placed" "_law_placed" a7u b5z b5f
 d0l:a1k K b5f ["_law_ways_here","_law_order"] []
 c8j:mg "_law_placed"=some (.ref b5z)
 a7l:Addr
 a7o:FuncData
 b1e:Fun K "_law_makers_good" "_law_makers_good" a3i a7l a7o
 b6x:a1k K a7o ["_law_keeps","_law_firsts","_law_makers"] []
 b5m:mg "_law_makers_good"=some (.ref a7l)
 c7x:Addr
 c7s:FuncData
 d1y:Fun K "_law_sees" "_law_sees" b4u c7x c7s
 d7m:a1k K c7s ["_law_keeps","_law_makers","_law_source","_law_at"] []
 e0p:mg "_law_sees"=some (.ref c7x)
 d3v:Addr
 d5c:FuncData
 d7f:Fun K "_law_due" "_law_due" c0e d3v d5c
 e4u:a1k K d5c ["_law_past_here","_law_order","_law_word"] []
 e5a:mg "_law_due"=some (.ref d3v)
 a6o:Addr
 a6t:FuncData
 a9i:Fun K "_law_other_source" "_law_other_source" a2x a6o a6t
 b4d:a1k K a6t ["_law_past_here","_law_number"] []
 b4f:mg "_law_other_source"=some (.ref a6o)
 a8w:Addr
 a8t:FuncData
 b1s:Fun K "_law_otherwise" "_law_otherwise" a4a a8w a8t
 b8n:a1k K a8t ["_law_past_here","_law_order","_law_way","_law_number"] []
 b8i:mg "_law_otherwise"=some (.ref a8w)
 b3o:Addr
 b3j:FuncData
 b3v:Fun K "_law_refused" "_law_refused" a6j b3o b3j
 b7u:a1k K b3j ["_law_past_here","_law_order","_law_word"] []
 b7r:mg "_law_refused"=some (.ref b3o)
 e2q:Addr
 e1x:FuncData
 f0y:Fun K "law" "law" c3n e2q e1x
 f2j:a1k K e1x ["_law_script"] []
 f1w:mg "law"=some (.ref e2q)
 b0a:Addr
 d2x:mg "SkewError"=some (.ref b0a)
 a2k:Addr
 c8w:mg "NoLevel"=some (.ref a2k)
 a5n:Addr
 d9h:mg "Loose"=some (.ref a5n)
 a8s:Addr
 e5k:mg "Kept"=some (.ref a8s)
 a8x:Addr
 e5e:mg "Make"=some (.ref a8x)
 a5v:Addr
 d9f:mg "Watch"=some (.ref a5v)
 a8u:Addr
 e5l:mg "Hold"=some (.ref a8u)
 b0k:Addr
 c1p:mg "NoHistory"=some (.ref b0k)
 c8e:f3q K mg "NoLevel" a2k
 b7y:e1q K a2k
 d4e:MkO K a5n
 b5y:Cls K a5n
 e3x:findIn K (.ref a5n) "__class__"=some (some (.builtin "object.__class__"))
 e2e:mroIn K a5n (.type "object")=some true
 b6m:b8r K a5n "word" b0p
 b4i:b8r K a5n "spots" a8h
 a8i:b8r K a5n "look_spot" a5q
 a8a:b8r K a5n "first_spot" a4r
 d7v:MkO K a8s
 c0z:Cls K a8s
 e8o:findIn K (.ref a8s) "__class__"=some (some (.builtin "object.__class__"))
 e7u:mroIn K a8s (.type "object")=some true
 b8h:b8r K a8s "word" b3i
 b5r:b8r K a8s "spots" b0x
 a9n:b8r K a8s "look_spot" a6r
 a8p:b8r K a8s "first_spot" a5p
 d9b:MkO K a8x
 c2d:Cls K a8x
 e7r:findIn K (.ref a8x) "__class__"=some (some (.builtin "object.__class__"))
 e6x:mroIn K a8x (.type "object")=some true
 b8f:b8r K a8x "word" b3e
 b5i:b8r K a8x "spots" b0c
 a9s:b8r K a8x "look_spot" a4o
 a8y:b8r K a8x "first_spot" a4c
 d3t:MkO K a5v
 b6q:Cls K a5v
 e4c:findIn K (.ref a5v) "__class__"=some (some (.builtin "object.__class__"))
 e2r:mroIn K a5v (.type "object")=some true
 b5l:b8r K a5v "word" b0q
 b4a:b8r K a5v "spots" a8m
 a8q:b8r K a5v "look_spot" a4o
 a7w:b8r K a5v "first_spot" a4c
 d7e:MkO K a8u
 c3e:Cls K a8u
 e8i:findIn K (.ref a8u) "__class__"=some (some (.builtin "object.__class__"))
 e6d:mroIn K a8u (.type "object")=some true
 b8g:b8r K a8u "word" b3l
 b6e:b8r K a8u "spots" b1g
 a9k:b8r K a8u "look_spot" a6u
 a8k:b8r K a8u "first_spot" a5o
 tg:specialIn K (.builtin "object.__class__") "__get__"=some (some (.builtin "getset_descriptor.__get__"))
 tt:takesIn K (.builtin "object.__class__")=some true
 b8s:f2b K mg "SkewError" b0a
 d6e:subIn K (.ref a2k) (.type "ValueError")=some true
 a7d:f0e K a2k b0a true
 a8o:f0e K a2k a2k true
 a7c:f0e K a2k b0k false
 d9w:Tok
 d8f:mg "START"=some (.int (0) d9w)
 e0b:mg "all"=none
 d4x:mg "bool"=none
 b6b:mg "dict"=none
 b0f:mg "enumerate"=none
 d8o:mg "int"=none
 a5i:mg "isinstance"=none
 a5u:mg "len"=none
 b4b:mg "list"=none
 a2y:mg "range"=none
 b9p:mg "sorted"=none
 e3e:mg "zip"=none
theorem d0c:a0r ["self"] ["self"] (a0f a4x):=⟨rfl,rfl,rfl,by decide +kernel,rfl,by decide +kernel,by decide +kernel⟩
theorem c5y:a0r ["self","looks"] ["self","looks"] (a0f a4h):=⟨rfl,rfl,rfl,by decide +kernel,rfl,by decide +kernel,by decide +kernel⟩
theorem b9b:a0r ["self","place"] ["self","place"] (a0f a2d):=⟨rfl,rfl,rfl,by decide +kernel,rfl,by decide +kernel,by decide +kernel⟩
theorem b6y:a0r ["self","looks"] ["self","looks"] (a0f a1u):=⟨rfl,rfl,rfl,by decide +kernel,rfl,by decide +kernel,by decide +kernel⟩
theorem d3d:a0r ["self"] ["self"] (a0f a6i):=⟨rfl,rfl,rfl,by decide +kernel,rfl,by decide +kernel,by decide +kernel⟩
theorem c9n:a0r ["self","looks"] ["self","looks"] (a0f a4y):=⟨rfl,rfl,rfl,by decide +kernel,rfl,by decide +kernel,by decide +kernel⟩
theorem c1m:a0r ["self","place"] ["self","place"] (a0f a3a):=⟨rfl,rfl,rfl,by decide +kernel,rfl,by decide +kernel,by decide +kernel⟩
theorem b8y:a0r ["self","looks"] ["self","looks"] (a0f a2e):=⟨rfl,rfl,rfl,by decide +kernel,rfl,by decide +kernel,by decide +kernel⟩
theorem d1x:a0r ["self"] ["self"] (a0f a6f):=⟨rfl,rfl,rfl,by decide +kernel,rfl,by decide +kernel,by decide +kernel⟩
theorem c8x:a0r ["self","looks"] ["self","looks"] (a0f a5e):=⟨rfl,rfl,rfl,by decide +kernel,rfl,by decide +kernel,by decide +kernel⟩
theorem c1e:a0r ["self","place"] ["self","place"] (a0f a2v):=⟨rfl,rfl,rfl,by decide +kernel,rfl,by decide +kernel,by decide +kernel⟩
theorem b9h:a0r ["self","looks"] ["self","looks"] (a0f a2g):=⟨rfl,rfl,rfl,by decide +kernel,rfl,by decide +kernel,by decide +kernel⟩
theorem c8p:a0r ["self"] ["self"] (a0f a5f):=⟨rfl,rfl,rfl,by decide +kernel,rfl,by decide +kernel,by decide +kernel⟩
theorem c6z:a0r ["self","looks"] ["self","looks"] (a0f a4i):=⟨rfl,rfl,rfl,by decide +kernel,rfl,by decide +kernel,by decide +kernel⟩
theorem d2k:a0r ["self"] ["self"] (a0f a6m):=⟨rfl,rfl,rfl,by decide +kernel,rfl,by decide +kernel,by decide +kernel⟩
theorem d0g:a0r ["self","looks"] ["self","looks"] (a0f a5g):=⟨rfl,rfl,rfl,by decide +kernel,rfl,by decide +kernel,by decide +kernel⟩
theorem c0s:a0r ["self","place"] ["self","place"] (a0f a2w):=⟨rfl,rfl,rfl,by decide +kernel,rfl,by decide +kernel,by decide +kernel⟩
theorem b8w:a0r ["self","looks"] ["self","looks"] (a0f a2f):=⟨rfl,rfl,rfl,by decide +kernel,rfl,by decide +kernel,by decide +kernel⟩
theorem c4y:a0r ["word","level"] ["word"] (a0f a7y):=⟨rfl,rfl,rfl,by decide +kernel,rfl,by decide +kernel,by decide +kernel⟩
theorem d2m:a0r ["past","word"] ["past","word"] (a0f a6c):=⟨rfl,rfl,rfl,by decide +kernel,rfl,by decide +kernel,by decide +kernel⟩
theorem d5q:a0r ["deal","level"] ["deal","level"] (a0f a8d):=⟨rfl,rfl,rfl,by decide +kernel,rfl,by decide +kernel,by decide +kernel⟩
theorem d5k:a0r ["past","levels"] ["past","levels"] (a0f a8b):=⟨rfl,rfl,rfl,by decide +kernel,rfl,by decide +kernel,by decide +kernel⟩
theorem d2y:a0r ["past","levels"] ["past","levels"] (a0f a6n):=⟨rfl,rfl,rfl,by decide +kernel,rfl,by decide +kernel,by decide +kernel⟩
theorem b9o:a0r ["history","word","levels","found","deal"] ["history","word"] (a0f b8a):=⟨rfl,rfl,rfl,by decide +kernel,rfl,by decide +kernel,by decide +kernel⟩
theorem a7a:a0r ["order","reached","spot"] ["order"] (a0f a2c):=⟨rfl,rfl,rfl,by decide +kernel,rfl,by decide +kernel,by decide +kernel⟩
theorem d5u:a0r ["deal","level","place"] ["deal","level","place"] (a0f a8c):=⟨rfl,rfl,rfl,by decide +kernel,rfl,by decide +kernel,by decide +kernel⟩
theorem e4g:a0r ["look","makers"] ["look","makers"] (a0f b4y):=⟨rfl,rfl,rfl,by decide +kernel,rfl,by decide +kernel,by decide +kernel⟩
theorem a5j:a0r ["past","order","levels","deals","keeps","makers","spot","looks"] ["past","order","levels"] (a0f a5d):=⟨rfl,rfl,rfl,by decide +kernel,rfl,by decide +kernel,by decide +kernel⟩
theorem a3q:a0r ["past","order","levels","keeps","firsts","made","one","other"] ["past","order","levels"] (a0f a3l):=⟨rfl,rfl,rfl,by decide +kernel,rfl,by decide +kernel,by decide +kernel⟩
theorem c4s:a0r ["past","order","word","levels"] ["past","order","word"] (a0f a9m):=⟨rfl,rfl,rfl,by decide +kernel,rfl,by decide +kernel,by decide +kernel⟩
theorem c9b:a0r ["_law_cell_here","_law_k","_law_number"] ["_law_cell_here","_law_k"] (a0f b0w):=⟨rfl,rfl,rfl,by decide +kernel,rfl,by decide +kernel,by decide +kernel⟩
theorem e1k:a0r ["_law_script","_law_k"] ["_law_script","_law_k"] (a0f b4m):=⟨rfl,rfl,rfl,by decide +kernel,rfl,by decide +kernel,by decide +kernel⟩
theorem d7b:a0r ["_law_word","_law_looks"] ["_law_word","_law_looks"] (a0f b0y):=⟨rfl,rfl,rfl,by decide +kernel,rfl,by decide +kernel,by decide +kernel⟩
theorem d8g:a0r ["_law_word","_law_k"] ["_law_word","_law_k"] (a0f a9y):=⟨rfl,rfl,rfl,by decide +kernel,rfl,by decide +kernel,by decide +kernel⟩
theorem d8m:a0r ["_law_word","_law_looks"] ["_law_word","_law_looks"] (a0f b0h):=⟨rfl,rfl,rfl,by decide +kernel,rfl,by decide +kernel,by decide +kernel⟩
theorem a1i:a0r ["_law_script","_law_word","_law_first_here","_law_many","_law_shift","_law_most","_law_deals","_law_k","_law_own","_law_number"] ["_law_script","_law_word"] (a0f a3m):=⟨rfl,rfl,rfl,by decide +kernel,rfl,by decide +kernel,by decide +kernel⟩
theorem a1j:a0r ["_law_script","_law_deals","_law_gone","_law_total","_law_number","_law_word","_law_looks","_law_order","_law_j","_law_going"] ["_law_script","_law_deals"] (a0f a3h):=⟨rfl,rfl,rfl,by decide +kernel,rfl,by decide +kernel,by decide +kernel⟩
theorem c0c:a0r ["_law_cell_here","_law_base","_law_step"] ["_law_cell_here"] (a0f b5a):=⟨rfl,rfl,rfl,by decide +kernel,rfl,by decide +kernel,by decide +kernel⟩
theorem b5j:a0r ["_law_keys_here","_law_last","_law_number","_law_strange","_law_look_here","_law_k","_law_source"] ["_law_keys_here","_law_last","_law_number","_law_strange"] (a0f b4z):=⟨rfl,rfl,rfl,by decide +kernel,rfl,by decide +kernel,by decide +kernel⟩
theorem c6m:a0r ["_law_number","_law_word","_law_mask","_law_state","_law_k","_law_stood"] ["_law_number","_law_word","_law_mask","_law_state"] (a0f b4x):=⟨rfl,rfl,rfl,by decide +kernel,rfl,by decide +kernel,by decide +kernel⟩
theorem a2u:a0r ["_law_script","_law_deals","_law_order","_law_keys_here","_law_state","_law_seen","_law_known","_law_number","_law_word","_law_looks","_law_j","_law_place_here","_law_cell_here","_law_k","_law_look_here","_law_makes"] ["_law_script","_law_deals","_law_order"] (a0f b4q):=⟨rfl,rfl,rfl,by decide +kernel,rfl,by decide +kernel,by decide +kernel⟩
theorem c5b:a0r ["_law_past_here","_law_deals"] ["_law_past_here"] (a0f a8e):=⟨rfl,rfl,rfl,by decide +kernel,rfl,by decide +kernel,by decide +kernel⟩
theorem b3t:a0r ["_law_deals","_law_word","_law_ways_here","_law_number","_law_own","_law_looks"] ["_law_deals","_law_word"] (a0f b4r):=⟨rfl,rfl,rfl,by decide +kernel,rfl,by decide +kernel,by decide +kernel⟩
theorem a3p:a0r ["_law_ways_here","_law_order","_law_at","_law_k","_law_total","_law_number","_law_many","_law_last","_law_place_here"] ["_law_ways_here","_law_order"] (a0f a7u):=⟨rfl,rfl,rfl,by decide +kernel,rfl,by decide +kernel,by decide +kernel⟩
theorem a4p:a0r ["_law_keeps","_law_firsts","_law_makers","_law_k","_law_end","_law_j","_law_other"] ["_law_keeps","_law_firsts","_law_makers"] (a0f a3i):=⟨rfl,rfl,rfl,by decide +kernel,rfl,by decide +kernel,by decide +kernel⟩
theorem b9v:a0r ["_law_keeps","_law_makers","_law_source","_law_at","_law_last","_law_maker"] ["_law_keeps","_law_makers","_law_source","_law_at"] (a0f b4u):=⟨rfl,rfl,rfl,by decide +kernel,rfl,by decide +kernel,by decide +kernel⟩
theorem a3d:a0r ["_law_past_here","_law_order","_law_word","_law_ways_here","_law_at","_law_keeps","_law_firsts","_law_number","_law_own","_law_looks","_law_made","_law_key","_law_makers","_law_level","_law_k","_law_spot","_law_source"] ["_law_past_here","_law_order","_law_word"] (a0f c0e):=⟨rfl,rfl,rfl,by decide +kernel,rfl,by decide +kernel,by decide +kernel⟩
theorem a1g:a0r ["_law_past_here","_law_number","_law_makers","_law_places","_law_k","_law_j","_law_i","_law_key","_law_some"] ["_law_past_here","_law_number"] (a0f a2x):=⟨rfl,rfl,rfl,by decide +kernel,rfl,by decide +kernel,by decide +kernel⟩
theorem a1r:a0r ["_law_past_here","_law_order","_law_way","_law_number","_law_some","_law_k","_law_numbers","_law_ways_here","_law_own"] ["_law_past_here","_law_order","_law_way","_law_number"] (a0f a4a):=⟨rfl,rfl,rfl,by decide +kernel,rfl,by decide +kernel,by decide +kernel⟩
theorem b0b:a0r ["_law_past_here","_law_order","_law_word","_law_found","e"] ["_law_past_here","_law_order","_law_word"] (a0f a6j):=⟨rfl,rfl,rfl,by decide +kernel,rfl,by decide +kernel,by decide +kernel⟩
theorem a8n:a0r ["_law_script","_law_cell_here","_law_word","_law_deals","_law_order","_law_past_here","_law_k","_law_own","_law_due_here","_law_handed","_law_found","_law_alike","_law_odd"] ["_law_script"] (a0f c3n):=⟨rfl,rfl,rfl,by decide +kernel,rfl,by decide +kernel,by decide +kernel⟩
def cO {K:PySem.W.Frag} {mg:Str->Option Value} (T:Tx K mg):Lv->Addr
 | .loose=>T.a5n
 | .kept=>T.a8s
 | .make=>T.a8x
 | .watch=>T.a5v
 | .hold=>T.a8u
abbrev Pr:=Int×Int
abbrev Lk:=List Pr
abbrev Dl:=Int×Str×List Lk
abbrev Mkr:=Int×List Int
abbrev Ps:=List Dl×List Mkr
def b4p (p:Pr):PyData:=.tuple [.int p.1,.int p.2]
def a7m (l:Lk):PyData:=.list (l.map b4p)
def a1p (d:Dl):PyData:=.tuple [.int d.1,.str d.2.1,.list (d.2.2.map a7m)]
def a4z (m:Mkr):PyData:=.tuple [.int m.1,.list (m.2.map PyData.int)]
def a3j (p:Ps):PyData:=.tuple [.list (p.1.map a1p),.list (p.2.map a4z)]
def wds:List Str:=["loose","kept","make","watch","hold"]
theorem b7e {α β:Type} (f:α->β):∀ l:List α,l.filterMap (λ j=>some (f j))=l.map f
 | []=>rfl
 | x::r=>by
  rw[List.filterMap_cons,b7e f r]
  rfl
theorem d1z {r:List (Key×V)} {k:Key} {v:V} (h:a4l r k=none):a6v r k v=r++[(k,v)]:=d3y v h
def kN (n:Nk):List Key:=[Sum.inl n.1,Sum.inl n.2]
def KT2 (H H':Hp):Prop:=∀ b xs,H b=some (.tup xs)->H' b=some (.tup xs)
theorem e9u {H H':Hp} (s:KT2 H H') {v:V} {n:Nk} (h:NdV H v n):NdV H' v n:=let ⟨p,e,q⟩:=h;⟨p,e,s _ _ q⟩
theorem KT2.trans {A B C:Hp} (a:KT2 A B) (b:KT2 B C):KT2 A C:=λ x xs e=>b x xs (a x xs e)
abbrev Nds (H:Hp):List V->List Nk->Prop:=Paired (NdV H)
theorem b2c {H H':Hp} (s:KT2 H H') {vs:List V} {ns:List Nk} (h:Nds H vs ns):Nds H' vs ns:=Paired.mapP h λ _ _ z=>e9u s z
theorem a1x {α β:Type} {F:α->β->Prop}:∀ {xs:List α} {bs:List β} {ys:List α} {cs:List β},Paired F xs bs->Paired F ys cs->Paired F (xs++ys) (bs++cs)
 | _,_,_,_,.nil,h=>h
 | _,_,_,_,.cons r t,h=>.cons r (a1x t h)
def CB (H1 H:Hp) (D:Addr) (ys:List V) (qs:List (Nk×Addr)):Prop :=
 Paired (λ (y:V) (q:Nk×Addr)=>∃ t b,y=.ref t/\t≠D/\q.2≠D/\H t=some (.tup [.ref b,.ref q.2])/\H b=some (.tup ((kN q.1).map kV))/\H1 q.2=none/\H q.2=some (.lst [])) ys qs/\(qs.map (·.2)).Nodup
theorem CB.keep {H1 H H':Hp} {D:Addr} {ys:List V} {qs:List (Nk×Addr)} (c:CB H1 H D ys qs) (hD:H1 D=none) (hD2:∀ xs,H D≠some (.tup xs)) (k:∀ b o,b≠D->H b=some o->H' b=some o):CB H1 H' D ys qs :=
 ⟨Paired.mapP c.1 λ _ _ ⟨t,b,e,n1,n2,h1,h2,h3,h4⟩=>⟨t,b,e,n1,n2,k _ _ n1 h1,k _ _ (λ z=>hD2 _ (z ▸ h2)) h2,h3,k _ _ n2 h4⟩,c.2⟩
def dN (n:Nk):PyData:=.tuple [.int n.1,.int n.2]
theorem e7h {K:PySem.W.Frag} {H:Hp} {v:V} {n:Nk} (h:NdV H v n):Dt K H v (dN n):=by
 obtain⟨p,rfl,e⟩:=h
 exact .tup (SqT.of e) (.cons (.int _) (.cons (.int _) .nil))
theorem c0v {K:PySem.W.Frag} {H:Hp}:∀ {vs:List V} {ns:List Nk},Nds H vs ns->Dts K H vs (ns.map dN)
 | _,_,.nil=>.nil
 | _,_,.cons r t=>.cons (e7h r) (c0v t)
theorem e2g:∀ ns:List Nk,PyData.canLayAll0 (ns.map dN)=true/\PyData.depthAll (ns.map dN)<=2
 | []=>⟨rfl,Nat.zero_le _⟩
 | n::r=>by
  obtain⟨a,b⟩:=e2g r
  refine⟨?_,?_⟩
  ·show (PyData.canLay0 (dN n) && PyData.canLayAll0 (r.map dN))=true
   rw[a]
   rfl
  ·show max (PyData.depth (dN n)) (PyData.depthAll (r.map dN))<=2
   exact Nat.max_le.mpr ⟨by show (1:Nat)<=2;decide,b⟩
theorem d4q (ns:List Nk):SeqAt.shaped (.list (ns.map dN))=true:=by
 show (PyData.canLayAll0 (ns.map dN) && decide (PyData.depthAll (ns.map dN)+1<=64))=true
 have:=(e2g ns).2
 rw[(e2g ns).1,decide_eq_true (by omega)]
 rfl
def e4j (K:PySem.W.Frag):Sp:=λ vs H Q _=>∃ (a:Addr) (ns:List Int),vs=[.ref a]/\SqL K H a (ns.map V.int)/\ns.length<=63/\(∀ m∈ns,Builtin.Int.intBits m<=1048576)/\∀ H',Q (.bl true) H'
section
variable {P:Program} {w:World} {K:PySem.W.Frag} {mg:Str->Option Value} {base:Heap}
theorem d0u (T:Tx K mg):a4j P w K mg base CX0 1 T.b0p T.b0o ["self"] (c4q .loose):=by
 refine T.c2x.ok d0c (λ vs H Q E h=>?_) (λ cdv A outer s H vs Q E hr h=>?_)
 ·obtain⟨x,rfl,_⟩:=h
  rfl
 ·obtain⟨x,rfl,q⟩:=h
  exact⟨_,(a0g (a0u a1c)),q⟩
theorem d1g (T:Tx K mg):a4j P w K mg base CX0 1 T.b3i T.b2z ["self"] (c4q .kept):=by
 refine T.c4h.ok d3d (λ vs H Q E h=>?_) (λ cdv A outer s H vs Q E hr h=>?_)
 ·obtain⟨x,rfl,_⟩:=h
  rfl
 ·obtain⟨x,rfl,q⟩:=h
  exact⟨_,(a0g (a0u a1c)),q⟩
theorem d2d (T:Tx K mg):a4j P w K mg base CX0 1 T.b3e T.b3m ["self"] (c4q .make):=by
 refine T.c4b.ok d1x (λ vs H Q E h=>?_) (λ cdv A outer s H vs Q E hr h=>?_)
 ·obtain⟨x,rfl,_⟩:=h
  rfl
 ·obtain⟨x,rfl,q⟩:=h
  exact⟨_,(a0g (a0u a1c)),q⟩
theorem c9d (T:Tx K mg):a4j P w K mg base CX0 1 T.b0q T.b0e ["self"] (c4q .watch):=by
 refine T.c2i.ok c8p (λ vs H Q E h=>?_) (λ cdv A outer s H vs Q E hr h=>?_)
 ·obtain⟨x,rfl,_⟩:=h
  rfl
 ·obtain⟨x,rfl,q⟩:=h
  exact⟨_,(a0g (a0u a1c)),q⟩
theorem d0z (T:Tx K mg):a4j P w K mg base CX0 1 T.b3l T.b3r ["self"] (c4q .hold):=by
 refine T.c3w.ok d2k (λ vs H Q E h=>?_) (λ cdv A outer s H vs Q E hr h=>?_)
 ·obtain⟨x,rfl,_⟩:=h
  rfl
 ·obtain⟨x,rfl,q⟩:=h
  exact⟨_,(a0g (a0u a1c)),q⟩
theorem e7f (T:Tx K mg):∀ l,∃ f fd ps,Cls K (cO T l)/\b8r K (cO T l) "word" f/\a4j P w K mg base CX0 1 f fd ps (c4q l)/\a1k K fd ps []:=by
 intro l
 cases l
 ·exact⟨_,_,_,T.b5y,T.b6m,d0u T,T.c2k⟩
 ·exact⟨_,_,_,T.c0z,T.b8h,d1g T,T.c4n⟩
 ·exact⟨_,_,_,T.c2d,T.b8f,d2d T,T.c3s⟩
 ·exact⟨_,_,_,T.b6q,T.b5l,c9d T,T.c2h⟩
 ·exact⟨_,_,_,T.c3e,T.b8g,d0z T,T.c4z⟩
theorem c6r (T:Tx K mg):a4j P w K mg base CX0 1 T.a8h T.a8r ["self","looks"] (b3q .loose):=by
 refine T.b8k.ok c5y (λ vs H Q E h=>?_) (λ cdv A outer s H vs Q E hr h=>?_)
 ·obtain⟨x,n,rfl,_⟩:=h
  rfl
 ·obtain⟨x,n,rfl,q⟩:=h
  exact⟨_,(a0g (a0u a0c)),q⟩
theorem c8d (T:Tx K mg):a4j P w K mg base CX0 1 T.b0x T.b0n ["self","looks"] (b3q .kept):=by
 refine T.c1x.ok c9n (λ vs H Q E h=>?_) (λ cdv A outer s H vs Q E hr h=>?_)
 ·obtain⟨x,n,rfl,_⟩:=h
  rfl
 ·obtain⟨x,n,rfl,q⟩:=h
  exact⟨_,(a0g (a0u (a0x a3v (pv 1) a0c))),⟨_,rfl,_,_,rfl,rfl,q⟩⟩
theorem c8a (T:Tx K mg):a4j P w K mg base CX0 1 T.b0c T.b0d ["self","looks"] (b3q .make):=by
 refine T.c0t.ok c8x (λ vs H Q E h=>?_) (λ cdv A outer s H vs Q E hr h=>?_)
 ·obtain⟨x,n,rfl,_⟩:=h
  rfl
 ·obtain⟨x,n,rfl,q⟩:=h
  exact⟨_,(a0g (a0u a0c)),q⟩
theorem c5o (T:Tx K mg):a4j P w K mg base CX0 1 T.a8m T.a8v ["self","looks"] (b3q .watch):=by
 refine T.b8l.ok c6z (λ vs H Q E h=>?_) (λ cdv A outer s H vs Q E hr h=>?_)
 ·obtain⟨x,n,rfl,_⟩:=h
  rfl
 ·obtain⟨x,n,rfl,q⟩:=h
  exact⟨_,(a0g (a0u a0c)),q⟩
theorem d0b (T:Tx K mg):a4j P w K mg base CX0 1 T.b1g T.b0t ["self","looks"] (b3q .hold):=by
 refine T.c1j.ok d0g (λ vs H Q E h=>?_) (λ cdv A outer s H vs Q E hr h=>?_)
 ·obtain⟨x,n,rfl,_⟩:=h
  rfl
 ·obtain⟨x,n,rfl,q⟩:=h
  exact⟨_,(a0g (a0u a0c)),q⟩
theorem e2z (T:Tx K mg):∀ l,∃ f fd ps,Cls K (cO T l)/\b8r K (cO T l) "spots" f/\a4j P w K mg base CX0 1 f fd ps (b3q l)/\a1k K fd ps []:=by
 intro l
 cases l
 ·exact⟨_,_,_,T.b5y,T.b4i,c6r T,T.b8p⟩
 ·exact⟨_,_,_,T.c0z,T.b5r,c8d T,T.c0o⟩
 ·exact⟨_,_,_,T.c2d,T.b5i,c8a T,T.c0k⟩
 ·exact⟨_,_,_,T.b6q,T.b4a,c5o T,T.b8e⟩
 ·exact⟨_,_,_,T.c3e,T.b6e,d0b T,T.c2z⟩
theorem b8v (T:Tx K mg):a4j P w K mg base CX0 1 T.a5q T.a5z ["self","place"] (c2c .loose):=by
 refine T.b1y.ok b9b (λ vs H Q E h=>?_) (λ cdv A outer s H vs Q E hr h=>?_)
 ·obtain⟨x,n,rfl,_⟩:=h
  rfl
 ·obtain⟨x,n,rfl,q⟩:=h
  exact⟨_,(a0g (a0u b5s)),q⟩
theorem c0q (T:Tx K mg):a4j P w K mg base CX0 1 T.a6r T.a6p ["self","place"] (c2c .kept):=by
 refine T.b4l.ok c1m (λ vs H Q E h=>?_) (λ cdv A outer s H vs Q E hr h=>?_)
 ·obtain⟨x,n,rfl,_⟩:=h
  rfl
 ·obtain⟨x,n,rfl,q⟩:=h
  exact⟨_,(a0g (a0u (pv 1))),⟨_,rfl,q⟩⟩
theorem b2l (T:Tx K mg):a4j P w K mg base CX0 1 T.a4o T.a6q ["self","place"] (c2c .make):=by
 refine T.b4k.ok c1e (λ vs H Q E h=>?_) (λ cdv A outer s H vs Q E hr h=>?_)
 ·obtain⟨x,n,rfl,_⟩:=h
  rfl
 ·obtain⟨x,n,rfl,q⟩:=h
  exact⟨_,(a0g (a0u a0c)),q⟩
theorem c0y (T:Tx K mg):a4j P w K mg base CX0 1 T.a6u T.a6s ["self","place"] (c2c .hold):=by
 refine T.b4e.ok c0s (λ vs H Q E h=>?_) (λ cdv A outer s H vs Q E hr h=>?_)
 ·obtain⟨x,n,rfl,_⟩:=h
  rfl
 ·obtain⟨x,n,rfl,q⟩:=h
  exact⟨_,(a0g (a0u a0c)),q⟩
theorem c8v (T:Tx K mg):∀ l,∃ f fd ps,Cls K (cO T l)/\b8r K (cO T l) "look_spot" f/\a4j P w K mg base CX0 1 f fd ps (c2c l)/\a1k K fd ps []:=by
 intro l
 cases l
 ·exact⟨_,_,_,T.b5y,T.a8i,b8v T,T.b1t⟩
 ·exact⟨_,_,_,T.c0z,T.a9n,c0q T,T.b4g⟩
 ·exact⟨_,_,_,T.c2d,T.a9s,b2l T,T.a9h⟩
 ·exact⟨_,_,_,T.b6q,T.a8q,b2l T,T.a9h⟩
 ·exact⟨_,_,_,T.c3e,T.a9k,c0y T,T.b4c⟩
theorem b7t (T:Tx K mg):a4j P w K mg base CX0 1 T.a4r T.a4t ["self","looks"] (b6j .loose):=by
 refine T.b1k.ok b6y (λ vs H Q E h=>?_) (λ cdv A outer s H vs Q E hr h=>?_)
 ·obtain⟨x,n,rfl,_⟩:=h
  rfl
 ·obtain⟨x,n,rfl,q⟩:=h
  exact⟨_,(a0g (a0u a0c)),q⟩
theorem b9d (T:Tx K mg):a4j P w K mg base CX0 1 T.a5p T.a5w ["self","looks"] (b6j .kept):=by
 refine T.b1r.ok b8y (λ vs H Q E h=>?_) (λ cdv A outer s H vs Q E hr h=>?_)
 ·obtain⟨x,n,rfl,_⟩:=h
  rfl
 ·obtain⟨x,n,rfl,q⟩:=h
  exact⟨_,(a0g (a0u (pv 1))),⟨_,rfl,q⟩⟩
theorem b1l (T:Tx K mg):a4j P w K mg base CX0 1 T.a4c T.a5x ["self","looks"] (b6j .make):=by
 refine T.b1v.ok b9h (λ vs H Q E h=>?_) (λ cdv A outer s H vs Q E hr h=>?_)
 ·obtain⟨x,n,rfl,_⟩:=h
  rfl
 ·obtain⟨x,n,rfl,q⟩:=h
  exact⟨_,(a0g (a0u a0c)),q⟩
theorem b8x (T:Tx K mg):a4j P w K mg base CX0 1 T.a5o T.a5t ["self","looks"] (b6j .hold):=by
 refine T.b2o.ok b8w (λ vs H Q E h=>?_) (λ cdv A outer s H vs Q E hr h=>?_)
 ·obtain⟨x,n,rfl,_⟩:=h
  rfl
 ·obtain⟨x,n,rfl,q⟩:=h
  exact⟨_,(a0g (a0u a0c)),q⟩
theorem c7i (T:Tx K mg):∀ l,∃ f fd ps,Cls K (cO T l)/\b8r K (cO T l) "first_spot" f/\a4j P w K mg base CX0 1 f fd ps (b6j l)/\a1k K fd ps []:=by
 intro l
 cases l
 ·exact⟨_,_,_,T.b5y,T.a8a,b7t T,T.b1m⟩
 ·exact⟨_,_,_,T.c0z,T.a8p,b9d T,T.b2s⟩
 ·exact⟨_,_,_,T.c2d,T.a8y,b1l T,T.a8f⟩
 ·exact⟨_,_,_,T.b6q,T.a7w,b1l T,T.a8f⟩
 ·exact⟨_,_,_,T.c3e,T.a8k,b8x T,T.b1w⟩
theorem c4w (T:Tx K mg):a4j P w K mg base (CXW P w) 2 T.b6n T.b5q ["word"] (c8y (cO T) T.a2k):=by
 refine d7g T.b5v c4y (λ vs H Q E h=>?_) (λ cdv A outer s H vs Q E hr h=>?_)
 ·obtain⟨x,rfl,_⟩:=h
  rfl
 ·obtain⟨x,rfl,hl,hc,k,ke⟩:=h
  refine⟨_,(a0e (e4z (a2q PassesOwn.never rfl (a1t (a1o (a0a (c2l T.d4e rfl T.d9h) (a0a (c2l T.d7v rfl T.e5k) (a0a (c2l T.d9b rfl T.e5e) (a0a (c2l T.d3t rfl T.d9f) (a0a (c2l T.d7e rfl T.e5l) a0d))))))) (a0j (i:=1) c4y.nd rfl (Or.inl rfl))
   (a0g (a3r (a0t a7v (d8t (pv 1) (e7f T) (hr.mono (by decide))) (pv 0) (a0z _))
   (a0g (a0u (pv 1)))
   a1d))))
   (a0g (e1r T.c8e rfl (e3h (pv 0) (by decide +kernel))))),?_⟩
  intro x1 d1 h1 e1 n1
  have s1:=Same.newO (C:=T.a5n) h1 e1 n1
  have o1:=a0b (H:=upd H d1 (.own x1)) (a:=x1) (o:=HO.ins T.a5n d1 [])
  generalize upd (upd H d1 (.own x1)) x1 (.ins T.a5n d1 [])=H1 at s1 o1 ⊢
  intro x2 d2 h2 e2 n2
  have s2:=Same.newO (C:=T.a8s) h2 e2 n2
  have o2:=a0b (H:=upd H1 d2 (.own x2)) (a:=x2) (o:=HO.ins T.a8s d2 [])
  generalize upd (upd H1 d2 (.own x2)) x2 (.ins T.a8s d2 [])=H2 at s2 o2 ⊢
  intro x3 d3 h3 e3 n3
  have s3:=Same.newO (C:=T.a8x) h3 e3 n3
  have o3:=a0b (H:=upd H2 d3 (.own x3)) (a:=x3) (o:=HO.ins T.a8x d3 [])
  generalize upd (upd H2 d3 (.own x3)) x3 (.ins T.a8x d3 [])=H3 at s3 o3 ⊢
  intro x4 d4 h4 e4 n4
  have s4:=Same.newO (C:=T.a5v) h4 e4 n4
  have o4:=a0b (H:=upd H3 d4 (.own x4)) (a:=x4) (o:=HO.ins T.a5v d4 [])
  generalize upd (upd H3 d4 (.own x4)) x4 (.ins T.a5v d4 [])=H4 at s4 o4 ⊢
  intro x5 d5 h5 e5 n5
  have s5:=Same.newO (C:=T.a8u) h5 e5 n5
  have o5:=a0b (H:=upd H4 d5 (.own x5)) (a:=x5) (o:=HO.ins T.a8u d5 [])
  generalize upd (upd H4 d5 (.own x5)) x5 (.ins T.a8u d5 [])=H5 at s5 o5 ⊢
  refine⟨(by show 5<=sizeLine;decide),λ p hp=>?_⟩
  have s6:=Same.upd (o:=HO.lst [V.ref x1,.ref x2,.ref x3,.ref x4,.ref x5]) hp
  have hpl:=a0b (H:=H5) (a:=p) (o:=HO.lst [V.ref x1,.ref x2,.ref x3,.ref x4,.ref x5])
  have SS:Same H (upd H5 p (.lst [V.ref x1,.ref x2,.ref x3,.ref x4,.ref x5])):=s1.trans (s2.trans (s3.trans (s4.trans (s5.trans s6))))
  replace o1:=s6 _ _ (s5 _ _ (s4 _ _ (s3 _ _ (s2 _ _ o1))))
  replace o2:=s6 _ _ (s5 _ _ (s4 _ _ (s3 _ _ o2)))
  replace o3:=s6 _ _ (s5 _ _ (s4 _ _ o3))
  replace o4:=s6 _ _ (s5 _ _ o4)
  replace o5:=s6 _ _ o5
  generalize upd H5 p (HO.lst [V.ref x1,.ref x2,.ref x3,.ref x4,.ref x5])=H6 at hpl SS o1 o2 o3 o4 o5 ⊢
  clear s1 s2 s3 s4 s5 s6 h1 h2 h3 h4 h5 e1 e2 e3 e4 e5
  have at_:∀ (i:Nat) y,[V.ref x1,.ref x2,.ref x3,.ref x4,.ref x5][i]?=some y->∃ l a dx,ix l=i/\y=V.ref a/\H6 a=some (.ins (cO T l) dx []):=λ i y hy=>by
   match i,hy with
   | 0,hy=>exact⟨.loose,x1,d1,rfl,(Option.some.inj hy).symm,o1⟩
   | 1,hy=>exact⟨.kept,x2,d2,rfl,(Option.some.inj hy).symm,o2⟩
   | 2,hy=>exact⟨.make,x3,d3,rfl,(Option.some.inj hy).symm,o3⟩
   | 3,hy=>exact⟨.watch,x4,d4,rfl,(Option.some.inj hy).symm,o4⟩
   | 4,hy=>exact⟨.hold,x5,d5,rfl,(Option.some.inj hy).symm,o5⟩
   | n+5,hy=>simp at hy
  refine⟨p,rfl,⟨_,SqL.of hpl⟩,a4u (K:=K) (a:=p) (xs:=[V.ref x1,.ref x2,.ref x3,.ref x4,.ref x5])
   (λ i σ Hn=>Hn=H6/\∃ (y:Option V),σ=[some (.str x),y]/\∀ l,ix l < i->x≠wd l)
   ⟨rfl,none,rfl,λ l h=>absurd h (Nat.not_lt_zero _)⟩ (λ i σ Hn _ ⟨z,_⟩=>z ▸ SqL.of hpl) ?_ ?_⟩
  ·rintro i y σ Hn hy ⟨z2,y0,rfl,hno⟩
   subst z2
   obtain⟨l,a,dx,hix,rfl,ha⟩:=at_ i y hy
   refine⟨_,rfl,a,l,dx,[],rfl,ha,rfl,_,rfl,_,rfl,rfl,_,rfl,b1n (λ e=>?_) (λ e=>?_)⟩
   ·exact⟨_,rfl,k l (V.str.inj (of_decide_eq_true e)).symm a dx _ SS ha⟩
   ·refine⟨rfl,_,rfl,λ l' hl'=>?_⟩
    rcases Nat.lt_succ_iff_lt_or_eq.mp hl' with z | z
    ·exact hno l' z
    ·have:l'=l:=by
      rw[<-hix] at z
      cases l'<;>cases l<;>first | rfl | cases z
     rw[this]
     exact λ q=>e (decide_eq_true (congrArg V.str q.symm))
  ·rintro σ Hn ⟨z2,y0,rfl,hno⟩
   subst z2
   exact⟨_,rfl,x,rfl,hc,by omega,λ r=>ke (λ l=>hno l (by show ix l < 5;cases l<;>decide)) _ SS⟩
--@STAGE
def lvS (x:Str):Lv:=if x="kept" then .kept else if x="make" then .make else if x="watch" then .watch else if x="hold" then .hold else .loose
theorem e0g {x:Str} (h:x∈wds):wd (lvS x)=x:=by
 unfold wds at h
 simp only [List.mem_cons,List.not_mem_nil,or_false] at h
 rcases h with rfl | rfl | rfl | rfl | rfl<;>decide +kernel
theorem f2m (l:Lv):wd l∈wds:=by cases l<;>decide +kernel
theorem e4l (l:Lv):(wd l).length<=5/\∀ c∈(wd l).cps.toList,c < 128:=by
 cases l<;>decide +kernel
theorem f1i {l m:Lv} (h:wd l=wd m):m=l:=by
 have key:∀ l m:Lv,ix l≠ix m->wd l≠wd m:=by intro l m;cases l<;>cases m<;>decide +kernel
 by_cases e:ix l=ix m
 ·cases l<;>cases m<;>first | rfl | cases e
 ·exact absurd h (key l m e)
def wV:Option Str->V
 | none=>.non
 | some x=>.str x
def lvD (w:Option Str) (d:Dl):Lv:=lvS (w.getD d.2.1)
def a1y (w:Option Str) (d:Dl):List Nk:=(List.range (a5m (lvD w d) (d.2.2.length:Int)).toNat).map λ j:Nat=>(d.1,(j:Int))
def c3i (p:Ps):Prop:=p.1.length<=8/\(p.1.map (·.1)).Nodup/\∀ d∈p.1,d.2.1∈wds/\d.2.2.length<=40
def b7p (x:Str):Prop:=x.length<=600/\∀ c∈x.cps.toList,c < 16 ^ 8
theorem d2v {x:Str} (h:x∈wds):b7p x:=by
 rw[<-e0g h]
 exact⟨by have:=(e4l (lvS x)).1;omega,λ c hc=>Nat.lt_trans ((e4l (lvS x)).2 c hc) (by decide)⟩
def LvH (cls:Lv->Addr) (H:Hp) (e:Addr) (w:Option Str) (p:Ps):Prop:=∃ kvs,H e=some (.dK kvs)/\∀ d∈p.1,∃ a dx,a4l kvs (Sum.inl d.1)=some (.ref a)/\H a=some (.ins (cls (lvD w d)) dx [])
theorem LvH.same {cls:Lv->Addr} {H H':Hp} {e:Addr} {w:Option Str} {p:Ps} (s:Same H H') (h:LvH cls H e w p):LvH cls H' e w p:=let ⟨kvs,a,b⟩:=h;⟨kvs,s _ _ a,λ d hd=>let ⟨x,dx,c,f⟩:=b d hd;⟨x,dx,c,s _ _ f⟩⟩
def e3l (cls:Lv->Addr) (N:Addr):Sp:=λ vs H Q E=>∃ (v:V) (p:Ps) (w:Option Str),vs=[v,wV w]/\Tr H v (a3j p)/\c3i p/\(∀ x,w=some x->b7p x)/\((∀ x,w=some x->x∈wds)->∀ e H',Same H H'->LvH cls H' e w p->Q (.ref e) H')/\(∀ x,w=some x->x ∉ wds->∀ H',Same H H'->E (.ref N) none H')
def d7x (cls:Lv->Addr):Sp:=λ vs H Q _=>∃ (v:V) (a:Addr) (d:Dl) (w:Option Str) (dx:Addr),vs=[v,.ref a]/\Tr H v (a1p d)/\H a=some (.ins (cls (lvD w d)) dx [])/\d.2.2.length<=40/\∀ D H' ys,H D=none->Same H H'->H' D=some (.lst ys)->Nds H' ys (a1y w d)->Q (.ref D) H'
def e2y (cls:Lv->Addr) (N:Addr):Sp:=λ vs H Q E=>∃ (v:V) (p:Ps) (w:Option Str),vs=[v,wV w]/\Tr H v (a3j p)/\c3i p/\(∀ x,w=some x->b7p x)/\((∀ x,w=some x->x∈wds)->∀ D H' ys,H D=none->Same H H'->H' D=some (.lst ys)->Nds H' ys (p.1.flatMap (a1y w))->Q (.ref D) H')/\(∀ x,w=some x->x ∉ wds->∀ H',Same H H'->E (.ref N) none H')
theorem a5r {H:Hp} {v:V} {p:Ps} (h:Tr H v (a3j p)):∃ a l m lv mv,v=.ref a/\H a=some (.tup [.ref l,.ref m])/\H l=some (.lst lv)/\Trs H lv (p.1.map a1p)/\H m=some (.lst mv)/\Trs H mv (p.2.map a4z):=by
 cases h with
 | tup h r =>
  cases r with
  | cons h1 r =>
   cases h1 with
   | lst a1 b1 =>
    cases r with
    | cons h2 r =>
     cases h2 with
     | lst a2 b2 =>
      cases r
      exact⟨_,_,_,_,_,rfl,h,a1,b1,a2,b2⟩
theorem a6k {H:Hp} {v:V} {d:Dl} (h:Tr H v (a1p d)):∃ p L lv,v=.ref p/\H p=some (.tup [.int d.1,.str d.2.1,.ref L])/\H L=some (.lst lv)/\Trs H lv (d.2.2.map a7m):=by
 cases h with
 | tup h r =>
  cases r with
  | cons h1 r =>
   cases h1
   cases r with
   | cons h2 r =>
    cases h2
    cases r with
    | cons h3 r =>
     cases h3 with
     | lst a b =>
      cases r
      exact⟨_,_,_,rfl,h,a,b⟩
theorem c5e (w:Option Str) (d:Dl) (h:d.2.2.length<=40):0<=a5m (lvD w d) (d.2.2.length:Int)/\a5m (lvD w d) (d.2.2.length:Int)<=41:=by
 generalize lvD w d=l
 cases l<;>simp only [a5m]<;>omega
theorem b2b:∀ (l a:List (Key×V)),((a++l).map (·.1)).Nodup->a6d a l=a++l
 | [],a,_=>by simp[a6d]
 | q::r,a,h=>by
  have e:a6v a q.1 q.2=a++[q]:=d1z (by
   unfold a4l
   rw[Option.map_eq_none_iff,List.find?_eq_none]
   intro kv hk z
   have z':kv.1=q.1:=of_decide_eq_true z
   rw[List.map_append,List.map_cons,List.nodup_append] at h
   exact h.2.2 kv.1 (List.mem_map.mpr ⟨kv,hk,rfl⟩) q.1 List.mem_cons_self z')
  show a6d (a6v a q.1 q.2) r=_
  rw[e,b2b r (a++[q]) (by simpa using h)]
  simp
def LvP (cls:Lv->Addr) (w:Option Str) (H:Hp) (y:V) (d:Dl):Prop:=∃ t x dx,y=.ref t/\H t=some (.tup [.int d.1,.ref x])/\H x=some (.ins (cls (lvD w d)) dx [])
theorem f0b {cls:Lv->Addr} {w:Option Str}:∀ H H' y d,KN H H'->LvP cls w H y d->LvP cls w H' y d:=λ H H' y d k ⟨t,x,dx,e,h1,h2⟩=>⟨t,x,dx,e,k _ _ (λ xs z=>by cases z) h1,k _ _ (λ xs z=>by cases z) h2⟩
theorem d7y {cls:Lv->Addr} {w:Option Str} {K:PySem.W.Frag} {H:Hp}:∀ {ys:List V} {ds:List Dl},Paired (LvP cls w H) ys ds->∃ ps:List (Key×V),d6q K H ys ps/\ps.map (·.1)=ds.map (λ d=>(Sum.inl d.1:Key))/\∀ d∈ds,∃ x dx,((Sum.inl d.1:Key),V.ref x)∈ps/\H x=some (.ins (cls (lvD w d)) dx [])
 | _,_,.nil=>⟨[],.nil,rfl,λ d hd=>by cases hd⟩
 | _,_,.cons (b:=d) ⟨t,x,dx,e,h1,h2⟩ r=>by
  obtain⟨ps,a,b,c⟩:=d7y r
  subst e
  refine⟨(Sum.inl d.1,.ref x)::ps,.cons (q:=(Sum.inl d.1,V.ref x)) (SqT.of h1) a,by rw[List.map_cons,List.map_cons,b],λ d' hd'=>?_⟩
  rcases List.mem_cons.mp hd' with z | z
  ·rw[z]
   exact⟨x,dx,List.mem_cons_self,h2⟩
  ·obtain⟨x',dx',m,h⟩:=c d' z
   exact⟨x',dx',List.mem_cons_of_mem _ m,h⟩
theorem e9j:∀ H H' y (n:Nk),KN H H'->NdV H y n->NdV H' y n:=λ H H' y n k ⟨p,e,h⟩=>⟨p,e,k _ _ (λ xs z=>by cases z) h⟩
theorem e4p {H H':Hp} (k:KN H H') {ys:List V} {ns:List Nk} (h:Nds H ys ns):Nds H' ys ns:=Paired.mapP h λ _ _ z=>e9j _ _ _ _ k z
theorem f0k {x:Str} (h:∀ l,x≠wd l):x ∉ wds:=λ z=>h (lvS x) (e0g z).symm
theorem a9o {α:Type} {H:Hp} {dx:α->PyData}:∀ {vs:List V} {as:List α},Trs H vs (as.map dx)->Paired (λ v a=>Tr H v (dx a)) vs as
 | _,[],.nil=>.nil
 | _,_::_,.cons h r=>.cons h (a9o r)
theorem c1c (T:Tx K mg):a4j P w K mg base (CXW P w) 3 T.b3f T.b2y ["past","word"] (e3l (cO T) T.a2k):=by
 refine d7g T.b2x d2m (λ vs H Q E h=>?_) (λ cdv A outer s H vs Q E hr h=>?_)
 ·obtain⟨v,p,wo,rfl,_⟩:=h
  rfl
 ·obtain⟨v,p,wo,rfl,tr,⟨l8,nn,gd⟩,fw,qy,qn⟩:=h
  refine⟨_,(a9e (a3r (a0t d8q (pv 1) b5s (a0z _))
   (a0g (a6l (a0l ((c4w T).mono (by decide)) hr rfl T.c2m T.b5v.kp T.c3a .nil (e2o λ _ _ _ z=>z) (a0a (pv 1) a0d))))
   a1d)
   (a0g (a0u (a2i (a7r (K:=K) rfl rfl) (by rfl) T.b6b boot_dict (a0a (a3k ["deal"] rfl (a3c.mk (fv:=["word"]) (js:=[1]) rfl (by decide +kernel) (by decide +kernel) (by decide +kernel) (a1n (Or.inl rfl) a2n) rfl (by decide +kernel)) (a1t (a0m a0w (pv 0) a0c (λ _ _=>rfl))) (λ _ _ _ _ _=>(a0j (i:=0) (show (["deal","word"]:List Str).Nodup by decide +kernel) rfl (Or.inl rfl))) (λ _ _ _ _ _=>a9r) (λ _ _ _ _ _=>(a2b (a0a (a0m (a2r (K:=K) rfl) (pv 0) a0c (λ _ _=>rfl)) (a0a (a0l ((c4w T).mono (by decide)) hr rfl T.c2m T.b5v.kp T.c3a .nil e1a (a0a (e3a (a0t d7h (pv 1) b5s (a0z _)) (a0m (a2r (K:=K) rfl) (pv 0) a0c (λ _ _=>rfl)) (pv 1)) a0d)) a0d))))) a0d))))),?_⟩
  refine⟨λ σ H1=>σ=[some v,some (wV wo)]/\Same H H1/\(∀ x,wo=some x->x∈wds),?_,?_⟩
  ·cases wo with
   | none=>exact⟨_,rfl,rfl,_,rfl,b5e (A:=_) ⟨rfl,Same.refl _,λ x e=>by cases e⟩⟩
   | some x=>exact⟨_,rfl,rfl,_,rfl,c7z (B:=_) ⟨_,rfl,x,rfl,(fw x rfl).1,(fw x rfl).2,λ l e a dx H' s' _=>⟨rfl,s',λ y ey=>by cases ey;rw[e];exact f2m l⟩,λ hn H' s'=>qn x rfl (f0k hn) H' s'⟩⟩
  ·rintro σ H1 ⟨rfl,s1,hw⟩
   obtain⟨a,l,m,lv,mv,rfl,ha,hl,tl,_,_⟩:=a5r tr
   refine⟨_,rfl,a,_,_,_,rfl,rfl,SqT.of (s1 _ _ ha),rfl,l,rfl,⟨_,SqL.of (s1 _ _ hl)⟩,c8m (k:=1) (fs:=[some (wV wo)]) (LvP (cO T) wo) (λ H v d=>Tr H v (a1p d)) p.1 some f0b (λ _ _ _ _ ss z=>z.same ss) rfl (s1 _ _ hl) (a9o (tl.same s1)) (by have:sizeLine=2 ^ 24:=rfl;omega) (λ d hd H2 ts v R ss hts trd cont _=>?_) (λ D H2 ys hD s2 h2 pp=>?_)⟩
   ·obtain⟨t,rfl⟩:=List.length_eq_one_iff.mp hts
    obtain⟨pd,L,lkv,rfl,hpd,_,_⟩:=a6k trd
    obtain⟨gw,_⟩:=gd d hd
    refine⟨_,rfl,pd,_,_,_,rfl,rfl,SqT.of hpd,rfl,?_⟩
    have fin:∀ (x:Str),x∈wds->lvD wo d=lvS x->c8y (cO T) T.a2k [.str x] H2 (λ y H4=>[V.int d.1,y].length<=sizeLine/\∀ q,H4 q=none->R (some (.ref q)) ([some (.ref pd)]++[some (wV wo)]) (upd H4 q (.tup [.int d.1,y]))) (λ _ _ _=>False):=λ x hx el=>by
     refine⟨x,rfl,(d2v hx).1,(d2v hx).2,λ l e a' dx H' s' h'=>⟨(by show 2<=sizeLine;decide),λ q hq=>cont d _ [_] _ rfl rfl (s'.trans (Same.upd hq)) ⟨q,a',dx,rfl,a0b,Same.upd hq _ _ ?_⟩⟩,λ hn=>absurd hx (f0k hn)⟩
     have:lvD wo d=l:=by
      rw[el]
      exact f1i (e.symm.trans (e0g hx).symm)
     rw[this]
     exact h'
    cases wo with
    | none=>exact⟨_,rfl,rfl,_,rfl,c7z (B:=_) ⟨_,rfl,pd,_,_,_,rfl,rfl,SqT.of hpd,rfl,fin d.2.1 gw rfl⟩⟩
    | some x=>exact⟨_,rfl,rfl,_,rfl,b5e (A:=_) ⟨_,rfl,fin x (hw x rfl) rfl⟩⟩
   ·rw[List.filterMap_some] at pp
    obtain⟨ps,pr,pk,pv⟩:=d7y (K:=K) pp
    have lps:ps.length=p.1.length:=by have:=congrArg List.length pk;simpa using this
    have nd:(ps.map (·.1)).Nodup:=by
     rw[pk]
     exact List.pairwise_map.mpr (List.Pairwise.imp (λ z e=>z (Sum.inl.inj e)) (List.pairwise_map.mp nn))
    refine⟨D,ys,ps,rfl,h2,pr,(by omega),λ e he=>qy hw e _ (s1.trans (s2.trans (Same.upd he))) ⟨_,a0b,λ d hd=>?_⟩⟩
    rw[b2b ps [] (by simpa using nd)]
    obtain⟨x,dx,hm,hx⟩:=pv d hd
    exact⟨x,dx,b3g nd hm,Same.upd he _ _ hx⟩
theorem c4j (T:Tx K mg):a4j P w K mg base CX0 2 T.b6k T.b5p ["deal","level"] (d7x (cO T)):=by
 refine T.b6t.ok d5q (λ vs H Q E h=>?_) (λ cdv A outer s H vs Q E hr h=>?_)
 ·obtain⟨v,a,d,wo,dx,rfl,_⟩:=h
  rfl
 ·obtain⟨v,a,d,wo,dx,rfl,tr,ha,l40,q⟩:=h
  refine⟨_,(a0g (a0u (a3k ["place"] rfl (a3c.mk (fv:=["deal"]) (js:=[0]) rfl (by decide +kernel) (by decide +kernel) (by decide +kernel) (a1n (Or.inl rfl) a2n) rfl (by decide +kernel)) (a1q rfl T.a2y (a0a (c6s (pv 1) (e2z T) (hr.mono (by decide)) (a0a (a1a a1h (by rfl) T.a5u boot_len (a0a (a0m a0w (pv 0) a0c (λ _ _=>rfl)) a0d)) a0d)) a0d)) (λ _ _ _ _ _=>(a0j (i:=0) (show (["place","deal"]:List Str).Nodup by decide +kernel) rfl (Or.inl rfl))) (λ _ _ _ _ _=>a9r) (λ _ _ _ _ _=>(a2b (a0a (a0m (a2r (K:=K) rfl) (pv 1) a0c (λ _ _=>rfl)) (a0a (pv 0) a0d))))))),?_⟩
  obtain⟨pd,L,lkv,rfl,hpd,hL,tL⟩:=a6k tr
  have ll:lkv.length=d.2.2.length:=by rw[tL.len,List.length_map]
  have sl:=c5e wo d l40
  refine⟨_,rfl,a,lvD wo d,dx,[],rfl,ha,rfl,_,rfl,pd,_,_,_,rfl,rfl,SqT.of hpd,rfl,_,_,rfl,.inl ⟨_,SqL.of hL,rfl⟩,_,_,rfl,?_⟩
  rw[ll]
  refine⟨_,rfl,(by omega),(by omega),f0l (k:=1) (fs:=[some (.ref pd)]) NdV _ (λ j=>some (d.1,(j:Int))) e9j rfl (by have:sizeLine=2 ^ 24:=rfl;omega) (λ j hj H2 ts R ss hts cont _=>?_) (λ D H2 ys hD s2 h2 pp=>q D H2 ys hD s2 h2 ?_)⟩
  ·obtain⟨t,rfl⟩:=List.length_eq_one_iff.mp hts
   refine⟨_,rfl,pd,_,_,_,rfl,rfl,SqT.of (ss _ _ hpd),rfl,_,rfl,(by show 2<=sizeLine;decide),λ n hn=>cont _ _ [_] _ rfl rfl (Same.upd hn) ⟨n,rfl,?_⟩⟩
   rw[a0b,Int.zero_add]
  ·unfold a1y
   rw[b7e] at pp
   exact pp
theorem e4a (T:Tx K mg):a4j P w K mg base (CXW P w) 4 T.c5j T.c1a ["history","word"] (e2y (cO T) T.a2k):=by
 refine d4z T.d1w b9o (λ vs H Q E h=>?_) (λ cdv A outer s H vs Q E hr h=>?_)
 ·obtain⟨v,p,wo,rfl,_⟩:=h
  rfl
 ·obtain⟨v,p,wo,rfl,tr,gp,fw,qy,qn⟩:=h
  have hu:=a9a hr
  refine⟨_,(a0e (a0n (i:=2) b9o.nd rfl (Or.inl rfl) (a0l ((c1c T).mono (by decide)) hr rfl T.b7z T.b2x.kp T.b7d .nil (e2o λ _ _ _ z=>z) (a0a (pv 0) (a0a (pv 1) a0d))))
   (a0e (a0n (i:=3) b9o.nd rfl (Or.inl rfl) (a1o a0d))
   (a0e (e4z (a2q PassesOwn.never rfl (a1t (a0m a0w (pv 0) a0c (λ _ _=>rfl))) (a0j (i:=4) b9o.nd rfl (Or.inl rfl))
   (a0g (a6l (b9f PySem.F.plainAttrs_list PySem.F.slot_list_extend PySem.F.type_list_extend d9n (pv 3) (a0a (a0l ((c4j T).mono (by decide)) hr rfl T.c2r T.b6t.kp T.c0h .nil a1l (a0a (pv 4) (a0a (a1f hu (pv 2) (a0m a0w (pv 4) a0c (λ _ _=>rfl)) (λ _ _=>rfl)) a0d))) a0d))))))
   (a0g (a0u (pv 3)))))),?_⟩
  by_cases hw:∀ x,wo=some x->x∈wds
  ·refine⟨_,rfl,_,rfl,v,p,wo,rfl,tr,gp,fw,λ _ e H1 s1 lh=>?_,λ x e n=>absurd (hw x e) n⟩
   refine⟨(by show 0<=sizeLine;decide),λ F hF=>?_⟩
   have hF0:=a0b (H:=H1) (a:=F) (o:=HO.lst [])
   have sF:=Same.upd (o:=HO.lst []) hF
   generalize upd H1 F (.lst [])=H1F at hF0 sF
   obtain⟨a,l,m,lv,mv,rfl,ha,hl,tl,_,_⟩:=a5r (tr.same s1)
   refine⟨_,rfl,a,_,_,_,rfl,rfl,SqT.of (sF _ _ ha),rfl,l,rfl,⟨_,SqL.of (sF _ _ hl)⟩,a4u (K:=K) (a:=l) (xs:=lv) (λ i σ H3=>∃ (x4:Option V) (ys:List V),σ=[some (.ref a),some (wV wo),some (.ref e),some (.ref F),x4]/\Same H1 H3/\H3 F=some (.lst ys)/\ys.length<=41*i/\Nds H3 ys ((p.1.take i).flatMap (a1y wo))) ⟨none,[],rfl,sF,hF0,Nat.le_refl _,.nil⟩ (λ i σ H3 _ ⟨_,_,_,s3,_⟩=>SqL.of (s3 _ _ hl)) ?_ ?_⟩
   ·rintro i y σ H3 hy ⟨x4,ys,rfl,s3,hF3,ly,pn⟩
    obtain⟨dd,edd,trd⟩:=tl.get hy
    rw[List.getElem?_map] at edd
    obtain⟨d,ed,rfl⟩:=Option.map_eq_some_iff.mp edd
    have hd:=List.mem_of_getElem? ed
    have hi8:i < 8:=by have:=(List.getElem?_eq_some_iff.mp ed).1;have:=gp.1;omega
    obtain⟨kvs,hk,vk⟩:=lh.same s3
    obtain⟨x,dx,vx,hx⟩:=vk d hd
    obtain⟨pd,L,lkv,rfl,hpd,_,_⟩:=a6k (trd.same s3)
    have dg:=b3y.k (k:=Sum.inl d.1) hk
    rw[vx] at dg
    refine⟨_,rfl,Or.inl ⟨rfl,_,SqL.of hF3⟩,_,rfl,_,rfl,_,rfl,pd,_,_,_,rfl,rfl,SqT.of hpd,rfl,e,_,rfl,dg,.ref pd,x,d,wo,dx,rfl,trd.same s3,hx,(gp.2.2 d hd).2,λ D H4 zs hD s4 h4 pz=>?_⟩
    have lz:zs.length<=41:=by
     rw[a6g pz]
     unfold a1y
     rw[List.length_map,List.length_range]
     have:=c5e wo d (gp.2.2 d hd).2
     omega
    refine⟨F,D,ys,zs,rfl,rfl,s4 _ _ hF3,h4,(by have:sizeLine=2 ^ 24:=rfl;omega),?_⟩
    have kn:=KN.upd (o:=HO.lst (ys++zs)) (s4 _ _ hF3)
    refine⟨_,_,rfl,λ b o eb=>?_,a0b,(by rw[List.length_append];omega),?_⟩
    ·rw[a0h (show b≠F from λ z=>by rw[z,hF] at eb;cases eb)]
     exact s4 _ _ (s3 _ _ eb)
    ·rw[List.take_add_one,ed,List.flatMap_append]
     refine a1x (e4p ((KN.of s4).trans kn) pn) ?_
     show Nds _ zs (List.flatMap (a1y wo) [d])
     rw[List.flatMap_cons,List.flatMap_nil,List.append_nil]
     exact e4p kn pz
   ·rintro σ H3 ⟨x4,ys,rfl,s3,hF3,ly,pn⟩
    have:lv.length=p.1.length:=by rw[tl.len,List.length_map]
    rw[this,List.take_length] at pn
    exact⟨_,rfl,qy hw F H3 ys (s1.free hF) (s1.trans s3) hF3 pn⟩
  ·cases wo with
   | none=>exact absurd (λ x e=>by cases e) hw
   | some x =>
    have hx:x ∉ wds:=λ z=>hw λ y ey=>by cases ey;exact z
    exact⟨_,rfl,_,rfl,v,p,some x,rfl,tr,gp,fw,λ h=>absurd (h x rfl) hx,λ y ey n H' s'=>by cases ey;exact qn x rfl n H' s'⟩
--@STAGE
def a6a (w:Option Str) (d:Dl):Nk:=(d.1,a5m (lvD w d) (d.2.2.length:Int) - 1)
def a6b (w:Option Str) (d:Dl):Nk:=(d.1,c4a (lvD w d) (d.2.2.length:Int))
def KpH (H:Hp) (e:Addr) (p:Ps) (f:Dl->Nk):Prop:=∃ kvs,H e=some (.dK kvs)/\∀ d∈p.1,∃ v,a4l kvs (.inl d.1)=some v/\NdV H v (f d)
theorem KpH.same {H H':Hp} (s:Same H H') {e:Addr} {p:Ps} {f:Dl->Nk} (h:KpH H e p f):KpH H' e p f:=let ⟨kvs,a,b⟩:=h;⟨kvs,s _ _ a,λ d hd=>let ⟨v,c,q,e,hq⟩:=b d hd;⟨v,c,q,e,s _ _ hq⟩⟩
def e0m (cls:Lv->Addr) (f:Option Str->Dl->Nk):Sp:=λ vs H Q _=>∃ (v:V) (e:Addr) (p:Ps) (w:Option Str),vs=[v,.ref e]/\Tr H v (a3j p)/\c3i p/\LvH cls H e w p/\∀ k H',Same H H'->KpH H' k p (f w)->Q (.ref k) H'
def b2k (r:Int->Int):List Nk->Bool
 | []=>true
 | (n,p)::t=>if p < r n then false else b2k (λ m=>if m=n then p else r m) t
def e7a:Sp:=λ vs H Q _=>∃ (o:Addr) (ys:List V) (os:List Nk),vs=[.ref o]/\H o=some (.lst ys)/\Nds H ys os/\os.length<=1000/\∀ H',Same H H'->Q (.bl (b2k (λ _=>0) os)) H'
def a3g (w:Option Str) (d:Dl) (pl:Int):List Lk:=(List.range d.2.2.length).filterMap λ (i:Nat)=>if b1u (lvD w d) (i:Int)=some pl then d.2.2[i]? else none
def d6y (cls:Lv->Addr):Sp:=λ vs H Q _=>∃ (v:V) (a:Addr) (pl:Int) (d:Dl) (w:Option Str) (dx:Addr),vs=[v,.ref a,.int pl]/\Tr H v (a1p d)/\H a=some (.ins (cls (lvD w d)) dx [])/\d.2.2.length<=40/\∀ D H' ys,H D=none->Same H H'->H' D=some (.lst ys)->Trs H' ys ((a3g w d pl).map a7m)->Q (.ref D) H'
def f0g (H:Hp) (m:Addr) (b:Nat) (c:Int->Option Int):Prop:=∃ kvs,H m=some (.dK kvs)/\kvs.length<=b/\∀ k,a4l kvs (.inl k)=(c k).map V.int
def b1h (c:Int->Option Int) (lk:Lk):Bool:=lk.all λ q=>decide ((c q.1).getD 0=q.2)
def e7t:Sp:=λ vs H Q _=>∃ (v:V) (m:Addr) (lk:Lk) (b:Nat) (c:Int->Option Int),vs=[v,.ref m]/\Tr H v (a7m lk)/\lk.length<=1000/\f0g H m b c/\∀ H',Same H H'->Q (.bl (b1h c lk)) H'
def b0l (w:Option Str) (p:Ps) (d:Dl) (pl:Int) (c:Int->Option Int):Int->Option Int:=if (d.1,pl)=a6a w d then λ k=>if (p.2.any λ r=>decide (r.1=k) && decide (d.1∈r.2))=true then some d.1 else c k else c
def c2e (p:Ps) (n:Int):Option Dl:=p.1.find? λ d=>decide (d.1=n)
def b4v (w:Option Str) (p:Ps) (c:Int->Option Int):List Nk->Bool
 | []=>true
 | (n,pl)::t=>match c2e p n with
  | some d=>if (a3g w d pl).all (b1h c)=true then b4v w p (b0l w p d pl c) t else false
  | none=>false
def d1v (p:Ps):Prop:=p.2.length<=100/\(∀ r∈p.2,r.2.length<=1000)/\∀ d∈p.1,∀ lk∈d.2.2,lk.length<=1000
def d2e (cls:Lv->Addr):Sp:=λ vs H Q _=>∃ (v:V) (o e:Addr) (p:Ps) (w:Option Str) (ys:List V) (os:List Nk),vs=[v,.ref o,.ref e]/\Tr H v (a3j p)/\c3i p/\d1v p/\LvH cls H e w p/\H o=some (.lst ys)/\Nds H ys os/\os.length<=1000/\(∀ q∈os,∃ d∈p.1,d.1=q.1)/\∀ H',Same H H'->Q (.bl (b4v w p (λ _=>none) os)) H'
def nbB (K F:Int->Nat):List Int->Bool
 | a::b::r=>if F b<=K a then false else nbB K F (b::r)
 | _=>true
def d2p (w:Option Str) (p:Ps) (os:List Nk) (n:Int):Nat:=match c2e p n with
 | some d=>os.idxOf (a6a w d)
 | none=>0
def d1b (w:Option Str) (p:Ps) (os:List Nk) (n:Int):Nat:=match c2e p n with
 | some d=>os.idxOf (a6b w d)
 | none=>0
def a9x (w:Option Str) (p:Ps) (os:List Nk):Bool:=p.2.all λ r=>nbB (d2p w p os) (d1b w p os) r.2
def d7p (cls:Lv->Addr):Sp:=λ vs H Q _=>∃ (v:V) (o e:Addr) (p:Ps) (w:Option Str) (ys:List V) (os:List Nk),vs=[v,.ref o,.ref e]/\Tr H v (a3j p)/\c3i p/\d1v p/\LvH cls H e w p/\H o=some (.lst ys)/\Nds H ys os/\os.length<=1000/\(∀ d∈p.1,a6a w d∈os/\a6b w d∈os)/\(∀ r∈p.2,∀ x∈r.2,∃ d∈p.1,d.1=x)/\∀ H',Same H H'->Q (.bl (a9x w p os)) H'
theorem d7r {α:Type} {xs:List α} {v:α} (h:xs[xs.length - 1]?=some v):atI xs (-1)=some v:=by
 have hl:=(List.getElem?_eq_some_iff.mp h).1
 unfold atI ixN
 rw[if_neg (by decide),if_pos (by omega)]
 have e:(-1+(xs.length:Int)).toNat=xs.length - 1:=by omega
 simpa [e] using h
theorem c0l {H:Hp} {v:V} {p:Pr} (h:Tr H v (b4p p)):∃ a,v=.ref a/\H a=some (.tup [.int p.1,.int p.2]):=by
 cases h with
 | tup h r =>
  cases r with
  | cons h1 r =>
   cases r with
   | cons h2 r =>
    cases r
    cases h1
    cases h2
    exact⟨_,rfl,h⟩
theorem b1a {H:Hp} {v:V} {ds:List PyData} (h:Tr H v (.list ds)):∃ a xs,v=.ref a/\H a=some (.lst xs)/\Trs H xs ds:=by
 cases h with
 | lst h r=>exact⟨_,_,rfl,h,r⟩
def NpV (f:Dl->Nk) (H:Hp) (y:V) (d:Dl):Prop:=∃ t v,y=.ref t/\H t=some (.tup [.int d.1,v])/\NdV H v (f d)
theorem e5j (f:Dl->Nk):∀ H H' y d,KN H H'->NpV f H y d->NpV f H' y d:=λ H H' y d k ⟨t,v,e,h1,q,e2,h2⟩=>⟨t,v,e,k _ _ (λ _ z=>by cases z) h1,q,e2,k _ _ (λ _ z=>by cases z) h2⟩
theorem d1u {K:PySem.W.Frag} {f:Dl->Nk} {H:Hp}:∀ {ys:List V} {ds:List Dl},Paired (NpV f H) ys ds->∃ ps:List (Key×V),d6q K H ys ps/\ps.map (·.1)=ds.map (λ d=>Sum.inl d.1)/\∀ d∈ds,∃ v,(Sum.inl d.1,v)∈ps/\NdV H v (f d)
 | _,_,.nil=>⟨[],.nil,rfl,λ d hd=>by cases hd⟩
 | _,_,.cons (b:=d0) h t=>by
  obtain⟨ps,h1,h2,h3⟩:=d1u t
  obtain⟨t',v,rfl,ht,hv⟩:=h
  refine⟨(.inl d0.1,v)::ps,.cons (SqT.of ht) h1,by rw[List.map_cons,List.map_cons,h2],λ d hd=>?_⟩
  rcases List.mem_cons.mp hd with e | e
  ·rw[e];exact⟨v,.head _,hv⟩
  ·obtain⟨v',m,hv'⟩:=h3 d e
   exact⟨v',.tail _ m,hv'⟩
theorem d3q {ds:List Dl} (nn:(ds.map (·.1)).Nodup):(ds.map (λ d=>(Sum.inl d.1:Key))).Nodup:=List.pairwise_map.mpr (List.Pairwise.imp (λ z e=>z (Sum.inl.inj e)) (List.pairwise_map.mp nn))
theorem b4s {p:Ps} (nn:(p.1.map (·.1)).Nodup) {d:Dl} (h:d∈p.1):c2e p d.1=some d:=by
 unfold c2e
 generalize p.1=l at *
 induction l with
 | nil=>cases h
 | cons x r ih =>
  obtain⟨n1,n2⟩:=List.nodup_cons.mp nn
  rw[List.find?_cons]
  by_cases z:x.1=d.1
  ·rw[decide_eq_true z]
   rcases List.mem_cons.mp h with e | e
   ·rw[e]
   ·exact absurd (List.mem_map.mpr ⟨d,e,z.symm⟩) n1
  ·rw[decide_eq_false z]
   rcases List.mem_cons.mp h with e | e
   ·exact absurd (by rw[e]) z
   ·exact ih n2 e
theorem d9y {α:Type} (as:List α) (f:α->Bool):as.filterMap (λ a=>some (V.bl (f a)))=(as.map f).map V.bl:=by rw[List.map_map,<-List.filterMap_eq_map];rfl
theorem e0e {α:Type} (as:List α) (f:α->Bool):(as.map f).all id=as.all f:=by rw[List.all_map];rfl
theorem d5w (a b:Int):decide (V.int a=V.int b)=decide (a=b):=by
 by_cases h:a=b
 ·rw[h];simp
 ·rw[decide_eq_false h,decide_eq_false (λ e=>h (by injection e))]
theorem e4d (l:Lv) (i:Int) (pl:Int):decide (f1z (b1u l i)=V.int pl)=decide (b1u l i=some pl):=by
 cases b1u l i with
 | none=>rw[decide_eq_false (λ z=>by cases z),decide_eq_false (λ z=>by cases z)]
 | some k =>
  show decide (V.int k=V.int pl)=_
  rw[d5w]
  by_cases h:k=pl
  ·rw[h];simp
  ·rw[decide_eq_false h,decide_eq_false (λ e=>h (Option.some.inj e))]
theorem e1o (l:Lv) (i pl:Int):f1p (f1z (b1u l i)) (.int pl)=true:=by
 cases b1u l i<;>rfl
theorem d3l {H:Hp} {xs:List V} {lks:List Lk} (h:Trs H xs (lks.map a7m)) (p:Nat->Bool):∀ n,n<=lks.length->Trs H ((List.range n).filterMap λ i=>if p i=true then xs[i]? else none) (((List.range n).filterMap λ i=>if p i=true then lks[i]? else none).map a7m)
 | 0,_=>.nil
 | n+1,hn=>by
  rw[List.range_succ,List.filterMap_append,List.filterMap_append,List.map_append]
  refine(d3l h p n (by omega)).app ?_
  obtain⟨lk,hlk⟩:∃ lk,lks[n]?=some lk:=⟨_,List.getElem?_eq_getElem (by omega)⟩
  obtain⟨v,hv,tv⟩:=h.at (i:=n) (d:=a7m lk) (by rw[List.getElem?_map,hlk];rfl)
  by_cases z:p n=true
  ·simp only [List.filterMap_cons,List.filterMap_nil,if_pos z,hv,hlk]
   exact .cons tv .nil
  ·simp only [List.filterMap_cons,List.filterMap_nil,if_neg z]
   exact .nil
theorem f1b (a b:Nk):PyData.eqv (dN a) (dN b)=decide (a=b):=by
 by_cases h:a=b
 ·subst h
  rw[decide_eq_true rfl]
  exact SeqAt.eqv_refl _ rfl
 ·rw[decide_eq_false h]
  show ((a.1 == b.1) && ((a.2 == b.2) && true))=false
  by_cases h1:a.1=b.1
  ·have h2:a.2≠b.2:=λ z=>h (Prod.ext h1 z)
   rw[beq_eq_false_iff_ne.mpr h2,Bool.false_and,Bool.and_false]
  ·rw[beq_eq_false_iff_ne.mpr h1,Bool.false_and]
theorem c3u (n:Int):∀ (l:List Mkr) (kvs:List (Key×V)) (k:Int),a4l (a6d kvs (l.map λ r=>(Sum.inl r.1,V.int n))) (.inl k)=if (l.any λ r=>decide (r.1=k))=true then some (.int n) else a4l kvs (.inl k)
 | [],kvs,k=>rfl
 | r::t,kvs,k=>by
  show a4l (a6d (a6v kvs (.inl r.1) (.int n)) (t.map λ r=>(Sum.inl r.1,V.int n))) (.inl k)=_
  rw[c3u n t,a8l,List.any_cons]
  by_cases h:(t.any λ r=>decide (r.1=k))=true
  ·rw[if_pos h,h,Bool.or_true,if_pos rfl]
  ·rw[if_neg h,Bool.eq_false_iff.mpr h,Bool.or_false]
   by_cases z:r.1=k
   ·rw[if_pos (congrArg Sum.inl z.symm),if_pos (decide_eq_true z)]
   ·rw[if_neg (λ y=>z (Sum.inl.inj y).symm),if_neg (by rw[decide_eq_true_eq];exact z)]
theorem d5z (p:Ps) (n k:Int):((p.2.filter λ r=>decide (n∈r.2)).any λ r=>decide (r.1=k))=p.2.any λ r=>decide (r.1=k) && decide (n∈r.2):=by
 generalize p.2=l
 induction l with
 | nil=>rfl
 | cons r t ih =>
  rw[List.filter_cons,List.any_cons]
  by_cases z:n∈r.2
  ·rw[if_pos (decide_eq_true z),List.any_cons,ih,decide_eq_true z,Bool.and_true]
  ·rw[if_neg (by rw[decide_eq_true_eq];exact z),ih,decide_eq_false z,Bool.and_false,Bool.false_or]
theorem NdV.sm {H H':Hp} (s:Same H H') {v:V} {q:Nk} (h:NdV H v q):NdV H' v q:=let ⟨p,e,hp⟩:=h;⟨p,e,s _ _ hp⟩
theorem c1b {H:Hp} {v:V} {m:Mkr} (h:Tr H v (a4z m)):∃ a l,v=.ref a/\H a=some (.tup [.int m.1,.ref l])/\H l=some (.lst (m.2.map V.int)):=by
 cases h with
 | tup h r =>
  cases r with
  | cons h1 r =>
   cases r with
   | cons h2 r =>
    cases r
    cases h1
    obtain⟨a,xs,rfl,ha,hx⟩:=b1a h2
    rw[hx.ints] at ha
    exact⟨_,a,rfl,h,ha⟩
theorem c9h {K:PySem.W.Frag} {H:Hp} {n:Int}:∀ {ws:List V} {l:List Mkr},Paired (λ v (r:Mkr)=>∃ b,v=.ref b/\H b=some (.tup [.int r.1,.int n])) ws l->d6q K H ws (l.map λ r=>(.inl r.1,.int n))
 | _,_,.nil=>.nil
 | _,_,.cons ⟨_,e,hb⟩ t=>by
  subst e
  exact .cons (SqT.of hb) (c9h t)
theorem d1k (q:Mkr->Bool):∀ l:List Mkr,l.filterMap (λ r=>if q r=true then some r else none)=l.filter q
 | []=>rfl
 | x::t=>by
  rw[List.filterMap_cons,List.filter_cons]
  by_cases y:q x=true
  ·rw[if_pos y,if_pos y,d1k q t]
  ·rw[if_neg y,if_neg y,d1k q t]
theorem f0g.same {H H':Hp} (s:Same H H') {m:Addr} {b:Nat} {c:Int->Option Int} (h:f0g H m b c):f0g H' m b c:=let ⟨kvs,h1,h2⟩:=h;⟨kvs,s _ _ h1,h2⟩
def a6z (ds:List Dl) (xs:List V):List (Key×V):=(ds.zip xs).map λ q=>(.inl q.1.1,q.2)
theorem c4x {H:Hp}:∀ {ds:List Dl} {xs:List V},Trs H xs (ds.map a1p)->Paired (λ v (a:Dl×V)=>v=a.2/\Tr H v (a1p a.1)) xs (ds.zip xs)
 | [],_,h=>by cases h;exact .nil
 | d::r,_,h=>by
  cases h with
  | cons h t=>exact .cons ⟨rfl,h⟩ (c4x t)
theorem c9w {K:PySem.W.Frag} {H:Hp}:∀ {ws:List V} {l:List (Dl×V)},Paired (λ v (a:Dl×V)=>∃ b,v=.ref b/\H b=some (.tup [.int a.1.1,a.2])) ws l->d6q K H ws (l.map λ q=>(.inl q.1.1,q.2))
 | _,_,.nil=>.nil
 | _,_,.cons ⟨_,e,hb⟩ t=>by
  subst e
  exact .cons (SqT.of hb) (c9w t)
theorem b8u {ds:List Dl} {xs:List V} (h:xs.length=ds.length):(a6z ds xs).map (·.1)=ds.map λ d=>(Sum.inl d.1:Key):=by
 unfold a6z
 rw[List.map_map]
 have:(ds.zip xs).map Prod.fst=ds:=by rw[List.map_fst_zip];omega
 conv=>rhs;rw[<-this,List.map_map]
 rfl
theorem d6j {H:Hp} {ds:List Dl} {xs:List V} (tl:Trs H xs (ds.map a1p)) (nn:(ds.map (·.1)).Nodup) {d:Dl} (hd:d∈ds):∃ v,a4l (a6z ds xs) (.inl d.1)=some v/\Tr H v (a1p d):=by
 have hl:xs.length=ds.length:=by rw[tl.len,List.length_map]
 obtain⟨i,hi⟩:=List.mem_iff_getElem?.mp hd
 obtain⟨v,hv,tv⟩:=tl.at (i:=i) (d:=a1p d) (by rw[List.getElem?_map,hi];rfl)
 refine⟨v,b3g (by rw[b8u hl];exact d3q nn) (List.mem_map.mpr ⟨(d,v),List.mem_of_getElem? (List.getElem?_zip_eq_some.mpr ⟨hi,hv⟩),rfl⟩),tv⟩
theorem e8v {K F:Int->Nat} {l:List Int} (h:l.length<=1):nbB K F l=true:=by
 match l,h with
 | [],_=>rfl
 | [x],_=>rfl
theorem d5g {kvs:List (Key×V)} {p:Ps} {f:Dl->Nk} {H:Hp} (h:∀ d∈p.1,∃ v,a4l kvs (.inl d.1)=some v/\NdV H v (f d)) {x:Int} (hx:∃ d∈p.1,d.1=x):∃ d v,d∈p.1/\d.1=x/\a4l kvs (.inl x)=some v/\NdV H v (f d):=by
 obtain⟨d,hd,rfl⟩:=hx
 obtain⟨v,h1,h2⟩:=h d hd
 exact⟨d,v,hd,rfl,h1,h2⟩
theorem a4m {H H':Hp} (s:Same H H') {ys:List V} {ns:List Nk} (h:Nds H ys ns):Nds H' ys ns:=Paired.imp' (λ _ _ x=>NdV.sm s x) h
theorem e7x (xs:List V):a8g xs (some 1) none=xs.drop 1:=by
 unfold a8g
 rw[show (some (1:Int))=some ((1:Nat):Int) from rfl,HT.sIx_nat,HT.sIx_none]
 by_cases h:1<=xs.length
 ·rw[Nat.min_eq_left h,List.take_of_length_le (by rw[List.length_drop];exact Nat.le_refl _)]
 ·rw[List.drop_eq_nil_of_le (show xs.length<=min 1 xs.length by omega),List.drop_eq_nil_of_le (show xs.length<=1 by omega),List.take_nil]
theorem c3v (T:Tx K mg):a4j P w K mg base CX0 3 T.b6h T.b6d ["past","levels"] (e0m (cO T) a6a):=by
 refine T.b5k.ok d5k (λ vs H Q E h=>?_) (λ cdv A outer s H vs Q E hr h=>?_)
 ·obtain⟨v,e,p,wo,rfl,_⟩:=h
  rfl
 ·obtain⟨v,e,p,wo,rfl,tr,gp,lh,q⟩:=h
  have hu:=a9a hr
  refine⟨_,(a0g (a0u (a2i (a7r (K:=K) rfl rfl) (by rfl) T.b6b boot_dict (a0a (a3k ["deal"] rfl (a3c.mk (fv:=["levels"]) (js:=[1]) rfl (by decide +kernel) (by decide +kernel) (by decide +kernel) (a1n (Or.inl rfl) a2n) rfl (by decide +kernel)) (a1t (a0m a0w (pv 0) a0c (λ _ _=>rfl))) (λ _ _ _ _ _=>(a0j (i:=0) (show (["deal","levels"]:List Str).Nodup by decide +kernel) rfl (Or.inl rfl))) (λ _ _ _ _ _=>a9r) (λ _ _ _ _ _=>(a2b (a0a (a0m (a2r (K:=K) rfl) (pv 0) a0c (λ _ _=>rfl)) (a0a (a0m (b5t (K:=K) rfl) (a0l ((c4j T).mono (by decide)) hr rfl T.c2r T.b6t.kp T.c0h .nil a1l (a0a (pv 0) (a0a (a1f hu (pv 1) (a0m (a2r (K:=K) rfl) (pv 0) a0c (λ _ _=>rfl)) (λ _ _=>rfl)) a0d))) (d5j c4e a0c) (λ _ _=>rfl)) a0d))))) a0d)))),?_⟩
  obtain⟨l8,nn,gd⟩:=gp
  obtain⟨a,l,m,lv,mv,rfl,ha,hl,tl,_,_⟩:=a5r tr
  refine⟨_,rfl,a,_,_,_,rfl,rfl,SqT.of ha,rfl,l,rfl,⟨_,SqL.of hl⟩,c8m (k:=1) (fs:=[some (.ref e)]) (NpV (a6a wo)) (λ H v d=>Tr H v (a1p d)) p.1 some (e5j _) (λ _ _ _ _ ss z=>z.same ss) rfl hl (a9o tl) (by have:sizeLine=2 ^ 24:=rfl;omega) (λ d hd H2 ts v R ss hts trd cont _=>?_) λ D H2 ys hD s2 h2 pp=>?_⟩
  ·obtain⟨t,rfl⟩:=List.length_eq_one_iff.mp hts
   obtain⟨pd,L,lkv,rfl,hpd,_,_⟩:=a6k trd
   obtain⟨kvs,hk,vk⟩:=lh.same ss
   obtain⟨x,dx,vx,hx⟩:=vk d hd
   have dg:=b3y.k (k:=Sum.inl d.1) hk
   rw[vx] at dg
   refine⟨_,rfl,pd,_,_,_,rfl,rfl,SqT.of hpd,rfl,_,rfl,_,rfl,_,rfl,pd,_,_,_,rfl,rfl,SqT.of hpd,rfl,e,_,rfl,dg,.ref pd,x,d,wo,dx,rfl,trd,hx,(gd d hd).2,λ D3 H3 ys3 hD3 s3 h3 pn=>?_⟩
   have sl:=c5e wo d (gd d hd).2
   have hpos:1<=a5m (lvD wo d) (d.2.2.length:Int):=by
    generalize lvD wo d=lv0
    cases lv0<;>simp only [a5m]<;>omega
   have hlen:ys3.length=(a5m (lvD wo d) (d.2.2.length:Int)).toNat:=by
    rw[a6g pn]
    unfold a1y
    rw[List.length_map,List.length_range]
   obtain⟨yl,hyl⟩:∃ yl,ys3[ys3.length - 1]?=some yl:=⟨_,List.getElem?_eq_getElem (by omega)⟩
   obtain⟨nk,enk,hnk⟩:=a2a pn hyl
   have ek:nk=a6a wo d:=by
    unfold a1y at enk
    rw[List.getElem?_map,List.getElem?_range (by omega)] at enk
    have:=(Option.some.inj enk).symm
    rw[this]
    unfold a6a
    refine Prod.ext rfl ?_
    show ((ys3.length - 1:Nat):Int)=_
    omega
   rw[ek] at hnk
   refine⟨_,rfl,D3,ys3,_,yl,rfl,rfl,SqL.of h3,d7r hyl,(by show 2<=sizeLine;decide),λ t ht=>cont d _ [_] _ rfl rfl (s3.trans (Same.upd ht)) ⟨t,yl,rfl,a0b,?_⟩⟩
   obtain⟨qn,eq,hq⟩:=hnk
   exact⟨qn,eq,Same.upd ht _ _ hq⟩
  ·rw[List.filterMap_some] at pp
   obtain⟨ps,pr,pk,pv⟩:=d1u (K:=K) pp
   have lps:ps.length=p.1.length:=by have:=congrArg List.length pk;simpa using this
   have nd:(ps.map (·.1)).Nodup:=by rw[pk];exact d3q nn
   refine⟨D,ys,ps,rfl,h2,pr,(by omega),λ k hk=>q k _ (s2.trans (Same.upd hk)) ⟨_,a0b,λ d hd=>?_⟩⟩
   rw[b2b ps [] (by simpa using nd)]
   obtain⟨v,hm,qn,eq,hq⟩:=pv d hd
   exact⟨v,b3g nd hm,qn,eq,Same.upd hk _ _ hq⟩
theorem d2g (T:Tx K mg):a4j P w K mg base CX0 2 T.b3h T.b2u ["past","levels"] (e0m (cO T) a6b):=by
 refine T.b7q.ok d2y (λ vs H Q E h=>?_) (λ cdv A outer s H vs Q E hr h=>?_)
 ·obtain⟨v,e,p,wo,rfl,_⟩:=h
  rfl
 ·obtain⟨v,e,p,wo,rfl,tr,gp,lh,q⟩:=h
  have hu:=a9a hr
  refine⟨_,(a0g (a0u (a2i (a7r (K:=K) rfl rfl) (by rfl) T.b6b boot_dict (a0a (a3k ["deal"] rfl (a3c.mk (fv:=["levels"]) (js:=[1]) rfl (by decide +kernel) (by decide +kernel) (by decide +kernel) (a1n (Or.inl rfl) a2n) rfl (by decide +kernel)) (a1t (a0m a0w (pv 0) a0c (λ _ _=>rfl))) (λ _ _ _ _ _=>(a0j (i:=0) (show (["deal","levels"]:List Str).Nodup by decide +kernel) rfl (Or.inl rfl))) (λ _ _ _ _ _=>a9r) (λ _ _ _ _ _=>(a2b (a0a (a0m (a2r (K:=K) rfl) (pv 0) a0c (λ _ _=>rfl)) (a0a (a2b (a0a (a0m (a2r (K:=K) rfl) (pv 0) a0c (λ _ _=>rfl)) (a0a (c6s (a1f hu (pv 1) (a0m (a2r (K:=K) rfl) (pv 0) a0c (λ _ _=>rfl)) (λ _ _=>rfl)) (c7i T) (hr.mono (by decide)) (a0a (a1a (d9k (K:=K) rfl) (by rfl) T.a5u boot_len (a0a (a0m (a2r (K:=K) rfl) (pv 0) a0c (λ _ _=>rfl)) a0d)) a0d)) a0d))) a0d))))) a0d)))),?_⟩
  obtain⟨l8,nn,gd⟩:=gp
  obtain⟨a,l,m,lv,mv,rfl,ha,hl,tl,_,_⟩:=a5r tr
  refine⟨_,rfl,a,_,_,_,rfl,rfl,SqT.of ha,rfl,l,rfl,⟨_,SqL.of hl⟩,c8m (k:=1) (fs:=[some (.ref e)]) (NpV (a6b wo)) (λ H v d=>Tr H v (a1p d)) p.1 some (e5j _) (λ _ _ _ _ ss z=>z.same ss) rfl hl (a9o tl) (by have:sizeLine=2 ^ 24:=rfl;omega) (λ d hd H2 ts v R ss hts trd cont _=>?_) λ D H2 ys hD s2 h2 pp=>?_⟩
  ·obtain⟨t,rfl⟩:=List.length_eq_one_iff.mp hts
   obtain⟨pd,L,lkv,rfl,hpd,hL,tL⟩:=a6k trd
   have ll:lkv.length=d.2.2.length:=by rw[tL.len,List.length_map]
   obtain⟨kvs,hk,vk⟩:=lh.same ss
   obtain⟨x,dx,vx,hx⟩:=vk d hd
   have dg:=b3y.k (k:=Sum.inl d.1) hk
   rw[vx] at dg
   refine⟨_,rfl,pd,_,_,_,rfl,rfl,SqT.of hpd,rfl,_,rfl,pd,_,_,_,rfl,rfl,SqT.of hpd,rfl,_,rfl,_,rfl,pd,_,_,_,rfl,rfl,SqT.of hpd,rfl,e,_,rfl,dg,x,lvD wo d,dx,[],rfl,hx,rfl,_,rfl,pd,_,_,_,rfl,rfl,SqT.of hpd,rfl,_,_,rfl,.inl ⟨_,SqL.of hL,rfl⟩,_,_,rfl,?_⟩
   rw[ll]
   refine⟨(by show 2<=sizeLine;decide),λ t ht=>⟨(by show 2<=sizeLine;decide),λ t2 ht2=>cont d _ [_] _ rfl rfl ((Same.upd ht).trans (Same.upd ht2)) ⟨t2,.ref t,rfl,a0b,t,rfl,Same.upd ht2 _ _ a0b⟩⟩⟩
  ·rw[List.filterMap_some] at pp
   obtain⟨ps,pr,pk,pv⟩:=d1u (K:=K) pp
   have lps:ps.length=p.1.length:=by have:=congrArg List.length pk;simpa using this
   have nd:(ps.map (·.1)).Nodup:=by rw[pk];exact d3q nn
   refine⟨D,ys,ps,rfl,h2,pr,(by omega),λ k hk=>q k _ (s2.trans (Same.upd hk)) ⟨_,a0b,λ d hd=>?_⟩⟩
   rw[b2b ps [] (by simpa using nd)]
   obtain⟨v,hm,qn,eq,hq⟩:=pv d hd
   exact⟨v,b3g nd hm,qn,eq,Same.upd hk _ _ hq⟩
theorem b9c (T:Tx K mg):a4j P w K mg base CX0 1 T.a5y T.a5l ["order"] e7a:=by
 refine T.a7z.ok a7a (λ vs H Q E h=>?_) (λ cdv A outer s H vs Q E hr h=>?_)
 ·obtain⟨o,ys,os,rfl,_⟩:=h
  rfl
 ·obtain⟨o,ys,os,rfl,ho,hn,hz,q⟩:=h
  have hu:=a9a hr
  refine⟨_,(a0e (a0n (i:=1) a7a.nd rfl (Or.inl rfl) a7f)
   (a0e (a2q PassesOwn.never rfl (a1t (pv 0)) (a0j (i:=2) a7a.nd rfl (Or.inl rfl))
   (a0e (a3r (a0t c9c (a0m a0w (pv 2) a0c (λ _ _=>rfl)) (b3w hu (pv 1) (a0m a0w (pv 2) a0c (λ _ _=>rfl)) a0c ⟨rfl,rfl,rfl,rfl⟩) (a0z _))
   (a0g (a0u b2a))
   a1d)
   (a0g (a7t hu (pv 1) (a0m a0w (pv 2) a0c (λ _ _=>rfl)) (a0m a0w (pv 2) a0c (λ _ _=>rfl)) rfl))))
   (a0g (a0u b2a)))),?_⟩
  have z9:(2000:Nat)<=sizeLine:=by decide
  have hyl:=a6g hn
  intro d hd
  have s0:=Same.upd (o:=HO.dK []) hd
  refine⟨_,rfl,o,rfl,⟨_,SqL.of (s0 _ _ ho)⟩,a4u (K:=K) (a:=o) (xs:=ys) (λ i σ H2=>Same H H2/\∃ (x2:Option V) (kvs:List (Key×V)) (r:Int->Int),σ=[some (.ref o),some (.ref d),x2]/\H2 d=some (.dK kvs)/\kvs.length<=i/\(∀ n,(a4l kvs (.inl n)).getD (.int 0)=.int (r n))/\b2k (λ _=>0) os=b2k r (os.drop i)) ⟨s0,none,[],λ _=>0,rfl,a0b,Nat.le_refl _,(λ n=>rfl),rfl⟩ (λ i σ H2 _ ⟨ss,_⟩=>SqL.of (ss _ _ ho)) ?_ ?_⟩
  ·rintro i y σ H2 hy ⟨ss,x2,kvs,r,rfl,hdk,hkl,hr0,hc⟩
   have hi:i < ys.length:=(List.getElem?_eq_some_iff.mp hy).1
   obtain⟨⟨n,pl⟩,hnp,c,rfl,hcN⟩:=a2a hn hy
   have hdr:os.drop i=(n,pl)::os.drop (i+1):=by rw[List.drop_eq_getElem_cons (List.getElem?_eq_some_iff.mp hnp).1,(List.getElem?_eq_some_iff.mp hnp).2]
   rw[hdr] at hc
   have hcN2:=ss _ _ hcN
   refine⟨_,rfl,c,_,_,_,rfl,rfl,SqT.of hcN2,a0i (j:=1) rfl,_,rfl,d,rfl,.inl ⟨_,.inl hdk⟩,_,rfl,c,_,_,_,rfl,rfl,SqT.of hcN2,a0i (j:=0) rfl,_,.inl ⟨kvs,.inl n,.inl hdk,rfl,rfl⟩,?_⟩
   rw[hr0 n]
   refine⟨_,_,rfl,rfl,_,rfl,b1n (λ e=>?_) (λ e=>?_)⟩
   ·have e':=of_decide_eq_true e
    have:b2k (λ _=>0) os=false:=by
     rw[hc]
     show (if pl < r n then false else _)=false
     rw[if_pos e']
    have q:=q H2 ss
    rw[this] at q
    exact q
   ·have e':¬ pl < r n:=λ z=>e (decide_eq_true z)
    refine⟨_,rfl,c,_,_,_,rfl,rfl,SqT.of hcN2,a0i (j:=1) rfl,_,rfl,_,rfl,c,_,_,_,rfl,rfl,SqT.of hcN2,a0i (j:=0) rfl,d,_,rfl,d5t.k (k:=.inl n) hdk (by omega),λ b o e=>by rw[a0h (λ z=>by rw[z,hd] at e;cases e)];exact ss _ _ e,_,_,λ m=>if m=n then pl else r m,rfl,a0b,(Nat.le_trans (a3z kvs (.inl n) _) (by omega)),λ m=>?_,?_⟩
    ·rw[a8l]
     show _=V.int (if m=n then pl else r m)
     by_cases z:m=n
     ·rw[if_pos (congrArg Sum.inl z),if_pos z];rfl
     ·rw[if_neg (λ y=>z (Sum.inl.inj y)),if_neg z]
      exact hr0 m
    ·rw[hc]
     show (if pl < r n then false else _)=_
     rw[if_neg e']
  ·rintro σ H2 ⟨ss,x2,kvs,r,rfl,hdk,hkl,hr0,hc⟩
   rw[hyl,List.drop_length] at hc
   have q:=q H2 ss
   rw[hc] at q
   exact q
theorem d6d (T:Tx K mg):a4j P w K mg base CX0 2 T.b5x T.b6l ["deal","level","place"] (d6y (cO T)):=by
 refine T.c3c.ok d5u (λ vs H Q E h=>?_) (λ cdv A outer s H vs Q E hr h=>?_)
 ·obtain⟨v,a,pl,d,wo,dx,rfl,_⟩:=h
  rfl
 ·obtain⟨v,a,pl,d,wo,dx,rfl,tr,ha,l40,q⟩:=h
  have hu:=a9a hr
  refine⟨_,(a0g (a0u (a3k ["counted","look"] rfl (a3c.mk (fv:=["level","place"]) (js:=[1,2]) rfl (by decide +kernel) (by decide +kernel) (by decide +kernel) (a1n (Or.inl rfl) (a1n (Or.inl rfl) a2n)) rfl (by decide +kernel)) (e8j rfl T.b0f (a0a (a0m a0w (pv 0) a0c (λ _ _=>rfl)) a0d)) (λ _ _ _ _ _=>(c2j (K:=K) (n:=2) rfl rfl (a0s (a0j (i:=0) (show (["counted","look","level","place"]:List Str).Nodup by decide +kernel) rfl (Or.inl rfl)) (a0s (a0j (i:=1) (show (["counted","look","level","place"]:List Str).Nodup by decide +kernel) rfl (Or.inl rfl)) a4n)))) (λ _ _ _ _ _=>(c9j (a0t a7v (c6s (pv 2) (c8v T) (hr.mono (by decide)) (a0a (pv 0) a0d)) (pv 3) (a0z _)))) (λ _ _ _ _ _=>(pv 1))))),?_⟩
  obtain⟨pd,L,lkv,rfl,hpd,hL,tL⟩:=a6k tr
  have ll:lkv.length=d.2.2.length:=by rw[tL.len,List.length_map]
  have z9:(2000:Nat)<=sizeLine:=by decide
  refine⟨_,rfl,pd,_,_,_,rfl,rfl,SqT.of hpd,rfl,L,lkv,rfl,hL,b6z (k:=2) (fs:=[some (.ref a),some (.int pl)]) d.2.2.length (λ i=>if decide (b1u (lvD wo d) (i:Int)=some pl)=true then lkv[i]? else none) rfl (by omega) (λ i H2 ss hi=>⟨lkv,lkv[i],SqL.of (ss _ _ hL),List.getElem?_eq_getElem (by omega)⟩) (λ H2 ss=>⟨lkv,SqL.of (ss _ _ hL),ll⟩) ?_ λ D H2 hD ss hd=>?_⟩
  ·rintro i H2 ts v H3 R ss hi hts ⟨t,x,hx,rfl,ht,rfl⟩ cont
   obtain⟨t1,t2,rfl⟩:∃ a b,ts=[a,b]:=by match ts,hts with | [a,b],_=>exact⟨a,b,rfl⟩
   have hx':=hx lkv (SqL.of (ss _ _ hL))
   have st:=Same.upd (o:=HO.tup [.int (i:Int),x]) ht
   have cont':=cont [some (.int (i:Int)),some x] _ rfl st
   refine⟨t,_,rfl,SqT.of a0b,rfl,_,_,rfl,_,_,rfl,rfl,_,rfl,a,lvD wo d,dx,[],rfl,st _ _ (ss _ _ ha),rfl,_,rfl,_,_,rfl,_,rfl,e1o _ _ _,_,rfl,?_⟩
   rw[e4d]
   refine b1n (λ y=>?_) (λ y=>?_)
   ·have c2:R (lkv[i]?) _ _:=(if_pos (α:=Option V) y) ▸ cont'
    rw[hx'] at c2
    exact⟨_,rfl,c2⟩
   ·have c2:R none _ _:=(if_neg (α:=Option V) y) ▸ cont'
    exact c2
  ·have e:a3g wo d pl=(List.range d.2.2.length).filterMap λ (i:Nat)=>if decide (b1u (lvD wo d) (i:Int)=some pl)=true then d.2.2[i]? else none:=by
    unfold a3g
    congr 1
    funext i
    by_cases z:b1u (lvD wo d) (i:Int)=some pl
    ·rw[if_pos z,if_pos (decide_eq_true z)]
    ·rw[if_neg z,if_neg (by rw[decide_eq_true_eq];exact z)]
   refine q D H2 _ hD ss hd ?_
   rw[e]
   exact d3l (tL.same ss) (λ i=>decide (b1u (lvD wo d) (i:Int)=some pl)) d.2.2.length (Nat.le_refl _)
theorem e1z (T:Tx K mg):a4j P w K mg base CX0 1 T.c7h T.c6g ["look","makers"] e7t:=by
 refine T.d1t.ok e4g (λ vs H Q E h=>?_) (λ cdv A outer s H vs Q E hr h=>?_)
 ·obtain⟨v,m,lk,b0,c,rfl,_⟩:=h
  rfl
 ·obtain⟨v,m,lk,b0,c,rfl,tr,hz,hc,q⟩:=h
  have hu:=a9a hr
  refine⟨_,(a0g (a0u (a1a (d0o rfl) (by rfl) T.e0b boot_all (a0a (a3k ["pair"] rfl (a3c.mk (fv:=["makers"]) (js:=[1]) rfl (by decide +kernel) (by decide +kernel) (by decide +kernel) (a1n (Or.inl rfl) a2n) rfl (by decide +kernel)) (a1t (pv 0)) (λ _ _ _ _ _=>(a0j (i:=0) (show (["pair","makers"]:List Str).Nodup by decide +kernel) rfl (Or.inl rfl))) (λ _ _ _ _ _=>a9r) (λ _ _ _ _ _=>(b7j a7v (b3w hu (pv 1) (a0m (a2r (K:=K) rfl) (pv 0) a0c (λ _ _=>rfl)) (d3f (v:=V.int (0)) rfl T.d8f ⟨_,rfl⟩) ⟨rfl,rfl,rfl,rfl⟩) (a0m (a2r (K:=K) rfl) (pv 0) a0c (λ _ _=>rfl)) (a0z _)))) a0d)))),?_⟩
  have z9:(2000:Nat)<=sizeLine:=by decide
  obtain⟨kvs,hm,_,hv⟩:=hc
  cases tr with
  | @lst a xs ds ha hx =>
   refine⟨_,rfl,a,rfl,⟨_,SqL.of ha⟩,e8c (k:=1) (fs:=[some (.ref m)]) lk b4p (λ r=>some (.bl (decide ((c r.1).getD 0=r.2)))) rfl ha hx (by omega) (λ r hr' H2 ts v R ss hts tr2 cont=>?_) λ D H2 hD ss hd=>?_⟩
   ·obtain⟨t,rfl⟩:=List.length_eq_one_iff.mp hts
    obtain⟨b,rfl,hb⟩:=c0l tr2
    refine⟨_,rfl,m,rfl,.inl ⟨_,.inl (ss _ _ hm)⟩,_,rfl,b,_,_,_,rfl,rfl,SqT.of hb,a0i (j:=0) rfl,_,.inl ⟨kvs,.inl r.1,.inl (ss _ _ hm),rfl,rfl⟩,_,rfl,b,_,_,_,rfl,rfl,SqT.of hb,a0i (j:=1) rfl,?_⟩
    have cont':=cont [some (.ref b)] H2 rfl (Same.refl _)
    rw[hv]
    have eo:((c r.1).map V.int).getD (.int 0)=V.int ((c r.1).getD 0):=by cases c r.1<;>rfl
    show f1p (((c r.1).map V.int).getD (.int 0)) _=true/\_
    rw[eo]
    refine⟨rfl,?_⟩
    show R (some (V.bl (decide (V.int ((c r.1).getD 0)=V.int r.2)))) _ _
    rw[d5w]
    exact cont'
   ·rw[d9y] at hd
    refine⟨D,_,rfl,SqL.of hd,?_⟩
    rw[e0e]
    exact q H2 ss
theorem c9u (T:Tx K mg):a4j P w K mg base CX0 4 T.b1c T.b0z ["past","order","levels"] (d2e (cO T)):=by
 refine T.b4o.ok a5j (λ vs H Q E h=>?_) (λ cdv A outer s H vs Q E hr h=>?_)
 ·obtain⟨v,o,e,p,wo,ys,os,rfl,_⟩:=h
  rfl
 ·obtain⟨v,o,e,p,wo,ys,os,rfl,tr,gp,gm,lh,ho,hn,hz,hin,q⟩:=h
  have hu:=a9a hr
  refine⟨_,(a0e (a0n (i:=3) a5j.nd rfl (Or.inl rfl) (a2i (a7r (K:=K) rfl rfl) (by rfl) T.b6b boot_dict (a0a (a3k ["deal"] rfl (a3c.mk (fv:=[]) (js:=[]) rfl (by decide +kernel) (by decide +kernel) (by decide +kernel) a2n rfl (by decide +kernel)) (a1t (a0m a0w (pv 0) a0c (λ _ _=>rfl))) (λ _ _ _ _ _=>(a0j (i:=0) (show (["deal"]:List Str).Nodup by decide +kernel) rfl (Or.inl rfl))) (λ _ _ _ _ _=>a9r) (λ _ _ _ _ _=>(a2b (a0a (a0m (a2r (K:=K) rfl) (pv 0) a0c (λ _ _=>rfl)) (a0a (pv 0) a0d))))) a0d)))
   (a0e (a0n (i:=4) a5j.nd rfl (Or.inl rfl) (a0l ((c3v T).mono (by decide)) hr rfl T.c0f T.b5k.kp T.c1z .nil a1l (a0a (pv 0) (a0a (pv 2) a0d))))
   (a0e (a0n (i:=5) a5j.nd rfl (Or.inr rfl) a7f)
   (a0e (a2q PassesOwn.never rfl (a1t (pv 1)) (a0j (i:=6) a5j.nd rfl (Or.inr rfl))
   (a0e (a0n (i:=7) a5j.nd rfl (Or.inl rfl) (a0l ((d6d T).mono (by decide)) hr rfl T.c9z T.c3c.kp T.c8t .nil a1l (a0a (a1f hu (pv 3) (a0m a0w (pv 6) a0c (λ _ _=>rfl)) (λ _ _=>rfl)) (a0a (a1f hu (pv 2) (a0m a0w (pv 6) a0c (λ _ _=>rfl)) (λ _ _=>rfl)) (a0a (a0m a0w (pv 6) a0c (λ _ _=>rfl)) a0d)))))
   (a0e (a3r (c8g (c2y (a1a (d0o rfl) (by rfl) T.e0b boot_all (a0a (a3k ["look"] rfl (a3c.mk (fv:=["makers"]) (js:=[5]) rfl (by decide +kernel) (by decide +kernel) (by decide +kernel) (a1n (Or.inl rfl) a2n) rfl (by decide +kernel)) (a1t (pv 7)) (λ _ _ _ _ _=>(a0j (i:=0) (show (["look","makers"]:List Str).Nodup by decide +kernel) rfl (Or.inl rfl))) (λ _ _ _ _ _=>a9r) (λ _ _ _ _ _=>(a0l ((e1z T).mono (by decide)) hr rfl T.d8n T.d1t.kp T.d9e .nil a1l (a0a (pv 0) (a0a (pv 1) a0d))))) a0d))))
   (a0g (a0u b2a))
   a1d)
   (a0g (a3r (a0t (e9f hr.units) (pv 6) (a1f hu (pv 4) (a0m a0w (pv 6) a0c (λ _ _=>rfl)) (λ _ _=>rfl)) (a0z _))
   (a0g (a6l (e3i (K:=K) rfl rfl (pv 5) (a3k ["made"] rfl (a3c.mk (fv:=["spot"]) (js:=[6]) rfl (by decide +kernel) (by decide +kernel) (by decide +kernel) (a1n (Or.inl rfl) a2n) rfl (by decide +kernel)) (a1t (a0m a0w (pv 0) a0c (λ _ _=>rfl))) (λ _ _ _ _ _=>(a0j (i:=0) (show (["made","spot"]:List Str).Nodup by decide +kernel) rfl (Or.inl rfl))) (λ _ _ _ _ _=>(c9j (a0t (d5s (K:=K) rfl) (a0m (a2r (K:=K) rfl) (pv 1) a0c (λ _ _=>rfl)) (a0m (a2r (K:=K) rfl) (pv 0) a0c (λ _ _=>rfl)) rfl))) (λ _ _ _ _ _=>(a2b (a0a (a0m (a2r (K:=K) rfl) (pv 0) a0c (λ _ _=>rfl)) (a0a (a0m (a2r (K:=K) rfl) (pv 1) a0c (λ _ _=>rfl)) a0d))))) ⟨rfl,rfl,rfl,rfl⟩)))
   a1d)))))
   (a0g (a0u b2a)))))),?_⟩
  obtain⟨l8,nn,gd⟩:=id gp
  have z9:(2000000:Nat)<=sizeLine:=by decide
  obtain⟨a,l,m,lv,mv,rfl,ha,hl,tl,hm,tm⟩:=a5r tr
  have hyl:=a6g hn
  have hlv:lv.length=p.1.length:=by rw[tl.len,List.length_map]
  have hzl:(p.1.zip lv).length=p.1.length:=by rw[List.length_zip,hlv,Nat.min_self]
  refine⟨_,rfl,a,_,_,_,rfl,rfl,SqT.of ha,rfl,l,rfl,⟨_,SqL.of hl⟩,c8m (k:=1) (fs:=[]) (λ H v (b:Dl×V)=>∃ t,v=.ref t/\H t=some (.tup [.int b.1.1,b.2])) (λ H v (b:Dl×V)=>v=b.2/\Tr H v (a1p b.1)) (p.1.zip lv) some (λ H H' y b kn ⟨t,e,ht⟩=>⟨t,e,kn _ _ (λ _ z=>by cases z) ht⟩) (λ _ _ _ _ ss z=>⟨z.1,z.2.same ss⟩) rfl hl (c4x tl) (by omega) (λ d hd H2 ts v R ss hts trd cont _=>?_) λ D H2 ws hD s2 h2 pp=>?_⟩
  ·obtain⟨t,rfl⟩:=List.length_eq_one_iff.mp hts
   obtain⟨ev,trd⟩:=trd
   obtain⟨pd,L,lkv,rfl,hpd,_,_⟩:=a6k trd
   exact⟨_,rfl,pd,_,_,_,rfl,rfl,SqT.of hpd,rfl,_,rfl,(by show 2<=sizeLine;decide),λ t ht=>cont d _ [_] _ rfl rfl (Same.upd ht) ⟨t,rfl,by rw[a0b,<-ev]⟩⟩
  rw[List.filterMap_some] at pp
  have hkl:(a6z p.1 lv).length=p.1.length:=by unfold a6z;rw[List.length_map,hzl]
  refine⟨D,ws,a6z p.1 lv,rfl,h2,c9w pp,(by omega),λ dd hdd=>?_⟩
  have e0:a6d [] (a6z p.1 lv)=a6z p.1 lv:=by
   rw[b2b _ [] (by rw[List.nil_append,b8u hlv];exact d3q nn)]
   rfl
  rw[e0]
  have sd:=s2.trans (Same.upd (o:=HO.dK (a6z p.1 lv)) hdd)
  have hd3:upd H2 dd (.dK (a6z p.1 lv)) dd=some (.dK (a6z p.1 lv)):=a0b
  generalize upd H2 dd (.dK (a6z p.1 lv))=H3 at sd hd3 ⊢
  refine⟨_,rfl,_,rfl,.ref a,e,p,wo,rfl,tr.same sd,gp,lh.same sd,λ kp H4 s4 hkp=>?_⟩
  have sH4:=sd.trans s4
  have hd4:=s4 _ _ hd3
  intro mk hmk
  have s5:=Same.upd (o:=HO.dK []) hmk
  have kmk:∀ {H5:Hp},Same H4 H5->Same H H5:=λ ss=>sH4.trans ss
  refine⟨_,rfl,o,rfl,⟨_,SqL.of (kmk s5 _ _ ho)⟩,a4u (K:=K) (a:=o) (xs:=ys) (λ i σ H5=>Same H4 H5/\∃ (x6 x7:Option V) (c:Int->Option Int),σ=[some (.ref a),some (.ref o),some (.ref e),some (.ref dd),some (.ref kp),some (.ref mk),x6,x7]/\f0g H5 mk (100*i) c/\b4v wo p (λ _=>none) os=b4v wo p c (os.drop i)) ⟨s5,none,none,_,rfl,⟨[],a0b,Nat.le_refl _,λ k=>rfl⟩,rfl⟩ (λ i σ H5 _ ⟨ss,_⟩=>SqL.of (kmk ss _ _ ho)) ?_ ?_⟩
  ·rintro i y σ H5 hy ⟨ss,x6,x7,c,rfl,hcur,hf⟩
   have hi:i < ys.length:=(List.getElem?_eq_some_iff.mp hy).1
   obtain⟨np,hnp,cc,rfl,hcc⟩:=a2a hn hy
   have hdr:os.drop i=np::os.drop (i+1):=by rw[List.drop_eq_getElem_cons (List.getElem?_eq_some_iff.mp hnp).1,(List.getElem?_eq_some_iff.mp hnp).2]
   obtain⟨d,hdm,hdn⟩:=hin np (List.mem_of_getElem? hnp)
   have hdl:c2e p np.1=some d:=by rw[<-hdn];exact b4s nn hdm
   have hfs:b4v wo p c (np::os.drop (i+1))=if (a3g wo d np.2).all (b1h c)=true then b4v wo p (b0l wo p d np.2 c) (os.drop (i+1)) else false:=by
    show (match c2e p np.1 with | some d=>if (a3g wo d np.2).all (b1h c)=true then b4v wo p (b0l wo p d np.2 c) (os.drop (i+1)) else false | none=>false)=_
    rw[hdl]
   rw[hdr,hfs] at hf
   have sH5:=kmk ss
   have hcc5:=sH5 _ _ hcc
   obtain⟨vd,hvd,tvd⟩:=d6j tl nn hdm
   obtain⟨lkvs,hlk,vlk⟩:=lh.same sH5
   obtain⟨x,dx,vx,hx⟩:=vlk d hdm
   obtain⟨kkvs,hkk,vkk⟩:=hkp.same ss
   obtain⟨vk,hvk,nvk⟩:=vkk d hdm
   rw[hdn] at hvd vx hvk
   refine⟨_,rfl,_,rfl,cc,_,_,_,rfl,rfl,SqT.of hcc5,a0i (j:=0) rfl,dd,vd,rfl,.inl ⟨_,.inl np.1,.inl (ss _ _ hd4),rfl,hvd.symm⟩,_,rfl,_,rfl,cc,_,_,_,rfl,rfl,SqT.of hcc5,a0i (j:=0) rfl,e,.ref x,rfl,.inl ⟨_,.inl np.1,.inl hlk,rfl,vx.symm⟩,_,rfl,cc,_,_,_,rfl,rfl,SqT.of hcc5,a0i (j:=1) rfl,vd,x,np.2,d,wo,dx,rfl,tvd.same sH5,hx,(gd d hdm).2,λ D6 H6 ys6 hD6 s6 hd6 t6=>?_⟩
   have hlen6:(a3g wo d np.2).length<=40:=by
    unfold a3g
    refine Nat.le_trans (List.length_filterMap_le _ _) ?_
    rw[List.length_range]
    exact(gd d hdm).2
   have hsub:∀ lk∈a3g wo d np.2,lk∈d.2.2:=λ lk hlk'=>by
    unfold a3g at hlk'
    obtain⟨j,_,e2⟩:=List.mem_filterMap.mp hlk'
    split at e2
    ·exact List.mem_of_getElem? e2
    ·cases e2
   have hcur6:=hcur.same s6
   refine⟨_,rfl,D6,rfl,⟨_,SqL.of hd6⟩,e8c (k:=1) (fs:=[some (.ref mk)]) (a3g wo d np.2) a7m (λ lk=>some (.bl (b1h c lk))) rfl hd6 t6 (by omega) (λ lk hlk' H7 ts v R s7 hts tr7 cont=>?_) λ D7 H7 hD7 s7 hd7=>?_⟩
   ·obtain⟨t,rfl⟩:=List.length_eq_one_iff.mp hts
    exact⟨_,rfl,_,rfl,v,mk,lk,_,c,rfl,tr7,gm.2.2 d hdm lk (hsub lk hlk'),hcur6.same s7,λ H8 s8=>cont [_] H8 rfl s8⟩
   rw[d9y] at hd7
   refine⟨D7,_,rfl,SqL.of hd7,_,rfl,?_⟩
   rw[e0e]
   have s57:=s6.trans s7
   have s47:=ss.trans s57
   by_cases hall:(a3g wo d np.2).all (b1h c)=true
   ·rw[hall]
    rw[if_pos hall] at hf
    refine b5e ?_
    have hnk:=NdV.sm s57 nvk
    have hcc7:=s57 _ _ hcc5
    refine⟨_,rfl,_,rfl,_,rfl,cc,_,_,_,rfl,rfl,SqT.of hcc7,a0i (j:=0) rfl,kp,vk,rfl,.inl ⟨_,.inl np.1,.inl (s57 _ _ hkk),rfl,hvk.symm⟩,_,_,e7h ⟨cc,rfl,hcc7⟩,e7h hnk,rfl,rfl,_,rfl,?_⟩
    rw[f1b]
    have e1:((d.1,np.2)=a6a wo d) ↔ (np=a6a wo d):=by rw[hdn]
    refine b1n (λ ye=>?_) (λ ye=>?_)
    ·have yk:np=a6a wo d:=of_decide_eq_true ye
     obtain⟨kvs,hm7,hkv,hval⟩:=hcur.same s57
     refine⟨_,rfl,mk,rfl,.inl ⟨_,.inl hm7⟩,_,rfl,a,_,_,_,rfl,rfl,SqT.of (kmk s47 _ _ ha),rfl,m,rfl,⟨_,SqL.of (kmk s47 _ _ hm)⟩,c8m (k:=1) (fs:=[some (.ref cc)]) (λ H v (r:Mkr)=>∃ b,v=.ref b/\H b=some (.tup [.int r.1,.int np.1])) (λ H v r=>Tr H v (a4z r)) p.2 (λ r=>if decide (np.1∈r.2)=true then some r else none) (λ H H' y b kn ⟨t,e,ht⟩=>⟨t,e,kn _ _ (λ _ z=>by cases z) ht⟩) (λ _ _ _ _ ss z=>z.same ss) rfl (kmk s47 _ _ hm) (a9o (tm.same (kmk s47))) (by have:=gm.1;omega) (λ r hr' H8 ts v R s8 hts tr8 cs cn=>?_) λ D8 H8 ws8 hD8 s8 hd8 pp8=>?_⟩
     ·obtain⟨t,rfl⟩:=List.length_eq_one_iff.mp hts
      obtain⟨b,lb,rfl,hb,hlb⟩:=c1b tr8
      have hcc8:=s8 _ _ hcc7
      refine⟨_,rfl,cc,_,_,_,rfl,rfl,SqT.of hcc8,a0i (j:=0) rfl,_,rfl,b,_,_,_,rfl,rfl,SqT.of hb,a0i (j:=1) rfl,lb,_,rfl,.inl (SqL.of hlb),rfl,e0a _,_,rfl,?_⟩
      rw[d4c]
      refine b1n (λ yi=>?_) (λ yi=>?_)
      ·have hi2:np.1∈r.2:=by simpa using yi
       exact⟨_,rfl,b,_,_,_,rfl,rfl,SqT.of hb,a0i (j:=0) rfl,_,rfl,cc,_,_,_,rfl,rfl,SqT.of hcc8,a0i (j:=0) rfl,(by show 2<=sizeLine;decide),λ t ht=>cs r _ [_] _ (if_pos (decide_eq_true hi2)) rfl (Same.upd ht) ⟨t,rfl,a0b⟩⟩
      ·exact cn (if_neg (λ z=>yi (by simpa using z))) [_] _ rfl (Same.refl _)
     ·rw[d1k] at pp8
      have hfl:(p.2.filter λ r=>decide (np.1∈r.2)).length<=100:=Nat.le_trans (List.length_filter_le _ _) gm.1
      refine⟨D8,ws8,kvs,_,rfl,s8 _ _ hm7,hd8,c9h pp8,(by rw[List.length_map];omega),?_⟩
      refine⟨λ b o eb=>by rw[a0h (λ z=>by rw[z,hmk] at eb;cases eb)];exact s8 _ _ (s47 _ _ eb),_,_,b0l wo p d np.2 c,rfl,⟨_,a0b,Nat.le_trans (b0v _ _) (by rw[List.length_map];omega),λ k=>?_⟩,hf⟩
      rw[c3u,d5z,hval]
      unfold b0l
      rw[if_pos (e1.mpr yk)]
      rw[hdn]
      split<;>rfl
    ·have yk:¬ np=a6a wo d:=λ z=>ye (decide_eq_true z)
     have ek:b0l wo p d np.2 c=c:=by unfold b0l;rw[if_neg (λ z=>yk (e1.mp z))]
     rw[ek] at hf
     obtain⟨kvs,hm7,hkv,hval⟩:=hcur.same s57
     exact⟨s47,_,_,c,rfl,⟨kvs,hm7,by omega,hval⟩,hf⟩
   ·rw[Bool.eq_false_iff.mpr hall]
    rw[if_neg hall] at hf
    refine c7z ?_
    have q:=q H7 (kmk s47)
    rw[hf] at q
    exact q
  ·rintro σ H5 ⟨ss,x6,x7,c,rfl,hcur,hf⟩
   rw[hyl,List.drop_length] at hf
   have q:=q H5 (kmk ss)
   rw[hf] at q
   exact q
theorem c3k (T:Tx K mg):a4j P w K mg base CX0 4 T.a7i T.a7j ["past","order","levels"] (d7p (cO T)):=by
 refine T.b0m.ok a3q (λ vs H Q E h=>?_) (λ cdv A outer s H vs Q E hr h=>?_)
 ·obtain⟨v,o,e,p,wo,ys,os,rfl,_⟩:=h
  rfl
 ·obtain⟨v,o,e,p,wo,ys,os,rfl,tr,gp,gm,lh,ho,hn,hz,hin,hmk,q⟩:=h
  have hu:=a9a hr
  refine⟨_,(a0e (a0n (i:=3) a3q.nd rfl (Or.inl rfl) (a0l ((c3v T).mono (by decide)) hr rfl T.c0f T.b5k.kp T.c1z .nil a1l (a0a (pv 0) (a0a (pv 2) a0d))))
   (a0e (a0n (i:=4) a3q.nd rfl (Or.inl rfl) (a0l ((d2g T).mono (by decide)) hr rfl T.c4t T.b7q.kp T.c4m .nil a1l (a0a (pv 0) (a0a (pv 2) a0d))))
   (a0e (a2q PassesOwn.never rfl (a1t (a0m a0w (pv 0) a0c (λ _ _=>rfl))) (a0j (i:=5) a3q.nd rfl (Or.inl rfl))
   (a0g (a2q PassesOwn.never rfl (e9m rfl T.e3e (a0a (a0m a0w (pv 5) a0c (λ _ _=>rfl)) (a0a (a7h b0j (a0m a0w (pv 5) a0c (λ _ _=>rfl)) (a9z a0c) b0r) a0d))) (b1j rfl (a0s (a0j (i:=6) a3q.nd rfl (Or.inl rfl)) (a0s (a0j (i:=7) a3q.nd rfl (Or.inl rfl)) a4n)))
   (a0g (a3r (a0t e7p (b9f PySem.F.plainAttrs_list PySem.F.slot_list_index PySem.F.type_list_index (c9f (u16 hr.units) rfl) (pv 1) (a0a (a1f hu (pv 3) (pv 6) (λ _ _=>rfl)) a0d)) (b9f PySem.F.plainAttrs_list PySem.F.slot_list_index PySem.F.type_list_index (c9f (u16 hr.units) rfl) (pv 1) (a0a (a1f hu (pv 4) (pv 7) (λ _ _=>rfl)) a0d)) (a0z _))
   (a0g (a0u b2a))
   a1d)))))
   (a0g (a0u b2a))))),?_⟩
  obtain⟨l8,nn,gd⟩:=id gp
  have z9:(2000:Nat)<=sizeLine:=by decide
  obtain⟨a,l,m,lv,mv,rfl,ha,hl,tl,hm,tm⟩:=a5r tr
  have hml:mv.length=p.2.length:=by rw[tm.len,List.length_map]
  refine⟨_,rfl,_,rfl,.ref a,e,p,wo,rfl,tr,gp,lh,λ kp H1 s1 hkp=>?_⟩
  refine⟨_,rfl,_,rfl,.ref a,e,p,wo,rfl,tr.same s1,gp,lh.same s1,λ fp H2 s2 hfp=>?_⟩
  have s12:=s1.trans s2
  have hkp2:=hkp.same s2
  have hfb:a9x wo p os=p.2.all λ r=>nbB (d2p wo p os) (d1b wo p os) r.2:=rfl
  refine⟨_,rfl,a,_,_,_,rfl,rfl,SqT.of (s12 _ _ ha),rfl,m,rfl,⟨_,SqL.of (s12 _ _ hm)⟩,a4u (K:=K) (a:=m) (xs:=mv) (λ i σ H3=>Same H2 H3/\∃ (x5 x6 x7:Option V),σ=[some (.ref a),some (.ref o),some (.ref e),some (.ref kp),some (.ref fp),x5,x6,x7]/\a9x wo p os=(p.2.drop i).all λ r=>nbB (d2p wo p os) (d1b wo p os) r.2) ⟨Same.refl _,none,none,none,rfl,hfb⟩ (λ i σ H3 _ ⟨ss,_⟩=>SqL.of (ss _ _ (s12 _ _ hm))) ?_ ?_⟩
  ·rintro i y σ H3 hy ⟨ss,x5,x6,x7,rfl,hf⟩
   have hi:i < mv.length:=(List.getElem?_eq_some_iff.mp hy).1
   obtain⟨dd,edd,trm⟩:=tm.get hy
   rw[List.getElem?_map] at edd
   obtain⟨r,hr',rfl⟩:=Option.map_eq_some_iff.mp edd
   have hrm:r∈p.2:=List.mem_of_getElem? hr'
   obtain⟨b,lb,rfl,hb,hlb⟩:=c1b trm
   have hdr:p.2.drop i=r::p.2.drop (i+1):=by rw[List.drop_eq_getElem_cons (List.getElem?_eq_some_iff.mp hr').1,(List.getElem?_eq_some_iff.mp hr').2]
   rw[hdr,List.all_cons] at hf
   have sH3:=s12.trans ss
   have hb3:=sH3 _ _ hb
   have hlb3:=sH3 _ _ hlb
   refine⟨_,rfl,b,_,_,_,rfl,rfl,SqT.of hb3,a0i (j:=1) rfl,_,rfl,b,_,_,_,rfl,rfl,SqT.of hb3,a0i (j:=1) rfl,_,rfl,lb,_,rfl,SqL.of hlb3,λ sp hsp=>?_⟩
   rw[e7x,<-List.map_drop]
   have ssp:=Same.upd (o:=HO.lst ((r.2.drop 1).map V.int)) hsp
   have hsp4:=a0b (H:=H3) (a:=sp) (o:=HO.lst ((r.2.drop 1).map V.int))
   generalize upd H3 sp (.lst ((r.2.drop 1).map V.int))=H4 at ssp hsp4 ⊢
   refine⟨_,_,_,_,rfl,.list (SqL.of (ssp _ _ hlb3)),.list (SqL.of hsp4),e7s (xs:=r.2.map V.int) (ys:=(r.2.drop 1).map V.int) (λ j σ H5=>Same H4 H5/\∃ (x6 x7:Option V),σ=[some (.ref a),some (.ref o),some (.ref e),some (.ref kp),some (.ref fp),some (.ref b),x6,x7]/\nbB (d2p wo p os) (d1b wo p os) r.2=nbB (d2p wo p os) (d1b wo p os) (r.2.drop j)) ⟨Same.refl _,x6,x7,rfl,rfl⟩ (λ j σ H5 ⟨s5,_⟩=>⟨a2s (SqL.of (s5 _ _ (ssp _ _ hlb3))),a2s (SqL.of (s5 _ _ hsp4))⟩) ?_ ?_⟩
   ·rintro j x y σ H5 t hx hy ⟨s5,x6,x7,rfl,hnb⟩ ht
    rw[List.getElem?_map] at hx hy
    obtain⟨x1,hx1,rfl⟩:=Option.map_eq_some_iff.mp hx
    obtain⟨y1,hy1,rfl⟩:=Option.map_eq_some_iff.mp hy
    rw[List.getElem?_drop,Nat.add_comm] at hy1
    have hd1:r.2.drop j=x1::r.2.drop (j+1):=by rw[List.drop_eq_getElem_cons (List.getElem?_eq_some_iff.mp hx1).1,(List.getElem?_eq_some_iff.mp hx1).2]
    have hd2:r.2.drop (j+1)=y1::r.2.drop (j+1+1):=by rw[List.drop_eq_getElem_cons (List.getElem?_eq_some_iff.mp hy1).1,(List.getElem?_eq_some_iff.mp hy1).2]
    have st:=Same.upd (o:=HO.tup [.int x1,.int y1]) ht
    have s6:=s5.trans st
    have sA:=ss.trans (ssp.trans s6)
    obtain⟨kkvs,hkk,vkk⟩:=hkp2.same sA
    obtain⟨fkvs,hff,vff⟩:=hfp.same sA
    obtain⟨d1,v1,hd1m,e1,hv1,n1⟩:=d5g vkk (hmk r hrm x1 (List.mem_of_getElem? hx1))
    obtain⟨d2,v2,hd2m,e2,hv2,n2⟩:=d5g vff (hmk r hrm y1 (List.mem_of_getElem? hy1))
    have sHA:=s12.trans sA
    have hn5:=a4m sHA hn
    have ho5:=sHA _ _ ho
    have p1:d2p wo p os x1=os.idxOf (a6a wo d1):=by
     unfold d2p
     rw[<-e1,b4s nn hd1m]
    have p2:d1b wo p os y1=os.idxOf (a6b wo d2):=by
     unfold d1b
     rw[<-e2,b4s nn hd2m]
    refine⟨t,_,rfl,SqT.of a0b,rfl,_,_,rfl,_,_,rfl,rfl,?_⟩
    refine⟨_,rfl,.inl ⟨rfl,_,SqL.of ho5⟩,_,rfl,_,rfl,kp,v1,rfl,.inl ⟨_,.inl x1,.inl hkk,rfl,hv1.symm⟩,o,ys,os,v1,a6a wo d1,rfl,rfl,SqL.of ho5,hn5,n1,hz,(hin d1 hd1m).1,?_⟩
    refine⟨_,rfl,.inl ⟨rfl,_,SqL.of ho5⟩,_,rfl,_,rfl,fp,v2,rfl,.inl ⟨_,.inl y1,.inl hff,rfl,hv2.symm⟩,o,ys,os,v2,a6b wo d2,rfl,rfl,SqL.of ho5,hn5,n2,hz,(hin d2 hd2m).2,?_⟩
    have hnb2:nbB (d2p wo p os) (d1b wo p os) (r.2.drop j)=if d1b wo p os y1<=d2p wo p os x1 then false else nbB (d2p wo p os) (d1b wo p os) (r.2.drop (j+1)):=by
     rw[hd1,hd2]
     rfl
    rw[hnb2,p1,p2] at hnb
    refine⟨_,_,rfl,rfl,_,rfl,b1n (λ ye=>?_) (λ ye=>?_)⟩
    ·have ye':=of_decide_eq_true ye
     rw[if_pos (by omega)] at hnb
     have q:=q _ sHA
     rw[hf,hnb,Bool.false_and] at q
     exact q
    ·have ye':¬ (os.idxOf (a6b wo d2)<=os.idxOf (a6a wo d1)):=λ z=>ye (decide_eq_true (by omega))
     rw[if_neg ye'] at hnb
     exact⟨s6,_,_,rfl,hnb⟩
   ·rintro σ H5 ⟨s5,x6,x7,rfl,hnb⟩
    have:nbB (d2p wo p os) (d1b wo p os) r.2=true:=by
     rw[hnb]
     refine e8v ?_
     rw[List.length_drop,List.length_map,List.length_map,List.length_drop]
     omega
    rw[this,Bool.true_and] at hf
    exact⟨ss.trans (ssp.trans s5),_,_,_,rfl,hf⟩
  ·rintro σ H3 ⟨ss,x5,x6,x7,rfl,hf⟩
   rw[hml,List.drop_length] at hf
   have q:=q H3 (s12.trans ss)
   rw[hf] at q
   exact q
--@STAGE
def kN2 (n:Nk):List Key:=[.inl n.1,.inl n.2]
def d4b (w:Option Str) (p:Ps) (os:List Nk):Prop:=os.Perm (p.1.flatMap (a1y w))/\b2k (λ _=>0) os=true/\b4v w p (λ _=>none) os=true/\a9x w p os=true
def c5l (p:Ps):Prop:=(p.1.map (·.1)).Pairwise (· < ·)
def e7w (p:Ps):Prop:=∀ r∈p.2,∀ x∈r.2,∃ d∈p.1,d.1=x
def d7a (cls:Lv->Addr) (N:Addr):Sp:=λ vs H Q E=>∃ (v:V) (o:Addr) (p:Ps) (w:Option Str) (ys:List V) (os:List Nk),vs=[v,.ref o,wV w]/\Tr H v (a3j p)/\c3i p/\d1v p/\c5l p/\e7w p/\H o=some (.lst ys)/\Nds H ys os/\os.length < 64/\(∀ x,w=some x->b7p x)/\((∀ x,w=some x->x∈wds)->∀ (b:Bool) H',Same H H'->(b=true ↔ d4b w p os)->Q (.bl b) H')/\(∀ x,w=some x->x ∉ wds->∀ H',Same H H'->E (.ref N) none H')
def cd0:Key->Int
 | .inl i=>i
 | .inr _=>0
theorem d7w {cd:Key->Int}:∀ {js ls:List (List Key)},js.Perm ls->(∀ a∈js,∀ b∈js,a.map cd=b.map cd->a=b)->js.Pairwise (λ a b=>b4w (b.map cd) (a.map cd)=false)->ls.Pairwise (λ a b=>b4w (b.map cd) (a.map cd)=false)->js=ls:=by
 intro js
 induction js with
 | nil=>intro ls p _ _ _;exact(List.Perm.nil_eq p)
 | cons a r ih =>
  intro ls p hj h1 h2
  match ls,p,h2 with
  | [],p,_=>exact absurd p.length_eq (by simp)
  | b::t,p,h2 =>
   obtain⟨a1,a2⟩:=List.pairwise_cons.mp h1
   obtain⟨b1,b2⟩:=List.pairwise_cons.mp h2
   have e:a=b:=by
    rcases List.mem_cons.mp (p.mem_iff.mp (.head _):a∈b::t) with e | ha
    ·exact e
    ·rcases List.mem_cons.mp (p.mem_iff.mpr (.head _):b∈a::r) with e | hb
     ·exact e.symm
     ·have l1:=a1 b hb
      have l2:=b1 a ha
      by_cases q:a.map cd=b.map cd
      ·exact hj a (.head _) b (.tail _ hb) q
      ·have:=c7m _ _ q l2
       rw[l1] at this
       cases this
   subst e
   rw[ih (List.Perm.cons_inv p) (λ x hx y hy=>hj x (.tail _ hx) y (.tail _ hy)) a2 b2]
theorem d2n {a b:Nk} (h:(kN2 a).map cd0=(kN2 b).map cd0):a=b:=by
 have h':[a.1,a.2]=[b.1,b.2]:=h
 injection h' with h1 h2
 injection h2 with h2 _
 exact Prod.ext h1 h2
def f3k (a b:Nk):Prop:=a.1 < b.1\/(a.1=b.1/\a.2 < b.2)
theorem e1m {a b:Nk} (h:f3k a b):b4w ((kN2 b).map cd0) ((kN2 a).map cd0)=false:=by
 show (if b.1=a.1 then (if b.2=a.2 then b4w [] [] else decide (b.2 < a.2)) else decide (b.1 < a.1))=false
 rcases h with h | ⟨h1,h2⟩
 ·rw[if_neg (by omega)]
  exact decide_eq_false (by omega)
 ·rw[if_pos h1.symm,if_neg (by omega)]
  exact decide_eq_false (by omega)
theorem b7v {w:Option Str}:∀ {ds:List Dl},(ds.map (·.1)).Pairwise (· < ·)->(ds.flatMap (a1y w)).Pairwise f3k
 | [],_=>.nil
 | d::r,h=>by
  obtain⟨h1,h2⟩:=List.pairwise_cons.mp h
  rw[List.flatMap_cons]
  refine List.pairwise_append.mpr ⟨?_,b7v h2,λ x hx y hy=>?_⟩
  ·unfold a1y
   exact List.pairwise_map.mpr (List.pairwise_lt_range.imp λ {i j} hij=>.inr ⟨rfl,by show (i:Int) < (j:Int);omega⟩)
  ·obtain⟨e,he,hy⟩:=List.mem_flatMap.mp hy
   unfold a1y at hx hy
   obtain⟨i,_,rfl⟩:=List.mem_map.mp hx
   obtain⟨j,_,rfl⟩:=List.mem_map.mp hy
   exact .inl (h1 e.1 (List.mem_map.mpr ⟨e,he,rfl⟩))
theorem d9j {H:Hp}:∀ {ys:List V} {ns:List Nk},Nds H ys ns->Paired (TkV H) ys (ns.map kN2)
 | _,_,.nil=>.nil
 | _,_,.cons ⟨p,e,hp⟩ t=>.cons ⟨p,e,hp⟩ (d9j t)
theorem d8s {H:Hp}:∀ {ys:List V} {ns:List Nk},Paired (TkV H) ys (ns.map kN2)->Nds H ys ns
 | _,[],h=>by cases h;exact .nil
 | _,n::r,h=>by
  cases h with
  | cons h t =>
   obtain⟨p,e,hp⟩:=h
   exact .cons ⟨p,e,hp⟩ (d8s t)
theorem d6t (ns:List Nk):f1m cd0 (ns.map kN2):=by
 refine⟨λ k hk l hl=>?_,λ k hk e=>?_⟩
 ·obtain⟨a,_,rfl⟩:=List.mem_map.mp hk
  obtain⟨b,_,rfl⟩:=List.mem_map.mp hl
  exact⟨⟨rfl,rfl⟩,⟨rfl,rfl⟩,trivial⟩
 ·obtain⟨a,_,rfl⟩:=List.mem_map.mp hk
  cases e
theorem e4o:∀ (a b:List Nk),PyData.eqv (.list (a.map dN)) (.list (b.map dN))=decide (a=b)
 | [],[]=>rfl
 | [],_::_=>rfl
 | _::_,[]=>rfl
 | x::r,y::t=>by
  have ih:=e4o r t
  show (PyData.eqv (dN x) (dN y) && PyData.eqv (.list (r.map dN)) (.list (t.map dN)))=_
  rw[ih,f1b]
  by_cases h:x=y
  ·by_cases h2:r=t
   ·rw[h,h2];simp
   ·rw[decide_eq_false h2,Bool.and_false,decide_eq_false (λ z=>h2 (by injection z))]
  ·rw[decide_eq_false h,Bool.false_and,decide_eq_false (λ z=>h (by injection z))]
theorem b6i (w:Option Str) {d:Dl}:a6a w d∈a1y w d/\a6b w d∈a1y w d:=by
 have hk:∀ z:Int,0<=z->z < a5m (lvD w d) (d.2.2.length:Int)->(d.1,z)∈a1y w d:=λ z h0 h1=>by
  unfold a1y
  exact List.mem_map.mpr ⟨z.toNat,List.mem_range.mpr (by omega),by rw[Int.toNat_of_nonneg h0]⟩
 unfold a6a a6b
 have hpos:1<=a5m (lvD w d) (d.2.2.length:Int)/\0<=c4a (lvD w d) (d.2.2.length:Int)/\c4a (lvD w d) (d.2.2.length:Int) < a5m (lvD w d) (d.2.2.length:Int):=by
  generalize lvD w d=lv0
  cases lv0<;>simp only [a5m,c4a]<;>omega
 exact⟨hk _ (by omega) (by omega),hk _ hpos.2.1 hpos.2.2⟩
theorem b2w (T:Tx K mg):a4j P w K mg base (CXW P w) 5 T.b6f T.b2f ["past","order","word"] (d7a (cO T) T.a2k):=by
 refine d4z T.a9p c4s (λ vs H Q E h=>?_) (λ cdv A outer s H vs Q E hr h=>?_)
 ·obtain⟨v,o,p,wo,ys,os,rfl,_⟩:=h
  rfl
 ·obtain⟨v,o,p,wo,ys,os,rfl,tr,gp,gm,rise,inm,ho,hn,hz6,fw,qy,qn⟩:=h
  have hz:os.length<=1000:=by omega
  have hyl6:=a6g hn
  have hu:=a9a hr
  refine⟨_,(a0e (a0n (i:=3) c4s.nd rfl (Or.inl rfl) (a0l ((c1c T).mono (by decide)) hr rfl T.b7z T.b2x.kp T.b7d .nil (e2o λ _ _ _ z=>z) (a0a (pv 0) (a0a (pv 2) a0d))))
   (a0e (a3r (PW.pt (e0k (a0t (c4r hr.units) (a1a c8o (by rfl) T.b9p boot_sorted (a0a (pv 1) a0d)) (a0l ((e4a T).mono (by decide)) hr rfl T.d9g T.d1w.kp T.d9l .nil (e2o λ _ _ _ z=>z) (a0a (pv 0) (a0a (pv 2) a0d))) (a0z _)) (d4u (c8g (c2y (a0l ((b9c T).mono (by decide)) hr rfl T.b2d T.a7z.kp T.b1q .nil a1l (a0a (pv 1) a0d)))))))
   (a0g (a0u b2a))
   a1d)
   (a0g (a0u (d7n (a0l ((c9u T).mono (by decide)) hr rfl T.c2a T.b4o.kp T.c2s .nil a1l (a0a (pv 0) (a0a (pv 1) (a0a (pv 3) a0d)))) (d9m (a0l ((c3k T).mono (by decide)) hr rfl T.b6a T.b0m.kp T.b6w .nil a1l (a0a (pv 0) (a0a (pv 1) (a0a (pv 3) a0d)))))))))),?_⟩
  by_cases hw:∀ x,wo=some x->x∈wds
  ·refine⟨_,rfl,_,rfl,v,p,wo,rfl,tr,gp,fw,λ _ e H1 s1 lh=>?_,λ x e' n=>absurd (hw x e') n⟩
   refine⟨_,rfl,o,ys,os.map kN2,cd0,rfl,SqL.of (s1 _ _ ho),d9j (a4m s1 hn),d6t os,(by omega),λ sp zs js hsp tz pm pw=>?_⟩
   obtain⟨ns,rfl⟩:∃ ns:List Nk,js=ns.map kN2:=by
    have:∀ l:List (List Key),(∀ k∈l,∃ n,k=kN2 n)->∃ ns:List Nk,l=ns.map kN2:=by
     intro l
     induction l with
     | nil=>intro _;exact⟨[],rfl⟩
     | cons k r ih =>
      intro h
      obtain⟨n,e1⟩:=h k (.head _)
      obtain⟨ns,e2⟩:=ih λ x hx=>h x (.tail _ hx)
      exact⟨n::ns,by rw[e1,e2];rfl⟩
    exact this js λ k hk=>by
     obtain⟨n,_,e1⟩:=List.mem_map.mp (pm.mem_iff.mp hk)
     exact⟨n,e1.symm⟩
   have su:=Same.upd (o:=HO.lst zs) hsp
   have s12:=s1.trans su
   refine⟨_,rfl,_,rfl,v,p,wo,rfl,tr.same s12,gp,fw,λ _ D H3 ws hD s3 hd3 nd3=>?_,λ x e' n=>absurd (hw x e') n⟩
   have sH3:=s12.trans s3
   have key:ns=p.1.flatMap (a1y wo) ↔ os.Perm (p.1.flatMap (a1y wo)):=by
    have pmn:ns.Perm os:=by
     have inj:∀ {a b:Nk},kN2 a=kN2 b->a=b:=λ {a b} h=>d2n (by rw[h])
     have h1:=pm.map (λ k:List Key=>match k with | [.inl x,.inl y]=>((x,y):Nk) | _=>(0,0))
     rw[List.map_map,List.map_map] at h1
     have e2:((λ k:List Key=>match k with | [.inl x,.inl y]=>((x,y):Nk) | _=>(0,0)) ∘ kN2)=id:=funext λ n=>rfl
     rw[e2,List.map_id,List.map_id] at h1
     exact h1
    constructor
    ·intro h
     rw[<-h]
     exact pmn.symm
    ·intro h
     have hpw:((p.1.flatMap (a1y wo)).map kN2).Pairwise (λ a b=>b4w (b.map cd0) (a.map cd0)=false):=List.pairwise_map.mpr ((b7v rise).imp λ h=>e1m h)
     have:=d7w ((pmn.trans h).map kN2) (λ x hx y hy e=>by
      obtain⟨x',_,rfl⟩:=List.mem_map.mp hx
      obtain⟨y',_,rfl⟩:=List.mem_map.mp hy
      rw[d2n e]) pw hpw
     have e3:=congrArg (List.map (λ k:List Key=>match k with | [.inl x,.inl y]=>((x,y):Nk) | _=>(0,0))) this
     rw[List.map_map,List.map_map] at e3
     have e2:((λ k:List Key=>match k with | [.inl x,.inl y]=>((x,y):Nk) | _=>(0,0)) ∘ kN2)=id:=funext λ n=>rfl
     rw[e2,List.map_id,List.map_id] at e3
     exact e3
   have ndz:Nds H3 zs ns:=a4m s3 (a4m su (d8s tz))
   refine⟨_,_,.lst (SqL.of (s3 _ _ a0b)) (c0v ndz),.lst (SqL.of hd3) (c0v nd3),d4q _,d4q _,_,rfl,?_⟩
   rw[e4o]
   by_cases hp:os.Perm (p.1.flatMap (a1y wo))
   ·rw[decide_eq_true (key.mpr hp)]
    refine b5e ?_
    refine⟨_,rfl,o,ys,os,rfl,sH3 _ _ ho,a4m sH3 hn,hz,λ H4 s4=>⟨_,rfl,?_⟩⟩
    have sH4:=sH3.trans s4
    by_cases hc:b2k (λ _=>0) os=true
    ·rw[hc]
     refine b5e ?_
     have hin:∀ x∈os,∃ d∈p.1,d.1=x.1:=λ x hx=>by
      obtain⟨d,hd,h1⟩:=List.mem_flatMap.mp (hp.mem_iff.mp hx)
      unfold a1y at h1
      obtain⟨j,_,rfl⟩:=List.mem_map.mp h1
      exact⟨d,hd,rfl⟩
     have hkf:∀ d∈p.1,a6a wo d∈os/\a6b wo d∈os:=λ d hd=>⟨hp.mem_iff.mpr (List.mem_flatMap.mpr ⟨d,hd,(b6i wo).1⟩),hp.mem_iff.mpr (List.mem_flatMap.mpr ⟨d,hd,(b6i wo).2⟩)⟩
     have lh4:=(lh.same su).same (s3.trans s4)
     refine⟨_,rfl,_,rfl,_,rfl,v,o,e,p,wo,ys,os,rfl,tr.same sH4,gp,gm,lh4,sH4 _ _ ho,a4m sH4 hn,hz,hin,λ H5 s5=>⟨_,rfl,?_⟩⟩
     have sH5:=sH4.trans s5
     refine b1n (λ yf=>?_) (λ yf=>?_)
     ·refine⟨_,rfl,_,rfl,_,rfl,v,o,e,p,wo,ys,os,rfl,tr.same sH5,gp,gm,lh4.same s5,sH5 _ _ ho,a4m sH5 hn,hz,hkf,inm,λ H6 s6=>qy hw _ H6 (sH5.trans s6) ?_⟩
      exact⟨λ h=>⟨hp,hc,yf,h⟩,λ h=>h.2.2.2⟩
     ·refine qy hw false H5 sH5 ⟨(λ h=>by cases h),λ h=>absurd h.2.2.1 yf⟩
    ·rw[Bool.eq_false_iff.mpr hc]
     refine c7z ?_
     exact qy hw false H4 sH4 ⟨(λ h=>by cases h),λ h=>absurd h.2.1 hc⟩
   ·rw[decide_eq_false (λ z=>hp (key.mp z))]
    refine c7z ?_
    refine c7z ?_
    exact qy hw false H3 sH3 ⟨(λ h=>by cases h),λ h=>absurd h.1 hp⟩
  ·cases wo with
   | none=>exact absurd (λ x e=>by cases e) hw
   | some x =>
    have hx:x ∉ wds:=λ z=>hw λ y ey=>by cases ey;exact z
    exact⟨_,rfl,_,rfl,v,p,some x,rfl,tr,gp,fw,λ h=>absurd (h x rfl) hx,λ y ey n H' s'=>by cases ey;exact qn x rfl n H' s'⟩
--@STAGE
def a0q (w:Str) (l:Int):Int:=if w="kept" then l+1 else if w="make" then 2 else 1
def a3e (w:Str) (k:Int):Int:=if w="kept" then k else 0
def a2j (w:Str) (k:Int):Int:=if w="kept" then k else 0
def e7l:Sp:=λ vs H Q _=>∃ (w:Str) (l:Int),vs=[.str w,.int l]/\Q (.int (a0q w l)) H
def e6q:Sp:=λ vs H Q _=>∃ (w:Str) (l:Int),vs=[.str w,.int l]/\Q (.int (a3e w l)) H
def e7k:Sp:=λ vs H Q _=>∃ (w:Str) (l:Int),vs=[.str w,.int l]/\Q (.int (a2j w l)) H
def a2p (w:Option Str) (d:Dl):Str:=w.getD d.2.1
def d6x (H:Hp) (e:Addr) (w:Option Str) (ds:List Dl):Prop:=∃ kvs,Rd H e (.dK kvs)/\kvs.map (·.1)=ds.map (λ d=>Sum.inl d.1)/\∀ d∈ds,∃ t,a4l kvs (.inl d.1)=some (.ref t)/\H t=some (.tup [.str (a2p w d),.int (d.2.2.length:Int)])
def e9w:Sp:=λ vs H Q _=>∃ (v:V) (w:Option Str) (ds:List Dl),vs=[v,wV w]/\Tr H v (.list (ds.map a1p))/\ds.length<=8/\(ds.map (·.1)).Nodup/\∀ e H',Same H H'->d6x H' e w ds->Q (.ref e) H'
def a1m (os:List Nk) (q:Nk):Int:=(os.foldl (λ (s:Int×Int) x=>(s.1+1,if x=q then s.1 else s.2)) (0,-1)).2
def AtD (H:Hp) (t:Addr) (os:List Nk):Prop:=∃ kvs,H t=some (.dT kvs)/\kvs.length<=os.length/\∀ q,a4l kvs (kN2 q)=if a1m os q < 0 then none else some (.int (a1m os q))
def b1f (os:List Nk) (n:Int):Int->List Int->Bool
 | _,[]=>true
 | last,pl::t=>if a1m os (n,pl)<=last then false else b1f os n (a1m os (n,pl)) t
def b7s (w:Option Str) (d:Dl):List Int:=(List.range (a0q (a2p w d) (d.2.2.length:Int)).toNat).map λ (j:Nat)=>(j:Int)
def a9g (w:Option Str) (ds:List Dl) (os:List Nk):Bool:=(ds.all λ d=>b1f os d.1 (-1) (b7s w d)) && decide ((ds.map λ d=>a0q (a2p w d) (d.2.2.length:Int)).sum=(os.length:Int))
def e3d:Sp:=λ vs H Q _=>∃ (e o:Addr) (w:Option Str) (ds:List Dl) (ys:List V) (os:List Nk),vs=[.ref e,.ref o]/\d6x H e w ds/\(∀ d∈ds,d.2.2.length<=40)/\ds.length<=8/\H o=some (.lst ys)/\Nds H ys os/\os.length<=1000/\(a9g w ds os=false->∀ H',KF H H'->Q .non H')/\(a9g w ds os=true->∀ t H',KF H H'->AtD H' t os->Q (.ref t) H')
def KI (H:Hp) (e:Addr) (f:Int->Int) (ns:List Int):Prop:=∃ kvs,H e=some (.dK kvs)/\∀ n∈ns,a4l kvs (.inl n)=some (.int (f n))
def b3z (K F:Int->Int) (a b:Int) (j k:Nat):Bool:=!(decide (j < k) && decide (K a<=K b)) && !(decide (j≠k) && (decide (F a < K b) && decide (K b < K a)))
def c5g (f:Nat->Bool) (i n:Nat):Bool:=(List.range' i (n - i)).all f
def b6v (K F:Int->Int) (ms:List Int):Bool:=c5g (λ k=>c5g (λ j=>b3z K F (ms.getD k 0) (ms.getD j 0) j k) 0 ms.length) 0 ms.length
def e9g:Sp:=λ vs H Q _=>∃ (ka fa ma:Addr) (K F:Int->Int) (ms ns:List Int),vs=[.ref ka,.ref fa,.ref ma]/\KI H ka K ns/\KI H fa F ns/\H ma=some (.lst (ms.map V.int))/\(∀ x∈ms,x∈ns)/\ms.length<=1000/\Q (.bl (b6v K F ms)) H
def a9v (K:Int->Int) (at_:Int):Int->List Int->Int
 | l,[]=>l
 | l,m::r=>a9v K at_ (if K m < at_ then m else l) r
def e9k:Sp:=λ vs H Q _=>∃ (ka ma:Addr) (K:Int->Int) (ms ns:List Int) (src at_:Int),vs=[.ref ka,.ref ma,.int src,.int at_]/\KI H ka K ns/\H ma=some (.lst (ms.map V.int))/\(∀ x∈ms,x∈ns)/\Q (.bl (decide (src=a9v K at_ 0 ms))) H
theorem d0k (q:Nk):∀ (os:List Nk) (s:Int×Int),(os.foldl (λ (s:Int×Int) x=>(s.1+1,if x=q then s.1 else s.2)) s).1=s.1+os.length
 | [],s=>by simp
 | x::r,s=>by
  rw[List.foldl_cons,d0k q r]
  show s.1+1+(r.length:Int)=s.1+((r.length+1:Nat):Int)
  omega
theorem c4k (os:List Nk) (x q:Nk):a1m (os++[x]) q=if x=q then (os.length:Int) else a1m os q:=by
 unfold a1m
 rw[List.foldl_append]
 show (if x=q then _ else _)=_
 rw[d0k]
 simp
theorem e2k (q:Nk):∀ (os:List Nk),-1<=a1m os q:=by
 have key:∀ (l os:List Nk),-1<=a1m os q->-1<=a1m (os++l) q:=by
  intro l
  induction l with
  | nil=>intro os h;rw[List.append_nil];exact h
  | cons x r ih =>
   intro os h
   have:os++x::r=(os++[x])++r:=by simp
   rw[this]
   refine ih _ ?_
   rw[c4k]
   split<;>omega
 intro os
 have:=key os [] (show (-1:Int)<=-1 from Int.le_refl _)
 rwa [List.nil_append] at this
theorem c2n {f:Nat->Bool} {i n:Nat} (h:i < n):c5g f i n=(f i && c5g f (i+1) n):=by
 unfold c5g
 rw[show n - i=(n - (i+1))+1 by omega,List.range'_succ,List.all_cons]
theorem c6i (f:Nat->Bool) (n:Nat):c5g f n n=true:=by
 unfold c5g
 rw[Nat.sub_self]
 rfl
theorem KI.get {H:Hp} {e:Addr} {f:Int->Int} {ns:List Int} (h:KI H e f ns) {n:Int} (hn:n∈ns):b3y H e (.int n) (some (.int (f n))):=by
 obtain⟨kvs,h1,h2⟩:=h
 exact .inl ⟨kvs,.inl n,.inl h1,rfl,(h2 n hn).symm⟩
theorem c5f {ns:List Int} {i:Nat} (h:i < ns.length):atI (ns.map V.int) (0+(i:Int))=some (.int (ns.getD i 0)):=by
 rw[Int.zero_add]
 refine a0i ?_
 rw[List.getElem?_map,List.getElem?_eq_getElem h]
 simp[List.getD,h]
theorem c7r {ns:List Int} {i:Nat} (h:i < ns.length):ns.getD i 0∈ns:=by
 simp[List.getD,h]
theorem f0i {a b:Nk} (h:a≠b):kN2 a≠kN2 b:=λ z=>h (d2n (by rw[z]))
theorem d6x.kf {H H':Hp} (s:KF H H') {e:Addr} {w:Option Str} {ds:List Dl} (h:d6x H e w ds):d6x H' e w ds:=let ⟨kvs,h1,h2,h3⟩:=h;⟨kvs,s.rd h1,h2,λ d hd=>let ⟨t,a,b⟩:=h3 d hd;⟨t,a,s.tup b⟩⟩
theorem c4v {w:Str} {l:Int} (h0:0<=l) (h40:l<=40):1<=a0q w l/\a0q w l<=41:=by
 unfold a0q
 split
 ·omega
 ·split<;>omega
theorem e9a {H H':Hp} (s:KF H H') {ys:List V} {ns:List Nk} (h:Nds H ys ns):Nds H' ys ns:=Paired.imp' (λ _ _ ⟨p,e,hp⟩=>⟨p,e,s.tup hp⟩) h
theorem c7b (x y:Str):decide (V.str x=V.str y)=decide (x=y):=by
 rw[Bool.eq_iff_iff,decide_eq_true_iff,decide_eq_true_iff]
 exact⟨V.str.inj,congrArg V.str⟩
theorem b2q (T:Tx K mg):a4j P w K mg base CX0 1 T.b9s T.b9i ["_law_word","_law_looks"] e7l:=by
 refine T.b0u.ok d7b (λ vs H Q E h=>?_) (λ cdv A outer s H vs Q E hr h=>?_)
 ·obtain⟨c,k,rfl,_⟩:=h
  rfl
 ·obtain⟨wd,l,rfl,q⟩:=h
  refine⟨_,(a0e (a3r (a0t a7v (pv 0) a1c (a0z _))
   (a0g (a0u (a0x a3v (pv 1) a0c)))
   a1d)
   (a0g (a0u (a0x a3v a0c (a2i d0r (by rfl) T.d8o boot_int (a0a (b7j a7v (pv 0) a1c (a0z _)) a0d)))))),?_⟩
  unfold a0q at q
  refine⟨_,rfl,rfl,_,rfl,?_⟩
  rw[c7b]
  refine b1n (λ e=>?_) (λ e=>?_)
  ·have e':=of_decide_eq_true e
   rw[if_pos e'] at q
   exact⟨_,rfl,_,_,rfl,rfl,q⟩
  ·have e':¬ wd=("kept":Str):=λ z=>e (decide_eq_true z)
   rw[if_neg e'] at q
   refine⟨_,rfl,rfl,.inr ⟨_,rfl,_,_,rfl,rfl,?_⟩⟩
   rw[c7b]
   by_cases f:wd=("make":Str)
   ·rw[if_pos f] at q
    rw[decide_eq_true f]
    exact q
   ·rw[if_neg f] at q
    rw[decide_eq_false f]
    exact q
theorem d0p (T:Tx K mg):a4j P w K mg base CX0 1 T.b9x T.b9r ["_law_word","_law_k"] e6q:=by
 refine T.b9t.ok d8g (λ vs H Q E h=>?_) (λ cdv A outer s H vs Q E hr h=>?_)
 ·obtain⟨c,k,rfl,_⟩:=h
  rfl
 ·obtain⟨wd,l,rfl,q⟩:=h
  refine⟨_,(a0e (a3r (a0t a7v (pv 0) a1c (a0z _))
   (a0g (a0u (pv 1)))
   a1d)
   (a0g (a0u a0c))),?_⟩
  unfold a3e at q
  refine⟨_,rfl,rfl,_,rfl,?_⟩
  rw[c7b]
  refine b1n (λ e=>?_) (λ e=>?_)
  ·rw[if_pos (of_decide_eq_true e)] at q
   exact⟨_,rfl,q⟩
  ·rw[if_neg (λ z=>e (decide_eq_true z))] at q
   exact q
theorem c9s (T:Tx K mg):a4j P w K mg base CX0 1 T.b9w T.b9u ["_law_word","_law_looks"] e7k:=by
 refine T.b9z.ok d8m (λ vs H Q E h=>?_) (λ cdv A outer s H vs Q E hr h=>?_)
 ·obtain⟨c,k,rfl,_⟩:=h
  rfl
 ·obtain⟨wd,l,rfl,q⟩:=h
  refine⟨_,(a0e (a3r (a0t a7v (pv 0) a1c (a0z _))
   (a0g (a0u (pv 1)))
   a1d)
   (a0g (a0u a0c))),?_⟩
  unfold a2j at q
  refine⟨_,rfl,rfl,_,rfl,?_⟩
  rw[c7b]
  refine b1n (λ e=>?_) (λ e=>?_)
  ·rw[if_pos (of_decide_eq_true e)] at q
   exact⟨_,rfl,q⟩
  ·rw[if_neg (λ z=>e (decide_eq_true z))] at q
   exact q
--@STAGE
theorem e2x (T:Tx K mg):a4j P w K mg base CX0 1 T.c6f T.c6o ["_law_deals","_law_word"] e9w:=by
 refine T.d3a.ok b3t (λ vs H Q E h=>?_) (λ cdv A outer s H vs Q E hr h=>?_)
 ·obtain⟨v,wo,ds,rfl,_⟩:=h
  rfl
 ·obtain⟨v,wo,ds,rfl,tr,l8,nn,q⟩:=h
  have hu:=a9a hr
  refine⟨_,(a0e (a0n (i:=2) b3t.nd rfl (Or.inl rfl) a7f)
   (a0e (a2q PassesOwn.never rfl (a1t (pv 0)) (b1j rfl (a0s (a0j (i:=3) b3t.nd rfl (Or.inl rfl)) (a0s (a0j (i:=4) b3t.nd rfl (Or.inl rfl)) (a0s (a0j (i:=5) b3t.nd rfl (Or.inl rfl)) a4n))))
   (a0e (a3r (a0t d8q (pv 1) b5s (a0z _))
   (a0g (a0n (i:=4) b3t.nd rfl (Or.inl rfl) (pv 1)))
   a1d)
   (a0g (a7t hu (pv 2) (pv 3) (a2b (a0a (pv 4) (a0a (a1a a1h (by rfl) T.a5u boot_len (a0a (pv 5) a0d)) a0d))) rfl))))
   (a0g (a0u (pv 2))))),?_⟩
  have z9:(2000:Nat)<=sizeLine:=by decide
  obtain⟨dp,xs,rfl,hdp,hx⟩:=b1a tr
  have hxl:xs.length=ds.length:=by rw[hx.len,List.length_map]
  intro e he
  have s0:=Same.upd (o:=HO.dK []) he
  refine⟨_,rfl,dp,rfl,⟨_,SqL.of (s0 _ _ hdp)⟩,a4u (K:=K) (a:=dp) (xs:=xs) (λ i σ H2=>Same H H2/\∃ (x3 x4 x5:Option V) (kvs:List (Key×V)),σ=[some (.ref dp),some (wV wo),some (.ref e),x3,x4,x5]/\H2 e=some (.dK kvs)/\kvs.map (·.1)=(ds.take i).map (λ d=>Sum.inl d.1)/\∀ d∈ds.take i,∃ t,a4l kvs (.inl d.1)=some (.ref t)/\H2 t=some (.tup [.str (a2p wo d),.int (d.2.2.length:Int)])) ⟨s0,none,none,none,[],rfl,a0b,rfl,(λ d hd=>by cases hd)⟩ (λ i σ H2 _ ⟨ss,_⟩=>SqL.of (ss _ _ hdp)) ?_ ?_⟩
  ·rintro i y σ H2 hy ⟨ss,x3,x4,x5,kvs,rfl,hdk,hkeys,hval⟩
   have hi:i < xs.length:=(List.getElem?_eq_some_iff.mp hy).1
   obtain⟨dd,edd,td⟩:=hx.get hy
   rw[List.getElem?_map] at edd
   obtain⟨d,hdi,rfl⟩:=Option.map_eq_some_iff.mp edd
   obtain⟨pd,L,lkv,rfl,hpd,hL,tL⟩:=a6k td
   have ll:lkv.length=d.2.2.length:=by rw[tL.len,List.length_map]
   have tk:ds.take (i+1)=ds.take i++[d]:=by rw[List.take_add_one,hdi];rfl
   have hnt:(Sum.inl d.1:Key) ∉ kvs.map (·.1):=by
    rw[hkeys]
    intro z
    obtain⟨d',hd',e2⟩:=List.mem_map.mp z
    have n2:((ds.take (i+1)).map (·.1)).Nodup:=nn.sublist ((List.take_sublist _ _).map _)
    rw[tk,List.map_append] at n2
    exact absurd (Sum.inl.inj e2) ((List.nodup_append.mp n2).2.2 d'.1 (List.mem_map.mpr ⟨d',hd',rfl⟩) d.1 (by simp))
   have hvn:a4l kvs (.inl d.1)=none:=by
    cases ev:a4l kvs (.inl d.1) with
    | none=>rfl
    | some v=>exact absurd (d3c ev) hnt
   have hkl:kvs.length<=8:=by
    have:=congrArg List.length hkeys
    rw[List.length_map,List.length_map,List.length_take] at this
    omega
   have hpd2:=ss _ _ hpd
   have hL2:=ss _ _ hL
   have fin:∀ (t:Addr),H2 t=none->Same H (upd (upd H2 t (.tup [.str (a2p wo d),.int (d.2.2.length:Int)])) e (.dK (a6v kvs (.inl d.1) (.ref t))))/\upd (upd H2 t (.tup [.str (a2p wo d),.int (d.2.2.length:Int)])) e (.dK (a6v kvs (.inl d.1) (.ref t))) e=some (.dK (a6v kvs (.inl d.1) (.ref t)))/\(a6v kvs (.inl d.1) (.ref t)).map (·.1)=(ds.take (i+1)).map (λ d=>Sum.inl d.1)/\∀ d'∈ds.take (i+1),∃ t',a4l (a6v kvs (.inl d.1) (.ref t)) (.inl d'.1)=some (.ref t')/\upd (upd H2 t (.tup [.str (a2p wo d),.int (d.2.2.length:Int)])) e (.dK (a6v kvs (.inl d.1) (.ref t))) t'=some (.tup [.str (a2p wo d'),.int (d'.2.2.length:Int)]):=λ t ht=>by
    have st:=Same.upd (o:=HO.tup [.str (a2p wo d),.int (d.2.2.length:Int)]) ht
    have te:t≠e:=λ z=>by rw[z,hdk] at ht;cases ht
    refine⟨λ b o eb=>by rw[a0h (λ z=>by rw[z,he] at eb;cases eb)];exact st _ _ (ss _ _ eb),a0b,?_,λ d' hd'=>?_⟩
    ·rw[d3y _ hvn,List.map_append,hkeys,tk,List.map_append]
     rfl
    ·rw[a8l]
     rw[tk] at hd'
     rcases List.mem_append.mp hd' with z | z
     ·have ne:d'.1≠d.1:=λ y=>hnt (by rw[hkeys,<-y];exact List.mem_map.mpr ⟨d',z,rfl⟩)
      rw[if_neg (λ y=>ne (Sum.inl.inj y))]
      obtain⟨t',h1,h2⟩:=hval d' z
      exact⟨t',h1,by rw[a0h (λ y=>by rw[y,hdk] at h2;cases h2)];exact st _ _ h2⟩
     ·rw[List.mem_singleton.mp z,if_pos rfl]
      exact⟨t,rfl,by rw[a0h te];exact a0b⟩
   refine⟨pd,_,rfl,SqT.of hpd2,rfl,_,_,rfl,_,_,rfl,_,_,rfl,rfl,?_⟩
   cases wo with
   | none =>
    refine⟨_,rfl,rfl,_,rfl,b5e ?_⟩
    refine⟨_,rfl,_,rfl,_,_,rfl,.inl ⟨_,SqL.of hL2,rfl⟩,(by show 2<=sizeLine;decide),λ t ht=>⟨_,rfl,_,rfl,e,_,rfl,d5t.k (k:=.inl d.1) (Same.upd ht _ _ hdk) (by omega),?_⟩⟩
    obtain⟨f1,f2,f3,f4⟩:=fin t ht
    rw[ll]
    exact⟨f1,_,_,_,_,rfl,f2,f3,f4⟩
   | some x =>
    refine⟨_,rfl,rfl,_,rfl,c7z ⟨_,rfl,?_⟩⟩
    refine⟨_,rfl,_,rfl,_,_,rfl,.inl ⟨_,SqL.of hL2,rfl⟩,(by show 2<=sizeLine;decide),λ t ht=>⟨_,rfl,_,rfl,e,_,rfl,d5t.k (k:=.inl d.1) (Same.upd ht _ _ hdk) (by omega),?_⟩⟩
    obtain⟨f1,f2,f3,f4⟩:=fin t ht
    rw[ll]
    exact⟨f1,_,_,_,_,rfl,f2,f3,f4⟩
  ·rintro σ H2 ⟨ss,x3,x4,x5,kvs,rfl,hdk,hkeys,hval⟩
   rw[hxl,List.take_length] at hkeys hval
   exact⟨_,rfl,q e H2 ss ⟨kvs,.inl hdk,hkeys,hval⟩⟩
theorem e3b (T:Tx K mg):a4j P w K mg base CX0 1 T.c7x T.c7s ["_law_keeps","_law_makers","_law_source","_law_at"] e9k:=by
 refine T.d1y.ok b9v (λ vs H Q E h=>?_) (λ cdv A outer s H vs Q E hr h=>?_)
 ·obtain⟨ka,ma,kf,ms,ns,src,at0,rfl,_⟩:=h
  rfl
 ·obtain⟨ka,ma,kf,ms,ns,src,at0,rfl,hk,hm,hin,q⟩:=h
  have hu:=a9a hr
  refine⟨_,(a0e (a0n (i:=4) b9v.nd rfl (Or.inl rfl) a0c)
   (a0e (a2q PassesOwn.never rfl (a1t (pv 1)) (a0j (i:=5) b9v.nd rfl (Or.inl rfl))
   (a0g (a3r (a0t c9c (a1f hu (pv 0) (pv 5) (λ _ _=>rfl)) (pv 3) (a0z _))
   (a0g (a0n (i:=4) b9v.nd rfl (Or.inl rfl) (pv 5)))
   a1d)))
   (a0g (a0u (b7j a7v (pv 2) (pv 4) (a0z _)))))),?_⟩
  refine⟨_,rfl,ma,rfl,⟨_,SqL.of hm⟩,a4u (K:=K) (a:=ma) (xs:=ms.map V.int) (λ i σ H2=>H=H2/\∃ (l:Int) (x5:Option V),σ=[some (.ref ka),some (.ref ma),some (.int src),some (.int at0),some (.int l),x5]/\a9v kf at0 0 ms=a9v kf at0 l (ms.drop i)) ⟨rfl,0,none,rfl,rfl⟩ (λ i σ H2 _ ⟨e,_⟩=>e ▸ SqL.of hm) ?_ ?_⟩
  ·rintro i y σ H2 hy ⟨rfl,l,x5,rfl,hf⟩
   rw[List.getElem?_map] at hy
   obtain⟨m,hm1,rfl⟩:=Option.map_eq_some_iff.mp hy
   have hdr:ms.drop i=m::ms.drop (i+1):=by rw[List.drop_eq_getElem_cons (List.getElem?_eq_some_iff.mp hm1).1,(List.getElem?_eq_some_iff.mp hm1).2]
   rw[hdr] at hf
   have hf2:a9v kf at0 0 ms=a9v kf at0 (if kf m < at0 then m else l) (ms.drop (i+1)):=hf
   refine⟨_,rfl,_,rfl,ka,_,rfl,hk.get (hin m (List.mem_of_getElem? hm1)),_,rfl,_,_,rfl,rfl,_,rfl,b1n (λ y=>?_) (λ y=>?_)⟩
   ·rw[if_pos (of_decide_eq_true y)] at hf2
    exact⟨_,rfl,rfl,m,_,rfl,hf2⟩
   ·rw[if_neg (λ z=>y (decide_eq_true z))] at hf2
    exact⟨rfl,l,_,rfl,hf2⟩
  ·rintro σ H2 ⟨rfl,l,x5,rfl,hf⟩
   rw[List.length_map,List.drop_length] at hf
   have hf2:a9v kf at0 0 ms=l:=hf
   rw[hf2,<-d5w] at q
   exact⟨_,rfl,_,rfl,rfl,q⟩
theorem c3h (T:Tx K mg):a4j P w K mg base CX0 1 T.a7l T.a7o ["_law_keeps","_law_firsts","_law_makers"] e9g:=by
 refine T.b1e.ok a4p (λ vs H Q E h=>?_) (λ cdv A outer s H vs Q E hr h=>?_)
 ·obtain⟨ka,fa,ma,kf,ff,ms,ns,rfl,_⟩:=h
  rfl
 ·obtain⟨ka,fa,ma,kf,ff,ms,ns,rfl,hk,hf,hm,hin,hz,q⟩:=h
  have hu:=a9a hr
  refine⟨_,(a0e (a2q PassesOwn.never rfl (a1q rfl T.a2y (a0a (a1a a1h (by rfl) T.a5u boot_len (a0a (pv 2) a0d)) a0d)) (a0j (i:=3) a4p.nd rfl (Or.inl rfl))
   (a0e (a0n (i:=4) a4p.nd rfl (Or.inl rfl) (a1f hu (pv 0) (a0m a0v (pv 2) (pv 3) (λ _ _=>rfl)) (λ _ _=>rfl)))
   (a0g (a2q PassesOwn.never rfl (a1q rfl T.a2y (a0a (a1a a1h (by rfl) T.a5u boot_len (a0a (pv 2) a0d)) a0d)) (a0j (i:=5) a4p.nd rfl (Or.inl rfl))
   (a0e (a0n (i:=6) a4p.nd rfl (Or.inl rfl) (a1f hu (pv 0) (a0m a0v (pv 2) (pv 5) (λ _ _=>rfl)) (λ _ _=>rfl)))
   (a0e (a3r (PW.pt (b4h (a0t c9c (pv 5) (pv 3) (a0z _)) (a9b (a0t e7p (pv 6) (pv 4) (a0z _)))))
   (a0g (a0u b2a))
   a1d)
   (a0g (a3r (PW.pt (b4h (a0t d3h (pv 5) (pv 3) (a0z _)) (a9b (e3q c9c c9c (a1f hu (pv 1) (a0m a0v (pv 2) (pv 3) (λ _ _=>rfl)) (λ _ _=>rfl)) (pv 6) (pv 4)))))
   (a0g (a0u b2a))
   a1d))))))))
   (a0g (a0u b2a))),?_⟩
  have hml:(ms.map V.int).length=ms.length:=List.length_map _
  have hg0:b6v kf ff ms=c5g (λ k=>c5g (λ j=>b3z kf ff (ms.getD k 0) (ms.getD j 0) j k) 0 ms.length) 0 ms.length:=rfl
  refine⟨_,rfl,_,_,rfl,.inl ⟨_,SqL.of hm,rfl⟩,_,rfl,(by rw[hml];omega),(by rw[hml];omega),a2h (n:=(((ms.map V.int).length:Nat):Int).toNat) (λ k σ H2=>H=H2/\∃ (x3 x4 x5 x6:Option V),σ=[some (.ref ka),some (.ref fa),some (.ref ma),x3,x4,x5,x6]/\b6v kf ff ms=c5g (λ k=>c5g (λ j=>b3z kf ff (ms.getD k 0) (ms.getD j 0) j k) 0 ms.length) k ms.length) ⟨rfl,none,none,none,none,rfl,hg0⟩ ?_ ?_⟩
  ·rintro k σ H2 hk' ⟨rfl,x3,x4,x5,x6,rfl,hg⟩
   rw[hml] at hk'
   have hkl:k < ms.length:=by omega
   rw[c2n hkl] at hg
   refine⟨_,rfl,_,rfl,_,rfl,ma,_,_,_,rfl,rfl,SqL.of hm,c5f hkl,ka,_,rfl,hk.get (hin _ (c7r hkl)),?_⟩
   refine⟨_,rfl,_,_,rfl,.inl ⟨_,SqL.of hm,rfl⟩,_,rfl,(by rw[hml];omega),(by rw[hml];omega),a2h (n:=(((ms.map V.int).length:Nat):Int).toNat) (λ j σ H2=>H=H2/\∃ (x5 x6:Option V),σ=[some (.ref ka),some (.ref fa),some (.ref ma),some (.int (0+(k:Int))),some (.int (kf (ms.getD k 0))),x5,x6]/\c5g (λ j=>b3z kf ff (ms.getD k 0) (ms.getD j 0) j k) 0 ms.length=c5g (λ j=>b3z kf ff (ms.getD k 0) (ms.getD j 0) j k) j ms.length) ⟨rfl,x5,x6,rfl,rfl⟩ ?_ ?_⟩
   ·rintro j σ H2 hj' ⟨rfl,x5,x6,rfl,hg2⟩
    rw[hml] at hj'
    have hjl:j < ms.length:=by omega
    rw[c2n hjl] at hg2
    have stop:b3z kf ff (ms.getD k 0) (ms.getD j 0) j k=false->Q (.bl false) H:=λ z=>by
     rw[z,Bool.false_and] at hg2
     rw[hg2,Bool.false_and] at hg
     rw[hg] at q
     exact q
    refine⟨_,rfl,_,rfl,_,rfl,ma,_,_,_,rfl,rfl,SqL.of hm,c5f hjl,ka,_,rfl,hk.get (hin _ (c7r hjl)),?_⟩
    have second:(decide (j < k) && decide (kf (ms.getD k 0)<=kf (ms.getD j 0)))=false->∀ (D:c4f),(b3z kf ff (ms.getD k 0) (ms.getD j 0) j k=true->D.nx [some (.ref ka),some (.ref fa),some (.ref ma),some (.int (0+(k:Int))),some (.int (kf (ms.getD k 0))),some (.int (0+(j:Int))),some (.int (kf (ms.getD j 0)))] H)->(b3z kf ff (ms.getD k 0) (ms.getD j 0) j k=false->D.rt (.bl false) H)->f3r (f3v (e3y (tOp rNe (d2o 5) (d2o 3))) (e3y (e5h (rI0 λ i j=>V.bl (decide (i < j))) (rI0 λ i j=>V.bl (decide (i < j))) (e4b (d2o 1) (tOp (f1j K) (d2o 2) (d2o 3))) (d2o 6) (d2o 4)))) (f3n (tC (V.bl false))) f0r D [some (.ref ka),some (.ref fa),some (.ref ma),some (.int (0+(k:Int))),some (.int (kf (ms.getD k 0))),some (.int (0+(j:Int))),some (.int (kf (ms.getD j 0)))] H:=λ e1 D d1 d2=>by
     have ec:b3z kf ff (ms.getD k 0) (ms.getD j 0) j k=!(decide (j≠k) && (decide (ff (ms.getD k 0) < kf (ms.getD j 0)) && decide (kf (ms.getD j 0) < kf (ms.getD k 0)))):=by
      unfold b3z
      rw[e1]
      rfl
     rw[ec] at d1 d2
     refine⟨_,rfl,_,rfl,rfl,_,rfl,?_⟩
     have ejk:(!decide (V.int (0+(j:Int))=V.int (0+(k:Int))))=decide (j≠k):=by
      rw[d5w]
      by_cases z:j=k
      ·rw[z];simp
      ·rw[decide_eq_true z,decide_eq_false (by omega)];rfl
     rw[ejk]
     refine b1n (λ y=>?_) (λ y=>?_)
     ·rw[y,Bool.true_and] at d1 d2
      refine⟨_,rfl,_,rfl,_,rfl,ma,_,_,_,rfl,rfl,SqL.of hm,c5f hkl,fa,_,rfl,hf.get (hin _ (c7r hkl)),?_⟩
      refine⟨_,rfl,_,_,rfl,rfl,_,rfl,b1n (λ y1=>?_) (λ y1=>?_)⟩
      ·rw[y1,Bool.true_and] at d1 d2
       refine⟨_,rfl,_,_,rfl,rfl,_,rfl,b1n (λ y2=>?_) (λ y2=>?_)⟩
       ·rw[y2] at d2
        exact d2 rfl
       ·rw[Bool.eq_false_iff.mpr y2] at d1
        exact d1 rfl
      ·rw[Bool.eq_false_iff.mpr y1,Bool.false_and] at d1
       exact⟨_,rfl,b5e (d1 rfl)⟩
     ·rw[Bool.eq_false_iff.mpr y,Bool.false_and] at d1
      exact b5e (d1 rfl)
    have ej:decide ((0:Int)+(j:Int) < 0+(k:Int))=decide (j < k):=by
     by_cases z:j < k
     ·rw[decide_eq_true z,decide_eq_true (by omega)]
     ·rw[decide_eq_false z,decide_eq_false (by omega)]
    have go:b3z kf ff (ms.getD k 0) (ms.getD j 0) j k=true->H=H/\∃ (x5 x6:Option V),[some (V.ref ka),some (.ref fa),some (.ref ma),some (.int (0+(k:Int))),some (.int (kf (ms.getD k 0))),some (.int (0+(j:Int))),some (.int (kf (ms.getD j 0)))]=[some (.ref ka),some (.ref fa),some (.ref ma),some (.int (0+(k:Int))),some (.int (kf (ms.getD k 0))),x5,x6]/\c5g (λ j=>b3z kf ff (ms.getD k 0) (ms.getD j 0) j k) 0 ms.length=c5g (λ j=>b3z kf ff (ms.getD k 0) (ms.getD j 0) j k) (j+1) ms.length:=λ z=>⟨rfl,_,_,rfl,by rw[hg2,z,Bool.true_and]⟩
    refine⟨_,rfl,_,rfl,_,_,rfl,rfl,_,rfl,?_⟩
    rw[ej]
    refine b1n (λ y=>?_) (λ y=>?_)
    ·refine⟨_,rfl,_,rfl,_,_,rfl,rfl,_,rfl,b1n (λ y2=>?_) (λ y2=>?_)⟩
     ·refine stop ?_
      unfold b3z
      rw[y,y2]
      rfl
     ·exact second (by rw[y,Bool.eq_false_iff.mpr y2];rfl) _ go stop
    ·exact b5e (second (by rw[Bool.eq_false_iff.mpr y];rfl) _ go stop)
   ·rintro σ H2 ⟨rfl,x5,x6,rfl,hg2⟩
    have e:(((ms.map V.int).length:Nat):Int).toNat=ms.length:=by rw[hml];omega
    rw[e,c6i] at hg2
    rw[hg2,Bool.true_and] at hg
    exact⟨rfl,_,_,_,_,rfl,hg⟩
  ·rintro σ H2 ⟨rfl,x3,x4,x5,x6,rfl,hg⟩
   have e:(((ms.map V.int).length:Nat):Int).toNat=ms.length:=by rw[hml];omega
   rw[e,c6i] at hg
   rw[hg] at q
   exact q
theorem d6a (T:Tx K mg):a4j P w K mg base CX0 2 T.b5z T.b5f ["_law_ways_here","_law_order"] e3d:=by
 refine T.c1r.ok a3p (λ vs H Q E h=>?_) (λ cdv A outer s H vs Q E hr h=>?_)
 ·obtain⟨e,o,wo,ds,ys,os,rfl,_⟩:=h
  rfl
 ·obtain⟨e,o,wo,ds,ys,os,rfl,hw,h40,l8,ho,hn,hz,q0,q1⟩:=h
  have hu:=a9a hr
  refine⟨_,(a0e (a0n (i:=2) a3p.nd rfl (Or.inl rfl) e3o)
   (a0e (a2q PassesOwn.never rfl (a1q rfl T.a2y (a0a (a1a a1h (by rfl) T.a5u boot_len (a0a (pv 1) a0d)) a0d)) (a0j (i:=3) a3p.nd rfl (Or.inl rfl))
   (a0g (a7t hu (pv 2) (a0m a0v (pv 1) (pv 3) (λ _ _=>rfl)) (pv 3) rfl)))
   (a0e (a0n (i:=4) a3p.nd rfl (Or.inl rfl) a0c)
   (a0e (a2q PassesOwn.never rfl (e3v (pv 0)) (a0j (i:=5) a3p.nd rfl (Or.inl rfl))
   (a0e (a0n (i:=6) a3p.nd rfl (Or.inl rfl) (a0l ((b2q T).mono (by decide)) hr rfl T.b2v T.b0u.kp T.b3n .nil a1l (a0a (a0m a0w (a1f hu (pv 0) (pv 5) (λ _ _=>rfl)) a0c (λ _ _=>rfl)) (a0a (a0m a0w (a1f hu (pv 0) (pv 5) (λ _ _=>rfl)) a0c (λ _ _=>rfl)) a0d))))
   (a0e (a0n (i:=4) a3p.nd rfl (Or.inl rfl) (a0x a3v (pv 4) (pv 6)))
   (a0e (a0n (i:=7) a3p.nd rfl (Or.inl rfl) (d5j c4e a0c))
   (a0g (a2q PassesOwn.never rfl (a1q rfl T.a2y (a0a (pv 6) a0d)) (a0j (i:=8) a3p.nd rfl (Or.inl rfl))
   (a0e (a3r (a0t f2u (b3w hu (pv 2) (a2b (a0a (pv 5) (a0a (pv 8) a0d))) (d5j c4e a0c) ⟨rfl,rfl,rfl,rfl⟩) (pv 7) (a0z _))
   (a0g (a0u b5s))
   a1d)
   (a0g (a0n (i:=7) a3p.nd rfl (Or.inl rfl) (a1f hu (pv 2) (a2b (a0a (pv 5) (a0a (pv 8) a0d))) (λ _ _=>rfl)))))))))))
   (a0e (a3r (a0t d3h (pv 4) (a1a a1h (by rfl) T.a5u boot_len (a0a (pv 1) a0d)) (a0z _))
   (a0g (a0u b5s))
   a1d)
   (a0g (a0u (pv 2)))))))),?_⟩
  have z9:(2000:Nat)<=sizeLine:=by decide
  have hyl:=a6g hn
  intro t ht
  have s0:=Same.upd (o:=HO.dT []) ht
  refine⟨_,rfl,_,_,rfl,.inl ⟨_,SqL.of (s0 _ _ ho),rfl⟩,_,rfl,(by omega),(by omega),a2h (n:=((ys.length:Nat):Int).toNat) (λ k σ H2=>Same H H2/\∃ (x3:Option V),σ=[some (.ref e),some (.ref o),some (.ref t),x3,none,none,none,none,none]/\AtD H2 t (os.take k)) ⟨s0,none,rfl,[],a0b,Nat.le_refl _,λ q=>rfl⟩ ?_ ?_⟩
  ·rintro k σ H2 hk ⟨ss,x3,rfl,kvs,hdk,hkl,hv⟩
   have hk':k < ys.length:=by omega
   obtain⟨y,hy⟩:∃ y,ys[k]?=some y:=⟨_,List.getElem?_eq_getElem hk'⟩
   obtain⟨nk,hnk,c,rfl,hc⟩:=a2a hn hy
   have tk:os.take (k+1)=os.take k++[nk]:=by rw[List.take_add_one,hnk];rfl
   have hlt:(os.take k).length=k:=by rw[List.length_take];omega
   refine⟨_,rfl,_,rfl,_,rfl,_,rfl,o,_,_,_,rfl,rfl,SqL.of (ss _ _ ho),(by rw[Int.zero_add];exact a0i hy),t,_,rfl,d5t.t (k:=kN2 nk) hdk (ss _ _ hc) (by omega),λ b x eb=>by rw[a0h (λ z=>by rw[z,ht] at eb;cases eb)];exact ss _ _ eb,_,rfl,_,a0b,?_,λ q=>?_⟩
   ·refine Nat.le_trans (a3z kvs (kN2 nk) _) ?_
    rw[tk,List.length_append,List.length_singleton]
    omega
   ·rw[a8l,tk,c4k]
    by_cases z:nk=q
    ·rw[if_pos (by rw[z]),if_pos z,if_neg (by omega),hlt,Int.zero_add]
    ·rw[if_neg (λ y=>f0i z y.symm),if_neg z]
     exact hv q
  rintro σ H1 ⟨s1,x3,rfl,hat⟩
  have e1:((ys.length:Nat):Int).toNat=os.length:=by omega
  rw[e1,List.take_length] at hat
  obtain⟨akv,hak,hakl,hav⟩:=hat
  obtain⟨kvs,hrd,hkeys,hval⟩:=hw.kf (KF.of s1)
  have hkl:kvs.length=ds.length:=by
   have:=congrArg List.length hkeys
   rw[List.length_map,List.length_map] at this
   exact this
  have hte:t≠e:=λ z=>by
   obtain⟨k0,hr0,_⟩:=hw
   rcases hr0 with y | ⟨_,y⟩<;>(rw[<-z,ht] at y;cases y)
  have hgk:∀ (i:Nat) k x,kvs[i]?=some (k,x)->∃ d,ds[i]?=some d/\k=.inl d.1:=λ i k x ei=>by
   have h1:(kvs.map (·.1))[i]?=some k:=by rw[List.getElem?_map,ei];rfl
   rw[hkeys,List.getElem?_map] at h1
   obtain⟨d,hd,rfl⟩:=Option.map_eq_some_iff.mp h1
   exact⟨d,hd,rfl⟩
  have hpb:a9g wo ds os=((ds.all λ d=>b1f os d.1 (-1) (b7s wo d)) && decide ((ds.map λ d=>a0q (a2p wo d) (d.2.2.length:Int)).sum=(os.length:Int))):=rfl
  refine⟨_,rfl,e,kvs,rfl,hrd,λ ob H2 h2 k2 n2=>?_⟩
  have kH2:=(KF.of s1).trans k2
  have hak2:H2 t=some (.dT akv):=by
   rcases k2 t _ hak with y | ⟨_,_,y,_⟩
   ·exact y
   ·cases y
  have keepN:∀ {H3:Hp},Same H2 H3->KF H H3:=λ s3=>kH2.trans (KF.of s3)
  refine d4d (d:=e) (ob:=ob) (kvs:=kvs) (λ i σ H3=>Same H2 H3/\∃ (x5 x6 x7 x8:Option V),σ=[some (.ref e),some (.ref o),some (.ref t),x3,some (.int ((ds.take i).map λ d=>a0q (a2p wo d) (d.2.2.length:Int)).sum),x5,x6,x7,x8]/\(ds.all λ d=>b1f os d.1 (-1) (b7s wo d))=((ds.drop i).all λ d=>b1f os d.1 (-1) (b7s wo d))) ⟨Same.refl _,none,none,none,none,rfl,rfl⟩ (λ i σ H3 ⟨ss,_⟩=>ss _ _ h2) ?_ ?_
  ·rintro i kk x σ H3 hkx ⟨s3,x5,x6,x7,x8,rfl,hall⟩
   obtain⟨d,hdi,rfl⟩:=hgk i kk x hkx
   have hdm:d∈ds:=List.mem_of_getElem? hdi
   obtain⟨td,hv1,ht1⟩:=hval d hdm
   have ht3:=s3 _ _ (k2.tup ht1)
   have hrd3:Rd H3 e (.dK kvs):=.inr ⟨ob,s3 _ _ h2⟩
   have hdr:ds.drop i=d::ds.drop (i+1):=by rw[List.drop_eq_getElem_cons (List.getElem?_eq_some_iff.mp hdi).1,(List.getElem?_eq_some_iff.mp hdi).2]
   rw[hdr,List.all_cons] at hall
   have sr:=c4v (w:=a2p wo d) (l:=(d.2.2.length:Int)) (by omega) (by have:=h40 d hdm;omega)
   have stk:((ds.take (i+1)).map λ d=>a0q (a2p wo d) (d.2.2.length:Int)).sum=((ds.take i).map λ d=>a0q (a2p wo d) (d.2.2.length:Int)).sum+a0q (a2p wo d) (d.2.2.length:Int):=by
    rw[List.take_add_one,hdi,List.map_append,List.sum_append]
    show _+[_].sum=_
    simp
   refine⟨_,rfl,_,rfl,e,_,rfl,.inl ⟨kvs,.inl d.1,hrd3,rfl,hv1.symm⟩,td,_,_,_,rfl,rfl,SqT.of ht3,a0i (j:=0) rfl,_,rfl,_,rfl,e,_,rfl,.inl ⟨kvs,.inl d.1,hrd3,rfl,hv1.symm⟩,td,_,_,_,rfl,rfl,SqT.of ht3,a0i (j:=1) rfl,a2p wo d,(d.2.2.length:Int),rfl,?_⟩
   refine⟨_,rfl,_,rfl,_,_,rfl,rfl,?_⟩
   have hr0:b1f os d.1 (-1) (b7s wo d)=b1f os d.1 (-1) ((b7s wo d).drop 0):=rfl
   have hpl:(b7s wo d).length=(a0q (a2p wo d) (d.2.2.length:Int)).toNat:=by unfold b7s;rw[List.length_map,List.length_range]
   refine⟨_,rfl,?_⟩
   refine⟨_,rfl,_,rfl,(by omega),(by omega),a2h (n:=(a0q (a2p wo d) (d.2.2.length:Int)).toNat) (λ j σ H4=>Same H2 H4/\∃ (l:Int) (x8:Option V),σ=[some (.ref e),some (.ref o),some (.ref t),x3,some (.int (((ds.take i).map λ d=>a0q (a2p wo d) (d.2.2.length:Int)).sum+a0q (a2p wo d) (d.2.2.length:Int))),some (.int d.1),some (.int (a0q (a2p wo d) (d.2.2.length:Int))),some (.int l),x8]/\-1<=l/\b1f os d.1 (-1) (b7s wo d)=b1f os d.1 l ((b7s wo d).drop j)) ⟨s3,-1,x8,rfl,Int.le_refl _,hr0⟩ ?_ ?_⟩
   ·rintro j σ H4 hj ⟨s4,l,x8,rfl,hl1,hr1⟩
    have epl:(b7s wo d)[j]?=some (j:Int):=by
     unfold b7s
     rw[List.getElem?_map,List.getElem?_range hj]
     rfl
    have hdj:(b7s wo d).drop j=(j:Int)::(b7s wo d).drop (j+1):=by rw[List.drop_eq_getElem_cons (List.getElem?_eq_some_iff.mp epl).1,(List.getElem?_eq_some_iff.mp epl).2]
    rw[hdj] at hr1
    have hr2:b1f os d.1 (-1) (b7s wo d)=if a1m os (d.1,(j:Int))<=l then false else b1f os d.1 (a1m os (d.1,(j:Int))) ((b7s wo d).drop (j+1)):=hr1
    have hak4:=s4 _ _ hak2
    refine⟨_,rfl,t,rfl,.inr ⟨_,.inl hak4⟩,_,rfl,_,rfl,(by show 2<=sizeLine;decide),λ g hg=>?_⟩
    have sg:=Same.upd (o:=HO.tup [.int d.1,.int (0+(j:Int))]) hg
    have ezj:(0:Int)+(j:Int)=(j:Int):=Int.zero_add _
    refine⟨_,rfl,_,.inr ⟨akv,kN2 (d.1,0+(j:Int)),g,.inl (sg _ _ hak4),rfl,a0b,rfl⟩,?_⟩
    rw[hav,ezj]
    rw[ezj] at sg
    have eg:(if a1m os (d.1,(j:Int)) < 0 then none else some (V.int (a1m os (d.1,(j:Int))))).getD (V.int (-1))=V.int (a1m os (d.1,(j:Int))):=by
     have:=e2k (d.1,(j:Int)) os
     by_cases z:a1m os (d.1,(j:Int)) < 0
     ·rw[if_pos z]
      show V.int (-1)=_
      congr 1
      omega
     ·rw[if_neg z];rfl
    show ∃ v,_/\rI0 _ ((if a1m os (d.1,(j:Int)) < 0 then none else some (V.int (a1m os (d.1,(j:Int))))).getD (V.int (-1))) v _ _
    rw[eg]
    refine⟨_,rfl,_,_,rfl,rfl,_,rfl,b1n (λ y=>?_) (λ y=>?_)⟩
    ·have y':=of_decide_eq_true y
     rw[if_pos y'] at hr2
     refine q0 ?_ _ (keepN (s4.trans sg))
     rw[hpb,hall,hr2,Bool.false_and,Bool.false_and]
    ·have y':¬ a1m os (d.1,(j:Int))<=l:=λ z=>y (decide_eq_true z)
     rw[if_neg y'] at hr2
     refine⟨_,rfl,_,rfl,_,rfl,(by show 2<=sizeLine;decide),λ g2 hg2=>?_⟩
     have sg2:=Same.upd (o:=HO.tup [.int d.1,.int (j:Int)]) hg2
     refine⟨t,.int (a1m os (d.1,(j:Int))),rfl,.inr ⟨akv,kN2 (d.1,(j:Int)),g2,.inl (sg2 _ _ (sg _ _ hak4)),rfl,a0b,?_⟩,?_⟩
     ·rw[hav,if_neg (by omega)]
     ·exact⟨s4.trans (sg.trans sg2),_,_,rfl,by omega,hr2⟩
   ·rintro σ H4 ⟨s4,l,x8,rfl,hl1,hr1⟩
    rw[<-hpl,List.drop_length] at hr1
    have:b1f os d.1 (-1) (b7s wo d)=true:=hr1
    rw[this,Bool.true_and] at hall
    exact⟨s4,some (.int d.1),some (.int (a0q (a2p wo d) (d.2.2.length:Int))),some (.int l),x8,by rw[stk],hall⟩
  ·rintro σ H3 ⟨s3,x5,x6,x7,x8,rfl,hall⟩
   rw[hkl,List.drop_length] at hall
   rw[hkl,List.take_length]
   have hall':(ds.all λ d=>b1f os d.1 (-1) (b7s wo d))=true:=hall
   have ho3:=(keepN s3).lst ho
   refine⟨_,rfl,_,rfl,_,_,rfl,.inl ⟨_,SqL.of ho3,rfl⟩,rfl,_,rfl,?_⟩
   rw[d5w,hyl]
   by_cases z:(ds.map λ d=>a0q (a2p wo d) (d.2.2.length:Int)).sum=(os.length:Int)
   ·rw[decide_eq_true z]
    refine b5e ?_
    refine⟨_,rfl,q1 ?_ t H3 (keepN s3) ⟨akv,s3 _ _ hak2,hakl,hav⟩⟩
    rw[hpb,hall',decide_eq_true z]
    rfl
   ·rw[decide_eq_false z]
    refine c7z ?_
    refine q0 ?_ _ (keepN s3)
    rw[hpb,decide_eq_false z,Bool.and_false]
--@STAGE
def a3t (w:Option Str) (p:Ps) (os:List Nk) (n:Int):Int:=match c2e p n with
 | some d=>a1m os (d.1,a0q (a2p w d) (d.2.2.length:Int) - 1)
 | none=>0
def a7q (w:Option Str) (p:Ps) (os:List Nk) (n:Int):Int:=match c2e p n with
 | some d=>a1m os (d.1,a2j (a2p w d) (d.2.2.length:Int))
 | none=>0
def b8z (p:Ps) (k:Int):List Int:=((p.2.find? λ r=>decide (r.1=k)).map (·.2)).getD []
def c0n (os:List Nk) (q:Nk):Int:=if a1m os q < 0 then 0 else a1m os q
def d1j (w:Option Str) (p:Ps) (os:List Nk) (d:Dl) (k:Nat) (q:Pr):Bool:=decide (a2p w d="loose") || decide (q.2=a9v (a3t w p os) (c0n os (d.1,a3e (a2p w d) (k:Int))) 0 (b8z p q.1))
def c7j (w:Option Str) (p:Ps) (os:List Nk) (d:Dl) (k:Nat):Bool:=(d.2.2.getD k []).all (d1j w p os d k)
def b9a (w:Option Str) (p:Ps) (os:List Nk) (d:Dl):Bool:=c5g (c7j w p os d) 0 d.2.2.length
def d4a (w:Option Str) (p:Ps) (os:List Nk):Bool:=a9g w p.1 os && ((p.2.all λ r=>b6v (a3t w p os) (a7q w p os) r.2) && p.1.all (b9a w p os))
def f1t:Sp:=λ vs H Q _=>∃ (v:V) (o:Addr) (p:Ps) (w:Option Str) (ys:List V) (os:List Nk),vs=[v,.ref o,wV w]/\Tr H v (a3j p)/\c3i p/\d1v p/\e7w p/\(p.2.map (·.1)).Nodup/\H o=some (.lst ys)/\Nds H ys os/\os.length<=1000/\∀ H',KF H H'->Q (.bl (d4a w p os)) H'
theorem c9o {os:List Nk} {n:Int}:∀ {pls:List Int} {l:Int},-1<=l->b1f os n l pls=true->∀ pl∈pls,l < a1m os (n,pl)
 | [],_,_,_,pl,h=>by cases h
 | x::r,l,hl,h,pl,hm=>by
  have h':(if a1m os (n,x)<=l then false else b1f os n (a1m os (n,x)) r)=true:=h
  by_cases z:a1m os (n,x)<=l
  ·rw[if_pos z] at h'
   cases h'
  ·rw[if_neg z] at h'
   rcases List.mem_cons.mp hm with e | e
   ·rw[e];omega
   ·have:=c9o (by omega) h' pl e
    omega
theorem c6t {w:Option Str} {d:Dl} {pl:Int} (h0:0<=pl) (h1:pl < a0q (a2p w d) (d.2.2.length:Int)):pl∈b7s w d:=by
 unfold b7s
 exact List.mem_map.mpr ⟨pl.toNat,List.mem_range.mpr (by omega),Int.toNat_of_nonneg h0⟩
theorem d2z {K:PySem.W.Frag} {H:Hp}:∀ {mv:List V} {mk:List Mkr},Trs H mv (mk.map a4z)->∃ kvs,d6q K H mv kvs/\kvs.map (·.1)=mk.map (λ r=>Sum.inl r.1)/\∀ r∈mk,∃ l,(Sum.inl r.1,V.ref l)∈kvs/\H l=some (.lst (r.2.map V.int))
 | _,[],h=>by
  cases h
  exact⟨[],.nil,rfl,λ r hr=>by cases hr⟩
 | _,m::t,h=>by
  cases h with
  | cons h1 h2 =>
   obtain⟨kvs,a1,a2,a3⟩:=d2z (K:=K) h2
   obtain⟨b,l,rfl,hb,hl⟩:=c1b h1
   refine⟨(.inl m.1,.ref l)::kvs,.cons (SqT.of hb) a1,by rw[List.map_cons,List.map_cons,a2],λ r hr=>?_⟩
   rcases List.mem_cons.mp hr with e | e
   ·rw[e];exact⟨l,.head _,hl⟩
   ·obtain⟨l',m1,m2⟩:=a3 r e
    exact⟨l',.tail _ m1,m2⟩
theorem e4k {p:Ps} {kvs:List (Key×V)} {H:Hp} (nn:(p.2.map (·.1)).Nodup) (h2:kvs.map (·.1)=p.2.map (λ r=>Sum.inl r.1)) (h3:∀ r∈p.2,∃ l,(Sum.inl r.1,V.ref l)∈kvs/\H l=some (.lst (r.2.map V.int))) (k:Int):(∃ l,a4l kvs (.inl k)=some (.ref l)/\H l=some (.lst ((b8z p k).map V.int)))\/(a4l kvs (.inl k)=none/\b8z p k=[]):=by
 have nd:(kvs.map (·.1)).Nodup:=by rw[h2];exact List.pairwise_map.mpr (List.Pairwise.imp (λ z e=>z (Sum.inl.inj e)) (List.pairwise_map.mp nn))
 unfold b8z
 cases e:p.2.find? (λ r=>decide (r.1=k)) with
 | none =>
  refine .inr ⟨?_,rfl⟩
  cases ev:a4l kvs (.inl k) with
  | none=>rfl
  | some v =>
   have m:=d3c ev
   rw[h2] at m
   obtain⟨r,hr,e2⟩:=List.mem_map.mp m
   have:=List.find?_eq_none.mp e r hr
   exact absurd (decide_eq_true (Sum.inl.inj e2)) this
 | some r =>
  have hr:=List.mem_of_find?_eq_some e
  have hk:r.1=k:=of_decide_eq_true (List.find?_some (p:=λ r:Mkr=>decide (r.1=k)) e)
  obtain⟨l,m1,m2⟩:=h3 r hr
  exact .inl ⟨l,by rw[<-hk];exact b3g nd m1,m2⟩
theorem KI.sm {H H':Hp} (s:Same H H') {e:Addr} {f:Int->Int} {ns:List Int} (h:KI H e f ns):KI H' e f ns:=let ⟨kvs,a,b⟩:=h;⟨kvs,s _ _ a,b⟩
theorem f2c {c:Bool} {A B:Prop} (h:c=true) (a:A):if c=true then A else B:=by rw[if_pos h];exact a
theorem e7e (T:Tx K mg):a4j P w K mg base CX0 3 T.d3v T.d5c ["_law_past_here","_law_order","_law_word"] f1t:=by
 refine T.d7f.ok a3d (λ vs H Q E h=>?_) (λ cdv A outer s H vs Q E hr h=>?_)
 ·obtain⟨v,o,p,wo,ys,os,rfl,_⟩:=h
  rfl
 ·obtain⟨v,o,p,wo,ys,os,rfl,tr,gp,gm,inm,nk,ho,hn,hz,q⟩:=h
  have hu:=a9a hr
  refine⟨_,(a0e (a0n (i:=3) a3d.nd rfl (Or.inl rfl) (a0l ((e2x T).mono (by decide)) hr rfl T.e0o T.d3a.kp T.d7l .nil a1l (a0a (a0m a0w (pv 0) a0c (λ _ _=>rfl)) (a0a (pv 2) a0d))))
   (a0e (a0n (i:=4) a3d.nd rfl (Or.inl rfl) (a0l ((d6a T).mono (by decide)) hr rfl T.c8j T.c1r.kp T.d0l .nil a1l (a0a (pv 3) (a0a (pv 1) a0d))))
   (a0e (a3r (a0t d7h (pv 4) b5s (a0z _))
   (a0g (a0u b2a))
   a1d)
   (a0e (a0n (i:=5) a3d.nd rfl (Or.inl rfl) a7f)
   (a0e (a0n (i:=6) a3d.nd rfl (Or.inl rfl) a7f)
   (a0e (a2q PassesOwn.never rfl (e2l (pv 3)) (a0j (i:=7) a3d.nd rfl (Or.inl rfl))
   (a0e (b8j (a1f hu (pv 3) (pv 7) (λ _ _=>rfl)) (b1j rfl (a0s (a0j (i:=8) a3d.nd rfl (Or.inl rfl)) (a0s (a0j (i:=9) a3d.nd rfl (Or.inl rfl)) a4n))))
   (a0e (a7t hu (pv 5) (pv 7) (a1f hu (pv 4) (a2b (a0a (pv 7) (a0a (a0x c4l (a0l ((b2q T).mono (by decide)) hr rfl T.b2v T.b0u.kp T.b3n .nil a1l (a0a (pv 8) (a0a (pv 9) a0d))) a0c) a0d))) (λ _ _=>rfl)) rfl)
   (a0g (a7t hu (pv 6) (pv 7) (a1f hu (pv 4) (a2b (a0a (pv 7) (a0a (a0l ((c9s T).mono (by decide)) hr rfl T.c5k T.b9z.kp T.c5r .nil a1l (a0a (pv 8) (a0a (pv 9) a0d))) a0d))) (λ _ _=>rfl)) rfl)))))
   (a0e (a0n (i:=10) a3d.nd rfl (Or.inl rfl) (a2i (a7r (K:=K) rfl rfl) (by rfl) T.b6b boot_dict (a0a (a0m a0w (pv 0) a0c (λ _ _=>rfl)) a0d)))
   (a0e (a2q PassesOwn.never rfl (a1t (a0m a0w (pv 0) a0c (λ _ _=>rfl))) (b1j rfl (a0s (a0j (i:=11) a3d.nd rfl (Or.inl rfl)) (a0s (a0j (i:=12) a3d.nd rfl (Or.inl rfl)) a4n)))
   (a0g (a3r (c8g (c2y (a0l ((c3h T).mono (by decide)) hr rfl T.b5m T.b1e.kp T.b6x .nil a1l (a0a (pv 5) (a0a (pv 6) (a0a (pv 12) a0d))))))
   (a0g (a0u b2a))
   a1d)))
   (a0e (a2q PassesOwn.never rfl (a1t (a0m a0w (pv 0) a0c (λ _ _=>rfl))) (b1j rfl (a0s (a0j (i:=7) a3d.nd rfl (Or.inl rfl)) (a0s (a0j (i:=13) a3d.nd rfl (Or.inl rfl)) (a0s (a0j (i:=9) a3d.nd rfl (Or.inl rfl)) a4n))))
   (a0e (a0n (i:=8) a3d.nd rfl (Or.inl rfl) (a0m a0w (a1f hu (pv 3) (pv 7) (λ _ _=>rfl)) a0c (λ _ _=>rfl)))
   (a0g (a2q PassesOwn.never rfl (a1q rfl T.a2y (a0a (a1a a1h (by rfl) T.a5u boot_len (a0a (pv 9) a0d)) a0d)) (a0j (i:=14) a3d.nd rfl (Or.inl rfl))
   (a0e (a0n (i:=15) a3d.nd rfl (Or.inl rfl) (b3w hu (pv 4) (a2b (a0a (pv 7) (a0a (a0l ((d0p T).mono (by decide)) hr rfl T.c5n T.b9t.kp T.c7q .nil a1l (a0a (pv 8) (a0a (pv 14) a0d))) a0d))) a0c ⟨rfl,rfl,rfl,rfl⟩))
   (a0g (a2q PassesOwn.never rfl (a1t (a0m a0v (pv 9) (pv 14) (λ _ _=>rfl))) (b1j rfl (a0s (a0j (i:=11) a3d.nd rfl (Or.inl rfl)) (a0s (a0j (i:=16) a3d.nd rfl (Or.inl rfl)) a4n)))
   (a0e (a0n (i:=12) a3d.nd rfl (Or.inl rfl) (b3w hu (pv 10) (pv 11) (a1o a0d) ⟨rfl,rfl,rfl,rfl⟩))
   (a0g (a3r (PW.pt (b4h (a0t d3h (pv 8) a1c (a0z _)) (a9b (c8g (c2y (a0l ((e3b T).mono (by decide)) hr rfl T.e0p T.d1y.kp T.d7m .nil a1l (a0a (pv 5) (a0a (pv 12) (a0a (pv 16) (a0a (pv 15) a0d))))))))))
   (a0g (a0u b2a))
   a1d))))))))))
   (a0g (a0u b2a))))))))))),?_⟩
  have z9:(2000:Nat)<=sizeLine:=by decide
  obtain⟨a,l,m,lv,mv,rfl,ha,hl,tl,hm,tm⟩:=a5r tr
  have hyl:=a6g hn
  have hdue:d4a wo p os=(a9g wo p.1 os && ((p.2.all λ r=>b6v (a3t wo p os) (a7q wo p os) r.2) && p.1.all (b9a wo p os))):=rfl
  refine⟨_,rfl,a,_,_,_,rfl,rfl,SqT.of ha,a0i (j:=0) rfl,_,rfl,.ref l,wo,p.1,rfl,.lst hl tl,gp.1,gp.2.1,λ e H1 s1 hw=>?_⟩
  refine⟨_,rfl,_,rfl,e,o,wo,p.1,ys,os,rfl,hw,(λ d hd=>(gp.2.2 d hd).2),gp.1,s1 _ _ ho,a4m s1 hn,hz,λ hpb H2 k2=>?_,λ hpb t H2 k2 hat=>?_⟩
  ·refine⟨_,rfl,rfl,_,rfl,c7z ?_⟩
   have hb:d4a wo p os=false:=by rw[hdue,hpb];rfl
   rw[hb] at q
   exact q H2 ((KF.of s1).trans k2)
  rw[hpb,Bool.true_and] at hdue
  refine⟨_,rfl,rfl,_,rfl,b5e ?_⟩
  have k02:=(KF.of s1).trans k2
  obtain⟨akv,hak,hakl,hav⟩:=hat
  obtain⟨kvs,hrd,hkeys,hval⟩:=hw.kf k2
  have hkl:kvs.length=p.1.length:=by
   have:=congrArg List.length hkeys
   rw[List.length_map,List.length_map] at this
   exact this
  have hgk:∀ (i:Nat) k x,kvs[i]?=some (k,x)->∃ d,p.1[i]?=some d/\k=.inl d.1:=λ i k x ei=>by
   have h1:(kvs.map (·.1))[i]?=some k:=by rw[List.getElem?_map,ei];rfl
   rw[hkeys,List.getElem?_map] at h1
   obtain⟨d,hd,rfl⟩:=Option.map_eq_some_iff.mp h1
   exact⟨d,hd,rfl⟩
  intro ka hka fa hfa
  have hkf:fa≠ka:=λ z=>by rw[z,a0b] at hfa;cases hfa
  have hfa2:H2 fa=none:=by rwa [a0h hkf] at hfa
  have s4:=(Same.upd (o:=HO.dK []) hka).trans (Same.upd (o:=HO.dK []) hfa)
  have c2g:∀ {b:Addr} {x:HO},H2 b=some x->b≠ka/\b≠fa:=λ eb=>⟨(λ z=>by rw[z,hka] at eb;cases eb),(λ z=>by rw[z,hfa2] at eb;cases eb)⟩
  have hne:e≠ka/\e≠fa:=by
   rcases hrd with y | ⟨_,y⟩<;>exact c2g y
  refine⟨_,rfl,e,kvs,rfl,(KF.of s4).rd hrd,λ ob H5 h5 k5 n5=>?_⟩
  have h5k:H5 ka=some (.dK []):=by rw[n5 ka hne.1.symm,a0h hkf.symm];exact a0b
  have h5f:H5 fa=some (.dK []):=by rw[n5 fa hne.2.symm];exact a0b
  have k25:KF H2 H5:=(KF.of s4).trans k5
  have hak5:H5 t=some (.dT akv):=by
   rcases k25 t _ hak with y | ⟨_,_,y,_⟩
   ·exact y
   ·cases y
  have hrise:∀ d∈p.1,∀ pl:Int,0<=pl->pl < a0q (a2p wo d) (d.2.2.length:Int)->0<=a1m os (d.1,pl):=λ d hd pl h0 h1=>by
   have h2:=(Bool.and_eq_true _ _ ▸ hpb:_/\_).1
   have h3:=List.all_eq_true.mp h2 d hd
   have:=c9o (Int.le_refl _) h3 pl (c6t h0 h1)
   omega
  have hpk:∀ d∈p.1,a3t wo p os d.1=a1m os (d.1,a0q (a2p wo d) (d.2.2.length:Int) - 1):=λ d hd=>by unfold a3t;rw[b4s gp.2.1 hd]
  have hpf:∀ d∈p.1,a7q wo p os d.1=a1m os (d.1,a2j (a2p wo d) (d.2.2.length:Int)):=λ d hd=>by unfold a7q;rw[b4s gp.2.1 hd]
  refine d4d (d:=e) (ob:=ob) (kvs:=kvs) (λ i σ H6=>(∀ b x,H5 b=some x->b≠ka->b≠fa->H6 b=some x)/\∃ (x7 x8 x9:Option V) (kk fk:List (Key×V)),σ=[some (.ref a),some (.ref o),some (wV wo),some (.ref e),some (.ref t),some (.ref ka),some (.ref fa),x7,x8,x9,none,none,none,none,none,none,none]/\H6 ka=some (.dK kk)/\kk.length<=i/\H6 fa=some (.dK fk)/\fk.length<=i/\(∀ d∈p.1.take i,a4l kk (.inl d.1)=some (.int (a3t wo p os d.1)))/\(∀ d∈p.1.take i,a4l fk (.inl d.1)=some (.int (a7q wo p os d.1)))) ⟨λ b x eb _ _=>eb,none,none,none,[],[],rfl,h5k,Nat.le_refl _,h5f,Nat.le_refl _,(λ d hd=>by cases hd),(λ d hd=>by cases hd)⟩ (λ i σ H6 ⟨fr,_⟩=>fr _ _ h5 hne.1 hne.2) ?_ ?_
  ·rintro i k0 x σ H6 hkx ⟨fr,x7,x8,x9,kk,fk,rfl,hkk,lkk,hfk,lfk,vk,vf⟩
   obtain⟨d,hdi,rfl⟩:=hgk i k0 x hkx
   have hi8:i < 8:=by have:=(List.getElem?_eq_some_iff.mp hdi).1;have:=gp.1;omega
   have hdm:d∈p.1:=List.mem_of_getElem? hdi
   obtain⟨td,hv1,ht1⟩:=hval d hdm
   have ht6:=fr _ _ (k25.tup ht1) (c2g ht1).1 (c2g ht1).2
   have hak6:=fr _ _ hak5 (c2g hak).1 (c2g hak).2
   have hrd6:Rd H6 e (.dK kvs):=.inr ⟨ob,fr _ _ h5 hne.1 hne.2⟩
   have sr:=c4v (w:=a2p wo d) (l:=(d.2.2.length:Int)) (by omega) (by have:=(gp.2.2 d hdm).2;omega)
   have fr2:0<=a2j (a2p wo d) (d.2.2.length:Int)/\a2j (a2p wo d) (d.2.2.length:Int) < a0q (a2p wo d) (d.2.2.length:Int):=by
    unfold a2j a0q
    split
    ·omega
    ·split<;>omega
   have hk0:=hrise d hdm (a0q (a2p wo d) (d.2.2.length:Int) - 1) (by omega) (by omega)
   have hf0:=hrise d hdm _ fr2.1 fr2.2
   refine⟨_,rfl,_,rfl,e,_,rfl,.inl ⟨kvs,.inl d.1,hrd6,rfl,hv1.symm⟩,td,_,rfl,SqT.of ht6,rfl,_,_,rfl,_,_,rfl,rfl,?_⟩
   refine⟨_,rfl,_,rfl,_,rfl,_,rfl,a2p wo d,(d.2.2.length:Int),rfl,_,_,rfl,rfl,(by show 2<=sizeLine;decide),λ g hg=>?_⟩
   have sg:=Same.upd (o:=HO.tup [.int d.1,.int (a0q (a2p wo d) (d.2.2.length:Int) - 1)]) hg
   refine⟨t,.int (a1m os (d.1,a0q (a2p wo d) (d.2.2.length:Int) - 1)),rfl,.inr ⟨akv,kN2 (d.1,a0q (a2p wo d) (d.2.2.length:Int) - 1),g,.inl (sg _ _ hak6),rfl,a0b,by rw[hav,if_neg (by omega)]⟩,?_⟩
   refine⟨_,rfl,_,rfl,ka,_,rfl,d5t.k (k:=.inl d.1) (sg _ _ hkk) (by omega),?_⟩
   have hfk2:upd (upd H6 g (HO.tup [.int d.1,.int (a0q (a2p wo d) (d.2.2.length:Int) - 1)])) ka (.dK (a6v kk (.inl d.1) (.int (a1m os (d.1,a0q (a2p wo d) (d.2.2.length:Int) - 1))))) fa=some (.dK fk):=by rw[a0h hkf];exact sg _ _ hfk
   have hak7:upd (upd H6 g (HO.tup [.int d.1,.int (a0q (a2p wo d) (d.2.2.length:Int) - 1)])) ka (.dK (a6v kk (.inl d.1) (.int (a1m os (d.1,a0q (a2p wo d) (d.2.2.length:Int) - 1))))) t=some (.dT akv):=by rw[a0h (c2g hak).1];exact sg _ _ hak6
   refine⟨_,rfl,_,rfl,_,rfl,_,rfl,a2p wo d,(d.2.2.length:Int),rfl,(by show 2<=sizeLine;decide),λ g2 hg2=>?_⟩
   have sg2:=Same.upd (o:=HO.tup [.int d.1,.int (a2j (a2p wo d) (d.2.2.length:Int))]) hg2
   refine⟨t,.int (a1m os (d.1,a2j (a2p wo d) (d.2.2.length:Int))),rfl,.inr ⟨akv,kN2 (d.1,a2j (a2p wo d) (d.2.2.length:Int)),g2,.inl (sg2 _ _ hak7),rfl,a0b,by rw[hav,if_neg (by omega)]⟩,?_⟩
   refine⟨_,rfl,_,rfl,fa,_,rfl,d5t.k (k:=.inl d.1) (sg2 _ _ hfk2) (by omega),?_⟩
   have tk:p.1.take (i+1)=p.1.take i++[d]:=by rw[List.take_add_one,hdi];rfl
   have put:∀ (kv:List (Key×V)) (f:Int->Int) (z:Int),f d.1=z->(∀ d∈p.1.take i,a4l kv (.inl d.1)=some (.int (f d.1)))->∀ d'∈p.1.take (i+1),a4l (a6v kv (.inl d.1) (.int z)) (.inl d'.1)=some (.int (f d'.1)):=λ kv f z hz' hv d' hd'=>by
    rw[a8l]
    by_cases y:d'.1=d.1
    ·rw[if_pos (by rw[y]),y,hz']
    ·rw[if_neg (λ u=>y (Sum.inl.inj u))]
     rw[tk] at hd'
     rcases List.mem_append.mp hd' with u | u
     ·exact hv d' u
     ·rw[List.mem_singleton.mp u] at y
      exact absurd rfl y
   refine⟨λ b x eb nb1 nb2=>by rw[a0h nb2];exact sg2 _ _ (by rw[a0h nb1];exact sg _ _ (fr _ _ eb nb1 nb2)),_,_,_,_,_,rfl,?_,?_,a0b,?_,put kk _ _ (hpk d hdm) vk,put fk _ _ (hpf d hdm) vf⟩
   ·rw[a0h hkf.symm]
    exact sg2 _ _ a0b
   ·exact Nat.le_trans (a3z kk _ _) (by omega)
   ·exact Nat.le_trans (a3z fk _ _) (by omega)
  rintro σ H6 ⟨fr,x7,x8,x9,kk,fk,rfl,hkk,lkk,hfk,lfk,vk,vf⟩
  rw[hkl,List.take_length] at vk vf
  have k26:KF H2 H6:=λ b x eb=>by
   obtain⟨n1,n2⟩:=c2g eb
   rcases k25 b x eb with y | ⟨kv,o',y1,y2⟩
   ·exact .inl (fr _ _ y n1 n2)
   ·exact .inr ⟨kv,o',y1,fr _ _ y2 n1 n2⟩
  have k06:=k02.trans k26
  have hrd6:Rd H6 e (.dK kvs):=.inr ⟨ob,fr _ _ h5 hne.1 hne.2⟩
  have hak6:=fr _ _ hak5 (c2g hak).1 (c2g hak).2
  have kiK:KI H6 ka (a3t wo p os) (p.1.map (·.1)):=⟨kk,hkk,λ n hn=>by obtain⟨d,hd,rfl⟩:=List.mem_map.mp hn;exact vk d hd⟩
  have kiF:KI H6 fa (a7q wo p os) (p.1.map (·.1)):=⟨fk,hfk,λ n hn=>by obtain⟨d,hd,rfl⟩:=List.mem_map.mp hn;exact vf d hd⟩
  obtain⟨mkv,hpr,hmk1,hmk2⟩:=d2z (K:=K) (tm.kf k06)
  have hml:mkv.length<=100:=by
   have:=congrArg List.length hmk1
   rw[List.length_map,List.length_map] at this
   have:=gm.1
   omega
  have hmnd:(mkv.map (·.1)).Nodup:=by rw[hmk1];exact List.pairwise_map.mpr (List.Pairwise.imp (λ z e=>z (Sum.inl.inj e)) (List.pairwise_map.mp nk))
  refine⟨_,rfl,a,_,_,_,rfl,rfl,SqT.of (k06.tup ha),a0i (j:=1) rfl,m,mv,mkv,rfl,k06.lst hm,hpr,(by omega),λ D hD=>?_⟩
  rw[b2b mkv [] (by rw[List.nil_append];exact hmnd),List.nil_append]
  have s7:=Same.upd (o:=HO.dK mkv) hD
  generalize e7:upd H6 D (.dK mkv)=H7 at s7 ⊢
  have hD7:H7 D=some (.dK mkv):=by rw[<-e7];exact a0b
  have k07:=k06.trans (KF.of s7)
  have hml2:mv.length=p.2.length:=by rw[tm.len,List.length_map]
  refine⟨_,rfl,a,_,_,_,rfl,rfl,SqT.of (k07.tup ha),a0i (j:=1) rfl,m,rfl,⟨_,SqL.of (k07.lst hm)⟩,a4u (K:=K) (a:=m) (xs:=mv) (λ i σ H8=>H7=H8/\∃ (x11 x12:Option V),σ=[some (.ref a),some (.ref o),some (wV wo),some (.ref e),some (.ref t),some (.ref ka),some (.ref fa),x7,x8,x9,some (.ref D),x11,x12,none,none,none,none]/\(p.2.all λ r=>b6v (a3t wo p os) (a7q wo p os) r.2)=((p.2.drop i).all λ r=>b6v (a3t wo p os) (a7q wo p os) r.2)) ⟨rfl,none,none,rfl,rfl⟩ (λ i σ H8 _ ⟨e8,_⟩=>e8 ▸ SqL.of (k07.lst hm)) ?_ ?_⟩
  ·rintro i y σ H8 hy ⟨rfl,x11,x12,rfl,hall⟩
   obtain⟨dd,edd,td⟩:=tm.get hy
   rw[List.getElem?_map] at edd
   obtain⟨r,hri,rfl⟩:=Option.map_eq_some_iff.mp edd
   have hrm:r∈p.2:=List.mem_of_getElem? hri
   obtain⟨b,l',rfl,hb,hl'⟩:=c1b (td.kf k07)
   have hdr:p.2.drop i=r::p.2.drop (i+1):=by rw[List.drop_eq_getElem_cons (List.getElem?_eq_some_iff.mp hri).1,(List.getElem?_eq_some_iff.mp hri).2]
   rw[hdr,List.all_cons] at hall
   refine⟨b,_,rfl,SqT.of hb,rfl,_,_,rfl,_,_,rfl,rfl,?_⟩
   refine⟨_,rfl,_,rfl,_,rfl,ka,fa,l',a3t wo p os,a7q wo p os,r.2,p.1.map (·.1),rfl,kiK.sm s7,kiF.sm s7,hl',(λ x hx=>by obtain⟨d,hd,e2⟩:=inm r hrm x hx;exact List.mem_map.mpr ⟨d,hd,e2⟩),gm.2.1 r hrm,?_⟩
   cases hg:b6v (a3t wo p os) (a7q wo p os) r.2 with
   | true =>
    rw[hg,Bool.true_and] at hall
    exact⟨_,rfl,b5e ⟨rfl,_,_,rfl,hall⟩⟩
   | false =>
    rw[hg,Bool.false_and] at hall
    rw[hall,Bool.false_and] at hdue
    rw[hdue] at q
    exact⟨_,rfl,c7z (q _ k07)⟩
  rintro σ H8 ⟨rfl,x11,x12,rfl,hall⟩
  rw[hml2,List.drop_length] at hall
  have hall':(p.2.all λ r=>b6v (a3t wo p os) (a7q wo p os) r.2)=true:=hall
  rw[hall',Bool.true_and] at hdue
  have hll:lv.length=p.1.length:=by rw[tl.len,List.length_map]
  have hrd7:=(KF.of s7).rd hrd6
  have hak7:=s7 _ _ hak6
  refine⟨_,rfl,a,_,_,_,rfl,rfl,SqT.of (k07.tup ha),a0i (j:=0) rfl,l,rfl,⟨_,SqL.of (k07.lst hl)⟩,a4u (K:=K) (a:=l) (xs:=lv) (λ i σ H8=>Same H7 H8/\∃ (x7 x8 x9 x11 x12 x13 x14 x15 x16:Option V),σ=[some (.ref a),some (.ref o),some (wV wo),some (.ref e),some (.ref t),some (.ref ka),some (.ref fa),x7,x8,x9,some (.ref D),x11,x12,x13,x14,x15,x16]/\p.1.all (b9a wo p os)=(p.1.drop i).all (b9a wo p os)) ⟨Same.refl _,x7,x8,x9,x11,x12,none,none,none,none,rfl,rfl⟩ (λ i σ H8 _ ⟨s8,_⟩=>SqL.of (s8 _ _ (k07.lst hl))) ?_ ?_⟩
  ·rintro i y σ H8 hy ⟨s8,x7,x8,x9,x11,x12,x13,x14,x15,x16,rfl,hall⟩
   obtain⟨dd,edd,td⟩:=tl.get hy
   rw[List.getElem?_map] at edd
   obtain⟨d,hdi,rfl⟩:=Option.map_eq_some_iff.mp edd
   have hdm:d∈p.1:=List.mem_of_getElem? hdi
   obtain⟨pd,L,lkv,rfl,hpd,hL,tL⟩:=a6k (td.kf k07)
   have ll:lkv.length=d.2.2.length:=by rw[tL.len,List.length_map]
   have l40:=(gp.2.2 d hdm).2
   obtain⟨tw,hv1,ht1⟩:=hval d hdm
   have ht8:=s8 _ _ ((KF.of s7).tup (k26.tup ht1))
   have hdr:p.1.drop i=d::p.1.drop (i+1):=by rw[List.drop_eq_getElem_cons (List.getElem?_eq_some_iff.mp hdi).1,(List.getElem?_eq_some_iff.mp hdi).2]
   rw[hdr,List.all_cons] at hall
   refine⟨pd,_,rfl,SqT.of (s8 _ _ hpd),rfl,_,_,rfl,_,_,rfl,_,_,rfl,rfl,?_⟩
   refine⟨_,rfl,_,rfl,e,_,rfl,.inl ⟨kvs,.inl d.1,(KF.of s8).rd hrd7,rfl,hv1.symm⟩,tw,_,_,_,rfl,rfl,SqT.of ht8,a0i (j:=0) rfl,?_⟩
   refine⟨_,rfl,_,_,rfl,.inl ⟨_,SqL.of (s8 _ _ hL),rfl⟩,_,rfl,(by omega),(by omega),a2h (n:=((lkv.length:Nat):Int).toNat) (λ k σ H9=>Same H7 H9/\∃ (x11 x12 x14 x15 x16:Option V),σ=[some (.ref a),some (.ref o),some (wV wo),some (.ref e),some (.ref t),some (.ref ka),some (.ref fa),some (.int d.1),some (.str (a2p wo d)),some (.ref L),some (.ref D),x11,x12,some (.str d.2.1),x14,x15,x16]/\b9a wo p os d=c5g (c7j wo p os d) k d.2.2.length) ⟨s8,x11,x12,x14,x15,x16,rfl,rfl⟩ ?_ ?_⟩
   ·rintro k σ H9 hk' ⟨s9,x11,x12,x14,x15,x16,rfl,hdl⟩
    have hkl2:k < d.2.2.length:=by omega
    rw[c2n hkl2] at hdl
    refine⟨_,rfl,t,rfl,.inr ⟨_,.inl (s9 _ _ hak7)⟩,_,rfl,_,rfl,_,rfl,a2p wo d,0+(k:Int),rfl,(by show 2<=sizeLine;decide),λ g hg=>?_⟩
    rw[Int.zero_add]
    have sg:=Same.upd (o:=HO.tup [.int d.1,.int (a3e (a2p wo d) (k:Int))]) hg
    refine⟨_,.inr ⟨akv,kN2 (d.1,a3e (a2p wo d) (k:Int)),g,.inl (sg _ _ (s9 _ _ hak7)),rfl,a0b,rfl⟩,?_⟩
    have eg:(a4l akv (kN2 (d.1,a3e (a2p wo d) (k:Int)))).getD (V.int 0)=V.int (c0n os (d.1,a3e (a2p wo d) (k:Int))):=by
     rw[hav]
     unfold c0n
     split<;>rfl
    rw[eg]
    obtain⟨lk,hlk⟩:∃ lk,d.2.2[k]?=some lk:=⟨_,List.getElem?_eq_getElem hkl2⟩
    obtain⟨v1,hv2,tv⟩:=tL.at (i:=k) (d:=a7m lk) (by rw[List.getElem?_map,hlk];rfl)
    obtain⟨b,ws,rfl,hb,tws⟩:=b1a tv
    have s10:=s9.trans sg
    have elk:c7j wo p os d k=lk.all (d1j wo p os d k):=by
     unfold c7j
     simp only [List.getD,hlk,Option.getD_some]
    have hwl:ws.length=lk.length:=by rw[tws.len,List.length_map]
    have eat:atI lkv (k:Int)=some (.ref b):=a0i hv2
    refine⟨_,rfl,_,rfl,L,_,_,_,rfl,rfl,SqL.of (s10 _ _ hL),eat,b,rfl,⟨_,SqL.of (s10 _ _ hb)⟩,a4u (K:=K) (a:=b) (xs:=ws) (λ j σ H11=>Same H7 H11/\∃ (x11 x12 x16:Option V),σ=[some (.ref a),some (.ref o),some (wV wo),some (.ref e),some (.ref t),some (.ref ka),some (.ref fa),some (.int d.1),some (.str (a2p wo d)),some (.ref L),some (.ref D),x11,x12,some (.str d.2.1),some (.int (k:Int)),some (.int (c0n os (d.1,a3e (a2p wo d) (k:Int)))),x16]/\c7j wo p os d k=(lk.drop j).all (d1j wo p os d k)) ⟨s10,x11,x12,x16,rfl,elk⟩ (λ j σ H11 _ ⟨s11,_⟩=>SqL.of (s11 _ _ hb)) ?_ ?_⟩
    ·rintro j y σ H11 hy ⟨s11,x11,x12,x16,rfl,hlb⟩
     obtain⟨dd,edd,tq⟩:=tws.get hy
     rw[List.getElem?_map] at edd
     obtain⟨qq,hqj,rfl⟩:=Option.map_eq_some_iff.mp edd
     obtain⟨c,rfl,hc⟩:=c0l tq
     have hdr2:lk.drop j=qq::lk.drop (j+1):=by rw[List.drop_eq_getElem_cons (List.getElem?_eq_some_iff.mp hqj).1,(List.getElem?_eq_some_iff.mp hqj).2]
     rw[hdr2,List.all_cons] at hlb
     refine⟨c,_,rfl,SqT.of (s11 _ _ hc),rfl,_,_,rfl,_,_,rfl,rfl,?_⟩
     refine⟨_,rfl,D,rfl,.inl ⟨_,.inl (s11 _ _ hD7)⟩,_,rfl,?_⟩
     refine⟨(by show 0<=sizeLine;omega),λ nl hnl=>?_⟩
     have sn:=Same.upd (o:=HO.lst []) hnl
     have s12:=s11.trans sn
     refine⟨_,.inl ⟨mkv,.inl qq.1,.inl (s12 _ _ hD7),rfl,rfl⟩,?_⟩
     obtain⟨ma,ema,hma⟩:∃ ma,(a4l mkv (.inl qq.1)).getD (V.ref nl)=.ref ma/\upd H11 nl (.lst []) ma=some (.lst ((b8z p qq.1).map V.int)):=by
      rcases e4k nk hmk1 hmk2 qq.1 with ⟨l',e1,e2⟩ | ⟨e1,e2⟩
      ·exact⟨l',by rw[e1];rfl,s12 _ _ (s7 _ _ e2)⟩
      ·exact⟨nl,by rw[e1];rfl,by rw[e2];exact a0b⟩
     rw[ema]
     have hin:∀ x∈b8z p qq.1,x∈p.1.map (·.1):=λ x hx=>by
      unfold b8z at hx
      cases ef:p.2.find? (λ r=>decide (r.1=qq.1)) with
      | none =>
       rw[ef] at hx
       cases hx
      | some r =>
       rw[ef] at hx
       obtain⟨d',hd',e2⟩:=inm r (List.mem_of_find?_eq_some ef) x hx
       exact List.mem_map.mpr ⟨d',hd',e2⟩
     have epb:d1j wo p os d k qq=(decide (a2p wo d="loose") || decide (qq.2=a9v (a3t wo p os) (c0n os (d.1,a3e (a2p wo d) (k:Int))) 0 (b8z p qq.1))):=rfl
     refine⟨_,rfl,rfl,_,rfl,?_⟩
     by_cases z:a2p wo d="loose"
     ·rw[epb,decide_eq_true z,Bool.true_or,Bool.true_and] at hlb
      rw[z]
      exact b5e (b5e ⟨s12,_,_,_,rfl,hlb⟩)
     ·rw[epb,decide_eq_false z,Bool.false_or] at hlb
      refine f2c (by rw[decide_eq_false (λ y=>z (V.str.inj y))];rfl) ?_
      refine⟨_,rfl,_,rfl,_,rfl,_,rfl,ka,ma,a3t wo p os,b8z p qq.1,p.1.map (·.1),qq.2,c0n os (d.1,a3e (a2p wo d) (k:Int)),rfl,(kiK.sm s7).sm s12,hma,hin,?_⟩
      cases hg2:decide (qq.2=a9v (a3t wo p os) (c0n os (d.1,a3e (a2p wo d) (k:Int))) 0 (b8z p qq.1)) with
      | true =>
       rw[hg2,Bool.true_and] at hlb
       exact⟨_,rfl,b5e ⟨s12,_,_,_,rfl,hlb⟩⟩
      | false =>
       rw[hg2,Bool.false_and] at hlb
       rw[hlb,Bool.false_and] at hdl
       rw[hdl,Bool.false_and] at hall
       rw[hall] at hdue
       rw[hdue] at q
       exact⟨_,rfl,c7z (q _ (k07.trans (KF.of s12)))⟩
    ·rintro σ H11 ⟨s11,x11,x12,x16,rfl,hlb⟩
     rw[hwl,List.drop_length] at hlb
     have hlb2:c7j wo p os d k=true:=hlb
     rw[hlb2,Bool.true_and] at hdl
     exact⟨s11,_,_,_,_,_,rfl,hdl⟩
   ·rintro σ H9 ⟨s9,x11,x12,x14,x15,x16,rfl,hdl⟩
    have e9:((lkv.length:Nat):Int).toNat=d.2.2.length:=by omega
    rw[e9,c6i] at hdl
    rw[hdl,Bool.true_and] at hall
    exact⟨s9,_,_,_,_,_,_,_,_,_,rfl,hall⟩
  rintro σ H8 ⟨s8,x7,x8,x9,x11,x12,x13,x14,x15,x16,rfl,hall⟩
  rw[hll,List.drop_length] at hall
  have hall2:p.1.all (b9a wo p os)=true:=hall
  rw[hall2] at hdue
  rw[hdue] at q
  exact q _ (k07.trans (KF.of s8))
--@STAGE
theorem b1o {f:Nat->Bool} {n:Nat}:c5g f 0 n=true ↔ ∀ i,i < n->f i=true:=by
 unfold c5g
 rw[List.all_eq_true]
 constructor
 ·intro h i hi
  exact h i (List.mem_range'_1.mpr ⟨Nat.zero_le _,by omega⟩)
 ·intro h i hi
  have:=(List.mem_range'_1.mp hi).2
  exact h i (by omega)
theorem d4s (q:Nk):∀ (os:List Nk) (s l:Int),os.Nodup->(os.foldl (λ (s:Int×Int) x=>(s.1+1,if x=q then s.1 else s.2)) (s,l)).2=if q∈os then s+(os.idxOf q:Int) else l
 | [],s,l,_=>by simp
 | x::r,s,l,h=>by
  obtain⟨h1,h2⟩:=List.nodup_cons.mp h
  rw[List.foldl_cons,d4s q r _ _ h2]
  by_cases z:x=q
  ·subst z
   simp[h1]
  ·have z':¬ q=x:=λ y=>z y.symm
   simp only [if_neg z,List.mem_cons,z',false_or]
   by_cases y:q∈r
   ·rw[if_pos y,if_pos y,List.idxOf_cons]
    have:(x == q)=false:=by simpa using z
    rw[this]
    simp only [Bool.cond_false]
    omega
   ·rw[if_neg y,if_neg y]
theorem c0w {os:List Nk} (h:os.Nodup) {q:Nk} (m:q∈os):a1m os q=(os.idxOf q:Int):=by
 unfold a1m
 rw[d4s q os 0 (-1) h,if_pos m]
 omega
theorem a7n {os:List Nk} (h:os.Nodup) {q:Nk} {i:Nat} (e:os[i]?=some q):a1m os q=(i:Int):=by
 have hm:=List.mem_of_getElem? e
 obtain⟨hi,e'⟩:=List.getElem?_eq_some_iff.mp e
 rw[c0w h hm]
 have:=h.idxOf_getElem i hi
 rw[e'] at this
 rw[this]
theorem d4i (q:Nk):∀ (os:List Nk) (s l:Int),q ∉ os->(os.foldl (λ (s:Int×Int) x=>(s.1+1,if x=q then s.1 else s.2)) (s,l)).2=l
 | [],_,_,_=>rfl
 | x::r,s,l,h=>by
  rw[List.mem_cons,not_or] at h
  rw[List.foldl_cons,if_neg (λ y=>h.1 y.symm)]
  exact d4i q r _ _ h.2
theorem e0d {os:List Nk} {q:Nk} (h:0<=a1m os q):q∈os:=by
 by_cases m:q∈os
 ·exact m
 ·have:=d4i q os 0 (-1) m
  unfold a1m at h
  omega
theorem d9d {α:Type} [DecidableEq α]:∀ {S os:List α},S.Nodup->(∀ x∈S,x∈os)->os.length<=S.length->os.Perm S
 | [],os,_,_,h=>by
  have:os=[]:=List.length_eq_zero_iff.mp (by simpa using h)
  rw[this]
 | a::r,os,hn,hs,h=>by
  obtain⟨h1,h2⟩:=List.nodup_cons.mp hn
  have ha:=hs a (.head _)
  have p1:=List.perm_cons_erase ha
  have hl:=p1.length_eq
  refine p1.trans (List.Perm.cons a (d9d h2 (λ x hx=>?_) ?_))
  ·exact(List.mem_erase_of_ne (λ (z:x=a)=>h1 (z ▸ hx))).mpr (hs x (.tail _ hx))
  ·simp only [List.length_cons] at h hl
   omega
theorem c0p:∀ (os:List Nk) (r:Int->Int),b2k r os=true ↔ (∀ q∈os,r q.1<=q.2)/\os.Pairwise λ a b=>a.1=b.1->a.2<=b.2
 | [],r=>⟨λ _=>⟨(λ q h=>by cases h),.nil⟩,λ _=>rfl⟩
 | (n,pl)::t,r=>by
  show (if pl < r n then false else b2k (λ m=>if m=n then pl else r m) t)=true ↔ _
  rw[List.pairwise_cons]
  by_cases z:pl < r n
  ·rw[if_pos z]
   refine⟨(λ h=>by cases h),λ h=>?_⟩
   have:=h.1 (n,pl) (.head _)
   exact absurd (show r n<=pl from this) (by omega)
  ·rw[if_neg z,c0p t]
   constructor
   ·rintro⟨h1,h2⟩
    refine⟨λ q hq=>?_,λ b hb e=>?_,h2⟩
    ·rcases List.mem_cons.mp hq with e | e
     ·rw[e];show r n<=pl;omega
     ·have h3:(if q.1=n then pl else r q.1)<=q.2:=h1 q e
      by_cases y:q.1=n
      ·rw[if_pos y] at h3
       rw[y];omega
      ·rw[if_neg y] at h3
       exact h3
    ·have h3:(if b.1=n then pl else r b.1)<=b.2:=h1 b hb
     have e':n=b.1:=e
     rw[if_pos e'.symm] at h3
     exact h3
   ·rintro⟨h1,h2,h3⟩
    refine⟨λ q hq=>?_,h3⟩
    show (if q.1=n then pl else r q.1)<=q.2
    by_cases y:q.1=n
    ·rw[if_pos y]
     exact h2 q hq y.symm
    ·rw[if_neg y]
     exact h1 q (.tail _ hq)
theorem b9k {os:List Nk} {n:Int}:∀ (pls:List Int) (l:Int),b1f os n l pls=true ↔ (∀ pl∈pls,l < a1m os (n,pl))/\pls.Pairwise λ a b=>a1m os (n,a) < a1m os (n,b)
 | [],l=>⟨λ _=>⟨(λ q h=>by cases h),.nil⟩,λ _=>rfl⟩
 | pl::t,l=>by
  show (if a1m os (n,pl)<=l then false else b1f os n (a1m os (n,pl)) t)=true ↔ _
  rw[List.pairwise_cons]
  by_cases z:a1m os (n,pl)<=l
  ·rw[if_pos z]
   refine⟨(λ h=>by cases h),λ h=>?_⟩
   have:=h.1 pl (.head _)
   omega
  ·rw[if_neg z,b9k t]
   constructor
   ·rintro⟨h1,h2⟩
    refine⟨λ q hq=>?_,h1,h2⟩
    rcases List.mem_cons.mp hq with e | e
    ·rw[e];omega
    ·have:=h1 q e
     omega
   ·rintro⟨_,h2,h3⟩
    exact⟨h2,h3⟩
theorem b3s {x:Str} (h:x∈wds) (n:Int):a0q x n=a5m (lvS x) n/\a2j x n=c4a (lvS x) n/\(x="loose"->b1u (lvS x) n=none)/\(x≠"loose"->b1u (lvS x) n=some (a3e x n)):=by
 unfold wds at h
 simp only [List.mem_cons,List.not_mem_nil,or_false] at h
 rcases h with rfl | rfl | rfl | rfl | rfl
 ·exact⟨rfl,rfl,λ _=>rfl,λ z=>absurd rfl z⟩
 ·exact⟨rfl,rfl,(λ z=>absurd z (by decide +kernel)),λ _=>rfl⟩
 ·exact⟨rfl,rfl,(λ z=>absurd z (by decide +kernel)),λ _=>rfl⟩
 ·exact⟨rfl,rfl,(λ z=>absurd z (by decide +kernel)),λ _=>rfl⟩
 ·exact⟨rfl,rfl,(λ z=>absurd z (by decide +kernel)),λ _=>rfl⟩
def WdP (w:Option Str) (p:Ps):Prop:=(∀ d∈p.1,a2p w d∈wds)
theorem d0t {w:Option Str}:∀ {ds:List Dl},(∀ d∈ds,a2p w d∈wds)->(ds.map λ d=>a0q (a2p w d) (d.2.2.length:Int)).sum=((ds.flatMap (a1y w)).length:Int)
 | [],_=>rfl
 | d::r,h=>by
  rw[List.map_cons,List.sum_cons,List.flatMap_cons,List.length_append,d0t λ x hx=>h x (.tail _ hx)]
  have e:=(b3s (h d (.head _)) (d.2.2.length:Int)).1
  have e2:(a1y w d).length=(a5m (lvD w d) (d.2.2.length:Int)).toNat:=by unfold a1y;rw[List.length_map,List.length_range]
  have e3:lvS (a2p w d)=lvD w d:=rfl
  have e4:0<=a5m (lvD w d) (d.2.2.length:Int):=by
   generalize lvD w d=l
   cases l<;>simp only [a5m]<;>omega
  rw[e,e3,e2]
  omega
theorem a6x {w:Option Str} {p:Ps} (hw:WdP w p) {q:Nk}:q∈p.1.flatMap (a1y w) ↔ ∃ d∈p.1,d.1=q.1/\0<=q.2/\q.2 < a0q (a2p w d) (d.2.2.length:Int):=by
 rw[List.mem_flatMap]
 constructor
 ·rintro⟨d,hd,h⟩
  unfold a1y at h
  obtain⟨j,hj,rfl⟩:=List.mem_map.mp h
  have hj':=List.mem_range.mp hj
  refine⟨d,hd,rfl,by show (0:Int)<=(j:Int);omega,?_⟩
  rw[(b3s (hw d hd) (d.2.2.length:Int)).1]
  show (j:Int) < a5m (lvD w d) (d.2.2.length:Int)
  omega
 ·rintro⟨d,hd,e,h0,h1⟩
  rw[(b3s (hw d hd) (d.2.2.length:Int)).1] at h1
  have h1':q.2 < a5m (lvD w d) (d.2.2.length:Int):=h1
  refine⟨d,hd,?_⟩
  unfold a1y
  refine List.mem_map.mpr ⟨q.2.toNat,List.mem_range.mpr (by omega),?_⟩
  rw[Int.toNat_of_nonneg h0,e]
theorem d4k {w:Option Str} {p:Ps} (hr:c5l p):(p.1.flatMap (a1y w)).Nodup:=(b7v hr).imp λ {a b} h e=>by
 subst e
 rcases h with h | ⟨_,h⟩<;>omega
theorem e8k {w:Option Str} {d:Dl} {pl:Int} (h:pl∈b7s w d):0<=pl/\pl < a0q (a2p w d) (d.2.2.length:Int):=by
 unfold b7s at h
 obtain⟨j,hj,rfl⟩:=List.mem_map.mp h
 have:=List.mem_range.mp hj
 omega
theorem d3w (w:Option Str) (d:Dl):(b7s w d).Pairwise (· < ·):=by
 unfold b7s
 exact List.pairwise_map.mpr (List.pairwise_lt_range.imp λ {i j} hij=>by show (i:Int) < (j:Int);omega)
theorem f0s {α:Type} {R S:α->α->Prop}:∀ {l:List α},l.Pairwise R->l.Pairwise S->l.Pairwise λ a b=>R a b/\S a b
 | _,.nil,_=>.nil
 | _,.cons h t,h2=>by
  obtain⟨a,b⟩:=List.pairwise_cons.mp h2
  exact .cons (λ x hx=>⟨h x hx,a x hx⟩) (f0s t b)
theorem d6f {w:Option Str} {p:Ps} (hr:c5l p) (hw:WdP w p) (os:List Nk):a9g w p.1 os=true ↔ os.Perm (p.1.flatMap (a1y w))/\b2k (λ _=>0) os=true:=by
 have nd:=d4k (w:=w) hr
 unfold a9g
 rw[Bool.and_eq_true,List.all_eq_true,decide_eq_true_eq,d0t hw,c0p]
 constructor
 ·rintro⟨h1,h2⟩
  have hin:∀ d∈p.1,∀ pl:Int,0<=pl->pl < a0q (a2p w d) (d.2.2.length:Int)->0<=a1m os (d.1,pl):=λ d hd pl z0 z1=>by
   have:=((b9k _ _).mp (h1 d hd)).1 pl (c6t z0 z1)
   omega
  have hp:os.Perm (p.1.flatMap (a1y w)):=d9d nd (λ q hq=>by
   obtain⟨d,hd,e,z0,z1⟩:=(a6x hw).mp hq
   have:=hin d hd q.2 z0 z1
   rw[e] at this
   exact e0d this) (by omega)
  have ndo:os.Nodup:=hp.nodup_iff.mpr nd
  refine⟨hp,λ q hq=>?_,List.pairwise_iff_getElem.mpr λ i j hi hj hij e=>?_⟩
  ·obtain⟨d,hd,e,z0,z1⟩:=(a6x hw).mp (hp.mem_iff.mp hq)
   exact z0
  ·obtain⟨d,hd,e1,z0,z1⟩:=(a6x hw).mp (hp.mem_iff.mp (List.getElem_mem hi))
   obtain⟨d',hd',e2,y0,y1⟩:=(a6x hw).mp (hp.mem_iff.mp (List.getElem_mem hj))
   have ed:d'=d:=by
    have nn:(p.1.map (·.1)).Nodup:=List.Pairwise.imp (λ {a b} h=>Int.ne_of_lt h) hr
    have:=b4s nn hd
    rw[e1,e,<-e2,b4s nn hd'] at this
    exact Option.some.inj this
   subst ed
   by_cases z:(os[i]'hi).2<=(os[j]'hj).2
   ·exact z
   ·exfalso
    have hrz:=(b9k _ _).mp (h1 d' hd)
    have pw:=f0s (d3w w d') hrz.2
    have m1:=c6t z0 z1
    have m2:=c6t y0 y1
    have key:∀ {l:List Int},l.Pairwise (λ a b=>a < b/\a1m os (d'.1,a) < a1m os (d'.1,b))->∀ a∈l,∀ b∈l,a < b->a1m os (d'.1,a) < a1m os (d'.1,b):=by
     intro l hl
     induction hl with
     | nil=>intro a ha;cases ha
     | cons h t ih =>
      intro a ha b hb hab
      rcases List.mem_cons.mp ha with ea | ea
      ·rcases List.mem_cons.mp hb with eb | eb
       ·rw[ea,eb] at hab;omega
       ·rw[ea];exact(h b eb).2
      ·rcases List.mem_cons.mp hb with eb | eb
       ·have:=(h a ea).1
        rw[eb] at hab;omega
       ·exact ih a ea b eb hab
    have lt:=key pw _ m2 _ m1 (by omega)
    have q1:a1m os (os[i]'hi)=(i:Int):=a7n ndo (List.getElem?_eq_getElem hi)
    have q2:a1m os (os[j]'hj)=(j:Int):=a7n ndo (List.getElem?_eq_getElem hj)
    have c1:(d'.1,(os[i]'hi).2)=os[i]'hi:=Prod.ext e1 rfl
    have c2:(d'.1,(os[j]'hj).2)=os[j]'hj:=Prod.ext e2 rfl
    rw[c1,c2,q1,q2] at lt
    omega
 ·rintro⟨hp,h0,hc⟩
  have ndo:os.Nodup:=hp.nodup_iff.mpr nd
  refine⟨λ d hd=>(b9k _ _).mpr ?_,by rw[hp.length_eq]⟩
  have mm:∀ pl∈b7s w d,∃ i:Nat,∃ hi:i < os.length,os[i]=(d.1,pl)/\a1m os (d.1,pl)=(i:Int):=λ pl hpl=>by
   obtain⟨z0,z1⟩:=e8k hpl
   have hm:(d.1,pl)∈os:=hp.mem_iff.mpr ((a6x hw).mpr ⟨d,hd,rfl,z0,z1⟩)
   obtain⟨i,hi,e⟩:=List.getElem_of_mem hm
   exact⟨i,hi,e,a7n ndo (by rw[List.getElem?_eq_getElem hi,e])⟩
  refine⟨λ pl hpl=>?_,?_⟩
  ·obtain⟨i,hi,e,el⟩:=mm pl hpl
   omega
  ·refine List.Pairwise.imp_of_mem (λ {a b} ha hb hab=>?_) (d3w w d)
   obtain⟨i,hi,e1,el1⟩:=mm a ha
   obtain⟨j,hj,e2,el2⟩:=mm b hb
   rw[el1,el2]
   by_cases z:i < j
   ·omega
   ·exfalso
    have ne:j≠i:=λ y=>by
     subst y
     rw[e1] at e2
     have:=congrArg Prod.snd e2
     have:a=b:=this
     omega
    have:=List.pairwise_iff_getElem.mp hc j i hj hi (by omega) (by rw[e1,e2])
    rw[e1,e2] at this
    have:b<=a:=this
    omega
--@STAGE
theorem e5c {K F:Int->Nat}:∀ {ms:List Int},(∀ m∈ms,F m<=K m)->(nbB K F ms=true ↔ ms.Pairwise λ a b=>K a < F b)
 | [],_=>⟨λ _=>.nil,λ _=>rfl⟩
 | [x],_=>⟨λ _=>List.pairwise_singleton _ _,λ _=>rfl⟩
 | a::b::r,h=>by
  have ih:=e5c (ms:=b::r) λ m hm=>h m (.tail _ hm)
  show (if F b<=K a then false else nbB K F (b::r))=true ↔ _
  by_cases z:F b<=K a
  ·rw[if_pos z]
   refine⟨(λ y=>by cases y),λ y=>?_⟩
   have:=(List.pairwise_cons.mp y).1 b (.head _)
   omega
  ·rw[if_neg z,ih]
   constructor
   ·intro y
    refine .cons (λ x hx=>?_) y
    rcases List.mem_cons.mp hx with e | e
    ·rw[e];omega
    ·have h1:=(List.pairwise_cons.mp y).1 x e
     have h2:=h b (.tail _ (.head _))
     omega
   ·exact λ y=>(List.pairwise_cons.mp y).2
theorem e2d {K F:Int->Int} {ms:List Int} (h1:∀ m∈ms,F m<=K m) (h2:∀ a∈ms,∀ b∈ms,a≠b->K a≠F b):b6v K F ms=true ↔ ms.Pairwise λ a b=>K a < F b:=by
 have hg:∀ (i:Nat) (hi:i < ms.length),ms.getD i 0=ms[i]:=λ i hi=>by simp[List.getD,hi]
 unfold b6v
 rw[b1o,List.pairwise_iff_getElem]
 constructor
 ·intro h i j hi hj hij
  have:=b1o.mp (h j hj) i hi
  unfold b3z at this
  rw[hg i hi,hg j hj] at this
  simp only [Bool.and_eq_true,Bool.not_eq_true',Bool.and_eq_false_iff,decide_eq_false_iff_not,ne_eq,Decidable.not_not] at this
  obtain⟨a1,a2⟩:=this
  have b1:¬ K ms[j]<=K ms[i]:=by
   rcases a1 with z | z
   ·exact absurd hij z
   ·exact z
  have ne:ms[i]≠ms[j]:=λ z=>b1 (by rw[z];exact Int.le_refl _)
  have n2:=h2 _ (List.getElem_mem hi) _ (List.getElem_mem hj) ne
  rcases a2 with z | z | z
  ·omega
  ·omega
  ·omega
 ·intro h k hk
  refine b1o.mpr λ j hj=>?_
  unfold b3z
  rw[hg k hk,hg j hj]
  simp only [Bool.and_eq_true,Bool.not_eq_true',Bool.and_eq_false_iff,decide_eq_false_iff_not,ne_eq,Decidable.not_not]
  have f1:=h1 _ (List.getElem_mem hk)
  have f2:=h1 _ (List.getElem_mem hj)
  by_cases z:j < k
  ·have:=h j k hj hk z
   exact⟨.inr (by omega),.inr (.inl (by omega))⟩
  ·refine⟨.inl z,?_⟩
   by_cases y:j=k
   ·exact .inl y
   ·have:=h k j hk hj (by omega)
    exact .inr (.inr (by omega))
theorem c9p {K:Int->Int} {s s':Int}:∀ {ms:List Int} {l:Int},(∀ m∈ms,(K m < s ↔ K m < s'))->a9v K s l ms=a9v K s' l ms
 | [],_,_=>rfl
 | m::r,l,h=>by
  show a9v K s (if K m < s then m else l) r=a9v K s' (if K m < s' then m else l) r
  have e:(if K m < s then m else l)=(if K m < s' then m else l):=by simp only [h m (.head _)]
  rw[e]
  exact c9p λ x hx=>h x (.tail _ hx)
theorem c1o {K:Int->Int} {s:Int}:∀ {ms:List Int} {l:Int},(∀ m∈ms,¬ K m < s)->a9v K s l ms=l
 | [],_,_=>rfl
 | m::r,l,h=>by
  show a9v K s (if K m < s then m else l) r=l
  rw[if_neg (h m (.head _))]
  exact c1o λ x hx=>h x (.tail _ hx)
theorem d4l {K:Int->Int} {i n:Int}:∀ {ms:List Int} {l:Int},ms.Pairwise (λ a b=>K a < K b)->n∈ms->K n=i->a9v K (i+1) l ms=n
 | m::r,l,h,hn,e=>by
  obtain⟨h1,h2⟩:=List.pairwise_cons.mp h
  show a9v K (i+1) (if K m < i+1 then m else l) r=n
  rcases List.mem_cons.mp hn with z | z
  ·subst z
   rw[if_pos (by omega)]
   exact c1o λ x hx=>by have:=h1 x hx;omega
  ·exact d4l h2 z e
def d1q (w:Option Str) (p:Ps):List Nk->(Int->Option Int)->(Int->Option Int)
 | [],c=>c
 | (n,pl)::t,c=>d1q w p t (match c2e p n with
  | some d=>b0l w p d pl c
  | none=>c)
theorem d3x (w:Option Str) (p:Ps):∀ (os:List Nk) (q:Nk) (c:Int->Option Int),d1q w p (os++[q]) c=match c2e p q.1 with
  | some d=>b0l w p d q.2 (d1q w p os c)
  | none=>d1q w p os c
 | [],q,c=>rfl
 | (n,pl)::t,q,c=>by
  show d1q w p (t++[q]) _=_
  rw[d3x w p t q]
  rfl
theorem d4m {w:Option Str} {p:Ps}:∀ {os:List Nk} {c:Int->Option Int},(∀ q∈os,∃ d,c2e p q.1=some d)->(b4v w p c os=true ↔ ∀ (i:Nat) q d,os[i]?=some q->c2e p q.1=some d->(a3g w d q.2).all (b1h (d1q w p (os.take i) c))=true)
 | [],c,_=>⟨(λ _ i q d e=>by cases e),λ _=>rfl⟩
 | (n,pl)::t,c,h=>by
  obtain⟨d,hd⟩:=h (n,pl) (.head _)
  have hd':c2e p n=some d:=hd
  have e:b4v w p c ((n,pl)::t)=if (a3g w d pl).all (b1h c)=true then b4v w p (b0l w p d pl c) t else false:=by
   show (match c2e p n with
    | some d=>if (a3g w d pl).all (b1h c)=true then b4v w p (b0l w p d pl c) t else false
    | none=>false)=_
   rw[hd']
  have ec:∀ i,d1q w p (((n,pl)::t).take (i+1)) c=d1q w p (t.take i) (b0l w p d pl c):=λ i=>by
   show d1q w p (t.take i) (match c2e p n with
    | some d=>b0l w p d pl c
    | none=>c)=_
   rw[hd']
  rw[e]
  have ih:=d4m (w:=w) (c:=b0l w p d pl c) λ q hq=>h q (List.mem_cons_of_mem _ hq)
  by_cases z:(a3g w d pl).all (b1h c)=true
  ·rw[if_pos z,ih]
   constructor
   ·intro y i q d' eq ed
    cases i with
    | zero =>
     cases eq
     rw[hd] at ed
     cases ed
     exact z
    | succ i =>
     rw[ec]
     exact y i q d' eq ed
   ·intro y i q d' eq ed
    have:=y (i+1) q d' eq ed
    rwa [ec] at this
  ·rw[if_neg z]
   refine⟨(λ y=>by cases y),λ y=>?_⟩
   exact absurd (y 0 (n,pl) d rfl hd) z
structure Okp (w:Option Str) (p:Ps) (os:List Nk):Prop where
 nn:(p.1.map (·.1)).Nodup
 hw:WdP w p
 hp:os.Perm (p.1.flatMap (a1y w))
 nd:os.Nodup
 inm:e7w p
 nk:(p.2.map (·.1)).Nodup
theorem b7k {w:Option Str} {p:Ps} (hw:WdP w p) {d:Dl} (hd:d∈p.1):a6a w d=(d.1,a0q (a2p w d) (d.2.2.length:Int) - 1)/\a6b w d=(d.1,a2j (a2p w d) (d.2.2.length:Int)):=by
 have e:=b3s (hw d hd) (d.2.2.length:Int)
 unfold a6a a6b
 rw[e.1,e.2.1]
 exact⟨rfl,rfl⟩
theorem Okp.keep {w:Option Str} {p:Ps} {os:List Nk} (k:Okp w p os) {d:Dl} (hd:d∈p.1):∃ i:Nat,os[i]?=some (a6a w d)/\a3t w p os d.1=(i:Int)/\d2p w p os d.1=i:=by
 have hm:a6a w d∈os:=k.hp.mem_iff.mpr (List.mem_flatMap.mpr ⟨d,hd,(b6i w).1⟩)
 have e:=c0w k.nd hm
 refine⟨os.idxOf (a6a w d),?_,?_,?_⟩
 ·have hl:=List.idxOf_lt_length_iff.mpr hm
  rw[List.getElem?_eq_getElem hl,List.getElem_idxOf hl]
 ·unfold a3t
  rw[b4s k.nn hd]
  show a1m os (d.1,a0q (a2p w d) (d.2.2.length:Int) - 1)=_
  rw[<-(b7k k.hw hd).1]
  exact e
 ·unfold d2p
  rw[b4s k.nn hd]
theorem Okp.first {w:Option Str} {p:Ps} {os:List Nk} (k:Okp w p os) {d:Dl} (hd:d∈p.1):∃ i:Nat,os[i]?=some (a6b w d)/\a7q w p os d.1=(i:Int)/\d1b w p os d.1=i:=by
 have hm:a6b w d∈os:=k.hp.mem_iff.mpr (List.mem_flatMap.mpr ⟨d,hd,(b6i w).2⟩)
 have e:=c0w k.nd hm
 refine⟨os.idxOf (a6b w d),?_,?_,?_⟩
 ·have hl:=List.idxOf_lt_length_iff.mpr hm
  rw[List.getElem?_eq_getElem hl,List.getElem_idxOf hl]
 ·unfold a7q
  rw[b4s k.nn hd]
  show a1m os (d.1,a2j (a2p w d) (d.2.2.length:Int))=_
  rw[<-(b7k k.hw hd).2]
  exact e
 ·unfold d1b
  rw[b4s k.nn hd]
theorem Okp.le {w:Option Str} {p:Ps} {os:List Nk} (k:Okp w p os) (hc:os.Pairwise λ a b=>a.1=b.1->a.2<=b.2) {d:Dl} (hd:d∈p.1):a7q w p os d.1<=a3t w p os d.1:=by
 obtain⟨i,ei,e1,_⟩:=k.first hd
 obtain⟨j,ej,e2,_⟩:=k.keep hd
 rw[e1,e2]
 by_cases z:i<=j
 ·omega
 ·exfalso
  obtain⟨hi,ei'⟩:=List.getElem?_eq_some_iff.mp ei
  obtain⟨hj,ej'⟩:=List.getElem?_eq_some_iff.mp ej
  have:=List.pairwise_iff_getElem.mp hc j i hj hi (by omega) (by rw[ei',ej'];rfl)
  rw[ei',ej',(b7k k.hw hd).1,(b7k k.hw hd).2] at this
  have h2:a0q (a2p w d) (d.2.2.length:Int) - 1<=a2j (a2p w d) (d.2.2.length:Int):=this
  have h3:a2j (a2p w d) (d.2.2.length:Int)<=a0q (a2p w d) (d.2.2.length:Int) - 1:=by
   unfold a2j a0q
   split
   ·omega
   ·split<;>omega
  have h4:a6a w d=a6b w d:=by rw[(b7k k.hw hd).1,(b7k k.hw hd).2,show a0q (a2p w d) (d.2.2.length:Int) - 1=a2j (a2p w d) (d.2.2.length:Int) by omega]
  have h5:=a7n k.nd ei
  have h6:=a7n k.nd ej
  rw[h4,h5] at h6
  omega
theorem d1m {w:Option Str} {p:Ps} {os:List Nk} (k:Okp w p os) {n:Int} (h:∃ d∈p.1,d.1=n):a3t w p os n=(d2p w p os n:Int)/\a7q w p os n=(d1b w p os n:Int):=by
 obtain⟨d,hd,rfl⟩:=h
 obtain⟨i,_,e1,e2⟩:=k.keep hd
 obtain⟨j,_,e3,e4⟩:=k.first hd
 rw[e1,e2,e3,e4]
 exact⟨rfl,rfl⟩
theorem e3k {α:Type} {R S:α->α->Prop} {l:List α} (h:∀ a∈l,∀ b∈l,(R a b ↔ S a b)):l.Pairwise R ↔ l.Pairwise S:=⟨λ z=>List.Pairwise.imp_of_mem (λ {a b} ha hb y=>(h a ha b hb).mp y) z,λ z=>List.Pairwise.imp_of_mem (λ {a b} ha hb y=>(h a ha b hb).mpr y) z⟩
theorem Okp.makers {w:Option Str} {p:Ps} {os:List Nk} (k:Okp w p os) (hc:os.Pairwise λ a b=>a.1=b.1->a.2<=b.2) {r:Mkr} (hr:r∈p.2):(b6v (a3t w p os) (a7q w p os) r.2=true ↔ r.2.Pairwise λ a b=>a3t w p os a < a7q w p os b)/\(nbB (d2p w p os) (d1b w p os) r.2=true ↔ r.2.Pairwise λ a b=>a3t w p os a < a7q w p os b):=by
 have hle:∀ m∈r.2,a7q w p os m<=a3t w p os m:=λ m hm=>by
  obtain⟨d,hd,rfl⟩:=k.inm r hr m hm
  exact k.le hc hd
 refine⟨e2d hle λ a ha b hb ne e=>?_,?_⟩
 ·obtain⟨d,hd,rfl⟩:=k.inm r hr a ha
  obtain⟨d',hd',rfl⟩:=k.inm r hr b hb
  obtain⟨i,ei,e1,_⟩:=k.keep hd
  obtain⟨j,ej,e2,_⟩:=k.first hd'
  rw[e1,e2] at e
  have:i=j:=by omega
  subst this
  rw[ei] at ej
  have e3:a6a w d=a6b w d':=Option.some.inj ej
  have e4:(a6a w d).1=(a6b w d').1:=congrArg Prod.fst e3
  exact ne e4
 ·rw[e5c λ m hm=>?_]
  ·refine e3k λ a ha b hb=>?_
   have h1:=(d1m k (k.inm r hr a ha)).1
   have h2:=(d1m k (k.inm r hr b hb)).2
   rw[h1,h2]
   omega
  ·have h1:=d1m k (k.inm r hr m hm)
   have:=hle m hm
   rw[h1.1,h1.2] at this
   omega
theorem e4t {p:Ps} (nk:(p.2.map (·.1)).Nodup) (n k:Int):(p.2.any λ r=>decide (r.1=k) && decide (n∈r.2))=true ↔ n∈b8z p k:=by
 unfold b8z
 generalize p.2=l at nk
 induction l with
 | nil=>exact⟨(λ h=>by cases h),(λ h=>by cases h)⟩
 | cons r t ih =>
  obtain⟨n1,n2⟩:=List.nodup_cons.mp nk
  rw[List.any_cons,List.find?_cons]
  by_cases z:r.1=k
  ·rw[decide_eq_true z]
   have:(t.any λ r=>decide (r.1=k) && decide (n∈r.2))=false:=by
    rw[List.any_eq_false]
    intro x hx y
    rw[Bool.and_eq_true,decide_eq_true_eq] at y
    exact n1 (List.mem_map.mpr ⟨x,hx,y.1.trans z.symm⟩)
   rw[this,Bool.or_false,Bool.true_and,decide_eq_true_eq]
   exact Iff.rfl
  ·rw[decide_eq_false z,Bool.false_and,Bool.false_or]
   exact ih n2
theorem Okp.cur {w:Option Str} {p:Ps} {os:List Nk} (k:Okp w p os) {key:Int} (hm:∀ x∈b8z p key,∃ d∈p.1,d.1=x) (hr:(b8z p key).Pairwise λ a b=>a3t w p os a < a3t w p os b):∀ i,i<=os.length->(d1q w p (os.take i) (λ _=>none) key).getD 0=a9v (a3t w p os) (i:Int) 0 (b8z p key)
 | 0,_=>by
  rw[List.take_zero]
  show 0=_
  refine(c1o λ m hm'=>?_).symm
  obtain⟨d,hd,rfl⟩:=hm m hm'
  obtain⟨j,_,e,_⟩:=k.keep hd
  rw[e]
  omega
 | i+1,hi=>by
  obtain⟨q,hq⟩:∃ q,os[i]?=some q:=⟨_,List.getElem?_eq_getElem (by omega)⟩
  have ih:=Okp.cur k hm hr i (by omega)
  have tk:os.take (i+1)=os.take i++[q]:=by rw[List.take_add_one,hq];rfl
  obtain⟨d,hd,e,_,_⟩:=(a6x k.hw).mp (k.hp.mem_iff.mp (List.mem_of_getElem? hq))
  have hdl:c2e p q.1=some d:=by rw[<-e];exact b4s k.nn hd
  rw[tk,d3x,hdl]
  show (b0l w p d q.2 (d1q w p (os.take i) λ _=>none) key).getD 0=_
  have eq:(d.1,q.2)=q:=Prod.ext e rfl
  have hcast:((i+1:Nat):Int)=(i:Int)+1:=by omega
  rw[hcast]
  by_cases z:q=a6a w d/\d.1∈b8z p key
  ·have:b0l w p d q.2 (d1q w p (os.take i) λ _=>none) key=some d.1:=by
    unfold b0l
    rw[if_pos (by rw[eq];exact z.1),if_pos ((e4t k.nk _ _).mpr z.2)]
   rw[this]
   refine(d4l hr z.2 ?_).symm
   obtain⟨j,ej,e1,_⟩:=k.keep hd
   rw[e1]
   rw[z.1] at hq
   have h5:=a7n k.nd hq
   have h6:=a7n k.nd ej
   omega
  ·have:b0l w p d q.2 (d1q w p (os.take i) λ _=>none) key=d1q w p (os.take i) (λ _=>none) key:=by
    unfold b0l
    rw[eq]
    by_cases y:q=a6a w d
    ·rw[if_pos y,if_neg (λ u=>z ⟨y,(e4t k.nk _ _).mp u⟩)]
    ·rw[if_neg y]
   rw[this,ih]
   refine c9p λ m hm'=>?_
   obtain⟨d',hd',rfl⟩:=hm m hm'
   obtain⟨j,ej,e1,_⟩:=k.keep hd'
   rw[e1]
   have ne:j≠i:=λ y=>by
    subst y
    rw[hq] at ej
    have e3:q=a6a w d':=Option.some.inj ej
    have e4:q.1=d'.1:=congrArg Prod.fst e3
    rw[e4,b4s k.nn hd'] at hdl
    cases hdl
    exact z ⟨e3,hm'⟩
   omega
theorem Okp.deals {w:Option Str} {p:Ps} {os:List Nk} (k:Okp w p os) (hm:∀ r∈p.2,r.2.Pairwise λ a b=>a3t w p os a < a3t w p os b):b4v w p (λ _=>none) os=true ↔ p.1.all (b9a w p os)=true:=by
 have hmk:∀ key,(∀ x∈b8z p key,∃ d∈p.1,d.1=x)/\(b8z p key).Pairwise λ a b=>a3t w p os a < a3t w p os b:=λ key=>by
  unfold b8z
  cases e:p.2.find? (λ r=>decide (r.1=key)) with
  | none=>exact⟨(λ x hx=>by cases hx),.nil⟩
  | some r =>
   have hr:=List.mem_of_find?_eq_some e
   exact⟨k.inm r hr,hm r hr⟩
 have hcur:∀ key i,i<=os.length->(d1q w p (os.take i) (λ _=>none) key).getD 0=a9v (a3t w p os) (i:Int) 0 (b8z p key):=λ key i hi=>k.cur (hmk key).1 (hmk key).2 i hi
 have hdl:∀ q∈os,∃ d,c2e p q.1=some d:=λ q hq=>by
  obtain⟨d,hd,e,_,_⟩:=(a6x k.hw).mp (k.hp.mem_iff.mp hq)
  exact⟨d,by rw[<-e];exact b4s k.nn hd⟩
 rw[d4m hdl,List.all_eq_true]
 constructor
 ·intro h d hd
  refine b1o.mpr λ j hj=>?_
  unfold c7j
  rw[List.all_eq_true]
  intro pr hpr
  unfold d1j
  by_cases z:a2p w d="loose"
  ·rw[decide_eq_true z,Bool.true_or]
  ·rw[decide_eq_false z,Bool.false_or,decide_eq_true_eq]
   have e:=b3s (k.hw d hd) (j:Int)
   have hl:b1u (lvD w d) (j:Int)=some (a3e (a2p w d) (j:Int)):=e.2.2.2 z
   have hs:(d.1,a3e (a2p w d) (j:Int))∈os:=k.hp.mem_iff.mpr ((a6x k.hw).mpr ⟨d,hd,rfl,by
    show 0<=a3e (a2p w d) (j:Int)
    unfold a3e
    split<;>omega,by
    show a3e (a2p w d) (j:Int) < a0q (a2p w d) (d.2.2.length:Int)
    unfold a3e a0q
    split
    ·omega
    ·split<;>omega⟩)
   obtain⟨i,hi,ei⟩:=List.getElem_of_mem hs
   have ei':os[i]?=some (d.1,a3e (a2p w d) (j:Int)):=by rw[List.getElem?_eq_getElem hi,ei]
   have hf:=h i _ d ei' (b4s k.nn hd)
   have hsp:c0n os (d.1,a3e (a2p w d) (j:Int))=(i:Int):=by
    unfold c0n
    rw[a7n k.nd ei',if_neg (by omega)]
   rw[hsp]
   have hmem:d.2.2.getD j []∈a3g w d (a3e (a2p w d) (j:Int)):=by
    unfold a3g
    refine List.mem_filterMap.mpr ⟨j,List.mem_range.mpr hj,?_⟩
    rw[if_pos hl,List.getElem?_eq_getElem hj]
    simp[List.getD,hj]
   have hb:=List.all_eq_true.mp hf _ hmem
   unfold b1h at hb
   have:=of_decide_eq_true (List.all_eq_true.mp hb pr hpr)
   rw[hcur pr.1 i (by omega)] at this
   exact this.symm
 ·intro h i q d ei ed
  have hdm:d∈p.1:=List.mem_of_find?_eq_some ed
  have hdq:d.1=q.1:=of_decide_eq_true (List.find?_some (p:=λ d:Dl=>decide (d.1=q.1)) ed)
  have hi:=(List.getElem?_eq_some_iff.mp ei).1
  rw[List.all_eq_true]
  intro lk hlk
  unfold a3g at hlk
  obtain⟨j,hj,e⟩:=List.mem_filterMap.mp hlk
  have hj':=List.mem_range.mp hj
  by_cases zl:b1u (lvD w d) (j:Int)=some q.2
  ·rw[if_pos zl] at e
   have es:=b3s (k.hw d hdm) (j:Int)
   have z:¬ a2p w d="loose":=λ y=>by
    have h3:b1u (lvD w d) (j:Int)=none:=es.2.2.1 y
    rw[h3] at zl
    cases zl
   have hl:b1u (lvD w d) (j:Int)=some (a3e (a2p w d) (j:Int)):=es.2.2.2 z
   rw[hl] at zl
   have epl:a3e (a2p w d) (j:Int)=q.2:=Option.some.inj zl
   have h1:=b1o.mp (h d hdm) j hj'
   unfold c7j at h1
   have elk:d.2.2.getD j []=lk:=by simp[List.getD,e]
   rw[elk] at h1
   unfold b1h
   rw[List.all_eq_true]
   intro pr hpr
   have h2:=List.all_eq_true.mp h1 pr hpr
   unfold d1j at h2
   rw[decide_eq_false z,Bool.false_or,decide_eq_true_eq,epl,hdq] at h2
   have hsp:c0n os (q.1,q.2)=(i:Int):=by
    unfold c0n
    rw[a7n k.nd ei,if_neg (by omega)]
   rw[hsp] at h2
   rw[decide_eq_true_eq,hcur pr.1 i (by omega)]
   exact h2.symm
  ·rw[if_neg zl] at e
   cases e
theorem e0f {w:Option Str} {p:Ps} {os:List Nk} (hr:c5l p) (hw:WdP w p) (inm:e7w p) (nk:(p.2.map (·.1)).Nodup):d4a w p os=true ↔ d4b w p os:=by
 have nn:(p.1.map (·.1)).Nodup:=List.Pairwise.imp (λ {a b} h=>Int.ne_of_lt h) hr
 unfold d4a d4b
 rw[Bool.and_eq_true,Bool.and_eq_true,d6f hr hw]
 have step:os.Perm (p.1.flatMap (a1y w))->b2k (λ _=>0) os=true->(((p.2.all λ r=>b6v (a3t w p os) (a7q w p os) r.2)=true/\p.1.all (b9a w p os)=true) ↔ (b4v w p (λ _=>none) os=true/\a9x w p os=true)):=λ hp hc=>by
  have k:Okp w p os:=⟨nn,hw,hp,hp.nodup_iff.mpr (d4k hr),inm,nk⟩
  have hc2:=((c0p os _).mp hc).2
  have h1:((p.2.all λ r=>b6v (a3t w p os) (a7q w p os) r.2)=true ↔ a9x w p os=true):=by
   unfold a9x
   rw[List.all_eq_true,List.all_eq_true]
   exact⟨λ h r hr'=>(k.makers hc2 hr').2.mpr ((k.makers hc2 hr').1.mp (h r hr')),λ h r hr'=>(k.makers hc2 hr').1.mpr ((k.makers hc2 hr').2.mp (h r hr'))⟩
  have h2:a9x w p os=true->(b4v w p (λ _=>none) os=true ↔ p.1.all (b9a w p os)=true):=λ hf=>k.deals λ r hr'=>by
   unfold a9x at hf
   have:=(k.makers hc2 hr').2.mp (List.all_eq_true.mp hf r hr')
   refine List.Pairwise.imp_of_mem (λ {a b} ha hb y=>?_) this
   obtain⟨d,hd,rfl⟩:=inm r hr' b hb
   have:=k.le hc2 hd
   omega
  rw[h1]
  exact⟨λ ⟨a,b⟩=>⟨(h2 a).mpr b,a⟩,λ ⟨a,b⟩=>⟨b,(h2 b).mp a⟩⟩
 exact⟨λ ⟨⟨a,b⟩,c⟩=>⟨a,b,(step a b).mp c⟩,λ ⟨a,b,c⟩=>⟨⟨a,b⟩,(step a b).mpr c⟩⟩
--@STAGE
def b9g (c k:Int):Int:=((c+7919*k+5)*48271%2147483647)*((c+7919*k+5)*48271%2147483647)%2147483629
theorem d1n (c k:Int):0<=b9g c k:=Int.emod_nonneg _ (by decide)
theorem e8r (c k:Int):b9g c k < 2147483629:=Int.emod_lt_of_pos _ (by decide)
def f3f:Sp:=λ vs H Q _=>∃ c k:Int,vs=[.int c,.int k]/\Q (.int (b9g c k)) H
def f0u (K:PySem.W.Frag):Sp:=λ vs H Q _=>∃ (a:Addr) (ns:List Int) (k:Int),vs=[.ref a,.int k]/\SqL K H a (ns.map V.int)/\0<=k/\∀ c:Int,Q (.int c) H
abbrev Drn:=Int×Str×Int
def e4n (d:Drn):PyData:=.tuple [.int d.1,.str d.2.1,.int d.2.2]
def e7i (ds:List Drn):Prop:=ds.length<=8/\(ds.map (·.1)).Pairwise (· < ·)/\(∀ d∈ds,1<=d.1/\d.1<=8/\d.2.1∈wds/\0<=d.2.2/\d.2.2<=7)/\(3 < ds.length->∀ d∈ds,d.2.2<=3)
def e6k (K:PySem.W.Frag):Sp:=λ vs H Q _=>∃ (a:Addr) (ns:List Int) (wv:V),vs=[.ref a,wv]/\SqL K H a (ns.map V.int)/\(wv=.non\/∃ x∈wds,wv=.str x) /\
 ∀ v H' ds,Same H H'->Tr (off H H') v (.list (ds.map e4n))->e7i ds->(∀ x,wv=.str x->∀ d∈ds,d.2.1=x)->Q v H'
def cnt (os:List Pr) (i:Nat) (n:Int):Nat:=((os.take i).filter λ p=>p.1 == n).length
def e8s (ds:List Drn) (os:List Pr):Prop:=∀ i n g,os[i]?=some (n,g)->g=(cnt os i n:Int)/\∃ d∈ds,d.1=n/\g < a0q d.2.1 d.2.2
def e6z (K:PySem.W.Frag):Sp:=λ vs H Q _=>∃ (a:Addr) (ns:List Int) (dv:V) (ds:List Drn),vs=[.ref a,dv]/\SqL K H a (ns.map V.int)/\Tr H dv (.list (ds.map e4n))/\e7i ds /\
 ∀ v H' os,Same H H'->Tr (off H H') v (.list (os.map b4p))->e8s ds os->os.length<=32->Q v H'
def e9z (ks:List Int):Prop:=ks.length=4/\ks.Pairwise (· < ·)
def f0t:Sp:=λ vs H Q _=>∃ c:Int,vs=[.int c]/\0<=c/\c < 2147483629/\∀ D H' ks,H D=none->Same H H'->H' D=some (.lst (ks.map V.int))->e9z ks->Q (.ref D) H'
def e4x (ks ls:List Int) (l:Lk):Prop:=(l.map (·.1)).Pairwise (· < ·)/\l.length<=4/\∀ p∈l,∃ j:Nat,j < 4/\ks[j]?=some p.1/\(p.2=-1\/ls[j]?=some p.2)
def e8x:Sp:=λ vs H Q _=>∃ (ka la:Addr) (ks ls:List Int) (n:Int) (b:Bool),vs=[.ref ka,.ref la,.int n,.bl b]/\H ka=some (.lst (ks.map V.int))/\H la=some (.lst (ls.map V.int))/\e9z ks/\ls.length=4 /\
 ∀ v H' l f,Same H H'->TF H' v (a7m l) f->f.Nodup->(∀ b∈f,H b=none)->e4x ks ls l->Q v H'
theorem a1s (T:Tx K mg):a4j P w K mg base CX0 1 T.b9q T.b9j ["_law_cell_here","_law_k"] f3f:=by
 refine T.a1w.ok c9b (λ vs H Q E h=>?_) (λ cdv A outer s H vs Q E hr h=>?_)
 ·obtain⟨c,k,rfl,_⟩:=h
  rfl
 ·obtain⟨c,k,rfl,q⟩:=h
  refine⟨_,(a0e (a0n (i:=2) c9b.nd rfl (Or.inl rfl) (a0x a1v (a0x c2q (a0x a3v (a0x a3v (pv 0) (a0x c2q a0c (pv 1))) a0c) a0c) a0c))
   (a0g (a0u (a0x a1v (a0x c2q (pv 2) (pv 2)) a0c)))),?_⟩
  refine⟨_,rfl,_,rfl,_,_,rfl,rfl,.inl ⟨by decide,by decide⟩,_,_,rfl,rfl,_,_,rfl,rfl,_,_,rfl,rfl,.inr ⟨by decide,by decide⟩,_,_,rfl,rfl,(by show (0:Int) < 2147483647;decide),?_⟩
  have a1:=Int.emod_nonneg ((c+7919*k+5)*48271) (show (2147483647:Int)≠0 by decide)
  have a2:=Int.emod_lt_of_pos ((c+7919*k+5)*48271) (show (0:Int) < 2147483647 by decide)
  exact⟨_,rfl,_,rfl,_,_,rfl,rfl,.inl ⟨by omega,by omega⟩,_,_,rfl,rfl,(by show (0:Int) < 2147483629;decide),q⟩
theorem b3u (T:Tx K mg):a4j P w K mg base CX0 2 T.c5i T.c7w ["_law_script","_law_k"] (f0u K):=by
 refine T.b2g.ok e1k (λ vs H Q E h=>?_) (λ cdv A outer s H vs Q E hr h=>?_)
 ·obtain⟨a,ns,k,rfl,_⟩:=h
  rfl
 ·obtain⟨a,ns,k,rfl,ha,hk,q⟩:=h
  refine⟨_,(a0e (a3r (a0t c9c (pv 1) (a1a a1h (by rfl) T.a5u boot_len (a0a (pv 0) a0d)) (a0z _))
   (a0g (a0u (a0m a0v (pv 0) (pv 1) (λ _ _=>rfl))))
   a1d)
   (a0e (a3r (a0t e6j (a1a a1h (by rfl) T.a5u boot_len (a0a (pv 0) a0d)) a0c (a0z _))
   (a0g (a0u (a0l ((a1s T).mono (by decide)) hr rfl T.a2o T.a1w.kp T.a2m .nil a1l (a0a (a0m a0v (pv 0) (a0x a1v (pv 1) (a1a a1h (by rfl) T.a5u boot_len (a0a (pv 0) a0d))) (λ _ _=>rfl)) (a0a (pv 1) a0d)))))
   a1d)
   (a0g (a0u (a0l ((a1s T).mono (by decide)) hr rfl T.a2o T.a1w.kp T.a2m .nil a1l (a0a a0c (a0a (pv 1) a0d))))))),?_⟩
  refine⟨_,rfl,_,rfl,_,_,rfl,.inl ⟨_,ha,rfl⟩,_,_,rfl,rfl,_,rfl,b1n (λ e=>?_) (λ e=>?_)⟩
  ·have e1:k < ((ns.map V.int).length:Int):=of_decide_eq_true e
   obtain⟨v,hv⟩:=d4o (xs:=ns.map V.int) hk e1
   obtain⟨z,hz,rfl⟩:=List.mem_map.mp (c5p hv)
   exact⟨_,rfl,_,rfl,a,_,_,_,rfl,rfl,ha,hv,q z⟩
  ·refine⟨_,rfl,_,_,rfl,.inl ⟨_,ha,rfl⟩,_,_,rfl,rfl,_,rfl,b1n (λ e2=>?_) (λ e2=>?_)⟩
   ·have e3:(0:Int) < ((ns.map V.int).length:Int):=of_decide_eq_true e2
    obtain⟨v,hv⟩:=d4o (xs:=ns.map V.int) (Int.emod_nonneg k (Int.ne_of_gt e3)) (Int.emod_lt_of_pos k e3)
    obtain⟨z,hz,rfl⟩:=List.mem_map.mp (c5p hv)
    exact⟨_,rfl,_,rfl,_,rfl,_,_,rfl,.inl ⟨_,ha,rfl⟩,_,_,rfl,rfl,e3,a,_,_,_,rfl,rfl,ha,hv,_,rfl,_,_,rfl,q _⟩
   ·exact⟨_,rfl,_,_,rfl,q _⟩
theorem a0y {xs:List V} {i:Int} {v:V} (j:Nat) (e:i=(j:Int)) (h:xs[j]?=some v):atI xs i=some v:=by
 rw[e]
 exact a0i h
theorem e7m (b st:Int) (h:1<=st):([b,b+st,b+2*st,b+3*st]).Pairwise (· < ·):=by
 refine List.pairwise_cons.mpr ⟨λ x hx=>?_,List.pairwise_cons.mpr ⟨λ x hx=>?_,List.pairwise_cons.mpr ⟨λ x hx=>?_,List.pairwise_singleton _ _⟩⟩⟩<;>simp only [List.mem_cons,List.not_mem_nil,or_false] at hx<;>omega
theorem e1i (T:Tx K mg):a4j P w K mg base CX0 1 T.c7g T.c7v ["_law_cell_here"] f0t:=by
 refine T.d1h.ok c0c (λ vs H Q E h=>?_) (λ cdv A outer s H vs Q E hr h=>?_)
 ·obtain⟨c,rfl,_⟩:=h
  rfl
 ·obtain⟨c,rfl,c0,c1,q⟩:=h
  refine⟨_,(a0e (a0n (i:=1) c0c.nd rfl (Or.inr rfl) (a0x a1v (a0x c2q (a0x a3v (pv 0) a0c) a0c) (a0x e4v a0c a0c)))
   (a0e (a0n (i:=1) c0c.nd rfl (Or.inr rfl) (a0m a0v (a1o (a0a a0c (a0a (d5j c4e a0c) (a0a (pv 1) (a0a (a0x c4l a0c (pv 1)) a0d))))) (a0x a1v (pv 0) a0c) (λ _ _=>rfl)))
   (a0e (a0n (i:=2) c0c.nd rfl (Or.inr rfl) (a0x a3v a0c (a0x c2q (a0x a1v (a0x a7s (pv 0) a0c) a0c) (a0x a1v (a0x a7s (pv 0) a0c) (a0x e4v a0c a0c)))))
   (a0g (a0u (a3k ["_law_k"] rfl (a3c.mk (fv:=["_law_base","_law_step"]) (js:=[1,2]) rfl (by decide +kernel) (by decide +kernel) (by decide +kernel) (a1n (Or.inl rfl) (a1n (Or.inl rfl) a2n)) rfl (by decide +kernel)) (a1q rfl T.a2y (a0a a0c a0d)) (λ _ _ _ _ _=>(a0j (i:=0) (show (["_law_k","_law_base","_law_step"]:List Str).Nodup by decide +kernel) rfl (Or.inl rfl))) (λ _ _ _ _ _=>a9r) (λ _ _ _ _ _=>(a0x a3v (pv 1) (a0x c2q (pv 0) (pv 2)))))))))),?_⟩
  have e27:(10:Int) ^ (27:Int).toNat=1000000000000000000000000000:=by decide
  have x0:=Int.emod_nonneg (c / 4) (show (3:Int)≠0 by decide)
  have x1:=Int.emod_lt_of_pos (c / 4) (show (0:Int) < 3 by decide)
  have y0:=Int.emod_nonneg (c / 12) (show (10:Int) ^ (27:Int).toNat≠0 by decide)
  have y1:=Int.emod_lt_of_pos (c / 12) (show (0:Int) < (10:Int) ^ (27:Int).toNat by decide)
  refine⟨_,rfl,_,_,rfl,rfl,_,_,rfl,rfl,.inl ⟨by omega,by omega⟩,_,_,rfl,rfl,⟨by decide,by decide,by decide⟩,_,_,rfl,rfl,(by show (0:Int) < (10:Int) ^ (28:Int).toNat;decide),?_⟩
  refine⟨_,rfl,_,rfl,_,rfl,_,_,rfl,rfl,(by show 4<=sizeLine;decide),λ p hp=>?_⟩
  have s1:=Same.upd (o:=HO.lst [.int 0,.int (-2),.int ((c+1)*618033988749894848%(10:Int) ^ (28:Int).toNat),.int (0 - ((c+1)*618033988749894848%(10:Int) ^ (28:Int).toNat))]) hp
  have hb:∃ b:Int,atI [V.int 0,.int (-2),.int ((c+1)*618033988749894848%(10:Int) ^ (28:Int).toNat),.int (0 - ((c+1)*618033988749894848%(10:Int) ^ (28:Int).toNat))] (c%4)=some (.int b):=by
   have h4:c%4=0\/c%4=1\/c%4=2\/c%4=3:=by omega
   rcases h4 with z | z | z | z
   ·exact⟨_,a0y 0 z rfl⟩
   ·exact⟨_,a0y 1 z rfl⟩
   ·exact⟨_,a0y 2 z rfl⟩
   ·exact⟨_,a0y 3 z rfl⟩
  obtain⟨b,hb1⟩:=hb
  refine⟨_,rfl,_,_,rfl,rfl,(by show (0:Int) < 4;decide),p,_,_,_,rfl,rfl,SqL.of a0b,hb1,?_⟩
  refine⟨_,rfl,_,_,rfl,rfl,⟨by decide,by decide⟩,_,_,rfl,rfl,(by show (0:Int) < 3;decide),_,rfl,_,_,rfl,rfl,⟨by decide,by decide⟩,_,_,rfl,rfl,⟨by decide,by decide,by decide⟩,_,_,rfl,rfl,(by show (0:Int) < (10:Int) ^ (27:Int).toNat;decide),_,_,rfl,rfl,.inl ⟨by omega,by omega⟩,_,_,rfl,rfl,?_⟩
  have hS:∃ S:Int,1+c / 4%3*(c / 12%(10:Int) ^ (27:Int).toNat)=S/\1<=S/\S<=3000000000000000000000000000:=by
   generalize c / 12%(10:Int) ^ (27:Int).toNat=Y at *
   rw[e27] at y1
   have:c / 4%3=0\/c / 4%3=1\/c / 4%3=2:=by omega
   refine⟨_,rfl,?_⟩
   rcases this with z | z | z<;>rw[z]<;>omega
  obtain⟨S',eS,g1,g2⟩:=hS
  subst eS
  refine⟨4,rfl,by decide,by decide,b6z (k:=1) (fs:=[some (.int b),some (.int (1+c / 4%3*(c / 12%(10:Int) ^ (27:Int).toNat)))]) 4 (λ i=>some (.int (b+(0+(i:Int))*(1+c / 4%3*(c / 12%(10:Int) ^ (27:Int).toNat))))) rfl (by decide) (λ j H3 _ hj=>hj) (λ H3 _=>Nat.le_refl 4) ?_ ?_⟩
  ·rintro j H4 ts v H5 R ss hj hts ⟨rfl,rfl⟩ cb
   obtain⟨t,rfl⟩:=List.length_eq_one_iff.mp hts
   exact⟨_,rfl,_,rfl,_,rfl,_,_,rfl,rfl,.inl ⟨by omega,by omega⟩,_,_,rfl,rfl,cb [_] _ rfl (Same.refl _)⟩
  ·intro D H4 hD ss hd
   have ek:(List.range 4).filterMap (λ (i:Nat)=>some (V.int (b+(0+(i:Int))*(1+c / 4%3*(c / 12%(10:Int) ^ (27:Int).toNat)))))=([b,b+(1+c / 4%3*(c / 12%(10:Int) ^ (27:Int).toNat)),b+2*(1+c / 4%3*(c / 12%(10:Int) ^ (27:Int).toNat)),b+3*(1+c / 4%3*(c / 12%(10:Int) ^ (27:Int).toNat))]:List Int).map V.int:=by
    show [V.int (b+(0+((0:Nat):Int))*(1+c / 4%3*(c / 12%(10:Int) ^ (27:Int).toNat))),V.int (b+(0+((1:Nat):Int))*(1+c / 4%3*(c / 12%(10:Int) ^ (27:Int).toNat))),V.int (b+(0+((2:Nat):Int))*(1+c / 4%3*(c / 12%(10:Int) ^ (27:Int).toNat))),V.int (b+(0+((3:Nat):Int))*(1+c / 4%3*(c / 12%(10:Int) ^ (27:Int).toNat)))]=[V.int b,V.int (b+(1+c / 4%3*(c / 12%(10:Int) ^ (27:Int).toNat))),V.int (b+2*(1+c / 4%3*(c / 12%(10:Int) ^ (27:Int).toNat))),V.int (b+3*(1+c / 4%3*(c / 12%(10:Int) ^ (27:Int).toNat)))]
    simp
   rw[ek] at hd
   exact q D H4 _ (s1.free hD) (s1.trans ss) hd ⟨rfl,e7m b (1+c / 4%3*(c / 12%(10:Int) ^ (27:Int).toNat)) g1⟩
theorem e1f (T:Tx K mg):a4j P w K mg base CX0 1 T.c5s T.c5v ["_law_keys_here","_law_last","_law_number","_law_strange"] e8x:=by
 refine T.d2l.ok b5j (λ vs H Q E h=>?_) (λ cdv A outer s H vs Q E hr h=>?_)
 ·obtain⟨a1,a2,a3,a4,a5,a6,rfl,_⟩:=h
  rfl
 ·obtain⟨ka,la,ks,ls,n,sb,rfl,hka,hla,gk,l4,q⟩:=h
  refine⟨_,(a0e (a0n (i:=4) b5j.nd rfl (Or.inl rfl) (a1o a0d))
   (a0e (a2q PassesOwn.never rfl (a1q rfl T.a2y (a0a a0c a0d)) (a0j (i:=5) b5j.nd rfl (Or.inl rfl))
   (a0g (a3r (a0t a7v (a0x a1v (a0x a7s (pv 2) (a0m a0v (a1o (a0a a0c (a0a a0c (a0a a0c (a0a a0c a0d))))) (pv 5) (λ _ _=>rfl))) a0c) a0c (a0z _))
   (a0e (a0n (i:=6) b5j.nd rfl (Or.inl rfl) (a0m a0v (pv 1) (pv 5) (λ _ _=>rfl)))
   (a9e (a3r (PW.pt (b4h (c2y (pv 3)) (a9b (a0t a7v (a0x a1v (a0x a7s (pv 2) a0c) a0c) a0c (a0z _)))))
   (a0g (a0n (i:=6) b5j.nd rfl (Or.inl rfl) (d5j c4e a0c)))
   a1d)
   (a0g (a6l (b9f PySem.F.plainAttrs_list PySem.F.slot_list_append PySem.F.type_list_append a5k (pv 4) (a0a (a2b (a0a (a0m a0v (pv 0) (pv 5) (λ _ _=>rfl)) (a0a (pv 6) a0d))) a0d))))))
   a1d)))
   (a0g (a0u (pv 4))))),?_⟩
  have z9:(5:Nat)<=sizeLine:=by decide
  obtain⟨gk1,gk2⟩:=gk
  refine⟨(by show 0<=sizeLine;decide),λ D hD=>?_⟩
  have s1:=Same.upd (o:=HO.lst []) hD
  refine⟨4,rfl,by decide,by decide,a2h (lo:=0) (n:=4) (λ i σ H2=>∃ (x5 x6:Option V) (xs:List V) (l:Lk),σ=[some (.ref ka),some (.ref la),some (.int n),some (.bl sb),some (.ref D),x5,x6]/\Same H H2/\H2 D=some (.lst xs)/\(∃ f,TFs H2 xs (l.map b4p) f/\f.Nodup/\(∀ b∈f,H b=none)/\D ∉ f)/\(l.map (·.1)).Pairwise (· < ·)/\l.length<=i/\∀ p∈l,∃ j:Nat,j < i/\ks[j]?=some p.1/\(p.2=-1\/ls[j]?=some p.2))
   ⟨none,none,[],[],rfl,s1,a0b,⟨[],.nil,.nil,(λ b hb=>by cases hb),(λ hb=>by cases hb)⟩,.nil,Nat.le_refl _,λ p h=>by cases h⟩ ?_ ?_⟩
  ·rintro i σ H2 hi ⟨x5,x6,xs,l,rfl,s2,h2,⟨f0,ht,hf1,hf2,hf3⟩,hpw,hll,hal⟩
   refine d0n λ D' hD'=>?_
   have hxs:xs.length < sizeLine:=by rw[ht.len,List.length_map];omega
   have hz:∃ z:Int,0 < z/\z < 1073741824/\atI [V.int 1,.int 2,.int 4,.int 8] (0+(i:Int))=some (.int z):=by
    have:i=0\/i=1\/i=2\/i=3:=by omega
    rcases this with rfl | rfl | rfl | rfl
    ·exact⟨1,by decide,by decide,a0y 0 rfl rfl⟩
    ·exact⟨2,by decide,by decide,a0y 1 rfl rfl⟩
    ·exact⟨4,by decide,by decide,a0y 2 rfl rfl⟩
    ·exact⟨8,by decide,by decide,a0y 3 rfl rfl⟩
   obtain⟨z,z0,z1,hz⟩:=hz
   have ek:ks[i]?=some ks[i]:=List.getElem?_eq_getElem (by omega)
   have el:ls[i]?=some ls[i]:=List.getElem?_eq_getElem (by omega)
   have ai:(0+(i:Int))=((i:Nat):Int):=by omega
   have hkv:atI (ks.map V.int) (0+(i:Int))=some (.int ks[i]):=a0y i ai (by rw[List.getElem?_map,ek];rfl)
   have hlv:atI (ls.map V.int) (0+(i:Int))=some (.int ls[i]):=a0y i ai (by rw[List.getElem?_map,el];rfl)
   refine⟨_,rfl,(by show 4<=sizeLine;decide),λ p hp=>⟨_,rfl,p,_,_,_,rfl,rfl,SqL.of a0b,hz,_,_,rfl,rfl,⟨z0,z1⟩,_,_,rfl,rfl,(by show (0:Int) < 2;decide),rfl,_,rfl,?_⟩⟩
   have s3:=Same.upd (o:=HO.lst [.int 1,.int 2,.int 4,.int 8]) hp
   generalize upd H2 p (.lst [.int 1,.int 2,.int 4,.int 8])=H3 at *
   have s23:=s2.trans s3
   refine b1n (λ e=>?_) (λ e=>?_)
   ·refine⟨_,rfl,_,rfl,la,_,_,_,rfl,rfl,SqL.of (s23 _ _ hla),hlv,?_⟩
    refine⟨λ σ H4=>H4=H3/\∃ sr:Int,σ=[some (.ref ka),some (.ref la),some (.int n),some (.bl sb),some (.ref D),some (.int (0+(i:Int))),some (.int sr)]/\(sr=-1\/ls[i]?=some sr),?_,?_⟩
    ·refine⟨_,rfl,_,rfl,b1n (λ f=>?_) (λ f=>?_)⟩
     ·refine⟨_,rfl,_,_,rfl,rfl,⟨by decide,by decide⟩,_,_,rfl,rfl,(by show (0:Int) < 3;decide),rfl,_,rfl,b1n (λ g=>?_) (λ g=>?_)⟩
      ·exact⟨_,rfl,rfl,-1,rfl,.inl rfl⟩
      ·exact⟨rfl,ls[i],rfl,.inr el⟩
     ·exact⟨rfl,ls[i],rfl,.inr el⟩
    rintro σ H4 ⟨rfl,sr,rfl,hsr⟩
    refine⟨_,rfl,.inl ⟨rfl,_,SqL.of (s3 _ _ h2)⟩,_,rfl,_,rfl,ka,_,_,_,rfl,rfl,SqL.of (s23 _ _ hka),hkv,_,rfl,(by show 2<=sizeLine;decide),λ t ht2=>?_⟩
    have s4:=Same.upd (o:=HO.tup [.int ks[i],.int sr]) ht2
    have ht4:upd H4 t (.tup [.int ks[i],.int sr]) t=some (.tup [.int ks[i],.int sr]):=a0b
    generalize upd H4 t (.tup [.int ks[i],.int sr])=H5 at *
    refine⟨D,xs,_,rfl,rfl,s4 _ _ (s3 _ _ h2),hxs,λ H6 h6 k6=>?_⟩
    have tD:t≠D:=λ zz=>by rw[zz,s3 _ _ h2] at ht2;cases ht2
    have hH6:Same H H6:=λ b o eb=>k6 _ _ (λ zz=>by rw[zz,hD] at eb;cases eb) (s4 _ _ (s23 _ _ eb))
    subst hD'
    refine⟨_,_,_,l++[(ks[i],sr)],rfl,hH6,h6,?_,?_,by rw[List.length_append,List.length_singleton];omega,?_⟩
    ·rw[List.map_append]
     have tf:t ∉ f0:=λ y=>ht.not (s3.free ht2) y
     refine⟨f0++[t],(ht.fr λ b hb o eb=>k6 _ _ (λ y=>hf3 (y ▸ hb)) (s4 _ _ (s3 _ _ eb))).app (TFs.one (.tup (k6 _ _ tD ht4) (TFs.cons (f:=[]) (g:=[]) (.int _) (TFs.cons (f:=[]) (g:=[]) (.int _) .nil)))),nd2.mpr ⟨hf1,List.pairwise_singleton _ _,λ x hx=>by rw[List.mem_singleton.mp hx];exact tf⟩,λ b hb=>?_,λ hb=>?_⟩
     ·rcases List.mem_append.mp hb with y | y
      ·exact hf2 b y
      ·rw[List.mem_singleton.mp y]
       exact s23.free ht2
     ·rcases List.mem_append.mp hb with y | y
      ·exact hf3 y
      ·exact tD (List.mem_singleton.mp y).symm
    ·rw[List.map_append,List.pairwise_append]
     refine⟨hpw,List.pairwise_singleton _ _,λ x hx y hy=>?_⟩
     obtain⟨pp,hpp,rfl⟩:=List.mem_map.mp hx
     have hy':y=ks[i]:=by simpa using hy
     obtain⟨j,hj,ej,_⟩:=hal pp hpp
     rw[hy']
     obtain⟨hj2,ej2⟩:=List.getElem?_eq_some_iff.mp ej
     have:=List.pairwise_iff_getElem.mp gk2 j i hj2 (by omega) hj
     rw[ej2] at this
     exact this
    ·intro pp hpp
     rcases List.mem_append.mp hpp with y | y
     ·obtain⟨j,hj,e1,e2⟩:=hal pp y
      exact⟨j,by omega,e1,e2⟩
     ·rw[List.mem_singleton.mp y]
      exact⟨i,by omega,ek,hsr⟩
   ·subst hD'
    exact⟨_,_,xs,l,rfl,s23,s3 _ _ h2,⟨f0,ht.same s3,hf1,hf2,hf3⟩,hpw,by omega,λ pp hpp=>by obtain⟨j,hj,e1,e2⟩:=hal pp hpp;exact⟨j,by omega,e1,e2⟩⟩
  ·rintro σ H2 ⟨x5,x6,xs,l,rfl,s2,h2,⟨f0,ht,hf1,hf2,hf3⟩,hpw,hll,hal⟩
   exact⟨_,rfl,q _ H2 l (D::f0) s2 (.lst h2 ht) (List.nodup_cons.mpr ⟨hf3,hf1⟩) (λ b hb=>(List.mem_cons.mp hb).elim (λ y=>by rw[y];exact hD) (hf2 b)) ⟨hpw,hll,hal⟩⟩
--@STAGE
def d6l (sh th:Int) (j:Nat):Int:=1+(j:Int)+sh*(if th<=(j:Int) then 1 else 0)
theorem e6w {sh th:Int} (h:0<=sh) {i j:Nat} (hij:i < j):d6l sh th i < d6l sh th j:=by
 unfold d6l
 by_cases h1:th<=(i:Int)
 ·rw[if_pos h1,if_pos (show th<=(j:Int) by omega)]
  omega
 ·rw[if_neg h1]
  by_cases h2:th<=(j:Int)
  ·rw[if_pos h2]
   omega
  ·rw[if_neg h2]
   omega
theorem e5v {sh th:Int} (h:0<=sh) (j:Nat):1<=d6l sh th j/\d6l sh th j<=1+j+sh:=by
 unfold d6l
 split<;>omega
theorem c3j (T:Tx K mg):a4j P w K mg base CX0 3 T.a7g T.a7p ["_law_script","_law_word"] (e6k K):=by
 refine T.b0i.ok a1i (λ vs H Q E h=>?_) (λ cdv A outer s H vs Q E hr h=>?_)
 ·obtain⟨a1,a2,a3,rfl,_⟩:=h
  rfl
 ·obtain⟨a,ns,wv,rfl,ha,hw,q⟩:=h
  refine⟨_,(a0e (a0n (i:=2) a1i.nd rfl (Or.inl rfl) (a0l ((b3u T).mono (by decide)) hr rfl T.b4n T.b2g.kp T.b4t .nil a1l (a0a (pv 0) (a0a a0c a0d))))
   (a0e (a0n (i:=3) a1i.nd rfl (Or.inl rfl) (a0x a1v (pv 2) a0c))
   (a0e (a0n (i:=4) a1i.nd rfl (Or.inl rfl) (a0x a1v (a0l ((a1s T).mono (by decide)) hr rfl T.a2o T.a1w.kp T.a2m .nil a1l (a0a (pv 2) (a0a a0c a0d))) (a0x c4l a0c (pv 3))))
   (a0e (a0n (i:=5) a1i.nd rfl (Or.inl rfl) a0c)
   (a9e (a3r (PW.pt (b4h (a0t c9c (pv 3) a0c (a0z _)) (a9b (a0t a7v (a0x a1v (a0l ((a1s T).mono (by decide)) hr rfl T.a2o T.a1w.kp T.a2m .nil a1l (a0a (pv 2) (a0a a0c a0d))) a0c) a0c (a0z _)))))
   (a0g (a0n (i:=5) a1i.nd rfl (Or.inl rfl) a0c))
   a1d)
   (a0e (a0n (i:=6) a1i.nd rfl (Or.inl rfl) (a1o a0d))
   (a0e (a2q PassesOwn.never rfl (a1q rfl T.a2y (a0a (pv 3) a0d)) (a0j (i:=7) a1i.nd rfl (Or.inl rfl))
   (a0e (a0n (i:=8) a1i.nd rfl (Or.inl rfl) (pv 1))
   (a9e (a3r (a0t d7h (pv 1) b5s (a0z _))
   (a0g (a0n (i:=8) a1i.nd rfl (Or.inl rfl) (a0m a0v (a1o (a0a a1c (a0a a1c (a0a a1c (a0a a1c (a0a a1c a0d)))))) (a0x a1v (a0l ((a1s T).mono (by decide)) hr rfl T.a2o T.a1w.kp T.a2m .nil a1l (a0a (pv 2) (a0a (a0x a3v a0c (pv 7)) a0d))) a0c) (λ _ _=>rfl))))
   a1d)
   (a0e (a0n (i:=9) a1i.nd rfl (Or.inl rfl) (a0x a3v (a0x a3v a0c (pv 7)) (a0x c2q (pv 4) (a2i d0r (by rfl) T.d8o boot_int (a0a (b7j e7p (pv 7) (a0x a1v (a0l ((a1s T).mono (by decide)) hr rfl T.a2o T.a1w.kp T.a2m .nil a1l (a0a (pv 2) (a0a a0c a0d))) a0c) (a0z _)) a0d)))))
   (a0g (a6l (b9f PySem.F.plainAttrs_list PySem.F.slot_list_append PySem.F.type_list_append a5k (pv 6) (a0a (a2b (a0a (pv 9) (a0a (pv 8) (a0a (a0x a1v (a0l ((a1s T).mono (by decide)) hr rfl T.a2o T.a1w.kp T.a2m .nil a1l (a0a (pv 2) (a0a (a0x a3v a0c (pv 7)) a0d))) (pv 5)) a0d)))) a0d))))))))
   (a0g (a0u (pv 6)))))))))),?_⟩
  refine c6l λ b' hb'=>?_
  have z9:(9:Nat)<=sizeLine:=by decide
  refine⟨_,rfl,a,ns,0,rfl,ha,by decide,λ c=>?_⟩
  obtain⟨m,em⟩:∃ m:Int,c%9=m:=⟨_,rfl⟩
  have m0:=Int.emod_nonneg c (show (9:Int)≠0 by decide)
  have m1:=Int.emod_lt_of_pos c (show (0:Int) < 9 by decide)
  rw[em] at m0 m1
  subst hb';refine b2n λ b' hb'=>?_
  refine⟨_,rfl,_,_,rfl,rfl,(by show (0:Int) < 9;decide),?_⟩
  have h9:(0:Int) < 9 - c%9:=by omega
  subst hb';refine b2n λ b' hb'=>?_
  refine⟨_,rfl,c,1,rfl,_,rfl,_,_,rfl,rfl,_,_,rfl,rfl,h9,?_⟩
  obtain⟨sh,esh⟩:∃ sh:Int,b9g c 1%(9 - c%9)=sh:=⟨_,rfl⟩
  have sh0:=Int.emod_nonneg (b9g c 1) (Int.ne_of_gt h9)
  have sh1:=Int.emod_lt_of_pos (b9g c 1) h9
  rw[esh] at sh0 sh1
  rw[em] at sh1
  subst hb'
  refine⟨λ σ H2=>H2=H/\∃ mo:Int,σ=[some (.ref a),some wv,some (.int c),some (.int m),some (.int sh),some (.int mo),none,none,none,none]/\(mo=4\/(mo=8/\m < 4)),?_,?_⟩
  ·refine⟨_,rfl,_,_,rfl,rfl,_,rfl,b1n (λ e=>?_) (λ e=>?_)⟩
   ·refine⟨_,rfl,c,3,rfl,_,_,rfl,rfl,(by show (0:Int) < 3;decide),rfl,_,rfl,b1n (λ f=>?_) (λ f=>?_)⟩
    ·exact⟨rfl,8,by rw[<-em,<-esh];rfl,.inr ⟨rfl,by rw[<-em];exact of_decide_eq_true e⟩⟩
    ·exact⟨rfl,4,by rw[<-em,<-esh];rfl,.inl rfl⟩
   ·exact⟨rfl,4,by rw[<-em,<-esh];rfl,.inl rfl⟩
  rintro σ H2 ⟨rfl,mo,rfl,hmo⟩
  have mo0:0 < mo/\mo<=8:=by omega
  obtain⟨th,eth⟩:∃ th:Int,b9g c 2%8=th:=⟨_,rfl⟩
  refine c6l λ b' hb'=>?_
  refine⟨(by show 0<=sizeLine;decide),λ D hD=>?_⟩
  have s1:=Same.upd (o:=HO.lst []) hD
  subst hb';refine b2n λ b' hb'=>?_
  refine⟨_,rfl,m,rfl,by omega,by omega,a2h (lo:=0) (n:=m.toNat) (λ i σ H3=>∃ (x7 x8 x9:Option V) (xs:List V) (ds:List Drn),σ=[some (.ref a),some wv,some (.int c),some (.int m),some (.int sh),some (.int mo),some (.ref D),x7,x8,x9]/\Same H2 H3/\H3 D=some (.lst xs)/\Trs (b9e (off H2 H3) D) xs (ds.map e4n)/\ds.map (·.1)=(List.range i).map (d6l sh th)/\∀ d∈ds,d.2.1∈wds/\0<=d.2.2/\d.2.2 < mo/\∀ x,wv=.str x->d.2.1=x)
   ⟨none,none,none,[],[],rfl,s1,a0b,.nil,rfl,λ p h=>by cases h⟩ ?_ ?_⟩
  ·intro i σ H3 hi hJ'
   refine d6k λ G' hG'=>?_
   obtain⟨x7,x8,x9,xs,ds,rfl,s3,h3,ht,hnum,hal⟩:=hJ'
   refine hG' ?_
   refine d0n λ D' hD'=>?_
   have hdl:ds.length=i:=by
    have:=congrArg List.length hnum
    rw[List.length_map,List.length_map,List.length_range] at this
    exact this
   have hxs:xs.length < sizeLine:=by rw[ht.len,List.length_map];omega
   refine⟨_,rfl,?_⟩
   refine⟨λ σ H4=>Same H3 H4/\∃ ow:Str,σ=[some (.ref a),some wv,some (.int c),some (.int m),some (.int sh),some (.int mo),some (.ref D),some (.int (0+(i:Int))),some (.str ow),x9]/\ow∈wds/\∀ x,wv=.str x->ow=x,?_,?_⟩
   ·rcases hw with rfl | ⟨x,hx,rfl⟩
    ·refine⟨_,rfl,rfl,_,rfl,f2i rfl ?_⟩
     refine⟨(by show 5<=sizeLine;decide),λ p hp=>?_⟩
     obtain⟨v,hv⟩:=d4o (xs:=wds.map V.str) (Int.emod_nonneg (b9g c (10+(0+(i:Int)))) (show (5:Int)≠0 by decide)) (Int.emod_lt_of_pos (b9g c (10+(0+(i:Int)))) (show (0:Int) < 5 by decide))
     obtain⟨x,hx,rfl⟩:=List.mem_map.mp (c5p hv)
     refine⟨_,rfl,_,rfl,_,_,rfl,rfl,c,_,rfl,_,_,rfl,rfl,(by show (0:Int) < 5;decide),p,_,_,_,rfl,rfl,SqL.of a0b,hv,Same.upd hp,x,rfl,hx,λ x h=>by cases h⟩
    ·refine⟨_,rfl,rfl,_,rfl,f2p (λ z=>by cases z) ?_⟩
     exact⟨Same.refl _,x,rfl,hx,λ y h=>by cases h;rfl⟩
   rintro σ H4 ⟨s4,ow,rfl,how,hox⟩
   refine c6l λ b2' hb2'=>?_
   refine⟨_,rfl,_,_,rfl,rfl,_,rfl,_,rfl,_,rfl,c,2,rfl,_,_,rfl,rfl,(by show (0:Int) < 8;decide),_,_,rfl,rfl,.inr ⟨_,rfl,_,_,rfl,rfl,.inl ⟨by omega,by omega⟩,_,_,rfl,rfl,?_⟩⟩
   have hlo:0<=b9g c (20+(0+(i:Int)))%mo/\b9g c (20+(0+(i:Int)))%mo < mo:=⟨Int.emod_nonneg _ (by omega),Int.emod_lt_of_pos _ mo0.1⟩
   subst hb2'
   refine⟨_,rfl,.inl ⟨rfl,_,SqL.of (s4 _ _ h3)⟩,_,rfl,_,rfl,_,rfl,_,rfl,_,_,rfl,rfl,c,_,rfl,_,rfl,_,_,rfl,rfl,mo0.1,(by show 3<=sizeLine;decide),λ t ht2=>?_⟩
   have en:1+(0+(i:Int))+sh*(if decide (b9g c 2%8<=0+(i:Int))=true then 1 else 0)=d6l sh th i:=by
    unfold d6l
    rw[eth,show (0+(i:Int))=(i:Int) by omega]
    by_cases g:th<=(i:Int)
    ·rw[if_pos g,if_pos (decide_eq_true g)]
    ·rw[if_neg g,if_neg (λ z=>g (of_decide_eq_true z))]
   have tD:t≠D:=λ zz=>by rw[zz,s4 _ _ h3] at ht2;cases ht2
   have key:∀ nn:Int,nn=d6l sh th i->∀ H5,upd H4 t (.tup [.int nn,.str ow,.int (b9g c (20+(0+(i:Int)))%mo)])=H5->∀ H6,H6 D=some (.lst (xs++[.ref t]))->(∀ b o,b≠D->H5 b=some o->H6 b=some o)->∃ (x7 x8 x9':Option V) (xs':List V) (ds':List Drn),[some (.ref a),some wv,some (.int c),some (.int m),some (.int sh),some (.int mo),some (.ref D),some (.int (0+(i:Int))),some (.str ow),some (V.int nn)]=[some (.ref a),some wv,some (.int c),some (.int m),some (.int sh),some (.int mo),some (.ref D),x7,x8,x9']/\Same H2 H6/\H6 D=some (.lst xs')/\Trs (b9e (off H2 H6) D) xs' (ds'.map e4n)/\ds'.map (·.1)=(List.range (i+1)).map (d6l sh th)/\∀ d∈ds',d.2.1∈wds/\0<=d.2.2/\d.2.2 < mo/\∀ x,wv=.str x->d.2.1=x:=by
    intro nn enn H5 e5 H6 h6 k6
    have s5:Same H4 H5:=by rw[<-e5];exact Same.upd ht2
    have ht5:H5 t=some (.tup [.int nn,.str ow,.int (b9g c (20+(0+(i:Int)))%mo)]):=by rw[<-e5];exact a0b
    have s35:=s4.trans s5
    have hH6:Same H2 H6:=λ b o eb=>k6 _ _ (λ zz=>by rw[zz,hD] at eb;cases eb) (s35 _ _ (s3 _ _ eb))
    refine⟨_,_,_,_,ds++[(nn,ow,b9g c (20+(0+(i:Int)))%mo)],rfl,hH6,h6,?_,?_,?_⟩
    ·rw[List.map_append]
     exact(ht.same λ b o eb=>a7b (a4g eb).1 (b2h (a2t (a4g eb).2).1 (k6 _ _ (a4g eb).1 (s35 _ _ (a2t (a4g eb).2).2)))).app (.cons (.tup (a7b tD (b2h ((s3.trans s4).free ht2) (k6 _ _ tD ht5))) (.cons (.int _) (.cons (.str _) (.cons (.int _) .nil)))) .nil)
    ·rw[List.map_append,hnum,List.range_succ,List.map_append,enn]
     rfl
    ·intro d hd
     rcases List.mem_append.mp hd with y | y
     ·exact hal d y
     ·rw[List.mem_singleton.mp y]
      exact⟨how,hlo.1,hlo.2,hox⟩
   refine⟨D,xs,_,rfl,rfl,(Same.upd ht2) _ _ (s4 _ _ h3),hxs,λ H6 h6 k6=>?_⟩
   subst hD'
   exact key _ en _ rfl H6 h6 k6
  ·intro σ H3 hJ'
   refine d6k λ G' hG'=>?_
   obtain⟨x7,x8,x9,xs,ds,rfl,s3,h3,ht,hnum,hal⟩:=hJ'
   refine hG' ?_
   subst hb'
   have hdl:ds.length=m.toNat:=by
    have:=congrArg List.length hnum
    rw[List.length_map,List.length_map,List.length_range] at this
    exact this
   refine⟨_,rfl,q _ H3 ds s3 (.lst (b2h hD h3) (ht.same b6r)) ⟨by omega,?_,λ d hd=>?_,λ h4 d hd=>?_⟩ λ x hx d hd=>(hal d hd).2.2.2 x hx⟩
   ·rw[hnum,List.pairwise_map]
    exact List.pairwise_lt_range.imp λ h=>e6w sh0 h
   ·have hm:d.1∈(List.range m.toNat).map (d6l sh th):=by rw[<-hnum];exact List.mem_map.mpr ⟨d,hd,rfl⟩
    obtain⟨j,hj,ej⟩:=List.mem_map.mp hm
    have hj':=List.mem_range.mp hj
    have:=e5v (th:=th) sh0 j
    rw[ej] at this
    have h2:=hal d hd
    exact⟨this.1,by omega,h2.1,h2.2.1,by omega⟩
   ·have h2:=hal d hd
    omega
def dkC (ds:List Drn) (c:Int->Int):List (Key×V):=ds.map λ d=>(Sum.inl d.1,.int (c d.1))
theorem e5d {ds:List Drn} {c:Int->Int} {n:Int} (h:∃ d∈ds,d.1=n):a4l (dkC ds c) (Sum.inl n:Key)=some (.int (c n)):=by
 obtain⟨d,hd,rfl⟩:=h
 unfold a4l dkC
 rw[List.find?_map]
 have:∃ e,ds.find? ((λ kv:Key×V=>decide (kv.1=Sum.inl d.1)) ∘ λ e:Drn=>(Sum.inl e.1,V.int (c e.1)))=some e:=by
  rw[<-Option.isSome_iff_exists,List.find?_isSome]
  exact⟨d,hd,decide_eq_true rfl⟩
 obtain⟨e,he⟩:=this
 rw[he]
 have h1:=List.find?_some he
 have h2:(Sum.inl e.1:Key)=Sum.inl d.1:=of_decide_eq_true h1
 have h3:e.1=d.1:=Sum.inl.inj h2
 show some (V.int (c e.1))=some (V.int (c d.1))
 rw[h3]
theorem e6h {ds:List Drn} {c:Int->Int} {n v:Int} (h:∃ d∈ds,d.1=n):a6v (dkC ds c) (Sum.inl n:Key) (.int v)=dkC ds λ m=>if m=n then v else c m:=by
 obtain⟨d,hd,rfl⟩:=h
 unfold a6v
 have ha:((dkC ds c).any λ kv=>decide (kv.1=Sum.inl d.1))=true:=by
  rw[List.any_eq_true]
  exact⟨_,List.mem_map.mpr ⟨d,hd,rfl⟩,decide_eq_true rfl⟩
 rw[if_pos ha]
 unfold dkC
 rw[List.map_map]
 refine List.map_congr_left λ e _=>?_
 show (if (Sum.inl e.1:Key)=Sum.inl d.1 then ((Sum.inl e.1:Key),V.int v) else (Sum.inl e.1,V.int (c e.1)))=(Sum.inl e.1,V.int (if e.1=d.1 then v else c e.1))
 by_cases g:e.1=d.1
 ·rw[if_pos (congrArg Sum.inl g),if_pos g]
 ·rw[if_neg (λ z=>g (Sum.inl.inj z)),if_neg g]
theorem e6p {ds:List Drn} {c:Int->Int} {d:Drn} (h:∀ e∈ds,e.1≠d.1):a6v (dkC ds c) (Sum.inl d.1:Key) (.int (c d.1))=dkC (ds++[d]) c:=by
 rw[d1z]
 ·unfold dkC
  rw[List.map_append]
  rfl
 ·cases ev:a4l (dkC ds c) (Sum.inl d.1:Key) with
  | none=>rfl
  | some v =>
   obtain⟨kv,hk,z⟩:=List.mem_map.mp (d3c ev)
   obtain⟨e,he,rfl⟩:=List.mem_map.mp hk
   exact absurd (Sum.inl.inj z) (h e he)
theorem d3z {c:Int->Int} {n:Int}:∀ {ds:List Drn},(ds.map (·.1)).Pairwise (· < ·)->(∃ d∈ds,d.1=n)->(ds.map λ d=>if d.1=n then c n+1 else c d.1).sum=(ds.map λ d=>c d.1).sum+1
 | [],_,⟨d,hd,_⟩=>by cases hd
 | e::r,hp,hx=>by
  rw[List.map_cons,List.pairwise_cons] at hp
  simp only [List.map_cons,List.sum_cons]
  by_cases g:e.1=n
  ·have hr:(r.map λ d=>if d.1=n then c n+1 else c d.1)=r.map λ d=>c d.1:=List.map_congr_left λ d hd=>by
    have:=hp.1 d.1 (List.mem_map.mpr ⟨d,hd,rfl⟩)
    rw[if_neg (by omega)]
   rw[if_pos g,hr,g]
   omega
  ·have:∃ d∈r,d.1=n:=by
    obtain⟨d,hd,ed⟩:=hx
    rcases List.mem_cons.mp hd with rfl | z
    ·exact absurd ed g
    ·exact⟨d,z,ed⟩
   rw[if_neg g,d3z hp.2 this]
   omega
theorem d9x (os:List Pr) (p:Pr) (n:Int):cnt (os++[p]) (os.length+1) n=cnt os os.length n+(if p.1=n then 1 else 0):=by
 unfold cnt
 rw[List.take_of_length_le (by simp),List.take_length,List.filter_append,List.length_append]
 congr 1
 by_cases h:p.1=n
 ·rw[if_pos h]
  have:(p.1 == n)=true:=by simpa using h
  simp[this]
 ·rw[if_neg h]
  have:(p.1 == n)=false:=by simpa using h
  simp[this]
theorem e0t (os:List Pr) (p:Pr) {i:Nat} (h:i<=os.length) (n:Int):cnt (os++[p]) i n=cnt os i n:=by
 unfold cnt
 rw[List.take_append_of_le_length h]
theorem e8s.snoc {ds:List Drn} {os:List Pr} (h:e8s ds os) {n:Int} (hd:∃ d∈ds,d.1=n/\(cnt os os.length n:Int) < a0q d.2.1 d.2.2):e8s ds (os++[(n,(cnt os os.length n:Int))]):=by
 intro i m g e
 rcases Nat.lt_or_ge i os.length with hi | hi
 ·rw[List.getElem?_append_left hi] at e
  rw[e0t _ _ (Nat.le_of_lt hi)]
  exact h i m g e
 ·rw[List.getElem?_append_right hi] at e
  have hi2:i - os.length=0:=by
   rcases Nat.eq_zero_or_pos (i - os.length) with z | z
   ·exact z
   ·rw[List.getElem?_eq_none (by rw[List.length_singleton];omega)] at e
    cases e
  rw[hi2] at e
  cases e
  have:i=os.length:=by omega
  subst this
  rw[e0t _ _ (Nat.le_refl _)]
  exact⟨rfl,hd⟩
theorem c2b {w:Str} {l:Int} (h0:0<=l) (h7:l<=7):1<=a0q w l/\a0q w l<=8:=by
 unfold a0q
 split
 ·omega
 ·split<;>omega
theorem b7h {α:Type} {f g:α->Int}:∀ {l:List α},(∀ x∈l,f x<=g x)->(l.map f).sum<=(l.map g).sum
 | [],_=>Int.le_refl _
 | x::r,h=>by
  have h1:=h x List.mem_cons_self
  have h2:=b7h (l:=r) λ y hy=>h y (List.mem_cons_of_mem _ hy)
  simp only [List.map_cons,List.sum_cons]
  omega
theorem b2m {α:Type} {f:α->Int} {k:Int}:∀ {l:List α},(∀ x∈l,f x<=k)->(l.map f).sum<=k*l.length
 | [],_=>by simp
 | x::r,h=>by
  have h1:=h x List.mem_cons_self
  have h2:=b2m (l:=r) λ y hy=>h y (List.mem_cons_of_mem _ hy)
  simp only [List.map_cons,List.sum_cons,List.length_cons]
  rw[show k*((r.length+1:Nat):Int)=k*r.length+k by push_cast;rw[Int.mul_add,Int.mul_one]]
  omega
theorem _root_.My.Tr.drn {H:Hp} {v:V} {d:Drn} (h:Tr H v (e4n d)):∃ a,v=.ref a/\H a=some (.tup [.int d.1,.str d.2.1,.int d.2.2]):=by
 cases h with
 | @tup a xs _ h r =>
  cases r with
  | cons h1 r =>
   cases r with
   | cons h2 r =>
    cases r with
    | cons h3 r =>
     cases r
     cases h1
     cases h2
     cases h3
     exact⟨a,rfl,h⟩
theorem c5m {α:Type}:∀ l:List α,(l.map λ _=>(0:Int)).sum=0
 | []=>rfl
 | _::r=>by rw[List.map_cons,List.sum_cons,c5m r];rfl
theorem c7n (cf:Int->Int):∀ ds:List Drn,ds.filterMap (λ d=>if cf d.1 < a0q d.2.1 d.2.2 then some (V.int d.1) else none)=((ds.filter λ d=>decide (cf d.1 < a0q d.2.1 d.2.2)).map (·.1)).map V.int
 | []=>rfl
 | d::r=>by
  rw[List.filterMap_cons,List.filter_cons]
  by_cases e:cf d.1 < a0q d.2.1 d.2.2
  ·rw[if_pos e,if_pos (decide_eq_true e),c7n cf r]
   rfl
  ·rw[if_neg e,if_neg (λ z=>e (of_decide_eq_true z)),c7n cf r]
theorem b7i {ds:List Drn} (h:(ds.map (·.1)).Pairwise (· < ·)) {d e:Drn} (hd:d∈ds) (he:e∈ds) (x:d.1=e.1):d=e:=by
 have hp:=List.pairwise_iff_getElem.mp (List.pairwise_map.mp h)
 obtain⟨i,hi,rfl⟩:=List.getElem_of_mem hd
 obtain⟨j,hj,rfl⟩:=List.getElem_of_mem he
 rcases Nat.lt_trichotomy i j with z | z | z
 ·have:=hp i j hi hj z
  omega
 ·subst z
  rfl
 ·have:=hp j i hj hi z
  omega
theorem f1l {H H3:Hp} {D g b:Addr} {o:HO}:b9e (b9e (off H H3) D) g b=some o ↔ b≠g/\b≠D/\H b=none/\H3 b=some o:=by
 constructor
 ·intro e
  have e1:=a4g e
  have e2:=a4g e1.2
  have e3:=a2t e2.2
  exact⟨e1.1,e2.1,e3.1,e3.2⟩
 ·rintro⟨h1,h2,h3,h4⟩
  exact a7b h1 (a7b h2 (b2h h3 h4))
theorem c3l (T:Tx K mg):a4j P w K mg base CX0 3 T.a7k T.a7e ["_law_script","_law_deals"] (e6z K):=by
 refine T.b1b.ok a1j (λ vs H Q E h=>?_) (λ cdv A outer s H vs Q E hr h=>?_)
 ·obtain⟨a1,a2,a3,a4,rfl,_⟩:=h
  rfl
 ·obtain⟨a,ns,dv,ds,rfl,ha,hd,gd,q⟩:=h
  have hu:=a9a hr
  refine⟨_,(a0e (a0n (i:=2) a1j.nd rfl (Or.inr rfl) a7f)
   (a0e (a0n (i:=3) a1j.nd rfl (Or.inl rfl) a0c)
   (a0e (a2q PassesOwn.never rfl (a1t (pv 1)) (b1j rfl (a0s (a0j (i:=4) a1j.nd rfl (Or.inl rfl)) (a0s (a0j (i:=5) a1j.nd rfl (Or.inl rfl)) (a0s (a0j (i:=6) a1j.nd rfl (Or.inl rfl)) a4n))))
   (a0e (a7t hu (pv 2) (pv 4) a0c rfl)
   (a0g (a0n (i:=3) a1j.nd rfl (Or.inl rfl) (a0x a3v (pv 3) (a0l ((b2q T).mono (by decide)) hr rfl T.b2v T.b0u.kp T.b3n .nil a1l (a0a (pv 5) (a0a (pv 6) a0d))))))))
   (a0e (a0n (i:=7) a1j.nd rfl (Or.inl rfl) (a1o a0d))
   (a0e (a2q PassesOwn.never rfl (a1q rfl T.a2y (a0a (pv 3) a0d)) (a0j (i:=8) a1j.nd rfl (Or.inl rfl))
   (a0e (c5w (i:=9) ["_law_row"] rfl a1j.nd rfl rfl (a3c.mk (fv:=["_law_gone"]) (js:=[2]) rfl (by decide +kernel) (by decide +kernel) (by decide +kernel) (a1n (Or.inl rfl) a2n) rfl (by decide +kernel)) (a1t (pv 1)) rfl (λ _ _ _ _ _=>(a0j (i:=0) (show (["_law_row","_law_gone"]:List Str).Nodup by decide +kernel) rfl (Or.inl rfl))) (λ _ _ _ _ _=>(c9j (a0t c9c (a1f hu (pv 1) (a0m (a2r (K:=K) rfl) (pv 0) a0c (λ _ _=>rfl)) (λ _ _=>rfl)) (a0l ((b2q T).mono (by decide)) hr rfl T.b2v T.b0u.kp T.b3n .nil a1l (a0a (a0m (a2r (K:=K) rfl) (pv 0) a0c (λ _ _=>rfl)) (a0a (a0m (a2r (K:=K) rfl) (pv 0) a0c (λ _ _=>rfl)) a0d))) (a0z _)))) (λ _ _ _ _ _=>(a0m (a2r (K:=K) rfl) (pv 0) a0c (λ _ _=>rfl))))
   (a0e (a0n (i:=4) a1j.nd rfl (Or.inl rfl) (a0m a0v (pv 9) (a0x a1v (a0l ((a1s T).mono (by decide)) hr rfl T.a2o T.a1w.kp T.a2m .nil a1l (a0a (a0l ((b3u T).mono (by decide)) hr rfl T.b4n T.b2g.kp T.b4t .nil a1l (a0a (pv 0) (a0a (a0x a3v a0c (pv 8)) a0d))) (a0a a0c a0d))) (a1a a1h (by rfl) T.a5u boot_len (a0a (pv 9) a0d))) (λ _ _=>rfl)))
   (a0e (a6l (b9f PySem.F.plainAttrs_list PySem.F.slot_list_append PySem.F.type_list_append a5k (pv 7) (a0a (a2b (a0a (pv 4) (a0a (a1f hu (pv 2) (pv 4) (λ _ _=>rfl)) a0d))) a0d)))
   (a0g (a7t hu (pv 2) (pv 4) (a0x a3v (a1f hu (pv 2) (pv 4) (λ _ _=>rfl)) a0c) rfl))))))
   (a0g (a0u (pv 7)))))))),?_⟩
  refine c6l λ b' hb'=>?_
  have z9:(200:Nat)<=sizeLine:=by decide
  obtain⟨dl,xs,rfl,hdl,htx⟩:=b1a hd
  obtain⟨g1,g2,g3,g4⟩:=gd
  have hxl:xs.length=ds.length:=by rw[htx.len,List.length_map]
  intro g hg
  have s1:=Same.upd (o:=HO.dK []) hg
  subst hb'
  refine⟨_,rfl,dl,rfl,⟨_,SqL.of (s1 _ _ hdl)⟩,a4u (K:=K) (a:=dl) (xs:=xs) (λ i σ H2=>∃ (x4 x5 x6:Option V),σ=[some (.ref a),some (.ref dl),some (.ref g),some (.int ((ds.take i).map λ d=>a0q d.2.1 d.2.2).sum),x4,x5,x6,none,none,none]/\Same H H2/\H2 g=some (.dK (dkC (ds.take i) λ _=>0)))
   ⟨none,none,none,rfl,s1,a0b⟩ (λ i σ H2 _ hJ'=>by obtain⟨_,_,_,_,s2,_⟩:=hJ';exact SqL.of (s2 _ _ hdl)) ?_ ?_⟩
  ·intro i x σ H2 hx hJ'
   refine d6k λ G' hG'=>?_
   obtain⟨x4,x5,x6,rfl,s2,h2⟩:=hJ'
   obtain⟨pd,hpd,tr⟩:=htx.get hx
   have hi:i < ds.length:=by rw[<-hxl];exact(List.getElem?_eq_some_iff.mp hx).1
   have ed:ds[i]?=some ds[i]:=List.getElem?_eq_getElem hi
   rw[List.getElem?_map,ed] at hpd
   cases hpd
   obtain⟨t,rfl,ht⟩:=tr.drn
   refine hG' ?_
   refine d0n λ D' hD'=>?_
   refine⟨t,_,rfl,SqT.of (s2 _ _ ht),rfl,_,_,rfl,_,_,rfl,_,_,rfl,rfl,?_⟩
   have hnew:∀ e∈ds.take i,e.1≠ds[i].1:=λ e he z=>by
    have hp:=List.pairwise_iff_getElem.mp (List.pairwise_map.mp g2)
    obtain⟨j,hj,rfl⟩:=List.getElem_of_mem he
    rw[List.length_take] at hj
    have:=hp j i (by omega) hi (by omega)
    rw[List.getElem_take] at z
    omega
   have ep:=e6p (c:=λ _=>0) hnew
   have htk:ds.take (i+1)=ds.take i++[ds[i]]:=by rw[List.take_add_one,ed];rfl
   refine c6l λ b2' hb2'=>?_
   refine⟨_,rfl,_,rfl,g,upd H2 g (.dK (dkC (ds.take (i+1)) λ _=>0)),rfl,.inl ⟨_,Sum.inl ds[i].1,h2,rfl,?_,by rw[htk,<-ep]⟩,?_⟩
   ·unfold dkC
    rw[List.length_map,List.length_take]
    omega
   subst hb2';subst hD'
   refine⟨_,rfl,_,rfl,_,rfl,ds[i].2.1,ds[i].2.2,rfl,_,_,rfl,rfl,some (.int ds[i].1),some (.str ds[i].2.1),some (.int ds[i].2.2),?_,s2.again hg,a0b⟩
   rw[htk,List.map_append,List.sum_append,List.map_singleton,List.sum_singleton]
   rfl
  intro σ H2 hJ'
  refine d6k λ G' hG'=>?_
  obtain⟨x4,x5,x6,rfl,s2,h2⟩:=hJ'
  refine hG' ?_
  rw[hxl,List.take_length] at h2
  rw[hxl,List.take_length]
  obtain⟨tot,etot⟩:∃ tot:Int,(ds.map λ d=>a0q d.2.1 d.2.2).sum=tot:=⟨_,rfl⟩
  rw[etot]
  have htot:tot<=32:=by
   by_cases h3:3 < ds.length
   ·have:=b2m (l:=ds) (f:=λ d=>a0q d.2.1 d.2.2) (k:=4) λ d hd=>by
     have h0:=(g3 d hd).2.2.2.1
     have h4:=g4 h3 d hd
     unfold a0q
     split
     ·omega
     ·split<;>omega
    rw[etot] at this
    omega
   ·have:=b2m (l:=ds) (f:=λ d=>a0q d.2.1 d.2.2) (k:=8) λ d hd=>(c2b (g3 d hd).2.2.2.1 (g3 d hd).2.2.2.2).2
    rw[etot] at this
    omega
  have htot0:0<=tot:=by
   have:=b7h (l:=ds) (f:=λ _=>(0:Int)) (g:=λ d=>a0q d.2.1 d.2.2) λ d hd=>by have:=(c2b (w:=d.2.1) (g3 d hd).2.2.2.1 (g3 d hd).2.2.2.2).1;omega
   rw[etot] at this
   have e0:=c5m ds
   omega
  refine b2n λ b' hb'=>?_
  refine⟨(by show 0<=sizeLine;decide),λ D hD=>?_⟩
  have gD:g≠D:=λ z=>by rw[z,hD] at h2;cases h2
  have hD0:H D=none:=s2.free hD
  have s3:=Same.upd (o:=HO.lst []) hD
  subst hb';refine b2n λ b' hb'=>?_
  refine⟨_,rfl,tot,rfl,by omega,by omega,a2h (lo:=0) (n:=tot.toNat) (λ j σ H3=>∃ (x4 x5 x6 x8 x9:Option V) (ys:List V) (os:List Pr),σ=[some (.ref a),some (.ref dl),some (.ref g),some (.int tot),x4,x5,x6,some (.ref D),x8,x9]/\Same H H3/\H3 D=some (.lst ys)/\Trs (b9e (b9e (off H H3) D) g) ys (os.map b4p)/\H3 g=some (.dK (dkC ds λ n=>(cnt os os.length n:Int)))/\e8s ds os/\os.length=j/\(ds.map λ d=>(cnt os os.length d.1:Int)).sum=j/\∀ d∈ds,(cnt os os.length d.1:Int)<=a0q d.2.1 d.2.2)
   ⟨x4,x5,x6,none,none,[],[],rfl,s2.trans s3,a0b,.nil,s3 _ _ h2,λ i n g e=>by simp at e,rfl,?_,λ d hd=>?_⟩ ?_ ?_⟩
  ·exact c5m ds
  ·have:=(c2b (w:=d.2.1) (g3 d hd).2.2.2.1 (g3 d hd).2.2.2.2).1
   show (0:Int)<=_
   omega
  ·intro j σ H3 hj hJ'
   refine d6k λ G' hG'=>?_
   obtain⟨x4,x5,x6,x8,x9,ys,os,rfl,s4,h4,ht,hg4,hW,hol,hsum,hle⟩:=hJ'
   have hyl:ys.length=os.length:=by rw[ht.len,List.length_map]
   obtain⟨cf,ecf⟩:∃ cf:Int->Int,(λ n=>(cnt os os.length n:Int))=cf:=⟨_,rfl⟩
   have hcf:∀ n,(cnt os os.length n:Int)=cf n:=λ n=>congrFun ecf n
   rw[ecf] at hg4
   simp only [hcf] at hsum hle
   refine hG' ?_
   refine d0n λ D' hD'=>?_
   refine c6l λ b2' hb2'=>?_
   refine⟨_,rfl,dl,rfl,⟨_,SqL.of (s4 _ _ hdl)⟩,e8c (k:=1) (fs:=[some (.ref g)]) ds e4n (λ d=>if cf d.1 < a0q d.2.1 d.2.2 then some (.int d.1) else none) rfl (s4 _ _ hdl) (htx.same s4) (by omega) (λ d hd H5 ts v R ss hts tr cont=>?_) (λ D2 H5 hD2 s5 hd2=>?_)⟩
   ·obtain⟨t,rfl⟩:=List.length_eq_one_iff.mp hts
    obtain⟨t1,rfl,ht1⟩:=tr.drn
    have hdgd:b3y H5 g (.int d.1) (some (.int (cf d.1))):=by
     have:=b3y.k (k:=Sum.inl d.1) (ss _ _ hg4)
     rw[e5d ⟨d,hd,rfl⟩] at this
     exact this
    refine⟨_,rfl,_,rfl,t1,_,_,_,rfl,rfl,SqT.of ht1,a0i (j:=0) rfl,g,.int (cf d.1),rfl,hdgd,_,rfl,t1,_,_,_,rfl,rfl,SqT.of ht1,a0i (j:=1) rfl,_,rfl,t1,_,_,_,rfl,rfl,SqT.of ht1,a0i (j:=2) rfl,d.2.1,d.2.2,rfl,_,_,rfl,rfl,_,rfl,?_⟩
    ·have c1:=cont [some (.ref t1)] H5 rfl (Same.refl _)
     by_cases e:cf d.1 < a0q d.2.1 d.2.2
     ·rw[if_pos e] at c1
      rw[decide_eq_true e]
      exact⟨_,rfl,t1,_,_,_,rfl,rfl,SqT.of ht1,a0i (j:=0) rfl,c1⟩
     ·rw[if_neg e] at c1
      rw[decide_eq_false e]
      exact c1
   obtain⟨gl,egl⟩:∃ gl:List Int,ds.filterMap (λ d=>if cf d.1 < a0q d.2.1 d.2.2 then some (V.int d.1) else none)=gl.map V.int/\(∀ n∈gl,∃ d∈ds,d.1=n/\cf n < a0q d.2.1 d.2.2)/\(∀ d∈ds,cf d.1 < a0q d.2.1 d.2.2->d.1∈gl):=by
    refine⟨(ds.filter λ d=>decide (cf d.1 < a0q d.2.1 d.2.2)).map (·.1),?_,λ n hn=>?_,λ d hd hlt=>?_⟩
    ·exact c7n cf ds
    ·obtain⟨d,hd,rfl⟩:=List.mem_map.mp hn
     obtain⟨h1,h2⟩:=List.mem_filter.mp hd
     exact⟨d,h1,rfl,of_decide_eq_true h2⟩
    ·exact List.mem_map.mpr ⟨d,List.mem_filter.mpr ⟨hd,decide_eq_true hlt⟩,rfl⟩
   obtain⟨egl,hgl1,hgl2⟩:=egl
   rw[egl] at hd2
   have hne:0 < gl.length:=by
    rcases Nat.eq_zero_or_pos gl.length with z | z
    ·exfalso
     have e0:=List.eq_nil_of_length_eq_zero z
     have all:∀ d∈ds,a0q d.2.1 d.2.2<=cf d.1:=λ d hd=>by
      rcases Int.lt_or_le (cf d.1) (a0q d.2.1 d.2.2) with y | y
      ·have:=hgl2 d hd y
       rw[e0] at this
       cases this
      ·exact y
     have:=b7h all
     rw[etot,hsum] at this
     omega
    ·exact z
   have hne':(0:Int) < ((gl.map V.int).length:Int):=by rw[List.length_map];omega
   have s45:=s4.trans s5
   subst hb2';refine b2n λ b2' hb2'=>?_
   refine⟨_,rfl,_,rfl,_,rfl,_,_,rfl,rfl,a,ns,_,rfl,s45.seq ha,by omega,λ cz=>⟨_,0,rfl,_,rfl,_,_,rfl,.inl ⟨_,SqL.of hd2,rfl⟩,_,_,rfl,rfl,hne',?_⟩⟩
   obtain⟨v,hv⟩:=d4o (xs:=gl.map V.int) (Int.emod_nonneg (b9g cz 0) (Int.ne_of_gt hne')) (Int.emod_lt_of_pos (b9g cz 0) hne')
   obtain⟨n0,hn0,rfl⟩:=List.mem_map.mp (c5p hv)
   refine⟨D2,_,_,_,rfl,rfl,SqL.of hd2,hv,?_⟩
   obtain⟨d0,hd0,ed0,hlt0⟩:=hgl1 n0 hn0
   have hex:∃ d∈ds,d.1=n0:=⟨d0,hd0,ed0⟩
   have hg5:=s5 _ _ hg4
   have hdg:∀ {HH:Hp},HH g=some (.dK (dkC ds cf))->b3y HH g (.int n0) (some (.int (cf n0))):=λ e=>by
    have:=b3y.k (k:=Sum.inl n0) e
    rw[e5d hex] at this
    exact this
   subst hb2';refine b2n λ b2' hb2'=>?_
   refine⟨_,rfl,.inl ⟨rfl,_,SqL.of (s5 _ _ h4)⟩,_,rfl,_,rfl,_,rfl,g,_,rfl,hdg hg5,(by show 2<=sizeLine;decide),λ t ht2=>?_⟩
   have s6:=Same.upd (o:=HO.tup [.int n0,.int (cf n0)]) ht2
   have ht6:upd H5 t (.tup [.int n0,.int (cf n0)]) t=some (.tup [.int n0,.int (cf n0)]):=a0b
   generalize upd H5 t (.tup [.int n0,.int (cf n0)])=H6 at *
   refine⟨D,ys,_,rfl,rfl,s6 _ _ (s5 _ _ h4),by omega,λ H7 h7 k7=>?_⟩
   have hg7:=k7 _ _ gD (s6 _ _ hg5)
   have tD:t≠D:=λ zz=>by rw[zz,s5 _ _ h4] at ht2;cases ht2
   have tg:t≠g:=λ zz=>by rw[zz,hg5] at ht2;cases ht2
   subst hb2'
   refine⟨_,rfl,_,rfl,g,_,rfl,hdg hg7,_,_,rfl,rfl,_,rfl,_,rfl,g,upd H7 g (.dK (dkC ds λ m=>if m=n0 then cf n0+1 else cf m)),rfl,.inl ⟨_,Sum.inl n0,hg7,rfl,?_,by rw[e6h hex]⟩,?_⟩
   ·unfold dkC
    rw[List.length_map]
    omega
   have hcn:∀ n,(cnt (os++[(n0,cf n0)]) (os++[(n0,cf n0)]).length n:Int)=if n=n0 then cf n0+1 else cf n:=λ n=>by
    rw[List.length_append,List.length_singleton,d9x]
    push_cast
    rw[hcf]
    by_cases e:n=n0
    ·rw[if_pos e,if_pos e.symm,e]
     rfl
    ·rw[if_neg e,if_neg (λ z=>e z.symm)]
     simp
   have hS7:Same H (upd H7 g (.dK (dkC ds λ m=>if m=n0 then cf n0+1 else cf m))):=λ b o eb=>by
    have nb1:b≠g:=λ z=>by rw[z,hg] at eb;cases eb
    have nb2:b≠D:=λ z=>by rw[z,hD0] at eb;cases eb
    rw[a0h nb1]
    exact k7 _ _ nb2 (s6 _ _ (s45 _ _ eb))
   subst hD'
   refine⟨_,_,_,_,_,_,os++[(n0,cf n0)],rfl,hS7,by rw[a0h gD.symm];exact h7,?_,?_,?_,by rw[List.length_append,List.length_singleton,hol],?_,λ d hd=>?_⟩
   ·rw[List.map_append]
    refine(ht.same λ b o eb=>?_).app (.cons (.tup (f1l.mpr ⟨tg,tD,s45.free ht2,by rw[a0h tg];exact k7 _ _ tD ht6⟩) (.cons (.int _) (.cons (.int _) .nil))) .nil)
    obtain⟨e1,e2,e3,e4⟩:=f1l.mp eb
    exact f1l.mpr ⟨e1,e2,e3,by rw[a0h e1];exact k7 _ _ e2 (s6 _ _ (s5 _ _ e4))⟩
   ·rw[a0b]
    congr 3
    funext n
    rw[hcn]
   ·have:=hW.snoc (n:=n0) ⟨d0,hd0,ed0,by rw[hcf];exact hlt0⟩
    rw[hcf] at this
    exact this
   ·simp only [hcn]
    rw[d3z g2 hex,hsum]
    omega
   ·rw[hcn]
    by_cases e:d.1=n0
    ·rw[if_pos e]
     have:d=d0:=b7i g2 hd hd0 (e.trans ed0.symm)
     rw[this]
     omega
    ·rw[if_neg e]
     exact hle d hd
  ·intro σ H3 hJ'
   refine d6k λ G' hG'=>?_
   obtain⟨x4,x5,x6,x8,x9,ys,os,rfl,s4,h4,ht,hg4,hW,hol,hsum,hle⟩:=hJ'
   refine hG' ?_
   subst hb'
   exact⟨_,rfl,q _ H3 os s4 (.lst (b2h hD0 h4) (ht.same λ b o eb=>by obtain⟨_,_,e3,e4⟩:=f1l.mp eb;exact b2h e3 e4)) hW (by omega)⟩
--@STAGE
def skO (L M S:Addr) (b:Bool):List (Key×V):=[(Sum.inr "last",.ref L),(Sum.inr "makers",.ref M),(Sum.inr "stood",.ref S),(Sum.inr "free",.bl b)]
structure Sta (H:Hp) (st L M S:Addr) (ms:List Addr) (ls:List Int) (mk:List (List Int)) (skv:List (Key×V)):Prop where
 h0:∃ b,H st=some (.dK (skO L M S b))
 h1:H L=some (.lst (ls.map V.int))
 h2:H M=some (.lst (ms.map V.ref))
 h3:H S=some (.dK skv)
 n1:ls.length=4
 n2:ms.length=4
 n3:mk.length=4
 hm:∀ (j:Nat) (m:Addr) (ns:List Int),ms[j]?=some m->mk[j]?=some ns->H m=some (.lst (ns.map V.int))
 nd:ms.Nodup
 nL:L ∉ ms
 nM:M≠L/\M ∉ ms
theorem Sta.same {H H':Hp} {st L M S:Addr} {ms:List Addr} {ls:List Int} {mk:List (List Int)} {skv:List (Key×V)} (h:Sta H st L M S ms ls mk skv) (s:Same H H'):Sta H' st L M S ms ls mk skv :=
 ⟨let ⟨b,e⟩:=h.h0;⟨b,s _ _ e⟩,s _ _ h.h1,s _ _ h.h2,s _ _ h.h3,h.n1,h.n2,h.n3,λ j m ns e1 e2=>s _ _ (h.hm j m ns e1 e2),h.nd,h.nL,h.nM⟩
theorem e6f (L M S:Addr) (b:Bool):a4l (skO L M S b) (Sum.inr "last":Key)=some (.ref L):=by
 unfold a4l skO
 rw[List.find?_cons]
 simp
theorem c8i (L M S:Addr) (b:Bool):a4l (skO L M S b) (Sum.inr "makers":Key)=some (.ref M):=by
 have e1:decide ((Sum.inr "last":Key)=(Sum.inr "makers":Key))=false:=by decide +kernel
 unfold a4l skO
 rw[List.find?_cons]
 dsimp only
 rw[e1]
 dsimp only
 rw[List.find?_cons]
 simp
theorem e3c (L M S:Addr) (b:Bool):a4l (skO L M S b) (Sum.inr "stood":Key)=some (.ref S):=by
 have e1:decide ((Sum.inr "last":Key)=(Sum.inr "stood":Key))=false:=by decide +kernel
 have e2:decide ((Sum.inr "makers":Key)=(Sum.inr "stood":Key))=false:=by decide +kernel
 unfold a4l skO
 rw[List.find?_cons]
 dsimp only
 rw[e1]
 dsimp only
 rw[List.find?_cons]
 dsimp only
 rw[e2]
 dsimp only
 rw[List.find?_cons]
 simp
theorem e8p (L M S:Addr) (b:Bool):a4l (skO L M S b) (Sum.inr "free":Key)=some (.bl b):=by
 have e1:decide ((Sum.inr "last":Key)=(Sum.inr "free":Key))=false:=by decide +kernel
 have e2:decide ((Sum.inr "makers":Key)=(Sum.inr "free":Key))=false:=by decide +kernel
 have e3:decide ((Sum.inr "stood":Key)=(Sum.inr "free":Key))=false:=by decide +kernel
 unfold a4l skO
 rw[List.find?_cons]
 dsimp only
 rw[e1]
 dsimp only
 rw[List.find?_cons]
 dsimp only
 rw[e2]
 dsimp only
 rw[List.find?_cons]
 dsimp only
 rw[e3]
 dsimp only
 rw[List.find?_cons]
 simp
theorem Sta.free {H:Hp} {st L M S:Addr} {ms:List Addr} {ls:List Int} {mk:List (List Int)} {skv:List (Key×V)} (h:Sta H st L M S ms ls mk skv):∃ b,b3y H st (.str "free") (some (.bl b)):=by
 obtain⟨b,h0⟩:=h.h0
 have:=b3y.k (k:=Sum.inr "free") h0
 rw[e8p] at this
 exact⟨b,this⟩
theorem Sta.last {H:Hp} {st L M S:Addr} {ms:List Addr} {ls:List Int} {mk:List (List Int)} {skv:List (Key×V)} (h:Sta H st L M S ms ls mk skv):b3y H st (.str "last") (some (.ref L)):=by
 obtain⟨b,h0⟩:=h.h0
 have:=b3y.k (k:=Sum.inr "last") h0
 rw[e6f] at this
 exact this
theorem Sta.makers {H:Hp} {st L M S:Addr} {ms:List Addr} {ls:List Int} {mk:List (List Int)} {skv:List (Key×V)} (h:Sta H st L M S ms ls mk skv):b3y H st (.str "makers") (some (.ref M)):=by
 obtain⟨b,h0⟩:=h.h0
 have:=b3y.k (k:=Sum.inr "makers") h0
 rw[c8i] at this
 exact this
theorem Sta.stood {H:Hp} {st L M S:Addr} {ms:List Addr} {ls:List Int} {mk:List (List Int)} {skv:List (Key×V)} (h:Sta H st L M S ms ls mk skv):b3y H st (.str "stood") (some (.ref S)):=by
 obtain⟨b,h0⟩:=h.h0
 have:=b3y.k (k:=Sum.inr "stood") h0
 rw[e3c] at this
 exact this
theorem Sta.turn {H H4 H5:Hp} {st L M S m:Addr} {ms:List Addr} {ls ns:List Int} {mk:List (List Int)} {skv:List (Key×V)} (h:Sta H st L M S ms ls mk skv) {i:Nat} {n:Int} (em:ms[i]?=some m) (en:mk[i]?=some ns)
  (h4:H4 L=some (.lst ((ls.map V.int).set i (.int n)))) (k4:∀ b o,b≠L->H b=some o->H4 b=some o) (h5:H5 m=some (.lst (ns.map V.int++[.int n]))) (k5:∀ b o,b≠m->H4 b=some o->H5 b=some o) :
  Sta H5 st L M S ms (ls.set i n) (mk.set i (ns++[n])) skv:=by
 have hmm:m∈ms:=List.mem_of_getElem? em
 have mL:m≠L:=λ z=>h.nL (z ▸ hmm)
 have lst_ne:∀ b kv,H b=some (.dK kv)->b≠L/\b≠m:=λ b kv e=>⟨λ z=>(by rw[z,h.h1] at e;cases e),λ z=>(by rw[z,h.hm i m ns em en] at e;cases e)⟩
 obtain⟨b0,hb0⟩:=h.h0
 obtain⟨a1,a2⟩:=lst_ne _ _ hb0
 obtain⟨b1,b2⟩:=lst_ne _ _ h.h3
 refine⟨⟨b0,k5 _ _ a2 (k4 _ _ a1 hb0)⟩,?_,k5 _ _ (λ z=>h.nM.2 (z ▸ hmm)) (k4 _ _ h.nM.1 h.h2),k5 _ _ b2 (k4 _ _ b1 h.h3),by rw[List.length_set];exact h.n1,h.n2,by rw[List.length_set];exact h.n3,λ j m' ns' e1 e2=>?_,h.nd,h.nL,h.nM⟩
 ·rw[List.map_set]
  exact k5 _ _ mL.symm h4
 ·by_cases e:j=i
  ·subst e
   rw[em] at e1
   cases e1
   obtain⟨hj,_⟩:=List.getElem?_eq_some_iff.mp en
   rw[List.getElem?_set_self hj] at e2
   cases e2
   rw[List.map_append]
   exact h5
  ·rw[List.getElem?_set_ne (λ z=>e z.symm)] at e2
   have nm:m'≠m:=λ z=>by
    obtain⟨hj,ej⟩:=List.getElem?_eq_some_iff.mp e1
    obtain⟨hi,ei⟩:=List.getElem?_eq_some_iff.mp em
    exact e ((List.getElem_inj h.nd).mp (ej.trans (z.trans ei.symm)))
   have nL':m'≠L:=λ z=>h.nL (z ▸ List.mem_of_getElem? e1)
   exact k5 _ _ nm (k4 _ _ nL' (h.hm j m' ns' e1 e2))
def c8z (n:Int) (ls ls':List Int) (mk mk':List (List Int)) (j:Nat):Prop:=(ls'[j]?=ls[j]?/\mk'[j]?=mk[j]?)\/(ls'[j]?=some n/\∃ ns,mk[j]?=some ns/\mk'[j]?=some (ns++[n]))
def e9o:Sp:=λ vs H Q _=>∃ (st L M S so:Addr) (ms:List Addr) (ls sl:List Int) (mk:List (List Int)) (skv:List (Key×V)) (n mask:Int) (w:Str),vs=[.int n,.str w,.int mask,.ref st]/\Sta H st L M S ms ls mk skv/\a4l skv (Sum.inl n)=some (.ref so)/\H so=some (.lst (sl.map V.int))/\sl.length=4/\so≠L/\so ∉ ms/\(∀ ns∈mk,ns.length<=100) /\
 ∀ H' ls' mk',Sta H' st L M S ms ls' mk' skv->(∀ b o,b≠L->b ∉ ms->H b=some o->H' b=some o)->(∀ j,j < 4->c8z n ls ls' mk mk' j)->Q .non H'
theorem e0y (T:Tx K mg):a4j P w K mg base CX0 1 T.c5z T.c5d ["_law_number","_law_word","_law_mask","_law_state"] e9o:=by
 refine T.d1r.ok c6m (λ vs H Q E h=>?_) (λ cdv A outer s H vs Q E hr h=>?_)
 ·obtain⟨a1,a2,a3,a4,a5,a6,a7,a8,a9,a10,a11,a12,a13,rfl,_⟩:=h
  rfl
 ·obtain⟨st,L,M,S,so,ms,ls,sl,mk,skv,n,mask,wd,rfl,hS,hso,hsl,l4,nso1,nso2,hmk,q⟩:=h
  have hu:=a9a hr
  refine⟨_,(a0g (a2q PassesOwn.never rfl (a1q rfl T.a2y (a0a a0c a0d)) (a0j (i:=4) c6m.nd rfl (Or.inl rfl))
   (a0e (a0n (i:=5) c6m.nd rfl (Or.inl rfl) (a0m a0v (a1f hu (a1f hu (pv 3) a1c (λ _ _=>rfl)) (pv 0) (λ _ _=>rfl)) (pv 4) (λ _ _=>rfl)))
   (a0g (a3r (PW.pt (b4h (a0t a7v (a0x a1v (a0x a7s (pv 2) (a0m a0v (a1o (a0a a0c (a0a a0c (a0a a0c (a0a a0c a0d))))) (pv 4) (λ _ _=>rfl))) a0c) a0c (a0z _)) (a9b (PW.pt (e0k (c2y (a1f hu (pv 3) a1c (λ _ _=>rfl))) (d4u (a0t a7v (pv 5) (a0m a0v (a1f hu (pv 3) a1c (λ _ _=>rfl)) (pv 4) (λ _ _=>rfl)) (a0z _))))))))
   (a0e (b8j (pv 0) (d3s (a1f hu (pv 3) a1c (λ _ _=>rfl)) (pv 4) b5n))
   (a0g (a6l (b9f PySem.F.plainAttrs_list PySem.F.slot_list_append PySem.F.type_list_append a5k (a0m a0v (a1f hu (pv 3) a1c (λ _ _=>rfl)) (pv 4) (λ _ _=>rfl)) (a0a (pv 0) a0d)))))
   a1d))))),?_⟩
  refine⟨4,rfl,by decide,by decide,a2h (lo:=0) (n:=4) (λ i σ H2=>∃ (x4 x5:Option V) (ls':List Int) (mk':List (List Int)),σ=[some (.int n),some (.str wd),some (.int mask),some (.ref st),x4,x5]/\Sta H2 st L M S ms ls' mk' skv/\(∀ b o,b≠L->b ∉ ms->H b=some o->H2 b=some o)/\(∀ j,j < i->c8z n ls ls' mk mk' j)/\(∀ j,i<=j->ls'[j]?=ls[j]?/\mk'[j]?=mk[j]?))
   ⟨none,none,ls,mk,rfl,hS,λ _ _ _ _ e=>e,(λ j h=>absurd h (Nat.not_lt_zero _)),λ _ _=>⟨rfl,rfl⟩⟩ ?_ ?_⟩
  ·rintro i σ H2 hi ⟨x4,x5,ls',mk',rfl,hS2,k2,ht,hn⟩
   have ai:(0+(i:Int))=((i:Nat):Int):=by omega
   have hz:∃ z:Int,0 < z/\z < 1073741824/\atI [V.int 1,.int 2,.int 4,.int 8] (0+(i:Int))=some (.int z):=by
    have:i=0\/i=1\/i=2\/i=3:=by omega
    rcases this with rfl | rfl | rfl | rfl
    ·exact⟨1,by decide,by decide,a0y 0 rfl rfl⟩
    ·exact⟨2,by decide,by decide,a0y 1 rfl rfl⟩
    ·exact⟨4,by decide,by decide,a0y 2 rfl rfl⟩
    ·exact⟨8,by decide,by decide,a0y 3 rfl rfl⟩
   obtain⟨z,z0,z1,hz⟩:=hz
   have stay:∀ H3 (x y:Option V),Same H2 H3->∃ (x4 x5:Option V) (ls':List Int) (mk':List (List Int)),[some (.int n),some (.str wd),some (.int mask),some (.ref st),x,y]=[some (.int n),some (.str wd),some (.int mask),some (.ref st),x4,x5]/\Sta H3 st L M S ms ls' mk' skv/\(∀ b o,b≠L->b ∉ ms->H b=some o->H3 b=some o)/\(∀ j,j < i+1->c8z n ls ls' mk mk' j)/\(∀ j,i+1<=j->ls'[j]?=ls[j]?/\mk'[j]?=mk[j]?):=λ H3 x y s3 =>
    ⟨x,y,ls',mk',rfl,hS2.same s3,λ b o b1 b2 e=>s3 _ _ (k2 b o b1 b2 e),λ j hj=>by
     rcases Nat.lt_or_ge j i with y | y
     ·exact ht j y
     ·exact .inl (hn j y),λ j hj=>hn j (by omega)⟩
   refine d0n λ D' hD'=>?_
   have es:sl[i]?=some sl[i]:=List.getElem?_eq_getElem (by omega)
   have hso2:H2 so=some (.lst (sl.map V.int)):=k2 _ _ nso1 nso2 hsl
   have hg2:b3y H2 S (.int n) (some (.ref so)):=by
    have:=b3y.k (k:=Sum.inl n) hS2.h3
    rw[hso] at this
    exact this
   refine⟨_,rfl,st,_,rfl,hS2.stood,_,rfl,S,_,rfl,hg2,_,rfl,so,_,_,_,rfl,rfl,SqL.of hso2,a0y i ai (by rw[List.getElem?_map,es];rfl),?_⟩
   refine⟨_,rfl,(by show 4<=sizeLine;decide),λ p hp=>⟨_,rfl,p,_,_,_,rfl,rfl,SqL.of a0b,hz,_,_,rfl,rfl,⟨z0,z1⟩,_,_,rfl,rfl,(by show (0:Int) < 2;decide),rfl,_,rfl,?_⟩⟩
   have s3:=Same.upd (o:=HO.lst [.int 1,.int 2,.int 4,.int 8]) hp
   generalize upd H2 p (.lst [.int 1,.int 2,.int 4,.int 8])=H3 at *
   refine b1n (λ e=>?_) (λ e=>by subst hD';exact b5e (stay H3 _ _ s3))
   have hS3:=hS2.same s3
   have el:ls'[i]?=some (ls'[i]'(by rw[hS3.n1];exact hi)):=List.getElem?_eq_getElem _
   have em:ms[i]?=some (ms[i]'(by rw[hS3.n2];exact hi)):=List.getElem?_eq_getElem _
   have en:mk'[i]?=some (mk'[i]'(by rw[hS3.n3];exact hi)):=List.getElem?_eq_getElem _
   have body:e8t (f2x (d2o 0) (f3t (e4b (d2o 3) (tC (V.str "last"))) (d2o 4) e9y)) (f0f (tBM K "list" rAppendA (tOp (f1j K) (e4b (d2o 3) (tC (V.str "makers"))) (d2o 4)) (f0q (d2o 0) f2z))) D' [some (.int n),some (.str wd),some (.int mask),some (.ref st),some (.int (0+(i:Int))),some (.int sl[i])] H3:=by
    have ixn:ixN (ls'.map V.int).length (0+(i:Int))=some i:=by
     unfold ixN
     rw[List.length_map,hS3.n1,if_pos (by omega),if_pos (by omega)]
     congr 1
     omega
    refine⟨_,rfl,_,rfl,st,_,rfl,hS3.last,_,rfl,L,_,_,i,rfl,rfl,hS3.h1,ixn,λ H4 h4 k4=>?_⟩
    have hmm:ms[i]'(by rw[hS3.n2];exact hi)∈ms:=List.getElem_mem _
    have mL:ms[i]'(by rw[hS3.n2];exact hi)≠L:=λ y=>hS3.nL (y ▸ hmm)
    have hm4:=k4 _ _ mL (hS3.hm i _ _ em en)
    have st4:b3y H4 st (.str "makers") (some (.ref M)):=by
     obtain⟨b0,hb0⟩:=hS3.h0
     have stL:st≠L:=λ y=>by rw[y,hS3.h1] at hb0;cases hb0
     have:=b3y.k (k:=Sum.inr "makers") (k4 _ _ stL hb0)
     rw[c8i] at this
     exact this
    have hl100:(mk'[i]'(by rw[hS3.n3];exact hi)).length<=100:=by
     have h1:=(hn i (Nat.le_refl _)).2
     rw[en] at h1
     exact hmk _ (List.mem_of_getElem? h1.symm)
    have z101:(101:Nat)<=sizeLine:=by decide
    refine⟨_,rfl,st,_,rfl,st4,_,rfl,M,_,_,.ref (ms[i]'(by rw[hS3.n2];exact hi)),rfl,rfl,SqL.of (k4 _ _ hS3.nM.1 hS3.h2),a0y i ai (by rw[List.getElem?_map,em];rfl),.inl ⟨rfl,_,SqL.of hm4⟩,_,rfl,_,_,_,rfl,rfl,hm4,(by rw[List.length_map];omega),λ H5 h5 k5=>?_⟩
    subst hD'
    refine⟨_,_,_,_,rfl,hS3.turn em en h4 k4 h5 k5,λ b o b1 b2 eb=>k5 _ _ (λ y=>b2 (y ▸ hmm)) (k4 _ _ b1 (s3 _ _ (k2 _ _ b1 b2 eb))),λ j hj=>?_,λ j hj=>?_⟩
    ·rcases Nat.lt_or_ge j i with y | y
     ·have h1:(ls'.set i n)[j]?=ls'[j]?:=List.getElem?_set_ne (by omega)
      have h2:(mk'.set i ((mk'[i]'(by rw[hS3.n3];exact hi))++[n]))[j]?=mk'[j]?:=List.getElem?_set_ne (by omega)
      unfold c8z
      rw[h1,h2]
      exact ht j y
     ·have ej:j=i:=by omega
      subst ej
      refine .inr ⟨List.getElem?_set_self (by rw[hS3.n1];exact hi),_,(hn j (Nat.le_refl _)).2.symm.trans en,List.getElem?_set_self (by rw[hS3.n3];exact hi)⟩
    ·rw[List.getElem?_set_ne (by omega),List.getElem?_set_ne (by omega)]
     exact hn j (by omega)
   obtain⟨fb,hfb⟩:=hS3.free
   refine⟨_,rfl,st,_,rfl,hfb,fb,rfl,b1n (λ f=>c7z body) (λ f=>?_)⟩
   refine⟨_,rfl,_,rfl,st,_,rfl,hS3.last,_,rfl,L,_,_,_,rfl,rfl,SqL.of hS3.h1,a0y i ai (by rw[List.getElem?_map,el];rfl),rfl,_,rfl,b1n (λ f=>body) (λ f=>by subst hD';exact stay H3 _ _ s3)⟩
  ·rintro σ H2 ⟨x4,x5,ls',mk',rfl,hS2,k2,ht,hn⟩
   exact q H2 ls' mk' hS2 k2 ht
--@STAGE
def lkB (d:Drn) (c:Int):Int:=if d.2.1="kept" then min c d.2.2 else if c<=0 then 0 else d.2.2
def d2c (d:Drn) (g:Int) (i:Nat):Int:=if d.2.1="kept" then (if g < (i:Int) then 1 else 0) else if g=0 then (i:Int) else 0
theorem e8d {d:Drn} {g:Int} {i:Nat} (h:a3e d.2.1 (0+(i:Int))=g):d2c d g i+1<=d2c d g (i+1):=by
 unfold a3e at h
 unfold d2c
 by_cases e:d.2.1="kept"
 ·rw[if_pos e] at h
  rw[if_pos e,if_pos e,if_neg (by omega),if_pos (by omega)]
  omega
 ·rw[if_neg e] at h
  rw[if_neg e,if_neg e,if_pos h.symm,if_pos h.symm]
  push_cast
  omega
theorem e0n {d:Drn} {g:Int} {i:Nat}:d2c d g i<=d2c d g (i+1):=by
 unfold d2c
 split
 ·split<;>split<;>omega
 ·split<;>push_cast<;>omega
theorem e3n {d:Drn} {g:Int} (h0:0<=d.2.2) (hg:0<=g):lkB d g+d2c d g d.2.2.toNat<=lkB d (g+1):=by
 unfold lkB d2c
 by_cases e:d.2.1="kept"
 ·rw[if_pos e,if_pos e,if_pos e]
  split<;>omega
 ·rw[if_neg e,if_neg e,if_neg e]
  by_cases z:g=0
  ·rw[if_pos (by omega),if_pos z,if_neg (by omega)]
   omega
  ·rw[if_neg (by omega),if_neg z,if_neg (by omega)]
   omega
theorem d2a {d:Drn} {g:Int} (i:Nat):0<=d2c d g i:=by
 unfold d2c
 split
 ·split<;>omega
 ·split<;>omega
theorem d3m {w:Str} {l:Int} (h:0<=l):0<=a2j w l/\a2j w l<=a0q w l - 1:=by
 unfold a2j a0q
 split
 ·omega
 ·split<;>omega
theorem e1t {os:List Pr} {j:Nat} {n g:Int} (e:os[j]?=some (n,g)) (m:Int):(cnt os (j+1) m:Int)=cnt os j m+(if n=m then 1 else 0):=by
 unfold cnt
 rw[List.take_add_one,e,List.filter_append,List.length_append]
 by_cases h:n=m
 ·rw[if_pos h]
  have:(n == m)=true:=by simpa using h
  simp[this]
 ·rw[if_neg h]
  have:(n == m)=false:=by simpa using h
  simp[this]
theorem e5g {d:Drn} {c:Int} (h0:0<=d.2.2):lkB d c<=d.2.2:=by
 unfold lkB
 split
 ·omega
 ·split<;>omega
structure Fx (ds:List Drn) (ks:List Int) (H0:Hp) (Sa:Int->Addr) (st L M S:Addr) (ms:List Addr):Prop where
 up:(ds.map (·.1)).Pairwise (· < ·)
 n4:ks.length=4
 hL:∃ xs,H0 L=some (.lst xs)
 hms:∀ m∈ms,∃ xs,H0 m=some (.lst xs)
 hS:∃ kv,H0 S=some (.dK kv)
 hSa:∀ d∈ds,∃ xs,H0 (Sa d.1)=some (.lst xs)
 inj:∀ d∈ds,∀ e∈ds,Sa d.1=Sa e.1->d.1=e.1
 sep:∀ d∈ds,Sa d.1≠L/\Sa d.1 ∉ ms/\Sa d.1≠M
 sS:st≠S
structure PSt (ds:List Drn) (ks:List Int) (H0:Hp) (Sa:Int->Addr) (st L M S:Addr) (ms:List Addr) (c:Int->Int) (fb:Drn->Int) (N:Nat) (H2:Hp) (ls:List Int) (mk:List (List Int)) (skv:List (Key×V)) (xs:Int->List V) (lk:Int->List Lk) (fp:Int->List Addr):Prop where
 sta:Sta H2 st L M S ms ls mk skv
 fr:∀ b o,H0 b=some o->b≠L->b ∉ ms->b≠S->(∀ d∈ds,b≠Sa d.1)->H2 b=some o
 dom:∀ b,H2 b=none->H0 b=none
 seen:∀ d∈ds,H2 (Sa d.1)=some (.lst (xs d.1))/\TFs H2 (xs d.1) ((lk d.1).map a7m) (fp d.1)/\(fp d.1).Nodup/\∀ b∈fp d.1,H0 b=none
 stood:∀ d∈ds,a2j d.2.1 d.2.2 < c d.1->∃ (so:Addr) (sl:List Int),a4l skv (Sum.inl d.1)=some (.ref so)/\off H0 H2 so=some (.lst (sl.map V.int))/\sl.length=4
 slen:skv.length<=N
 few:∀ d∈ds,((lk d.1).length:Int)<=fb d
 lks:∀ d∈ds,∀ l∈lk d.1,(l.map (·.1)).Pairwise (· < ·)/\l.length<=4/\∀ x∈l,∃ i:Nat,i < 4/\ks[i]?=some x.1/\(x.2=-1\/x.2=0\/(x.2≠d.1/\∃ ns,mk[i]?=some ns/\x.2∈ns))
 mks:∀ ns∈mk,ns.Nodup/\∀ n∈ns,∃ d∈ds,d.1=n/\c n=a0q d.2.1 d.2.2
 lst:∀ (i:Nat) (v:Int),ls[i]?=some v->v=0\/∃ ns,mk[i]?=some ns/\v∈ns
 mlen:∀ ns∈mk,ns.length<=N
 dis:∀ d∈ds,∀ e∈ds,d.1≠e.1->∀ b∈fp d.1,b ∉ fp e.1
theorem d2t (kvs:List (Key×V)) (k:Key) (v:V):(a6v kvs k v).length<=kvs.length+1:=by
 unfold a6v
 split
 ·rw[List.length_map];omega
 ·rw[List.length_append,List.length_singleton];omega
section
variable {ds:List Drn} {ks:List Int} {H0 H2 H3 H4:Hp} {Sa:Int->Addr} {st L M S:Addr} {ms:List Addr} {c:Int->Int} {fb:Drn->Int} {N:Nat} {ls:List Int} {mk:List (List Int)} {skv:List (Key×V)} {xs:Int->List V} {lk:Int->List Lk} {fp:Int->List Addr}
theorem PSt.same (h:PSt ds ks H0 Sa st L M S ms c fb N H2 ls mk skv xs lk fp) (s:Same H2 H3):PSt ds ks H0 Sa st L M S ms c fb N H3 ls mk skv xs lk fp :=
 ⟨h.sta.same s,λ b o e b1 b2 b3 b4=>s _ _ (h.fr b o e b1 b2 b3 b4),λ b e=>h.dom b (s.free e),λ d hd=>⟨s _ _ (h.seen d hd).1,(h.seen d hd).2.1.same s,(h.seen d hd).2.2⟩,
  λ d hd hc=>by obtain⟨so,sl,e1,e2,e3⟩:=h.stood d hd hc;exact⟨so,sl,e1,e2b s _ _ e2,e3⟩,h.slen,h.few,h.lks,h.mks,h.lst,h.mlen,h.dis⟩
theorem PSt.tup (F:Fx ds ks H0 Sa st L M S ms) (h:PSt ds ks H0 Sa st L M S ms c fb N H2 ls mk skv xs lk fp) {b:Addr} {ys:List V} (e:H0 b=some (.tup ys)):H2 b=some (.tup ys):=by
 obtain⟨x1,e1⟩:=F.hL
 obtain⟨x3,e3⟩:=F.hS
 refine h.fr b _ e (λ z=>by rw[z,e1] at e;cases e) (λ z=>by obtain⟨x2,e2⟩:=F.hms b z;rw[e2] at e;cases e) (λ z=>by rw[z,e3] at e;cases e) λ d hd z=>?_
 obtain⟨x4,e4⟩:=F.hSa d hd
 rw[z,e4] at e
 cases e
theorem PSt.dict (F:Fx ds ks H0 Sa st L M S ms) (h:PSt ds ks H0 Sa st L M S ms c fb N H2 ls mk skv xs lk fp) {b:Addr} {kv:List (Key×V)} (e:H0 b=some (.dK kv)) (n:b≠S):H2 b=some (.dK kv):=by
 obtain⟨x1,e1⟩:=F.hL
 refine h.fr b _ e (λ z=>by rw[z,e1] at e;cases e) (λ z=>by obtain⟨x2,e2⟩:=F.hms b z;rw[e2] at e;cases e) n λ d hd z=>?_
 obtain⟨x4,e4⟩:=F.hSa d hd
 rw[z,e4] at e
 cases e
theorem PSt.keep (F:Fx ds ks H0 Sa st L M S ms) (h:PSt ds ks H0 Sa st L M S ms c fb N H2 ls mk skv xs lk fp) {d:Drn} (hd:d∈ds) {ls':List Int} {mk':List (List Int)} (hS:Sta H3 st L M S ms ls' mk' skv) (k:∀ b o,b≠L->b ∉ ms->H2 b=some o->H3 b=some o) (tn:∀ j,j < 4->c8z d.1 ls ls' mk mk' j) (hn:∀ ns∈mk,d.1 ∉ ns) (hc:c d.1=a0q d.2.1 d.2.2) (hml:∀ ns∈mk,ns.length < N) :
  PSt ds ks H0 Sa st L M S ms c fb N H3 ls' mk' skv xs lk fp:=by
 obtain⟨x1,e1⟩:=F.hL
 have ne:∀ b,H0 b=none->b≠L/\b ∉ ms:=λ b e=>⟨λ z=>(by rw[z,e1] at e;cases e),λ z=>(by obtain⟨x2,e2⟩:=F.hms b z;rw[e2] at e;cases e)⟩
 have so:Same (off H0 H2) (off H0 H3):=λ b o e=>b2h (a2t e).1 (k _ _ (ne b (a2t e).1).1 (ne b (a2t e).1).2 (a2t e).2)
 have grow:∀ (i:Nat) (ns:List Int),mk[i]?=some ns->∃ ns',mk'[i]?=some ns'/\∀ x∈ns,x∈ns':=λ i ns e=>by
  have hi:i < 4:=by rw[<-h.sta.n3];exact(List.getElem?_eq_some_iff.mp e).1
  rcases tn i hi with ⟨_,q⟩ | ⟨_,ns2,q1,q2⟩
  ·exact⟨ns,q.trans e,λ x hx=>hx⟩
  ·rw[e] at q1
   cases q1
   exact⟨_,q2,λ x hx=>List.mem_append_left _ hx⟩
 refine⟨hS,λ b o e b1 b2 b3 b4=>k _ _ b1 b2 (h.fr b o e b1 b2 b3 b4),λ b e=>?_,λ e he=>⟨k _ _ (F.sep e he).1 (F.sep e he).2.1 (h.seen e he).1,(h.seen e he).2.1.fr (λ b hb o eb=>k _ _ (ne b ((h.seen e he).2.2.2 b hb)).1 (ne b ((h.seen e he).2.2.2 b hb)).2 eb),(h.seen e he).2.2⟩,λ e he hc'=>?_,h.slen,h.few,λ e he l hl=>?_,λ ns hns=>?_,λ i v hv=>?_,λ ns hns=>?_,h.dis⟩
 ·cases q:H2 b with
  | none=>exact h.dom b q
  | some o =>
   exfalso
   by_cases z:b=L
   ·rw[z,hS.h1] at e
    cases e
   ·by_cases z2:b∈ms
    ·obtain⟨j,hj,ej⟩:=List.getElem_of_mem z2
     have hj4:j < mk'.length:=by rw[hS.n3,<-hS.n2];exact hj
     rw[hS.hm j b mk'[j] (by rw[List.getElem?_eq_getElem hj,ej]) (List.getElem?_eq_getElem hj4)] at e
     cases e
    ·rw[k _ _ z z2 q] at e
     cases e
 ·obtain⟨so',sl,q1,q2,q3⟩:=h.stood e he hc'
  exact⟨so',sl,q1,so _ _ q2,q3⟩
 ·obtain⟨q1,q2,q3⟩:=h.lks e he l hl
  refine⟨q1,q2,λ x hx=>?_⟩
  obtain⟨i,hi,r1,r2⟩:=q3 x hx
  refine⟨i,hi,r1,?_⟩
  rcases r2 with r2 | r2 | ⟨r2,ns,r3,r4⟩
  ·exact .inl r2
  ·exact .inr (.inl r2)
  ·obtain⟨ns',g1,g2⟩:=grow i ns r3
   exact .inr (.inr ⟨r2,ns',g1,g2 _ r4⟩)
 ·obtain⟨j,hj,ej⟩:=List.getElem_of_mem hns
  have hj4:j < 4:=by rw[<-hS.n3];exact hj
  have ej':mk'[j]?=some ns:=by rw[List.getElem?_eq_getElem hj,ej]
  rcases tn j hj4 with ⟨_,q⟩ | ⟨_,ns2,q1,q2⟩
  ·exact h.mks ns (List.mem_of_getElem? (q.symm.trans ej'))
  ·rw[ej'] at q2
   cases q2
   have hm2:=List.mem_of_getElem? q1
   refine⟨?_,λ n hn'=>?_⟩
   ·rw[List.nodup_append]
    refine⟨(h.mks ns2 hm2).1,List.pairwise_singleton _ _,λ x hx y hy=>?_⟩
    rw[List.mem_singleton.mp hy]
    exact λ z=>hn ns2 hm2 (z ▸ hx)
   ·rcases List.mem_append.mp hn' with y | y
    ·exact(h.mks ns2 hm2).2 n y
    ·rw[List.mem_singleton.mp y]
     exact⟨d,hd,rfl,hc⟩
 ·have hi:i < 4:=by rw[<-hS.n1];exact(List.getElem?_eq_some_iff.mp hv).1
  rcases tn i hi with ⟨q,q'⟩ | ⟨q,ns2,q1,q2⟩
  ·rcases h.lst i v (q.symm.trans hv) with y | ⟨ns,y1,y2⟩
   ·exact .inl y
   ·exact .inr ⟨ns,q'.trans y1,y2⟩
  ·rw[hv] at q
   cases q
   exact .inr ⟨_,q2,List.mem_append_right _ List.mem_cons_self⟩
 ·obtain⟨j,hj,ej⟩:=List.getElem_of_mem hns
  have hj4:j < 4:=by rw[<-hS.n3];exact hj
  have ej':mk'[j]?=some ns:=by rw[List.getElem?_eq_getElem hj,ej]
  rcases tn j hj4 with ⟨_,q⟩ | ⟨_,ns2,q1,q2⟩
  ·exact h.mlen ns (List.mem_of_getElem? (q.symm.trans ej'))
  ·rw[ej'] at q2
   cases q2
   have:=hml ns2 (List.mem_of_getElem? q1)
   rw[List.length_append,List.length_singleton]
   omega
theorem PSt.count (h:PSt ds ks H0 Sa st L M S ms c fb N H2 ls mk skv xs lk fp) {c':Int->Int} {fb':Drn->Int} {N':Nat} (hN:N<=N') (h1:∀ d∈ds,a2j d.2.1 d.2.2 < c' d.1->a2j d.2.1 d.2.2 < c d.1) (h2:∀ d∈ds,fb d<=fb' d) (h3:∀ ns∈mk,∀ n∈ns,c' n=c n):PSt ds ks H0 Sa st L M S ms c' fb' N' H2 ls mk skv xs lk fp :=
 ⟨h.sta,h.fr,h.dom,h.seen,λ d hd hc=>h.stood d hd (h1 d hd hc),Nat.le_trans h.slen hN,λ d hd=>Int.le_trans (h.few d hd) (h2 d hd),h.lks,
  λ ns hns=>⟨(h.mks ns hns).1,λ n hn=>by obtain⟨d,hd,e1,e2⟩:=(h.mks ns hns).2 n hn;exact⟨d,hd,e1,by rw[h3 ns hns n hn];exact e2⟩⟩,h.lst,λ ns hns=>Nat.le_trans (h.mlen ns hns) hN,h.dis⟩
theorem PSt.look (F:Fx ds ks H0 Sa st L M S ms) (h:PSt ds ks H0 Sa st L M S ms c fb N H2 ls mk skv xs lk fp) {d:Drn} (hd:d∈ds) {v:V} {l:Lk} {f:List Addr} (s3:Same H2 H3) (tf:TF H3 v (a7m l) f) (nf:f.Nodup) (ff:∀ b∈f,H2 b=none) (lo:e4x ks ls l)
  (h4:H4 (Sa d.1)=some (.lst (xs d.1++[v]))) (k4:∀ b o,b≠Sa d.1->H3 b=some o->H4 b=some o) (hn:∀ ns∈mk,d.1 ∉ ns) {fb':Drn->Int} (hf1:fb d+1<=fb' d) (hf2:∀ e∈ds,e.1≠d.1->fb e<=fb' e) :
  PSt ds ks H0 Sa st L M S ms c fb' N H4 ls mk skv (λ n=>if n=d.1 then xs n++[v] else xs n) (λ n=>if n=d.1 then lk n++[l] else lk n) (λ n=>if n=d.1 then fp n++f else fp n):=by
 have h3:=h.same s3
 obtain⟨xs0,hxs0⟩:=F.hSa d hd
 have hl3:=(h3.seen d hd).1
 have ne:∀ b,H0 b=none->b≠Sa d.1:=λ b e z=>by rw[z,hxs0] at e;cases e
 have so:Same (off H0 H3) (off H0 H4):=λ b o e=>b2h (a2t e).1 (k4 _ _ (ne b (a2t e).1) (a2t e).2)
 have dict_ne:∀ b kv,H3 b=some (.dK kv)->b≠Sa d.1:=λ b kv e z=>by rw[z,hl3] at e;cases e
 obtain⟨p1,p2,p3⟩:=F.sep d hd
 obtain⟨b0,hb0⟩:=h3.sta.h0
 refine⟨⟨⟨b0,k4 _ _ (dict_ne _ _ hb0) hb0⟩,k4 _ _ p1.symm h3.sta.h1,k4 _ _ p3.symm h3.sta.h2,k4 _ _ (dict_ne _ _ h3.sta.h3) h3.sta.h3,h3.sta.n1,h3.sta.n2,h3.sta.n3,λ j m ns e1 e2=>k4 _ _ (λ z=>p2 (z ▸ List.mem_of_getElem? e1)) (h3.sta.hm j m ns e1 e2),h3.sta.nd,h3.sta.nL,h3.sta.nM⟩,
  λ b o e b1 b2 b3 b4=>k4 _ _ (b4 d hd) (h3.fr b o e b1 b2 b3 b4),λ b e=>h3.dom b ?_,λ e he=>?_,λ e he hc=>?_,h3.slen,λ e he=>?_,λ e he=>?_,h3.mks,h3.lst,h3.mlen,λ e1 he1 e2 he2 ne12 b hb hb2=>?_⟩
 ·cases q:H3 b with
  | none=>rfl
  | some o =>
   by_cases z:b=Sa d.1
   ·rw[z,h4] at e
    cases e
   ·rw[k4 _ _ z q] at e
    cases e
 ·by_cases z:e.1=d.1
  ·have:e=d:=b7i F.up he hd z
   subst this
   refine⟨?_,?_,?_,?_⟩
   ·rw[if_pos rfl]
    exact h4
   ·rw[if_pos rfl,if_pos rfl,if_pos rfl,List.map_append]
    exact((h3.seen e he).2.1.fr λ b hb o eb=>k4 _ _ (ne b ((h3.seen e he).2.2.2 b hb)) eb).app (TFs.one (tf.fr λ b hb o eb=>k4 _ _ (ne b (h.dom b (ff b hb))) eb))
   ·rw[if_pos rfl]
    exact nd2.mpr ⟨(h.seen e he).2.2.1,nf,λ x hx=>(h.seen e he).2.1.not (ff x hx)⟩
   ·rw[if_pos rfl]
    intro b hb
    rcases List.mem_append.mp hb with y | y
    ·exact(h.seen e he).2.2.2 b y
    ·exact h.dom b (ff b y)
  ·rw[if_neg z,if_neg z,if_neg z]
   exact⟨k4 _ _ (λ y=>z (F.inj e he d hd y)) (h3.seen e he).1,(h3.seen e he).2.1.fr (λ b hb o eb=>k4 _ _ (ne b ((h3.seen e he).2.2.2 b hb)) eb),(h3.seen e he).2.2⟩
 ·obtain⟨so',sl,e1,e2,e3⟩:=h3.stood e he hc
  exact⟨so',sl,e1,so _ _ e2,e3⟩
 ·by_cases z:e.1=d.1
  ·have:e=d:=b7i F.up he hd z
   subst this
   rw[if_pos rfl,List.length_append,List.length_singleton]
   have:=h3.few e he
   push_cast
   omega
  ·rw[if_neg z]
   exact Int.le_trans (h3.few e he) (hf2 e he z)
 ·by_cases z:e.1=d.1
  ·rw[if_pos z]
   intro l' hl'
   rcases List.mem_append.mp hl' with y | y
   ·exact h3.lks e he l' y
   ·rw[List.mem_singleton.mp y]
    refine⟨lo.1,lo.2.1,λ x hx=>?_⟩
    obtain⟨i,hi,e1,e2⟩:=lo.2.2 x hx
    refine⟨i,hi,e1,?_⟩
    rcases e2 with e2 | e2
    ·exact .inl e2
    ·rcases h.lst i x.2 e2 with g | ⟨ns,g1,g2⟩
     ·exact .inr (.inl g)
     ·exact .inr (.inr ⟨λ w=>hn ns (List.mem_of_getElem? g1) (by rw[<-z,<-w];exact g2),ns,g1,g2⟩)
  ·rw[if_neg z]
   exact h3.lks e he
 ·have key:∀ {e:Drn},e∈ds->b∈(if e.1=d.1 then fp e.1++f else fp e.1)->b∈fp e.1\/(e.1=d.1/\b∈f):=λ {e} he hb=>by
   by_cases z:e.1=d.1
   ·rw[if_pos z] at hb
    exact(List.mem_append.mp hb).imp id λ y=>⟨z,y⟩
   ·rw[if_neg z] at hb
    exact .inl hb
  rcases key he1 hb with y | ⟨y1,y⟩
  ·rcases key he2 hb2 with x | ⟨x1,x⟩
   ·exact h.dis e1 he1 e2 he2 ne12 b y x
   ·exact(h.seen e1 he1).2.1.not (ff b x) y
  ·rcases key he2 hb2 with x | ⟨x1,x⟩
   ·exact(h.seen e2 he2).2.1.not (ff b y) x
   ·exact ne12 (y1.trans x1.symm)
theorem PSt.stand (F:Fx ds ks H0 Sa st L M S ms) (h:PSt ds ks H0 Sa st L M S ms c fb N H2 ls mk skv xs lk fp) {d:Drn} (hd:d∈ds) {so:Addr} (s3:Same H2 H3) (hso0:H2 so=none) (hso:H3 so=some (.lst (ls.map V.int))) {c':Int->Int} (h1:∀ e∈ds,a2j e.2.1 e.2.2 < c' e.1->e.1=d.1\/a2j e.2.1 e.2.2 < c e.1) (h3':∀ ns∈mk,∀ n∈ns,c' n=c n) :
  PSt ds ks H0 Sa st L M S ms c' fb (N+1) (upd H3 S (.dK (a6v skv (Sum.inl d.1) (.ref so)))) ls mk (a6v skv (Sum.inl d.1) (.ref so)) xs lk fp:=by
 have h3:=h.same s3
 obtain⟨oS,hS0⟩:=F.hS
 have hS3:=h3.sta.h3
 have ne:∀ b,H0 b=none->b≠S:=λ b e z=>by rw[z,hS0] at e;cases e
 have soo:Same (off H0 H3) (off H0 (upd H3 S (.dK (a6v skv (Sum.inl d.1) (.ref so))))):=λ b o e=>b2h (a2t e).1 (by rw[a0h (ne b (a2t e).1)];exact(a2t e).2)
 have lne:∀ b ys,H3 b=some (.lst ys)->b≠S:=λ b ys e z=>by rw[z,hS3] at e;cases e
 have stS:=F.sS
 refine⟨⟨by rw[a0h stS];exact h3.sta.h0,by rw[a0h (lne _ _ h3.sta.h1)];exact h3.sta.h1,by rw[a0h (lne _ _ h3.sta.h2)];exact h3.sta.h2,a0b,h3.sta.n1,h3.sta.n2,h3.sta.n3,λ j m ns e1 e2=>by rw[a0h (lne _ _ (h3.sta.hm j m ns e1 e2))];exact h3.sta.hm j m ns e1 e2,h3.sta.nd,h3.sta.nL,h3.sta.nM⟩,
  λ b o e b1 b2 b3 b4=>by rw[a0h b3];exact h3.fr b o e b1 b2 b3 b4,λ b e=>h3.dom b ?_,λ e he=>⟨by rw[a0h (lne _ _ (h3.seen e he).1)];exact(h3.seen e he).1,(h3.seen e he).2.1.fr (λ b hb o eb=>by rw[a0h (ne b ((h3.seen e he).2.2.2 b hb))];exact eb),(h3.seen e he).2.2⟩,λ e he hc=>?_,?_,h3.few,h3.lks,λ ns hns=>⟨(h3.mks ns hns).1,λ n hn=>by obtain⟨e,he,e1,e2⟩:=(h3.mks ns hns).2 n hn;exact⟨e,he,e1,by rw[h3' ns hns n hn];exact e2⟩⟩,h3.lst,λ ns hns=>Nat.le_succ_of_le (h3.mlen ns hns),h3.dis⟩
 ·by_cases z:b=S
  ·rw[z,a0b] at e
   cases e
  ·rw[a0h z] at e
   exact e
 ·rw[a8l]
  by_cases z:e.1=d.1
  ·rw[if_pos (by rw[z])]
   exact⟨so,ls,rfl,soo _ _ (b2h (h.dom so hso0) hso),h3.sta.n1⟩
  ·rw[if_neg (λ y=>z (Sum.inl.inj y))]
   rcases h1 e he hc with y | y
   ·exact absurd y z
   ·obtain⟨so',sl,e1,e2,e3⟩:=h3.stood e he y
    exact⟨so',sl,e1,soo _ _ e2,e3⟩
 ·have:=d2t skv (Sum.inl d.1:Key) (.ref so)
  have:=h3.slen
  omega
end
--@STAGE
structure GP (p:Ps):Prop where
 good:c3i p
 rise:c5l p
 inm:e7w p
 nk:(p.2.map (·.1)).Nodup
 many:p.2.length<=4
 makes:∀ m∈p.2,m.2≠[]/\m.2.length<=100
 looks:∀ d∈p.1,∀ l∈d.2.2,l.length<=4
def e6s (K:PySem.W.Frag):Sp:=λ vs H Q _=>∃ (a:Addr) (ns:List Int) (dv ov:V) (ds:List Drn) (os:List Pr),vs=[.ref a,dv,ov]/\SqL K H a (ns.map V.int)/\Tr H dv (.list (ds.map e4n))/\Tr H ov (.list (os.map b4p))/\e7i ds/\e8s ds os/\os.length<=100 /\
 ∀ v H' p f,Same H H'->TF H' v (a3j p) f->f.Nodup->(∀ b∈f,H b=none)->GP p->Q v H'
def sk3 (L M S:Addr):List (Key×V):=[(Sum.inr "last",.ref L),(Sum.inr "makers",.ref M),(Sum.inr "stood",.ref S)]
theorem e3j (L M S:Addr) (b:Bool):a6v (sk3 L M S) (Sum.inr "free":Key) (.bl b)=skO L M S b:=by
 refine d1z ?_
 have e1:decide ((Sum.inr "last":Key)=(Sum.inr "free":Key))=false:=by decide +kernel
 have e2:decide ((Sum.inr "makers":Key)=(Sum.inr "free":Key))=false:=by decide +kernel
 have e3:decide ((Sum.inr "stood":Key)=(Sum.inr "free":Key))=false:=by decide +kernel
 unfold a4l sk3
 rw[List.find?_cons]
 dsimp only
 rw[e1]
 dsimp only
 rw[List.find?_cons]
 dsimp only
 rw[e2]
 dsimp only
 rw[List.find?_cons]
 dsimp only
 rw[e3]
 rfl
def e4e (ks:List Int) (mk:List (List Int)) (i:Nat):Option Mkr:=match ks[i]?,mk[i]? with
 | some k,some (n::r)=>some (k,n::r)
 | _,_=>none
theorem b5g {ks:List Int} {mk:List (List Int)} {i:Nat} {m:Mkr} (h:e4e ks mk i=some m):ks[i]?=some m.1/\mk[i]?=some m.2/\m.2≠[]:=by
 unfold e4e at h
 split at h
 ·next k n r e1 e2=>cases h;exact⟨e1,e2,by simp⟩
 ·cases h
theorem e7y {ks:List Int} {mk:List (List Int)} {i:Nat} {k:Int} {ns:List Int} (h1:ks[i]?=some k) (h2:mk[i]?=some ns) (h3:ns≠[]):e4e ks mk i=some (k,ns):=by
 unfold e4e
 rw[h1,h2]
 cases ns with
 | nil=>exact absurd rfl h3
 | cons a r=>rfl
def d5x (ks:List Int) (mk:List (List Int)):List Mkr:=(List.range 4).filterMap (e4e ks mk)
theorem e1h {ks:List Int} {mk:List (List Int)} (hk:ks.Pairwise (· < ·)):((d5x ks mk).map (·.1)).Pairwise (· < ·):=by
 rw[List.pairwise_map]
 unfold d5x
 rw[List.pairwise_filterMap]
 refine List.pairwise_lt_range.imp λ {i j} hij m hm m' hm'=>?_
 obtain⟨a1,_,_⟩:=b5g hm
 obtain⟨b1,_,_⟩:=b5g hm'
 obtain⟨ai,ae⟩:=List.getElem?_eq_some_iff.mp a1
 obtain⟨bi,be⟩:=List.getElem?_eq_some_iff.mp b1
 have:=List.pairwise_iff_getElem.mp hk i j ai bi hij
 rw[ae,be] at this
 exact this
theorem f1e {σ0 fs:L2.St} {k:Nat} {lo:Int} {g:TG} {tc:L2.TT} {te:TE} {Q:VK} {H1:Hp} (n:Nat) (ow:Nat->List Addr) (dy:Nat->Option PyData) (h0:σ0=List.replicate k none++fs) (hz:n<=sizeLine)
  (ho:∀ i j,i < j->j < n->∀ b∈ow j,b ∉ ow i) (hv:∀ i,i < n->∀ b∈ow i,∃ o,H1 b=some o)
  (step:∀ i,i < n->∀ H (ts:L2.St) (R:Option V->L2.St->Hp->Prop),Same H1 H->ts.length=k->(∀ d y f (ts2:L2.St) H3,dy i=some d->ts2.length=k->Same H H3->TF H3 y d f->f.Nodup->(∀ b∈f,H b=none\/b∈ow i)->R (some y) (ts2++fs) H3)->(dy i=none->∀ (ts2:L2.St) H3,ts2.length=k->Same H H3->R none (ts2++fs) H3) ->
   g (.int (lo+(i:Int))) (ts++fs) H λ τ2 H2=>tc τ2 H2 λ ok H3=>if ok=true then te τ2 H3 λ y H4=>R (some y) τ2 H4 else R none τ2 H3)
  (fin:∀ D H' ys f,H1 D=none->Same H1 H'->H' D=some (.lst ys)->TFs H' ys ((List.range n).filterMap dy) f->f.Nodup->(∀ b∈f,H1 b=none\/∃ i,i < n/\b∈ow i)->D ∉ f->Q (.ref D) H'):b1i σ0 (Itr lo n) g tc te Q H1:=by
 intro D hD
 refine⟨λ i m ys τ H=>m=n - i/\i<=n/\ys.length<=i/\(∃ f,TFs H ys ((List.range i).filterMap dy) f/\f.Nodup/\(∀ b∈f,H1 b=none\/∃ j,j < i/\b∈ow j)/\D ∉ f)/\(∃ ts:L2.St,ts.length=k/\τ=ts++fs)/\Same H1 H/\H D=some (.lst ys),⟨n,rfl,Nat.zero_le _,Nat.le_refl _,⟨[],.nil,.nil,(λ b hb=>by cases hb),(λ hb=>by cases hb)⟩,⟨_,List.length_replicate,h0⟩,Same.upd hD,a0b⟩,?_⟩
 rintro i m ys τ H ⟨rfl,hi,hyl,⟨f,hp,hf,hfn,hDf⟩,⟨ts,hts,rfl⟩,ss,hd⟩
 refine⟨hd,?_⟩
 by_cases hlt:i < n
 ·refine .inr ⟨hlt,by omega,?_⟩
  rintro v H' ⟨rfl,rfl⟩
  refine step i hlt H' ts (λ o τ2 H3=>match o with
   | some y=>H3 D=some (.lst ys)/\∃ m',m' < n - i/\m'=n - (i+1)/\i+1<=n/\(ys++[y]).length<=i+1/\(∃ f,TFs (upd H3 D (.lst (ys++[y]))) (ys++[y]) ((List.range (i+1)).filterMap dy) f/\f.Nodup/\(∀ b∈f,H1 b=none\/∃ j,j < i+1/\b∈ow j)/\D ∉ f)/\(∃ ts:L2.St,ts.length=k/\τ2=ts++fs)/\Same H1 (upd H3 D (.lst (ys++[y])))/\upd H3 D (.lst (ys++[y])) D=some (.lst (ys++[y]))
   | none=>∃ m',m' < n - i/\m'=n - (i+1)/\i+1<=n/\ys.length<=i+1/\(∃ f,TFs H3 ys ((List.range (i+1)).filterMap dy) f/\f.Nodup/\(∀ b∈f,H1 b=none\/∃ j,j < i+1/\b∈ow j)/\D ∉ f)/\(∃ ts:L2.St,ts.length=k/\τ2=ts++fs)/\Same H1 H3/\H3 D=some (.lst ys)) ss hts (λ d y f2 ts2 H3 ed h2 s3 tr3 nd2' fr3=>?_) (λ en ts2 H3 h2 s3=>?_)
  ·refine⟨s3 _ _ hd,n - (i+1),by omega,rfl,hlt,(by rw[List.length_append,List.length_singleton];omega),?_,⟨ts2,h2,rfl⟩,(ss.trans s3).again hD,a0b⟩
   have hD2:D ∉ f2:=λ z=>by
    rcases fr3 D z with q | q
    ·rw[hd] at q;cases q
    ·obtain⟨o,q⟩:=hv i hlt D q
     rw[hD] at q;cases q
   refine⟨f++f2,?_,nd2.mpr ⟨hf,nd2',λ x hx z=>?_⟩,λ b hb=>?_,λ hb=>?_⟩
   ·rw[List.range_succ,List.filterMap_append]
    have e1:[i].filterMap dy=[d]:=by rw[List.filterMap_cons,ed];rfl
    rw[e1]
    refine(hp.fr λ b hb o eb=>?_).app (TFs.one (tr3.fr λ b hb o eb=>?_))
    ·rw[a0h (show b≠D from λ z=>hDf (z ▸ hb))]
     exact s3 _ _ eb
    ·rw[a0h (show b≠D from λ z=>hD2 (z ▸ hb))]
     exact eb
   ·rcases fr3 x hx with q | q
    ·exact hp.not q z
    ·rcases hfn x z with q2 | ⟨j,hj,q2⟩
     ·obtain⟨o,q3⟩:=hv i hlt x q
      rw[q2] at q3;cases q3
     ·exact ho j i hj hlt x q q2
   ·rcases List.mem_append.mp hb with z | z
    ·exact(hfn b z).imp id λ ⟨j,hj,q⟩=>⟨j,by omega,q⟩
    ·rcases fr3 b z with q | q
     ·exact .inl (ss.free q)
     ·exact .inr ⟨i,by omega,q⟩
   ·rcases List.mem_append.mp hb with z | z
    ·exact hDf z
    ·exact hD2 z
  ·refine⟨n - (i+1),by omega,rfl,hlt,by omega,⟨f,?_,hf,λ b hb=>(hfn b hb).imp id λ ⟨j,hj,q⟩=>⟨j,by omega,q⟩,hDf⟩,⟨ts2,h2,rfl⟩,ss.trans s3,s3 _ _ hd⟩
   rw[List.range_succ,List.filterMap_append]
   have e1:[i].filterMap dy=[]:=by rw[List.filterMap_cons,en];rfl
   rw[e1,List.append_nil]
   exact hp.same s3
 ·have e:i=n:=by omega
  subst e
  exact .inl ⟨Nat.le_refl _,fin D H ys f hD ss hd hp hf hfn hDf⟩
theorem e1d (T:Tx K mg):a4j P w K mg base CX0 4 T.c6u T.c7t ["_law_script","_law_deals","_law_order"] (e6s K):=by
 refine T.d1i.ok a2u (λ vs H Q E h=>?_) (λ cdv A outer s H vs Q E hr h=>?_)
 ·obtain⟨a,ns,dv,ov,ds,os,rfl,_⟩:=h
  rfl
 ·obtain⟨a,ns,dv,ov,ds,os,rfl,ha,hd,ho,⟨g1,g2,g3,g4⟩,hW,hol,q⟩:=h
  have hu:=a9a hr
  refine⟨_,(a0e (a0n (i:=3) a2u.nd rfl (Or.inr rfl) (a0l ((e1i T).mono (by decide)) hr rfl T.d7j T.d1h.kp T.d8v .nil a1l (a0a (a0l ((a1s T).mono (by decide)) hr rfl T.a2o T.a1w.kp T.a2m .nil a1l (a0a (a0l ((b3u T).mono (by decide)) hr rfl T.b4n T.b2g.kp T.b4t .nil a1l (a0a (pv 0) (a0a a0c a0d))) (a0a a0c a0d))) a0d)))
   (a0e (a0n (i:=4) a2u.nd rfl (Or.inr rfl) (e6g (c5h a1c (a1o (a0a a0c (a0a a0c (a0a a0c (a0a a0c a0d))))) (c5h a1c (a1o (a0a (a1o a0d) (a0a (a1o a0d) (a0a (a1o a0d) (a0a (a1o a0d) a0d))))) (c5h a1c a7f e7d))) rfl rfl (by simp) (by decide)))
   (a0e (a7t hu (pv 4) a1c (b7j a7v (a0x a1v (a0l ((a1s T).mono (by decide)) hr rfl T.a2o T.a1w.kp T.a2m .nil a1l (a0a (a0l ((b3u T).mono (by decide)) hr rfl T.b4n T.b2g.kp T.b4t .nil a1l (a0a (pv 0) (a0a a0c a0d))) (a0a a0c a0d))) a0c) a0c (a0z _)) rfl)
   (a0e (a0n (i:=5) a2u.nd rfl (Or.inr rfl) a7f)
   (a0e (a0n (i:=6) a2u.nd rfl (Or.inl rfl) a7f)
   (a0e (a2q PassesOwn.never rfl (a1t (pv 1)) (b1j rfl (a0s (a0j (i:=7) a2u.nd rfl (Or.inl rfl)) (a0s (a0j (i:=8) a2u.nd rfl (Or.inl rfl)) (a0s (a0j (i:=9) a2u.nd rfl (Or.inl rfl)) a4n))))
   (a0e (a7t hu (pv 5) (pv 7) (a1o a0d) rfl)
   (a0g (a7t hu (pv 6) (pv 7) (a2b (a0a (pv 8) (a0a (pv 9) a0d))) rfl))))
   (a0e (a2q PassesOwn.never rfl (a1q rfl T.a2y (a0a (a1a a1h (by rfl) T.a5u boot_len (a0a (pv 2) a0d)) a0d)) (a0j (i:=10) a2u.nd rfl (Or.inl rfl))
   (a0e (b8j (a0m a0v (pv 2) (pv 10) (λ _ _=>rfl)) (b1j rfl (a0s (a0j (i:=7) a2u.nd rfl (Or.inl rfl)) (a0s (a0j (i:=11) a2u.nd rfl (Or.inl rfl)) a4n))))
   (a0e (b8j (a1f hu (pv 6) (pv 7) (λ _ _=>rfl)) (b1j rfl (a0s (a0j (i:=8) a2u.nd rfl (Or.inl rfl)) (a0s (a0j (i:=9) a2u.nd rfl (Or.inl rfl)) a4n))))
   (a0e (a0n (i:=12) a2u.nd rfl (Or.inl rfl) (a0l ((b3u T).mono (by decide)) hr rfl T.b4n T.b2g.kp T.b4t .nil a1l (a0a (pv 0) (a0a (a0x a3v a0c (pv 10)) a0d))))
   (a0e (a2q PassesOwn.never rfl (a1q rfl T.a2y (a0a (pv 9) a0d)) (a0j (i:=13) a2u.nd rfl (Or.inl rfl))
   (a0g (a3r (a0t a7v (a0l ((d0p T).mono (by decide)) hr rfl T.c5n T.b9t.kp T.c7q .nil a1l (a0a (pv 8) (a0a (pv 13) a0d))) (pv 11) (a0z _))
   (a0e (a0n (i:=14) a2u.nd rfl (Or.inl rfl) (a0l ((e1f T).mono (by decide)) hr rfl T.e0x T.d2l.kp T.d8z .nil a1l (a0a (pv 3) (a0a (a1f hu (pv 4) a1c (λ _ _=>rfl)) (a0a (a0l ((a1s T).mono (by decide)) hr rfl T.a2o T.a1w.kp T.a2m .nil a1l (a0a (pv 12) (a0a (a0x a3v a0c (pv 13)) a0d))) (a0a (b7j a7v (pv 8) a1c (a0z _)) a0d))))))
   (a0g (a6l (b9f PySem.F.plainAttrs_list PySem.F.slot_list_append PySem.F.type_list_append a5k (a1f hu (pv 5) (pv 7) (λ _ _=>rfl)) (a0a (pv 14) a0d)))))
   a1d)))
   (a9e (a3r (a0t a7v (pv 11) (a0l ((c9s T).mono (by decide)) hr rfl T.c5k T.b9z.kp T.c5r .nil a1l (a0a (pv 8) (a0a (pv 9) a0d))) (a0z _))
   (a0g (a7t hu (a1f hu (pv 4) a1c (λ _ _=>rfl)) (pv 7) (a2i a5h (by rfl) T.b4b boot_list (a0a (a1f hu (pv 4) a1c (λ _ _=>rfl)) a0d)) rfl))
   a1d)
   (a0g (a3r (a0t a7v (pv 11) (a0x c4l (a0l ((b2q T).mono (by decide)) hr rfl T.b2v T.b0u.kp T.b3n .nil a1l (a0a (pv 8) (a0a (pv 9) a0d))) a0c) (a0z _))
   (a0g (a6l (a0l ((e0y T).mono (by decide)) hr rfl T.d7o T.d1r.kp T.d7i .nil a1l (a0a (pv 7) (a0a (pv 8) (a0a (a0l ((a1s T).mono (by decide)) hr rfl T.a2o T.a1w.kp T.a2m .nil a1l (a0a (pv 12) (a0a a0c a0d))) (a0a (pv 4) a0d)))))))
   a1d))))))))
   (a0e (c5w (i:=15) ["_law_k"] rfl a2u.nd rfl rfl (a3c.mk (fv:=["_law_keys_here","_law_state"]) (js:=[3,4]) rfl (by decide +kernel) (by decide +kernel) (by decide +kernel) (a1n (Or.inl rfl) (a1n (Or.inl rfl) a2n)) rfl (by decide +kernel)) (a1q rfl T.a2y (a0a a0c a0d)) rfl (λ _ _ _ _ _=>(a0j (i:=0) (show (["_law_k","_law_keys_here","_law_state"]:List Str).Nodup by decide +kernel) rfl (Or.inl rfl))) (λ _ _ _ _ _=>(c9j (a0t (e5z (K:=K) rfl hr.units) (a0m (b5t (K:=K) rfl) (a1f hu (pv 2) a1c (λ _ _=>rfl)) (pv 0) (λ _ _=>rfl)) (a1o a0d) (a0z _)))) (λ _ _ _ _ _=>(a2b (a0a (a0m (b5t (K:=K) rfl) (pv 1) (pv 0) (λ _ _=>rfl)) (a0a (a0m (b5t (K:=K) rfl) (a1f hu (pv 2) a1c (λ _ _=>rfl)) (pv 0) (λ _ _=>rfl)) a0d)))))
   (a0g (a0u (a2b (a0a (a3k ["_law_number","_law_word","_law_looks"] rfl (a3c.mk (fv:=["_law_seen"]) (js:=[5]) rfl (by decide +kernel) (by decide +kernel) (by decide +kernel) (a1n (Or.inl rfl) a2n) rfl (by decide +kernel)) (a1t (pv 1)) (λ _ _ _ _ _=>(c2j (K:=K) (n:=3) rfl rfl (a0s (a0j (i:=0) (show (["_law_number","_law_word","_law_looks","_law_seen"]:List Str).Nodup by decide +kernel) rfl (Or.inl rfl)) (a0s (a0j (i:=1) (show (["_law_number","_law_word","_law_looks","_law_seen"]:List Str).Nodup by decide +kernel) rfl (Or.inl rfl)) (a0s (a0j (i:=2) (show (["_law_number","_law_word","_law_looks","_law_seen"]:List Str).Nodup by decide +kernel) rfl (Or.inl rfl)) a4n))))) (λ _ _ _ _ _=>a9r) (λ _ _ _ _ _=>(a2b (a0a (pv 0) (a0a (pv 1) (a0a (a1f hu (pv 3) (pv 0) (λ _ _=>rfl)) a0d)))))) (a0a (pv 15) a0d))))))))))))),?_⟩
  refine c6l λ b' hb'=>?_
  have z9:(200:Nat)<=sizeLine:=by decide
  obtain⟨dl,dxs,rfl,hdl,htd⟩:=b1a hd
  obtain⟨ol,oxs,rfl,hol2,hto⟩:=b1a ho
  have hdxl:dxs.length=ds.length:=by rw[htd.len,List.length_map]
  have hoxl:oxs.length=os.length:=by rw[hto.len,List.length_map]
  refine⟨_,rfl,a,ns,0,rfl,ha,by decide,λ c0=>⟨c0,4,rfl,b9g c0 4,rfl,d1n _ _,e8r _ _,λ Dk H1 ks hDk s1 hk gk=>?_⟩⟩
  have gk1:=gk.1;have gk2:=gk.2
  subst hb';refine b2n λ b' hb'=>?_
  intro st hst
  refine⟨(by show 4<=sizeLine;decide),λ L hL=>⟨(by show 0<=sizeLine;decide),λ m0 hm0=>⟨(by show 0<=sizeLine;decide),λ m1 hm1=>⟨(by show 0<=sizeLine;decide),λ m2 hm2=>⟨(by show 0<=sizeLine;decide),λ m3 hm3=>⟨(by show 4<=sizeLine;decide),λ M hM=>λ S hS=>?_⟩⟩⟩⟩⟩⟩
  have p0:=Same.upd (o:=HO.dK []) hst
  have p1:=Same.upd (o:=HO.lst [.int 0,.int 0,.int 0,.int 0]) hL
  have p2:=Same.upd (o:=HO.lst []) hm0
  have p3:=Same.upd (o:=HO.lst []) hm1
  have p4:=Same.upd (o:=HO.lst []) hm2
  have p5:=Same.upd (o:=HO.lst []) hm3
  have p6:=Same.upd (o:=HO.lst [.ref m0,.ref m1,.ref m2,.ref m3]) hM
  have p7:=Same.upd (o:=HO.dK []) hS
  have r0:upd H1 st (.dK []) st=some (.dK []):=a0b
  have r1:upd (upd H1 st (.dK [])) L (.lst [.int 0,.int 0,.int 0,.int 0]) L=some (.lst [.int 0,.int 0,.int 0,.int 0]):=a0b
  generalize upd (upd H1 st (.dK [])) L (.lst [.int 0,.int 0,.int 0,.int 0])=G1 at *
  have r2:upd G1 m0 (.lst []) m0=some (.lst []):=a0b
  generalize upd G1 m0 (.lst [])=G2 at *
  have r3:upd G2 m1 (.lst []) m1=some (.lst []):=a0b
  generalize upd G2 m1 (.lst [])=G3 at *
  have r4:upd G3 m2 (.lst []) m2=some (.lst []):=a0b
  generalize upd G3 m2 (.lst [])=G4 at *
  have r5:upd G4 m3 (.lst []) m3=some (.lst []):=a0b
  generalize upd G4 m3 (.lst [])=G5 at *
  have r6:upd G5 M (.lst [.ref m0,.ref m1,.ref m2,.ref m3]) M=some (.lst [.ref m0,.ref m1,.ref m2,.ref m3]):=a0b
  generalize upd G5 M (.lst [.ref m0,.ref m1,.ref m2,.ref m3])=G6 at *
  have r7:upd G6 S (.dK []) S=some (.dK []):=a0b
  generalize upd G6 S (.dK [])=G7 at *
  have q1:=p1.trans (p2.trans (p3.trans (p4.trans (p5.trans (p6.trans p7)))))
  have q2:=p2.trans (p3.trans (p4.trans (p5.trans (p6.trans p7))))
  have q3:=p3.trans (p4.trans (p5.trans (p6.trans p7)))
  have q4:=p4.trans (p5.trans (p6.trans p7))
  have q5:=p5.trans (p6.trans p7)
  have q6:=p6.trans p7
  have emg:c4u [] (sk3 L M S)=sk3 L M S:=b2b (sk3 L M S) [] (by show ([Sum.inr "last",Sum.inr "makers",Sum.inr "stood"]:List Key).Nodup;decide +kernel)
  refine⟨q1 _ _ r0,sk3 L M S,rfl,(by show 3<=15;decide),?_⟩
  rw[emg]
  have sG0:Same H1 (upd G7 st (.dK (sk3 L M S))):=(p0.trans q1).again hst
  subst hb';refine b2n λ b' hb'=>?_
  refine⟨_,rfl,a,ns,0,rfl,sG0.seq (s1.seq ha),by decide,λ c1=>⟨c1,5,rfl,_,_,rfl,rfl,(by show (0:Int) < 4;decide),rfl,_,rfl,st,_,rfl,d5t.k (k:=Sum.inr "free") a0b (by show 3 < sizeLine;decide),?_⟩⟩
  rw[e3j]
  obtain⟨fb0,hfb0⟩:∃ b:Bool,decide (V.int (b9g c1 5%4)=V.int 0)=b:=⟨_,rfl⟩
  have efb:skO L M S (decide (V.int (b9g c1 5%4)=V.int 0))=skO L M S fb0:=by rw[hfb0]
  rw[efb]
  have ne2:∀ {HA:Hp} {x y:Addr} {o:HO},HA x=none->HA y=some o->x≠y:=λ e1 e2 z=>by rw[z,e2] at e1;cases e1
  have nL:L≠st:=ne2 hL r0
  have n0:m0≠L:=ne2 hm0 r1
  have n0s:m0≠st:=ne2 hm0 (p1 _ _ r0)
  have n1:m1≠L:=ne2 hm1 (p2 _ _ r1)
  have n10:m1≠m0:=ne2 hm1 r2
  have n1s:m1≠st:=ne2 hm1 (p2 _ _ (p1 _ _ r0))
  have n2:m2≠L:=ne2 hm2 (p3 _ _ (p2 _ _ r1))
  have n20:m2≠m0:=ne2 hm2 (p3 _ _ r2)
  have n21:m2≠m1:=ne2 hm2 r3
  have n2s:m2≠st:=ne2 hm2 (p3 _ _ (p2 _ _ (p1 _ _ r0)))
  have n3:m3≠L:=ne2 hm3 (p4 _ _ (p3 _ _ (p2 _ _ r1)))
  have n30:m3≠m0:=ne2 hm3 (p4 _ _ (p3 _ _ r2))
  have n31:m3≠m1:=ne2 hm3 (p4 _ _ r3)
  have n32:m3≠m2:=ne2 hm3 r4
  have n3s:m3≠st:=ne2 hm3 (p4 _ _ (p3 _ _ (p2 _ _ (p1 _ _ r0))))
  have nMs:M≠st:=ne2 hM (p5 _ _ (p4 _ _ (p3 _ _ (p2 _ _ (p1 _ _ r0)))))
  have nML:M≠L:=ne2 hM (p5 _ _ (p4 _ _ (p3 _ _ (p2 _ _ r1))))
  have nM0:M≠m0:=ne2 hM (p5 _ _ (p4 _ _ (p3 _ _ r2)))
  have nM1:M≠m1:=ne2 hM (p5 _ _ (p4 _ _ r3))
  have nM2:M≠m2:=ne2 hM (p5 _ _ r4)
  have nM3:M≠m3:=ne2 hM r5
  have nSs:S≠st:=ne2 hS (p6 _ _ (p5 _ _ (p4 _ _ (p3 _ _ (p2 _ _ (p1 _ _ r0))))))
  have sG:Same H1 (upd (upd G7 st (.dK (sk3 L M S))) st (.dK (skO L M S fb0))):=sG0.again hst
  have fresh1:H1 L=none/\H1 m0=none/\H1 m1=none/\H1 m2=none/\H1 m3=none/\H1 M=none/\H1 S=none:=⟨p0.free hL,(p0.trans p1).free hm0,(p0.trans (p1.trans p2)).free hm1,(p0.trans (p1.trans (p2.trans p3))).free hm2,(p0.trans (p1.trans (p2.trans (p3.trans p4)))).free hm3,(p0.trans (p1.trans (p2.trans (p3.trans (p4.trans p5))))).free hM,(p0.trans (p1.trans (p2.trans (p3.trans (p4.trans (p5.trans p6)))))).free hS⟩
  have hStaG:Sta (upd (upd G7 st (.dK (sk3 L M S))) st (.dK (skO L M S fb0))) st L M S [m0,m1,m2,m3] [0,0,0,0] [[],[],[],[]] []:=by
   refine⟨⟨fb0,a0b⟩,by rw[a0h nL,a0h nL];exact q2 _ _ r1,by rw[a0h nMs,a0h nMs];exact p7 _ _ r6,by rw[a0h nSs,a0h nSs];exact r7,rfl,rfl,rfl,λ j m nn e1 e2=>?_,?_,?_,⟨nML,?_⟩⟩
   ·have:j=0\/j=1\/j=2\/j=3:=by
     have:=(List.getElem?_eq_some_iff.mp e1).1
     simp only [List.length_cons,List.length_nil] at this
     omega
    rcases this with rfl | rfl | rfl | rfl<;>cases e1<;>cases e2
    ·rw[a0h n0s,a0h n0s];exact q3 _ _ r2
    ·rw[a0h n1s,a0h n1s];exact q4 _ _ r3
    ·rw[a0h n2s,a0h n2s];exact q5 _ _ r4
    ·rw[a0h n3s,a0h n3s];exact q6 _ _ r5
   ·simp only [List.nodup_cons,List.mem_cons,List.not_mem_nil,or_false,not_or,List.nodup_nil,and_true,not_false_eq_true]
    exact⟨⟨n10.symm,n20.symm,n30.symm⟩,⟨n21.symm,n31.symm⟩,n32.symm⟩
   ·simp only [List.mem_cons,List.not_mem_nil,or_false,not_or]
    exact⟨n0.symm,n1.symm,n2.symm,n3.symm⟩
   ·simp only [List.mem_cons,List.not_mem_nil,or_false,not_or]
    exact⟨nM0,nM1,nM2,nM3⟩
  generalize upd (upd G7 st (.dK (sk3 L M S))) st (.dK (skO L M S fb0))=G8 at *
  clear sG0 p0 p1 p2 p3 p4 p5 p6 p7 r0 r1 r2 r3 r4 r5 r6 r7 q1 q2 q3 q4 q5 q6 n0 n0s n1 n10 n1s n2 n20 n21 n2s n3 n30 n31 n32 n3s nMs nML nM0 nM1 nM2 nM3
  subst hb';refine b2n λ b' hb'=>?_
  intro se hse
  subst hb';refine b2n λ b' hb'=>?_
  intro kn hkn
  subst hb';refine b2n λ b' hb'=>?_
  have s8a:=Same.upd (o:=HO.dK []) hse
  have s8b:=Same.upd (o:=HO.dK []) hkn
  have knse:kn≠se:=ne2 hkn a0b
  have seS:se≠S:=ne2 hse hStaG.h3
  have knS:kn≠S:=ne2 hkn (s8a _ _ hStaG.h3)
  have hkn8:G8 kn=none:=s8a.free hkn
  refine⟨_,rfl,dl,rfl,⟨_,SqL.of ((sG.trans (s8a.trans s8b)) _ _ (s1 _ _ hdl))⟩,a4u (K:=K) (a:=dl) (xs:=dxs) (λ i σ H2=>∃ (x7 x8 x9:Option V) (Sa Ka:Int->Addr) (sv kv:List (Key×V)),σ=[some (.ref a),some (.ref dl),some (.ref ol),some (.ref Dk),some (.ref st),some (.ref se),some (.ref kn),x7,x8,x9,none,none,none,none,none,none]/\Same G8 H2/\H2 se=some (.dK sv)/\H2 kn=some (.dK kv)/\sv.length<=i/\kv.length<=i/\(∀ d∈ds.take i,a4l sv (Sum.inl d.1)=some (.ref (Sa d.1))/\H2 (Sa d.1)=some (.lst [])/\G8 (Sa d.1)=none/\a4l kv (Sum.inl d.1)=some (.ref (Ka d.1))/\H2 (Ka d.1)=some (.tup [.str d.2.1,.int d.2.2]))/\∀ d∈ds.take i,∀ e∈ds.take i,Sa d.1=Sa e.1->d.1=e.1)
   ⟨none,none,none,λ _=>0,λ _=>0,[],[],rfl,s8a.trans s8b,s8b _ _ a0b,a0b,Nat.le_refl _,Nat.le_refl _,(λ d h=>by simp at h),λ d h=>by simp at h⟩ (λ i σ H2 _ hJ'=>by obtain⟨_,_,_,_,_,_,_,_,s2,_⟩:=hJ';exact SqL.of (s2 _ _ (sG _ _ (s1 _ _ hdl)))) ?_ ?_⟩
  ·intro i x σ H2 hx hJ'
   refine d6k λ G' hG'=>?_
   obtain⟨x7,x8,x9,Sa,Ka,sv,kv,rfl,s2,hsv,hkv,lsv,lkv,hal,hinj⟩:=hJ'
   refine hG' ?_
   refine d0n λ D' hD'=>?_
   obtain⟨pd,hpd,tr⟩:=htd.get hx
   have hi:i < ds.length:=by rw[<-hdxl];exact(List.getElem?_eq_some_iff.mp hx).1
   have ed:ds[i]?=some ds[i]:=List.getElem?_eq_getElem hi
   rw[List.getElem?_map,ed] at hpd
   cases hpd
   obtain⟨t,rfl,ht⟩:=tr.drn
   have htk:ds.take (i+1)=ds.take i++[ds[i]]:=by rw[List.take_add_one,ed];rfl
   have hnew:∀ e∈ds.take i,e.1≠ds[i].1:=λ e he z=>by
    have hp:=List.pairwise_iff_getElem.mp (List.pairwise_map.mp g2)
    obtain⟨j,hj,rfl⟩:=List.getElem_of_mem he
    rw[List.length_take] at hj
    have:=hp j i (by omega) hi (by omega)
    rw[List.getElem_take] at z
    omega
   refine⟨t,_,rfl,SqT.of (s2 _ _ (sG _ _ (s1 _ _ ht))),rfl,_,_,rfl,_,_,rfl,_,_,rfl,rfl,?_⟩
   refine c6l λ b2' hb2'=>?_
   refine⟨(by show 0<=sizeLine;decide),λ b hb=>⟨_,rfl,_,rfl,se,_,rfl,.inl ⟨sv,Sum.inl ds[i].1,(Same.upd hb) _ _ hsv,rfl,by omega,rfl⟩,?_⟩⟩
   have bse:b≠se:=ne2 hb hsv
   have bkn:b≠kn:=ne2 hb hkv
   have k3:∀ x o,x≠se->H2 x=some o->upd (upd H2 b (.lst [])) se (.dK (a6v sv (Sum.inl ds[i].1) (.ref b))) x=some o:=λ x o hx e=>by rw[a0h hx];exact(Same.upd hb) _ _ e
   have hb3:upd (upd H2 b (.lst [])) se (.dK (a6v sv (Sum.inl ds[i].1) (.ref b))) b=some (.lst []):=by rw[a0h bse];exact a0b
   have hse3:upd (upd H2 b (.lst [])) se (.dK (a6v sv (Sum.inl ds[i].1) (.ref b))) se=some (.dK (a6v sv (Sum.inl ds[i].1) (.ref b))):=a0b
   generalize upd (upd H2 b (.lst [])) se (.dK (a6v sv (Sum.inl ds[i].1) (.ref b)))=H3 at *
   subst hb2'
   refine⟨_,rfl,_,rfl,(by show 2<=sizeLine;decide),λ t2 ht2=>⟨_,rfl,_,rfl,kn,_,rfl,.inl ⟨kv,Sum.inl ds[i].1,(Same.upd ht2) _ _ (k3 _ _ knse hkv),rfl,by omega,rfl⟩,?_⟩⟩
   have s4:=Same.upd (o:=HO.tup [.str ds[i].2.1,.int ds[i].2.2]) ht2
   have ht4:upd H3 t2 (.tup [.str ds[i].2.1,.int ds[i].2.2]) t2=some (.tup [.str ds[i].2.1,.int ds[i].2.2]):=a0b
   have tkn:t2≠kn:=ne2 ht2 (k3 _ _ knse hkv)
   have k5:∀ x o,x≠kn->H3 x=some o->upd (upd H3 t2 (.tup [.str ds[i].2.1,.int ds[i].2.2])) kn (.dK (a6v kv (Sum.inl ds[i].1) (.ref t2))) x=some o:=λ x o hx e=>by rw[a0h hx];exact s4 _ _ e
   have ht5:upd (upd H3 t2 (.tup [.str ds[i].2.1,.int ds[i].2.2])) kn (.dK (a6v kv (Sum.inl ds[i].1) (.ref t2))) t2=some (.tup [.str ds[i].2.1,.int ds[i].2.2]):=by rw[a0h tkn];exact ht4
   subst hD'
   refine⟨_,_,_,λ m=>if m=ds[i].1 then b else Sa m,λ m=>if m=ds[i].1 then t2 else Ka m,_,_,rfl,λ x o e=>?_,k5 _ _ knse.symm hse3,a0b,?_,?_,?_,?_⟩
   ·exact k5 _ _ (ne2 hkn8 e).symm (k3 _ _ (ne2 hse e).symm (s2 _ _ e))
   ·have:=d2t sv (Sum.inl ds[i].1:Key) (.ref b)
    omega
   ·have:=d2t kv (Sum.inl ds[i].1:Key) (.ref t2)
    omega
   ·intro d hd
    rw[htk] at hd
    rw[a8l,a8l]
    dsimp only
    rcases List.mem_append.mp hd with y | y
    ·obtain⟨a1,a2,a3,a4,a5⟩:=hal d y
     have ne:=hnew d y
     rw[if_neg (λ z=>ne (Sum.inl.inj z)),if_neg (λ z=>ne (Sum.inl.inj z)),if_neg ne,if_neg ne]
     exact⟨a1,k5 _ _ (λ z=>by rw[z,hkv] at a2;cases a2) (k3 _ _ (λ z=>by rw[z,hsv] at a2;cases a2) a2),a3,a4,k5 _ _ (λ z=>by rw[z,hkv] at a5;cases a5) (k3 _ _ (λ z=>by rw[z,hsv] at a5;cases a5) a5)⟩
    ·rw[List.mem_singleton.mp y,if_pos rfl,if_pos rfl,if_pos rfl,if_pos rfl]
     exact⟨rfl,k5 _ _ bkn hb3,s2.free hb,rfl,ht5⟩
   ·intro d hd e he
    rw[htk] at hd he
    dsimp only
    rcases List.mem_append.mp hd with y | y<;>rcases List.mem_append.mp he with y' | y'
    ·rw[if_neg (hnew d y),if_neg (hnew e y')]
     exact hinj d y e y'
    ·rw[List.mem_singleton.mp y',if_neg (hnew d y),if_pos rfl]
     exact λ z=>absurd z.symm (ne2 hb (hal d y).2.1)
    ·rw[List.mem_singleton.mp y,if_neg (hnew e y'),if_pos rfl]
     exact λ z=>absurd z (ne2 hb (hal e y').2.1)
    ·rw[List.mem_singleton.mp y,List.mem_singleton.mp y']
     exact λ _=>rfl
  intro σ H0 hJ'
  refine d6k λ G' hG'=>?_
  obtain⟨x7,x8,x9,Sa,Ka,sv,kv,rfl,s2,hsv,hkv,lsv,lkv,hal,hinj⟩:=hJ'
  refine hG' ?_
  subst hb';refine b2n λ b' hb'=>?_
  rw[hdxl,List.take_length] at hal hinj
  obtain⟨hf1,hf2,hf3,hf4,hf5,hf6,hf7⟩:=fresh1
  have hms8:∀ m∈[m0,m1,m2,m3],∃ xs,G8 m=some (.lst xs):=λ m hm=>by
   obtain⟨j,hj,ej⟩:=List.getElem_of_mem hm
   have hj4:j < 4:=hj
   exact⟨_,hStaG.hm j m _ (by rw[List.getElem?_eq_getElem hj,ej]) (List.getElem?_eq_getElem (show j < [([]:List Int),[],[],[]].length from hj4))⟩
  have F:Fx ds ks H0 Sa st L M S [m0,m1,m2,m3]:=⟨g2,gk1,⟨_,s2 _ _ hStaG.h1⟩,λ m hm=>by obtain⟨xs,e⟩:=hms8 m hm;exact⟨xs,s2 _ _ e⟩,⟨_,s2 _ _ hStaG.h3⟩,λ d hd=>⟨_,(hal d hd).2.1⟩,hinj,λ d hd=>⟨ne2 (hal d hd).2.2.1 hStaG.h1,λ z=>by obtain⟨xs,e⟩:=hms8 _ z;exact ne2 (hal d hd).2.2.1 e rfl,ne2 (hal d hd).2.2.1 hStaG.h2⟩,nSs.symm⟩
  have old:∀ {c:Int->Int} {fb:Drn->Int} {N:Nat} {H2:Hp} {ls:List Int} {mk:List (List Int)} {skv:List (Key×V)} {xs:Int->List V} {lk:Int->List Lk} {fp:Int->List Addr},PSt ds ks H0 Sa st L M S [m0,m1,m2,m3] c fb N H2 ls mk skv xs lk fp->Same H1 H2:=λ hP b o e=>by
   refine hP.fr b o (s2 _ _ (sG _ _ e)) (ne2 hf1 e).symm (λ z=>?_) (ne2 hf7 e).symm λ d hd=>(ne2 (hal d hd).2.2.1 (sG _ _ e)).symm
   simp only [List.mem_cons,List.not_mem_nil,or_false] at z
   rcases z with rfl | rfl | rfl | rfl
   ·rw[hf2] at e;cases e
   ·rw[hf3] at e;cases e
   ·rw[hf4] at e;cases e
   ·rw[hf5] at e;cases e
  have hP0:PSt ds ks H0 Sa st L M S [m0,m1,m2,m3] (λ n=>(cnt os 0 n:Int)) (λ d=>lkB d (cnt os 0 d.1)) 0 H0 [0,0,0,0] [[],[],[],[]] [] (λ _=>[]) (λ _=>[]) (λ _=>[]):=by
   refine⟨hStaG.same s2,λ b o e _ _ _ _=>e,λ b e=>e,λ d hd=>⟨(hal d hd).2.1,.nil,.nil,(λ b hb=>by cases hb)⟩,λ d hd hc=>?_,Nat.le_refl _,λ d hd=>?_,(λ d hd l hl=>by cases hl),λ nn hn=>?_,λ i v hv=>.inl ?_,λ nn hn=>?_,(λ d hd e he ne b hb=>by cases hb)⟩
   ·have:=(d3m (w:=d.2.1) (g3 d hd).2.2.2.1).1
    have hc':a2j d.2.1 d.2.2 < (0:Int):=hc
    omega
   ·show (0:Int)<=lkB d (0:Int)
    have:=(g3 d hd).2.2.2.1
    unfold lkB
    split
    ·omega
    ·split<;>omega
   ·simp only [List.mem_cons,List.not_mem_nil,or_false,or_self] at hn
    rw[hn]
    exact⟨List.nodup_nil,λ n h=>by cases h⟩
   ·have:=List.mem_of_getElem? hv
    simpa using this
   ·simp only [List.mem_cons,List.not_mem_nil,or_false,or_self] at hn
    rw[hn]
    exact Nat.le_refl _
  refine⟨_,rfl,_,_,rfl,.inl ⟨_,SqL.of ((old hP0) _ _ (s1 _ _ hol2)),rfl⟩,_,rfl,by omega,by omega,a2h (lo:=0) (n:=((oxs.length:Nat):Int).toNat) (λ j σ H2=>∃ (x7 x8 x9 x10 x11 x12 x13 x14:Option V) (ls:List Int) (mk:List (List Int)) (skv:List (Key×V)) (xs:Int->List V) (lk:Int->List Lk) (fp:Int->List Addr),σ=[some (.ref a),some (.ref dl),some (.ref ol),some (.ref Dk),some (.ref st),some (.ref se),some (.ref kn),x7,x8,x9,x10,x11,x12,x13,x14,none]/\PSt ds ks H0 Sa st L M S [m0,m1,m2,m3] (λ n=>(cnt os j n:Int)) (λ d=>lkB d (cnt os j d.1)) j H2 ls mk skv xs lk fp)
   ⟨x7,x8,x9,none,none,none,none,none,_,_,_,_,_,_,rfl,hP0⟩ ?_ ?_⟩
  ·intro j σ H2 hj hJ'
   refine d6k λ G' hG'=>?_
   obtain⟨x7,x8,x9,x10,x11,x12,x13,x14,ls,mk,skv,xs,lk,fp,rfl,hP⟩:=hJ'
   have hj':j < os.length:=by omega
   obtain⟨⟨n,g⟩,eo⟩:∃ p,os[j]?=some p:=⟨_,List.getElem?_eq_getElem hj'⟩
   obtain⟨hg,d,hd,rfl,hlt⟩:=hW j n g eo
   have sH:=old hP
   obtain⟨ov,hov,otr⟩:=hto.at (i:=j) (d:=b4p (d.1,g)) (by rw[List.getElem?_map,eo];rfl)
   obtain⟨ot,rfl,hot⟩:=c0l otr
   obtain⟨a1,a2,a3,a4,a5⟩:=hal d hd
   obtain⟨b1,b2,b3,b4,b5⟩:=g3 d hd
   have hkn2:=hP.dict F hkv knS
   have hgk:b3y H2 kn (.int d.1) (some (.ref (Ka d.1))):=by
    have:=b3y.k (k:=Sum.inl d.1) hkn2
    rw[a4] at this
    exact this
   have g0:0<=g:=by omega
   refine hG' ?_
   refine d0n λ D' hD'=>?_
   refine c6l λ b2' hb2'=>?_
   refine⟨_,rfl,_,rfl,ol,_,_,_,rfl,rfl,SqL.of (sH _ _ (s1 _ _ hol2)),a0y j (by omega) hov,ot,_,rfl,SqT.of (sH _ _ (s1 _ _ hot)),rfl,_,_,rfl,_,_,rfl,rfl,?_⟩
   subst hb2';refine b2n λ b2' hb2'=>?_
   refine⟨_,rfl,_,rfl,kn,_,rfl,hgk,Ka d.1,_,rfl,SqT.of (hP.tup F a5),rfl,_,_,rfl,_,_,rfl,rfl,?_⟩
   subst hb2';refine b2n λ b2' hb2'=>?_
   refine⟨_,rfl,_,rfl,_,_,rfl,rfl,a,ns,_,rfl,sH.seq (s1.seq ha),by omega,λ cz=>?_⟩
   subst hb2';refine b2n λ b2' hb2'=>?_
   have notin:∀ nn∈mk,d.1 ∉ nn:=λ nn hnn z=>by
    obtain⟨e,he,e1,e2⟩:=(hP.mks nn hnn).2 d.1 z
    have:e=d:=b7i g2 he hd e1
    subst this
    omega
   refine⟨_,rfl,d.2.2,rfl,by omega,by omega,a2h (lo:=0) (n:=d.2.2.toNat) (λ i σ H3=>∃ (x13 x14:Option V) (xs:Int->List V) (lk:Int->List Lk) (fp:Int->List Addr),σ=[some (.ref a),some (.ref dl),some (.ref ol),some (.ref Dk),some (.ref st),some (.ref se),some (.ref kn),some (.int d.1),some (.str d.2.1),some (.int d.2.2),some (.int (0+(j:Int))),some (.int g),some (.int cz),x13,x14,none]/\PSt ds ks H0 Sa st L M S [m0,m1,m2,m3] (λ n=>(cnt os j n:Int)) (λ e=>lkB e (cnt os j e.1)+if e.1=d.1 then d2c d g i else 0) j H3 ls mk skv xs lk fp)
    ⟨x13,x14,xs,lk,fp,rfl,hP.count (Nat.le_refl _) (λ e he h=>h) (λ e he=>?_) (λ _ _ _ _=>rfl)⟩ ?_ ?_⟩
   ·have:=d2a (d:=d) (g:=g) 0
    show lkB e (cnt os j e.1)<=lkB e (cnt os j e.1)+if e.1=d.1 then d2c d g 0 else 0
    split<;>omega
   ·intro i σ H3 hi hJ'
    refine d6k λ G' hG'=>?_
    obtain⟨x13,x14,xs,lk,fp,rfl,hP3⟩:=hJ'
    refine hG' ?_
    refine d0n λ D3' hD3'=>?_
    have sH3:=old hP3
    refine⟨_,rfl,_,rfl,d.2.1,_,rfl,_,rfl,rfl,_,rfl,b1n (λ e=>?_) (λ e=>?_)⟩
    ·have e':a3e d.2.1 (0+(i:Int))=g:=by
      have:=of_decide_eq_true e
      exact V.int.inj this
     have hse3:=hP3.dict F hsv seS
     refine⟨_,rfl,_,rfl,st,_,rfl,hP3.sta.last,_,rfl,_,rfl,_,_,rfl,rfl,cz,_,rfl,_,rfl,rfl,Dk,L,ks,ls,_,_,rfl,sH3 _ _ hk,hP3.sta.h1,⟨gk1,gk2⟩,hP3.sta.n1,λ v H4 l f4 s4 tf nf ff lo=>?_⟩
     have hP4:=hP3.same s4
     have hgs:b3y H4 se (.int d.1) (some (.ref (Sa d.1))):=by
      have:=b3y.k (k:=Sum.inl d.1) (s4 _ _ hse3)
      rw[a1] at this
      exact this
     have hsd:=(hP4.seen d hd).1
     have hln:(xs d.1).length < sizeLine:=by
      have h1:=(hP4.seen d hd).2.1.len
      have h2:=hP3.few d hd
      rw[List.length_map] at h1
      have h3:=e5g (d:=d) (c:=(cnt os j d.1:Int)) b4
      have h4:d2c d g i<=8:=by
       unfold d2c
       split
       ·split<;>omega
       ·split<;>omega
      rw[if_pos rfl] at h2
      omega
     refine⟨_,rfl,_,rfl,se,_,rfl,hgs,.inl ⟨rfl,_,SqL.of hsd⟩,_,rfl,Sa d.1,xs d.1,_,rfl,rfl,hsd,hln,λ H5 h5 k5=>?_⟩
     subst hD3'
     refine⟨_,_,_,_,_,rfl,hP3.look F hd s4 tf nf ff lo h5 k5 notin ?_ λ e he hne=>?_⟩
     ·rw[if_pos rfl,if_pos rfl]
      have:=e8d e'
      omega
     ·rw[if_neg hne,if_neg hne]
      exact Int.le_refl _
    ·subst hD3'
     refine⟨_,_,xs,lk,fp,rfl,hP3.count (Nat.le_refl _) (λ e he h=>h) (λ e he=>?_) (λ _ _ _ _=>rfl)⟩
     have:=e0n (d:=d) (g:=g) (i:=i)
     split<;>omega
   intro σ H3 hJ'
   refine d6k λ G' hG'=>?_
   obtain⟨x13,x14,xs,lk,fp,rfl,hP3⟩:=hJ'
   refine hG' ?_
   subst hb2'
   have hcn:=e1t eo
   have hlook:∀ e∈ds,(lkB e (cnt os j e.1)+if e.1=d.1 then d2c d g d.2.2.toNat else 0)<=lkB e (cnt os (j+1) e.1):=λ e he=>by
    rw[hcn]
    by_cases z:e.1=d.1
    ·have:e=d:=b7i g2 he hd z
     subst this
     rw[if_pos rfl,if_pos rfl,<-hg]
     exact e3n b4 g0
    ·rw[if_neg z,if_neg (λ y=>z y.symm)]
     exact Int.le_of_eq (by simp)
   have hcmk:∀ nn∈mk,∀ n∈nn,(cnt os (j+1) n:Int)=cnt os j n:=λ nn hnn n hn=>by
    rw[hcn,if_neg (λ z=>notin nn hnn (by rw[z];exact hn))]
    simp
   refine⟨λ σ H4=>∃ (x13 x14:Option V) (skv':List (Key×V)),σ=[some (.ref a),some (.ref dl),some (.ref ol),some (.ref Dk),some (.ref st),some (.ref se),some (.ref kn),some (.int d.1),some (.str d.2.1),some (.int d.2.2),some (.int (0+(j:Int))),some (.int g),some (.int cz),x13,x14,none]/\PSt ds ks H0 Sa st L M S [m0,m1,m2,m3] (λ n=>(cnt os (j+1) n:Int)) (λ e=>lkB e (cnt os (j+1) e.1)) (j+1) H4 ls mk skv' xs lk fp,?_,?_⟩
   ·refine⟨_,rfl,_,rfl,_,rfl,d.2.1,d.2.2,rfl,rfl,_,rfl,b1n (λ e=>?_) (λ e=>?_)⟩
    ·refine⟨_,rfl,st,_,rfl,hP3.sta.last,L,_,rfl,.inl (SqL.of hP3.sta.h1),λ so hso=>?_⟩
     have s4:=Same.upd (o:=HO.lst (ls.map V.int)) hso
     have hP4:=hP3.same s4
     refine⟨_,rfl,st,_,rfl,hP4.sta.stood,_,rfl,S,_,rfl,.inl ⟨skv,Sum.inl d.1,hP4.sta.h3,rfl,?_,rfl⟩,_,_,a6v skv (Sum.inl d.1) (.ref so),rfl,?_⟩
     ·have:=hP3.slen
      omega
     ·refine(hP3.stand F hd s4 hso a0b (c':=λ n=>(cnt os (j+1) n:Int)) (λ e he h=>?_) hcmk).count (Nat.le_refl _) (λ e he h=>h) hlook (λ _ _ _ _=>rfl)
      by_cases z:e.1=d.1
      ·exact .inl z
      ·refine .inr ?_
       have h':a2j e.2.1 e.2.2 < (cnt os (j+1) e.1:Int):=h
       rw[hcn,if_neg (λ y=>z y.symm)] at h'
       simpa using h'
    ·have e':¬ g=a2j d.2.1 d.2.2:=λ z=>e (decide_eq_true (congrArg V.int z))
     refine⟨_,_,skv,rfl,hP3.count (Nat.le_succ _) (λ f hf h=>?_) hlook hcmk⟩
     have h':a2j f.2.1 f.2.2 < (cnt os (j+1) f.1:Int):=h
     rw[hcn] at h'
     by_cases z:f.1=d.1
     ·have:f=d:=b7i g2 hf hd z
      subst this
      rw[if_pos rfl] at h'
      show a2j f.2.1 f.2.2 < (cnt os j f.1:Int)
      omega
     ·rw[if_neg (λ y=>z y.symm)] at h'
      simpa using h'
   rintro σ H4 ⟨x13,x14,skv',rfl,hP4⟩
   refine⟨_,rfl,_,rfl,_,rfl,d.2.1,d.2.2,rfl,_,_,rfl,rfl,rfl,_,rfl,b1n (λ e=>?_) (λ e=>?_)⟩
   ·have e':g=a0q d.2.1 d.2.2 - 1:=V.int.inj (of_decide_eq_true e)
    have hcd:(cnt os (j+1) d.1:Int)=a0q d.2.1 d.2.2:=by
     rw[hcn,if_pos rfl]
     omega
    have hfl:=d3m (w:=d.2.1) b4
    obtain⟨so,sl,hso,hsl,hsl4⟩:=hP4.stood d hd (by show a2j d.2.1 d.2.2 < (cnt os (j+1) d.1:Int);omega)
    have hso0:=(a2t hsl).1
    refine⟨_,rfl,_,rfl,_,rfl,cz,9,rfl,_,rfl,st,L,M,S,so,[m0,m1,m2,m3],ls,sl,mk,skv',d.1,_,d.2.1,rfl,hP4.sta,hso,(a2t hsl).2,hsl4,?_,?_,λ nn hnn=>?_,λ H5 ls' mk' hS5 k5 tn=>?_⟩
    ·exact ne2 hso0 (s2 _ _ hStaG.h1)
    ·exact λ z=>by obtain⟨xx,ex⟩:=hms8 so z;exact ne2 hso0 (s2 _ _ ex) rfl
    ·have:=hP3.mlen nn hnn
     omega
    ·subst hD'
     exact⟨_,_,_,_,_,_,_,_,ls',mk',skv',xs,lk,fp,rfl,hP4.keep F hd hS5 k5 tn notin hcd λ nn hnn=>Nat.lt_succ_of_le (hP3.mlen nn hnn)⟩
   ·subst hD'
    exact⟨_,_,_,_,_,_,_,_,ls,mk,skv',xs,lk,fp,rfl,hP4⟩
  intro σ H2 hJ'
  refine d6k λ G' hG'=>?_
  obtain⟨x7,x8,x9,x10,x11,x12,x13,x14,ls,mk,skv,xs,lk,fp,rfl,hP⟩:=hJ'
  refine hG' ?_
  subst hb';refine b2n λ b' hb'=>?_
  have sH:=old hP
  have hD2:=hP.sta
  have ek4:∀ i,i < 4->∃ k nn m,ks[i]?=some k/\mk[i]?=some nn/\[m0,m1,m2,m3][i]?=some m:=λ i hi=>⟨_,_,_,List.getElem?_eq_getElem (by omega),List.getElem?_eq_getElem (by rw[hD2.n3];exact hi),List.getElem?_eq_getElem (show i < [m0,m1,m2,m3].length from hi)⟩
  have hsep:∀ {i:Nat} {m:Addr},[m0,m1,m2,m3][i]?=some m->(∀ d∈ds,Sa d.1≠m/\m ∉ fp d.1)/\H1 m=none:=λ {i m} e=>by
   have hm:=List.mem_of_getElem? e
   refine⟨λ d hd=>⟨λ z=>(F.sep d hd).2.1 (z ▸ hm),λ z=>?_⟩,?_⟩
   ·have h1:=(hP.seen d hd).2.2.2 m z
    obtain⟨xx,ex⟩:=F.hms m hm
    rw[h1] at ex
    cases ex
   ·simp only [List.mem_cons,List.not_mem_nil,or_false] at hm
    rcases hm with rfl | rfl | rfl | rfl
    ·exact hf2
    ·exact hf3
    ·exact hf4
    ·exact hf5
  refine⟨4,rfl,by decide,by decide,f1e (k:=1) (fs:=[some (.ref Dk),some (.ref st)]) 4 (λ i=>[m0,m1,m2,m3][i]?.toList) (λ i=>(e4e ks mk i).map a4z) rfl (by decide) (λ i j hij hj b hb hb2=>?_) (λ i hi b hb=>?_) (λ i hi H3 ts R s3 hts cs cn=>?_) (λ D H3 ys f hD s3 hd3 ht3 nf fr3 hDf=>?_)⟩
  ·rw[Option.mem_toList] at hb hb2
   obtain⟨a1,a2⟩:=List.getElem?_eq_some_iff.mp hb
   obtain⟨a3,a4⟩:=List.getElem?_eq_some_iff.mp hb2
   have:=(List.getElem_inj hD2.nd).mp (a2.trans a4.symm)
   omega
  ·rw[Option.mem_toList] at hb
   obtain⟨k,nn,m,e1,e2,e3⟩:=ek4 i hi
   exact⟨_,hD2.hm i b nn hb e2⟩
  ·obtain⟨t,rfl⟩:=List.length_eq_one_iff.mp hts
   obtain⟨k,nn,m,e1,e2,e3⟩:=ek4 i hi
   have hS3:=hD2.same s3
   have hm2:=hD2.hm i m nn e3 e2
   have ai:(0+(i:Int))=((i:Nat):Int):=by omega
   have hvm:atI ([m0,m1,m2,m3].map V.ref) (0+(i:Int))=some (.ref m):=a0y i ai (by rw[List.getElem?_map,e3];rfl)
   have hvk:atI (ks.map V.int) (0+(i:Int))=some (.int k):=a0y i ai (by rw[List.getElem?_map,e1];rfl)
   refine⟨_,rfl,st,_,rfl,hS3.makers,_,rfl,M,_,_,.ref m,rfl,rfl,SqL.of hS3.h2,hvm,(by show 0<=sizeLine;decide),λ el hel=>?_⟩
   have s4:=s3.trans (Same.upd (o:=HO.lst []) hel)
   refine⟨.list (nn.map PyData.int),.list [],.lst (SqL.of (s4 _ _ hm2)) (d4g nn),.lst (SqL.of a0b) .nil,d2h nn,rfl,_,rfl,?_⟩
   by_cases hne:nn=[]
   ·subst hne
    have en:e4e ks mk i=none:=by unfold e4e;rw[e1,e2]
    exact cn (by rw[en];rfl) [_] _ rfl (Same.upd hel)
   ·rw[e6i hne]
    have hS4:=hD2.same s4
    have en:=e7y e1 e2 hne
    refine⟨_,rfl,_,rfl,Dk,_,_,_,rfl,rfl,SqL.of (s4 _ _ (sH _ _ hk)),hvk,_,rfl,st,_,rfl,hS4.makers,_,rfl,M,_,_,.ref m,rfl,rfl,SqL.of hS4.h2,hvm,(by show 2<=sizeLine;decide),λ tt htt=>?_⟩
    have s5:=Same.upd (o:=HO.tup [.int k,.ref m]) htt
    have ttm:tt≠m:=ne2 htt (s4 _ _ hm2)
    refine cs (a4z (k,nn)) _ [tt,m] [_] _ (by rw[en];rfl) rfl ((Same.upd hel).trans s5) ?_ ?_ ?_
    ·exact .tup a0b (TFs.cons (f:=[]) (g:=[m]) (.int k) (TFs.one (.lst (f:=[]) (s5 _ _ (s4 _ _ hm2)) (TFs.ints nn))))
    ·exact List.nodup_cons.mpr ⟨λ z=>ttm (List.mem_singleton.mp z),List.pairwise_singleton _ _⟩
    ·intro b hb
     rcases List.mem_cons.mp hb with y | y
     ·rw[y];exact .inl ((Same.upd hel).free htt)
     ·rw[List.mem_singleton.mp y]
      exact .inr (by rw[Option.mem_toList];exact e3)
  have emk:(List.range 4).filterMap (λ i=>(e4e ks mk i).map a4z)=(d5x ks mk).map a4z:=by
   unfold d5x
   rw[List.map_filterMap]
  rw[emk] at ht3
  have sH3:=sH.trans s3
  subst hb'
  have hP3:=hP.same s3
  refine⟨_,rfl,dl,rfl,⟨_,SqL.of (sH3 _ _ (s1 _ _ hdl))⟩,f1u (k:=3) (fs:=[some (.ref se)]) ds (λ d=>Sa d.1::fp d.1) e4n (λ d=>a1p (d.1,d.2.1,lk d.1)) rfl (sH3 _ _ (s1 _ _ hdl)) ((htd.same s1).same sH3) (by omega) ?_ (λ d hd b hb=>?_) (λ d hd H4 ts v R s4 hts tr cs=>?_) (λ D2 H4 zs f2 hD2' s4 hd4 ht4 nf2 fr4 hDf2=>?_)⟩
  ·have hup:ds.Pairwise λ a c=>a.1 < c.1:=List.pairwise_map.mp g2
   refine List.Pairwise.imp_of_mem (λ {d e} hd he hlt b hb hb2=>?_) hup
   have ne:d.1≠e.1:=Int.ne_of_lt hlt
   have sl:∀ {x y:Drn},x∈ds->y∈ds->Sa x.1 ∉ fp y.1:=λ {x y} hx hy z=>by
    have h1:=(hP.seen y hy).2.2.2 _ z
    obtain⟨xx,ex⟩:=F.hSa x hx
    rw[h1] at ex
    cases ex
   rcases List.mem_cons.mp hb with y | y
   ·rcases List.mem_cons.mp hb2 with x | x
    ·exact ne (F.inj d hd e he (x.symm.trans y))
    ·exact sl he hd (y ▸ x)
   ·rcases List.mem_cons.mp hb2 with x | x
    ·exact sl hd he (x ▸ y)
    ·exact hP.dis d hd e he ne b x y
  ·obtain⟨q1,q2,_⟩:=hP3.seen d hd
   rcases List.mem_cons.mp hb with y | y
   ·rw[y];exact⟨_,q1⟩
   ·rcases q2.live b y with ⟨xx,ex⟩ | ⟨xx,ex⟩
    ·exact⟨_,ex⟩
    ·exact⟨_,ex⟩
  ·obtain⟨t1,t2,t3,rfl⟩:∃ t1 t2 t3,ts=[t1,t2,t3]:=My.us3 hts
   obtain⟨pt,rfl,hpt⟩:=tr.drn
   have hsv4:=s4 _ _ (s3 _ _ (hP.dict F hsv seS))
   have hgs:b3y H4 se (.int d.1) (some (.ref (Sa d.1))):=by
    have:=b3y.k (k:=Sum.inl d.1) hsv4
    rw[(hal d hd).1] at this
    exact this
   obtain⟨hs1,hs2,hs3,hs4⟩:=hP3.seen d hd
   refine⟨pt,_,rfl,SqT.of hpt,rfl,_,_,rfl,_,_,rfl,_,_,rfl,rfl,_,rfl,_,rfl,_,rfl,_,rfl,se,_,rfl,hgs,(by show 3<=sizeLine;decide),λ tt htt=>?_⟩
   have s5:=Same.upd (o:=HO.tup [.int d.1,.str d.2.1,.ref (Sa d.1)]) htt
   have nSa:Sa d.1 ∉ fp d.1:=λ z=>by
    obtain⟨xx,ex⟩:=F.hSa d hd
    rw[hs4 _ z] at ex
    cases ex
   have ntt:tt ∉ Sa d.1::fp d.1:=λ z=>by
    rcases List.mem_cons.mp z with y | y
    ·exact ne2 htt (s4 _ _ hs1) y
    ·exact(hs2.same s4).not htt y
   refine cs _ (tt::Sa d.1::fp d.1) [_,_,_] _ rfl s5 ?_ (List.nodup_cons.mpr ⟨ntt,List.nodup_cons.mpr ⟨nSa,hs3⟩⟩) (λ b hb=>?_)
   ·exact .tup a0b (TFs.cons (f:=[]) (.int _) (TFs.cons (f:=[]) (.str _) (TFs.one (.lst (s5 _ _ (s4 _ _ hs1)) ((hs2.same s4).same s5)))))
   ·rcases List.mem_cons.mp hb with y | y
    ·rw[y];exact .inl htt
    ·exact .inr y
  refine⟨_,rfl,(by show 2<=sizeLine;decide),λ z hz=>?_⟩
  have s5:=Same.upd (o:=HO.tup [.ref D2,.ref D]) hz
  have s45:=s4.trans s5
  have em:ds.map (λ d=>a1p (d.1,d.2.1,lk d.1))=(ds.map λ d=>(d.1,d.2.1,lk d.1)).map a1p:=by rw[List.map_map];rfl
  rw[em] at ht4
  have zD2:z≠D2:=ne2 hz hd4
  have zD:z≠D:=ne2 hz (s4 _ _ hd3)
  have DD:D2≠D:=ne2 hD2' hd3
  have zf:z ∉ f:=λ y=>(ht3.same s4).not hz y
  have zf2:z ∉ f2:=λ y=>ht4.not hz y
  have liveO:∀ d∈ds,∀ b∈Sa d.1::fp d.1,H2 b≠none:=λ d hd b hb e=>by
   obtain⟨q1,q2,_⟩:=hP.seen d hd
   rcases List.mem_cons.mp hb with y | y
   ·rw[y,q1] at e;cases e
   ·exact q2.not e y
  have D2f:D2 ∉ f:=λ y=>ht3.not hD2' y
  have Df2:D ∉ f2:=λ y=>by
   rcases fr4 D y with e | ⟨d,hd,e⟩
   ·rw[hd3] at e;cases e
   ·exact liveO d hd D e hD
  have ff2:∀ x∈f,x ∉ f2:=λ x hx y=>by
   rcases fr4 x y with e | ⟨d,hd,e⟩
   ·exact ht3.not e hx
   ·rcases fr3 x hx with e2 | ⟨i,hi,e2⟩
    ·exact liveO d hd x e e2
    ·rw[Option.mem_toList] at e2
     have:=(hsep e2).1 d hd
     rcases List.mem_cons.mp e with y2 | y2
     ·exact this.1 y2.symm
     ·exact this.2 y2
  have frees:∀ b,H1 b=none->H b=none:=λ b e=>s1.free e
  refine q _ _ (ds.map (λ d=>(d.1,d.2.1,lk d.1)),d5x ks mk) (z::((D2::f2)++(D::f))) ((s1.trans sH3).trans s45) (.tup a0b (TFs.cons (.lst (s5 _ _ hd4) (ht4.same s5)) (TFs.one (.lst (s45 _ _ hd3) (ht3.same s45))))) ?_ (λ b hb=>?_) ?_
  ·refine List.nodup_cons.mpr ⟨λ y=>?_,nd2.mpr ⟨List.nodup_cons.mpr ⟨hDf2,nf2⟩,List.nodup_cons.mpr ⟨hDf,nf⟩,λ x hx y=>?_⟩⟩
   ·rcases List.mem_append.mp y with y | y
    ·rcases List.mem_cons.mp y with y | y
     ·exact zD2 y
     ·exact zf2 y
    ·rcases List.mem_cons.mp y with y | y
     ·exact zD y
     ·exact zf y
   ·rcases List.mem_cons.mp hx with x1 | x1
    ·rcases List.mem_cons.mp y with y | y
     ·exact DD (y.symm.trans x1)
     ·exact Df2 (x1 ▸ y)
    ·rcases List.mem_cons.mp y with y | y
     ·exact D2f (y ▸ x1)
     ·exact ff2 x x1 y
  ·have f1:∀ b,H2 b=none->H b=none:=λ b e=>frees b (sH.free e)
   rcases List.mem_cons.mp hb with y | y
   ·rw[y];exact f1 z (s3.free (s4.free hz))
   rcases List.mem_append.mp y with y | y
   ·rcases List.mem_cons.mp y with y | y
    ·rw[y];exact f1 D2 (s3.free hD2')
    ·rcases fr4 b y with e | ⟨d,hd,e⟩
     ·exact f1 b (s3.free e)
     ·rcases List.mem_cons.mp e with e | e
      ·rw[e];exact frees _ (sG.free (hal d hd).2.2.1)
      ·exact frees b (sG.free (s2.free ((hP.seen d hd).2.2.2 b e)))
   ·rcases List.mem_cons.mp y with y | y
    ·rw[y];exact f1 D hD
    ·rcases fr3 b y with e | ⟨i,hi,e⟩
     ·exact f1 b e
     ·rw[Option.mem_toList] at e
      exact frees b (hsep e).2
  ·have en:(ds.map λ d=>((d.1,d.2.1,lk d.1):Dl)).map (·.1)=ds.map (·.1):=by rw[List.map_map];rfl
   refine⟨⟨by rw[List.length_map];exact g1,by rw[en];exact List.Pairwise.imp (λ {a b} h=>Int.ne_of_lt h) g2,λ d hd=>?_⟩,(by unfold c5l;rw[en];exact g2),λ m hm n hn=>?_,List.Pairwise.imp (λ {a b} h=>Int.ne_of_lt h) (e1h gk2),?_,λ m hm=>?_,λ d hd l hl=>?_⟩
   ·obtain⟨e,he,rfl⟩:=List.mem_map.mp hd
    have h1:=hP.few e he
    have h2:=e5g (d:=e) (c:=(cnt os ((oxs.length:Nat):Int).toNat e.1:Int)) (g3 e he).2.2.2.1
    have h3:=(g3 e he).2.2.2.2
    refine⟨(g3 e he).2.2.1,?_⟩
    show (lk e.1).length<=40
    omega
   ·obtain⟨i,hi,e⟩:=List.mem_filterMap.mp hm
    obtain⟨r1,r2,r3⟩:=b5g e
    obtain⟨d,hd,e1,_⟩:=(hP.mks _ (List.mem_of_getElem? r2)).2 n hn
    exact⟨_,List.mem_map.mpr ⟨d,hd,rfl⟩,e1⟩
   ·unfold d5x
    exact Nat.le_trans (List.length_filterMap_le _ _) (by rw[List.length_range];exact Nat.le_refl _)
   ·obtain⟨i,hi,e⟩:=List.mem_filterMap.mp hm
    obtain⟨r1,r2,r3⟩:=b5g e
    exact⟨r3,(by have:=hP.mlen _ (List.mem_of_getElem? r2);omega)⟩
   ·obtain⟨e,he,rfl⟩:=List.mem_map.mp hd
    exact(hP.lks e he l hl).2.1
--@STAGE
def e1w:Sp:=λ vs H Q _=>∃ (v:V) (p:Ps),vs=[v]/\Tr H v (a3j p)/\p.1.length<=8/\(∀ d∈p.1,d.2.2.length<=40)/\p.2.length<=100/\∀ u H',Same H H'->Tr H' u (a3j p)->Q u H'
theorem d5n (T:Tx K mg):a4j P w K mg base CX0 1 T.b5b T.b5h ["_law_past_here"] e1w:=by
 refine T.c2t.ok c5b (λ vs H Q E h=>?_) (λ cdv A outer s H vs Q E hr h=>?_)
 ·obtain⟨v,p,rfl,_⟩:=h
  rfl
 ·obtain⟨v,⟨dx,mx⟩,rfl,ht,hc1,hc2,hc3,q⟩:=h
  obtain⟨a,b,c,xs,ys,rfl,ha,hb,hx,hc,hy⟩:=a5r ht
  refine⟨_,(a0e (c5w (i:=1) ["_law_number","_law_word","_law_looks"] rfl c5b.nd rfl rfl (a3c.mk (fv:=[]) (js:=[]) rfl (by decide +kernel) (by decide +kernel) (by decide +kernel) a2n rfl (by decide +kernel)) (a1t (a0m a0w (pv 0) a0c (λ _ _=>rfl))) rfl (λ _ _ _ _ _=>(c2j (K:=K) (n:=3) rfl rfl (a0s (a0j (i:=0) (show (["_law_number","_law_word","_law_looks"]:List Str).Nodup by decide +kernel) rfl (Or.inl rfl)) (a0s (a0j (i:=1) (show (["_law_number","_law_word","_law_looks"]:List Str).Nodup by decide +kernel) rfl (Or.inl rfl)) (a0s (a0j (i:=2) (show (["_law_number","_law_word","_law_looks"]:List Str).Nodup by decide +kernel) rfl (Or.inl rfl)) a4n))))) (λ _ _ _ _ _=>a9r) (λ _ _ _ _ _=>(a2b (a0a (pv 0) (a0a (pv 1) (a0a (a3k ["_law_look_here"] rfl (a3c.mk (fv:=[]) (js:=[]) rfl (by decide +kernel) (by decide +kernel) (by decide +kernel) a2n rfl (by decide +kernel)) (e1s (K:=K) rfl (pv 2)) (λ _ _ _ _ _=>(a0j (i:=0) (show (["_law_look_here"]:List Str).Nodup by decide +kernel) rfl (Or.inl rfl))) (λ _ _ _ _ _=>a9r) (λ _ _ _ _ _=>(a2i (b6p (K:=K) rfl) (by rfl) T.b4b boot_list (a0a (pv 0) a0d)))) a0d))))))
   (a0g (a0u (a2b (a0a (pv 1) (a0a (a3k ["_law_key","_law_numbers"] rfl (a3c.mk (fv:=[]) (js:=[]) rfl (by decide +kernel) (by decide +kernel) (by decide +kernel) a2n rfl (by decide +kernel)) (a1t (a0m a0w (pv 0) a0c (λ _ _=>rfl))) (λ _ _ _ _ _=>(c2j (K:=K) (n:=2) rfl rfl (a0s (a0j (i:=0) (show (["_law_key","_law_numbers"]:List Str).Nodup by decide +kernel) rfl (Or.inl rfl)) (a0s (a0j (i:=1) (show (["_law_key","_law_numbers"]:List Str).Nodup by decide +kernel) rfl (Or.inl rfl)) a4n)))) (λ _ _ _ _ _=>a9r) (λ _ _ _ _ _=>(a2b (a0a (pv 0) (a0a (a2i (b6p (K:=K) rfl) (by rfl) T.b4b boot_list (a0a (pv 1) a0d)) a0d))))) a0d)))))),?_⟩
  dsimp only at hx hy hc1 hc2 hc3
  have z9:(20000:Nat)<=sizeLine:=by decide
  have old:∀ {HA HB:Hp},Same H HB->Same H (c7k H HA HB):=λ s b o e=>a4k.mpr ⟨s _ _ e,λ ⟨h1,_⟩=>by rw[e] at h1;cases h1⟩
  refine⟨_,rfl,a,_,_,_,rfl,rfl,SqT.of ha,a0i (j:=0) rfl,b,rfl,⟨_,SqL.of hb⟩,e2t (k:=3) (fs:=[]) H (Same.refl H) dx a1p (λ d=>some (a1p d)) rfl hb hx (by omega) (λ d hd H2 ts v R s2 hts tr cs _=>?_) (λ D H2 zs hD s2 hd2 ht2=>?_)⟩
  ·obtain⟨t1,t2,t3,rfl⟩:∃ t1 t2 t3,ts=[t1,t2,t3]:=My.us3 hts
   obtain⟨p1,p2,ps,rfl,hp1,hp2,hps⟩:=a6k tr
   have hlk:=hc2 d hd
   refine⟨p1,_,rfl,SqT.of (s2 _ _ hp1),rfl,_,_,rfl,_,_,rfl,_,_,rfl,rfl,_,rfl,_,rfl,_,rfl,p2,rfl,⟨_,SqL.of (s2 _ _ hp2)⟩,e2t (k:=1) (fs:=[]) H s2 d.2.2 a7m (λ l=>some (a7m l)) rfl (s2 _ _ hp2) hps (by omega) (λ l hl H3 ts v R s3 hts tr cs2 _=>?_) (λ D3 H3 us hD3 s3 hd3 ht3=>?_)⟩
   ·obtain⟨t,rfl⟩:=List.length_eq_one_iff.mp hts
    obtain⟨l1,ls,rfl,hl1,hls⟩:=b1a tr
    have s23:=s2.trans s3
    refine⟨_,rfl,l1,_,rfl,.inl (SqL.of (s23 _ _ hl1)),λ nl hnl=>?_⟩
    have s4:=Same.upd (o:=HO.lst ls) hnl
    exact cs2 _ _ [_] _ rfl rfl s4 (.lst (b3x hnl a0b) (hls.same (old (s23.trans s4))))
   ·rw[b7e] at ht3
    refine⟨(by show 3<=sizeLine;decide),λ z hz=>?_⟩
    have s4:=Same.upd (o:=HO.tup [.int d.1,.str d.2.1,.ref D3]) hz
    exact cs _ _ [_,_,_] _ rfl rfl (s3.trans s4) (.tup (b3x (s3.free hz) a0b) (.cons (.int _) (.cons (.str _) (.cons (.lst (b3x hD3 (s4 _ _ hd3)) (ht3.same λ b o e=>by
     obtain⟨e1,e2⟩:=a4g e
     obtain⟨e3,e4⟩:=a4k.mp e2
     exact a4k.mpr ⟨s4 _ _ e3,e4⟩)) .nil))))
  rw[b7e] at ht2
  have ht2':Trs H2 zs (dx.map a1p):=(ht2.same b6r).same λ b o e=>(a4k.mp e).1
  refine⟨_,rfl,_,rfl,a,_,_,_,rfl,rfl,SqT.of (s2 _ _ ha),a0i (j:=1) rfl,c,rfl,⟨_,SqL.of (s2 _ _ hc)⟩,e2t (k:=2) (fs:=[]) H2 (Same.refl H2) mx a4z (λ d=>some (a4z d)) rfl (s2 _ _ hc) (hy.same s2) (by omega) (λ m hm H3 ts v R s3 hts tr cs _=>?_) (λ D3 H3 us hD3 s3 hd3 ht3=>?_)⟩
  ·obtain⟨t1,t2,rfl⟩:∃ t1 t2,ts=[t1,t2]:=My.us2 hts
   obtain⟨p1,p2,rfl,hp1,hp2⟩:=c1b tr
   refine⟨p1,_,rfl,SqT.of (s3 _ _ hp1),rfl,_,_,rfl,_,_,rfl,rfl,_,rfl,_,rfl,p2,_,rfl,.inl (SqL.of (s3 _ _ hp2)),λ nl hnl=>⟨(by show 2<=sizeLine;decide),λ z hz=>?_⟩⟩
   have s4:=Same.upd (o:=HO.lst (m.2.map V.int)) hnl
   have s5:=Same.upd (o:=HO.tup [.int m.1,.ref nl]) hz
   exact cs _ _ [_,_] _ rfl rfl (s4.trans s5) (.tup (b3x (s4.free hz) a0b) (.cons (.int _) (.cons (.lst (b3x hnl (s5 _ _ a0b)) (Trs.ofInts _)) .nil)))
  rw[b7e] at ht3
  have ht3':Trs H3 us (mx.map a4z):=(ht3.same b6r).same λ b o e=>(a4k.mp e).1
  refine⟨(by show 2<=sizeLine;decide),λ z hz=>?_⟩
  have s5:=Same.upd (o:=HO.tup [.ref D,.ref D3]) hz
  exact q _ _ ((s2.trans s3).trans s5) (.tup a0b (.cons (.lst (s5 _ _ (s3 _ _ hd2)) (ht2'.same (s3.trans s5))) (.cons (.lst (s5 _ _ hd3) (ht3'.same s5)) .nil)))
--@STAGE
theorem b1x {ds:List PyData} (h:∀ d∈ds,d.canLay0=true):PyData.canLayAll0 ds=true:=by
 induction ds with
 | nil=>rfl
 | cons d r ih =>
  show (d.canLay0 && PyData.canLayAll0 r)=true
  rw[h d List.mem_cons_self,ih λ e he=>h e (List.mem_cons_of_mem _ he)]
  rfl
theorem a6w {ds:List PyData} {n:Nat} (h:∀ d∈ds,d.depth<=n):PyData.depthAll ds<=n:=by
 induction ds with
 | nil=>exact Nat.zero_le _
 | cons d r ih =>
  have h1:=h d List.mem_cons_self
  have h2:=ih λ e he=>h e (List.mem_cons_of_mem _ he)
  show max d.depth (PyData.depthAll r)<=n
  omega
theorem d3u (l:Lk):(a7m l).canLay0=true/\(a7m l).depth<=2:=by
 refine⟨b1x λ d hd=>?_,?_⟩
 ·obtain⟨p,_,rfl⟩:=List.mem_map.mp hd
  rfl
 ·have:PyData.depthAll (l.map b4p)<=1:=a6w λ d hd=>by
   obtain⟨p,_,rfl⟩:=List.mem_map.mp hd
   exact Nat.le_refl 1
  show PyData.depthAll (l.map b4p)+1<=2
  omega
theorem b9m {d:Dl} (h:d.2.1∈wds):(a1p d).canLay0=true/\(a1p d).depth<=4:=by
 have hs:∀ x∈wds,(PyData.str x).canLay0=true:=by decide +kernel
 refine⟨?_,?_⟩
 ·show (true && ((PyData.str d.2.1).canLay0 && (PyData.canLayAll0 (d.2.2.map a7m) && true)))=true
  rw[hs _ h,b1x λ e he=>by obtain⟨l,_,rfl⟩:=List.mem_map.mp he;exact(d3u l).1]
  rfl
 ·have:PyData.depthAll (d.2.2.map a7m)<=2:=a6w λ e he=>by
   obtain⟨l,_,rfl⟩:=List.mem_map.mp he
   exact(d3u l).2
  show max 0 (max 0 (max (PyData.depthAll (d.2.2.map a7m)+1) 0))+1<=4
  omega
theorem b9y (m:Mkr):(a4z m).canLay0=true/\(a4z m).depth<=2:=by
 refine⟨?_,?_⟩
 ·show (true && (PyData.canLayAll0 (m.2.map PyData.int) && true))=true
  rw[b1x λ e he=>by obtain⟨l,_,rfl⟩:=List.mem_map.mp he;rfl]
  rfl
 ·have:PyData.depthAll (m.2.map PyData.int)<=0:=a6w λ e he=>by
   obtain⟨l,_,rfl⟩:=List.mem_map.mp he
   exact Nat.le_refl 0
  show max 0 (max (PyData.depthAll (m.2.map PyData.int)+1) 0)+1<=2
  omega
theorem e2j {p:Ps} (h:∀ d∈p.1,d.2.1∈wds):(a3j p).canLay0=true/\(a3j p).depth < 7/\SeqAt.shaped (a3j p)=true:=by
 have h1:(a3j p).canLay0=true:=by
  show (PyData.canLayAll0 (p.1.map a1p) && (PyData.canLayAll0 (p.2.map a4z) && true))=true
  rw[b1x λ e he=>by obtain⟨d,hd,rfl⟩:=List.mem_map.mp he;exact(b9m (h d hd)).1,b1x λ e he=>by obtain⟨d,hd,rfl⟩:=List.mem_map.mp he;exact(b9y d).1]
  rfl
 have h2:(a3j p).depth < 7:=by
  have a1:PyData.depthAll (p.1.map a1p)<=4:=a6w λ e he=>by
   obtain⟨d,hd,rfl⟩:=List.mem_map.mp he
   exact(b9m (h d hd)).2
  have a2:PyData.depthAll (p.2.map a4z)<=2:=a6w λ e he=>by
   obtain⟨d,hd,rfl⟩:=List.mem_map.mp he
   exact(b9y d).2
  show max (PyData.depthAll (p.1.map a1p)+1) (max (PyData.depthAll (p.2.map a4z)+1) 0)+1 < 7
  omega
 refine⟨h1,h2,?_⟩
 unfold SeqAt.shaped
 rw[h1,decide_eq_true (by omega)]
 rfl
theorem a9u {H:Hp} {v:V} {p:Ps} {f:List Addr} (h:TF H v (a3j p) f):∃ a l m lv mv fl fm,v=.ref a/\f=a::(l::fl++(m::fm))/\H a=some (.tup [.ref l,.ref m])/\H l=some (.lst lv)/\TFs H lv (p.1.map a1p) fl/\H m=some (.lst mv)/\TFs H mv (p.2.map a4z) fm:=by
 cases h with
 | tup h r =>
  cases r with
  | cons h1 r =>
   cases r with
   | cons h2 r =>
    cases r
    cases h1 with
    | lst a1 b1 =>
     cases h2 with
     | lst a2 b2=>exact⟨_,_,_,_,_,_,_,rfl,by rw[List.append_nil],h,a1,b1,a2,b2⟩
theorem b7a {H:Hp} {v:V} {d:Dl} {f:List Addr} (h:TF H v (a1p d) f):∃ t L lv g,v=.ref t/\f=t::L::g/\H t=some (.tup [.int d.1,.str d.2.1,.ref L])/\H L=some (.lst lv)/\TFs H lv (d.2.2.map a7m) g:=by
 cases h with
 | tup h r =>
  cases r with
  | cons h1 r =>
   cases h1
   cases r with
   | cons h2 r =>
    cases h2
    cases r with
    | cons h3 r =>
     cases r
     cases h3 with
     | lst a1 b1=>exact⟨_,_,_,_,rfl,by rw[List.append_nil];rfl,h,a1,b1⟩
theorem d6b {H:Hp} {v:V} {m:Mkr} {f:List Addr} (h:TF H v (a4z m) f):∃ t c,v=.ref t/\f=[t,c]/\H t=some (.tup [.int m.1,.ref c])/\H c=some (.lst (m.2.map V.int)):=by
 cases h with
 | tup h r =>
  cases r with
  | cons h1 r =>
   cases h1
   cases r with
   | cons h2 r =>
    cases r
    cases h2 with
    | lst a1 b1 =>
     obtain⟨rfl,rfl⟩:=b1.ints_of
     exact⟨_,_,rfl,rfl,h,a1⟩
theorem d7t {α β:Type} {l:List (α×β)} {k:Nat} {x y:α×β} (h:l[k]?=some x) (e:y.1=x.1):(l.set k y).map (·.1)=l.map (·.1):=by
 rw[List.map_set,e]
 exact TFs.set_self (by rw[List.getElem?_map,h];rfl)
theorem GP.setD {p:Ps} (g:GP p) {k:Nat} {d d':Dl} (h:p.1[k]?=some d) (e:d'.1=d.1) (hw:d'.2.1∈wds) (hl:d'.2.2.length<=40) (h4:∀ l∈d'.2.2,l.length<=4):GP (p.1.set k d',p.2):=by
 have em:=d7t h e
 refine⟨⟨by rw[List.length_set];exact g.good.1,by show ((p.1.set k d').map (·.1)).Nodup;rw[em];exact g.good.2.1,λ x hx=>?_⟩,(by show ((p.1.set k d').map (·.1)).Pairwise (· < ·);rw[em];exact g.rise),λ r hr n hn=>?_,g.nk,g.many,g.makes,λ x hx=>?_⟩
 ·rcases List.mem_or_eq_of_mem_set hx with y | y
  ·exact g.good.2.2 x y
  ·rw[y];exact⟨hw,hl⟩
 ·obtain⟨x,hx,e2⟩:=g.inm r hr n hn
  have:n∈(p.1.set k d').map (·.1):=by rw[em];exact List.mem_map.mpr ⟨x,hx,e2⟩
  obtain⟨y,hy,e3⟩:=List.mem_map.mp this
  exact⟨y,hy,e3⟩
 ·rcases List.mem_or_eq_of_mem_set hx with y | y
  ·exact g.looks x y
  ·rw[y];exact h4
theorem GP.setM {p:Ps} (g:GP p) {k:Nat} {r r':Mkr} (h:p.2[k]?=some r) (e:r'.1=r.1) (h1:r'.2≠[]) (hl:r'.2.length<=100) (h4:∀ x∈r'.2,x∈r.2):GP (p.1,p.2.set k r'):=by
 have em:=d7t h e
 refine⟨g.good,g.rise,λ x hx n hn=>?_,(by show ((p.2.set k r').map (·.1)).Nodup;rw[em];exact g.nk),by rw[List.length_set];exact g.many,λ x hx=>?_,g.looks⟩
 ·rcases List.mem_or_eq_of_mem_set hx with y | y
  ·exact g.inm x y n hn
  ·rw[y] at hn
   exact g.inm r (List.mem_of_getElem? h) n (h4 n hn)
 ·rcases List.mem_or_eq_of_mem_set hx with y | y
  ·exact g.makes x y
  ·rw[y];exact⟨h1,hl⟩
theorem d6r {H H':Hp} {a l m k:Addr} {lv mv:List V} {fl fm:List Addr} {p:Ps} {i:Nat} {x':V} {d d':Dl} (ha:H a=some (.tup [.ref l,.ref m])) (hl:H l=some (.lst lv)) (tl:TFs H lv (p.1.map a1p) fl) (hm:H m=some (.lst mv)) (tm:TFs H mv (p.2.map a4z) fm) (nd:(a::(l::fl++(m::fm))).Nodup)
  (hd:p.1[i]?=some d) (hl':H' l=some (.lst (lv.set i x'))) (kp:∀ b o,b≠l->H b=some o->H' b=some o) (tx:∃ f',TF H' x' (a1p d') f'):Tr H' (.ref a) (a3j (p.1.set i d',p.2)):=by
 obtain⟨f',tx⟩:=tx
 obtain⟨n1,n2⟩:=List.nodup_cons.mp nd
 obtain⟨n3,n4,n5⟩:=nd2.mp n2
 obtain⟨n6,n7⟩:=List.nodup_cons.mp n3
 have al:a≠l:=λ z=>n1 (by rw[z];exact List.mem_append_left _ (.head _))
 have ml:∀ b∈m::fm,b≠l:=λ b hb z=>n5 b hb (by rw[z];exact .head _)
 obtain⟨x,f1,f2,f3,ex,ef,tf,put⟩:=tl.focus (i:=i) (d:=a1p d) (by rw[List.getElem?_map,hd];rfl)
 have t1:=put H' x' (a1p d') f' (λ b hb o eb=>kp b o (λ z=>n6 (by rw[<-z,ef];rcases List.mem_append.mp hb with y | y;exact List.mem_append_left _ y;exact List.mem_append_right _ (List.mem_append_right _ y))) eb) tx
 rw[<-List.map_set] at t1
 exact .tup (kp _ _ al ha) (.cons (.lst hl' t1.trs) (.cons (.lst (kp _ _ (ml m (.head _)) hm) (tm.fr λ b hb o eb=>kp b o (ml b (.tail _ hb)) eb).trs) .nil))
theorem e3m {H H':Hp} {a l m c:Addr} {lv mv:List V} {fl fm f1 f2 f3:List Addr} {p:Ps} {i:Nat} {x:V} {d d':Dl} (ha:H a=some (.tup [.ref l,.ref m])) (hl:H l=some (.lst lv)) (hm:H m=some (.lst mv)) (tm:TFs H mv (p.2.map a4z) fm) (nd:(a::(l::fl++(m::fm))).Nodup)
  (ex:lv[i]?=some x) (ef:fl=f1++(f2++f3)) (put:∀ H' x' d' f2',(∀ b∈f1++f3,∀ o,H b=some o->H' b=some o)->TF H' x' d' f2'->TFs H' (lv.set i x') ((p.1.map a1p).set i d') (f1++(f2'++f3))) (hc:c∈f2) (kp:∀ b o,b≠c->H b=some o->H' b=some o) (tx:∃ f',TF H' x (a1p d') f'):Tr H' (.ref a) (a3j (p.1.set i d',p.2)):=by
 obtain⟨f',tx⟩:=tx
 obtain⟨n1,n2⟩:=List.nodup_cons.mp nd
 obtain⟨n3,n4,n5⟩:=nd2.mp n2
 obtain⟨n6,n7⟩:=List.nodup_cons.mp n3
 have cfl:c∈fl:=by rw[ef];exact List.mem_append_right _ (List.mem_append_left _ hc)
 have ac:a≠c:=λ z=>n1 (by rw[z];exact List.mem_append_left _ (.tail _ cfl))
 have lc:l≠c:=λ z=>n6 (by rw[z];exact cfl)
 have mc:∀ b∈m::fm,b≠c:=λ b hb z=>n5 b hb (by rw[z];exact .tail _ cfl)
 rw[ef] at n7
 have n8:=(nd3.mp n7).2.2 c hc
 have t1:=put H' x (a1p d') f' (λ b hb o eb=>kp b o (λ z=>by rcases List.mem_append.mp hb with y | y;exact n8.1 (z ▸ y);exact n8.2 (z ▸ y)) eb) tx
 rw[<-List.map_set,TFs.set_self ex] at t1
 exact .tup (kp _ _ ac ha) (.cons (.lst (kp _ _ lc hl) t1.trs) (.cons (.lst (kp _ _ (mc m (.head _)) hm) (tm.fr λ b hb o eb=>kp b o (mc b (.tail _ hb)) eb).trs) .nil))
theorem e1n {H H':Hp} {a l m c:Addr} {lv mv:List V} {fl fm f1 f2 f3:List Addr} {p:Ps} {i:Nat} {x:V} {r':Mkr} (ha:H a=some (.tup [.ref l,.ref m])) (hl:H l=some (.lst lv)) (tl:TFs H lv (p.1.map a1p) fl) (hm:H m=some (.lst mv)) (nd:(a::(l::fl++(m::fm))).Nodup)
  (ex:mv[i]?=some x) (ef:fm=f1++(f2++f3)) (put:∀ H' x' d' f2',(∀ b∈f1++f3,∀ o,H b=some o->H' b=some o)->TF H' x' d' f2'->TFs H' (mv.set i x') ((p.2.map a4z).set i d') (f1++(f2'++f3))) (hc:c∈f2) (kp:∀ b o,b≠c->H b=some o->H' b=some o) (tx:∃ f',TF H' x (a4z r') f'):Tr H' (.ref a) (a3j (p.1,p.2.set i r')):=by
 obtain⟨f',tx⟩:=tx
 obtain⟨n1,n2⟩:=List.nodup_cons.mp nd
 obtain⟨n3,n4,n5⟩:=nd2.mp n2
 obtain⟨n6,n7⟩:=List.nodup_cons.mp n4
 have cfm:c∈fm:=by rw[ef];exact List.mem_append_right _ (List.mem_append_left _ hc)
 have ac:a≠c:=λ z=>n1 (by rw[z];exact List.mem_append_right _ (.tail _ cfm))
 have mc:m≠c:=λ z=>n6 (by rw[z];exact cfm)
 have lc:∀ b∈l::fl,b≠c:=λ b hb z=>n5 c (.tail _ cfm) (by rw[<-z];exact hb)
 rw[ef] at n7
 have n8:=(nd3.mp n7).2.2 c hc
 have t1:=put H' x (a4z r') f' (λ b hb o eb=>kp b o (λ z=>by rcases List.mem_append.mp hb with y | y;exact n8.1 (z ▸ y);exact n8.2 (z ▸ y)) eb) tx
 rw[<-List.map_set,TFs.set_self ex] at t1
 exact .tup (kp _ _ ac ha) (.cons (.lst (kp _ _ (lc l (.head _)) hl) (tl.fr λ b hb o eb=>kp b o (lc b (.tail _ hb)) eb).trs) (.cons (.lst (kp _ _ mc hm) t1.trs) .nil))
--@STAGE
def e0v (t:Nat×Nat×Nat):PyData:=.tuple [.int (t.1:Int),.int (t.2.1:Int),.int (t.2.2:Int)]
def e6a (p:Ps) (t:Nat×Nat×Nat):Prop:=∃ d lk pr,p.1[t.1]?=some d/\d.2.2[t.2.1]?=some lk/\lk[t.2.2]?=some pr
def e8m:Sp:=λ vs H Q _=>∃ (v:V) (z:Int) (p:Ps) (f:List Addr),vs=[v,.int z]/\TF H v (a3j p) f/\f.Nodup/\GP p/\∀ H' p',(∀ b xs,H b=some (.tup xs)->H' b=some (.tup xs))->(∀ b o,b ∉ f->H b=some o->H' b=some o)->Tr H' v (a3j p')->GP p'->Q .non H'
theorem f1h {H:Hp} {v:V} {t:Nat×Nat×Nat} (h:Tr H v (e0v t)):∃ q,v=.ref q/\H q=some (.tup [.int (t.1:Int),.int (t.2.1:Int),.int (t.2.2:Int)]):=by
 cases h with
 | tup h r =>
  cases r with
  | cons h1 r =>
   cases h1
   cases r with
   | cons h2 r =>
    cases h2
    cases r with
    | cons h3 r =>
     cases h3
     cases r
     exact⟨_,rfl,h⟩
theorem d1f (trs:List (Nat×Nat×Nat)):SeqAt.shaped (.list (trs.map e0v))=true:=by
 have h1:(PyData.list (trs.map e0v)).canLay0=true:=b1x λ d hd=>by
  obtain⟨p,_,rfl⟩:=List.mem_map.mp hd
  rfl
 have h2:PyData.depthAll (trs.map e0v)<=1:=a6w λ d hd=>by
  obtain⟨p,_,rfl⟩:=List.mem_map.mp hd
  exact Nat.le_refl 1
 unfold SeqAt.shaped
 rw[h1,decide_eq_true (by show PyData.depthAll (trs.map e0v)+1<=_;omega)]
 rfl
theorem d3e (c:Int):∀ l:List Int,l.filterMap (λ n=>if n=c then none else some (PyData.int n))=(l.filter λ n=>!decide (n=c)).map PyData.int
 | []=>rfl
 | x::r=>by
  rw[List.filterMap_cons,List.filter_cons]
  by_cases z:x=c
  ·rw[if_pos z,decide_eq_true z,d3e c r]
   rfl
  ·rw[if_neg z,decide_eq_false z,d3e c r]
   rfl
theorem e1u {p:Ps} (g:GP p) (k:Int):(b8z p k).length<=100:=by
 unfold b8z
 cases e:p.2.find? (λ r=>decide (r.1=k)) with
 | none=>exact Nat.zero_le _
 | some r=>exact(g.makes r (List.mem_of_find?_eq_some e)).2
theorem d3g (trs:List (Nat×Nat×Nat)):PyData.eqv (.list (trs.map e0v)) (.list [])=decide (trs=[]):=by
 cases trs with
 | nil=>rfl
 | cons a r=>rfl
theorem c1k (T:Tx K mg):a4j P w K mg base CX0 1 T.a6o T.a6t ["_law_past_here","_law_number"] e8m:=by
 refine T.a9i.ok a1g (λ vs H Q E h=>?_) (λ cdv A outer s H vs Q E hr h=>?_)
 ·obtain⟨v,z,p,f,rfl,_⟩:=h
  rfl
 ·obtain⟨v,z,p,f,rfl,tf,nd,gp,q⟩:=h
  have hu:=a9a hr
  refine⟨_,(a0e (a0n (i:=2) a1g.nd rfl (Or.inl rfl) (a2i (a7r (K:=K) rfl rfl) (by rfl) T.b6b boot_dict (a0a (a0m a0w (pv 0) a0c (λ _ _=>rfl)) a0d)))
   (a0e (a0n (i:=3) a1g.nd rfl (Or.inl rfl) (a1o a0d))
   (a0e (a2q PassesOwn.never rfl (a1q rfl T.a2y (a0a (a1a a1h (by rfl) T.a5u boot_len (a0a (a0m a0w (pv 0) a0c (λ _ _=>rfl)) a0d)) a0d)) (a0j (i:=4) a1g.nd rfl (Or.inr rfl))
   (a0g (a2q PassesOwn.never rfl (a1q rfl T.a2y (a0a (a1a a1h (by rfl) T.a5u boot_len (a0a (a0m a0w (a0m a0v (a0m a0w (pv 0) a0c (λ _ _=>rfl)) (pv 4) (λ _ _=>rfl)) a0c (λ _ _=>rfl)) a0d)) a0d)) (a0j (i:=5) a1g.nd rfl (Or.inl rfl))
   (a0g (a2q PassesOwn.never rfl (a1q rfl T.a2y (a0a (a1a a1h (by rfl) T.a5u boot_len (a0a (a0m a0v (a0m a0w (a0m a0v (a0m a0w (pv 0) a0c (λ _ _=>rfl)) (pv 4) (λ _ _=>rfl)) a0c (λ _ _=>rfl)) (pv 5) (λ _ _=>rfl)) a0d)) a0d)) (a0j (i:=6) a1g.nd rfl (Or.inl rfl))
   (a0g (a6l (b9f PySem.F.plainAttrs_list PySem.F.slot_list_append PySem.F.type_list_append a5k (pv 3) (a0a (a2b (a0a (pv 4) (a0a (pv 5) (a0a (pv 6) a0d)))) a0d)))))))))
   (a0g (a3r (a0t (c4r hr.units) (pv 3) (a1o a0d) (a0z _))
   (a0e (b8j (a0m a0v (pv 3) (a0x a1v (pv 1) (a1a a1h (by rfl) T.a5u boot_len (a0a (pv 3) a0d))) (λ _ _=>rfl)) (b1j rfl (a0s (a0j (i:=4) a1g.nd rfl (Or.inr rfl)) (a0s (a0j (i:=5) a1g.nd rfl (Or.inl rfl)) (a0s (a0j (i:=6) a1g.nd rfl (Or.inl rfl)) a4n)))))
   (a0e (a0n (i:=7) a1g.nd rfl (Or.inl rfl) (a0m a0w (a0m a0v (a0m a0v (a0m a0w (a0m a0v (a0m a0w (pv 0) a0c (λ _ _=>rfl)) (pv 4) (λ _ _=>rfl)) a0c (λ _ _=>rfl)) (pv 5) (λ _ _=>rfl)) (pv 6) (λ _ _=>rfl)) a0c (λ _ _=>rfl)))
   (a0e (a0n (i:=8) a1g.nd rfl (Or.inl rfl) (a0x b8q (a1o (a0a a0c (a0a (d5j c4e a0c) a0d))) (a3k ["_law_maker"] rfl (a3c.mk (fv:=["_law_past_here","_law_k"]) (js:=[0,4]) rfl (by decide +kernel) (by decide +kernel) (by decide +kernel) (a1n (Or.inl rfl) (a1n (Or.inl rfl) a2n)) rfl (by decide +kernel)) (a1t (b3w hu (pv 2) (pv 7) (a1o a0d) ⟨rfl,rfl,rfl,rfl⟩)) (λ _ _ _ _ _=>(a0j (i:=0) (show (["_law_maker","_law_past_here","_law_k"]:List Str).Nodup by decide +kernel) rfl (Or.inl rfl))) (λ _ _ _ _ _=>(c9j (a0t d3h (pv 0) (a0m (a2r (K:=K) rfl) (a0m (b5t (K:=K) rfl) (a0m (a2r (K:=K) rfl) (pv 1) a0c (λ _ _=>rfl)) (pv 2) (λ _ _=>rfl)) a0c (λ _ _=>rfl)) (a0z _)))) (λ _ _ _ _ _=>(pv 0)))))
   (a0g (b8j (a2b (a0a (pv 7) (a0a (a0m a0v (pv 8) (a0x a1v (a0x a7s (pv 1) a0c) (a1a a1h (by rfl) T.a5u boot_len (a0a (pv 8) a0d))) (λ _ _=>rfl)) a0d))) (d3s (a0m a0v (a0m a0w (a0m a0v (a0m a0w (pv 0) a0c (λ _ _=>rfl)) (pv 4) (λ _ _=>rfl)) a0c (λ _ _=>rfl)) (pv 5) (λ _ _=>rfl)) (pv 6) b5n))))))
   a1d))))),?_⟩
  have z9:(2000:Nat)<=sizeLine:=by decide
  obtain⟨a,l,m,lv,mv,fl,fm,rfl,ef0,ha,hl,tl,hm,tm⟩:=a9u tf
  have nd':=nd
  rw[ef0] at nd'
  have hlv:lv.length=p.1.length:=by rw[tl.len,List.length_map]
  obtain⟨mkv,hpr,hmk1,hmk2⟩:=d2z (K:=K) tm.trs
  have hml:mkv.length<=100:=by
   have:=congrArg List.length hmk1
   rw[List.length_map,List.length_map] at this
   have:=gp.many
   omega
  have hmnd:(mkv.map (·.1)).Nodup:=by rw[hmk1];exact List.pairwise_map.mpr (List.Pairwise.imp (λ z e=>z (Sum.inl.inj e)) (List.pairwise_map.mp gp.nk))
  refine⟨_,rfl,a,_,_,_,rfl,rfl,SqT.of ha,a0i (j:=1) rfl,m,mv,mkv,rfl,hm,hpr,(by omega),λ D hD=>?_⟩
  rw[b2b mkv [] (by rw[List.nil_append];exact hmnd),List.nil_append]
  have s7:=Same.upd (o:=HO.dK mkv) hD
  refine⟨(by show 0<=sizeLine;omega),λ pl hpl=>?_⟩
  have s8:=Same.upd (o:=HO.lst []) hpl
  have hpl8:upd (upd H D (.dK mkv)) pl (.lst []) pl=some (.lst []):=a0b
  have hD8:upd (upd H D (.dK mkv)) pl (.lst []) D=some (.dK mkv):=s8 _ _ a0b
  have plne:∀ {b:Addr} {o:HO},upd H D (.dK mkv) b=some o->b≠pl:=λ e z=>by rw[z,hpl] at e;cases e
  have s78:=s7.trans s8
  have npl:∀ {b:Addr} {o:HO},H b=some o->b≠pl:=λ e=>plne (s7 _ _ e)
  have nplD:D≠pl:=plne a0b
  generalize upd (upd H D (.dK mkv)) pl (.lst [])=H8 at *
  have at_deal:∀ {k:Nat} {d:Dl},p.1[k]?=some d->∃ t L lkv,lv[k]?=some (.ref t)/\H t=some (.tup [.int d.1,.str d.2.1,.ref L])/\H L=some (.lst lkv)/\Trs H lkv (d.2.2.map a7m):=λ {k d} e=>by
   obtain⟨x,ex,tx⟩:=tl.trs.at (i:=k) (d:=a1p d) (by rw[List.getElem?_map,e];rfl)
   obtain⟨t,L,lkv,rfl,h1,h2,h3⟩:=a6k tx
   exact⟨t,L,lkv,ex,h1,h2,h3⟩
  refine⟨_,rfl,a,_,_,_,rfl,rfl,SqT.of (s78 _ _ ha),a0i (j:=0) rfl,_,_,rfl,.inl ⟨_,SqL.of (s78 _ _ hl),rfl⟩,_,rfl,(by have:=gp.good.1;omega),(by have:=gp.good.1;omega),a2h (n:=((lv.length:Nat):Int).toNat) (λ k σ H2=>(∀ b o,b≠pl->H8 b=some o->H2 b=some o)/\∃ (x4 x5 x6:Option V) (ts:List V) (trs:List (Nat×Nat×Nat)),σ=[some (.ref a),some (.int z),some (.ref D),some (.ref pl),x4,x5,x6,none,none]/\H2 pl=some (.lst ts)/\Trs (b9e H2 pl) ts (trs.map e0v)/\trs.length<=160*k/\∀ t∈trs,e6a p t) ⟨λ _ _ _ e=>e,none,none,none,[],[],rfl,hpl8,.nil,Nat.le_refl _,(λ t ht=>by cases ht)⟩ ?_ ?_⟩
  ·rintro k σ H2 hk ⟨kp,x4,x5,x6,ts,trs,rfl,h2,tts,lts,hok⟩
   have hk':k < p.1.length:=by omega
   have hk8:k < 8:=by have:=gp.good.1;omega
   obtain⟨d,hd⟩:∃ d,p.1[k]?=some d:=⟨_,List.getElem?_eq_getElem hk'⟩
   have hdm:=List.mem_of_getElem? hd
   obtain⟨t,L,lkv,ex,ht,hL,tL⟩:=at_deal hd
   have ll:lkv.length=d.2.2.length:=by rw[tL.len,List.length_map]
   have l40:=(gp.good.2.2 d hdm).2
   have g2:∀ {b:Addr} {o:HO},H b=some o->H2 b=some o:=λ e=>kp _ _ (npl e) (s78 _ _ e)
   refine⟨_,rfl,a,_,_,_,rfl,rfl,SqT.of (g2 ha),a0i (j:=0) rfl,_,rfl,l,_,_,_,rfl,rfl,SqL.of (g2 hl),a0y k (by omega) ex,t,_,_,_,rfl,rfl,SqT.of (g2 ht),a0i (j:=2) rfl,_,_,rfl,.inl ⟨_,SqL.of (g2 hL),rfl⟩,_,rfl,(by omega),(by omega),a2h (n:=((lkv.length:Nat):Int).toNat) (λ j σ H2=>(∀ b o,b≠pl->H8 b=some o->H2 b=some o)/\∃ (x5 x6:Option V) (ts:List V) (trs:List (Nat×Nat×Nat)),σ=[some (.ref a),some (.int z),some (.ref D),some (.ref pl),some (.int (0+(k:Int))),x5,x6,none,none]/\H2 pl=some (.lst ts)/\Trs (b9e H2 pl) ts (trs.map e0v)/\trs.length<=160*k+4*j/\∀ t∈trs,e6a p t) ⟨kp,x5,x6,ts,trs,rfl,h2,tts,lts,hok⟩ ?_ ?_⟩
   ·rintro j σ H2 hj ⟨kp,x5,x6,ts,trs,rfl,h2,tts,lts,hok⟩
    have hj':j < d.2.2.length:=by omega
    obtain⟨lk,hlk⟩:∃ lk,d.2.2[j]?=some lk:=⟨_,List.getElem?_eq_getElem hj'⟩
    obtain⟨x1,ex1,tx1⟩:=tL.at (i:=j) (d:=a7m lk) (by rw[List.getElem?_map,hlk];rfl)
    obtain⟨b,ws,rfl,hb,tws⟩:=b1a tx1
    have lw:ws.length=lk.length:=by rw[tws.len,List.length_map]
    have l4:=gp.looks d hdm lk (List.mem_of_getElem? hlk)
    have g2:∀ {b:Addr} {o:HO},H b=some o->H2 b=some o:=λ e=>kp _ _ (npl e) (s78 _ _ e)
    refine⟨_,rfl,a,_,_,_,rfl,rfl,SqT.of (g2 ha),a0i (j:=0) rfl,_,rfl,l,_,_,_,rfl,rfl,SqL.of (g2 hl),a0y k (by omega) ex,t,_,_,_,rfl,rfl,SqT.of (g2 ht),a0i (j:=2) rfl,_,rfl,L,_,_,_,rfl,rfl,SqL.of (g2 hL),a0y j (by omega) ex1,_,_,rfl,.inl ⟨_,SqL.of (g2 hb),rfl⟩,_,rfl,(by omega),(by omega),a2h (n:=((ws.length:Nat):Int).toNat) (λ i σ H2=>(∀ b o,b≠pl->H8 b=some o->H2 b=some o)/\∃ (x6:Option V) (ts:List V) (trs:List (Nat×Nat×Nat)),σ=[some (.ref a),some (.int z),some (.ref D),some (.ref pl),some (.int (0+(k:Int))),some (.int (0+(j:Int))),x6,none,none]/\H2 pl=some (.lst ts)/\Trs (b9e H2 pl) ts (trs.map e0v)/\trs.length<=160*k+4*j+i/\∀ t∈trs,e6a p t) ⟨kp,x6,ts,trs,rfl,h2,tts,lts,hok⟩ ?_ ?_⟩
    ·rintro i σ H2 hi ⟨kp,x6,ts,trs,rfl,h2,tts,lts,hok⟩
     have hi':i < lk.length:=by omega
     have ltl:ts.length=trs.length:=by rw[tts.len,List.length_map]
     refine⟨_,rfl,.inl ⟨rfl,_,SqL.of h2⟩,_,rfl,_,rfl,_,rfl,(by show 3<=sizeLine;decide),λ nt hnt=>?_⟩
     have sn:=Same.upd (o:=HO.tup [.int (0+(k:Int)),.int (0+(j:Int)),.int (0+(i:Int))]) hnt
     have ntpl:nt≠pl:=λ y=>by rw[y,h2] at hnt;cases hnt
     refine⟨pl,ts,_,rfl,rfl,sn _ _ h2,(by omega),λ H3 h3 k3=>?_⟩
     refine⟨λ b o nb eb=>k3 _ _ nb (sn _ _ (kp _ _ nb eb)),_,ts++[.ref nt],trs++[(k,j,i)],rfl,h3,?_,by rw[List.length_append,List.length_singleton];omega,λ t ht=>?_⟩
     ·rw[List.map_append]
      refine(tts.same λ b o eb=>a7b (a4g eb).1 (k3 _ _ (a4g eb).1 (sn _ _ (a4g eb).2))).app (.cons ?_ .nil)
      have e3:H3 nt=some (.tup [.int (k:Int),.int (j:Int),.int (i:Int)]):=by
       have:=k3 _ _ ntpl a0b
       rw[Int.zero_add,Int.zero_add,Int.zero_add] at this
       exact this
      exact .tup (a7b ntpl e3) (.cons (.int _) (.cons (.int _) (.cons (.int _) .nil)))
     ·rcases List.mem_append.mp ht with y | y
      ·exact hok t y
      ·rw[List.mem_singleton.mp y]
       exact⟨d,lk,_,hd,hlk,List.getElem?_eq_getElem hi'⟩
    ·rintro σ H2 ⟨kp,x6,ts,trs,rfl,h2,tts,lts,hok⟩
     exact⟨kp,_,_,ts,trs,rfl,h2,tts,by omega,hok⟩
   ·rintro σ H2 ⟨kp,x5,x6,ts,trs,rfl,h2,tts,lts,hok⟩
    exact⟨kp,_,_,_,ts,trs,rfl,h2,tts,by omega,hok⟩
  rintro σ H2 ⟨kp,x4,x5,x6,ts,trs,rfl,h2,tts,lts,hok⟩
  have ltl:ts.length=trs.length:=by rw[tts.len,List.length_map]
  have g2:∀ {b:Addr} {o:HO},H b=some o->H2 b=some o:=λ e=>kp _ _ (npl e) (s78 _ _ e)
  have tts2:Trs H2 ts (trs.map e0v):=tts.same b6r
  have hnf:∀ b∈f,∃ o,H b=some o:=λ b hb=>by
   rcases tf.live b hb with ⟨xs,e⟩ | ⟨xs,e⟩
   ·exact⟨_,e⟩
   ·exact⟨_,e⟩
  have plf:pl ∉ f:=λ y=>by
   obtain⟨o,e⟩:=hnf pl y
   exact npl e rfl
  refine⟨_,rfl,(by show 0<=sizeLine;decide),λ el hel=>?_⟩
  have s3:=Same.upd (o:=HO.lst []) hel
  refine⟨.list (trs.map e0v),.list [],.lst (SqL.of (s3 _ _ h2)) (tts2.same s3).dts,.lst (SqL.of a0b) .nil,d1f trs,rfl,_,rfl,?_⟩
  rw[d3g]
  by_cases hne:trs=[]
  ·rw[decide_eq_true hne]
   refine b5e (q _ p (λ b xs e=>s3 _ _ (g2 e)) (λ b o _ e=>s3 _ _ (g2 e)) (tf.fr λ b _ o e=>s3 _ _ (g2 e)).tr gp)
  rw[decide_eq_false hne]
  refine c7z ?_
  have g3:∀ {b:Addr} {o:HO},H b=some o->upd H2 el (.lst []) b=some o:=λ e=>s3 _ _ (g2 e)
  have n0:0 < ts.length:=by rw[ltl];exact List.length_pos_iff.mpr hne
  obtain⟨hidx,v0,ev0,av0⟩:=d3r (xs:=ts) z rfl n0
  generalize (z%((ts.length:Nat):Int)).toNat=ix at hidx ev0
  obtain⟨dd,edd,td⟩:=tts2.get ev0
  rw[List.getElem?_map] at edd
  obtain⟨⟨k,j,i⟩,htr,rfl⟩:=Option.map_eq_some_iff.mp edd
  obtain⟨qt,rfl,hqt⟩:=f1h td
  obtain⟨d,lk,pr,hd,hlk,hpr2⟩:=hok _ (List.mem_of_getElem? htr)
  have hdm:=List.mem_of_getElem? hd
  obtain⟨x,f1,f2,f3,ex,ef,tx,put⟩:=tl.focus (i:=k) (d:=a1p d) (by rw[List.getElem?_map,hd];rfl)
  obtain⟨t,L,lkv,g,rfl,ef2,ht,hL,tL⟩:=b7a tx
  obtain⟨x1,e1,e2,e3,ex1,ef3,tx1,put1⟩:=tL.focus (i:=j) (d:=a7m lk) (by rw[List.getElem?_map,hlk];rfl)
  obtain⟨ws,g1,b,rfl,ef4,hb,tws⟩:∃ ws g1 b,x1=.ref b/\e2=b::g1/\H b=some (.lst ws)/\TFs H ws (lk.map b4p) g1:=by
   cases tx1 with
   | lst h1 h2=>exact⟨_,_,_,rfl,rfl,h1,h2⟩
  obtain⟨x2,c1,c2,c3,ex2,ef5,tx2,put2⟩:=tws.focus (i:=i) (d:=b4p pr) (by rw[List.getElem?_map,hpr2];rfl)
  obtain⟨pa,rfl,hpa⟩:=c0l tx2.tr
  refine⟨_,rfl,_,rfl,_,rfl,_,_,rfl,.inl ⟨_,SqL.of (s3 _ _ h2),rfl⟩,_,_,rfl,rfl,(by omega),pl,_,_,_,rfl,rfl,SqL.of (s3 _ _ h2),av0,qt,_,rfl,SqT.of (s3 _ _ hqt),rfl,_,_,rfl,_,_,rfl,_,_,rfl,rfl,?_⟩
  refine⟨_,rfl,a,_,_,_,rfl,rfl,SqT.of (g3 ha),a0i (j:=0) rfl,_,rfl,l,_,_,_,rfl,rfl,SqL.of (g3 hl),a0i ex,t,_,_,_,rfl,rfl,SqT.of (g3 ht),a0i (j:=2) rfl,_,rfl,L,_,_,_,rfl,rfl,SqL.of (g3 hL),a0i ex1,_,rfl,b,_,_,_,rfl,rfl,SqL.of (g3 hb),a0i ex2,pa,_,_,_,rfl,rfl,SqT.of (g3 hpa),a0i (j:=0) rfl,?_⟩
  refine⟨_,rfl,(by show 2<=sizeLine;decide),λ o1 ho1=>?_⟩
  have s4:=Same.upd (o:=HO.lst [.int 0,.int (-1)]) ho1
  have ho1':upd (upd H2 el (.lst [])) o1 (.lst [.int 0,.int (-1)]) o1=some (.lst [.int 0,.int (-1)]):=a0b
  have hH4:Same H (upd (upd H2 el (.lst [])) o1 (.lst [.int 0,.int (-1)])):=λ b o e=>s4 _ _ (g3 e)
  have hD4:upd (upd H2 el (.lst [])) o1 (.lst [.int 0,.int (-1)]) D=some (.dK mkv):=s4 _ _ (s3 _ _ (kp _ _ nplD hD8))
  refine⟨_,rfl,D,rfl,.inl ⟨_,.inl hD4⟩,_,rfl,(by show 0<=sizeLine;omega),λ nl hnl=>?_⟩
  have s5:=Same.upd (o:=HO.lst []) hnl
  refine⟨_,.inl ⟨mkv,.inl pr.1,.inl (s5 _ _ hD4),rfl,rfl⟩,?_⟩
  have hH5:=hH4.trans s5
  have ho15:=s5 _ _ ho1'
  obtain⟨ma,ema,hma⟩:∃ ma,(a4l mkv (.inl pr.1)).getD (V.ref nl)=.ref ma/\upd (upd (upd H2 el (.lst [])) o1 (.lst [.int 0,.int (-1)])) nl (.lst []) ma=some (.lst ((b8z p pr.1).map V.int)):=by
   rcases e4k gp.nk hmk1 hmk2 pr.1 with ⟨l',u1,u2⟩ | ⟨u1,u2⟩
   ·exact⟨l',by rw[u1];rfl,hH5 _ _ u2⟩
   ·exact⟨nl,by rw[u1];rfl,by rw[u2];exact a0b⟩
  rw[ema]
  generalize upd (upd (upd H2 el (.lst [])) o1 (.lst [.int 0,.int (-1)])) nl (.lst [])=H5 at *
  have m100:=e1u gp pr.1
  refine⟨ma,rfl,⟨_,SqL.of hma⟩,f1y (k:=1) (fs:=[some (.ref a),some (.int (k:Int))]) (b8z p pr.1) PyData.int (λ n=>if n=d.1 then none else some (.int n)) rfl hma (Trs.ofInts _) (by omega) (λ n hn H6 ts R0 v s6 hts tr cs cn=>?_) (λ D6 H6 ys hD6 s6 hd6 ht6=>?_)⟩
  ·obtain⟨t0,rfl⟩:=List.length_eq_one_iff.mp hts
   cases tr
   have hh:=hH5.trans s6
   refine⟨_,rfl,_,rfl,a,_,_,_,rfl,rfl,SqT.of (hh _ _ ha),a0i (j:=0) rfl,_,rfl,l,_,_,_,rfl,rfl,SqL.of (hh _ _ hl),a0i ex,t,_,_,_,rfl,rfl,SqT.of (hh _ _ ht),a0i (j:=0) rfl,rfl,_,rfl,?_⟩
   rw[d5w]
   by_cases y:n=d.1
   ·rw[decide_eq_true y]
    exact b5e (cn (if_pos y) [_] _ rfl (Same.refl _))
   ·rw[decide_eq_false y]
    exact c7z ⟨_,rfl,cs _ _ [_] _ (if_neg y) rfl (Same.refl _) (.int n)⟩
  ·rw[d3e] at ht6
   have eys:=ht6.ints
   generalize hes:(b8z p pr.1).filter (λ n=>!decide (n=d.1))=es at eys
   have les:es.length<=100:=by rw[<-hes];exact Nat.le_trans (List.length_filter_le _ _) m100
   rw[eys] at hd6
   have hH6:=hH5.trans s6
   refine⟨o1,D6,_,_,rfl,rfl,s6 _ _ ho15,hd6,(by rw[List.length_map];show 2+es.length<=sizeLine;omega),λ so hso=>?_⟩
   have s7':=Same.upd (o:=HO.lst ([.int 0,.int (-1)]++es.map V.int)) hso
   have hH7:=hH6.trans s7'
   have hso7:upd H6 so (.lst ([V.int 0,.int (-1)]++es.map V.int)) so=some (.lst ((0::-1::es).map V.int)):=a0b
   generalize upd H6 so (HO.lst ([V.int 0,.int (-1)]++es.map V.int))=H7 at *
   obtain⟨am,_⟩:=e5o (ns:=0::-1::es) (n:=((0::-1::es).map V.int).length) (z / 4001) (by rw[List.length_map]) (by rw[List.length_map];show 0 < es.length+2;omega)
   refine⟨_,rfl,_,rfl,_,rfl,_,_,rfl,rfl,⟨by decide,by decide⟩,_,rfl,_,_,rfl,.inl ⟨_,SqL.of hso7,rfl⟩,_,_,rfl,rfl,(by rw[List.length_map];show (0:Int) < ((es.length+2:Nat):Int);omega),so,_,_,_,rfl,rfl,SqL.of hso7,am,(by show 2<=sizeLine;decide),λ np hnp=>?_⟩
   generalize (0::-1::es).getD _ 0=src at *
   have s9:=Same.upd (o:=HO.tup [.int pr.1,.int src]) hnp
   have hH9:=hH7.trans s9
   have hnp9:upd H7 np (.tup [.int pr.1,.int src]) np=some (.tup [.int pr.1,.int src]):=a0b
   have npf:∀ {b:Addr} {o:HO},H b=some o->np≠b:=λ e y=>by rw[y,hH7 _ _ e] at hnp;cases hnp
   generalize upd H7 np (HO.tup [.int pr.1,.int src])=H9 at *
   have hil:i < ws.length:=(List.getElem?_eq_some_iff.mp ex2).1
   have ixn:ixN ws.length (i:Int)=some i:=by
    unfold ixN
    rw[if_pos (by omega),if_pos (by omega)]
    rfl
   refine⟨_,rfl,a,_,_,_,rfl,rfl,SqT.of (hH9 _ _ ha),a0i (j:=0) rfl,_,rfl,l,_,_,_,rfl,rfl,SqL.of (hH9 _ _ hl),a0i ex,t,_,_,_,rfl,rfl,SqT.of (hH9 _ _ ht),a0i (j:=2) rfl,_,rfl,L,_,_,_,rfl,rfl,SqL.of (hH9 _ _ hL),a0i ex1,_,rfl,b,ws,_,i,rfl,rfl,hH9 _ _ hb,ixn,λ H' h' k'=>?_⟩
   have bf2:b∈f2:=by rw[ef2,ef3,ef4];exact .tail _ (.tail _ (List.mem_append_right _ (List.mem_append_left _ (.head _))))
   have bf:b∈f:=by rw[ef0,ef];exact .tail _ (List.mem_append_left _ (.tail _ (List.mem_append_right _ (List.mem_append_left _ bf2))))
   have nf2:f2.Nodup:=by
    have n1:=(List.nodup_cons.mp (nd2.mp (List.nodup_cons.mp nd').2).1).2
    rw[ef] at n1
    exact(nd3.mp n1).2.1
   rw[ef2] at nf2
   obtain⟨nt1,nf3⟩:=List.nodup_cons.mp nf2
   obtain⟨nL1,ng⟩:=List.nodup_cons.mp nf3
   have bg:b∈g:=by rw[ef3,ef4];exact List.mem_append_right _ (List.mem_append_left _ (.head _))
   have tb:t≠b:=λ y=>nt1 (by rw[y];exact .tail _ bg)
   have Lb:L≠b:=λ y=>nL1 (by rw[y];exact bg)
   rw[ef3] at ng
   have ng3:=nd3.mp ng
   have bo:=ng3.2.2 b (by rw[ef4];exact .head _)
   have ng1:=ng3.2.1
   rw[ef4] at ng1
   have bg1:=(List.nodup_cons.mp ng1).1
   have kk:∀ c o,c≠b->H c=some o->H' c=some o:=λ c o nc e=>k' c o nc (hH9 _ _ e)
   have npb:np≠b:=npf hb
   have tpair:TF H' (.ref np) (b4p (pr.1,src)) [np]:=.tup (k' _ _ npb hnp9) (TFs.cons (f:=[]) (g:=[]) (.int _) (TFs.cons (f:=[]) (g:=[]) (.int _) .nil))
   have tlook:=put2 H' (.ref np) (b4p (pr.1,src)) [np] (λ c hc o e=>kk c o (λ y=>bg1 (by rw[<-y,ef5];rcases List.mem_append.mp hc with u | u;exact List.mem_append_left _ u;exact List.mem_append_right _ (List.mem_append_right _ u))) e) tpair
   rw[<-List.map_set] at tlook
   have tdeal:=put1 H' (.ref b) (a7m (lk.set i (pr.1,src))) _ (λ c hc o e=>kk c o (λ y=>by rcases List.mem_append.mp hc with u | u;exact bo.1 (y ▸ u);exact bo.2 (y ▸ u)) e) (.lst h' tlook)
   rw[<-List.map_set,TFs.set_self ex1] at tdeal
   refine q H' (p.1.set k (d.1,d.2.1,d.2.2.set j (lk.set i (pr.1,src))),p.2) (λ c xs e=>kk c _ (λ y=>by rw[y,hb] at e;cases e) e) (λ c o nc e=>kk c o (λ y=>nc (y ▸ bf)) e) (e3m (d:=d) ha hl hm tm nd' ex ef put bf2 kk ⟨_,.tup (kk _ _ tb ht) (TFs.cons (f:=[]) (.int _) (TFs.cons (f:=[]) (.str _) (TFs.one (.lst (kk _ _ Lb hL) tdeal))))⟩) ?_
   refine gp.setD hd rfl (gp.good.2.2 d hdm).1 (by show (d.2.2.set j _).length<=40;rw[List.length_set];exact(gp.good.2.2 d hdm).2) λ l' hl'=>?_
   rcases List.mem_or_eq_of_mem_set hl' with u | u
   ·exact gp.looks d hdm l' u
   ·rw[u,List.length_set]
    exact gp.looks d hdm lk (List.mem_of_getElem? hlk)
--@STAGE
def e3g (v:V) (p:Ps) (f:List Addr) (o:Addr) (way z:Int) (k:Int) (σ:L2.St) (H2:Hp):Prop:=∃ (so:Addr) (ys':List V) (os':List Nk) (p':Ps) (x5 x6 x7 x8:Option V),σ=[some v,some (.ref o),some (.int way),some (.int z),some (.ref so),x5,x6,x7,x8]/\H2 so=some (.lst ys')/\Nds H2 ys' os'/\os'.length<=40/\Tr H2 v (a3j p')/\GP p'/\(k<=way->TF H2 v (a3j p) f/\so ∉ f/\os'.length<=32)
theorem e3g.up {v:V} {p:Ps} {f:List Addr} {o:Addr} {way z k:Int} {σ:L2.St} {H2:Hp} (h:e3g v p f o way z k σ H2):e3g v p f o way z (k+1) σ H2:=by
 obtain⟨so,ys',os',p',x5,x6,x7,x8,e,h1,h2,h3,h4,h5,h6⟩:=h
 exact⟨so,ys',os',p',x5,x6,x7,x8,e,h1,h2,h3,h4,h5,λ z=>h6 (by omega)⟩
def f2o:Sp:=λ vs H Q _=>∃ (v:V) (o:Addr) (ys:List V) (os:List Nk) (p:Ps) (f:List Addr) (way z:Int),vs=[v,.ref o,.int way,.int z]/\TF H v (a3j p) f/\f.Nodup/\GP p/\H o=some (.lst ys)/\Nds H ys os/\os.length<=32/\∀ so H' ys' os' p',H' so=some (.lst ys')->Nds H' ys' os'->os'.length<=40->Tr H' v (a3j p')->GP p'->Q (.ref so) H'
theorem c0g {α β:Type} {F:α->β->Prop}:∀ {xs:List α} {bs:List β} (n:Nat),Paired F xs bs->Paired F (xs.take n) (bs.take n)
 | _,_,0,_=>.nil
 | _,_,_+1,.nil=>.nil
 | _,_,n+1,.cons h t=>.cons h (c0g n t)
theorem c1g {α β:Type} {F:α->β->Prop}:∀ {xs:List α} {bs:List β} (n:Nat),Paired F xs bs->Paired F (xs.drop n) (bs.drop n)
 | _,_,0,h=>h
 | _,_,_+1,.nil=>.nil
 | _,_,n+1,.cons _ t=>c1g n t
theorem c1q {H:Hp} {ys:List V} {os:List Nk} (h:Nds H ys os) (lo hi:Option Int):∃ os',Nds H (a8g ys lo hi) os'/\os'.length<=os.length/\(∀ k:Int,0<=k->lo=none->hi=some k->(os'.length:Int)<=k)/\(∀ k:Int,0<=k->k<=os.length->lo=some k->(os'.length:Int)<=os.length - k):=by
 have hl:=a6g h
 refine⟨_,c0g _ (c1g _ h),?_,λ k k0 e1 e2=>?_,λ k k0 k1 e1=>?_⟩
 ·rw[List.length_take,List.length_drop]
  omega
 ·subst e1
  subst e2
  obtain⟨n,rfl⟩:∃ n:Nat,k=(n:Int):=⟨k.toNat,by omega⟩
  rw[List.length_take,HT.sIx_nat,HT.sIx_none]
  omega
 ·subst e1
  obtain⟨n,rfl⟩:∃ n:Nat,k=(n:Int):=⟨k.toNat,by omega⟩
  rw[List.length_take,List.length_drop,HT.sIx_nat]
  omega
theorem f2s {i:Int} {n:Nat} (h0:0<=i) (h1:i < (n:Int)):seqIndex? i n=some i.toNat:=by
 unfold seqIndex?
 have:¬ i < 0:=by omega
 simp[this,h0,h1]
theorem e5m {xs:List V} {i:Int} (h0:0<=i) (h1:i < (xs.length:Int)):∃ y,xs[i.toNat]?=some y/\atI xs i=some y:=by
 have hl:i.toNat < xs.length:=by omega
 exact⟨xs[i.toNat],List.getElem?_eq_getElem hl,a0y i.toNat (by omega) (List.getElem?_eq_getElem hl)⟩
theorem c9l (ms:List Mkr):SeqAt.shaped (.list (ms.map a4z))=true:=by
 have h1:(PyData.list (ms.map a4z)).canLay0=true:=b1x λ d hd=>by
  obtain⟨p,_,rfl⟩:=List.mem_map.mp hd
  exact(b9y p).1
 have h2:PyData.depthAll (ms.map a4z)<=2:=a6w λ d hd=>by
  obtain⟨p,_,rfl⟩:=List.mem_map.mp hd
  exact(b9y p).2
 unfold SeqAt.shaped
 rw[h1,decide_eq_true (by show PyData.depthAll (ms.map a4z)+1<=_;omega)]
 rfl
theorem d0w {ds:List Dl} (h:∀ d∈ds,d.2.1∈wds):SeqAt.shaped (.list (ds.map a1p))=true:=by
 have h1:(PyData.list (ds.map a1p)).canLay0=true:=b1x λ d hd=>by
  obtain⟨p,hp,rfl⟩:=List.mem_map.mp hd
  exact(b9m (h p hp)).1
 have h2:PyData.depthAll (ds.map a1p)<=4:=a6w λ d hd=>by
  obtain⟨p,hp,rfl⟩:=List.mem_map.mp hd
  exact(b9m (h p hp)).2
 unfold SeqAt.shaped
 rw[h1,decide_eq_true (by show PyData.depthAll (ds.map a1p)+1<=_;omega)]
 rfl
theorem c3t {α:Type} (g:α->PyData) (l:List α):PyData.eqv (.list (l.map g)) (.list [])=decide (l=[]):=by
 cases l with
 | nil=>rfl
 | cons a r=>simp;rfl
theorem c5u (T:Tx K mg):a4j P w K mg base CX0 2 T.a8w T.a8t ["_law_past_here","_law_order","_law_way","_law_number"] f2o:=by
 refine T.b1s.ok a1r (λ vs H Q E h=>?_) (λ cdv A outer s H vs Q E hr h=>?_)
 ·obtain⟨v,o,ys,os,p,f,way,z,rfl,_⟩:=h
  rfl
 ·obtain⟨v,o,ys,os,p,f,way,z,rfl,tf,nd,gp,ho,hn,hz,q⟩:=h
  have hu:=a9a hr
  refine⟨_,(a0e (a0n (i:=4) a1r.nd rfl (Or.inl rfl) (a2i a5h (by rfl) T.b4b boot_list (a0a (pv 1) a0d)))
   (a9e (a3r (PW.pt (b4h (a0t a7v (pv 2) a0c (a0z _)) (a9b (a0t e6j (a1a a1h (by rfl) T.a5u boot_len (a0a (pv 4) a0d)) a0c (a0z _)))))
   (a0e (a0n (i:=5) a1r.nd rfl (Or.inl rfl) (a0x a1v (pv 3) (a0x c4l (a1a a1h (by rfl) T.a5u boot_len (a0a (pv 4) a0d)) a0c)))
   (a0g (a0n (i:=4) a1r.nd rfl (Or.inl rfl) (a0x b8q (a0x b8q (a7h b0j (pv 4) b0r (a9z (pv 5))) (a1o (a0a (a0m a0v (pv 4) (a0x a3v (pv 5) a0c) (λ _ _=>rfl)) (a0a (a0m a0v (pv 4) (pv 5) (λ _ _=>rfl)) a0d)))) (a7h b0j (pv 4) (a9z (a0x a3v (pv 5) a0c)) b0r)))))
   a1d)
   (a9e (a3r (a0t a7v (pv 2) a0c (a0z _))
   (a0g (a6l (a0l ((c1k T).mono (by decide)) hr rfl T.b4f T.a9i.kp T.b4d .nil a1l (a0a (pv 0) (a0a (pv 3) a0d)))))
   a1d)
   (a9e (a3r (PW.pt (b4h (a0t a7v (pv 2) a0c (a0z _)) (a9b (a0t (c4r hr.units) (a0m a0w (pv 0) a0c (λ _ _=>rfl)) (a1o a0d) (a0z _)))))
   (a0e (a0n (i:=6) a1r.nd rfl (Or.inl rfl) (a0m a0w (a0m a0v (a0m a0w (pv 0) a0c (λ _ _=>rfl)) (a0x a1v (pv 3) (a1a a1h (by rfl) T.a5u boot_len (a0a (a0m a0w (pv 0) a0c (λ _ _=>rfl)) a0d))) (λ _ _=>rfl)) a0c (λ _ _=>rfl)))
   (a0g (a6l (b9f PySem.F.plainAttrs_list PySem.F.slot_list_append PySem.F.type_list_append a5k (pv 6) (a0a (b9f PySem.F.plainAttrs_list PySem.F.slot_list_pop PySem.F.type_list_pop e3s (pv 6) (a0a (a0x a1v (a0x a7s (pv 3) a0c) (a1a a1h (by rfl) T.a5u boot_len (a0a (pv 6) a0d))) a0d)) a0d)))))
   a1d)
   (a9e (a3r (PW.pt (b4h (a0t a7v (pv 2) a0c (a0z _)) (a9b (a0t e6j (a1a a1h (by rfl) T.a5u boot_len (a0a (pv 4) a0d)) a0c (a0z _)))))
   (a0e (a0n (i:=5) a1r.nd rfl (Or.inl rfl) (a0x a1v (pv 3) (a1a a1h (by rfl) T.a5u boot_len (a0a (pv 4) a0d))))
   (a0e (a0n (i:=7) a1r.nd rfl (Or.inl rfl) (a1o (a0a (a0x b8q (a7h b0j (pv 4) b0r (a9z (pv 5))) (a7h b0j (pv 4) (a9z (a0x a3v (pv 5) a0c)) b0r)) (a0a (a0x b8q (pv 4) (a1o (a0a (a0m a0v (pv 4) (pv 5) (λ _ _=>rfl)) a0d))) (a0a (a0x b8q (a7h b0j (pv 4) (a9z (pv 5)) b0r) (a7h b0j (pv 4) b0r (a9z (pv 5)))) a0d)))))
   (a0e (a6l (b9f PySem.F.plainAttrs_list PySem.F.slot_list_append PySem.F.type_list_append a5k (pv 7) (a0a (a0x b8q (a0x b8q (a7h b0j (pv 4) b0r (a9z (pv 5))) (a1o (a0a (a2b (a0a (a0x a3v (a0x a1v (a0x a7s (pv 3) a0c) a0c) a0c) (a0a (a0x c4l (a0x a1v (a0x a7s (pv 3) a0c) a0c) a0c) a0d))) a0d))) (a7h b0j (pv 4) (a9z (pv 5)) b0r)) a0d)))
   (a0g (a0n (i:=4) a1r.nd rfl (Or.inl rfl) (a0m a0v (pv 7) (a0x a1v (a0x a7s (pv 3) a0c) a0c) (λ _ _=>rfl)))))))
   a1d)
   (a9e (a3r (PW.pt (b4h (a0t a7v (pv 2) a0c (a0z _)) (a9b (a0t (c4r hr.units) (a0m a0w (pv 0) a0c (λ _ _=>rfl)) (a1o a0d) (a0z _)))))
   (a0e (a0n (i:=5) a1r.nd rfl (Or.inl rfl) (a0x a1v (pv 3) (a1a a1h (by rfl) T.a5u boot_len (a0a (a0m a0w (pv 0) a0c (λ _ _=>rfl)) a0d))))
   (a0e (a0n (i:=8) a1r.nd rfl (Or.inl rfl) (a0m a0v (a1o (a0a a1c (a0a a1c (a0a a1c (a0a a1c (a0a a1c a0d)))))) (a0x a1v (a0x a7s (pv 3) a0c) a0c) (λ _ _=>rfl)))
   (a0g (b8j (a2b (a0a (a0m a0w (a0m a0v (a0m a0w (pv 0) a0c (λ _ _=>rfl)) (pv 5) (λ _ _=>rfl)) a0c (λ _ _=>rfl)) (a0a (pv 8) (a0a (a0m a0w (a0m a0v (a0m a0w (pv 0) a0c (λ _ _=>rfl)) (pv 5) (λ _ _=>rfl)) a0c (λ _ _=>rfl)) a0d)))) (d3s (a0m a0w (pv 0) a0c (λ _ _=>rfl)) (pv 5) b5n)))))
   a1d)
   (a0g (a0u (pv 4))))))))),?_⟩
  have z9:(2000:Nat)<=sizeLine:=by decide
  have hyl:=a6g hn
  refine⟨_,rfl,o,ys,rfl,.inl (SqL.of ho),λ so hso=>?_⟩
  have s1:=Same.upd (o:=HO.lst ys) hso
  have sof:so ∉ f:=tf.not hso
  have iv3:e3g v p f o way z 3 [some v,some (.ref o),some (.int way),some (.int z),some (.ref so),none,none,none,none] (upd H so (.lst ys)):=⟨so,ys,os,p,none,none,none,none,rfl,a0b,a4m s1 hn,by omega,(tf.same s1).tr,gp,λ _=>⟨tf.same s1,sof,hz⟩⟩
  generalize upd H so (.lst ys)=H1 at *
  refine⟨e3g v p f o way z 4,?_,?_⟩
  ·have iv4:=iv3.up
   obtain⟨so',ys',os',p',x5,x6,x7,x8,e0,h1,h2,h3,h4,h5,h6⟩:=iv3
   cases e0
   have ly:=a6g h2
   refine⟨_,rfl,rfl,_,rfl,b1n (λ e=>?_) (λ e=>b5e iv4)⟩
   have e3:way=3:=V.int.inj (of_decide_eq_true e)
   obtain⟨h7,h8,h9⟩:=h6 (by omega)
   refine⟨_,rfl,_,_,rfl,.inl ⟨_,SqL.of h1,rfl⟩,_,_,rfl,rfl,_,rfl,b1n (λ e2=>?_) (λ e2=>iv4)⟩
   have l1:(1:Int) < (ys'.length:Int):=of_decide_eq_true e2
   refine⟨_,rfl,_,rfl,_,_,rfl,.inl ⟨_,SqL.of h1,rfl⟩,_,_,rfl,rfl,_,_,rfl,rfl,(by show (0:Int) < (ys'.length:Int) - 1;omega),?_⟩
   have c0:=Int.emod_nonneg z (show (ys'.length:Int) - 1≠0 by omega)
   have c1:=Int.emod_lt_of_pos z (show (0:Int) < (ys'.length:Int) - 1 by omega)
   obtain⟨y1,ey1,ay1⟩:=e5m (xs:=ys') (i:=z%((ys'.length:Int) - 1)+1) (by omega) (by omega)
   obtain⟨y0,ey0,ay0⟩:=e5m (xs:=ys') (i:=z%((ys'.length:Int) - 1)) (by omega) (by omega)
   obtain⟨n1,_,d1⟩:=a2a h2 ey1
   obtain⟨n0,_,d0⟩:=a2a h2 ey0
   obtain⟨os1,c1',k1,k1b,_⟩:=c1q h2 none (some (z%((ys'.length:Int) - 1)))
   obtain⟨os3,c3',k3,_,k3c⟩:=c1q h2 (some (z%((ys'.length:Int) - 1)+2)) none
   have k1d:=k1b _ c0 rfl rfl
   have k3d:=k3c _ (by omega) (by omega) rfl
   have lc1:=a6h ys' none (some (z%((ys'.length:Int) - 1)))
   have lc3:=a6h ys' (some (z%((ys'.length:Int) - 1)+2)) none
   refine⟨_,rfl,_,rfl,_,rfl,so,ys',rfl,SqL.of h1,λ p1 hp1=>?_⟩
   have u1:=Same.upd (o:=HO.lst (a8g ys' none (some (z%((ys'.length:Int) - 1))))) hp1
   refine⟨_,rfl,_,rfl,_,_,rfl,rfl,so,_,_,_,rfl,rfl,SqL.of (u1 _ _ h1),ay1,_,rfl,_,rfl,so,_,_,_,rfl,rfl,SqL.of (u1 _ _ h1),ay0,(by show 2<=sizeLine;decide),λ p2 hp2=>?_⟩
   have u2:=Same.upd (o:=HO.lst [y1,y0]) hp2
   have u12:=u1.trans u2
   refine⟨p1,p2,_,_,rfl,rfl,u2 _ _ a0b,a0b,(by show _+2<=sizeLine;omega),λ p3 hp3=>?_⟩
   have u3:=Same.upd (o:=HO.lst (a8g ys' none (some (z%((ys'.length:Int) - 1)))++[y1,y0])) hp3
   have u13:=u12.trans u3
   refine⟨_,rfl,_,rfl,_,_,rfl,rfl,_,rfl,so,ys',rfl,SqL.of (u13 _ _ h1),λ p4 hp4=>?_⟩
   have u4:=Same.upd (o:=HO.lst (a8g ys' (some (z%((ys'.length:Int) - 1)+2)) none)) hp4
   refine⟨p3,p4,_,_,rfl,rfl,u4 _ _ a0b,a0b,(by rw[List.length_append];show _+2+_<=sizeLine;omega),λ p5 hp5=>?_⟩
   have u5:=Same.upd (o:=HO.lst ((a8g ys' none (some (z%((ys'.length:Int) - 1)))++[y1,y0])++a8g ys' (some (z%((ys'.length:Int) - 1)+2)) none)) hp5
   have u15:=(u13.trans u4).trans u5
   refine⟨p5,_,(os1++[n1,n0])++os3,p',_,_,_,_,rfl,a0b,a1x (a1x (a4m u15 c1') (.cons (NdV.sm u15 d1) (.cons (NdV.sm u15 d0) .nil))) (a4m u15 c3'),by rw[List.length_append,List.length_append];show os1.length+2+os3.length<=40;omega,h4.same u15,h5,λ y=>by omega⟩
  rintro σ H2 iv4
  refine⟨e3g v p f o way z 5,?_,?_⟩
  ·have iv5:=iv4.up
   obtain⟨so',ys',os',p',x5,x6,x7,x8,rfl,h1,h2,h3,h4,h5,h6⟩:=iv4
   refine⟨_,rfl,rfl,_,rfl,b1n (λ e=>?_) (λ e=>iv5)⟩
   have e3:way=4:=V.int.inj (of_decide_eq_true e)
   obtain⟨h7,h8,h9⟩:=h6 (by omega)
   refine⟨_,rfl,_,rfl,v,z,p,f,rfl,h7,nd,gp,λ H' p'' kt kf tr g=>?_⟩
   exact⟨so',ys',os',p'',_,_,_,_,rfl,kf _ _ h8 h1,b2c kt h2,h3,tr,g,λ y=>by omega⟩
  rintro σ H2 iv5
  refine⟨e3g v p f o way z 6,?_,?_⟩
  ·have iv6:=iv5.up
   obtain⟨so',ys',os',p',x5,x6,x7,x8,rfl,h1,h2,h3,h4,h5,h6⟩:=iv5
   refine⟨_,rfl,rfl,_,rfl,b1n (λ e=>?_) (λ e=>b5e iv6)⟩
   have e3:way=5:=V.int.inj (of_decide_eq_true e)
   obtain⟨h7,h8,h9⟩:=h6 (by omega)
   obtain⟨a,l,m,lv,mv,fl,fm,rfl,ef0,ha,hl,tl,hm,tm⟩:=a9u h7
   have nd':=nd
   rw[ef0] at nd'
   have lmv:mv.length=p.2.length:=by rw[tm.len,List.length_map]
   refine⟨_,rfl,a,_,_,_,rfl,rfl,SqT.of ha,a0i (j:=1) rfl,(by show 0<=sizeLine;decide),λ el hel=>?_⟩
   have s3:=Same.upd (o:=HO.lst []) hel
   refine⟨.list (p.2.map a4z),.list [],.lst (SqL.of (s3 _ _ hm)) (tm.trs.same s3).dts,.lst (SqL.of a0b) .nil,c9l _,rfl,_,rfl,?_⟩
   rw[c3t]
   by_cases hne:p.2=[]
   ·rw[decide_eq_true hne]
    exact b5e ⟨so',ys',os',p',_,_,_,_,rfl,s3 _ _ h1,a4m s3 h2,h3,h4.same s3,h5,λ y=>by omega⟩
   rw[decide_eq_false hne]
   refine c7z ?_
   have n0:0 < mv.length:=by rw[lmv];exact List.length_pos_iff.mpr hne
   obtain⟨hi,v0,ev0,av0⟩:=d3r (xs:=mv) z rfl n0
   generalize (z%((mv.length:Nat):Int)).toNat=ix at hi ev0
   obtain⟨r,hr⟩:∃ r,p.2[ix]?=some r:=⟨_,List.getElem?_eq_getElem (by omega)⟩
   obtain⟨x,f1,f2,f3,ex,ef,tx,put⟩:=tm.focus (i:=ix) (d:=a4z r) (by rw[List.getElem?_map,hr];rfl)
   rw[ev0] at ex
   cases ex
   obtain⟨t,c,rfl,ef2,ht,hc⟩:=d6b tx
   obtain⟨r1,r2⟩:=gp.makes r (List.mem_of_getElem? hr)
   refine⟨_,rfl,a,_,_,_,rfl,rfl,SqT.of (s3 _ _ ha),a0i (j:=1) rfl,_,rfl,_,rfl,a,_,_,_,rfl,rfl,SqT.of (s3 _ _ ha),a0i (j:=1) rfl,_,_,rfl,.inl ⟨_,SqL.of (s3 _ _ hm),rfl⟩,_,_,rfl,rfl,(by omega),m,_,_,_,rfl,rfl,SqL.of (s3 _ _ hm),av0,t,_,_,_,rfl,rfl,SqT.of (s3 _ _ ht),a0i (j:=1) rfl,?_⟩
   have len0:0 < r.2.length:=List.length_pos_iff.mpr r1
   have hc3:=s3 _ _ hc
   have lm:(r.2.map V.int).length=r.2.length:=List.length_map _
   have c0:=Int.emod_nonneg (z / 7) (show ((r.2.length:Nat):Int)≠0 by omega)
   have c1:=Int.emod_lt_of_pos (z / 7) (show (0:Int) < ((r.2.length:Nat):Int) by omega)
   have kl:(z / 7%((r.2.length:Nat):Int)).toNat < r.2.length:=by omega
   obtain⟨y,ey⟩:∃ y,r.2[(z / 7%((r.2.length:Nat):Int)).toNat]?=some y:=⟨_,List.getElem?_eq_getElem kl⟩
   refine⟨_,rfl,.inl ⟨rfl,_,SqL.of hc3⟩,_,rfl,.inl ⟨rfl,_,SqL.of hc3⟩,_,rfl,_,_,rfl,rfl,⟨by decide,by decide⟩,_,rfl,_,_,rfl,.inl ⟨_,SqL.of hc3,rfl⟩,_,_,rfl,rfl,(by rw[lm];omega),c,_,_,(z / 7%((r.2.length:Nat):Int)).toNat,.int y,rfl,rfl,hc3,(by show -(2 ^ 63)<=z / 7%(((r.2.map V.int).length:Nat):Int);rw[lm];omega),(by show z / 7%(((r.2.map V.int).length:Nat):Int) < 2 ^ 63;rw[lm];omega),(by show seqIndex? (z / 7%(((r.2.map V.int).length:Nat):Int)) _=_;rw[lm];exact f2s c0 c1),(by rw[List.getElem?_map,ey];rfl),c,_,_,rfl,rfl,a0b,(by rw[c0i,List.length_map];have:=List.length_eraseIdx_le r.2 (z / 7%((r.2.length:Nat):Int)).toNat;omega),λ H' h' k'=>?_⟩
   rw[c0i] at h'
   generalize (z / 7%((r.2.length:Nat):Int)).toNat=kx at *
   have hc':H' c=some (.lst ((r.2.eraseIdx kx++[y]).map V.int)):=by rw[List.map_append];exact h'
   have kk:∀ b o,b≠c->H2 b=some o->H' b=some o:=λ b o nb eb=>k' b o nb (by rw[a0h nb];exact s3 _ _ eb)
   have cf2:c∈f2:=by rw[ef2];exact .tail _ (.head _)
   have cf:c∈f:=by rw[ef0,ef];exact .tail _ (List.mem_append_right _ (.tail _ (List.mem_append_right _ (List.mem_append_left _ cf2))))
   have nf2:f2.Nodup:=by
    have n1:=(List.nodup_cons.mp (nd2.mp (List.nodup_cons.mp nd').2).2.1).2
    rw[ef] at n1
    exact(nd3.mp n1).2.1
   rw[ef2] at nf2
   have tc:t≠c:=λ u=>(List.nodup_cons.mp nf2).1 (by rw[u];exact .head _)
   refine⟨so',ys',os',(p.1,p.2.set ix (r.1,r.2.eraseIdx kx++[y])),_,_,_,_,rfl,kk _ _ (λ u=>h8 (u ▸ cf)) h1,b2c (λ b xs eb=>kk b _ (λ u=>by rw[u,hc] at eb;cases eb) eb) h2,h3,e1n ha hl tl hm nd' ev0 ef put cf2 kk ⟨_,.tup (kk _ _ tc ht) (TFs.cons (f:=[]) (.int _) (TFs.one (.lst hc' (TFs.ints _))))⟩,?_,λ u=>by omega⟩
   refine gp.setM hr rfl (by simp) ?_ λ u hu'=>?_
   ·show (r.2.eraseIdx kx++[y]).length<=100
    rw[List.length_append,List.length_eraseIdx,if_pos kl,List.length_singleton]
    omega
   ·rcases List.mem_append.mp hu' with u1 | u1
    ·exact List.mem_of_mem_eraseIdx u1
    ·rw[List.mem_singleton.mp u1]
     exact List.mem_of_getElem? ey
  rintro σ H2 iv6
  refine⟨e3g v p f o way z 7,?_,?_⟩
  ·have iv7:=iv6.up
   obtain⟨so',ys',os',p',x5,x6,x7,x8,rfl,h1,h2,h3,h4,h5,h6⟩:=iv6
   have ly:=a6g h2
   refine⟨_,rfl,rfl,_,rfl,b1n (λ e=>?_) (λ e=>b5e iv7)⟩
   have e3:way=6:=V.int.inj (of_decide_eq_true e)
   obtain⟨h7,h8,h9⟩:=h6 (by omega)
   refine⟨_,rfl,_,_,rfl,.inl ⟨_,SqL.of h1,rfl⟩,_,_,rfl,rfl,_,rfl,b1n (λ e2=>?_) (λ e2=>iv7)⟩
   have l1:(0:Int) < (ys'.length:Int):=of_decide_eq_true e2
   refine⟨_,rfl,_,rfl,_,_,rfl,.inl ⟨_,SqL.of h1,rfl⟩,_,_,rfl,rfl,l1,?_⟩
   have c0:=Int.emod_nonneg z (show (ys'.length:Int)≠0 by omega)
   have c1:=Int.emod_lt_of_pos z l1
   obtain⟨y0,ey0,ay0⟩:=e5m (xs:=ys') (i:=(z%((ys'.length:Nat):Int))) c0 c1
   obtain⟨n0,_,d0⟩:=a2a h2 ey0
   obtain⟨osA,cA,kA,kAb,_⟩:=c1q h2 none (some (z%((ys'.length:Nat):Int)))
   obtain⟨osB,cB,kB,_,kBc⟩:=c1q h2 (some ((z%((ys'.length:Nat):Int))+1)) none
   obtain⟨osC,cC,kC,_,kCc⟩:=c1q h2 (some (z%((ys'.length:Nat):Int))) none
   have kAd:=kAb _ c0 rfl rfl
   have kBd:=kBc _ (by omega) (by omega) rfl
   have kCd:=kCc _ c0 (by omega) rfl
   have lA:=a6h ys' none (some (z%((ys'.length:Nat):Int)))
   have lB:=a6h ys' (some ((z%((ys'.length:Nat):Int))+1)) none
   have lC:=a6h ys' (some (z%((ys'.length:Nat):Int))) none
   refine⟨_,rfl,_,rfl,_,rfl,so',ys',rfl,SqL.of h1,λ p1 hp1=>?_⟩
   have u1:=Same.upd (o:=HO.lst (a8g ys' none (some (z%((ys'.length:Nat):Int))))) hp1
   refine⟨_,rfl,_,rfl,_,_,rfl,rfl,_,rfl,so',ys',rfl,SqL.of (u1 _ _ h1),λ p2 hp2=>?_⟩
   have u2:=Same.upd (o:=HO.lst (a8g ys' (some ((z%((ys'.length:Nat):Int))+1)) none)) hp2
   refine⟨p1,p2,_,_,rfl,rfl,u2 _ _ a0b,a0b,(by omega),λ p3 hp3=>?_⟩
   have u3:=Same.upd (o:=HO.lst (a8g ys' none (some (z%((ys'.length:Nat):Int)))++a8g ys' (some ((z%((ys'.length:Nat):Int))+1)) none)) hp3
   have w3:=(u1.trans u2).trans u3
   have a3:upd (upd (upd H2 p1 (.lst (a8g ys' none (some (z%((ys'.length:Nat):Int)))))) p2 (.lst (a8g ys' (some ((z%((ys'.length:Nat):Int))+1)) none))) p3 (.lst (a8g ys' none (some (z%((ys'.length:Nat):Int)))++a8g ys' (some ((z%((ys'.length:Nat):Int))+1)) none)) p3=some (.lst (a8g ys' none (some (z%((ys'.length:Nat):Int)))++a8g ys' (some ((z%((ys'.length:Nat):Int))+1)) none)):=a0b
   generalize upd (upd (upd H2 p1 (.lst (a8g ys' none (some (z%((ys'.length:Nat):Int)))))) p2 (.lst (a8g ys' (some ((z%((ys'.length:Nat):Int))+1)) none))) p3 (.lst (a8g ys' none (some (z%((ys'.length:Nat):Int)))++a8g ys' (some ((z%((ys'.length:Nat):Int))+1)) none))=G3 at *
   refine⟨_,rfl,_,rfl,_,rfl,so',_,_,_,rfl,rfl,SqL.of (w3 _ _ h1),ay0,(by show 1<=sizeLine;decide),λ p4 hp4=>?_⟩
   have u4:=Same.upd (o:=HO.lst [y0]) hp4
   refine⟨so',p4,_,_,rfl,rfl,u4 _ _ (w3 _ _ h1),a0b,(by show _+1<=sizeLine;omega),λ p5 hp5=>?_⟩
   have u5:=Same.upd (o:=HO.lst (ys'++[y0])) hp5
   have w45:=u4.trans u5
   have a5:upd (upd G3 p4 (.lst [y0])) p5 (.lst (ys'++[y0])) p5=some (.lst (ys'++[y0])):=a0b
   generalize upd (upd G3 p4 (.lst [y0])) p5 (.lst (ys'++[y0]))=G5 at *
   have w5:=w3.trans w45
   refine⟨_,rfl,_,rfl,_,rfl,so',ys',rfl,SqL.of (w5 _ _ h1),λ p6 hp6=>?_⟩
   have u6:=Same.upd (o:=HO.lst (a8g ys' (some (z%((ys'.length:Nat):Int))) none)) hp6
   refine⟨_,rfl,_,rfl,_,rfl,so',ys',rfl,SqL.of (u6 _ _ (w5 _ _ h1)),λ p7 hp7=>?_⟩
   have u7:=Same.upd (o:=HO.lst (a8g ys' none (some (z%((ys'.length:Nat):Int))))) hp7
   refine⟨p6,p7,_,_,rfl,rfl,u7 _ _ a0b,a0b,(by omega),λ p8 hp8=>?_⟩
   have u8:=Same.upd (o:=HO.lst (a8g ys' (some (z%((ys'.length:Nat):Int))) none++a8g ys' none (some (z%((ys'.length:Nat):Int))))) hp8
   have w68:=(u6.trans u7).trans u8
   have a8:upd (upd (upd G5 p6 (.lst (a8g ys' (some (z%((ys'.length:Nat):Int))) none))) p7 (.lst (a8g ys' none (some (z%((ys'.length:Nat):Int)))))) p8 (.lst (a8g ys' (some (z%((ys'.length:Nat):Int))) none++a8g ys' none (some (z%((ys'.length:Nat):Int))))) p8=some (.lst (a8g ys' (some (z%((ys'.length:Nat):Int))) none++a8g ys' none (some (z%((ys'.length:Nat):Int))))):=a0b
   generalize upd (upd (upd G5 p6 (.lst (a8g ys' (some (z%((ys'.length:Nat):Int))) none))) p7 (.lst (a8g ys' none (some (z%((ys'.length:Nat):Int)))))) p8 (.lst (a8g ys' (some (z%((ys'.length:Nat):Int))) none++a8g ys' none (some (z%((ys'.length:Nat):Int)))))=G8 at *
   have w8:=w5.trans w68
   refine⟨(by show 3<=sizeLine;decide),λ p9 hp9=>?_⟩
   have u9:=Same.upd (o:=HO.lst [.ref p3,.ref p5,.ref p8]) hp9
   have a9:upd G8 p9 (.lst [.ref p3,.ref p5,.ref p8]) p9=some (.lst [.ref p3,.ref p5,.ref p8]):=a0b
   have n3:p3≠p9:=λ y=>by rw[y] at a3;rw[(w45.trans w68) _ _ a3] at hp9;cases hp9
   have n5:p5≠p9:=λ y=>by rw[y] at a5;rw[w68 _ _ a5] at hp9;cases hp9
   have n8:p8≠p9:=λ y=>by rw[y] at a8;rw[a8] at hp9;cases hp9
   generalize upd G8 p9 (.lst [.ref p3,.ref p5,.ref p8])=G9 at *
   have w9:=w8.trans u9
   refine⟨_,rfl,.inl ⟨rfl,_,SqL.of a9⟩,_,rfl,_,rfl,_,rfl,so',ys',rfl,SqL.of (w9 _ _ h1),λ q1 hq1=>?_⟩
   have v1:=Same.upd (o:=HO.lst (a8g ys' none (some (z%((ys'.length:Nat):Int))))) hq1
   refine⟨_,rfl,_,_,rfl,rfl,⟨by decide,by decide⟩,_,_,rfl,rfl,(by show (0:Int) < 9;decide),_,_,rfl,rfl,_,rfl,_,_,rfl,rfl,⟨by decide,by decide⟩,_,_,rfl,rfl,(by show (0:Int) < 7;decide),_,_,rfl,rfl,(by show 2<=sizeLine;decide),λ q2 hq2=>⟨(by show 1<=sizeLine;decide),λ q3 hq3=>?_⟩⟩
   have v2:=Same.upd (o:=HO.tup [.int (z / 77%9+1),.int (z / 5%7 - 3)]) hq2
   have v3:=Same.upd (o:=HO.lst [.ref q2]) hq3
   refine⟨q1,q3,_,_,rfl,rfl,v3 _ _ (v2 _ _ a0b),a0b,(by show _+1<=sizeLine;omega),λ q4 hq4=>?_⟩
   have v4:=Same.upd (o:=HO.lst (a8g ys' none (some (z%((ys'.length:Nat):Int)))++[.ref q2])) hq4
   have v14:=((v1.trans v2).trans v3).trans v4
   refine⟨_,rfl,_,rfl,_,rfl,so',ys',rfl,SqL.of (v14 _ _ (w9 _ _ h1)),λ q5 hq5=>?_⟩
   have v5:=Same.upd (o:=HO.lst (a8g ys' (some (z%((ys'.length:Nat):Int))) none)) hq5
   refine⟨q4,q5,_,_,rfl,rfl,v5 _ _ a0b,a0b,(by rw[List.length_append];show _+1+_<=sizeLine;omega),λ q6 hq6=>?_⟩
   have v6:=Same.upd (o:=HO.lst ((a8g ys' none (some (z%((ys'.length:Nat):Int)))++[.ref q2])++a8g ys' (some (z%((ys'.length:Nat):Int))) none)) hq6
   have v16:=(v14.trans v5).trans v6
   have nq6:q6≠p9:=λ y=>by rw[y,(v14.trans v5) _ _ a9] at hq6;cases hq6
   have hq2':=((v3.trans v4).trans (v5.trans v6)) q2 _ a0b
   refine⟨p9,_,_,rfl,rfl,v16 _ _ a9,(by show 3 < sizeLine;decide),λ H' h' k'=>?_⟩
   have aq6:=k' q6 _ nq6 a0b
   have kk:∀ b x,b≠p9->G9 b=some x->H' b=some x:=λ b x nb eb=>k' b x nb (v16 _ _ eb)
   have kt:∀ b xs,H2 b=some (.tup xs)->H' b=some (.tup xs):=λ b xs eb=>kk b _ (λ y=>by have:=w9 _ _ eb;rw[y,a9] at this;cases this) (w9 _ _ eb)
   have hq2'':=k' q2 _ (λ y=>by rw[y,v1 _ _ a9] at hq2;cases hq2) hq2'
   have so9:so'≠p9:=λ y=>by have:=w8 _ _ h1;rw[y,hp9] at this;cases this
   have tr':Tr H' v (a3j p'):=(h7.fr λ b hb x eb=>kk b x (λ y=>by
    have e1:=w8 _ _ eb
    rw[y,hp9] at e1;cases e1) (w9 _ _ eb)).tr |> λ _=>by
     exact h4.same (λ b x eb=>kk b x (λ y=>by
      have e1:=w8 _ _ eb
      rw[y,hp9] at e1;cases e1) (w9 _ _ eb))
   refine⟨_,rfl,_,rfl,_,_,rfl,rfl,⟨by decide,by decide⟩,_,_,rfl,rfl,(by show (0:Int) < 4;decide),?_⟩
   have h4':z / 33%4=0\/z / 33%4=1\/z / 33%4=2\/z / 33%4=3:=by omega
   have dn:∀ {y:V} {n:Nk},NdV H2 y n->NdV H' y n:=λ h=>e9u kt h
   rcases h4' with e4 | e4 | e4 | e4
   ·exact⟨p9,_,_,.ref p3,rfl,rfl,SqL.of h',a0y 0 e4 rfl,p3,_,osA++osB,p',_,_,_,_,rfl,kk _ _ n3 (u9 _ _ ((w45.trans w68) _ _ a3)),a1x (b2c kt cA) (b2c kt cB),by rw[List.length_append];omega,tr',h5,λ y=>by omega⟩
   ·exact⟨p9,_,_,.ref p5,rfl,rfl,SqL.of h',a0y 1 e4 rfl,p5,_,os'++[n0],p',_,_,_,_,rfl,kk _ _ n5 (u9 _ _ (w68 _ _ a5)),a1x (b2c kt h2) (.cons (dn d0) .nil),by rw[List.length_append];show _+1<=40;omega,tr',h5,λ y=>by omega⟩
   ·exact⟨p9,_,_,.ref p8,rfl,rfl,SqL.of h',a0y 2 e4 rfl,p8,_,osC++osA,p',_,_,_,_,rfl,kk _ _ n8 (u9 _ _ a8),a1x (b2c kt cC) (b2c kt cA),by rw[List.length_append];omega,tr',h5,λ y=>by omega⟩
   ·exact⟨p9,_,_,.ref q6,rfl,rfl,SqL.of h',a0y 3 e4 rfl,q6,_,(osA++[(z / 77%9+1,z / 5%7 - 3)])++osC,p',_,_,_,_,rfl,aq6,a1x (a1x (b2c kt cA) (.cons ⟨q2,rfl,hq2''⟩ .nil)) (b2c kt cC),by rw[List.length_append,List.length_append];show _+1+_<=40;omega,tr',h5,λ y=>by omega⟩
  rintro σ H2 iv7
  refine⟨e3g v p f o way z 8,?_,?_⟩
  ·have iv8:=iv7.up
   obtain⟨so',ys',os',p',x5,x6,x7,x8,rfl,h1,h2,h3,h4,h5,h6⟩:=iv7
   refine⟨_,rfl,rfl,_,rfl,b1n (λ e=>?_) (λ e=>b5e iv8)⟩
   have e3:way=7:=V.int.inj (of_decide_eq_true e)
   obtain⟨h7,h8,h9⟩:=h6 (by omega)
   obtain⟨a,l,m,lv,mv,fl,fm,rfl,ef0,ha,hl,tl,hm,tm⟩:=a9u h7
   have nd':=nd
   rw[ef0] at nd'
   have llv:lv.length=p.1.length:=by rw[tl.len,List.length_map]
   refine⟨_,rfl,a,_,_,_,rfl,rfl,SqT.of ha,a0i (j:=0) rfl,(by show 0<=sizeLine;decide),λ el hel=>?_⟩
   have s3:=Same.upd (o:=HO.lst []) hel
   refine⟨.list (p.1.map a1p),.list [],.lst (SqL.of (s3 _ _ hl)) (tl.trs.same s3).dts,.lst (SqL.of a0b) .nil,d0w (λ d hd=>(gp.good.2.2 d hd).1),rfl,_,rfl,?_⟩
   rw[c3t]
   by_cases hne:p.1=[]
   ·rw[decide_eq_true hne]
    exact b5e ⟨so',ys',os',p',_,_,_,_,rfl,s3 _ _ h1,a4m s3 h2,h3,h4.same s3,h5,λ y=>by omega⟩
   rw[decide_eq_false hne]
   refine c7z ?_
   have n0:0 < lv.length:=by rw[llv];exact List.length_pos_iff.mpr hne
   obtain⟨hi,v0,ev0,av0⟩:=d3r (xs:=lv) z rfl n0
   have ixm:=f0c (n:=lv.length) z n0
   generalize (z%((lv.length:Nat):Int)).toNat=ix at hi ev0 ixm
   obtain⟨d,hd⟩:∃ d,p.1[ix]?=some d:=⟨_,List.getElem?_eq_getElem (by omega)⟩
   obtain⟨x,f1,f2,f3,ex,ef,tx,put⟩:=tl.focus (i:=ix) (d:=a1p d) (by rw[List.getElem?_map,hd];rfl)
   rw[ev0] at ex
   cases ex
   obtain⟨t,L,lkv,g,rfl,ef2,ht,hL,tL⟩:=b7a tx
   refine⟨_,rfl,_,rfl,a,_,_,_,rfl,rfl,SqT.of (s3 _ _ ha),a0i (j:=0) rfl,_,_,rfl,.inl ⟨_,SqL.of (s3 _ _ hl),rfl⟩,_,_,rfl,rfl,(by omega),?_⟩
   refine⟨(by show 5<=sizeLine;decide),λ w5 hw5=>?_⟩
   have s5:=Same.upd (o:=HO.lst [.str "loose",.str "kept",.str "make",.str "watch",.str "hold"]) hw5
   have s35:=s3.trans s5
   obtain⟨x,hx,ax⟩:∃ x∈wds,atI [V.str "loose",.str "kept",.str "make",.str "watch",.str "hold"] (z / 9%5)=some (.str x):=by
    have h5':z / 9%5=0\/z / 9%5=1\/z / 9%5=2\/z / 9%5=3\/z / 9%5=4:=by omega
    rcases h5' with e | e | e | e | e
    ·exact⟨_,by decide +kernel,a0y 0 e rfl⟩
    ·exact⟨_,by decide +kernel,a0y 1 e rfl⟩
    ·exact⟨_,by decide +kernel,a0y 2 e rfl⟩
    ·exact⟨_,by decide +kernel,a0y 3 e rfl⟩
    ·exact⟨_,by decide +kernel,a0y 4 e rfl⟩
   refine⟨_,rfl,_,_,rfl,rfl,⟨by decide,by decide⟩,_,_,rfl,rfl,(by show (0:Int) < 5;decide),w5,_,_,_,rfl,rfl,SqL.of a0b,ax,?_⟩
   refine⟨_,rfl,a,_,_,_,rfl,rfl,SqT.of (s35 _ _ ha),a0i (j:=0) rfl,_,rfl,l,_,_,_,rfl,rfl,SqL.of (s35 _ _ hl),av0,t,_,_,_,rfl,rfl,SqT.of (s35 _ _ ht),a0i (j:=0) rfl,_,rfl,_,rfl,a,_,_,_,rfl,rfl,SqT.of (s35 _ _ ha),a0i (j:=0) rfl,_,rfl,l,_,_,_,rfl,rfl,SqL.of (s35 _ _ hl),av0,t,_,_,_,rfl,rfl,SqT.of (s35 _ _ ht),a0i (j:=2) rfl,(by show 3<=sizeLine;decide),λ np hnp=>?_⟩
   have s6:=Same.upd (o:=HO.tup [.int d.1,.str x,.ref L]) hnp
   have s36:=s35.trans s6
   refine⟨_,rfl,a,_,_,_,rfl,rfl,SqT.of (s36 _ _ ha),a0i (j:=0) rfl,_,rfl,l,lv,_,ix,rfl,rfl,s36 _ _ hl,ixm,λ H' h' k'=>?_⟩
   have kk:∀ b o,b≠l->H2 b=some o->H' b=some o:=λ b o nb eb=>k' b o nb (s36 _ _ eb)
   obtain⟨n1,n2⟩:=List.nodup_cons.mp nd'
   obtain⟨n6,n7⟩:=List.nodup_cons.mp (nd2.mp n2).1
   have inl':∀ b∈f2,b≠l:=λ b hb y=>n6 (by rw[<-y,ef];exact List.mem_append_right _ (List.mem_append_left _ hb))
   have npl:np≠l:=λ y=>by rw[y,s35 _ _ hl] at hnp;cases hnp
   have lf:l∈f:=by rw[ef0];exact .tail _ (List.mem_append_left _ (.head _))
   have tnew:TF H' (.ref np) (a1p (d.1,x,d.2.2)) (np::L::g):=.tup (k' _ _ npl a0b) (TFs.cons (f:=[]) (.int _) (TFs.cons (f:=[]) (.str _) (TFs.one (.lst (kk _ _ (inl' L (by rw[ef2];exact .tail _ (.head _))) hL) (tL.fr λ b hb o eb=>kk b o (inl' b (by rw[ef2];exact .tail _ (.tail _ hb))) eb)))))
   refine⟨so',ys',os',(p.1.set ix (d.1,x,d.2.2),p.2),_,_,_,_,rfl,kk _ _ (λ y=>h8 (y ▸ lf)) h1,b2c (λ b xs eb=>kk b _ (λ y=>by rw[y,hl] at eb;cases eb) eb) h2,h3,d6r (k:=l) ha hl tl hm tm nd' hd h' kk ⟨_,tnew⟩,?_,λ y=>by omega⟩
   have hdm:=List.mem_of_getElem? hd
   exact gp.setD hd rfl hx (gp.good.2.2 d hdm).2 (gp.looks d hdm)
  rintro σ H2 ⟨so',ys',os',p',x5,x6,x7,x8,rfl,h1,h2,h3,h4,h5,h6⟩
  exact⟨_,rfl,q so' H2 ys' os' p' h1 h2 h3 h4 h5⟩
--@STAGE
theorem c9m {H:Hp}:∀ {ys:List V} {os:List Pr},Trs H ys (os.map b4p)->Nds H ys os
 | _,[],h=>by cases h;exact .nil
 | _,x::r,h=>by
  cases h with
  | cons h t =>
   obtain⟨a,e,ha⟩:=c0l h
   exact .cons ⟨a,e,ha⟩ (c9m t)
theorem GP.gm {p:Ps} (g:GP p):d1v p:=⟨by have:=g.many;omega,λ r hr=>by have:=(g.makes r hr).2;omega,λ d hd l hl=>by have:=g.looks d hd l hl;omega⟩
theorem e2i {p:Ps} (h:∀ d∈p.1,d.2.1∈wds) (os:List Nk):(PyData.list [a3j p,.list (os.map dN)]).canLay0=true/\SeqAt.shaped (.list [a3j p,.list (os.map dN)])=true:=by
 obtain⟨a1,a2,_⟩:=e2j h
 obtain⟨b1,b2⟩:=e2g os
 have c1:(PyData.list [a3j p,.list (os.map dN)]).canLay0=true:=by
  show ((a3j p).canLay0 && (PyData.canLayAll0 (os.map dN) && true))=true
  rw[a1,b1]
  rfl
 refine⟨c1,?_⟩
 unfold SeqAt.shaped
 rw[c1,decide_eq_true (by show max (a3j p).depth (max (PyData.depthAll (os.map dN)+1) 0)+1<=_;omega)]
 rfl
theorem d1o {a b:Bool} {P:Prop} (h1:a=true ↔ P) (h2:b=true ↔ P):a=b:=by
 rw[Bool.eq_iff_iff,h1,h2]
theorem e1l:c3i ([],[])/\d1v ([],[])/\c5l ([],[])/\e7w ([],[]):=⟨⟨by decide,.nil,(λ d hd=>by cases hd)⟩,⟨by decide,(λ d hd=>by cases hd),(λ d hd=>by cases hd)⟩,.nil,(λ r hr=>by cases hr)⟩
theorem d9c {H H':Hp} {a l m:Addr} {lv mv:List V} {fl fm:List Addr} {p:Ps} {i:Nat} {np:Addr} {d:Dl} {x:Str} (ha:H a=some (.tup [.ref l,.ref m])) (hl:H l=some (.lst lv)) (tl:TFs H lv (p.1.map a1p) fl) (hm:H m=some (.lst mv)) (tm:TFs H mv (p.2.map a4z) fm) (nd:(a::(l::fl++(m::fm))).Nodup)
  (hd:p.1[i]?=some d) (hl':H' l=some (.lst (lv.set i (.ref np)))) (kp:∀ b o,b≠l->H b=some o->H' b=some o) (nnp:np ∉ a::(l::fl++(m::fm))) {t L:Addr} (ht:lv[i]?=some (.ref t)) (htt:H t=some (.tup [.int d.1,.str d.2.1,.ref L])) (hnp:H' np=some (.tup [.int d.1,.str x,.ref L])):∃ f',TF H' (.ref a) (a3j (p.1.set i (d.1,x,d.2.2),p.2)) f'/\f'.Nodup/\∀ b∈f',b∈a::(l::fl++(m::fm))\/b=np:=by
 obtain⟨n1,n2⟩:=List.nodup_cons.mp nd
 obtain⟨n3,n4,n5⟩:=nd2.mp n2
 obtain⟨n6,n7⟩:=List.nodup_cons.mp n3
 have al:a≠l:=λ z=>n1 (by rw[z];exact List.mem_append_left _ (.head _))
 have ml:∀ b∈m::fm,b≠l:=λ b hb z=>n5 b hb (by rw[z];exact .head _)
 obtain⟨y,f1,f2,f3,ex,ef,tf,put⟩:=tl.focus (i:=i) (d:=a1p d) (by rw[List.getElem?_map,hd];rfl)
 rw[ht] at ex
 cases ex
 obtain⟨t',L',lkv,g,e0,ef2,ht',hL,tL⟩:=b7a tf
 cases e0
 rw[htt] at ht'
 cases ht'
 have fll:∀ b∈fl,b≠l:=λ b hb z=>n6 (z ▸ hb)
 have f2l:∀ b∈f2,b≠l:=λ b hb=>fll b (by rw[ef];exact List.mem_append_right _ (List.mem_append_left _ hb))
 have tnew:TF H' (.ref np) (a1p (d.1,x,d.2.2)) (np::L::g):=.tup hnp (TFs.cons (f:=[]) (.int _) (TFs.cons (f:=[]) (.str _) (TFs.one (.lst (kp _ _ (f2l L (by rw[ef2];exact .tail _ (.head _))) hL) (tL.fr λ b hb o eb=>kp b o (f2l b (by rw[ef2];exact .tail _ (.tail _ hb))) eb)))))
 have t1:=put H' (.ref np) (a1p (d.1,x,d.2.2)) _ (λ b hb o eb=>kp b o (fll b (by rw[ef];rcases List.mem_append.mp hb with y | y;exact List.mem_append_left _ y;exact List.mem_append_right _ (List.mem_append_right _ y))) eb) tnew
 rw[<-List.map_set] at t1
 have e3:f1++(f2++f3)=f1++t::((L::g)++f3):=by rw[ef2];rfl
 refine⟨a::(l::(f1++(np::L::g++f3))++(m::fm)),.tup (kp _ _ al ha) (TFs.cons (.lst hl' t1) (TFs.one (.lst (kp _ _ (ml m (.head _)) hm) (tm.fr λ b hb o eb=>kp b o (ml b (.tail _ hb)) eb)))),?_,λ b hb=>?_⟩
 ·have key:a::(l::fl++(m::fm))=(a::l::f1)++t::((L::g)++f3++(m::fm)):=by
   rw[ef,e3]
   simp
  have key2:a::(l::(f1++(np::L::g++f3))++(m::fm))=(a::l::f1)++np::((L::g)++f3++(m::fm)):=by simp
  rw[key2]
  rw[key] at nd nnp
  refine e8q nd λ z=>nnp ?_
  rcases List.mem_append.mp z with y | y
  ·exact List.mem_append_left _ y
  ·exact List.mem_append_right _ (.tail _ y)
 ·have key:a::(l::fl++(m::fm))=(a::l::f1)++t::((L::g)++f3++(m::fm)):=by
   rw[ef,e3]
   simp
  have key2:a::(l::(f1++(np::L::g++f3))++(m::fm))=(a::l::f1)++np::((L::g)++f3++(m::fm)):=by simp
  rw[key2] at hb
  rw[key]
  rcases List.mem_append.mp hb with y | y
  ·exact .inl (List.mem_append_left _ y)
  ·rcases List.mem_cons.mp y with y | y
   ·exact .inr y
   ·exact .inl (List.mem_append_right _ (.tail _ y))
def d6m (x:Str) (d:Dl):Dl:=(d.1,x,d.2.2)
def c9e (x:Str) (p:Ps):Ps:=(p.1.map (d6m x),p.2)
theorem e4q (x:Str) (p:Ps) (n:Int):c2e (c9e x p) n=(c2e p n).map (d6m x):=by
 unfold c2e c9e
 rw[List.find?_map]
 rfl
theorem e6v (x:Str) (p:Ps) (os:List Nk):d4a none (c9e x p) os=d4a (some x) p os:=by
 have eK:a3t none (c9e x p) os=a3t (some x) p os:=by
  funext n
  unfold a3t
  rw[e4q]
  cases c2e p n<;>rfl
 have eF:a7q none (c9e x p) os=a7q (some x) p os:=by
  funext n
  unfold a7q
  rw[e4q]
  cases c2e p n<;>rfl
 have ep:a9g none (c9e x p).1 os=a9g (some x) p.1 os:=by
  have h1:((c9e x p).1.all λ d=>b1f os d.1 (-1) (b7s none d))=p.1.all λ d=>b1f os d.1 (-1) (b7s (some x) d):=by
   show (p.1.map (d6m x)).all _=_
   rw[List.all_map]
   rfl
  have h2:((c9e x p).1.map λ d=>a0q (a2p none d) (d.2.2.length:Int))=p.1.map λ d=>a0q (a2p (some x) d) (d.2.2.length:Int):=by
   show (p.1.map (d6m x)).map _=_
   rw[List.map_map]
   rfl
  unfold a9g
  rw[h1,h2]
 have ed:∀ d,b9a none (c9e x p) os (d6m x d)=b9a (some x) p os d:=λ d=>by
  unfold b9a
  congr 1
  funext k
  unfold c7j
  congr 1
  funext q
  unfold d1j
  rw[eK]
  rfl
 unfold d4a
 rw[eK,eF,ep]
 congr 2
 show (p.1.map (d6m x)).all _=_
 rw[List.all_map]
 congr 1
 funext d
 exact ed d
theorem e6e (x:Str) (p:Ps):(c9e x p).1.map (·.1)=p.1.map (·.1):=by
 show (p.1.map (d6m x)).map (·.1)=_
 rw[List.map_map]
 rfl
theorem GP.rel {p:Ps} (g:GP p) {x:Str} (hx:x∈wds):GP (c9e x p):=by
 have e:=e6e x p
 refine⟨⟨by show (p.1.map (d6m x)).length<=8;rw[List.length_map];exact g.good.1,by rw[e];exact g.good.2.1,λ d hd=>?_⟩,(by unfold c5l;rw[e];exact g.rise),λ r hr n hn=>?_,g.nk,g.many,g.makes,λ d hd=>?_⟩
 ·obtain⟨d',hd',rfl⟩:=List.mem_map.mp hd
  exact⟨hx,(g.good.2.2 d' hd').2⟩
 ·obtain⟨d,hd,e2⟩:=g.inm r hr n hn
  exact⟨_,List.mem_map.mpr ⟨d,hd,rfl⟩,e2⟩
 ·obtain⟨d',hd',rfl⟩:=List.mem_map.mp hd
  exact g.looks d' hd'
theorem wd5 (z:Int):∃ x∈wds,atI [V.str "loose",.str "kept",.str "make",.str "watch",.str "hold"] (z%5)=some (.str x):=by
 have h5':z%5=0\/z%5=1\/z%5=2\/z%5=3\/z%5=4:=by omega
 rcases h5' with e | e | e | e | e
 ·exact⟨_,by decide +kernel,a0y 0 e rfl⟩
 ·exact⟨_,by decide +kernel,a0y 1 e rfl⟩
 ·exact⟨_,by decide +kernel,a0y 2 e rfl⟩
 ·exact⟨_,by decide +kernel,a0y 3 e rfl⟩
 ·exact⟨_,by decide +kernel,a0y 4 e rfl⟩
theorem f4m (z:Int):∃ x:Str,x ∉ wds/\b7p x/\atI [V.str "",.str "Watch",.str "keep",.str "holds",.str "any"] (z%5)=some (.str x):=by
 have h5':z%5=0\/z%5=1\/z%5=2\/z%5=3\/z%5=4:=by omega
 rcases h5' with e | e | e | e | e
 ·exact⟨_,by decide +kernel,by unfold b7p;decide +kernel,a0y 0 e rfl⟩
 ·exact⟨_,by decide +kernel,by unfold b7p;decide +kernel,a0y 1 e rfl⟩
 ·exact⟨_,by decide +kernel,by unfold b7p;decide +kernel,a0y 2 e rfl⟩
 ·exact⟨_,by decide +kernel,by unfold b7p;decide +kernel,a0y 3 e rfl⟩
 ·exact⟨_,by decide +kernel,by unfold b7p;decide +kernel,a0y 4 e rfl⟩
--@STAGE
def e9x:Sp:=λ vs H Q _=>∃ (v:V) (o:Addr) (p:Ps) (ys:List V) (os:List Nk) (x:Str),vs=[v,.ref o,.str x]/\Tr H v (a3j p)/\c3i p/\d1v p/\c5l p/\e7w p/\H o=some (.lst ys)/\Nds H ys os/\os.length < 64/\b7p x/\x ∉ wds/\∀ H',Q (.bl true) H'
theorem c3b (T:Tx K mg):a4j P w K mg base CX0 6 T.b3o T.b3j ["_law_past_here","_law_order","_law_word"] e9x:=by
 refine T.b3v.ok b0b (λ vs H Q E h=>?_) (λ cdv A outer s H vs Q E hr h=>?_)
 ·obtain⟨v,o,p,ys,os,x,rfl,_⟩:=h
  rfl
 ·obtain⟨v,o,p,ys,os,x,rfl,tr,g1,g2,g3,g4,ho,hn,hz,fx,nx,q⟩:=h
  have hu:=a9a hr
  refine⟨_,(a0e (a0n (i:=3) b0b.nd rfl (Or.inl rfl) b2a)
   (a0e (e5y (j:=4) ((b2w T).mono (by decide)) hr rfl T.b2i T.a9p.kp T.b5u (a0a (pv 0) (a0a (pv 1) (a0a (pv 2) a0d))) T.b8s rfl b0b.nd rfl rfl rfl rfl (λ ea=>(a0g (a0n (i:=3) b0b.nd rfl (Or.inl rfl) (d7n (a1a (c8k (K:=K) rfl) (by rfl) T.a5i boot_isinstance (a0a (pv 4) (a0a (d3f (v:=V.ref T.a2k) rfl T.c8w rfl) a0d))) (d9m (f0p (a1a (c8k (K:=K) rfl) (by rfl) T.a5i boot_isinstance (a0a (pv 4) (a0a (d3f (v:=V.ref T.b0k) rfl T.c1p rfl) a0d))))))))))
   (a0g (a0u (pv 3))))),?_⟩
  refine⟨_,rfl,_,rfl,_,rfl,v,o,p,some x,ys,os,rfl,tr,g1,g2,g3,g4,ho,hn,hz,(λ y ey=>by cases ey;exact fx),(λ h=>absurd (h x rfl) nx),λ y ey n H1 s1=>⟨_,rfl,T.a7d.sub,λ ea he=>?_⟩⟩
  refine⟨_,rfl,ea,_,true,_,rfl,a0b,T.b7y,.inl ⟨_,rfl,T.a8o.one⟩,true,rfl,c7z ?_⟩
  refine⟨_,rfl,ea,_,false,_,rfl,a0b,T.b7y,.inl ⟨_,rfl,T.a7c.one⟩,false,rfl,?_⟩
  exact⟨_,rfl,q _⟩
--@STAGE
theorem f1g (T:Tx K mg):a4j P w K mg base CX0 7 T.e2q T.e1x ["_law_script"] (e4j K):=by
 refine T.f0y.ok a8n (λ vs H Q E h=>?_) (λ cdv A outer s H vs Q E hr h=>?_)
 ·obtain⟨a,cs,rfl,_⟩:=h
  rfl
 ·obtain⟨a,cs,rfl,ha,hcs,hbits,q⟩:=h
  have hu:=a9a hr
  refine⟨_,(a0e (a0n (i:=1) a8n.nd rfl (Or.inl rfl) (a0l ((b3u T).mono (by decide)) hr rfl T.b4n T.b2g.kp T.b4t .nil a1l (a0a (pv 0) (a0a a0c a0d))))
   (a0e (a0n (i:=2) a8n.nd rfl (Or.inr rfl) (a0m a0v (a1o (a0a a1c (a0a a1c (a0a a1c (a0a a1c (a0a a1c a0d)))))) (a0x a1v (a0l ((a1s T).mono (by decide)) hr rfl T.a2o T.a1w.kp T.a2m .nil a1l (a0a (pv 1) (a0a a0c a0d))) a0c) (λ _ _=>rfl)))
   (a0e (a0n (i:=3) a8n.nd rfl (Or.inl rfl) (a0l ((c3j T).mono (by decide)) hr rfl T.b5w T.b0i.kp T.b6s .nil a1l (a0a (pv 0) (a0a (pv 2) a0d))))
   (a0e (a0n (i:=4) a8n.nd rfl (Or.inl rfl) (a0l ((c3l T).mono (by decide)) hr rfl T.b6c T.b1b.kp T.b6u .nil a1l (a0a (pv 0) (a0a (pv 3) a0d))))
   (a0e (a0n (i:=5) a8n.nd rfl (Or.inl rfl) (a0l ((e1d T).mono (by decide)) hr rfl T.d8l T.d1i.kp T.d6v .nil a1l (a0a (pv 0) (a0a (pv 3) (a0a (pv 4) a0d)))))
   (a0e (a2q PassesOwn.never rfl (a1q rfl T.a2y (a0a (a1a a1h (by rfl) T.a5u boot_len (a0a (a0m a0w (pv 5) a0c (λ _ _=>rfl)) a0d)) a0d)) (a0j (i:=6) a8n.nd rfl (Or.inl rfl))
   (a0e (a0n (i:=7) a8n.nd rfl (Or.inl rfl) (a0m a0v (a1o (a0a a1c (a0a a1c (a0a a1c (a0a a1c (a0a a1c a0d)))))) (a0x a1v (a0l ((a1s T).mono (by decide)) hr rfl T.a2o T.a1w.kp T.a2m .nil a1l (a0a (pv 1) (a0a (a0x a3v a0c (pv 6)) a0d))) a0c) (λ _ _=>rfl)))
   (a0g (b8j (a2b (a0a (a0m a0w (a0m a0v (a0m a0w (pv 5) a0c (λ _ _=>rfl)) (pv 6) (λ _ _=>rfl)) a0c (λ _ _=>rfl)) (a0a (pv 7) (a0a (a0m a0w (a0m a0v (a0m a0w (pv 5) a0c (λ _ _=>rfl)) (pv 6) (λ _ _=>rfl)) a0c (λ _ _=>rfl)) a0d)))) (d3s (a0m a0w (pv 5) a0c (λ _ _=>rfl)) (pv 6) b5n)))))
   (a0e (a0n (i:=4) a8n.nd rfl (Or.inl rfl) (a0l ((c5u T).mono (by decide)) hr rfl T.b8i T.b1s.kp T.b8n .nil a1l (a0a (pv 5) (a0a (pv 4) (a0a (a0x a1v (a0l ((a1s T).mono (by decide)) hr rfl T.a2o T.a1w.kp T.a2m .nil a1l (a0a (pv 1) (a0a a0c a0d))) a0c) (a0a (a0l ((a1s T).mono (by decide)) hr rfl T.a2o T.a1w.kp T.a2m .nil a1l (a0a (pv 1) (a0a a0c a0d))) a0d))))))
   (a0e (a0n (i:=8) a8n.nd rfl (Or.inl rfl) (a0l ((e7e T).mono (by decide)) hr rfl T.e5a T.d7f.kp T.e4u .nil a1l (a0a (pv 5) (a0a (pv 4) (a0a (pv 2) a0d)))))
   (a0e (a0n (i:=9) a8n.nd rfl (Or.inl rfl) (a1o (a0a (a0l ((d5n T).mono (by decide)) hr rfl T.c9q T.c2t.kp T.c9v .nil a1l (a0a (pv 5) a0d)) (a0a (a2i a5h (by rfl) T.b4b boot_list (a0a (pv 4) a0d)) a0d))))
   (a0e (a0n (i:=10) a8n.nd rfl (Or.inl rfl) (a0l ((b2w T).mono (by decide)) hr rfl T.b2i T.a9p.kp T.b5u .nil e1a (a0a (a0m a0v (pv 9) a0c (λ _ _=>rfl)) (a0a (a0m a0v (pv 9) a0c (λ _ _=>rfl)) (a0a (pv 2) a0d)))))
   (a0e (a3r (PW.pt (e0k (c8g (c2y (a1a e1j (by rfl) T.a5i boot_isinstance (a0a (pv 10) (a0a (e7b (v:=V.ty "bool") rfl T.d4x boot_bool rfl) a0d))))) (e0k (a0t d3h (pv 10) (pv 8) (a0z _)) (d4u (a0t (c4r hr.units) (pv 9) (a1o (a0a (pv 5) (a0a (pv 4) a0d))) (a0z _))))))
   (a0g (a0u b2a))
   a1d)
   (a0e (a0n (i:=11) a8n.nd rfl (Or.inl rfl) (a2b (a0a (a3k ["_law_number","_law_own","_law_looks"] rfl (a3c.mk (fv:=["_law_word"]) (js:=[2]) rfl (by decide +kernel) (by decide +kernel) (by decide +kernel) (a1n (Or.inl rfl) a2n) rfl (by decide +kernel)) (a1t (a0m a0w (pv 5) a0c (λ _ _=>rfl))) (λ _ _ _ _ _=>(c2j (K:=K) (n:=3) rfl rfl (a0s (a0j (i:=0) (show (["_law_number","_law_own","_law_looks","_law_word"]:List Str).Nodup by decide +kernel) rfl (Or.inl rfl)) (a0s (a0j (i:=1) (show (["_law_number","_law_own","_law_looks","_law_word"]:List Str).Nodup by decide +kernel) rfl (Or.inl rfl)) (a0s (a0j (i:=2) (show (["_law_number","_law_own","_law_looks","_law_word"]:List Str).Nodup by decide +kernel) rfl (Or.inl rfl)) a4n))))) (λ _ _ _ _ _=>a9r) (λ _ _ _ _ _=>(a2b (a0a (pv 0) (a0a (pv 3) (a0a (pv 2) a0d)))))) (a0a (a0m a0w (pv 5) a0c (λ _ _=>rfl)) a0d))))
   (a0e (a3r (PW.pt (e0k (a0t d3h (a0l ((b2w T).mono (by decide)) hr rfl T.b2i T.a9p.kp T.c5c (show a3o [V.non] [Value.none] from .cons rfl .nil) e1a (a0a (pv 11) (a0a (a2i a5h (by rfl) T.b4b boot_list (a0a (pv 4) a0d)) a0d))) (pv 8) (a0z _)) (d4u (a0t d3h (a0l ((b2w T).mono (by decide)) hr rfl T.b2i T.a9p.kp T.b5u .nil e1a (a0a (pv 11) (a0a (a2i a5h (by rfl) T.b4b boot_list (a0a (pv 4) a0d)) (a0a b5s a0d)))) (pv 8) (a0z _)))))
   (a0g (a0u b2a))
   a1d)
   (a0e (a0n (i:=12) a8n.nd rfl (Or.inl rfl) (a0m a0v (a1o (a0a a1c (a0a a1c (a0a a1c (a0a a1c (a0a a1c a0d)))))) (a0x a1v (a0l ((a1s T).mono (by decide)) hr rfl T.a2o T.a1w.kp T.a2m .nil a1l (a0a (pv 1) (a0a a0c a0d))) a0c) (λ _ _=>rfl)))
   (a0g (a0u (d7n (a0l ((c3b T).mono (by decide)) hr rfl T.b7r T.b3v.kp T.b7u .nil a1l (a0a (a0m a0v (pv 9) a0c (λ _ _=>rfl)) (a0a (a0m a0v (pv 9) a0c (λ _ _=>rfl)) (a0a (pv 12) a0d)))) (d9m (a0l ((c3b T).mono (by decide)) hr rfl T.b7r T.b3v.kp T.b7u .nil a1l (a0a (a2b (a0a (a1o a0d) (a0a (a1o a0d) a0d))) (a0a (a1o a0d) (a0a (pv 12) a0d)))))))))))))))))))))),?_⟩
  have z9:(2000:Nat)<=sizeLine:=by decide
  refine⟨_,rfl,a,cs,1,rfl,ha,by decide,λ c=>?_⟩
  obtain⟨x,hx,ax⟩:=wd5 (b9g c 32)
  refine⟨(by show 5<=sizeLine;decide),λ w0 hw0=>⟨_,rfl,c,32,rfl,_,_,rfl,rfl,(by show (0:Int) < 5;decide),w0,_,_,_,rfl,rfl,SqL.of a0b,ax,?_⟩⟩
  have s0:=Same.upd (o:=HO.lst [.str "loose",.str "kept",.str "make",.str "watch",.str "hold"]) hw0
  refine⟨_,rfl,_,rfl,a,cs,.str x,rfl,s0.seq ha,.inr ⟨x,hx,rfl⟩,λ v1 H1 ds s1 t1 gd _=>?_⟩
  refine⟨_,rfl,_,rfl,a,cs,v1,ds,rfl,(s0.trans s1).seq ha,t1.same c7l,gd,λ v2 H2 os s2 t2 wk lo=>?_⟩
  have s12:=(s0.trans s1).trans s2
  refine⟨_,rfl,_,rfl,_,rfl,a,cs,v1,v2,ds,os,rfl,s12.seq ha,(t1.same c7l).same s2,t2.same c7l,gd,wk,(by omega),λ v3 H3 p0 f0 s3 tf0 nf0 ff0 gp0=>?_⟩
  obtain⟨o,ys,rfl,ho,hn⟩:=b1a (t2.same c7l)
  have hn2:=a4m s3 (c9m hn)
  have ho3:=s3 _ _ ho
  have of0:o ∉ f0:=λ z=>by rw[ff0 o z] at ho;cases ho
  obtain⟨pa,l,m,lv,mv,fl,fm,rfl,ef0,hpa,hl,tl,hm,tm⟩:=a9u tf0
  have llv:lv.length=p0.1.length:=by rw[tl.len,List.length_map]
  have l8:=gp0.good.1
  have lf0:l∈f0:=by rw[ef0];exact .tail _ (List.mem_append_left _ (.head _))
  refine⟨_,rfl,pa,_,_,_,rfl,rfl,SqT.of hpa,a0i (j:=0) rfl,_,_,rfl,.inl ⟨_,SqL.of hl,rfl⟩,_,rfl,(by omega),(by omega),a2h (n:=((lv.length:Nat):Int).toNat) (λ k σ H4=>∃ (x6 x7:Option V) (p:Ps) (f:List Addr),σ=[some (.ref a),some (.int c),some (.str x),some v1,some (.ref o),some (.ref pa),x6,x7,none,none,none,none,none]/\TF H4 (.ref pa) (a3j p) f/\f.Nodup/\GP p/\p.1.length=p0.1.length/\H4 o=some (.lst ys)/\Nds H4 ys os/\o ∉ f) ⟨none,none,p0,f0,rfl,tf0,nf0,gp0,rfl,ho3,hn2,of0⟩ ?_ ?_⟩
  ·rintro k σ H4 hk ⟨x6,x7,p,f,rfl,tf,nf,gp,lp,ho4,hn4,of⟩
   obtain⟨pa',l,m,lv,mv,fl,fm,e0,ef,hpa,hl,tl,hm,tm⟩:=a9u tf
   cases e0
   have llv':lv.length=p.1.length:=by rw[tl.len,List.length_map]
   have hk':k < p.1.length:=by omega
   obtain⟨d,hd⟩:∃ d,p.1[k]?=some d:=⟨_,List.getElem?_eq_getElem hk'⟩
   have hdm:=List.mem_of_getElem? hd
   obtain⟨xv,ex,tx⟩:=tl.trs.at (i:=k) (d:=a1p d) (by rw[List.getElem?_map,hd];rfl)
   obtain⟨t,L,lkv,rfl,ht,hL,tL⟩:=a6k tx
   obtain⟨y,hy,ay⟩:=wd5 (b9g c (33+(0+(k:Int))))
   refine⟨(by show 5<=sizeLine;decide),λ w5 hw5=>?_⟩
   have s5:=Same.upd (o:=HO.lst [.str "loose",.str "kept",.str "make",.str "watch",.str "hold"]) hw5
   refine⟨_,rfl,_,rfl,_,_,rfl,rfl,c,_,rfl,_,_,rfl,rfl,(by show (0:Int) < 5;decide),w5,_,_,_,rfl,rfl,SqL.of a0b,ay,?_⟩
   have av0:atI lv (0+(k:Int))=some (.ref t):=a0y k (by omega) ex
   refine⟨_,rfl,pa,_,_,_,rfl,rfl,SqT.of (s5 _ _ hpa),a0i (j:=0) rfl,_,rfl,l,_,_,_,rfl,rfl,SqL.of (s5 _ _ hl),av0,t,_,_,_,rfl,rfl,SqT.of (s5 _ _ ht),a0i (j:=0) rfl,_,rfl,_,rfl,pa,_,_,_,rfl,rfl,SqT.of (s5 _ _ hpa),a0i (j:=0) rfl,_,rfl,l,_,_,_,rfl,rfl,SqL.of (s5 _ _ hl),av0,t,_,_,_,rfl,rfl,SqT.of (s5 _ _ ht),a0i (j:=2) rfl,(by show 3<=sizeLine;decide),λ np hnp=>?_⟩
   have s6:=Same.upd (o:=HO.tup [.int d.1,.str y,.ref L]) hnp
   have s56:=s5.trans s6
   have ixn:ixN lv.length (0+(k:Int))=some k:=by
    unfold ixN
    rw[if_pos (by omega),if_pos (by omega)]
    congr 1
    omega
   refine⟨_,rfl,pa,_,_,_,rfl,rfl,SqT.of (s56 _ _ hpa),a0i (j:=0) rfl,_,rfl,l,lv,_,k,rfl,rfl,s56 _ _ hl,ixn,λ H' h' k'=>?_⟩
   have kk:∀ b o,b≠l->H4 b=some o->H' b=some o:=λ b o nb eb=>k' b o nb (s56 _ _ eb)
   have npl:np≠l:=λ y=>by rw[y,s5 _ _ hl] at hnp;cases hnp
   have npf:np ∉ f:=(tf.same s5).not hnp
   have lf:l∈f:=by rw[ef];exact .tail _ (List.mem_append_left _ (.head _))
   rw[ef] at nf npf
   obtain⟨f',tf',nf',sub'⟩:=d9c (x:=y) hpa hl tl hm tm nf hd h' kk npf ex ht (k' _ _ npl a0b)
   refine⟨_,_,_,f',rfl,tf',nf',gp.setD hd rfl hy (gp.good.2.2 d hdm).2 (gp.looks d hdm),by show (p.1.set k _).length=_;rw[List.length_set];exact lp,kk _ _ (λ u=>of (u ▸ lf)) ho4,b2c (λ b xs eb=>kk b _ (λ u=>by rw[u,hl] at eb;cases eb) eb) hn4,λ z=>?_⟩
   rcases sub' o z with u | u
   ·exact of (by rw[ef];exact u)
   ·rw[<-u,s5 _ _ ho4] at hnp
    cases hnp
  rintro σ H4 ⟨x6,x7,p,f,rfl,tf,nf,gp,lp,ho4,hn4,of⟩
  refine⟨_,rfl,_,rfl,_,rfl,c,30,rfl,_,_,rfl,rfl,(by show (0:Int) < 8;decide),_,rfl,c,31,rfl,.ref pa,o,ys,os,p,f,b9g c 30%8,b9g c 31,rfl,tf,nf,gp,ho4,hn4,lo,λ so H5 ys' os' p' h5 n5 l5 t5 g5=>?_⟩
  have hwS:WdP (some x) p':=λ d hd=>hx
  have hdu:=e0f (w:=some x) (os:=os') g5.rise hwS g5.inm g5.nk
  refine⟨_,rfl,_,rfl,_,rfl,.ref pa,so,p',some x,ys',os',rfl,t5,g5.good,g5.gm,g5.inm,g5.nk,h5,n5,(by omega),λ H6 k6=>?_⟩
  have t6:=t5.kf k6
  have h6:=k6.lst h5
  have n6:=e9a k6 n5
  refine⟨_,rfl,.ref pa,p',rfl,t6,g5.good.1,(λ d hd=>(g5.good.2.2 d hd).2),(by have:=g5.many;omega),λ u H7 s7 tu=>⟨_,rfl,so,ys',rfl,.inl (SqL.of (s7 _ _ h6)),λ lo7 hlo7=>⟨(by show 2<=sizeLine;decide),λ hd hhd=>?_⟩⟩⟩
  have s8a:=Same.upd (o:=HO.lst ys') hlo7
  have s8b:=Same.upd (o:=HO.lst [u,.ref lo7]) hhd
  have s8:=s8a.trans s8b
  have hlo8:=s8b lo7 _ a0b
  have hhd8:upd (upd H7 lo7 (.lst ys')) hd (.lst [u,.ref lo7]) hd=some (.lst [u,.ref lo7]):=a0b
  generalize upd (upd H7 lo7 (.lst ys')) hd (.lst [u,.ref lo7])=H8 at *
  have s68:=s7.trans s8
  have tu8:=tu.same s8
  have n8:=a4m s68 n6
  have fineS:∀ y,some x=some y->b7p y:=λ y e=>by cases e;exact d2v hx
  have fine0:∀ x,(none:Option Str)=some x->b7p x:=λ x e=>by cases e
  refine⟨_,rfl,hd,_,_,_,rfl,rfl,SqL.of hhd8,a0i (j:=0) rfl,_,rfl,hd,_,_,_,rfl,rfl,SqL.of hhd8,a0i (j:=1) rfl,_,rfl,u,lo7,p',some x,ys',os',rfl,tu8,g5.good,g5.gm,g5.rise,g5.inm,hlo8,n8,(by omega),fineS,(λ _ b H9 s9 hb=>?_),(λ y e n=>absurd (by cases e;exact hx) n)⟩
  have eb:b=d4a (some x) p' os':=d1o hb hdu
  subst eb
  obtain⟨lb1,lb2⟩:=e2i (p:=p') (λ d hd=>(g5.good.2.2 d hd).1) os'
  refine⟨_,rfl,_,_,_,_,rfl,.bl _,f0j,true,rfl,b5e ?_⟩
  refine⟨_,rfl,_,rfl,rfl,_,rfl,?_⟩
  have e0:(!decide (V.bl (d4a (some x) p' os')=V.bl (d4a (some x) p' os')))=false:=by rw[decide_eq_true rfl];rfl
  rw[e0]
  refine b5e ?_
  refine⟨_,rfl,_,rfl,_,rfl,(by show 2<=sizeLine;decide),λ nl hnl=>?_⟩
  have s10:=Same.upd (o:=HO.lst [.ref pa,.ref so]) hnl
  have s910:=s9.trans s10
  have s610:=s68.trans s910
  refine⟨.list [a3j p',.list (os'.map dN)],.list [a3j p',.list (os'.map dN)],.lst (SqL.of (s910 _ _ hhd8)) (.cons (tu8.same s910).dt (.cons (.lst (SqL.of (s910 _ _ hlo8)) (c0v (a4m s910 n8))) .nil)),.lst (SqL.of a0b) (.cons (t6.same s610).dt (.cons (.lst (SqL.of (s610 _ _ h6)) (c0v (a4m s610 n6))) .nil)),lb2,lb2,_,rfl,?_⟩
  rw[SeqAt.eqv_refl _ lb1]
  refine b5e ?_
  have t10:=t6.same s610
  have h10:=s610 _ _ h6
  have n10:=a4m s610 n6
  have hlo10:=s910 _ _ hlo8
  have hhd10:=s910 _ _ hhd8
  have tu10:=tu8.same s910
  have n10':=a4m s910 n8
  generalize upd H9 nl (HO.lst [.ref pa,.ref so])=H10 at *
  obtain⟨pa',l6,m6,lv6,mv6,e6,hpa6,hl6,tl6,hm6,tm6⟩:=a5r t10
  cases e6
  refine⟨_,rfl,pa,_,_,_,rfl,rfl,SqT.of hpa6,a0i (j:=0) rfl,l6,rfl,⟨_,SqL.of hl6⟩,e2t (k:=3) (fs:=[some (.str x)]) H10 (Same.refl H10) p'.1 a1p (λ d=>some (a1p (d6m x d))) rfl hl6 tl6 (by have:=g5.good.1;omega) (λ d hd H11 ts v R s11 hts tr cs _=>?_) (λ D H11 zs hD s11 hd11 ht11=>?_)⟩
  ·obtain⟨t1,t2,t3,rfl⟩:∃ t1 t2 t3,ts=[t1,t2,t3]:=My.us3 hts
   obtain⟨p1,p2,ps,rfl,hp1,hp2,hps⟩:=a6k tr
   refine⟨p1,_,rfl,SqT.of (s11 _ _ hp1),rfl,_,_,rfl,_,_,rfl,_,_,rfl,rfl,_,rfl,_,rfl,_,rfl,(by show 3<=sizeLine;decide),λ z hz=>?_⟩
   have s12':=Same.upd (o:=HO.tup [.int d.1,.str x,.ref p2]) hz
   have old:Same H10 (c7k H10 H11 (upd H11 z (.tup [.int d.1,.str x,.ref p2]))):=λ b o e=>a4k.mpr ⟨s12' _ _ (s11 _ _ e),λ ⟨h1,_⟩=>by rw[e] at h1;cases h1⟩
   exact cs _ _ [_,_,_] _ rfl rfl s12' (.tup (b3x hz a0b) (.cons (.int _) (.cons (.str _) (.cons (.lst (old _ _ hp2) (hps.same old)) .nil))))
  rw[b7e] at ht11
  have ht11':Trs H11 zs (p'.1.map λ d=>a1p (d6m x d)):=(ht11.same b6r).same λ b o e=>(a4k.mp e).1
  have emap:(p'.1.map λ d=>a1p (d6m x d))=(c9e x p').1.map a1p:=by
   show _=(p'.1.map (d6m x)).map a1p
   rw[List.map_map]
   rfl
  rw[emap] at ht11'
  refine⟨_,rfl,pa,_,_,_,rfl,rfl,SqT.of (s11 _ _ hpa6),a0i (j:=1) rfl,(by show 2<=sizeLine;decide),λ al hal=>?_⟩
  have s12':=Same.upd (o:=HO.tup [.ref D,.ref m6]) hal
  have ta:Tr (upd H11 al (.tup [.ref D,.ref m6])) (.ref al) (a3j (c9e x p')):=.tup a0b (.cons (.lst (s12' _ _ hd11) (ht11'.same s12')) (.cons (.lst ((s11.trans s12') _ _ hm6) (tm6.same (s11.trans s12'))) .nil))
  have sA:=s11.trans s12'
  generalize upd H11 al (HO.tup [.ref D,.ref m6])=H12 at *
  have gr:=g5.rel (x:=x) hx
  have hd0:d4a none (c9e x p') os'=true ↔ d4b none (c9e x p') os':=e0f (w:=none) (os:=os') gr.rise (λ d hd=>by obtain⟨d',hd',rfl⟩:=List.mem_map.mp hd;exact hx) gr.inm gr.nk
  rw[e6v] at hd0
  refine⟨_,rfl,_,rfl,so,ys',rfl,.inl (SqL.of (sA _ _ h10)),λ l1 hl1=>?_⟩
  have u1:=Same.upd (o:=HO.lst ys') hl1
  refine⟨.ref al,l1,c9e x p',none,ys',os',rfl,ta.same u1,gr.good,gr.gm,gr.rise,gr.inm,a0b,a4m (sA.trans u1) n10,(by omega),fine0,(λ _ b H13 s13 hb=>?_),(λ y e n=>by cases e)⟩
  have eb:b=d4a (some x) p' os':=d1o hb hd0
  subst eb
  refine⟨_,rfl,rfl,_,rfl,?_⟩
  rw[e0]
  refine b5e ?_
  have u2:=(sA.trans u1).trans s13
  refine⟨_,rfl,_,rfl,so,ys',rfl,.inl (SqL.of (u2 _ _ h10)),λ l2 hl2=>?_⟩
  have u3:=Same.upd (o:=HO.lst ys') hl2
  refine⟨.ref al,l2,c9e x p',none,ys',os',rfl,((ta.same u1).same s13).same u3,gr.good,gr.gm,gr.rise,gr.inm,a0b,a4m (u2.trans u3) n10,(by omega),fine0,(λ _ b H14 s14 hb=>?_),(λ y e n=>by cases e)⟩
  have eb:b=d4a (some x) p' os':=d1o hb hd0
  subst eb
  refine⟨_,rfl,rfl,_,rfl,?_⟩
  rw[e0]
  refine b5e ?_
  have u4:=(u2.trans u3).trans s14
  obtain⟨od,nod,fod,aod⟩:=f4m (b9g c 50)
  refine⟨(by show 5<=sizeLine;decide),λ w6 hw6=>⟨_,rfl,c,50,rfl,_,_,rfl,rfl,(by show (0:Int) < 5;decide),w6,_,_,_,rfl,rfl,SqL.of a0b,aod,?_⟩⟩
  have u5:=u4.trans (Same.upd (o:=HO.lst [.str "",.str "Watch",.str "keep",.str "holds",.str "any"]) hw6)
  refine⟨_,rfl,hd,_,_,_,rfl,rfl,SqL.of (u5 _ _ hhd10),a0i (j:=0) rfl,_,rfl,hd,_,_,_,rfl,rfl,SqL.of (u5 _ _ hhd10),a0i (j:=1) rfl,_,rfl,u,lo7,p',ys',os',od,rfl,tu10.same u5,g5.good,g5.gm,g5.rise,g5.inm,u5 _ _ hlo10,a4m u5 n10',(by omega),fod,nod,λ H15=>⟨true,rfl,c7z ?_⟩⟩
  obtain⟨gn1,gn2,gn3,gn4⟩:=e1l
  refine⟨(by show 0<=sizeLine;decide),λ x1 hx1=>⟨(by show 0<=sizeLine;decide),λ x2 hx2=>⟨(by show 2<=sizeLine;decide),λ x3 hx3=>⟨(by show 0<=sizeLine;decide),λ x4 hx4=>?_⟩⟩⟩⟩
  have m1:=Same.upd (o:=HO.lst []) hx1
  have m2:=Same.upd (o:=HO.lst []) hx2
  have m3:=Same.upd (o:=HO.tup [.ref x1,.ref x2]) hx3
  have m4:=Same.upd (o:=HO.lst []) hx4
  have tE:Tr (upd (upd (upd (upd H15 x1 (.lst [])) x2 (.lst [])) x3 (.tup [.ref x1,.ref x2])) x4 (.lst [])) (.ref x3) (a3j ([],[])):=.tup (m4 _ _ a0b) (.cons (.lst ((m2.trans (m3.trans m4)) _ _ a0b) .nil) (.cons (.lst ((m3.trans m4) _ _ a0b) .nil) .nil))
  exact⟨_,rfl,.ref x3,x4,([],[]),[],[],od,rfl,tE,gn1,gn2,gn3,gn4,a0b,.nil,(by decide),fod,nod,λ H16=>q H16⟩
end
abbrev fnS (a b:Str) (t:Stmt):=PySem.W.fnOf a b (a0p t) (a0o t) (a0f t) .none
open PySem.W in
theorem all_mk {l:OpenLaw} {w:World} {K:Frag} {h:Heap} {mg:Str->Option Value} {fa:Addr} (X:K.In h) (G:h.Ns mainGlobals mg) (hfa:mg "law"=some (.ref fa)) {f0 f1 f2 f3 f4 f5 f6 f7 f8 f9 f10 f11 f12 f13 f14 f15 f16 f17 f18 f19 f20 f21 f22 f23 f24 f25 f26 f27 f28 f29 f30 f31 f32 f33 f34 f35 f36 f37 f38 f39 f40 f41 f42 f43 f44 f45 f46 f47 f48 f49 f50:Addr} {od0 an0 od1 an1 od2 an2 od3 an3 od4 an4 od5 an5 od6 an6 od7 an7 od8 an8 od9 an9 od10 an10 od11 an11 od12 an12 od13 an13 od14 an14 od15 an15 od16 an16 od17 an17 od18 an18 od19 an19 od20 an20 od21 an21 od22 an22 od23 an23 od24 an24 od25 an25 od26 an26 od27 an27 od28 an28 od29 an29 od30 an30 od31 an31 od32 an32 od33 an33 od34 an34 od35 an35 od36 an36 od37 an37 od38 an38 od39 an39 od40 an40 od41 an41 od42 an42 od43 an43 od44 an44 od45 an45 od46 an46 od47 an47 od48 an48 od49 an49 od50 an50:Option Addr} {sl0 sl1 sl2 sl3 sl4 sl5 sl6 sl7 sl8 sl9 sl10 sl11 sl12 sl13 sl14 sl15 sl16 sl17 sl18 sl19 sl20 sl21 sl22 sl23 sl24 sl25 sl26 sl27 sl28 sl29 sl30 sl31 sl32 sl33 sl34 sl35 sl36 sl37 sl38 sl39 sl40 sl41 sl42 sl43 sl44 sl45 sl46 sl47 sl48 sl49 sl50:Array (Option Value)} {oc0 kV0 dc0 pm0 cd0 ct0 oc1 kV1 dc1 pm1 cd1 ct1 oc2 kV2 dc2 pm2 cd2 ct2 oc3 kV3 dc3 pm3 cd3 ct3 oc4 kV4 dc4 pm4 cd4 ct4 oc5 kV5 dc5 pm5 cd5 ct5 oc6 kV6 dc6 pm6 cd6 ct6 oc7 kV7 dc7 pm7 cd7 ct7 oc8 kV8 dc8 pm8 cd8 ct8 oc9 kV9 dc9 pm9 cd9 ct9 oc10 kV10 dc10 pm10 cd10 ct10 oc11 kV11 dc11 pm11 cd11 ct11 oc12 kV12 dc12 pm12 cd12 ct12 oc13 kV13 dc13 pm13 cd13 ct13 oc14 kV14 dc14 pm14 cd14 ct14 oc15 kV15 dc15 pm15 cd15 ct15 oc16 kV16 dc16 pm16 cd16 ct16 oc17 kV17 dc17 pm17 cd17 ct17 oc18 kV18 dc18 pm18 cd18 ct18 oc19 kV19 dc19 pm19 cd19 ct19 oc20 kV20 dc20 pm20 cd20 ct20 oc21 kV21 dc21 pm21 cd21 ct21 oc22 kV22 dc22 pm22 cd22 ct22 oc23 kV23 dc23 pm23 cd23 ct23 oc24 kV24 dc24 pm24 cd24 ct24 oc25 kV25 dc25 pm25 cd25 ct25 oc26 kV26 dc26 pm26 cd26 ct26 oc27 kV27 dc27 pm27 cd27 ct27 oc28 kV28 dc28 pm28 cd28 ct28 oc29 kV29 dc29 pm29 cd29 ct29 oc30 kV30 dc30 pm30 cd30 ct30 oc31 kV31 dc31 pm31 cd31 ct31 oc32 kV32 dc32 pm32 cd32 ct32 oc33 kV33 dc33 pm33 cd33 ct33 oc34 kV34 dc34 pm34 cd34 ct34 oc35 kV35 dc35 pm35 cd35 ct35 oc36 kV36 dc36 pm36 cd36 ct36 oc37 kV37 dc37 pm37 cd37 ct37 oc38 kV38 dc38 pm38 cd38 ct38 oc39 kV39 dc39 pm39 cd39 ct39 oc40 kV40 dc40 pm40 cd40 ct40 oc41 kV41 dc41 pm41 cd41 ct41 oc42 kV42 dc42 pm42 cd42 ct42 oc43 kV43 dc43 pm43 cd43 ct43 oc44 kV44 dc44 pm44 cd44 ct44 oc45 kV45 dc45 pm45 cd45 ct45 oc46 kV46 dc46 pm46 cd46 ct46 oc47 kV47 dc47 pm47 cd47 ct47 oc48 kV48 dc48 pm48 cd48 ct48 oc49 kV49 dc49 pm49 cd49 ct49 oc50 kV50 dc50 pm50 cd50 ct50:Value}
  {ec0:Addr} (e0:nsIn K mainGlobals "SkewError"=some (some (.ref ec0)))
  {ec1:Addr} (e1:nsIn K mainGlobals "NoLevel"=some (some (.ref ec1)))
  {ec2:Addr} (e2:nsIn K mainGlobals "Loose"=some (some (.ref ec2)))
  {ec3:Addr} (e3:nsIn K mainGlobals "Kept"=some (some (.ref ec3)))
  {ec4:Addr} (e4:nsIn K mainGlobals "Make"=some (some (.ref ec4)))
  {ec5:Addr} (e5:nsIn K mainGlobals "Watch"=some (some (.ref ec5)))
  {ec6:Addr} (e6:nsIn K mainGlobals "Hold"=some (some (.ref ec6)))
  {ec7:Addr} (e7:nsIn K mainGlobals "NoHistory"=some (some (.ref ec7)))
  (a0:findIn K (.ref ec2) "word"=some (some (.ref f0))) (l0:K.lookup f0=some ⟨oc0,od0,.func (Lw.fnS "word" "Loose.word" a4x kV0 dc0 pm0 an0 cd0 ct0),sl0⟩) (c0:codeIn K cd0 "Loose.word"=true) (k0:keepIn K (.ref f0)=true)
  (a1:findIn K (.ref ec2) "spots"=some (some (.ref f1))) (l1:K.lookup f1=some ⟨oc1,od1,.func (Lw.fnS "spots" "Loose.spots" a4h kV1 dc1 pm1 an1 cd1 ct1),sl1⟩) (c1:codeIn K cd1 "Loose.spots"=true) (k1:keepIn K (.ref f1)=true)
  (a2:findIn K (.ref ec2) "look_spot"=some (some (.ref f2))) (l2:K.lookup f2=some ⟨oc2,od2,.func (Lw.fnS "look_spot" "Loose.look_spot" a2d kV2 dc2 pm2 an2 cd2 ct2),sl2⟩) (c2:codeIn K cd2 "Loose.look_spot"=true) (k2:keepIn K (.ref f2)=true)
  (a3:findIn K (.ref ec2) "first_spot"=some (some (.ref f3))) (l3:K.lookup f3=some ⟨oc3,od3,.func (Lw.fnS "first_spot" "Loose.first_spot" a1u kV3 dc3 pm3 an3 cd3 ct3),sl3⟩) (c3:codeIn K cd3 "Loose.first_spot"=true) (k3:keepIn K (.ref f3)=true)
  (a4:findIn K (.ref ec3) "word"=some (some (.ref f4))) (l4:K.lookup f4=some ⟨oc4,od4,.func (Lw.fnS "word" "Kept.word" a6i kV4 dc4 pm4 an4 cd4 ct4),sl4⟩) (c4:codeIn K cd4 "Kept.word"=true) (k4:keepIn K (.ref f4)=true)
  (a5:findIn K (.ref ec3) "spots"=some (some (.ref f5))) (l5:K.lookup f5=some ⟨oc5,od5,.func (Lw.fnS "spots" "Kept.spots" a4y kV5 dc5 pm5 an5 cd5 ct5),sl5⟩) (c5:codeIn K cd5 "Kept.spots"=true) (k5:keepIn K (.ref f5)=true)
  (a6:findIn K (.ref ec3) "look_spot"=some (some (.ref f6))) (l6:K.lookup f6=some ⟨oc6,od6,.func (Lw.fnS "look_spot" "Kept.look_spot" a3a kV6 dc6 pm6 an6 cd6 ct6),sl6⟩) (c6:codeIn K cd6 "Kept.look_spot"=true) (k6:keepIn K (.ref f6)=true)
  (a7:findIn K (.ref ec3) "first_spot"=some (some (.ref f7))) (l7:K.lookup f7=some ⟨oc7,od7,.func (Lw.fnS "first_spot" "Kept.first_spot" a2e kV7 dc7 pm7 an7 cd7 ct7),sl7⟩) (c7:codeIn K cd7 "Kept.first_spot"=true) (k7:keepIn K (.ref f7)=true)
  (a8:findIn K (.ref ec4) "word"=some (some (.ref f8))) (l8:K.lookup f8=some ⟨oc8,od8,.func (Lw.fnS "word" "Make.word" a6f kV8 dc8 pm8 an8 cd8 ct8),sl8⟩) (c8:codeIn K cd8 "Make.word"=true) (k8:keepIn K (.ref f8)=true)
  (a9:findIn K (.ref ec4) "spots"=some (some (.ref f9))) (l9:K.lookup f9=some ⟨oc9,od9,.func (Lw.fnS "spots" "Make.spots" a5e kV9 dc9 pm9 an9 cd9 ct9),sl9⟩) (c9:codeIn K cd9 "Make.spots"=true) (k9:keepIn K (.ref f9)=true)
  (a10:findIn K (.ref ec4) "look_spot"=some (some (.ref f10))) (l10:K.lookup f10=some ⟨oc10,od10,.func (Lw.fnS "look_spot" "Make.look_spot" a2v kV10 dc10 pm10 an10 cd10 ct10),sl10⟩) (c10:codeIn K cd10 "Make.look_spot"=true) (k10:keepIn K (.ref f10)=true)
  (a11:findIn K (.ref ec4) "first_spot"=some (some (.ref f11))) (l11:K.lookup f11=some ⟨oc11,od11,.func (Lw.fnS "first_spot" "Make.first_spot" a2g kV11 dc11 pm11 an11 cd11 ct11),sl11⟩) (c11:codeIn K cd11 "Make.first_spot"=true) (k11:keepIn K (.ref f11)=true)
  (a12:findIn K (.ref ec5) "word"=some (some (.ref f12))) (l12:K.lookup f12=some ⟨oc12,od12,.func (Lw.fnS "word" "Watch.word" a5f kV12 dc12 pm12 an12 cd12 ct12),sl12⟩) (c12:codeIn K cd12 "Watch.word"=true) (k12:keepIn K (.ref f12)=true)
  (a13:findIn K (.ref ec5) "spots"=some (some (.ref f13))) (l13:K.lookup f13=some ⟨oc13,od13,.func (Lw.fnS "spots" "Watch.spots" a4i kV13 dc13 pm13 an13 cd13 ct13),sl13⟩) (c13:codeIn K cd13 "Watch.spots"=true) (k13:keepIn K (.ref f13)=true)
  (a14:findIn K (.ref ec6) "word"=some (some (.ref f14))) (l14:K.lookup f14=some ⟨oc14,od14,.func (Lw.fnS "word" "Hold.word" a6m kV14 dc14 pm14 an14 cd14 ct14),sl14⟩) (c14:codeIn K cd14 "Hold.word"=true) (k14:keepIn K (.ref f14)=true)
  (a15:findIn K (.ref ec6) "spots"=some (some (.ref f15))) (l15:K.lookup f15=some ⟨oc15,od15,.func (Lw.fnS "spots" "Hold.spots" a5g kV15 dc15 pm15 an15 cd15 ct15),sl15⟩) (c15:codeIn K cd15 "Hold.spots"=true) (k15:keepIn K (.ref f15)=true)
  (a16:findIn K (.ref ec6) "look_spot"=some (some (.ref f16))) (l16:K.lookup f16=some ⟨oc16,od16,.func (Lw.fnS "look_spot" "Hold.look_spot" a2w kV16 dc16 pm16 an16 cd16 ct16),sl16⟩) (c16:codeIn K cd16 "Hold.look_spot"=true) (k16:keepIn K (.ref f16)=true)
  (a17:findIn K (.ref ec6) "first_spot"=some (some (.ref f17))) (l17:K.lookup f17=some ⟨oc17,od17,.func (Lw.fnS "first_spot" "Hold.first_spot" a2f kV17 dc17 pm17 an17 cd17 ct17),sl17⟩) (c17:codeIn K cd17 "Hold.first_spot"=true) (k17:keepIn K (.ref f17)=true)
  (a18:nsIn K mainGlobals "level_of"=some (some (.ref f18))) (l18:K.lookup f18=some ⟨oc18,od18,.func (Lw.fnS "level_of" "level_of" a7y kV18 dc18 pm18 an18 cd18 ct18),sl18⟩) (c18:codeIn K cd18 "level_of"=true) (k18:keepIn K (.ref f18)=true)
  (a19:nsIn K mainGlobals "levels_of"=some (some (.ref f19))) (l19:K.lookup f19=some ⟨oc19,od19,.func (Lw.fnS "levels_of" "levels_of" a6c kV19 dc19 pm19 an19 cd19 ct19),sl19⟩) (c19:codeIn K cd19 "levels_of"=true) (k19:keepIn K (.ref f19)=true)
  (a20:nsIn K mainGlobals "spots_of"=some (some (.ref f20))) (l20:K.lookup f20=some ⟨oc20,od20,.func (Lw.fnS "spots_of" "spots_of" a8d kV20 dc20 pm20 an20 cd20 ct20),sl20⟩) (c20:codeIn K cd20 "spots_of"=true) (k20:keepIn K (.ref f20)=true)
  (a21:nsIn K mainGlobals "keeps_of"=some (some (.ref f21))) (l21:K.lookup f21=some ⟨oc21,od21,.func (Lw.fnS "keeps_of" "keeps_of" a8b kV21 dc21 pm21 an21 cd21 ct21),sl21⟩) (c21:codeIn K cd21 "keeps_of"=true) (k21:keepIn K (.ref f21)=true)
  (a22:nsIn K mainGlobals "firsts_of"=some (some (.ref f22))) (l22:K.lookup f22=some ⟨oc22,od22,.func (Lw.fnS "firsts_of" "firsts_of" a6n kV22 dc22 pm22 an22 cd22 ct22),sl22⟩) (c22:codeIn K cd22 "firsts_of"=true) (k22:keepIn K (.ref f22)=true)
   {dt23:Addr} {f1r:Option Addr} {f1v:Array (Option Value)} {dn23:Nat}
  (a23:nsIn K mainGlobals "spots"=some (some (.ref f23))) (l23:K.lookup f23=some ⟨oc23,od23,.func (fnOf "spots" "spots" (a0p b8a) (a0o b8a) (a0f b8a) (.ref dt23) kV23 dc23 pm23 an23 cd23 ct23),sl23⟩) (c23:codeIn K cd23 "spots"=true) (k23:keepIn K (.ref f23)=true)
  (a24:nsIn K mainGlobals "comes_by_places"=some (some (.ref f24))) (l24:K.lookup f24=some ⟨oc24,od24,.func (Lw.fnS "comes_by_places" "comes_by_places" a2c kV24 dc24 pm24 an24 cd24 ct24),sl24⟩) (c24:codeIn K cd24 "comes_by_places"=true) (k24:keepIn K (.ref f24)=true)
  (a25:nsIn K mainGlobals "looks_at"=some (some (.ref f25))) (l25:K.lookup f25=some ⟨oc25,od25,.func (Lw.fnS "looks_at" "looks_at" a8c kV25 dc25 pm25 an25 cd25 ct25),sl25⟩) (c25:codeIn K cd25 "looks_at"=true) (k25:keepIn K (.ref f25)=true)
  (a26:nsIn K mainGlobals "finds"=some (some (.ref f26))) (l26:K.lookup f26=some ⟨oc26,od26,.func (Lw.fnS "finds" "finds" b4y kV26 dc26 pm26 an26 cd26 ct26),sl26⟩) (c26:codeIn K cd26 "finds"=true) (k26:keepIn K (.ref f26)=true)
  (a27:nsIn K mainGlobals "looks_find"=some (some (.ref f27))) (l27:K.lookup f27=some ⟨oc27,od27,.func (Lw.fnS "looks_find" "looks_find" a5d kV27 dc27 pm27 an27 cd27 ct27),sl27⟩) (c27:codeIn K cd27 "looks_find"=true) (k27:keepIn K (.ref f27)=true)
  (a28:nsIn K mainGlobals "makes_follow"=some (some (.ref f28))) (l28:K.lookup f28=some ⟨oc28,od28,.func (Lw.fnS "makes_follow" "makes_follow" a3l kV28 dc28 pm28 an28 cd28 ct28),sl28⟩) (c28:codeIn K cd28 "makes_follow"=true) (k28:keepIn K (.ref f28)=true)
   {dt29:Addr} {f3j:Option Addr} {f2q:Array (Option Value)} {dn29:Nat}
  (a29:nsIn K mainGlobals "allowed"=some (some (.ref f29))) (l29:K.lookup f29=some ⟨oc29,od29,.func (fnOf "allowed" "allowed" (a0p a9m) (a0o a9m) (a0f a9m) (.ref dt29) kV29 dc29 pm29 an29 cd29 ct29),sl29⟩) (c29:codeIn K cd29 "allowed"=true) (k29:keepIn K (.ref f29)=true)
  (a30:nsIn K mainGlobals "_law_mixed"=some (some (.ref f30))) (l30:K.lookup f30=some ⟨oc30,od30,.func (Lw.fnS "_law_mixed" "_law_mixed" b0w kV30 dc30 pm30 an30 cd30 ct30),sl30⟩) (c30:codeIn K cd30 "_law_mixed"=true) (k30:keepIn K (.ref f30)=true)
  (a31:nsIn K mainGlobals "_law_cell"=some (some (.ref f31))) (l31:K.lookup f31=some ⟨oc31,od31,.func (Lw.fnS "_law_cell" "_law_cell" b4m kV31 dc31 pm31 an31 cd31 ct31),sl31⟩) (c31:codeIn K cd31 "_law_cell"=true) (k31:keepIn K (.ref f31)=true)
  (a32:nsIn K mainGlobals "_law_spots"=some (some (.ref f32))) (l32:K.lookup f32=some ⟨oc32,od32,.func (Lw.fnS "_law_spots" "_law_spots" b0y kV32 dc32 pm32 an32 cd32 ct32),sl32⟩) (c32:codeIn K cd32 "_law_spots"=true) (k32:keepIn K (.ref f32)=true)
  (a33:nsIn K mainGlobals "_law_place"=some (some (.ref f33))) (l33:K.lookup f33=some ⟨oc33,od33,.func (Lw.fnS "_law_place" "_law_place" a9y kV33 dc33 pm33 an33 cd33 ct33),sl33⟩) (c33:codeIn K cd33 "_law_place"=true) (k33:keepIn K (.ref f33)=true)
  (a34:nsIn K mainGlobals "_law_first"=some (some (.ref f34))) (l34:K.lookup f34=some ⟨oc34,od34,.func (Lw.fnS "_law_first" "_law_first" b0h kV34 dc34 pm34 an34 cd34 ct34),sl34⟩) (c34:codeIn K cd34 "_law_first"=true) (k34:keepIn K (.ref f34)=true)
  (a35:nsIn K mainGlobals "_law_drawn_deals"=some (some (.ref f35))) (l35:K.lookup f35=some ⟨oc35,od35,.func (Lw.fnS "_law_drawn_deals" "_law_drawn_deals" a3m kV35 dc35 pm35 an35 cd35 ct35),sl35⟩) (c35:codeIn K cd35 "_law_drawn_deals"=true) (k35:keepIn K (.ref f35)=true)
  (a36:nsIn K mainGlobals "_law_drawn_order"=some (some (.ref f36))) (l36:K.lookup f36=some ⟨oc36,od36,.func (Lw.fnS "_law_drawn_order" "_law_drawn_order" a3h kV36 dc36 pm36 an36 cd36 ct36),sl36⟩) (c36:codeIn K cd36 "_law_drawn_order"=true) (k36:keepIn K (.ref f36)=true)
  (a37:nsIn K mainGlobals "_law_keys"=some (some (.ref f37))) (l37:K.lookup f37=some ⟨oc37,od37,.func (Lw.fnS "_law_keys" "_law_keys" b5a kV37 dc37 pm37 an37 cd37 ct37),sl37⟩) (c37:codeIn K cd37 "_law_keys"=true) (k37:keepIn K (.ref f37)=true)
  (a38:nsIn K mainGlobals "_law_look"=some (some (.ref f38))) (l38:K.lookup f38=some ⟨oc38,od38,.func (Lw.fnS "_law_look" "_law_look" b4z kV38 dc38 pm38 an38 cd38 ct38),sl38⟩) (c38:codeIn K cd38 "_law_look"=true) (k38:keepIn K (.ref f38)=true)
  (a39:nsIn K mainGlobals "_law_kept"=some (some (.ref f39))) (l39:K.lookup f39=some ⟨oc39,od39,.func (Lw.fnS "_law_kept" "_law_kept" b4x kV39 dc39 pm39 an39 cd39 ct39),sl39⟩) (c39:codeIn K cd39 "_law_kept"=true) (k39:keepIn K (.ref f39)=true)
  (a40:nsIn K mainGlobals "_law_past"=some (some (.ref f40))) (l40:K.lookup f40=some ⟨oc40,od40,.func (Lw.fnS "_law_past" "_law_past" b4q kV40 dc40 pm40 an40 cd40 ct40),sl40⟩) (c40:codeIn K cd40 "_law_past"=true) (k40:keepIn K (.ref f40)=true)
  (a41:nsIn K mainGlobals "_law_copied"=some (some (.ref f41))) (l41:K.lookup f41=some ⟨oc41,od41,.func (Lw.fnS "_law_copied" "_law_copied" a8e kV41 dc41 pm41 an41 cd41 ct41),sl41⟩) (c41:codeIn K cd41 "_law_copied"=true) (k41:keepIn K (.ref f41)=true)
  (a42:nsIn K mainGlobals "_law_ways"=some (some (.ref f42))) (l42:K.lookup f42=some ⟨oc42,od42,.func (Lw.fnS "_law_ways" "_law_ways" b4r kV42 dc42 pm42 an42 cd42 ct42),sl42⟩) (c42:codeIn K cd42 "_law_ways"=true) (k42:keepIn K (.ref f42)=true)
  (a43:nsIn K mainGlobals "_law_placed"=some (some (.ref f43))) (l43:K.lookup f43=some ⟨oc43,od43,.func (Lw.fnS "_law_placed" "_law_placed" a7u kV43 dc43 pm43 an43 cd43 ct43),sl43⟩) (c43:codeIn K cd43 "_law_placed"=true) (k43:keepIn K (.ref f43)=true)
  (a44:nsIn K mainGlobals "_law_makers_good"=some (some (.ref f44))) (l44:K.lookup f44=some ⟨oc44,od44,.func (Lw.fnS "_law_makers_good" "_law_makers_good" a3i kV44 dc44 pm44 an44 cd44 ct44),sl44⟩) (c44:codeIn K cd44 "_law_makers_good"=true) (k44:keepIn K (.ref f44)=true)
  (a45:nsIn K mainGlobals "_law_sees"=some (some (.ref f45))) (l45:K.lookup f45=some ⟨oc45,od45,.func (Lw.fnS "_law_sees" "_law_sees" b4u kV45 dc45 pm45 an45 cd45 ct45),sl45⟩) (c45:codeIn K cd45 "_law_sees"=true) (k45:keepIn K (.ref f45)=true)
  (a46:nsIn K mainGlobals "_law_due"=some (some (.ref f46))) (l46:K.lookup f46=some ⟨oc46,od46,.func (Lw.fnS "_law_due" "_law_due" c0e kV46 dc46 pm46 an46 cd46 ct46),sl46⟩) (c46:codeIn K cd46 "_law_due"=true) (k46:keepIn K (.ref f46)=true)
  (a47:nsIn K mainGlobals "_law_other_source"=some (some (.ref f47))) (l47:K.lookup f47=some ⟨oc47,od47,.func (Lw.fnS "_law_other_source" "_law_other_source" a2x kV47 dc47 pm47 an47 cd47 ct47),sl47⟩) (c47:codeIn K cd47 "_law_other_source"=true) (k47:keepIn K (.ref f47)=true)
  (a48:nsIn K mainGlobals "_law_otherwise"=some (some (.ref f48))) (l48:K.lookup f48=some ⟨oc48,od48,.func (Lw.fnS "_law_otherwise" "_law_otherwise" a4a kV48 dc48 pm48 an48 cd48 ct48),sl48⟩) (c48:codeIn K cd48 "_law_otherwise"=true) (k48:keepIn K (.ref f48)=true)
  (a49:nsIn K mainGlobals "_law_refused"=some (some (.ref f49))) (l49:K.lookup f49=some ⟨oc49,od49,.func (Lw.fnS "_law_refused" "_law_refused" a6j kV49 dc49 pm49 an49 cd49 ct49),sl49⟩) (c49:codeIn K cd49 "_law_refused"=true) (k49:keepIn K (.ref f49)=true)
  (a50:nsIn K mainGlobals "law"=some (some (.ref f50))) (l50:K.lookup f50=some ⟨oc50,od50,.func (Lw.fnS "law" "law" c3n kV50 dc50 pm50 an50 cd50 ct50),sl50⟩) (c50:codeIn K cd50 "law"=true) (k50:keepIn K (.ref f50)=true)
  (x0:excIn K ec1 [.type "ValueError",.type "Exception",.type "BaseException",.type "object"] "ValueError.__new__"=true)
  (dl23:K.lookup dt23=some ⟨.type "tuple",f1r,.seq #[.none] dn23,f1v⟩)
  (dl29:K.lookup dt29=some ⟨.type "tuple",f3j,.seq #[.none] dn29,f2q⟩)
  (b1z:isClsIn K ec1=true)
  (b2t:findIn K (.ref ec1) "__getattribute__"=some (some (.builtin "BaseException.__getattribute__")))
  (b2e:findIn K (.ref ec1) "__getattr__"=some none)
  (b2j:findIn K (.ref ec1) "__class__"=some (some (.builtin "object.__class__")))
  (b2p:mroIn K ec1 (.type "BaseException")=some true)
  (b2r:mroIn K ec1 (.type "object")=some true)
  (c0m:makesIn K ec2=true)
  (c2v:findIn K (.ref ec2) "__init__"=some (some (.builtin "object.__init__")))
  (c2o:keepIn K (.ref ec2)=true)
  (b7f:plainGet K ec2 Str.empty=true)
  (b8c:hasDictIn K ec2=true)
  (b7m:plainOver K ec2=true)
  (b7l:findIn K (.ref ec2) "__setattr__"=some (some (.builtin "object.__setattr__")))
  (d1d:findIn K (.ref ec2) "__class__"=some (some (.builtin "object.__class__")))
  (d2f:mroIn K ec2 (.type "object")=some true)
  (c6j:makesIn K ec3=true)
  (c7d:findIn K (.ref ec3) "__init__"=some (some (.builtin "object.__init__")))
  (c7p:keepIn K (.ref ec3)=true)
  (c1t:plainGet K ec3 Str.empty=true)
  (c1l:hasDictIn K ec3=true)
  (c1h:plainOver K ec3=true)
  (c1w:findIn K (.ref ec3) "__setattr__"=some (some (.builtin "object.__setattr__")))
  (d8h:findIn K (.ref ec3) "__class__"=some (some (.builtin "object.__class__")))
  (d7d:mroIn K ec3 (.type "object")=some true)
  (c5q:makesIn K ec4=true)
  (c7a:findIn K (.ref ec4) "__init__"=some (some (.builtin "object.__init__")))
  (c7o:keepIn K (.ref ec4)=true)
  (c0r:plainGet K ec4 Str.empty=true)
  (c3g:hasDictIn K ec4=true)
  (c1s:plainOver K ec4=true)
  (c2w:findIn K (.ref ec4) "__setattr__"=some (some (.builtin "object.__setattr__")))
  (d8u:findIn K (.ref ec4) "__class__"=some (some (.builtin "object.__class__")))
  (d8a:mroIn K ec4 (.type "object")=some true)
  (c0u:makesIn K ec5=true)
  (c3f:findIn K (.ref ec5) "__init__"=some (some (.builtin "object.__init__")))
  (c1y:keepIn K (.ref ec5)=true)
  (b7g:plainGet K ec5 Str.empty=true)
  (b7c:hasDictIn K ec5=true)
  (b7o:plainOver K ec5=true)
  (b8d:findIn K (.ref ec5) "__setattr__"=some (some (.builtin "object.__setattr__")))
  (d1p:findIn K (.ref ec5) "__class__"=some (some (.builtin "object.__class__")))
  (d2u:mroIn K ec5 (.type "object")=some true)
  (a6y:findIn K (.ref ec5) "look_spot"=some (some (.ref f10)))
  (a6e:findIn K (.ref ec5) "first_spot"=some (some (.ref f11)))
  (c7u:makesIn K ec6=true)
  (c6n:findIn K (.ref ec6) "__init__"=some (some (.builtin "object.__init__")))
  (c5t:keepIn K (.ref ec6)=true)
  (c0d:plainGet K ec6 Str.empty=true)
  (c1n:hasDictIn K ec6=true)
  (c0x:plainOver K ec6=true)
  (c1d:findIn K (.ref ec6) "__setattr__"=some (some (.builtin "object.__setattr__")))
  (d6n:findIn K (.ref ec6) "__class__"=some (some (.builtin "object.__class__")))
  (d7q:mroIn K ec6 (.type "object")=some true)
  (mf0:isFn K (.ref f0)=true)
  (mf1:isFn K (.ref f1)=true)
  (mf2:isFn K (.ref f2)=true)
  (mf3:isFn K (.ref f3)=true)
  (mf4:isFn K (.ref f4)=true)
  (mf5:isFn K (.ref f5)=true)
  (mf6:isFn K (.ref f6)=true)
  (mf7:isFn K (.ref f7)=true)
  (mf8:isFn K (.ref f8)=true)
  (mf9:isFn K (.ref f9)=true)
  (mf10:isFn K (.ref f10)=true)
  (mf11:isFn K (.ref f11)=true)
  (mf12:isFn K (.ref f12)=true)
  (mf13:isFn K (.ref f13)=true)
  (mf14:isFn K (.ref f14)=true)
  (mf15:isFn K (.ref f15)=true)
  (mf16:isFn K (.ref f16)=true)
  (mf17:isFn K (.ref f17)=true)
  (tgx:specialIn K (.builtin "object.__class__") "__get__"=some (some (.builtin "getset_descriptor.__get__")))
  (ttx:takesIn K (.builtin "object.__class__")=some true)
  (a9c:typeIn K (.ref ec0)=some (.type "type"))
  (a9j:isClsIn K ec0=true)
  (a9d:mroIn K ec0 (.type "BaseException")=some true)
  (c2u:subIn K (.ref ec1) (.type "ValueError")=some true)
  (a3w:isClsIn K ec0=true)
  (a4f:typeIn K (.ref ec0)=some (.type "type"))
  (a3x:subIn K (.ref ec1) (.ref ec1)=some true)
  (a3u:subIn K (.ref ec1) (.ref ec0)=some true)
  (a5a:isClsIn K ec1=true)
  (a5c:typeIn K (.ref ec1)=some (.type "type"))
  (a4w:subIn K (.ref ec1) (.ref ec1)=some true)
  (a4v:subIn K (.ref ec1) (.ref ec1)=some true)
  (a4d:isClsIn K ec7=true)
  (a3y:typeIn K (.ref ec7)=some (.type "type"))
  (a4b:subIn K (.ref ec1) (.ref ec1)=some true)
  (a4e:subIn K (.ref ec1) (.ref ec7)=some false)
  {f3i:Tok} (n0:nsIn K mainGlobals "START"=some (some (.int (0) f3i)))
  (e0b:nsIn K mainGlobals "all"=some none)
  (d4x:nsIn K mainGlobals "bool"=some none)
  (b6b:nsIn K mainGlobals "dict"=some none)
  (b0f:nsIn K mainGlobals "enumerate"=some none)
  (d8o:nsIn K mainGlobals "int"=some none)
  (a5i:nsIn K mainGlobals "isinstance"=some none)
  (a5u:nsIn K mainGlobals "len"=some none)
  (b4b:nsIn K mainGlobals "list"=some none)
  (a2y:nsIn K mainGlobals "range"=some none)
  (b9p:nsIn K mainGlobals "sorted"=some none)
  (e3e:nsIn K mainGlobals "zip"=some none)
  : ∃ fd:FuncData,(∀ (s:Shared) (v:Value),BindsTo s fd ⟨[v],[]⟩ [("_law_script",v)])/\∀ base:Heap,K.In base->base.Ns mainGlobals mg->a4j l.prog w K mg base CX0 7 fa fd ["_law_script"] (e4j K):=by
 have e:=hfa.symm.trans (mg_of X G a50)
 cases e
 let T:Tx K mg:={
  b0p:=f0
  b0o:=_
  c2x:=a0k (st:=a4x) l0 c0 k0
  c2k:=(a0k (st:=a4x) l0 c0 k0).binds (ps:=["self"]) λ _ _ _ _ _ _ us hl=>by obtain⟨_,rfl⟩:=My.us1 hl;rfl
  a8h:=f1
  a8r:=_
  b8k:=a0k (st:=a4h) l1 c1 k1
  b8p:=(a0k (st:=a4h) l1 c1 k1).binds (ps:=["self","looks"]) λ _ _ _ _ _ _ us hl=>by obtain⟨_,_,rfl⟩:=My.us2 hl;rfl
  a5q:=f2
  a5z:=_
  b1y:=a0k (st:=a2d) l2 c2 k2
  b1t:=(a0k (st:=a2d) l2 c2 k2).binds (ps:=["self","place"]) λ _ _ _ _ _ _ us hl=>by obtain⟨_,_,rfl⟩:=My.us2 hl;rfl
  a4r:=f3
  a4t:=_
  b1k:=a0k (st:=a1u) l3 c3 k3
  b1m:=(a0k (st:=a1u) l3 c3 k3).binds (ps:=["self","looks"]) λ _ _ _ _ _ _ us hl=>by obtain⟨_,_,rfl⟩:=My.us2 hl;rfl
  b3i:=f4
  b2z:=_
  c4h:=a0k (st:=a6i) l4 c4 k4
  c4n:=(a0k (st:=a6i) l4 c4 k4).binds (ps:=["self"]) λ _ _ _ _ _ _ us hl=>by obtain⟨_,rfl⟩:=My.us1 hl;rfl
  b0x:=f5
  b0n:=_
  c1x:=a0k (st:=a4y) l5 c5 k5
  c0o:=(a0k (st:=a4y) l5 c5 k5).binds (ps:=["self","looks"]) λ _ _ _ _ _ _ us hl=>by obtain⟨_,_,rfl⟩:=My.us2 hl;rfl
  a6r:=f6
  a6p:=_
  b4l:=a0k (st:=a3a) l6 c6 k6
  b4g:=(a0k (st:=a3a) l6 c6 k6).binds (ps:=["self","place"]) λ _ _ _ _ _ _ us hl=>by obtain⟨_,_,rfl⟩:=My.us2 hl;rfl
  a5p:=f7
  a5w:=_
  b1r:=a0k (st:=a2e) l7 c7 k7
  b2s:=(a0k (st:=a2e) l7 c7 k7).binds (ps:=["self","looks"]) λ _ _ _ _ _ _ us hl=>by obtain⟨_,_,rfl⟩:=My.us2 hl;rfl
  b3e:=f8
  b3m:=_
  c4b:=a0k (st:=a6f) l8 c8 k8
  c3s:=(a0k (st:=a6f) l8 c8 k8).binds (ps:=["self"]) λ _ _ _ _ _ _ us hl=>by obtain⟨_,rfl⟩:=My.us1 hl;rfl
  b0c:=f9
  b0d:=_
  c0t:=a0k (st:=a5e) l9 c9 k9
  c0k:=(a0k (st:=a5e) l9 c9 k9).binds (ps:=["self","looks"]) λ _ _ _ _ _ _ us hl=>by obtain⟨_,_,rfl⟩:=My.us2 hl;rfl
  a4o:=f10
  a6q:=_
  b4k:=a0k (st:=a2v) l10 c10 k10
  a9h:=(a0k (st:=a2v) l10 c10 k10).binds (ps:=["self","place"]) λ _ _ _ _ _ _ us hl=>by obtain⟨_,_,rfl⟩:=My.us2 hl;rfl
  a4c:=f11
  a5x:=_
  b1v:=a0k (st:=a2g) l11 c11 k11
  a8f:=(a0k (st:=a2g) l11 c11 k11).binds (ps:=["self","looks"]) λ _ _ _ _ _ _ us hl=>by obtain⟨_,_,rfl⟩:=My.us2 hl;rfl
  b0q:=f12
  b0e:=_
  c2i:=a0k (st:=a5f) l12 c12 k12
  c2h:=(a0k (st:=a5f) l12 c12 k12).binds (ps:=["self"]) λ _ _ _ _ _ _ us hl=>by obtain⟨_,rfl⟩:=My.us1 hl;rfl
  a8m:=f13
  a8v:=_
  b8l:=a0k (st:=a4i) l13 c13 k13
  b8e:=(a0k (st:=a4i) l13 c13 k13).binds (ps:=["self","looks"]) λ _ _ _ _ _ _ us hl=>by obtain⟨_,_,rfl⟩:=My.us2 hl;rfl
  b3l:=f14
  b3r:=_
  c3w:=a0k (st:=a6m) l14 c14 k14
  c4z:=(a0k (st:=a6m) l14 c14 k14).binds (ps:=["self"]) λ _ _ _ _ _ _ us hl=>by obtain⟨_,rfl⟩:=My.us1 hl;rfl
  b1g:=f15
  b0t:=_
  c1j:=a0k (st:=a5g) l15 c15 k15
  c2z:=(a0k (st:=a5g) l15 c15 k15).binds (ps:=["self","looks"]) λ _ _ _ _ _ _ us hl=>by obtain⟨_,_,rfl⟩:=My.us2 hl;rfl
  a6u:=f16
  a6s:=_
  b4e:=a0k (st:=a2w) l16 c16 k16
  b4c:=(a0k (st:=a2w) l16 c16 k16).binds (ps:=["self","place"]) λ _ _ _ _ _ _ us hl=>by obtain⟨_,_,rfl⟩:=My.us2 hl;rfl
  a5o:=f17
  a5t:=_
  b2o:=a0k (st:=a2f) l17 c17 k17
  b1w:=(a0k (st:=a2f) l17 c17 k17).binds (ps:=["self","looks"]) λ _ _ _ _ _ _ us hl=>by obtain⟨_,_,rfl⟩:=My.us2 hl;rfl
  b6n:=f18
  b5q:=_
  b5v:=a0k (st:=a7y) l18 c18 k18
  c3a:=(a0k (st:=a7y) l18 c18 k18).binds (ps:=["word"]) λ _ _ _ _ _ _ us hl=>by obtain⟨_,rfl⟩:=My.us1 hl;rfl
  c2m:=mg_of X G a18
  b3f:=f19
  b2y:=_
  b2x:=a0k (st:=a6c) l19 c19 k19
  b7d:=(a0k (st:=a6c) l19 c19 k19).binds (ps:=["past","word"]) λ _ _ _ _ _ _ us hl=>by obtain⟨_,_,rfl⟩:=My.us2 hl;rfl
  b7z:=mg_of X G a19
  b6k:=f20
  b5p:=_
  b6t:=a0k (st:=a8d) l20 c20 k20
  c0h:=(a0k (st:=a8d) l20 c20 k20).binds (ps:=["deal","level"]) λ _ _ _ _ _ _ us hl=>by obtain⟨_,_,rfl⟩:=My.us2 hl;rfl
  c2r:=mg_of X G a20
  b6h:=f21
  b6d:=_
  b5k:=a0k (st:=a8b) l21 c21 k21
  c1z:=(a0k (st:=a8b) l21 c21 k21).binds (ps:=["past","levels"]) λ _ _ _ _ _ _ us hl=>by obtain⟨_,_,rfl⟩:=My.us2 hl;rfl
  c0f:=mg_of X G a21
  b3h:=f22
  b2u:=_
  b7q:=a0k (st:=a6n) l22 c22 k22
  c4m:=(a0k (st:=a6n) l22 c22 k22).binds (ps:=["past","levels"]) λ _ _ _ _ _ _ us hl=>by obtain⟨_,_,rfl⟩:=My.us2 hl;rfl
  c4t:=mg_of X G a22
  c5j:=f23
  c1a:=_
  d1w:=e0j (st:=b8a) l23 c23 k23
  d9l:=λ s us XX hl=>by rw[List.append_nil] at hl ⊢;obtain⟨_,_,rfl⟩:=My.us2 hl;exact b3a rfl dl23 rfl XX ⟨_,rfl,rfl⟩
  e3t:=λ s us XX hl=>by obtain⟨_,rfl⟩:=My.us1 (us:=us) (by simpa using hl);exact b3a rfl dl23 rfl XX ⟨_,rfl,rfl⟩
  d9g:=mg_of X G a23
  a5y:=f24
  a5l:=_
  a7z:=a0k (st:=a2c) l24 c24 k24
  b1q:=(a0k (st:=a2c) l24 c24 k24).binds (ps:=["order"]) λ _ _ _ _ _ _ us hl=>by obtain⟨_,rfl⟩:=My.us1 hl;rfl
  b2d:=mg_of X G a24
  b5x:=f25
  b6l:=_
  c3c:=a0k (st:=a8c) l25 c25 k25
  c8t:=(a0k (st:=a8c) l25 c25 k25).binds (ps:=["deal","level","place"]) λ _ _ _ _ _ _ us hl=>by obtain⟨_,_,_,rfl⟩:=My.us3 hl;rfl
  c9z:=mg_of X G a25
  c7h:=f26
  c6g:=_
  d1t:=a0k (st:=b4y) l26 c26 k26
  d9e:=(a0k (st:=b4y) l26 c26 k26).binds (ps:=["look","makers"]) λ _ _ _ _ _ _ us hl=>by obtain⟨_,_,rfl⟩:=My.us2 hl;rfl
  d8n:=mg_of X G a26
  b1c:=f27
  b0z:=_
  b4o:=a0k (st:=a5d) l27 c27 k27
  c2s:=(a0k (st:=a5d) l27 c27 k27).binds (ps:=["past","order","levels"]) λ _ _ _ _ _ _ us hl=>by obtain⟨_,_,_,rfl⟩:=My.us3 hl;rfl
  c2a:=mg_of X G a27
  a7i:=f28
  a7j:=_
  b0m:=a0k (st:=a3l) l28 c28 k28
  b6w:=(a0k (st:=a3l) l28 c28 k28).binds (ps:=["past","order","levels"]) λ _ _ _ _ _ _ us hl=>by obtain⟨_,_,_,rfl⟩:=My.us3 hl;rfl
  b6a:=mg_of X G a28
  b6f:=f29
  b2f:=_
  a9p:=e0j (st:=a9m) l29 c29 k29
  b5u:=λ s us XX hl=>by rw[List.append_nil] at hl ⊢;obtain⟨_,_,_,rfl⟩:=My.us3 hl;exact b3a rfl dl29 rfl XX ⟨_,rfl,rfl⟩
  c5c:=λ s us XX hl=>by obtain⟨_,_,rfl⟩:=My.us2 (us:=us) (by simpa using hl);exact b3a rfl dl29 rfl XX ⟨_,rfl,rfl⟩
  b2i:=mg_of X G a29
  b9q:=f30
  b9j:=_
  a1w:=a0k (st:=b0w) l30 c30 k30
  a2m:=(a0k (st:=b0w) l30 c30 k30).binds (ps:=["_law_cell_here","_law_k"]) λ _ _ _ _ _ _ us hl=>by obtain⟨_,_,rfl⟩:=My.us2 hl;rfl
  a2o:=mg_of X G a30
  c5i:=f31
  c7w:=_
  b2g:=a0k (st:=b4m) l31 c31 k31
  b4t:=(a0k (st:=b4m) l31 c31 k31).binds (ps:=["_law_script","_law_k"]) λ _ _ _ _ _ _ us hl=>by obtain⟨_,_,rfl⟩:=My.us2 hl;rfl
  b4n:=mg_of X G a31
  b9s:=f32
  b9i:=_
  b0u:=a0k (st:=b0y) l32 c32 k32
  b3n:=(a0k (st:=b0y) l32 c32 k32).binds (ps:=["_law_word","_law_looks"]) λ _ _ _ _ _ _ us hl=>by obtain⟨_,_,rfl⟩:=My.us2 hl;rfl
  b2v:=mg_of X G a32
  b9x:=f33
  b9r:=_
  b9t:=a0k (st:=a9y) l33 c33 k33
  c7q:=(a0k (st:=a9y) l33 c33 k33).binds (ps:=["_law_word","_law_k"]) λ _ _ _ _ _ _ us hl=>by obtain⟨_,_,rfl⟩:=My.us2 hl;rfl
  c5n:=mg_of X G a33
  b9w:=f34
  b9u:=_
  b9z:=a0k (st:=b0h) l34 c34 k34
  c5r:=(a0k (st:=b0h) l34 c34 k34).binds (ps:=["_law_word","_law_looks"]) λ _ _ _ _ _ _ us hl=>by obtain⟨_,_,rfl⟩:=My.us2 hl;rfl
  c5k:=mg_of X G a34
  a7g:=f35
  a7p:=_
  b0i:=a0k (st:=a3m) l35 c35 k35
  b6s:=(a0k (st:=a3m) l35 c35 k35).binds (ps:=["_law_script","_law_word"]) λ _ _ _ _ _ _ us hl=>by obtain⟨_,_,rfl⟩:=My.us2 hl;rfl
  b5w:=mg_of X G a35
  a7k:=f36
  a7e:=_
  b1b:=a0k (st:=a3h) l36 c36 k36
  b6u:=(a0k (st:=a3h) l36 c36 k36).binds (ps:=["_law_script","_law_deals"]) λ _ _ _ _ _ _ us hl=>by obtain⟨_,_,rfl⟩:=My.us2 hl;rfl
  b6c:=mg_of X G a36
  c7g:=f37
  c7v:=_
  d1h:=a0k (st:=b5a) l37 c37 k37
  d8v:=(a0k (st:=b5a) l37 c37 k37).binds (ps:=["_law_cell_here"]) λ _ _ _ _ _ _ us hl=>by obtain⟨_,rfl⟩:=My.us1 hl;rfl
  d7j:=mg_of X G a37
  c5s:=f38
  c5v:=_
  d2l:=a0k (st:=b4z) l38 c38 k38
  d8z:=(a0k (st:=b4z) l38 c38 k38).binds (ps:=["_law_keys_here","_law_last","_law_number","_law_strange"]) λ _ _ _ _ _ _ us hl=>by obtain⟨_,_,_,_,rfl⟩:=My.us4 hl;rfl
  e0x:=mg_of X G a38
  c5z:=f39
  c5d:=_
  d1r:=a0k (st:=b4x) l39 c39 k39
  d7i:=(a0k (st:=b4x) l39 c39 k39).binds (ps:=["_law_number","_law_word","_law_mask","_law_state"]) λ _ _ _ _ _ _ us hl=>by obtain⟨_,_,_,_,rfl⟩:=My.us4 hl;rfl
  d7o:=mg_of X G a39
  c6u:=f40
  c7t:=_
  d1i:=a0k (st:=b4q) l40 c40 k40
  d6v:=(a0k (st:=b4q) l40 c40 k40).binds (ps:=["_law_script","_law_deals","_law_order"]) λ _ _ _ _ _ _ us hl=>by obtain⟨_,_,_,rfl⟩:=My.us3 hl;rfl
  d8l:=mg_of X G a40
  b5b:=f41
  b5h:=_
  c2t:=a0k (st:=a8e) l41 c41 k41
  c9v:=(a0k (st:=a8e) l41 c41 k41).binds (ps:=["_law_past_here"]) λ _ _ _ _ _ _ us hl=>by obtain⟨_,rfl⟩:=My.us1 hl;rfl
  c9q:=mg_of X G a41
  c6f:=f42
  c6o:=_
  d3a:=a0k (st:=b4r) l42 c42 k42
  d7l:=(a0k (st:=b4r) l42 c42 k42).binds (ps:=["_law_deals","_law_word"]) λ _ _ _ _ _ _ us hl=>by obtain⟨_,_,rfl⟩:=My.us2 hl;rfl
  e0o:=mg_of X G a42
  b5z:=f43
  b5f:=_
  c1r:=a0k (st:=a7u) l43 c43 k43
  d0l:=(a0k (st:=a7u) l43 c43 k43).binds (ps:=["_law_ways_here","_law_order"]) λ _ _ _ _ _ _ us hl=>by obtain⟨_,_,rfl⟩:=My.us2 hl;rfl
  c8j:=mg_of X G a43
  a7l:=f44
  a7o:=_
  b1e:=a0k (st:=a3i) l44 c44 k44
  b6x:=(a0k (st:=a3i) l44 c44 k44).binds (ps:=["_law_keeps","_law_firsts","_law_makers"]) λ _ _ _ _ _ _ us hl=>by obtain⟨_,_,_,rfl⟩:=My.us3 hl;rfl
  b5m:=mg_of X G a44
  c7x:=f45
  c7s:=_
  d1y:=a0k (st:=b4u) l45 c45 k45
  d7m:=(a0k (st:=b4u) l45 c45 k45).binds (ps:=["_law_keeps","_law_makers","_law_source","_law_at"]) λ _ _ _ _ _ _ us hl=>by obtain⟨_,_,_,_,rfl⟩:=My.us4 hl;rfl
  e0p:=mg_of X G a45
  d3v:=f46
  d5c:=_
  d7f:=a0k (st:=c0e) l46 c46 k46
  e4u:=(a0k (st:=c0e) l46 c46 k46).binds (ps:=["_law_past_here","_law_order","_law_word"]) λ _ _ _ _ _ _ us hl=>by obtain⟨_,_,_,rfl⟩:=My.us3 hl;rfl
  e5a:=mg_of X G a46
  a6o:=f47
  a6t:=_
  a9i:=a0k (st:=a2x) l47 c47 k47
  b4d:=(a0k (st:=a2x) l47 c47 k47).binds (ps:=["_law_past_here","_law_number"]) λ _ _ _ _ _ _ us hl=>by obtain⟨_,_,rfl⟩:=My.us2 hl;rfl
  b4f:=mg_of X G a47
  a8w:=f48
  a8t:=_
  b1s:=a0k (st:=a4a) l48 c48 k48
  b8n:=(a0k (st:=a4a) l48 c48 k48).binds (ps:=["_law_past_here","_law_order","_law_way","_law_number"]) λ _ _ _ _ _ _ us hl=>by obtain⟨_,_,_,_,rfl⟩:=My.us4 hl;rfl
  b8i:=mg_of X G a48
  b3o:=f49
  b3j:=_
  b3v:=a0k (st:=a6j) l49 c49 k49
  b7u:=(a0k (st:=a6j) l49 c49 k49).binds (ps:=["_law_past_here","_law_order","_law_word"]) λ _ _ _ _ _ _ us hl=>by obtain⟨_,_,_,rfl⟩:=My.us3 hl;rfl
  b7r:=mg_of X G a49
  e2q:=fa
  e1x:=_
  f0y:=a0k (st:=c3n) l50 c50 k50
  f2j:=(a0k (st:=c3n) l50 c50 k50).binds (ps:=["_law_script"]) λ _ _ _ _ _ _ us hl=>by obtain⟨_,rfl⟩:=My.us1 hl;rfl
  f1w:=mg_of X G a50
  b0a:=ec0
  d2x:=mg_of X G e0
  a2k:=ec1
  c8w:=mg_of X G e1
  a5n:=ec2
  d9h:=mg_of X G e2
  a8s:=ec3
  e5k:=mg_of X G e3
  a8x:=ec4
  e5e:=mg_of X G e4
  a5v:=ec5
  d9f:=mg_of X G e5
  a8u:=ec6
  e5l:=mg_of X G e6
  b0k:=ec7
  c1p:=mg_of X G e7
  c8e:=⟨mg_of X G e1,x0⟩
  d4e:=⟨c0m,c2v,c2o⟩
  b5y:=⟨b7f,b8c,b7m,b7l⟩
  e3x:=d1d
  e2e:=d2f
  b6m:=⟨a0,mf0,k0⟩
  b4i:=⟨a1,mf1,k1⟩
  a8i:=⟨a2,mf2,k2⟩
  a8a:=⟨a3,mf3,k3⟩
  d7v:=⟨c6j,c7d,c7p⟩
  c0z:=⟨c1t,c1l,c1h,c1w⟩
  e8o:=d8h
  e7u:=d7d
  b8h:=⟨a4,mf4,k4⟩
  b5r:=⟨a5,mf5,k5⟩
  a9n:=⟨a6,mf6,k6⟩
  a8p:=⟨a7,mf7,k7⟩
  d9b:=⟨c5q,c7a,c7o⟩
  c2d:=⟨c0r,c3g,c1s,c2w⟩
  e7r:=d8u
  e6x:=d8a
  b8f:=⟨a8,mf8,k8⟩
  b5i:=⟨a9,mf9,k9⟩
  a9s:=⟨a10,mf10,k10⟩
  a8y:=⟨a11,mf11,k11⟩
  d3t:=⟨c0u,c3f,c1y⟩
  b6q:=⟨b7g,b7c,b7o,b8d⟩
  e4c:=d1p
  e2r:=d2u
  b5l:=⟨a12,mf12,k12⟩
  b4a:=⟨a13,mf13,k13⟩
  a8q:=⟨a6y,mf10,k10⟩
  a7w:=⟨a6e,mf11,k11⟩
  d7e:=⟨c7u,c6n,c5t⟩
  c3e:=⟨c0d,c1n,c0x,c1d⟩
  e8i:=d6n
  e6d:=d7q
  b8g:=⟨a14,mf14,k14⟩
  b6e:=⟨a15,mf15,k15⟩
  a9k:=⟨a16,mf16,k16⟩
  a8k:=⟨a17,mf17,k17⟩
  tg:=tgx
  tt:=ttx
  b7y:=⟨b1z,b2t,b2e,b2j,b2p,b2r⟩
  b8s:=⟨mg_of X G e0,a9c,a9j,a9d⟩
  d6e:=c2u
  a7d:=⟨a3w,a4f,a3x,a3u⟩
  a8o:=⟨a5a,a5c,a4w,a4v⟩
  a7c:=⟨a4d,a3y,a4b,a4e⟩
  d9w:=_
  d8f:=mg_of X G n0
  e0b:=mg_none_of X G e0b
  d4x:=mg_none_of X G d4x
  b6b:=mg_none_of X G b6b
  b0f:=mg_none_of X G b0f
  d8o:=mg_none_of X G d8o
  a5i:=mg_none_of X G a5i
  a5u:=mg_none_of X G a5u
  b4b:=mg_none_of X G b4b
  a2y:=mg_none_of X G a2y
  b9p:=mg_none_of X G b9p
  e3e:=mg_none_of X G e3e}
 exact⟨fnOf "law" "law" (a0p c3n) (a0o c3n) (a0f c3n) .none kV50 dc50 pm50 an50 cd50 ct50,λ s v=>.of_eq rfl,λ base _ _=>f1g T⟩
theorem walk {l:PySem.W.OpenLaw} {q:Program} {loose:List Str} {XP:(Str->Option Value)->Heap->Prop} {YP:World->Heap->Prop} {d:DefRec} {K:Params->PySem.W.Frag} (hn:l.most=some 63) (hdf:d.params.defaults=[])
  (hY:∀ (w:World) (h:Heap),YP w h->(K w.params).In h)
  (F:∀ (w:World) (mg:Str->Option Value) (fa:Addr) (h:Heap),(K w.params).In h->h.Ns mainGlobals mg->mg d.name=some (.ref fa) ->
   ∃ fd:FuncData,(∀ (s:Shared) (u:Value),BindsTo s fd ⟨[u],[]⟩ [("_law_script",u)])/\∀ base:Heap,(K w.params).In base->base.Ns mainGlobals mg->a4j l.prog w (K w.params) mg base CX0 7 fa fd ["_law_script"] (e4j (K w.params))) :
  PySem.W.WalkO q loose XP YP l.row.toRowW d [] (λ f vs=>PySem.call f vs) :=
 My.e3u (n:=63) (k:=7) (x:="_law_script") (CX:=λ _=>CX0) (sp:=λ w=>e4j (K w.params)) hn (by decide) hdf ⟨rfl,by decide,by decide⟩ hY F (λ _ _ a ns hl hb _ hS=>⟨a,ns,rfl,hS,hl,hb,λ _=>rfl⟩) λ _ _ _ _ _ z=>z
end Lw
namespace PySem.W.Fast
def tw9309176983423725408:=0
def tw7825839241406310836:=0
def tw12853359741738688932:=0
def tw628850656264781670:=0
def tw9190855247224637313:=0
def tw16411568151974240552:=0
def tw12257083156495730400:=0
def tw7862227581527384132:=0
def tw4059776110362853670:=0
def tw17431041433370996768:=0
def tw4130747039095150732:=0
def tw15004091012046229871:=0
def tw2232532180293641643:=0
def tw17024353929106025790:=0
def tw4510711794154096460:=0
def tw13463810805235646390:=0
def tw17820240727062043114:=0
def tw12842885182390794787:=0
def tw5833938122557079735:=0
def tw12725246342642860947:=0
def tw2453335619112352316:=0
def tw8373301915113179350:=0
def tw9603666863818982875:=0
def tw8110830681979446456:=0
def tw10200665408773778836:=0
def tw13846122592212188487:=0
def tw277830646986731498:=0
def tw1588547929015931191:=0
def tw15922644538264172104:=0
def tw3941704300343253215:=0
def tw6754859612198570949:=0
def tw10022826532293832760:=0
def tw9208691441997187094:=0
def tw16140279192544431758:=0
def tw14798492809928333599:=0
def tw2547604811504947085:=0
def tw809239145660694814:=0
def tw1517418330140483274:=0
def tw10311659917403682260:=0
def tw498924252312285868:=0
def tw13799432385433084722:=0
def tw11168851700125538621:=0
def tw9851616407812937418:=0
def tw9989578174882437392:=0
def tw2217156580990637336:=0
def tw13220795609573937708:=0
def tw4241544441263720895:=0
def tw1879270311764316297:=0
def tw3239024197297268551:=0
def tw4728075488273386897:=0
def tw487568410645696197:=0
def tw7433814928111234270:=0
def tw9082241651544326525:=0
def tw14363122694184322490:=0
def tw2616704845598709098:=0
def tw595114187046958245:=0
def tw16028888422831961549:=0
def tw9911098694606372226:=0
def tw14296077411635271045:=0
def tw16707686697598007924:=0
def tw5081947614615940325:=0
def tw6063231814224338106:=0
def tw840473290758673260:=0
def tw15186057448518529820:=0
def tw9696193224157816713:=0
def tw11999108091279460973:=0
def tw4629069060086444467:=0
def tw3751380812146298506:=0
def tw15428304808025826141:=0
def tw10556519729718314093:=0
def tw3941773164269801770:=0
def tw1076065164067313659:=0
def tw16438823058759718730:=0
def tw14056482002033001172:=0
def tw8008861730112139333:=0
def tw14418134671225046529:=0
def tw15296549570064369607:=0
def tw8811949867742986575:=0
def tw8711318930263018133:=0
def tw4732565358478013472:=0
def tw8577002967173714230:=0
def tw7062517706079594850:=0
def tw16554398695808750943:=0
def tw17862587312640663998:=0
def tw16384818604921229156:=0
def tw326079185845489675:=0
def tw5219746049573301955:=0
def tw3772316622490331832:=0
def tw15030509194013022375:=0
def tw1059496930225188159:=0
def tw3056179214495972269:=0
def tw8617629190556538350:=0
def tw5429251011917954668:=0
def tw8306912739418678009:=0
def tw10733150502003046256:=0
def tw8234932045319043769:=0
def tw18155017047698920003:=0
def tw10869270037355400377:=0
def tw15749672407507698381:=0
def tw5635718455016733719:=0
def tw17112490376233436997:=0
def tw8053822673954494052:=0
def tw7823838007882770578:=0
def tw15730924730849912721:=0
def tw5826131684356238604:=0
def tw15946546273808734867:=0
def tw7692738316629129742:=0
def tw3814553093355117581:=0
def tw12469651924790415291:=0
def tw3380493638434758461:=0
def tw16435717936554116134:=0
def tw11124572749569255193:=0
def tw1019666293412535285:=0
def tw9992880844584892830:=0
def tw17543323502066186799:=0
def tw11937514901078763532:=0
def tw17341800812770124772:=0
def tw3335970374413957944:=0
def tw4621076534027727207:=0
def tw4318555693136863180:=0
def tw7697648427775363011:=0
def tw1734491604028614496:=0
def tw5108764191113639582:=0
def tw4157687788610772643:=0
def tw6613148330292248477:=0
def tw8093401717585474030:=0
def tw6981932690727524131:=0
def tw17421040006736397146:=0
def tw2779876657484392756:=0
def tw1885955961702606231:=0
def tw6891950866557622260:=0
def tw13937493160116170298:=0
def tw10366751705479250194:=0
def tw4811083429182018680:=0
def tw8853293773900278334:=0
def tw4837741588362425240:=0
def tw1924052718056236744:=0
def tw11612441893039252873:=0
def tw7572368076767822017:=0
def tw12968552718427945844:=0
def tw11200089289559191805:=0
def tw9530788188945504712:=0
def tw10963235513188521738:=0
def tw12453007232379087663:=0
def tw2178251837949769856:=0
def tw16786639130615971974:=0
def tw11718059728991145115:=0
def tw18039045631648824676:=0
def tw3905063940049079857:=0
def tw17802253313292098513:=0
def tw10902928320612908020:=0
def tw1534182964870497684:=0
def tw2334738944278674737:=0
def tw10859777672998228087:=0
def tw11608243265693261312:=0
def tw4512144278456408472:=0
def tw8853568411236079886:=0
def tw210047371767135563:=0
def tw16613570022498866633:=0
def tw8736446959364944465:=0
def tw11713188486337727109:=0
def tw11734576725747434500:=0
def tw10769740177649152556:=0
def tw554129369264960785:=0
def tw8568462249380663221:=0
def tw14027730598747208857:=0
def tw14391668146475546200:=0
def tw9195815409966058541:=0
def tw16835146490366054709:=0
def tw9491514952550171646:=0
def tw7680545489816770225:=0
def tw6565455485669964785:=0
def tw11520349285235225031:=0
def tw8571095623170046572:=0
def tw5831529053576528959:=0
def tw9494424221426794491:=0
def tw6070920672241422627:=0
def tw6806975797559186979:=0
def tw7368196621665308271:=0
def tw9675291087555132570:=0
def tw10594793565946419122:=0
def tw8299640838016131399:=0
def tw1818456193832504630:=0
def tw9384062943265982413:=0
def tw1328706575316851748:=0
def tw3518881563557035386:=0
def tw15608638816854958875:=0
def tw16746685209220725618:=0
def tw2934600572854378851:=0
def tw7537055954659799074:=0
def tw7572631190816702554:=0
def tw16574293649213629762:=0
def tw5378166262563534181:=0
def tw948305324377984863:=0
def tw15810570903052837096:=0
def tw3900857120110696647:=0
def tw9847434391057553351:=0
def tw3109703982340125388:=0
def tw12518081162989132004:=0
def tw4714613988492563477:=0
def tw14280854924717274815:=0
def tw6275136786520019175:=0
def tw7496114386024324691:=0
def tw6894896019609380599:=0
def tw4766338862810465475:=0
def tw4687089344781398768:=0
def tw14694959616891607676:=0
def tw16789302096053682546:=0
def tw3102779161205098729:=0
def tw3067694144014146337:=0
def tw15137213303062601243:=0
def tw2929544903078737436:=0
def tw12831062562629010211:=0
def tw14349526872956568667:=0
def tw11275165255361138850:=0
def tw16762934621344896292:=0
def tw1800695902490681769:=0
def tw5177088060787408723:=0
def tw6962415343995318978:=0
def tw1729708782134244468:=0
def tw3531746108164288727:=0
def tw10073508961175209880:=0
def tw14799147937204728129:=0
def tw9608964516964188068:=0
def tw7748700860465716646:=0
def tw1291661488543648397:=0
def tw4615851137955244222:=0
def tw12470483931845946017:=0
def tw1985683505679074013:=0
def tw2416167841152443196:=0
def tw3829748696986710582:=0
def tw17921095571065793733:=0
def tw11700541409184589627:=0
def tw2037340120215856742:=0
def tw5696927713337078849:=0
def tw4649917506073756053:=0
def tw9975981045789524280:=0
def tw9717027665096234898:=0
def tw3427963507067718987:=0
def tw7105671672273156058:=0
def tw6772808768538757065:=0
def tw13947226314775135945:=0
def tw2231509764201300396:=0
def tw17509882610259805742:=0
def tw15681909934140660385:=0
def tw12979696241803588751:=0
def tw904976339986807682:=0
def tw2651067650020686868:=0
def tw6311231602128003793:=0
def tw1602103005573908830:=0
def tw1541367071397911384:=0
def tw15140969879667279783:=0
def tw1646837640366231839:=0
def tw7444804547064009005:=0
def tw2130235924491263206:=0
def tw8470307970580086140:=0
def tw11131595246829719459:=0
def tw14149209132802826525:=0
def tw13664927253432815003:=0
def tw14748003677457626604:=0
def tw16886867686141049628:=0
def tw8763081101157805205:=0
def tw13753687998056594967:=0
def tw6843313350808904210:=0
def tw3003116317346062424:=0
def tw15493616268529650781:=0
def tw5975487204177476932:=0
def tw15749060303513920129:=0
def tw13082568641886782311:=0
def tw17236501965656393506:=0
def tw17877546926445132714:=0
def tw9256360739964538697:=0
def tw9657875180069131577:=0
def tw7776724127483428732:=0
def tw5356931739743427385:=0
def tw14216127613414624752:=0
def tw8663782089839446682:=0
def tw7808884921043365165:=0
def tw12152053416554953452:=0
def tw8026563246363042965:=0
def tw1700084405578123756:=0
def tw15173710796848051534:=0
def tw2025156540945657251:=0
def tw11048709978088592915:=0
def tw13998876823738275424:=0
def tw10479475234501979848:=0
def tw14190760494581917467:=0
def tw14719475008245375448:=0
def tw17350624036079235481:=0
def tw7245155907837804143:=0
def tw7093190291335734002:=0
def tw369768059617143410:=0
def tw4285548967949836398:=0
def tw10238494135425010968:=0
def tw2878276120716881081:=0
def tw5022412846248668919:=0
def tw8965916352952639407:=0
def tw18252133168509852561:=0
def tw5964776295467218259:=0
def tw14092629357747431973:=0
def tw9249746771918346358:=0
def tw11809555200277737697:=0
def tw1637227469750835603:=0
def tw18219117687414281491:=0
def tw17120655268718537534:=0
def tw5706121720131883065:=0
def tw13446758349155036012:=0
def tw6224439930243220724:=0
def tw14378016370843862479:=0
def tw2283897037307948144:=0
def tw7897243790443063955:=0
def tw3698144008799536405:=0
def tw14889172925268566157:=0
def tw6725012934301572610:=0
def tw7322665120004615909:=0
def tw14448487800165719422:=0
def tw5118005796459975373:=0
def tw1115079640126491156:=0
def tw13059230463654058640:=0
def tw17193959197858048776:=0
def tw12042527494749518458:=0
def tw16859570340286509907:=0
def tw11941971168007005405:=0
def tw10186537237060596609:=0
def tw4045906116015436660:=0
def tw10110737356414624246:=0
def tw5748768403500307934:=0
def tw13420196408946676658:=0
def tw15669636260441100488:=0
def tw16300507390007222167:=0
def tw16639223733564597336:=0
def tw9748289333466018471:=0
def tw3579445094170578323:=0
def tw8566644892175114937:=0
def tw7525497985739088410:=0
def tw16710662056127105954:=0
def tw7166787682266324715:=0
def tw17220405966127382754:=0
def tw5466111545110718387:=0
def tw13797303431706463666:=0
def tw1433082019475564311:=0
def tw4261424934646301329:=0
def tw2512210818163026122:=0
def tw6037311557838301341:=0
def tw5033577524024344279:=0
def tw5146213433946165880:=0
def tw5143541240978342399:=0
def tw5774098665946089887:=0
def tw7887932044528682604:=0
def tw1542096587938595293:=0
def tw16113091077893330512:=0
def tw11570459648437594649:=0
def tw1515671681672654319:=0
def tw16709029547184697264:=0
def tw6467172584297046002:=0
def tw9681575171622387179:=0
def tw2695700249593654676:=0
def tw1909081780828185200:=0
def tw535235006118512502:=0
def tw8919834814597420193:=0
def tw15371643748699926007:=0
def tw9107536435181637387:=0
def tw425642977031490760:=0
def tw15792991922288073429:=0
def tw4166493415184806310:=0
def tw18292146953243253152:=0
def tw11537452942988575598:=0
def tw9447702597411952135:=0
def tw8459946804286194256:=0
def tw8896771714860950490:=0
def tw3188923466668313315:=0
def tw12319840467631683071:=0
def tw2959954394357725272:=0
def tw16282272182539852341:=0
def tw8839897179666516823:=0
def tw8503296339546708253:=0
def tw14709007516430282178:=0
def tw11511908632456231217:=0
def tw5582632536669646689:=0
def tw2382218713576551218:=0
def tw16907477933975440513:=0
def tw12491491569170332414:=0
def tw17904663323513169814:=0
def tw12891887362429267070:=0
def tw13434160932191020993:=0
def tw1075679986664241395:=0
def tw11627611004611681330:=0
def tw11578242406494450878:=0
def tw6519055635180354093:=0
def tw5719000806421864187:=0
def tw15645610018995430400:=0
def tw17803289584945469708:=0
def tw14002012015055291355:=0
def tw2784517837206090282:=0
def tw4556569046963059973:=0
def tw16534369139996783948:=0
def tw15161580086643087836:=0
def tw8526946960489346677:=0
def tw16113612141502966740:=0
def tw3049291234808889593:=0
def tw17938131159122636801:=0
def tw1582017284329645149:=0
def tw10144485843261860170:=0
def tw3892609326980497534:=0
def tw5504728358718291844:=0
def tw11359579517924532587:=0
def tw763682901707776494:=0
def tw15445324512598873093:=0
def tw18331734886572992819:=0
def tw3086000581302663311:=0
def tw5947191250413373745:=0
def tw11787111734683604452:=0
def tw15962878031503190445:=0
def tw5055638471709367282:=0
def tw6748710732704965316:=0
def tw15671430048382621370:=0
def tw3835354904787140045:=0
def tw3537826315884642184:=0
def tw17476413399115109976:=0
def tw5241819959221899386:=0
def tw7298901051260982015:=0
def tw9880794255458428382:=0
def tw14934367298151289185:=0
def tw3454318574330866619:=0
def tw18026676554475768957:=0
def tw12965621467508686065:=0
def tw5361546977701408007:=0
def tw10833736252270049907:=0
def tw13883332157205718871:=0
def tw1592883761302764649:=0
def tw7033807047092862907:=0
def tw14389938420932093794:=0
def tw7465681601992484759:=0
def tw4805532408383521204:=0
def tw13197676532529447591:=0
def tw10920338698725602797:=0
def tw18223465845404376085:=0
def tw618597261309459727:=0
def tw978108950799673293:=0
def tw12646783513217742955:=0
def tw8498294620991811076:=0
def tw10883421935085850687:=0
def tw8555060056482157019:=0
def tw11914669197660464431:=0
def tw4793645983133451123:=0
def tw18360034930607193076:=0
def tw10327209420463000066:=0
def tw17143656374506564443:=0
def tw9628448581239412937:=0
def tw9175702298472965058:=0
def tw13559991056490015238:=0
def tw12052032004357885994:=0
def tw1983520196403956348:=0
def tw704464940782311730:=0
def tw9318374521289181806:=0
def tw13188997881121076713:=0
def tw9494785531831189238:=0
def tw15245508981698884290:=0
def tw1074000898982532136:=0
def tw836368029246107360:=0
def tw10893877318617858028:=0
def tw2672160354395710239:=0
def tw1765753286702783568:=0
def tw11791680870226746036:=0
def tw16166794603232008942:=0
def tw3861652477452512670:=0
def tw2188573705010061020:=0
def tw4899245609436895901:=0
def tw10010595247670678027:=0
def tw767191186722746913:=0
def tw1506500473002641315:=0
def tw6947488264968610172:=0
def tw16823779034039242658:=0
def tw5898053829665796103:=0
def tw5318946982781404940:=0
def tw1223296974461607960:=0
def tw8584704839001590962:=0
def tw18062419747405772716:=0
def tw4020560932757265539:=0
def tw11751082537931088252:=0
def tw861696799659918559:=0
def tw12473287691724779283:=0
def tw6895327498920138251:=0
def tw11478777395621442374:=0
def tw12603904082353974161:=0
def tw2624663742076293374:=0
def tw408300685159749366:=0
def tw16416612133062392894:=0
def tw11253731440281121240:=0
def tw13186238989862356670:=0
def tw9557641780053132760:=0
def tw9436267187794614725:=0
def tw7628970486761642585:=0
def tw5272264973636772196:=0
def tw3805691460892354049:=0
def tw11871841556852269324:=0
def tw11453048649902387021:=0
def tw8865802731028808993:=0
def tw17717490497500414046:=0
def tw1362909753310550947:=0
def tw2051757482550249680:=0
def tw40602039127488169:=0
def tw512533818547459210:=0
def tw1677943540490730277:=0
def tw16952555284548029917:=0
def tw16347770977135758402:=0
def tw12382370228454322067:=0
def tw2147692249558167088:=0
def tw4045902373201794169:=0
def tw14727318137542269943:=0
def tw9596464332751375227:=0
def tw8773107215740364571:=0
def tw10284079698033779676:=0
def tw17403693201601414343:=0
def tw6857113635664473533:=0
def tw15986889136621745831:=0
def tw3761303140296860740:=0
def tw7864762544547605986:=0
def tw6553017456616852021:=0
end PySem.W.Fast
open PySem PySem.W PyProof.Rows
set_option maxRecDepth 100000 in
set_option maxHeartbeats 0 in
theorem PySem.Challenge.cw_skewhouse_k56_orders_at_a_word_holds : PySem.Challenge.rw_skewhouse_k56_orders_at_a_word.Holds := by
 w_on;o_law;k_head;(case hw=>w_witness2)
 k_fill
 refine Lw.walk (l:=PySem.Challenge.rw_skewhouse_k56_orders_at_a_word) rfl rfl (λ w h Y=>PySem.W.kIn_of Y) ?F
 case F =>
  intro w mg fa h KX G hmg
  refine' Lw.all_mk KX G hmg ?e0 ?e1 ?e2 ?e3 ?e4 ?e5 ?e6 ?e7 ?a0 ?l0 ?c0 ?k0 ?a1 ?l1 ?c1 ?k1 ?a2 ?l2 ?c2 ?k2 ?a3 ?l3 ?c3 ?k3 ?a4 ?l4 ?c4 ?k4 ?a5 ?l5 ?c5 ?k5 ?a6 ?l6 ?c6 ?k6 ?a7 ?l7 ?c7 ?k7 ?a8 ?l8 ?c8 ?k8 ?a9 ?l9 ?c9 ?k9 ?a10 ?l10 ?c10 ?k10 ?a11 ?l11 ?c11 ?k11 ?a12 ?l12 ?c12 ?k12 ?a13 ?l13 ?c13 ?k13 ?a14 ?l14 ?c14 ?k14 ?a15 ?l15 ?c15 ?k15 ?a16 ?l16 ?c16 ?k16 ?a17 ?l17 ?c17 ?k17 ?a18 ?l18 ?c18 ?k18 ?a19 ?l19 ?c19 ?k19 ?a20 ?l20 ?c20 ?k20 ?a21 ?l21 ?c21 ?k21 ?a22 ?l22 ?c22 ?k22 ?a23 ?l23 ?c23 ?k23 ?a24 ?l24 ?c24 ?k24 ?a25 ?l25 ?c25 ?k25 ?a26 ?l26 ?c26 ?k26 ?a27 ?l27 ?c27 ?k27 ?a28 ?l28 ?c28 ?k28 ?a29 ?l29 ?c29 ?k29 ?a30 ?l30 ?c30 ?k30 ?a31 ?l31 ?c31 ?k31 ?a32 ?l32 ?c32 ?k32 ?a33 ?l33 ?c33 ?k33 ?a34 ?l34 ?c34 ?k34 ?a35 ?l35 ?c35 ?k35 ?a36 ?l36 ?c36 ?k36 ?a37 ?l37 ?c37 ?k37 ?a38 ?l38 ?c38 ?k38 ?a39 ?l39 ?c39 ?k39 ?a40 ?l40 ?c40 ?k40 ?a41 ?l41 ?c41 ?k41 ?a42 ?l42 ?c42 ?k42 ?a43 ?l43 ?c43 ?k43 ?a44 ?l44 ?c44 ?k44 ?a45 ?l45 ?c45 ?k45 ?a46 ?l46 ?c46 ?k46 ?a47 ?l47 ?c47 ?k47 ?a48 ?l48 ?c48 ?k48 ?a49 ?l49 ?c49 ?k49 ?a50 ?l50 ?c50 ?k50 ?x0 ?dl23 ?dl29 ?b1z ?b2t ?b2e ?b2j ?b2p ?b2r ?c0m ?c2v ?c2o ?b7f ?b8c ?b7m ?b7l ?d1d ?d2f ?c6j ?c7d ?c7p ?c1t ?c1l ?c1h ?c1w ?d8h ?d7d ?c5q ?c7a ?c7o ?c0r ?c3g ?c1s ?c2w ?d8u ?d8a ?c0u ?c3f ?c1y ?b7g ?b7c ?b7o ?b8d ?d1p ?d2u ?a6y ?a6e ?c7u ?c6n ?c5t ?c0d ?c1n ?c0x ?c1d ?d6n ?d7q ?mf0 ?mf1 ?mf2 ?mf3 ?mf4 ?mf5 ?mf6 ?mf7 ?mf8 ?mf9 ?mf10 ?mf11 ?mf12 ?mf13 ?mf14 ?mf15 ?mf16 ?mf17 ?tgx ?ttx ?a9c ?a9j ?a9d ?c2u ?a3w ?a4f ?a3x ?a3u ?a5a ?a5c ?a4w ?a4v ?a4d ?a3y ?a4b ?a4e ?n0 ?z0 ?z1 ?z2 ?z3 ?z4 ?z5 ?z6 ?z7 ?z8 ?z9 ?z10
  (case e0=>k_is)
  (case e1=>k_is)
  (case e2=>k_is)
  (case e3=>k_is)
  (case e4=>k_is)
  (case e5=>k_is)
  (case e6=>k_is)
  (case e7=>k_is)
  (case a0=>k_is);(case l0=>k_is);(case c0=>k_is);(case k0=>k_is)
  (case a1=>k_is);(case l1=>k_is);(case c1=>k_is);(case k1=>k_is)
  (case a2=>k_is);(case l2=>k_is);(case c2=>k_is);(case k2=>k_is)
  (case a3=>k_is);(case l3=>k_is);(case c3=>k_is);(case k3=>k_is)
  (case a4=>k_is);(case l4=>k_is);(case c4=>k_is);(case k4=>k_is)
  (case a5=>k_is);(case l5=>k_is);(case c5=>k_is);(case k5=>k_is)
  (case a6=>k_is);(case l6=>k_is);(case c6=>k_is);(case k6=>k_is)
  (case a7=>k_is);(case l7=>k_is);(case c7=>k_is);(case k7=>k_is)
  (case a8=>k_is);(case l8=>k_is);(case c8=>k_is);(case k8=>k_is)
  (case a9=>k_is);(case l9=>k_is);(case c9=>k_is);(case k9=>k_is)
  (case a10=>k_is);(case l10=>k_is);(case c10=>k_is);(case k10=>k_is)
  (case a11=>k_is);(case l11=>k_is);(case c11=>k_is);(case k11=>k_is)
  (case a12=>k_is);(case l12=>k_is);(case c12=>k_is);(case k12=>k_is)
  (case a13=>k_is);(case l13=>k_is);(case c13=>k_is);(case k13=>k_is)
  (case a14=>k_is);(case l14=>k_is);(case c14=>k_is);(case k14=>k_is)
  (case a15=>k_is);(case l15=>k_is);(case c15=>k_is);(case k15=>k_is)
  (case a16=>k_is);(case l16=>k_is);(case c16=>k_is);(case k16=>k_is)
  (case a17=>k_is);(case l17=>k_is);(case c17=>k_is);(case k17=>k_is)
  (case a18=>k_is);(case l18=>k_is);(case c18=>k_is);(case k18=>k_is)
  (case a19=>k_is);(case l19=>k_is);(case c19=>k_is);(case k19=>k_is)
  (case a20=>k_is);(case l20=>k_is);(case c20=>k_is);(case k20=>k_is)
  (case a21=>k_is);(case l21=>k_is);(case c21=>k_is);(case k21=>k_is)
  (case a22=>k_is);(case l22=>k_is);(case c22=>k_is);(case k22=>k_is)
  (case a23=>k_is);(case l23=>k_is);(case c23=>k_is);(case k23=>k_is)
  (case a24=>k_is);(case l24=>k_is);(case c24=>k_is);(case k24=>k_is)
  (case a25=>k_is);(case l25=>k_is);(case c25=>k_is);(case k25=>k_is)
  (case a26=>k_is);(case l26=>k_is);(case c26=>k_is);(case k26=>k_is)
  (case a27=>k_is);(case l27=>k_is);(case c27=>k_is);(case k27=>k_is)
  (case a28=>k_is);(case l28=>k_is);(case c28=>k_is);(case k28=>k_is)
  (case a29=>k_is);(case l29=>k_is);(case c29=>k_is);(case k29=>k_is)
  (case a30=>k_is);(case l30=>k_is);(case c30=>k_is);(case k30=>k_is)
  (case a31=>k_is);(case l31=>k_is);(case c31=>k_is);(case k31=>k_is)
  (case a32=>k_is);(case l32=>k_is);(case c32=>k_is);(case k32=>k_is)
  (case a33=>k_is);(case l33=>k_is);(case c33=>k_is);(case k33=>k_is)
  (case a34=>k_is);(case l34=>k_is);(case c34=>k_is);(case k34=>k_is)
  (case a35=>k_is);(case l35=>k_is);(case c35=>k_is);(case k35=>k_is)
  (case a36=>k_is);(case l36=>k_is);(case c36=>k_is);(case k36=>k_is)
  (case a37=>k_is);(case l37=>k_is);(case c37=>k_is);(case k37=>k_is)
  (case a38=>k_is);(case l38=>k_is);(case c38=>k_is);(case k38=>k_is)
  (case a39=>k_is);(case l39=>k_is);(case c39=>k_is);(case k39=>k_is)
  (case a40=>k_is);(case l40=>k_is);(case c40=>k_is);(case k40=>k_is)
  (case a41=>k_is);(case l41=>k_is);(case c41=>k_is);(case k41=>k_is)
  (case a42=>k_is);(case l42=>k_is);(case c42=>k_is);(case k42=>k_is)
  (case a43=>k_is);(case l43=>k_is);(case c43=>k_is);(case k43=>k_is)
  (case a44=>k_is);(case l44=>k_is);(case c44=>k_is);(case k44=>k_is)
  (case a45=>k_is);(case l45=>k_is);(case c45=>k_is);(case k45=>k_is)
  (case a46=>k_is);(case l46=>k_is);(case c46=>k_is);(case k46=>k_is)
  (case a47=>k_is);(case l47=>k_is);(case c47=>k_is);(case k47=>k_is)
  (case a48=>k_is);(case l48=>k_is);(case c48=>k_is);(case k48=>k_is)
  (case a49=>k_is);(case l49=>k_is);(case c49=>k_is);(case k49=>k_is)
  (case a50=>k_is);(case l50=>k_is);(case c50=>k_is);(case k50=>k_is)
  (case x0=>k_exc)
  (case dl23=>k_is)
  (case dl29=>k_is)
  (case b1z=>k_is)
  (case b2t=>k_is)
  (case b2e=>k_is)
  (case b2j=>k_is)
  (case b2p=>k_is)
  (case b2r=>k_is)
  (case c0m=>k_is)
  (case c2v=>k_is)
  (case c2o=>k_is)
  (case b7f=>k_is)
  (case b8c=>k_is)
  (case b7m=>k_is)
  (case b7l=>k_is)
  (case d1d=>k_is)
  (case d2f=>k_is)
  (case c6j=>k_is)
  (case c7d=>k_is)
  (case c7p=>k_is)
  (case c1t=>k_is)
  (case c1l=>k_is)
  (case c1h=>k_is)
  (case c1w=>k_is)
  (case d8h=>k_is)
  (case d7d=>k_is)
  (case c5q=>k_is)
  (case c7a=>k_is)
  (case c7o=>k_is)
  (case c0r=>k_is)
  (case c3g=>k_is)
  (case c1s=>k_is)
  (case c2w=>k_is)
  (case d8u=>k_is)
  (case d8a=>k_is)
  (case c0u=>k_is)
  (case c3f=>k_is)
  (case c1y=>k_is)
  (case b7g=>k_is)
  (case b7c=>k_is)
  (case b7o=>k_is)
  (case b8d=>k_is)
  (case d1p=>k_is)
  (case d2u=>k_is)
  (case a6y=>k_is)
  (case a6e=>k_is)
  (case c7u=>k_is)
  (case c6n=>k_is)
  (case c5t=>k_is)
  (case c0d=>k_is)
  (case c1n=>k_is)
  (case c0x=>k_is)
  (case c1d=>k_is)
  (case d6n=>k_is)
  (case d7q=>k_is)
  (case mf0=>k_is)
  (case mf1=>k_is)
  (case mf2=>k_is)
  (case mf3=>k_is)
  (case mf4=>k_is)
  (case mf5=>k_is)
  (case mf6=>k_is)
  (case mf7=>k_is)
  (case mf8=>k_is)
  (case mf9=>k_is)
  (case mf10=>k_is)
  (case mf11=>k_is)
  (case mf12=>k_is)
  (case mf13=>k_is)
  (case mf14=>k_is)
  (case mf15=>k_is)
  (case mf16=>k_is)
  (case mf17=>k_is)
  (case tgx=>k_is)
  (case ttx=>k_is)
  (case a9c=>k_is)
  (case a9j=>k_is)
  (case a9d=>k_is)
  (case c2u=>k_is)
  (case a3w=>k_is)
  (case a4f=>k_is)
  (case a3x=>k_is)
  (case a3u=>k_is)
  (case a5a=>k_is)
  (case a5c=>k_is)
  (case a4w=>k_is)
  (case a4v=>k_is)
  (case a4d=>k_is)
  (case a3y=>k_is)
  (case a4b=>k_is)
  (case a4e=>k_is)
  (case n0=>k_is)
  (case z0=>k_is)
  (case z1=>k_is)
  (case z2=>k_is)
  (case z3=>k_is)
  (case z4=>k_is)
  (case z5=>k_is)
  (case z6=>k_is)
  (case z7=>k_is)
  (case z8=>k_is)
  (case z9=>k_is)
  (case z10=>k_is)
