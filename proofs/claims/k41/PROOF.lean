import PyProof.Rows.All
import Wide.All
import OpenK.AllK
import Wide.FinOn
import Lean
import PyProof.EqAt
import PyProof.EqKinds
import PyProof.TupleCall
import PySem.Challenge.RW_skewhouse_k41_no_such_dealing
noncomputable section
set_option Elab.async false
set_option linter.all false
set_option maxRecDepth 100000
namespace L2
open PySem PySem.Spec PyProof.Rows
abbrev Key:=Sum Int Str
def d6x:Key→Value→Bool
 | .inl k,v=>Value.isInt k v
 | .inr x,v=>Value.isStrOf x v
def g1p (w:World):Key→Int
 | .inl k=>hashInt k
 | .inr x=>hashStr w x
theorem a1z:∀ {k:Key} {v:Value},d6x k v=true→(∃ i t,k=Sum.inl i∧v=Value.int i t)∨(∃ x t,k=Sum.inr x∧v=Value.str x t)
 | .inl i,v,h=>by
  obtain⟨t,e⟩:=Value.isInt_shape (k:=i) (v:=v) h
  exact .inl ⟨i,t,rfl,e⟩
 | .inr x,v,h=>by
  obtain⟨t,e⟩:=Value.isStrOf_shape (x:=x) (v:=v) h
  exact .inr ⟨x,t,rfl,e⟩
theorem e4p (i:Int) (t:Tok):d6x (.inl i) (.int i t)=true:=by simp[d6x,Value.isInt]
theorem e5s (x:Str) (t:Tok):d6x (.inr x) (.str x t)=true:=by simp[d6x,Value.isStrOf]
theorem f7n (a b:Int):decide ((Sum.inl a:Key)=Sum.inl b)=(a == b):=by
 by_cases e:a=b
 ·subst e;simp
 ·have h:¬ (Sum.inl a:Key)=Sum.inl b:=fun q=>e (Sum.inl.inj q)
  rw[decide_eq_false h]
  exact(beq_eq_false_iff_ne.mpr e).symm
theorem f6g (a b:Str):decide ((Sum.inr a:Key)=Sum.inr b)=decide (a=b):=by
 by_cases e:a=b
 ·subst e;simp
 ·have h:¬ (Sum.inr a:Key)=Sum.inr b:=fun q=>e (Sum.inr.inj q)
  rw[decide_eq_false h,decide_eq_false e]
theorem f5s (a:Int) (b:Str):decide ((Sum.inl a:Key)=Sum.inr b)=false:=decide_eq_false (fun q=>nomatch q)
theorem f6t (a:Str) (b:Int):decide ((Sum.inr a:Key)=Sum.inl b)=false:=decide_eq_false (fun q=>nomatch q)
def a1x (prog:Program) (w:World):PySem.KeyKind prog w Key where
 is:=d6x
 hash:=g1p w
 inj:=fun v a b ha hb=>by
  rcases a1z ha with ⟨i,t,rfl,rfl⟩ | ⟨x,t,rfl,rfl⟩
  ·rcases a1z hb with ⟨j,u,rfl,e⟩ | ⟨y,u,rfl,e⟩
   ·injection e with e1 _;rw[e1]
   ·exact nomatch e
  ·rcases a1z hb with ⟨j,u,rfl,e⟩ | ⟨y,u,rfl,e⟩
   ·exact nomatch e
   ·injection e with e1 _;rw[e1]
 byValue:=fun k v h=>by
  rcases a1z h with ⟨i,t,rfl,rfl⟩ | ⟨x,t,rfl,rfl⟩<;>rfl
 pyHash:=fun hv h=>by
  rcases a1z hv with ⟨i,t,rfl,rfl⟩ | ⟨x,t,rfl,rfl⟩
  ·exact wpAny_pyHash_int h
  ·exact wpAny_pyHash_str h
 eqBool:=fun hu hv h=>by
  rcases a1z hu with ⟨i,t,rfl,rfl⟩ | ⟨x,t,rfl,rfl⟩
  ·rcases a1z hv with ⟨j,u,rfl,rfl⟩ | ⟨y,u,rfl,rfl⟩
   ·rw[f7n] at h;exact wpAny_eqBool_int h
   ·rw[f5s] at h;exact SeqAt.EqAt.int_str i t y u _ _ _ _ h
  ·rcases a1z hv with ⟨j,u,rfl,rfl⟩ | ⟨y,u,rfl,rfl⟩
   ·rw[f6t] at h;exact SeqAt.EqAt.str_int x t j u _ _ _ _ h
   ·rw[f6g] at h;exact wpAny_eqBool_str h
 «strs»:=fun k x t v h=>by
  rcases a1z h with ⟨i,u,rfl,e⟩ | ⟨y,u,rfl,e⟩
  ·exact nomatch e
  ·injection e with e1 _
   subst e1
   cases v<;>rfl
theorem d8k (prog:Program) (w:World) (i:Int) (t:Tok):(a1x prog w).is (.inl i) (.int i t)=true:=e4p i t
theorem d9v (prog:Program) (w:World) (x:Str) (t:Tok):(a1x prog w).is (.inr x) (.str x t)=true:=e5s x t
end L2
namespace L2
open PySem PySem.Spec PyProof.Rows
inductive V where
 | non | bl (b:Bool) | int (i:Int) | str (x:Str) | byt (b:Array UInt8) | flt (b:UInt64) | ref (a:Addr) | ty (n:String)
 deriving DecidableEq
def a2u:V→Value→Prop
 | .non,u=>u=Value.none
 | .bl b,u=>u=Value.bool b
 | .int i,u=>∃ t,u=Value.int i t
 | .str x,u=>∃ t,u=Value.str x t
 | .byt b,u=>∃ t,u=Value.bytes b t
 | .flt b,u=>∃ t,u=Value.float b t
 | .ref a,u=>u=Value.ref a
 | .ty n,u=>u=Value.type n
abbrev a3c:List V→List Value→Prop:=Paired a2u
theorem a3c.length {xs:List V} {us:List Value} (r:a3c xs us):xs.length=us.length:=Paired.length r
theorem a3c.get:∀ {xs:List V} {us:List Value} {i:Nat} {x:V},a3c xs us→xs[i]?=some x→∃ u,us[i]?=some u∧a2u x u
 | _,_,_,_,.nil,e=>by simp at e
 | _,_,0,_,.cons r _,e=>by simp at e;subst e;exact⟨_,rfl,r⟩
 | _,_,i+1,x,.cons _ t,e=>by
  obtain⟨u,h1,h2⟩:=a3c.get (i:=i) (x:=x) t (by simpa using e)
  exact⟨u,by simpa using h1,h2⟩
theorem a3c.set {x:V} {u:Value} (r:a2u x u):∀ {xs:List V} {us:List Value} (i:Nat),a3c xs us→a3c (xs.set i x) (us.set i u)
 | _,_,_,.nil=>.nil
 | _,_,0,.cons _ t=>.cons r t
 | _,_,i+1,.cons q t=>.cons q (a3c.set r i t)
theorem a3c.append:∀ {xs ys:List V} {us ws:List Value},a3c xs us→a3c ys ws→a3c (xs++ys) (us++ws)
 | _,_,_,_,.nil,s=>s
 | _,_,_,_,.cons r t,s=>.cons r (a3c.append t s)
theorem a3c.take:∀ {xs:List V} {us:List Value} (n:Nat),a3c xs us→a3c (xs.take n) (us.take n)
 | _,_,0,_=>.nil
 | _,_,_+1,.nil=>.nil
 | _,_,n+1,.cons r t=>.cons r (a3c.take n t)
theorem a3c.drop:∀ {xs:List V} {us:List Value} (n:Nat),a3c xs us→a3c (xs.drop n) (us.drop n)
 | _,_,0,r=>r
 | _,_,_+1,.nil=>.nil
 | _,_,n+1,.cons _ t=>a3c.drop n t
def c5e:Option V→Option Value→Prop
 | some v,some u=>a2u v u
 | none,none=>True
 | _,_=>False
def KV {κ:Type}:List (κ×V)→List (κ×Value)→Prop:=Paired fun (p:κ×V) (q:κ×Value)=>p.1=q.1∧a2u p.2 q.2
def kV:Key→V
 | .inl i=>.int i
 | .inr x=>.str x
inductive HO where
  | lst (xs:List V)
  | tup (xs:List V)
  | dK (kvs:List (Key×V)) | dT (kvs:List (List Key×V))
  | set (S:Int→Bool) (n:Nat)
  | ins (C dx:Addr) (fs:List (Str×V))
  | own (x:Addr)
  | xd (fs:List (Str×V))
  | met (f x:Addr)
  | rng (lo hi:Int)
  | frz (o:Obj) (u:HO)
  | tbl (ps:Array Value)
  | ext (φ:Heap→Prop)
abbrev Hp:=Addr→Option HO
def upd (H:Hp) (a:Addr) (o:HO):Hp:=fun b=>if b=a then some o else H b
theorem a0b {H:Hp} {a:Addr} {o:HO}:upd H a o a=some o:=by unfold upd;rw[if_pos rfl]
theorem a0d {H:Hp} {a b:Addr} {o:HO} (h:b≠a):upd H a o b=H b:=by unfold upd;rw[if_neg h]
theorem f9r {H:Hp} {a b:Addr} {o u:HO} (h:H a=some o) (h':H b=some u) (d:o≠u):a≠b:=by
 intro e;subst e;rw[h] at h';exact d (Option.some.inj h')
theorem a0u {H:Hp} {a b:Addr} {o:HO} (h:H a=some o) (h':H b=none):a≠b:=by
 intro e;subst e;rw[h] at h';cases h'
section
variable (P:Program) (w:World)
def a2f (H:Hp) (h:Heap) (a:Addr):HO→Prop
 | .lst xs=>xs.length≤sizeLine∧∃ (its:List Value) (n:Nat),a3c xs its∧h.get? a=some {cls:=.type "list",data:=.seq its.toArray n}
 | .tup xs=>xs.length≤sizeLine∧∃ its:List Value,a3c xs its∧IsTup h a its.toArray
 | .dK kvs=>kvs.length≤sizeLine∧(a == sysModules)=false∧∃ vs,KV kvs vs∧h.DictOf (a1x P w) a vs
 | .dT kvs=>kvs.length≤sizeLine∧(a == sysModules)=false∧∃ xs:List (List Key×Addr×Value),
   Paired (fun (p:List Key×V) (q:List Key×Addr×Value)=>p.1=q.1∧H q.2.1=some (.tup (p.1.map kV))∧a2u p.2 q.2.2) kvs xs ∧
   ∃ o es ep,h.get? a=some o∧o.ExactDict∧o.data=.dict es ep∧es.toList=xs.map (entryOfKey (tupleKind (a1x P w)))∧(xs.map (·.1)).Nodup
 | .set S n=>h.SetOf (intKind P w) a S n
 | .ins C dx fs=>H dx=some (.own a)∧fs.length≤1000∧dx≠a∧h.get? a=some (PySem.W.instObj C dx) ∧
   ∃ mA,h.Ns1 dx mA∧(∀ f,c5e (fs.lookup f) (mA f))∧PySem.Within mA (fs.map (·.1))
 | .own _=>∃ o,h.get? a=some o
 | .xd fs=>∃ mA,h.Ns1 a mA∧∀ f,c5e (fs.lookup f) (mA f)
 | .rng lo hi=>∃ t u v,h.get? a=some {cls:=.type "range",data:=.fields #[.int lo t,.int hi u,.int 1 v]}
 | .frz o u=>h.get? a=some o∧a2f H h a u
 | .tbl ps=>h.get? a=some {cls:=.none,data:=.fields ps}
 | .met f x=>h.get? a=some (PySem.W.methodObj (.ref f) (.ref x))
 | .ext φ=>φ h∧(∃ o,h.get? a=some o)∧∀ h1 h2:Heap,φ h1→(∀ o,h1.get? a=some o→h2.get? a=some o)→φ h2
def HOk (H:Hp) (h:Heap):Prop:=∀ a o,H a=some o→a2f P w H h a o
end
section
variable {P:Program} {w:World} {H H':Hp} {h h':Heap} {a:Addr} {o:HO}
theorem a2f.lt (x:a2f P w H h a o):a < h.objs.size:=by
 cases o with
 | lst xs=>obtain⟨_,_,_,_,e⟩:=x;exact Heap.lt_size e
 | tup xs=>obtain⟨_,_,_,p⟩:=x;exact p.lt
 | dK kvs=>obtain⟨_,_,_,_,o,_,_,e,_⟩:=x;exact Heap.lt_size e
 | dT kvs=>obtain⟨_,_,_,_,o,_,_,e,_⟩:=x;exact Heap.lt_size e
 | set S n=>obtain⟨o,_,_,_,e,_⟩:=x;exact Heap.lt_size e
 | ins C dx fs=>obtain⟨_,_,_,e,_⟩:=x;exact Heap.lt_size e
 | own y=>obtain⟨_,e⟩:=x;exact Heap.lt_size e
 | xd fs=>obtain⟨_,⟨_,_,_,e,_⟩,_⟩:=x;exact Heap.lt_size e
 | rng lo hi=>obtain⟨_,_,_,e⟩:=x;exact Heap.lt_size e
 | frz ob u=>obtain⟨e,_⟩:=x;exact Heap.lt_size e
 | tbl ps=>exact Heap.lt_size (show h.get? a=some _ from x)
 | met f y=>exact Heap.lt_size (show h.get? a=some _ from x)
 | ext φ=>obtain⟨_,⟨_,e⟩,_⟩:=x;exact Heap.lt_size e
theorem Paired.mapP {α β:Type} {F G:α→β→Prop}:∀ {l₁:List α} {l₂:List β},Paired F l₁ l₂→(∀ a b,F a b→G a b)→Paired G l₁ l₂
 | _,_,.nil,_=>.nil
 | _,_,.cons r t,f=>.cons (f _ _ r) (Paired.mapP t f)
theorem a2f.stay (x:a2f P w H h a o) (k:∀ b u,(b=a∨H b=some (.own a))→h.get? b=some u→h'.get? b=some u)
  (ho:∀ b,H b=some (.own a)→H' b=some (.own a)) (ht:∀ b xs,H b=some (.tup xs)→H' b=some (.tup xs)):a2f P w H' h' a o:=by
 induction o with
 | lst xs=>obtain⟨z,its,n,r,e⟩:=x;exact⟨z,its,n,r,k _ _ (.inl rfl) e⟩
 | tup xs=>obtain⟨z,its,r,ob,e,c⟩:=x;exact⟨z,its,r,ob,k _ _ (.inl rfl) e,c⟩
 | dK kvs=>obtain⟨z,y,vs,r,ob,es,ep,e,c⟩:=x;exact⟨z,y,vs,r,ob,es,ep,k _ _ (.inl rfl) e,c⟩
 | dT kvs =>
  obtain⟨z,y,xs,r,ob,es,ep,e,c⟩:=x
  exact⟨z,y,xs,Paired.mapP r fun p q z=>⟨z.1,ht _ _ z.2.1,z.2.2⟩,ob,es,ep,k _ _ (.inl rfl) e,c⟩
 | set S n=>obtain⟨ob,es,ep,t,e,c⟩:=x;exact⟨ob,es,ep,t,k _ _ (.inl rfl) e,c⟩
 | ins C dx fs =>
  obtain⟨d,z,ne,e,mA,⟨od,es,ep,e2,c⟩,r⟩:=x
  exact⟨ho _ d,z,ne,k _ _ (.inl rfl) e,mA,⟨od,es,ep,k _ _ (.inr d) e2,c⟩,r⟩
 | own y=>obtain⟨ob,e⟩:=x;exact⟨ob,k _ _ (.inl rfl) e⟩
 | xd fs=>obtain⟨mA,⟨od,es,ep,e,c⟩,r⟩:=x;exact⟨mA,⟨od,es,ep,k _ _ (.inl rfl) e,c⟩,r⟩
 | rng lo hi=>obtain⟨t,u,v,e⟩:=x;exact⟨t,u,v,k _ _ (.inl rfl) e⟩
 | frz ob u ih=>obtain⟨e,q⟩:=x;exact⟨k _ _ (.inl rfl) e,ih q⟩
 | tbl ps =>
  have e:h.get? a=some {cls:=.none,data:=.fields ps}:=x
  show h'.get? a=some {cls:=.none,data:=.fields ps}
  exact k a _ (.inl rfl) e
 | met f y =>
  have e:h.get? a=some (PySem.W.methodObj (.ref f) (.ref y)):=x
  show h'.get? a=some (PySem.W.methodObj (.ref f) (.ref y))
  exact k a _ (.inl rfl) e
 | ext φ=>obtain⟨p,⟨o,e⟩,st⟩:=x;exact⟨st _ _ p fun o q=>k _ _ (.inl rfl) q,⟨o,k _ _ (.inl rfl) e⟩,st⟩
theorem HOk.lt (x:HOk P w H h) (e:H a=some o):a < h.objs.size:=(x a o e).lt
theorem HOk.fresh (x:HOk P w H h) (e:h.objs.size≤a):H a=none:=by
 cases q:H a with
 | none=>rfl
 | some u=>exact absurd (Nat.lt_of_lt_of_le (x.lt q) e) (Nat.lt_irrefl _)
theorem HOk.kept (x:HOk P w H h) (k:∀ b u,h.get? b=some u→h'.get? b=some u):HOk P w H h':=fun a o e =>
 (x a o e).stay (fun b u _ q=>k b u q) (fun _ q=>q) fun _ _ q=>q
theorem HOk.laid (x:HOk P w H h) (k:∀ b u,h.get? b=some u→h'.get? b=some u) (hp:h.objs.size≤a) (new:a2f P w (upd H a o) h' a o):HOk P w (upd H a o) h':=fun b u e=>by
 have hn:=x.fresh hp
 by_cases hb:b=a
 ·subst hb;rw[a0b] at e;cases e;exact new
 ·rw[a0d hb] at e
  exact(x b u e).stay (fun c v _ q=>k c v q) (fun c q=>by rw[a0d (a0u q hn)];exact q) fun c xs q=>by rw[a0d (a0u q hn)];exact q
end
def Rd (H:Hp) (a:Addr) (u:HO):Prop:=H a=some u∨∃ o,H a=some (.frz o u)
theorem Rd.of {H:Hp} {a:Addr} {u:HO} (h:H a=some u):Rd H a u:=.inl h
theorem Rd.ok {P:Program} {w:World} {H:Hp} {h:Heap} {a:Addr} {u:HO} (r:Rd H a u) (x:HOk P w H h):a2f P w H h a u:=by
 rcases r with r | ⟨o,r⟩
 ·exact x a u r
 ·obtain⟨_,q⟩:=x a _ r
  exact q
def Mut:Option HO→Prop
 | some (.lst _)=>True
 | some (.dK _)=>True
 | some (.dT _)=>True
 | some (.set _ _)=>True
 | some (.ins _ _ _)=>True
 | some (.ext _)=>True
 | _=>False
section
variable {P:Program} {w:World} {H:Hp} {h h':Heap} {x e:Addr} {o':HO}
theorem HOk.write (ok:HOk P w H h) (mu:Mut (H x)) (he:e=x∨H e=some (.own x)) (k:∀ b u,b≠e→h.get? b=some u→h'.get? b=some u) (heo:∃ u,h'.get? e=some u)
  (new:a2f P w (upd H x o') h' x o'):HOk P w (upd H x o') h':=fun b u q=>by
 have nown:∀ c y,H c=some (.own y)→c≠x:=fun c y r z=>by subst z;rw[r] at mu;exact mu
 have ntup:∀ c xs,H c=some (.tup xs)→c≠x:=fun c xs r z=>by subst z;rw[r] at mu;exact mu
 by_cases hb:b=x
 ·subst hb;rw[a0b] at q;cases q;exact new
 ·rw[a0d hb] at q
  by_cases hbe:b=e
  ·have q':H b=some (.own x):=by
    rcases he with z | z
    ·exact absurd (hbe.trans z) hb
    ·rw[hbe];exact z
   rw[q] at q';cases q'
   obtain⟨v,hv⟩:=heo
   exact⟨v,by rw[hbe];exact hv⟩
  ·refine(ok b u q).stay (fun c v hc r=>k c v ?_ r) (fun c r=>by rw[a0d (nown c b r)];exact r) fun c xs r=>by rw[a0d (ntup c xs r)];exact r
   rcases hc with rfl | hc
   ·exact hbe
   ·rintro rfl
    rcases he with z | z
    ·exact nown c b hc z
    ·rw[hc] at z;cases z;exact hb rfl
end
structure Un (fs ex:List Addr) (H H':Hp) (h h':Heap):Prop where
 keep:∀ b o,h.get? b=some o→H b=none→b ∉ fs→b ∉ ex→h'.get? b=some o
 slot:∀ b o,h.get? b=some o→H b=none→b∈fs→b ∉ ex→∃ sl,h'.get? b=some {o with slots:=sl}
 free:∀ b o,h.get? b=some o→H b=none→b ∉ ex→H' b=none
 there:∀ b o,h.get? b=some o→b ∉ ex→∃ o',h'.get? b=some o'
 tups:∀ b xs,H b=some (.tup xs)→H' b=some (.tup xs)
 frzs:∀ b o u,H b=some (.frz o u)→H' b=some (.frz o u)
 tbls:∀ b ps,H b=some (.tbl ps)→∃ more,H' b=some (.tbl (ps++more))
section
variable {fs fs' ex ex':List Addr} {H H1 H2:Hp} {h h1 h2 h':Heap} {a x e:Addr} {o:HO}
theorem Un.any (u:Un fs ex H H1 h h1) {b:Addr} {ob:Obj} (q:h.get? b=some ob) (n:H b=none) (hx:b ∉ ex):∃ sl,h1.get? b=some {ob with slots:=sl}:=by
 by_cases hb:b∈fs
 ·exact u.slot b ob q n hb hx
 ·exact⟨ob.slots,u.keep b ob q n hb hx⟩
theorem Un.kept (k:∀ b u,h.get? b=some u→h'.get? b=some u):Un fs ex H H h h' :=
 ⟨fun b ob q _ _ _=>k b ob q,fun b ob q _ _ _=>⟨ob.slots,k b ob q⟩,fun _ _ _ n _=>n,fun b ob q _=>⟨ob,k b ob q⟩,fun _ _ q=>q,fun _ _ _ q=>q,fun _ ps q=>⟨#[],by rw[q];simp⟩⟩
theorem Un.refl:Un fs ex H H h h:=Un.kept fun _ _ q=>q
theorem Un.laid (k:∀ b u,h.get? b=some u→h'.get? b=some u) (hp:h.objs.size≤a) (hn:H a=none):Un fs ex H (upd H a o) h h' where
 keep:=fun b u q _ _ _=>k b u q
 slot:=fun b u q _ _ _=>⟨u.slots,k b u q⟩
 free:=fun b u q n _=>by rw[a0d (Nat.ne_of_lt (Nat.lt_of_lt_of_le (Heap.lt_size q) hp))];exact n
 there:=fun b u q _=>⟨u,k b u q⟩
 tups:=fun b xs q=>by rw[a0d (a0u q hn)];exact q
 frzs:=fun b u xs q=>by rw[a0d (a0u q hn)];exact q
 tbls:=fun b ps q=>⟨#[],by rw[a0d (a0u q hn),q];simp⟩
theorem Un.write (mu:Mut (H x)) (he:e=x∨H e=some (.own x)) (k:∀ b u,b≠e→h.get? b=some u→h'.get? b=some u) (heo:∃ u,h'.get? e=some u):Un fs ex H (upd H x o) h h':=by
 have hx:∀ b,H b=none→b≠x:=fun b n z=>by subst z;rw[n] at mu;exact mu
 have hb:∀ b,H b=none→b≠e:=fun b n z=>by
  subst z
  rcases he with r | r
  ·exact hx b n r
  ·rw[n] at r;cases r
 have hm:∀ b u,H b=some u→¬ Mut (some u)→b≠x:=fun b u q nm z=>by subst z;rw[q] at mu;exact nm mu
 refine⟨fun b u q n _ _=>k b u (hb b n) q,fun b u q n _ _=>⟨u.slots,k b u (hb b n) q⟩,fun b u q n _=>by rw[a0d (hx b n)];exact n,fun b u q _=>?_,
  fun b xs q=>by rw[a0d (hm b _ q fun z=>z)];exact q,fun b u xs q=>by rw[a0d (hm b _ q fun z=>z)];exact q,fun b ps q=>⟨#[],by rw[a0d (hm b _ q fun z=>z),q];simp⟩⟩
 by_cases hbe:b=e
 ·subst hbe;exact heo
 ·exact⟨u,k b u hbe q⟩
end
def trk (h:Heap) (H:Hp):List Addr:=(List.range h.objs.size).filter fun a=>(H a).isSome
def e8y (h:Heap) (H:Hp):Heap:=PySem.W.hideAll h (trk h H)
theorem e4b (h:Heap) (H:Hp):(e8y h H).objs.size=h.objs.size:=PySem.W.hideAll_size _ _
theorem d4p {h:Heap} {H:Hp} {b:Addr} {o:Obj} (e:h.get? b=some o) (n:H b=none):(e8y h H).get? b=some o :=
 PySem.W.hideAll_get _ e fun hm=>by
  have q:(H b).isSome=true:=(List.mem_filter.mp hm).2
  rw[n] at q;simp at q
theorem f4k {h:Heap} {H:Hp} {b:Addr} {o:Obj} (e:(e8y h H).get? b=some o):h.get? b=some o∧H b=none:=by
 have e':h.get? b=some o:=PySem.W.of_hideAll (trk h H) e
 refine⟨e',?_⟩
 cases q:H b with
 | none=>rfl
 | some x =>
  have hm:b∈trk h H:=List.mem_filter.mpr ⟨List.mem_range.mpr (Heap.lt_size e'),by simp[q]⟩
  have z:(e8y h H).get? b=none:=PySem.W.hideAll_none (trk h H) hm
  rw[z] at e;cases e
def f3s (g h:Heap) (L:Addr):List (Addr×Obj):=(List.range h.objs.size).filterMap fun a=>if a=L∨(g.get? a).isSome=true then none else (h.get? a).map fun o=>(a,o)
def rest (g h:Heap) (L d:Addr):List (Addr×Obj):=(f3s g h L).filter fun p=>decide (p.1≠d)
end L2
namespace L2
open PySem PySem.Spec PyProof.Rows
structure Mod (K:PySem.W.Frag) (mg:Str→Option Value) (base:Heap):Prop where
 kin:K.In base
 glob:base.Ns mainGlobals mg
 blt:∃ mb,base.Ns builtinsNs mb∧∀ x:Str,x≠"__name__"→mb x=bootBuiltins x
 nolimit:base.NoLimit
structure Cx where
 prog:Program
 w:World
 K:PySem.W.Frag
 mg:Str→Option Value
 base:Heap
 A:Around
 N:List Str
 s₀:Shared
 H₀:Hp
 env:Env
 outer:List Env
 stack:List Env
 ex:List Addr
 fn:Str→Bool
 calm:Bool
 pn:List (Addr×Obj)
 xe:Value→Shared→Prop
def frs (l:List Env):List Addr:=l.filterMap (·.frame)
abbrev Cx.fs (X:Cx):List Addr:=frs X.outer
def Vis (sc:Scope) (x:Str):Prop:=sc.names.lookup x=some .local∨sc.names.lookup x=some .cell∨sc.names.lookup x=some .free
def Loc (sc:Scope) (x:Str):Prop:=sc.names.lookup x=some .local∨sc.names.lookup x=some .cell
def Look (env:Env) (h:Heap) (m:Str→Option Value) (x:Str) (u:Value):Prop :=
 (env.kindOf x=some .local∧m x=some u)∨((env.kindOf x=some .cell∨env.kindOf x=some .free)∧∃ c,env.cells.lookup x=some c∧h.IsCell c (some u))
structure Cx.Ok (X:Cx):Prop where
 mod:Mod X.K X.mg X.base
 kind:X.env.scope.kind=.function
 glob:X.env.globals=mainGlobals
 blt:X.env.builtins=builtinsNs
 above:X.s₀.heap.objs.size≤X.env.locals
 inj:∀ x y c,X.env.cells.lookup x=some c→X.env.cells.lookup y=some c→x=y
 has:∀ x,(X.env.kindOf x=some .cell∨X.env.kindOf x=some .free)→∃ c,X.env.cells.lookup x=some c
 cab:∀ x c,X.fn x=true→X.env.cells.lookup x=some c→X.s₀.heap.objs.size≤c
 hd:X.calm=true→X.A.handled=none
 frames:X.A.frames=some X.stack
 stk:X.stack=X.outer∨(X.stack=X.env::X.outer∧X.env.frame=some X.env.locals)
 exf:∀ b∈X.ex,b≠X.env.locals∧∀ x c,X.env.cells.lookup x=some c→c≠b
 bs:∀ b o,X.base.get? b=some o→X.s₀.heap.get? b=some o∧X.H₀ b=none
 bsz:X.base.objs.size≤X.s₀.heap.objs.size
 noex:∀ b o,X.base.get? b=some o→b ∉ X.ex
 exfs:∀ b∈X.ex,b ∉ X.fs
 funs:X.s₀.heap.FunFrames X.base X.outer
 frf:∀ b∈X.fs,X.H₀ b=none
structure Inv (X:Cx) (pins:List (Addr×Obj)) (σ:List (Option V)) (H:Hp) (s:Shared):Prop where
 ok:X.Ok
 os:s.os=X.s₀.os
 bare:AllBare s.gens
 base:Un X.fs X.ex X.H₀ H X.s₀.heap s.heap
 loc:∃ m,s.heap.Ns X.env.locals m∧∀ (i:Nat) (x:Str) (v:V),X.N[i]?=some x→σ[i]?=some (some v)→Vis X.env.scope x→∃ u,a2u v u∧Look X.env s.heap m x u
 cell:∀ x c,X.env.cells.lookup x=some c→∃ v,s.heap.IsCell c v
 free:H X.env.locals=none
 freeC:∀ x c,X.env.cells.lookup x=some c→H c=none
 pin:∀ p∈X.pn++pins,s.heap.get? p.1=some p.2∧H p.1=none∧p.1≠X.env.locals∧p.1 ∉ X.fs∧∀ v,p.2.data≠.cell v
 hok:HOk X.prog X.w H s.heap
 len:σ.length=X.N.length
section
variable {X:Cx} {pins:List (Addr×Obj)} {σ:List (Option V)} {H H':Hp} {s:Shared} {h':Heap}
theorem Cx.Ok.nofr (ok:X.Ok) {b:Addr} {o:Obj} (e:X.base.get? b=some o):b ∉ X.fs:=fun hb=>by
 have:=(ok.funs.mem hb).1
 rw[e] at this;cases this
theorem Inv.bs (I:Inv X pins σ H s):∀ b o,X.base.get? b=some o→s.heap.get? b=some o∧H b=none:=fun b o e =>
 ⟨I.base.keep b o (I.ok.bs b o e).1 (I.ok.bs b o e).2 (I.ok.nofr e) (I.ok.noex b o e),I.base.free b o (I.ok.bs b o e).1 (I.ok.bs b o e).2 (I.ok.noex b o e)⟩
theorem Inv.bk (I:Inv X pins σ H s):∀ b o,X.base.get? b=some o→s.heap.get? b=some o:=fun b o e=>(I.bs b o e).1
theorem Inv.mod (I:Inv X pins σ H s):Mod X.K X.mg X.base:=I.ok.mod
theorem Inv.kIn (I:Inv X pins σ H s):X.K.In s.heap:=I.ok.mod.kin.keeps I.bk
theorem Inv.nolimit (I:Inv X pins σ H s):s.heap.NoLimit:=I.ok.mod.nolimit.keeps I.bk
theorem Inv.lt (I:Inv X pins σ H s):X.env.locals < s.heap.objs.size:=let ⟨_,hn,_⟩:=I.loc;hn.lt
theorem Inv.sz (I:Inv X pins σ H s):X.s₀.heap.objs.size≤s.heap.objs.size:=Nat.le_trans I.ok.above (Nat.le_of_lt I.lt)
theorem Inv.nofs (I:Inv X pins σ H s) {a:Addr} (h:s.heap.objs.size≤a):a ∉ X.fs:=fun hb=>by
 obtain⟨_,o,ho,_⟩:=I.ok.funs.mem hb
 exact absurd (Nat.lt_of_lt_of_le (Heap.lt_size ho) (Nat.le_trans I.sz h)) (Nat.lt_irrefl _)
theorem Inv.cne (I:Inv X pins σ H s):∀ x c,X.env.cells.lookup x=some c→c≠X.env.locals:=fun x c e z=>by
 obtain⟨v,o,ho,hd⟩:=I.cell x c e
 obtain⟨m,⟨o',es,ep,ho',hd',_⟩,_⟩:=I.loc
 rw[z,ho'] at ho;cases ho;rw[hd'] at hd;cases hd
theorem Inv.funs (I:Inv X pins σ H s):s.heap.FunFrames X.base X.outer:=by
 have all:∀ (l:List Env),(∀ b∈frs l,b∈X.fs)→X.s₀.heap.FunFrames X.base l→s.heap.FunFrames X.base l:=by
  intro l
  induction l with
  | nil=>intro _ _;trivial
  | cons env r ih =>
   intro hs hl
   obtain⟨hk,⟨L,o,hf,hn,ho,hd⟩,hr⟩:=hl
   have hL:L∈X.fs:=hs L (by unfold frs;rw[List.filterMap_cons,hf];exact List.mem_cons_self)
   obtain⟨sl,e⟩:=I.base.slot L o ho (I.ok.frf L hL) hL fun z=>I.ok.exfs L z hL
   exact⟨hk,⟨L,_,hf,hn,e,hd⟩,ih (fun b hb=>hs b (by unfold frs;rw[List.filterMap_cons,hf];exact List.mem_cons_of_mem _ hb)) hr⟩
 exact all X.outer (fun _ hb=>hb) I.ok.funs
theorem Inv.stack (I:Inv X pins σ H s):s.heap.FunFrames X.base X.stack:=by
 rcases I.ok.stk with e | ⟨e,hf⟩
 ·rw[e];exact I.funs
 ·rw[e]
  obtain⟨m,hn,_⟩:=I.loc
  refine .cons (by rw[I.ok.kind];decide) hf hn ?_ I.funs
  exact Heap.get?_none_of_le (Nat.le_trans I.ok.bsz I.ok.above)
theorem Inv.stkSub (I:Inv X pins σ H s):∀ b∈frs X.stack,b∈X.env.locals::X.fs:=fun b hb=>by
 rcases I.ok.stk with e | ⟨e,hf⟩
 ·rw[e] at hb;exact List.mem_cons_of_mem _ hb
 ·rw[e] at hb
  unfold frs at hb
  rw[List.filterMap_cons,hf] at hb
  exact hb
theorem Inv.stkFree (I:Inv X pins σ H s):∀ b∈frs X.stack,H b=none:=fun b hb=>by
 rcases List.mem_cons.mp (I.stkSub b hb) with e | hb
 ·rw[e];exact I.free
 ·obtain⟨_,o,ho,_⟩:=I.ok.funs.mem hb
  exact I.base.free b o ho (I.ok.frf b hb) fun z=>I.ok.exfs b z hb
theorem Inv.step {g':Array GenState} {t':Nat} {d':Drawn} {ch:List Addr} (I:Inv X pins σ H s)
  (hch:∀ b∈ch,(b∈X.ex∨X.s₀.heap.objs.size≤b)∧b≠X.env.locals∧(∀ x c,X.env.cells.lookup x=some c→c≠b)∧∀ p∈X.pn++pins,p.1≠b)
  (keep:∀ b o,b≠X.env.locals→b ∉ X.fs→b ∉ ch→s.heap.get? b=some o→H b=none→h'.get? b=some o)
  (slot:∀ b o,b≠X.env.locals→b∈X.fs→b ∉ ch→s.heap.get? b=some o→H b=none→∃ sl,h'.get? b=some {o with slots:=sl}) (free:∀ b o,b ∉ ch→s.heap.get? b=some o→H b=none→H' b=none)
  (there:∀ b o,b ∉ ch→s.heap.get? b=some o→∃ o',h'.get? b=some o')
  (tups:∀ b xs,H b=some (.tup xs)→H' b=some (.tup xs)) (frzs:∀ b o u,H b=some (.frz o u)→H' b=some (.frz o u)) (tbls:∀ b ps,H b=some (.tbl ps)→∃ more,H' b=some (.tbl (ps++more)))
  (ns:∀ m,s.heap.Ns X.env.locals m→h'.Ns X.env.locals m) (hok:HOk X.prog X.w H' h') (hg:AllBare g') :
  Inv X pins σ H' {s with heap:=h',gens:=g',drawn:=d',toks:=t'}:=by
 have neL:∀ b o,X.s₀.heap.get? b=some o→b≠X.env.locals:=fun b o e=>Nat.ne_of_lt (Nat.lt_of_lt_of_le (Heap.lt_size e) I.ok.above)
 have neC:∀ b o,X.s₀.heap.get? b=some o→b ∉ X.ex→b ∉ ch:=fun b o e hx hb=>by
  rcases(hch b hb).1 with z | z
  ·exact hx z
  ·exact absurd (Nat.lt_of_lt_of_le (Heap.lt_size e) z) (Nat.lt_irrefl _)
 have cellK:∀ x c,X.env.cells.lookup x=some c→∀ v,s.heap.IsCell c v→h'.IsCell c v:=fun x c e v ⟨o,ho,hd⟩=>by
  have nch:c ∉ ch:=fun z=>(hch c z).2.2.1 x c e rfl
  by_cases hc:c∈X.fs
  ·obtain⟨sl,q⟩:=slot c o (I.cne x c e) hc nch ho (I.freeC x c e)
   exact⟨_,q,hd⟩
  ·exact⟨o,keep c o (I.cne x c e) hc nch ho (I.freeC x c e),hd⟩
 refine⟨I.ok,I.os,hg,⟨fun b o e n hb hx=>?_,fun b o e n hb hx=>?_,fun b o e n hx=>?_,fun b o e hx=>?_,fun b xs e=>tups b xs (I.base.tups b xs e),fun b o xs e=>frzs b o xs (I.base.frzs b o xs e),fun b ps e=>?_⟩,?_,fun x c e=>?_,?_,fun x c e=>?_,fun p hp=>?_,hok,I.len⟩
 ·exact keep b o (neL b o e) hb (neC b o e hx) (I.base.keep b o e n hb hx) (I.base.free b o e n hx)
 ·obtain⟨sl,e1⟩:=I.base.slot b o e n hb hx
  obtain⟨sl',e2⟩:=slot b _ (neL b o e) hb (neC b o e hx) e1 (I.base.free b o e n hx)
  exact⟨sl',e2⟩
 ·obtain⟨o',e1⟩:=I.base.there b o e hx
  exact free b o' (neC b o e hx) e1 (I.base.free b o e n hx)
 ·obtain⟨o',e1⟩:=I.base.there b o e hx
  exact there b o' (neC b o e hx) e1
 ·obtain⟨m1,e1⟩:=I.base.tbls b ps e
  obtain⟨m2,e2⟩:=tbls b _ e1
  exact⟨m1++m2,by rw[e2,Array.append_assoc]⟩
 ·obtain⟨m,hn,hl⟩:=I.loc
  refine⟨m,ns m hn,fun i x v e1 e2 e3=>?_⟩
  obtain⟨u,r,l⟩:=hl i x v e1 e2 e3
  refine⟨u,r,?_⟩
  rcases l with l | ⟨k,c,e,z⟩
  ·exact .inl l
  ·exact .inr ⟨k,c,e,cellK x c e _ z⟩
 ·obtain⟨v,z⟩:=I.cell x c e
  exact⟨v,cellK x c e v z⟩
 ·obtain⟨m,⟨o,_,_,ho,_⟩,_⟩:=I.loc
  exact free _ o (fun z=>(hch _ z).2.1 rfl) ho I.free
 ·obtain⟨v,o,ho,hd⟩:=I.cell x c e
  exact free c o (fun z=>(hch c z).2.2.1 x c e rfl) ho (I.freeC x c e)
 ·obtain⟨e,n,ne,nf,d⟩:=I.pin p hp
  have nch:p.1 ∉ ch:=fun z=>(hch p.1 z).2.2.2 p hp rfl
  exact⟨keep p.1 p.2 ne nf nch e n,free p.1 p.2 nch e n,ne,nf,d⟩
theorem Inv.un {t':Nat} (I:Inv X pins σ H s) (u:Un X.fs [] H H' s.heap h') (hok:HOk X.prog X.w H' h'):Inv X pins σ H' {s with heap:=h',toks:=t'}:=by
 obtain⟨m,⟨o,es,ep,ho,r⟩,_⟩:=id I.loc
 obtain⟨sl,hL⟩:=u.any ho I.free (by simp)
 exact I.step (g':=s.gens) (d':=s.drawn) (ch:=[]) (fun _ z=>nomatch z) (fun b o _ hb _ e n=>u.keep b o e n hb (by simp)) (fun b o _ hb _ e n=>u.slot b o e n hb (by simp)) (fun b o _ e n=>u.free b o e n (by simp)) (fun b o _ e=>u.there b o e (by simp)) u.tups u.frzs u.tbls (fun m' hm=>by
  obtain⟨o',es',ep',ho',r'⟩:=hm
  rw[ho] at ho';cases ho'
  exact⟨_,es',ep',hL,r'⟩) hok I.bare
theorem Inv.call {g':Array GenState} {t':Nat} {d':Drawn} {ch:List Addr} (I:Inv X pins σ H s) (u:Un (frs X.stack) ch H H' s.heap h') (hok:HOk X.prog X.w H' h') (hg:AllBare g')
  (hch:∀ b∈ch,(b∈X.ex∨X.s₀.heap.objs.size≤b)∧b≠X.env.locals∧(∀ x c,X.env.cells.lookup x=some c→c≠b)∧∀ p∈X.pn++pins,p.1≠b) :
  Inv X pins σ H' {s with heap:=h',gens:=g',drawn:=d',toks:=t'}:=by
 obtain⟨m,⟨o,es,ep,ho,r⟩,_⟩:=id I.loc
 obtain⟨sl,hL⟩:=u.any ho I.free fun z=>(hch _ z).2.1 rfl
 exact I.step (ch:=ch) hch (fun b o hL hb hc e n=>u.keep b o e n (fun z=>(List.mem_cons.mp (I.stkSub b z)).elim hL hb) hc) (fun b o _ _ hc e n=>u.any e n hc) (fun b o hc e n=>u.free b o e n hc) (fun b o hc e=>u.there b o e hc) u.tups u.frzs u.tbls (fun m' hm=>by
  obtain⟨o',es',ep',ho',r'⟩:=hm
  rw[ho] at ho';cases ho'
  exact⟨_,es',ep',hL,r'⟩) hok hg
theorem Inv.turned {t':Nat} {it:Addr} (I:Inv X pins σ H s) (k:∀ b o,b≠it→s.heap.get? b=some o→h'.get? b=some o) (hn:H it=none) (hL:it≠X.env.locals)
  (h1:it∈X.ex∨X.s₀.heap.objs.size≤it) (h2:∀ x c,X.env.cells.lookup x=some c→c≠it) (h3:∀ p∈X.pn++pins,p.1≠it):Inv X pins σ H {s with heap:=h',toks:=t'}:=by
 have nit:∀ b u,H b=some u→b≠it:=fun b u e z=>by rw[z,hn] at e;cases e
 refine I.step (g':=s.gens) (d':=s.drawn) (ch:=[it]) (fun b hb=>?_) (fun b o _ _ hc e _=>k b o (fun z=>hc (by simp[z])) e) (fun b o _ _ hc e _=>⟨o.slots,k b o (fun z=>hc (by simp[z])) e⟩) (fun _ _ _ _ n=>n)
  (fun b o hc e=>⟨o,k b o (fun z=>hc (by simp[z])) e⟩) (fun _ _ e=>e) (fun _ _ _ e=>e) (fun b ps e=>⟨#[],by rw[e];simp⟩) (fun m hm=>?_) (fun b u e=>?_) I.bare
 ·have e:b=it:=by simpa using hb
  subst e
  exact⟨h1,hL,h2,h3⟩
 ·obtain⟨o,es,ep,ho,r⟩:=hm
  exact⟨o,es,ep,k _ o (Ne.symm hL) ho,r⟩
 ·refine(I.hok b u e).stay (fun c v hc q=>k c v ?_ q) (fun _ q=>q) fun _ _ q=>q
  rcases hc with z | z
  ·rw[z];exact nit b u e
  ·exact nit c _ z
theorem Inv.tok (I:Inv X pins σ H s) (t:Nat):Inv X pins σ H {s with toks:=t}:=I.un (h':=s.heap) (t':=t) Un.refl I.hok
theorem Inv.kept {t':Nat} (I:Inv X pins σ H s) (k:∀ b u,s.heap.get? b=some u→h'.get? b=some u):Inv X pins σ H {s with heap:=h',toks:=t'}:=I.un (Un.kept k) (I.hok.kept k)
theorem Inv.laid {a:Addr} {o:HO} {t':Nat} (I:Inv X pins σ H s) (k:∀ b u,s.heap.get? b=some u→h'.get? b=some u) (hp:s.heap.objs.size≤a) (new:a2f X.prog X.w (upd H a o) h' a o) :
  Inv X pins σ (upd H a o) {s with heap:=h',toks:=t'}:=I.un (Un.laid k hp (I.hok.fresh hp)) (I.hok.laid k hp new)
theorem Inv.write {x e:Addr} {o:HO} {t':Nat} (I:Inv X pins σ H s) (mu:Mut (H x)) (he:e=x∨H e=some (.own x)) (k:∀ b u,b≠e→s.heap.get? b=some u→h'.get? b=some u) (heo:∃ u,h'.get? e=some u)
  (new:a2f X.prog X.w (upd H x o) h' x o):Inv X pins σ (upd H x o) {s with heap:=h',toks:=t'}:=I.un (Un.write mu he k heo) (I.hok.write mu he k heo new)
theorem Inv.pins_of {pins':List (Addr×Obj)} (I:Inv X pins σ H s) (h:∀ p∈pins',s.heap.get? p.1=some p.2∧H p.1=none∧p.1≠X.env.locals∧p.1 ∉ X.fs∧∀ v,p.2.data≠.cell v):Inv X pins' σ H s :=
 ⟨I.ok,I.os,I.bare,I.base,I.loc,I.cell,I.free,I.freeC,fun p hp=>(List.mem_append.mp hp).elim (fun z=>I.pin p (List.mem_append_left _ z)) (h p),I.hok,I.len⟩
theorem d3k {N:List Str} (hN:N.Nodup) {i j:Nat} {x:Str} (a:N[i]?=some x) (b:N[j]?=some x):i=j:=by
 obtain⟨h1,e1⟩:=List.getElem?_eq_some_iff.mp a
 obtain⟨h2,e2⟩:=List.getElem?_eq_some_iff.mp b
 exact(List.getElem_inj hN).mp (e1.trans e2.symm)
theorem c8j {M:Model} {A:Around} {E:Value→Shared→Prop} {i:Nat} {x:Str} {v:V} {u:Value} {Q:Unit→Shared→Prop} (I:Inv X pins σ H s) (hN:X.N.Nodup) (hi:X.N[i]?=some x) (hx:Loc X.env.scope x) (r:a2u v u)
  (h:∀ s',Inv X pins (σ.set i (some v)) H s'→(∃ a,Heap.SameBut a s.heap s'.heap∧(a=X.env.locals∨X.env.cells.lookup x=some a))→Q () s') (hf:X.fn x=true∨X.env.scope.names.lookup x=some .local:=by first | exact .inl rfl | exact .inr rfl | assumption):wpAny M A (storeName X.env x u) Q E s:=by
 obtain⟨m,hn,hl⟩:=id I.loc
 have hcls:(X.env.scope.kind == .class || (X.env.scope.kind == .module && X.env.locals != X.env.globals))=false:=by rw[I.ok.kind];rfl
 have hiσ:i < σ.length:=by rw[I.len];exact(List.getElem?_eq_some_iff.mp hi).1
 have cne:=I.cne
 have tracked:∀ {a:Addr} {h':Heap},(∃ o,s.heap.get? a=some o∧H a=none)→Heap.SameBut a s.heap h'→HOk X.prog X.w H h':=fun {a h'} ha hs b ob e=>by
  obtain⟨_,_,hfree⟩:=ha
  refine(I.hok b ob e).stay (fun c w' hc q=>(hs.2 c ?_).trans q) (fun _ q=>q) fun _ _ q=>q
  rintro rfl
  rcases hc with rfl | hc
  ·rw[hfree] at e;cases e
  ·rw[hfree] at hc;cases hc
 rcases hx with hk | hk
 ·refine wpAny_storeName_local hk hn (fun h' hn' hs=>?_) hcls
  obtain⟨oL,_,_,hoL,_⟩:=id hn
  refine h _ ⟨I.ok,I.os,I.bare,⟨fun b o e n hb hx=>?_,fun b o e n hb hx=>?_,I.base.free,fun b o e hx=>?_,I.base.tups,I.base.frzs,I.base.tbls⟩,⟨_,hn',fun j y v' e1 e2 e3=>?_⟩,fun y c e=>?_,I.free,I.freeC,fun p hp=>?_,tracked ⟨oL,hoL,I.free⟩ hs,by simpa using I.len⟩ ⟨_,hs,.inl rfl⟩
  ·exact(hs.2 b (Nat.ne_of_lt (Nat.lt_of_lt_of_le (Heap.lt_size e) I.ok.above))).trans (I.base.keep b o e n hb hx)
  ·obtain⟨sl,e1⟩:=I.base.slot b o e n hb hx
   exact⟨sl,(hs.2 b (Nat.ne_of_lt (Nat.lt_of_lt_of_le (Heap.lt_size e) I.ok.above))).trans e1⟩
  ·obtain⟨o',e1⟩:=I.base.there b o e hx
   exact⟨o',(hs.2 b (Nat.ne_of_lt (Nat.lt_of_lt_of_le (Heap.lt_size e) I.ok.above))).trans e1⟩
  ·by_cases hj:j=i
   ·subst hj
    rw[hi] at e1;cases e1
    rw[List.getElem?_set_self hiσ] at e2
    cases e2
    exact⟨u,r,.inl ⟨hk,by simp⟩⟩
   ·rw[List.getElem?_set_ne (Ne.symm hj)] at e2
    obtain⟨u',r',q⟩:=hl j y v' e1 e2 e3
    refine⟨u',r',?_⟩
    rcases q with ⟨k,e⟩ | ⟨k,c,e,z⟩
    ·refine .inl ⟨k,?_⟩
     have:y≠x:=fun e=>hj (d3k hN e1 (e ▸ hi))
     simp[this,e]
    ·exact .inr ⟨k,c,e,z.sameBut hs (cne y c e)⟩
  ·obtain⟨w',z⟩:=I.cell y c e
   exact⟨w',z.sameBut hs (cne y c e)⟩
  ·obtain⟨e,n,ne,nf,d⟩:=I.pin p hp
   exact⟨(hs.2 p.1 ne).trans e,n,ne,nf,d⟩
 ·have hfn:X.fn x=true:=by
   rcases hf with z | z
   ·exact z
   ·rw[z] at hk;cases hk
  obtain⟨c,hc⟩:=I.ok.has x (.inl hk)
  obtain⟨w',z⟩:=I.cell x c hc
  refine wpAny_storeName_cell I.ok.kind hk hc z (fun h' hc' hs=>?_)
  obtain⟨oc,hoc,hocd⟩:=id z
  refine h {s with heap:=h'} ⟨I.ok,I.os,I.bare,⟨fun b o e n hb hx=>?_,fun b o e n hb hx=>?_,I.base.free,fun b o e hx=>?_,I.base.tups,I.base.frzs,I.base.tbls⟩,⟨m,hn.sameBut hs (Ne.symm (cne x c hc)),fun j y v' e1 e2 e3=>?_⟩,fun y c' e=>?_,I.free,I.freeC,fun p hp=>?_,tracked ⟨oc,hoc,I.freeC x c hc⟩ hs,by simpa using I.len⟩ ⟨c,hs,.inr hc⟩
  ·exact(hs.2 b (Nat.ne_of_lt (Nat.lt_of_lt_of_le (Heap.lt_size e) (I.ok.cab x c hfn hc)))).trans (I.base.keep b o e n hb hx)
  ·obtain⟨sl,e1⟩:=I.base.slot b o e n hb hx
   exact⟨sl,(hs.2 b (Nat.ne_of_lt (Nat.lt_of_lt_of_le (Heap.lt_size e) (I.ok.cab x c hfn hc)))).trans e1⟩
  ·obtain⟨o',e1⟩:=I.base.there b o e hx
   exact⟨o',(hs.2 b (Nat.ne_of_lt (Nat.lt_of_lt_of_le (Heap.lt_size e) (I.ok.cab x c hfn hc)))).trans e1⟩
  ·by_cases hj:j=i
   ·subst hj
    rw[hi] at e1;cases e1
    rw[List.getElem?_set_self hiσ] at e2
    cases e2
    exact⟨u,r,.inr ⟨.inl hk,c,hc,hc'⟩⟩
   ·rw[List.getElem?_set_ne (Ne.symm hj)] at e2
    obtain⟨u',r',q⟩:=hl j y v' e1 e2 e3
    refine⟨u',r',?_⟩
    rcases q with q | ⟨k,c',e,z'⟩
    ·exact .inl q
    ·refine .inr ⟨k,c',e,z'.sameBut hs ?_⟩
     rintro rfl
     exact hj (d3k hN e1 (I.ok.inj _ _ _ e hc ▸ hi))
  ·by_cases hcc:c'=c
   ·subst hcc;exact⟨_,hc'⟩
   ·obtain⟨w2,z2⟩:=I.cell y c' e
    exact⟨w2,z2.sameBut hs hcc⟩
  ·obtain⟨e,n,ne,nf,d⟩:=I.pin p hp
   refine⟨(hs.2 p.1 ?_).trans e,n,ne,nf,d⟩
   intro q
   rw[q,hoc] at e
   have q':oc=p.2:=Option.some.inj e
   exact d w' (by rw[←q'];exact hocd)
theorem d4d {M:Model} {A:Around} {E:Value→Shared→Prop} {i:Nat} {x:Str} {v:V} {u:Value} {Q:Unit→Shared→Prop} (I:Inv X pins σ H s) (hN:X.N.Nodup) (hi:X.N[i]?=some x) (hx:Loc X.env.scope x) (r:a2u v u)
  (h:∀ s',Inv X pins (σ.set i (some v)) H s'→Q () s') (hf:X.fn x=true∨X.env.scope.names.lookup x=some .local:=by first | exact .inl rfl | exact .inr rfl | assumption):wpAny M A (storeName X.env x u) Q E s :=
 c8j I hN hi hx r (fun s' I' _=>h s' I') hf
theorem Inv.call' {s':Shared} {ch:List Addr} (I:Inv X pins σ H s) (ho:s'.os=s.os) (u:Un (frs X.stack) ch H H' s.heap s'.heap) (hok:HOk X.prog X.w H' s'.heap) (hg:AllBare s'.gens)
  (hch:∀ b∈ch,(b∈X.ex∨X.s₀.heap.objs.size≤b)∧b≠X.env.locals∧(∀ x c,X.env.cells.lookup x=some c→c≠b)∧∀ p∈X.pn++pins,p.1≠b):Inv X pins σ H' s':=by
 obtain⟨h',g',d',t',o'⟩:=s'
 have e:o'=s.os:=ho
 subst e
 exact I.call (g':=g') (t':=t') (d':=d') u hok hg hch
end
abbrev XK:=Value→Option Addr→Hp→Prop
abbrev St:=List (Option V)
abbrev VK:=V→Hp→Prop
abbrev TE:=St→Hp→VK→Prop
abbrev TT:=St→Hp→(Bool→Hp→Prop)→Prop
abbrev TA:=St→Hp→(List V→Hp→Prop)→Prop
structure d7t where
 nx:St→Hp→Prop
 rt:VK
 bk:St→Hp→Prop:=fun _ _=>False
 ct:St→Hp→Prop:=fun _ _=>False
abbrev TS:=d7t→St→Hp→Prop
def EP (X:Cx) (pins:List (Addr×Obj)) (σ:St) (Q:VK) (u:Value) (s':Shared):Prop:=∃ v H',Inv X pins σ H' s'∧a2u v u∧Q v H'
def TP (X:Cx) (pins:List (Addr×Obj)) (σ:St) (Q:Bool→Hp→Prop) (b:Bool) (s':Shared):Prop:=∃ H',Inv X pins σ H' s'∧Q b H'
def AP (X:Cx) (pins:List (Addr×Obj)) (σ:St) (Q:List V→Hp→Prop) (us:List Value) (s':Shared):Prop:=∃ vs H',Inv X pins σ H' s'∧a3c vs us∧Q vs H'
def SP (X:Cx) (pins:List (Addr×Obj)) (D:d7t) (f:Flow) (s':Shared):Prop :=
 match f with
 | .next=>∃ σ' H',Inv X pins σ' H' s'∧D.nx σ' H'
 | .brk=>∃ σ' H',Inv X pins σ' H' s'∧D.bk σ' H'
 | .cont=>∃ σ' H',Inv X pins σ' H' s'∧D.ct σ' H'
 | .ret u=>∃ v σ' H',Inv X pins σ' H' s'∧a2u v u∧D.rt v H'
structure PE (X:Cx) (e:Expr) (t:TE):Prop where
 run:∀ (pins:List (Addr×Obj)) (s:Shared) (σ:St) (H:Hp) (Q:VK),Inv X pins σ H s→t σ H Q→wpAny (model X.prog X.w) X.A (eval e X.env) (EP X pins σ Q) X.xe s
instance {X:Cx} {e:Expr} {t:TE}:CoeFun (PE X e t) fun _=>∀ (pins:List (Addr×Obj)) (s:Shared) (σ:St) (H:Hp) (Q:VK),Inv X pins σ H s→t σ H Q→wpAny (model X.prog X.w) X.A (eval e X.env) (EP X pins σ Q) X.xe s:=⟨PE.run⟩
structure PT (X:Cx) (e:Expr) (t:TT):Prop where
 run:∀ (pins:List (Addr×Obj)) (s:Shared) (σ:St) (H:Hp) (Q:Bool→Hp→Prop),Inv X pins σ H s→t σ H Q→wpAny (model X.prog X.w) X.A (isTrue e X.env (eval e X.env)) (TP X pins σ Q) X.xe s
instance {X:Cx} {e:Expr} {t:TT}:CoeFun (PT X e t) fun _=>∀ (pins:List (Addr×Obj)) (s:Shared) (σ:St) (H:Hp) (Q:Bool→Hp→Prop),Inv X pins σ H s→t σ H Q→wpAny (model X.prog X.w) X.A (isTrue e X.env (eval e X.env)) (TP X pins σ Q) X.xe s:=⟨PT.run⟩
structure PW (X:Cx) (e:Expr) (t:TT):Prop where
 run:∀ (whole:Sem Value) (pins:List (Addr×Obj)) (s:Shared) (σ:St) (H:Hp) (Q:Bool→Hp→Prop),Inv X pins σ H s→t σ H Q→wpAny (model X.prog X.w) X.A (isTrue e X.env whole) (TP X pins σ Q) X.xe s
instance {X:Cx} {e:Expr} {t:TT}:CoeFun (PW X e t) fun _=>∀ (whole:Sem Value) (pins:List (Addr×Obj)) (s:Shared) (σ:St) (H:Hp) (Q:Bool→Hp→Prop),Inv X pins σ H s→t σ H Q→wpAny (model X.prog X.w) X.A (isTrue e X.env whole) (TP X pins σ Q) X.xe s:=⟨PW.run⟩
theorem PW.pt {X:Cx} {e:Expr} {t:TT} (h:PW X e t):PT X e t:=⟨h.run _⟩
structure PA (X:Cx) (es:List Expr) (t:TA):Prop where
 run:∀ (pos:Pos) (pins:List (Addr×Obj)) (s:Shared) (σ:St) (H:Hp) (Q:List V→Hp→Prop),Inv X pins σ H s→t σ H Q→wpAny (model X.prog X.w) X.A (spliced (backTo pos (starEach es X.env))) (AP X pins σ Q) X.xe s
instance {X:Cx} {es:List Expr} {t:TA}:CoeFun (PA X es t) fun _=>∀ (pos:Pos) (pins:List (Addr×Obj)) (s:Shared) (σ:St) (H:Hp) (Q:List V→Hp→Prop),Inv X pins σ H s→t σ H Q→wpAny (model X.prog X.w) X.A (spliced (backTo pos (starEach es X.env))) (AP X pins σ Q) X.xe s:=⟨PA.run⟩
structure PS (X:Cx) (st:Stmt) (t:TS):Prop where
 run:∀ (pins:List (Addr×Obj)) (s:Shared) (σ:St) (H:Hp) (D:d7t),Inv X pins σ H s→t D σ H→wpAny (model X.prog X.w) X.A (exec st X.env) (SP X pins D) X.xe s
instance {X:Cx} {st:Stmt} {t:TS}:CoeFun (PS X st t) fun _=>∀ (pins:List (Addr×Obj)) (s:Shared) (σ:St) (H:Hp) (D:d7t),Inv X pins σ H s→t D σ H→wpAny (model X.prog X.w) X.A (exec st X.env) (SP X pins D) X.xe s:=⟨PS.run⟩
structure PSs (X:Cx) (st:List Stmt) (t:TS):Prop where
 run:∀ (pins:List (Addr×Obj)) (s:Shared) (σ:St) (H:Hp) (D:d7t),Inv X pins σ H s→t D σ H→wpAny (model X.prog X.w) X.A (execs st X.env) (SP X pins D) X.xe s
instance {X:Cx} {st:List Stmt} {t:TS}:CoeFun (PSs X st t) fun _=>∀ (pins:List (Addr×Obj)) (s:Shared) (σ:St) (H:Hp) (D:d7t),Inv X pins σ H s→t D σ H→wpAny (model X.prog X.w) X.A (execs st X.env) (SP X pins D) X.xe s:=⟨PSs.run⟩
theorem thn {α:Type} {t:Sem α} {Q Q':α→Shared→Prop} {M:Model} {A:Around} {E:Value→Shared→Prop} {s:Shared} (h:wpAny M A t Q E s) (hQ:∀ a s,Q a s→Q' a s):wpAny M A t Q' E s:=wpAny_mono h hQ fun _ _ x=>x
end L2
namespace L2
open PySem PySem.Spec PyProof.Rows
section
variable {X:Cx}
def f6v (i:Nat):TE:=fun σ H Q=>∃ v,σ[i]?=some (some v)∧Q v H
def tC (v:V):TE:=fun _ H Q=>Q v H
theorem f6n {i:Nat} {x:Str} {pos:Pos} (hN:X.N[i]?=some x) (hv:Vis X.env.scope x) (hd:(x == ("__debug__":Str))=false:=by decide) (hcd:(x == ("__classdict__":Str))=false:=by decide):PE X (.Name x pos) (f6v i):=by
 constructor;intro pins s σ H Q I h
 obtain⟨v,e,h⟩:=h
 obtain⟨m,hn,hl⟩:=I.loc
 obtain⟨u,r,l⟩:=hl i x v hN e hv
 have fin:EP X pins σ Q u s:=⟨v,H,I,r,h⟩
 rcases l with ⟨hk,hm⟩ | ⟨hk,c,hc,hcell⟩
 ·exact wpAny_Name (wpAny_loadName_local I.ok.kind hk hn hm fin) hd
 ·rcases hk with hk | hk
  ·exact wpAny_Name (wpAny_loadName_cell I.ok.kind hk hc hcell fin) hd
  ·exact wpAny_Name (wpAny_loadName_free I.ok.kind hk hc hcell fin hcd) hd
theorem a0n {i j pos}:PE X (.Constant (.int i) j pos) (tC (.int i)):=⟨fun _ _ _ H _ I h=>wpAny_Constant_int ⟨.int i,H,I.tok _,⟨_,rfl⟩,h⟩⟩
theorem a9g {b j pos}:PE X (.Constant (.bool b) j pos) (tC (.bl b)):=⟨fun _ _ _ H _ I h=>Constant_bool ⟨.bl b,H,I,rfl,h⟩⟩
theorem a4q {j pos}:PE X (.Constant .none j pos) (tC .non):=⟨fun _ _ _ H _ I h=>Constant_none ⟨.non,H,I,rfl,h⟩⟩
theorem a2b {x j pos}:PE X (.Constant (.str x) j pos) (tC (.str x)):=⟨fun _ _ _ H _ I h=>Calls.Constant_str ⟨.str x,H,I.tok _,⟨_,rfl⟩,h⟩⟩
def Gl (X:Cx) (x:Str):Prop:=X.env.kindOf x=some .globalImplicit
theorem b3u {E:Value→Shared→Prop} {pins:List (Addr×Obj)} {s:Shared} {σ:St} {H:Hp} {x:Str} {u:Value} {pos:Pos} {Q:Value→Shared→Prop} (I:Inv X pins σ H s) (hg:Gl X x) (hm:X.mg x=some u) (h:Q u s)
  (hd:(x == ("__debug__":Str))=false:=by decide):wpAny (model X.prog X.w) X.A (eval (.Name x pos) X.env) Q E s :=
 Calls.Name_function_global I.ok.kind hg (Calls.loadGlobal_global (by rw[I.ok.glob];exact I.mod.glob.keeps I.bk) hm h) hd
theorem c9z {E:Value→Shared→Prop} {pins:List (Addr×Obj)} {s:Shared} {σ:St} {H:Hp} {x:Str} {u:Value} {pos:Pos} {Q:Value→Shared→Prop} (I:Inv X pins σ H s) (hg:Gl X x) (hm:X.mg x=none) (hv:bootBuiltins x=some u) (h:Q u s)
  (hn:x≠"__name__":=by decide) (hd:(x == ("__debug__":Str))=false:=by decide):wpAny (model X.prog X.w) X.A (eval (.Name x pos) X.env) Q E s:=by
 obtain⟨mb,h1,h2⟩:=I.mod.blt
 exact Calls.Name_function_global I.ok.kind hg (Calls.loadGlobal_builtin (by rw[I.ok.glob];exact I.mod.glob.keeps I.bk) hm (by rw[I.ok.blt];exact h1.keeps I.bk) ((h2 x hn).trans hv) h) hd
theorem b3k {x:Str} {v:V} {u:Value} {pos:Pos} (hg:Gl X x) (hm:X.mg x=some u) (r:a2u v u) (hd:(x == ("__debug__":Str))=false:=by decide):PE X (.Name x pos) (tC v) :=
 ⟨fun _ _ _ H _ I h=>b3u I hg hm ⟨v,H,I,r,h⟩ hd⟩
theorem a6c {x:Str} {v:V} {u:Value} {pos:Pos} (hg:Gl X x) (hm:X.mg x=none) (hv:bootBuiltins x=some u) (r:a2u v u) (hn:x≠"__name__":=by decide) (hd:(x == ("__debug__":Str))=false:=by decide):PE X (.Name x pos) (tC v) :=
 ⟨fun _ _ _ H _ I h=>c9z I hg hm hv ⟨v,H,I,r,h⟩ hn hd⟩
variable {a b:Expr} {ta tb:TE} {pos:Pos}
def tB (t:TE):TT:=fun σ H Q=>t σ H fun x H1=>∃ c,x=.bl c∧Q c H1
theorem a3t {e:Expr} {t:TE} (h:PE X e t) (he:∀ whole,isTrue e X.env whole=(do let v ← whole;standAt e.pos;holding [v] (truthy v)):=by intro _;rfl):PT X e (tB t):=by
 constructor;intro pins s σ H Q I hw
 refine isTrue_plain (thn (h pins s σ H _ I hw) fun v s1 ⟨x,H1,I1,r1,q1⟩=>?_) (he _)
 obtain⟨d,rfl,q⟩:=q1
 cases r1
 exact wpAny_truthy_bool ⟨H1,I1,q⟩
variable {tA tB':TT} {rest:List Expr}
def g1r (t u:TT):TT:=fun σ H Q=>t σ H fun c H1=>if c=true then u σ H1 Q else Q false H1
def tOr (t u:TT):TT:=fun σ H Q=>t σ H fun c H1=>if c=true then Q true H1 else u σ H1 Q
def g1l (t:TT):TT:=fun σ H Q=>t σ H fun c H1=>Q (!c) H1
theorem c9h (ha:PT X a tA):PW X (.BoolOp .And [a] pos) tA:=by
 constructor;intro wh pins s σ H Q I h
 refine isTrue_and (thn (ha pins s σ H Q I h) fun c s1 e=>?_)
 cases c with
 | true=>exact isTrue_and_nil e
 | false=>exact e
theorem d5l (ha:PT X a tA):PW X (.BoolOp .Or [a] pos) tA:=by
 constructor;intro wh pins s σ H Q I h
 refine isTrue_or (thn (ha pins s σ H Q I h) fun c s1 e=>?_)
 cases c with
 | false=>exact isTrue_or_nil e
 | true=>exact e
theorem d6n (ha:PT X a tA) (hb:PW X (.BoolOp .And (b::rest) pos) tB'):PW X (.BoolOp .And (a::b::rest) pos) (g1r tA tB'):=by
 constructor;intro wh pins s σ H Q I h
 refine isTrue_and (thn (ha pins s σ H _ I h) fun c s1 ⟨H1,I1,q1⟩=>?_)
 cases c with
 | true=>exact hb wh pins s1 σ H1 Q I1 q1
 | false=>exact⟨H1,I1,q1⟩
theorem e2r (ha:PT X a tA) (hb:PW X (.BoolOp .Or (b::rest) pos) tB'):PW X (.BoolOp .Or (a::b::rest) pos) (tOr tA tB'):=by
 constructor;intro wh pins s σ H Q I h
 refine isTrue_or (thn (ha pins s σ H _ I h) fun c s1 ⟨H1,I1,q1⟩=>?_)
 cases c with
 | true=>exact⟨H1,I1,q1⟩
 | false=>exact hb wh pins s1 σ H1 Q I1 q1
theorem b8g (ha:PT X a tA):PT X (.UnaryOp .Not a pos) (g1l tA):=by
 constructor;intro pins s σ H Q I h
 exact isTrue_not (ha pins s σ H (fun c H1=>Q (!c) H1) I h)
def f8u (ta tb:TE):TE:=fun σ H Q=>ta σ H fun x H1=>∃ c,x=.bl c∧if c=true then tb σ H1 Q else Q (.bl false) H1
def g1b (ta tb:TE):TE:=fun σ H Q=>ta σ H fun x H1=>∃ c,x=.bl c∧if c=true then Q (.bl true) H1 else tb σ H1 Q
def g0b (ta:TE):TE:=fun σ H Q=>ta σ H fun x H1=>∃ c,x=.bl c∧Q (.bl (!c)) H1
theorem b8p {op} {t:TE} (h:PE X a t):PE X (.BoolOp op [a] pos) t:=⟨fun pins s σ H Q I hw=>BoolOp_one (h pins s σ H Q I hw)⟩
theorem b1g (ha:PE X a ta) (hb:PE X (.BoolOp .And (b::rest) pos) tb):PE X (.BoolOp .And (a::b::rest) pos) (f8u ta tb):=by
 constructor;intro pins s σ H Q I h
 refine BoolOp_and (thn (ha pins s σ H _ I h) fun v s1 ⟨x,H1,I1,r1,q1⟩=>?_)
 obtain⟨c,rfl,q1⟩:=q1
 cases r1
 refine wpAny_truthy_bool ?_
 cases c with
 | true=>exact hb pins s1 σ H1 Q I1 q1
 | false=>exact⟨.bl false,H1,I1,rfl,q1⟩
theorem f8o (ha:PE X a ta) (hb:PE X (.BoolOp .Or (b::rest) pos) tb):PE X (.BoolOp .Or (a::b::rest) pos) (g1b ta tb):=by
 constructor;intro pins s σ H Q I h
 refine BoolOp_or (thn (ha pins s σ H _ I h) fun v s1 ⟨x,H1,I1,r1,q1⟩=>?_)
 obtain⟨c,rfl,q1⟩:=q1
 cases r1
 refine wpAny_truthy_bool ?_
 cases c with
 | false=>exact hb pins s1 σ H1 Q I1 q1
 | true=>exact⟨.bl true,H1,I1,rfl,q1⟩
theorem e1n (ha:PE X a ta):PE X (.UnaryOp .Not a pos) (g0b ta):=by
 constructor;intro pins s σ H Q I h
 refine UnaryOp_ (thn (ha pins s σ H _ I h) fun v s1 ⟨x,H1,I1,r1,q1⟩=>?_)
 obtain⟨c,rfl,q1⟩:=q1
 cases r1
 exact not_of (wpAny_truthy_bool ⟨.bl (!c),H1,I1,rfl,q1⟩)
def tIf (t:TT) (ta tb:TE):TE:=fun σ H Q=>t σ H fun c H1=>if c=true then ta σ H1 Q else tb σ H1 Q
theorem c5b {c:Expr} (hc:PT X c tA) (ha:PE X a ta) (hb:PE X b tb):PE X (.IfExp c a b pos) (tIf tA ta tb):=by
 constructor;intro pins s σ H Q I h
 refine wpAny_IfExp (thn (hc pins s σ H _ I h) fun d s1 ⟨H1,I1,q1⟩=>?_)
 cases d with
 | true=>exact ha pins s1 σ H1 Q I1 q1
 | false=>exact hb pins s1 σ H1 Q I1 q1
end
end L2
namespace L2
open PySem PySem.Spec PyProof.Rows
def SqL (K:PySem.W.Frag) (H:Hp) (a:Addr) (xs:List V):Prop :=
 Rd H a (.lst xs) ∨
  ∃ (o:Obj) (its:Array Value) (n:Nat),K.lookup a=some o∧o.cls=.type "list"∧o.dict=none∧o.data=.seq its n∧its.size≤sizeLine∧a3c xs its.toList
def SqT (K:PySem.W.Frag) (H:Hp) (a:Addr) (xs:List V):Prop :=
 Rd H a (.tup xs) ∨
  ∃ (o:Obj) (its:Array Value) (n:Nat),K.lookup a=some o∧o.cls=.type "tuple"∧o.data=.seq its n∧its.size≤sizeLine∧a3c xs its.toList
def g1g:Value→Option V
 | .none=>some .non
 | .bool b=>some (.bl b)
 | .int i _=>some (.int i)
 | .str x _=>some (.str x)
 | .bytes b _=>some (.byt b)
 | .float b _=>some (.flt b)
 | .ref a=>some (.ref a)
 | .type n=>some (.ty n)
 | _=>none
theorem a2u.abs {x:V} {u:Value} (r:a2u x u):g1g u=some x:=by
 cases x with
 | non=>cases r;rfl
 | bl _=>cases r;rfl
 | int _=>obtain⟨t,rfl⟩:=r;rfl
 | str _=>obtain⟨t,rfl⟩:=r;rfl
 | byt _=>obtain⟨t,rfl⟩:=r;rfl
 | flt _=>obtain⟨t,rfl⟩:=r;rfl
 | ref _=>cases r;rfl
 | ty _=>cases r;rfl
theorem a2u.inj {x y:V} {u:Value} (r:a2u x u) (q:a2u y u):x=y:=Option.some.inj (r.abs.symm.trans q.abs)
theorem a3c.inj:∀ {xs ys:List V} {us:List Value},a3c xs us→a3c ys us→xs=ys
 | _,_,_,.nil,.nil=>rfl
 | _,_,_,.cons r t,.cons r' t'=>by rw[r.inj r',a3c.inj t t']
section
variable {X:Cx} {pins:List (Addr×Obj)} {σ:St} {H:Hp} {s:Shared} {a:Addr} {xs ys:List V}
theorem SqL.of {K:PySem.W.Frag} (h:H a=some (.lst xs)):SqL K H a xs:=.inl (.inl h)
theorem SqT.of {K:PySem.W.Frag} (h:H a=some (.tup xs)):SqT K H a xs:=.inl (.inl h)
theorem Inv.list (I:Inv X pins σ H s) (h:SqL X.K H a xs):∃ its:List Value,a3c xs its∧PlainL s.heap a its.toArray∧xs.length≤sizeLine:=by
 rcases h with h | ⟨o,its,n,hk,hc,hd,hs,hz,r⟩
 ·obtain⟨z,its,n,r,e⟩:=h.ok I.hok
  exact⟨its,r,⟨_,n,e,rfl,rfl,rfl⟩,z⟩
 ·refine⟨its.toList,r,⟨o,n,I.kIn a o hk,hc,hd,by simpa using hs⟩,?_⟩
  have e:=r.length
  simp only [Array.length_toList] at e
  omega
theorem Inv.tuple (I:Inv X pins σ H s) (h:SqT X.K H a xs):∃ its:List Value,a3c xs its∧IsTup s.heap a its.toArray∧xs.length≤sizeLine:=by
 rcases h with h | ⟨o,its,n,hk,hc,hs,hz,r⟩
 ·obtain⟨z,its,r,p⟩:=h.ok I.hok
  exact⟨its,r,p,z⟩
 ·refine⟨its.toList,r,⟨o,I.kIn a o hk,hc,n,by simpa using hs⟩,?_⟩
  have e:=r.length
  simp only [Array.length_toList] at e
  omega
theorem Inv.list_inj (I:Inv X pins σ H s) (h:SqL X.K H a xs) (h':SqL X.K H a ys):xs=ys:=by
 obtain⟨its,r,⟨o,n,e,_,_,d⟩,_⟩:=I.list h
 obtain⟨its',r',⟨o',n',e',_,_,d'⟩,_⟩:=I.list h'
 rw[e] at e';cases e'
 rw[d] at d'
 injection d' with d1 _
 have:its=its':=by simpa using congrArg Array.toList d1
 subst this
 exact r.inj r'
theorem Inv.tuple_inj (I:Inv X pins σ H s) (h:SqT X.K H a xs) (h':SqT X.K H a ys):xs=ys:=by
 obtain⟨its,r,⟨o,e,_,n,d⟩,_⟩:=I.tuple h
 obtain⟨its',r',⟨o',e',_,n',d'⟩,_⟩:=I.tuple h'
 rw[e] at e';cases e'
 rw[d] at d'
 injection d' with d1 _
 have:its=its':=by simpa using congrArg Array.toList d1
 subst this
 exact r.inj r'
end
abbrev Cx.wish (X:Cx) (E:Value→Shared→Prop):Cx:={X with xe:=E}
abbrev Cx.nox (X:Cx):Cx:=X.wish fun _ _=>False
theorem Cx.Ok.wish {X:Cx} (ok:X.Ok) (E:Value→Shared→Prop):(X.wish E).Ok :=
 ⟨ok.mod,ok.kind,ok.glob,ok.blt,ok.above,ok.inj,ok.has,ok.cab,ok.hd,ok.frames,ok.stk,ok.exf,ok.bs,ok.bsz,ok.noex,ok.exfs,ok.funs,ok.frf⟩
theorem Cx.Ok.unwish {X:Cx} {E:Value→Shared→Prop} (ok:(X.wish E).Ok):X.Ok :=
 ⟨ok.mod,ok.kind,ok.glob,ok.blt,ok.above,ok.inj,ok.has,ok.cab,ok.hd,ok.frames,ok.stk,ok.exf,ok.bs,ok.bsz,ok.noex,ok.exfs,ok.funs,ok.frf⟩
section
variable {X:Cx} {pins:List (Addr×Obj)} {σ:St} {H:Hp} {s:Shared} {E:Value→Shared→Prop}
theorem Inv.wish (I:Inv X pins σ H s) (E:Value→Shared→Prop):Inv (X.wish E) pins σ H s:=⟨I.ok.wish E,I.os,I.bare,I.base,I.loc,I.cell,I.free,I.freeC,I.pin,I.hok,I.len⟩
theorem Inv.unwish (I:Inv (X.wish E) pins σ H s):Inv X pins σ H s:=⟨I.ok.unwish,I.os,I.bare,I.base,I.loc,I.cell,I.free,I.freeC,I.pin,I.hok,I.len⟩
theorem SP.unwish {D:d7t} {f:Flow} {s':Shared} (h:SP (X.wish E) pins D f s'):SP X pins D f s':=by
 cases f with
 | next=>obtain⟨σ',H',I,q⟩:=h;exact⟨σ',H',I.unwish,q⟩
 | brk=>obtain⟨σ',H',I,q⟩:=h;exact⟨σ',H',I.unwish,q⟩
 | cont=>obtain⟨σ',H',I,q⟩:=h;exact⟨σ',H',I.unwish,q⟩
 | ret u=>obtain⟨v,σ',H',I,r,q⟩:=h;exact⟨v,σ',H',I.unwish,r,q⟩
theorem PSs.nox {st:List Stmt} {t:TS} (h:PSs X.nox st t):PSs X st t:=⟨fun pins s σ H D I hw =>
 wpAny_mono (h pins s σ H D (I.wish _) hw) (fun _ _ q=>q.unwish) fun _ _ z=>False.elim z⟩
end
section
variable {X:Cx} {st:Stmt} {rest:List Stmt} {t u:TS} {e:Expr} {te:TE} {pos:Pos}
def f8p:TS:=fun D σ H=>D.nx σ H
def f2n (t u:TS):TS:=fun D σ H=>t {D with nx:=u D} σ H
theorem a1e:PSs X [] f8p:=⟨fun _ _ σ H _ I h=>wpAny_execs_nil ⟨σ,H,I,h⟩⟩
theorem a0e (h1:PS X st t) (h2:PSs X rest u):PSs X (st::rest) (f2n t u):=by
 constructor;intro pins s σ H D I h
 refine wpAny_execs_cons (thn (h1 pins s σ H {D with nx:=u D} I h) fun f s1 q=>?_)
 cases f with
 | next =>
  obtain⟨σ',H',I',q⟩:=q
  exact h2 pins s1 σ' H' D I' q
 | ret v=>exact q
 | brk=>exact q
 | cont=>exact q
theorem a0g (h1:PS X st t):PSs X [st] t:=by
 constructor;intro pins s σ H D I h
 refine wpAny_execs_cons (thn (h1 pins s σ H D I h) fun f s1 q=>?_)
 cases f with
 | next=>exact wpAny_execs_nil q
 | ret v=>exact q
 | brk=>exact q
 | cont=>exact q
theorem Inv.quiet {pins:List (Addr×Obj)} {σ:St} {H:Hp} {s:Shared} (I:Inv X pins σ H s):interactive X.env=false:=by simp[interactive,I.ok.kind]
def f9a (te:TE):TS:=fun D σ H=>te σ H fun _ H1=>D.nx σ H1
theorem a2t (he:PE X e te) (hs:swapsWith e none pos.line X.env=pure false:=by rfl):PS X (.Expr e pos) (f9a te):=by
 constructor;intro pins s σ H D I h
 exact wpAny_Expr_any (thn (he pins s σ H _ I h) fun v s1 ⟨x,H1,I1,r1,q1⟩=>⟨σ,H1,I1,q1⟩) I.quiet hs
def g0q (te:TE):TS:=fun D σ H=>te σ H D.rt
theorem a0s (he:PE X e te):PS X (.Return (some e) pos) (g0q te):=by
 constructor;intro pins s σ H D I h
 exact wpAny_Return_some (thn (he pins s σ H _ I h) fun v s1 ⟨x,H1,I1,r1,q1⟩=>⟨x,σ,H1,I1,r1,q1⟩)
def f9d:TS:=fun D _ H=>D.rt .non H
theorem f3z:PS X (.Return none pos) f9d:=⟨fun _ _ σ H _ I h=>wpAny_Return_none ⟨.non,σ,H,I,rfl,h⟩⟩
def g0l (c:TT) (t u:TS):TS:=fun D σ H=>c σ H fun b H1=>if b=true then t D σ H1 else u D σ H1
theorem a2v {c:Expr} {a b:List Stmt} {tc:TT} (hc:PT X c tc) (ha:PSs X a t) (hb:PSs X b u):PS X (.If c a b pos) (g0l tc t u):=by
 constructor;intro pins s σ H D I h
 refine wpAny_If (thn (hc pins s σ H _ I h) fun d s1 ⟨H1,I1,q1⟩=>?_)
 cases d with
 | true=>exact ha pins s1 σ H1 D I1 q1
 | false=>exact hb pins s1 σ H1 D I1 q1
def tNever:TS:=fun _ _ _=>False
theorem a4t:PS X st tNever:=⟨fun _ _ _ _ _ _ h=>h.elim⟩
end
abbrev TG:=V→St→Hp→(St→Hp→Prop)→Prop
abbrev TGs:=List V→St→Hp→(St→Hp→Prop)→Prop
structure PG (X:Cx) (target:Expr) (t:TG):Prop where
 run:∀ (pins:List (Addr×Obj)) (s:Shared) (σ:St) (H:Hp) (v:V) (u:Value) (Q:St→Hp→Prop),Inv X pins σ H s→a2u v u→t v σ H Q →
  wpAny (model X.prog X.w) X.A (assign target X.env u) (fun _ s'=>∃ σ' H',Inv X pins σ' H' s'∧Q σ' H') X.xe s
instance {X:Cx} {target:Expr} {t:TG}:CoeFun (PG X target t) fun _=>∀ (pins:List (Addr×Obj)) (s:Shared) (σ:St) (H:Hp) (v:V) (u:Value) (Q:St→Hp→Prop),Inv X pins σ H s→a2u v u→t v σ H Q →
  wpAny (model X.prog X.w) X.A (assign target X.env u) (fun _ s'=>∃ σ' H',Inv X pins σ' H' s'∧Q σ' H') X.xe s:=⟨PG.run⟩
structure PGs (X:Cx) (ts:List Expr) (t:TGs):Prop where
 run:∀ (pins:List (Addr×Obj)) (s:Shared) (σ:St) (H:Hp) (vs:List V) (us:List Value) (Q:St→Hp→Prop),Inv X pins σ H s→a3c vs us→t vs σ H Q →
  wpAny (model X.prog X.w) X.A (assignInOrder ((assignEach ts X.env).map (·.2)) us) (fun _ s'=>∃ σ' H',Inv X pins σ' H' s'∧Q σ' H') X.xe s
instance {X:Cx} {ts:List Expr} {t:TGs}:CoeFun (PGs X ts t) fun _=>∀ (pins:List (Addr×Obj)) (s:Shared) (σ:St) (H:Hp) (vs:List V) (us:List Value) (Q:St→Hp→Prop),Inv X pins σ H s→a3c vs us→t vs σ H Q →
  wpAny (model X.prog X.w) X.A (assignInOrder ((assignEach ts X.env).map (·.2)) us) (fun _ s'=>∃ σ' H',Inv X pins σ' H' s'∧Q σ' H') X.xe s:=⟨PGs.run⟩
abbrev g0h:=V→V→V→Hp→(Hp→Prop)→Prop
def f8m (X:Cx) (t:g0h):Prop :=
 ∀ (pins:List (Addr×Obj)) (s:Shared) (σ:St) (H:Hp) (o i v:V) (ov iv u:Value) (Q:Hp→Prop),Inv X pins σ H s→a2u o ov→a2u i iv→a2u v u→t o i v H Q →
  wpAny (model X.prog X.w) X.A (setItem ov iv u) (fun _ s'=>∃ H',Inv X pins σ H' s'∧Q H') X.xe s
section
variable {X:Cx} {pos:Pos}
def e9u (i:Nat):TG:=fun v σ H Q=>Q (σ.set i (some v)) H
theorem a1m {i:Nat} {x:Str} (hN:X.N.Nodup) (hi:X.N[i]?=some x) (hx:Loc X.env.scope x) (hf:X.fn x=true∨X.env.scope.names.lookup x=some .local:=by first | exact .inl rfl | exact .inr rfl | assumption):PG X (.Name x pos) (e9u i):=by
 constructor;intro pins s σ H v u Q I r h
 exact wpAny_assign_Name (d4d I hN hi hx r (fun s' I'=>⟨_,H,I',h⟩) hf)
def g1a:TGs:=fun vs σ H Q=>vs=[]∧Q σ H
def g0c (t:TG) (u:TGs):TGs:=fun vs σ H Q=>∃ v r,vs=v::r∧t v σ H fun σ' H'=>u r σ' H' Q
theorem d4h:PGs X [] g1a:=by
 constructor;intro pins s σ H vs us Q I r h
 obtain⟨e,h⟩:=h
 subst e
 cases r
 exact assignInOrder_nil ⟨σ,H,I,h⟩
theorem a9x {e:Expr} {es:List Expr} {t:TG} {u:TGs} (h1:PG X e t) (h2:PGs X es u)
  (hs:(assignEach (e::es) X.env).map (·.2)=assign e X.env::(assignEach es X.env).map (·.2):=by rfl):PGs X (e::es) (g0c t u):=by
 constructor;intro pins s σ H vs us Q I r h
 obtain⟨v,vr,e1,h⟩:=h
 subst e1
 cases r with
 | cons r rr =>
  rw[hs]
  refine assignInOrder_cons (thn (h1 pins s σ H _ _ _ I r h) fun _ s1 ⟨σ1,H1,I1,q1⟩=>?_)
  exact h2 pins s1 σ1 H1 _ _ Q I1 rr q1
def g0o (K:PySem.W.Frag) (n:Nat) (t:TGs):TG:=fun v σ H Q=>∃ a xs,v=.ref a∧SqT K H a xs∧xs.length=n∧t xs σ H Q
theorem e0d {es:List Expr} {k:Nat} {t:TGs} {n:Nat} (hc:X.calm=true) (h:PGs X es t)
  (hn:(assignEach es X.env).length=n:=by rfl) (hst:(assignEach es X.env).findIdx? (·.1)=none:=by rfl):PG X (.Tuple es k pos) (g0o X.K n t):=by
 constructor;intro pins s σ H v u Q I r hw
 obtain⟨a,xs,e1,hq,hl,hw⟩:=hw
 subst e1
 cases r
 obtain⟨its,rv,ht,hz⟩:=I.tuple hq
 refine assign_Tuple_tuple (I.ok.hd hc) ht (by simp[hn,←hl,rv.length]) hst fun h' hx=>?_
 have I1:Inv X pins σ H {s with heap:=h'}:=I.kept (t':=s.toks) fun b o e=>hx b o (Nat.ne_of_lt (Heap.lt_size e)) e
 exact h pins _ σ H xs _ Q I1 (by simpa using rv) hw
def g1w (to ti:TE) (t:g0h):TG:=fun v σ H Q=>to σ H fun o H1=>ti σ H1 fun i H2=>t o i v H2 fun H3=>Q σ H3
theorem f7y {o i:Expr} {to ti:TE} {t:g0h} (ho:PE X o to) (hi:PE X i ti) (hs:f8m X t)
  (ha:∀ v,assign (.Subscript o i pos) X.env v=(do
   let ov ← holding [v] (eval o X.env)
   let iv ← holding [v,ov] (eval i X.env)
   standAt pos
   holding [v,ov,iv] (setItem ov iv v)
   release [v,ov,iv] []):=by intro _;rfl):PG X (.Subscript o i pos) (g1w to ti t):=by
 constructor;intro pins s σ H v u Q I r h
 rw[ha]
 refine wpAny_bind (wpAny_holding (thn (ho pins s σ H _ I h) fun ov s1 ⟨x,H1,I1,r1,q1⟩=>?_))
 refine wpAny_bind (wpAny_holding (thn (hi pins s1 σ H1 _ I1 q1) fun iv s2 ⟨y,H2,I2,r2,q2⟩=>?_))
 refine wpAny_bind (wpAny_standAt (wpAny_bind (wpAny_holding (thn (hs pins s2 σ H2 x y v ov iv u _ I2 r1 r2 r q2) fun _ s3 ⟨H3,I3,q3⟩=>?_))))
 exact wpAny_release ⟨σ,H3,I3,q3⟩
def g0x (te:TE) (g:TG):TS:=fun D σ H=>te σ H fun x H1=>g x σ H1 D.nx
theorem f7j {tg e:Expr} {te:TE} {g:TG} (he:PE X e te) (hg:PG X tg g) (hs:swapsWithSole [tg] e pos.line X.env=pure false:=by rfl) (hw:swappedStores [tg] e X.env=pure none:=by rfl)
  (h1:(assignEach [tg] X.env).map (·.2)=[assign tg X.env]:=by rfl):PS X (.Assign [tg] e pos) (g0x te g):=by
 constructor;intro pins s σ H D I h
 refine wpAny_Assign_stores (thn (he pins s σ H _ I h) fun v s1 ⟨x,H1,I1,r1,q1⟩=>?_) hs hw
 rw[h1]
 exact thn (hg pins s1 σ H1 x v _ I1 r1 q1) fun _ s2 q=>q
theorem a1s {i:Nat} {x:Str} {e:Expr} {te:TE} {pos':Pos} (hN:X.N.Nodup) (hi:X.N[i]?=some x) (hx:Loc X.env.scope x) (he:PE X e te) (hs:swapsWith e (some (.Name x pos')) pos.line X.env=pure false:=by rfl) (hf:X.fn x=true∨X.env.scope.names.lookup x=some .local:=by first | exact .inl rfl | exact .inr rfl | assumption) :
  PS X (.Assign [.Name x pos'] e pos) (g0x te (e9u i)):=by
 constructor;intro pins s σ H D I h
 refine wpAny_Assign_Name (thn (he pins s σ H _ I h) fun v s1 ⟨y,H1,I1,r1,q1⟩=>?_) hs
 exact d4d I1 hN hi hx r1 (fun s2 I2=>⟨_,H1,I2,q1⟩) hf
end
section
variable {X:Cx} {pos:Pos}
def f6a (c:TT) (tb:TS):TS:=fun D σ H=>∃ W:Nat→St→Hp→Prop,(∃ m,W m σ H)∧∀ m σ H,W m σ H →
 c σ H fun b H1=>if b=true then ∃ N:St→Hp→Prop,(∀ σ' H',N σ' H'→∃ m',m' < m∧W m' σ' H')∧tb {D with nx:=N,ct:=N,bk:=D.nx} σ H1 else D.nx σ H1
theorem f1f {c:Expr} {body:List Stmt} {tc:TT} {tb:TS} (hp:PassesOwn (model X.prog X.w) X.A X.env X.xe) (hc:PT X c tc) (hb:PSs X body tb):PS X (.While c body [] pos) (f6a tc tb):=by
 constructor;intro pins s σ H D I h
 obtain⟨W,⟨m0,w0⟩,turn⟩:=h
 refine wpAny_While (codeAny_whileLoop (fun n s'=>∃ σ' H',Inv X pins σ' H' s'∧W n σ' H') ?_ m0 ⟨σ,H,I,w0⟩)
 rintro n s1 ⟨σ1,H1,I1,w1⟩
 refine wpAny_passesOwn hp (thn (hc pins s1 σ1 H1 _ I1 (turn n σ1 H1 w1)) fun b s2 ⟨H2,I2,q2⟩=>?_)
 cases b with
 | true =>
  obtain⟨N,hN,q2⟩:=q2
  rw[if_pos rfl]
  refine wpAny_passesOwn hp (thn (hb pins s2 σ1 H2 _ I2 q2) fun f s3 q3=>?_)
  cases f with
  | next =>
   obtain⟨σ3,H3,I3,n3⟩:=q3
   obtain⟨m',hm,w3⟩:=hN σ3 H3 n3
   exact⟨m',hm,σ3,H3,I3,w3⟩
  | cont =>
   obtain⟨σ3,H3,I3,n3⟩:=q3
   obtain⟨m',hm,w3⟩:=hN σ3 H3 n3
   exact⟨m',hm,σ3,H3,I3,w3⟩
  | brk=>exact q3
  | ret v=>exact q3
 | false =>
  rw[if_neg Bool.false_ne_true]
  exact wpAny_execs_nil ⟨σ1,H2,I2,q2⟩
end
structure It where
 go:Nat→Hp→Prop
 yld:Nat→Hp→V→Hp→Prop
 stop:Nat→Hp→Prop
def c4p (X:Cx) (pins:List (Addr×Obj)) (H:Hp) (b:Addr):Prop :=
 H b=none∧b≠X.env.locals∧b ∉ X.fs∧(b∈X.ex∨X.s₀.heap.objs.size≤b)∧(∀ x c,X.env.cells.lookup x=some c→c≠b)∧∀ p∈X.pn++pins,p.1≠b
theorem Inv.fpOk {X:Cx} {pins:List (Addr×Obj)} {σ:St} {H H':Hp} {s:Shared} {b:Addr} (I:Inv X pins σ H s) (hb:s.heap.objs.size≤b) (hn:H' b=none):c4p X pins H' b:=by
 refine⟨hn,Nat.ne_of_gt (Nat.lt_of_lt_of_le I.lt hb),I.nofs hb,.inr (Nat.le_trans I.sz hb),fun x c e z=>?_,fun p hp z=>?_⟩
 ·obtain⟨v,q⟩:=I.cell x c e
  exact absurd (Nat.lt_of_lt_of_le q.lt (by rw[z];exact hb)) (Nat.lt_irrefl _)
 ·exact absurd (Nat.lt_of_lt_of_le (Heap.lt_size (I.pin p hp).1) (by rw[z];exact hb)) (Nat.lt_irrefl _)
structure f1l (P:Program) (w:World) (K:PySem.W.Frag) (tg:Expr) (J:It) (fp:List Addr) (it:Addr) (tn:Nat→Heap→Prop):Prop where
 mem:it∈fp
 obj:∀ i h,tn i h→∀ b∈fp,∃ o,h.get? b=some o∧∀ v,o.data≠.cell v
 keep:∀ i h h',tn i h→(∀ b∈fp,∀ o,h.get? b=some o→h'.get? b=some o)→tn i h'
 item:∀ (X:Cx),X.prog=P→X.w=w→X.K=K→X.calm=true→∀ (i:Nat) (pins:List (Addr×Obj)) (s:Shared) (σ:St) (H:Hp) (E:Value→Shared→Prop),Inv X pins σ H s→(∀ b∈fp,c4p X pins H b)→tn i s.heap→J.go i H →
  wpAny (model P w) X.A (pyNext (.ref it)) (fun r s1=>∃ u,r=some u ∧
   wpAny (model P w) X.A (letOwnedTupleGo tg (.ref it) u) (fun _ s2=>∃ x H',Inv X pins σ H' s2∧a2u x u∧J.yld i H x H'∧tn (i+1) s2.heap∧∀ b∈fp,H' b=none) E s1) E s
 done:∀ (X:Cx),X.prog=P→X.w=w→X.K=K→X.calm=true→∀ (i:Nat) (pins:List (Addr×Obj)) (s:Shared) (σ:St) (H:Hp) (E:Value→Shared→Prop),Inv X pins σ H s→(∀ b∈fp,c4p X pins H b)→tn i s.heap→J.stop i H →
  wpAny (model P w) X.A (pyNext (.ref it)) (fun r s1=>r=none∧Inv X pins σ H s1) E s
 self:∀ (A:Around) (i:Nat) (s:Shared) (Q:Value→Shared→Prop) (E:Value→Shared→Prop),tn i s.heap→Q (.ref it) s→wpAny (model P w) A (pyIter (.ref it)) Q E s
abbrev TI:=St→Hp→(It→Hp→Prop)→Prop
def PIE (X:Cx) (pins:List (Addr×Obj)) (σ:St) (tg:Expr) (R:It→Hp→Prop) (itv:Value) (s2:Shared):Prop :=
 ∃ (it:Addr) (fp:List Addr) (tn:Nat→Heap→Prop) (J:It) (H':Hp),itv=.ref it∧Inv X pins σ H' s2∧f1l X.prog X.w X.K tg J fp it tn∧tn 0 s2.heap∧(∀ b∈fp,c4p X pins H' b)∧R J H'
structure PI (X:Cx) (tg iter:Expr) (wi:TI):Prop where
 run:∀ (pins:List (Addr×Obj)) (s:Shared) (σ:St) (H:Hp) (R:It→Hp→Prop),Inv X pins σ H s→wi σ H R →
  wpAny (model X.prog X.w) X.A (eval iter X.env) (fun v s1=>wpAny (model X.prog X.w) X.A (pyIter v) (PIE X pins σ tg R) X.xe s1) X.xe s
instance {X:Cx} {tg iter:Expr} {wi:TI}:CoeFun (PI X tg iter wi) fun _=>∀ (pins:List (Addr×Obj)) (s:Shared) (σ:St) (H:Hp) (R:It→Hp→Prop),Inv X pins σ H s→wi σ H R →
  wpAny (model X.prog X.w) X.A (eval iter X.env) (fun v s1=>wpAny (model X.prog X.w) X.A (pyIter v) (PIE X pins σ tg R) X.xe s1) X.xe s:=⟨PI.run⟩
theorem f6i {M:Model} {A:Around} {E:Value→Shared→Prop} {s:Shared} {tg:Expr} {it:Addr} {u:Value} {o:Obj} {n:String} {vs:Array Value} {Q:Unit→Shared→Prop} (ho:s.heap.get? it=some o) (hc:o.cls=.type n) (hd:o.data=.fields vs)
    (hn:["enumerate","zip","dict_itemiterator","dict_reverseitemiterator","odict_iterator","itertools.zip_longest","itertools.pairwise"].contains n=false) (hQ:Q () s):wpAny M A (letOwnedTupleGo tg (.ref it) u) Q E s:=by
  unfold letOwnedTupleGo
  cases tg<;>first
    | exact wpAny_pure hQ
    | (cases u<;>first
        | exact wpAny_pure hQ
        | (refine wpAny_bind (wpAny_load ho ?_)
           rw[hc,hd]
           show wpAny M A (if (["enumerate","zip","dict_itemiterator","dict_reverseitemiterator","odict_iterator","itertools.zip_longest","itertools.pairwise"].contains n && vs[0]? == some (rawInt _))=true then _ else _) Q E s
           rw[if_neg (by intro h;rw[hn,Bool.false_and] at h;cases h)]
           exact wpAny_pure hQ))
def Itl (K:PySem.W.Frag) (a:Addr):It :=
 ⟨fun i H=>∃ xs x,SqL K H a xs∧xs[i]?=some x,fun i H x H'=>H'=H∧∀ xs,SqL K H a xs→xs[i]?=some x,fun i H=>∃ xs,SqL K H a xs∧xs.length≤i⟩
def Itt (K:PySem.W.Frag) (a:Addr):It :=
 ⟨fun i H=>∃ xs x,SqT K H a xs∧xs[i]?=some x,fun i H x H'=>H'=H∧∀ xs,SqT K H a xs→xs[i]?=some x,fun i H=>∃ xs,SqT K H a xs∧xs.length≤i⟩
def Itr (lo:Int) (n:Nat):It:=⟨fun i _=>i < n,fun i H x H'=>H'=H∧x=.int (lo+i),fun i _=>n≤i⟩
theorem e5c {P:Program} {w:World} {K:PySem.W.Frag} {tg:Expr} (a it:Addr):f1l P w K tg (Itl K a) [it] it (fun i h=>h.IsListIter it a i) where
 mem:=by simp
 obj:=fun i h st b hb=>by
  have e:b=it:=by simpa using hb
  subst e
  obtain⟨o,e,c,d⟩:=st
  exact⟨o,e,fun v z=>by rw[d] at z;cases z⟩
 keep:=fun i h h' st k=>st.at fun o e=>k it (by simp) o e
 item:=by
  intro X hP hw hK hc i pins s σ H E I hf st hg
  subst hP hw hK
  obtain⟨xs,x,hq,hx⟩:=hg
  obtain⟨its,rv,p,hz⟩:=I.list hq
  obtain⟨u,hu,ru⟩:=rv.get hx
  obtain⟨f0,f1,f2,f3,f4,f5⟩:=hf it (by simp)
  refine wpAny_pyNext_list_item st p.isList (x:=u) (by simpa using hu) fun h' st' sb=>?_
  have I1:Inv X pins σ H {s with heap:=h'}:=I.turned (t':=s.toks) (fun b o hb e=>(sb.2 b hb).trans e) f0 f1 f3 f4 f5
  obtain⟨o,e,c,d⟩:=id st'
  exact⟨u,rfl,f6i (s:={s with heap:=h'}) e c d (by decide) ⟨x,H,I1,ru,⟨rfl,fun ys hy=>by rw[I.list_inj hy hq];exact hx⟩,st',fun b hb=>(hf b hb).1⟩⟩
 done:=by
  intro X hP hw hK hc i pins s σ H E I hf st hg
  subst hP hw hK
  obtain⟨xs,hq,hx⟩:=hg
  obtain⟨its,rv,p,hz⟩:=I.list hq
  obtain⟨f0,f1,f2,f3,f4,f5⟩:=hf it (by simp)
  have hl:=rv.length
  exact wpAny_pyNext_list_end (I.ok.hd hc) st p.isList (by simp;omega) fun h' eb=>⟨rfl,I.turned (t':=s.toks) (fun b o hb e=>eb b o hb e) f0 f1 f3 f4 f5⟩
 self:=fun _ _ _ _ _ st h=>wpAny_pyIter_listiter st h
theorem e3m {P:Program} {w:World} {K:PySem.W.Frag} {tg:Expr} (it:Addr) (lo:Int) (n:Nat):f1l P w K tg (Itr lo n) [it] it (fun i h=>IsRangeIter h it (lo+(i:Nat)*1) ((n:Int) - (i:Nat)) 1) where
 mem:=by simp
 obj:=fun i h st b hb=>by
  have e:b=it:=by simpa using hb
  subst e
  exact⟨_,st,fun v z=>by
   have z':Data.fields _=Data.cell v:=z
   cases z'⟩
 keep:=fun i h h' st k=>k it (by simp) _ st
 item:=by
  intro X hP hw hK hc i pins s σ H E I hf st hg
  subst hP hw hK
  obtain⟨f0,f1,f2,f3,f4,f5⟩:=hf it (by simp)
  have W:=Walks.range (prog:=X.prog) (w:=X.w) (I.ok.hd hc) it lo 1 n
  refine W.item i s _ _ hg st fun v h' tk hv st' kk=>?_
  obtain⟨t,rfl⟩:=hv
  have I1:Inv X pins σ H {s with heap:=h',toks:=tk}:=I.turned (fun b o hb e=>kk b o (by simpa using hb) e) f0 f1 f3 f4 f5
  refine⟨_,rfl,f6i (s:={s with heap:=h',toks:=tk}) (n:="range_iterator") st' rfl rfl (by decide) ⟨.int (lo+i),H,I1,⟨t,?_⟩,⟨rfl,rfl⟩,st',fun b hb=>(hf b hb).1⟩⟩
  rw[Int.mul_one]
 done:=by
  intro X hP hw hK hc i pins s σ H E I hf st hg
  subst hP hw hK
  obtain⟨f0,f1,f2,f3,f4,f5⟩:=hf it (by simp)
  exact wpAny_pyNext_range_end (I.ok.hd hc) st (by have:n≤i:=hg;omega) fun h' eb=>⟨rfl,I.turned (t':=s.toks) (fun b o hb e=>eb b o hb e) f0 f1 f3 f4 f5⟩
 self:=fun _ _ _ _ _ st h=>wpAny_pyIter_rangeiter st h
end L2
namespace L2
open PySem PySem.Spec PyProof.Rows
section
variable {X:Cx} {tg:Expr}
def f8d (K:PySem.W.Frag) (tl:TE):TI:=fun σ H R=>tl σ H fun x H1=>∃ a,x=.ref a∧(∃ xs,SqL K H1 a xs)∧R (Itl K a) H1
theorem a3a {l:Expr} {tl:TE} (hl:PE X l tl):PI X tg l (f8d X.K tl):=by
 constructor;intro pins s σ H R I h
 refine thn (hl pins s σ H _ I h) fun v s1 ⟨x,H1,I1,r1,q1⟩=>?_
 obtain⟨a,e,⟨xs,hq⟩,q⟩:=q1
 subst e
 cases r1
 obtain⟨its,rv,p,hz⟩:=I1.list hq
 refine wpAny_pyIter_list p.isList ?_
 refine⟨s1.heap.objs.size,[s1.heap.objs.size],_,_,H1,rfl,I1.kept (t':=s1.toks) fun b o e=>Heap.get?_push_of_some _ e,e5c a _,⟨_,Heap.get?_push_size _ rfl,rfl,rfl⟩,fun b hb=>?_,q⟩
 have e:b=s1.heap.objs.size:=by simpa using hb
 subst e
 exact I1.fpOk (Nat.le_refl _) (I1.hok.fresh (Nat.le_refl _))
theorem range_it {pins:List (Addr×Obj)} {σ:St} {H:Hp} {s:Shared} {R:It→Hp→Prop} {E:Value→Shared→Prop} {lo hi:Int} {t u v:Tok} {tk:Nat} (I:Inv X pins σ H s) (h1:-(2 ^ 62)≤lo) (h2:lo < 2 ^ 62) (h3:-(2 ^ 62)≤hi) (h4:hi < 2 ^ 62)
  (q:R (Itr lo (hi - lo).toNat) H):wpAny (model X.prog X.w) X.A (pyIter (.ref s.heap.objs.size)) (PIE X pins σ tg R) E {s with heap:=s.heap.push {cls:=.type "range",data:=.fields #[.int lo t,.int hi u,.int 1 v]},toks:=tk}:=by
 refine wpAny_pyIter_range (IsRange.new ..) (small_one h1 h2 h3 h4) ?_
 have I1:Inv X pins σ H {s with heap:=s.heap.push {cls:=.type "range",data:=.fields #[.int lo t,.int hi u,.int 1 v]},toks:=tk}:=I.kept fun b o e=>Heap.get?_push_of_some _ e
 refine⟨(s.heap.push {cls:=.type "range",data:=.fields #[.int lo t,.int hi u,.int 1 v]}).objs.size,[(s.heap.push {cls:=.type "range",data:=.fields #[.int lo t,.int hi u,.int 1 v]}).objs.size],_,_,H,rfl,
  I1.kept (t':=tk) fun b o e=>Heap.get?_push_of_some _ e,e3m _ lo (hi - lo).toNat,?_,fun b hb=>?_,q⟩
 ·have e1:lo+((0:Nat):Int)*1=lo:=by simp
  have e2:(((hi - lo).toNat:Nat):Int) - ((0:Nat):Int)=Builtin.Range.rangeSize lo hi 1:=by rw[rangeSize_one];split<;>omega
  show IsRangeIter _ _ (lo+((0:Nat):Int)*1) ((((hi - lo).toNat:Nat):Int) - ((0:Nat):Int)) 1
  rw[e1,e2]
  exact Heap.get?_push_size _ rfl
 ·have e:b=(s.heap.push {cls:=.type "range",data:=.fields #[.int lo t,.int hi u,.int 1 v]}).objs.size:=by simpa using hb
  subst e
  exact I1.fpOk (Nat.le_refl _) (I1.hok.fresh (Nat.le_refl _))
def f8w (ta:TA):TI:=fun σ H R=>ta σ H fun vs H1=>∃ j:Int,vs=[.int j]∧-(2 ^ 62)≤j∧j < 2 ^ 62∧R (Itr 0 j.toNat) H1
theorem c0z {a:Expr} {ta:TA} {p pos:Pos} (hg:Gl X "range") (hm:X.mg "range"=none) (ha:PA X [a] ta) (hs:starEach [a] X.env=[(false,eval a X.env)]:=by rfl):PI X tg (.Call (.Name "range" p) [a] [] pos) (f8w ta):=by
 constructor;intro pins s σ H R I h
 refine Call_ (c9z I hg hm boot_range (PyProof.Rows.callWith_type1 (thn (ha pos pins s σ H _ I h) fun us s1 ⟨vs,H1,I1,r1,q1⟩=>?_) hs rfl))
 obtain⟨j,e,q1,q2,q⟩:=q1
 subst e
 cases r1 with
 | cons r rr =>
  cases rr
  obtain⟨t,rfl⟩:=r
  exact call_range_1 (range_it I1 (by omega) (by omega) q1 q2 (by simpa using q))
def g1s (wi:TI) (g:TG) (tb:TS):TS:=fun D σ H=>wi σ H fun J H1=>∃ W:Nat→Nat→St→Hp→Prop,(∃ m,W 0 m σ H1)∧∀ i m σ H,W i m σ H →
 (J.stop i H∧D.nx σ H)∨(J.go i H∧∃ N:St→Hp→Prop,(∀ σ' H',N σ' H'→∃ m',m' < m∧W (i+1) m' σ' H')∧∀ x H',J.yld i H x H'→g x σ H' fun σ2 H2=>tb {D with nx:=N,ct:=N,bk:=D.nx} σ2 H2)
def d1b (fp:List Addr) (h:Heap):List (Addr×Obj):=fp.filterMap fun b=>(h.get? b).map fun o=>(b,o)
theorem a5p {fp:List Addr} {h:Heap} {b:Addr} {o:Obj} (hb:b∈fp) (e:h.get? b=some o):(b,o)∈d1b fp h:=List.mem_filterMap.mpr ⟨b,hb,by rw[e];rfl⟩
theorem e6m {fp:List Addr} {h:Heap} {p:Addr×Obj} (hp:p∈d1b fp h):p.1∈fp∧h.get? p.1=some p.2:=by
 obtain⟨b,hb,e⟩:=List.mem_filterMap.mp hp
 cases q:h.get? b with
 | none=>rw[q] at e;cases e
 | some o =>
  rw[q] at e
  have e':(b,o)=p:=Option.some.inj e
  subst e'
  exact⟨hb,q⟩
theorem Inv.pinned {pins:List (Addr×Obj)} {σ:St} {H:Hp} {s:Shared} {fp:List Addr} (I:Inv X pins σ H s) (hf:∀ b∈fp,c4p X pins H b) (ho:∀ b∈fp,∃ o,s.heap.get? b=some o∧∀ v,o.data≠.cell v):Inv X (pins++d1b fp s.heap) σ H s :=
 I.pins_of fun p hp=>(List.mem_append.mp hp).elim (fun z=>I.pin p (List.mem_append_right _ z)) fun z=>by
  obtain⟨hb,e⟩:=e6m z
  obtain⟨f0,f1,f2,_⟩:=hf p.1 hb
  obtain⟨o,e',d⟩:=ho p.1 hb
  rw[e] at e';cases e'
  exact⟨e,f0,f1,f2,d⟩
theorem Inv.unpinned {pins pl:List (Addr×Obj)} {σ:St} {H:Hp} {s:Shared} (I:Inv X (pins++pl) σ H s):Inv X pins σ H s:=I.pins_of fun p hp=>I.pin p (List.mem_append_right _ (List.mem_append_left _ hp))
theorem a8d {iter:Expr} {body:List Stmt} {wi:TI} {g:TG} {tb:TS} {pos:Pos} (hp:PassesOwn (model X.prog X.w) X.A X.env X.xe) (hc:X.calm=true) (hi:PI X tg iter wi) (hg:PG X tg g) (hb:PSs X body tb)
  (hs:∀ x,foldedSetIterable iter X.env x=pure x:=by intro _;rfl):PS X (.For tg iter body [] pos) (g1s wi g tb):=by
 constructor;intro pins s σ H D I h
 refine wpAny_For (thn (hi pins s σ H _ I h) fun v s1 h1=>thn h1 fun itv s2 h2=>?_) hs
 obtain⟨it,fp,tn,J,H2,e,I2,T,st2,f2,W,⟨m0,w0⟩,turn⟩:=h2
 subst e
 have stat:∀ {H':Hp},(∀ b∈fp,H' b=none)→∀ b∈fp,c4p X pins H' b:=fun hn b hb=>⟨hn b hb,(f2 b hb).2⟩
 refine codeAny_forLoop_any (fun n s'=>∃ i σ' H',Inv X pins σ' H' s'∧tn i s'.heap∧(∀ b∈fp,H' b=none)∧W i n σ' H') ?_ m0 ⟨0,σ,H2,I2,st2,fun b hb=>(f2 b hb).1,w0⟩
 rintro n s3 ⟨i,σ3,H3,I3,st3,fr3,w3⟩
 rcases turn i n σ3 H3 w3 with ⟨stop,qn⟩ | ⟨go,N,hN,step⟩
 ·refine wpAny_passesOwn hp (thn (T.done X rfl rfl rfl hc i pins s3 σ3 H3 X.xe I3 (stat fr3) st3 stop) fun r s4 ⟨hr,I4⟩=>?_)
  subst hr
  exact wpAny_execs_nil ⟨σ3,H3,I4,qn⟩
 ·refine wpAny_passesOwn hp (thn (T.item X rfl rfl rfl hc i pins s3 σ3 H3 X.xe I3 (stat fr3) st3 go) fun r s4 ⟨u,hr,h4⟩=>?_)
  subst hr
  refine wpAny_passesOwn hp (thn h4 fun _ s5 ⟨x,H5,I5,r5,y5,st5,fr5⟩=>?_)
  have I5':=I5.pinned (stat fr5) (T.obj _ _ st5)
  refine wpAny_passesOwn hp (thn (hg _ s5 σ3 H5 x u _ I5' r5 (step x H5 y5)) fun _ s6 ⟨σ6,H6,I6,q6⟩=>?_)
  refine wpAny_passesOwn hp (thn (hb _ s6 σ6 H6 _ I6 q6) fun f s7 q7=>?_)
  have again:∀ {σ7:St} {H7:Hp},Inv X (pins++d1b fp s5.heap) σ7 H7 s7→N σ7 H7→∃ m,m < n∧∃ i σ' H',Inv X pins σ' H' s7∧tn i s7.heap∧(∀ b∈fp,H' b=none)∧W i m σ' H':=fun {σ7 H7} I7 n7=>by
   obtain⟨m',hm,w7⟩:=hN σ7 H7 n7
   refine⟨m',hm,i+1,σ7,H7,I7.unpinned,T.keep _ _ _ st5 fun b hb o e=>(I7.pin (b,o) (List.mem_append_right _ (List.mem_append_right _ (a5p hb e)))).1,fun b hb=>?_,w7⟩
   obtain⟨o,e,d⟩:=T.obj _ _ st5 b hb
   exact(I7.pin (b,o) (List.mem_append_right _ (List.mem_append_right _ (a5p hb e)))).2.1
  cases f with
  | next=>obtain⟨σ7,H7,I7,n7⟩:=q7;exact again I7 n7
  | cont=>obtain⟨σ7,H7,I7,n7⟩:=q7;exact again I7 n7
  | brk=>obtain⟨σ7,H7,I7,q7⟩:=q7;exact⟨σ7,H7,I7.unpinned,q7⟩
  | ret v=>obtain⟨x7,σ7,H7,I7,r7,q7⟩:=q7;exact⟨x7,σ7,H7,I7.unpinned,r7,q7⟩
end
theorem b3d {K:PySem.W.Frag} {a:Addr} {xs:List V} {g:TG} {tb:TS} {D:d7t} {σ:St} {H:Hp} (Pv:Nat→St→Hp→Prop) (h0:Pv 0 σ H) (hl:∀ i σ H,i≤xs.length→Pv i σ H→SqL K H a xs)
  (hs:∀ i x σ H,xs[i]?=some x→Pv i σ H→g x σ H fun σ2 H2=>tb {D with nx:=Pv (i+1),ct:=Pv (i+1),bk:=D.nx} σ2 H2) (hd:∀ σ H,Pv xs.length σ H→D.nx σ H) :
  ∃ W:Nat→Nat→St→Hp→Prop,(∃ m,W 0 m σ H)∧∀ i m σ H,W i m σ H →
   ((Itl K a).stop i H∧D.nx σ H)∨((Itl K a).go i H∧∃ N:St→Hp→Prop,(∀ σ' H',N σ' H'→∃ m',m' < m∧W (i+1) m' σ' H')∧∀ x H',(Itl K a).yld i H x H'→g x σ H' fun σ2 H2=>tb {D with nx:=N,ct:=N,bk:=D.nx} σ2 H2):=by
 refine⟨fun i m σ H=>m=xs.length - i∧i≤xs.length∧Pv i σ H,⟨xs.length,by simp,Nat.zero_le _,h0⟩,?_⟩
 rintro i m σ H ⟨rfl,hi,p⟩
 have q:=hl i σ H hi p
 by_cases hlt:i < xs.length
 ·refine .inr ⟨⟨xs,xs[i],q,by simp[hlt]⟩,Pv (i+1),fun σ' H' p'=>⟨xs.length - (i+1),by omega,rfl,hlt,p'⟩,fun x H' y=>?_⟩
  obtain⟨e,y⟩:=y
  subst e
  exact hs i x σ _ (y xs q) p
 ·have e:i=xs.length:=by omega
  subst e
  exact .inl ⟨⟨xs,q,Nat.le_refl _⟩,hd σ H p⟩
theorem c0j {lo:Int} {n:Nat} {g:TG} {tb:TS} {D:d7t} {σ:St} {H:Hp} (Pv:Nat→St→Hp→Prop) (h0:Pv 0 σ H)
  (hs:∀ i σ H,i < n→Pv i σ H→g (.int (lo+i)) σ H fun σ2 H2=>tb {D with nx:=Pv (i+1),ct:=Pv (i+1),bk:=D.nx} σ2 H2) (hd:∀ σ H,Pv n σ H→D.nx σ H) :
  ∃ W:Nat→Nat→St→Hp→Prop,(∃ m,W 0 m σ H)∧∀ i m σ H,W i m σ H →
   ((Itr lo n).stop i H∧D.nx σ H)∨((Itr lo n).go i H∧∃ N:St→Hp→Prop,(∀ σ' H',N σ' H'→∃ m',m' < m∧W (i+1) m' σ' H')∧∀ x H',(Itr lo n).yld i H x H'→g x σ H' fun σ2 H2=>tb {D with nx:=N,ct:=N,bk:=D.nx} σ2 H2):=by
 refine⟨fun i m σ H=>m=n - i∧i≤n∧Pv i σ H,⟨n,by simp,Nat.zero_le _,h0⟩,?_⟩
 rintro i m σ H ⟨rfl,hi,p⟩
 by_cases hlt:i < n
 ·refine .inr ⟨hlt,Pv (i+1),fun σ' H' p'=>⟨n - (i+1),by omega,rfl,hlt,p'⟩,fun x H' y=>?_⟩
  obtain⟨e,y⟩:=y
  subst e y
  exact hs i σ _ hlt p
 ·have e:i=n:=by omega
  subst e
  exact .inl ⟨Nat.le_refl _,hd σ H p⟩
end L2
namespace L2
open PySem PySem.Spec PyProof.Rows
abbrev R2:=V→V→Hp→VK→Prop
def OpR (X:Cx) (f:Value→Value→Sem Value) (r:R2):Prop :=
 ∀ (pins:List (Addr×Obj)) (s:Shared) (σ:St) (H:Hp) (x y:V) (v u:Value) (Q:VK),Inv X pins σ H s→a2u x v→a2u y u→r x y H Q →
  wpAny (model X.prog X.w) X.A (f v u) (EP X pins σ Q) X.xe s
def UnR (X:Cx) (f:Value→Sem Value) (r:V→Hp→VK→Prop):Prop :=
 ∀ (pins:List (Addr×Obj)) (s:Shared) (σ:St) (H:Hp) (x:V) (v:Value) (Q:VK),Inv X pins σ H s→a2u x v→r x H Q →
  wpAny (model X.prog X.w) X.A (f v) (EP X pins σ Q) X.xe s
def b7y (X:Cx) (f:Value) (r:List V→Hp→VK→Prop):Prop :=
 ∀ (pins:List (Addr×Obj)) (s:Shared) (σ:St) (H:Hp) (xs:List V) (us:List Value) (Q:VK),Inv X pins σ H s→a3c xs us→r xs H Q →
  wpAny (model X.prog X.w) X.A (call f us) (EP X pins σ Q) X.xe s
def tOp (r:R2) (ta tb:TE):TE:=fun σ H Q=>ta σ H fun x H1=>tb σ H1 fun y H2=>r x y H2 Q
def tUn (r:V→Hp→VK→Prop) (ta:TE):TE:=fun σ H Q=>ta σ H fun x H1=>r x H1 Q
def rI (C:Int→Int→Prop) (g:Int→Int→V):R2:=fun x y H Q=>∃ i j,x=.int i∧y=.int j∧C i j∧Q (g i j) H
def rI0 (g:Int→Int→V):R2:=fun x y H Q=>∃ i j,x=.int i∧y=.int j∧Q (g i j) H
def rU (g:Int→V):V→Hp→VK→Prop:=fun x H Q=>∃ i,x=.int i∧Q (g i) H
section
variable {X:Cx} {a b c:Expr} {ta tb tc:TE} {pos:Pos}
theorem f9i (ha:PE X a ta) (hb:PE X b tb) {pins:List (Addr×Obj)} {s:Shared} {σ:St} {H:Hp} {R:V→V→Hp→Prop} (I:Inv X pins σ H s)
  (h:ta σ H fun x H1=>tb σ H1 fun y H2=>R x y H2) {Q:Value→Shared→Prop} {f:Value→Value→Sem Value}
  (hf:∀ v u s2 x y H2,Inv X pins σ H2 s2→a2u x v→a2u y u→R x y H2→wpAny (model X.prog X.w) X.A (f v u) Q X.xe s2) :
  wpAny (model X.prog X.w) X.A (eval a X.env) (fun v s₁=>wpAny (model X.prog X.w) X.A (eval b X.env) (fun u s₂=>wpAny (model X.prog X.w) X.A (f v u) Q X.xe s₂) X.xe s₁) X.xe s:=by
 refine thn (ha pins s σ H _ I h) fun v s1 ⟨x,H1,I1,r1,q1⟩=>?_
 refine thn (hb pins s1 σ H1 _ I1 q1) fun u s2 ⟨y,H2,I2,r2,q2⟩=>?_
 exact hf v u s2 x y H2 I2 r1 r2 q2
theorem a1r {op:Operator} {r:R2} (ho:OpR X (binaryOp op) r) (ha:PE X a ta) (hb:PE X b tb):PE X (.BinOp a op b pos) (tOp r ta tb):=by
 constructor;intro pins s σ H Q I h
 exact wpAny_BinOp (f9i ha hb I h fun v u s2 x y H2 I2 rx ry q=>ho pins s2 σ H2 x y v u Q I2 rx ry q)
theorem f5o {op:UnaryOp} {r:V→Hp→VK→Prop} (ho:UnR X (unaryOp op) r) (ha:PE X a ta):PE X (.UnaryOp op a pos) (tUn r ta):=by
 constructor;intro pins s σ H Q I h
 exact UnaryOp_ (thn (ha pins s σ H _ I h) fun v s1 ⟨x,H1,I1,r1,q1⟩=>ho pins s1 σ H1 x v Q I1 r1 q1)
theorem opI {f:Value→Value→Sem Value} {C:Int→Int→Prop} {g:Int→Int→Int}
  (rule:∀ (i j:Int) (t u:Tok) (s:Shared) (Q:Value→Shared→Prop) (E:Value→Shared→Prop),C i j→Q (.int (g i j) s.toks) {s with toks:=s.toks+1}→wpAny (model X.prog X.w) X.A (f (.int i t) (.int j u)) Q E s) :
  OpR X f (rI C fun i j=>.int (g i j)):=by
 intro pins s σ H x y v u Q I rx ry h
 obtain⟨i,j,rfl,rfl,hc,q⟩:=h
 obtain⟨t,rfl⟩:=rx
 obtain⟨t',rfl⟩:=ry
 exact rule i j t t' s _ _ hc ⟨.int (g i j),H,I.tok _,⟨_,rfl⟩,q⟩
theorem g0p {f:Value→Value→Sem Value} {g:Int→Int→Int}
  (rule:∀ (i j:Int) (t u:Tok) (s:Shared) (Q:Value→Shared→Prop) (E:Value→Shared→Prop),Q (.int (g i j) s.toks) {s with toks:=s.toks+1}→wpAny (model X.prog X.w) X.A (f (.int i t) (.int j u)) Q E s) :
  OpR X f (rI0 fun i j=>.int (g i j)):=by
 intro pins s σ H x y v u Q I rx ry h
 obtain⟨i,j,rfl,rfl,q⟩:=h
 obtain⟨t,rfl⟩:=rx
 obtain⟨t',rfl⟩:=ry
 exact rule i j t t' s _ _ ⟨.int (g i j),H,I.tok _,⟨_,rfl⟩,q⟩
theorem f8r {f:Value→Value→Sem Value} {g:Int→Int→Bool}
  (rule:∀ (i j:Int) (t u:Tok) (s:Shared) (Q:Value→Shared→Prop) (E:Value→Shared→Prop),Q (.bool (g i j)) s→wpAny (model X.prog X.w) X.A (f (.int i t) (.int j u)) Q E s) :
  OpR X f (rI0 fun i j=>.bl (g i j)):=by
 intro pins s σ H x y v u Q I rx ry h
 obtain⟨i,j,rfl,rfl,q⟩:=h
 obtain⟨t,rfl⟩:=rx
 obtain⟨t',rfl⟩:=ry
 exact rule i j t t' s _ _ ⟨.bl (g i j),H,I,rfl,q⟩
def g0z (i j:Int):Prop:=0 < j∧j < 1073741824
def g1c (i j:Int):Prop:=0≤j∧j≤1000000∧i.natAbs < 2 ^ 64
def f8i (i j:Int):Prop:=(-(2 ^ 64) < i∧i < 2 ^ 64)∨(-(2 ^ 64) < j∧j < 2 ^ 64)
theorem f8i.ok {i j:Int} (h:f8i i j):IntMulOk i j:=by
 rcases h with ⟨h1,h2⟩ | ⟨h1,h2⟩
 ·exact .of_left (intBits_le_64 h1 h2)
 ·exact .of_right (intBits_le_64 h1 h2)
theorem a4l:OpR X (binaryOp .Add) (rI0 fun i j=>.int (i+j)):=g0p fun _ _ _ _ _ _ _ q=>add_int q
theorem e5e:OpR X (binaryOp .Sub) (rI0 fun i j=>.int (i - j)):=g0p fun _ _ _ _ _ _ _ q=>sub_int q
theorem c0m:OpR X (binaryOp .Mult) (rI f8i fun i j=>.int (i*j)):=opI fun _ _ _ _ _ _ _ hc q=>mul_int q hc.ok
theorem e3v:OpR X (binaryOp .FloorDiv) (rI g0z fun i j=>.int (i / j)):=opI fun i j _ _ _ _ _ hc q=>by
 have h1:(0:Int) < j:=hc.1
 have h2:j < 1073741824:=hc.2
 exact floordiv_int (by omega) (by rw[Int.fdiv_eq_ediv_of_nonneg i (by omega)];exact q) (.inl (PyProof.noPylong_small (by omega)))
theorem a7o:OpR X (binaryOp .Mod) (rI (fun _ j=>0 < j) fun i j=>.int (i%j)):=opI fun i j _ _ _ _ _ hc q=>by
 have h1:(0:Int) < j:=hc
 exact mod_int' (by omega) (by rw[Int.fmod_eq_emod_of_nonneg i (by omega)];exact q)
theorem f6o:OpR X (binaryOp .Pow) (rI g1c fun i j=>.int (i ^ j.toNat)):=opI fun _ _ _ _ _ _ _ hc q=>pow_int_small hc.1 hc.2.1 hc.2.2 q
theorem unI {f:Value→Sem Value} {g:Int→Int}
  (rule:∀ (i:Int) (t:Tok) (s:Shared) (Q:Value→Shared→Prop) (E:Value→Shared→Prop),Q (.int (g i) s.toks) {s with toks:=s.toks+1}→wpAny (model X.prog X.w) X.A (f (.int i t)) Q E s) :
  UnR X f (rU fun i=>.int (g i)):=by
 intro pins s σ H x v Q I rx h
 obtain⟨i,rfl,q⟩:=h
 obtain⟨t,rfl⟩:=rx
 exact rule i t s _ _ ⟨.int (g i),H,I.tok _,⟨_,rfl⟩,q⟩
theorem f2j:UnR X (unaryOp .USub) (rU fun i=>.int (-i)):=unI fun _ _ _ _ _ q=>neg_int q
end
def g0m:V→V→Bool
 | .non,.non=>true | .non,.int _=>true | .int _,.non=>true | .non,.bl _=>true | .bl _,.non=>true | .non,.str _=>true | .str _,.non=>true
 | .int _,.int _=>true | .bl _,.bl _=>true | .str _,.str _=>true | .byt _,.byt _=>true
 | .int _,.str _=>true | .str _,.int _=>true | .bl _,.str _=>true | .str _,.bl _=>true
 | _,_=>false
def rEq:R2:=fun x y H Q=>g0m x y=true∧Q (.bl (decide (x=y))) H
def rNe:R2:=fun x y H Q=>g0m x y=true∧Q (.bl (!decide (x=y))) H
theorem e8l {i j:Int}:decide (V.int i=V.int j)=(i == j):=by
 rw[Bool.eq_iff_iff]
 simp
theorem f2k {i j:Bool}:decide (V.bl i=V.bl j)=(i == j):=by
 rw[Bool.eq_iff_iff]
 simp
theorem e7o {i j:Str}:decide (V.str i=V.str j)=(i == j):=by
 rw[Bool.eq_iff_iff]
 simp
theorem e8a {i j:Array UInt8}:decide (V.byt i=V.byt j)=(i.toList == j.toList):=by
 rw[Bool.eq_iff_iff]
 cases i
 cases j
 simp
section
variable {X:Cx} {a b c:Expr} {ta tb tc:TE} {pos:Pos}
theorem a2c {pins:List (Addr×Obj)} {σ:St} {H:Hp} {s:Shared} {Q:VK} {k k':Bool} (I:Inv X pins σ H s) (q:Q (.bl k) H) (e:k=k'):EP X pins σ Q (.bool k') s:=by
 subst e
 exact⟨.bl k,H,I,rfl,q⟩
theorem c1e:OpR X (compareOp .Eq) rEq:=by
 intro pins s σ H x y v u Q I rx ry h
 obtain⟨hs,q⟩:=h
 cases x with
 | non =>
  cases rx
  cases y with
  | non=>cases ry;exact PySem.EqNone.eq_none_none (a2c I q (by simp))
  | bl j=>cases ry;exact PySem.EqNone.eq_none_bool (a2c I q (by simp))
  | int j=>obtain⟨t',rfl⟩:=ry;exact PySem.EqNone.eq_none_int (a2c I q (by simp))
  | str j=>obtain⟨t',rfl⟩:=ry;exact PySem.EqNone.eq_none_str (a2c I q (by simp))
  | _=>exact absurd (show false=true from hs) Bool.false_ne_true
 | bl i =>
  cases rx
  cases y with
  | non=>cases ry;exact PySem.EqNone.eq_bool_none (a2c I q (by simp))
  | bl j=>cases ry;exact eq_bool (a2c I q f2k)
  | str j=>obtain⟨t',rfl⟩:=ry;exact PySem.EqMixed.eq_bool_str (a2c I q (by simp))
  | _=>exact absurd (show false=true from hs) Bool.false_ne_true
 | int i =>
  obtain⟨t,rfl⟩:=rx
  cases y with
  | non=>cases ry;exact PySem.EqNone.eq_int_none (a2c I q (by simp))
  | int j=>obtain⟨t',rfl⟩:=ry;exact eq_int (a2c I q e8l)
  | str j=>obtain⟨t',rfl⟩:=ry;exact PySem.EqMixed.eq_int_str (a2c I q (by simp))
  | _=>exact absurd (show false=true from hs) Bool.false_ne_true
 | str i =>
  obtain⟨t,rfl⟩:=rx
  cases y with
  | non=>cases ry;exact PySem.EqNone.eq_str_none (a2c I q (by simp))
  | bl j=>cases ry;exact PySem.EqMixed.eq_str_bool (a2c I q (by simp))
  | int j=>obtain⟨t',rfl⟩:=ry;exact PySem.EqMixed.eq_str_int (a2c I q (by simp))
  | str j=>obtain⟨t',rfl⟩:=ry;exact eq_str (a2c I q e7o)
  | _=>exact absurd (show false=true from hs) Bool.false_ne_true
 | byt i =>
  obtain⟨t,rfl⟩:=rx
  cases y with
  | byt j=>obtain⟨t',rfl⟩:=ry;exact PySem.W.eq_bytes (a2c I q e8a)
  | _=>exact absurd (show false=true from hs) Bool.false_ne_true
 | _=>cases y<;>exact absurd (show false=true from hs) Bool.false_ne_true
theorem d6y:OpR X (compareOp .NotEq) rNe:=by
 intro pins s σ H x y v u Q I rx ry h
 obtain⟨hs,q⟩:=h
 cases x with
 | non =>
  cases rx
  cases y with
  | non=>cases ry;exact PySem.EqNone.ne_none_none (a2c I q (by simp))
  | bl j=>cases ry;exact PySem.EqNone.ne_none_bool (a2c I q (by simp))
  | int j=>obtain⟨t',rfl⟩:=ry;exact PySem.EqNone.ne_none_int (a2c I q (by simp))
  | str j=>obtain⟨t',rfl⟩:=ry;exact PySem.EqNone.ne_none_str (a2c I q (by simp))
  | _=>exact absurd (show false=true from hs) Bool.false_ne_true
 | bl i =>
  cases rx
  cases y with
  | non=>cases ry;exact PySem.EqNone.ne_bool_none (a2c I q (by simp))
  | bl j=>cases ry;exact ne_bool (a2c I q (congrArg not f2k))
  | str j=>obtain⟨t',rfl⟩:=ry;exact PySem.EqMixed.ne_bool_str (a2c I q (by simp))
  | _=>exact absurd (show false=true from hs) Bool.false_ne_true
 | int i =>
  obtain⟨t,rfl⟩:=rx
  cases y with
  | non=>cases ry;exact PySem.EqNone.ne_int_none (a2c I q (by simp))
  | int j=>obtain⟨t',rfl⟩:=ry;exact ne_int (a2c I q (congrArg not e8l))
  | str j=>obtain⟨t',rfl⟩:=ry;exact PySem.EqMixed.ne_int_str (a2c I q (by simp))
  | _=>exact absurd (show false=true from hs) Bool.false_ne_true
 | str i =>
  obtain⟨t,rfl⟩:=rx
  cases y with
  | non=>cases ry;exact PySem.EqNone.ne_str_none (a2c I q (by simp))
  | bl j=>cases ry;exact PySem.EqMixed.ne_str_bool (a2c I q (by simp))
  | int j=>obtain⟨t',rfl⟩:=ry;exact PySem.EqMixed.ne_str_int (a2c I q (by simp))
  | str j=>obtain⟨t',rfl⟩:=ry;exact ne_str (a2c I q (congrArg not e7o))
  | _=>exact absurd (show false=true from hs) Bool.false_ne_true
 | byt i =>
  obtain⟨t,rfl⟩:=rx
  cases y with
  | byt j=>obtain⟨t',rfl⟩:=ry;exact PySem.W.ne_bytes (a2c I q (congrArg not e8a))
  | _=>exact absurd (show false=true from hs) Bool.false_ne_true
 | _=>cases y<;>exact absurd (show false=true from hs) Bool.false_ne_true
theorem d8s:OpR X (compareOp .Lt) (rI0 fun i j=>.bl (decide (i < j))):=f8r fun _ _ _ _ _ _ _ q=>lt_int q
theorem f4x:OpR X (compareOp .LtE) (rI0 fun i j=>.bl (decide (i≤j))):=f8r fun _ _ _ _ _ _ _ q=>le_int q
theorem d7x:OpR X (compareOp .Gt) (rI0 fun i j=>.bl (decide (j < i))):=f8r fun _ _ _ _ _ _ _ q=>gt_int q
theorem e0g:OpR X (compareOp .Is) (fun x y H Q=>y=.non∧Q (.bl (decide (x=.non))) H):=by
 intro pins s σ H x y v u Q I rx ry h
 obtain⟨rfl,q⟩:=h
 cases ry
 refine is_none_gen (a2c I q ?_)
 cases x<;>first
  | (cases rx;rfl)
  | (obtain⟨t,rfl⟩:=rx;rfl)
theorem c6e:OpR X (compareOp .IsNot) (fun x y H Q=>y=.non∧Q (.bl (!decide (x=.non))) H):=by
 intro pins s σ H x y v u Q I rx ry h
 obtain⟨rfl,q⟩:=h
 cases ry
 refine isnot_none_gen (a2c I q ?_)
 cases x<;>first
  | (cases rx;rfl)
  | (obtain⟨t,rfl⟩:=rx;rfl)
theorem a1f (b:Expr) {op:CmpOp} (h:op≠.In:=by decide) (h2:op≠.NotIn:=by decide):behindInMarks op b=false:=by
 have e1:(op == CmpOp.In)=false:=by cases op<;>first | rfl | exact absurd rfl h
 have e2:(op == CmpOp.NotIn)=false:=by cases op<;>first | rfl | exact absurd rfl h2
 cases b<;>simp[behindInMarks,e1,e2]
theorem a8z {op:CmpOp} {r:R2} (ho:OpR X (compareOp op) r) (ha:PE X a ta) (hb:PE X b tb) (hm:behindInMarks op b=false):PE X (.Compare a [op] [b] pos) (tOp r ta tb):=by
 constructor;intro pins s σ H Q I h
 exact wpAny_Compare1 (f9i ha hb I h fun v u s2 x y H2 I2 rx ry q=>ho pins s2 σ H2 x y v u Q I2 rx ry q) hm
def f9h (t:TE):TT:=fun σ H Q=>t σ H fun x H'=>∃ k,x=.bl k∧Q k H'
theorem a0y {op:CmpOp} {r:R2} (ho:OpR X (compareOp op) r) (ha:PE X a ta) (hb:PE X b tb) (hm:behindInMarks op b=false):PT X (.Compare a [op] [b] pos) (f9h (tOp r ta tb)):=by
 constructor;intro pins s σ H Q I h
 refine wpAny_isTrue_Compare1 (thn (ha pins s σ H _ I h) fun v s1 ⟨x,H1,I1,r1,q1⟩=>thn (hb pins s1 σ H1 _ I1 q1) fun u s2 ⟨y,H2,I2,r2,q2⟩ =>
  thn (ho pins s2 σ H2 x y v u _ I2 r1 r2 q2) fun c s3 ⟨z,H3,I3,r3,k,e,q3⟩=>?_) hm
 subst e
 cases r3
 exact wpAny_truthy_bool ⟨H3,I3,q3⟩
def f7d (r r':R2) (ta tb tc:TE):TE:=fun σ H Q=>ta σ H fun x H1=>tb σ H1 fun y H2=>r x y H2 fun z H3=>∃ k,z=.bl k ∧
 (if k=true then tc σ H3 fun w' H4=>r' y w' H4 Q else Q (.bl false) H3)
theorem e9x {op op':CmpOp} {r r':R2} (ho:OpR X (compareOp op) r) (ho':OpR X (compareOp op') r') (ha:PE X a ta) (hb:PE X b tb) (hc:PE X c tc)
  (hm:lastMarks [op,op'] [b,c]=false:=by with_unfolding_all rfl):PE X (.Compare a [op,op'] [b,c] pos) (f7d r r' ta tb tc):=by
 constructor;intro pins s σ H Q I h
 refine Compare_chain (thn (ha pins s σ H _ I h) fun v s1 ⟨x,H1,I1,r1,q1⟩=>chain_link (thn (hb pins s1 σ H1 _ I1 q1) fun u s2 ⟨y,H2,I2,r2,q2⟩ =>
  thn (ho pins s2 σ H2 x y v u _ I2 r1 r2 q2) fun d s3 ⟨z,H3,I3,r3,k,e,q3⟩=>?_)) hm
 subst e
 cases r3
 refine wpAny_truthy_bool ?_
 cases k with
 | false=>exact ite_ff ⟨.bl false,H3,I3,rfl,q3⟩
 | true=>exact ite_tt (chain_last (thn (hc pins s3 σ H3 _ I3 q3) fun w' s4 ⟨z',H4,I4,r4,q4⟩=>ho' pins s4 σ H4 y z' u w' Q I4 r2 r4 q4))
theorem e0o:(sizeLine:Nat) < 2 ^ 63:=by rw[sizeLine_eq];decide
theorem c6m {x:V} {us:List Value} (r:a3c [x] us):∃ u,us=[u]∧a2u x u:=by
 cases r with
 | cons r1 r2=>cases r2;exact⟨_,rfl,r1⟩
theorem e1x {x y:V} {us:List Value} (r:a3c [x,y] us):∃ u w',us=[u,w']∧a2u x u∧a2u y w':=by
 cases r with
 | cons r1 r2 =>
  cases r2 with
  | cons r3 r4=>cases r4;exact⟨_,_,rfl,r1,r3⟩
theorem e4t (hc:X.calm=true):b7y X (.builtin "max") (fun xs H Q=>∃ i j,xs=[.int i,.int j]∧Q (.int (if j > i then j else i)) H):=by
 intro pins s σ H xs us Q I r h
 obtain⟨i,j,rfl,q⟩:=h
 obtain⟨u,w',rfl,⟨t,rfl⟩,⟨t',rfl⟩⟩:=e1x r
 refine max_two_ints (I.ok.hd hc) fun h' tk k=>⟨_,H,I.kept k,?_,q⟩
 by_cases hj:j > i
 ·rw[if_pos hj,if_pos hj];exact⟨_,rfl⟩
 ·rw[if_neg hj,if_neg hj];exact⟨_,rfl⟩
theorem d4v (hc:X.calm=true):b7y X (.builtin "min") (fun xs H Q=>∃ i j,xs=[.int i,.int j]∧Q (.int (if j < i then j else i)) H):=by
 intro pins s σ H xs us Q I r h
 obtain⟨i,j,rfl,q⟩:=h
 obtain⟨u,w',rfl,⟨t,rfl⟩,⟨t',rfl⟩⟩:=e1x r
 refine min_two_ints (I.ok.hd hc) fun h' tk k=>⟨_,H,I.kept k,?_,q⟩
 by_cases hj:j < i
 ·rw[if_pos hj,if_pos hj];exact⟨_,rfl⟩
 ·rw[if_neg hj,if_neg hj];exact⟨_,rfl⟩
def g1x (K:PySem.W.Frag) (x:V) (H:Hp) (n:Nat):Prop :=
 match x with
 | .str y=>y.length≤sizeLine∧n=y.length
 | .byt y=>y.size≤sizeLine∧n=y.size
 | .ref p=>(∃ xs,SqL K H p xs∧n=xs.length)∨∃ xs,SqT K H p xs∧n=xs.length
 | _=>False
theorem a2l:b7y X (.builtin "len") (fun xs H Q=>∃ x n,xs=[x]∧g1x X.K x H n∧Q (.int n) H):=by
 intro pins s σ H xs us Q I r h
 obtain⟨x,n,rfl,e,q⟩:=h
 obtain⟨u,rfl,rx⟩:=c6m r
 have hl:=e0o
 have hs:sizeLine=16777216:=sizeLine_eq
 cases x with
 | str y =>
  obtain⟨t,rfl⟩:=rx
  obtain⟨hy,e'⟩:y.length≤sizeLine∧n=y.length:=e
  subst e'
  exact len_str (by omega) ⟨.int _,H,I.tok _,⟨_,rfl⟩,q⟩
 | byt y =>
  obtain⟨t,rfl⟩:=rx
  obtain⟨hy,e'⟩:y.size≤sizeLine∧n=y.size:=e
  subst e'
  exact PySem.W.len_bytes (by omega) ⟨.int _,H,I.tok _,⟨_,rfl⟩,q⟩
 | ref p =>
  cases rx
  have e':(∃ xs,SqL X.K H p xs∧n=xs.length)∨∃ xs,SqT X.K H p xs∧n=xs.length:=e
  rcases e' with ⟨xs,hx,e'⟩ | ⟨xs,hx,e'⟩
  ·subst e'
   obtain⟨its,r',pl,hz⟩:=I.list hx
   have hlen:=r'.length
   exact Calls.call_len_list pl.isList (by simp only [List.size_toArray];omega) ⟨.int xs.length,H,I.tok _,⟨_,by simp only [List.size_toArray];rw[hlen]⟩,q⟩
  ·subst e'
   obtain⟨its,r',pl,hz⟩:=I.tuple hx
   have hlen:=r'.length
   exact len_tuple pl (by simp only [List.size_toArray];omega) ⟨.int xs.length,H,I.tok _,⟨_,by simp only [List.size_toArray];rw[hlen]⟩,q⟩
 | _=>exact(show False from e).elim
end
end L2
namespace L2
open PySem PySem.Spec PyProof.Rows
structure f2r (h:Heap) (x dx C:Addr) (mA:Str→Option Value):Prop where
 obj:h.get? x=some (PySem.W.instObj C dx)
 ns:h.Ns1 dx mA
 ne:dx≠x
theorem e4q {h:Heap} {dx:Addr} {mA:Str→Option Value} (n:h.Ns1 dx mA):∃ od,h.get? dx=some od∧∀ name,PySem.W.lookIn name od=some (mA name):=by
 obtain⟨o,es,ep,ho,hd,hk,_,hm⟩:=n
 refine⟨o,ho,fun name=>?_⟩
 have e:=hm name
 unfold nsFind findBy at e
 rw[←Array.find?_toList] at e
 unfold PySem.W.lookIn
 rw[hd]
 dsimp only
 split
 ·rename_i y q
  rw[q] at e
  exact congrArg some e
 ·rename_i q
  rw[q] at e
  have a:es.toList.any (·.refKey)=false:=by
   rw[List.any_eq_false]
   intro y hy
   obtain⟨z,t,hkey⟩:=hk y (Array.mem_toList_iff.mp hy)
   simp[DictEntry.refKey,hkey]
  have a':¬ es.toList.any (·.refKey)=true:=by rw[a];exact Bool.false_ne_true
  rw[if_neg a']
  exact congrArg some e
theorem f2r.look {h:Heap} {x dx C:Addr} {mA:Str→Option Value} (I:f2r h x dx C mA):∃ od,PySem.W.InstAt h x (PySem.W.instObj C dx) C (some od)∧∀ name,PySem.W.lookIn name od=some (mA name) :=
 let ⟨od,ho,hl⟩:=e4q I.ns
 ⟨od,⟨I.obj,rfl,rfl,ho⟩,hl⟩
section
variable {prog:Program} {w:World} {A:Around} {E:Value→Shared→Prop} {s:Shared} {K:PySem.W.Frag} {x dx C f:Addr} {mA:Str→Option Value} {name:Str} {v:Value}
theorem e6z {expr:Bool} {Q:Value→Shared→Prop} (X:K.In s.heap) (I:f2r s.heap x dx C mA) (hg:PySem.W.plainGet K C name=true) (hh:PySem.W.hasDictIn K C=true)
  (ha:PySem.W.findIn K (.ref C) name=some none) (hv:mA name=some v) (hv':PySem.W.handedIn v=true) (h:Q v {s with toks:=s.toks+1}) :
  wpAny (model prog w) A (getAttr (.ref x) name expr) Q E s:=by
 obtain⟨od,J,hl⟩:=I.look
 exact PySem.W.get_value X J (PySem.W.plainGet_of hg).1 (PySem.W.findObj_own hh ha rfl (by rw[hl,hv])) hv' h
theorem f1k {pl:Sem Bool} {Q:Value×List Value→Shared→Prop} (X:K.In s.heap) (I:f2r s.heap x dx C mA) (hg:PySem.W.plainGet K C name=true)
  (hf:PySem.W.findIn K (.ref C) name=some (some (.ref f))) (ht:PySem.W.isFn K (.ref f)=true) (hv:mA name=none) (h:Q (.ref f,[.ref x]) s) :
  wpAny (model prog w) A (getMethod (.ref x) name pl) Q E s:=by
 obtain⟨od,J,hl⟩:=I.look
 exact PySem.W.method_fn X J (PySem.W.plainGet_of hg).1 (PySem.W.plainGet_of hg).2 hf (beq_iff_eq.mp ht) (by show (PySem.W.lookIn name od).map (·.isSome)=some false;rw[hl,hv];rfl) h
theorem f3p {ns:List Str} {Q:Unit→Shared→Prop} (X:K.In s.heap) (I:f2r s.heap x dx C mA)
  (hs:PySem.W.findIn K (.ref C) "__setattr__"=some (some (.builtin "object.__setattr__"))) (hp:PySem.W.plainOver K C=true) (ht:PySem.W.takerIn K C name=some none) (hh:PySem.W.hasDictIn K C=true)
  (hw:PySem.Within mA ns) (hsz:ns.length≤sizeLine)
  (h:∀ h',f2r h' x dx C (fun y=>if y=name then some v else mA y)→Heap.SameBut dx s.heap h'→Q () {s with heap:=h',toks:=s.toks+2}) :
  wpAny (model prog w) A (setAttr (.ref x) name v) Q E s:=by
 obtain⟨od,J,hl⟩:=I.look
 refine PySem.W.set_plain X J hs (PySem.W.osa_open (s:={s with toks:=s.toks+1}) (r:=none) X J hp ht fun b=>?_)
 obtain⟨cd,hc,hd'⟩:=PySem.W.any_some hh
 have hx:s.heap.get? x=some ⟨.ref C,some dx,.plain,#[]⟩:=I.obj
 refine wpAny_bind (wpAny_pure (wpAny_bind (wpAny_bind (wpAny_loadPart hx (wpAny_bind (PySem.W.Looks.here (s:={s with toks:=s.toks+1}) (PySem.W.looks_clsIn X hc) ?_))))))
 rw[hd']
 refine wpAny_pure (a:=some dx) (wpAny_bind (wpAny_pure (wpAny_bind ?_)))
 refine wpAny_nsSet1 (s:={s with toks:=s.toks+1}) I.ns fun h' hn2 hs2=>?_
 obtain⟨oD,esD,epD,hoD,hdD,hcD⟩:=hn2.count (PySem.Within.cons name v hw)
 refine wpAny_bind (wpAny_lookBehind hoD (by rw[hdD];exact pastItsLine_dict (Nat.le_trans hcD (by rw[List.length_cons];omega))) ?_)
 exact wpAny_pure (h _ ⟨(hs2.2 _ (Ne.symm I.ne)).trans I.obj,hn2,I.ne⟩ hs2)
theorem e0h {R:Result→Shared→Prop} {vs:List Value} {kw:List (Str×Value)} (X:K.In s.heap) (hm:PySem.W.makesIn K C=true)
  (hi:PySem.W.findIn K (.ref C) "__init__"=some (some (.ref f))) (hf:PySem.W.typeIn K (.ref f)=some (.type "function"))
  (h:codeAny (model prog w) (A.under (.builtin "type.__call__" ⟨.ref C::vs,kw⟩)) (.call (.ref f) ⟨.ref (s.heap.objs.size+1)::vs,kw⟩) (PySem.W.InitBack (s.heap.objs.size+1) R)
   {s with heap:=(s.heap.push PySem.W.emptyDict).push (PySem.W.instObj C s.heap.objs.size)}) :
  codeAny (model prog w) A (.call (.ref C) ⟨vs,kw⟩) R s:=by
 obtain⟨hh,g,d,t,os⟩:=s
 exact PySem.W.make_core (PySem.W.makes_of X hm) (PySem.W.looks_findIn X hi) (fun self=>PySem.W.bind_fn X self hf) (.inl rfl) h
theorem e7d {R:Result→Shared→Prop} (X:K.In s.heap) (hm:PySem.W.makesIn K C=true)
  (hi:PySem.W.findIn K (.ref C) "__init__"=some (some (.builtin "object.__init__")))
  (hb:∀ self,PySem.W.Looks (model prog w) s.heap (bindSpecial (.builtin "object.__init__") self) (.builtin "object.__init__",[self]))
  (h:codeAny (model prog w) (A.under (.builtin "type.__call__" ⟨[.ref C],[]⟩)) (.call (.builtin "object.__init__") ⟨[.ref (s.heap.objs.size+1)],[]⟩) (PySem.W.InitBack (s.heap.objs.size+1) R)
   {s with heap:=(s.heap.push PySem.W.emptyDict).push (PySem.W.instObj C s.heap.objs.size)}) :
  codeAny (model prog w) A (.call (.ref C) ⟨[],[]⟩) R s:=by
 obtain⟨hh,g,d,t,os⟩:=s
 exact PySem.W.make_core (PySem.W.makes_of X hm) (PySem.W.looks_findIn X hi) hb (.inr ⟨rfl,rfl⟩) h
end
def c4u (f:Str) (v:V):List (Str×V)→List (Str×V)
 | []=>[(f,v)]
 | (g,x)::r=>if g=f then (g,v)::r else (g,x)::c4u f v r
theorem c8o (f g:Str) (v:V):∀ fs:List (Str×V),(c4u f v fs).lookup g=if g=f then some v else fs.lookup g
 | []=>by
  show List.lookup g [(f,v)]=_
  by_cases h:g=f
  ·have hb:(g == f)=true:=beq_iff_eq.mpr h
   simp only [List.lookup,hb,if_pos h]
  ·have hb:(g == f)=false:=beq_eq_false_iff_ne.mpr h
   simp only [List.lookup,hb,if_neg h]
 | (k,x)::r=>by
  have ih:=c8o f g v r
  rw[show c4u f v ((k,x)::r)=(if k=f then (k,v)::r else (k,x)::c4u f v r) from rfl]
  by_cases hk:k=f
  ·rw[if_pos hk]
   by_cases h:g=k
   ·have hb:(g == k)=true:=beq_iff_eq.mpr h
    simp only [List.lookup,hb,if_pos (h.trans hk)]
   ·have hb:(g == k)=false:=beq_eq_false_iff_ne.mpr h
    simp only [List.lookup,hb,if_neg (fun e:g=f=>h (e.trans hk.symm))]
  ·rw[if_neg hk]
   by_cases h:g=k
   ·have hb:(g == k)=true:=beq_iff_eq.mpr h
    simp only [List.lookup,hb,if_neg (fun e:g=f=>hk (h.symm.trans e))]
   ·have hb:(g == k)=false:=beq_eq_false_iff_ne.mpr h
    simp only [List.lookup,hb]
    exact ih
theorem c7w (f:Str) (v:V):∀ fs:List (Str×V),f∈(c4u f v fs).map (·.1)∧∀ g,g∈fs.map (·.1)→g∈(c4u f v fs).map (·.1)
 | []=>⟨by simp[c4u],fun g h=>by simp at h⟩
 | (k,x)::r=>by
  obtain⟨i1,i2⟩:=c7w f v r
  rw[show c4u f v ((k,x)::r)=(if k=f then (k,v)::r else (k,x)::c4u f v r) from rfl]
  by_cases hk:k=f
  ·rw[if_pos hk]
   subst hk
   exact⟨by simp,fun g h=>by simpa using h⟩
  ·rw[if_neg hk]
   refine⟨?_,fun g h=>?_⟩
   ·rw[List.map_cons]
    exact List.mem_cons_of_mem _ i1
   ·rw[List.map_cons] at h ⊢
    rcases List.mem_cons.mp h with e | e
    ·exact List.mem_cons.mpr (.inl e)
    ·exact List.mem_cons_of_mem _ (i2 g e)
theorem c7p (f:Str) (v:V):∀ fs:List (Str×V),(c4u f v fs).length≤fs.length+1
 | []=>by simp[c4u]
 | (k,x)::r=>by
  have ih:=c7p f v r
  rw[show c4u f v ((k,x)::r)=(if k=f then (k,v)::r else (k,x)::c4u f v r) from rfl]
  by_cases hk:k=f
  ·rw[if_pos hk,List.length_cons,List.length_cons];omega
  ·rw[if_neg hk,List.length_cons,List.length_cons];omega
theorem c5e.some_of {v:V} {o:Option Value} (r:c5e (some v) o):∃ u,o=some u∧a2u v u:=by
 cases o with
 | none=>exact(show False from r).elim
 | some u=>exact⟨u,rfl,r⟩
theorem c5e.none_of {o:Option Value} (r:c5e none o):o=none:=by
 cases o with
 | none=>rfl
 | some u=>exact(show False from r).elim
theorem d5z {v:V} {u:Value} (r:a2u v u):PySem.W.handedIn u=true:=by
 cases v with
 | non=>cases (show u=Value.none from r);rfl
 | bl b=>cases (show u=Value.bool b from r);rfl
 | int i=>obtain⟨t,e⟩:=(show ∃ t,u=Value.int i t from r);cases e;rfl
 | str x=>obtain⟨t,e⟩:=(show ∃ t,u=Value.str x t from r);cases e;rfl
 | byt b=>obtain⟨t,e⟩:=(show ∃ t,u=Value.bytes b t from r);cases e;rfl
 | flt b=>obtain⟨t,e⟩:=(show ∃ t,u=Value.float b t from r);cases e;rfl
 | ref a=>cases (show u=Value.ref a from r);rfl
 | ty n=>cases (show u=Value.type n from r);rfl
section
variable {P:Program} {w:World} {H H':Hp} {h h':Heap} {a C dx:Addr} {fs fs':List (Str×V)}
theorem c2n (hok:HOk P w H h) (e:H a=some (.ins C dx fs)):∃ mA,f2r h a dx C mA∧(∀ f,c5e (fs.lookup f) (mA f))∧PySem.Within mA (fs.map (·.1))∧fs.length≤1000∧H dx=some (.own a):=by
 obtain⟨d,z,ne,ob,mA,n,r,q⟩:=(show a2f P w H h a (.ins C dx fs) from hok a _ e)
 exact⟨mA,⟨ob,n,ne⟩,r,q,z,d⟩
end
structure Cls (K:PySem.W.Frag) (C:Addr):Prop where
 pg:PySem.W.plainGet K C Str.empty=true
 hd:PySem.W.hasDictIn K C=true
 po:PySem.W.plainOver K C=true
 sa:PySem.W.findIn K (.ref C) "__setattr__"=some (some (.builtin "object.__setattr__"))
theorem Cls.get {K:PySem.W.Frag} {C:Addr} (c:Cls K C) (f:Str):PySem.W.plainGet K C f=true:=c.pg
def a1w (K:PySem.W.Frag) (C:Addr) (f:Str):Prop:=PySem.W.findIn K (.ref C) f=some none
theorem a1w.taker {K:PySem.W.Frag} {C:Addr} {f:Str} (n:a1w K C f):PySem.W.takerIn K C f=some none:=by
 unfold PySem.W.takerIn
 rw[show PySem.W.findIn K (.ref C) f=some none from n]
 rfl
structure Con (K:PySem.W.Frag) (C:Addr) (f:Str) (v:V) (u:Value):Prop where
 at_:PySem.W.findIn K (.ref C) f=some (some u)
 rel:a2u v u
 get:PySem.W.specialIn K u "__get__"=some none
 cp:PySem.W.copiedNames.contains f=false
structure a6d (K:PySem.W.Frag) (C:Addr) (m:Str) (f:Addr):Prop where
 at_:PySem.W.findIn K (.ref C) m=some (some (.ref f))
 fn:PySem.W.isFn K (.ref f)=true
 kp:PySem.W.keepIn K (.ref f)=true
section
variable {X:Cx} {pins:List (Addr×Obj)} {σ:St} {H:Hp} {s:Shared} {a C dx:Addr} {fs:List (Str×V)} {f:Str} {v:V} {A:Around} {E:Value→Shared→Prop}
theorem d1c {b:Bool} {Q:Value→Shared→Prop} (I:Inv X pins σ H s) (e:H a=some (.ins C dx fs)) (c:Cls X.K C) (n:a1w X.K C f) (l:fs.lookup f=some v)
  (h:∀ u s',Inv X pins σ H s'→a2u v u→Q u s'):wpAny (model X.prog X.w) A (getAttr (.ref a) f b) Q E s:=by
 obtain⟨mA,O,r,_,_,_⟩:=c2n I.hok e
 obtain⟨u,hu,ru⟩:=c5e.some_of (v:=v) (o:=mA f) (by rw[←l];exact r f)
 exact e6z I.kIn O (c.get f) c.hd n hu (d5z ru) (h u _ (I.tok _) ru)
theorem b0y {m:Str} {g:Addr} {pl:Sem Bool} {Q:Value×List Value→Shared→Prop} (I:Inv X pins σ H s) (e:H a=some (.ins C dx fs)) (c:Cls X.K C) (k:a6d X.K C m g) (l:fs.lookup m=none)
  (h:Q (.ref g,[.ref a]) s):wpAny (model X.prog X.w) A (getMethod (.ref a) m pl) Q E s:=by
 obtain⟨mA,O,r,_,_,_⟩:=c2n I.hok e
 have hn:mA m=none:=c5e.none_of (by rw[←l];exact r m)
 exact f1k I.kIn O (c.get m) k.at_ k.fn hn h
theorem d2g {y:V} {u:Value} {Q:Unit→Shared→Prop} (I:Inv X pins σ H s) (e:H a=some (.ins C dx fs)) (c:Cls X.K C) (n:a1w X.K C f) (hl:fs.length < 1000) (ry:a2u y u)
  (h:∀ s',Inv X pins σ (upd H a (.ins C dx (c4u f y fs))) s'→Q () s'):wpAny (model X.prog X.w) A (setAttr (.ref a) f u) Q E s:=by
 obtain⟨mA,O,r,wi,_,ho⟩:=c2n I.hok e
 have hz:(fs.map (·.1)).length≤sizeLine:=by rw[List.length_map,sizeLine_eq];omega
 refine f3p I.kIn O c.sa c.po n.taker c.hd wi hz fun h' O' sb=>h _ ?_
 have hd:∃ o,h'.get? dx=some o:=let ⟨o,_,_,e',_⟩:=O'.ns;⟨o,e'⟩
 refine I.write (x:=a) (e:=dx) (by rw[e];exact True.intro) (.inr ho) (fun b q hb z=>(sb.2 b hb).trans z) hd ?_
 refine⟨by rw[a0d O.ne];exact ho,?_,O.ne,O'.obj,_,O'.ns,fun g=>?_,fun g hg=>?_⟩
 ·have:=c7p f y fs;omega
 ·show c5e ((c4u f y fs).lookup g) (if g=f then some u else mA g)
  rw[c8o]
  by_cases q:g=f
  ·rw[if_pos q,if_pos q];exact ry
  ·rw[if_neg q,if_neg q];exact r g
 ·by_cases q:g=f
  ·rw[q];exact(c7w f y fs).1
  ·refine(c7w f y fs).2 g (wi g fun z=>hg ?_)
   show (if g=f then some u else mA g)=none
   rw[if_neg q];exact z
theorem Inv.made (I:Inv X pins σ H s):Inv X pins σ (upd (upd H s.heap.objs.size (.own (s.heap.objs.size+1))) (s.heap.objs.size+1) (.ins C s.heap.objs.size []))
  {s with heap:=(s.heap.push PySem.W.emptyDict).push (PySem.W.instObj C s.heap.objs.size)}:=by
 have e1:(s.heap.push PySem.W.emptyDict).get? s.heap.objs.size=some PySem.W.emptyDict:=Heap.get?_push_size s.heap rfl
 have e2:((s.heap.push PySem.W.emptyDict).push (PySem.W.instObj C s.heap.objs.size)).get? (s.heap.objs.size+1)=some (PySem.W.instObj C s.heap.objs.size):=by
  have:=Heap.get?_push_size (s.heap.push PySem.W.emptyDict) (o:=PySem.W.instObj C s.heap.objs.size) rfl
  rwa [Heap.size_push] at this
 have e3:(s.heap.push PySem.W.emptyDict).Ns s.heap.objs.size (fun _=>none):=⟨PySem.W.emptyDict,#[],_,e1,rfl,(fun e he=>absurd he (by simp)),fun _=>rfl⟩
 have I1:=I.laid (a:=s.heap.objs.size) (o:=.own (s.heap.objs.size+1)) (h':=s.heap.push PySem.W.emptyDict) (t':=s.toks) (fun b u q=>Heap.get?_push_of_some _ q) (Nat.le_refl _) ⟨_,e1⟩
 refine I1.laid (a:=s.heap.objs.size+1) (o:=.ins C s.heap.objs.size []) (t':=s.toks) (fun b u q=>Heap.get?_push_of_some _ q) (Nat.le_of_eq (Heap.size_push _ _)) ?_
 have ne:s.heap.objs.size≠s.heap.objs.size+1:=Nat.ne_of_lt (Nat.lt_succ_self _)
 refine⟨by rw[a0d ne,a0b],Nat.zero_le _,ne,e2,fun _=>none,(Heap.Ns1.of_empty e3).at fun o q=>Heap.get?_push_of_some _ q,fun _=>True.intro,fun y hy=>absurd rfl hy⟩
theorem e5y {prog:Program} {w:World} {env:Env} {e:Expr} {f:Str} {pos:Pos} {s:Shared} {Q:Value→Shared→Prop} (hb:attributeBase e f env (eval e env)=eval e env)
  (h:wpAny (model prog w) A (eval e env) (fun o s₁=>wpAny (model prog w) A (getAttr o f true) Q E s₁) E s):wpAny (model prog w) A (eval (.Attribute e f pos) env) Q E s :=
 Attribute_any_ h (by rw[arm_eval_Attribute,hb])
end
def g0v (K:PySem.W.Frag) (ta:TE) (f:Str):TE:=fun σ H Q=>ta σ H fun x H1=>∃ a C dx fs v,x=.ref a∧H1 a=some (.ins C dx fs)∧Cls K C∧a1w K C f∧fs.lookup f=some v∧Q v H1
def g0s (K:PySem.W.Frag) (ta tv:TE) (f:Str):TS:=fun D σ H=>tv σ H fun y H1=>ta σ H1 fun x H2=>∃ a C dx fs,x=.ref a∧H2 a=some (.ins C dx fs)∧Cls K C∧a1w K C f∧fs.length < 1000 ∧
 D.nx σ (upd H2 a (.ins C dx (c4u f y fs)))
def g0w (X:Cx) (op:Operator) (rd:V→V→Hp→VK→Prop):Prop :=
 ∀ (pins:List (Addr×Obj)) (s:Shared) (σ:St) (H:Hp) (x y:V) (u v:Value) (Q:VK),Inv X pins σ H s→a2u x u→a2u y v→rd x y H Q→wpAny (model X.prog X.w) X.A (inplaceOp op u v) (EP X pins σ Q) X.xe s
def f3n (K:PySem.W.Frag) (ta tv:TE) (rd:V→V→Hp→VK→Prop) (f:Str):TS:=fun D σ H=>ta σ H fun x H1=>∃ a C dx fs v,x=.ref a∧H1 a=some (.ins C dx fs)∧Cls K C∧a1w K C f∧fs.lookup f=some v ∧
 tv σ H1 fun y H2=>rd v y H2 fun z H3=>∃ dx' fs',H3 a=some (.ins C dx' fs')∧fs'.length < 1000∧D.nx σ (upd H3 a (.ins C dx' (c4u f z fs')))
section
variable {X:Cx} {o e value:Expr} {f:Str} {pos pos' tpos:Pos} {ta tv:TE}
theorem f5z (he:PE X e ta) (hb:attributeBase e f X.env (eval e X.env)=eval e X.env):PE X (.Attribute e f pos) (g0v X.K ta f):=by
 constructor;intro pins s σ H Q I h
 refine e5y hb (thn (he pins s σ H _ I h) fun u s1 ⟨x,H1,I1,rx,a,C,dx,fs,v,ex,ea,c,n,l,q⟩=>?_)
 subst ex
 obtain rfl:u=Value.ref a:=rx
 exact d1c I1 ea c n l fun u' s2 I2 ru=>⟨v,H1,I2,ru,q⟩
theorem a2a (ha:PE X o ta) (hv:PE X value tv) (hs:swapsWith value (some (.Attribute o f pos')) pos.line X.env=pure false):PS X (.Assign [.Attribute o f pos'] value pos) (g0s X.K ta tv f):=by
 constructor;intro pins s σ H D I h
 refine plainObj_wpAny_Assign_Attribute (thn (hv pins s σ H _ I h) fun u s1 ⟨y,H1,I1,ry,q⟩=>thn (ha pins s1 σ H1 _ I1 q) fun ov s2 ⟨x,H2,I2,rx,a,C,dx,fs,ex,ea,c,n,l,q2⟩=>?_) hs
 subst ex
 obtain rfl:ov=Value.ref a:=rx
 exact d2g I2 ea c n l ry fun s3 I3=>⟨σ,_,I3,q2⟩
theorem e5k {op:Operator} {rd:V→V→Hp→VK→Prop} (ha:PE X o ta) (hv:PE X value tv) (hop:g0w X op rd):PS X (.AugAssign (.Attribute o f tpos) op value pos) (f3n X.K ta tv rd f):=by
 constructor;intro pins s σ H D I h
 refine wpAny_AugAssign_AttributeAny (thn (ha pins s σ H _ I h) fun ov s1 ⟨x,H1,I1,rx,a,C,dx,fs,v,ex,ea,c,n,l,q⟩=>?_)
 subst ex
 obtain rfl:ov=Value.ref a:=rx
 refine d1c I1 ea c n l fun u s2 I2 ru=>thn (hv pins s2 σ H1 _ I2 q) fun w3 s3 ⟨y,H2,I3,ry,q3⟩=>thn (hop pins s3 σ H2 v y u w3 _ I3 ru ry q3) fun w4 s4 ⟨z,H3,I4,rz,dx',fs',ea',l',q4⟩=>?_
 exact d2g I4 ea' c n l' rz fun s5 I5=>⟨σ,_,I5,q4⟩
def g1i:V→V→Hp→VK→Prop:=fun x y H Q=>∃ i j,x=.int i∧y=.int j∧Q (.int (i+j)) H
theorem f7f:g0w X .Add g1i:=by
 rintro pins s σ H x y u v Q I rx ry ⟨i,j,rfl,rfl,q⟩
 obtain⟨t,rfl⟩:=(show ∃ t,u=Value.int i t from rx)
 obtain⟨t',rfl⟩:=(show ∃ t',v=Value.int j t' from ry)
 exact PyProof.Rows.iadd_int ⟨.int (i+j),H,I.tok _,⟨_,rfl⟩,q⟩
end
section
variable {X:Cx} {pins:List (Addr×Obj)} {σ:St} {H:Hp} {s:Shared} {A:Around} {E:Value→Shared→Prop} {Q:Value→Shared→Prop} {c:Value} {b:Bool}
inductive d4y (K:PySem.W.Frag) (H:Hp):V→Value→Prop where
 | non:d4y K H .non (.type "NoneType")
 | bl (x:Bool):d4y K H (.bl x) (.type "bool")
 | int (i:Int):d4y K H (.int i) (.type "int")
 | str (x:Str):d4y K H (.str x) (.type "str")
 | flt (x:UInt64):d4y K H (.flt x) (.type "float")
 | lst {a:Addr} {xs:List V} (e:H a=some (.lst xs)):d4y K H (.ref a) (.type "list")
 | frz {a:Addr} {o:Obj} {xs:List V} (e:H a=some (.frz o (.lst xs))):d4y K H (.ref a) (.type "list")
 | tup {a:Addr} {xs:List V} (e:H a=some (.tup xs)):d4y K H (.ref a) (.type "tuple")
 | dK {a:Addr} {kvs:List (Key×V)} (e:H a=some (.dK kvs)):d4y K H (.ref a) (.type "dict")
 | dT {a:Addr} {kvs:List (List Key×V)} (e:H a=some (.dT kvs)):d4y K H (.ref a) (.type "dict")
 | ins {a C dx:Addr} {fs:List (Str×V)} (e:H a=some (.ins C dx fs)) (cl:Cls K C) (ha:PySem.W.findIn K (.ref C) "__class__"=some (some (.builtin "object.__class__")))
   (hn:PySem.W.specialIn K (.builtin "object.__class__") "__get__"=some (some (.builtin "getset_descriptor.__get__"))) (htk:PySem.W.takesIn K (.builtin "object.__class__")=some true)
   (hm:PySem.W.mroIn K C (.type "object")=some true):d4y K H (.ref a) (.ref C)
theorem e8k {x:V} {u t:Value} (I:Inv X pins σ H s) (rx:a2u x u) (ty:d4y X.K H x t) (e:PySem.W.kitOne X.K t c=some b) (h:∀ tk,Q (.bool b) {s with toks:=tk}) :
  wpAny (model X.prog X.w) A (call (.builtin "isinstance") [u,c]) Q E s:=by
 cases ty with
 | non=>cases (show u=Value.none from rx);exact PySem.W.kia_one PySem.W.kitx_none I.kIn True.intro e (fun z=>nomatch z) h
 | bl y=>cases (show u=Value.bool y from rx);exact PySem.W.kia_one PySem.W.kitx_bool I.kIn True.intro e (fun z=>nomatch z) h
 | int i=>obtain⟨t,q⟩:=(show ∃ t,u=Value.int i t from rx);cases q;exact PySem.W.kia_one PySem.W.kitx_int I.kIn True.intro e (fun z=>nomatch z) h
 | str y=>obtain⟨t,q⟩:=(show ∃ t,u=Value.str y t from rx);cases q;exact PySem.W.kia_one PySem.W.kitx_str I.kIn True.intro e (fun z=>nomatch z) h
 | flt y=>obtain⟨t,q⟩:=(show ∃ t,u=Value.float y t from rx);cases q;exact PySem.W.kia_one PySem.W.kitx_float I.kIn True.intro e (fun z=>nomatch z) h
 | @lst a xs ea =>
  cases (show u=Value.ref a from rx)
  obtain⟨_,_,n,_,h1⟩:=(show a2f X.prog X.w H s.heap a (.lst xs) from I.hok a _ ea)
  exact PySem.W.kia_one PySem.W.kitx_list I.kIn ⟨_,h1,rfl⟩ e (fun z=>nomatch z) h
 | @frz a ob xs ea =>
  cases (show u=Value.ref a from rx)
  obtain⟨_,_,_,n,_,h1⟩:=(show a2f X.prog X.w H s.heap a (.frz ob (.lst xs)) from I.hok a _ ea)
  exact PySem.W.kia_one PySem.W.kitx_list I.kIn ⟨_,h1,rfl⟩ e (fun z=>nomatch z) h
 | @tup a xs ea =>
  cases (show u=Value.ref a from rx)
  obtain⟨_,_,_,p⟩:=(show a2f X.prog X.w H s.heap a (.tup xs) from I.hok a _ ea)
  obtain⟨o,h1,h2,_⟩:=p
  exact PySem.W.kia_one PySem.W.kitx_tuple I.kIn ⟨o,h1,h2⟩ e (fun z=>nomatch z) h
 | @dK a kvs ea =>
  cases (show u=Value.ref a from rx)
  obtain⟨_,_,vs,_,p⟩:=(show a2f X.prog X.w H s.heap a (.dK kvs) from I.hok a _ ea)
  obtain⟨o,es,ep,h1,h2,_⟩:=p
  exact PySem.W.kia_one PySem.W.kitx_dict I.kIn ⟨o,h1,h2.1⟩ e (fun z=>nomatch z) h
 | @dT a kvs ea =>
  cases (show u=Value.ref a from rx)
  obtain⟨_,_,xs,_,o,es,ep,h1,h2,_⟩:=(show a2f X.prog X.w H s.heap a (.dT kvs) from I.hok a _ ea)
  exact PySem.W.kia_one PySem.W.kitx_dict I.kIn ⟨o,h1,h2.1⟩ e (fun z=>nomatch z) h
 | @ins a C dx fs ea cl ha hn htk hm =>
  cases (show u=Value.ref a from rx)
  obtain⟨mA,O,_⟩:=c2n I.hok ea
  obtain⟨od,J,_⟩:=O.look
  exact PySem.W.kia_one (PySem.W.kitx_own (cl.get _) cl.hd ha hn htk hm) I.kIn J e (fun z=>nomatch z) h
end
end L2
namespace L2
open PySem PySem.Spec PyProof.Rows
structure Room (k:Nat) (A:Around):Prop where
 hd:A.handled=none
 dp:A.depth+3*k+5 < recursionLimit
 un:A.units+16*k+200 < cLine
theorem Room.mono {j k:Nat} {A:Around} (r:Room k A) (h:j≤k):Room j A:=⟨r.hd,by have:=r.dp;omega,by have:=r.un;omega⟩
theorem Room.deeper {k:Nat} {A:Around} (r:Room (k+1) A) (env:Env):Room k (A.deeper env) :=
 ⟨r.hd,by have:=r.dp;show A.depth+1+3*k+5 < _;omega,by have:=r.un;show A.units+3+16*k+200 < _;omega⟩
theorem e2a {A:Around} {C:Addr} {us:List Value} {kw:List (Str×Value)}:(A.under (.builtin "type.__call__" ⟨.ref C::us,kw⟩)).depth=A.depth+1:=by
 first | rfl | simp[Around.under,Code.weight,Code.isCreation,Code.isGuard,Code.isCaller,Code.frames,Code.isFrame,guardIds]
theorem e2x {A:Around} {C:Addr} {us:List Value} {kw:List (Str×Value)}:(A.under (.builtin "type.__call__" ⟨.ref C::us,kw⟩)).units=A.units+1:=by
 first | rfl | simp[Around.under,Code.cUnits,Code.frames,Code.isFrame]
theorem Room.make {k:Nat} {A:Around} (r:Room (k+1) A) (C:Addr) (us:List Value) (kw:List (Str×Value)):Room k (A.under (.builtin "type.__call__" ⟨.ref C::us,kw⟩)) :=
 ⟨r.hd,by have:=r.dp;rw[e2a];omega,by have:=r.un;rw[e2x];omega⟩
theorem Room.depth {k:Nat} {A:Around} (r:Room k A):A.depth < recursionLimit:=by have:=r.dp;omega
theorem Room.units {k:Nat} {A:Around} (r:Room k A):A.units+64 < cLine:=by have:=r.un;omega
def f5f:TA:=fun _ H Q=>Q [] H
def f7r (ta:TE) (tr:TA):TA:=fun σ H Q=>ta σ H fun x H1=>tr σ H1 fun xs H2=>Q (x::xs) H2
section
variable {X:Cx} {e:Expr} {es:List Expr} {te:TE} {t:TA} {pos:Pos}
theorem a0f:PA X [] f5f:=⟨fun _ _ _ _ H Q I h=>Calls.spliced_nil ⟨[],H,I,.nil,h⟩⟩
theorem a0a (ha:PE X e te) (hr:PA X es t) (hs:starEach (e::es) X.env=(false,eval e X.env)::starEach es X.env:=by rfl):PA X (e::es) (f7r te t):=by
 constructor;intro pos pins s σ H Q I h
 rw[hs]
 show wpAny _ _ (spliced ((false,eval e X.env)::backTo pos (starEach es X.env))) _ _ s
 refine Calls.spliced_cons (thn (ha pins s σ H _ I h) fun u s1 ⟨x,H1,I1,r1,q1⟩=>?_)
 exact thn (hr pos pins s1 σ H1 _ I1 q1) fun us s2 ⟨xs,H2,I2,r2,q2⟩=>⟨x::xs,H2,I2,.cons r1 r2,q2⟩
def g1m (t:TA):TE:=fun σ H Q=>t σ H fun xs H1=>xs.length≤sizeLine∧∀ p,H1 p=none→Q (.ref p) (upd H1 p (.tup xs))
def g0n (t:TA):TE:=fun σ H Q=>t σ H fun xs H1=>xs.length≤sizeLine∧∀ p,H1 p=none→Q (.ref p) (upd H1 p (.lst xs))
theorem a8b {x1} (h:PA X es t):PE X (.Tuple es x1 pos) (g1m t):=by
 constructor;intro pins s σ H Q I hq
 refine wpAny_Tuple_spliced (thn (h pos pins s σ H _ I hq) fun us s1 ⟨xs,H1,I1,r,z,q⟩=>⟨by rw[←r.length];exact z,?_⟩)
 have hf:H1 s1.heap.objs.size=none:=I1.hok.fresh (Nat.le_refl _)
 refine⟨.ref s1.heap.objs.size,upd H1 s1.heap.objs.size (.tup xs),I1.laid (t':=s1.toks) (fun b u e=>Heap.get?_push_of_some _ e) (Nat.le_refl _) ?_,rfl,q _ hf⟩
 exact⟨z,us,r,⟨_,Heap.get?_push_size _ rfl,rfl,_,rfl⟩⟩
theorem a3k (h:PA X es t):PE X (.List es pos) (g0n t):=by
 constructor;intro pins s σ H Q I hq
 refine wpAny_List_spliced (thn (h pos pins s σ H _ I hq) fun us s1 ⟨xs,H1,I1,r,z,q⟩=>⟨by rw[←r.length];exact z,?_⟩)
 have hf:H1 s1.heap.objs.size=none:=I1.hok.fresh (Nat.le_refl _)
 refine⟨.ref s1.heap.objs.size,upd H1 s1.heap.objs.size (.lst xs),I1.laid (t':=s1.toks) (fun b u e=>Heap.get?_push_of_some _ e) (Nat.le_refl _) ?_,rfl,q _ hf⟩
 exact⟨z,us,0,r,Heap.get?_push_size _ rfl⟩
end
abbrev Sp:=List V→Hp→VK→XK→Prop
abbrev CXT:=List Env→Hp→Shared→XK→Value→Shared→Prop
structure e8o (P:Program) (w:World) (K:PySem.W.Frag) (mg:Str→Option Value) (base:Heap) (A:Around) (outer:List Env) (s:Shared) (H:Hp):Prop where
 frames:A.frames=some outer
 mod:Mod K mg base
 bs:∀ b o,base.get? b=some o→s.heap.get? b=some o∧H b=none
 bsz:base.objs.size≤s.heap.objs.size
 funs:s.heap.FunFrames base outer
 frf:∀ b∈frs outer,H b=none
 hok:HOk P w H s.heap
 bare:AllBare s.gens
def CE (outer:List Env) (P:Program) (w:World) (H:Hp) (s:Shared) (Q:VK) (u:Value) (s':Shared):Prop :=
 ∃ v H',s'.os=s.os∧AllBare s'.gens∧Un (frs outer) [] H H' s.heap s'.heap∧HOk P w H' s'.heap∧a2u v u∧Q v H'
def CR (CX:CXT) (outer:List Env) (P:Program) (w:World) (H:Hp) (s:Shared) (Q:VK) (E:XK) (r:Result) (s':Shared):Prop :=
 match r with
 | .ok (.ret u)=>CE outer P w H s Q u s'
 | .ok _=>False
 | .error e=>CX outer H s E e s'
structure a2j (P:Program) (w:World) (K:PySem.W.Frag) (mg:Str→Option Value) (base:Heap) (CX:CXT) (k:Nat) (f:Addr) (fd:FuncData) (ps:List Str) (sp:Sp):Prop where
 len:∀ vs H Q E,sp vs H Q E→vs.length=ps.length
 run:∀ (A:Around) (outer:List Env) (s:Shared) (H:Hp) (args:Args) (us:List Value) (vs:List V) (Q:VK) (E:XK),Room k A→e8o P w K mg base A outer s H→BindsTo s fd args (ps.zip us)→a3c vs us→sp vs H Q E →
  codeAny (model P w) A (.call (.ref f) args) (CR CX outer P w H s Q E) s
theorem a2j.mono {P:Program} {w:World} {K:PySem.W.Frag} {mg:Str→Option Value} {base:Heap} {CX:CXT} {j k:Nat} {f:Addr} {fd:FuncData} {ps:List Str} {sp:Sp} (F:a2j P w K mg base CX j f fd ps sp) (h:j≤k) :
  a2j P w K mg base CX k f fd ps sp:=⟨F.len,fun A outer s H args us vs Q E hr=>F.run A outer s H args us vs Q E (hr.mono h)⟩
theorem e8o.make {P:Program} {w:World} {K:PySem.W.Frag} {mg:Str→Option Value} {base:Heap} {A:Around} {outer:List Env} {s:Shared} {H:Hp} (e:e8o P w K mg base A outer s H) (C:Addr) (us:List Value) (kw:List (Str×Value)) :
  e8o P w K mg base (A.under (.builtin "type.__call__" ⟨.ref C::us,kw⟩)) outer s H:=⟨by first | exact e.frames | (simpa [Around.under,Code.envs,Code.isFrame,pushEnvs] using e.frames),e.mod,e.bs,e.bsz,e.funs,e.frf,e.hok,e.bare⟩
section
variable {X:Cx} {pins:List (Addr×Obj)} {σ:St} {H:Hp} {s s':Shared}
theorem Inv.env0 (I:Inv X pins σ H s):e8o X.prog X.w X.K X.mg X.base X.A X.stack s H :=
 ⟨I.ok.frames,I.ok.mod,I.bs,Nat.le_trans I.ok.bsz I.sz,I.stack,I.stkFree,I.hok,I.bare⟩
theorem Inv.after {Q:VK} {u:Value} (I:Inv X pins σ H s) (h:CE X.stack X.prog X.w H s Q u s'):EP X pins σ Q u s':=by
 obtain⟨v,H',os,bare,un,hok,r,q⟩:=h
 obtain⟨hh,g,d,t,os'⟩:=s'
 obtain rfl:os'=s.os:=os
 exact⟨v,H',I.call (h':=hh) (g':=g) (d':=d) (t':=t) (ch:=[]) un hok bare (fun b z=>absurd z (by simp)),r,q⟩
end
def f9z (sp:Sp) (dvs:List V) (E:XK) (t:TA):TE:=fun σ H Q=>t σ H fun vs H1=>sp (vs++dvs) H1 Q E
def f6j (C:Addr) (m:Str) (sp:Sp) (dvs:List V) (E:XK) (ta:TE) (t:TA):TE:=fun σ H Q=>ta σ H fun x H1=>∃ a dx fs,x=.ref a∧H1 a=some (.ins C dx fs)∧fs.lookup m=none ∧
 t σ H1 fun vs H2=>sp (x::(vs++dvs)) H2 Q E
def f8e (C:Addr) (sp:Sp) (dvs:List V) (E:XK) (t:TA):TE:=fun σ H Q=>t σ H fun vs H1=>∀ x dx,H1 x=none→H1 dx=none→dx≠x →
 sp (.ref x::(vs++dvs)) (upd (upd H1 dx (.own x)) x (.ins C dx [])) (fun v H2=>v=.non∧Q (.ref x) H2) E
def a0x (K:PySem.W.Frag) (fd:FuncData) (ps:List Str) (ds:List Value):Prop :=
 ∀ (s:Shared) (us:List Value),K.In s.heap→(us++ds).length=ps.length→BindsTo s fd ⟨us,[]⟩ (ps.zip (us++ds))
theorem a0x.all {K:PySem.W.Frag} {fd:FuncData} {ps:List Str} (h:∀ us:List Value,us.length=ps.length→bindArgs fd ⟨us,[]⟩=pure (ps.zip us)):a0x K fd ps []:=fun s us _ hl=>by
 rw[List.append_nil] at hl ⊢
 exact .of_eq (h us hl)
def b3z (CX:CXT) (X:Cx) (E:XK):Prop:=∀ (pins:List (Addr×Obj)) (σ:St) (H:Hp) (s:Shared) (e:Value) (s':Shared),Inv X pins σ H s→CX X.stack H s E e s'→X.xe e s'
section
variable {X:Cx} {CX:CXT} {k:Nat} {f C:Addr} {fd:FuncData} {ps:List Str} {sp:Sp} {dvs:List V} {ds:List Value} {E:XK} {x m:Str} {p pos apos:Pos} {e o:Expr} {es:List Expr} {ta:TE} {t:TA}
theorem d7m {pins:List (Addr×Obj)} {σ:St} {H:Hp} {s:Shared} {Q:VK} {us:List Value} {vs:List V} (F:a2j X.prog X.w X.K X.mg X.base CX k f fd ps sp) (hr:Room k X.A) (hb:a0x X.K fd ps ds) (hd:a3c dvs ds) (hx:b3z CX X E)
  (I:Inv X pins σ H s) (r:a3c vs us) (h:sp (vs++dvs) H Q E):wpAny (model X.prog X.w) X.A (call (.ref f) us) (EP X pins σ Q) X.xe s:=by
 have r2:a3c (vs++dvs) (us++ds):=r.append hd
 have hl:(us++ds).length=ps.length:=by rw[←r2.length];exact F.len _ _ _ _ h
 refine wpAny_call (codeAny_mono (F.run X.A X.stack s H ⟨us,[]⟩ (us++ds) (vs++dvs) Q E hr I.env0 (hb s us I.kIn hl) r2 h) fun r s' hq=>?_)
 cases r with
 | error e=>exact hx pins σ H s e s' I hq
 | ok fl =>
  cases fl with
  | ret u=>exact I.after hq
  | next=>exact False.elim hq
  | brk=>exact False.elim hq
  | cont=>exact False.elim hq
theorem a1b (F:a2j X.prog X.w X.K X.mg X.base CX k f fd ps sp) (hr:Room k X.A) (hg:Gl X x) (hm:X.mg x=some (.ref f)) (hk:PySem.W.keepIn X.K (.ref f)=true) (hb:a0x X.K fd ps ds) (hd:a3c dvs ds) (hx:b3z CX X E)
  (ha:PA X (e::es) t) (hdb:(x == ("__debug__":Str))=false:=by decide) (he:starEach (e::es) X.env=(false,eval e X.env)::starEach es X.env:=by rfl) (hpl:(backTo pos (starEach es X.env)).any (·.1)=false:=by rfl) :
  PE X (.Call (.Name x p) (e::es) [] pos) (f9z sp dvs E t):=by
 constructor;intro pins s σ H Q I h
 refine wpAny_Call_Name_kw (b3u I hg hm ?_ hdb)
 refine PySem.W.callWith_K (h₀:=X.base) I.ok.mod.kin hk (thn (ha pos pins s σ H _ I h) fun us s1 ⟨vs,H1,I1,r,q⟩=>⟨I1.kIn,?_⟩) he hpl
 exact d7m F hr hb hd hx I1 r q
theorem a1q {pl:Sem Bool} (he:PE X o ta) (c:Cls X.K C) (hm:a6d X.K C m f) (F:a2j X.prog X.w X.K X.mg X.base CX k f fd ps sp) (hr:Room k X.A) (hb:a0x X.K fd ps ds) (hd:a3c dvs ds) (hx:b3z CX X E) (ha:PA X (e::es) t)
  (hst:starEach (e::es) X.env=(false,eval e X.env)::starEach es X.env:=by rfl) (hpl:(backTo pos (starEach es X.env)).any (·.1)=false:=by rfl)
  (ht:eval (.Call (.Attribute o m apos) (e::es) [] pos) X.env=(do
   let ov ← eval o X.env
   standAt apos.atName
   let (f,first) ← holding [ov] (getMethod ov m pl)
   callWith pos f first (backTo pos (starEach (e::es) X.env)) (backToKw pos (keywordEach [] X.env))):=by rfl) :
  PE X (.Call (.Attribute o m apos) (e::es) [] pos) (f6j C m sp dvs E ta t):=by
 constructor;intro pins s σ H Q I h
 refine PySem.W.methodCall_KW (pl:=pl) (thn (he pins s σ H _ I h) fun u s1 ⟨x,H1,I1,rx,a,dx,fs,ex,ea,l,q⟩=>?_) ht
 subst ex
 obtain rfl:u=Value.ref a:=rx
 refine b0y I1 ea c hm l ?_
 refine PySem.W.callWith_K (first:=[.ref a]) (h₀:=X.base) I.ok.mod.kin hm.kp (thn (ha pos pins s1 σ H1 _ I1 q) fun us s2 ⟨vs,H2,I2,r,q2⟩=>⟨I2.kIn,?_⟩) hst hpl
 exact d7m (us:=.ref a::us) (vs:=.ref a::vs) F hr hb hd hx I2 (.cons rfl r) q2
theorem a9w {pl:Sem Bool} (he:PE X o ta) (c:Cls X.K C) (hm:a6d X.K C m f) (F:a2j X.prog X.w X.K X.mg X.base CX k f fd ps sp) (hr:Room k X.A) (hb:a0x X.K fd ps ds) (hd:a3c dvs ds) (hx:b3z CX X E)
  (ht:eval (.Call (.Attribute o m apos) [] [] pos) X.env=(do
   let ov ← eval o X.env
   standAt apos.atName
   let (f,first) ← holding [ov] (getMethod ov m pl)
   callWith pos f first (backTo pos (starEach [] X.env)) (backToKw pos (keywordEach [] X.env))):=by rfl) :
  PE X (.Call (.Attribute o m apos) [] [] pos) (f6j C m sp dvs E ta f5f):=by
 constructor;intro pins s σ H Q I h
 refine PySem.W.methodCall_KW (pl:=pl) (thn (he pins s σ H _ I h) fun u s1 ⟨x,H1,I1,rx,a,dx,fs,ex,ea,l,q⟩=>?_) ht
 subst ex
 obtain rfl:u=Value.ref a:=rx
 refine b0y I1 ea c hm l ?_
 exact PySem.W.callWith_K0 (first:=[.ref a]) I1.kIn hm.kp (d7m (us:=[.ref a]) (vs:=[.ref a]) F hr hb hd hx I1 (.cons rfl .nil) q)
structure Mk (K:PySem.W.Frag) (C f:Addr):Prop where
 makes:PySem.W.makesIn K C=true
 init:PySem.W.findIn K (.ref C) "__init__"=some (some (.ref f))
 fn:PySem.W.isFn K (.ref f)=true
 kp:PySem.W.keepIn K (.ref C)=true
theorem e0q {pins:List (Addr×Obj)} {σ:St} {H:Hp} {s:Shared} {Q:VK} {us:List Value} {vs:List V} (M:Mk X.K C f) (F:a2j X.prog X.w X.K X.mg X.base CX k f fd ps sp) (hr:Room (k+1) X.A) (hb:a0x X.K fd ps ds) (hd:a3c dvs ds)
  (hx:b3z CX X E) (I:Inv X pins σ H s) (r:a3c vs us)
  (h:∀ x dx,H x=none→H dx=none→dx≠x→sp (.ref x::(vs++dvs)) (upd (upd H dx (.own x)) x (.ins C dx [])) (fun v H2=>v=.non∧Q (.ref x) H2) E) :
  wpAny (model X.prog X.w) X.A (call (.ref C) us) (EP X pins σ Q) X.xe s:=by
 have hq:=h (s.heap.objs.size+1) s.heap.objs.size (I.hok.fresh (Nat.le_succ _)) (I.hok.fresh (Nat.le_refl _)) (Nat.ne_of_lt (Nat.lt_succ_self _))
 have I2:=Inv.made (C:=C) I
 have r2:a3c (V.ref (s.heap.objs.size+1)::(vs++dvs)) (Value.ref (s.heap.objs.size+1)::(us++ds)):=.cons rfl (r.append hd)
 have hl:(Value.ref (s.heap.objs.size+1)::us++ds).length=ps.length:=by
  have e:=r2.length
  rw[F.len _ _ _ _ hq] at e
  exact e.symm
 refine wpAny_call (e0h (f:=f) I.kIn M.makes M.init (beq_iff_eq.mp M.fn) (codeAny_mono (F.run _ X.stack _ _ ⟨Value.ref (s.heap.objs.size+1)::us,[]⟩ (Value.ref (s.heap.objs.size+1)::(us++ds)) _ _ E (hr.make C us [])
  (I2.env0.make C us []) (hb _ (Value.ref (s.heap.objs.size+1)::us) I2.kIn hl) r2 hq) fun r s' hq'=>?_))
 cases r with
 | error e=>exact hx pins σ _ _ e s' I2 hq'
 | ok fl =>
  cases fl with
  | ret u =>
   obtain⟨v,H',I3,rv,ev,q3⟩:=I2.after hq'
   subst ev
   exact⟨rv,⟨V.ref (s.heap.objs.size+1),H',I3,rfl,q3⟩⟩
  | next=>exact False.elim hq'
  | brk=>exact False.elim hq'
  | cont=>exact False.elim hq'
theorem d4b (M:Mk X.K C f) (F:a2j X.prog X.w X.K X.mg X.base CX k f fd ps sp) (hr:Room (k+1) X.A) (hg:Gl X x) (hm:X.mg x=some (.ref C)) (hb:a0x X.K fd ps ds) (hd:a3c dvs ds) (hx:b3z CX X E)
  (ha:PA X (e::es) t) (hdb:(x == ("__debug__":Str))=false:=by decide) (he:starEach (e::es) X.env=(false,eval e X.env)::starEach es X.env:=by rfl) (hpl:(backTo pos (starEach es X.env)).any (·.1)=false:=by rfl) :
  PE X (.Call (.Name x p) (e::es) [] pos) (f8e C sp dvs E t):=by
 constructor;intro pins s σ H Q I h
 refine wpAny_Call_Name_kw (b3u I hg hm ?_ hdb)
 refine PySem.W.callWith_K (h₀:=X.base) I.ok.mod.kin M.kp (thn (ha pos pins s σ H _ I h) fun us s1 ⟨vs,H1,I1,r,q⟩=>⟨I1.kIn,?_⟩) he hpl
 exact e0q M F hr hb hd hx I1 r q
theorem f1d (M:Mk X.K C f) (F:a2j X.prog X.w X.K X.mg X.base CX k f fd ps sp) (hr:Room (k+1) X.A) (hg:Gl X x) (hm:X.mg x=some (.ref C)) (hb:a0x X.K fd ps ds) (hd:a3c dvs ds) (hx:b3z CX X E)
  (hdb:(x == ("__debug__":Str))=false:=by decide):PE X (.Call (.Name x p) [] [] pos) (f8e C sp dvs E f5f):=by
 constructor;intro pins s σ H Q I h
 refine wpAny_Call_Name_kw (b3u I hg hm ?_ hdb)
 exact PySem.W.callWith_K0 I.kIn M.kp (e0q (us:=[]) M F hr hb hd hx I .nil h)
end
structure PK (X:Cx) (kws:List Keyword) (t:TA):Prop where
 run:∀ (pos:Pos) (pins:List (Addr×Obj)) (s:Shared) (σ:St) (H:Hp) (Q:List V→Hp→Prop),Inv X pins σ H s→t σ H Q→wpAny (model X.prog X.w) X.A (evalAll ((backToKw pos (keywordEach kws X.env)).map (·.2))) (AP X pins σ Q) X.xe s
instance {X:Cx} {kws:List Keyword} {t:TA}:CoeFun (PK X kws t) fun _=>∀ (pos:Pos) (pins:List (Addr×Obj)) (s:Shared) (σ:St) (H:Hp) (Q:List V→Hp→Prop),Inv X pins σ H s→t σ H Q→wpAny (model X.prog X.w) X.A (evalAll ((backToKw pos (keywordEach kws X.env)).map (·.2))) (AP X pins σ Q) X.xe s:=⟨PK.run⟩
section
variable {X:Cx} {CX:CXT} {k:Nat} {f C:Addr} {fd:FuncData} {ps ks:List Str} {sp:Sp} {E:XK} {x m:Str} {p pos apos kpos:Pos} {e o:Expr} {es:List Expr} {kws:List Keyword} {te ta:TE} {t tk:TA} {nm:Option Str}
theorem f6y:PK X [] f5f:=⟨fun _ _ _ _ H Q I h=>wpAny_evalAll_nil ⟨[],H,I,.nil,h⟩⟩
theorem f4m (ha:PE X e te) (hr:PK X kws t):PK X (⟨nm,e,kpos⟩::kws) (f7r te t):=by
 constructor;intro pos pins s σ H Q I h
 show wpAny _ _ (evalAll ((do let v ← eval e X.env;standAt pos;pure v)::(backToKw pos (keywordEach kws X.env)).map (·.2))) _ _ s
 refine wpAny_evalAll_cons (wpAny_bind (thn (ha pins s σ H _ I h) fun u s1 ⟨x,H1,I1,r1,q1⟩=>wpAny_bind (wpAny_standAt (wpAny_pure ?_))))
 exact thn (hr pos pins s1 σ H1 _ I1 q1) fun us s2 ⟨xs,H2,I2,r2,q2⟩=>⟨x::xs,H2,I2,.cons r1 r2,q2⟩
variable {g:List Value→List Value→List Value} {gV:List V→List V→List V}
end
structure a0o (N P:List Str) (sc:Scope):Prop where
 kind:sc.kind=.function
 co:sc.isCoroutine=false
 gen:sc.isGenerator=false
 nd:N.Nodup
 pre:N.take P.length=P
 par:∀ x∈P,sc.names.lookup x=some .local∨sc.names.lookup x=some .cell
 nofree:∀ y∈sc.names,y.2≠.free
theorem d7e {kindOf:Str→Option NameKind} {x:Str}:∀ {binds:List (Str×Value)} {m:Str→Option Value},(∀ v,(x,v) ∉ binds)→bindL kindOf binds m x=m x
 | [],_,_=>rfl
 | (n,v)::r,m,h=>by
  unfold bindL
  rw[d7e fun w hw=>h w (List.mem_cons_of_mem _ hw)]
  split
  ·have:x≠n:=by rintro rfl;exact h v List.mem_cons_self
   simp[this]
  ·rfl
theorem d5c {kindOf:Str→Option NameKind} {x:Str}:∀ {binds:List (Str×Value)} {m:Str→Option Value},(∀ v,(x,v) ∉ binds)→bindC kindOf binds m x=m x
 | [],_,_=>rfl
 | (n,v)::r,m,h=>by
  unfold bindC
  rw[d5c fun w hw=>h w (List.mem_cons_of_mem _ hw)]
  split
  ·rfl
  ·have:x≠n:=by rintro rfl;exact h v List.mem_cons_self
   simp[this]
theorem d6t {kindOf:Str→Option NameKind} {x:Str} {v:Value}:∀ {P:List Str} {vs:List Value} {i:Nat} {m:Str→Option Value},P.Nodup→P[i]?=some x→vs[i]?=some v→kindOf x=some .local →
  bindL kindOf (P.zip vs) m x=some v
 | [],_,_,_,_,h,_,_=>by simp at h
 | _::_,[],_,_,_,_,h,_=>by simp at h
 | p::P,w::vs,0,m,nd,h1,h2,hk=>by
  simp at h1 h2;subst h1;subst h2
  show bindL kindOf ((p,w)::P.zip vs) m p=_
  unfold bindL
  rw[d7e fun v hv=>(List.nodup_cons.mp nd).1 (List.of_mem_zip hv).1,if_pos hk]
  simp
 | p::P,w::vs,i+1,m,nd,h1,h2,hk=>by
  show bindL kindOf ((p,w)::P.zip vs) m x=_
  unfold bindL
  exact d6t (i:=i) (List.nodup_cons.mp nd).2 (by simpa using h1) (by simpa using h2) hk
theorem d5b {kindOf:Str→Option NameKind} {x:Str} {v:Value}:∀ {P:List Str} {vs:List Value} {i:Nat} {m:Str→Option Value},P.Nodup→P[i]?=some x→vs[i]?=some v→kindOf x≠some .local →
  bindC kindOf (P.zip vs) m x=some v
 | [],_,_,_,_,h,_,_=>by simp at h
 | _::_,[],_,_,_,_,h,_=>by simp at h
 | p::P,w::vs,0,m,nd,h1,h2,hk=>by
  simp at h1 h2;subst h1;subst h2
  show bindC kindOf ((p,w)::P.zip vs) m p=_
  unfold bindC
  rw[d5c fun v hv=>(List.nodup_cons.mp nd).1 (List.of_mem_zip hv).1,if_neg hk]
  simp
 | p::P,w::vs,i+1,m,nd,h1,h2,hk=>by
  show bindC kindOf ((p,w)::P.zip vs) m x=_
  unfold bindC
  exact d5b (i:=i) (List.nodup_cons.mp nd).2 (by simpa using h1) (by simpa using h2) hk
def start (N:List Str) (vs:List V):St:=vs.map some++List.replicate (N.length - vs.length) none
def c4q (CX:CXT) (P:Program) (w:World) (K:PySem.W.Frag) (mg:Str→Option Value) (base:Heap) (N:List Str) (qual:Str) (scope:Scope) (f:Addr) (cd:Value) (A:Around) (outer:List Env) (s:Shared) (H:Hp) (E:XK):Cx where
 prog:=P
 w:=w
 K:=K
 mg:=mg
 base:=base
 A:=A.deeper (envOfC qual scope s.heap.objs.size f cd)
 N:=N
 s₀:=s
 H₀:=H
 env:=envOfC qual scope s.heap.objs.size f cd
 outer:=outer
 stack:=envOfC qual scope s.heap.objs.size f cd::outer
 ex:=[]
 calm:=true
 fn:=fun _=>true
 pn:=[]
 xe:=fun e s'=>wpAny (model P w) (A.deeper (envOfC qual scope s.heap.objs.size f cd)) (leaving (envOfC qual scope s.heap.objs.size f cd) e) (fun _ s''=>CX outer H s E e s'') (fun e' s''=>CX outer H s E e' s'') s'
theorem e0e {sc:Scope} {n:Nat} {x:Str} (h:sc.names.lookup x=some .cell):∃ c,(cellsFrom n sc.names []).lookup x=some c:=by
 have q:=PySem.W.cellsFrom_some sc.names n [] (.inl h)
 exact Option.isSome_iff_exists.mp q
theorem d7f {CX:CXT} {P:Program} {w:World} {K:PySem.W.Frag} {mg:Str→Option Value} {base:Heap} {N ps:List Str} {qual:Str} {scope:Scope} {f:Addr} {cd:Value} {A:Around} {outer:List Env} {s s1:Shared} {H:Hp} {E:XK} {us:List Value} {vs:List V}
  (S:a0o N ps scope) (hd:A.handled=none) (e0:e8o P w K mg base A outer s H) (hl:vs.length=ps.length) (r:a3c vs us)
  (x:InCallC s s.heap.objs.size (bindL (envOfC qual scope s.heap.objs.size f cd).kindOf (ps.zip us) fun _=>none) (cellsFrom (s.heap.objs.size+1) scope.names []) (bindC (envOfC qual scope s.heap.objs.size f cd).kindOf (ps.zip us) fun _=>none) s1) :
  Inv (c4q CX P w K mg base N qual scope f cd A outer s H E) [] (start N vs) H s1:=by
 have hpl:ps.length≤N.length:=by have:=congrArg List.length S.pre;rw[List.length_take] at this;omega
 obtain⟨h1,tk,rfl,hk⟩:=x.done
 have noA:∀ b:Addr,b ∉ (c4q CX P w K mg base N qual scope f cd A outer s H E).ex:=fun b z=>absurd (show b∈([]:List Addr) from z) (by simp)
 refine⟨⟨e0.mod,S.kind,rfl,rfl,Nat.le_refl _,fun y z c h1 h2=>?_,fun y hy=>?_,fun y c _ h=>?_,fun _=>hd,Around.frames_deeper e0.frames,.inr ⟨rfl,rfl⟩,fun b z=>absurd z (noA b),e0.bs,e0.bsz,fun b _ _=>noA b,fun b z=>absurd z (noA b),e0.funs,e0.frf⟩,
  rfl,e0.bare,Un.kept hk,⟨_,x.toInCall.ns,fun i y v h1 h2 h3=>?_⟩,fun y c h=>⟨_,x.cell y c h⟩,e0.hok.fresh (Nat.le_refl _),fun y c h=>?_,fun p hp=>absurd (show p∈([]:List (Addr×Obj)) from hp) (by simp),e0.hok.kept hk,?_⟩
 ·exact name_of_addr x.apart (PySem.mem_of_lookup h1) (PySem.mem_of_lookup h2)
 ·have hy:scope.names.lookup y=some .cell∨scope.names.lookup y=some .free:=hy
  rcases hy with hy | hy
  ·exact e0e hy
  ·exact absurd rfl (S.nofree _ (PySem.mem_of_lookup hy))
 ·exact Nat.le_of_lt (x.above y c (PySem.mem_of_lookup h))
 ·have hi:i < vs.length:=by
   unfold start at h2
   by_cases hi:i < vs.length
   ·exact hi
   ·rw[List.getElem?_append_right (by simpa using hi)] at h2
    rw[List.getElem?_replicate] at h2
    split at h2<;>cases h2
  have ha:vs[i]?=some v:=by
   unfold start at h2
   rw[List.getElem?_append_left (by simpa using hi),List.getElem?_map] at h2
   cases e:vs[i]? with
   | none=>rw[e] at h2;cases h2
   | some a=>rw[e] at h2;cases h2;rfl
  obtain⟨u,hu,rv⟩:=r.get ha
  have hp:ps[i]?=some y:=by
   rw[←S.pre,List.getElem?_take_of_lt (by omega)];exact h1
  have ndP:ps.Nodup:=by rw[←S.pre];exact S.nd.sublist (List.take_sublist _ _)
  refine⟨u,rv,?_⟩
  rcases S.par y (List.mem_of_getElem? hp) with k | k
  ·exact .inl ⟨k,d6t ndP hp hu k⟩
  ·obtain⟨c,e⟩:=e0e (n:=s.heap.objs.size+1) k
   refine .inr ⟨.inl k,c,e,?_⟩
   have q:=x.cell y c e
   rw[d5b ndP hp hu (by show scope.names.lookup y≠_;rw[k];decide)] at q
   exact q
 ·exact e0.hok.fresh (Nat.le_of_lt (x.above y c (PySem.mem_of_lookup h)))
 ·unfold start
  show _=N.length
  rw[List.length_append,List.length_map,List.length_replicate]
  omega
theorem f3h {CX:CXT} {P:Program} {w:World} {K:PySem.W.Frag} {mg:Str→Option Value} {base:Heap} {k:Nat} {f:Addr} {name qual:Str} {params:Arguments} {body:List Stmt} {scope:Scope} {dV kV doc pm cdv ct oc:Value} {an od:Option Addr}
  {osl:Array (Option Value)} {N ps:List Str} {sp:Sp} (lk:K.lookup f=some ⟨oc,od,.func (PySem.W.fnOf name qual params body scope dV kV doc pm an cdv ct),osl⟩) (hcd:PySem.W.codeIn K cdv qual=true) (S:a0o N ps scope)
  (len:∀ vs H Q E,sp vs H Q E→vs.length=ps.length)
  (hbody:∀ (A:Around) (outer:List Env) (s:Shared) (H:Hp) (vs:List V) (Q:VK) (E:XK),Room k (A.deeper (envOfC qual scope s.heap.objs.size f cdv))→sp vs H Q E →
   ∃ t,PSs (c4q CX P w K mg base N qual scope f cdv A outer s H E) body t∧t {nx:=fun _ H'=>Q .non H',rt:=Q} (start N vs) H) :
  a2j P w K mg base CX (k+1) f (PySem.W.fnOf name qual params body scope dV kV doc pm an cdv ct) ps sp:=by
 refine⟨len,fun A outer s H args us vs Q E hr e0 hb r hsp=>?_⟩
 have hl:=len _ _ _ _ hsp
 have KX:K.In s.heap:=e0.mod.kin.keeps fun b o e=>(e0.bs b o e).1
 have lim:s.heap.NoLimit:=e0.mod.nolimit.keeps fun b o e=>(e0.bs b o e).1
 have hkind:∀ y∈ps.zip us,scope.names.lookup y.1=some .local∨(scope.names.lookup y.1=some .cell∧((cellsFrom (s.heap.objs.size+1) scope.names []).lookup y.1).isSome=true):=fun ⟨n,v⟩ hy=>by
  rcases S.par n (List.of_mem_zip hy).1 with q | q
  ·exact .inl q
  ·exact .inr ⟨q,PySem.W.cellsFrom_some _ _ _ (.inl q)⟩
 refine codeAny_call_function hr.depth (KX _ _ lk) rfl S.co S.gen rfl (PySem.W.codeRec_of KX hcd) (hb _ _ _ _ ?_)
 refine wpAny_newFunctionEnv_cells S.kind hkind fun env he s1 x=>?_
 subst he
 refine⟨lim.keeps x.toInCall.keep,codeAny_func ?_⟩
 obtain⟨t,ht,hq⟩:=hbody A outer s H vs Q E (hr.deeper _) hsp
 have I:Inv (c4q CX P w K mg base N qual scope f cdv A outer s H E) [] (start N vs) H s1:=d7f S hr.hd e0 hl r x
 refine wpAny_mono (ht [] s1 (start N vs) H _ I hq) (fun fl s' hs=>?_) fun e s' hs=>hs
 have fin:∀ {σ':St} {H':Hp} {v:V} {u:Value},Inv (c4q CX P w K mg base N qual scope f cdv A outer s H E) [] σ' H' s'→a2u v u→Q v H'→CE outer P w H s Q u s' :=
  fun {σ' H' v u} J rv q=>⟨v,H',J.os,J.bare,J.base,J.hok,rv,q⟩
 cases fl with
 | ret u =>
  obtain⟨v,σ',H',J,rv,q⟩:=hs
  exact fin J rv q
 | next =>
  obtain⟨σ',H',J,q⟩:=hs
  exact fin (v:=V.non) (u:=Value.none) J rfl q
 | brk =>
  obtain⟨_,_,_,q⟩:=hs
  exact False.elim q
 | cont =>
  obtain⟨_,_,_,q⟩:=hs
  exact False.elim q
end L2
namespace L2
open PySem PySem.Spec PyProof.Rows
section
variable {X:Cx} {x:Str} {p pos:Pos} {e:Expr} {es:List Expr} {t:TA} {id T:String} {r:List V→Hp→VK→Prop}
def tCB (r:List V→Hp→VK→Prop) (t:TA):TE:=fun σ H Q=>t σ H fun vs H1=>r vs H1 Q
theorem a0t (hc:b7y X (.builtin id) r) (hg:Gl X x) (hm:X.mg x=none) (hv:bootBuiltins x=some (.builtin id)) (ha:PA X (e::es) t) (hn:x≠"__name__":=by decide) (hdb:(x == ("__debug__":Str))=false:=by decide)
  (he:starEach (e::es) X.env=(false,eval e X.env)::starEach es X.env:=by rfl) (hpl:(backTo pos (starEach es X.env)).any (·.1)=false:=by rfl):PE X (.Call (.Name x p) (e::es) [] pos) (tCB r t):=by
 constructor;intro pins s σ H Q I h
 refine wpAny_Call_Name_kw (c9z I hg hm hv ?_ hn hdb)
 exact PyProof.Rows.callWith_builtin1 (thn (ha pos pins s σ H _ I h) fun us s1 ⟨vs,H1,I1,r1,q1⟩=>hc pins s1 σ H1 vs us Q I1 r1 q1) he hpl
theorem a7s (hc:b7y X (.type T) r) (hg:Gl X x) (hm:X.mg x=none) (hv:bootBuiltins x=some (.type T)) (ha:PA X (e::es) t) (hn:x≠"__name__":=by decide) (hdb:(x == ("__debug__":Str))=false:=by decide)
  (he:starEach (e::es) X.env=(false,eval e X.env)::starEach es X.env:=by rfl) (hpl:(backTo pos (starEach es X.env)).any (·.1)=false:=by rfl):PE X (.Call (.Name x p) (e::es) [] pos) (tCB r t):=by
 constructor;intro pins s σ H Q I h
 refine wpAny_Call_Name_kw (c9z I hg hm hv ?_ hn hdb)
 exact PyProof.Rows.callWith_type1 (thn (ha pos pins s σ H _ I h) fun us s1 ⟨vs,H1,I1,r1,q1⟩=>hc pins s1 σ H1 vs us Q I1 r1 q1) he hpl
end
end L2
namespace HT
open PySem PyProof.Rows
def lexLt:List Int→List Int→Bool
 | [],[]=>false
 | [],_::_=>true
 | _::_,[]=>false
 | x::xs,y::ys=>if x=y then lexLt xs ys else decide (x < y)
theorem lexLt_cons (x y:Int) (xs ys:List Int):lexLt (x::xs) (y::ys)=if x=y then lexLt xs ys else decide (x < y):=rfl
theorem lexLt_nil_nil:lexLt [] []=false:=rfl
theorem d0n (y:Int) (ys:List Int):lexLt [] (y::ys)=true:=rfl
theorem d0f (x:Int) (xs:List Int):lexLt (x::xs) []=false:=rfl
theorem f0u (A:Around) (s:Shared) (a:Int) (t:Tok) (c:Int) (u:Tok):∃ e,SeqAt.EqAt A s (.int a t) (.int c u) e∧(e=true ↔ a=c) :=
 ⟨(a == c),SeqAt.EqAt.int_int a t c u,by simp⟩
theorem f0a (A:Around) (s:Shared) (a:Int) (t:Tok) (c:Int) (u:Tok) (prog:Program) (w:World) (E:Value→Shared→Prop) (Q:Value→Shared→Prop) (h:Q (.bool (decide (a < c))) s) :
  wpAny (model prog w) A (richCompare .Lt (.int a t) (.int c u)) Q E s :=
 (PyProof.Rows.lt_int h:wpAny (model prog w) A (compareOp .Lt (.int a t) (.int c u)) Q E s)
section
open PySem.SeqAt
open PySem.AutoSeq1 (wpAny_loadPart')
open PySem.MeetsSeq PySem.MeetsSeq2 PySem.MeetsSeq3
theorem d4f (l b:Addr) (items items2:Array Value) (n n2:Nat) (dd dd2:Option Addr) (sl sl2:Array (Option Value)) (ns ms:List Int) (hi:IntsAre items.toList ns) (hj:IntsAre items2.toList ms) :
  Meets (Builtin.«tuple.__lt__» ⟨[.ref l,.ref b],[]⟩)
   (fun _ R s=>s.heap.get? l=some {cls:=.type "tuple",dict:=dd,data:=.seq items n,slots:=sl}∧s.heap.get? b=some {cls:=.type "tuple",dict:=dd2,data:=.seq items2 n2,slots:=sl2} ∧
    R (.ok (.ret (.bool (lexLt ns ms)))) s) :=
 .of_wp fun prog w A R s h=>by
  obtain⟨hp,g,d,tk,os⟩:=s;obtain⟨hl,hb,h⟩:=h
  have f2:=AutoSeq1.sub_tuple_tuple
  have z1:items.size=ns.length:=by rw[←hi.length];simp
  have z2:items2.size=ms.length:=by rw[←hj.length];simp
  wp_walk using wpAny_loadPart' hl,wpAny_loadPart' hb,wpAny_forIn_list _ (fun rest b s'=>b.1=none∧s'=⟨hp,g,d,tk,os⟩∧∃ (vs ws:List Value) (ns' ms':List Int),rest=vs.zip ws ∧
   IntsAre vs ns'∧IntsAre ws ms'∧ns'.length+items2.size=ms'.length+items.size∧R (.ok (.ret (.bool (lexLt ns' ms')))) ⟨hp,g,d,tk,os⟩) _
  case turn =>
   rintro⟨y,x⟩ rest b s' ⟨hb',rfl,vs,ws,ns',ms',hz,hvi,hwi,hlen,hR⟩
   cases hvi with
   | nil=>rw[List.zip_nil_left] at hz;cases hz
   | cons a t hvi' =>
    cases hwi with
    | nil=>rw[List.zip_nil_right] at hz;cases hz
    | cons c u hwi' =>
     rw[List.zip_cons_cons] at hz
     injection hz with hyx hrest
     injection hyx with hy hx
     subst hy hx
     rw[lexLt_cons] at hR
     simp only [List.length_cons] at hlen
     obtain⟨e,he,hiff⟩:=f0u A.in1 ⟨hp,g,d,tk,os⟩ a t c u
     refine wpAny_bind (he prog w _ _ ?_)
     cases e with
     | true =>
      rw[if_pos (hiff.mp rfl)] at hR
      wp_walk
      exact⟨rfl,rfl,_,_,_,_,hrest,hvi',hwi',by omega,hR⟩
     | false =>
      rw[if_neg (fun q=>absurd (hiff.mpr q) Bool.false_ne_true)] at hR
      have hri:=f0a A.in1 ⟨hp,g,d,tk,os⟩ a t c u prog w
      wp_walk using hri
      exact⟨_,rfl,by simpa using hR⟩
  case fin =>
   rintro⟨b1,b2⟩ s' ⟨hb',rfl,vs,ws,ns',ms',hz,hvi,hwi,hlen,hR⟩
   simp only at hb'
   subst hb'
   have hv:lexLt ns' ms'=decide (items.size < items2.size):=by
    cases hvi with
    | nil =>
     cases hwi with
     | nil =>
      simp only [List.length_nil] at hlen
      rw[lexLt_nil_nil]
      exact(decide_eq_false (by omega)).symm
     | cons c u hw =>
      simp only [List.length_nil,List.length_cons] at hlen
      rw[d0n]
      exact(decide_eq_true (by omega)).symm
    | cons a t hv =>
     cases hwi with
     | nil =>
      simp only [List.length_nil,List.length_cons] at hlen
      rw[d0f]
      exact(decide_eq_false (by omega)).symm
     | cons c u hw =>
      rw[List.zip_cons_cons] at hz
      cases hz
   rw[hv] at hR
   wp_walk
   exact⟨_,rfl,by simpa [Builtin.Tuple.tupleCompareSizes] using hR⟩
  case h =>
   exact⟨rfl,rfl,items.toList,items2.toList,ns,ms,rfl,hi,hj,by omega,h⟩
end
section
variable {prog:Program} {w:World} {A:Around} {E:Value→Shared→Prop} {s:Shared}
theorem lt_tupInts {l b:Addr} {items items2:Array Value} {ns ms:List Int} {Q:Value→Shared→Prop} (hl:IsTup s.heap l items) (hb:IsTup s.heap b items2) (hi:IntsAre items.toList ns) (hj:IntsAre items2.toList ms)
  (hu:A.units < cLine) (h:Q (.bool (lexLt ns ms)) s):wpAny (model prog w) A (compareOp .Lt (.ref l) (.ref b)) Q E s:=by
 obtain⟨⟨cls,dd,data,sl⟩,ho,hc,n,hd⟩:=id hl
 obtain⟨⟨cls2,dd2,data2,sl2⟩,ho2,hc2,n2,hd2⟩:=id hb
 simp only at hc hd hc2 hd2
 subst hc hd hc2 hd2
 exact richCompare_meets_room (op:=.Lt) ⟨_,ho,rfl⟩ ⟨_,ho2,rfl⟩ PySem.F.slot_tuple_lt PySem.F.entry_tuple_lt (PySem.F.args_tuple_lt_2 _ _) (d4f l b items items2 n n2 dd dd2 sl sl2 ns ms hi hj)
  ⟨ho,ho2,show Value.bool (lexLt ns ms)≠Value.notImplemented∧Q (.bool (lexLt ns ms)) s from ⟨(fun x=>nomatch x),h⟩⟩ hu
theorem cat_tup {t b:Addr} {vs ws:List Value} {Q:Value→Shared→Prop} (ht:IsTup s.heap t vs.toArray) (hb:IsTup s.heap b ws.toArray) (hv:vs≠[])
  (h1:ws=[]→Q (.ref t) s) (h2:ws≠[]→Q (.ref s.heap.objs.size) {s with heap:=s.heap.push {cls:=.type "tuple",data:=.seq (vs++ws).toArray}})
  (hsz:vs.length+ws.length≤sizeLine):wpAny (model prog w) A (binaryOp .Add (.ref t) (.ref b)) Q E s:=by
 obtain⟨⟨cls,dd,data,sl⟩,ho,hc,n,hd⟩:=id ht
 obtain⟨⟨cls2,dd2,data2,sl2⟩,ho2,hc2,n2,hd2⟩:=id hb
 simp only at hc hd hc2 hd2
 subst hc hd hc2 hd2
 have e:vs.toArray++ws.toArray=(vs++ws).toArray:=by simp
 by_cases hw:ws=[]
 ·exact concat_meets ⟨_,ho,rfl⟩ ⟨_,ho2,rfl⟩ noFill_tuple_add seq_tuple_add PySem.F.slot_tuple_add PySem.F.entry_tuple_add (PySem.F.args_tuple_add_2 _ _)
   (tuple_addW1 t b vs.toArray ws.toArray n n2 dd dd2 sl sl2 (by simpa using hv) (by simp[hw])) ⟨ho,ho2,h1 hw⟩
 ·refine concat_meets ⟨_,ho,rfl⟩ ⟨_,ho2,rfl⟩ noFill_tuple_add seq_tuple_add PySem.F.slot_tuple_add PySem.F.entry_tuple_add (PySem.F.args_tuple_add_2 _ _)
   (tuple_addW2 t b vs.toArray ws.toArray n n2 dd dd2 sl sl2 (by simpa using hv) (by simpa using hw) (by rw[List.size_toArray,List.size_toArray];exact hsz)) ⟨ho,ho2,?_⟩
  rw[e]
  exact h2 hw
def sIx (n d:Nat):Option Int→Nat
 | none=>d
 | some v=>if v < 0 then (v+(n:Int)).toNat else min v.toNat n
theorem sIx_none (n d:Nat):sIx n d none=d:=rfl
theorem sIx_nat (n d k:Nat):sIx n d (some (k:Int))=min k n:=by
 show (if (k:Int) < 0 then ((k:Int)+(n:Int)).toNat else min (k:Int).toNat n)=min k n
 rw[if_neg (by omega),Int.toNat_natCast]
end
end HT
namespace L2
open PySem PySem.Spec PyProof.Rows
abbrev TO:=St→Hp→(Option Int→Hp→Prop)→Prop
structure PO (X:Cx) (e:Option Expr) (t:TO):Prop where
 run:∀ (pins:List (Addr×Obj)) (s:Shared) (σ:St) (H:Hp) (Q:Option Int→Hp→Prop),Inv X pins σ H s→t σ H Q →
  wpAny (model X.prog X.w) X.A (evalPart e X.env) (fun u s'=>∃ o H',Inv X pins σ H' s'∧IsPart u o∧Q o H') X.xe s
instance {X:Cx} {e:Option Expr} {t:TO}:CoeFun (PO X e t) fun _=>∀ (pins:List (Addr×Obj)) (s:Shared) (σ:St) (H:Hp) (Q:Option Int→Hp→Prop),Inv X pins σ H s→t σ H Q →
  wpAny (model X.prog X.w) X.A (evalPart e X.env) (fun u s'=>∃ o H',Inv X pins σ H' s'∧IsPart u o∧Q o H') X.xe s:=⟨PO.run⟩
def f4f:TO:=fun _ H Q=>Q none H
def f9j (t:TE):TO:=fun σ H Q=>t σ H fun x H1=>∃ i,x=.int i∧Q (some i) H1
theorem intsAre_of {ns:List Int}:∀ {us:List Value},a3c (ns.map V.int) us→IntsAre us ns:=by
 induction ns with
 | nil=>intro us r;rw[List.map_nil] at r;cases r;exact .nil
 | cons n ns ih =>
  intro us r
  rw[List.map_cons] at r
  cases r with
  | cons r1 r2 =>
   obtain⟨t,e⟩:=r1
   subst e
   exact .cons n t (ih r2)
section
variable {X:Cx} {e:Expr} {te:TE} {lo hi:Option Expr} {tl th:TO} {pos p2:Pos}
theorem c2p:PO X none f4f:=by
 constructor;intro pins s σ H Q I h
 rw[evalPart_none]
 exact wpAny_pure ⟨none,H,I,.none,h⟩
theorem b4s (h:PE X e te):PO X (some e) (f9j te):=by
 constructor;intro pins s σ H Q I hw
 rw[evalPart_some]
 refine thn (h pins s σ H _ I hw) fun u s1 ⟨x,H1,I1,r1,q1⟩=>?_
 obtain⟨i,rfl,q⟩:=q1
 obtain⟨t,rfl⟩:=r1
 exact⟨some i,H1,I1,.int i t,q⟩
def SlR (X:Cx) (r:V→Option Int→Option Int→Hp→VK→Prop):Prop :=
 ∀ (pins:List (Addr×Obj)) (s:Shared) (σ:St) (H:Hp) (x:V) (v vl vu:Value) (lo hi:Option Int) (sl:Addr) (Q:VK),Inv X pins σ H s→a2u x v→s.heap.IsSliceOf sl vl vu .none→IsPart vl lo→IsPart vu hi→r x lo hi H Q →
  ∃ T id,typeLookup (.type T) "__getitem__"=pure (some (.builtin id))∧s.TypeIs v T∧wpAny (model X.prog X.w) X.A (getItem v (.ref sl)) (EP X pins σ Q) X.xe s
def tSl (r:V→Option Int→Option Int→Hp→VK→Prop) (te:TE) (tl th:TO):TE:=fun σ H Q=>te σ H fun x H1=>tl σ H1 fun l H2=>th σ H2 fun u H3=>r x l u H3 Q
theorem b2c {r:V→Option Int→Option Int→Hp→VK→Prop} (hr:SlR X r) (he:PE X e te) (hl:PO X lo tl) (hu:PO X hi th):PE X (.Subscript e (.Slice lo hi none p2) pos) (tSl r te tl th):=by
 constructor;intro pins s σ H Q I h
 refine Subscript_ (thn (he pins s σ H _ I h) fun v s1 ⟨x,H1,I1,r1,q1⟩=>?_)
 refine wpAny_Slice (thn (hl pins s1 σ H1 _ I1 q1) fun vl s2 ⟨l,H2,I2,pl,q2⟩=>thn (hu pins s2 σ H2 _ I2 q2) fun vu s3 ⟨u,H3,I3,pu,q3⟩=>?_)
 rw[evalPart_none]
 refine wpAny_pure ?_
 have I4:Inv X pins σ H3 {s3 with heap:=s3.heap.push {cls:=.type "slice",data:=.fields #[vl,vu,.none]}}:=I3.kept (t':=s3.toks) fun b ob q=>Heap.get?_push_of_some _ q
 obtain⟨T,id,hT,ht,hg⟩:=hr pins {s3 with heap:=s3.heap.push {cls:=.type "slice",data:=.fields #[vl,vu,.none]}} σ H3 x v vl vu l u s3.heap.objs.size Q I4 r1 (Heap.IsSliceOf.new ..) pl pu q3
 show wpAny (model X.prog X.w) X.A (subscriptTail e (.Slice lo hi none p2) v (.ref s3.heap.objs.size)) (EP X pins σ Q) X.xe {s3 with heap:=s3.heap.push {cls:=.type "slice",data:=.fields #[vl,vu,.none]}}
 exact tail_any (ops:=[.ref s3.heap.objs.size,v]) ht hT hg (by with_unfolding_all rfl)
def e0n (xs:List V) (lo hi:Option Int):List V:=(xs.drop (HT.sIx xs.length 0 lo)).take (HT.sIx xs.length xs.length hi - HT.sIx xs.length 0 lo)
theorem d9x (xs:List V) (lo hi:Option Int):(e0n xs lo hi).length≤xs.length:=by
 unfold e0n
 rw[List.length_take,List.length_drop]
 omega
def f9t (K:PySem.W.Frag):R2:=fun x y H Q=>∃ a b xs ys,x=.ref a∧y=.ref b∧SqT K H a xs∧SqT K H b ys∧xs≠[]∧xs.length+ys.length≤sizeLine ∧
 (ys=[]→Q (.ref a) H)∧(ys≠[]→∀ p,H p=none→Q (.ref p) (upd H p (.tup (xs++ys))))
theorem a3c.nil_iff {xs:List V} {us:List Value} (r:a3c xs us):us=[] ↔ xs=[]:=by
 cases r with
 | nil=>simp
 | cons _ _=>simp
theorem f3b:OpR X (binaryOp .Add) (f9t X.K):=by
 intro pins s σ H x y v u Q I rx ry h
 obtain⟨a,b,xs,ys,rfl,rfl,ha,hb,hx,hz,q1,q2⟩:=h
 cases rx
 cases ry
 obtain⟨its,r1,p1,_⟩:=I.tuple ha
 obtain⟨its2,r2,p2,_⟩:=I.tuple hb
 refine HT.cat_tup p1 p2 (fun z=>hx (r1.nil_iff.mp z)) (fun z=>⟨.ref a,H,I,rfl,q1 (r2.nil_iff.mp z)⟩) (fun z=>?_) (by rw[←r1.length,←r2.length];exact hz)
 refine⟨.ref s.heap.objs.size,_,I.laid (t':=s.toks) (o:=.tup (xs++ys)) (fun b ob q=>Heap.get?_push_of_some _ q) (Nat.le_refl _) ?_,rfl,q2 (fun w=>z (r2.nil_iff.mpr w)) _ (I.hok.fresh (Nat.le_refl _))⟩
 exact⟨by rw[List.length_append];exact hz,_,r1.append r2,IsTup.new _ _⟩
end
end L2
namespace L2
open PySem PySem.Spec PyProof.Rows
def ixN (n:Nat) (i:Int):Option Nat:=if 0≤i then (if i < n then some i.toNat else none) else if -(n:Int)≤i then some (i+n).toNat else none
def atI {α:Type} (xs:List α) (i:Int):Option α:=(ixN xs.length i).bind fun j=>xs[j]?
theorem e3x {n:Nat} {i:Int} {j:Nat} (h:ixN n i=some j):seqIndex? i n=some j∧j < n∧-(n:Int)≤i∧i < n:=by
 unfold ixN at h
 by_cases h0:0≤i
 ·rw[if_pos h0] at h
  by_cases h1:i < n
  ·rw[if_pos h1] at h
   have e:i.toNat=j:=Option.some.inj h
   exact⟨by rw[seqIndex_of h0 h1,e],by omega,by omega,h1⟩
  ·rw[if_neg h1] at h;cases h
 ·rw[if_neg h0] at h
  by_cases h1:-(n:Int)≤i
  ·rw[if_pos h1] at h
   have e:(i+n).toNat=j:=Option.some.inj h
   exact⟨by rw[seqIndex_neg (by omega) h1,e],by omega,h1,by omega⟩
  ·rw[if_neg h1] at h;cases h
theorem d9q {α:Type} {xs:List α} {i:Int} {v:α} (h:atI xs i=some v):∃ j,seqIndex? i xs.length=some j∧xs[j]?=some v∧j < xs.length∧-(xs.length:Int)≤i∧i < xs.length:=by
 unfold atI at h
 cases e:ixN xs.length i with
 | none=>rw[e] at h;cases h
 | some j =>
  rw[e] at h
  obtain⟨h1,h2,h3,h4⟩:=e3x e
  exact⟨j,h1,h,h2,h3,h4⟩
theorem a0z {α:Type} {xs:List α} {j:Nat} {v:α} (h:xs[j]?=some v):atI xs (j:Int)=some v:=by
 have hj:j < xs.length:=(List.getElem?_eq_some_iff.mp h).1
 have e:ixN xs.length (j:Int)=some j:=by
  unfold ixN
  rw[if_pos (by omega),if_pos (by omega)];simp
 unfold atI;rw[e];exact h
def f2t (b:Expr):Prop:=∀ o i,subscripted b false o i=operate [o,i] (getItem o i)
def IxR (X:Cx) (r:R2):Prop :=
 ∀ (value slice:Expr) (pins:List (Addr×Obj)) (s:Shared) (σ:St) (H:Hp) (x y:V) (v u:Value) (Q:VK),Inv X pins σ H s→a2u x v→a2u y u→r x y H Q →
  subscripted slice false v u=operate [v,u] (getItem v u)→wpAny (model X.prog X.w) X.A (subscriptTail value slice v u) (EP X pins σ Q) X.xe s
def MtR (X:Cx) (id:String) (r:V→List V→Hp→VK→Prop):Prop :=
 ∀ (pins:List (Addr×Obj)) (s:Shared) (σ:St) (H:Hp) (x:V) (xs:List V) (v:Value) (us:List Value) (Q:VK),Inv X pins σ H s→a2u x v→a3c xs us→r x xs H Q →
  wpAny (model X.prog X.w) X.A (call (.builtin id) (v::us)) (EP X pins σ Q) X.xe s
section
variable {X:Cx} {a b:Expr} {ta tb:TE} {pos:Pos}
theorem a2z {r:R2} (hr:IxR X r) (ha:PE X a ta) (hb:PE X b tb) (hs:f2t b):PE X (.Subscript a b pos) (tOp r ta tb):=by
 constructor;intro pins s σ H Q I h
 exact Subscript_ (f9i ha hb I h fun v u s2 x y H2 I2 rx ry q=>hr a b pins s2 σ H2 x y v u Q I2 rx ry q (hs _ _))
def g1f (K:PySem.W.Frag):R2:=fun x y H Q=>∃ p xs i v,x=.ref p∧y=.int i∧SqL K H p xs∧atI xs i=some v∧Q v H
def g0y (K:PySem.W.Frag):R2:=fun x y H Q=>∃ p xs i v,x=.ref p∧y=.int i∧SqT K H p xs∧atI xs i=some v∧Q v H
theorem a5v:IxR X (g1f X.K):=by
 intro value slice pins s σ H x y v u Q I rx ry h hs
 obtain⟨p,xs,i,z,rfl,rfl,hq,he,q⟩:=h
 cases rx
 obtain⟨t,rfl⟩:=ry
 obtain⟨its,r,pl,hz⟩:=I.list hq
 obtain⟨j,h1,h2,h3,h4,h5⟩:=d9q he
 obtain⟨w,ew,rw'⟩:=r.get h2
 have hl:=r.length
 have hn:=e0o
 have fin:EP X pins σ Q w s:=⟨z,H,I,rw',q⟩
 by_cases h0:0≤i
 ·have hj:i.toNat=j:=by
   rw[seqIndex_of h0 h5] at h1
   exact Option.some.inj h1
  exact item_listR pl.isList h0 (by omega) (by rw[hj];simpa using ew) fin hs
 ·have hj:(i+(its.toArray.size:Int)).toNat=j:=by
   rw[seqIndex_neg (by omega) h4] at h1
   rw[List.size_toArray,←hl]
   exact Option.some.inj h1
  exact subscriptTail_builtinR (x:=w) pl.isList.typeIs slot_list_getitem.lookup
   (wpAny_getItem_list_neg (Q:=fun r s'=>r=w∧EP X pins σ Q r s') pl.isList (by omega) (by rw[List.size_toArray]<;>omega) (by omega) (by rw[hj];simpa using ew) ⟨rfl,fin⟩) hs
theorem a3j:IxR X (g0y X.K):=by
 intro value slice pins s σ H x y v u Q I rx ry h hs
 obtain⟨p,xs,i,z,rfl,rfl,hq,he,q⟩:=h
 cases rx
 obtain⟨t,rfl⟩:=ry
 obtain⟨its,r,pl,hz⟩:=I.tuple hq
 obtain⟨j,h1,h2,h3,h4,h5⟩:=d9q he
 obtain⟨w,ew,rw'⟩:=r.get h2
 have hl:=r.length
 have hn:=e0o
 have fin:EP X pins σ Q w s:=⟨z,H,I,rw',q⟩
 exact subscriptTail_builtinR (x:=w) pl.typeIs slot_tuple_getitem.lookup
  (getItem_tuple (j:=j) (Q:=fun r s'=>r=w∧EP X pins σ Q r s') pl (by omega) (by omega) (by rw[List.size_toArray,←hl];exact h1) (by simpa using ew) ⟨rfl,fin⟩) hs
theorem e2u (its:List Value) (n j:Nat) (u:Value):Obj.mapSeq (·.setIfInBounds j u) {cls:=.type "list",data:=.seq its.toArray n}={cls:=.type "list",data:=.seq (its.set j u).toArray n}:=by
 simp[Obj.mapSeq]
theorem Inv.lst {pins:List (Addr×Obj)} {σ:St} {H:Hp} {s:Shared} {p:Addr} {xs:List V} (I:Inv X pins σ H s) (h:H p=some (.lst xs)) :
  ∃ (its:List Value) (n:Nat),a3c xs its∧s.heap.get? p=some {cls:=.type "list",data:=.seq its.toArray n}∧xs.length≤sizeLine:=by
 obtain⟨z,its,n,r,e⟩:=I.hok p _ h
 exact⟨its,n,r,e,z⟩
theorem Inv.lstUpd {pins:List (Addr×Obj)} {σ:St} {H:Hp} {s:Shared} {p:Addr} {xs ys:List V} {its its':List Value} {n n':Nat} {f:Obj→Obj} (I:Inv X pins σ H s) (h:H p=some (.lst xs))
  (ho:s.heap.get? p=some {cls:=.type "list",data:=.seq its.toArray n}) (hf:f {cls:=.type "list",data:=.seq its.toArray n}={cls:=.type "list",data:=.seq its'.toArray n'}) (r:a3c ys its') (hz:ys.length≤sizeLine) (t:Nat) :
  Inv X pins σ (upd H p (.lst ys)) {s with heap:=s.heap.update p f,toks:=t}:=by
 have e:(s.heap.update p f).get? p=some {cls:=.type "list",data:=.seq its'.toArray n'}:=by
  rw[Heap.get?_update_self f ho (by rw[hf]<;>rfl),hf]
 refine I.write (x:=p) (e:=p) (by rw[h];trivial) (.inl rfl) (fun b u hb q=>(Heap.get?_update_other _ _ (Ne.symm hb)).trans q) ⟨_,e⟩ ?_
 exact⟨hz,its',n',r,e⟩
def f8t:V→V→V→Hp→(Hp→Prop)→Prop:=fun o i v H Q=>∃ p xs k j,o=.ref p∧i=.int k∧H p=some (.lst xs)∧ixN xs.length k=some j∧Q (upd H p (.lst (xs.set j v)))
theorem f0w:f8m X f8t:=by
 intro pins s σ H o i v ov iv u Q I ro ri rv h
 obtain⟨p,xs,k,j,rfl,rfl,hp,hj,q⟩:=h
 cases ro
 obtain⟨t,rfl⟩:=ri
 obtain⟨its,n,r,ho,hz⟩:=I.lst hp
 obtain⟨h1,h2,h3,h4⟩:=e3x hj
 have hl:=r.length
 have hn:=e0o
 have I':Inv X pins σ (upd H p (.lst (xs.set j v))) {s with heap:=s.heap.update p (Obj.mapSeq (·.setIfInBounds j u))} :=
  I.lstUpd hp ho (e2u its n j u) (r.set rv j) (by rw[List.length_set];exact hz) s.toks
 by_cases h0:0≤k
 ·have hk:k.toNat=j:=by
   rw[seqIndex_of h0 h4] at h1
   exact Option.some.inj h1
  exact PySem.W.ki_setAt ho h0 (by omega) (by rw[List.size_toArray,←hl];exact h4) (by rw[hk];exact⟨_,I',q⟩)
 ·have hk:(k+(its.toArray.size:Int)).toNat=j:=by
   rw[seqIndex_neg (by omega) h3] at h1
   rw[List.size_toArray,←hl]
   exact Option.some.inj h1
  exact PySem.W.ki_setBack ho (by omega) (by rw[List.size_toArray,←hl];exact h3) (by omega) (by rw[hk];exact⟨_,I',q⟩)
theorem d5k (lo hi:Option Int) (n:Nat):(sliceBounds lo hi none n).1=((HT.sIx n 0 lo:Nat):Int)∧(sliceBounds lo hi none n).2.1=((HT.sIx n n hi:Nat):Int)∧(sliceBounds lo hi none n).2.2=1:=by
 refine⟨?_,?_,rfl⟩
 ·cases lo with
  | none=>simp[sliceBounds,HT.sIx]
  | some i =>
   simp only [sliceBounds,HT.sIx,Option.getD_none,show (1:Int) > 0 by decide,if_true]
   by_cases h:i < 0
   ·simp only [h,if_true]<;>omega
   ·simp only [h,if_false]<;>omega
 ·cases hi with
  | none=>simp[sliceBounds,HT.sIx]
  | some i =>
   simp only [sliceBounds,HT.sIx,Option.getD_none,show (1:Int) > 0 by decide,if_true]
   by_cases h:i < 0
   ·simp only [h,if_true]<;>omega
   ·simp only [h,if_false]<;>omega
theorem d4k (its:List Value) (lo hi:Option Int):slicePick its.toArray lo hi none=((its.drop (HT.sIx its.length 0 lo)).take (HT.sIx its.length its.length hi - HT.sIx its.length 0 lo)).toArray:=by
 obtain⟨h1,h2,h3⟩:=d5k lo hi its.toArray.size
 unfold slicePick
 rw[h1,h2,h3]
 simp only [sliceRange_one,pick_run,List.size_toArray]<;>rfl
def g1h (K:PySem.W.Frag):V→Option Int→Option Int→Hp→VK→Prop:=fun x lo hi H Q=>∃ a xs,x=.ref a∧SqL K H a xs∧∀ p,H p=none→Q (.ref p) (upd H p (.lst (e0n xs lo hi)))
theorem b9c:SlR X (g1h X.K):=by
 intro pins s σ H x v vl vu lo hi sl Q I rx hs pl pu h
 obtain⟨a,xs,rfl,hx,q⟩:=h
 cases rx
 obtain⟨its,r,ht,hz⟩:=I.list hx
 have hlen:=r.length
 refine⟨"list",_,slot_list_getitem.lookup,ht.isList.typeIs,?_⟩
 refine wpAny_getItem_list_slice ht.isList hs pl pu .none (by simp) ?_ (by rw[List.size_toArray]<;>omega)
 rw[d4k,←hlen]
 refine⟨.ref s.heap.objs.size,_,I.laid (t':=s.toks) (o:=.lst (e0n xs lo hi)) (fun b ob q=>Heap.get?_push_of_some _ q) (Nat.le_refl _) ?_,rfl,q _ (I.hok.fresh (Nat.le_refl _))⟩
 exact⟨Nat.le_trans (d9x xs lo hi) hz,_,0,(r.drop (HT.sIx xs.length 0 lo)).take (HT.sIx xs.length xs.length hi - HT.sIx xs.length 0 lo),Heap.get?_push_size _ rfl⟩
def d4j:V→Bool
 | .non=>true
 | .bl _=>true
 | .int _=>true
 | .str _=>true
 | _=>false
def eqV:V→V→Bool
 | .non,.non=>true
 | .bl a,.bl b=>a == b
 | .bl a,.int b=>(if a then 1 else 0) == b
 | .int a,.bl b=>a == (if b then 1 else 0)
 | .int a,.int b=>a == b
 | .str a,.str b=>a == b
 | _,_=>false
theorem f6u {A:Around} {s:Shared} {y x:V} {u v:Value} (ry:a2u y u) (rx:a2u x v) (fy:d4j y=true) (fx:d4j x=true):SeqAt.EqAt A s u v (eqV y x):=by
 cases y with
 | non =>
  cases ry
  cases x with
  | non=>cases rx;exact SeqAt.EqAt.same _
  | bl b=>cases rx;exact SeqAt.EqAt.none_bool b
  | int b=>obtain⟨t,rfl⟩:=rx;exact SeqAt.EqAt.none_int b t
  | str b=>obtain⟨t,rfl⟩:=rx;exact SeqAt.EqAt.none_str b t
  | _=>exact absurd (show false=true from fx) Bool.false_ne_true
 | bl a =>
  cases ry
  cases x with
  | non=>cases rx;exact SeqAt.EqAt.bool_none a
  | bl b=>cases rx;exact SeqAt.EqAt.bool_bool a b
  | int b=>obtain⟨t,rfl⟩:=rx;exact SeqAt.EqAt.bool_int a b t
  | str b=>obtain⟨t,rfl⟩:=rx;exact SeqAt.EqAt.bool_str a b t
  | _=>exact absurd (show false=true from fx) Bool.false_ne_true
 | int a =>
  obtain⟨t',rfl⟩:=ry
  cases x with
  | non=>cases rx;exact SeqAt.EqAt.int_none a t'
  | bl b=>cases rx;exact SeqAt.EqAt.int_bool a t' b
  | int b=>obtain⟨t,rfl⟩:=rx;exact SeqAt.EqAt.int_int a t' b t
  | str b=>obtain⟨t,rfl⟩:=rx;exact SeqAt.EqAt.int_str a t' b t
  | _=>exact absurd (show false=true from fx) Bool.false_ne_true
 | str a =>
  obtain⟨t',rfl⟩:=ry
  cases x with
  | non=>cases rx;exact SeqAt.EqAt.str_none a t'
  | bl b=>cases rx;exact SeqAt.EqAt.str_bool a t' b
  | int b=>obtain⟨t,rfl⟩:=rx;exact SeqAt.EqAt.str_int a t' b t
  | str b=>obtain⟨t,rfl⟩:=rx;exact SeqAt.EqAt.str_str a t' b t
  | _=>exact absurd (show false=true from fx) Bool.false_ne_true
 | _=>exact absurd (show false=true from fy) Bool.false_ne_true
def eqU (x:V) (u:Value):Bool:=match u with
 | .none=>eqV .non x
 | .bool b=>eqV (.bl b) x
 | .int i _=>eqV (.int i) x
 | .str z _=>eqV (.str z) x
 | _=>false
theorem f2h {x y:V} {u:Value} (r:a2u y u) (f:d4j y=true):eqU x u=eqV y x:=by
 cases y with
 | non=>cases r;rfl
 | bl b=>cases r;rfl
 | int i=>obtain⟨t,rfl⟩:=r;rfl
 | str z=>obtain⟨t,rfl⟩:=r;rfl
 | _=>exact absurd (show false=true from f) Bool.false_ne_true
theorem c9j {x:V}:∀ {xs:List V} {us:List Value},a3c xs us→xs.all d4j=true→us.any (eqU x)=xs.any fun y=>eqV y x
 | _,_,.nil,_=>rfl
 | y::xs,u::us,.cons r t,f=>by
  rw[List.all_cons,Bool.and_eq_true] at f
  rw[List.any_cons,List.any_cons,f2h r f.1,c9j t f.2]
theorem c1h {A:Around} {s:Shared} {x:V} {v:Value} (rx:a2u x v) (fx:d4j x=true):∀ {xs:List V} {us:List Value},a3c xs us→xs.all d4j=true→∀ u∈us,SeqAt.EqAt A s u v (eqU x u)
 | _,_,.nil,_=>fun u hu=>by cases hu
 | y::xs,u::us,.cons r t,f=>fun u' hu=>by
  rw[List.all_cons,Bool.and_eq_true] at f
  rcases List.mem_cons.mp hu with rfl | hu
  ·rw[f2h r f.1];exact f6u r rx f.1 fx
  ·exact c1h rx fx t f.2 u' hu
def inV (x:V) (xs:List V):Bool:=xs.any fun y=>eqV y x
def rIn (K:PySem.W.Frag) (neg:Bool):R2:=fun x y H Q=>∃ p xs,y=.ref p∧(SqL K H p xs∨SqT K H p xs)∧d4j x=true∧xs.all d4j=true∧Q (.bl (if neg then !inV x xs else inV x xs)) H
theorem d0a:OpR X (compareOp .In) (rIn X.K false):=by
 intro pins s σ H x y v u Q I rx ry h
 obtain⟨p,xs,rfl,hq,fx,fs,q⟩:=h
 cases ry
 rcases hq with hq | hq
 ·obtain⟨its,r,pl,hz⟩:=I.list hq
  refine SeqAt.in_listAt (eqU x) pl.isList (fun w hw=>c1h rx fx r fs w (by simpa using hw)) ⟨.bl _,H,I,rfl,?_⟩
  rw[show its.toArray.any (eqU x)=its.any (eqU x) by simp,c9j r fs]
  exact q
 ·obtain⟨its,r,pl,hz⟩:=I.tuple hq
  refine SeqAt.in_tupleAt (eqU x) pl (fun w hw=>c1h rx fx r fs w (by simpa using hw)) ⟨.bl _,H,I,rfl,?_⟩
  rw[show its.toArray.any (eqU x)=its.any (eqU x) by simp,c9j r fs]
  exact q
theorem d5o:OpR X (compareOp .NotIn) (rIn X.K true):=by
 intro pins s σ H x y v u Q I rx ry h
 obtain⟨p,xs,rfl,hq,fx,fs,q⟩:=h
 cases ry
 rcases hq with hq | hq
 ·obtain⟨its,r,pl,hz⟩:=I.list hq
  refine SeqAt.notIn_listAt (eqU x) pl.isList (fun w hw=>c1h rx fx r fs w (by simpa using hw)) ⟨.bl _,H,I,rfl,?_⟩
  rw[show its.toArray.any (eqU x)=its.any (eqU x) by simp,c9j r fs]
  exact q
 ·obtain⟨its,r,pl,hz⟩:=I.tuple hq
  refine SeqAt.notIn_tupleAt (eqU x) pl (fun w hw=>c1h rx fx r fs w (by simpa using hw)) ⟨.bl _,H,I,rfl,?_⟩
  rw[show its.toArray.any (eqU x)=its.any (eqU x) by simp,c9j r fs]
  exact q
theorem a3z:b7y X (.type "list") (fun xs H Q=>∃ p ys,xs=[.ref p]∧(SqL X.K H p ys∨SqT X.K H p ys)∧∀ l,H l=none→Q (.ref l) (upd H l (.lst ys))):=by
 intro pins s σ H xs us Q I r h
 obtain⟨p,ys,rfl,hq,q⟩:=h
 obtain⟨u,rfl,rx⟩:=c6m r
 cases rx
 have fin:∀ (its:List Value),a3c ys its→ys.length≤sizeLine→∀ (h':Heap) (c':Nat),(∀ b o',s.heap.get? b=some o'→h'.get? b=some o') →
   h'.get? s.heap.objs.size=some {cls:=.type "list",dict:=none,data:=.seq its.toArray c',slots:=#[]}→EP X pins σ Q (.ref s.heap.objs.size) {s with heap:=h'}:=fun its r' hz h' c' kp e =>
  ⟨.ref s.heap.objs.size,_,I.laid (t':=s.toks) kp (Nat.le_refl _) (show a2f X.prog X.w _ h' _ (.lst ys) from ⟨hz,its,c',r',e⟩),rfl,q _ (I.hok.fresh (Nat.le_refl _))⟩
 rcases hq with hq | hq
 ·obtain⟨its,r',pl,hz⟩:=I.list hq
  have hlen:=r'.length
  obtain⟨o,ho,hc,n,hd⟩:=pl.isList
  exact call_list_seq p (.inl rfl) ho hc hd (fun h' c' kp e=>fin its r' hz h' c' kp e) (by simp only [List.size_toArray]<;>omega)
 ·obtain⟨its,r',pl,hz⟩:=I.tuple hq
  have hlen:=r'.length
  obtain⟨o,ho,hc,n,hd⟩:=pl
  exact call_list_seq p (.inr rfl) ho hc hd (fun h' c' kp e=>fin its r' hz h' c' kp e) (by simp only [List.size_toArray]<;>omega)
theorem d4e:b7y X (.type "tuple") (fun xs H Q=>∃ p ys,xs=[.ref p]∧((SqL X.K H p ys∧∀ l,H l=none→Q (.ref l) (upd H l (.tup ys)))∨(SqT X.K H p ys∧Q (.ref p) H))):=by
 intro pins s σ H xs us Q I r h
 obtain⟨p,ys,rfl,h⟩:=h
 obtain⟨u,rfl,rx⟩:=c6m r
 cases rx
 rcases h with ⟨hq,q⟩ | ⟨hq,q⟩
 ·obtain⟨its,r',pl,hz⟩:=I.list hq
  have hlen:=r'.length
  refine call_tuple_list pl.isList (fun h' kp=>?_) (by simp only [List.size_toArray]<;>omega)
  have I1:Inv X pins σ H {s with heap:=h'}:=I.kept (t':=s.toks) kp
  have I2:Inv X pins σ (upd H h'.objs.size (.tup ys)) {s with heap:=h'.push {cls:=.type "tuple",data:=.seq its.toArray}} :=
   I1.laid (t':=s.toks) (fun b o e=>Heap.get?_push_of_some _ e) (Nat.le_refl _) (show a2f X.prog X.w _ _ _ (.tup ys) from ⟨hz,its,r',IsTup.new _ _⟩)
  exact⟨.ref h'.objs.size,_,I2,rfl,q _ (I1.hok.fresh (Nat.le_refl _))⟩
 ·obtain⟨its,r',pl,hz⟩:=I.tuple hq
  exact call_tuple_same pl ⟨.ref p,H,I,rfl,q⟩
def tyV (K:PySem.W.Frag) (T:String) (x:V) (H:Hp):Prop:=match x with
 | .str _=>T="str"
 | .int _=>T="int"
 | .ref p=>(T="list"∧∃ xs,SqL K H p xs)∨(T="tuple"∧∃ o,K.lookup p=some o∧o.cls=.type "tuple"∧o.dict=none) ∨
   (T="dict"∧((∃ kvs,H p=some (.dK kvs))∨∃ kvs,H p=some (.dT kvs)))∨(T="set"∧∃ S n,H p=some (.set S n))
 | _=>False
theorem f7k {pins:List (Addr×Obj)} {σ:St} {H:Hp} {s:Shared} {T:String} {x:V} {v:Value} (I:Inv X pins σ H s) (r:a2u x v) (ty:tyV X.K T x H) :
  s.TypeIs v T∧∀ a,v=.ref a→∃ ob,s.heap.get? a=some ob∧ob.dict=none:=by
 cases x with
 | str z =>
  obtain⟨t,rfl⟩:=r
  cases (show T="str" from ty)
  exact⟨typeIs_str s z t,fun _ e=>nomatch e⟩
 | int i =>
  obtain⟨t,rfl⟩:=r
  cases (show T="int" from ty)
  exact⟨typeIs_int s i t,fun _ e=>nomatch e⟩
 | ref p =>
  cases r
  rcases ty with ⟨rfl,xs,hq⟩ | ⟨rfl,o,hk,hc,hd⟩ | ⟨rfl,hk⟩ | ⟨rfl,S,n,hk⟩
  ·obtain⟨its,_,pl,_⟩:=I.list hq
   refine⟨pl.isList.typeIs,fun a e=>?_⟩
   cases e
   obtain⟨o,n,e,c,hd,_⟩:=pl
   exact⟨o,e,hd⟩
  ·refine⟨⟨o,I.kIn p o hk,hc⟩,fun a e=>?_⟩
   cases e
   exact⟨o,I.kIn _ o hk,hd⟩
  ·have z:∃ o,s.heap.get? p=some o∧o.ExactDict:=by
    rcases hk with ⟨kvs,hk⟩ | ⟨kvs,hk⟩
    ·obtain⟨_,_,_,_,o,_,_,e,ex,_⟩:=I.hok p _ hk
     exact⟨o,e,ex⟩
    ·obtain⟨_,_,_,_,o,_,_,e,ex,_⟩:=I.hok p _ hk
     exact⟨o,e,ex⟩
   obtain⟨o,e,ex⟩:=z
   refine⟨⟨o,e,ex.1⟩,fun a e2=>?_⟩
   cases e2
   exact⟨o,e,ex.2.1⟩
  ·obtain⟨o,_,_,_,e,ex,_⟩:=I.hok p _ hk
   refine⟨⟨o,e,ex.1⟩,fun a e2=>?_⟩
   cases e2
   exact⟨o,e,ex.2.1⟩
 | _=>exact False.elim ty
def tBM (K:PySem.W.Frag) (T:String) (r:V→List V→Hp→VK→Prop) (to:TE) (t:TA):TE:=fun σ H Q=>to σ H fun x H1=>tyV K T x H1∧t σ H1 fun xs H2=>r x xs H2 Q
variable {o e:Expr} {es:List Expr} {to:TE} {t:TA} {name:Str} {apos cpos:Pos} {T id:String} {r:V→List V→Hp→VK→Prop}
theorem e4g (pa:PlainAttrs T) (slot:Slot T name id) (hty:typeOf (.builtin id)=pure (.type "method_descriptor")) (hm:MtR X id r) (ho:PE X o to) (ha:PA X (e::es) t)
  (hbase:attributeBase o name X.env (eval o X.env)=eval o X.env:=by rfl)
  (hfew:((backTo cpos (starEach (e::es) X.env)).all (fun x=>!x.1) && (backToKw cpos (keywordEach [] X.env)).all (fun x=>x.1.isSome)
   && decide ((e::es).length+([]:List Keyword).length+(if ([]:List Keyword).isEmpty then 0 else 1) < 30))=true:=by rfl)
  (hline:(apos.endLine == cpos.line)=true:=by rfl) (hs:starEach (e::es) X.env=(false,eval e X.env)::starEach es X.env:=by rfl) (hplain:(backTo cpos (starEach es X.env)).any (·.1)=false:=by rfl) :
  PE X (.Call (.Attribute o name apos) (e::es) [] cpos) (tBM X.K T r to t):=by
 constructor;intro pins s σ H Q I h
 refine wpAny_Call_method_late hbase hfew hline rfl (thn (ho pins s σ H _ I h) fun v s1 ⟨x,H1,I1,r1,ty,q1⟩=>?_)
 obtain⟨h1,h2⟩:=f7k I1 r1 ty
 refine⟨T,id,pa,slot,hty,h1,h2,?_⟩
 have hA:=ha cpos pins s1 σ H1 _ I1 q1
 rw[hs] at hA ⊢
 refine Calls.callWith_builtin (by show (false || (backTo cpos (starEach es X.env)).any (·.1))=false;rw[hplain]<;>rfl) (Calls.evalArgs_plain ?_)
 exact thn hA fun us s2 ⟨vs,H2,I2,r2,q2⟩=>hm pins s2 σ H2 x vs v us Q I2 r1 r2 q2
end
end L2
namespace L2
open PySem PySem.Spec PyProof.Rows
def MtM (X:Cx) (id:String) (r:V→List V→Hp→VK→Prop):Prop :=
 ∀ (pins:List (Addr×Obj)) (s:Shared) (σ:St) (H:Hp) (x:V) (xs:List V) (v:Value) (us:List Value) (Q:VK),Inv X pins σ H s→a2u x v→a3c xs us→r x xs H Q →
  wpAny (model X.prog X.w) X.A (call (.builtin id) (v::us)) (EP X pins σ Q) X.xe s
theorem a3c.one:∀ {x:V} {us:List Value},a3c [x] us→∃ u,us=[u]∧a2u x u
 | _,_,.cons r .nil=>⟨_,rfl,r⟩
section
variable {X:Cx} {pins:List (Addr×Obj)} {σ:St} {H:Hp} {s:Shared} {l b:Addr} {xs ys zs:List V}
theorem Inv.lset {its its':List Value} {n:Nat} {f:Array Value→Array Value} {t':Nat} (I:Inv X pins σ H s) (hH:H l=some (.lst xs))
  (e:s.heap.get? l=some {cls:=.type "list",data:=.seq its.toArray n}) (hf:f its.toArray=its'.toArray) (hv:a3c ys its') (hz:ys.length≤sizeLine) :
  Inv X pins σ (upd H l (.lst ys)) {s with heap:=s.heap.update l (Obj.mapSeq f),toks:=t'}:=by
 have q:=PySem.IsL.update e f
 rw[hf] at q
 refine I.write (x:=l) (e:=l) (by rw[hH];exact trivial) (.inl rfl) (fun b' u hb hu=>(Heap.get?_update_other s.heap (Obj.mapSeq f) (Ne.symm hb)).trans hu) ⟨_,q⟩ ?_
 exact⟨hz,its',_,hv,q⟩
theorem Inv.lnew {its:List Value} {t':Nat} (I:Inv X pins σ H s) (hv:a3c ys its) (hz:ys.length≤sizeLine) :
  Inv X pins σ (upd H s.heap.objs.size (.lst ys)) {s with heap:=s.heap.push {cls:=.type "list",data:=.seq its.toArray},toks:=t'} :=
 I.laid (fun _ _ q=>Heap.get?_push_of_some _ q) (Nat.le_refl _) ⟨hz,its,0,hv,Heap.get?_push_size _ rfl⟩
theorem Inv.fresh (I:Inv X pins σ H s):H s.heap.objs.size=none:=I.hok.fresh (Nat.le_refl _)
theorem Inv.lstM (I:Inv X pins σ H s) (hH:H l=some (.lst xs)):xs.length≤sizeLine∧∃ (its:List Value) (n:Nat),a3c xs its∧xs.length=its.length∧s.heap.get? l=some {cls:=.type "list",data:=.seq its.toArray n}:=by
 obtain⟨z,its,n,r,e⟩:=I.hok l _ hH
 exact⟨z,its,n,r,r.length,e⟩
end
section
variable {X:Cx}
def rAppend:V→List V→Hp→VK→Prop:=fun x vs H Q=>∃ l xs y,x=.ref l∧vs=[y]∧H l=some (.lst xs)∧xs.length < sizeLine∧Q .non (upd H l (.lst (xs++[y])))
theorem b5q:MtM X "list.append" rAppend:=by
 intro pins s σ H x vs v us Q I rx rv h
 obtain⟨l,xs,y,rfl,rfl,hH,hz,q⟩:=h
 cases rx
 obtain⟨u,rfl,ru⟩:=rv.one
 obtain⟨z,its,n,r,hl,e⟩:=I.lstM hH
 refine call_meets F.slot_list_append ⟨_,e,rfl⟩ F.entry_list_append (F.args_list_append_2 _ _) (PySem.list_append l its.toArray n u (by rw[List.size_toArray];omega)) ⟨e,?_⟩
 refine⟨.non,_,I.lset (its':=its++[u]) hH e (by simp) (r.append (.cons ru .nil)) ?_,rfl,q⟩
 rw[List.length_append,List.length_singleton]
 omega
def g1j:R2:=fun x y H Q=>∃ l b xs zs,x=.ref l∧y=.ref b∧H l=some (.lst xs)∧H b=some (.lst zs)∧xs.length+zs.length≤sizeLine∧∀ p,H p=none→Q (.ref p) (upd H p (.lst (xs++zs)))
theorem e1l:OpR X (binaryOp .Add) g1j:=by
 intro pins s σ H x y v u Q I rx ry h
 obtain⟨l,b,xs,zs,rfl,rfl,hH,hB,hz,q⟩:=h
 cases rx
 cases ry
 obtain⟨z,its,n,r,hl,e⟩:=I.lstM hH
 obtain⟨z2,its2,n2,r2,hl2,e2⟩:=I.lstM hB
 refine PySem.P.add_list e e2 ?_ (by rw[List.size_toArray,List.size_toArray];omega)
 have ea:its.toArray++its2.toArray=(its++its2).toArray:=by simp
 rw[ea]
 exact⟨.ref _,_,I.lnew (t':=s.toks) (r.append r2) (by rw[List.length_append];omega),rfl,q _ I.fresh⟩
end
end L2
namespace L2
open PySem PySem.Spec PyProof.Rows
section
variable {κ:Type} [DecidableEq κ]
def b7j (kvs:List (κ×V)) (k:κ):Option V:=(kvs.find? fun kv=>decide (kv.1=k)).map (·.2)
def b1r (kvs:List (κ×V)) (k:κ) (v:V):List (κ×V) :=
 if (kvs.any fun kv=>decide (kv.1=k))=true then kvs.map (fun kv=>if kv.1=k then (kv.1,v) else kv) else kvs++[(k,v)]
def c0o (kvs:List (κ×V)) (k:κ):List (κ×V):=kvs.filter fun kv=>decide (kv.1≠k)
theorem c0x {p:κ×V} {r:List (κ×V)} {k:κ} (e:p.1=k):b7j (p::r) k=some p.2:=by simp[b7j,List.find?_cons,e]
theorem b6k {p:κ×V} {r:List (κ×V)} {k:κ} (e:¬ p.1=k):b7j (p::r) k=b7j r k:=by simp[b7j,List.find?_cons,e]
theorem d4r (k:κ):∀ kvs:List (κ×V),(kvs.any fun kv=>decide (kv.1=k))=(b7j kvs k).isSome
 | []=>rfl
 | p::r=>by
  rw[List.any_cons]
  by_cases e:p.1=k
  ·simp only [c0x e,decide_eq_true e,Bool.true_or,Option.isSome_some]
  ·rw[b6k e,decide_eq_false e,Bool.false_or];exact d4r k r
theorem b9k (kvs:List (κ×V)) (k:κ) (v:V):(b1r kvs k v).length≤kvs.length+1:=by
 unfold b1r
 split
 ·rw[List.length_map];omega
 ·rw[List.length_append,List.length_cons,List.length_nil];omega
theorem c5e.isSome_eq {o:Option V} {u:Option Value} (r:c5e o u):o.isSome=u.isSome:=by
 cases o with
 | none=>cases u with
  | none=>rfl
  | some _=>exact(show False from r).elim
 | some _=>cases u with
  | none=>exact(show False from r).elim
  | some _=>rfl
theorem c5e.getD {o:Option V} {u:Option Value} {d:V} {d':Value} (r:c5e o u) (rd:a2u d d'):a2u (o.getD d) (u.getD d'):=by
 cases o with
 | none=>cases u with
  | none=>exact rd
  | some _=>exact(show False from r).elim
 | some _=>cases u with
  | none=>exact(show False from r).elim
  | some _=>exact r
theorem KV.val {kvs:List (κ×V)} {vs:List (κ×Value)} (r:KV kvs vs) (k:κ):c5e (b7j kvs k) (valueAt vs k):=by
 unfold KV at r
 induction r with
 | nil=>exact True.intro
 | @cons p q ps qs h t ih =>
  obtain⟨h1,h2⟩:=h
  by_cases e:p.1=k
  ·have e':q.1=k:=h1.symm.trans e
   have b:valueAt (q::qs) k=some q.2:=by simp[valueAt,List.find?_cons,e']
   rw[c0x e,b];exact h2
  ·have e':¬ q.1=k:=fun z=>e (h1.trans z)
   have b:valueAt (q::qs) k=valueAt qs k:=by simp[valueAt,List.find?_cons,e']
   rw[b6k e,b];exact ih
theorem KV.any {kvs:List (κ×V)} {vs:List (κ×Value)} (r:KV kvs vs) (k:κ):(kvs.any fun kv=>decide (kv.1=k))=vs.any fun kv=>decide (kv.1=k):=by
 unfold KV at r
 induction r with
 | nil=>rfl
 | cons h t ih=>rw[List.any_cons,List.any_cons,ih,h.1]
theorem KV.repl {kvs:List (κ×V)} {vs:List (κ×Value)} (r:KV kvs vs) (k:κ) {y:V} {u:Value} (ry:a2u y u) :
  KV (kvs.map fun kv=>if kv.1=k then (kv.1,y) else kv) (vs.map fun kv=>if kv.1=k then (kv.1,u) else kv):=by
 unfold KV at r ⊢
 induction r with
 | nil=>exact .nil
 | @cons p q ps qs h t ih =>
  rw[List.map_cons,List.map_cons]
  refine .cons ?_ ih
  obtain⟨h1,h2⟩:=h
  by_cases e:p.1=k
  ·rw[if_pos e,if_pos (h1.symm.trans e)];exact⟨h1,ry⟩
  ·rw[if_neg e,if_neg (fun z=>e (h1.trans z))];exact⟨h1,h2⟩
theorem KV.put {kvs:List (κ×V)} {vs:List (κ×Value)} (r:KV kvs vs) (k:κ) {y:V} {u:Value} (ry:a2u y u):KV (b1r kvs k y) (stored vs k u):=by
 unfold b1r stored
 rw[r.any k]
 by_cases e:(vs.any fun kv=>decide (kv.1=k))=true
 ·rw[if_pos e,if_pos e];exact r.repl k ry
 ·rw[if_neg e,if_neg e];exact Paired.snoc r ⟨rfl,ry⟩
theorem KV.drop {kvs:List (κ×V)} {vs:List (κ×Value)} (r:KV kvs vs) (k:κ):KV (c0o kvs k) (without vs k):=by
 unfold KV at r ⊢
 unfold c0o without
 induction r with
 | nil=>exact .nil
 | @cons p q ps qs h t ih =>
  obtain⟨h1,h2⟩:=h
  rw[List.filter_cons,List.filter_cons]
  by_cases e:p.1=k
  ·have a:¬ decide (p.1≠k)=true:=by simp[e]
   have b:¬ decide (q.1≠k)=true:=by simp[h1.symm.trans e]
   rw[if_neg a,if_neg b];exact ih
  ·have e':¬ q.1=k:=fun z=>e (h1.trans z)
   have a:decide (p.1≠k)=true:=by simp[e]
   have b:decide (q.1≠k)=true:=by simp[e']
   rw[if_pos a,if_pos b];exact .cons ⟨h1,h2⟩ ih
theorem KV.keys {kvs:List (κ×V)} {vs:List (κ×Value)} (r:KV kvs vs):kvs.map (·.1)=vs.map (·.1):=by
 unfold KV at r
 induction r with
 | nil=>rfl
 | cons h t ih=>rw[List.map_cons,List.map_cons,ih,h.1]
theorem KV.length {kvs:List (κ×V)} {vs:List (κ×Value)} (r:KV kvs vs):kvs.length=vs.length:=Paired.length r
theorem f0j (kvs:List (κ×V)) (k:κ):(c0o kvs k).length≤kvs.length:=List.length_filter_le _ _
end
theorem d9j {P:Program} {w:World} {k:Key} {u:Value} (r:a2u (kV k) u):(a1x P w).is k u=true:=by
 cases k with
 | inl i=>obtain⟨t,e⟩:=(show ∃ t,u=Value.int i t from r);subst e;exact d8k P w i t
 | inr x=>obtain⟨t,e⟩:=(show ∃ t,u=Value.str x t from r);subst e;exact d9v P w x t
theorem d5n {P:Program} {w:World}:∀ {ks:List Key} {us:List Value},a3c (ks.map kV) us→ItemsAre (a1x P w) ks us
 | [],_,r=>by rw[List.map_nil] at r;cases r;exact .nil
 | k::ks,_,r=>by
  rw[List.map_cons] at r
  cases r with
  | cons h t=>exact .cons (d9j h) (d5n t)
abbrev KT (H:Hp):List (List Key×V)→List (List Key×Addr×Value)→Prop:=Paired fun p q=>p.1=q.1∧H q.2.1=some (.tup (p.1.map kV))∧a2u p.2 q.2.2
theorem KT.val {H:Hp} {kvs:List (List Key×V)} {xs:List (List Key×Addr×Value)} (r:KT H kvs xs) (k:List Key):c5e (b7j kvs k) ((atKey xs k).map (·.2)):=by
 induction r with
 | nil=>exact True.intro
 | @cons p q ps qs h t ih =>
  obtain⟨h1,_,h2⟩:=h
  by_cases e:p.1=k
  ·have e':q.1=k:=h1.symm.trans e
   have b:atKey (q::qs) k=some q.2:=by simp[atKey,List.find?_cons,e']
   rw[c0x e,b];exact h2
  ·have e':¬ q.1=k:=fun z=>e (h1.trans z)
   have b:atKey (q::qs) k=atKey qs k:=by simp[atKey,List.find?_cons,e']
   rw[b6k e,b];exact ih
theorem KT.repl {H:Hp} {kvs:List (List Key×V)} {xs:List (List Key×Addr×Value)} (r:KT H kvs xs) (k:List Key) {y:V} {u:Value} (ry:a2u y u) :
  KT H (kvs.map fun kv=>if kv.1=k then (kv.1,y) else kv) (xs.map (putAt k u)):=by
 induction r with
 | nil=>exact .nil
 | @cons p q ps qs h t ih =>
  rw[List.map_cons,List.map_cons]
  refine .cons ?_ ih
  obtain⟨h1,h2,h3⟩:=h
  unfold putAt
  by_cases e:p.1=k
  ·rw[if_pos e,if_pos (h1.symm.trans e)];exact⟨h1,h2,ry⟩
  ·rw[if_neg e,if_neg (fun z=>e (h1.trans z))];exact⟨h1,h2,h3⟩
theorem KT.put {H:Hp} {kvs:List (List Key×V)} {xs:List (List Key×Addr×Value)} (r:KT H kvs xs) (k:List Key) {b:Addr} {y:V} {u:Value} (hb:H b=some (.tup (k.map kV))) (ry:a2u y u) :
  KT H (b1r kvs k y) (storedH xs k b u):=by
 have e:(kvs.any fun kv=>decide (kv.1=k))=(atKey xs k).isSome:=by
  rw[d4r,(r.val k).isSome_eq,Option.isSome_map]
 unfold b1r storedH
 rw[e]
 by_cases q:(atKey xs k).isSome=true
 ·rw[if_pos q,if_pos q];exact r.repl k ry
 ·rw[if_neg q,if_neg q];exact Paired.snoc r ⟨rfl,hb,ry⟩
theorem KT.keeps {H H':Hp} {kvs:List (List Key×V)} {xs:List (List Key×Addr×Value)} (r:KT H kvs xs) (ht:∀ b ys,H b=some (.tup ys)→H' b=some (.tup ys)):KT H' kvs xs :=
 Paired.mapP r fun _ _ z=>⟨z.1,ht _ _ z.2.1,z.2.2⟩
section
variable {P:Program} {w:World} {H:Hp} {h:Heap} {a:Addr}
theorem f5k {u:HO} (ok:HOk P w H h) (e:Rd H a u):a2f P w H h a u:=e.ok ok
theorem e8h {kvs:List (Key×V)} (ok:HOk P w H h) (e:Rd H a (.dK kvs)):kvs.length≤sizeLine∧(a == sysModules)=false∧∃ vs,KV kvs vs∧h.DictOf (a1x P w) a vs :=
 show a2f P w H h a (.dK kvs) from f5k ok e
theorem e8e {kvs:List (Key×V)} (ok:HOk P w H h) (e:H a=some (.dK kvs)):kvs.length≤sizeLine∧(a == sysModules)=false∧∃ vs,KV kvs vs∧h.DictOf (a1x P w) a vs:=e8h ok (.inl e)
theorem e0b {ks:List Key} (ok:HOk P w H h) (e:H a=some (.tup (ks.map kV))):(tupleKind (a1x P w)).is h ks a:=by
 obtain⟨_,its,r,o,h1,h2,n,h3⟩:=(show a2f P w H h a (.tup (ks.map kV)) from ok a _ e)
 exact⟨o,its.toArray,n,h1,h2,h3,by simpa using d5n r⟩
theorem e5x {kvs:List (List Key×V)} (ok:HOk P w H h) (e:Rd H a (.dT kvs)):kvs.length≤sizeLine∧(a == sysModules)=false ∧
  ∃ xs,KT H kvs xs∧h.DictOfH (tupleKind (a1x P w)) a xs:=by
 obtain⟨z,y,xs,r,o,es,ep,h1,h2,h3,h4,h5⟩:=(show a2f P w H h a (.dT kvs) from f5k ok e)
 refine⟨z,y,xs,r,o,es,ep,h1,h2,h3,h4,fun x hx=>?_,h5⟩
 have all:∀ {l:List (List Key×V)} {m:List (List Key×Addr×Value)},KT H l m→∀ x∈m,(tupleKind (a1x P w)).is h x.1 x.2.1:=by
  intro l m q
  induction q with
  | nil=>intro x hx;exact nomatch hx
  | @cons p q ps qs hq t ih =>
   intro x hx
   rcases List.mem_cons.mp hx with e | hx
   ·subst e
    exact e0b ok (by rw[←hq.1];exact hq.2.1)
   ·exact ih x hx
 exact all r x hx
theorem f9n {kvs:List (List Key×V)} (ok:HOk P w H h) (e:H a=some (.dT kvs)):kvs.length≤sizeLine∧(a == sysModules)=false ∧
  ∃ xs,KT H kvs xs∧h.DictOfH (tupleKind (a1x P w)) a xs:=e5x ok (.inl e)
end
def e8q (H:Hp) (a:Addr) (y:V) (r:Option V):Prop :=
 (∃ kvs k,Rd H a (.dK kvs)∧y=kV k∧r=b7j kvs k)∨∃ kvs k b,Rd H a (.dT kvs)∧y=.ref b∧H b=some (.tup (k.map kV))∧r=b7j kvs k
def f5g (H:Hp) (a:Addr) (y v:V) (H':Hp):Prop :=
 (∃ kvs k,H a=some (.dK kvs)∧y=kV k∧kvs.length < sizeLine∧H'=upd H a (.dK (b1r kvs k v))) ∨
 ∃ kvs k b,H a=some (.dT kvs)∧y=.ref b∧H b=some (.tup (k.map kV))∧kvs.length < sizeLine∧H'=upd H a (.dT (b1r kvs k v))
theorem e8q.k {H:Hp} {a:Addr} {kvs:List (Key×V)} {k:Key} (e:H a=some (.dK kvs)):e8q H a (kV k) (b7j kvs k):=.inl ⟨kvs,k,.inl e,rfl,rfl⟩
theorem f5g.k {H:Hp} {a:Addr} {kvs:List (Key×V)} {k:Key} {v:V} (e:H a=some (.dK kvs)) (hl:kvs.length < sizeLine):f5g H a (kV k) v (upd H a (.dK (b1r kvs k v))):=.inl ⟨kvs,k,e,rfl,hl,rfl⟩
section
variable {X:Cx} {pins:List (Addr×Obj)} {σ:St} {H:Hp} {s:Shared} {a:Addr} {y v:V} {u r:Value} {o:Option V} {A:Around} {E:Value→Shared→Prop}
theorem Inv.big (I:Inv X pins σ H s):sysModules < s.heap.objs.size:=by
 have h:mainGlobals < s.heap.objs.size:=(I.mod.glob.keeps I.bk).lt
 exact Nat.lt_trans (by decide) h
theorem e6t {Q:Value→Shared→Prop} (hu:A.units+1 < cLine) (I:Inv X pins σ H s) (g:e8q H a y (some v)) (ry:a2u y u) (h:∀ w' s',Inv X pins σ H s'→a2u v w'→Q w' s') :
  wpAny (model X.prog X.w) A (getItem (.ref a) u) Q E s:=by
 rcases g with ⟨kvs,k,e,ey,l⟩ | ⟨kvs,k,b,e,ey,eb,l⟩
 ·subst ey
  obtain⟨z,hd,vs,rel,dd⟩:=e8h I.hok e
  obtain⟨w',hw,rw'⟩:=c5e.some_of (v:=v) (o:=valueAt vs k) (by rw[l];exact rel.val k)
  exact wpAny_getItem_of (d9j ry) dd.mapOf hw (h w' _ (I.tok _) rw')
 ·subst ey
  cases (show u=Value.ref b from ry)
  obtain⟨z,hd,xs,rel,dd⟩:=e5x I.hok e
  obtain⟨w',hw,rw'⟩:=c5e.some_of (v:=v) (o:=(atKey xs k).map (·.2)) (by rw[l];exact rel.val k)
  obtain⟨p,hp,hp2⟩:=Option.map_eq_some_iff.mp hw
  refine wpAny_getItem_heap (tupleKind_room_in1 hu) (e0b I.hok eb) dd hp ?_
  rw[hp2]
  exact h w' _ (I.tok _) rw'
theorem d3z {h':Heap} {t':Nat} {ob:HO} (I:Inv X pins σ H s) (mu:Mut (H a)) (hs:Heap.SameBut a s.heap h') (he:∃ q,h'.get? a=some q) (new:a2f X.prog X.w (upd H a ob) h' a ob) :
  Inv X pins σ (upd H a ob) {s with heap:=h',toks:=t'} :=
 I.write (x:=a) (e:=a) mu (.inl rfl) (fun b q hb z=>(hs.2 b hb).trans z) he new
theorem e6b {P:Program} {w:World} {H':Hp} {h':Heap} {kvs:List (Key×V)} {vs:List (Key×Value)} (z:kvs.length≤sizeLine) (hd:(a == sysModules)=false) (rel:KV kvs vs) (dd:h'.DictOf (a1x P w) a vs) :
  a2f P w H' h' a (.dK kvs):=⟨z,hd,vs,rel,dd⟩
theorem e4c {H':Hp} {Q:Unit→Shared→Prop} (hu:A.units+1 < cLine) (I:Inv X pins σ H s) (g:f5g H a y v H') (ry:a2u y u) (rv:a2u v r) (h:∀ s',Inv X pins σ H' s'→Q () s') :
  wpAny (model X.prog X.w) A (setItem (.ref a) u r) Q E s:=by
 rcases g with ⟨kvs,k,e,ey,l,eH⟩ | ⟨kvs,k,b,e,ey,eb,l,eH⟩
 ·subst ey eH
  obtain⟨z,hd,vs,rel,dd⟩:=e8e I.hok e
  have hz:vs.length≤sizeLine:=by rw[←rel.length];exact z
  have hl:(b1r kvs k v).length≤sizeLine:=by have:=b9k kvs k v;omega
  refine wpAny_setItem_pairs (hsz:=hz) (d9j ry) dd fun h' dd' hs=>h _ ?_
  have he:∃ q,h'.get? a=some q:=let ⟨q,_,_,hq,_⟩:=dd';⟨q,hq⟩
  exact d3z I (by rw[e];exact True.intro) hs he (e6b hl hd (rel.put k rv) dd')
 ·subst ey eH
  cases (show u=Value.ref b from ry)
  obtain⟨z,hd,xs,rel,dd⟩:=f9n I.hok e
  have hz:xs.length≤sizeLine:=by rw[←Paired.length rel];exact z
  have hl:(b1r kvs k v).length≤sizeLine:=by have:=b9k kvs k v;omega
  refine wpAny_setItem_heap (hsz:=hz) (tupleKind_room_in1 hu) (e0b I.hok eb) dd fun h' dd' hs=>h _ ?_
  obtain⟨q,es,ep,hq,h2,h3,h4,_,h5⟩:=dd'
  refine d3z I (by rw[e];exact True.intro) hs ⟨q,hq⟩ ⟨hl,hd,_,(rel.put k eb rv).keeps fun c ys ec=>?_,q,es,ep,hq,h2,h3,h4,h5⟩
  rw[a0d (f9r ec e (fun z=>nomatch z))]
  exact ec
end
section
variable {X:Cx} {pins:List (Addr×Obj)} {σ:St} {H:Hp} {s:Shared} {a:Addr} {kvs:List (Key×V)} {k:Key} {u:Value} {A:Around} {E:Value→Shared→Prop}
theorem f9s {v:V} {more:List Value} {Q:Value→Shared→Prop} (I:Inv X pins σ H s) (e:H a=some (.dK kvs)) (ry:a2u (kV k) u) (l:b7j kvs k=some v) (hm:more=[]∨∃ x,more=[x])
  (h:∀ w' s',Inv X pins σ (upd H a (.dK (c0o kvs k))) s'→a2u v w'→Q w' s'):wpAny (model X.prog X.w) A (call (.builtin "dict.pop") (.ref a::u::more)) Q E s:=by
 obtain⟨z,hd,vs,rel,dd⟩:=e8e I.hok e
 obtain⟨w',hw,rw'⟩:=c5e.some_of (v:=v) (o:=valueAt vs k) (by rw[←l];exact rel.val k)
 have hp:(keyPart u).isSome=true:=by
  cases k with
  | inl i=>obtain⟨t,q⟩:=(show ∃ t,u=Value.int i t from ry);subst q;rfl
  | inr x=>obtain⟨t,q⟩:=(show ∃ t,u=Value.str x t from ry);subst q;rfl
 have ha:argsOk "dict.pop" ⟨.ref a::u::more,[]⟩:=by
  rcases hm with q | ⟨x,q⟩
  ·subst q;exact PySem.F.args_dict_pop_2 _ _
  ·subst q;exact PySem.F.args_dict_pop_3 _ _ _
 refine call_meetsIn PySem.F.slot_dict_pop dd.typeIs PySem.F.entry_dict_pop ha (meets_dict_pop_there (a1x X.prog X.w) a (d9j ry) more hm hp)
  ⟨vs,w',dd,by rw[←rel.length];exact z,hw,fun h' dd' hs=>h w' _ ?_ rw'⟩
 have he:∃ q,h'.get? a=some q:=let ⟨q,_,_,hq,_⟩:=dd';⟨q,hq⟩
 exact d3z I (by rw[e];exact True.intro) hs he (e6b (Nat.le_trans (f0j kvs k) z) hd (rel.drop k) dd')
theorem f8g {r:Value} {Q:Value→Shared→Prop} (I:Inv X pins σ H s) (e:H a=some (.dK kvs)) (ry:a2u (kV k) u) (l:b7j kvs k=none) (h:∀ s',Inv X pins σ H s'→Q r s') :
  wpAny (model X.prog X.w) A (call (.builtin "dict.pop") [.ref a,u,r]) Q E s:=by
 obtain⟨z,hd,vs,rel,dd⟩:=e8e I.hok e
 have hn:valueAt vs k=none:=c5e.none_of (by rw[←l];exact rel.val k)
 have hp:(keyPart u).isSome=true:=by
  cases k with
  | inl i=>obtain⟨t,q⟩:=(show ∃ t,u=Value.int i t from ry);subst q;rfl
  | inr x=>obtain⟨t,q⟩:=(show ∃ t,u=Value.str x t from ry);subst q;rfl
 exact call_meetsIn PySem.F.slot_dict_pop dd.typeIs PySem.F.entry_dict_pop (PySem.F.args_dict_pop_3 _ _ _) (meets_dict_pop_default (a1x X.prog X.w) a (d9j ry) hd hp r) ⟨vs,dd,hn,h _ (I.tok _)⟩
end
def g0u (i:Expr):Prop:=∀ ov iv,subscripted i false ov iv=operate [ov,iv] (getItem ov iv)
theorem f3m {prog:Program} {w:World} {A:Around} {E:Value→Shared→Prop} {s:Shared} {env:Env} {value slice:Expr} {pos:Pos} {T id:String} {Q:Value→Shared→Prop}
  (hl:typeLookup (.type T) "__getitem__"=pure (some (.builtin id))) (hs:g0u slice)
  (h:wpAny (model prog w) A (eval value env) (fun o s₁=>wpAny (model prog w) A (eval slice env) (fun i s₂=>s₂.TypeIs o T∧wpAny (model prog w) A (getItem o i) Q E s₂) E s₁) E s) :
  wpAny (model prog w) A (eval (.Subscript value slice pos) env) Q E s:=by
 refine Subscript_ (wpAny_mono h (fun o s₁ h₁=>wpAny_mono h₁ (fun i s₂ h₂=>?_) fun _ _ x=>x) fun _ _ x=>x)
 obtain⟨hT,h₂⟩:=h₂
 unfold subscriptTail
 refine wpAny_bind ?_
 rw[getitemInPython_of_ne hT.not_modules]
 refine wpAny_bind (wpAny_specialOf hT hl ?_)
 have fin:wpAny (model prog w) A (subscripted slice false o i) (fun r s₃=>wpAny (model prog w) A (letTemporaryGo value o r>>=fun _=>pure r) Q E s₃) E s₂:=by
  rw[hs o i]
  exact wpAny_operating (wpAny_mono h₂ (fun r s₃ h₃=>wpAny_bind (wpAny_letTemporaryGo (wpAny_pure h₃))) fun _ _ x=>x)
 first
  | exact wpAny_pure (wpAny_bind fin)
  | exact wpAny_bind (wpAny_pure (wpAny_bind fin))
  | exact wpAny_bind fin
theorem d8h {X:Cx} {pins:List (Addr×Obj)} {σ:St} {H:Hp} {s:Shared} {a:Addr} {y:V} {o:Option V} (I:Inv X pins σ H s) (g:e8q H a y o):s.TypeIs (.ref a) "dict":=by
 rcases g with ⟨kvs,k,e,_,_⟩ | ⟨kvs,k,b,e,_,_,_⟩
 ·obtain⟨_,_,vs,_,dd⟩:=e8h I.hok e
  exact dd.typeIs
 ·obtain⟨_,_,xs,_,dd⟩:=e5x I.hok e
  exact dd.typeIs
def f8x (td ty:TE):TE:=fun σ H Q=>td σ H fun x H1=>ty σ H1 fun y H2=>∃ a v,x=.ref a∧e8q H2 a y (some v)∧Q v H2
def f9b (td ty tv:TE):TS:=fun D σ H=>tv σ H fun v H1=>td σ H1 fun x H2=>ty σ H2 fun y H3=>∃ a H4,x=.ref a∧f5g H3 a y v H4∧D.nx σ H4
section
variable {X:Cx} {o i e value:Expr} {pos pos' tpos:Pos} {td ty tv:TE}
theorem e4n (hu:X.A.units+1 < cLine) (ho:PE X o td) (hi:PE X i ty) (hs:g0u i):PE X (.Subscript o i pos) (f8x td ty):=by
 constructor;intro pins s σ H Q I h
 refine f3m PySem.F.slot_dict_getitem.lookup hs (thn (ho pins s σ H _ I h) fun u s1 ⟨x,H1,I1,rx,q1⟩=>thn (hi pins s1 σ H1 _ I1 q1) fun iv s2 ⟨y,H2,I2,ry,a,v,ex,g,q2⟩=>?_)
 subst ex
 obtain rfl:u=Value.ref a:=rx
 exact⟨d8h I2 g,e6t hu I2 g ry fun w' s3 I3 rw'=>⟨v,H2,I3,rw',q2⟩⟩
theorem d9m (hu:X.A.units+1 < cLine) (ho:PE X o td) (hi:PE X i ty) (hv:PE X value tv) (hs:swapsWith value (some (.Subscript o i pos')) pos.line X.env=pure false) :
  PS X (.Assign [.Subscript o i pos'] value pos) (f9b td ty tv):=by
 constructor;intro pins s σ H D I h
 refine wpAny_Assign_Subscript (thn (hv pins s σ H _ I h) fun r s1 ⟨v,H1,I1,rv,q1⟩=>thn (ho pins s1 σ H1 _ I1 q1) fun u s2 ⟨x,H2,I2,rx,q2⟩=>thn (hi pins s2 σ H2 _ I2 q2) fun iv s3 ⟨y,H3,I3,ry,a,H4,ex,g,q3⟩=>?_) hs
 subst ex
 obtain rfl:u=Value.ref a:=rx
 exact e4c hu I3 g ry rv fun s4 I4=>⟨σ,H4,I4,q3⟩
end
theorem e9n {P:Program} {w:World} {H:Hp} (h:Heap) (hb:sysModules < h.objs.size):a2f P w H (h.push {cls:=.type "dict",data:=.dict #[]}) h.objs.size (.dK []) :=
 ⟨Nat.zero_le _,beq_eq_false_iff_ne.mpr (Ne.symm (Nat.ne_of_lt hb)),[],.nil,Heap.DictOf.new h⟩
def f5u:TE:=fun _ H Q=>∀ p,H p=none→Q (.ref p) (upd H p (.dK []))
section
variable {X:Cx} {pos:Pos}
theorem b1s:PE X (.Dict [] [] pos) f5u:=⟨fun pins s σ H Q I h =>
 wpAny_Dict_empty ⟨.ref s.heap.objs.size,_,I.laid (a:=s.heap.objs.size) (o:=.dK []) (t':=s.toks) (fun _ _ q=>Heap.get?_push_of_some _ q) (Nat.le_refl _) (e9n s.heap I.big),rfl,h _ (I.hok.fresh (Nat.le_refl _))⟩⟩
end
structure M2 (X:Cx) (o:Expr) (m:Str) (apos:Pos) (e f:Expr) (cpos:Pos):Prop where
 base:attributeBase o m X.env (eval o X.env)=eval o X.env
 few:((backTo cpos (starEach [e,f] X.env)).all (fun x=>!x.1) && (backToKw cpos (keywordEach [] X.env)).all (fun x=>x.1.isSome)
  && decide (([e,f]:List Expr).length+([]:List Keyword).length+(if ([]:List Keyword).isEmpty then 0 else 1) < 30))=true
 line:(apos.endLine == cpos.line)=true
 trees:backTo cpos (starEach [e,f] X.env)=[(false,eval e X.env),(false,eval f X.env)]
def IsD (H:Hp) (a:Addr):Prop:=(∃ kvs,Rd H a (.dK kvs))∨∃ kvs,Rd H a (.dT kvs)
theorem e6x {X:Cx} {pins:List (Addr×Obj)} {σ:St} {H:Hp} {s:Shared} {a:Addr} (I:Inv X pins σ H s) (d:IsD H a) :
  s.TypeIs (.ref a) "dict"∧(∀ b,Value.ref a=.ref b→∃ ob,s.heap.get? b=some ob∧ob.dict=none)∧(a == sysModules)=false:=by
 rcases d with ⟨kvs,e⟩ | ⟨kvs,e⟩
 ·obtain⟨_,hd,vs,_,dd⟩:=e8h I.hok e
  refine⟨dd.typeIs,fun b q=>?_,hd⟩
  cases q
  obtain⟨ob,_,_,h1,h2,_⟩:=dd
  exact⟨ob,h1,h2.2.1⟩
 ·obtain⟨_,hd,xs,_,dd⟩:=e5x I.hok e
  refine⟨dd.typeIs,fun b q=>?_,hd⟩
  cases q
  obtain⟨ob,_,_,h1,h2,_⟩:=dd
  exact⟨ob,h1,h2.2.1⟩
section
variable {X:Cx} {pins:List (Addr×Obj)} {σ:St} {H:Hp} {s:Shared} {a:Addr} {y d:V} {u r:Value} {o:Option V} {A:Around} {E:Value→Shared→Prop}
theorem f7v {Q:Value→Shared→Prop} (hu:A.units+1 < cLine) (I:Inv X pins σ H s) (g:e8q H a y o) (ry:a2u y u) (rd:a2u d r) (h:∀ w' s',Inv X pins σ H s'→a2u (o.getD d) w'→Q w' s') :
  wpAny (model X.prog X.w) A (call (.builtin "dict.get") [.ref a,u,r]) Q E s:=by
 rcases g with ⟨kvs,k,e,ey,l⟩ | ⟨kvs,k,b,e,ey,eb,l⟩
 ·subst ey
  obtain⟨z,hd,vs,rel,dd⟩:=e8h I.hok e
  refine call_meetsIn PySem.F.slot_dict_get dd.typeIs PySem.F.entry_dict_get (PySem.F.args_dict_get_3 _ _ _) (meets_dict_get_default (a1x X.prog X.w) a (d9j ry) hd r) ⟨_,dd.mapOf,h _ _ (I.tok _) ?_⟩
  rw[l]
  exact(rel.val k).getD rd
 ·subst ey
  cases (show u=Value.ref b from ry)
  obtain⟨z,hd,xs,rel,dd⟩:=e5x I.hok e
  refine call_meetsIn PySem.F.slot_dict_get dd.typeIs PySem.F.entry_dict_get (PySem.F.args_dict_get_3 _ _ _) (meetsH_dict_get_default (tupleKind (a1x X.prog X.w)) a b hd r) ⟨tupleKind_room_in1 hu,k,xs,e0b I.hok eb,dd,h _ _ (I.tok _) ?_⟩
  rw[l]
  exact(rel.val k).getD rd
end
def f5t (td ty tx:TE):TE:=fun σ H Q=>td σ H fun x H1=>∃ a,x=.ref a∧IsD H1 a∧ty σ H1 fun y H2=>tx σ H2 fun z H3=>∃ o,e8q H3 a y o∧Q (o.getD z) H3
def f7s (td ty tx:TE):TE:=fun σ H Q=>td σ H fun x H1=>∃ a,x=.ref a∧IsD H1 a∧ty σ H1 fun y H2=>tx σ H2 fun z H3=>∃ kvs k,H3 a=some (.dK kvs)∧y=kV k ∧
 (∀ v,b7j kvs k=some v→Q v (upd H3 a (.dK (c0o kvs k))))∧(b7j kvs k=none→Q z H3)
section
variable {X:Cx} {o e f:Expr} {apos cpos:Pos} {td ty tx:TE}
theorem e1b (hu:X.A.units+1 < cLine) (ho:PE X o td) (he:PE X e ty) (hf:PE X f tx) (m:M2 X o "get" apos e f cpos):PE X (.Call (.Attribute o "get" apos) [e,f] [] cpos) (f5t td ty tx):=by
 constructor;intro pins s σ H Q I h
 refine wpAny_Call_method m.base m.few m.line PySem.F.plainAttrs_dict PySem.F.slot_dict_get PySem.F.type_dict_get (thn (ho pins s σ H _ I h) fun u s1 ⟨x,H1,I1,rx,a,ex,d,q1⟩=>?_)
 subst ex
 obtain rfl:u=Value.ref a:=rx
 obtain⟨t1,t2,_⟩:=e6x I1 d
 refine⟨t1,t2,?_⟩
 rw[m.trees]
 refine Calls.callWith_builtin rfl (Calls.evalArgs_plain (Calls.spliced_cons (thn (he pins s1 σ H1 _ I1 q1) fun iv s2 ⟨y,H2,I2,ry,q2⟩ =>
  Calls.spliced_cons (thn (hf pins s2 σ H2 _ I2 q2) fun fv s3 ⟨z,H3,I3,rz,ov,g,q3⟩=>Calls.spliced_nil ?_))))
 exact f7v hu I3 g ry rz fun w' s4 I4 rw'=>⟨_,H3,I4,rw',q3⟩
theorem f0f (ho:PE X o td) (he:PE X e ty) (hf:PE X f tx) (m:M2 X o "pop" apos e f cpos):PE X (.Call (.Attribute o "pop" apos) [e,f] [] cpos) (f7s td ty tx):=by
 constructor;intro pins s σ H Q I h
 refine wpAny_Call_method m.base m.few m.line PySem.F.plainAttrs_dict PySem.F.slot_dict_pop PySem.F.type_dict_pop (thn (ho pins s σ H _ I h) fun u s1 ⟨x,H1,I1,rx,a,ex,d,q1⟩=>?_)
 subst ex
 obtain rfl:u=Value.ref a:=rx
 obtain⟨t1,t2,_⟩:=e6x I1 d
 refine⟨t1,t2,?_⟩
 rw[m.trees]
 refine Calls.callWith_builtin rfl (Calls.evalArgs_plain (Calls.spliced_cons (thn (he pins s1 σ H1 _ I1 q1) fun iv s2 ⟨y,H2,I2,ry,q2⟩ =>
  Calls.spliced_cons (thn (hf pins s2 σ H2 _ I2 q2) fun fv s3 ⟨z,H3,I3,rz,kvs,k,ea,ey,q3,q4⟩=>Calls.spliced_nil ?_))))
 subst ey
 cases l:b7j kvs k with
 | some v=>exact f9s I3 ea ry l (.inr ⟨fv,rfl⟩) fun w' s4 I4 rw'=>⟨v,_,I4,rw',q3 v l⟩
 | none=>exact f8g I3 ea ry l fun s4 I4=>⟨z,H3,I4,rz,q4 l⟩
end
end L2
namespace Att
open PySem PySem.W PySem.Calls PyProof.Rows
theorem c8w {P:Params} {h:Heap}:∀ (ns:List Int) (vs:List Value),WellAll P h vs (ns.map WData.int)→IntsAre vs ns:=by
 intro ns
 induction ns with
 | nil =>
  intro vs w
  rw[List.map_nil] at w
  cases w
  exact .nil
 | cons n ns ih =>
  intro vs w
  rw[List.map_cons] at w
  cases w with
  | cons a b =>
   cases a
   exact .cons _ _ (ih _ b)
theorem e3y {l:OpenLaw} {n:Nat} (hn:l.most=some n) {P:Params} {h:Heap} {args:List WData} {vals:List Value}
  (hpre:l.row.toRowW.claim.pre args=true) (hwl:WellAll P h vals args) :
  ∃ a vs ns,vals=[Value.ref a]∧args=[WData.list (ns.map WData.int)]∧h.get? a=some {cls:=.type "list",data:=.seq vs.toArray}∧IntsAre vs ns∧ns.length≤n:=by
 have hsh:WShape.hasAll [] args [.list .int]=true:=(pre_splitW hpre).1
 have hc:l.pre.holds [] {args:=args}=true:=(pre_splitW hpre).2
 obtain⟨d,r,rfl,h1,h2⟩:=hasAllW_cons hsh
 obtain rfl:=hasAllW_nil h2
 obtain⟨xs,rfl,h3⟩:=hasW_list h1
 obtain⟨ns,rfl⟩:=items_int h3
 have hlen:ns.length≤n:=by
  unfold OpenLaw.pre at hc
  have h4:(WTm.not (.lt (.lit (.int (n:Int))) (.len (.arg 0)))).holds [] {args:=[.list (ns.map .int)]}=true:=by
   have h4:=(holds_andW hc).1
   rw[hn] at h4
   exact h4
  have h5:=condW_of h4 (w_not (w_lt w_lit (w_len_list (w_arg rfl))))
  rw[List.length_map] at h5
  refine Nat.le_of_not_lt fun q=>?_
  have q':(n:Int) < ((ns.length:Nat):Int):=by omega
  first
   | (rw[decide_eq_true q'] at h5;exact absurd h5 (by decide))
   | (simp at h5;omega)
 cases hwl with
 | cons w1 w2 =>
  cases w2
  cases w1 with
  | list ho hall=>exact⟨_,_,ns,rfl,rfl,ho,c8w ns _ hall,hlen⟩
theorem e4o (l:OpenLaw) (args:List WData):l.row.toRowW.claim.post args (.bool true) args=true :=
 postW_of (r:=l.row.toRowW) (X:=(true == true))
  (show WShape.has [] (.bool true) .bool=true by first | rfl | decide | simp[WShape.has,WShape.arms,WShape.armsAll])
  (show (WTm.eq .res (.lit (.bool true))).value [] {args:=args,res:=some (.bool true),after:=args}=some (.bool (true == true)) from w_eq_bool (w_res rfl) w_lit) rfl
section
variable {prog:Program} {w:World} {A:Around} {E:Value→Shared→Prop} {s:Shared} {K:Frag}
def g0k (h:Heap) (L d:Addr):List (Addr×Obj):=(List.range h.objs.size).filterMap fun a=>if a=L∨a=d then none else (h.get? a).map fun o=>(a,o)
end
end Att
namespace L2
open PySem PySem.Spec PyProof.Rows
theorem d6z:∀ {vs:List Value} {ns:List Int},IntsAre vs ns→a3c (ns.map V.int) vs
 | _,_,.nil=>.nil
 | _,_,.cons n t h=>.cons ⟨t,rfl⟩ (d6z h)
end L2
namespace L2
open PySem PySem.Spec PyProof.Rows
abbrev KOf {K:PySem.W.Frag} {h:Heap} (_:K.In h):PySem.W.Frag:=K
end L2
namespace L2
open PySem PySem.Spec PyProof.Rows
def a0p (s:Stmt):Arguments:=match s with
 | .FunctionDef _ a _ _ _ _ _ _ _ _=>a
 | _=>{posonlyargs:=[],args:=[],vararg:=none,kwonlyargs:=[],kw_defaults:=[],kwarg:=none,defaults:=[]}
def a0l (s:Stmt):List Stmt:=match s with
 | .FunctionDef _ _ b _ _ _ _ _ _ _=>b
 | _=>[]
def a0c (s:Stmt):Scope:=match s with
 | .FunctionDef _ _ _ _ _ _ sc _ _ _=>sc
 | _=>{kind:=.function,names:=[],isGenerator:=false,isCoroutine:=false}
abbrev CX0:CXT:=fun _ _ _ _ _ _=>False
abbrev E0:XK:=fun _ _ _=>False
theorem a1j {X:Cx}:b3z CX0 X E0:=fun _ _ _ _ _ _ _ h=>h.elim
structure Fun (K:PySem.W.Frag) (x qual:Str) (st:Stmt) (f:Addr) (fd:FuncData):Prop where
 ex:∃ (oc:Value) (od:Option Addr) (kV doc pm:Value) (an:Option Addr) (cdv ct:Value) (osl:Array (Option Value)),
  fd=PySem.W.fnOf x qual (a0p st) (a0l st) (a0c st) .none kV doc pm an cdv ct∧K.lookup f=some ⟨oc,od,.func fd,osl⟩∧PySem.W.codeIn K cdv qual=true
 kp:PySem.W.keepIn K (.ref f)=true
section
variable {P:Program} {w:World} {K:PySem.W.Frag} {mg:Str→Option Value} {base:Heap}
theorem Fun.ok {x qual:Str} {st:Stmt} {f:Addr} {fd:FuncData} {N ps:List Str} {k:Nat} {sp:Sp} (F:Fun K x qual st f fd) (S:a0o N ps (a0c st)) (len:∀ vs H Q E,sp vs H Q E→vs.length=ps.length)
  (hbody:∀ (cdv:Value) (A:Around) (outer:List Env) (s:Shared) (H:Hp) (vs:List V) (Q:VK) (E:XK),Room k (A.deeper (envOfC qual (a0c st) s.heap.objs.size f cdv))→sp vs H Q E →
   ∃ t,PSs (c4q CX0 P w K mg base N qual (a0c st) f cdv A outer s H E).nox (a0l st) t∧t {nx:=fun _ H'=>Q .non H',rt:=Q} (start N vs) H):a2j P w K mg base CX0 (k+1) f fd ps sp:=by
 obtain⟨oc,od,kV,doc,pm,an,cdv,ct,osl,rfl,lk,hcd⟩:=F.ex
 refine f3h lk hcd S len fun A outer s H vs Q E hr hsp=>?_
 obtain⟨t,h,q⟩:=hbody cdv A outer s H vs Q E hr hsp
 exact⟨t,h.nox,q⟩
theorem Fun.binds {x qual:Str} {st:Stmt} {f:Addr} {fd:FuncData} {ps:List Str} (F:Fun K x qual st f fd)
  (h:∀ (kV doc pm:Value) (an:Option Addr) (cdv ct:Value) (us:List Value),us.length=ps.length→bindArgs (PySem.W.fnOf x qual (a0p st) (a0l st) (a0c st) .none kV doc pm an cdv ct) ⟨us,[]⟩=pure (ps.zip us)):a0x K fd ps []:=by
 obtain⟨oc,od,kV,doc,pm,an,cdv,ct,osl,rfl,lk,hcd⟩:=F.ex
 exact .all (h kV doc pm an cdv ct)
theorem a0h {x qual:Str} {st:Stmt} {f:Addr} {oc:Value} {od an:Option Addr} {osl:Array (Option Value)} {kV doc pm cdv ct:Value} (l:K.lookup f=some ⟨oc,od,.func (PySem.W.fnOf x qual (a0p st) (a0l st) (a0c st) .none kV doc pm an cdv ct),osl⟩)
  (c:PySem.W.codeIn K cdv qual=true) (k:PySem.W.keepIn K (.ref f)=true):Fun K x qual st f (PySem.W.fnOf x qual (a0p st) (a0l st) (a0c st) .none kV doc pm an cdv ct):=⟨⟨oc,od,kV,doc,pm,an,cdv,ct,osl,rfl,l,c⟩,k⟩
end
theorem c3h {A:Around} {k:Nat} (hr:Room k A):A.units+1 < cLine:=Nat.lt_of_le_of_lt (Nat.add_le_add_left (by decide:1≤64) _) hr.units
section
variable {X:Cx}
theorem pv (i:Nat) {x:Str} {pos:Pos} (hN:X.N[i]?=some x:=by rfl) (hv:Vis X.env.scope x:=by first | exact Or.inl rfl | exact Or.inr (Or.inl rfl) | exact Or.inr (Or.inr rfl)) (hd:(x == ("__debug__":Str))=false:=by decide)
  (hcd:(x == ("__classdict__":Str))=false:=by decide):PE X (.Name x pos) (f6v i):=f6n hN hv hd hcd
end
theorem d0e {A B:Prop} (h:B):if false=true then A else B:=by
 rw[if_neg Bool.false_ne_true]
 exact h
theorem d4t {A B:Prop} (h:A):if true=true then A else B:=by
 rw[if_pos rfl]
 exact h
theorem a5n {c A B:Prop} [Decidable c] (h1:c→A) (h2:¬ c→B):if c then A else B:=by
 by_cases h:c
 ·rw[if_pos h]
  exact h1 h
 ·rw[if_neg h]
  exact h2 h
theorem e3a {c A B:Prop} [Decidable c] (hc:c) (h:B):if (!decide c)=true then A else B:=by
 rw[decide_eq_true hc]
 exact d0e h
def Same (H H':Hp):Prop:=∀ b o,H b=some o→H' b=some o
theorem Same.refl (H:Hp):Same H H:=fun _ _ h=>h
theorem Same.trans {H H1 H2:Hp} (a:Same H H1) (b:Same H1 H2):Same H H2:=fun c o h=>b c o (a c o h)
theorem Same.free {H H':Hp} (e:Same H H') {l:Addr} (h:H' l=Option.none):H l=Option.none:=by
 cases q:H l with
 | none=>rfl
 | some o =>
  rw[e l o q] at h
  cases h
theorem Same.seq {K:PySem.W.Frag} {H H':Hp} {a:Addr} {xs:List V} (e:Same H H') (h:SqL K H a xs):SqL K H' a xs:=by
 rcases h with (h | ⟨o,h⟩) | h
 ·exact .inl (.inl (e _ _ h))
 ·exact .inl (.inr ⟨o,e _ _ h⟩)
 ·exact .inr h
end L2
namespace My
open PySem PySem.Spec PyProof.Rows L2
section
variable {X:Cx}
theorem a7m:b7y X (.builtin "isinstance") (fun xs H Q=>∃ x t c b,xs=[x,V.ty c]∧d4y X.K H x t∧PySem.W.kitOne X.K t (.type c)=some b∧Q (.bl b) H):=by
 intro pins s σ H xs us Q I r h
 obtain⟨x,t,c,b,rfl,ty,e,q⟩:=h
 obtain⟨u,w',rfl,ru,rw'⟩:=e1x r
 cases rw'
 exact e8k I ru ty e fun tk=>⟨.bl b,H,I.tok tk,rfl,q⟩
end
section
variable {K:PySem.W.Frag}
theorem f1t:PySem.W.kitOne K (.type "int") (.type "int")=some true:=by
 show (if (Value.type "int" == Value.type "int")=true then some true else if PySem.W.kitMeta "int"=true then (fastBuiltinMro "int").map (·.contains (Value.type "int")) else none)=some true
 decide +kernel
theorem f1q:PySem.W.kitOne K (.type "int") (.type "bool")=some false:=by
 show (if (Value.type "int" == Value.type "bool")=true then some true else if PySem.W.kitMeta "bool"=true then (fastBuiltinMro "int").map (·.contains (Value.type "bool")) else none)=some false
 decide +kernel
theorem f6m:PySem.W.kitOne K (.type "int") (.type "str")=some false:=by
 show (if (Value.type "int" == Value.type "str")=true then some true else if PySem.W.kitMeta "str"=true then (fastBuiltinMro "int").map (·.contains (Value.type "str")) else none)=some false
 decide +kernel
theorem f7w:PySem.W.kitOne K (.type "str") (.type "int")=some false:=by
 show (if (Value.type "str" == Value.type "int")=true then some true else if PySem.W.kitMeta "int"=true then (fastBuiltinMro "str").map (·.contains (Value.type "int")) else none)=some false
 decide +kernel
theorem f1z:PySem.W.kitOne K (.type "str") (.type "str")=some true:=by
 show (if (Value.type "str" == Value.type "str")=true then some true else if PySem.W.kitMeta "str"=true then (fastBuiltinMro "str").map (·.contains (Value.type "str")) else none)=some true
 decide +kernel
theorem e6n:PySem.W.kitOne K (.type "tuple") (.type "tuple")=some true:=by
 show (if (Value.type "tuple" == Value.type "tuple")=true then some true else if PySem.W.kitMeta "tuple"=true then (fastBuiltinMro "tuple").map (·.contains (Value.type "tuple")) else none)=some true
 decide +kernel
end
theorem e0v {κ:Type} [DecidableEq κ] {kvs:List (κ×V)} {k:κ} {v:V} (h:b7j kvs k=some v):∃ kv∈kvs,kv.2=v:=by
 unfold b7j at h
 obtain⟨kv,e,rfl⟩:=Option.map_eq_some_iff.mp h
 exact⟨kv,List.mem_of_find?_eq_some e,rfl⟩
def d6s (kvs:List (Key×V)):Prop:=∀ kv∈kvs,∃ n,kv.2=V.int n
theorem d1k {α:Type} {xs:List α} {i:Int} (h0:0≤i) (h1:i < xs.length):∃ v,atI xs i=some v:=by
 have e:ixN xs.length i=some i.toNat:=by
  unfold ixN
  rw[if_pos h0,if_pos h1]
 have hl:i.toNat < xs.length:=by omega
 refine⟨xs[i.toNat],?_⟩
 unfold atI
 rw[e]
 exact List.getElem?_eq_getElem hl
theorem c1w {α:Type} {xs:List α} {i:Int} {v:α} (h:atI xs i=some v):v∈xs:=by
 obtain⟨j,_,e,_⟩:=d9q h
 exact List.mem_of_getElem? e
theorem f3c {c A B:Prop} [Decidable c] (hc:c) (h:A):if decide c=true then A else B:=by
 rw[if_pos (decide_eq_true hc)]
 exact h
theorem f5r {c A B:Prop} [Decidable c] (hc:¬ c) (h:B):if decide c=true then A else B:=by
 rw[if_neg (fun z=>hc (of_decide_eq_true z))]
 exact h
theorem _root_.L2.Same.upd {H:Hp} {p:Addr} {o:HO} (h:H p=none):Same H (upd H p o):=fun b u e=>by
 rw[a0d (a0u e h)]
 exact e
theorem _root_.L2.Same.again {H H':Hp} {p:Addr} {o:HO} (s:Same H H') (h:H p=none):Same H (L2.upd H' p o):=fun b u e=>by
 rw[a0d (a0u e h)]
 exact s b u e
open Builtin.Int (intBits)
theorem d6g:∀ {ns:List Int} {m:Int},m∈ns→intBits m≤PySem.W.WData.weightAll (ns.map PySem.W.WData.int)
 | n::r,m,h=>by
  rcases List.mem_cons.mp h with e | e
  ·subst e
   simp only [List.map_cons,PySem.W.WData.weightAll,PySem.W.WData.weight,Builtin.Int.intBits]
   omega
  ·have z:=d6g e
   simp only [List.map_cons,PySem.W.WData.weightAll]
   omega
theorem f4p {ns:List Int} (h:PySem.W.WData.layableAll [PySem.W.WData.list (ns.map .int)]=true):∀ m∈ns,intBits m≤1048576:=fun m hm=>by
 have h1:=(PySem.W.layW_cons h).1
 have h2:PySem.W.WData.weight (.list (ns.map .int))≤2 ^ 20:=of_decide_eq_true (Bool.and_eq_true_iff.mp h1).2
 have h3:=d6g hm
 have h4:PySem.W.WData.weight (.list (ns.map .int))=PySem.W.WData.weightAll (ns.map .int):=by simp only [PySem.W.WData.weight]
 have e:(2:Nat) ^ 20=1048576:=by decide
 omega
end My
namespace My
open PySem PySem.Spec PyProof.Rows L2
mutual
inductive Dt (K:PySem.W.Frag) (H:Hp):V→PyData→Prop where
 | non:Dt K H .non .none
 | bl (b:Bool):Dt K H (.bl b) (.bool b)
 | int (i:Int):Dt K H (.int i) (.int i)
 | str (x:Str):Dt K H (.str x) (.str x)
 | lst {a:Addr} {xs:List V} {ds:List PyData} (h:SqL K H a xs) (r:Dts K H xs ds):Dt K H (.ref a) (.list ds)
 | tup {a:Addr} {xs:List V} {ds:List PyData} (h:SqT K H a xs) (r:Dts K H xs ds):Dt K H (.ref a) (.tuple ds)
inductive Dts (K:PySem.W.Frag) (H:Hp):List V→List PyData→Prop where
 | nil:Dts K H [] []
 | cons {x:V} {d:PyData} {xs:List V} {ds:List PyData} (h:Dt K H x d) (r:Dts K H xs ds):Dts K H (x::xs) (d::ds)
end
section
variable {X:Cx} {pins:List (Addr×Obj)} {σ:L2.St} {H:Hp} {s:Shared}
mutual
theorem Dt.reads (I:Inv X pins σ H s) {v:V} {d:PyData} (h:Dt X.K H v d) {u:Value} (r:a2u v u):∃ as,Reads s.heap u d as:=by
 cases h with
 | non=>cases r;exact⟨_,.none⟩
 | bl b=>cases r;exact⟨_,.bool b⟩
 | int i=>obtain⟨t,rfl⟩:=r;exact⟨_,.int i t⟩
 | str x=>obtain⟨t,rfl⟩:=r;exact⟨_,.str x t⟩
 | lst h q =>
  cases r
  obtain⟨its,rv,⟨o,n,e,c,_,dd⟩,_⟩:=I.list h
  obtain⟨as,z⟩:=Dts.reads I q rv
  exact⟨_,.list e c dd (by simpa using z)⟩
 | tup h q =>
  cases r
  obtain⟨its,rv,⟨o,e,c,n,dd⟩,_⟩:=I.tuple h
  obtain⟨as,z⟩:=Dts.reads I q rv
  exact⟨_,.tuple e c dd (by simpa using z)⟩
theorem Dts.reads (I:Inv X pins σ H s) {vs:List V} {ds:List PyData} (h:Dts X.K H vs ds) {us:List Value} (r:a3c vs us):∃ as,ReadsAll s.heap us ds as:=by
 cases h with
 | nil=>cases r;exact⟨_,.nil⟩
 | cons h q =>
  cases r with
  | cons r1 r2 =>
   obtain⟨as,z⟩:=Dt.reads I h r1
   obtain⟨bs,y⟩:=Dts.reads I q r2
   exact⟨_,.cons z y⟩
end
end
section
variable {X:Cx}
def g0j (K:PySem.W.Frag):R2:=fun x y H Q=>∃ da db,Dt K H x da∧Dt K H y db∧SeqAt.shaped da=true∧SeqAt.shaped db=true∧Q (.bl (PyData.eqv da db)) H
def g1n (K:PySem.W.Frag):R2:=fun x y H Q=>∃ da db,Dt K H x da∧Dt K H y db∧SeqAt.shaped da=true∧SeqAt.shaped db=true∧Q (.bl (!PyData.eqv da db)) H
theorem f7z (hu:X.A.units+64 < cLine):OpR X (compareOp .Eq) (g0j X.K):=by
 intro pins s σ H x y v u Q I rx ry h
 obtain⟨da,db,ha,hb,sa,sb,q⟩:=h
 obtain⟨as,ra⟩:=ha.reads I rx
 obtain⟨bs,rb⟩:=hb.reads I ry
 exact SeqAt.compareEq_shaped ra rb sa sb hu ⟨.bl _,H,I,rfl,q⟩
theorem f7a (hu:X.A.units+64 < cLine):OpR X (compareOp .NotEq) (g1n X.K):=by
 intro pins s σ H x y v u Q I rx ry h
 obtain⟨da,db,ha,hb,sa,sb,q⟩:=h
 obtain⟨as,ra⟩:=ha.reads I rx
 obtain⟨bs,rb⟩:=hb.reads I ry
 exact SeqAt.compareNe_shaped ra rb sa sb hu ⟨.bl _,H,I,rfl,q⟩
end
end My
namespace My
open PySem PySem.Spec PyProof.Rows L2
theorem c0w {P:Program} {w:World} {H:Hp} {h:Heap} {a:Addr} {o:HO} (x:a2f P w H h a o):∃ ob,h.get? a=some ob:=by
 cases o with
 | lst xs=>obtain⟨_,_,_,_,e⟩:=x;exact⟨_,e⟩
 | tup xs=>obtain⟨_,_,_,ob,e,_⟩:=x;exact⟨_,e⟩
 | dK kvs=>obtain⟨_,_,_,_,o,_,_,e,_⟩:=x;exact⟨_,e⟩
 | dT kvs=>obtain⟨_,_,_,_,o,_,_,e,_⟩:=x;exact⟨_,e⟩
 | set S n=>obtain⟨o,_,_,_,e,_⟩:=x;exact⟨_,e⟩
 | ins C dx fs=>obtain⟨_,_,_,e,_⟩:=x;exact⟨_,e⟩
 | own y=>exact x
 | xd fs=>obtain⟨_,⟨_,_,_,e,_⟩,_⟩:=x;exact⟨_,e⟩
 | rng lo hi=>obtain⟨_,_,_,e⟩:=x;exact⟨_,e⟩
 | frz ob u=>obtain⟨e,_⟩:=x;exact⟨_,e⟩
 | tbl ps=>exact⟨_,(show h.get? a=some _ from x)⟩
 | met f y=>exact⟨_,(show h.get? a=some _ from x)⟩
 | ext φ=>obtain⟨_,e,_⟩:=x;exact e
section
variable {X:Cx} {pins:List (Addr×Obj)} {σ:L2.St} {H:Hp} {s:Shared}
theorem a4r (I:Inv X pins σ H s) {D:Addr} (h:s.heap.get? D=none):H D=none:=by
 cases q:H D with
 | none=>rfl
 | some u =>
  obtain⟨ob,e⟩:=c0w (I.hok D u q)
  rw[h] at e
  cases e
end
theorem b5o:∀ {xs:List V} {us:List Value} {i:Nat} {u:Value},a3c xs us→us[i]?=some u→∃ x,xs[i]?=some x∧a2u x u
 | _,_,_,_,.nil,e=>by simp at e
 | _,_,0,_,.cons r _,e=>by simp at e;subst e;exact⟨_,rfl,r⟩
 | _,_,i+1,u,.cons _ t,e=>by
  obtain⟨x,h1,h2⟩:=b5o (i:=i) (u:=u) t (by simpa using e)
  exact⟨x,by simpa using h1,h2⟩
end My
namespace My
open PySem PySem.Spec PyProof.Rows L2
def f5h (o:Obj):Option Value:=match o.data with
 | .fields vs=>vs[2]?
 | _=>none
abbrev e1k (a b:Obj):Prop:=a.dict=b.dict∧f5h a=f5h b
inductive a5h {α:Type}:Sem α→Prop
 | pure (a:α):a5h (.pure a)
 | raise (e:Value):a5h (.raise e)
 | stop (x:String):a5h (.unsupported x)
 | rule {t k}:(∀ u,a5h (k u))→a5h (.rule t k)
 | at {p k}:(∀ u,a5h (k u))→a5h (.at p k)
 | load {a p k}:(∀ o,a5h (k o))→a5h (.load a p k)
 | update {a p f k}:(∀ o:Obj,e1k (f o) o∧(o.isFreed=false→(f o).isFreed=false))→(∀ u,a5h (k u))→a5h (.update a p f k)
 | alloc {o k}:(∀ a,a5h (k a))→a5h (.alloc o k)
 | point {l k}:(∀ u,a5h (k u))→a5h (.point l k)
 | fresh {k}:(∀ u,a5h (k u))→a5h (.fresh k)
 | stack {k}:(∀ u,a5h (k u))→a5h (.stack k)
theorem a5h.bind {α β:Type} {t:Sem α} {f:α→Sem β} (h:a5h t) (hf:∀ a,a5h (f a)):a5h (t>>=f):=by
 induction h with
 | pure a=>exact hf a
 | raise e=>exact .raise e
 | stop x=>exact .stop x
 | rule _ ih=>exact .rule ih
 | «at» _ ih=>exact .at ih
 | load _ ih=>exact .load ih
 | update h _ ih=>exact .update h ih
 | alloc _ ih=>exact .alloc ih
 | point _ ih=>exact .point ih
 | fresh _ ih=>exact .fresh ih
 | stack _ ih=>exact .stack ih
def DK (h h':Heap):Prop:=∀ b o,h.get? b=some o→∃ o',h'.get? b=some o'∧e1k o' o
theorem DK.refl (h:Heap):DK h h:=fun _ o e=>⟨o,e,rfl,rfl⟩
theorem DK.trans {h1 h2 h3:Heap} (x:DK h1 h2) (y:DK h2 h3):DK h1 h3:=fun b o e=>let ⟨o1,e1,d1⟩:=x b o e;let ⟨o2,e2,d2⟩:=y b o1 e1;⟨o2,e2,d2.1.trans d1.1,d2.2.trans d1.2⟩
theorem DK.upd {h:Heap} {a:Addr} {f:Obj→Obj} (hf:∀ o:Obj,e1k (f o) o∧(o.isFreed=false→(f o).isFreed=false)):DK h (h.update a f):=fun b o e=>by
 by_cases q:b=a
 ·subst q
  exact⟨f o,Heap.get?_update_self _ e ((hf o).2 (Heap.get?_some_iff.mp e).2),(hf o).1⟩
 ·exact⟨o,(Heap.get?_update_ne _ _ _ _ q).trans e,rfl,rfl⟩
theorem f2o {α:Type} {M:Model} {Γ:PySem.Ctx} {t:Sem α} (c:a5h t):∀ {Q:α→Pos→Shared→Prop} {E:Value→Pos→Shared→Prop} {p:Pos} {s:Shared},
  Sem.wp M Γ t Q E p s→Sem.wp M Γ t (fun a p' s'=>Q a p' s'∧DK s.heap s'.heap) (fun e p' s'=>E e p' s'∧DK s.heap s'.heap) p s:=by
 induction c with
 | pure a=>intro Q E p s h;exact⟨h,.refl _⟩
 | raise e=>intro Q E p s h;exact⟨h,.refl _⟩
 | stop x=>intro Q E p s h;exact h
 | rule _ ih=>intro Q E p s h;exact ih () h
 | «at» _ ih=>intro Q E p s h;exact ih () h
 | load _ ih=>intro Q E p s h;obtain⟨o,e,h⟩:=h;exact⟨o,e,ih o h⟩
 | update hf _ ih =>
  intro Q E p s h
  obtain⟨e,h⟩:=h
  refine⟨e,?_⟩
  exact Sem.wp_mono M Γ _ (fun a p' s' ⟨q,d⟩=>⟨q,DK.trans (DK.upd hf) d⟩) (fun e p' s' ⟨q,d⟩=>⟨q,DK.trans (DK.upd hf) d⟩) _ _ (ih () h)
 | alloc _ ih=>intro Q E p s h;exact Sem.wp_mono M Γ _ (fun a p' s' ⟨q,d⟩=>⟨q,DK.trans (fun b o e=>⟨o,Heap.get?_push_of_some _ e,rfl,rfl⟩) d⟩) (fun e p' s' ⟨q,d⟩=>⟨q,DK.trans (fun b o e=>⟨o,Heap.get?_push_of_some _ e,rfl,rfl⟩) d⟩) _ _ (ih _ h)
 | point _ ih=>intro Q E p s h;exact ih () h
 | fresh _ ih=>intro Q E p s h;exact ih _ h
 | stack _ ih=>intro Q E p s h;exact ih _ h
theorem a5o {α:Type} {M:Model} {A:Around} {t:Sem α} {Q:α→Shared→Prop} {E:Value→Shared→Prop} {s:Shared} (c:a5h t) (h:wpAny M A t Q E s) :
  wpAny M A t (fun a s'=>Q a s'∧DK s.heap s'.heap) (fun e s'=>E e s'∧DK s.heap s'.heap) s:=fun Γ p hΓ=>f2o c (h Γ p hΓ)
theorem c8u (a:Addr):a5h (load a):=.load fun _=>.pure _
theorem d3h (v:Value):a5h (fieldsOf v):=by
 unfold fieldsOf
 cases v<;>first | exact .stop _ | skip
 refine a5h.bind (c8u _) fun o=>?_
 split<;>first | exact .stop _ | exact .pure _
theorem b7f (v:Value) (i:Nat):a5h (field v i):=by
 unfold field
 refine a5h.bind (d3h _) fun vs=>?_
 split<;>first | exact .stop _ | exact .pure _
theorem d0l {i:Nat} (x:Value) (hi:i≠2) (o:Obj):e1k (Obj.mapFields (·.setIfInBounds i x) o) o∧(o.isFreed=false→(Obj.mapFields (·.setIfInBounds i x) o).isFreed=false):=by
 obtain⟨c,d,da,sl⟩:=o
 cases da<;>first | exact⟨⟨rfl,rfl⟩,fun h=>h⟩ | exact⟨⟨rfl,Array.getElem?_setIfInBounds_ne hi⟩,fun h=>h⟩
theorem b3o (v:Value) (i:Nat) (x:Value) (hi:i≠2:=by decide):a5h (setField v i x):=by
 unfold setField
 cases v<;>first | exact .stop _ | skip
 show a5h (updateField _ _ _)
 unfold updateField
 refine a5h.bind (c8u _) fun o=>?_
 split
 ·split
  ·exact .update (d0l _ hi) fun _=>.pure _
  ·exact .stop _
 ·exact .stop _
theorem b0i (e:Value) (f:Option Addr):a5h (setFlight e f):=by
 unfold setFlight
 refine a5h.bind (b7f _ _) fun tb=>?_
 split
 ·exact b3o _ _ _
 ·exact .pure _
theorem e2i:a5h underTheClaimsCaller:=.stack fun _=>.pure _
theorem d1m:∀ l:List Env,a5h (readyFrames l)
 | []=>.pure _
 | env::outer=>by
  unfold readyFrames
  split
  ·refine a5h.bind (c8u _) fun o=>?_
   split
   ·exact .pure _
   ·refine a5h.bind ?_ fun imp=>a5h.bind ?_ fun back=>a5h.bind ?_ fun _=>d1m outer
    ·unfold behindIsImport
     split
     ·exact .pure _
     ·split
      ·exact .pure _
      ·exact a5h.bind (b7f _ _) fun _=>.pure _
    ·unfold keptBack
     split
     ·split
      ·exact .pure _
      ·exact a5h.bind e2i fun _=>.pure _
     ·exact .pure _
    ·refine .update (fun o=>⟨⟨rfl,rfl⟩,fun h=>?_⟩) fun _=>.pure _
     obtain⟨c,d,da,sl⟩:=o
     cases da<;>exact h
  ·exact .stop _
theorem d5p (env:Env):a5h (PySem.frameOf env):=by
 unfold PySem.frameOf
 refine a5h.bind (.stack fun _=>.pure _) fun l=>a5h.bind ?_ fun r=>?_
 ·unfold frameObject
  split
  ·exact .pure _
  ·exact a5h.bind (d1m _) fun _=>.pure _
 ·split
  ·exact .pure _
  ·exact .stop _
theorem d6u (ty:String) (da:Data):a5h (newObjAsIs (.type ty) da):=.alloc fun _=>.pure _
theorem d0h (ty:String) (vs:List Value):a5h (newFields ty vs):=by
 unfold newFields newObj
 dsimp only
 split
 ·exact a5h.bind (.stop _) fun _=>d6u _ _
 ·exact d6u _ _
theorem d3d (a b c d e:Value) (pl:List Value):a5h (EntryCells.newEntry a b c d e pl):=d0h _ _
theorem e1y (f:Addr) (b:Bool):a5h (entryPlaceOf f b):=by
 unfold entryPlaceOf
 refine a5h.bind (.stack fun _=>.pure _) fun acts=>?_
 split<;>exact .pure _
theorem a7b (e:Value) (env:Env):a5h (noteFrame e env):=by
 unfold noteFrame
 have last:∀ (f:Addr) (head:Value),a5h (do setField e 1 (← EntryCells.newEntry head (← PySem.frameOf env) .none (rawInt f) .none (← entryPlaceOf f (head != .none)))):=fun f head =>
  a5h.bind (d5p _) fun a=>a5h.bind (e1y _ _) fun pl=>a5h.bind (d3d _ _ _ _ _ _) fun b=>b3o _ _ _
 split
 ·refine a5h.bind (b7f _ _) fun head=>?_
  split
  ·refine a5h.bind (b7f _ _) fun x=>?_
   split
   ·exact .pure _
   ·exact a5h.bind (b3o _ _ _) fun _=>last _ _
  ·exact last _ _
 ·exact .stop _
theorem b5m (e:Value) (env:Env):a5h (leaving env e):=a5h.bind (a7b _ _) fun _=>b0i _ _
end My
namespace My
open PySem PySem.Spec PyProof.Rows L2
def CXW (P:Program) (w:World):CXT:=fun outer H s E e s' =>
 ∃ (ea:Addr) (cls a0:Value) (B:Heap) (H':Hp) (d:Option Addr),e=.ref ea∧s'.os=s.os∧AllBare s'.gens∧Un (frs outer) [] H H' s.heap s'.heap∧HOk P w H' s'.heap∧Heap.FlyingW B outer ea cls a0 s'.heap ∧
  (∀ b o,s'.heap.get? b=some o→(s.heap.get? b≠none∨H' b≠none)→b ∉ frs outer→B.get? b=some o)∧H' ea=none∧s.heap.get? ea=none∧(∃ o,s'.heap.get? ea=some o∧o.dict=d∧(f5h o=some .none∨∀ d',E cls d' H'))∧E cls d H'
section
variable {X:Cx} {pins:List (Addr×Obj)} {σ:L2.St} {H H':Hp} {s:Shared} {h1 h2 B:Heap}
theorem d8c (I:Inv X pins σ H s):∀ b∈frs X.stack,∃ o,s.heap.get? b=some o:=fun b hb=>let ⟨_,o,e,_⟩:=I.stack.mem hb;⟨o,e⟩
theorem e4x (I:Inv X pins σ H s) (un:Un (frs X.stack) [] H H' s.heap h1) (hok:HOk X.prog X.w H' h1) (bk:∀ b o,h1.get? b=some o→(s.heap.get? b≠none∨H' b≠none)→b ∉ frs X.stack→B.get? b=some o)
  (hst:∀ b o,B.get? b=some o→h2.get? b=some o) (hsm:h1.UpToSlots h2) (hfn:∀ b∈frs X.stack,∃ o,h1.get? b=some o∧∀ vs,o.data≠.fields vs) :
  Un (frs X.stack) [] H H' s.heap h2∧HOk X.prog X.w H' h2∧(∀ b o,h2.get? b=some o→(s.heap.get? b≠none∨H' b≠none)→b ∉ frs X.stack→B.get? b=some o)∧∀ b∈frs X.stack,H' b=none:=by
 have nf:∀ b∈frs X.stack,H' b=none:=fun b hb=>by
  obtain⟨o,e⟩:=d8c I b hb
  exact un.free b o e (I.stkFree b hb) (by simp)
 have keep:∀ b o,h1.get? b=some o→(s.heap.get? b≠none∨H' b≠none)→b ∉ frs X.stack→h2.get? b=some o:=fun b o e k n=>hst b o (bk b o e k n)
 refine⟨⟨fun b o e n hb _=>?_,fun b o e n hb _=>?_,un.free,fun b o e _=>?_,un.tups,un.frzs,un.tbls⟩,fun a o e=>?_,fun b o e k n=>?_,nf⟩
 ·exact keep b o (un.keep b o e n hb (by simp)) (.inl (by rw[e];simp)) hb
 ·obtain⟨sl,e1⟩:=un.slot b o e n hb (by simp)
  obtain⟨o',e2,hd⟩:=hfn b hb
  rw[e1] at e2
  cases e2
  obtain⟨sl',e3⟩:=hsm b _ e1 hd
  exact⟨sl',e3⟩
 ·obtain⟨o',e1⟩:=un.there b o e (by simp)
  by_cases hb:b∈frs X.stack
  ·obtain⟨o2,e2,hd⟩:=hfn b hb
   obtain⟨sl',e3⟩:=hsm b _ e2 hd
   exact⟨_,e3⟩
  ·exact⟨o',keep b o' e1 (.inl (by rw[e];simp)) hb⟩
 ·refine(hok a o e).stay (fun b u hb q=>keep b u q (.inr ?_) (fun z=>?_)) (fun _ q=>q) fun _ _ q=>q
  ·rcases hb with z | z
   ·rw[z,e];simp
   ·rw[z];simp
  ·have q':=nf b z
   rcases hb with z | z
   ·rw[z,e] at q';cases q'
   ·rw[z] at q';cases q'
 ·have there1:∃ o',h1.get? b=some o':=by
   rcases k with k | k
   ·cases q:s.heap.get? b with
    | none=>exact(k q).elim
    | some o0=>exact un.there b o0 q (by simp)
   ·cases q:H' b with
    | none=>exact(k q).elim
    | some u=>exact c0w (hok b u q)
  obtain⟨o',e1⟩:=there1
  have e2:=bk b o' e1 k n
  have e3:=hst b o' e2
  rw[e] at e3
  cases e3
  exact e2
end
section
variable {P:Program} {w:World} {K:PySem.W.Frag} {mg:Str→Option Value} {base:Heap} {N:List Str} {qual:Str} {scope:Scope} {f:Addr} {cd:Value} {A:Around} {outer:List Env} {s₀:Shared} {H₀:Hp} {E:XK}
 {pins:List (Addr×Obj)} {σ:L2.St} {H H':Hp} {s:Shared}
theorem d7d {ea:Addr} {d:Option Addr} {cls a0:Value} {B h1 h2:Heap} {s1:Shared} (I:Inv (c4q (CXW P w) P w K mg base N qual scope f cd A outer s₀ H₀ E) pins σ H s) (hos:s1.os=s.os) (hb:AllBare s1.gens)
  (un:Un (frs (envOfC qual scope s₀.heap.objs.size f cd::outer)) [] H H' s.heap h1) (hok:HOk P w H' h1)
  (bk:∀ b o,h1.get? b=some o→(s.heap.get? b≠none∨H' b≠none)→b ∉ frs (envOfC qual scope s₀.heap.objs.size f cd::outer)→B.get? b=some o)
  (fl:Heap.FlyingW B outer ea cls a0 h2) (hsm:h1.UpToSlots h2) (hfn:∀ b∈frs (envOfC qual scope s₀.heap.objs.size f cd::outer),∃ o,h1.get? b=some o∧∀ vs,o.data≠.fields vs)
  (n1:H' ea=none) (n2:s.heap.get? ea=none) (dd:∃ o,h2.get? ea=some o∧o.dict=d∧(f5h o=some .none∨∀ d',E cls d' H')) (hE:E cls d H'):CXW P w outer H₀ s₀ E (.ref ea) {s1 with heap:=h2}:=by
 obtain⟨un2,hok2,bk2,nf⟩:=e4x I un hok bk fl.1 hsm hfn
 have sub:∀ b∈frs outer,b∈frs (envOfC qual scope s₀.heap.objs.size f cd::outer):=fun b hb=>by
  obtain⟨env,he,hf⟩:=List.mem_filterMap.mp hb
  exact List.mem_filterMap.mpr ⟨env,List.mem_cons_of_mem _ he,hf⟩
 have notin:∀ b o,s₀.heap.get? b=some o→b ∉ frs outer→b ∉ frs (envOfC qual scope s₀.heap.objs.size f cd::outer):=fun b o e hb hm=>by
  rcases List.mem_cons.mp (I.stkSub b hm) with z | z
  ·exact absurd (Nat.lt_of_lt_of_le (Heap.lt_size e) (z ▸ I.ok.above)) (Nat.lt_irrefl _)
  ·exact hb z
 refine⟨ea,cls,a0,B,H',d,rfl,hos.trans I.os,hb,⟨fun b o e n hb _=>?_,fun b o e n hb _=>?_,fun b o e n _=>?_,fun b o e _=>?_,fun b xs e=>un2.tups b xs (I.base.tups b xs e),fun b o u e=>un2.frzs b o u (I.base.frzs b o u e),fun b ps e=>?_⟩,hok2,fl,fun b o e k hb=>?_,n1,?_,dd,hE⟩
 ·exact un2.keep b o (I.base.keep b o e n hb (by simp[c4q])) (I.base.free b o e n (by simp[c4q])) (notin b o e hb) (by simp)
 ·obtain⟨sl,e1⟩:=I.base.slot b o e n hb (by simp[c4q])
  obtain⟨sl',e2⟩:=un2.slot b _ e1 (I.base.free b o e n (by simp[c4q])) (sub b hb) (by simp)
  exact⟨sl',e2⟩
 ·obtain⟨o',e1⟩:=I.base.there b o e (by simp[c4q])
  exact un2.free b o' e1 (I.base.free b o e n (by simp[c4q])) (by simp)
 ·obtain⟨o',e1⟩:=I.base.there b o e (by simp[c4q])
  exact un2.there b o' e1 (by simp)
 ·obtain⟨m1,e1⟩:=I.base.tbls b ps e
  obtain⟨m2,e2⟩:=un2.tbls b _ e1
  exact⟨m1++m2,by rw[e2,Array.append_assoc]⟩
 ·rcases k with k | k
  ·cases q:s₀.heap.get? b with
   | none=>exact(k q).elim
   | some o0 =>
    obtain⟨o',e1⟩:=I.base.there b o0 q (by simp[c4q])
    exact bk2 b o e (.inl (by rw[e1];simp)) (notin b o0 q hb)
  ·exact bk2 b o e (.inr k) fun z=>k (nf b z)
 ·cases q:s₀.heap.get? ea with
  | none=>rfl
  | some o0 =>
   obtain⟨o',e1⟩:=I.base.there ea o0 q (by simp[c4q])
   rw[n2] at e1
   cases e1
theorem d7n {ea:Addr} {cls:Value} {vs:List Value} {h1:Heap} (I:Inv (c4q (CXW P w) P w K mg base N qual scope f cd A outer s₀ H₀ E) pins σ H s) (hm:Heap.MadeExcOf s.heap h1 ea cls vs) (hE:E cls none H) :
  (c4q (CXW P w) P w K mg base N qual scope f cd A outer s₀ H₀ E).xe (.ref ea) {s with heap:=h1}:=by
 have hin:∀ env∈(envOfC qual scope s₀.heap.objs.size f cd::outer),∀ b,env.frame=some b→b∈frs (envOfC qual scope s₀.heap.objs.size f cd::outer):=fun env he b hb=>List.mem_filterMap.mpr ⟨env,he,hb⟩
 have hl:=PySem.W.funFrames_hide I.stack hin
 refine wpAny_mono (a5o (b5m _ _) (wpAny_leaves_madeW (Q:=fun _ s'=>∃ h2 t,s'={s with heap:=h2}∧Heap.FlyingW (PySem.W.hideAll s.heap (frs (envOfC qual scope s₀.heap.objs.size f cd::outer))) outer ea cls (.ref t) h2∧h1.UpToSlots h2)
  (base:=PySem.W.hideAll s.heap (frs (envOfC qual scope s₀.heap.objs.size f cd::outer))) (h:=s.heap) I.ok.frames rfl (fun b o q=>PySem.W.of_hideAll _ q) hl hm fun h2 t x1 _ _ x4=>⟨h2,t,rfl,x1,x4⟩)) (fun _ s' ⟨⟨h2,t,e,x1,x4⟩,dk⟩=>?_) fun _ _ z=>z.1
 subst e
 obtain⟨t',he',_⟩:=hm.there
 refine d7d (s1:={s with heap:=h1}) I rfl I.bare (Un.kept fun b u q=>hm.keeps b u q) (I.hok.kept fun b u q=>hm.keeps b u q) (fun b o e k n=>?_) x1 x4 (fun b hb=>?_) (a4r I hm.new) hm.new (let ⟨o',q1,q2⟩:=dk ea _ he';⟨o',q1,q2.1,.inl (q2.2.trans rfl)⟩) hE
 ·have e1:∃ o',s.heap.get? b=some o':=by
   rcases k with k | k
   ·cases q:s.heap.get? b with
    | none=>exact(k q).elim
    | some o0=>exact⟨o0,rfl⟩
   ·cases q:H b with
    | none=>exact(k q).elim
    | some u=>exact c0w (I.hok b u q)
  obtain⟨o',e1⟩:=e1
  have e2:=hm.keeps b o' e1
  rw[e] at e2
  cases e2
  exact PySem.W.hideAll_get _ e1 n
 ·obtain⟨_,o,e,hd⟩:=I.stack.mem hb
  exact⟨o,hm.keeps b o e,hd⟩
theorem e2f {E':XK} (hE:∀ cls d H',E' cls d H'→E cls d H'):b3z (CXW P w) (c4q (CXW P w) P w K mg base N qual scope f cd A outer s₀ H₀ E) E':=by
 intro pins σ H s e s' I h
 obtain⟨ea,cls,a0,B,H',d,rfl,os,bare,un,hok,fl,bk,n1,n2,⟨o,ho,hd⟩,hw⟩:=h
 refine wpAny_mono (a5o (b5m _ _) (wpAny_leaves_onW (Q:=fun _ s''=>∃ h2,s''={s' with heap:=h2}∧Heap.FlyingW B outer ea cls a0 h2∧s'.heap.UpToSlots h2) I.ok.frames rfl fl fun h2 x1 x2=>⟨h2,rfl,x1,x2⟩)) (fun _ s'' ⟨⟨h2,e,x1,x2⟩,dk⟩=>?_) fun _ _ z=>z.1
 subst e
 obtain⟨o2,ho2,hd2⟩:=dk ea o ho
 exact d7d (s1:=s') I os bare un hok bk x1 x2 (fun b hb=>(fl.2.2.1.mem hb).2) n1 n2 ⟨o2,ho2,hd2.1.trans hd.1,hd.2.imp (fun q=>hd2.2.trans q) fun q d'=>hE _ _ _ (q d')⟩ (hE _ _ _ hw)
theorem b0l {x qual:Str} {st:Stmt} {f:Addr} {fd:FuncData} {N ps:List Str} {k:Nat} {sp:Sp} (F:Fun K x qual st f fd) (S:a0o N ps (a0c st)) (len:∀ vs H Q E,sp vs H Q E→vs.length=ps.length)
  (hbody:∀ (cdv:Value) (A:Around) (outer:List Env) (s:Shared) (H:Hp) (vs:List V) (Q:VK) (E:XK),Room k (A.deeper (envOfC qual (a0c st) s.heap.objs.size f cdv))→sp vs H Q E →
   ∃ t,PSs (c4q (CXW P w) P w K mg base N qual (a0c st) f cdv A outer s H E) (a0l st) t∧t {nx:=fun _ H'=>Q .non H',rt:=Q} (start N vs) H):a2j P w K mg base (CXW P w) (k+1) f fd ps sp:=by
 obtain⟨oc,od,kV,doc,pm,an,cdv,ct,osl,rfl,lk,hcd⟩:=F.ex
 exact f3h lk hcd S len fun A outer s H vs Q E hr hsp=>hbody cdv A outer s H vs Q E hr hsp
structure f8s (K:PySem.W.Frag) (mg:Str→Option Value) (x:Str) (C:Addr):Prop where
 bound:mg x=some (.ref C)
 ok:PySem.W.excIn K C [.type "ValueError",.type "Exception",.type "BaseException",.type "object"] "ValueError.__new__"=true
end
end My
namespace My
open PySem PySem.Spec PyProof.Rows L2
theorem f3r {K:PySem.W.Frag} {h:Heap} {C:Addr} {bmB:List Value} {nid:String} (X:K.In h) (q:PySem.W.excIn K C bmB nid=true) :
  ∃ bm N nm qn bs hd sn sub ab col dd k0 k1 k2 k3 k5,∃ mN:Str→Option Value,h.get? C=some (excClassObj nm qn C N bs bm hd sn sub ab col dd k0 k1 k2 k3 k5 nid)∧h.Ns N mN∧mN "__init__"=none∧OwnTail h bmB bm:=by
 unfold PySem.W.excIn at q
 split at q
 ·next dd cdat slots lk =>
  split at q
  ·next C2 rest a0 a1 a2 a3 n a5 em es =>
   simp only [Bool.and_eq_true,beq_iff_eq,Bool.not_eq_true'] at q
   obtain⟨⟨⟨⟨⟨e1,e2⟩,e3⟩,e4⟩,e5⟩,e6⟩:=q
   subst e1 e2
   obtain⟨c1,c2,c3,c4,c5,c6,c7,c8,c9,c10,c11⟩:=cdat
   dsimp only at em e3 e5 e6
   subst em e3
   obtain⟨lst⟩:=slots
   have el:lst=[a0,a1,a2,a3,some (.builtin n),a5]:=es
   subst el
   refine⟨rest,_,_,_,_,_,_,_,_,_,dd,a0,a1,a2,a3,a5,h.nsMap c4,X _ _ lk,?_,?_,PySem.W.tail_of_in X e4⟩
   ·exact .of_isNs (PySem.W.isNs_of_in X e5)
   ·exact PySem.W.nsMap_none_of_in X e5 e6
  ·cases q
 ·cases q
section
variable {P:Program} {w:World} {K:PySem.W.Frag} {mg:Str→Option Value} {base:Heap} {N:List Str} {qual:Str} {scope:Scope} {f:Addr} {cd:Value} {A:Around} {outer:List Env} {s₀:Shared} {H₀:Hp} {E:XK}
theorem e0s {x:Str} {C:Addr} {e₀:Expr} {te:TE} {np cpos pos:Pos} (T:f8s K mg x C) (hg:Gl (c4q (CXW P w) P w K mg base N qual scope f cd A outer s₀ H₀ E) x)
  (he:PE (c4q (CXW P w) P w K mg base N qual scope f cd A outer s₀ H₀ E) e₀ te) (hd:(x == ("__debug__":Str))=false:=by decide)
  (ht:backTo cpos (starEach [e₀] (envOfC qual scope s₀.heap.objs.size f cd))=[(false,eval e₀ (envOfC qual scope s₀.heap.objs.size f cd))]:=by rfl) :
  PS (c4q (CXW P w) P w K mg base N qual scope f cd A outer s₀ H₀ E) (.Raise (some (.Call (.Name x np) [e₀] [] cpos)) none pos) (fun _ σ H=>te σ H fun _ H1=>E (.ref C) none H1):=by
 constructor;intro pins s σ H D I h
 obtain⟨bm,Nn,nm,qn,bs,hdc,sn,sub,ab,col,dd,k0,k1,k2,k3,k5,mN,hC,hN,hni,TL⟩:=f3r I.ok.mod.kin T.ok
 refine wpAny_Raise_call_subT (C:=C) (nm:=nm) (q:=qn) (N:=Nn) (bs:=bs) (bm:=bm) (hdct:=hdc) (sn:=sn) (sub:=sub) (ab:=ab) (col:=col) (dd:=dd) (k0:=k0) (k1:=k1) (k2:=k2) (k3:=k3) (k5:=k5)
  PySem.F.excBase_ValueError (mN:=mN) (TL.hasType PySem.F.excBase_ValueError.hasBase) (I.ok.hd rfl) ?_ hni (b3u I hg T.bound ⟨rfl,?_⟩ hd)
 ·show (backTo cpos (starEach [e₀] (envOfC qual scope s₀.heap.objs.size f cd))).any (·.1)=false
  rw[ht]
  rfl
 ·show wpAny _ _ (evalArgs (.ref C) true (backTo cpos (starEach [e₀] (envOfC qual scope s₀.heap.objs.size f cd))) []) _ _ _
  rw[ht]
  refine Calls.evalArgs_plain (Calls.spliced_cons (thn (he pins s σ H _ I h) fun u s1 ⟨v,H1,I1,r1,q1⟩=>Calls.spliced_nil ?_))
  refine⟨rfl,(by show 1≤sizeLine;decide),I1.bk _ _ hC,hN.keeps I1.bk,TL.keeps I1.bk,fun h' ea hm=>d7n I1 hm q1⟩
end
section
variable {X:Cx}
abbrev d8o (X:Cx) (ea:Addr):Cx:={X with A:=X.A.mark (some (.ref ea)),calm:=false,xe:=fun _ _=>False}
theorem e1e {pins:List (Addr×Obj)} {σ:L2.St} {H:Hp} {s:Shared} (I:Inv X pins σ H s) (ea:Addr):Inv (d8o X ea) pins σ H s :=
 ⟨⟨I.ok.mod,I.ok.kind,I.ok.glob,I.ok.blt,I.ok.above,I.ok.inj,I.ok.has,I.ok.cab,(fun z=>nomatch z),I.ok.frames,I.ok.stk,I.ok.exf,I.ok.bs,I.ok.bsz,I.ok.noex,I.ok.exfs,I.ok.funs,I.ok.frf⟩,I.os,I.bare,I.base,I.loc,I.cell,I.free,I.freeC,I.pin,I.hok,I.len⟩
theorem b7s {pins:List (Addr×Obj)} {σ:L2.St} {H:Hp} {s:Shared} {ea:Addr} (ok:X.Ok) (I:Inv (d8o X ea) pins σ H s):Inv X pins σ H s :=
 ⟨ok,I.os,I.bare,I.base,I.loc,I.cell,I.free,I.freeC,I.pin,I.hok,I.len⟩
theorem e7h {pins:List (Addr×Obj)} {D:d7t} {fl:Flow} {s:Shared} {ea:Addr} (ok:X.Ok) (h:SP (d8o X ea) pins D fl s):SP X pins D fl s:=by
 cases fl with
 | next=>obtain⟨σ',H',I,q⟩:=h;exact⟨σ',H',b7s ok I,q⟩
 | brk=>obtain⟨σ',H',I,q⟩:=h;exact⟨σ',H',b7s ok I,q⟩
 | cont=>obtain⟨σ',H',I,q⟩:=h;exact⟨σ',H',b7s ok I,q⟩
 | ret u=>obtain⟨v,σ',H',I,r,q⟩:=h;exact⟨v,σ',H',b7s ok I,r,q⟩
end
end My
namespace My
open PySem PySem.Spec PyProof.Rows L2
section
variable {X:Cx}
theorem f3t {pins:List (Addr×Obj)} {σ:L2.St} {H:Hp} {s:Shared} {D:Addr} {h':Heap} {o:HO} {t':Nat} (I:Inv X pins σ H s) (k:∀ b u,s.heap.get? b=some u→h'.get? b=some u) (hD:s.heap.get? D=none)
  (new:a2f X.prog X.w (upd H D o) h' D o):Inv X pins σ (upd H D o) {s with heap:=h',toks:=t'}:=by
 have nD:=a4r I hD
 have neD:∀ b u,s.heap.get? b=some u→b≠D:=fun b u e z=>by rw[z,hD] at e;cases e
 refine I.un ⟨fun b u q _ _ _=>k b u q,fun b u q _ _ _=>⟨u.slots,k b u q⟩,fun b u q n _=>by rw[a0d (neD b u q)];exact n,fun b u q _=>⟨u,k b u q⟩,fun b xs q=>by rw[a0d (a0u q nD)];exact q,
  fun b u xs q=>by rw[a0d (a0u q nD)];exact q,fun b ps q=>⟨#[],by rw[a0d (a0u q nD),q];simp⟩⟩ fun b u e=>?_
 by_cases hb:b=D
 ·subst hb
  rw[a0b] at e
  cases e
  exact new
 ·rw[a0d hb] at e
  exact(I.hok b u e).stay (fun c v _ q=>k c v q) (fun c q=>by rw[a0d (a0u q nD)];exact q) fun c xs q=>by rw[a0d (a0u q nD)];exact q
theorem e7g (hc:X.calm=true):b7y X (.builtin "all") (fun xs H Q=>∃ (p:Addr) (bs:List Bool),xs=[V.ref p]∧SqL X.K H p (bs.map V.bl)∧Q (.bl (bs.all id)) H):=by
 intro pins s σ H xs us Q I r h
 obtain⟨p,bs,rfl,hx,q⟩:=h
 obtain⟨u,rfl,ru⟩:=c6m r
 cases ru
 obtain⟨its,rv,pl,_⟩:=I.list hx
 have hlen:=rv.length
 rw[List.length_map] at hlen
 refine call_all_walk (wpAny_pyIter_list pl.isList ?_)
 have hne:p≠s.heap.objs.size:=Nat.ne_of_lt (by obtain⟨o,_,e,_⟩:=pl;exact Heap.lt_size e)
 refine⟨s.heap.objs.size,[s.heap.objs.size,p],[s.heap.objs.size],its.toArray.size,_,_,fun i=>bs.getD i true,rfl,Walks.list (A:=X.A.in1) (I.ok.hd hc) s.heap.objs.size p hne its.toArray,⟨⟨_,Heap.get?_push_size _ rfl,rfl,rfl⟩,pl.isList.push _⟩,fun i v s2 Q2 E2 hP hQ=>?_,fun h' tk hk=>?_⟩
 ·have hP':its[i]?=some v:=by simpa using hP
  obtain⟨xv,hx1,rx⟩:=b5o rv hP'
  rw[List.getElem?_map] at hx1
  cases hb:bs[i]? with
  | none=>rw[hb] at hx1;cases hx1
  | some b =>
   rw[hb] at hx1
   have e:V.bl b=xv:=Option.some.inj hx1
   subst e
   cases rx
   have e2:bs.getD i true=b:=by rw[List.getD_eq_getElem?_getD,hb];rfl
   have hQ':Q2 (bs.getD i true) s2:=hQ
   rw[e2] at hQ'
   exact wpAny_truthy_bool hQ'
 ·have e:(List.range its.toArray.size).all (fun i=>bs.getD i true)=bs.all id:=by
   rw[List.size_toArray,←hlen,Bool.eq_iff_iff,List.all_eq_true,List.all_eq_true]
   constructor
   ·intro g b hb
    obtain⟨i,hi,e⟩:=List.mem_iff_getElem.mp hb
    have:=g i (List.mem_range.mpr hi)
    rw[List.getD_eq_getElem?_getD,List.getElem?_eq_getElem hi,e] at this
    exact this
   ·intro g i hi
    have hi':=List.mem_range.mp hi
    rw[List.getD_eq_getElem?_getD,List.getElem?_eq_getElem hi']
    exact g _ (List.getElem_mem hi')
  rw[e]
  refine⟨.bl (bs.all id),H,I.kept (t':=tk) fun b u eu=>hk b u (fun z=>?_) (Heap.get?_push_of_some _ eu),rfl,q⟩
  have z':b=s.heap.objs.size:=by simpa using z
  exact absurd (Heap.lt_size eu) (by rw[z'];exact Nat.lt_irrefl _)
end
end My
namespace My
open PySem PySem.Spec PyProof.Rows L2 Builtin Builtin.ObjectAttr Builtin.Getset_descriptor
structure e8p (K:PySem.W.Frag) (C:Addr):Prop where
 it:PySem.W.isClsIn K C=true
 ga:PySem.W.findIn K (.ref C) "__getattribute__"=some (some (.builtin "BaseException.__getattribute__"))
 gt:PySem.W.findIn K (.ref C) "__getattr__"=some none
 cl:PySem.W.findIn K (.ref C) "__class__"=some (some (.builtin "object.__class__"))
 mB:PySem.W.mroIn K C (.type "BaseException")=some true
 mO:PySem.W.mroIn K C (.type "object")=some true
def f4z (a C:Addr) (h:Heap):Prop:=∃ o,h.get? a=some o∧o.cls=.ref C
section
variable {prog:Program} {w:World} {A:Around} {E:Value→Shared→Prop} {h:Heap} {g:Array GenState} {d:Drawn} {t:Nat} {os:OsState} {a C:Addr} {o:Obj} {K:PySem.W.Frag}
theorem f7m {R:Result→Shared→Prop} (X:K.In h) (T:e8p K C) (hx:h.get? a=some o) (hc:o.cls=.ref C) (hq:R (.ok (.ret (.ref C))) ⟨h,g,d,t,os⟩) :
  codeAny (model prog w) A (.call (.builtin "getset_descriptor.__get__") ⟨[.builtin "object.__class__",.ref a,.ref C],[]⟩) R ⟨h,g,d,t,os⟩:=by
 have L0:PySem.W.Looks (model prog w) h (typeOf (.ref a)) (.ref C):=hc ▸ (PySem.W.Looks.ld hx).andThen .now
 have L1:=PySem.W.looks_mroIn (M:=model prog w) X T.mO
 refine codeAny_call_builtin PySem.W.KF.slot_gs.plain PySem.W.KF.entry_gs (PySem.W.KF.slot_gs.check _ _ _ _ _ _ _ _ PySem.W.KF.type_class (PySem.W.KF.args_gs _ _ _) ?_)
 unfold Builtin.«getset_descriptor.__get__» descrGet
 rw[PySem.W.dga_obj]
 refine wpAny_bind (wpAny_pure ?_)
 unfold descrGetter descrCheckInstance descrNameAndClass isInstance
 simp only [PySem.W.KF.owner_class]
 repeat lk
 refine⟨Code.quiet_builtin _ (by decide +kernel),codeAny_builtin PySem.W.KF.entry_class ?_⟩
 unfold Builtin.«object.__class__» shownTypeOf
 repeat lk
 exact hq
theorem f1a {tk:Tok} {Q:Fin→Shared→Prop} (X:K.In h) (T:e8p K C) (hx:h.get? a=some o) (hc:o.cls=.ref C) (hq:Q (.done (.ret (.ref C))) ⟨h,g,d,t,os⟩) :
  wpAny (model prog w) A (Builtin.«object.__getattribute__» ⟨[.ref a,.str "__class__" tk],[]⟩) Q E ⟨h,g,d,t,os⟩:=by
 have hT5:(⟨h,g,d,t,os⟩:Shared).TypeIs (.builtin "object.__class__") "getset_descriptor":=F.typeOf_object_class
 have f5:=F.typeOf_object_class
 have f6:=F.slot_gs_get.lookup
 have f7:=F.slot_gs_set.lookup
 have L2:=PySem.W.looks_findIn (M:=model prog w) X T.cl
 repeat (any_goals (first | assumption | (with_reducible refine wpAny_loadPart_at hx ?_;rw[hc]) | with_reducible refine PySem.W.Looks.at L2 ?_ | wp_step))
 refine f7m X T hx hc ?_
 repeat (any_goals (first | assumption | wp_step))
theorem e9g {M:Model} {nameV:Value} {Q:Unit→Shared→Prop} (X:K.In h) (T:e8p K C) (hx:h.get? a=some o) (hc:o.cls=.ref C) (hq:Q () ⟨h,g,d,t,os⟩):wpAny M A (checkBuiltinCall "BaseException.__getattribute__" ⟨[.ref a,nameV],[]⟩) Q E ⟨h,g,d,t,os⟩:=by
 have hk:builtinKind "BaseException.__getattribute__"=some .slot:=by decide +kernel
 have hsplit:splitId "BaseException.__getattribute__"=some ("BaseException","__getattribute__"):=by decide +kernel
 have L1:=PySem.W.looks_mroIn (M:=M) X T.mB
 have ha:=F.args_bexc_ga (.ref a) nameV
 simp only [checkBuiltinCall,hk,hsplit]
 refine wpAny_bind ?_
 unfold isInstance
 repeat (first | (with_reducible refine wpAny_loadPart_at hx ?_;rw[hc]) | with_reducible refine PySem.W.Looks.at L1 ?_ | wp_step)
 exact hq
theorem f4c {tk:Tok} {R:Result→Shared→Prop} (X:K.In h) (T:e8p K C) (hx:h.get? a=some o) (hc:o.cls=.ref C) (hq:R (.ok (.ret (.ref C))) ⟨h,g,d,t,os⟩) :
  codeAny (model prog w) A (.call (.builtin "BaseException.__getattribute__") ⟨[.ref a,.str "__class__" tk],[]⟩) R ⟨h,g,d,t,os⟩ :=
 codeAny_call_builtin PySem.F.attr_ValueError.ga.plain F.entry_bexc_ga (e9g X T hx hc (f1a X T hx hc hq))
theorem f9k {tk:Tok} {fill expr:Bool} {Q:Value→Shared→Prop} (X:K.In h) (T:e8p K C) (hx:h.get? a=some o) (hc:o.cls=.ref C) (hq:Q (.ref C) ⟨h,g,d,t,os⟩) :
  wpAny (model prog w) A (getAttrBy (.ref a) (.str "__class__" tk) fill expr) Q E ⟨h,g,d,t,os⟩:=by
 have f3:=PySem.F.attr_ValueError.ga.bind (.ref a)
 have hx0:(expr && onTheHeap (Value.builtin "BaseException.__getattribute__"))=false:=by cases expr<;>rfl
 have hx2:(Value.builtin "BaseException.__getattribute__" == Value.builtin "object.__getattribute__")=false:=by decide +kernel
 have hx1:(onTheHeap (Value.ref C) && Value.builtin "BaseException.__getattribute__" == Value.builtin "object.__getattribute__")=false:=by rw[hx2];rfl
 have L1:=PySem.W.looks_findIn (M:=model prog w) X T.ga
 have L2:=PySem.W.looks_findIn (M:=model prog w) X T.gt
 repeat (any_goals (first | assumption | (with_reducible refine wpAny_loadPart_at hx ?_;rw[hc]) | with_reducible refine PySem.W.Looks.at L1 ?_ | with_reducible refine PySem.W.Looks.at L2 ?_ | wp_step))
 refine f4c X T hx hc ?_
 repeat (any_goals (first | assumption | wp_step))
end
theorem e1t {K:PySem.W.Frag} {a C:Addr} (T:e8p K C):PySem.W.KitX K (.ref a) (.ref C) (f4z a C) where
 ty:=fun _ _ _ ⟨_,hx,hc⟩=>hc ▸ (PySem.W.Looks.ld hx).andThen .now
 it:=fun _ h X _=>by
  have z0:=T.it
  unfold PySem.W.isClsIn PySem.W.clsIn at z0
  split at z0
  ·rename_i c' d' cd' sl' ho
   intro A' Q' E' s' k q
   unfold isType loadHead
   exact wpAny_bind (wpAny_loadPart (k _ _ (X _ _ ho)) (wpAny_pure q))
  ·cases z0
 ne:=fun h tp dd its n sl X htp=>by
  have z0:=T.it
  refine Bool.eq_false_iff.mpr fun q=>?_
  have e:C=tp:=Value.ref.inj (beq_iff_eq.mp q)
  subst e
  unfold PySem.W.isClsIn PySem.W.clsIn at z0
  split at z0
  ·rename_i c' d' cd' sl' ho
   have z:=(X _ _ ho).symm.trans htp
   cases z
  ·cases z0
 ca:=fun {prog w A E Q s} X ⟨o,hx,hc⟩ k=>by
  obtain⟨h,g,d,t,os⟩:=s
  unfold getAttr? getAttrBy?
  refine wpAny_bind (wpAny_mkText (wpAny_bind (wpAny_attempt (f9k X T hx hc ?_))))
  exact wpAny_pure k
end My
namespace My
open PySem PySem.Spec PyProof.Rows L2
abbrev e5t (a C:Addr):HO:=.ext (f4z a C)
theorem d9k {P:Program} {w:World} {H:Hp} {h:Heap} {a C:Addr} {o:Obj} (e:h.get? a=some o) (hc:o.cls=.ref C):a2f P w H h a (e5t a C) :=
 ⟨⟨o,e,hc⟩,⟨o,e⟩,fun _ _ ⟨o,e,hc⟩ k=>⟨o,k o e,hc⟩⟩
section
variable {X:Cx}
theorem e1o {pins:List (Addr×Obj)} {σ:L2.St} {H:Hp} {s:Shared} {a C:Addr} (I:Inv X pins σ H s) (h:H a=some (e5t a C)):f4z a C s.heap :=
 (show a2f X.prog X.w H s.heap a (e5t a C) from I.hok a _ h).1
structure e5n (K:PySem.W.Frag) (C D:Addr) (b:Bool):Prop where
 it:PySem.W.isClsIn K D=true
 ty:PySem.W.typeIn K (.ref D)=some (.type "type")
 self:PySem.W.subIn K (.ref C) (.ref C)=some true
 sub:PySem.W.subIn K (.ref C) (.ref D)=some b
theorem e5n.one {K:PySem.W.Frag} {C D:Addr} {b:Bool} (p:e5n K C D b):PySem.W.kitOne K (.ref C) (.ref D)=some b:=by
 unfold PySem.W.kitOne
 by_cases e:(Value.ref C == Value.ref D)=true
 ·rw[if_pos e]
  have e1:C=D:=Value.ref.inj (beq_iff_eq.mp e)
  have h1:=p.self
  have h2:=p.sub
  rw[←e1,h1] at h2
  exact h2
 ·rw[if_neg e]
  show (if ((PySem.W.clsIn K D).isSome && PySem.W.typeIn K (.ref D) == some (.type "type"))=true then PySem.W.subIn K (.ref C) (.ref D) else none)=some b
  have h1:(PySem.W.clsIn K D).isSome=true:=p.it
  rw[h1,p.ty,if_pos (by simp),p.sub]
theorem f2e {K:PySem.W.Frag} {C:Addr} {b:Bool} (h:PySem.W.subIn K (.ref C) (.type "ValueError")=some b):PySem.W.kitOne K (.ref C) (.type "ValueError")=some b:=by
 have e:(Value.ref C == Value.type "ValueError")=false:=Bool.eq_false_iff.mpr fun q=>by cases beq_iff_eq.mp q
 unfold PySem.W.kitOne
 rw[e,if_neg (by simp)]
 show (if PySem.W.kitMeta "ValueError"=true then PySem.W.subIn K (.ref C) (.type "ValueError") else none)=some b
 rw[if_pos (by decide +kernel),h]
theorem e8z:b7y X (.builtin "isinstance") (fun xs H Q=>∃ a C b c,xs=[V.ref a,c]∧H a=some (e5t a C)∧e8p X.K C∧((∃ D,c=V.ref D∧PySem.W.kitOne X.K (.ref C) (.ref D)=some b)∨∃ T,c=V.ty T∧PySem.W.kitOne X.K (.ref C) (.type T)=some b)∧Q (.bl b) H):=by
 intro pins s σ H xs us Q I r h
 obtain⟨a,C,b,c,rfl,ha,T,hc,q⟩:=h
 obtain⟨u,w',rfl,ru,rw'⟩:=e1x r
 cases ru
 rcases hc with ⟨D,rfl,e⟩ | ⟨n,rfl,e⟩
 ·cases rw'
  exact PySem.W.kia_one (e1t T) I.kIn (e1o I ha) e (fun z=>nomatch z) fun tk=>⟨.bl b,H,I.tok tk,rfl,q⟩
 ·cases rw'
  exact PySem.W.kia_one (e1t T) I.kIn (e1o I ha) e (fun z=>nomatch z) fun tk=>⟨.bl b,H,I.tok tk,rfl,q⟩
theorem d9g {M:Model} {A:Around} {E:Value→Shared→Prop} {K:PySem.W.Frag} {h:Heap} {g:Array GenState} {d:Drawn} {t:Nat} {os:OsState} {e C S:Addr} {oe:Obj} {b:Bool} {Q:Bool→Shared→Prop} (X:K.In h) (he:h.get? e=some oe) (hcls:oe.cls=.ref C)
  (hty:PySem.W.typeIn K (.ref S)=some (.type "type")) (hit:PySem.W.isClsIn K S=true) (hB:PySem.W.mroIn K S (.type "BaseException")=some true) (hs:PySem.W.subIn K (.ref C) (.ref S)=some b) (hq:Q b ⟨h,g,d,t,os⟩):wpAny M A (excMatches (.ref e) (.ref S)) Q E ⟨h,g,d,t,os⟩:=by
 have f:=tc_notTuple
 have L0:=PySem.W.looks_typeIn (M:=M) X hty
 have L1:=PySem.W.looks_mroIn (M:=M) X hB
 have L2:=PySem.W.looks_subIn (M:=M) X hs
 have L3:PySem.W.Looks M h (isType (.ref S)) true:=by
  unfold PySem.W.isClsIn PySem.W.clsIn at hit
  split at hit
  ·rename_i c' d' cd' sl' ho
   intro A' Q' E' s' k q
   unfold isType loadHead
   exact wpAny_bind (wpAny_loadPart (k _ _ (X _ _ ho)) (wpAny_pure q))
  ·cases hit
 unfold excMatches isInstance
 repeat (first | (with_reducible refine wpAny_loadPart_at he ?_;rw[hcls]) | with_reducible refine PySem.W.Looks.at L0 ?_ | with_reducible refine PySem.W.Looks.at L1 ?_ | with_reducible refine PySem.W.Looks.at L2 ?_ | with_reducible refine PySem.W.Looks.at L3 ?_ | wp_step)
 cases b<;>(wp_walk;exact hq)
end
end My
namespace My
open PySem PySem.Spec PyProof.Rows L2
section
variable {X:Cx} {pins:List (Addr×Obj)} {σ:L2.St} {H:Hp} {s:Shared}
theorem c1k {M:Model} {A:Around} {E:Value→Shared→Prop} {j:Nat} {n:Str} {pos:Pos} {Q:Unit→Shared→Prop} (I:Inv X pins σ H s) (hN:X.N.Nodup) (hj:X.N[j]?=some n) (hk:X.env.scope.names.lookup n=some .local)
  (h:∀ s',Inv X pins (σ.set j none) H s'→Q () s'):wpAny M A (do bindName X.env n .none;unbindBehindTheSuite X.env n pos) Q E s:=by
 obtain⟨m,hn,hl⟩:=id I.loc
 have hcls:(X.env.scope.kind == .class || (X.env.scope.kind == .module && X.env.locals != X.env.globals))=false:=by rw[I.ok.kind];rfl
 have hjσ:j < σ.length:=by rw[I.len];exact(List.getElem?_eq_some_iff.mp hj).1
 have cne:=I.cne
 refine wpAny_nameGoes_keeps hk hn hcls fun h' v hn' hs=>?_
 obtain⟨oL,_,_,hoL,_⟩:=id hn
 refine h _ ⟨I.ok,I.os,I.bare,⟨fun b o e n hb hx=>?_,fun b o e n hb hx=>?_,I.base.free,fun b o e hx=>?_,I.base.tups,I.base.frzs,I.base.tbls⟩,⟨_,hn',fun i y v' e1 e2 e3=>?_⟩,fun y c e=>?_,I.free,I.freeC,fun p hp=>?_,fun b ob e=>?_,by simpa using I.len⟩
 ·exact(hs.2 b (Nat.ne_of_lt (Nat.lt_of_lt_of_le (Heap.lt_size e) I.ok.above))).trans (I.base.keep b o e n hb hx)
 ·obtain⟨sl,e1⟩:=I.base.slot b o e n hb hx
  exact⟨sl,(hs.2 b (Nat.ne_of_lt (Nat.lt_of_lt_of_le (Heap.lt_size e) I.ok.above))).trans e1⟩
 ·obtain⟨o',e1⟩:=I.base.there b o e hx
  exact⟨o',(hs.2 b (Nat.ne_of_lt (Nat.lt_of_lt_of_le (Heap.lt_size e) I.ok.above))).trans e1⟩
 ·by_cases hi:i=j
  ·subst hi
   rw[List.getElem?_set_self hjσ] at e2
   cases e2
  ·rw[List.getElem?_set_ne (Ne.symm hi)] at e2
   obtain⟨u',r',q⟩:=hl i y v' e1 e2 e3
   refine⟨u',r',?_⟩
   rcases q with ⟨k,e⟩ | ⟨k,c,e,z⟩
   ·refine .inl ⟨k,?_⟩
    have:y≠n:=fun e=>hi (d3k hN e1 (e ▸ hj))
    simp[this,e]
   ·exact .inr ⟨k,c,e,z.sameBut hs (cne y c e)⟩
 ·obtain⟨w',z⟩:=I.cell y c e
  exact⟨w',z.sameBut hs (cne y c e)⟩
 ·obtain⟨e,n,ne,nf,d⟩:=I.pin p hp
  exact⟨(hs.2 p.1 ne).trans e,n,ne,nf,d⟩
 ·refine(I.hok b ob e).stay (fun c w' hc q=>(hs.2 c ?_).trans q) (fun _ q=>q) fun _ _ q=>q
  rintro rfl
  rcases hc with rfl | hc
  ·rw[I.free] at e;cases e
  ·rw[I.free] at hc;cases hc
theorem c8a {s1:Shared} {H1:Hp} {a:Addr} {o:HO} (I1:Inv X pins σ H1 s1) (I:Inv X pins σ H s) (hn:s1.heap.get? a=none) (ha:H a=none) (ok:a2f X.prog X.w (upd H a o) s.heap a o):Inv X pins σ (upd H a o) s:=by
 have ne:∀ b u,s1.heap.get? b=some u→b≠a:=fun b u e z=>by rw[z,hn] at e;cases e
 refine⟨I.ok,I.os,I.bare,⟨I.base.keep,I.base.slot,fun b u e n hx=>?_,I.base.there,fun b xs e=>?_,fun b u v e=>?_,fun b ps e=>?_⟩,I.loc,I.cell,?_,fun x c e=>?_,fun p hp=>?_,fun b u e=>?_,I.len⟩
 ·obtain⟨u',e1⟩:=I1.base.there b u e hx
  rw[a0d (ne b u' e1)]
  exact I.base.free b u e n hx
 ·have q:=I.base.tups b xs e
  rw[a0d (a0u q ha)]
  exact q
 ·have q:=I.base.frzs b u v e
  rw[a0d (a0u q ha)]
  exact q
 ·obtain⟨more,q⟩:=I.base.tbls b ps e
  exact⟨more,by rw[a0d (a0u q ha)];exact q⟩
 ·obtain⟨m0,⟨u,_,_,hu,_⟩,_⟩:=I1.loc
  rw[a0d (ne _ u hu)]
  exact I.free
 ·obtain⟨v,u,hu,_⟩:=I1.cell x c e
  rw[a0d (ne c u hu)]
  exact I.freeC x c e
 ·obtain⟨e,n,n2,nf,d⟩:=I.pin p hp
  obtain⟨e1,_⟩:=I1.pin p hp
  exact⟨e,by rw[a0d (ne _ _ e1)];exact n,n2,nf,d⟩
 ·by_cases hb:b=a
  ·subst hb
   rw[a0b] at e
   cases e
   exact ok
  ·rw[a0d hb] at e
   refine(I.hok b u e).stay (fun c v hc q=>q) (fun c q=>?_) fun c xs q=>?_
   ·rw[a0d (a0u q ha)];exact q
   ·rw[a0d (a0u q ha)];exact q
structure f9o (K:PySem.W.Frag) (mg:Str→Option Value) (x:Str) (S:Addr):Prop where
 bound:mg x=some (.ref S)
 ty:PySem.W.typeIn K (.ref S)=some (.type "type")
 it:PySem.W.isClsIn K S=true
 mB:PySem.W.mroIn K S (.type "BaseException")=some true
def gone (j:Nat) (D:d7t):d7t:={nx:=fun σ H=>D.nx (σ.set j none) H,rt:=D.rt,bk:=fun σ H=>D.bk (σ.set j none) H,ct:=fun σ H=>D.ct (σ.set j none) H}
def e6w (a C:Addr) (d:Option Addr) (h:Heap):Prop:=∃ o,h.get? a=some o∧o.cls=.ref C∧PySem.W.notCls o=true∧o.dict=d
end
end My
namespace My
open PySem PySem.Spec PyProof.Rows L2
def Itf (ys:List V):It:=⟨fun i _=>i < ys.length,fun i H x H'=>H'=H∧ys[i]?=some x,fun i _=>ys.length≤i⟩
abbrev c4g (y:Str):List V:=y.cps.toList.map fun c=>V.str ⟨#[c]⟩
theorem d2e (y:Str):(c4g y).length=y.length:=by simp[c4g,Str.length]
theorem e3e {y:Str} {i:Nat}:(c4g y)[i]?=(y.cps[i]?).map fun c=>V.str ⟨#[c]⟩:=by
 rw[List.getElem?_map,Array.getElem?_toList]
abbrev d5e (y:Str):String:=if y.cps.all (· < 128) then "str_ascii_iterator" else "str_iterator"
abbrev e0m (y:Str) (t:Tok):Obj:={cls:=.type (d5e y),data:=.fields #[.str y t,.int 0 0]}
theorem d7z {prog:Program} {w:World} {A:Around} {E:Value→Shared→Prop} {s:Shared} {x:Str} {t:Tok} {Q:Value→Shared→Prop} (hQ:Q (.ref s.heap.objs.size) {s with heap:=s.heap.push (e0m x t)}):wpAny (model prog w) A (pyIter (.str x t)) Q E s:=by
 cases ha:x.cps.all (· < 128) with
 | true =>
  have e:d5e x="str_ascii_iterator":=if_pos ha
  unfold e0m at hQ
  rw[e] at hQ
  exact wpAny_pyIter_ascii ha hQ
 | false =>
  have e:d5e x="str_iterator":=if_neg (by rw[ha];decide)
  unfold e0m at hQ
  rw[e] at hQ
  exact wpAny_pyIter_wide ha hQ
structure Src (P:Program) (w:World) (K:PySem.W.Frag) (J:It) (it:Addr) (st:Nat→Heap→Prop):Prop where
 obj:∀ i h,st i h→∃ o,h.get? it=some o∧∀ v,o.data≠.cell v
 keep:∀ i h h',st i h→(∀ o,h.get? it=some o→h'.get? it=some o)→st i h'
 item:∀ (X:Cx),X.prog=P→X.w=w→X.K=K→∀ (A:Around) (i:Nat) (pins:List (Addr×Obj)) (s:Shared) (σ:L2.St) (H:Hp) (Q:Value→Shared→Prop) (E:Value→Shared→Prop),Inv X pins σ H s→st i s.heap→J.go i H →
  (∀ x u h' tk,a2u x u→J.yld i H x H→st (i+1) h'→Heap.SameBut it s.heap h'→Q u {s with heap:=h',toks:=tk})→wpAny (model P w) A (Builtin.SmallTypes.nextOf (.ref it)) Q E s
 done:∀ (X:Cx),X.prog=P→X.w=w→X.K=K→∀ (A:Around),A.handled=none→∀ (i:Nat) (pins:List (Addr×Obj)) (s:Shared) (σ:L2.St) (H:Hp) (Q:Value→Shared→Prop) (E:Value→Shared→Prop),Inv X pins σ H s→st i s.heap→J.stop i H →
  (∀ h' e,Heap.ExtBut it s.heap h'→(∃ o,h'.get? e=some o∧o.cls=.type "StopIteration")→E (.ref e) {s with heap:=h'})→wpAny (model P w) A (Builtin.SmallTypes.nextOf (.ref it)) Q E s
section
variable {P:Program} {w:World} {K:PySem.W.Frag}
theorem e8w (a it:Addr):Src P w K (Itl K a) it (fun i h=>h.IsListIter it a i) where
 obj:=fun i h st=>by
  obtain⟨o,e,c,d⟩:=st
  exact⟨o,e,fun v z=>by rw[d] at z;cases z⟩
 keep:=fun i h h' st k=>st.at fun o e=>k o e
 item:=by
  intro X hP hw hK A i pins s σ H Q E I st hg hQ
  subst hP hw hK
  obtain⟨xs,x,hq,hx⟩:=hg
  obtain⟨its,rv,p,hz⟩:=I.list hq
  obtain⟨u,hu,ru⟩:=rv.get hx
  exact wpAny_nextOf_list_item st p.isList (x:=u) (by simpa using hu) fun h' st' sb=>hQ x u h' s.toks ru ⟨rfl,fun ys hy=>by rw[I.list_inj hy hq];exact hx⟩ st' sb
 done:=by
  intro X hP hw hK A hA i pins s σ H Q E I st hg hE
  subst hP hw hK
  obtain⟨xs,hq,hx⟩:=hg
  obtain⟨its,rv,p,hz⟩:=I.list hq
  have hl:=rv.length
  exact wpAny_nextOf_list_end hA st p.isList (by simp;omega) hE
theorem f4q (y:Str) (t:Tok) (it:Addr):Src P w K (Itf (c4g y)) it (fun i h=>h.IsStrIter it (d5e y) y t i) where
 obj:=fun i h st=>by
  obtain⟨o,e,c,d⟩:=st
  exact⟨o,e,fun v z=>by rw[d] at z;cases z⟩
 keep:=fun i h h' st k=>let ⟨o,ho,r⟩:=st;⟨o,k o ho,r⟩
 item:=by
  intro X hP hw hK A i pins s σ H Q E I st hg hQ
  subst hP hw hK
  have hi:i < y.cps.size:=by have:i < (c4g y).length:=hg;rw[d2e] at this;exact this
  have yl:(Itf (c4g y)).yld i H (.str ⟨#[y.cps[i]]⟩) H:=⟨rfl,by rw[e3e,Array.getElem?_eq_getElem hi];rfl⟩
  cases ha:y.cps.all (· < 128) with
  | true =>
   have e:d5e y="str_ascii_iterator":=if_pos ha
   rw[e] at st hQ
   exact wpAny_nextOf_ascii_item st (c:=y.cps[i]) (by simp[hi]) fun h' st' sb=>hQ (.str ⟨#[y.cps[i]]⟩) _ h' _ ⟨_,rfl⟩ yl st' sb
  | false =>
   have e:d5e y="str_iterator":=if_neg (by rw[ha];decide)
   rw[e] at st hQ
   exact wpAny_nextOf_wide_item st (c:=y.cps[i]) (by simp[hi]) fun h' st' sb=>hQ (.str ⟨#[y.cps[i]]⟩) _ h' _ ⟨_,rfl⟩ yl st' sb
 done:=by
  intro X hP hw hK A hA i pins s σ H Q E I st hg hE
  subst hP hw hK
  have hi:y.cps[i]?=none:=by have:(c4g y).length≤i:=hg;rw[d2e] at this;exact Array.getElem?_eq_none this
  cases ha:y.cps.all (· < 128) with
  | true =>
   have e:d5e y="str_ascii_iterator":=if_pos ha
   rw[e] at st
   exact wpAny_nextOf_ascii_end hA st hi hE
  | false =>
   have e:d5e y="str_iterator":=if_neg (by rw[ha];decide)
   rw[e] at st
   exact wpAny_nextOf_wide_end hA st hi hE
theorem c3s {A:Around} {s:Shared} {E:Value→Shared→Prop} {it l:Addr} {i:Nat} {its:Array Value} {Q:Value→Shared→Prop} (st:s.heap.IsTupleIter it l i) (tp:s.heap.IsTuple l its)
  (hs:∀ x g,its[i]?=some x→g.IsTupleIter it l (i+1)→Heap.SameBut it s.heap g→Q x {s with heap:=g})
  (hn:its[i]?=none→A.handled=none∧∀ g e,Heap.ExtBut it s.heap g→(∃ o,g.get? e=some o∧o.cls=.type "StopIteration")→E (.ref e) {s with heap:=g}) :
  wpAny (model P w) A (Builtin.SmallTypes.nextOf (.ref it)) Q E s:=by
 obtain⟨oi,ei,ci,di⟩:=id st
 obtain⟨ot,et,_,nt,dt⟩:=id tp
 have new:∀ k v,Heap.SameBut it s.heap (s.heap.update it (Obj.mapFields (·.setIfInBounds k v))):=fun _ _=>Heap.SameBut.update ..
 refine wpAny_bind (wpAny_callSpecial?_slot (name:=Str.ofString "__next__") st.typeIs F.slot_tuple_iterator_next (wpAny_call_entry F.slot_tuple_iterator_next st.typeIs F.entry_tuple_iterator_next ?_ (F.args_tuple_iterator_next_1 _)))
 refine wpAny_bind (wpAny_of_eq (a:=(Value.ref it,[])) rfl (wpAny_bind (wpAny_field ei di (x:=.ref l) rfl ?_)))
 have nn:(Value.ref l == Value.none)=false:=rfl
 dsimp only
 rw[nn,if_neg Bool.false_ne_true]
 refine wpAny_bind (wpAny_field ei di (x:=.int i 0) rfl (wpAny_bind (wpAny_seqItems et dt ?_)))
 dsimp only
 rw[Int.toNat_natCast]
 cases q:its[i]? with
 | some x =>
  refine wpAny_bind (wpAny_setField ei di (by simp) (wpAny_pure ⟨x,rfl,wpAny_pure (hs x _ q ?_ (new 1 _))⟩))
  refine⟨_,Heap.get?_update_self _ ei (Obj.isFreed_of_fields (Obj.data_mapFields di _)),?_,?_⟩
  ·rw[Obj.cls_mapFields];exact ci
  ·rw[Obj.data_mapFields di]
   simp[rawInt]
 | none =>
  obtain⟨hA,f⟩:=hn q
  refine wpAny_bind (wpAny_rule (wpAny_bind (wpAny_setField ei di (by simp) (wpAny_bind (m:=newExc _ _) ?_))))
  unfold newExc newTuple
  refine wpAny_bind (wpAny_newObj_type (wpAny_bind (m:=firstArgMember _ _) (wpAny_of_eq (a:=Value.none) rfl (wpAny_newObj_type (wpAny_raiseNew_none hA (f _ _ (((new 0 _).extBut.push _).push _) ⟨_,Heap.get?_push_size _ rfl,rfl⟩)) (by size_fits)))) (by size_fits))
theorem e6h (a it:Addr):Src P w K (Itt K a) it (fun i h=>h.IsTupleIter it a i) where
 obj:=fun i h st=>by
  obtain⟨o,e,c,d⟩:=st
  exact⟨o,e,fun v z=>by rw[d] at z;cases z⟩
 keep:=fun i h h' st k=>st.at fun o e=>k o e
 item:=by
  intro X hP hw hK A i pins s σ H Q E I st hg hQ
  subst hP hw hK
  obtain⟨xs,x,hq,hx⟩:=hg
  obtain⟨its,rv,p,hz⟩:=I.tuple hq
  obtain⟨u,hu,ru⟩:=rv.get hx
  have hu':its.toArray[i]?=some u:=by simpa using hu
  refine c3s st (show s.heap.IsTuple a its.toArray from p) (fun y g hy st' sb=>?_) (fun z=>by rw[hu'] at z;cases z)
  have e:u=y:=Option.some.inj (hu'.symm.trans hy)
  subst e
  exact hQ x u g s.toks ru ⟨rfl,fun ys hy=>by rw[I.tuple_inj hy hq];exact hx⟩ st' sb
 done:=by
  intro X hP hw hK A hA i pins s σ H Q E I st hg hE
  subst hP hw hK
  obtain⟨xs,hq,hx⟩:=hg
  obtain⟨its,rv,p,hz⟩:=I.tuple hq
  have hl:=rv.length
  have hn:its.toArray[i]?=none:=by simp;omega
  exact c3s st (show s.heap.IsTuple a its.toArray from p) (fun y g hy _ _=>by rw[hn] at hy;cases hy) fun _=>⟨hA,hE⟩
theorem d7i {A:Around} {E:Value→Shared→Prop} {s:Shared} {z TI TO i1 i2:Addr} {Q:Fin→Shared→Prop} (hz:IsZip s.heap z TI TO .none) (hTI:IsPair s.heap TI (.ref i1) (.ref i2))
  (h:∀ g1,IsZip g1 z TI TO .ellipsis→Heap.SameBut z s.heap g1 →
   wpAny (model P w) A (Builtin.SmallTypes.nextOf (.ref i1)) (fun x s2=>∃ a b,IsPair s2.heap TO a b∧∀ g3,IsPair g3 TO x b→Heap.SameBut TO s2.heap g3 →
    wpAny (model P w) A (Builtin.SmallTypes.nextOf (.ref i2)) (fun y s4=>IsPair s4.heap TO x b∧∀ g5,IsPair g5 TO x y→Heap.SameBut TO s4.heap g5→IsZip g5 z TI TO .ellipsis ∧
      ∀ g7 g8,Heap.SameBut z (g5.push {cls:=.type "tuple",data:=.seq #[x,y]}) g7→Heap.SameBut z g7 g8→IsZip g8 z TI TO (rawInt g5.objs.size)→Q (.done (.ret (.ref g5.objs.size))) {s4 with heap:=g8})
     (fun e s4=>IsZip s4.heap z TI TO .ellipsis∧∀ g5,Heap.SameBut z s4.heap g5→E e {s4 with heap:=g5}) {s2 with heap:=g3})
    (fun e s2=>IsZip s2.heap z TI TO .ellipsis∧∀ g3,Heap.SameBut z s2.heap g3→E e {s2 with heap:=g3}) {s with heap:=g1}) :
  wpAny (model P w) A (Builtin.«zip.__next__» ⟨[.ref z],[]⟩) Q E s:=by
 have free:wpAny (model P w) A (Builtin.SmallTypes.ownedTupleIsFree (.ref z)) (fun b s'=>b=true∧s'=s) E s:=by
  unfold Builtin.SmallTypes.ownedTupleIsFree
  exact wpAny_bind (wpAny_field hz rfl rfl (wpAny_pure ⟨rfl,rfl⟩))
 refine wpAny_bind (wpAny_of_eq (a:=(Value.ref z,[])) rfl ?_)
 refine wpAny_bind (wpAny_field hz rfl (x:=.bool false) rfl (wpAny_bind (wpAny_field hz rfl (x:=.ref TI) rfl (wpAny_bind (wpAny_seqItems hTI rfl (wpAny_bind (thn free fun b s' hb=>?_)))))))
 obtain⟨rfl,rfl⟩:=hb
 refine wpAny_bind (wpAny_rule (wpAny_bind (wpAny_field hz rfl (x:=.ref TO) rfl (wpAny_bind (wpAny_setField_rec hz (by simp) fun g1 q1 k1=>wpAny_bind ?_)))))
 simp only [List.zipIdx_cons,List.zipIdx_nil,List.forIn_cons,List.forIn_nil]
 refine wpAny_bind (wpAny_bind (wpAny_onRaise (wpAny_bind (wpAny_mono (h g1 q1 k1) (fun x s2 d1=>?_) fun e s2 ⟨q2,f2⟩=>wpAny_setField_rec q2 (by simp) fun g3 _ k3=>f2 g3 k3))))
 obtain⟨a,b,t2,d1⟩:=d1
 refine wpAny_pure (wpAny_bind (wpAny_seqItems t2 rfl (wpAny_bind (wpAny_updateSeq_pair t2 fun g3 t3 k3=>wpAny_bind (wpAny_letGo (wpAny_pure (wpAny_bind (wpAny_bind (wpAny_onRaise ?_)))))))))
 refine wpAny_bind (wpAny_mono (d1 g3 t3 k3) (fun y s4 d2=>?_) fun e s4 ⟨q4,f4⟩=>wpAny_setField_rec q4 (by simp) fun g5 _ k5=>f4 g5 k5)
 obtain⟨t4,d2⟩:=d2
 refine wpAny_pure (wpAny_bind (wpAny_seqItems t4 rfl (wpAny_bind (wpAny_updateSeq_pair t4 fun g5 t5 k5=>wpAny_bind (wpAny_letGo (wpAny_pure (wpAny_pure (wpAny_bind (wpAny_seqItems t5 rfl (wpAny_bind (wpAny_newTuple ?_ (by show 2≤sizeLine;decide))))))))))))
 obtain⟨q5,d2⟩:=d2 g5 t5 k5
 have out:wpAny (model P w) A (Builtin.SmallTypes.ownedTupleHandOut (.ref z) (.ref g5.objs.size)) (fun _ s'=>Q (.done (.ret (.ref g5.objs.size))) s') E {s4 with heap:=g5.push {cls:=.type "tuple",data:=.seq #[x,y]}}:=by
  unfold Builtin.SmallTypes.ownedTupleHandOut
  refine wpAny_bind (wpAny_setField_rec (Heap.get?_push_of_some _ q5) (by simp) fun g7 q7 k7=>wpAny_setField_rec q7 (by simp) fun g8 q8 k8=>d2 g7 g8 k7 k8 ?_)
  exact q8
 exact wpAny_bind (thn out fun _ s' q=>wpAny_pure q)
def ItZ (J1 J2:It):It:=⟨fun i H=>J1.go i H∧J2.go i H,fun i H v H'=>∃ p x y,J1.yld i H x H∧J2.yld i H y H∧v=.ref p∧H p=none∧H'=upd H p (.tup [x,y]),fun i H=>J1.stop i H∨(J1.go i H∧J2.stop i H)⟩
structure f3e (z TI TO i1 i2:Addr):Prop where
 TIz:TI≠z
 TOz:TO≠z
 i1z:i1≠z
 i2z:i2≠z
 TITO:TI≠TO
 TIi1:TI≠i1
 TIi2:TI≠i2
 TOi1:TO≠i1
 TOi2:TO≠i2
 i12:i1≠i2
theorem e9a (n:Nat):f3e (n+4) (n+2) (n+3) n (n+1):=by
 constructor<;>(intro h;first | exact absurd (show n+2=n+4 from h) (by omega) | exact absurd (show n+3=n+4 from h) (by omega) | exact absurd (show n=n+4 from h) (by omega) | exact absurd (show n+1=n+4 from h) (by omega) | exact absurd (show n+2=n+3 from h) (by omega) | exact absurd (show n+2=n from h) (by omega) | exact absurd (show n+2=n+1 from h) (by omega) | exact absurd (show n+3=n from h) (by omega) | exact absurd (show n+3=n+1 from h) (by omega) | exact absurd (show n=n+1 from h) (by omega))
theorem e9v {J1 J2:It} {z TI TO i1 i2:Addr} {st1 st2:Nat→Heap→Prop} (D:f3e z TI TO i1 i2) (S1:Src P w K J1 i1 st1) (S2:Src P w K J2 i2 st2) {elts:List Expr} {kk:Nat} {tpos:Pos} :
  f1l P w K (.Tuple elts kk tpos) (ItZ J1 J2) [z,TI,TO,i1,i2] z (fun i h=>IsZip h z TI TO .none∧IsPair h TI (.ref i1) (.ref i2)∧(∃ a b,IsPair h TO a b)∧st1 i h∧st2 i h) where
 mem:=by simp
 obj:=fun i h ⟨hz,hTI,⟨a,b,hTO⟩,h1,h2⟩ c hc=>by
  simp only [List.mem_cons,List.not_mem_nil,or_false] at hc
  rcases hc with e | e | e | e | e
  ·rw[e];exact⟨_,hz,fun v z=>by simp at z⟩
  ·rw[e];exact⟨_,hTI,fun v z=>by simp at z⟩
  ·rw[e];exact⟨_,hTO,fun v z=>by simp at z⟩
  ·rw[e];exact S1.obj i h h1
  ·rw[e];exact S2.obj i h h2
 keep:=fun i h h' ⟨hz,hTI,⟨a,b,hTO⟩,h1,h2⟩ k=>⟨k z (by simp) _ hz,k TI (by simp) _ hTI,⟨a,b,k TO (by simp) _ hTO⟩,S1.keep i h h' h1 (k i1 (by simp)),S2.keep i h h' h2 (k i2 (by simp))⟩
 item:=by
  intro X hP hw hK hc i pins s σ H E I hf st hg
  subst hP hw hK
  obtain⟨hz,hTI,⟨a,b,hTO⟩,h1,h2⟩:=st
  have ty:s.TypeIs (.ref z) "zip":=⟨_,hz,rfl⟩
  have tz:∀ {s':Shared} {H':Hp} {h':Heap} {t':Nat} {it:Addr},it∈[z,TI,TO,i1,i2]→H' it=none→Inv X pins σ H' s'→Heap.SameBut it s'.heap h'→Inv X pins σ H' {s' with heap:=h',toks:=t'}:=fun {s' H' h' t' it} hm hn I' sb=>by
   obtain⟨f0,f1,f2,f3,f4,f5⟩:=hf it hm
   exact I'.turned (fun b o hb e=>(sb.2 b hb).trans e) hn f1 f3 f4 f5
  have fz:=(hf z (by simp)).1
  refine wpAny_bind (wpAny_attempt (wpAny_callSpecial?_slot (name:=Str.ofString "__next__") ty F.slot_zip_next (wpAny_call_entry F.slot_zip_next ty F.entry_zip_next (d7i hz hTI fun u1 q1 k1=>?_) (F.args_zip_next_1 _))))
  have I1:Inv X pins σ H {s with heap:=u1}:=tz (t':=s.toks) (by simp) fz I k1
  refine S1.item X rfl rfl rfl _ i pins {s with heap:=u1} σ H _ _ I1 (S1.keep i _ _ h1 fun o e=>k1.extBut _ _ D.i1z e) hg.1 fun x ux u2 t2 rx y1 st1' k2=>⟨a,b,k2.extBut _ _ D.TOi1 (k1.extBut _ _ D.TOz hTO),fun u3 p3 k3=>?_⟩
  have I2:Inv X pins σ H {s with heap:=u2,toks:=t2}:=tz (it:=i1) (s':={s with heap:=u1}) (by simp) (hf i1 (by simp)).1 I1 k2
  have I3:Inv X pins σ H {s with heap:=u3,toks:=t2}:=tz (it:=TO) (s':={s with heap:=u2,toks:=t2}) (by simp) (hf TO (by simp)).1 I2 k3
  refine S2.item X rfl rfl rfl _ i pins {s with heap:=u3,toks:=t2} σ H _ _ I3 (S2.keep i _ _ h2 fun o e=>k3.extBut _ _ D.TOi2.symm (k2.extBut _ _ D.i12.symm (k1.extBut _ _ D.i2z e))) hg.2 fun y uy u4 t4 ry y2 st2' k4=>⟨k4.extBut _ _ D.TOi2 p3,fun u5 p5 k5=>?_⟩
  have I4:Inv X pins σ H {s with heap:=u4,toks:=t4}:=tz (it:=i2) (s':={s with heap:=u3,toks:=t2}) (by simp) (hf i2 (by simp)).1 I3 k4
  have I5:Inv X pins σ H {s with heap:=u5,toks:=t4}:=tz (it:=TO) (s':={s with heap:=u4,toks:=t4}) (by simp) (hf TO (by simp)).1 I4 k5
  have all:∀ c o,c≠z→c≠TO→c≠i1→c≠i2→s.heap.get? c=some o→u5.get? c=some o:=fun c o n1 n2 n3 n4 e=>k5.extBut _ _ n2 (k4.extBut _ _ n4 (k3.extBut _ _ n2 (k2.extBut _ _ n3 (k1.extBut _ _ n1 e))))
  have q5:IsZip u5 z TI TO .ellipsis:=k5.extBut _ _ D.TOz.symm (k4.extBut _ _ D.i2z.symm (k3.extBut _ _ D.TOz.symm (k2.extBut _ _ D.i1z.symm q1)))
  refine⟨q5,fun u7 u8 k7 k8 q8=>⟨_,rfl,wpAny_pure ⟨_,rfl,wpAny_letOwnedTupleGo_zip q8 fun u9 q9 k9=>?_⟩⟩⟩
  have lt:∀ c∈[z,TI,TO,i1,i2],c < u5.objs.size:=fun c hc=>by
   simp only [List.mem_cons,List.not_mem_nil,or_false] at hc
   rcases hc with e | e | e | e | e
   ·rw[e];exact Heap.lt_size q5
   ·rw[e];exact Heap.lt_size (all _ _ D.TIz D.TITO D.TIi1 D.TIi2 hTI)
   ·rw[e];exact Heap.lt_size p5
   ·rw[e];obtain⟨o,eo,_⟩:=S1.obj _ _ st1';exact Heap.lt_size (k5.extBut _ _ D.TOi1.symm (k4.extBut _ _ D.i12 (k3.extBut _ _ D.TOi1.symm eo)))
   ·rw[e];obtain⟨o,eo,_⟩:=S2.obj _ _ st2';exact Heap.lt_size (k5.extBut _ _ D.TOi2.symm eo)
  have nT:u5.get? u5.objs.size=none:=Heap.get?_none_of_le (Nat.le_refl _)
  have I6:Inv X pins σ (upd H u5.objs.size (.tup [x,y])) {s with heap:=u5.push {cls:=.type "tuple",data:=.seq #[ux,uy]},toks:=t4} :=
   f3t (s:={s with heap:=u5,toks:=t4}) I5 (fun b u e=>Heap.get?_push_of_some _ e) nT ⟨by show 2≤sizeLine;decide,[ux,uy],.cons rx (.cons ry .nil),_,Heap.get?_push_size _ rfl,rfl,_,rfl⟩
  have nz:(upd H u5.objs.size (.tup [x,y])) z=none:=by rw[a0d (Nat.ne_of_lt (lt z (by simp)))];exact fz
  have I7:Inv X pins σ (upd H u5.objs.size (.tup [x,y])) {s with heap:=u7,toks:=t4}:=tz (it:=z) (s':={s with heap:=u5.push {cls:=.type "tuple",data:=.seq #[ux,uy]},toks:=t4}) (by simp) nz I6 k7
  have I8:Inv X pins σ (upd H u5.objs.size (.tup [x,y])) {s with heap:=u8,toks:=t4}:=tz (it:=z) (s':={s with heap:=u7,toks:=t4}) (by simp) nz I7 k8
  have I9:Inv X pins σ (upd H u5.objs.size (.tup [x,y])) {s with heap:=u9,toks:=t4}:=tz (it:=z) (s':={s with heap:=u8,toks:=t4}) (by simp) nz I8 k9
  have up:∀ c o,c≠z→u5.get? c=some o→u9.get? c=some o:=fun c o n e=>k9.extBut _ _ n (k8.extBut _ _ n (k7.extBut _ _ n (Heap.get?_push_of_some _ e)))
  refine⟨.ref u5.objs.size,_,I9,rfl,⟨u5.objs.size,x,y,y1,y2,rfl,a4r I5 nT,rfl⟩,⟨q9,up _ _ D.TIz (all _ _ D.TIz D.TITO D.TIi1 D.TIi2 hTI),⟨_,_,up _ _ D.TOz p5⟩,
   S1.keep _ _ _ st1' fun o e=>up _ o D.i1z (k5.extBut _ _ D.TOi1.symm (k4.extBut _ _ D.i12 (k3.extBut _ _ D.TOi1.symm e))),S2.keep _ _ _ st2' fun o e=>up _ o D.i2z (k5.extBut _ _ D.TOi2.symm e)⟩,fun c hc=>?_⟩
  rw[a0d (Nat.ne_of_lt (lt c hc))]
  exact(hf c hc).1
 done:=by
  intro X hP hw hK hc i pins s σ H E I hf st hg
  subst hP hw hK
  obtain⟨hz,hTI,⟨a,b,hTO⟩,h1,h2⟩:=st
  have hh:X.A.in1.handled=none:=I.ok.hd hc
  have ty:s.TypeIs (.ref z) "zip":=⟨_,hz,rfl⟩
  have tz:∀ {s':Shared} {h':Heap} {t':Nat} {it:Addr},it∈[z,TI,TO,i1,i2]→Inv X pins σ H s'→(∀ b o,b≠it→s'.heap.get? b=some o→h'.get? b=some o)→Inv X pins σ H {s' with heap:=h',toks:=t'}:=fun {s' h' t' it} hm I' sb=>by
   obtain⟨f0,f1,f2,f3,f4,f5⟩:=hf it hm
   exact I'.turned sb f0 f1 f3 f4 f5
  have same:∀ {it:Addr} {g h:Heap},Heap.SameBut it g h→∀ b o,b≠it→g.get? b=some o→h.get? b=some o:=fun sb b o hb e=>(sb.2 b hb).trans e
  refine wpAny_bind (wpAny_attempt (wpAny_callSpecial?_slot (name:=Str.ofString "__next__") ty F.slot_zip_next (wpAny_call_entry F.slot_zip_next ty F.entry_zip_next (d7i hz hTI fun u1 q1 k1=>?_) (F.args_zip_next_1 _))))
  have I1:Inv X pins σ H {s with heap:=u1}:=tz (it:=z) (t':=s.toks) (by simp) I (same k1)
  have st1:=S1.keep i _ _ h1 fun o e=>k1.extBut _ _ D.i1z e
  have ended:∀ {g:Heap} {tk:Nat} {e:Addr},Inv X pins σ H {s with heap:=g,toks:=tk}→IsZip g z TI TO .ellipsis→(∃ o,g.get? e=some o∧o.cls=.type "StopIteration")→IsZip g z TI TO .ellipsis∧∀ g5,Heap.SameBut z g g5 →
    wpAny (model X.prog X.w) X.A ((do if ← isInstance (.ref e) (.type "StopIteration") then return none else throw (.ref e)):Sem (Option Value)) (fun r s1=>r=none∧Inv X pins σ H s1) E {s with heap:=g5,toks:=tk}:=fun {g tk e} I' q ⟨o,eo,co⟩=>⟨q,fun g5 k5=>by
   have ne:e≠z:=fun y=>by rw[y,q] at eo;cases eo;simp at co
   exact wpAny_bind (wpAny_isInstance (T:="StopIteration") (b:=true) ⟨o,k5.extBut _ _ ne eo,co⟩ isSubtype_stop (wpAny_pure ⟨rfl,tz (it:=z) (s':={s with heap:=g,toks:=tk}) (by simp) I' (same k5)⟩))⟩
  rcases hg with e1 | ⟨g1,e2⟩
  ·exact S1.done X rfl rfl rfl _ hh i pins {s with heap:=u1} σ H _ _ I1 st1 e1 fun u2 e k2 he=>ended (tk:=s.toks) (tz (it:=i1) (s':={s with heap:=u1}) (by simp) I1 k2) (k2 _ _ D.i1z.symm q1) he
  ·refine S1.item X rfl rfl rfl _ i pins {s with heap:=u1} σ H _ _ I1 st1 g1 fun x ux u2 t2 rx y1 st1' k2=>⟨a,b,k2.extBut _ _ D.TOi1 (k1.extBut _ _ D.TOz hTO),fun u3 p3 k3=>?_⟩
   have I2:Inv X pins σ H {s with heap:=u2,toks:=t2}:=tz (it:=i1) (s':={s with heap:=u1}) (by simp) I1 (same k2)
   have I3:Inv X pins σ H {s with heap:=u3,toks:=t2}:=tz (it:=TO) (s':={s with heap:=u2,toks:=t2}) (by simp) I2 (same k3)
   refine S2.done X rfl rfl rfl _ hh i pins {s with heap:=u3,toks:=t2} σ H _ _ I3 (S2.keep i _ _ h2 fun o e=>k3.extBut _ _ D.TOi2.symm (k2.extBut _ _ D.i12.symm (k1.extBut _ _ D.i2z e))) e2 fun u4 e k4 he=>?_
   exact ended (tk:=t2) (tz (it:=i2) (s':={s with heap:=u3,toks:=t2}) (by simp) I3 k4) (k4 _ _ D.i2z.symm (k3.extBut _ _ D.TOz.symm (k2.extBut _ _ D.i1z.symm q1))) he
 self:=fun _ _ _ _ _ st h=>wpAny_pyIter_zip st.1 h
inductive e1f (h:Heap):Value→Obj→Prop where
 | list {l:Addr} {xs:Array Value} (e:h.IsList l xs):e1f h (.ref l) {cls:=.type "list_iterator",data:=.fields #[.ref l,.int 0 0]}
 | tup {l:Addr} {xs:Array Value} (e:h.IsTuple l xs):e1f h (.ref l) {cls:=.type "tuple_iterator",data:=.fields #[.ref l,.int 0 0]}
 | str (y:Str) (t:Tok):e1f h (.str y t) (e0m y t)
theorem e1f.keep {h h':Heap} {u:Value} {o:Obj} (x:e1f h u o) (k:∀ b o,h.get? b=some o→h'.get? b=some o):e1f h' u o:=by
 cases x with
 | list e=>exact .list (e.at fun o q=>k _ o q)
 | tup e=>obtain⟨o,e,r⟩:=e;exact .tup ⟨o,k _ _ e,r⟩
 | str y t=>exact .str y t
theorem d0q {A:Around} {E:Value→Shared→Prop} {s:Shared} {u:Value} {o:Obj} {Q:Value→Shared→Prop} (x:e1f s.heap u o) (h:Q (.ref s.heap.objs.size) {s with heap:=s.heap.push o}):wpAny (model P w) A (pyIter u) Q E s:=by
 cases x with
 | list e=>exact wpAny_pyIter_list e h
 | tup e=>exact wpAny_pyIter_tuple e h
 | str y t=>exact d7z h
abbrev zA (h:Heap) (o1:Obj):Heap:=h.push o1
abbrev zB (h:Heap) (o1 o2:Obj):Heap:=(zA h o1).push o2
abbrev zC (h:Heap) (o1 o2:Obj):Heap:=(zB h o1 o2).push {cls:=.type "tuple",data:=.seq #[.ref h.objs.size,.ref (zA h o1).objs.size]}
abbrev zD (h:Heap) (o1 o2:Obj):Heap:=(zC h o1 o2).push {cls:=.type "tuple",data:=.seq #[.none,.none]}
abbrev zE (h:Heap) (o1 o2:Obj):Heap:=(zD h o1 o2).push {cls:=.type "zip",data:=.fields #[.none,.bool false,.bool false,.ref (zB h o1 o2).objs.size,.ref (zC h o1 o2).objs.size]}
structure f1s (h g:Heap) (o1 o2:Obj) (z TI TO i1 i2:Addr):Prop where
 zip:IsZip g z TI TO .none
 ins:IsPair g TI (.ref i1) (.ref i2)
 outs:IsPair g TO .none .none
 one:g.get? i1=some o1
 two:g.get? i2=some o2
 keep:∀ c o,h.get? c=some o→g.get? c=some o
 young:∀ c∈[z,TI,TO,i1,i2],h.objs.size≤c
 ap:f3e z TI TO i1 i2
theorem f1p (h:Heap) {o1 o2:Obj} (n1:o1.isFreed=false) (n2:o2.isFreed=false):f1s h (zE h o1 o2) o1 o2 (zD h o1 o2).objs.size (zB h o1 o2).objs.size (zC h o1 o2).objs.size h.objs.size (zA h o1).objs.size:=by
 have up:∀ {g:Heap} {a:Addr} {o u:Obj},g.get? a=some o→(g.push u).get? a=some o:=fun e=>Heap.get?_push_of_some _ e
 have at_:∀ {g:Heap} {o:Obj},o.isFreed=false→(g.push o).get? g.objs.size=some o:=fun e=>Heap.get?_push_size _ e
 have sA:(zA h o1).objs.size=h.objs.size+1:=Heap.size_push ..
 have sB:(zB h o1 o2).objs.size=h.objs.size+2:=by rw[Heap.size_push,sA]
 have sC:(zC h o1 o2).objs.size=h.objs.size+3:=by rw[Heap.size_push,sB]
 have sD:(zD h o1 o2).objs.size=h.objs.size+4:=by rw[Heap.size_push,sC]
 refine⟨at_ rfl,up (up (at_ rfl)),up (at_ rfl),up (up (up (up (at_ n1)))),up (up (up (at_ n2))),fun c o e=>up (up (up (up (up e)))),fun c hc=>?_,?_⟩
 ·rw[sA,sB,sC,sD] at hc
  simp only [List.mem_cons,List.not_mem_nil,or_false] at hc
  rcases hc with e | e | e | e | e<;>(rw[e];first | exact Nat.le_add_right _ _ | exact Nat.le_refl _)
 ·rw[sA,sB,sC,sD]
  exact e9a _
theorem d3m (u1 u2:Value) (o1 o2:Obj) :
  Meets (Builtin.«zip.__new__» ⟨[.type "zip",u1,u2],[]⟩) (fun _ R s=>e1f s.heap u1 o1∧e1f s.heap u2 o2∧R (.ok (.ret (.ref (zD s.heap o1 o2).objs.size))) {s with heap:=zE s.heap o1 o2}) :=
 .of_wp fun prog w A R s ⟨x1,x2,r⟩=>by
  obtain⟨hp,g,d,tk,os⟩:=s
  have hsub:=sub_zip
  have L1:e1f (Shared.heap ⟨hp,g,d,tk,os⟩) u1 o1:=x1
  have L2:e1f (Shared.heap ⟨hp.push o1,g,d,tk,os⟩) u2 o2:=x2.keep fun b o e=>Heap.get?_push_of_some _ e
  wp_walk using d0q L1,d0q L2
  exact⟨_,rfl,r⟩
theorem d6q {A:Around} {E:Value→Shared→Prop} {s:Shared} {u1 u2:Value} {o1 o2:Obj} {Q:Value→Shared→Prop} (x1:e1f s.heap u1 o1) (x2:e1f s.heap u2 o2) (n1:o1.isFreed=false) (n2:o2.isFreed=false)
  (k:∀ g z TI TO i1 i2,f1s s.heap g o1 o2 z TI TO i1 i2→Q (.ref z) {s with heap:=g}):wpAny (model P w) A (call (.type "zip") [u1,u2]) Q E s :=
 callType_new F.called_zip (by decide) (F.typeCall_zip_2 u1 u2) (F.newCall_zip_2 u1 u2) (fun obj=>F.args_object_init_3 obj u1 u2) F.entry_zip_new (d3m u1 u2 o1 o2) ⟨x1,x2,⟨_,(f1p s.heap n1 n2).zip,rfl⟩,k _ _ _ _ _ _ (f1p s.heap n1 n2)⟩
end
inductive e2k (K:PySem.W.Frag) (H:Hp):V→It→Prop where
 | list {a:Addr} {xs:List V} (h:SqL K H a xs):e2k K H (.ref a) (Itl K a)
 | tup {a:Addr} {xs:List V} (h:SqT K H a xs):e2k K H (.ref a) (Itt K a)
 | str (y:Str):e2k K H (.str y) (Itf (c4g y))
section
variable {X:Cx}
theorem f1n {pins:List (Addr×Obj)} {σ:L2.St} {H:Hp} {s:Shared} {v:V} {J:It} {u:Value} (I:Inv X pins σ H s) (x:e2k X.K H v J) (r:a2u v u):∃ o,e1f s.heap u o∧o.isFreed=false∧∀ it h',h'.get? it=some o→∃ st,Src X.prog X.w X.K J it st∧st 0 h':=by
 cases x with
 | list h =>
  cases r
  obtain⟨its,rv,p,hz⟩:=I.list h
  exact⟨_,.list p.isList,rfl,fun it h' e=>⟨_,e8w _ it,_,e,rfl,rfl⟩⟩
 | tup h =>
  cases r
  obtain⟨its,rv,p,hz⟩:=I.tuple h
  exact⟨_,.tup (show s.heap.IsTuple _ its.toArray from p),rfl,fun it h' e=>⟨_,e6h _ it,_,e,rfl,rfl⟩⟩
 | str y =>
  obtain⟨t,rfl⟩:=r
  exact⟨_,.str y t,rfl,fun it h' e=>⟨_,f4q y t it,_,e,rfl,rfl⟩⟩
def g1y (K:PySem.W.Frag) (ta:TA):TI:=fun σ H R=>ta σ H fun vs H1=>∃ u v J1 J2,vs=[u,v]∧e2k K H1 u J1∧e2k K H1 v J2∧R (ItZ J1 J2) H1
theorem f5j {a b:Expr} {ta:TA} {p pos:Pos} {elts:List Expr} {kk:Nat} {tpos:Pos} (hg:Gl X "zip") (hm:X.mg "zip"=none) (ha:PA X [a,b] ta) (hs:starEach [a,b] X.env=[(false,eval a X.env),(false,eval b X.env)]:=by rfl) (hs2:starEach [b] X.env=[(false,eval b X.env)]:=by rfl) :
  PI X (.Tuple elts kk tpos) (.Call (.Name "zip" p) [a,b] [] pos) (g1y X.K ta):=by
 constructor;intro pins s σ H R I h
 refine Call_ (c9z I hg hm boot_zip (PyProof.Rows.callWith_type1 (thn (ha pos pins s σ H _ I h) fun us s1 ⟨vs,H1,I1,r1,q1⟩=>?_) (by rw[hs,hs2]) (by rw[hs2];rfl)))
 obtain⟨x,y,J1,J2,rfl,x1,x2,q⟩:=q1
 obtain⟨u,w',rfl,ru,rw'⟩:=e1x r1
 obtain⟨o1,v1,n1,k1⟩:=f1n I1 x1 ru
 obtain⟨o2,v2,n2,k2⟩:=f1n I1 x2 rw'
 refine d6q v1 v2 n1 n2 fun g z TI TO i1 i2 Z=>?_
 obtain⟨st1,S1,t1⟩:=k1 _ _ Z.one
 obtain⟨st2,S2,t2⟩:=k2 _ _ Z.two
 have I2:Inv X pins σ H1 {s1 with heap:=g}:=I1.kept (t':=s1.toks) Z.keep
 exact wpAny_pyIter_zip (s:={s1 with heap:=g}) Z.zip ⟨z,[z,TI,TO,i1,i2],_,ItZ J1 J2,H1,rfl,I2,e9v Z.ap S1 S2,⟨Z.zip,Z.ins,⟨_,_,Z.outs⟩,t1,t2⟩,fun b hb=>I1.fpOk (Z.young b hb) (I1.hok.fresh (Z.young b hb)),q⟩
end
structure f1h (J:It) (H:Hp) (xs:List V):Prop where
 go:∀ i,i < xs.length→J.go i H
 stop:∀ i,xs.length≤i→J.stop i H
 yld:∀ i x H',J.yld i H x H'→xs[i]?=some x
theorem a1g {K:PySem.W.Frag} {H:Hp} {a:Addr} {xs:List V} (h:SqL K H a xs):f1h (Itl K a) H xs:=⟨fun i hi=>⟨xs,xs[i],h,by simp[hi]⟩,fun i hi=>⟨xs,h,hi⟩,fun i x H' y=>y.2 xs h⟩
theorem d5t {K:PySem.W.Frag} {H:Hp} {a:Addr} {xs:List V} (h:SqT K H a xs):f1h (Itt K a) H xs:=⟨fun i hi=>⟨xs,xs[i],h,by simp[hi]⟩,fun i hi=>⟨xs,h,hi⟩,fun i x H' y=>y.2 xs h⟩
theorem e4w {J1 J2:It} {xs ys:List V} {g:TG} {tb:TS} {D:d7t} {σ:L2.St} {H:Hp} (Pv:Nat→L2.St→Hp→Prop) (h0:Pv 0 σ H) (hl:∀ i σ H,Pv i σ H→f1h J1 H xs∧f1h J2 H ys)
  (hs:∀ i x y σ H p,xs[i]?=some x→ys[i]?=some y→Pv i σ H→H p=none→g (.ref p) σ (upd H p (.tup [x,y])) fun σ2 H2=>tb {D with nx:=Pv (i+1),ct:=Pv (i+1),bk:=D.nx} σ2 H2) (hd:∀ σ H,Pv (min xs.length ys.length) σ H→D.nx σ H) :
  ∃ W:Nat→Nat→L2.St→Hp→Prop,(∃ m,W 0 m σ H)∧∀ i m σ H,W i m σ H →
   ((ItZ J1 J2).stop i H∧D.nx σ H)∨((ItZ J1 J2).go i H∧∃ N:L2.St→Hp→Prop,(∀ σ' H',N σ' H'→∃ m',m' < m∧W (i+1) m' σ' H')∧∀ x H',(ItZ J1 J2).yld i H x H'→g x σ H' fun σ2 H2=>tb {D with nx:=N,ct:=N,bk:=D.nx} σ2 H2):=by
 refine⟨fun i m σ H=>m=min xs.length ys.length - i∧i≤min xs.length ys.length∧Pv i σ H,⟨min xs.length ys.length,by simp,Nat.zero_le _,h0⟩,?_⟩
 rintro i m σ H ⟨rfl,hi,p⟩
 obtain⟨G1,G2⟩:=hl i σ H p
 by_cases hlt:i < min xs.length ys.length
 ·refine .inr ⟨⟨G1.go i (by omega),G2.go i (by omega)⟩,Pv (i+1),fun σ' H' p'=>⟨min xs.length ys.length - (i+1),by omega,rfl,hlt,p'⟩,fun v H' y=>?_⟩
  obtain⟨q,x,y,y1,y2,rfl,hn,rfl⟩:=y
  exact hs i x y σ H q (G1.yld i x _ y1) (G2.yld i y _ y2) p hn
 ·have e:i=min xs.length ys.length:=by omega
  subst e
  refine .inl ⟨?_,hd σ H p⟩
  by_cases h:xs.length≤ys.length
  ·exact .inl (G1.stop _ (by omega))
  ·exact .inr ⟨G1.go _ (by omega),G2.stop _ (by omega)⟩
end My
namespace My
open PySem PySem.Spec PyProof.Rows L2 PySem.NumText
section
variable {X:Cx} {K:PySem.W.Frag}
theorem b1d (hK:X.K=K):b7y X (.builtin "isinstance") (fun xs H Q=>∃ a C b c,xs=[V.ref a,c]∧H a=some (e5t a C)∧e8p K C∧((∃ D,c=V.ref D∧PySem.W.kitOne K (.ref C) (.ref D)=some b)∨∃ T,c=V.ty T∧PySem.W.kitOne K (.ref C) (.type T)=some b)∧Q (.bl b) H):=by
 subst hK
 exact e8z
end
end My
namespace My
open PySem PySem.Spec PyProof.Rows L2
def a8e (X:Cx) (scope:Scope) (N:List Str) (C:Addr) (s₀:Shared) (H₀:Hp) (ex:List Addr):Cx :=
 {X with N:=N,s₀:=s₀,H₀:=H₀,env:=compEnvC scope [] C X.env,outer:=X.stack,stack:=X.stack,ex:=ex,fn:=fun _=>true,pn:=[],xe:=fun _ _=>False}
theorem c1c {scope:Scope} {env:Env} (h:∀ q∈scope.names,q.2≠.free):(relabel scope env).names=scope.names:=by
 show scope.names.map _=scope.names
 refine(List.map_congr_left fun q hq=>?_).trans (List.map_id _)
 obtain⟨n,k⟩:=q
 have hk:(k == NameKind.free)=false:=by simpa using h _ hq
 simp[hk]
section
variable {X:Cx} {pins:List (Addr×Obj)} {σ:L2.St} {H:Hp} {s:Shared} {scope:Scope} {N:List Str} {C:Addr} {ex:List Addr}
theorem f4b (I:Inv X pins σ H s) (hfree:∀ q∈scope.names,q.2≠.free) (hcell:∀ q∈scope.names,q.2≠.cell) (hkind:scope.kind=.function) (hC:s.heap.objs.size≤C)
  (hf:∀ b∈ex,c4p X pins H b) (ho:∀ b∈ex,∃ o,s.heap.get? b=some o):(a8e X scope N C s H ex).Ok:=by
 refine⟨I.ok.mod,hkind,I.ok.glob,I.ok.blt,hC,fun x y c e=>(by cases e),fun x hx=>?_,fun x c _ e=>(by cases e),I.ok.hd,I.ok.frames,.inl rfl,fun b hb=>⟨?_,fun x c e=>(by cases e)⟩,I.bs,Nat.le_trans I.ok.bsz I.sz,fun b o e hb=>?_,fun b hb hm=>?_,I.stack,I.stkFree⟩
 ·have e:(a8e X scope N C s H ex).env.kindOf x=scope.names.lookup x:=by
   show (relabel scope X.env).names.lookup x=_
   rw[c1c hfree]
  rw[e] at hx
  rcases hx with z | z
  ·exact absurd rfl (hcell _ (PySem.mem_of_lookup z))
  ·exact absurd rfl (hfree _ (PySem.mem_of_lookup z))
 ·obtain⟨o,e⟩:=ho b hb
  exact Nat.ne_of_lt (Nat.lt_of_lt_of_le (Heap.lt_size e) hC)
 ·obtain⟨_,_,_,q,_⟩:=hf b hb
  rcases q with q | q
  ·exact I.ok.noex b o e q
  ·exact absurd (Nat.lt_of_lt_of_le (Heap.lt_size e) (Nat.le_trans I.ok.bsz q)) (Nat.lt_irrefl _)
 ·obtain⟨_,q1,q2,_⟩:=hf b hb
  rcases List.mem_cons.mp (I.stkSub b hm) with z | z
  ·exact q1 z
  ·exact q2 z
theorem e3h {D:Addr} {h':Heap} {t':Nat} {m:Str→Option Value} (I:Inv X pins σ H s) (ok:(a8e X scope N C s H ex).Ok) (hk:∀ b o,s.heap.get? b=some o→h'.get? b=some o) (hD:s.heap.get? D=none) (hC:s.heap.get? C=none) (hDC:D≠C)
  (hl:h'.get? D=some {cls:=.type "list",data:=.seq #[]}) (hn:h'.Ns C m):Inv (a8e X scope N C s H ex) [] (List.replicate N.length none) (upd H D (.lst [])) {s with heap:=h',toks:=t'}:=by
 have nD:=a4r I hD
 have neD:∀ b u,s.heap.get? b=some u→b≠D:=fun b u e z=>by rw[z,hD] at e;cases e
 refine⟨ok,rfl,I.bare,⟨fun b u q _ _ _=>hk b u q,fun b u q _ _ _=>⟨u.slots,hk b u q⟩,fun b u q n _=>by rw[a0d (neD b u q)];exact n,fun b u q _=>⟨u,hk b u q⟩,fun b xs q=>by rw[a0d (a0u q nD)];exact q,
  fun b u xs q=>by rw[a0d (a0u q nD)];exact q,fun b ps (q:H b=_)=>⟨#[],by rw[a0d (a0u q nD),q];simp⟩⟩,⟨m,hn,fun i x v e1 e2=>?_⟩,fun x c e=>(by cases e),?_,fun x c e=>(by cases e),fun p hp=>(by cases hp),fun b u e=>?_,by simp[a8e]⟩
 ·rw[List.getElem?_replicate] at e2
  split at e2<;>cases e2
 ·show upd H D (.lst []) C=none
  rw[a0d (Ne.symm hDC)]
  exact a4r I hC
 ·by_cases hb:b=D
  ·subst hb
   rw[a0b] at e
   cases e
   exact⟨Nat.zero_le _,[],_,.nil,hl⟩
  ·rw[a0d hb] at e
   exact(I.hok b u e).stay (fun c v _ q=>hk c v q) (fun c q=>by rw[a0d (a0u q nD)];exact q) fun c xs q=>by rw[a0d (a0u q nD)];exact q
end
def f4r (N:List Str) (J:It) (g:TG) (te:TE) (Q:VK) (H1:Hp):Prop:=∀ D,H1 D=none→∃ W:Nat→Nat→List V→L2.St→Hp→Prop,(∃ m,W 0 m [] (List.replicate N.length none) (upd H1 D (.lst [])))∧∀ i m ys τ H,W i m ys τ H→H D=some (.lst ys) ∧
 ((J.stop i H∧Q (.ref D) H)∨(J.go i H∧ys.length < sizeLine∧∀ v H',J.yld i H v H'→g v τ H' fun τ2 H2=>te τ2 H2 fun y H3=>H3 D=some (.lst ys)∧∃ m',m' < m∧W (i+1) m' (ys++[y]) τ2 (upd H3 D (.lst (ys++[y])))))
section
variable {X:Cx} {pins:List (Addr×Obj)} {σ:L2.St} {H:Hp} {s:Shared} {scope:Scope} {N:List Str} {target iter elt:Expr} {pos:Pos} {g:TG} {te:TE}
theorem b7q {s':Shared} {H':Hp} {fp:List Addr} {C:Addr} (I:Inv X pins σ H s) (hf:∀ b∈fp,c4p X pins H b) (os:s'.os=s.os) (bare:AllBare s'.gens) (un:Un (frs X.stack) fp H H' s.heap s'.heap) (hok:HOk X.prog X.w H' s'.heap) (nC:H' C=none) (hC:s.heap.objs.size≤C) :
  Inv X pins σ H' s'∧c4p X pins H' C :=
 ⟨I.call' os un hok bare fun b hb=>let ⟨_,f1,_,f3,f4,f5⟩:=hf b hb;⟨f3,f1,f4,f5⟩,I.fpOk hC nC⟩
theorem d4g {H':Hp} {C:Addr} {h':Heap} (I:Inv X pins σ H' s) (f:c4p X pins H' C) (k:Heap.SameBut C s.heap h'):Inv X pins σ H' {s with heap:=h'} :=
 let ⟨f0,f1,_,f3,f4,f5⟩:=f
 I.turned (t':=s.toks) (fun b o hb e=>(k.2 b hb).trans e) f0 f1 f3 f4 f5
def f8z (N:List Str) (wi:TI) (g:TG) (te:TE):TE:=fun σ H Q=>wi σ H fun J H1=>f4r N J g te Q H1
end
end My
namespace My
open PySem PySem.Spec PyProof.Rows L2 PySem.Builtin.Str
theorem f2z {X:Cx} {body:List Stmt} {h₀:ExceptHandler} {hs:List ExceptHandler} {tb:TS} {pos:Pos} (hb:PSs X.nox body tb):PS X (.Try body (h₀::hs) [] [] pos) tb:=by
 constructor;intro pins s σ H D I h
 refine wpAny_Try_except (wpAny_mono (hb pins s σ H D (I.wish _) h) (fun f s1 q=>?_) fun _ _ z=>z.elim)
 cases f with
 | next=>obtain⟨σ',H',I',q⟩:=q;exact wpAny_execs_nil ⟨σ',H',I'.unwish,q⟩
 | brk=>obtain⟨σ',H',I',q⟩:=q;exact⟨σ',H',I'.unwish,q⟩
 | cont=>obtain⟨σ',H',I',q⟩:=q;exact⟨σ',H',I'.unwish,q⟩
 | ret u=>obtain⟨v,σ',H',I',r,q⟩:=q;exact⟨v,σ',H',I'.unwish,r,q⟩
theorem d9t {P:Program} {w:World} {X:Cx}:b3z (CXW P w) X (fun _ _ _=>False):=fun _ _ _ _ _ _ _ h=>by
 obtain⟨_,_,_,_,_,_,_,_,_,_,_,_,_,_,_,_,z⟩:=h
 exact z.elim
end My
namespace My
open PySem PySem.Spec PyProof.Rows L2
structure g1u (P:Program) (w:World) (K:PySem.W.Frag) (a:Addr) (kvs:List (Key×V)):Prop where
 get:∀ h:Heap,K.In h→∃ vs,KV kvs vs∧h.DictOf (a1x P w) a vs
 sys:(a == sysModules)=false
end My
namespace My
open PySem PySem.Spec PyProof.Rows L2
theorem f3y {X:Cx} {K:PySem.W.Frag} {es:List Expr} {k:Nat} {t:TGs} {n:Nat} {pos:Pos} (hK:X.K=K) (hc:X.calm=true) (h:PGs X es t) (hn:(assignEach es X.env).length=n:=by rfl) (hst:(assignEach es X.env).findIdx? (·.1)=none:=by rfl):PG X (.Tuple es k pos) (g0o K n t):=by
 subst hK
 exact e0d hc h hn hst
end My
namespace My
open PySem PySem.Spec PyProof.Rows L2
def del (H:Hp) (a:Addr):Hp:=fun b=>if b=a then none else H b
theorem a5x {H:Hp} {a b:Addr} (h:b≠a):del H a b=H b:=if_neg h
section
variable {P:Program} {w:World} {K:PySem.W.Frag} {mg:Str→Option Value} {base:Heap} {N:List Str} {qual:Str} {scope:Scope} {f:Addr} {cd:Value} {A:Around} {outer:List Env} {s₀:Shared} {H₀:Hp} {E:XK}
 {pins:List (Addr×Obj)} {σ:L2.St} {H H2:Hp} {s s2:Shared} {h':Heap} {ea C:Addr} {d:Option Addr}
end
end My
namespace My
open PySem PySem.Spec PyProof.Rows L2
def a4p (cells:List (Str×Addr)):List (Str×NameKind)→List (Str×Addr)→List (Str×Addr)
 | [],acc=>acc
 | (n,k)::r,acc=>if (k == NameKind.free)=true then a4p cells r ((n,(cells.lookup n).getD 0)::acc) else a4p cells r acc
theorem e1z {scope:Scope} {env:Env} (h:∀ q∈scope.names,q.2=.free→∃ c,env.cells.lookup q.1=some c):closureFor scope env=pure (a4p env.cells scope.names []):=by
 simp only [closureFor]
 generalize ([]:List (Str×Addr))=acc
 revert h
 generalize scope.names=names
 intro h
 induction names generalizing acc with
 | nil=>rfl
 | cons q r ih =>
  obtain⟨n,k⟩:=q
  rw[List.forIn_cons]
  by_cases hk:(k == NameKind.free)=true
  ·obtain⟨c,hc⟩:=h (n,k) List.mem_cons_self (by simpa using hk)
   have e:cellOf env n=pure c:=by simp only [cellOf,hc]
   simp only [a4p,hk,if_true,e,hc,Option.getD_some,pure_bind]
   exact ih _ fun q hq=>h q (List.mem_cons_of_mem _ hq)
  ·simp only [a4p,hk,if_false,pure_bind,Bool.false_eq_true]
   exact ih _ fun q hq=>h q (List.mem_cons_of_mem _ hq)
theorem c1r {cells:List (Str×Addr)}:∀ {names:List (Str×NameKind)} {acc:List (Str×Addr)},(∀ q∈names,q.2=.free→∃ c,cells.lookup q.1=some c)→(∀ x c,acc.lookup x=some c→cells.lookup x=some c)→∀ x c,(a4p cells names acc).lookup x=some c→cells.lookup x=some c
 | [],_,_,ha=>ha
 | (n,k)::r,acc,h,ha=>by
  intro x c e
  by_cases hk:(k == NameKind.free)=true
  ·obtain⟨d,hd⟩:=h (n,k) List.mem_cons_self (by simpa using hk)
   rw[a4p,if_pos hk] at e
   refine c1r (fun q hq=>h q (List.mem_cons_of_mem _ hq)) (fun y b q=>?_) x c e
   cases hy:y == n with
   | true =>
    rw[List.lookup_cons,hy] at q
    have ey:y=n:=by simpa using hy
    subst ey
    have hd':List.lookup y cells=some d:=hd
    rw[hd'] at q ⊢
    simpa using q
   | false =>
    rw[List.lookup_cons,hy] at q
    exact ha y b q
  ·rw[a4p,if_neg hk] at e
   exact c1r (fun q hq=>h q (List.mem_cons_of_mem _ hq)) ha x c e
theorem b7o {cells:List (Str×Addr)}:∀ {names:List (Str×NameKind)} {acc:List (Str×Addr)} {x:Str},((x,NameKind.free)∈names∨∃ c,acc.lookup x=some c)→∃ c,(a4p cells names acc).lookup x=some c
 | [],_,_,h=>h.elim (fun z=>by cases z) id
 | (n,k)::r,acc,x,h=>by
  by_cases hk:(k == NameKind.free)=true
  ·rw[a4p,if_pos hk]
   refine b7o ?_
   cases hx:x == n with
   | true=>exact .inr ⟨_,by rw[List.lookup_cons,hx]⟩
   | false =>
    rcases h with h | ⟨c,h⟩
    ·rcases List.mem_cons.mp h with z | z
     ·cases z
      simp at hx
     ·exact .inl z
    ·exact .inr ⟨c,by rw[List.lookup_cons,hx];exact h⟩
  ·rw[a4p,if_neg hk]
   refine b7o ?_
   rcases h with h | h
   ·rcases List.mem_cons.mp h with z | z
    ·cases z
     exact absurd rfl hk
    ·exact .inl z
   ·exact .inr h
theorem b4z {env:Env}:∀ {names:List (Str×NameKind)} {x:Str} {k':NameKind},(names.map fun (n,k)=>if (k == NameKind.free && env.scope.kind == .function && env.kindOf n == some .cell) then (n,NameKind.cell) else (n,k)).lookup x=some k' →
  ∃ k,names.lookup x=some k∧(k'=k∨(k=.free∧k'=.cell))
 | [],_,_,h=>by simp at h
 | (n,k)::r,x,k',h=>by
  have ih:=@b4z env r x k'
  have h:List.lookup x ((if (k == NameKind.free && env.scope.kind == .function && env.kindOf n == some .cell)=true then (n,NameKind.cell) else (n,k))::_)=some k':=h
  cases hx:x == n with
  | true =>
   by_cases hc:(k == NameKind.free && env.scope.kind == .function && env.kindOf n == some .cell)=true
   ·rw[if_pos hc,List.lookup_cons,hx] at h
    cases h
    have hk:k=.free:=by
     simp only [Bool.and_eq_true] at hc
     simpa using hc.1.1
    exact⟨k,by rw[List.lookup_cons,hx],.inr ⟨hk,rfl⟩⟩
   ·rw[if_neg hc,List.lookup_cons,hx] at h
    cases h
    exact⟨k,by rw[List.lookup_cons,hx],.inl rfl⟩
  | false =>
   obtain⟨k2,e,q⟩:=ih (by
    by_cases hc:(k == NameKind.free && env.scope.kind == .function && env.kindOf n == some .cell)=true
    ·rw[if_pos hc,List.lookup_cons,hx] at h;exact h
    ·rw[if_neg hc,List.lookup_cons,hx] at h;exact h)
   exact⟨k2,by rw[List.lookup_cons,hx];exact e,q⟩
def a1h (X:Cx) (scope:Scope) (N:List Str) (cl:List (Str×Addr)) (C:Addr) (s₀:Shared) (H₀:Hp) (ex:List Addr):Cx :=
 {X with N:=N,s₀:=s₀,H₀:=H₀,env:=compEnvC scope cl C X.env,outer:=X.stack,stack:=X.stack,ex:=ex,fn:=fun _=>false,pn:=[],xe:=fun _ _=>False}
def b9z (σ:L2.St) (n:Nat) (js:List Nat):L2.St:=List.replicate n none++js.map fun j=>(σ[j]?).getD none
def f4t (ifs:List Expr) (env:Env):Sem Bool:=forIn ifs true fun c r=>if r=true then do let ok ← isTrue c env (eval c env);pure (ForInStep.yield ok) else pure (ForInStep.yield r)
structure f4s (X:Cx) (ifs:List Expr) (t:TT):Prop where
 run:∀ (pins:List (Addr×Obj)) (s:Shared) (σ:L2.St) (H:Hp) (Q:Bool→Hp→Prop),Inv X pins σ H s→t σ H Q→wpAny (model X.prog X.w) X.A (f4t ifs X.env) (TP X pins σ Q) X.xe s
def f8j:TT:=fun _ H Q=>Q true H
theorem d1u {X:Cx}:f4s X [] f8j:=⟨fun pins s σ H Q I h=>wpAny_tests_nil ⟨H,I,h⟩⟩
theorem e0k {X:Cx} {c:Expr} {t:TT} (h:PT X c t):f4s X [c] t:=⟨fun pins s σ H Q I q=>wpAny_tests_one (h pins s σ H Q I q)⟩
structure a4o (X:Cx) (scope:Scope) (fv:List Str) (js:List Nat):Prop where
 kind:scope.kind=.function
 cell:∀ q∈scope.names,q.2≠.cell
 names:∀ q∈scope.names,q.2=.local→scope.names.lookup q.1=some .local
 free:∀ q∈scope.names,q.2=.free→q.1∈fv
 out:∀ x∈fv,X.env.kindOf x=some .cell∨X.env.kindOf x=some .free
 at':js.map (fun j=>X.N[j]?)=fv.map some
 fr:∀ x∈fv,scope.names.lookup x=some .free
section
variable {X:Cx} {pins:List (Addr×Obj)} {σ:L2.St} {H:Hp} {s:Shared} {scope:Scope} {N:List Str} {C:Addr} {ex:List Addr} {cl:List (Str×Addr)} {fv tg:List Str} {js:List Nat}
theorem a4o.clos (S:a4o X scope fv js) (ok:X.Ok):closureFor scope X.env=pure (a4p X.env.cells scope.names []):=e1z fun q hq e=>ok.has q.1 (S.out q.1 (S.free q hq e))
theorem a4o.sub (S:a4o X scope fv js) (ok:X.Ok):∀ x c,(a4p X.env.cells scope.names []).lookup x=some c→X.env.cells.lookup x=some c :=
 c1r (fun q hq e=>ok.has q.1 (S.out q.1 (S.free q hq e))) (fun x c e=>by cases e)
theorem e1j (I:Inv X pins σ H s) (S:a4o X scope fv js) (hC:s.heap.objs.size≤C)
  (hf:∀ b∈ex,c4p X pins H b) (ho:∀ b∈ex,∃ o,s.heap.get? b=some o):(a1h X scope N (a4p X.env.cells scope.names []) C s H ex).Ok:=by
 have sub:=S.sub I.ok
 refine⟨I.ok.mod,S.kind,I.ok.glob,I.ok.blt,hC,fun x y c e1 e2=>I.ok.inj x y c (sub x c e1) (sub y c e2),fun x hx=>?_,fun x c z _=>Bool.noConfusion z,I.ok.hd,I.ok.frames,.inl rfl,fun b hb=>⟨?_,fun x c e=>?_⟩,I.bs,Nat.le_trans I.ok.bsz I.sz,fun b o e hb=>?_,fun b hb hm=>?_,I.stack,I.stkFree⟩
 ·have e:∃ k',(relabel scope X.env).names.lookup x=some k'∧(k'=.cell∨k'=.free):=by
   rcases hx with z | z
   ·exact⟨_,z,.inl rfl⟩
   ·exact⟨_,z,.inr rfl⟩
  obtain⟨k',e,hk⟩:=e
  obtain⟨k,e2,q⟩:=b4z e
  have hk2:k=.free:=by
   rcases q with rfl | ⟨rfl,_⟩
   ·rcases hk with rfl | rfl
    ·exact absurd rfl (S.cell _ (PySem.mem_of_lookup e2))
    ·rfl
   ·rfl
  subst hk2
  exact b7o (.inl (PySem.mem_of_lookup e2))
 ·obtain⟨o,e⟩:=ho b hb
  exact Nat.ne_of_lt (Nat.lt_of_lt_of_le (Heap.lt_size e) hC)
 ·obtain⟨_,_,_,_,q,_⟩:=hf b hb
  exact q x c (sub x c e)
 ·obtain⟨_,_,_,q,_⟩:=hf b hb
  rcases q with q | q
  ·exact I.ok.noex b o e q
  ·exact absurd (Nat.lt_of_lt_of_le (Heap.lt_size e) (Nat.le_trans I.ok.bsz q)) (Nat.lt_irrefl _)
 ·obtain⟨_,q1,q2,_⟩:=hf b hb
  rcases List.mem_cons.mp (I.stkSub b hm) with z | z
  ·exact q1 z
  ·exact q2 z
theorem c6u {D:Addr} {h':Heap} {t':Nat} {m:Str→Option Value} (I:Inv X pins σ H s) (S:a4o X scope fv js) (ok:(a1h X scope (tg++fv) (a4p X.env.cells scope.names []) C s H ex).Ok) (hk:∀ b o,s.heap.get? b=some o→h'.get? b=some o) (hD:s.heap.get? D=none) (hC:s.heap.get? C=none) (hDC:D≠C)
  (hl:h'.get? D=some {cls:=.type "list",data:=.seq #[]}) (hn:h'.Ns C m):Inv (a1h X scope (tg++fv) (a4p X.env.cells scope.names []) C s H ex) [] (b9z σ tg.length js) (upd H D (.lst [])) {s with heap:=h',toks:=t'}:=by
 have nD:=a4r I hD
 have neD:∀ b u,s.heap.get? b=some u→b≠D:=fun b u e z=>by rw[z,hD] at e;cases e
 have sub:=S.sub I.ok
 have cellK:∀ c v,s.heap.IsCell c v→h'.IsCell c v:=fun c v ⟨o,ho,hd⟩=>⟨o,hk c o ho,hd⟩
 have hlen:js.length=fv.length:=by have:=congrArg List.length S.at';simpa using this
 refine⟨ok,rfl,I.bare,⟨fun b u q _ _ _=>hk b u q,fun b u q _ _ _=>⟨u.slots,hk b u q⟩,fun b u q n _=>by rw[a0d (neD b u q)];exact n,fun b u q _=>⟨u,hk b u q⟩,fun b xs q=>by rw[a0d (a0u q nD)];exact q,
  fun b u xs q=>by rw[a0d (a0u q nD)];exact q,fun b ps (q:H b=_)=>⟨#[],by rw[a0d (a0u q nD),q];simp⟩⟩,⟨m,hn,fun i x v e1 e2 e3=>?_⟩,fun x c e=>?_,?_,fun x c e=>?_,fun p hp=>(by cases hp),fun b u e=>?_,by simp[a1h,b9z,hlen]⟩
 ·have e1:(tg++fv)[i]?=some x:=e1
  rcases Nat.lt_or_ge i tg.length with hi | hi
  ·rw[b9z,List.getElem?_append_left (by simpa using hi),List.getElem?_replicate,if_pos hi] at e2
   cases e2
  ·rw[List.getElem?_append_right hi] at e1
   rw[b9z,List.getElem?_append_right (by simpa using hi),List.length_replicate,List.getElem?_map] at e2
   obtain⟨j,hj,e2⟩:=Option.map_eq_some_iff.mp e2
   have hσ:σ[j]?=some (some v):=by
    cases q:σ[j]? with
    | none=>rw[q] at e2;cases e2
    | some z=>rw[q] at e2;exact congrArg some e2
   have hN:X.N[j]?=some x:=by
    have q:=congrArg (fun l=>l[i - tg.length]?) S.at'
    simp only [List.getElem?_map,hj,e1,Option.map_some] at q
    exact Option.some.inj q
   have hx:x∈fv:=List.mem_of_getElem? e1
   have ko:=S.out x hx
   obtain⟨m0,_,hl0⟩:=I.loc
   have vis:Vis X.env.scope x:=ko.elim (fun z=>.inr (.inl z)) fun z=>.inr (.inr z)
   obtain⟨u,ru,lk⟩:=hl0 j x v hN hσ vis
   obtain⟨c,hc,hcell⟩:∃ c,X.env.cells.lookup x=some c∧s.heap.IsCell c (some u):=by
    rcases lk with ⟨z,_⟩ | ⟨_,q⟩
    ·rcases ko with y | y<;>(rw[y] at z;cases z)
    ·exact q
   obtain⟨c2,hc2⟩:∃ c2,(a4p X.env.cells scope.names []).lookup x=some c2:=b7o (.inl (PySem.mem_of_lookup (S.fr x hx)))
   have ec:c2=c:=by have:=sub x c2 hc2;rw[hc] at this;exact(Option.some.inj this).symm
   subst ec
   refine⟨u,ru,.inr ⟨?_,c2,hc2,cellK _ _ hcell⟩⟩
   have e3:(relabel scope X.env).names.lookup x=some .local∨(relabel scope X.env).names.lookup x=some .cell∨(relabel scope X.env).names.lookup x=some .free:=e3
   rcases e3 with z | z | z
   ·obtain⟨k,ek,q⟩:=b4z z
    rw[S.fr x hx] at ek
    cases ek
    rcases q with q | ⟨_,q⟩<;>cases q
   ·exact .inl z
   ·exact .inr z
 ·obtain⟨v,z⟩:=I.cell x c (sub x c e)
  exact⟨v,cellK c v z⟩
 ·show upd H D (.lst []) C=none
  rw[a0d (Ne.symm hDC)]
  exact a4r I hC
 ·obtain⟨v,o,ho,_⟩:=I.cell x c (sub x c e)
  rw[a0d (neD c o ho)]
  exact I.freeC x c (sub x c e)
 ·by_cases hb:b=D
  ·subst hb
   rw[a0b] at e
   cases e
   exact⟨Nat.zero_le _,[],_,.nil,hl⟩
  ·rw[a0d hb] at e
   exact(I.hok b u e).stay (fun c v _ q=>hk c v q) (fun c q=>by rw[a0d (a0u q nD)];exact q) fun c xs q=>by rw[a0d (a0u q nD)];exact q
end
theorem e2l {prog:Program} {w:World} {A:Around} {s:Shared} {R:Result→Shared→Prop} {elt target iter:Expr} {ifs:List Expr} {scope:Scope} {pos:Pos} {it acc:Value} {env:Env} (I:Nat→Shared→Prop)
  (turn:∀ n s,I n s→wpAny (model prog w) A (pyNext it) (fun r s1=>(r=none∧R (.ok .next) s1)∨∃ v,r=some v∧wpAny (model prog w) A (letOwnedTupleGo target it v) (fun _ s2=>wpAny (model prog w) A (assign target env v) (fun _ s3 =>
   wpAny (model prog w) A (f4t ifs env) (fun ok s4=>if ok=true then wpAny (model prog w) A (eval elt env) (fun x s5=>wpAny (model prog w) A (call (.builtin "list.append") [acc,x]) (fun _ s6=>∃ m,m < n∧I m s6) (fun _ _=>False) s5) (fun _ _=>False) s4
    else ∃ m,m < n∧I m s4) (fun _ _=>False) s3) (fun _ _=>False) s2) (fun _ _=>False) s1) (fun _ _=>False) s)
  (n:Nat) (h:I n s):codeAny (model prog w) A (.compLoop (.ListComp elt [⟨target,iter,ifs,0⟩] scope pos) 0 it acc env) R s:=by
 have no:∀ {α:Type} {E:Value→Shared→Prop} {t:Sem α} {Q:α→Shared→Prop} {u:Shared},wpAny (model prog w) A t Q (fun _ _=>False) u→wpAny (model prog w) A t Q E u:=fun z=>wpAny_mono z (fun _ _ q=>q) fun _ _ q=>q.elim
 refine codeAny_loop rfl I (fun n s hI=>wpAny_noted ?_) n h
 rw[compTurn_list]
 refine wpAny_bind (wpAny_standAt (wpAny_bind (wpAny_mono (turn n s hI) (fun r s1 q=>?_) fun _ _ z=>z.elim)))
 rcases q with ⟨rfl,q⟩ | ⟨v,rfl,q⟩
 ·exact wpAny_pure q
 ·refine wpAny_bind (no (thn q fun _ s2 q2=>wpAny_bind (no (thn q2 fun _ s3 q3=>wpAny_bind (no (thn q3 fun ok s4 q4=>?_))))))
  cases ok with
  | false=>exact wpAny_pure ⟨rfl,q4⟩
  | true=>exact wpAny_bind (wpAny_bind (no (thn q4 fun x s5 q5=>wpAny_bind (no (thn q5 fun _ s6 q6=>wpAny_pure (wpAny_pure ⟨rfl,q6⟩))))))
def c8h (σ0:L2.St) (J:It) (g:TG) (tc:TT) (te:TE) (Q:VK) (H1:Hp):Prop:=∀ D,H1 D=none→∃ W:Nat→Nat→List V→L2.St→Hp→Prop,(∃ m,W 0 m [] σ0 (upd H1 D (.lst [])))∧∀ i m ys τ H,W i m ys τ H→H D=some (.lst ys) ∧
 ((J.stop i H∧Q (.ref D) H)∨(J.go i H∧ys.length < sizeLine∧∀ v H',J.yld i H v H'→g v τ H' fun τ2 H2=>tc τ2 H2 fun ok H3=>if ok=true then te τ2 H3 fun y H4=>H4 D=some (.lst ys)∧∃ m',m' < m∧W (i+1) m' (ys++[y]) τ2 (upd H4 D (.lst (ys++[y])))
  else ∃ m',m' < m∧W (i+1) m' ys τ2 H3))
section
variable {X:Cx} {pins:List (Addr×Obj)} {σ:L2.St} {H:Hp} {s:Shared} {scope:Scope} {fv:List Str} {js:List Nat} {target iter elt:Expr} {ifs:List Expr} {pos:Pos} {g:TG} {tc:TT} {te:TE}
theorem c6k {E:Value→Shared→Prop} {J:It} {fp:List Addr} {it:Addr} {tn:Nat→Heap→Prop} {Q:VK} {RR:Value→Addr→Result→Shared→Prop} (tg:List Str) (I:Inv X pins σ H s) (hc:X.calm=true)
  (S:a4o X scope fv js) (T:f1l X.prog X.w X.K target J fp it tn) (st:tn 0 s.heap) (hf:∀ b∈fp,c4p X pins H b)
  (hg:∀ cl C s₀ H₀ ex,PG (a1h X scope (tg++fv) cl C s₀ H₀ ex) target g) (hi:∀ cl C s₀ H₀ ex,f4s (a1h X scope (tg++fv) cl C s₀ H₀ ex) ifs tc) (he:∀ cl C s₀ H₀ ex,PE (a1h X scope (tg++fv) cl C s₀ H₀ ex) elt te) (q:c8h (b9z σ tg.length js) J g tc te Q H)
  (hRR:∀ D C H' s' m,s'.os=s.os→AllBare s'.gens→Un (frs X.stack) fp H H' s.heap s'.heap→HOk X.prog X.w H' s'.heap→s'.heap.Ns C m→H' C=none→s.heap.objs.size≤C→Q (.ref D) H'→RR (.ref D) C (.ok .next) s') :
  wpAny (model X.prog X.w) X.A (newList []) (fun acc s3=>wpAny (model X.prog X.w) X.A (newFunctionEnv scope X.env.globals (a4p X.env.cells scope.names []) [] X.env.qual none .none (some X.env)) (fun cenv s4 =>
   codeAny (model X.prog X.w) X.A (.compStart (.ListComp elt [⟨target,iter,ifs,0⟩] scope pos) 0 (.ref it) acc {cenv with scope:=relabel scope X.env}) (RR acc cenv.locals) s4) E s3) E s:=by
 refine wpAny_newObj_type (wpAny_newFunctionEnv S.cell (by intro y hy;simp at hy) (fun h1 hn k1=>?_) S.kind)
 dsimp only at hn k1 ⊢
 generalize hg2:s.heap.push {cls:=.type "list",dict:=none,data:=.seq ([]:List Value).toArray}=g2 at hn k1 ⊢
 have hC:g2.objs.size=s.heap.objs.size+1:=by rw[←hg2,Heap.size_push]
 have hDC:s.heap.objs.size≠g2.objs.size:=by rw[hC];exact Nat.ne_of_lt (Nat.lt_succ_self _)
 have hle:s.heap.objs.size≤g2.objs.size:=by rw[hC];exact Nat.le_succ _
 have nD:s.heap.get? s.heap.objs.size=none:=Heap.get?_none_of_le (Nat.le_refl _)
 have nC:s.heap.get? g2.objs.size=none:=Heap.get?_none_of_le hle
 have old:∀ b o,s.heap.get? b=some o→h1.get? b=some o:=fun b o e=>k1.extBut b o (Nat.ne_of_lt (Nat.lt_of_lt_of_le (Heap.lt_size e) hle)) (Heap.get?_push_of_some _ (hg2 ▸ Heap.get?_push_of_some _ e))
 have hl:h1.get? s.heap.objs.size=some {cls:=.type "list",data:=.seq #[]}:=k1.extBut _ _ hDC (Heap.get?_push_of_some _ (hg2 ▸ Heap.get?_push_size _ rfl))
 have ob:=T.obj 0 s.heap st
 generalize hcl:a4p X.env.cells scope.names []=cl
 have ok:(a1h X scope (tg++fv) cl g2.objs.size s H fp).Ok:=hcl ▸ e1j I S hle hf fun b hb=>let ⟨o,e,_⟩:=ob b hb;⟨o,e⟩
 have I0:Inv (a1h X scope (tg++fv) cl g2.objs.size s H fp) [] (b9z σ tg.length js) (upd H s.heap.objs.size (.lst [])) {s with heap:=h1,toks:=s.toks+([]:List (Str×Value)).length}:=by
  subst hcl
  exact c6u I S ok old nD nC hDC hl hn
 have st1:tn 0 h1:=T.keep 0 _ _ st fun b _ o e=>old b o e
 obtain⟨W,⟨m0,w0⟩,turn⟩:=q _ (a4r I nD)
 have fpok:∀ {H':Hp} {ps:List (Addr×Obj)},(∀ p∈ps,p.1 ∉ fp)→(∀ b∈fp,H' b=none)→∀ b∈fp,c4p (a1h X scope (tg++fv) cl g2.objs.size s H fp) ps H' b:=fun hps hn b hb=>⟨hn b hb,(ok.exf b hb).1,ok.exfs b hb,.inl hb,(ok.exf b hb).2,fun p hp z=>hps p hp (z ▸ hb)⟩
 have loop:codeAny (model X.prog X.w) X.A (.compLoop (.ListComp elt [⟨target,iter,ifs,0⟩] scope pos) 0 (.ref it) (.ref s.heap.objs.size) (compEnvC scope cl g2.objs.size X.env)) (RR (.ref s.heap.objs.size) g2.objs.size) {s with heap:=h1,toks:=s.toks+([]:List (Str×Value)).length}:=by
  refine e2l (fun n s'=>∃ i ys τ H',Inv (a1h X scope (tg++fv) cl g2.objs.size s H fp) [] τ H' s'∧tn i s'.heap∧(∀ b∈fp,H' b=none)∧W i n ys τ H') (fun n s' hI=>?_) m0 ⟨0,[],_,_,I0,st1,fun b hb=>?_,w0⟩
  ·obtain⟨i,ys,τ,H',I1,t1,f1,w1⟩:=hI
   obtain⟨hD,w1⟩:=turn i n ys τ H' w1
   rcases w1 with ⟨stop,qn⟩ | ⟨go,hz,step⟩
   ·refine thn (T.done (a1h X scope (tg++fv) cl g2.objs.size s H fp) rfl rfl rfl hc i [] s' τ H' _ I1 (fpok (by simp) f1) t1 stop) fun r s2 ⟨hr,I2⟩=>.inl ⟨hr,?_⟩
    obtain⟨m,hn2,_⟩:=I2.loc
    exact hRR _ _ H' s2 m I2.os I2.bare I2.base I2.hok hn2 I2.free hle qn
   ·refine thn (T.item (a1h X scope (tg++fv) cl g2.objs.size s H fp) rfl rfl rfl hc i [] s' τ H' _ I1 (fpok (by simp) f1) t1 go) fun r s2 ⟨u,hr,h2⟩=>.inr ⟨u,hr,thn h2 fun _ s3 ⟨x,H3,I3,r3,y3,t3,f3⟩=>?_⟩
    have I3':=I3.pinned (fpok (by simp) f3) (T.obj _ _ t3)
    have back:∀ {s6:Shared} {τ4:L2.St} {H6:Hp},Inv (a1h X scope (tg++fv) cl g2.objs.size s H fp) ([]++d1b fp s3.heap) τ4 H6 s6→tn (i+1) s6.heap∧∀ b∈fp,H6 b=none:=fun I6 =>
     ⟨T.keep _ _ _ t3 fun b hb o e=>(I6.pin (b,o) (List.mem_append_right _ (List.mem_append_right _ (a5p hb e)))).1,fun b hb=>by
      obtain⟨o,e,_⟩:=T.obj _ _ t3 b hb
      exact(I6.pin (b,o) (List.mem_append_right _ (List.mem_append_right _ (a5p hb e)))).2.1⟩
    refine thn ((hg _ _ _ _ _) _ s3 τ H3 x u _ I3' r3 (step x H3 y3)) fun _ s4 ⟨τ4,H4,I4,q4⟩=>?_
    refine thn ((hi _ _ _ _ _).run _ s4 τ4 H4 _ I4 q4) fun b s5 ⟨H5,I5,q5⟩=>?_
    cases b with
    | false =>
     obtain⟨m',hm,w5⟩:=(show ∃ m',m' < n∧W (i+1) m' ys τ4 H5 from q5)
     obtain⟨b1,b2⟩:=back I5
     exact⟨m',hm,i+1,_,τ4,_,I5.unpinned,b1,b2,w5⟩
    | true =>
     refine thn ((he _ _ _ _ _) _ s5 τ4 H5 _ I5 q5) fun z s6 ⟨y,H6,I6,r6,hD6,m',hm,w6⟩=>?_
     refine thn (b5q _ s6 τ4 H6 (.ref s.heap.objs.size) [y] (.ref s.heap.objs.size) [z] (fun _ H7=>H7=upd H6 s.heap.objs.size (.lst (ys++[y]))) I6 rfl (.cons r6 .nil) ⟨_,ys,y,rfl,rfl,hD6,hz,rfl⟩) fun _ s7 ⟨v7,H7,I7,_,e7⟩=>?_
     subst e7
     obtain⟨b1,b2⟩:=back I7
     exact⟨m',hm,i+1,_,τ4,_,I7.unpinned,b1,b2,w6⟩
  ·obtain⟨o,e,_⟩:=ob b hb
   rw[a0d (Nat.ne_of_lt (Heap.lt_size e))]
   exact(hf b hb).1
 exact codeAny_compStart_list loop (T.self _ 0 _ _ _ st1 loop)
def e8m (n:Nat) (js:List Nat) (wi:TI) (g:TG) (tc:TT) (te:TE):TE:=fun σ H Q=>wi σ H fun J H1=>c8h (b9z σ n js) J g tc te Q H1
theorem b1l {wi:TI} (tg:List Str) (hc:X.calm=true) (S:a4o X scope fv js) (hi:PI X target iter wi)
  (hg:∀ cl C s₀ H₀ ex,PG (a1h X scope (tg++fv) cl C s₀ H₀ ex) target g) (hf:∀ cl C s₀ H₀ ex,f4s (a1h X scope (tg++fv) cl C s₀ H₀ ex) ifs tc) (he:∀ cl C s₀ H₀ ex,PE (a1h X scope (tg++fv) cl C s₀ H₀ ex) elt te) (hs:∀ x,foldedSetIterable iter X.env x=pure x:=by intro _;rfl) :
  PE X (.ListComp elt [⟨target,iter,ifs,0⟩] scope pos) (e8m tg.length js wi g tc te):=by
 constructor;intro pins s σ H Q I h
 rw[eval_ListComp]
 refine wpAny_comprehension_free (use:=none) rfl hs (S.clos I.ok) S.kind S.names (thn (hi pins s σ H _ I h) fun v s1 h1=>thn h1 fun itv s2 h2=>?_)
 obtain⟨it,fp,tn,J,H2,rfl,I2,T,st2,f2,q⟩:=h2
 refine c6k (RR:=fun acc C=>compPost (model X.prog X.w) X.A X.xe none (EP X pins σ Q) acc C) tg I2 hc S T st2 f2 hg hf he q fun D C H' s' m os bare un hok hn nC hC qq=>⟨m,hn,fun h' k=>?_⟩
 obtain⟨IX,fC⟩:=b7q I2 f2 os bare un hok nC hC
 exact⟨.ref D,H',d4g IX fC k,rfl,qq⟩
theorem e0w {wi:TI} {i:Nat} {y:Str} {py spos:Pos} (tg:List Str) (hc:X.calm=true) (hN:X.N.Nodup) (hy:X.N[i]?=some y) (hk:X.env.scope.names.lookup y=some .local) (S:a4o X scope fv js) (hi:PI X target iter wi)
  (hsw:swapsWith (.ListComp elt [⟨target,iter,ifs,0⟩] scope pos) (some (.Name y py)) spos.line X.env=pure true)
  (hg:∀ cl C s₀ H₀ ex,PG (a1h X scope (tg++fv) cl C s₀ H₀ ex) target g) (hf:∀ cl C s₀ H₀ ex,f4s (a1h X scope (tg++fv) cl C s₀ H₀ ex) ifs tc) (he:∀ cl C s₀ H₀ ex,PE (a1h X scope (tg++fv) cl C s₀ H₀ ex) elt te) (hs:∀ x,foldedSetIterable iter X.env x=pure x:=by intro _;rfl) :
  PS X (.Assign [.Name y py] (.ListComp elt [⟨target,iter,ifs,0⟩] scope pos) spos) (fun D σ H=>e8m tg.length js wi g tc te σ H fun v H1=>D.nx (σ.set i (some v)) H1):=by
 constructor;intro pins s σ H D I h
 rw[exec_Assign_Name_used _ _ _ _ hsw]
 refine wpAny_bind (wpAny_standAt (wpAny_bind (wpAny_bind (wpAny_mono (Q:=fun _ s'=>SP X pins D .next s') (E:=X.xe) (wpAny_comprehension_free (use:=some (assign (.Name y py) X.env)) rfl hs (S.clos I.ok) S.kind S.names
  (thn (hi pins s σ H _ I h) fun v s1 h1=>thn h1 fun itv s2 h2=>?_)) (fun _ s' q=>wpAny_pure (wpAny_pure q)) fun _ _ z=>z))))
 obtain⟨it,fp,tn,J,H2,rfl,I2,T,st2,f2,q⟩:=h2
 refine c6k (RR:=fun acc C=>compPost (model X.prog X.w) X.A X.xe (some (assign (.Name y py) X.env)) (fun _ s'=>SP X pins D .next s') acc C) tg I2 hc S T st2 f2 hg hf he q fun L C H' s' m os bare un hok hn nC hC qq=>?_
 obtain⟨IX,fC⟩:=b7q I2 f2 os bare un hok nC hC
 refine wpAny_assign_Name (c8j IX hN hy (.inl hk) (v:=.ref L) rfl (fun s3 I3 ⟨a,k3,ha⟩=>?_) (.inr hk))
 have ne:C≠a:=by
  rcases ha with z | z
  ·rw[z];exact fC.2.1
  ·exact fun w'=>fC.2.2.2.2.1 y a z w'.symm
 exact⟨m,hn.sameBut k3 ne,fun h' k=>⟨_,H',d4g I3 fC k,qq⟩⟩
end
theorem a7a {α:Type} {P:α→Prop}:∀ x∈([]:List α),P x:=fun _ h=>by cases h
theorem a3s {α:Type} {P:α→Prop} {a:α} {l:List α} (h:P a) (t:∀ x∈l,P x):∀ x∈a::l,P x:=fun x hx=>by
 rcases List.mem_cons.mp hx with e | e
 ·exact e ▸ h
 ·exact t x e
theorem f0p {X:Cx} {K:PySem.W.Frag} {tg l:Expr} {tl:TE} (hK:X.K=K) (hl:PE X l tl):PI X tg l (f8d K tl):=by
 subst hK
 exact a3a hl
theorem b1h {σ0 fs:L2.St} {k:Nat} {J:It} {g:TG} {tc:TT} {te:TE} {Q:VK} {H1:Hp} (n:Nat) (f:Nat→Option V) (h0:σ0=List.replicate k none++fs) (hz:n≤sizeLine) (hgo:∀ i H,Same H1 H→i < n→J.go i H) (hstop:∀ H,Same H1 H→J.stop n H)
  (step:∀ i H (ts:L2.St) v H' (R:Option V→L2.St→Hp→Prop),Same H1 H→i < n→ts.length=k→J.yld i H v H'→(∀ (ts2:L2.St) H3,ts2.length=k→Same H H3→R (f i) (ts2++fs) H3) →
   g v (ts++fs) H' fun τ2 H2=>tc τ2 H2 fun ok H3=>if ok=true then te τ2 H3 fun y H4=>R (some y) τ2 H4 else R none τ2 H3)
  (fin:∀ D H',H1 D=none→Same H1 H'→H' D=some (.lst ((List.range n).filterMap f))→Q (.ref D) H'):c8h σ0 J g tc te Q H1:=by
 intro D hD
 refine⟨fun i m ys τ H=>m=n - i∧i≤n∧ys=(List.range i).filterMap f∧(∃ ts:L2.St,ts.length=k∧τ=ts++fs)∧Same H1 H∧H D=some (.lst ys),⟨n,rfl,Nat.zero_le _,rfl,⟨_,List.length_replicate,h0⟩,Same.upd hD,a0b⟩,?_⟩
 rintro i m ys τ H ⟨rfl,hi,rfl,⟨ts,ht,rfl⟩,ss,hd⟩
 refine⟨hd,?_⟩
 by_cases hlt:i < n
 ·have hl:((List.range i).filterMap f).length < sizeLine:=Nat.lt_of_le_of_lt (List.length_filterMap_le _ _) (by rw[List.length_range];omega)
  refine .inr ⟨hgo i H ss hlt,hl,fun v H' y=>step i H ts v H' (fun o τ2 H3=>match o with
   | some y=>H3 D=some (.lst ((List.range i).filterMap f))∧∃ m',m' < n - i∧m'=n - (i+1)∧i+1≤n∧(List.range i).filterMap f++[y]=(List.range (i+1)).filterMap f∧(∃ ts:L2.St,ts.length=k∧τ2=ts++fs)∧Same H1 (upd H3 D (.lst ((List.range i).filterMap f++[y])))∧upd H3 D (.lst ((List.range i).filterMap f++[y])) D=some (.lst ((List.range i).filterMap f++[y]))
   | none=>∃ m',m' < n - i∧m'=n - (i+1)∧i+1≤n∧(List.range i).filterMap f=(List.range (i+1)).filterMap f∧(∃ ts:L2.St,ts.length=k∧τ2=ts++fs)∧Same H1 H3∧H3 D=some (.lst ((List.range i).filterMap f))) ss hlt ht y fun ts2 H3 h2 s3=>?_⟩
  cases e:f i with
  | none =>
   refine⟨n - (i+1),by omega,rfl,hlt,?_,⟨ts2,h2,rfl⟩,ss.trans s3,s3 _ _ hd⟩
   rw[List.range_succ,List.filterMap_append]
   simp[e]
  | some y =>
   refine⟨s3 _ _ hd,n - (i+1),by omega,rfl,hlt,?_,⟨ts2,h2,rfl⟩,(ss.trans s3).again hD,a0b⟩
   rw[List.range_succ,List.filterMap_append]
   simp[e]
 ·have e:i=n:=by omega
  subst e
  exact .inl ⟨hstop H ss,fin D H hD ss hd⟩
theorem d8l {σ0 fs:L2.St} {k:Nat} {J:It} {g:TG} {te:TE} {Q:VK} {H1:Hp} (n:Nat) (P:Nat→V→Prop) (h0:σ0=List.replicate k none++fs) (hz:n≤sizeLine) (hgo:∀ i H,Same H1 H→i < n→J.go i H) (hstop:∀ H,Same H1 H→J.stop n H)
  (step:∀ i H (ts:L2.St) v H' (R:V→L2.St→Hp→Prop),Same H1 H→i < n→ts.length=k→J.yld i H v H'→(∀ y (ts2:L2.St) H3,P i y→ts2.length=k→Same H H3→R y (ts2++fs) H3) →
   g v (ts++fs) H' fun τ2 H2=>te τ2 H2 fun y H4=>R y τ2 H4)
  (fin:∀ D H' ys,H1 D=none→Same H1 H'→ys.length=n→(∀ i y,ys[i]?=some y→P i y)→H' D=some (.lst ys)→Q (.ref D) H'):c8h σ0 J g f8j te Q H1:=by
 intro D hD
 refine⟨fun i m ys τ H=>m=n - i∧i≤n∧ys.length=i∧(∀ j y,ys[j]?=some y→P j y)∧(∃ ts:L2.St,ts.length=k∧τ=ts++fs)∧Same H1 H∧H D=some (.lst ys),⟨n,rfl,Nat.zero_le _,rfl,(fun j y e=>by simp at e),⟨_,List.length_replicate,h0⟩,Same.upd hD,a0b⟩,?_⟩
 rintro i m ys τ H ⟨rfl,hi,hl,hp,⟨ts,ht,rfl⟩,ss,hd⟩
 refine⟨hd,?_⟩
 by_cases hlt:i < n
 ·refine .inr ⟨hgo i H ss hlt,by omega,fun v H' y=>step i H ts v H' (fun z τ2 H3=>H3 D=some (.lst ys)∧∃ m',m' < n - i∧m'=n - (i+1)∧i+1≤n∧(ys++[z]).length=i+1∧(∀ j y,(ys++[z])[j]?=some y→P j y)∧(∃ ts:L2.St,ts.length=k∧τ2=ts++fs)∧Same H1 (upd H3 D (.lst (ys++[z])))∧upd H3 D (.lst (ys++[z])) D=some (.lst (ys++[z]))) ss hlt ht y fun z ts2 H3 pz h2 s3=>⟨s3 _ _ hd,n - (i+1),by omega,rfl,hlt,(by simp[hl]),fun j x e=>?_,⟨ts2,h2,rfl⟩,(ss.trans s3).again hD,a0b⟩⟩
  rcases Nat.lt_or_ge j ys.length with q | q
  ·rw[List.getElem?_append_left q] at e
   exact hp j x e
  ·rw[List.getElem?_append_right q] at e
   have ej:j=i:=by
    have:=(List.getElem?_eq_some_iff.mp e).1
    simp at this
    omega
   subst ej
   rw[hl,Nat.sub_self] at e
   cases e
   exact pz
 ·have e:i=n:=by omega
  subst e
  exact .inl ⟨hstop H ss,fin D H ys hD ss hl hp hd⟩
end My
namespace My
open PySem PySem.Spec PyProof.Rows L2
section
variable {X:Cx} {pins:List (Addr×Obj)} {σ:L2.St} {H:Hp} {s:Shared} {a:Addr} {kvs:List (Key×V)} {k:Key} {u r:Value} {d:V} {A:Around} {E:Value→Shared→Prop}
theorem f0q {Q:Value→Shared→Prop} (I:Inv X pins σ H s) (e:H a=some (.dK kvs)) (ry:a2u (kV k) u) (rd:a2u d r) (hl:kvs.length < sizeLine) (h1:∀ v w' s',b7j kvs k=some v→Inv X pins σ H s'→a2u v w'→Q w' s')
  (h2:b7j kvs k=none→∀ s',Inv X pins σ (upd H a (.dK (b1r kvs k d))) s'→Q r s'):wpAny (model X.prog X.w) A (call (.builtin "dict.setdefault") [.ref a,u,r]) Q E s:=by
 obtain⟨z,hd,vs,rel,dd⟩:=e8e I.hok e
 refine call_meetsIn PySem.F.slot_dict_setdefault dd.typeIs PySem.F.entry_dict_setdefault (PySem.F.args_dict_setdefault_3 _ _ _) (kt_meets_setdefault (a1x X.prog X.w) a (d9j ry) hd r) ⟨vs,dd,by rw[←rel.length];exact z,fun v hv=>?_,fun hn h' dd' hs=>?_⟩
 ·have q:=rel.val k
  cases e2:b7j kvs k with
  | none=>rw[e2] at q;rw[c5e.none_of q] at hv;cases hv
  | some y =>
   rw[e2] at q
   obtain⟨w',hw,rw'⟩:=c5e.some_of (v:=y) q
   rw[hw] at hv
   cases hv
   exact h1 y _ _ e2 (I.tok _) rw'
 ·have q:=rel.val k
  cases e2:b7j kvs k with
  | some y =>
   rw[e2] at q
   obtain⟨w',hw,_⟩:=c5e.some_of (v:=y) q
   rw[hw] at hn
   cases hn
  | none =>
   refine h2 e2 _ ?_
   have he:∃ q,h'.get? a=some q:=let ⟨q,_,_,hq,_⟩:=dd';⟨q,hq⟩
   have hz:(b1r kvs k d).length≤sizeLine:=by have:=b9k kvs k d;omega
   exact d3z I (by rw[e];exact True.intro) hs he (e6b hz hd (rel.put k rd) dd')
end
def g0g (td ty tx:TE):TE:=fun σ H Q=>td σ H fun x H1=>∃ a,x=.ref a∧IsD H1 a∧ty σ H1 fun y H2=>tx σ H2 fun z H3=>∃ kvs k,H3 a=some (.dK kvs)∧y=kV k∧kvs.length < sizeLine ∧
 (∀ v,b7j kvs k=some v→Q v H3)∧(b7j kvs k=none→Q z (upd H3 a (.dK (b1r kvs k z))))
section
variable {X:Cx} {o e f:Expr} {td ty tx:TE} {apos cpos:Pos}
theorem e6c (ho:PE X o td) (he:PE X e ty) (hf:PE X f tx) (m:M2 X o "setdefault" apos e f cpos):PE X (.Call (.Attribute o "setdefault" apos) [e,f] [] cpos) (g0g td ty tx):=by
 constructor;intro pins s σ H Q I h
 refine wpAny_Call_method m.base m.few m.line PySem.F.plainAttrs_dict PySem.F.slot_dict_setdefault PySem.F.type_dict_setdefault (thn (ho pins s σ H _ I h) fun u s1 ⟨x,H1,I1,rx,a,ex,d,q1⟩=>?_)
 subst ex
 obtain rfl:u=Value.ref a:=rx
 obtain⟨t1,t2,_⟩:=e6x I1 d
 refine⟨t1,t2,?_⟩
 rw[m.trees]
 refine Calls.callWith_builtin rfl (Calls.evalArgs_plain (Calls.spliced_cons (thn (he pins s1 σ H1 _ I1 q1) fun iv s2 ⟨y,H2,I2,ry,q2⟩ =>
  Calls.spliced_cons (thn (hf pins s2 σ H2 _ I2 q2) fun fv s3 ⟨z,H3,I3,rz,kvs,k,ea,ey,hl,q3,q4⟩=>Calls.spliced_nil ?_))))
 subst ey
 exact f0q I3 ea ry rz hl (fun v w' s4 l I4 rw'=>⟨v,H3,I4,rw',q3 v l⟩) fun l s4 I4=>⟨z,_,I4,rz,q4 l⟩
theorem d5a:∀ {a b:List Int},a.Perm b→a.Pairwise (·≤·)→b.Pairwise (·≤·)→a=b
 | [],_,p,_,_=>(List.nil_perm.mp p).symm
 | x::r,b,p,ha,hb=>by
  cases b with
  | nil=>exact absurd (List.perm_nil.mp p) (by simp)
  | cons y t =>
   rw[List.pairwise_cons] at ha hb
   have h1:x≤y:=by
    rcases List.mem_cons.mp (p.symm.subset List.mem_cons_self) with e | e
    ·omega
    ·exact ha.1 y e
   have h2:y≤x:=by
    rcases List.mem_cons.mp (p.subset List.mem_cons_self) with e | e
    ·omega
    ·exact hb.1 x e
   have e:x=y:=by omega
   subst e
   rw[d5a ((List.perm_cons x).mp p) ha.2 hb.2]
def b0p (ks:List Int):List Int:=ks.mergeSort (·≤·)
theorem a5m (ks:List Int):(b0p ks).Perm ks:=List.mergeSort_perm ks _
theorem d9c (ks:List Int):(b0p ks).Pairwise (·≤·):=by
 have:=List.pairwise_mergeSort (le:=fun a b:Int=>decide (a≤b)) (fun a b c h1 h2=>by simp only [decide_eq_true_eq] at *;omega) (fun a b=>by simp only [Bool.or_eq_true,decide_eq_true_eq];omega) ks
 exact this.imp fun h=>by simpa using h
theorem d4a {ks ks':List Int} (p:ks'.Perm ks) (h:ks'.Pairwise (·≤·)):ks'=b0p ks:=d5a (p.trans (a5m ks).symm) h (d9c ks)
theorem c0b:∀ {us:List Value} {ns:List Int},IntsAre us ns→a3c (ns.map V.int) us
 | _,_,.nil=>.nil
 | _,_,.cons _ _ t=>.cons ⟨_,rfl⟩ (c0b t)
theorem intsAre_of:∀ {us:List Value} {ns:List Int},us.length=ns.length→(∀ (j:Nat) (v:Value),us[j]?=some v→∃ n t,ns[j]?=some n∧v=Value.int n t)→IntsAre us ns
 | [],[],_,_=>.nil
 | [],_::_,h,_=>by simp at h
 | _::_,[],h,_=>by simp at h
 | u::us,n::ns,h,hv=>by
  obtain⟨m,t,e,rfl⟩:=hv 0 u rfl
  cases (show some n=some m from e)
  exact .cons _ _ (intsAre_of (by simpa using h) fun j v e=>hv (j+1) v (by simpa using e))
theorem c3m (hc:X.calm=true):b7y X (.builtin "sorted") (fun xs H Q=>∃ (a:Addr) (kvs:List (Key×V)) (ks:List Int),xs=[V.ref a]∧H a=some (.dK kvs)∧kvs.map (·.1)=ks.map Sum.inl∧ks.length < 64∧∀ p,H p=none→Q (.ref p) (upd H p (.lst ((b0p ks).map V.int)))):=by
 intro pins s σ H xs us Q I r h
 obtain⟨a,kvs,ks,rfl,e,ek,h64,q⟩:=h
 obtain⟨u,rfl,ru⟩:=c6m r
 cases ru
 obtain⟨z,hd,vs,rel,dd⟩:=e8e I.hok e
 obtain⟨ep,hat⟩:=dd.dictAt
 have hkl:vs.length=ks.length:=by rw[←rel.length,←List.length_map (f:=(·.1)) (as:=kvs),ek,List.length_map]
 have hsz:vs.length≤sizeLine:=by rw[←rel.length];exact z
 refine Calls.call_function_entry kind_sorted plain_sorted entry_sorted (args_sorted1 _) ?_
 unfold Builtin.«sorted»
 refine wpAny_bind (m:=checkCount "sorted" 1 1 _) (wpAny_pure ?_)
 refine wpAny_bind (PySem.W.kdu_collect (PySem.W.kdl_dict (knd:=a1x X.prog X.w) (kvs:=vs) (ep:=ep) hd) (I.ok.hd hc) hat hsz fun h' tk acc hk hacc=>?_)
 have hl:acc.toList.length=vs.length:=by rw[Array.length_toList];exact hacc.1
 have hI:IntsAre acc.toList ks:=intsAre_of (by rw[hl,hkl]) fun j v ev=>by
  obtain⟨k,x,hx,hkk⟩:=hacc.2 j v (by rw[←Array.getElem?_toList];exact ev)
  have e1:(vs.map (·.1))[j]?=some k:=by rw[List.getElem?_map,hx];rfl
  rw[←rel.keys,ek,List.getElem?_map] at e1
  obtain⟨n,hn,rfl⟩:=Option.map_eq_some_iff.mp e1
  rcases a1z (show d6x (Sum.inl n) v=true from hkk) with ⟨i,t,ei,ev2⟩ | ⟨y,t,ei,ev2⟩
  ·cases ei
   exact⟨n,t,hn,ev2⟩
  ·cases ei
 refine wpAny_bind (wpAny_newList ?_ (by rw[hl];exact hsz))
 have hoL:(h'.push {cls:=.type "list",data:=.seq acc.toList.toArray}).get? h'.objs.size=some (seqObj "list" acc.toList.toArray 0):=Heap.get?_push_size _ rfl
 refine wpAny_bind (wpAny_holding (wpAny_call_entry slot_list_sort ⟨_,hoL,rfl⟩ entry_list_sort (list_sort_tree hoL hI (by rw[hl,hkl];exact h64) fun out ns' a1 a2 a3=>⟨_,rfl,?_⟩) (args_list_sort _)))
 obtain⟨ep',hat'⟩:=sortedHeap_at (out:=out) hoL
 have I1:Inv X pins σ H {s with heap:=h',toks:=tk}:=I.kept (t':=tk) hk
 have en:=d4a a2 a3
 subst en
 have I2:=I1.laid (a:=h'.objs.size) (o:=.lst ((b0p ks).map V.int)) (t':=tk) (h':=sortedHeap (h'.push {cls:=.type "list",data:=.seq acc.toList.toArray}) h'.objs.size acc.toList out)
  (fun b v ev=>by
   have hb:b < h'.objs.size:=Heap.lt_size ev
   rw[sortedHeap_old (Nat.ne_of_lt hb) (by rw[size_push'];exact Nat.lt_succ_of_lt hb)]
   exact Heap.get?_push_of_some _ ev) (Nat.le_refl _)
  ⟨by rw[List.length_map,(a5m ks).length_eq,←hkl];exact hsz,out.toList,ep',c0b a1,by simpa [seqObj] using hat'⟩
 exact wpAny_pure ⟨_,rfl,.ref _,_,I2,rfl,q _ (I1.hok.fresh (Nat.le_refl _))⟩
theorem e4z {K:PySem.W.Frag} (hK:X.K=K) (hc:X.calm=true):b7y X (.builtin "any") (fun xs H Q=>∃ (p:Addr) (bs:List Bool),xs=[V.ref p]∧SqL K H p (bs.map V.bl)∧Q (.bl (bs.any id)) H):=by
 subst hK
 intro pins s σ H xs us Q I r h
 obtain⟨p,bs,rfl,hx,q⟩:=h
 obtain⟨u,rfl,ru⟩:=c6m r
 cases ru
 obtain⟨its,rv,pl,_⟩:=I.list hx
 have hlen:=rv.length
 rw[List.length_map] at hlen
 refine call_any_walk (wpAny_pyIter_list pl.isList ?_)
 have hne:p≠s.heap.objs.size:=Nat.ne_of_lt (by obtain⟨o,_,e,_⟩:=pl;exact Heap.lt_size e)
 refine⟨s.heap.objs.size,[s.heap.objs.size,p],[s.heap.objs.size],its.toArray.size,_,_,fun i=>bs.getD i true,rfl,Walks.list (A:=X.A.in1) (I.ok.hd hc) s.heap.objs.size p hne its.toArray,⟨⟨_,Heap.get?_push_size _ rfl,rfl,rfl⟩,pl.isList.push _⟩,fun i v s2 Q2 E2 hP hQ=>?_,fun h' tk hk=>?_⟩
 ·have hP':its[i]?=some v:=by simpa using hP
  obtain⟨xv,hx1,rx⟩:=b5o rv hP'
  rw[List.getElem?_map] at hx1
  cases hb:bs[i]? with
  | none=>rw[hb] at hx1;cases hx1
  | some b =>
   rw[hb] at hx1
   have e:V.bl b=xv:=Option.some.inj hx1
   subst e
   cases rx
   have e2:bs.getD i true=b:=by rw[List.getD_eq_getElem?_getD,hb];rfl
   have hQ':Q2 (bs.getD i true) s2:=hQ
   rw[e2] at hQ'
   exact wpAny_truthy_bool hQ'
 ·have e:(List.range its.toArray.size).any (fun i=>bs.getD i true)=bs.any id:=by
   rw[List.size_toArray,←hlen,Bool.eq_iff_iff,List.any_eq_true,List.any_eq_true]
   constructor
   ·rintro⟨i,hi,g⟩
    have hi':=List.mem_range.mp hi
    rw[List.getD_eq_getElem?_getD,List.getElem?_eq_getElem hi'] at g
    exact⟨_,List.getElem_mem hi',g⟩
   ·rintro⟨b,hb,g⟩
    obtain⟨i,hi,e⟩:=List.mem_iff_getElem.mp hb
    refine⟨i,List.mem_range.mpr hi,?_⟩
    rw[List.getD_eq_getElem?_getD,List.getElem?_eq_getElem hi,e]
    exact g
  rw[e]
  refine⟨.bl (bs.any id),H,I.kept (t':=tk) fun b u eu=>hk b u (fun z=>?_) (Heap.get?_push_of_some _ eu),rfl,q⟩
  have z':b=s.heap.objs.size:=by simpa using z
  exact absurd (Heap.lt_size eu) (by rw[z'];exact Nat.lt_irrefl _)
theorem a0i {K:PySem.W.Frag} {e:Expr} {ta:TE} {f:Str} {pos:Pos} (hK:X.K=K) (he:PE X e ta) (hb:attributeBase e f X.env (eval e X.env)=eval e X.env):PE X (.Attribute e f pos) (g0v K ta f):=by
 subst hK
 exact f5z he hb
end
theorem d2l {K:PySem.W.Frag} {H:Hp}:∀ ms:List Int,Dts K H (ms.map V.int) (ms.map PyData.int)
 | []=>.nil
 | m::r=>.cons (.int m) (d2l r)
def rAppendA:V→List V→Hp→VK→Prop:=fun x vs H Q=>∃ l xs y,x=.ref l∧vs=[y]∧H l=some (.lst xs)∧xs.length < sizeLine∧∀ H',H' l=some (.lst (xs++[y]))→(∀ b o,b≠l→H b=some o→H' b=some o)→Q .non H'
theorem b7t {X:Cx}:MtM X "list.append" rAppendA:=by
 intro pins s σ H x vs v us Q I rx rv h
 obtain⟨l,xs,y,ex,ev,hH,hz,q⟩:=h
 exact b5q pins s σ H x vs v us Q I rx rv ⟨l,xs,y,ex,ev,hH,hz,q _ a0b fun b o n e=>by rw[a0d n];exact e⟩
def f9g:V→V→V→Hp→(Hp→Prop)→Prop:=fun o i v H Q=>∃ p xs k j,o=.ref p∧i=.int k∧H p=some (.lst xs)∧ixN xs.length k=some j∧∀ H',H' p=some (.lst (xs.set j v))→(∀ b o,b≠p→H b=some o→H' b=some o)→Q H'
theorem e6o {X:Cx}:f8m X f9g:=by
 intro pins s σ H o i v ov iv u Q I ro ri rv h
 obtain⟨p,xs,k,j,eo,ei,hp,hj,q⟩:=h
 exact f0w pins s σ H o i v ov iv u Q I ro ri rv ⟨p,xs,k,j,eo,ei,hp,hj,q _ a0b fun b o n e=>by rw[a0d n];exact e⟩
theorem f1w {c:TT} {t u:TS} {D:d7t} {σ:L2.St} {H:Hp} {b:Bool} (h1:∀ Q:Bool→Hp→Prop,Q b H→c σ H Q) (h2:if b=true then t D σ H else u D σ H):g0l c t u D σ H:=h1 _ h2
theorem c7z (ms:List Int):SeqAt.shaped (.list (ms.map PyData.int))=true:=by
 show (PyData.canLayAll0 (ms.map .int) && decide (PyData.depthAll (ms.map .int)+1≤64))=true
 rw[canLayAll_ints ms,depthAll_ints ms]
 rfl
theorem e9m (ms:List Int):PyData.eqv (.list (ms.map PyData.int)) (.list (ms.map PyData.int))=true:=SeqAt.eqv_refl _ (canLayAll_ints ms)
end My
namespace My
open PySem PySem.Spec PyProof.Rows L2
section
variable {P:Program} {w:World} {K:PySem.W.Frag}
theorem f3v {X:Cx} {pins:List (Addr×Obj)} {σ:L2.St} {H:Hp} {s:Shared} {e it:Addr} {h':Heap} {t':Nat} (I:Inv X pins σ H s) (fe:c4p X pins H e) (fi:c4p X pins H it) (oe:∃ o,h'.get? e=some o) (oi:∃ o,h'.get? it=some o)
  (k:∀ b o,b≠e→b≠it→s.heap.get? b=some o→h'.get? b=some o):Inv X pins σ H {s with heap:=h',toks:=t'}:=by
 have nb:∀ b o,H b=some o→b≠e∧b≠it:=fun b o q=>⟨fun z=>(by rw[z,fe.1] at q;cases q),fun z=>(by rw[z,fi.1] at q;cases q)⟩
 refine I.call' (ch:=[e,it]) (s':={s with heap:=h',toks:=t'}) rfl ⟨fun b o q _ _ hx=>?_,fun b o q _ _ hx=>?_,fun b o q n _=>n,fun b o q hx=>?_,fun b xs q=>q,fun b o u q=>q,fun b ps (q:H b=_)=>⟨#[],by rw[q];simp⟩⟩ (fun b u q=>?_) I.bare fun b hb=>?_
 ·simp only [List.mem_cons,List.not_mem_nil,or_false,not_or] at hx
  exact k b o hx.1 hx.2 q
 ·simp only [List.mem_cons,List.not_mem_nil,or_false,not_or] at hx
  exact⟨o.slots,k b o hx.1 hx.2 q⟩
 ·by_cases z:b=e
  ·rw[z];exact oe
  ·by_cases y:b=it
   ·rw[y];exact oi
   ·exact⟨o,k b o z y q⟩
 ·refine(I.hok b u q).stay (fun c v hc z=>?_) (fun c z=>z) fun c xs z=>z
  rcases hc with y | y
  ·subst y
   obtain⟨n1,n2⟩:=nb _ _ q
   exact k _ v n1 n2 z
  ·obtain⟨n1,n2⟩:=nb _ _ y
   exact k _ v n1 n2 z
 ·simp only [List.mem_cons,List.not_mem_nil,or_false] at hb
  rcases hb with rfl | rfl
  ·exact⟨fe.2.2.2.1,fe.2.1,fe.2.2.2.2.1,fe.2.2.2.2.2⟩
  ·exact⟨fi.2.2.2.1,fi.2.1,fi.2.2.2.2.1,fi.2.2.2.2.2⟩
end
end My
namespace My
open PySem PySem.Spec PyProof.Rows L2
section
variable {X:Cx}
theorem f7g {ho:Addr→Addr→Option Addr→HO} {S:Addr} {c n:Str} {j:Nat} {b₀:Stmt} {suite:List Stmt} {th:TS} {np hpos:Pos} {pins:List (Addr×Obj)} {σ:L2.St} {H1:Hp} {s1 s':Shared} {D:d7t} {e:Value}
  (I1:Inv X pins σ H1 s1) (hq:CXW X.prog X.w X.stack H1 s1 (fun cls d H2=>∃ C,cls=.ref C∧PySem.W.subIn X.K (.ref C) (.ref S)=some true∧∀ ea,H2 ea=none→th (gone j D) (σ.set j (some (.ref ea))) (upd H2 ea (ho ea C d))) e s')
  (T:f9o X.K X.mg c S) (hgc:Gl X c) (hN:X.N.Nodup) (hj:X.N[j]?=some n) (hxn:X.env.scope.names.lookup n=some .local) (hst:X.stack=X.env::X.outer) (hfr:X.env.frame=some X.env.locals)
  (hs:∀ ea,PSs (d8o X ea) (b₀::suite) th) (hho:∀ (H:Hp) (h:Heap) (ea C:Addr) (d:Option Addr),e6w ea C d h→a2f X.prog X.w H h ea (ho ea C d)) (hdc:(c == ("__debug__":Str))=false) :
  wpAny (model X.prog X.w) X.A (noteFrame e X.env) (fun _ s₂=>wpAny (model X.prog X.w) X.A (setFlight e none) (fun _ s₃=>wpAny (model X.prog X.w) X.A (handleBy e X.env [.ExceptHandler (some (.Name c np)) (some n) (b₀::suite) hpos]) (SP X pins D) X.xe s₃) X.xe s₂) X.xe s':=by
 obtain⟨ea,cls,a0,B,H',d,rfl,os,bare,un,hok,fl,bk,n1,n2,⟨o0,ho0,hd0⟩,C,hcls,hsub,hth⟩:=hq
 subst hcls
 have fl':=fl
 rw[hst] at fl'
 have hfnn:∀ b∈frs X.stack,∃ o,s'.heap.get? b=some o∧∀ vs,o.data≠.fields vs:=fun b hb=>(fl.2.2.1.mem hb).2
 refine wpAny_mono (a5o (a7b _ _) (wpAny_looks_onW (Q:=fun _ s''=>∃ h4,s''={s' with heap:=h4}∧Heap.HeldW B (X.env::X.outer) ea (.ref C) a0 X.env.locals h4∧s'.heap.UpToSlots h4) (by rw[I1.ok.frames,hst]) hfr fl' fun h4 x1 x2=>⟨h4,rfl,x1,x2⟩)) (fun _ s'' ⟨⟨h4,e4,held,sm4⟩,dk4⟩=>?_) fun _ _ z=>z.1
 subst e4
 refine wpAny_mono (a5o (b0i _ _) (wpAny_landsW (Q:=fun _ s''=>∃ h5,s''={s' with heap:=h5}∧Heap.FlyingW B (X.env::X.outer) ea (.ref C) a0 h5∧h4.UpToSlots h5) held fun h5 x1 x2=>⟨h5,rfl,x1,x2⟩)) (fun _ s'' ⟨⟨h5,e5,fl5,sm5⟩,dk5⟩=>?_) fun _ _ z=>z.1
 subst e5
 obtain⟨ob,hob,hobc⟩:=fl5.there
 obtain⟨un5,hok5,_,_⟩:=e4x I1 un hok bk fl5.1 (sm4.trans sm5) hfnn
 have I5:Inv X pins σ H' {s' with heap:=h5}:=I1.call' (s':={s' with heap:=h5}) os un5 hok5 bare (fun b z=>absurd z (by simp))
 refine wpAny_handleBy_cons (codeAny_handlers_test (b3u (X:=d8o X ea) (e1e I5 ea) hgc T.bound ?_ hdc)) (by intro z;cases z)
 refine d9g (K:=X.K) I5.kIn hob hobc T.ty T.it T.mB hsub (codeAny_handlers_suite_as ?_)
 refine wpAny_mono (a5o (b0i _ _) (lands_againW (Q:=fun _ s''=>∃ h6,s''={s' with heap:=h6}∧Heap.FlyingW B (X.env::X.outer) ea (.ref C) a0 h6∧h5.UpToSlots h6) fl5 fun h6 x1 x2=>⟨h6,rfl,x1,x2⟩)) (fun _ s'' ⟨⟨h6,e6,fl6,sm6⟩,dk6⟩=>?_) fun _ _ z=>z.1
 subst e6
 obtain⟨ob6,vs6,hob6,hobc6,hdat6,_⟩:=fl6.first
 have isK:e6w ea C d h6:=by
  obtain⟨o4,ho4,hd4⟩:=dk4 ea o0 ho0
  obtain⟨o5,ho5,hd5⟩:=dk5 ea o4 ho4
  obtain⟨o6,ho6,hd6⟩:=dk6 ea o5 ho5
  have ho6':h6.get? ea=some o6:=ho6
  rw[hob6] at ho6'
  cases ho6'
  exact⟨ob6,hob6,hobc6,by unfold PySem.W.notCls;rw[hdat6],hd6.1.trans (hd5.1.trans (hd4.1.trans hd0.1))⟩
 obtain⟨un6,hok6,_,_⟩:=e4x I1 un hok bk fl6.1 ((sm4.trans sm5).trans sm6) hfnn
 have I6:Inv X pins σ H' {s' with heap:=h6}:=I1.call' (s':={s' with heap:=h6}) os un6 hok6 bare (fun b z=>absurd z (by simp))
 have I7:Inv X pins σ (upd H' ea (ho ea C d)) {s' with heap:=h6}:=c8a I1 I6 n2 n1 (hho _ _ _ _ _ isK)
 refine d4d (X:=d8o X ea) (i:=j) (v:=.ref ea) (e1e I7 ea) hN hj (.inl hxn) rfl (fun s8 I8=>?_) (.inr hxn)
 refine wpAny_mono (hs ea pins _ _ _ (gone j D) I8 (hth ea n1)) (fun f2 s2 z=>?_) fun _ _ z=>z.elim
 have z':=e7h I6.ok z
 cases f2 with
 | next=>obtain⟨σ',H9,I9,q⟩:=z';exact c1k I9 hN hj hxn fun s3 I3=>⟨_,H9,I3,q⟩
 | brk=>obtain⟨σ',H9,I9,q⟩:=z';exact c1k I9 hN hj hxn fun s3 I3=>⟨_,H9,I3,q⟩
 | cont=>obtain⟨σ',H9,I9,q⟩:=z';exact c1k I9 hN hj hxn fun s3 I3=>⟨_,H9,I3,q⟩
 | ret u=>obtain⟨v,σ',H9,I9,r,q⟩:=z';exact c1k I9 hN hj hxn fun s3 I3=>⟨v,_,H9,I3,r,q⟩
end
end My
namespace My
open PySem PySem.Spec PyProof.Rows L2
theorem e2d {X:Cx} {pins:List (Addr×Obj)} {σ:L2.St} {H:Hp} {s:Shared} {d:Addr} {ob:Obj} {kvs:List (Key×V)} (I:Inv X pins σ H s) (e:H d=some (.dK kvs)) (ho:s.heap.get? d=some ob):Inv X pins σ (upd H d (.frz ob (.dK kvs))) s:=by
 have ne:∀ b,H b=none→b≠d:=fun b q z=>by rw[z,e] at q;cases q
 refine⟨I.ok,I.os,I.bare,⟨I.base.keep,I.base.slot,fun b o q n hx=>?_,I.base.there,fun b xs q=>?_,fun b o u q=>?_,fun b ps q=>?_⟩,I.loc,I.cell,?_,fun x c q=>?_,fun p hp=>?_,fun b u q=>?_,I.len⟩
 ·have:=I.base.free b o q n hx
  rw[a0d (ne b this)];exact this
 ·have:=I.base.tups b xs q
  rw[a0d fun z=>by rw[z,e] at this;cases this];exact this
 ·have:=I.base.frzs b o u q
  rw[a0d fun z=>by rw[z,e] at this;cases this];exact this
 ·obtain⟨more,q2⟩:=I.base.tbls b ps q
  exact⟨more,by rw[a0d fun z=>by rw[z,e] at q2;cases q2];exact q2⟩
 ·rw[a0d (ne _ I.free)];exact I.free
 ·rw[a0d (ne _ (I.freeC x c q))];exact I.freeC x c q
 ·obtain⟨a1,a2,a3⟩:=I.pin p hp
  exact⟨a1,by rw[a0d (ne _ a2)];exact a2,a3⟩
 ·by_cases hb:b=d
  ·subst hb
   rw[a0b] at q
   cases q
   exact⟨ho,(I.hok b _ e).stay (fun c v _ z=>z) (fun c z=>by rw[a0d fun y=>by rw[y,e] at z;cases z];exact z) fun c xs z=>by rw[a0d fun y=>by rw[y,e] at z;cases z];exact z⟩
  ·rw[a0d hb] at q
   exact(I.hok b u q).stay (fun c v _ z=>z) (fun c z=>by rw[a0d fun y=>by rw[y,e] at z;cases z];exact z) fun c xs z=>by rw[a0d fun y=>by rw[y,e] at z;cases z];exact z
def ItI (d:Addr) (ob:Obj) (kvs:List (Key×V)):It :=
 ⟨fun i H=>H d=some (.frz ob (.dK kvs))∧i < kvs.length,fun i H v H'=>∃ p k x,kvs[i]?=some (k,x)∧v=.ref p∧H p=none∧H'=upd H p (.tup [kV k,x]),fun i H=>H d=some (.frz ob (.dK kvs))∧i=kvs.length⟩
theorem a3n {α β:Type} {F:α→β→Prop}:∀ {l:List α} {m:List β} {i:Nat} {a:α},Paired F l m→l[i]?=some a→∃ b,m[i]?=some b∧F a b
 | _,_,_,_,.nil,e=>by simp at e
 | _,_,0,_,.cons h _,e=>by simp at e;subst e;exact⟨_,rfl,h⟩
 | _,_,i+1,a,.cons _ t,e=>by
  obtain⟨b,h1,h2⟩:=a3n (i:=i) (a:=a) t (by simpa using e)
  exact⟨b,by simpa using h1,h2⟩
section
variable {P:Program} {w:World} {K:PySem.W.Frag}
theorem f2q {k:Key} {key:Value} (h:(a1x P w).is k key=true):a2u (kV k) key:=by
 rcases a1z h with ⟨i,t,rfl,rfl⟩ | ⟨y,t,rfl,rfl⟩
 ·exact⟨t,rfl⟩
 ·exact⟨t,rfl⟩
theorem e2z (d it ep:Addr) (ob:Obj) (kvs:List (Key×V)) (vs:List (Key×Value)) (rel:KV kvs vs) (hat:∀ h:Heap,h.get? d=some ob→h.DictAt (a1x P w) d vs ep) {elts:List Expr} {kk:Nat} {tpos:Pos} :
  f1l P w K (.Tuple elts kk tpos) (ItI d ob kvs) [it] it (fun i h=>∃ ok ov,IsItemIter h it d i vs.length ep ok ov) where
 mem:=by simp
 obj:=fun i h ⟨ok,ov,he⟩ c hc=>by
  rw[List.mem_singleton.mp hc];exact⟨_,he,fun v z=>by simp at z⟩
 keep:=fun i h h' ⟨ok,ov,he⟩ k=>⟨ok,ov,k it (by simp) _ he⟩
 item:=by
  intro X hP hw hK hc i pins s σ H E I hf st hg
  subst hP hw hK
  obtain⟨ok,ov,he⟩:=st
  obtain⟨hd,hi⟩:=hg
  obtain⟨ho,_⟩:=(show a2f X.prog X.w H s.heap d (.frz ob (.dK kvs)) from I.hok d _ hd)
  obtain⟨q,hq⟩:∃ q,kvs[i]?=some q:=⟨_,List.getElem?_eq_getElem hi⟩
  obtain⟨k,x⟩:=q
  obtain⟨⟨k2,u⟩,hu,hk2,ru⟩:=a3n rel hq
  cases (show k=k2 from hk2)
  refine wpAny_pyNext_items_item he (hat _ ho) hu fun key h' hkey ho' ht' hz' k'=>?_
  refine⟨_,rfl,wpAny_letOwnedTupleGo_items ho' fun h2 he2 hs2=>?_⟩
  have hilt:it < s.heap.objs.size:=Heap.lt_size he
  have nT:s.heap.get? s.heap.objs.size=none:=Heap.get?_none_of_le (Nat.le_refl _)
  have hT:h2.get? s.heap.objs.size=some {cls:=.type "tuple",data:=.seq #[key,u]}:=hs2.extBut _ _ (Nat.ne_of_gt hilt) ht'
  obtain⟨f0,f1,f2,f3,f4,f5⟩:=hf it (by simp)
  have I2:Inv X pins σ H {s with heap:=h2}:=I.turned (t':=s.toks) (fun b o hb eo=>hs2.extBut _ _ hb (k' b o hb eo)) f0 f1 f3 f4 f5
  have HT:H s.heap.objs.size=none:=a4r I nT
  have I3:Inv X pins σ (upd H s.heap.objs.size (.tup [kV k,x])) {s with heap:=h2}:=c8a I I2 nT HT ⟨by show 2≤sizeLine;decide,[key,u],.cons (f2q hkey) (.cons ru .nil),_,hT,rfl,_,rfl⟩
  refine⟨.ref s.heap.objs.size,_,I3,rfl,⟨s.heap.objs.size,k,x,hq,rfl,HT,rfl⟩,⟨_,_,he2⟩,fun c hcm=>?_⟩
  rw[List.mem_singleton.mp hcm,a0d (Nat.ne_of_lt hilt)]
  exact f0
 done:=by
  intro X hP hw hK hc i pins s σ H E I hf st hg
  subst hP hw hK
  obtain⟨ok,ov,he⟩:=st
  obtain⟨hd,hi⟩:=hg
  obtain⟨ho,_⟩:=(show a2f X.prog X.w H s.heap d (.frz ob (.dK kvs)) from I.hok d _ hd)
  have hn:vs[i]?=none:=List.getElem?_eq_none_iff.mpr (by rw[←rel.length];omega)
  refine wpAny_pyNext_items_end (I.ok.hd hc) he (hat _ ho) hn fun h' k=>⟨rfl,?_⟩
  obtain⟨f0,f1,f2,f3,f4,f5⟩:=hf it (by simp)
  exact I.turned (t':=s.toks) (fun b o hb eo=>k b o hb eo) f0 f1 f3 f4 f5
 self:=fun _ _ _ _ _ st h=>let ⟨_,_,he⟩:=st;PySem.W.kcp_self he h
end
section
variable {X:Cx}
def f6k (td:TE):TI:=fun σ H R=>td σ H fun x H1=>∃ d kvs,x=.ref d∧(H1 d=some (.dK kvs)∨∃ ob,H1 d=some (.frz ob (.dK kvs)))∧∀ ob H2,H2 d=some (.frz ob (.dK kvs))→(∀ b o,b≠d→H1 b=some o→H2 b=some o)→(∀ b,b≠d→H1 b=none→H2 b=none)→R (ItI d ob kvs) H2
theorem e0c {o:Expr} {td:TE} {apos cpos:Pos} {elts:List Expr} {kk:Nat} {tpos:Pos} (ho:PE X o td) (hbase:attributeBase o "items" X.env (eval o X.env)=eval o X.env:=by rfl) (hline:(apos.endLine == cpos.line)=true:=by rfl) :
  PI X (.Tuple elts kk tpos) (.Call (.Attribute o "items" apos) [] [] cpos) (f6k td):=by
 constructor;intro pins s σ H R I h
 refine wpAny_Call_method0_late hbase hline (thn (ho pins s σ H _ I h) fun v s1 ⟨x,H1,I1,r1,d,kvs,ex,hd,q⟩=>?_)
 subst ex
 cases r1
 obtain⟨ob,H2,I2,h2,k2,n2⟩:∃ ob H2,Inv X pins σ H2 s1∧H2 d=some (.frz ob (.dK kvs))∧(∀ b o,b≠d→H1 b=some o→H2 b=some o)∧∀ b,b≠d→H1 b=none→H2 b=none:=by
  rcases hd with e | ⟨ob,e⟩
  ·obtain⟨ob,eo⟩:=c0w (I1.hok d _ e)
   exact⟨ob,_,e2d I1 e eo,a0b,fun b o n q=>by rw[a0d n];exact q,fun b n q=>by rw[a0d n];exact q⟩
  ·exact⟨ob,H1,I1,e,fun _ _ _ q=>q,fun _ _ q=>q⟩
 obtain⟨ho2,z,hs,vs,rel,dd⟩:=(show a2f X.prog X.w H2 s1.heap d (.frz ob (.dK kvs)) from I2.hok d _ h2)
 obtain⟨ep,hat⟩:=dd.dictAt
 have hat':∀ h:Heap,h.get? d=some ob→h.DictAt (a1x X.prog X.w) d vs ep:=fun h e=>hat.at' fun o e2=>by
  rw[ho2] at e2
  cases e2
  exact e
 refine⟨"dict","dict.items",PySem.F.plainAttrs_dict,PySem.F.slot_dict_items,PySem.F.type_dict_items,dd.typeIs,fun b q=>?_,Calls.callWith_builtin rfl (PySem.evalArgs_none ?_)⟩
 ·cases q
  obtain⟨o1,_,_,e1,c1,_⟩:=dd
  exact⟨o1,e1,c1.2.1⟩
 refine call_meetsIn PySem.F.slot_dict_items dd.typeIs PySem.F.entry_dict_items (PySem.F.args_dict_items_1 _) (meets_dict_items (a1x X.prog X.w) d hs) ⟨⟨vs,dd⟩,?_⟩
 have hv:(s1.heap.push {cls:=.type "dict_items",data:=.fields #[.ref d]}).IsItemsView s1.heap.objs.size d:=⟨_,Heap.get?_push_size _ rfl,rfl,rfl⟩
 have I3:Inv X pins σ H2 {s1 with heap:=s1.heap.push {cls:=.type "dict_items",data:=.fields #[.ref d]}}:=I2.kept (t':=s1.toks) fun b o e=>Heap.get?_push_of_some _ e
 refine wpAny_pyIter_items (s:={s1 with heap:=s1.heap.push {cls:=.type "dict_items",data:=.fields #[.ref d]}}) hv (hat' _ (Heap.get?_push_of_some _ ho2)) ?_
 have I4:=I3.kept (t':=s1.toks) (h':=(s1.heap.push {cls:=.type "dict_items",data:=.fields #[.ref d]}).push {cls:=.type "dict_itemiterator",data:=.fields #[.none,.bool false,.ref d,.int 0 0,.int vs.length 0,.int ep 0,.none,.none]}) fun b o e=>Heap.get?_push_of_some _ e
 exact⟨_,[(s1.heap.push {cls:=.type "dict_items",data:=.fields #[.ref d]}).objs.size],_,_,H2,rfl,I4,e2z d _ ep ob kvs vs rel hat',⟨_,_,Heap.get?_push_size _ rfl⟩,fun b hb=>by
  rw[List.mem_singleton.mp hb]
  exact I3.fpOk (Nat.le_refl _) (I3.hok.fresh (Nat.le_refl _)),q ob H2 h2 k2 n2⟩
end
theorem d5v {d:Addr} {ob:Obj} {kvs:List (Key×V)} {g:TG} {tb:TS} {D:d7t} {σ:L2.St} {H:Hp} (Pv:Nat→L2.St→Hp→Prop) (h0:Pv 0 σ H) (hl:∀ i σ H,Pv i σ H→H d=some (.frz ob (.dK kvs)))
  (hs:∀ i k x σ H p,kvs[i]?=some (k,x)→Pv i σ H→H p=none→g (.ref p) σ (upd H p (.tup [kV k,x])) fun σ2 H2=>tb {D with nx:=Pv (i+1),ct:=Pv (i+1),bk:=D.nx} σ2 H2) (hd:∀ σ H,Pv kvs.length σ H→D.nx σ H) :
  ∃ W:Nat→Nat→L2.St→Hp→Prop,(∃ m,W 0 m σ H)∧∀ i m σ H,W i m σ H →
   ((ItI d ob kvs).stop i H∧D.nx σ H)∨((ItI d ob kvs).go i H∧∃ N:L2.St→Hp→Prop,(∀ σ' H',N σ' H'→∃ m',m' < m∧W (i+1) m' σ' H')∧∀ x H',(ItI d ob kvs).yld i H x H'→g x σ H' fun σ2 H2=>tb {D with nx:=N,ct:=N,bk:=D.nx} σ2 H2):=by
 refine⟨fun i m σ H=>m=kvs.length - i∧i≤kvs.length∧Pv i σ H,⟨kvs.length,by simp,Nat.zero_le _,h0⟩,?_⟩
 rintro i m σ H ⟨rfl,hi,p⟩
 by_cases hlt:i < kvs.length
 ·refine .inr ⟨⟨hl i σ H p,hlt⟩,Pv (i+1),fun σ' H' p'=>⟨kvs.length - (i+1),by omega,rfl,hlt,p'⟩,?_⟩
  rintro v H' ⟨q,k,x,hx,rfl,hq,rfl⟩
  exact hs i k x σ H q hx p hq
 ·have e:i=kvs.length:=by omega
  subst e
  exact .inl ⟨⟨hl _ σ H p,rfl⟩,hd σ H p⟩
end My
namespace My
open PySem PySem.Spec PyProof.Rows L2 Builtin.Str PySem.StrLaws
def pre (d:Nat):List (List Nat)→List (List Nat)
 | []=>[]
 | p::r=>p::r.map (d::·)
end My
namespace My
open PySem PySem.Spec PyProof.Rows L2 PyProof
theorem b5x {α β:Type} {F:α→β→Prop} {xs:List α} {bs:List β} (p:Paired F xs bs):xs.length=bs.length:=by
 induction p with
 | nil=>rfl
 | cons _ _ ih=>simp only [List.length_cons,ih]
theorem b1v {α β:Type} {F G:α→β→Prop} {xs:List α} {bs:List β} (f:∀ v a,F v a→G v a) (p:Paired F xs bs):Paired G xs bs:=by
 induction p with
 | nil=>exact .nil
 | cons h _ ih=>exact .cons (f _ _ h) ih
theorem e1m (k:Int):∀ ms:List Int,inV (.int k) (ms.map V.int)=ms.contains k
 | []=>rfl
 | m::r=>by
  have ih:=e1m k r
  unfold inV at ih ⊢
  rw[List.map_cons,List.any_cons,ih,List.contains_cons]
  show ((m == k) || _)=_
  rw[show (m == k)=(k == m) from (Bool.eq_iff_iff.mpr ⟨fun h=>beq_iff_eq.mpr (beq_iff_eq.mp h).symm,fun h=>beq_iff_eq.mpr (beq_iff_eq.mp h).symm⟩)]
theorem e7i (ms:List Int):(ms.map V.int).all d4j=true:=by
 rw[List.all_eq_true]
 intro v hv
 obtain⟨m,_,rfl⟩:=List.mem_map.mp hv
 rfl
theorem d2t {α:Type} {p:α→Bool}:∀ {xs:List α} {i:Nat} {k:α},(∀ j x,j < i→xs[j]?=some x→p x=false)→xs[i]?=some k→p k=true→xs.find? p=some k
 | [],_,_,_,h,_=>by simp at h
 | x::r,0,k,_,h,hk=>by
  have e:x=k:=by simpa using h
  subst e
  rw[List.find?_cons,hk]
 | x::r,i+1,k,hn,h,hk=>by
  rw[List.find?_cons,hn 0 x (Nat.succ_pos i) rfl]
  exact d2t (i:=i) (fun j y hj e=>hn (j+1) y (by omega) (by simpa using e)) (by simpa using h) hk
theorem f0l {α:Type} {p:α→Bool} {xs:List α} (h:∀ j x,j < xs.length→xs[j]?=some x→p x=false):xs.any p=false:=by
 rw[List.any_eq_false]
 intro x hx
 obtain⟨j,hj,e⟩:=List.getElem_of_mem hx
 rw[h j x hj (by rw[List.getElem?_eq_getElem hj,e])]
 simp
end My
namespace My
open PySem PySem.Spec PyProof.Rows L2 PyProof
structure MkO (K:PySem.W.Frag) (C:Addr):Prop where
 makes:PySem.W.makesIn K C=true
 init:PySem.W.findIn K (.ref C) "__init__"=some (some (.builtin "object.__init__"))
 kp:PySem.W.keepIn K (.ref C)=true
section
variable {X:Cx}
def f9w (C:Addr):TE:=fun _ H Q=>∀ x dx,H x=none→H dx=none→dx≠x→Q (.ref x) (upd (upd H dx (.own x)) x (.ins C dx []))
theorem c6l {C:Addr} {x:Str} {p pos:Pos} (M:MkO X.K C) (hg:Gl X x) (hm:X.mg x=some (.ref C)) (hdb:(x == ("__debug__":Str))=false:=by decide):PE X (.Call (.Name x p) [] [] pos) (f9w C):=by
 constructor;intro pins s σ H Q I h
 refine wpAny_Call_Name_kw (b3u I hg hm ?_ hdb)
 refine PySem.W.callWith_K0 I.kIn M.kp (wpAny_call (e7d I.kIn M.makes M.init (fun self=>PySem.W.Looks.of_pure (PySem.W.oi_bind self)) ?_))
 have I2:=Inv.made (C:=C) I
 have hq:=h (s.heap.objs.size+1) s.heap.objs.size (I.hok.fresh (Nat.le_succ _)) (I.hok.fresh (Nat.le_refl _)) (Nat.ne_of_lt (Nat.lt_succ_self _))
 have Y:=PySem.W.makes_of (M:=model X.prog X.w) I.kIn M.makes
 have e2:((s.heap.push PySem.W.emptyDict).push (PySem.W.instObj C s.heap.objs.size)).get? (s.heap.objs.size+1)=some (PySem.W.instObj C s.heap.objs.size):=by
  have:=Heap.get?_push_size (s.heap.push PySem.W.emptyDict) (o:=PySem.W.instObj C s.heap.objs.size) rfl
  rwa [size_push'] at this
 have t1:PySem.W.Looks (model X.prog X.w) ((s.heap.push PySem.W.emptyDict).push (PySem.W.instObj C s.heap.objs.size)) (typeOf (.ref (s.heap.objs.size+1))) (.ref C):=(PySem.W.Looks.ld e2).andThen .now
 have t2:PySem.W.Looks (model X.prog X.w) ((s.heap.push PySem.W.emptyDict).push (PySem.W.instObj C s.heap.objs.size)) (isInstance (.ref (s.heap.objs.size+1)) (.type "object")) true:=t1.andThen (Y.top.keeps fun b o e=>Heap.get?_push_of_some _ (Heap.get?_push_of_some _ e))
 refine codeAny_call_builtin PySem.W.oi_plain PySem.W.entry_oi (@PySem.W.check_slot (model X.prog X.w) _ _ _ "object.__init__" "object" "__init__" (.ref (s.heap.objs.size+1)) [] [] _ PySem.W.oi_kind PySem.W.oi_split t2 (PySem.W.oi_args (.ref (s.heap.objs.size+1))) ?_)
 rw[PySem.W.oi_run]
 exact wpAny_pure (And.intro rfl ⟨V.ref _,_,I2,rfl,hq⟩)
def f7q (X:Cx) {ι:Type} (cls:ι→Addr) (m:Str) (sp:ι→Sp) (k:Nat):Prop:=∀ l,∃ f fd ps,Cls X.K (cls l)∧a6d X.K (cls l) m f∧a2j X.prog X.w X.K X.mg X.base CX0 k f fd ps (sp l)∧a0x X.K fd ps []
def f2c {ι:Type} (cls:ι→Addr) (m:Str) (sp:ι→Sp) (ta:TE) (t:TA):TE:=fun σ H Q=>ta σ H fun x H1=>∃ a l dx fs,x=.ref a∧H1 a=some (.ins (cls l) dx fs)∧fs.lookup m=none∧t σ H1 fun vs H2=>sp l (x::vs) H2 Q E0
theorem e8s {ι:Type} {cls:ι→Addr} {m:Str} {sp:ι→Sp} {k:Nat} {o e:Expr} {es:List Expr} {ta:TE} {t:TA} {apos pos:Pos} {pl:Sem Bool} (he:PE X o ta) (M:f7q X cls m sp k) (hr:Room k X.A) (ha:PA X (e::es) t)
  (hst:starEach (e::es) X.env=(false,eval e X.env)::starEach es X.env:=by rfl) (hpl:(backTo pos (starEach es X.env)).any (·.1)=false:=by rfl)
  (ht:eval (.Call (.Attribute o m apos) (e::es) [] pos) X.env=(do let ov ← eval o X.env;standAt apos.atName;let (f,first) ← holding [ov] (getMethod ov m pl);callWith pos f first (backTo pos (starEach (e::es) X.env)) (backToKw pos (keywordEach [] X.env))):=by rfl) :
  PE X (.Call (.Attribute o m apos) (e::es) [] pos) (f2c cls m sp ta t):=by
 constructor;intro pins s σ H Q I h
 refine PySem.W.methodCall_KW (pl:=pl) (thn (he pins s σ H _ I h) fun u s1 ⟨x,H1,I1,rx,a,l,dx,fs,ex,ea,lk,q⟩=>?_) ht
 subst ex
 obtain rfl:u=Value.ref a:=rx
 obtain⟨f,fd,ps,c,hm,F,hb⟩:=M l
 refine b0y I1 ea c hm lk ?_
 refine PySem.W.callWith_K (first:=[.ref a]) (h₀:=X.base) I.ok.mod.kin hm.kp (thn (ha pos pins s1 σ H1 _ I1 q) fun us s2 ⟨vs,H2,I2,r,q2⟩=>⟨I2.kIn,?_⟩) hst hpl
 exact d7m (us:=.ref a::us) (vs:=.ref a::vs) F hr hb .nil a1j I2 (.cons rfl r) (by rw[List.append_nil];exact q2)
theorem c1n {ι:Type} {cls:ι→Addr} {m:Str} {sp:ι→Sp} {k:Nat} {o:Expr} {ta:TE} {apos pos:Pos} {pl:Sem Bool} (he:PE X o ta) (M:f7q X cls m sp k) (hr:Room k X.A)
  (ht:eval (.Call (.Attribute o m apos) [] [] pos) X.env=(do let ov ← eval o X.env;standAt apos.atName;let (f,first) ← holding [ov] (getMethod ov m pl);callWith pos f first (backTo pos (starEach [] X.env)) (backToKw pos (keywordEach [] X.env))):=by rfl) :
  PE X (.Call (.Attribute o m apos) [] [] pos) (f2c cls m sp ta f5f):=by
 constructor;intro pins s σ H Q I h
 refine PySem.W.methodCall_KW (pl:=pl) (thn (he pins s σ H _ I h) fun u s1 ⟨x,H1,I1,rx,a,l,dx,fs,ex,ea,lk,q⟩=>?_) ht
 subst ex
 obtain rfl:u=Value.ref a:=rx
 obtain⟨f,fd,ps,c,hm,F,hb⟩:=M l
 refine b0y I1 ea c hm lk ?_
 exact PySem.W.callWith_K0 (first:=[.ref a]) I1.kIn hm.kp (d7m (us:=[.ref a]) (vs:=[.ref a]) F hr hb .nil a1j I1 (.cons rfl .nil) q)
theorem f2i {st:Stmt} {t:TS} (h:PS X.nox st t):PS X st t:=by
 constructor;intro pins s σ H D I hw
 refine wpAny_mono (h pins s σ H D (I.wish _) hw) (fun f s' z=>?_) fun _ _ z=>z.elim
 cases f with
 | next=>obtain⟨σ',H',I',q⟩:=z;exact⟨σ',H',I'.unwish,q⟩
 | brk=>obtain⟨σ',H',I',q⟩:=z;exact⟨σ',H',I'.unwish,q⟩
 | cont=>obtain⟨σ',H',I',q⟩:=z;exact⟨σ',H',I'.unwish,q⟩
 | ret u=>obtain⟨v,σ',H',I',r,q⟩:=z;exact⟨v,σ',H',I'.unwish,r,q⟩
theorem f0n {e:Expr} {z:Str} {k:Nat} {te:TE} {p1 p2 pos:Pos} (he:PE X e te) (hz:z.length≤1000) (hev:evalEach [.Constant (.str z) k p2,.FormattedValue e 114 none p1] X.env=[eval (.Constant (.str z) k p2) X.env,eval (.FormattedValue e 114 none p1) X.env]:=by rfl) :
  PE X (.JoinedStr [.Constant (.str z) k p2,.FormattedValue e 114 none p1] pos) (fun σ H Q=>te σ H fun x H1=>∃ y:Str,x=.str y∧(∀ c∈y.cps.toList,c < 16 ^ 8)∧y.length≤1000∧∀ r,Q (.str r) H1):=by
 constructor;intro pins s σ H Q I h
 refine wpAny_JoinedStr ?_
 rw[hev]
 have e0:(Str.empty++z).length=z.length:=by rw[strLen_append];show 0+_=_;omega
 have hs2:(10002:Nat)+1000≤sizeLine:=by decide
 refine Calls.Constant_str ⟨_,_,rfl,by rw[e0];omega,?_⟩
 refine wpAny_FormattedValue_repr (thn (he pins _ σ H _ (I.tok _) h) fun u s1 ⟨x,H1,I1,r1,y,e1,hc,hl,q⟩=>?_)
 subst e1
 obtain⟨t,rfl⟩:=r1
 have hr:=PySem.StrLaws.reprText_len y hc
 refine wpAny_pyReprObj_str ?_ (by omega)
 refine formatField_str (fun t' tk=>⟨_,_,rfl,by rw[strLen_append,e0];omega,?_⟩) (by omega)
 exact⟨by rw[strLen_append,e0];omega,.str _,H1,(I1.tok _).tok _,⟨_,rfl⟩,q _⟩
end
end My
namespace My
open PySem PySem.Spec PyProof.Rows L2 PyProof
def Ris (xs:Array Nat):Prop:=xs.toList.Pairwise (· < ·)
structure TOk (t:SetTable):Prop where
 up:Ris t.place
 nd:t.dummies=#[]
theorem TOk.fresh (f m:Nat) (l:Bool):TOk (.fresh f m l):=⟨List.Pairwise.nil,rfl⟩
end My
namespace My
open PySem PySem.Spec PyProof.Rows L2 PyProof
def dd (ns:List Int):List Int:=ns.foldl step_dedup []
end My
namespace My
open PySem PySem.Spec PyProof.Rows L2
section
variable {P:Program} {w:World} {K:PySem.W.Frag} {mg:Str→Option Value} {base:Heap}
theorem f3q {x qual:Str} {st:Stmt} {f:Addr} {fd:FuncData} {N ps:List Str} {k:Nat} {sp:Sp} (F:Fun K x qual st f fd) (S:a0o N ps (a0c st)) (len:∀ vs H Q E,sp vs H Q E→vs.length=ps.length)
  (hbody:∀ (A:Around) (outer:List Env) (s:Shared) (H:Hp) (vs:List V) (Q:VK) (E:XK),Room k (A.deeper (envOfC qual (a0c st) s.heap.objs.size f fd.code))→sp vs H Q E →
   ∃ t,PSs (c4q CX0 P w K mg base N qual (a0c st) f fd.code A outer s H E).nox (a0l st) t∧t {nx:=fun _ H'=>Q .non H',rt:=Q} (start N vs) H):a2j P w K mg base CX0 (k+1) f fd ps sp:=by
 obtain⟨_,_,_,_,_,_,_,_,_,e,lk,hcd⟩:=F.ex
 subst e
 exact f3h lk hcd S len fun A outer s H vs Q E hr hsp=>let ⟨t,h,q⟩:=hbody A outer s H vs Q E hr hsp;⟨t,h.nox,q⟩
end
section
variable {P:Program} {w:World} {K:PySem.W.Frag} {mg mb:Str→Option Value} {CX:CXT} {k:Nat} {fa a c0 P0:Addr} {fd:FuncData} {x:Str} {sp:Heap→Sp} {s₁:Shared} {vs:List Value} {ns:List Int}
def f6w (K:PySem.W.Frag) (a P0:Addr) (o:Obj) (u:HO):Hp:=fun b=>if b=P0 then some (.tbl #[]) else if b=a then (match K.lookup a with
 | some _=>none
 | none=>some (.frz o u)) else none
theorem b1i {o:Obj} {u v:HO} {b:Addr} (e:f6w K a P0 o u b=some v):(b=P0∧v=.tbl #[])∨(b≠P0∧b=a∧v=.frz o u∧K.lookup a=none):=by
 unfold f6w at e
 by_cases h:b=P0
 ·rw[if_pos h] at e
  cases e
  exact .inl ⟨h,rfl⟩
 ·rw[if_neg h] at e
  by_cases h2:b=a
  ·rw[if_pos h2] at e
   cases h3:K.lookup a with
   | some z=>rw[h3] at e;cases e
   | none=>rw[h3] at e;cases e;exact .inr ⟨h,h2,rfl,rfl⟩
  ·rw[if_neg h2] at e
   cases e
theorem e7a (KX:K.In s₁.heap) (hns:s₁.heap.Ns mainGlobals mg) (hb:s₁.heap.Ns builtinsNs mb) (hbb:∀ x:Str,x≠"__name__"→mb x=bootBuiltins x) (hlim:s₁.heap.NoLimit) (hg:s₁.gens=#[])
  (ha:s₁.heap.get? a=some {cls:=.type "list",data:=.seq vs.toArray}) (hi:IntsAre vs ns) (hl:ns.length≤sizeLine) (hr:Room k callerA)
  (hT:s₁.heap.get? P0=some (PySem.W.tabObj #[])) (hC:PySem.W.codeHdIn K c0 P0=true) (hKP:K.lookup P0=none) (hBu:s₁.heap.BuiltinsAt mg P0)
  (F:∀ base:Heap,K.In base→base.Ns mainGlobals mg→a2j P w K mg base CX k fa fd [x] (sp base)) (hbind:∀ (s:Shared) (u:Value),BindsTo s fd ⟨[u],[]⟩ [(x,u)])
  (hsp:∀ (base:Heap) (H:Hp),base.BuiltinsAt mg P0→H P0=some (.tbl #[])→SqL K H a (ns.map V.int)→sp base [.ref a] H (fun v _=>v=.bl true) fun _ _ _=>False)
  (hCX:∀ H e s',CX [] H s₁ (fun _ _ _=>False) e s'→False) :
  codeAny (model P w) callerA (.call (.ref fa) ⟨[.ref a],[]⟩) (fun r s'=>r=.ok (.ret (.bool true))∧OldK s₁.heap s'.heap∧s'.os=s₁.os∧AllBare s'.gens) s₁:=by
 have rv:=L2.d6z hi
 have lenV:=hi.length
 have aP:a≠P0:=fun z=>by rw[z,hT] at ha;cases ha
 let o:Obj:={cls:=.type "list",data:=.seq vs.toArray}
 let H:Hp:=f6w K a P0 o (.lst (ns.map V.int))
 have hP:H P0=some (.tbl #[]):=if_pos rfl
 have none_of:∀ {b:Addr} {ob:Obj},s₁.heap.get? b=some ob→ob.cls≠.none→ob.cls≠.type "list"→H b=none:=fun {b ob} e n1 n2=>by
  cases q:H b with
  | none=>rfl
  | some v =>
   exfalso
   rcases b1i q with ⟨z,_⟩ | ⟨_,z,_,_⟩
   ·rw[z,hT] at e;cases e;exact n1 rfl
   ·rw[z,ha] at e;cases e;exact n2 rfl
 have dict_of:∀ {b:Addr} {ob:Obj} {es:Array DictEntry} {ep:Nat},s₁.heap.get? b=some ob→ob.data=.dict es ep→H b=none:=fun {b ob es ep} e d=>by
  cases q:H b with
  | none=>rfl
  | some v =>
   exfalso
   rcases b1i q with ⟨z,_⟩ | ⟨_,z,_,_⟩
   ·rw[z,hT] at e;cases e;cases d
   ·rw[z,ha] at e;cases e;cases d
 have ns_of:∀ {b:Addr} {m:Str→Option Value},s₁.heap.Ns b m→(e8y s₁.heap H).Ns b m:=fun {b m} ⟨ob,es,ep,e,d,r⟩=>⟨ob,es,ep,d4p e (dict_of e d),d,r⟩
 have hKb:K.In (e8y s₁.heap H):=fun b ob e=>d4p (KX b ob e) (by
  cases q:H b with
  | none=>rfl
  | some v =>
   exfalso
   rcases b1i q with ⟨z,_⟩ | ⟨_,z,_,z2⟩
   ·rw[z,hKP] at e;cases e
   ·rw[z,z2] at e;cases e)
 have hM:Mod K mg (e8y s₁.heap H):=⟨hKb,ns_of hns,⟨mb,ns_of hb,hbb⟩,let ⟨mc,h1,h2⟩:=hlim;⟨mc,ns_of h1,h2⟩⟩
 have hok:HOk P w H s₁.heap:=fun b v q=>by
  rcases b1i q with ⟨z,z2⟩ | ⟨_,z,z2,_⟩
  ·rw[z,z2];exact hT
  ·rw[z,z2];exact⟨ha,by rw[List.length_map];exact hl,vs,_,rv,ha⟩
 have hS:SqL K H a (ns.map V.int):=by
  cases hk:K.lookup a with
  | some ob =>
   have e:=KX a ob hk
   rw[ha] at e
   cases e
   exact .inr ⟨_,vs.toArray,_,hk,rfl,rfl,rfl,by rw[List.size_toArray,lenV];exact hl,by simpa using rv⟩
  | none =>
   refine .inl (.inr ⟨o,?_⟩)
   show f6w K a P0 o (.lst (ns.map V.int)) a=_
   unfold f6w
   rw[if_neg aP,if_pos rfl,hk]
 have hBB:(e8y s₁.heap H).BuiltinsAt mg P0:=by
  obtain⟨bm,ob,b1,b2,b3,b4,b5,b6,b7⟩:=hBu
  exact⟨bm,ob,b1,b2,b3,b4,d4p b5 (none_of b5 (by rw[b6];simp) (by rw[b6];simp)),b6,b7⟩
 have e0:e8o P w K mg (e8y s₁.heap H) callerA [] s₁ H:=⟨rfl,hM,fun b ob e=>f4k e,Nat.le_of_eq (e4b _ _),trivial,fun b hb=>absurd (show b∈([]:List Addr) from hb) (by simp),hok,.of_eq hg⟩
 refine codeAny_mono ((F _ hKb (ns_of hns)).run callerA [] s₁ H ⟨[.ref a],[]⟩ [.ref a] [.ref a] _ _ hr e0 (hbind s₁ (.ref a)) (.cons rfl .nil) (hsp _ H hBB hP hS)) fun r s' h=>?_
 match r,h with
 | .error e,h=>exact(hCX H e s' h).elim
 | .ok (.ret u),h =>
  obtain⟨v,H',os,bare,un,hok',r',q⟩:=h
  obtain rfl:v=.bl true:=q
  obtain rfl:u=Value.bool true:=r'
  refine⟨rfl,⟨fun b ob e=>?_,fun b ob e=>un.there b ob e (by simp)⟩,os,bare⟩
  cases q:H b with
  | none=>exact .inl (un.keep b ob e q (fun z=>absurd (show b∈([]:List Addr) from z) (by simp)) (by simp))
  | some v =>
   rcases b1i q with ⟨z,z2⟩ | ⟨_,z,z2,_⟩
   ·subst z
    obtain⟨more,m2⟩:=un.tbls b #[] hP
    have hg':s'.heap.get? b=some {cls:=.none,data:=.fields (#[]++more)}:=hok' b _ m2
    rw[hT] at e
    cases e
    obtain⟨oc,cvs,_,_,_,_,_,_,_,c1,c2,c3,c4,_⟩:=PySem.W.codeHd_of_K KX hC
    exact .inr (.inl ⟨⟨c0,oc,cvs,c1,c2,c3,c4⟩,rfl,#[],more,rfl,hg'⟩)
   ·subst z2
    have z3:=un.frzs b _ _ q
    obtain⟨e1,_⟩:=hok b _ q
    obtain⟨e2,_⟩:=hok' b _ z3
    rw[e] at e1
    cases e1
    exact .inl e2
end
end My
namespace My
open PySem PySem.W PySem.Calls PyProof.Rows L2
theorem f0i {l:PySem.W.OpenLaw} {n k:Nat} {q:Program} {loose:List Str} {XP:(Str→Option Value)→Heap→Prop} {YP:World→Heap→Prop} {d:DefRec} {K:Params→PySem.W.Frag} {ts:List Addr} {CX:World→CXT} {sp:World→(Str→Option Value)→Addr→Heap→Sp} {x:Str}
  (hn:l.most=some n) (hn2:n≤sizeLine) (hdf:d.params.defaults=[]) (hr:Room k callerA)
  (hY:∀ (w:World) (h:Heap),YP w h→(K w.params).In h∧∀ P∈ts,h.get? P=some (PySem.W.tabObj #[]))
  (F:∀ (w:World) (mg:Str→Option Value) (fa:Addr) (h:Heap),(K w.params).In h→h.Ns mainGlobals mg→mg d.name=some (.ref fa) →
   ∃ (fd:FuncData) (c0 P0:Addr),(∀ (s:Shared) (u:Value),BindsTo s fd ⟨[u],[]⟩ [(x,u)])∧P0∈ts∧(K w.params).lookup P0=none∧PySem.W.codeHdIn (K w.params) c0 P0=true ∧
    ∀ base:Heap,(K w.params).In base→base.Ns mainGlobals mg→a2j l.prog w (K w.params) mg base (CX w) k fa fd [x] (sp w mg P0 base))
  (hsp:∀ (w:World) (mg:Str→Option Value) (P0:Addr) (base:Heap) (H:Hp) (a:Addr) (ns:List Int),ns.length≤n→(∀ m∈ns,Builtin.Int.intBits m≤1048576)→base.BuiltinsAt mg P0→H P0=some (.tbl #[])→SqL (K w.params) H a (ns.map V.int)→sp w mg P0 base [.ref a] H (fun v _=>v=.bl true) fun _ _ _=>False)
  (hCX:∀ (w:World) (H:Hp) (s:Shared) (e:Value) (s':Shared),CX w [] H s (fun _ _ _=>False) e s'→False) :
  PySem.W.WalkO q loose XP YP l.row.toRowW d [] (fun f vs=>PySem.call f vs):=by
 intro w s₀ s₁ mg mb G Y fa o pm cd doc dV kV ho hd hcd hD hmg hg args vals as hpre hlay hrd hwl hlo
 obtain rfl:dV=.none:=Dflts.none hD hdf
 obtain rfl:kV=.none:=Dflts.noKw hD
 obtain⟨a,vs,ns,rfl,rfl,hobj,hints,hlen⟩:=Att.e3y hn hpre hwl
 obtain⟨KX,hT⟩:=hY w _ Y
 obtain⟨fd,c0,P0,hb,hP,hKP,hC,hF⟩:=F w mg fa _ KX G.T.g hmg
 have hBu:s₁.heap.BuiltinsAt mg P0:=by
  obtain⟨bm,ob,b1,b2,b3,b4,b5,b6⟩:=G.T.bmain
  refine⟨bm,ob,b1,b2,fun z=>?_,fun z=>?_,b3,b4,b5,b6⟩
  ·obtain⟨o',es,ep,e,hd',_⟩:=G.T.g
   rw[z,e] at b3;cases b3;rw[hd'] at b6;cases b6
  ·rw[z,hT P0 hP] at b3;cases b3;cases b4
 refine enter_call (codeAny_mono (e7a KX G.T.g G.T.b G.T.builtins G.T.nolimit hg hobj hints (Nat.le_trans hlen hn2) hr (hT P0 hP) hC hKP hBu hF hb (fun base H h1 h2 h3=>hsp w mg P0 base H a ns hlen (f4p hlay) h1 h2 h3) fun H e s'=>hCX w H s₁ e s') fun r s' hq=>?_)
 obtain⟨rfl,h2,h3,h4⟩:=hq
 exact⟨.inl ⟨.bool true,.bool true,[],rfl,fun _=>rfl,.bool true,Att.e4o l _,fun _=>⟨List.Pairwise.nil,fun _ hm=>(nomatch hm)⟩⟩,h2,h3,h4⟩
end My
namespace My
open PySem PySem.Spec PyProof.Rows L2 PyProof
def e0t (L:Addr) (h:Heap):List (Addr×Obj):=(List.range h.objs.size).filterMap fun b=>if b=L then none else (h.get? b).map fun o=>(b,o)
theorem b6v {L b:Addr} {h:Heap} {o:Obj} (n:b≠L) (e:h.get? b=some o):(b,o)∈e0t L h :=
 List.mem_filterMap.mpr ⟨b,List.mem_range.mpr (Heap.lt_size e),by rw[if_neg n,e];rfl⟩
theorem d6l {L:Addr} {h:Heap} {p:Addr×Obj} (m:p∈e0t L h):p.1≠L∧h.get? p.1=some p.2:=by
 obtain⟨b,_,e⟩:=List.mem_filterMap.mp m
 by_cases n:b=L
 ·rw[if_pos n] at e;cases e
 ·rw[if_neg n] at e
  obtain⟨o,e1,e2⟩:=Option.map_eq_some_iff.mp e
  subst e2
  exact⟨n,e1⟩
theorem b1a (b:Addr):(Heap.get? ({}:Heap) b)=none:=by
 cases e:Heap.get? ({}:Heap) b with
 | none=>rfl
 | some o=>exact absurd (Heap.lt_size e) (Nat.not_lt_zero _)
theorem e6q {X:Cx} {pins:List (Addr×Obj)} {σ:L2.St} {H:Hp} {s:Shared} {h':Heap} {t':Nat} (I:Inv X pins σ H s) (keep:∀ b o,b≠X.env.locals→s.heap.get? b=some o→h'.get? b=some o)
  (ns:∀ m,s.heap.Ns X.env.locals m→h'.Ns X.env.locals m):Inv X pins σ H {s with heap:=h',toks:=t'}:=by
 refine I.step (g':=s.gens) (d':=s.drawn) (ch:=[]) (fun _ z=>nomatch z) (fun b o nL hb _ e n=>keep b o nL e) (fun b o nL hb _ e n=>⟨o.slots,keep b o nL e⟩) (fun b o _ e n=>n) (fun b o _ e=>?_) (fun _ _ e=>e) (fun _ _ _ e=>e) (fun b ps e=>⟨#[],by simpa using e⟩) ns (fun b u q=>?_) I.bare
 ·by_cases z:b=X.env.locals
  ·obtain⟨m,hn,_⟩:=I.loc
   obtain⟨o',_,_,e',_⟩:=ns m hn
   exact⟨o',z ▸ e'⟩
  ·exact⟨o,keep b o z e⟩
 ·refine(I.hok b u q).stay (fun c v hc z=>keep c v (fun y=>?_) z) (fun _ z=>z) fun _ _ z=>z
  have fr:=I.free
  rcases hc with rfl | hc
  ·rw[←y,q] at fr;cases fr
  ·rw[←y,hc] at fr;cases fr
theorem e4m {h:Heap} {a:Addr} {m m':Str→Option Value} (x:h.Ns a m) (y:h.Ns a m'):m=m':=by
 obtain⟨o,es,ep,e1,e2,e3⟩:=x
 obtain⟨o',es',ep',f1,f2,f3⟩:=y
 rw[e1] at f1
 cases f1
 rw[e2] at f2
 cases f2
 exact funext fun x=>(e3.2 x).symm.trans (f3.2 x)
theorem e9f {prog:Program} {w:World} {A:Around} {E:Value→Shared→Prop} {s:Shared} {f:Addr} {cdv:Value} {name qual fld:Str} {params:Arguments} {scope:Scope} {z:Str} {p2 sp:Pos} {pm ctv u:Value} {Q:Value→Shared→Prop} (hroom:A.depth < recursionLimit) (hlim:s.heap.NoLimit)
  (hf:s.heap.get? f=some {cls:=.type "function",data:=.func (PySem.W.kla_fn name qual params (.Attribute (.Name z p2) fld sp) scope [] pm cdv ctv)}) (hcd:s.heap.CodeRec cdv qual)
  (hco:scope.isCoroutine=false) (hgen:scope.isGenerator=false) (hk:scope.kind=.function) (hnc:∀ x∈scope.names,x.2≠.cell) (hz:scope.names.lookup z=some .local)
  (hbind:bindArgs (PySem.W.kla_fn name qual params (.Attribute (.Name z p2) fld sp) scope [] pm cdv ctv) ⟨[u],[]⟩=pure [(z,u)])
  (d2:(z == ("__debug__":Str))=false) (hb:∀ env,attributeBase (.Name z p2) fld env (eval (.Name z p2) env)=eval (.Name z p2) env)
  (item:∀ (h':Heap) (tk:Nat) (A':Around) (E':Value→Shared→Prop) (Q':Value→Shared→Prop),(∀ b o,s.heap.get? b=some o→h'.get? b=some o)→(∀ v tk',Q v {s with heap:=h',toks:=tk'}→Q' v {s with heap:=h',toks:=tk'})→wpAny (model prog w) A' (getAttr u fld true) Q' E' {s with heap:=h',toks:=tk}):wpAny (model prog w) A (call (.ref f) [u]) Q E s:=by
 refine wpAny_call (PySem.W.kla_callFunE hroom hf rfl hco hgen rfl hcd ?_)
 rw[hbind]
 refine wpAny_pure (wpAny_newFunctionEnv hnc (fun x hx=>by rw[List.mem_singleton.mp hx];exact hz) (fun h₁ hns hsb=>⟨hlim.fresh _ hsb,?_⟩) hk)
 have hk1:∀ b o,s.heap.get? b=some o→h₁.get? b=some o:=fun b o e=>hsb.extBut b o (Nat.ne_of_lt (Heap.lt_size e)) (Heap.get?_push_of_some _ e)
 refine PySem.W.kla_codeExpr ?_
 refine e5y (hb _) ?_
 refine wpAny_Name (wpAny_loadName_local hk hz hns (v:=u) (by show List.lookup z [(z,u)]=some u;simp) ?_) d2
 exact item h₁ _ _ _ _ hk1 fun v tk' q=>q
def e3t (ks:List Int) (xs ys:List V):Prop:=∃ ps:List (Int×V),ps.Perm (ks.zip xs)∧ys=ps.map Prod.snd∧ps.Pairwise fun p q=>p.1≤q.1
theorem d6c {α β:Type} {R:α→β→Prop} {l1 l2:List β} (p:l1.Perm l2):∀ {l2':List α},Paired R l2' l2→∃ l1':List α,l1'.Perm l2'∧Paired R l1' l1:=by
 induction p with
 | nil=>exact fun {l} h=>⟨l,.refl _,h⟩
 | cons x _ ih =>
  intro l h
  cases h with
  | cons r t =>
   obtain⟨l',p',h'⟩:=ih t
   exact⟨_::l',p'.cons _,.cons r h'⟩
 | swap x y l =>
  intro l' h
  cases h with
  | cons r t =>
   cases t with
   | cons r2 t2=>exact⟨_::_::_,.swap _ _ _,.cons r2 (.cons r t2)⟩
 | trans _ _ ih1 ih2 =>
  intro l h
  obtain⟨l2,p2,h2⟩:=ih2 h
  obtain⟨l1,p1,h1⟩:=ih1 h2
  exact⟨l1,p1.trans p2,h1⟩
theorem e1d:∀ {ks:List Int} {xs:List V} {us:List Value},a3c xs us→Paired (fun (p:Int×V) (q:Int×Value)=>p.1=q.1∧a2u p.2 q.2) (ks.zip xs) (ks.zip us)
 | [],_,_,_=>.nil
 | _::_,_,_,.nil=>.nil
 | _::_,_,_,.cons r t=>.cons ⟨rfl,r⟩ (e1d t)
theorem e0p:∀ {ps:List (Int×V)} {qs:List (Int×Value)},Paired (fun (p:Int×V) (q:Int×Value)=>p.1=q.1∧a2u p.2 q.2) ps qs→a3c (ps.map Prod.snd) (qs.map Prod.snd)∧(qs.Pairwise (fun p q=>p.1≤q.1)→ps.Pairwise fun p q=>p.1≤q.1)
 | _,_,.nil=>⟨.nil,fun _=>.nil⟩
 | _,_,.cons r t=>by
  obtain⟨a,b⟩:=e0p t
  refine⟨.cons r.2 a,fun h=>?_⟩
  obtain⟨h1,h2⟩:=List.pairwise_cons.mp h
  refine List.pairwise_cons.mpr ⟨fun q hq=>?_,b h2⟩
  obtain⟨j,hj,e⟩:=List.getElem_of_mem hq
  obtain⟨y,ey,ry⟩:=a3n t (List.getElem?_eq_some_iff.mpr ⟨hj,e⟩)
  have:=h1 y (List.mem_of_getElem? ey)
  rw[r.1,ry.1]
  exact this
theorem d2j {X:Cx} {pins:List (Addr×Obj)} {σ:L2.St} {H:Hp} {s:Shared} {h':Heap} {t':Nat} {D:Addr} {u:HO} (I:Inv X pins σ H s) (keep:∀ b o,b≠X.env.locals→s.heap.get? b=some o→h'.get? b=some o)
  (ns:∀ m,s.heap.Ns X.env.locals m→h'.Ns X.env.locals m) (hD:s.heap.objs.size≤D) (new:a2f X.prog X.w (upd H D u) h' D u):Inv X pins σ (upd H D u) {s with heap:=h',toks:=t'}:=by
 have old:∀ b o,H b=some o→b≠D:=fun b o e=>Nat.ne_of_lt (Nat.lt_of_lt_of_le (I.hok b o e).lt hD)
 have was:∀ b o,s.heap.get? b=some o→b≠D:=fun b o e=>Nat.ne_of_lt (Nat.lt_of_lt_of_le (Heap.lt_size e) hD)
 refine I.step (g':=s.gens) (d':=s.drawn) (ch:=[]) (fun _ z=>nomatch z) (fun b o nL hb _ e n=>keep b o nL e) (fun b o nL hb _ e n=>⟨o.slots,keep b o nL e⟩) (fun b o _ e n=>by rw[a0d (was b o e)];exact n) (fun b o _ e=>?_) (fun b _ e=>by rw[a0d (old b _ e)];exact e) (fun b _ _ e=>by rw[a0d (old b _ e)];exact e) (fun b ps e=>⟨#[],by rw[a0d (old b _ e)];simpa using e⟩) ns (fun b v q=>?_) I.bare
 ·by_cases z:b=X.env.locals
  ·obtain⟨m,hn,_⟩:=I.loc
   obtain⟨o',_,_,e',_⟩:=ns m hn
   exact⟨o',z ▸ e'⟩
  ·exact⟨o,keep b o z e⟩
 ·by_cases hb:b=D
  ·subst hb
   rw[a0b] at q
   cases q
   exact new
  ·rw[a0d hb] at q
   refine(I.hok b v q).stay (fun c v hc z=>keep c v (fun y=>?_) z) (fun c z=>by rw[a0d (old c _ z)];exact z) fun c _ z=>by rw[a0d (old c _ z)];exact z
   have fr:=I.free
   rcases hc with rfl | hc
   ·rw[←y,q] at fr;cases fr
   ·rw[←y,hc] at fr;cases fr
def f7x (K:PySem.W.Frag) (H:Hp) (f:Str) (v:V) (k:Int):Prop:=∃ a C dx fs,v=.ref a∧H a=some (.ins C dx fs)∧Cls K C∧a1w K C f∧fs.lookup f=some (.int k)
theorem e7y {X:Cx} {pins:List (Addr×Obj)} {σ:L2.St} {H:Hp} {s:Shared} {E:Value→Shared→Prop} {Q:Value→Shared→Prop} {l q:Addr} {xs:List V} {ks:List Int} {cdv:Value} {name qual fld:Str} {params:Arguments} {scope:Scope} {z:Str} {p2 sp:Pos} {pm ctv:Value} (I:Inv X pins σ H s)
  (hp:H l=some (.lst xs)) (h64:xs.length < 64) (hks:Paired (f7x X.K H fld) xs ks) (hroom:X.A.in1.in1.depth < recursionLimit)
  (hq:s.heap.get? q=some {cls:=.type "function",data:=.func (PySem.W.kla_fn name qual params (.Attribute (.Name z p2) fld sp) scope [] pm cdv ctv)}) (hsz:q+1=s.heap.objs.size) (hcd:s.heap.CodeRec cdv qual)
  (hco:scope.isCoroutine=false) (hgen:scope.isGenerator=false) (hk:scope.kind=.function) (hnc:∀ x∈scope.names,x.2≠.cell) (hz:scope.names.lookup z=some .local)
  (hbind:∀ u,bindArgs (PySem.W.kla_fn name qual params (.Attribute (.Name z p2) fld sp) scope [] pm cdv ctv) ⟨[u],[]⟩=pure [(z,u)])
  (d2:(z == ("__debug__":Str))=false) (hb:∀ env,attributeBase (.Name z p2) fld env (eval (.Name z p2) env)=eval (.Name z p2) env)
  (h:∀ D ys h' tk,H D=none→e3t ks xs ys→Inv X pins σ (upd H D (.lst ys)) {s with heap:=h',toks:=tk}→Q (.ref D) {s with heap:=h',toks:=tk}) :
  wpAny (model X.prog X.w) X.A (call (.builtin "sorted") [.ref l] [(Str.ofString "key",.ref q)]) Q E s:=by
 obtain⟨m,hns,_⟩:=id I.loc
 obtain⟨its,rv,plst,_⟩:=I.list (SqL.of hp)
 have hlen:its.length=xs.length:=rv.length.symm
 have hlk:ks.length=xs.length:=(b5x hks).symm
 have hqL:q≠X.env.locals:=fun y=>by
  obtain⟨o,es,ep,e1,e2,_⟩:=id hns
  rw[←y,hq] at e1
  cases e1
  cases e2
 refine ksk_sorted (h₀:={}) (L:=X.env.locals) (m:=m) (news:=e0t X.env.locals s.heap) (kz:=ks) (b:=false) (f:=.ref q) ⟨hns,(fun b o e=>by rw[b1a] at e;cases e),Nat.zero_le _⟩ (fun p hp=>let ⟨a,b⟩:=d6l hp;⟨b,a,b1a _⟩) plst.isList (by omega) (by omega) (ksk_s1 _ _) (fun x=>ksk_l1 _ _) (fun x=>ksk_t1 _ _) ?_ ?_
 ·intro i v k hv hk' h tk own F' N'
  have keep':∀ b o,b≠X.env.locals→s.heap.get? b=some o→h.get? b=some o:=fun b o n e=>(N' (b,o) (List.mem_append_left _ (b6v n e))).1
  have I4:=e6q (t':=tk) I keep' (fun m' hm=>e4m hns hm ▸ F'.ns)
  obtain⟨x,ex,rx⟩:=b5o rv hv
  obtain⟨k2,ek2,a,C,dx,fs,rfl,ea,c,n,lk⟩:=a3n hks ex
  rw[hk'] at ek2
  cases ek2
  obtain rfl:v=Value.ref a:=rx
  have hcd4:h.CodeRec cdv qual:=by
   obtain⟨cx,oc,cvs,tq,e1,e2,e3,e4⟩:=hcd
   refine⟨cx,oc,cvs,tq,e1,keep' _ _ (fun y=>?_) e2,e3,e4⟩
   obtain⟨o,es,ep,f1,f2,_⟩:=id hns
   rw[←y,e2] at f1
   cases f1
   rw[e3] at f2
   cases f2
  refine e9f hroom I4.nolimit (keep' q _ hqL hq) hcd4 hco hgen hk hnc hz (hbind _) d2 hb (fun h5 tk5 A5 E5 Q5 k5 f5=>?_)
  have I5:=I4.kept (h':=h5) (t':=tk5) k5
  obtain⟨mA,O,r,_,_,_⟩:=c2n I5.hok ea
  obtain⟨u,hu,ru⟩:=c5e.some_of (v:=.int k) (o:=mA fld) (by rw[←lk];exact r fld)
  refine e6z I5.kIn O (c.get fld) c.hd n hu (d5z ru) (f5 _ _ ?_)
  obtain⟨t,rfl⟩:=ru
  exact⟨h5,_,t,rfl,rfl,⟨F'.ns.keeps k5,(fun b o e=>by rw[b1a] at e;cases e),Nat.zero_le _⟩,fun p hp=>⟨k5 _ _ (N' p hp).1,(N' p hp).2⟩⟩
 ·intro D h' tk out c F' N' hD ko
  have keep':∀ b o,b≠X.env.locals→s.heap.get? b=some o→h'.get? b=some o:=fun b o n e=>(N' (b,o) (.tail _ (b6v n e))).1
  have hDs:s.heap.objs.size≤D:=by
   rw[←hsz]
   exact Nat.succ_le_of_lt (hD _ (b6v hqL hq))
  have hDo:=(N' _ (.head _)).1
  have hDn:H D=none:=by
   cases e:H D with
   | none=>rfl
   | some o=>exact absurd (I.hok D o e).lt (Nat.not_lt.mpr hDs)
  obtain⟨ps,pp,po,pw⟩:=ko
  obtain⟨qs,qp,qr⟩:=d6c pp (e1d (ks:=ks) rv)
  obtain⟨v1,v2⟩:=e0p qr
  refine h D (qs.map Prod.snd) h' tk hDn ⟨qs,qp,rfl,v2 (by simpa using pw)⟩ (d2j (t':=tk) I keep' (fun m' hm=>e4m hns hm ▸ F'.ns) hDs ⟨?_,out.toList,c,po ▸ v1,?_⟩)
  ·rw[List.length_map,qp.length_eq,List.length_zip,hlk,Nat.min_self,sizeLine_eq]
   omega
  ·rw[Array.toArray_toList]
   exact hDo
def f2a (c':Addr) (qual:Str):Heap→Prop:=fun h=>h.CodeRec (.ref c') qual
def Tb (P0:Addr) (lpos:Pos) (qual:Str) (H:Hp):Prop:=H P0=some (.tbl #[])∨∃ c',H P0=some (.tbl #[rawInt lpos.line,rawInt lpos.col,.ref c'])∧H c'=some (.ext (f2a c' qual))
theorem e5a {P:Program} {w:World} {H:Hp} {h:Heap} {c':Addr} {qual:Str} (x:h.CodeRec (.ref c') qual):a2f P w H h c' (.ext (f2a c' qual)):=by
 refine⟨x,?_,fun h1 h2 y k=>?_⟩
 ·obtain⟨cx,oc,cvs,tq,e1,e2,e3,e4⟩:=x
  cases e1
  exact⟨oc,e2⟩
 ·obtain⟨cx,oc,cvs,tq,e1,e2,e3,e4⟩:=y
  cases e1
  exact⟨c',oc,cvs,tq,rfl,k _ e2,e3,e4⟩
theorem e2j {X:Cx} {pins:List (Addr×Obj)} {σ:L2.St} {H:Hp} {s:Shared} {P c':Addr} {ps more:Array Value} {h':Heap} {t':Nat} {u:HO} (I:Inv X pins σ H s) (e:H P=some (.tbl ps)) (hx:Heap.ExtBut P s.heap h') (htb:h'.get? P=some {cls:=.none,data:=.fields (ps++more)})
  (hc:s.heap.objs.size≤c') (new:a2f X.prog X.w (upd (upd H P (.tbl (ps++more))) c' u) h' c' u) :
  Inv X pins σ (upd (upd H P (.tbl (ps++more))) c' u) {s with heap:=h',toks:=t'}:=by
 have ne:∀ b,H b=none→b≠P:=fun b q z=>by rw[z,e] at q;cases q
 have old:∀ b o,H b=some o→b≠c':=fun b o e=>Nat.ne_of_lt (Nat.lt_of_lt_of_le (I.hok b o e).lt hc)
 have was:∀ b o,s.heap.get? b=some o→b≠c':=fun b o e=>Nat.ne_of_lt (Nat.lt_of_lt_of_le (Heap.lt_size e) hc)
 refine I.un ⟨fun b o q n _ _=>hx b o (ne b n) q,fun b o q n _ _=>⟨o.slots,hx b o (ne b n) q⟩,fun b o q n _=>by rw[a0d (was b o q),a0d (ne b n)];exact n,fun b o q _=>?_,fun b xs q=>?_,fun b o u q=>?_,fun b ps' q=>?_⟩ fun b u q=>?_
 ·by_cases hb:b=P
  ·exact⟨_,hb ▸ htb⟩
  ·exact⟨o,hx b o hb q⟩
 ·rw[a0d (old b _ q),a0d fun z=>by rw[z,e] at q;cases q];exact q
 ·rw[a0d (old b _ q),a0d fun z=>by rw[z,e] at q;cases q];exact q
 ·rw[a0d (old b _ q)]
  by_cases hb:b=P
  ·subst hb
   rw[e] at q
   cases q
   exact⟨more,a0b⟩
  ·exact⟨#[],by rw[a0d hb,q];simp⟩
 ·by_cases h1:b=c'
  ·subst h1
   rw[a0b] at q
   cases q
   exact new
  ·rw[a0d h1] at q
   by_cases hb:b=P
   ·subst hb
    rw[a0b] at q
    cases q
    exact htb
   ·rw[a0d hb] at q
    refine(I.hok b u q).stay (fun c v hc z=>hx c v (fun y=>?_) z) (fun c z=>by rw[a0d (old c _ z),a0d fun y=>by rw[y,e] at z;cases z];exact z) fun c xs z=>by rw[a0d (old c _ z),a0d fun y=>by rw[y,e] at z;cases z];exact z
    rcases hc with rfl | hc
    ·exact hb y
    ·rw[y,e] at hc;cases hc
def f1j (K:PySem.W.Frag) (P0:Addr) (lpos:Pos) (qual fld:Str) (t:TA):TE:=fun σ H Q=>t σ H fun vs H1=>∃ (p:Addr) (xs:List V) (ks:List Int),vs=[V.ref p]∧H1 p=some (.lst xs)∧xs.length < 64∧Paired (f7x K H1 fld) xs ks∧Tb P0 lpos qual H1 ∧
 ∀ D ys H',H1 D=none→(∀ b o,b≠P0→H1 b=some o→H' b=some o)→Tb P0 lpos qual H'→H' D=some (.lst ys)→e3t ks xs ys→Q (.ref D) H'
theorem e3g {X:Cx} {e:Expr} {t:TA} {params:Arguments} {scope:Scope} {z fld:Str} {c P0:Addr} {p p2 sp lpos pos kpos:Pos} (hg:Gl X "sorted") (hm:X.mg "sorted"=none) (ha:PA X [e] t)
  (hcode:X.env.code=.ref c) (hC0:PySem.W.codeHdIn X.K c P0=true) (hB:X.base.BuiltinsAt X.mg P0) (hroom:X.A.in1.in1.depth < recursionLimit)
  (hcl:closureFor scope X.env=pure []) (hdef:defaultsOf params X.env=([],[]))
  (hco:scope.isCoroutine=false) (hgen:scope.isGenerator=false) (hk:scope.kind=.function) (hnc:∀ x∈scope.names,x.2≠.cell) (hz:scope.names.lookup z=some .local)
  (hbind:∀ (name qual:Str) (body:Expr) (cl:List (Str×Addr)) (pm cdv ctv u:Value),bindArgs (PySem.W.kla_fn name qual params body scope cl pm cdv ctv) ⟨[u],[]⟩=pure [(z,u)])
  (d2:(z == ("__debug__":Str))=false) (hb:∀ env,attributeBase (.Name z p2) fld env (eval (.Name z p2) env)=eval (.Name z p2) env)
  (he:backTo pos (starEach [e] X.env)=(false,eval e X.env)::backTo pos (starEach [] X.env):=by rfl) (hpl:(backTo pos (starEach [e] X.env)).any (·.1)=false:=by rfl) :
  PE X (.Call (.Name "sorted" p) [e] [⟨some "key",.Lambda params (.Attribute (.Name z p2) fld sp) scope lpos,kpos⟩] pos) (f1j X.K P0 lpos (X.env.qual++"<lambda>") fld t):=by
 constructor;intro pins s σ H Q I h
 refine wpAny_Call_Name_kw (c9z I hg hm boot_sorted ?_ (by decide) (by decide))
 refine callWith_kw (thn (ha pos pins s σ H _ I h) fun us s1 ⟨vs,H1,I1,r1,q1⟩=>?_) he hpl
 obtain⟨pl,xs,ks,rfl,hp,h64,hks,hT,q⟩:=q1
 obtain⟨u,rfl,ru⟩:=c6m r1
 cases ru
 show wpAny _ _ (evalAll ((do let v ← eval (.Lambda params (.Attribute (.Name z p2) fld sp) scope lpos) X.env;standAt pos;pure v)::[])) _ _ s1
 have hC:=PySem.W.codeHd_of_K I1.mod.kin hC0
 have hgl:=I1.mod.glob.keeps I1.bk
 have hb1:s1.heap.BuiltinsAt X.mg P0:=by
  obtain⟨bm,o,b1,b2,b3,b4,b5,b6⟩:=hB
  exact⟨bm,o,b1,b2,b3,b4,I1.bk _ _ b5,b6⟩
 have rest:∀ (E':Value→Shared→Prop) (h':Heap) (tk:Nat) (H3:Hp) (c':Addr) (pm ctv:Value),Inv X pins σ H3 {s1 with heap:=h',toks:=tk}→h'.CodeRec (.ref c') (X.env.qual++"<lambda>")→(∀ b o,b≠P0→H1 b=some o→H3 b=some o)→Tb P0 lpos (X.env.qual++"<lambda>") H3 →
   wpAny (model X.prog X.w) X.A (call (.builtin "sorted") [.ref pl] [(Str.ofString "key",.ref h'.objs.size)]) (fun v s'=>∃ x H',Inv X pins σ H' s'∧a2u x v∧Q x H') E' {s1 with heap:=h'.push {cls:=.type "function",data:=.func (PySem.W.kla_fn "<lambda>" (X.env.qual++"<lambda>") params (.Attribute (.Name z p2) fld sp) scope [] pm (.ref c') ctv)},toks:=tk}:=by
  intro E' h' tk H3 c' pm ctv I2 hrec k3 hT3
  have I3:=I2.kept (t':=tk) (h':=h'.push {cls:=.type "function",data:=.func (PySem.W.kla_fn "<lambda>" (X.env.qual++"<lambda>") params (.Attribute (.Name z p2) fld sp) scope [] pm (.ref c') ctv)}) fun b o q=>Heap.get?_push_of_some _ q
  have np:pl≠P0:=fun y=>by rcases hT with e | ⟨_,e,_⟩<;>(rw[←y,hp] at e;cases e)
  refine e7y (ks:=ks) I3 (k3 _ _ np hp) h64 (b1v (fun v k ⟨a,C,dx,fs,e1,e2,e3⟩=>⟨a,C,dx,fs,e1,k3 _ _ (fun y=>by rcases hT with e | ⟨_,e,_⟩<;>(rw[←y,e2] at e;cases e)) e2,e3⟩) hks) hroom (Heap.get?_push_size _ rfl) (by rw[size_push']) ?_ hco hgen hk hnc hz (hbind _ _ _ _ _ _ _) d2 hb fun D ys h5 tk5 hD bk I5=>?_
  ·obtain⟨cx,oc,cvs,tq,e1,e2,e3,e4⟩:=hrec
   exact⟨cx,oc,cvs,tq,e1,Heap.get?_push_of_some _ e2,e3,e4⟩
  ·have nD:D≠P0:=fun y=>by rcases hT3 with e | ⟨_,e,_⟩<;>(rw[←y,hD] at e;cases e)
   have sm:∀ b o,H3 b=some o→upd H3 D (.lst ys) b=some o:=fun b o e=>by rw[a0d fun y=>by rw[y,hD] at e;cases e];exact e
   refine⟨.ref D,_,I5,rfl,q D ys _ ?_ (fun b o n e=>sm _ _ (k3 _ _ n e)) (hT3.imp (sm _ _) fun ⟨c2,e1,e2⟩=>⟨c2,sm _ _ e1,sm _ _ e2⟩) a0b bk⟩
   cases e:H1 D with
   | none=>rfl
   | some o=>rw[k3 _ _ nD e] at hD;cases hD
 rcases hT with hT | ⟨c',hT,hTc⟩
 ·have hT1:s1.heap.get? P0=some (PySem.W.tabObj #[]):=I1.hok P0 _ hT
  have hgP:mainGlobals≠P0:=fun z=>by
   obtain⟨o,es,ep,e1,e2,_⟩:=hgl
   rw[z,hT1] at e1
   cases e1
   cases e2
  refine wpAny_evalAll_cons (wpAny_bind (PySem.W.kla_eval hdef (PySem.W.kla_makeFunction (mg:=X.mg) hcl I1.ok.glob hgl hcode (hC.keeps I1.bk) hT1 trivial rfl hgP hb1 fun c' ctv h' tk hx hge hlt hrec htb=>wpAny_bind (wpAny_standAt (wpAny_pure ?_)))))
  refine wpAny_evalAll_nil ?_
  show wpAny _ _ (call (.builtin "sorted") [.ref pl] [(Str.ofString "key",.ref h'.objs.size)]) _ _ _
  have I2:=e2j (t':=tk) I1 hT hx htb hge (e5a hrec)
  have nP:P0≠c':=Nat.ne_of_lt (Nat.lt_of_lt_of_le (Heap.lt_size hT1) hge)
  refine rest _ h' tk _ c' _ ctv I2 hrec (fun b o n e=>?_) (.inr ⟨c',?_,a0b⟩)
  ·rw[a0d (Nat.ne_of_lt (Nat.lt_of_lt_of_le (I1.hok b o e).lt hge)),a0d n]
   exact e
  ·rw[a0d nP,a0b]
   simp
 ·have hT1:s1.heap.get? P0=some (PySem.W.tabObj #[rawInt lpos.line,rawInt lpos.col,.ref c']):=I1.hok P0 _ hT
  have hrec:s1.heap.CodeRec (.ref c') (X.env.qual++"<lambda>"):=(I1.hok c' _ hTc).1
  refine wpAny_evalAll_cons (wpAny_bind (PySem.W.kla_eval hdef (PySem.W.kla_makeFunctionHit (mg:=X.mg) (cv:=.ref c') hcl I1.ok.glob hgl hcode (hC.keeps I1.bk) hT1 trivial (by simp[codeAmong,rawInt]) hb1 fun ctv h' tk hx hge=>wpAny_bind (wpAny_standAt (wpAny_pure ?_)))))
  refine wpAny_evalAll_nil ?_
  show wpAny _ _ (call (.builtin "sorted") [.ref pl] [(Str.ofString "key",.ref h'.objs.size)]) _ _ _
  refine rest _ h' tk H1 c' _ ctv (I1.kept hx) ?_ (fun _ _ _ e=>e) (.inr ⟨c',hT,hTc⟩)
  obtain⟨cx,oc,cvs,tq,e1,e2,e3,e4⟩:=hrec
  exact⟨cx,oc,cvs,tq,e1,hx _ _ e2,e3,e4⟩
theorem d7r {X:Cx}:b7y X (.builtin "sorted") (fun xs H Q=>∃ (a:Addr) (ks:List Int),xs=[V.ref a]∧H a=some (.lst (ks.map V.int))∧ks.length < 64∧∀ p,H p=none→Q (.ref p) (upd H p (.lst ((b0p ks).map V.int)))):=by
 intro pins s σ H xs us Q I r h
 obtain⟨a,ks,rfl,e,h64,q⟩:=h
 obtain⟨u,rfl,ru⟩:=c6m r
 cases ru
 obtain⟨m,hns,_⟩:=id I.loc
 obtain⟨its,rv,plst,_⟩:=I.list (SqL.of e)
 have hlen:its.length=ks.length:=by rw[←rv.length,List.length_map]
 have hI:IntsAre its ks:=intsAre_of hlen fun j v ev=>by
  obtain⟨x,ex,rx⟩:=b5o rv ev
  rw[List.getElem?_map] at ex
  obtain⟨n,en,rfl⟩:=Option.map_eq_some_iff.mp ex
  obtain⟨tn,rfl⟩:=rx
  exact⟨n,tn,en,rfl⟩
 refine sorted_N (h₀:={}) (L:=X.env.locals) (m:=m) (news:=e0t X.env.locals s.heap) ⟨hns,(fun b o e=>by rw[b1a] at e;cases e),Nat.zero_le _⟩ (fun p hp=>let ⟨a,b⟩:=d6l hp;⟨b,a,b1a _⟩) plst.isList hI (by omega) fun h' vs' ns' ep F' N' a1 a2 a3=>?_
 have keep':∀ b o,b≠X.env.locals→s.heap.get? b=some o→h'.get? b=some o:=fun b o n e=>(N' (b,o) (.tail _ (b6v n e))).1
 have en:=d4a a2 a3
 subst en
 have I2:=d2j (t':=s.toks) (D:=s.heap.objs.size+1) (u:=.lst ((b0p ks).map V.int)) I keep' (fun m' hm=>e4m hns hm ▸ F'.ns) (Nat.le_succ _) ⟨by rw[List.length_map,(a5m ks).length_eq,sizeLine_eq];omega,vs',ep,c0b a1,(N' _ (.head _)).1⟩
 exact⟨.ref _,_,I2,rfl,q _ (I.hok.fresh (Nat.le_succ _))⟩
end My
namespace My
open PySem PyProof.Rows
def kf (p:Keyed):Int:=numOf p.1
structure Sb (a₀:Array Keyed) (pd:Array (Nat×Nat×Nat)) (lo:Nat) (xs:Array Keyed) (st:SortSt):Prop where
 perm:(arrOf st).Perm a₀
 kind:kindOf st=oneType'
 fail:failedOf st=none
 pend:pendingOf st=pd
 low:∀ k,k < lo→(arrOf st)[k]?=xs[k]?
section
variable {prog:Program} {w:World} {s:Shared} {A:Around} {E:Value→Shared→Prop} {a₀ xs:Array Keyed} {pd:Array (Nat×Nat×Nat)} {lo:Nat} {st:SortSt}
theorem Sb.size (h:Sb a₀ pd lo xs st):(arrOf st).size=a₀.size:=h.perm.size_eq
end
end My
namespace My
open PySem PySem.Spec PyProof.Rows L2
section
variable {X:Cx}
theorem f0z (hu:X.A.units+64 < cLine):OpR X (compareOp .NotEq) (fun x y H Q=>∃ (a b:Addr) (xs:List V),x=.ref a∧y=.ref b∧SqL X.K H a xs∧SqL X.K H b []∧Q (.bl (!xs.isEmpty)) H):=by
 intro pins s σ H x y v u Q I rx ry h
 obtain⟨a,b,xs,rfl,rfl,ha,hb,q⟩:=h
 cases xs with
 | nil=>exact f7a hu pins s σ H (.ref a) (.ref b) v u Q I rx ry ⟨_,_,.lst ha .nil,.lst hb .nil,rfl,rfl,q⟩
 | cons w r =>
  cases rx
  cases ry
  obtain⟨its,rv,⟨o,n,e,c,d0,dd⟩,_⟩:=I.list ha
  obtain⟨jts,rw',⟨o2,n2,e2,c2,d2,dd2⟩,_⟩:=I.list hb
  cases rw'
  have hne:(its.toArray.size != (#[]:Array Value).size)=true:=by
   cases rv
   simp
  exact PySem.SeqAt.RcNeAt.lists_lengths ⟨_,e,c,n,dd⟩ ⟨_,e2,c2,n2,dd2⟩ hne (Nat.lt_of_le_of_lt (Nat.le_add_right _ _) hu) _ _ _ _ ⟨.bl true,H,I,rfl,q⟩
end
end My
namespace My
open PySem PySem.Spec PyProof.Rows L2
section
variable {M:Model} {A:Around} {E:Value→Shared→Prop} {s:Shared} {B:Heap} {l:List Env} {env:Env} {ea L:Addr} {cls a0:Value}
theorem c8g {α:Type} {what:String} {Q:α→Shared→Prop} (hf:env.frame=some L) (h:Heap.HeldW B l ea cls a0 L s.heap) (hE:E (.ref ea) s):wpAny M A (PySem.passOn what (.ref ea) env) Q E s:=by
 obtain⟨_,_,_,oe,vs,T,oT,ts,he,hcls,hd,h1,hnT,hTe,hT,hdT,h3⟩:=h
 unfold PySem.passOn
 refine wpAny_bind (wpAny_field he hd h1 ?_)
 rw[if_neg (show ¬ ((Value.ref T == Value.none)=true) from by simp)]
 have step:wpAny M A (setFlight (.ref ea) env.frame>>=fun _=>(throw (.ref ea):Sem α)) Q E s:=by
  rw[hf]
  unfold setFlight
  refine wpAny_bind (wpAny_bind (wpAny_field he hd h1 ?_))
  rw[if_pos (show (Value.ref T != Value.none)=true from by simp)]
  refine wpAny_setField hT hdT (Array.getElem?_eq_some_iff.mp h3).1 ?_
  show wpAny M A (throw (.ref ea)) Q E {s with heap:=s.heap.update T (Obj.mapFields (·.setIfInBounds 3 (rawInt L)))}
  rw[Heap.update_setField_same s.heap T oT ts 3 (rawInt L) hT hdT h3]
  exact wpAny_throw hE
 first
  | exact wpAny_bind (wpAny_pure step)
  | exact step
theorem f0h {C:Addr} {h h':Heap} {m:Str→Option Value} (x:Heap.HeldW B l ea cls a0 L h) (k:Heap.SameBut C h h') (hn:h.Ns C m) (hC:C ∉ frs l):Heap.HeldW (PySem.W.hideAll B [C]) l ea cls a0 L h':=by
 obtain⟨hkb,hb,hl,oe,vs,T,oT,ts,he,hcls,hd,h1,hnT,hTe,hT,hdT,h3⟩:=x
 obtain⟨oc,es,nc,hoc,hdc,_⟩:=hn
 have nfC:∀ b o (vs:Array Value),h.get? b=some o→o.data=.fields vs→b≠C:=fun b o vs e q z=>by
  rw[z,hoc] at e;cases e;rw[hdc] at q;cases q
 have hid:∀ b o,(PySem.W.hideAll B [C]).get? b=some o→B.get? b=some o∧b≠C:=fun b o e=>⟨PySem.W.of_hideAll _ e,fun z=>by
  rw[z,PySem.W.hideAll_none _ (List.mem_cons_self)] at e;cases e⟩
 have nn:∀ b,B.get? b=none→(PySem.W.hideAll B [C]).get? b=none:=fun b e=>by
  cases q:(PySem.W.hideAll B [C]).get? b with
  | none=>rfl
  | some o=>rw[(hid b o q).1] at e;cases e
 refine⟨fun b o e=>(k.2 b (hid b o e).2).trans (hkb b o (hid b o e).1),nn _ hb,?_,oe,vs,T,oT,ts,(k.2 _ (nfC _ _ _ he hd)).trans he,hcls,hd,h1,nn _ hnT,hTe,(k.2 _ (nfC _ _ _ hT hdT)).trans hT,hdT,h3⟩
 have key:∀ l:List Env,h.FunFrames B l→C ∉ frs l→h'.FunFrames (PySem.W.hideAll B [C]) l:=by
  intro l
  induction l with
  | nil=>intro _ _;trivial
  | cons env r ih =>
   rintro⟨z,⟨Lf,o,hf,hn,ho,hd⟩,hr⟩ hC
   have e:frs (env::r)=Lf::frs r:=by unfold frs;rw[List.filterMap_cons,hf]
   rw[e] at hC
   exact⟨z,⟨Lf,o,hf,nn _ hn,(k.2 _ fun q=>hC (q ▸ List.mem_cons_self)).trans ho,hd⟩,ih hr fun q=>hC (List.mem_cons_of_mem _ q)⟩
 exact key l hl hC
end
theorem e2q {prog:Program} {w:World} {A:Around} {s:Shared} {R:Result→Shared→Prop} {elt target iter:Expr} {scope:Scope} {pos:Pos} {it acc:Value} {env:Env} (I:Nat→Shared→Prop)
  (turn:∀ n s,I n s→wpAny (model prog w) A (pyNext it) (fun r s1=>(r=none∧R (.ok .next) s1)∨∃ v,r=some v∧wpAny (model prog w) A (letOwnedTupleGo target it v) (fun _ s2=>wpAny (model prog w) A (assign target env v) (fun _ s3 =>
   wpAny (model prog w) A (eval elt env) (fun x s4=>wpAny (model prog w) A (call (.builtin "list.append") [acc,x]) (fun _ s5=>∃ m,m < n∧I m s5) (fun _ _=>False) s4) (notedBy (model prog w) A env fun e s'=>R (.error e) s') s3) (fun _ _=>False) s2) (fun _ _=>False) s1) (fun _ _=>False) s)
  (n:Nat) (h:I n s):codeAny (model prog w) A (.compLoop (.ListComp elt [⟨target,iter,[],0⟩] scope pos) 0 it acc env) R s:=by
 have no:∀ {α:Type} {E:Value→Shared→Prop} {t:Sem α} {Q:α→Shared→Prop} {u:Shared},wpAny (model prog w) A t Q (fun _ _=>False) u→wpAny (model prog w) A t Q E u:=fun z=>wpAny_mono z (fun _ _ q=>q) fun _ _ q=>q.elim
 refine codeAny_loop rfl I (fun n s hI=>wpAny_noted ?_) n h
 rw[compTurn_list1]
 refine wpAny_bind (wpAny_standAt (wpAny_bind (wpAny_mono (turn n s hI) (fun r s1 q=>?_) fun _ _ z=>z.elim)))
 rcases q with ⟨rfl,q⟩ | ⟨v,rfl,q⟩
 ·exact wpAny_pure q
 ·exact wpAny_bind (no (thn q fun _ s2 q2=>wpAny_bind (no (thn q2 fun _ s3 q3=>wpAny_bind (wpAny_bind (thn q3 fun x s4 q4=>wpAny_bind (no (thn q4 fun _ s5 q5=>wpAny_pure (wpAny_pure ⟨rfl,q5⟩)))))))))
def XE (X:Cx) (scope:Scope) (N:List Str) (C:Addr) (s₀:Shared) (H₀:Hp) (ex:List Addr) (E1:XK):Value→Shared→Prop:=fun e s'=>∃ (pins:List (Addr×Obj)) (σ:L2.St) (H:Hp) (s:Shared),Inv (a8e X scope N C s₀ H₀ ex) pins σ H s∧CXW X.prog X.w X.stack H s E1 e s'
abbrev d8t (X:Cx) (scope:Scope) (N:List Str) (E1:XK) (C:Addr) (s₀:Shared) (H₀:Hp) (ex:List Addr):Cx:=(a8e X scope N C s₀ H₀ ex).wish (XE X scope N C s₀ H₀ ex E1)
theorem g0i {X:Cx} {scope:Scope} {N:List Str} {C:Addr} {s₀:Shared} {H₀:Hp} {ex:List Addr} {E1:XK}:b3z (CXW X.prog X.w) (d8t X scope N E1 C s₀ H₀ ex) E1:=fun pins σ H s _ _ I h=>⟨pins,σ,H,s,I.unwish,h⟩
def c6x (X:Cx) (fp:List Addr) (H:Hp) (s:Shared) (C:Option Addr) (E1:XK):Value→Shared→Prop:=fun e s'=>∃ (ea:Addr) (cls a0:Value) (B:Heap) (H':Hp) (d:Option Addr),e=.ref ea∧s'.os=s.os∧AllBare s'.gens∧Un (frs X.stack) fp H H' s.heap s'.heap∧HOk X.prog X.w H' s'.heap∧Heap.HeldW B X.stack ea cls a0 X.env.locals s'.heap ∧
 (∀ b o,s'.heap.get? b=some o→((s.heap.get? b≠none∧b ∉ fp)∨H' b≠none)→b ∉ frs X.stack→B.get? b=some o)∧H' ea=none∧(s.heap.get? ea=none∨ea∈fp)∧(∃ o,s'.heap.get? ea=some o∧o.dict=d∧(f5h o=some .none∨∀ d',E1 cls d' H'))∧(∀ c,C=some c→H' c=none∧∃ m,s'.heap.Ns c m)∧E1 cls d H'
section
variable {X:Cx} {pins:List (Addr×Obj)} {σ:L2.St} {H:Hp} {s:Shared} {scope:Scope} {N:List Str} {target iter elt:Expr} {pos:Pos} {g:TG} {te:TE} {E1:XK} {C:Addr} {ex:List Addr}
theorem f1m {R:Value→Shared→Prop} (I:Inv X pins σ H s) (hst:X.stack=X.env::X.outer) (hfr:X.env.frame=some X.env.locals) (hR:∀ e s',c6x X ex H s (some C) E1 e s'→R e s') :
  ∀ e s',XE X scope N C s H ex E1 e s'→notedBy (model X.prog X.w) X.A (compEnvC scope [] C X.env) R e s':=by
 intro e s' h
 obtain⟨pins',σ',HY,sY,IY,ea,cls,a0,B,H',d,rfl,os,bare,un,hok,fl,bk,n1,n2,⟨o0,ho0,hd0⟩,hE⟩:=h
 have fl':=fl
 rw[hst] at fl'
 have hfnn:∀ b∈frs X.stack,∃ o,s'.heap.get? b=some o∧∀ vs,o.data≠.fields vs:=fun b hb=>(fl.2.2.1.mem hb).2
 show wpAny _ _ (noteFrame (.ref ea) X.env) _ _ s'
 refine wpAny_mono (a5o (a7b _ _) (wpAny_looks_onW (Q:=fun _ s''=>∃ h4,s''={s' with heap:=h4}∧Heap.HeldW B (X.env::X.outer) ea cls a0 X.env.locals h4∧s'.heap.UpToSlots h4) (by rw[I.ok.frames,hst]) hfr fl' fun h4 x1 x2=>⟨h4,rfl,x1,x2⟩)) (fun _ s'' ⟨⟨h4,e4,held,sm4⟩,dk4⟩=>?_) fun _ _ z=>z.1
 subst e4
 obtain⟨un4,hok4,bk4,_⟩:=e4x IY un hok bk held.1 sm4 hfnn
 have IY4:Inv (a8e X scope N C s H ex) pins' σ' H' {s' with heap:=h4}:=IY.call' (s':={s' with heap:=h4}) os un4 hok4 bare (fun b z=>absurd z (by simp))
 obtain⟨m,hn,_⟩:=IY4.loc
 obtain⟨o4,ho4,hd4⟩:=dk4 ea o0 ho0
 rw[←hst] at held
 have bkX:∀ b o,h4.get? b=some o→((s.heap.get? b≠none∧b ∉ ex)∨H' b≠none)→b ∉ frs X.stack→B.get? b=some o:=fun b o e k n=>by
  refine bk4 b o e ?_ n
  rcases k with ⟨k,nx⟩ | k
  ·left
   cases q:s.heap.get? b with
   | none=>exact(k q).elim
   | some u =>
    obtain⟨u',e'⟩:=IY.base.there b u q nx
    rw[e'];simp
  ·exact .inr k
 have new:s.heap.get? ea=none∨ea∈ex:=by
  by_cases hx:ea∈ex
  ·exact .inr hx
  ·left
   cases q:s.heap.get? ea with
   | none=>rfl
   | some u =>
    obtain⟨u',e'⟩:=IY.base.there ea u q hx
    rw[n2] at e';cases e'
 exact hR _ _ ⟨ea,cls,a0,B,H',d,rfl,IY4.os,IY4.bare,IY4.base,IY4.hok,held,bkX,n1,new,⟨o4,ho4,hd4.1.trans hd0.1,hd0.2.imp (fun q=>hd4.2.trans q) id⟩,fun c z=>by cases z;exact⟨IY4.free,m,hn⟩,hE⟩
theorem c6x.gone {e:Value} {s':Shared} {h':Heap} (I:Inv X pins σ H s) (x:c6x X ex H s (some C) E1 e s') (hC:s.heap.objs.size≤C) (k:Heap.SameBut C s'.heap h'):c6x X ex H s none E1 e {s' with heap:=h'}:=by
 obtain⟨ea,cls,a0,B,H',d,rfl,os,bare,un,hok,held,bk,n1,new,⟨o0,ho0,hd0⟩,hc,hE⟩:=x
 obtain⟨nC,m,hn⟩:=hc C rfl
 have neS:∀ b o,s.heap.get? b=some o→b≠C:=fun b o e=>Nat.ne_of_lt (Nat.lt_of_lt_of_le (Heap.lt_size e) hC)
 have hCf:C ∉ frs X.stack:=fun z=>by obtain⟨o,e⟩:=d8c I C z;exact neS C o e rfl
 have neH:∀ b,H' b≠none→b≠C:=fun b e z=>e (z ▸ nC)
 have ned:∀ b o (vs:Array Value),s'.heap.get? b=some o→o.data=.fields vs→b≠C:=fun b o vs e q z=>by
  obtain⟨oc,es,nc,hoc,hdc,_⟩:=hn
  rw[z,hoc] at e;cases e;rw[hdc] at q;cases q
 have nea:ea≠C:=by
  obtain⟨_,_,_,oe,vs,T,oT,ts,he,hcls,hd,_⟩:=held
  exact ned ea oe vs he hd
 refine⟨ea,cls,a0,_,H',d,rfl,os,bare,⟨fun b o e n hb hx=>(k.2 b (neS b o e)).trans (un.keep b o e n hb hx),fun b o e n hb hx=>?_,un.free,fun b o e hx=>?_,un.tups,un.frzs,un.tbls⟩,fun b o e=>?_,f0h held k hn hCf,fun b o e q nb=>?_,n1,new,⟨o0,(k.2 ea nea).trans ho0,hd0⟩,fun c z=>(by cases z),hE⟩
 ·obtain⟨sl,e1⟩:=un.slot b o e n hb hx
  exact⟨sl,(k.2 b (neS b o e)).trans e1⟩
 ·obtain⟨o',e1⟩:=un.there b o e hx
  exact⟨o',(k.2 b (neS b o e)).trans e1⟩
 ·refine(hok b o e).stay (fun c u hc q=>(k.2 c ?_).trans q) (fun _ q=>q) fun _ _ q=>q
  rcases hc with z | z
  ·exact neH c (by rw[z,e];simp)
  ·exact neH c (by rw[z];simp)
 ·have nb2:b≠C:=by
   rcases q with ⟨q,_⟩ | q
   ·cases z:s.heap.get? b with
    | none=>exact(q z).elim
    | some u=>exact neS b u z
   ·exact neH b q
  exact PySem.W.hideAll_get _ (bk b o ((k.2 b nb2).symm.trans e) q nb) (by simpa using nb2)
theorem d8v {E:Value→Shared→Prop} {J:It} {fp:List Addr} {it:Addr} {tn:Nat→Heap→Prop} {Q:VK} {RR:Value→Env→Result→Shared→Prop} (I:Inv X pins σ H s) (hc:X.calm=true) (hst:X.stack=X.env::X.outer) (hfr:X.env.frame=some X.env.locals)
  (hfree:∀ q∈scope.names,q.2≠.free) (hcell:∀ q∈scope.names,q.2≠.cell) (hkind:scope.kind=.function) (T:f1l X.prog X.w X.K target J fp it tn) (st:tn 0 s.heap) (hf:∀ b∈fp,c4p X pins H b)
  (hg:∀ C s₀ H₀ ex,PG (a8e X scope N C s₀ H₀ ex) target g) (he:∀ C s₀ H₀ ex,PE (d8t X scope N E1 C s₀ H₀ ex) elt te) (q:f4r N J g te Q H)
  (hRR:∀ D C H' s' m cenv,cenv.locals=C→cenv.frame=X.env.frame→s'.os=s.os→AllBare s'.gens→Un (frs X.stack) fp H H' s.heap s'.heap→HOk X.prog X.w H' s'.heap→s'.heap.Ns C m→H' C=none→s.heap.objs.size≤C→Q (.ref D) H'→RR (.ref D) cenv (.ok .next) s')
  (hRE:∀ D C e s' cenv,cenv.locals=C→cenv.frame=X.env.frame→s.heap.objs.size≤C→c6x X fp H s (some C) E1 e s'→RR (.ref D) cenv (.error e) s') :
  wpAny (model X.prog X.w) X.A (newList []) (fun acc s3=>wpAny (model X.prog X.w) X.A (newFunctionEnv scope X.env.globals [] [] X.env.qual none .none (some X.env)) (fun cenv s4 =>
   codeAny (model X.prog X.w) X.A (.compStart (.ListComp elt [⟨target,iter,[],0⟩] scope pos) 0 (.ref it) acc {cenv with scope:=relabel scope X.env}) (RR acc cenv) s4) E s3) E s:=by
 refine wpAny_newObj_type (wpAny_newFunctionEnv hcell (by intro y hy;simp at hy) (fun h1 hn k1=>?_) hkind)
 dsimp only at hn k1 ⊢
 generalize hg2:s.heap.push {cls:=.type "list",dict:=none,data:=.seq ([]:List Value).toArray}=g2 at hn k1 ⊢
 have hC:g2.objs.size=s.heap.objs.size+1:=by rw[←hg2,Heap.size_push]
 have hDC:s.heap.objs.size≠g2.objs.size:=by rw[hC];exact Nat.ne_of_lt (Nat.lt_succ_self _)
 have hle:s.heap.objs.size≤g2.objs.size:=by rw[hC];exact Nat.le_succ _
 have nD:s.heap.get? s.heap.objs.size=none:=Heap.get?_none_of_le (Nat.le_refl _)
 have nC:s.heap.get? g2.objs.size=none:=Heap.get?_none_of_le hle
 have old:∀ b o,s.heap.get? b=some o→h1.get? b=some o:=fun b o e=>k1.extBut b o (Nat.ne_of_lt (Nat.lt_of_lt_of_le (Heap.lt_size e) hle)) (Heap.get?_push_of_some _ (hg2 ▸ Heap.get?_push_of_some _ e))
 have hl:h1.get? s.heap.objs.size=some {cls:=.type "list",data:=.seq #[]}:=k1.extBut _ _ hDC (Heap.get?_push_of_some _ (hg2 ▸ Heap.get?_push_size _ rfl))
 have ob:=T.obj 0 s.heap st
 have ok:(a8e X scope N g2.objs.size s H fp).Ok:=f4b I hfree hcell hkind hle hf fun b hb=>let ⟨o,e,_⟩:=ob b hb;⟨o,e⟩
 have I0:Inv (a8e X scope N g2.objs.size s H fp) [] (List.replicate N.length none) (upd H s.heap.objs.size (.lst [])) {s with heap:=h1,toks:=s.toks+([]:List (Str×Value)).length}:=e3h I ok old nD nC hDC hl hn
 have st1:tn 0 h1:=T.keep 0 _ _ st fun b _ o e=>old b o e
 obtain⟨W,⟨m0,w0⟩,turn⟩:=q _ (a4r I nD)
 have fpok:∀ {H':Hp} {ps:List (Addr×Obj)},(∀ p∈ps,p.1 ∉ fp)→(∀ b∈fp,H' b=none)→∀ b∈fp,c4p (a8e X scope N g2.objs.size s H fp) ps H' b:=fun hps hn b hb=>⟨hn b hb,(ok.exf b hb).1,ok.exfs b hb,.inl hb,fun x c e=>(by cases e),fun p hp z=>hps p hp (z ▸ hb)⟩
 have loop:∀ cv:Env,cv.locals=g2.objs.size→cv.frame=X.env.frame→codeAny (model X.prog X.w) X.A (.compLoop (.ListComp elt [⟨target,iter,[],0⟩] scope pos) 0 (.ref it) (.ref s.heap.objs.size) (compEnvC scope [] g2.objs.size X.env)) (RR (.ref s.heap.objs.size) cv) {s with heap:=h1,toks:=s.toks+([]:List (Str×Value)).length}:=by
  intro cv c1 c2
  refine e2q (fun n s'=>∃ i ys τ H',Inv (a8e X scope N g2.objs.size s H fp) [] τ H' s'∧tn i s'.heap∧(∀ b∈fp,H' b=none)∧W i n ys τ H') (fun n s' hI=>?_) m0 ⟨0,[],_,_,I0,st1,fun b hb=>?_,w0⟩
  ·obtain⟨i,ys,τ,H',I1,t1,f1,w1⟩:=hI
   obtain⟨hD,w1⟩:=turn i n ys τ H' w1
   rcases w1 with ⟨stop,qn⟩ | ⟨go,hz,step⟩
   ·refine thn (T.done (a8e X scope N g2.objs.size s H fp) rfl rfl rfl hc i [] s' τ H' _ I1 (fpok (by simp) f1) t1 stop) fun r s2 ⟨hr,I2⟩=>.inl ⟨hr,?_⟩
    obtain⟨m,hn2,_⟩:=I2.loc
    exact hRR _ _ H' s2 m cv c1 c2 I2.os I2.bare I2.base I2.hok hn2 I2.free hle qn
   ·refine thn (T.item (a8e X scope N g2.objs.size s H fp) rfl rfl rfl hc i [] s' τ H' _ I1 (fpok (by simp) f1) t1 go) fun r s2 ⟨u,hr,h2⟩=>.inr ⟨u,hr,thn h2 fun _ s3 ⟨x,H3,I3,r3,y3,t3,f3⟩=>?_⟩
    have I3':=I3.pinned (fpok (by simp) f3) (T.obj _ _ t3)
    refine thn ((hg _ _ _ _) _ s3 τ H3 x u _ I3' r3 (step x H3 y3)) fun _ s4 ⟨τ4,H4,I4,q4⟩=>?_
    refine wpAny_mono ((he _ _ _ _) _ s4 τ4 H4 _ (I4.wish _) q4) (fun z s5 ⟨y,H5,I5w,r5,hD5,m',hm,w5⟩=>?_) (f1m I hst hfr fun e s' h=>hRE _ _ e s' cv c1 c2 hle h)
    have I5:=I5w.unwish
    refine thn (b5q _ s5 τ4 H5 (.ref s.heap.objs.size) [y] (.ref s.heap.objs.size) [z] (fun _ H6=>H6=upd H5 s.heap.objs.size (.lst (ys++[y]))) I5 rfl (.cons r5 .nil) ⟨_,ys,y,rfl,rfl,hD5,hz,rfl⟩) fun _ s6 ⟨v6,H6,I6,_,e6⟩=>?_
    subst e6
    refine⟨m',hm,i+1,_,τ4,_,I6.unpinned,T.keep _ _ _ t3 fun b hb o e=>(I6.pin (b,o) (List.mem_append_right _ (List.mem_append_right _ (a5p hb e)))).1,fun b hb=>?_,w5⟩
    obtain⟨o,e,_⟩:=T.obj _ _ t3 b hb
    exact(I6.pin (b,o) (List.mem_append_right _ (List.mem_append_right _ (a5p hb e)))).2.1
  ·obtain⟨o,e,_⟩:=ob b hb
   rw[a0d (Nat.ne_of_lt (Heap.lt_size e))]
   exact(hf b hb).1
 exact codeAny_compStart_list (loop _ rfl rfl) (T.self _ 0 _ _ _ st1 (loop _ rfl rfl))
end
end My
namespace My
open PySem PySem.Spec PyProof.Rows L2
section
variable {X:Cx} {pins:List (Addr×Obj)} {σ:L2.St} {H H':Hp} {s:Shared} {fp:List Addr} {B h1 h2:Heap} {ea:Addr}
theorem f1g (I:Inv X pins σ H s) (hf:∀ b∈fp,c4p X pins H b):∀ b∈frs X.stack,b ∉ fp:=fun b hm hb=>by
 obtain⟨_,q1,q2,_⟩:=hf b hb
 rcases List.mem_cons.mp (I.stkSub b hm) with z | z
 ·exact q1 z
 ·exact q2 z
theorem f7l (I:Inv X pins σ H s) (hf:∀ b∈fp,c4p X pins H b) (un:Un (frs X.stack) fp H H' s.heap h1) (hok:HOk X.prog X.w H' h1) (bk:∀ b o,h1.get? b=some o→((s.heap.get? b≠none∧b ∉ fp)∨H' b≠none)→b ∉ frs X.stack→B.get? b=some o)
  (hst:∀ b o,B.get? b=some o→h2.get? b=some o) (hsm:h1.UpToSlots h2) (hfn:∀ b∈frs X.stack,∃ o,h1.get? b=some o∧∀ vs,o.data≠.fields vs) :
  Un (frs X.stack) fp H H' s.heap h2∧HOk X.prog X.w H' h2∧(∀ b o,h2.get? b=some o→((s.heap.get? b≠none∧b ∉ fp)∨H' b≠none)→b ∉ frs X.stack→B.get? b=some o)∧∀ b∈frs X.stack,H' b=none:=by
 have nfp:=f1g I hf
 have nf:∀ b∈frs X.stack,H' b=none:=fun b hb=>by
  obtain⟨o,e⟩:=d8c I b hb
  exact un.free b o e (I.stkFree b hb) (nfp b hb)
 have keep:∀ b o,h1.get? b=some o→((s.heap.get? b≠none∧b ∉ fp)∨H' b≠none)→b ∉ frs X.stack→h2.get? b=some o:=fun b o e k n=>hst b o (bk b o e k n)
 refine⟨⟨fun b o e n hb hx=>?_,fun b o e n hb hx=>?_,un.free,fun b o e hx=>?_,un.tups,un.frzs,un.tbls⟩,fun a o e=>?_,fun b o e k n=>?_,nf⟩
 ·exact keep b o (un.keep b o e n hb hx) (.inl ⟨by rw[e];simp,hx⟩) hb
 ·obtain⟨sl,e1⟩:=un.slot b o e n hb hx
  obtain⟨o',e2,hd⟩:=hfn b hb
  rw[e1] at e2
  cases e2
  obtain⟨sl',e3⟩:=hsm b _ e1 hd
  exact⟨sl',e3⟩
 ·obtain⟨o',e1⟩:=un.there b o e hx
  by_cases hb:b∈frs X.stack
  ·obtain⟨o2,e2,hd⟩:=hfn b hb
   obtain⟨sl',e3⟩:=hsm b _ e2 hd
   exact⟨_,e3⟩
  ·exact⟨o',keep b o' e1 (.inl ⟨by rw[e];simp,hx⟩) hb⟩
 ·refine(hok a o e).stay (fun b u hb q=>keep b u q (.inr ?_) (fun z=>?_)) (fun _ q=>q) fun _ _ q=>q
  ·rcases hb with z | z
   ·rw[z,e];simp
   ·rw[z];simp
  ·have q':=nf b z
   rcases hb with z | z
   ·rw[z,e] at q';cases q'
   ·rw[z] at q';cases q'
 ·have there1:∃ o',h1.get? b=some o':=by
   rcases k with ⟨k,hx⟩ | k
   ·cases q:s.heap.get? b with
    | none=>exact(k q).elim
    | some o0=>exact un.there b o0 q hx
   ·cases q:H' b with
    | none=>exact(k q).elim
    | some u=>exact c0w (hok b u q)
  obtain⟨o',e1⟩:=there1
  have e2:=bk b o' e1 k n
  have e3:=hst b o' e2
  rw[e] at e3
  cases e3
  exact e2
structure g1t (X:Cx) (pins:List (Addr×Obj)) (ea:Addr):Prop where
 old:X.s₀.heap.get? ea=none
 loc:ea≠X.env.locals
 cell:∀ x c,X.env.cells.lookup x=some c→c≠ea
 pin:∀ p∈X.pn++pins,p.1≠ea
theorem f8n (I:Inv X pins σ H s) (hex:X.ex=[]) (hf:∀ b∈fp,c4p X pins H b) (new:s.heap.get? ea=none∨ea∈fp):g1t X pins ea:=by
 have key:∀ o,s.heap.get? ea=some o→c4p X pins H ea:=fun o e=>by
  rcases new with z | z
  ·rw[z] at e;cases e
  ·exact hf ea z
 refine⟨?_,fun z=>?_,fun x c e z=>?_,fun p hp z=>?_⟩
 ·cases q:X.s₀.heap.get? ea with
  | none=>rfl
  | some o =>
   obtain⟨o',e⟩:=I.base.there ea o q (by rw[hex];simp)
   obtain⟨_,_,_,f3,_⟩:=key o' e
   rcases f3 with f3 | f3
   ·rw[hex] at f3;cases f3
   ·exact absurd (Nat.lt_of_lt_of_le (Heap.lt_size q) f3) (Nat.lt_irrefl _)
 ·obtain⟨m,⟨o,_,_,ho,_⟩,_⟩:=I.loc
  obtain⟨_,f1,_⟩:=key o (z ▸ ho)
  exact f1 z
 ·obtain⟨v,o,ho,_⟩:=I.cell x c e
  obtain⟨_,_,_,_,f4,_⟩:=key o (z ▸ ho)
  exact f4 x c e z
 ·obtain⟨e,_⟩:=I.pin p hp
  obtain⟨_,_,_,_,_,f5⟩:=key p.2 (z ▸ e)
  exact f5 p hp z
theorem f6c {cls a0:Value} {d:Option Addr} {E:XK} {s2:Shared} (I2:Inv X pins σ H' s2) (hst:X.stack=X.env::X.outer) (hex:X.ex=[]) (bk:∀ b o,s2.heap.get? b=some o→(X.s₀.heap.get? b≠none∨H' b≠none)→b ∉ frs X.stack→B.get? b=some o)
  (fl:Heap.FlyingW B X.outer ea cls a0 s2.heap) (n1:H' ea=none) (n2:X.s₀.heap.get? ea=none) (dd:∃ o,s2.heap.get? ea=some o∧o.dict=d∧(f5h o=some .none∨∀ d',E cls d' H')) (hE:E cls d H'):CXW X.prog X.w X.outer X.H₀ X.s₀ E (.ref ea) s2:=by
 have sub:∀ b∈frs X.outer,b∈frs X.stack:=fun b hb=>by
  obtain⟨env,he,hf⟩:=List.mem_filterMap.mp hb
  rw[hst]
  exact List.mem_filterMap.mpr ⟨env,List.mem_cons_of_mem _ he,hf⟩
 have notin:∀ b o,X.s₀.heap.get? b=some o→b ∉ frs X.outer→b ∉ frs X.stack:=fun b o e hb hm=>by
  rcases List.mem_cons.mp (I2.stkSub b hm) with z | z
  ·exact absurd (Nat.lt_of_lt_of_le (Heap.lt_size e) (z ▸ I2.ok.above)) (Nat.lt_irrefl _)
  ·exact hb z
 have nx:∀ b,b ∉ X.ex:=fun b=>by rw[hex];simp
 refine⟨ea,cls,a0,B,H',d,rfl,I2.os,I2.bare,⟨fun b o e n hb _=>I2.base.keep b o e n hb (nx b),fun b o e n hb _=>I2.base.slot b o e n hb (nx b),fun b o e n _=>I2.base.free b o e n (nx b),fun b o e _=>I2.base.there b o e (nx b),I2.base.tups,I2.base.frzs,I2.base.tbls⟩,I2.hok,fl,fun b o e k hb=>?_,n1,n2,dd,hE⟩
 rcases k with k | k
 ·cases q:X.s₀.heap.get? b with
  | none=>exact(k q).elim
  | some o0=>exact bk b o e (.inl k) (notin b o0 q hb)
 ·exact bk b o e (.inr k) fun z=>k (I2.stkFree b z)
end
end My
namespace My
open PySem PySem.Spec PyProof.Rows L2
section
variable {M:Model} {A:Around} {E:Value→Shared→Prop} {s:Shared} {B:Heap} {l:List Env} {env:Env} {ea L:Addr} {cls a0:Value}
theorem f0r {outer:List Env} {Q:Unit→Shared→Prop} (hf:env.frame=some L) (h:Heap.HeldW B (env::outer) ea cls a0 L s.heap)
  (hQ:∀ T h',B.get? T=none→(∃ o ts,s.heap.get? T=some o∧o.data=.fields ts)→T≠ea→Heap.SameBut T s.heap h'→Heap.FlyingW B outer ea cls a0 h'→Q () {s with heap:=h'}):wpAny M A (leaving env (.ref ea)) Q E s:=by
 have hh:=h
 obtain⟨hkb,hb,hl,oe,vs,T,oT,ts,he,hcls,hd,h1,hnT,hTe,hT,hdT,h3⟩:=h
 have hsz3:3 < ts.size:=(Array.getElem?_eq_some_iff.mp h3).1
 have other:∀ b,b≠T→(s.heap.update T (Obj.mapFields (·.setIfInBounds 3 ((none:Option Addr).elim Value.none fun f=>rawInt f)))).get? b=s.heap.get? b:=fun b hb=>Heap.get?_update_other _ _ (Ne.symm hb)
 have noRecord:∀ b o,s.heap.get? b=some o→(∀ vs,o.data≠.fields vs)→b≠T:=fun b o hb hnf q=>by
  rw[q,hT] at hb;injection hb with hb;subst hb;exact hnf ts hdT
 unfold leaving
 refine wpAny_bind (wpAny_noteFrame_againW hf hh.2.2.2 ?_)
 unfold setFlight
 refine wpAny_bind (wpAny_field he hd h1 ?_)
 rw[if_pos (show (Value.ref T != Value.none)=true from by simp)]
 refine wpAny_setField hT hdT hsz3 (hQ T _ hnT ⟨oT,ts,hT,hdT⟩ hTe (Heap.SameBut.update ..) ⟨fun b o hbo=>(other b fun q=>by rw[q,hnT] at hbo;cases hbo).trans (hkb b o hbo),hb,?_,?_⟩)
 ·exact(hl.of_keeps fun b o hb hnf=>⟨o,(other b (noRecord b o hb hnf)).trans hb,rfl⟩).2.2
 ·exact⟨oe,vs,T,_,_,(other ea (Ne.symm hTe)).trans he,hcls,hd,h1,hnT,hTe,Heap.get?_update_self _ hT (Obj.isFreed_of_fields (Obj.data_mapFields hdT _)),Obj.data_mapFields hdT _,by simp[hsz3]⟩
end
end My
namespace My
open PySem PySem.Spec PyProof.Rows L2
section
variable {X:Cx} {pins:List (Addr×Obj)} {σ:L2.St} {H:Hp} {s:Shared} {fp:List Addr} {E:XK}
theorem d1i {e:Value} {s':Shared} (I:Inv X pins σ H s) (hf:∀ b∈fp,c4p X pins H b) (hst:X.stack=X.env::X.outer) (hfr:X.env.frame=some X.env.locals) (hex:X.ex=[])
  (h:c6x X fp H s none E e s'):wpAny (model X.prog X.w) X.A (leaving X.env e) (fun _ s''=>CXW X.prog X.w X.outer X.H₀ X.s₀ E e s'') (fun e' s''=>CXW X.prog X.w X.outer X.H₀ X.s₀ E e' s'') s':=by
 obtain⟨ea,cls,a0,B,H',d,rfl,os,bare,un,hok,held,bk,n1,new,⟨o0,ho0,hd0⟩,_,hE⟩:=h
 have hfnn:∀ b∈frs X.stack,∃ o,s'.heap.get? b=some o∧∀ vs,o.data≠.fields vs:=fun b hb=>(held.2.2.1.mem hb).2
 have fpc:∀ b∈fp,(b∈X.ex∨X.s₀.heap.objs.size≤b)∧b≠X.env.locals∧(∀ x c,X.env.cells.lookup x=some c→c≠b)∧∀ p∈X.pn++pins,p.1≠b:=fun b hb=>let ⟨_,f1,_,f3,f4,f5⟩:=hf b hb;⟨f3,f1,f4,f5⟩
 have fl6:=held
 rw[hst] at fl6
 refine wpAny_mono (a5o (b5m _ _) (f0r (Q:=fun _ s''=>∃ h7,s''={s' with heap:=h7}∧Heap.FlyingW B X.outer ea cls a0 h7∧s'.heap.UpToSlots h7) hfr fl6 fun T h7 _ ⟨oT,ts,hT,hdT⟩ _ sb fl7=>⟨h7,rfl,fl7,fun b o e hd=>⟨o.slots,(sb.2 b fun z=>by rw[z] at e;rw[hT] at e;cases e;exact hd _ hdT).trans e⟩⟩)) (fun _ s'' ⟨⟨h7,e7,fl7,sm7⟩,dk7⟩=>?_) fun _ _ z=>z.1
 subst e7
 obtain⟨un7,hok7,bk7,_⟩:=f7l I hf un hok bk fl7.1 sm7 hfnn
 have I7:Inv X pins σ H' {s' with heap:=h7}:=I.call' (s':={s' with heap:=h7}) os un7 hok7 bare fpc
 have hea:=f8n I hex hf new
 obtain⟨o7,ho7,hd7⟩:=dk7 ea o0 ho0
 refine f6c (d:=d) I7 hst hex (fun b o e q nb=>bk7 b o e (q.imp (fun q=>?_) id) nb) fl7 n1 hea.old ⟨o7,ho7,hd7.1.trans hd0.1,hd0.2.imp (fun q=>hd7.2.trans q) id⟩ hE
 cases z:X.s₀.heap.get? b with
 | none=>exact(q z).elim
 | some u =>
  obtain⟨u',e'⟩:=I.base.there b u z (by rw[hex];simp)
  refine⟨by rw[e'];simp,fun hm=>?_⟩
  obtain⟨_,_,_,f3,_⟩:=hf b hm
  rcases f3 with f3 | f3
  ·rw[hex] at f3;cases f3
  ·exact absurd (Nat.lt_of_lt_of_le (Heap.lt_size z) f3) (Nat.lt_irrefl _)
theorem f0v {elt target iter:Expr} {g:TG} {te:XK→TE} {wi:TI} {scope:Scope} {pos:Pos} (N:List Str) (hc:X.calm=true)
  (hst:X.stack=X.env::X.outer) (hfr:X.env.frame=some X.env.locals) (hex:X.ex=[])
  (hxe:∀ e s',wpAny (model X.prog X.w) X.A (leaving X.env e) (fun _ s''=>CXW X.prog X.w X.outer X.H₀ X.s₀ E e s'') (fun e' s''=>CXW X.prog X.w X.outer X.H₀ X.s₀ E e' s'') s'→X.xe e s')
  (hi:PI X target iter wi) (hfree:∀ q∈scope.names,q.2≠.free) (hcell:∀ q∈scope.names,q.2≠.cell) (hkind:scope.kind=.function) (hnames:∀ q∈scope.names,q.2=.local→scope.names.lookup q.1=some .local)
  (hg:∀ C s₀ H₀ ex,PG (a8e X scope N C s₀ H₀ ex) target g) (he:∀ E1 C s₀ H₀ ex,PE (d8t X scope N E1 C s₀ H₀ ex) elt (te E1)) (hfs:∀ x,foldedSetIterable iter X.env x=pure x:=by intro _;rfl) :
  PE X (.ListComp elt [⟨target,iter,[],0⟩] scope pos) (f8z N wi g (te E)):=by
 constructor;intro pins s σ H Q I h
 have hre:relabel scope X.env=scope:=by
  have e:=c1c (env:=X.env) hfree
  cases scope
  unfold relabel at e ⊢
  dsimp only at e ⊢
  rw[e]
 refine wpAny_ListComp hfree hkind hnames (thn (hi pins s σ H _ I h) fun v s1 h1=>thn h1 fun itv s2 h2=>?_) hfs
 obtain⟨it,fp,tn,J,H2,rfl,I2,T',st2,f2,q⟩:=h2
 have key:=d8v (pos:=pos) (iter:=iter) (E:=X.xe)
  (RR:=fun acc cenv r s'=>∃ m,s'.heap.Ns cenv.locals m∧∀ h',Heap.SameBut cenv.locals s'.heap h' →
   match r with | .ok _=>EP X pins σ Q acc {s' with heap:=h'} | .error x=>wpAny (model X.prog X.w) X.A (PySem.passOn "comprehension.variables-let-go" x {cenv with scope:=scope}) (EP X pins σ Q) X.xe {s' with heap:=h'})
  I2 hc hst hfr hfree hcell hkind T' st2 f2 hg (he _) q
  (fun L C H' s' m cenv c1 c2 os bare un hok hn nC hC qq=>by
   subst c1
   obtain⟨IX,fC⟩:=b7q I2 f2 os bare un hok nC hC
   exact⟨m,hn,fun h' k=>⟨.ref L,H',d4g IX fC k,rfl,qq⟩⟩)
  (fun L C e s' cenv c1 c2 hC hE=>by
   subst c1
   have hE':=hE
   obtain⟨ea,cls,a0,B,H',d,rfl,os,bare,un,hok,held,bk,n1,new,dd,hcc,_⟩:=hE'
   obtain⟨_,m,hn⟩:=hcc _ rfl
   refine⟨m,hn,fun h' k=>?_⟩
   have hG:=c6x.gone I2 hE hC k
   have hG':=hG
   obtain⟨ea2,cls2,a2,B2,H3,d2,ee,_,_,_,_,held2,_⟩:=hG'
   cases ee
   exact c8g (c2.trans hfr) held2 (hxe _ _ (d1i I2 f2 hst hfr hex hG)))
 rw[hre] at key
 exact key
end
end My
namespace My
open PySem PySem.Spec PyProof.Rows L2
structure PET (X:Cx) (e:Expr) (t:TE):Prop where
 run:∀ (pins:List (Addr×Obj)) (s:Shared) (σ:L2.St) (H:Hp) (Q:VK),0 < s.toks→Inv X pins σ H s→t σ H Q→wpAny (model X.prog X.w) X.A (eval e X.env) (EP X pins σ Q) X.xe s
section
variable {X:Cx} {e a b:Expr} {es:List Expr} {te ta tb:TE} {t:TA} {pos:Pos}
theorem PET.of (h:PE X e te):PET X e te:=⟨fun pins s σ H Q _ I q=>h.run pins s σ H Q I q⟩
def g1o (t u:TS):TS:=fun D σ H=>∃ W:L2.St→Hp→Prop,t {D with nx:=W} σ H∧∀ σ' H',W σ' H'→u D σ' H'
theorem c8q {st:Stmt} {rest:List Stmt} {t u:TS} (h1:PS X st t) (h2:PSs X rest u):PSs X (st::rest) (g1o t u):=by
 constructor;intro pins s σ H D I ⟨W,h,k⟩
 refine wpAny_execs_cons (thn (h1 pins s σ H {D with nx:=W} I h) fun f s1 q=>?_)
 cases f with
 | next =>
  obtain⟨σ',H',I',q⟩:=q
  exact h2 pins s1 σ' H' D I' (k σ' H' q)
 | ret v=>exact q
 | brk=>exact q
 | cont=>exact q
end
end My
namespace My
open PySem PySem.Spec PyProof.Rows L2 PyProof
def tNever:TE:=fun _ _ _=>False
theorem d2v {X:Cx} {e:Expr}:PE X e tNever:=by
 constructor;intro pins s σ H Q I h
 exact h.elim
theorem e1g:∀ {cs:List String} {us:List Value},a3c (cs.map V.ty) us→us=cs.map Value.type
 | [],_,.nil=>rfl
 | c::r,_,.cons e q=>by rw[e1g q,show _=Value.type c from e];rfl
theorem e8i {X:Cx} {K:PySem.W.Frag} (hK:X.K=K):b7y X (.builtin "isinstance") (fun xs H Q=>∃ (x:V) (tp:Addr) (cs:List String) (t:Value) (b:Bool),xs=[x,V.ref tp]∧H tp=some (.tup (cs.map V.ty))∧d4y K H x t∧PySem.W.kitAny K t (cs.map Value.type)=some b∧Q (.bl b) H):=by
 subst hK
 intro pins s σ H xs us Q I r h
 obtain⟨x,tp,cs,t,b,rfl,ht,ty,e,q⟩:=h
 obtain⟨u,w',rfl,rx,rw'⟩:=e1x r
 cases rw'
 obtain⟨_,its,rv,o,e1,hc,n,hd⟩:=(show a2f X.prog X.w H s.heap tp (.tup (cs.map V.ty)) from I.hok tp _ ht)
 have ei:=e1g rv
 subst ei
 obtain⟨oc,odd,oda,osl⟩:=o
 dsimp only at hc hd
 subst hc hd
 have h:∀ tk,EP X pins σ Q (.bool b) {s with toks:=tk}:=fun tk=>⟨.bl b,H,I.tok tk,rfl,q⟩
 cases ty with
 | non=>cases (show u=Value.none from rx);exact PySem.W.kia_tup PySem.W.kitx_none I.kIn True.intro e1 e (fun z=>nomatch z) h
 | bl y=>cases (show u=Value.bool y from rx);exact PySem.W.kia_tup PySem.W.kitx_bool I.kIn True.intro e1 e (fun z=>nomatch z) h
 | int i=>obtain⟨t,q⟩:=(show ∃ t,u=Value.int i t from rx);cases q;exact PySem.W.kia_tup PySem.W.kitx_int I.kIn True.intro e1 e (fun z=>nomatch z) h
 | str y=>obtain⟨t,q⟩:=(show ∃ t,u=Value.str y t from rx);cases q;exact PySem.W.kia_tup PySem.W.kitx_str I.kIn True.intro e1 e (fun z=>nomatch z) h
 | flt y=>obtain⟨t,q⟩:=(show ∃ t,u=Value.float y t from rx);cases q;exact PySem.W.kia_tup PySem.W.kitx_float I.kIn True.intro e1 e (fun z=>nomatch z) h
 | @lst a xs ea =>
  cases (show u=Value.ref a from rx)
  obtain⟨_,_,n,_,h1⟩:=(show a2f X.prog X.w H s.heap a (.lst xs) from I.hok a _ ea)
  exact PySem.W.kia_tup PySem.W.kitx_list I.kIn ⟨_,h1,rfl⟩ e1 e (fun z=>nomatch z) h
 | @frz a ob xs ea =>
  cases (show u=Value.ref a from rx)
  obtain⟨_,_,_,n,_,h1⟩:=(show a2f X.prog X.w H s.heap a (.frz ob (.lst xs)) from I.hok a _ ea)
  exact PySem.W.kia_tup PySem.W.kitx_list I.kIn ⟨_,h1,rfl⟩ e1 e (fun z=>nomatch z) h
 | @tup a xs ea =>
  cases (show u=Value.ref a from rx)
  obtain⟨_,_,_,p⟩:=(show a2f X.prog X.w H s.heap a (.tup xs) from I.hok a _ ea)
  obtain⟨o,h1,h2,_⟩:=p
  exact PySem.W.kia_tup PySem.W.kitx_tuple I.kIn ⟨o,h1,h2⟩ e1 e (fun z=>nomatch z) h
 | @dK a kvs ea =>
  cases (show u=Value.ref a from rx)
  obtain⟨_,_,vs,_,p⟩:=(show a2f X.prog X.w H s.heap a (.dK kvs) from I.hok a _ ea)
  obtain⟨o,es,ep,h1,h2,_⟩:=p
  exact PySem.W.kia_tup PySem.W.kitx_dict I.kIn ⟨o,h1,h2.1⟩ e1 e (fun z=>nomatch z) h
 | @dT a kvs ea =>
  cases (show u=Value.ref a from rx)
  obtain⟨_,_,xs,_,o,es,ep,h1,h2,_⟩:=(show a2f X.prog X.w H s.heap a (.dT kvs) from I.hok a _ ea)
  exact PySem.W.kia_tup PySem.W.kitx_dict I.kIn ⟨o,h1,h2.1⟩ e1 e (fun z=>nomatch z) h
 | @ins a C dx fs ea cl ha hn htk hm =>
  cases (show u=Value.ref a from rx)
  obtain⟨mA,O,_⟩:=c2n I.hok ea
  obtain⟨od,J,_⟩:=O.look
  exact PySem.W.kia_tup (PySem.W.kitx_own (cl.get _) cl.hd ha hn htk hm) I.kIn J e1 e (fun z=>nomatch z) h
mutual
inductive Tr (H:Hp):V→PyData→Prop where
 | int (i:Int):Tr H (.int i) (.int i)
 | str (x:Str):Tr H (.str x) (.str x)
 | lst {a:Addr} {xs:List V} {ds:List PyData} (h:H a=some (.lst xs)) (r:Trs H xs ds):Tr H (.ref a) (.list ds)
 | tup {a:Addr} {xs:List V} {ds:List PyData} (h:H a=some (.tup xs)) (r:Trs H xs ds):Tr H (.ref a) (.tuple ds)
inductive Trs (H:Hp):List V→List PyData→Prop where
 | nil:Trs H [] []
 | cons {x:V} {d:PyData} {xs:List V} {ds:List PyData} (h:Tr H x d) (r:Trs H xs ds):Trs H (x::xs) (d::ds)
end
mutual
theorem Tr.same {H H':Hp} (s:Same H H') {v:V} {d:PyData} (h:Tr H v d):Tr H' v d:=by
 cases h with
 | int i=>exact .int i
 | str x=>exact .str x
 | lst h r=>exact .lst (s _ _ h) (Trs.same s r)
 | tup h r=>exact .tup (s _ _ h) (Trs.same s r)
theorem Trs.same {H H':Hp} (s:Same H H') {vs:List V} {ds:List PyData} (h:Trs H vs ds):Trs H' vs ds:=by
 cases h with
 | nil=>exact .nil
 | cons h r=>exact .cons (Tr.same s h) (Trs.same s r)
end
mutual
theorem Tr.dt {K:PySem.W.Frag} {H:Hp} {v:V} {d:PyData} (h:Tr H v d):Dt K H v d:=by
 cases h with
 | int i=>exact .int i
 | str x=>exact .str x
 | lst h r=>exact .lst (SqL.of h) (Trs.dts r)
 | tup h r=>exact .tup (SqT.of h) (Trs.dts r)
theorem Trs.dts {K:PySem.W.Frag} {H:Hp} {vs:List V} {ds:List PyData} (h:Trs H vs ds):Dts K H vs ds:=by
 cases h with
 | nil=>exact .nil
 | cons h r=>exact .cons (Tr.dt h) (Trs.dts r)
end
theorem Trs.len {H:Hp}:∀ {vs:List V} {ds:List PyData},Trs H vs ds→vs.length=ds.length
 | _,_,.nil=>rfl
 | _,_,.cons _ r=>by simp only [List.length_cons,Trs.len r]
theorem Trs.get {H:Hp}:∀ {vs:List V} {ds:List PyData},Trs H vs ds→∀ {i:Nat} {v:V},vs[i]?=some v→∃ d,ds[i]?=some d∧Tr H v d
 | _,_,.nil,i,v,e=>by simp at e
 | _,_,.cons h r,0,v,e=>by cases e;exact⟨_,rfl,h⟩
 | _,_,.cons h r,i+1,v,e=>Trs.get r (i:=i) (by simpa using e)
theorem Trs.at {H:Hp}:∀ {vs:List V} {ds:List PyData},Trs H vs ds→∀ {i:Nat} {d:PyData},ds[i]?=some d→∃ v,vs[i]?=some v∧Tr H v d
 | _,_,.nil,i,v,e=>by simp at e
 | _,_,.cons h r,0,v,e=>by cases e;exact⟨_,rfl,h⟩
 | _,_,.cons h r,i+1,v,e=>Trs.at r (i:=i) (by simpa using e)
theorem Trs.ints {H:Hp}:∀ {vs:List V} {ns:List Int},Trs H vs (ns.map PyData.int)→vs=ns.map V.int
 | _,[],.nil=>rfl
 | _,n::r,.cons h q=>by cases h;rw[Trs.ints q];rfl
end My
namespace My
open PySem PySem.Spec PyProof.Rows L2
def off (H H':Hp):Hp:=fun b=>if (H b).isSome=true then none else H' b
theorem f3j {X:Cx} {K:PySem.W.Frag} (hK:X.K=K) (hu:X.A.units+64 < cLine):OpR X (compareOp .Eq) (g0j K):=by
 subst hK
 exact f7z hu
end My
namespace My
open PySem PySem.W PyProof.Rows
theorem us1 {α:Type} {us:List α} (h:us.length=1):∃ a,us=[a]:=List.length_eq_one_iff.mp h
theorem us2 {α:Type} {us:List α} (h:us.length=2):∃ a b,us=[a,b]:=by
 obtain⟨a,t,rfl⟩:=List.exists_cons_of_length_eq_add_one h
 obtain⟨b,rfl⟩:=us1 (Nat.succ.inj h)
 exact⟨a,b,rfl⟩
theorem us3 {α:Type} {us:List α} (h:us.length=3):∃ a b c,us=[a,b,c]:=by
 obtain⟨a,t,rfl⟩:=List.exists_cons_of_length_eq_add_one h
 obtain⟨b,c,rfl⟩:=us2 (Nat.succ.inj h)
 exact⟨a,b,c,rfl⟩
theorem us4 {α:Type} {us:List α} (h:us.length=4):∃ a b c d,us=[a,b,c,d]:=by
 obtain⟨a,t,rfl⟩:=List.exists_cons_of_length_eq_add_one h
 obtain⟨b,c,d,rfl⟩:=us3 (Nat.succ.inj h)
 exact⟨a,b,c,d,rfl⟩
theorem us5 {α:Type} {us:List α} (h:us.length=5):∃ a b c d e,us=[a,b,c,d,e]:=by
 obtain⟨a,t,rfl⟩:=List.exists_cons_of_length_eq_add_one h
 obtain⟨b,c,d,e,rfl⟩:=us4 (Nat.succ.inj h)
 exact⟨a,b,c,d,e,rfl⟩
theorem us6 {α:Type} {us:List α} (h:us.length=6):∃ a b c d e f,us=[a,b,c,d,e,f]:=by
 obtain⟨a,t,rfl⟩:=List.exists_cons_of_length_eq_add_one h
 obtain⟨b,c,d,e,f,rfl⟩:=us5 (Nat.succ.inj h)
 exact⟨a,b,c,d,e,f,rfl⟩
end My
namespace My
open PySem PySem.SetTable
def LS (mask:Nat) (h:Int):Nat→Nat×Nat
 | 0=>(bits h%(mask+1),bits h)
 | r+1=>leap mask (LS mask h r).1 (LS mask h r).2
def rl (mask i:Nat):Nat:=runEnd mask i - i
def g1q (mask:Nat):Prop:=mask=7∨mask=31∨mask=127
def Ps (mask:Nat) (h:Int) (r k:Nat):Nat:=(LS mask h r).1+k
def Bef (mask:Nat) (h:Int) (ok:Nat→Prop) (r k:Nat):Prop:=(∀ r',r' < r→∀ k',k'≤rl mask (LS mask h r').1→ok (Ps mask h r' k'))∧∀ k',k' < k→ok (Ps mask h r k')
structure TT (t:SetTable) (es:List (Int×Value)):Prop where
 size:g1q t.mask
 up:Ris t.place
 nd:t.dummies=#[]
 within:∀ j∈t.place.toList,j≤t.mask
 len:t.place.toList.length=es.length
 fnd:∀ j e,(j,e)∈t.place.toList.zip es→∃ r k,k≤rl t.mask (LS t.mask e.1 r).1∧Ps t.mask e.1 r k=j∧Bef t.mask e.1 (·∈t.place.toList) r k
theorem TT.fresh (f m:Nat) (l:Bool):TT (.fresh f m l) []:=⟨.inl rfl,List.Pairwise.nil,rfl,(fun _ h=>by cases h),rfl,(fun _ _ h=>by cases h)⟩
end My
namespace My
open PySem PySem.Spec PyProof.Rows L2 PyProof PySem.SeqAt
def KpT (h h':Heap):Prop:=∀ b o xs n,h.get? b=some o→o.cls=.type "tuple"→o.data=.seq xs n→h'.get? b=some o
structure HVK (K:Type) [DecidableEq K] where
 is:Heap→K→Value→Prop
 hash:K→Int
 d:Nat
 inj:∀ {h:Heap} {x y:K} {v:Value},is h x v→is h y v→x=y
 keep:∀ {h h':Heap} {k:K} {v:Value},is h k v→KpT h h'→is h' k v
 pyHash:∀ {prog:Program} {w:World} {A:Around} {E:Value→Shared→Prop} {s:Shared} {k:K} {v:Value} {Q:Int→Shared→Prop},A.units+d < cLine→is s.heap k v→(∀ tk,Q (hash k) {s with toks:=tk})→wpAny (model prog w) A (PySem.pyHash v) Q E s
 eq:∀ {A:Around} {s:Shared} {x y:K} {u v:Value},A.units+d < cLine→is s.heap x u→is s.heap y v→EqAt A s u v (decide (x=y))
 quiet:∀ {prog:Program} {w:World} {A:Around} {E:Value→Shared→Prop} {s:Shared} {k:K} {v:Value} {Q:Bool→Shared→Prop} (n:Nat),d≤n→is s.heap k v→Q true s→wpAny (model prog w) A (eqIsQuiet n v) Q E s
 cls:∀ {prog:Program} {w:World} {A:Around} {E:Value→Shared→Prop} {s:Shared} {k:K} {v:Value} {Q:Bool→Shared→Prop} (n:Nat),d≤n→is s.heap k v→Q false s→wpAny (model prog w) A (ofAClassStatement n v) Q E s
 byv:∀ {prog:Program} {w:World} {A:Around} {E:Value→Shared→Prop} {s:Shared} {k:K} {v:Value} {Q:Bool→Shared→Prop} (n:Nat),d≤n→is s.heap k v→Q true s→wpAny (model prog w) A (hashByValue n v) Q E s
def HVK.int:HVK Int where
 is:=fun _ k v=>∃ t,v=.int k t
 hash:=hashInt
 d:=0
 inj:=fun ⟨t,e⟩ ⟨t',e'⟩=>by subst e;cases e';rfl
 keep:=fun x _=>x
 pyHash:=fun _ ⟨t,e⟩ h=>by subst e;exact wpAny_pyHash_int (h _)
 eq:=fun _ ⟨t,e⟩ ⟨t',e'⟩ prog w E Q h=>by subst e;subst e';exact wpAny_eqBool_int h
 quiet:=fun n _ ⟨t,e⟩ h=>by
  subst e
  rw[eqIsQuiet_byValue n rfl]
  exact wpAny_pure h
 cls:=fun n _ ⟨t,e⟩ h=>by
  subst e
  unfold ofAClassStatement
  exact wpAny_pure h
 byv:=fun n _ ⟨t,e⟩ h=>by
  subst e
  unfold hashByValue
  exact wpAny_pure h
section
variable {K L:Type} [DecidableEq K] [DecidableEq L]
def d8b (h:Heap) (v u u':Value):Prop:=∃ a o n,v=.ref a∧h.get? a=some o∧o.cls=.type "tuple"∧o.data=.seq #[u,u'] n
theorem HVK.pair_hash (V:HVK K) (W:HVK L) {prog:Program} {w:World} {A:Around} {E:Value→Shared→Prop} {s:Shared} {x:K} {y:L} {v u u':Value} {Q:Int→Shared→Prop} (hu:A.units+(max V.d W.d+1) < cLine) (T:d8b s.heap v u u') (hx:V.is s.heap x u) (hy:W.is s.heap y u')
  (h:∀ tk,Q (reduceHash (Builtin.Tuple.tupleHashOf [V.hash x,W.hash y])) {s with toks:=tk}):wpAny (model prog w) A (PySem.pyHash v) Q E s:=by
 obtain⟨a,o,n,rfl,ho,hc,hd⟩:=T
 have hT:s.TypeIs (.ref a) "tuple":=⟨o,ho,hc⟩
 have h1:A.in1.units+V.d < cLine:=by show A.units+1+V.d < cLine;have:=Nat.le_max_left V.d W.d;omega
 have h2:A.in1.units+W.d < cLine:=by show A.units+1+W.d < cLine;have:=Nat.le_max_right V.d W.d;omega
 unfold PySem.pyHash
 unfold pyHashByItsType;refine wpAny_bind (wpAny_cRoomFor_or (.inr (show A.units < cLine by omega)) (wpAny_bind (wpAny_specialOf hT PySem.F.slot_tuple_hash.lookup ?_)))
 rw[if_neg (show ¬ (some (Value.builtin "tuple.__hash__") == some Value.none)=true by rw[beq_builtin_none];exact Bool.false_ne_true)]
 refine wpAny_bind (wpAny_specialOf hT PySem.F.slot_tuple_hash.lookup ?_)
 show wpAny _ _ (callSpecialIfBoundUnlessNone? (.ref a) (Str.ofString "__hash__") _>>=_) _ _ _
 refine wpAny_bind (wpAny_callSpecialIfBoundUnlessNone?_slot hT PySem.F.slot_tuple_hash (wpAny_call_entry PySem.F.slot_tuple_hash hT PySem.F.entry_tuple_hash ?_ (PySem.F.args_tuple_hash_1 _)))
 show wpAny _ _ (Builtin.Tuple.tupleItemsOf (.ref a)>>=fun its=>_) _ _ _
 refine wpAny_bind (wpAny_tupleItemsOf ho hd (wpAny_bind ?_))
 rw[←Array.forIn_toList,show (#[u,u']:Array Value).toList=[u,u'] from rfl,List.forIn_cons]
 refine wpAny_bind (wpAny_bind (V.pyHash h1 hx fun tk1=>wpAny_pure ?_))
 show wpAny _ _ (forIn [u'] _ _) _ _ _
 rw[List.forIn_cons]
 refine wpAny_bind (wpAny_bind (W.pyHash h2 hy fun tk2=>wpAny_pure ?_))
 refine wpAny_pure (show wpAny _ _ (retInt (Builtin.Tuple.tupleHashOf [V.hash x,W.hash y])) _ _ _ from ?_)
 refine wpAny_ret_mkInt (show wpAny _ _ (if (decide (-(2:Int) ^ 63≤Builtin.Tuple.tupleHashOf [V.hash x,W.hash y]) && decide (Builtin.Tuple.tupleHashOf [V.hash x,W.hash y] < 2 ^ 63))=true then _ else _) Q E _ from ?_)
 unfold reduceHash at h
 by_cases hr:(decide (-(2:Int) ^ 63≤Builtin.Tuple.tupleHashOf [V.hash x,W.hash y]) && decide (Builtin.Tuple.tupleHashOf [V.hash x,W.hash y] < 2 ^ 63))=true
 ·rw[if_pos hr] at h ⊢;exact wpAny_pure (h _)
 ·rw[if_neg hr] at h ⊢;exact wpAny_bind (wpAny_rule (wpAny_pure (h _)))
theorem HVK.pair_eq (V:HVK K) (W:HVK L) {A:Around} {s:Shared} {x x':K} {y y':L} {v v' u1 u2 u1' u2':Value} (hu:A.units+(max V.d W.d+1) < cLine) (T:d8b s.heap v u1 u2) (T':d8b s.heap v' u1' u2') (hx:V.is s.heap x u1) (hy:W.is s.heap y u2) (hx':V.is s.heap x' u1') (hy':W.is s.heap y' u2') :
  EqAt A s v v' (decide ((x,y)=(x',y'))):=by
 obtain⟨a,o,n,rfl,ho,hc,hd⟩:=T
 obtain⟨a',o',n',rfl,ho',hc',hd'⟩:=T'
 have h1:A.in1.units+V.d < cLine:=by show A.units+1+V.d < cLine;have:=Nat.le_max_left V.d W.d;omega
 have h2:A.in1.units+W.d < cLine:=by show A.units+1+W.d < cLine;have:=Nat.le_max_right V.d W.d;omega
 by_cases haa:a=a'
 ·subst haa
  obtain rfl:o=o':=Option.some.inj (ho.symm.trans ho')
  rw[hd] at hd'
  injection hd' with e _
  obtain⟨e1,e2⟩:u1=u1'∧u2=u2':=by simpa using e
  subst e1;subst e2
  rw[V.inj hx hx',W.inj hy hy',decide_eq_true rfl]
  exact EqAt.same _
 ·have key:=RcAt.tuples (A:=A) (s:=s) (e:=fun j=>if j=0 then decide (x=x') else decide (y=y')) ⟨o,ho,hc,n,hd⟩ ⟨o',ho',hc',n',hd'⟩ (by omega) fun j j1 j2=>by
   have:j=0∨j=1:=by have:j < 2:=j1;omega
   rcases this with rfl | rfl
   ·exact V.eq h1 hx hx'
   ·exact W.eq h2 hy hy'
  have e:((List.range (min (#[u1,u2]:Array Value).size (#[u1',u2']:Array Value).size)).all (fun j=>if j=0 then decide (x=x') else decide (y=y')) && ((#[u1,u2]:Array Value).size == (#[u1',u2']:Array Value).size))=decide ((x,y)=(x',y')):=by
   show ((List.range 2).all _ && true)=_
   rw[show List.range 2=[0,1] from rfl]
   simp[Bool.decide_and]
  rw[e] at key
  exact EqAt.of_refs haa key
theorem HVK.pair_quiet (V:HVK K) (W:HVK L) {prog:Program} {w:World} {A:Around} {E:Value→Shared→Prop} {s:Shared} {x:K} {y:L} {v u u':Value} {Q:Bool→Shared→Prop} (n:Nat) (hn:max V.d W.d+1≤n) (T:d8b s.heap v u u') (hx:V.is s.heap x u) (hy:W.is s.heap y u') (h:Q true s):wpAny (model prog w) A (eqIsQuiet n v) Q E s:=by
 obtain⟨a,o,c,rfl,ho,hc,hd⟩:=T
 have hT:s.TypeIs (.ref a) "tuple":=⟨o,ho,hc⟩
 obtain⟨m,rfl⟩:∃ m,n=m+1:=⟨n - 1,by omega⟩
 have h1:V.d≤m:=by have:=Nat.le_max_left V.d W.d;omega
 have h2:W.d≤m:=by have:=Nat.le_max_right V.d W.d;omega
 unfold eqIsQuiet
 refine wpAny_bind (wpAny_specialOf hT PySem.F.slot_tuple_eq.lookup (show wpAny _ _ (isInstance (.ref a) (.type "tuple")>>=fun _=>_) _ _ _ from wpAny_bind (wpAny_isInstance hT isSubtype_tuple_tuple ?_)))
 simp only [Bool.not_true,Bool.false_eq_true,if_false];refine wpAny_bind (wpAny_seqItems ho hd (wpAny_bind ?_))
 show wpAny _ _ (forIn (#[u,u']:Array Value) _ _) _ _ _
 rw[←Array.forIn_toList,show (#[u,u']:Array Value).toList=[u,u'] from rfl,List.forIn_cons]
 refine wpAny_bind (wpAny_bind (V.quiet m h1 hx (wpAny_pure ?_)))
 show wpAny _ _ (forIn [u'] _ _) _ _ _
 rw[List.forIn_cons]
 exact wpAny_bind (wpAny_bind (W.quiet m h2 hy (wpAny_pure (wpAny_pure (wpAny_pure h)))))
theorem HVK.pair_cls (V:HVK K) (W:HVK L) {prog:Program} {w:World} {A:Around} {E:Value→Shared→Prop} {s:Shared} {x:K} {y:L} {v u u':Value} {Q:Bool→Shared→Prop} (n:Nat) (hn:max V.d W.d+1≤n) (T:d8b s.heap v u u') (hx:V.is s.heap x u) (hy:W.is s.heap y u') (h:Q false s):wpAny (model prog w) A (ofAClassStatement n v) Q E s:=by
 obtain⟨a,o,c,rfl,ho,hc,hd⟩:=T
 have hT:s.TypeIs (.ref a) "tuple":=⟨o,ho,hc⟩
 obtain⟨m,rfl⟩:∃ m,n=m+1:=⟨n - 1,by omega⟩
 have h1:V.d≤m:=by have:=Nat.le_max_left V.d W.d;omega
 have h2:W.d≤m:=by have:=Nat.le_max_right V.d W.d;omega
 unfold ofAClassStatement
 refine wpAny_bind (wpAny_typeOf hT ?_)
 refine wpAny_bind (wpAny_pure (show wpAny _ _ (seqItems? (.ref a)>>=fun _=>_) _ _ _ from wpAny_bind (wpAny_seqItems ho hd (wpAny_bind ?_))))
 show wpAny _ _ (forIn (#[u,u']:Array Value) _ _) _ _ _
 rw[←Array.forIn_toList,show (#[u,u']:Array Value).toList=[u,u'] from rfl,List.forIn_cons]
 refine wpAny_bind (wpAny_bind (V.cls m h1 hx (wpAny_pure ?_)))
 show wpAny _ _ (forIn [u'] _ _) _ _ _
 rw[List.forIn_cons]
 exact wpAny_bind (wpAny_bind (W.cls m h2 hy (wpAny_pure (wpAny_pure (wpAny_pure h)))))
theorem HVK.pair_byv (V:HVK K) (W:HVK L) {prog:Program} {w:World} {A:Around} {E:Value→Shared→Prop} {s:Shared} {x:K} {y:L} {v u u':Value} {Q:Bool→Shared→Prop} (n:Nat) (hn:max V.d W.d+1≤n) (T:d8b s.heap v u u') (hx:V.is s.heap x u) (hy:W.is s.heap y u') (h:Q true s):wpAny (model prog w) A (hashByValue n v) Q E s:=by
 obtain⟨a,o,c,rfl,ho,hc,hd⟩:=T
 have hT:s.TypeIs (.ref a) "tuple":=⟨o,ho,hc⟩
 obtain⟨m,rfl⟩:∃ m,n=m+1:=⟨n - 1,by omega⟩
 have h1:V.d≤m:=by have:=Nat.le_max_left V.d W.d;omega
 have h2:W.d≤m:=by have:=Nat.le_max_right V.d W.d;omega
 unfold hashByValue
 refine wpAny_bind (wpAny_specialOf hT PySem.F.slot_tuple_hash.lookup (show wpAny _ _ (seqItems? (.ref a)>>=fun _=>_) _ _ _ from wpAny_bind (wpAny_seqItems ho hd (wpAny_bind ?_))))
 show wpAny _ _ (forIn (#[u,u']:Array Value) _ _) _ _ _
 rw[←Array.forIn_toList,show (#[u,u']:Array Value).toList=[u,u'] from rfl,List.forIn_cons]
 refine wpAny_bind (wpAny_bind (V.byv m h1 hx (wpAny_pure ?_)))
 show wpAny _ _ (forIn [u'] _ _) _ _ _
 rw[List.forIn_cons]
 exact wpAny_bind (wpAny_bind (W.byv m h2 hy (wpAny_pure (wpAny_pure (wpAny_pure h)))))
def HVK.pair (V:HVK K) (W:HVK L):HVK (K×L) where
 is:=fun h k v=>∃ u u',d8b h v u u'∧V.is h k.1 u∧W.is h k.2 u'
 hash:=fun k=>reduceHash (Builtin.Tuple.tupleHashOf [V.hash k.1,W.hash k.2])
 d:=max V.d W.d+1
 inj:=fun {h x y v} ⟨u,u',⟨a,o,n,e,ho,hc,hd⟩,hx,hy⟩ ⟨z,z',⟨a',o',n',e',ho',hc',hd'⟩,hx',hy'⟩=>by
  subst e
  cases e'
  obtain rfl:o=o':=Option.some.inj (ho.symm.trans ho')
  rw[hd] at hd'
  injection hd' with e _
  obtain⟨e1,e2⟩:u=z∧u'=z':=by simpa using e
  subst e1;subst e2
  exact Prod.ext (V.inj hx hx') (W.inj hy hy')
 keep:=fun {h h' k v} ⟨u,u',⟨a,o,n,e,ho,hc,hd⟩,hx,hy⟩ kp=>⟨u,u',⟨a,o,n,e,kp a o _ _ ho hc hd,hc,hd⟩,V.keep hx kp,W.keep hy kp⟩
 pyHash:=fun hu ⟨_,_,T,hx,hy⟩ h=>V.pair_hash W hu T hx hy h
 eq:=fun {_ _ x y _ _} hu ⟨_,_,T,hx,hy⟩ ⟨_,_,T',hx',hy'⟩=>V.pair_eq W hu T T' hx hy hx' hy'
 quiet:=fun n hn ⟨_,_,T,hx,hy⟩ h=>V.pair_quiet W n hn T hx hy h
 cls:=fun n hn ⟨_,_,T,hx,hy⟩ h=>V.pair_cls W n hn T hx hy h
 byv:=fun n hn ⟨_,_,T,hx,hy⟩ h=>V.pair_byv W n hn T hx hy h
end
end My
namespace My
open PySem PySem.Spec PySem.W PyProof.Rows L2 PyProof PySem.SeqAt
def Low (n:Nat) (p:Array Nat):Prop:=0 < n∧∀ x∈p.toList,x < n
theorem Low.at {n:Nat} {p:Array Nat} (l:Low n p) (i:Nat):p.getD i 0 < n:=by
 by_cases h:i < p.size
 ·have e:p.getD i 0=p[i]:=by simp[Array.getD,h]
  rw[e]
  exact l.2 _ (by simp)
 ·have e:p.getD i 0=0:=by simp[Array.getD,h]
  rw[e]
  exact l.1
structure VO (K:Type) [DecidableEq K] extends HVK K where
 lt:K→K→Bool
 irr:∀ x,lt x x=false
 tr:∀ x y z,lt x y=true→lt y z=true→lt x z=true
 tot:∀ x y,x≠y→lt x y=false→lt y x=true
 T:Value
 rfT:(T == T)=true
 typ:∀ {h:Heap} {k:K} {v:Value} (M:Model),is h k v→Looks M h (typeOf v) T
 one:∀ {prog:Program} {w:World} {A:Around} {E:Value→Shared→Prop} {s:Shared} {x y:K} {u v:Value} {Q:Bool→Shared→Prop} (b:Bool),(b=true→(T != Value.type "tuple")=true)→A.units+d < cLine→is s.heap x u→is s.heap y v→Q (lt x y) s→wpAny (model prog w) A (oneLt' b u v) Q E s
def ltP {K L:Type} [DecidableEq K] [DecidableEq L] (f:K→K→Bool) (g:L→L→Bool) (a b:K×L):Bool:=if a.1=b.1 then g a.2 b.2 else f a.1 b.1
section
variable {K L:Type} [DecidableEq K] [DecidableEq L]
theorem f5a (V:VO K) (W:VO L) (x:K×L):ltP V.lt W.lt x x=false:=by unfold ltP;rw[if_pos rfl];exact W.irr _
theorem f7t (V:VO K) (W:VO L) (x y z:K×L) (h:ltP V.lt W.lt x y=true) (h':ltP V.lt W.lt y z=true):ltP V.lt W.lt x z=true:=by
 unfold ltP at *
 by_cases e:x.1=y.1
 ·rw[if_pos e] at h
  by_cases e':y.1=z.1
  ·rw[if_pos e'] at h'
   rw[if_pos (e.trans e')]
   exact W.tr _ _ _ h h'
  ·rw[if_neg e'] at h'
   rw[if_neg (fun q=>e' (e.symm.trans q)),e]
   exact h'
 ·rw[if_neg e] at h
  by_cases e':y.1=z.1
  ·rw[if_neg (fun q=>e (q.trans e'.symm)),←e']
   exact h
  ·rw[if_neg e'] at h'
   have t:=V.tr _ _ _ h h'
   rw[if_neg fun q=>?_]
   ·exact t
   ·rw[q,V.irr] at t;cases t
theorem f2s (V:VO K) (W:VO L) (x y:K×L) (n:x≠y) (h:ltP V.lt W.lt x y=false):ltP V.lt W.lt y x=true:=by
 unfold ltP at *
 by_cases e:x.1=y.1
 ·rw[if_pos e] at h
  rw[if_pos e.symm]
  exact W.tot _ _ (fun q=>n (Prod.ext e q)) h
 ·rw[if_neg e] at h
  rw[if_neg (fun q=>e q.symm)]
  exact V.tot _ _ e h
def VO.int:VO Int where
 toHVK:=HVK.int
 lt:=fun a b=>decide (a < b)
 irr:=fun x=>by simp
 tr:=fun x y z h h'=>by simp only [decide_eq_true_eq] at *;omega
 tot:=fun x y n h=>by simp only [decide_eq_true_eq,decide_eq_false_iff_not] at *;omega
 T:=.type "int"
 rfT:=by decide
 typ:=fun M ⟨t,e⟩=>by
  subst e
  intro A Q E s _ q
  exact wpAny_typeOf (T:="int") rfl q
 one:=fun b _ _ ⟨t,e⟩ ⟨t',e'⟩ h=>by
  subst e;subst e'
  cases b with
  | true=>exact oneLt_int h
  | false=>exact kat_one _ _ (lt_int h)
def VO.node:VO (Int×Int) where
 toHVK:=HVK.int.pair HVK.int
 lt:=ltP VO.int.lt VO.int.lt
 irr:=f5a VO.int VO.int
 tr:=f7t VO.int VO.int
 tot:=f2s VO.int VO.int
 T:=.type "tuple"
 rfT:=by decide
 typ:=fun M ⟨u,u',⟨a,o,n,e,ho,hc,hd⟩,_⟩=>by
  subst e
  intro A Q E s k q
  exact wpAny_typeOf (T:="tuple") ⟨o,k a o ho,hc⟩ q
 one:=fun {prog w A E s x y u v Q} b hb hu ⟨u1,u2,⟨a,o,n,e,ho,hc,hd⟩,⟨t1,e1⟩,⟨t2,e2⟩⟩ ⟨v1,v2,⟨a',o',n',e',ho',hc',hd'⟩,⟨t1',e1'⟩,⟨t2',e2'⟩⟩ h=>by
  subst e;subst e';subst e1;subst e2;subst e1';subst e2'
  cases b with
  | true=>exact absurd (hb rfl) (by decide)
  | false =>
   refine kat_one _ _ (HT.lt_tupInts (ns:=[x.1,x.2]) (ms:=[y.1,y.2]) ⟨o,ho,hc,n,hd⟩ ⟨o',ho',hc',n',hd'⟩ (.cons _ _ (.cons _ _ .nil)) (.cons _ _ (.cons _ _ .nil)) (by omega) ?_)
   have el:HT.lexLt [x.1,x.2] [y.1,y.2]=ltP VO.int.lt VO.int.lt x y:=by
    unfold ltP
    rw[HT.lexLt_cons,HT.lexLt_cons,HT.lexLt_nil_nil]
    by_cases q:x.1=y.1
    ·rw[if_pos q,if_pos q]
     by_cases q2:x.2=y.2
     ·rw[if_pos q2,q2];exact(VO.int.irr _).symm
     ·rw[if_neg q2];rfl
    ·rw[if_neg q,if_neg q];rfl
   rw[el]
   exact h
end
end My
namespace My
open PySem PySem.Spec PySem.W PyProof.Rows L2 PyProof PySem.SeqAt
mutual
inductive TF (H:Hp):V→PyData→List Addr→Prop where
 | int (i:Int):TF H (.int i) (.int i) []
 | str (x:Str):TF H (.str x) (.str x) []
 | lst {a:Addr} {xs:List V} {ds:List PyData} {f:List Addr} (h:H a=some (.lst xs)) (r:TFs H xs ds f):TF H (.ref a) (.list ds) (a::f)
 | tup {a:Addr} {xs:List V} {ds:List PyData} {f:List Addr} (h:H a=some (.tup xs)) (r:TFs H xs ds f):TF H (.ref a) (.tuple ds) (a::f)
inductive TFs (H:Hp):List V→List PyData→List Addr→Prop where
 | nil:TFs H [] [] []
 | cons {x:V} {d:PyData} {xs:List V} {ds:List PyData} {f g:List Addr} (h:TF H x d f) (r:TFs H xs ds g):TFs H (x::xs) (d::ds) (f++g)
end
mutual
theorem TF.tr {H:Hp} {v:V} {d:PyData} {f:List Addr} (h:TF H v d f):Tr H v d:=by
 cases h with
 | int i=>exact .int i
 | str x=>exact .str x
 | lst h r=>exact .lst h (TFs.trs r)
 | tup h r=>exact .tup h (TFs.trs r)
theorem TFs.trs {H:Hp} {vs:List V} {ds:List PyData} {f:List Addr} (h:TFs H vs ds f):Trs H vs ds:=by
 cases h with
 | nil=>exact .nil
 | cons h r=>exact .cons (TF.tr h) (TFs.trs r)
end
mutual
theorem TF.fr {H H':Hp} {v:V} {d:PyData} {f:List Addr} (h:TF H v d f) (k:∀ b∈f,∀ o,H b=some o→H' b=some o):TF H' v d f:=by
 cases h with
 | int i=>exact .int i
 | str x=>exact .str x
 | lst h r=>exact .lst (k _ List.mem_cons_self _ h) (TFs.fr r fun b hb=>k b (List.mem_cons_of_mem _ hb))
 | tup h r=>exact .tup (k _ List.mem_cons_self _ h) (TFs.fr r fun b hb=>k b (List.mem_cons_of_mem _ hb))
theorem TFs.fr {H H':Hp} {vs:List V} {ds:List PyData} {f:List Addr} (h:TFs H vs ds f) (k:∀ b∈f,∀ o,H b=some o→H' b=some o):TFs H' vs ds f:=by
 cases h with
 | nil=>exact .nil
 | cons h r=>exact .cons (TF.fr h fun b hb=>k b (List.mem_append_left _ hb)) (TFs.fr r fun b hb=>k b (List.mem_append_right _ hb))
end
mutual
theorem TF.live {H:Hp} {v:V} {d:PyData} {f:List Addr} (h:TF H v d f):∀ b∈f,(∃ xs,H b=some (.lst xs))∨∃ xs,H b=some (.tup xs):=by
 cases h with
 | int i=>intro b hb;cases hb
 | str x=>intro b hb;cases hb
 | lst h r =>
  intro b hb
  rcases List.mem_cons.mp hb with z | z
  ·exact .inl ⟨_,z ▸ h⟩
  ·exact TFs.live r b z
 | tup h r =>
  intro b hb
  rcases List.mem_cons.mp hb with z | z
  ·exact .inr ⟨_,z ▸ h⟩
  ·exact TFs.live r b z
theorem TFs.live {H:Hp} {vs:List V} {ds:List PyData} {f:List Addr} (h:TFs H vs ds f):∀ b∈f,(∃ xs,H b=some (.lst xs))∨∃ xs,H b=some (.tup xs):=by
 cases h with
 | nil=>intro b hb;cases hb
 | cons h r =>
  intro b hb
  rcases List.mem_append.mp hb with z | z
  ·exact TF.live h b z
  ·exact TFs.live r b z
end
theorem TF.same {H H':Hp} (s:Same H H') {v:V} {d:PyData} {f:List Addr} (h:TF H v d f):TF H' v d f:=h.fr fun b _ o e=>s b o e
theorem TFs.same {H H':Hp} (s:Same H H') {vs:List V} {ds:List PyData} {f:List Addr} (h:TFs H vs ds f):TFs H' vs ds f:=h.fr fun b _ o e=>s b o e
theorem TF.not {H:Hp} {v:V} {d:PyData} {f:List Addr} (h:TF H v d f) {b:Addr} (e:H b=none):b ∉ f:=fun hb=>by
 rcases h.live b hb with ⟨xs,q⟩ | ⟨xs,q⟩<;>rw[e] at q<;>cases q
theorem TFs.not {H:Hp} {vs:List V} {ds:List PyData} {f:List Addr} (h:TFs H vs ds f) {b:Addr} (e:H b=none):b ∉ f:=fun hb=>by
 rcases h.live b hb with ⟨xs,q⟩ | ⟨xs,q⟩<;>rw[e] at q<;>cases q
theorem TFs.one {H:Hp} {v:V} {d:PyData} {f:List Addr} (h:TF H v d f):TFs H [v] [d] f:=by
 have:=TFs.cons h .nil
 rw[List.append_nil] at this
 exact this
theorem TFs.ints {H:Hp}:∀ ns:List Int,TFs H (ns.map V.int) (ns.map PyData.int) []
 | []=>.nil
 | n::r=>TFs.cons (f:=[]) (g:=[]) (.int n) (TFs.ints r)
theorem TFs.len {H:Hp} {vs:List V} {ds:List PyData} {f:List Addr} (h:TFs H vs ds f):vs.length=ds.length:=h.trs.len
end My
namespace My
open PySem PySem.Spec PySem.W PyProof.Rows L2 PyProof PySem.SeqAt
structure g1z (K:PySem.W.Frag) (x qual:Str) (st:Stmt) (f:Addr) (fd:FuncData):Prop where
 ex:∃ (oc:Value) (od:Option Addr) (dV kV doc pm:Value) (an:Option Addr) (cdv ct:Value) (osl:Array (Option Value)),
  fd=PySem.W.fnOf x qual (a0p st) (a0l st) (a0c st) dV kV doc pm an cdv ct∧K.lookup f=some ⟨oc,od,.func fd,osl⟩∧PySem.W.codeIn K cdv qual=true
 kp:PySem.W.keepIn K (.ref f)=true
end My
namespace My
open PySem PySem.Spec PySem.W PyProof.Rows L2 PyProof PySem.SeqAt
def KN (H H':Hp):Prop:=∀ b o,(∀ xs,o≠HO.lst xs)→H b=some o→H' b=some o
theorem KN.of {H H':Hp} (s:Same H H'):KN H H':=fun b o _ e=>s b o e
theorem KN.but {H H':Hp} {D:Addr} {ys:List V} (h:H D=some (.lst ys)) (k:∀ b o,b≠D→H b=some o→H' b=some o):KN H H':=fun b o n e=>k b o (fun z=>by rw[z,h] at e;exact n _ (Option.some.inj e).symm) e
theorem KN.upd {H:Hp} {D:Addr} {ys:List V} {o:HO} (h:H D=some (.lst ys)):KN H (upd H D o):=KN.but h fun b o n e=>by rw[a0d n];exact e
end My
namespace My
open PySem PySem.Spec PySem.W PyProof.Rows L2 PyProof PySem.SeqAt
abbrev TB:=L2.St→Hp→(Hp→Prop)→XK→Prop
structure PB (X:Cx) (body:List Stmt) (t:TB):Prop where
 run:∀ (pins:List (Addr×Obj)) (s:Shared) (σ:L2.St) (H:Hp) (Q:Hp→Prop) (E:XK),Inv X pins σ H s→t σ H Q E→wpAny (model X.prog X.w) X.A (execs body X.env) (fun f s'=>f=.next∧∃ H',Inv X pins σ H' s'∧Q H') (fun e s'=>∃ H1 s1,Inv X pins σ H1 s1∧CXW X.prog X.w X.stack H1 s1 E e s') s
section
variable {X:Cx}
theorem b7m {k:Nat} {fa Cc:Addr} {fd:FuncData} {ps:List Str} {sp:Sp} {m:Str} {o a1:Expr} {as:List Expr} {ta:TE} {t:TA} {ap cpos epos:Pos} {pl:Sem Bool}
  (he:PE X.nox o ta) (cc:Cls X.K Cc) (hm:a6d X.K Cc m fa) (F:a2j X.prog X.w X.K X.mg X.base (CXW X.prog X.w) k fa fd ps sp) (hr:Room k X.A) (hb:a0x X.K fd ps []) (ha:PA X.nox (a1::as) t)
  (he2:starEach (a1::as) X.env=(false,eval a1 X.env)::starEach as X.env:=by rfl) (hpl:(backTo cpos (starEach as X.env)).any (·.1)=false:=by rfl)
  (ht:eval (.Call (.Attribute o m ap) (a1::as) [] cpos) X.env=(do
   let ov ← eval o X.env
   standAt ap.atName
   let (f,first) ← holding [ov] (getMethod ov m pl)
   callWith cpos f first (backTo cpos (starEach (a1::as) X.env)) (backToKw cpos (keywordEach [] X.env))):=by rfl)
  (hsw:swapsWith (.Call (.Attribute o m ap) (a1::as) [] cpos) none epos.line X.env=pure false:=by rfl) :
  PB X [.Expr (.Call (.Attribute o m ap) (a1::as) [] cpos) epos] (fun σ H Q E=>ta σ H fun x H1=>∃ a dx fs,x=.ref a∧H1 a=some (.ins Cc dx fs)∧fs.lookup m=none∧t σ H1 fun vs H2=>sp (x::vs) H2 (fun _ H3=>Q H3) E):=by
 refine⟨fun pins s σ H Q E I h=>?_⟩
 refine wpAny_execs_cons (wpAny_Expr_any ?_ I.quiet hsw)
 refine PySem.W.methodCall_KW (pl:=pl) (wpAny_mono (he pins s σ H _ (I.wish _) h) (fun u s1 ⟨x,H1,I1w,rx,a,dx,fs,ex,ea,l,q⟩=>?_) fun _ _ z=>z.elim) ht
 have I1:Inv X pins σ H1 s1:=I1w.unwish
 subst ex
 obtain rfl:u=Value.ref a:=rx
 refine b0y I1 ea cc hm l ?_
 refine PySem.W.callWith_K (first:=[.ref a]) (h₀:=X.base) I.ok.mod.kin hm.kp (wpAny_mono (ha cpos pins s1 σ H1 _ (I1.wish _) q) (fun us s2 ⟨vs,H2,I2w,r,q2⟩=>⟨I2w.kIn,?_⟩) fun _ _ z=>z.elim) he2 hpl
 have I2:Inv X pins σ H2 s2:=I2w.unwish
 have r':a3c (V.ref a::vs) (Value.ref a::us):=.cons rfl r
 have hl:(Value.ref a::us).length=ps.length:=by rw[←r'.length];exact F.len _ _ _ _ q2
 have hbb:=hb s2 (.ref a::us) I2.kIn (by rw[List.append_nil];exact hl)
 rw[List.append_nil] at hbb
 refine wpAny_call (codeAny_mono (F.run X.A X.stack s2 H2 ⟨.ref a::us,[]⟩ (.ref a::us) (.ref a::vs) _ _ hr I2.env0 hbb r' q2) fun res s' hq=>?_)
 cases res with
 | ok fl =>
  cases fl with
  | ret u =>
   obtain⟨v,H3,I3,r3,q3⟩:=I2.after hq
   exact wpAny_execs_nil ⟨rfl,H3,I3,q3⟩
  | next=>exact False.elim hq
  | brk=>exact False.elim hq
  | cont=>exact False.elim hq
 | error e=>exact⟨H2,s2,I2,hq⟩
theorem e9k {ct:Expr} {tc:L2.TT} {b1 b2:List Stmt} {t1 t2:TB} {ipos:Pos} (hc:PT X.nox ct tc) (h1:PB X b1 t1) (h2:PB X b2 t2) :
  PB X [.If ct b1 b2 ipos] (fun σ H Q E=>tc σ H fun b H0=>if b=true then t1 σ H0 Q E else t2 σ H0 Q E):=by
 refine⟨fun pins s σ H Q E I h=>?_⟩
 refine wpAny_execs_cons (wpAny_If (wpAny_mono (hc pins s σ H _ (I.wish _) h) (fun b s1 ⟨H0,I0w,q⟩=>?_) fun _ _ z=>z.elim))
 have I0:Inv X pins σ H0 s1:=I0w.unwish
 have fin:∀ f s',(f=Flow.next∧∃ H',Inv X pins σ H' s'∧Q H')→wpAny (model X.prog X.w) X.A (execs [] X.env) (fun f s'=>f=.next∧∃ H',Inv X pins σ H' s'∧Q H') (fun e s'=>∃ H1 s1,Inv X pins σ H1 s1∧CXW X.prog X.w X.stack H1 s1 E e s') s':=fun f s' z=>wpAny_execs_nil ⟨rfl,z.2⟩
 cases b with
 | true =>
  rw[if_pos rfl] at q
  exact wpAny_mono (h1.run pins s1 σ H0 Q E I0 q) (fun f s' z=>by obtain⟨rfl,z2⟩:=z;exact fin _ _ ⟨rfl,z2⟩) fun _ _ z=>z
 | false =>
  rw[if_neg Bool.false_ne_true] at q
  exact wpAny_mono (h2.run pins s1 σ H0 Q E I0 q) (fun f s' z=>by obtain⟨rfl,z2⟩:=z;exact fin _ _ ⟨rfl,z2⟩) fun _ _ z=>z
theorem f2y {k:Nat} {f C:Addr} {fd:FuncData} {ps:List Str} {sp:Sp} {x:Str} {e:Expr} {es:List Expr} {t:TA} {p pos epos:Pos}
  (M:Mk X.K C f) (F:a2j X.prog X.w X.K X.mg X.base (CXW X.prog X.w) k f fd ps sp) (hr:Room (k+1) X.A) (hg:Gl X x) (hm:X.mg x=some (.ref C)) (hb:a0x X.K fd ps [])
  (ha:PA X.nox (e::es) t) (hdb:(x == ("__debug__":Str))=false:=by decide) (he:starEach (e::es) X.env=(false,eval e X.env)::starEach es X.env:=by rfl) (hpl:(backTo pos (starEach es X.env)).any (·.1)=false:=by rfl)
  (hsw:swapsWith (.Call (.Name x p) (e::es) [] pos) none epos.line X.env=pure false:=by rfl) :
  PB X [.Expr (.Call (.Name x p) (e::es) [] pos) epos] (fun σ H Q E=>t σ H fun vs H1=>∀ a dx,H1 a=none→H1 dx=none→dx≠a→sp (.ref a::vs) (upd (upd H1 dx (.own a)) a (.ins C dx [])) (fun v H2=>v=.non∧Q H2) E):=by
 refine⟨fun pins s σ H Q E I h=>?_⟩
 refine wpAny_execs_cons (wpAny_Expr_any (wpAny_Call_Name_kw (b3u I hg hm ?_ hdb)) I.quiet hsw)
 refine PySem.W.callWith_K (h₀:=X.base) I.ok.mod.kin M.kp (wpAny_mono (ha pos pins s σ H _ (I.wish _) h) (fun us s1 ⟨vs,H1,I1w,r,q⟩=>⟨I1w.kIn,?_⟩) fun _ _ z=>z.elim) he hpl
 have I1:Inv X pins σ H1 s1:=I1w.unwish
 have hq:=q (s1.heap.objs.size+1) s1.heap.objs.size (I1.hok.fresh (Nat.le_succ _)) (I1.hok.fresh (Nat.le_refl _)) (Nat.ne_of_lt (Nat.lt_succ_self _))
 have I2:=Inv.made (C:=C) I1
 have r2:a3c (V.ref (s1.heap.objs.size+1)::vs) (Value.ref (s1.heap.objs.size+1)::us):=.cons rfl r
 have hl:(Value.ref (s1.heap.objs.size+1)::us).length=ps.length:=by rw[←r2.length];exact F.len _ _ _ _ hq
 refine wpAny_call (e0h (f:=f) I1.kIn M.makes M.init (beq_iff_eq.mp M.fn) (codeAny_mono (F.run _ X.stack _ _ ⟨Value.ref (s1.heap.objs.size+1)::us,[]⟩ (Value.ref (s1.heap.objs.size+1)::us) _ _ E (hr.make C us [])
  (I2.env0.make C us []) (by have:=hb _ (Value.ref (s1.heap.objs.size+1)::us) I2.kIn (by rw[List.append_nil];exact hl);rw[List.append_nil] at this;exact this) r2 hq) fun res s' hq'=>?_))
 cases res with
 | error e=>exact⟨_,_,I2,hq'⟩
 | ok fl =>
  cases fl with
  | ret u =>
   obtain⟨v,H',I3,rv,ev,q3⟩:=I2.after hq'
   subst ev
   exact⟨rv,wpAny_execs_nil ⟨rfl,H',I3,q3⟩⟩
  | next=>exact False.elim hq'
  | brk=>exact False.elim hq'
  | cont=>exact False.elim hq'
theorem d9e {ho:Addr→Addr→Option Addr→HO} {S:Addr} {body:List Stmt} {tb:TB} {c n:Str} {j:Nat} {b₀:Stmt} {suite:List Stmt} {th:TS} {np hpos pos:Pos}
  (hbody:PB X body tb) (T:f9o X.K X.mg c S) (hgc:Gl X c) (hN:X.N.Nodup) (hj:X.N[j]?=some n) (hxn:X.env.scope.names.lookup n=some .local) (hst:X.stack=X.env::X.outer) (hfr:X.env.frame=some X.env.locals)
  (hs:∀ ea,PSs (d8o X ea) (b₀::suite) th) (hho:∀ (H:Hp) (h:Heap) (ea C:Addr) (d:Option Addr),e6w ea C d h→a2f X.prog X.w H h ea (ho ea C d)) (hdc:(c == ("__debug__":Str))=false:=by decide) :
  PS X (.Try body [.ExceptHandler (some (.Name c np)) (some n) (b₀::suite) hpos] [] [] pos)
   (fun D σ H=>tb σ H (fun H2=>D.nx σ H2) (fun cls d H2=>∃ C,cls=.ref C∧PySem.W.subIn X.K (.ref C) (.ref S)=some true∧∀ ea,H2 ea=none→th (gone j D) (σ.set j (some (.ref ea))) (upd H2 ea (ho ea C d)))):=by
 constructor;intro pins s σ H D I h
 refine wpAny_Try_except (wpAny_mono (hbody.run pins s σ H _ _ I h) (fun f s' ⟨e,H2,I2,q⟩=>?_) fun e s' ⟨H1,s1,I1,hq⟩=>?_)
 ·subst e
  exact wpAny_execs_nil ⟨_,H2,I2,q⟩
 ·exact f7g (ho:=ho) I1 hq T hgc hN hj hxn hst hfr hs hho hdc
end
end My
namespace My
open PySem PySem.Spec PyProof.Rows L2 PyProof
open Sem (wp)
set_option maxRecDepth 100000
theorem d9i (l:Addr) (items:Array Value) (n:Nat) (t:Tok) :
  Meets (Builtin.«enumerate.__new__» ⟨[.type "enumerate",.ref l],[("start",.int 1 t)]⟩) (fun _ R s=>s.heap.get? l=some {cls:=.type "list",dict:=none,data:=.seq items n,slots:=#[]} ∧
   R (.ok (.ret (.ref (s.heap.push {cls:=.type "list_iterator",data:=.fields #[.ref l,.int 0 0]}).objs.size)))
    {s with heap:=(s.heap.push {cls:=.type "list_iterator",data:=.fields #[.ref l,.int 0 0]}).push {cls:=.type "enumerate",data:=.fields #[.none,.bool false,.ref s.heap.objs.size,rawInt 1,.none,.none]}}) :=
 .of_wp fun prog w A R s h=>by
  obtain⟨hp,g,d,tk,os⟩:=s;obtain⟨hl,h⟩:=h
  have hsub:=sub_enumerate
  have hL:Heap.IsList (Shared.heap ⟨hp,g,d,tk,os⟩) l items:=⟨_,hl,rfl,n,rfl⟩
  wp_walk using wpAny_loadPart' hl
  refine wpAny_stack_any fun st=>wpAny_pure ?_
  split
  ·rename_i c _ _ _ _ _
   cases (c == Value.type "enumerate")<;>(wp_walk using wpAny_loadPart' hl,wpAny_pyIter_list hL;exact⟨_,rfl,h⟩)
  ·wp_walk using wpAny_loadPart' hl,wpAny_pyIter_list hL
   exact⟨_,rfl,h⟩
theorem e9j {T newId:String} {self a:Value} {rest:List Value} {kw:List (Str×Value)} (hl:typeLookup (.type T) "__init__"=pure (some (.builtin "object.__init__")))
  (hm:Bind.madeBy (.type T)=pure (some newId)) (hne:(some newId != some "object.__new__")=true) :
  Meets (Builtin.«object.__init__» ⟨self::a::rest,kw⟩) (fun _ R s=>s.TypeIs self T∧R (.ok (.ret .none)) s):=by
 refine Meets.of_wp fun prog w A R s hs=>?_
 obtain⟨hT,hq⟩:=hs
 repeat (any_goals (first | assumption | wp_step))
 exact⟨_,rfl,hq⟩
theorem e8r (a b:Value):checkTypeCall "enumerate" ⟨[a],[("start",b)]⟩=pure ():=by kernel_rfl
theorem f0m (a b:Value):checkBuiltinCall "enumerate.__new__" ⟨[.type "enumerate",a],[("start",b)]⟩=pure ():=by kernel_rfl
theorem e3l (o a b:Value):argsOk "object.__init__" ⟨[o,a],[("start",b)]⟩:=by
 unfold argsOk;rw[signature?_of (id:="object.__init__") (n:=['_','_','t','i','n','i','_','_']) (o:=['t','c','e','j','b','o']) (by kernel_rfl) F.owner_object];kernel_rfl
section
variable {prog:Program} {w:World} {A:Around} {E:Value→Shared→Prop} {s:Shared}
theorem e2g {l:Addr} {items:Array Value} {n:Nat} {t:Tok} {Q:Value→Shared→Prop}
  (hl:s.heap.get? l=some {cls:=.type "list",dict:=none,data:=.seq items n,slots:=#[]})
  (h:∀ h',IsEnum h' (s.heap.objs.size+1) s.heap.objs.size 1 .none→h'.IsListIter s.heap.objs.size l 0→(∀ b o,s.heap.get? b=some o→h'.get? b=some o)→Q (.ref (s.heap.objs.size+1)) {s with heap:=h'}) :
  wpAny (model prog w) A (call (.type "enumerate") [.ref l] [("start",.int 1 t)]) Q E s:=by
 have ft:=F.called_enumerate
 obtain⟨c,tl,hmro⟩:=ft.mro
 have hmade:=ft.made
 have hsub:=ft.sub
 refine wpAny_call (codeAny_of_tree ?_)
 show wpAny _ _ (callAny (.type "enumerate") _) _ _ _
 refine wpAny_pure ⟨Code.quiet_builtin _ (by decide +kernel),codeAny_builtin F.entry_type_call ?_⟩
 rw[Around.under_plain (weight_type_call_type "enumerate" _ _) (units_type_call_type "enumerate" _ _)]
 have h1:=ft.notType
 have h2:=ft.canCreate
 have hct:=e8r (.ref l) (.int 1 t)
 repeat (any_goals (first | assumption | wp_step))
 have hz:(s.heap.push {cls:=.type "list_iterator",data:=.fields #[.ref l,.int 0 0]}).objs.size=s.heap.objs.size+1:=Heap.size_push ..
 refine codeAny_mono (codeAny_call_builtin ft.plain F.entry_enumerate_new (wpAny_of_eq (f0m (.ref l) (.int 1 t)) (d9i l items n t prog w A.in1 (wants (fun obj s₁=>obj=.ref (s.heap.objs.size+1)∧IsEnum s₁.heap (s.heap.objs.size+1) s.heap.objs.size 1 .none∧Q obj s₁) E) s ⟨hl,?_⟩))) fun r s₁ hr=>?_
 ·show _∧_∧_
  rw[hz]
  have he:IsEnum ((s.heap.push {cls:=.type "list_iterator",data:=.fields #[.ref l,.int 0 0]}).push
    {cls:=.type "enumerate",data:=.fields #[.none,.bool false,.ref s.heap.objs.size,rawInt 1,.none,.none]}) (s.heap.objs.size+1) s.heap.objs.size 1 .none:=by
   have:=Heap.get?_push_size (s.heap.push {cls:=.type "list_iterator",data:=.fields #[.ref l,.int 0 0]})
    (o:={cls:=.type "enumerate",data:=.fields #[.none,.bool false,.ref s.heap.objs.size,rawInt 1,.none,.none]}) rfl
   rw[hz] at this;exact this
  exact⟨rfl,he,h _ he ⟨_,Heap.get?_push_of_some _ (Heap.get?_push_size _ rfl),rfl,rfl⟩ fun b o x=>Heap.get?_push_of_some _ (Heap.get?_push_of_some _ x)⟩
 cases r with
 | error e=>exact hr
 | ok fl =>
  cases fl with
  | ret obj =>
   obtain⟨rfl,he,hq⟩:=hr
   have hT:s₁.TypeIs (.ref (s.heap.objs.size+1)) "enumerate":=⟨_,he,rfl⟩
   have hli:=ft.init.lookup
   have hbi:=ft.init.bind (.ref (s.heap.objs.size+1))
   repeat (any_goals (first | assumption | wp_step))
   refine codeAny_mono (codeAny_call_builtin ft.init.plain F.entry_object_init (ft.init.check _ _ _ _ _ _ _ _ hT (e3l _ _ _) ((e9j ft.init.lookup ft.made (by decide)) prog w A.in1 (wants (fun r s₂=>r=.none∧Q (.ref (s.heap.objs.size+1)) s₂) E) s₁ ⟨hT,rfl,hq⟩))) fun r₂ s₂ hr₂=>?_
   cases r₂ with
   | error e=>exact hr₂
   | ok fl₂ =>
    cases fl₂ with
    | ret r =>
     obtain⟨rfl,hq⟩:=hr₂
     repeat (any_goals (first | assumption | wp_step))
    | _=>exact hr₂.elim
  | _=>exact hr.elim
end
theorem f0c {prog:Program} {w:World} {A:Around} {it:Addr} {fp:List Addr} {n:Nat} {P:Nat→Value→Prop} {St:Nat→Heap→Prop} (D:Draws prog w A it fp n P St) :
  Draws prog w A it fp (n+1) (fun i v=>∃ j,i=j+1∧P j v) (fun i h=>∃ j,i=j+1∧St j h) where
 live:=fun i h ⟨j,_,st⟩=>D.live j h st
 frame:=fun i h h' ⟨j,e,st⟩ k=>⟨j,e,D.frame j h h' st k⟩
 item:=fun i s Q E hi ⟨j,e,st⟩ hQ=>by
  subst e
  exact D.item j s Q E (by omega) st fun x h' tk hp st' sb=>hQ x h' tk ⟨j,rfl,hp⟩ ⟨j+1,rfl,st'⟩ sb
 done:=fun s Q E ⟨j,e,st⟩ hE=>by
  obtain rfl:j=n:=by omega
  exact D.done s Q E st hE
def g0d (K:PySem.W.Frag) (a:Addr):It :=
 ⟨fun i H=>∃ xs x,SqL K H a xs∧xs[i]?=some x,fun i H v H'=>∃ p x,(∀ xs,SqL K H a xs→xs[i]?=some x)∧v=.ref p∧H p=none∧H'=upd H p (.tup [.int ((i:Int)+1),x]),fun i H=>∃ xs,SqL K H a xs∧xs.length=i⟩
section
variable {P:Program} {w:World} {K:PySem.W.Frag}
theorem e2y (a e it:Addr) (hei:e≠it) {elts:List Expr} {kk:Nat} {tpos:Pos}:f1l P w K (.Tuple elts kk tpos) (g0d K a) [e,it] e (fun i h=>(∃ old,IsEnum h e it ((i:Int)+1) old)∧h.IsListIter it a i) where
 mem:=by simp
 obj:=fun i h ⟨⟨old,he⟩,hi⟩ c hc=>by
  simp only [List.mem_cons,List.not_mem_nil,or_false] at hc
  rcases hc with z | z
  ·rw[z];exact⟨_,he,fun v z=>by simp at z⟩
  ·rw[z]
   obtain⟨o,eo,c,d⟩:=hi
   exact⟨o,eo,fun v z=>by rw[d] at z;cases z⟩
 keep:=fun i h h' ⟨⟨old,he⟩,hi⟩ k=>⟨⟨old,k e (by simp) _ he⟩,hi.at fun o eo=>k it (by simp) o eo⟩
 item:=by
  intro X hP hw hK hc i pins s σ H E I hf st hg
  subst hP hw hK
  obtain⟨⟨old,he⟩,hi⟩:=st
  obtain⟨xs,x,hq,hx⟩:=hg
  obtain⟨its,rv,p,hz⟩:=I.list hq
  obtain⟨u,hu,ru⟩:=rv.get hx
  have hlt:i < its.toArray.size:=by rw[List.size_toArray];exact(List.getElem?_eq_some_iff.mp hu).1
  have hai:a≠it:=fun z=>by
   obtain⟨o,e1,c1,_⟩:=p.isList
   obtain⟨o2,e2,c2,_⟩:=hi
   rw[z,e2] at e1
   cases e1
   rw[c2] at c1
   exact absurd c1 (by decide)
  have hae:e≠a:=fun z=>by
   obtain⟨o,e1,c1,_⟩:=p.isList
   rw[←z,he] at e1
   cases e1
   exact absurd c1 (show ¬ (Value.type "enumerate"=Value.type "list") from by decide)
  have he':IsEnum s.heap e it ((i+1:Nat):Int) old:=by rw[Int.natCast_add];exact he
  refine wpAny_pyNext_enum_itemD (f0c (Draws.list (A:=X.A.in1) (I.ok.hd hc) it a hai its.toArray)) he' ⟨i,rfl,hi,p.isList⟩ (by omega) hei ?_ fun x' h' tk hx' ho' st' ht' hz' k'=>?_
  ·simp only [List.mem_cons,List.not_mem_nil,or_false,not_or]
   exact⟨hei,hae⟩
  obtain⟨j,ej,hx'⟩:=hx'
  obtain rfl:j=i:=by omega
  obtain⟨j2,ej2,st',_⟩:=st'
  obtain rfl:j2=j+1:=by omega
  have ex:x'=u:=by
   have:its[j]?=some x':=by simpa using hx'
   rw[hu] at this
   exact(Option.some.inj this).symm
  subst ex
  refine⟨_,rfl,wpAny_letOwnedTupleGo_enum ho' fun h2 he2 hs2=>?_⟩
  have helt:e < s.heap.objs.size:=Heap.lt_size he
  have hilt:it < s.heap.objs.size:=let ⟨o,eo,_⟩:=hi;Heap.lt_size eo
  have nT:s.heap.get? s.heap.objs.size=none:=Heap.get?_none_of_le (Nat.le_refl _)
  have hT:h2.get? s.heap.objs.size=some {cls:=.type "tuple",data:=.seq #[.int ((j+1:Nat):Int) tk,x']}:=hs2.extBut _ _ (Nat.ne_of_gt helt) ht'
  have st2:=st'.at fun o eo=>hs2.extBut _ _ (Ne.symm hei) eo
  have I2:Inv X pins σ H {s with heap:=h2,toks:=tk+1}:=f3v I (hf e (by simp)) (hf it (by simp)) ⟨_,he2⟩ (let ⟨o,eo,_⟩:=st2;⟨o,eo⟩) fun b o n1 n2 q=>hs2.extBut _ _ n1 (k' b o n1 n2 q)
  have HT:H s.heap.objs.size=none:=a4r I nT
  have I3:Inv X pins σ (upd H s.heap.objs.size (.tup [.int ((j:Int)+1),x])) {s with heap:=h2,toks:=tk+1}:=c8a I I2 nT HT ⟨by show 2≤sizeLine;decide,[.int ((j+1:Nat):Int) tk,x'],.cons ⟨_,by rw[Int.natCast_add];rfl⟩ (.cons ru .nil),_,hT,rfl,_,rfl⟩
  refine⟨.ref s.heap.objs.size,_,I3,rfl,⟨s.heap.objs.size,x,fun ys hy=>by rw[I.list_inj hy hq];exact hx,rfl,HT,rfl⟩,⟨⟨_,by rw[Int.natCast_add] at he2;rw[Int.natCast_add];exact he2⟩,st2⟩,fun c hcm=>?_⟩
  simp only [List.mem_cons,List.not_mem_nil,or_false] at hcm
  rcases hcm with z | z
  ·rw[z,a0d (Nat.ne_of_lt helt)];exact(hf e (by simp)).1
  ·rw[z,a0d (Nat.ne_of_lt hilt)];exact(hf it (by simp)).1
 done:=by
  intro X hP hw hK hc i pins s σ H E I hf st hg
  subst hP hw hK
  obtain⟨⟨old,he⟩,hi⟩:=st
  obtain⟨xs,hq,hx⟩:=hg
  obtain⟨its,rv,p,hz⟩:=I.list hq
  have hai:a≠it:=fun z=>by
   obtain⟨o,e1,c1,_⟩:=p.isList
   obtain⟨o2,e2,c2,_⟩:=hi
   rw[z,e2] at e1
   cases e1
   rw[c2] at c1
   exact absurd c1 (by decide)
  have hn:its.toArray.size=i:=by rw[List.size_toArray,←rv.length];exact hx
  subst hn
  refine wpAny_pyNext_enum_endD (Draws.list (A:=X.A.in1) (I.ok.hd hc) it a hai its.toArray) he ⟨hi,p.isList⟩ fun h' k=>⟨rfl,?_⟩
  obtain⟨f0,f1,f2,f3,f4,f5⟩:=hf it (by simp)
  exact I.turned (t':=s.toks) (fun b o hb eo=>k b o hb eo) f0 f1 f3 f4 f5
 self:=fun _ _ _ _ _ st h=>let ⟨⟨_,he⟩,_⟩:=st;wpAny_pyIter_enum he h
end
section
variable {M:Model} {A:Around} {E:Value→Shared→Prop} {s:Shared} {env:Env}
theorem d7b {pos:Pos} {T:String} {e:Expr} {rest:List Expr} {kws:List Keyword} {Q:Value→Shared→Prop}
  (h:wpAny M A (spliced (backTo pos (starEach (e::rest) env))) (fun vs s₁=>wpAny M A (evalAll ((backToKw pos (keywordEach kws env)).map (·.2)))
   (fun kvs s₂=>wpAny M A (call (.type T) vs (((backToKw pos (keywordEach kws env)).filterMap (·.1)).zip kvs)) Q E s₂) E s₁) E s)
  (he:backTo pos (starEach (e::rest) env)=(false,eval e env)::backTo pos (starEach rest env):=by rfl)
  (hplain:(backTo pos (starEach (e::rest) env)).any (·.1)=false:=by rfl) (hall:(backToKw pos (keywordEach kws env)).all (·.1.isSome)=true:=by rfl) (hkw:(backToKw pos (keywordEach kws env)).any (·.1.isNone)=false:=by rfl) :
  wpAny M A (callWith pos (.type T) [] (backTo pos (starEach (e::rest) env)) (backToKw pos (keywordEach kws env))) Q E s:=by
 have key:wpAny M A (evalArgs (.type T) true (backTo pos (starEach (e::rest) env)) (backToKw pos (keywordEach kws env))) (fun a s₁=>wpAny M A (call (.type T) ([]++a.pos) a.kw) Q E s₁) E s:=by
  rw[he] at h ⊢
  exact evalArgs_kwB hall h
 unfold callWith
 refine wpAny_bind (wpAny_holding (wpAny_mono key (fun a s₁ h₁=>wpAny_bind (wpAny_standAt ?_)) fun _ _ x=>x))
 simp only [hplain,hkw,Bool.or_false]
 refine wpAny_bind (wpAny_pure ?_)
 exact wpAny_bind (wpAny_mono h₁ (fun r s₂ hr=>wpAny_bind (wpAny_holding (wpAny_point (wpAny_pure hr)))) fun _ _ x=>x)
end
section
variable {X:Cx}
def f5y (K:PySem.W.Frag) (ta tk:TA):TI:=fun σ H R=>ta σ H fun vs H1=>tk σ H1 fun zs H2=>∃ a xs,vs=[.ref a]∧zs=[.int 1]∧H2 a=some (.lst xs)∧R (g0d K a) H2
theorem e8t {a d:Expr} {ta tk:TA} {p pos kpos:Pos} {elts:List Expr} {kk:Nat} {tpos:Pos} (hg:Gl X "enumerate") (hm:X.mg "enumerate"=none) (ha:PA X [a] ta) (hkw:PK X [⟨some "start",d,kpos⟩] tk)
  (he:backTo pos (starEach [a] X.env)=(false,eval a X.env)::backTo pos (starEach [] X.env):=by rfl) (hpl:(backTo pos (starEach [a] X.env)).any (·.1)=false:=by rfl) :
  PI X (.Tuple elts kk tpos) (.Call (.Name "enumerate" p) [a] [⟨some "start",d,kpos⟩] pos) (f5y X.K ta tk):=by
 constructor;intro pins s σ H R I h
 refine wpAny_Call_Name_kw (c9z I hg hm boot_enumerate ?_ (by decide) (by decide))
 refine d7b (thn (ha pos pins s σ H _ I h) fun us s1 ⟨vs,H1,I1,r1,q1⟩=>thn (hkw pos pins s1 σ H1 _ I1 q1) fun ws s2 ⟨zs,H2,I2,r2,q2⟩=>?_) he hpl
 obtain⟨l,xs,rfl,rfl,hl,q⟩:=q2
 obtain⟨u,rfl,ru⟩:=c6m r1
 obtain⟨z,rfl,rz⟩:=c6m r2
 cases ru
 obtain⟨t,rfl⟩:=rz
 obtain⟨z,its,n,rv,e⟩:=(show a2f X.prog X.w H2 s2.heap l (.lst xs) from I2.hok l _ hl)
 refine e2g e fun h' he hi k=>?_
 have I3:Inv X pins σ H2 {s2 with heap:=h'}:=I2.kept (t':=s2.toks) k
 refine wpAny_pyIter_enum (s:={s2 with heap:=h'}) he ⟨s2.heap.objs.size+1,[s2.heap.objs.size+1,s2.heap.objs.size],_,g0d X.K l,H2,rfl,I3,e2y l _ _ (Nat.ne_of_gt (Nat.lt_succ_self _)),⟨⟨_,he⟩,hi⟩,fun b hb=>?_,q⟩
 have hb':s2.heap.objs.size≤b:=by
  simp only [List.mem_cons,List.not_mem_nil,or_false] at hb
  rcases hb with z | z<;>(rw[z];first | exact Nat.le_succ _ | exact Nat.le_refl _)
 exact I2.fpOk hb' (I2.hok.fresh hb')
end
end My
namespace My
open PySem PySem.Spec PyProof.Rows L2
theorem d9f {prog:Program} {w:World} {A:Around} {s:Shared} {R:Result→Shared→Prop} {elt target iter:Expr} {ifs:List Expr} {scope:Scope} {pos:Pos} {it acc:Value} {env:Env} (I:Nat→Shared→Prop)
  (turn:∀ n s,I n s→wpAny (model prog w) A (pyNext it) (fun r s1=>(r=none∧R (.ok .next) s1)∨∃ v,r=some v∧wpAny (model prog w) A (letOwnedTupleGo target it v) (fun _ s2=>wpAny (model prog w) A (assign target env v) (fun _ s3 =>
   wpAny (model prog w) A (f4t ifs env) (fun ok s4=>if ok=true then wpAny (model prog w) A (eval elt env) (fun x s5=>wpAny (model prog w) A (call (.builtin "list.append") [acc,x]) (fun _ s6=>∃ m,m < n∧I m s6) (fun _ _=>False) s5) (notedBy (model prog w) A env fun e s'=>R (.error e) s') s4
    else ∃ m,m < n∧I m s4) (fun _ _=>False) s3) (fun _ _=>False) s2) (fun _ _=>False) s1) (fun _ _=>False) s)
  (n:Nat) (h:I n s):codeAny (model prog w) A (.compLoop (.ListComp elt [⟨target,iter,ifs,0⟩] scope pos) 0 it acc env) R s:=by
 have no:∀ {α:Type} {E:Value→Shared→Prop} {t:Sem α} {Q:α→Shared→Prop} {u:Shared},wpAny (model prog w) A t Q (fun _ _=>False) u→wpAny (model prog w) A t Q E u:=fun z=>wpAny_mono z (fun _ _ q=>q) fun _ _ q=>q.elim
 refine codeAny_loop rfl I (fun n s hI=>wpAny_noted ?_) n h
 rw[compTurn_list]
 refine wpAny_bind (wpAny_standAt (wpAny_bind (wpAny_mono (turn n s hI) (fun r s1 q=>?_) fun _ _ z=>z.elim)))
 rcases q with ⟨rfl,q⟩ | ⟨v,rfl,q⟩
 ·exact wpAny_pure q
 ·refine wpAny_bind (no (thn q fun _ s2 q2=>wpAny_bind (no (thn q2 fun _ s3 q3=>wpAny_bind (no (thn q3 fun ok s4 q4=>?_))))))
  cases ok with
  | false=>exact wpAny_pure ⟨rfl,q4⟩
  | true=>exact wpAny_bind (wpAny_bind (thn q4 fun x s5 q5=>wpAny_bind (no (thn q5 fun _ s6 q6=>wpAny_pure (wpAny_pure ⟨rfl,q6⟩)))))
def XEF (X:Cx) (scope:Scope) (N:List Str) (cl:List (Str×Addr)) (C:Addr) (s₀:Shared) (H₀:Hp) (ex:List Addr) (E1:XK):Value→Shared→Prop:=fun e s'=>∃ (pins:List (Addr×Obj)) (σ:L2.St) (H:Hp) (s:Shared),Inv (a1h X scope N cl C s₀ H₀ ex) pins σ H s∧CXW X.prog X.w X.stack H s E1 e s'
abbrev d4i (X:Cx) (scope:Scope) (N:List Str) (E1:XK) (cl:List (Str×Addr)) (C:Addr) (s₀:Shared) (H₀:Hp) (ex:List Addr):Cx:=(a1h X scope N cl C s₀ H₀ ex).wish (XEF X scope N cl C s₀ H₀ ex E1)
theorem f5v {X:Cx} {scope:Scope} {N:List Str} {cl:List (Str×Addr)} {C:Addr} {s₀:Shared} {H₀:Hp} {ex:List Addr} {E1:XK}:b3z (CXW X.prog X.w) (d4i X scope N E1 cl C s₀ H₀ ex) E1:=fun pins σ H s _ _ I h=>⟨pins,σ,H,s,I.unwish,h⟩
section
variable {X:Cx} {pins:List (Addr×Obj)} {σ:L2.St} {H:Hp} {s:Shared} {scope:Scope} {fv:List Str} {js:List Nat} {N:List Str} {cl:List (Str×Addr)} {target iter elt:Expr} {ifs:List Expr} {pos:Pos} {g:TG} {tc:L2.TT} {te:TE} {E1:XK} {C:Addr} {ex:List Addr}
theorem e5w {R:Value→Shared→Prop} (I:Inv X pins σ H s) (hst:X.stack=X.env::X.outer) (hfr:X.env.frame=some X.env.locals) (hR:∀ e s',c6x X ex H s (some C) E1 e s'→R e s') :
  ∀ e s',XEF X scope N cl C s H ex E1 e s'→notedBy (model X.prog X.w) X.A (compEnvC scope cl C X.env) R e s':=by
 intro e s' h
 obtain⟨pins',σ',HY,sY,IY,ea,cls,a0,B,H',d,rfl,os,bare,un,hok,fl,bk,n1,n2,⟨o0,ho0,hd0⟩,hE⟩:=h
 have fl':=fl
 rw[hst] at fl'
 have hfnn:∀ b∈frs X.stack,∃ o,s'.heap.get? b=some o∧∀ vs,o.data≠.fields vs:=fun b hb=>(fl.2.2.1.mem hb).2
 show wpAny _ _ (noteFrame (.ref ea) X.env) _ _ s'
 refine wpAny_mono (a5o (a7b _ _) (wpAny_looks_onW (Q:=fun _ s''=>∃ h4,s''={s' with heap:=h4}∧Heap.HeldW B (X.env::X.outer) ea cls a0 X.env.locals h4∧s'.heap.UpToSlots h4) (by rw[I.ok.frames,hst]) hfr fl' fun h4 x1 x2=>⟨h4,rfl,x1,x2⟩)) (fun _ s'' ⟨⟨h4,e4,held,sm4⟩,dk4⟩=>?_) fun _ _ z=>z.1
 subst e4
 obtain⟨un4,hok4,bk4,_⟩:=e4x IY un hok bk held.1 sm4 hfnn
 have IY4:Inv (a1h X scope N cl C s H ex) pins' σ' H' {s' with heap:=h4}:=IY.call' (s':={s' with heap:=h4}) os un4 hok4 bare (fun b z=>absurd z (by simp))
 obtain⟨m,hn,_⟩:=IY4.loc
 obtain⟨o4,ho4,hd4⟩:=dk4 ea o0 ho0
 rw[←hst] at held
 have bkX:∀ b o,h4.get? b=some o→((s.heap.get? b≠none∧b ∉ ex)∨H' b≠none)→b ∉ frs X.stack→B.get? b=some o:=fun b o e k n=>by
  refine bk4 b o e ?_ n
  rcases k with ⟨k,nx⟩ | k
  ·left
   cases q:s.heap.get? b with
   | none=>exact(k q).elim
   | some u =>
    obtain⟨u',e'⟩:=IY.base.there b u q nx
    rw[e'];simp
  ·exact .inr k
 have new:s.heap.get? ea=none∨ea∈ex:=by
  by_cases hx:ea∈ex
  ·exact .inr hx
  ·left
   cases q:s.heap.get? ea with
   | none=>rfl
   | some u =>
    obtain⟨u',e'⟩:=IY.base.there ea u q hx
    rw[n2] at e';cases e'
 exact hR _ _ ⟨ea,cls,a0,B,H',d,rfl,IY4.os,IY4.bare,IY4.base,IY4.hok,held,bkX,n1,new,⟨o4,ho4,hd4.1.trans hd0.1,hd0.2.imp (fun q=>hd4.2.trans q) id⟩,fun c z=>by cases z;exact⟨IY4.free,m,hn⟩,hE⟩
theorem d4x {E:Value→Shared→Prop} {J:It} {fp:List Addr} {it:Addr} {tn:Nat→Heap→Prop} {Q:VK} {RR:Value→Env→Result→Shared→Prop} (tg:List Str) (I:Inv X pins σ H s) (hc:X.calm=true) (hst:X.stack=X.env::X.outer) (hfr:X.env.frame=some X.env.locals)
  (S:a4o X scope fv js) (T:f1l X.prog X.w X.K target J fp it tn) (st:tn 0 s.heap) (hf:∀ b∈fp,c4p X pins H b)
  (hg:∀ cl C s₀ H₀ ex,PG (a1h X scope (tg++fv) cl C s₀ H₀ ex) target g) (hi:∀ cl C s₀ H₀ ex,f4s (a1h X scope (tg++fv) cl C s₀ H₀ ex) ifs tc) (he:∀ cl C s₀ H₀ ex,PE (d4i X scope (tg++fv) E1 cl C s₀ H₀ ex) elt te) (q:c8h (b9z σ tg.length js) J g tc te Q H)
  (hRR:∀ D C H' s' m cenv,cenv.locals=C→cenv.frame=X.env.frame→s'.os=s.os→AllBare s'.gens→Un (frs X.stack) fp H H' s.heap s'.heap→HOk X.prog X.w H' s'.heap→s'.heap.Ns C m→H' C=none→s.heap.objs.size≤C→Q (.ref D) H'→RR (.ref D) cenv (.ok .next) s')
  (hRE:∀ D C e s' cenv,cenv.locals=C→cenv.frame=X.env.frame→s.heap.objs.size≤C→c6x X fp H s (some C) E1 e s'→RR (.ref D) cenv (.error e) s') :
  wpAny (model X.prog X.w) X.A (newList []) (fun acc s3=>wpAny (model X.prog X.w) X.A (newFunctionEnv scope X.env.globals (a4p X.env.cells scope.names []) [] X.env.qual none .none (some X.env)) (fun cenv s4 =>
   codeAny (model X.prog X.w) X.A (.compStart (.ListComp elt [⟨target,iter,ifs,0⟩] scope pos) 0 (.ref it) acc {cenv with scope:=relabel scope X.env}) (RR acc cenv) s4) E s3) E s:=by
 refine wpAny_newObj_type (wpAny_newFunctionEnv S.cell (by intro y hy;simp at hy) (fun h1 hn k1=>?_) S.kind)
 dsimp only at hn k1 ⊢
 generalize hg2:s.heap.push {cls:=.type "list",dict:=none,data:=.seq ([]:List Value).toArray}=g2 at hn k1 ⊢
 have hC:g2.objs.size=s.heap.objs.size+1:=by rw[←hg2,Heap.size_push]
 have hDC:s.heap.objs.size≠g2.objs.size:=by rw[hC];exact Nat.ne_of_lt (Nat.lt_succ_self _)
 have hle:s.heap.objs.size≤g2.objs.size:=by rw[hC];exact Nat.le_succ _
 have nD:s.heap.get? s.heap.objs.size=none:=Heap.get?_none_of_le (Nat.le_refl _)
 have nC:s.heap.get? g2.objs.size=none:=Heap.get?_none_of_le hle
 have old:∀ b o,s.heap.get? b=some o→h1.get? b=some o:=fun b o e=>k1.extBut b o (Nat.ne_of_lt (Nat.lt_of_lt_of_le (Heap.lt_size e) hle)) (Heap.get?_push_of_some _ (hg2 ▸ Heap.get?_push_of_some _ e))
 have hl:h1.get? s.heap.objs.size=some {cls:=.type "list",data:=.seq #[]}:=k1.extBut _ _ hDC (Heap.get?_push_of_some _ (hg2 ▸ Heap.get?_push_size _ rfl))
 have ob:=T.obj 0 s.heap st
 generalize hcl:a4p X.env.cells scope.names []=cl
 have ok:(a1h X scope (tg++fv) cl g2.objs.size s H fp).Ok:=hcl ▸ e1j I S hle hf fun b hb=>let ⟨o,e,_⟩:=ob b hb;⟨o,e⟩
 have I0:Inv (a1h X scope (tg++fv) cl g2.objs.size s H fp) [] (b9z σ tg.length js) (upd H s.heap.objs.size (.lst [])) {s with heap:=h1,toks:=s.toks+([]:List (Str×Value)).length}:=by
  subst hcl
  exact c6u I S ok old nD nC hDC hl hn
 have st1:tn 0 h1:=T.keep 0 _ _ st fun b _ o e=>old b o e
 obtain⟨W,⟨m0,w0⟩,turn⟩:=q _ (a4r I nD)
 have fpok:∀ {H':Hp} {ps:List (Addr×Obj)},(∀ p∈ps,p.1 ∉ fp)→(∀ b∈fp,H' b=none)→∀ b∈fp,c4p (a1h X scope (tg++fv) cl g2.objs.size s H fp) ps H' b:=fun hps hn b hb=>⟨hn b hb,(ok.exf b hb).1,ok.exfs b hb,.inl hb,(ok.exf b hb).2,fun p hp z=>hps p hp (z ▸ hb)⟩
 have loop:∀ cv:Env,cv.locals=g2.objs.size→cv.frame=X.env.frame→codeAny (model X.prog X.w) X.A (.compLoop (.ListComp elt [⟨target,iter,ifs,0⟩] scope pos) 0 (.ref it) (.ref s.heap.objs.size) (compEnvC scope cl g2.objs.size X.env)) (RR (.ref s.heap.objs.size) cv) {s with heap:=h1,toks:=s.toks+([]:List (Str×Value)).length}:=by
  intro cv c1 c2
  refine d9f (fun n s'=>∃ i ys τ H',Inv (a1h X scope (tg++fv) cl g2.objs.size s H fp) [] τ H' s'∧tn i s'.heap∧(∀ b∈fp,H' b=none)∧W i n ys τ H') (fun n s' hI=>?_) m0 ⟨0,[],_,_,I0,st1,fun b hb=>?_,w0⟩
  ·obtain⟨i,ys,τ,H',I1,t1,f1,w1⟩:=hI
   obtain⟨hD,w1⟩:=turn i n ys τ H' w1
   rcases w1 with ⟨stop,qn⟩ | ⟨go,hz,step⟩
   ·refine thn (T.done (a1h X scope (tg++fv) cl g2.objs.size s H fp) rfl rfl rfl hc i [] s' τ H' _ I1 (fpok (by simp) f1) t1 stop) fun r s2 ⟨hr,I2⟩=>.inl ⟨hr,?_⟩
    obtain⟨m,hn2,_⟩:=I2.loc
    exact hRR _ _ H' s2 m cv c1 c2 I2.os I2.bare I2.base I2.hok hn2 I2.free hle qn
   ·refine thn (T.item (a1h X scope (tg++fv) cl g2.objs.size s H fp) rfl rfl rfl hc i [] s' τ H' _ I1 (fpok (by simp) f1) t1 go) fun r s2 ⟨u,hr,h2⟩=>.inr ⟨u,hr,thn h2 fun _ s3 ⟨x,H3,I3,r3,y3,t3,f3⟩=>?_⟩
    have I3':=I3.pinned (fpok (by simp) f3) (T.obj _ _ t3)
    have back:∀ {s6:Shared} {τ4:L2.St} {H6:Hp},Inv (a1h X scope (tg++fv) cl g2.objs.size s H fp) ([]++d1b fp s3.heap) τ4 H6 s6→tn (i+1) s6.heap∧∀ b∈fp,H6 b=none:=fun I6 =>
     ⟨T.keep _ _ _ t3 fun b hb o e=>(I6.pin (b,o) (List.mem_append_right _ (List.mem_append_right _ (a5p hb e)))).1,fun b hb=>by
      obtain⟨o,e,_⟩:=T.obj _ _ t3 b hb
      exact(I6.pin (b,o) (List.mem_append_right _ (List.mem_append_right _ (a5p hb e)))).2.1⟩
    refine thn ((hg _ _ _ _ _) _ s3 τ H3 x u _ I3' r3 (step x H3 y3)) fun _ s4 ⟨τ4,H4,I4,q4⟩=>?_
    refine thn ((hi _ _ _ _ _).run _ s4 τ4 H4 _ I4 q4) fun b s5 ⟨H5,I5,q5⟩=>?_
    cases b with
    | false =>
     obtain⟨m',hm,w5⟩:=(show ∃ m',m' < n∧W (i+1) m' ys τ4 H5 from q5)
     obtain⟨b1,b2⟩:=back I5
     exact⟨m',hm,i+1,_,τ4,_,I5.unpinned,b1,b2,w5⟩
    | true =>
     refine wpAny_mono ((he _ _ _ _ _) _ s5 τ4 H5 _ (I5.wish _) q5) (fun z s6 ⟨y,H6,I6w,r6,hD6,m',hm,w6⟩=>?_) (e5w I hst hfr fun e s' h=>hRE _ _ e s' cv c1 c2 hle h)
     have I6:=I6w.unwish
     refine thn (b5q _ s6 τ4 H6 (.ref s.heap.objs.size) [y] (.ref s.heap.objs.size) [z] (fun _ H7=>H7=upd H6 s.heap.objs.size (.lst (ys++[y]))) I6 rfl (.cons r6 .nil) ⟨_,ys,y,rfl,rfl,hD6,hz,rfl⟩) fun _ s7 ⟨v7,H7,I7,_,e7⟩=>?_
     subst e7
     obtain⟨b1,b2⟩:=back I7
     exact⟨m',hm,i+1,_,τ4,_,I7.unpinned,b1,b2,w6⟩
  ·obtain⟨o,e,_⟩:=ob b hb
   rw[a0d (Nat.ne_of_lt (Heap.lt_size e))]
   exact(hf b hb).1
 exact codeAny_compStart_list (loop _ rfl rfl) (T.self _ 0 _ _ _ st1 (loop _ rfl rfl))
def f6x (M:Model) (A:Around) (E:Value→Shared→Prop) (env:Env) (scope:Scope) (use:Option (Value→Sem Unit)) (Q:Value→Shared→Prop) (acc:Value) (cenv:Env) (r:Result) (s':Shared):Prop :=
 match r with
 | .ok f=>compPost M A E use Q acc cenv.locals (.ok f) s'
 | .error x=>∃ m,s'.heap.Ns cenv.locals m∧∀ h',Heap.SameBut cenv.locals s'.heap h'→wpAny M A (passOn "comprehension.variables-let-go" x {cenv with scope:=relabel scope env}:Sem Value) (fun _ _=>False) E {s' with heap:=h'}
theorem e2w {M:Model} {A:Around} {E:Value→Shared→Prop} {env:Env} {s:Shared} {e:Expr} {scope:Scope} {pos:Pos} {newAcc first:Sem Value} {g:Comprehension} {gs:List Comprehension} {cl:List (Str×Addr)} {use:Option (Value→Sem Unit)} {Q:Value→Shared→Prop}
  (hcl:clausesOf e=g::gs) (hs:∀ x,foldedSetIterable g.iter env x=pure x) (hclos:closureFor scope env=pure cl) (hkind:scope.kind=.function) (hnames:∀ x∈scope.names,x.2=.local→scope.names.lookup x.1=some .local)
  (h:wpAny M A first (fun x s₁=>wpAny M A (pyIter x) (fun it s₂=>wpAny M A newAcc (fun acc s₃=>wpAny M A (newFunctionEnv scope env.globals cl [] env.qual none .none (some env)) (fun cenv s₄ =>
    codeAny M A (.compStart e 0 it acc {cenv with scope:=relabel scope env}) (f6x M A E env scope use Q acc cenv) s₄) E s₃) E s₂) E s₁) E s) :
  wpAny M A (comprehension e scope env pos newAcc false first use) Q E s:=by
 unfold comprehension
 rw[hclos,hcl]
 have id2:∀ e s',E e s'→E e s':=fun _ _ z=>z
 refine wpAny_bind (wpAny_mono h (fun x s₁ h₁=>?_) id2)
 refine wpAny_bind (wpAny_standAt (wpAny_bind (wpAny_of_eq (hs x) (wpAny_bind (wpAny_holding (wpAny_mono h₁ (fun it s₂ h₂=>?_) id2))))))
 refine wpAny_standIf (wpAny_bind (wpAny_mono h₂ (fun acc s₃ h₃=>wpAny_bind (wpAny_pure (wpAny_bind (wpAny_mono h₃ (fun cenv s₄ h₄=>?_) id2)))) id2))
 dsimp only
 have loc:∀ l:List (Str×NameKind),(∀ x∈l,x∈scope.names)→∀ x∈l,x.2=.local→Env.kindOf {cenv with scope:=relabel scope env} x.1=some .local:=fun l hl x hx e=>lookup_relabel_local (hnames x (hl x hx) e)
 have mem:∀ x∈(scope.names.filter fun x=>(x.2 == .local || x.2 == .cell) && x.1 != (".0":Str)).reverse,x∈scope.names:=fun x hx=>(List.mem_filter.mp (List.mem_reverse.mp hx)).1
 refine wpAny_holding (wpAny_bind (wpAny_attempt (wpAny_holding (wpAny_run (codeAny_mono h₄ fun r s' hr=>?_)))))
 cases r with
 | ok f =>
  cases use with
  | none =>
   obtain⟨m,hn,hr⟩:=hr
   exact wpAny_bind (wpAny_holding (wpAny_comp_letGo (cenv:={cenv with scope:=relabel scope env}) hkind _ s' m (loc _ mem) hn fun h' m' _ hs'=>wpAny_pure (hr h' hs')))
  | some u =>
   refine wpAny_bind (wpAny_rule (wpAny_bind (wpAny_holding (wpAny_mono hr (fun _ s'' hr'=>?_) id2))))
   obtain⟨m,hn,hr'⟩:=hr'
   refine wpAny_bind (wpAny_comp_letGo (cenv:={cenv with scope:=relabel scope env}) hkind _ s'' m (loc _ fun x hx=>?_) hn fun h' m' _ hs'=>wpAny_pure (hr' h' hs'))
   rcases List.mem_append.mp hx with z | z
   ·exact mem x (List.mem_of_mem_drop z)
   ·exact mem x (List.mem_of_mem_take z)
 | error x =>
  obtain⟨m,hn,hr'⟩:=hr
  cases use<;>exact wpAny_bind (wpAny_holding (wpAny_comp_letGo (cenv:={cenv with scope:=relabel scope env}) hkind _ s' m (loc _ mem) hn fun h' m' _ hs'=>wpAny_mono (hr' h' hs') (fun _ _ z=>z.elim) id2))
theorem g1e {E:XK} {fp:List Addr} {e:Value} {s':Shared} {cenv:Env} {C:Addr} (I:Inv X pins σ H s) (hf:∀ b∈fp,c4p X pins H b) (hst:X.stack=X.env::X.outer) (hfr:X.env.frame=some X.env.locals) (hex:X.ex=[])
  (hxe:∀ e s',wpAny (model X.prog X.w) X.A (leaving X.env e) (fun _ s''=>CXW X.prog X.w X.outer X.H₀ X.s₀ E e s'') (fun e' s''=>CXW X.prog X.w X.outer X.H₀ X.s₀ E e' s'') s'→X.xe e s')
  (c1:cenv.locals=C) (c2:cenv.frame=X.env.frame) (hC:s.heap.objs.size≤C) (hE:c6x X fp H s (some C) E e s') :
  ∃ m,s'.heap.Ns cenv.locals m∧∀ h',Heap.SameBut cenv.locals s'.heap h'→wpAny (model X.prog X.w) X.A (PySem.passOn "comprehension.variables-let-go" e {cenv with scope:=relabel scope X.env}:Sem Value) (fun _ _=>False) X.xe {s' with heap:=h'}:=by
 subst c1
 have hE':=hE
 obtain⟨ea,cls,a0,B,H',d,rfl,os,bare,un,hok,held,bk,n1,new,dd,hcc,_⟩:=hE'
 obtain⟨_,m,hn⟩:=hcc _ rfl
 refine⟨m,hn,fun h' k=>?_⟩
 have hG:=c6x.gone I hE hC k
 have hG':=hG
 obtain⟨ea2,cls2,a2,B2,H3,d2,ee,_,_,_,_,held2,_⟩:=hG'
 cases ee
 exact c8g (c2.trans hfr) held2 (hxe _ _ (d1i I hf hst hfr hex hG))
theorem e6u {te:XK→TE} {E:XK} {wi:TI} {i:Nat} {y:Str} {py spos:Pos} (tg:List Str) (hc:X.calm=true) (hst:X.stack=X.env::X.outer) (hfr:X.env.frame=some X.env.locals) (hex:X.ex=[])
  (hxe:∀ e s',wpAny (model X.prog X.w) X.A (leaving X.env e) (fun _ s''=>CXW X.prog X.w X.outer X.H₀ X.s₀ E e s'') (fun e' s''=>CXW X.prog X.w X.outer X.H₀ X.s₀ E e' s'') s'→X.xe e s')
  (hN:X.N.Nodup) (hy:X.N[i]?=some y) (hk:X.env.scope.names.lookup y=some .local) (S:a4o X scope fv js) (hi:PI X target iter wi)
  (hsw:swapsWith (.ListComp elt [⟨target,iter,ifs,0⟩] scope pos) (some (.Name y py)) spos.line X.env=pure true)
  (hg:∀ cl C s₀ H₀ ex,PG (a1h X scope (tg++fv) cl C s₀ H₀ ex) target g) (hf:∀ cl C s₀ H₀ ex,f4s (a1h X scope (tg++fv) cl C s₀ H₀ ex) ifs tc) (he:∀ E1 cl C s₀ H₀ ex,PE (d4i X scope (tg++fv) E1 cl C s₀ H₀ ex) elt (te E1)) (hs:∀ x,foldedSetIterable iter X.env x=pure x:=by intro _;rfl) :
  PS X (.Assign [.Name y py] (.ListComp elt [⟨target,iter,ifs,0⟩] scope pos) spos) (fun D σ H=>e8m tg.length js wi g tc (te E) σ H fun v H1=>D.nx (σ.set i (some v)) H1):=by
 constructor;intro pins s σ H D I h
 rw[exec_Assign_Name_used _ _ _ _ hsw]
 refine wpAny_bind (wpAny_standAt (wpAny_bind (wpAny_bind (wpAny_mono (Q:=fun _ s'=>SP X pins D .next s') (E:=X.xe) (e2w (use:=some (assign (.Name y py) X.env)) rfl hs (S.clos I.ok) S.kind S.names
  (thn (hi pins s σ H _ I h) fun v s1 h1=>thn h1 fun itv s2 h2=>?_)) (fun _ s' q=>wpAny_pure (wpAny_pure q)) fun _ _ z=>z))))
 obtain⟨it,fp,tn,J,H2,rfl,I2,T,st2,f2,q⟩:=h2
 refine d4x (RR:=fun acc cenv=>f6x (model X.prog X.w) X.A X.xe X.env scope (some (assign (.Name y py) X.env)) (fun _ s'=>SP X pins D .next s') acc cenv) tg I2 hc hst hfr S T st2 f2 hg hf (he E) q (fun L C H' s' m cenv c1 c2 os bare un hok hn nC hC qq=>?_) fun L C e s' cenv c1 c2 hC hE=>g1e I2 f2 hst hfr hex hxe c1 c2 hC hE
 subst c1
 obtain⟨IX,fC⟩:=b7q I2 f2 os bare un hok nC hC
 refine wpAny_assign_Name (c8j IX hN hy (.inl hk) (v:=.ref L) rfl (fun s3 I3 ⟨a,k3,ha⟩=>?_) (.inr hk))
 have ne:cenv.locals≠a:=by
  rcases ha with z | z
  ·rw[z];exact fC.2.1
  ·exact fun w'=>fC.2.2.2.2.1 y a z w'.symm
 exact⟨m,hn.sameBut k3 ne,fun h' k=>⟨_,H',d4g I3 fC k,qq⟩⟩
end
end My
namespace My
open PySem PySem.Spec PySem.W PyProof.Rows L2 PyProof PySem.SeqAt
structure b9o (k:Nat) (A:Around):Prop where
 dp:A.depth+3*k+5 < recursionLimit
 un:A.units+16*k+200 < cLine
theorem _root_.L2.Room.m {k:Nat} {A:Around} {x:Option Value} (r:Room k A):b9o k (A.mark x):=⟨r.dp,r.un⟩
theorem b9o.mono {j k:Nat} {A:Around} (r:b9o k A) (h:j≤k):b9o j A:=⟨by have:=r.dp;omega,by have:=r.un;omega⟩
theorem b9o.units {k:Nat} {A:Around} (r:b9o k A):A.units+64 < cLine:=by have:=r.un;omega
theorem b9o.depth {k:Nat} {A:Around} (r:b9o k A):A.depth < recursionLimit:=by have:=r.dp;omega
theorem b9o.deeper {k:Nat} {A:Around} (r:b9o (k+1) A) (env:Env):b9o k (A.deeper env) :=
 ⟨by have:=r.dp;show A.depth+1+3*k+5 < _;omega,by have:=r.un;show A.units+3+16*k+200 < _;omega⟩
structure d8z (P:Program) (w:World) (K:PySem.W.Frag) (mg:Str→Option Value) (base:Heap) (k:Nat) (f:Addr) (fd:FuncData) (ps:List Str) (sp:Sp):Prop where
 len:∀ vs H Q E,sp vs H Q E→vs.length=ps.length
 run:∀ (A:Around) (outer:List Env) (s:Shared) (H:Hp) (args:Args) (us:List Value) (vs:List V) (Q:VK) (E:XK),b9o k A→e8o P w K mg base A outer s H→BindsTo s fd args (ps.zip us)→a3c vs us→sp vs H Q E →
  codeAny (model P w) A (.call (.ref f) args) (CR CX0 outer P w H s Q E) s
section
variable {P:Program} {w:World} {K:PySem.W.Frag} {mg:Str→Option Value} {base:Heap}
theorem d8z.mono {j k:Nat} {f:Addr} {fd:FuncData} {ps:List Str} {sp:Sp} (F:d8z P w K mg base j f fd ps sp) (h:j≤k):d8z P w K mg base k f fd ps sp:=⟨F.len,fun A outer s H args us vs Q E hr=>F.run A outer s H args us vs Q E (hr.mono h)⟩
def f7u (P:Program) (w:World) (K:PySem.W.Frag) (mg:Str→Option Value) (base:Heap) (N:List Str) (qual:Str) (scope:Scope) (f:Addr) (cd:Value) (A:Around) (outer:List Env) (s:Shared) (H:Hp) (E:XK):Cx :=
 {(c4q CX0 P w K mg base N qual scope f cd A outer s H E) with calm:=false,xe:=fun _ _=>False}
theorem e2s {N ps:List Str} {qual:Str} {scope:Scope} {f:Addr} {cd:Value} {A:Around} {outer:List Env} {s s1:Shared} {H:Hp} {E:XK} {us:List Value} {vs:List V}
  (S:a0o N ps scope) (e0:e8o P w K mg base A outer s H) (hl:vs.length=ps.length) (r:a3c vs us)
  (x:InCallC s s.heap.objs.size (bindL (envOfC qual scope s.heap.objs.size f cd).kindOf (ps.zip us) fun _=>none) (cellsFrom (s.heap.objs.size+1) scope.names []) (bindC (envOfC qual scope s.heap.objs.size f cd).kindOf (ps.zip us) fun _=>none) s1) :
  Inv (f7u P w K mg base N qual scope f cd A outer s H E) [] (start N vs) H s1:=by
 have e1:e8o P w K mg base {A with handled:=none} outer s H:=⟨e0.frames,e0.mod,e0.bs,e0.bsz,e0.funs,e0.frf,e0.hok,e0.bare⟩
 have I:=d7f (CX:=CX0) (E:=E) S rfl e1 hl r x
 have ok:=I.ok
 exact⟨⟨ok.mod,ok.kind,ok.glob,ok.blt,ok.above,ok.inj,ok.has,ok.cab,fun z=>Bool.noConfusion z,Around.frames_deeper e0.frames,ok.stk,ok.exf,ok.bs,ok.bsz,ok.noex,ok.exfs,ok.funs,ok.frf⟩,I.os,I.bare,I.base,I.loc,I.cell,I.free,I.freeC,I.pin,I.hok,I.len⟩
theorem f2v {x qual:Str} {st:Stmt} {f:Addr} {fd:FuncData} {N ps:List Str} {k:Nat} {sp:Sp} (F:Fun K x qual st f fd) (S:a0o N ps (a0c st)) (len:∀ vs H Q E,sp vs H Q E→vs.length=ps.length)
  (hbody:∀ (cdv:Value) (A:Around) (outer:List Env) (s:Shared) (H:Hp) (vs:List V) (Q:VK) (E:XK),b9o k (A.deeper (envOfC qual (a0c st) s.heap.objs.size f cdv))→sp vs H Q E →
   ∃ t,PSs (f7u P w K mg base N qual (a0c st) f cdv A outer s H E) (a0l st) t∧t {nx:=fun _ H'=>Q .non H',rt:=Q} (start N vs) H):d8z P w K mg base (k+1) f fd ps sp:=by
 obtain⟨oc,od,kV,doc,pm,an,cdv,ct,osl,rfl,lk,hcd⟩:=F.ex
 refine⟨len,fun A outer s H args us vs Q E hr e0 hb r hsp=>?_⟩
 have hl:=len _ _ _ _ hsp
 have KX:K.In s.heap:=e0.mod.kin.keeps fun b o e=>(e0.bs b o e).1
 have lim:s.heap.NoLimit:=e0.mod.nolimit.keeps fun b o e=>(e0.bs b o e).1
 have hkind:∀ y∈ps.zip us,(a0c st).names.lookup y.1=some .local∨((a0c st).names.lookup y.1=some .cell∧((cellsFrom (s.heap.objs.size+1) (a0c st).names []).lookup y.1).isSome=true):=fun ⟨n,v⟩ hy =>
  (S.par n (List.of_mem_zip hy).1).imp id fun q=>⟨q,PySem.W.cellsFrom_some _ _ _ (.inl q)⟩
 refine codeAny_call_function hr.depth (KX _ _ lk) rfl S.co S.gen rfl (PySem.W.codeRec_of KX hcd) (hb _ _ _ _ (wpAny_newFunctionEnv_cells S.kind hkind fun env he s1 x=>?_))
 subst he
 refine⟨lim.keeps x.toInCall.keep,codeAny_func ?_⟩
 obtain⟨t,ht,hq⟩:=hbody cdv A outer s H vs Q E (hr.deeper _) hsp
 have I:=e2s (qual:=qual) (f:=f) (cd:=cdv) (E:=E) S e0 hl r x
 refine wpAny_mono (ht [] s1 (start N vs) H _ I hq) (fun fl s' hs=>?_) fun e s' hs=>hs.elim
 cases fl with
 | ret u=>obtain⟨v,σ',H',J,rv,q⟩:=hs;exact⟨v,H',J.os,J.bare,J.base,J.hok,rv,q⟩
 | next=>obtain⟨σ',H',J,q⟩:=hs;exact⟨V.non,H',J.os,J.bare,J.base,J.hok,rfl,q⟩
 | brk=>obtain⟨_,_,_,q⟩:=hs;exact False.elim q
 | cont=>obtain⟨_,_,_,q⟩:=hs;exact False.elim q
end
section
variable {X:Cx} {k:Nat} {f C:Addr} {fd:FuncData} {ps:List Str} {sp:Sp} {x m:Str} {p pos apos:Pos} {e o:Expr} {es:List Expr} {ta:TE} {t:TA}
theorem f4a {pins:List (Addr×Obj)} {σ:L2.St} {H:Hp} {s:Shared} {Q:VK} {us:List Value} {vs:List V} (F:d8z X.prog X.w X.K X.mg X.base k f fd ps sp) (hr:b9o k X.A) (hb:a0x X.K fd ps [])
  (I:Inv X pins σ H s) (r:a3c vs us) (h:sp vs H Q E0):wpAny (model X.prog X.w) X.A (call (.ref f) us) (EP X pins σ Q) X.xe s:=by
 have hl:us.length=ps.length:=by rw[←r.length];exact F.len _ _ _ _ h
 have hbb:=hb s us I.kIn (by rw[List.append_nil];exact hl)
 rw[List.append_nil] at hbb
 refine wpAny_call (codeAny_mono (F.run X.A X.stack s H ⟨us,[]⟩ us vs Q E0 hr I.env0 hbb r h) fun r s' hq=>?_)
 cases r with
 | error e=>exact False.elim hq
 | ok fl =>
  cases fl with
  | ret u=>exact I.after hq
  | next=>exact False.elim hq
  | brk=>exact False.elim hq
  | cont=>exact False.elim hq
theorem d5u (F:d8z X.prog X.w X.K X.mg X.base k f fd ps sp) (hr:b9o k X.A) (hg:Gl X x) (hm:X.mg x=some (.ref f)) (hk:PySem.W.keepIn X.K (.ref f)=true) (hb:a0x X.K fd ps [])
  (ha:PA X (e::es) t) (hdb:(x == ("__debug__":Str))=false:=by decide) (he:starEach (e::es) X.env=(false,eval e X.env)::starEach es X.env:=by rfl) (hpl:(backTo pos (starEach es X.env)).any (·.1)=false:=by rfl) :
  PE X (.Call (.Name x p) (e::es) [] pos) (fun σ H Q=>t σ H fun vs H1=>sp vs H1 Q E0):=by
 constructor;intro pins s σ H Q I h
 refine wpAny_Call_Name_kw (b3u I hg hm ?_ hdb)
 exact PySem.W.callWith_K (h₀:=X.base) I.ok.mod.kin hk (thn (ha pos pins s σ H _ I h) fun us s1 ⟨vs,H1,I1,r,q⟩=>⟨I1.kIn,f4a F hr hb I1 r q⟩) he hpl
end
end My
namespace My
open PySem PySem.Spec PyProof.Rows L2
theorem e5f {H:Hp} {a:Addr} {o:HO}:del (upd H a o) a=del H a:=by
 funext b
 by_cases z:b=a
 ·rw[z];simp[del]
 ·rw[a5x z,a5x z,a0d z]
theorem b9w {H:Hp} {a:Addr}:del H a a=none:=by simp[del]
theorem Same.del {H H':Hp} (s:Same H H') (a:Addr):Same (del H a) (del H' a):=fun b o e=>by
 by_cases z:b=a
 ·rw[z,b9w] at e;cases e
 ·rw[a5x z] at e ⊢;exact s b o e
theorem c3v {H:Hp} {a b:Addr} {o:HO} (e:del H a b=some o):b≠a∧H b=some o:=by
 by_cases z:b=a
 ·rw[z,b9w] at e;cases e
 ·rw[a5x z] at e;exact⟨z,e⟩
theorem d5h {N:List Str} {J:It} {g:TG} {te:TE} {Q:VK} {H1:Hp} (n:Nat) (I:Nat→List V→Hp→Prop) (hz:n≤sizeLine) (h0:I 0 [] H1) (hgo:∀ i H,Same H1 H→i < n→J.go i H) (hstop:∀ H,Same H1 H→J.stop n H)
  (step:∀ i D ys H τ v H' (R:V→L2.St→Hp→Prop),H1 D=none→I i ys (del H D)→H D=some (.lst ys)→Same H1 H→i < n→τ.length=N.length→J.yld i H v H'→(∀ y τ2 H3,I (i+1) (ys++[y]) (del H3 D)→τ2.length=N.length→Same H H3→R y τ2 H3)→g v τ H' fun τ2 H2=>te τ2 H2 fun y H3=>R y τ2 H3)
  (fin:∀ D ys H',I n ys (del H' D)→ys.length=n→H1 D=none→Same H1 H'→H' D=some (.lst ys)→Q (.ref D) H'):f4r N J g te Q H1:=by
 intro D hD
 have e0:del (upd H1 D (.lst [])) D=H1:=by
  rw[e5f]
  funext b
  by_cases z:b=D
  ·rw[z,b9w,hD]
  ·rw[a5x z]
 refine⟨fun i m ys τ H=>m=n - i∧i≤n∧ys.length=i∧I i ys (del H D)∧τ.length=N.length∧Same H1 H∧H D=some (.lst ys),⟨n,rfl,Nat.zero_le _,rfl,by rw[e0];exact h0,by simp,Same.upd hD,a0b⟩,?_⟩
 rintro i m ys τ H ⟨rfl,hi,hl,hI,hτ,ss,hd⟩
 refine⟨hd,?_⟩
 by_cases hlt:i < n
 ·exact .inr ⟨hgo i H ss hlt,by omega,fun v H' y=>step i D ys H τ v H' _ hD hI hd ss hlt hτ y fun y τ2 H3 hI2 h2 s3=>⟨s3 _ _ hd,n - (i+1),by omega,rfl,hlt,by simp[hl],by rw[e5f];exact hI2,h2,(ss.trans s3).again hD,a0b⟩⟩
 ·have e:i=n:=by omega
  subst e
  exact .inl ⟨hstop H ss,fin D ys H hI hl hD ss hd⟩
theorem d7u {σ0 fs:L2.St} {k:Nat} {J:It} {g:TG} {te:TE} {Q:VK} {H1:Hp} (P:Nat→Prop) (n:Nat) (f:Nat→V) (hσ:σ0=List.replicate k none++fs) (h0:P 0) (hz:n≤sizeLine) (hgo:∀ i H,Same H1 H→i < n→J.go i H) (hstop:∀ H,Same H1 H→J.stop n H)
  (step:∀ i H (ts:L2.St) v H' (R:V→L2.St→Hp→Prop),P i→Same H1 H→i < n→ts.length=k→J.yld i H v H'→(∀ (ts2:L2.St) H3,P (i+1)→ts2.length=k→Same H H3→R (f i) (ts2++fs) H3) →
   g v (ts++fs) H' fun τ2 H2=>te τ2 H2 fun y H4=>R y τ2 H4)
  (fin:P n→∀ D H',H1 D=none→Same H1 H'→H' D=some (.lst ((List.range n).map f))→Q (.ref D) H'):c8h σ0 J g f8j te Q H1:=by
 intro D hD
 refine⟨fun i m ys τ H=>m=n - i∧i≤n∧P i∧ys=(List.range i).map f∧(∃ ts:L2.St,ts.length=k∧τ=ts++fs)∧Same H1 H∧H D=some (.lst ys),⟨n,rfl,Nat.zero_le _,h0,rfl,⟨_,List.length_replicate,hσ⟩,Same.upd hD,a0b⟩,?_⟩
 rintro i m ys τ H ⟨rfl,hi,hP,rfl,⟨ts,ht,rfl⟩,ss,hd⟩
 refine⟨hd,?_⟩
 by_cases hlt:i < n
 ·refine .inr ⟨hgo i H ss hlt,by simp;omega,fun v H' y=>step i H ts v H' (fun z τ2 H3=>H3 D=some (.lst ((List.range i).map f))∧∃ m',m' < n - i∧m'=n - (i+1)∧i+1≤n∧P (i+1)∧(List.range i).map f++[z]=(List.range (i+1)).map f∧(∃ ts:L2.St,ts.length=k∧τ2=ts++fs)∧Same H1 (upd H3 D (.lst ((List.range i).map f++[z])))∧upd H3 D (.lst ((List.range i).map f++[z])) D=some (.lst ((List.range i).map f++[z]))) hP ss hlt ht y fun ts2 H3 hP2 h2 s3=>⟨s3 _ _ hd,n - (i+1),by omega,rfl,hlt,hP2,?_,⟨ts2,h2,rfl⟩,(ss.trans s3).again hD,a0b⟩⟩
  rw[List.range_succ,List.map_append]
  rfl
 ·have e:i=n:=by omega
  subst e
  exact .inl ⟨hstop H ss,fin hP D H hD ss hd⟩
end My
namespace My
open PySem PySem.Spec PyProof.Rows L2 PyProof PySem.W
section
variable {X:Cx}
theorem d5f (hc:X.calm=true):b7y X (.builtin "sorted") (fun xs H Q=>∃ (a:Addr) (kvs:List (Key×V)) (ks:List Int),xs=[V.ref a]∧Rd H a (.dK kvs)∧kvs.map (·.1)=ks.map Sum.inl∧ks.length < 64∧∀ p,H p=none→Q (.ref p) (upd H p (.lst ((b0p ks).map V.int)))):=by
 intro pins s σ H xs us Q I r h
 obtain⟨a,kvs,ks,rfl,e,ek,h64,q⟩:=h
 obtain⟨u,rfl,ru⟩:=c6m r
 cases ru
 obtain⟨z,hd,vs,rel,dd⟩:=(show a2f X.prog X.w H s.heap a (.dK kvs) from e.ok I.hok)
 obtain⟨ep,hat⟩:=dd.dictAt
 have hkl:vs.length=ks.length:=by rw[←rel.length,←List.length_map (f:=(·.1)) (as:=kvs),ek,List.length_map]
 have hsz:vs.length≤sizeLine:=by rw[←rel.length];exact z
 refine Calls.call_function_entry kind_sorted plain_sorted entry_sorted (args_sorted1 _) ?_
 unfold Builtin.«sorted»
 refine wpAny_bind (m:=checkCount "sorted" 1 1 _) (wpAny_pure ?_)
 refine wpAny_bind (PySem.W.kdu_collect (PySem.W.kdl_dict (knd:=a1x X.prog X.w) (kvs:=vs) (ep:=ep) hd) (I.ok.hd hc) hat hsz fun h' tk acc hk hacc=>?_)
 have hl:acc.toList.length=vs.length:=by rw[Array.length_toList];exact hacc.1
 have hI:IntsAre acc.toList ks:=intsAre_of (by rw[hl,hkl]) fun j v ev=>by
  obtain⟨k,x,hx,hkk⟩:=hacc.2 j v (by rw[←Array.getElem?_toList];exact ev)
  have e1:(vs.map (·.1))[j]?=some k:=by rw[List.getElem?_map,hx];rfl
  rw[←rel.keys,ek,List.getElem?_map] at e1
  obtain⟨n,hn,rfl⟩:=Option.map_eq_some_iff.mp e1
  rcases a1z (show d6x (Sum.inl n) v=true from hkk) with ⟨i,t,ei,ev2⟩ | ⟨y,t,ei,ev2⟩
  ·cases ei
   exact⟨n,t,hn,ev2⟩
  ·cases ei
 refine wpAny_bind (wpAny_newList ?_ (by rw[hl];exact hsz))
 have hoL:(h'.push {cls:=.type "list",data:=.seq acc.toList.toArray}).get? h'.objs.size=some (seqObj "list" acc.toList.toArray 0):=Heap.get?_push_size _ rfl
 refine wpAny_bind (wpAny_holding (wpAny_call_entry slot_list_sort ⟨_,hoL,rfl⟩ entry_list_sort (list_sort_tree hoL hI (by rw[hl,hkl];exact h64) fun out ns' a1 a2 a3=>⟨_,rfl,?_⟩) (args_list_sort _)))
 obtain⟨ep',hat'⟩:=sortedHeap_at (out:=out) hoL
 have I1:Inv X pins σ H {s with heap:=h',toks:=tk}:=I.kept (t':=tk) hk
 have en:=d4a a2 a3
 subst en
 have I2:=I1.laid (a:=h'.objs.size) (o:=.lst ((b0p ks).map V.int)) (t':=tk) (h':=sortedHeap (h'.push {cls:=.type "list",data:=.seq acc.toList.toArray}) h'.objs.size acc.toList out)
  (fun b v ev=>by
   have hb:b < h'.objs.size:=Heap.lt_size ev
   rw[sortedHeap_old (Nat.ne_of_lt hb) (by rw[size_push'];exact Nat.lt_succ_of_lt hb)]
   exact Heap.get?_push_of_some _ ev) (Nat.le_refl _)
  ⟨by rw[List.length_map,(a5m ks).length_eq,←hkl];exact hsz,out.toList,ep',c0b a1,by simpa [seqObj] using hat'⟩
 exact wpAny_pure ⟨_,rfl,.ref _,_,I2,rfl,q _ (I1.hok.fresh (Nat.le_refl _))⟩
end
theorem us7 {α:Type} {us:List α} (h:us.length=7):∃ a b c d e f g,us=[a,b,c,d,e,f,g]:=by
 obtain⟨a,t,rfl⟩:=List.exists_cons_of_length_eq_add_one h
 obtain⟨b,c,d,e,f,g,rfl⟩:=us6 (Nat.succ.inj h)
 exact⟨a,b,c,d,e,f,g,rfl⟩
end My
namespace Lw
open PySem PySem.Spec PyProof.Rows L2 My
set_option maxHeartbeats 4000000
inductive Lv where
 | loose | kept | make | watch | hold
def wd:Lv→Str
 | .loose=>"loose"
 | .kept=>"kept"
 | .make=>"make"
 | .watch=>"watch"
 | .hold=>"hold"
def ix:Lv→Nat
 | .loose=>0
 | .kept=>1
 | .make=>2
 | .watch=>3
 | .hold=>4
def g1v:Lv→Bool
 | .loose=>true
 | _=>false
def f4i:Lv→Bool
 | .watch=>true
 | _=>false
def f7b:Lv→Int→Int→Bool
 | .make,b,n=>decide (n > b)
 | .watch,b,n=>decide (n > b)
 | _,_,_=>false
def optV:Option Int→V
 | none=>.non
 | some k=>.int k
def d0u (l:Lv):Sp:=fun vs H Q _=>∃ x,vs=[x]∧Q (.str (wd l)) H
def e3n (l:Lv):Sp:=fun vs H Q _=>∃ (x:V) (b n:Int),vs=[x,.int b,.int n]∧Q (.bl (f7b l b n)) H
def f3g (l:Lv):Sp:=fun vs H Q _=>∃ x,vs=[x]∧Q (.bl (g1v l)) H
def f4h (l:Lv):Sp:=fun vs H Q _=>∃ x,vs=[x]∧Q (.bl (f4i l)) H
theorem Same.newO {C:Addr} {H:Hp} {x dx:Addr} (hx:H x=none) (hdx:H dx=none) (n:dx≠x):Same H (upd (upd H dx (.own x)) x (.ins C dx [])):=fun b o e=>by
 have b1:b≠x:=fun z=>by rw[z,hx] at e;cases e
 have b2:b≠dx:=fun z=>by rw[z,hdx] at e;cases e
 rw[a0d b1,a0d b2]
 exact e
def e5d (cls:Lv→Addr) (N:Addr):Sp:=fun vs H Q E=>∃ x:Str,vs=[.str x]∧x.length≤600∧(∀ c∈x.cps.toList,c < 16 ^ 8)∧(∀ l,x=wd l→∀ a dx H',Same H H'→H' a=some (.ins (cls l) dx [])→Q (.ref a) H')∧((∀ l,x≠wd l)→∀ H',Same H H'→E (.ref N) none H')
def top (i:Nat):Stmt:=PySem.Challenge.pw_skewhouse_k41_no_such_dealing.main.body.getD i (.Pass ⟨0,0,0,0⟩)
def a0w (s:Stmt):List Stmt:=match s with
 | .ClassDef _ _ _ b _ _ _ _ _ _ _=>b
 | _=>[]
abbrev a9e:Stmt:=top 8
abbrev b9v:Stmt:=top 9
abbrev b8t:Stmt:=top 14
abbrev a5g:Stmt:=top 15
abbrev a4x:Stmt:=(a0w (top 17)).getD 0 (.Pass ⟨0,0,0,0⟩)
abbrev a5a:Stmt:=(a0w (top 17)).getD 2 (.Pass ⟨0,0,0,0⟩)
abbrev a3f:Stmt:=(a0w (top 17)).getD 3 (.Pass ⟨0,0,0,0⟩)
abbrev a2m:Stmt:=(a0w (top 17)).getD 5 (.Pass ⟨0,0,0,0⟩)
abbrev a6w:Stmt:=(a0w (top 18)).getD 0 (.Pass ⟨0,0,0,0⟩)
abbrev a3w:Stmt:=(a0w (top 18)).getD 1 (.Pass ⟨0,0,0,0⟩)
abbrev a6t:Stmt:=(a0w (top 19)).getD 0 (.Pass ⟨0,0,0,0⟩)
abbrev a6i:Stmt:=(a0w (top 19)).getD 2 (.Pass ⟨0,0,0,0⟩)
abbrev a4w:Stmt:=(a0w (top 20)).getD 0 (.Pass ⟨0,0,0,0⟩)
abbrev a2r:Stmt:=(a0w (top 20)).getD 1 (.Pass ⟨0,0,0,0⟩)
abbrev a6p:Stmt:=(a0w (top 21)).getD 0 (.Pass ⟨0,0,0,0⟩)
abbrev a9c:Stmt:=top 22
abbrev b1t:Stmt:=top 24
abbrev c5u:Stmt:=top 25
abbrev a6r:Stmt:=(a0w (top 28)).getD 0 (.Pass ⟨0,0,0,0⟩)
abbrev a6h:Stmt:=top 29
abbrev b9f:Stmt:=top 30
abbrev a6u:Stmt:=top 31
abbrev a3r:Stmt:=top 32
abbrev a9f:Stmt:=top 33
abbrev b8v:Stmt:=top 34
abbrev a6g:Stmt:=(a0w (top 39)).getD 0 (.Pass ⟨0,0,0,0⟩)
abbrev a2n:Stmt:=(a0w (top 39)).getD 1 (.Pass ⟨0,0,0,0⟩)
abbrev a6n:Stmt:=(a0w (top 39)).getD 3 (.Pass ⟨0,0,0,0⟩)
abbrev a2i:Stmt:=(a0w (top 39)).getD 4 (.Pass ⟨0,0,0,0⟩)
abbrev a2g:Stmt:=(a0w (top 39)).getD 5 (.Pass ⟨0,0,0,0⟩)
abbrev a5j:Stmt:=(a0w (top 39)).getD 6 (.Pass ⟨0,0,0,0⟩)
abbrev a6m:Stmt:=(a0w (top 39)).getD 8 (.Pass ⟨0,0,0,0⟩)
abbrev a3y:Stmt:=(a0w (top 39)).getD 9 (.Pass ⟨0,0,0,0⟩)
abbrev a8y:Stmt:=top 41
abbrev a4y:Stmt:=(a0w (top 42)).getD 0 (.Pass ⟨0,0,0,0⟩)
abbrev a2s:Stmt:=(a0w (top 42)).getD 1 (.Pass ⟨0,0,0,0⟩)
abbrev a5f:Stmt:=(a0w (top 42)).getD 2 (.Pass ⟨0,0,0,0⟩)
abbrev a4v:Stmt:=(a0w (top 42)).getD 3 (.Pass ⟨0,0,0,0⟩)
abbrev a5i:Stmt:=(a0w (top 49)).getD 0 (.Pass ⟨0,0,0,0⟩)
abbrev a6s:Stmt:=(a0w (top 49)).getD 1 (.Pass ⟨0,0,0,0⟩)
abbrev a2x:Stmt:=(a0w (top 49)).getD 3 (.Pass ⟨0,0,0,0⟩)
abbrev a4z:Stmt:=(a0w (top 55)).getD 0 (.Pass ⟨0,0,0,0⟩)
abbrev a5e:Stmt:=(a0w (top 55)).getD 1 (.Pass ⟨0,0,0,0⟩)
abbrev a4b:Stmt:=(a0w (top 55)).getD 2 (.Pass ⟨0,0,0,0⟩)
abbrev a5b:Stmt:=(a0w (top 55)).getD 3 (.Pass ⟨0,0,0,0⟩)
abbrev a6v:Stmt:=(a0w (top 55)).getD 4 (.Pass ⟨0,0,0,0⟩)
abbrev a4a:Stmt:=(a0w (top 55)).getD 6 (.Pass ⟨0,0,0,0⟩)
abbrev a3h:Stmt:=(a0w (top 55)).getD 7 (.Pass ⟨0,0,0,0⟩)
abbrev a1y:Stmt:=(a0w (top 55)).getD 8 (.Pass ⟨0,0,0,0⟩)
abbrev a2w:Stmt:=(a0w (top 55)).getD 9 (.Pass ⟨0,0,0,0⟩)
abbrev a3x:Stmt:=(a0w (top 55)).getD 11 (.Pass ⟨0,0,0,0⟩)
abbrev a2y:Stmt:=(a0w (top 55)).getD 12 (.Pass ⟨0,0,0,0⟩)
abbrev a5k:Stmt:=(a0w (top 55)).getD 13 (.Pass ⟨0,0,0,0⟩)
abbrev a2p:Stmt:=(a0w (top 55)).getD 14 (.Pass ⟨0,0,0,0⟩)
abbrev a6o:Stmt:=(a0w (top 55)).getD 15 (.Pass ⟨0,0,0,0⟩)
abbrev a3v:Stmt:=(a0w (top 55)).getD 18 (.Pass ⟨0,0,0,0⟩)
abbrev a5c:Stmt:=(a0w (top 55)).getD 21 (.Pass ⟨0,0,0,0⟩)
abbrev a5d:Stmt:=(a0w (top 55)).getD 23 (.Pass ⟨0,0,0,0⟩)
abbrev b8u:Stmt:=top 57
abbrev c8n:Stmt:=top 58
abbrev b9q:Stmt:=top 59
abbrev a8w:Stmt:=top 60
abbrev a6e:Stmt:=top 61
abbrev a6f:Stmt:=top 62
abbrev a6l:Stmt:=top 63
abbrev a9a:Stmt:=top 64
abbrev d0i:Stmt:=top 65
set_option genInjectivity false in
set_option genSizeOf false in
open PySem.W in
structure Tx (K:Frag) (mg:Str→Option Value) where
 c0d:Addr
 c1j:FuncData
 c9x:Fun K "is_whole" "is_whole" a9e c0d c1j
 d7q:a0x K c1j ["thing"] []
 d6a:mg "is_whole"=some (.ref c0d)
 d2w:Addr
 d4c:FuncData
 c2s:Fun K "worth" "worth" b9v d2w d4c
 c9m:a0x K d4c ["operand","names"] []
 c6i:mg "worth"=some (.ref d2w)
 d3o:Addr
 d3p:FuncData
 d9y:Fun K "under" "under" b8t d3o d3p
 e6a:a0x K d3p ["deed","names"] []
 e6l:mg "under"=some (.ref d3o)
 b2v:Addr
 b1p:FuncData
 b9r:Fun K "following" "following" a5g b2v b1p
 c5w:a0x K b1p ["deed","place","names","many"] []
 c9w:mg "following"=some (.ref b2v)
 b1q:Addr
 b2u:FuncData
 c7v:Fun K "word" "Loose.word" a4x b1q b2u
 c6a:a0x K b2u ["self"] []
 a6j:Addr
 b2h:FuncData
 c7h:Fun K "late" "Loose.late" a5a a6j b2h
 b1m:a0x K b2h ["self","begin","stamp"] []
 a8q:Addr
 a8j:FuncData
 c0k:Fun K "unkept" "Loose.unkept" a3f a8q a8j
 c0l:a0x K a8j ["self"] []
 a2q:Addr
 a6x:FuncData
 b8q:Fun K "watches" "Loose.watches" a2m a2q a6x
 a4m:a0x K a6x ["self"] []
 b7l:Addr
 b6l:FuncData
 d1g:Fun K "word" "Kept.word" a6w b7l b6l
 d1y:a0x K b6l ["self"] []
 a3u:Addr
 a9s:FuncData
 c3l:Fun K "unkept" "Kept.unkept" a3w a3u a9s
 a7r:a0x K a9s ["self"] []
 b6n:Addr
 b6w:FuncData
 d2b:Fun K "word" "Make.word" a6t b6n b6w
 d1q:a0x K b6w ["self"] []
 b1e:Addr
 b6r:FuncData
 d1j:Fun K "late" "Make.late" a6i b1e b6r
 c3f:a0x K b6r ["self","begin","stamp"] []
 b3x:Addr
 b2j:FuncData
 c8m:Fun K "word" "Watch.word" a4w b3x b2j
 c8k:a0x K b2j ["self"] []
 a7i:Addr
 a7l:FuncData
 b8l:Fun K "watches" "Watch.watches" a2r a7i a7l
 b8f:a0x K a7l ["self"] []
 b6p:Addr
 b6j:FuncData
 d1s:Fun K "word" "Hold.word" a6p b6p b6j
 d0z:a0x K b6j ["self"] []
 c1p:Addr
 c1b:FuncData
 c6w:Fun K "level_of" "level_of" a9c c1p c1b
 d6h:a0x K c1b ["word"] []
 d5j:mg "level_of"=some (.ref c1p)
 c4z:Addr
 c4x:FuncData
 d3j:Fun K "inside" "inside" b1t c4z c4x
 e0f:a0x K c4x ["key","low","high"] []
 e1i:mg "inside"=some (.ref c4z)
 e0j:Addr
 e1u:FuncData
 e7x:Fun K "meet" "meet" c5u e0j e1u
 f1u:a0x K e1u ["low","high","other_low","other_high"] []
 f2f:mg "meet"=some (.ref e0j)
 b7r:Addr
 b7v:FuncData
 d1l:Fun K "__init__" "Span.__init__" a6r b7r b7v
 d0s:a0x K b7v ["self","number","watched","begin","end","looks","puts"] []
 b6q:Addr
 b7k:FuncData
 c1t:Fun K "passes_by" "passes_by" a6h b6q b7k
 d1w:a0x K b7k ["look","key","end"] []
 d1f:mg "passes_by"=some (.ref b6q)
 d3g:Addr
 d2y:FuncData
 c2q:Fun K "older" "older" b9f d3g d2y
 c8d:a0x K d2y ["one","other"] []
 c5i:mg "older"=some (.ref d3g)
 b6m:Addr
 b7g:FuncData
 c2u:Fun K "first_one" "first_one" a6u b6m b7g
 d0r:a0x K b7g ["spans","mid"] []
 d0t:mg "first_one"=some (.ref b6m)
 a9z:Addr
 a9q:FuncData
 b4h:Fun K "first_other" "first_other" a3r a9z a9q
 c4o:a0x K a9q ["spans","mid"] []
 c4j:mg "first_other"=some (.ref a9z)
 c0c:Addr
 b4i:FuncData
 c7k:Fun K "closing" "closing" a9f c0c b4i
 d5m:a0x K b4i ["kept","new"] []
 d6d:mg "closing"=some (.ref c0c)
 d2m:Addr
 d3b:FuncData
 e0a:Fun K "let_in" "let_in" b8v d2m d3b
 e3o:a0x K d3b ["kept","new"] []
 e3p:mg "let_in"=some (.ref d2m)
 b6o:Addr
 b7c:FuncData
 d1o:Fun K "__init__" "Deal.__init__" a6g b6o b7c
 d0y:a0x K b7c ["self","number","program"] []
 a7h:Addr
 a7k:FuncData
 b8h:Fun K "has_ended" "Deal.has_ended" a2n a7h a7k
 a7e:a0x K a7k ["self"] []
 b6u:Addr
 b6z:FuncData
 d0p:Fun K "wake" "Deal.wake" a6n b6u b6z
 d1z:a0x K b6z ["self","stamp"] []
 a5z:Addr
 a5r:FuncData
 b6f:Fun K "is_through" "Deal.is_through" a2i a5z a5r
 b4o:a0x K a5r ["self"] []
 a5q:Addr
 a5u:FuncData
 b4l:Fun K "next_place" "Deal.next_place" a2g a5q a5u
 b5f:a0x K a5u ["self"] []
 b2n:Addr
 b2m:FuncData
 c5g:Fun K "write" "Deal.write" a5j b2n b2m
 d0d:a0x K b2m ["self","key","value","stamp"] []
 b6x:Addr
 b7i:FuncData
 d1x:Fun K "span" "Deal.span" a6m b6x b7i
 d2c:a0x K b7i ["self","end"] []
 a9v:Addr
 a9y:FuncData
 c3z:Fun K "finish" "Deal.finish" a3y a9v a9y
 c3j:a0x K a9y ["self","phase","why"] []
 c1l:Addr
 c1g:FuncData
 c5h:Fun K "clashes" "clashes" a8y c1l c1g
 d4z:a0x K c1g ["hold","low","high","own"] []
 d6w:mg "clashes"=some (.ref c1l)
 b2p:Addr
 b3s:FuncData
 c8b:Fun K "__init__" "Holds.__init__" a4y b2p b3s
 c5j:a0x K b3s ["self"] []
 a7c:Addr
 a7j:FuncData
 b8m:Fun K "against" "Holds.against" a2s a7c a7j
 b8k:a0x K a7j ["self","dealing","low","high","own"] []
 b1n:Addr
 b2a:FuncData
 c9c:Fun K "take" "Holds.take" a5f b1n b2a
 c6s:a0x K b2a ["self","dealing","low","high","own"] []
 b2i:Addr
 b3i:FuncData
 c6t:Fun K "free" "Holds.free" a4v b2i b3i
 c6v:a0x K b3i ["self","dealing"] []
 b2x:Addr
 b2s:FuncData
 c8e:Fun K "__init__" "Shelf.__init__" a5i b2x b2s
 c6b:a0x K b2s ["self","rows"] []
 b6t:Addr
 b7n:FuncData
 d2d:Fun K "put" "Shelf.put" a6s b6t b7n
 d1v:a0x K b7n ["self","stamp","dealing","drafts"] []
 a8h:Addr
 a8r:FuncData
 c0a:Fun K "newest" "Shelf.newest" a2x a8h a8r
 c1m:a0x K a8r ["self","key"] []
 b2l:Addr
 b3w:FuncData
 c9f:Fun K "__init__" "House.__init__" a4z b2l b3w
 b9m:a0x K b3w ["self","rows","programs"] []
 b3r:Addr
 b3n:FuncData
 c6r:Fun K "step" "House.step" a5e b3r b3n
 b3v:a0x K b3n ["self","number"] []
 a9j:Addr
 a9p:FuncData
 c3o:Fun K "weave" "House.weave" a4b a9j a9p
 c4h:a0x K a9p ["self","numbers"] []
 b2b:Addr
 b3e:FuncData
 c5p:Fun K "rest" "House.rest" a5b b2b b3e
 c6d:a0x K b3e ["self"] []
 b7u:Addr
 b6g:FuncData
 d0v:Fun K "log" "House.log" a6v b7u b6g
 d2f:a0x K b6g ["self"] []
 a9n:Addr
 a9r:FuncData
 c4k:Fun K "state" "House.state" a4a a9n a9r
 b5g:a0x K a9r ["self","number"] []
 a8k:Addr
 a8g:FuncData
 c0g:Fun K "reason" "House.reason" a3h a8k a8g
 b3l:a0x K a8g ["self","number"] []
 a4s:Addr
 a4u:FuncData
 b4a:Fun K "level_word" "House.level_word" a1y a4s a4u
 a7z:a0x K a4u ["self","number"] []
 a8f:Addr
 a8i:FuncData
 c0y:Fun K "looked" "House.looked" a2w a8f a8i
 b2z:a0x K a8i ["self","number"] []
 a9k:Addr
 b0a:FuncData
 c4i:Fun K "order" "House.order" a3x a9k b0a
 c3n:a0x K b0a ["self"] []
 a8l:Addr
 a8p:FuncData
 c0f:Fun K "deal_of" "House.deal_of" a2y a8l a8p
 a3g:a0x K a8p ["self","number"] []
 b1y:Addr
 b3c:FuncData
 c9d:Fun K "tell" "House.tell" a5k b1y b3c
 b3a:a0x K b3c ["self","deal","parts"] []
 a6y:Addr
 a7f:FuncData
 b7z:Fun K "attempt" "House.attempt" a2p a6y a7f
 b8d:a0x K a7f ["self","deal"] []
 b7d:Addr
 b7e:FuncData
 d1d:Fun K "act" "House.act" a6o b7d b7e
 d1a:a0x K b7e ["self","deal"] []
 b0c:Addr
 b0b:FuncData
 c3q:Fun K "write" "House.write" a3v b0c b0b
 c3t:a0x K b0b ["self","deal","deed"] []
 b3p:Addr
 b1x:FuncData
 c8l:Fun K "keep" "House.keep" a5c b3p b1x
 c5z:a0x K b1x ["self","deal"] []
 b3b:Addr
 b2o:FuncData
 c5r:Fun K "take" "House.take" a5d b3b b2o
 c7u:a0x K b2o ["self","deal","low","high","own"] []
 d3l:Addr
 d3y:FuncData
 a8u:Fun K "_law_cell" "_law_cell" b8u d3l d3y
 b0h:a0x K d3y ["_law_script","_law_k"] []
 b0v:mg "_law_cell"=some (.ref d3l)
 e0i:Addr
 e0x:FuncData
 e4d:Fun K "_law_mix" "_law_mix" c8n e0i e0x
 f2g:a0x K e0x ["_law_cell_here","_law_k"] []
 f1v:mg "_law_mix"=some (.ref e0i)
 b5v:Addr
 b4n:FuncData
 b9a:Fun K "_law_same" "_law_same" b9q b5v b4n
 c2l:a0x K b4n ["_law_found","_law_due"] []
 c3g:mg "_law_same"=some (.ref b5v)
 c1a:Addr
 c1o:FuncData
 c0p:Fun K "_law_is_none" "_law_is_none" a8w c1a c1o
 c7g:a0x K c1o ["_law_error"] []
 c8v:mg "_law_is_none"=some (.ref c1a)
 b7p:Addr
 b6i:FuncData
 c2c:Fun K "_law_refused" "_law_refused" a6e b7p b6i
 d1r:a0x K b6i ["_law_house","_law_way","_law_number"] []
 d2a:mg "_law_refused"=some (.ref b7p)
 b6s:Addr
 b7a:FuncData
 c3e:Fun K "_law_no_weave" "_law_no_weave" a6f b6s b7a
 d2h:a0x K b7a ["_law_house","_law_numbers"] []
 d2i:mg "_law_no_weave"=some (.ref b6s)
 b7h:Addr
 b7w:FuncData
 c2w:Fun K "_law_no_level" "_law_no_level" a6l b7h b7w
 d1t:a0x K b7w ["_law_programs","_law_at","_law_word"] []
 d0w:mg "_law_no_level"=some (.ref b7h)
 c1d:Addr
 c0e:FuncData
 c8z:Fun K "_law_states" "_law_states" a9a c1d c0e
 d7l:a0x K c0e ["_law_house","_law_programs","_law_begun"] []
 d7a:mg "_law_states"=some (.ref c1d)
 f1c:Addr
 e9r:FuncData
 f7p:Fun K "law" "law" d0i f1c e9r
 f9c:a0x K e9r ["_law_script"] []
 f9e:mg "law"=some (.ref f1c)
 a2h:Addr
 d9r:mg "SkewError"=some (.ref a2h)
 a1p:Addr
 c5s:mg "NoLevel"=some (.ref a1p)
 a0r:Addr
 b9b:mg "NoDealing"=some (.ref a0r)
 a6a:Addr
 e7p:mg "Loose"=some (.ref a6a)
 b0d:Addr
 f2d:mg "Kept"=some (.ref b0d)
 a9h:Addr
 f1y:mg "Make"=some (.ref a9h)
 a5t:Addr
 e5g:mg "Watch"=some (.ref a5t)
 a9l:Addr
 f2m:mg "Hold"=some (.ref a9l)
 a1n:Addr
 f1o:mg "Span"=some (.ref a1n)
 a0m:Addr
 f2b:mg "Deal"=some (.ref a0m)
 a1d:Addr
 e6r:mg "Holds"=some (.ref a1d)
 a1t:Addr
 e4f:mg "Shelf"=some (.ref a1t)
 a0k:Addr
 d9a:mg "House"=some (.ref a0k)
 d5r:f8s K mg "NoLevel" a1p
 c5l:f8s K mg "NoDealing" a0r
 b6y:e8p K a1p
 a9t:e8p K a0r
 e7b:Mk K a1n b7r
 a1u:Cls K a1n
 a1c:a1w K a1n "number"
 a8v:a1w K a1n "watched"
 b2k:a1w K a1n "begin"
 a6k:a1w K a1n "end"
 b2q:a1w K a1n "looks"
 b4t:a1w K a1n "puts"
 e5v:Mk K a0m b6o
 a0q:Cls K a0m
 a2d:a1w K a0m "number"
 a3e:a1w K a0m "level"
 a4e:a1w K a0m "deeds"
 a3b:a1w K a0m "place"
 a6b:a1w K a0m "names"
 a2k:a1w K a0m "phase"
 a3d:a1w K a0m "begin"
 b3t:a1w K a0m "why"
 b0g:a1w K a0m "wanted"
 a2e:a1w K a0m "drafts"
 b2f:a1w K a0m "wrote"
 b3m:a1w K a0m "looks"
 a5s:a6d K a0m "has_ended" a7h
 c6f:a6d K a0m "wake" b6u
 b4b:a6d K a0m "is_through" a5z
 b3y:a6d K a0m "next_place" a5q
 c4l:a6d K a0m "write" b2n
 c9y:a6d K a0m "span" b6x
 c0h:a6d K a0m "finish" a9v
 e0z:Mk K a1d b2p
 a8m:Cls K a1d
 a3m:a1w K a1d "taken"
 b6d:a6d K a1d "against" a7c
 c4m:a6d K a1d "take" b1n
 c3y:a6d K a1d "free" b2i
 e0r:Mk K a1t b2x
 b6h:Cls K a1t
 a6z:a1w K a1t "makes"
 c6g:a6d K a1t "put" b6t
 b8o:a6d K a1t "newest" a8h
 d3s:Mk K a0k b2l
 a0j:Cls K a0k
 a7d:a1w K a0k "shelf"
 a7g:a1w K a0k "holds"
 a4k:a1w K a0k "deals"
 a4j:a1w K a0k "spans"
 a1o:a1w K a0k "stamp"
 a1a:a1w K a0k "told_rows"
 b0f:a6d K a0k "step" b3r
 b9y:a6d K a0k "weave" a9j
 c3x:a6d K a0k "rest" b2b
 c9t:a6d K a0k "log" b7u
 b3f:a6d K a0k "state" a9n
 b0o:a6d K a0k "reason" a8k
 a6q:a6d K a0k "level_word" a4s
 b0u:a6d K a0k "looked" a8f
 c0q:a6d K a0k "order" a9k
 a2o:a6d K a0k "deal_of" a8l
 a9m:a6d K a0k "tell" b1y
 b6e:a6d K a0k "attempt" a6y
 c5x:a6d K a0k "act" b7d
 c1i:a6d K a0k "write" b0c
 c3p:a6d K a0k "keep" b3p
 c4b:a6d K a0k "take" b3b
 e1a:MkO K a6a
 c0s:Cls K a6a
 f0x:findIn K (.ref a6a) "__class__"=some (some (.builtin "object.__class__"))
 f1b:mroIn K a6a (.type "object")=some true
 c1q:a6d K a6a "word" b1q
 c0v:a6d K a6a "late" a6j
 b5t:a6d K a6a "unkept" a8q
 b4d:a6d K a6a "watches" a2q
 e5h:MkO K b0d
 c6n:Cls K b0d
 f3f:findIn K (.ref b0d) "__class__"=some (some (.builtin "object.__class__"))
 f3k:mroIn K b0d (.type "object")=some true
 c3u:a6d K b0d "word" b7l
 b8e:a6d K b0d "unkept" a3u
 c3i:a6d K b0d "late" a6j
 b5u:a6d K b0d "watches" a2q
 e5i:MkO K a9h
 c6c:Cls K a9h
 f3x:findIn K (.ref a9h) "__class__"=some (some (.builtin "object.__class__"))
 f3u:mroIn K a9h (.type "object")=some true
 c4c:a6d K a9h "word" b6n
 c4f:a6d K a9h "late" b1e
 b8j:a6d K a9h "unkept" a3u
 b5i:a6d K a9h "watches" a2q
 e0y:MkO K a5t
 b9x:Cls K a5t
 f0e:findIn K (.ref a5t) "__class__"=some (some (.builtin "object.__class__"))
 f0k:mroIn K a5t (.type "object")=some true
 c1f:a6d K a5t "word" b3x
 b4c:a6d K a5t "watches" a7i
 c0t:a6d K a5t "late" b1e
 b5y:a6d K a5t "unkept" a3u
 e7z:MkO K a9l
 c8c:Cls K a9l
 f3a:findIn K (.ref a9l) "__class__"=some (some (.builtin "object.__class__"))
 f2w:mroIn K a9l (.type "object")=some true
 c4e:a6d K a9l "word" b6p
 b8n:a6d K a9l "unkept" a3u
 c3w:a6d K a9l "late" a6j
 b5b:a6d K a9l "watches" a2q
 tg:specialIn K (.builtin "object.__class__") "__get__"=some (some (.builtin "getset_descriptor.__get__"))
 tt:takesIn K (.builtin "object.__class__")=some true
 b2t:kitOne K (.ref a2h) (.ref a2h)=some true
 b5r:kitOne K (.ref a2h) (.ref a1p)=some false
 b3q:kitOne K (.ref a2h) (.ref a0r)=some false
 b4x:kitOne K (.ref a1p) (.ref a2h)=some true
 a9d:kitOne K (.ref a1p) (.ref a1p)=some true
 a7v:kitOne K (.ref a1p) (.ref a0r)=some false
 b2y:kitOne K (.ref a0r) (.ref a2h)=some true
 a7n:kitOne K (.ref a0r) (.ref a1p)=some false
 a5w:kitOne K (.ref a0r) (.ref a0r)=some true
 a4c:subIn K (.ref a0r) (.ref a2h)=some true
 d1p:subIn K (.ref a1p) (.ref a2h)=some true
 b0e:f9o K mg "SkewError" a2h
 d1h:subIn K (.ref a1p) (.type "ValueError")=some true
 c3k:subIn K (.ref a0r) (.type "ValueError")=some true
 a7x:Addr
 c3r:mg "END_PHASES"=some (.ref a7x)
 c4d:∀ H:Hp,SqT K H a7x [V.str "kept",V.str "broken"]
 c9i:Addr
 e8b:mg "LOOKS"=some (.ref c9i)
 e6i:∀ H:Hp,SqT K H c9i [V.str "read",V.str "sum",V.str "count"]
 c0r:Addr
 e0l:mg "WRITES"=some (.ref c0r)
 e1h:∀ H:Hp,SqT K H c0r [V.str "put",V.str "take"]
 a4n:Addr
 d5g:mg "NO_MAKE"=some (.ref a4n)
 d6i:∀ H:Hp,SqT K H a4n [V.int 0,V.int 0,V.non]
 e7r:Tok
 e5z:mg "START"=some (.int (0) e7r)
 a7t:mg "ValueError"=none
 e9l:mg "all"=none
 e9z:mg "any"=none
 d6m:mg "bool"=none
 b1u:mg "enumerate"=none
 e6j:mg "int"=none
 a0v:mg "isinstance"=none
 b0z:mg "len"=none
 b1k:mg "list"=none
 e9w:mg "max"=none
 e5l:mg "min"=none
 b9l:mg "range"=none
 a9o:mg "sorted"=none
 e7m:mg "str"=none
 b9i:mg "tuple"=none
 f1e:mg "zip"=none
 lc:Addr
 lp:Addr
 lcd:b4i.code=.ref lc
 lch:codeHdIn K lc lp=true
theorem e3f:a0o ["thing"] ["thing"] (a0c a9e):=⟨rfl,rfl,rfl,by decide +kernel,rfl,by decide +kernel,by decide +kernel⟩
theorem e9i:a0o ["operand","names"] ["operand","names"] (a0c b9v):=⟨rfl,rfl,rfl,by decide +kernel,rfl,by decide +kernel,by decide +kernel⟩
theorem e9c:a0o ["deed","names"] ["deed","names"] (a0c b8t):=⟨rfl,rfl,rfl,by decide +kernel,rfl,by decide +kernel,by decide +kernel⟩
theorem b5e:a0o ["deed","place","names","many","passed"] ["deed","place","names","many"] (a0c a5g):=⟨rfl,rfl,rfl,by decide +kernel,rfl,by decide +kernel,by decide +kernel⟩
theorem d5w:a0o ["self"] ["self"] (a0c a4x):=⟨rfl,rfl,rfl,by decide +kernel,rfl,by decide +kernel,by decide +kernel⟩
theorem d5d:a0o ["self","begin","stamp"] ["self","begin","stamp"] (a0c a5a):=⟨rfl,rfl,rfl,by decide +kernel,rfl,by decide +kernel,by decide +kernel⟩
theorem d0m:a0o ["self"] ["self"] (a0c a3f):=⟨rfl,rfl,rfl,by decide +kernel,rfl,by decide +kernel,by decide +kernel⟩
theorem c9s:a0o ["self"] ["self"] (a0c a2m):=⟨rfl,rfl,rfl,by decide +kernel,rfl,by decide +kernel,by decide +kernel⟩
theorem d8w:a0o ["self"] ["self"] (a0c a6w):=⟨rfl,rfl,rfl,by decide +kernel,rfl,by decide +kernel,by decide +kernel⟩
theorem d2n:a0o ["self"] ["self"] (a0c a3w):=⟨rfl,rfl,rfl,by decide +kernel,rfl,by decide +kernel,by decide +kernel⟩
theorem d9h:a0o ["self"] ["self"] (a0c a6t):=⟨rfl,rfl,rfl,by decide +kernel,rfl,by decide +kernel,by decide +kernel⟩
theorem d8j:a0o ["self","begin","stamp"] ["self","begin","stamp"] (a0c a6i):=⟨rfl,rfl,rfl,by decide +kernel,rfl,by decide +kernel,by decide +kernel⟩
theorem d5i:a0o ["self"] ["self"] (a0c a4w):=⟨rfl,rfl,rfl,by decide +kernel,rfl,by decide +kernel,by decide +kernel⟩
theorem c5v:a0o ["self"] ["self"] (a0c a2r):=⟨rfl,rfl,rfl,by decide +kernel,rfl,by decide +kernel,by decide +kernel⟩
theorem d8f:a0o ["self"] ["self"] (a0c a6p):=⟨rfl,rfl,rfl,by decide +kernel,rfl,by decide +kernel,by decide +kernel⟩
theorem d0x:a0o ["word","level"] ["word"] (a0c a9c):=⟨rfl,rfl,rfl,by decide +kernel,rfl,by decide +kernel,by decide +kernel⟩
theorem e6d:a0o ["key","low","high"] ["key","low","high"] (a0c b1t):=⟨rfl,rfl,rfl,by decide +kernel,rfl,by decide +kernel,by decide +kernel⟩
theorem f3w:a0o ["low","high","other_low","other_high"] ["low","high","other_low","other_high"] (a0c c5u):=⟨rfl,rfl,rfl,by decide +kernel,rfl,by decide +kernel,by decide +kernel⟩
theorem d8i:a0o ["self","number","watched","begin","end","looks","puts"] ["self","number","watched","begin","end","looks","puts"] (a0c a6r):=⟨rfl,rfl,rfl,by decide +kernel,rfl,by decide +kernel,by decide +kernel⟩
theorem d9s:a0o ["look","key","end"] ["look","key","end"] (a0c a6h):=⟨rfl,rfl,rfl,by decide +kernel,rfl,by decide +kernel,by decide +kernel⟩
theorem d2u:a0o ["one","other","key","look"] ["one","other"] (a0c b9f):=⟨rfl,rfl,rfl,by decide +kernel,rfl,by decide +kernel,by decide +kernel⟩
theorem c7q:a0o ["spans","mid","span"] ["spans","mid"] (a0c a6u):=⟨rfl,rfl,rfl,by decide +kernel,rfl,by decide +kernel,by decide +kernel⟩
theorem c0n:a0o ["spans","mid","span"] ["spans","mid"] (a0c a3r):=⟨rfl,rfl,rfl,by decide +kernel,rfl,by decide +kernel,by decide +kernel⟩
theorem b1j:a0o ["kept","new","spans","mid","one","other"] ["kept","new"] (a0c a9f):=⟨rfl,rfl,rfl,by decide +kernel,rfl,by decide +kernel,by decide +kernel⟩
theorem e1c:a0o ["kept","new","three"] ["kept","new"] (a0c b8v):=⟨rfl,rfl,rfl,by decide +kernel,rfl,by decide +kernel,by decide +kernel⟩
theorem d8g:a0o ["self","number","program"] ["self","number","program"] (a0c a6g):=⟨rfl,rfl,rfl,by decide +kernel,rfl,by decide +kernel,by decide +kernel⟩
theorem c9a:a0o ["self"] ["self"] (a0c a2n):=⟨rfl,rfl,rfl,by decide +kernel,rfl,by decide +kernel,by decide +kernel⟩
theorem d8m:a0o ["self","stamp"] ["self","stamp"] (a0c a6n):=⟨rfl,rfl,rfl,by decide +kernel,rfl,by decide +kernel,by decide +kernel⟩
theorem c4r:a0o ["self"] ["self"] (a0c a2i):=⟨rfl,rfl,rfl,by decide +kernel,rfl,by decide +kernel,by decide +kernel⟩
theorem c4t:a0o ["self"] ["self"] (a0c a2g):=⟨rfl,rfl,rfl,by decide +kernel,rfl,by decide +kernel,by decide +kernel⟩
theorem d7k:a0o ["self","key","value","stamp"] ["self","key","value","stamp"] (a0c a5j):=⟨rfl,rfl,rfl,by decide +kernel,rfl,by decide +kernel,by decide +kernel⟩
theorem c7l:a0o ["self","end","looks"] ["self","end"] (a0c a6m):=⟨rfl,rfl,rfl,by decide +kernel,rfl,by decide +kernel,by decide +kernel⟩
theorem d3n:a0o ["self","phase","why"] ["self","phase","why"] (a0c a3y):=⟨rfl,rfl,rfl,by decide +kernel,rfl,by decide +kernel,by decide +kernel⟩
theorem e3d:a0o ["hold","low","high","own"] ["hold","low","high","own"] (a0c a8y):=⟨rfl,rfl,rfl,by decide +kernel,rfl,by decide +kernel,by decide +kernel⟩
theorem d6v:a0o ["self"] ["self"] (a0c a4y):=⟨rfl,rfl,rfl,by decide +kernel,rfl,by decide +kernel,by decide +kernel⟩
theorem b5k:a0o ["self","dealing","low","high","own","others"] ["self","dealing","low","high","own"] (a0c a2s):=⟨rfl,rfl,rfl,by decide +kernel,rfl,by decide +kernel,by decide +kernel⟩
theorem c4n:a0o ["self","dealing","low","high","own","others"] ["self","dealing","low","high","own"] (a0c a5f):=⟨rfl,rfl,rfl,by decide +kernel,rfl,by decide +kernel,by decide +kernel⟩
theorem d6b:a0o ["self","dealing"] ["self","dealing"] (a0c a4v):=⟨rfl,rfl,rfl,by decide +kernel,rfl,by decide +kernel,by decide +kernel⟩
theorem b4q:a0o ["self","rows","key","value"] ["self","rows"] (a0c a5i):=⟨rfl,rfl,rfl,by decide +kernel,rfl,by decide +kernel,by decide +kernel⟩
theorem b8z:a0o ["self","stamp","dealing","drafts","key","value"] ["self","stamp","dealing","drafts"] (a0c a6s):=⟨rfl,rfl,rfl,by decide +kernel,rfl,by decide +kernel,by decide +kernel⟩
theorem b8b:a0o ["self","key","makes"] ["self","key"] (a0c a2x):=⟨rfl,rfl,rfl,by decide +kernel,rfl,by decide +kernel,by decide +kernel⟩
theorem d6r:a0o ["self","rows","programs"] ["self","rows","programs"] (a0c a4z):=⟨rfl,rfl,rfl,by decide +kernel,rfl,by decide +kernel,by decide +kernel⟩
theorem b5w:a0o ["self","number","deal","before"] ["self","number"] (a0c a5e):=⟨rfl,rfl,rfl,by decide +kernel,rfl,by decide +kernel,by decide +kernel⟩
theorem a8t:a0o ["self","numbers","deals","before","deal"] ["self","numbers"] (a0c a4b):=⟨rfl,rfl,rfl,by decide +kernel,rfl,by decide +kernel,by decide +kernel⟩
theorem b4f:a0o ["self","before","deal"] ["self"] (a0c a5b):=⟨rfl,rfl,rfl,by decide +kernel,rfl,by decide +kernel,by decide +kernel⟩
theorem d9w:a0o ["self"] ["self"] (a0c a6v):=⟨rfl,rfl,rfl,by decide +kernel,rfl,by decide +kernel,by decide +kernel⟩
theorem d2p:a0o ["self","number"] ["self","number"] (a0c a4a):=⟨rfl,rfl,rfl,by decide +kernel,rfl,by decide +kernel,by decide +kernel⟩
theorem d0g:a0o ["self","number"] ["self","number"] (a0c a3h):=⟨rfl,rfl,rfl,by decide +kernel,rfl,by decide +kernel,by decide +kernel⟩
theorem c1v:a0o ["self","number"] ["self","number"] (a0c a1y):=⟨rfl,rfl,rfl,by decide +kernel,rfl,by decide +kernel,by decide +kernel⟩
theorem b8c:a0o ["self","number","deal"] ["self","number"] (a0c a2w):=⟨rfl,rfl,rfl,by decide +kernel,rfl,by decide +kernel,by decide +kernel⟩
theorem b2d:a0o ["self","spots","span","deal","stands","stamps"] ["self"] (a0c a3x):=⟨rfl,rfl,rfl,by decide +kernel,rfl,by decide +kernel,by decide +kernel⟩
theorem d0k:a0o ["self","number"] ["self","number"] (a0c a2y):=⟨rfl,rfl,rfl,by decide +kernel,rfl,by decide +kernel,by decide +kernel⟩
theorem d5s:a0o ["self","deal","parts"] ["self","deal","parts"] (a0c a5k):=⟨rfl,rfl,rfl,by decide +kernel,rfl,by decide +kernel,by decide +kernel⟩
theorem c9p:a0o ["self","deal","refusal"] ["self","deal"] (a0c a2p):=⟨rfl,rfl,rfl,by decide +kernel,rfl,by decide +kernel,by decide +kernel⟩
theorem c9n:a0o ["self","deal","deed"] ["self","deal"] (a0c a6o):=⟨rfl,rfl,rfl,by decide +kernel,rfl,by decide +kernel,by decide +kernel⟩
theorem a8o:a0o ["self","deal","deed","key","value","newest"] ["self","deal","deed"] (a0c a3v):=⟨rfl,rfl,rfl,by decide +kernel,rfl,by decide +kernel,by decide +kernel⟩
theorem d6f:a0o ["self","deal"] ["self","deal"] (a0c a5c):=⟨rfl,rfl,rfl,by decide +kernel,rfl,by decide +kernel,by decide +kernel⟩
theorem d7c:a0o ["self","deal","low","high","own"] ["self","deal","low","high","own"] (a0c a5d):=⟨rfl,rfl,rfl,by decide +kernel,rfl,by decide +kernel,by decide +kernel⟩
theorem d2x:a0o ["_law_script","_law_k","_law_number"] ["_law_script","_law_k"] (a0c b8u):=⟨rfl,rfl,rfl,by decide +kernel,rfl,by decide +kernel,by decide +kernel⟩
theorem d8e:a0o ["_law_cell_here","_law_k","_law_number"] ["_law_cell_here","_law_k"] (a0c c8n):=⟨rfl,rfl,rfl,by decide +kernel,rfl,by decide +kernel,by decide +kernel⟩
theorem d3t:a0o ["_law_found","_law_due","_law_one","_law_other"] ["_law_found","_law_due"] (a0c b9q):=⟨rfl,rfl,rfl,by decide +kernel,rfl,by decide +kernel,by decide +kernel⟩
theorem e1v:a0o ["_law_error"] ["_law_error"] (a0c a8w):=⟨rfl,rfl,rfl,by decide +kernel,rfl,by decide +kernel,by decide +kernel⟩
theorem c6q:a0o ["_law_house","_law_way","_law_number","e"] ["_law_house","_law_way","_law_number"] (a0c a6e):=⟨rfl,rfl,rfl,by decide +kernel,rfl,by decide +kernel,by decide +kernel⟩
theorem b9s:a0o ["_law_house","_law_numbers","_law_handed","e"] ["_law_house","_law_numbers"] (a0c a6f):=⟨rfl,rfl,rfl,by decide +kernel,rfl,by decide +kernel,by decide +kernel⟩
theorem b9n:a0o ["_law_programs","_law_at","_law_word","_law_some","e"] ["_law_programs","_law_at","_law_word"] (a0c a6l):=⟨rfl,rfl,rfl,by decide +kernel,rfl,by decide +kernel,by decide +kernel⟩
theorem b7b:a0o ["_law_house","_law_programs","_law_begun","_law_k","_law_state"] ["_law_house","_law_programs","_law_begun"] (a0c a9a):=⟨rfl,rfl,rfl,by decide +kernel,rfl,by decide +kernel,by decide +kernel⟩
theorem a8a:a0o ["_law_script","_law_many","_law_programs","_law_k","_law_number","_law_house","_law_due","_law_far","_law_way","_law_numbers","_law_at","_law_found","_law_word"] ["_law_script"] (a0c d0i):=⟨rfl,rfl,rfl,by decide +kernel,rfl,by decide +kernel,by decide +kernel⟩
def cO {K:PySem.W.Frag} {mg:Str→Option Value} (T:Tx K mg):Lv→Addr
 | .loose=>T.a6a
 | .kept=>T.b0d
 | .make=>T.a9h
 | .watch=>T.a5t
 | .hold=>T.a9l
def Opd (v:V):Prop:=(∃ n,v=.int n)∨∃ x:Str,v=.str x
def isI:V→Bool
 | .int _=>true
 | _=>false
def f7c:V→Int
 | .int n=>n
 | _=>0
def wI (v:V) (kvs:List (Key×V)):Int:=match v with
 | .int n=>n
 | .str x=>f7c ((b7j kvs (Sum.inr x)).getD (.int 0))
 | _=>0
theorem f4d {kvs:List (Key×V)} (ai:d6s kvs) (x:Str):(b7j kvs (Sum.inr x:Key)).getD (.int 0)=.int (wI (.str x) kvs):=by
 show _=V.int (f7c ((b7j kvs (Sum.inr x)).getD (.int 0)))
 cases e:b7j kvs (Sum.inr x:Key) with
 | none=>rfl
 | some v =>
  obtain⟨kv,hm,hv⟩:=e0v e
  obtain⟨n,hn⟩:=ai kv hm
  rw[←hv,hn]
  rfl
def g0r (w:Str) (r:List V) (kvs:List (Key×V)) (more:Int):Prop :=
 (¬ w="skip"∧more=0)∨∃ o1 o2 n,w="skip"∧r=[o1,o2,.int n]∧Opd o1∧Opd o2∧more=if wI o1 kvs < wI o2 kvs then n else 0
def spWhole:Sp:=fun vs H Q _=>∃ v,vs=[v]∧Opd v∧Q (.bl (isI v)) H
def f5e:Sp:=fun vs H Q _=>∃ v d kvs,vs=[v,.ref d]∧Opd v∧H d=some (.dK kvs)∧d6s kvs∧Q (.int (wI v kvs)) H
def f4g:Sp:=fun vs H Q _=>∃ q d kvs w o1 o2 r,vs=[.ref q,.ref d]∧H q=some (.tup (.str w::o1::o2::r))∧Opd o1∧Opd o2∧H d=some (.dK kvs)∧d6s kvs ∧
 Q (.bl (decide (wI o1 kvs < wI o2 kvs))) H
def f0t:Sp:=fun vs H Q _=>∃ q pl d many kvs w r more,vs=[.ref q,.int pl,.ref d,.int many]∧H q=some (.tup (.str w::r))∧g0r w r kvs more∧H d=some (.dK kvs)∧d6s kvs ∧
 Q (.int (if many < pl+1+more then many else pl+1+more)) H
section
variable {P:Program} {w:World} {K:PySem.W.Frag} {mg:Str→Option Value} {base:Heap}
theorem e3i (T:Tx K mg):a2j P w K mg base CX0 1 T.c0d T.c1j ["thing"] spWhole:=by
 refine T.c9x.ok e3f (fun vs H Q E h=>?_) (fun cdv A outer s H vs Q E hr h=>?_)
 ·obtain⟨v,rfl,_⟩:=h
  rfl
 ·obtain⟨v,rfl,ho,k⟩:=h
  refine⟨_,(a0g (a0s (b1g (a0t a7m (by rfl) T.a0v boot_isinstance (a0a (pv 0) (a0a (a6c (v:=V.ty "int") rfl T.e6j boot_int rfl) a0f))) (b8p (e1n (a0t a7m (by rfl) T.a0v boot_isinstance (a0a (pv 0) (a0a (a6c (v:=V.ty "bool") rfl T.d6m boot_bool rfl) a0f)))))))),?_⟩
  rcases ho with ⟨n,rfl⟩ | ⟨x,rfl⟩
  ·refine⟨_,rfl,_,_,_,_,rfl,d4y.int _,f1t,_,rfl,d4t ?_⟩
   exact⟨_,rfl,_,_,_,_,rfl,d4y.int _,f1q,_,rfl,k⟩
  ·exact⟨_,rfl,_,_,_,_,rfl,d4y.str _,f7w,_,rfl,d0e k⟩
theorem c5d (T:Tx K mg):a2j P w K mg base CX0 2 T.d2w T.d4c ["operand","names"] f5e:=by
 refine T.c2s.ok e9i (fun vs H Q E h=>?_) (fun cdv A outer s H vs Q E hr h=>?_)
 ·obtain⟨v,d,kvs,rfl,_⟩:=h
  rfl
 ·obtain⟨v,d,kvs,rfl,ho,hd,ai,k⟩:=h
  have hu:=c3h hr
  refine⟨_,(a0e (a2v (a3t (a1b ((e3i T).mono (by decide)) hr rfl T.d6a T.c9x.kp T.d7q .nil a1j (a0a (pv 0) a0f)))
   (a0g (a0s (pv 0)))
   a1e)
   (a0g (a0s (e1b hu (pv 1) (pv 0) a0n ⟨rfl,rfl,rfl,rfl⟩)))),?_⟩
  rcases ho with ⟨n,rfl⟩ | ⟨x,rfl⟩
  ·refine⟨_,rfl,_,rfl,.inl ⟨n,rfl⟩,_,rfl,d4t ?_⟩
   exact⟨_,rfl,k⟩
  ·refine⟨_,rfl,_,rfl,.inr ⟨x,rfl⟩,_,rfl,d0e ?_⟩
   refine⟨_,rfl,d,rfl,.inl ⟨kvs,.inl hd⟩,_,rfl,_,e8q.k (k:=Sum.inr x) hd,?_⟩
   rw[f4d ai x]
   exact k
theorem f0b (T:Tx K mg):a2j P w K mg base CX0 3 T.d3o T.d3p ["deed","names"] f4g:=by
 refine T.d9y.ok e9c (fun vs H Q E h=>?_) (fun cdv A outer s H vs Q E hr h=>?_)
 ·obtain⟨q,d,kvs,w,o1,o2,r,rfl,_⟩:=h
  rfl
 ·obtain⟨q,d,kvs,w,o1,o2,r,rfl,hq,h1,h2,hd,ai,k⟩:=h
  have hu:=c3h hr
  refine⟨_,(a0g (a0s (a8z d8s (a1b ((c5d T).mono (by decide)) hr rfl T.c6i T.c2s.kp T.c9m .nil a1j (a0a (a2z a3j (pv 0) a0n (fun _ _=>rfl)) (a0a (pv 1) a0f))) (a1b ((c5d T).mono (by decide)) hr rfl T.c6i T.c2s.kp T.c9m .nil a1j (a0a (a2z a3j (pv 0) a0n (fun _ _=>rfl)) (a0a (pv 1) a0f))) (a1f _)))),?_⟩
  refine⟨_,rfl,q,_,_,_,rfl,rfl,SqT.of hq,a0z (j:=1) rfl,_,rfl,o1,d,kvs,rfl,h1,hd,ai,?_⟩
  refine⟨_,rfl,q,_,_,_,rfl,rfl,SqT.of hq,a0z (j:=2) rfl,_,rfl,o2,d,kvs,rfl,h2,hd,ai,?_⟩
  exact⟨_,_,rfl,rfl,k⟩
theorem d4u (T:Tx K mg):a2j P w K mg base CX0 4 T.b2v T.b1p ["deed","place","names","many"] f0t:=by
 refine T.b9r.ok b5e (fun vs H Q E h=>?_) (fun cdv A outer s H vs Q E hr h=>?_)
 ·obtain⟨q,pl,d,many,kvs,w,r,more,rfl,_⟩:=h
  rfl
 ·obtain⟨q,pl,d,many,kvs,w,r,more,rfl,hq,hm,hd,ai,k⟩:=h
  have hu:=c3h hr
  refine⟨_,(a0e (a1s (i:=4) b5e.nd rfl (Or.inl rfl) a0n)
   (a0e (a2v (PW.pt (d6n (a0y c1e (a2z a3j (pv 0) a0n (fun _ _=>rfl)) a2b (a1f _)) (c9h (a3t (a1b ((f0b T).mono (by decide)) hr rfl T.e6l T.d9y.kp T.e6a .nil a1j (a0a (pv 0) (a0a (pv 2) a0f)))))))
   (a0g (a1s (i:=4) b5e.nd rfl (Or.inl rfl) (a2z a3j (pv 0) a0n (fun _ _=>rfl))))
   a1e)
   (a0g (a0s (a0t (d4v rfl) (by rfl) T.e5l boot_min (a0a (a1r a4l (a1r a4l (pv 1) a0n) (pv 4)) (a0a (pv 3) a0f))))))),?_⟩
  rcases hm with ⟨hw,rfl⟩ | ⟨o1,o2,n,rfl,rfl,h1,h2,rfl⟩
  ·refine⟨_,rfl,q,_,_,_,rfl,rfl,SqT.of hq,a0z (j:=0) rfl,rfl,_,rfl,f5r (fun e=>hw (V.str.inj e)) (d0e ?_)⟩
   exact⟨_,rfl,_,_,rfl,rfl,_,rfl,_,_,rfl,rfl,_,rfl,_,_,rfl,k⟩
  ·refine⟨_,rfl,q,_,_,_,rfl,rfl,SqT.of hq,a0z (j:=0) rfl,rfl,_,rfl,f3c rfl ?_⟩
   refine⟨_,rfl,_,rfl,q,d,kvs,_,o1,o2,_,rfl,hq,h1,h2,hd,ai,_,rfl,?_⟩
   refine a5n (fun e=>?_) (fun e=>?_)
   ·have el:wI o1 kvs < wI o2 kvs:=of_decide_eq_true e
    rw[if_pos el] at k
    refine⟨_,rfl,q,_,_,_,rfl,rfl,SqT.of hq,a0z (j:=3) rfl,?_⟩
    exact⟨_,rfl,_,_,rfl,rfl,_,rfl,_,_,rfl,rfl,_,rfl,_,_,rfl,k⟩
   ·have el:¬ wI o1 kvs < wI o2 kvs:=fun y=>e (decide_eq_true y)
    rw[if_neg el] at k
    exact⟨_,rfl,_,_,rfl,rfl,_,rfl,_,_,rfl,rfl,_,rfl,_,_,rfl,k⟩
theorem d7o (T:Tx K mg):a2j P w K mg base CX0 1 T.b1q T.b2u ["self"] (d0u .loose):=by
 refine T.c7v.ok d5w (fun vs H Q E h=>?_) (fun cdv A outer s H vs Q E hr h=>?_)
 ·obtain⟨x,rfl,_⟩:=h
  rfl
 ·obtain⟨x,rfl,q⟩:=h
  exact⟨_,(a0g (a0s a2b)),q⟩
theorem d8d (T:Tx K mg):a2j P w K mg base CX0 1 T.b7l T.b6l ["self"] (d0u .kept):=by
 refine T.d1g.ok d8w (fun vs H Q E h=>?_) (fun cdv A outer s H vs Q E hr h=>?_)
 ·obtain⟨x,rfl,_⟩:=h
  rfl
 ·obtain⟨x,rfl,q⟩:=h
  exact⟨_,(a0g (a0s a2b)),q⟩
theorem d7v (T:Tx K mg):a2j P w K mg base CX0 1 T.b6n T.b6w ["self"] (d0u .make):=by
 refine T.d2b.ok d9h (fun vs H Q E h=>?_) (fun cdv A outer s H vs Q E hr h=>?_)
 ·obtain⟨x,rfl,_⟩:=h
  rfl
 ·obtain⟨x,rfl,q⟩:=h
  exact⟨_,(a0g (a0s a2b)),q⟩
theorem d6e (T:Tx K mg):a2j P w K mg base CX0 1 T.b3x T.b2j ["self"] (d0u .watch):=by
 refine T.c8m.ok d5i (fun vs H Q E h=>?_) (fun cdv A outer s H vs Q E hr h=>?_)
 ·obtain⟨x,rfl,_⟩:=h
  rfl
 ·obtain⟨x,rfl,q⟩:=h
  exact⟨_,(a0g (a0s a2b)),q⟩
theorem d9b (T:Tx K mg):a2j P w K mg base CX0 1 T.b6p T.b6j ["self"] (d0u .hold):=by
 refine T.d1s.ok d8f (fun vs H Q E h=>?_) (fun cdv A outer s H vs Q E hr h=>?_)
 ·obtain⟨x,rfl,_⟩:=h
  rfl
 ·obtain⟨x,rfl,q⟩:=h
  exact⟨_,(a0g (a0s a2b)),q⟩
theorem e8j (T:Tx K mg):∀ l,∃ f fd ps,Cls K (cO T l)∧a6d K (cO T l) "word" f∧a2j P w K mg base CX0 1 f fd ps (d0u l)∧a0x K fd ps []:=by
 intro l
 cases l
 ·exact⟨_,_,_,T.c0s,T.c1q,d7o T,T.c6a⟩
 ·exact⟨_,_,_,T.c6n,T.c3u,d8d T,T.d1y⟩
 ·exact⟨_,_,_,T.c6c,T.c4c,d7v T,T.d1q⟩
 ·exact⟨_,_,_,T.b9x,T.c1f,d6e T,T.c8k⟩
 ·exact⟨_,_,_,T.c8c,T.c4e,d9b T,T.d0z⟩
theorem b4u (T:Tx K mg):a2j P w K mg base CX0 1 T.a6j T.b2h ["self","begin","stamp"] (e3n .loose):=by
 refine T.c7h.ok d5d (fun vs H Q E h=>?_) (fun cdv A outer s H vs Q E hr h=>?_)
 ·obtain⟨x,b,n,rfl,_⟩:=h
  rfl
 ·obtain⟨x,b,n,rfl,q⟩:=h
  exact⟨_,(a0g (a0s a9g)),q⟩
theorem c7d (T:Tx K mg):a2j P w K mg base CX0 1 T.b1e T.b6r ["self","begin","stamp"] (e3n .make):=by
 refine T.d1j.ok d8j (fun vs H Q E h=>?_) (fun cdv A outer s H vs Q E hr h=>?_)
 ·obtain⟨x,b,n,rfl,_⟩:=h
  rfl
 ·obtain⟨x,b,n,rfl,q⟩:=h
  exact⟨_,(a0g (a0s (a8z d7x (pv 2) (pv 1) (a1f _)))),⟨_,rfl,_,rfl,_,_,rfl,rfl,q⟩⟩
theorem f4n (T:Tx K mg):∀ l,∃ f fd ps,Cls K (cO T l)∧a6d K (cO T l) "late" f∧a2j P w K mg base CX0 1 f fd ps (e3n l)∧a0x K fd ps []:=by
 intro l
 cases l
 ·exact⟨_,_,_,T.c0s,T.c0v,b4u T,T.b1m⟩
 ·exact⟨_,_,_,T.c6n,T.c3i,b4u T,T.b1m⟩
 ·exact⟨_,_,_,T.c6c,T.c4f,c7d T,T.c3f⟩
 ·exact⟨_,_,_,T.b9x,T.c0t,c7d T,T.c3f⟩
 ·exact⟨_,_,_,T.c8c,T.c3w,b4u T,T.b1m⟩
theorem d0o (T:Tx K mg):a2j P w K mg base CX0 1 T.a8q T.a8j ["self"] (f3g .loose):=by
 refine T.c0k.ok d0m (fun vs H Q E h=>?_) (fun cdv A outer s H vs Q E hr h=>?_)
 ·obtain⟨x,rfl,_⟩:=h
  rfl
 ·obtain⟨x,rfl,q⟩:=h
  exact⟨_,(a0g (a0s a9g)),q⟩
theorem a8s (T:Tx K mg):a2j P w K mg base CX0 1 T.a3u T.a9s ["self"] (f3g .kept):=by
 refine T.c3l.ok d2n (fun vs H Q E h=>?_) (fun cdv A outer s H vs Q E hr h=>?_)
 ·obtain⟨x,rfl,_⟩:=h
  rfl
 ·obtain⟨x,rfl,q⟩:=h
  exact⟨_,(a0g (a0s a9g)),q⟩
theorem e7t (T:Tx K mg):∀ l,∃ f fd ps,Cls K (cO T l)∧a6d K (cO T l) "unkept" f∧a2j P w K mg base CX0 1 f fd ps (f3g l)∧a0x K fd ps []:=by
 intro l
 cases l
 ·exact⟨_,_,_,T.c0s,T.b5t,d0o T,T.c0l⟩
 ·exact⟨_,_,_,T.c6n,T.b8e,a8s T,T.a7r⟩
 ·exact⟨_,_,_,T.c6c,T.b8j,a8s T,T.a7r⟩
 ·exact⟨_,_,_,T.b9x,T.b5y,a8s T,T.a7r⟩
 ·exact⟨_,_,_,T.c8c,T.b8n,a8s T,T.a7r⟩
theorem a5y (T:Tx K mg):a2j P w K mg base CX0 1 T.a2q T.a6x ["self"] (f4h .loose):=by
 refine T.b8q.ok c9s (fun vs H Q E h=>?_) (fun cdv A outer s H vs Q E hr h=>?_)
 ·obtain⟨x,rfl,_⟩:=h
  rfl
 ·obtain⟨x,rfl,q⟩:=h
  exact⟨_,(a0g (a0s a9g)),q⟩
theorem c6p (T:Tx K mg):a2j P w K mg base CX0 1 T.a7i T.a7l ["self"] (f4h .watch):=by
 refine T.b8l.ok c5v (fun vs H Q E h=>?_) (fun cdv A outer s H vs Q E hr h=>?_)
 ·obtain⟨x,rfl,_⟩:=h
  rfl
 ·obtain⟨x,rfl,q⟩:=h
  exact⟨_,(a0g (a0s a9g)),q⟩
theorem e2v (T:Tx K mg):∀ l,∃ f fd ps,Cls K (cO T l)∧a6d K (cO T l) "watches" f∧a2j P w K mg base CX0 1 f fd ps (f4h l)∧a0x K fd ps []:=by
 intro l
 cases l
 ·exact⟨_,_,_,T.c0s,T.b4d,a5y T,T.a4m⟩
 ·exact⟨_,_,_,T.c6n,T.b5u,a5y T,T.a4m⟩
 ·exact⟨_,_,_,T.c6c,T.b5i,a5y T,T.a4m⟩
 ·exact⟨_,_,_,T.b9x,T.b4c,c6p T,T.b8f⟩
 ·exact⟨_,_,_,T.c8c,T.b5b,a5y T,T.a4m⟩
theorem e2p (T:Tx K mg):a2j P w K mg base (CXW P w) 2 T.c1p T.c1b ["word"] (e5d (cO T) T.a1p):=by
 refine b0l T.c6w d0x (fun vs H Q E h=>?_) (fun cdv A outer s H vs Q E hr h=>?_)
 ·obtain⟨x,rfl,_⟩:=h
  rfl
 ·obtain⟨x,rfl,hl,hc,k,ke⟩:=h
  refine⟨_,(a0e (f2i (a8d PassesOwn.never rfl (a3a (a3k (a0a (c6l T.e1a rfl T.e7p) (a0a (c6l T.e5h rfl T.f2d) (a0a (c6l T.e5i rfl T.f1y) (a0a (c6l T.e0y rfl T.e5g) (a0a (c6l T.e7z rfl T.f2m) a0f))))))) (a1m (i:=1) d0x.nd rfl (Or.inl rfl))
   (a0g (a2v (a0y c1e (c1n (pv 1) (e8j T) (hr.mono (by decide))) (pv 0) (a1f _))
   (a0g (a0s (pv 1)))
   a1e))))
   (a0g (e0s T.d5r rfl (f0n (pv 0) (by decide +kernel))))),?_⟩
  intro x1 d1 h1 e1 n1
  have s1:=Same.newO (C:=T.a6a) h1 e1 n1
  have o1:=a0b (H:=upd H d1 (.own x1)) (a:=x1) (o:=HO.ins T.a6a d1 [])
  generalize upd (upd H d1 (.own x1)) x1 (.ins T.a6a d1 [])=H1 at s1 o1 ⊢
  intro x2 d2 h2 e2 n2
  have s2:=Same.newO (C:=T.b0d) h2 e2 n2
  have o2:=a0b (H:=upd H1 d2 (.own x2)) (a:=x2) (o:=HO.ins T.b0d d2 [])
  generalize upd (upd H1 d2 (.own x2)) x2 (.ins T.b0d d2 [])=H2 at s2 o2 ⊢
  intro x3 d3 h3 e3 n3
  have s3:=Same.newO (C:=T.a9h) h3 e3 n3
  have o3:=a0b (H:=upd H2 d3 (.own x3)) (a:=x3) (o:=HO.ins T.a9h d3 [])
  generalize upd (upd H2 d3 (.own x3)) x3 (.ins T.a9h d3 [])=H3 at s3 o3 ⊢
  intro x4 d4 h4 e4 n4
  have s4:=Same.newO (C:=T.a5t) h4 e4 n4
  have o4:=a0b (H:=upd H3 d4 (.own x4)) (a:=x4) (o:=HO.ins T.a5t d4 [])
  generalize upd (upd H3 d4 (.own x4)) x4 (.ins T.a5t d4 [])=H4 at s4 o4 ⊢
  intro x5 d5 h5 e5 n5
  have s5:=Same.newO (C:=T.a9l) h5 e5 n5
  have o5:=a0b (H:=upd H4 d5 (.own x5)) (a:=x5) (o:=HO.ins T.a9l d5 [])
  generalize upd (upd H4 d5 (.own x5)) x5 (.ins T.a9l d5 [])=H5 at s5 o5 ⊢
  refine⟨(by show 5≤sizeLine;decide),fun p hp=>?_⟩
  have s6:=Same.upd (o:=HO.lst [V.ref x1,.ref x2,.ref x3,.ref x4,.ref x5]) hp
  have hpl:=a0b (H:=H5) (a:=p) (o:=HO.lst [V.ref x1,.ref x2,.ref x3,.ref x4,.ref x5])
  have SS:Same H (upd H5 p (.lst [V.ref x1,.ref x2,.ref x3,.ref x4,.ref x5])):=s1.trans (s2.trans (s3.trans (s4.trans (s5.trans s6))))
  replace o1:=s6 _ _ (s5 _ _ (s4 _ _ (s3 _ _ (s2 _ _ o1))))
  replace o2:=s6 _ _ (s5 _ _ (s4 _ _ (s3 _ _ o2)))
  replace o3:=s6 _ _ (s5 _ _ (s4 _ _ o3))
  replace o4:=s6 _ _ (s5 _ _ o4)
  replace o5:=s6 _ _ o5
  generalize upd H5 p (HO.lst [V.ref x1,.ref x2,.ref x3,.ref x4,.ref x5])=H6 at hpl SS o1 o2 o3 o4 o5 ⊢
  clear s1 s2 s3 s4 s5 s6 h1 h2 h3 h4 h5 e1 e2 e3 e4 e5
  have at_:∀ (i:Nat) y,[V.ref x1,.ref x2,.ref x3,.ref x4,.ref x5][i]?=some y→∃ l a dx,ix l=i∧y=V.ref a∧H6 a=some (.ins (cO T l) dx []):=fun i y hy=>by
   match i,hy with
   | 0,hy=>exact⟨.loose,x1,d1,rfl,(Option.some.inj hy).symm,o1⟩
   | 1,hy=>exact⟨.kept,x2,d2,rfl,(Option.some.inj hy).symm,o2⟩
   | 2,hy=>exact⟨.make,x3,d3,rfl,(Option.some.inj hy).symm,o3⟩
   | 3,hy=>exact⟨.watch,x4,d4,rfl,(Option.some.inj hy).symm,o4⟩
   | 4,hy=>exact⟨.hold,x5,d5,rfl,(Option.some.inj hy).symm,o5⟩
   | n+5,hy=>simp at hy
  refine⟨p,rfl,⟨_,SqL.of hpl⟩,b3d (K:=K) (a:=p) (xs:=[V.ref x1,.ref x2,.ref x3,.ref x4,.ref x5])
   (fun i σ Hn=>Hn=H6∧∃ (y:Option V),σ=[some (.str x),y]∧∀ l,ix l < i→x≠wd l)
   ⟨rfl,none,rfl,fun l h=>absurd h (Nat.not_lt_zero _)⟩ (fun i σ Hn _ ⟨z,_⟩=>z ▸ SqL.of hpl) ?_ ?_⟩
  ·rintro i y σ Hn hy ⟨z2,y0,rfl,hno⟩
   subst z2
   obtain⟨l,a,dx,hix,rfl,ha⟩:=at_ i y hy
   refine⟨_,rfl,a,l,dx,[],rfl,ha,rfl,_,rfl,_,rfl,rfl,_,rfl,a5n (fun e=>?_) (fun e=>?_)⟩
   ·exact⟨_,rfl,k l (V.str.inj (of_decide_eq_true e)).symm a dx _ SS ha⟩
   ·refine⟨rfl,_,rfl,fun l' hl'=>?_⟩
    rcases Nat.lt_succ_iff_lt_or_eq.mp hl' with z | z
    ·exact hno l' z
    ·have:l'=l:=by
      rw[←hix] at z
      cases l'<;>cases l<;>first | rfl | cases z
     rw[this]
     exact fun q=>e (decide_eq_true (congrArg V.str q.symm))
  ·rintro σ Hn ⟨z2,y0,rfl,hno⟩
   subst z2
   exact⟨_,rfl,x,rfl,hc,by omega,fun r=>ke (fun l=>hno l (by show ix l < 5;cases l<;>decide)) _ SS⟩
--@STAGE
structure DF where
 n:V
 lv:V
 de:V
 p:V
 na:V
 ph:V
 b:V
 w:V
 wa:V
 dr:V
 wr:V
 lo:V
def DF.fs (d:DF):List (Str×V):=[("number",d.n),("level",d.lv),("deeds",d.de),("place",d.p),("names",d.na),("phase",d.ph),("begin",d.b),("why",d.w),("wanted",d.wa),("drafts",d.dr),("wrote",d.wr),("looks",d.lo)]
def f6r (x:Str):Bool:=inV (.str x) [.str "kept",.str "broken"]
def e2m (b:V) (st:Int):V:=if b=.non then .int st else b
def f4o (C:Addr):Sp:=fun vs H Q _=>∃ (a dx:Addr) (d:DF) (x:Str),vs=[.ref a]∧H a=some (.ins C dx d.fs)∧d.ph=.str x∧Q (.bl (f6r x)) H
def f7i (C:Addr):Sp:=fun vs H Q _=>∃ (a dx:Addr) (d:DF) (st:Int),vs=[.ref a,.int st]∧H a=some (.ins C dx d.fs)∧(d.b=.non∨∃ i:Int,d.b=.int i)∧Q .non (upd H a (.ins C dx {d with b:=e2m d.b st,ph:=.str "going"}.fs))
def e4s (C:Addr):Sp:=fun vs H Q _=>∃ (a dx de:Addr) (d:DF) (p:Int) (xs:List V),vs=[.ref a]∧H a=some (.ins C dx d.fs)∧d.p=.int p∧d.de=.ref de∧H de=some (.lst xs)∧Q (.bl (decide (p=xs.length))) H
def f3l (C:Addr):Sp:=fun vs H Q _=>∃ (a dx de na q:Addr) (d:DF) (p:Nat) (xs r:List V) (kvs:List (Key×V)) (w:Str) (more:Int),vs=[.ref a]∧H a=some (.ins C dx d.fs)∧d.p=.int p∧d.de=.ref de∧H de=some (.lst xs)∧xs[p]?=some (.ref q) ∧
 H q=some (.tup (.str w::r))∧g0r w r kvs more∧d.na=.ref na∧H na=some (.dK kvs)∧d6s kvs∧Q (.int (if (xs.length:Int) < p+1+more then xs.length else p+1+more)) H
def e8u (C:Addr):Sp:=fun vs H Q _=>∃ (a dx dr wr:Addr) (d:DF) (k st:Int) (v:V) (kd kw:List (Key×V)),vs=[.ref a,.int k,v,.int st]∧H a=some (.ins C dx d.fs)∧d.dr=.ref dr∧d.wr=.ref wr∧H dr=some (.dK kd)∧H wr=some (.dK kw)∧dr≠wr∧kd.length < 1000∧kw.length < 1000 ∧
 Q .non (upd (upd H dr (.dK (b1r kd (Sum.inl k:Key) v))) wr (.dK (b1r kw (Sum.inl k:Key) (.int st))))
def e9t (C:Addr):Sp:=fun vs H Q _=>∃ (a dx:Addr) (d:DF) (x:Str) (y:V),vs=[.ref a,.str x,y]∧H a=some (.ins C dx d.fs)∧Q .non (upd H a (.ins C dx {d with ph:=.str x,w:=y}.fs))
def But (a:Addr) (H H':Hp):Prop:=∀ b o,b≠a→H b=some o→H' b=some o
theorem But.of {a:Addr} {H H':Hp} (s:Same H H'):But a H H':=fun b o _ e=>s b o e
theorem But.trans {a:Addr} {H H1 H2:Hp} (x:But a H H1) (y:But a H1 H2):But a H H2:=fun b o n e=>y b o n (x b o n e)
theorem But.upd {a:Addr} {H:Hp} {o:HO}:But a H (upd H a o):=fun b u n e=>by rw[a0d n];exact e
theorem But.new {a c:Addr} {H H1:Hp} {o:HO} (x:But a H H1) (ha:H1 a=some o) (h:H1 c=none):H c=none:=by
 cases e:H c with
 | none=>rfl
 | some u =>
  by_cases z:c=a
  ·rw[z,ha] at h;cases h
  ·rw[x c u z e] at h;cases h
theorem b5n {H:Hp} {a:Addr} {x y:HO}:upd (upd H a x) a y=upd H a y:=by
 funext b
 by_cases z:b=a
 ·rw[z,a0b,a0b]
 ·rw[a0d z,a0d z,a0d z]
def c9o (n:Int) (lv de na dr wr lo:Addr):DF:=⟨.int n,.ref lv,.ref de,.int 0,.ref na,.str "new",.non,.non,.non,.ref dr,.ref wr,.ref lo⟩
def f6d (C:Addr) (cls:Lv→Addr) (N:Addr):Sp:=fun vs H Q E=>∃ (a dx pt dl:Addr) (n:Int) (x:Str) (xs:List V),vs=[.ref a,.int n,.ref pt]∧H a=some (.ins C dx [])∧H pt=some (.tup [.str x,.ref dl])∧H dl=some (.lst xs)∧x.length≤600∧(∀ c∈x.cps.toList,c < 16 ^ 8) ∧
 (∀ l,x=wd l→∀ H' lv ldx de na dr wr lo,But a H H'→H' a=some (.ins C dx (c9o n lv de na dr wr lo).fs)→H' lv=some (.ins (cls l) ldx [])→H' de=some (.lst xs)→H' na=some (.dK [])→H' dr=some (.dK [])→H' wr=some (.dK [])→H' lo=some (.lst []) →
  H de=none→H na=none→H dr=none→H wr=none→H lo=none→[na,dr,wr].Nodup→de≠lo→Q .non H') ∧
 ((∀ l,x≠wd l)→∀ H',But a H H'→E (.ref N) none H')
theorem a8x (T:Tx K mg):a2j P w K mg base CX0 1 T.a7h T.a7k ["self"] (f4o T.a0m):=by
 refine T.b8h.ok c9a (fun vs H Q E h=>?_) (fun cdv A outer s H vs Q E hr h=>?_)
 ·obtain⟨a,dx,d,x,rfl,_⟩:=h
  rfl
 ·obtain⟨a,dx,d,x,rfl,ha,hp,q⟩:=h
  refine⟨_,(a0g (a0s (a8z d0a (a0i (K:=K) rfl (pv 0) rfl) (b3k (v:=V.ref T.a7x) rfl T.c3r rfl) rfl))),?_⟩
  refine⟨_,rfl,a,_,dx,_,_,rfl,ha,T.a0q,T.a2k,rfl,?_⟩
  rw[hp]
  exact⟨T.a7x,[.str "kept",.str "broken"],rfl,.inr (T.c4d _),rfl,rfl,q⟩
theorem d8r (T:Tx K mg):a2j P w K mg base CX0 1 T.b6u T.b6z ["self","stamp"] (f7i T.a0m):=by
 refine T.d0p.ok d8m (fun vs H Q E h=>?_) (fun cdv A outer s H vs Q E hr h=>?_)
 ·obtain⟨a,dx,d,st,rfl,_⟩:=h
  rfl
 ·obtain⟨a,dx,d,st,rfl,ha,hb,q⟩:=h
  refine⟨_,(a0e (a2v (a0y e0g (a0i (K:=K) rfl (pv 0) rfl) a4q (a1f _))
   (a0g (a2a (pv 0) (pv 1) rfl))
   a1e)
   (a0g (a2a (pv 0) a2b rfl))),?_⟩
  refine⟨_,rfl,a,_,dx,_,_,rfl,ha,T.a0q,T.a3d,rfl,rfl,_,rfl,a5n (fun e=>?_) (fun e=>?_)⟩
  ·have e1:d.b=.non:=of_decide_eq_true e
   refine⟨_,rfl,_,rfl,a,_,dx,_,rfl,ha,T.a0q,T.a3d,(by show 12 < 1000;decide),?_⟩
   refine⟨_,rfl,a,_,dx,_,rfl,a0b,T.a0q,T.a2k,(by show 12 < 1000;decide),?_⟩
   rw[b5n]
   have e2:e2m d.b st=.int st:=if_pos e1
   rw[e2] at q
   exact q
  ·have e1:¬ d.b=.non:=fun z=>e (decide_eq_true z)
   refine⟨_,rfl,a,_,dx,_,rfl,ha,T.a0q,T.a2k,(by show 12 < 1000;decide),?_⟩
   have e2:e2m d.b st=d.b:=if_neg e1
   rw[e2] at q
   exact q
theorem c4s (T:Tx K mg):a2j P w K mg base CX0 1 T.a5z T.a5r ["self"] (e4s T.a0m):=by
 refine T.b6f.ok c4r (fun vs H Q E h=>?_) (fun cdv A outer s H vs Q E hr h=>?_)
 ·obtain⟨a,dx,de,d,p,xs,rfl,_⟩:=h
  rfl
 ·obtain⟨a,dx,de,d,p,xs,rfl,ha,hp,he,hl,q⟩:=h
  refine⟨_,(a0g (a0s (a8z c1e (a0i (K:=K) rfl (pv 0) rfl) (a0t a2l (by rfl) T.b0z boot_len (a0a (a0i (K:=K) rfl (pv 0) rfl) a0f)) (a1f _)))),?_⟩
  refine⟨_,rfl,a,_,dx,_,_,rfl,ha,T.a0q,T.a3b,rfl,?_⟩
  refine⟨_,rfl,a,_,dx,_,_,rfl,ha,T.a0q,T.a4e,rfl,?_⟩
  rw[hp,he]
  refine⟨_,_,rfl,.inl ⟨_,SqL.of hl,rfl⟩,rfl,?_⟩
  have e:decide (V.int p=V.int (xs.length:Int))=decide (p=(xs.length:Int)):=by
   by_cases z:p=(xs.length:Int)
   ·rw[decide_eq_true z,decide_eq_true (congrArg V.int z)]
   ·rw[decide_eq_false z,decide_eq_false (fun y=>z (V.int.inj y))]
  show Q (.bl (decide (V.int p=V.int (xs.length:Int)))) H
  rw[e]
  exact q
theorem c4v (T:Tx K mg):a2j P w K mg base CX0 5 T.a5q T.a5u ["self"] (f3l T.a0m):=by
 refine T.b4l.ok c4t (fun vs H Q E h=>?_) (fun cdv A outer s H vs Q E hr h=>?_)
 ·obtain⟨a,dx,de,na,q,d,p,xs,r,kvs,w,more,rfl,_⟩:=h
  rfl
 ·obtain⟨a,dx,de,na,q,d,p,xs,r,kvs,w,more,rfl,ha,hp,he,hl,hx,hq,hm,hn,hna,ai,k⟩:=h
  refine⟨_,(a0g (a0s (a1b ((d4u T).mono (by decide)) hr rfl T.c9w T.b9r.kp T.c5w .nil a1j (a0a (a2z a5v (a0i (K:=K) rfl (pv 0) rfl) (a0i (K:=K) rfl (pv 0) rfl) (fun _ _=>rfl)) (a0a (a0i (K:=K) rfl (pv 0) rfl) (a0a (a0i (K:=K) rfl (pv 0) rfl) (a0a (a0t a2l (by rfl) T.b0z boot_len (a0a (a0i (K:=K) rfl (pv 0) rfl) a0f)) a0f))))))),?_⟩
  refine⟨_,rfl,a,_,dx,_,_,rfl,ha,T.a0q,T.a4e,rfl,?_⟩
  refine⟨_,rfl,a,_,dx,_,_,rfl,ha,T.a0q,T.a3b,rfl,?_⟩
  rw[hp,he]
  refine⟨de,_,_,_,rfl,rfl,SqL.of hl,a0z (j:=p) hx,?_⟩
  refine⟨_,rfl,a,_,dx,_,_,rfl,ha,T.a0q,T.a3b,rfl,?_⟩
  refine⟨_,rfl,a,_,dx,_,_,rfl,ha,T.a0q,T.a6b,rfl,?_⟩
  refine⟨_,rfl,a,_,dx,_,_,rfl,ha,T.a0q,T.a4e,rfl,?_⟩
  rw[hp,hn,he]
  refine⟨_,_,rfl,.inl ⟨_,SqL.of hl,rfl⟩,?_⟩
  exact⟨q,p,na,_,kvs,w,r,more,rfl,hq,hm,hna,ai,k⟩
theorem d7h (T:Tx K mg):a2j P w K mg base CX0 1 T.b2n T.b2m ["self","key","value","stamp"] (e8u T.a0m):=by
 refine T.c5g.ok d7k (fun vs H Q E h=>?_) (fun cdv A outer s H vs Q E hr h=>?_)
 ·obtain⟨a,dx,dr,wr,d,k,st,v,kd,kw,rfl,_⟩:=h
  rfl
 ·obtain⟨a,dx,dr,wr,d,k,st,v,kd,kw,rfl,ha,e1,e2,h1,h2,ne,l1,l2,q⟩:=h
  have hu:=c3h hr
  have z1000:(1000:Nat) < sizeLine:=by decide
  refine⟨_,(a0e (d9m hu (a0i (K:=K) rfl (pv 0) rfl) (pv 1) (pv 2) rfl)
   (a0g (d9m hu (a0i (K:=K) rfl (pv 0) rfl) (pv 1) (pv 3) rfl))),?_⟩
  refine⟨_,rfl,_,rfl,a,_,dx,_,_,rfl,ha,T.a0q,T.a2e,rfl,_,rfl,dr,_,e1,f5g.k (k:=Sum.inl k) h1 (by omega),?_⟩
  have ad:a≠dr:=fun z=>by rw[z,h1] at ha;cases ha
  refine⟨_,rfl,_,rfl,a,_,dx,_,_,rfl,(by rw[a0d ad];exact ha),T.a0q,T.b2f,rfl,_,rfl,wr,_,e2,f5g.k (k:=Sum.inl k) (by rw[a0d ne.symm];exact h2) (by omega),q⟩
theorem d4l (T:Tx K mg):a2j P w K mg base CX0 1 T.a9v T.a9y ["self","phase","why"] (e9t T.a0m):=by
 refine T.c3z.ok d3n (fun vs H Q E h=>?_) (fun cdv A outer s H vs Q E hr h=>?_)
 ·obtain⟨a,dx,d,x,y,rfl,_⟩:=h
  rfl
 ·obtain⟨a,dx,d,x,y,rfl,ha,q⟩:=h
  refine⟨_,(a0e (a2a (pv 0) (pv 1) rfl)
   (a0g (a2a (pv 0) (pv 2) rfl))),?_⟩
  refine⟨_,rfl,_,rfl,a,_,dx,_,rfl,ha,T.a0q,T.a2k,(by show 12 < 1000;decide),?_⟩
  refine⟨_,rfl,_,rfl,a,_,dx,_,rfl,a0b,T.a0q,T.b3t,(by show 12 < 1000;decide),?_⟩
  rw[b5n]
  exact q
theorem d8x (T:Tx K mg):a2j P w K mg base (CXW P w) 3 T.b6o T.b7c ["self","number","program"] (f6d T.a0m (cO T) T.a1p):=by
 refine b0l T.d1o d8g (fun vs H Q E h=>?_) (fun cdv A outer s H vs Q E hr h=>?_)
 ·obtain⟨a,dx,pt,dl,n,x,xs,rfl,_⟩:=h
  rfl
 ·obtain⟨a,dx,pt,dl,n,x,xs,rfl,ha,hpt,hdl,hx,hc,k1,k2⟩:=h
  refine⟨_,(a0e (a2a (pv 0) (pv 1) rfl)
   (a0e (a2a (pv 0) (a1b ((e2p T).mono (by decide)) hr rfl T.d5j T.c6w.kp T.d6h .nil (e2f fun _ _ _ z=>z) (a0a (a2z a3j (pv 2) a0n (fun _ _=>rfl)) a0f)) rfl)
   (a0e (a2a (pv 0) (a7s a3z (by rfl) T.b1k boot_list (a0a (a2z a3j (pv 2) a0n (fun _ _=>rfl)) a0f)) rfl)
   (a0e (a2a (pv 0) a0n rfl)
   (a0e (a2a (pv 0) b1s rfl)
   (a0e (a2a (pv 0) a2b rfl)
   (a0e (a2a (pv 0) a4q rfl)
   (a0e (a2a (pv 0) a4q rfl)
   (a0e (a2a (pv 0) a4q rfl)
   (a0e (a2a (pv 0) b1s rfl)
   (a0e (a2a (pv 0) b1s rfl)
   (a0g (a2a (pv 0) (a3k a0f) rfl))))))))))))),?_⟩
  have npt:pt≠a:=fun z=>by rw[z,ha] at hpt;cases hpt
  have ndl:dl≠a:=fun z=>by rw[z,ha] at hdl;cases hdl
  refine⟨_,rfl,_,rfl,a,_,dx,_,rfl,ha,T.a0q,T.a2d,(by show 0 < 1000;decide),?_⟩
  have B1:But a H (upd H a (.ins T.a0m dx (c4u "number" (.int n) []))):=But.upd
  have a1:=a0b (H:=H) (a:=a) (o:=HO.ins T.a0m dx (c4u "number" (.int n) []))
  generalize upd H a (.ins T.a0m dx (c4u "number" (.int n) []))=H1 at B1 a1 ⊢
  refine⟨_,rfl,pt,_,_,_,rfl,rfl,SqT.of (B1 _ _ npt hpt),a0z (j:=0) rfl,x,rfl,hx,hc,fun l el lv ldx H2 s2 hlv=>?_,fun ne H2 s2=>k2 ne H2 (B1.trans (But.of s2))⟩
  have B2:=B1.trans (But.of (a:=a) s2)
  have a2:=s2 _ _ a1
  have nlv:lv≠a:=fun z=>by
   rw[z,a2] at hlv
   exact absurd (HO.ins.inj (Option.some.inj hlv)).2.2 (show ¬ ([(("number":Str),V.int n)]:List (Str×V))=[] from List.cons_ne_nil _ _)
  refine⟨_,rfl,a,_,dx,_,rfl,a2,T.a0q,T.a3e,(by show 1 < 1000;decide),?_⟩
  have B3:But a H (upd H2 a (.ins T.a0m dx [("number",.int n),("level",.ref lv)])):=B2.trans But.upd
  have a3:=a0b (H:=H2) (a:=a) (o:=HO.ins T.a0m dx [("number",.int n),("level",.ref lv)])
  replace hlv:upd H2 a (.ins T.a0m dx [("number",.int n),("level",.ref lv)]) lv=some (.ins (cO T l) ldx []):=by rw[a0d nlv];exact hlv
  show f2n _ _ _ _ (upd H2 a (.ins T.a0m dx [("number",.int n),("level",.ref lv)]))
  generalize upd H2 a (.ins T.a0m dx [("number",.int n),("level",.ref lv)])=H3 at B3 a3 hlv ⊢
  refine⟨_,rfl,pt,_,_,_,rfl,rfl,SqT.of (B3 _ _ npt hpt),a0z (j:=1) rfl,dl,xs,rfl,.inl (SqL.of (B3 _ _ ndl hdl)),fun de hde=>?_⟩
  have fde:=B3.new a3 hde
  have nde:de≠a:=fun z=>by rw[z,a3] at hde;cases hde
  have s4:=Same.upd (o:=HO.lst xs) hde
  have d4:=a0b (H:=H3) (a:=de) (o:=HO.lst xs)
  refine⟨_,rfl,a,_,dx,_,rfl,s4 _ _ a3,T.a0q,T.a4e,(by show 2 < 1000;decide),?_⟩
  refine⟨_,rfl,a,_,dx,_,rfl,a0b,T.a0q,T.a3b,(by show 3 < 1000;decide),?_⟩
  rw[b5n]
  have B5:But a H (upd (upd H3 de (.lst xs)) a (.ins T.a0m dx [("number",.int n),("level",.ref lv),("deeds",.ref de),("place",.int 0)])):=(B3.trans (But.of s4)).trans But.upd
  have a5:=a0b (H:=upd H3 de (.lst xs)) (a:=a) (o:=HO.ins T.a0m dx [("number",.int n),("level",.ref lv),("deeds",.ref de),("place",.int 0)])
  have lv5:upd (upd H3 de (.lst xs)) a (.ins T.a0m dx [("number",.int n),("level",.ref lv),("deeds",.ref de),("place",.int 0)]) lv=some (.ins (cO T l) ldx []):=by rw[a0d nlv];exact s4 _ _ hlv
  have d5:upd (upd H3 de (.lst xs)) a (.ins T.a0m dx [("number",.int n),("level",.ref lv),("deeds",.ref de),("place",.int 0)]) de=some (.lst xs):=by rw[a0d nde];exact d4
  show f2n _ _ _ _ (upd (upd H3 de (.lst xs)) a (.ins T.a0m dx [("number",.int n),("level",.ref lv),("deeds",.ref de),("place",.int 0)]))
  generalize upd (upd H3 de (.lst xs)) a (.ins T.a0m dx [("number",.int n),("level",.ref lv),("deeds",.ref de),("place",.int 0)])=H5 at B5 a5 lv5 d5 ⊢
  intro na hna
  have fna:=B5.new a5 hna
  have nna:na≠a:=fun z=>by rw[z,a5] at hna;cases hna
  have s6:=Same.upd (o:=HO.dK []) hna
  have n6:=a0b (H:=H5) (a:=na) (o:=HO.dK [])
  refine⟨_,rfl,a,_,dx,_,rfl,s6 _ _ a5,T.a0q,T.a6b,(by show 4 < 1000;decide),?_⟩
  refine⟨_,rfl,a,_,dx,_,rfl,a0b,T.a0q,T.a2k,(by show 5 < 1000;decide),?_⟩
  rw[b5n]
  refine⟨_,rfl,a,_,dx,_,rfl,a0b,T.a0q,T.a3d,(by show 6 < 1000;decide),?_⟩
  rw[b5n]
  refine⟨_,rfl,a,_,dx,_,rfl,a0b,T.a0q,T.b3t,(by show 7 < 1000;decide),?_⟩
  rw[b5n]
  refine⟨_,rfl,a,_,dx,_,rfl,a0b,T.a0q,T.b0g,(by show 8 < 1000;decide),?_⟩
  rw[b5n]
  let f9:List (Str×V):=[("number",.int n),("level",.ref lv),("deeds",.ref de),("place",.int 0),("names",.ref na),("phase",.str "new"),("begin",.non),("why",.non),("wanted",.non)]
  have B9:But a H (upd (upd H5 na (.dK [])) a (.ins T.a0m dx f9)):=(B5.trans (But.of s6)).trans But.upd
  have a9:=a0b (H:=upd H5 na (.dK [])) (a:=a) (o:=HO.ins T.a0m dx f9)
  have K9:But a H5 (upd (upd H5 na (.dK [])) a (.ins T.a0m dx f9)):=(But.of s6).trans But.upd
  have n9:upd (upd H5 na (.dK [])) a (.ins T.a0m dx f9) na=some (.dK []):=by rw[a0d nna];exact n6
  show f2n _ _ _ _ (upd (upd H5 na (.dK [])) a (.ins T.a0m dx f9))
  generalize upd (upd H5 na (.dK [])) a (.ins T.a0m dx f9)=H9 at B9 a9 K9 n9 ⊢
  intro dr hdr
  have fdr:=B9.new a9 hdr
  have ndr:dr≠a:=fun z=>by rw[z,a9] at hdr;cases hdr
  have x1:na≠dr:=fun z=>by rw[←z,n9] at hdr;cases hdr
  let f10:List (Str×V):=[("number",.int n),("level",.ref lv),("deeds",.ref de),("place",.int 0),("names",.ref na),("phase",.str "new"),("begin",.non),("why",.non),("wanted",.non),("drafts",.ref dr)]
  have s10:=Same.upd (o:=HO.dK []) hdr
  refine⟨_,rfl,a,_,dx,_,rfl,s10 _ _ a9,T.a0q,T.a2e,(by show 9 < 1000;decide),?_⟩
  have K10:But a H9 (upd (upd H9 dr (.dK [])) a (.ins T.a0m dx f10)):=(But.of s10).trans But.upd
  have a10:=a0b (H:=upd H9 dr (.dK [])) (a:=a) (o:=HO.ins T.a0m dx f10)
  have r10:upd (upd H9 dr (.dK [])) a (.ins T.a0m dx f10) dr=some (.dK []):=by rw[a0d ndr,a0b]
  show f2n _ _ _ _ (upd (upd H9 dr (.dK [])) a (.ins T.a0m dx f10))
  generalize upd (upd H9 dr (.dK [])) a (.ins T.a0m dx f10)=H10 at K10 a10 r10 ⊢
  intro wr hwr
  have fwr:=(B9.trans K10).new a10 hwr
  have nwr:wr≠a:=fun z=>by rw[z,a10] at hwr;cases hwr
  have x2:dr≠wr:=fun z=>by rw[←z,r10] at hwr;cases hwr
  have x3:na≠wr:=fun z=>by rw[←z,K10 _ _ nna n9] at hwr;cases hwr
  let f11:List (Str×V):=[("number",.int n),("level",.ref lv),("deeds",.ref de),("place",.int 0),("names",.ref na),("phase",.str "new"),("begin",.non),("why",.non),("wanted",.non),("drafts",.ref dr),("wrote",.ref wr)]
  have s11:=Same.upd (o:=HO.dK []) hwr
  refine⟨_,rfl,a,_,dx,_,rfl,s11 _ _ a10,T.a0q,T.b2f,(by show 10 < 1000;decide),?_⟩
  have K11:But a H10 (upd (upd H10 wr (.dK [])) a (.ins T.a0m dx f11)):=(But.of s11).trans But.upd
  have a11:=a0b (H:=upd H10 wr (.dK [])) (a:=a) (o:=HO.ins T.a0m dx f11)
  have w11:upd (upd H10 wr (.dK [])) a (.ins T.a0m dx f11) wr=some (.dK []):=by rw[a0d nwr,a0b]
  show g0s K (f6v 0) (g0n f5f) "looks" {nx:=fun x H'=>Q V.non H',rt:=Q} _ (upd (upd H10 wr (.dK [])) a (.ins T.a0m dx f11))
  generalize upd (upd H10 wr (.dK [])) a (.ins T.a0m dx f11)=H11 at K11 a11 w11 ⊢
  refine⟨(by show 0≤sizeLine;decide),fun lo hlo=>?_⟩
  have flo:=((B9.trans K10).trans K11).new a11 hlo
  have nlo:lo≠a:=fun z=>by rw[z,a11] at hlo;cases hlo
  have d11:=K11 _ _ nde (K10 _ _ nde (K9 _ _ nde d5))
  have x4:de≠lo:=fun z=>by rw[←z,d11] at hlo;cases hlo
  have s12:=Same.upd (o:=HO.lst []) hlo
  refine⟨_,rfl,a,_,dx,_,rfl,s12 _ _ a11,T.a0q,T.b3m,(by show 11 < 1000;decide),?_⟩
  have K12:But a H11 (upd (upd H11 lo (.lst [])) a (.ins T.a0m dx (c9o n lv de na dr wr lo).fs)):=(But.of s12).trans But.upd
  refine k1 l el _ lv ldx de na dr wr lo (((B9.trans K10).trans K11).trans K12) a0b (K12 _ _ nlv (K11 _ _ nlv (K10 _ _ nlv (K9 _ _ nlv lv5)))) (K12 _ _ nde d11) (K12 _ _ nna (K11 _ _ nna (K10 _ _ nna n9))) (K12 _ _ ndr (K11 _ _ ndr r10)) (K12 _ _ nwr w11) (by rw[a0d nlo,a0b]) fde fna fdr fwr flo ?_ x4
  simp[x1,x2,x3]
--@STAGE
abbrev Hold:=Int×Int×Bool
def clash (r:Hold) (lo hi:Int) (own:Bool):Bool:=(r.2.2 || own) && decide ((if lo > r.1 then lo else r.1)≤(if hi < r.2.1 then hi else r.2.1))
inductive Rws (H:Hp):List V→List Hold→Prop where
 | nil:Rws H [] []
 | cons {t:Addr} {a b:Int} {o:Bool} {vs:List V} {rs:List Hold} (h:H t=some (.tup [.int a,.int b,.bl o])) (r:Rws H vs rs):Rws H (.ref t::vs) ((a,b,o)::rs)
inductive Ent (H:Hp):List (Key×V)→List (Int×List Hold)→Prop where
 | nil:Ent H [] []
 | cons {l:Addr} {k:Int} {vs:List V} {rs:List Hold} {kvs:List (Key×V)} {m:List (Int×List Hold)} (h:H l=some (.lst vs)) (q:Rws H vs rs) (r:Ent H kvs m):Ent H ((Sum.inl k,.ref l)::kvs) ((k,rs)::m)
def hk (m:List (Int×List Hold)) (k:Int):List Hold:=((m.find? fun q=>decide (q.1=k)).map (·.2)).getD []
def ags (m:List (Int×List Hold)) (dl lo hi:Int) (own:Bool):List Int:=((b0p (m.map (·.1))).filter fun k=>!decide (k=dl)).filter fun k=>(hk m k).any fun r=>clash r lo hi own
def d7y (m:List (Int×List Hold)) (k:Int) (r:Hold):List (Int×List Hold):=if (m.any fun q=>decide (q.1=k))=true then m.map (fun q=>if q.1=k then (q.1,q.2++[r]) else q) else m++[(k,[r])]
structure Hs (K:PySem.W.Frag) (C:Addr) (H:Hp) (a dx d:Addr) (kvs:List (Key×V)) (m:List (Int×List Hold)):Prop where
 obj:H a=some (.ins C dx [("taken",.ref d)])
 dict:H d=some (.dK kvs)
 ent:Ent H kvs m
 few:m.length < 64
 short:∀ q∈m,q.2.length < 1000
 keys:(m.map (·.1)).Nodup
 vals:(kvs.map (·.2)).Nodup
theorem Rws.same {H H':Hp} {vs:List V} {rs:List Hold} (s:∀ t xs,H t=some (.tup xs)→H' t=some (.tup xs)) (r:Rws H vs rs):Rws H' vs rs:=by
 induction r with
 | nil=>exact .nil
 | cons h _ ih=>exact .cons (s _ _ h) ih
theorem Ent.same {H H':Hp} {kvs:List (Key×V)} {m:List (Int×List Hold)} (s:Same H H') (r:Ent H kvs m):Ent H' kvs m:=by
 induction r with
 | nil=>exact .nil
 | cons h q _ ih=>exact .cons (s _ _ h) (q.same fun _ _ e=>s _ _ e) ih
theorem Hs.same {K:PySem.W.Frag} {C:Addr} {H H':Hp} {a dx d:Addr} {kvs:List (Key×V)} {m:List (Int×List Hold)} (h:Hs K C H a dx d kvs m) (s:Same H H'):Hs K C H' a dx d kvs m :=
 ⟨s _ _ h.obj,s _ _ h.dict,h.ent.same s,h.few,h.short,h.keys,h.vals⟩
theorem Ent.keys {H:Hp} {kvs:List (Key×V)} {m:List (Int×List Hold)} (r:Ent H kvs m):kvs.map (·.1)=(m.map (·.1)).map Sum.inl:=by
 induction r with
 | nil=>rfl
 | cons _ _ _ ih=>simp only [List.map_cons,ih]
theorem Ent.len {H:Hp} {kvs:List (Key×V)} {m:List (Int×List Hold)} (r:Ent H kvs m):kvs.length=m.length:=by
 induction r with
 | nil=>rfl
 | cons _ _ _ ih=>simp only [List.length_cons,ih]
theorem Rws.len {H:Hp} {vs:List V} {rs:List Hold} (r:Rws H vs rs):vs.length=rs.length:=by
 induction r with
 | nil=>rfl
 | cons _ _ ih=>simp only [List.length_cons,ih]
theorem Rws.get {H:Hp} {vs:List V} {rs:List Hold} (r:Rws H vs rs) {i:Nat} (hi:i < rs.length):∃ t a b o,vs[i]?=some (.ref t)∧rs[i]?=some (a,b,o)∧H t=some (.tup [.int a,.int b,.bl o]):=by
 induction r generalizing i with
 | nil=>simp at hi
 | @cons t a b o vs rs h _ ih =>
  cases i with
  | zero=>exact⟨t,a,b,o,rfl,rfl,h⟩
  | succ i =>
   obtain⟨t',a',b',o',h1,h2,h3⟩:=ih (i:=i) (by simpa using hi)
   exact⟨t',a',b',o',by simpa using h1,by simpa using h2,h3⟩
theorem Ent.at_ {H:Hp} {kvs:List (Key×V)} {m:List (Int×List Hold)} (r:Ent H kvs m) {k:Int} (hk':k∈m.map (·.1)):∃ l vs,b7j kvs (Sum.inl k:Key)=some (.ref l)∧H l=some (.lst vs)∧Rws H vs (hk m k):=by
 induction r with
 | nil=>simp at hk'
 | @cons l k' vs rs kvs m h q _ ih =>
  by_cases e:k'=k
  ·subst e
   exact⟨l,vs,c0x rfl,h,by simpa [hk,List.find?_cons] using q⟩
  ·have hm:k∈m.map (·.1):=by
    rcases List.mem_cons.mp hk' with z | z
    ·exact absurd z.symm e
    ·exact z
   obtain⟨l2,vs2,h1,h2,h3⟩:=ih hm
   refine⟨l2,vs2,?_,h2,?_⟩
   ·rw[b6k (fun z=>e (Sum.inl.inj z))];exact h1
   ·simpa [hk,List.find?_cons,e] using h3
theorem Ent.none_at {H:Hp} {kvs:List (Key×V)} {m:List (Int×List Hold)} (r:Ent H kvs m) {k:Int} (hk':k ∉ m.map (·.1)):b7j kvs (Sum.inl k:Key)=none:=by
 induction r with
 | nil=>rfl
 | @cons l k' vs rs kvs m h q _ ih =>
  simp only [List.map_cons,List.mem_cons,not_or] at hk'
  rw[b6k (fun z=>hk'.1 (Sum.inl.inj z).symm)]
  exact ih hk'.2
theorem Ent.val_mem {H:Hp} {kvs:List (Key×V)} {m:List (Int×List Hold)} (r:Ent H kvs m) {k:Key} {v:V} (h:b7j kvs k=some v):v∈kvs.map (·.2):=by
 obtain⟨kv,hm,hv⟩:=e0v h
 exact hv ▸ List.mem_map_of_mem hm
theorem Ent.push {H H':Hp} {kvs:List (Key×V)} {m:List (Int×List Hold)} {k a b:Int} {o:Bool} {l t:Addr} {vs:List V} (r:Ent H kvs m) (nd:(kvs.map (·.2)).Nodup) (nk:(m.map (·.1)).Nodup) (hv:b7j kvs (Sum.inl k:Key)=some (.ref l)) (hl:H l=some (.lst vs))
  (hl':H' l=some (.lst (vs++[.ref t]))) (ht:H' t=some (.tup [.int a,.int b,.bl o])) (keep:∀ c u,c≠l→H c=some u→H' c=some u):Ent H' kvs (m.map fun q=>if q.1=k then (q.1,q.2++[(a,b,o)]) else q):=by
 have tups:∀ t xs,H t=some (.tup xs)→H' t=some (.tup xs):=fun t xs e=>keep t _ (fun z=>by rw[z,hl] at e;cases e) e
 induction r with
 | nil=>cases hv
 | @cons l0 k0 vs0 rs0 kvs0 m0 h q r0 ih =>
  simp only [List.map_cons,List.nodup_cons] at nd nk
  by_cases e:k0=k
  ·subst e
   rw[c0x rfl] at hv
   cases hv
   rw[hl] at h
   cases h
   have hm:m0.map (fun q=>if q.1=k0 then (q.1,q.2++[(a,b,o)]) else q)=m0:=by
    refine(List.map_congr_left fun q hq=>?_).trans (List.map_id _)
    rw[if_neg (fun (z:q.1=k0)=>nk.1 (z ▸ List.mem_map_of_mem hq))]
    rfl
   rw[List.map_cons,if_pos rfl,hm]
   refine .cons hl' ?_ ?_
   ·have go:∀ {us:List V} {ss:List Hold},Rws H us ss→Rws H' (us++[.ref t]) (ss++[(a,b,o)]):=fun x=>by
     induction x with
     | nil=>exact .cons ht .nil
     | cons h1 _ ih1=>exact .cons (tups _ _ h1) ih1
    exact go q
   ·have go:∀ {kk:List (Key×V)} {mm:List (Int×List Hold)},Ent H kk mm→V.ref l ∉ kk.map (·.2)→Ent H' kk mm:=fun x=>by
     induction x with
     | nil=>intro _;exact .nil
     | cons h1 q1 _ ih1 =>
      intro nm
      simp only [List.map_cons,List.mem_cons,not_or] at nm
      exact .cons (keep _ _ (fun z=>nm.1 (z ▸ rfl)) h1) (q1.same tups) (ih1 nm.2)
    exact go r0 nd.1
  ·rw[b6k (fun z=>e (Sum.inl.inj z))] at hv
   have hmem:V.ref l∈kvs0.map (·.2):=r0.val_mem hv
   have ne:l0≠l:=fun z=>nd.1 (z ▸ hmem)
   rw[List.map_cons,if_neg e]
   exact .cons (keep _ _ ne h) (q.same tups) (ih nd.2 nk.2 hv)
theorem Ent.snoc {H:Hp} {kvs:List (Key×V)} {m:List (Int×List Hold)} {k:Int} {l:Addr} {vs:List V} {rs:List Hold} (r:Ent H kvs m) (hl:H l=some (.lst vs)) (q:Rws H vs rs):Ent H (kvs++[(Sum.inl k,.ref l)]) (m++[(k,rs)]):=by
 induction r with
 | nil=>exact .cons hl q .nil
 | cons h1 q1 _ ih=>exact .cons h1 q1 ih
theorem Ent.tracked {H:Hp} {kvs:List (Key×V)} {m:List (Int×List Hold)} (r:Ent H kvs m) {l:Addr} (h:V.ref l∈kvs.map (·.2)):∃ vs,H l=some (.lst vs):=by
 induction r with
 | nil=>simp at h
 | cons h1 _ _ ih =>
  simp only [List.map_cons,List.mem_cons] at h
  rcases h with z | z
  ·cases z;exact⟨_,h1⟩
  ·exact ih z
theorem e1s {m:List (Int×List Hold)} (h:∀ q∈m,q.2.length < 1000) (k:Int):(hk m k).length < 1000:=by
 unfold hk
 cases e:m.find? fun q=>decide (q.1=k) with
 | none=>exact Nat.zero_lt_succ _
 | some q=>exact h q (List.mem_of_find?_eq_some e)
theorem c4y {m:List (Int×List Hold)} {k:Int} {r:Hold} (h:k∈m.map (·.1)):d7y m k r=m.map fun q=>if q.1=k then (q.1,q.2++[r]) else q:=by
 unfold d7y
 rw[if_pos]
 obtain⟨q,hq,rfl⟩:=List.mem_map.mp h
 exact List.any_eq_true.mpr ⟨q,hq,decide_eq_true rfl⟩
theorem c5a {m:List (Int×List Hold)} {k:Int} {r:Hold} (h:k ∉ m.map (·.1)):d7y m k r=m++[(k,[r])]:=by
 unfold d7y
 rw[if_neg]
 intro z
 obtain⟨q,hq,e⟩:=List.any_eq_true.mp z
 exact h (of_decide_eq_true e ▸ List.mem_map_of_mem hq)
theorem e9b {m:List (Int×List Hold)} {k:Int} {r:Hold}:(m.map fun q=>if q.1=k then (q.1,q.2++[r]) else q).map (·.1)=m.map (·.1):=by
 rw[List.map_map]
 refine List.map_congr_left fun q _=>?_
 show (if q.1=k then (q.1,q.2++[r]) else q).1=q.1
 split<;>rfl
theorem a9u {α β:Type} (l:List α) (d:α) (g:α→Option β):(List.range l.length).filterMap (fun i=>g (l.getD i d))=l.filterMap g:=by
 have e:(List.range l.length).map (fun i=>l.getD i d)=l:=by
  refine List.ext_getElem (by simp) fun i h1 h2=>?_
  simp only [List.getElem_map,List.getElem_range]
  rw[List.getD_eq_getElem?_getD,List.getElem?_eq_getElem h2]
  rfl
 conv=>rhs;rw[←e]
 rw[List.filterMap_map]
 rfl
theorem b1z {α:Type} (l:List α) (p:α→Bool) (f:α→V):l.filterMap (fun x=>if p x=true then some (f x) else none)=(l.filter p).map f:=by
 induction l with
 | nil=>rfl
 | cons x r ih =>
  rw[List.filterMap_cons,List.filter_cons]
  by_cases h:p x=true
  ·simp only [h,if_true,List.map_cons,ih]
  ·simp only [h,if_false,ih,Bool.false_eq_true]
theorem e1w {α β:Type} (l:List α) (f:α→β):l.filterMap (fun x=>some (f x))=l.map f:=by
 induction l with
 | nil=>rfl
 | cons x r ih=>simp only [List.filterMap_cons,List.map_cons,ih]
def f6s:Sp:=fun vs H Q _=>∃ a b c d:Int,vs=[.int a,.int b,.int c,.int d]∧Q (.bl (decide ((if c > a then c else a)≤(if d < b then d else b)))) H
def e7s:Sp:=fun vs H Q _=>∃ (t:Addr) (a b:Int) (o:Bool) (lo hi:Int) (own:Bool),vs=[.ref t,.int lo,.int hi,.bl own]∧H t=some (.tup [.int a,.int b,.bl o])∧Q (.bl (clash (a,b,o) lo hi own)) H
def f4u (C:Addr):Sp:=fun vs H Q _=>∃ a dx,vs=[.ref a]∧H a=some (.ins C dx [])∧∀ d,H d=none→d≠a→Q .non (upd (upd H d (.dK [])) a (.ins C dx [("taken",.ref d)]))
def e4h (K:PySem.W.Frag) (C:Addr):Sp:=fun vs H Q _=>∃ (a dx d:Addr) (kvs:List (Key×V)) (m:List (Int×List Hold)) (dl lo hi:Int) (own:Bool),vs=[.ref a,.int dl,.int lo,.int hi,.bl own]∧Hs K C H a dx d kvs m ∧
 ∀ p H',H p=none→Same H H'→H' p=some (.lst ((ags m dl lo hi own).map V.int))→Q (.ref p) H'
def f9p (H H':Hp) (d:Addr) (kvs:List (Key×V)):Prop:=∀ b o,H b=some o→b≠d→V.ref b ∉ kvs.map (·.2)→H' b=some o
def g1d (H:Hp) (kvs kvs':List (Key×V)):Prop:=∀ l,V.ref l∈kvs'.map (·.2)→V.ref l∈kvs.map (·.2)∨H l=none
def f4e (K:PySem.W.Frag) (C:Addr):Sp:=fun vs H Q _=>∃ (a dx d:Addr) (kvs:List (Key×V)) (m:List (Int×List Hold)) (dl lo hi:Int) (own:Bool),vs=[.ref a,.int dl,.int lo,.int hi,.bl own]∧Hs K C H a dx d kvs m∧m.length < 63∧(∀ q∈m,q.2.length < 999) ∧
 ags m dl lo hi own=[]∧∀ H' kvs',Hs K C H' a dx d kvs' (d7y m dl (lo,hi,own))→f9p H H' d kvs→g1d H kvs kvs'→(∀ x,H' x=none→H x=none)→Q .non H'
theorem a1i {H:Hp} {a x:Addr} {o:HO} (h:upd H a o x=none):H x=none:=by
 by_cases z:x=a
 ·rw[z,a0b] at h;cases h
 ·rw[a0d z] at h;exact h
theorem f4l (T:Tx K mg):a2j P w K mg base CX0 1 T.e0j T.e1u ["low","high","other_low","other_high"] f6s:=by
 refine T.e7x.ok f3w (fun vs H Q E h=>?_) (fun cdv A outer s H vs Q E hr h=>?_)
 ·obtain⟨a,b,c,d,rfl,_⟩:=h
  rfl
 ·obtain⟨a,b,c,d,rfl,q⟩:=h
  refine⟨_,(a0g (a0s (a8z f4x (a0t (e4t rfl) (by rfl) T.e9w boot_max (a0a (pv 0) (a0a (pv 2) a0f))) (a0t (d4v rfl) (by rfl) T.e5l boot_min (a0a (pv 1) (a0a (pv 3) a0f))) (a1f _)))),?_⟩
  exact⟨_,rfl,_,rfl,_,_,rfl,_,rfl,_,rfl,_,_,rfl,_,_,rfl,rfl,q⟩
theorem e2b (T:Tx K mg):a2j P w K mg base CX0 2 T.c1l T.c1g ["hold","low","high","own"] e7s:=by
 refine T.c5h.ok e3d (fun vs H Q E h=>?_) (fun cdv A outer s H vs Q E hr h=>?_)
 ·obtain⟨t,a,b,o,lo,hi,own,rfl,_⟩:=h
  rfl
 ·obtain⟨t,a,b,o,lo,hi,own,rfl,ht,q⟩:=h
  refine⟨_,(a0g (a0s (b1g (f8o (a2z a3j (pv 0) a0n (fun _ _=>rfl)) (b8p (pv 3))) (b8p (a1b ((f4l T).mono (by decide)) hr rfl T.f2f T.e7x.kp T.f1u .nil a1j (a0a (a2z a3j (pv 0) a0n (fun _ _=>rfl)) (a0a (a2z a3j (pv 0) a0n (fun _ _=>rfl)) (a0a (pv 1) (a0a (pv 2) a0f))))))))),?_⟩
  refine⟨_,rfl,t,_,_,_,rfl,rfl,SqT.of ht,a0z (j:=2) rfl,o,rfl,a5n (fun e=>⟨true,rfl,d4t ?_⟩) (fun e=>⟨_,rfl,own,rfl,a5n (fun e2=>?_) (fun e2=>?_)⟩)⟩
  ·have hc:clash (a,b,o) lo hi own=decide ((if lo > a then lo else a)≤(if hi < b then hi else b)):=by
    show ((o || own) && _)=_
    rw[e]
    rfl
   rw[hc] at q
   exact⟨_,rfl,t,_,_,_,rfl,rfl,SqT.of ht,a0z (j:=0) rfl,_,rfl,t,_,_,_,rfl,rfl,SqT.of ht,a0z (j:=1) rfl,_,rfl,_,rfl,a,b,lo,hi,rfl,q⟩
  ·have hc:clash (a,b,o) lo hi own=decide ((if lo > a then lo else a)≤(if hi < b then hi else b)):=by
    show ((o || own) && _)=_
    rw[e2,Bool.or_true]
    rfl
   rw[hc] at q
   exact⟨_,rfl,t,_,_,_,rfl,rfl,SqT.of ht,a0z (j:=0) rfl,_,rfl,t,_,_,_,rfl,rfl,SqT.of ht,a0z (j:=1) rfl,_,rfl,_,rfl,a,b,lo,hi,rfl,q⟩
  ·have hc:clash (a,b,o) lo hi own=false:=by
    show ((o || own) && _)=_
    rw[(Bool.not_eq_true o).mp e,(Bool.not_eq_true own).mp e2]
    rfl
   rw[hc] at q
   exact q
theorem d5y (T:Tx K mg):a2j P w K mg base CX0 1 T.b2p T.b3s ["self"] (f4u T.a1d):=by
 refine T.c8b.ok d6v (fun vs H Q E h=>?_) (fun cdv A outer s H vs Q E hr h=>?_)
 ·obtain⟨a,dx,rfl,_⟩:=h
  rfl
 ·obtain⟨a,dx,rfl,ha,q⟩:=h
  refine⟨_,(a0g (a2a (pv 0) b1s rfl)),?_⟩
  intro d hd
  have ne:a≠d:=fun z=>by rw[z,hd] at ha;cases ha
  exact⟨_,rfl,a,_,dx,[],rfl,(by rw[a0d ne];exact ha),T.a8m,T.a3m,(by show 0 < 1000;decide),q d hd (Ne.symm ne)⟩
theorem c7n (T:Tx K mg):a2j P w K mg base CX0 3 T.a7c T.a7j ["self","dealing","low","high","own"] (e4h K T.a1d):=by
 refine T.b8m.ok b5k (fun vs H Q E h=>?_) (fun cdv A outer s H vs Q E hr h=>?_)
 ·obtain⟨a,dx,d,kvs,m,dl,lo,hi,own,rfl,_⟩:=h
  rfl
 ·obtain⟨a,dx,d,kvs,m,dl,lo,hi,own,rfl,hs,q⟩:=h
  have hu:=c3h hr
  refine⟨_,(a0e (e0w (i:=5) ["other"] rfl b5k.nd rfl rfl (a4o.mk (fv:=["dealing"]) (js:=[1]) rfl (by decide +kernel) (by decide +kernel) (by decide +kernel) (a3s (Or.inl rfl) a7a) rfl (by decide +kernel)) (a3a (a0t (c3m rfl) (by rfl) T.a9o boot_sorted (a0a (a0i (K:=K) rfl (pv 0) rfl) a0f))) rfl (fun _ _ _ _ _=>(a1m (i:=0) (show (["other","dealing"]:List Str).Nodup by decide +kernel) rfl (Or.inl rfl))) (fun _ _ _ _ _=>(e0k (a0y d6y (pv 0) (pv 1) (a1f _)))) (fun _ _ _ _ _=>(pv 0)))
   (a0g (a0s (b1l ["other"] rfl (a4o.mk (fv:=["self","low","high","own"]) (js:=[0,2,3,4]) rfl (by decide +kernel) (by decide +kernel) (by decide +kernel) (a3s (Or.inl rfl) (a3s (Or.inl rfl) (a3s (Or.inl rfl) (a3s (Or.inl rfl) a7a)))) rfl (by decide +kernel)) (a3a (pv 5)) (fun _ _ _ _ _=>(a1m (i:=0) (show (["other","self","low","high","own"]:List Str).Nodup by decide +kernel) rfl (Or.inl rfl))) (fun _ _ _ _ _=>(e0k (a3t (a0t (e4z (K:=K) rfl rfl) (by rfl) T.e9z boot_any (a0a (b1l ["hold"] rfl (a4o.mk (fv:=["low","high","own"]) (js:=[2,3,4]) rfl (by decide +kernel) (by decide +kernel) (by decide +kernel) (a3s (Or.inl rfl) (a3s (Or.inl rfl) (a3s (Or.inl rfl) a7a))) rfl (by decide +kernel)) (f0p (K:=K) rfl (e4n hu (a0i (K:=K) rfl (pv 1) rfl) (pv 0) (fun _ _=>rfl))) (fun _ _ _ _ _=>(a1m (i:=0) (show (["hold","low","high","own"]:List Str).Nodup by decide +kernel) rfl (Or.inl rfl))) (fun _ _ _ _ _=>d1u) (fun _ _ _ _ _=>(a1b ((e2b T).mono (by decide)) hr rfl T.d6w T.c5h.kp T.d4z .nil a1j (a0a (pv 0) (a0a (pv 1) (a0a (pv 2) (a0a (pv 3) a0f))))))) a0f))))) (fun _ _ _ _ _=>(pv 0)))))),?_⟩
  have fsz:m.length≤sizeLine:=Nat.le_trans (Nat.le_of_lt hs.few) (by decide)
  generalize hL1:b0p (m.map (·.1))=L1
  have l1:L1.length≤sizeLine:=by rw[←hL1,(a5m _).length_eq,List.length_map];exact fsz
  refine⟨_,rfl,a,_,dx,_,_,rfl,hs.obj,T.a8m,T.a3m,rfl,d,kvs,m.map (·.1),rfl,hs.dict,hs.ent.keys,(by rw[List.length_map];exact hs.few),fun p hp=>⟨p,rfl,⟨_,SqL.of a0b⟩,?_⟩⟩
  rw[hL1]
  have s1:Same H (upd H p (.lst (L1.map V.int))):=Same.upd hp
  refine b1h (k:=1) (fs:=[some (.int dl)]) L1.length (fun i=>if (!decide (L1.getD i 0=dl))=true then some (.int (L1.getD i 0)) else none) rfl l1 (fun i H2 ss hi=>(a1g (SqL.of (ss _ _ a0b))).go i (by simpa using hi)) (fun H2 ss=>(a1g (SqL.of (ss _ _ a0b))).stop _ (by simp)) ?_ ?_
  ·rintro i H2 ts v H3 R ss hi' hts ⟨rfl,hy⟩ cb
   obtain⟨t,rfl⟩:=List.length_eq_one_iff.mp hts
   have ev:=hy _ (SqL.of (ss _ _ a0b))
   rw[List.getElem?_map,List.getElem?_eq_getElem hi'] at ev
   have e0:L1.getD i 0=L1[i]:=by rw[List.getD_eq_getElem?_getD,List.getElem?_eq_getElem hi'];rfl
   cases ev
   have hcb:=cb [some (.int L1[i])] H3 rfl (Same.refl _)
   simp only [e0] at hcb
   refine⟨_,rfl,_,rfl,rfl,_,rfl,a5n (fun e=>⟨_,rfl,?_⟩) (fun e=>?_)⟩
   ·rw[if_pos (by simpa using e)] at hcb
    exact hcb
   ·rw[if_neg (by simpa using e)] at hcb
    exact hcb
  ·intro D1 H2 hD1 ss hl
   rw[a9u L1 0 (fun k=>if (!decide (k=dl))=true then some (V.int k) else none),b1z L1 (fun k=>!decide (k=dl)) V.int] at hl
   generalize hL2:(L1.filter fun k=>!decide (k=dl))=L2 at hl
   have mem2:∀ k∈L2,k∈m.map (·.1):=fun k hk=>by
    rw[←hL2] at hk
    have:=(List.mem_filter.mp hk).1
    rw[←hL1] at this
    exact(a5m _).subset this
   have l2:L2.length≤sizeLine:=by rw[←hL2];exact Nat.le_trans (List.length_filter_le _ _) l1
   have sA:Same H H2:=s1.trans ss
   refine⟨_,rfl,D1,rfl,⟨_,SqL.of hl⟩,?_⟩
   refine b1h (k:=1) (fs:=[some (.ref a),some (.int lo),some (.int hi),some (.bl own)]) L2.length (fun i=>if ((hk m (L2.getD i 0)).any fun r=>clash r lo hi own)=true then some (.int (L2.getD i 0)) else none) rfl l2 (fun i H2 ss hi=>(a1g (SqL.of (ss _ _ hl))).go i (by simpa using hi)) (fun H2 ss=>(a1g (SqL.of (ss _ _ hl))).stop _ (by simp)) ?_ ?_
   ·rintro i H3 ts v H4 R ss3 hi' hts ⟨rfl,hy⟩ cb
    obtain⟨t,rfl⟩:=List.length_eq_one_iff.mp hts
    have ev:=hy _ (SqL.of (ss3 _ _ hl))
    rw[List.getElem?_map,List.getElem?_eq_getElem hi'] at ev
    have e0:L2.getD i 0=L2[i]:=by rw[List.getD_eq_getElem?_getD,List.getElem?_eq_getElem hi'];rfl
    cases ev
    generalize hk0:L2[i]=k0 at *
    have hmem:k0∈m.map (·.1):=mem2 k0 (hk0 ▸ List.getElem_mem hi')
    have hs4:=hs.same (sA.trans ss3)
    obtain⟨l,us,v1,v2,v3⟩:=hs4.ent.at_ hmem
    have hul:us.length≤sizeLine:=by
     rw[v3.len]
     exact Nat.le_trans (Nat.le_of_lt (e1s hs.short k0)) (by decide)
    refine⟨_,rfl,a,_,dx,_,_,rfl,hs4.obj,T.a8m,T.a3m,rfl,_,rfl,d,_,rfl,v1 ▸ e8q.k (k:=Sum.inl k0) hs4.dict,l,rfl,⟨_,SqL.of v2⟩,?_⟩
    refine b1h (k:=1) (fs:=[some (.int lo),some (.int hi),some (.bl own)]) us.length (fun j=>some (.bl (clash ((hk m k0).getD j (0,0,false)) lo hi own))) rfl hul (fun i H2 ss hi=>(a1g (SqL.of (ss _ _ v2))).go i hi) (fun H2 ss=>(a1g (SqL.of (ss _ _ v2))).stop _ (Nat.le_refl _)) ?_ ?_
    ·rintro j H5 ts2 v5 H6 R2 ss5 hj hts2 ⟨rfl,hy5⟩ cb2
     obtain⟨t2,rfl⟩:=List.length_eq_one_iff.mp hts2
     rw[v3.len] at hj
     obtain⟨t,x,y,o,g1,g2,g3⟩:=v3.get hj
     have ev5:=hy5 _ (SqL.of (ss5 _ _ v2))
     rw[g1] at ev5
     cases ev5
     have e5:(hk m k0).getD j (0,0,false)=(x,y,o):=by rw[List.getD_eq_getElem?_getD,g2];rfl
     have hcb2:=cb2 [some (.ref t)] H6 rfl (Same.refl _)
     simp only [e5] at hcb2
     exact⟨_,rfl,_,rfl,_,rfl,_,rfl,t,x,y,o,lo,hi,own,rfl,ss5 _ _ g3,hcb2⟩
    ·intro D2 H5 hD2 ss5 hl5
     rw[v3.len,a9u (hk m k0) (0,0,false) (fun r=>some (V.bl (clash r lo hi own))),e1w] at hl5
     rw[show (hk m k0).map (fun r=>V.bl (clash r lo hi own))=((hk m k0).map fun r=>clash r lo hi own).map V.bl from by rw[List.map_map];rfl] at hl5
     have hcb:=cb [some (.int k0)] H5 rfl ss5
     simp only [e0] at hcb
     refine⟨D2,_,rfl,SqL.of hl5,_,rfl,?_⟩
     have ea:((hk m k0).map fun r=>clash r lo hi own).any id=(hk m k0).any fun r=>clash r lo hi own:=by rw[List.any_map];rfl
     rw[ea]
     refine a5n (fun e=>⟨_,rfl,?_⟩) (fun e=>?_)
     ·rw[if_pos e] at hcb
      exact hcb
     ·rw[if_neg e] at hcb
      exact hcb
   ·intro D2 H3 hD2 ss3 hl3
    rw[a9u L2 0 (fun k=>if ((hk m k).any fun r=>clash r lo hi own)=true then some (V.int k) else none),b1z L2 (fun k=>(hk m k).any fun r=>clash r lo hi own) V.int,←hL2,←hL1] at hl3
    exact q D2 H3 (sA.free hD2) (sA.trans ss3) hl3
theorem d6o (T:Tx K mg):a2j P w K mg base CX0 4 T.b1n T.b2a ["self","dealing","low","high","own"] (f4e K T.a1d):=by
 refine T.c9c.ok c4n (fun vs H Q E h=>?_) (fun cdv A outer s H vs Q E hr h=>?_)
 ·obtain⟨a,dx,d,kvs,m,dl,lo,hi,own,rfl,_⟩:=h
  rfl
 ·obtain⟨a,dx,d,kvs,m,dl,lo,hi,own,rfl,hs,h63,h999,hem,q1⟩:=h
  refine⟨_,(a0e (a1s (i:=5) c4n.nd rfl (Or.inl rfl) (a1q (pv 0) T.a8m T.b6d ((c7n T).mono (by decide)) hr T.b8k .nil a1j (a0a (pv 1) (a0a (pv 2) (a0a (pv 3) (a0a (pv 4) a0f))))))
   (a0e (a2v (a0y d7x (a0t a2l (by rfl) T.b0z boot_len (a0a (pv 5) a0f)) a0n (a1f _))
   (a0g a4t)
   a1e)
   (a0g (a2t (e4g PySem.F.plainAttrs_list PySem.F.slot_list_append PySem.F.type_list_append b5q (e6c (a0i (K:=K) rfl (pv 0) rfl) (pv 1) (a3k a0f) ⟨rfl,rfl,rfl,rfl⟩) (a0a (a8b (a0a (pv 2) (a0a (pv 3) (a0a (pv 4) a0f)))) a0f)))))),?_⟩
  refine⟨_,rfl,a,dx,_,rfl,hs.obj,rfl,_,rfl,_,rfl,_,rfl,_,rfl,a,dx,d,kvs,m,dl,lo,hi,own,rfl,hs,fun p H1 hp s1 hl=>?_⟩
  refine⟨_,rfl,_,_,rfl,.inl ⟨_,SqL.of hl,rfl⟩,_,_,rfl,rfl,_,rfl,a5n (fun e=>?_) (fun e=>?_)⟩
  ·rw[hem] at e
   exact absurd (of_decide_eq_true e) (by decide)
  ·have hs1:=hs.same s1
   have kl:kvs.length < sizeLine:=by rw[hs.ent.len];exact Nat.lt_trans hs.few (by decide)
   refine⟨_,rfl,a,_,dx,_,_,rfl,hs1.obj,T.a8m,T.a3m,rfl,d,rfl,.inl ⟨kvs,.inl hs1.dict⟩,_,rfl,(by show 0≤sizeLine;decide),fun l0 hl0=>?_⟩
   have sl0:Same H1 (upd H1 l0 (.lst [])):=Same.upd hl0
   have hs2:=hs1.same sl0
   refine⟨kvs,Sum.inl dl,hs2.dict,rfl,kl,fun v hv=>?_,fun hv=>?_⟩
   ·have hmem:dl∈m.map (·.1):=Classical.byContradiction fun z=>by rw[hs2.ent.none_at z] at hv;cases hv
    obtain⟨l,us,v1,v2,v3⟩:=hs2.ent.at_ hmem
    rw[hv] at v1
    cases v1
    refine⟨.inl ⟨rfl,_,SqL.of v2⟩,_,rfl,_,rfl,_,rfl,(by show 3≤sizeLine;decide),fun t ht=>?_⟩
    have st:Same (upd H1 l0 (.lst [])) (upd (upd H1 l0 (.lst [])) t (.tup [.int lo,.int hi,.bl own])):=Same.upd ht
    have hs3:=hs2.same st
    have ul:us.length < sizeLine:=by rw[v3.len];exact Nat.lt_trans (e1s hs.short dl) (by decide)
    refine⟨l,us,.ref t,rfl,rfl,st _ _ v2,ul,?_⟩
    have nlt:t≠l:=fun z=>by rw[z,v2] at ht;cases ht
    have keep:∀ c u,c≠l→upd (upd H1 l0 (.lst [])) t (.tup [.int lo,.int hi,.bl own]) c=some u→upd (upd (upd H1 l0 (.lst [])) t (.tup [.int lo,.int hi,.bl own])) l (.lst (us++[.ref t])) c=some u:=fun c u n eq=>by rw[a0d n];exact eq
    have ad:a≠l:=fun z=>by rw[←z,hs2.obj] at v2;cases v2
    have dd:d≠l:=fun z=>by rw[←z,hs2.dict] at v2;cases v2
    have memv:V.ref l∈kvs.map (·.2):=hs2.ent.val_mem hv
    refine q1 _ kvs ⟨keep _ _ ad hs3.obj,keep _ _ dd hs3.dict,?_,?_,?_,?_,hs.vals⟩ ?_ (fun _ z=>.inl z) (fun x z=>s1.free (a1i (a1i (a1i z))))
    ·rw[c4y hmem]
     exact hs3.ent.push hs.vals hs.keys hv (st _ _ v2) a0b (by rw[a0d nlt,a0b]) keep
    ·rw[c4y hmem,List.length_map];exact hs.few
    ·rw[c4y hmem]
     intro q hq
     obtain⟨q0,hq0,rfl⟩:=List.mem_map.mp hq
     have:=h999 q0 hq0
     split
     ·rw[List.length_append];simp;omega
     ·omega
    ·rw[c4y hmem,e9b];exact hs.keys
    ·intro b o eb b1 b2
     have bl:b≠l:=fun z=>b2 (z ▸ memv)
     exact keep _ _ bl (st _ _ (sl0 _ _ (s1 _ _ eb)))
   ·have hmem:dl ∉ m.map (·.1):=fun z=>by
     obtain⟨l,us,v1,_,_⟩:=hs2.ent.at_ z
     rw[v1] at hv
     cases hv
    have nd0:d≠l0:=fun z=>by rw[←z,hs1.dict] at hl0;cases hl0
    have hput:b1r kvs (Sum.inl dl:Key) (.ref l0)=kvs++[(Sum.inl dl,.ref l0)]:=by
     unfold b1r
     rw[if_neg]
     rw[d4r,hv]
     exact Bool.false_ne_true
    rw[hput]
    refine⟨.inl ⟨rfl,[],SqL.of (by rw[a0d nd0.symm,a0b])⟩,_,rfl,_,rfl,_,rfl,(by show 3≤sizeLine;decide),fun t ht=>?_⟩
    have tl:t≠l0:=fun z=>by rw[z,a0d nd0.symm,a0b] at ht;cases ht
    have td:t≠d:=fun z=>by rw[z,a0b] at ht;cases ht
    have t1:H1 t=none:=by rw[a0d td,a0d tl] at ht;exact ht
    refine⟨l0,[],.ref t,rfl,rfl,by rw[a0d tl.symm,a0d nd0.symm,a0b],(by decide),?_⟩
    have keep:∀ c u,c≠d→H1 c=some u→upd (upd (upd (upd H1 l0 (.lst [])) d (.dK (kvs++[(Sum.inl dl,.ref l0)]))) t (.tup [.int lo,.int hi,.bl own])) l0 (.lst ([]++[.ref t])) c=some u:=fun c u n eq=>by
     have c1:c≠l0:=fun z=>by rw[z,hl0] at eq;cases eq
     have c2:c≠t:=fun z=>by rw[z,t1] at eq;cases eq
     rw[a0d c1,a0d c2,a0d n,a0d c1]
     exact eq
    have ad:a≠d:=fun z=>by have:=hs1.obj;rw[z,hs1.dict] at this;cases this
    have lfresh:V.ref l0 ∉ kvs.map (·.2):=fun z=>by
     obtain⟨vs,e2⟩:=hs1.ent.tracked z
     rw[hl0] at e2
     cases e2
    have ent':Ent (upd (upd (upd (upd H1 l0 (.lst [])) d (.dK (kvs++[(Sum.inl dl,.ref l0)]))) t (.tup [.int lo,.int hi,.bl own])) l0 (.lst ([]++[.ref t]))) kvs m:=by
     have go:∀ {kk:List (Key×V)} {mm:List (Int×List Hold)},Ent H1 kk mm→Ent (upd (upd (upd (upd H1 l0 (.lst [])) d (.dK (kvs++[(Sum.inl dl,.ref l0)]))) t (.tup [.int lo,.int hi,.bl own])) l0 (.lst ([]++[.ref t]))) kk mm:=fun x=>by
      induction x with
      | nil=>exact .nil
      | cons h1 q1 _ ih1=>exact .cons (keep _ _ (fun z=>by rw[z,hs1.dict] at h1;cases h1) h1) (q1.same fun t xs e3=>keep _ _ (fun z=>by rw[z,hs1.dict] at e3;cases e3) e3) ih1
     exact go hs1.ent
    refine q1 _ (kvs++[(Sum.inl dl,.ref l0)]) ⟨keep _ _ ad hs1.obj,?_,?_,?_,?_,?_,?_⟩ ?_ (fun l z=>?_) (fun x z=>s1.free (a1i (a1i (a1i (a1i z)))))
    ·rw[a0d nd0,a0d td.symm,a0b]
    ·rw[c5a hmem]
     exact ent'.snoc a0b (.cons (by rw[a0d tl,a0b]) .nil)
    ·rw[c5a hmem,List.length_append];simp;omega
    ·rw[c5a hmem]
     intro q hq
     rcases List.mem_append.mp hq with z | z
     ·have:=h999 q z;omega
     ·have e3:q=(dl,[(lo,hi,own)]):=by simpa using z
      rw[e3];show 1 < 1000;omega
    ·rw[c5a hmem,List.map_append,List.nodup_append]
     refine⟨hs.keys,by simp,?_⟩
     intro x hx y hy
     have e3:y=dl:=by simpa using hy
     rw[e3]
     exact fun z=>hmem (z ▸ hx)
    ·rw[List.map_append,List.nodup_append]
     refine⟨hs.vals,by simp,?_⟩
     intro x hx y hy
     have e3:y=V.ref l0:=by simpa using hy
     rw[e3]
     exact fun z=>lfresh (z ▸ hx)
    ·intro b o eb b1 b2
     exact keep _ _ b1 (s1 _ _ eb)
    ·rw[List.map_append] at z
     rcases List.mem_append.mp z with y | y
     ·exact .inl y
     ·have e3:V.ref l=V.ref l0:=by simpa using y
      cases e3
      exact .inr (s1.free hl0)
def d3i (m:List (Int×List Hold)) (k:Int):List (Int×List Hold):=m.filter fun q=>!decide (q.1=k)
def f5i (K:PySem.W.Frag) (C:Addr):Sp:=fun vs H Q _=>∃ (a dx d:Addr) (kvs:List (Key×V)) (m:List (Int×List Hold)) (dl:Int),vs=[.ref a,.int dl]∧Hs K C H a dx d kvs m ∧
 ∀ H' kvs',Hs K C H' a dx d kvs' (d3i m dl)→f9p H H' d kvs→(∀ v,v∈kvs'.map (·.2)→v∈kvs.map (·.2))→Q .non H'
theorem Ent.drop {H:Hp} {kvs:List (Key×V)} {m:List (Int×List Hold)} {k:Int} (r:Ent H kvs m):Ent H (c0o kvs (Sum.inl k:Key)) (d3i m k):=by
 induction r with
 | nil=>exact .nil
 | @cons l k' vs rs kvs m h q _ ih =>
  by_cases e:k'=k
  ·have e1:c0o ((Sum.inl k',V.ref l)::kvs) (Sum.inl k:Key)=c0o kvs (Sum.inl k:Key):=by simp[c0o,e]
   have e2:d3i ((k',rs)::m) k=d3i m k:=by simp[d3i,e]
   rw[e1,e2]
   exact ih
  ·have e1:c0o ((Sum.inl k',V.ref l)::kvs) (Sum.inl k:Key)=(Sum.inl k',V.ref l)::c0o kvs (Sum.inl k:Key):=by simp[c0o,e]
   have e2:d3i ((k',rs)::m) k=(k',rs)::d3i m k:=by simp[d3i,e]
   rw[e1,e2]
   exact .cons h q ih
theorem d4w (T:Tx K mg):a2j P w K mg base CX0 1 T.b2i T.b3i ["self","dealing"] (f5i K T.a1d):=by
 refine T.c6t.ok d6b (fun vs H Q E h=>?_) (fun cdv A outer s H vs Q E hr h=>?_)
 ·obtain⟨a,dx,d,kvs,m,dl,rfl,_⟩:=h
  rfl
 ·obtain⟨a,dx,d,kvs,m,dl,rfl,hs,k⟩:=h
  refine⟨_,(a0g (a2t (f0f (a0i (K:=K) rfl (pv 0) rfl) (pv 1) a4q ⟨rfl,rfl,rfl,rfl⟩))),?_⟩
  refine⟨_,rfl,a,_,dx,_,_,rfl,hs.obj,T.a8m,T.a3m,rfl,d,rfl,.inl ⟨kvs,.inl hs.dict⟩,_,rfl,kvs,Sum.inl dl,hs.dict,rfl,fun v hv=>?_,fun hv=>?_⟩
  ·have keep:∀ b o,b≠d→H b=some o→upd H d (.dK (c0o kvs (Sum.inl dl))) b=some o:=fun b o n e=>by rw[a0d n];exact e
   have go:∀ {kk:List (Key×V)} {mm:List (Int×List Hold)},Ent H kk mm→Ent (upd H d (.dK (c0o kvs (Sum.inl dl)))) kk mm:=fun x=>by
    induction x with
    | nil=>exact .nil
    | cons h1 q1 _ ih1=>exact .cons (keep _ _ (fun z=>by rw[z,hs.dict] at h1;cases h1) h1) (q1.same fun t xs e3=>keep _ _ (fun z=>by rw[z,hs.dict] at e3;cases e3) e3) ih1
   have ad:a≠d:=fun z=>by have:=hs.obj;rw[z,hs.dict] at this;cases this
   refine k _ _ ⟨keep _ _ ad hs.obj,a0b,go hs.ent.drop,Nat.lt_of_le_of_lt (List.length_filter_le _ _) hs.few,fun q hq=>hs.short q (List.mem_filter.mp hq).1,?_,?_⟩ (fun b o e n _=>keep b o n e) fun v hv=>?_
   ·exact hs.keys.sublist (List.filter_sublist.map _)
   ·exact hs.vals.sublist (List.filter_sublist.map _)
   ·obtain⟨q,hq,rfl⟩:=List.mem_map.mp hv
    exact List.mem_map_of_mem (List.mem_filter.mp hq).1
  ·have hm:dl ∉ m.map (·.1):=fun z=>by
    obtain⟨l,us,v1,_,_⟩:=hs.ent.at_ z
    rw[v1] at hv
    cases hv
   have e:d3i m dl=m:=List.filter_eq_self.mpr fun q hq=>by
    rw[decide_eq_false (fun (z:q.1=dl)=>hm (z ▸ List.mem_map_of_mem hq))]
    rfl
   exact k H kvs (e.symm ▸ hs) (fun b o eb _ _=>eb) fun v hv=>hv
--@STAGE
namespace Spn
structure Look where
 st:Int
 lo:Int
 hi:Int
 own:List Int
structure Row where
 num:Int
 wat:Bool
 beg:Int
 fin:Int
 looks:List Look
 puts:List Int
def e3j (k e:Int) (l:Look):Bool:=decide (l.st < e) && (decide (l.lo≤k∧k≤l.hi) && !l.own.contains k)
def optV:Option Int→V
 | none=>.non
 | some k=>.int k
def a9i (r1 r2:Row):Option Int:=if r1.num=r2.num then none else r2.puts.find? fun k=>r1.looks.any (e3j k r2.fin)
def f8l (H:Hp) (v:V) (l:Look):Prop:=∃ t o,v=.ref t∧H t=some (.tup [.int l.st,.int l.lo,.int l.hi,.ref o])∧H o=some (.tup (l.own.map V.int))
def spF (r:Row) (la pa:Addr):List (Str×V):=[("number",.int r.num),("watched",.bl r.wat),("begin",.int r.beg),("end",.int r.fin),("looks",.ref la),("puts",.ref pa)]
def c9u (C:Addr) (H:Hp) (v:V) (r:Row) (la pa:Addr):Prop:=∃ t dx vs,v=.ref t∧H t=some (.ins C dx (spF r la pa))∧H la=some (.lst vs)∧Paired (f8l H) vs r.looks∧H pa=some (.lst (r.puts.map V.int))
section
variable {C D la pa:Addr} {H H':Hp} {v:V} {r:Row} {l:Look} {ys:List V}
theorem f8l.keep (h:f8l H v l) (s:∀ t xs,H t=some (.tup xs)→H' t=some (.tup xs)):f8l H' v l :=
 let ⟨t,o,e,a,b⟩:=h
 ⟨t,o,e,s _ _ a,s _ _ b⟩
theorem c9u.same (h:c9u C H v r la pa) (s:Same H H'):c9u C H' v r la pa :=
 let ⟨t,dx,vs,e,a,b,c,d⟩:=h
 ⟨t,dx,vs,e,s _ _ a,s _ _ b,b1v (fun _ _ x=>x.keep fun _ _ z=>s _ _ z) c,s _ _ d⟩
end
theorem e2h {r1 r2:Row} (e:r1.num=r2.num):a9i r1 r2=none:=if_pos e
theorem e9y {r1 r2:Row} {i:Nat} {k:Int} (e:r1.num≠r2.num) (hn:∀ j x,j < i→r2.puts[j]?=some x→r1.looks.any (e3j x r2.fin)=false) (h:r2.puts[i]?=some k) (hk:r1.looks.any (e3j k r2.fin)=true):a9i r1 r2=some k:=by
 unfold a9i
 rw[if_neg e]
 exact d2t hn h hk
theorem e2t {r1 r2:Row} (e:r1.num≠r2.num) (hn:∀ j x,j < r2.puts.length→r2.puts[j]?=some x→r1.looks.any (e3j x r2.fin)=false):a9i r1 r2=none:=by
 unfold a9i
 rw[if_neg e,List.find?_eq_none]
 intro x hx
 obtain⟨j,hj,e2⟩:=List.getElem_of_mem hx
 rw[hn j x hj (by rw[List.getElem?_eq_getElem hj,e2])]
 simp
def g1k:Sp:=fun vs H Q _=>∃ k l h:Int,vs=[.int k,.int l,.int h]∧Q (.bl (decide (l≤k∧k≤h))) H
def f7o (C:Addr):Sp:=fun vs H Q _=>∃ (a dx l0 p0:Addr) (r:Row) (xs us:List V),vs=[.ref a,.int r.num,.bl r.wat,.int r.beg,.int r.fin,.ref l0,.ref p0]∧H a=some (.ins C dx [])∧H l0=some (.lst xs)∧H p0=some (.lst us) ∧
 ∀ la pa H',H la=none→H pa=none→(∀ b o,b≠a→H b=some o→H' b=some o)→H' a=some (.ins C dx (spF r la pa))→H' la=some (.lst xs)→H' pa=some (.lst us)→Q .non H'
def f0y:Sp:=fun vs H Q _=>∃ (t o:Addr) (l:Look) (k e:Int),vs=[.ref t,.int k,.int e]∧H t=some (.tup [.int l.st,.int l.lo,.int l.hi,.ref o])∧H o=some (.tup (l.own.map V.int))∧Q (.bl (e3j k e l)) H
def f3i (C:Addr):Sp:=fun vs H Q _=>∃ (v1 v2:V) (r1 r2:Row) (la1 pa1 la2 pa2:Addr),vs=[v1,v2]∧c9u C H v1 r1 la1 pa1∧c9u C H v2 r2 la2 pa2∧Q (optV (a9i r1 r2)) H
def a3i (C:Addr) (H:Hp) (v:V) (r:Row):Prop:=∃ la pa,c9u C H v r la pa
theorem a3i.same {C:Addr} {H H':Hp} {v:V} {r:Row} (h:a3i C H v r) (s:Same H H'):a3i C H' v r:=let ⟨la,pa,x⟩:=h;⟨la,pa,x.same s⟩
def d5x (r q:Row):Bool:=decide (q.fin < r.fin) && (a9i r q).isSome
theorem f1r (o:Option Int):(!decide (optV o=V.non))=o.isSome:=by cases o<;>rfl
def spWhole:Sp:=fun vs H Q _=>∃ z:Int,vs=[.int z]∧Q (.bl true) H
def d7s:Pos:=⟨206,37,206,61⟩
def d7g:Str:=("closing":Str)++".<locals>."++"<lambda>"
abbrev f0s:=Row×Row×Row
def c0i (mid q:Row):Bool:=decide (mid.beg < q.fin) && (a9i q mid).isSome
def a9b (S:List Row) (new mid:Row):Option f0s:=((if mid.num=new.num then S else [new]).find? (c0i mid)).bind fun one=>(S.find? (d5x mid)).map fun other=>(one,mid,other)
def c8y (S:List Row) (new:Row):Option f0s:=(S.filter (·.wat)).findSome? (a9b S new)
theorem f8c {α β:Type} {f:α→Option β} {l:List α} {i:Nat} {x:α} {b:β} (hn:∀ j y,j < i→l[j]?=some y→f y=none) (h:l[i]?=some x) (hb:f x=some b):l.findSome? f=some b:=by
 induction l generalizing i with
 | nil=>simp at h
 | cons a l ih =>
  rw[List.findSome?_cons]
  cases i with
  | zero =>
   cases (show some a=some x from h)
   rw[hb]
  | succ i =>
   rw[hn 0 a (Nat.succ_pos _) rfl]
   exact ih (fun j y hj e=>hn (j+1) y (Nat.succ_lt_succ hj) (by simpa using e)) (by simpa using h)
theorem f5c {α β:Type} {f:α→Option β} {l:List α} (hn:∀ (j:Nat) y,j < l.length→l[j]?=some y→f y=none):l.findSome? f=none:=by
 rw[List.findSome?_eq_none_iff]
 intro x hx
 obtain⟨j,hj,e⟩:=List.getElem_of_mem hx
 exact hn j x hj (by rw[List.getElem?_eq_getElem hj,e])
def Up (l S:List Row):Prop:=S.Perm l∧S.Pairwise fun a b=>a.num≤b.num
structure Drawn (un sp of:Int) (rs:List Row):Prop where
 at_:∀ (i:Nat) r,rs[i]?=some r→r.num=1+((i:Int)*sp+of)%17∧r.fin=un*100*((i:Int)+1)∧∃ b,r.beg=un*b∧b%100≠0
theorem e8g {α:Type} {l:List α} {a:α} (h:a∈l):∃ i:Nat,l[i]?=some a:=by
 obtain⟨i,hi,e⟩:=List.getElem_of_mem h
 exact⟨i,List.getElem?_eq_some_iff.mpr ⟨hi,e⟩⟩
def Kp (H H':Hp):Prop:=∀ b o,(∀ ps,o≠HO.tbl ps)→H b=some o→H' b=some o
theorem Kp.of {H H':Hp} (s:Same H H'):Kp H H':=fun b o _ e=>s b o e
theorem Kp.trans {H H' H'':Hp} (a:Kp H H') (b:Kp H' H''):Kp H H'':=fun c o n e=>b c o n (a c o n e)
theorem Kp.tup {H H':Hp} (a:Kp H H') {t:Addr} {xs:List V} (e:H t=some (.tup xs)):H' t=some (.tup xs):=a _ _ (fun _ z=>by cases z) e
theorem Kp.lst {H H':Hp} (a:Kp H H') {t:Addr} {xs:List V} (e:H t=some (.lst xs)):H' t=some (.lst xs):=a _ _ (fun _ z=>by cases z) e
theorem a3i.kp {C:Addr} {H H':Hp} {v:V} {r:Row} (h:a3i C H v r) (k:Kp H H'):a3i C H' v r:=by
 obtain⟨la,pa,t,dx,vs,e,a,b,c,d⟩:=h
 exact⟨la,pa,t,dx,vs,e,k _ _ (fun _ z=>by cases z) a,k.lst b,b1v (fun _ _ x=>x.keep fun _ _ z=>k.tup z) c,k.lst d⟩
theorem c2h {P0:Addr} {lp:Pos} {ql:Str} {H H':Hp} (h:Tb P0 lp ql H) (s:Same H H'):Tb P0 lp ql H':=h.imp (s _ _) fun ⟨c,a,b⟩=>⟨c,s _ _ a,s _ _ b⟩
theorem f9l {P0:Addr} {lp:Pos} {ql:Str} {H H':Hp} (h:Tb P0 lp ql H) (k:∀ b o,b≠P0→H b=some o→H' b=some o):Kp H H':=fun b o n e=>k b o (fun z=>by
 rcases h with q | ⟨_,q,_⟩<;>(rw[z,q] at e;cases e;exact n _ rfl)) e
theorem f4w {α β γ:Type} {F:α→β→Prop} {G:α→γ→Prop} {f:β→γ} {xs:List α} {bs:List β} (p:Paired F xs bs) (h:∀ a b,F a b→G a (f b)):Paired G xs (bs.map f):=by
 induction p with
 | nil=>exact .nil
 | cons r _ ih=>exact .cons (h _ _ r) ih
theorem e3k {α β:Type} {F:α→β→Prop} (p:β→Bool) {xs:List α} {bs:List β} (h:Paired F xs bs):Paired F (((xs.zip bs).filter fun q=>p q.2).map Prod.fst) (bs.filter p):=by
 induction h with
 | nil=>exact .nil
 | cons r _ ih =>
  rename_i a b _ _ _
  rw[List.zip_cons_cons,List.filter_cons,List.filter_cons]
  by_cases e:p b=true
  ·rw[if_pos e,if_pos e]
   exact .cons r ih
  ·rw[if_neg e,if_neg e]
   exact ih
theorem f2x {F:V→Row→Prop} {xs ys:List V} {bs:List Row} (h:e3t (bs.map Row.num) xs ys) (p:Paired F xs bs):∃ S,Up bs S∧Paired F ys S:=by
 obtain⟨ps,pp,rfl,pw⟩:=h
 have z:Paired (fun (b:Row) (q:Int×V)=>q.1=b.num∧F q.2 b) bs ((bs.map Row.num).zip xs):=by
  clear pp pw
  induction p with
  | nil=>exact .nil
  | cons r _ ih=>exact .cons ⟨rfl,r⟩ ih
 obtain⟨S,sp,sr⟩:=d6c pp z
 refine⟨S,⟨sp,?_⟩,?_⟩
 ·clear sp pp z p
  induction sr with
  | nil=>exact .nil
  | cons r t ih =>
   obtain⟨h1,h2⟩:=List.pairwise_cons.mp pw
   refine List.pairwise_cons.mpr ⟨fun b hb=>?_,ih h2⟩
   obtain⟨j,hj⟩:=e8g hb
   obtain⟨y,ey,ry⟩:=a3n t hj
   have:=h1 y (List.mem_of_getElem? ey)
   rw[r.1,ry.1] at this
   exact this
 ·clear sp pp z p pw
  induction sr with
  | nil=>exact .nil
  | cons r _ ih=>exact .cons r.2 ih
def tri (x:f0s):List V:=[.int x.1.num,optV (a9i x.1 x.2.1),.int x.2.1.num,optV (a9i x.2.1 x.2.2),.int x.2.2.num]
def f8y (H:Hp) (v:V) (o:Option f0s):Prop:=(o=none∧v=.non)∨∃ x t,o=some x∧v=.ref t∧H t=some (.tup (tri x))
def e1q (p:Row→Row→Bool) (C:Addr):Sp:=fun vs H Q _=>∃ (l:Addr) (v:V) (us:List V) (rs:List Row) (r:Row),vs=[.ref l,v]∧H l=some (.lst us)∧Paired (a3i C H) us rs∧a3i C H v r∧(∀ u q,rs.find? (p r)=some q→a3i C H u q→Q u H)∧(rs.find? (p r)=none→Q .non H)
def e6e (C P0:Addr) (mg:Str→Option Value) (base:Heap):Sp:=fun vs H Q _=>∃ (l:Addr) (v:V) (us:List V) (rs:List Row) (r:Row),vs=[.ref l,v]∧base.BuiltinsAt mg P0∧H l=some (.lst us)∧Paired (a3i C H) us rs∧a3i C H v r∧rs.length < 63∧Tb P0 d7s d7g H ∧
 ∀ u H' S,Kp H H'→Tb P0 d7s d7g H'→Up (rs++[r]) S→f8y H' u (c8y S r)→Q u H'
def dfR:V×Row:=(.non,⟨0,false,0,0,[],[]⟩)
theorem e7u (T:Tx K mg):a2j P w K mg base CX0 1 T.c4z T.c4x ["key","low","high"] g1k:=by
 refine T.d3j.ok e6d (fun vs H Q E h=>?_) (fun cdv A outer s H vs Q E hr h=>?_)
 ·obtain⟨k,l,h,rfl,_⟩:=h
  rfl
 ·obtain⟨k,l,h,rfl,q⟩:=h
  refine⟨_,(a0g (a0s (e9x f4x f4x (pv 1) (pv 0) (pv 2)))),?_⟩
  refine⟨_,rfl,_,rfl,_,_,rfl,rfl,_,rfl,a5n (fun e=>⟨_,rfl,_,_,rfl,rfl,?_⟩) (fun e=>?_)⟩
  ·have e1:l≤k:=of_decide_eq_true e
   rw[show decide (l≤k∧k≤h)=decide (k≤h) from decide_eq_decide.mpr (by omega)] at q
   exact q
  ·have e1:¬ l≤k:=fun z=>e (decide_eq_true z)
   rw[show decide (l≤k∧k≤h)=false from decide_eq_false (by omega)] at q
   exact q
theorem d9o (T:Tx K mg):a2j P w K mg base CX0 1 T.b7r T.b7v ["self","number","watched","begin","end","looks","puts"] (f7o T.a1n):=by
 refine T.d1l.ok d8i (fun vs H Q E h=>?_) (fun cdv A outer s H vs Q E hr h=>?_)
 ·obtain⟨a,dx,l0,p0,r,xs,us,rfl,_⟩:=h
  rfl
 ·obtain⟨a,dx,l0,p0,r,xs,us,rfl,ha,hl,hp,k⟩:=h
  refine⟨_,(a0e (a2a (pv 0) (pv 1) rfl)
   (a0e (a2a (pv 0) (pv 2) rfl)
   (a0e (a2a (pv 0) (pv 3) rfl)
   (a0e (a2a (pv 0) (pv 4) rfl)
   (a0e (a2a (pv 0) (a7s a3z (by rfl) T.b1k boot_list (a0a (pv 5) a0f)) rfl)
   (a0g (a2a (pv 0) (a7s a3z (by rfl) T.b1k boot_list (a0a (pv 6) a0f)) rfl))))))),?_⟩
  have nl:l0≠a:=fun z=>by rw[z,ha] at hl;cases hl
  have np:p0≠a:=fun z=>by rw[z,ha] at hp;cases hp
  refine⟨_,rfl,_,rfl,a,_,dx,_,rfl,ha,T.a1u,T.a1c,(by show 0 < 1000;decide),?_⟩
  refine⟨_,rfl,_,rfl,a,_,dx,_,rfl,a0b,T.a1u,T.a8v,(by show 1 < 1000;decide),?_⟩
  refine⟨_,rfl,_,rfl,a,_,dx,_,rfl,a0b,T.a1u,T.b2k,(by show 2 < 1000;decide),?_⟩
  refine⟨_,rfl,_,rfl,a,_,dx,_,rfl,a0b,T.a1u,T.a6k,(by show 3 < 1000;decide),?_⟩
  have k4:∀ b o,b≠a→H b=some o→upd (upd (upd (upd H a (.ins T.a1n dx [("number",.int r.num)])) a (.ins T.a1n dx [("number",.int r.num),("watched",.bl r.wat)])) a (.ins T.a1n dx [("number",.int r.num),("watched",.bl r.wat),("begin",.int r.beg)])) a (.ins T.a1n dx [("number",.int r.num),("watched",.bl r.wat),("begin",.int r.beg),("end",.int r.fin)]) b=some o:=fun b o nb e=>by rw[a0d nb,a0d nb,a0d nb,a0d nb];exact e
  have a4:upd (upd (upd (upd H a (.ins T.a1n dx [("number",.int r.num)])) a (.ins T.a1n dx [("number",.int r.num),("watched",.bl r.wat)])) a (.ins T.a1n dx [("number",.int r.num),("watched",.bl r.wat),("begin",.int r.beg)])) a (.ins T.a1n dx [("number",.int r.num),("watched",.bl r.wat),("begin",.int r.beg),("end",.int r.fin)]) a=some (.ins T.a1n dx [("number",.int r.num),("watched",.bl r.wat),("begin",.int r.beg),("end",.int r.fin)]):=a0b
  refine⟨_,rfl,l0,xs,rfl,.inl (SqL.of (k4 _ _ nl hl)),fun la hla=>?_⟩
  have na:la≠a:=fun z=>by rw[z] at hla;exact absurd (hla.symm.trans a4) (by simp)
  have hla0:H la=none:=by rw[a0d na,a0d na,a0d na,a0d na] at hla;exact hla
  refine⟨_,rfl,a,_,dx,_,rfl,(by rw[a0d na.symm];exact a4),T.a1u,T.b2q,(by show 4 < 1000;decide),?_⟩
  have npl:p0≠la:=fun z=>by rw[z,hla0] at hp;cases hp
  refine⟨_,rfl,p0,us,rfl,.inl (SqL.of (by rw[a0d np,a0d npl];exact k4 _ _ np hp)),fun pa hpa=>?_⟩
  have pna:pa≠a:=fun z=>by rw[z,a0b] at hpa;cases hpa
  have pnl:pa≠la:=fun z=>by rw[z,a0d na,a0b] at hpa;cases hpa
  have hpa0:H pa=none:=by rw[a0d pna,a0d pnl,a0d pna,a0d pna,a0d pna,a0d pna] at hpa;exact hpa
  refine⟨_,rfl,a,_,dx,_,rfl,(by rw[a0d pna.symm];exact a0b),T.a1u,T.b4t,(by show 5 < 1000;decide),?_⟩
  refine k la pa _ hla0 hpa0 (fun b o nb e=>?_) a0b ?_ ?_
  ·have b1:b≠la:=fun z=>by rw[z,hla0] at e;cases e
   have b2:b≠pa:=fun z=>by rw[z,hpa0] at e;cases e
   rw[a0d nb,a0d b2,a0d nb,a0d b1]
   exact k4 _ _ nb e
  ·rw[a0d na,a0d pnl.symm,a0d na,a0b]
  ·rw[a0d pna,a0b]
theorem d9p (T:Tx K mg):a2j P w K mg base CX0 2 T.b6q T.b7k ["look","key","end"] f0y:=by
 refine T.c1t.ok d9s (fun vs H Q E h=>?_) (fun cdv A outer s H vs Q E hr h=>?_)
 ·obtain⟨t,o,l,k,e,rfl,_⟩:=h
  rfl
 ·obtain⟨t,o,l,k,e,rfl,ht,ho,q⟩:=h
  refine⟨_,(a0g (a0s (b1g (a8z d8s (a2z a3j (pv 0) a0n (fun _ _=>rfl)) (pv 2) (a1f _)) (b1g (a1b ((e7u T).mono (by decide)) hr rfl T.e1i T.d3j.kp T.e0f .nil a1j (a0a (pv 1) (a0a (a2z a3j (pv 0) a0n (fun _ _=>rfl)) (a0a (a2z a3j (pv 0) a0n (fun _ _=>rfl)) a0f)))) (b8p (a8z d5o (pv 1) (a2z a3j (pv 0) a0n (fun _ _=>rfl)) rfl)))))),?_⟩
  refine⟨_,rfl,t,_,_,_,rfl,rfl,SqT.of ht,a0z (j:=0) rfl,_,rfl,_,_,rfl,rfl,_,rfl,a5n (fun e1=>?_) (fun e1=>?_)⟩
  ·refine⟨_,rfl,_,rfl,t,_,_,_,rfl,rfl,SqT.of ht,a0z (j:=1) rfl,_,rfl,t,_,_,_,rfl,rfl,SqT.of ht,a0z (j:=2) rfl,k,l.lo,l.hi,rfl,_,rfl,a5n (fun e2=>?_) (fun e2=>?_)⟩
   ·refine⟨_,rfl,_,rfl,t,_,_,_,rfl,rfl,SqT.of ht,a0z (j:=3) rfl,o,_,rfl,.inr (SqT.of ho),rfl,e7i _,?_⟩
    have z:e3j k e l=!inV (.int k) (l.own.map V.int):=by
     unfold e3j
     rw[e1m,show decide (l.st < e)=true from e1,e2]
     rfl
    rw[z] at q
    exact q
   ·have z:e3j k e l=false:=by
     unfold e3j
     rw[(Bool.not_eq_true _).mp e2,Bool.false_and,Bool.and_false]
    rw[z] at q
    exact q
  ·have z:e3j k e l=false:=by
    unfold e3j
    rw[show decide (l.st < e)=false from (Bool.not_eq_true _).mp e1,Bool.false_and]
   rw[z] at q
   exact q
theorem c5c (T:Tx K mg):a2j P w K mg base CX0 3 T.d3g T.d2y ["one","other"] (f3i T.a1n):=by
 refine T.c2q.ok d2u (fun vs H Q E h=>?_) (fun cdv A outer s H vs Q E hr h=>?_)
 ·obtain⟨v1,v2,r1,r2,la1,pa1,la2,pa2,rfl,_⟩:=h
  rfl
 ·obtain⟨v1,v2,r1,r2,la1,pa1,la2,pa2,rfl,⟨a,dx,us,rfl,ha,hla,hlk,hpa⟩,⟨b,dx2,us2,rfl,hb,hlb,hlk2,hpb⟩,q⟩:=h
  refine⟨_,(a0e (a2v (a0y c1e (a0i (K:=K) rfl (pv 0) rfl) (a0i (K:=K) rfl (pv 1) rfl) (a1f _))
   (a0g (a0s a4q))
   a1e)
   (a0e (a8d PassesOwn.never rfl (a3a (a0i (K:=K) rfl (pv 1) rfl)) (a1m (i:=2) d2u.nd rfl (Or.inl rfl))
   (a0g (a8d PassesOwn.never rfl (a3a (a0i (K:=K) rfl (pv 0) rfl)) (a1m (i:=3) d2u.nd rfl (Or.inl rfl))
   (a0g (a2v (a3t (a1b ((d9p T).mono (by decide)) hr rfl T.d1f T.c1t.kp T.d1w .nil a1j (a0a (pv 3) (a0a (pv 2) (a0a (a0i (K:=K) rfl (pv 1) rfl) a0f)))))
   (a0g (a0s (pv 2)))
   a1e)))))
   (a0g (a0s a4q)))),?_⟩
  refine⟨_,rfl,a,_,dx,_,_,rfl,ha,T.a1u,T.a1c,rfl,_,rfl,b,_,dx2,_,_,rfl,hb,T.a1u,T.a1c,rfl,rfl,_,rfl,a5n (fun e=>?_) (fun e=>?_)⟩
  ·rw[e2h (V.int.inj (of_decide_eq_true e))] at q
   exact q
  ·have e0:r1.num≠r2.num:=fun z=>e (decide_eq_true (congrArg V.int z))
   refine⟨_,rfl,b,_,dx2,_,_,rfl,hb,T.a1u,T.b4t,rfl,pa2,rfl,⟨_,SqL.of hpb⟩,b3d (K:=K) (a:=pa2) (xs:=r2.puts.map V.int)
    (fun i σ H2=>H2=H∧∃ (x2 x3:Option V),σ=[some (.ref a),some (.ref b),x2,x3]∧∀ j x,j < i→r2.puts[j]?=some x→r1.looks.any (e3j x r2.fin)=false)
    ⟨rfl,none,none,rfl,fun j x h=>absurd h (Nat.not_lt_zero _)⟩ (fun i σ H2 _ ⟨z,_⟩=>z ▸ SqL.of hpb) ?_ ?_⟩
   ·rintro i y σ H2 hy ⟨z2,x2,x3,rfl,hno⟩
    subst z2
    obtain⟨kk,ek,rfl⟩:∃ kk,r2.puts[i]?=some kk∧V.int kk=y:=by
     rw[List.getElem?_map] at hy
     cases hq:r2.puts[i]? with
     | none=>rw[hq] at hy;cases hy
     | some kk=>rw[hq] at hy;exact⟨kk,rfl,Option.some.inj hy⟩
    refine⟨_,rfl,a,_,dx,_,_,rfl,ha,T.a1u,T.b2q,rfl,la1,rfl,⟨_,SqL.of hla⟩,b3d (K:=K) (a:=la1) (xs:=us)
     (fun j σ H3=>H3=H2∧∃ (x3:Option V),σ=[some (.ref a),some (.ref b),some (.int kk),x3]∧∀ j' l,j' < j→r1.looks[j']?=some l→e3j kk r2.fin l=false)
     ⟨rfl,_,rfl,fun j x h=>absurd h (Nat.not_lt_zero _)⟩ (fun j σ H3 _ ⟨z,_⟩=>z ▸ SqL.of hla) ?_ ?_⟩
    ·rintro j y σ H3 hy2 ⟨z3,x3,rfl,hno2⟩
     subst z3
     obtain⟨l,el,t,o,rfl,ht,ho⟩:=a3n hlk hy2
     refine⟨_,rfl,_,rfl,_,rfl,b,_,dx2,_,_,rfl,hb,T.a1u,T.a6k,rfl,t,o,l,kk,r2.fin,rfl,ht,ho,_,rfl,a5n (fun e3=>?_) (fun e3=>?_)⟩
     ·rw[e9y e0 hno ek (List.any_eq_true.mpr ⟨l,List.mem_of_getElem? el,e3⟩)] at q
      exact⟨_,rfl,q⟩
     ·refine⟨rfl,_,rfl,fun j' l' hj e4=>?_⟩
      rcases Nat.lt_succ_iff_lt_or_eq.mp hj with h | h
      ·exact hno2 j' l' h e4
      ·subst h
       rw[el] at e4
       cases e4
       exact(Bool.not_eq_true _).mp e3
    ·rintro σ H3 ⟨z3,x3,rfl,hno2⟩
     subst z3
     refine⟨rfl,_,_,rfl,fun j x hj e4=>?_⟩
     rcases Nat.lt_succ_iff_lt_or_eq.mp hj with h | h
     ·exact hno j x h e4
     ·subst h
      rw[ek] at e4
      cases e4
      exact f0l fun j' l hj' el=>hno2 j' l (by rw[b5x hlk];exact hj') el
   ·rintro σ H2 ⟨z2,x2,x3,rfl,hno⟩
    subst z2
    rw[e2t e0 fun j x hj ex=>hno j x (by rw[List.length_map];exact hj) ex] at q
    exact q
theorem d7w (T:Tx K mg):a2j P w K mg base CX0 4 T.b6m T.b7g ["spans","mid"] (e1q c0i T.a1n):=by
 refine T.c2u.ok c7q (fun vs H Q E h=>?_) (fun cdv A outer s H vs Q E hr h=>?_)
 ·obtain⟨l,v,us,rs,r,rfl,_⟩:=h
  rfl
 ·obtain⟨l,v,us,rs,r,rfl,hl,hp,⟨la,pa,hv⟩,q1,q2⟩:=h
  refine⟨_,(a0e (a8d PassesOwn.never rfl (a3a (pv 0)) (a1m (i:=2) c7q.nd rfl (Or.inl rfl))
   (a0g (a2v (PW.pt (d6n (a0y d7x (a0i (K:=K) rfl (pv 2) rfl) (a0i (K:=K) rfl (pv 1) rfl) (a1f _)) (c9h (a0y c6e (a1b ((c5c T).mono (by decide)) hr rfl T.c5i T.c2q.kp T.c8d .nil a1j (a0a (pv 2) (a0a (pv 1) a0f))) a4q (a1f _)))))
   (a0g (a0s (pv 2)))
   a1e)))
   (a0g (a0s a4q))),?_⟩
  obtain⟨t,dx,ws,rfl,ht,hrest⟩:=id hv
  refine⟨_,rfl,l,rfl,⟨_,SqL.of hl⟩,b3d (K:=K) (a:=l) (xs:=us)
   (fun i σ H2=>H2=H∧∃ (x2:Option V),σ=[some (.ref l),some (.ref t),x2]∧∀ j q,j < i→rs[j]?=some q→c0i r q=false)
   ⟨rfl,none,rfl,fun j x h=>absurd h (Nat.not_lt_zero _)⟩ (fun i σ H2 _ ⟨z,_⟩=>z ▸ SqL.of hl) ?_ ?_⟩
  ·rintro i y σ H2 hy ⟨z2,x2,rfl,hno⟩
   subst z2
   obtain⟨q,eq,la2,pa2,hq⟩:=a3n hp hy
   obtain⟨t2,dx2,ws2,rfl,ht2,hrest2⟩:=id hq
   refine f1w (b:=c0i r q) (fun Q2 k2=>?_) ?_
   ·refine⟨_,rfl,t2,_,dx2,_,_,rfl,ht2,T.a1u,T.a6k,rfl,_,rfl,t,_,dx,_,_,rfl,ht,T.a1u,T.b2k,rfl,_,_,rfl,rfl,_,rfl,a5n (fun e1=>?_) (fun e1=>?_)⟩
    ·refine⟨_,rfl,_,rfl,.ref t2,.ref t,q,r,la2,pa2,la,pa,rfl,hq,hv,rfl,_,rfl,?_⟩
     rw[f1r]
     have z:c0i r q=(a9i q r).isSome:=by
      unfold c0i
      rw[show decide (r.beg < q.fin)=true from e1]
      rfl
     rw[z] at k2
     exact k2
    ·have z:c0i r q=false:=by
      unfold c0i
      rw[show decide (r.beg < q.fin)=false from (Bool.not_eq_true _).mp e1]
      rfl
     rw[z] at k2
     exact k2
   ·refine a5n (fun e=>?_) (fun e=>?_)
    ·exact⟨_,rfl,q1 _ q (d2t hno eq e) ⟨la2,pa2,hq⟩⟩
    ·refine⟨rfl,_,rfl,fun j q' hj e4=>?_⟩
     rcases Nat.lt_succ_iff_lt_or_eq.mp hj with h | h
     ·exact hno j q' h e4
     ·subst h
      rw[eq] at e4
      cases e4
      exact(Bool.not_eq_true _).mp e
  ·rintro σ H2 ⟨z2,x2,rfl,hno⟩
   subst z2
   refine q2 (List.find?_eq_none.mpr fun x hx=>?_)
   obtain⟨j,hj⟩:=e8g hx
   rw[hno j x (by rw[b5x hp];exact(List.getElem?_eq_some_iff.mp hj).1) hj]
   simp
theorem d4o (T:Tx K mg):a2j P w K mg base CX0 4 T.a9z T.a9q ["spans","mid"] (e1q d5x T.a1n):=by
 refine T.b4h.ok c0n (fun vs H Q E h=>?_) (fun cdv A outer s H vs Q E hr h=>?_)
 ·obtain⟨l,v,us,rs,r,rfl,_⟩:=h
  rfl
 ·obtain⟨l,v,us,rs,r,rfl,hl,hp,⟨la,pa,hv⟩,q1,q2⟩:=h
  refine⟨_,(a0e (a8d PassesOwn.never rfl (a3a (pv 0)) (a1m (i:=2) c0n.nd rfl (Or.inl rfl))
   (a0g (a2v (PW.pt (d6n (a0y d8s (a0i (K:=K) rfl (pv 2) rfl) (a0i (K:=K) rfl (pv 1) rfl) (a1f _)) (c9h (a0y c6e (a1b ((c5c T).mono (by decide)) hr rfl T.c5i T.c2q.kp T.c8d .nil a1j (a0a (pv 1) (a0a (pv 2) a0f))) a4q (a1f _)))))
   (a0g (a0s (pv 2)))
   a1e)))
   (a0g (a0s a4q))),?_⟩
  obtain⟨t,dx,ws,rfl,ht,hrest⟩:=id hv
  refine⟨_,rfl,l,rfl,⟨_,SqL.of hl⟩,b3d (K:=K) (a:=l) (xs:=us)
   (fun i σ H2=>H2=H∧∃ (x2:Option V),σ=[some (.ref l),some (.ref t),x2]∧∀ j q,j < i→rs[j]?=some q→d5x r q=false)
   ⟨rfl,none,rfl,fun j x h=>absurd h (Nat.not_lt_zero _)⟩ (fun i σ H2 _ ⟨z,_⟩=>z ▸ SqL.of hl) ?_ ?_⟩
  ·rintro i y σ H2 hy ⟨z2,x2,rfl,hno⟩
   subst z2
   obtain⟨q,eq,la2,pa2,hq⟩:=a3n hp hy
   obtain⟨t2,dx2,ws2,rfl,ht2,hrest2⟩:=id hq
   refine f1w (b:=d5x r q) (fun Q2 k2=>?_) ?_
   ·refine⟨_,rfl,t2,_,dx2,_,_,rfl,ht2,T.a1u,T.a6k,rfl,_,rfl,t,_,dx,_,_,rfl,ht,T.a1u,T.a6k,rfl,_,_,rfl,rfl,_,rfl,a5n (fun e1=>?_) (fun e1=>?_)⟩
    ·refine⟨_,rfl,_,rfl,.ref t,.ref t2,r,q,la,pa,la2,pa2,rfl,hv,hq,rfl,_,rfl,?_⟩
     rw[f1r]
     have z:d5x r q=(a9i r q).isSome:=by
      unfold d5x
      rw[show decide (q.fin < r.fin)=true from e1]
      rfl
     rw[z] at k2
     exact k2
    ·have z:d5x r q=false:=by
      unfold d5x
      rw[show decide (q.fin < r.fin)=false from (Bool.not_eq_true _).mp e1]
      rfl
     rw[z] at k2
     exact k2
   ·refine a5n (fun e=>?_) (fun e=>?_)
    ·exact⟨_,rfl,q1 _ q (d2t hno eq e) ⟨la2,pa2,hq⟩⟩
    ·refine⟨rfl,_,rfl,fun j q' hj e4=>?_⟩
     rcases Nat.lt_succ_iff_lt_or_eq.mp hj with h | h
     ·exact hno j q' h e4
     ·subst h
      rw[eq] at e4
      cases e4
      exact(Bool.not_eq_true _).mp e
  ·rintro σ H2 ⟨z2,x2,rfl,hno⟩
   subst z2
   refine q2 (List.find?_eq_none.mpr fun x hx=>?_)
   obtain⟨j,hj⟩:=e8g hx
   rw[hno j x (by rw[b5x hp];exact(List.getElem?_eq_some_iff.mp hj).1) hj]
   simp
theorem e2n (T:Tx K mg):a2j P w K mg base CX0 5 T.c0c T.b4i ["kept","new"] (e6e T.a1n T.lp mg base):=by
 refine My.f3q T.c7k b1j (fun vs H Q E h=>?_) (fun A outer s H vs Q E hr h=>?_)
 ·obtain⟨l,v,us,rs,r,rfl,_⟩:=h
  rfl
 ·obtain⟨l,v,us,rs,r,rfl,hB,hl,hp,hv,hz,hT,q⟩:=h
  have hu:=c3h hr
  have hlen:=b5x hp
  have z63:(64:Nat)≤sizeLine:=by decide
  refine⟨_,(a0e (a1s (i:=2) b1j.nd rfl (Or.inl rfl) (e3g (c:=T.lc) (P0:=T.lp) rfl T.a9o (a0a (a1r e1l (pv 0) (a3k (a0a (pv 1) a0f))) a0f) T.lcd T.lch hB hr.depth rfl rfl rfl rfl rfl (by decide) rfl (fun _ _ _ _ _ _ _ _=>rfl) (by decide) (fun _=>rfl)))
   (a0e (a8d PassesOwn.never rfl (a3a (b1l ["span"] rfl (a4o.mk (fv:=[]) (js:=[]) rfl (by decide +kernel) (by decide +kernel) (by decide +kernel) a7a rfl (by decide +kernel)) (a3a (pv 2)) (fun _ _ _ _ _=>(a1m (i:=0) (show (["span"]:List Str).Nodup by decide +kernel) rfl (Or.inl rfl))) (fun _ _ _ _ _=>(e0k (a3t (a0i (K:=K) rfl (pv 0) rfl)))) (fun _ _ _ _ _=>(pv 0)))) (a1m (i:=3) b1j.nd rfl (Or.inl rfl))
   (a0e (a1s (i:=4) b1j.nd rfl (Or.inl rfl) (a1b ((d7w T).mono (by decide)) hr rfl T.d0t T.c2u.kp T.d0r .nil a1j (a0a (c5b (a0y c1e (a0i (K:=K) rfl (pv 3) rfl) (a0i (K:=K) rfl (pv 1) rfl) (a1f _)) (pv 2) (a3k (a0a (pv 1) a0f))) (a0a (pv 3) a0f))))
   (a0e (a1s (i:=5) b1j.nd rfl (Or.inl rfl) (c5b (a0y e0g (pv 4) a4q (a1f _)) a4q (a1b ((d4o T).mono (by decide)) hr rfl T.c4j T.b4h.kp T.c4o .nil a1j (a0a (pv 2) (a0a (pv 3) a0f)))))
   (a0g (a2v (a0y c6e (pv 5) a4q (a1f _))
   (a0g (a0s (a8b (a0a (a0i (K:=K) rfl (pv 4) rfl) (a0a (a1b ((c5c T).mono (by decide)) hr rfl T.c5i T.c2q.kp T.c8d .nil a1j (a0a (pv 4) (a0a (pv 3) a0f))) (a0a (a0i (K:=K) rfl (pv 3) rfl) (a0a (a1b ((c5c T).mono (by decide)) hr rfl T.c5i T.c2q.kp T.c8d .nil a1j (a0a (pv 3) (a0a (pv 5) a0f))) (a0a (a0i (K:=K) rfl (pv 5) rfl) a0f))))))))
   a1e)))))
   (a0g (a0s a4q)))),?_⟩
  obtain⟨la,pa,t,dx,ws,rfl,ht,hrest⟩:=id hv
  refine⟨_,rfl,_,rfl,(by show 1≤sizeLine;decide),fun p1 hp1=>?_⟩
  have s1:=Same.upd (o:=HO.lst [V.ref t]) hp1
  refine⟨l,p1,us,[.ref t],rfl,rfl,s1 _ _ hl,a0b,(by show us.length+1≤sizeLine;omega),fun p2 hp2=>?_⟩
  have s2:=s1.trans (Same.upd (o:=HO.lst (us++[V.ref t])) hp2)
  have h2l:=a0b (H:=upd H p1 (HO.lst [V.ref t])) (a:=p2) (o:=HO.lst (us++[V.ref t]))
  generalize upd (upd H p1 (HO.lst [V.ref t])) p2 (HO.lst (us++[V.ref t]))=H2 at s2 h2l ⊢
  have pr2:Paired (a3i T.a1n H2) (us++[V.ref t]) (rs++[r]):=(b1v (fun _ _ x=>a3i.same x s2) hp).snoc (hv.same s2)
  refine⟨p2,us++[.ref t],(rs++[r]).map Row.num,rfl,h2l,(by rw[List.length_append];show us.length+1 < 64;omega),f4w pr2 (fun v b ⟨la,pa,t,dx,vs,e,a,_⟩=>⟨t,_,dx,_,e,a,T.a1u,T.a1c,rfl⟩),c2h hT s2,fun D ys H3 hD k3 hT3 hDl hby=>?_⟩
  have kp3:Kp H2 H3:=f9l (c2h hT s2) k3
  obtain⟨S,up,pr3'⟩:=f2x hby pr2
  have pr3:=b1v (G:=a3i T.a1n H3) (fun _ _ x=>a3i.kp x kp3) pr3'
  have hv3:=(hv.same s2).kp kp3
  have Sl:S.length=rs.length+1:=by rw[up.1.length_eq,List.length_append];rfl
  have yl:ys.length=S.length:=b5x pr3
  refine⟨_,rfl,D,rfl,⟨_,SqL.of hDl⟩,?_⟩
  refine b1h (k:=1) (fs:=[]) (ys.zip S).length (fun i=>if ((ys.zip S).getD i dfR).2.wat=true then some ((ys.zip S).getD i dfR).1 else none) rfl (by rw[List.length_zip];omega) (fun i H4 ss hi=>(a1g (SqL.of (ss _ _ hDl))).go i (by rw[List.length_zip] at hi;omega)) (fun H4 ss=>(a1g (SqL.of (ss _ _ hDl))).stop _ (by rw[List.length_zip];omega)) ?_ ?_
  ·rintro i H4 ts v' H5 R ss hi hts ⟨rfl,hy⟩ cb
   obtain⟨t',rfl⟩:=List.length_eq_one_iff.mp hts
   have ev:=hy _ (SqL.of (ss _ _ hDl))
   obtain⟨m,em,hm⟩:=a3n pr3 ev
   obtain⟨la2,pa2,tm,dxm,wm,rfl,htm,_⟩:=id hm
   have eg:(ys.zip S).getD i dfR=(V.ref tm,m):=by rw[List.getD_eq_getElem?_getD,(List.getElem?_zip_eq_some (z:=(V.ref tm,m))).mpr ⟨ev,em⟩];rfl
   have hcb:=cb [some (.ref tm)] H5 rfl (Same.refl _)
   simp only [eg] at hcb
   refine⟨_,rfl,tm,_,dxm,_,_,rfl,ss _ _ htm,T.a1u,T.a8v,rfl,m.wat,rfl,a5n (fun e=>⟨_,rfl,?_⟩) (fun e=>?_)⟩
   ·rw[if_pos e] at hcb
    exact hcb
   ·rw[if_neg e] at hcb
    exact hcb
  ·intro D2 H4 hD2 s4 hl4
   rw[a9u (ys.zip S) dfR (fun x=>if x.2.wat=true then some x.1 else none),b1z (ys.zip S) (fun x=>x.2.wat) Prod.fst] at hl4
   have pr4:=b1v (G:=a3i T.a1n H4) (fun _ _ x=>a3i.same x s4) pr3
   have pw:Paired (a3i T.a1n H4) (((ys.zip S).filter fun x=>x.2.wat).map Prod.fst) (S.filter (·.wat)):=e3k (·.wat) pr4
   generalize ((ys.zip S).filter fun x=>x.2.wat).map Prod.fst=ms at hl4 pw
   refine⟨D2,rfl,⟨_,SqL.of hl4⟩,b3d (K:=K) (a:=D2) (xs:=ms)
    (fun i σ H5=>Same H4 H5∧∃ (x3 x4 x5:Option V),σ=[some (.ref l),some (.ref t),some (.ref D),x3,x4,x5]∧∀ j m,j < i→(S.filter (·.wat))[j]?=some m→a9b S r m=none)
    ⟨Same.refl _,none,none,none,rfl,fun j x h=>absurd h (Nat.not_lt_zero _)⟩ (fun i σ H5 _ ⟨z,_⟩=>SqL.of (z _ _ hl4)) ?_ ?_⟩
   ·rintro i y σ H5 hy ⟨s5,x3,x4,x5,rfl,hno⟩
    obtain⟨m,em,hm⟩:=a3n pw hy
    obtain⟨lam,pam,xm⟩:=a3i.same hm s5
    obtain⟨tm,dxm,wm,rfl,htm,_⟩:=id xm
    have hv5:=(hv3.same s4).same s5
    obtain⟨la',pa',t',dx',ws',e',ht5,_⟩:=id hv5
    cases e'
    have pr5:=b1v (G:=a3i T.a1n H5) (fun _ _ x=>a3i.same x s5) pr4
    have hD5:=s5 _ _ (s4 _ _ hDl)
    have stay:a9b S r m=none→∀ j m',j < i+1→(S.filter (·.wat))[j]?=some m'→a9b S r m'=none:=fun z j m' hj e4=>by
     rcases Nat.lt_succ_iff_lt_or_eq.mp hj with h | h
     ·exact hno j m' h e4
     ·subst h
      rw[em] at e4
      cases e4
      exact z
    have kpF:∀ H6,Same H5 H6→Kp H H6∧Tb T.lp d7s d7g H6:=fun H6 s6=>⟨(Kp.of s2).trans (kp3.trans (Kp.of (s4.trans (s5.trans s6)))),c2h hT3 (s4.trans (s5.trans s6))⟩
    refine⟨_,rfl,tm,_,dxm,_,_,rfl,htm,T.a1u,T.a1c,rfl,_,rfl,t,_,dx',_,_,rfl,ht5,T.a1u,T.a1c,rfl,rfl,_,rfl,a5n (fun e=>?_) (fun e=>?_)⟩
    ·have hLL:(if m.num=r.num then S else [r])=S:=if_pos (V.int.inj (of_decide_eq_true e))
     have s56:=Same.refl H5
     refine⟨_,rfl,_,rfl,D,.ref tm,ys,S,m,rfl,hD5,pr5,⟨lam,pam,xm⟩,(fun u q1 f1 h1=>?_),(fun f1=>?_)⟩
     ·obtain⟨la1,pa1,x1⟩:=id h1
      obtain⟨t1,dx1,w1,rfl,ht1,_⟩:=id x1
      refine⟨_,rfl,rfl,_,rfl,a5n (fun e2=>by cases of_decide_eq_true e2) (fun _=>?_)⟩
      refine⟨_,rfl,_,rfl,D,.ref tm,ys,S,m,rfl,s56 _ _ hD5,b1v (fun _ _ x=>a3i.same x s56) pr5,⟨lam,pam,xm.same s56⟩,(fun u2 q2 f2 h2=>?_),(fun f2=>?_)⟩
      ·obtain⟨la2,pa2,x2⟩:=id h2
       obtain⟨t2,dx2,w2,rfl,ht2,_⟩:=id x2
       refine⟨_,rfl,rfl,_,rfl,a5n (fun _=>?_) (fun e2=>absurd (by rw[decide_eq_false (by intro z;cases z)];rfl) e2)⟩
       refine⟨_,rfl,t1,_,dx1,_,_,rfl,ht1,T.a1u,T.a1c,rfl,_,rfl,_,rfl,.ref t1,.ref tm,q1,m,la1,pa1,lam,pam,rfl,x1,xm.same s56,?_⟩
       refine⟨_,rfl,tm,_,dxm,_,_,rfl,s56 _ _ htm,T.a1u,T.a1c,rfl,_,rfl,_,rfl,.ref tm,.ref t2,m,q2,lam,pam,la2,pa2,rfl,xm.same s56,x2,?_⟩
       refine⟨_,rfl,t2,_,dx2,_,_,rfl,ht2,T.a1u,T.a1c,rfl,(by show 5≤sizeLine;decide),fun tt htt=>?_⟩
       have s7:=Same.upd (o:=HO.tup (tri (q1,m,q2))) htt
       have cl:c8y S r=some (q1,m,q2):=f8c hno em (by unfold a9b;rw[hLL,f1,f2];rfl)
       obtain⟨kk,tk⟩:=kpF _ (s56.trans s7)
       exact q (.ref tt) _ S kk tk up (.inr ⟨_,tt,cl,rfl,a0b⟩)
      ·refine⟨_,rfl,rfl,_,rfl,a5n (fun e2=>by simp at e2) (fun _=>?_)⟩
       exact⟨s5.trans s56,_,_,_,rfl,stay (by unfold a9b;rw[hLL,f1,f2];rfl)⟩
     ·refine⟨_,rfl,rfl,_,rfl,a5n (fun _=>?_) (fun e2=>absurd (decide_eq_true rfl) e2)⟩
      refine⟨_,rfl,rfl,_,rfl,a5n (fun e2=>by simp at e2) (fun _=>?_)⟩
      exact⟨s5.trans s56,_,_,_,rfl,stay (by unfold a9b;rw[hLL,f1];rfl)⟩
    ·have hLL:(if m.num=r.num then S else [r])=[r]:=if_neg fun z=>e (decide_eq_true (congrArg V.int z))
     refine⟨_,rfl,(by show 1≤sizeLine;decide),fun p3 hp3=>?_⟩
     have s56:=Same.upd (o:=HO.lst [V.ref t]) hp3
     refine⟨_,rfl,p3,.ref tm,[.ref t],[r],m,rfl,a0b,.cons (hv5.same s56) .nil,⟨lam,pam,xm.same s56⟩,(fun u q1 f1 h1=>?_),(fun f1=>?_)⟩
     ·obtain⟨la1,pa1,x1⟩:=id h1
      obtain⟨t1,dx1,w1,rfl,ht1,_⟩:=id x1
      refine⟨_,rfl,rfl,_,rfl,a5n (fun e2=>by cases of_decide_eq_true e2) (fun _=>?_)⟩
      refine⟨_,rfl,_,rfl,D,.ref tm,ys,S,m,rfl,s56 _ _ hD5,b1v (fun _ _ x=>a3i.same x s56) pr5,⟨lam,pam,xm.same s56⟩,(fun u2 q2 f2 h2=>?_),(fun f2=>?_)⟩
      ·obtain⟨la2,pa2,x2⟩:=id h2
       obtain⟨t2,dx2,w2,rfl,ht2,_⟩:=id x2
       refine⟨_,rfl,rfl,_,rfl,a5n (fun _=>?_) (fun e2=>absurd (by rw[decide_eq_false (by intro z;cases z)];rfl) e2)⟩
       refine⟨_,rfl,t1,_,dx1,_,_,rfl,ht1,T.a1u,T.a1c,rfl,_,rfl,_,rfl,.ref t1,.ref tm,q1,m,la1,pa1,lam,pam,rfl,x1,xm.same s56,?_⟩
       refine⟨_,rfl,tm,_,dxm,_,_,rfl,s56 _ _ htm,T.a1u,T.a1c,rfl,_,rfl,_,rfl,.ref tm,.ref t2,m,q2,lam,pam,la2,pa2,rfl,xm.same s56,x2,?_⟩
       refine⟨_,rfl,t2,_,dx2,_,_,rfl,ht2,T.a1u,T.a1c,rfl,(by show 5≤sizeLine;decide),fun tt htt=>?_⟩
       have s7:=Same.upd (o:=HO.tup (tri (q1,m,q2))) htt
       have cl:c8y S r=some (q1,m,q2):=f8c hno em (by unfold a9b;rw[hLL,f1,f2];rfl)
       obtain⟨kk,tk⟩:=kpF _ (s56.trans s7)
       exact q (.ref tt) _ S kk tk up (.inr ⟨_,tt,cl,rfl,a0b⟩)
      ·refine⟨_,rfl,rfl,_,rfl,a5n (fun e2=>by simp at e2) (fun _=>?_)⟩
       exact⟨s5.trans s56,_,_,_,rfl,stay (by unfold a9b;rw[hLL,f1,f2];rfl)⟩
     ·refine⟨_,rfl,rfl,_,rfl,a5n (fun _=>?_) (fun e2=>absurd (decide_eq_true rfl) e2)⟩
      refine⟨_,rfl,rfl,_,rfl,a5n (fun e2=>by simp at e2) (fun _=>?_)⟩
      exact⟨s5.trans s56,_,_,_,rfl,stay (by unfold a9b;rw[hLL,f1];rfl)⟩
   ·rintro σ H5 ⟨s5,x3,x4,x5,rfl,hno⟩
    exact q .non H5 S ((Kp.of s2).trans (kp3.trans (Kp.of (s4.trans s5)))) (c2h hT3 (s4.trans s5)) up (.inl ⟨f5c fun j m hj em=>hno j m (by rw[b5x pw];exact hj) em,rfl⟩)
def e9d (C P0:Addr) (mg:Str→Option Value) (base:Heap):Sp:=fun vs H Q _=>∃ (l:Addr) (v:V) (us:List V) (rs:List Row) (r:Row),vs=[.ref l,v]∧base.BuiltinsAt mg P0∧H l=some (.lst us)∧Paired (a3i C H) us rs∧a3i C H v r∧rs.length < 62∧Tb P0 d7s d7g H∧(∀ S,Up (rs++[r]) S→c8y S r=none) ∧
 (∀ H' S p,Kp H H'→Tb P0 d7s d7g H'→Up (rs++[r]) S→c8y S r=none→(∀ b xs,H b=some (.lst xs)→b≠p)→H' p=some (.lst (us++[v]))→Q (.ref p) H')
theorem e9h (T:Tx K mg):a2j P w K mg base CX0 6 T.d2m T.d3b ["kept","new"] (e9d T.a1n T.lp mg base):=by
 refine T.e0a.ok e1c (fun vs H Q E h=>?_) (fun cdv A outer s H vs Q E hr h=>?_)
 ·obtain⟨l,v,us,rs,r,rfl,_⟩:=h
  rfl
 ·obtain⟨l,v,us,rs,r,rfl,hB,hl,hp,hv,hz,hT,no,q1⟩:=h
  have hu:=c3h hr
  have ul:=b5x hp
  have z63:(63:Nat)≤sizeLine:=by decide
  refine⟨_,(a0e (a1s (i:=2) e1c.nd rfl (Or.inl rfl) (a1b ((e2n T).mono (by decide)) hr rfl T.d6d T.c7k.kp T.d5m .nil a1j (a0a (pv 0) (a0a (pv 1) a0f))))
   (a0e (a2v (a0y c6e (pv 2) a4q (a1f _))
   (a0g a4t)
   a1e)
   (a0g (a0s (a1r e1l (pv 0) (a3k (a0a (pv 1) a0f))))))),?_⟩
  refine⟨_,rfl,_,rfl,l,v,us,rs,r,rfl,hB,hl,hp,hv,(by omega),hT,fun u H1 S k1 hT1 up res=>?_⟩
  rcases res with ⟨e,rfl⟩ | ⟨x,t,e,rfl,ht⟩
  ·refine⟨_,rfl,rfl,_,rfl,a5n (fun e2=>by simp at e2) (fun _=>?_)⟩
   refine⟨_,rfl,_,rfl,(by show 1≤sizeLine;decide),fun p1 hp1=>?_⟩
   have s1:=Same.upd (o:=HO.lst [v]) hp1
   refine⟨l,p1,us,[v],rfl,rfl,s1 _ _ (k1.lst hl),a0b,(by show us.length+1≤sizeLine;omega),fun p2 hp2=>?_⟩
   have s2:=s1.trans (Same.upd (o:=HO.lst (us++[v])) hp2)
   refine q1 _ S p2 (k1.trans (Kp.of s2)) (c2h hT1 s2) up e (fun b xs eb z=>?_) a0b
   rw[z] at eb
   rw[s1 _ _ (k1.lst eb)] at hp2
   cases hp2
  ·rw[no S up] at e
   cases e
end Spn
--@STAGE
theorem e5u (k:Int):b0p [k]=[k]:=List.perm_singleton.mp (a5m [k])
theorem c1x {J:It} {g:TG} {te:TE} {σ0:L2.St} {H2:Hp} {Q2:VK} (hs:∀ H3,Same H2 H3→J.stop 0 H3) (fin:∀ D H3,H2 D=none→Same H2 H3→H3 D=some (.lst [])→Q2 (.ref D) H3):c8h σ0 J g f8j te Q2 H2:=fun D hD =>
 ⟨fun i m ys τ H4=>i=0∧m=0∧ys=[]∧Same H2 H4∧H4 D=some (.lst []),⟨0,rfl,rfl,rfl,Same.upd hD,a0b⟩,fun i m ys τ H4 ⟨e1,_,e3,s4,hd4⟩=>by
  subst e1 e3
  exact⟨hd4,.inl ⟨hs _ s4,fin D H4 hD s4 hd4⟩⟩⟩
open Spn
def f4y (C CS:Addr) (cls:Lv→Addr):Sp:=fun vs H Q _=>∃ (a ax lv lx lo dr:Addr) (e:DF) (l:Lv) (n bg en k:Int) (v:V),vs=[.ref a,.int en]∧H a=some (.ins C ax e.fs)∧e.n=.int n∧e.lv=.ref lv∧H lv=some (.ins (cls l) lx [])∧e.b=.int bg∧e.lo=.ref lo∧H lo=some (.lst [])∧e.dr=.ref dr∧H dr=some (.dK [(Sum.inl k,v)]) ∧
 ∀ y la pa H',Same H H'→H la=none→H pa=none→c9u CS H' y ⟨n,f4i l,bg,en,[],[k]⟩ la pa→Q y H'
theorem d9n (T:Tx K mg):a2j P w K mg base CX0 3 T.b6x T.b7i ["self","end"] (f4y T.a0m T.a1n (cO T)):=by
 refine T.d1x.ok c7l (fun vs H Q E h=>?_) (fun cdv A outer s H vs Q E hr h=>?_)
 ·obtain⟨a,ax,lv,lx,lo,dr,e,l,n,bg,en,k,v,rfl,_⟩:=h
  rfl
 ·obtain⟨a,ax,lv,lx,lo,dr,e,l,n,bg,en,k,v,rfl,ha,e1,e2,hl,e3,e4,hlo,e5,hdr,kk⟩:=h
  refine⟨_,(a0e (a1s (i:=2) c7l.nd rfl (Or.inl rfl) (c5b (a3t (c1n (a0i (K:=K) rfl (pv 0) rfl) (e7t T) (hr.mono (by decide)))) (a3k a0f) (b1l ["look"] rfl (a4o.mk (fv:=[]) (js:=[]) rfl (by decide +kernel) (by decide +kernel) (by decide +kernel) a7a rfl (by decide +kernel)) (a3a (a0i (K:=K) rfl (pv 0) rfl)) (fun _ _ _ _ _=>(a1m (i:=0) (show (["look"]:List Str).Nodup by decide +kernel) rfl (Or.inl rfl))) (fun _ _ _ _ _=>d1u) (fun _ _ _ _ _=>d2v))))
   (a0g (a0s (d4b T.e7b ((d9o T).mono (by decide)) hr rfl T.f1o T.d0s .nil a1j (a0a (a0i (K:=K) rfl (pv 0) rfl) (a0a (c1n (a0i (K:=K) rfl (pv 0) rfl) (e2v T) (hr.mono (by decide))) (a0a (a0i (K:=K) rfl (pv 0) rfl) (a0a (pv 1) (a0a (pv 2) (a0a (a0t (c3m rfl) (by rfl) T.a9o boot_sorted (a0a (a0i (K:=K) rfl (pv 0) rfl) a0f)) a0f)))))))))),?_⟩
  have z64:(64:Nat)≤sizeLine:=by decide
  refine⟨_,rfl,a,_,ax,_,_,rfl,ha,T.a0q,T.a3e,rfl,?_⟩
  refine⟨lv,l,lx,_,e2,hl,rfl,_,rfl,_,rfl,a5n (fun _=>?_) (fun _=>?_)⟩
  ·refine⟨(by show 0≤sizeLine;decide),fun L hL=>?_⟩
   have s1:=Same.upd (o:=HO.lst []) hL
   have hLl:=a0b (H:=H) (a:=L) (o:=HO.lst [])
   generalize upd H L (.lst [])=H1 at s1 hLl ⊢
   refine⟨_,rfl,a,_,ax,_,_,rfl,s1 _ _ ha,T.a0q,T.a2d,rfl,?_⟩
   refine⟨_,rfl,a,_,ax,_,_,rfl,s1 _ _ ha,T.a0q,T.a3e,rfl,?_⟩
   refine⟨lv,l,lx,_,e2,s1 _ _ hl,rfl,_,rfl,?_⟩
   refine⟨_,rfl,a,_,ax,_,_,rfl,s1 _ _ ha,T.a0q,T.a3d,rfl,?_⟩
   refine⟨_,rfl,_,rfl,_,rfl,a,_,ax,_,_,rfl,s1 _ _ ha,T.a0q,T.a2e,rfl,?_⟩
   refine⟨dr,[(Sum.inl k,v)],[k],by show [e.dr]=_;rw[e5],s1 _ _ hdr,rfl,(by show 1 < 64;decide),fun p hp=>?_⟩
   have s2:=s1.trans (Same.upd (o:=HO.lst ((b0p [k]).map V.int)) hp)
   have p2:=a0b (H:=H1) (a:=p) (o:=HO.lst ((b0p [k]).map V.int))
   have L2':=(Same.upd (o:=HO.lst ((b0p [k]).map V.int)) hp) _ _ hLl
   generalize upd H1 p (.lst ((b0p [k]).map V.int))=H2 at s2 p2 L2' ⊢
   intro t dx ht hdx ndx
   have s3:=s2.trans (Same.newO (C:=T.a1n) ht hdx ndx)
   have o3:=a0b (H:=upd H2 dx (.own t)) (a:=t) (o:=HO.ins T.a1n dx [])
   have L3:=(Same.newO (C:=T.a1n) ht hdx ndx) _ _ L2'
   have p3:=(Same.newO (C:=T.a1n) ht hdx ndx) _ _ p2
   have t0:=s2.free ht
   generalize upd (upd H2 dx (.own t)) t (.ins T.a1n dx [])=H3 at s3 o3 L3 p3 ⊢
   refine⟨t,dx,L,p,⟨n,f4i l,bg,en,[],[k]⟩,[],_,?_,o3,L3,p3,fun la pa H4 fla fpa B4 o4 la4 pa4=>⟨rfl,?_⟩⟩
   ·show [V.ref t,e.n,V.bl (f4i l),e.b,V.int en,V.ref L,V.ref p]=_
    rw[e1,e3]
   ·have s4:Same H H4:=fun b o eb=>B4 b o (fun z=>by rw[z,t0] at eb;cases eb) (s3 _ _ eb)
    refine kk (.ref t) la pa H4 s4 (s3.free fla) (s3.free fpa) ⟨t,dx,[],rfl,o4,la4,.nil,?_⟩
    rw[e5u] at pa4
    exact pa4
  ·refine⟨_,rfl,a,_,ax,_,_,rfl,ha,T.a0q,T.b3m,rfl,?_⟩
   rw[e4]
   refine⟨lo,rfl,⟨_,SqL.of hlo⟩,c1x (fun H3 s3=>(a1g (SqL.of (s3 _ _ hlo))).stop _ (Nat.le_refl _)) fun L H1 hL s1 hLl=>?_⟩
   refine⟨_,rfl,a,_,ax,_,_,rfl,s1 _ _ ha,T.a0q,T.a2d,rfl,?_⟩
   refine⟨_,rfl,a,_,ax,_,_,rfl,s1 _ _ ha,T.a0q,T.a3e,rfl,?_⟩
   refine⟨lv,l,lx,_,e2,s1 _ _ hl,rfl,_,rfl,?_⟩
   refine⟨_,rfl,a,_,ax,_,_,rfl,s1 _ _ ha,T.a0q,T.a3d,rfl,?_⟩
   refine⟨_,rfl,_,rfl,_,rfl,a,_,ax,_,_,rfl,s1 _ _ ha,T.a0q,T.a2e,rfl,?_⟩
   refine⟨dr,[(Sum.inl k,v)],[k],by show [e.dr]=_;rw[e5],s1 _ _ hdr,rfl,(by show 1 < 64;decide),fun p hp=>?_⟩
   have s2:=s1.trans (Same.upd (o:=HO.lst ((b0p [k]).map V.int)) hp)
   have p2:=a0b (H:=H1) (a:=p) (o:=HO.lst ((b0p [k]).map V.int))
   have L2':=(Same.upd (o:=HO.lst ((b0p [k]).map V.int)) hp) _ _ hLl
   generalize upd H1 p (.lst ((b0p [k]).map V.int))=H2 at s2 p2 L2' ⊢
   intro t dx ht hdx ndx
   have s3:=s2.trans (Same.newO (C:=T.a1n) ht hdx ndx)
   have o3:=a0b (H:=upd H2 dx (.own t)) (a:=t) (o:=HO.ins T.a1n dx [])
   have L3:=(Same.newO (C:=T.a1n) ht hdx ndx) _ _ L2'
   have p3:=(Same.newO (C:=T.a1n) ht hdx ndx) _ _ p2
   have t0:=s2.free ht
   generalize upd (upd H2 dx (.own t)) t (.ins T.a1n dx [])=H3 at s3 o3 L3 p3 ⊢
   refine⟨t,dx,L,p,⟨n,f4i l,bg,en,[],[k]⟩,[],_,?_,o3,L3,p3,fun la pa H4 fla fpa B4 o4 la4 pa4=>⟨rfl,?_⟩⟩
   ·show [V.ref t,e.n,V.bl (f4i l),e.b,V.int en,V.ref L,V.ref p]=_
    rw[e1,e3]
   ·have s4:Same H H4:=fun b o eb=>B4 b o (fun z=>by rw[z,t0] at eb;cases eb) (s3 _ _ eb)
    refine kk (.ref t) la pa H4 s4 (s3.free fla) (s3.free fpa) ⟨t,dx,[],rfl,o4,la4,.nil,?_⟩
    rw[e5u] at pa4
    exact pa4
--@STAGE
structure HF where
 sh:V
 ho:V
 dl:V
 sp:V
 st:V
 tl:V
def HF.fs (d:HF):List (Str×V):=[("shelf",d.sh),("holds",d.ho),("deals",d.dl),("spans",d.sp),("stamp",d.st),("told_rows",d.tl)]
def f0o (C N:Addr):Sp:=fun vs H Q E=>∃ (h dx dl:Addr) (d:HF) (n:Int) (us:List V),vs=[.ref h,.int n]∧H h=some (.ins C dx d.fs)∧d.dl=.ref dl∧H dl=some (.lst us) ∧
 (∀ (i:Nat) u,n=(i:Int)+1→us[i]?=some u→Q u H)∧((n < 1∨(us.length:Int) < n)→∀ H',Same H H'→E (.ref N) none H')
def f5l (C CD:Addr):Sp:=fun vs H Q _=>∃ (h dx a ax t tl:Addr) (d:HF) (e:DF) (ps rs:List V),vs=[.ref h,.ref a,.ref t]∧H h=some (.ins C dx d.fs)∧H a=some (.ins CD ax e.fs)∧H t=some (.tup ps)∧ps≠[]∧ps.length < 1000∧d.tl=.ref tl∧H tl=some (.lst rs)∧rs.length < 100000 ∧
 ∀ r H',H r=none→H' r=some (.tup (d.st::e.n::ps))→H' tl=some (.lst (rs++[.ref r]))→But tl H H'→Q .non H'
def f9v (C:Addr):Sp:=fun vs H Q _=>∃ (h dx tl:Addr) (d:HF) (rs:List V),vs=[.ref h]∧H h=some (.ins C dx d.fs)∧d.tl=.ref tl∧H tl=some (.lst rs)∧∀ p,H p=none→Q (.ref p) (upd H p (.lst rs))
def f6q (C CD N:Addr) (f:DF→V):Sp:=fun vs H Q E=>∃ (h dx dl:Addr) (d:HF) (n:Int) (us:List V),vs=[.ref h,.int n]∧H h=some (.ins C dx d.fs)∧d.dl=.ref dl∧H dl=some (.lst us) ∧
 (∀ (i:Nat) u,n=(i:Int)+1→us[i]?=some u→∃ a ax e,u=.ref a∧H a=some (.ins CD ax (DF.fs e))∧Q (f e) H)∧((n < 1∨(us.length:Int) < n)→∀ H',Same H H'→E (.ref N) none H')
def e8x (C CD N:Addr) (cls:Lv→Addr):Sp:=fun vs H Q E=>∃ (h dx dl:Addr) (d:HF) (n:Int) (us:List V),vs=[.ref h,.int n]∧H h=some (.ins C dx d.fs)∧d.dl=.ref dl∧H dl=some (.lst us) ∧
 (∀ (i:Nat) u,n=(i:Int)+1→us[i]?=some u→∃ a ax e lv lx l,u=.ref a∧H a=some (.ins CD ax (DF.fs e))∧e.lv=.ref lv∧H lv=some (.ins (cls l) lx [])∧Q (.str (wd l)) H)∧((n < 1∨(us.length:Int) < n)→∀ H',Same H H'→E (.ref N) none H')
def e7e (C CD N:Addr):Sp:=fun vs H Q E=>∃ (h dx dl:Addr) (d:HF) (n:Int) (us:List V),vs=[.ref h,.int n]∧H h=some (.ins C dx d.fs)∧d.dl=.ref dl∧H dl=some (.lst us) ∧
 (∀ (i:Nat) u,n=(i:Int)+1→us[i]?=some u→∃ a ax e x,u=.ref a∧H a=some (.ins CD ax (DF.fs e))∧e.ph=.str x∧x≠"kept"∧∀ p,H p=none→Q (.ref p) (upd H p (.lst [])))∧((n < 1∨(us.length:Int) < n)→∀ H',Same H H'→E (.ref N) none H')
def f3o (K:PySem.W.Frag) (C CD CH:Addr):Sp:=fun vs H Q _=>∃ (h dx a ax ho hdx hd:Addr) (d:HF) (e:DF) (n lo hi:Int) (own:Bool) (kvs:List (Key×V)) (m:List (Int×List Hold)),vs=[.ref h,.ref a,.int lo,.int hi,.bl own]∧H h=some (.ins C dx d.fs)∧H a=some (.ins CD ax e.fs)∧e.n=.int n ∧
 d.ho=.ref ho∧Hs K CH H ho hdx hd kvs m∧m.length < 63∧(∀ q∈m,q.2.length < 999)∧ags m n lo hi own=[] ∧
 ∀ H1 H' t kvs',(∀ b o,b≠a→H b=some o→H1 b=some o)→H1 a=some (.ins CD ax {e with wa:=.ref t}.fs)→Hs K CH H' ho hdx hd kvs' (d7y m n (lo,hi,own))→f9p H1 H' hd kvs→(∀ l,V.ref l∈kvs'.map (·.2)→V.ref l∈kvs.map (·.2)∨H l=none)→(∀ x,H' x=none→H x=none)→Q .non H'
theorem a8c {H:Hp} {a b C D x y:Addr} {f g:List (Str×V)} (h1:H a=some (.ins C x f)) (h2:H b=some (.ins D y g)) (n:f.length≠g.length):a≠b:=fun z=>by
 rw[z,h2] at h1
 exact n (congrArg List.length (HO.ins.inj (Option.some.inj h1)).2.2.symm)
theorem Ent.kept {H H':Hp} {kvs:List (Key×V)} {m:List (Int×List Hold)} (s:∀ b o,H b=some o→((∃ vs,o=.lst vs)∨∃ xs,o=.tup xs)→H' b=some o) (r:Ent H kvs m):Ent H' kvs m:=by
 induction r with
 | nil=>exact .nil
 | cons h q _ ih=>exact .cons (s _ _ h (.inl ⟨_,rfl⟩)) (q.same fun _ _ e=>s _ _ e (.inr ⟨_,rfl⟩)) ih
theorem Hs.but {K:PySem.W.Frag} {C x:Addr} {H H':Hp} {a dx d:Addr} {kvs:List (Key×V)} {m:List (Int×List Hold)} (h:Hs K C H a dx d kvs m) (k:But x H H') {D y:Addr} {g:List (Str×V)} (hx:H x=some (.ins D y g)) (n:g.length≠1):Hs K C H' a dx d kvs m:=by
 refine⟨k _ _ (a8c h.obj hx (fun z=>n z.symm)) h.obj,k _ _ (fun z=>by have:=h.dict;rw[z,hx] at this;cases this) h.dict,h.ent.kept fun b o e q=>k b o (fun z=>?_) e,h.few,h.short,h.keys,h.vals⟩
 rw[z,hx] at e
 cases e
 rcases q with ⟨_,q⟩ | ⟨_,q⟩<;>cases q
theorem Ent.kept2 {H H':Hp} {kvs:List (Key×V)} {m:List (Int×List Hold)} (r:Ent H kvs m):(∀ b xs,H b=some (.tup xs)→H' b=some (.tup xs))→(∀ b vs,H b=some (.lst vs)→V.ref b∈kvs.map (·.2)→H' b=some (.lst vs))→Ent H' kvs m:=by
 induction r with
 | nil=>intro _ _;exact .nil
 | cons h q _ ih=>intro s1 s2;exact .cons (s2 _ _ h (by simp)) (q.same s1) (ih s1 fun b vs e z=>s2 b vs e (List.mem_cons_of_mem _ z))
theorem a3l (T:Tx K mg):a2j P w K mg base (CXW P w) 1 T.a8l T.a8p ["self","number"] (f0o T.a0k T.a0r):=by
 refine b0l T.c0f d0k (fun vs H Q E h=>?_) (fun cdv A outer s H vs Q E hr h=>?_)
 ·obtain⟨h,dx,dl,d,n,us,rfl,_⟩:=h
  rfl
 ·obtain⟨h,dx,dl,d,n,us,rfl,hh,hd,hl,k1,k2⟩:=h
  refine⟨_,(a0e (a2v (PW.pt (e2r (a0y d8s (pv 1) a0n (a1f _)) (d5l (a0y d7x (pv 1) (a0t a2l (by rfl) T.b0z boot_len (a0a (a0i (K:=K) rfl (pv 0) rfl) a0f)) (a1f _)))))
   (a0g (e0s T.c5l rfl a2b))
   a1e)
   (a0g (a0s (a2z a5v (a0i (K:=K) rfl (pv 0) rfl) (a1r e5e (pv 1) a0n) (fun _ _=>rfl))))),?_⟩
  refine⟨_,rfl,_,_,rfl,rfl,_,rfl,a5n (fun e=>?_) (fun e=>?_)⟩
  ·exact d4t (k2 (.inl (of_decide_eq_true e)) _ (Same.refl _))
  ·have e1:¬ n < 1:=fun z=>e (decide_eq_true z)
   refine⟨_,rfl,_,rfl,h,_,dx,_,_,rfl,hh,T.a0j,T.a4k,rfl,?_⟩
   rw[hd]
   refine⟨_,_,rfl,.inl ⟨_,SqL.of hl,rfl⟩,_,_,rfl,rfl,_,rfl,a5n (fun e2=>?_) (fun e2=>?_)⟩
   ·exact k2 (.inr (of_decide_eq_true e2)) _ (Same.refl _)
   ·have e3:¬ (us.length:Int) < n:=fun z=>e2 (decide_eq_true z)
    refine⟨_,rfl,h,_,dx,_,_,rfl,hh,T.a0j,T.a4k,rfl,?_⟩
    refine⟨_,rfl,_,_,rfl,rfl,?_⟩
    rw[hd]
    have hi:(n - 1).toNat < us.length:=by omega
    have en:n - 1=(((n - 1).toNat:Nat):Int):=by omega
    refine⟨dl,_,_,_,rfl,rfl,SqL.of hl,?_,k1 (n - 1).toNat _ (by omega) (List.getElem?_eq_getElem hi)⟩
    have e4:=a0z (xs:=us) (j:=(n - 1).toNat) (List.getElem?_eq_getElem hi)
    exact(congrArg (atI us) en).trans e4
theorem b5p (T:Tx K mg):a2j P w K mg base CX0 1 T.b1y T.b3c ["self","deal","parts"] (f5l T.a0k T.a0m):=by
 refine T.c9d.ok d5s (fun vs H Q E h=>?_) (fun cdv A outer s H vs Q E hr h=>?_)
 ·obtain⟨h,dx,a,ax,t,tl,d,e,ps,rs,rfl,_⟩:=h
  rfl
 ·obtain⟨h,dx,a,ax,t,tl,d,e,ps,rs,rfl,hh,ha,ht,hne,hp,etl,htl,hrs,k⟩:=h
  refine⟨_,(a0g (a2t (e4g PySem.F.plainAttrs_list PySem.F.slot_list_append PySem.F.type_list_append b7t (a0i (K:=K) rfl (pv 0) rfl) (a0a (a1r f3b (a8b (a0a (a0i (K:=K) rfl (pv 0) rfl) (a0a (a0i (K:=K) rfl (pv 1) rfl) a0f))) (pv 2)) a0f)))),?_⟩
  refine⟨_,rfl,h,_,dx,_,_,rfl,hh,T.a0j,T.a1a,rfl,?_⟩
  rw[etl]
  refine⟨.inl ⟨rfl,_,SqL.of htl⟩,?_⟩
  refine⟨_,rfl,h,_,dx,_,_,rfl,hh,T.a0j,T.a1o,rfl,?_⟩
  refine⟨_,rfl,a,_,ax,_,_,rfl,ha,T.a0q,T.a2d,rfl,?_⟩
  refine⟨(by show 2≤sizeLine;decide),fun p hp=>?_⟩
  have s1:=Same.upd (o:=HO.tup [d.st,e.n]) hp
  have z1000:(1002:Nat)≤sizeLine:=by decide
  have z100000:(100000:Nat)≤sizeLine:=by decide
  refine⟨_,rfl,p,t,_,ps,rfl,rfl,SqT.of a0b,SqT.of (s1 _ _ ht),(by simp),(by simp;omega),fun z=>absurd z hne,fun _ r hr2=>?_⟩
  have s2:=s1.trans (Same.upd (o:=HO.tup ([d.st,e.n]++ps)) hr2)
  have htl2:=s2 _ _ htl
  refine⟨tl,rs,.ref r,rfl,rfl,htl2,by omega,fun H' h1 h2=>?_⟩
  have rt:r≠tl:=fun z=>by rw[z,s1 _ _ htl] at hr2;cases hr2
  exact k r H' (s1.free hr2) (h2 _ _ rt a0b) h1 fun b o n e=>h2 b o n (s2 _ _ e)
theorem d8q (T:Tx K mg):a2j P w K mg base CX0 1 T.b7u T.b6g ["self"] (f9v T.a0k):=by
 refine T.d0v.ok d9w (fun vs H Q E h=>?_) (fun cdv A outer s H vs Q E hr h=>?_)
 ·obtain⟨h,dx,tl,d,rs,rfl,_⟩:=h
  rfl
 ·obtain⟨h,dx,tl,d,rs,rfl,hh,etl,htl,k⟩:=h
  refine⟨_,(a0g (a0s (a7s a3z (by rfl) T.b1k boot_list (a0a (a0i (K:=K) rfl (pv 0) rfl) a0f)))),?_⟩
  refine⟨_,rfl,h,_,dx,_,_,rfl,hh,T.a0j,T.a1a,rfl,?_⟩
  rw[etl]
  exact⟨tl,rs,rfl,.inl (SqL.of htl),k⟩
theorem c0u (T:Tx K mg):a2j P w K mg base (CXW P w) 2 T.a9n T.a9r ["self","number"] (f6q T.a0k T.a0m T.a0r DF.ph):=by
 refine b0l T.c4k d2p (fun vs H Q E h=>?_) (fun cdv A outer s H vs Q E hr h=>?_)
 ·obtain⟨h,dx,dl,d,n,us,rfl,_⟩:=h
  rfl
 ·obtain⟨h,dx,dl,d,n,us,rfl,hh,hd,hl,k1,k2⟩:=h
  refine⟨_,(a0g (a0s (a0i (K:=K) rfl (a1q (pv 0) T.a0j T.a2o ((a3l T).mono (by decide)) hr T.a3g .nil (e2f fun _ _ _ z=>z) (a0a (pv 1) a0f)) rfl))),?_⟩
  refine⟨_,rfl,h,dx,_,rfl,hh,rfl,_,rfl,h,dx,dl,d,n,us,rfl,hh,hd,hl,fun i u e1 e2=>?_,k2⟩
  obtain⟨a,ax,e,rfl,ha,q⟩:=k1 i u e1 e2
  exact⟨a,_,ax,_,_,rfl,ha,T.a0q,T.a2k,rfl,q⟩
theorem b8a (T:Tx K mg):a2j P w K mg base (CXW P w) 2 T.a8k T.a8g ["self","number"] (f6q T.a0k T.a0m T.a0r DF.w):=by
 refine b0l T.c0g d0g (fun vs H Q E h=>?_) (fun cdv A outer s H vs Q E hr h=>?_)
 ·obtain⟨h,dx,dl,d,n,us,rfl,_⟩:=h
  rfl
 ·obtain⟨h,dx,dl,d,n,us,rfl,hh,hd,hl,k1,k2⟩:=h
  refine⟨_,(a0g (a0s (a0i (K:=K) rfl (a1q (pv 0) T.a0j T.a2o ((a3l T).mono (by decide)) hr T.a3g .nil (e2f fun _ _ _ z=>z) (a0a (pv 1) a0f)) rfl))),?_⟩
  refine⟨_,rfl,h,dx,_,rfl,hh,rfl,_,rfl,h,dx,dl,d,n,us,rfl,hh,hd,hl,fun i u e1 e2=>?_,k2⟩
  obtain⟨a,ax,e,rfl,ha,q⟩:=k1 i u e1 e2
  exact⟨a,_,ax,_,_,rfl,ha,T.a0q,T.b3t,rfl,q⟩
theorem b1b (T:Tx K mg):a2j P w K mg base (CXW P w) 2 T.a4s T.a4u ["self","number"] (e8x T.a0k T.a0m T.a0r (cO T)):=by
 refine b0l T.b4a c1v (fun vs H Q E h=>?_) (fun cdv A outer s H vs Q E hr h=>?_)
 ·obtain⟨h,dx,dl,d,n,us,rfl,_⟩:=h
  rfl
 ·obtain⟨h,dx,dl,d,n,us,rfl,hh,hd,hl,k1,k2⟩:=h
  refine⟨_,(a0g (a0s (c1n (a0i (K:=K) rfl (a1q (pv 0) T.a0j T.a2o ((a3l T).mono (by decide)) hr T.a3g .nil (e2f fun _ _ _ z=>z) (a0a (pv 1) a0f)) rfl) (e8j T) (hr.mono (by decide))))),?_⟩
  refine⟨_,rfl,h,dx,_,rfl,hh,rfl,_,rfl,h,dx,dl,d,n,us,rfl,hh,hd,hl,fun i u e1 e2=>?_,k2⟩
  obtain⟨a,ax,e,lv,lx,l,rfl,ha,el,hlv,q⟩:=k1 i u e1 e2
  refine⟨a,_,ax,_,_,rfl,ha,T.a0q,T.a3e,rfl,?_⟩
  exact⟨lv,l,lx,_,el,hlv,rfl,_,rfl,q⟩
theorem b8i (T:Tx K mg):a2j P w K mg base (CXW P w) 2 T.a8f T.a8i ["self","number"] (e7e T.a0k T.a0m T.a0r):=by
 refine b0l T.c0y b8c (fun vs H Q E h=>?_) (fun cdv A outer s H vs Q E hr h=>?_)
 ·obtain⟨h,dx,dl,d,n,us,rfl,_⟩:=h
  rfl
 ·obtain⟨h,dx,dl,d,n,us,rfl,hh,hd,hl,k1,k2⟩:=h
  refine⟨_,(a0e (a1s (i:=2) b8c.nd rfl (Or.inl rfl) (a1q (pv 0) T.a0j T.a2o ((a3l T).mono (by decide)) hr T.a3g .nil (e2f fun _ _ _ z=>z) (a0a (pv 1) a0f)))
   (a0e (a2v (a0y d6y (a0i (K:=K) rfl (pv 2) rfl) a2b (a1f _))
   (a0g (a0s (a3k a0f)))
   a1e)
   (a0g (a0s d2v)))),?_⟩
  refine⟨_,rfl,h,dx,_,rfl,hh,rfl,_,rfl,h,dx,dl,d,n,us,rfl,hh,hd,hl,fun i u e1 e2=>?_,k2⟩
  obtain⟨a,ax,e,x,rfl,ha,ep,nx,q⟩:=k1 i u e1 e2
  refine⟨_,rfl,a,_,ax,_,_,rfl,ha,T.a0q,T.a2k,rfl,?_⟩
  rw[ep]
  refine⟨rfl,_,rfl,a5n (fun e=>?_) (fun e=>?_)⟩
  ·exact⟨(by show 0≤sizeLine;decide),q⟩
  ·exact absurd (by rw[decide_eq_false (fun z=>nx (V.str.inj z))];rfl) e
theorem d7j (T:Tx K mg):a2j P w K mg base CX0 5 T.b3b T.b2o ["self","deal","low","high","own"] (f3o K T.a0k T.a0m T.a1d):=by
 refine T.c5r.ok d7c (fun vs H Q E h=>?_) (fun cdv A outer s H vs Q E hr h=>?_)
 ·obtain⟨h,dx,a,ax,ho,hdx,hd,d,e,n,lo,hi,own,kvs,m,rfl,_⟩:=h
  rfl
 ·obtain⟨h,dx,a,ax,ho,hdx,hd,d,e,n,lo,hi,own,kvs,m,rfl,hh,ha,en,eho,hs,h63,h999,hag,k⟩:=h
  refine⟨_,(a0e (a2a (pv 1) (a8b (a0a (pv 2) (a0a (pv 3) (a0a (pv 4) a0f)))) rfl)
   (a0g (a2t (a1q (a0i (K:=K) rfl (pv 0) rfl) T.a8m T.c4m ((d6o T).mono (by decide)) hr T.c6s .nil a1j (a0a (a0i (K:=K) rfl (pv 1) rfl) (a0a (pv 2) (a0a (pv 3) (a0a (pv 4) a0f)))))))),?_⟩
  refine⟨_,rfl,_,rfl,_,rfl,(by show 3≤sizeLine;decide),fun t ht=>?_⟩
  have s1:=Same.upd (o:=HO.tup [.int lo,.int hi,.bl own]) ht
  refine⟨_,rfl,a,_,ax,_,rfl,s1 _ _ ha,T.a0q,T.b0g,(by show 12 < 1000;decide),?_⟩
  have B2:But a H (upd (upd H t (.tup [.int lo,.int hi,.bl own])) a (.ins T.a0m ax {e with wa:=.ref t}.fs)):=(But.of s1).trans But.upd
  have a2:=a0b (H:=upd H t (.tup [.int lo,.int hi,.bl own])) (a:=a) (o:=HO.ins T.a0m ax {e with wa:=.ref t}.fs)
  have f2:∀ l,upd (upd H t (.tup [.int lo,.int hi,.bl own])) a (.ins T.a0m ax {e with wa:=.ref t}.fs) l=none→H l=none:=fun l z=>B2.new a2 z
  rw[show c4u "wanted" (V.ref t) e.fs={e with wa:=.ref t}.fs from rfl]
  generalize upd (upd H t (.tup [.int lo,.int hi,.bl own])) a (.ins T.a0m ax {e with wa:=.ref t}.fs)=H2 at B2 a2 f2 ⊢
  have hha:h≠a:=a8c hh ha (by show ¬ 6=12;decide)
  have hs2:=hs.but B2 ha (by show ¬ 12=1;decide)
  refine⟨_,rfl,h,_,dx,_,_,rfl,B2 _ _ hha hh,T.a0j,T.a7g,rfl,?_⟩
  refine⟨ho,hdx,_,eho,hs2.obj,rfl,_,rfl,a,_,ax,_,_,rfl,a2,T.a0q,T.a2d,rfl,_,rfl,_,rfl,_,rfl,?_⟩
  refine⟨ho,hdx,hd,kvs,m,n,lo,hi,own,?_,hs2,h63,h999,hag,fun H' kvs' q1 q2 q3 q4=>k H2 H' t kvs' B2 a2 q1 q2 (fun l z=>(q3 l z).imp id (f2 l)) fun x z=>f2 x (q4 x z)⟩
  show [d.ho,e.n,V.int lo,V.int hi,V.bl own]=_
  rw[eho,en]
--@STAGE
def e3r (C aN:Addr):Sp:=fun vs H Q _=>∃ (a dx d:Addr) (k:Int),vs=[.ref a,.int k]∧H a=some (.ins C dx [("makes",.ref d)])∧H d=some (.dK [])∧∀ p,H p=none→Q (.ref aN) (upd H p (.lst [.ref aN]))
structure f9x (K:PySem.W.Frag) (CD CH:Addr) (H H':Hp) (a ax dr wr ho hox hd tl r:Addr) (e':DF) (kd kw kvs kvs':List (Key×V)) (m':List (Int×List Hold)) (rs:List V) (row:List V):Prop where
 obj:H' a=some (.ins CD ax e'.fs)
 drf:H' dr=some (.dK kd)
 wrt:H' wr=some (.dK kw)
 hs:Hs K CH H' ho hox hd kvs' m'
 tol:H' tl=some (.lst (rs++[.ref r]))
 rw':H' r=some (.tup row)
 new:H r=none
 fr:∀ b o,H b=some o→b ∉ [a,dr,wr,hd,tl]→V.ref b ∉ kvs.map (·.2)→H' b=some o
 grew:∀ l,V.ref l∈kvs'.map (·.2)→V.ref l∈kvs.map (·.2)∨H l=none
structure f8q (K:PySem.W.Frag) (C CD CS CH:Addr) (cls:Lv→Addr) (H:Hp) (h hx sh sx sd a ax lv lx na dr wr ho hox hd tl q:Addr) (d:HF) (e:DF) (l:Lv) (n bg st k v:Int) (kd kw kvs:List (Key×V)) (m:List (Int×List Hold)) (rs:List V):Prop where
 hou:H h=some (.ins C hx d.fs)
 dsh:d.sh=.ref sh
 dho:d.ho=.ref ho
 dst:d.st=.int st
 dtl:d.tl=.ref tl
 shl:H sh=some (.ins CS sx [("makes",.ref sd)])
 mks:H sd=some (.dK [])
 obj:H a=some (.ins CD ax e.fs)
 en:e.n=.int n
 elv:e.lv=.ref lv
 ena:e.na=.ref na
 edr:e.dr=.ref dr
 ewr:e.wr=.ref wr
 eb:e.b=.int bg
 lev:H lv=some (.ins (cls l) lx [])
 nam:H na=some (.dK [])
 drf:H dr=some (.dK kd)
 wrt:H wr=some (.dK kw)
 hs:Hs K CH H ho hox hd kvs m
 tol:H tl=some (.lst rs)
 ded:H q=some (.tup [.str "put",.int k,.int v])
 late:f7b l bg 0=false
 ag:ags m n k k true=[]
 few:m.length < 63
 shrt:∀ z∈m,z.2.length < 999
 lkd:kd.length < 1000
 lkw:kw.length < 1000
 lrs:rs.length < 100000
 n1:dr≠wr
 n2:dr≠hd
 n3:wr≠hd
 n4:V.ref tl ∉ kvs.map (·.2)
def f0d (K:PySem.W.Frag) (C CD CS CH:Addr) (cls:Lv→Addr):Sp:=fun vs H Q _=>∃ (h hx sh sx sd a ax lv lx na dr wr ho hox hd tl q:Addr) (d:HF) (e:DF) (l:Lv) (n bg st k v:Int) (kd kw kvs:List (Key×V)) (m:List (Int×List Hold)) (rs:List V),vs=[.ref h,.ref a,.ref q] ∧
 f8q K C CD CS CH cls H h hx sh sx sd a ax lv lx na dr wr ho hox hd tl q d e l n bg st k v kd kw kvs m rs ∧
 ∀ H' r t kvs',f9x K CD CH H H' a ax dr wr ho hox hd tl r {e with wa:=.ref t} (b1r kd (Sum.inl k:Key) (.int v)) (b1r kw (Sum.inl k:Key) (.int st)) kvs kvs' (d7y m n (k,k,true)) rs [.int st,.int n,.str "put",.int k,.int v]→Q .non H'
theorem d0j (T:Tx K mg):a2j P w K mg base CX0 1 T.a8h T.a8r ["self","key"] (e3r T.a1t T.a4n):=by
 refine T.c0a.ok b8b (fun vs H Q E h=>?_) (fun cdv A outer s H vs Q E hr h=>?_)
 ·obtain⟨a,dx,d,k,rfl,_⟩:=h
  rfl
 ·obtain⟨a,dx,d,k,rfl,ha,hd,q⟩:=h
  have hu:=c3h hr
  refine⟨_,(a0e (a1s (i:=2) b8b.nd rfl (Or.inl rfl) (e1b hu (a0i (K:=K) rfl (pv 0) rfl) (pv 1) (a3k (a0a (b3k (v:=V.ref T.a4n) rfl T.d5g rfl) a0f)) ⟨rfl,rfl,rfl,rfl⟩))
   (a0g (a0s (a2z a5v (pv 2) (f5o f2j a0n) (fun _ _=>rfl))))),?_⟩
  refine⟨_,rfl,a,_,dx,_,_,rfl,ha,T.b6h,T.a6z,rfl,?_⟩
  refine⟨d,rfl,.inl ⟨[],.inl hd⟩,_,rfl,(by show 1≤sizeLine;decide),fun p hp=>?_⟩
  have s1:=Same.upd (o:=HO.lst [V.ref T.a4n]) hp
  refine⟨_,e8q.k (k:=Sum.inl k) (s1 _ _ hd),?_⟩
  refine⟨_,rfl,?_⟩
  refine⟨1,rfl,p,_,_,_,rfl,rfl,SqL.of a0b,rfl,q p hp⟩
theorem d3w (T:Tx K mg):a2j P w K mg base CX0 6 T.b0c T.b0b ["self","deal","deed"] (f0d K T.a0k T.a0m T.a1t T.a1d (cO T)):=by
 refine T.c3q.ok a8o (fun vs H Q E h=>?_) (fun cdv A outer s H vs Q E hr h=>?_)
 ·obtain⟨h,hx,sh,sx,sd,a,ax,lv,lx,na,dr,wr,ho,hox,hd,tl,q,d,e,l,n,bg,st,k,v,kd,kw,kvs,m,rs,rfl,_⟩:=h
  rfl
 ·obtain⟨h,hx,sh,sx,sd,a,ax,lv,lx,na,dr,wr,ho,hox,hd,tl,q,d,e,l,n,bg,st,k,v,kd,kw,kvs,m,rs,rfl,W,kk⟩:=h
  have hu:=c3h hr
  refine⟨_,(a0e (a1s (i:=3) a8o.nd rfl (Or.inl rfl) (a1b ((c5d T).mono (by decide)) hr rfl T.c6i T.c2s.kp T.c9m .nil a1j (a0a (a2z a3j (pv 2) a0n (fun _ _=>rfl)) (a0a (a0i (K:=K) rfl (pv 1) rfl) a0f))))
   (a0e (a1s (i:=4) a8o.nd rfl (Or.inl rfl) (c5b (a0y c1e (a2z a3j (pv 2) a0n (fun _ _=>rfl)) a2b (a1f _)) (a1b ((c5d T).mono (by decide)) hr rfl T.c6i T.c2s.kp T.c9m .nil a1j (a0a (a2z a3j (pv 2) a0n (fun _ _=>rfl)) (a0a (a0i (K:=K) rfl (pv 1) rfl) a0f))) a4q))
   (a0e (a1s (i:=5) a8o.nd rfl (Or.inl rfl) (a1q (a0i (K:=K) rfl (pv 0) rfl) T.b6h T.b8o ((d0j T).mono (by decide)) hr T.c1m .nil a1j (a0a (pv 3) a0f)))
   (a0e (a2v (a3t (e8s (a0i (K:=K) rfl (pv 1) rfl) (f4n T) (hr.mono (by decide)) (a0a (a0i (K:=K) rfl (pv 1) rfl) (a0a (a2z a3j (pv 5) a0n (fun _ _=>rfl)) a0f))))
   (a0g a4t)
   a1e)
   (a0e (a2t (a1q (pv 0) T.a0j T.c4b ((d7j T).mono (by decide)) hr T.c7u .nil a1j (a0a (pv 1) (a0a (pv 3) (a0a (pv 3) (a0a a9g a0f))))))
   (a0e (a2t (a1q (pv 1) T.a0q T.c4l ((d7h T).mono (by decide)) hr T.d0d .nil a1j (a0a (pv 3) (a0a (pv 4) (a0a (a0i (K:=K) rfl (pv 0) rfl) a0f)))))
   (a0g (a2t (a1q (pv 0) T.a0j T.a9m ((b5p T).mono (by decide)) hr T.b3a .nil a1j (a0a (pv 1) (a0a (a8b (a0a a2b (a0a (pv 3) (a0a (pv 4) a0f)))) a0f))))))))))),?_⟩
  refine⟨_,rfl,q,_,_,_,rfl,rfl,SqT.of W.ded,a0z (j:=1) rfl,?_⟩
  refine⟨_,rfl,a,_,ax,_,_,rfl,W.obj,T.a0q,T.a6b,rfl,?_⟩
  refine⟨.int k,na,[],by show [V.int k,e.na]=_;rw[W.ena],.inl ⟨k,rfl⟩,W.nam,(fun kv hkv=>by cases hkv),?_⟩
  refine⟨_,rfl,q,_,_,_,rfl,rfl,SqT.of W.ded,a0z (j:=0) rfl,rfl,_,rfl,f3c rfl ?_⟩
  refine⟨_,rfl,q,_,_,_,rfl,rfl,SqT.of W.ded,a0z (j:=2) rfl,?_⟩
  refine⟨_,rfl,a,_,ax,_,_,rfl,W.obj,T.a0q,T.a6b,rfl,?_⟩
  refine⟨.int v,na,[],by show [V.int v,e.na]=_;rw[W.ena],.inl ⟨v,rfl⟩,W.nam,(fun kv hkv=>by cases hkv),?_⟩
  refine⟨_,rfl,h,_,hx,_,_,rfl,W.hou,T.a0j,T.a7d,rfl,?_⟩
  refine⟨sh,sx,_,W.dsh,W.shl,rfl,_,rfl,sh,sx,sd,k,by show [d.sh,V.int k]=_;rw[W.dsh],W.shl,W.mks,fun p hp=>?_⟩
  have s1:=Same.upd (o:=HO.lst [V.ref T.a4n]) hp
  have f1:∀ l,upd H p (.lst [V.ref T.a4n]) l=none→H l=none:=fun l z=>s1.free z
  generalize upd H p (.lst [V.ref T.a4n])=H1 at s1 f1 ⊢
  refine⟨_,rfl,a,_,ax,_,_,rfl,s1 _ _ W.obj,T.a0q,T.a3e,rfl,?_⟩
  refine⟨lv,l,lx,_,W.elv,s1 _ _ W.lev,rfl,_,rfl,a,_,ax,_,_,rfl,s1 _ _ W.obj,T.a0q,T.a3d,rfl,?_⟩
  refine⟨_,rfl,T.a4n,_,_,_,rfl,rfl,T.d6i _,a0z (j:=0) rfl,?_⟩
  refine⟨_,bg,0,by show [e.lv,e.b,V.int 0]=[e.lv,.int bg,.int 0];rw[W.eb],?_⟩
  rw[W.late]
  refine⟨_,rfl,d0e ?_⟩
  refine⟨_,rfl,h,hx,_,rfl,s1 _ _ W.hou,rfl,_,rfl,_,rfl,_,rfl,h,hx,a,ax,ho,hox,hd,d,e,n,k,k,true,kvs,m,rfl,s1 _ _ W.hou,s1 _ _ W.obj,W.en,W.dho,W.hs.same s1,W.few,W.shrt,W.ag,fun H2 H3 t kvs' b1 b2 b3 b4 b5 b6=>?_⟩
  have lst:∀ x,V.ref x∈kvs.map (·.2)→∃ us,H x=some (.lst us):=fun x z=>W.hs.ent.tracked z
  have k3:∀ x o,H x=some o→x≠a→x≠hd→V.ref x ∉ kvs.map (·.2)→H3 x=some o:=fun x o e1 n1 n2 n3=>b4 x o (b1 x o n1 (s1 _ _ e1)) n2 n3
  have a3:H3 a=some (.ins T.a0m ax {e with wa:=.ref t}.fs):=b4 a _ b2 (fun z=>by have:=W.hs.dict;rw[←z,W.obj] at this;cases this) fun z=>by
   obtain⟨us,e1⟩:=lst a z
   rw[W.obj] at e1
   cases e1
  have hha:h≠a:=a8c W.hou W.obj (by show ¬ 6=12;decide)
  have h3:H3 h=some (.ins T.a0k hx d.fs):=k3 h _ W.hou hha (fun z=>by have:=W.hs.dict;rw[←z,W.hou] at this;cases this) fun z=>by
   obtain⟨us,e1⟩:=lst h z
   rw[W.hou] at e1
   cases e1
  have dict3:∀ x kx,H x=some (.dK kx)→x≠hd→H3 x=some (.dK kx):=fun x kx e1 n1=>k3 x _ e1 (fun z=>by rw[z,W.obj] at e1;cases e1) n1 fun z=>by
   obtain⟨us,e2⟩:=lst x z
   rw[e1] at e2
   cases e2
  have dr3:=dict3 dr kd W.drf W.n2
  have wr3:=dict3 wr kw W.wrt W.n3
  have tl3:H3 tl=some (.lst rs):=k3 tl _ W.tol (fun z=>by have:=W.tol;rw[z,W.obj] at this;cases this) (fun z=>by have:=W.tol;rw[z,W.hs.dict] at this;cases this) W.n4
  have f3:∀ x,H3 x=none→H x=none:=fun x z=>f1 x (b6 x z)
  refine⟨_,rfl,a,ax,_,rfl,a3,rfl,_,rfl,_,rfl,_,rfl,h,_,hx,_,_,rfl,h3,T.a0j,T.a1o,rfl,?_⟩
  refine⟨a,ax,dr,wr,{e with wa:=.ref t},k,st,.int v,kd,kw,by show [V.ref a,V.int k,V.int v,d.st]=_;rw[W.dst],a3,W.edr,W.ewr,dr3,wr3,W.n1,W.lkd,W.lkw,?_⟩
  have hd3:hd≠dr:=fun z=>W.n2 z.symm
  have wd3:hd≠wr:=fun z=>W.n3 z.symm
  have K4:∀ x o,H3 x=some o→x≠dr→x≠wr→upd (upd H3 dr (.dK (b1r kd (Sum.inl k:Key) (.int v)))) wr (.dK (b1r kw (Sum.inl k:Key) (.int st))) x=some o:=fun x o e1 n1 n2=>by rw[a0d n2,a0d n1];exact e1
  have dr4:upd (upd H3 dr (.dK (b1r kd (Sum.inl k:Key) (.int v)))) wr (.dK (b1r kw (Sum.inl k:Key) (.int st))) dr=some (.dK (b1r kd (Sum.inl k:Key) (.int v))):=by rw[a0d W.n1,a0b]
  have wr4:=a0b (H:=upd H3 dr (.dK (b1r kd (Sum.inl k:Key) (.int v)))) (a:=wr) (o:=HO.dK (b1r kw (Sum.inl k:Key) (.int st)))
  have f4:∀ x,upd (upd H3 dr (.dK (b1r kd (Sum.inl k:Key) (.int v)))) wr (.dK (b1r kw (Sum.inl k:Key) (.int st))) x=none→H x=none:=fun x z=>f3 x (a1i (a1i z))
  generalize upd (upd H3 dr (.dK (b1r kd (Sum.inl k:Key) (.int v)))) wr (.dK (b1r kw (Sum.inl k:Key) (.int st)))=H4 at K4 dr4 wr4 f4 ⊢
  have nd:∀ x o,H3 x=some o→(∀ kx,o≠.dK kx)→H4 x=some o:=fun x o e1 n1=>K4 x o e1 (fun z=>by rw[z,dr3] at e1;cases e1;exact n1 _ rfl) (fun z=>by rw[z,wr3] at e1;cases e1;exact n1 _ rfl)
  have a4:=nd _ _ a3 (fun _ z=>by cases z)
  have h4:=nd _ _ h3 (fun _ z=>by cases z)
  have tl4:=nd _ _ tl3 (fun _ z=>by cases z)
  have hs4:Hs K T.a1d H4 ho hox hd kvs' (d7y m n (k,k,true)):=⟨nd _ _ b3.obj (fun _ z=>by cases z),K4 _ _ b3.dict hd3 wd3,b3.ent.kept fun x o e1 q1=>nd x o e1 fun kx z=>(by rcases q1 with ⟨_,q1⟩ | ⟨_,q1⟩<;>(rw[q1] at z;cases z)),b3.few,b3.short,b3.keys,b3.vals⟩
  refine⟨_,rfl,h,hx,_,rfl,h4,rfl,_,rfl,_,rfl,_,rfl,(by show 3≤sizeLine;decide),fun t2 ht2=>?_⟩
  have s5:=Same.upd (o:=HO.tup [.str "put",.int k,.int v]) ht2
  have t5:=a0b (H:=H4) (a:=t2) (o:=HO.tup [.str "put",.int k,.int v])
  refine⟨h,hx,a,ax,t2,tl,d,{e with wa:=.ref t},[.str "put",.int k,.int v],rs,rfl,s5 _ _ h4,s5 _ _ a4,t5,(by simp),(by show 3 < 1000;decide),W.dtl,s5 _ _ tl4,W.lrs,fun r H6 fr hr6 htl6 B6=>?_⟩
  have nt:∀ x o,H4 x=some o→x≠tl→H6 x=some o:=fun x o e1 n1=>B6 x o n1 (s5 _ _ e1)
  have ntl:∀ x o,H4 x=some o→(∀ us,o≠.lst us)→H6 x=some o:=fun x o e1 n1=>nt x o e1 fun z=>by rw[z,tl4] at e1;cases e1;exact n1 _ rfl
  have tlk:V.ref tl ∉ kvs'.map (·.2):=fun z=>(b5 tl z).elim W.n4 fun y=>by have:=f1 _ y;rw[W.tol] at this;cases this
  refine kk H6 r t kvs' ⟨ntl _ _ a4 (fun _ z=>by cases z),ntl _ _ dr4 (fun _ z=>by cases z),ntl _ _ wr4 (fun _ z=>by cases z),⟨ntl _ _ hs4.obj (fun _ z=>by cases z),ntl _ _ hs4.dict (fun _ z=>by cases z),?_,hs4.few,hs4.short,hs4.keys,hs4.vals⟩,htl6,?_,f4 r (s5.free fr),fun x o e1 n1 n2=>?_,fun l z=>(b5 l z).imp id fun y=>f1 l y⟩
  ·exact hs4.ent.kept2 (fun b xs e1=>ntl b _ e1 (fun _ z=>by cases z)) fun b us e1 z=>nt b _ e1 fun y=>tlk (y ▸ z)
  ·have:d.st::e.n::[V.str "put",V.int k,V.int v]=[.int st,.int n,.str "put",.int k,.int v]:=by rw[W.dst,W.en]
   rw[←this]
   exact hr6
  ·simp only [List.mem_cons,List.not_mem_nil,or_false,not_or] at n1
   exact nt x o (K4 x o (k3 x o e1 n1.1 n1.2.2.2.1 n2) n1.2.1 n1.2.2.1) n1.2.2.2.2
--@STAGE
open Spn
def f7e (C:Addr):Sp:=fun vs H Q _=>∃ (a dx d r:Addr) (st n k:Int) (v:V),vs=[.ref a,.int st,.int n,.ref r]∧H a=some (.ins C dx [("makes",.ref d)])∧H d=some (.dK [])∧Rd H r (.dK [(Sum.inl k,v)])∧r≠d ∧
 ∀ H' ob,H' r=some (.frz ob (.dK [(Sum.inl k,v)]))→(∀ b o,b≠d→b≠r→H b=some o→H' b=some o)→(∀ b,H' b=none→H b=none)→Q .non H'
theorem e2e (r:Spn.Row) (S:List Spn.Row) (h:Up ([]++[r]) S):c8y S r=none:=by
 have e:S=[r]:=List.perm_singleton.mp h.1
 subst e
 have o:a9i r r=none:=by unfold a9i;rw[if_pos rfl]
 unfold c8y
 by_cases w:r.wat=true
 ·simp[w,a9b,c0i,o]
 ·simp[w]
structure f6h (K:PySem.W.Frag) (C CD CS CH P0:Addr) (cls:Lv→Addr) (H:Hp) (h hx sh sx sd sp a ax lv lx lo dr ho hox hd tl:Addr) (d:HF) (e:DF) (l:Lv) (n bg st k v:Int) (kvs:List (Key×V)) (m:List (Int×List Hold)) (rs:List V):Prop where
 hou:H h=some (.ins C hx d.fs)
 dsh:d.sh=.ref sh
 dho:d.ho=.ref ho
 dsp:d.sp=.ref sp
 dst:d.st=.int st
 dtl:d.tl=.ref tl
 shl:H sh=some (.ins CS sx [("makes",.ref sd)])
 mks:H sd=some (.dK [])
 sps:H sp=some (.lst [])
 obj:H a=some (.ins CD ax e.fs)
 en:e.n=.int n
 elv:e.lv=.ref lv
 elo:e.lo=.ref lo
 edr:e.dr=.ref dr
 eb:e.b=.int bg
 lev:H lv=some (.ins (cls l) lx [])
 lok:H lo=some (.lst [])
 drf:H dr=some (.dK [(Sum.inl k,.int v)])
 hs:Hs K CH H ho hox hd kvs m
 tol:H tl=some (.lst rs)
 lrs:rs.length < 100000
 tab:Tb P0 d7s d7g H
 n1:dr≠sd
 n2:hd≠sd
 n3:hd≠dr
 n4:V.ref tl ∉ kvs.map (·.2)
def f6b (K:PySem.W.Frag) (C CD CS CH P0:Addr) (mg:Str→Option Value) (base:Heap) (cls:Lv→Addr):Sp:=fun vs H Q _=>∃ (h hx sh sx sd sp a ax lv lx lo dr ho hox hd tl:Addr) (d:HF) (e:DF) (l:Lv) (n bg st k v:Int) (kvs:List (Key×V)) (m:List (Int×List Hold)) (rs:List V),vs=[.ref h,.ref a]∧base.BuiltinsAt mg P0 ∧
 f6h K C CD CS CH P0 cls H h hx sh sx sd sp a ax lv lx lo dr ho hox hd tl d e l n bg st k v kvs m rs ∧
 ∀ H' r x d',H' h=some (.ins C hx (HF.fs d'))→d'.tl=.ref tl→H' tl=some (.lst (rs++[.ref r]))→H' r=some (.tup [.int st,.int n,.str "kept",x])→(∀ b o,H b=some o→(∀ ps,o≠.tbl ps)→b ∉ [h,a,tl,hd,sd,dr]→V.ref b ∉ kvs.map (·.2)→H' b=some o)→Q .non H'
theorem d8a (T:Tx K mg):a2j P w K mg base CX0 1 T.b6t T.b7n ["self","stamp","dealing","drafts"] (f7e T.a1t):=by
 refine T.d2d.ok b8z (fun vs H Q E h=>?_) (fun cdv A outer s H vs Q E hr h=>?_)
 ·obtain⟨a,dx,d,r,st,n,k,v,rfl,_⟩:=h
  rfl
 ·obtain⟨a,dx,d,r,st,n,k,v,rfl,ha,hd,hrd,rd,kk⟩:=h
  have hu:=c3h hr
  refine⟨_,(a0g (a8d PassesOwn.never rfl (e0c (pv 3)) (e0d rfl (a9x (a1m (i:=4) b8z.nd rfl (Or.inl rfl)) (a9x (a1m (i:=5) b8z.nd rfl (Or.inl rfl)) d4h)))
   (a0g (a2t (e4g PySem.F.plainAttrs_list PySem.F.slot_list_append PySem.F.type_list_append b7t (e6c (a0i (K:=K) rfl (pv 0) rfl) (pv 4) (a3k a0f) ⟨rfl,rfl,rfl,rfl⟩) (a0a (a8b (a0a (pv 1) (a0a (pv 2) (a0a (pv 5) a0f)))) a0f)))))),?_⟩
  have ra:r≠a:=fun z=>by rcases hrd with e | ⟨o,e⟩<;>(rw[z,ha] at e;cases e)
  have ad:a≠d:=fun z=>by rw[z,hd] at ha;cases ha
  refine⟨_,rfl,r,[(Sum.inl k,v)],rfl,hrd,fun ob H1 h1 k1 n1=>?_⟩
  have N1:∀ b,H1 b=none→H b=none:=fun b z=>by
   cases e:H b with
   | none=>rfl
   | some o =>
    by_cases l2:b=r
    ·rw[l2,h1] at z;cases z
    ·rw[k1 b o l2 e] at z;cases z
  refine d5v (d:=r) (ob:=ob) (kvs:=[(Sum.inl k,v)]) (fun i σ H2=>(∃ x2 x3,σ=[some (.ref a),some (.int st),some (.int n),some (.ref r),x2,x3])∧(i=0→H2=H1)∧H2 r=some (.frz ob (.dK [(Sum.inl k,v)]))∧(∀ b o,b≠d→H1 b=some o→H2 b=some o)∧∀ b,H2 b=none→H1 b=none)
   ⟨⟨none,none,rfl⟩,fun _=>rfl,h1,fun b o _ e=>e,fun b z=>z⟩ (fun i σ H2 z=>z.2.2.1) ?_ ?_
  ·rintro i kk2 x σ H2 p hx ⟨⟨x2,x3,rfl⟩,h0,hr2,kp,nn⟩ hp
   have hi:i=0:=by
    have:=(List.getElem?_eq_some_iff.mp hx).1
    simp at this
    exact this
   subst hi
   obtain rfl:=h0 rfl
   cases hx
   refine⟨p,_,rfl,SqT.of a0b,rfl,_,_,rfl,_,_,rfl,rfl,?_⟩
   have sp:=Same.upd (o:=HO.tup [kV (Sum.inl k:Key),v]) hp
   have ha1:=k1 a _ ra.symm ha
   have hd1:=k1 d _ rd.symm hd
   refine⟨_,rfl,a,_,dx,_,_,rfl,sp _ _ ha1,T.b6h,T.a6z,rfl,d,rfl,.inl ⟨[],.inl (sp _ _ hd1)⟩,_,rfl,(by show 0≤sizeLine;decide),fun l0 hl0=>?_⟩
   have s2:=sp.trans (Same.upd (o:=HO.lst []) hl0)
   refine⟨[],Sum.inl k,s2 _ _ hd1,rfl,(by show 0 < sizeLine;decide),(fun v2 hv=>by cases hv),fun _=>?_⟩
   have l0n:H2 l0=none:=sp.free hl0
   have ld:l0≠d:=fun z=>by rw[z,hd1] at l0n;cases l0n
   have lr:l0≠r:=fun z=>by rw[z,h1] at l0n;cases l0n
   have K3:∀ b o,b≠d→H2 b=some o→upd (upd (upd H2 p (.tup [kV (Sum.inl k:Key),v])) l0 (.lst [])) d (.dK (b1r [] (Sum.inl k:Key) (.ref l0))) b=some o:=fun b o n e=>by rw[a0d n];exact s2 _ _ e
   have N3:∀ b,upd (upd (upd H2 p (.tup [kV (Sum.inl k:Key),v])) l0 (.lst [])) d (.dK (b1r [] (Sum.inl k:Key) (.ref l0))) b=none→H2 b=none:=fun b z=>a1i (a1i (a1i z))
   have l3:upd (upd (upd H2 p (.tup [kV (Sum.inl k:Key),v])) l0 (.lst [])) d (.dK (b1r [] (Sum.inl k:Key) (.ref l0))) l0=some (.lst []):=by rw[a0d ld,a0b]
   generalize upd (upd (upd H2 p (.tup [kV (Sum.inl k:Key),v])) l0 (.lst [])) d (.dK (b1r [] (Sum.inl k:Key) (.ref l0)))=H3 at K3 N3 l3 ⊢
   refine⟨.inl ⟨rfl,[],SqL.of l3⟩,_,rfl,_,rfl,_,rfl,(by show 3≤sizeLine;decide),fun t ht=>?_⟩
   have s4:=Same.upd (o:=HO.tup [.int st,.int n,v]) ht
   refine⟨l0,[],.ref t,rfl,rfl,s4 _ _ l3,(by show 0 < sizeLine;decide),fun H5 h5 k5=>?_⟩
   refine⟨⟨_,_,rfl⟩,(fun z=>by cases z),k5 _ _ lr.symm (s4 _ _ (K3 _ _ rd h1)),fun b o n e=>k5 b o (fun z=>by rw[z,l0n] at e;cases e) (s4 _ _ (K3 _ _ n e)),fun b z=>?_⟩
   cases e:H2 b with
   | none=>rfl
   | some o =>
    cases e3:H3 b with
    | none=>rw[N3 b e3] at e;cases e
    | some o3 =>
     by_cases n:b=l0
     ·rw[n,h5] at z;cases z
     ·rw[k5 b o3 n (s4 _ _ e3)] at z;cases z
  ·rintro σ H2 ⟨⟨x2,x3,rfl⟩,_,hr2,kp,nn⟩
   exact kk H2 ob hr2 (fun b o n1' n2 e=>kp b o n1' (k1 b o n2 e)) fun b z=>N1 b (nn b z)
theorem d6j (T:Tx K mg):a2j P w K mg base CX0 8 T.b3p T.b1x ["self","deal"] (f6b K T.a0k T.a0m T.a1t T.a1d T.lp mg base (cO T)):=by
 refine T.c8l.ok d6f (fun vs H Q E h=>?_) (fun cdv A outer s H vs Q E hr h=>?_)
 ·obtain⟨h,hx,sh,sx,sd,sp,a,ax,lv,lx,lo,dr,ho,hox,hd,tl,d,e,l,n,bg,st,k,v,kvs,m,rs,rfl,_⟩:=h
  rfl
 ·obtain⟨h,hx,sh,sx,sd,sp,a,ax,lv,lx,lo,dr,ho,hox,hd,tl,d,e,l,n,bg,st,k,v,kvs,m,rs,rfl,hB,W,kk⟩:=h
  have hu:=c3h hr
  refine⟨_,(a0e (a2a (pv 0) (a1b ((e9h T).mono (by decide)) hr rfl T.e3p T.e0a.kp T.e3o .nil a1j (a0a (a0i (K:=K) rfl (pv 0) rfl) (a0a (a1q (pv 1) T.a0q T.c9y ((d9n T).mono (by decide)) hr T.d2c .nil a1j (a0a (a0i (K:=K) rfl (pv 0) rfl) a0f)) a0f))) rfl)
   (a0e (a2t (a1q (a0i (K:=K) rfl (pv 0) rfl) T.b6h T.c6g ((d8a T).mono (by decide)) hr T.d1v .nil a1j (a0a (a0i (K:=K) rfl (pv 0) rfl) (a0a (a0i (K:=K) rfl (pv 1) rfl) (a0a (a0i (K:=K) rfl (pv 1) rfl) a0f)))))
   (a0e (a2t (a1q (a0i (K:=K) rfl (pv 0) rfl) T.a8m T.c3y ((d4w T).mono (by decide)) hr T.c6v .nil a1j (a0a (a0i (K:=K) rfl (pv 1) rfl) a0f)))
   (a0e (a2t (a1q (pv 1) T.a0q T.c0h ((d4l T).mono (by decide)) hr T.c3j .nil a1j (a0a a2b (a0a a4q a0f))))
   (a0g (a2t (a1q (pv 0) T.a0j T.a9m ((b5p T).mono (by decide)) hr T.b3a .nil a1j (a0a (pv 1) (a0a (a8b (a0a a2b (a0a (a7s d4e (by rfl) T.b9i boot_tuple (a0a (b1l ["key"] rfl (a4o.mk (fv:=["deal"]) (js:=[1]) rfl (by decide +kernel) (by decide +kernel) (by decide +kernel) (a3s (Or.inl rfl) a7a) rfl (by decide +kernel)) (a3a (a0t (d5f rfl) (by rfl) T.a9o boot_sorted (a0a (a0i (K:=K) rfl (pv 1) rfl) a0f))) (fun _ _ _ _ _=>(a1m (i:=0) (show (["key","deal"]:List Str).Nodup by decide +kernel) rfl (Or.inl rfl))) (fun _ _ _ _ _=>d1u) (fun _ _ _ _ _=>(a8b (a0a (pv 0) (a0a (e4n hu (a0i (K:=K) rfl (pv 1) rfl) (pv 0) (fun _ _=>rfl)) a0f))))) a0f)) a0f))) a0f))))))))),?_⟩
  refine⟨_,rfl,h,_,hx,_,_,rfl,W.hou,T.a0j,T.a4j,rfl,?_⟩
  refine⟨_,rfl,a,ax,_,rfl,W.obj,rfl,_,rfl,h,_,hx,_,_,rfl,W.hou,T.a0j,T.a1o,rfl,?_⟩
  refine⟨a,ax,lv,lx,lo,dr,e,l,n,bg,st,k,.int v,by show [V.ref a,d.st]=_;rw[W.dst],W.obj,W.en,W.elv,W.lev,W.eb,W.elo,W.lok,W.edr,W.drf,fun y la pa H1 s1 f1 f2 sp1=>?_⟩
  refine⟨sp,y,[],[],⟨n,f4i l,bg,st,[],[k]⟩,by show [d.sp,y]=_;rw[W.dsp],hB,s1 _ _ W.sps,.nil,⟨la,pa,sp1⟩,(by show 0 < 62;decide),c2h W.tab s1,e2e _,fun H2 S p k2 hT2 up _ fr hp2=>?_⟩
  have K2:∀ b o,H b=some o→(∀ ps,o≠.tbl ps)→H2 b=some o:=fun b o eb nt=>k2 b o nt (s1 _ _ eb)
  have hha:h≠a:=a8c W.hou W.obj (by show ¬ 6=12;decide)
  refine⟨_,rfl,h,_,hx,_,rfl,K2 _ _ W.hou (fun _ z=>by cases z),T.a0j,T.a4j,(by show 6 < 1000;decide),?_⟩
  have h3:=a0b (H:=H2) (a:=h) (o:=HO.ins T.a0k hx {d with sp:=.ref p}.fs)
  have K3:∀ b o,H b=some o→(∀ ps,o≠.tbl ps)→b≠h→upd H2 h (.ins T.a0k hx {d with sp:=.ref p}.fs) b=some o:=fun b o eb nt n1=>by rw[a0d n1];exact K2 b o eb nt
  rw[show c4u "spans" (V.ref p) d.fs={d with sp:=.ref p}.fs from rfl]
  generalize upd H2 h (.ins T.a0k hx {d with sp:=.ref p}.fs)=H3 at h3 K3 ⊢
  have notH:∀ b o,H b=some o→(∀ C y fs,o≠.ins C y fs)→b≠h:=fun b o eb n1 z=>by rw[z,W.hou] at eb;cases eb;exact n1 _ _ _ rfl
  have sh3:=K3 _ _ W.shl (fun _ z=>by cases z) (a8c W.shl W.hou (by show ¬ 1=6;decide))
  have sd3:=K3 _ _ W.mks (fun _ z=>by cases z) (notH _ _ W.mks (fun _ _ _ z=>by cases z))
  have dr3:=K3 _ _ W.drf (fun _ z=>by cases z) (notH _ _ W.drf (fun _ _ _ z=>by cases z))
  have a3:=K3 _ _ W.obj (fun _ z=>by cases z) hha.symm
  refine⟨_,rfl,h,_,hx,_,_,rfl,h3,T.a0j,T.a7d,rfl,?_⟩
  refine⟨sh,sx,_,W.dsh,sh3,rfl,_,rfl,h,_,hx,_,_,rfl,h3,T.a0j,T.a1o,rfl,_,rfl,a,_,ax,_,_,rfl,a3,T.a0q,T.a2d,rfl,_,rfl,a,_,ax,_,_,rfl,a3,T.a0q,T.a2e,rfl,?_⟩
  refine⟨sh,sx,sd,dr,st,n,k,.int v,by show [d.sh,d.st,e.n,e.dr]=_;rw[W.dsh,W.dst,W.en,W.edr],sh3,sd3,.inl dr3,W.n1,fun H4 ob dr4 fr4 nn4=>?_⟩
  have K4:∀ b o,H b=some o→(∀ ps,o≠.tbl ps)→b≠h→b≠sd→b≠dr→H4 b=some o:=fun b o eb nt n1 n2 n3=>fr4 b o n2 n3 (K3 b o eb nt n1)
  have nD:∀ b o,H b=some o→(∀ kx,o≠.dK kx)→b≠sd∧b≠dr:=fun b o eb n1=>⟨fun z=>by rw[z,W.mks] at eb;cases eb;exact n1 _ rfl,fun z=>by rw[z,W.drf] at eb;cases eb;exact n1 _ rfl⟩
  have h4:H4 h=some (.ins T.a0k hx {d with sp:=.ref p}.fs):=fr4 _ _ (fun z=>by rw[z,sd3] at h3;cases h3) (fun z=>by rw[z,dr3] at h3;cases h3) h3
  have a4:=K4 _ _ W.obj (fun _ z=>by cases z) hha.symm (nD _ _ W.obj (fun _ z=>by cases z)).1 (nD _ _ W.obj (fun _ z=>by cases z)).2
  have hs4:Hs K T.a1d H4 ho hox hd kvs m:=by
   refine⟨K4 _ _ W.hs.obj (fun _ z=>by cases z) (a8c W.hs.obj W.hou (by show ¬ 1=6;decide)) (nD _ _ W.hs.obj (fun _ z=>by cases z)).1 (nD _ _ W.hs.obj (fun _ z=>by cases z)).2,K4 _ _ W.hs.dict (fun _ z=>by cases z) (notH _ _ W.hs.dict (fun _ _ _ z=>by cases z)) W.n2 W.n3,W.hs.ent.kept fun b o eb q=>?_,W.hs.few,W.hs.short,W.hs.keys,W.hs.vals⟩
   have n1:∀ kx,o≠.dK kx:=fun kx z=>by rcases q with ⟨_,q⟩ | ⟨_,q⟩<;>(rw[q] at z;cases z)
   exact K4 b o eb (fun ps z=>by rcases q with ⟨_,q⟩ | ⟨_,q⟩<;>(rw[q] at z;cases z)) (notH b o eb fun _ _ _ z=>by rcases q with ⟨_,q⟩ | ⟨_,q⟩<;>(rw[q] at z;cases z)) (nD b o eb n1).1 (nD b o eb n1).2
  refine⟨_,rfl,h,_,hx,_,_,rfl,h4,T.a0j,T.a7g,rfl,?_⟩
  refine⟨ho,hox,_,W.dho,hs4.obj,rfl,_,rfl,a,_,ax,_,_,rfl,a4,T.a0q,T.a2d,rfl,?_⟩
  refine⟨ho,hox,hd,kvs,m,n,by show [d.ho,e.n]=_;rw[W.dho,W.en],hs4,fun H5 kvs' hs5 lf5 _=>?_⟩
  have lst:∀ x,V.ref x∈kvs.map (·.2)→∃ us,H4 x=some (.lst us):=fun x z=>hs4.ent.tracked z
  have k5:∀ b o,H4 b=some o→(∀ us,o≠.lst us)→(∀ kx,o≠.dK kx)→H5 b=some o:=fun b o eb n1 n2=>lf5 b o eb (fun z=>by rw[z,hs4.dict] at eb;cases eb;exact n2 _ rfl) fun z=>by
   obtain⟨us,e2⟩:=lst b z
   rw[eb] at e2
   cases e2
   exact n1 _ rfl
  have h5:=k5 _ _ h4 (fun _ z=>by cases z) (fun _ z=>by cases z)
  have a5:=k5 _ _ a4 (fun _ z=>by cases z) (fun _ z=>by cases z)
  have dr5:=k5 _ _ dr4 (fun _ z=>by cases z) (fun _ z=>by cases z)
  refine⟨_,rfl,a,ax,_,rfl,a5,rfl,a,ax,e,"kept",.non,rfl,a5,?_⟩
  have B6:But a H5 (upd H5 a (.ins T.a0m ax {e with ph:=.str "kept",w:=.non}.fs)):=But.upd
  have a6:=a0b (H:=H5) (a:=a) (o:=HO.ins T.a0m ax {e with ph:=.str "kept",w:=.non}.fs)
  generalize upd H5 a (.ins T.a0m ax {e with ph:=.str "kept",w:=.non}.fs)=H6 at B6 a6 ⊢
  have h6:=B6 _ _ hha h5
  have dr6:=B6 _ _ (fun z=>by rw[z,a5] at dr5;cases dr5) dr5
  have K6:∀ b o,H b=some o→(∀ ps,o≠.tbl ps)→b ∉ [h,a,hd,sd,dr]→V.ref b ∉ kvs.map (·.2)→H6 b=some o:=fun b o eb nt nm nk=>by
   simp only [List.mem_cons,List.not_mem_nil,or_false,not_or] at nm
   exact B6 _ _ nm.2.1 (lf5 _ _ (K4 b o eb nt nm.1 nm.2.2.2.1 nm.2.2.2.2) nm.2.2.1 nk)
  have tl6:H6 tl=some (.lst rs):=K6 _ _ W.tol (fun _ z=>by cases z) (by
   simp only [List.mem_cons,List.not_mem_nil,or_false,not_or]
   refine⟨notH _ _ W.tol (fun _ _ _ z=>by cases z),fun z=>?_,fun z=>?_,(nD _ _ W.tol (fun _ z=>by cases z)).1,(nD _ _ W.tol (fun _ z=>by cases z)).2⟩
   ·have:=W.tol;rw[z,W.obj] at this;cases this
   ·have:=W.tol;rw[z,W.hs.dict] at this;cases this) W.n4
  refine⟨_,rfl,h,hx,_,rfl,h6,rfl,_,rfl,?_⟩
  refine⟨_,rfl,a,_,ax,_,_,rfl,a6,T.a0q,T.a2e,rfl,?_⟩
  refine⟨dr,[(Sum.inl k,.int v)],[k],by show [e.dr]=_;rw[W.edr],.inr ⟨ob,dr6⟩,rfl,(by show 1 < 64;decide),fun p7 hp7=>?_⟩
  rw[e5u]
  have s7:=Same.upd (o:=HO.lst ([k].map V.int)) hp7
  have p7l:=a0b (H:=H6) (a:=p7) (o:=HO.lst ([k].map V.int))
  generalize upd H6 p7 (.lst ([k].map V.int))=H7 at s7 p7l ⊢
  refine⟨p7,rfl,⟨_,SqL.of p7l⟩,?_⟩
  refine d8l (k:=1) (fs:=[some (.ref a)]) 1 (fun _ _=>True) rfl (by show 1≤sizeLine;decide) (fun i H2 ss hi=>(a1g (SqL.of (ss _ _ p7l))).go i (by simpa using hi)) (fun H2 ss=>(a1g (SqL.of (ss _ _ p7l))).stop _ (by simp)) ?_ ?_
  ·rintro i H8 ts u H9 R ss hi hts ⟨rfl,hy⟩ cb
   obtain⟨t,rfl⟩:=List.length_eq_one_iff.mp hts
   have ev:=hy _ (SqL.of (ss _ _ p7l))
   have i0:i=0:=by omega
   subst i0
   cases ev
   have dv:some (V.int v)=b7j [((Sum.inl k:Key),V.int v)] (Sum.inl k):=by simp[b7j]
   refine⟨_,rfl,_,rfl,a,_,ax,_,_,rfl,ss _ _ (s7 _ _ a6),T.a0q,T.a2e,rfl,_,rfl,dr,.int v,W.edr,.inl ⟨[(Sum.inl k,.int v)],Sum.inl k,.inr ⟨ob,ss _ _ (s7 _ _ dr6)⟩,rfl,dv⟩,(by show 2≤sizeLine;decide),fun t2 ht2=>?_⟩
   exact cb _ [_] _ trivial rfl (Same.upd ht2)
  ·intro D H8 ys hD s8 hyl _ hDl
   refine⟨D,ys,rfl,.inl ⟨SqL.of hDl,fun tt htt=>?_⟩⟩
   have s9:=(s7.trans s8).trans (Same.upd (o:=HO.tup ys) htt)
   generalize upd H8 tt (.tup ys)=H9 at s9 ⊢
   refine⟨(by show 2≤sizeLine;decide),fun t2 ht2=>?_⟩
   have s10:=s9.trans (Same.upd (o:=HO.tup [.str "kept",.ref tt]) ht2)
   have t10:=a0b (H:=H9) (a:=t2) (o:=HO.tup [.str "kept",.ref tt])
   generalize upd H9 t2 (.tup [.str "kept",.ref tt])=H10 at s10 t10 ⊢
   refine⟨h,hx,a,ax,t2,tl,{d with sp:=.ref p},{e with ph:=.str "kept",w:=.non},[.str "kept",.ref tt],rs,rfl,s10 _ _ h6,s10 _ _ a6,t10,(by simp),(by show 2 < 1000;decide),W.dtl,s10 _ _ tl6,W.lrs,fun r H11 fr11 hr11 htl11 B11=>?_⟩
   have htl:h≠tl:=fun z=>by have:=W.tol;rw[←z,W.hou] at this;cases this
   refine kk H11 r (.ref tt) {d with sp:=.ref p} (B11 _ _ htl (s10 _ _ h6)) W.dtl htl11 ?_ fun b o eb nt nm nk=>?_
   ·have:d.st::e.n::[V.str "kept",.ref tt]=[.int st,.int n,.str "kept",.ref tt]:=by rw[W.dst,W.en]
    rw[←this]
    exact hr11
   ·simp only [List.mem_cons,List.not_mem_nil,or_false,not_or] at nm
    exact B11 _ _ nm.2.2.1 (s10 _ _ (K6 b o eb nt (by simp only [List.mem_cons,List.not_mem_nil,or_false,not_or];exact⟨nm.1,nm.2.1,nm.2.2.2.1,nm.2.2.2.2.1,nm.2.2.2.2.2⟩) nk))
--@STAGE
structure DS where
 lv:Lv
 ds:List V
 k:Int
 v:Int
 bg:Option Int
structure DA where
 a:Addr
 ax:Addr
 lv:Addr
 lx:Addr
 de:Addr
 na:Addr
 dr:Addr
 wr:Addr
 lo:Addr
 wa:V
def d6k (x:DA) (i:Int) (s:DS):DF:=match s.bg with
 | none=>c9o i x.lv x.de x.na x.dr x.wr x.lo
 | some st=>⟨.int i,.ref x.lv,.ref x.de,.int 1,.ref x.na,.str "going",.int st,.non,x.wa,.ref x.dr,.ref x.wr,.ref x.lo⟩
def f8k (s:DS):List (Key×V):=match s.bg with
 | none=>[]
 | some _=>[(Sum.inl s.k,.int s.v)]
def g0a (s:DS):List (Key×V):=match s.bg with
 | none=>[]
 | some st=>[(Sum.inl s.k,.int st)]
structure c5t (C:Addr) (cls:Lv→Addr) (H:Hp) (x:DA) (i:Int) (s:DS):Prop where
 obj:H x.a=some (.ins C x.ax (d6k x i s).fs)
 lev:H x.lv=some (.ins (cls s.lv) x.lx [])
 dee:H x.de=some (.lst s.ds)
 nam:H x.na=some (.dK [])
 drf:H x.dr=some (.dK (f8k s))
 wrt:H x.wr=some (.dK (g0a s))
 lok:H x.lo=some (.lst [])
theorem c5t.same {C:Addr} {cls:Lv→Addr} {H H':Hp} {x:DA} {i:Int} {s:DS} (h:c5t C cls H x i s) (k:Same H H'):c5t C cls H' x i s:=⟨k _ _ h.obj,k _ _ h.lev,k _ _ h.dee,k _ _ h.nam,k _ _ h.drf,k _ _ h.wrt,k _ _ h.lok⟩
structure HA where
 h:Addr
 hx:Addr
 sh:Addr
 sx:Addr
 sd:Addr
 ho:Addr
 hox:Addr
 hd:Addr
 dl:Addr
 sp:Addr
 tl:Addr
def a4d (d:DA):List Addr:=[d.a,d.dr,d.wr]
def b0x (d:DA):List Addr:=[d.de,d.na,d.lo]
def a3q (x:HA) (ls:List Addr) (xs:List DA):List Addr:=x.h::x.tl::x.hd::(ls++xs.flatMap a4d)
def a5l (x:HA) (xs:List DA):List Addr:=x.sd::x.dl::x.sp::xs.flatMap b0x
def b7x (x:HA) (st:Int):HF:=⟨.ref x.sh,.ref x.ho,.ref x.dl,.ref x.sp,.int st,.ref x.tl⟩
structure b2w (K:PySem.W.Frag) (C CD CS CH:Addr) (cls:Lv→Addr) (H:Hp) (x:HA) (ls:List Addr) (xs:List DA) (ss:List DS) (st:Int) (told:List V) (m:List (Int×List Hold)):Prop where
 obj:H x.h=some (.ins C x.hx (b7x x st).fs)
 shl:H x.sh=some (.ins CS x.sx [("makes",.ref x.sd)])
 mks:H x.sd=some (.dK [])
 hs:∃ kvs,Hs K CH H x.ho x.hox x.hd kvs m∧kvs.map (·.2)=ls.map V.ref
 dls:H x.dl=some (.lst (xs.map fun d=>V.ref d.a))
 len:xs.length=ss.length
 each:∀ (i:Nat) d s,xs[i]?=some d→ss[i]?=some s→c5t CD cls H d ((i:Int)+1) s
 sps:H x.sp=some (.lst [])
 tol:H x.tl=some (.lst told)
 nd:(a3q x ls xs).Nodup
 dis:∀ b∈a5l x xs,b ∉ a3q x ls xs
def f0g (C:Addr):Sp:=fun vs H Q _=>∃ (a dx r:Addr),vs=[.ref a,.ref r]∧H a=some (.ins C dx [])∧H r=some (.dK [])∧∀ H' d,H d=none→H' a=some (.ins C dx [("makes",.ref d)])→H' d=some (.dK [])→(∀ b o,b≠a→b≠r→H b=some o→H' b=some o)→(∀ b,H' b=none→H b=none)→Q .non H'
def PrA (H:Hp) (v:V) (x:Str) (xs:List V):Prop:=∃ t dl,v=.ref t∧H t=some (.tup [.str x,.ref dl])∧H dl=some (.lst xs)∧x.length≤600∧∀ c∈x.cps.toList,c < 16 ^ 8
def c1s (xs:List DA):List Addr:=xs.flatMap fun d=>a4d d++b0x d
structure e8v (C:Addr) (cls:Lv→Addr) (B:Hp) (ss:List DS) (i:Nat) (ys:List V) (H:Hp) (xs:List DA):Prop where
 len:xs.length=i
 ys:ys=xs.map fun d=>V.ref d.a
 each:∀ (j:Nat) d s,xs[j]?=some d→ss[j]?=some s→c5t C cls H d ((j:Int)+1) s
 new:∀ b∈c1s xs,B b=none
 nd:(c1s xs).Nodup
 there:∀ b∈c1s xs,H b≠none
def fresh (ss:List DS):Prop:=∀ s∈ss,s.bg=none
def f2u (K:PySem.W.Frag) (C CD CS CH N:Addr) (cls:Lv→Addr):Sp:=fun vs H Q E=>∃ (h hx r pr:Addr) (us:List V) (ws:List (Str×List V)),vs=[.ref h,.ref r,.ref pr]∧H h=some (.ins C hx [])∧H r=some (.dK [])∧H pr=some (.lst us)∧us.length=ws.length∧us.length < 60∧(∀ (i:Nat) u q,us[i]?=some u→ws[i]?=some q→PrA H u q.1 q.2) ∧
  ((∃ ss:List DS,fresh ss∧ss.length=ws.length∧(∀ (i:Nat) s q,ss[i]?=some s→ws[i]?=some q→q.1=wd s.lv∧q.2=s.ds)∧∀ H' x xs,x.h=h→b2w K C CD CS CH cls H' x [] xs ss 0 [] []→(∀ b o,b≠h→b≠r→H b=some o→H' b=some o)→(∀ b∈a3q x [] xs,b=h∨H b=none)→(∀ b∈a5l x xs,H b=none)→Q .non H') ∨
   (∃ (i:Nat) (q:Str×List V),ws[i]?=some q∧(∀ l,q.1≠wd l)∧(∀ (j:Nat) p,j < i→ws[j]?=some p→∃ l,p.1=wd l)∧∀ H',(∀ b o,b≠h→b≠r→H b=some o→H' b=some o)→E (.ref N) none H'))
theorem c2t {xs:List DA} {d:DA}:c1s (xs++[d])=c1s xs++(a4d d++b0x d):=by simp[c1s]
theorem e8v.snoc {C:Addr} {cls:Lv→Addr} {B:Hp} {ss:List DS} {i:Nat} {ys:List V} {D:Addr} {H G H3:Hp} {xs:List DA} {us:List V} {s:DS} {d:DA} (h:e8v C cls B ss i ys (del H D) xs) (hD:H D=some (.lst us)) (s1:∀ b o,H b=some o→G b=some o) (b0:Same B H)
  (a0:H d.a=none) (ga:∃ o,G d.a=some o) (s3:Same H H3) (hs:ss[i]?=some s) (ok:c5t C cls H3 d ((i:Int)+1) s) (g1:G d.de=none) (g2:G d.na=none) (g3:G d.dr=none) (g4:G d.wr=none) (g5:G d.lo=none) (nd3:[d.na,d.dr,d.wr].Nodup) (n4:d.de≠d.lo) :
  e8v C cls B ss (i+1) (ys++[.ref d.a]) (del H3 D) (xs++[d]):=by
 have gD:=s1 _ _ hD
 have neD:∀ b,G b=none→b≠D:=fun b e z=>by rw[z,gD] at e;cases e
 have aD:d.a≠D:=fun z=>by rw[z,hD] at a0;cases a0
 have lD:d.lv≠D:=fun z=>by have:=ok.lev;rw[z,s3 _ _ hD] at this;cases this
 have fre:∀ b,G b=none→H b=none:=fun b e=>by
  cases q:H b with
  | none=>rfl
  | some o=>rw[s1 b o q] at e;cases e
 have newB:∀ b∈a4d d++b0x d,H b=none∧b≠D∧H3 b≠none:=by
  intro b hb
  simp only [a4d,b0x,List.cons_append,List.nil_append,List.mem_cons,List.not_mem_nil,or_false] at hb
  rcases hb with rfl | rfl | rfl | rfl | rfl | rfl
  ·exact⟨a0,aD,by rw[ok.obj];simp⟩
  ·exact⟨fre _ g3,neD _ g3,by rw[ok.drf];simp⟩
  ·exact⟨fre _ g4,neD _ g4,by rw[ok.wrt];simp⟩
  ·exact⟨fre _ g1,neD _ g1,by rw[ok.dee];simp⟩
  ·exact⟨fre _ g2,neD _ g2,by rw[ok.nam];simp⟩
  ·exact⟨fre _ g5,neD _ g5,by rw[ok.lok];simp⟩
 refine⟨by simp[h.len],by rw[h.ys];simp,fun j d' s' e1 e2=>?_,fun b hb=>?_,?_,fun b hb=>?_⟩
 ·rcases Nat.lt_or_ge j xs.length with q | q
  ·rw[List.getElem?_append_left q] at e1
   exact(h.each j d' s' e1 e2).same (Same.del s3 D)
  ·rw[List.getElem?_append_right q] at e1
   have ej:j=xs.length:=by
    have:=(List.getElem?_eq_some_iff.mp e1).1
    simp at this
    omega
   subst ej
   rw[Nat.sub_self] at e1
   cases e1
   rw[h.len] at e2 ⊢
   rw[hs] at e2
   cases e2
   exact⟨by rw[a5x aD];exact ok.obj,by rw[a5x lD];exact ok.lev,by rw[a5x (neD _ g1)];exact ok.dee,by rw[a5x (neD _ g2)];exact ok.nam,by rw[a5x (neD _ g3)];exact ok.drf,by rw[a5x (neD _ g4)];exact ok.wrt,by rw[a5x (neD _ g5)];exact ok.lok⟩
 ·rw[c2t] at hb
  rcases List.mem_append.mp hb with z | z
  ·exact h.new b z
  ·exact b0.free (newB b z).1
 ·rw[c2t,List.nodup_append]
  refine⟨h.nd,?_,fun b hb c hc z=>?_⟩
  ·obtain⟨o,ga⟩:=ga
   have na:∀ b,G b=none→d.a≠b:=fun b e z=>by rw[←z,ga] at e;cases e
   simp only [List.nodup_cons,List.mem_cons,List.not_mem_nil,or_false,not_or,not_false_eq_true,List.nodup_nil,and_true] at nd3
   have k1:d.de≠d.dr:=fun z=>by have:=ok.dee;rw[z,ok.drf] at this;cases this
   have k2:d.de≠d.wr:=fun z=>by have:=ok.dee;rw[z,ok.wrt] at this;cases this
   have k3:d.de≠d.na:=fun z=>by have:=ok.dee;rw[z,ok.nam] at this;cases this
   have k4:d.lo≠d.dr:=fun z=>by have:=ok.lok;rw[z,ok.drf] at this;cases this
   have k5:d.lo≠d.wr:=fun z=>by have:=ok.lok;rw[z,ok.wrt] at this;cases this
   have k6:d.lo≠d.na:=fun z=>by have:=ok.lok;rw[z,ok.nam] at this;cases this
   simp only [a4d,b0x,List.cons_append,List.nil_append,List.nodup_cons,List.mem_cons,List.not_mem_nil,or_false,not_or,not_false_eq_true,List.nodup_nil,and_true]
   exact⟨⟨na _ g3,na _ g4,na _ g1,na _ g2,na _ g5⟩,⟨nd3.2,fun z=>k1 z.symm,fun z=>nd3.1.1 z.symm,fun z=>k4 z.symm⟩,⟨fun z=>k2 z.symm,fun z=>nd3.1.2 z.symm,fun z=>k5 z.symm⟩,⟨k3,n4⟩,fun z=>k6 z.symm⟩
  ·subst z
   have e1:=h.there b hb
   have e2:=(newB b hc)
   rw[a5x e2.2.1,e2.1] at e1
   exact e1 rfl
 ·rw[c2t] at hb
  rcases List.mem_append.mp hb with z | z
  ·have e1:=h.there b z
   cases q:del H D b with
   | none=>exact absurd q e1
   | some o=>rw[Same.del s3 D b o q];simp
  ·rw[a5x (newB b z).2.1];exact(newB b z).2.2
theorem b2g {xs:List DA} {b:Addr} (h:b∈xs.flatMap a4d):b∈c1s xs:=by
 obtain⟨d,hd,hb⟩:=List.mem_flatMap.mp h
 exact List.mem_flatMap.mpr ⟨d,hd,List.mem_append_left _ hb⟩
theorem c6o {xs:List DA} {b:Addr} (h:b∈xs.flatMap b0x):b∈c1s xs:=by
 obtain⟨d,hd,hb⟩:=List.mem_flatMap.mp h
 exact List.mem_flatMap.mpr ⟨d,hd,List.mem_append_right _ hb⟩
theorem f1x:∀ {xs:List DA},(c1s xs).Nodup→(xs.flatMap a4d).Nodup∧∀ b∈xs.flatMap b0x,b ∉ xs.flatMap a4d
 | [],_=>⟨.nil,fun b hb=>by cases hb⟩
 | d::xs,h=>by
  have e:c1s (d::xs)=(a4d d++b0x d)++c1s xs:=rfl
  rw[e,List.nodup_append] at h
  obtain⟨h1,h2,h3⟩:=h
  rw[List.nodup_append] at h1
  obtain⟨m1,m2,m3⟩:=h1
  obtain⟨i1,i2⟩:=f1x h2
  have c1:(d::xs).flatMap a4d=a4d d++xs.flatMap a4d:=rfl
  have c2:(d::xs).flatMap b0x=b0x d++xs.flatMap b0x:=rfl
  rw[c1,c2,List.nodup_append]
  refine⟨⟨m1,i1,fun a ha b hb z=>h3 a (List.mem_append_left _ ha) b (b2g hb) z⟩,fun b hb hc=>?_⟩
  rcases List.mem_append.mp hb with y | y<;>rcases List.mem_append.mp hc with z | z
  ·exact m3 b z b y rfl
  ·exact h3 b (List.mem_append_right _ y) b (b2g z) rfl
  ·exact h3 b (List.mem_append_left _ z) b (c6o y) rfl
  ·exact i2 b y z
theorem d5q (T:Tx K mg):a2j P w K mg base CX0 1 T.b2x T.b2s ["self","rows"] (f0g T.a1t):=by
 refine T.c8e.ok b4q (fun vs H Q E h=>?_) (fun cdv A outer s H vs Q E hr h=>?_)
 ·obtain⟨a,dx,r,rfl,_⟩:=h
  rfl
 ·obtain⟨a,dx,r,rfl,ha,hrd,k⟩:=h
  have hu:=c3h hr
  refine⟨_,(a0e (a2a (pv 0) b1s rfl)
   (a0g (a8d PassesOwn.never rfl (e0c (pv 1)) (e0d rfl (a9x (a1m (i:=2) b4q.nd rfl (Or.inl rfl)) (a9x (a1m (i:=3) b4q.nd rfl (Or.inl rfl)) d4h)))
   (a0g (d9m hu (a0i (K:=K) rfl (pv 0) rfl) (pv 2) (a3k (a0a (a8b (a0a a0n (a0a (b3k (v:=V.int (0)) rfl T.e5z ⟨_,rfl⟩) (a0a (pv 3) a0f)))) a0f)) rfl))))),?_⟩
  intro d hd
  have ad:a≠d:=fun z=>by rw[z,hd] at ha;cases ha
  refine⟨_,rfl,a,_,dx,[],rfl,(by rw[a0d ad];exact ha),T.b6h,T.a6z,(by show 0 < 1000;decide),?_⟩
  have rd:r≠d:=fun z=>by rw[z,hd] at hrd;cases hrd
  have ra:r≠a:=fun z=>by rw[z,ha] at hrd;cases hrd
  have kp0:∀ b o,H b=some o→b≠a→upd (upd H d (.dK [])) a (.ins T.a1t dx (c4u "makes" (.ref d) [])) b=some o:=fun b o e n=>by rw[a0d n,a0d fun z=>by rw[z,hd] at e;cases e];exact e
  refine⟨_,rfl,r,[],rfl,.inl (kp0 _ _ hrd ra),fun ob H1 h1 k1 n1=>?_⟩
  refine d5v (d:=r) (ob:=ob) (kvs:=[]) (fun i σ H2=>H2=H1∧∃ x2 x3,σ=[some (.ref a),some (.ref r),x2,x3]) ⟨rfl,none,none,rfl⟩ (fun i σ H2 z=>z.1 ▸ h1) (fun i kk x σ H2 p hx=>by simp at hx) ?_
  rintro σ H2 ⟨rfl,x2,x3,rfl⟩
  refine k _ d hd (k1 _ _ (Ne.symm ra) a0b) (k1 _ _ (Ne.symm rd) (by rw[a0d (Ne.symm ad),a0b])) (fun b o n1' n2 e=>k1 b o n2 (kp0 b o e n1')) fun b z=>?_
  cases e:H b with
  | none=>rfl
  | some o =>
   by_cases l1:b=a
   ·rw[l1,k1 _ _ (Ne.symm ra) a0b] at z;cases z
   ·by_cases l2:b=r
    ·rw[l2,h1] at z;cases z
    ·rw[k1 b o l2 (kp0 b o e l1)] at z;cases z
theorem c4a (T:Tx K mg):a2j P w K mg base (CXW P w) 5 T.b2l T.b3w ["self","rows","programs"] (f2u K T.a0k T.a0m T.a1t T.a1d T.a1p (cO T)):=by
 refine b0l T.c9f d6r (fun vs H Q E h=>?_) (fun cdv A outer s H vs Q E hr h=>?_)
 ·obtain⟨h,hx,r,pr,us,ws,rfl,_⟩:=h
  rfl
 ·obtain⟨h,hx,r,pr,us,ws,rfl,hh,hr0,hpr,hlen,h60,hps,kk⟩:=h
  refine⟨_,(a0e (a2a (pv 0) (d4b T.e0r ((d5q T).mono (by decide)) hr rfl T.e4f T.c6b .nil a1j (a0a (pv 1) a0f)) rfl)
   (a0e (a2a (pv 0) (f1d T.e0z ((d5y T).mono (by decide)) hr rfl T.e6r T.c5j .nil a1j) rfl)
   (a0e (a2a (pv 0) (f0v (E:=E) ["number","program"] rfl rfl rfl rfl (fun _ _ h=>h) (e8t rfl T.b1u (a0a (pv 2) a0f) (f4m a0n f6y)) (by decide +kernel) (by decide +kernel) rfl (by decide +kernel) (fun _ _ _ _=>(f3y (K:=K) (n:=2) rfl rfl (a9x (a1m (i:=0) (show (["number","program"]:List Str).Nodup by decide +kernel) rfl (Or.inl rfl)) (a9x (a1m (i:=1) (show (["number","program"]:List Str).Nodup by decide +kernel) rfl (Or.inl rfl)) d4h)))) (fun E1 _ _ _ _=>(d4b T.e5v ((d8x T).mono (by decide)) hr rfl T.f2b T.d0y .nil g0i (a0a (pv 0) (a0a (pv 1) a0f))))) rfl)
   (a0e (a2a (pv 0) (a3k a0f) rfl)
   (a0e (a2a (pv 0) a0n rfl)
   (a0g (a2a (pv 0) (a3k a0f) rfl))))))),?_⟩
  refine⟨_,rfl,fun sh sx hsh hsx nsx=>?_⟩
  have rne:r≠h:=fun z=>by rw[z,hh] at hr0;cases hr0
  have s1:=Same.newO (C:=T.a1t) hsh hsx nsx
  have o1:=a0b (H:=upd H sx (.own sh)) (a:=sh) (o:=HO.ins T.a1t sx [])
  have nn1:∀ b,upd (upd H sx (.own sh)) sh (.ins T.a1t sx []) b=none→H b=none:=fun b z=>a1i (a1i z)
  generalize upd (upd H sx (.own sh)) sh (.ins T.a1t sx [])=H1 at s1 o1 nn1 ⊢
  refine⟨sh,sx,r,rfl,o1,s1 _ _ hr0,fun H2 sd fsd hsh2 hsd2 fr2 nn2=>⟨rfl,?_⟩⟩
  have shh:sh≠h:=fun z=>by rw[z,hh] at hsh;cases hsh
  have K2:∀ b o,b≠r→H b=some o→H2 b=some o:=fun b o n e=>fr2 b o (fun z=>by rw[z,hsh] at e;cases e) n (s1 _ _ e)
  have N2:∀ b,H2 b=none→H b=none:=fun b z=>nn1 b (nn2 b z)
  have fsd0:=nn1 _ fsd
  have nsd:sd≠h:=fun z=>by rw[z,hh] at fsd0;cases fsd0
  refine⟨_,rfl,h,_,hx,_,rfl,K2 _ _ (Ne.symm rne) hh,T.a0j,T.a7d,(by show 0 < 1000;decide),?_⟩
  have h3:=a0b (H:=H2) (a:=h) (o:=HO.ins T.a0k hx [("shelf",.ref sh)])
  have K3:∀ b o,b≠h→H2 b=some o→upd H2 h (.ins T.a0k hx [("shelf",.ref sh)]) b=some o:=fun b o n e=>by rw[a0d n];exact e
  have N3:∀ b,upd H2 h (.ins T.a0k hx [("shelf",.ref sh)]) b=none→H2 b=none:=fun b z=>a1i z
  show f2n _ _ _ _ (upd H2 h (.ins T.a0k hx [("shelf",.ref sh)]))
  generalize upd H2 h (.ins T.a0k hx [("shelf",.ref sh)])=H3 at h3 K3 N3 ⊢
  intro ho hox fho fhox nhox
  have s4:=Same.newO (C:=T.a1d) fho fhox nhox
  have o4:=a0b (H:=upd H3 hox (.own ho)) (a:=ho) (o:=HO.ins T.a1d hox [])
  have N4:∀ b,upd (upd H3 hox (.own ho)) ho (.ins T.a1d hox []) b=none→H3 b=none:=fun b z=>a1i (a1i z)
  generalize upd (upd H3 hox (.own ho)) ho (.ins T.a1d hox [])=H4 at s4 o4 N4 ⊢
  refine⟨ho,hox,rfl,o4,fun hd fhd nhd=>⟨rfl,?_⟩⟩
  have fho0:=N2 _ (N3 _ fho)
  have fhd0:=N2 _ (N3 _ (N4 _ fhd))
  have nho:ho≠h:=fun z=>by rw[z,hh] at fho0;cases fho0
  have nhdh:hd≠h:=fun z=>by rw[z,hh] at fhd0;cases fhd0
  have hdsd:hd≠sd:=fun z=>by rw[z,s4 _ _ (K3 _ _ nsd hsd2)] at fhd;cases fhd
  have K5:∀ b o,b≠ho→H4 b=some o→upd (upd H4 hd (.dK [])) ho (.ins T.a1d hox [("taken",.ref hd)]) b=some o:=fun b o n e=>by rw[a0d n,a0d fun z=>by rw[z,fhd] at e;cases e];exact e
  have N5:∀ b,upd (upd H4 hd (.dK [])) ho (.ins T.a1d hox [("taken",.ref hd)]) b=none→H4 b=none:=fun b z=>a1i (a1i z)
  have ho5:=a0b (H:=upd H4 hd (.dK [])) (a:=ho) (o:=HO.ins T.a1d hox [("taken",.ref hd)])
  have hd5:upd (upd H4 hd (.dK [])) ho (.ins T.a1d hox [("taken",.ref hd)]) hd=some (.dK []):=by rw[a0d nhd,a0b]
  generalize upd (upd H4 hd (.dK [])) ho (.ins T.a1d hox [("taken",.ref hd)])=H5 at K5 N5 ho5 hd5 ⊢
  refine⟨_,rfl,h,_,hx,_,rfl,K5 _ _ (Ne.symm nho) (s4 _ _ h3),T.a0j,T.a7g,(by show 1 < 1000;decide),?_⟩
  have h6:=a0b (H:=H5) (a:=h) (o:=HO.ins T.a0k hx [("shelf",.ref sh),("holds",.ref ho)])
  have K6:∀ b o,b≠h→H5 b=some o→upd H5 h (.ins T.a0k hx [("shelf",.ref sh),("holds",.ref ho)]) b=some o:=fun b o n e=>by rw[a0d n];exact e
  have N6:∀ b,upd H5 h (.ins T.a0k hx [("shelf",.ref sh),("holds",.ref ho)]) b=none→H5 b=none:=fun b z=>a1i z
  show f2n _ _ _ _ (upd H5 h (.ins T.a0k hx [("shelf",.ref sh),("holds",.ref ho)]))
  generalize upd H5 h (.ins T.a0k hx [("shelf",.ref sh),("holds",.ref ho)])=H6 at h6 K6 N6 ⊢
  have KK:∀ b o,b≠h→b≠r→H b=some o→H6 b=some o:=fun b o n1 n2 e=>K6 _ _ n1 (K5 _ _ (fun z=>by rw[z,fho0] at e;cases e) (s4 _ _ (K3 _ _ n1 (K2 _ _ n2 e))))
  have NN:∀ b,H6 b=none→H b=none:=fun b z=>N2 _ (N3 _ (N4 _ (N5 _ (N6 _ z))))
  have sh6:H6 sh=some (.ins T.a1t sx [("makes",.ref sd)]):=K6 _ _ shh (K5 _ _ (fun z=>by rw[←z,K3 _ _ shh hsh2] at fho;cases fho) (s4 _ _ (K3 _ _ shh hsh2)))
  have sd6:H6 sd=some (.dK []):=K6 _ _ nsd (K5 _ _ (fun z=>by rw[←z,K3 _ _ nsd hsd2] at fho;cases fho) (s4 _ _ (K3 _ _ nsd hsd2)))
  have ho6:H6 ho=some (.ins T.a1d hox [("taken",.ref hd)]):=K6 _ _ nho ho5
  have hd6:H6 hd=some (.dK []):=K6 _ _ nhdh hd5
  have prh:pr≠h:=fun z=>by rw[z,hh] at hpr;cases hpr
  have prr:pr≠r:=fun z=>by rw[z,hr0] at hpr;cases hpr
  have pr6:=KK _ _ prh prr hpr
  have hps6:∀ (i:Nat) u q,us[i]?=some u→ws[i]?=some q→PrA H6 u q.1 q.2:=fun i u q e1 e2=>by
   obtain⟨t,dl,e,a1,a2,a3,a4⟩:=hps i u q e1 e2
   exact⟨t,dl,e,KK _ _ (fun z=>by rw[z,hh] at a1;cases a1) (fun z=>by rw[z,hr0] at a1;cases a1) a1,KK _ _ (fun z=>by rw[z,hh] at a2;cases a2) (fun z=>by rw[z,hr0] at a2;cases a2) a2,a3,a4⟩
  clear K2 N2 K3 N3 s4 N4 K5 N5 K6 N6 hsh2 hsd2 fr2 nn2 hps
  refine⟨_,rfl,pr,us,rfl,rfl,pr6,?_⟩
  have z60:(60:Nat)≤sizeLine:=by decide
  rcases kk with ⟨ss,hf,hss,hm,k1⟩ | ⟨i0,q0,e0,bad,good,k2⟩
  ·refine d5h us.length (fun i ys Hd=>∃ xs,e8v T.a0m (cO T) H6 ss i ys Hd xs) (by omega) ⟨[],rfl,rfl,(fun j d s e=>by simp at e),(fun b hb=>by cases hb),.nil,(fun b hb=>by cases hb)⟩ (fun i H7 sm hi=>⟨us,us[i],SqL.of (sm _ _ pr6),List.getElem?_eq_getElem hi⟩) (fun H7 sm=>⟨us,SqL.of (sm _ _ pr6),rfl⟩) ?_ ?_
   ·rintro i D ys H7 τ v H8 R hD ⟨xs,M⟩ hDl sm hi hτ ⟨p,u,hu1,rfl,hp,rfl⟩ cb
    obtain⟨t1,t2,rfl⟩:∃ t1 t2,τ=[t1,t2]:=by
     match τ,hτ with
     | [a,b],_=>exact⟨a,b,rfl⟩
    have eu:=hu1 us (SqL.of (sm _ _ pr6))
    have hiw:i < ws.length:=by omega
    have his:i < ss.length:=by omega
    obtain⟨t,dl,rfl,ht,hdl,x1,x2⟩:=hps6 i u ws[i] eu (List.getElem?_eq_getElem hiw)
    obtain⟨ew,ed⟩:=hm i ss[i] ws[i] (List.getElem?_eq_getElem his) (List.getElem?_eq_getElem hiw)
    refine⟨p,_,rfl,SqT.of a0b,rfl,_,_,rfl,_,_,rfl,rfl,?_⟩
    have sp:=Same.upd (o:=HO.tup [.int ((i:Int)+1),.ref t]) hp
    refine⟨_,rfl,_,rfl,fun a ax ha hax nax=>?_⟩
    have sn:=Same.newO (C:=T.a0m) ha hax nax
    have on:=a0b (H:=upd (upd H7 p (.tup [.int ((i:Int)+1),.ref t])) ax (.own a)) (a:=a) (o:=HO.ins T.a0m ax [])
    have a7:H7 a=none:=sp.free ha
    generalize upd (upd (upd H7 p (.tup [.int ((i:Int)+1),.ref t])) ax (.own a)) a (.ins T.a0m ax [])=G at sn on ⊢
    have sG:=sp.trans sn
    refine⟨a,ax,t,dl,(i:Int)+1,_,_,rfl,on,sG _ _ (sm _ _ ht),sG _ _ (sm _ _ hdl),x1,x2,fun l el H9 lv ldx de na dr wr lo B9 o9 q1 q2 q3 q4 q5 q6 f1 f2 f3 f4 f5 nd3 n4=>⟨rfl,?_⟩,fun nol=>absurd ew (nol _)⟩
    have s9:Same H7 H9:=fun b o e=>B9 b o (fun z=>by rw[z,a7] at e;cases e) (sG _ _ e)
    have ll:l=ss[i].lv:=by
     have e:=el.symm.trans ew
     cases l<;>cases hl:ss[i].lv<;>first | rfl | (rw[hl] at e;exact absurd e (by decide +kernel))
    have bg:ss[i].bg=none:=hf _ (List.getElem_mem his)
    refine cb (.ref a) _ H9 ⟨xs++[⟨a,ax,lv,ldx,de,na,dr,wr,lo,.non⟩],M.snoc (d:=⟨a,ax,lv,ldx,de,na,dr,wr,lo,.non⟩) hDl sG sm a7 ⟨_,on⟩ s9 (List.getElem?_eq_getElem his) ⟨?_,?_,?_,q3,?_,?_,q6⟩ f1 f2 f3 f4 f5 nd3 n4⟩ rfl s9
    ·show H9 a=some (.ins T.a0m ax (d6k ⟨a,ax,lv,ldx,de,na,dr,wr,lo,.non⟩ ((i:Int)+1) ss[i]).fs)
     unfold d6k
     rw[bg]
     exact o9
    ·rw[←ll];exact q1
    ·rw[←ed];exact q2
    ·unfold f8k;rw[bg];exact q4
    ·unfold g0a;rw[bg];exact q5
   ·rintro D ys H7 ⟨xs,M⟩ hyl hD sm hDl
    have D6:∀ b o,H6 b=some o→b≠D:=fun b o e z=>by rw[z,hD] at e;cases e
    have hDh:h≠D:=D6 _ _ h6
    refine⟨_,rfl,h,_,hx,_,rfl,sm _ _ h6,T.a0j,T.a4k,(by show 2 < 1000;decide),?_⟩
    refine⟨(by show 0≤sizeLine;decide),fun sp hsp=>?_⟩
    have sp7:H7 sp=none:=a1i hsp
    have sph:sp≠h:=fun z=>by rw[z,sm _ _ h6] at sp7;cases sp7
    refine⟨_,rfl,h,_,hx,_,rfl,(by rw[a0d sph.symm];exact a0b),T.a0j,T.a4j,(by show 3 < 1000;decide),?_⟩
    refine⟨_,rfl,h,_,hx,_,rfl,a0b,T.a0j,T.a1o,(by show 4 < 1000;decide),?_⟩
    rw[b5n]
    refine⟨(by show 0≤sizeLine;decide),fun tl htl=>?_⟩
    have tl7:H7 tl=none:=a1i (a1i (a1i htl))
    have tlh:tl≠h:=fun z=>by rw[z,sm _ _ h6] at tl7;cases tl7
    have tls:tl≠sp:=fun z=>by
     rw[z,a0d sph,a0b] at htl
     cases htl
    refine⟨_,rfl,h,_,hx,_,rfl,(by rw[a0d tlh.symm];exact a0b),T.a0j,T.a1a,(by show 5 < 1000;decide),?_⟩
    have KF:∀ {o1 o2 o3 o4 o5:HO} (b:Addr) (o:HO),b≠h→H7 b=some o→upd (upd (upd (upd (upd H7 h o1) sp o2) h o3) tl o4) h o5 b=some o:=fun {o1 o2 o3 o4 o5} b o n e=>by
     have n1:b≠sp:=fun z=>by rw[z,sp7] at e;cases e
     have n2:b≠tl:=fun z=>by rw[z,tl7] at e;cases e
     rw[a0d n,a0d n2,a0d n,a0d n1,a0d n]
     exact e
    have nh:∀ b∈c1s xs,b≠h:=fun b hb z=>by have:=M.new b hb;rw[z,h6] at this;cases this
    have hm7:∀ b∈c1s xs,H7 b≠none∧b≠D:=fun b hb=>by
     have e:=M.there b hb
     cases q:del H7 D b with
     | none=>exact absurd q e
     | some o=>obtain⟨q1,q2⟩:=c3v q;exact⟨by rw[q2];simp,q1⟩
    have hdh:hd≠h:=fun z=>by rw[z,h6] at hd6;cases hd6
    obtain⟨ndm,dsj⟩:=f1x M.nd
    refine k1 _ ⟨h,hx,sh,sx,sd,ho,hox,hd,D,sp,tl⟩ xs rfl ⟨a0b,KF _ _ shh (sm _ _ sh6),KF _ _ nsd (sm _ _ sd6),⟨[],⟨KF _ _ nho (sm _ _ ho6),KF _ _ hdh (sm _ _ hd6),.nil,(by show 0 < 64;decide),(fun q hq=>by cases hq),.nil,.nil⟩,rfl⟩,?_,(by rw[M.len];omega),fun j d s e1 e2=>?_,?_,?_,?_,?_⟩ (fun b o n1 n2 e=>KF b o n1 (sm _ _ (KK b o n1 n2 e))) ?_ ?_
    ·rw[←M.ys]
     exact KF _ _ hDh.symm hDl
    ·have ok:=M.each j d s e1 e2
     have md:d∈xs:=List.mem_of_getElem? e1
     have mm:∀ b∈a4d d++b0x d,b≠h:=fun b hb=>nh b (List.mem_flatMap.mpr ⟨d,md,hb⟩)
     have l7:=(c3v ok.lev).2
     exact⟨KF _ _ (mm _ (by simp[a4d])) (c3v ok.obj).2,KF _ _ (a8c l7 (sm _ _ h6) (by show ¬ 0=2;decide)) l7,KF _ _ (mm _ (by simp[b0x])) (c3v ok.dee).2,KF _ _ (mm _ (by simp[b0x])) (c3v ok.nam).2,KF _ _ (mm _ (by simp[a4d])) (c3v ok.drf).2,KF _ _ (mm _ (by simp[a4d])) (c3v ok.wrt).2,KF _ _ (mm _ (by simp[b0x])) (c3v ok.lok).2⟩
    ·show upd _ h _ sp=_
     rw[a0d sph,a0d tls.symm,a0d sph,a0b]
    ·show upd _ h _ tl=_
     rw[a0d tlh,a0b]
    ·show (h::tl::hd::([]++xs.flatMap a4d)).Nodup
     simp only [List.nil_append,List.nodup_cons,List.mem_cons,not_or]
     refine⟨⟨tlh.symm,hdh.symm,fun z=>nh h (b2g z) rfl⟩,⟨(fun z=>by rw[z,sm _ _ hd6] at tl7;cases tl7),fun z=>(hm7 _ (b2g z)).1 tl7⟩,(fun z=>by have:=M.new _ (b2g z);rw[hd6] at this;cases this),ndm⟩
    ·intro b hb
     show b ∉ h::tl::hd::([]++xs.flatMap a4d)
     simp only [List.nil_append,List.mem_cons,not_or]
     have hb:b=sd∨b=D∨b=sp∨b∈xs.flatMap b0x:=by simpa [a5l] using hb
     rcases hb with rfl | rfl | rfl | hb
     ·exact⟨nsd,(fun z=>by rw[←z,sm _ _ sd6] at tl7;cases tl7),hdsd.symm,(fun z=>by have:=M.new _ (b2g z);rw[sd6] at this;cases this)⟩
     ·exact⟨hDh.symm,(fun z=>by rw[←z,hDl] at tl7;cases tl7),(fun z=>by rw[z,sm _ _ hd6] at hDl;cases hDl),fun z=>(hm7 _ (b2g z)).2 rfl⟩
     ·exact⟨sph,tls.symm,(fun z=>by rw[z,sm _ _ hd6] at sp7;cases sp7),fun z=>(hm7 _ (b2g z)).1 sp7⟩
     ·exact⟨nh _ (c6o hb),fun z=>(hm7 _ (c6o hb)).1 (z ▸ tl7),(fun z=>by have:=M.new _ (c6o hb);rw[z,hd6] at this;cases this),dsj _ hb⟩
    ·intro b hb
     have hb:b=h∨b=tl∨b=hd∨b∈xs.flatMap a4d:=by simpa [a3q] using hb
     rcases hb with rfl | rfl | rfl | hb
     ·exact .inl rfl
     ·exact .inr (NN _ (sm.free tl7))
     ·exact .inr fhd0
     ·exact .inr (NN _ (M.new _ (b2g hb)))
    ·intro b hb
     have hb:b=sd∨b=D∨b=sp∨b∈xs.flatMap b0x:=by simpa [a5l] using hb
     rcases hb with rfl | rfl | rfl | hb
     ·exact fsd0
     ·exact NN _ hD
     ·exact NN _ (sm.free sp7)
     ·exact NN _ (M.new _ (c6o hb))
  ·refine d5h us.length (fun i _ _=>i≤i0) (by omega) (Nat.zero_le _) (fun i H7 sm hi=>⟨us,us[i],SqL.of (sm _ _ pr6),List.getElem?_eq_getElem hi⟩) (fun H7 sm=>⟨us,SqL.of (sm _ _ pr6),rfl⟩) ?_ ?_
   ·rintro i D ys H7 τ v H8 R hD hP hDl sm hi hτ ⟨p,u,hu1,rfl,hp,rfl⟩ cb
    obtain⟨t1,t2,rfl⟩:∃ t1 t2,τ=[t1,t2]:=by
     match τ,hτ with
     | [a,b],_=>exact⟨a,b,rfl⟩
    have eu:=hu1 us (SqL.of (sm _ _ pr6))
    have hiw:i < ws.length:=by omega
    obtain⟨t,dl,rfl,ht,hdl,x1,x2⟩:=hps6 i u ws[i] eu (List.getElem?_eq_getElem hiw)
    refine⟨p,_,rfl,SqT.of a0b,rfl,_,_,rfl,_,_,rfl,rfl,?_⟩
    have sp:=Same.upd (o:=HO.tup [.int ((i:Int)+1),.ref t]) hp
    refine⟨_,rfl,_,rfl,fun a ax ha hax nax=>?_⟩
    have sn:=Same.newO (C:=T.a0m) ha hax nax
    have on:=a0b (H:=upd (upd H7 p (.tup [.int ((i:Int)+1),.ref t])) ax (.own a)) (a:=a) (o:=HO.ins T.a0m ax [])
    have a7:H7 a=none:=sp.free ha
    generalize upd (upd (upd H7 p (.tup [.int ((i:Int)+1),.ref t])) ax (.own a)) a (.ins T.a0m ax [])=G at sn on ⊢
    have sG:=sp.trans sn
    have keep:∀ {H9:Hp},But a G H9→Same H7 H9:=fun B9 b o e=>B9 b o (fun z=>by rw[z,a7] at e;cases e) (sG _ _ e)
    refine⟨a,ax,t,dl,(i:Int)+1,_,_,rfl,on,sG _ _ (sm _ _ ht),sG _ _ (sm _ _ hdl),x1,x2,fun l el H9 lv ldx de na dr wr lo B9 o9 q1 q2 q3 q4 q5 q6 f1 f2 f3 f4 f5 nd3 n4=>⟨rfl,?_⟩,fun nol H9 B9=>k2 H9 fun b o n1 n2 e=>keep B9 b o (sm _ _ (KK b o n1 n2 e))⟩
    by_cases hii:i < i0
    ·exact cb (.ref a) _ H9 hii rfl (keep B9)
    ·have e1:i=i0:=by omega
     subst e1
     rw[List.getElem?_eq_getElem hiw] at e0
     cases e0
     exact absurd el (bad l)
   ·intro D ys H7 z
    have:=(List.getElem?_eq_some_iff.mp e0).1
    omega
--@STAGE
open Spn
structure g0t (H:Hp) (de q na dr wr hd tl:Addr) (e:DF) (kvs:List (Key×V)):Prop where
 ep:e.p=.int 0
 ede:e.de=.ref de
 dee:H de=some (.lst [.ref q])
 m1:de≠tl
 m2:V.ref de ∉ kvs.map (·.2)
 m3:na≠dr
 m4:na≠wr
 m5:na≠hd
def f5x (K:PySem.W.Frag) (C CD CS CH:Addr) (cls:Lv→Addr) (vs:List V) (H:Hp) (Q:VK):Prop:=∃ (h hx sh sx sd a ax lv lx na dr wr ho hox hd tl q de:Addr) (d:HF) (e:DF) (l:Lv) (n bg st k v:Int) (kd kw kvs:List (Key×V)) (m:List (Int×List Hold)) (rs:List V),vs=[.ref h,.ref a] ∧
 f8q K C CD CS CH cls H h hx sh sx sd a ax lv lx na dr wr ho hox hd tl q d e l n bg st k v kd kw kvs m rs∧g0t H de q na dr wr hd tl e kvs ∧
 ∀ H' r t kvs',f9x K CD CH H H' a ax dr wr ho hox hd tl r {e with wa:=.ref t,p:=.int 1} (b1r kd (Sum.inl k:Key) (.int v)) (b1r kw (Sum.inl k:Key) (.int st)) kvs kvs' (d7y m n (k,k,true)) rs [.int st,.int n,.str "put",.int k,.int v]→Q .non H'
def e5p (K:PySem.W.Frag) (C CD CS CH P0:Addr) (mg:Str→Option Value) (base:Heap) (cls:Lv→Addr) (vs:List V) (H:Hp) (Q:VK):Prop:=∃ (h hx sh sx sd sp a ax lv lx lo dr ho hox hd tl de:Addr) (d:HF) (e:DF) (l:Lv) (n bg st k v:Int) (kvs:List (Key×V)) (m:List (Int×List Hold)) (rs:List V) (u:V),vs=[.ref h,.ref a]∧base.BuiltinsAt mg P0 ∧
 f6h K C CD CS CH P0 cls H h hx sh sx sd sp a ax lv lx lo dr ho hox hd tl d e l n bg st k v kvs m rs∧e.p=.int 1∧e.de=.ref de∧H de=some (.lst [u])∧e.ph=.str "going" ∧
 ∀ H' r x d',H' h=some (.ins C hx (HF.fs d'))→d'.tl=.ref tl→H' tl=some (.lst (rs++[.ref r]))→H' r=some (.tup [.int st,.int n,.str "kept",x])→(∀ b o,H b=some o→(∀ ps,o≠.tbl ps)→b ∉ [h,a,tl,hd,sd,dr]→V.ref b ∉ kvs.map (·.2)→H' b=some o)→Q .non H'
def f8v (K:PySem.W.Frag) (C CD CS CH P0:Addr) (mg:Str→Option Value) (base:Heap) (cls:Lv→Addr):Sp:=fun vs H Q _=>f5x K C CD CS CH cls vs H Q∨e5p K C CD CS CH P0 mg base cls vs H Q
def f6l (K:PySem.W.Frag) (C CD CS CH:Addr) (cls:Lv→Addr) (vs:List V) (H:Hp) (Q:VK):Prop:=∃ (h hx sh sx sd a ax lv lx na dr wr ho hox hd tl q de:Addr) (d:HF) (e:DF) (l:Lv) (n st k v:Int) (kd kw kvs:List (Key×V)) (m:List (Int×List Hold)) (rs:List V),vs=[.ref h,.ref a]∧e.b=.non∧H a=some (.ins CD ax e.fs) ∧
 f8q K C CD CS CH cls (upd H a (.ins CD ax {e with b:=.int st,ph:=.str "going"}.fs)) h hx sh sx sd a ax lv lx na dr wr ho hox hd tl q d {e with b:=.int st,ph:=.str "going"} l n st st k v kd kw kvs m rs∧g0t (upd H a (.ins CD ax {e with b:=.int st,ph:=.str "going"}.fs)) de q na dr wr hd tl {e with b:=.int st,ph:=.str "going"} kvs ∧
 ∀ H' r t kvs',f9x K CD CH H H' a ax dr wr ho hox hd tl r {e with b:=.int st,ph:=.str "going",wa:=.ref t,p:=.int 1} (b1r kd (Sum.inl k:Key) (.int v)) (b1r kw (Sum.inl k:Key) (.int st)) kvs kvs' (d7y m n (k,k,true)) rs [.int st,.int n,.str "put",.int k,.int v]→Q .non H'
def e4a (K:PySem.W.Frag) (C CD CS CH P0:Addr) (mg:Str→Option Value) (base:Heap) (cls:Lv→Addr):Sp:=fun vs H Q _=>f6l K C CD CS CH cls vs H Q∨e5p K C CD CS CH P0 mg base cls vs H Q
theorem f5n {H:Hp} {a:Addr} {o:HO} (h:H a=some o):upd H a o=H:=by
 funext b
 by_cases z:b=a
 ·rw[z,a0b,h]
 ·rw[a0d z]
theorem d8n (T:Tx K mg):a2j P w K mg base CX0 9 T.b7d T.b7e ["self","deal"] (f8v K T.a0k T.a0m T.a1t T.a1d T.lp mg base (cO T)):=by
 refine T.d1d.ok c9n (fun vs H Q E h=>?_) (fun cdv A outer s H vs Q E hr h=>?_)
 ·rcases h with ⟨h,hx,sh,sx,sd,a,ax,lv,lx,na,dr,wr,ho,hox,hd,tl,q,de,d,e,l,n,bg,st,k,v,kd,kw,kvs,m,rs,rfl,_⟩ | ⟨h,hx,sh,sx,sd,sp,a,ax,lv,lx,lo,dr,ho,hox,hd,tl,de,d,e,l,n,bg,st,k,v,kvs,m,rs,u,rfl,_⟩<;>rfl
 ·refine⟨_,(a0e (a2v (a3t (a9w (pv 1) T.a0q T.b4b ((c4s T).mono (by decide)) hr T.b4o .nil a1j))
   (a0e (a2t (a1q (pv 0) T.a0j T.c3p ((d6j T).mono (by decide)) hr T.c5z .nil a1j (a0a (pv 1) a0f)))
   (a0g f3z))
   a1e)
   (a0e (a1s (i:=2) c9n.nd rfl (Or.inl rfl) (a2z a5v (a0i (K:=K) rfl (pv 1) rfl) (a0i (K:=K) rfl (pv 1) rfl) (fun _ _=>rfl)))
   (a0e (a2v (a0y d0a (a2z a3j (pv 2) a0n (fun _ _=>rfl)) (b3k (v:=V.ref T.c9i) rfl T.e8b rfl) rfl)
   (a0g a4t)
   (a0g (a2v (a0y d0a (a2z a3j (pv 2) a0n (fun _ _=>rfl)) (b3k (v:=V.ref T.c0r) rfl T.e0l rfl) rfl)
   (a0g (a2t (a1q (pv 0) T.a0j T.c1i ((d3w T).mono (by decide)) hr T.c3t .nil a1j (a0a (pv 1) (a0a (pv 2) a0f)))))
   (a0g (a2v (a0y c1e (a2z a3j (pv 2) a0n (fun _ _=>rfl)) a2b (a1f _))
   (a0g a4t)
   (a0g a4t))))))
   (a0g (a2a (pv 1) (a9w (pv 1) T.a0q T.b3y ((c4v T).mono (by decide)) hr T.b5f .nil a1j) rfl))))),?_⟩
  rcases h with ⟨h,hx,sh,sx,sd,a,ax,lv,lx,na,dr,wr,ho,hox,hd,tl,q,de,d,e,l,n,bg,st,k,v,kd,kw,kvs,m,rs,rfl,W,X,kk⟩ | ⟨h,hx,sh,sx,sd,sp,a,ax,lv,lx,lo,dr,ho,hox,hd,tl,de,d,e,l,n,bg,st,k,v,kvs,m,rs,u,rfl,hB,W,ep,ede,hde,eph,kk⟩
  ·refine⟨_,rfl,a,ax,_,rfl,W.obj,rfl,a,ax,de,e,0,_,rfl,W.obj,X.ep,X.ede,X.dee,?_⟩
   refine⟨_,rfl,a5n (fun z=>absurd (of_decide_eq_true z) (by show ¬ (0:Int)=1;decide)) (fun _=>?_)⟩
   refine⟨_,rfl,a,_,ax,_,_,rfl,W.obj,T.a0q,T.a4e,rfl,?_⟩
   refine⟨_,rfl,a,_,ax,_,_,rfl,W.obj,T.a0q,T.a3b,rfl,?_⟩
   rw[X.ede,X.ep]
   refine⟨de,_,_,_,rfl,rfl,SqL.of X.dee,a0z (j:=0) rfl,?_⟩
   refine⟨_,rfl,q,_,_,_,rfl,rfl,SqT.of W.ded,a0z (j:=0) rfl,T.c9i,[.str "read",.str "sum",.str "count"],rfl,.inr (T.e6i _),rfl,rfl,_,rfl,a5n (fun z=>absurd z (by decide +kernel)) (fun _=>?_)⟩
   refine⟨_,rfl,q,_,_,_,rfl,rfl,SqT.of W.ded,a0z (j:=0) rfl,T.c0r,[.str "put",.str "take"],rfl,.inr (T.e1h _),rfl,rfl,_,rfl,a5n (fun _=>?_) (fun z=>absurd (by decide +kernel) z)⟩
   refine⟨_,rfl,h,hx,_,rfl,W.hou,rfl,_,rfl,_,rfl,?_⟩
   refine⟨h,hx,sh,sx,sd,a,ax,lv,lx,na,dr,wr,ho,hox,hd,tl,q,d,e,l,n,bg,st,k,v,kd,kw,kvs,m,rs,rfl,W,fun H1 r t kvs' L=>?_⟩
   have lst:∀ x,V.ref x∈kvs.map (·.2)→∃ us,H x=some (.lst us):=fun x z=>W.hs.ent.tracked z
   have de1:H1 de=some (.lst [.ref q]):=L.fr _ _ X.dee (by
    simp only [List.mem_cons,List.not_mem_nil,or_false,not_or]
    refine⟨fun z=>?_,fun z=>?_,fun z=>?_,fun z=>?_,X.m1⟩
    ·have:=X.dee;rw[z,W.obj] at this;cases this
    ·have:=X.dee;rw[z,W.drf] at this;cases this
    ·have:=X.dee;rw[z,W.wrt] at this;cases this
    ·have:=X.dee;rw[z,W.hs.dict] at this;cases this) X.m2
   have q1:H1 q=some (.tup [.str "put",.int k,.int v]):=L.fr _ _ W.ded (by
    simp only [List.mem_cons,List.not_mem_nil,or_false,not_or]
    refine⟨fun z=>?_,fun z=>?_,fun z=>?_,fun z=>?_,fun z=>?_⟩
    ·have:=W.ded;rw[z,W.obj] at this;cases this
    ·have:=W.ded;rw[z,W.drf] at this;cases this
    ·have:=W.ded;rw[z,W.wrt] at this;cases this
    ·have:=W.ded;rw[z,W.hs.dict] at this;cases this
    ·have:=W.ded;rw[z,W.tol] at this;cases this) fun z=>by
     obtain⟨us,e1⟩:=lst q z
     rw[W.ded] at e1
     cases e1
   have na1:H1 na=some (.dK []):=L.fr _ _ W.nam (by
    simp only [List.mem_cons,List.not_mem_nil,or_false,not_or]
    refine⟨fun z=>?_,X.m3,X.m4,X.m5,fun z=>?_⟩
    ·have:=W.nam;rw[z,W.obj] at this;cases this
    ·have:=W.nam;rw[z,W.tol] at this;cases this) fun z=>by
     obtain⟨us,e1⟩:=lst na z
     rw[W.nam] at e1
     cases e1
   refine⟨_,rfl,a,ax,_,rfl,L.obj,rfl,a,ax,de,na,q,{e with wa:=.ref t},0,[.ref q],[.int k,.int v],[],"put",0,rfl,L.obj,X.ep,X.ede,de1,rfl,q1,.inl ⟨by decide +kernel,rfl⟩,W.ena,na1,(fun kv hkv=>by cases hkv),?_⟩
   refine⟨_,rfl,a,_,ax,_,rfl,L.obj,T.a0q,T.a3b,(by show 12 < 1000;decide),?_⟩
   have B:But a H1 (upd H1 a (.ins T.a0m ax {e with wa:=.ref t,p:=.int 1}.fs)):=But.upd
   have nb:∀ x o,H1 x=some o→(∀ C y fs,o≠.ins C y fs)→upd H1 a (.ins T.a0m ax {e with wa:=.ref t,p:=.int 1}.fs) x=some o:=fun x o e1 n1=>B x o (fun z=>by rw[z,L.obj] at e1;cases e1;exact n1 _ _ _ rfl) e1
   refine kk _ r t kvs' ⟨a0b,nb _ _ L.drf (fun _ _ _ z=>by cases z),nb _ _ L.wrt (fun _ _ _ z=>by cases z),L.hs.but B L.obj (by show ¬ 12=1;decide),nb _ _ L.tol (fun _ _ _ z=>by cases z),nb _ _ L.rw' (fun _ _ _ z=>by cases z),L.new,fun b o e1 n1 n2=>B b o (fun z=>n1 (z ▸ List.mem_cons_self)) (L.fr b o e1 n1 n2),L.grew⟩
  ·refine⟨_,rfl,a,ax,_,rfl,W.obj,rfl,a,ax,de,e,1,_,rfl,W.obj,ep,ede,hde,?_⟩
   refine⟨_,rfl,a5n (fun _=>?_) (fun z=>absurd (decide_eq_true (show (1:Int)=(([u].length:Nat):Int) from rfl)) z)⟩
   refine⟨_,rfl,h,hx,_,rfl,W.hou,rfl,_,rfl,?_⟩
   exact⟨h,hx,sh,sx,sd,sp,a,ax,lv,lx,lo,dr,ho,hox,hd,tl,d,e,l,n,bg,st,k,v,kvs,m,rs,rfl,hB,W,kk⟩
theorem c6z (T:Tx K mg):a2j P w K mg base CX0 10 T.a6y T.a7f ["self","deal"] (e4a K T.a0k T.a0m T.a1t T.a1d T.lp mg base (cO T)):=by
 refine T.b7z.ok c9p (fun vs H Q E h=>?_) (fun cdv A outer s H vs Q E hr h=>?_)
 ·rcases h with ⟨h,hx,sh,sx,sd,a,ax,lv,lx,na,dr,wr,ho,hox,hd,tl,q,de,d,e,l,n,st,k,v,kd,kw,kvs,m,rs,rfl,_⟩ | ⟨h,hx,sh,sx,sd,sp,a,ax,lv,lx,lo,dr,ho,hox,hd,tl,de,d,e,l,n,bg,st,k,v,kvs,m,rs,u,rfl,_⟩<;>rfl
 ·refine⟨_,(a0e (a2t (a1q (pv 1) T.a0q T.c6f ((d8r T).mono (by decide)) hr T.d1z .nil a1j (a0a (a0i (K:=K) rfl (pv 0) rfl) a0f)))
   (a0g (f2z (a0g (a2t (a1q (pv 0) T.a0j T.c5x ((d8n T).mono (by decide)) hr T.d1a .nil a1j (a0a (pv 1) a0f))))))),?_⟩
  rcases h with ⟨h,hx,sh,sx,sd,a,ax,lv,lx,na,dr,wr,ho,hox,hd,tl,q,de,d,e,l,n,st,k,v,kd,kw,kvs,m,rs,rfl,eb,ha,W,X,kk⟩ | ⟨h,hx,sh,sx,sd,sp,a,ax,lv,lx,lo,dr,ho,hox,hd,tl,de,d,e,l,n,bg,st,k,v,kvs,m,rs,u,rfl,hB,W,ep,ede,hde,eph,kk⟩
  ·have hha:h≠a:=a8c W.hou W.obj (by show ¬ 6=12;decide)
   have hh:H h=some (.ins T.a0k hx d.fs):=by have:=W.hou;rw[a0d hha] at this;exact this
   refine⟨_,rfl,a,ax,_,rfl,ha,rfl,_,rfl,h,_,hx,_,_,rfl,hh,T.a0j,T.a1o,rfl,?_⟩
   refine⟨a,ax,e,st,by show [V.ref a,d.st]=_;rw[W.dst],ha,.inl eb,?_⟩
   rw[show e2m e.b st=.int st from if_pos eb]
   refine⟨_,rfl,h,hx,_,rfl,W.hou,rfl,_,rfl,?_⟩
   refine .inl ⟨h,hx,sh,sx,sd,a,ax,lv,lx,na,dr,wr,ho,hox,hd,tl,q,de,d,{e with b:=.int st,ph:=.str "going"},l,n,st,st,k,v,kd,kw,kvs,m,rs,rfl,W,X,fun H1 r t kvs' L=>?_⟩
   refine kk H1 r t kvs' ⟨L.obj,L.drf,L.wrt,L.hs,L.tol,L.rw',a1i L.new,fun b o e1 n1 n2=>L.fr b o (by rw[a0d (show b≠a from fun z=>n1 (by rw[z];exact List.mem_cons_self))];exact e1) n1 n2,fun x z=>(L.grew x z).imp id a1i⟩
  ·refine⟨_,rfl,a,ax,_,rfl,W.obj,rfl,_,rfl,h,_,hx,_,_,rfl,W.hou,T.a0j,T.a1o,rfl,?_⟩
   refine⟨a,ax,e,st,by show [V.ref a,d.st]=_;rw[W.dst],W.obj,.inr ⟨bg,W.eb⟩,?_⟩
   have ew:e2m e.b st=e.b:=if_neg (by rw[W.eb];intro z;cases z)
   have ee:{e with b:=e2m e.b st,ph:=.str "going"}=e:=by
    rw[ew]
    cases e
    cases eph
    rfl
   rw[ee,f5n W.obj]
   refine⟨_,rfl,h,hx,_,rfl,W.hou,rfl,_,rfl,?_⟩
   exact .inr ⟨h,hx,sh,sx,sd,sp,a,ax,lv,lx,lo,dr,ho,hox,hd,tl,de,d,e,l,n,bg,st,k,v,kvs,m,rs,u,rfl,hB,W,ep,ede,hde,eph,kk⟩
--@STAGE
open Spn
theorem d3q {f:DA→List Addr} {d d':DA} (e:f d'=f d):∀ {xs:List DA} {i:Nat},xs[i]?=some d→(xs.set i d').flatMap f=xs.flatMap f
 | [],_,h=>by simp at h
 | x::xs,0,h=>by
  have:x=d:=by simpa using h
  subst this
  show f d'++_=f x++_
  rw[e]
 | x::xs,i+1,h=>by
  show f x++(xs.set i d').flatMap f=f x++xs.flatMap f
  rw[d3q e (by simpa using h)]
theorem d1e {β:Type} {f:DA→β} {d d':DA} (e:f d'=f d):∀ {xs:List DA} {i:Nat},xs[i]?=some d→(xs.set i d').map f=xs.map f
 | [],_,h=>by simp at h
 | x::xs,0,h=>by
  have:x=d:=by simpa using h
  subst this
  show f d'::_=f x::_
  rw[e]
 | x::xs,i+1,h=>by
  show f x::(xs.set i d').map f=f x::xs.map f
  rw[d1e e (by simpa using h)]
theorem e6k:∀ {xs:List DA} {i j:Nat} {d d':DA} {b:Addr},(xs.flatMap a4d).Nodup→xs[i]?=some d→xs[j]?=some d'→i≠j→b∈a4d d→b∈a4d d'→False
 | [],_,_,_,_,_,_,h,_,_,_,_=>by simp at h
 | x::xs,i,j,d,d',b,nd,hi,hj,ne,h1,h2=>by
  have nd':(a4d x++xs.flatMap a4d).Nodup:=nd
  rw[List.nodup_append] at nd'
  obtain⟨n1,n2,n3⟩:=nd'
  have tail:∀ {k:Nat} {y:DA},xs[k]?=some y→∀ c∈a4d y,c∈xs.flatMap a4d:=fun hk c hc=>List.mem_flatMap.mpr ⟨_,List.mem_of_getElem? hk,hc⟩
  cases i with
  | zero =>
   cases j with
   | zero=>exact ne rfl
   | succ j =>
    have e:x=d:=by simpa using hi
    subst e
    exact n3 b h1 b (tail (by simpa using hj) b h2) rfl
  | succ i =>
   cases j with
   | zero =>
    have e:x=d':=by simpa using hj
    subst e
    exact n3 b h2 b (tail (by simpa using hi) b h1) rfl
   | succ j=>exact e6k n2 (by simpa using hi) (by simpa using hj) (fun z=>ne (by rw[z])) h1 h2
theorem Ent.refs {H:Hp} {kvs:List (Key×V)} {m:List (Int×List Hold)} (r:Ent H kvs m):∃ ls:List Addr,kvs.map (·.2)=ls.map V.ref:=by
 induction r with
 | nil=>exact⟨[],rfl⟩
 | @cons l k vs rs kvs m _ _ _ ih=>obtain⟨ls,e⟩:=ih;exact⟨l::ls,by simp[e]⟩
theorem f3d {ls:List Addr} (h:(ls.map V.ref).Nodup):ls.Nodup:=(List.pairwise_map.mp h).imp fun n z=>n (congrArg V.ref z)
theorem b3j {ls:List Addr} {b:Addr}:V.ref b∈ls.map V.ref ↔ b∈ls:=by
 constructor
 ·intro h
  obtain⟨c,hc,e⟩:=List.mem_map.mp h
  cases e
  exact hc
 ·exact fun h=>List.mem_map_of_mem h
theorem e0u (xs:List V) (k:Nat):e0n xs (some (k:Int)) none=xs.drop k:=by
 unfold e0n
 rw[HT.sIx_nat,HT.sIx_none]
 by_cases h:k≤xs.length
 ·rw[Nat.min_eq_left h,List.take_of_length_le (by rw[List.length_drop];exact Nat.le_refl _)]
 ·rw[List.drop_eq_nil_of_le (show xs.length≤min k xs.length by omega),List.drop_eq_nil_of_le (show xs.length≤k by omega),List.take_nil]
def f5p (K:PySem.W.Frag) (C CD CS CH N P0:Addr) (mg:Str→Option Value) (base:Heap) (cls:Lv→Addr):Sp:=fun vs H Q E=>∃ (n:Int) (x:HA) (ls:List Addr) (xs:List DA) (ss:List DS) (st:Int) (told:List V) (m:List (Int×List Hold)),vs=[.ref x.h,.int n]∧b2w K C CD CS CH cls H x ls xs ss st told m ∧
  ((∃ (i:Nat) (s:DS) (q:Addr),n=(i:Int)+1∧ss[i]?=some s∧s.bg=none∧s.ds=[.ref q]∧H q=some (.tup [.str "put",.int s.k,.int s.v])∧ags m n s.k s.k true=[]∧m.length < 63∧(∀ z∈m,z.2.length < 999)∧told.length < 1000∧0≤st ∧
     ∀ H' p r ls' xs',b2w K C CD CS CH cls H' x ls' xs' (ss.set i {s with bg:=some (st+1)}) (st+1) (told++[.ref r]) (d7y m n (s.k,s.k,true))→a5l x xs'=a5l x xs→H' r=some (.tup [.int (st+1),.int n,.str "put",.int s.k,.int s.v])→H' p=some (.lst [.ref r])→(∀ b o,H b=some o→b ∉ a3q x ls xs→H' b=some o)→(∀ b∈a3q x ls' xs',b∈a3q x ls xs∨H b=none)→p ∉ a3q x ls' xs'→Q (.ref p) H') ∨
   ((n < 1∨(xs.length:Int) < n)∧∀ H',Same H H'→E (.ref N) none H') ∨
   (∃ (i:Nat) (s:DS) (b0:Int) (u:V),n=(i:Int)+1∧ss[i]?=some s∧s.bg=some b0∧s.ds=[u]∧told.length < 1000∧base.BuiltinsAt mg P0∧Tb P0 d7s d7g H ∧
     ∀ H' p r y,H' p=some (.lst [.ref r])→H' r=some (.tup [.int (st+1),.int n,.str "kept",y])→(∀ b o,H b=some o→(∀ ps,o≠.tbl ps)→b ∉ a3q x ls xs→b≠x.sd→H' b=some o)→Q (.ref p) H'))
theorem f8b {P0 a:Addr} {lp:Pos} {ql:Str} {H H':Hp} {C x:Addr} {fs:List (Str×V)} (h:Tb P0 lp ql H) (ha:H a=some (.ins C x fs)) (k:But a H H'):Tb P0 lp ql H' :=
 h.imp (fun e=>k _ _ (fun z=>by rw[z,ha] at e;cases e) e) fun ⟨c,e1,e2⟩=>⟨c,k _ _ (fun z=>by rw[z,ha] at e1;cases e1) e1,k _ _ (fun z=>by rw[z,ha] at e2;cases e2) e2⟩
theorem b4g (T:Tx K mg):a2j P w K mg base (CXW P w) 11 T.b3r T.b3n ["self","number"] (f5p K T.a0k T.a0m T.a1t T.a1d T.a0r T.lp mg base (cO T)):=by
 refine b0l T.c6r b5w (fun vs H Q E h=>?_) (fun cdv A outer s H vs Q E hr h=>?_)
 ·obtain⟨n,x,ls,xs,ss,st,told,m,rfl,_⟩:=h
  rfl
 ·obtain⟨n,x,ls,xs,ss,st,told,m,rfl,O,kk⟩:=h
  refine⟨_,(a0e (a1s (i:=2) b5w.nd rfl (Or.inl rfl) (a1q (pv 0) T.a0j T.a2o ((a3l T).mono (by decide)) hr T.a3g .nil (e2f fun _ _ _ z=>z) (a0a (pv 1) a0f)))
   (a0e (a1s (i:=3) b5w.nd rfl (Or.inl rfl) (a0t a2l (by rfl) T.b0z boot_len (a0a (a0i (K:=K) rfl (pv 0) rfl) a0f)))
   (a0e (e5k (pv 0) a0n f7f)
   (a0e (a2v (a3t (a9w (pv 2) T.a0q T.a5s ((a8x T).mono (by decide)) hr T.a7e .nil a1j))
   (a0g (a2t (a1q (pv 0) T.a0j T.a9m ((b5p T).mono (by decide)) hr T.b3a .nil a1j (a0a (pv 2) (a0a (a8b (a0a a2b a0f)) a0f)))))
   (a0g (a2t (a1q (pv 0) T.a0j T.b6e ((c6z T).mono (by decide)) hr T.b8d .nil a1j (a0a (pv 2) a0f)))))
   (a0g (a0s (b2c b9c (a0i (K:=K) rfl (pv 0) rfl) (b4s (pv 3)) c2p))))))),?_⟩
  rcases kk with ⟨i,s,q,rfl,hs,bg,eds,hq,hag,h63,h999,htold,hst,kk⟩ | ⟨bad,kk⟩ | ⟨i,s,b0,u,rfl,hs,bg,eds,htold,hB,hT,kk⟩
  ·have hi:i < xs.length:=by rw[O.len];exact(List.getElem?_eq_some_iff.mp hs).1
   obtain⟨d,hd⟩:∃ d,xs[i]?=some d:=⟨_,List.getElem?_eq_getElem hi⟩
   have D:=O.each i d s hd hs
   refine⟨_,rfl,x.h,x.hx,_,rfl,O.obj,rfl,_,rfl,x.h,x.hx,x.dl,b7x x st,_,_,rfl,O.obj,rfl,O.dls,fun i' u e1 e2=>?_,fun z=>absurd z (by rw[List.length_map];omega)⟩
   have ei:i'=i:=by omega
   subst ei
   have eu:u=.ref d.a:=by rw[List.getElem?_map,hd] at e2;exact(Option.some.inj e2).symm
   subst eu
   refine⟨_,rfl,x.h,_,x.hx,_,_,rfl,O.obj,T.a0j,T.a1a,rfl,?_⟩
   refine⟨_,_,rfl,.inl ⟨_,SqL.of O.tol,rfl⟩,?_⟩
   refine⟨_,rfl,x.h,_,x.hx,_,_,rfl,O.obj,T.a0j,T.a1o,rfl,st,1,rfl,rfl,x.hx,_,O.obj,(by show 6 < 1000;decide),?_⟩
   have eobj:H d.a=some (.ins T.a0m d.ax (c9o ((i':Int)+1) d.lv d.de d.na d.dr d.wr d.lo).fs):=by
    have:=D.obj
    unfold d6k at this
    rw[bg] at this
    exact this
   have edr:H d.dr=some (.dK []):=by have:=D.drf;unfold f8k at this;rw[bg] at this;exact this
   have ewr:H d.wr=some (.dK []):=by have:=D.wrt;unfold g0a at this;rw[bg] at this;exact this
   have ede:H d.de=some (.lst [.ref q]):=by rw[←eds];exact D.dee
   obtain⟨kvs,hsH,ekv⟩:=O.hs
   have ah:d.a≠x.h:=a8c eobj O.obj (by show ¬ 12=6;decide)
   rw[show c4u "stamp" (V.int (st+1)) (b7x x st).fs=(b7x x (st+1)).fs from rfl]
   have h1:=a0b (H:=H) (a:=x.h) (o:=HO.ins T.a0k x.hx (b7x x (st+1)).fs)
   have K1:But x.h H (upd H x.h (.ins T.a0k x.hx (b7x x (st+1)).fs)):=But.upd
   have N1:∀ b,upd H x.h (.ins T.a0k x.hx (b7x x (st+1)).fs) b=none→H b=none:=fun b z=>a1i z
   generalize upd H x.h (.ins T.a0k x.hx (b7x x (st+1)).fs)=H1 at h1 K1 N1 ⊢
   have a1:=K1 _ _ ah eobj
   refine⟨_,rfl,d.a,d.ax,_,rfl,a1,rfl,d.a,d.ax,c9o ((i':Int)+1) d.lv d.de d.na d.dr d.wr d.lo,"new",rfl,a1,rfl,_,rfl,a5n (fun z=>absurd z (by decide +kernel)) (fun _=>?_)⟩
   have mA:d.a∈xs.flatMap a4d∧d.dr∈xs.flatMap a4d∧d.wr∈xs.flatMap a4d:=by
    have md:d∈xs:=List.mem_of_getElem? hd
    exact⟨List.mem_flatMap.mpr ⟨d,md,by simp[a4d]⟩,List.mem_flatMap.mpr ⟨d,md,by simp[a4d]⟩,List.mem_flatMap.mpr ⟨d,md,by simp[a4d]⟩⟩
   have mF:∀ b∈b0x d,b∈a5l x xs:=fun b hb=>by
    have:b∈xs.flatMap b0x:=List.mem_flatMap.mpr ⟨d,List.mem_of_getElem? hd,hb⟩
    simp only [a5l,List.mem_cons]
    exact .inr (.inr (.inr this))
   have ndm:(xs.flatMap a4d).Nodup:=by
    have:=O.nd
    simp only [a3q,List.nodup_cons] at this
    exact(List.nodup_append.mp this.2.2.2).2.1
   have nd0:x.tl ∉ x.hd::(ls++xs.flatMap a4d)∧x.hd ∉ ls++xs.flatMap a4d∧(ls++xs.flatMap a4d).Nodup:=by
    have:=O.nd
    simp only [a3q,List.nodup_cons] at this
    exact⟨this.2.1,this.2.2.1,this.2.2.2⟩
   have drwr:d.dr≠d.wr:=by
    have:∀ {ys:List DA} {j:Nat},(ys.flatMap a4d).Nodup→ys[j]?=some d→d.dr≠d.wr:=by
     intro ys
     induction ys with
     | nil=>intro j _ e;simp at e
     | cons y ys ih =>
      intro j nd e
      have nd':(a4d y++ys.flatMap a4d).Nodup:=nd
      rw[List.nodup_append] at nd'
      cases j with
      | zero =>
       have e1:y=d:=by simpa using e
       subst e1
       have:=nd'.1
       simp[a4d] at this
       exact this.2
      | succ j=>exact ih nd'.2.1 (by simpa using e)
    exact this ndm hd
   have drhd:d.dr≠x.hd:=fun z=>nd0.2.1 (List.mem_append_right _ (z ▸ mA.2.1))
   have wrhd:d.wr≠x.hd:=fun z=>nd0.2.1 (List.mem_append_right _ (z ▸ mA.2.2))
   have tlls:x.tl ∉ ls:=fun z=>nd0.1 (List.mem_cons_of_mem _ (List.mem_append_left _ z))
   have inls:∀ b,V.ref b∈kvs.map (·.2) ↔ b∈ls:=fun b=>by rw[ekv];exact b3j
   have fixd:∀ b∈a5l x xs,b≠x.tl∧b≠x.hd∧b ∉ ls∧b ∉ xs.flatMap a4d:=fun b hb=>by
    have:=O.dis b hb
    simp only [a3q,List.mem_cons,List.mem_append,not_or] at this
    exact⟨this.2.1,this.2.2.1,this.2.2.2.1,this.2.2.2.2⟩
   have fde:=fixd d.de (mF _ (by simp[b0x]))
   have fna:=fixd d.na (mF _ (by simp[b0x]))
   have flo:=fixd d.lo (mF _ (by simp[b0x]))
   let e1:DF:={c9o ((i':Int)+1) d.lv d.de d.na d.dr d.wr d.lo with b:=.int (st+1),ph:=.str "going"}
   have B2:But d.a H1 (upd H1 d.a (.ins T.a0m d.ax e1.fs)):=But.upd
   have kd:∀ b o,H b=some o→(∀ C y fs,o≠.ins C y fs)→upd H1 d.a (.ins T.a0m d.ax e1.fs) b=some o:=fun b o e n=>B2 _ _ (fun z=>by rw[z,eobj] at e;cases e;exact n _ _ _ rfl) (K1 _ _ (fun z=>by rw[z,O.obj] at e;cases e;exact n _ _ _ rfl) e)
   have kl:∀ b C y fs,H b=some (.ins C y fs)→fs.length≠6→fs.length≠12→upd H1 d.a (.ins T.a0m d.ax e1.fs) b=some (.ins C y fs):=fun b C y fs e n1 n2=>B2 _ _ (a8c e eobj n2) (K1 _ _ (a8c e O.obj n1) e)
   have hs1:=hsH.but K1 O.obj (by show ¬ 6=1;decide)
   have hs2:=hs1.but B2 a1 (by show ¬ 12=1;decide)
   refine⟨_,rfl,x.h,x.hx,_,rfl,h1,rfl,_,rfl,?_⟩
   refine .inl ⟨x.h,x.hx,x.sh,x.sx,x.sd,d.a,d.ax,d.lv,d.lx,d.na,d.dr,d.wr,x.ho,x.hox,x.hd,x.tl,q,d.de,b7x x (st+1),c9o ((i':Int)+1) d.lv d.de d.na d.dr d.wr d.lo,s.lv,(i':Int)+1,st+1,s.k,s.v,[],[],kvs,m,told,rfl,rfl,a1,?_,?_,fun H3 r t kvs' L=>?_⟩
   ·exact⟨B2 _ _ ah.symm h1,rfl,rfl,rfl,rfl,kl _ _ _ _ O.shl (by show ¬ 1=6;decide) (by show ¬ 1=12;decide),kd _ _ O.mks (fun _ _ _ z=>by cases z),a0b,rfl,rfl,rfl,rfl,rfl,rfl,kl _ _ _ _ D.lev (by show ¬ 0=6;decide) (by show ¬ 0=12;decide),kd _ _ D.nam (fun _ _ _ z=>by cases z),kd _ _ edr (fun _ _ _ z=>by cases z),kd _ _ ewr (fun _ _ _ z=>by cases z),hs2,kd _ _ O.tol (fun _ _ _ z=>by cases z),kd _ _ hq (fun _ _ _ z=>by cases z),
     (by cases s.lv<;>first | rfl | exact decide_eq_false (by omega)),hag,h63,h999,(by show 0 < 1000;decide),(by show 0 < 1000;decide),(by omega),drwr,drhd,wrhd,fun z=>tlls ((inls _).mp z)⟩
   ·exact⟨rfl,rfl,kd _ _ ede (fun _ _ _ z=>by cases z),fde.1,fun z=>fde.2.2.1 ((inls _).mp z),fun z=>fna.2.2.2 (z ▸ mA.2.1),fun z=>fna.2.2.2 (z ▸ mA.2.2),fna.2.1⟩
   ·have hne:x.h ∉ [d.a,d.dr,d.wr,x.hd,x.tl]:=by
     simp only [List.mem_cons,List.not_mem_nil,or_false,not_or]
     refine⟨ah.symm,fun z=>?_,fun z=>?_,fun z=>?_,fun z=>?_⟩
     ·have:=O.obj;rw[z,edr] at this;cases this
     ·have:=O.obj;rw[z,ewr] at this;cases this
     ·have:=O.obj;rw[z,hsH.dict] at this;cases this
     ·have:=O.obj;rw[z,O.tol] at this;cases this
    have lst:∀ y,y∈ls→∃ us,H y=some (.lst us):=fun y z=>hsH.ent.tracked ((inls y).mpr z)
    have hls:x.h ∉ ls:=fun z=>by
     obtain⟨us,e⟩:=lst _ z
     rw[O.obj] at e
     cases e
    have h3:=L.fr _ _ h1 hne fun z=>hls ((inls _).mp z)
    have K3:∀ b o,H b=some o→b≠x.h→b ∉ [d.a,d.dr,d.wr,x.hd,x.tl]→b ∉ ls→H3 b=some o:=fun b o e n1 n2 n3=>L.fr b o (K1 _ _ n1 e) n2 fun z=>n3 ((inls _).mp z)
    have kM:∀ b o,H b=some o→b≠x.h→b≠x.hd→b≠x.tl→b ∉ ls→b ∉ a4d d→H3 b=some o:=fun b o e n1 n2 n3 n4 n5=>K3 b o e n1 (by
     simp only [a4d,List.mem_cons,List.not_mem_nil,or_false,not_or] at n5 ⊢
     exact⟨n5.1,n5.2.1,n5.2.2,n2,n3⟩) n4
    refine⟨_,rfl,x.h,_,x.hx,_,_,rfl,h3,T.a0j,T.a1a,rfl,?_⟩
    refine⟨_,rfl,_,rfl,x.tl,_,rfl,SqL.of L.tol,fun p hp=>?_⟩
    rw[e0u,List.drop_left]
    have s4:=Same.upd (o:=HO.lst [V.ref r]) hp
    have p4:=a0b (H:=H3) (a:=p) (o:=HO.lst [V.ref r])
    generalize upd H3 p (.lst [V.ref r])=H4 at s4 p4 ⊢
    obtain⟨ls',els⟩:=L.hs.ent.refs
    have in':∀ b,b∈ls'→b∈ls∨H b=none:=fun b hb=>(L.grew b (by rw[els];exact b3j.mpr hb)).imp (inls b).mp (N1 b)
    let d':DA:={d with wa:=.ref t}
    have fm:(xs.set i' d').flatMap a4d=xs.flatMap a4d:=d3q (d:=d) (d':=d') (show a4d d'=a4d d from rfl) hd
    have ff:(xs.set i' d').flatMap b0x=xs.flatMap b0x:=d3q (d:=d) (d':=d') (show b0x d'=b0x d from rfl) hd
    have em:a3q x ls' (xs.set i' d')=x.h::x.tl::x.hd::(ls'++xs.flatMap a4d):=by unfold a3q;rw[fm]
    have ef:a5l x (xs.set i' d')=a5l x xs:=by unfold a5l;rw[ff]
    have mt:∀ b∈xs.flatMap a4d,H b≠none:=fun b hb=>by
     obtain⟨y,hy,hb⟩:=List.mem_flatMap.mp hb
     obtain⟨j,hj⟩:=List.getElem?_of_mem hy
     have hjs:j < ss.length:=by rw[←O.len];exact(List.getElem?_eq_some_iff.mp hj).1
     have ok:=O.each j y ss[j] hj (List.getElem?_eq_getElem hjs)
     simp only [a4d,List.mem_cons,List.not_mem_nil,or_false] at hb
     rcases hb with rfl | rfl | rfl
     ·rw[ok.obj];simp
     ·rw[ok.drf];simp
     ·rw[ok.wrt];simp
    have ft:∀ b∈a5l x xs,H b≠none:=fun b hb=>by
     have hb:b=x.sd∨b=x.dl∨b=x.sp∨b∈xs.flatMap b0x:=by simpa [a5l] using hb
     rcases hb with rfl | rfl | rfl | hb
     ·rw[O.mks];simp
     ·rw[O.dls];simp
     ·rw[O.sps];simp
     ·obtain⟨y,hy,hb⟩:=List.mem_flatMap.mp hb
      obtain⟨j,hj⟩:=List.getElem?_of_mem hy
      have hjs:j < ss.length:=by rw[←O.len];exact(List.getElem?_eq_some_iff.mp hj).1
      have ok:=O.each j y ss[j] hj (List.getElem?_eq_getElem hjs)
      simp only [b0x,List.mem_cons,List.not_mem_nil,or_false] at hb
      rcases hb with rfl | rfl | rfl
      ·rw[ok.dee];simp
      ·rw[ok.nam];simp
      ·rw[ok.lok];simp
    have nIns:∀ b o,H b=some o→(∀ C y fs,o≠.ins C y fs)→b≠x.h:=fun b o e n z=>by rw[z,O.obj] at e;cases e;exact n _ _ _ rfl
    have kI:∀ b C y fs,H b=some (.ins C y fs)→fs.length≠6→fs.length≠12→H3 b=some (.ins C y fs):=fun b C y fs e n1 n2=>kM b _ e (a8c e O.obj n1) (fun z=>by rw[z,hsH.dict] at e;cases e) (fun z=>by rw[z,O.tol] at e;cases e) (fun z=>by
      obtain⟨us,e2⟩:=lst b z
      rw[e] at e2
      cases e2) (by
      simp only [a4d,List.mem_cons,List.not_mem_nil,or_false,not_or]
      exact⟨a8c e eobj n2,(fun z=>by rw[z,edr] at e;cases e),(fun z=>by rw[z,ewr] at e;cases e)⟩)
    have kF:∀ b o,b∈a5l x xs→H b=some o→(∀ C y fs,o≠.ins C y fs)→H3 b=some o:=fun b o hb e n=>by
     obtain⟨f1,f2,f3,f4⟩:=fixd b hb
     exact kM b o e (nIns b o e n) f2 f1 f3 fun z=>f4 (List.mem_flatMap.mpr ⟨d,List.mem_of_getElem? hd,z⟩)
    have inF:∀ (j:Nat) (y:DA),xs[j]?=some y→∀ b∈b0x y,b∈a5l x xs:=fun j y hy b hb=>by
     have:b∈xs.flatMap b0x:=List.mem_flatMap.mpr ⟨y,List.mem_of_getElem? hy,hb⟩
     simp only [a5l,List.mem_cons]
     exact .inr (.inr (.inr this))
    have lsm:∀ b∈xs.flatMap a4d,b ∉ ls:=fun b hb z=>(List.nodup_append.mp nd0.2.2).2.2 b z b hb rfl
    have kD:∀ (j:Nat) (y:DA) b o,xs[j]?=some y→j≠i'→b∈a4d y→H b=some o→b≠x.h→b≠x.tl→H3 b=some o:=fun j y b o hy nj hb e n1 n2=>by
     have hm:b∈xs.flatMap a4d:=List.mem_flatMap.mpr ⟨y,List.mem_of_getElem? hy,hb⟩
     exact kM b o e n1 (fun z=>nd0.2.1 (List.mem_append_right _ (z ▸ hm))) n2 (lsm b hm) fun z=>e6k ndm hd hy (fun q=>nj q.symm) z hb
    have mt3:∀ b∈xs.flatMap a4d,H3 b≠none:=fun b hb=>by
     obtain⟨y,hy,hb2⟩:=List.mem_flatMap.mp hb
     obtain⟨j,hj⟩:=List.getElem?_of_mem hy
     by_cases nj:j=i'
     ·subst nj
      rw[hd] at hj
      cases hj
      simp only [a4d,List.mem_cons,List.not_mem_nil,or_false] at hb2
      rcases hb2 with rfl | rfl | rfl
      ·rw[L.obj];simp
      ·rw[L.drf];simp
      ·rw[L.wrt];simp
     ·cases e:H b with
      | none=>exact absurd e (mt b hb)
      | some o =>
       have nn:=O.nd
       simp only [a3q,List.nodup_cons,List.mem_cons,List.mem_append,not_or] at nn
       rw[kD j y b o hj nj hb2 e (fun z=>nn.1.2.2.2 (z ▸ hb)) (fun z=>nn.2.1.2.2 (z ▸ hb))]
       simp
    have O':b2w K T.a0k T.a0m T.a1t T.a1d (cO T) H4 x ls' (xs.set i' d') (ss.set i' {s with bg:=some (st+1)}) (st+1) (told++[.ref r]) (d7y m ((i':Int)+1) (s.k,s.k,true)):=by
     refine⟨s4 _ _ h3,s4 _ _ (kI _ _ _ _ O.shl (by show ¬ 1=6;decide) (by show ¬ 1=12;decide)),s4 _ _ (kF _ _ (by simp[a5l]) O.mks (fun _ _ _ z=>by cases z)),⟨kvs',L.hs.same s4,els⟩,?_,by simp[O.len],fun j y sy e1 e2=>?_,s4 _ _ (kF _ _ (by simp[a5l]) O.sps (fun _ _ _ z=>by cases z)),s4 _ _ L.tol,?_,?_⟩
     ·rw[d1e (f:=fun d=>V.ref d.a) (d:=d) (d':=d') rfl hd]
      exact s4 _ _ (kF _ _ (by simp[a5l]) O.dls (fun _ _ _ z=>by cases z))
     ·by_cases nj:j=i'
      ·subst nj
       have e3:y=d':=by rw[List.getElem?_set_self hi] at e1;exact(Option.some.inj e1).symm
       have e4:sy={s with bg:=some (st+1)}:=by rw[List.getElem?_set_self (by rw[←O.len];exact hi)] at e2;exact(Option.some.inj e2).symm
       subst e3 e4
       exact⟨s4 _ _ L.obj,s4 _ _ (kI _ _ _ _ D.lev (by show ¬ 0=6;decide) (by show ¬ 0=12;decide)),s4 _ _ (kF d.de _ (inF j d hd d.de (by simp[b0x])) D.dee (fun _ _ _ z=>by cases z)),s4 _ _ (kF d.na _ (inF j d hd d.na (by simp[b0x])) D.nam (fun _ _ _ z=>by cases z)),s4 _ _ L.drf,s4 _ _ L.wrt,s4 _ _ (kF d.lo _ (inF j d hd d.lo (by simp[b0x])) D.lok (fun _ _ _ z=>by cases z))⟩
      ·rw[List.getElem?_set_ne (fun z=>nj z.symm)] at e1 e2
       have ok:=O.each j y sy e1 e2
       exact⟨s4 _ _ (kD j y _ _ e1 nj (by simp[a4d]) ok.obj (a8c ok.obj O.obj (by show ¬ 12=6;decide)) (fun z=>by have:=ok.obj;rw[z,O.tol] at this;cases this)),s4 _ _ (kI _ _ _ _ ok.lev (by show ¬ 0=6;decide) (by show ¬ 0=12;decide)),s4 _ _ (kF _ _ (inF j y e1 _ (by simp[b0x])) ok.dee (fun _ _ _ z=>by cases z)),s4 _ _ (kF _ _ (inF j y e1 _ (by simp[b0x])) ok.nam (fun _ _ _ z=>by cases z)),s4 _ _ (kD j y _ _ e1 nj (by simp[a4d]) ok.drf (nIns _ _ ok.drf (fun _ _ _ z=>by cases z)) (fun z=>by have:=ok.drf;rw[z,O.tol] at this;cases this)),s4 _ _ (kD j y _ _ e1 nj (by simp[a4d]) ok.wrt (nIns _ _ ok.wrt (fun _ _ _ z=>by cases z)) (fun z=>by have:=ok.wrt;rw[z,O.tol] at this;cases this)),s4 _ _ (kF _ _ (inF j y e1 _ (by simp[b0x])) ok.lok (fun _ _ _ z=>by cases z))⟩
     ·rw[em]
      have nn:=O.nd
      simp only [a3q,List.nodup_cons,List.mem_cons,List.mem_append,not_or] at nn ⊢
      refine⟨⟨nn.1.1,nn.1.2.1,fun z=>(in' _ z).elim nn.1.2.2.1 fun y=>?_,nn.1.2.2.2⟩,⟨nn.2.1.1,fun z=>(in' _ z).elim nn.2.1.2.1 fun y=>?_,nn.2.1.2.2⟩,⟨fun z=>(in' _ z).elim nn.2.2.1.1 fun y=>?_,nn.2.2.1.2⟩,?_⟩
      ·rw[O.obj] at y;cases y
      ·rw[O.tol] at y;cases y
      ·rw[hsH.dict] at y;cases y
      ·rw[List.nodup_append]
       refine⟨f3d (els ▸ L.hs.vals),ndm,fun a ha b hb z=>?_⟩
       subst z
       exact(in' _ ha).elim (lsm _ hb) (mt _ hb)
     ·rw[em,ef]
      intro b hb
      have nn:=O.dis b hb
      simp only [a3q,List.mem_cons,List.mem_append,not_or] at nn ⊢
      refine⟨nn.1,nn.2.1,nn.2.2.1,fun z=>(in' _ z).elim nn.2.2.2.1 fun y=>?_,nn.2.2.2.2⟩
      exact ft b hb y
    refine kk H4 p r ls' (xs.set i' d') O' ef (s4 _ _ L.rw') p4 (fun b o e n=>?_) (fun b hb=>?_) ?_
    ·simp only [a3q,List.mem_cons,List.mem_append,not_or] at n
     exact s4 _ _ (kM b o e n.1 n.2.2.1 n.2.1 n.2.2.2.1 fun z=>n.2.2.2.2 (List.mem_flatMap.mpr ⟨d,List.mem_of_getElem? hd,z⟩))
    ·rw[em] at hb
     simp only [a3q,List.mem_cons,List.mem_append] at hb ⊢
     rcases hb with z | z | z | z | z
     ·exact .inl (.inl z)
     ·exact .inl (.inr (.inl z))
     ·exact .inl (.inr (.inr (.inl z)))
     ·exact(in' b z).imp (fun y=>.inr (.inr (.inr (.inl y)))) id
     ·exact .inl (.inr (.inr (.inr (.inr z))))
    ·rw[em]
     simp only [List.mem_cons,List.mem_append,not_or]
     refine⟨fun z=>?_,fun z=>?_,fun z=>?_,fun z=>?_,fun z=>mt3 p z hp⟩
     ·rw[z,h3] at hp;cases hp
     ·rw[z,L.tol] at hp;cases hp
     ·rw[z,L.hs.dict] at hp;cases hp
     ·obtain⟨us,e⟩:=L.hs.ent.tracked (by rw[els];exact b3j.mpr z)
      rw[hp] at e
      cases e
  ·refine⟨_,rfl,x.h,x.hx,_,rfl,O.obj,rfl,_,rfl,x.h,x.hx,x.dl,b7x x st,n,_,rfl,O.obj,rfl,O.dls,fun i u e1 e2=>?_,fun _=>kk⟩
   have:=(List.getElem?_eq_some_iff.mp e2).1
   rw[List.length_map] at this
   omega
  ·have hi:i < xs.length:=by rw[O.len];exact(List.getElem?_eq_some_iff.mp hs).1
   obtain⟨d,hd⟩:∃ d,xs[i]?=some d:=⟨_,List.getElem?_eq_getElem hi⟩
   have D:=O.each i d s hd hs
   refine⟨_,rfl,x.h,x.hx,_,rfl,O.obj,rfl,_,rfl,x.h,x.hx,x.dl,b7x x st,_,_,rfl,O.obj,rfl,O.dls,fun i' u' e1 e2=>?_,fun z=>absurd z (by rw[List.length_map];omega)⟩
   have ei:i'=i:=by omega
   subst ei
   have eu:u'=.ref d.a:=by rw[List.getElem?_map,hd] at e2;exact(Option.some.inj e2).symm
   subst eu
   refine⟨_,rfl,x.h,_,x.hx,_,_,rfl,O.obj,T.a0j,T.a1a,rfl,?_⟩
   refine⟨_,_,rfl,.inl ⟨_,SqL.of O.tol,rfl⟩,?_⟩
   refine⟨_,rfl,x.h,_,x.hx,_,_,rfl,O.obj,T.a0j,T.a1o,rfl,st,1,rfl,rfl,x.hx,_,O.obj,(by show 6 < 1000;decide),?_⟩
   let e0:DF:=⟨.int ((i':Int)+1),.ref d.lv,.ref d.de,.int 1,.ref d.na,.str "going",.int b0,.non,d.wa,.ref d.dr,.ref d.wr,.ref d.lo⟩
   have eobj:H d.a=some (.ins T.a0m d.ax e0.fs):=by
    have:=D.obj
    unfold d6k at this
    rw[bg] at this
    exact this
   have edr:H d.dr=some (.dK [(Sum.inl s.k,.int s.v)]):=by have:=D.drf;unfold f8k at this;rw[bg] at this;exact this
   have ede:H d.de=some (.lst [u]):=by rw[←eds];exact D.dee
   obtain⟨kvs,hsH,ekv⟩:=O.hs
   have ah:d.a≠x.h:=a8c eobj O.obj (by show ¬ 12=6;decide)
   rw[show c4u "stamp" (V.int (st+1)) (b7x x st).fs=(b7x x (st+1)).fs from rfl]
   have h1:=a0b (H:=H) (a:=x.h) (o:=HO.ins T.a0k x.hx (b7x x (st+1)).fs)
   have K1:But x.h H (upd H x.h (.ins T.a0k x.hx (b7x x (st+1)).fs)):=But.upd
   generalize upd H x.h (.ins T.a0k x.hx (b7x x (st+1)).fs)=H1 at h1 K1 ⊢
   have a1:=K1 _ _ ah eobj
   refine⟨_,rfl,d.a,d.ax,_,rfl,a1,rfl,d.a,d.ax,e0,"going",rfl,a1,rfl,_,rfl,a5n (fun z=>absurd z (by decide +kernel)) (fun _=>?_)⟩
   have md:d∈xs:=List.mem_of_getElem? hd
   have mA:d.a∈xs.flatMap a4d∧d.dr∈xs.flatMap a4d:=⟨List.mem_flatMap.mpr ⟨d,md,by simp[a4d]⟩,List.mem_flatMap.mpr ⟨d,md,by simp[a4d]⟩⟩
   have nn:=O.nd
   simp only [a3q,List.nodup_cons,List.mem_cons,List.mem_append,not_or] at nn
   have inls:∀ b,V.ref b∈kvs.map (·.2) ↔ b∈ls:=fun b=>by rw[ekv];exact b3j
   have nsd:=O.dis x.sd (by simp[a5l])
   simp only [a3q,List.mem_cons,List.mem_append,not_or] at nsd
   have kd:∀ b o,H b=some o→(∀ C y fs,o≠.ins C y fs)→H1 b=some o:=fun b o e n=>K1 _ _ (fun z=>by rw[z,O.obj] at e;cases e;exact n _ _ _ rfl) e
   have kl:∀ b C y fs,H b=some (.ins C y fs)→fs.length≠6→H1 b=some (.ins C y fs):=fun b C y fs e n1=>K1 _ _ (a8c e O.obj n1) e
   refine⟨_,rfl,x.h,x.hx,_,rfl,h1,rfl,_,rfl,?_⟩
   refine .inr ⟨x.h,x.hx,x.sh,x.sx,x.sd,x.sp,d.a,d.ax,d.lv,d.lx,d.lo,d.dr,x.ho,x.hox,x.hd,x.tl,d.de,b7x x (st+1),e0,s.lv,(i':Int)+1,b0,st+1,s.k,s.v,kvs,m,told,u,rfl,hB,?_,rfl,rfl,kd _ _ ede (fun _ _ _ z=>by cases z),rfl,fun H3 r y d' hh3 etl htl3 hr3 fr3=>?_⟩
   ·exact⟨h1,rfl,rfl,rfl,rfl,rfl,kl _ _ _ _ O.shl (by show ¬ 1=6;decide),kd _ _ O.mks (fun _ _ _ z=>by cases z),kd _ _ O.sps (fun _ _ _ z=>by cases z),a1,rfl,rfl,rfl,rfl,rfl,kl _ _ _ _ D.lev (by show ¬ 0=6;decide),kd _ _ D.lok (fun _ _ _ z=>by cases z),kd _ _ edr (fun _ _ _ z=>by cases z),hsH.but K1 O.obj (by show ¬ 6=1;decide),kd _ _ O.tol (fun _ _ _ z=>by cases z),(by omega),f8b hT O.obj K1,(fun z=>nsd.2.2.2.2 (z ▸ mA.2)),(fun z=>nsd.2.2.1 z.symm),(fun z=>nn.2.2.1.2 (z ▸ mA.2)),fun z=>nn.2.1.2.1 ((inls _).mp z)⟩
   ·refine⟨_,rfl,x.h,_,x.hx,_,_,rfl,hh3,T.a0j,T.a1a,rfl,?_⟩
    refine⟨_,rfl,_,rfl,x.tl,_,etl,SqL.of htl3,fun p hp=>?_⟩
    rw[e0u,List.drop_left]
    have s4:=Same.upd (o:=HO.lst [V.ref r]) hp
    refine kk _ p r y a0b (s4 _ _ hr3) fun b o e nt nm nsd2=>s4 _ _ (fr3 b o ?_ nt ?_ ?_)
    ·simp only [a3q,List.mem_cons,List.mem_append,not_or] at nm
     exact K1 _ _ nm.1 e
    ·simp only [a3q,List.mem_cons,List.mem_append,not_or] at nm
     simp only [List.mem_cons,List.not_mem_nil,or_false,not_or]
     exact⟨nm.1,fun z=>nm.2.2.2.2 (z ▸ mA.1),nm.2.1,nm.2.2.1,nsd2,fun z=>nm.2.2.2.2 (z ▸ mA.2)⟩
    ·simp only [a3q,List.mem_cons,List.mem_append,not_or] at nm
     exact fun z=>nm.2.2.2.1 ((inls _).mp z)
--@STAGE
def f1i (C N:Addr):Sp:=fun vs H _ E=>∃ (h dx dl nl:Addr) (d:HF) (us:List V) (ns:List Int) (j:Nat) (nj:Int),vs=[.ref h,.ref nl]∧H h=some (.ins C dx d.fs)∧d.dl=.ref dl∧H dl=some (.lst us)∧H nl=some (.lst (ns.map V.int))∧ns.length < 1000∧ns[j]?=some nj∧(nj < 1∨(us.length:Int) < nj)∧(∀ (i:Nat) n,i < j→ns[i]?=some n→1≤n∧n≤us.length)∧∀ H',Same H H'→E (.ref N) none H'
def f5b (C:Addr):Sp:=fun vs H Q _=>∃ (h dx dl tl:Addr) (d:HF),vs=[.ref h]∧H h=some (.ins C dx d.fs)∧d.dl=.ref dl∧H dl=some (.lst [])∧d.tl=.ref tl∧H tl=some (.lst [])∧∀ p H',H p=none→Same H H'→H' p=some (.lst [])→Q (.ref p) H'
def e9e (C:Addr):Sp:=fun vs H Q _=>∃ (h dx sp:Addr) (d:HF),vs=[.ref h]∧H h=some (.ins C dx d.fs)∧d.sp=.ref sp∧H sp=some (.lst [])∧∀ p H',H p=none→Same H H'→H' p=some (.lst [])→Q (.ref p) H'
theorem d3v (T:Tx K mg):a2j P w K mg base (CXW P w) 12 T.a9j T.a9p ["self","numbers"] (f1i T.a0k T.a0r):=by
 refine b0l T.c3o a8t (fun vs H Q E h=>?_) (fun cdv A outer s H vs Q E hr h=>?_)
 ·obtain⟨h,dx,dl,nl,d,us,ns,j,nj,rfl,_⟩:=h
  rfl
 ·obtain⟨h,dx,dl,nl,d,us,ns,j,nj,rfl,hh,hd,hl,hn,h1000,hj,bad,good,kk⟩:=h
  refine⟨_,(a0e (e6u (E:=E) (i:=2) ["number"] rfl rfl rfl rfl (fun _ _ h=>h) a8t.nd rfl rfl (a4o.mk (fv:=["self"]) (js:=[0]) rfl (by decide +kernel) (by decide +kernel) (by decide +kernel) (a3s (Or.inl rfl) a7a) rfl (by decide +kernel)) (a3a (pv 1)) rfl (fun _ _ _ _ _=>(a1m (i:=0) (show (["number","self"]:List Str).Nodup by decide +kernel) rfl (Or.inl rfl))) (fun _ _ _ _ _=>d1u) (fun E1 _ _ _ _ _=>(a1q (pv 1) T.a0j T.a2o ((a3l T).mono (by decide)) hr T.a3g .nil f5v (a0a (pv 0) a0f))))
   (a0e (a1s (i:=3) a8t.nd rfl (Or.inl rfl) (a0t a2l (by rfl) T.b0z boot_len (a0a (a0i (K:=K) rfl (pv 0) rfl) a0f)))
   (a0e (f2i (a8d PassesOwn.never rfl (a3a (pv 2)) (a1m (i:=4) a8t.nd rfl (Or.inl rfl))
   (a0g a4t)))
   (a0g (a0s (b2c b9c (a0i (K:=K) rfl (pv 0) rfl) (b4s (pv 3)) c2p)))))),?_⟩
  have z1000:(1000:Nat)≤sizeLine:=by decide
  refine⟨_,rfl,nl,rfl,⟨_,SqL.of hn⟩,?_⟩
  refine d7u (k:=1) (fs:=[some (.ref h)]) (fun i=>i≤j) ns.length (fun i=>us.getD ((ns.getD i 1) - 1).toNat .non) rfl (Nat.zero_le _) (by omega) (fun i H2 ss hi=>(a1g (SqL.of (ss _ _ hn))).go i (by simpa using hi)) (fun H2 ss=>(a1g (SqL.of (ss _ _ hn))).stop _ (by simp)) ?_ ?_
  ·rintro i H2 ts v H3 R hP ss hi hts ⟨rfl,hy⟩ cb
   obtain⟨t,rfl⟩:=List.length_eq_one_iff.mp hts
   have ev:=hy _ (SqL.of (ss _ _ hn))
   rw[List.getElem?_map,List.getElem?_eq_getElem hi] at ev
   cases ev
   refine⟨_,rfl,h,dx,_,rfl,ss _ _ hh,rfl,_,rfl,h,dx,dl,d,ns[i],us,rfl,ss _ _ hh,hd,ss _ _ hl,fun i' u e1 e2=>?_,fun _ H' s'=>kk H' (ss.trans s')⟩
   have e0:ns.getD i 1=ns[i]:=by rw[List.getD_eq_getElem?_getD,List.getElem?_eq_getElem hi];rfl
   have eu:us.getD (ns[i] - 1).toNat .non=u:=by rw[e1,show ((i':Int)+1 - 1).toNat=i' by omega,List.getD_eq_getElem?_getD,e2];rfl
   have lt:i < j:=by
    rcases Nat.lt_or_ge i j with q | q
    ·exact q
    ·have:i=j:=by omega
     subst this
     rw[List.getElem?_eq_getElem hi] at hj
     cases hj
     have:=(List.getElem?_eq_some_iff.mp e2).1
     omega
   have hcb:=cb [some (.int ns[i])] H3 lt rfl (Same.refl _)
   simp only [e0,eu] at hcb
   exact hcb
  ·intro z
   have:=(List.getElem?_eq_some_iff.mp hj).1
   omega
theorem d7p (T:Tx K mg):a2j P w K mg base CX0 12 T.b2b T.b3e ["self"] (f5b T.a0k):=by
 refine T.c5p.ok b4f (fun vs H Q E h=>?_) (fun cdv A outer s H vs Q E hr h=>?_)
 ·obtain⟨h,dx,dl,tl,d,rfl,_⟩:=h
  rfl
 ·obtain⟨h,dx,dl,tl,d,rfl,hh,ed,hl,et,ht,kk⟩:=h
  refine⟨_,(a0e (a1s (i:=1) b4f.nd rfl (Or.inl rfl) (a0t a2l (by rfl) T.b0z boot_len (a0a (a0i (K:=K) rfl (pv 0) rfl) a0f)))
   (a0e (f1f PassesOwn.never (b8g (a3t (a0t (e7g rfl) (by rfl) T.e9l boot_all (a0a (b1l ["deal"] rfl (a4o.mk (fv:=[]) (js:=[]) rfl (by decide +kernel) (by decide +kernel) (by decide +kernel) a7a rfl (by decide +kernel)) (a3a (a0i (K:=K) rfl (pv 0) rfl)) (fun _ _ _ _ _=>(a1m (i:=0) (show (["deal"]:List Str).Nodup by decide +kernel) rfl (Or.inl rfl))) (fun _ _ _ _ _=>d1u) (fun _ _ _ _ _=>(a9w (pv 0) T.a0q T.a5s ((a8x T).mono (by decide)) hr T.a7e .nil a1j))) a0f))))
   (a0g (a8d PassesOwn.never rfl (a3a (a0i (K:=K) rfl (pv 0) rfl)) (a1m (i:=2) b4f.nd rfl (Or.inl rfl))
   (a0g (a2v (b8g (a3t (a9w (pv 2) T.a0q T.a5s ((a8x T).mono (by decide)) hr T.a7e .nil a1j)))
   (a0g a4t)
   a1e)))))
   (a0g (a0s (b2c b9c (a0i (K:=K) rfl (pv 0) rfl) (b4s (pv 1)) c2p))))),?_⟩
  refine⟨_,rfl,h,_,dx,_,_,rfl,hh,T.a0j,T.a1a,rfl,?_⟩
  rw[et]
  refine⟨_,_,rfl,.inl ⟨_,SqL.of ht,rfl⟩,?_⟩
  refine⟨fun m σ H2=>m=0∧σ=[some (.ref h),some (.int 0),none]∧H2=H,⟨0,rfl,rfl,rfl⟩,?_⟩
  rintro m σ H2 ⟨rfl,rfl,rfl⟩
  refine⟨_,rfl,h,_,dx,_,_,rfl,hh,T.a0j,T.a4k,rfl,?_⟩
  rw[ed]
  refine⟨dl,rfl,⟨_,SqL.of hl⟩,c1x (fun H3 s3=>(a1g (SqL.of (s3 _ _ hl))).stop _ (Nat.le_refl _)) fun D H3 hD s3 hDl=>?_⟩
  refine⟨D,[],rfl,SqL.of hDl,_,rfl,d0e ?_⟩
  refine⟨_,rfl,h,_,dx,_,_,rfl,s3 _ _ hh,T.a0j,T.a1a,rfl,?_⟩
  rw[et]
  refine⟨_,rfl,_,rfl,tl,_,rfl,SqL.of (s3 _ _ ht),fun p hp=>?_⟩
  exact kk p _ (s3.free hp) (s3.trans (Same.upd hp)) a0b
theorem d3u (T:Tx K mg):a2j P w K mg base CX0 12 T.a9k T.b0a ["self"] (e9e T.a0k):=by
 refine T.c4i.ok b2d (fun vs H Q E h=>?_) (fun cdv A outer s H vs Q E hr h=>?_)
 ·obtain⟨h,dx,sp,d,rfl,_⟩:=h
  rfl
 ·obtain⟨h,dx,sp,d,rfl,hh,ed,hl,kk⟩:=h
  refine⟨_,(a0e (a1s (i:=1) b2d.nd rfl (Or.inl rfl) (a3k a0f))
   (a0e (a8d PassesOwn.never rfl (a3a (a0i (K:=K) rfl (pv 0) rfl)) (a1m (i:=2) b2d.nd rfl (Or.inr rfl))
   (a0e a4t
   (a0e a4t
   (a0e a4t
   (a0g a4t)))))
   (a0g (a0s (b1l ["spot"] rfl (a4o.mk (fv:=[]) (js:=[]) rfl (by decide +kernel) (by decide +kernel) (by decide +kernel) a7a rfl (by decide +kernel)) (a3a (a0t d7r (by rfl) T.a9o boot_sorted (a0a (pv 1) a0f))) (fun _ _ _ _ _=>(a1m (i:=0) (show (["spot"]:List Str).Nodup by decide +kernel) rfl (Or.inl rfl))) (fun _ _ _ _ _=>d1u) (fun _ _ _ _ _=>d2v)))))),?_⟩
  refine⟨(by show 0≤sizeLine;decide),fun p0 hp0=>?_⟩
  have s0:=Same.upd (o:=HO.lst []) hp0
  refine⟨_,rfl,h,_,dx,_,_,rfl,s0 _ _ hh,T.a0j,T.a4j,rfl,?_⟩
  rw[ed]
  refine⟨sp,rfl,⟨_,SqL.of (s0 _ _ hl)⟩,b3d (K:=K) (a:=sp) (xs:=[]) (fun i σ H2=>H2=upd H p0 (.lst [])∧∃ x2 x3 x4 x5,σ=[some (.ref h),some (.ref p0),x2,x3,x4,x5]) ⟨rfl,none,none,none,none,rfl⟩ (fun i σ H2 _ z=>z.1 ▸ SqL.of (s0 _ _ hl)) (fun i y σ H2 hy=>by simp at hy) ?_⟩
  rintro σ H2 ⟨rfl,x2,x3,x4,x5,rfl⟩
  refine⟨_,rfl,p0,[],rfl,a0b,(by show 0 < 64;decide),fun p1 hp1=>?_⟩
  rw[show (b0p ([]:List Int)).map V.int=[] by rw[(a5m []).eq_nil];rfl]
  have s1:=Same.upd (o:=HO.lst []) hp1
  refine⟨p1,rfl,⟨_,SqL.of a0b⟩,c1x (fun H3 s3=>(a1g (SqL.of (s3 _ _ a0b))).stop _ (Nat.le_refl _)) fun D H3 hD s3 hDl=>?_⟩
  exact kk D H3 (s0.free (s1.free hD)) (s0.trans (s1.trans s3)) hDl
--@STAGE
theorem e7n:PySem.W.kitOne K (.type "list") (.type "list")=some true:=by
 show (if (Value.type "list" == Value.type "list")=true then some true else if PySem.W.kitMeta "list"=true then (fastBuiltinMro "list").map (·.contains (Value.type "list")) else none)=some true
 decide +kernel
theorem f5w:PySem.W.kitOne K (.type "list") (.type "tuple")=some false:=by
 show (if (Value.type "list" == Value.type "tuple")=true then some true else if PySem.W.kitMeta "tuple"=true then (fastBuiltinMro "list").map (·.contains (Value.type "tuple")) else none)=some false
 decide +kernel
theorem f2l:PySem.W.kitOne K (.type "tuple") (.type "list")=some false:=by
 show (if (Value.type "tuple" == Value.type "list")=true then some true else if PySem.W.kitMeta "list"=true then (fastBuiltinMro "tuple").map (·.contains (Value.type "list")) else none)=some false
 decide +kernel
theorem f6e:PySem.W.kitOne K (.type "int") (.type "list")=some false:=by
 show (if (Value.type "int" == Value.type "list")=true then some true else if PySem.W.kitMeta "list"=true then (fastBuiltinMro "int").map (·.contains (Value.type "list")) else none)=some false
 decide +kernel
theorem f7h:PySem.W.kitOne K (.type "int") (.type "tuple")=some false:=by
 show (if (Value.type "int" == Value.type "tuple")=true then some true else if PySem.W.kitMeta "tuple"=true then (fastBuiltinMro "int").map (·.contains (Value.type "tuple")) else none)=some false
 decide +kernel
theorem f8f:PySem.W.kitOne K (.type "str") (.type "list")=some false:=by
 show (if (Value.type "str" == Value.type "list")=true then some true else if PySem.W.kitMeta "list"=true then (fastBuiltinMro "str").map (·.contains (Value.type "list")) else none)=some false
 decide +kernel
theorem f5m:PySem.W.kitOne K (.type "str") (.type "tuple")=some false:=by
 show (if (Value.type "str" == Value.type "tuple")=true then some true else if PySem.W.kitMeta "tuple"=true then (fastBuiltinMro "str").map (·.contains (Value.type "tuple")) else none)=some false
 decide +kernel
theorem f5q:PySem.W.kitAny K (.type "int") (["list","tuple"].map Value.type)=some false:=by
 show PySem.W.kitAny K (.type "int") [.type "list",.type "tuple"]=_
 simp only [PySem.W.kitAny,f6e,f7h]
theorem f6z:PySem.W.kitAny K (.type "str") (["list","tuple"].map Value.type)=some false:=by
 show PySem.W.kitAny K (.type "str") [.type "list",.type "tuple"]=_
 simp only [PySem.W.kitAny,f8f,f5m]
theorem f6p:PySem.W.kitAny K (.type "list") (["list","tuple"].map Value.type)=some true:=by
 show PySem.W.kitAny K (.type "list") [.type "list",.type "tuple"]=_
 simp only [PySem.W.kitAny,e7n]
theorem f8h:PySem.W.kitAny K (.type "tuple") (["list","tuple"].map Value.type)=some true:=by
 show PySem.W.kitAny K (.type "tuple") [.type "list",.type "tuple"]=_
 simp only [PySem.W.kitAny,f2l,e6n]
theorem c5q:∀ {ds:List PyData} {i:Nat} {d:PyData},ds[i]?=some d→d.depth≤PyData.depthAll ds
 | [],i,d,e=>by simp at e
 | x::r,0,d,e=>by
  cases e
  show x.depth≤max x.depth (PyData.depthAll r)
  omega
 | x::r,i+1,d,e=>by
  have:=c5q (ds:=r) (i:=i) (d:=d) (by simpa using e)
  show d.depth≤max x.depth (PyData.depthAll r)
  omega
def c6h (n:Nat):Sp:=fun vs H Q _=>∃ (v u:V) (d:PyData),vs=[v,u]∧Tr H v d∧Tr H u d∧d.depth < n∧∀ H',Same H H'→Q (.bl true) H'
theorem e2c (T:Tx K mg):a2j P w K mg base CX0 0 T.b5v T.b4n ["_law_found","_law_due"] (c6h 0) :=
 ⟨fun vs H Q E h=>by obtain⟨v,u,d,rfl,_⟩:=h;rfl,fun A outer s H args us vs Q E _ _ _ _ h=>by obtain⟨v,u,d,_,_,_,h0,_⟩:=h;exact absurd h0 (Nat.not_lt_zero _)⟩
theorem e3b (T:Tx K mg) {n:Nat} (ih:a2j P w K mg base CX0 n T.b5v T.b4n ["_law_found","_law_due"] (c6h n)):a2j P w K mg base CX0 (n+1) T.b5v T.b4n ["_law_found","_law_due"] (c6h (n+1)):=by
 refine T.b9a.ok d3t (fun vs H Q E h=>?_) (fun cdv A outer s H vs Q E hr h=>?_)
 ·obtain⟨v,u,d,rfl,_⟩:=h
  rfl
 ·obtain⟨v,u,d,rfl,hv,hu',hd,q⟩:=h
  refine⟨_,(a0e (a2v (a3t (a0t (e8i (K:=K) rfl) (by rfl) T.a0v boot_isinstance (a0a (pv 1) (a0a (a8b (a0a (a6c (v:=V.ty "list") rfl T.b1k boot_list rfl) (a0a (a6c (v:=V.ty "tuple") rfl T.b9i boot_tuple rfl) a0f))) a0f))))
   (a0e (a2v (PW.pt (d6n (a3t (a0t a7m (by rfl) T.a0v boot_isinstance (a0a (pv 1) (a0a (a6c (v:=V.ty "list") rfl T.b1k boot_list rfl) a0f)))) (c9h (b8g (a3t (a0t a7m (by rfl) T.a0v boot_isinstance (a0a (pv 0) (a0a (a6c (v:=V.ty "list") rfl T.b1k boot_list rfl) a0f))))))))
   (a0g (a0s a9g))
   a1e)
   (a0e (a2v (PW.pt (d6n (a3t (a0t a7m (by rfl) T.a0v boot_isinstance (a0a (pv 1) (a0a (a6c (v:=V.ty "tuple") rfl T.b9i boot_tuple rfl) a0f)))) (c9h (b8g (a3t (a0t a7m (by rfl) T.a0v boot_isinstance (a0a (pv 0) (a0a (a6c (v:=V.ty "tuple") rfl T.b9i boot_tuple rfl) a0f))))))))
   (a0g (a0s a9g))
   a1e)
   (a0e (a2v (a0y d6y (a0t a2l (by rfl) T.b0z boot_len (a0a (pv 0) a0f)) (a0t a2l (by rfl) T.b0z boot_len (a0a (pv 1) a0f)) (a1f _))
   (a0g (a0s a9g))
   a1e)
   (a0e (a8d PassesOwn.never rfl (f5j rfl T.f1e (a0a (pv 0) (a0a (pv 1) a0f))) (e0d rfl (a9x (a1m (i:=2) d3t.nd rfl (Or.inl rfl)) (a9x (a1m (i:=3) d3t.nd rfl (Or.inl rfl)) d4h)))
   (a0g (a2v (b8g (a3t (a1b ih hr rfl T.c3g T.b9a.kp T.c2l .nil a1j (a0a (pv 2) (a0a (pv 3) a0f)))))
   (a0g (a0s a9g))
   a1e)))
   (a0g (a0s a9g))))))
   a1e)
   (a0e (a2v (a0y e0g (pv 1) a4q (a1f _))
   (a0g (a0s (a8z e0g (pv 0) a4q (a1f _))))
   a1e)
   (a0e (a2v (a3t (a0t a7m (by rfl) T.a0v boot_isinstance (a0a (pv 1) (a0a (a6c (v:=V.ty "str") rfl T.e7m boot_str rfl) a0f))))
   (a0g (a0s (b1g (a0t a7m (by rfl) T.a0v boot_isinstance (a0a (pv 0) (a0a (a6c (v:=V.ty "str") rfl T.e7m boot_str rfl) a0f))) (b8p (a8z c1e (pv 0) (pv 1) (a1f _))))))
   a1e)
   (a0g (a0s (b1g (a0t a7m (by rfl) T.a0v boot_isinstance (a0a (pv 0) (a0a (a6c (v:=V.ty "int") rfl T.e6j boot_int rfl) a0f))) (b1g (e1n (a0t a7m (by rfl) T.a0v boot_isinstance (a0a (pv 0) (a0a (a6c (v:=V.ty "bool") rfl T.d6m boot_bool rfl) a0f)))) (b8p (a8z c1e (pv 0) (pv 1) (a1f _)))))))))),?_⟩
  cases hv with
  | int i =>
   cases hu'
   refine⟨_,rfl,(by show 2≤sizeLine;decide),fun tp htp=>⟨_,tp,["list","tuple"],_,_,rfl,a0b,.int i,f5q,_,rfl,d0e ?_⟩⟩
   refine⟨_,rfl,rfl,_,rfl,a5n (fun z=>by cases of_decide_eq_true z) (fun _=>?_)⟩
   refine⟨_,rfl,_,_,_,_,rfl,.int i,f6m,_,rfl,d0e ?_⟩
   refine⟨_,rfl,_,_,_,_,rfl,.int i,f1t,_,rfl,d4t ⟨_,rfl,_,_,_,_,rfl,.int i,f1q,_,rfl,_,rfl,d4t ⟨_,rfl,_,rfl,rfl,?_⟩⟩⟩
   show Q (.bl (decide (V.int i=V.int i))) _
   rw[decide_eq_true rfl]
   exact q _ (Same.upd htp)
  | str x =>
   cases hu'
   refine⟨_,rfl,(by show 2≤sizeLine;decide),fun tp htp=>⟨_,tp,["list","tuple"],_,_,rfl,a0b,.str x,f6z,_,rfl,d0e ?_⟩⟩
   refine⟨_,rfl,rfl,_,rfl,a5n (fun z=>by cases of_decide_eq_true z) (fun _=>?_)⟩
   refine⟨_,rfl,_,_,_,_,rfl,.str x,f1z,_,rfl,d4t ?_⟩
   refine⟨_,rfl,_,_,_,_,rfl,.str x,f1z,_,rfl,d4t ⟨_,rfl,_,rfl,rfl,?_⟩⟩
   show Q (.bl (decide (V.str x=V.str x))) _
   rw[decide_eq_true rfl]
   exact q _ (Same.upd htp)
  | @lst a xs ds h1 r1 =>
   cases hu' with
   | @lst b ys _ h2 r2 =>
    have l1:xs.length=ds.length:=r1.len
    have l2:ys.length=ds.length:=r2.len
    refine⟨_,rfl,(by show 2≤sizeLine;decide),fun tp htp=>⟨_,tp,["list","tuple"],_,_,rfl,a0b,.lst ((Same.upd htp) _ _ h2),f6p,_,rfl,d4t ?_⟩⟩
    have s1:=Same.upd (o:=HO.tup [.ty "list",.ty "tuple"]) htp
    have g1:=s1 _ _ h1
    have g2:=s1 _ _ h2
    have hH:Same H (upd H tp (.tup [.ty "list",.ty "tuple"])):=s1
    generalize upd H tp (.tup [.ty "list",.ty "tuple"])=H1 at *
    refine⟨_,rfl,_,_,_,_,rfl,.lst g2,e7n,_,rfl,d4t ⟨_,rfl,_,_,_,_,rfl,.lst g1,e7n,_,rfl,d0e ?_⟩⟩
    refine⟨_,rfl,_,_,_,_,rfl,.lst g2,f5w,_,rfl,d0e (d0e ?_)⟩
    refine⟨_,rfl,_,_,rfl,.inl ⟨_,SqL.of g1,rfl⟩,_,rfl,_,_,rfl,.inl ⟨_,SqL.of g2,rfl⟩,rfl,_,rfl,a5n (fun z=>absurd z (by rw[l1,l2];simp)) (fun _=>?_)⟩
    refine⟨_,rfl,_,rfl,_,_,_,_,rfl,.list (SqL.of g1),.list (SqL.of g2),e4w (xs:=xs) (ys:=ys) (fun i σ H2=>∃ x2 x3:Option V,σ=[some (.ref a),some (.ref b),x2,x3]∧Same H1 H2) ⟨none,none,rfl,Same.refl _⟩ (fun i σ H2 ⟨_,_,_,s2⟩=>⟨a1g (SqL.of (s2 _ _ g1)),a1g (SqL.of (s2 _ _ g2))⟩) ?_ ?_⟩
    ·rintro i x y σ H2 p hx hy ⟨x2,x3,rfl,s2⟩ hp
     obtain⟨d,ed,tx⟩:=r1.get hx
     obtain⟨d',ed',ty'⟩:=r2.get hy
     rw[ed] at ed'
     cases ed'
     have s3:=s2.trans (Same.upd (o:=HO.tup [x,y]) hp)
     have hdd:d.depth < n:=by
      have:=c5q ed
      have h9:PyData.depthAll ds+1 < n+1:=hd
      omega
     refine⟨p,_,rfl,SqT.of a0b,rfl,_,_,rfl,_,_,rfl,rfl,_,rfl,_,rfl,x,y,d,rfl,tx.same (hH.trans s3),ty'.same (hH.trans s3),hdd,fun H3 s4=>⟨_,rfl,d0e ⟨_,_,rfl,s3.trans s4⟩⟩⟩
    ·rintro σ H2 ⟨x2,x3,rfl,s2⟩
     exact q H2 (hH.trans s2)
  | @tup a xs ds h1 r1 =>
   cases hu' with
   | @tup b ys _ h2 r2 =>
    have l1:xs.length=ds.length:=r1.len
    have l2:ys.length=ds.length:=r2.len
    refine⟨_,rfl,(by show 2≤sizeLine;decide),fun tp htp=>⟨_,tp,["list","tuple"],_,_,rfl,a0b,.tup ((Same.upd htp) _ _ h2),f8h,_,rfl,d4t ?_⟩⟩
    have s1:=Same.upd (o:=HO.tup [.ty "list",.ty "tuple"]) htp
    have g1:=s1 _ _ h1
    have g2:=s1 _ _ h2
    have hH:Same H (upd H tp (.tup [.ty "list",.ty "tuple"])):=s1
    generalize upd H tp (.tup [.ty "list",.ty "tuple"])=H1 at *
    refine⟨_,rfl,_,_,_,_,rfl,.tup g2,f2l,_,rfl,d0e (d0e ?_)⟩
    refine⟨_,rfl,_,_,_,_,rfl,.tup g2,e6n,_,rfl,d4t ⟨_,rfl,_,_,_,_,rfl,.tup g1,e6n,_,rfl,d0e ?_⟩⟩
    refine⟨_,rfl,_,_,rfl,.inr ⟨_,SqT.of g1,rfl⟩,_,rfl,_,_,rfl,.inr ⟨_,SqT.of g2,rfl⟩,rfl,_,rfl,a5n (fun z=>absurd z (by rw[l1,l2];simp)) (fun _=>?_)⟩
    refine⟨_,rfl,_,rfl,_,_,_,_,rfl,.tup (SqT.of g1),.tup (SqT.of g2),e4w (xs:=xs) (ys:=ys) (fun i σ H2=>∃ x2 x3:Option V,σ=[some (.ref a),some (.ref b),x2,x3]∧Same H1 H2) ⟨none,none,rfl,Same.refl _⟩ (fun i σ H2 ⟨_,_,_,s2⟩=>⟨d5t (SqT.of (s2 _ _ g1)),d5t (SqT.of (s2 _ _ g2))⟩) ?_ ?_⟩
    ·rintro i x y σ H2 p hx hy ⟨x2,x3,rfl,s2⟩ hp
     obtain⟨d,ed,tx⟩:=r1.get hx
     obtain⟨d',ed',ty'⟩:=r2.get hy
     rw[ed] at ed'
     cases ed'
     have s3:=s2.trans (Same.upd (o:=HO.tup [x,y]) hp)
     have hdd:d.depth < n:=by
      have:=c5q ed
      have h9:PyData.depthAll ds+1 < n+1:=hd
      omega
     refine⟨p,_,rfl,SqT.of a0b,rfl,_,_,rfl,_,_,rfl,rfl,_,rfl,_,rfl,x,y,d,rfl,tx.same (hH.trans s3),ty'.same (hH.trans s3),hdd,fun H3 s4=>⟨_,rfl,d0e ⟨_,_,rfl,s3.trans s4⟩⟩⟩
    ·rintro σ H2 ⟨x2,x3,rfl,s2⟩
     exact q H2 (hH.trans s2)
theorem d6p (T:Tx K mg):∀ n:Nat,a2j P w K mg base CX0 n T.b5v T.b4n ["_law_found","_law_due"] (c6h n)
 | 0=>e2c T
 | n+1=>e3b T (d6p T n)
theorem c4w (T:Tx K mg):a2j P w K mg base CX0 7 T.b5v T.b4n ["_law_found","_law_due"] (c6h 7):=d6p T 7
--@STAGE
def f4v (K:PySem.W.Frag):Sp:=fun vs H Q _=>∃ (a:Addr) (ns:List Int) (k:Int),vs=[.ref a,.int k]∧SqL K H a (ns.map V.int)∧ns.length≤63∧0≤k∧k≤100∧∀ z:Int,Q (.int z) H
def f8a:Sp:=fun vs H Q _=>∃ c k:Int,vs=[.int c,.int k]∧0≤k∧k≤100∧∀ z:Int,0≤z→z < 2147483587→Q (.int z) H
def e9s (C:Addr):Sp:=fun vs H Q _=>∃ e:Addr,vs=[.ref e]∧H e=some (e5t e C)∧Q (.bl true) H
theorem a8n (T:Tx K mg):a2j P w K mg base CX0 1 T.d3l T.d3y ["_law_script","_law_k"] (f4v K):=by
 refine T.a8u.ok d2x (fun vs H Q E h=>?_) (fun cdv A outer s H vs Q E hr h=>?_)
 ·obtain⟨a,ns,k,rfl,_⟩:=h
  rfl
 ·obtain⟨a,ns,k,rfl,hS,hl,h0,h1,q⟩:=h
  refine⟨_,(a0e (a2v (a0y d8s (pv 1) (a0t a2l (by rfl) T.b0z boot_len (a0a (pv 0) a0f)) (a1f _))
   (a0g (a0s (a2z a5v (pv 0) (pv 1) (fun _ _=>rfl))))
   a1e)
   (a0e (a1s (i:=2) d2x.nd rfl (Or.inl rfl) (a1r a4l (a1r c0m a0n (pv 1)) a0n))
   (a0e (a2v (a0y d7x (a0t a2l (by rfl) T.b0z boot_len (a0a (pv 0) a0f)) a0n (a1f _))
   (a0g (a1s (i:=2) d2x.nd rfl (Or.inl rfl) (a1r a7o (a1r a4l (a2z a5v (pv 0) (a1r a7o (a1r c0m a0n (pv 1)) (a0t a2l (by rfl) T.b0z boot_len (a0a (pv 0) a0f))) (fun _ _=>rfl)) (a1r c0m a0n (pv 1))) a0n)))
   a1e)
   (a0g (a0s (a1r a7o (a1r c0m (pv 2) (pv 2)) a0n)))))),?_⟩
  refine⟨_,rfl,_,rfl,_,_,rfl,.inl ⟨_,hS,rfl⟩,_,_,rfl,rfl,_,rfl,a5n (fun e=>?_) (fun e=>?_)⟩
  ·have e1:k < ((ns.map V.int).length:Int):=of_decide_eq_true e
   obtain⟨v,hv⟩:∃ v,atI (ns.map V.int) k=some v:=d1k h0 e1
   obtain⟨z,hz,rfl⟩:=List.mem_map.mp (c1w hv)
   exact⟨_,rfl,_,rfl,a,_,_,_,rfl,rfl,hS,hv,q z⟩
  ·refine⟨_,rfl,_,_,rfl,rfl,.inl ⟨by omega,by omega⟩,_,_,rfl,rfl,?_⟩
   have fin:∀ m:Int,0≤m→m < 2147483647+800000→g0q (tOp (rI (fun x j=>0 < j) fun i j=>V.int (i%j)) (tOp (rI f8i fun i j=>V.int (i*j)) (f6v 2) (f6v 2)) (tC (V.int 2147483629))) {nx:=fun x H'=>Q V.non H',rt:=Q} [some (.ref a),some (.int k),some (.int m)] H:=fun m m0 m1=>⟨_,rfl,_,rfl,_,_,rfl,rfl,.inl ⟨by omega,by omega⟩,_,_,rfl,rfl,(by show (0:Int) < 2147483629;decide),q _⟩
   refine⟨_,rfl,_,_,rfl,.inl ⟨_,hS,rfl⟩,_,_,rfl,rfl,_,rfl,a5n (fun e2=>?_) (fun _=>?_)⟩
   ·have hn:0 < ns.length:=by
     have:=of_decide_eq_true e2
     rw[List.length_map] at this
     omega
    have hi:(7*k%((ns.map V.int).length:Int)).toNat < (ns.map V.int).length:=by
     rw[List.length_map]
     have h3:=Int.emod_lt_of_pos (7*k) (show (0:Int) < (ns.length:Int) by omega)
     have h4:=Int.emod_nonneg (7*k) (show ((ns.length:Int))≠0 by omega)
     omega
    have h4:=Int.emod_nonneg (7*k) (show (((ns.map V.int).length:Int))≠0 by rw[List.length_map];omega)
    obtain⟨v,hv⟩:∃ v,atI (ns.map V.int) (7*k%((ns.map V.int).length:Int))=some v:=d1k h4 (Int.emod_lt_of_pos _ (by rw[List.length_map];omega))
    obtain⟨z,hz,rfl⟩:=List.mem_map.mp (c1w hv)
    refine⟨_,rfl,_,rfl,_,_,rfl,rfl,.inl ⟨by omega,by omega⟩,_,rfl,_,_,rfl,.inl ⟨_,hS,rfl⟩,_,_,rfl,rfl,(by rw[List.length_map];omega),a,_,_,_,rfl,rfl,hS,hv,?_⟩
    refine⟨_,rfl,_,_,rfl,rfl,.inl ⟨by omega,by omega⟩,_,_,rfl,rfl,_,_,rfl,rfl,(by show (0:Int) < 2147483647;decide),?_⟩
    exact fin _ (Int.emod_nonneg _ (by decide)) (Int.lt_trans (Int.emod_lt_of_pos _ (by decide)) (by decide))
   ·exact fin _ (by omega) (by omega)
theorem f4j (T:Tx K mg):a2j P w K mg base CX0 1 T.e0i T.e0x ["_law_cell_here","_law_k"] f8a:=by
 refine T.e4d.ok d8e (fun vs H Q E h=>?_) (fun cdv A outer s H vs Q E hr h=>?_)
 ·obtain⟨c,k,rfl,_⟩:=h
  rfl
 ·obtain⟨c,k,rfl,h0,h1,q⟩:=h
  refine⟨_,(a0e (a1s (i:=2) d8e.nd rfl (Or.inl rfl) (a1r a7o (a1r a4l (a1r a4l (pv 0) (a1r c0m a0n (pv 1))) a0n) a0n))
   (a0e (a1s (i:=2) d8e.nd rfl (Or.inl rfl) (a1r a7o (a1r a4l (a1r c0m (pv 2) (pv 2)) (a1r c0m a0n (pv 1))) a0n))
   (a0g (a0s (a1r a7o (a1r a4l (a1r a4l (a1r c0m (pv 2) (pv 2)) (a1r c0m a0n (pv 2))) (pv 1)) a0n))))),?_⟩
  refine⟨_,rfl,_,rfl,_,_,rfl,rfl,.inl ⟨by omega,by omega⟩,_,_,rfl,rfl,_,_,rfl,rfl,_,_,rfl,rfl,(by show (0:Int) < 2147483647;decide),?_⟩
  generalize hm:(c+7919*k+11)%2147483647=m
  have m0:0≤m:=hm ▸ Int.emod_nonneg _ (by decide)
  have m1:m < 2147483647:=hm ▸ Int.emod_lt_of_pos _ (by decide)
  refine⟨_,rfl,_,rfl,_,_,rfl,rfl,.inl ⟨by omega,by omega⟩,_,rfl,_,_,rfl,rfl,.inl ⟨by omega,by omega⟩,_,_,rfl,rfl,_,_,rfl,rfl,(by show (0:Int) < 2147483629;decide),?_⟩
  generalize hm2:(m*m+48271*k)%2147483629=m2
  have n0:0≤m2:=hm2 ▸ Int.emod_nonneg _ (by decide)
  have n1:m2 < 2147483629:=hm2 ▸ Int.emod_lt_of_pos _ (by decide)
  exact⟨_,rfl,_,rfl,_,_,rfl,rfl,.inl ⟨by omega,by omega⟩,_,rfl,_,_,rfl,rfl,.inl ⟨by omega,by omega⟩,_,_,rfl,rfl,_,rfl,_,_,rfl,rfl,_,_,rfl,rfl,(by show (0:Int) < 2147483587;decide),q _ (Int.emod_nonneg _ (by decide)) (Int.emod_lt_of_pos _ (by decide))⟩
theorem d1n (T:Tx K mg):d8z P w K mg base 1 T.c1a T.c1o ["_law_error"] (e9s T.a0r):=by
 refine f2v T.c0p e1v (fun vs H Q E h=>?_) (fun cdv A outer s H vs Q E hr h=>?_)
 ·obtain⟨e,rfl,_⟩:=h
  rfl
 ·obtain⟨e,rfl,he,q⟩:=h
  refine⟨_,(a0g (a0s (b1g (a0t (b1d (K:=K) rfl) (by rfl) T.a0v boot_isinstance (a0a (pv 0) (a0a (b3k (v:=V.ref T.a0r) rfl T.b9b rfl) a0f))) (b1g (a0t (b1d (K:=K) rfl) (by rfl) T.a0v boot_isinstance (a0a (pv 0) (a0a (a6c (v:=V.ty "ValueError") rfl T.a7t (by decide +kernel) rfl) a0f))) (b8p (e1n (a0t (b1d (K:=K) rfl) (by rfl) T.a0v boot_isinstance (a0a (pv 0) (a0a (b3k (v:=V.ref T.a1p) rfl T.c5s rfl) a0f))))))))),?_⟩
  refine⟨_,rfl,e,_,true,_,rfl,he,T.a9t,.inl ⟨_,rfl,T.a5w⟩,_,rfl,d4t ?_⟩
  refine⟨_,rfl,e,_,true,_,rfl,he,T.a9t,.inr ⟨_,rfl,f2e T.c3k⟩,_,rfl,d4t ?_⟩
  exact⟨_,rfl,e,_,false,_,rfl,he,T.a9t,.inl ⟨_,rfl,T.a7n⟩,_,rfl,q⟩
--@STAGE
open Spn
def e3z (K:PySem.W.Frag) (C CD CS CH:Addr) (cls:Lv→Addr):Sp:=fun vs H Q _=>∃ (x:HA) (ls:List Addr) (xs:List DA) (ss:List DS) (st:Int) (told:List V) (m:List (Int×List Hold)) (way n:Int),vs=[.ref x.h,.int way,.int n]∧b2w K C CD CS CH cls H x ls xs ss st told m∧(n < 1∨(xs.length:Int) < n)∧∀ H',Same H H'→Q (.bl true) H'
def e4j (K:PySem.W.Frag) (C CD CS CH:Addr) (cls:Lv→Addr):Sp:=fun vs H Q _=>∃ (x:HA) (ls:List Addr) (xs:List DA) (ss:List DS) (st:Int) (told:List V) (m:List (Int×List Hold)) (nl:Addr) (ns:List Int) (j:Nat) (nj:Int),vs=[.ref x.h,.ref nl]∧b2w K C CD CS CH cls H x ls xs ss st told m∧H nl=some (.lst (ns.map V.int))∧ns.length < 1000∧ns[j]?=some nj∧(nj < 1∨(xs.length:Int) < nj)∧(∀ (i:Nat) n,i < j→ns[i]?=some n→1≤n∧n≤xs.length)∧∀ H',Same H H'→Q (.bl true) H'
def e5m:Sp:=fun vs H Q _=>∃ (pl:Addr) (us:List V) (ws:List (Str×List V)) (i:Nat) (x:Str),vs=[.ref pl,.int i,.str x]∧H pl=some (.lst us)∧us.length=ws.length∧us.length < 60∧(∀ (j:Nat) u p,us[j]?=some u→ws[j]?=some p→PrA H u p.1 p.2)∧(∀ p∈ws,∃ l,p.1=wd l)∧i < us.length∧(∀ l,x≠wd l)∧x.length≤600∧(∀ c∈x.cps.toList,c < 16 ^ 8)∧∀ H',Same H H'→Q (.bl true) H'
theorem d9d (T:Tx K mg):a2j P w K mg base CX0 13 T.b7p T.b6i ["_law_house","_law_way","_law_number"] (e3z K T.a0k T.a0m T.a1t T.a1d (cO T)):=by
 refine T.c2c.ok c6q (fun vs H Q E h=>?_) (fun cdv A outer s H vs Q E hr h=>?_)
 ·obtain⟨x,ls,xs,ss,st,told,m,way,n,rfl,_⟩:=h
  rfl
 ·obtain⟨x,ls,xs,ss,st,told,m,way,n,rfl,O,bad,q⟩:=h
  refine⟨_,(a0e (d9e (j:=3) (ho:=fun ea C _=>e5t ea C) (e9k (a0y c1e (pv 1) a0n (a1f _)) (b7m (pv 0) T.a0j T.b0f ((b4g T).mono (by decide)) hr T.b3v (a0a (pv 2) a0f)) (e9k (a0y c1e (pv 1) a0n (a1f _)) (b7m (pv 0) T.a0j T.b3f ((c0u T).mono (by decide)) hr T.b5g (a0a (pv 2) a0f)) (e9k (a0y c1e (pv 1) a0n (a1f _)) (b7m (pv 0) T.a0j T.b0o ((b8a T).mono (by decide)) hr T.b3l (a0a (pv 2) a0f)) (e9k (a0y c1e (pv 1) a0n (a1f _)) (b7m (pv 0) T.a0j T.a6q ((b1b T).mono (by decide)) hr T.a7z (a0a (pv 2) a0f)) (b7m (pv 0) T.a0j T.b0u ((b8i T).mono (by decide)) hr T.b2z (a0a (pv 2) a0f)))))) T.b0e rfl c6q.nd rfl rfl rfl rfl (fun ea=>(a0g (a0s (d5u ((d1n T).mono (by decide)) hr.m rfl T.c8v T.c0p.kp T.c7g (a0a (pv 3) a0f))))) (fun _ _ _ _ _ ⟨_,q,c,_⟩=>d9k q c))
   (a0g (a0s a9g))),?_⟩
  have no:∀ (i:Nat) (u:V),n=(i:Int)+1→(xs.map fun d=>V.ref d.a)[i]?=some u→False:=fun i u e1 e2=>by
   have:=(List.getElem?_eq_some_iff.mp e2).1
   rw[List.length_map] at this
   omega
  refine⟨_,rfl,rfl,_,rfl,a5n (fun _=>?_) (fun _=>?_)⟩
  ·exact⟨_,rfl,x.h,x.hx,_,rfl,O.obj,rfl,_,rfl,n,x,ls,xs,ss,st,told,m,rfl,O,.inr (.inl ⟨bad,fun H2 s2=>⟨T.a0r,rfl,T.a4c,fun ea hea=>⟨_,rfl,ea,rfl,a0b,q _ (s2.trans (Same.upd hea))⟩⟩⟩)⟩
  refine⟨_,rfl,rfl,_,rfl,a5n (fun _=>?_) (fun _=>?_)⟩
  ·exact⟨_,rfl,x.h,x.hx,_,rfl,O.obj,rfl,_,rfl,x.h,x.hx,x.dl,b7x x st,n,_,rfl,O.obj,rfl,O.dls,fun i u e1 e2=>(no i u e1 e2).elim,fun _ H2 s2=>⟨T.a0r,rfl,T.a4c,fun ea hea=>⟨_,rfl,ea,rfl,a0b,q _ (s2.trans (Same.upd hea))⟩⟩⟩
  refine⟨_,rfl,rfl,_,rfl,a5n (fun _=>?_) (fun _=>?_)⟩
  ·exact⟨_,rfl,x.h,x.hx,_,rfl,O.obj,rfl,_,rfl,x.h,x.hx,x.dl,b7x x st,n,_,rfl,O.obj,rfl,O.dls,fun i u e1 e2=>(no i u e1 e2).elim,fun _ H2 s2=>⟨T.a0r,rfl,T.a4c,fun ea hea=>⟨_,rfl,ea,rfl,a0b,q _ (s2.trans (Same.upd hea))⟩⟩⟩
  refine⟨_,rfl,rfl,_,rfl,a5n (fun _=>?_) (fun _=>?_)⟩
  ·exact⟨_,rfl,x.h,x.hx,_,rfl,O.obj,rfl,_,rfl,x.h,x.hx,x.dl,b7x x st,n,_,rfl,O.obj,rfl,O.dls,fun i u e1 e2=>(no i u e1 e2).elim,fun _ H2 s2=>⟨T.a0r,rfl,T.a4c,fun ea hea=>⟨_,rfl,ea,rfl,a0b,q _ (s2.trans (Same.upd hea))⟩⟩⟩
  ·exact⟨_,rfl,x.h,x.hx,_,rfl,O.obj,rfl,_,rfl,x.h,x.hx,x.dl,b7x x st,n,_,rfl,O.obj,rfl,O.dls,fun i u e1 e2=>(no i u e1 e2).elim,fun _ H2 s2=>⟨T.a0r,rfl,T.a4c,fun ea hea=>⟨_,rfl,ea,rfl,a0b,q _ (s2.trans (Same.upd hea))⟩⟩⟩
theorem d8y (T:Tx K mg):a2j P w K mg base CX0 13 T.b6s T.b7a ["_law_house","_law_numbers"] (e4j K T.a0k T.a0m T.a1t T.a1d (cO T)):=by
 refine T.c3e.ok b9s (fun vs H Q E h=>?_) (fun cdv A outer s H vs Q E hr h=>?_)
 ·obtain⟨x,ls,xs,ss,st,told,m,nl,ns,j,nj,rfl,_⟩:=h
  rfl
 ·obtain⟨x,ls,xs,ss,st,told,m,nl,ns,j,nj,rfl,O,hn,h1000,hj,bad,good,q⟩:=h
  refine⟨_,(a0e (a1s (i:=2) b9s.nd rfl (Or.inl rfl) (a7s a3z (by rfl) T.b1k boot_list (a0a (pv 1) a0f)))
   (a0e (d9e (j:=3) (ho:=fun ea C _=>e5t ea C) (b7m (pv 0) T.a0j T.b9y ((d3v T).mono (by decide)) hr T.c4h (a0a (pv 2) a0f)) T.b0e rfl b9s.nd rfl rfl rfl rfl (fun ea=>(a0g (a0s (b1g (d5u ((d1n T).mono (by decide)) hr.m rfl T.c8v T.c0p.kp T.c7g (a0a (pv 3) a0f)) (b8p (a8z (f3j (K:=K) rfl hr.m.units) (pv 2) (pv 1) (a1f _))))))) (fun _ _ _ _ _ ⟨_,q,c,_⟩=>d9k q c))
   (a0g (a0s a9g)))),?_⟩
  refine⟨_,rfl,nl,_,rfl,.inl (SqL.of hn),fun hl hhl=>?_⟩
  have s1:=Same.upd (o:=HO.lst (ns.map V.int)) hhl
  have l1:=a0b (H:=H) (a:=hl) (o:=HO.lst (ns.map V.int))
  generalize upd H hl (.lst (ns.map V.int))=H1 at s1 l1 ⊢
  refine⟨_,rfl,x.h,x.hx,_,rfl,s1 _ _ O.obj,rfl,_,rfl,?_⟩
  refine⟨x.h,x.hx,x.dl,hl,b7x x st,_,ns,j,nj,rfl,s1 _ _ O.obj,rfl,s1 _ _ O.dls,l1,h1000,hj,by rw[List.length_map];exact bad,fun i n e1 e2=>by rw[List.length_map];exact good i n e1 e2,fun H2 s2=>⟨T.a0r,rfl,T.a4c,fun ea hea=>?_⟩⟩
  have s3:=s2.trans (Same.upd (o:=e5t ea T.a0r) hea)
  refine⟨_,rfl,ea,rfl,a0b,_,rfl,d4t ?_⟩
  refine⟨_,rfl,_,rfl,_,_,.lst (SqL.of (s3 _ _ l1)) (d2l _),.lst (SqL.of (s3 _ _ (s1 _ _ hn))) (d2l _),c7z _,c7z _,?_⟩
  rw[e9m]
  exact q _ (s1.trans s3)
theorem d8u (T:Tx K mg):a2j P w K mg base CX0 7 T.b7h T.b7w ["_law_programs","_law_at","_law_word"] e5m:=by
 refine T.c2w.ok b9n (fun vs H Q E h=>?_) (fun cdv A outer s H vs Q E hr h=>?_)
 ·obtain⟨pl,us,ws,i,x,rfl,_⟩:=h
  rfl
 ·obtain⟨pl,us,ws,i,x,rfl,hpl,hlen,h60,hps,hlv,hi,hx1,x1,x2,q⟩:=h
  refine⟨_,(a0e (a1s (i:=3) b9n.nd rfl (Or.inl rfl) (a7s a3z (by rfl) T.b1k boot_list (a0a (pv 0) a0f)))
   (a0e (f7j (a8b (a0a (pv 2) (a0a (a3k (a0a (a8b (a0a a2b (a0a a0n a0f))) a0f)) a0f))) (f7y (pv 3) (pv 1) e6o))
   (a0e (d9e (j:=4) (ho:=fun ea C _=>e5t ea C) (f2y T.d3s ((c4a T).mono (by decide)) hr rfl T.d9a T.b9m (a0a b1s (a0a (pv 3) a0f))) T.b0e rfl b9n.nd rfl rfl rfl rfl (fun ea=>(a0g (a0s (b1g (a0t (b1d (K:=K) rfl) (by rfl) T.a0v boot_isinstance (a0a (pv 4) (a0a (b3k (v:=V.ref T.a1p) rfl T.c5s rfl) a0f))) (b1g (a0t (b1d (K:=K) rfl) (by rfl) T.a0v boot_isinstance (a0a (pv 4) (a0a (a6c (v:=V.ty "ValueError") rfl T.a7t (by decide +kernel) rfl) a0f))) (b8p (e1n (a0t (b1d (K:=K) rfl) (by rfl) T.a0v boot_isinstance (a0a (pv 4) (a0a (b3k (v:=V.ref T.a0r) rfl T.b9b rfl) a0f)))))))))) (fun _ _ _ _ _ ⟨_,q,c,_⟩=>d9k q c))
   (a0g (a0s a9g))))),?_⟩
  refine⟨_,rfl,pl,_,rfl,.inl (SqL.of hpl),fun sm hsm=>?_⟩
  have s1:=Same.upd (o:=HO.lst us) hsm
  have m1:=a0b (H:=H) (a:=sm) (o:=HO.lst us)
  generalize upd H sm (.lst us)=H1 at s1 m1 ⊢
  refine⟨_,rfl,⟨(by show 2≤sizeLine;decide),fun t1 ht1=>?_⟩⟩
  have s2:=Same.upd (o:=HO.tup [.str "take",.int 1]) ht1
  refine⟨(by show 1≤sizeLine;decide),fun l1 hl1=>?_⟩
  have s3:=s2.trans (Same.upd (o:=HO.lst [.ref t1]) hl1)
  have l3:=a0b (H:=upd H1 t1 (.tup [.str "take",.int 1])) (a:=l1) (o:=HO.lst [.ref t1])
  generalize upd (upd H1 t1 (.tup [.str "take",.int 1])) l1 (.lst [.ref t1])=H3 at s3 l3 ⊢
  refine⟨(by show 2≤sizeLine;decide),fun t2 ht2=>?_⟩
  have s4:=s3.trans (Same.upd (o:=HO.tup [.str x,.ref l1]) ht2)
  have l4:=(Same.upd (o:=HO.tup [.str x,.ref l1]) ht2) _ _ l3
  have t4:=a0b (H:=H3) (a:=t2) (o:=HO.tup [.str x,.ref l1])
  generalize upd H3 t2 (.tup [.str x,.ref l1])=H4 at s4 l4 t4 ⊢
  have ie:ixN us.length (i:Int)=some i:=by
   unfold ixN
   rw[if_pos (by omega),if_pos (by omega)]
   simp
  refine⟨_,rfl,_,rfl,sm,us,i,i,rfl,rfl,s4 _ _ m1,ie,fun H5 h5 k5=>?_⟩
  have F5:∀ b o,H b=some o→H5 b=some o:=fun b o e=>k5 b o (fun z=>by rw[z,hsm] at e;cases e) (s4 _ _ (s1 _ _ e))
  intro r hr
  have s6:=Same.upd (o:=HO.dK []) hr
  have r6:=a0b (H:=H5) (a:=r) (o:=HO.dK [])
  generalize upd H5 r (.dK [])=H6 at s6 r6 ⊢
  refine⟨_,rfl,fun h hx fh fhx nhx=>?_⟩
  have s7:=Same.newO (C:=T.a0k) fh fhx nhx
  have o7:=a0b (H:=upd H6 hx (.own h)) (a:=h) (o:=HO.ins T.a0k hx [])
  have h6:H6 h=none:=fh
  generalize upd (upd H6 hx (.own h)) h (.ins T.a0k hx [])=H7 at s7 o7 ⊢
  have F7:∀ b o,H5 b=some o→H7 b=some o:=fun b o e=>s7 _ _ (s6 _ _ e)
  have sml:l1≠sm:=fun z=>by rw[z,s2 _ _ m1] at hl1;cases hl1
  have smt:t2≠sm:=fun z=>by have:=s4 _ _ m1;rw[←z,t4] at this;cases this
  have t7:=F7 _ _ (k5 _ _ smt t4)
  have l7:=F7 _ _ (k5 _ _ sml l4)
  have hn6:∀ b o,H5 b=some o→b≠h∧b≠r:=fun b o e=>⟨(fun z=>by have:=s6 _ _ e;rw[z,h6] at this;cases this),(fun z=>by rw[z,hr] at e;cases e)⟩
  refine⟨h,hx,r,sm,us.set i (.ref t2),ws.set i (x,[.ref t1]),rfl,o7,s7 _ _ r6,F7 _ _ h5,by simp[hlen],by simpa using h60,fun j u p e1 e2=>?_,.inr ⟨i,(x,[.ref t1]),List.getElem?_set_self (by omega),hx1,fun j p hj e=>?_,fun H8 fr8=>⟨T.a1p,rfl,T.d1p,fun ea hea=>?_⟩⟩⟩
  ·by_cases nj:j=i
   ·subst nj
    rw[List.getElem?_set_self hi] at e1
    rw[List.getElem?_set_self (by omega)] at e2
    cases e1
    cases e2
    exact⟨t2,l1,rfl,t7,l7,x1,x2⟩
   ·rw[List.getElem?_set_ne (fun z=>nj z.symm)] at e1 e2
    obtain⟨t,dl,eu,a1,a2,a3,a4⟩:=hps j u p e1 e2
    exact⟨t,dl,eu,F7 _ _ (F5 _ _ a1),F7 _ _ (F5 _ _ a2),a3,a4⟩
  ·rw[List.getElem?_set_ne (by omega)] at e
   exact hlv p (List.mem_of_getElem? e)
  ·have s9:Same H (upd H8 ea (e5t ea T.a1p)):=fun b o e=>(Same.upd hea) _ _ (fr8 b o (hn6 b o (F5 b o e)).1 (hn6 b o (F5 b o e)).2 (F7 _ _ (F5 b o e)))
   refine⟨_,rfl,ea,_,true,_,rfl,a0b,T.b6y,.inl ⟨_,rfl,T.a9d⟩,_,rfl,d4t ?_⟩
   refine⟨_,rfl,ea,_,true,_,rfl,a0b,T.b6y,.inr ⟨_,rfl,f2e T.d1h⟩,_,rfl,d4t ?_⟩
   exact⟨_,rfl,ea,_,false,_,rfl,a0b,T.b6y,.inl ⟨_,rfl,T.a7v⟩,_,rfl,q _ s9⟩
--@STAGE
open Spn
def e9o (K:PySem.W.Frag) (C CD CS CH:Addr) (cls:Lv→Addr):Sp:=fun vs H Q _=>∃ (x:HA) (ls:List Addr) (xs:List DA) (ss:List DS) (st:Int) (told:List V) (m:List (Int×List Hold)) (pl:Addr) (us:List V) (b:Int),vs=[.ref x.h,.ref pl,.int b]∧b2w K C CD CS CH cls H x ls xs ss st told m∧H pl=some (.lst us)∧us.length=ss.length∧us.length < 60∧(∀ (i:Nat) u s,us[i]?=some u→ss[i]?=some s→PrA H u (wd s.lv) s.ds) ∧
 (∀ (i:Nat) s,ss[i]?=some s→(s.bg=none ↔ ¬ (i:Int) < b))∧∀ H',Same H H'→Q (.bl true) H'
theorem b2w.same {K:PySem.W.Frag} {C CD CS CH:Addr} {cls:Lv→Addr} {H H':Hp} {x:HA} {ls:List Addr} {xs:List DA} {ss:List DS} {st:Int} {told:List V} {m:List (Int×List Hold)} (O:b2w K C CD CS CH cls H x ls xs ss st told m) (s:Same H H'):b2w K C CD CS CH cls H' x ls xs ss st told m :=
 ⟨s _ _ O.obj,s _ _ O.shl,s _ _ O.mks,(let ⟨kvs,h,e⟩:=O.hs;⟨kvs,h.same s,e⟩),s _ _ O.dls,O.len,fun i d z e1 e2=>(O.each i d z e1 e2).same s,s _ _ O.sps,s _ _ O.tol,O.nd,O.dis⟩
def phS (s:DS):Str:=if s.bg=none then "new" else "going"
theorem f9q (d:DA) (i:Int) (s:DS):(d6k d i s).ph=.str (phS s)∧(d6k d i s).w=.non∧(d6k d i s).lv=.ref d.lv:=by
 unfold d6k phS
 cases s.bg<;>exact⟨rfl,rfl,rfl⟩
theorem e2o (T:Tx K mg):a2j P w K mg base CX0 13 T.c1d T.c0e ["_law_house","_law_programs","_law_begun"] (e9o K T.a0k T.a0m T.a1t T.a1d (cO T)):=by
 refine T.c8z.ok b7b (fun vs H Q E h=>?_) (fun cdv A outer s H vs Q E hr h=>?_)
 ·obtain⟨x,ls,xs,ss,st,told,m,pl,us,b,rfl,_⟩:=h
  rfl
 ·obtain⟨x,ls,xs,ss,st,told,m,pl,us,b,rfl,O,hpl,hlen,h60,hps,hb,q⟩:=h
  refine⟨_,(a0e (a8d PassesOwn.never rfl (c0z rfl T.b9l (a0a (a0t a2l (by rfl) T.b0z boot_len (a0a (pv 1) a0f)) a0f)) (a1m (i:=3) b7b.nd rfl (Or.inl rfl))
   (a0e (a1s (i:=4) b7b.nd rfl (Or.inl rfl) a2b)
   (a0e (a2v (a0y d8s (pv 3) (pv 2) (a1f _))
   (a0g (a1s (i:=4) b7b.nd rfl (Or.inl rfl) a2b))
   a1e)
   (a0e (a2v (PW.pt (e2r (a0y d6y (a1q (pv 0) T.a0j T.b3f ((c0u T).mono (by decide)) hr T.b5g .nil d9t (a0a (a1r a4l (pv 3) a0n) a0f)) (pv 4) (a1f _)) (d5l (a0y d6y (a1q (pv 0) T.a0j T.a6q ((b1b T).mono (by decide)) hr T.a7z .nil d9t (a0a (a1r a4l (pv 3) a0n) a0f)) (a2z a3j (a2z a5v (pv 1) (pv 3) (fun _ _=>rfl)) a0n (fun _ _=>rfl)) (a1f _)))))
   (a0g (a0s a9g))
   a1e)
   (a0g (a2v (PW.pt (e2r (a0y c6e (a1q (pv 0) T.a0j T.b0o ((b8a T).mono (by decide)) hr T.b3l .nil d9t (a0a (a1r a4l (pv 3) a0n) a0f)) a4q (a1f _)) (d5l (a0y (f0z hr.units) (a1q (pv 0) T.a0j T.b0u ((b8i T).mono (by decide)) hr T.b2z .nil d9t (a0a (a1r a4l (pv 3) a0n) a0f)) (a3k a0f) (a1f _)))))
   (a0g (a0s a9g))
   a1e))))))
   (a0g (a0s a9g))),?_⟩
  refine⟨_,rfl,_,_,rfl,.inl ⟨_,SqL.of hpl,rfl⟩,?_⟩
  refine⟨(us.length:Int),rfl,by omega,by omega,c0j (lo:=0) (n:=us.length) (fun i σ H2=>∃ x3 x4,σ=[some (.ref x.h),some (.ref pl),some (.int b),x3,x4]∧Same H H2) ⟨none,none,rfl,Same.refl _⟩ ?_ ?_⟩
  ·rintro i σ H2 hi ⟨x3,x4,rfl,s2⟩
   have his:i < ss.length:=by omega
   obtain⟨z,hz⟩:∃ z,ss[i]?=some z:=⟨_,List.getElem?_eq_getElem his⟩
   obtain⟨d,hd⟩:∃ d,xs[i]?=some d:=⟨_,List.getElem?_eq_getElem (by rw[O.len];exact his)⟩
   obtain⟨u,hu⟩:∃ u,us[i]?=some u:=⟨_,List.getElem?_eq_getElem hi⟩
   have O2:=O.same s2
   have D:=O2.each i d z hd hz
   obtain⟨p1,p2,p3⟩:=f9q d ((i:Int)+1) z
   obtain⟨t,dl,rfl,ht,hdl,_,_⟩:=hps i u z hu hz
   have hbz:=hb i z hz
   have inr:∀ {P:Prop},(((i:Int)+1 < 1)∨((xs.map fun d=>V.ref d.a).length:Int) < (i:Int)+1)→P:=fun w=>by
    rw[List.length_map,O.len] at w
    omega
   have at':∀ {i':Nat} {u:V},(i:Int)+1=(i':Int)+1→(xs.map fun d=>V.ref d.a)[i']?=some u→u=.ref d.a:=fun {i' u} e1 e2=>by
    have:i'=i:=by omega
    subst this
    rw[List.getElem?_map,hd] at e2
    exact(Option.some.inj e2).symm
   rw[Int.zero_add]
   refine⟨_,rfl,_,rfl,_,_,rfl,rfl,_,rfl,a5n (fun e=>?_) (fun e=>?_)⟩
   ·have hph:phS z="going":=if_neg fun w=>(hbz.mp w) (of_decide_eq_true e)
    refine⟨_,rfl,x.h,x.hx,_,rfl,O2.obj,rfl,_,rfl,_,_,rfl,rfl,x.h,x.hx,x.dl,b7x x st,_,_,rfl,O2.obj,rfl,O2.dls,fun i' u' e1 e2=>?_,fun w=>inr w⟩
    obtain rfl:=at' e1 e2
    refine⟨d.a,d.ax,d6k d ((i:Int)+1) z,rfl,D.obj,?_⟩
    rw[p1,hph]
    refine⟨_,rfl,rfl,_,rfl,a5n (fun w=>absurd w (by decide +kernel)) (fun _=>?_)⟩
    refine⟨_,rfl,x.h,x.hx,_,rfl,O2.obj,rfl,_,rfl,_,_,rfl,rfl,x.h,x.hx,x.dl,b7x x st,_,_,rfl,O2.obj,rfl,O2.dls,fun i2 u2 e3 e4=>?_,fun w=>inr w⟩
    obtain rfl:=at' e3 e4
    refine⟨d.a,d.ax,d6k d ((i:Int)+1) z,d.lv,d.lx,z.lv,rfl,D.obj,p3,D.lev,?_⟩
    refine⟨_,rfl,_,rfl,pl,_,_,_,rfl,rfl,SqL.of (s2 _ _ hpl),a0z hu,t,_,_,_,rfl,rfl,SqT.of (s2 _ _ ht),a0z (j:=0) rfl,rfl,_,rfl,a5n (fun w=>absurd w (by simp)) (fun _=>?_)⟩
    refine⟨_,rfl,x.h,x.hx,_,rfl,O2.obj,rfl,_,rfl,_,_,rfl,rfl,x.h,x.hx,x.dl,b7x x st,_,_,rfl,O2.obj,rfl,O2.dls,fun i3 u3 e5 e6=>?_,fun w=>inr w⟩
    obtain rfl:=at' e5 e6
    refine⟨d.a,d.ax,d6k d ((i:Int)+1) z,rfl,D.obj,?_⟩
    rw[p2]
    refine⟨rfl,_,rfl,a5n (fun w=>absurd w (by decide)) (fun _=>?_)⟩
    refine⟨_,rfl,x.h,x.hx,_,rfl,O2.obj,rfl,_,rfl,_,_,rfl,rfl,x.h,x.hx,x.dl,b7x x st,_,_,rfl,O2.obj,rfl,O2.dls,fun i4 u4 e7 e8=>?_,fun w=>inr w⟩
    obtain rfl:=at' e7 e8
    refine⟨d.a,d.ax,d6k d ((i:Int)+1) z,phS z,rfl,D.obj,p1,by rw[hph];decide +kernel,fun p hp=>?_⟩
    refine⟨(by show 0≤sizeLine;decide),fun p9 hp9=>?_⟩
    have s3:=(Same.upd (o:=HO.lst []) hp).trans (Same.upd (o:=HO.lst []) hp9)
    refine⟨p,p9,[],rfl,rfl,SqL.of ((Same.upd hp9) _ _ a0b),SqL.of a0b,_,rfl,a5n (fun w=>absurd w (by decide)) (fun _=>?_)⟩
    exact⟨_,_,rfl,s2.trans s3⟩
   ·have hph:phS z="new":=if_pos (hbz.mpr fun w=>e (decide_eq_true w))
    refine⟨_,rfl,x.h,x.hx,_,rfl,O2.obj,rfl,_,rfl,_,_,rfl,rfl,x.h,x.hx,x.dl,b7x x st,_,_,rfl,O2.obj,rfl,O2.dls,fun i' u' e1 e2=>?_,fun w=>inr w⟩
    obtain rfl:=at' e1 e2
    refine⟨d.a,d.ax,d6k d ((i:Int)+1) z,rfl,D.obj,?_⟩
    rw[p1,hph]
    refine⟨_,rfl,rfl,_,rfl,a5n (fun w=>absurd w (by decide +kernel)) (fun _=>?_)⟩
    refine⟨_,rfl,x.h,x.hx,_,rfl,O2.obj,rfl,_,rfl,_,_,rfl,rfl,x.h,x.hx,x.dl,b7x x st,_,_,rfl,O2.obj,rfl,O2.dls,fun i2 u2 e3 e4=>?_,fun w=>inr w⟩
    obtain rfl:=at' e3 e4
    refine⟨d.a,d.ax,d6k d ((i:Int)+1) z,d.lv,d.lx,z.lv,rfl,D.obj,p3,D.lev,?_⟩
    refine⟨_,rfl,_,rfl,pl,_,_,_,rfl,rfl,SqL.of (s2 _ _ hpl),a0z hu,t,_,_,_,rfl,rfl,SqT.of (s2 _ _ ht),a0z (j:=0) rfl,rfl,_,rfl,a5n (fun w=>absurd w (by simp)) (fun _=>?_)⟩
    refine⟨_,rfl,x.h,x.hx,_,rfl,O2.obj,rfl,_,rfl,_,_,rfl,rfl,x.h,x.hx,x.dl,b7x x st,_,_,rfl,O2.obj,rfl,O2.dls,fun i3 u3 e5 e6=>?_,fun w=>inr w⟩
    obtain rfl:=at' e5 e6
    refine⟨d.a,d.ax,d6k d ((i:Int)+1) z,rfl,D.obj,?_⟩
    rw[p2]
    refine⟨rfl,_,rfl,a5n (fun w=>absurd w (by decide)) (fun _=>?_)⟩
    refine⟨_,rfl,x.h,x.hx,_,rfl,O2.obj,rfl,_,rfl,_,_,rfl,rfl,x.h,x.hx,x.dl,b7x x st,_,_,rfl,O2.obj,rfl,O2.dls,fun i4 u4 e7 e8=>?_,fun w=>inr w⟩
    obtain rfl:=at' e7 e8
    refine⟨d.a,d.ax,d6k d ((i:Int)+1) z,phS z,rfl,D.obj,p1,by rw[hph];decide +kernel,fun p hp=>?_⟩
    refine⟨(by show 0≤sizeLine;decide),fun p9 hp9=>?_⟩
    have s3:=(Same.upd (o:=HO.lst []) hp).trans (Same.upd (o:=HO.lst []) hp9)
    refine⟨p,p9,[],rfl,rfl,SqL.of ((Same.upd hp9) _ _ a0b),SqL.of a0b,_,rfl,a5n (fun w=>absurd w (by decide)) (fun _=>?_)⟩
    exact⟨_,_,rfl,s2.trans s3⟩
  ·rintro σ H2 ⟨x3,x4,rfl,s2⟩
   exact q H2 s2
--@STAGE
open Spn
def e9p (K:PySem.W.Frag) (mg:Str→Option Value) (P0:Addr) (base:Heap):Sp:=fun vs H Q _=>∃ (a:Addr) (ns:List Int),vs=[.ref a]∧SqL K H a (ns.map V.int)∧ns.length≤63∧(∀ m∈ns,Builtin.Int.intBits m≤1048576)∧base.BuiltinsAt mg P0∧H P0=some (.tbl #[])∧∀ H',Q (.bl true) H'
structure Prs (H:Hp) (us:List V) (ss:List DS):Prop where
 len:us.length=ss.length
 pr:∀ (j:Nat) u s,us[j]?=some u→ss[j]?=some s→PrA H u (wd s.lv) s.ds∧s.bg=none∧s.k=j∧∃ q,s.ds=[.ref q]∧H q=some (.tup [.str "put",.int s.k,.int s.v])
theorem PrA.same {H H':Hp} {v:V} {x:Str} {xs:List V} (h:PrA H v x xs) (s:Same H H'):PrA H' v x xs:=by
 obtain⟨t,dl,rfl,a1,a2,a3⟩:=h
 exact⟨t,dl,rfl,s _ _ a1,s _ _ a2,a3⟩
theorem Prs.same {H H':Hp} {us:List V} {ss:List DS} (h:Prs H us ss) (s:Same H H'):Prs H' us ss :=
 ⟨h.len,fun j u z e1 e2=>by obtain⟨a1,a2,a3,q,a4,a5⟩:=h.pr j u z e1 e2;exact⟨a1.same s,a2,a3,q,a4,s _ _ a5⟩⟩
theorem Prs.snoc {H:Hp} {us:List V} {ss:List DS} (h:Prs H us ss) {u:V} {s:DS} (p:PrA H u (wd s.lv) s.ds∧s.bg=none∧s.k=us.length∧∃ q,s.ds=[.ref q]∧H q=some (.tup [.str "put",.int s.k,.int s.v])):Prs H (us++[u]) (ss++[s]):=by
 refine⟨by simp[h.len],fun j u' s' e1 e2=>?_⟩
 rcases Nat.lt_or_ge j us.length with q | q
 ·rw[List.getElem?_append_left q] at e1
  rw[List.getElem?_append_left (by rw[←h.len];exact q)] at e2
  exact h.pr j u' s' e1 e2
 ·rw[List.getElem?_append_right q] at e1
  rw[List.getElem?_append_right (by rw[←h.len];exact q)] at e2
  have hj:j=us.length:=by
   have:=(List.getElem?_eq_some_iff.mp e1).1
   simp at this
   omega
  subst hj
  rw[Nat.sub_self] at e1
  rw[h.len,Nat.sub_self] at e2
  cases e1
  cases e2
  exact p
theorem f2p {H:Hp} {kvs:List (Key×V)} {m:List (Int×List Hold)} (r:Ent H kvs m) {b:Addr} (h:V.ref b∈kvs.map (·.2)):H b≠none:=by
 induction r with
 | nil=>cases h
 | cons hl _ _ ih =>
  rcases List.mem_cons.mp h with z | z
  ·cases z
   rw[hl]
   simp
  ·exact ih z
theorem b2w.has {K:PySem.W.Frag} {C CD CS CH:Addr} {cls:Lv→Addr} {H:Hp} {x:HA} {ls:List Addr} {xs:List DA} {ss:List DS} {st:Int} {told:List V} {m:List (Int×List Hold)} (O:b2w K C CD CS CH cls H x ls xs ss st told m):(∀ b∈a3q x ls xs,H b≠none)∧∀ b∈a5l x xs,H b≠none:=by
 obtain⟨kvs,hs,hk⟩:=O.hs
 have each:∀ d∈xs,∃ i s,c5t CD cls H d i s:=fun d hd=>by
  obtain⟨j,hj,rfl⟩:=List.mem_iff_getElem.mp hd
  have hj2:j < ss.length:=by rw[←O.len];exact hj
  exact⟨_,_,O.each j _ ss[j] (List.getElem?_eq_getElem hj) (List.getElem?_eq_getElem (by rw[←O.len];exact hj))⟩
 refine⟨fun b hb=>?_,fun b hb=>?_⟩
 ·unfold a3q at hb
  simp only [List.mem_cons,List.mem_append] at hb
  rcases hb with rfl | rfl | rfl | hb | hb
  ·rw[O.obj];simp
  ·rw[O.tol];simp
  ·rw[hs.dict];simp
  ·exact f2p hs.ent (by rw[hk];exact b3j.mpr hb)
  ·obtain⟨d,hd,hb⟩:=List.mem_flatMap.mp hb
   obtain⟨i,s,D⟩:=each d hd
   simp only [a4d,List.mem_cons,List.not_mem_nil,or_false] at hb
   rcases hb with rfl | rfl | rfl
   ·rw[D.obj];simp
   ·rw[D.drf];simp
   ·rw[D.wrt];simp
 ·unfold a5l at hb
  simp only [List.mem_cons] at hb
  rcases hb with rfl | rfl | rfl | hb
  ·rw[O.mks];simp
  ·rw[O.dls];simp
  ·rw[O.sps];simp
  ·obtain⟨d,hd,hb⟩:=List.mem_flatMap.mp hb
   obtain⟨i,s,D⟩:=each d hd
   simp only [b0x,List.mem_cons,List.not_mem_nil,or_false] at hb
   rcases hb with rfl | rfl | rfl
   ·rw[D.dee];simp
   ·rw[D.nam];simp
   ·rw[D.lok];simp
theorem b2w.but {K:PySem.W.Frag} {C CD CS CH:Addr} {cls:Lv→Addr} {H H':Hp} {x:HA} {ls:List Addr} {xs:List DA} {ss:List DS} {st:Int} {told:List V} {m:List (Int×List Hold)} (O:b2w K C CD CS CH cls H x ls xs ss st told m) {c:Addr} {ys:List V} (hc:H c=some (.lst ys)) (n1:c ∉ a3q x ls xs) (n2:c ∉ a5l x xs) (k:∀ b o,b≠c→H b=some o→H' b=some o):b2w K C CD CS CH cls H' x ls xs ss st told m:=by
 have m0:∀ b∈a3q x ls xs,b≠c:=fun b hb z=>n1 (z ▸ hb)
 have f0:∀ b∈a5l x xs,b≠c:=fun b hb z=>n2 (z ▸ hb)
 have mh:x.h≠c:=m0 _ (by simp[a3q])
 have mt:x.tl≠c:=m0 _ (by simp[a3q])
 have md:x.hd≠c:=m0 _ (by simp[a3q])
 have no:∀ {b:Addr} {o:HO},H b=some o→(∀ zs,o≠.lst zs)→b≠c:=fun e n z=>by
  rw[z,hc] at e
  cases e
  exact n _ rfl
 refine⟨k _ _ mh O.obj,k _ _ (no O.shl fun zs z=>by cases z) O.shl,k _ _ (f0 _ (by simp[a5l])) O.mks,?_,k _ _ (f0 _ (by simp[a5l])) O.dls,O.len,fun i d s e1 e2=>?_,k _ _ (f0 _ (by simp[a5l])) O.sps,k _ _ mt O.tol,O.nd,O.dis⟩
 ·obtain⟨kvs,hs,hk⟩:=O.hs
  refine⟨kvs,⟨k _ _ (no hs.obj fun zs z=>by cases z) hs.obj,k _ _ md hs.dict,hs.ent.kept2 (fun b zs e=>k _ _ (no e fun zs z=>by cases z) e) (fun b vs e z=>k _ _ (m0 _ ?_) e),hs.few,hs.short,hs.keys,hs.vals⟩,hk⟩
  rw[hk] at z
  have:=b3j.mp z
  simp[a3q,this]
 ·have D:=O.each i d s e1 e2
  have hd:=List.mem_of_getElem? e1
  have mm:∀ b∈a4d d,b≠c:=fun b hb=>m0 _ (by unfold a3q;exact List.mem_cons_of_mem _ (List.mem_cons_of_mem _ (List.mem_cons_of_mem _ (List.mem_append_right _ (List.mem_flatMap.mpr ⟨d,hd,hb⟩)))))
  have ff:∀ b∈b0x d,b≠c:=fun b hb=>f0 _ (by unfold a5l;exact List.mem_cons_of_mem _ (List.mem_cons_of_mem _ (List.mem_cons_of_mem _ (List.mem_flatMap.mpr ⟨d,hd,hb⟩))))
  exact⟨k _ _ (mm _ (by simp[a4d])) D.obj,k _ _ (no D.lev fun zs z=>by cases z) D.lev,k _ _ (ff _ (by simp[b0x])) D.dee,k _ _ (ff _ (by simp[b0x])) D.nam,k _ _ (mm _ (by simp[a4d])) D.drf,k _ _ (mm _ (by simp[a4d])) D.wrt,k _ _ (ff _ (by simp[b0x])) D.lok⟩
theorem b2w.notup {K:PySem.W.Frag} {C CD CS CH:Addr} {cls:Lv→Addr} {H:Hp} {x:HA} {ls:List Addr} {xs:List DA} {ss:List DS} {st:Int} {told:List V} {m:List (Int×List Hold)} (O:b2w K C CD CS CH cls H x ls xs ss st told m) {b:Addr} {zs:List V} (h:H b=some (.tup zs)):b ∉ a3q x ls xs:=by
 obtain⟨kvs,hs,hk⟩:=O.hs
 intro hb
 have ent:∀ {kvs:List (Key×V)} {m:List (Int×List Hold)},Ent H kvs m→V.ref b∈kvs.map (·.2)→False:=by
  intro kvs m r
  induction r with
  | nil=>intro h;cases h
  | cons hl _ _ ih =>
   intro hm
   rcases List.mem_cons.mp hm with z | z
   ·cases z
    rw[hl] at h
    cases h
   ·exact ih z
 unfold a3q at hb
 simp only [List.mem_cons,List.mem_append] at hb
 rcases hb with rfl | rfl | rfl | hb | hb
 ·rw[O.obj] at h;cases h
 ·rw[O.tol] at h;cases h
 ·rw[hs.dict] at h;cases h
 ·exact ent hs.ent (by rw[hk];exact b3j.mpr hb)
 ·obtain⟨d,hd,hb⟩:=List.mem_flatMap.mp hb
  obtain⟨j,hj,rfl⟩:=List.mem_iff_getElem.mp hd
  have hj2:j < ss.length:=by rw[←O.len];exact hj
  have D:=O.each j _ ss[j] (List.getElem?_eq_getElem hj) (List.getElem?_eq_getElem hj2)
  simp only [a4d,List.mem_cons,List.not_mem_nil,or_false] at hb
  rcases hb with rfl | rfl | rfl
  ·rw[D.obj] at h;cases h
  ·rw[D.drf] at h;cases h
  ·rw[D.wrt] at h;cases h
def Own (U H:Hp) (x:HA) (ls:List Addr) (xs:List DA):Prop:=∀ b o,U b=some o→H b=some o∧b ∉ a3q x ls xs∧b ∉ a5l x xs
theorem Own.same {U H H':Hp} {x:HA} {ls:List Addr} {xs:List DA} (h:Own U H x ls xs) (s:Same H H'):Own U H' x ls xs:=fun b o e=>⟨s _ _ (h b o e).1,(h b o e).2⟩
theorem Own.new {K:PySem.W.Frag} {C CD CS CH:Addr} {cls:Lv→Addr} {U H:Hp} {x:HA} {ls:List Addr} {xs:List DA} {ss:List DS} {st:Int} {told:List V} {m:List (Int×List Hold)} (h:Own U H x ls xs) (O:b2w K C CD CS CH cls H x ls xs ss st told m) {c:Addr} {o:HO} (hc:H c=none):Own (upd U c o) (upd H c o) x ls xs:=fun b o' e=>by
 by_cases z:b=c
 ·subst z
  rw[a0b] at e ⊢
  exact⟨e,fun hb=>O.has.1 _ hb hc,fun hb=>O.has.2 _ hb hc⟩
 ·rw[a0d z] at e ⊢
  exact h b o' e
theorem Own.put {U H H':Hp} {x:HA} {ls:List Addr} {xs:List DA} (h:Own U H x ls xs) {c:Addr} {o o':HO} (hc:U c=some o) (h':H' c=some o') (k:∀ b o,b≠c→H b=some o→H' b=some o):Own (upd U c o') H' x ls xs:=fun b u e=>by
 by_cases z:b=c
 ·subst z
  rw[a0b] at e
  cases e
  exact⟨h',(h _ _ hc).2⟩
 ·rw[a0d z] at e
  exact⟨k _ _ z (h b u e).1,(h b u e).2⟩
def MB (m:List (Int×List Hold)) (b:Nat):Prop:=m.length≤b∧∀ z∈m,z.2.length≤b∧∀ r∈z.2,r.2.1 < (b:Int)
theorem MB.none {m:List (Int×List Hold)} {b:Nat} (h:MB m b) (n:Int) {q0:Int} (hq0:(b:Int)≤q0):ags m n q0 q0 true=[]:=by
 unfold ags
 refine List.filter_eq_nil_iff.mpr fun k _=>?_
 intro hh
 obtain⟨r,hr,hcl⟩:=List.any_eq_true.mp hh
 unfold hk at hr
 cases hf:m.find? fun q=>decide (q.1=k) with
 | none=>rw[hf] at hr;cases hr
 | some q =>
  rw[hf] at hr
  have hm:=List.mem_of_find?_eq_some hf
  have hlt:=(h.2 q hm).2 r hr
  unfold clash at hcl
  rw[Bool.and_eq_true] at hcl
  have:=of_decide_eq_true hcl.2
  split at this<;>split at this<;>omega
theorem MB.add {m:List (Int×List Hold)} {b:Nat} (h:MB m b) (n:Int):MB (d7y m n (b,b,true)) (b+1):=by
 unfold d7y
 split
 ·refine⟨by rw[List.length_map];have:=h.1;omega,fun z hz=>?_⟩
  obtain⟨q,hq,rfl⟩:=List.mem_map.mp hz
  have hh:=h.2 q hq
  split
  ·refine⟨by rw[List.length_append];show q.2.length+1≤b+1;have:=hh.1;omega,fun r hr=>?_⟩
   rcases List.mem_append.mp hr with z | z
   ·have:=hh.2 r z;omega
   ·rw[List.mem_singleton.mp z];show ((b:Nat):Int) < _;omega
  ·exact⟨by have:=hh.1;omega,fun r hr=>by have:=hh.2 r hr;omega⟩
 ·refine⟨by rw[List.length_append];show m.length+1≤b+1;have:=h.1;omega,fun z hz=>?_⟩
  rcases List.mem_append.mp hz with z' | z'
  ·have hh:=h.2 z z'
   exact⟨by have:=hh.1;omega,fun r hr=>by have:=hh.2 r hr;omega⟩
  ·rw[List.mem_singleton.mp z']
   refine⟨by show 1≤b+1;omega,fun r hr=>?_⟩
   rw[List.mem_singleton.mp hr]
   show ((b:Nat):Int) < _
   omega
def Bgn (ss ss2:List DS) (b:Nat):Prop:=ss2.length=ss.length∧∀ (j:Nat) s,ss[j]?=some s→ss2[j]?=some (if j < b then {s with bg:=some ((j:Int)+1)} else s)
theorem Bgn.step {ss ss2:List DS} {b:Nat} {s:DS} (h:Bgn ss ss2 b) (hs:ss[b]?=some s):Bgn ss (ss2.set b {s with bg:=some ((b:Int)+1)}) (b+1):=by
 refine⟨by rw[List.length_set];exact h.1,fun j z e=>?_⟩
 have hb:b < ss2.length:=by rw[h.1];exact(List.getElem?_eq_some_iff.mp hs).1
 by_cases hj:j=b
 ·subst hj
  rw[hs] at e
  cases e
  rw[List.getElem?_set_self hb,if_pos (Nat.lt_succ_self _)]
 ·rw[List.getElem?_set_ne (fun z=>hj z.symm),h.2 j z e]
  by_cases hlt:j < b
  ·rw[if_pos hlt,if_pos (by omega)]
  ·rw[if_neg hlt,if_neg (by omega)]
def d4s (j:Nat) (s:DS):List V:=[.int ((j:Int)+1),.int ((j:Int)+1),.str "put",.int s.k,.int s.v]
def f5d (j:Nat) (s:DS):PyData:=.tuple [.int ((j:Int)+1),.int ((j:Int)+1),.str "put",.int s.k,.int s.v]
def b4w (H:Hp) (ss:List DS) (b:Nat) (rs:List V):Prop:=rs.length=b∧∀ (j:Nat) v,rs[j]?=some v→∃ t s,v=.ref t∧ss[j]?=some s∧H t=some (.tup (d4s j s))
theorem b4w.same {H H':Hp} {ss:List DS} {b:Nat} {rs:List V} (h:b4w H ss b rs) (s:∀ t xs,H t=some (.tup xs)→H' t=some (.tup xs)):b4w H' ss b rs :=
 ⟨h.1,fun j v e=>by obtain⟨t,z,a1,a2,a3⟩:=h.2 j v e;exact⟨t,z,a1,a2,s _ _ a3⟩⟩
theorem b4w.snoc {H:Hp} {ss:List DS} {b:Nat} {rs:List V} (h:b4w H ss b rs) {t:Addr} {s:DS} (hs:ss[b]?=some s) (ht:H t=some (.tup (d4s b s))):b4w H ss (b+1) (rs++[.ref t]):=by
 refine⟨by rw[List.length_append,h.1];rfl,fun j v e=>?_⟩
 rcases Nat.lt_or_ge j rs.length with q | q
 ·rw[List.getElem?_append_left q] at e
  exact h.2 j v e
 ·rw[List.getElem?_append_right q] at e
  have hj:j=b:=by
   have:=(List.getElem?_eq_some_iff.mp e).1
   have h1:=h.1
   simp at this
   omega
  subst hj
  rw[h.1,Nat.sub_self] at e
  cases e
  exact⟨t,s,rfl,hs,ht⟩
theorem e7w {H:Hp} {t:Addr} {j:Nat} {s:DS} (h:H t=some (.tup (d4s j s))):Tr H (.ref t) (f5d j s):=.tup h (.cons (.int _) (.cons (.int _) (.cons (.str _) (.cons (.int _) (.cons (.int _) .nil)))))
theorem e1p {H:Hp} {ss:List DS} {b:Nat} {rs:List V} (h:b4w H ss b rs):Trs H rs ((List.range b).map fun j=>f5d j (ss.getD j ⟨.loose,[],0,0,none⟩)):=by
 have key:∀ (l:List V) (k:Nat),(∀ (j:Nat) v,l[j]?=some v→∃ t s,v=.ref t∧ss[k+j]?=some s∧H t=some (.tup (d4s (k+j) s)))→Trs H l ((List.range' k l.length).map fun j=>f5d j (ss.getD j ⟨.loose,[],0,0,none⟩)):=by
  intro l
  induction l with
  | nil=>intro k _;exact .nil
  | cons v r ih =>
   intro k hk
   obtain⟨t,s,rfl,e1,e2⟩:=hk 0 v rfl
   rw[List.length_cons,List.range'_succ,List.map_cons]
   rw[Nat.add_zero] at e1 e2
   refine .cons ?_ (ih (k+1) fun j v e=>?_)
   ·rw[show ss.getD k ⟨.loose,[],0,0,none⟩=s by rw[List.getD_eq_getElem?_getD,e1];rfl]
    exact e7w e2
   ·have:=hk (j+1) v e
    rwa [show k+(j+1)=k+1+j by omega] at this
 have:=key rs 0 fun j v e=>by rw[Nat.zero_add];exact h.2 j v e
 rw[h.1,←List.range_eq_range'] at this
 exact this
theorem e3c (ss:List DS) (b:Nat):(PyData.list ((List.range b).map fun j=>f5d j (ss.getD j ⟨.loose,[],0,0,none⟩))).depth < 7:=by
 have:∀ l:List Nat,PyData.depthAll (l.map fun j=>f5d j (ss.getD j ⟨.loose,[],0,0,none⟩))≤1:=by
  intro l
  induction l with
  | nil=>exact Nat.zero_le _
  | cons j r ih =>
   show max 1 (PyData.depthAll (r.map fun j=>f5d j (ss.getD j ⟨.loose,[],0,0,none⟩)))≤1
   omega
 have:=this (List.range b)
 show PyData.depthAll _+1 < 7
 omega
theorem e9q (xs:List V) (v:V):e0n (xs++[v]) (some (-1)) none=[v]:=by
 unfold e0n
 have e:HT.sIx (xs++[v]).length 0 (some (-1))=xs.length:=by
  show (if (-1:Int) < 0 then ((-1:Int)+((xs++[v]).length:Nat)).toNat else min (-1:Int).toNat (xs++[v]).length)=_
  rw[if_pos (by decide),List.length_append]
  show ((-1:Int)+((xs.length+1:Nat):Int)).toNat=_
  omega
 rw[e,show HT.sIx (xs++[v]).length (xs++[v]).length none=(xs++[v]).length from rfl,List.drop_left,List.length_append]
 exact List.take_of_length_le (by simp)
theorem f9m (l:Lv):(wd l).length≤600∧∀ c∈(wd l).cps.toList,c < 16 ^ 8:=by cases l<;>exact⟨by decide +kernel,by decide +kernel⟩
def lv5:List Lv:=[.loose,.kept,.make,.watch,.hold]
theorem c7t:∀ x∈(["","Kept","hol","makes"," watch","loose "]:List Str),x≠wd .loose∧x≠wd .kept∧x≠wd .make∧x≠wd .watch∧x≠wd .hold∧x.length≤600∧∀ c∈x.cps.toList,c < 16 ^ 8:=by decide +kernel
theorem e1r {x:Str} (h:x∈(["","Kept","hol","makes"," watch","loose "]:List Str)):∀ l,x≠wd l:=by
 obtain⟨a,b,c,d,e,_⟩:=c7t x h
 intro l
 cases l
 ·exact a
 ·exact b
 ·exact c
 ·exact d
 ·exact e
theorem f6f (T:Tx K mg):a2j P w K mg base CX0 14 T.f1c T.e9r ["_law_script"] (e9p K mg T.lp base):=by
 refine T.f7p.ok a8a (fun vs H Q E h=>?_) (fun cdv A outer s H vs Q E hr h=>?_)
 ·obtain⟨a,ns,rfl,_⟩:=h
  rfl
 ·obtain⟨a,ns,rfl,hS,hlen,hb,hB,hT,k⟩:=h
  have hu:=c3h hr
  have sqK:∀ H',(∀ b o,H b=some o→(∀ ps,o≠.tbl ps)→H' b=some o)→SqL K H' a (ns.map V.int):=fun H' kk=>by
   rcases hS with (h | ⟨o,h⟩) | h
   ·exact .inl (.inl (kk _ _ h fun ps z=>by cases z))
   ·exact .inl (.inr ⟨o,kk _ _ h fun ps z=>by cases z⟩)
   ·exact .inr h
  refine⟨_,(a0e (a1s (i:=1) a8a.nd rfl (Or.inr rfl) (a1r a7o (a1b ((a8n T).mono (by decide)) hr rfl T.b0v T.a8u.kp T.b0h .nil a1j (a0a (pv 0) (a0a a0n a0f))) a0n))
   (a0e (a1s (i:=2) a8a.nd rfl (Or.inl rfl) (a3k a0f))
   (a0e (a8d PassesOwn.never rfl (c0z rfl T.b9l (a0a (pv 1) a0f)) (a1m (i:=3) a8a.nd rfl (Or.inl rfl))
   (a0e (a1s (i:=4) a8a.nd rfl (Or.inl rfl) (a1b ((f4j T).mono (by decide)) hr rfl T.f1v T.e4d.kp T.f2g .nil a1j (a0a (a1b ((a8n T).mono (by decide)) hr rfl T.b0v T.a8u.kp T.b0h .nil a1j (a0a (pv 0) (a0a a0n a0f))) (a0a (pv 3) a0f))))
   (a0g (a2t (e4g PySem.F.plainAttrs_list PySem.F.slot_list_append PySem.F.type_list_append b7t (pv 2) (a0a (a8b (a0a (a2z a5v (a3k (a0a a2b (a0a a2b (a0a a2b (a0a a2b (a0a a2b a0f)))))) (a1r a7o (pv 4) a0n) (fun _ _=>rfl)) (a0a (a3k (a0a (a8b (a0a a2b (a0a (pv 3) (a0a (pv 4) a0f)))) a0f)) a0f))) a0f))))))
   (a0e (a1s (i:=5) a8a.nd rfl (Or.inl rfl) (d4b T.d3s ((c4a T).mono (by decide)) hr rfl T.d9a T.b9m .nil d9t (a0a b1s (a0a (a7s a3z (by rfl) T.b1k boot_list (a0a (pv 2) a0f)) a0f))))
   (a0e (a1s (i:=6) a8a.nd rfl (Or.inl rfl) (a3k a0f))
   (a0e (a8d PassesOwn.never rfl (c0z rfl T.b9l (a0a (a1r a7o (a1b ((a8n T).mono (by decide)) hr rfl T.b0v T.a8u.kp T.b0h .nil a1j (a0a (pv 0) (a0a a0n a0f))) a0n) a0f)) (a1m (i:=3) a8a.nd rfl (Or.inl rfl))
   (a0g (a2v (a0y d8s (pv 3) (pv 1) (a1f _))
   (a0e (a2t (e4g PySem.F.plainAttrs_list PySem.F.slot_list_append PySem.F.type_list_append b7t (pv 6) (a0a (a8b (a0a (a1r a4l (pv 3) a0n) (a0a (a1r a4l (pv 3) a0n) (a0a a2b (a0a (pv 3) (a0a (a2z a3j (a2z a5v (a2z a3j (a2z a5v (pv 2) (pv 3) (fun _ _=>rfl)) a0n (fun _ _=>rfl)) a0n (fun _ _=>rfl)) a0n (fun _ _=>rfl)) a0f)))))) a0f)))
   (a0g (a2v (b8g (a3t (a1b ((c4w T).mono (by decide)) hr rfl T.c3g T.b9a.kp T.c2l .nil a1j (a0a (a1q (pv 5) T.a0j T.b0f ((b4g T).mono (by decide)) hr T.b3v .nil d9t (a0a (a1r a4l (pv 3) a0n) a0f)) (a0a (b2c b9c (pv 6) (b4s (f5o f2j a0n)) c2p) a0f)))))
   (a0g (a0s a9g))
   a1e)))
   a1e)))
   (a0e (a1s (i:=7) a8a.nd rfl (Or.inl rfl) (a1r a7o (a1r e3v (a1b ((a8n T).mono (by decide)) hr rfl T.b0v T.a8u.kp T.b0h .nil a1j (a0a (pv 0) (a0a a0n a0f))) a0n) (a1r e5e (a1r f6o a0n a0n) a0n)))
   (c8q (a2v (a0y c1e (a1r a7o (a1r e3v (a1b ((a8n T).mono (by decide)) hr rfl T.b0v T.a8u.kp T.b0h .nil a1j (a0a (pv 0) (a0a a0n a0f))) a0n) a0n) a0n (a1f _))
   (a0g (a1s (i:=7) a8a.nd rfl (Or.inl rfl) (a1r a7o (pv 7) a0n)))
   a1e)
   (a0e (a1s (i:=4) a8a.nd rfl (Or.inl rfl) (a2z a5v (a3k (a0a (a1r a4l (a1r a4l (pv 1) a0n) (pv 7)) (a0a (a1r e5e a0n (pv 7)) a0f))) (a1r a7o (a1b ((a8n T).mono (by decide)) hr rfl T.b0v T.a8u.kp T.b0h .nil a1j (a0a (pv 0) (a0a a0n a0f))) a0n) (fun _ _=>rfl)))
   (a0e (a8d PassesOwn.never rfl (c0z rfl T.b9l (a0a a0n a0f)) (a1m (i:=8) a8a.nd rfl (Or.inl rfl))
   (a0g (a2v (b8g (a3t (a1b ((d9d T).mono (by decide)) hr rfl T.d2a T.c2c.kp T.d1r .nil a1j (a0a (pv 5) (a0a (pv 8) (a0a (pv 4) a0f))))))
   (a0g (a0s a9g))
   a1e)))
   (a0e (e0w (i:=9) ["_law_cell_here"] rfl a8a.nd rfl rfl (a4o.mk (fv:=["_law_many"]) (js:=[1]) rfl (by decide +kernel) (by decide +kernel) (by decide +kernel) (a3s (Or.inl rfl) a7a) rfl (by decide +kernel)) (a3a (b2c b9c (pv 0) (b4s a0n) (b4s a0n))) rfl (fun _ _ _ _ _=>(a1m (i:=0) (show (["_law_cell_here","_law_many"]:List Str).Nodup by decide +kernel) rfl (Or.inl rfl))) (fun _ _ _ _ _=>(e0k (a0y d7x (pv 1) a0n (a1f _)))) (fun _ _ _ _ _=>(a1r a4l (a1r a7o (pv 0) (pv 1)) a0n)))
   (a0e (a1s (i:=10) a8a.nd rfl (Or.inl rfl) (a1r a7o (a1b ((a8n T).mono (by decide)) hr rfl T.b0v T.a8u.kp T.b0h .nil a1j (a0a (pv 0) (a0a a0n a0f))) (a1r a4l (a0t a2l (by rfl) T.b0z boot_len (a0a (pv 9) a0f)) a0n)))
   (c8q (a2v (PW.pt (e2r (b8g (a3t (a1b ((d8y T).mono (by decide)) hr rfl T.d2i T.c3e.kp T.d2h .nil a1j (a0a (pv 5) (a0a (a1r e1l (a1r e1l (b2c b9c (pv 9) c2p (b4s (pv 10))) (a3k (a0a (pv 4) a0f))) (b2c b9c (pv 9) (b4s (pv 10)) c2p)) a0f))))) (d5l (b8g (a3t (a1b ((c4w T).mono (by decide)) hr rfl T.c3g T.b9a.kp T.c2l .nil a1j (a0a (a9w (pv 5) T.a0j T.c9t ((d8q T).mono (by decide)) hr T.d2f .nil a1j) (a0a (pv 6) a0f))))))))
   (a0g (a0s a9g))
   a1e)
   (c8q (a2v (b8g (a3t (a1b ((e2o T).mono (by decide)) hr rfl T.d7a T.c8z.kp T.d7l .nil a1j (a0a (pv 5) (a0a (pv 2) (a0a (a0t a2l (by rfl) T.b0z boot_len (a0a (pv 6) a0f)) a0f))))))
   (a0g (a0s a9g))
   a1e)
   (c8q (a2v (a0y d7x (pv 1) a0n (a1f _))
   (a0e (a1s (i:=11) a8a.nd rfl (Or.inl rfl) (a1q (pv 5) T.a0j T.b0f ((b4g T).mono (by decide)) hr T.b3v .nil d9t (a0a (pv 1) a0f)))
   (c8q (a2v (PW.pt (e2r (a0y d6y (a0t a2l (by rfl) T.b0z boot_len (a0a (pv 11) a0f)) a0n (a1f _)) (e2r (a0y d6y (a2z a3j (a2z a5v (pv 11) a0n (fun _ _=>rfl)) a0n (fun _ _=>rfl)) (a1r a4l (a0t a2l (by rfl) T.b0z boot_len (a0a (pv 6) a0f)) a0n) (a1f _)) (d5l (a0y d6y (a2z a3j (a2z a5v (pv 11) a0n (fun _ _=>rfl)) a0n (fun _ _=>rfl)) (pv 1) (a1f _))))))
   (a0g (a0s a9g))
   a1e)
   (a0e (a1s (i:=12) a8a.nd rfl (Or.inl rfl) (a2z a5v (a3k (a0a a2b (a0a a2b (a0a a2b (a0a a2b (a0a a2b (a0a a2b a0f))))))) (a1r a7o (a1b ((a8n T).mono (by decide)) hr rfl T.b0v T.a8u.kp T.b0h .nil a1j (a0a (pv 0) (a0a a0n a0f))) a0n) (fun _ _=>rfl)))
   (a0g (a0s (a1b ((d8u T).mono (by decide)) hr rfl T.d0w T.c2w.kp T.d1t .nil a1j (a0a (pv 2) (a0a (a1r a7o (a1b ((a8n T).mono (by decide)) hr rfl T.b0v T.a8u.kp T.b0h .nil a1j (a0a (pv 0) (a0a a0n a0f))) (pv 1)) (a0a (pv 12) a0f)))))))))
   a1e)
   (a0g (a0s (b1g (a1b ((c4w T).mono (by decide)) hr rfl T.c3g T.b9a.kp T.c2l .nil a1j (a0a (a9w (pv 5) T.a0j T.c3x ((d7p T).mono (by decide)) hr T.c6d .nil a1j) (a0a (a3k a0f) a0f))) (b8p (a1b ((c4w T).mono (by decide)) hr rfl T.c3g T.b9a.kp T.c2l .nil a1j (a0a (a9w (pv 5) T.a0j T.c0q ((d3u T).mono (by decide)) hr T.c3n .nil a1j) (a0a (a3k a0f) a0f)))))))))))))))))))))),?_⟩
  refine⟨_,rfl,a,ns,0,rfl,hS,hlen,by decide,by decide,fun c0=>?_⟩
  refine⟨_,_,rfl,rfl,(by show (0:Int) < 9;decide),?_⟩
  have m0:0≤c0%9:=Int.emod_nonneg _ (by decide)
  have m9:c0%9 < 9:=Int.emod_lt_of_pos _ (by decide)
  show e9u 1 (V.int (c0%9)) _ _ _
  generalize c0%9=mn at m0 m9 ⊢
  obtain⟨M,rfl⟩:∃ M:Nat,mn=(M:Int):=⟨mn.toNat,by omega⟩
  refine⟨(by show 0≤sizeLine;decide),fun PL hPL=>?_⟩
  have sP:=Same.upd (o:=HO.lst []) hPL
  have pl0:=a0b (H:=H) (a:=PL) (o:=HO.lst [])
  generalize upd H PL (.lst [])=H1 at sP pl0 ⊢
  refine⟨_,rfl,(M:Int),rfl,by omega,by omega,c0j (lo:=0) (n:=M) (fun i σ H2=>∃ x3 x4 us ss,σ=[some (.ref a),some (.int M),some (.ref PL),x3,x4,none,none,none,none,none,none,none,none]∧H2 PL=some (.lst us)∧us.length=i∧Prs (del H2 PL) us ss∧Same H H2) ⟨none,none,[],[],rfl,pl0,rfl,⟨rfl,fun j u s e=>by simp at e⟩,sP⟩ ?_ ?_⟩
  ·rintro i σ H2 hi ⟨x3,x4,us,ss,rfl,hus,hul,PR,s2⟩
   refine⟨_,rfl,a,ns,1,rfl,s2.seq hS,hlen,by decide,by decide,fun c1=>?_⟩
   refine⟨_,rfl,c1,(i:Int),by rw[Int.zero_add];rfl,by omega,by omega,fun z z0 z1=>?_⟩
   refine⟨_,rfl,.inl ⟨rfl,_,SqL.of hus⟩,(by show 5≤sizeLine;decide),fun wl hwl=>?_⟩
   have s3:=Same.upd (o:=HO.lst [V.str "loose",V.str "kept",V.str "make",V.str "watch",V.str "hold"]) hwl
   have w3:=a0b (H:=H2) (a:=wl) (o:=HO.lst [V.str "loose",V.str "kept",V.str "make",V.str "watch",V.str "hold"])
   generalize upd H2 wl (HO.lst [V.str "loose",V.str "kept",V.str "make",V.str "watch",V.str "hold"])=H3 at s3 w3 ⊢
   obtain⟨wv,hwv⟩:=d1k (xs:=lv5.map fun l=>V.str (wd l)) (Int.emod_nonneg z (show (5:Int)≠0 by decide)) (Int.emod_lt_of_pos z (show (0:Int) < 5 by decide))
   obtain⟨lv,_,rfl⟩:=List.mem_map.mp (c1w hwv)
   refine⟨_,rfl,_,_,rfl,rfl,(by show (0:Int) < 5;decide),wl,_,_,_,rfl,rfl,SqL.of w3,hwv,?_⟩
   refine⟨_,rfl,_,rfl,(by show 3≤sizeLine;decide),fun q hq=>?_⟩
   have s4:=s3.trans (Same.upd (o:=HO.tup [V.str "put",V.int (0+(i:Int)),V.int z]) hq)
   have q4:=a0b (H:=H3) (a:=q) (o:=HO.tup [V.str "put",V.int (0+(i:Int)),V.int z])
   generalize upd H3 q (HO.tup [V.str "put",V.int (0+(i:Int)),V.int z])=H4 at s4 q4 ⊢
   refine⟨(by show 1≤sizeLine;decide),fun dl hdl=>?_⟩
   have s5:=s4.trans (Same.upd (o:=HO.lst [V.ref q]) hdl)
   have q5:=Same.upd (o:=HO.lst [V.ref q]) hdl _ _ q4
   have d5:=a0b (H:=H4) (a:=dl) (o:=HO.lst [V.ref q])
   generalize upd H4 dl (HO.lst [V.ref q])=H5 at s5 q5 d5 ⊢
   refine⟨(by show 2≤sizeLine;decide),fun t ht=>?_⟩
   have s6:=s5.trans (Same.upd (o:=HO.tup [V.str (wd lv),V.ref dl]) ht)
   have q6:=Same.upd (o:=HO.tup [V.str (wd lv),V.ref dl]) ht _ _ q5
   have d6:=Same.upd (o:=HO.tup [V.str (wd lv),V.ref dl]) ht _ _ d5
   have t6:=a0b (H:=H5) (a:=t) (o:=HO.tup [V.str (wd lv),V.ref dl])
   generalize upd H5 t (HO.tup [V.str (wd lv),V.ref dl])=H6 at s6 q6 d6 t6 ⊢
   refine⟨PL,us,_,rfl,rfl,s6 _ _ hus,Nat.lt_of_le_of_lt (show us.length≤9 by omega) (by decide),fun H7 h7 k7=>?_⟩
   have nq:q≠PL:=fun zz=>by rw[zz,s3 _ _ hus] at hq;cases hq
   have nd:dl≠PL:=fun zz=>by rw[zz,s4 _ _ hus] at hdl;cases hdl
   have nt:t≠PL:=fun zz=>by rw[zz,s5 _ _ hus] at ht;cases ht
   have sD:Same (del H2 PL) (del H7 PL):=fun b o e=>by
    by_cases zz:b=PL
    ·rw[zz,b9w] at e;cases e
    ·rw[a5x zz] at e ⊢
     exact k7 _ _ zz (s6 _ _ e)
   obtain⟨w1,w2⟩:=f9m lv
   refine⟨_,_,_,ss++[⟨lv,[.ref q],0+(i:Int),z,none⟩],rfl,h7,by rw[List.length_append,hul];rfl,(PR.same sD).snoc ⟨⟨t,dl,rfl,by rw[a5x nt];exact k7 _ _ nt t6,by rw[a5x nd];exact k7 _ _ nd d6,w1,w2⟩,rfl,by show 0+(i:Int)=_;rw[hul];omega,q,rfl,by rw[a5x nq];exact k7 _ _ nq q6⟩,fun b o e=>k7 _ _ (fun zz=>by rw[zz,hPL] at e;cases e) (s6 _ _ (s2 _ _ e))⟩
  rintro σ W ⟨x3,x4,us,ss,rfl,hus,hul,PR0,sW⟩
  have PR:Prs W us ss:=PR0.same fun b o e=>by
   by_cases zz:b=PL
   ·rw[zz,b9w] at e;cases e
   ·rwa [a5x zz] at e
  clear PR0 pl0 sP
  have hss:ss.length=M:=by rw[←PR.len,hul]
  intro r hr1
  have s6:=Same.upd (o:=HO.dK []) hr1
  have r6:=a0b (H:=W) (a:=r) (o:=HO.dK [])
  generalize upd W r (.dK [])=H6 at s6 r6 ⊢
  refine⟨_,rfl,PL,us,rfl,.inl (SqL.of (s6 _ _ hus)),fun pr hpr h hx fh fhx nhx=>?_⟩
  have s7:=Same.upd (o:=HO.lst us) hpr
  have p7:=a0b (H:=H6) (a:=pr) (o:=HO.lst us)
  generalize upd H6 pr (.lst us)=H7 at s7 p7 fh fhx ⊢
  have s8:=Same.newO (C:=T.a0k) fh fhx nhx
  have o8:=a0b (H:=upd H7 hx (.own h)) (a:=h) (o:=HO.ins T.a0k hx [])
  generalize upd (upd H7 hx (.own h)) h (.ins T.a0k hx [])=H8 at s8 o8 ⊢
  have sW8:Same W H8:=s6.trans (s7.trans s8)
  have nWh:∀ b o,W b=some o→b≠h∧b≠r:=fun b o e=>⟨(fun zz=>by rw[zz] at e;rw[s7 _ _ (s6 _ _ e)] at fh;cases fh),(fun zz=>by rw[zz,hr1] at e;cases e)⟩
  refine⟨h,hx,r,pr,us,ss.map fun s=>(wd s.lv,s.ds),rfl,o8,s8 _ _ (s7 _ _ r6),s8 _ _ p7,by rw[List.length_map];exact PR.len,by omega,fun i u q e1 e2=>?_,.inl ⟨ss,fun s hs=>?_,by rw[List.length_map],fun i s q e1 e2=>?_,fun H9 x xs hxh O9 fr9 mN9 fN9=>⟨rfl,?_⟩⟩⟩
  ·rw[List.getElem?_map] at e2
   obtain⟨s,es,rfl⟩:=Option.map_eq_some_iff.mp e2
   exact(PR.pr i u s e1 es).1.same sW8
  ·obtain⟨j,hj,rfl⟩:=List.mem_iff_getElem.mp hs
   have hj2:j < us.length:=by rw[PR.len];exact hj
   exact(PR.pr j us[j] ss[j] (List.getElem?_eq_getElem hj2) (List.getElem?_eq_getElem hj)).2.1
  ·rw[List.getElem?_map,e1] at e2
   cases e2
   exact⟨rfl,rfl⟩
  subst hxh
  have own9:Own W H9 x [] xs:=fun b o e=>⟨fr9 b o (nWh b o e).1 (nWh b o e).2 (sW8 _ _ e),fun hm=>(mN9 b hm).elim (nWh b o e).1 fun zz=>(by rw[sW8 _ _ e] at zz;cases zz),fun hm=>(by have zz:=fN9 b hm;rw[sW8 _ _ e] at zz;cases zz)⟩
  have hxl:xs.length=M:=by rw[O9.len,hss]
  clear fN9 mN9 fr9 nWh sW8 o8 s8 p7 s7 r6 s6 fh fhx nhx hr1 hpr
  refine⟨(by show 0≤sizeLine;decide),fun DL hDL=>?_⟩
  have WDL:W DL=none:=by
   cases e:W DL with
   | none=>rfl
   | some o=>rw[(own9 _ _ e).1] at hDL;cases hDL
  have own10:=own9.new O9 (o:=HO.lst []) hDL
  have O10:=O9.same (Same.upd (o:=HO.lst []) hDL)
  have sU0:Same W (upd W DL (.lst [])):=Same.upd WDL
  have UDL0:=a0b (H:=W) (a:=DL) (o:=HO.lst [])
  generalize upd H9 DL (.lst [])=H10 at own10 O10 ⊢
  generalize upd W DL (.lst [])=U0 at own10 sU0 UDL0
  have sqU:∀ {U H':Hp} {ls:List Addr} {xs:List DA},Own U H' x ls xs→Same W U→SqL K H' a (ns.map V.int):=fun ow sU=>sqK _ fun b o e _=>(ow _ _ (sU _ _ (sW _ _ e))).1
  refine⟨_,rfl,a,ns,2,rfl,sqU own10 sU0,hlen,by decide,by decide,fun c2=>?_⟩
  have n0:0≤c2%4:=Int.emod_nonneg _ (by decide)
  have n4:c2%4 < 4:=Int.emod_lt_of_pos _ (by decide)
  refine⟨_,_,rfl,rfl,(by show (0:Int) < 4;decide),_,rfl,by omega,by omega,c0j (lo:=0) (n:=(c2%4).toNat) (fun i σ H2=>∃ (x3:Option V) (U:Hp) (ls:List Addr) (xs:List DA) (ss2:List DS) (told ds:List V) (m:List (Int×List Hold)),σ=[some (.ref a),some (.int M),some (.ref PL),x3,x4,some (.ref x.h),some (.ref DL),none,none,none,none,none,none]∧b2w K T.a0k T.a0m T.a1t T.a1d (cO T) H2 x ls xs ss2 ((min i M:Nat):Int) told m∧Own U H2 x ls xs∧Same W U∧U DL=some (.lst ds)∧b4w U ss (min i M) ds∧b4w H2 ss (min i M) told∧Bgn ss ss2 (min i M)∧MB m (min i M)) ?_ ?_ ?_⟩
  ·refine⟨x3,U0,[],xs,ss,[],[],[],rfl,by rw[Nat.zero_min];exact O10,own10,sU0,UDL0,?_,?_,?_,?_⟩
   ·rw[Nat.zero_min];exact⟨rfl,fun j v e=>by simp at e⟩
   ·rw[Nat.zero_min];exact⟨rfl,fun j v e=>by simp at e⟩
   ·rw[Nat.zero_min];exact⟨rfl,fun j s e=>by rw[e,if_neg (Nat.not_lt_zero _)]⟩
   ·rw[Nat.zero_min];exact⟨Nat.le_refl _,fun z hz=>by cases hz⟩
  ·rintro i σ H2 hi ⟨x3',U,ls,xs2,ss2,told,ds,m,rfl,O,own,sU,UDL,RU,RH,BG,MM⟩
   refine⟨_,rfl,_,rfl,_,_,rfl,rfl,_,rfl,a5n (fun e=>?_) (fun e=>?_)⟩
   ·have e1:0+(i:Int) < (M:Int):=of_decide_eq_true e
    have hiM:i < M:=by omega
    have emin:min i M=i:=Nat.min_eq_left (by omega)
    have emin2:min (i+1) M=i+1:=Nat.min_eq_left (by omega)
    rw[emin] at O RU RH BG MM
    obtain⟨u,hui⟩:∃ u,us[i]?=some u:=⟨_,List.getElem?_eq_getElem (by omega)⟩
    obtain⟨s,hsi⟩:∃ s,ss[i]?=some s:=⟨_,List.getElem?_eq_getElem (by omega)⟩
    obtain⟨⟨t0,dl0,rfl,p1,p2,p3⟩,sbg,sk,q0,sds,p4⟩:=PR.pr i u s hui hsi
    rw[sds] at p2
    have inU:∀ {b o},W b=some o→H2 b=some o:=fun e=>(own _ _ (sU _ _ e)).1
    have hPL2:=inU hus
    have hDL2:=(own _ _ UDL).1
    refine⟨_,rfl,.inl ⟨rfl,_,SqL.of hDL2⟩,_,rfl,_,_,rfl,rfl,_,rfl,_,_,rfl,rfl,_,rfl,?_⟩
    refine⟨_,rfl,_,rfl,PL,_,_,_,rfl,rfl,SqL.of hPL2,by rw[Int.zero_add];exact a0z hui,t0,_,_,_,rfl,rfl,SqT.of (inU p1),a0z (j:=1) rfl,dl0,_,_,_,rfl,rfl,SqL.of (inU p2),a0z (j:=0) rfl,q0,_,_,_,rfl,rfl,SqT.of (inU p4),a0z (j:=2) rfl,(by show 5≤sizeLine;decide),fun t ht=>?_⟩
    have er:[V.int (0+(i:Int)+1),V.int (0+(i:Int)+1),V.str "put",V.int (0+(i:Int)),V.int s.v]=d4s i s:=by unfold d4s;rw[sk,Int.zero_add]
    have own3:=own.new O (o:=HO.tup (d4s i s)) ht
    have O3:=O.same (Same.upd (o:=HO.tup (d4s i s)) ht)
    have ntU:U t=none:=by
     cases ee:U t with
     | none=>rfl
     | some o=>rw[(own _ _ ee).1] at ht;cases ht
    have sU3:Same U (upd U t (.tup (d4s i s))):=Same.upd ntU
    have ndt:DL≠t:=fun zz=>by rw[←zz,hDL2] at ht;cases ht
    have UDL3:upd U t (.tup (d4s i s)) DL=some (.lst ds):=sU3 _ _ UDL
    have Ut3:=a0b (H:=U) (a:=t) (o:=HO.tup (d4s i s))
    have hDL3:=Same.upd (o:=HO.tup (d4s i s)) ht _ _ hDL2
    have RH3:=RH.same fun b zs ee=>Same.upd (o:=HO.tup (d4s i s)) ht _ _ ee
    generalize eH3:upd H2 t (.tup (d4s i s))=H3 at own3 O3 hDL3 RH3
    generalize upd U t (.tup (d4s i s))=U3 at own3 sU3 UDL3 Ut3
    refine⟨DL,ds,_,rfl,rfl,(by have zz:=hDL3;rw[←eH3,←er] at zz;exact zz),Nat.lt_of_le_of_lt (show ds.length≤9 by rw[RU.1];omega) (by decide),fun H4 h4 k4'=>?_⟩
    have k4:∀ b o,b≠DL→H3 b=some o→H4 b=some o:=by rw[←eH3,←er];exact k4'
    have nD:=(own3 _ _ UDL3).2
    have O4:=O3.but hDL3 nD.1 nD.2 k4
    have own4:=own3.put UDL3 h4 k4
    have RH4:=RH3.same fun b zs ee=>k4 _ _ (fun zz=>by rw[zz,hDL3] at ee;cases ee) ee
    have RU4:b4w (upd U3 DL (.lst (ds++[.ref t]))) ss (i+1) (ds++[.ref t]):=by
     have kU:∀ b zs,U3 b=some (.tup zs)→upd U3 DL (.lst (ds++[.ref t])) b=some (.tup zs):=fun b zs ee=>by rw[a0d (fun zz=>by rw[zz,UDL3] at ee;cases ee)];exact ee
     exact((RU.same fun b zs ee=>kU _ _ (sU3 _ _ ee))).snoc hsi (kU _ _ Ut3)
    have UDL4:=a0b (H:=U3) (a:=DL) (o:=HO.lst (ds++[.ref t]))
    have sU4:Same W (upd U3 DL (.lst (ds++[.ref t]))):=fun b o ee=>by
     rw[a0d (fun zz=>by rw[zz,WDL] at ee;cases ee)]
     exact sU3 _ _ (sU _ _ ee)
    generalize upd U3 DL (.lst (ds++[.ref t]))=U4 at own4 RU4 UDL4 sU4
    have hs2:ss2[i]?=some s:=by have:=BG.2 i s hsi;rwa [if_neg (Nat.lt_irrefl _)] at this
    refine⟨_,rfl,x.h,x.hx,_,rfl,O4.obj,rfl,_,rfl,_,_,rfl,rfl,0+(i:Int)+1,x,ls,xs2,ss2,(i:Int),told,m,rfl,O4,.inl ⟨i,s,q0,by omega,hs2,sbg,sds,(own4 _ _ (sU4 _ _ p4)).1,by rw[sk];exact MM.none _ (Int.le_refl _),by have:=MM.1;omega,(fun zz hz=>by have:=(MM.2 zz hz).1;omega),by rw[RH.1];omega,by omega,fun H5 p r5 ls' xs' O5 ef hr5 hp5 fr5 mN5 pn5=>?_⟩⟩
    have own5:Own U4 H5 x ls' xs':=fun b o ee=>⟨fr5 _ _ (own4 _ _ ee).1 (own4 _ _ ee).2.1,fun hm=>(mN5 b hm).elim (own4 _ _ ee).2.1 fun zz=>(by rw[(own4 _ _ ee).1] at zz;cases zz),by rw[ef];exact(own4 _ _ ee).2.2⟩
    refine⟨_,rfl,1,rfl,_,rfl,DL,_,rfl,SqL.of (own5 _ _ UDL4).1,fun c hc=>?_⟩
    rw[e9q]
    have s6:=Same.upd (o:=HO.lst [V.ref t]) hc
    have c6:=a0b (H:=H5) (a:=c) (o:=HO.lst [V.ref t])
    generalize upd H5 c (.lst [V.ref t])=H6 at s6 c6 ⊢
    have rt:∃ tt ss',V.ref t=.ref tt∧ss[i]?=some ss'∧U4 tt=some (.tup (d4s i ss')):=RU4.2 i (.ref t) (by rw[←RU.1];simp)
    obtain⟨tt,ss',ett,ess,htt⟩:=rt
    cases ett
    rw[hsi] at ess
    cases ess
    have hr6:H6 r5=some (.tup (d4s i s)):=by
     have:=s6 _ _ hr5
     rw[this]
     unfold d4s
     rw[Int.zero_add]
    refine⟨.ref p,.ref c,.list [f5d i s],rfl,.lst (s6 _ _ hp5) (.cons (e7w hr6) .nil),.lst c6 (.cons (e7w (s6 _ _ (own5 _ _ htt).1)) .nil),(by show max 1 0+1 < 7;decide),fun H7 s7=>⟨_,rfl,d0e (A:=False) ?_⟩⟩
    have s57:=s6.trans s7
    rw[emin2]
    have est:((i+1:Nat):Int)=(i:Int)+1:=by omega
    refine⟨_,U4,ls',xs',ss2.set i {s with bg:=some ((i:Int)+1)},told++[.ref r5],_,d7y m (0+(i:Int)+1) (s.k,s.k,true),rfl,by rw[est];exact O5.same s57,own5.same s57,sU4,UDL4,RU4,?_,BG.step hsi,by rw[sk];exact MM.add _⟩
    refine b4w.snoc (RH4.same fun b zs ee=>s57 _ _ (fr5 _ _ ee (O4.notup ee))) hsi (s7 _ _ hr6)
   ·have e1:¬ 0+(i:Int) < (M:Int):=fun zz=>e (decide_eq_true zz)
    have emin:min (i+1) M=min i M:=by rw[Nat.min_eq_right (by omega),Nat.min_eq_right (by omega)]
    rw[emin]
    exact⟨_,U,ls,xs2,ss2,told,ds,m,rfl,O,own,sU,UDL,RU,RH,BG,MM⟩
  rintro σ H2 ⟨x3',U,ls,xs2,ss2,told,ds,m,rfl,O,own,sU,UDL,RU,RH,BG,MM⟩
  have hbM:min (c2%4).toNat M≤M:=Nat.min_le_right _ _
  generalize min (c2%4).toNat M=b at O RU RH BG MM hbM
  have hxl2:xs2.length=M:=by rw[O.len,BG.1,hss]
  have hDL2:=(own _ _ UDL).1
  clear O9 own9 O10 own10 sU0 UDL0 hDL
  have sqO:∀ {H':Hp},Same H2 H'→SqL K H' a (ns.map V.int):=fun s'=>sqK _ fun b o e _=>s' _ _ (own _ _ (sU _ _ (sW _ _ e))).1
  refine⟨_,rfl,a,ns,3,rfl,sqO (Same.refl _),hlen,by decide,by decide,fun c3=>?_⟩
  refine⟨_,_,rfl,rfl,⟨by decide,by decide⟩,_,_,rfl,rfl,⟨by decide,by decide,by decide⟩,_,_,rfl,rfl,_,_,rfl,rfl,(by show (0:Int) < 10 ^ 30 - 20;decide),?_⟩
  have f0:0≤c3 / 2%(10 ^ 30 - 20):=Int.emod_nonneg _ (by decide)
  refine⟨fun σ H3=>∃ far:Int,0≤far∧σ=[some (.ref a),some (.int M),some (.ref PL),x3',x4,some (.ref x.h),some (.ref DL),some (.int far),none,none,none,none,none]∧H3=H2,?_,?_⟩
  ·refine⟨_,rfl,a,ns,2,rfl,sqO (Same.refl _),hlen,by decide,by decide,fun c2'=>⟨_,_,rfl,rfl,⟨by decide,by decide⟩,_,_,rfl,rfl,(by show (0:Int) < 2;decide),rfl,_,rfl,a5n (fun e=>?_) (fun e=>?_)⟩⟩
   ·exact⟨_,rfl,_,_,rfl,rfl,(by show (0:Int) < 10;decide),_,Int.emod_nonneg _ (by decide),rfl,rfl⟩
   ·exact⟨_,f0,rfl,rfl⟩
  rintro σ H3 ⟨far,hfar,rfl,rfl⟩
  refine⟨_,rfl,_,_,rfl,rfl,_,rfl,_,_,rfl,rfl,_,rfl,_,_,rfl,rfl,(by show 2≤sizeLine;decide),fun nl hnl=>?_⟩
  have s3:=Same.upd (o:=HO.lst [V.int ((M:Int)+1+far),V.int (0 - far)]) hnl
  have n3:=a0b (H:=H3) (a:=nl) (o:=HO.lst [V.int ((M:Int)+1+far),V.int (0 - far)])
  obtain⟨nv,hnv⟩:∃ nj:Int,∀ c:Int,∃ nj:Int,atI [V.int ((M:Int)+1+far),V.int (0 - far)] (c%2)=some (.int nj)∧(nj < 1∨(M:Int) < nj):=⟨0,fun c=>by
   obtain⟨v,hv⟩:=d1k (xs:=[V.int ((M:Int)+1+far),V.int (0 - far)]) (Int.emod_nonneg c (show (2:Int)≠0 by decide)) (Int.emod_lt_of_pos c (show (0:Int) < 2 by decide))
   have:=c1w hv
   simp only [List.mem_cons,List.not_mem_nil,or_false] at this
   rcases this with rfl | rfl
   ·exact⟨_,hv,.inr (by omega)⟩
   ·exact⟨_,hv,.inl (by omega)⟩⟩
  refine⟨_,rfl,a,ns,3,rfl,sqO s3,hlen,by decide,by decide,fun c3'=>?_⟩
  obtain⟨nj,hnj,hout⟩:=hnv c3'
  refine⟨_,_,rfl,rfl,(by show (0:Int) < 2;decide),nl,_,_,_,rfl,rfl,SqL.of n3,hnj,?_⟩
  change Same H3 (upd H3 nl (HO.lst [V.int ((M:Int)+1+far),V.int (0 - far)])) at s3
  generalize upd H3 nl (HO.lst [V.int ((M:Int)+1+far),V.int (0 - far)])=H4 at s3 n3 ⊢
  refine⟨5,rfl,by decide,by decide,c0j (lo:=0) (n:=(5:Int).toNat) (fun i σ H5=>∃ x8:Option V,σ=[some (.ref a),some (.int M),some (.ref PL),x3',some (.int nj),some (.ref x.h),some (.ref DL),some (.int far),x8,none,none,none,none]∧Same H3 H5) ⟨none,rfl,s3⟩ ?_ ?_⟩
  ·rintro i σ H5 hi ⟨x8,rfl,s5⟩
   exact⟨_,rfl,_,rfl,_,rfl,x,ls,xs2,ss2,(b:Int),told,m,_,nj,rfl,O.same s5,by rw[hxl2];exact hout,fun H6 s6=>⟨_,rfl,d0e (A:=False) ⟨_,rfl,s5.trans s6⟩⟩⟩
  rintro σ H5 ⟨x8,rfl,s5⟩
  obtain⟨ms,ems,hms⟩:∃ ms:List Int,e0n (ns.map V.int) (some 4) (some 54)=ms.map V.int∧ms.length≤63:=by
   refine⟨(ns.drop (HT.sIx ns.length 0 (some 4))).take (HT.sIx ns.length ns.length (some 54) - HT.sIx ns.length 0 (some 4)),?_,?_⟩
   ·unfold e0n
    rw[List.length_map,List.map_take,List.map_drop]
   ·rw[List.length_take,List.length_drop]
    omega
  refine⟨_,rfl,4,rfl,54,rfl,a,_,rfl,sqO s5,fun c hc=>?_⟩
  rw[ems]
  have s6:=s5.trans (Same.upd (o:=HO.lst (ms.map V.int)) hc)
  have c6:=a0b (H:=H5) (a:=c) (o:=HO.lst (ms.map V.int))
  generalize upd H5 c (HO.lst (ms.map V.int))=H6 at s6 c6 ⊢
  refine⟨c,rfl,⟨_,SqL.of c6⟩,b1h (k:=1) (fs:=[some (.int M)]) ms.length (fun i=>if 0 < M then some (.int (ms.getD i 0%(M:Int)+1)) else none) rfl (Nat.le_trans hms (by decide)) (fun i H7 s' hi=>(a1g (SqL.of (s' _ _ c6))).go i (by rw[List.length_map];exact hi)) (fun H7 s'=>(a1g (SqL.of (s' _ _ c6))).stop _ (by rw[List.length_map];exact Nat.le_refl _)) ?_ ?_⟩
  ·rintro i H7 ts v H8 R s' hi hts ⟨rfl,hv⟩ cb
   obtain⟨y,rfl⟩:=List.length_eq_one_iff.mp hts
   have hv:=hv _ (SqL.of (s' _ _ c6))
   rw[List.getElem?_map,List.getElem?_eq_getElem hi] at hv
   cases hv
   have eg:ms.getD i 0=ms[i]:=by rw[List.getD_eq_getElem?_getD,List.getElem?_eq_getElem hi];rfl
   rw[eg] at cb
   refine⟨_,rfl,_,_,rfl,rfl,_,rfl,?_⟩
   by_cases hM:0 < M
   ·rw[if_pos hM] at cb
    exact f3c (show (0:Int) < (M:Int) by omega) ⟨_,rfl,_,rfl,_,_,rfl,rfl,(by show (0:Int) < (M:Int);omega),_,_,rfl,rfl,cb [_] _ rfl (Same.refl _)⟩
   ·rw[if_neg hM] at cb
    exact f5r (show ¬ (0:Int) < (M:Int) by omega) (cb [_] _ rfl (Same.refl _))
  intro NL H7 hNL s7' hN7
  obtain⟨nn,enn,hnl,hin⟩:∃ nn:List Int,(List.range ms.length).filterMap (fun i=>if 0 < M then some (V.int (ms.getD i 0%(M:Int)+1)) else none)=nn.map V.int∧nn.length≤63∧∀ n∈nn,1≤n∧n≤(M:Int):=by
   by_cases hM:0 < M
   ·refine⟨(List.range ms.length).map fun i=>ms.getD i 0%(M:Int)+1,?_,by rw[List.length_map,List.length_range];exact hms,fun n hn=>?_⟩
    ·rw[show (fun i=>if 0 < M then some (V.int (ms.getD i 0%(M:Int)+1)) else none)=some ∘ fun i=>V.int (ms.getD i 0%(M:Int)+1) by funext i;rw[if_pos hM];rfl,List.filterMap_eq_map,List.map_map]
     rfl
    ·obtain⟨i,_,rfl⟩:=List.mem_map.mp hn
     have:=Int.emod_nonneg (ms.getD i 0) (show (M:Int)≠0 by omega)
     have:=Int.emod_lt_of_pos (ms.getD i 0) (show (0:Int) < (M:Int) by omega)
     omega
   ·refine⟨[],?_,by decide,fun n hn=>by cases hn⟩
    rw[show (fun i=>if 0 < M then some (V.int (ms.getD i 0%(M:Int)+1)) else none)=fun _=>none by funext i;rw[if_neg hM]]
    simp
  rw[enn] at hN7
  have s7:=s6.trans s7'
  clear enn s7' s6 c6 hc s5 n3 s3
  refine⟨_,rfl,a,ns,4,rfl,sqO s7,hlen,by decide,by decide,fun c4=>⟨_,rfl,_,_,rfl,.inl ⟨_,SqL.of hN7,rfl⟩,_,_,rfl,rfl,_,_,rfl,rfl,(by show (0:Int) < (((nn.map V.int).length:Nat):Int)+1;omega),?_⟩⟩
  have at0:0≤c4%((((nn.map V.int).length:Nat):Int)+1):=Int.emod_nonneg _ (by omega)
  have at1:c4%((((nn.map V.int).length:Nat):Int)+1) < (((nn.map V.int).length:Nat):Int)+1:=Int.emod_lt_of_pos _ (by omega)
  show e9u 10 (V.int (c4%((((nn.map V.int).length:Nat):Int)+1))) _ _ _
  generalize c4%((((nn.map V.int).length:Nat):Int)+1)=atz at at0 at1 ⊢
  obtain⟨at',rfl⟩:∃ n:Nat,atz=(n:Int):=⟨atz.toNat,by omega⟩
  rw[List.length_map] at at1
  have hat:at'≤nn.length:=by omega
  have cA:e0n (nn.map V.int) none (some (at':Int))=(nn.take at').map V.int:=by
   unfold e0n
   rw[HT.sIx_nat,show HT.sIx (nn.map V.int).length 0 none=0 from rfl,List.drop_zero,Nat.sub_zero,Nat.min_eq_left (by rw[List.length_map];exact hat),List.map_take]
  have cB:e0n (nn.map V.int) (some (at':Int)) none=(nn.drop at').map V.int:=by
   unfold e0n
   rw[HT.sIx_nat,show HT.sIx (nn.map V.int).length (nn.map V.int).length none=(nn.map V.int).length from rfl,Nat.min_eq_left (by rw[List.length_map];exact hat),List.map_drop,List.take_of_length_le (by rw[List.length_drop];exact Nat.le_refl _)]
  refine⟨fun σ H8=>σ=[some (.ref a),some (.int M),some (.ref PL),x3',some (.int nj),some (.ref x.h),some (.ref DL),some (.int far),x8,some (.ref NL),some (.int at'),none,none]∧Same H3 H8,?_,?_⟩
  ·refine⟨_,rfl,_,rfl,_,rfl,_,rfl,NL,_,rfl,SqL.of hN7,fun l1 hl1=>?_⟩
   rw[cA]
   have t1:=Same.upd (o:=HO.lst ((nn.take at').map V.int)) hl1
   have g1:=a0b (H:=H7) (a:=l1) (o:=HO.lst ((nn.take at').map V.int))
   generalize upd H7 l1 (HO.lst ((nn.take at').map V.int))=K1 at t1 g1 ⊢
   refine⟨_,rfl,(by show 1≤sizeLine;decide),fun l2 hl2=>?_⟩
   have t2:=Same.upd (o:=HO.lst [V.int nj]) hl2
   have g2:=a0b (H:=K1) (a:=l2) (o:=HO.lst [V.int nj])
   generalize upd K1 l2 (HO.lst [V.int nj])=K2 at t2 g2 ⊢
   refine⟨l1,l2,_,_,rfl,rfl,t2 _ _ g1,g2,(Nat.le_trans (show ((nn.take at').map V.int).length+1≤100 by rw[List.length_map,List.length_take];omega) (by decide)),fun l3 hl3=>?_⟩
   have t3:=Same.upd (o:=HO.lst ((nn.take at').map V.int++[V.int nj])) hl3
   have g3:=a0b (H:=K2) (a:=l3) (o:=HO.lst ((nn.take at').map V.int++[V.int nj]))
   generalize upd K2 l3 (HO.lst ((nn.take at').map V.int++[V.int nj]))=K3 at t3 g3 ⊢
   refine⟨_,rfl,_,rfl,_,rfl,NL,_,rfl,SqL.of (t3 _ _ (t2 _ _ (t1 _ _ hN7))),fun l4 hl4=>?_⟩
   rw[cB]
   have t4:=Same.upd (o:=HO.lst ((nn.drop at').map V.int)) hl4
   have g4:=a0b (H:=K3) (a:=l4) (o:=HO.lst ((nn.drop at').map V.int))
   generalize upd K3 l4 (HO.lst ((nn.drop at').map V.int))=K4 at t4 g4 ⊢
   refine⟨l3,l4,_,_,rfl,rfl,t4 _ _ g3,g4,(Nat.le_trans (show ((nn.take at').map V.int++[V.int nj]).length+((nn.drop at').map V.int).length≤200 by rw[List.length_append,List.length_map,List.length_map,List.length_take,List.length_drop];show min at' nn.length+1+(nn.length - at')≤200;omega) (by decide)),fun l5 hl5=>?_⟩
   have t5:=Same.upd (o:=HO.lst ((nn.take at').map V.int++[V.int nj]++(nn.drop at').map V.int)) hl5
   have g5:=a0b (H:=K4) (a:=l5) (o:=HO.lst ((nn.take at').map V.int++[V.int nj]++(nn.drop at').map V.int))
   generalize upd K4 l5 (HO.lst ((nn.take at').map V.int++[V.int nj]++(nn.drop at').map V.int))=K5 at t5 g5 ⊢
   have en:(nn.take at').map V.int++[V.int nj]++(nn.drop at').map V.int=(nn.take at'++[nj]++nn.drop at').map V.int:=by rw[List.map_append,List.map_append];rfl
   rw[en] at g5
   have s75:=s7.trans (t1.trans (t2.trans (t3.trans (t4.trans t5))))
   have ltk:(nn.take at').length=at':=by rw[List.length_take];omega
   refine⟨x,ls,xs2,ss2,(b:Int),told,m,l5,nn.take at'++[nj]++nn.drop at',at',nj,rfl,O.same s75,g5,by rw[List.length_append,List.length_append,List.length_take,List.length_drop];show min at' nn.length+1+(nn.length - at') < 1000;omega,?_,by rw[hxl2];exact hout,fun i n hi e=>?_,fun H8 s8=>⟨_,rfl,d0e (A:=False) ?_⟩⟩
   ·rw[List.append_assoc,List.getElem?_append_right (by omega),ltk,Nat.sub_self]
    rfl
   ·rw[List.append_assoc,List.getElem?_append_left (by omega)] at e
    rw[hxl2]
    exact hin n (List.mem_of_mem_take (List.mem_of_getElem? e))
   ·have s38:=s75.trans s8
    have O8:=O.same s38
    refine⟨_,rfl,x.h,x.hx,_,rfl,O8.obj,rfl,x.h,x.hx,x.tl,b7x x (b:Int),told,rfl,O8.obj,rfl,O8.tol,fun lp hlp=>?_⟩
    have s9:=s38.trans (Same.upd (o:=HO.lst told) hlp)
    have p9:=a0b (H:=H8) (a:=lp) (o:=HO.lst told)
    generalize upd H8 lp (HO.lst told)=H9 at s9 p9 ⊢
    refine⟨_,rfl,.ref lp,.ref DL,_,rfl,.lst p9 (e1p (RH.same fun _ _ e=>s9 _ _ e)),.lst (s9 _ _ hDL2) (e1p (RU.same fun _ _ e=>s9 _ _ (own _ _ e).1)),e3c ss b,fun H10 s10=>⟨_,rfl,d0e (A:=False) ⟨rfl,s9.trans s10⟩⟩⟩
  rintro σ H8 ⟨rfl,s8⟩
  refine⟨fun σ H9=>σ=[some (.ref a),some (.int M),some (.ref PL),x3',some (.int nj),some (.ref x.h),some (.ref DL),some (.int far),x8,some (.ref NL),some (.int at'),none,none]∧Same H3 H9,?_,?_⟩
  ·refine⟨_,rfl,_,rfl,_,rfl,_,_,rfl,.inl ⟨_,SqL.of (s8 _ _ hDL2),rfl⟩,x,ls,xs2,ss2,(b:Int),told,m,PL,us,(b:Int),by rw[RU.1];rfl,O.same s8,s8 _ _ (own _ _ (sU _ _ hus)).1,by rw[BG.1,hss,hul],by omega,fun i u s2 e1 e2=>?_,fun i s2 e2=>?_,fun H9 s9=>⟨_,rfl,d0e (A:=False) ⟨rfl,s8.trans s9⟩⟩⟩
   ·obtain⟨s,es⟩:∃ s,ss[i]?=some s:=⟨_,List.getElem?_eq_getElem (by rw[←BG.1];exact(List.getElem?_eq_some_iff.mp e2).1)⟩
    have:=BG.2 i s es
    rw[e2] at this
    have e3:=Option.some.inj this
    have hp:=(PR.pr i u s e1 es).1.same (fun _ _ e=>s8 _ _ (own _ _ (sU _ _ e)).1)
    rw[e3]
    by_cases hlt:i < b
    ·rw[if_pos hlt];exact hp
    ·rw[if_neg hlt];exact hp
   ·obtain⟨s,es⟩:∃ s,ss[i]?=some s:=⟨_,List.getElem?_eq_getElem (by rw[←BG.1];exact(List.getElem?_eq_some_iff.mp e2).1)⟩
    have:=BG.2 i s es
    rw[e2] at this
    have e3:=Option.some.inj this
    obtain⟨u,hu'⟩:∃ u,us[i]?=some u:=⟨_,List.getElem?_eq_getElem (by rw[PR.len];exact(List.getElem?_eq_some_iff.mp es).1)⟩
    have hbg:=(PR.pr i u s hu' es).2.1
    rw[e3]
    by_cases hlt:i < b
    ·rw[if_pos hlt]
     exact⟨fun z=>(by cases z),fun z=>absurd (show (i:Int) < (b:Int) by omega) z⟩
    ·rw[if_neg hlt]
     exact⟨fun _=>by omega,fun _=>hbg⟩
  rintro σ H9 ⟨rfl,s9⟩
  have O9:=O.same s9
  have own9:=own.same s9
  refine⟨fun σ H10=>σ=[some (.ref a),some (.int M),some (.ref PL),x3',some (.int nj),some (.ref x.h),some (.ref DL),some (.int far),x8,some (.ref NL),some (.int at'),none,none]∧H10=H9∧M=0,?_,?_⟩
  ·refine⟨_,rfl,_,_,rfl,rfl,_,rfl,a5n (fun e=>?_) (fun e=>?_)⟩
   ·have hM:0 < M:=by have:=of_decide_eq_true e;omega
    obtain⟨s,hsi⟩:∃ s,ss[M - 1]?=some s:=⟨_,List.getElem?_eq_getElem (by omega)⟩
    obtain⟨u,hui⟩:∃ u,us[M - 1]?=some u:=⟨_,List.getElem?_eq_getElem (by omega)⟩
    obtain⟨_,sbg,sk,q0,sds,p4⟩:=PR.pr (M - 1) u s hui hsi
    have hb2:=BG.2 (M - 1) s hsi
    by_cases hbl:M - 1 < b
    ·rw[if_pos hbl] at hb2
     have hT9:Tb T.lp d7s d7g H9:=.inl (own9 _ _ (sU _ _ (sW _ _ hT))).1
     refine⟨_,rfl,x.h,x.hx,_,rfl,O9.obj,rfl,_,rfl,(M:Int),x,ls,xs2,ss2,(b:Int),told,m,rfl,O9,.inr (.inr ⟨M - 1,_,_,.ref q0,by omega,hb2,rfl,sds,by rw[RH.1];omega,hB,hT9,fun H8 pf rf yy hp8 hr8 fr8=>?_⟩)⟩
     have kU8:∀ b o,U b=some o→(∀ ps,o≠.tbl ps)→H8 b=some o:=fun b o e n=>fr8 b o (own9 _ _ e).1 n (own9 _ _ e).2.1 (fun z=>(own9 _ _ e).2.2 (by rw[z];unfold a5l;exact List.mem_cons_self))
     have hDL8:=kU8 _ _ UDL (fun ps z=>by cases z)
     refine⟨fun σ H'=>σ=[some (.ref a),some (.int M),some (.ref PL),x3',some (.int nj),some (.ref x.h),some (.ref DL),some (.int far),x8,some (.ref NL),some (.int at'),some (.ref pf),none]∧H8=H',?_,?_⟩
     ·refine⟨_,rfl,_,_,rfl,.inl ⟨_,SqL.of hp8,rfl⟩,rfl,_,rfl,e3a rfl ?_⟩
      refine⟨_,rfl,pf,_,_,_,rfl,rfl,SqL.of hp8,a0z (j:=0) rfl,rf,_,_,_,rfl,rfl,SqT.of hr8,a0z (j:=0) rfl,_,rfl,_,_,rfl,.inl ⟨_,SqL.of hDL8,rfl⟩,_,_,rfl,rfl,rfl,_,rfl,e3a (by rw[RU.1]) ?_⟩
      exact⟨_,rfl,pf,_,_,_,rfl,rfl,SqL.of hp8,a0z (j:=0) rfl,rf,_,_,_,rfl,rfl,SqT.of hr8,a0z (j:=1) rfl,_,rfl,rfl,_,rfl,e3a rfl ⟨rfl,rfl⟩⟩
     rintro σ H' ⟨rfl,rfl⟩
     have sq8:∀ H',Same H8 H'→SqL K H' a (ns.map V.int):=fun H' s'=>sqK _ fun b o e n=>s' _ _ (kU8 _ _ (sU _ _ (sW _ _ e)) n)
     refine⟨(by show 6≤sizeLine;decide),fun wl hwl=>?_⟩
     have s9:=Same.upd (o:=HO.lst [V.str "",V.str "Kept",V.str "hol",V.str "makes",V.str " watch",V.str "loose "]) hwl
     have w9:=a0b (H:=H8) (a:=wl) (o:=HO.lst [V.str "",V.str "Kept",V.str "hol",V.str "makes",V.str " watch",V.str "loose "])
     generalize upd H8 wl (HO.lst [V.str "",V.str "Kept",V.str "hol",V.str "makes",V.str " watch",V.str "loose "])=H9 at s9 w9 ⊢
     refine⟨_,rfl,a,ns,5,rfl,sq8 _ s9,hlen,by decide,by decide,fun c5=>?_⟩
     obtain⟨wv,hwv⟩:=d1k (xs:=(["","Kept","hol","makes"," watch","loose "]:List Str).map V.str) (Int.emod_nonneg c5 (show (6:Int)≠0 by decide)) (Int.emod_lt_of_pos c5 (show (0:Int) < 6 by decide))
     obtain⟨wx,hwx,rfl⟩:=List.mem_map.mp (c1w hwv)
     refine⟨_,_,rfl,rfl,(by show (0:Int) < 6;decide),wl,_,_,_,rfl,rfl,SqL.of w9,hwv,?_⟩
     refine⟨_,rfl,_,rfl,a,ns,6,rfl,sq8 _ s9,hlen,by decide,by decide,fun c6=>⟨_,rfl,_,_,rfl,rfl,(by show (0:Int) < (M:Int);omega),_,rfl,?_⟩⟩
     have r0:=Int.emod_nonneg c6 (show (M:Int)≠0 by omega)
     have r1:=Int.emod_lt_of_pos c6 (show (0:Int) < (M:Int) by omega)
     obtain⟨_,_,_,_,_,w1,w2⟩:=c7t wx hwx
     have kW9:∀ b o,W b=some o→(∀ ps,o≠.tbl ps)→H9 b=some o:=fun b o e n=>s9 _ _ (kU8 _ _ (sU _ _ e) n)
     refine⟨PL,us,ss.map fun s=>(wd s.lv,s.ds),(c6%(M:Int)).toNat,wx,by rw[show (((c6%(M:Int)).toNat:Nat):Int)=c6%(M:Int) by omega];rfl,kW9 _ _ hus (fun ps z=>by cases z),by rw[List.length_map];exact PR.len,by omega,fun j u q e1 e2=>?_,fun q hq=>?_,by omega,e1r hwx,w1,w2,fun H' _=>k H'⟩
     ·rw[List.getElem?_map] at e2
      obtain⟨s,es,rfl⟩:=Option.map_eq_some_iff.mp e2
      obtain⟨⟨t1,d1,ee,a1,a2,a3⟩,_⟩:=PR.pr j u s e1 es
      exact⟨t1,d1,ee,kW9 _ _ a1 (fun ps z=>by cases z),kW9 _ _ a2 (fun ps z=>by cases z),a3⟩
     ·obtain⟨s,_,rfl⟩:=List.mem_map.mp hq
      exact⟨s.lv,rfl⟩
    ·rw[if_neg hbl] at hb2
     refine⟨_,rfl,x.h,x.hx,_,rfl,O9.obj,rfl,_,rfl,(M:Int),x,ls,xs2,ss2,(b:Int),told,m,rfl,O9,.inl ⟨M - 1,s,q0,by omega,hb2,sbg,sds,(own9 _ _ (sU _ _ p4)).1,MM.none _ (by rw[sk];omega),by have:=MM.1;omega,(fun zz hz=>by have:=(MM.2 zz hz).1;omega),by rw[RH.1];omega,by omega,fun H8 pf rf ls' xs' _ _ hr8 hp8 fr8 _ _=>?_⟩⟩
     have kU8:∀ b o,U b=some o→(∀ ps,o≠.tbl ps)→H8 b=some o:=fun b o e _=>fr8 b o (own9 _ _ e).1 (own9 _ _ e).2.1
     have hDL8:=kU8 _ _ UDL (fun ps z=>by cases z)
     refine⟨fun σ H'=>σ=[some (.ref a),some (.int M),some (.ref PL),x3',some (.int nj),some (.ref x.h),some (.ref DL),some (.int far),x8,some (.ref NL),some (.int at'),some (.ref pf),none]∧H8=H',?_,?_⟩
     ·refine⟨_,rfl,_,_,rfl,.inl ⟨_,SqL.of hp8,rfl⟩,rfl,_,rfl,e3a rfl ?_⟩
      refine⟨_,rfl,pf,_,_,_,rfl,rfl,SqL.of hp8,a0z (j:=0) rfl,rf,_,_,_,rfl,rfl,SqT.of hr8,a0z (j:=0) rfl,_,rfl,_,_,rfl,.inl ⟨_,SqL.of hDL8,rfl⟩,_,_,rfl,rfl,rfl,_,rfl,e3a (by rw[RU.1]) ?_⟩
      exact⟨_,rfl,pf,_,_,_,rfl,rfl,SqL.of hp8,a0z (j:=0) rfl,rf,_,_,_,rfl,rfl,SqT.of hr8,a0z (j:=1) rfl,_,rfl,rfl,_,rfl,e3a rfl ⟨rfl,rfl⟩⟩
     rintro σ H' ⟨rfl,rfl⟩
     have sq8:∀ H',Same H8 H'→SqL K H' a (ns.map V.int):=fun H' s'=>sqK _ fun b o e n=>s' _ _ (kU8 _ _ (sU _ _ (sW _ _ e)) n)
     refine⟨(by show 6≤sizeLine;decide),fun wl hwl=>?_⟩
     have s9:=Same.upd (o:=HO.lst [V.str "",V.str "Kept",V.str "hol",V.str "makes",V.str " watch",V.str "loose "]) hwl
     have w9:=a0b (H:=H8) (a:=wl) (o:=HO.lst [V.str "",V.str "Kept",V.str "hol",V.str "makes",V.str " watch",V.str "loose "])
     generalize upd H8 wl (HO.lst [V.str "",V.str "Kept",V.str "hol",V.str "makes",V.str " watch",V.str "loose "])=H9 at s9 w9 ⊢
     refine⟨_,rfl,a,ns,5,rfl,sq8 _ s9,hlen,by decide,by decide,fun c5=>?_⟩
     obtain⟨wv,hwv⟩:=d1k (xs:=(["","Kept","hol","makes"," watch","loose "]:List Str).map V.str) (Int.emod_nonneg c5 (show (6:Int)≠0 by decide)) (Int.emod_lt_of_pos c5 (show (0:Int) < 6 by decide))
     obtain⟨wx,hwx,rfl⟩:=List.mem_map.mp (c1w hwv)
     refine⟨_,_,rfl,rfl,(by show (0:Int) < 6;decide),wl,_,_,_,rfl,rfl,SqL.of w9,hwv,?_⟩
     refine⟨_,rfl,_,rfl,a,ns,6,rfl,sq8 _ s9,hlen,by decide,by decide,fun c6=>⟨_,rfl,_,_,rfl,rfl,(by show (0:Int) < (M:Int);omega),_,rfl,?_⟩⟩
     have r0:=Int.emod_nonneg c6 (show (M:Int)≠0 by omega)
     have r1:=Int.emod_lt_of_pos c6 (show (0:Int) < (M:Int) by omega)
     obtain⟨_,_,_,_,_,w1,w2⟩:=c7t wx hwx
     have kW9:∀ b o,W b=some o→(∀ ps,o≠.tbl ps)→H9 b=some o:=fun b o e n=>s9 _ _ (kU8 _ _ (sU _ _ e) n)
     refine⟨PL,us,ss.map fun s=>(wd s.lv,s.ds),(c6%(M:Int)).toNat,wx,by rw[show (((c6%(M:Int)).toNat:Nat):Int)=c6%(M:Int) by omega];rfl,kW9 _ _ hus (fun ps z=>by cases z),by rw[List.length_map];exact PR.len,by omega,fun j u q e1 e2=>?_,fun q hq=>?_,by omega,e1r hwx,w1,w2,fun H' _=>k H'⟩
     ·rw[List.getElem?_map] at e2
      obtain⟨s,es,rfl⟩:=Option.map_eq_some_iff.mp e2
      obtain⟨⟨t1,d1,ee,a1,a2,a3⟩,_⟩:=PR.pr j u s e1 es
      exact⟨t1,d1,ee,kW9 _ _ a1 (fun ps z=>by cases z),kW9 _ _ a2 (fun ps z=>by cases z),a3⟩
     ·obtain⟨s,_,rfl⟩:=List.mem_map.mp hq
      exact⟨s.lv,rfl⟩
   ·exact⟨rfl,rfl,by have:¬ (0:Int) < (M:Int):=fun z=>e (decide_eq_true z);omega⟩
  rintro σ H10 ⟨rfl,rfl,hM0⟩
  have hx0:xs2=[]:=List.eq_nil_of_length_eq_zero (by omega)
  have ht0:told=[]:=List.eq_nil_of_length_eq_zero (by rw[RH.1];omega)
  have hdl:=O9.dls
  rw[hx0] at hdl
  have htl:=O9.tol
  rw[ht0] at htl
  refine⟨_,rfl,x.h,x.hx,_,rfl,O9.obj,rfl,x.h,x.hx,x.dl,x.tl,b7x x (b:Int),rfl,O9.obj,rfl,hdl,rfl,htl,fun p1 H11 hp1 s11 g11=>?_⟩
  refine⟨(by show 0≤sizeLine;decide),fun e1 he1=>⟨.ref p1,.ref e1,.list [],rfl,.lst (Same.upd he1 _ _ g11) .nil,.lst a0b .nil,(by decide),fun H12 s12=>⟨_,rfl,d4t (B:=False) ?_⟩⟩⟩
  have s912:=s11.trans ((Same.upd he1).trans s12)
  have O12:=O9.same s912
  refine⟨_,rfl,x.h,x.hx,_,rfl,O12.obj,rfl,x.h,x.hx,x.sp,b7x x (b:Int),rfl,O12.obj,rfl,O12.sps,fun p2 H13 hp2 s13 g13=>?_⟩
  exact⟨(by show 0≤sizeLine;decide),fun e2 he2=>⟨.ref p2,.ref e2,.list [],rfl,.lst (Same.upd he2 _ _ g13) .nil,.lst a0b .nil,(by decide),fun H14 _=>k H14⟩⟩
end
abbrev fnS (a b:Str) (t:Stmt):=PySem.W.fnOf a b (a0p t) (a0l t) (a0c t) .none
open PySem.W in
theorem all_mk {l:OpenLaw} {w:World} {K:Frag} {h:Heap} {mg:Str→Option Value} {fa:Addr} (X:K.In h) (G:h.Ns mainGlobals mg) (hfa:mg "law"=some (.ref fa)) {f0 f1 f2 f3 f4 f5 f6 f7 f8 f9 f10 f11 f12 f13 f14 f15 f16 f17 f18 f19 f20 f21 f22 f24 f25 f26 f27 f28 f29 f30 f31 f32 f33 f34 f35 f36 f37 f38 f39 f40 f41 f42 f43 f44 f45 f46 f47 f48 f49 f50 f51 f52 f53 f54 f55 f56 f57 f58 f59 f60 f61 f62 f63 f64 f65 f66:Addr} {od0 an0 od1 an1 od2 an2 od3 an3 od4 an4 od5 an5 od6 an6 od7 an7 od8 an8 od9 an9 od10 an10 od11 an11 od12 an12 od13 an13 od14 an14 od15 an15 od16 an16 od17 an17 od18 an18 od19 an19 od20 an20 od21 an21 od22 an22 od24 an24 od25 an25 od26 an26 od27 an27 od28 an28 od29 an29 od30 an30 od31 an31 od32 an32 od33 an33 od34 an34 od35 an35 od36 an36 od37 an37 od38 an38 od39 an39 od40 an40 od41 an41 od42 an42 od43 an43 od44 an44 od45 an45 od46 an46 od47 an47 od48 an48 od49 an49 od50 an50 od51 an51 od52 an52 od53 an53 od54 an54 od55 an55 od56 an56 od57 an57 od58 an58 od59 an59 od60 an60 od61 an61 od62 an62 od63 an63 od64 an64 od65 an65 od66 an66:Option Addr} {sl0 sl1 sl2 sl3 sl4 sl5 sl6 sl7 sl8 sl9 sl10 sl11 sl12 sl13 sl14 sl15 sl16 sl17 sl18 sl19 sl20 sl21 sl22 sl24 sl25 sl26 sl27 sl28 sl29 sl30 sl31 sl32 sl33 sl34 sl35 sl36 sl37 sl38 sl39 sl40 sl41 sl42 sl43 sl44 sl45 sl46 sl47 sl48 sl49 sl50 sl51 sl52 sl53 sl54 sl55 sl56 sl57 sl58 sl59 sl60 sl61 sl62 sl63 sl64 sl65 sl66:Array (Option Value)} {oc0 kV0 dc0 pm0 cd0 ct0 oc1 kV1 dc1 pm1 cd1 ct1 oc2 kV2 dc2 pm2 cd2 ct2 oc3 kV3 dc3 pm3 cd3 ct3 oc4 kV4 dc4 pm4 cd4 ct4 oc5 kV5 dc5 pm5 cd5 ct5 oc6 kV6 dc6 pm6 cd6 ct6 oc7 kV7 dc7 pm7 cd7 ct7 oc8 kV8 dc8 pm8 cd8 ct8 oc9 kV9 dc9 pm9 cd9 ct9 oc10 kV10 dc10 pm10 cd10 ct10 oc11 kV11 dc11 pm11 cd11 ct11 oc12 kV12 dc12 pm12 cd12 ct12 oc13 kV13 dc13 pm13 cd13 ct13 oc14 kV14 dc14 pm14 cd14 ct14 oc15 kV15 dc15 pm15 cd15 ct15 oc16 kV16 dc16 pm16 cd16 ct16 oc17 kV17 dc17 pm17 cd17 ct17 oc18 kV18 dc18 pm18 cd18 ct18 oc19 kV19 dc19 pm19 cd19 ct19 oc20 kV20 dc20 pm20 cd20 ct20 oc21 kV21 dc21 pm21 cd21 ct21 oc22 kV22 dc22 pm22 cd22 ct22 oc24 kV24 dc24 pm24 cd24 ct24 oc25 kV25 dc25 pm25 cd25 ct25 oc26 kV26 dc26 pm26 cd26 ct26 oc27 kV27 dc27 pm27 cd27 ct27 oc28 kV28 dc28 pm28 cd28 ct28 oc29 kV29 dc29 pm29 cd29 ct29 oc30 kV30 dc30 pm30 cd30 ct30 oc31 kV31 dc31 pm31 cd31 ct31 oc32 kV32 dc32 pm32 cd32 ct32 oc33 kV33 dc33 pm33 cd33 ct33 oc34 kV34 dc34 pm34 cd34 ct34 oc35 kV35 dc35 pm35 cd35 ct35 oc36 kV36 dc36 pm36 cd36 ct36 oc37 kV37 dc37 pm37 cd37 ct37 oc38 kV38 dc38 pm38 cd38 ct38 oc39 kV39 dc39 pm39 cd39 ct39 oc40 kV40 dc40 pm40 cd40 ct40 oc41 kV41 dc41 pm41 cd41 ct41 oc42 kV42 dc42 pm42 cd42 ct42 oc43 kV43 dc43 pm43 cd43 ct43 oc44 kV44 dc44 pm44 cd44 ct44 oc45 kV45 dc45 pm45 cd45 ct45 oc46 kV46 dc46 pm46 cd46 ct46 oc47 kV47 dc47 pm47 cd47 ct47 oc48 kV48 dc48 pm48 cd48 ct48 oc49 kV49 dc49 pm49 cd49 ct49 oc50 kV50 dc50 pm50 cd50 ct50 oc51 kV51 dc51 pm51 cd51 ct51 oc52 kV52 dc52 pm52 cd52 ct52 oc53 kV53 dc53 pm53 cd53 ct53 oc54 kV54 dc54 pm54 cd54 ct54 oc55 kV55 dc55 pm55 cd55 ct55 oc56 kV56 dc56 pm56 cd56 ct56 oc57 kV57 dc57 pm57 cd57 ct57 oc58 kV58 dc58 pm58 cd58 ct58 oc59 kV59 dc59 pm59 cd59 ct59 oc60 kV60 dc60 pm60 cd60 ct60 oc61 kV61 dc61 pm61 cd61 ct61 oc62 kV62 dc62 pm62 cd62 ct62 oc63 kV63 dc63 pm63 cd63 ct63 oc64 kV64 dc64 pm64 cd64 ct64 oc65 kV65 dc65 pm65 cd65 ct65 oc66 kV66 dc66 pm66 cd66 ct66:Value}
  {ts:List Addr} {lcc lpp:Addr} {lod:Option Addr} {lvs:Array Value} {lsl:Array (Option Value)}
  {ec0:Addr} (e0:nsIn K mainGlobals "SkewError"=some (some (.ref ec0)))
  {ec1:Addr} (e1:nsIn K mainGlobals "NoLevel"=some (some (.ref ec1)))
  {ec2:Addr} (e2:nsIn K mainGlobals "NoDealing"=some (some (.ref ec2)))
  {ec3:Addr} (e3:nsIn K mainGlobals "Loose"=some (some (.ref ec3)))
  {ec4:Addr} (e4:nsIn K mainGlobals "Kept"=some (some (.ref ec4)))
  {ec5:Addr} (e5:nsIn K mainGlobals "Make"=some (some (.ref ec5)))
  {ec6:Addr} (e6:nsIn K mainGlobals "Watch"=some (some (.ref ec6)))
  {ec7:Addr} (e7:nsIn K mainGlobals "Hold"=some (some (.ref ec7)))
  {ec8:Addr} (e8:nsIn K mainGlobals "Span"=some (some (.ref ec8)))
  {ec9:Addr} (e9:nsIn K mainGlobals "Deal"=some (some (.ref ec9)))
  {ec10:Addr} (e10:nsIn K mainGlobals "Holds"=some (some (.ref ec10)))
  {ec11:Addr} (e11:nsIn K mainGlobals "Shelf"=some (some (.ref ec11)))
  {ec12:Addr} (e12:nsIn K mainGlobals "House"=some (some (.ref ec12)))
  (a0:nsIn K mainGlobals "is_whole"=some (some (.ref f0))) (l0:K.lookup f0=some ⟨oc0,od0,.func (Lw.fnS "is_whole" "is_whole" a9e kV0 dc0 pm0 an0 cd0 ct0),sl0⟩) (c0:codeIn K cd0 "is_whole"=true) (k0:keepIn K (.ref f0)=true)
  (a1:nsIn K mainGlobals "worth"=some (some (.ref f1))) (l1:K.lookup f1=some ⟨oc1,od1,.func (Lw.fnS "worth" "worth" b9v kV1 dc1 pm1 an1 cd1 ct1),sl1⟩) (c1:codeIn K cd1 "worth"=true) (k1:keepIn K (.ref f1)=true)
  (a2:nsIn K mainGlobals "under"=some (some (.ref f2))) (l2:K.lookup f2=some ⟨oc2,od2,.func (Lw.fnS "under" "under" b8t kV2 dc2 pm2 an2 cd2 ct2),sl2⟩) (c2:codeIn K cd2 "under"=true) (k2:keepIn K (.ref f2)=true)
  (a3:nsIn K mainGlobals "following"=some (some (.ref f3))) (l3:K.lookup f3=some ⟨oc3,od3,.func (Lw.fnS "following" "following" a5g kV3 dc3 pm3 an3 cd3 ct3),sl3⟩) (c3:codeIn K cd3 "following"=true) (k3:keepIn K (.ref f3)=true)
  (a4:findIn K (.ref ec3) "word"=some (some (.ref f4))) (l4:K.lookup f4=some ⟨oc4,od4,.func (Lw.fnS "word" "Loose.word" a4x kV4 dc4 pm4 an4 cd4 ct4),sl4⟩) (c4:codeIn K cd4 "Loose.word"=true) (k4:keepIn K (.ref f4)=true)
  (a5:findIn K (.ref ec3) "late"=some (some (.ref f5))) (l5:K.lookup f5=some ⟨oc5,od5,.func (Lw.fnS "late" "Loose.late" a5a kV5 dc5 pm5 an5 cd5 ct5),sl5⟩) (c5:codeIn K cd5 "Loose.late"=true) (k5:keepIn K (.ref f5)=true)
  (a6:findIn K (.ref ec3) "unkept"=some (some (.ref f6))) (l6:K.lookup f6=some ⟨oc6,od6,.func (Lw.fnS "unkept" "Loose.unkept" a3f kV6 dc6 pm6 an6 cd6 ct6),sl6⟩) (c6:codeIn K cd6 "Loose.unkept"=true) (k6:keepIn K (.ref f6)=true)
  (a7:findIn K (.ref ec3) "watches"=some (some (.ref f7))) (l7:K.lookup f7=some ⟨oc7,od7,.func (Lw.fnS "watches" "Loose.watches" a2m kV7 dc7 pm7 an7 cd7 ct7),sl7⟩) (c7:codeIn K cd7 "Loose.watches"=true) (k7:keepIn K (.ref f7)=true)
  (a8:findIn K (.ref ec4) "word"=some (some (.ref f8))) (l8:K.lookup f8=some ⟨oc8,od8,.func (Lw.fnS "word" "Kept.word" a6w kV8 dc8 pm8 an8 cd8 ct8),sl8⟩) (c8:codeIn K cd8 "Kept.word"=true) (k8:keepIn K (.ref f8)=true)
  (a9:findIn K (.ref ec4) "unkept"=some (some (.ref f9))) (l9:K.lookup f9=some ⟨oc9,od9,.func (Lw.fnS "unkept" "Kept.unkept" a3w kV9 dc9 pm9 an9 cd9 ct9),sl9⟩) (c9:codeIn K cd9 "Kept.unkept"=true) (k9:keepIn K (.ref f9)=true)
  (a10:findIn K (.ref ec5) "word"=some (some (.ref f10))) (l10:K.lookup f10=some ⟨oc10,od10,.func (Lw.fnS "word" "Make.word" a6t kV10 dc10 pm10 an10 cd10 ct10),sl10⟩) (c10:codeIn K cd10 "Make.word"=true) (k10:keepIn K (.ref f10)=true)
  (a11:findIn K (.ref ec5) "late"=some (some (.ref f11))) (l11:K.lookup f11=some ⟨oc11,od11,.func (Lw.fnS "late" "Make.late" a6i kV11 dc11 pm11 an11 cd11 ct11),sl11⟩) (c11:codeIn K cd11 "Make.late"=true) (k11:keepIn K (.ref f11)=true)
  (a12:findIn K (.ref ec6) "word"=some (some (.ref f12))) (l12:K.lookup f12=some ⟨oc12,od12,.func (Lw.fnS "word" "Watch.word" a4w kV12 dc12 pm12 an12 cd12 ct12),sl12⟩) (c12:codeIn K cd12 "Watch.word"=true) (k12:keepIn K (.ref f12)=true)
  (a13:findIn K (.ref ec6) "watches"=some (some (.ref f13))) (l13:K.lookup f13=some ⟨oc13,od13,.func (Lw.fnS "watches" "Watch.watches" a2r kV13 dc13 pm13 an13 cd13 ct13),sl13⟩) (c13:codeIn K cd13 "Watch.watches"=true) (k13:keepIn K (.ref f13)=true)
  (a14:findIn K (.ref ec7) "word"=some (some (.ref f14))) (l14:K.lookup f14=some ⟨oc14,od14,.func (Lw.fnS "word" "Hold.word" a6p kV14 dc14 pm14 an14 cd14 ct14),sl14⟩) (c14:codeIn K cd14 "Hold.word"=true) (k14:keepIn K (.ref f14)=true)
  (a15:nsIn K mainGlobals "level_of"=some (some (.ref f15))) (l15:K.lookup f15=some ⟨oc15,od15,.func (Lw.fnS "level_of" "level_of" a9c kV15 dc15 pm15 an15 cd15 ct15),sl15⟩) (c15:codeIn K cd15 "level_of"=true) (k15:keepIn K (.ref f15)=true)
  (a16:nsIn K mainGlobals "inside"=some (some (.ref f16))) (l16:K.lookup f16=some ⟨oc16,od16,.func (Lw.fnS "inside" "inside" b1t kV16 dc16 pm16 an16 cd16 ct16),sl16⟩) (c16:codeIn K cd16 "inside"=true) (k16:keepIn K (.ref f16)=true)
  (a17:nsIn K mainGlobals "meet"=some (some (.ref f17))) (l17:K.lookup f17=some ⟨oc17,od17,.func (Lw.fnS "meet" "meet" c5u kV17 dc17 pm17 an17 cd17 ct17),sl17⟩) (c17:codeIn K cd17 "meet"=true) (k17:keepIn K (.ref f17)=true)
  (a18:findIn K (.ref ec8) "__init__"=some (some (.ref f18))) (l18:K.lookup f18=some ⟨oc18,od18,.func (Lw.fnS "__init__" "Span.__init__" a6r kV18 dc18 pm18 an18 cd18 ct18),sl18⟩) (c18:codeIn K cd18 "Span.__init__"=true) (k18:keepIn K (.ref f18)=true)
  (a19:nsIn K mainGlobals "passes_by"=some (some (.ref f19))) (l19:K.lookup f19=some ⟨oc19,od19,.func (Lw.fnS "passes_by" "passes_by" a6h kV19 dc19 pm19 an19 cd19 ct19),sl19⟩) (c19:codeIn K cd19 "passes_by"=true) (k19:keepIn K (.ref f19)=true)
  (a20:nsIn K mainGlobals "older"=some (some (.ref f20))) (l20:K.lookup f20=some ⟨oc20,od20,.func (Lw.fnS "older" "older" b9f kV20 dc20 pm20 an20 cd20 ct20),sl20⟩) (c20:codeIn K cd20 "older"=true) (k20:keepIn K (.ref f20)=true)
  (a21:nsIn K mainGlobals "first_one"=some (some (.ref f21))) (l21:K.lookup f21=some ⟨oc21,od21,.func (Lw.fnS "first_one" "first_one" a6u kV21 dc21 pm21 an21 cd21 ct21),sl21⟩) (c21:codeIn K cd21 "first_one"=true) (k21:keepIn K (.ref f21)=true)
  (a22:nsIn K mainGlobals "first_other"=some (some (.ref f22))) (l22:K.lookup f22=some ⟨oc22,od22,.func (Lw.fnS "first_other" "first_other" a3r kV22 dc22 pm22 an22 cd22 ct22),sl22⟩) (c22:codeIn K cd22 "first_other"=true) (k22:keepIn K (.ref f22)=true)
  {f23:Addr} {od23 an23:Option Addr} {sl23:Array (Option Value)} {oc23 kV23 dc23 pm23 ct23:Value}
  (a23:nsIn K mainGlobals "closing"=some (some (.ref f23))) (l23:K.lookup f23=some ⟨oc23,od23,.func (Lw.fnS "closing" "closing" a9f kV23 dc23 pm23 an23 (.ref lcc) ct23),sl23⟩) (c23:codeIn K (.ref lcc) "closing"=true) (k23:keepIn K (.ref f23)=true)
  (a24:nsIn K mainGlobals "let_in"=some (some (.ref f24))) (l24:K.lookup f24=some ⟨oc24,od24,.func (Lw.fnS "let_in" "let_in" b8v kV24 dc24 pm24 an24 cd24 ct24),sl24⟩) (c24:codeIn K cd24 "let_in"=true) (k24:keepIn K (.ref f24)=true)
  (a25:findIn K (.ref ec9) "__init__"=some (some (.ref f25))) (l25:K.lookup f25=some ⟨oc25,od25,.func (Lw.fnS "__init__" "Deal.__init__" a6g kV25 dc25 pm25 an25 cd25 ct25),sl25⟩) (c25:codeIn K cd25 "Deal.__init__"=true) (k25:keepIn K (.ref f25)=true)
  (a26:findIn K (.ref ec9) "has_ended"=some (some (.ref f26))) (l26:K.lookup f26=some ⟨oc26,od26,.func (Lw.fnS "has_ended" "Deal.has_ended" a2n kV26 dc26 pm26 an26 cd26 ct26),sl26⟩) (c26:codeIn K cd26 "Deal.has_ended"=true) (k26:keepIn K (.ref f26)=true)
  (a27:findIn K (.ref ec9) "wake"=some (some (.ref f27))) (l27:K.lookup f27=some ⟨oc27,od27,.func (Lw.fnS "wake" "Deal.wake" a6n kV27 dc27 pm27 an27 cd27 ct27),sl27⟩) (c27:codeIn K cd27 "Deal.wake"=true) (k27:keepIn K (.ref f27)=true)
  (a28:findIn K (.ref ec9) "is_through"=some (some (.ref f28))) (l28:K.lookup f28=some ⟨oc28,od28,.func (Lw.fnS "is_through" "Deal.is_through" a2i kV28 dc28 pm28 an28 cd28 ct28),sl28⟩) (c28:codeIn K cd28 "Deal.is_through"=true) (k28:keepIn K (.ref f28)=true)
  (a29:findIn K (.ref ec9) "next_place"=some (some (.ref f29))) (l29:K.lookup f29=some ⟨oc29,od29,.func (Lw.fnS "next_place" "Deal.next_place" a2g kV29 dc29 pm29 an29 cd29 ct29),sl29⟩) (c29:codeIn K cd29 "Deal.next_place"=true) (k29:keepIn K (.ref f29)=true)
  (a30:findIn K (.ref ec9) "write"=some (some (.ref f30))) (l30:K.lookup f30=some ⟨oc30,od30,.func (Lw.fnS "write" "Deal.write" a5j kV30 dc30 pm30 an30 cd30 ct30),sl30⟩) (c30:codeIn K cd30 "Deal.write"=true) (k30:keepIn K (.ref f30)=true)
  (a31:findIn K (.ref ec9) "span"=some (some (.ref f31))) (l31:K.lookup f31=some ⟨oc31,od31,.func (Lw.fnS "span" "Deal.span" a6m kV31 dc31 pm31 an31 cd31 ct31),sl31⟩) (c31:codeIn K cd31 "Deal.span"=true) (k31:keepIn K (.ref f31)=true)
  (a32:findIn K (.ref ec9) "finish"=some (some (.ref f32))) (l32:K.lookup f32=some ⟨oc32,od32,.func (Lw.fnS "finish" "Deal.finish" a3y kV32 dc32 pm32 an32 cd32 ct32),sl32⟩) (c32:codeIn K cd32 "Deal.finish"=true) (k32:keepIn K (.ref f32)=true)
  (a33:nsIn K mainGlobals "clashes"=some (some (.ref f33))) (l33:K.lookup f33=some ⟨oc33,od33,.func (Lw.fnS "clashes" "clashes" a8y kV33 dc33 pm33 an33 cd33 ct33),sl33⟩) (c33:codeIn K cd33 "clashes"=true) (k33:keepIn K (.ref f33)=true)
  (a34:findIn K (.ref ec10) "__init__"=some (some (.ref f34))) (l34:K.lookup f34=some ⟨oc34,od34,.func (Lw.fnS "__init__" "Holds.__init__" a4y kV34 dc34 pm34 an34 cd34 ct34),sl34⟩) (c34:codeIn K cd34 "Holds.__init__"=true) (k34:keepIn K (.ref f34)=true)
  (a35:findIn K (.ref ec10) "against"=some (some (.ref f35))) (l35:K.lookup f35=some ⟨oc35,od35,.func (Lw.fnS "against" "Holds.against" a2s kV35 dc35 pm35 an35 cd35 ct35),sl35⟩) (c35:codeIn K cd35 "Holds.against"=true) (k35:keepIn K (.ref f35)=true)
  (a36:findIn K (.ref ec10) "take"=some (some (.ref f36))) (l36:K.lookup f36=some ⟨oc36,od36,.func (Lw.fnS "take" "Holds.take" a5f kV36 dc36 pm36 an36 cd36 ct36),sl36⟩) (c36:codeIn K cd36 "Holds.take"=true) (k36:keepIn K (.ref f36)=true)
  (a37:findIn K (.ref ec10) "free"=some (some (.ref f37))) (l37:K.lookup f37=some ⟨oc37,od37,.func (Lw.fnS "free" "Holds.free" a4v kV37 dc37 pm37 an37 cd37 ct37),sl37⟩) (c37:codeIn K cd37 "Holds.free"=true) (k37:keepIn K (.ref f37)=true)
  (a38:findIn K (.ref ec11) "__init__"=some (some (.ref f38))) (l38:K.lookup f38=some ⟨oc38,od38,.func (Lw.fnS "__init__" "Shelf.__init__" a5i kV38 dc38 pm38 an38 cd38 ct38),sl38⟩) (c38:codeIn K cd38 "Shelf.__init__"=true) (k38:keepIn K (.ref f38)=true)
  (a39:findIn K (.ref ec11) "put"=some (some (.ref f39))) (l39:K.lookup f39=some ⟨oc39,od39,.func (Lw.fnS "put" "Shelf.put" a6s kV39 dc39 pm39 an39 cd39 ct39),sl39⟩) (c39:codeIn K cd39 "Shelf.put"=true) (k39:keepIn K (.ref f39)=true)
  (a40:findIn K (.ref ec11) "newest"=some (some (.ref f40))) (l40:K.lookup f40=some ⟨oc40,od40,.func (Lw.fnS "newest" "Shelf.newest" a2x kV40 dc40 pm40 an40 cd40 ct40),sl40⟩) (c40:codeIn K cd40 "Shelf.newest"=true) (k40:keepIn K (.ref f40)=true)
  (a41:findIn K (.ref ec12) "__init__"=some (some (.ref f41))) (l41:K.lookup f41=some ⟨oc41,od41,.func (Lw.fnS "__init__" "House.__init__" a4z kV41 dc41 pm41 an41 cd41 ct41),sl41⟩) (c41:codeIn K cd41 "House.__init__"=true) (k41:keepIn K (.ref f41)=true)
  (a42:findIn K (.ref ec12) "step"=some (some (.ref f42))) (l42:K.lookup f42=some ⟨oc42,od42,.func (Lw.fnS "step" "House.step" a5e kV42 dc42 pm42 an42 cd42 ct42),sl42⟩) (c42:codeIn K cd42 "House.step"=true) (k42:keepIn K (.ref f42)=true)
  (a43:findIn K (.ref ec12) "weave"=some (some (.ref f43))) (l43:K.lookup f43=some ⟨oc43,od43,.func (Lw.fnS "weave" "House.weave" a4b kV43 dc43 pm43 an43 cd43 ct43),sl43⟩) (c43:codeIn K cd43 "House.weave"=true) (k43:keepIn K (.ref f43)=true)
  (a44:findIn K (.ref ec12) "rest"=some (some (.ref f44))) (l44:K.lookup f44=some ⟨oc44,od44,.func (Lw.fnS "rest" "House.rest" a5b kV44 dc44 pm44 an44 cd44 ct44),sl44⟩) (c44:codeIn K cd44 "House.rest"=true) (k44:keepIn K (.ref f44)=true)
  (a45:findIn K (.ref ec12) "log"=some (some (.ref f45))) (l45:K.lookup f45=some ⟨oc45,od45,.func (Lw.fnS "log" "House.log" a6v kV45 dc45 pm45 an45 cd45 ct45),sl45⟩) (c45:codeIn K cd45 "House.log"=true) (k45:keepIn K (.ref f45)=true)
  (a46:findIn K (.ref ec12) "state"=some (some (.ref f46))) (l46:K.lookup f46=some ⟨oc46,od46,.func (Lw.fnS "state" "House.state" a4a kV46 dc46 pm46 an46 cd46 ct46),sl46⟩) (c46:codeIn K cd46 "House.state"=true) (k46:keepIn K (.ref f46)=true)
  (a47:findIn K (.ref ec12) "reason"=some (some (.ref f47))) (l47:K.lookup f47=some ⟨oc47,od47,.func (Lw.fnS "reason" "House.reason" a3h kV47 dc47 pm47 an47 cd47 ct47),sl47⟩) (c47:codeIn K cd47 "House.reason"=true) (k47:keepIn K (.ref f47)=true)
  (a48:findIn K (.ref ec12) "level_word"=some (some (.ref f48))) (l48:K.lookup f48=some ⟨oc48,od48,.func (Lw.fnS "level_word" "House.level_word" a1y kV48 dc48 pm48 an48 cd48 ct48),sl48⟩) (c48:codeIn K cd48 "House.level_word"=true) (k48:keepIn K (.ref f48)=true)
  (a49:findIn K (.ref ec12) "looked"=some (some (.ref f49))) (l49:K.lookup f49=some ⟨oc49,od49,.func (Lw.fnS "looked" "House.looked" a2w kV49 dc49 pm49 an49 cd49 ct49),sl49⟩) (c49:codeIn K cd49 "House.looked"=true) (k49:keepIn K (.ref f49)=true)
  (a50:findIn K (.ref ec12) "order"=some (some (.ref f50))) (l50:K.lookup f50=some ⟨oc50,od50,.func (Lw.fnS "order" "House.order" a3x kV50 dc50 pm50 an50 cd50 ct50),sl50⟩) (c50:codeIn K cd50 "House.order"=true) (k50:keepIn K (.ref f50)=true)
  (a51:findIn K (.ref ec12) "deal_of"=some (some (.ref f51))) (l51:K.lookup f51=some ⟨oc51,od51,.func (Lw.fnS "deal_of" "House.deal_of" a2y kV51 dc51 pm51 an51 cd51 ct51),sl51⟩) (c51:codeIn K cd51 "House.deal_of"=true) (k51:keepIn K (.ref f51)=true)
  (a52:findIn K (.ref ec12) "tell"=some (some (.ref f52))) (l52:K.lookup f52=some ⟨oc52,od52,.func (Lw.fnS "tell" "House.tell" a5k kV52 dc52 pm52 an52 cd52 ct52),sl52⟩) (c52:codeIn K cd52 "House.tell"=true) (k52:keepIn K (.ref f52)=true)
  (a53:findIn K (.ref ec12) "attempt"=some (some (.ref f53))) (l53:K.lookup f53=some ⟨oc53,od53,.func (Lw.fnS "attempt" "House.attempt" a2p kV53 dc53 pm53 an53 cd53 ct53),sl53⟩) (c53:codeIn K cd53 "House.attempt"=true) (k53:keepIn K (.ref f53)=true)
  (a54:findIn K (.ref ec12) "act"=some (some (.ref f54))) (l54:K.lookup f54=some ⟨oc54,od54,.func (Lw.fnS "act" "House.act" a6o kV54 dc54 pm54 an54 cd54 ct54),sl54⟩) (c54:codeIn K cd54 "House.act"=true) (k54:keepIn K (.ref f54)=true)
  (a55:findIn K (.ref ec12) "write"=some (some (.ref f55))) (l55:K.lookup f55=some ⟨oc55,od55,.func (Lw.fnS "write" "House.write" a3v kV55 dc55 pm55 an55 cd55 ct55),sl55⟩) (c55:codeIn K cd55 "House.write"=true) (k55:keepIn K (.ref f55)=true)
  (a56:findIn K (.ref ec12) "keep"=some (some (.ref f56))) (l56:K.lookup f56=some ⟨oc56,od56,.func (Lw.fnS "keep" "House.keep" a5c kV56 dc56 pm56 an56 cd56 ct56),sl56⟩) (c56:codeIn K cd56 "House.keep"=true) (k56:keepIn K (.ref f56)=true)
  (a57:findIn K (.ref ec12) "take"=some (some (.ref f57))) (l57:K.lookup f57=some ⟨oc57,od57,.func (Lw.fnS "take" "House.take" a5d kV57 dc57 pm57 an57 cd57 ct57),sl57⟩) (c57:codeIn K cd57 "House.take"=true) (k57:keepIn K (.ref f57)=true)
  (a58:nsIn K mainGlobals "_law_cell"=some (some (.ref f58))) (l58:K.lookup f58=some ⟨oc58,od58,.func (Lw.fnS "_law_cell" "_law_cell" b8u kV58 dc58 pm58 an58 cd58 ct58),sl58⟩) (c58:codeIn K cd58 "_law_cell"=true) (k58:keepIn K (.ref f58)=true)
  (a59:nsIn K mainGlobals "_law_mix"=some (some (.ref f59))) (l59:K.lookup f59=some ⟨oc59,od59,.func (Lw.fnS "_law_mix" "_law_mix" c8n kV59 dc59 pm59 an59 cd59 ct59),sl59⟩) (c59:codeIn K cd59 "_law_mix"=true) (k59:keepIn K (.ref f59)=true)
  (a60:nsIn K mainGlobals "_law_same"=some (some (.ref f60))) (l60:K.lookup f60=some ⟨oc60,od60,.func (Lw.fnS "_law_same" "_law_same" b9q kV60 dc60 pm60 an60 cd60 ct60),sl60⟩) (c60:codeIn K cd60 "_law_same"=true) (k60:keepIn K (.ref f60)=true)
  (a61:nsIn K mainGlobals "_law_is_none"=some (some (.ref f61))) (l61:K.lookup f61=some ⟨oc61,od61,.func (Lw.fnS "_law_is_none" "_law_is_none" a8w kV61 dc61 pm61 an61 cd61 ct61),sl61⟩) (c61:codeIn K cd61 "_law_is_none"=true) (k61:keepIn K (.ref f61)=true)
  (a62:nsIn K mainGlobals "_law_refused"=some (some (.ref f62))) (l62:K.lookup f62=some ⟨oc62,od62,.func (Lw.fnS "_law_refused" "_law_refused" a6e kV62 dc62 pm62 an62 cd62 ct62),sl62⟩) (c62:codeIn K cd62 "_law_refused"=true) (k62:keepIn K (.ref f62)=true)
  (a63:nsIn K mainGlobals "_law_no_weave"=some (some (.ref f63))) (l63:K.lookup f63=some ⟨oc63,od63,.func (Lw.fnS "_law_no_weave" "_law_no_weave" a6f kV63 dc63 pm63 an63 cd63 ct63),sl63⟩) (c63:codeIn K cd63 "_law_no_weave"=true) (k63:keepIn K (.ref f63)=true)
  (a64:nsIn K mainGlobals "_law_no_level"=some (some (.ref f64))) (l64:K.lookup f64=some ⟨oc64,od64,.func (Lw.fnS "_law_no_level" "_law_no_level" a6l kV64 dc64 pm64 an64 cd64 ct64),sl64⟩) (c64:codeIn K cd64 "_law_no_level"=true) (k64:keepIn K (.ref f64)=true)
  (a65:nsIn K mainGlobals "_law_states"=some (some (.ref f65))) (l65:K.lookup f65=some ⟨oc65,od65,.func (Lw.fnS "_law_states" "_law_states" a9a kV65 dc65 pm65 an65 cd65 ct65),sl65⟩) (c65:codeIn K cd65 "_law_states"=true) (k65:keepIn K (.ref f65)=true)
  (a66:nsIn K mainGlobals "law"=some (some (.ref f66))) (l66:K.lookup f66=some ⟨oc66,od66,.func (Lw.fnS "law" "law" d0i kV66 dc66 pm66 an66 cd66 ct66),sl66⟩) (c66:codeIn K cd66 "law"=true) (k66:keepIn K (.ref f66)=true)
  (x0:excIn K ec1 [.type "ValueError",.type "Exception",.type "BaseException",.type "object"] "ValueError.__new__"=true)
  (x1:excIn K ec2 [.type "ValueError",.type "Exception",.type "BaseException",.type "object"] "ValueError.__new__"=true)
  (lkc:K.lookup lcc=some ⟨.type "code",lod,.fields lvs,lsl⟩)
  (lkv:(lvs[11]?:Option Value)=some (.ref lpp))
  (lkh:codeHdIn K lcc lpp=true)
  (lkn:K.lookup lpp=none)
  (lkm:lpp∈ts)
  (b5s:isClsIn K ec1=true)
  (b4j:findIn K (.ref ec1) "__getattribute__"=some (some (.builtin "BaseException.__getattribute__")))
  (b5l:findIn K (.ref ec1) "__getattr__"=some none)
  (b5a:findIn K (.ref ec1) "__class__"=some (some (.builtin "object.__class__")))
  (b4y:mroIn K ec1 (.type "BaseException")=some true)
  (b5z:mroIn K ec1 (.type "object")=some true)
  (b0t:isClsIn K ec2=true)
  (b0w:findIn K (.ref ec2) "__getattribute__"=some (some (.builtin "BaseException.__getattribute__")))
  (b0k:findIn K (.ref ec2) "__getattr__"=some none)
  (b0n:findIn K (.ref ec2) "__class__"=some (some (.builtin "object.__class__")))
  (b0r:mroIn K ec2 (.type "BaseException")=some true)
  (b0q:mroIn K ec2 (.type "object")=some true)
  (d3a:makesIn K ec8=true)
  (d3c:isFn K (.ref f18)=true)
  (d4n:keepIn K (.ref ec8)=true)
  (c9q:plainGet K ec8 Str.empty=true)
  (c8x:hasDictIn K ec8=true)
  (c6j:plainOver K ec8=true)
  (c7m:findIn K (.ref ec8) "__setattr__"=some (some (.builtin "object.__setattr__")))
  (b5d:findIn K (.ref ec8) "number"=some none)
  (b2e:findIn K (.ref ec8) "watched"=some none)
  (b8s:findIn K (.ref ec8) "begin"=some none)
  (c9r:findIn K (.ref ec8) "end"=some none)
  (b8r:findIn K (.ref ec8) "looks"=some none)
  (c1z:findIn K (.ref ec8) "puts"=some none)
  (d2o:makesIn K ec9=true)
  (d3x:isFn K (.ref f25)=true)
  (d4q:keepIn K (.ref ec9)=true)
  (c8f:plainGet K ec9 Str.empty=true)
  (c6y:hasDictIn K ec9=true)
  (c7r:plainOver K ec9=true)
  (d0b:findIn K (.ref ec9) "__setattr__"=some (some (.builtin "object.__setattr__")))
  (b4r:findIn K (.ref ec9) "number"=some none)
  (b9e:findIn K (.ref ec9) "level"=some none)
  (b9d:findIn K (.ref ec9) "deeds"=some none)
  (b9g:findIn K (.ref ec9) "place"=some none)
  (b8y:findIn K (.ref ec9) "names"=some none)
  (b9u:findIn K (.ref ec9) "phase"=some none)
  (b9t:findIn K (.ref ec9) "begin"=some none)
  (c8p:findIn K (.ref ec9) "why"=some none)
  (b4e:findIn K (.ref ec9) "wanted"=some none)
  (b5j:findIn K (.ref ec9) "drafts"=some none)
  (b9p:findIn K (.ref ec9) "wrote"=some none)
  (b9h:findIn K (.ref ec9) "looks"=some none)
  (e5b:isFn K (.ref f26)=true)
  (e8d:isFn K (.ref f27)=true)
  (e7c:isFn K (.ref f28)=true)
  (e7l:isFn K (.ref f29)=true)
  (e5r:isFn K (.ref f30)=true)
  (e4k:isFn K (.ref f31)=true)
  (e6p:isFn K (.ref f32)=true)
  (c7j:makesIn K ec10=true)
  (c5k:isFn K (.ref f34)=true)
  (c7c:keepIn K (.ref ec10)=true)
  (c2d:plainGet K ec10 Str.empty=true)
  (c2k:hasDictIn K ec10=true)
  (c3c:plainOver K ec10=true)
  (c2f:findIn K (.ref ec10) "__setattr__"=some (some (.builtin "object.__setattr__")))
  (b6b:findIn K (.ref ec10) "taken"=some none)
  (e7f:isFn K (.ref f35)=true)
  (e6y:isFn K (.ref f36)=true)
  (e4l:isFn K (.ref f37)=true)
  (c9e:makesIn K ec11=true)
  (c5n:isFn K (.ref f38)=true)
  (c9l:keepIn K (.ref ec11)=true)
  (c2x:plainGet K ec11 Str.empty=true)
  (c1u:hasDictIn K ec11=true)
  (c2g:plainOver K ec11=true)
  (c2o:findIn K (.ref ec11) "__setattr__"=some (some (.builtin "object.__setattr__")))
  (b4k:findIn K (.ref ec11) "makes"=some none)
  (e8n:isFn K (.ref f39)=true)
  (e7k:isFn K (.ref f40)=true)
  (c7f:makesIn K ec12=true)
  (c8i:isFn K (.ref f41)=true)
  (c5y:keepIn K (.ref ec12)=true)
  (c2y:plainGet K ec12 Str.empty=true)
  (c2v:hasDictIn K ec12=true)
  (c3a:plainOver K ec12=true)
  (c2j:findIn K (.ref ec12) "__setattr__"=some (some (.builtin "object.__setattr__")))
  (b4m:findIn K (.ref ec12) "shelf"=some none)
  (b5h:findIn K (.ref ec12) "holds"=some none)
  (b5c:findIn K (.ref ec12) "deals"=some none)
  (b6c:findIn K (.ref ec12) "spans"=some none)
  (b4p:findIn K (.ref ec12) "stamp"=some none)
  (a7y:findIn K (.ref ec12) "told_rows"=some none)
  (e6f:isFn K (.ref f42)=true)
  (e6s:isFn K (.ref f43)=true)
  (e3s:isFn K (.ref f44)=true)
  (e3u:isFn K (.ref f45)=true)
  (e6v:isFn K (.ref f46)=true)
  (e3q:isFn K (.ref f47)=true)
  (e4i:isFn K (.ref f48)=true)
  (e6g:isFn K (.ref f49)=true)
  (e8c:isFn K (.ref f50)=true)
  (e7j:isFn K (.ref f51)=true)
  (e4e:isFn K (.ref f52)=true)
  (e5q:isFn K (.ref f53)=true)
  (e4r:isFn K (.ref f54)=true)
  (e8f:isFn K (.ref f55)=true)
  (e3w:isFn K (.ref f56)=true)
  (e5j:isFn K (.ref f57)=true)
  (c8r:makesIn K ec3=true)
  (c7a:findIn K (.ref ec3) "__init__"=some (some (.builtin "object.__init__")))
  (c8s:keepIn K (.ref ec3)=true)
  (c2b:plainGet K ec3 Str.empty=true)
  (c2i:hasDictIn K ec3=true)
  (c1y:plainOver K ec3=true)
  (c2m:findIn K (.ref ec3) "__setattr__"=some (some (.builtin "object.__setattr__")))
  (d8p:findIn K (.ref ec3) "__class__"=some (some (.builtin "object.__class__")))
  (d9z:mroIn K ec3 (.type "object")=some true)
  (d4m:makesIn K ec4=true)
  (d2s:findIn K (.ref ec4) "__init__"=some (some (.builtin "object.__init__")))
  (d2r:keepIn K (.ref ec4)=true)
  (c5m:plainGet K ec4 Str.empty=true)
  (c7o:hasDictIn K ec4=true)
  (c5f:plainOver K ec4=true)
  (c9g:findIn K (.ref ec4) "__setattr__"=some (some (.builtin "object.__setattr__")))
  (e5o:findIn K (.ref ec4) "__class__"=some (some (.builtin "object.__class__")))
  (e7v:mroIn K ec4 (.type "object")=some true)
  (c3b:findIn K (.ref ec4) "late"=some (some (.ref f5)))
  (b3g:findIn K (.ref ec4) "watches"=some (some (.ref f7)))
  (d2k:makesIn K ec5=true)
  (d2z:findIn K (.ref ec5) "__init__"=some (some (.builtin "object.__init__")))
  (d3r:keepIn K (.ref ec5)=true)
  (c5o:plainGet K ec5 Str.empty=true)
  (c9k:hasDictIn K ec5=true)
  (c9v:plainOver K ec5=true)
  (c7x:findIn K (.ref ec5) "__setattr__"=some (some (.builtin "object.__setattr__")))
  (e4y:findIn K (.ref ec5) "__class__"=some (some (.builtin "object.__class__")))
  (e4u:mroIn K ec5 (.type "object")=some true)
  (b4v:findIn K (.ref ec5) "unkept"=some (some (.ref f9)))
  (b1w:findIn K (.ref ec5) "watches"=some (some (.ref f7)))
  (c9b:makesIn K ec6=true)
  (c7e:findIn K (.ref ec6) "__init__"=some (some (.builtin "object.__init__")))
  (d0c:keepIn K (.ref ec6)=true)
  (c3d:plainGet K ec6 Str.empty=true)
  (c2r:hasDictIn K ec6=true)
  (c2e:plainOver K ec6=true)
  (c2z:findIn K (.ref ec6) "__setattr__"=some (some (.builtin "object.__setattr__")))
  (d9l:findIn K (.ref ec6) "__class__"=some (some (.builtin "object.__class__")))
  (d9u:mroIn K ec6 (.type "object")=some true)
  (b8x:findIn K (.ref ec6) "late"=some (some (.ref f11)))
  (b1o:findIn K (.ref ec6) "unkept"=some (some (.ref f9)))
  (d3e:makesIn K ec7=true)
  (d2q:findIn K (.ref ec7) "__init__"=some (some (.builtin "object.__init__")))
  (d3f:keepIn K (.ref ec7)=true)
  (c8t:plainGet K ec7 Str.empty=true)
  (c7i:hasDictIn K ec7=true)
  (c7b:plainOver K ec7=true)
  (c7s:findIn K (.ref ec7) "__setattr__"=some (some (.builtin "object.__setattr__")))
  (e4v:findIn K (.ref ec7) "__class__"=some (some (.builtin "object.__class__")))
  (e7q:mroIn K ec7 (.type "object")=some true)
  (b6a:findIn K (.ref ec7) "unkept"=some (some (.ref f9)))
  (c2a:findIn K (.ref ec7) "late"=some (some (.ref f5)))
  (b2r:findIn K (.ref ec7) "watches"=some (some (.ref f7)))
  (mf4:isFn K (.ref f4)=true)
  (mf5:isFn K (.ref f5)=true)
  (mf6:isFn K (.ref f6)=true)
  (mf7:isFn K (.ref f7)=true)
  (mf8:isFn K (.ref f8)=true)
  (mf9:isFn K (.ref f9)=true)
  (mf10:isFn K (.ref f10)=true)
  (mf11:isFn K (.ref f11)=true)
  (mf12:isFn K (.ref f12)=true)
  (mf13:isFn K (.ref f13)=true)
  (mf14:isFn K (.ref f14)=true)
  (tgx:specialIn K (.builtin "object.__class__") "__get__"=some (some (.builtin "getset_descriptor.__get__")))
  (ttx:takesIn K (.builtin "object.__class__")=some true)
  (a7p:isClsIn K ec0=true)
  (a7q:typeIn K (.ref ec0)=some (.type "type"))
  (b1c:isClsIn K ec1=true)
  (b1f:typeIn K (.ref ec1)=some (.type "type"))
  (a7u:isClsIn K ec2=true)
  (a7w:typeIn K (.ref ec2)=some (.type "type"))
  (a1l:subIn K (.ref ec0) (.ref ec0)=some true)
  (a4h:subIn K (.ref ec0) (.ref ec1)=some false)
  (a3o:subIn K (.ref ec0) (.ref ec2)=some false)
  (a4i:subIn K (.ref ec1) (.ref ec0)=some true)
  (a1v:subIn K (.ref ec1) (.ref ec1)=some true)
  (a4f:subIn K (.ref ec1) (.ref ec2)=some false)
  (a3p:subIn K (.ref ec2) (.ref ec0)=some true)
  (a4g:subIn K (.ref ec2) (.ref ec1)=some false)
  (a1k:subIn K (.ref ec2) (.ref ec2)=some true)
  (b3h:subIn K (.ref ec2) (.ref ec0)=some true)
  (b9j:subIn K (.ref ec1) (.ref ec0)=some true)
  (b0m:typeIn K (.ref ec0)=some (.type "type"))
  (b0s:isClsIn K ec0=true)
  (b0j:mroIn K ec0 (.type "BaseException")=some true)
  (c7y:subIn K (.ref ec1) (.type "ValueError")=some true)
  (b8w:subIn K (.ref ec2) (.type "ValueError")=some true)
  {ca0:Addr} {f9y:Option Addr} {cs0:Array (Option Value)} {cn0:Nat} {cx0_0 cx0_1:Tok} (n0:nsIn K mainGlobals "END_PHASES"=some (some (.ref ca0))) (q0:K.lookup ca0=some ⟨.type "tuple",f9y,.seq #[.str "kept" cx0_0,.str "broken" cx0_1] cn0,cs0⟩)
  {ca1:Addr} {f9u:Option Addr} {cs1:Array (Option Value)} {cn1:Nat} {cx1_0 cx1_1 cx1_2:Tok} (n1:nsIn K mainGlobals "LOOKS"=some (some (.ref ca1))) (q1:K.lookup ca1=some ⟨.type "tuple",f9u,.seq #[.str "read" cx1_0,.str "sum" cx1_1,.str "count" cx1_2] cn1,cs1⟩)
  {ca2:Addr} {g0e:Option Addr} {cs2:Array (Option Value)} {cn2:Nat} {cx2_0 cx2_1:Tok} (n2:nsIn K mainGlobals "WRITES"=some (some (.ref ca2))) (q2:K.lookup ca2=some ⟨.type "tuple",g0e,.seq #[.str "put" cx2_0,.str "take" cx2_1] cn2,cs2⟩)
  {ca3:Addr} {g0f:Option Addr} {cs3:Array (Option Value)} {cn3:Nat} {cx3_0 cx3_1:Tok} (n3:nsIn K mainGlobals "NO_MAKE"=some (some (.ref ca3))) (q3:K.lookup ca3=some ⟨.type "tuple",g0f,.seq #[.int 0 cx3_0,.int 0 cx3_1,.none] cn3,cs3⟩)
  {f9f:Tok} (n4:nsIn K mainGlobals "START"=some (some (.int (0) f9f)))
  (a7t:nsIn K mainGlobals "ValueError"=some none)
  (e9l:nsIn K mainGlobals "all"=some none)
  (e9z:nsIn K mainGlobals "any"=some none)
  (d6m:nsIn K mainGlobals "bool"=some none)
  (b1u:nsIn K mainGlobals "enumerate"=some none)
  (e6j:nsIn K mainGlobals "int"=some none)
  (a0v:nsIn K mainGlobals "isinstance"=some none)
  (b0z:nsIn K mainGlobals "len"=some none)
  (b1k:nsIn K mainGlobals "list"=some none)
  (e9w:nsIn K mainGlobals "max"=some none)
  (e5l:nsIn K mainGlobals "min"=some none)
  (b9l:nsIn K mainGlobals "range"=some none)
  (a9o:nsIn K mainGlobals "sorted"=some none)
  (e7m:nsIn K mainGlobals "str"=some none)
  (b9i:nsIn K mainGlobals "tuple"=some none)
  (f1e:nsIn K mainGlobals "zip"=some none)
  : ∃ (fd:FuncData) (c0 P0:Addr),(∀ (s:Shared) (v:Value),BindsTo s fd ⟨[v],[]⟩ [("_law_script",v)])∧P0∈ts∧K.lookup P0=none∧codeHdIn K c0 P0=true∧∀ base:Heap,K.In base→base.Ns mainGlobals mg→a2j l.prog w K mg base CX0 14 fa fd ["_law_script"] (e9p K mg P0 base):=by
 have e:=hfa.symm.trans (mg_of X G a66)
 cases e
 let T:Tx K mg:={
  c0d:=f0
  c1j:=_
  c9x:=a0h (st:=a9e) l0 c0 k0
  d7q:=(a0h (st:=a9e) l0 c0 k0).binds (ps:=["thing"]) fun _ _ _ _ _ _ us hl=>by obtain⟨_,rfl⟩:=My.us1 hl;rfl
  d6a:=mg_of X G a0
  d2w:=f1
  d4c:=_
  c2s:=a0h (st:=b9v) l1 c1 k1
  c9m:=(a0h (st:=b9v) l1 c1 k1).binds (ps:=["operand","names"]) fun _ _ _ _ _ _ us hl=>by obtain⟨_,_,rfl⟩:=My.us2 hl;rfl
  c6i:=mg_of X G a1
  d3o:=f2
  d3p:=_
  d9y:=a0h (st:=b8t) l2 c2 k2
  e6a:=(a0h (st:=b8t) l2 c2 k2).binds (ps:=["deed","names"]) fun _ _ _ _ _ _ us hl=>by obtain⟨_,_,rfl⟩:=My.us2 hl;rfl
  e6l:=mg_of X G a2
  b2v:=f3
  b1p:=_
  b9r:=a0h (st:=a5g) l3 c3 k3
  c5w:=(a0h (st:=a5g) l3 c3 k3).binds (ps:=["deed","place","names","many"]) fun _ _ _ _ _ _ us hl=>by obtain⟨_,_,_,_,rfl⟩:=My.us4 hl;rfl
  c9w:=mg_of X G a3
  b1q:=f4
  b2u:=_
  c7v:=a0h (st:=a4x) l4 c4 k4
  c6a:=(a0h (st:=a4x) l4 c4 k4).binds (ps:=["self"]) fun _ _ _ _ _ _ us hl=>by obtain⟨_,rfl⟩:=My.us1 hl;rfl
  a6j:=f5
  b2h:=_
  c7h:=a0h (st:=a5a) l5 c5 k5
  b1m:=(a0h (st:=a5a) l5 c5 k5).binds (ps:=["self","begin","stamp"]) fun _ _ _ _ _ _ us hl=>by obtain⟨_,_,_,rfl⟩:=My.us3 hl;rfl
  a8q:=f6
  a8j:=_
  c0k:=a0h (st:=a3f) l6 c6 k6
  c0l:=(a0h (st:=a3f) l6 c6 k6).binds (ps:=["self"]) fun _ _ _ _ _ _ us hl=>by obtain⟨_,rfl⟩:=My.us1 hl;rfl
  a2q:=f7
  a6x:=_
  b8q:=a0h (st:=a2m) l7 c7 k7
  a4m:=(a0h (st:=a2m) l7 c7 k7).binds (ps:=["self"]) fun _ _ _ _ _ _ us hl=>by obtain⟨_,rfl⟩:=My.us1 hl;rfl
  b7l:=f8
  b6l:=_
  d1g:=a0h (st:=a6w) l8 c8 k8
  d1y:=(a0h (st:=a6w) l8 c8 k8).binds (ps:=["self"]) fun _ _ _ _ _ _ us hl=>by obtain⟨_,rfl⟩:=My.us1 hl;rfl
  a3u:=f9
  a9s:=_
  c3l:=a0h (st:=a3w) l9 c9 k9
  a7r:=(a0h (st:=a3w) l9 c9 k9).binds (ps:=["self"]) fun _ _ _ _ _ _ us hl=>by obtain⟨_,rfl⟩:=My.us1 hl;rfl
  b6n:=f10
  b6w:=_
  d2b:=a0h (st:=a6t) l10 c10 k10
  d1q:=(a0h (st:=a6t) l10 c10 k10).binds (ps:=["self"]) fun _ _ _ _ _ _ us hl=>by obtain⟨_,rfl⟩:=My.us1 hl;rfl
  b1e:=f11
  b6r:=_
  d1j:=a0h (st:=a6i) l11 c11 k11
  c3f:=(a0h (st:=a6i) l11 c11 k11).binds (ps:=["self","begin","stamp"]) fun _ _ _ _ _ _ us hl=>by obtain⟨_,_,_,rfl⟩:=My.us3 hl;rfl
  b3x:=f12
  b2j:=_
  c8m:=a0h (st:=a4w) l12 c12 k12
  c8k:=(a0h (st:=a4w) l12 c12 k12).binds (ps:=["self"]) fun _ _ _ _ _ _ us hl=>by obtain⟨_,rfl⟩:=My.us1 hl;rfl
  a7i:=f13
  a7l:=_
  b8l:=a0h (st:=a2r) l13 c13 k13
  b8f:=(a0h (st:=a2r) l13 c13 k13).binds (ps:=["self"]) fun _ _ _ _ _ _ us hl=>by obtain⟨_,rfl⟩:=My.us1 hl;rfl
  b6p:=f14
  b6j:=_
  d1s:=a0h (st:=a6p) l14 c14 k14
  d0z:=(a0h (st:=a6p) l14 c14 k14).binds (ps:=["self"]) fun _ _ _ _ _ _ us hl=>by obtain⟨_,rfl⟩:=My.us1 hl;rfl
  c1p:=f15
  c1b:=_
  c6w:=a0h (st:=a9c) l15 c15 k15
  d6h:=(a0h (st:=a9c) l15 c15 k15).binds (ps:=["word"]) fun _ _ _ _ _ _ us hl=>by obtain⟨_,rfl⟩:=My.us1 hl;rfl
  d5j:=mg_of X G a15
  c4z:=f16
  c4x:=_
  d3j:=a0h (st:=b1t) l16 c16 k16
  e0f:=(a0h (st:=b1t) l16 c16 k16).binds (ps:=["key","low","high"]) fun _ _ _ _ _ _ us hl=>by obtain⟨_,_,_,rfl⟩:=My.us3 hl;rfl
  e1i:=mg_of X G a16
  e0j:=f17
  e1u:=_
  e7x:=a0h (st:=c5u) l17 c17 k17
  f1u:=(a0h (st:=c5u) l17 c17 k17).binds (ps:=["low","high","other_low","other_high"]) fun _ _ _ _ _ _ us hl=>by obtain⟨_,_,_,_,rfl⟩:=My.us4 hl;rfl
  f2f:=mg_of X G a17
  b7r:=f18
  b7v:=_
  d1l:=a0h (st:=a6r) l18 c18 k18
  d0s:=(a0h (st:=a6r) l18 c18 k18).binds (ps:=["self","number","watched","begin","end","looks","puts"]) fun _ _ _ _ _ _ us hl=>by obtain⟨_,_,_,_,_,_,_,rfl⟩:=My.us7 hl;rfl
  b6q:=f19
  b7k:=_
  c1t:=a0h (st:=a6h) l19 c19 k19
  d1w:=(a0h (st:=a6h) l19 c19 k19).binds (ps:=["look","key","end"]) fun _ _ _ _ _ _ us hl=>by obtain⟨_,_,_,rfl⟩:=My.us3 hl;rfl
  d1f:=mg_of X G a19
  d3g:=f20
  d2y:=_
  c2q:=a0h (st:=b9f) l20 c20 k20
  c8d:=(a0h (st:=b9f) l20 c20 k20).binds (ps:=["one","other"]) fun _ _ _ _ _ _ us hl=>by obtain⟨_,_,rfl⟩:=My.us2 hl;rfl
  c5i:=mg_of X G a20
  b6m:=f21
  b7g:=_
  c2u:=a0h (st:=a6u) l21 c21 k21
  d0r:=(a0h (st:=a6u) l21 c21 k21).binds (ps:=["spans","mid"]) fun _ _ _ _ _ _ us hl=>by obtain⟨_,_,rfl⟩:=My.us2 hl;rfl
  d0t:=mg_of X G a21
  a9z:=f22
  a9q:=_
  b4h:=a0h (st:=a3r) l22 c22 k22
  c4o:=(a0h (st:=a3r) l22 c22 k22).binds (ps:=["spans","mid"]) fun _ _ _ _ _ _ us hl=>by obtain⟨_,_,rfl⟩:=My.us2 hl;rfl
  c4j:=mg_of X G a22
  c0c:=f23
  b4i:=_
  c7k:=a0h (st:=a9f) l23 c23 k23
  d5m:=(a0h (st:=a9f) l23 c23 k23).binds (ps:=["kept","new"]) fun _ _ _ _ _ _ us hl=>by obtain⟨_,_,rfl⟩:=My.us2 hl;rfl
  d6d:=mg_of X G a23
  d2m:=f24
  d3b:=_
  e0a:=a0h (st:=b8v) l24 c24 k24
  e3o:=(a0h (st:=b8v) l24 c24 k24).binds (ps:=["kept","new"]) fun _ _ _ _ _ _ us hl=>by obtain⟨_,_,rfl⟩:=My.us2 hl;rfl
  e3p:=mg_of X G a24
  b6o:=f25
  b7c:=_
  d1o:=a0h (st:=a6g) l25 c25 k25
  d0y:=(a0h (st:=a6g) l25 c25 k25).binds (ps:=["self","number","program"]) fun _ _ _ _ _ _ us hl=>by obtain⟨_,_,_,rfl⟩:=My.us3 hl;rfl
  a7h:=f26
  a7k:=_
  b8h:=a0h (st:=a2n) l26 c26 k26
  a7e:=(a0h (st:=a2n) l26 c26 k26).binds (ps:=["self"]) fun _ _ _ _ _ _ us hl=>by obtain⟨_,rfl⟩:=My.us1 hl;rfl
  b6u:=f27
  b6z:=_
  d0p:=a0h (st:=a6n) l27 c27 k27
  d1z:=(a0h (st:=a6n) l27 c27 k27).binds (ps:=["self","stamp"]) fun _ _ _ _ _ _ us hl=>by obtain⟨_,_,rfl⟩:=My.us2 hl;rfl
  a5z:=f28
  a5r:=_
  b6f:=a0h (st:=a2i) l28 c28 k28
  b4o:=(a0h (st:=a2i) l28 c28 k28).binds (ps:=["self"]) fun _ _ _ _ _ _ us hl=>by obtain⟨_,rfl⟩:=My.us1 hl;rfl
  a5q:=f29
  a5u:=_
  b4l:=a0h (st:=a2g) l29 c29 k29
  b5f:=(a0h (st:=a2g) l29 c29 k29).binds (ps:=["self"]) fun _ _ _ _ _ _ us hl=>by obtain⟨_,rfl⟩:=My.us1 hl;rfl
  b2n:=f30
  b2m:=_
  c5g:=a0h (st:=a5j) l30 c30 k30
  d0d:=(a0h (st:=a5j) l30 c30 k30).binds (ps:=["self","key","value","stamp"]) fun _ _ _ _ _ _ us hl=>by obtain⟨_,_,_,_,rfl⟩:=My.us4 hl;rfl
  b6x:=f31
  b7i:=_
  d1x:=a0h (st:=a6m) l31 c31 k31
  d2c:=(a0h (st:=a6m) l31 c31 k31).binds (ps:=["self","end"]) fun _ _ _ _ _ _ us hl=>by obtain⟨_,_,rfl⟩:=My.us2 hl;rfl
  a9v:=f32
  a9y:=_
  c3z:=a0h (st:=a3y) l32 c32 k32
  c3j:=(a0h (st:=a3y) l32 c32 k32).binds (ps:=["self","phase","why"]) fun _ _ _ _ _ _ us hl=>by obtain⟨_,_,_,rfl⟩:=My.us3 hl;rfl
  c1l:=f33
  c1g:=_
  c5h:=a0h (st:=a8y) l33 c33 k33
  d4z:=(a0h (st:=a8y) l33 c33 k33).binds (ps:=["hold","low","high","own"]) fun _ _ _ _ _ _ us hl=>by obtain⟨_,_,_,_,rfl⟩:=My.us4 hl;rfl
  d6w:=mg_of X G a33
  b2p:=f34
  b3s:=_
  c8b:=a0h (st:=a4y) l34 c34 k34
  c5j:=(a0h (st:=a4y) l34 c34 k34).binds (ps:=["self"]) fun _ _ _ _ _ _ us hl=>by obtain⟨_,rfl⟩:=My.us1 hl;rfl
  a7c:=f35
  a7j:=_
  b8m:=a0h (st:=a2s) l35 c35 k35
  b8k:=(a0h (st:=a2s) l35 c35 k35).binds (ps:=["self","dealing","low","high","own"]) fun _ _ _ _ _ _ us hl=>by obtain⟨_,_,_,_,_,rfl⟩:=My.us5 hl;rfl
  b1n:=f36
  b2a:=_
  c9c:=a0h (st:=a5f) l36 c36 k36
  c6s:=(a0h (st:=a5f) l36 c36 k36).binds (ps:=["self","dealing","low","high","own"]) fun _ _ _ _ _ _ us hl=>by obtain⟨_,_,_,_,_,rfl⟩:=My.us5 hl;rfl
  b2i:=f37
  b3i:=_
  c6t:=a0h (st:=a4v) l37 c37 k37
  c6v:=(a0h (st:=a4v) l37 c37 k37).binds (ps:=["self","dealing"]) fun _ _ _ _ _ _ us hl=>by obtain⟨_,_,rfl⟩:=My.us2 hl;rfl
  b2x:=f38
  b2s:=_
  c8e:=a0h (st:=a5i) l38 c38 k38
  c6b:=(a0h (st:=a5i) l38 c38 k38).binds (ps:=["self","rows"]) fun _ _ _ _ _ _ us hl=>by obtain⟨_,_,rfl⟩:=My.us2 hl;rfl
  b6t:=f39
  b7n:=_
  d2d:=a0h (st:=a6s) l39 c39 k39
  d1v:=(a0h (st:=a6s) l39 c39 k39).binds (ps:=["self","stamp","dealing","drafts"]) fun _ _ _ _ _ _ us hl=>by obtain⟨_,_,_,_,rfl⟩:=My.us4 hl;rfl
  a8h:=f40
  a8r:=_
  c0a:=a0h (st:=a2x) l40 c40 k40
  c1m:=(a0h (st:=a2x) l40 c40 k40).binds (ps:=["self","key"]) fun _ _ _ _ _ _ us hl=>by obtain⟨_,_,rfl⟩:=My.us2 hl;rfl
  b2l:=f41
  b3w:=_
  c9f:=a0h (st:=a4z) l41 c41 k41
  b9m:=(a0h (st:=a4z) l41 c41 k41).binds (ps:=["self","rows","programs"]) fun _ _ _ _ _ _ us hl=>by obtain⟨_,_,_,rfl⟩:=My.us3 hl;rfl
  b3r:=f42
  b3n:=_
  c6r:=a0h (st:=a5e) l42 c42 k42
  b3v:=(a0h (st:=a5e) l42 c42 k42).binds (ps:=["self","number"]) fun _ _ _ _ _ _ us hl=>by obtain⟨_,_,rfl⟩:=My.us2 hl;rfl
  a9j:=f43
  a9p:=_
  c3o:=a0h (st:=a4b) l43 c43 k43
  c4h:=(a0h (st:=a4b) l43 c43 k43).binds (ps:=["self","numbers"]) fun _ _ _ _ _ _ us hl=>by obtain⟨_,_,rfl⟩:=My.us2 hl;rfl
  b2b:=f44
  b3e:=_
  c5p:=a0h (st:=a5b) l44 c44 k44
  c6d:=(a0h (st:=a5b) l44 c44 k44).binds (ps:=["self"]) fun _ _ _ _ _ _ us hl=>by obtain⟨_,rfl⟩:=My.us1 hl;rfl
  b7u:=f45
  b6g:=_
  d0v:=a0h (st:=a6v) l45 c45 k45
  d2f:=(a0h (st:=a6v) l45 c45 k45).binds (ps:=["self"]) fun _ _ _ _ _ _ us hl=>by obtain⟨_,rfl⟩:=My.us1 hl;rfl
  a9n:=f46
  a9r:=_
  c4k:=a0h (st:=a4a) l46 c46 k46
  b5g:=(a0h (st:=a4a) l46 c46 k46).binds (ps:=["self","number"]) fun _ _ _ _ _ _ us hl=>by obtain⟨_,_,rfl⟩:=My.us2 hl;rfl
  a8k:=f47
  a8g:=_
  c0g:=a0h (st:=a3h) l47 c47 k47
  b3l:=(a0h (st:=a3h) l47 c47 k47).binds (ps:=["self","number"]) fun _ _ _ _ _ _ us hl=>by obtain⟨_,_,rfl⟩:=My.us2 hl;rfl
  a4s:=f48
  a4u:=_
  b4a:=a0h (st:=a1y) l48 c48 k48
  a7z:=(a0h (st:=a1y) l48 c48 k48).binds (ps:=["self","number"]) fun _ _ _ _ _ _ us hl=>by obtain⟨_,_,rfl⟩:=My.us2 hl;rfl
  a8f:=f49
  a8i:=_
  c0y:=a0h (st:=a2w) l49 c49 k49
  b2z:=(a0h (st:=a2w) l49 c49 k49).binds (ps:=["self","number"]) fun _ _ _ _ _ _ us hl=>by obtain⟨_,_,rfl⟩:=My.us2 hl;rfl
  a9k:=f50
  b0a:=_
  c4i:=a0h (st:=a3x) l50 c50 k50
  c3n:=(a0h (st:=a3x) l50 c50 k50).binds (ps:=["self"]) fun _ _ _ _ _ _ us hl=>by obtain⟨_,rfl⟩:=My.us1 hl;rfl
  a8l:=f51
  a8p:=_
  c0f:=a0h (st:=a2y) l51 c51 k51
  a3g:=(a0h (st:=a2y) l51 c51 k51).binds (ps:=["self","number"]) fun _ _ _ _ _ _ us hl=>by obtain⟨_,_,rfl⟩:=My.us2 hl;rfl
  b1y:=f52
  b3c:=_
  c9d:=a0h (st:=a5k) l52 c52 k52
  b3a:=(a0h (st:=a5k) l52 c52 k52).binds (ps:=["self","deal","parts"]) fun _ _ _ _ _ _ us hl=>by obtain⟨_,_,_,rfl⟩:=My.us3 hl;rfl
  a6y:=f53
  a7f:=_
  b7z:=a0h (st:=a2p) l53 c53 k53
  b8d:=(a0h (st:=a2p) l53 c53 k53).binds (ps:=["self","deal"]) fun _ _ _ _ _ _ us hl=>by obtain⟨_,_,rfl⟩:=My.us2 hl;rfl
  b7d:=f54
  b7e:=_
  d1d:=a0h (st:=a6o) l54 c54 k54
  d1a:=(a0h (st:=a6o) l54 c54 k54).binds (ps:=["self","deal"]) fun _ _ _ _ _ _ us hl=>by obtain⟨_,_,rfl⟩:=My.us2 hl;rfl
  b0c:=f55
  b0b:=_
  c3q:=a0h (st:=a3v) l55 c55 k55
  c3t:=(a0h (st:=a3v) l55 c55 k55).binds (ps:=["self","deal","deed"]) fun _ _ _ _ _ _ us hl=>by obtain⟨_,_,_,rfl⟩:=My.us3 hl;rfl
  b3p:=f56
  b1x:=_
  c8l:=a0h (st:=a5c) l56 c56 k56
  c5z:=(a0h (st:=a5c) l56 c56 k56).binds (ps:=["self","deal"]) fun _ _ _ _ _ _ us hl=>by obtain⟨_,_,rfl⟩:=My.us2 hl;rfl
  b3b:=f57
  b2o:=_
  c5r:=a0h (st:=a5d) l57 c57 k57
  c7u:=(a0h (st:=a5d) l57 c57 k57).binds (ps:=["self","deal","low","high","own"]) fun _ _ _ _ _ _ us hl=>by obtain⟨_,_,_,_,_,rfl⟩:=My.us5 hl;rfl
  d3l:=f58
  d3y:=_
  a8u:=a0h (st:=b8u) l58 c58 k58
  b0h:=(a0h (st:=b8u) l58 c58 k58).binds (ps:=["_law_script","_law_k"]) fun _ _ _ _ _ _ us hl=>by obtain⟨_,_,rfl⟩:=My.us2 hl;rfl
  b0v:=mg_of X G a58
  e0i:=f59
  e0x:=_
  e4d:=a0h (st:=c8n) l59 c59 k59
  f2g:=(a0h (st:=c8n) l59 c59 k59).binds (ps:=["_law_cell_here","_law_k"]) fun _ _ _ _ _ _ us hl=>by obtain⟨_,_,rfl⟩:=My.us2 hl;rfl
  f1v:=mg_of X G a59
  b5v:=f60
  b4n:=_
  b9a:=a0h (st:=b9q) l60 c60 k60
  c2l:=(a0h (st:=b9q) l60 c60 k60).binds (ps:=["_law_found","_law_due"]) fun _ _ _ _ _ _ us hl=>by obtain⟨_,_,rfl⟩:=My.us2 hl;rfl
  c3g:=mg_of X G a60
  c1a:=f61
  c1o:=_
  c0p:=a0h (st:=a8w) l61 c61 k61
  c7g:=(a0h (st:=a8w) l61 c61 k61).binds (ps:=["_law_error"]) fun _ _ _ _ _ _ us hl=>by obtain⟨_,rfl⟩:=My.us1 hl;rfl
  c8v:=mg_of X G a61
  b7p:=f62
  b6i:=_
  c2c:=a0h (st:=a6e) l62 c62 k62
  d1r:=(a0h (st:=a6e) l62 c62 k62).binds (ps:=["_law_house","_law_way","_law_number"]) fun _ _ _ _ _ _ us hl=>by obtain⟨_,_,_,rfl⟩:=My.us3 hl;rfl
  d2a:=mg_of X G a62
  b6s:=f63
  b7a:=_
  c3e:=a0h (st:=a6f) l63 c63 k63
  d2h:=(a0h (st:=a6f) l63 c63 k63).binds (ps:=["_law_house","_law_numbers"]) fun _ _ _ _ _ _ us hl=>by obtain⟨_,_,rfl⟩:=My.us2 hl;rfl
  d2i:=mg_of X G a63
  b7h:=f64
  b7w:=_
  c2w:=a0h (st:=a6l) l64 c64 k64
  d1t:=(a0h (st:=a6l) l64 c64 k64).binds (ps:=["_law_programs","_law_at","_law_word"]) fun _ _ _ _ _ _ us hl=>by obtain⟨_,_,_,rfl⟩:=My.us3 hl;rfl
  d0w:=mg_of X G a64
  c1d:=f65
  c0e:=_
  c8z:=a0h (st:=a9a) l65 c65 k65
  d7l:=(a0h (st:=a9a) l65 c65 k65).binds (ps:=["_law_house","_law_programs","_law_begun"]) fun _ _ _ _ _ _ us hl=>by obtain⟨_,_,_,rfl⟩:=My.us3 hl;rfl
  d7a:=mg_of X G a65
  f1c:=fa
  e9r:=_
  f7p:=a0h (st:=d0i) l66 c66 k66
  f9c:=(a0h (st:=d0i) l66 c66 k66).binds (ps:=["_law_script"]) fun _ _ _ _ _ _ us hl=>by obtain⟨_,rfl⟩:=My.us1 hl;rfl
  f9e:=mg_of X G a66
  a2h:=ec0
  d9r:=mg_of X G e0
  a1p:=ec1
  c5s:=mg_of X G e1
  a0r:=ec2
  b9b:=mg_of X G e2
  a6a:=ec3
  e7p:=mg_of X G e3
  b0d:=ec4
  f2d:=mg_of X G e4
  a9h:=ec5
  f1y:=mg_of X G e5
  a5t:=ec6
  e5g:=mg_of X G e6
  a9l:=ec7
  f2m:=mg_of X G e7
  a1n:=ec8
  f1o:=mg_of X G e8
  a0m:=ec9
  f2b:=mg_of X G e9
  a1d:=ec10
  e6r:=mg_of X G e10
  a1t:=ec11
  e4f:=mg_of X G e11
  a0k:=ec12
  d9a:=mg_of X G e12
  d5r:=⟨mg_of X G e1,x0⟩
  c5l:=⟨mg_of X G e2,x1⟩
  e7b:=⟨d3a,a18,d3c,d4n⟩
  a1u:=⟨c9q,c8x,c6j,c7m⟩
  a1c:=b5d
  a8v:=b2e
  b2k:=b8s
  a6k:=c9r
  b2q:=b8r
  b4t:=c1z
  e5v:=⟨d2o,a25,d3x,d4q⟩
  a0q:=⟨c8f,c6y,c7r,d0b⟩
  a2d:=b4r
  a3e:=b9e
  a4e:=b9d
  a3b:=b9g
  a6b:=b8y
  a2k:=b9u
  a3d:=b9t
  b3t:=c8p
  b0g:=b4e
  a2e:=b5j
  b2f:=b9p
  b3m:=b9h
  a5s:=⟨a26,e5b,k26⟩
  c6f:=⟨a27,e8d,k27⟩
  b4b:=⟨a28,e7c,k28⟩
  b3y:=⟨a29,e7l,k29⟩
  c4l:=⟨a30,e5r,k30⟩
  c9y:=⟨a31,e4k,k31⟩
  c0h:=⟨a32,e6p,k32⟩
  e0z:=⟨c7j,a34,c5k,c7c⟩
  a8m:=⟨c2d,c2k,c3c,c2f⟩
  a3m:=b6b
  b6d:=⟨a35,e7f,k35⟩
  c4m:=⟨a36,e6y,k36⟩
  c3y:=⟨a37,e4l,k37⟩
  e0r:=⟨c9e,a38,c5n,c9l⟩
  b6h:=⟨c2x,c1u,c2g,c2o⟩
  a6z:=b4k
  c6g:=⟨a39,e8n,k39⟩
  b8o:=⟨a40,e7k,k40⟩
  d3s:=⟨c7f,a41,c8i,c5y⟩
  a0j:=⟨c2y,c2v,c3a,c2j⟩
  a7d:=b4m
  a7g:=b5h
  a4k:=b5c
  a4j:=b6c
  a1o:=b4p
  a1a:=a7y
  b0f:=⟨a42,e6f,k42⟩
  b9y:=⟨a43,e6s,k43⟩
  c3x:=⟨a44,e3s,k44⟩
  c9t:=⟨a45,e3u,k45⟩
  b3f:=⟨a46,e6v,k46⟩
  b0o:=⟨a47,e3q,k47⟩
  a6q:=⟨a48,e4i,k48⟩
  b0u:=⟨a49,e6g,k49⟩
  c0q:=⟨a50,e8c,k50⟩
  a2o:=⟨a51,e7j,k51⟩
  a9m:=⟨a52,e4e,k52⟩
  b6e:=⟨a53,e5q,k53⟩
  c5x:=⟨a54,e4r,k54⟩
  c1i:=⟨a55,e8f,k55⟩
  c3p:=⟨a56,e3w,k56⟩
  c4b:=⟨a57,e5j,k57⟩
  e1a:=⟨c8r,c7a,c8s⟩
  c0s:=⟨c2b,c2i,c1y,c2m⟩
  f0x:=d8p
  f1b:=d9z
  c1q:=⟨a4,mf4,k4⟩
  c0v:=⟨a5,mf5,k5⟩
  b5t:=⟨a6,mf6,k6⟩
  b4d:=⟨a7,mf7,k7⟩
  e5h:=⟨d4m,d2s,d2r⟩
  c6n:=⟨c5m,c7o,c5f,c9g⟩
  f3f:=e5o
  f3k:=e7v
  c3u:=⟨a8,mf8,k8⟩
  b8e:=⟨a9,mf9,k9⟩
  c3i:=⟨c3b,mf5,k5⟩
  b5u:=⟨b3g,mf7,k7⟩
  e5i:=⟨d2k,d2z,d3r⟩
  c6c:=⟨c5o,c9k,c9v,c7x⟩
  f3x:=e4y
  f3u:=e4u
  c4c:=⟨a10,mf10,k10⟩
  c4f:=⟨a11,mf11,k11⟩
  b8j:=⟨b4v,mf9,k9⟩
  b5i:=⟨b1w,mf7,k7⟩
  e0y:=⟨c9b,c7e,d0c⟩
  b9x:=⟨c3d,c2r,c2e,c2z⟩
  f0e:=d9l
  f0k:=d9u
  c1f:=⟨a12,mf12,k12⟩
  b4c:=⟨a13,mf13,k13⟩
  c0t:=⟨b8x,mf11,k11⟩
  b5y:=⟨b1o,mf9,k9⟩
  e7z:=⟨d3e,d2q,d3f⟩
  c8c:=⟨c8t,c7i,c7b,c7s⟩
  f3a:=e4v
  f2w:=e7q
  c4e:=⟨a14,mf14,k14⟩
  b8n:=⟨b6a,mf9,k9⟩
  c3w:=⟨c2a,mf5,k5⟩
  b5b:=⟨b2r,mf7,k7⟩
  tg:=tgx
  tt:=ttx
  b2t:=(e5n.mk a7p a7q a1l a1l).one
  b5r:=(e5n.mk b1c b1f a1l a4h).one
  b3q:=(e5n.mk a7u a7w a1l a3o).one
  b4x:=(e5n.mk a7p a7q a1v a4i).one
  a9d:=(e5n.mk b1c b1f a1v a1v).one
  a7v:=(e5n.mk a7u a7w a1v a4f).one
  b2y:=(e5n.mk a7p a7q a1k a3p).one
  a7n:=(e5n.mk b1c b1f a1k a4g).one
  a5w:=(e5n.mk a7u a7w a1k a1k).one
  a4c:=b3h
  d1p:=b9j
  b6y:=⟨b5s,b4j,b5l,b5a,b4y,b5z⟩
  a9t:=⟨b0t,b0w,b0k,b0n,b0r,b0q⟩
  b0e:=⟨mg_of X G e0,b0m,b0s,b0j⟩
  d1h:=c7y
  c3k:=b8w
  a7x:=ca0
  c3r:=mg_of X G n0
  c4d:=fun _=>.inr ⟨_,_,_,q0,rfl,rfl,(by show 2≤sizeLine;decide),(.cons ⟨_,rfl⟩ (.cons ⟨_,rfl⟩ .nil))⟩
  c9i:=ca1
  e8b:=mg_of X G n1
  e6i:=fun _=>.inr ⟨_,_,_,q1,rfl,rfl,(by show 3≤sizeLine;decide),(.cons ⟨_,rfl⟩ (.cons ⟨_,rfl⟩ (.cons ⟨_,rfl⟩ .nil)))⟩
  c0r:=ca2
  e0l:=mg_of X G n2
  e1h:=fun _=>.inr ⟨_,_,_,q2,rfl,rfl,(by show 2≤sizeLine;decide),(.cons ⟨_,rfl⟩ (.cons ⟨_,rfl⟩ .nil))⟩
  a4n:=ca3
  d5g:=mg_of X G n3
  d6i:=fun _=>.inr ⟨_,_,_,q3,rfl,rfl,(by show 3≤sizeLine;decide),(.cons ⟨_,rfl⟩ (.cons ⟨_,rfl⟩ (.cons rfl .nil)))⟩
  e7r:=_
  e5z:=mg_of X G n4
  a7t:=mg_none_of X G a7t
  e9l:=mg_none_of X G e9l
  e9z:=mg_none_of X G e9z
  d6m:=mg_none_of X G d6m
  b1u:=mg_none_of X G b1u
  e6j:=mg_none_of X G e6j
  a0v:=mg_none_of X G a0v
  b0z:=mg_none_of X G b0z
  b1k:=mg_none_of X G b1k
  e9w:=mg_none_of X G e9w
  e5l:=mg_none_of X G e5l
  b9l:=mg_none_of X G b9l
  a9o:=mg_none_of X G a9o
  e7m:=mg_none_of X G e7m
  b9i:=mg_none_of X G b9i
  f1e:=mg_none_of X G f1e
  lc:=lcc
  lp:=lpp
  lcd:=rfl
  lch:=lkh}
 exact⟨fnOf "law" "law" (a0p d0i) (a0l d0i) (a0c d0i) .none kV66 dc66 pm66 an66 cd66 ct66,lcc,lpp,fun s v=>.of_eq rfl,lkm,lkn,lkh,fun base _ _=>f6f T⟩
theorem walk {l:PySem.W.OpenLaw} {q:Program} {loose:List Str} {XP:(Str→Option Value)→Heap→Prop} {YP:World→Heap→Prop} {d:DefRec} {K:Params→PySem.W.Frag} {ts:List Addr} (hn:l.most=some 63) (hdf:d.params.defaults=[])
  (hY:∀ (w:World) (h:Heap),YP w h→(K w.params).In h∧∀ P∈ts,h.get? P=some (PySem.W.tabObj #[]))
  (F:∀ (w:World) (mg:Str→Option Value) (fa:Addr) (h:Heap),(K w.params).In h→h.Ns mainGlobals mg→mg d.name=some (.ref fa) →
   ∃ (fd:FuncData) (c0 P0:Addr),(∀ (s:Shared) (u:Value),BindsTo s fd ⟨[u],[]⟩ [("_law_script",u)])∧P0∈ts∧(K w.params).lookup P0=none∧PySem.W.codeHdIn (K w.params) c0 P0=true∧∀ base:Heap,(K w.params).In base→base.Ns mainGlobals mg→a2j l.prog w (K w.params) mg base CX0 14 fa fd ["_law_script"] (e9p (K w.params) mg P0 base)) :
  PySem.W.WalkO q loose XP YP l.row.toRowW d [] (fun f vs=>PySem.call f vs) :=
 My.f0i (n:=63) (k:=14) (x:="_law_script") (CX:=fun _=>CX0) (sp:=fun w mg P0 base=>e9p (K w.params) mg P0 base) hn (by decide) hdf ⟨rfl,by decide,by decide⟩ hY F (fun _ _ _ _ _ a ns hl hb h1 h2 hS=>⟨a,ns,rfl,hS,hl,hb,h1,h2,fun _=>rfl⟩) fun _ _ _ _ _ z=>z
end Lw
namespace PySem.W.Fast
def tw8264417618946577462:=0
def tw12006023343203523140:=0
def tw10542929821927608667:=0
def tw9220009394142796089:=0
def tw12176405886186912218:=0
def tw11224013183601552980:=0
def tw16032077817043784625:=0
def tw10393976650458245755:=0
def tw7911407732720428100:=0
def tw88815996353794257:=0
def tw14505184577009476438:=0
def tw10433323080645520365:=0
def tw15760952099492753264:=0
def tw9075966179970488797:=0
def tw1000998347349507363:=0
def tw130927989445837440:=0
def tw4978302700572233789:=0
def tw10475531757584138984:=0
def tw11282733621756195103:=0
def tw1658395491920273862:=0
def tw483138834474193868:=0
def tw16502351247079883824:=0
def tw12144287602294399928:=0
def tw4376333770151105121:=0
def tw668044120117008521:=0
def tw5827372599730414017:=0
def tw5281677311411594537:=0
def tw7406124479448185876:=0
def tw17780546797954744638:=0
def tw15429867049778405229:=0
def tw6456352939899678626:=0
def tw13043417399393920038:=0
def tw18144065418311273481:=0
def tw7818229663218485205:=0
def tw14343658860170052831:=0
def tw1022978888999867012:=0
def tw17961177785382517983:=0
def tw1969095261047957896:=0
def tw2109171440985008574:=0
def tw16076371550163139902:=0
def tw2887731400695227639:=0
def tw7072968647516759745:=0
def tw16147571392744016833:=0
def tw16349154704789794097:=0
def tw14691885623543560359:=0
def tw2471584855997906920:=0
def tw12950865163193187806:=0
def tw16902411055958171073:=0
def tw9567453319395397246:=0
def tw16006211810810208888:=0
def tw856545607042595549:=0
def tw17176187067451658960:=0
def tw1323095047639972669:=0
def tw15824665986298731764:=0
def tw9828143863958670447:=0
def tw6010783441268179913:=0
def tw10958882020460758325:=0
def tw16583352604997587721:=0
def tw6170555861090809550:=0
def tw16446335168159577254:=0
def tw981922842756814872:=0
def tw11764205460973680602:=0
def tw2893549221459297200:=0
def tw13987323963646809263:=0
def tw7892744636002295717:=0
def tw10528015771188575466:=0
def tw7384853562273830628:=0
def tw5808174883706938990:=0
def tw16075356885857543339:=0
def tw14819082142931890186:=0
def tw1819655432390775817:=0
def tw5423579819364698324:=0
def tw15031067509209899021:=0
def tw253575373612064553:=0
def tw14635017057469348561:=0
def tw12393026393860318565:=0
def tw3087109604431212897:=0
def tw7281807859361778077:=0
def tw1200069723480331113:=0
def tw7709073598720627257:=0
def tw11870740311895027856:=0
def tw9567546119435700445:=0
def tw9566273353455065623:=0
def tw18058821158123502070:=0
def tw16976457586280803471:=0
def tw12664098714746600843:=0
def tw15558676938386825781:=0
def tw17186116693409133063:=0
def tw5771268823254067330:=0
def tw11628532171113125079:=0
def tw10991413507360408546:=0
def tw1283156892313979884:=0
def tw9655020698968997253:=0
def tw5316567697047943798:=0
def tw17316143413756963446:=0
def tw12158580768328619558:=0
def tw2260889410685879375:=0
def tw4279363973109030078:=0
def tw11929945192090062024:=0
def tw12618188626847142317:=0
def tw14960873354335375577:=0
def tw7673465489376746463:=0
def tw14856131374626492590:=0
def tw6769721078977371105:=0
def tw9620467718954120544:=0
def tw14650182730082706272:=0
def tw10318003818152951161:=0
def tw15724218845670814710:=0
def tw7960571409580364860:=0
def tw3081987429484863422:=0
def tw17836140002217885182:=0
def tw10145558451966296557:=0
def tw11962102571220923526:=0
def tw2109911957734820972:=0
def tw6135760022792973200:=0
def tw9757421430430041138:=0
def tw5128128248331873060:=0
def tw16266503344817281482:=0
def tw5440731984242648279:=0
def tw16791429140360761045:=0
def tw9288017109433951338:=0
def tw3663590431790435553:=0
def tw10496814929252440475:=0
def tw1287274558224871014:=0
def tw17329051192121215086:=0
def tw1197151021207451153:=0
def tw5439297444464229430:=0
def tw16539473122345066094:=0
def tw17423003943596864652:=0
def tw8924191121582267259:=0
def tw10072165831559978952:=0
def tw11704260400110889366:=0
def tw17488438051416643823:=0
def tw6366010695016278768:=0
def tw11282697554645107841:=0
def tw16176742349926607542:=0
def tw7910043521077931993:=0
def tw14690105151068428581:=0
def tw10195949191434440417:=0
def tw5294900386434083502:=0
def tw12085346851737433301:=0
def tw5373807762724220315:=0
def tw109756040817173869:=0
def tw17794749127024163363:=0
def tw14813785353288997862:=0
def tw1743400623124259662:=0
def tw857556602022601235:=0
def tw13942649027043691464:=0
def tw9836965076957566996:=0
def tw16168832716049216715:=0
def tw711381911241634923:=0
def tw4564564999075281518:=0
def tw2321189682678413068:=0
def tw13497566564553630316:=0
def tw4699605530185036377:=0
def tw8382431439651434113:=0
def tw4735742246912232383:=0
def tw3517465820690490319:=0
def tw13771057254758537553:=0
def tw10797221692834202435:=0
def tw9132302426733065683:=0
def tw2945119167957530246:=0
def tw12658415624579218370:=0
def tw4947957091849680455:=0
def tw555255178995389849:=0
def tw11418445813660812664:=0
def tw12089835125468517519:=0
def tw17486798046449524529:=0
def tw11472806751244786552:=0
def tw1913292402078467766:=0
def tw16136956557535322600:=0
def tw1714906194979396975:=0
def tw5040520880574877887:=0
def tw5095294002404835644:=0
def tw15320949402883316640:=0
def tw9229443344632515425:=0
def tw12462503670831239551:=0
def tw2082988493653695480:=0
def tw9771234753190314025:=0
def tw4404028576479358451:=0
def tw9460700518192191244:=0
def tw3348619674924991981:=0
def tw8014108126157284471:=0
def tw7771137222173514834:=0
def tw18252928792827929114:=0
def tw6245252912160558954:=0
def tw14661050972104471505:=0
def tw10335039960355166723:=0
def tw9640185560673697530:=0
def tw17517769535358777120:=0
def tw2928496539830699894:=0
def tw9893523125842745609:=0
def tw3145782335991426818:=0
def tw1717356334672229985:=0
def tw2445323123207539514:=0
def tw15499135406246576582:=0
def tw965130234403035166:=0
def tw6089146241490184806:=0
def tw11426856039808034344:=0
def tw10960947375486575888:=0
def tw9870683765294764523:=0
def tw13888579281746351920:=0
def tw17488029289554159730:=0
def tw14345901032822669430:=0
def tw11382115950239245771:=0
def tw1066930847790112989:=0
def tw10807228153955178758:=0
def tw5869428063837496465:=0
def tw15946163500398149318:=0
def tw4284335432437271485:=0
def tw13504325550777270273:=0
def tw1190589079268754832:=0
def tw17781943734518473205:=0
def tw10849529490902117317:=0
def tw13266255504288428245:=0
def tw11072610997386893912:=0
def tw5624498827057994227:=0
def tw16825304449881261392:=0
def tw9759601263671579220:=0
def tw714837986903622656:=0
def tw7399528487564491581:=0
def tw7435045842771411023:=0
def tw5541956294699590712:=0
def tw13960047161560596215:=0
def tw14589722650475261386:=0
def tw6207011595272882661:=0
def tw4153911862587386026:=0
def tw9541213841896365682:=0
def tw1672660498391325435:=0
def tw8189316022272927357:=0
def tw11641952406866553366:=0
def tw9923480573135090461:=0
def tw13723811187754721178:=0
def tw3795061179452039073:=0
def tw2655639678595653409:=0
def tw1232494466322154720:=0
def tw10310986875797840112:=0
def tw7039622604122269669:=0
def tw11269458894010033849:=0
def tw6841775995701059487:=0
def tw4157153989094890612:=0
def tw4508677518234462983:=0
def tw15563917244437936466:=0
def tw16067298543447006870:=0
def tw12515690780283395370:=0
def tw1807345174253603021:=0
def tw6935846504018825726:=0
def tw8926512879106070594:=0
def tw643115960489634911:=0
def tw902186110944370217:=0
def tw4352765316610262594:=0
def tw2494332714515151823:=0
def tw16653881917684315343:=0
def tw17493348257884272376:=0
def tw8646616382756330207:=0
def tw13444922956292644251:=0
def tw14053230741893060339:=0
def tw10043871620195427291:=0
def tw8826484779697411212:=0
def tw16192763673368636903:=0
def tw5191665703181240453:=0
def tw13269570717399400696:=0
def tw7550492494828462193:=0
def tw17802521905594844805:=0
def tw17856952841132522690:=0
def tw9836482319605440666:=0
def tw367861823139513100:=0
def tw6582239069276340001:=0
def tw16468736862174636879:=0
def tw18326821194467458342:=0
def tw3389580151116195240:=0
def tw15627642103880630595:=0
def tw5756127490822583588:=0
def tw10403479725901646902:=0
def tw11472082477175259797:=0
def tw582485480812566591:=0
def tw15874084556948240506:=0
def tw11169550598113152848:=0
def tw4031389332590549683:=0
def tw2976252287417820122:=0
def tw789877657095165567:=0
def tw10673898272967268477:=0
def tw9455252466394043358:=0
def tw7889668838471041161:=0
def tw7324557498340863738:=0
def tw6278964082701134487:=0
def tw13700606792431005954:=0
def tw12080169181996933236:=0
def tw772706278379695992:=0
def tw10064759151034606621:=0
def tw1657402888564737236:=0
def tw15443750236038018064:=0
def tw8857329475759191967:=0
def tw10162651579565131559:=0
def tw13445415119199410007:=0
def tw7712362440780503325:=0
def tw285443878261690424:=0
def tw14761349305232724823:=0
def tw13723693142312724756:=0
def tw5270654989937897603:=0
def tw991102183371285873:=0
def tw12490241484375708651:=0
def tw16016368247289284435:=0
def tw1860974577122315276:=0
def tw8774957898673411735:=0
def tw266968614220763894:=0
def tw13903890966046832880:=0
def tw10553483645221290902:=0
def tw8883078888865099793:=0
def tw4328665140422276655:=0
def tw5037166882266539672:=0
def tw9822915725212563103:=0
def tw17650172181674197537:=0
def tw6598414648563423848:=0
def tw13909953222919028269:=0
def tw503279386048838826:=0
def tw6614980578765772615:=0
def tw16154740791058432525:=0
def tw4502149005114733666:=0
def tw3589651918141493582:=0
def tw4584400125213808027:=0
def tw15327193229421125446:=0
def tw4920507450965108571:=0
def tw2053608166709542026:=0
def tw4802287751571511799:=0
def tw10649810913439539580:=0
def tw1543746175903091728:=0
def tw9788434737557954872:=0
def tw918345999440209326:=0
def tw17956885942509863313:=0
def tw14306968211664622455:=0
def tw8997966211162455596:=0
def tw8616486462973220721:=0
def tw182702999791830343:=0
def tw7802191872109246121:=0
def tw8039903900498431795:=0
def tw12681190831109685258:=0
def tw4137779630688431526:=0
def tw15923500826946439936:=0
def tw6640570923948621018:=0
def tw4046397806628895916:=0
def tw4777738595797668525:=0
def tw10113855842546808223:=0
def tw17270411200381961632:=0
def tw10260685990063764001:=0
def tw17814052418692725837:=0
def tw15657879179818167851:=0
def tw11173077268771115729:=0
def tw11388251786703958336:=0
def tw15204092792152318885:=0
def tw15052002317641447320:=0
def tw14082342242186549454:=0
def tw2908141986131004580:=0
def tw6118940058356990540:=0
def tw16310894881939267382:=0
def tw5791089240587490175:=0
def tw603153587585323161:=0
def tw2641726032097266650:=0
def tw2775809027791976809:=0
def tw14122946513951637930:=0
def tw1076502612599112295:=0
def tw8978334274110083169:=0
def tw6725222521202402072:=0
def tw15206995693727935284:=0
def tw10670358675554880252:=0
def tw4261656067315975508:=0
def tw2043445530597161809:=0
def tw14366623347545295012:=0
def tw9878229006366184680:=0
def tw11716480961542337231:=0
def tw15253248260066578699:=0
def tw17003558100879033893:=0
def tw11454695153311049288:=0
def tw6344902962089850384:=0
def tw11801778897750762796:=0
def tw5197082096578713037:=0
def tw6904059276517561250:=0
def tw14648556919888803756:=0
def tw10718556142614422239:=0
def tw12326842786484993340:=0
def tw13205387556009641983:=0
def tw3606685495434099352:=0
def tw14346087839445963310:=0
def tw12260897783921749618:=0
def tw17741373507274080560:=0
def tw16348865960512885735:=0
def tw12300966054768378717:=0
def tw7588121801548849752:=0
def tw9153232280635318904:=0
def tw2519223063217233558:=0
def tw18254251862348630220:=0
def tw13904638763569651224:=0
def tw16004212058272241147:=0
def tw10931955384765663760:=0
def tw15577156169694779887:=0
def tw6856745969473021890:=0
def tw6428993040795591912:=0
def tw11633989520055041157:=0
def tw3763424077590567592:=0
def tw12919474847297135192:=0
def tw3543073912756613238:=0
def tw7640590331535637503:=0
def tw1744149361354868824:=0
def tw12529494507089774579:=0
def tw5699894440351660805:=0
def tw16972926172677457552:=0
def tw7476116709281746193:=0
def tw4051548412338386521:=0
def tw8834756520374655942:=0
def tw2000760333628171258:=0
def tw982825440265610249:=0
def tw11145435700689998463:=0
def tw16447454005857349939:=0
def tw2868544656305698511:=0
def tw3722100514299536326:=0
def tw14383199403573789805:=0
def tw11317207635417776752:=0
def tw10570084578318609753:=0
def tw3412193866120346271:=0
def tw10191052070827634297:=0
def tw6630054100103530672:=0
def tw5643905653310042077:=0
def tw16656827653236952033:=0
def tw4590432040516832534:=0
def tw17077684589326814774:=0
def tw10799392023872912867:=0
def tw1279626179310552056:=0
def tw13769458878626250110:=0
def tw16370123017475877256:=0
def tw7535433439896890517:=0
def tw11101716316504628109:=0
def tw14603259597646984291:=0
def tw16517627031772094292:=0
def tw18027906513581989904:=0
def tw8283038893943319288:=0
def tw16940128086065781915:=0
def tw3531612817671971271:=0
def tw643457931258894020:=0
def tw6947035853777015648:=0
def tw7644151770095676212:=0
def tw15097570520313902817:=0
def tw2064901833756735211:=0
def tw17791288808588466190:=0
def tw9971907121848440024:=0
def tw9045163906088695536:=0
def tw5154821541355744258:=0
def tw548685608732455876:=0
def tw9392917648540425172:=0
def tw12933429381127469318:=0
def tw7488104497025013004:=0
def tw16321998565900667491:=0
def tw4392225910252676286:=0
def tw16495506124824177823:=0
def tw10632131567935197431:=0
def tw17243020735154305200:=0
def tw744587842361657191:=0
def tw8332253765454185409:=0
def tw1733814317083708324:=0
def tw4369187259671033253:=0
def tw7264168464295552584:=0
def tw14365992675042274169:=0
def tw17387073401827077606:=0
def tw7072983439382616748:=0
def tw15058458724388577506:=0
def tw6934211237396268964:=0
def tw6490162728064211266:=0
def tw2273959264711783094:=0
def tw14457686449893275058:=0
def tw2911525332541626656:=0
def tw4661492083421632745:=0
def tw6488352054625464459:=0
def tw16165280482254208633:=0
def tw10342536950998081616:=0
def tw16341787116022654130:=0
def tw5728056586230547239:=0
def tw6250218010975471929:=0
def tw8775317358435883193:=0
def tw7822271485630882262:=0
def tw9356401856292051434:=0
def tw1758112085443330121:=0
def tw12417000037009987342:=0
def tw5590181155658241105:=0
def tw8941798475719177380:=0
def tw6372877258300093831:=0
def tw13350726037902886906:=0
def tw4605462535859287190:=0
def tw14944873566124450959:=0
def tw268923592441607141:=0
def tw12378541484825530128:=0
def tw4656589308555710724:=0
def tw4677648190688512565:=0
def tw17734884243809733376:=0
def tw5260278566037907614:=0
def tw10145794845539618331:=0
def tw9812868505832312008:=0
def tw1115228290507939982:=0
def tw15712392088020212888:=0
def tw16382502635933683840:=0
def tw10550442691144981105:=0
def tw2980208534301472661:=0
def tw6164363626530920768:=0
def tw16772693758948866286:=0
def tw5660032096901953665:=0
def tw3293192380587675981:=0
def tw3518561082917929823:=0
def tw9600329317263406838:=0
def tw6094462487293130034:=0
def tw15305842191151678073:=0
def tw13130826202026673401:=0
def tw9685069795809105225:=0
def tw17338360441886247030:=0
def tw1327936454815081461:=0
def tw705364673263344915:=0
def tw2169262264838948737:=0
def tw12737642029828346360:=0
def tw11584319144005807647:=0
def tw15606911488077436925:=0
def tw2478644985369091756:=0
def tw14713468317921041821:=0
def tw9988018556878201176:=0
def tw16538887953135272417:=0
def tw13288581132485699714:=0
def tw3664362443524872913:=0
def tw4711708937586601365:=0
def tw6686374970977857005:=0
def tw3061981111587680911:=0
def tw204690075290753972:=0
def tw9609801063245404055:=0
def tw2803458327635117950:=0
def tw8601121339507423608:=0
def tw17617751522804627143:=0
def tw1351780982834113418:=0
def tw7547423854795292455:=0
def tw17603128844325263962:=0
def tw14439803480526634422:=0
def tw15559507621504139310:=0
def tw17847616445064776678:=0
def tw9288005382005776059:=0
def tw9495639051728321171:=0
def tw16333295196067172987:=0
def tw14488185520804424993:=0
def tw3584895968423413009:=0
def tw8618770113929528595:=0
def tw13432654456960585321:=0
def tw12820075122017826241:=0
def tw5598004157721865340:=0
def tw15799988368031582440:=0
def tw936298786567435055:=0
def tw4391139808887126746:=0
def tw3958073595290404534:=0
def tw14368348450620097579:=0
def tw10492032371144682968:=0
def tw16072074354985762652:=0
def tw15108774408343290663:=0
def tw1449685863684216440:=0
def tw6422892828868768920:=0
def tw15171303905040565250:=0
def tw803327020648859626:=0
def tw14677422415237483405:=0
def tw13379564794904327289:=0
def tw1951140915843982255:=0
def tw1018105728259381709:=0
def tw2213382082944759529:=0
def tw4167253743820761479:=0
def tw8901814772957968345:=0
def tw16937730293522535217:=0
def tw7848515578609187397:=0
def tw17821385667090468859:=0
def tw16104752063273965256:=0
def tw15670914793629426521:=0
def tw1643774996775538098:=0
def tw8724246994100637189:=0
def tw13463447887785831827:=0
def tw12189761008622588811:=0
def tw8782986202255378955:=0
def tw15448934648978585022:=0
def tw5966695850757601215:=0
def tw1707841006363043567:=0
def tw1949030013286128864:=0
def tw6841313083031560951:=0
def tw9462078553473234355:=0
def tw5140659182643393114:=0
def tw2000564548946875293:=0
def tw14560507332630193985:=0
def tw6812501908633089654:=0
def tw3152604374886694003:=0
def tw10097099513145002090:=0
def tw8449636431170002665:=0
def tw10030344927172615817:=0
def tw15714639430772876853:=0
def tw24240255582688959:=0
def tw162457132058369950:=0
def tw5617642668599283956:=0
def tw3130873333686992302:=0
def tw3723441468551264640:=0
def tw18245785517633627577:=0
def tw12020100984027720419:=0
def tw5203943874060036849:=0
def tw12625274271517577525:=0
def tw10431291084486360219:=0
def tw456577015298291361:=0
def tw6345270061368560466:=0
def tw1596840561911891168:=0
def tw14426643026806028867:=0
def tw15206338040479424259:=0
def tw18016437105333525492:=0
def tw12728756773589923193:=0
def tw8012090142164233981:=0
def tw8777226597197842593:=0
def tw18116682199919187836:=0
def tw4147776170708277980:=0
def tw14163324806632427285:=0
def tw10971847500997703864:=0
def tw208957629727232949:=0
def tw6673984222203440639:=0
def tw9718995498523163312:=0
def tw4596007078537262785:=0
def tw13708388058605235717:=0
def tw4860764977696506772:=0
def tw3407083012062407322:=0
def tw4215600155527220946:=0
def tw15378577529798134877:=0
def tw3856923194343403686:=0
def tw13112791256837455296:=0
def tw5593501595603736088:=0
def tw9761236049081075629:=0
def tw3429395306264662695:=0
def tw192327038356737581:=0
def tw3382365660283562351:=0
def tw6191449806373388900:=0
def tw17543925456088046200:=0
def tw8061528433099857627:=0
def tw171113836530797889:=0
def tw3561589417659506916:=0
def tw6494129718877182634:=0
def tw13216727131801407274:=0
def tw14333788370613669111:=0
def tw18358708767382691280:=0
def tw6304642860389387366:=0
def tw11649715160904638381:=0
def tw18356845573201005924:=0
def tw4909568200750984591:=0
def tw5565019770179585674:=0
def tw967572263169309617:=0
def tw13698702599341687808:=0
def tw11540816082428586751:=0
def tw5059147390158074562:=0
def tw8578980314834563918:=0
def tw10819774829426231190:=0
def tw13769816440450167965:=0
def tw7229821012433914094:=0
def tw2282269337558131175:=0
def tw9854592286458066206:=0
def tw10147195945331484807:=0
def tw4621785428146135720:=0
def tw2315542572170913382:=0
def tw15049766315529860358:=0
def tw2567602933389202031:=0
def tw12221816606485302581:=0
def tw11847782294738667111:=0
def tw3923655112010207089:=0
def tw15775839513172131592:=0
def tw17846359176018941126:=0
def tw6967182138574800428:=0
def tw13650745306932538973:=0
def tw13602222847572588907:=0
def tw8979344104797869075:=0
def tw17991888435042802542:=0
def tw14056396994518972340:=0
def tw9505022457746491968:=0
def tw15376260283375869376:=0
def tw18394522247485235435:=0
def tw15728911409131386602:=0
def tw15126361719811078397:=0
def tw2333147884932136805:=0
def tw5176030425377394905:=0
def tw11716257367563000813:=0
def tw13016654713553705098:=0
def tw13624526987690496876:=0
def tw13268735201377291888:=0
def tw10401904168993606510:=0
def tw5582509230256015821:=0
def tw12760084481919618781:=0
def tw9302619584304767012:=0
def tw6580355818509055144:=0
def tw11537935413137692334:=0
def tw2374856915860685203:=0
def tw6226785397335965859:=0
def tw4191759965587017683:=0
def tw16707055400031979052:=0
def tw4556639822426442141:=0
def tw4215857264940636831:=0
def tw13561758841710048172:=0
def tw7913168601591331028:=0
def tw8229371537986782809:=0
def tw10751761514476330526:=0
def tw6092260485596133524:=0
def tw8805237227678148538:=0
def tw3805543969060468908:=0
def tw4437919677028109486:=0
def tw14051878798488770470:=0
def tw2487484410782935490:=0
def tw15269970573551305153:=0
def tw6829461433534640821:=0
def tw13418711181017660733:=0
def tw8368903757843578633:=0
def tw3316229039449835154:=0
def tw650674342716558346:=0
def tw13246252946814279317:=0
def tw13916956841012168301:=0
def tw12131479836898717054:=0
def tw1386691282633302359:=0
def tw554229096217109011:=0
def tw860016010880215755:=0
def tw16302692979751952703:=0
def tw6752016704128460967:=0
def tw6402646894142378946:=0
def tw4112346625295945613:=0
def tw8504174210450536841:=0
def tw3296047778582876296:=0
def tw7802700129534807529:=0
def tw14480587849437484660:=0
def tw5608615422635183246:=0
def tw8883694394425242178:=0
def tw9078902524273132080:=0
def tw4904756689387817016:=0
def tw13164605471452885817:=0
def tw3846841600395772498:=0
def tw15236084177875983358:=0
def tw14812742255603822045:=0
def tw4384260167740478907:=0
def tw18072482225557777068:=0
def tw16289831973692480044:=0
def tw17924373334613527265:=0
def tw11498805555727129560:=0
def tw10514078143757724741:=0
def tw12487844782570268790:=0
def tw2142616454482535554:=0
def tw2927561686603852891:=0
def tw17344718251533880992:=0
def tw3737016422158825068:=0
def tw13715771920938549462:=0
def tw11870335432696058651:=0
def tw6009919805286823254:=0
def tw7215727204405117923:=0
def tw16100002498699870874:=0
def tw1254710532697270929:=0
def tw653020816596137314:=0
def tw13591517686566975539:=0
def tw8131499267162517300:=0
def tw354391362101629491:=0
def tw11320263331104561373:=0
def tw12468659910072106513:=0
def tw18433663608192322893:=0
def tw15010375826557949520:=0
def tw10479107409855419606:=0
def tw6111622172742456994:=0
def tw7478532856760160482:=0
def tw6644898598774139547:=0
def tw13708142990290552424:=0
def tw356774096218518384:=0
def tw2270668624929808968:=0
def tw9008747644344121168:=0
def tw5003401499131285382:=0
def tw3628668409176693757:=0
def tw6712098352405747389:=0
def tw5358967234369839763:=0
def tw2569390962026229063:=0
def tw6271779974064974677:=0
def tw445998045094085120:=0
def tw8660354867852641912:=0
def tw4556523724937317351:=0
def tw16567818700909732217:=0
def tw2911764962988824968:=0
def tw14634984812934287007:=0
def tw14863784362561021252:=0
def tw3105174287787594035:=0
def tw10440184851176253497:=0
def tw14402474973934868930:=0
def tw14445169237114040965:=0
def tw10433989326066312715:=0
def tw3720627696256255322:=0
def tw6581398857508913022:=0
def tw3354309689000596862:=0
def tw12969643242910980004:=0
def tw3890481301317782730:=0
def tw6995111797853709961:=0
def tw17440282431517952703:=0
def tw7483691817605899577:=0
def tw14322787037469518815:=0
def tw4340021010804364210:=0
def tw3735045771967041020:=0
def tw10946867634132805706:=0
def tw7128386149484855796:=0
def tw15067919315145158560:=0
def tw5344891317174680201:=0
def tw11315040158961141565:=0
def tw1850371906880253046:=0
def tw1208496160149937855:=0
def tw1609104724453495294:=0
def tw11474273234595627183:=0
def tw9059014684279112379:=0
def tw12105519752102883178:=0
def tw2929318251073554508:=0
def tw3762745206296721883:=0
def tw17329807420877735712:=0
def tw196294555161522664:=0
def tw1200591941235565607:=0
def tw3682893284911186961:=0
def tw1446709322684819564:=0
def tw1478901546573957682:=0
def tw12167135006708091710:=0
def tw10346252420155371021:=0
def tw8280635543739500538:=0
def tw6438439399466015595:=0
def tw1816566956222979555:=0
def tw4328658408043012657:=0
def tw18223720635296181379:=0
def tw13236627374681661889:=0
def tw14237156689191710242:=0
def tw6775318159882351293:=0
def tw6194149750233463669:=0
def tw7528474922072817084:=0
def tw6513763815720580843:=0
def tw10129803742920135867:=0
def tw2389042607215545204:=0
def tw13817921663039401560:=0
def tw4611022597577610674:=0
def tw13882589053536890898:=0
def tw14800643901571449551:=0
def tw7596334589519246378:=0
def tw7550450527020040730:=0
def tw12005138786278944111:=0
def tw8493616970542512984:=0
def tw4612582984978813724:=0
def tw7486745540648568470:=0
def tw3888078698370420538:=0
def tw10276853145368790116:=0
def tw15392499784086675752:=0
def tw10588935935767834600:=0
def tw4750787457718591647:=0
def tw18267171480776409154:=0
def tw14261888245773341239:=0
def tw7962732987619865994:=0
def tw7138585234008199305:=0
def tw8865897029126181305:=0
def tw8570031554092683631:=0
def tw6680273239438171021:=0
def tw8783943296611255835:=0
def tw12651062398825641318:=0
def tw11350019834879976622:=0
def tw7381013133603585709:=0
def tw2289005147076579524:=0
def tw15222519624468201224:=0
def tw4657581926551908085:=0
def tw4881949394172352037:=0
def tw13376959951841897636:=0
def tw3733033198238113025:=0
def tw2303253903727884069:=0
def tw252821731191514435:=0
def tw840066441870249546:=0
def tw3032645634352077446:=0
def tw14311935224079047205:=0
def tw6871806589447216685:=0
def tw15037937953570753656:=0
def tw8373257002487956914:=0
def tw17756961553265804039:=0
def tw6104756871568690954:=0
def tw11361524294367215096:=0
def tw13514049043113968696:=0
def tw9600650331822903348:=0
def tw15446169667272511493:=0
def tw6093866759581602622:=0
def tw16707751843232123917:=0
def tw13465211200229161627:=0
def tw10092791721095766556:=0
def tw2048139834520652992:=0
def tw7404281155643307289:=0
def tw12369860083233011817:=0
def tw2112160603289015206:=0
def tw9691007532341490415:=0
def tw2549069390411951487:=0
def tw15491610493518280399:=0
def tw8383839418220350709:=0
def tw17352180617675763311:=0
def tw4363330555283832:=0
def tw14916971690718394001:=0
def tw1243411719583990987:=0
def tw927161173059247844:=0
def tw11460464329661240152:=0
def tw15789970863276827226:=0
def tw4408969761487215725:=0
def tw7510215098985112414:=0
def tw15461107072657078771:=0
def tw2344490705205498160:=0
def tw2766563387673889548:=0
def tw5948039562094849947:=0
def tw17599659519462801459:=0
def tw7465000146138757666:=0
def tw14284815391410263261:=0
def tw11019274453576827660:=0
def tw7318733906747535003:=0
def tw9392902824399127698:=0
def tw864208092217219027:=0
def tw15705842115261066836:=0
def tw9480760496647963432:=0
def tw7740044026233361989:=0
def tw11354468771565161941:=0
def tw3044560890107733646:=0
def tw13710827444579795323:=0
def tw8022470745893023262:=0
def tw2173984680339065095:=0
def tw5200039792161153623:=0
def tw9963790917453213708:=0
def tw1907471386466718861:=0
def tw18238007859352712057:=0
def tw11781222179952210515:=0
def tw6678952032882038935:=0
def tw12712087358611057978:=0
def tw17539012815133671704:=0
def tw2462462881658838579:=0
def tw9773262840897587499:=0
def tw3902870859560808266:=0
def tw4668694915471485163:=0
def tw2338616428211643873:=0
def tw6303591121038059838:=0
def tw7021245727943206424:=0
def tw3180652774971611114:=0
def tw180697533368925595:=0
def tw14828829371344713940:=0
def tw10840129643617488971:=0
def tw7424779776702831858:=0
def tw2004234892842979174:=0
def tw5846374041358132921:=0
def tw5422062990563784387:=0
def tw17735023831731211345:=0
def tw16901788226335707563:=0
def tw5873503343619485416:=0
def tw14957831141478917754:=0
def tw9228332311965765500:=0
def tw3600149026615227180:=0
def tw14914996707253659107:=0
def tw6890229450809492883:=0
def tw5224557016611701900:=0
def tw6240140801108732926:=0
def tw11855239320249791533:=0
def tw14074970888331251780:=0
def tw127343137566397502:=0
def tw972692648893750965:=0
def tw11398132287410221596:=0
def tw15750476044527720371:=0
def tw13384460916604510082:=0
def tw15071126336744215444:=0
def tw4648350899109220555:=0
def tw15492405381346662439:=0
def tw6911707880262601623:=0
def tw13796850711227805702:=0
def tw13115168882059048878:=0
def tw11979430939924288821:=0
def tw16422831416115866672:=0
def tw8777355288621284103:=0
def tw5580750574841347238:=0
def tw1152449406147139987:=0
def tw12975784428229462714:=0
def tw7240114157720033487:=0
def tw5889113230831402104:=0
def tw5072083129452104438:=0
def tw15322053936947817608:=0
def tw1274105785396903025:=0
def tw538641837405347471:=0
def tw1751520384864228041:=0
def tw3934358898528992707:=0
def tw14534562433565932328:=0
def tw3425158001959287007:=0
def tw5263584511764481578:=0
def tw14515114461602053415:=0
def tw1209835796621626515:=0
def tw12113770469577861735:=0
def tw1900390450060339990:=0
def tw3536531746260034073:=0
def tw15092207726268967808:=0
def tw18417470821275906060:=0
def tw15107482256182704551:=0
def tw3359406520061166509:=0
def tw729975340659187939:=0
def tw17030192426273446326:=0
def tw6195698951955371399:=0
def tw16931437722588977696:=0
def tw5227766901963565814:=0
def tw9577327247841840025:=0
def tw8154261238966067480:=0
def tw4140831845268621514:=0
def tw9817132963671438714:=0
def tw356971808494201037:=0
def tw8836849903766039732:=0
def tw14967405489152889336:=0
def tw26337075007610981:=0
def tw17439076129806668230:=0
def tw6305980552941141739:=0
def tw2792448992483277463:=0
def tw16300507000881928811:=0
def tw18412242544764169897:=0
def tw8923417996374560340:=0
def tw11505181603132938847:=0
def tw2745591196418256898:=0
def tw1724664684872661462:=0
def tw8880227354683514062:=0
def tw1241947550625198838:=0
def tw282458147278620627:=0
def tw12278431907981962270:=0
def tw16443951645033099786:=0
def tw5615315845473133948:=0
def tw117296570837410526:=0
def tw6341301044560177301:=0
def tw14009329129877481818:=0
def tw769079654771927240:=0
def tw4568698827139883136:=0
def tw9018140122375053882:=0
def tw17124995052118420945:=0
def tw1093232156937656715:=0
def tw9000249245901278981:=0
def tw15580761104981060363:=0
def tw6312059807924618907:=0
def tw9417980508072786507:=0
def tw9599454538107959541:=0
def tw13453259615291800732:=0
def tw12323320537714086541:=0
def tw9527572049003179489:=0
def tw5161044924634815864:=0
def tw1190211989034137814:=0
def tw9112627532899406842:=0
def tw2558450653973026372:=0
def tw11880564438587448506:=0
def tw18236842659638292017:=0
def tw7542866206346490141:=0
def tw3086681620281921276:=0
def tw3708696707505487687:=0
def tw11261192484106897642:=0
def tw10606631270572362409:=0
def tw13457184070011865865:=0
def tw14838940367303134401:=0
def tw2625098624845732561:=0
def tw18076829561855939185:=0
def tw13353074204615094524:=0
def tw8482394954451497740:=0
def tw7329948274697149384:=0
def tw8059611633450450141:=0
def tw1661594911640864630:=0
def tw17744465232907779030:=0
def tw10548737313871286802:=0
def tw516500402379008573:=0
def tw13125083826769286455:=0
def tw15875467552533515789:=0
def tw3551032948853802719:=0
def tw296554346755036088:=0
def tw11027546076628122228:=0
def tw10273864041042777893:=0
def tw13566423093418257685:=0
def tw11549475508152750928:=0
def tw1615456523602234515:=0
def tw11390578158238604941:=0
def tw11003636183685255939:=0
def tw937992386558012082:=0
def tw1922736545975699799:=0
def tw10054278262704989783:=0
def tw9172013392546080227:=0
def tw12391535468912252167:=0
def tw16884014505967803110:=0
def tw16091914788920728014:=0
def tw1666746952527518331:=0
def tw16310420714353895463:=0
def tw13885789692723967747:=0
def tw11273462047230660942:=0
def tw6533785603744416080:=0
def tw4901538181109913080:=0
def tw3948458672527579276:=0
def tw8756643262564630322:=0
def tw1429163481518582282:=0
def tw9794082418035645918:=0
def tw103090395371412791:=0
def tw97619789847485534:=0
def tw11877047273508858175:=0
def tw8215618889005223820:=0
def tw18327949149149914474:=0
def tw17573749504041168345:=0
def tw5281295435920121309:=0
def tw12804410275243325031:=0
def tw12110793787058825563:=0
def tw3170189177878606059:=0
def tw10467722276378319878:=0
def tw11337661856854408780:=0
def tw8622936360100713382:=0
def tw17753331301394613753:=0
def tw5149094555872324413:=0
def tw14689664365799092463:=0
def tw2121601184996854797:=0
def tw7437336334042528653:=0
def tw10272398876111671523:=0
def tw10938827072225403282:=0
def tw4463731535062344798:=0
def tw3648077561493977577:=0
end PySem.W.Fast
open PySem PySem.W PyProof.Rows
set_option maxRecDepth 100000 in
set_option maxHeartbeats 0 in
theorem PySem.Challenge.cw_skewhouse_k41_no_such_dealing_holds : PySem.Challenge.rw_skewhouse_k41_no_such_dealing.Holds := by
 w_on;o_law;k_head;(case hw=>w_witness2)
 k_fill
 refine Lw.walk (l:=PySem.Challenge.rw_skewhouse_k41_no_such_dealing) rfl rfl (fun w h Y=>⟨PySem.W.km_in_of Y,PySem.W.km_tabs_of Y⟩) ?F
 case F =>
  intro w mg fa h KX G hmg
  refine' Lw.all_mk KX G hmg ?e0 ?e1 ?e2 ?e3 ?e4 ?e5 ?e6 ?e7 ?e8 ?e9 ?e10 ?e11 ?e12 ?a0 ?l0 ?c0 ?k0 ?a1 ?l1 ?c1 ?k1 ?a2 ?l2 ?c2 ?k2 ?a3 ?l3 ?c3 ?k3 ?a4 ?l4 ?c4 ?k4 ?a5 ?l5 ?c5 ?k5 ?a6 ?l6 ?c6 ?k6 ?a7 ?l7 ?c7 ?k7 ?a8 ?l8 ?c8 ?k8 ?a9 ?l9 ?c9 ?k9 ?a10 ?l10 ?c10 ?k10 ?a11 ?l11 ?c11 ?k11 ?a12 ?l12 ?c12 ?k12 ?a13 ?l13 ?c13 ?k13 ?a14 ?l14 ?c14 ?k14 ?a15 ?l15 ?c15 ?k15 ?a16 ?l16 ?c16 ?k16 ?a17 ?l17 ?c17 ?k17 ?a18 ?l18 ?c18 ?k18 ?a19 ?l19 ?c19 ?k19 ?a20 ?l20 ?c20 ?k20 ?a21 ?l21 ?c21 ?k21 ?a22 ?l22 ?c22 ?k22 ?a23 ?l23 ?c23 ?k23 ?a24 ?l24 ?c24 ?k24 ?a25 ?l25 ?c25 ?k25 ?a26 ?l26 ?c26 ?k26 ?a27 ?l27 ?c27 ?k27 ?a28 ?l28 ?c28 ?k28 ?a29 ?l29 ?c29 ?k29 ?a30 ?l30 ?c30 ?k30 ?a31 ?l31 ?c31 ?k31 ?a32 ?l32 ?c32 ?k32 ?a33 ?l33 ?c33 ?k33 ?a34 ?l34 ?c34 ?k34 ?a35 ?l35 ?c35 ?k35 ?a36 ?l36 ?c36 ?k36 ?a37 ?l37 ?c37 ?k37 ?a38 ?l38 ?c38 ?k38 ?a39 ?l39 ?c39 ?k39 ?a40 ?l40 ?c40 ?k40 ?a41 ?l41 ?c41 ?k41 ?a42 ?l42 ?c42 ?k42 ?a43 ?l43 ?c43 ?k43 ?a44 ?l44 ?c44 ?k44 ?a45 ?l45 ?c45 ?k45 ?a46 ?l46 ?c46 ?k46 ?a47 ?l47 ?c47 ?k47 ?a48 ?l48 ?c48 ?k48 ?a49 ?l49 ?c49 ?k49 ?a50 ?l50 ?c50 ?k50 ?a51 ?l51 ?c51 ?k51 ?a52 ?l52 ?c52 ?k52 ?a53 ?l53 ?c53 ?k53 ?a54 ?l54 ?c54 ?k54 ?a55 ?l55 ?c55 ?k55 ?a56 ?l56 ?c56 ?k56 ?a57 ?l57 ?c57 ?k57 ?a58 ?l58 ?c58 ?k58 ?a59 ?l59 ?c59 ?k59 ?a60 ?l60 ?c60 ?k60 ?a61 ?l61 ?c61 ?k61 ?a62 ?l62 ?c62 ?k62 ?a63 ?l63 ?c63 ?k63 ?a64 ?l64 ?c64 ?k64 ?a65 ?l65 ?c65 ?k65 ?a66 ?l66 ?c66 ?k66 ?x0 ?x1 ?lkc ?lkv ?lkh ?lkn ?lkm ?b5s ?b4j ?b5l ?b5a ?b4y ?b5z ?b0t ?b0w ?b0k ?b0n ?b0r ?b0q ?d3a ?d3c ?d4n ?c9q ?c8x ?c6j ?c7m ?b5d ?b2e ?b8s ?c9r ?b8r ?c1z ?d2o ?d3x ?d4q ?c8f ?c6y ?c7r ?d0b ?b4r ?b9e ?b9d ?b9g ?b8y ?b9u ?b9t ?c8p ?b4e ?b5j ?b9p ?b9h ?e5b ?e8d ?e7c ?e7l ?e5r ?e4k ?e6p ?c7j ?c5k ?c7c ?c2d ?c2k ?c3c ?c2f ?b6b ?e7f ?e6y ?e4l ?c9e ?c5n ?c9l ?c2x ?c1u ?c2g ?c2o ?b4k ?e8n ?e7k ?c7f ?c8i ?c5y ?c2y ?c2v ?c3a ?c2j ?b4m ?b5h ?b5c ?b6c ?b4p ?a7y ?e6f ?e6s ?e3s ?e3u ?e6v ?e3q ?e4i ?e6g ?e8c ?e7j ?e4e ?e5q ?e4r ?e8f ?e3w ?e5j ?c8r ?c7a ?c8s ?c2b ?c2i ?c1y ?c2m ?d8p ?d9z ?d4m ?d2s ?d2r ?c5m ?c7o ?c5f ?c9g ?e5o ?e7v ?c3b ?b3g ?d2k ?d2z ?d3r ?c5o ?c9k ?c9v ?c7x ?e4y ?e4u ?b4v ?b1w ?c9b ?c7e ?d0c ?c3d ?c2r ?c2e ?c2z ?d9l ?d9u ?b8x ?b1o ?d3e ?d2q ?d3f ?c8t ?c7i ?c7b ?c7s ?e4v ?e7q ?b6a ?c2a ?b2r ?mf4 ?mf5 ?mf6 ?mf7 ?mf8 ?mf9 ?mf10 ?mf11 ?mf12 ?mf13 ?mf14 ?tgx ?ttx ?a7p ?a7q ?b1c ?b1f ?a7u ?a7w ?a1l ?a4h ?a3o ?a4i ?a1v ?a4f ?a3p ?a4g ?a1k ?b3h ?b9j ?b0m ?b0s ?b0j ?c7y ?b8w ?n0 ?q0 ?n1 ?q1 ?n2 ?q2 ?n3 ?q3 ?n4 ?z0 ?z1 ?z2 ?z3 ?z4 ?z5 ?z6 ?z7 ?z8 ?z9 ?z10 ?z11 ?z12 ?z13 ?z14 ?z15
  (case e0=>k_is)
  (case e1=>k_is)
  (case e2=>k_is)
  (case e3=>k_is)
  (case e4=>k_is)
  (case e5=>k_is)
  (case e6=>k_is)
  (case e7=>k_is)
  (case e8=>k_is)
  (case e9=>k_is)
  (case e10=>k_is)
  (case e11=>k_is)
  (case e12=>k_is)
  (case a0=>k_is);(case l0=>k_is);(case c0=>k_is);(case k0=>k_is)
  (case a1=>k_is);(case l1=>k_is);(case c1=>k_is);(case k1=>k_is)
  (case a2=>k_is);(case l2=>k_is);(case c2=>k_is);(case k2=>k_is)
  (case a3=>k_is);(case l3=>k_is);(case c3=>k_is);(case k3=>k_is)
  (case a4=>k_is);(case l4=>k_is);(case c4=>k_is);(case k4=>k_is)
  (case a5=>k_is);(case l5=>k_is);(case c5=>k_is);(case k5=>k_is)
  (case a6=>k_is);(case l6=>k_is);(case c6=>k_is);(case k6=>k_is)
  (case a7=>k_is);(case l7=>k_is);(case c7=>k_is);(case k7=>k_is)
  (case a8=>k_is);(case l8=>k_is);(case c8=>k_is);(case k8=>k_is)
  (case a9=>k_is);(case l9=>k_is);(case c9=>k_is);(case k9=>k_is)
  (case a10=>k_is);(case l10=>k_is);(case c10=>k_is);(case k10=>k_is)
  (case a11=>k_is);(case l11=>k_is);(case c11=>k_is);(case k11=>k_is)
  (case a12=>k_is);(case l12=>k_is);(case c12=>k_is);(case k12=>k_is)
  (case a13=>k_is);(case l13=>k_is);(case c13=>k_is);(case k13=>k_is)
  (case a14=>k_is);(case l14=>k_is);(case c14=>k_is);(case k14=>k_is)
  (case a15=>k_is);(case l15=>k_is);(case c15=>k_is);(case k15=>k_is)
  (case a16=>k_is);(case l16=>k_is);(case c16=>k_is);(case k16=>k_is)
  (case a17=>k_is);(case l17=>k_is);(case c17=>k_is);(case k17=>k_is)
  (case a18=>k_is);(case l18=>k_is);(case c18=>k_is);(case k18=>k_is)
  (case a19=>k_is);(case l19=>k_is);(case c19=>k_is);(case k19=>k_is)
  (case a20=>k_is);(case l20=>k_is);(case c20=>k_is);(case k20=>k_is)
  (case a21=>k_is);(case l21=>k_is);(case c21=>k_is);(case k21=>k_is)
  (case a22=>k_is);(case l22=>k_is);(case c22=>k_is);(case k22=>k_is)
  (case a23=>k_is);(case l23=>k_is);(case c23=>k_is);(case k23=>k_is)
  (case a24=>k_is);(case l24=>k_is);(case c24=>k_is);(case k24=>k_is)
  (case a25=>k_is);(case l25=>k_is);(case c25=>k_is);(case k25=>k_is)
  (case a26=>k_is);(case l26=>k_is);(case c26=>k_is);(case k26=>k_is)
  (case a27=>k_is);(case l27=>k_is);(case c27=>k_is);(case k27=>k_is)
  (case a28=>k_is);(case l28=>k_is);(case c28=>k_is);(case k28=>k_is)
  (case a29=>k_is);(case l29=>k_is);(case c29=>k_is);(case k29=>k_is)
  (case a30=>k_is);(case l30=>k_is);(case c30=>k_is);(case k30=>k_is)
  (case a31=>k_is);(case l31=>k_is);(case c31=>k_is);(case k31=>k_is)
  (case a32=>k_is);(case l32=>k_is);(case c32=>k_is);(case k32=>k_is)
  (case a33=>k_is);(case l33=>k_is);(case c33=>k_is);(case k33=>k_is)
  (case a34=>k_is);(case l34=>k_is);(case c34=>k_is);(case k34=>k_is)
  (case a35=>k_is);(case l35=>k_is);(case c35=>k_is);(case k35=>k_is)
  (case a36=>k_is);(case l36=>k_is);(case c36=>k_is);(case k36=>k_is)
  (case a37=>k_is);(case l37=>k_is);(case c37=>k_is);(case k37=>k_is)
  (case a38=>k_is);(case l38=>k_is);(case c38=>k_is);(case k38=>k_is)
  (case a39=>k_is);(case l39=>k_is);(case c39=>k_is);(case k39=>k_is)
  (case a40=>k_is);(case l40=>k_is);(case c40=>k_is);(case k40=>k_is)
  (case a41=>k_is);(case l41=>k_is);(case c41=>k_is);(case k41=>k_is)
  (case a42=>k_is);(case l42=>k_is);(case c42=>k_is);(case k42=>k_is)
  (case a43=>k_is);(case l43=>k_is);(case c43=>k_is);(case k43=>k_is)
  (case a44=>k_is);(case l44=>k_is);(case c44=>k_is);(case k44=>k_is)
  (case a45=>k_is);(case l45=>k_is);(case c45=>k_is);(case k45=>k_is)
  (case a46=>k_is);(case l46=>k_is);(case c46=>k_is);(case k46=>k_is)
  (case a47=>k_is);(case l47=>k_is);(case c47=>k_is);(case k47=>k_is)
  (case a48=>k_is);(case l48=>k_is);(case c48=>k_is);(case k48=>k_is)
  (case a49=>k_is);(case l49=>k_is);(case c49=>k_is);(case k49=>k_is)
  (case a50=>k_is);(case l50=>k_is);(case c50=>k_is);(case k50=>k_is)
  (case a51=>k_is);(case l51=>k_is);(case c51=>k_is);(case k51=>k_is)
  (case a52=>k_is);(case l52=>k_is);(case c52=>k_is);(case k52=>k_is)
  (case a53=>k_is);(case l53=>k_is);(case c53=>k_is);(case k53=>k_is)
  (case a54=>k_is);(case l54=>k_is);(case c54=>k_is);(case k54=>k_is)
  (case a55=>k_is);(case l55=>k_is);(case c55=>k_is);(case k55=>k_is)
  (case a56=>k_is);(case l56=>k_is);(case c56=>k_is);(case k56=>k_is)
  (case a57=>k_is);(case l57=>k_is);(case c57=>k_is);(case k57=>k_is)
  (case a58=>k_is);(case l58=>k_is);(case c58=>k_is);(case k58=>k_is)
  (case a59=>k_is);(case l59=>k_is);(case c59=>k_is);(case k59=>k_is)
  (case a60=>k_is);(case l60=>k_is);(case c60=>k_is);(case k60=>k_is)
  (case a61=>k_is);(case l61=>k_is);(case c61=>k_is);(case k61=>k_is)
  (case a62=>k_is);(case l62=>k_is);(case c62=>k_is);(case k62=>k_is)
  (case a63=>k_is);(case l63=>k_is);(case c63=>k_is);(case k63=>k_is)
  (case a64=>k_is);(case l64=>k_is);(case c64=>k_is);(case k64=>k_is)
  (case a65=>k_is);(case l65=>k_is);(case c65=>k_is);(case k65=>k_is)
  (case a66=>k_is);(case l66=>k_is);(case c66=>k_is);(case k66=>k_is)
  (case x0=>k_exc)
  (case x1=>k_exc)
  (case lkc=>k_is)
  (case lkv=>with_unfolding_all rfl)
  (case lkh=>kernel_rfl)
  (case lkn=>kernel_rfl)
  (case lkm=>first | decide | simp)
  (case b5s=>k_is)
  (case b4j=>k_is)
  (case b5l=>k_is)
  (case b5a=>k_is)
  (case b4y=>k_is)
  (case b5z=>k_is)
  (case b0t=>k_is)
  (case b0w=>k_is)
  (case b0k=>k_is)
  (case b0n=>k_is)
  (case b0r=>k_is)
  (case b0q=>k_is)
  (case d3a=>k_is)
  (case d3c=>k_is)
  (case d4n=>k_is)
  (case c9q=>k_is)
  (case c8x=>k_is)
  (case c6j=>k_is)
  (case c7m=>k_is)
  (case b5d=>k_is)
  (case b2e=>k_is)
  (case b8s=>k_is)
  (case c9r=>k_is)
  (case b8r=>k_is)
  (case c1z=>k_is)
  (case d2o=>k_is)
  (case d3x=>k_is)
  (case d4q=>k_is)
  (case c8f=>k_is)
  (case c6y=>k_is)
  (case c7r=>k_is)
  (case d0b=>k_is)
  (case b4r=>k_is)
  (case b9e=>k_is)
  (case b9d=>k_is)
  (case b9g=>k_is)
  (case b8y=>k_is)
  (case b9u=>k_is)
  (case b9t=>k_is)
  (case c8p=>k_is)
  (case b4e=>k_is)
  (case b5j=>k_is)
  (case b9p=>k_is)
  (case b9h=>k_is)
  (case e5b=>k_is)
  (case e8d=>k_is)
  (case e7c=>k_is)
  (case e7l=>k_is)
  (case e5r=>k_is)
  (case e4k=>k_is)
  (case e6p=>k_is)
  (case c7j=>k_is)
  (case c5k=>k_is)
  (case c7c=>k_is)
  (case c2d=>k_is)
  (case c2k=>k_is)
  (case c3c=>k_is)
  (case c2f=>k_is)
  (case b6b=>k_is)
  (case e7f=>k_is)
  (case e6y=>k_is)
  (case e4l=>k_is)
  (case c9e=>k_is)
  (case c5n=>k_is)
  (case c9l=>k_is)
  (case c2x=>k_is)
  (case c1u=>k_is)
  (case c2g=>k_is)
  (case c2o=>k_is)
  (case b4k=>k_is)
  (case e8n=>k_is)
  (case e7k=>k_is)
  (case c7f=>k_is)
  (case c8i=>k_is)
  (case c5y=>k_is)
  (case c2y=>k_is)
  (case c2v=>k_is)
  (case c3a=>k_is)
  (case c2j=>k_is)
  (case b4m=>k_is)
  (case b5h=>k_is)
  (case b5c=>k_is)
  (case b6c=>k_is)
  (case b4p=>k_is)
  (case a7y=>k_is)
  (case e6f=>k_is)
  (case e6s=>k_is)
  (case e3s=>k_is)
  (case e3u=>k_is)
  (case e6v=>k_is)
  (case e3q=>k_is)
  (case e4i=>k_is)
  (case e6g=>k_is)
  (case e8c=>k_is)
  (case e7j=>k_is)
  (case e4e=>k_is)
  (case e5q=>k_is)
  (case e4r=>k_is)
  (case e8f=>k_is)
  (case e3w=>k_is)
  (case e5j=>k_is)
  (case c8r=>k_is)
  (case c7a=>k_is)
  (case c8s=>k_is)
  (case c2b=>k_is)
  (case c2i=>k_is)
  (case c1y=>k_is)
  (case c2m=>k_is)
  (case d8p=>k_is)
  (case d9z=>k_is)
  (case d4m=>k_is)
  (case d2s=>k_is)
  (case d2r=>k_is)
  (case c5m=>k_is)
  (case c7o=>k_is)
  (case c5f=>k_is)
  (case c9g=>k_is)
  (case e5o=>k_is)
  (case e7v=>k_is)
  (case c3b=>k_is)
  (case b3g=>k_is)
  (case d2k=>k_is)
  (case d2z=>k_is)
  (case d3r=>k_is)
  (case c5o=>k_is)
  (case c9k=>k_is)
  (case c9v=>k_is)
  (case c7x=>k_is)
  (case e4y=>k_is)
  (case e4u=>k_is)
  (case b4v=>k_is)
  (case b1w=>k_is)
  (case c9b=>k_is)
  (case c7e=>k_is)
  (case d0c=>k_is)
  (case c3d=>k_is)
  (case c2r=>k_is)
  (case c2e=>k_is)
  (case c2z=>k_is)
  (case d9l=>k_is)
  (case d9u=>k_is)
  (case b8x=>k_is)
  (case b1o=>k_is)
  (case d3e=>k_is)
  (case d2q=>k_is)
  (case d3f=>k_is)
  (case c8t=>k_is)
  (case c7i=>k_is)
  (case c7b=>k_is)
  (case c7s=>k_is)
  (case e4v=>k_is)
  (case e7q=>k_is)
  (case b6a=>k_is)
  (case c2a=>k_is)
  (case b2r=>k_is)
  (case mf4=>k_is)
  (case mf5=>k_is)
  (case mf6=>k_is)
  (case mf7=>k_is)
  (case mf8=>k_is)
  (case mf9=>k_is)
  (case mf10=>k_is)
  (case mf11=>k_is)
  (case mf12=>k_is)
  (case mf13=>k_is)
  (case mf14=>k_is)
  (case tgx=>k_is)
  (case ttx=>k_is)
  (case a7p=>k_is)
  (case a7q=>k_is)
  (case b1c=>k_is)
  (case b1f=>k_is)
  (case a7u=>k_is)
  (case a7w=>k_is)
  (case a1l=>k_is)
  (case a4h=>k_is)
  (case a3o=>k_is)
  (case a4i=>k_is)
  (case a1v=>k_is)
  (case a4f=>k_is)
  (case a3p=>k_is)
  (case a4g=>k_is)
  (case a1k=>k_is)
  (case b3h=>k_is)
  (case b9j=>k_is)
  (case b0m=>k_is)
  (case b0s=>k_is)
  (case b0j=>k_is)
  (case c7y=>k_is)
  (case b8w=>k_is)
  (case n0=>k_is);(case q0=>k_is)
  (case n1=>k_is);(case q1=>k_is)
  (case n2=>k_is);(case q2=>k_is)
  (case n3=>k_is);(case q3=>k_is)
  (case n4=>k_is)
  (case z0=>k_is)
  (case z1=>k_is)
  (case z2=>k_is)
  (case z3=>k_is)
  (case z4=>k_is)
  (case z5=>k_is)
  (case z6=>k_is)
  (case z7=>k_is)
  (case z8=>k_is)
  (case z9=>k_is)
  (case z10=>k_is)
  (case z11=>k_is)
  (case z12=>k_is)
  (case z13=>k_is)
  (case z14=>k_is)
  (case z15=>k_is)
