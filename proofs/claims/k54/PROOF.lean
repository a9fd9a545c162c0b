import PyProof.Rows.All
import Wide.All
import OpenK.AllK
import Wide.FinOn
import Lean
import PyProof.EqAt
import PyProof.EqKinds
import PyProof.TupleCall
import PySem.Challenge.RW_skewhouse_k54_orders_allowed
noncomputable section
set_option Elab.async false
set_option linter.all false
set_option maxRecDepth 100000
namespace L2
open PySem PySem.Spec PyProof.Rows
abbrev Key:=Sum Int Str
def d3f:Key→Value→Bool
 | .inl k,v=>Value.isInt k v
 | .inr x,v=>Value.isStrOf x v
def f1s (w:World):Key→Int
 | .inl k=>hashInt k
 | .inr x=>hashStr w x
theorem a2s:∀ {k:Key} {v:Value},d3f k v=true→(∃ i t,k=Sum.inl i∧v=Value.int i t)∨(∃ x t,k=Sum.inr x∧v=Value.str x t)
 | .inl i,v,h=>by
  obtain⟨t,e⟩:=Value.isInt_shape (k:=i) (v:=v) h
  exact .inl ⟨i,t,rfl,e⟩
 | .inr x,v,h=>by
  obtain⟨t,e⟩:=Value.isStrOf_shape (x:=x) (v:=v) h
  exact .inr ⟨x,t,rfl,e⟩
theorem d6f (i:Int) (t:Tok):d3f (.inl i) (.int i t)=true:=by simp[d3f,Value.isInt]
theorem d5w (x:Str) (t:Tok):d3f (.inr x) (.str x t)=true:=by simp[d3f,Value.isStrOf]
theorem e6n (a b:Int):decide ((Sum.inl a:Key)=Sum.inl b)=(a == b):=by
 by_cases e:a=b
 ·subst e;simp
 ·have h:¬ (Sum.inl a:Key)=Sum.inl b:=fun q=>e (Sum.inl.inj q)
  rw[decide_eq_false h]
  exact(beq_eq_false_iff_ne.mpr e).symm
theorem e7a (a b:Str):decide ((Sum.inr a:Key)=Sum.inr b)=decide (a=b):=by
 by_cases e:a=b
 ·subst e;simp
 ·have h:¬ (Sum.inr a:Key)=Sum.inr b:=fun q=>e (Sum.inr.inj q)
  rw[decide_eq_false h,decide_eq_false e]
theorem e7d (a:Int) (b:Str):decide ((Sum.inl a:Key)=Sum.inr b)=false:=decide_eq_false (fun q=>nomatch q)
theorem e8v (a:Str) (b:Int):decide ((Sum.inr a:Key)=Sum.inl b)=false:=decide_eq_false (fun q=>nomatch q)
def a1c (prog:Program) (w:World):PySem.KeyKind prog w Key where
 is:=d3f
 hash:=f1s w
 inj:=fun v a b ha hb=>by
  rcases a2s ha with ⟨i,t,rfl,rfl⟩ | ⟨x,t,rfl,rfl⟩
  ·rcases a2s hb with ⟨j,u,rfl,e⟩ | ⟨y,u,rfl,e⟩
   ·injection e with e1 _;rw[e1]
   ·exact nomatch e
  ·rcases a2s hb with ⟨j,u,rfl,e⟩ | ⟨y,u,rfl,e⟩
   ·exact nomatch e
   ·injection e with e1 _;rw[e1]
 byValue:=fun k v h=>by
  rcases a2s h with ⟨i,t,rfl,rfl⟩ | ⟨x,t,rfl,rfl⟩<;>rfl
 pyHash:=fun hv h=>by
  rcases a2s hv with ⟨i,t,rfl,rfl⟩ | ⟨x,t,rfl,rfl⟩
  ·exact wpAny_pyHash_int h
  ·exact wpAny_pyHash_str h
 eqBool:=fun hu hv h=>by
  rcases a2s hu with ⟨i,t,rfl,rfl⟩ | ⟨x,t,rfl,rfl⟩
  ·rcases a2s hv with ⟨j,u,rfl,rfl⟩ | ⟨y,u,rfl,rfl⟩
   ·rw[e6n] at h;exact wpAny_eqBool_int h
   ·rw[e7d] at h;exact SeqAt.EqAt.int_str i t y u _ _ _ _ h
  ·rcases a2s hv with ⟨j,u,rfl,rfl⟩ | ⟨y,u,rfl,rfl⟩
   ·rw[e8v] at h;exact SeqAt.EqAt.str_int x t j u _ _ _ _ h
   ·rw[e7a] at h;exact wpAny_eqBool_str h
 «strs»:=fun k x t v h=>by
  rcases a2s h with ⟨i,u,rfl,e⟩ | ⟨y,u,rfl,e⟩
  ·exact nomatch e
  ·injection e with e1 _
   subst e1
   cases v<;>rfl
theorem d0t (prog:Program) (w:World) (i:Int) (t:Tok):(a1c prog w).is (.inl i) (.int i t)=true:=d6f i t
theorem c9v (prog:Program) (w:World) (x:Str) (t:Tok):(a1c prog w).is (.inr x) (.str x t)=true:=d5w x t
end L2
namespace L2
open PySem PySem.Spec PyProof.Rows
inductive V where
 | non | bl (b:Bool) | int (i:Int) | str (x:Str) | byt (b:Array UInt8) | flt (b:UInt64) | ref (a:Addr) | ty (n:String)
 deriving DecidableEq
def a3k:V→Value→Prop
 | .non,u=>u=Value.none
 | .bl b,u=>u=Value.bool b
 | .int i,u=>∃ t,u=Value.int i t
 | .str x,u=>∃ t,u=Value.str x t
 | .byt b,u=>∃ t,u=Value.bytes b t
 | .flt b,u=>∃ t,u=Value.float b t
 | .ref a,u=>u=Value.ref a
 | .ty n,u=>u=Value.type n
abbrev a3e:List V→List Value→Prop:=Paired a3k
theorem a3e.length {xs:List V} {us:List Value} (r:a3e xs us):xs.length=us.length:=Paired.length r
theorem a3e.get:∀ {xs:List V} {us:List Value} {i:Nat} {x:V},a3e xs us→xs[i]?=some x→∃ u,us[i]?=some u∧a3k x u
 | _,_,_,_,.nil,e=>by simp at e
 | _,_,0,_,.cons r _,e=>by simp at e;subst e;exact⟨_,rfl,r⟩
 | _,_,i+1,x,.cons _ t,e=>by
  obtain⟨u,h1,h2⟩:=a3e.get (i:=i) (x:=x) t (by simpa using e)
  exact⟨u,by simpa using h1,h2⟩
theorem a3e.set {x:V} {u:Value} (r:a3k x u):∀ {xs:List V} {us:List Value} (i:Nat),a3e xs us→a3e (xs.set i x) (us.set i u)
 | _,_,_,.nil=>.nil
 | _,_,0,.cons _ t=>.cons r t
 | _,_,i+1,.cons q t=>.cons q (a3e.set r i t)
theorem a3e.append:∀ {xs ys:List V} {us ws:List Value},a3e xs us→a3e ys ws→a3e (xs++ys) (us++ws)
 | _,_,_,_,.nil,s=>s
 | _,_,_,_,.cons r t,s=>.cons r (a3e.append t s)
theorem a3e.take:∀ {xs:List V} {us:List Value} (n:Nat),a3e xs us→a3e (xs.take n) (us.take n)
 | _,_,0,_=>.nil
 | _,_,_+1,.nil=>.nil
 | _,_,n+1,.cons r t=>.cons r (a3e.take n t)
theorem a3e.drop:∀ {xs:List V} {us:List Value} (n:Nat),a3e xs us→a3e (xs.drop n) (us.drop n)
 | _,_,0,r=>r
 | _,_,_+1,.nil=>.nil
 | _,_,n+1,.cons _ t=>a3e.drop n t
def c9d:Option V→Option Value→Prop
 | some v,some u=>a3k v u
 | none,none=>True
 | _,_=>False
def KV {κ:Type}:List (κ×V)→List (κ×Value)→Prop:=Paired fun (p:κ×V) (q:κ×Value)=>p.1=q.1∧a3k p.2 q.2
def kV:Key→V
 | .inl i=>.int i
 | .inr x=>.str x
inductive HO where
  | lst (xs:List V)
  | tup (xs:List V)
  | dK (kvs:List (Key×V)) | dT (kvs:List (List Key×V))
  | set (S:Int→Bool) (n:Nat)
  | ins (C dx:Addr) (fs:List (Str×V))
  | own (x:Addr)
  | xd (fs:List (Str×V))
  | met (f x:Addr)
  | rng (lo hi:Int)
  | frz (o:Obj) (u:HO)
  | tbl (ps:Array Value)
  | ext (φ:Heap→Prop)
abbrev Hp:=Addr→Option HO
def upd (H:Hp) (a:Addr) (o:HO):Hp:=fun b=>if b=a then some o else H b
theorem a0b {H:Hp} {a:Addr} {o:HO}:upd H a o a=some o:=by unfold upd;rw[if_pos rfl]
theorem a0h {H:Hp} {a b:Addr} {o:HO} (h:b≠a):upd H a o b=H b:=by unfold upd;rw[if_neg h]
theorem b8n {H:Hp} {a b:Addr} {o u:HO} (h:H a=some o) (h':H b=some u) (d:o≠u):a≠b:=by
 intro e;subst e;rw[h] at h';exact d (Option.some.inj h')
theorem a0y {H:Hp} {a b:Addr} {o:HO} (h:H a=some o) (h':H b=none):a≠b:=by
 intro e;subst e;rw[h] at h';cases h'
section
variable (P:Program) (w:World)
def a3q (H:Hp) (h:Heap) (a:Addr):HO→Prop
 | .lst xs=>xs.length≤sizeLine∧∃ (its:List Value) (n:Nat),a3e xs its∧h.get? a=some {cls:=.type "list",data:=.seq its.toArray n}
 | .tup xs=>xs.length≤sizeLine∧∃ its:List Value,a3e xs its∧IsTup h a its.toArray
 | .dK kvs=>kvs.length≤sizeLine∧(a == sysModules)=false∧∃ vs,KV kvs vs∧h.DictOf (a1c P w) a vs
 | .dT kvs=>kvs.length≤sizeLine∧(a == sysModules)=false∧∃ xs:List (List Key×Addr×Value),
   Paired (fun (p:List Key×V) (q:List Key×Addr×Value)=>p.1=q.1∧H q.2.1=some (.tup (p.1.map kV))∧a3k p.2 q.2.2) kvs xs ∧
   ∃ o es ep,h.get? a=some o∧o.ExactDict∧o.data=.dict es ep∧es.toList=xs.map (entryOfKey (tupleKind (a1c P w)))∧(xs.map (·.1)).Nodup
 | .set S n=>h.SetOf (intKind P w) a S n
 | .ins C dx fs=>H dx=some (.own a)∧fs.length≤1000∧dx≠a∧h.get? a=some (PySem.W.instObj C dx) ∧
   ∃ mA,h.Ns1 dx mA∧(∀ f,c9d (fs.lookup f) (mA f))∧PySem.Within mA (fs.map (·.1))
 | .own _=>∃ o,h.get? a=some o
 | .xd fs=>∃ mA,h.Ns1 a mA∧∀ f,c9d (fs.lookup f) (mA f)
 | .rng lo hi=>∃ t u v,h.get? a=some {cls:=.type "range",data:=.fields #[.int lo t,.int hi u,.int 1 v]}
 | .frz o u=>h.get? a=some o∧a3q H h a u
 | .tbl ps=>h.get? a=some {cls:=.none,data:=.fields ps}
 | .met f x=>h.get? a=some (PySem.W.methodObj (.ref f) (.ref x))
 | .ext φ=>φ h∧(∃ o,h.get? a=some o)∧∀ h1 h2:Heap,φ h1→(∀ o,h1.get? a=some o→h2.get? a=some o)→φ h2
def HOk (H:Hp) (h:Heap):Prop:=∀ a o,H a=some o→a3q P w H h a o
end
section
variable {P:Program} {w:World} {H H':Hp} {h h':Heap} {a:Addr} {o:HO}
theorem a3q.lt (x:a3q P w H h a o):a < h.objs.size:=by
 cases o with
 | lst xs=>obtain⟨_,_,_,_,e⟩:=x;exact Heap.lt_size e
 | tup xs=>obtain⟨_,_,_,p⟩:=x;exact p.lt
 | dK kvs=>obtain⟨_,_,_,_,o,_,_,e,_⟩:=x;exact Heap.lt_size e
 | dT kvs=>obtain⟨_,_,_,_,o,_,_,e,_⟩:=x;exact Heap.lt_size e
 | set S n=>obtain⟨o,_,_,_,e,_⟩:=x;exact Heap.lt_size e
 | ins C dx fs=>obtain⟨_,_,_,e,_⟩:=x;exact Heap.lt_size e
 | own y=>obtain⟨_,e⟩:=x;exact Heap.lt_size e
 | xd fs=>obtain⟨_,⟨_,_,_,e,_⟩,_⟩:=x;exact Heap.lt_size e
 | rng lo hi=>obtain⟨_,_,_,e⟩:=x;exact Heap.lt_size e
 | frz ob u=>obtain⟨e,_⟩:=x;exact Heap.lt_size e
 | tbl ps=>exact Heap.lt_size (show h.get? a=some _ from x)
 | met f y=>exact Heap.lt_size (show h.get? a=some _ from x)
 | ext φ=>obtain⟨_,⟨_,e⟩,_⟩:=x;exact Heap.lt_size e
theorem Paired.mapP {α β:Type} {F G:α→β→Prop}:∀ {l₁:List α} {l₂:List β},Paired F l₁ l₂→(∀ a b,F a b→G a b)→Paired G l₁ l₂
 | _,_,.nil,_=>.nil
 | _,_,.cons r t,f=>.cons (f _ _ r) (Paired.mapP t f)
theorem Paired.imp' {α β:Type} {F G:α→β→Prop} (f:∀ a b,F a b→G a b) {l₁:List α} {l₂:List β} (r:Paired F l₁ l₂):Paired G l₁ l₂:=Paired.mapP r f
theorem a3q.stay (x:a3q P w H h a o) (k:∀ b u,(b=a∨H b=some (.own a))→h.get? b=some u→h'.get? b=some u)
  (ho:∀ b,H b=some (.own a)→H' b=some (.own a)) (ht:∀ b xs,H b=some (.tup xs)→H' b=some (.tup xs)):a3q P w H' h' a o:=by
 induction o with
 | lst xs=>obtain⟨z,its,n,r,e⟩:=x;exact⟨z,its,n,r,k _ _ (.inl rfl) e⟩
 | tup xs=>obtain⟨z,its,r,ob,e,c⟩:=x;exact⟨z,its,r,ob,k _ _ (.inl rfl) e,c⟩
 | dK kvs=>obtain⟨z,y,vs,r,ob,es,ep,e,c⟩:=x;exact⟨z,y,vs,r,ob,es,ep,k _ _ (.inl rfl) e,c⟩
 | dT kvs =>
  obtain⟨z,y,xs,r,ob,es,ep,e,c⟩:=x
  exact⟨z,y,xs,Paired.mapP r fun p q z=>⟨z.1,ht _ _ z.2.1,z.2.2⟩,ob,es,ep,k _ _ (.inl rfl) e,c⟩
 | set S n=>obtain⟨ob,es,ep,t,e,c⟩:=x;exact⟨ob,es,ep,t,k _ _ (.inl rfl) e,c⟩
 | ins C dx fs =>
  obtain⟨d,z,ne,e,mA,⟨od,es,ep,e2,c⟩,r⟩:=x
  exact⟨ho _ d,z,ne,k _ _ (.inl rfl) e,mA,⟨od,es,ep,k _ _ (.inr d) e2,c⟩,r⟩
 | own y=>obtain⟨ob,e⟩:=x;exact⟨ob,k _ _ (.inl rfl) e⟩
 | xd fs=>obtain⟨mA,⟨od,es,ep,e,c⟩,r⟩:=x;exact⟨mA,⟨od,es,ep,k _ _ (.inl rfl) e,c⟩,r⟩
 | rng lo hi=>obtain⟨t,u,v,e⟩:=x;exact⟨t,u,v,k _ _ (.inl rfl) e⟩
 | frz ob u ih=>obtain⟨e,q⟩:=x;exact⟨k _ _ (.inl rfl) e,ih q⟩
 | tbl ps =>
  have e:h.get? a=some {cls:=.none,data:=.fields ps}:=x
  show h'.get? a=some {cls:=.none,data:=.fields ps}
  exact k a _ (.inl rfl) e
 | met f y =>
  have e:h.get? a=some (PySem.W.methodObj (.ref f) (.ref y)):=x
  show h'.get? a=some (PySem.W.methodObj (.ref f) (.ref y))
  exact k a _ (.inl rfl) e
 | ext φ=>obtain⟨p,⟨o,e⟩,st⟩:=x;exact⟨st _ _ p fun o q=>k _ _ (.inl rfl) q,⟨o,k _ _ (.inl rfl) e⟩,st⟩
theorem HOk.lt (x:HOk P w H h) (e:H a=some o):a < h.objs.size:=(x a o e).lt
theorem HOk.fresh (x:HOk P w H h) (e:h.objs.size≤a):H a=none:=by
 cases q:H a with
 | none=>rfl
 | some u=>exact absurd (Nat.lt_of_lt_of_le (x.lt q) e) (Nat.lt_irrefl _)
theorem HOk.kept (x:HOk P w H h) (k:∀ b u,h.get? b=some u→h'.get? b=some u):HOk P w H h':=fun a o e =>
 (x a o e).stay (fun b u _ q=>k b u q) (fun _ q=>q) fun _ _ q=>q
theorem HOk.laid (x:HOk P w H h) (k:∀ b u,h.get? b=some u→h'.get? b=some u) (hp:h.objs.size≤a) (new:a3q P w (upd H a o) h' a o):HOk P w (upd H a o) h':=fun b u e=>by
 have hn:=x.fresh hp
 by_cases hb:b=a
 ·subst hb;rw[a0b] at e;cases e;exact new
 ·rw[a0h hb] at e
  exact(x b u e).stay (fun c v _ q=>k c v q) (fun c q=>by rw[a0h (a0y q hn)];exact q) fun c xs q=>by rw[a0h (a0y q hn)];exact q
end
def Rd (H:Hp) (a:Addr) (u:HO):Prop:=H a=some u∨∃ o,H a=some (.frz o u)
theorem Rd.ok {P:Program} {w:World} {H:Hp} {h:Heap} {a:Addr} {u:HO} (r:Rd H a u) (x:HOk P w H h):a3q P w H h a u:=by
 rcases r with r | ⟨o,r⟩
 ·exact x a u r
 ·obtain⟨_,q⟩:=x a _ r
  exact q
def Mut:Option HO→Prop
 | some (.lst _)=>True
 | some (.dK _)=>True
 | some (.dT _)=>True
 | some (.set _ _)=>True
 | some (.ins _ _ _)=>True
 | some (.ext _)=>True
 | _=>False
section
variable {P:Program} {w:World} {H:Hp} {h h':Heap} {x e:Addr} {o':HO}
theorem HOk.write (ok:HOk P w H h) (mu:Mut (H x)) (he:e=x∨H e=some (.own x)) (k:∀ b u,b≠e→h.get? b=some u→h'.get? b=some u) (heo:∃ u,h'.get? e=some u)
  (new:a3q P w (upd H x o') h' x o'):HOk P w (upd H x o') h':=fun b u q=>by
 have nown:∀ c y,H c=some (.own y)→c≠x:=fun c y r z=>by subst z;rw[r] at mu;exact mu
 have ntup:∀ c xs,H c=some (.tup xs)→c≠x:=fun c xs r z=>by subst z;rw[r] at mu;exact mu
 by_cases hb:b=x
 ·subst hb;rw[a0b] at q;cases q;exact new
 ·rw[a0h hb] at q
  by_cases hbe:b=e
  ·have q':H b=some (.own x):=by
    rcases he with z | z
    ·exact absurd (hbe.trans z) hb
    ·rw[hbe];exact z
   rw[q] at q';cases q'
   obtain⟨v,hv⟩:=heo
   exact⟨v,by rw[hbe];exact hv⟩
  ·refine(ok b u q).stay (fun c v hc r=>k c v ?_ r) (fun c r=>by rw[a0h (nown c b r)];exact r) fun c xs r=>by rw[a0h (ntup c xs r)];exact r
   rcases hc with rfl | hc
   ·exact hbe
   ·rintro rfl
    rcases he with z | z
    ·exact nown c b hc z
    ·rw[hc] at z;cases z;exact hb rfl
end
structure Un (fs ex:List Addr) (H H':Hp) (h h':Heap):Prop where
 keep:∀ b o,h.get? b=some o→H b=none→b ∉ fs→b ∉ ex→h'.get? b=some o
 slot:∀ b o,h.get? b=some o→H b=none→b∈fs→b ∉ ex→∃ sl,h'.get? b=some {o with slots:=sl}
 free:∀ b o,h.get? b=some o→H b=none→b ∉ ex→H' b=none
 there:∀ b o,h.get? b=some o→b ∉ ex→∃ o',h'.get? b=some o'
 tups:∀ b xs,H b=some (.tup xs)→H' b=some (.tup xs)
 frzs:∀ b o u,H b=some (.frz o u)→H' b=some (.frz o u)
 tbls:∀ b ps,H b=some (.tbl ps)→∃ more,H' b=some (.tbl (ps++more))
section
variable {fs fs' ex ex':List Addr} {H H1 H2:Hp} {h h1 h2 h':Heap} {a x e:Addr} {o:HO}
theorem Un.any (u:Un fs ex H H1 h h1) {b:Addr} {ob:Obj} (q:h.get? b=some ob) (n:H b=none) (hx:b ∉ ex):∃ sl,h1.get? b=some {ob with slots:=sl}:=by
 by_cases hb:b∈fs
 ·exact u.slot b ob q n hb hx
 ·exact⟨ob.slots,u.keep b ob q n hb hx⟩
theorem Un.trans (a:Un fs ex H H1 h h1) (b:Un fs ex H1 H2 h1 h2):Un fs ex H H2 h h2 where
 keep:=fun c ob q n hc hx=>b.keep c ob (a.keep c ob q n hc hx) (a.free c ob q n hx) hc hx
 slot:=fun c ob q n hc hx=>by
  obtain⟨sl,e1⟩:=a.slot c ob q n hc hx
  obtain⟨sl',e2⟩:=b.slot c _ e1 (a.free c ob q n hx) hc hx
  exact⟨sl',e2⟩
 free:=fun c ob q n hx=>by
  obtain⟨o',e1⟩:=a.there c ob q hx
  exact b.free c o' e1 (a.free c ob q n hx) hx
 there:=fun c ob q hx=>by
  obtain⟨o',e1⟩:=a.there c ob q hx
  exact b.there c o' e1 hx
 tups:=fun c xs q=>b.tups c xs (a.tups c xs q)
 frzs:=fun c ob xs q=>b.frzs c ob xs (a.frzs c ob xs q)
 tbls:=fun c ps q=>by
  obtain⟨m1,e1⟩:=a.tbls c ps q
  obtain⟨m2,e2⟩:=b.tbls c _ e1
  exact⟨m1++m2,by rw[e2,Array.append_assoc]⟩
theorem Un.kept (k:∀ b u,h.get? b=some u→h'.get? b=some u):Un fs ex H H h h' :=
 ⟨fun b ob q _ _ _=>k b ob q,fun b ob q _ _ _=>⟨ob.slots,k b ob q⟩,fun _ _ _ n _=>n,fun b ob q _=>⟨ob,k b ob q⟩,fun _ _ q=>q,fun _ _ _ q=>q,fun _ ps q=>⟨#[],by rw[q];simp⟩⟩
theorem Un.refl:Un fs ex H H h h:=Un.kept fun _ _ q=>q
theorem Un.laid (k:∀ b u,h.get? b=some u→h'.get? b=some u) (hp:h.objs.size≤a) (hn:H a=none):Un fs ex H (upd H a o) h h' where
 keep:=fun b u q _ _ _=>k b u q
 slot:=fun b u q _ _ _=>⟨u.slots,k b u q⟩
 free:=fun b u q n _=>by rw[a0h (Nat.ne_of_lt (Nat.lt_of_lt_of_le (Heap.lt_size q) hp))];exact n
 there:=fun b u q _=>⟨u,k b u q⟩
 tups:=fun b xs q=>by rw[a0h (a0y q hn)];exact q
 frzs:=fun b u xs q=>by rw[a0h (a0y q hn)];exact q
 tbls:=fun b ps q=>⟨#[],by rw[a0h (a0y q hn),q];simp⟩
theorem Un.write (mu:Mut (H x)) (he:e=x∨H e=some (.own x)) (k:∀ b u,b≠e→h.get? b=some u→h'.get? b=some u) (heo:∃ u,h'.get? e=some u):Un fs ex H (upd H x o) h h':=by
 have hx:∀ b,H b=none→b≠x:=fun b n z=>by subst z;rw[n] at mu;exact mu
 have hb:∀ b,H b=none→b≠e:=fun b n z=>by
  subst z
  rcases he with r | r
  ·exact hx b n r
  ·rw[n] at r;cases r
 have hm:∀ b u,H b=some u→¬ Mut (some u)→b≠x:=fun b u q nm z=>by subst z;rw[q] at mu;exact nm mu
 refine⟨fun b u q n _ _=>k b u (hb b n) q,fun b u q n _ _=>⟨u.slots,k b u (hb b n) q⟩,fun b u q n _=>by rw[a0h (hx b n)];exact n,fun b u q _=>?_,
  fun b xs q=>by rw[a0h (hm b _ q fun z=>z)];exact q,fun b u xs q=>by rw[a0h (hm b _ q fun z=>z)];exact q,fun b ps q=>⟨#[],by rw[a0h (hm b _ q fun z=>z),q];simp⟩⟩
 by_cases hbe:b=e
 ·subst hbe;exact heo
 ·exact⟨u,k b u hbe q⟩
end
def trk (h:Heap) (H:Hp):List Addr:=(List.range h.objs.size).filter fun a=>(H a).isSome
def e0t (h:Heap) (H:Hp):Heap:=PySem.W.hideAll h (trk h H)
theorem d6t (h:Heap) (H:Hp):(e0t h H).objs.size=h.objs.size:=PySem.W.hideAll_size _ _
theorem e0r {h:Heap} {H:Hp} {b:Addr} {o:Obj} (e:h.get? b=some o) (n:H b=none):(e0t h H).get? b=some o :=
 PySem.W.hideAll_get _ e fun hm=>by
  have q:(H b).isSome=true:=(List.mem_filter.mp hm).2
  rw[n] at q;simp at q
theorem e5z {h:Heap} {H:Hp} {b:Addr} {o:Obj} (e:(e0t h H).get? b=some o):h.get? b=some o∧H b=none:=by
 have e':h.get? b=some o:=PySem.W.of_hideAll (trk h H) e
 refine⟨e',?_⟩
 cases q:H b with
 | none=>rfl
 | some x =>
  have hm:b∈trk h H:=List.mem_filter.mpr ⟨List.mem_range.mpr (Heap.lt_size e'),by simp[q]⟩
  have z:(e0t h H).get? b=none:=PySem.W.hideAll_none (trk h H) hm
  rw[z] at e;cases e
def e4f (g h:Heap) (L:Addr):List (Addr×Obj):=(List.range h.objs.size).filterMap fun a=>if a=L∨(g.get? a).isSome=true then none else (h.get? a).map fun o=>(a,o)
def c6d (g h:Heap) (L d:Addr):List (Addr×Obj):=(e4f g h L).filter fun p=>decide (p.1≠d)
end L2
namespace L2
open PySem PySem.Spec PyProof.Rows
structure Mod (K:PySem.W.Frag) (mg:Str→Option Value) (base:Heap):Prop where
 kin:K.In base
 glob:base.Ns mainGlobals mg
 blt:∃ mb,base.Ns builtinsNs mb∧∀ x:Str,x≠"__name__"→mb x=bootBuiltins x
 nolimit:base.NoLimit
structure Cx where
 prog:Program
 w:World
 K:PySem.W.Frag
 mg:Str→Option Value
 base:Heap
 A:Around
 N:List Str
 s₀:Shared
 H₀:Hp
 env:Env
 outer:List Env
 stack:List Env
 ex:List Addr
 fn:Str→Bool
 calm:Bool
 pn:List (Addr×Obj)
 xe:Value→Shared→Prop
def frs (l:List Env):List Addr:=l.filterMap (·.frame)
abbrev Cx.fs (X:Cx):List Addr:=frs X.outer
def Vis (sc:Scope) (x:Str):Prop:=sc.names.lookup x=some .local∨sc.names.lookup x=some .cell∨sc.names.lookup x=some .free
def Loc (sc:Scope) (x:Str):Prop:=sc.names.lookup x=some .local∨sc.names.lookup x=some .cell
def f1p (env:Env) (h:Heap) (m:Str→Option Value) (x:Str) (u:Value):Prop :=
 (env.kindOf x=some .local∧m x=some u)∨((env.kindOf x=some .cell∨env.kindOf x=some .free)∧∃ c,env.cells.lookup x=some c∧h.IsCell c (some u))
structure Cx.Ok (X:Cx):Prop where
 mod:Mod X.K X.mg X.base
 kind:X.env.scope.kind=.function
 glob:X.env.globals=mainGlobals
 blt:X.env.builtins=builtinsNs
 above:X.s₀.heap.objs.size≤X.env.locals
 inj:∀ x y c,X.env.cells.lookup x=some c→X.env.cells.lookup y=some c→x=y
 has:∀ x,(X.env.kindOf x=some .cell∨X.env.kindOf x=some .free)→∃ c,X.env.cells.lookup x=some c
 cab:∀ x c,X.fn x=true→X.env.cells.lookup x=some c→X.s₀.heap.objs.size≤c
 hd:X.calm=true→X.A.handled=none
 frames:X.A.frames=some X.stack
 stk:X.stack=X.outer∨(X.stack=X.env::X.outer∧X.env.frame=some X.env.locals)
 exf:∀ b∈X.ex,b≠X.env.locals∧∀ x c,X.env.cells.lookup x=some c→c≠b
 bs:∀ b o,X.base.get? b=some o→X.s₀.heap.get? b=some o∧X.H₀ b=none
 bsz:X.base.objs.size≤X.s₀.heap.objs.size
 noex:∀ b o,X.base.get? b=some o→b ∉ X.ex
 exfs:∀ b∈X.ex,b ∉ X.fs
 funs:X.s₀.heap.FunFrames X.base X.outer
 frf:∀ b∈X.fs,X.H₀ b=none
structure Inv (X:Cx) (pins:List (Addr×Obj)) (σ:List (Option V)) (H:Hp) (s:Shared):Prop where
 ok:X.Ok
 os:s.os=X.s₀.os
 bare:AllBare s.gens
 base:Un X.fs X.ex X.H₀ H X.s₀.heap s.heap
 loc:∃ m,s.heap.Ns X.env.locals m∧∀ (i:Nat) (x:Str) (v:V),X.N[i]?=some x→σ[i]?=some (some v)→Vis X.env.scope x→∃ u,a3k v u∧f1p X.env s.heap m x u
 cell:∀ x c,X.env.cells.lookup x=some c→∃ v,s.heap.IsCell c v
 free:H X.env.locals=none
 freeC:∀ x c,X.env.cells.lookup x=some c→H c=none
 pin:∀ p∈X.pn++pins,s.heap.get? p.1=some p.2∧H p.1=none∧p.1≠X.env.locals∧p.1 ∉ X.fs∧∀ v,p.2.data≠.cell v
 hok:HOk X.prog X.w H s.heap
 len:σ.length=X.N.length
section
variable {X:Cx} {pins:List (Addr×Obj)} {σ:List (Option V)} {H H':Hp} {s:Shared} {h':Heap}
theorem Cx.Ok.nofr (ok:X.Ok) {b:Addr} {o:Obj} (e:X.base.get? b=some o):b ∉ X.fs:=fun hb=>by
 have:=(ok.funs.mem hb).1
 rw[e] at this;cases this
theorem Inv.bs (I:Inv X pins σ H s):∀ b o,X.base.get? b=some o→s.heap.get? b=some o∧H b=none:=fun b o e =>
 ⟨I.base.keep b o (I.ok.bs b o e).1 (I.ok.bs b o e).2 (I.ok.nofr e) (I.ok.noex b o e),I.base.free b o (I.ok.bs b o e).1 (I.ok.bs b o e).2 (I.ok.noex b o e)⟩
theorem Inv.bk (I:Inv X pins σ H s):∀ b o,X.base.get? b=some o→s.heap.get? b=some o:=fun b o e=>(I.bs b o e).1
theorem Inv.mod (I:Inv X pins σ H s):Mod X.K X.mg X.base:=I.ok.mod
theorem Inv.kIn (I:Inv X pins σ H s):X.K.In s.heap:=I.ok.mod.kin.keeps I.bk
theorem Inv.lt (I:Inv X pins σ H s):X.env.locals < s.heap.objs.size:=let ⟨_,hn,_⟩:=I.loc;hn.lt
theorem Inv.sz (I:Inv X pins σ H s):X.s₀.heap.objs.size≤s.heap.objs.size:=Nat.le_trans I.ok.above (Nat.le_of_lt I.lt)
theorem Inv.nofs (I:Inv X pins σ H s) {a:Addr} (h:s.heap.objs.size≤a):a ∉ X.fs:=fun hb=>by
 obtain⟨_,o,ho,_⟩:=I.ok.funs.mem hb
 exact absurd (Nat.lt_of_lt_of_le (Heap.lt_size ho) (Nat.le_trans I.sz h)) (Nat.lt_irrefl _)
theorem Inv.cne (I:Inv X pins σ H s):∀ x c,X.env.cells.lookup x=some c→c≠X.env.locals:=fun x c e z=>by
 obtain⟨v,o,ho,hd⟩:=I.cell x c e
 obtain⟨m,⟨o',es,ep,ho',hd',_⟩,_⟩:=I.loc
 rw[z,ho'] at ho;cases ho;rw[hd'] at hd;cases hd
theorem Inv.funs (I:Inv X pins σ H s):s.heap.FunFrames X.base X.outer:=by
 have all:∀ (l:List Env),(∀ b∈frs l,b∈X.fs)→X.s₀.heap.FunFrames X.base l→s.heap.FunFrames X.base l:=by
  intro l
  induction l with
  | nil=>intro _ _;trivial
  | cons env r ih =>
   intro hs hl
   obtain⟨hk,⟨L,o,hf,hn,ho,hd⟩,hr⟩:=hl
   have hL:L∈X.fs:=hs L (by unfold frs;rw[List.filterMap_cons,hf];exact List.mem_cons_self)
   obtain⟨sl,e⟩:=I.base.slot L o ho (I.ok.frf L hL) hL fun z=>I.ok.exfs L z hL
   exact⟨hk,⟨L,_,hf,hn,e,hd⟩,ih (fun b hb=>hs b (by unfold frs;rw[List.filterMap_cons,hf];exact List.mem_cons_of_mem _ hb)) hr⟩
 exact all X.outer (fun _ hb=>hb) I.ok.funs
theorem Inv.stack (I:Inv X pins σ H s):s.heap.FunFrames X.base X.stack:=by
 rcases I.ok.stk with e | ⟨e,hf⟩
 ·rw[e];exact I.funs
 ·rw[e]
  obtain⟨m,hn,_⟩:=I.loc
  refine .cons (by rw[I.ok.kind];decide) hf hn ?_ I.funs
  exact Heap.get?_none_of_le (Nat.le_trans I.ok.bsz I.ok.above)
theorem Inv.stkSub (I:Inv X pins σ H s):∀ b∈frs X.stack,b∈X.env.locals::X.fs:=fun b hb=>by
 rcases I.ok.stk with e | ⟨e,hf⟩
 ·rw[e] at hb;exact List.mem_cons_of_mem _ hb
 ·rw[e] at hb
  unfold frs at hb
  rw[List.filterMap_cons,hf] at hb
  exact hb
theorem Inv.stkFree (I:Inv X pins σ H s):∀ b∈frs X.stack,H b=none:=fun b hb=>by
 rcases List.mem_cons.mp (I.stkSub b hb) with e | hb
 ·rw[e];exact I.free
 ·obtain⟨_,o,ho,_⟩:=I.ok.funs.mem hb
  exact I.base.free b o ho (I.ok.frf b hb) fun z=>I.ok.exfs b z hb
theorem Inv.step {g':Array GenState} {t':Nat} {d':Drawn} {ch:List Addr} (I:Inv X pins σ H s)
  (hch:∀ b∈ch,(b∈X.ex∨X.s₀.heap.objs.size≤b)∧b≠X.env.locals∧(∀ x c,X.env.cells.lookup x=some c→c≠b)∧∀ p∈X.pn++pins,p.1≠b)
  (keep:∀ b o,b≠X.env.locals→b ∉ X.fs→b ∉ ch→s.heap.get? b=some o→H b=none→h'.get? b=some o)
  (slot:∀ b o,b≠X.env.locals→b∈X.fs→b ∉ ch→s.heap.get? b=some o→H b=none→∃ sl,h'.get? b=some {o with slots:=sl}) (free:∀ b o,b ∉ ch→s.heap.get? b=some o→H b=none→H' b=none)
  (there:∀ b o,b ∉ ch→s.heap.get? b=some o→∃ o',h'.get? b=some o')
  (tups:∀ b xs,H b=some (.tup xs)→H' b=some (.tup xs)) (frzs:∀ b o u,H b=some (.frz o u)→H' b=some (.frz o u)) (tbls:∀ b ps,H b=some (.tbl ps)→∃ more,H' b=some (.tbl (ps++more)))
  (ns:∀ m,s.heap.Ns X.env.locals m→h'.Ns X.env.locals m) (hok:HOk X.prog X.w H' h') (hg:AllBare g') :
  Inv X pins σ H' {s with heap:=h',gens:=g',drawn:=d',toks:=t'}:=by
 have neL:∀ b o,X.s₀.heap.get? b=some o→b≠X.env.locals:=fun b o e=>Nat.ne_of_lt (Nat.lt_of_lt_of_le (Heap.lt_size e) I.ok.above)
 have neC:∀ b o,X.s₀.heap.get? b=some o→b ∉ X.ex→b ∉ ch:=fun b o e hx hb=>by
  rcases(hch b hb).1 with z | z
  ·exact hx z
  ·exact absurd (Nat.lt_of_lt_of_le (Heap.lt_size e) z) (Nat.lt_irrefl _)
 have cellK:∀ x c,X.env.cells.lookup x=some c→∀ v,s.heap.IsCell c v→h'.IsCell c v:=fun x c e v ⟨o,ho,hd⟩=>by
  have nch:c ∉ ch:=fun z=>(hch c z).2.2.1 x c e rfl
  by_cases hc:c∈X.fs
  ·obtain⟨sl,q⟩:=slot c o (I.cne x c e) hc nch ho (I.freeC x c e)
   exact⟨_,q,hd⟩
  ·exact⟨o,keep c o (I.cne x c e) hc nch ho (I.freeC x c e),hd⟩
 refine⟨I.ok,I.os,hg,⟨fun b o e n hb hx=>?_,fun b o e n hb hx=>?_,fun b o e n hx=>?_,fun b o e hx=>?_,fun b xs e=>tups b xs (I.base.tups b xs e),fun b o xs e=>frzs b o xs (I.base.frzs b o xs e),fun b ps e=>?_⟩,?_,fun x c e=>?_,?_,fun x c e=>?_,fun p hp=>?_,hok,I.len⟩
 ·exact keep b o (neL b o e) hb (neC b o e hx) (I.base.keep b o e n hb hx) (I.base.free b o e n hx)
 ·obtain⟨sl,e1⟩:=I.base.slot b o e n hb hx
  obtain⟨sl',e2⟩:=slot b _ (neL b o e) hb (neC b o e hx) e1 (I.base.free b o e n hx)
  exact⟨sl',e2⟩
 ·obtain⟨o',e1⟩:=I.base.there b o e hx
  exact free b o' (neC b o e hx) e1 (I.base.free b o e n hx)
 ·obtain⟨o',e1⟩:=I.base.there b o e hx
  exact there b o' (neC b o e hx) e1
 ·obtain⟨m1,e1⟩:=I.base.tbls b ps e
  obtain⟨m2,e2⟩:=tbls b _ e1
  exact⟨m1++m2,by rw[e2,Array.append_assoc]⟩
 ·obtain⟨m,hn,hl⟩:=I.loc
  refine⟨m,ns m hn,fun i x v e1 e2 e3=>?_⟩
  obtain⟨u,r,l⟩:=hl i x v e1 e2 e3
  refine⟨u,r,?_⟩
  rcases l with l | ⟨k,c,e,z⟩
  ·exact .inl l
  ·exact .inr ⟨k,c,e,cellK x c e _ z⟩
 ·obtain⟨v,z⟩:=I.cell x c e
  exact⟨v,cellK x c e v z⟩
 ·obtain⟨m,⟨o,_,_,ho,_⟩,_⟩:=I.loc
  exact free _ o (fun z=>(hch _ z).2.1 rfl) ho I.free
 ·obtain⟨v,o,ho,hd⟩:=I.cell x c e
  exact free c o (fun z=>(hch c z).2.2.1 x c e rfl) ho (I.freeC x c e)
 ·obtain⟨e,n,ne,nf,d⟩:=I.pin p hp
  have nch:p.1 ∉ ch:=fun z=>(hch p.1 z).2.2.2 p hp rfl
  exact⟨keep p.1 p.2 ne nf nch e n,free p.1 p.2 nch e n,ne,nf,d⟩
theorem Inv.un {t':Nat} (I:Inv X pins σ H s) (u:Un X.fs [] H H' s.heap h') (hok:HOk X.prog X.w H' h'):Inv X pins σ H' {s with heap:=h',toks:=t'}:=by
 obtain⟨m,⟨o,es,ep,ho,r⟩,_⟩:=id I.loc
 obtain⟨sl,hL⟩:=u.any ho I.free (by simp)
 exact I.step (g':=s.gens) (d':=s.drawn) (ch:=[]) (fun _ z=>nomatch z) (fun b o _ hb _ e n=>u.keep b o e n hb (by simp)) (fun b o _ hb _ e n=>u.slot b o e n hb (by simp)) (fun b o _ e n=>u.free b o e n (by simp)) (fun b o _ e=>u.there b o e (by simp)) u.tups u.frzs u.tbls (fun m' hm=>by
  obtain⟨o',es',ep',ho',r'⟩:=hm
  rw[ho] at ho';cases ho'
  exact⟨_,es',ep',hL,r'⟩) hok I.bare
theorem Inv.call {g':Array GenState} {t':Nat} {d':Drawn} {ch:List Addr} (I:Inv X pins σ H s) (u:Un (frs X.stack) ch H H' s.heap h') (hok:HOk X.prog X.w H' h') (hg:AllBare g')
  (hch:∀ b∈ch,(b∈X.ex∨X.s₀.heap.objs.size≤b)∧b≠X.env.locals∧(∀ x c,X.env.cells.lookup x=some c→c≠b)∧∀ p∈X.pn++pins,p.1≠b) :
  Inv X pins σ H' {s with heap:=h',gens:=g',drawn:=d',toks:=t'}:=by
 obtain⟨m,⟨o,es,ep,ho,r⟩,_⟩:=id I.loc
 obtain⟨sl,hL⟩:=u.any ho I.free fun z=>(hch _ z).2.1 rfl
 exact I.step (ch:=ch) hch (fun b o hL hb hc e n=>u.keep b o e n (fun z=>(List.mem_cons.mp (I.stkSub b z)).elim hL hb) hc) (fun b o _ _ hc e n=>u.any e n hc) (fun b o hc e n=>u.free b o e n hc) (fun b o hc e=>u.there b o e hc) u.tups u.frzs u.tbls (fun m' hm=>by
  obtain⟨o',es',ep',ho',r'⟩:=hm
  rw[ho] at ho';cases ho'
  exact⟨_,es',ep',hL,r'⟩) hok hg
theorem Inv.turned {t':Nat} {it:Addr} (I:Inv X pins σ H s) (k:∀ b o,b≠it→s.heap.get? b=some o→h'.get? b=some o) (hn:H it=none) (hL:it≠X.env.locals)
  (h1:it∈X.ex∨X.s₀.heap.objs.size≤it) (h2:∀ x c,X.env.cells.lookup x=some c→c≠it) (h3:∀ p∈X.pn++pins,p.1≠it):Inv X pins σ H {s with heap:=h',toks:=t'}:=by
 have nit:∀ b u,H b=some u→b≠it:=fun b u e z=>by rw[z,hn] at e;cases e
 refine I.step (g':=s.gens) (d':=s.drawn) (ch:=[it]) (fun b hb=>?_) (fun b o _ _ hc e _=>k b o (fun z=>hc (by simp[z])) e) (fun b o _ _ hc e _=>⟨o.slots,k b o (fun z=>hc (by simp[z])) e⟩) (fun _ _ _ _ n=>n)
  (fun b o hc e=>⟨o,k b o (fun z=>hc (by simp[z])) e⟩) (fun _ _ e=>e) (fun _ _ _ e=>e) (fun b ps e=>⟨#[],by rw[e];simp⟩) (fun m hm=>?_) (fun b u e=>?_) I.bare
 ·have e:b=it:=by simpa using hb
  subst e
  exact⟨h1,hL,h2,h3⟩
 ·obtain⟨o,es,ep,ho,r⟩:=hm
  exact⟨o,es,ep,k _ o (Ne.symm hL) ho,r⟩
 ·refine(I.hok b u e).stay (fun c v hc q=>k c v ?_ q) (fun _ q=>q) fun _ _ q=>q
  rcases hc with z | z
  ·rw[z];exact nit b u e
  ·exact nit c _ z
theorem Inv.tok (I:Inv X pins σ H s) (t:Nat):Inv X pins σ H {s with toks:=t}:=I.un (h':=s.heap) (t':=t) Un.refl I.hok
theorem Inv.kept {t':Nat} (I:Inv X pins σ H s) (k:∀ b u,s.heap.get? b=some u→h'.get? b=some u):Inv X pins σ H {s with heap:=h',toks:=t'}:=I.un (Un.kept k) (I.hok.kept k)
theorem Inv.laid {a:Addr} {o:HO} {t':Nat} (I:Inv X pins σ H s) (k:∀ b u,s.heap.get? b=some u→h'.get? b=some u) (hp:s.heap.objs.size≤a) (new:a3q X.prog X.w (upd H a o) h' a o) :
  Inv X pins σ (upd H a o) {s with heap:=h',toks:=t'}:=I.un (Un.laid k hp (I.hok.fresh hp)) (I.hok.laid k hp new)
theorem Inv.write {x e:Addr} {o:HO} {t':Nat} (I:Inv X pins σ H s) (mu:Mut (H x)) (he:e=x∨H e=some (.own x)) (k:∀ b u,b≠e→s.heap.get? b=some u→h'.get? b=some u) (heo:∃ u,h'.get? e=some u)
  (new:a3q X.prog X.w (upd H x o) h' x o):Inv X pins σ (upd H x o) {s with heap:=h',toks:=t'}:=I.un (Un.write mu he k heo) (I.hok.write mu he k heo new)
theorem Inv.pins_of {pins':List (Addr×Obj)} (I:Inv X pins σ H s) (h:∀ p∈pins',s.heap.get? p.1=some p.2∧H p.1=none∧p.1≠X.env.locals∧p.1 ∉ X.fs∧∀ v,p.2.data≠.cell v):Inv X pins' σ H s :=
 ⟨I.ok,I.os,I.bare,I.base,I.loc,I.cell,I.free,I.freeC,fun p hp=>(List.mem_append.mp hp).elim (fun z=>I.pin p (List.mem_append_left _ z)) (h p),I.hok,I.len⟩
theorem d2u {N:List Str} (hN:N.Nodup) {i j:Nat} {x:Str} (a:N[i]?=some x) (b:N[j]?=some x):i=j:=by
 obtain⟨h1,e1⟩:=List.getElem?_eq_some_iff.mp a
 obtain⟨h2,e2⟩:=List.getElem?_eq_some_iff.mp b
 exact(List.getElem_inj hN).mp (e1.trans e2.symm)
theorem c8t {M:Model} {A:Around} {E:Value→Shared→Prop} {i:Nat} {x:Str} {v:V} {u:Value} {Q:Unit→Shared→Prop} (I:Inv X pins σ H s) (hN:X.N.Nodup) (hi:X.N[i]?=some x) (hx:Loc X.env.scope x) (r:a3k v u)
  (h:∀ s',Inv X pins (σ.set i (some v)) H s'→(∃ a,Heap.SameBut a s.heap s'.heap∧(a=X.env.locals∨X.env.cells.lookup x=some a))→Q () s') (hf:X.fn x=true∨X.env.scope.names.lookup x=some .local:=by first | exact .inl rfl | exact .inr rfl | assumption):wpAny M A (storeName X.env x u) Q E s:=by
 obtain⟨m,hn,hl⟩:=id I.loc
 have hcls:(X.env.scope.kind == .class || (X.env.scope.kind == .module && X.env.locals != X.env.globals))=false:=by rw[I.ok.kind];rfl
 have hiσ:i < σ.length:=by rw[I.len];exact(List.getElem?_eq_some_iff.mp hi).1
 have cne:=I.cne
 have tracked:∀ {a:Addr} {h':Heap},(∃ o,s.heap.get? a=some o∧H a=none)→Heap.SameBut a s.heap h'→HOk X.prog X.w H h':=fun {a h'} ha hs b ob e=>by
  obtain⟨_,_,hfree⟩:=ha
  refine(I.hok b ob e).stay (fun c w' hc q=>(hs.2 c ?_).trans q) (fun _ q=>q) fun _ _ q=>q
  rintro rfl
  rcases hc with rfl | hc
  ·rw[hfree] at e;cases e
  ·rw[hfree] at hc;cases hc
 rcases hx with hk | hk
 ·refine wpAny_storeName_local hk hn (fun h' hn' hs=>?_) hcls
  obtain⟨oL,_,_,hoL,_⟩:=id hn
  refine h _ ⟨I.ok,I.os,I.bare,⟨fun b o e n hb hx=>?_,fun b o e n hb hx=>?_,I.base.free,fun b o e hx=>?_,I.base.tups,I.base.frzs,I.base.tbls⟩,⟨_,hn',fun j y v' e1 e2 e3=>?_⟩,fun y c e=>?_,I.free,I.freeC,fun p hp=>?_,tracked ⟨oL,hoL,I.free⟩ hs,by simpa using I.len⟩ ⟨_,hs,.inl rfl⟩
  ·exact(hs.2 b (Nat.ne_of_lt (Nat.lt_of_lt_of_le (Heap.lt_size e) I.ok.above))).trans (I.base.keep b o e n hb hx)
  ·obtain⟨sl,e1⟩:=I.base.slot b o e n hb hx
   exact⟨sl,(hs.2 b (Nat.ne_of_lt (Nat.lt_of_lt_of_le (Heap.lt_size e) I.ok.above))).trans e1⟩
  ·obtain⟨o',e1⟩:=I.base.there b o e hx
   exact⟨o',(hs.2 b (Nat.ne_of_lt (Nat.lt_of_lt_of_le (Heap.lt_size e) I.ok.above))).trans e1⟩
  ·by_cases hj:j=i
   ·subst hj
    rw[hi] at e1;cases e1
    rw[List.getElem?_set_self hiσ] at e2
    cases e2
    exact⟨u,r,.inl ⟨hk,by simp⟩⟩
   ·rw[List.getElem?_set_ne (Ne.symm hj)] at e2
    obtain⟨u',r',q⟩:=hl j y v' e1 e2 e3
    refine⟨u',r',?_⟩
    rcases q with ⟨k,e⟩ | ⟨k,c,e,z⟩
    ·refine .inl ⟨k,?_⟩
     have:y≠x:=fun e=>hj (d2u hN e1 (e ▸ hi))
     simp[this,e]
    ·exact .inr ⟨k,c,e,z.sameBut hs (cne y c e)⟩
  ·obtain⟨w',z⟩:=I.cell y c e
   exact⟨w',z.sameBut hs (cne y c e)⟩
  ·obtain⟨e,n,ne,nf,d⟩:=I.pin p hp
   exact⟨(hs.2 p.1 ne).trans e,n,ne,nf,d⟩
 ·have hfn:X.fn x=true:=by
   rcases hf with z | z
   ·exact z
   ·rw[z] at hk;cases hk
  obtain⟨c,hc⟩:=I.ok.has x (.inl hk)
  obtain⟨w',z⟩:=I.cell x c hc
  refine wpAny_storeName_cell I.ok.kind hk hc z (fun h' hc' hs=>?_)
  obtain⟨oc,hoc,hocd⟩:=id z
  refine h {s with heap:=h'} ⟨I.ok,I.os,I.bare,⟨fun b o e n hb hx=>?_,fun b o e n hb hx=>?_,I.base.free,fun b o e hx=>?_,I.base.tups,I.base.frzs,I.base.tbls⟩,⟨m,hn.sameBut hs (Ne.symm (cne x c hc)),fun j y v' e1 e2 e3=>?_⟩,fun y c' e=>?_,I.free,I.freeC,fun p hp=>?_,tracked ⟨oc,hoc,I.freeC x c hc⟩ hs,by simpa using I.len⟩ ⟨c,hs,.inr hc⟩
  ·exact(hs.2 b (Nat.ne_of_lt (Nat.lt_of_lt_of_le (Heap.lt_size e) (I.ok.cab x c hfn hc)))).trans (I.base.keep b o e n hb hx)
  ·obtain⟨sl,e1⟩:=I.base.slot b o e n hb hx
   exact⟨sl,(hs.2 b (Nat.ne_of_lt (Nat.lt_of_lt_of_le (Heap.lt_size e) (I.ok.cab x c hfn hc)))).trans e1⟩
  ·obtain⟨o',e1⟩:=I.base.there b o e hx
   exact⟨o',(hs.2 b (Nat.ne_of_lt (Nat.lt_of_lt_of_le (Heap.lt_size e) (I.ok.cab x c hfn hc)))).trans e1⟩
  ·by_cases hj:j=i
   ·subst hj
    rw[hi] at e1;cases e1
    rw[List.getElem?_set_self hiσ] at e2
    cases e2
    exact⟨u,r,.inr ⟨.inl hk,c,hc,hc'⟩⟩
   ·rw[List.getElem?_set_ne (Ne.symm hj)] at e2
    obtain⟨u',r',q⟩:=hl j y v' e1 e2 e3
    refine⟨u',r',?_⟩
    rcases q with q | ⟨k,c',e,z'⟩
    ·exact .inl q
    ·refine .inr ⟨k,c',e,z'.sameBut hs ?_⟩
     rintro rfl
     exact hj (d2u hN e1 (I.ok.inj _ _ _ e hc ▸ hi))
  ·by_cases hcc:c'=c
   ·subst hcc;exact⟨_,hc'⟩
   ·obtain⟨w2,z2⟩:=I.cell y c' e
    exact⟨w2,z2.sameBut hs hcc⟩
  ·obtain⟨e,n,ne,nf,d⟩:=I.pin p hp
   refine⟨(hs.2 p.1 ?_).trans e,n,ne,nf,d⟩
   intro q
   rw[q,hoc] at e
   have q':oc=p.2:=Option.some.inj e
   exact d w' (by rw[←q'];exact hocd)
theorem d1n {M:Model} {A:Around} {E:Value→Shared→Prop} {i:Nat} {x:Str} {v:V} {u:Value} {Q:Unit→Shared→Prop} (I:Inv X pins σ H s) (hN:X.N.Nodup) (hi:X.N[i]?=some x) (hx:Loc X.env.scope x) (r:a3k v u)
  (h:∀ s',Inv X pins (σ.set i (some v)) H s'→Q () s') (hf:X.fn x=true∨X.env.scope.names.lookup x=some .local:=by first | exact .inl rfl | exact .inr rfl | assumption):wpAny M A (storeName X.env x u) Q E s :=
 c8t I hN hi hx r (fun s' I' _=>h s' I') hf
theorem Inv.call' {s':Shared} {ch:List Addr} (I:Inv X pins σ H s) (ho:s'.os=s.os) (u:Un (frs X.stack) ch H H' s.heap s'.heap) (hok:HOk X.prog X.w H' s'.heap) (hg:AllBare s'.gens)
  (hch:∀ b∈ch,(b∈X.ex∨X.s₀.heap.objs.size≤b)∧b≠X.env.locals∧(∀ x c,X.env.cells.lookup x=some c→c≠b)∧∀ p∈X.pn++pins,p.1≠b):Inv X pins σ H' s':=by
 obtain⟨h',g',d',t',o'⟩:=s'
 have e:o'=s.os:=ho
 subst e
 exact I.call (g':=g') (t':=t') (d':=d') u hok hg hch
end
abbrev XK:=Value→Option Addr→Hp→Prop
abbrev St:=List (Option V)
abbrev VK:=V→Hp→Prop
abbrev TE:=St→Hp→VK→Prop
abbrev TT:=St→Hp→(Bool→Hp→Prop)→Prop
abbrev TA:=St→Hp→(List V→Hp→Prop)→Prop
structure c9e where
 nx:St→Hp→Prop
 rt:VK
 bk:St→Hp→Prop:=fun _ _=>False
 ct:St→Hp→Prop:=fun _ _=>False
abbrev TS:=c9e→St→Hp→Prop
def EP (X:Cx) (pins:List (Addr×Obj)) (σ:St) (Q:VK) (u:Value) (s':Shared):Prop:=∃ v H',Inv X pins σ H' s'∧a3k v u∧Q v H'
def TP (X:Cx) (pins:List (Addr×Obj)) (σ:St) (Q:Bool→Hp→Prop) (b:Bool) (s':Shared):Prop:=∃ H',Inv X pins σ H' s'∧Q b H'
def AP (X:Cx) (pins:List (Addr×Obj)) (σ:St) (Q:List V→Hp→Prop) (us:List Value) (s':Shared):Prop:=∃ vs H',Inv X pins σ H' s'∧a3e vs us∧Q vs H'
def SP (X:Cx) (pins:List (Addr×Obj)) (D:c9e) (f:Flow) (s':Shared):Prop :=
 match f with
 | .next=>∃ σ' H',Inv X pins σ' H' s'∧D.nx σ' H'
 | .brk=>∃ σ' H',Inv X pins σ' H' s'∧D.bk σ' H'
 | .cont=>∃ σ' H',Inv X pins σ' H' s'∧D.ct σ' H'
 | .ret u=>∃ v σ' H',Inv X pins σ' H' s'∧a3k v u∧D.rt v H'
structure PE (X:Cx) (e:Expr) (t:TE):Prop where
 run:∀ (pins:List (Addr×Obj)) (s:Shared) (σ:St) (H:Hp) (Q:VK),Inv X pins σ H s→t σ H Q→wpAny (model X.prog X.w) X.A (eval e X.env) (EP X pins σ Q) X.xe s
instance {X:Cx} {e:Expr} {t:TE}:CoeFun (PE X e t) fun _=>∀ (pins:List (Addr×Obj)) (s:Shared) (σ:St) (H:Hp) (Q:VK),Inv X pins σ H s→t σ H Q→wpAny (model X.prog X.w) X.A (eval e X.env) (EP X pins σ Q) X.xe s:=⟨PE.run⟩
structure PT (X:Cx) (e:Expr) (t:TT):Prop where
 run:∀ (pins:List (Addr×Obj)) (s:Shared) (σ:St) (H:Hp) (Q:Bool→Hp→Prop),Inv X pins σ H s→t σ H Q→wpAny (model X.prog X.w) X.A (isTrue e X.env (eval e X.env)) (TP X pins σ Q) X.xe s
instance {X:Cx} {e:Expr} {t:TT}:CoeFun (PT X e t) fun _=>∀ (pins:List (Addr×Obj)) (s:Shared) (σ:St) (H:Hp) (Q:Bool→Hp→Prop),Inv X pins σ H s→t σ H Q→wpAny (model X.prog X.w) X.A (isTrue e X.env (eval e X.env)) (TP X pins σ Q) X.xe s:=⟨PT.run⟩
structure PW (X:Cx) (e:Expr) (t:TT):Prop where
 run:∀ (whole:Sem Value) (pins:List (Addr×Obj)) (s:Shared) (σ:St) (H:Hp) (Q:Bool→Hp→Prop),Inv X pins σ H s→t σ H Q→wpAny (model X.prog X.w) X.A (isTrue e X.env whole) (TP X pins σ Q) X.xe s
instance {X:Cx} {e:Expr} {t:TT}:CoeFun (PW X e t) fun _=>∀ (whole:Sem Value) (pins:List (Addr×Obj)) (s:Shared) (σ:St) (H:Hp) (Q:Bool→Hp→Prop),Inv X pins σ H s→t σ H Q→wpAny (model X.prog X.w) X.A (isTrue e X.env whole) (TP X pins σ Q) X.xe s:=⟨PW.run⟩
theorem PW.pt {X:Cx} {e:Expr} {t:TT} (h:PW X e t):PT X e t:=⟨h.run _⟩
structure PA (X:Cx) (es:List Expr) (t:TA):Prop where
 run:∀ (pos:Pos) (pins:List (Addr×Obj)) (s:Shared) (σ:St) (H:Hp) (Q:List V→Hp→Prop),Inv X pins σ H s→t σ H Q→wpAny (model X.prog X.w) X.A (spliced (backTo pos (starEach es X.env))) (AP X pins σ Q) X.xe s
instance {X:Cx} {es:List Expr} {t:TA}:CoeFun (PA X es t) fun _=>∀ (pos:Pos) (pins:List (Addr×Obj)) (s:Shared) (σ:St) (H:Hp) (Q:List V→Hp→Prop),Inv X pins σ H s→t σ H Q→wpAny (model X.prog X.w) X.A (spliced (backTo pos (starEach es X.env))) (AP X pins σ Q) X.xe s:=⟨PA.run⟩
structure PS (X:Cx) (st:Stmt) (t:TS):Prop where
 run:∀ (pins:List (Addr×Obj)) (s:Shared) (σ:St) (H:Hp) (D:c9e),Inv X pins σ H s→t D σ H→wpAny (model X.prog X.w) X.A (exec st X.env) (SP X pins D) X.xe s
instance {X:Cx} {st:Stmt} {t:TS}:CoeFun (PS X st t) fun _=>∀ (pins:List (Addr×Obj)) (s:Shared) (σ:St) (H:Hp) (D:c9e),Inv X pins σ H s→t D σ H→wpAny (model X.prog X.w) X.A (exec st X.env) (SP X pins D) X.xe s:=⟨PS.run⟩
structure PSs (X:Cx) (st:List Stmt) (t:TS):Prop where
 run:∀ (pins:List (Addr×Obj)) (s:Shared) (σ:St) (H:Hp) (D:c9e),Inv X pins σ H s→t D σ H→wpAny (model X.prog X.w) X.A (execs st X.env) (SP X pins D) X.xe s
instance {X:Cx} {st:List Stmt} {t:TS}:CoeFun (PSs X st t) fun _=>∀ (pins:List (Addr×Obj)) (s:Shared) (σ:St) (H:Hp) (D:c9e),Inv X pins σ H s→t D σ H→wpAny (model X.prog X.w) X.A (execs st X.env) (SP X pins D) X.xe s:=⟨PSs.run⟩
theorem thn {α:Type} {t:Sem α} {Q Q':α→Shared→Prop} {M:Model} {A:Around} {E:Value→Shared→Prop} {s:Shared} (h:wpAny M A t Q E s) (hQ:∀ a s,Q a s→Q' a s):wpAny M A t Q' E s:=wpAny_mono h hQ fun _ _ x=>x
end L2
namespace L2
open PySem PySem.Spec PyProof.Rows
section
variable {X:Cx}
def d1a (i:Nat):TE:=fun σ H Q=>∃ v,σ[i]?=some (some v)∧Q v H
def tC (v:V):TE:=fun _ H Q=>Q v H
theorem e6u {i:Nat} {x:Str} {pos:Pos} (hN:X.N[i]?=some x) (hv:Vis X.env.scope x) (hd:(x == ("__debug__":Str))=false:=by decide) (hcd:(x == ("__classdict__":Str))=false:=by decide):PE X (.Name x pos) (d1a i):=by
 constructor;intro pins s σ H Q I h
 obtain⟨v,e,h⟩:=h
 obtain⟨m,hn,hl⟩:=I.loc
 obtain⟨u,r,l⟩:=hl i x v hN e hv
 have fin:EP X pins σ Q u s:=⟨v,H,I,r,h⟩
 rcases l with ⟨hk,hm⟩ | ⟨hk,c,hc,hcell⟩
 ·exact wpAny_Name (wpAny_loadName_local I.ok.kind hk hn hm fin) hd
 ·rcases hk with hk | hk
  ·exact wpAny_Name (wpAny_loadName_cell I.ok.kind hk hc hcell fin) hd
  ·exact wpAny_Name (wpAny_loadName_free I.ok.kind hk hc hcell fin hcd) hd
theorem a0c {i j pos}:PE X (.Constant (.int i) j pos) (tC (.int i)):=⟨fun _ _ _ H _ I h=>wpAny_Constant_int ⟨.int i,H,I.tok _,⟨_,rfl⟩,h⟩⟩
theorem b2m {b j pos}:PE X (.Constant (.bool b) j pos) (tC (.bl b)):=⟨fun _ _ _ H _ I h=>Constant_bool ⟨.bl b,H,I,rfl,h⟩⟩
theorem b2u {j pos}:PE X (.Constant .none j pos) (tC .non):=⟨fun _ _ _ H _ I h=>Constant_none ⟨.non,H,I,rfl,h⟩⟩
theorem a1p {x j pos}:PE X (.Constant (.str x) j pos) (tC (.str x)):=⟨fun _ _ _ H _ I h=>Calls.Constant_str ⟨.str x,H,I.tok _,⟨_,rfl⟩,h⟩⟩
def Gl (X:Cx) (x:Str):Prop:=X.env.kindOf x=some .globalImplicit
theorem c5n {E:Value→Shared→Prop} {pins:List (Addr×Obj)} {s:Shared} {σ:St} {H:Hp} {x:Str} {u:Value} {pos:Pos} {Q:Value→Shared→Prop} (I:Inv X pins σ H s) (hg:Gl X x) (hm:X.mg x=some u) (h:Q u s)
  (hd:(x == ("__debug__":Str))=false:=by decide):wpAny (model X.prog X.w) X.A (eval (.Name x pos) X.env) Q E s :=
 Calls.Name_function_global I.ok.kind hg (Calls.loadGlobal_global (by rw[I.ok.glob];exact I.mod.glob.keeps I.bk) hm h) hd
theorem c3h {E:Value→Shared→Prop} {pins:List (Addr×Obj)} {s:Shared} {σ:St} {H:Hp} {x:Str} {u:Value} {pos:Pos} {Q:Value→Shared→Prop} (I:Inv X pins σ H s) (hg:Gl X x) (hm:X.mg x=none) (hv:bootBuiltins x=some u) (h:Q u s)
  (hn:x≠"__name__":=by decide) (hd:(x == ("__debug__":Str))=false:=by decide):wpAny (model X.prog X.w) X.A (eval (.Name x pos) X.env) Q E s:=by
 obtain⟨mb,h1,h2⟩:=I.mod.blt
 exact Calls.Name_function_global I.ok.kind hg (Calls.loadGlobal_builtin (by rw[I.ok.glob];exact I.mod.glob.keeps I.bk) hm (by rw[I.ok.blt];exact h1.keeps I.bk) ((h2 x hn).trans hv) h) hd
theorem e5l {x:Str} {v:V} {u:Value} {pos:Pos} (hg:Gl X x) (hm:X.mg x=some u) (r:a3k v u) (hd:(x == ("__debug__":Str))=false:=by decide):PE X (.Name x pos) (tC v) :=
 ⟨fun _ _ _ H _ I h=>c5n I hg hm ⟨v,H,I,r,h⟩ hd⟩
theorem e4e {x:Str} {v:V} {u:Value} {pos:Pos} (hg:Gl X x) (hm:X.mg x=none) (hv:bootBuiltins x=some u) (r:a3k v u) (hn:x≠"__name__":=by decide) (hd:(x == ("__debug__":Str))=false:=by decide):PE X (.Name x pos) (tC v) :=
 ⟨fun _ _ _ H _ I h=>c3h I hg hm hv ⟨v,H,I,r,h⟩ hn hd⟩
variable {a b:Expr} {ta tb:TE} {pos:Pos}
def tB (t:TE):TT:=fun σ H Q=>t σ H fun x H1=>∃ c,x=.bl c∧Q c H1
theorem b8u {e:Expr} {t:TE} (h:PE X e t) (he:∀ whole,isTrue e X.env whole=(do let v ← whole;standAt e.pos;holding [v] (truthy v)):=by intro _;rfl):PT X e (tB t):=by
 constructor;intro pins s σ H Q I hw
 refine isTrue_plain (thn (h pins s σ H _ I hw) fun v s1 ⟨x,H1,I1,r1,q1⟩=>?_) (he _)
 obtain⟨d,rfl,q⟩:=q1
 cases r1
 exact wpAny_truthy_bool ⟨H1,I1,q⟩
variable {tA tB':TT} {c6d:List Expr}
def f1g (t u:TT):TT:=fun σ H Q=>t σ H fun c H1=>if c=true then u σ H1 Q else Q false H1
def tOr (t u:TT):TT:=fun σ H Q=>t σ H fun c H1=>if c=true then Q true H1 else u σ H1 Q
def f1t (t:TT):TT:=fun σ H Q=>t σ H fun c H1=>Q (!c) H1
theorem a8l (ha:PT X a tA):PW X (.BoolOp .And [a] pos) tA:=by
 constructor;intro wh pins s σ H Q I h
 refine isTrue_and (thn (ha pins s σ H Q I h) fun c s1 e=>?_)
 cases c with
 | true=>exact isTrue_and_nil e
 | false=>exact e
theorem d5p (ha:PT X a tA):PW X (.BoolOp .Or [a] pos) tA:=by
 constructor;intro wh pins s σ H Q I h
 refine isTrue_or (thn (ha pins s σ H Q I h) fun c s1 e=>?_)
 cases c with
 | false=>exact isTrue_or_nil e
 | true=>exact e
theorem b3a (ha:PT X a tA) (hb:PW X (.BoolOp .And (b::c6d) pos) tB'):PW X (.BoolOp .And (a::b::c6d) pos) (f1g tA tB'):=by
 constructor;intro wh pins s σ H Q I h
 refine isTrue_and (thn (ha pins s σ H _ I h) fun c s1 ⟨H1,I1,q1⟩=>?_)
 cases c with
 | true=>exact hb wh pins s1 σ H1 Q I1 q1
 | false=>exact⟨H1,I1,q1⟩
theorem d9f (ha:PT X a tA) (hb:PW X (.BoolOp .Or (b::c6d) pos) tB'):PW X (.BoolOp .Or (a::b::c6d) pos) (tOr tA tB'):=by
 constructor;intro wh pins s σ H Q I h
 refine isTrue_or (thn (ha pins s σ H _ I h) fun c s1 ⟨H1,I1,q1⟩=>?_)
 cases c with
 | true=>exact⟨H1,I1,q1⟩
 | false=>exact hb wh pins s1 σ H1 Q I1 q1
theorem c7l (ha:PT X a tA):PT X (.UnaryOp .Not a pos) (f1t tA):=by
 constructor;intro pins s σ H Q I h
 exact isTrue_not (ha pins s σ H (fun c H1=>Q (!c) H1) I h)
def e9q (ta tb:TE):TE:=fun σ H Q=>ta σ H fun x H1=>∃ c,x=.bl c∧if c=true then tb σ H1 Q else Q (.bl false) H1
def e9j (ta:TE):TE:=fun σ H Q=>ta σ H fun x H1=>∃ c,x=.bl c∧Q (.bl (!c)) H1
theorem e3d {op} {t:TE} (h:PE X a t):PE X (.BoolOp op [a] pos) t:=⟨fun pins s σ H Q I hw=>BoolOp_one (h pins s σ H Q I hw)⟩
theorem e3f (ha:PE X a ta) (hb:PE X (.BoolOp .And (b::c6d) pos) tb):PE X (.BoolOp .And (a::b::c6d) pos) (e9q ta tb):=by
 constructor;intro pins s σ H Q I h
 refine BoolOp_and (thn (ha pins s σ H _ I h) fun v s1 ⟨x,H1,I1,r1,q1⟩=>?_)
 obtain⟨c,rfl,q1⟩:=q1
 cases r1
 refine wpAny_truthy_bool ?_
 cases c with
 | true=>exact hb pins s1 σ H1 Q I1 q1
 | false=>exact⟨.bl false,H1,I1,rfl,q1⟩
theorem e7j (ha:PE X a ta):PE X (.UnaryOp .Not a pos) (e9j ta):=by
 constructor;intro pins s σ H Q I h
 refine UnaryOp_ (thn (ha pins s σ H _ I h) fun v s1 ⟨x,H1,I1,r1,q1⟩=>?_)
 obtain⟨c,rfl,q1⟩:=q1
 cases r1
 exact not_of (wpAny_truthy_bool ⟨.bl (!c),H1,I1,rfl,q1⟩)
def tIf (t:TT) (ta tb:TE):TE:=fun σ H Q=>t σ H fun c H1=>if c=true then ta σ H1 Q else tb σ H1 Q
theorem e0u {c:Expr} (hc:PT X c tA) (ha:PE X a ta) (hb:PE X b tb):PE X (.IfExp c a b pos) (tIf tA ta tb):=by
 constructor;intro pins s σ H Q I h
 refine wpAny_IfExp (thn (hc pins s σ H _ I h) fun d s1 ⟨H1,I1,q1⟩=>?_)
 cases d with
 | true=>exact ha pins s1 σ H1 Q I1 q1
 | false=>exact hb pins s1 σ H1 Q I1 q1
end
end L2
namespace L2
open PySem PySem.Spec PyProof.Rows
def SqL (K:PySem.W.Frag) (H:Hp) (a:Addr) (xs:List V):Prop :=
 Rd H a (.lst xs) ∨
  ∃ (o:Obj) (its:Array Value) (n:Nat),K.lookup a=some o∧o.cls=.type "list"∧o.dict=none∧o.data=.seq its n∧its.size≤sizeLine∧a3e xs its.toList
def SqT (K:PySem.W.Frag) (H:Hp) (a:Addr) (xs:List V):Prop :=
 Rd H a (.tup xs) ∨
  ∃ (o:Obj) (its:Array Value) (n:Nat),K.lookup a=some o∧o.cls=.type "tuple"∧o.data=.seq its n∧its.size≤sizeLine∧a3e xs its.toList
def f1y:Value→Option V
 | .none=>some .non
 | .bool b=>some (.bl b)
 | .int i _=>some (.int i)
 | .str x _=>some (.str x)
 | .bytes b _=>some (.byt b)
 | .float b _=>some (.flt b)
 | .ref a=>some (.ref a)
 | .type n=>some (.ty n)
 | _=>none
theorem a3k.abs {x:V} {u:Value} (r:a3k x u):f1y u=some x:=by
 cases x with
 | non=>cases r;rfl
 | bl _=>cases r;rfl
 | int _=>obtain⟨t,rfl⟩:=r;rfl
 | str _=>obtain⟨t,rfl⟩:=r;rfl
 | byt _=>obtain⟨t,rfl⟩:=r;rfl
 | flt _=>obtain⟨t,rfl⟩:=r;rfl
 | ref _=>cases r;rfl
 | ty _=>cases r;rfl
theorem a3k.inj {x y:V} {u:Value} (r:a3k x u) (q:a3k y u):x=y:=Option.some.inj (r.abs.symm.trans q.abs)
theorem a3e.inj:∀ {xs ys:List V} {us:List Value},a3e xs us→a3e ys us→xs=ys
 | _,_,_,.nil,.nil=>rfl
 | _,_,_,.cons r t,.cons r' t'=>by rw[r.inj r',a3e.inj t t']
section
variable {X:Cx} {pins:List (Addr×Obj)} {σ:St} {H:Hp} {s:Shared} {a:Addr} {xs ys:List V}
theorem SqL.of {K:PySem.W.Frag} (h:H a=some (.lst xs)):SqL K H a xs:=.inl (.inl h)
theorem SqT.of {K:PySem.W.Frag} (h:H a=some (.tup xs)):SqT K H a xs:=.inl (.inl h)
theorem Inv.list (I:Inv X pins σ H s) (h:SqL X.K H a xs):∃ its:List Value,a3e xs its∧PlainL s.heap a its.toArray∧xs.length≤sizeLine:=by
 rcases h with h | ⟨o,its,n,hk,hc,hd,hs,hz,r⟩
 ·obtain⟨z,its,n,r,e⟩:=h.ok I.hok
  exact⟨its,r,⟨_,n,e,rfl,rfl,rfl⟩,z⟩
 ·refine⟨its.toList,r,⟨o,n,I.kIn a o hk,hc,hd,by simpa using hs⟩,?_⟩
  have e:=r.length
  simp only [Array.length_toList] at e
  omega
theorem Inv.tuple (I:Inv X pins σ H s) (h:SqT X.K H a xs):∃ its:List Value,a3e xs its∧IsTup s.heap a its.toArray∧xs.length≤sizeLine:=by
 rcases h with h | ⟨o,its,n,hk,hc,hs,hz,r⟩
 ·obtain⟨z,its,r,p⟩:=h.ok I.hok
  exact⟨its,r,p,z⟩
 ·refine⟨its.toList,r,⟨o,I.kIn a o hk,hc,n,by simpa using hs⟩,?_⟩
  have e:=r.length
  simp only [Array.length_toList] at e
  omega
theorem Inv.list_inj (I:Inv X pins σ H s) (h:SqL X.K H a xs) (h':SqL X.K H a ys):xs=ys:=by
 obtain⟨its,r,⟨o,n,e,_,_,d⟩,_⟩:=I.list h
 obtain⟨its',r',⟨o',n',e',_,_,d'⟩,_⟩:=I.list h'
 rw[e] at e';cases e'
 rw[d] at d'
 injection d' with d1 _
 have:its=its':=by simpa using congrArg Array.toList d1
 subst this
 exact r.inj r'
theorem Inv.tuple_inj (I:Inv X pins σ H s) (h:SqT X.K H a xs) (h':SqT X.K H a ys):xs=ys:=by
 obtain⟨its,r,⟨o,e,_,n,d⟩,_⟩:=I.tuple h
 obtain⟨its',r',⟨o',e',_,n',d'⟩,_⟩:=I.tuple h'
 rw[e] at e';cases e'
 rw[d] at d'
 injection d' with d1 _
 have:its=its':=by simpa using congrArg Array.toList d1
 subst this
 exact r.inj r'
end
abbrev Cx.wish (X:Cx) (E:Value→Shared→Prop):Cx:={X with xe:=E}
abbrev Cx.nox (X:Cx):Cx:=X.wish fun _ _=>False
theorem Cx.Ok.wish {X:Cx} (ok:X.Ok) (E:Value→Shared→Prop):(X.wish E).Ok :=
 ⟨ok.mod,ok.kind,ok.glob,ok.blt,ok.above,ok.inj,ok.has,ok.cab,ok.hd,ok.frames,ok.stk,ok.exf,ok.bs,ok.bsz,ok.noex,ok.exfs,ok.funs,ok.frf⟩
theorem Cx.Ok.unwish {X:Cx} {E:Value→Shared→Prop} (ok:(X.wish E).Ok):X.Ok :=
 ⟨ok.mod,ok.kind,ok.glob,ok.blt,ok.above,ok.inj,ok.has,ok.cab,ok.hd,ok.frames,ok.stk,ok.exf,ok.bs,ok.bsz,ok.noex,ok.exfs,ok.funs,ok.frf⟩
section
variable {X:Cx} {pins:List (Addr×Obj)} {σ:St} {H:Hp} {s:Shared} {E:Value→Shared→Prop}
theorem Inv.wish (I:Inv X pins σ H s) (E:Value→Shared→Prop):Inv (X.wish E) pins σ H s:=⟨I.ok.wish E,I.os,I.bare,I.base,I.loc,I.cell,I.free,I.freeC,I.pin,I.hok,I.len⟩
theorem Inv.unwish (I:Inv (X.wish E) pins σ H s):Inv X pins σ H s:=⟨I.ok.unwish,I.os,I.bare,I.base,I.loc,I.cell,I.free,I.freeC,I.pin,I.hok,I.len⟩
theorem SP.unwish {D:c9e} {f:Flow} {s':Shared} (h:SP (X.wish E) pins D f s'):SP X pins D f s':=by
 cases f with
 | next=>obtain⟨σ',H',I,q⟩:=h;exact⟨σ',H',I.unwish,q⟩
 | brk=>obtain⟨σ',H',I,q⟩:=h;exact⟨σ',H',I.unwish,q⟩
 | cont=>obtain⟨σ',H',I,q⟩:=h;exact⟨σ',H',I.unwish,q⟩
 | ret u=>obtain⟨v,σ',H',I,r,q⟩:=h;exact⟨v,σ',H',I.unwish,r,q⟩
theorem PE.nox {e:Expr} {t:TE} (h:PE X.nox e t):PE X e t:=⟨fun pins s σ H Q I hw =>
 wpAny_mono (h pins s σ H Q (I.wish _) hw) (fun _ _ ⟨v,H',I',r,q⟩=>⟨v,H',I'.unwish,r,q⟩) fun _ _ z=>False.elim z⟩
theorem PT.nox {e:Expr} {t:TT} (h:PT X.nox e t):PT X e t:=⟨fun pins s σ H Q I hw =>
 wpAny_mono (h pins s σ H Q (I.wish _) hw) (fun _ _ ⟨H',I',q⟩=>⟨H',I'.unwish,q⟩) fun _ _ z=>False.elim z⟩
theorem PSs.nox {st:List Stmt} {t:TS} (h:PSs X.nox st t):PSs X st t:=⟨fun pins s σ H D I hw =>
 wpAny_mono (h pins s σ H D (I.wish _) hw) (fun _ _ q=>q.unwish) fun _ _ z=>False.elim z⟩
end
section
variable {X:Cx} {st:Stmt} {c6d:List Stmt} {t u:TS} {e:Expr} {te:TE} {pos:Pos}
def e8s:TS:=fun D σ H=>D.nx σ H
def e6j (t u:TS):TS:=fun D σ H=>t {D with nx:=u D} σ H
theorem a1a:PSs X [] e8s:=⟨fun _ _ σ H _ I h=>wpAny_execs_nil ⟨σ,H,I,h⟩⟩
theorem a0e (h1:PS X st t) (h2:PSs X c6d u):PSs X (st::c6d) (e6j t u):=by
 constructor;intro pins s σ H D I h
 refine wpAny_execs_cons (thn (h1 pins s σ H {D with nx:=u D} I h) fun f s1 q=>?_)
 cases f with
 | next =>
  obtain⟨σ',H',I',q⟩:=q
  exact h2 pins s1 σ' H' D I' q
 | ret v=>exact q
 | brk=>exact q
 | cont=>exact q
theorem a0g (h1:PS X st t):PSs X [st] t:=by
 constructor;intro pins s σ H D I h
 refine wpAny_execs_cons (thn (h1 pins s σ H D I h) fun f s1 q=>?_)
 cases f with
 | next=>exact wpAny_execs_nil q
 | ret v=>exact q
 | brk=>exact q
 | cont=>exact q
theorem Inv.quiet {pins:List (Addr×Obj)} {σ:St} {H:Hp} {s:Shared} (I:Inv X pins σ H s):interactive X.env=false:=by simp[interactive,I.ok.kind]
def e7n (te:TE):TS:=fun D σ H=>te σ H fun _ H1=>D.nx σ H1
theorem a5t (he:PE X e te) (hs:swapsWith e none pos.line X.env=pure false:=by rfl):PS X (.Expr e pos) (e7n te):=by
 constructor;intro pins s σ H D I h
 exact wpAny_Expr_any (thn (he pins s σ H _ I h) fun v s1 ⟨x,H1,I1,r1,q1⟩=>⟨σ,H1,I1,q1⟩) I.quiet hs
def f1c (te:TE):TS:=fun D σ H=>te σ H D.rt
theorem a0s (he:PE X e te):PS X (.Return (some e) pos) (f1c te):=by
 constructor;intro pins s σ H D I h
 exact wpAny_Return_some (thn (he pins s σ H _ I h) fun v s1 ⟨x,H1,I1,r1,q1⟩=>⟨x,σ,H1,I1,r1,q1⟩)
def f1f (c:TT) (t u:TS):TS:=fun D σ H=>c σ H fun b H1=>if b=true then t D σ H1 else u D σ H1
theorem a3n {c:Expr} {a b:List Stmt} {tc:TT} (hc:PT X c tc) (ha:PSs X a t) (hb:PSs X b u):PS X (.If c a b pos) (f1f tc t u):=by
 constructor;intro pins s σ H D I h
 refine wpAny_If (thn (hc pins s σ H _ I h) fun d s1 ⟨H1,I1,q1⟩=>?_)
 cases d with
 | true=>exact ha pins s1 σ H1 D I1 q1
 | false=>exact hb pins s1 σ H1 D I1 q1
end
abbrev TG:=V→St→Hp→(St→Hp→Prop)→Prop
abbrev TGs:=List V→St→Hp→(St→Hp→Prop)→Prop
structure PG (X:Cx) (target:Expr) (t:TG):Prop where
 run:∀ (pins:List (Addr×Obj)) (s:Shared) (σ:St) (H:Hp) (v:V) (u:Value) (Q:St→Hp→Prop),Inv X pins σ H s→a3k v u→t v σ H Q →
  wpAny (model X.prog X.w) X.A (assign target X.env u) (fun _ s'=>∃ σ' H',Inv X pins σ' H' s'∧Q σ' H') X.xe s
instance {X:Cx} {target:Expr} {t:TG}:CoeFun (PG X target t) fun _=>∀ (pins:List (Addr×Obj)) (s:Shared) (σ:St) (H:Hp) (v:V) (u:Value) (Q:St→Hp→Prop),Inv X pins σ H s→a3k v u→t v σ H Q →
  wpAny (model X.prog X.w) X.A (assign target X.env u) (fun _ s'=>∃ σ' H',Inv X pins σ' H' s'∧Q σ' H') X.xe s:=⟨PG.run⟩
structure PGs (X:Cx) (ts:List Expr) (t:TGs):Prop where
 run:∀ (pins:List (Addr×Obj)) (s:Shared) (σ:St) (H:Hp) (vs:List V) (us:List Value) (Q:St→Hp→Prop),Inv X pins σ H s→a3e vs us→t vs σ H Q →
  wpAny (model X.prog X.w) X.A (assignInOrder ((assignEach ts X.env).map (·.2)) us) (fun _ s'=>∃ σ' H',Inv X pins σ' H' s'∧Q σ' H') X.xe s
instance {X:Cx} {ts:List Expr} {t:TGs}:CoeFun (PGs X ts t) fun _=>∀ (pins:List (Addr×Obj)) (s:Shared) (σ:St) (H:Hp) (vs:List V) (us:List Value) (Q:St→Hp→Prop),Inv X pins σ H s→a3e vs us→t vs σ H Q →
  wpAny (model X.prog X.w) X.A (assignInOrder ((assignEach ts X.env).map (·.2)) us) (fun _ s'=>∃ σ' H',Inv X pins σ' H' s'∧Q σ' H') X.xe s:=⟨PGs.run⟩
abbrev f0e:=V→V→V→Hp→(Hp→Prop)→Prop
def e9m (X:Cx) (t:f0e):Prop :=
 ∀ (pins:List (Addr×Obj)) (s:Shared) (σ:St) (H:Hp) (o i v:V) (ov iv u:Value) (Q:Hp→Prop),Inv X pins σ H s→a3k o ov→a3k i iv→a3k v u→t o i v H Q →
  wpAny (model X.prog X.w) X.A (setItem ov iv u) (fun _ s'=>∃ H',Inv X pins σ H' s'∧Q H') X.xe s
section
variable {X:Cx} {pos:Pos}
def e8k (i:Nat):TG:=fun v σ H Q=>Q (σ.set i (some v)) H
theorem a0i {i:Nat} {x:Str} (hN:X.N.Nodup) (hi:X.N[i]?=some x) (hx:Loc X.env.scope x) (hf:X.fn x=true∨X.env.scope.names.lookup x=some .local:=by first | exact .inl rfl | exact .inr rfl | assumption):PG X (.Name x pos) (e8k i):=by
 constructor;intro pins s σ H v u Q I r h
 exact wpAny_assign_Name (d1n I hN hi hx r (fun s' I'=>⟨_,H,I',h⟩) hf)
def f2d:TGs:=fun vs σ H Q=>vs=[]∧Q σ H
def e9x (t:TG) (u:TGs):TGs:=fun vs σ H Q=>∃ v r,vs=v::r∧t v σ H fun σ' H'=>u r σ' H' Q
theorem a4o:PGs X [] f2d:=by
 constructor;intro pins s σ H vs us Q I r h
 obtain⟨e,h⟩:=h
 subst e
 cases r
 exact assignInOrder_nil ⟨σ,H,I,h⟩
theorem a0u {e:Expr} {es:List Expr} {t:TG} {u:TGs} (h1:PG X e t) (h2:PGs X es u)
  (hs:(assignEach (e::es) X.env).map (·.2)=assign e X.env::(assignEach es X.env).map (·.2):=by rfl):PGs X (e::es) (e9x t u):=by
 constructor;intro pins s σ H vs us Q I r h
 obtain⟨v,vr,e1,h⟩:=h
 subst e1
 cases r with
 | cons r rr =>
  rw[hs]
  refine assignInOrder_cons (thn (h1 pins s σ H _ _ _ I r h) fun _ s1 ⟨σ1,H1,I1,q1⟩=>?_)
  exact h2 pins s1 σ1 H1 _ _ Q I1 rr q1
def f1j (K:PySem.W.Frag) (n:Nat) (t:TGs):TG:=fun v σ H Q=>∃ a xs,v=.ref a∧SqT K H a xs∧xs.length=n∧t xs σ H Q
theorem b0k {es:List Expr} {k:Nat} {t:TGs} {n:Nat} (hc:X.calm=true) (h:PGs X es t)
  (hn:(assignEach es X.env).length=n:=by rfl) (hst:(assignEach es X.env).findIdx? (·.1)=none:=by rfl):PG X (.Tuple es k pos) (f1j X.K n t):=by
 constructor;intro pins s σ H v u Q I r hw
 obtain⟨a,xs,e1,hq,hl,hw⟩:=hw
 subst e1
 cases r
 obtain⟨its,rv,ht,hz⟩:=I.tuple hq
 refine assign_Tuple_tuple (I.ok.hd hc) ht (by simp[hn,←hl,rv.length]) hst fun h' hx=>?_
 have I1:Inv X pins σ H {s with heap:=h'}:=I.kept (t':=s.toks) fun b o e=>hx b o (Nat.ne_of_lt (Heap.lt_size e)) e
 exact h pins _ σ H xs _ Q I1 (by simpa using rv) hw
def f0y (to ti:TE) (t:f0e):TG:=fun v σ H Q=>to σ H fun o H1=>ti σ H1 fun i H2=>t o i v H2 fun H3=>Q σ H3
theorem d5d {o i:Expr} {to ti:TE} {t:f0e} (ho:PE X o to) (hi:PE X i ti) (hs:e9m X t)
  (ha:∀ v,assign (.Subscript o i pos) X.env v=(do
   let ov ← holding [v] (eval o X.env)
   let iv ← holding [v,ov] (eval i X.env)
   standAt pos
   holding [v,ov,iv] (setItem ov iv v)
   release [v,ov,iv] []):=by intro _;rfl):PG X (.Subscript o i pos) (f0y to ti t):=by
 constructor;intro pins s σ H v u Q I r h
 rw[ha]
 refine wpAny_bind (wpAny_holding (thn (ho pins s σ H _ I h) fun ov s1 ⟨x,H1,I1,r1,q1⟩=>?_))
 refine wpAny_bind (wpAny_holding (thn (hi pins s1 σ H1 _ I1 q1) fun iv s2 ⟨y,H2,I2,r2,q2⟩=>?_))
 refine wpAny_bind (wpAny_standAt (wpAny_bind (wpAny_holding (thn (hs pins s2 σ H2 x y v ov iv u _ I2 r1 r2 r q2) fun _ s3 ⟨H3,I3,q3⟩=>?_))))
 exact wpAny_release ⟨σ,H3,I3,q3⟩
def e9l (te:TE) (g:TG):TS:=fun D σ H=>te σ H fun x H1=>g x σ H1 D.nx
theorem c0g {tg e:Expr} {te:TE} {g:TG} (he:PE X e te) (hg:PG X tg g) (hs:swapsWithSole [tg] e pos.line X.env=pure false:=by rfl) (hw:swappedStores [tg] e X.env=pure none:=by rfl)
  (h1:(assignEach [tg] X.env).map (·.2)=[assign tg X.env]:=by rfl):PS X (.Assign [tg] e pos) (e9l te g):=by
 constructor;intro pins s σ H D I h
 refine wpAny_Assign_stores (thn (he pins s σ H _ I h) fun v s1 ⟨x,H1,I1,r1,q1⟩=>?_) hs hw
 rw[h1]
 exact thn (hg pins s1 σ H1 x v _ I1 r1 q1) fun _ s2 q=>q
theorem a0n {i:Nat} {x:Str} {e:Expr} {te:TE} {pos':Pos} (hN:X.N.Nodup) (hi:X.N[i]?=some x) (hx:Loc X.env.scope x) (he:PE X e te) (hs:swapsWith e (some (.Name x pos')) pos.line X.env=pure false:=by rfl) (hf:X.fn x=true∨X.env.scope.names.lookup x=some .local:=by first | exact .inl rfl | exact .inr rfl | assumption) :
  PS X (.Assign [.Name x pos'] e pos) (e9l te (e8k i)):=by
 constructor;intro pins s σ H D I h
 refine wpAny_Assign_Name (thn (he pins s σ H _ I h) fun v s1 ⟨y,H1,I1,r1,q1⟩=>?_) hs
 exact d1n I1 hN hi hx r1 (fun s2 I2=>⟨_,H1,I2,q1⟩) hf
end
structure It where
 go:Nat→Hp→Prop
 yld:Nat→Hp→V→Hp→Prop
 stop:Nat→Hp→Prop
def d2l (X:Cx) (pins:List (Addr×Obj)) (H:Hp) (b:Addr):Prop :=
 H b=none∧b≠X.env.locals∧b ∉ X.fs∧(b∈X.ex∨X.s₀.heap.objs.size≤b)∧(∀ x c,X.env.cells.lookup x=some c→c≠b)∧∀ p∈X.pn++pins,p.1≠b
theorem Inv.fpOk {X:Cx} {pins:List (Addr×Obj)} {σ:St} {H H':Hp} {s:Shared} {b:Addr} (I:Inv X pins σ H s) (hb:s.heap.objs.size≤b) (hn:H' b=none):d2l X pins H' b:=by
 refine⟨hn,Nat.ne_of_gt (Nat.lt_of_lt_of_le I.lt hb),I.nofs hb,.inr (Nat.le_trans I.sz hb),fun x c e z=>?_,fun p hp z=>?_⟩
 ·obtain⟨v,q⟩:=I.cell x c e
  exact absurd (Nat.lt_of_lt_of_le q.lt (by rw[z];exact hb)) (Nat.lt_irrefl _)
 ·exact absurd (Nat.lt_of_lt_of_le (Heap.lt_size (I.pin p hp).1) (by rw[z];exact hb)) (Nat.lt_irrefl _)
structure e3u (P:Program) (w:World) (K:PySem.W.Frag) (tg:Expr) (J:It) (fp:List Addr) (it:Addr) (tn:Nat→Heap→Prop):Prop where
 mem:it∈fp
 obj:∀ i h,tn i h→∀ b∈fp,∃ o,h.get? b=some o∧∀ v,o.data≠.cell v
 keep:∀ i h h',tn i h→(∀ b∈fp,∀ o,h.get? b=some o→h'.get? b=some o)→tn i h'
 item:∀ (X:Cx),X.prog=P→X.w=w→X.K=K→X.calm=true→∀ (i:Nat) (pins:List (Addr×Obj)) (s:Shared) (σ:St) (H:Hp) (E:Value→Shared→Prop),Inv X pins σ H s→(∀ b∈fp,d2l X pins H b)→tn i s.heap→J.go i H →
  wpAny (model P w) X.A (pyNext (.ref it)) (fun r s1=>∃ u,r=some u ∧
   wpAny (model P w) X.A (letOwnedTupleGo tg (.ref it) u) (fun _ s2=>∃ x H',Inv X pins σ H' s2∧a3k x u∧J.yld i H x H'∧tn (i+1) s2.heap∧∀ b∈fp,H' b=none) E s1) E s
 done:∀ (X:Cx),X.prog=P→X.w=w→X.K=K→X.calm=true→∀ (i:Nat) (pins:List (Addr×Obj)) (s:Shared) (σ:St) (H:Hp) (E:Value→Shared→Prop),Inv X pins σ H s→(∀ b∈fp,d2l X pins H b)→tn i s.heap→J.stop i H →
  wpAny (model P w) X.A (pyNext (.ref it)) (fun r s1=>r=none∧Inv X pins σ H s1) E s
 self:∀ (A:Around) (i:Nat) (s:Shared) (Q:Value→Shared→Prop) (E:Value→Shared→Prop),tn i s.heap→Q (.ref it) s→wpAny (model P w) A (pyIter (.ref it)) Q E s
abbrev TI:=St→Hp→(It→Hp→Prop)→Prop
def PIE (X:Cx) (pins:List (Addr×Obj)) (σ:St) (tg:Expr) (R:It→Hp→Prop) (itv:Value) (s2:Shared):Prop :=
 ∃ (it:Addr) (fp:List Addr) (tn:Nat→Heap→Prop) (J:It) (H':Hp),itv=.ref it∧Inv X pins σ H' s2∧e3u X.prog X.w X.K tg J fp it tn∧tn 0 s2.heap∧(∀ b∈fp,d2l X pins H' b)∧R J H'
structure PI (X:Cx) (tg iter:Expr) (wi:TI):Prop where
 run:∀ (pins:List (Addr×Obj)) (s:Shared) (σ:St) (H:Hp) (R:It→Hp→Prop),Inv X pins σ H s→wi σ H R →
  wpAny (model X.prog X.w) X.A (eval iter X.env) (fun v s1=>wpAny (model X.prog X.w) X.A (pyIter v) (PIE X pins σ tg R) X.xe s1) X.xe s
instance {X:Cx} {tg iter:Expr} {wi:TI}:CoeFun (PI X tg iter wi) fun _=>∀ (pins:List (Addr×Obj)) (s:Shared) (σ:St) (H:Hp) (R:It→Hp→Prop),Inv X pins σ H s→wi σ H R →
  wpAny (model X.prog X.w) X.A (eval iter X.env) (fun v s1=>wpAny (model X.prog X.w) X.A (pyIter v) (PIE X pins σ tg R) X.xe s1) X.xe s:=⟨PI.run⟩
theorem e4z {M:Model} {A:Around} {E:Value→Shared→Prop} {s:Shared} {tg:Expr} {it:Addr} {u:Value} {o:Obj} {n:String} {vs:Array Value} {Q:Unit→Shared→Prop} (ho:s.heap.get? it=some o) (hc:o.cls=.type n) (hd:o.data=.fields vs)
    (hn:["enumerate","zip","dict_itemiterator","dict_reverseitemiterator","odict_iterator","itertools.zip_longest","itertools.pairwise"].contains n=false) (hQ:Q () s):wpAny M A (letOwnedTupleGo tg (.ref it) u) Q E s:=by
  unfold letOwnedTupleGo
  cases tg<;>first
    | exact wpAny_pure hQ
    | (cases u<;>first
        | exact wpAny_pure hQ
        | (refine wpAny_bind (wpAny_load ho ?_)
           rw[hc,hd]
           show wpAny M A (if (["enumerate","zip","dict_itemiterator","dict_reverseitemiterator","odict_iterator","itertools.zip_longest","itertools.pairwise"].contains n && vs[0]? == some (rawInt _))=true then _ else _) Q E s
           rw[if_neg (by intro h;rw[hn,Bool.false_and] at h;cases h)]
           exact wpAny_pure hQ))
def Itl (K:PySem.W.Frag) (a:Addr):It :=
 ⟨fun i H=>∃ xs x,SqL K H a xs∧xs[i]?=some x,fun i H x H'=>H'=H∧∀ xs,SqL K H a xs→xs[i]?=some x,fun i H=>∃ xs,SqL K H a xs∧xs.length≤i⟩
def Itt (K:PySem.W.Frag) (a:Addr):It :=
 ⟨fun i H=>∃ xs x,SqT K H a xs∧xs[i]?=some x,fun i H x H'=>H'=H∧∀ xs,SqT K H a xs→xs[i]?=some x,fun i H=>∃ xs,SqT K H a xs∧xs.length≤i⟩
def Itr (lo:Int) (n:Nat):It:=⟨fun i _=>i < n,fun i H x H'=>H'=H∧x=.int (lo+i),fun i _=>n≤i⟩
theorem d7o {P:Program} {w:World} {K:PySem.W.Frag} {tg:Expr} (a it:Addr):e3u P w K tg (Itl K a) [it] it (fun i h=>h.IsListIter it a i) where
 mem:=by simp
 obj:=fun i h st b hb=>by
  have e:b=it:=by simpa using hb
  subst e
  obtain⟨o,e,c,d⟩:=st
  exact⟨o,e,fun v z=>by rw[d] at z;cases z⟩
 keep:=fun i h h' st k=>st.at fun o e=>k it (by simp) o e
 item:=by
  intro X hP hw hK hc i pins s σ H E I hf st hg
  subst hP hw hK
  obtain⟨xs,x,hq,hx⟩:=hg
  obtain⟨its,rv,p,hz⟩:=I.list hq
  obtain⟨u,hu,ru⟩:=rv.get hx
  obtain⟨f0,f1,f2,f3,f4,f5⟩:=hf it (by simp)
  refine wpAny_pyNext_list_item st p.isList (x:=u) (by simpa using hu) fun h' st' sb=>?_
  have I1:Inv X pins σ H {s with heap:=h'}:=I.turned (t':=s.toks) (fun b o hb e=>(sb.2 b hb).trans e) f0 f1 f3 f4 f5
  obtain⟨o,e,c,d⟩:=id st'
  exact⟨u,rfl,e4z (s:={s with heap:=h'}) e c d (by decide) ⟨x,H,I1,ru,⟨rfl,fun ys hy=>by rw[I.list_inj hy hq];exact hx⟩,st',fun b hb=>(hf b hb).1⟩⟩
 done:=by
  intro X hP hw hK hc i pins s σ H E I hf st hg
  subst hP hw hK
  obtain⟨xs,hq,hx⟩:=hg
  obtain⟨its,rv,p,hz⟩:=I.list hq
  obtain⟨f0,f1,f2,f3,f4,f5⟩:=hf it (by simp)
  have hl:=rv.length
  exact wpAny_pyNext_list_end (I.ok.hd hc) st p.isList (by simp;omega) fun h' eb=>⟨rfl,I.turned (t':=s.toks) (fun b o hb e=>eb b o hb e) f0 f1 f3 f4 f5⟩
 self:=fun _ _ _ _ _ st h=>wpAny_pyIter_listiter st h
theorem d3t {P:Program} {w:World} {K:PySem.W.Frag} {tg:Expr} (it:Addr) (lo:Int) (n:Nat):e3u P w K tg (Itr lo n) [it] it (fun i h=>IsRangeIter h it (lo+(i:Nat)*1) ((n:Int) - (i:Nat)) 1) where
 mem:=by simp
 obj:=fun i h st b hb=>by
  have e:b=it:=by simpa using hb
  subst e
  exact⟨_,st,fun v z=>by
   have z':Data.fields _=Data.cell v:=z
   cases z'⟩
 keep:=fun i h h' st k=>k it (by simp) _ st
 item:=by
  intro X hP hw hK hc i pins s σ H E I hf st hg
  subst hP hw hK
  obtain⟨f0,f1,f2,f3,f4,f5⟩:=hf it (by simp)
  have W:=Walks.range (prog:=X.prog) (w:=X.w) (I.ok.hd hc) it lo 1 n
  refine W.item i s _ _ hg st fun v h' tk hv st' kk=>?_
  obtain⟨t,rfl⟩:=hv
  have I1:Inv X pins σ H {s with heap:=h',toks:=tk}:=I.turned (fun b o hb e=>kk b o (by simpa using hb) e) f0 f1 f3 f4 f5
  refine⟨_,rfl,e4z (s:={s with heap:=h',toks:=tk}) (n:="range_iterator") st' rfl rfl (by decide) ⟨.int (lo+i),H,I1,⟨t,?_⟩,⟨rfl,rfl⟩,st',fun b hb=>(hf b hb).1⟩⟩
  rw[Int.mul_one]
 done:=by
  intro X hP hw hK hc i pins s σ H E I hf st hg
  subst hP hw hK
  obtain⟨f0,f1,f2,f3,f4,f5⟩:=hf it (by simp)
  exact wpAny_pyNext_range_end (I.ok.hd hc) st (by have:n≤i:=hg;omega) fun h' eb=>⟨rfl,I.turned (t':=s.toks) (fun b o hb e=>eb b o hb e) f0 f1 f3 f4 f5⟩
 self:=fun _ _ _ _ _ st h=>wpAny_pyIter_rangeiter st h
end L2
namespace L2
open PySem PySem.Spec PyProof.Rows
section
variable {X:Cx} {tg:Expr}
def e7l (K:PySem.W.Frag) (tl:TE):TI:=fun σ H R=>tl σ H fun x H1=>∃ a,x=.ref a∧(∃ xs,SqL K H1 a xs)∧R (Itl K a) H1
theorem a1r {l:Expr} {tl:TE} (hl:PE X l tl):PI X tg l (e7l X.K tl):=by
 constructor;intro pins s σ H R I h
 refine thn (hl pins s σ H _ I h) fun v s1 ⟨x,H1,I1,r1,q1⟩=>?_
 obtain⟨a,e,⟨xs,hq⟩,q⟩:=q1
 subst e
 cases r1
 obtain⟨its,rv,p,hz⟩:=I1.list hq
 refine wpAny_pyIter_list p.isList ?_
 refine⟨s1.heap.objs.size,[s1.heap.objs.size],_,_,H1,rfl,I1.kept (t':=s1.toks) fun b o e=>Heap.get?_push_of_some _ e,d7o a _,⟨_,Heap.get?_push_size _ rfl,rfl,rfl⟩,fun b hb=>?_,q⟩
 have e:b=s1.heap.objs.size:=by simpa using hb
 subst e
 exact I1.fpOk (Nat.le_refl _) (I1.hok.fresh (Nat.le_refl _))
theorem range_it {pins:List (Addr×Obj)} {σ:St} {H:Hp} {s:Shared} {R:It→Hp→Prop} {E:Value→Shared→Prop} {lo hi:Int} {t u v:Tok} {tk:Nat} (I:Inv X pins σ H s) (h1:-(2 ^ 62)≤lo) (h2:lo < 2 ^ 62) (h3:-(2 ^ 62)≤hi) (h4:hi < 2 ^ 62)
  (q:R (Itr lo (hi - lo).toNat) H):wpAny (model X.prog X.w) X.A (pyIter (.ref s.heap.objs.size)) (PIE X pins σ tg R) E {s with heap:=s.heap.push {cls:=.type "range",data:=.fields #[.int lo t,.int hi u,.int 1 v]},toks:=tk}:=by
 refine wpAny_pyIter_range (IsRange.new ..) (small_one h1 h2 h3 h4) ?_
 have I1:Inv X pins σ H {s with heap:=s.heap.push {cls:=.type "range",data:=.fields #[.int lo t,.int hi u,.int 1 v]},toks:=tk}:=I.kept fun b o e=>Heap.get?_push_of_some _ e
 refine⟨(s.heap.push {cls:=.type "range",data:=.fields #[.int lo t,.int hi u,.int 1 v]}).objs.size,[(s.heap.push {cls:=.type "range",data:=.fields #[.int lo t,.int hi u,.int 1 v]}).objs.size],_,_,H,rfl,
  I1.kept (t':=tk) fun b o e=>Heap.get?_push_of_some _ e,d3t _ lo (hi - lo).toNat,?_,fun b hb=>?_,q⟩
 ·have e1:lo+((0:Nat):Int)*1=lo:=by simp
  have e2:(((hi - lo).toNat:Nat):Int) - ((0:Nat):Int)=Builtin.Range.rangeSize lo hi 1:=by rw[rangeSize_one];split<;>omega
  show IsRangeIter _ _ (lo+((0:Nat):Int)*1) ((((hi - lo).toNat:Nat):Int) - ((0:Nat):Int)) 1
  rw[e1,e2]
  exact Heap.get?_push_size _ rfl
 ·have e:b=(s.heap.push {cls:=.type "range",data:=.fields #[.int lo t,.int hi u,.int 1 v]}).objs.size:=by simpa using hb
  subst e
  exact I1.fpOk (Nat.le_refl _) (I1.hok.fresh (Nat.le_refl _))
def e9z (ta:TA):TI:=fun σ H R=>ta σ H fun vs H1=>∃ j:Int,vs=[.int j]∧-(2 ^ 62)≤j∧j < 2 ^ 62∧R (Itr 0 j.toNat) H1
theorem a1o {a:Expr} {ta:TA} {p pos:Pos} (hg:Gl X "range") (hm:X.mg "range"=none) (ha:PA X [a] ta) (hs:starEach [a] X.env=[(false,eval a X.env)]:=by rfl):PI X tg (.Call (.Name "range" p) [a] [] pos) (e9z ta):=by
 constructor;intro pins s σ H R I h
 refine Call_ (c3h I hg hm boot_range (PyProof.Rows.callWith_type1 (thn (ha pos pins s σ H _ I h) fun us s1 ⟨vs,H1,I1,r1,q1⟩=>?_) hs rfl))
 obtain⟨j,e,q1,q2,q⟩:=q1
 subst e
 cases r1 with
 | cons r rr =>
  cases rr
  obtain⟨t,rfl⟩:=r
  exact call_range_1 (range_it I1 (by omega) (by omega) q1 q2 (by simpa using q))
def f1n (wi:TI) (g:TG) (tb:TS):TS:=fun D σ H=>wi σ H fun J H1=>∃ W:Nat→Nat→St→Hp→Prop,(∃ m,W 0 m σ H1)∧∀ i m σ H,W i m σ H →
 (J.stop i H∧D.nx σ H)∨(J.go i H∧∃ N:St→Hp→Prop,(∀ σ' H',N σ' H'→∃ m',m' < m∧W (i+1) m' σ' H')∧∀ x H',J.yld i H x H'→g x σ H' fun σ2 H2=>tb {D with nx:=N,ct:=N,bk:=D.nx} σ2 H2)
def c6s (fp:List Addr) (h:Heap):List (Addr×Obj):=fp.filterMap fun b=>(h.get? b).map fun o=>(b,o)
theorem b2f {fp:List Addr} {h:Heap} {b:Addr} {o:Obj} (hb:b∈fp) (e:h.get? b=some o):(b,o)∈c6s fp h:=List.mem_filterMap.mpr ⟨b,hb,by rw[e];rfl⟩
theorem d6q {fp:List Addr} {h:Heap} {p:Addr×Obj} (hp:p∈c6s fp h):p.1∈fp∧h.get? p.1=some p.2:=by
 obtain⟨b,hb,e⟩:=List.mem_filterMap.mp hp
 cases q:h.get? b with
 | none=>rw[q] at e;cases e
 | some o =>
  rw[q] at e
  have e':(b,o)=p:=Option.some.inj e
  subst e'
  exact⟨hb,q⟩
theorem Inv.pinned {pins:List (Addr×Obj)} {σ:St} {H:Hp} {s:Shared} {fp:List Addr} (I:Inv X pins σ H s) (hf:∀ b∈fp,d2l X pins H b) (ho:∀ b∈fp,∃ o,s.heap.get? b=some o∧∀ v,o.data≠.cell v):Inv X (pins++c6s fp s.heap) σ H s :=
 I.pins_of fun p hp=>(List.mem_append.mp hp).elim (fun z=>I.pin p (List.mem_append_right _ z)) fun z=>by
  obtain⟨hb,e⟩:=d6q z
  obtain⟨f0,f1,f2,_⟩:=hf p.1 hb
  obtain⟨o,e',d⟩:=ho p.1 hb
  rw[e] at e';cases e'
  exact⟨e,f0,f1,f2,d⟩
theorem Inv.unpinned {pins pl:List (Addr×Obj)} {σ:St} {H:Hp} {s:Shared} (I:Inv X (pins++pl) σ H s):Inv X pins σ H s:=I.pins_of fun p hp=>I.pin p (List.mem_append_right _ (List.mem_append_left _ hp))
theorem a2o {iter:Expr} {body:List Stmt} {wi:TI} {g:TG} {tb:TS} {pos:Pos} (hp:PassesOwn (model X.prog X.w) X.A X.env X.xe) (hc:X.calm=true) (hi:PI X tg iter wi) (hg:PG X tg g) (hb:PSs X body tb)
  (hs:∀ x,foldedSetIterable iter X.env x=pure x:=by intro _;rfl):PS X (.For tg iter body [] pos) (f1n wi g tb):=by
 constructor;intro pins s σ H D I h
 refine wpAny_For (thn (hi pins s σ H _ I h) fun v s1 h1=>thn h1 fun itv s2 h2=>?_) hs
 obtain⟨it,fp,tn,J,H2,e,I2,T,st2,f2,W,⟨m0,w0⟩,turn⟩:=h2
 subst e
 have stat:∀ {H':Hp},(∀ b∈fp,H' b=none)→∀ b∈fp,d2l X pins H' b:=fun hn b hb=>⟨hn b hb,(f2 b hb).2⟩
 refine codeAny_forLoop_any (fun n s'=>∃ i σ' H',Inv X pins σ' H' s'∧tn i s'.heap∧(∀ b∈fp,H' b=none)∧W i n σ' H') ?_ m0 ⟨0,σ,H2,I2,st2,fun b hb=>(f2 b hb).1,w0⟩
 rintro n s3 ⟨i,σ3,H3,I3,st3,fr3,w3⟩
 rcases turn i n σ3 H3 w3 with ⟨stop,qn⟩ | ⟨go,N,hN,step⟩
 ·refine wpAny_passesOwn hp (thn (T.done X rfl rfl rfl hc i pins s3 σ3 H3 X.xe I3 (stat fr3) st3 stop) fun r s4 ⟨hr,I4⟩=>?_)
  subst hr
  exact wpAny_execs_nil ⟨σ3,H3,I4,qn⟩
 ·refine wpAny_passesOwn hp (thn (T.item X rfl rfl rfl hc i pins s3 σ3 H3 X.xe I3 (stat fr3) st3 go) fun r s4 ⟨u,hr,h4⟩=>?_)
  subst hr
  refine wpAny_passesOwn hp (thn h4 fun _ s5 ⟨x,H5,I5,r5,y5,st5,fr5⟩=>?_)
  have I5':=I5.pinned (stat fr5) (T.obj _ _ st5)
  refine wpAny_passesOwn hp (thn (hg _ s5 σ3 H5 x u _ I5' r5 (step x H5 y5)) fun _ s6 ⟨σ6,H6,I6,q6⟩=>?_)
  refine wpAny_passesOwn hp (thn (hb _ s6 σ6 H6 _ I6 q6) fun f s7 q7=>?_)
  have again:∀ {σ7:St} {H7:Hp},Inv X (pins++c6s fp s5.heap) σ7 H7 s7→N σ7 H7→∃ m,m < n∧∃ i σ' H',Inv X pins σ' H' s7∧tn i s7.heap∧(∀ b∈fp,H' b=none)∧W i m σ' H':=fun {σ7 H7} I7 n7=>by
   obtain⟨m',hm,w7⟩:=hN σ7 H7 n7
   refine⟨m',hm,i+1,σ7,H7,I7.unpinned,T.keep _ _ _ st5 fun b hb o e=>(I7.pin (b,o) (List.mem_append_right _ (List.mem_append_right _ (b2f hb e)))).1,fun b hb=>?_,w7⟩
   obtain⟨o,e,d⟩:=T.obj _ _ st5 b hb
   exact(I7.pin (b,o) (List.mem_append_right _ (List.mem_append_right _ (b2f hb e)))).2.1
  cases f with
  | next=>obtain⟨σ7,H7,I7,n7⟩:=q7;exact again I7 n7
  | cont=>obtain⟨σ7,H7,I7,n7⟩:=q7;exact again I7 n7
  | brk=>obtain⟨σ7,H7,I7,q7⟩:=q7;exact⟨σ7,H7,I7.unpinned,q7⟩
  | ret v=>obtain⟨x7,σ7,H7,I7,r7,q7⟩:=q7;exact⟨x7,σ7,H7,I7.unpinned,r7,q7⟩
end
theorem a4e {K:PySem.W.Frag} {a:Addr} {xs:List V} {g:TG} {tb:TS} {D:c9e} {σ:St} {H:Hp} (Pv:Nat→St→Hp→Prop) (h0:Pv 0 σ H) (hl:∀ i σ H,i≤xs.length→Pv i σ H→SqL K H a xs)
  (hs:∀ i x σ H,xs[i]?=some x→Pv i σ H→g x σ H fun σ2 H2=>tb {D with nx:=Pv (i+1),ct:=Pv (i+1),bk:=D.nx} σ2 H2) (hd:∀ σ H,Pv xs.length σ H→D.nx σ H) :
  ∃ W:Nat→Nat→St→Hp→Prop,(∃ m,W 0 m σ H)∧∀ i m σ H,W i m σ H →
   ((Itl K a).stop i H∧D.nx σ H)∨((Itl K a).go i H∧∃ N:St→Hp→Prop,(∀ σ' H',N σ' H'→∃ m',m' < m∧W (i+1) m' σ' H')∧∀ x H',(Itl K a).yld i H x H'→g x σ H' fun σ2 H2=>tb {D with nx:=N,ct:=N,bk:=D.nx} σ2 H2):=by
 refine⟨fun i m σ H=>m=xs.length - i∧i≤xs.length∧Pv i σ H,⟨xs.length,by simp,Nat.zero_le _,h0⟩,?_⟩
 rintro i m σ H ⟨rfl,hi,p⟩
 have q:=hl i σ H hi p
 by_cases hlt:i < xs.length
 ·refine .inr ⟨⟨xs,xs[i],q,by simp[hlt]⟩,Pv (i+1),fun σ' H' p'=>⟨xs.length - (i+1),by omega,rfl,hlt,p'⟩,fun x H' y=>?_⟩
  obtain⟨e,y⟩:=y
  subst e
  exact hs i x σ _ (y xs q) p
 ·have e:i=xs.length:=by omega
  subst e
  exact .inl ⟨⟨xs,q,Nat.le_refl _⟩,hd σ H p⟩
theorem a2m {lo:Int} {n:Nat} {g:TG} {tb:TS} {D:c9e} {σ:St} {H:Hp} (Pv:Nat→St→Hp→Prop) (h0:Pv 0 σ H)
  (hs:∀ i σ H,i < n→Pv i σ H→g (.int (lo+i)) σ H fun σ2 H2=>tb {D with nx:=Pv (i+1),ct:=Pv (i+1),bk:=D.nx} σ2 H2) (hd:∀ σ H,Pv n σ H→D.nx σ H) :
  ∃ W:Nat→Nat→St→Hp→Prop,(∃ m,W 0 m σ H)∧∀ i m σ H,W i m σ H →
   ((Itr lo n).stop i H∧D.nx σ H)∨((Itr lo n).go i H∧∃ N:St→Hp→Prop,(∀ σ' H',N σ' H'→∃ m',m' < m∧W (i+1) m' σ' H')∧∀ x H',(Itr lo n).yld i H x H'→g x σ H' fun σ2 H2=>tb {D with nx:=N,ct:=N,bk:=D.nx} σ2 H2):=by
 refine⟨fun i m σ H=>m=n - i∧i≤n∧Pv i σ H,⟨n,by simp,Nat.zero_le _,h0⟩,?_⟩
 rintro i m σ H ⟨rfl,hi,p⟩
 by_cases hlt:i < n
 ·refine .inr ⟨hlt,Pv (i+1),fun σ' H' p'=>⟨n - (i+1),by omega,rfl,hlt,p'⟩,fun x H' y=>?_⟩
  obtain⟨e,y⟩:=y
  subst e y
  exact hs i σ _ hlt p
 ·have e:i=n:=by omega
  subst e
  exact .inl ⟨Nat.le_refl _,hd σ H p⟩
end L2
namespace L2
open PySem PySem.Spec PyProof.Rows
abbrev R2:=V→V→Hp→VK→Prop
def OpR (X:Cx) (f:Value→Value→Sem Value) (r:R2):Prop :=
 ∀ (pins:List (Addr×Obj)) (s:Shared) (σ:St) (H:Hp) (x y:V) (v u:Value) (Q:VK),Inv X pins σ H s→a3k x v→a3k y u→r x y H Q →
  wpAny (model X.prog X.w) X.A (f v u) (EP X pins σ Q) X.xe s
def UnR (X:Cx) (f:Value→Sem Value) (r:V→Hp→VK→Prop):Prop :=
 ∀ (pins:List (Addr×Obj)) (s:Shared) (σ:St) (H:Hp) (x:V) (v:Value) (Q:VK),Inv X pins σ H s→a3k x v→r x H Q →
  wpAny (model X.prog X.w) X.A (f v) (EP X pins σ Q) X.xe s
def b9p (X:Cx) (f:Value) (r:List V→Hp→VK→Prop):Prop :=
 ∀ (pins:List (Addr×Obj)) (s:Shared) (σ:St) (H:Hp) (xs:List V) (us:List Value) (Q:VK),Inv X pins σ H s→a3e xs us→r xs H Q →
  wpAny (model X.prog X.w) X.A (call f us) (EP X pins σ Q) X.xe s
def tOp (r:R2) (ta tb:TE):TE:=fun σ H Q=>ta σ H fun x H1=>tb σ H1 fun y H2=>r x y H2 Q
def tUn (r:V→Hp→VK→Prop) (ta:TE):TE:=fun σ H Q=>ta σ H fun x H1=>r x H1 Q
def rI (C:Int→Int→Prop) (g:Int→Int→V):R2:=fun x y H Q=>∃ i j,x=.int i∧y=.int j∧C i j∧Q (g i j) H
def rI0 (g:Int→Int→V):R2:=fun x y H Q=>∃ i j,x=.int i∧y=.int j∧Q (g i j) H
def rU (g:Int→V):V→Hp→VK→Prop:=fun x H Q=>∃ i,x=.int i∧Q (g i) H
section
variable {X:Cx} {a b c:Expr} {ta tb tc:TE} {pos:Pos}
theorem e9y (ha:PE X a ta) (hb:PE X b tb) {pins:List (Addr×Obj)} {s:Shared} {σ:St} {H:Hp} {R:V→V→Hp→Prop} (I:Inv X pins σ H s)
  (h:ta σ H fun x H1=>tb σ H1 fun y H2=>R x y H2) {Q:Value→Shared→Prop} {f:Value→Value→Sem Value}
  (hf:∀ v u s2 x y H2,Inv X pins σ H2 s2→a3k x v→a3k y u→R x y H2→wpAny (model X.prog X.w) X.A (f v u) Q X.xe s2) :
  wpAny (model X.prog X.w) X.A (eval a X.env) (fun v s₁=>wpAny (model X.prog X.w) X.A (eval b X.env) (fun u s₂=>wpAny (model X.prog X.w) X.A (f v u) Q X.xe s₂) X.xe s₁) X.xe s:=by
 refine thn (ha pins s σ H _ I h) fun v s1 ⟨x,H1,I1,r1,q1⟩=>?_
 refine thn (hb pins s1 σ H1 _ I1 q1) fun u s2 ⟨y,H2,I2,r2,q2⟩=>?_
 exact hf v u s2 x y H2 I2 r1 r2 q2
theorem a0v {op:Operator} {r:R2} (ho:OpR X (binaryOp op) r) (ha:PE X a ta) (hb:PE X b tb):PE X (.BinOp a op b pos) (tOp r ta tb):=by
 constructor;intro pins s σ H Q I h
 exact wpAny_BinOp (e9y ha hb I h fun v u s2 x y H2 I2 rx ry q=>ho pins s2 σ H2 x y v u Q I2 rx ry q)
theorem d3m {op:UnaryOp} {r:V→Hp→VK→Prop} (ho:UnR X (unaryOp op) r) (ha:PE X a ta):PE X (.UnaryOp op a pos) (tUn r ta):=by
 constructor;intro pins s σ H Q I h
 exact UnaryOp_ (thn (ha pins s σ H _ I h) fun v s1 ⟨x,H1,I1,r1,q1⟩=>ho pins s1 σ H1 x v Q I1 r1 q1)
theorem opI {f:Value→Value→Sem Value} {C:Int→Int→Prop} {g:Int→Int→Int}
  (rule:∀ (i j:Int) (t u:Tok) (s:Shared) (Q:Value→Shared→Prop) (E:Value→Shared→Prop),C i j→Q (.int (g i j) s.toks) {s with toks:=s.toks+1}→wpAny (model X.prog X.w) X.A (f (.int i t) (.int j u)) Q E s) :
  OpR X f (rI C fun i j=>.int (g i j)):=by
 intro pins s σ H x y v u Q I rx ry h
 obtain⟨i,j,rfl,rfl,hc,q⟩:=h
 obtain⟨t,rfl⟩:=rx
 obtain⟨t',rfl⟩:=ry
 exact rule i j t t' s _ _ hc ⟨.int (g i j),H,I.tok _,⟨_,rfl⟩,q⟩
theorem f1h {f:Value→Value→Sem Value} {g:Int→Int→Int}
  (rule:∀ (i j:Int) (t u:Tok) (s:Shared) (Q:Value→Shared→Prop) (E:Value→Shared→Prop),Q (.int (g i j) s.toks) {s with toks:=s.toks+1}→wpAny (model X.prog X.w) X.A (f (.int i t) (.int j u)) Q E s) :
  OpR X f (rI0 fun i j=>.int (g i j)):=by
 intro pins s σ H x y v u Q I rx ry h
 obtain⟨i,j,rfl,rfl,q⟩:=h
 obtain⟨t,rfl⟩:=rx
 obtain⟨t',rfl⟩:=ry
 exact rule i j t t' s _ _ ⟨.int (g i j),H,I.tok _,⟨_,rfl⟩,q⟩
theorem e9a {f:Value→Value→Sem Value} {g:Int→Int→Bool}
  (rule:∀ (i j:Int) (t u:Tok) (s:Shared) (Q:Value→Shared→Prop) (E:Value→Shared→Prop),Q (.bool (g i j)) s→wpAny (model X.prog X.w) X.A (f (.int i t) (.int j u)) Q E s) :
  OpR X f (rI0 fun i j=>.bl (g i j)):=by
 intro pins s σ H x y v u Q I rx ry h
 obtain⟨i,j,rfl,rfl,q⟩:=h
 obtain⟨t,rfl⟩:=rx
 obtain⟨t',rfl⟩:=ry
 exact rule i j t t' s _ _ ⟨.bl (g i j),H,I,rfl,q⟩
def f1x (i j:Int):Prop:=0 < j∧j < 1073741824
def f2a (i j:Int):Prop:=0≤j∧j≤1000000∧i.natAbs < 2 ^ 64
def e9i (i j:Int):Prop:=(-(2 ^ 64) < i∧i < 2 ^ 64)∨(-(2 ^ 64) < j∧j < 2 ^ 64)
theorem e9i.ok {i j:Int} (h:e9i i j):IntMulOk i j:=by
 rcases h with ⟨h1,h2⟩ | ⟨h1,h2⟩
 ·exact .of_left (intBits_le_64 h1 h2)
 ·exact .of_right (intBits_le_64 h1 h2)
theorem a3z:OpR X (binaryOp .Add) (rI0 fun i j=>.int (i+j)):=f1h fun _ _ _ _ _ _ _ q=>add_int q
theorem c1y:OpR X (binaryOp .Sub) (rI0 fun i j=>.int (i - j)):=f1h fun _ _ _ _ _ _ _ q=>sub_int q
theorem b8o:OpR X (binaryOp .Mult) (rI e9i fun i j=>.int (i*j)):=opI fun _ _ _ _ _ _ _ hc q=>mul_int q hc.ok
theorem a7l:OpR X (binaryOp .FloorDiv) (rI f1x fun i j=>.int (i / j)):=opI fun i j _ _ _ _ _ hc q=>by
 have h1:(0:Int) < j:=hc.1
 have h2:j < 1073741824:=hc.2
 exact floordiv_int (by omega) (by rw[Int.fdiv_eq_ediv_of_nonneg i (by omega)];exact q) (.inl (PyProof.noPylong_small (by omega)))
theorem a2e:OpR X (binaryOp .Mod) (rI (fun _ j=>0 < j) fun i j=>.int (i%j)):=opI fun i j _ _ _ _ _ hc q=>by
 have h1:(0:Int) < j:=hc
 exact mod_int' (by omega) (by rw[Int.fmod_eq_emod_of_nonneg i (by omega)];exact q)
theorem e2w:OpR X (binaryOp .Pow) (rI f2a fun i j=>.int (i ^ j.toNat)):=opI fun _ _ _ _ _ _ _ hc q=>pow_int_small hc.1 hc.2.1 hc.2.2 q
theorem unI {f:Value→Sem Value} {g:Int→Int}
  (rule:∀ (i:Int) (t:Tok) (s:Shared) (Q:Value→Shared→Prop) (E:Value→Shared→Prop),Q (.int (g i) s.toks) {s with toks:=s.toks+1}→wpAny (model X.prog X.w) X.A (f (.int i t)) Q E s) :
  UnR X f (rU fun i=>.int (g i)):=by
 intro pins s σ H x v Q I rx h
 obtain⟨i,rfl,q⟩:=h
 obtain⟨t,rfl⟩:=rx
 exact rule i t s _ _ ⟨.int (g i),H,I.tok _,⟨_,rfl⟩,q⟩
theorem c2u:UnR X (unaryOp .USub) (rU fun i=>.int (-i)):=unI fun _ _ _ _ _ q=>neg_int q
end
def e9f:V→V→Bool
 | .non,.non=>true | .non,.int _=>true | .int _,.non=>true | .non,.bl _=>true | .bl _,.non=>true | .non,.str _=>true | .str _,.non=>true
 | .int _,.int _=>true | .bl _,.bl _=>true | .str _,.str _=>true | .byt _,.byt _=>true
 | .int _,.str _=>true | .str _,.int _=>true | .bl _,.str _=>true | .str _,.bl _=>true
 | _,_=>false
def rEq:R2:=fun x y H Q=>e9f x y=true∧Q (.bl (decide (x=y))) H
def rNe:R2:=fun x y H Q=>e9f x y=true∧Q (.bl (!decide (x=y))) H
theorem d7z {i j:Int}:decide (V.int i=V.int j)=(i == j):=by
 rw[Bool.eq_iff_iff]
 simp
theorem e3a {i j:Bool}:decide (V.bl i=V.bl j)=(i == j):=by
 rw[Bool.eq_iff_iff]
 simp
theorem d6i {i j:Str}:decide (V.str i=V.str j)=(i == j):=by
 rw[Bool.eq_iff_iff]
 simp
theorem d8g {i j:Array UInt8}:decide (V.byt i=V.byt j)=(i.toList == j.toList):=by
 rw[Bool.eq_iff_iff]
 cases i
 cases j
 simp
section
variable {X:Cx} {a b c:Expr} {ta tb tc:TE} {pos:Pos}
theorem a1v {pins:List (Addr×Obj)} {σ:St} {H:Hp} {s:Shared} {Q:VK} {k k':Bool} (I:Inv X pins σ H s) (q:Q (.bl k) H) (e:k=k'):EP X pins σ Q (.bool k') s:=by
 subst e
 exact⟨.bl k,H,I,rfl,q⟩
theorem a7m:OpR X (compareOp .Eq) rEq:=by
 intro pins s σ H x y v u Q I rx ry h
 obtain⟨hs,q⟩:=h
 cases x with
 | non =>
  cases rx
  cases y with
  | non=>cases ry;exact PySem.EqNone.eq_none_none (a1v I q (by simp))
  | bl j=>cases ry;exact PySem.EqNone.eq_none_bool (a1v I q (by simp))
  | int j=>obtain⟨t',rfl⟩:=ry;exact PySem.EqNone.eq_none_int (a1v I q (by simp))
  | str j=>obtain⟨t',rfl⟩:=ry;exact PySem.EqNone.eq_none_str (a1v I q (by simp))
  | _=>exact absurd (show false=true from hs) Bool.false_ne_true
 | bl i =>
  cases rx
  cases y with
  | non=>cases ry;exact PySem.EqNone.eq_bool_none (a1v I q (by simp))
  | bl j=>cases ry;exact eq_bool (a1v I q e3a)
  | str j=>obtain⟨t',rfl⟩:=ry;exact PySem.EqMixed.eq_bool_str (a1v I q (by simp))
  | _=>exact absurd (show false=true from hs) Bool.false_ne_true
 | int i =>
  obtain⟨t,rfl⟩:=rx
  cases y with
  | non=>cases ry;exact PySem.EqNone.eq_int_none (a1v I q (by simp))
  | int j=>obtain⟨t',rfl⟩:=ry;exact eq_int (a1v I q d7z)
  | str j=>obtain⟨t',rfl⟩:=ry;exact PySem.EqMixed.eq_int_str (a1v I q (by simp))
  | _=>exact absurd (show false=true from hs) Bool.false_ne_true
 | str i =>
  obtain⟨t,rfl⟩:=rx
  cases y with
  | non=>cases ry;exact PySem.EqNone.eq_str_none (a1v I q (by simp))
  | bl j=>cases ry;exact PySem.EqMixed.eq_str_bool (a1v I q (by simp))
  | int j=>obtain⟨t',rfl⟩:=ry;exact PySem.EqMixed.eq_str_int (a1v I q (by simp))
  | str j=>obtain⟨t',rfl⟩:=ry;exact eq_str (a1v I q d6i)
  | _=>exact absurd (show false=true from hs) Bool.false_ne_true
 | byt i =>
  obtain⟨t,rfl⟩:=rx
  cases y with
  | byt j=>obtain⟨t',rfl⟩:=ry;exact PySem.W.eq_bytes (a1v I q d8g)
  | _=>exact absurd (show false=true from hs) Bool.false_ne_true
 | _=>cases y<;>exact absurd (show false=true from hs) Bool.false_ne_true
theorem d3v:OpR X (compareOp .NotEq) rNe:=by
 intro pins s σ H x y v u Q I rx ry h
 obtain⟨hs,q⟩:=h
 cases x with
 | non =>
  cases rx
  cases y with
  | non=>cases ry;exact PySem.EqNone.ne_none_none (a1v I q (by simp))
  | bl j=>cases ry;exact PySem.EqNone.ne_none_bool (a1v I q (by simp))
  | int j=>obtain⟨t',rfl⟩:=ry;exact PySem.EqNone.ne_none_int (a1v I q (by simp))
  | str j=>obtain⟨t',rfl⟩:=ry;exact PySem.EqNone.ne_none_str (a1v I q (by simp))
  | _=>exact absurd (show false=true from hs) Bool.false_ne_true
 | bl i =>
  cases rx
  cases y with
  | non=>cases ry;exact PySem.EqNone.ne_bool_none (a1v I q (by simp))
  | bl j=>cases ry;exact ne_bool (a1v I q (congrArg not e3a))
  | str j=>obtain⟨t',rfl⟩:=ry;exact PySem.EqMixed.ne_bool_str (a1v I q (by simp))
  | _=>exact absurd (show false=true from hs) Bool.false_ne_true
 | int i =>
  obtain⟨t,rfl⟩:=rx
  cases y with
  | non=>cases ry;exact PySem.EqNone.ne_int_none (a1v I q (by simp))
  | int j=>obtain⟨t',rfl⟩:=ry;exact ne_int (a1v I q (congrArg not d7z))
  | str j=>obtain⟨t',rfl⟩:=ry;exact PySem.EqMixed.ne_int_str (a1v I q (by simp))
  | _=>exact absurd (show false=true from hs) Bool.false_ne_true
 | str i =>
  obtain⟨t,rfl⟩:=rx
  cases y with
  | non=>cases ry;exact PySem.EqNone.ne_str_none (a1v I q (by simp))
  | bl j=>cases ry;exact PySem.EqMixed.ne_str_bool (a1v I q (by simp))
  | int j=>obtain⟨t',rfl⟩:=ry;exact PySem.EqMixed.ne_str_int (a1v I q (by simp))
  | str j=>obtain⟨t',rfl⟩:=ry;exact ne_str (a1v I q (congrArg not d6i))
  | _=>exact absurd (show false=true from hs) Bool.false_ne_true
 | byt i =>
  obtain⟨t,rfl⟩:=rx
  cases y with
  | byt j=>obtain⟨t',rfl⟩:=ry;exact PySem.W.ne_bytes (a1v I q (congrArg not d8g))
  | _=>exact absurd (show false=true from hs) Bool.false_ne_true
 | _=>cases y<;>exact absurd (show false=true from hs) Bool.false_ne_true
theorem c8n:OpR X (compareOp .Lt) (rI0 fun i j=>.bl (decide (i < j))):=e9a fun _ _ _ _ _ _ _ q=>lt_int q
theorem e9w:OpR X (compareOp .LtE) (rI0 fun i j=>.bl (decide (i≤j))):=e9a fun _ _ _ _ _ _ _ q=>le_int q
theorem e6a:OpR X (compareOp .Gt) (rI0 fun i j=>.bl (decide (j < i))):=e9a fun _ _ _ _ _ _ _ q=>gt_int q
theorem e5x:OpR X (compareOp .GtE) (rI0 fun i j=>.bl (decide (j≤i))):=e9a fun _ _ _ _ _ _ _ q=>ge_int q
theorem d6p:OpR X (compareOp .Is) (fun x y H Q=>y=.non∧Q (.bl (decide (x=.non))) H):=by
 intro pins s σ H x y v u Q I rx ry h
 obtain⟨rfl,q⟩:=h
 cases ry
 refine is_none_gen (a1v I q ?_)
 cases x<;>first
  | (cases rx;rfl)
  | (obtain⟨t,rfl⟩:=rx;rfl)
theorem d6k:OpR X (compareOp .IsNot) (fun x y H Q=>y=.non∧Q (.bl (!decide (x=.non))) H):=by
 intro pins s σ H x y v u Q I rx ry h
 obtain⟨rfl,q⟩:=h
 cases ry
 refine isnot_none_gen (a1v I q ?_)
 cases x<;>first
  | (cases rx;rfl)
  | (obtain⟨t,rfl⟩:=rx;rfl)
theorem a0x (b:Expr) {op:CmpOp} (h:op≠.In:=by decide) (h2:op≠.NotIn:=by decide):behindInMarks op b=false:=by
 have e1:(op == CmpOp.In)=false:=by cases op<;>first | rfl | exact absurd rfl h
 have e2:(op == CmpOp.NotIn)=false:=by cases op<;>first | rfl | exact absurd rfl h2
 cases b<;>simp[behindInMarks,e1,e2]
theorem b5m {op:CmpOp} {r:R2} (ho:OpR X (compareOp op) r) (ha:PE X a ta) (hb:PE X b tb) (hm:behindInMarks op b=false):PE X (.Compare a [op] [b] pos) (tOp r ta tb):=by
 constructor;intro pins s σ H Q I h
 exact wpAny_Compare1 (e9y ha hb I h fun v u s2 x y H2 I2 rx ry q=>ho pins s2 σ H2 x y v u Q I2 rx ry q) hm
def e1b (t:TE):TT:=fun σ H Q=>t σ H fun x H'=>∃ k,x=.bl k∧Q k H'
theorem a0t {op:CmpOp} {r:R2} (ho:OpR X (compareOp op) r) (ha:PE X a ta) (hb:PE X b tb) (hm:behindInMarks op b=false):PT X (.Compare a [op] [b] pos) (e1b (tOp r ta tb)):=by
 constructor;intro pins s σ H Q I h
 refine wpAny_isTrue_Compare1 (thn (ha pins s σ H _ I h) fun v s1 ⟨x,H1,I1,r1,q1⟩=>thn (hb pins s1 σ H1 _ I1 q1) fun u s2 ⟨y,H2,I2,r2,q2⟩ =>
  thn (ho pins s2 σ H2 x y v u _ I2 r1 r2 q2) fun c s3 ⟨z,H3,I3,r3,k,e,q3⟩=>?_) hm
 subst e
 cases r3
 exact wpAny_truthy_bool ⟨H3,I3,q3⟩
def e2k (r r':R2) (ta tb tc:TE):TE:=fun σ H Q=>ta σ H fun x H1=>tb σ H1 fun y H2=>r x y H2 fun z H3=>∃ k,z=.bl k ∧
 (if k=true then tc σ H3 fun w' H4=>r' y w' H4 Q else Q (.bl false) H3)
theorem d9o {op op':CmpOp} {r r':R2} (ho:OpR X (compareOp op) r) (ho':OpR X (compareOp op') r') (ha:PE X a ta) (hb:PE X b tb) (hc:PE X c tc)
  (hm:lastMarks [op,op'] [b,c]=false:=by with_unfolding_all rfl):PT X (.Compare a [op,op'] [b,c] pos) (e1b (e2k r r' ta tb tc)):=by
 constructor;intro pins s σ H Q I h
 refine isTrue_chain (thn (ha pins s σ H _ I h) fun v s1 ⟨x,H1,I1,r1,q1⟩=>test_link (thn (hb pins s1 σ H1 _ I1 q1) fun u s2 ⟨y,H2,I2,r2,q2⟩ =>
  thn (ho pins s2 σ H2 x y v u _ I2 r1 r2 q2) fun d s3 ⟨z,H3,I3,r3,k,e,q3⟩=>?_)) hm
 subst e
 cases r3
 refine wpAny_truthy_bool ?_
 cases k with
 | false =>
  obtain⟨k',e',q'⟩:=q3
  cases e'
  exact ite_ff ⟨H3,I3,q'⟩
 | true =>
  refine ite_tt (test_last (thn (hc pins s3 σ H3 _ I3 q3) fun w' s4 ⟨z',H4,I4,r4,q4⟩=>thn (ho' pins s4 σ H4 y z' u w' _ I4 r2 r4 q4) fun d' s5 ⟨z2,H5,I5,r5,k2,e2,q5⟩=>?_))
  subst e2
  cases r5
  exact wpAny_truthy_bool ⟨H5,I5,q5⟩
theorem d2c:(sizeLine:Nat) < 2 ^ 63:=by rw[sizeLine_eq];decide
theorem c4u {x:V} {us:List Value} (r:a3e [x] us):∃ u,us=[u]∧a3k x u:=by
 cases r with
 | cons r1 r2=>cases r2;exact⟨_,rfl,r1⟩
theorem e3p {x y:V} {us:List Value} (r:a3e [x,y] us):∃ u w',us=[u,w']∧a3k x u∧a3k y w':=by
 cases r with
 | cons r1 r2 =>
  cases r2 with
  | cons r3 r4=>cases r4;exact⟨_,_,rfl,r1,r3⟩
theorem c7n:b9p X (.type "int") (fun xs H Q=>(∃ i,xs=[.int i]∧Q (.int i) H)∨∃ k,xs=[.bl k]∧Q (.int (if k then 1 else 0)) H):=by
 intro pins s σ H xs us Q I r h
 rcases h with ⟨i,rfl,q⟩ | ⟨k,rfl,q⟩
 ·obtain⟨u,rfl,t,rfl⟩:=c4u r
  exact call_int_int ⟨.int i,H,I,⟨_,rfl⟩,q⟩
 ·obtain⟨u,rfl,r1⟩:=c4u r
  cases r1
  exact call_int_bool ⟨.int (if k then 1 else 0),H,I.tok _,⟨_,rfl⟩,q⟩
def f1b (K:PySem.W.Frag) (x:V) (H:Hp) (n:Nat):Prop :=
 match x with
 | .str y=>y.length≤sizeLine∧n=y.length
 | .byt y=>y.size≤sizeLine∧n=y.size
 | .ref p=>(∃ xs,SqL K H p xs∧n=xs.length)∨∃ xs,SqT K H p xs∧n=xs.length
 | _=>False
theorem a1i:b9p X (.builtin "len") (fun xs H Q=>∃ x n,xs=[x]∧f1b X.K x H n∧Q (.int n) H):=by
 intro pins s σ H xs us Q I r h
 obtain⟨x,n,rfl,e,q⟩:=h
 obtain⟨u,rfl,rx⟩:=c4u r
 have hl:=d2c
 have hs:sizeLine=16777216:=sizeLine_eq
 cases x with
 | str y =>
  obtain⟨t,rfl⟩:=rx
  obtain⟨hy,e'⟩:y.length≤sizeLine∧n=y.length:=e
  subst e'
  exact len_str (by omega) ⟨.int _,H,I.tok _,⟨_,rfl⟩,q⟩
 | byt y =>
  obtain⟨t,rfl⟩:=rx
  obtain⟨hy,e'⟩:y.size≤sizeLine∧n=y.size:=e
  subst e'
  exact PySem.W.len_bytes (by omega) ⟨.int _,H,I.tok _,⟨_,rfl⟩,q⟩
 | ref p =>
  cases rx
  have e':(∃ xs,SqL X.K H p xs∧n=xs.length)∨∃ xs,SqT X.K H p xs∧n=xs.length:=e
  rcases e' with ⟨xs,hx,e'⟩ | ⟨xs,hx,e'⟩
  ·subst e'
   obtain⟨its,r',pl,hz⟩:=I.list hx
   have hlen:=r'.length
   exact Calls.call_len_list pl.isList (by simp only [List.size_toArray];omega) ⟨.int xs.length,H,I.tok _,⟨_,by simp only [List.size_toArray];rw[hlen]⟩,q⟩
  ·subst e'
   obtain⟨its,r',pl,hz⟩:=I.tuple hx
   have hlen:=r'.length
   exact len_tuple pl (by simp only [List.size_toArray];omega) ⟨.int xs.length,H,I.tok _,⟨_,by simp only [List.size_toArray];rw[hlen]⟩,q⟩
 | _=>exact(show False from e).elim
end
end L2
namespace L2
open PySem PySem.Spec PyProof.Rows
structure e9e (h:Heap) (x dx C:Addr) (mA:Str→Option Value):Prop where
 obj:h.get? x=some (PySem.W.instObj C dx)
 ns:h.Ns1 dx mA
 ne:dx≠x
theorem d8c {h:Heap} {dx:Addr} {mA:Str→Option Value} (n:h.Ns1 dx mA):∃ od,h.get? dx=some od∧∀ name,PySem.W.lookIn name od=some (mA name):=by
 obtain⟨o,es,ep,ho,hd,hk,_,hm⟩:=n
 refine⟨o,ho,fun name=>?_⟩
 have e:=hm name
 unfold nsFind findBy at e
 rw[←Array.find?_toList] at e
 unfold PySem.W.lookIn
 rw[hd]
 dsimp only
 split
 ·rename_i y q
  rw[q] at e
  exact congrArg some e
 ·rename_i q
  rw[q] at e
  have a:es.toList.any (·.refKey)=false:=by
   rw[List.any_eq_false]
   intro y hy
   obtain⟨z,t,hkey⟩:=hk y (Array.mem_toList_iff.mp hy)
   simp[DictEntry.refKey,hkey]
  have a':¬ es.toList.any (·.refKey)=true:=by rw[a];exact Bool.false_ne_true
  rw[if_neg a']
  exact congrArg some e
theorem e9e.look {h:Heap} {x dx C:Addr} {mA:Str→Option Value} (I:e9e h x dx C mA):∃ od,PySem.W.InstAt h x (PySem.W.instObj C dx) C (some od)∧∀ name,PySem.W.lookIn name od=some (mA name) :=
 let ⟨od,ho,hl⟩:=d8c I.ns
 ⟨od,⟨I.obj,rfl,rfl,ho⟩,hl⟩
section
variable {prog:Program} {w:World} {A:Around} {E:Value→Shared→Prop} {s:Shared} {K:PySem.W.Frag} {x dx C f:Addr} {mA:Str→Option Value} {name:Str} {v:Value}
theorem e0z {pl:Sem Bool} {Q:Value×List Value→Shared→Prop} (X:K.In s.heap) (I:e9e s.heap x dx C mA) (hg:PySem.W.plainGet K C name=true)
  (hf:PySem.W.findIn K (.ref C) name=some (some (.ref f))) (ht:PySem.W.isFn K (.ref f)=true) (hv:mA name=none) (h:Q (.ref f,[.ref x]) s) :
  wpAny (model prog w) A (getMethod (.ref x) name pl) Q E s:=by
 obtain⟨od,J,hl⟩:=I.look
 exact PySem.W.method_fn X J (PySem.W.plainGet_of hg).1 (PySem.W.plainGet_of hg).2 hf (beq_iff_eq.mp ht) (by show (PySem.W.lookIn name od).map (·.isSome)=some false;rw[hl,hv];rfl) h
theorem d6j {R:Result→Shared→Prop} (X:K.In s.heap) (hm:PySem.W.makesIn K C=true)
  (hi:PySem.W.findIn K (.ref C) "__init__"=some (some (.builtin "object.__init__")))
  (hb:∀ self,PySem.W.Looks (model prog w) s.heap (bindSpecial (.builtin "object.__init__") self) (.builtin "object.__init__",[self]))
  (h:codeAny (model prog w) (A.under (.builtin "type.__call__" ⟨[.ref C],[]⟩)) (.call (.builtin "object.__init__") ⟨[.ref (s.heap.objs.size+1)],[]⟩) (PySem.W.InitBack (s.heap.objs.size+1) R)
   {s with heap:=(s.heap.push PySem.W.emptyDict).push (PySem.W.instObj C s.heap.objs.size)}) :
  codeAny (model prog w) A (.call (.ref C) ⟨[],[]⟩) R s:=by
 obtain⟨hh,g,d,t,os⟩:=s
 exact PySem.W.make_core (PySem.W.makes_of X hm) (PySem.W.looks_findIn X hi) hb (.inr ⟨rfl,rfl⟩) h
end
theorem c9d.some_of {v:V} {o:Option Value} (r:c9d (some v) o):∃ u,o=some u∧a3k v u:=by
 cases o with
 | none=>exact(show False from r).elim
 | some u=>exact⟨u,rfl,r⟩
theorem c9d.none_of {o:Option Value} (r:c9d none o):o=none:=by
 cases o with
 | none=>rfl
 | some u=>exact(show False from r).elim
section
variable {P:Program} {w:World} {H H':Hp} {h h':Heap} {a C dx:Addr} {fs fs':List (Str×V)}
theorem d6x (hok:HOk P w H h) (e:H a=some (.ins C dx fs)):∃ mA,e9e h a dx C mA∧(∀ f,c9d (fs.lookup f) (mA f))∧PySem.Within mA (fs.map (·.1))∧fs.length≤1000∧H dx=some (.own a):=by
 obtain⟨d,z,ne,ob,mA,n,r,q⟩:=(show a3q P w H h a (.ins C dx fs) from hok a _ e)
 exact⟨mA,⟨ob,n,ne⟩,r,q,z,d⟩
end
structure Cls (K:PySem.W.Frag) (C:Addr):Prop where
 pg:PySem.W.plainGet K C Str.empty=true
 hd:PySem.W.hasDictIn K C=true
 po:PySem.W.plainOver K C=true
 sa:PySem.W.findIn K (.ref C) "__setattr__"=some (some (.builtin "object.__setattr__"))
theorem Cls.get {K:PySem.W.Frag} {C:Addr} (c:Cls K C) (f:Str):PySem.W.plainGet K C f=true:=c.pg
structure b6u (K:PySem.W.Frag) (C:Addr) (m:Str) (f:Addr):Prop where
 at_:PySem.W.findIn K (.ref C) m=some (some (.ref f))
 fn:PySem.W.isFn K (.ref f)=true
 kp:PySem.W.keepIn K (.ref f)=true
section
variable {X:Cx} {pins:List (Addr×Obj)} {σ:St} {H:Hp} {s:Shared} {a C dx:Addr} {fs:List (Str×V)} {f:Str} {v:V} {A:Around} {E:Value→Shared→Prop}
theorem c3c {m:Str} {g:Addr} {pl:Sem Bool} {Q:Value×List Value→Shared→Prop} (I:Inv X pins σ H s) (e:H a=some (.ins C dx fs)) (c:Cls X.K C) (k:b6u X.K C m g) (l:fs.lookup m=none)
  (h:Q (.ref g,[.ref a]) s):wpAny (model X.prog X.w) A (getMethod (.ref a) m pl) Q E s:=by
 obtain⟨mA,O,r,_,_,_⟩:=d6x I.hok e
 have hn:mA m=none:=c9d.none_of (by rw[←l];exact r m)
 exact e0z I.kIn O (c.get m) k.at_ k.fn hn h
theorem Inv.made (I:Inv X pins σ H s):Inv X pins σ (upd (upd H s.heap.objs.size (.own (s.heap.objs.size+1))) (s.heap.objs.size+1) (.ins C s.heap.objs.size []))
  {s with heap:=(s.heap.push PySem.W.emptyDict).push (PySem.W.instObj C s.heap.objs.size)}:=by
 have e1:(s.heap.push PySem.W.emptyDict).get? s.heap.objs.size=some PySem.W.emptyDict:=Heap.get?_push_size s.heap rfl
 have e2:((s.heap.push PySem.W.emptyDict).push (PySem.W.instObj C s.heap.objs.size)).get? (s.heap.objs.size+1)=some (PySem.W.instObj C s.heap.objs.size):=by
  have:=Heap.get?_push_size (s.heap.push PySem.W.emptyDict) (o:=PySem.W.instObj C s.heap.objs.size) rfl
  rwa [Heap.size_push] at this
 have e3:(s.heap.push PySem.W.emptyDict).Ns s.heap.objs.size (fun _=>none):=⟨PySem.W.emptyDict,#[],_,e1,rfl,(fun e he=>absurd he (by simp)),fun _=>rfl⟩
 have I1:=I.laid (a:=s.heap.objs.size) (o:=.own (s.heap.objs.size+1)) (h':=s.heap.push PySem.W.emptyDict) (t':=s.toks) (fun b u q=>Heap.get?_push_of_some _ q) (Nat.le_refl _) ⟨_,e1⟩
 refine I1.laid (a:=s.heap.objs.size+1) (o:=.ins C s.heap.objs.size []) (t':=s.toks) (fun b u q=>Heap.get?_push_of_some _ q) (Nat.le_of_eq (Heap.size_push _ _)) ?_
 have ne:s.heap.objs.size≠s.heap.objs.size+1:=Nat.ne_of_lt (Nat.lt_succ_self _)
 refine⟨by rw[a0h ne,a0b],Nat.zero_le _,ne,e2,fun _=>none,(Heap.Ns1.of_empty e3).at fun o q=>Heap.get?_push_of_some _ q,fun _=>True.intro,fun y hy=>absurd rfl hy⟩
end
section
variable {X:Cx} {pins:List (Addr×Obj)} {σ:St} {H:Hp} {s:Shared} {A:Around} {E:Value→Shared→Prop} {Q:Value→Shared→Prop} {c:Value} {b:Bool}
inductive d4a (K:PySem.W.Frag) (H:Hp):V→Value→Prop where
 | non:d4a K H .non (.type "NoneType")
 | bl (x:Bool):d4a K H (.bl x) (.type "bool")
 | int (i:Int):d4a K H (.int i) (.type "int")
 | str (x:Str):d4a K H (.str x) (.type "str")
 | flt (x:UInt64):d4a K H (.flt x) (.type "float")
 | lst {a:Addr} {xs:List V} (e:H a=some (.lst xs)):d4a K H (.ref a) (.type "list")
 | frz {a:Addr} {o:Obj} {xs:List V} (e:H a=some (.frz o (.lst xs))):d4a K H (.ref a) (.type "list")
 | tup {a:Addr} {xs:List V} (e:H a=some (.tup xs)):d4a K H (.ref a) (.type "tuple")
 | dK {a:Addr} {kvs:List (Key×V)} (e:H a=some (.dK kvs)):d4a K H (.ref a) (.type "dict")
 | dT {a:Addr} {kvs:List (List Key×V)} (e:H a=some (.dT kvs)):d4a K H (.ref a) (.type "dict")
 | ins {a C dx:Addr} {fs:List (Str×V)} (e:H a=some (.ins C dx fs)) (cl:Cls K C) (ha:PySem.W.findIn K (.ref C) "__class__"=some (some (.builtin "object.__class__")))
   (hn:PySem.W.specialIn K (.builtin "object.__class__") "__get__"=some (some (.builtin "getset_descriptor.__get__"))) (htk:PySem.W.takesIn K (.builtin "object.__class__")=some true)
   (hm:PySem.W.mroIn K C (.type "object")=some true):d4a K H (.ref a) (.ref C)
theorem d5v {x:V} {u t:Value} (I:Inv X pins σ H s) (rx:a3k x u) (ty:d4a X.K H x t) (e:PySem.W.kitOne X.K t c=some b) (h:∀ tk,Q (.bool b) {s with toks:=tk}) :
  wpAny (model X.prog X.w) A (call (.builtin "isinstance") [u,c]) Q E s:=by
 cases ty with
 | non=>cases (show u=Value.none from rx);exact PySem.W.kia_one PySem.W.kitx_none I.kIn True.intro e (fun z=>nomatch z) h
 | bl y=>cases (show u=Value.bool y from rx);exact PySem.W.kia_one PySem.W.kitx_bool I.kIn True.intro e (fun z=>nomatch z) h
 | int i=>obtain⟨t,q⟩:=(show ∃ t,u=Value.int i t from rx);cases q;exact PySem.W.kia_one PySem.W.kitx_int I.kIn True.intro e (fun z=>nomatch z) h
 | str y=>obtain⟨t,q⟩:=(show ∃ t,u=Value.str y t from rx);cases q;exact PySem.W.kia_one PySem.W.kitx_str I.kIn True.intro e (fun z=>nomatch z) h
 | flt y=>obtain⟨t,q⟩:=(show ∃ t,u=Value.float y t from rx);cases q;exact PySem.W.kia_one PySem.W.kitx_float I.kIn True.intro e (fun z=>nomatch z) h
 | @lst a xs ea =>
  cases (show u=Value.ref a from rx)
  obtain⟨_,_,n,_,h1⟩:=(show a3q X.prog X.w H s.heap a (.lst xs) from I.hok a _ ea)
  exact PySem.W.kia_one PySem.W.kitx_list I.kIn ⟨_,h1,rfl⟩ e (fun z=>nomatch z) h
 | @frz a ob xs ea =>
  cases (show u=Value.ref a from rx)
  obtain⟨_,_,_,n,_,h1⟩:=(show a3q X.prog X.w H s.heap a (.frz ob (.lst xs)) from I.hok a _ ea)
  exact PySem.W.kia_one PySem.W.kitx_list I.kIn ⟨_,h1,rfl⟩ e (fun z=>nomatch z) h
 | @tup a xs ea =>
  cases (show u=Value.ref a from rx)
  obtain⟨_,_,_,p⟩:=(show a3q X.prog X.w H s.heap a (.tup xs) from I.hok a _ ea)
  obtain⟨o,h1,h2,_⟩:=p
  exact PySem.W.kia_one PySem.W.kitx_tuple I.kIn ⟨o,h1,h2⟩ e (fun z=>nomatch z) h
 | @dK a kvs ea =>
  cases (show u=Value.ref a from rx)
  obtain⟨_,_,vs,_,p⟩:=(show a3q X.prog X.w H s.heap a (.dK kvs) from I.hok a _ ea)
  obtain⟨o,es,ep,h1,h2,_⟩:=p
  exact PySem.W.kia_one PySem.W.kitx_dict I.kIn ⟨o,h1,h2.1⟩ e (fun z=>nomatch z) h
 | @dT a kvs ea =>
  cases (show u=Value.ref a from rx)
  obtain⟨_,_,xs,_,o,es,ep,h1,h2,_⟩:=(show a3q X.prog X.w H s.heap a (.dT kvs) from I.hok a _ ea)
  exact PySem.W.kia_one PySem.W.kitx_dict I.kIn ⟨o,h1,h2.1⟩ e (fun z=>nomatch z) h
 | @ins a C dx fs ea cl ha hn htk hm =>
  cases (show u=Value.ref a from rx)
  obtain⟨mA,O,_⟩:=d6x I.hok ea
  obtain⟨od,J,_⟩:=O.look
  exact PySem.W.kia_one (PySem.W.kitx_own (cl.get _) cl.hd ha hn htk hm) I.kIn J e (fun z=>nomatch z) h
end
end L2
namespace L2
open PySem PySem.Spec PyProof.Rows
structure Room (k:Nat) (A:Around):Prop where
 hd:A.handled=none
 dp:A.depth+3*k+5 < recursionLimit
 un:A.units+16*k+200 < cLine
theorem Room.mono {j k:Nat} {A:Around} (r:Room k A) (h:j≤k):Room j A:=⟨r.hd,by have:=r.dp;omega,by have:=r.un;omega⟩
theorem Room.deeper {k:Nat} {A:Around} (r:Room (k+1) A) (env:Env):Room k (A.deeper env) :=
 ⟨r.hd,by have:=r.dp;show A.depth+1+3*k+5 < _;omega,by have:=r.un;show A.units+3+16*k+200 < _;omega⟩
theorem Room.in1 {k:Nat} {A:Around} (r:Room (k+1) A):Room k A.in1 :=
 ⟨r.hd,by have:=r.dp;show A.depth+3*k+5 < _;omega,by have:=r.un;show A.units+1+16*k+200 < _;omega⟩
theorem Room.depth {k:Nat} {A:Around} (r:Room k A):A.depth < recursionLimit:=by have:=r.dp;omega
theorem Room.units {k:Nat} {A:Around} (r:Room k A):A.units+64 < cLine:=by have:=r.un;omega
def f0k:TA:=fun _ H Q=>Q [] H
def e7y (ta:TE) (tr:TA):TA:=fun σ H Q=>ta σ H fun x H1=>tr σ H1 fun xs H2=>Q (x::xs) H2
section
variable {X:Cx} {e:Expr} {es:List Expr} {te:TE} {t:TA} {pos:Pos}
theorem a0d:PA X [] f0k:=⟨fun _ _ _ _ H Q I h=>Calls.spliced_nil ⟨[],H,I,.nil,h⟩⟩
theorem a0a (ha:PE X e te) (hr:PA X es t) (hs:starEach (e::es) X.env=(false,eval e X.env)::starEach es X.env:=by rfl):PA X (e::es) (e7y te t):=by
 constructor;intro pos pins s σ H Q I h
 rw[hs]
 show wpAny _ _ (spliced ((false,eval e X.env)::backTo pos (starEach es X.env))) _ _ s
 refine Calls.spliced_cons (thn (ha pins s σ H _ I h) fun u s1 ⟨x,H1,I1,r1,q1⟩=>?_)
 exact thn (hr pos pins s1 σ H1 _ I1 q1) fun us s2 ⟨xs,H2,I2,r2,q2⟩=>⟨x::xs,H2,I2,.cons r1 r2,q2⟩
def f1u (t:TA):TE:=fun σ H Q=>t σ H fun xs H1=>xs.length≤sizeLine∧∀ p,H1 p=none→Q (.ref p) (upd H1 p (.tup xs))
def f1o (t:TA):TE:=fun σ H Q=>t σ H fun xs H1=>xs.length≤sizeLine∧∀ p,H1 p=none→Q (.ref p) (upd H1 p (.lst xs))
theorem a2f {x1} (h:PA X es t):PE X (.Tuple es x1 pos) (f1u t):=by
 constructor;intro pins s σ H Q I hq
 refine wpAny_Tuple_spliced (thn (h pos pins s σ H _ I hq) fun us s1 ⟨xs,H1,I1,r,z,q⟩=>⟨by rw[←r.length];exact z,?_⟩)
 have hf:H1 s1.heap.objs.size=none:=I1.hok.fresh (Nat.le_refl _)
 refine⟨.ref s1.heap.objs.size,upd H1 s1.heap.objs.size (.tup xs),I1.laid (t':=s1.toks) (fun b u e=>Heap.get?_push_of_some _ e) (Nat.le_refl _) ?_,rfl,q _ hf⟩
 exact⟨z,us,r,⟨_,Heap.get?_push_size _ rfl,rfl,_,rfl⟩⟩
theorem a1k (h:PA X es t):PE X (.List es pos) (f1o t):=by
 constructor;intro pins s σ H Q I hq
 refine wpAny_List_spliced (thn (h pos pins s σ H _ I hq) fun us s1 ⟨xs,H1,I1,r,z,q⟩=>⟨by rw[←r.length];exact z,?_⟩)
 have hf:H1 s1.heap.objs.size=none:=I1.hok.fresh (Nat.le_refl _)
 refine⟨.ref s1.heap.objs.size,upd H1 s1.heap.objs.size (.lst xs),I1.laid (t':=s1.toks) (fun b u e=>Heap.get?_push_of_some _ e) (Nat.le_refl _) ?_,rfl,q _ hf⟩
 exact⟨z,us,0,r,Heap.get?_push_size _ rfl⟩
end
abbrev Sp:=List V→Hp→VK→XK→Prop
abbrev CXT:=List Env→Hp→Shared→XK→Value→Shared→Prop
structure e4u (P:Program) (w:World) (K:PySem.W.Frag) (mg:Str→Option Value) (base:Heap) (A:Around) (outer:List Env) (s:Shared) (H:Hp):Prop where
 frames:A.frames=some outer
 mod:Mod K mg base
 bs:∀ b o,base.get? b=some o→s.heap.get? b=some o∧H b=none
 bsz:base.objs.size≤s.heap.objs.size
 funs:s.heap.FunFrames base outer
 frf:∀ b∈frs outer,H b=none
 hok:HOk P w H s.heap
 bare:AllBare s.gens
def CE (outer:List Env) (P:Program) (w:World) (H:Hp) (s:Shared) (Q:VK) (u:Value) (s':Shared):Prop :=
 ∃ v H',s'.os=s.os∧AllBare s'.gens∧Un (frs outer) [] H H' s.heap s'.heap∧HOk P w H' s'.heap∧a3k v u∧Q v H'
def CR (CX:CXT) (outer:List Env) (P:Program) (w:World) (H:Hp) (s:Shared) (Q:VK) (E:XK) (r:Result) (s':Shared):Prop :=
 match r with
 | .ok (.ret u)=>CE outer P w H s Q u s'
 | .ok _=>False
 | .error e=>CX outer H s E e s'
structure a3y (P:Program) (w:World) (K:PySem.W.Frag) (mg:Str→Option Value) (base:Heap) (CX:CXT) (k:Nat) (f:Addr) (fd:FuncData) (ps:List Str) (sp:Sp):Prop where
 len:∀ vs H Q E,sp vs H Q E→vs.length=ps.length
 run:∀ (A:Around) (outer:List Env) (s:Shared) (H:Hp) (args:Args) (us:List Value) (vs:List V) (Q:VK) (E:XK),Room k A→e4u P w K mg base A outer s H→BindsTo s fd args (ps.zip us)→a3e vs us→sp vs H Q E →
  codeAny (model P w) A (.call (.ref f) args) (CR CX outer P w H s Q E) s
theorem a3y.mono {P:Program} {w:World} {K:PySem.W.Frag} {mg:Str→Option Value} {base:Heap} {CX:CXT} {j k:Nat} {f:Addr} {fd:FuncData} {ps:List Str} {sp:Sp} (F:a3y P w K mg base CX j f fd ps sp) (h:j≤k) :
  a3y P w K mg base CX k f fd ps sp:=⟨F.len,fun A outer s H args us vs Q E hr=>F.run A outer s H args us vs Q E (hr.mono h)⟩
theorem e4u.in1 {P:Program} {w:World} {K:PySem.W.Frag} {mg:Str→Option Value} {base:Heap} {A:Around} {outer:List Env} {s:Shared} {H:Hp} (e:e4u P w K mg base A outer s H) :
  e4u P w K mg base A.in1 outer s H:=⟨e.frames,e.mod,e.bs,e.bsz,e.funs,e.frf,e.hok,e.bare⟩
section
variable {X:Cx} {pins:List (Addr×Obj)} {σ:St} {H:Hp} {s s':Shared}
theorem Inv.env0 (I:Inv X pins σ H s):e4u X.prog X.w X.K X.mg X.base X.A X.stack s H :=
 ⟨I.ok.frames,I.ok.mod,I.bs,Nat.le_trans I.ok.bsz I.sz,I.stack,I.stkFree,I.hok,I.bare⟩
theorem Inv.after {Q:VK} {u:Value} (I:Inv X pins σ H s) (h:CE X.stack X.prog X.w H s Q u s'):EP X pins σ Q u s':=by
 obtain⟨v,H',os,bare,un,hok,r,q⟩:=h
 obtain⟨hh,g,d,t,os'⟩:=s'
 obtain rfl:os'=s.os:=os
 exact⟨v,H',I.call (h':=hh) (g':=g) (d':=d) (t':=t) (ch:=[]) un hok bare (fun b z=>absurd z (by simp)),r,q⟩
end
def e9o (sp:Sp) (dvs:List V) (E:XK) (t:TA):TE:=fun σ H Q=>t σ H fun vs H1=>sp (vs++dvs) H1 Q E
def a1j (K:PySem.W.Frag) (fd:FuncData) (ps:List Str) (ds:List Value):Prop :=
 ∀ (s:Shared) (us:List Value),K.In s.heap→(us++ds).length=ps.length→BindsTo s fd ⟨us,[]⟩ (ps.zip (us++ds))
theorem a1j.all {K:PySem.W.Frag} {fd:FuncData} {ps:List Str} (h:∀ us:List Value,us.length=ps.length→bindArgs fd ⟨us,[]⟩=pure (ps.zip us)):a1j K fd ps []:=fun s us _ hl=>by
 rw[List.append_nil] at hl ⊢
 exact .of_eq (h us hl)
def c8o (CX:CXT) (X:Cx) (E:XK):Prop:=∀ (pins:List (Addr×Obj)) (σ:St) (H:Hp) (s:Shared) (e:Value) (s':Shared),Inv X pins σ H s→CX X.stack H s E e s'→X.xe e s'
section
variable {X:Cx} {CX:CXT} {k:Nat} {f C:Addr} {fd:FuncData} {ps:List Str} {sp:Sp} {dvs:List V} {ds:List Value} {E:XK} {x m:Str} {p pos apos:Pos} {e o:Expr} {es:List Expr} {ta:TE} {t:TA}
theorem d7y {pins:List (Addr×Obj)} {σ:St} {H:Hp} {s:Shared} {Q:VK} {us:List Value} {vs:List V} (F:a3y X.prog X.w X.K X.mg X.base CX k f fd ps sp) (hr:Room k X.A) (hb:a1j X.K fd ps ds) (hd:a3e dvs ds) (hx:c8o CX X E)
  (I:Inv X pins σ H s) (r:a3e vs us) (h:sp (vs++dvs) H Q E):wpAny (model X.prog X.w) X.A (call (.ref f) us) (EP X pins σ Q) X.xe s:=by
 have r2:a3e (vs++dvs) (us++ds):=r.append hd
 have hl:(us++ds).length=ps.length:=by rw[←r2.length];exact F.len _ _ _ _ h
 refine wpAny_call (codeAny_mono (F.run X.A X.stack s H ⟨us,[]⟩ (us++ds) (vs++dvs) Q E hr I.env0 (hb s us I.kIn hl) r2 h) fun r s' hq=>?_)
 cases r with
 | error e=>exact hx pins σ H s e s' I hq
 | ok fl =>
  cases fl with
  | ret u=>exact I.after hq
  | next=>exact False.elim hq
  | brk=>exact False.elim hq
  | cont=>exact False.elim hq
theorem a0l (F:a3y X.prog X.w X.K X.mg X.base CX k f fd ps sp) (hr:Room k X.A) (hg:Gl X x) (hm:X.mg x=some (.ref f)) (hk:PySem.W.keepIn X.K (.ref f)=true) (hb:a1j X.K fd ps ds) (hd:a3e dvs ds) (hx:c8o CX X E)
  (ha:PA X (e::es) t) (hdb:(x == ("__debug__":Str))=false:=by decide) (he:starEach (e::es) X.env=(false,eval e X.env)::starEach es X.env:=by rfl) (hpl:(backTo pos (starEach es X.env)).any (·.1)=false:=by rfl) :
  PE X (.Call (.Name x p) (e::es) [] pos) (e9o sp dvs E t):=by
 constructor;intro pins s σ H Q I h
 refine wpAny_Call_Name_kw (c5n I hg hm ?_ hdb)
 refine PySem.W.callWith_K (h₀:=X.base) I.ok.mod.kin hk (thn (ha pos pins s σ H _ I h) fun us s1 ⟨vs,H1,I1,r,q⟩=>⟨I1.kIn,?_⟩) he hpl
 exact d7y F hr hb hd hx I1 r q
end
structure a0r (N P:List Str) (sc:Scope):Prop where
 kind:sc.kind=.function
 co:sc.isCoroutine=false
 gen:sc.isGenerator=false
 nd:N.Nodup
 pre:N.take P.length=P
 par:∀ x∈P,sc.names.lookup x=some .local∨sc.names.lookup x=some .cell
 nofree:∀ y∈sc.names,y.2≠.free
theorem c8f {kindOf:Str→Option NameKind} {x:Str}:∀ {binds:List (Str×Value)} {m:Str→Option Value},(∀ v,(x,v) ∉ binds)→bindL kindOf binds m x=m x
 | [],_,_=>rfl
 | (n,v)::r,m,h=>by
  unfold bindL
  rw[c8f fun w hw=>h w (List.mem_cons_of_mem _ hw)]
  split
  ·have:x≠n:=by rintro rfl;exact h v List.mem_cons_self
   simp[this]
  ·rfl
theorem c6x {kindOf:Str→Option NameKind} {x:Str}:∀ {binds:List (Str×Value)} {m:Str→Option Value},(∀ v,(x,v) ∉ binds)→bindC kindOf binds m x=m x
 | [],_,_=>rfl
 | (n,v)::r,m,h=>by
  unfold bindC
  rw[c6x fun w hw=>h w (List.mem_cons_of_mem _ hw)]
  split
  ·rfl
  ·have:x≠n:=by rintro rfl;exact h v List.mem_cons_self
   simp[this]
theorem c8c {kindOf:Str→Option NameKind} {x:Str} {v:Value}:∀ {P:List Str} {vs:List Value} {i:Nat} {m:Str→Option Value},P.Nodup→P[i]?=some x→vs[i]?=some v→kindOf x=some .local →
  bindL kindOf (P.zip vs) m x=some v
 | [],_,_,_,_,h,_,_=>by simp at h
 | _::_,[],_,_,_,_,h,_=>by simp at h
 | p::P,w::vs,0,m,nd,h1,h2,hk=>by
  simp at h1 h2;subst h1;subst h2
  show bindL kindOf ((p,w)::P.zip vs) m p=_
  unfold bindL
  rw[c8f fun v hv=>(List.nodup_cons.mp nd).1 (List.of_mem_zip hv).1,if_pos hk]
  simp
 | p::P,w::vs,i+1,m,nd,h1,h2,hk=>by
  show bindL kindOf ((p,w)::P.zip vs) m x=_
  unfold bindL
  exact c8c (i:=i) (List.nodup_cons.mp nd).2 (by simpa using h1) (by simpa using h2) hk
theorem c7a {kindOf:Str→Option NameKind} {x:Str} {v:Value}:∀ {P:List Str} {vs:List Value} {i:Nat} {m:Str→Option Value},P.Nodup→P[i]?=some x→vs[i]?=some v→kindOf x≠some .local →
  bindC kindOf (P.zip vs) m x=some v
 | [],_,_,_,_,h,_,_=>by simp at h
 | _::_,[],_,_,_,_,h,_=>by simp at h
 | p::P,w::vs,0,m,nd,h1,h2,hk=>by
  simp at h1 h2;subst h1;subst h2
  show bindC kindOf ((p,w)::P.zip vs) m p=_
  unfold bindC
  rw[c6x fun v hv=>(List.nodup_cons.mp nd).1 (List.of_mem_zip hv).1,if_neg hk]
  simp
 | p::P,w::vs,i+1,m,nd,h1,h2,hk=>by
  show bindC kindOf ((p,w)::P.zip vs) m x=_
  unfold bindC
  exact c7a (i:=i) (List.nodup_cons.mp nd).2 (by simpa using h1) (by simpa using h2) hk
def c1o (N:List Str) (vs:List V):St:=vs.map some++List.replicate (N.length - vs.length) none
def b7m (CX:CXT) (P:Program) (w:World) (K:PySem.W.Frag) (mg:Str→Option Value) (base:Heap) (N:List Str) (qual:Str) (scope:Scope) (f:Addr) (cd:Value) (A:Around) (outer:List Env) (s:Shared) (H:Hp) (E:XK):Cx where
 prog:=P
 w:=w
 K:=K
 mg:=mg
 base:=base
 A:=A.deeper (envOfC qual scope s.heap.objs.size f cd)
 N:=N
 s₀:=s
 H₀:=H
 env:=envOfC qual scope s.heap.objs.size f cd
 outer:=outer
 stack:=envOfC qual scope s.heap.objs.size f cd::outer
 ex:=[]
 calm:=true
 fn:=fun _=>true
 pn:=[]
 xe:=fun e s'=>wpAny (model P w) (A.deeper (envOfC qual scope s.heap.objs.size f cd)) (leaving (envOfC qual scope s.heap.objs.size f cd) e) (fun _ s''=>CX outer H s E e s'') (fun e' s''=>CX outer H s E e' s'') s'
theorem d1v {sc:Scope} {n:Nat} {x:Str} (h:sc.names.lookup x=some .cell):∃ c,(cellsFrom n sc.names []).lookup x=some c:=by
 have q:=PySem.W.cellsFrom_some sc.names n [] (.inl h)
 exact Option.isSome_iff_exists.mp q
theorem d7l {CX:CXT} {P:Program} {w:World} {K:PySem.W.Frag} {mg:Str→Option Value} {base:Heap} {N ps:List Str} {qual:Str} {scope:Scope} {f:Addr} {cd:Value} {A:Around} {outer:List Env} {s s1:Shared} {H:Hp} {E:XK} {us:List Value} {vs:List V}
  (S:a0r N ps scope) (hd:A.handled=none) (e0:e4u P w K mg base A outer s H) (hl:vs.length=ps.length) (r:a3e vs us)
  (x:InCallC s s.heap.objs.size (bindL (envOfC qual scope s.heap.objs.size f cd).kindOf (ps.zip us) fun _=>none) (cellsFrom (s.heap.objs.size+1) scope.names []) (bindC (envOfC qual scope s.heap.objs.size f cd).kindOf (ps.zip us) fun _=>none) s1) :
  Inv (b7m CX P w K mg base N qual scope f cd A outer s H E) [] (c1o N vs) H s1:=by
 have hpl:ps.length≤N.length:=by have:=congrArg List.length S.pre;rw[List.length_take] at this;omega
 obtain⟨h1,tk,rfl,hk⟩:=x.done
 have noA:∀ b:Addr,b ∉ (b7m CX P w K mg base N qual scope f cd A outer s H E).ex:=fun b z=>absurd (show b∈([]:List Addr) from z) (by simp)
 refine⟨⟨e0.mod,S.kind,rfl,rfl,Nat.le_refl _,fun y z c h1 h2=>?_,fun y hy=>?_,fun y c _ h=>?_,fun _=>hd,Around.frames_deeper e0.frames,.inr ⟨rfl,rfl⟩,fun b z=>absurd z (noA b),e0.bs,e0.bsz,fun b _ _=>noA b,fun b z=>absurd z (noA b),e0.funs,e0.frf⟩,
  rfl,e0.bare,Un.kept hk,⟨_,x.toInCall.ns,fun i y v h1 h2 h3=>?_⟩,fun y c h=>⟨_,x.cell y c h⟩,e0.hok.fresh (Nat.le_refl _),fun y c h=>?_,fun p hp=>absurd (show p∈([]:List (Addr×Obj)) from hp) (by simp),e0.hok.kept hk,?_⟩
 ·exact name_of_addr x.apart (PySem.mem_of_lookup h1) (PySem.mem_of_lookup h2)
 ·have hy:scope.names.lookup y=some .cell∨scope.names.lookup y=some .free:=hy
  rcases hy with hy | hy
  ·exact d1v hy
  ·exact absurd rfl (S.nofree _ (PySem.mem_of_lookup hy))
 ·exact Nat.le_of_lt (x.above y c (PySem.mem_of_lookup h))
 ·have hi:i < vs.length:=by
   unfold c1o at h2
   by_cases hi:i < vs.length
   ·exact hi
   ·rw[List.getElem?_append_right (by simpa using hi)] at h2
    rw[List.getElem?_replicate] at h2
    split at h2<;>cases h2
  have ha:vs[i]?=some v:=by
   unfold c1o at h2
   rw[List.getElem?_append_left (by simpa using hi),List.getElem?_map] at h2
   cases e:vs[i]? with
   | none=>rw[e] at h2;cases h2
   | some a=>rw[e] at h2;cases h2;rfl
  obtain⟨u,hu,rv⟩:=r.get ha
  have hp:ps[i]?=some y:=by
   rw[←S.pre,List.getElem?_take_of_lt (by omega)];exact h1
  have ndP:ps.Nodup:=by rw[←S.pre];exact S.nd.sublist (List.take_sublist _ _)
  refine⟨u,rv,?_⟩
  rcases S.par y (List.mem_of_getElem? hp) with k | k
  ·exact .inl ⟨k,c8c ndP hp hu k⟩
  ·obtain⟨c,e⟩:=d1v (n:=s.heap.objs.size+1) k
   refine .inr ⟨.inl k,c,e,?_⟩
   have q:=x.cell y c e
   rw[c7a ndP hp hu (by show scope.names.lookup y≠_;rw[k];decide)] at q
   exact q
 ·exact e0.hok.fresh (Nat.le_of_lt (x.above y c (PySem.mem_of_lookup h)))
 ·unfold c1o
  show _=N.length
  rw[List.length_append,List.length_map,List.length_replicate]
  omega
theorem e3z {CX:CXT} {P:Program} {w:World} {K:PySem.W.Frag} {mg:Str→Option Value} {base:Heap} {k:Nat} {f:Addr} {name qual:Str} {params:Arguments} {body:List Stmt} {scope:Scope} {dV kV doc pm cdv ct oc:Value} {an od:Option Addr}
  {osl:Array (Option Value)} {N ps:List Str} {sp:Sp} (lk:K.lookup f=some ⟨oc,od,.func (PySem.W.fnOf name qual params body scope dV kV doc pm an cdv ct),osl⟩) (hcd:PySem.W.codeIn K cdv qual=true) (S:a0r N ps scope)
  (len:∀ vs H Q E,sp vs H Q E→vs.length=ps.length)
  (hbody:∀ (A:Around) (outer:List Env) (s:Shared) (H:Hp) (vs:List V) (Q:VK) (E:XK),Room k (A.deeper (envOfC qual scope s.heap.objs.size f cdv))→sp vs H Q E →
   ∃ t,PSs (b7m CX P w K mg base N qual scope f cdv A outer s H E) body t∧t {nx:=fun _ H'=>Q .non H',rt:=Q} (c1o N vs) H) :
  a3y P w K mg base CX (k+1) f (PySem.W.fnOf name qual params body scope dV kV doc pm an cdv ct) ps sp:=by
 refine⟨len,fun A outer s H args us vs Q E hr e0 hb r hsp=>?_⟩
 have hl:=len _ _ _ _ hsp
 have KX:K.In s.heap:=e0.mod.kin.keeps fun b o e=>(e0.bs b o e).1
 have lim:s.heap.NoLimit:=e0.mod.nolimit.keeps fun b o e=>(e0.bs b o e).1
 have hkind:∀ y∈ps.zip us,scope.names.lookup y.1=some .local∨(scope.names.lookup y.1=some .cell∧((cellsFrom (s.heap.objs.size+1) scope.names []).lookup y.1).isSome=true):=fun ⟨n,v⟩ hy=>by
  rcases S.par n (List.of_mem_zip hy).1 with q | q
  ·exact .inl q
  ·exact .inr ⟨q,PySem.W.cellsFrom_some _ _ _ (.inl q)⟩
 refine codeAny_call_function hr.depth (KX _ _ lk) rfl S.co S.gen rfl (PySem.W.codeRec_of KX hcd) (hb _ _ _ _ ?_)
 refine wpAny_newFunctionEnv_cells S.kind hkind fun env he s1 x=>?_
 subst he
 refine⟨lim.keeps x.toInCall.keep,codeAny_func ?_⟩
 obtain⟨t,ht,hq⟩:=hbody A outer s H vs Q E (hr.deeper _) hsp
 have I:Inv (b7m CX P w K mg base N qual scope f cdv A outer s H E) [] (c1o N vs) H s1:=d7l S hr.hd e0 hl r x
 refine wpAny_mono (ht [] s1 (c1o N vs) H _ I hq) (fun fl s' hs=>?_) fun e s' hs=>hs
 have fin:∀ {σ':St} {H':Hp} {v:V} {u:Value},Inv (b7m CX P w K mg base N qual scope f cdv A outer s H E) [] σ' H' s'→a3k v u→Q v H'→CE outer P w H s Q u s' :=
  fun {σ' H' v u} J rv q=>⟨v,H',J.os,J.bare,J.base,J.hok,rv,q⟩
 cases fl with
 | ret u =>
  obtain⟨v,σ',H',J,rv,q⟩:=hs
  exact fin J rv q
 | next =>
  obtain⟨σ',H',J,q⟩:=hs
  exact fin (v:=V.non) (u:=Value.none) J rfl q
 | brk =>
  obtain⟨_,_,_,q⟩:=hs
  exact False.elim q
 | cont =>
  obtain⟨_,_,_,q⟩:=hs
  exact False.elim q
end L2
namespace L2
open PySem PySem.Spec PyProof.Rows
section
variable {X:Cx} {x:Str} {p pos:Pos} {e:Expr} {es:List Expr} {t:TA} {id T:String} {r:List V→Hp→VK→Prop}
def tCB (r:List V→Hp→VK→Prop) (t:TA):TE:=fun σ H Q=>t σ H fun vs H1=>r vs H1 Q
theorem a1b (hc:b9p X (.builtin id) r) (hg:Gl X x) (hm:X.mg x=none) (hv:bootBuiltins x=some (.builtin id)) (ha:PA X (e::es) t) (hn:x≠"__name__":=by decide) (hdb:(x == ("__debug__":Str))=false:=by decide)
  (he:starEach (e::es) X.env=(false,eval e X.env)::starEach es X.env:=by rfl) (hpl:(backTo pos (starEach es X.env)).any (·.1)=false:=by rfl):PE X (.Call (.Name x p) (e::es) [] pos) (tCB r t):=by
 constructor;intro pins s σ H Q I h
 refine wpAny_Call_Name_kw (c3h I hg hm hv ?_ hn hdb)
 exact PyProof.Rows.callWith_builtin1 (thn (ha pos pins s σ H _ I h) fun us s1 ⟨vs,H1,I1,r1,q1⟩=>hc pins s1 σ H1 vs us Q I1 r1 q1) he hpl
theorem a2y (hc:b9p X (.type T) r) (hg:Gl X x) (hm:X.mg x=none) (hv:bootBuiltins x=some (.type T)) (ha:PA X (e::es) t) (hn:x≠"__name__":=by decide) (hdb:(x == ("__debug__":Str))=false:=by decide)
  (he:starEach (e::es) X.env=(false,eval e X.env)::starEach es X.env:=by rfl) (hpl:(backTo pos (starEach es X.env)).any (·.1)=false:=by rfl):PE X (.Call (.Name x p) (e::es) [] pos) (tCB r t):=by
 constructor;intro pins s σ H Q I h
 refine wpAny_Call_Name_kw (c3h I hg hm hv ?_ hn hdb)
 exact PyProof.Rows.callWith_type1 (thn (ha pos pins s σ H _ I h) fun us s1 ⟨vs,H1,I1,r1,q1⟩=>hc pins s1 σ H1 vs us Q I1 r1 q1) he hpl
end
end L2
namespace HT
open PySem PyProof.Rows
def lexLt:List Int→List Int→Bool
 | [],[]=>false
 | [],_::_=>true
 | _::_,[]=>false
 | x::xs,y::ys=>if x=y then lexLt xs ys else decide (x < y)
theorem lexLt_cons (x y:Int) (xs ys:List Int):lexLt (x::xs) (y::ys)=if x=y then lexLt xs ys else decide (x < y):=rfl
theorem lexLt_nil_nil:lexLt [] []=false:=rfl
theorem c1w (y:Int) (ys:List Int):lexLt [] (y::ys)=true:=rfl
theorem c1t (x:Int) (xs:List Int):lexLt (x::xs) []=false:=rfl
theorem e1l (A:Around) (s:Shared) (a:Int) (t:Tok) (c:Int) (u:Tok):∃ e,SeqAt.EqAt A s (.int a t) (.int c u) e∧(e=true ↔ a=c) :=
 ⟨(a == c),SeqAt.EqAt.int_int a t c u,by simp⟩
theorem d9d (A:Around) (s:Shared) (a:Int) (t:Tok) (c:Int) (u:Tok) (prog:Program) (w:World) (E:Value→Shared→Prop) (Q:Value→Shared→Prop) (h:Q (.bool (decide (a < c))) s) :
  wpAny (model prog w) A (richCompare .Lt (.int a t) (.int c u)) Q E s :=
 (PyProof.Rows.lt_int h:wpAny (model prog w) A (compareOp .Lt (.int a t) (.int c u)) Q E s)
section
open PySem.SeqAt
open PySem.AutoSeq1 (wpAny_loadPart')
open PySem.MeetsSeq PySem.MeetsSeq2 PySem.MeetsSeq3
theorem c3x (l b:Addr) (items items2:Array Value) (n n2:Nat) (dd dd2:Option Addr) (sl sl2:Array (Option Value)) (ns ms:List Int) (hi:IntsAre items.toList ns) (hj:IntsAre items2.toList ms) :
  Meets (Builtin.«tuple.__lt__» ⟨[.ref l,.ref b],[]⟩)
   (fun _ R s=>s.heap.get? l=some {cls:=.type "tuple",dict:=dd,data:=.seq items n,slots:=sl}∧s.heap.get? b=some {cls:=.type "tuple",dict:=dd2,data:=.seq items2 n2,slots:=sl2} ∧
    R (.ok (.ret (.bool (lexLt ns ms)))) s) :=
 .of_wp fun prog w A R s h=>by
  obtain⟨hp,g,d,tk,os⟩:=s;obtain⟨hl,hb,h⟩:=h
  have f2:=AutoSeq1.sub_tuple_tuple
  have z1:items.size=ns.length:=by rw[←hi.length];simp
  have z2:items2.size=ms.length:=by rw[←hj.length];simp
  wp_walk using wpAny_loadPart' hl,wpAny_loadPart' hb,wpAny_forIn_list _ (fun c6d b s'=>b.1=none∧s'=⟨hp,g,d,tk,os⟩∧∃ (vs ws:List Value) (ns' ms':List Int),c6d=vs.zip ws ∧
   IntsAre vs ns'∧IntsAre ws ms'∧ns'.length+items2.size=ms'.length+items.size∧R (.ok (.ret (.bool (lexLt ns' ms')))) ⟨hp,g,d,tk,os⟩) _
  case turn =>
   rintro⟨y,x⟩ c6d b s' ⟨hb',rfl,vs,ws,ns',ms',hz,hvi,hwi,hlen,hR⟩
   cases hvi with
   | nil=>rw[List.zip_nil_left] at hz;cases hz
   | cons a t hvi' =>
    cases hwi with
    | nil=>rw[List.zip_nil_right] at hz;cases hz
    | cons c u hwi' =>
     rw[List.zip_cons_cons] at hz
     injection hz with hyx hrest
     injection hyx with hy hx
     subst hy hx
     rw[lexLt_cons] at hR
     simp only [List.length_cons] at hlen
     obtain⟨e,he,hiff⟩:=e1l A.in1 ⟨hp,g,d,tk,os⟩ a t c u
     refine wpAny_bind (he prog w _ _ ?_)
     cases e with
     | true =>
      rw[if_pos (hiff.mp rfl)] at hR
      wp_walk
      exact⟨rfl,rfl,_,_,_,_,hrest,hvi',hwi',by omega,hR⟩
     | false =>
      rw[if_neg (fun q=>absurd (hiff.mpr q) Bool.false_ne_true)] at hR
      have hri:=d9d A.in1 ⟨hp,g,d,tk,os⟩ a t c u prog w
      wp_walk using hri
      exact⟨_,rfl,by simpa using hR⟩
  case fin =>
   rintro⟨b1,b2⟩ s' ⟨hb',rfl,vs,ws,ns',ms',hz,hvi,hwi,hlen,hR⟩
   simp only at hb'
   subst hb'
   have hv:lexLt ns' ms'=decide (items.size < items2.size):=by
    cases hvi with
    | nil =>
     cases hwi with
     | nil =>
      simp only [List.length_nil] at hlen
      rw[lexLt_nil_nil]
      exact(decide_eq_false (by omega)).symm
     | cons c u hw =>
      simp only [List.length_nil,List.length_cons] at hlen
      rw[c1w]
      exact(decide_eq_true (by omega)).symm
    | cons a t hv =>
     cases hwi with
     | nil =>
      simp only [List.length_nil,List.length_cons] at hlen
      rw[c1t]
      exact(decide_eq_false (by omega)).symm
     | cons c u hw =>
      rw[List.zip_cons_cons] at hz
      cases hz
   rw[hv] at hR
   wp_walk
   exact⟨_,rfl,by simpa [Builtin.Tuple.tupleCompareSizes] using hR⟩
  case h =>
   exact⟨rfl,rfl,items.toList,items2.toList,ns,ms,rfl,hi,hj,by omega,h⟩
end
section
variable {prog:Program} {w:World} {A:Around} {E:Value→Shared→Prop} {s:Shared}
theorem lt_tupInts {l b:Addr} {items items2:Array Value} {ns ms:List Int} {Q:Value→Shared→Prop} (hl:IsTup s.heap l items) (hb:IsTup s.heap b items2) (hi:IntsAre items.toList ns) (hj:IntsAre items2.toList ms)
  (hu:A.units < cLine) (h:Q (.bool (lexLt ns ms)) s):wpAny (model prog w) A (compareOp .Lt (.ref l) (.ref b)) Q E s:=by
 obtain⟨⟨cls,dd,data,sl⟩,ho,hc,n,hd⟩:=id hl
 obtain⟨⟨cls2,dd2,data2,sl2⟩,ho2,hc2,n2,hd2⟩:=id hb
 simp only at hc hd hc2 hd2
 subst hc hd hc2 hd2
 exact richCompare_meets_room (op:=.Lt) ⟨_,ho,rfl⟩ ⟨_,ho2,rfl⟩ PySem.F.slot_tuple_lt PySem.F.entry_tuple_lt (PySem.F.args_tuple_lt_2 _ _) (c3x l b items items2 n n2 dd dd2 sl sl2 ns ms hi hj)
  ⟨ho,ho2,show Value.bool (lexLt ns ms)≠Value.notImplemented∧Q (.bool (lexLt ns ms)) s from ⟨(fun x=>nomatch x),h⟩⟩ hu
def sIx (n d:Nat):Option Int→Nat
 | none=>d
 | some v=>if v < 0 then (v+(n:Int)).toNat else min v.toNat n
theorem sIx_none (n d:Nat):sIx n d none=d:=rfl
theorem sIx_nat (n d k:Nat):sIx n d (some (k:Int))=min k n:=by
 show (if (k:Int) < 0 then ((k:Int)+(n:Int)).toNat else min (k:Int).toNat n)=min k n
 rw[if_neg (by omega),Int.toNat_natCast]
end
end HT
namespace L2
open PySem PySem.Spec PyProof.Rows
abbrev TO:=St→Hp→(Option Int→Hp→Prop)→Prop
structure PO (X:Cx) (e:Option Expr) (t:TO):Prop where
 run:∀ (pins:List (Addr×Obj)) (s:Shared) (σ:St) (H:Hp) (Q:Option Int→Hp→Prop),Inv X pins σ H s→t σ H Q →
  wpAny (model X.prog X.w) X.A (evalPart e X.env) (fun u s'=>∃ o H',Inv X pins σ H' s'∧IsPart u o∧Q o H') X.xe s
instance {X:Cx} {e:Option Expr} {t:TO}:CoeFun (PO X e t) fun _=>∀ (pins:List (Addr×Obj)) (s:Shared) (σ:St) (H:Hp) (Q:Option Int→Hp→Prop),Inv X pins σ H s→t σ H Q →
  wpAny (model X.prog X.w) X.A (evalPart e X.env) (fun u s'=>∃ o H',Inv X pins σ H' s'∧IsPart u o∧Q o H') X.xe s:=⟨PO.run⟩
def e4s:TO:=fun _ H Q=>Q none H
def f0l (t:TE):TO:=fun σ H Q=>t σ H fun x H1=>∃ i,x=.int i∧Q (some i) H1
section
variable {X:Cx} {e:Expr} {te:TE} {lo hi:Option Expr} {tl th:TO} {pos p2:Pos}
theorem a9h:PO X none e4s:=by
 constructor;intro pins s σ H Q I h
 rw[evalPart_none]
 exact wpAny_pure ⟨none,H,I,.none,h⟩
theorem a9t (h:PE X e te):PO X (some e) (f0l te):=by
 constructor;intro pins s σ H Q I hw
 rw[evalPart_some]
 refine thn (h pins s σ H _ I hw) fun u s1 ⟨x,H1,I1,r1,q1⟩=>?_
 obtain⟨i,rfl,q⟩:=q1
 obtain⟨t,rfl⟩:=r1
 exact⟨some i,H1,I1,.int i t,q⟩
def SlR (X:Cx) (r:V→Option Int→Option Int→Hp→VK→Prop):Prop :=
 ∀ (pins:List (Addr×Obj)) (s:Shared) (σ:St) (H:Hp) (x:V) (v vl vu:Value) (lo hi:Option Int) (sl:Addr) (Q:VK),Inv X pins σ H s→a3k x v→s.heap.IsSliceOf sl vl vu .none→IsPart vl lo→IsPart vu hi→r x lo hi H Q →
  ∃ T id,typeLookup (.type T) "__getitem__"=pure (some (.builtin id))∧s.TypeIs v T∧wpAny (model X.prog X.w) X.A (getItem v (.ref sl)) (EP X pins σ Q) X.xe s
def tSl (r:V→Option Int→Option Int→Hp→VK→Prop) (te:TE) (tl th:TO):TE:=fun σ H Q=>te σ H fun x H1=>tl σ H1 fun l H2=>th σ H2 fun u H3=>r x l u H3 Q
theorem a6u {r:V→Option Int→Option Int→Hp→VK→Prop} (hr:SlR X r) (he:PE X e te) (hl:PO X lo tl) (hu:PO X hi th):PE X (.Subscript e (.Slice lo hi none p2) pos) (tSl r te tl th):=by
 constructor;intro pins s σ H Q I h
 refine Subscript_ (thn (he pins s σ H _ I h) fun v s1 ⟨x,H1,I1,r1,q1⟩=>?_)
 refine wpAny_Slice (thn (hl pins s1 σ H1 _ I1 q1) fun vl s2 ⟨l,H2,I2,pl,q2⟩=>thn (hu pins s2 σ H2 _ I2 q2) fun vu s3 ⟨u,H3,I3,pu,q3⟩=>?_)
 rw[evalPart_none]
 refine wpAny_pure ?_
 have I4:Inv X pins σ H3 {s3 with heap:=s3.heap.push {cls:=.type "slice",data:=.fields #[vl,vu,.none]}}:=I3.kept (t':=s3.toks) fun b ob q=>Heap.get?_push_of_some _ q
 obtain⟨T,id,hT,ht,hg⟩:=hr pins {s3 with heap:=s3.heap.push {cls:=.type "slice",data:=.fields #[vl,vu,.none]}} σ H3 x v vl vu l u s3.heap.objs.size Q I4 r1 (Heap.IsSliceOf.new ..) pl pu q3
 show wpAny (model X.prog X.w) X.A (subscriptTail e (.Slice lo hi none p2) v (.ref s3.heap.objs.size)) (EP X pins σ Q) X.xe {s3 with heap:=s3.heap.push {cls:=.type "slice",data:=.fields #[vl,vu,.none]}}
 exact tail_any (ops:=[.ref s3.heap.objs.size,v]) ht hT hg (by with_unfolding_all rfl)
def a7o (xs:List V) (lo hi:Option Int):List V:=(xs.drop (HT.sIx xs.length 0 lo)).take (HT.sIx xs.length xs.length hi - HT.sIx xs.length 0 lo)
theorem a5s (xs:List V) (lo hi:Option Int):(a7o xs lo hi).length≤xs.length:=by
 unfold a7o
 rw[List.length_take,List.length_drop]
 omega
end
end L2
namespace L2
open PySem PySem.Spec PyProof.Rows
def ixN (n:Nat) (i:Int):Option Nat:=if 0≤i then (if i < n then some i.toNat else none) else if -(n:Int)≤i then some (i+n).toNat else none
def atI {α:Type} (xs:List α) (i:Int):Option α:=(ixN xs.length i).bind fun j=>xs[j]?
theorem d8p {n:Nat} {i:Int} {j:Nat} (h:ixN n i=some j):seqIndex? i n=some j∧j < n∧-(n:Int)≤i∧i < n:=by
 unfold ixN at h
 by_cases h0:0≤i
 ·rw[if_pos h0] at h
  by_cases h1:i < n
  ·rw[if_pos h1] at h
   have e:i.toNat=j:=Option.some.inj h
   exact⟨by rw[seqIndex_of h0 h1,e],by omega,by omega,h1⟩
  ·rw[if_neg h1] at h;cases h
 ·rw[if_neg h0] at h
  by_cases h1:-(n:Int)≤i
  ·rw[if_pos h1] at h
   have e:(i+n).toNat=j:=Option.some.inj h
   exact⟨by rw[seqIndex_neg (by omega) h1,e],by omega,h1,by omega⟩
  ·rw[if_neg h1] at h;cases h
theorem c9t {α:Type} {xs:List α} {i:Int} {v:α} (h:atI xs i=some v):∃ j,seqIndex? i xs.length=some j∧xs[j]?=some v∧j < xs.length∧-(xs.length:Int)≤i∧i < xs.length:=by
 unfold atI at h
 cases e:ixN xs.length i with
 | none=>rw[e] at h;cases h
 | some j =>
  rw[e] at h
  obtain⟨h1,h2,h3,h4⟩:=d8p e
  exact⟨j,h1,h,h2,h3,h4⟩
theorem a0k {α:Type} {xs:List α} {j:Nat} {v:α} (h:xs[j]?=some v):atI xs (j:Int)=some v:=by
 have hj:j < xs.length:=(List.getElem?_eq_some_iff.mp h).1
 have e:ixN xs.length (j:Int)=some j:=by
  unfold ixN
  rw[if_pos (by omega),if_pos (by omega)];simp
 unfold atI;rw[e];exact h
def e3r (b:Expr):Prop:=∀ o i,subscripted b false o i=operate [o,i] (getItem o i)
def IxR (X:Cx) (r:R2):Prop :=
 ∀ (value slice:Expr) (pins:List (Addr×Obj)) (s:Shared) (σ:St) (H:Hp) (x y:V) (v u:Value) (Q:VK),Inv X pins σ H s→a3k x v→a3k y u→r x y H Q →
  subscripted slice false v u=operate [v,u] (getItem v u)→wpAny (model X.prog X.w) X.A (subscriptTail value slice v u) (EP X pins σ Q) X.xe s
def MtR (X:Cx) (id:String) (r:V→List V→Hp→VK→Prop):Prop :=
 ∀ (pins:List (Addr×Obj)) (s:Shared) (σ:St) (H:Hp) (x:V) (xs:List V) (v:Value) (us:List Value) (Q:VK),Inv X pins σ H s→a3k x v→a3e xs us→r x xs H Q →
  wpAny (model X.prog X.w) X.A (call (.builtin id) (v::us)) (EP X pins σ Q) X.xe s
section
variable {X:Cx} {a b:Expr} {ta tb:TE} {pos:Pos}
theorem a0o {r:R2} (hr:IxR X r) (ha:PE X a ta) (hb:PE X b tb) (hs:e3r b):PE X (.Subscript a b pos) (tOp r ta tb):=by
 constructor;intro pins s σ H Q I h
 exact Subscript_ (e9y ha hb I h fun v u s2 x y H2 I2 rx ry q=>hr a b pins s2 σ H2 x y v u Q I2 rx ry q (hs _ _))
def e8y (K:PySem.W.Frag):R2:=fun x y H Q=>∃ p xs i v,x=.ref p∧y=.int i∧SqL K H p xs∧atI xs i=some v∧Q v H
def f0z (K:PySem.W.Frag):R2:=fun x y H Q=>∃ p xs i v,x=.ref p∧y=.int i∧SqT K H p xs∧atI xs i=some v∧Q v H
theorem a0w:IxR X (e8y X.K):=by
 intro value slice pins s σ H x y v u Q I rx ry h hs
 obtain⟨p,xs,i,z,rfl,rfl,hq,he,q⟩:=h
 cases rx
 obtain⟨t,rfl⟩:=ry
 obtain⟨its,r,pl,hz⟩:=I.list hq
 obtain⟨j,h1,h2,h3,h4,h5⟩:=c9t he
 obtain⟨w,ew,rw'⟩:=r.get h2
 have hl:=r.length
 have hn:=d2c
 have fin:EP X pins σ Q w s:=⟨z,H,I,rw',q⟩
 by_cases h0:0≤i
 ·have hj:i.toNat=j:=by
   rw[seqIndex_of h0 h5] at h1
   exact Option.some.inj h1
  exact item_listR pl.isList h0 (by omega) (by rw[hj];simpa using ew) fin hs
 ·have hj:(i+(its.toArray.size:Int)).toNat=j:=by
   rw[seqIndex_neg (by omega) h4] at h1
   rw[List.size_toArray,←hl]
   exact Option.some.inj h1
  exact subscriptTail_builtinR (x:=w) pl.isList.typeIs slot_list_getitem.lookup
   (wpAny_getItem_list_neg (Q:=fun r s'=>r=w∧EP X pins σ Q r s') pl.isList (by omega) (by rw[List.size_toArray]<;>omega) (by omega) (by rw[hj];simpa using ew) ⟨rfl,fin⟩) hs
theorem a0z:IxR X (f0z X.K):=by
 intro value slice pins s σ H x y v u Q I rx ry h hs
 obtain⟨p,xs,i,z,rfl,rfl,hq,he,q⟩:=h
 cases rx
 obtain⟨t,rfl⟩:=ry
 obtain⟨its,r,pl,hz⟩:=I.tuple hq
 obtain⟨j,h1,h2,h3,h4,h5⟩:=c9t he
 obtain⟨w,ew,rw'⟩:=r.get h2
 have hl:=r.length
 have hn:=d2c
 have fin:EP X pins σ Q w s:=⟨z,H,I,rw',q⟩
 exact subscriptTail_builtinR (x:=w) pl.typeIs slot_tuple_getitem.lookup
  (getItem_tuple (j:=j) (Q:=fun r s'=>r=w∧EP X pins σ Q r s') pl (by omega) (by omega) (by rw[List.size_toArray,←hl];exact h1) (by simpa using ew) ⟨rfl,fin⟩) hs
theorem d3w (its:List Value) (n j:Nat) (u:Value):Obj.mapSeq (·.setIfInBounds j u) {cls:=.type "list",data:=.seq its.toArray n}={cls:=.type "list",data:=.seq (its.set j u).toArray n}:=by
 simp[Obj.mapSeq]
theorem Inv.lst {pins:List (Addr×Obj)} {σ:St} {H:Hp} {s:Shared} {p:Addr} {xs:List V} (I:Inv X pins σ H s) (h:H p=some (.lst xs)) :
  ∃ (its:List Value) (n:Nat),a3e xs its∧s.heap.get? p=some {cls:=.type "list",data:=.seq its.toArray n}∧xs.length≤sizeLine:=by
 obtain⟨z,its,n,r,e⟩:=I.hok p _ h
 exact⟨its,n,r,e,z⟩
theorem Inv.lstUpd {pins:List (Addr×Obj)} {σ:St} {H:Hp} {s:Shared} {p:Addr} {xs ys:List V} {its its':List Value} {n n':Nat} {f:Obj→Obj} (I:Inv X pins σ H s) (h:H p=some (.lst xs))
  (ho:s.heap.get? p=some {cls:=.type "list",data:=.seq its.toArray n}) (hf:f {cls:=.type "list",data:=.seq its.toArray n}={cls:=.type "list",data:=.seq its'.toArray n'}) (r:a3e ys its') (hz:ys.length≤sizeLine) (t:Nat) :
  Inv X pins σ (upd H p (.lst ys)) {s with heap:=s.heap.update p f,toks:=t}:=by
 have e:(s.heap.update p f).get? p=some {cls:=.type "list",data:=.seq its'.toArray n'}:=by
  rw[Heap.get?_update_self f ho (by rw[hf]<;>rfl),hf]
 refine I.write (x:=p) (e:=p) (by rw[h];trivial) (.inl rfl) (fun b u hb q=>(Heap.get?_update_other _ _ (Ne.symm hb)).trans q) ⟨_,e⟩ ?_
 exact⟨hz,its',n',r,e⟩
def f0a:V→V→V→Hp→(Hp→Prop)→Prop:=fun o i v H Q=>∃ p xs k j,o=.ref p∧i=.int k∧H p=some (.lst xs)∧ixN xs.length k=some j∧Q (upd H p (.lst (xs.set j v)))
theorem d9g:e9m X f0a:=by
 intro pins s σ H o i v ov iv u Q I ro ri rv h
 obtain⟨p,xs,k,j,rfl,rfl,hp,hj,q⟩:=h
 cases ro
 obtain⟨t,rfl⟩:=ri
 obtain⟨its,n,r,ho,hz⟩:=I.lst hp
 obtain⟨h1,h2,h3,h4⟩:=d8p hj
 have hl:=r.length
 have hn:=d2c
 have I':Inv X pins σ (upd H p (.lst (xs.set j v))) {s with heap:=s.heap.update p (Obj.mapSeq (·.setIfInBounds j u))} :=
  I.lstUpd hp ho (d3w its n j u) (r.set rv j) (by rw[List.length_set];exact hz) s.toks
 by_cases h0:0≤k
 ·have hk:k.toNat=j:=by
   rw[seqIndex_of h0 h4] at h1
   exact Option.some.inj h1
  exact PySem.W.ki_setAt ho h0 (by omega) (by rw[List.size_toArray,←hl];exact h4) (by rw[hk];exact⟨_,I',q⟩)
 ·have hk:(k+(its.toArray.size:Int)).toNat=j:=by
   rw[seqIndex_neg (by omega) h3] at h1
   rw[List.size_toArray,←hl]
   exact Option.some.inj h1
  exact PySem.W.ki_setBack ho (by omega) (by rw[List.size_toArray,←hl];exact h3) (by omega) (by rw[hk];exact⟨_,I',q⟩)
theorem c6m (lo hi:Option Int) (n:Nat):(sliceBounds lo hi none n).1=((HT.sIx n 0 lo:Nat):Int)∧(sliceBounds lo hi none n).2.1=((HT.sIx n n hi:Nat):Int)∧(sliceBounds lo hi none n).2.2=1:=by
 refine⟨?_,?_,rfl⟩
 ·cases lo with
  | none=>simp[sliceBounds,HT.sIx]
  | some i =>
   simp only [sliceBounds,HT.sIx,Option.getD_none,show (1:Int) > 0 by decide,if_true]
   by_cases h:i < 0
   ·simp only [h,if_true]<;>omega
   ·simp only [h,if_false]<;>omega
 ·cases hi with
  | none=>simp[sliceBounds,HT.sIx]
  | some i =>
   simp only [sliceBounds,HT.sIx,Option.getD_none,show (1:Int) > 0 by decide,if_true]
   by_cases h:i < 0
   ·simp only [h,if_true]<;>omega
   ·simp only [h,if_false]<;>omega
theorem c5q (its:List Value) (lo hi:Option Int):slicePick its.toArray lo hi none=((its.drop (HT.sIx its.length 0 lo)).take (HT.sIx its.length its.length hi - HT.sIx its.length 0 lo)).toArray:=by
 obtain⟨h1,h2,h3⟩:=c6m lo hi its.toArray.size
 unfold slicePick
 rw[h1,h2,h3]
 simp only [sliceRange_one,pick_run,List.size_toArray]<;>rfl
def f1r (K:PySem.W.Frag):V→Option Int→Option Int→Hp→VK→Prop:=fun x lo hi H Q=>∃ a xs,x=.ref a∧SqL K H a xs∧∀ p,H p=none→Q (.ref p) (upd H p (.lst (a7o xs lo hi)))
theorem a9w:SlR X (f1r X.K):=by
 intro pins s σ H x v vl vu lo hi sl Q I rx hs pl pu h
 obtain⟨a,xs,rfl,hx,q⟩:=h
 cases rx
 obtain⟨its,r,ht,hz⟩:=I.list hx
 have hlen:=r.length
 refine⟨"list",_,slot_list_getitem.lookup,ht.isList.typeIs,?_⟩
 refine wpAny_getItem_list_slice ht.isList hs pl pu .none (by simp) ?_ (by rw[List.size_toArray]<;>omega)
 rw[c5q,←hlen]
 refine⟨.ref s.heap.objs.size,_,I.laid (t':=s.toks) (o:=.lst (a7o xs lo hi)) (fun b ob q=>Heap.get?_push_of_some _ q) (Nat.le_refl _) ?_,rfl,q _ (I.hok.fresh (Nat.le_refl _))⟩
 exact⟨Nat.le_trans (a5s xs lo hi) hz,_,0,(r.drop (HT.sIx xs.length 0 lo)).take (HT.sIx xs.length xs.length hi - HT.sIx xs.length 0 lo),Heap.get?_push_size _ rfl⟩
def c5a:V→Bool
 | .non=>true
 | .bl _=>true
 | .int _=>true
 | .str _=>true
 | _=>false
def eqV:V→V→Bool
 | .non,.non=>true
 | .bl a,.bl b=>a == b
 | .bl a,.int b=>(if a then 1 else 0) == b
 | .int a,.bl b=>a == (if b then 1 else 0)
 | .int a,.int b=>a == b
 | .str a,.str b=>a == b
 | _,_=>false
theorem e7h {A:Around} {s:Shared} {y x:V} {u v:Value} (ry:a3k y u) (rx:a3k x v) (fy:c5a y=true) (fx:c5a x=true):SeqAt.EqAt A s u v (eqV y x):=by
 cases y with
 | non =>
  cases ry
  cases x with
  | non=>cases rx;exact SeqAt.EqAt.same _
  | bl b=>cases rx;exact SeqAt.EqAt.none_bool b
  | int b=>obtain⟨t,rfl⟩:=rx;exact SeqAt.EqAt.none_int b t
  | str b=>obtain⟨t,rfl⟩:=rx;exact SeqAt.EqAt.none_str b t
  | _=>exact absurd (show false=true from fx) Bool.false_ne_true
 | bl a =>
  cases ry
  cases x with
  | non=>cases rx;exact SeqAt.EqAt.bool_none a
  | bl b=>cases rx;exact SeqAt.EqAt.bool_bool a b
  | int b=>obtain⟨t,rfl⟩:=rx;exact SeqAt.EqAt.bool_int a b t
  | str b=>obtain⟨t,rfl⟩:=rx;exact SeqAt.EqAt.bool_str a b t
  | _=>exact absurd (show false=true from fx) Bool.false_ne_true
 | int a =>
  obtain⟨t',rfl⟩:=ry
  cases x with
  | non=>cases rx;exact SeqAt.EqAt.int_none a t'
  | bl b=>cases rx;exact SeqAt.EqAt.int_bool a t' b
  | int b=>obtain⟨t,rfl⟩:=rx;exact SeqAt.EqAt.int_int a t' b t
  | str b=>obtain⟨t,rfl⟩:=rx;exact SeqAt.EqAt.int_str a t' b t
  | _=>exact absurd (show false=true from fx) Bool.false_ne_true
 | str a =>
  obtain⟨t',rfl⟩:=ry
  cases x with
  | non=>cases rx;exact SeqAt.EqAt.str_none a t'
  | bl b=>cases rx;exact SeqAt.EqAt.str_bool a t' b
  | int b=>obtain⟨t,rfl⟩:=rx;exact SeqAt.EqAt.str_int a t' b t
  | str b=>obtain⟨t,rfl⟩:=rx;exact SeqAt.EqAt.str_str a t' b t
  | _=>exact absurd (show false=true from fx) Bool.false_ne_true
 | _=>exact absurd (show false=true from fy) Bool.false_ne_true
def eqU (x:V) (u:Value):Bool:=match u with
 | .none=>eqV .non x
 | .bool b=>eqV (.bl b) x
 | .int i _=>eqV (.int i) x
 | .str z _=>eqV (.str z) x
 | _=>false
theorem e2j {x y:V} {u:Value} (r:a3k y u) (f:c5a y=true):eqU x u=eqV y x:=by
 cases y with
 | non=>cases r;rfl
 | bl b=>cases r;rfl
 | int i=>obtain⟨t,rfl⟩:=r;rfl
 | str z=>obtain⟨t,rfl⟩:=r;rfl
 | _=>exact absurd (show false=true from f) Bool.false_ne_true
theorem d0a {x:V}:∀ {xs:List V} {us:List Value},a3e xs us→xs.all c5a=true→us.any (eqU x)=xs.any fun y=>eqV y x
 | _,_,.nil,_=>rfl
 | y::xs,u::us,.cons r t,f=>by
  rw[List.all_cons,Bool.and_eq_true] at f
  rw[List.any_cons,List.any_cons,e2j r f.1,d0a t f.2]
theorem c4x {A:Around} {s:Shared} {x:V} {v:Value} (rx:a3k x v) (fx:c5a x=true):∀ {xs:List V} {us:List Value},a3e xs us→xs.all c5a=true→∀ u∈us,SeqAt.EqAt A s u v (eqU x u)
 | _,_,.nil,_=>fun u hu=>by cases hu
 | y::xs,u::us,.cons r t,f=>fun u' hu=>by
  rw[List.all_cons,Bool.and_eq_true] at f
  rcases List.mem_cons.mp hu with rfl | hu
  ·rw[e2j r f.1];exact e7h r rx f.1 fx
  ·exact c4x rx fx t f.2 u' hu
def inV (x:V) (xs:List V):Bool:=xs.any fun y=>eqV y x
def rIn (K:PySem.W.Frag) (neg:Bool):R2:=fun x y H Q=>∃ p xs,y=.ref p∧(SqL K H p xs∨SqT K H p xs)∧c5a x=true∧xs.all c5a=true∧Q (.bl (if neg then !inV x xs else inV x xs)) H
theorem d8v:OpR X (compareOp .In) (rIn X.K false):=by
 intro pins s σ H x y v u Q I rx ry h
 obtain⟨p,xs,rfl,hq,fx,fs,q⟩:=h
 cases ry
 rcases hq with hq | hq
 ·obtain⟨its,r,pl,hz⟩:=I.list hq
  refine SeqAt.in_listAt (eqU x) pl.isList (fun w hw=>c4x rx fx r fs w (by simpa using hw)) ⟨.bl _,H,I,rfl,?_⟩
  rw[show its.toArray.any (eqU x)=its.any (eqU x) by simp,d0a r fs]
  exact q
 ·obtain⟨its,r,pl,hz⟩:=I.tuple hq
  refine SeqAt.in_tupleAt (eqU x) pl (fun w hw=>c4x rx fx r fs w (by simpa using hw)) ⟨.bl _,H,I,rfl,?_⟩
  rw[show its.toArray.any (eqU x)=its.any (eqU x) by simp,d0a r fs]
  exact q
theorem a7x:b9p X (.type "list") (fun xs H Q=>∃ p ys,xs=[.ref p]∧(SqL X.K H p ys∨SqT X.K H p ys)∧∀ l,H l=none→Q (.ref l) (upd H l (.lst ys))):=by
 intro pins s σ H xs us Q I r h
 obtain⟨p,ys,rfl,hq,q⟩:=h
 obtain⟨u,rfl,rx⟩:=c4u r
 cases rx
 have fin:∀ (its:List Value),a3e ys its→ys.length≤sizeLine→∀ (h':Heap) (c':Nat),(∀ b o',s.heap.get? b=some o'→h'.get? b=some o') →
   h'.get? s.heap.objs.size=some {cls:=.type "list",dict:=none,data:=.seq its.toArray c',slots:=#[]}→EP X pins σ Q (.ref s.heap.objs.size) {s with heap:=h'}:=fun its r' hz h' c' kp e =>
  ⟨.ref s.heap.objs.size,_,I.laid (t':=s.toks) kp (Nat.le_refl _) (show a3q X.prog X.w _ h' _ (.lst ys) from ⟨hz,its,c',r',e⟩),rfl,q _ (I.hok.fresh (Nat.le_refl _))⟩
 rcases hq with hq | hq
 ·obtain⟨its,r',pl,hz⟩:=I.list hq
  have hlen:=r'.length
  obtain⟨o,ho,hc,n,hd⟩:=pl.isList
  exact call_list_seq p (.inl rfl) ho hc hd (fun h' c' kp e=>fin its r' hz h' c' kp e) (by simp only [List.size_toArray]<;>omega)
 ·obtain⟨its,r',pl,hz⟩:=I.tuple hq
  have hlen:=r'.length
  obtain⟨o,ho,hc,n,hd⟩:=pl
  exact call_list_seq p (.inr rfl) ho hc hd (fun h' c' kp e=>fin its r' hz h' c' kp e) (by simp only [List.size_toArray]<;>omega)
def tyV (K:PySem.W.Frag) (T:String) (x:V) (H:Hp):Prop:=match x with
 | .str _=>T="str"
 | .int _=>T="int"
 | .ref p=>(T="list"∧∃ xs,SqL K H p xs)∨(T="tuple"∧∃ o,K.lookup p=some o∧o.cls=.type "tuple"∧o.dict=none) ∨
   (T="dict"∧((∃ kvs,H p=some (.dK kvs))∨∃ kvs,H p=some (.dT kvs)))∨(T="set"∧∃ S n,H p=some (.set S n))
 | _=>False
theorem e6o {pins:List (Addr×Obj)} {σ:St} {H:Hp} {s:Shared} {T:String} {x:V} {v:Value} (I:Inv X pins σ H s) (r:a3k x v) (ty:tyV X.K T x H) :
  s.TypeIs v T∧∀ a,v=.ref a→∃ ob,s.heap.get? a=some ob∧ob.dict=none:=by
 cases x with
 | str z =>
  obtain⟨t,rfl⟩:=r
  cases (show T="str" from ty)
  exact⟨typeIs_str s z t,fun _ e=>nomatch e⟩
 | int i =>
  obtain⟨t,rfl⟩:=r
  cases (show T="int" from ty)
  exact⟨typeIs_int s i t,fun _ e=>nomatch e⟩
 | ref p =>
  cases r
  rcases ty with ⟨rfl,xs,hq⟩ | ⟨rfl,o,hk,hc,hd⟩ | ⟨rfl,hk⟩ | ⟨rfl,S,n,hk⟩
  ·obtain⟨its,_,pl,_⟩:=I.list hq
   refine⟨pl.isList.typeIs,fun a e=>?_⟩
   cases e
   obtain⟨o,n,e,c,hd,_⟩:=pl
   exact⟨o,e,hd⟩
  ·refine⟨⟨o,I.kIn p o hk,hc⟩,fun a e=>?_⟩
   cases e
   exact⟨o,I.kIn _ o hk,hd⟩
  ·have z:∃ o,s.heap.get? p=some o∧o.ExactDict:=by
    rcases hk with ⟨kvs,hk⟩ | ⟨kvs,hk⟩
    ·obtain⟨_,_,_,_,o,_,_,e,ex,_⟩:=I.hok p _ hk
     exact⟨o,e,ex⟩
    ·obtain⟨_,_,_,_,o,_,_,e,ex,_⟩:=I.hok p _ hk
     exact⟨o,e,ex⟩
   obtain⟨o,e,ex⟩:=z
   refine⟨⟨o,e,ex.1⟩,fun a e2=>?_⟩
   cases e2
   exact⟨o,e,ex.2.1⟩
  ·obtain⟨o,_,_,_,e,ex,_⟩:=I.hok p _ hk
   refine⟨⟨o,e,ex.1⟩,fun a e2=>?_⟩
   cases e2
   exact⟨o,e,ex.2.1⟩
 | _=>exact False.elim ty
def tBM (K:PySem.W.Frag) (T:String) (r:V→List V→Hp→VK→Prop) (to:TE) (t:TA):TE:=fun σ H Q=>to σ H fun x H1=>tyV K T x H1∧t σ H1 fun xs H2=>r x xs H2 Q
variable {o e:Expr} {es:List Expr} {to:TE} {t:TA} {name:Str} {apos cpos:Pos} {T id:String} {r:V→List V→Hp→VK→Prop}
theorem b7c (pa:PlainAttrs T) (slot:Slot T name id) (hty:typeOf (.builtin id)=pure (.type "method_descriptor")) (hm:MtR X id r) (ho:PE X o to) (ha:PA X (e::es) t)
  (hbase:attributeBase o name X.env (eval o X.env)=eval o X.env:=by rfl)
  (hfew:((backTo cpos (starEach (e::es) X.env)).all (fun x=>!x.1) && (backToKw cpos (keywordEach [] X.env)).all (fun x=>x.1.isSome)
   && decide ((e::es).length+([]:List Keyword).length+(if ([]:List Keyword).isEmpty then 0 else 1) < 30))=true:=by rfl)
  (hline:(apos.endLine == cpos.line)=true:=by rfl) (hs:starEach (e::es) X.env=(false,eval e X.env)::starEach es X.env:=by rfl) (hplain:(backTo cpos (starEach es X.env)).any (·.1)=false:=by rfl) :
  PE X (.Call (.Attribute o name apos) (e::es) [] cpos) (tBM X.K T r to t):=by
 constructor;intro pins s σ H Q I h
 refine wpAny_Call_method_late hbase hfew hline rfl (thn (ho pins s σ H _ I h) fun v s1 ⟨x,H1,I1,r1,ty,q1⟩=>?_)
 obtain⟨h1,h2⟩:=e6o I1 r1 ty
 refine⟨T,id,pa,slot,hty,h1,h2,?_⟩
 have hA:=ha cpos pins s1 σ H1 _ I1 q1
 rw[hs] at hA ⊢
 refine Calls.callWith_builtin (by show (false || (backTo cpos (starEach es X.env)).any (·.1))=false;rw[hplain]<;>rfl) (Calls.evalArgs_plain ?_)
 exact thn hA fun us s2 ⟨vs,H2,I2,r2,q2⟩=>hm pins s2 σ H2 x vs v us Q I2 r1 r2 q2
end
end L2
namespace L2
open PySem PySem.Spec PyProof.Rows
def MtM (X:Cx) (id:String) (r:V→List V→Hp→VK→Prop):Prop :=
 ∀ (pins:List (Addr×Obj)) (s:Shared) (σ:St) (H:Hp) (x:V) (xs:List V) (v:Value) (us:List Value) (Q:VK),Inv X pins σ H s→a3k x v→a3e xs us→r x xs H Q →
  wpAny (model X.prog X.w) X.A (call (.builtin id) (v::us)) (EP X pins σ Q) X.xe s
theorem a3e.one:∀ {x:V} {us:List Value},a3e [x] us→∃ u,us=[u]∧a3k x u
 | _,_,.cons r .nil=>⟨_,rfl,r⟩
theorem a3e.eraseIdx:∀ {xs:List V} {us:List Value} (i:Nat),a3e xs us→a3e (xs.eraseIdx i) (us.eraseIdx i)
 | _,_,_,.nil=>.nil
 | _,_,0,.cons _ t=>t
 | _,_,i+1,.cons r t=>.cons r (a3e.eraseIdx i t)
theorem c8a {α:Type}:∀ (l:List α) (i:Nat),(l.eraseIdx i).length≤l.length
 | [],_=>Nat.le_refl _
 | _::_,0=>Nat.le_succ _
 | _::r,i+1=>Nat.succ_le_succ (c8a r i)
section
variable {X:Cx} {pins:List (Addr×Obj)} {σ:St} {H:Hp} {s:Shared} {l b:Addr} {xs ys zs:List V}
theorem Inv.lset {its its':List Value} {n:Nat} {f:Array Value→Array Value} {t':Nat} (I:Inv X pins σ H s) (hH:H l=some (.lst xs))
  (e:s.heap.get? l=some {cls:=.type "list",data:=.seq its.toArray n}) (hf:f its.toArray=its'.toArray) (hv:a3e ys its') (hz:ys.length≤sizeLine) :
  Inv X pins σ (upd H l (.lst ys)) {s with heap:=s.heap.update l (Obj.mapSeq f),toks:=t'}:=by
 have q:=PySem.IsL.update e f
 rw[hf] at q
 refine I.write (x:=l) (e:=l) (by rw[hH];exact trivial) (.inl rfl) (fun b' u hb hu=>(Heap.get?_update_other s.heap (Obj.mapSeq f) (Ne.symm hb)).trans hu) ⟨_,q⟩ ?_
 exact⟨hz,its',_,hv,q⟩
theorem Inv.lnew {its:List Value} {t':Nat} (I:Inv X pins σ H s) (hv:a3e ys its) (hz:ys.length≤sizeLine) :
  Inv X pins σ (upd H s.heap.objs.size (.lst ys)) {s with heap:=s.heap.push {cls:=.type "list",data:=.seq its.toArray},toks:=t'} :=
 I.laid (fun _ _ q=>Heap.get?_push_of_some _ q) (Nat.le_refl _) ⟨hz,its,0,hv,Heap.get?_push_size _ rfl⟩
theorem Inv.fresh (I:Inv X pins σ H s):H s.heap.objs.size=none:=I.hok.fresh (Nat.le_refl _)
theorem Inv.lstM (I:Inv X pins σ H s) (hH:H l=some (.lst xs)):xs.length≤sizeLine∧∃ (its:List Value) (n:Nat),a3e xs its∧xs.length=its.length∧s.heap.get? l=some {cls:=.type "list",data:=.seq its.toArray n}:=by
 obtain⟨z,its,n,r,e⟩:=I.hok l _ hH
 exact⟨z,its,n,r,r.length,e⟩
theorem e1m {n:Nat} (h:n≤sizeLine):Builtin.List.listTooLong n=false:=by
 unfold Builtin.List.listTooLong
 exact decide_eq_false (by omega)
end
section
variable {X:Cx}
def rAppend:V→List V→Hp→VK→Prop:=fun x vs H Q=>∃ l xs y,x=.ref l∧vs=[y]∧H l=some (.lst xs)∧xs.length < sizeLine∧Q .non (upd H l (.lst (xs++[y])))
theorem c6g:MtM X "list.append" rAppend:=by
 intro pins s σ H x vs v us Q I rx rv h
 obtain⟨l,xs,y,rfl,rfl,hH,hz,q⟩:=h
 cases rx
 obtain⟨u,rfl,ru⟩:=rv.one
 obtain⟨z,its,n,r,hl,e⟩:=I.lstM hH
 refine call_meets F.slot_list_append ⟨_,e,rfl⟩ F.entry_list_append (F.args_list_append_2 _ _) (PySem.list_append l its.toArray n u (by rw[List.size_toArray];omega)) ⟨e,?_⟩
 refine⟨.non,_,I.lset (its':=its++[u]) hH e (by simp) (r.append (.cons ru .nil)) ?_,rfl,q⟩
 rw[List.length_append,List.length_singleton]
 omega
def rExtend:V→List V→Hp→VK→Prop:=fun x vs H Q=>∃ l b xs zs,x=.ref l∧vs=[.ref b]∧H l=some (.lst xs)∧H b=some (.lst zs)∧xs.length+zs.length≤sizeLine∧Q .non (upd H l (.lst (xs++zs)))
theorem d7x:MtM X "list.extend" rExtend:=by
 intro pins s σ H x vs v us Q I rx rv h
 obtain⟨l,b,xs,zs,rfl,rfl,hH,hB,hz,q⟩:=h
 cases rx
 obtain⟨u,rfl,ru⟩:=rv.one
 cases ru
 obtain⟨z,its,n,r,hl,e⟩:=I.lstM hH
 obtain⟨z2,its2,n2,r2,hl2,e2⟩:=I.lstM hB
 have hsz:its.toArray.size+its2.toArray.size≤sizeLine:=by rw[List.size_toArray,List.size_toArray];omega
 have hlong:¬ (!its.toArray.isEmpty && Builtin.List.listTooLong (its.toArray.size+its2.toArray.size))=true:=by
  rw[e1m hsz,Bool.and_false]
  exact Bool.false_ne_true
 refine call_meets F.slot_list_extend ⟨_,e,rfl⟩ F.entry_list_extend (F.args_list_extend_2 _ _)
  (AutoSeq1.list_extend_list_list_0 l its.toArray n b its2.toArray n2 hlong (by rw[List.size_toArray];omega) (by omega)) ⟨e,e2,?_⟩
 refine⟨.non,_,I.lset (its':=its++its2) hH e (by simp) (r.append r2) ?_,rfl,q⟩
 rw[List.length_append]
 omega
def rPopAt:V→List V→Hp→VK→Prop:=fun x vs H Q=>∃ l xs i k y,x=.ref l∧vs=[.int i]∧H l=some (.lst xs)∧-(2 ^ 63)≤i∧i < 2 ^ 63∧seqIndex? i xs.length=some k∧xs[k]?=some y∧Q y (upd H l (.lst (xs.eraseIdx k)))
theorem e1i:MtM X "list.pop" rPopAt:=by
 intro pins s σ H x vs v us Q I rx rv h
 obtain⟨l,xs,i,k,y,rfl,rfl,hH,h1,h2,hk,hy,q⟩:=h
 cases rx
 obtain⟨u,rfl,ru⟩:=rv.one
 obtain⟨t,rfl⟩:=ru
 obtain⟨z,its,n,r,hl,e⟩:=I.lstM hH
 obtain⟨w,hw,rw'⟩:=r.get hy
 refine call_meets F.slot_list_pop ⟨_,e,rfl⟩ F.entry_list_pop (F.args_list_pop_2 _ _)
  (MeetsSeq.list_pop_at l its.toArray n i t k w (fitsIndex_both h1 h2) (by rw[List.size_toArray,←hl];exact hk) (by rw[←Array.getElem?_toList];exact hw) (by rw[List.size_toArray];omega)) ⟨e,?_⟩
 refine⟨y,_,I.lset (its':=its.eraseIdx k) hH e ?_ (r.eraseIdx k) ?_,rw',q⟩
 ·show its.toArray.eraseIdxIfInBounds k=(its.eraseIdx k).toArray
  rw[List.eraseIdxIfInBounds_toArray]
 ·have:=c8a xs k
  omega
def f1q:R2:=fun x y H Q=>∃ l b xs zs,x=.ref l∧y=.ref b∧H l=some (.lst xs)∧H b=some (.lst zs)∧xs.length+zs.length≤sizeLine∧∀ p,H p=none→Q (.ref p) (upd H p (.lst (xs++zs)))
theorem b6w:OpR X (binaryOp .Add) f1q:=by
 intro pins s σ H x y v u Q I rx ry h
 obtain⟨l,b,xs,zs,rfl,rfl,hH,hB,hz,q⟩:=h
 cases rx
 cases ry
 obtain⟨z,its,n,r,hl,e⟩:=I.lstM hH
 obtain⟨z2,its2,n2,r2,hl2,e2⟩:=I.lstM hB
 refine PySem.P.add_list e e2 ?_ (by rw[List.size_toArray,List.size_toArray];omega)
 have ea:its.toArray++its2.toArray=(its++its2).toArray:=by simp
 rw[ea]
 exact⟨.ref _,_,I.lnew (t':=s.toks) (r.append r2) (by rw[List.length_append];omega),rfl,q _ I.fresh⟩
end
end L2
namespace L2
open PySem PySem.Spec PyProof.Rows
section
variable {κ:Type} [DecidableEq κ]
def a4a (kvs:List (κ×V)) (k:κ):Option V:=(kvs.find? fun kv=>decide (kv.1=k)).map (·.2)
def a6e (kvs:List (κ×V)) (k:κ) (v:V):List (κ×V) :=
 if (kvs.any fun kv=>decide (kv.1=k))=true then kvs.map (fun kv=>if kv.1=k then (kv.1,v) else kv) else kvs++[(k,v)]
def e6p (kvs:List (κ×V)) (k:κ):List (κ×V):=kvs.filter fun kv=>decide (kv.1≠k)
theorem a4f {p:κ×V} {r:List (κ×V)} {k:κ} (e:p.1=k):a4a (p::r) k=some p.2:=by simp[a4a,List.find?_cons,e]
theorem a4h {p:κ×V} {r:List (κ×V)} {k:κ} (e:¬ p.1=k):a4a (p::r) k=a4a r k:=by simp[a4a,List.find?_cons,e]
theorem b1n (k:κ):∀ kvs:List (κ×V),(kvs.any fun kv=>decide (kv.1=k))=(a4a kvs k).isSome
 | []=>rfl
 | p::r=>by
  rw[List.any_cons]
  by_cases e:p.1=k
  ·simp only [a4f e,decide_eq_true e,Bool.true_or,Option.isSome_some]
  ·rw[a4h e,decide_eq_false e,Bool.false_or];exact b1n k r
theorem d2p (k j:κ) (y:V):∀ kvs:List (κ×V),a4a (kvs.map fun kv=>if kv.1=k then (kv.1,y) else kv) j=(a4a kvs j).map fun x=>if j=k then y else x
 | []=>rfl
 | p::r=>by
  have ih:=d2p k j y r
  rw[List.map_cons]
  by_cases h:p.1=k
  ·rw[if_pos h]
   by_cases e:p.1=j
   ·rw[a4f (p:=(p.1,y)) e,a4f e,Option.map_some,if_pos (e.symm.trans h)]
   ·rw[a4h (p:=(p.1,y)) e,a4h e,ih]
  ·rw[if_neg h]
   by_cases e:p.1=j
   ·rw[a4f (p:=p) e,a4f e,Option.map_some,if_neg (fun z=>h (e.trans z))]
   ·rw[a4h (p:=p) e,a4h e,ih]
theorem c7h (k j:κ) (y:V):∀ kvs:List (κ×V),a4a kvs k=none→a4a (kvs++[(k,y)]) j=if j=k then some y else a4a kvs j
 | [],_=>by
  by_cases e:k=j
  ·rw[if_pos e.symm];exact a4f (p:=(k,y)) e
  ·rw[if_neg (fun z=>e z.symm)];exact a4h (p:=(k,y)) e
 | p::r,hn=>by
  rw[List.cons_append]
  have hk:¬ p.1=k:=fun z=>by rw[a4f z] at hn;cases hn
  rw[a4h hk] at hn
  have ih:=c7h k j y r hn
  by_cases e:p.1=j
  ·rw[a4f e,a4f e,if_neg (fun z=>hk (e.trans z))]
  ·rw[a4h e,a4h e,ih]
theorem a7p (kvs:List (κ×V)) (k j:κ) (y:V):a4a (a6e kvs k y) j=if j=k then some y else a4a kvs j:=by
 unfold a6e
 by_cases a:(kvs.any fun kv=>decide (kv.1=k))=true
 ·rw[if_pos a,d2p]
  rw[b1n] at a
  by_cases e:j=k
  ·obtain⟨x,hx⟩:=Option.isSome_iff_exists.mp a
   rw[if_pos e,e,hx,Option.map_some,if_pos rfl]
  ·rw[if_neg e]
   cases a4a kvs j with
   | none=>rfl
   | some x=>rw[Option.map_some,if_neg e]
 ·rw[if_neg a]
  refine c7h k j y kvs ?_
  rw[b1n] at a
  cases q:a4a kvs k with
  | none=>rfl
  | some x=>rw[q] at a;exact(a rfl).elim
theorem a3s (kvs:List (κ×V)) (k:κ) (v:V):(a6e kvs k v).length≤kvs.length+1:=by
 unfold a6e
 split
 ·rw[List.length_map];omega
 ·rw[List.length_append,List.length_cons,List.length_nil];omega
theorem d2x {kvs:List (κ×V)} {k:κ} (v:V) (h:a4a kvs k=none):a6e kvs k v=kvs++[(k,v)]:=by
 unfold a6e
 rw[b1n,h]
 exact if_neg (by decide)
theorem c9d.isSome_eq {o:Option V} {u:Option Value} (r:c9d o u):o.isSome=u.isSome:=by
 cases o with
 | none=>cases u with
  | none=>rfl
  | some _=>exact(show False from r).elim
 | some _=>cases u with
  | none=>exact(show False from r).elim
  | some _=>rfl
theorem c9d.getD {o:Option V} {u:Option Value} {d:V} {d':Value} (r:c9d o u) (rd:a3k d d'):a3k (o.getD d) (u.getD d'):=by
 cases o with
 | none=>cases u with
  | none=>exact rd
  | some _=>exact(show False from r).elim
 | some _=>cases u with
  | none=>exact(show False from r).elim
  | some _=>exact r
theorem KV.val {kvs:List (κ×V)} {vs:List (κ×Value)} (r:KV kvs vs) (k:κ):c9d (a4a kvs k) (valueAt vs k):=by
 unfold KV at r
 induction r with
 | nil=>exact True.intro
 | @cons p q ps qs h t ih =>
  obtain⟨h1,h2⟩:=h
  by_cases e:p.1=k
  ·have e':q.1=k:=h1.symm.trans e
   have b:valueAt (q::qs) k=some q.2:=by simp[valueAt,List.find?_cons,e']
   rw[a4f e,b];exact h2
  ·have e':¬ q.1=k:=fun z=>e (h1.trans z)
   have b:valueAt (q::qs) k=valueAt qs k:=by simp[valueAt,List.find?_cons,e']
   rw[a4h e,b];exact ih
theorem KV.any {kvs:List (κ×V)} {vs:List (κ×Value)} (r:KV kvs vs) (k:κ):(kvs.any fun kv=>decide (kv.1=k))=vs.any fun kv=>decide (kv.1=k):=by
 unfold KV at r
 induction r with
 | nil=>rfl
 | cons h t ih=>rw[List.any_cons,List.any_cons,ih,h.1]
theorem KV.repl {kvs:List (κ×V)} {vs:List (κ×Value)} (r:KV kvs vs) (k:κ) {y:V} {u:Value} (ry:a3k y u) :
  KV (kvs.map fun kv=>if kv.1=k then (kv.1,y) else kv) (vs.map fun kv=>if kv.1=k then (kv.1,u) else kv):=by
 unfold KV at r ⊢
 induction r with
 | nil=>exact .nil
 | @cons p q ps qs h t ih =>
  rw[List.map_cons,List.map_cons]
  refine .cons ?_ ih
  obtain⟨h1,h2⟩:=h
  by_cases e:p.1=k
  ·rw[if_pos e,if_pos (h1.symm.trans e)];exact⟨h1,ry⟩
  ·rw[if_neg e,if_neg (fun z=>e (h1.trans z))];exact⟨h1,h2⟩
theorem KV.put {kvs:List (κ×V)} {vs:List (κ×Value)} (r:KV kvs vs) (k:κ) {y:V} {u:Value} (ry:a3k y u):KV (a6e kvs k y) (stored vs k u):=by
 unfold a6e stored
 rw[r.any k]
 by_cases e:(vs.any fun kv=>decide (kv.1=k))=true
 ·rw[if_pos e,if_pos e];exact r.repl k ry
 ·rw[if_neg e,if_neg e];exact Paired.snoc r ⟨rfl,ry⟩
theorem KV.drop {kvs:List (κ×V)} {vs:List (κ×Value)} (r:KV kvs vs) (k:κ):KV (e6p kvs k) (without vs k):=by
 unfold KV at r ⊢
 unfold e6p without
 induction r with
 | nil=>exact .nil
 | @cons p q ps qs h t ih =>
  obtain⟨h1,h2⟩:=h
  rw[List.filter_cons,List.filter_cons]
  by_cases e:p.1=k
  ·have a:¬ decide (p.1≠k)=true:=by simp[e]
   have b:¬ decide (q.1≠k)=true:=by simp[h1.symm.trans e]
   rw[if_neg a,if_neg b];exact ih
  ·have e':¬ q.1=k:=fun z=>e (h1.trans z)
   have a:decide (p.1≠k)=true:=by simp[e]
   have b:decide (q.1≠k)=true:=by simp[e']
   rw[if_pos a,if_pos b];exact .cons ⟨h1,h2⟩ ih
theorem KV.length {kvs:List (κ×V)} {vs:List (κ×Value)} (r:KV kvs vs):kvs.length=vs.length:=Paired.length r
end
theorem c8l {P:Program} {w:World} {k:Key} {u:Value} (r:a3k (kV k) u):(a1c P w).is k u=true:=by
 cases k with
 | inl i=>obtain⟨t,e⟩:=(show ∃ t,u=Value.int i t from r);subst e;exact d0t P w i t
 | inr x=>obtain⟨t,e⟩:=(show ∃ t,u=Value.str x t from r);subst e;exact c9v P w x t
theorem e7f {a b:Key} (e:kV a=kV b):a=b:=by
 cases a with
 | inl i=>cases b with
  | inl j=>have e':V.int i=V.int j:=e;injection e' with e';rw[e']
  | inr y=>exact nomatch (show V.int i=V.str y from e)
 | inr x=>cases b with
  | inl j=>exact nomatch (show V.str x=V.int j from e)
  | inr y=>have e':V.str x=V.str y:=e;injection e' with e';rw[e']
theorem d6g:∀ {a b:List Key},a.map kV=b.map kV→a=b
 | [],[],_=>rfl
 | [],_::_,e=>by simp at e
 | _::_,[],e=>by simp at e
 | x::xs,y::ys,e=>by
  rw[List.map_cons,List.map_cons] at e
  injection e with e1 e2
  rw[e7f e1,d6g e2]
theorem c8i {P:Program} {w:World}:∀ {ks:List Key} {us:List Value},a3e (ks.map kV) us→ItemsAre (a1c P w) ks us
 | [],_,r=>by rw[List.map_nil] at r;cases r;exact .nil
 | k::ks,_,r=>by
  rw[List.map_cons] at r
  cases r with
  | cons h t=>exact .cons (c8l h) (c8i t)
abbrev KT (H:Hp):List (List Key×V)→List (List Key×Addr×Value)→Prop:=Paired fun p q=>p.1=q.1∧H q.2.1=some (.tup (p.1.map kV))∧a3k p.2 q.2.2
theorem KT.val {H:Hp} {kvs:List (List Key×V)} {xs:List (List Key×Addr×Value)} (r:KT H kvs xs) (k:List Key):c9d (a4a kvs k) ((atKey xs k).map (·.2)):=by
 induction r with
 | nil=>exact True.intro
 | @cons p q ps qs h t ih =>
  obtain⟨h1,_,h2⟩:=h
  by_cases e:p.1=k
  ·have e':q.1=k:=h1.symm.trans e
   have b:atKey (q::qs) k=some q.2:=by simp[atKey,List.find?_cons,e']
   rw[a4f e,b];exact h2
  ·have e':¬ q.1=k:=fun z=>e (h1.trans z)
   have b:atKey (q::qs) k=atKey qs k:=by simp[atKey,List.find?_cons,e']
   rw[a4h e,b];exact ih
theorem KT.repl {H:Hp} {kvs:List (List Key×V)} {xs:List (List Key×Addr×Value)} (r:KT H kvs xs) (k:List Key) {y:V} {u:Value} (ry:a3k y u) :
  KT H (kvs.map fun kv=>if kv.1=k then (kv.1,y) else kv) (xs.map (putAt k u)):=by
 induction r with
 | nil=>exact .nil
 | @cons p q ps qs h t ih =>
  rw[List.map_cons,List.map_cons]
  refine .cons ?_ ih
  obtain⟨h1,h2,h3⟩:=h
  unfold putAt
  by_cases e:p.1=k
  ·rw[if_pos e,if_pos (h1.symm.trans e)];exact⟨h1,h2,ry⟩
  ·rw[if_neg e,if_neg (fun z=>e (h1.trans z))];exact⟨h1,h2,h3⟩
theorem KT.put {H:Hp} {kvs:List (List Key×V)} {xs:List (List Key×Addr×Value)} (r:KT H kvs xs) (k:List Key) {b:Addr} {y:V} {u:Value} (hb:H b=some (.tup (k.map kV))) (ry:a3k y u) :
  KT H (a6e kvs k y) (storedH xs k b u):=by
 have e:(kvs.any fun kv=>decide (kv.1=k))=(atKey xs k).isSome:=by
  rw[b1n,(r.val k).isSome_eq,Option.isSome_map]
 unfold a6e storedH
 rw[e]
 by_cases q:(atKey xs k).isSome=true
 ·rw[if_pos q,if_pos q];exact r.repl k ry
 ·rw[if_neg q,if_neg q];exact Paired.snoc r ⟨rfl,hb,ry⟩
theorem KT.keeps {H H':Hp} {kvs:List (List Key×V)} {xs:List (List Key×Addr×Value)} (r:KT H kvs xs) (ht:∀ b ys,H b=some (.tup ys)→H' b=some (.tup ys)):KT H' kvs xs :=
 Paired.mapP r fun _ _ z=>⟨z.1,ht _ _ z.2.1,z.2.2⟩
section
variable {P:Program} {w:World} {H:Hp} {h:Heap} {a:Addr}
theorem e6v {u:HO} (ok:HOk P w H h) (e:Rd H a u):a3q P w H h a u:=e.ok ok
theorem d8n {kvs:List (Key×V)} (ok:HOk P w H h) (e:Rd H a (.dK kvs)):kvs.length≤sizeLine∧(a == sysModules)=false∧∃ vs,KV kvs vs∧h.DictOf (a1c P w) a vs :=
 show a3q P w H h a (.dK kvs) from e6v ok e
theorem e6i {kvs:List (Key×V)} (ok:HOk P w H h) (e:H a=some (.dK kvs)):kvs.length≤sizeLine∧(a == sysModules)=false∧∃ vs,KV kvs vs∧h.DictOf (a1c P w) a vs:=d8n ok (.inl e)
theorem d2o {ks:List Key} (ok:HOk P w H h) (e:H a=some (.tup (ks.map kV))):(tupleKind (a1c P w)).is h ks a:=by
 obtain⟨_,its,r,o,h1,h2,n,h3⟩:=(show a3q P w H h a (.tup (ks.map kV)) from ok a _ e)
 exact⟨o,its.toArray,n,h1,h2,h3,by simpa using c8i r⟩
theorem d8d {kvs:List (List Key×V)} (ok:HOk P w H h) (e:Rd H a (.dT kvs)):kvs.length≤sizeLine∧(a == sysModules)=false ∧
  ∃ xs,KT H kvs xs∧h.DictOfH (tupleKind (a1c P w)) a xs:=by
 obtain⟨z,y,xs,r,o,es,ep,h1,h2,h3,h4,h5⟩:=(show a3q P w H h a (.dT kvs) from e6v ok e)
 refine⟨z,y,xs,r,o,es,ep,h1,h2,h3,h4,fun x hx=>?_,h5⟩
 have all:∀ {l:List (List Key×V)} {m:List (List Key×Addr×Value)},KT H l m→∀ x∈m,(tupleKind (a1c P w)).is h x.1 x.2.1:=by
  intro l m q
  induction q with
  | nil=>intro x hx;exact nomatch hx
  | @cons p q ps qs hq t ih =>
   intro x hx
   rcases List.mem_cons.mp hx with e | hx
   ·subst e
    exact d2o ok (by rw[←hq.1];exact hq.2.1)
   ·exact ih x hx
 exact all r x hx
theorem f0o {kvs:List (List Key×V)} (ok:HOk P w H h) (e:H a=some (.dT kvs)):kvs.length≤sizeLine∧(a == sysModules)=false ∧
  ∃ xs,KT H kvs xs∧h.DictOfH (tupleKind (a1c P w)) a xs:=d8d ok (.inl e)
end
def b2n (H:Hp) (a:Addr) (y:V) (r:Option V):Prop :=
 (∃ kvs k,Rd H a (.dK kvs)∧y=kV k∧r=a4a kvs k)∨∃ kvs k b,Rd H a (.dT kvs)∧y=.ref b∧H b=some (.tup (k.map kV))∧r=a4a kvs k
def d3q (H:Hp) (a:Addr) (y v:V) (H':Hp):Prop :=
 (∃ kvs k,H a=some (.dK kvs)∧y=kV k∧kvs.length < sizeLine∧H'=upd H a (.dK (a6e kvs k v))) ∨
 ∃ kvs k b,H a=some (.dT kvs)∧y=.ref b∧H b=some (.tup (k.map kV))∧kvs.length < sizeLine∧H'=upd H a (.dT (a6e kvs k v))
theorem b2n.k {H:Hp} {a:Addr} {kvs:List (Key×V)} {k:Key} (e:H a=some (.dK kvs)):b2n H a (kV k) (a4a kvs k):=.inl ⟨kvs,k,.inl e,rfl,rfl⟩
theorem d3q.k {H:Hp} {a:Addr} {kvs:List (Key×V)} {k:Key} {v:V} (e:H a=some (.dK kvs)) (hl:kvs.length < sizeLine):d3q H a (kV k) v (upd H a (.dK (a6e kvs k v))):=.inl ⟨kvs,k,e,rfl,hl,rfl⟩
theorem d3q.t {H:Hp} {a b:Addr} {kvs:List (List Key×V)} {k:List Key} {v:V} (e:H a=some (.dT kvs)) (eb:H b=some (.tup (k.map kV))) (hl:kvs.length < sizeLine) :
  d3q H a (.ref b) v (upd H a (.dT (a6e kvs k v))):=.inr ⟨kvs,k,b,e,rfl,eb,hl,rfl⟩
section
variable {X:Cx} {pins:List (Addr×Obj)} {σ:St} {H:Hp} {s:Shared} {a:Addr} {y v:V} {u r:Value} {o:Option V} {A:Around} {E:Value→Shared→Prop}
theorem Inv.big (I:Inv X pins σ H s):sysModules < s.heap.objs.size:=by
 have h:mainGlobals < s.heap.objs.size:=(I.mod.glob.keeps I.bk).lt
 exact Nat.lt_trans (by decide) h
theorem d8q {Q:Value→Shared→Prop} (hu:A.units+1 < cLine) (I:Inv X pins σ H s) (g:b2n H a y (some v)) (ry:a3k y u) (h:∀ w' s',Inv X pins σ H s'→a3k v w'→Q w' s') :
  wpAny (model X.prog X.w) A (getItem (.ref a) u) Q E s:=by
 rcases g with ⟨kvs,k,e,ey,l⟩ | ⟨kvs,k,b,e,ey,eb,l⟩
 ·subst ey
  obtain⟨z,hd,vs,rel,dd⟩:=d8n I.hok e
  obtain⟨w',hw,rw'⟩:=c9d.some_of (v:=v) (o:=valueAt vs k) (by rw[l];exact rel.val k)
  exact wpAny_getItem_of (c8l ry) dd.mapOf hw (h w' _ (I.tok _) rw')
 ·subst ey
  cases (show u=Value.ref b from ry)
  obtain⟨z,hd,xs,rel,dd⟩:=d8d I.hok e
  obtain⟨w',hw,rw'⟩:=c9d.some_of (v:=v) (o:=(atKey xs k).map (·.2)) (by rw[l];exact rel.val k)
  obtain⟨p,hp,hp2⟩:=Option.map_eq_some_iff.mp hw
  refine wpAny_getItem_heap (tupleKind_room_in1 hu) (d2o I.hok eb) dd hp ?_
  rw[hp2]
  exact h w' _ (I.tok _) rw'
theorem d0r {h':Heap} {t':Nat} {ob:HO} (I:Inv X pins σ H s) (mu:Mut (H a)) (hs:Heap.SameBut a s.heap h') (he:∃ q,h'.get? a=some q) (new:a3q X.prog X.w (upd H a ob) h' a ob) :
  Inv X pins σ (upd H a ob) {s with heap:=h',toks:=t'} :=
 I.write (x:=a) (e:=a) mu (.inl rfl) (fun b q hb z=>(hs.2 b hb).trans z) he new
theorem d1y {P:Program} {w:World} {H':Hp} {h':Heap} {kvs:List (Key×V)} {vs:List (Key×Value)} (z:kvs.length≤sizeLine) (hd:(a == sysModules)=false) (rel:KV kvs vs) (dd:h'.DictOf (a1c P w) a vs) :
  a3q P w H' h' a (.dK kvs):=⟨z,hd,vs,rel,dd⟩
theorem d7b {H':Hp} {Q:Unit→Shared→Prop} (hu:A.units+1 < cLine) (I:Inv X pins σ H s) (g:d3q H a y v H') (ry:a3k y u) (rv:a3k v r) (h:∀ s',Inv X pins σ H' s'→Q () s') :
  wpAny (model X.prog X.w) A (setItem (.ref a) u r) Q E s:=by
 rcases g with ⟨kvs,k,e,ey,l,eH⟩ | ⟨kvs,k,b,e,ey,eb,l,eH⟩
 ·subst ey eH
  obtain⟨z,hd,vs,rel,dd⟩:=e6i I.hok e
  have hz:vs.length≤sizeLine:=by rw[←rel.length];exact z
  have hl:(a6e kvs k v).length≤sizeLine:=by have:=a3s kvs k v;omega
  refine wpAny_setItem_pairs (hsz:=hz) (c8l ry) dd fun h' dd' hs=>h _ ?_
  have he:∃ q,h'.get? a=some q:=let ⟨q,_,_,hq,_⟩:=dd';⟨q,hq⟩
  exact d0r I (by rw[e];exact True.intro) hs he (d1y hl hd (rel.put k rv) dd')
 ·subst ey eH
  cases (show u=Value.ref b from ry)
  obtain⟨z,hd,xs,rel,dd⟩:=f0o I.hok e
  have hz:xs.length≤sizeLine:=by rw[←Paired.length rel];exact z
  have hl:(a6e kvs k v).length≤sizeLine:=by have:=a3s kvs k v;omega
  refine wpAny_setItem_heap (hsz:=hz) (tupleKind_room_in1 hu) (d2o I.hok eb) dd fun h' dd' hs=>h _ ?_
  obtain⟨q,es,ep,hq,h2,h3,h4,_,h5⟩:=dd'
  refine d0r I (by rw[e];exact True.intro) hs ⟨q,hq⟩ ⟨hl,hd,_,(rel.put k eb rv).keeps fun c ys ec=>?_,q,es,ep,hq,h2,h3,h4,h5⟩
  rw[a0h (b8n ec e (fun z=>nomatch z))]
  exact ec
end
def f1l (i:Expr):Prop:=∀ ov iv,subscripted i false ov iv=operate [ov,iv] (getItem ov iv)
theorem e3s {prog:Program} {w:World} {A:Around} {E:Value→Shared→Prop} {s:Shared} {env:Env} {value slice:Expr} {pos:Pos} {T id:String} {Q:Value→Shared→Prop}
  (hl:typeLookup (.type T) "__getitem__"=pure (some (.builtin id))) (hs:f1l slice)
  (h:wpAny (model prog w) A (eval value env) (fun o s₁=>wpAny (model prog w) A (eval slice env) (fun i s₂=>s₂.TypeIs o T∧wpAny (model prog w) A (getItem o i) Q E s₂) E s₁) E s) :
  wpAny (model prog w) A (eval (.Subscript value slice pos) env) Q E s:=by
 refine Subscript_ (wpAny_mono h (fun o s₁ h₁=>wpAny_mono h₁ (fun i s₂ h₂=>?_) fun _ _ x=>x) fun _ _ x=>x)
 obtain⟨hT,h₂⟩:=h₂
 unfold subscriptTail
 refine wpAny_bind ?_
 rw[getitemInPython_of_ne hT.not_modules]
 refine wpAny_bind (wpAny_specialOf hT hl ?_)
 have fin:wpAny (model prog w) A (subscripted slice false o i) (fun r s₃=>wpAny (model prog w) A (letTemporaryGo value o r>>=fun _=>pure r) Q E s₃) E s₂:=by
  rw[hs o i]
  exact wpAny_operating (wpAny_mono h₂ (fun r s₃ h₃=>wpAny_bind (wpAny_letTemporaryGo (wpAny_pure h₃))) fun _ _ x=>x)
 first
  | exact wpAny_pure (wpAny_bind fin)
  | exact wpAny_bind (wpAny_pure (wpAny_bind fin))
  | exact wpAny_bind fin
theorem d0v {X:Cx} {pins:List (Addr×Obj)} {σ:St} {H:Hp} {s:Shared} {a:Addr} {y:V} {o:Option V} (I:Inv X pins σ H s) (g:b2n H a y o):s.TypeIs (.ref a) "dict":=by
 rcases g with ⟨kvs,k,e,_,_⟩ | ⟨kvs,k,b,e,_,_,_⟩
 ·obtain⟨_,_,vs,_,dd⟩:=d8n I.hok e
  exact dd.typeIs
 ·obtain⟨_,_,xs,_,dd⟩:=d8d I.hok e
  exact dd.typeIs
def e1x (td ty:TE):TE:=fun σ H Q=>td σ H fun x H1=>ty σ H1 fun y H2=>∃ a v,x=.ref a∧b2n H2 a y (some v)∧Q v H2
def e9p (td ty tv:TE):TS:=fun D σ H=>tv σ H fun v H1=>td σ H1 fun x H2=>ty σ H2 fun y H3=>∃ a H4,x=.ref a∧d3q H3 a y v H4∧D.nx σ H4
section
variable {X:Cx} {o i e value:Expr} {pos pos' tpos:Pos} {td ty tv:TE}
theorem a1d (hu:X.A.units+1 < cLine) (ho:PE X o td) (hi:PE X i ty) (hs:f1l i):PE X (.Subscript o i pos) (e1x td ty):=by
 constructor;intro pins s σ H Q I h
 refine e3s PySem.F.slot_dict_getitem.lookup hs (thn (ho pins s σ H _ I h) fun u s1 ⟨x,H1,I1,rx,q1⟩=>thn (hi pins s1 σ H1 _ I1 q1) fun iv s2 ⟨y,H2,I2,ry,a,v,ex,g,q2⟩=>?_)
 subst ex
 obtain rfl:u=Value.ref a:=rx
 exact⟨d0v I2 g,d8q hu I2 g ry fun w' s3 I3 rw'=>⟨v,H2,I3,rw',q2⟩⟩
theorem a7j (hu:X.A.units+1 < cLine) (ho:PE X o td) (hi:PE X i ty) (hv:PE X value tv) (hs:swapsWith value (some (.Subscript o i pos')) pos.line X.env=pure false) :
  PS X (.Assign [.Subscript o i pos'] value pos) (e9p td ty tv):=by
 constructor;intro pins s σ H D I h
 refine wpAny_Assign_Subscript (thn (hv pins s σ H _ I h) fun r s1 ⟨v,H1,I1,rv,q1⟩=>thn (ho pins s1 σ H1 _ I1 q1) fun u s2 ⟨x,H2,I2,rx,q2⟩=>thn (hi pins s2 σ H2 _ I2 q2) fun iv s3 ⟨y,H3,I3,ry,a,H4,ex,g,q3⟩=>?_) hs
 subst ex
 obtain rfl:u=Value.ref a:=rx
 exact d7b hu I3 g ry rv fun s4 I4=>⟨σ,H4,I4,q3⟩
end
theorem d2s {P:Program} {w:World} {H:Hp} (h:Heap) (hb:sysModules < h.objs.size):a3q P w H (h.push {cls:=.type "dict",data:=.dict #[]}) h.objs.size (.dK []) :=
 ⟨Nat.zero_le _,beq_eq_false_iff_ne.mpr (Ne.symm (Nat.ne_of_lt hb)),[],.nil,Heap.DictOf.new h⟩
theorem e1f {P:Program} {w:World} {H:Hp} (h:Heap) (hb:sysModules < h.objs.size):a3q P w H (h.push {cls:=.type "dict",data:=.dict #[]}) h.objs.size (.dT []) :=
 ⟨Nat.zero_le _,beq_eq_false_iff_ne.mpr (Ne.symm (Nat.ne_of_lt hb)),[],.nil,_,#[],0,Heap.get?_push_size _ rfl,⟨rfl,rfl,rfl⟩,rfl,rfl,List.nodup_nil⟩
def e6r:TE:=fun _ H Q=>∀ p,H p=none→Q (.ref p) (upd H p (.dK []))
def e8d:TE:=fun _ H Q=>∀ p,H p=none→Q (.ref p) (upd H p (.dT []))
section
variable {X:Cx} {pos:Pos}
theorem a6r:PE X (.Dict [] [] pos) e6r:=⟨fun pins s σ H Q I h =>
 wpAny_Dict_empty ⟨.ref s.heap.objs.size,_,I.laid (a:=s.heap.objs.size) (o:=.dK []) (t':=s.toks) (fun _ _ q=>Heap.get?_push_of_some _ q) (Nat.le_refl _) (d2s s.heap I.big),rfl,h _ (I.hok.fresh (Nat.le_refl _))⟩⟩
theorem d9z:PE X (.Dict [] [] pos) e8d:=⟨fun pins s σ H Q I h =>
 wpAny_Dict_empty ⟨.ref s.heap.objs.size,_,I.laid (a:=s.heap.objs.size) (o:=.dT []) (t':=s.toks) (fun _ _ q=>Heap.get?_push_of_some _ q) (Nat.le_refl _) (e1f s.heap I.big),rfl,h _ (I.hok.fresh (Nat.le_refl _))⟩⟩
end
def d4u:List (TE×TE)→St→Hp→(List (V×V)→Hp→Prop)→Prop
 | [],_,H,Q=>Q [] H
 | (tk,tv)::r,σ,H,Q=>tk σ H fun x H1=>tv σ H1 fun y H2=>d4u r σ H2 fun ps H3=>Q ((x,y)::ps) H3
abbrev VV:List (V×V)→List (Value×Value)→Prop:=Paired fun p q=>a3k p.1 q.1∧a3k p.2 q.2
def PPs (X:Cx) (pos:Pos) (keys:List (Option Expr)) (values:List Expr) (trs:List (TE×TE)):Prop :=
 ∀ (pins:List (Addr×Obj)) (s:Shared) (σ:St) (H:Hp) (Q:List (V×V)→Hp→Prop),Inv X pins σ H s→d4u trs σ H Q →
  wpAny (model X.prog X.w) X.A (evalPairs (pairTrees keys values X.env pos)) (fun vs s'=>∃ ps H',Inv X pins σ H' s'∧VV ps vs∧Q ps H') X.xe s
theorem e6h {X:Cx} {pos:Pos}:PPs X pos [] [] []:=fun pins s σ H Q I h=>pairTrees_nil_walk ⟨[],H,I,.nil,h⟩
theorem c5w {X:Cx} {pos:Pos} {k v:Expr} {ks:List (Option Expr)} {vs:List Expr} {tk tv:TE} {trs:List (TE×TE)} (hk:PE X k tk) (hv:PE X v tv) (hr:PPs X pos ks vs trs) :
  PPs X pos (some k::ks) (v::vs) ((tk,tv)::trs):=fun pins s σ H Q I h =>
 pairTrees_cons_walk (thn (hk pins s σ H _ I h) fun u s1 ⟨x,H1,I1,rx,q1⟩=>thn (hv pins s1 σ H1 _ I1 q1) fun w2 s2 ⟨y,H2,I2,ry,q2⟩ =>
  thn (hr pins s2 σ H2 _ I2 q2) fun ws s3 ⟨ps,H3,I3,rel,q3⟩=>⟨(x,y)::ps,H3,I3,.cons ⟨rx,ry⟩ rel,q3⟩)
def c2l (kvs more:List (Key×V)):List (Key×V):=more.foldl (fun acc kv=>a6e acc kv.1 kv.2) kvs
theorem KV.merge:∀ {more:List (Key×V)} {rs:List (Key×Value)} {kvs:List (Key×V)} {vs:List (Key×Value)},KV more rs→KV kvs vs→KV (c2l kvs more) (merged vs rs):=by
 intro more rs kvs vs r
 unfold KV at r
 induction r generalizing kvs vs with
 | nil=>intro q;exact q
 | @cons p q ps qs h t ih =>
  intro r0
  have e:KV (a6e kvs p.1 p.2) (stored vs q.1 q.2):=by
   have:=r0.put p.1 h.2
   rw[←h.1];exact this
  exact ih e
theorem b4e:∀ (more kvs:List (Key×V)),(c2l kvs more).length≤kvs.length+more.length
 | [],kvs=>by show kvs.length≤kvs.length+0;omega
 | p::r,kvs=>by
  have h1:=b4e r (a6e kvs p.1 p.2)
  have h2:=a3s kvs p.1 p.2
  show (c2l (a6e kvs p.1 p.2) r).length≤_
  rw[List.length_cons];omega
theorem c2f {P:Program} {w:World}:∀ {kvs:List (Key×V)} {ws:List (Value×Value)},VV (kvs.map fun kv=>(kV kv.1,kv.2)) ws→∃ rs,Carries (a1c P w) ws rs∧KV kvs rs
 | [],_,r=>by rw[List.map_nil] at r;cases r;exact⟨[],True.intro,.nil⟩
 | p::kvs,_,r=>by
  rw[List.map_cons] at r
  cases r with
  | @cons a b as bs h t =>
   obtain⟨rs,c,q⟩:=c2f (P:=P) (w:=w) t
   obtain⟨b1,b2⟩:=b
   exact⟨(p.1,b2)::rs,⟨c8l h.1,rfl,c⟩,.cons ⟨rfl,h.2⟩ q⟩
def f0r (trs:List (TE×TE)):TE:=fun σ H Q=>∀ p,H p=none→d4u trs σ (upd H p (.dK [])) fun ps H2=>H2 p=some (.dK [])∧∃ kvs:List (Key×V),ps=kvs.map (fun kv=>(kV kv.1,kv.2))∧kvs.length≤15∧Q (.ref p) (upd H2 p (.dK (c2l [] kvs)))
theorem e5m {X:Cx} {pos:Pos} {keys:List (Option Expr)} {values:List Expr} {trs:List (TE×TE)} (h:PPs X pos keys values trs) (hall:keys.all (·.isSome)=true) (hl:keys.length=values.length) (h0:keys≠[])
  (h15:keys.length≤15):PE X (.Dict keys values pos) (f0r trs):=by
 constructor;intro pins s σ H Q I q
 have hn:=I.hok.fresh (Nat.le_refl s.heap.objs.size)
 have I1:=I.laid (a:=s.heap.objs.size) (o:=.dK []) (h':=s.heap.push {cls:=.type "dict",data:=.dict #[]}) (t':=s.toks) (fun _ _ q=>Heap.get?_push_of_some _ q) (Nat.le_refl _) (d2s s.heap I.big)
 refine wpAny_Dict_walk (knd:=a1c X.prog X.w) hall hl h0 h15 (thn (h pins _ σ _ _ I1 (q _ hn)) fun ws s2 ⟨ps,H2,I2,rel,e,kvs,ep,lk,q2⟩=>?_)
 subst ep
 obtain⟨rs,c,rk⟩:=c2f (P:=X.prog) (w:=X.w) rel
 obtain⟨z,hd,vs0,r0,dd⟩:=e6i I2.hok e
 cases r0
 refine⟨rs,c,dd,fun h' dd' hs=>⟨.ref s.heap.objs.size,_,?_,rfl,q2⟩⟩
 have hz:(c2l [] kvs).length≤sizeLine:=by
  have h1:=b4e kvs []
  rw[List.length_nil] at h1
  rw[sizeLine_eq];omega
 have he:∃ q,h'.get? s.heap.objs.size=some q:=let ⟨q,_,_,hq,_⟩:=dd';⟨q,hq⟩
 exact d0r I2 (by rw[e];exact True.intro) hs he (d1y hz hd (rk.merge .nil) dd')
structure M1 (X:Cx) (o:Expr) (m:Str) (apos:Pos) (e:Expr) (cpos:Pos):Prop where
 base:attributeBase o m X.env (eval o X.env)=eval o X.env
 few:((backTo cpos (starEach [e] X.env)).all (fun x=>!x.1) && (backToKw cpos (keywordEach [] X.env)).all (fun x=>x.1.isSome)
  && decide (([e]:List Expr).length+([]:List Keyword).length+(if ([]:List Keyword).isEmpty then 0 else 1) < 30))=true
 line:(apos.endLine == cpos.line)=true
 trees:backTo cpos (starEach [e] X.env)=[(false,eval e X.env)]
structure M2 (X:Cx) (o:Expr) (m:Str) (apos:Pos) (e f:Expr) (cpos:Pos):Prop where
 base:attributeBase o m X.env (eval o X.env)=eval o X.env
 few:((backTo cpos (starEach [e,f] X.env)).all (fun x=>!x.1) && (backToKw cpos (keywordEach [] X.env)).all (fun x=>x.1.isSome)
  && decide (([e,f]:List Expr).length+([]:List Keyword).length+(if ([]:List Keyword).isEmpty then 0 else 1) < 30))=true
 line:(apos.endLine == cpos.line)=true
 trees:backTo cpos (starEach [e,f] X.env)=[(false,eval e X.env),(false,eval f X.env)]
def IsD (H:Hp) (a:Addr):Prop:=(∃ kvs,Rd H a (.dK kvs))∨∃ kvs,Rd H a (.dT kvs)
theorem d5u {X:Cx} {pins:List (Addr×Obj)} {σ:St} {H:Hp} {s:Shared} {a:Addr} (I:Inv X pins σ H s) (d:IsD H a) :
  s.TypeIs (.ref a) "dict"∧(∀ b,Value.ref a=.ref b→∃ ob,s.heap.get? b=some ob∧ob.dict=none)∧(a == sysModules)=false:=by
 rcases d with ⟨kvs,e⟩ | ⟨kvs,e⟩
 ·obtain⟨_,hd,vs,_,dd⟩:=d8n I.hok e
  refine⟨dd.typeIs,fun b q=>?_,hd⟩
  cases q
  obtain⟨ob,_,_,h1,h2,_⟩:=dd
  exact⟨ob,h1,h2.2.1⟩
 ·obtain⟨_,hd,xs,_,dd⟩:=d8d I.hok e
  refine⟨dd.typeIs,fun b q=>?_,hd⟩
  cases q
  obtain⟨ob,_,_,h1,h2,_⟩:=dd
  exact⟨ob,h1,h2.2.1⟩
section
variable {X:Cx} {pins:List (Addr×Obj)} {σ:St} {H:Hp} {s:Shared} {a:Addr} {y d:V} {u r:Value} {o:Option V} {A:Around} {E:Value→Shared→Prop}
theorem e8h {Q:Value→Shared→Prop} (hu:A.units+1 < cLine) (I:Inv X pins σ H s) (g:b2n H a y o) (ry:a3k y u) (rd:a3k d r) (h:∀ w' s',Inv X pins σ H s'→a3k (o.getD d) w'→Q w' s') :
  wpAny (model X.prog X.w) A (call (.builtin "dict.get") [.ref a,u,r]) Q E s:=by
 rcases g with ⟨kvs,k,e,ey,l⟩ | ⟨kvs,k,b,e,ey,eb,l⟩
 ·subst ey
  obtain⟨z,hd,vs,rel,dd⟩:=d8n I.hok e
  refine call_meetsIn PySem.F.slot_dict_get dd.typeIs PySem.F.entry_dict_get (PySem.F.args_dict_get_3 _ _ _) (meets_dict_get_default (a1c X.prog X.w) a (c8l ry) hd r) ⟨_,dd.mapOf,h _ _ (I.tok _) ?_⟩
  rw[l]
  exact(rel.val k).getD rd
 ·subst ey
  cases (show u=Value.ref b from ry)
  obtain⟨z,hd,xs,rel,dd⟩:=d8d I.hok e
  refine call_meetsIn PySem.F.slot_dict_get dd.typeIs PySem.F.entry_dict_get (PySem.F.args_dict_get_3 _ _ _) (meetsH_dict_get_default (tupleKind (a1c X.prog X.w)) a b hd r) ⟨tupleKind_room_in1 hu,k,xs,d2o I.hok eb,dd,h _ _ (I.tok _) ?_⟩
  rw[l]
  exact(rel.val k).getD rd
end
def e8x (td ty tx:TE):TE:=fun σ H Q=>td σ H fun x H1=>∃ a,x=.ref a∧IsD H1 a∧ty σ H1 fun y H2=>tx σ H2 fun z H3=>∃ o,b2n H3 a y o∧Q (o.getD z) H3
section
variable {X:Cx} {o e f:Expr} {apos cpos:Pos} {td ty tx:TE}
theorem b2k (hu:X.A.units+1 < cLine) (ho:PE X o td) (he:PE X e ty) (hf:PE X f tx) (m:M2 X o "get" apos e f cpos):PE X (.Call (.Attribute o "get" apos) [e,f] [] cpos) (e8x td ty tx):=by
 constructor;intro pins s σ H Q I h
 refine wpAny_Call_method m.base m.few m.line PySem.F.plainAttrs_dict PySem.F.slot_dict_get PySem.F.type_dict_get (thn (ho pins s σ H _ I h) fun u s1 ⟨x,H1,I1,rx,a,ex,d,q1⟩=>?_)
 subst ex
 obtain rfl:u=Value.ref a:=rx
 obtain⟨t1,t2,_⟩:=d5u I1 d
 refine⟨t1,t2,?_⟩
 rw[m.trees]
 refine Calls.callWith_builtin rfl (Calls.evalArgs_plain (Calls.spliced_cons (thn (he pins s1 σ H1 _ I1 q1) fun iv s2 ⟨y,H2,I2,ry,q2⟩ =>
  Calls.spliced_cons (thn (hf pins s2 σ H2 _ I2 q2) fun fv s3 ⟨z,H3,I3,rz,ov,g,q3⟩=>Calls.spliced_nil ?_))))
 exact e8h hu I3 g ry rz fun w' s4 I4 rw'=>⟨_,H3,I4,rw',q3⟩
end
end L2
namespace Att
open PySem PySem.W PySem.Calls PyProof.Rows
theorem b9u {P:Params} {h:Heap}:∀ (ns:List Int) (vs:List Value),WellAll P h vs (ns.map WData.int)→IntsAre vs ns:=by
 intro ns
 induction ns with
 | nil =>
  intro vs w
  rw[List.map_nil] at w
  cases w
  exact .nil
 | cons n ns ih =>
  intro vs w
  rw[List.map_cons] at w
  cases w with
  | cons a b =>
   cases a
   exact .cons _ _ (ih _ b)
theorem d7v {l:OpenLaw} {n:Nat} (hn:l.most=some n) {P:Params} {h:Heap} {args:List WData} {vals:List Value}
  (hpre:l.row.toRowW.claim.pre args=true) (hwl:WellAll P h vals args) :
  ∃ a vs ns,vals=[Value.ref a]∧args=[WData.list (ns.map WData.int)]∧h.get? a=some {cls:=.type "list",data:=.seq vs.toArray}∧IntsAre vs ns∧ns.length≤n:=by
 have hsh:WShape.hasAll [] args [.list .int]=true:=(pre_splitW hpre).1
 have hc:l.pre.holds [] {args:=args}=true:=(pre_splitW hpre).2
 obtain⟨d,r,rfl,h1,h2⟩:=hasAllW_cons hsh
 obtain rfl:=hasAllW_nil h2
 obtain⟨xs,rfl,h3⟩:=hasW_list h1
 obtain⟨ns,rfl⟩:=items_int h3
 have hlen:ns.length≤n:=by
  unfold OpenLaw.pre at hc
  have h4:(WTm.not (.lt (.lit (.int (n:Int))) (.len (.arg 0)))).holds [] {args:=[.list (ns.map .int)]}=true:=by
   have h4:=(holds_andW hc).1
   rw[hn] at h4
   exact h4
  have h5:=condW_of h4 (w_not (w_lt w_lit (w_len_list (w_arg rfl))))
  rw[List.length_map] at h5
  refine Nat.le_of_not_lt fun q=>?_
  have q':(n:Int) < ((ns.length:Nat):Int):=by omega
  first
   | (rw[decide_eq_true q'] at h5;exact absurd h5 (by decide))
   | (simp at h5;omega)
 cases hwl with
 | cons w1 w2 =>
  cases w2
  cases w1 with
  | list ho hall=>exact⟨_,_,ns,rfl,rfl,ho,b9u ns _ hall,hlen⟩
theorem d4m (l:OpenLaw) (args:List WData):l.row.toRowW.claim.post args (.bool true) args=true :=
 postW_of (r:=l.row.toRowW) (X:=(true == true))
  (show WShape.has [] (.bool true) .bool=true by first | rfl | decide | simp[WShape.has,WShape.arms,WShape.armsAll])
  (show (WTm.eq .res (.lit (.bool true))).value [] {args:=args,res:=some (.bool true),after:=args}=some (.bool (true == true)) from w_eq_bool (w_res rfl) w_lit) rfl
section
variable {prog:Program} {w:World} {A:Around} {E:Value→Shared→Prop} {s:Shared} {K:Frag}
def f1k (h:Heap) (L d:Addr):List (Addr×Obj):=(List.range h.objs.size).filterMap fun a=>if a=L∨a=d then none else (h.get? a).map fun o=>(a,o)
end
end Att
namespace L2
open PySem PySem.Spec PyProof.Rows
theorem c6k:∀ {vs:List Value} {ns:List Int},IntsAre vs ns→a3e (ns.map V.int) vs
 | _,_,.nil=>.nil
 | _,_,.cons n t h=>.cons ⟨t,rfl⟩ (c6k h)
def e9v (H:Hp):Prop:=∀ b,H b=none∨∃ o xs,H b=some (.frz o (.lst xs))
theorem d9l {P:Program} {w:World} {K:PySem.W.Frag} {mg mb:Str→Option Value} {CX:CXT} {k:Nat} {fa a:Addr} {fd:FuncData} {x:Str} {sp:Sp} {s₁:Shared} {vs:List Value} {ns:List Int}
  (KX:K.In s₁.heap) (hns:s₁.heap.Ns mainGlobals mg) (hb:s₁.heap.Ns builtinsNs mb) (hbb:∀ x:Str,x≠"__name__"→mb x=bootBuiltins x) (hlim:s₁.heap.NoLimit) (hg:s₁.gens=#[])
  (ha:s₁.heap.get? a=some {cls:=.type "list",data:=.seq vs.toArray}) (hi:IntsAre vs ns) (hl:ns.length≤sizeLine) (hr:Room k callerA)
  (F:∀ base:Heap,K.In base→base.Ns mainGlobals mg→a3y P w K mg base CX k fa fd [x] sp) (hbind:∀ (s:Shared) (u:Value),BindsTo s fd ⟨[u],[]⟩ [(x,u)])
  (hsp:∀ H:Hp,e9v H→SqL K H a (ns.map V.int)→sp [.ref a] H (fun v _=>v=.bl true) fun _ _ _=>False)
  (hCX:∀ H e s',CX [] H s₁ (fun _ _ _=>False) e s'→False) :
  codeAny (model P w) callerA (.call (.ref fa) ⟨[.ref a],[]⟩) (fun r s'=>r=.ok (.ret (.bool true))∧OldK s₁.heap s'.heap∧s'.os=s₁.os∧AllBare s'.gens) s₁:=by
 have rv:=c6k hi
 have lenV:=hi.length
 have core:∀ H:Hp,e9v H→SqL K H a (ns.map V.int)→HOk P w H s₁.heap→(∀ b,H b≠none→b=a)→(H a≠none→K.lookup a=none) →
   codeAny (model P w) callerA (.call (.ref fa) ⟨[.ref a],[]⟩) (fun r s'=>r=.ok (.ret (.bool true))∧OldK s₁.heap s'.heap∧s'.os=s₁.os∧AllBare s'.gens) s₁:=by
  intro H hO hS hok hA hK
  have base_of:∀ {b:Addr} {o:Obj},s₁.heap.get? b=some o→H b=none→(e0t s₁.heap H).get? b=some o:=fun e n=>e0r e n
  have noA:∀ {b:Addr} {o:Obj} {es:Array DictEntry} {ep:Nat},s₁.heap.get? b=some o→o.data=.dict es ep→H b=none:=fun {b o es ep} e d=>by
   cases q:H b with
   | none=>rfl
   | some u =>
    have e':b=a:=hA b (by rw[q];simp)
    subst e'
    rw[ha] at e;cases e
    have d':Data.seq vs.toArray _=Data.dict es ep:=d
    cases d'
  have nsK:∀ {b:Addr} {m:Str→Option Value},s₁.heap.Ns b m→(e0t s₁.heap H).Ns b m:=fun {b m} ⟨o,es,ep,e,d,r⟩=>⟨o,es,ep,base_of e (noA e d),d,r⟩
  have hKb:K.In (e0t s₁.heap H):=fun b o e=>base_of (KX b o e) (by
   cases q:H b with
   | none=>rfl
   | some u =>
    have e':b=a:=hA b (by rw[q];simp)
    subst e'
    rw[hK (by rw[q];simp)] at e;cases e)
  have hM:Mod K mg (e0t s₁.heap H):=⟨hKb,nsK hns,⟨mb,nsK hb,hbb⟩,let ⟨mc,h1,h2⟩:=hlim;⟨mc,nsK h1,h2⟩⟩
  have e0:e4u P w K mg (e0t s₁.heap H) callerA [] s₁ H:=⟨rfl,hM,fun b o e=>e5z e,Nat.le_of_eq (d6t _ _),trivial,fun b hb=>absurd (show b∈([]:List Addr) from hb) (by simp),hok,.of_eq hg⟩
  refine codeAny_mono ((F _ hKb (nsK hns)).run callerA [] s₁ H ⟨[.ref a],[]⟩ [.ref a] [.ref a] _ _ hr e0 (hbind s₁ (.ref a)) (.cons rfl .nil) (hsp H hO hS)) fun r s' h=>?_
  cases r with
  | error e=>exact(hCX H e s' h).elim
  | ok fl =>
   cases fl with
   | next=>exact False.elim h
   | brk=>exact False.elim h
   | cont=>exact False.elim h
   | ret u =>
    obtain⟨v,H',os,bare,un,hok',r',q⟩:=h
    have q':v=.bl true:=q
    subst q'
    obtain rfl:u=Value.bool true:=r'
    refine⟨rfl,OldK.of_keep fun b o e=>?_,os,bare⟩
    cases q:H b with
    | none=>exact un.keep b o e q (by intro z;exact absurd (show b∈([]:List Addr) from z) (by simp)) (by simp)
    | some u =>
     rcases hO b with z | ⟨ob,xs,z⟩
     ·rw[q] at z;cases z
     ·have z2:=un.frzs b ob _ z
      obtain⟨e1,_⟩:=hok b _ z
      obtain⟨e2,_⟩:=hok' b _ z2
      rw[e] at e1;cases e1
      exact e2
 cases hk:K.lookup a with
 | some o =>
  have e:=KX a o hk
  rw[ha] at e
  cases e
  refine core (fun _=>none) (fun _=>.inl rfl) (.inr ⟨_,vs.toArray,_,hk,rfl,rfl,rfl,by rw[List.size_toArray,lenV];exact hl,by simpa using rv⟩) (fun b u z=>by have z':(none:Option HO)=some u:=z;cases z') (fun b z=>absurd rfl z) fun z=>absurd rfl z
 | none =>
  refine core (fun b=>if b=a then some (.frz {cls:=.type "list",data:=.seq vs.toArray} (.lst (ns.map V.int))) else none) (fun b=>?_) (.inl (.inr ⟨{cls:=.type "list",data:=.seq vs.toArray},if_pos rfl⟩)) (fun b u z=>?_) (fun b z=>?_) fun _=>hk
  ·by_cases hb:b=a
   ·exact .inr ⟨_,_,if_pos hb⟩
   ·exact .inl (if_neg hb)
  ·by_cases hb:b=a
   ·have z':=(if_pos hb).symm.trans z
    cases z'
    subst hb
    exact⟨ha,by rw[List.length_map];exact hl,vs,_,rv,ha⟩
   ·have z':=(if_neg hb).symm.trans z
    cases z'
  ·by_cases hb:b=a
   ·exact hb
   ·exact absurd (if_neg hb) z
end L2
namespace L2
open PySem PySem.Spec PyProof.Rows
abbrev KOf {K:PySem.W.Frag} {h:Heap} (_:K.In h):PySem.W.Frag:=K
end L2
namespace L2
open PySem PySem.Spec PyProof.Rows
def a0p (s:Stmt):Arguments:=match s with
 | .FunctionDef _ a _ _ _ _ _ _ _ _=>a
 | _=>{posonlyargs:=[],args:=[],vararg:=none,kwonlyargs:=[],kw_defaults:=[],kwarg:=none,defaults:=[]}
def a0m (s:Stmt):List Stmt:=match s with
 | .FunctionDef _ _ b _ _ _ _ _ _ _=>b
 | _=>[]
def a0f (s:Stmt):Scope:=match s with
 | .FunctionDef _ _ _ _ _ _ sc _ _ _=>sc
 | _=>{kind:=.function,names:=[],isGenerator:=false,isCoroutine:=false}
abbrev CX0:CXT:=fun _ _ _ _ _ _=>False
abbrev E0:XK:=fun _ _ _=>False
theorem a1m {X:Cx}:c8o CX0 X E0:=fun _ _ _ _ _ _ _ h=>h.elim
structure Fun (K:PySem.W.Frag) (x qual:Str) (st:Stmt) (f:Addr) (fd:FuncData):Prop where
 ex:∃ (oc:Value) (od:Option Addr) (kV doc pm:Value) (an:Option Addr) (cdv ct:Value) (osl:Array (Option Value)),
  fd=PySem.W.fnOf x qual (a0p st) (a0m st) (a0f st) .none kV doc pm an cdv ct∧K.lookup f=some ⟨oc,od,.func fd,osl⟩∧PySem.W.codeIn K cdv qual=true
 kp:PySem.W.keepIn K (.ref f)=true
section
variable {P:Program} {w:World} {K:PySem.W.Frag} {mg:Str→Option Value} {base:Heap}
theorem Fun.ok {x qual:Str} {st:Stmt} {f:Addr} {fd:FuncData} {N ps:List Str} {k:Nat} {sp:Sp} (F:Fun K x qual st f fd) (S:a0r N ps (a0f st)) (len:∀ vs H Q E,sp vs H Q E→vs.length=ps.length)
  (hbody:∀ (cdv:Value) (A:Around) (outer:List Env) (s:Shared) (H:Hp) (vs:List V) (Q:VK) (E:XK),Room k (A.deeper (envOfC qual (a0f st) s.heap.objs.size f cdv))→sp vs H Q E →
   ∃ t,PSs (b7m CX0 P w K mg base N qual (a0f st) f cdv A outer s H E).nox (a0m st) t∧t {nx:=fun _ H'=>Q .non H',rt:=Q} (c1o N vs) H):a3y P w K mg base CX0 (k+1) f fd ps sp:=by
 obtain⟨oc,od,kV,doc,pm,an,cdv,ct,osl,rfl,lk,hcd⟩:=F.ex
 refine e3z lk hcd S len fun A outer s H vs Q E hr hsp=>?_
 obtain⟨t,h,q⟩:=hbody cdv A outer s H vs Q E hr hsp
 exact⟨t,h.nox,q⟩
theorem Fun.binds {x qual:Str} {st:Stmt} {f:Addr} {fd:FuncData} {ps:List Str} (F:Fun K x qual st f fd)
  (h:∀ (kV doc pm:Value) (an:Option Addr) (cdv ct:Value) (us:List Value),us.length=ps.length→bindArgs (PySem.W.fnOf x qual (a0p st) (a0m st) (a0f st) .none kV doc pm an cdv ct) ⟨us,[]⟩=pure (ps.zip us)):a1j K fd ps []:=by
 obtain⟨oc,od,kV,doc,pm,an,cdv,ct,osl,rfl,lk,hcd⟩:=F.ex
 exact .all (h kV doc pm an cdv ct)
theorem a0j {x qual:Str} {st:Stmt} {f:Addr} {oc:Value} {od an:Option Addr} {osl:Array (Option Value)} {kV doc pm cdv ct:Value} (l:K.lookup f=some ⟨oc,od,.func (PySem.W.fnOf x qual (a0p st) (a0m st) (a0f st) .none kV doc pm an cdv ct),osl⟩)
  (c:PySem.W.codeIn K cdv qual=true) (k:PySem.W.keepIn K (.ref f)=true):Fun K x qual st f (PySem.W.fnOf x qual (a0p st) (a0m st) (a0f st) .none kV doc pm an cdv ct):=⟨⟨oc,od,kV,doc,pm,an,cdv,ct,osl,rfl,l,c⟩,k⟩
end
theorem a8v {A:Around} {k:Nat} (hr:Room k A):A.units+1 < cLine:=Nat.lt_of_le_of_lt (Nat.add_le_add_left (by decide:1≤64) _) hr.units
section
variable {X:Cx}
theorem pv (i:Nat) {x:Str} {pos:Pos} (hN:X.N[i]?=some x:=by rfl) (hv:Vis X.env.scope x:=by first | exact Or.inl rfl | exact Or.inr (Or.inl rfl) | exact Or.inr (Or.inr rfl)) (hd:(x == ("__debug__":Str))=false:=by decide)
  (hcd:(x == ("__classdict__":Str))=false:=by decide):PE X (.Name x pos) (d1a i):=e6u hN hv hd hcd
end
theorem b5k {A B:Prop} (h:B):if false=true then A else B:=by
 rw[if_neg Bool.false_ne_true]
 exact h
theorem c7i {A B:Prop} (h:A):if true=true then A else B:=by
 rw[if_pos rfl]
 exact h
theorem b0n {c A B:Prop} [Decidable c] (h1:c→A) (h2:¬ c→B):if c then A else B:=by
 by_cases h:c
 ·rw[if_pos h]
  exact h1 h
 ·rw[if_neg h]
  exact h2 h
def Same (H H':Hp):Prop:=∀ b o,H b=some o→H' b=some o
theorem Same.refl (H:Hp):Same H H:=fun _ _ h=>h
theorem Same.trans {H H1 H2:Hp} (a:Same H H1) (b:Same H1 H2):Same H H2:=fun c o h=>b c o (a c o h)
theorem Same.free {H H':Hp} (e:Same H H') {l:Addr} (h:H' l=Option.none):H l=Option.none:=by
 cases q:H l with
 | none=>rfl
 | some o =>
  rw[e l o q] at h
  cases h
theorem Same.seq {K:PySem.W.Frag} {H H':Hp} {a:Addr} {xs:List V} (e:Same H H') (h:SqL K H a xs):SqL K H' a xs:=by
 rcases h with (h | ⟨o,h⟩) | h
 ·exact .inl (.inl (e _ _ h))
 ·exact .inl (.inr ⟨o,e _ _ h⟩)
 ·exact .inr h
end L2
namespace L2
open PySem PySem.Spec PyProof.Rows
section
variable {κ:Type} [DecidableEq κ]
theorem c9h {kvs:List (κ×V)} {k:κ} {v:V} (h:a4a kvs k=some v):k∈kvs.map (·.1):=by
 have q:(kvs.any fun kv=>decide (kv.1=k))=true:=by
  rw[b1n,h]
  all_goals rfl
 obtain⟨p,hp,e⟩:=List.any_eq_true.mp q
 exact List.mem_map.mpr ⟨p,hp,of_decide_eq_true e⟩
end
end L2
namespace My
open PySem PySem.Spec PyProof.Rows L2
section
variable {X:Cx}
theorem e1h:b9p X (.builtin "isinstance") (fun xs H Q=>∃ x t c b,xs=[x,V.ty c]∧d4a X.K H x t∧PySem.W.kitOne X.K t (.type c)=some b∧Q (.bl b) H):=by
 intro pins s σ H xs us Q I r h
 obtain⟨x,t,c,b,rfl,ty,e,q⟩:=h
 obtain⟨u,w',rfl,ru,rw'⟩:=e3p r
 cases rw'
 exact d5v I ru ty e fun tk=>⟨.bl b,H,I.tok tk,rfl,q⟩
end
section
variable {K:PySem.W.Frag}
theorem e6w:PySem.W.kitOne K (.type "bool") (.type "bool")=some true:=by
 show (if (Value.type "bool" == Value.type "bool")=true then some true else if PySem.W.kitMeta "bool"=true then (fastBuiltinMro "bool").map (·.contains (Value.type "bool")) else none)=some true
 decide +kernel
end
theorem b1o {κ:Type} [DecidableEq κ]:∀ {kvs:List (κ×V)} {k:κ} {v:V},(kvs.map (·.1)).Nodup→(k,v)∈kvs→a4a kvs k=some v
 | p::r,k,v,hn,hm=>by
  have hn':(p.1::r.map (·.1)).Nodup:=hn
  obtain⟨h1,h2⟩:=List.nodup_cons.mp hn'
  rcases List.mem_cons.mp hm with e | e
  ·subst e
   exact a4f rfl
  ·have ne:¬ p.1=k:=fun z=>h1 (List.mem_map.mpr ⟨(k,v),e,z.symm⟩)
   rw[a4h ne]
   exact b1o h2 e
theorem d2b {α:Type} {xs:List α} {i:Int} (h0:0≤i) (h1:i < xs.length):∃ v,atI xs i=some v:=by
 have e:ixN xs.length i=some i.toNat:=by
  unfold ixN
  rw[if_pos h0,if_pos h1]
 have hl:i.toNat < xs.length:=by omega
 refine⟨xs[i.toNat],?_⟩
 unfold atI
 rw[e]
 exact List.getElem?_eq_getElem hl
theorem c4v {α:Type} {xs:List α} {i:Int} {v:α} (h:atI xs i=some v):v∈xs:=by
 obtain⟨j,_,e,_⟩:=c9t h
 exact List.mem_of_getElem? e
theorem f0j {c A B:Prop} [Decidable c] (hc:c) (h:A):if decide c=true then A else B:=by
 rw[if_pos (decide_eq_true hc)]
 exact h
theorem f0q {c A B:Prop} [Decidable c] (hc:¬ c) (h:B):if decide c=true then A else B:=by
 rw[if_neg (fun z=>hc (of_decide_eq_true z))]
 exact h
theorem _root_.L2.Same.upd {H:Hp} {p:Addr} {o:HO} (h:H p=none):Same H (upd H p o):=fun b u e=>by
 rw[a0h (a0y e h)]
 exact e
theorem _root_.L2.Same.again {H H':Hp} {p:Addr} {o:HO} (s:Same H H') (h:H p=none):Same H (L2.upd H' p o):=fun b u e=>by
 rw[a0h (a0y e h)]
 exact s b u e
open Builtin.Int (intBits)
theorem c8m:∀ {ns:List Int} {m:Int},m∈ns→intBits m≤PySem.W.WData.weightAll (ns.map PySem.W.WData.int)
 | n::r,m,h=>by
  rcases List.mem_cons.mp h with e | e
  ·subst e
   simp only [List.map_cons,PySem.W.WData.weightAll,PySem.W.WData.weight,Builtin.Int.intBits]
   omega
  ·have z:=c8m e
   simp only [List.map_cons,PySem.W.WData.weightAll]
   omega
theorem e5p {ns:List Int} (h:PySem.W.WData.layableAll [PySem.W.WData.list (ns.map .int)]=true):∀ m∈ns,intBits m≤1048576:=fun m hm=>by
 have h1:=(PySem.W.layW_cons h).1
 have h2:PySem.W.WData.weight (.list (ns.map .int))≤2 ^ 20:=of_decide_eq_true (Bool.and_eq_true_iff.mp h1).2
 have h3:=c8m hm
 have h4:PySem.W.WData.weight (.list (ns.map .int))=PySem.W.WData.weightAll (ns.map .int):=by simp only [PySem.W.WData.weight]
 have e:(2:Nat) ^ 20=1048576:=by decide
 omega
end My
namespace My
open PySem PySem.W PySem.Calls PyProof.Rows L2
theorem d9w {l:PySem.W.OpenLaw} {n k:Nat} {q:Program} {loose:List Str} {XP:(Str→Option Value)→Heap→Prop} {YP:World→Heap→Prop} {d:DefRec} {K:Params→PySem.W.Frag} {CX:World→CXT} {sp:World→Sp} {x:Str}
  (hn:l.most=some n) (hn2:n≤sizeLine) (hdf:d.params.defaults=[]) (hr:Room k callerA)
  (hY:∀ (w:World) (h:Heap),YP w h→(K w.params).In h)
  (F:∀ (w:World) (mg:Str→Option Value) (fa:Addr) (h:Heap),(K w.params).In h→h.Ns mainGlobals mg→mg d.name=some (.ref fa) →
   ∃ fd:FuncData,(∀ (s:Shared) (u:Value),BindsTo s fd ⟨[u],[]⟩ [(x,u)]) ∧
    ∀ base:Heap,(K w.params).In base→base.Ns mainGlobals mg→a3y l.prog w (K w.params) mg base (CX w) k fa fd [x] (sp w))
  (hsp:∀ (w:World) (H:Hp) (a:Addr) (ns:List Int),ns.length≤n→(∀ m∈ns,Builtin.Int.intBits m≤1048576)→e9v H→SqL (K w.params) H a (ns.map V.int)→sp w [.ref a] H (fun v _=>v=.bl true) fun _ _ _=>False)
  (hCX:∀ (w:World) (H:Hp) (s:Shared) (e:Value) (s':Shared),CX w [] H s (fun _ _ _=>False) e s'→False) :
  PySem.W.WalkO q loose XP YP l.row.toRowW d [] (fun f vs=>PySem.call f vs):=by
 intro w s₀ s₁ mg mb G Y fa o pm cd doc dV kV ho hd hcd hD hmg hg args vals as hpre hlay hrd hwl hlo
 obtain rfl:dV=.none:=Dflts.none hD hdf
 obtain rfl:kV=.none:=Dflts.noKw hD
 obtain⟨a,vs,ns,rfl,rfl,hobj,hints,hlen⟩:=Att.d7v hn hpre hwl
 have KX:=hY w _ Y
 obtain⟨fd,hb,hF⟩:=F w mg fa _ KX G.T.g hmg
 refine enter_call (codeAny_mono (d9l KX G.T.g G.T.b G.T.builtins G.T.nolimit hg hobj hints (Nat.le_trans hlen hn2) hr hF hb (fun H hO hS=>hsp w H a ns hlen (e5p hlay) hO hS) fun H e s'=>hCX w H s₁ e s') fun r s' hq=>?_)
 obtain⟨rfl,h2,h3,h4⟩:=hq
 exact⟨.inl ⟨.bool true,.bool true,[],rfl,fun _=>rfl,.bool true,Att.d4m l _,fun _=>⟨List.Pairwise.nil,fun _ hm=>(nomatch hm)⟩⟩,h2,h3,h4⟩
end My
namespace My
open PySem PySem.Spec PyProof.Rows L2
mutual
inductive Dt (K:PySem.W.Frag) (H:Hp):V→PyData→Prop where
 | non:Dt K H .non .none
 | bl (b:Bool):Dt K H (.bl b) (.bool b)
 | int (i:Int):Dt K H (.int i) (.int i)
 | str (x:Str):Dt K H (.str x) (.str x)
 | lst {a:Addr} {xs:List V} {ds:List PyData} (h:SqL K H a xs) (r:Dts K H xs ds):Dt K H (.ref a) (.list ds)
 | tup {a:Addr} {xs:List V} {ds:List PyData} (h:SqT K H a xs) (r:Dts K H xs ds):Dt K H (.ref a) (.tuple ds)
inductive Dts (K:PySem.W.Frag) (H:Hp):List V→List PyData→Prop where
 | nil:Dts K H [] []
 | cons {x:V} {d:PyData} {xs:List V} {ds:List PyData} (h:Dt K H x d) (r:Dts K H xs ds):Dts K H (x::xs) (d::ds)
end
section
variable {X:Cx} {pins:List (Addr×Obj)} {σ:L2.St} {H:Hp} {s:Shared}
mutual
theorem Dt.reads (I:Inv X pins σ H s) {v:V} {d:PyData} (h:Dt X.K H v d) {u:Value} (r:a3k v u):∃ as,Reads s.heap u d as:=by
 cases h with
 | non=>cases r;exact⟨_,.none⟩
 | bl b=>cases r;exact⟨_,.bool b⟩
 | int i=>obtain⟨t,rfl⟩:=r;exact⟨_,.int i t⟩
 | str x=>obtain⟨t,rfl⟩:=r;exact⟨_,.str x t⟩
 | lst h q =>
  cases r
  obtain⟨its,rv,⟨o,n,e,c,_,dd⟩,_⟩:=I.list h
  obtain⟨as,z⟩:=Dts.reads I q rv
  exact⟨_,.list e c dd (by simpa using z)⟩
 | tup h q =>
  cases r
  obtain⟨its,rv,⟨o,e,c,n,dd⟩,_⟩:=I.tuple h
  obtain⟨as,z⟩:=Dts.reads I q rv
  exact⟨_,.tuple e c dd (by simpa using z)⟩
theorem Dts.reads (I:Inv X pins σ H s) {vs:List V} {ds:List PyData} (h:Dts X.K H vs ds) {us:List Value} (r:a3e vs us):∃ as,ReadsAll s.heap us ds as:=by
 cases h with
 | nil=>cases r;exact⟨_,.nil⟩
 | cons h q =>
  cases r with
  | cons r1 r2 =>
   obtain⟨as,z⟩:=Dt.reads I h r1
   obtain⟨bs,y⟩:=Dts.reads I q r2
   exact⟨_,.cons z y⟩
end
end
section
variable {X:Cx}
def f2c (K:PySem.W.Frag):R2:=fun x y H Q=>∃ da db,Dt K H x da∧Dt K H y db∧SeqAt.shaped da=true∧SeqAt.shaped db=true∧Q (.bl (PyData.eqv da db)) H
def f1d (K:PySem.W.Frag):R2:=fun x y H Q=>∃ da db,Dt K H x da∧Dt K H y db∧SeqAt.shaped da=true∧SeqAt.shaped db=true∧Q (.bl (!PyData.eqv da db)) H
theorem e7b (hu:X.A.units+64 < cLine):OpR X (compareOp .Eq) (f2c X.K):=by
 intro pins s σ H x y v u Q I rx ry h
 obtain⟨da,db,ha,hb,sa,sb,q⟩:=h
 obtain⟨as,ra⟩:=ha.reads I rx
 obtain⟨bs,rb⟩:=hb.reads I ry
 exact SeqAt.compareEq_shaped ra rb sa sb hu ⟨.bl _,H,I,rfl,q⟩
theorem c2k (hu:X.A.units+64 < cLine):OpR X (compareOp .NotEq) (f1d X.K):=by
 intro pins s σ H x y v u Q I rx ry h
 obtain⟨da,db,ha,hb,sa,sb,q⟩:=h
 obtain⟨as,ra⟩:=ha.reads I rx
 obtain⟨bs,rb⟩:=hb.reads I ry
 exact SeqAt.compareNe_shaped ra rb sa sb hu ⟨.bl _,H,I,rfl,q⟩
end
end My
namespace My
open PySem PySem.Spec PyProof.Rows L2
theorem b0f {P:Program} {w:World} {H:Hp} {h:Heap} {a:Addr} {o:HO} (x:a3q P w H h a o):∃ ob,h.get? a=some ob:=by
 cases o with
 | lst xs=>obtain⟨_,_,_,_,e⟩:=x;exact⟨_,e⟩
 | tup xs=>obtain⟨_,_,_,ob,e,_⟩:=x;exact⟨_,e⟩
 | dK kvs=>obtain⟨_,_,_,_,o,_,_,e,_⟩:=x;exact⟨_,e⟩
 | dT kvs=>obtain⟨_,_,_,_,o,_,_,e,_⟩:=x;exact⟨_,e⟩
 | set S n=>obtain⟨o,_,_,_,e,_⟩:=x;exact⟨_,e⟩
 | ins C dx fs=>obtain⟨_,_,_,e,_⟩:=x;exact⟨_,e⟩
 | own y=>exact x
 | xd fs=>obtain⟨_,⟨_,_,_,e,_⟩,_⟩:=x;exact⟨_,e⟩
 | rng lo hi=>obtain⟨_,_,_,e⟩:=x;exact⟨_,e⟩
 | frz ob u=>obtain⟨e,_⟩:=x;exact⟨_,e⟩
 | tbl ps=>exact⟨_,(show h.get? a=some _ from x)⟩
 | met f y=>exact⟨_,(show h.get? a=some _ from x)⟩
 | ext φ=>obtain⟨_,e,_⟩:=x;exact e
section
variable {X:Cx} {pins:List (Addr×Obj)} {σ:L2.St} {H:Hp} {s:Shared}
theorem a9c (I:Inv X pins σ H s) {D:Addr} (h:s.heap.get? D=none):H D=none:=by
 cases q:H D with
 | none=>rfl
 | some u =>
  obtain⟨ob,e⟩:=b0f (I.hok D u q)
  rw[h] at e
  cases e
end
theorem b4w:∀ {xs:List V} {us:List Value} {i:Nat} {u:Value},a3e xs us→us[i]?=some u→∃ x,xs[i]?=some x∧a3k x u
 | _,_,_,_,.nil,e=>by simp at e
 | _,_,0,_,.cons r _,e=>by simp at e;subst e;exact⟨_,rfl,r⟩
 | _,_,i+1,u,.cons _ t,e=>by
  obtain⟨x,h1,h2⟩:=b4w (i:=i) (u:=u) t (by simpa using e)
  exact⟨x,by simpa using h1,h2⟩
end My
namespace My
open PySem PySem.Spec PyProof.Rows L2
def e9b (o:Obj):Option Value:=match o.data with
 | .fields vs=>vs[2]?
 | _=>none
abbrev d1h (a b:Obj):Prop:=a.dict=b.dict∧e9b a=e9b b
inductive a4q {α:Type}:Sem α→Prop
 | pure (a:α):a4q (.pure a)
 | raise (e:Value):a4q (.raise e)
 | stop (x:String):a4q (.unsupported x)
 | rule {t k}:(∀ u,a4q (k u))→a4q (.rule t k)
 | at {p k}:(∀ u,a4q (k u))→a4q (.at p k)
 | load {a p k}:(∀ o,a4q (k o))→a4q (.load a p k)
 | update {a p f k}:(∀ o:Obj,d1h (f o) o∧(o.isFreed=false→(f o).isFreed=false))→(∀ u,a4q (k u))→a4q (.update a p f k)
 | alloc {o k}:(∀ a,a4q (k a))→a4q (.alloc o k)
 | point {l k}:(∀ u,a4q (k u))→a4q (.point l k)
 | fresh {k}:(∀ u,a4q (k u))→a4q (.fresh k)
 | stack {k}:(∀ u,a4q (k u))→a4q (.stack k)
theorem a4q.bind {α β:Type} {t:Sem α} {f:α→Sem β} (h:a4q t) (hf:∀ a,a4q (f a)):a4q (t>>=f):=by
 induction h with
 | pure a=>exact hf a
 | raise e=>exact .raise e
 | stop x=>exact .stop x
 | rule _ ih=>exact .rule ih
 | «at» _ ih=>exact .at ih
 | load _ ih=>exact .load ih
 | update h _ ih=>exact .update h ih
 | alloc _ ih=>exact .alloc ih
 | point _ ih=>exact .point ih
 | fresh _ ih=>exact .fresh ih
 | stack _ ih=>exact .stack ih
def DK (h h':Heap):Prop:=∀ b o,h.get? b=some o→∃ o',h'.get? b=some o'∧d1h o' o
theorem DK.refl (h:Heap):DK h h:=fun _ o e=>⟨o,e,rfl,rfl⟩
theorem DK.trans {h1 h2 h3:Heap} (x:DK h1 h2) (y:DK h2 h3):DK h1 h3:=fun b o e=>let ⟨o1,e1,d1⟩:=x b o e;let ⟨o2,e2,d2⟩:=y b o1 e1;⟨o2,e2,d2.1.trans d1.1,d2.2.trans d1.2⟩
theorem DK.upd {h:Heap} {a:Addr} {f:Obj→Obj} (hf:∀ o:Obj,d1h (f o) o∧(o.isFreed=false→(f o).isFreed=false)):DK h (h.update a f):=fun b o e=>by
 by_cases q:b=a
 ·subst q
  exact⟨f o,Heap.get?_update_self _ e ((hf o).2 (Heap.get?_some_iff.mp e).2),(hf o).1⟩
 ·exact⟨o,(Heap.get?_update_ne _ _ _ _ q).trans e,rfl,rfl⟩
theorem e6e {α:Type} {M:Model} {Γ:PySem.Ctx} {t:Sem α} (c:a4q t):∀ {Q:α→Pos→Shared→Prop} {E:Value→Pos→Shared→Prop} {p:Pos} {s:Shared},
  Sem.wp M Γ t Q E p s→Sem.wp M Γ t (fun a p' s'=>Q a p' s'∧DK s.heap s'.heap) (fun e p' s'=>E e p' s'∧DK s.heap s'.heap) p s:=by
 induction c with
 | pure a=>intro Q E p s h;exact⟨h,.refl _⟩
 | raise e=>intro Q E p s h;exact⟨h,.refl _⟩
 | stop x=>intro Q E p s h;exact h
 | rule _ ih=>intro Q E p s h;exact ih () h
 | «at» _ ih=>intro Q E p s h;exact ih () h
 | load _ ih=>intro Q E p s h;obtain⟨o,e,h⟩:=h;exact⟨o,e,ih o h⟩
 | update hf _ ih =>
  intro Q E p s h
  obtain⟨e,h⟩:=h
  refine⟨e,?_⟩
  exact Sem.wp_mono M Γ _ (fun a p' s' ⟨q,d⟩=>⟨q,DK.trans (DK.upd hf) d⟩) (fun e p' s' ⟨q,d⟩=>⟨q,DK.trans (DK.upd hf) d⟩) _ _ (ih () h)
 | alloc _ ih=>intro Q E p s h;exact Sem.wp_mono M Γ _ (fun a p' s' ⟨q,d⟩=>⟨q,DK.trans (fun b o e=>⟨o,Heap.get?_push_of_some _ e,rfl,rfl⟩) d⟩) (fun e p' s' ⟨q,d⟩=>⟨q,DK.trans (fun b o e=>⟨o,Heap.get?_push_of_some _ e,rfl,rfl⟩) d⟩) _ _ (ih _ h)
 | point _ ih=>intro Q E p s h;exact ih () h
 | fresh _ ih=>intro Q E p s h;exact ih _ h
 | stack _ ih=>intro Q E p s h;exact ih _ h
theorem c2g {α:Type} {M:Model} {A:Around} {t:Sem α} {Q:α→Shared→Prop} {E:Value→Shared→Prop} {s:Shared} (c:a4q t) (h:wpAny M A t Q E s) :
  wpAny M A t (fun a s'=>Q a s'∧DK s.heap s'.heap) (fun e s'=>E e s'∧DK s.heap s'.heap) s:=fun Γ p hΓ=>e6e c (h Γ p hΓ)
theorem c1d (a:Addr):a4q (load a):=.load fun _=>.pure _
theorem c4l (v:Value):a4q (fieldsOf v):=by
 unfold fieldsOf
 cases v<;>first | exact .stop _ | skip
 refine a4q.bind (c1d _) fun o=>?_
 split<;>first | exact .stop _ | exact .pure _
theorem b2l (v:Value) (i:Nat):a4q (field v i):=by
 unfold field
 refine a4q.bind (c4l _) fun vs=>?_
 split<;>first | exact .stop _ | exact .pure _
theorem c1p {i:Nat} (x:Value) (hi:i≠2) (o:Obj):d1h (Obj.mapFields (·.setIfInBounds i x) o) o∧(o.isFreed=false→(Obj.mapFields (·.setIfInBounds i x) o).isFreed=false):=by
 obtain⟨c,d,da,sl⟩:=o
 cases da<;>first | exact⟨⟨rfl,rfl⟩,fun h=>h⟩ | exact⟨⟨rfl,Array.getElem?_setIfInBounds_ne hi⟩,fun h=>h⟩
theorem a9r (v:Value) (i:Nat) (x:Value) (hi:i≠2:=by decide):a4q (setField v i x):=by
 unfold setField
 cases v<;>first | exact .stop _ | skip
 show a4q (updateField _ _ _)
 unfold updateField
 refine a4q.bind (c1d _) fun o=>?_
 split
 ·split
  ·exact .update (c1p _ hi) fun _=>.pure _
  ·exact .stop _
 ·exact .stop _
theorem c1r (e:Value) (f:Option Addr):a4q (setFlight e f):=by
 unfold setFlight
 refine a4q.bind (b2l _ _) fun tb=>?_
 split
 ·exact a9r _ _ _
 ·exact .pure _
theorem d4e:a4q underTheClaimsCaller:=.stack fun _=>.pure _
theorem c3g:∀ l:List Env,a4q (readyFrames l)
 | []=>.pure _
 | env::outer=>by
  unfold readyFrames
  split
  ·refine a4q.bind (c1d _) fun o=>?_
   split
   ·exact .pure _
   ·refine a4q.bind ?_ fun imp=>a4q.bind ?_ fun back=>a4q.bind ?_ fun _=>c3g outer
    ·unfold behindIsImport
     split
     ·exact .pure _
     ·split
      ·exact .pure _
      ·exact a4q.bind (b2l _ _) fun _=>.pure _
    ·unfold keptBack
     split
     ·split
      ·exact .pure _
      ·exact a4q.bind d4e fun _=>.pure _
     ·exact .pure _
    ·refine .update (fun o=>⟨⟨rfl,rfl⟩,fun h=>?_⟩) fun _=>.pure _
     obtain⟨c,d,da,sl⟩:=o
     cases da<;>exact h
  ·exact .stop _
theorem c6u (env:Env):a4q (PySem.frameOf env):=by
 unfold PySem.frameOf
 refine a4q.bind (.stack fun _=>.pure _) fun l=>a4q.bind ?_ fun r=>?_
 ·unfold frameObject
  split
  ·exact .pure _
  ·exact a4q.bind (c3g _) fun _=>.pure _
 ·split
  ·exact .pure _
  ·exact .stop _
theorem c7s (ty:String) (da:Data):a4q (newObjAsIs (.type ty) da):=.alloc fun _=>.pure _
theorem c1m (ty:String) (vs:List Value):a4q (newFields ty vs):=by
 unfold newFields newObj
 dsimp only
 split
 ·exact a4q.bind (.stop _) fun _=>c7s _ _
 ·exact c7s _ _
theorem c4q (a b c d e:Value) (pl:List Value):a4q (EntryCells.newEntry a b c d e pl):=c1m _ _
theorem d3x (f:Addr) (b:Bool):a4q (entryPlaceOf f b):=by
 unfold entryPlaceOf
 refine a4q.bind (.stack fun _=>.pure _) fun acts=>?_
 split<;>exact .pure _
theorem c1s (e:Value) (env:Env):a4q (noteFrame e env):=by
 unfold noteFrame
 have last:∀ (f:Addr) (head:Value),a4q (do setField e 1 (← EntryCells.newEntry head (← PySem.frameOf env) .none (rawInt f) .none (← entryPlaceOf f (head != .none)))):=fun f head =>
  a4q.bind (c6u _) fun a=>a4q.bind (d3x _ _) fun pl=>a4q.bind (c4q _ _ _ _ _ _) fun b=>a9r _ _ _
 split
 ·refine a4q.bind (b2l _ _) fun head=>?_
  split
  ·refine a4q.bind (b2l _ _) fun x=>?_
   split
   ·exact .pure _
   ·exact a4q.bind (a9r _ _ _) fun _=>last _ _
  ·exact last _ _
 ·exact .stop _
theorem b6l (e:Value) (env:Env):a4q (leaving env e):=a4q.bind (c1s _ _) fun _=>c1r _ _
end My
namespace My
open PySem PySem.Spec PyProof.Rows L2
def CXW (P:Program) (w:World):CXT:=fun outer H s E e s' =>
 ∃ (ea:Addr) (cls a0:Value) (B:Heap) (H':Hp) (d:Option Addr),e=.ref ea∧s'.os=s.os∧AllBare s'.gens∧Un (frs outer) [] H H' s.heap s'.heap∧HOk P w H' s'.heap∧Heap.FlyingW B outer ea cls a0 s'.heap ∧
  (∀ b o,s'.heap.get? b=some o→(s.heap.get? b≠none∨H' b≠none)→b ∉ frs outer→B.get? b=some o)∧H' ea=none∧s.heap.get? ea=none∧(∃ o,s'.heap.get? ea=some o∧o.dict=d∧(e9b o=some .none∨∀ d',E cls d' H'))∧E cls d H'
section
variable {X:Cx} {pins:List (Addr×Obj)} {σ:L2.St} {H H':Hp} {s:Shared} {h1 h2 B:Heap}
theorem e4w (I:Inv X pins σ H s):∀ b∈frs X.stack,∃ o,s.heap.get? b=some o:=fun b hb=>let ⟨_,o,e,_⟩:=I.stack.mem hb;⟨o,e⟩
theorem f0c (I:Inv X pins σ H s) (un:Un (frs X.stack) [] H H' s.heap h1) (hok:HOk X.prog X.w H' h1) (bk:∀ b o,h1.get? b=some o→(s.heap.get? b≠none∨H' b≠none)→b ∉ frs X.stack→B.get? b=some o)
  (hst:∀ b o,B.get? b=some o→h2.get? b=some o) (hsm:h1.UpToSlots h2) (hfn:∀ b∈frs X.stack,∃ o,h1.get? b=some o∧∀ vs,o.data≠.fields vs) :
  Un (frs X.stack) [] H H' s.heap h2∧HOk X.prog X.w H' h2∧(∀ b o,h2.get? b=some o→(s.heap.get? b≠none∨H' b≠none)→b ∉ frs X.stack→B.get? b=some o)∧∀ b∈frs X.stack,H' b=none:=by
 have nf:∀ b∈frs X.stack,H' b=none:=fun b hb=>by
  obtain⟨o,e⟩:=e4w I b hb
  exact un.free b o e (I.stkFree b hb) (by simp)
 have keep:∀ b o,h1.get? b=some o→(s.heap.get? b≠none∨H' b≠none)→b ∉ frs X.stack→h2.get? b=some o:=fun b o e k n=>hst b o (bk b o e k n)
 refine⟨⟨fun b o e n hb _=>?_,fun b o e n hb _=>?_,un.free,fun b o e _=>?_,un.tups,un.frzs,un.tbls⟩,fun a o e=>?_,fun b o e k n=>?_,nf⟩
 ·exact keep b o (un.keep b o e n hb (by simp)) (.inl (by rw[e];simp)) hb
 ·obtain⟨sl,e1⟩:=un.slot b o e n hb (by simp)
  obtain⟨o',e2,hd⟩:=hfn b hb
  rw[e1] at e2
  cases e2
  obtain⟨sl',e3⟩:=hsm b _ e1 hd
  exact⟨sl',e3⟩
 ·obtain⟨o',e1⟩:=un.there b o e (by simp)
  by_cases hb:b∈frs X.stack
  ·obtain⟨o2,e2,hd⟩:=hfn b hb
   obtain⟨sl',e3⟩:=hsm b _ e2 hd
   exact⟨_,e3⟩
  ·exact⟨o',keep b o' e1 (.inl (by rw[e];simp)) hb⟩
 ·refine(hok a o e).stay (fun b u hb q=>keep b u q (.inr ?_) (fun z=>?_)) (fun _ q=>q) fun _ _ q=>q
  ·rcases hb with z | z
   ·rw[z,e];simp
   ·rw[z];simp
  ·have q':=nf b z
   rcases hb with z | z
   ·rw[z,e] at q';cases q'
   ·rw[z] at q';cases q'
 ·have there1:∃ o',h1.get? b=some o':=by
   rcases k with k | k
   ·cases q:s.heap.get? b with
    | none=>exact(k q).elim
    | some o0=>exact un.there b o0 q (by simp)
   ·cases q:H' b with
    | none=>exact(k q).elim
    | some u=>exact b0f (hok b u q)
  obtain⟨o',e1⟩:=there1
  have e2:=bk b o' e1 k n
  have e3:=hst b o' e2
  rw[e] at e3
  cases e3
  exact e2
end
section
variable {P:Program} {w:World} {K:PySem.W.Frag} {mg:Str→Option Value} {base:Heap} {N:List Str} {qual:Str} {scope:Scope} {f:Addr} {cd:Value} {A:Around} {outer:List Env} {s₀:Shared} {H₀:Hp} {E:XK}
 {pins:List (Addr×Obj)} {σ:L2.St} {H H':Hp} {s:Shared}
theorem c6o {ea:Addr} {d:Option Addr} {cls a0:Value} {B h1 h2:Heap} {s1:Shared} (I:Inv (b7m (CXW P w) P w K mg base N qual scope f cd A outer s₀ H₀ E) pins σ H s) (hos:s1.os=s.os) (hb:AllBare s1.gens)
  (un:Un (frs (envOfC qual scope s₀.heap.objs.size f cd::outer)) [] H H' s.heap h1) (hok:HOk P w H' h1)
  (bk:∀ b o,h1.get? b=some o→(s.heap.get? b≠none∨H' b≠none)→b ∉ frs (envOfC qual scope s₀.heap.objs.size f cd::outer)→B.get? b=some o)
  (fl:Heap.FlyingW B outer ea cls a0 h2) (hsm:h1.UpToSlots h2) (hfn:∀ b∈frs (envOfC qual scope s₀.heap.objs.size f cd::outer),∃ o,h1.get? b=some o∧∀ vs,o.data≠.fields vs)
  (n1:H' ea=none) (n2:s.heap.get? ea=none) (dd:∃ o,h2.get? ea=some o∧o.dict=d∧(e9b o=some .none∨∀ d',E cls d' H')) (hE:E cls d H'):CXW P w outer H₀ s₀ E (.ref ea) {s1 with heap:=h2}:=by
 obtain⟨un2,hok2,bk2,nf⟩:=f0c I un hok bk fl.1 hsm hfn
 have sub:∀ b∈frs outer,b∈frs (envOfC qual scope s₀.heap.objs.size f cd::outer):=fun b hb=>by
  obtain⟨env,he,hf⟩:=List.mem_filterMap.mp hb
  exact List.mem_filterMap.mpr ⟨env,List.mem_cons_of_mem _ he,hf⟩
 have notin:∀ b o,s₀.heap.get? b=some o→b ∉ frs outer→b ∉ frs (envOfC qual scope s₀.heap.objs.size f cd::outer):=fun b o e hb hm=>by
  rcases List.mem_cons.mp (I.stkSub b hm) with z | z
  ·exact absurd (Nat.lt_of_lt_of_le (Heap.lt_size e) (z ▸ I.ok.above)) (Nat.lt_irrefl _)
  ·exact hb z
 refine⟨ea,cls,a0,B,H',d,rfl,hos.trans I.os,hb,⟨fun b o e n hb _=>?_,fun b o e n hb _=>?_,fun b o e n _=>?_,fun b o e _=>?_,fun b xs e=>un2.tups b xs (I.base.tups b xs e),fun b o u e=>un2.frzs b o u (I.base.frzs b o u e),fun b ps e=>?_⟩,hok2,fl,fun b o e k hb=>?_,n1,?_,dd,hE⟩
 ·exact un2.keep b o (I.base.keep b o e n hb (by simp[b7m])) (I.base.free b o e n (by simp[b7m])) (notin b o e hb) (by simp)
 ·obtain⟨sl,e1⟩:=I.base.slot b o e n hb (by simp[b7m])
  obtain⟨sl',e2⟩:=un2.slot b _ e1 (I.base.free b o e n (by simp[b7m])) (sub b hb) (by simp)
  exact⟨sl',e2⟩
 ·obtain⟨o',e1⟩:=I.base.there b o e (by simp[b7m])
  exact un2.free b o' e1 (I.base.free b o e n (by simp[b7m])) (by simp)
 ·obtain⟨o',e1⟩:=I.base.there b o e (by simp[b7m])
  exact un2.there b o' e1 (by simp)
 ·obtain⟨m1,e1⟩:=I.base.tbls b ps e
  obtain⟨m2,e2⟩:=un2.tbls b _ e1
  exact⟨m1++m2,by rw[e2,Array.append_assoc]⟩
 ·rcases k with k | k
  ·cases q:s₀.heap.get? b with
   | none=>exact(k q).elim
   | some o0 =>
    obtain⟨o',e1⟩:=I.base.there b o0 q (by simp[b7m])
    exact bk2 b o e (.inl (by rw[e1];simp)) (notin b o0 q hb)
  ·exact bk2 b o e (.inr k) fun z=>k (nf b z)
 ·cases q:s₀.heap.get? ea with
  | none=>rfl
  | some o0 =>
   obtain⟨o',e1⟩:=I.base.there ea o0 q (by simp[b7m])
   rw[n2] at e1
   cases e1
theorem c6h {ea:Addr} {cls:Value} {vs:List Value} {h1:Heap} (I:Inv (b7m (CXW P w) P w K mg base N qual scope f cd A outer s₀ H₀ E) pins σ H s) (hm:Heap.MadeExcOf s.heap h1 ea cls vs) (hE:E cls none H) :
  (b7m (CXW P w) P w K mg base N qual scope f cd A outer s₀ H₀ E).xe (.ref ea) {s with heap:=h1}:=by
 have hin:∀ env∈(envOfC qual scope s₀.heap.objs.size f cd::outer),∀ b,env.frame=some b→b∈frs (envOfC qual scope s₀.heap.objs.size f cd::outer):=fun env he b hb=>List.mem_filterMap.mpr ⟨env,he,hb⟩
 have hl:=PySem.W.funFrames_hide I.stack hin
 refine wpAny_mono (c2g (b6l _ _) (wpAny_leaves_madeW (Q:=fun _ s'=>∃ h2 t,s'={s with heap:=h2}∧Heap.FlyingW (PySem.W.hideAll s.heap (frs (envOfC qual scope s₀.heap.objs.size f cd::outer))) outer ea cls (.ref t) h2∧h1.UpToSlots h2)
  (base:=PySem.W.hideAll s.heap (frs (envOfC qual scope s₀.heap.objs.size f cd::outer))) (h:=s.heap) I.ok.frames rfl (fun b o q=>PySem.W.of_hideAll _ q) hl hm fun h2 t x1 _ _ x4=>⟨h2,t,rfl,x1,x4⟩)) (fun _ s' ⟨⟨h2,t,e,x1,x4⟩,dk⟩=>?_) fun _ _ z=>z.1
 subst e
 obtain⟨t',he',_⟩:=hm.there
 refine c6o (s1:={s with heap:=h1}) I rfl I.bare (Un.kept fun b u q=>hm.keeps b u q) (I.hok.kept fun b u q=>hm.keeps b u q) (fun b o e k n=>?_) x1 x4 (fun b hb=>?_) (a9c I hm.new) hm.new (let ⟨o',q1,q2⟩:=dk ea _ he';⟨o',q1,q2.1,.inl (q2.2.trans rfl)⟩) hE
 ·have e1:∃ o',s.heap.get? b=some o':=by
   rcases k with k | k
   ·cases q:s.heap.get? b with
    | none=>exact(k q).elim
    | some o0=>exact⟨o0,rfl⟩
   ·cases q:H b with
    | none=>exact(k q).elim
    | some u=>exact b0f (I.hok b u q)
  obtain⟨o',e1⟩:=e1
  have e2:=hm.keeps b o' e1
  rw[e] at e2
  cases e2
  exact PySem.W.hideAll_get _ e1 n
 ·obtain⟨_,o,e,hd⟩:=I.stack.mem hb
  exact⟨o,hm.keeps b o e,hd⟩
theorem e0i {E':XK} (hE:∀ cls d H',E' cls d H'→E cls d H'):c8o (CXW P w) (b7m (CXW P w) P w K mg base N qual scope f cd A outer s₀ H₀ E) E':=by
 intro pins σ H s e s' I h
 obtain⟨ea,cls,a0,B,H',d,rfl,os,bare,un,hok,fl,bk,n1,n2,⟨o,ho,hd⟩,hw⟩:=h
 refine wpAny_mono (c2g (b6l _ _) (wpAny_leaves_onW (Q:=fun _ s''=>∃ h2,s''={s' with heap:=h2}∧Heap.FlyingW B outer ea cls a0 h2∧s'.heap.UpToSlots h2) I.ok.frames rfl fl fun h2 x1 x2=>⟨h2,rfl,x1,x2⟩)) (fun _ s'' ⟨⟨h2,e,x1,x2⟩,dk⟩=>?_) fun _ _ z=>z.1
 subst e
 obtain⟨o2,ho2,hd2⟩:=dk ea o ho
 exact c6o (s1:=s') I os bare un hok bk x1 x2 (fun b hb=>(fl.2.2.1.mem hb).2) n1 n2 ⟨o2,ho2,hd2.1.trans hd.1,hd.2.imp (fun q=>hd2.2.trans q) fun q d'=>hE _ _ _ (q d')⟩ (hE _ _ _ hw)
theorem d8e {x qual:Str} {st:Stmt} {f:Addr} {fd:FuncData} {N ps:List Str} {k:Nat} {sp:Sp} (F:Fun K x qual st f fd) (S:a0r N ps (a0f st)) (len:∀ vs H Q E,sp vs H Q E→vs.length=ps.length)
  (hbody:∀ (cdv:Value) (A:Around) (outer:List Env) (s:Shared) (H:Hp) (vs:List V) (Q:VK) (E:XK),Room k (A.deeper (envOfC qual (a0f st) s.heap.objs.size f cdv))→sp vs H Q E →
   ∃ t,PSs (b7m (CXW P w) P w K mg base N qual (a0f st) f cdv A outer s H E) (a0m st) t∧t {nx:=fun _ H'=>Q .non H',rt:=Q} (c1o N vs) H):a3y P w K mg base (CXW P w) (k+1) f fd ps sp:=by
 obtain⟨oc,od,kV,doc,pm,an,cdv,ct,osl,rfl,lk,hcd⟩:=F.ex
 exact e3z lk hcd S len fun A outer s H vs Q E hr hsp=>hbody cdv A outer s H vs Q E hr hsp
structure f0x (K:PySem.W.Frag) (mg:Str→Option Value) (x:Str) (C:Addr):Prop where
 bound:mg x=some (.ref C)
 ok:PySem.W.excIn K C [.type "ValueError",.type "Exception",.type "BaseException",.type "object"] "ValueError.__new__"=true
end
end My
namespace My
open PySem PySem.Spec PyProof.Rows L2
theorem e3j {K:PySem.W.Frag} {h:Heap} {C:Addr} {bmB:List Value} {nid:String} (X:K.In h) (q:PySem.W.excIn K C bmB nid=true) :
  ∃ bm N nm qn bs hd sn sub ab col dd k0 k1 k2 k3 k5,∃ mN:Str→Option Value,h.get? C=some (excClassObj nm qn C N bs bm hd sn sub ab col dd k0 k1 k2 k3 k5 nid)∧h.Ns N mN∧mN "__init__"=none∧OwnTail h bmB bm:=by
 unfold PySem.W.excIn at q
 split at q
 ·next dd cdat slots lk =>
  split at q
  ·next C2 c6d a0 a1 a2 a3 n a5 em es =>
   simp only [Bool.and_eq_true,beq_iff_eq,Bool.not_eq_true'] at q
   obtain⟨⟨⟨⟨⟨e1,e2⟩,e3⟩,e4⟩,e5⟩,e6⟩:=q
   subst e1 e2
   obtain⟨c1,c2,c3,c4,c5,c6,c7,c8,c9,c10,c11⟩:=cdat
   dsimp only at em e3 e5 e6
   subst em e3
   obtain⟨lst⟩:=slots
   have el:lst=[a0,a1,a2,a3,some (.builtin n),a5]:=es
   subst el
   refine⟨c6d,_,_,_,_,_,_,_,_,_,dd,a0,a1,a2,a3,a5,h.nsMap c4,X _ _ lk,?_,?_,PySem.W.tail_of_in X e4⟩
   ·exact .of_isNs (PySem.W.isNs_of_in X e5)
   ·exact PySem.W.nsMap_none_of_in X e5 e6
  ·cases q
 ·cases q
section
variable {P:Program} {w:World} {K:PySem.W.Frag} {mg:Str→Option Value} {base:Heap} {N:List Str} {qual:Str} {scope:Scope} {f:Addr} {cd:Value} {A:Around} {outer:List Env} {s₀:Shared} {H₀:Hp} {E:XK}
theorem e0f {x:Str} {C:Addr} {e₀:Expr} {te:TE} {np cpos pos:Pos} (T:f0x K mg x C) (hg:Gl (b7m (CXW P w) P w K mg base N qual scope f cd A outer s₀ H₀ E) x)
  (he:PE (b7m (CXW P w) P w K mg base N qual scope f cd A outer s₀ H₀ E) e₀ te) (hd:(x == ("__debug__":Str))=false:=by decide)
  (ht:backTo cpos (starEach [e₀] (envOfC qual scope s₀.heap.objs.size f cd))=[(false,eval e₀ (envOfC qual scope s₀.heap.objs.size f cd))]:=by rfl) :
  PS (b7m (CXW P w) P w K mg base N qual scope f cd A outer s₀ H₀ E) (.Raise (some (.Call (.Name x np) [e₀] [] cpos)) none pos) (fun _ σ H=>te σ H fun _ H1=>E (.ref C) none H1):=by
 constructor;intro pins s σ H D I h
 obtain⟨bm,Nn,nm,qn,bs,hdc,sn,sub,ab,col,dd,k0,k1,k2,k3,k5,mN,hC,hN,hni,TL⟩:=e3j I.ok.mod.kin T.ok
 refine wpAny_Raise_call_subT (C:=C) (nm:=nm) (q:=qn) (N:=Nn) (bs:=bs) (bm:=bm) (hdct:=hdc) (sn:=sn) (sub:=sub) (ab:=ab) (col:=col) (dd:=dd) (k0:=k0) (k1:=k1) (k2:=k2) (k3:=k3) (k5:=k5)
  PySem.F.excBase_ValueError (mN:=mN) (TL.hasType PySem.F.excBase_ValueError.hasBase) (I.ok.hd rfl) ?_ hni (c5n I hg T.bound ⟨rfl,?_⟩ hd)
 ·show (backTo cpos (starEach [e₀] (envOfC qual scope s₀.heap.objs.size f cd))).any (·.1)=false
  rw[ht]
  rfl
 ·show wpAny _ _ (evalArgs (.ref C) true (backTo cpos (starEach [e₀] (envOfC qual scope s₀.heap.objs.size f cd))) []) _ _ _
  rw[ht]
  refine Calls.evalArgs_plain (Calls.spliced_cons (thn (he pins s σ H _ I h) fun u s1 ⟨v,H1,I1,r1,q1⟩=>Calls.spliced_nil ?_))
  refine⟨rfl,(by show 1≤sizeLine;decide),I1.bk _ _ hC,hN.keeps I1.bk,TL.keeps I1.bk,fun h' ea hm=>c6h I1 hm q1⟩
end
end My
namespace My
open PySem PySem.Spec PyProof.Rows L2
section
variable {X:Cx}
theorem e4b {pins:List (Addr×Obj)} {σ:L2.St} {H:Hp} {s:Shared} {D:Addr} {h':Heap} {o:HO} {t':Nat} (I:Inv X pins σ H s) (k:∀ b u,s.heap.get? b=some u→h'.get? b=some u) (hD:s.heap.get? D=none)
  (new:a3q X.prog X.w (upd H D o) h' D o):Inv X pins σ (upd H D o) {s with heap:=h',toks:=t'}:=by
 have nD:=a9c I hD
 have neD:∀ b u,s.heap.get? b=some u→b≠D:=fun b u e z=>by rw[z,hD] at e;cases e
 refine I.un ⟨fun b u q _ _ _=>k b u q,fun b u q _ _ _=>⟨u.slots,k b u q⟩,fun b u q n _=>by rw[a0h (neD b u q)];exact n,fun b u q _=>⟨u,k b u q⟩,fun b xs q=>by rw[a0h (a0y q nD)];exact q,
  fun b u xs q=>by rw[a0h (a0y q nD)];exact q,fun b ps q=>⟨#[],by rw[a0h (a0y q nD),q];simp⟩⟩ fun b u e=>?_
 by_cases hb:b=D
 ·subst hb
  rw[a0b] at e
  cases e
  exact new
 ·rw[a0h hb] at e
  exact(I.hok b u e).stay (fun c v _ q=>k c v q) (fun c q=>by rw[a0h (a0y q nD)];exact q) fun c xs q=>by rw[a0h (a0y q nD)];exact q
theorem c8v (hc:X.calm=true):b9p X (.builtin "all") (fun xs H Q=>∃ (p:Addr) (bs:List Bool),xs=[V.ref p]∧SqL X.K H p (bs.map V.bl)∧Q (.bl (bs.all id)) H):=by
 intro pins s σ H xs us Q I r h
 obtain⟨p,bs,rfl,hx,q⟩:=h
 obtain⟨u,rfl,ru⟩:=c4u r
 cases ru
 obtain⟨its,rv,pl,_⟩:=I.list hx
 have hlen:=rv.length
 rw[List.length_map] at hlen
 refine call_all_walk (wpAny_pyIter_list pl.isList ?_)
 have hne:p≠s.heap.objs.size:=Nat.ne_of_lt (by obtain⟨o,_,e,_⟩:=pl;exact Heap.lt_size e)
 refine⟨s.heap.objs.size,[s.heap.objs.size,p],[s.heap.objs.size],its.toArray.size,_,_,fun i=>bs.getD i true,rfl,Walks.list (A:=X.A.in1) (I.ok.hd hc) s.heap.objs.size p hne its.toArray,⟨⟨_,Heap.get?_push_size _ rfl,rfl,rfl⟩,pl.isList.push _⟩,fun i v s2 Q2 E2 hP hQ=>?_,fun h' tk hk=>?_⟩
 ·have hP':its[i]?=some v:=by simpa using hP
  obtain⟨xv,hx1,rx⟩:=b4w rv hP'
  rw[List.getElem?_map] at hx1
  cases hb:bs[i]? with
  | none=>rw[hb] at hx1;cases hx1
  | some b =>
   rw[hb] at hx1
   have e:V.bl b=xv:=Option.some.inj hx1
   subst e
   cases rx
   have e2:bs.getD i true=b:=by rw[List.getD_eq_getElem?_getD,hb];rfl
   have hQ':Q2 (bs.getD i true) s2:=hQ
   rw[e2] at hQ'
   exact wpAny_truthy_bool hQ'
 ·have e:(List.range its.toArray.size).all (fun i=>bs.getD i true)=bs.all id:=by
   rw[List.size_toArray,←hlen,Bool.eq_iff_iff,List.all_eq_true,List.all_eq_true]
   constructor
   ·intro g b hb
    obtain⟨i,hi,e⟩:=List.mem_iff_getElem.mp hb
    have:=g i (List.mem_range.mpr hi)
    rw[List.getD_eq_getElem?_getD,List.getElem?_eq_getElem hi,e] at this
    exact this
   ·intro g i hi
    have hi':=List.mem_range.mp hi
    rw[List.getD_eq_getElem?_getD,List.getElem?_eq_getElem hi']
    exact g _ (List.getElem_mem hi')
  rw[e]
  refine⟨.bl (bs.all id),H,I.kept (t':=tk) fun b u eu=>hk b u (fun z=>?_) (Heap.get?_push_of_some _ eu),rfl,q⟩
  have z':b=s.heap.objs.size:=by simpa using z
  exact absurd (Heap.lt_size eu) (by rw[z'];exact Nat.lt_irrefl _)
end
end My
namespace My
open PySem PySem.Spec PyProof.Rows L2 Builtin Builtin.ObjectAttr Builtin.Getset_descriptor
def e7o (a C:Addr) (h:Heap):Prop:=∃ o,h.get? a=some o∧o.cls=.ref C
end My
namespace My
open PySem PySem.Spec PyProof.Rows L2
section
variable {X:Cx} {pins:List (Addr×Obj)} {σ:L2.St} {H:Hp} {s:Shared}
theorem d4v {s1:Shared} {H1:Hp} {a:Addr} {o:HO} (I1:Inv X pins σ H1 s1) (I:Inv X pins σ H s) (hn:s1.heap.get? a=none) (ha:H a=none) (ok:a3q X.prog X.w (upd H a o) s.heap a o):Inv X pins σ (upd H a o) s:=by
 have ne:∀ b u,s1.heap.get? b=some u→b≠a:=fun b u e z=>by rw[z,hn] at e;cases e
 refine⟨I.ok,I.os,I.bare,⟨I.base.keep,I.base.slot,fun b u e n hx=>?_,I.base.there,fun b xs e=>?_,fun b u v e=>?_,fun b ps e=>?_⟩,I.loc,I.cell,?_,fun x c e=>?_,fun p hp=>?_,fun b u e=>?_,I.len⟩
 ·obtain⟨u',e1⟩:=I1.base.there b u e hx
  rw[a0h (ne b u' e1)]
  exact I.base.free b u e n hx
 ·have q:=I.base.tups b xs e
  rw[a0h (a0y q ha)]
  exact q
 ·have q:=I.base.frzs b u v e
  rw[a0h (a0y q ha)]
  exact q
 ·obtain⟨more,q⟩:=I.base.tbls b ps e
  exact⟨more,by rw[a0h (a0y q ha)];exact q⟩
 ·obtain⟨m0,⟨u,_,_,hu,_⟩,_⟩:=I1.loc
  rw[a0h (ne _ u hu)]
  exact I.free
 ·obtain⟨v,u,hu,_⟩:=I1.cell x c e
  rw[a0h (ne c u hu)]
  exact I.freeC x c e
 ·obtain⟨e,n,n2,nf,d⟩:=I.pin p hp
  obtain⟨e1,_⟩:=I1.pin p hp
  exact⟨e,by rw[a0h (ne _ _ e1)];exact n,n2,nf,d⟩
 ·by_cases hb:b=a
  ·subst hb
   rw[a0b] at e
   cases e
   exact ok
  ·rw[a0h hb] at e
   refine(I.hok b u e).stay (fun c v hc q=>q) (fun c q=>?_) fun c xs q=>?_
   ·rw[a0h (a0y q ha)];exact q
   ·rw[a0h (a0y q ha)];exact q
def d4r (a C:Addr) (d:Option Addr) (h:Heap):Prop:=∃ o,h.get? a=some o∧o.cls=.ref C∧PySem.W.notCls o=true∧o.dict=d
end
end My
namespace My
open PySem PySem.Spec PyProof.Rows L2
def Itf (ys:List V):It:=⟨fun i _=>i < ys.length,fun i H x H'=>H'=H∧ys[i]?=some x,fun i _=>ys.length≤i⟩
abbrev b6o (y:Str):List V:=y.cps.toList.map fun c=>V.str ⟨#[c]⟩
theorem c2w (y:Str):(b6o y).length=y.length:=by simp[b6o,Str.length]
theorem d3c {y:Str} {i:Nat}:(b6o y)[i]?=(y.cps[i]?).map fun c=>V.str ⟨#[c]⟩:=by
 rw[List.getElem?_map,Array.getElem?_toList]
abbrev c7o (y:Str):String:=if y.cps.all (· < 128) then "str_ascii_iterator" else "str_iterator"
abbrev d1w (y:Str) (t:Tok):Obj:={cls:=.type (c7o y),data:=.fields #[.str y t,.int 0 0]}
theorem d0p {prog:Program} {w:World} {A:Around} {E:Value→Shared→Prop} {s:Shared} {x:Str} {t:Tok} {Q:Value→Shared→Prop} (hQ:Q (.ref s.heap.objs.size) {s with heap:=s.heap.push (d1w x t)}):wpAny (model prog w) A (pyIter (.str x t)) Q E s:=by
 cases ha:x.cps.all (· < 128) with
 | true =>
  have e:c7o x="str_ascii_iterator":=if_pos ha
  unfold d1w at hQ
  rw[e] at hQ
  exact wpAny_pyIter_ascii ha hQ
 | false =>
  have e:c7o x="str_iterator":=if_neg (by rw[ha];decide)
  unfold d1w at hQ
  rw[e] at hQ
  exact wpAny_pyIter_wide ha hQ
structure Src (P:Program) (w:World) (K:PySem.W.Frag) (J:It) (it:Addr) (st:Nat→Heap→Prop):Prop where
 obj:∀ i h,st i h→∃ o,h.get? it=some o∧∀ v,o.data≠.cell v
 keep:∀ i h h',st i h→(∀ o,h.get? it=some o→h'.get? it=some o)→st i h'
 item:∀ (X:Cx),X.prog=P→X.w=w→X.K=K→∀ (A:Around) (i:Nat) (pins:List (Addr×Obj)) (s:Shared) (σ:L2.St) (H:Hp) (Q:Value→Shared→Prop) (E:Value→Shared→Prop),Inv X pins σ H s→st i s.heap→J.go i H →
  (∀ x u h' tk,a3k x u→J.yld i H x H→st (i+1) h'→Heap.SameBut it s.heap h'→Q u {s with heap:=h',toks:=tk})→wpAny (model P w) A (Builtin.SmallTypes.nextOf (.ref it)) Q E s
 done:∀ (X:Cx),X.prog=P→X.w=w→X.K=K→∀ (A:Around),A.handled=none→∀ (i:Nat) (pins:List (Addr×Obj)) (s:Shared) (σ:L2.St) (H:Hp) (Q:Value→Shared→Prop) (E:Value→Shared→Prop),Inv X pins σ H s→st i s.heap→J.stop i H →
  (∀ h' e,Heap.ExtBut it s.heap h'→(∃ o,h'.get? e=some o∧o.cls=.type "StopIteration")→E (.ref e) {s with heap:=h'})→wpAny (model P w) A (Builtin.SmallTypes.nextOf (.ref it)) Q E s
section
variable {P:Program} {w:World} {K:PySem.W.Frag}
theorem e2c (a it:Addr):Src P w K (Itl K a) it (fun i h=>h.IsListIter it a i) where
 obj:=fun i h st=>by
  obtain⟨o,e,c,d⟩:=st
  exact⟨o,e,fun v z=>by rw[d] at z;cases z⟩
 keep:=fun i h h' st k=>st.at fun o e=>k o e
 item:=by
  intro X hP hw hK A i pins s σ H Q E I st hg hQ
  subst hP hw hK
  obtain⟨xs,x,hq,hx⟩:=hg
  obtain⟨its,rv,p,hz⟩:=I.list hq
  obtain⟨u,hu,ru⟩:=rv.get hx
  exact wpAny_nextOf_list_item st p.isList (x:=u) (by simpa using hu) fun h' st' sb=>hQ x u h' s.toks ru ⟨rfl,fun ys hy=>by rw[I.list_inj hy hq];exact hx⟩ st' sb
 done:=by
  intro X hP hw hK A hA i pins s σ H Q E I st hg hE
  subst hP hw hK
  obtain⟨xs,hq,hx⟩:=hg
  obtain⟨its,rv,p,hz⟩:=I.list hq
  have hl:=rv.length
  exact wpAny_nextOf_list_end hA st p.isList (by simp;omega) hE
theorem e4h (y:Str) (t:Tok) (it:Addr):Src P w K (Itf (b6o y)) it (fun i h=>h.IsStrIter it (c7o y) y t i) where
 obj:=fun i h st=>by
  obtain⟨o,e,c,d⟩:=st
  exact⟨o,e,fun v z=>by rw[d] at z;cases z⟩
 keep:=fun i h h' st k=>let ⟨o,ho,r⟩:=st;⟨o,k o ho,r⟩
 item:=by
  intro X hP hw hK A i pins s σ H Q E I st hg hQ
  subst hP hw hK
  have hi:i < y.cps.size:=by have:i < (b6o y).length:=hg;rw[c2w] at this;exact this
  have yl:(Itf (b6o y)).yld i H (.str ⟨#[y.cps[i]]⟩) H:=⟨rfl,by rw[d3c,Array.getElem?_eq_getElem hi];rfl⟩
  cases ha:y.cps.all (· < 128) with
  | true =>
   have e:c7o y="str_ascii_iterator":=if_pos ha
   rw[e] at st hQ
   exact wpAny_nextOf_ascii_item st (c:=y.cps[i]) (by simp[hi]) fun h' st' sb=>hQ (.str ⟨#[y.cps[i]]⟩) _ h' _ ⟨_,rfl⟩ yl st' sb
  | false =>
   have e:c7o y="str_iterator":=if_neg (by rw[ha];decide)
   rw[e] at st hQ
   exact wpAny_nextOf_wide_item st (c:=y.cps[i]) (by simp[hi]) fun h' st' sb=>hQ (.str ⟨#[y.cps[i]]⟩) _ h' _ ⟨_,rfl⟩ yl st' sb
 done:=by
  intro X hP hw hK A hA i pins s σ H Q E I st hg hE
  subst hP hw hK
  have hi:y.cps[i]?=none:=by have:(b6o y).length≤i:=hg;rw[c2w] at this;exact Array.getElem?_eq_none this
  cases ha:y.cps.all (· < 128) with
  | true =>
   have e:c7o y="str_ascii_iterator":=if_pos ha
   rw[e] at st
   exact wpAny_nextOf_ascii_end hA st hi hE
  | false =>
   have e:c7o y="str_iterator":=if_neg (by rw[ha];decide)
   rw[e] at st
   exact wpAny_nextOf_wide_end hA st hi hE
theorem b6p {A:Around} {s:Shared} {E:Value→Shared→Prop} {it l:Addr} {i:Nat} {its:Array Value} {Q:Value→Shared→Prop} (st:s.heap.IsTupleIter it l i) (tp:s.heap.IsTuple l its)
  (hs:∀ x g,its[i]?=some x→g.IsTupleIter it l (i+1)→Heap.SameBut it s.heap g→Q x {s with heap:=g})
  (hn:its[i]?=none→A.handled=none∧∀ g e,Heap.ExtBut it s.heap g→(∃ o,g.get? e=some o∧o.cls=.type "StopIteration")→E (.ref e) {s with heap:=g}) :
  wpAny (model P w) A (Builtin.SmallTypes.nextOf (.ref it)) Q E s:=by
 obtain⟨oi,ei,ci,di⟩:=id st
 obtain⟨ot,et,_,nt,dt⟩:=id tp
 have new:∀ k v,Heap.SameBut it s.heap (s.heap.update it (Obj.mapFields (·.setIfInBounds k v))):=fun _ _=>Heap.SameBut.update ..
 refine wpAny_bind (wpAny_callSpecial?_slot (name:=Str.ofString "__next__") st.typeIs F.slot_tuple_iterator_next (wpAny_call_entry F.slot_tuple_iterator_next st.typeIs F.entry_tuple_iterator_next ?_ (F.args_tuple_iterator_next_1 _)))
 refine wpAny_bind (wpAny_of_eq (a:=(Value.ref it,[])) rfl (wpAny_bind (wpAny_field ei di (x:=.ref l) rfl ?_)))
 have nn:(Value.ref l == Value.none)=false:=rfl
 dsimp only
 rw[nn,if_neg Bool.false_ne_true]
 refine wpAny_bind (wpAny_field ei di (x:=.int i 0) rfl (wpAny_bind (wpAny_seqItems et dt ?_)))
 dsimp only
 rw[Int.toNat_natCast]
 cases q:its[i]? with
 | some x =>
  refine wpAny_bind (wpAny_setField ei di (by simp) (wpAny_pure ⟨x,rfl,wpAny_pure (hs x _ q ?_ (new 1 _))⟩))
  refine⟨_,Heap.get?_update_self _ ei (Obj.isFreed_of_fields (Obj.data_mapFields di _)),?_,?_⟩
  ·rw[Obj.cls_mapFields];exact ci
  ·rw[Obj.data_mapFields di]
   simp[rawInt]
 | none =>
  obtain⟨hA,f⟩:=hn q
  refine wpAny_bind (wpAny_rule (wpAny_bind (wpAny_setField ei di (by simp) (wpAny_bind (m:=newExc _ _) ?_))))
  unfold newExc newTuple
  refine wpAny_bind (wpAny_newObj_type (wpAny_bind (m:=firstArgMember _ _) (wpAny_of_eq (a:=Value.none) rfl (wpAny_newObj_type (wpAny_raiseNew_none hA (f _ _ (((new 0 _).extBut.push _).push _) ⟨_,Heap.get?_push_size _ rfl,rfl⟩)) (by size_fits)))) (by size_fits))
theorem d8x (a it:Addr):Src P w K (Itt K a) it (fun i h=>h.IsTupleIter it a i) where
 obj:=fun i h st=>by
  obtain⟨o,e,c,d⟩:=st
  exact⟨o,e,fun v z=>by rw[d] at z;cases z⟩
 keep:=fun i h h' st k=>st.at fun o e=>k o e
 item:=by
  intro X hP hw hK A i pins s σ H Q E I st hg hQ
  subst hP hw hK
  obtain⟨xs,x,hq,hx⟩:=hg
  obtain⟨its,rv,p,hz⟩:=I.tuple hq
  obtain⟨u,hu,ru⟩:=rv.get hx
  have hu':its.toArray[i]?=some u:=by simpa using hu
  refine b6p st (show s.heap.IsTuple a its.toArray from p) (fun y g hy st' sb=>?_) (fun z=>by rw[hu'] at z;cases z)
  have e:u=y:=Option.some.inj (hu'.symm.trans hy)
  subst e
  exact hQ x u g s.toks ru ⟨rfl,fun ys hy=>by rw[I.tuple_inj hy hq];exact hx⟩ st' sb
 done:=by
  intro X hP hw hK A hA i pins s σ H Q E I st hg hE
  subst hP hw hK
  obtain⟨xs,hq,hx⟩:=hg
  obtain⟨its,rv,p,hz⟩:=I.tuple hq
  have hl:=rv.length
  have hn:its.toArray[i]?=none:=by simp;omega
  exact b6p st (show s.heap.IsTuple a its.toArray from p) (fun y g hy _ _=>by rw[hn] at hy;cases hy) fun _=>⟨hA,hE⟩
theorem c8j {A:Around} {E:Value→Shared→Prop} {s:Shared} {z TI TO i1 i2:Addr} {Q:Fin→Shared→Prop} (hz:IsZip s.heap z TI TO .none) (hTI:IsPair s.heap TI (.ref i1) (.ref i2))
  (h:∀ g1,IsZip g1 z TI TO .ellipsis→Heap.SameBut z s.heap g1 →
   wpAny (model P w) A (Builtin.SmallTypes.nextOf (.ref i1)) (fun x s2=>∃ a b,IsPair s2.heap TO a b∧∀ g3,IsPair g3 TO x b→Heap.SameBut TO s2.heap g3 →
    wpAny (model P w) A (Builtin.SmallTypes.nextOf (.ref i2)) (fun y s4=>IsPair s4.heap TO x b∧∀ g5,IsPair g5 TO x y→Heap.SameBut TO s4.heap g5→IsZip g5 z TI TO .ellipsis ∧
      ∀ g7 g8,Heap.SameBut z (g5.push {cls:=.type "tuple",data:=.seq #[x,y]}) g7→Heap.SameBut z g7 g8→IsZip g8 z TI TO (rawInt g5.objs.size)→Q (.done (.ret (.ref g5.objs.size))) {s4 with heap:=g8})
     (fun e s4=>IsZip s4.heap z TI TO .ellipsis∧∀ g5,Heap.SameBut z s4.heap g5→E e {s4 with heap:=g5}) {s2 with heap:=g3})
    (fun e s2=>IsZip s2.heap z TI TO .ellipsis∧∀ g3,Heap.SameBut z s2.heap g3→E e {s2 with heap:=g3}) {s with heap:=g1}) :
  wpAny (model P w) A (Builtin.«zip.__next__» ⟨[.ref z],[]⟩) Q E s:=by
 have free:wpAny (model P w) A (Builtin.SmallTypes.ownedTupleIsFree (.ref z)) (fun b s'=>b=true∧s'=s) E s:=by
  unfold Builtin.SmallTypes.ownedTupleIsFree
  exact wpAny_bind (wpAny_field hz rfl rfl (wpAny_pure ⟨rfl,rfl⟩))
 refine wpAny_bind (wpAny_of_eq (a:=(Value.ref z,[])) rfl ?_)
 refine wpAny_bind (wpAny_field hz rfl (x:=.bool false) rfl (wpAny_bind (wpAny_field hz rfl (x:=.ref TI) rfl (wpAny_bind (wpAny_seqItems hTI rfl (wpAny_bind (thn free fun b s' hb=>?_)))))))
 obtain⟨rfl,rfl⟩:=hb
 refine wpAny_bind (wpAny_rule (wpAny_bind (wpAny_field hz rfl (x:=.ref TO) rfl (wpAny_bind (wpAny_setField_rec hz (by simp) fun g1 q1 k1=>wpAny_bind ?_)))))
 simp only [List.zipIdx_cons,List.zipIdx_nil,List.forIn_cons,List.forIn_nil]
 refine wpAny_bind (wpAny_bind (wpAny_onRaise (wpAny_bind (wpAny_mono (h g1 q1 k1) (fun x s2 d1=>?_) fun e s2 ⟨q2,f2⟩=>wpAny_setField_rec q2 (by simp) fun g3 _ k3=>f2 g3 k3))))
 obtain⟨a,b,t2,d1⟩:=d1
 refine wpAny_pure (wpAny_bind (wpAny_seqItems t2 rfl (wpAny_bind (wpAny_updateSeq_pair t2 fun g3 t3 k3=>wpAny_bind (wpAny_letGo (wpAny_pure (wpAny_bind (wpAny_bind (wpAny_onRaise ?_)))))))))
 refine wpAny_bind (wpAny_mono (d1 g3 t3 k3) (fun y s4 d2=>?_) fun e s4 ⟨q4,f4⟩=>wpAny_setField_rec q4 (by simp) fun g5 _ k5=>f4 g5 k5)
 obtain⟨t4,d2⟩:=d2
 refine wpAny_pure (wpAny_bind (wpAny_seqItems t4 rfl (wpAny_bind (wpAny_updateSeq_pair t4 fun g5 t5 k5=>wpAny_bind (wpAny_letGo (wpAny_pure (wpAny_pure (wpAny_bind (wpAny_seqItems t5 rfl (wpAny_bind (wpAny_newTuple ?_ (by show 2≤sizeLine;decide))))))))))))
 obtain⟨q5,d2⟩:=d2 g5 t5 k5
 have out:wpAny (model P w) A (Builtin.SmallTypes.ownedTupleHandOut (.ref z) (.ref g5.objs.size)) (fun _ s'=>Q (.done (.ret (.ref g5.objs.size))) s') E {s4 with heap:=g5.push {cls:=.type "tuple",data:=.seq #[x,y]}}:=by
  unfold Builtin.SmallTypes.ownedTupleHandOut
  refine wpAny_bind (wpAny_setField_rec (Heap.get?_push_of_some _ q5) (by simp) fun g7 q7 k7=>wpAny_setField_rec q7 (by simp) fun g8 q8 k8=>d2 g7 g8 k7 k8 ?_)
  exact q8
 exact wpAny_bind (thn out fun _ s' q=>wpAny_pure q)
def ItZ (J1 J2:It):It:=⟨fun i H=>J1.go i H∧J2.go i H,fun i H v H'=>∃ p x y,J1.yld i H x H∧J2.yld i H y H∧v=.ref p∧H p=none∧H'=upd H p (.tup [x,y]),fun i H=>J1.stop i H∨(J1.go i H∧J2.stop i H)⟩
structure e4p (z TI TO i1 i2:Addr):Prop where
 TIz:TI≠z
 TOz:TO≠z
 i1z:i1≠z
 i2z:i2≠z
 TITO:TI≠TO
 TIi1:TI≠i1
 TIi2:TI≠i2
 TOi1:TO≠i1
 TOi2:TO≠i2
 i12:i1≠i2
theorem d9i (n:Nat):e4p (n+4) (n+2) (n+3) n (n+1):=by
 constructor<;>(intro h;first | exact absurd (show n+2=n+4 from h) (by omega) | exact absurd (show n+3=n+4 from h) (by omega) | exact absurd (show n=n+4 from h) (by omega) | exact absurd (show n+1=n+4 from h) (by omega) | exact absurd (show n+2=n+3 from h) (by omega) | exact absurd (show n+2=n from h) (by omega) | exact absurd (show n+2=n+1 from h) (by omega) | exact absurd (show n+3=n from h) (by omega) | exact absurd (show n+3=n+1 from h) (by omega) | exact absurd (show n=n+1 from h) (by omega))
theorem e1t {J1 J2:It} {z TI TO i1 i2:Addr} {st1 st2:Nat→Heap→Prop} (D:e4p z TI TO i1 i2) (S1:Src P w K J1 i1 st1) (S2:Src P w K J2 i2 st2) {elts:List Expr} {kk:Nat} {tpos:Pos} :
  e3u P w K (.Tuple elts kk tpos) (ItZ J1 J2) [z,TI,TO,i1,i2] z (fun i h=>IsZip h z TI TO .none∧IsPair h TI (.ref i1) (.ref i2)∧(∃ a b,IsPair h TO a b)∧st1 i h∧st2 i h) where
 mem:=by simp
 obj:=fun i h ⟨hz,hTI,⟨a,b,hTO⟩,h1,h2⟩ c hc=>by
  simp only [List.mem_cons,List.not_mem_nil,or_false] at hc
  rcases hc with e | e | e | e | e
  ·rw[e];exact⟨_,hz,fun v z=>by simp at z⟩
  ·rw[e];exact⟨_,hTI,fun v z=>by simp at z⟩
  ·rw[e];exact⟨_,hTO,fun v z=>by simp at z⟩
  ·rw[e];exact S1.obj i h h1
  ·rw[e];exact S2.obj i h h2
 keep:=fun i h h' ⟨hz,hTI,⟨a,b,hTO⟩,h1,h2⟩ k=>⟨k z (by simp) _ hz,k TI (by simp) _ hTI,⟨a,b,k TO (by simp) _ hTO⟩,S1.keep i h h' h1 (k i1 (by simp)),S2.keep i h h' h2 (k i2 (by simp))⟩
 item:=by
  intro X hP hw hK hc i pins s σ H E I hf st hg
  subst hP hw hK
  obtain⟨hz,hTI,⟨a,b,hTO⟩,h1,h2⟩:=st
  have ty:s.TypeIs (.ref z) "zip":=⟨_,hz,rfl⟩
  have tz:∀ {s':Shared} {H':Hp} {h':Heap} {t':Nat} {it:Addr},it∈[z,TI,TO,i1,i2]→H' it=none→Inv X pins σ H' s'→Heap.SameBut it s'.heap h'→Inv X pins σ H' {s' with heap:=h',toks:=t'}:=fun {s' H' h' t' it} hm hn I' sb=>by
   obtain⟨f0,f1,f2,f3,f4,f5⟩:=hf it hm
   exact I'.turned (fun b o hb e=>(sb.2 b hb).trans e) hn f1 f3 f4 f5
  have fz:=(hf z (by simp)).1
  refine wpAny_bind (wpAny_attempt (wpAny_callSpecial?_slot (name:=Str.ofString "__next__") ty F.slot_zip_next (wpAny_call_entry F.slot_zip_next ty F.entry_zip_next (c8j hz hTI fun u1 q1 k1=>?_) (F.args_zip_next_1 _))))
  have I1:Inv X pins σ H {s with heap:=u1}:=tz (t':=s.toks) (by simp) fz I k1
  refine S1.item X rfl rfl rfl _ i pins {s with heap:=u1} σ H _ _ I1 (S1.keep i _ _ h1 fun o e=>k1.extBut _ _ D.i1z e) hg.1 fun x ux u2 t2 rx y1 st1' k2=>⟨a,b,k2.extBut _ _ D.TOi1 (k1.extBut _ _ D.TOz hTO),fun u3 p3 k3=>?_⟩
  have I2:Inv X pins σ H {s with heap:=u2,toks:=t2}:=tz (it:=i1) (s':={s with heap:=u1}) (by simp) (hf i1 (by simp)).1 I1 k2
  have I3:Inv X pins σ H {s with heap:=u3,toks:=t2}:=tz (it:=TO) (s':={s with heap:=u2,toks:=t2}) (by simp) (hf TO (by simp)).1 I2 k3
  refine S2.item X rfl rfl rfl _ i pins {s with heap:=u3,toks:=t2} σ H _ _ I3 (S2.keep i _ _ h2 fun o e=>k3.extBut _ _ D.TOi2.symm (k2.extBut _ _ D.i12.symm (k1.extBut _ _ D.i2z e))) hg.2 fun y uy u4 t4 ry y2 st2' k4=>⟨k4.extBut _ _ D.TOi2 p3,fun u5 p5 k5=>?_⟩
  have I4:Inv X pins σ H {s with heap:=u4,toks:=t4}:=tz (it:=i2) (s':={s with heap:=u3,toks:=t2}) (by simp) (hf i2 (by simp)).1 I3 k4
  have I5:Inv X pins σ H {s with heap:=u5,toks:=t4}:=tz (it:=TO) (s':={s with heap:=u4,toks:=t4}) (by simp) (hf TO (by simp)).1 I4 k5
  have all:∀ c o,c≠z→c≠TO→c≠i1→c≠i2→s.heap.get? c=some o→u5.get? c=some o:=fun c o n1 n2 n3 n4 e=>k5.extBut _ _ n2 (k4.extBut _ _ n4 (k3.extBut _ _ n2 (k2.extBut _ _ n3 (k1.extBut _ _ n1 e))))
  have q5:IsZip u5 z TI TO .ellipsis:=k5.extBut _ _ D.TOz.symm (k4.extBut _ _ D.i2z.symm (k3.extBut _ _ D.TOz.symm (k2.extBut _ _ D.i1z.symm q1)))
  refine⟨q5,fun u7 u8 k7 k8 q8=>⟨_,rfl,wpAny_pure ⟨_,rfl,wpAny_letOwnedTupleGo_zip q8 fun u9 q9 k9=>?_⟩⟩⟩
  have lt:∀ c∈[z,TI,TO,i1,i2],c < u5.objs.size:=fun c hc=>by
   simp only [List.mem_cons,List.not_mem_nil,or_false] at hc
   rcases hc with e | e | e | e | e
   ·rw[e];exact Heap.lt_size q5
   ·rw[e];exact Heap.lt_size (all _ _ D.TIz D.TITO D.TIi1 D.TIi2 hTI)
   ·rw[e];exact Heap.lt_size p5
   ·rw[e];obtain⟨o,eo,_⟩:=S1.obj _ _ st1';exact Heap.lt_size (k5.extBut _ _ D.TOi1.symm (k4.extBut _ _ D.i12 (k3.extBut _ _ D.TOi1.symm eo)))
   ·rw[e];obtain⟨o,eo,_⟩:=S2.obj _ _ st2';exact Heap.lt_size (k5.extBut _ _ D.TOi2.symm eo)
  have nT:u5.get? u5.objs.size=none:=Heap.get?_none_of_le (Nat.le_refl _)
  have I6:Inv X pins σ (upd H u5.objs.size (.tup [x,y])) {s with heap:=u5.push {cls:=.type "tuple",data:=.seq #[ux,uy]},toks:=t4} :=
   e4b (s:={s with heap:=u5,toks:=t4}) I5 (fun b u e=>Heap.get?_push_of_some _ e) nT ⟨by show 2≤sizeLine;decide,[ux,uy],.cons rx (.cons ry .nil),_,Heap.get?_push_size _ rfl,rfl,_,rfl⟩
  have nz:(upd H u5.objs.size (.tup [x,y])) z=none:=by rw[a0h (Nat.ne_of_lt (lt z (by simp)))];exact fz
  have I7:Inv X pins σ (upd H u5.objs.size (.tup [x,y])) {s with heap:=u7,toks:=t4}:=tz (it:=z) (s':={s with heap:=u5.push {cls:=.type "tuple",data:=.seq #[ux,uy]},toks:=t4}) (by simp) nz I6 k7
  have I8:Inv X pins σ (upd H u5.objs.size (.tup [x,y])) {s with heap:=u8,toks:=t4}:=tz (it:=z) (s':={s with heap:=u7,toks:=t4}) (by simp) nz I7 k8
  have I9:Inv X pins σ (upd H u5.objs.size (.tup [x,y])) {s with heap:=u9,toks:=t4}:=tz (it:=z) (s':={s with heap:=u8,toks:=t4}) (by simp) nz I8 k9
  have up:∀ c o,c≠z→u5.get? c=some o→u9.get? c=some o:=fun c o n e=>k9.extBut _ _ n (k8.extBut _ _ n (k7.extBut _ _ n (Heap.get?_push_of_some _ e)))
  refine⟨.ref u5.objs.size,_,I9,rfl,⟨u5.objs.size,x,y,y1,y2,rfl,a9c I5 nT,rfl⟩,⟨q9,up _ _ D.TIz (all _ _ D.TIz D.TITO D.TIi1 D.TIi2 hTI),⟨_,_,up _ _ D.TOz p5⟩,
   S1.keep _ _ _ st1' fun o e=>up _ o D.i1z (k5.extBut _ _ D.TOi1.symm (k4.extBut _ _ D.i12 (k3.extBut _ _ D.TOi1.symm e))),S2.keep _ _ _ st2' fun o e=>up _ o D.i2z (k5.extBut _ _ D.TOi2.symm e)⟩,fun c hc=>?_⟩
  rw[a0h (Nat.ne_of_lt (lt c hc))]
  exact(hf c hc).1
 done:=by
  intro X hP hw hK hc i pins s σ H E I hf st hg
  subst hP hw hK
  obtain⟨hz,hTI,⟨a,b,hTO⟩,h1,h2⟩:=st
  have hh:X.A.in1.handled=none:=I.ok.hd hc
  have ty:s.TypeIs (.ref z) "zip":=⟨_,hz,rfl⟩
  have tz:∀ {s':Shared} {h':Heap} {t':Nat} {it:Addr},it∈[z,TI,TO,i1,i2]→Inv X pins σ H s'→(∀ b o,b≠it→s'.heap.get? b=some o→h'.get? b=some o)→Inv X pins σ H {s' with heap:=h',toks:=t'}:=fun {s' h' t' it} hm I' sb=>by
   obtain⟨f0,f1,f2,f3,f4,f5⟩:=hf it hm
   exact I'.turned sb f0 f1 f3 f4 f5
  have same:∀ {it:Addr} {g h:Heap},Heap.SameBut it g h→∀ b o,b≠it→g.get? b=some o→h.get? b=some o:=fun sb b o hb e=>(sb.2 b hb).trans e
  refine wpAny_bind (wpAny_attempt (wpAny_callSpecial?_slot (name:=Str.ofString "__next__") ty F.slot_zip_next (wpAny_call_entry F.slot_zip_next ty F.entry_zip_next (c8j hz hTI fun u1 q1 k1=>?_) (F.args_zip_next_1 _))))
  have I1:Inv X pins σ H {s with heap:=u1}:=tz (it:=z) (t':=s.toks) (by simp) I (same k1)
  have st1:=S1.keep i _ _ h1 fun o e=>k1.extBut _ _ D.i1z e
  have ended:∀ {g:Heap} {tk:Nat} {e:Addr},Inv X pins σ H {s with heap:=g,toks:=tk}→IsZip g z TI TO .ellipsis→(∃ o,g.get? e=some o∧o.cls=.type "StopIteration")→IsZip g z TI TO .ellipsis∧∀ g5,Heap.SameBut z g g5 →
    wpAny (model X.prog X.w) X.A ((do if ← isInstance (.ref e) (.type "StopIteration") then return none else throw (.ref e)):Sem (Option Value)) (fun r s1=>r=none∧Inv X pins σ H s1) E {s with heap:=g5,toks:=tk}:=fun {g tk e} I' q ⟨o,eo,co⟩=>⟨q,fun g5 k5=>by
   have ne:e≠z:=fun y=>by rw[y,q] at eo;cases eo;simp at co
   exact wpAny_bind (wpAny_isInstance (T:="StopIteration") (b:=true) ⟨o,k5.extBut _ _ ne eo,co⟩ isSubtype_stop (wpAny_pure ⟨rfl,tz (it:=z) (s':={s with heap:=g,toks:=tk}) (by simp) I' (same k5)⟩))⟩
  rcases hg with e1 | ⟨g1,e2⟩
  ·exact S1.done X rfl rfl rfl _ hh i pins {s with heap:=u1} σ H _ _ I1 st1 e1 fun u2 e k2 he=>ended (tk:=s.toks) (tz (it:=i1) (s':={s with heap:=u1}) (by simp) I1 k2) (k2 _ _ D.i1z.symm q1) he
  ·refine S1.item X rfl rfl rfl _ i pins {s with heap:=u1} σ H _ _ I1 st1 g1 fun x ux u2 t2 rx y1 st1' k2=>⟨a,b,k2.extBut _ _ D.TOi1 (k1.extBut _ _ D.TOz hTO),fun u3 p3 k3=>?_⟩
   have I2:Inv X pins σ H {s with heap:=u2,toks:=t2}:=tz (it:=i1) (s':={s with heap:=u1}) (by simp) I1 (same k2)
   have I3:Inv X pins σ H {s with heap:=u3,toks:=t2}:=tz (it:=TO) (s':={s with heap:=u2,toks:=t2}) (by simp) I2 (same k3)
   refine S2.done X rfl rfl rfl _ hh i pins {s with heap:=u3,toks:=t2} σ H _ _ I3 (S2.keep i _ _ h2 fun o e=>k3.extBut _ _ D.TOi2.symm (k2.extBut _ _ D.i12.symm (k1.extBut _ _ D.i2z e))) e2 fun u4 e k4 he=>?_
   exact ended (tk:=t2) (tz (it:=i2) (s':={s with heap:=u3,toks:=t2}) (by simp) I3 k4) (k4 _ _ D.i2z.symm (k3.extBut _ _ D.TOz.symm (k2.extBut _ _ D.i1z.symm q1))) he
 self:=fun _ _ _ _ _ st h=>wpAny_pyIter_zip st.1 h
inductive d2z (h:Heap):Value→Obj→Prop where
 | list {l:Addr} {xs:Array Value} (e:h.IsList l xs):d2z h (.ref l) {cls:=.type "list_iterator",data:=.fields #[.ref l,.int 0 0]}
 | tup {l:Addr} {xs:Array Value} (e:h.IsTuple l xs):d2z h (.ref l) {cls:=.type "tuple_iterator",data:=.fields #[.ref l,.int 0 0]}
 | str (y:Str) (t:Tok):d2z h (.str y t) (d1w y t)
theorem d2z.keep {h h':Heap} {u:Value} {o:Obj} (x:d2z h u o) (k:∀ b o,h.get? b=some o→h'.get? b=some o):d2z h' u o:=by
 cases x with
 | list e=>exact .list (e.at fun o q=>k _ o q)
 | tup e=>obtain⟨o,e,r⟩:=e;exact .tup ⟨o,k _ _ e,r⟩
 | str y t=>exact .str y t
theorem c3i {A:Around} {E:Value→Shared→Prop} {s:Shared} {u:Value} {o:Obj} {Q:Value→Shared→Prop} (x:d2z s.heap u o) (h:Q (.ref s.heap.objs.size) {s with heap:=s.heap.push o}):wpAny (model P w) A (pyIter u) Q E s:=by
 cases x with
 | list e=>exact wpAny_pyIter_list e h
 | tup e=>exact wpAny_pyIter_tuple e h
 | str y t=>exact d0p h
abbrev zA (h:Heap) (o1:Obj):Heap:=h.push o1
abbrev zB (h:Heap) (o1 o2:Obj):Heap:=(zA h o1).push o2
abbrev zC (h:Heap) (o1 o2:Obj):Heap:=(zB h o1 o2).push {cls:=.type "tuple",data:=.seq #[.ref h.objs.size,.ref (zA h o1).objs.size]}
abbrev zD (h:Heap) (o1 o2:Obj):Heap:=(zC h o1 o2).push {cls:=.type "tuple",data:=.seq #[.none,.none]}
abbrev zE (h:Heap) (o1 o2:Obj):Heap:=(zD h o1 o2).push {cls:=.type "zip",data:=.fields #[.none,.bool false,.bool false,.ref (zB h o1 o2).objs.size,.ref (zC h o1 o2).objs.size]}
structure e3b (h g:Heap) (o1 o2:Obj) (z TI TO i1 i2:Addr):Prop where
 zip:IsZip g z TI TO .none
 ins:IsPair g TI (.ref i1) (.ref i2)
 outs:IsPair g TO .none .none
 one:g.get? i1=some o1
 two:g.get? i2=some o2
 keep:∀ c o,h.get? c=some o→g.get? c=some o
 young:∀ c∈[z,TI,TO,i1,i2],h.objs.size≤c
 ap:e4p z TI TO i1 i2
theorem e3e (h:Heap) {o1 o2:Obj} (n1:o1.isFreed=false) (n2:o2.isFreed=false):e3b h (zE h o1 o2) o1 o2 (zD h o1 o2).objs.size (zB h o1 o2).objs.size (zC h o1 o2).objs.size h.objs.size (zA h o1).objs.size:=by
 have up:∀ {g:Heap} {a:Addr} {o u:Obj},g.get? a=some o→(g.push u).get? a=some o:=fun e=>Heap.get?_push_of_some _ e
 have at_:∀ {g:Heap} {o:Obj},o.isFreed=false→(g.push o).get? g.objs.size=some o:=fun e=>Heap.get?_push_size _ e
 have sA:(zA h o1).objs.size=h.objs.size+1:=Heap.size_push ..
 have sB:(zB h o1 o2).objs.size=h.objs.size+2:=by rw[Heap.size_push,sA]
 have sC:(zC h o1 o2).objs.size=h.objs.size+3:=by rw[Heap.size_push,sB]
 have sD:(zD h o1 o2).objs.size=h.objs.size+4:=by rw[Heap.size_push,sC]
 refine⟨at_ rfl,up (up (at_ rfl)),up (at_ rfl),up (up (up (up (at_ n1)))),up (up (up (at_ n2))),fun c o e=>up (up (up (up (up e)))),fun c hc=>?_,?_⟩
 ·rw[sA,sB,sC,sD] at hc
  simp only [List.mem_cons,List.not_mem_nil,or_false] at hc
  rcases hc with e | e | e | e | e<;>(rw[e];first | exact Nat.le_add_right _ _ | exact Nat.le_refl _)
 ·rw[sA,sB,sC,sD]
  exact d9i _
theorem c3t (u1 u2:Value) (o1 o2:Obj) :
  Meets (Builtin.«zip.__new__» ⟨[.type "zip",u1,u2],[]⟩) (fun _ R s=>d2z s.heap u1 o1∧d2z s.heap u2 o2∧R (.ok (.ret (.ref (zD s.heap o1 o2).objs.size))) {s with heap:=zE s.heap o1 o2}) :=
 .of_wp fun prog w A R s ⟨x1,x2,r⟩=>by
  obtain⟨hp,g,d,tk,os⟩:=s
  have hsub:=sub_zip
  have L1:d2z (Shared.heap ⟨hp,g,d,tk,os⟩) u1 o1:=x1
  have L2:d2z (Shared.heap ⟨hp.push o1,g,d,tk,os⟩) u2 o2:=x2.keep fun b o e=>Heap.get?_push_of_some _ e
  wp_walk using c3i L1,c3i L2
  exact⟨_,rfl,r⟩
theorem c7k {A:Around} {E:Value→Shared→Prop} {s:Shared} {u1 u2:Value} {o1 o2:Obj} {Q:Value→Shared→Prop} (x1:d2z s.heap u1 o1) (x2:d2z s.heap u2 o2) (n1:o1.isFreed=false) (n2:o2.isFreed=false)
  (k:∀ g z TI TO i1 i2,e3b s.heap g o1 o2 z TI TO i1 i2→Q (.ref z) {s with heap:=g}):wpAny (model P w) A (call (.type "zip") [u1,u2]) Q E s :=
 callType_new F.called_zip (by decide) (F.typeCall_zip_2 u1 u2) (F.newCall_zip_2 u1 u2) (fun obj=>F.args_object_init_3 obj u1 u2) F.entry_zip_new (c3t u1 u2 o1 o2) ⟨x1,x2,⟨_,(e3e s.heap n1 n2).zip,rfl⟩,k _ _ _ _ _ _ (e3e s.heap n1 n2)⟩
end
inductive d3e (K:PySem.W.Frag) (H:Hp):V→It→Prop where
 | list {a:Addr} {xs:List V} (h:SqL K H a xs):d3e K H (.ref a) (Itl K a)
 | tup {a:Addr} {xs:List V} (h:SqT K H a xs):d3e K H (.ref a) (Itt K a)
 | str (y:Str):d3e K H (.str y) (Itf (b6o y))
section
variable {X:Cx}
theorem e2q {pins:List (Addr×Obj)} {σ:L2.St} {H:Hp} {s:Shared} {v:V} {J:It} {u:Value} (I:Inv X pins σ H s) (x:d3e X.K H v J) (r:a3k v u):∃ o,d2z s.heap u o∧o.isFreed=false∧∀ it h',h'.get? it=some o→∃ st,Src X.prog X.w X.K J it st∧st 0 h':=by
 cases x with
 | list h =>
  cases r
  obtain⟨its,rv,p,hz⟩:=I.list h
  exact⟨_,.list p.isList,rfl,fun it h' e=>⟨_,e2c _ it,_,e,rfl,rfl⟩⟩
 | tup h =>
  cases r
  obtain⟨its,rv,p,hz⟩:=I.tuple h
  exact⟨_,.tup (show s.heap.IsTuple _ its.toArray from p),rfl,fun it h' e=>⟨_,d8x _ it,_,e,rfl,rfl⟩⟩
 | str y =>
  obtain⟨t,rfl⟩:=r
  exact⟨_,.str y t,rfl,fun it h' e=>⟨_,e4h y t it,_,e,rfl,rfl⟩⟩
def f1z (K:PySem.W.Frag) (ta:TA):TI:=fun σ H R=>ta σ H fun vs H1=>∃ u v J1 J2,vs=[u,v]∧d3e K H1 u J1∧d3e K H1 v J2∧R (ItZ J1 J2) H1
theorem e8w {a b:Expr} {ta:TA} {p pos:Pos} {elts:List Expr} {kk:Nat} {tpos:Pos} (hg:Gl X "zip") (hm:X.mg "zip"=none) (ha:PA X [a,b] ta) (hs:starEach [a,b] X.env=[(false,eval a X.env),(false,eval b X.env)]:=by rfl) (hs2:starEach [b] X.env=[(false,eval b X.env)]:=by rfl) :
  PI X (.Tuple elts kk tpos) (.Call (.Name "zip" p) [a,b] [] pos) (f1z X.K ta):=by
 constructor;intro pins s σ H R I h
 refine Call_ (c3h I hg hm boot_zip (PyProof.Rows.callWith_type1 (thn (ha pos pins s σ H _ I h) fun us s1 ⟨vs,H1,I1,r1,q1⟩=>?_) (by rw[hs,hs2]) (by rw[hs2];rfl)))
 obtain⟨x,y,J1,J2,rfl,x1,x2,q⟩:=q1
 obtain⟨u,w',rfl,ru,rw'⟩:=e3p r1
 obtain⟨o1,v1,n1,k1⟩:=e2q I1 x1 ru
 obtain⟨o2,v2,n2,k2⟩:=e2q I1 x2 rw'
 refine c7k v1 v2 n1 n2 fun g z TI TO i1 i2 Z=>?_
 obtain⟨st1,S1,t1⟩:=k1 _ _ Z.one
 obtain⟨st2,S2,t2⟩:=k2 _ _ Z.two
 have I2:Inv X pins σ H1 {s1 with heap:=g}:=I1.kept (t':=s1.toks) Z.keep
 exact wpAny_pyIter_zip (s:={s1 with heap:=g}) Z.zip ⟨z,[z,TI,TO,i1,i2],_,ItZ J1 J2,H1,rfl,I2,e1t Z.ap S1 S2,⟨Z.zip,Z.ins,⟨_,_,Z.outs⟩,t1,t2⟩,fun b hb=>I1.fpOk (Z.young b hb) (I1.hok.fresh (Z.young b hb)),q⟩
end
structure e5o (J:It) (H:Hp) (xs:List V):Prop where
 go:∀ i,i < xs.length→J.go i H
 stop:∀ i,xs.length≤i→J.stop i H
 yld:∀ i x H',J.yld i H x H'→xs[i]?=some x
theorem a2j {K:PySem.W.Frag} {H:Hp} {a:Addr} {xs:List V} (h:SqL K H a xs):e5o (Itl K a) H xs:=⟨fun i hi=>⟨xs,xs[i],h,by simp[hi]⟩,fun i hi=>⟨xs,h,hi⟩,fun i x H' y=>y.2 xs h⟩
theorem e5n {J1 J2:It} {xs ys:List V} {g:TG} {tb:TS} {D:c9e} {σ:L2.St} {H:Hp} (Pv:Nat→L2.St→Hp→Prop) (h0:Pv 0 σ H) (hl:∀ i σ H,Pv i σ H→e5o J1 H xs∧e5o J2 H ys)
  (hs:∀ i x y σ H p,xs[i]?=some x→ys[i]?=some y→Pv i σ H→H p=none→g (.ref p) σ (upd H p (.tup [x,y])) fun σ2 H2=>tb {D with nx:=Pv (i+1),ct:=Pv (i+1),bk:=D.nx} σ2 H2) (hd:∀ σ H,Pv (min xs.length ys.length) σ H→D.nx σ H) :
  ∃ W:Nat→Nat→L2.St→Hp→Prop,(∃ m,W 0 m σ H)∧∀ i m σ H,W i m σ H →
   ((ItZ J1 J2).stop i H∧D.nx σ H)∨((ItZ J1 J2).go i H∧∃ N:L2.St→Hp→Prop,(∀ σ' H',N σ' H'→∃ m',m' < m∧W (i+1) m' σ' H')∧∀ x H',(ItZ J1 J2).yld i H x H'→g x σ H' fun σ2 H2=>tb {D with nx:=N,ct:=N,bk:=D.nx} σ2 H2):=by
 refine⟨fun i m σ H=>m=min xs.length ys.length - i∧i≤min xs.length ys.length∧Pv i σ H,⟨min xs.length ys.length,by simp,Nat.zero_le _,h0⟩,?_⟩
 rintro i m σ H ⟨rfl,hi,p⟩
 obtain⟨G1,G2⟩:=hl i σ H p
 by_cases hlt:i < min xs.length ys.length
 ·refine .inr ⟨⟨G1.go i (by omega),G2.go i (by omega)⟩,Pv (i+1),fun σ' H' p'=>⟨min xs.length ys.length - (i+1),by omega,rfl,hlt,p'⟩,fun v H' y=>?_⟩
  obtain⟨q,x,y,y1,y2,rfl,hn,rfl⟩:=y
  exact hs i x y σ H q (G1.yld i x _ y1) (G2.yld i y _ y2) p hn
 ·have e:i=min xs.length ys.length:=by omega
  subst e
  refine .inl ⟨?_,hd σ H p⟩
  by_cases h:xs.length≤ys.length
  ·exact .inl (G1.stop _ (by omega))
  ·exact .inr ⟨G1.go _ (by omega),G2.stop _ (by omega)⟩
end My
namespace My
open PySem PySem.Spec PyProof.Rows L2 PySem.NumText
def e5v (n:Nat) (x:Str):Prop:=x.length≤n∧∀ c∈x.cps.toList,c < 16 ^ 8
end My
namespace My
open PySem PySem.Spec PyProof.Rows L2
section
variable {X:Cx} {pins:List (Addr×Obj)} {σ:L2.St} {H:Hp} {s:Shared} {scope:Scope} {N:List Str} {target iter elt:Expr} {pos:Pos} {g:TG} {te:TE}
theorem c2p {s':Shared} {H':Hp} {fp:List Addr} {C:Addr} (I:Inv X pins σ H s) (hf:∀ b∈fp,d2l X pins H b) (os:s'.os=s.os) (bare:AllBare s'.gens) (un:Un (frs X.stack) fp H H' s.heap s'.heap) (hok:HOk X.prog X.w H' s'.heap) (nC:H' C=none) (hC:s.heap.objs.size≤C) :
  Inv X pins σ H' s'∧d2l X pins H' C :=
 ⟨I.call' os un hok bare fun b hb=>let ⟨_,f1,_,f3,f4,f5⟩:=hf b hb;⟨f3,f1,f4,f5⟩,I.fpOk hC nC⟩
theorem d7t {H':Hp} {C:Addr} {h':Heap} (I:Inv X pins σ H' s) (f:d2l X pins H' C) (k:Heap.SameBut C s.heap h'):Inv X pins σ H' {s with heap:=h'} :=
 let ⟨f0,f1,_,f3,f4,f5⟩:=f
 I.turned (t':=s.toks) (fun b o hb e=>(k.2 b hb).trans e) f0 f1 f3 f4 f5
end
end My
namespace My
open PySem PySem.Spec PyProof.Rows L2 PySem.Builtin.Str
theorem d6d {P:Program} {w:World} {X:Cx}:c8o (CXW P w) X (fun _ _ _=>False):=fun _ _ _ _ _ _ _ h=>by
 obtain⟨_,_,_,_,_,_,_,_,_,_,_,_,_,_,_,_,z⟩:=h
 exact z.elim
end My
namespace My
open PySem PySem.Spec PyProof.Rows L2
theorem c3m {X:Cx} {K:PySem.W.Frag} {es:List Expr} {k:Nat} {t:TGs} {n:Nat} {pos:Pos} (hK:X.K=K) (hc:X.calm=true) (h:PGs X es t) (hn:(assignEach es X.env).length=n:=by rfl) (hst:(assignEach es X.env).findIdx? (·.1)=none:=by rfl):PG X (.Tuple es k pos) (f1j K n t):=by
 subst hK
 exact b0k hc h hn hst
end My
namespace My
open PySem PySem.Spec PyProof.Rows L2
def d1t (a C:Addr) (d:Option Addr) (h:Heap):Prop:=∃ o,h.get? a=some o∧o.cls=.ref C∧o.dict=d∧∃ vs t0,o.data=.fields vs∧vs[0]?=some (.ref t0)∧vs[1]?=some .none∧vs[2]?=some .none
abbrev e7u (a C dx:Addr) (h:Heap):Prop:=d4r a C (some dx) h
section
variable {P:Program} {w:World} {H:Hp} {h:Heap} {a C dx:Addr} {fs:List (Str×V)}
theorem d1t.any {h:Heap} (e:d1t a C (some dx) h):e7u a C dx h:=let ⟨o,q,c,d,vs,t0,x,_⟩:=e;⟨o,q,c,by unfold PySem.W.notCls;rw[x],d⟩
end
end My
namespace My
open PySem PySem.Spec PyProof.Rows L2
def del (H:Hp) (a:Addr):Hp:=fun b=>if b=a then none else H b
section
variable {P:Program} {w:World} {K:PySem.W.Frag} {mg:Str→Option Value} {base:Heap} {N:List Str} {qual:Str} {scope:Scope} {f:Addr} {cd:Value} {A:Around} {outer:List Env} {s₀:Shared} {H₀:Hp} {E:XK}
 {pins:List (Addr×Obj)} {σ:L2.St} {H H2:Hp} {s s2:Shared} {h':Heap} {ea C:Addr} {d:Option Addr}
end
end My
namespace My
open PySem PySem.Spec PyProof.Rows L2
section
variable {X:Cx} {K:PySem.W.Frag}
theorem d4r.is {a C:Addr} {d:Option Addr} {h:Heap} (x:d4r a C d h):e7o a C h:=let ⟨o,e,c,_⟩:=x;⟨o,e,c⟩
theorem d1t.is {a C:Addr} {d:Option Addr} {h:Heap} (x:d1t a C d h):e7o a C h:=let ⟨o,e,c,_⟩:=x;⟨o,e,c⟩
end
end My
namespace My
open PySem PySem.Spec PyProof.Rows L2
def a5g (cells:List (Str×Addr)):List (Str×NameKind)→List (Str×Addr)→List (Str×Addr)
 | [],acc=>acc
 | (n,k)::r,acc=>if (k == NameKind.free)=true then a5g cells r ((n,(cells.lookup n).getD 0)::acc) else a5g cells r acc
theorem d3s {scope:Scope} {env:Env} (h:∀ q∈scope.names,q.2=.free→∃ c,env.cells.lookup q.1=some c):closureFor scope env=pure (a5g env.cells scope.names []):=by
 simp only [closureFor]
 generalize ([]:List (Str×Addr))=acc
 revert h
 generalize scope.names=names
 intro h
 induction names generalizing acc with
 | nil=>rfl
 | cons q r ih =>
  obtain⟨n,k⟩:=q
  rw[List.forIn_cons]
  by_cases hk:(k == NameKind.free)=true
  ·obtain⟨c,hc⟩:=h (n,k) List.mem_cons_self (by simpa using hk)
   have e:cellOf env n=pure c:=by simp only [cellOf,hc]
   simp only [a5g,hk,if_true,e,hc,Option.getD_some,pure_bind]
   exact ih _ fun q hq=>h q (List.mem_cons_of_mem _ hq)
  ·simp only [a5g,hk,if_false,pure_bind,Bool.false_eq_true]
   exact ih _ fun q hq=>h q (List.mem_cons_of_mem _ hq)
theorem b5n {cells:List (Str×Addr)}:∀ {names:List (Str×NameKind)} {acc:List (Str×Addr)},(∀ q∈names,q.2=.free→∃ c,cells.lookup q.1=some c)→(∀ x c,acc.lookup x=some c→cells.lookup x=some c)→∀ x c,(a5g cells names acc).lookup x=some c→cells.lookup x=some c
 | [],_,_,ha=>ha
 | (n,k)::r,acc,h,ha=>by
  intro x c e
  by_cases hk:(k == NameKind.free)=true
  ·obtain⟨d,hd⟩:=h (n,k) List.mem_cons_self (by simpa using hk)
   rw[a5g,if_pos hk] at e
   refine b5n (fun q hq=>h q (List.mem_cons_of_mem _ hq)) (fun y b q=>?_) x c e
   cases hy:y == n with
   | true =>
    rw[List.lookup_cons,hy] at q
    have ey:y=n:=by simpa using hy
    subst ey
    have hd':List.lookup y cells=some d:=hd
    rw[hd'] at q ⊢
    simpa using q
   | false =>
    rw[List.lookup_cons,hy] at q
    exact ha y b q
  ·rw[a5g,if_neg hk] at e
   exact b5n (fun q hq=>h q (List.mem_cons_of_mem _ hq)) ha x c e
theorem b2a {cells:List (Str×Addr)}:∀ {names:List (Str×NameKind)} {acc:List (Str×Addr)} {x:Str},((x,NameKind.free)∈names∨∃ c,acc.lookup x=some c)→∃ c,(a5g cells names acc).lookup x=some c
 | [],_,_,h=>h.elim (fun z=>by cases z) id
 | (n,k)::r,acc,x,h=>by
  by_cases hk:(k == NameKind.free)=true
  ·rw[a5g,if_pos hk]
   refine b2a ?_
   cases hx:x == n with
   | true=>exact .inr ⟨_,by rw[List.lookup_cons,hx]⟩
   | false =>
    rcases h with h | ⟨c,h⟩
    ·rcases List.mem_cons.mp h with z | z
     ·cases z
      simp at hx
     ·exact .inl z
    ·exact .inr ⟨c,by rw[List.lookup_cons,hx];exact h⟩
  ·rw[a5g,if_neg hk]
   refine b2a ?_
   rcases h with h | h
   ·rcases List.mem_cons.mp h with z | z
    ·cases z
     exact absurd rfl hk
    ·exact .inl z
   ·exact .inr h
theorem b1d {env:Env}:∀ {names:List (Str×NameKind)} {x:Str} {k':NameKind},(names.map fun (n,k)=>if (k == NameKind.free && env.scope.kind == .function && env.kindOf n == some .cell) then (n,NameKind.cell) else (n,k)).lookup x=some k' →
  ∃ k,names.lookup x=some k∧(k'=k∨(k=.free∧k'=.cell))
 | [],_,_,h=>by simp at h
 | (n,k)::r,x,k',h=>by
  have ih:=@b1d env r x k'
  have h:List.lookup x ((if (k == NameKind.free && env.scope.kind == .function && env.kindOf n == some .cell)=true then (n,NameKind.cell) else (n,k))::_)=some k':=h
  cases hx:x == n with
  | true =>
   by_cases hc:(k == NameKind.free && env.scope.kind == .function && env.kindOf n == some .cell)=true
   ·rw[if_pos hc,List.lookup_cons,hx] at h
    cases h
    have hk:k=.free:=by
     simp only [Bool.and_eq_true] at hc
     simpa using hc.1.1
    exact⟨k,by rw[List.lookup_cons,hx],.inr ⟨hk,rfl⟩⟩
   ·rw[if_neg hc,List.lookup_cons,hx] at h
    cases h
    exact⟨k,by rw[List.lookup_cons,hx],.inl rfl⟩
  | false =>
   obtain⟨k2,e,q⟩:=ih (by
    by_cases hc:(k == NameKind.free && env.scope.kind == .function && env.kindOf n == some .cell)=true
    ·rw[if_pos hc,List.lookup_cons,hx] at h;exact h
    ·rw[if_neg hc,List.lookup_cons,hx] at h;exact h)
   exact⟨k2,by rw[List.lookup_cons,hx];exact e,q⟩
def a2x (X:Cx) (scope:Scope) (N:List Str) (cl:List (Str×Addr)) (C:Addr) (s₀:Shared) (H₀:Hp) (ex:List Addr):Cx :=
 {X with N:=N,s₀:=s₀,H₀:=H₀,env:=compEnvC scope cl C X.env,outer:=X.stack,stack:=X.stack,ex:=ex,fn:=fun _=>false,pn:=[],xe:=fun _ _=>False}
def c0p (σ:L2.St) (n:Nat) (js:List Nat):L2.St:=List.replicate n none++js.map fun j=>(σ[j]?).getD none
def e6t (ifs:List Expr) (env:Env):Sem Bool:=forIn ifs true fun c r=>if r=true then do let ok ← isTrue c env (eval c env);pure (ForInStep.yield ok) else pure (ForInStep.yield r)
structure e8c (X:Cx) (ifs:List Expr) (t:TT):Prop where
 run:∀ (pins:List (Addr×Obj)) (s:Shared) (σ:L2.St) (H:Hp) (Q:Bool→Hp→Prop),Inv X pins σ H s→t σ H Q→wpAny (model X.prog X.w) X.A (e6t ifs X.env) (TP X pins σ Q) X.xe s
def f1w:TT:=fun _ H Q=>Q true H
theorem b0j {X:Cx}:e8c X [] f1w:=⟨fun pins s σ H Q I h=>wpAny_tests_nil ⟨H,I,h⟩⟩
theorem c8d {X:Cx} {c:Expr} {t:TT} (h:PT X c t):e8c X [c] t:=⟨fun pins s σ H Q I q=>wpAny_tests_one (h pins s σ H Q I q)⟩
structure a3b (X:Cx) (scope:Scope) (fv:List Str) (js:List Nat):Prop where
 kind:scope.kind=.function
 cell:∀ q∈scope.names,q.2≠.cell
 names:∀ q∈scope.names,q.2=.local→scope.names.lookup q.1=some .local
 free:∀ q∈scope.names,q.2=.free→q.1∈fv
 out:∀ x∈fv,X.env.kindOf x=some .cell∨X.env.kindOf x=some .free
 at':js.map (fun j=>X.N[j]?)=fv.map some
 fr:∀ x∈fv,scope.names.lookup x=some .free
section
variable {X:Cx} {pins:List (Addr×Obj)} {σ:L2.St} {H:Hp} {s:Shared} {scope:Scope} {N:List Str} {C:Addr} {ex:List Addr} {cl:List (Str×Addr)} {fv tg:List Str} {js:List Nat}
theorem a3b.clos (S:a3b X scope fv js) (ok:X.Ok):closureFor scope X.env=pure (a5g X.env.cells scope.names []):=d3s fun q hq e=>ok.has q.1 (S.out q.1 (S.free q hq e))
theorem a3b.sub (S:a3b X scope fv js) (ok:X.Ok):∀ x c,(a5g X.env.cells scope.names []).lookup x=some c→X.env.cells.lookup x=some c :=
 b5n (fun q hq e=>ok.has q.1 (S.out q.1 (S.free q hq e))) (fun x c e=>by cases e)
theorem e0d (I:Inv X pins σ H s) (S:a3b X scope fv js) (hC:s.heap.objs.size≤C)
  (hf:∀ b∈ex,d2l X pins H b) (ho:∀ b∈ex,∃ o,s.heap.get? b=some o):(a2x X scope N (a5g X.env.cells scope.names []) C s H ex).Ok:=by
 have sub:=S.sub I.ok
 refine⟨I.ok.mod,S.kind,I.ok.glob,I.ok.blt,hC,fun x y c e1 e2=>I.ok.inj x y c (sub x c e1) (sub y c e2),fun x hx=>?_,fun x c z _=>Bool.noConfusion z,I.ok.hd,I.ok.frames,.inl rfl,fun b hb=>⟨?_,fun x c e=>?_⟩,I.bs,Nat.le_trans I.ok.bsz I.sz,fun b o e hb=>?_,fun b hb hm=>?_,I.stack,I.stkFree⟩
 ·have e:∃ k',(relabel scope X.env).names.lookup x=some k'∧(k'=.cell∨k'=.free):=by
   rcases hx with z | z
   ·exact⟨_,z,.inl rfl⟩
   ·exact⟨_,z,.inr rfl⟩
  obtain⟨k',e,hk⟩:=e
  obtain⟨k,e2,q⟩:=b1d e
  have hk2:k=.free:=by
   rcases q with rfl | ⟨rfl,_⟩
   ·rcases hk with rfl | rfl
    ·exact absurd rfl (S.cell _ (PySem.mem_of_lookup e2))
    ·rfl
   ·rfl
  subst hk2
  exact b2a (.inl (PySem.mem_of_lookup e2))
 ·obtain⟨o,e⟩:=ho b hb
  exact Nat.ne_of_lt (Nat.lt_of_lt_of_le (Heap.lt_size e) hC)
 ·obtain⟨_,_,_,_,q,_⟩:=hf b hb
  exact q x c (sub x c e)
 ·obtain⟨_,_,_,q,_⟩:=hf b hb
  rcases q with q | q
  ·exact I.ok.noex b o e q
  ·exact absurd (Nat.lt_of_lt_of_le (Heap.lt_size e) (Nat.le_trans I.ok.bsz q)) (Nat.lt_irrefl _)
 ·obtain⟨_,q1,q2,_⟩:=hf b hb
  rcases List.mem_cons.mp (I.stkSub b hm) with z | z
  ·exact q1 z
  ·exact q2 z
theorem c9g {D:Addr} {h':Heap} {t':Nat} {m:Str→Option Value} (I:Inv X pins σ H s) (S:a3b X scope fv js) (ok:(a2x X scope (tg++fv) (a5g X.env.cells scope.names []) C s H ex).Ok) (hk:∀ b o,s.heap.get? b=some o→h'.get? b=some o) (hD:s.heap.get? D=none) (hC:s.heap.get? C=none) (hDC:D≠C)
  (hl:h'.get? D=some {cls:=.type "list",data:=.seq #[]}) (hn:h'.Ns C m):Inv (a2x X scope (tg++fv) (a5g X.env.cells scope.names []) C s H ex) [] (c0p σ tg.length js) (upd H D (.lst [])) {s with heap:=h',toks:=t'}:=by
 have nD:=a9c I hD
 have neD:∀ b u,s.heap.get? b=some u→b≠D:=fun b u e z=>by rw[z,hD] at e;cases e
 have sub:=S.sub I.ok
 have cellK:∀ c v,s.heap.IsCell c v→h'.IsCell c v:=fun c v ⟨o,ho,hd⟩=>⟨o,hk c o ho,hd⟩
 have hlen:js.length=fv.length:=by have:=congrArg List.length S.at';simpa using this
 refine⟨ok,rfl,I.bare,⟨fun b u q _ _ _=>hk b u q,fun b u q _ _ _=>⟨u.slots,hk b u q⟩,fun b u q n _=>by rw[a0h (neD b u q)];exact n,fun b u q _=>⟨u,hk b u q⟩,fun b xs q=>by rw[a0h (a0y q nD)];exact q,
  fun b u xs q=>by rw[a0h (a0y q nD)];exact q,fun b ps (q:H b=_)=>⟨#[],by rw[a0h (a0y q nD),q];simp⟩⟩,⟨m,hn,fun i x v e1 e2 e3=>?_⟩,fun x c e=>?_,?_,fun x c e=>?_,fun p hp=>(by cases hp),fun b u e=>?_,by simp[a2x,c0p,hlen]⟩
 ·have e1:(tg++fv)[i]?=some x:=e1
  rcases Nat.lt_or_ge i tg.length with hi | hi
  ·rw[c0p,List.getElem?_append_left (by simpa using hi),List.getElem?_replicate,if_pos hi] at e2
   cases e2
  ·rw[List.getElem?_append_right hi] at e1
   rw[c0p,List.getElem?_append_right (by simpa using hi),List.length_replicate,List.getElem?_map] at e2
   obtain⟨j,hj,e2⟩:=Option.map_eq_some_iff.mp e2
   have hσ:σ[j]?=some (some v):=by
    cases q:σ[j]? with
    | none=>rw[q] at e2;cases e2
    | some z=>rw[q] at e2;exact congrArg some e2
   have hN:X.N[j]?=some x:=by
    have q:=congrArg (fun l=>l[i - tg.length]?) S.at'
    simp only [List.getElem?_map,hj,e1,Option.map_some] at q
    exact Option.some.inj q
   have hx:x∈fv:=List.mem_of_getElem? e1
   have ko:=S.out x hx
   obtain⟨m0,_,hl0⟩:=I.loc
   have vis:Vis X.env.scope x:=ko.elim (fun z=>.inr (.inl z)) fun z=>.inr (.inr z)
   obtain⟨u,ru,lk⟩:=hl0 j x v hN hσ vis
   obtain⟨c,hc,hcell⟩:∃ c,X.env.cells.lookup x=some c∧s.heap.IsCell c (some u):=by
    rcases lk with ⟨z,_⟩ | ⟨_,q⟩
    ·rcases ko with y | y<;>(rw[y] at z;cases z)
    ·exact q
   obtain⟨c2,hc2⟩:∃ c2,(a5g X.env.cells scope.names []).lookup x=some c2:=b2a (.inl (PySem.mem_of_lookup (S.fr x hx)))
   have ec:c2=c:=by have:=sub x c2 hc2;rw[hc] at this;exact(Option.some.inj this).symm
   subst ec
   refine⟨u,ru,.inr ⟨?_,c2,hc2,cellK _ _ hcell⟩⟩
   have e3:(relabel scope X.env).names.lookup x=some .local∨(relabel scope X.env).names.lookup x=some .cell∨(relabel scope X.env).names.lookup x=some .free:=e3
   rcases e3 with z | z | z
   ·obtain⟨k,ek,q⟩:=b1d z
    rw[S.fr x hx] at ek
    cases ek
    rcases q with q | ⟨_,q⟩<;>cases q
   ·exact .inl z
   ·exact .inr z
 ·obtain⟨v,z⟩:=I.cell x c (sub x c e)
  exact⟨v,cellK c v z⟩
 ·show upd H D (.lst []) C=none
  rw[a0h (Ne.symm hDC)]
  exact a9c I hC
 ·obtain⟨v,o,ho,_⟩:=I.cell x c (sub x c e)
  rw[a0h (neD c o ho)]
  exact I.freeC x c (sub x c e)
 ·by_cases hb:b=D
  ·subst hb
   rw[a0b] at e
   cases e
   exact⟨Nat.zero_le _,[],_,.nil,hl⟩
  ·rw[a0h hb] at e
   exact(I.hok b u e).stay (fun c v _ q=>hk c v q) (fun c q=>by rw[a0h (a0y q nD)];exact q) fun c xs q=>by rw[a0h (a0y q nD)];exact q
end
theorem d4g {prog:Program} {w:World} {A:Around} {s:Shared} {R:Result→Shared→Prop} {elt target iter:Expr} {ifs:List Expr} {scope:Scope} {pos:Pos} {it acc:Value} {env:Env} (I:Nat→Shared→Prop)
  (turn:∀ n s,I n s→wpAny (model prog w) A (pyNext it) (fun r s1=>(r=none∧R (.ok .next) s1)∨∃ v,r=some v∧wpAny (model prog w) A (letOwnedTupleGo target it v) (fun _ s2=>wpAny (model prog w) A (assign target env v) (fun _ s3 =>
   wpAny (model prog w) A (e6t ifs env) (fun ok s4=>if ok=true then wpAny (model prog w) A (eval elt env) (fun x s5=>wpAny (model prog w) A (call (.builtin "list.append") [acc,x]) (fun _ s6=>∃ m,m < n∧I m s6) (fun _ _=>False) s5) (fun _ _=>False) s4
    else ∃ m,m < n∧I m s4) (fun _ _=>False) s3) (fun _ _=>False) s2) (fun _ _=>False) s1) (fun _ _=>False) s)
  (n:Nat) (h:I n s):codeAny (model prog w) A (.compLoop (.ListComp elt [⟨target,iter,ifs,0⟩] scope pos) 0 it acc env) R s:=by
 have no:∀ {α:Type} {E:Value→Shared→Prop} {t:Sem α} {Q:α→Shared→Prop} {u:Shared},wpAny (model prog w) A t Q (fun _ _=>False) u→wpAny (model prog w) A t Q E u:=fun z=>wpAny_mono z (fun _ _ q=>q) fun _ _ q=>q.elim
 refine codeAny_loop rfl I (fun n s hI=>wpAny_noted ?_) n h
 rw[compTurn_list]
 refine wpAny_bind (wpAny_standAt (wpAny_bind (wpAny_mono (turn n s hI) (fun r s1 q=>?_) fun _ _ z=>z.elim)))
 rcases q with ⟨rfl,q⟩ | ⟨v,rfl,q⟩
 ·exact wpAny_pure q
 ·refine wpAny_bind (no (thn q fun _ s2 q2=>wpAny_bind (no (thn q2 fun _ s3 q3=>wpAny_bind (no (thn q3 fun ok s4 q4=>?_))))))
  cases ok with
  | false=>exact wpAny_pure ⟨rfl,q4⟩
  | true=>exact wpAny_bind (wpAny_bind (no (thn q4 fun x s5 q5=>wpAny_bind (no (thn q5 fun _ s6 q6=>wpAny_pure (wpAny_pure ⟨rfl,q6⟩))))))
def b0m (σ0:L2.St) (J:It) (g:TG) (tc:TT) (te:TE) (Q:VK) (H1:Hp):Prop:=∀ D,H1 D=none→∃ W:Nat→Nat→List V→L2.St→Hp→Prop,(∃ m,W 0 m [] σ0 (upd H1 D (.lst [])))∧∀ i m ys τ H,W i m ys τ H→H D=some (.lst ys) ∧
 ((J.stop i H∧Q (.ref D) H)∨(J.go i H∧ys.length < sizeLine∧∀ v H',J.yld i H v H'→g v τ H' fun τ2 H2=>tc τ2 H2 fun ok H3=>if ok=true then te τ2 H3 fun y H4=>H4 D=some (.lst ys)∧∃ m',m' < m∧W (i+1) m' (ys++[y]) τ2 (upd H4 D (.lst (ys++[y])))
  else ∃ m',m' < m∧W (i+1) m' ys τ2 H3))
section
variable {X:Cx} {pins:List (Addr×Obj)} {σ:L2.St} {H:Hp} {s:Shared} {scope:Scope} {fv:List Str} {js:List Nat} {target iter elt:Expr} {ifs:List Expr} {pos:Pos} {g:TG} {tc:TT} {te:TE}
theorem c0y {E:Value→Shared→Prop} {J:It} {fp:List Addr} {it:Addr} {tn:Nat→Heap→Prop} {Q:VK} {RR:Value→Addr→Result→Shared→Prop} (tg:List Str) (I:Inv X pins σ H s) (hc:X.calm=true)
  (S:a3b X scope fv js) (T:e3u X.prog X.w X.K target J fp it tn) (st:tn 0 s.heap) (hf:∀ b∈fp,d2l X pins H b)
  (hg:∀ cl C s₀ H₀ ex,PG (a2x X scope (tg++fv) cl C s₀ H₀ ex) target g) (hi:∀ cl C s₀ H₀ ex,e8c (a2x X scope (tg++fv) cl C s₀ H₀ ex) ifs tc) (he:∀ cl C s₀ H₀ ex,PE (a2x X scope (tg++fv) cl C s₀ H₀ ex) elt te) (q:b0m (c0p σ tg.length js) J g tc te Q H)
  (hRR:∀ D C H' s' m,s'.os=s.os→AllBare s'.gens→Un (frs X.stack) fp H H' s.heap s'.heap→HOk X.prog X.w H' s'.heap→s'.heap.Ns C m→H' C=none→s.heap.objs.size≤C→Q (.ref D) H'→RR (.ref D) C (.ok .next) s') :
  wpAny (model X.prog X.w) X.A (newList []) (fun acc s3=>wpAny (model X.prog X.w) X.A (newFunctionEnv scope X.env.globals (a5g X.env.cells scope.names []) [] X.env.qual none .none (some X.env)) (fun cenv s4 =>
   codeAny (model X.prog X.w) X.A (.compStart (.ListComp elt [⟨target,iter,ifs,0⟩] scope pos) 0 (.ref it) acc {cenv with scope:=relabel scope X.env}) (RR acc cenv.locals) s4) E s3) E s:=by
 refine wpAny_newObj_type (wpAny_newFunctionEnv S.cell (by intro y hy;simp at hy) (fun h1 hn k1=>?_) S.kind)
 dsimp only at hn k1 ⊢
 generalize hg2:s.heap.push {cls:=.type "list",dict:=none,data:=.seq ([]:List Value).toArray}=g2 at hn k1 ⊢
 have hC:g2.objs.size=s.heap.objs.size+1:=by rw[←hg2,Heap.size_push]
 have hDC:s.heap.objs.size≠g2.objs.size:=by rw[hC];exact Nat.ne_of_lt (Nat.lt_succ_self _)
 have hle:s.heap.objs.size≤g2.objs.size:=by rw[hC];exact Nat.le_succ _
 have nD:s.heap.get? s.heap.objs.size=none:=Heap.get?_none_of_le (Nat.le_refl _)
 have nC:s.heap.get? g2.objs.size=none:=Heap.get?_none_of_le hle
 have old:∀ b o,s.heap.get? b=some o→h1.get? b=some o:=fun b o e=>k1.extBut b o (Nat.ne_of_lt (Nat.lt_of_lt_of_le (Heap.lt_size e) hle)) (Heap.get?_push_of_some _ (hg2 ▸ Heap.get?_push_of_some _ e))
 have hl:h1.get? s.heap.objs.size=some {cls:=.type "list",data:=.seq #[]}:=k1.extBut _ _ hDC (Heap.get?_push_of_some _ (hg2 ▸ Heap.get?_push_size _ rfl))
 have ob:=T.obj 0 s.heap st
 generalize hcl:a5g X.env.cells scope.names []=cl
 have ok:(a2x X scope (tg++fv) cl g2.objs.size s H fp).Ok:=hcl ▸ e0d I S hle hf fun b hb=>let ⟨o,e,_⟩:=ob b hb;⟨o,e⟩
 have I0:Inv (a2x X scope (tg++fv) cl g2.objs.size s H fp) [] (c0p σ tg.length js) (upd H s.heap.objs.size (.lst [])) {s with heap:=h1,toks:=s.toks+([]:List (Str×Value)).length}:=by
  subst hcl
  exact c9g I S ok old nD nC hDC hl hn
 have st1:tn 0 h1:=T.keep 0 _ _ st fun b _ o e=>old b o e
 obtain⟨W,⟨m0,w0⟩,turn⟩:=q _ (a9c I nD)
 have fpok:∀ {H':Hp} {ps:List (Addr×Obj)},(∀ p∈ps,p.1 ∉ fp)→(∀ b∈fp,H' b=none)→∀ b∈fp,d2l (a2x X scope (tg++fv) cl g2.objs.size s H fp) ps H' b:=fun hps hn b hb=>⟨hn b hb,(ok.exf b hb).1,ok.exfs b hb,.inl hb,(ok.exf b hb).2,fun p hp z=>hps p hp (z ▸ hb)⟩
 have loop:codeAny (model X.prog X.w) X.A (.compLoop (.ListComp elt [⟨target,iter,ifs,0⟩] scope pos) 0 (.ref it) (.ref s.heap.objs.size) (compEnvC scope cl g2.objs.size X.env)) (RR (.ref s.heap.objs.size) g2.objs.size) {s with heap:=h1,toks:=s.toks+([]:List (Str×Value)).length}:=by
  refine d4g (fun n s'=>∃ i ys τ H',Inv (a2x X scope (tg++fv) cl g2.objs.size s H fp) [] τ H' s'∧tn i s'.heap∧(∀ b∈fp,H' b=none)∧W i n ys τ H') (fun n s' hI=>?_) m0 ⟨0,[],_,_,I0,st1,fun b hb=>?_,w0⟩
  ·obtain⟨i,ys,τ,H',I1,t1,f1,w1⟩:=hI
   obtain⟨hD,w1⟩:=turn i n ys τ H' w1
   rcases w1 with ⟨stop,qn⟩ | ⟨go,hz,step⟩
   ·refine thn (T.done (a2x X scope (tg++fv) cl g2.objs.size s H fp) rfl rfl rfl hc i [] s' τ H' _ I1 (fpok (by simp) f1) t1 stop) fun r s2 ⟨hr,I2⟩=>.inl ⟨hr,?_⟩
    obtain⟨m,hn2,_⟩:=I2.loc
    exact hRR _ _ H' s2 m I2.os I2.bare I2.base I2.hok hn2 I2.free hle qn
   ·refine thn (T.item (a2x X scope (tg++fv) cl g2.objs.size s H fp) rfl rfl rfl hc i [] s' τ H' _ I1 (fpok (by simp) f1) t1 go) fun r s2 ⟨u,hr,h2⟩=>.inr ⟨u,hr,thn h2 fun _ s3 ⟨x,H3,I3,r3,y3,t3,f3⟩=>?_⟩
    have I3':=I3.pinned (fpok (by simp) f3) (T.obj _ _ t3)
    have back:∀ {s6:Shared} {τ4:L2.St} {H6:Hp},Inv (a2x X scope (tg++fv) cl g2.objs.size s H fp) ([]++c6s fp s3.heap) τ4 H6 s6→tn (i+1) s6.heap∧∀ b∈fp,H6 b=none:=fun I6 =>
     ⟨T.keep _ _ _ t3 fun b hb o e=>(I6.pin (b,o) (List.mem_append_right _ (List.mem_append_right _ (b2f hb e)))).1,fun b hb=>by
      obtain⟨o,e,_⟩:=T.obj _ _ t3 b hb
      exact(I6.pin (b,o) (List.mem_append_right _ (List.mem_append_right _ (b2f hb e)))).2.1⟩
    refine thn ((hg _ _ _ _ _) _ s3 τ H3 x u _ I3' r3 (step x H3 y3)) fun _ s4 ⟨τ4,H4,I4,q4⟩=>?_
    refine thn ((hi _ _ _ _ _).run _ s4 τ4 H4 _ I4 q4) fun b s5 ⟨H5,I5,q5⟩=>?_
    cases b with
    | false =>
     obtain⟨m',hm,w5⟩:=(show ∃ m',m' < n∧W (i+1) m' ys τ4 H5 from q5)
     obtain⟨b1,b2⟩:=back I5
     exact⟨m',hm,i+1,_,τ4,_,I5.unpinned,b1,b2,w5⟩
    | true =>
     refine thn ((he _ _ _ _ _) _ s5 τ4 H5 _ I5 q5) fun z s6 ⟨y,H6,I6,r6,hD6,m',hm,w6⟩=>?_
     refine thn (c6g _ s6 τ4 H6 (.ref s.heap.objs.size) [y] (.ref s.heap.objs.size) [z] (fun _ H7=>H7=upd H6 s.heap.objs.size (.lst (ys++[y]))) I6 rfl (.cons r6 .nil) ⟨_,ys,y,rfl,rfl,hD6,hz,rfl⟩) fun _ s7 ⟨v7,H7,I7,_,e7⟩=>?_
     subst e7
     obtain⟨b1,b2⟩:=back I7
     exact⟨m',hm,i+1,_,τ4,_,I7.unpinned,b1,b2,w6⟩
  ·obtain⟨o,e,_⟩:=ob b hb
   rw[a0h (Nat.ne_of_lt (Heap.lt_size e))]
   exact(hf b hb).1
 exact codeAny_compStart_list loop (T.self _ 0 _ _ _ st1 loop)
def e3g (n:Nat) (js:List Nat) (wi:TI) (g:TG) (tc:TT) (te:TE):TE:=fun σ H Q=>wi σ H fun J H1=>b0m (c0p σ n js) J g tc te Q H1
theorem a3p {wi:TI} (tg:List Str) (hc:X.calm=true) (S:a3b X scope fv js) (hi:PI X target iter wi)
  (hg:∀ cl C s₀ H₀ ex,PG (a2x X scope (tg++fv) cl C s₀ H₀ ex) target g) (hf:∀ cl C s₀ H₀ ex,e8c (a2x X scope (tg++fv) cl C s₀ H₀ ex) ifs tc) (he:∀ cl C s₀ H₀ ex,PE (a2x X scope (tg++fv) cl C s₀ H₀ ex) elt te) (hs:∀ x,foldedSetIterable iter X.env x=pure x:=by intro _;rfl) :
  PE X (.ListComp elt [⟨target,iter,ifs,0⟩] scope pos) (e3g tg.length js wi g tc te):=by
 constructor;intro pins s σ H Q I h
 rw[eval_ListComp]
 refine wpAny_comprehension_free (use:=none) rfl hs (S.clos I.ok) S.kind S.names (thn (hi pins s σ H _ I h) fun v s1 h1=>thn h1 fun itv s2 h2=>?_)
 obtain⟨it,fp,tn,J,H2,rfl,I2,T,st2,f2,q⟩:=h2
 refine c0y (RR:=fun acc C=>compPost (model X.prog X.w) X.A X.xe none (EP X pins σ Q) acc C) tg I2 hc S T st2 f2 hg hf he q fun D C H' s' m os bare un hok hn nC hC qq=>⟨m,hn,fun h' k=>?_⟩
 obtain⟨IX,fC⟩:=c2p I2 f2 os bare un hok nC hC
 exact⟨.ref D,H',d7t IX fC k,rfl,qq⟩
theorem c4z {wi:TI} {i:Nat} {y:Str} {py spos:Pos} (tg:List Str) (hc:X.calm=true) (hN:X.N.Nodup) (hy:X.N[i]?=some y) (hk:X.env.scope.names.lookup y=some .local) (S:a3b X scope fv js) (hi:PI X target iter wi)
  (hsw:swapsWith (.ListComp elt [⟨target,iter,ifs,0⟩] scope pos) (some (.Name y py)) spos.line X.env=pure true)
  (hg:∀ cl C s₀ H₀ ex,PG (a2x X scope (tg++fv) cl C s₀ H₀ ex) target g) (hf:∀ cl C s₀ H₀ ex,e8c (a2x X scope (tg++fv) cl C s₀ H₀ ex) ifs tc) (he:∀ cl C s₀ H₀ ex,PE (a2x X scope (tg++fv) cl C s₀ H₀ ex) elt te) (hs:∀ x,foldedSetIterable iter X.env x=pure x:=by intro _;rfl) :
  PS X (.Assign [.Name y py] (.ListComp elt [⟨target,iter,ifs,0⟩] scope pos) spos) (fun D σ H=>e3g tg.length js wi g tc te σ H fun v H1=>D.nx (σ.set i (some v)) H1):=by
 constructor;intro pins s σ H D I h
 rw[exec_Assign_Name_used _ _ _ _ hsw]
 refine wpAny_bind (wpAny_standAt (wpAny_bind (wpAny_bind (wpAny_mono (Q:=fun _ s'=>SP X pins D .next s') (E:=X.xe) (wpAny_comprehension_free (use:=some (assign (.Name y py) X.env)) rfl hs (S.clos I.ok) S.kind S.names
  (thn (hi pins s σ H _ I h) fun v s1 h1=>thn h1 fun itv s2 h2=>?_)) (fun _ s' q=>wpAny_pure (wpAny_pure q)) fun _ _ z=>z))))
 obtain⟨it,fp,tn,J,H2,rfl,I2,T,st2,f2,q⟩:=h2
 refine c0y (RR:=fun acc C=>compPost (model X.prog X.w) X.A X.xe (some (assign (.Name y py) X.env)) (fun _ s'=>SP X pins D .next s') acc C) tg I2 hc S T st2 f2 hg hf he q fun L C H' s' m os bare un hok hn nC hC qq=>?_
 obtain⟨IX,fC⟩:=c2p I2 f2 os bare un hok nC hC
 refine wpAny_assign_Name (c8t IX hN hy (.inl hk) (v:=.ref L) rfl (fun s3 I3 ⟨a,k3,ha⟩=>?_) (.inr hk))
 have ne:C≠a:=by
  rcases ha with z | z
  ·rw[z];exact fC.2.1
  ·exact fun w'=>fC.2.2.2.2.1 y a z w'.symm
 exact⟨m,hn.sameBut k3 ne,fun h' k=>⟨_,H',d7t I3 fC k,qq⟩⟩
end
theorem a2l {α:Type} {P:α→Prop}:∀ x∈([]:List α),P x:=fun _ h=>by cases h
theorem a1q {α:Type} {P:α→Prop} {a:α} {l:List α} (h:P a) (t:∀ x∈l,P x):∀ x∈a::l,P x:=fun x hx=>by
 rcases List.mem_cons.mp hx with e | e
 ·exact e ▸ h
 ·exact t x e
theorem a2g {X:Cx} {K:PySem.W.Frag} (hK:X.K=K):IxR X (f0z K):=hK ▸ a0z
theorem b3r {X:Cx} {K:PySem.W.Frag} (hK:X.K=K):IxR X (e8y K):=hK ▸ a0w
theorem e1g {X:Cx} {K:PySem.W.Frag} {tg l:Expr} {tl:TE} (hK:X.K=K) (hl:PE X l tl):PI X tg l (e7l K tl):=by
 subst hK
 exact a1r hl
theorem b6f {σ0 fs:L2.St} {k:Nat} {J:It} {g:TG} {tc:TT} {te:TE} {Q:VK} {H1:Hp} (n:Nat) (f:Nat→Option V) (h0:σ0=List.replicate k none++fs) (hz:n≤sizeLine) (hgo:∀ i H,Same H1 H→i < n→J.go i H) (hstop:∀ H,Same H1 H→J.stop n H)
  (step:∀ i H (ts:L2.St) v H' (R:Option V→L2.St→Hp→Prop),Same H1 H→i < n→ts.length=k→J.yld i H v H'→(∀ (ts2:L2.St) H3,ts2.length=k→Same H H3→R (f i) (ts2++fs) H3) →
   g v (ts++fs) H' fun τ2 H2=>tc τ2 H2 fun ok H3=>if ok=true then te τ2 H3 fun y H4=>R (some y) τ2 H4 else R none τ2 H3)
  (fin:∀ D H',H1 D=none→Same H1 H'→H' D=some (.lst ((List.range n).filterMap f))→Q (.ref D) H'):b0m σ0 J g tc te Q H1:=by
 intro D hD
 refine⟨fun i m ys τ H=>m=n - i∧i≤n∧ys=(List.range i).filterMap f∧(∃ ts:L2.St,ts.length=k∧τ=ts++fs)∧Same H1 H∧H D=some (.lst ys),⟨n,rfl,Nat.zero_le _,rfl,⟨_,List.length_replicate,h0⟩,Same.upd hD,a0b⟩,?_⟩
 rintro i m ys τ H ⟨rfl,hi,rfl,⟨ts,ht,rfl⟩,ss,hd⟩
 refine⟨hd,?_⟩
 by_cases hlt:i < n
 ·have hl:((List.range i).filterMap f).length < sizeLine:=Nat.lt_of_le_of_lt (List.length_filterMap_le _ _) (by rw[List.length_range];omega)
  refine .inr ⟨hgo i H ss hlt,hl,fun v H' y=>step i H ts v H' (fun o τ2 H3=>match o with
   | some y=>H3 D=some (.lst ((List.range i).filterMap f))∧∃ m',m' < n - i∧m'=n - (i+1)∧i+1≤n∧(List.range i).filterMap f++[y]=(List.range (i+1)).filterMap f∧(∃ ts:L2.St,ts.length=k∧τ2=ts++fs)∧Same H1 (upd H3 D (.lst ((List.range i).filterMap f++[y])))∧upd H3 D (.lst ((List.range i).filterMap f++[y])) D=some (.lst ((List.range i).filterMap f++[y]))
   | none=>∃ m',m' < n - i∧m'=n - (i+1)∧i+1≤n∧(List.range i).filterMap f=(List.range (i+1)).filterMap f∧(∃ ts:L2.St,ts.length=k∧τ2=ts++fs)∧Same H1 H3∧H3 D=some (.lst ((List.range i).filterMap f))) ss hlt ht y fun ts2 H3 h2 s3=>?_⟩
  cases e:f i with
  | none =>
   refine⟨n - (i+1),by omega,rfl,hlt,?_,⟨ts2,h2,rfl⟩,ss.trans s3,s3 _ _ hd⟩
   rw[List.range_succ,List.filterMap_append]
   simp[e]
  | some y =>
   refine⟨s3 _ _ hd,n - (i+1),by omega,rfl,hlt,?_,⟨ts2,h2,rfl⟩,(ss.trans s3).again hD,a0b⟩
   rw[List.range_succ,List.filterMap_append]
   simp[e]
 ·have e:i=n:=by omega
  subst e
  exact .inl ⟨hstop H ss,fin D H hD ss hd⟩
end My
namespace My
open PySem PySem.Spec PyProof.Rows L2
theorem d2m {K:PySem.W.Frag} {H:Hp}:∀ ms:List Int,Dts K H (ms.map V.int) (ms.map PyData.int)
 | []=>.nil
 | m::r=>.cons (.int m) (d2m r)
def rAppendA:V→List V→Hp→VK→Prop:=fun x vs H Q=>∃ l xs y,x=.ref l∧vs=[y]∧H l=some (.lst xs)∧xs.length < sizeLine∧∀ H',H' l=some (.lst (xs++[y]))→(∀ b o,b≠l→H b=some o→H' b=some o)→Q .non H'
theorem a4r {X:Cx}:MtM X "list.append" rAppendA:=by
 intro pins s σ H x vs v us Q I rx rv h
 obtain⟨l,xs,y,ex,ev,hH,hz,q⟩:=h
 exact c6g pins s σ H x vs v us Q I rx rv ⟨l,xs,y,ex,ev,hH,hz,q _ a0b fun b o n e=>by rw[a0h n];exact e⟩
theorem e6c {ms:List Int} (h:ms≠[]):PyData.eqv (.list (ms.map PyData.int)) (.list [])=false:=by
 cases ms with
 | nil=>exact absurd rfl h
 | cons m r=>rfl
def e6q:V→V→V→Hp→(Hp→Prop)→Prop:=fun o i v H Q=>∃ p xs k j,o=.ref p∧i=.int k∧H p=some (.lst xs)∧ixN xs.length k=some j∧∀ H',H' p=some (.lst (xs.set j v))→(∀ b o,b≠p→H b=some o→H' b=some o)→Q H'
theorem b9l {X:Cx}:e9m X e6q:=by
 intro pins s σ H o i v ov iv u Q I ro ri rv h
 obtain⟨p,xs,k,j,eo,ei,hp,hj,q⟩:=h
 exact d9g pins s σ H o i v ov iv u Q I ro ri rv ⟨p,xs,k,j,eo,ei,hp,hj,q _ a0b fun b o n e=>by rw[a0h n];exact e⟩
theorem c9w (ms:List Int):SeqAt.shaped (.list (ms.map PyData.int))=true:=by
 show (PyData.canLayAll0 (ms.map .int) && decide (PyData.depthAll (ms.map .int)+1≤64))=true
 rw[canLayAll_ints ms,depthAll_ints ms]
 rfl
end My
namespace My
open PySem PySem.Spec PyProof.Rows L2
def ItE (K:PySem.W.Frag) (a:Addr):It :=
 ⟨fun i H=>∃ xs x,SqL K H a xs∧xs[i]?=some x,fun i H v H'=>∃ p x,(∀ xs,SqL K H a xs→xs[i]?=some x)∧v=.ref p∧H p=none∧H'=upd H p (.tup [.int i,x]),fun i H=>∃ xs,SqL K H a xs∧xs.length=i⟩
section
variable {P:Program} {w:World} {K:PySem.W.Frag}
theorem e4g {X:Cx} {pins:List (Addr×Obj)} {σ:L2.St} {H:Hp} {s:Shared} {e it:Addr} {h':Heap} {t':Nat} (I:Inv X pins σ H s) (fe:d2l X pins H e) (fi:d2l X pins H it) (oe:∃ o,h'.get? e=some o) (oi:∃ o,h'.get? it=some o)
  (k:∀ b o,b≠e→b≠it→s.heap.get? b=some o→h'.get? b=some o):Inv X pins σ H {s with heap:=h',toks:=t'}:=by
 have nb:∀ b o,H b=some o→b≠e∧b≠it:=fun b o q=>⟨fun z=>(by rw[z,fe.1] at q;cases q),fun z=>(by rw[z,fi.1] at q;cases q)⟩
 refine I.call' (ch:=[e,it]) (s':={s with heap:=h',toks:=t'}) rfl ⟨fun b o q _ _ hx=>?_,fun b o q _ _ hx=>?_,fun b o q n _=>n,fun b o q hx=>?_,fun b xs q=>q,fun b o u q=>q,fun b ps (q:H b=_)=>⟨#[],by rw[q];simp⟩⟩ (fun b u q=>?_) I.bare fun b hb=>?_
 ·simp only [List.mem_cons,List.not_mem_nil,or_false,not_or] at hx
  exact k b o hx.1 hx.2 q
 ·simp only [List.mem_cons,List.not_mem_nil,or_false,not_or] at hx
  exact⟨o.slots,k b o hx.1 hx.2 q⟩
 ·by_cases z:b=e
  ·rw[z];exact oe
  ·by_cases y:b=it
   ·rw[y];exact oi
   ·exact⟨o,k b o z y q⟩
 ·refine(I.hok b u q).stay (fun c v hc z=>?_) (fun c z=>z) fun c xs z=>z
  rcases hc with y | y
  ·subst y
   obtain⟨n1,n2⟩:=nb _ _ q
   exact k _ v n1 n2 z
  ·obtain⟨n1,n2⟩:=nb _ _ y
   exact k _ v n1 n2 z
 ·simp only [List.mem_cons,List.not_mem_nil,or_false] at hb
  rcases hb with rfl | rfl
  ·exact⟨fe.2.2.2.1,fe.2.1,fe.2.2.2.2.1,fe.2.2.2.2.2⟩
  ·exact⟨fi.2.2.2.1,fi.2.1,fi.2.2.2.2.1,fi.2.2.2.2.2⟩
theorem d8b (a e it:Addr) (hei:e≠it) {elts:List Expr} {kk:Nat} {tpos:Pos}:e3u P w K (.Tuple elts kk tpos) (ItE K a) [e,it] e (fun i h=>(∃ old,IsEnum h e it i old)∧h.IsListIter it a i) where
 mem:=by simp
 obj:=fun i h ⟨⟨old,he⟩,hi⟩ c hc=>by
  simp only [List.mem_cons,List.not_mem_nil,or_false] at hc
  rcases hc with z | z
  ·rw[z];exact⟨_,he,fun v z=>by simp at z⟩
  ·rw[z]
   obtain⟨o,eo,c,d⟩:=hi
   exact⟨o,eo,fun v z=>by rw[d] at z;cases z⟩
 keep:=fun i h h' ⟨⟨old,he⟩,hi⟩ k=>⟨⟨old,k e (by simp) _ he⟩,hi.at fun o eo=>k it (by simp) o eo⟩
 item:=by
  intro X hP hw hK hc i pins s σ H E I hf st hg
  subst hP hw hK
  obtain⟨⟨old,he⟩,hi⟩:=st
  obtain⟨xs,x,hq,hx⟩:=hg
  obtain⟨its,rv,p,hz⟩:=I.list hq
  obtain⟨u,hu,ru⟩:=rv.get hx
  have hlt:i < its.toArray.size:=by rw[List.size_toArray];exact(List.getElem?_eq_some_iff.mp hu).1
  have hai:a≠it:=fun z=>by
   obtain⟨o,e1,c1,_⟩:=p.isList
   obtain⟨o2,e2,c2,_⟩:=hi
   rw[z,e2] at e1
   cases e1
   rw[c2] at c1
   exact absurd c1 (by decide)
  have hae:e≠a:=fun z=>by
   obtain⟨o,e1,c1,_⟩:=p.isList
   rw[←z,he] at e1
   cases e1
   exact absurd c1 (show ¬ (Value.type "enumerate"=Value.type "list") from by decide)
  refine wpAny_pyNext_enum_itemD (Draws.list (A:=X.A.in1) (I.ok.hd hc) it a hai its.toArray) he ⟨hi,p.isList⟩ hlt hei ?_ fun x' h' tk hx' ho' st' ht' hz' k'=>?_
  ·simp only [List.mem_cons,List.not_mem_nil,or_false,not_or]
   exact⟨hei,hae⟩
  have ex:x'=u:=by
   have:its[i]?=some x':=by simpa using hx'
   rw[hu] at this
   exact(Option.some.inj this).symm
  subst ex
  refine⟨_,rfl,wpAny_letOwnedTupleGo_enum ho' fun h2 he2 hs2=>?_⟩
  have helt:e < s.heap.objs.size:=Heap.lt_size he
  have hilt:it < s.heap.objs.size:=let ⟨o,eo,_⟩:=hi;Heap.lt_size eo
  have nT:s.heap.get? s.heap.objs.size=none:=Heap.get?_none_of_le (Nat.le_refl _)
  have hT:h2.get? s.heap.objs.size=some {cls:=.type "tuple",data:=.seq #[.int i tk,x']}:=hs2.extBut _ _ (Nat.ne_of_gt helt) ht'
  have st2:=st'.1.at fun o eo=>hs2.extBut _ _ (Ne.symm hei) eo
  have I2:Inv X pins σ H {s with heap:=h2,toks:=tk+1}:=e4g I (hf e (by simp)) (hf it (by simp)) ⟨_,he2⟩ (let ⟨o,eo,_⟩:=st2;⟨o,eo⟩) fun b o n1 n2 q=>hs2.extBut _ _ n1 (k' b o n1 n2 q)
  have HT:H s.heap.objs.size=none:=a9c I nT
  have I3:Inv X pins σ (upd H s.heap.objs.size (.tup [.int i,x])) {s with heap:=h2,toks:=tk+1}:=d4v I I2 nT HT ⟨by show 2≤sizeLine;decide,[.int i tk,x'],.cons ⟨_,rfl⟩ (.cons ru .nil),_,hT,rfl,_,rfl⟩
  refine⟨.ref s.heap.objs.size,_,I3,rfl,⟨s.heap.objs.size,x,fun ys hy=>by rw[I.list_inj hy hq];exact hx,rfl,HT,rfl⟩,⟨⟨_,he2⟩,st2⟩,fun c hcm=>?_⟩
  simp only [List.mem_cons,List.not_mem_nil,or_false] at hcm
  rcases hcm with z | z
  ·rw[z,a0h (Nat.ne_of_lt helt)];exact(hf e (by simp)).1
  ·rw[z,a0h (Nat.ne_of_lt hilt)];exact(hf it (by simp)).1
 done:=by
  intro X hP hw hK hc i pins s σ H E I hf st hg
  subst hP hw hK
  obtain⟨⟨old,he⟩,hi⟩:=st
  obtain⟨xs,hq,hx⟩:=hg
  obtain⟨its,rv,p,hz⟩:=I.list hq
  have hai:a≠it:=fun z=>by
   obtain⟨o,e1,c1,_⟩:=p.isList
   obtain⟨o2,e2,c2,_⟩:=hi
   rw[z,e2] at e1
   cases e1
   rw[c2] at c1
   exact absurd c1 (by decide)
  have hn:its.toArray.size=i:=by rw[List.size_toArray,←rv.length];exact hx
  subst hn
  refine wpAny_pyNext_enum_endD (Draws.list (A:=X.A.in1) (I.ok.hd hc) it a hai its.toArray) he ⟨hi,p.isList⟩ fun h' k=>⟨rfl,?_⟩
  obtain⟨f0,f1,f2,f3,f4,f5⟩:=hf it (by simp)
  exact I.turned (t':=s.toks) (fun b o hb eo=>k b o hb eo) f0 f1 f3 f4 f5
 self:=fun _ _ _ _ _ st h=>let ⟨⟨_,he⟩,_⟩:=st;wpAny_pyIter_enum he h
end
section
variable {X:Cx}
def f0v (K:PySem.W.Frag) (ta:TA):TI:=fun σ H R=>ta σ H fun vs H1=>∃ a xs,vs=[.ref a]∧H1 a=some (.lst xs)∧R (ItE K a) H1
theorem e5c {a:Expr} {ta:TA} {p pos:Pos} {elts:List Expr} {kk:Nat} {tpos:Pos} (hg:Gl X "enumerate") (hm:X.mg "enumerate"=none) (ha:PA X [a] ta) (hs:starEach [a] X.env=[(false,eval a X.env)]:=by rfl) :
  PI X (.Tuple elts kk tpos) (.Call (.Name "enumerate" p) [a] [] pos) (f0v X.K ta):=by
 constructor;intro pins s σ H R I h
 refine Call_ (c3h I hg hm boot_enumerate (PyProof.Rows.callWith_type1 (thn (ha pos pins s σ H _ I h) fun us s1 ⟨vs,H1,I1,r1,q1⟩=>?_) hs rfl))
 obtain⟨l,xs,rfl,hl,q⟩:=q1
 obtain⟨u,rfl,ru⟩:=c4u r1
 cases ru
 obtain⟨z,its,n,rv,e⟩:=(show a3q X.prog X.w H1 s1.heap l (.lst xs) from I1.hok l _ hl)
 refine call_enumerate_1 e fun h' he hi hz k=>?_
 have I2:Inv X pins σ H1 {s1 with heap:=h'}:=I1.kept (t':=s1.toks) k
 refine wpAny_pyIter_enum (s:={s1 with heap:=h'}) he ⟨s1.heap.objs.size+1,[s1.heap.objs.size+1,s1.heap.objs.size],_,ItE X.K l,H1,rfl,I2,d8b l _ _ (Nat.ne_of_gt (Nat.lt_succ_self _)),⟨⟨_,he⟩,hi⟩,fun b hb=>?_,q⟩
 have hb':s1.heap.objs.size≤b:=by
  simp only [List.mem_cons,List.not_mem_nil,or_false] at hb
  rcases hb with z | z<;>(rw[z];first | exact Nat.le_succ _ | exact Nat.le_refl _)
 exact I1.fpOk hb' (I1.hok.fresh hb')
end
end My
namespace My
open PySem PySem.Spec PyProof.Rows L2
theorem c3e {X:Cx} {pins:List (Addr×Obj)} {σ:L2.St} {H:Hp} {s:Shared} {d:Addr} {ob:Obj} {kvs:List (Key×V)} (I:Inv X pins σ H s) (e:H d=some (.dK kvs)) (ho:s.heap.get? d=some ob):Inv X pins σ (upd H d (.frz ob (.dK kvs))) s:=by
 have ne:∀ b,H b=none→b≠d:=fun b q z=>by rw[z,e] at q;cases q
 refine⟨I.ok,I.os,I.bare,⟨I.base.keep,I.base.slot,fun b o q n hx=>?_,I.base.there,fun b xs q=>?_,fun b o u q=>?_,fun b ps q=>?_⟩,I.loc,I.cell,?_,fun x c q=>?_,fun p hp=>?_,fun b u q=>?_,I.len⟩
 ·have:=I.base.free b o q n hx
  rw[a0h (ne b this)];exact this
 ·have:=I.base.tups b xs q
  rw[a0h fun z=>by rw[z,e] at this;cases this];exact this
 ·have:=I.base.frzs b o u q
  rw[a0h fun z=>by rw[z,e] at this;cases this];exact this
 ·obtain⟨more,q2⟩:=I.base.tbls b ps q
  exact⟨more,by rw[a0h fun z=>by rw[z,e] at q2;cases q2];exact q2⟩
 ·rw[a0h (ne _ I.free)];exact I.free
 ·rw[a0h (ne _ (I.freeC x c q))];exact I.freeC x c q
 ·obtain⟨a1,a2,a3⟩:=I.pin p hp
  exact⟨a1,by rw[a0h (ne _ a2)];exact a2,a3⟩
 ·by_cases hb:b=d
  ·subst hb
   rw[a0b] at q
   cases q
   exact⟨ho,(I.hok b _ e).stay (fun c v _ z=>z) (fun c z=>by rw[a0h fun y=>by rw[y,e] at z;cases z];exact z) fun c xs z=>by rw[a0h fun y=>by rw[y,e] at z;cases z];exact z⟩
  ·rw[a0h hb] at q
   exact(I.hok b u q).stay (fun c v _ z=>z) (fun c z=>by rw[a0h fun y=>by rw[y,e] at z;cases z];exact z) fun c xs z=>by rw[a0h fun y=>by rw[y,e] at z;cases z];exact z
theorem a1w {α β:Type} {F:α→β→Prop}:∀ {l:List α} {m:List β} {i:Nat} {a:α},Paired F l m→l[i]?=some a→∃ b,m[i]?=some b∧F a b
 | _,_,_,_,.nil,e=>by simp at e
 | _,_,0,_,.cons h _,e=>by simp at e;subst e;exact⟨_,rfl,h⟩
 | _,_,i+1,a,.cons _ t,e=>by
  obtain⟨b,h1,h2⟩:=a1w (i:=i) (a:=a) t (by simpa using e)
  exact⟨b,by simpa using h1,h2⟩
section
variable {P:Program} {w:World} {K:PySem.W.Frag}
theorem e4x {k:Key} {key:Value} (h:(a1c P w).is k key=true):a3k (kV k) key:=by
 rcases a2s h with ⟨i,t,rfl,rfl⟩ | ⟨y,t,rfl,rfl⟩
 ·exact⟨t,rfl⟩
 ·exact⟨t,rfl⟩
end
end My
namespace My
open PySem PySem.Spec PyProof.Rows L2 Builtin.Str PySem.StrLaws
def pre (d:Nat):List (List Nat)→List (List Nat)
 | []=>[]
 | p::r=>p::r.map (d::·)
end My
namespace My
open PySem PySem.Spec PyProof.Rows L2 PyProof
theorem a5n {α β:Type} {F:α→β→Prop} {xs:List α} {bs:List β} (p:Paired F xs bs):xs.length=bs.length:=by
 induction p with
 | nil=>rfl
 | cons _ _ ih=>simp only [List.length_cons,ih]
theorem d2a (k:Int):∀ ms:List Int,inV (.int k) (ms.map V.int)=ms.contains k
 | []=>rfl
 | m::r=>by
  have ih:=d2a k r
  unfold inV at ih ⊢
  rw[List.map_cons,List.any_cons,ih,List.contains_cons]
  show ((m == k) || _)=_
  rw[show (m == k)=(k == m) from (Bool.eq_iff_iff.mpr ⟨fun h=>beq_iff_eq.mpr (beq_iff_eq.mp h).symm,fun h=>beq_iff_eq.mpr (beq_iff_eq.mp h).symm⟩)]
theorem d3z {X:Cx} {K:PySem.W.Frag} (hK:X.K=K):OpR X (compareOp .In) (rIn K false):=hK ▸ d8v
theorem d5o (ms:List Int):(ms.map V.int).all c5a=true:=by
 rw[List.all_eq_true]
 intro v hv
 obtain⟨m,_,rfl⟩:=List.mem_map.mp hv
 rfl
end My
namespace My
open PySem PySem.Spec PyProof.Rows L2 PyProof
structure MkO (K:PySem.W.Frag) (C:Addr):Prop where
 makes:PySem.W.makesIn K C=true
 init:PySem.W.findIn K (.ref C) "__init__"=some (some (.builtin "object.__init__"))
 kp:PySem.W.keepIn K (.ref C)=true
section
variable {X:Cx}
def f0w (C:Addr):TE:=fun _ H Q=>∀ x dx,H x=none→H dx=none→dx≠x→Q (.ref x) (upd (upd H dx (.own x)) x (.ins C dx []))
theorem b8s {C:Addr} {x:Str} {p pos:Pos} (M:MkO X.K C) (hg:Gl X x) (hm:X.mg x=some (.ref C)) (hdb:(x == ("__debug__":Str))=false:=by decide):PE X (.Call (.Name x p) [] [] pos) (f0w C):=by
 constructor;intro pins s σ H Q I h
 refine wpAny_Call_Name_kw (c5n I hg hm ?_ hdb)
 refine PySem.W.callWith_K0 I.kIn M.kp (wpAny_call (d6j I.kIn M.makes M.init (fun self=>PySem.W.Looks.of_pure (PySem.W.oi_bind self)) ?_))
 have I2:=Inv.made (C:=C) I
 have hq:=h (s.heap.objs.size+1) s.heap.objs.size (I.hok.fresh (Nat.le_succ _)) (I.hok.fresh (Nat.le_refl _)) (Nat.ne_of_lt (Nat.lt_succ_self _))
 have Y:=PySem.W.makes_of (M:=model X.prog X.w) I.kIn M.makes
 have e2:((s.heap.push PySem.W.emptyDict).push (PySem.W.instObj C s.heap.objs.size)).get? (s.heap.objs.size+1)=some (PySem.W.instObj C s.heap.objs.size):=by
  have:=Heap.get?_push_size (s.heap.push PySem.W.emptyDict) (o:=PySem.W.instObj C s.heap.objs.size) rfl
  rwa [size_push'] at this
 have t1:PySem.W.Looks (model X.prog X.w) ((s.heap.push PySem.W.emptyDict).push (PySem.W.instObj C s.heap.objs.size)) (typeOf (.ref (s.heap.objs.size+1))) (.ref C):=(PySem.W.Looks.ld e2).andThen .now
 have t2:PySem.W.Looks (model X.prog X.w) ((s.heap.push PySem.W.emptyDict).push (PySem.W.instObj C s.heap.objs.size)) (isInstance (.ref (s.heap.objs.size+1)) (.type "object")) true:=t1.andThen (Y.top.keeps fun b o e=>Heap.get?_push_of_some _ (Heap.get?_push_of_some _ e))
 refine codeAny_call_builtin PySem.W.oi_plain PySem.W.entry_oi (@PySem.W.check_slot (model X.prog X.w) _ _ _ "object.__init__" "object" "__init__" (.ref (s.heap.objs.size+1)) [] [] _ PySem.W.oi_kind PySem.W.oi_split t2 (PySem.W.oi_args (.ref (s.heap.objs.size+1))) ?_)
 rw[PySem.W.oi_run]
 exact wpAny_pure (And.intro rfl ⟨V.ref _,_,I2,rfl,hq⟩)
def e8e (X:Cx) {ι:Type} (cls:ι→Addr) (m:Str) (sp:ι→Sp) (k:Nat):Prop:=∀ l,∃ f fd ps,Cls X.K (cls l)∧b6u X.K (cls l) m f∧a3y X.prog X.w X.K X.mg X.base CX0 k f fd ps (sp l)∧a1j X.K fd ps []
def e2u {ι:Type} (cls:ι→Addr) (m:Str) (sp:ι→Sp) (ta:TE) (t:TA):TE:=fun σ H Q=>ta σ H fun x H1=>∃ a l dx fs,x=.ref a∧H1 a=some (.ins (cls l) dx fs)∧fs.lookup m=none∧t σ H1 fun vs H2=>sp l (x::vs) H2 Q E0
theorem c4m {ι:Type} {cls:ι→Addr} {m:Str} {sp:ι→Sp} {k:Nat} {o e:Expr} {es:List Expr} {ta:TE} {t:TA} {apos pos:Pos} {pl:Sem Bool} (he:PE X o ta) (M:e8e X cls m sp k) (hr:Room k X.A) (ha:PA X (e::es) t)
  (hst:starEach (e::es) X.env=(false,eval e X.env)::starEach es X.env:=by rfl) (hpl:(backTo pos (starEach es X.env)).any (·.1)=false:=by rfl)
  (ht:eval (.Call (.Attribute o m apos) (e::es) [] pos) X.env=(do let ov ← eval o X.env;standAt apos.atName;let (f,first) ← holding [ov] (getMethod ov m pl);callWith pos f first (backTo pos (starEach (e::es) X.env)) (backToKw pos (keywordEach [] X.env))):=by rfl) :
  PE X (.Call (.Attribute o m apos) (e::es) [] pos) (e2u cls m sp ta t):=by
 constructor;intro pins s σ H Q I h
 refine PySem.W.methodCall_KW (pl:=pl) (thn (he pins s σ H _ I h) fun u s1 ⟨x,H1,I1,rx,a,l,dx,fs,ex,ea,lk,q⟩=>?_) ht
 subst ex
 obtain rfl:u=Value.ref a:=rx
 obtain⟨f,fd,ps,c,hm,F,hb⟩:=M l
 refine c3c I1 ea c hm lk ?_
 refine PySem.W.callWith_K (first:=[.ref a]) (h₀:=X.base) I.ok.mod.kin hm.kp (thn (ha pos pins s1 σ H1 _ I1 q) fun us s2 ⟨vs,H2,I2,r,q2⟩=>⟨I2.kIn,?_⟩) hst hpl
 exact d7y (us:=.ref a::us) (vs:=.ref a::vs) F hr hb .nil a1m I2 (.cons rfl r) (by rw[List.append_nil];exact q2)
theorem d5y {ι:Type} {cls:ι→Addr} {m:Str} {sp:ι→Sp} {k:Nat} {o:Expr} {ta:TE} {apos pos:Pos} {pl:Sem Bool} (he:PE X o ta) (M:e8e X cls m sp k) (hr:Room k X.A)
  (ht:eval (.Call (.Attribute o m apos) [] [] pos) X.env=(do let ov ← eval o X.env;standAt apos.atName;let (f,first) ← holding [ov] (getMethod ov m pl);callWith pos f first (backTo pos (starEach [] X.env)) (backToKw pos (keywordEach [] X.env))):=by rfl) :
  PE X (.Call (.Attribute o m apos) [] [] pos) (e2u cls m sp ta f0k):=by
 constructor;intro pins s σ H Q I h
 refine PySem.W.methodCall_KW (pl:=pl) (thn (he pins s σ H _ I h) fun u s1 ⟨x,H1,I1,rx,a,l,dx,fs,ex,ea,lk,q⟩=>?_) ht
 subst ex
 obtain rfl:u=Value.ref a:=rx
 obtain⟨f,fd,ps,c,hm,F,hb⟩:=M l
 refine c3c I1 ea c hm lk ?_
 exact PySem.W.callWith_K0 (first:=[.ref a]) I1.kIn hm.kp (d7y (us:=[.ref a]) (vs:=[.ref a]) F hr hb .nil a1m I1 (.cons rfl .nil) q)
theorem e2m {st:Stmt} {t:TS} (h:PS X.nox st t):PS X st t:=by
 constructor;intro pins s σ H D I hw
 refine wpAny_mono (h pins s σ H D (I.wish _) hw) (fun f s' z=>?_) fun _ _ z=>z.elim
 cases f with
 | next=>obtain⟨σ',H',I',q⟩:=z;exact⟨σ',H',I'.unwish,q⟩
 | brk=>obtain⟨σ',H',I',q⟩:=z;exact⟨σ',H',I'.unwish,q⟩
 | cont=>obtain⟨σ',H',I',q⟩:=z;exact⟨σ',H',I'.unwish,q⟩
 | ret u=>obtain⟨v,σ',H',I',r,q⟩:=z;exact⟨v,σ',H',I'.unwish,r,q⟩
theorem e0m {e:Expr} {z:Str} {k:Nat} {te:TE} {p1 p2 pos:Pos} (he:PE X e te) (hz:z.length≤1000) (hev:evalEach [.Constant (.str z) k p2,.FormattedValue e 114 none p1] X.env=[eval (.Constant (.str z) k p2) X.env,eval (.FormattedValue e 114 none p1) X.env]:=by rfl) :
  PE X (.JoinedStr [.Constant (.str z) k p2,.FormattedValue e 114 none p1] pos) (fun σ H Q=>te σ H fun x H1=>∃ y:Str,x=.str y∧(∀ c∈y.cps.toList,c < 16 ^ 8)∧y.length≤1000∧∀ r,Q (.str r) H1):=by
 constructor;intro pins s σ H Q I h
 refine wpAny_JoinedStr ?_
 rw[hev]
 have e0:(Str.empty++z).length=z.length:=by rw[strLen_append];show 0+_=_;omega
 have hs2:(10002:Nat)+1000≤sizeLine:=by decide
 refine Calls.Constant_str ⟨_,_,rfl,by rw[e0];omega,?_⟩
 refine wpAny_FormattedValue_repr (thn (he pins _ σ H _ (I.tok _) h) fun u s1 ⟨x,H1,I1,r1,y,e1,hc,hl,q⟩=>?_)
 subst e1
 obtain⟨t,rfl⟩:=r1
 have hr:=PySem.StrLaws.reprText_len y hc
 refine wpAny_pyReprObj_str ?_ (by omega)
 refine formatField_str (fun t' tk=>⟨_,_,rfl,by rw[strLen_append,e0];omega,?_⟩) (by omega)
 exact⟨by rw[strLen_append,e0];omega,.str _,H1,(I1.tok _).tok _,⟨_,rfl⟩,q _⟩
end
end My
namespace My
open PySem PySem.Spec PyProof.Rows L2 PyProof
def Ris (xs:Array Nat):Prop:=xs.toList.Pairwise (· < ·)
theorem Ris.lt {xs:Array Nat} (h:Ris xs) {i j x y:Nat} (hij:i < j) (hi:xs[i]?=some x) (hj:xs[j]?=some y):x < y:=by
 rw[←Array.getElem?_toList] at hi hj
 obtain⟨i1,e1⟩:=List.getElem?_eq_some_iff.mp hi
 obtain⟨j1,e2⟩:=List.getElem?_eq_some_iff.mp hj
 have:=List.pairwise_iff_getElem.mp h i j i1 j1 hij
 rw[e1,e2] at this
 exact this
theorem c3j {xs:Array Nat} (h:Ris xs) (j:Nat):∀ (fuel lo hi:Nat),hi - lo≤fuel→lo≤hi→hi≤xs.size→(∀ k x,xs[k]?=some x→k < lo→x < j)→(∀ k x,xs[k]?=some x→hi≤k→j≤x) →
  ∀ k x,xs[k]?=some x→(k < SetTable.below.go xs j fuel lo hi→x < j)∧(SetTable.below.go xs j fuel lo hi≤k→j≤x)
 | 0,lo,hi,hf,hle,hs,h1,h2=>fun k x e=>by
  unfold SetTable.below.go
  have:lo=hi:=by omega
  subst this
  exact⟨h1 k x e,h2 k x e⟩
 | fuel+1,lo,hi,hf,hle,hs,h1,h2=>fun k x e=>by
  unfold SetTable.below.go
  by_cases hlt:lo < hi
  ·rw[if_pos hlt]
   have hm1:lo≤(lo+hi) / 2:=by omega
   have hm2:(lo+hi) / 2 < hi:=by omega
   have hmx:(lo+hi) / 2 < xs.size:=by omega
   have em:xs[(lo+hi) / 2]?=some xs[(lo+hi) / 2]:=Array.getElem?_eq_getElem hmx
   have eg:xs.getD ((lo+hi) / 2) j=xs[(lo+hi) / 2]:=by simp[Array.getD,hmx]
   dsimp only
   rw[eg]
   by_cases hc:xs[(lo+hi) / 2] < j
   ·rw[if_pos hc]
    refine c3j h j fuel _ hi (by omega) (by omega) hs (fun k x e hk=>?_) h2 k x e
    by_cases q:k=(lo+hi) / 2
    ·subst q
     rw[em] at e
     cases e
     exact hc
    ·have:=h.lt (show k < (lo+hi) / 2 by omega) e em
     omega
   ·rw[if_neg hc]
    refine c3j h j fuel lo _ (by omega) hm1 (by omega) h1 (fun k x e hk=>?_) k x e
    by_cases q:k=(lo+hi) / 2
    ·subst q
     rw[em] at e
     cases e
     omega
    ·have:=h.lt (show (lo+hi) / 2 < k by omega) em e
     omega
  ·rw[if_neg hlt]
   have:lo=hi:=by omega
   subst this
   exact⟨h1 k x e,h2 k x e⟩
theorem d2j {xs:Array Nat} (h:Ris xs) (j:Nat) {k x:Nat} (e:xs[k]?=some x):(k < SetTable.below xs j→x < j)∧(SetTable.below xs j≤k→j≤x):=by
 unfold SetTable.below
 refine c3j h j xs.size 0 xs.size (by omega) (Nat.zero_le _) (Nat.le_refl _) (fun k x _ hk=>absurd hk (Nat.not_lt_zero _)) (fun k x e hk=>?_) k x e
 have:=(Array.getElem?_eq_some_iff.mp e).1
 omega
theorem e0j {xs:Array Nat} (h:Ris xs) {i x:Nat} (e:xs[i]?=some x):SetTable.below xs x=i:=by
 have hb:=d2j h x e
 by_cases q:SetTable.below xs x≤i
 ·by_cases q2:SetTable.below xs x=i
  ·exact q2
  ·have hlt:SetTable.below xs x < i:=by omega
   have hi:i < xs.size:=(Array.getElem?_eq_some_iff.mp e).1
   have e2:xs[SetTable.below xs x]?=some xs[SetTable.below xs x]:=Array.getElem?_eq_getElem (by omega)
   have h1:=(d2j h x e2).2 (Nat.le_refl _)
   have h2:=h.lt hlt e2 e
   omega
 ·have:=hb.1 (by omega)
  omega
theorem c5u {xs:Array Nat} (h:Ris xs) {j:Nat} (e:xs[SetTable.below xs j]?≠some j):j ∉ xs.toList:=fun hm=>by
 obtain⟨k,hk,ek⟩:=List.getElem_of_mem hm
 have e1:xs[k]?=some j:=by rw[←Array.getElem?_toList,List.getElem?_eq_getElem hk,ek]
 rw[e0j h e1] at e
 exact e e1
structure TOk (t:SetTable):Prop where
 up:Ris t.place
 nd:t.dummies=#[]
theorem TOk.noDummy {t:SetTable} (h:TOk t) (j:Nat):SetTable.has t.dummies j=false:=by
 rw[h.nd]
 unfold SetTable.has
 simp
theorem TOk.probed {t:SetTable} (h:TOk t) {f:Nat→Int} {z:Int}:∀ (fuel:Nat) (p:SetTable.Probe) {j:Nat} {d:Option Nat},p.dummy=none→SetTable.probe.go t f z fuel p=some (.empty j d)→d=none∧j ∉ t.place.toList
 | 0,p,j,d,hp,e=>by unfold SetTable.probe.go at e;cases e
 | fuel+1,p,j,d,hp,e=>by
  unfold SetTable.probe.go at e
  have adv:∀ q:SetTable.Probe,(t.advance q).dummy=q.dummy:=fun q=>by
   unfold SetTable.advance
   split<;>rfl
  cases hs:t.slot p.j with
  | empty =>
   rw[hs] at e
   cases e
   refine⟨hp,c5u h.up fun z=>?_⟩
   unfold SetTable.slot at hs
   simp only [z,beq_self_eq_true,if_true] at hs
   cases hs
  | dummy =>
   exfalso
   unfold SetTable.slot at hs
   simp only [h.noDummy] at hs
   split at hs<;>cases hs
  | live i =>
   rw[hs] at e
   dsimp only at e
   split at e
   ·cases e
   ·exact TOk.probed h fuel _ (by rw[adv];exact hp) e
theorem TOk.free {t:SetTable} (h:TOk t) {z:Int} {j:Nat} {b:Bool} (e:t.freeSlot z=some (j,b)):j ∉ t.place.toList:=by
 unfold SetTable.freeSlot at e
 cases hp:t.probe (fun _=>z+1) z (t.probeStart z) with
 | none=>rw[hp] at e;cases e
 | some m =>
  rw[hp] at e
  cases m with
  | candidate a b c=>cases e
  | empty j' d =>
   obtain⟨hd,hn⟩:=h.probed _ _ rfl hp
   subst hd
   cases e
   exact hn
end My
namespace My
open PySem PySem.Spec PyProof.Rows L2 PyProof
def f1m (e:Int×Value):Int:=match e.2 with
 | .int n _=>n
 | _=>0
section
variable {prog:Program} {w:World} {A:Around} {E:Value→Shared→Prop} {s:Shared}
def e9r (prog:Program) (w:World) (h:Heap) (a:Addr) (ks:List Int) (led:Bool):Prop :=
 ∃ o es ep t,h.get? a=some o∧o.ExactSet∧o.data=.set es ep t∧ElemsOf (intKind prog w) es.toList∧es.size < scanBound∧t.fits es.size=true∧TOk t∧t.led=led∧(es.toList.map f1m).Perm ks
end
end My
namespace My
open PySem PySem.Spec PyProof.Rows L2 PyProof
def dd (ns:List Int):List Int:=ns.foldl step_dedup []
section
variable {prog:Program} {w:World} {A:Around} {E:Value→Shared→Prop} {s:Shared}
theorem e9r.keep {h h':Heap} {a:Addr} {ks:List Int} {led:Bool} (x:e9r prog w h a ks led) (k:∀ o,h.get? a=some o→h'.get? a=some o):e9r prog w h' a ks led :=
 let ⟨o,es,ep,t,ho,r⟩:=x
 ⟨o,es,ep,t,k o ho,r⟩
end
end My
namespace My
open PySem PySem.Spec PyProof.Rows L2 PyProof
def f0h (h:Heap) (I a:Addr) (first:Value) (i n ep:Nat):Prop:=∃ o,h.get? I=some o∧o.cls=.type "set_iterator"∧o.data=.fields #[first,.int i 0,.ref a,.int n 0,.int ep 0]
def e4r (h:Heap) (a:Addr) (es:Array (Int×Value)) (ep:Nat) (t:SetTable):Prop:=∃ o,h.get? a=some o∧o.ExactSet∧o.data=.set es ep t
theorem f0h.keep {h h':Heap} {I a:Addr} {v:Value} {i n ep:Nat} (x:f0h h I a v i n ep) (k:∀ o,h.get? I=some o→h'.get? I=some o):f0h h' I a v i n ep:=let ⟨o,ho,r⟩:=x;⟨o,k o ho,r⟩
theorem e4r.keep {h h':Heap} {a:Addr} {es:Array (Int×Value)} {ep:Nat} {t:SetTable} (x:e4r h a es ep t) (k:∀ o,h.get? a=some o→h'.get? a=some o):e4r h' a es ep t:=let ⟨o,ho,r⟩:=x;⟨o,k o ho,r⟩
end My
namespace My
open PySem PySem.Spec PyProof.Rows L2 PyProof
theorem e5d:typeLookup (.type "list") "keys"=pure none:=by rw[typeLookup_type,builtinLookup_eq_fast];exact(by kernel_rfl)
theorem b7l:entryFor table "dict.update.loop"=some Builtin.«dict.update.loop»:=entryFor_of_tree (by kernel_rfl)
theorem a7y:plainId "dict.update.loop"=true:=by decide +kernel
section
variable {prog:Program} {w:World} {A:Around} {E:Value→Shared→Prop} {s:Shared}
theorem d6h {l:Addr} {its:Array Value} {Q:Option Value→Shared→Prop} (hL:PlainL s.heap l its) (hA:A.handled=none) (h:∀ h' tk,(∀ b o,s.heap.get? b=some o→h'.get? b=some o)→Q none {s with heap:=h',toks:=tk}):wpAny (model prog w) A (getAttr? (.ref l) "keys") Q E s:=by
 obtain⟨o,n,ho,hc,hd,hdat⟩:=hL
 obtain⟨c,dct,dat,sl⟩:=o
 simp only at hc hdat hd
 subst hc hdat hd
 obtain⟨hp,g,d,tk,os⟩:=s
 have hT:∀ tk',(⟨hp,g,d,tk',os⟩:Shared).TypeIs (.ref l) "list":=fun _=>⟨_,ho,rfl⟩
 have f1:=sub_AttributeError
 have f3:=PySem.F.slot_list_getattribute.lookup
 have f4:=PySem.F.slot_list_getattribute.bind (.ref l)
 have f5:=am_list_getattr_none
 have hname:(["__module__","__name__","__qualname__","__doc__","__annotations__"]:List Str).contains "keys"=false:=by decide +kernel
 unfold getAttr? getAttrBy? getAttrBy
 repeat (any_goals (first | assumption | exact hT _ | ((with_reducible show wpAny _ _ (call (Value.builtin "list.__getattribute__") _ _) _ _ _);refine call_meets PySem.F.slot_list_getattribute (hT _) am_entry_list_getattribute (PySem.F.args_list_getattribute_2 _ _) (meets_getattribute_miss_list l its n sl "keys" _ e5d hname (by decide +kernel)) ⟨ho,hA,fun h' tk' e hx'=>?_⟩) | wp_step))
 obtain⟨t',u',he⟩:=hx'.there
 show wpAny _ _ (getattributeRaised _ _ _ _ _ _ _) _ _ _
 unfold getattributeRaised
 repeat (any_goals (first | assumption | wp_step))
 exact h _ _ hx'.keeps
theorem c2c {K:Type} [DecidableEq K] (vs:List (K×Value)) (k:K) (v:Value):(stored vs k v).length≤vs.length+1:=by
 unfold stored
 split<;>simp
def a7c {K:Type} [DecidableEq K] (vs:List (K×Value)) (ps:List (K×Value)):List (K×Value):=ps.foldl (fun a q=>stored a q.1 q.2) vs
theorem e5w {R:Result→Shared→Prop} {I D l:Addr} {us:List Value} {ks:List (Key×Value)} (hh:A.handled=none) (hlI:l≠I) (hDI:D≠I) (hDl:D≠l) (hlen:us.length=ks.length) (hsz:ks.length < 1000000) :
  ∀ (k i:Nat) (s:Shared),us.length - i=k→i≤us.length→s.heap.IsListIter I l i→s.heap.IsList l us.toArray→(∀ (j:Nat) u,us[j]?=some u→∃ t ku q,u=.ref t∧t≠I∧t≠D∧ks[j]?=some q∧s.heap.IsTuple t #[ku,q.2]∧(a1c prog w).is q.1 ku=true) →
   (∃ vs,s.heap.DictOf (a1c prog w) D vs∧vs=a7c [] (ks.take i)∧vs.length≤i) →
   (∀ h' tk,(∀ b o,b≠I→b≠D→s.heap.get? b=some o→h'.get? b=some o)→h'.DictOf (a1c prog w) D (a7c [] ks)→R (.ok (.ret .none)) {s with heap:=h',toks:=tk}) →
   codeAny (model prog w) A (.builtin "dict.update.loop" ⟨[.ref D,.ref I,rawInt i,.none],[]⟩) R s:=by
 have W:=Walks.list (prog:=prog) (w:=w) (A:=A.in1) hh I l hlI us.toArray
 have us0:us.toArray.size=us.length:=by simp
 intro k
 induction k with
 | zero =>
  intro i s hk hi hit hil ht hg hR
  have hin:i=us.length:=by omega
  refine codeAny_builtin b7l ?_
  rw[Around.under_plainId a7y _]
  refine wpAny_bind (W.done s _ _ ⟨by rw[us0,←hin];exact hit,hil⟩ fun h' tk hk'=>?_)
  obtain⟨vs,dd,rfl,_⟩:=hg
  rw[hin,hlen,List.take_length] at dd
  refine wpAny_bind (wpAny_pure (wpAny_pure (hR h' tk (fun b o b1 _ e=>hk' b o (by simpa using b1) e) ?_)))
  obtain⟨o,es,ep,ho,r⟩:=dd
  exact⟨o,es,ep,hk' D o (by simpa using hDI) ho,r⟩
 | succ k ih =>
  intro i s hk hi hit hil ht hg hR
  have hlt:i < us.length:=by omega
  refine codeAny_builtin b7l ?_
  rw[Around.under_plainId a7y _]
  refine wpAny_bind (W.item i s _ _ (by rw[us0];exact hlt) ⟨hit,hil⟩ fun v h1 tk1 hP hst hk1=>?_)
  obtain⟨t,ku,q,rfl,tI,tD,hq,hT,hkk⟩:=ht i v (by simpa using hP)
  obtain⟨vs,dd,evs,hvl⟩:=hg
  obtain⟨oT,hoT,hcT,nT,hdT⟩:=id hT
  have hoT1:=hk1 t oT (by simpa using tI) hoT
  refine wpAny_bind (wpAny_holding ?_)
  refine wpAny_bind (wpAny_tryCatch ?_)
  unfold Builtin.Dict.pairItems
  refine wpAny_bind (wpAny_typeOf (T:="tuple") ⟨oT,hoT1,hcT⟩ ?_)
  rw[if_pos (by decide)]
  refine wpAny_bind (wpAny_seqItems hoT1 hdT ?_)
  refine wpAny_pure ?_
  show wpAny _ _ (holding [ku,q.2] (dictSet D ku q.2)) _ _ _
  refine wpAny_holding ?_
  unfold dictSet
  try with_reducible refine wpAny_holding ?_
  refine wpAny_bind ((a1c prog w).pyHash hkk ?_)
  have dd1:h1.DictOf (a1c prog w) D vs:=by
   obtain⟨o,es,ep,ho,r⟩:=dd
   exact⟨o,es,ep,hk1 D o (by simpa using hDI) ho,r⟩
  have hv6:vs.length≤sizeLine:=Nat.le_trans hvl (Nat.le_trans hi (by rw[hlen];exact Nat.le_trans (Nat.le_of_lt hsz) (by decide)))
  refine wpAny_dictSetHashed_pairs (s:={s with heap:=h1,toks:=tk1+1}) (hsz:=hv6) hkk dd1 fun h2 dd2 sb=>?_
  have oth:∀ b,b≠D→h2.get? b=h1.get? b:=fun b hb=>sb.2 b hb
  refine wpAny_pure ⟨plainId_quiet a7y _,?_⟩
  have en:rawInt ((i:Int)+1)=rawInt ((i+1:Nat):Int):=by rw[Int.natCast_add];rfl
  rw[en]
  refine ih (i+1) {s with heap:=h2,toks:=tk1+1} (by omega) hlt (hst.1.at fun o e=>(oth I hDI.symm).trans e) (hst.2.at fun o e=>(oth l hDl.symm).trans e) (fun j u eu=>?_) ⟨_,dd2,?_,?_⟩ fun h3 tk3 k3 dd3=>?_
  ·obtain⟨t',ku',q',e1,e2,e3,e4,⟨oT',hoT',r'⟩,e6⟩:=ht j u eu
   exact⟨t',ku',q',e1,e2,e3,e4,⟨oT',(oth _ e3).trans (hk1 _ _ (by simpa using e2) hoT'),r'⟩,e6⟩
  ·rw[List.take_add_one,hq,evs]
   unfold a7c
   rw[List.foldl_append]
   rfl
  ·have:=c2c (K:=Key) vs q.1 q.2
   omega
  ·exact hR h3 tk3 (fun b o b1 b2 e=>k3 b o b1 b2 ((oth b b2).trans (hk1 b o (by simpa using b1) e))) dd3
end
inductive d5z (K:PySem.W.Frag) (H:Hp):List V→List (Key×V)→Prop where
 | nil:d5z K H [] []
 | cons {t:Addr} {q:Key×V} {ws:List V} {ps:List (Key×V)} (h:SqT K H t [kV q.1,q.2]) (r:d5z K H ws ps):d5z K H (.ref t::ws) (q::ps)
def a5v (kvs ps:List (Key×V)):List (Key×V):=ps.foldl (fun a q=>a6e a q.1 q.2) kvs
theorem d7n:∀ {ps:List (Key×V)} {ks:List (Key×Value)} {kvs:List (Key×V)} {vs:List (Key×Value)},KV ps ks→KV kvs vs→KV (a5v kvs ps) (a7c vs ks)
 | _,_,_,_,.nil,h=>h
 | _,_,_,_,.cons (a:=p) (b:=q) e r,h=>by
  have:=KV.put h p.1 e.2
  rw[show stored _ p.1 q.2=stored _ q.1 q.2 by rw[e.1]] at this
  have h2:=d7n r this
  exact h2
theorem a9u:∀ (ps kvs:List (Key×V)),(a5v kvs ps).length≤kvs.length+ps.length
 | [],kvs=>Nat.le_refl _
 | q::r,kvs=>by
  have h1:=a9u r (a6e kvs q.1 q.2)
  have h2:=a3s kvs q.1 q.2
  show (a5v (a6e kvs q.1 q.2) r).length≤kvs.length+(r.length+1)
  omega
theorem d8t {X:Cx} {pins:List (Addr×Obj)} {σ:L2.St} {H:Hp} {s:Shared} (I:Inv X pins σ H s):∀ {ws:List V} {ps:List (Key×V)} {its:List Value},d5z X.K H ws ps→a3e ws its →
  ∃ ks:List (Key×Value),KV ps ks∧its.length=ks.length∧∀ (j:Nat) u,its[j]?=some u→∃ t ku q,u=.ref t∧t < s.heap.objs.size∧ks[j]?=some q∧s.heap.IsTuple t #[ku,q.2]∧(a1c X.prog X.w).is q.1 ku=true
 | _,_,_,.nil,.nil=>⟨[],.nil,rfl,fun j u e=>by simp at e⟩
 | _,_,_,.cons (q:=q) h r,.cons rv rr=>by
  obtain⟨ks,k1,k2,k3⟩:=d8t I r rr
  obtain⟨its,r2,⟨o,ho,hr⟩,_⟩:=I.tuple h
  obtain⟨ku,vu,rfl,e1,e2⟩:=e3p r2
  cases rv
  refine⟨(q.1,vu)::ks,.cons ⟨rfl,e2⟩ k1,by simp[k2],fun j u e=>?_⟩
  cases j with
  | zero =>
   cases e
   exact⟨_,ku,(q.1,vu),rfl,Heap.lt_size ho,rfl,⟨o,ho,hr.1,hr.2⟩,c8l e1⟩
  | succ j=>exact k3 j u (by simpa using e)
theorem a6y {X:Cx} {K:PySem.W.Frag} (hK:X.K=K) (hc:X.calm=true):b9p X (.type "dict") (fun xs H Q=>∃ (a:Addr) (ws:List V) (ps:List (Key×V)),xs=[V.ref a]∧H a=some (.lst ws)∧d5z K H ws ps∧ps.length < 1000000∧∀ p,H p=none→Q (.ref p) (upd H p (.dK (a5v [] ps)))):=by
 subst hK
 intro pins s σ H xs us Q I r h
 obtain⟨a,ws,ps,rfl,ha,hp,hz,q⟩:=h
 obtain⟨u,rfl,ru⟩:=c4u r
 cases ru
 obtain⟨its,rv,pl,_⟩:=I.list (SqL.of ha)
 obtain⟨ks,k1,k2,k3⟩:=d8t I hp rv
 have kl:ks.length=ps.length:=(Paired.length k1).symm
 have hal:a < s.heap.objs.size:=by obtain⟨_,_,e,_⟩:=pl;exact Heap.lt_size e
 refine callType_codes (Q₁:=fun obj s₁=>obj=.ref s.heap.objs.size∧s₁={s with heap:=s.heap.push {cls:=.type "dict",data:=.dict #[]}}) PySem.F.kt_called_dict (PySem.F.kt_typeCall_dict_1 _) PySem.F.entry_dict_init (PySem.kt_code_dict_new _ ⟨rfl,rfl⟩) fun obj s₁ ⟨e1,e2⟩=>?_
 subst e1 e2
 have hnew:(s.heap.push {cls:=.type "dict",data:=.dict #[]}).DictOf (a1c X.prog X.w) s.heap.objs.size []:=Heap.DictOf.new s.heap
 refine⟨hnew.typeIs,PySem.F.args_dict_init_2 _ _,?_⟩
 unfold Builtin.«dict.__init__»
 refine wpAny_bind ?_
 unfold Builtin.Dict.selfAndRest
 refine wpAny_bind (wpAny_notOrdered_dict hnew.typeIs ?_)
 show wpAny _ _ (pure (s.heap.objs.size,[Value.ref a])) _ _ _
 refine wpAny_pure ?_
 show wpAny _ _ (Builtin.Dict.updateFrom "dict.__init__" s.heap.objs.size (.ref a) [] .none) _ _ _
 unfold Builtin.Dict.updateFrom
 have pl1:PlainL (s.heap.push {cls:=.type "dict",data:=.dict #[]}) a its.toArray:=pl.keeps fun b o e=>Heap.get?_push_of_some _ e
 obtain⟨oa,na,hoa,hca,_⟩:=id pl1
 refine wpAny_bind (wpAny_typeOf (T:="list") ⟨oa,hoa,hca⟩ ?_)
 rw[if_pos (by decide)]
 refine wpAny_bind (d6h (s:={s with heap:=s.heap.push {cls:=.type "dict",data:=.dict #[]}}) pl1 (I.ok.hd hc) fun h1 tk1 hk1=>?_)
 rw[if_pos (show (none:Option Value).isNone=true from rfl)]
 refine wpAny_bind (wpAny_rule ?_)
 have pl2:=pl1.keeps hk1
 refine wpAny_bind (wpAny_pyIter_list pl2.isList ?_)
 have dd1:(h1.push {cls:=.type "list_iterator",data:=.fields #[.ref a,.int 0 0]}).DictOf (a1c X.prog X.w) s.heap.objs.size []:=by
  obtain⟨o,es,ep,ho,r⟩:=hnew
  exact⟨o,es,ep,Heap.get?_push_of_some _ (hk1 _ _ ho),r⟩
 have hDl:s.heap.objs.size < h1.objs.size:=by obtain⟨o,es,ep,ho,r⟩:=hnew;exact Heap.lt_size (hk1 _ _ ho)
 have haI:a < h1.objs.size:=Nat.lt_trans hal hDl
 have kp:∀ b o,s.heap.get? b=some o→(h1.push {cls:=.type "list_iterator",data:=.fields #[.ref a,.int 0 0]}).get? b=some o:=fun b o e=>Heap.get?_push_of_some _ (hk1 _ _ (Heap.get?_push_of_some _ e))
 refine wpAny_pure ⟨plainId_quiet a7y _,e5w (A:=X.A.in1) (s:={s with heap:=h1.push {cls:=.type "list_iterator",data:=.fields #[.ref a,.int 0 0]},toks:=tk1}) (I:=h1.objs.size) (D:=s.heap.objs.size) (I.ok.hd hc) (Nat.ne_of_lt haI) (Nat.ne_of_lt hDl) (Nat.ne_of_gt hal) k2 (by rw[kl];exact hz) its.length 0 rfl (Nat.zero_le _) ⟨_,Heap.get?_push_size _ rfl,rfl,rfl⟩ (pl2.isList.push _) (fun j u eu=>?_) ⟨[],dd1,rfl,Nat.le_refl _⟩ fun h3 tk3 k3' dd3=>?_⟩
 ·obtain⟨t,ku,q',e1,e2,e3,⟨oT,hoT,r'⟩,e5⟩:=k3 j u eu
  exact⟨t,ku,q',e1,Nat.ne_of_lt (Nat.lt_trans e2 hDl),Nat.ne_of_lt e2,e3,⟨oT,kp _ _ hoT,r'⟩,e5⟩
 ·refine⟨rfl,.ref _,_,?_,rfl,q _ (I.hok.fresh (Nat.le_refl _))⟩
  refine I.laid (a:=s.heap.objs.size) (o:=.dK (a5v [] ps)) (t':=tk3) (fun b o e=>k3' b o (Nat.ne_of_lt (Nat.lt_trans (Heap.lt_size e) hDl)) (Nat.ne_of_lt (Heap.lt_size e)) (kp b o e)) (Nat.le_refl _) ?_
  exact d1y (Nat.le_trans (a9u ps []) (by simp only [List.length_nil,Nat.zero_add];exact Nat.le_trans (Nat.le_of_lt hz) (by decide))) (beq_eq_false_iff_ne.mpr (Ne.symm (Nat.ne_of_lt I.big))) (d7n k1 .nil) dd3
end My
namespace My
open PySem PySem.Spec PyProof.Rows L2
def ItK (d:Addr) (ob:Obj) (kvs:List (Key×V)):It :=
 ⟨fun i H=>H d=some (.frz ob (.dK kvs))∧i < kvs.length,fun i H v H'=>H'=H∧∃ k x,kvs[i]?=some (k,x)∧v=kV k,fun i H=>H d=some (.frz ob (.dK kvs))∧i=kvs.length⟩
section
variable {P:Program} {w:World} {K:PySem.W.Frag}
theorem c8h {tg:Expr} (d it ep:Addr) (ob:Obj) (kvs:List (Key×V)) (vs:List (Key×Value)) (rel:KV kvs vs) (hat:∀ h:Heap,h.get? d=some ob→h.DictAt (a1c P w) d vs ep) :
  e3u P w K tg (ItK d ob kvs) [it] it (fun i h=>h.IsKeyIter it d i vs.length ep) where
 mem:=by simp
 obj:=fun i h hi c hc=>by
  rw[List.mem_singleton.mp hc]
  obtain⟨o,eo,_,dd⟩:=hi
  exact⟨o,eo,fun v z=>by rw[dd] at z;cases z⟩
 keep:=fun i h h' hi k=>hi.at fun o eo=>k it (by simp) o eo
 item:=by
  intro X hP hw hK hc i pins s σ H E I hf st hg
  subst hP hw hK
  obtain⟨hd,hi⟩:=hg
  obtain⟨ho,_⟩:=(show a3q X.prog X.w H s.heap d (.frz ob (.dK kvs)) from I.hok d _ hd)
  obtain⟨⟨k,x⟩,hq⟩:∃ q,kvs[i]?=some q:=⟨_,List.getElem?_eq_getElem hi⟩
  obtain⟨⟨k2,u⟩,hu,hk2,ru⟩:=a1w rel hq
  cases (show k=k2 from hk2)
  refine wpAny_pyNext_dict_item st (hat _ ho) hu fun key h' hkey hi' hs'=>?_
  obtain⟨f0,f1,f2,f3,f4,f5⟩:=hf it (by simp)
  obtain⟨o',eo',co',do'⟩:=id hi'
  exact⟨key,rfl,e4z eo' co' do' (by decide) ⟨kV k,H,I.turned (t':=s.toks) (fun b o hb eo=>(hs'.2 b hb).trans eo) f0 f1 f3 f4 f5,e4x hkey,⟨rfl,k,x,hq,rfl⟩,hi',fun c hcm=>by rw[List.mem_singleton.mp hcm];exact f0⟩⟩
 done:=by
  intro X hP hw hK hc i pins s σ H E I hf st hg
  subst hP hw hK
  obtain⟨hd,hi⟩:=hg
  obtain⟨ho,_⟩:=(show a3q X.prog X.w H s.heap d (.frz ob (.dK kvs)) from I.hok d _ hd)
  have hn:vs[i]?=none:=List.getElem?_eq_none_iff.mpr (by rw[←rel.length];omega)
  refine wpAny_pyNext_dict_end (I.ok.hd hc) st (hat _ ho) hn fun h' k=>⟨rfl,?_⟩
  obtain⟨f0,f1,f2,f3,f4,f5⟩:=hf it (by simp)
  exact I.turned (t':=s.toks) (fun b o hb eo=>k b o hb eo) f0 f1 f3 f4 f5
 self:=fun _ _ _ _ _ st h=>wpAny_pyIter_keyiter st h
end
theorem d2f {d:Addr} {ob:Obj} {kvs:List (Key×V)} {g:TG} {tb:TS} {D:c9e} {σ:L2.St} {H:Hp} (Pv:Nat→L2.St→Hp→Prop) (h0:Pv 0 σ H) (hl:∀ i σ H,Pv i σ H→H d=some (.frz ob (.dK kvs)))
  (hs:∀ i k x σ H,kvs[i]?=some (k,x)→Pv i σ H→g (kV k) σ H fun σ2 H2=>tb {D with nx:=Pv (i+1),ct:=Pv (i+1),bk:=D.nx} σ2 H2) (hd:∀ σ H,Pv kvs.length σ H→D.nx σ H) :
  ∃ W:Nat→Nat→L2.St→Hp→Prop,(∃ m,W 0 m σ H)∧∀ i m σ H,W i m σ H →
   ((ItK d ob kvs).stop i H∧D.nx σ H)∨((ItK d ob kvs).go i H∧∃ N:L2.St→Hp→Prop,(∀ σ' H',N σ' H'→∃ m',m' < m∧W (i+1) m' σ' H')∧∀ x H',(ItK d ob kvs).yld i H x H'→g x σ H' fun σ2 H2=>tb {D with nx:=N,ct:=N,bk:=D.nx} σ2 H2):=by
 refine⟨fun i m σ H=>m=kvs.length - i∧i≤kvs.length∧Pv i σ H,⟨kvs.length,by simp,Nat.zero_le _,h0⟩,?_⟩
 rintro i m σ H ⟨rfl,hi,p⟩
 by_cases hlt:i < kvs.length
 ·refine .inr ⟨⟨hl i σ H p,hlt⟩,Pv (i+1),fun σ' H' p'=>⟨kvs.length - (i+1),by omega,rfl,hlt,p'⟩,?_⟩
  rintro v H' ⟨rfl,k,x,hx,rfl⟩
  exact hs i k x σ _ hx p
 ·have e:i=kvs.length:=by omega
  subst e
  exact .inl ⟨⟨hl _ σ H p,rfl⟩,hd σ H p⟩
end My
namespace My
open PySem PySem.Spec PyProof.Rows L2 PyProof
def c8e (L:Addr) (h:Heap):List (Addr×Obj):=(List.range h.objs.size).filterMap fun b=>if b=L then none else (h.get? b).map fun o=>(b,o)
theorem d3h {L b:Addr} {h:Heap} {o:Obj} (n:b≠L) (e:h.get? b=some o):(b,o)∈c8e L h :=
 List.mem_filterMap.mpr ⟨b,List.mem_range.mpr (Heap.lt_size e),by rw[if_neg n,e];rfl⟩
theorem d4t {L:Addr} {h:Heap} {p:Addr×Obj} (m:p∈c8e L h):p.1≠L∧h.get? p.1=some p.2:=by
 obtain⟨b,_,e⟩:=List.mem_filterMap.mp m
 by_cases n:b=L
 ·rw[if_pos n] at e;cases e
 ·rw[if_neg n] at e
  obtain⟨o,e1,e2⟩:=Option.map_eq_some_iff.mp e
  subst e2
  exact⟨n,e1⟩
theorem b5z (b:Addr):(Heap.get? ({}:Heap) b)=none:=by
 cases e:Heap.get? ({}:Heap) b with
 | none=>rfl
 | some o=>exact absurd (Heap.lt_size e) (Nat.not_lt_zero _)
theorem e7g {h:Heap} {a:Addr} {m m':Str→Option Value} (x:h.Ns a m) (y:h.Ns a m'):m=m':=by
 obtain⟨o,es,ep,e1,e2,e3⟩:=x
 obtain⟨o',es',ep',f1,f2,f3⟩:=y
 rw[e1] at f1
 cases f1
 rw[e2] at f2
 cases f2
 exact funext fun x=>(e3.2 x).symm.trans (f3.2 x)
theorem d3p {X:Cx} {pins:List (Addr×Obj)} {σ:L2.St} {H:Hp} {s:Shared} {h':Heap} {t':Nat} {D:Addr} {u:HO} (I:Inv X pins σ H s) (keep:∀ b o,b≠X.env.locals→s.heap.get? b=some o→h'.get? b=some o)
  (ns:∀ m,s.heap.Ns X.env.locals m→h'.Ns X.env.locals m) (hD:s.heap.objs.size≤D) (new:a3q X.prog X.w (upd H D u) h' D u):Inv X pins σ (upd H D u) {s with heap:=h',toks:=t'}:=by
 have old:∀ b o,H b=some o→b≠D:=fun b o e=>Nat.ne_of_lt (Nat.lt_of_lt_of_le (I.hok b o e).lt hD)
 have was:∀ b o,s.heap.get? b=some o→b≠D:=fun b o e=>Nat.ne_of_lt (Nat.lt_of_lt_of_le (Heap.lt_size e) hD)
 refine I.step (g':=s.gens) (d':=s.drawn) (ch:=[]) (fun _ z=>nomatch z) (fun b o nL hb _ e n=>keep b o nL e) (fun b o nL hb _ e n=>⟨o.slots,keep b o nL e⟩) (fun b o _ e n=>by rw[a0h (was b o e)];exact n) (fun b o _ e=>?_) (fun b _ e=>by rw[a0h (old b _ e)];exact e) (fun b _ _ e=>by rw[a0h (old b _ e)];exact e) (fun b ps e=>⟨#[],by rw[a0h (old b _ e)];simpa using e⟩) ns (fun b v q=>?_) I.bare
 ·by_cases z:b=X.env.locals
  ·obtain⟨m,hn,_⟩:=I.loc
   obtain⟨o',_,_,e',_⟩:=ns m hn
   exact⟨o',z ▸ e'⟩
  ·exact⟨o,keep b o z e⟩
 ·by_cases hb:b=D
  ·subst hb
   rw[a0b] at q
   cases q
   exact new
  ·rw[a0h hb] at q
   refine(I.hok b v q).stay (fun c v hc z=>keep c v (fun y=>?_) z) (fun c z=>by rw[a0h (old c _ z)];exact z) fun c _ z=>by rw[a0h (old c _ z)];exact z
   have fr:=I.free
   rcases hc with rfl | hc
   ·rw[←y,q] at fr;cases fr
   ·rw[←y,hc] at fr;cases fr
end My
namespace My
open PySem PyProof.Rows
def kf (p:Keyed):Int:=numOf p.1
def f1e (p:Keyed):Prop:=∃ n t,p.1=.int n t
theorem f1e.is {p:Keyed} (h:f1e p):∃ t,p=(.int (kf p) t,p.2):=by
 obtain⟨n,t,e⟩:=h
 refine⟨t,?_⟩
 obtain⟨x,y⟩:=p
 cases (show x=.int n t from e)
 rfl
abbrev Upk (l:List Keyed):Prop:=l.Pairwise fun x y=>kf x≤kf y
structure LInv (A B out:List Keyed) (ia ib:Nat):Prop where
 ha:ia≤A.length
 hb:ib≤B.length
 perm:out.Perm (A.take ia++B.take ib)
 up:Upk out
 leA:∀ x∈out,∀ y∈A.drop ia,kf x≤kf y
 leB:∀ x∈out,∀ y∈B.drop ib,kf x≤kf y
structure c6y (st st':SortSt):Prop where
 kind:kindOf st'=kindOf st
 arr:arrOf st'=arrOf st
 pend:pendingOf st'=pendingOf st
 fail:failedOf st'=failedOf st
theorem c6y.refl (st:SortSt):c6y st st:=⟨rfl,rfl,rfl,rfl⟩
theorem c6y.trans {a b c:SortSt} (h:c6y a b) (k:c6y b c):c6y a c:=⟨k.kind.trans h.kind,k.arr.trans h.arr,k.pend.trans h.pend,k.fail.trans h.fail⟩
theorem c6y.mk' (st:SortSt) (g:Nat):c6y st (SortSt.mk' (kindOf st) (arrOf st) (pendingOf st) g (failedOf st)):=⟨rfl,rfl,rfl,rfl⟩
structure HInv (A B tl:List Keyed) (na nb:Nat):Prop where
 ha:na≤A.length
 hb:nb≤B.length
 perm:tl.Perm (A.drop na++B.drop nb)
 up:Upk tl
 leA:∀ x∈A.take na,∀ y∈tl,kf x≤kf y
 leB:∀ x∈B.take nb,∀ y∈tl,kf x≤kf y
structure Sb (a₀:Array Keyed) (pd:Array (Nat×Nat×Nat)) (lo:Nat) (xs:Array Keyed) (st:SortSt):Prop where
 perm:(arrOf st).Perm a₀
 kind:kindOf st=oneType'
 fail:failedOf st=none
 pend:pendingOf st=pd
 low:∀ k,k < lo→(arrOf st)[k]?=xs[k]?
def Rise (xs:Array Keyed) (lo hi:Nat):Prop:=∀ i j,lo≤i→i≤j→j < hi→K xs i≤K xs j
def Fall (xs:Array Keyed) (lo hi:Nat):Prop:=∀ i j,lo≤i→i≤j→j < hi→K xs j≤K xs i
section
variable {prog:Program} {w:World} {s:Shared} {A:Around} {E:Value→Shared→Prop} {a₀ xs:Array Keyed} {pd:Array (Nat×Nat×Nat)} {lo:Nat} {st:SortSt}
theorem Sb.size (h:Sb a₀ pd lo xs st):(arrOf st).size=a₀.size:=h.perm.size_eq
theorem Sb.set (h:Sb a₀ pd lo xs st) {ys:Array Keyed} (p:ys.Perm (arrOf st)) (l:∀ k,k < lo→ys[k]?=(arrOf st)[k]?):Sb a₀ pd lo xs (setArr st ys):=⟨p.trans h.perm,h.kind,h.fail,h.pend,fun k hk=>(l k hk).trans (h.low k hk)⟩
end
end My
namespace My
open PySem PySem.Spec PyProof.Rows L2
section
variable {X:Cx} {e a b:Expr} {es:List Expr} {te ta tb:TE} {t:TA} {pos:Pos}
def f1v (t u:TS):TS:=fun D σ H=>∃ W:L2.St→Hp→Prop,t {D with nx:=W} σ H∧∀ σ' H',W σ' H'→u D σ' H'
theorem a8n {st:Stmt} {c6d:List Stmt} {t u:TS} (h1:PS X st t) (h2:PSs X c6d u):PSs X (st::c6d) (f1v t u):=by
 constructor;intro pins s σ H D I ⟨W,h,k⟩
 refine wpAny_execs_cons (thn (h1 pins s σ H {D with nx:=W} I h) fun f s1 q=>?_)
 cases f with
 | next =>
  obtain⟨σ',H',I',q⟩:=q
  exact h2 pins s1 σ' H' D I' (k σ' H' q)
 | ret v=>exact q
 | brk=>exact q
 | cont=>exact q
end
theorem e5v.up {n:Nat} {x:Str} (hx:e5v n x) (ha:∀ c∈x.cps.toList,c < 128):e5v n (Txt.upper x):=by
 rw[upper_ascii ha]
 refine⟨?_,fun c hc=>?_⟩
 ·have e:(⟨x.cps.map up1⟩:Str).length=x.length:=by simp[Str.length]
  rw[e]
  exact hx.1
 ·have hc':c∈x.cps.toList.map up1:=by simpa using hc
  obtain⟨d,hd,rfl⟩:=List.mem_map.mp hc'
  have h1:=ha d hd
  have key:∀ d,d < 128→up1 d < 16 ^ 8:=by decide +kernel
  exact key d h1
end My
namespace My
open PySem PySem.Spec PyProof.Rows L2 PyProof
mutual
inductive Tr (H:Hp):V→PyData→Prop where
 | int (i:Int):Tr H (.int i) (.int i)
 | str (x:Str):Tr H (.str x) (.str x)
 | lst {a:Addr} {xs:List V} {ds:List PyData} (h:H a=some (.lst xs)) (r:Trs H xs ds):Tr H (.ref a) (.list ds)
 | tup {a:Addr} {xs:List V} {ds:List PyData} (h:H a=some (.tup xs)) (r:Trs H xs ds):Tr H (.ref a) (.tuple ds)
inductive Trs (H:Hp):List V→List PyData→Prop where
 | nil:Trs H [] []
 | cons {x:V} {d:PyData} {xs:List V} {ds:List PyData} (h:Tr H x d) (r:Trs H xs ds):Trs H (x::xs) (d::ds)
end
mutual
theorem Tr.same {H H':Hp} (s:Same H H') {v:V} {d:PyData} (h:Tr H v d):Tr H' v d:=by
 cases h with
 | int i=>exact .int i
 | str x=>exact .str x
 | lst h r=>exact .lst (s _ _ h) (Trs.same s r)
 | tup h r=>exact .tup (s _ _ h) (Trs.same s r)
theorem Trs.same {H H':Hp} (s:Same H H') {vs:List V} {ds:List PyData} (h:Trs H vs ds):Trs H' vs ds:=by
 cases h with
 | nil=>exact .nil
 | cons h r=>exact .cons (Tr.same s h) (Trs.same s r)
end
mutual
theorem Tr.dt {K:PySem.W.Frag} {H:Hp} {v:V} {d:PyData} (h:Tr H v d):Dt K H v d:=by
 cases h with
 | int i=>exact .int i
 | str x=>exact .str x
 | lst h r=>exact .lst (SqL.of h) (Trs.dts r)
 | tup h r=>exact .tup (SqT.of h) (Trs.dts r)
theorem Trs.dts {K:PySem.W.Frag} {H:Hp} {vs:List V} {ds:List PyData} (h:Trs H vs ds):Dts K H vs ds:=by
 cases h with
 | nil=>exact .nil
 | cons h r=>exact .cons (Tr.dt h) (Trs.dts r)
end
theorem Trs.len {H:Hp}:∀ {vs:List V} {ds:List PyData},Trs H vs ds→vs.length=ds.length
 | _,_,.nil=>rfl
 | _,_,.cons _ r=>by simp only [List.length_cons,Trs.len r]
theorem Trs.get {H:Hp}:∀ {vs:List V} {ds:List PyData},Trs H vs ds→∀ {i:Nat} {v:V},vs[i]?=some v→∃ d,ds[i]?=some d∧Tr H v d
 | _,_,.nil,i,v,e=>by simp at e
 | _,_,.cons h r,0,v,e=>by cases e;exact⟨_,rfl,h⟩
 | _,_,.cons h r,i+1,v,e=>Trs.get r (i:=i) (by simpa using e)
theorem Trs.at {H:Hp}:∀ {vs:List V} {ds:List PyData},Trs H vs ds→∀ {i:Nat} {d:PyData},ds[i]?=some d→∃ v,vs[i]?=some v∧Tr H v d
 | _,_,.nil,i,v,e=>by simp at e
 | _,_,.cons h r,0,v,e=>by cases e;exact⟨_,rfl,h⟩
 | _,_,.cons h r,i+1,v,e=>Trs.at r (i:=i) (by simpa using e)
theorem Trs.app {H:Hp}:∀ {vs us:List V} {ds es:List PyData},Trs H vs ds→Trs H us es→Trs H (vs++us) (ds++es)
 | _,_,_,_,.nil,r=>r
 | _,_,_,_,.cons h q,r=>.cons h (Trs.app q r)
theorem Trs.ints {H:Hp}:∀ {vs:List V} {ns:List Int},Trs H vs (ns.map PyData.int)→vs=ns.map V.int
 | _,[],.nil=>rfl
 | _,n::r,.cons h q=>by cases h;rw[Trs.ints q];rfl
theorem Trs.ofInts {H:Hp}:∀ (ns:List Int),Trs H (ns.map V.int) (ns.map PyData.int)
 | []=>.nil
 | n::r=>.cons (.int n) (Trs.ofInts r)
end My
namespace My
open PySem PySem.Spec PyProof.Rows L2
def off (H H':Hp):Hp:=fun b=>if (H b).isSome=true then none else H' b
def b7h (H:Hp) (D:Addr):Hp:=fun b=>if b=D then none else H b
def c6f (H1 H H3:Hp):Hp:=fun b=>if ((H1 b).isNone && (H b).isSome)=true then none else H3 b
theorem c4w {H H':Hp}:Same (off H H') H':=fun b o e=>by
 unfold off at e
 split at e
 ·cases e
 ·exact e
theorem b7p {H:Hp} {D:Addr}:Same (b7h H D) H:=fun b o e=>by
 unfold b7h at e
 split at e
 ·cases e
 ·exact e
theorem b0p {H H':Hp} {b:Addr} {o:HO} (h:H b=none) (e:H' b=some o):off H H' b=some o:=by
 unfold off
 rw[h]
 exact e
theorem a2k {H H':Hp} {b:Addr} {o:HO} (e:off H H' b=some o):H b=none∧H' b=some o:=by
 unfold off at e
 split at e
 ·cases e
 ·next h =>
  refine⟨?_,e⟩
  cases q:H b with
  | none=>rfl
  | some z=>rw[q] at h;exact absurd rfl h
theorem d9k {H H' H'':Hp} (s:Same H' H''):Same (off H H') (off H H''):=fun b o e=>b0p (a2k e).1 (s _ _ (a2k e).2)
theorem b5j {H1 H H3:Hp} {b:Addr} {o:HO} (h:H b=none) (e:H3 b=some o):c6f H1 H H3 b=some o:=by
 unfold c6f
 rw[h]
 simp[e]
theorem c2v {α β:Type} (f:α→Option β):∀ (as:List α),(List.range as.length).filterMap (fun i=>as[i]?.bind f)=as.filterMap f:=by
 intro as
 have key:∀ n,n≤as.length→(List.range n).filterMap (fun i=>as[i]?.bind f)=(as.take n).filterMap f:=by
  intro n
  induction n with
  | zero=>intro _;rfl
  | succ n ih =>
   intro h
   rw[List.range_succ,List.filterMap_append,ih (by omega),List.take_add_one,List.filterMap_append,List.getElem?_eq_getElem (show n < as.length by omega)]
   congr 1
   show List.filterMap (fun i=>as[i]?.bind f) [n]=List.filterMap f [as[n]]
   simp only [List.filterMap_cons,List.filterMap_nil,List.getElem?_eq_getElem (show n < as.length by omega),Option.bind]
 rw[key as.length (Nat.le_refl _),List.take_length]
theorem e3t {α:Type} {σ0 fs:L2.St} {k:Nat} {K:PySem.W.Frag} {l:Addr} {xs:List V} {g:TG} {tc:TT} {te:TE} {Q:VK} {H1:Hp} (as:List α) (dx:α→PyData) (f:α→Option V) (h0:σ0=List.replicate k none++fs) (hl:H1 l=some (.lst xs)) (ht:Trs H1 xs (as.map dx)) (hz:as.length≤sizeLine)
  (step:∀ a,a∈as→∀ H (ts:L2.St) v (R:Option V→L2.St→Hp→Prop),Same H1 H→ts.length=k→Tr H v (dx a)→(∀ (ts2:L2.St) H3,ts2.length=k→Same H H3→R (f a) (ts2++fs) H3) →
   g v (ts++fs) H fun τ2 H2=>tc τ2 H2 fun ok H3=>if ok=true then te τ2 H3 fun y H4=>R (some y) τ2 H4 else R none τ2 H3)
  (fin:∀ D H',H1 D=none→Same H1 H'→H' D=some (.lst (as.filterMap f))→Q (.ref D) H'):b0m σ0 (Itl K l) g tc te Q H1:=by
 have hn:xs.length=as.length:=by rw[ht.len,List.length_map]
 refine b6f as.length (fun i=>as[i]?.bind f) h0 hz (fun i H ss hi=>(a2j (SqL.of (ss _ _ hl))).go i (by omega)) (fun H ss=>(a2j (SqL.of (ss _ _ hl))).stop _ (by omega)) ?_ fun D H' hD ss hd=>fin D H' hD ss (by rw[hd,c2v])
 rintro i H ts v H' R ss hi hts ⟨rfl,yy⟩ cont
 have e:=yy xs (SqL.of (ss _ _ hl))
 obtain⟨d,hd,tr⟩:=ht.get e
 rw[List.getElem?_map] at hd
 cases ea:as[i]? with
 | none=>rw[ea] at hd;cases hd
 | some a =>
  rw[ea] at hd
  cases hd
  exact step a (List.mem_of_getElem? ea) H' ts v R ss hts (tr.same ss) fun ts2 H3 h2 s3=>by
   have:=cont ts2 H3 h2 s3
   rw[ea] at this
   exact this
theorem e9h {α:Type} {σ0 fs:L2.St} {k:Nat} {K:PySem.W.Frag} {l:Addr} {xs:List V} {g:TG} {tc:TT} {te:TE} {Q:VK} {H1:Hp} (S:Hp→Hp→Hp) (Z:Addr→Hp→Hp) (as:List α) (dx:α→PyData) (dy:α→Option PyData) (h0:σ0=List.replicate k none++fs) (hl:H1 l=some (.lst xs)) (ht:Trs H1 xs (as.map dx)) (hz:as.length≤sizeLine)
  (z1:∀ D H H3 o,H1 D=none→Same H1 H→H D=some o→Same H H3→Same (Z D H) (Z D H3)) (z2:∀ D H H3 o zs,H1 D=none→Same H1 H→H D=some o→Same H H3→Same (S H H3) (Z D (upd H3 D (.lst zs))))
  (z3:∀ D H o zs,H1 D=none→Same H1 H→H D=some o→Same (Z D H) (Z D (upd H D (.lst zs))))
  (step:∀ a,a∈as→∀ H (ts:L2.St) v (R:Option V→L2.St→Hp→Prop),Same H1 H→ts.length=k→Tr H v (dx a)→Tr H1 v (dx a)→(∀ d y (ts2:L2.St) H3,dy a=some d→ts2.length=k→Same H H3→Tr (S H H3) y d→R (some y) (ts2++fs) H3)→(dy a=none→∀ (ts2:L2.St) H3,ts2.length=k→Same H H3→R none (ts2++fs) H3) →
   g v (ts++fs) H fun τ2 H2=>tc τ2 H2 fun ok H3=>if ok=true then te τ2 H3 fun y H4=>R (some y) τ2 H4 else R none τ2 H3)
  (fin:∀ D H' ys,H1 D=none→Same H1 H'→H' D=some (.lst ys)→Trs (Z D H') ys (as.filterMap dy)→Q (.ref D) H'):b0m σ0 (Itl K l) g tc te Q H1:=by
 have hn:xs.length=as.length:=by rw[ht.len,List.length_map]
 intro D hD
 refine⟨fun i m ys τ H=>m=as.length - i∧i≤as.length∧ys.length≤i∧Trs (Z D H) ys ((as.take i).filterMap dy)∧(∃ ts:L2.St,ts.length=k∧τ=ts++fs)∧Same H1 H∧H D=some (.lst ys),⟨as.length,rfl,Nat.zero_le _,Nat.le_refl _,.nil,⟨_,List.length_replicate,h0⟩,Same.upd hD,a0b⟩,?_⟩
 rintro i m ys τ H ⟨rfl,hi,hyl,hp,⟨ts,hts,rfl⟩,ss,hd⟩
 refine⟨hd,?_⟩
 by_cases hlt:i < as.length
 ·refine .inr ⟨(a2j (SqL.of (ss _ _ hl))).go i (by omega),by omega,?_⟩
  rintro v H' ⟨rfl,yy⟩
  have e:=yy xs (SqL.of (ss _ _ hl))
  obtain⟨d,hde,tr⟩:=ht.get e
  have ea:as[i]?=some as[i]:=List.getElem?_eq_getElem hlt
  rw[List.getElem?_map,ea] at hde
  cases hde
  refine step as[i] (List.getElem_mem hlt) H' ts v (fun o τ2 H3=>match o with
   | some y=>H3 D=some (.lst ys)∧∃ m',m' < as.length - i∧m'=as.length - (i+1)∧i+1≤as.length∧(ys++[y]).length≤i+1∧Trs (Z D (upd H3 D (.lst (ys++[y])))) (ys++[y]) ((as.take (i+1)).filterMap dy)∧(∃ ts:L2.St,ts.length=k∧τ2=ts++fs)∧Same H1 (upd H3 D (.lst (ys++[y])))∧upd H3 D (.lst (ys++[y])) D=some (.lst (ys++[y]))
   | none=>∃ m',m' < as.length - i∧m'=as.length - (i+1)∧i+1≤as.length∧ys.length≤i+1∧Trs (Z D H3) ys ((as.take (i+1)).filterMap dy)∧(∃ ts:L2.St,ts.length=k∧τ2=ts++fs)∧Same H1 H3∧H3 D=some (.lst ys)) ss hts (tr.same ss) tr (fun d y ts2 H3 hy h2 s3 tr3=>?_) fun hy ts2 H3 h2 s3=>?_
  ·refine⟨s3 _ _ hd,as.length - (i+1),by omega,rfl,hlt,(by rw[List.length_append,List.length_singleton];omega),?_,⟨ts2,h2,rfl⟩,(ss.trans s3).again hD,a0b⟩
   rw[List.take_add_one,ea,List.filterMap_append]
   refine((hp.same (z1 D H' H3 _ hD ss hd s3)).same (z3 D H3 _ _ hD (ss.trans s3) (s3 _ _ hd))).app ?_
   show Trs _ [y] (List.filterMap dy [as[i]])
   rw[List.filterMap_cons,hy]
   exact .cons (tr3.same (z2 D H' H3 _ _ hD ss hd s3)) .nil
  ·refine⟨as.length - (i+1),by omega,rfl,hlt,by omega,?_,⟨ts2,h2,rfl⟩,ss.trans s3,s3 _ _ hd⟩
   rw[List.take_add_one,ea,List.filterMap_append]
   have e0:List.filterMap dy (some as[i]).toList=[]:=by
    show List.filterMap dy [as[i]]=[]
    rw[List.filterMap_cons,hy]
    rfl
   rw[e0,List.append_nil]
   exact hp.same (z1 D H' H3 _ hD ss hd s3)
 ·have e:i=as.length:=by omega
  subst e
  rw[List.take_length] at hp
  exact .inl ⟨(a2j (SqL.of (ss _ _ hl))).stop _ (by omega),fin D H ys hD ss hd hp⟩
theorem a3x {H:Hp} {D b:Addr} {o:HO} (e:b7h H D b=some o):b≠D∧H b=some o:=by
 unfold b7h at e
 split at e
 ·cases e
 ·next h=>exact⟨h,e⟩
theorem a6k {H:Hp} {D b:Addr} {o:HO} (h:b≠D) (e:H b=some o):b7h H D b=some o:=by
 unfold b7h
 rw[if_neg h]
 exact e
theorem e9g {α:Type} {σ0 fs:L2.St} {k:Nat} {K:PySem.W.Frag} {l:Addr} {xs:List V} {g:TG} {tc:TT} {te:TE} {Q:VK} {H1:Hp} (as:List α) (dx:α→PyData) (dy:α→Option PyData) (h0:σ0=List.replicate k none++fs) (hl:H1 l=some (.lst xs)) (ht:Trs H1 xs (as.map dx)) (hz:as.length≤sizeLine)
  (step:∀ a,a∈as→∀ H (ts:L2.St) v (R:Option V→L2.St→Hp→Prop),Same H1 H→ts.length=k→Tr H v (dx a)→(∀ d y (ts2:L2.St) H3,dy a=some d→ts2.length=k→Same H H3→Tr (c6f H1 H H3) y d→R (some y) (ts2++fs) H3)→(dy a=none→∀ (ts2:L2.St) H3,ts2.length=k→Same H H3→R none (ts2++fs) H3) →
   g v (ts++fs) H fun τ2 H2=>tc τ2 H2 fun ok H3=>if ok=true then te τ2 H3 fun y H4=>R (some y) τ2 H4 else R none τ2 H3)
  (fin:∀ D H' ys,H1 D=none→Same H1 H'→H' D=some (.lst ys)→Trs (b7h H' D) ys (as.filterMap dy)→Q (.ref D) H'):b0m σ0 (Itl K l) g tc te Q H1 :=
 e9h (fun H H3=>c6f H1 H H3) (fun D H=>b7h H D) as dx dy h0 hl ht hz (fun D H H3 o hD s1 hd s3 b ob e=>a6k (a3x e).1 (s3 _ _ (a3x e).2))
  (fun D H H3 o zs hD s1 hd s3 b ob e=>by
   have hb:b≠D:=fun z=>by
    rw[z] at e
    unfold c6f at e
    rw[hD,hd] at e
    simp at e
   refine a6k hb ?_
   rw[a0h hb]
   unfold c6f at e
   split at e
   ·cases e
   ·exact e)
  (fun D H o zs hD s1 hd b ob e=>a6k (a3x e).1 (by rw[a0h (a3x e).1];exact(a3x e).2))
  (fun a ha H ts v R ss hts tr _ cs cn=>step a ha H ts v R ss hts tr cs cn) fin
theorem a5e {Ha H H3:Hp} {b:Addr} {o:HO}:c6f Ha H H3 b=some o ↔ H3 b=some o∧¬ (Ha b=none∧∃ z,H b=some z):=by
 unfold c6f
 constructor
 ·intro e
  split at e
  ·cases e
  ·next h =>
   refine⟨e,fun ⟨h1,z,h2⟩=>h ?_⟩
   rw[h1,h2]
   rfl
 ·rintro⟨e,h⟩
  rw[if_neg]
  ·exact e
  ·intro z
   rw[Bool.and_eq_true] at z
   refine h ⟨Option.isNone_iff_eq_none.mp z.1,?_⟩
   exact Option.isSome_iff_exists.mp z.2
theorem e5e {α:Type} {σ0 fs:L2.St} {k:Nat} {K:PySem.W.Frag} {l:Addr} {xs:List V} {g:TG} {tc:TT} {te:TE} {Q:VK} {H1:Hp} (Hb:Hp) (sb:Same Hb H1) (as:List α) (dx:α→PyData) (dy:α→Option PyData) (h0:σ0=List.replicate k none++fs) (hl:H1 l=some (.lst xs)) (ht:Trs Hb xs (as.map dx)) (hz:as.length≤sizeLine)
  (step:∀ a,a∈as→∀ H (ts:L2.St) v (R:Option V→L2.St→Hp→Prop),Same H1 H→ts.length=k→Tr Hb v (dx a)→(∀ d y (ts2:L2.St) H3,dy a=some d→ts2.length=k→Same H H3→Tr (c6f Hb H H3) y d→R (some y) (ts2++fs) H3)→(dy a=none→∀ (ts2:L2.St) H3,ts2.length=k→Same H H3→R none (ts2++fs) H3) →
   g v (ts++fs) H fun τ2 H2=>tc τ2 H2 fun ok H3=>if ok=true then te τ2 H3 fun y H4=>R (some y) τ2 H4 else R none τ2 H3)
  (fin:∀ D H' ys,H1 D=none→Same H1 H'→H' D=some (.lst ys)→Trs (b7h (c6f Hb H1 H') D) ys (as.filterMap dy)→Q (.ref D) H'):b0m σ0 (Itl K l) g tc te Q H1:=by
 have hn:xs.length=as.length:=by rw[ht.len,List.length_map]
 have z1:∀ D H H3,Same H H3→Same (b7h (c6f Hb H1 H) D) (b7h (c6f Hb H1 H3) D):=fun D H H3 s3 b o e=>by
  obtain⟨e1,e2⟩:=a3x e
  obtain⟨e3,e4⟩:=a5e.mp e2
  exact a6k e1 (a5e.mpr ⟨s3 _ _ e3,e4⟩)
 have z3:∀ D H zs,Same (b7h (c6f Hb H1 H) D) (b7h (c6f Hb H1 (upd H D (.lst zs))) D):=fun D H zs b o e=>by
  obtain⟨e1,e2⟩:=a3x e
  obtain⟨e3,e4⟩:=a5e.mp e2
  exact a6k e1 (a5e.mpr ⟨by rw[a0h e1];exact e3,e4⟩)
 intro D hD
 have hDb:Hb D=none:=sb.free hD
 refine⟨fun i m ys τ H=>m=as.length - i∧i≤as.length∧ys.length≤i∧Trs (b7h (c6f Hb H1 H) D) ys ((as.take i).filterMap dy)∧(∃ ts:L2.St,ts.length=k∧τ=ts++fs)∧Same H1 H∧H D=some (.lst ys),⟨as.length,rfl,Nat.zero_le _,Nat.le_refl _,.nil,⟨_,List.length_replicate,h0⟩,Same.upd hD,a0b⟩,?_⟩
 rintro i m ys τ H ⟨rfl,hi,hyl,hp,⟨ts,hts,rfl⟩,ss,hd⟩
 refine⟨hd,?_⟩
 by_cases hlt:i < as.length
 ·refine .inr ⟨(a2j (SqL.of (ss _ _ hl))).go i (by omega),by omega,?_⟩
  rintro v H' ⟨rfl,yy⟩
  have e:=yy xs (SqL.of (ss _ _ hl))
  obtain⟨d,hde,tr⟩:=ht.get e
  have ea:as[i]?=some as[i]:=List.getElem?_eq_getElem hlt
  rw[List.getElem?_map,ea] at hde
  cases hde
  refine step as[i] (List.getElem_mem hlt) H' ts v (fun o τ2 H3=>match o with
   | some y=>H3 D=some (.lst ys)∧∃ m',m' < as.length - i∧m'=as.length - (i+1)∧i+1≤as.length∧(ys++[y]).length≤i+1∧Trs (b7h (c6f Hb H1 (upd H3 D (.lst (ys++[y])))) D) (ys++[y]) ((as.take (i+1)).filterMap dy)∧(∃ ts:L2.St,ts.length=k∧τ2=ts++fs)∧Same H1 (upd H3 D (.lst (ys++[y])))∧upd H3 D (.lst (ys++[y])) D=some (.lst (ys++[y]))
   | none=>∃ m',m' < as.length - i∧m'=as.length - (i+1)∧i+1≤as.length∧ys.length≤i+1∧Trs (b7h (c6f Hb H1 H3) D) ys ((as.take (i+1)).filterMap dy)∧(∃ ts:L2.St,ts.length=k∧τ2=ts++fs)∧Same H1 H3∧H3 D=some (.lst ys)) ss hts tr (fun d y ts2 H3 hy h2 s3 tr3=>?_) fun hy ts2 H3 h2 s3=>?_
  ·refine⟨s3 _ _ hd,as.length - (i+1),by omega,rfl,hlt,(by rw[List.length_append,List.length_singleton];omega),?_,⟨ts2,h2,rfl⟩,(ss.trans s3).again hD,a0b⟩
   rw[List.take_add_one,ea,List.filterMap_append]
   refine((hp.same (z1 D H' H3 s3)).same (z3 D H3 _)).app ?_
   show Trs _ [y] (List.filterMap dy [as[i]])
   rw[List.filterMap_cons,hy]
   refine .cons (tr3.same fun b o eb=>?_) .nil
   obtain⟨e3,e4⟩:=a5e.mp eb
   have hb:b≠D:=fun z=>e4 ⟨by rw[z];exact hDb,_,by rw[z];exact hd⟩
   exact a6k hb (a5e.mpr ⟨by rw[a0h hb];exact e3,fun ⟨h1,z,h2⟩=>e4 ⟨h1,z,ss _ _ h2⟩⟩)
  ·refine⟨as.length - (i+1),by omega,rfl,hlt,by omega,?_,⟨ts2,h2,rfl⟩,ss.trans s3,s3 _ _ hd⟩
   rw[List.take_add_one,ea,List.filterMap_append]
   have e0:List.filterMap dy (some as[i]).toList=[]:=by
    show List.filterMap dy [as[i]]=[]
    rw[List.filterMap_cons,hy]
    rfl
   rw[e0,List.append_nil]
   exact hp.same (z1 D H' H3 s3)
 ·have e:i=as.length:=by omega
  subst e
  rw[List.take_length] at hp
  exact .inl ⟨(a2j (SqL.of (ss _ _ hl))).stop _ (by omega),fin D H ys hD ss hd hp⟩
theorem e4i {X:Cx} {K:PySem.W.Frag} (hK:X.K=K) (hu:X.A.units+64 < cLine):OpR X (compareOp .NotEq) (f1d K):=by
 subst hK
 exact c2k hu
theorem b4u {X:Cx} {K:PySem.W.Frag} (hK:X.K=K):b9p X (.type "list") (fun xs H Q=>∃ p ys,xs=[.ref p]∧(SqL K H p ys∨SqT K H p ys)∧∀ l,H l=none→Q (.ref l) (upd H l (.lst ys))):=by
 subst hK
 exact a7x
end My
namespace My
open PySem PySem.W PyProof.Rows
def a2d {α:Type} (f:Nat→Int):KasT α→α
 | .ret a=>a
 | .ask i j k=>a2d f (k (decide (f i < f j)))
theorem a8x {α β:Type} (f:Nat→Int) (g:α→KasT β):∀ t:KasT α,a2d f (t.bind g)=a2d f (g (a2d f t))
 | .ret _=>rfl
 | .ask _ _ k=>a8x f g (k _)
def KA (f:Nat→Int) (p:Array Nat) (i:Nat):Int:=f (p.getD i 0)
theorem d5m {f:Nat→Int} {p q:Array Nat} {i j:Nat} (e:p[i]?=q[j]?):KA f p i=KA f q j:=by
 unfold KA
 rw[Array.getD_eq_getD_getElem?,Array.getD_eq_getD_getElem?,e]
theorem d2g {f:Nat→Int} {p:Array Nat} {i j:Nat} (hj:j≤p.size) (k:Nat):KA f (kas_rev p i j) k=if i≤k∧k < j then KA f p (i+j - 1 - k) else KA f p k:=by
 have e:=getElem?_mirror_all (i:=i) hj k
 unfold kas_rev
 by_cases h:i≤k∧k < j
 ·rw[if_pos h] at e ⊢;exact d5m e
 ·rw[if_neg h] at e ⊢;exact d5m e
theorem e2o {f:Nat→Int} {p:Array Nat} {src d:Nat} (hs:src < p.size) (hd:d≤src) (k:Nat):KA f (bubble p src d) k=if k=src - d then KA f p src else if src - d < k∧k≤src then KA f p (k - 1) else KA f p k:=by
 have e:=getElem?_bubble hs d hd k
 by_cases h1:k=src - d
 ·rw[if_pos h1] at e ⊢;exact d5m e
 ·rw[if_neg h1] at e ⊢
  by_cases h2:src - d < k∧k≤src
  ·rw[if_pos h2] at e ⊢;exact d5m e
  ·rw[if_neg h2] at e ⊢;exact d5m e
theorem a7s (p:Array Nat) (i j:Nat):(kas_rev p i j).Perm p:=mirror_perm _ _ _ _
theorem c3q (p:Array Nat) (i j:Nat):(kas_rev p i j).size=p.size:=mirror_size _ _ _ _
def c0j (f:Nat→Int) (p:Array Nat) (hi:Nat):Prop:=∀ i j,i≤j→j < hi→KA f p i≤KA f p j
def c4t (f:Nat→Int) (p:Array Nat) (hi:Nat):Prop:=∀ i j,i≤j→j < hi→KA f p j≤KA f p i
def e1z (f:Nat→Int) (p:Array Nat) (n q:Nat):Prop:=∀ i,n - (q+1)≤i→i < n→KA f p i=KA f p (n - 1)
theorem d3k {f:Nat→Int} {p:Array Nat} {n:Nat} (h:c0j f p n) (h1:1≤n) (z:KA f p (n - 1)≤KA f p n):c0j f p (n+1):=fun i j a b=>by
 by_cases e:j=n
 ·subst e
  by_cases e2:i=j
  ·subst e2;exact Int.le_refl _
  ·exact Int.le_trans (h i (j - 1) (by omega) (by omega)) z
 ·exact h i j a (by omega)
theorem a8r {f:Nat→Int} {p:Array Nat} {n:Nat} (h:c4t f p n) (h1:1≤n) (z:KA f p n≤KA f p (n - 1)):c4t f p (n+1):=fun i j a b=>by
 by_cases e:j=n
 ·subst e
  by_cases e2:i=j
  ·subst e2;exact Int.le_refl _
  ·exact Int.le_trans z (h i (j - 1) (by omega) (by omega))
 ·exact h i j a (by omega)
theorem c5y {f:Nat→Int} {p q:Array Nat} {n:Nat} (h:c4t f p n) (e:∀ k,KA f q k=KA f p k):c4t f q n:=fun i j a b=>by rw[e,e];exact h i j a b
theorem d1d (f:Nat→Int) (p:Array Nat):∀ k n,1≤n→c0j f p n→n≤a2d f (kas_asc p k n)∧a2d f (kas_asc p k n)≤n+k∧c0j f p (a2d f (kas_asc p k n)) ∧
  (a2d f (kas_asc p k n)=n+k∨KA f p (a2d f (kas_asc p k n)) < KA f p (a2d f (kas_asc p k n) - 1))
 | 0,n,_,h=>⟨Nat.le_refl _,Nat.le_refl _,h,.inl rfl⟩
 | k+1,n,h1,h=>by
  have e:a2d f (kas_asc p (k+1) n)=a2d f (if decide (KA f p n < KA f p (n - 1))=true then KasT.ret n else kas_asc p k (n+1)):=rfl
  by_cases z:KA f p n < KA f p (n - 1)
  ·rw[if_pos (decide_eq_true z)] at e
   rw[e]
   exact⟨Nat.le_refl _,Nat.le_add_right _ _,h,.inr z⟩
  ·rw[if_neg (by simpa using z)] at e
   rw[e]
   obtain⟨a,b,c,d⟩:=d1d f p k (n+1) (by omega) (d3k h h1 (by omega))
   exact⟨by omega,by omega,c,d.imp (fun x=>by omega) id⟩
theorem d1r {f:Nat→Int} {p:Array Nat} {n q:Nat} (hn:n≤p.size) (e:e1z f p n q) (k:Nat):KA f (kas_rev p (n - (q+1)) n) k=KA f p k:=by
 rw[d2g hn]
 split
 ·next z=>rw[e k z.1 z.2,e _ (by omega) (by omega)]
 ·rfl
theorem b6g {f:Nat→Int} {p:Array Nat} {n:Nat}:e1z f p n 0:=fun i a b=>by rw[show i=n - 1 by omega]
theorem b7t (f:Nat→Int):∀ (k:Nat) (p:Array Nat) (n q:Nat),1≤n→q+1≤n→n+k≤p.size→c4t f p n→e1z f p n q →
  (a2d f (kas_desc k p n q)).1.Perm p∧n≤(a2d f (kas_desc k p n q)).2.1∧(a2d f (kas_desc k p n q)).2.1≤n+k∧(a2d f (kas_desc k p n q)).2.2+1≤(a2d f (kas_desc k p n q)).2.1 ∧
  c4t f (a2d f (kas_desc k p n q)).1 (a2d f (kas_desc k p n q)).2.1∧e1z f (a2d f (kas_desc k p n q)).1 (a2d f (kas_desc k p n q)).2.1 (a2d f (kas_desc k p n q)).2.2
 | 0,p,n,q,_,h2,_,h4,h5=>⟨.refl _,Nat.le_refl _,Nat.le_refl _,h2,h4,h5⟩
 | k+1,p,n,q,h1,h2,h3,h4,h5=>by
  have e:a2d f (kas_desc (k+1) p n q)=a2d f (if decide (KA f p n < KA f p (n - 1))=true then (if q > 0 then kas_desc k (kas_rev p (n - (q+1)) n) (n+1) 0 else kas_desc k p (n+1) 0)
   else .ask (p.getD (n - 1) 0) (p.getD n 0) fun d=>if d=true then .ret (p,n,q) else kas_desc k p (n+1) (q+1)):=rfl
  by_cases z:KA f p n < KA f p (n - 1)
  ·rw[if_pos (decide_eq_true z)] at e
   by_cases z2:q > 0
   ·rw[if_pos z2] at e
    rw[e]
    obtain⟨a,b,c,d⟩:=b7t f k (kas_rev p (n - (q+1)) n) (n+1) 0 (by omega) (by omega) (by rw[c3q];omega) (c5y (a8r h4 h1 (Int.le_of_lt z)) (d1r (by omega) h5)) b6g
    exact⟨a.trans (a7s _ _ _),by omega,by omega,d⟩
   ·rw[if_neg z2] at e
    rw[e]
    obtain⟨a,b,c,d⟩:=b7t f k p (n+1) 0 (by omega) (by omega) (by omega) (a8r h4 h1 (Int.le_of_lt z)) b6g
    exact⟨a,by omega,by omega,d⟩
  ·rw[if_neg (by simpa using z)] at e
   have e':a2d f (kas_desc (k+1) p n q)=a2d f (if decide (KA f p (n - 1) < KA f p n)=true then KasT.ret (p,n,q) else kas_desc k p (n+1) (q+1)):=e
   by_cases z2:KA f p (n - 1) < KA f p n
   ·rw[if_pos (decide_eq_true z2)] at e'
    rw[e']
    exact⟨.refl _,Nat.le_refl _,Nat.le_add_right n (k+1),h2,h4,h5⟩
   ·rw[if_neg (by simpa using z2)] at e'
    rw[e']
    obtain⟨a,b,c,d⟩:=b7t f k p (n+1) (q+1) (by omega) (by omega) (by omega) (a8r h4 h1 (by omega)) fun i i1 i2=>by
     show KA f p i=KA f p n
     by_cases ei:i=n
     ·rw[ei]
     ·rw[h5 i (by omega) (by omega)];omega
    exact⟨a,by omega,by omega,d⟩
theorem c7q (f:Nat→Int) {n nrem:Nat} {p:Array Nat} (h1:1≤n) (h2:n≤nrem) (h3:nrem≤p.size) (h:c4t f p n) :
  (a2d f (kas_tail3 n nrem p)).2.Perm p∧1≤(a2d f (kas_tail3 n nrem p)).1∧(a2d f (kas_tail3 n nrem p)).1≤nrem∧c0j f (a2d f (kas_tail3 n nrem p)).2 (a2d f (kas_tail3 n nrem p)).1:=by
 have e:a2d f (kas_tail3 n nrem p)=(a2d f (kas_asc (kas_rev p 0 n) (nrem - n) n),kas_rev p 0 n):=by unfold kas_tail3;rw[a8x];rfl
 obtain⟨a,b,c,_⟩:=d1d f (kas_rev p 0 n) (nrem - n) n h1 fun i j i1 i2=>by
  rw[d2g (by omega),d2g (by omega),if_pos (by omega),if_pos (by omega)]
  exact h _ _ (by omega) (by omega)
 rw[e]
 exact⟨a7s _ _ _,by show 1≤a2d f _;omega,by show a2d f _≤nrem;omega,c⟩
theorem d2h (f:Nat→Int) {n nrem:Nat} {p:Array Nat} (h2:n+1≤nrem) (h3:nrem≤p.size) (h:c4t f p (n+1)) :
  (a2d f (kas_descPart n nrem p)).2.Perm p∧1≤(a2d f (kas_descPart n nrem p)).1∧(a2d f (kas_descPart n nrem p)).1≤nrem∧c0j f (a2d f (kas_descPart n nrem p)).2 (a2d f (kas_descPart n nrem p)).1:=by
 obtain⟨a,b,c,d,e1,e2⟩:=b7t f (nrem - (n+1)) p (n+1) 0 (by omega) (by omega) (by omega) h b6g
 have e:a2d f (kas_descPart n nrem p)=a2d f (if (a2d f (kas_desc (nrem - (n+1)) p (n+1) 0)).2.2 > 0 then kas_tail3 (a2d f (kas_desc (nrem - (n+1)) p (n+1) 0)).2.1 nrem (kas_rev (a2d f (kas_desc (nrem - (n+1)) p (n+1) 0)).1
   ((a2d f (kas_desc (nrem - (n+1)) p (n+1) 0)).2.1 - ((a2d f (kas_desc (nrem - (n+1)) p (n+1) 0)).2.2+1)) (a2d f (kas_desc (nrem - (n+1)) p (n+1) 0)).2.1)
   else kas_tail3 (a2d f (kas_desc (nrem - (n+1)) p (n+1) 0)).2.1 nrem (a2d f (kas_desc (nrem - (n+1)) p (n+1) 0)).1):=by unfold kas_descPart;rw[a8x]
 generalize a2d f (kas_desc (nrem - (n+1)) p (n+1) 0)=r at a b c d e1 e2 e
 have sz:=a.size_eq
 by_cases z:r.2.2 > 0
 ·rw[if_pos z] at e
  rw[e]
  obtain⟨x,y⟩:=c7q f (n:=r.2.1) (nrem:=nrem) (p:=kas_rev r.1 (r.2.1 - (r.2.2+1)) r.2.1) (by omega) (by omega) (by rw[c3q];omega) (c5y e1 (d1r (by omega) e2))
  exact⟨x.trans ((a7s _ _ _).trans a),y⟩
 ·rw[if_neg z] at e
  rw[e]
  obtain⟨x,y⟩:=c7q f (n:=r.2.1) (nrem:=nrem) (p:=r.1) (by omega) (by omega) (by omega) e1
  exact⟨x.trans a,y⟩
theorem d5l (f:Nat→Int) {nrem:Nat} {p:Array Nat} (h1:1≤nrem) (h3:nrem≤p.size) :
  (a2d f (kas_count nrem p)).2.Perm p∧1≤(a2d f (kas_count nrem p)).1∧(a2d f (kas_count nrem p)).1≤nrem∧c0j f (a2d f (kas_count nrem p)).2 (a2d f (kas_count nrem p)).1:=by
 obtain⟨a,b,hr,hor⟩:=d1d f p (nrem - 1) 1 (Nat.le_refl _) fun i j i1 i2=>by rw[show i=j by omega];exact Int.le_refl _
 have e:a2d f (kas_count nrem p)=a2d f (if (a2d f (kas_asc p (nrem - 1) 1) == nrem)=true then .ret (a2d f (kas_asc p (nrem - 1) 1),p) else if a2d f (kas_asc p (nrem - 1) 1) > 1 then
  .ask (p.getD 0 0) (p.getD (a2d f (kas_asc p (nrem - 1) 1) - 1) 0) fun c=>if c=true then .ret (a2d f (kas_asc p (nrem - 1) 1),p) else kas_descPart (a2d f (kas_asc p (nrem - 1) 1)) nrem (kas_rev p 0 (a2d f (kas_asc p (nrem - 1) 1)))
  else kas_descPart (a2d f (kas_asc p (nrem - 1) 1)) nrem p):=by unfold kas_count;rw[a8x]
 generalize a2d f (kas_asc p (nrem - 1) 1)=n at a b hr hor e
 by_cases z:n=nrem
 ·subst z
  rw[if_pos (by simp)] at e
  rw[e]
  exact⟨.refl _,h1,Nat.le_refl _,hr⟩
 ·rw[if_neg (by simpa using z)] at e
  have hlt:KA f p n < KA f p (n - 1):=hor.resolve_left (by omega)
  by_cases z2:n > 1
  ·rw[if_pos z2] at e
   have e':a2d f (kas_count nrem p)=a2d f (if decide (KA f p 0 < KA f p (n - 1))=true then .ret (n,p) else kas_descPart n nrem (kas_rev p 0 n)):=e
   by_cases z3:KA f p 0 < KA f p (n - 1)
   ·rw[if_pos (decide_eq_true z3)] at e'
    rw[e']
    exact⟨.refl _,a,by show n≤nrem;omega,hr⟩
   ·rw[if_neg (by simpa using z3)] at e'
    rw[e']
    have eqK:∀ k,KA f (kas_rev p 0 n) k=KA f p k:=fun k=>by
     rw[d2g (by omega)]
     split
     ·next q =>
      have z1:=hr 0 k (by omega) (by omega)
      have z2:=hr k (n - 1) (by omega) (by omega)
      have z3:=hr 0 (0+n - 1 - k) (by omega) (by omega)
      have z4:=hr (0+n - 1 - k) (n - 1) (by omega) (by omega)
      omega
     ·rfl
    have fl:c4t f (kas_rev p 0 n) (n+1):=c5y (a8r (fun i j i1 i2=>by
     have z1:=hr 0 i (by omega) (by omega)
     have z2:=hr j (n - 1) (by omega) (by omega)
     omega) (by omega) (Int.le_of_lt hlt)) eqK
    obtain⟨x,y⟩:=d2h f (n:=n) (nrem:=nrem) (p:=kas_rev p 0 n) (by omega) (by rw[c3q];omega) fl
    exact⟨x.trans (a7s _ _ _),y⟩
  ·rw[if_neg z2] at e
   rw[e]
   exact d2h f (n:=n) (nrem:=nrem) (p:=p) (by omega) h3 (a8r (fun i j i1 i2=>by rw[show i=j by omega];exact Int.le_refl _) (by omega) (Int.le_of_lt hlt))
theorem b8q (f:Nat→Int) {p:Array Nat} {k:Nat} (hr:c0j f p k):∀ d l r,l≤r→r≤k→r - l≤d→(∀ i,i < l→KA f p i≤KA f p k)→(∀ i,r≤i→i < k→KA f p k < KA f p i) →
  a2d f (kas_place p k d l r)≤k∧(∀ i,i < a2d f (kas_place p k d l r)→KA f p i≤KA f p k)∧∀ i,a2d f (kas_place p k d l r)≤i→i < k→KA f p k < KA f p i
 | 0,l,r,h1,h2,h3,q1,q2=>by
  have:l=r:=by omega
  subst this
  exact⟨h2,q1,q2⟩
 | d+1,l,r,h1,h2,h3,q1,q2=>by
  have e:a2d f (kas_place p k (d+1) l r)=a2d f (if l ≥ r then .ret l else .ask (p.getD k 0) (p.getD ((l+r) / 2) 0) fun c=>if c=true then kas_place p k d l ((l+r) / 2) else kas_place p k d ((l+r) / 2+1) r):=rfl
  by_cases z:l ≥ r
  ·rw[if_pos z] at e
   rw[e]
   have:l=r:=by omega
   subst this
   exact⟨h2,q1,q2⟩
  ·rw[if_neg z] at e
   have e':a2d f (kas_place p k (d+1) l r)=a2d f (if decide (KA f p k < KA f p ((l+r) / 2))=true then kas_place p k d l ((l+r) / 2) else kas_place p k d ((l+r) / 2+1) r):=e
   by_cases y:KA f p k < KA f p ((l+r) / 2)
   ·rw[if_pos (decide_eq_true y)] at e'
    rw[e']
    exact b8q f hr d l ((l+r) / 2) (by omega) (by omega) (by omega) q1 fun i i1 i2=>by
     have:=hr ((l+r) / 2) i i1 i2
     omega
   ·rw[if_neg (by simpa using y)] at e'
    rw[e']
    exact b8q f hr d ((l+r) / 2+1) r (by omega) (by omega) (by omega) (fun i i1=>by
     have:=hr i ((l+r) / 2) (by omega) (by omega)
     omega) q2
theorem d4q (f:Nat→Int):∀ (d:Nat) (p:Array Nat) (k:Nat),k+d≤p.size→c0j f p k→(a2d f (kas_bin d p k)).Perm p∧c0j f (a2d f (kas_bin d p k)) (k+d)
 | 0,p,k,_,h=>⟨.refl _,h⟩
 | d+1,p,k,hk,h=>by
  have e:a2d f (kas_bin (d+1) p k)=a2d f (kas_bin d (bubble p k (k - a2d f (kas_place p k k 0 k))) (k+1)):=by
   rw[show kas_bin (d+1) p k=(kas_place p k k 0 k).bind fun l=>kas_bin d (bubble p k (k - l)) (k+1) from rfl,a8x]
  obtain⟨l1,l2,l3⟩:=b8q f h k 0 k (by omega) (by omega) (by omega) (fun i i1=>by omega) fun i i1 i2=>by omega
  generalize a2d f (kas_place p k k 0 k)=l at l1 l2 l3 e
  obtain⟨a,b⟩:=d4q f d (bubble p k (k - l)) (k+1) (by rw[bubble_size];omega) fun i j i1 i2=>by
   rw[e2o (by omega) (by omega),e2o (by omega) (by omega),show k - (k - l)=l by omega]
   repeat' split
   all_goals first
    | omega
    | exact l2 _ (by omega)
    | exact Int.le_of_lt (l3 _ (by omega) (by omega))
    | exact h _ _ (by omega) (by omega)
  rw[e]
  exact⟨a.trans (bubble_perm _ _ _),by rw[show k+(d+1)=k+1+d by omega];exact b⟩
theorem d9u (f:Nat→Int) {n:Nat} (h1:1≤n):(a2d f (kas_sort n)).toList.Perm (List.range n)∧c0j f (a2d f (kas_sort n)) n:=by
 have sz:(List.toArray (List.range n)).size=n:=by simp
 obtain⟨a,b,c,d⟩:=d5l f (nrem:=n) (p:=List.toArray (List.range n)) h1 (Nat.le_of_eq sz.symm)
 have e:a2d f (kas_sort n)=a2d f (if (a2d f (kas_count n (List.toArray (List.range n)))).1 < n then kas_bin (n - max (a2d f (kas_count n (List.toArray (List.range n)))).1 1) (a2d f (kas_count n (List.toArray (List.range n)))).2 (max (a2d f (kas_count n (List.toArray (List.range n)))).1 1)
  else .ret (a2d f (kas_count n (List.toArray (List.range n)))).2):=by unfold kas_sort;rw[a8x]
 generalize a2d f (kas_count n (List.toArray (List.range n)))=r at a b c d e
 have s2:=a.size_eq
 by_cases z:r.1 < n
 ·rw[if_pos z,show max r.1 1=r.1 by omega] at e
  rw[e]
  obtain⟨x,y⟩:=d4q f (n - r.1) r.2 r.1 (by omega) d
  rw[show r.1+(n - r.1)=n by omega] at y
  exact⟨by simpa using (x.trans a).toList,y⟩
 ·rw[if_neg z] at e
  rw[e]
  rw[show r.1=n by omega] at d
  exact⟨by show r.2.toList.Perm _;simpa using a.toList,d⟩
theorem d4i {p:Prop} (h:∀ G:Prop,(p→G)→G):p:=h p id
section
open L2
theorem c3v {a b:TS} {D:c9e} {σ:L2.St} {H:Hp} (h:∀ b',b'=b→e6j a b' D σ H):e6j a b D σ H:=h b rfl
theorem b1j {a b:TS} {D:c9e} {R:VK} {B C:L2.St→Hp→Prop} {σ:L2.St} {H:Hp} (h:∀ b',b'=b→e6j a b' D σ H):(c9e.mk (e6j a b D) R B C).nx σ H:=h b rfl
theorem c6r {g:TG} {tb:TS} {x:V} {D:c9e} {σ:L2.St} {H:Hp} (h:∀ D',D'=D→g x σ H fun σ2 H2=>tb D' σ2 H2):g x σ H fun σ2 H2=>tb D σ2 H2:=h D rfl
end
theorem us1 {α:Type} {us:List α} (h:us.length=1):∃ a,us=[a]:=List.length_eq_one_iff.mp h
theorem us2 {α:Type} {us:List α} (h:us.length=2):∃ a b,us=[a,b]:=by
 obtain⟨a,t,rfl⟩:=List.exists_cons_of_length_eq_add_one h
 obtain⟨b,rfl⟩:=us1 (Nat.succ.inj h)
 exact⟨a,b,rfl⟩
theorem us3 {α:Type} {us:List α} (h:us.length=3):∃ a b c,us=[a,b,c]:=by
 obtain⟨a,t,rfl⟩:=List.exists_cons_of_length_eq_add_one h
 obtain⟨b,c,rfl⟩:=us2 (Nat.succ.inj h)
 exact⟨a,b,c,rfl⟩
theorem us4 {α:Type} {us:List α} (h:us.length=4):∃ a b c d,us=[a,b,c,d]:=by
 obtain⟨a,t,rfl⟩:=List.exists_cons_of_length_eq_add_one h
 obtain⟨b,c,d,rfl⟩:=us3 (Nat.succ.inj h)
 exact⟨a,b,c,d,rfl⟩
end My
namespace My
open PySem PySem.SetTable
def LS (mask:Nat) (h:Int):Nat→Nat×Nat
 | 0=>(bits h%(mask+1),bits h)
 | r+1=>leap mask (LS mask h r).1 (LS mask h r).2
def rl (mask i:Nat):Nat:=runEnd mask i - i
def f2b (mask:Nat):Prop:=mask=7∨mask=31∨mask=127
def Ps (mask:Nat) (h:Int) (r k:Nat):Nat:=(LS mask h r).1+k
def Bef (mask:Nat) (h:Int) (ok:Nat→Prop) (r k:Nat):Prop:=(∀ r',r' < r→∀ k',k'≤rl mask (LS mask h r').1→ok (Ps mask h r' k'))∧∀ k',k' < k→ok (Ps mask h r k')
structure TT (t:SetTable) (es:List (Int×Value)):Prop where
 size:f2b t.mask
 up:Ris t.place
 nd:t.dummies=#[]
 within:∀ j∈t.place.toList,j≤t.mask
 len:t.place.toList.length=es.length
 fnd:∀ j e,(j,e)∈t.place.toList.zip es→∃ r k,k≤rl t.mask (LS t.mask e.1 r).1∧Ps t.mask e.1 r k=j∧Bef t.mask e.1 (·∈t.place.toList) r k
end My
namespace My
open PySem PySem.Spec PyProof.Rows L2 PyProof PySem.SeqAt
def KpT (h h':Heap):Prop:=∀ b o xs n,h.get? b=some o→o.cls=.type "tuple"→o.data=.seq xs n→h'.get? b=some o
structure HVK (K:Type) [DecidableEq K] where
 is:Heap→K→Value→Prop
 hash:K→Int
 d:Nat
 inj:∀ {h:Heap} {x y:K} {v:Value},is h x v→is h y v→x=y
 keep:∀ {h h':Heap} {k:K} {v:Value},is h k v→KpT h h'→is h' k v
 pyHash:∀ {prog:Program} {w:World} {A:Around} {E:Value→Shared→Prop} {s:Shared} {k:K} {v:Value} {Q:Int→Shared→Prop},A.units+d < cLine→is s.heap k v→(∀ tk,Q (hash k) {s with toks:=tk})→wpAny (model prog w) A (PySem.pyHash v) Q E s
 eq:∀ {A:Around} {s:Shared} {x y:K} {u v:Value},A.units+d < cLine→is s.heap x u→is s.heap y v→EqAt A s u v (decide (x=y))
 quiet:∀ {prog:Program} {w:World} {A:Around} {E:Value→Shared→Prop} {s:Shared} {k:K} {v:Value} {Q:Bool→Shared→Prop} (n:Nat),d≤n→is s.heap k v→Q true s→wpAny (model prog w) A (eqIsQuiet n v) Q E s
 cls:∀ {prog:Program} {w:World} {A:Around} {E:Value→Shared→Prop} {s:Shared} {k:K} {v:Value} {Q:Bool→Shared→Prop} (n:Nat),d≤n→is s.heap k v→Q false s→wpAny (model prog w) A (ofAClassStatement n v) Q E s
 byv:∀ {prog:Program} {w:World} {A:Around} {E:Value→Shared→Prop} {s:Shared} {k:K} {v:Value} {Q:Bool→Shared→Prop} (n:Nat),d≤n→is s.heap k v→Q true s→wpAny (model prog w) A (hashByValue n v) Q E s
def HVK.int:HVK Int where
 is:=fun _ k v=>∃ t,v=.int k t
 hash:=hashInt
 d:=0
 inj:=fun ⟨t,e⟩ ⟨t',e'⟩=>by subst e;cases e';rfl
 keep:=fun x _=>x
 pyHash:=fun _ ⟨t,e⟩ h=>by subst e;exact wpAny_pyHash_int (h _)
 eq:=fun _ ⟨t,e⟩ ⟨t',e'⟩ prog w E Q h=>by subst e;subst e';exact wpAny_eqBool_int h
 quiet:=fun n _ ⟨t,e⟩ h=>by
  subst e
  rw[eqIsQuiet_byValue n rfl]
  exact wpAny_pure h
 cls:=fun n _ ⟨t,e⟩ h=>by
  subst e
  unfold ofAClassStatement
  exact wpAny_pure h
 byv:=fun n _ ⟨t,e⟩ h=>by
  subst e
  unfold hashByValue
  exact wpAny_pure h
section
variable {K L:Type} [DecidableEq K] [DecidableEq L]
def c9i (h:Heap) (v u u':Value):Prop:=∃ a o n,v=.ref a∧h.get? a=some o∧o.cls=.type "tuple"∧o.data=.seq #[u,u'] n
theorem HVK.pair_hash (V:HVK K) (W:HVK L) {prog:Program} {w:World} {A:Around} {E:Value→Shared→Prop} {s:Shared} {x:K} {y:L} {v u u':Value} {Q:Int→Shared→Prop} (hu:A.units+(max V.d W.d+1) < cLine) (T:c9i s.heap v u u') (hx:V.is s.heap x u) (hy:W.is s.heap y u')
  (h:∀ tk,Q (reduceHash (Builtin.Tuple.tupleHashOf [V.hash x,W.hash y])) {s with toks:=tk}):wpAny (model prog w) A (PySem.pyHash v) Q E s:=by
 obtain⟨a,o,n,rfl,ho,hc,hd⟩:=T
 have hT:s.TypeIs (.ref a) "tuple":=⟨o,ho,hc⟩
 have h1:A.in1.units+V.d < cLine:=by show A.units+1+V.d < cLine;have:=Nat.le_max_left V.d W.d;omega
 have h2:A.in1.units+W.d < cLine:=by show A.units+1+W.d < cLine;have:=Nat.le_max_right V.d W.d;omega
 unfold PySem.pyHash
 unfold pyHashByItsType;refine wpAny_bind (wpAny_cRoomFor_or (.inr (show A.units < cLine by omega)) (wpAny_bind (wpAny_specialOf hT PySem.F.slot_tuple_hash.lookup ?_)))
 rw[if_neg (show ¬ (some (Value.builtin "tuple.__hash__") == some Value.none)=true by rw[beq_builtin_none];exact Bool.false_ne_true)]
 refine wpAny_bind (wpAny_specialOf hT PySem.F.slot_tuple_hash.lookup ?_)
 show wpAny _ _ (callSpecialIfBoundUnlessNone? (.ref a) (Str.ofString "__hash__") _>>=_) _ _ _
 refine wpAny_bind (wpAny_callSpecialIfBoundUnlessNone?_slot hT PySem.F.slot_tuple_hash (wpAny_call_entry PySem.F.slot_tuple_hash hT PySem.F.entry_tuple_hash ?_ (PySem.F.args_tuple_hash_1 _)))
 show wpAny _ _ (Builtin.Tuple.tupleItemsOf (.ref a)>>=fun its=>_) _ _ _
 refine wpAny_bind (wpAny_tupleItemsOf ho hd (wpAny_bind ?_))
 rw[←Array.forIn_toList,show (#[u,u']:Array Value).toList=[u,u'] from rfl,List.forIn_cons]
 refine wpAny_bind (wpAny_bind (V.pyHash h1 hx fun tk1=>wpAny_pure ?_))
 show wpAny _ _ (forIn [u'] _ _) _ _ _
 rw[List.forIn_cons]
 refine wpAny_bind (wpAny_bind (W.pyHash h2 hy fun tk2=>wpAny_pure ?_))
 refine wpAny_pure (show wpAny _ _ (retInt (Builtin.Tuple.tupleHashOf [V.hash x,W.hash y])) _ _ _ from ?_)
 refine wpAny_ret_mkInt (show wpAny _ _ (if (decide (-(2:Int) ^ 63≤Builtin.Tuple.tupleHashOf [V.hash x,W.hash y]) && decide (Builtin.Tuple.tupleHashOf [V.hash x,W.hash y] < 2 ^ 63))=true then _ else _) Q E _ from ?_)
 unfold reduceHash at h
 by_cases hr:(decide (-(2:Int) ^ 63≤Builtin.Tuple.tupleHashOf [V.hash x,W.hash y]) && decide (Builtin.Tuple.tupleHashOf [V.hash x,W.hash y] < 2 ^ 63))=true
 ·rw[if_pos hr] at h ⊢;exact wpAny_pure (h _)
 ·rw[if_neg hr] at h ⊢;exact wpAny_bind (wpAny_rule (wpAny_pure (h _)))
theorem HVK.pair_eq (V:HVK K) (W:HVK L) {A:Around} {s:Shared} {x x':K} {y y':L} {v v' u1 u2 u1' u2':Value} (hu:A.units+(max V.d W.d+1) < cLine) (T:c9i s.heap v u1 u2) (T':c9i s.heap v' u1' u2') (hx:V.is s.heap x u1) (hy:W.is s.heap y u2) (hx':V.is s.heap x' u1') (hy':W.is s.heap y' u2') :
  EqAt A s v v' (decide ((x,y)=(x',y'))):=by
 obtain⟨a,o,n,rfl,ho,hc,hd⟩:=T
 obtain⟨a',o',n',rfl,ho',hc',hd'⟩:=T'
 have h1:A.in1.units+V.d < cLine:=by show A.units+1+V.d < cLine;have:=Nat.le_max_left V.d W.d;omega
 have h2:A.in1.units+W.d < cLine:=by show A.units+1+W.d < cLine;have:=Nat.le_max_right V.d W.d;omega
 by_cases haa:a=a'
 ·subst haa
  obtain rfl:o=o':=Option.some.inj (ho.symm.trans ho')
  rw[hd] at hd'
  injection hd' with e _
  obtain⟨e1,e2⟩:u1=u1'∧u2=u2':=by simpa using e
  subst e1;subst e2
  rw[V.inj hx hx',W.inj hy hy',decide_eq_true rfl]
  exact EqAt.same _
 ·have key:=RcAt.tuples (A:=A) (s:=s) (e:=fun j=>if j=0 then decide (x=x') else decide (y=y')) ⟨o,ho,hc,n,hd⟩ ⟨o',ho',hc',n',hd'⟩ (by omega) fun j j1 j2=>by
   have:j=0∨j=1:=by have:j < 2:=j1;omega
   rcases this with rfl | rfl
   ·exact V.eq h1 hx hx'
   ·exact W.eq h2 hy hy'
  have e:((List.range (min (#[u1,u2]:Array Value).size (#[u1',u2']:Array Value).size)).all (fun j=>if j=0 then decide (x=x') else decide (y=y')) && ((#[u1,u2]:Array Value).size == (#[u1',u2']:Array Value).size))=decide ((x,y)=(x',y')):=by
   show ((List.range 2).all _ && true)=_
   rw[show List.range 2=[0,1] from rfl]
   simp[Bool.decide_and]
  rw[e] at key
  exact EqAt.of_refs haa key
theorem HVK.pair_quiet (V:HVK K) (W:HVK L) {prog:Program} {w:World} {A:Around} {E:Value→Shared→Prop} {s:Shared} {x:K} {y:L} {v u u':Value} {Q:Bool→Shared→Prop} (n:Nat) (hn:max V.d W.d+1≤n) (T:c9i s.heap v u u') (hx:V.is s.heap x u) (hy:W.is s.heap y u') (h:Q true s):wpAny (model prog w) A (eqIsQuiet n v) Q E s:=by
 obtain⟨a,o,c,rfl,ho,hc,hd⟩:=T
 have hT:s.TypeIs (.ref a) "tuple":=⟨o,ho,hc⟩
 obtain⟨m,rfl⟩:∃ m,n=m+1:=⟨n - 1,by omega⟩
 have h1:V.d≤m:=by have:=Nat.le_max_left V.d W.d;omega
 have h2:W.d≤m:=by have:=Nat.le_max_right V.d W.d;omega
 unfold eqIsQuiet
 refine wpAny_bind (wpAny_specialOf hT PySem.F.slot_tuple_eq.lookup (show wpAny _ _ (isInstance (.ref a) (.type "tuple")>>=fun _=>_) _ _ _ from wpAny_bind (wpAny_isInstance hT isSubtype_tuple_tuple ?_)))
 simp only [Bool.not_true,Bool.false_eq_true,if_false];refine wpAny_bind (wpAny_seqItems ho hd (wpAny_bind ?_))
 show wpAny _ _ (forIn (#[u,u']:Array Value) _ _) _ _ _
 rw[←Array.forIn_toList,show (#[u,u']:Array Value).toList=[u,u'] from rfl,List.forIn_cons]
 refine wpAny_bind (wpAny_bind (V.quiet m h1 hx (wpAny_pure ?_)))
 show wpAny _ _ (forIn [u'] _ _) _ _ _
 rw[List.forIn_cons]
 exact wpAny_bind (wpAny_bind (W.quiet m h2 hy (wpAny_pure (wpAny_pure (wpAny_pure h)))))
theorem HVK.pair_cls (V:HVK K) (W:HVK L) {prog:Program} {w:World} {A:Around} {E:Value→Shared→Prop} {s:Shared} {x:K} {y:L} {v u u':Value} {Q:Bool→Shared→Prop} (n:Nat) (hn:max V.d W.d+1≤n) (T:c9i s.heap v u u') (hx:V.is s.heap x u) (hy:W.is s.heap y u') (h:Q false s):wpAny (model prog w) A (ofAClassStatement n v) Q E s:=by
 obtain⟨a,o,c,rfl,ho,hc,hd⟩:=T
 have hT:s.TypeIs (.ref a) "tuple":=⟨o,ho,hc⟩
 obtain⟨m,rfl⟩:∃ m,n=m+1:=⟨n - 1,by omega⟩
 have h1:V.d≤m:=by have:=Nat.le_max_left V.d W.d;omega
 have h2:W.d≤m:=by have:=Nat.le_max_right V.d W.d;omega
 unfold ofAClassStatement
 refine wpAny_bind (wpAny_typeOf hT ?_)
 refine wpAny_bind (wpAny_pure (show wpAny _ _ (seqItems? (.ref a)>>=fun _=>_) _ _ _ from wpAny_bind (wpAny_seqItems ho hd (wpAny_bind ?_))))
 show wpAny _ _ (forIn (#[u,u']:Array Value) _ _) _ _ _
 rw[←Array.forIn_toList,show (#[u,u']:Array Value).toList=[u,u'] from rfl,List.forIn_cons]
 refine wpAny_bind (wpAny_bind (V.cls m h1 hx (wpAny_pure ?_)))
 show wpAny _ _ (forIn [u'] _ _) _ _ _
 rw[List.forIn_cons]
 exact wpAny_bind (wpAny_bind (W.cls m h2 hy (wpAny_pure (wpAny_pure (wpAny_pure h)))))
theorem HVK.pair_byv (V:HVK K) (W:HVK L) {prog:Program} {w:World} {A:Around} {E:Value→Shared→Prop} {s:Shared} {x:K} {y:L} {v u u':Value} {Q:Bool→Shared→Prop} (n:Nat) (hn:max V.d W.d+1≤n) (T:c9i s.heap v u u') (hx:V.is s.heap x u) (hy:W.is s.heap y u') (h:Q true s):wpAny (model prog w) A (hashByValue n v) Q E s:=by
 obtain⟨a,o,c,rfl,ho,hc,hd⟩:=T
 have hT:s.TypeIs (.ref a) "tuple":=⟨o,ho,hc⟩
 obtain⟨m,rfl⟩:∃ m,n=m+1:=⟨n - 1,by omega⟩
 have h1:V.d≤m:=by have:=Nat.le_max_left V.d W.d;omega
 have h2:W.d≤m:=by have:=Nat.le_max_right V.d W.d;omega
 unfold hashByValue
 refine wpAny_bind (wpAny_specialOf hT PySem.F.slot_tuple_hash.lookup (show wpAny _ _ (seqItems? (.ref a)>>=fun _=>_) _ _ _ from wpAny_bind (wpAny_seqItems ho hd (wpAny_bind ?_))))
 show wpAny _ _ (forIn (#[u,u']:Array Value) _ _) _ _ _
 rw[←Array.forIn_toList,show (#[u,u']:Array Value).toList=[u,u'] from rfl,List.forIn_cons]
 refine wpAny_bind (wpAny_bind (V.byv m h1 hx (wpAny_pure ?_)))
 show wpAny _ _ (forIn [u'] _ _) _ _ _
 rw[List.forIn_cons]
 exact wpAny_bind (wpAny_bind (W.byv m h2 hy (wpAny_pure (wpAny_pure (wpAny_pure h)))))
def HVK.pair (V:HVK K) (W:HVK L):HVK (K×L) where
 is:=fun h k v=>∃ u u',c9i h v u u'∧V.is h k.1 u∧W.is h k.2 u'
 hash:=fun k=>reduceHash (Builtin.Tuple.tupleHashOf [V.hash k.1,W.hash k.2])
 d:=max V.d W.d+1
 inj:=fun {h x y v} ⟨u,u',⟨a,o,n,e,ho,hc,hd⟩,hx,hy⟩ ⟨z,z',⟨a',o',n',e',ho',hc',hd'⟩,hx',hy'⟩=>by
  subst e
  cases e'
  obtain rfl:o=o':=Option.some.inj (ho.symm.trans ho')
  rw[hd] at hd'
  injection hd' with e _
  obtain⟨e1,e2⟩:u=z∧u'=z':=by simpa using e
  subst e1;subst e2
  exact Prod.ext (V.inj hx hx') (W.inj hy hy')
 keep:=fun {h h' k v} ⟨u,u',⟨a,o,n,e,ho,hc,hd⟩,hx,hy⟩ kp=>⟨u,u',⟨a,o,n,e,kp a o _ _ ho hc hd,hc,hd⟩,V.keep hx kp,W.keep hy kp⟩
 pyHash:=fun hu ⟨_,_,T,hx,hy⟩ h=>V.pair_hash W hu T hx hy h
 eq:=fun {_ _ x y _ _} hu ⟨_,_,T,hx,hy⟩ ⟨_,_,T',hx',hy'⟩=>V.pair_eq W hu T T' hx hy hx' hy'
 quiet:=fun n hn ⟨_,_,T,hx,hy⟩ h=>V.pair_quiet W n hn T hx hy h
 cls:=fun n hn ⟨_,_,T,hx,hy⟩ h=>V.pair_cls W n hn T hx hy h
 byv:=fun n hn ⟨_,_,T,hx,hy⟩ h=>V.pair_byv W n hn T hx hy h
end
end My
namespace My
open PySem PySem.Spec PyProof.Rows L2 PyProof PySem.SeqAt PySem.SetTable
section
variable {K:Type} [DecidableEq K]
def f0n (V:HVK K) (kf:Value→K) (us:List Value) (h:Heap) (a:Addr) (ks:List K) (led:Bool):Prop :=
 ∃ o es ep t,h.get? a=some o∧o.ExactSet∧o.data=.set es ep t∧TT t es.toList∧t.led=led∧5*es.size < 3*t.mask∧(∀ e∈es.toList,e.2∈us∧e.1=V.hash (kf e.2))∧(es.toList.map fun e=>kf e.2).Perm ks
theorem TT.fits {t:SetTable} {es:Array (Int×Value)} (T:TT t es.toList) (few:es.size≤t.mask):t.fits es.size=true:=by
 have e:t.place.size=es.size:=by have:=T.len;simpa using this
 unfold SetTable.fits SetTable.fill
 rw[T.nd,e]
 simp[few]
variable {prog:Program} {w:World} {A:Around} {E:Value→Shared→Prop} {s:Shared} {V:HVK K} {kf:Value→K} {us:List Value}
end
end My
namespace My
open PySem PySem.Spec PyProof.Rows L2 PyProof PySem.SeqAt
section
variable {K:Type} [DecidableEq K]
variable {prog:Program} {w:World} {A:Around} {E:Value→Shared→Prop} {s:Shared} {V:HVK K} {kf:Value→K} {us:List Value}
theorem f0n.keep {h h':Heap} {a:Addr} {ks:List K} {led:Bool} (x:f0n V kf us h a ks led) (k:∀ o,h.get? a=some o→h'.get? a=some o):f0n V kf us h' a ks led :=
 let ⟨o,es,ep,t,ho,r⟩:=x
 ⟨o,es,ep,t,k o ho,r⟩
end
end My
namespace My
open PySem PySem.Spec PySem.W PyProof.Rows L2 PyProof PySem.SeqAt
def InP {α:Type} (n:Nat) (P:α→Prop):KasT α→Prop
 | .ret a=>P a
 | .ask i j k=>i < n∧j < n∧∀ b,InP n P (k b)
theorem InP.bind {α β:Type} {n:Nat} {P:α→Prop} {R:β→Prop} {g:α→KasT β} (hg:∀ a,P a→InP n R (g a)):∀ t:KasT α,InP n P t→InP n R (t.bind g)
 | .ret a,h=>hg a h
 | .ask _ _ k,h=>⟨h.1,h.2.1,fun b=>InP.bind hg (k b) (h.2.2 b)⟩
theorem InP.wp {α:Type} {n:Nat} {P:α→Prop} {f:Nat→Int} {cmp:Nat→Nat→(Bool→Shared→Prop)→Shared→Prop} {Q:α→Shared→Prop} {s:Shared} (hc:∀ i j (R:Bool→Shared→Prop),i < n→j < n→R (decide (f i < f j)) s→cmp i j R s) :
  ∀ t:KasT α,InP n P t→Q (a2d f t) s→t.kasWp cmp Q s
 | .ret _,_,h=>h
 | .ask i j k,p,h=>hc i j _ p.1 p.2.1 (InP.wp hc (k _) (p.2.2 _) h)
def Low (n:Nat) (p:Array Nat):Prop:=0 < n∧∀ x∈p.toList,x < n
theorem Low.at {n:Nat} {p:Array Nat} (l:Low n p) (i:Nat):p.getD i 0 < n:=by
 by_cases h:i < p.size
 ·have e:p.getD i 0=p[i]:=by simp[Array.getD,h]
  rw[e]
  exact l.2 _ (by simp)
 ·have e:p.getD i 0=0:=by simp[Array.getD,h]
  rw[e]
  exact l.1
theorem Low.perm {n:Nat} {p q:Array Nat} (l:Low n p) (h:q.Perm p):Low n q:=⟨l.1,fun x hx=>l.2 x (h.toList.mem_iff.mp hx)⟩
theorem d0m {n:Nat} {p:Array Nat} (l:Low n p):∀ k m,InP n (fun _=>True) (kas_asc p k m)
 | 0,_=>trivial
 | k+1,m=>⟨l.at _,l.at _,fun b=>by cases b with | true=>exact trivial | false=>exact d0m l k (m+1)⟩
theorem b8e {n:Nat}:∀ (k:Nat) {p:Array Nat} (m q:Nat),Low n p→InP n (fun r=>Low n r.1) (kas_desc k p m q)
 | 0,_,_,_,l=>l
 | k+1,p,m,q,l=>⟨l.at _,l.at _,fun b=>by
  cases b with
  | true =>
   show InP n _ (if q > 0 then _ else _)
   split
   ·exact b8e k _ _ (l.perm (a7s _ _ _))
   ·exact b8e k _ _ l
  | false=>exact⟨l.at _,l.at _,fun d=>by cases d with | true=>exact l | false=>exact b8e k _ _ l⟩⟩
theorem c8k {n m nrem:Nat} {p:Array Nat} (l:Low n p):InP n (fun (r:Nat×Array Nat)=>Low n r.2) (kas_tail3 m nrem p):=by
 have l':Low n (kas_rev p 0 m):=l.perm (a7s _ _ _)
 unfold kas_tail3
 refine InP.bind (P:=fun _=>True) (fun _ _=>?_) _ (d0m l' _ _)
 exact l'
theorem d2q {n m nrem:Nat} {p:Array Nat} (l:Low n p):InP n (fun (r:Nat×Array Nat)=>Low n r.2) (kas_descPart m nrem p):=InP.bind (fun r hr=>by
 split
 ·exact c8k (hr.perm (a7s _ _ _))
 ·exact c8k hr) _ (b8e _ _ _ l)
theorem d5r {n nrem:Nat} {p:Array Nat} (l:Low n p):InP n (fun (r:Nat×Array Nat)=>Low n r.2) (kas_count nrem p):=InP.bind (fun m _=>by
 split
 ·exact l
 ·split
  ·exact⟨l.at _,l.at _,fun c=>by cases c with | true=>exact l | false=>exact d2q (l.perm (a7s _ _ _))⟩
  ·exact d2q l) _ (d0m l _ _)
theorem b9r {n:Nat} {p:Array Nat} (l:Low n p) (k:Nat):∀ d a r,InP n (fun _=>True) (kas_place p k d a r)
 | 0,_,_=>trivial
 | d+1,a,r=>by
  unfold kas_place
  split
  ·exact trivial
  ·exact⟨l.at _,l.at _,fun c=>by cases c with | true=>exact b9r l k d _ _ | false=>exact b9r l k d _ _⟩
theorem d8s {n:Nat}:∀ (d:Nat) {p:Array Nat} (k:Nat),Low n p→InP n (fun r=>Low n r) (kas_bin d p k)
 | 0,_,_,l=>l
 | d+1,_,_,l=>InP.bind (fun _ _=>d8s d _ (l.perm (bubble_perm _ _ _))) _ (b9r l _ _ _ _)
theorem e0b {n:Nat} (h:1≤n):InP n (fun r=>Low n r) (kas_sort n):=InP.bind (fun r hr=>by
 split
 ·exact d8s _ _ hr
 ·exact hr) _ (d5r ⟨h,fun x hx=>by simpa using hx⟩)
structure VO (K:Type) [DecidableEq K] extends HVK K where
 lt:K→K→Bool
 irr:∀ x,lt x x=false
 tr:∀ x y z,lt x y=true→lt y z=true→lt x z=true
 tot:∀ x y,x≠y→lt x y=false→lt y x=true
 T:Value
 rfT:(T == T)=true
 typ:∀ {h:Heap} {k:K} {v:Value} (M:Model),is h k v→Looks M h (typeOf v) T
 one:∀ {prog:Program} {w:World} {A:Around} {E:Value→Shared→Prop} {s:Shared} {x y:K} {u v:Value} {Q:Bool→Shared→Prop} (b:Bool),(b=true→(T != Value.type "tuple")=true)→A.units+d < cLine→is s.heap x u→is s.heap y v→Q (lt x y) s→wpAny (model prog w) A (oneLt' b u v) Q E s
def ltP {K L:Type} [DecidableEq K] [DecidableEq L] (f:K→K→Bool) (g:L→L→Bool) (a b:K×L):Bool:=if a.1=b.1 then g a.2 b.2 else f a.1 b.1
section
variable {K L:Type} [DecidableEq K] [DecidableEq L]
theorem e5q (V:VO K) (W:VO L) (x:K×L):ltP V.lt W.lt x x=false:=by unfold ltP;rw[if_pos rfl];exact W.irr _
theorem e7q (V:VO K) (W:VO L) (x y z:K×L) (h:ltP V.lt W.lt x y=true) (h':ltP V.lt W.lt y z=true):ltP V.lt W.lt x z=true:=by
 unfold ltP at *
 by_cases e:x.1=y.1
 ·rw[if_pos e] at h
  by_cases e':y.1=z.1
  ·rw[if_pos e'] at h'
   rw[if_pos (e.trans e')]
   exact W.tr _ _ _ h h'
  ·rw[if_neg e'] at h'
   rw[if_neg (fun q=>e' (e.symm.trans q)),e]
   exact h'
 ·rw[if_neg e] at h
  by_cases e':y.1=z.1
  ·rw[if_neg (fun q=>e (q.trans e'.symm)),←e']
   exact h
  ·rw[if_neg e'] at h'
   have t:=V.tr _ _ _ h h'
   rw[if_neg fun q=>?_]
   ·exact t
   ·rw[q,V.irr] at t;cases t
theorem e5f (V:VO K) (W:VO L) (x y:K×L) (n:x≠y) (h:ltP V.lt W.lt x y=false):ltP V.lt W.lt y x=true:=by
 unfold ltP at *
 by_cases e:x.1=y.1
 ·rw[if_pos e] at h
  rw[if_pos e.symm]
  exact W.tot _ _ (fun q=>n (Prod.ext e q)) h
 ·rw[if_neg e] at h
  rw[if_neg (fun q=>e q.symm)]
  exact V.tot _ _ e h
def VO.int:VO Int where
 toHVK:=HVK.int
 lt:=fun a b=>decide (a < b)
 irr:=fun x=>by simp
 tr:=fun x y z h h'=>by simp only [decide_eq_true_eq] at *;omega
 tot:=fun x y n h=>by simp only [decide_eq_true_eq,decide_eq_false_iff_not] at *;omega
 T:=.type "int"
 rfT:=by decide
 typ:=fun M ⟨t,e⟩=>by
  subst e
  intro A Q E s _ q
  exact wpAny_typeOf (T:="int") rfl q
 one:=fun b _ _ ⟨t,e⟩ ⟨t',e'⟩ h=>by
  subst e;subst e'
  cases b with
  | true=>exact oneLt_int h
  | false=>exact kat_one _ _ (lt_int h)
def VO.node:VO (Int×Int) where
 toHVK:=HVK.int.pair HVK.int
 lt:=ltP VO.int.lt VO.int.lt
 irr:=e5q VO.int VO.int
 tr:=e7q VO.int VO.int
 tot:=e5f VO.int VO.int
 T:=.type "tuple"
 rfT:=by decide
 typ:=fun M ⟨u,u',⟨a,o,n,e,ho,hc,hd⟩,_⟩=>by
  subst e
  intro A Q E s k q
  exact wpAny_typeOf (T:="tuple") ⟨o,k a o ho,hc⟩ q
 one:=fun {prog w A E s x y u v Q} b hb hu ⟨u1,u2,⟨a,o,n,e,ho,hc,hd⟩,⟨t1,e1⟩,⟨t2,e2⟩⟩ ⟨v1,v2,⟨a',o',n',e',ho',hc',hd'⟩,⟨t1',e1'⟩,⟨t2',e2'⟩⟩ h=>by
  subst e;subst e';subst e1;subst e2;subst e1';subst e2'
  cases b with
  | true=>exact absurd (hb rfl) (by decide)
  | false =>
   refine kat_one _ _ (HT.lt_tupInts (ns:=[x.1,x.2]) (ms:=[y.1,y.2]) ⟨o,ho,hc,n,hd⟩ ⟨o',ho',hc',n',hd'⟩ (.cons _ _ (.cons _ _ .nil)) (.cons _ _ (.cons _ _ .nil)) (by omega) ?_)
   have el:HT.lexLt [x.1,x.2] [y.1,y.2]=ltP VO.int.lt VO.int.lt x y:=by
    unfold ltP
    rw[HT.lexLt_cons,HT.lexLt_cons,HT.lexLt_nil_nil]
    by_cases q:x.1=y.1
    ·rw[if_pos q,if_pos q]
     by_cases q2:x.2=y.2
     ·rw[if_pos q2,q2];exact(VO.int.irr _).symm
     ·rw[if_neg q2];rfl
    ·rw[if_neg q,if_neg q];rfl
   rw[el]
   exact h
def c3k (lt:K→K→Bool) (ks:List K) (k:K):Nat:=(ks.filter fun x=>lt x k).length
theorem e5i {lt:K→K→Bool} (irr:∀ x,lt x x=false) (tr:∀ x y z,lt x y=true→lt y z=true→lt x z=true) (tot:∀ x y,x≠y→lt x y=false→lt y x=true) {ks:List K} {a b:K} (ha:a∈ks) :
  decide (((c3k lt ks a:Nat):Int) < (c3k lt ks b:Nat))=lt a b:=by
 have mono:∀ {a b:K} (l:List K),(∀ x,lt x a=true→lt x b=true)→(l.filter fun x=>lt x a).length≤(l.filter fun x=>lt x b).length:=by
  intro a b l h
  induction l with
  | nil=>exact Nat.le_refl _
  | cons x r ih =>
   rw[List.filter_cons,List.filter_cons]
   by_cases q:lt x a=true
   ·rw[if_pos q,if_pos (h x q)]
    exact Nat.succ_le_succ ih
   ·rw[if_neg q]
    split
    ·exact Nat.le_succ_of_le ih
    ·exact ih
 cases hl:lt a b with
 | true =>
  have key:∀ l:List K,a∈l→(l.filter fun x=>lt x a).length < (l.filter fun x=>lt x b).length:=by
   intro l
   induction l with
   | nil=>intro h;cases h
   | cons x r ih =>
    intro h
    rw[List.filter_cons,List.filter_cons]
    rcases List.mem_cons.mp h with z | z
    ·subst z
     rw[if_neg (by rw[irr];exact Bool.false_ne_true),if_pos hl]
     exact Nat.lt_succ_of_le (mono r fun y hy=>tr _ _ _ hy hl)
    ·have:=ih z
     by_cases q:lt x a=true
     ·rw[if_pos q,if_pos (tr _ _ _ q hl)]
      exact Nat.succ_lt_succ this
     ·rw[if_neg q]
      split
      ·exact Nat.lt_succ_of_lt this
      ·exact this
  have:=key ks ha
  exact decide_eq_true (by unfold c3k;omega)
 | false =>
  have:(ks.filter fun x=>lt x b).length≤(ks.filter fun x=>lt x a).length:=mono ks fun x hx=>by
   by_cases q:a=b
   ·rw[q];exact hx
   ·exact tr _ _ _ hx (tot a b q hl)
  exact decide_eq_false (by unfold c3k;omega)
end
end My
namespace My
open PySem PySem.Spec PySem.W PyProof.Rows L2 PyProof PySem.SeqAt
abbrev Nk:=Int×Int
def NdV (H:Hp) (v:V) (n:Nk):Prop:=∃ p,v=.ref p∧H p=some (.tup [.int n.1,.int n.2])
section
variable {X:Cx} {pins:List (Addr×Obj)} {σ:L2.St} {H:Hp} {s:Shared}
theorem e8q (I:Inv X pins σ H s) {v:V} {n:Nk} {u:Value} (h:NdV H v n) (r:a3k v u):(VO.int.toHVK.pair VO.int.toHVK).is s.heap n u:=by
 obtain⟨p,rfl,e⟩:=h
 obtain rfl:u=Value.ref p:=r
 obtain⟨its,rv,⟨o,e1,e2,c,e3⟩,_⟩:=I.tuple (SqT.of e)
 cases rv with
 | cons r1 t =>
  cases t with
  | cons r2 t2 =>
   cases t2
   exact⟨_,_,⟨p,o,c,rfl,e1,e2,e3⟩,r1,r2⟩
theorem c8q {α:Type} {R:V→α→Prop}:∀ (js:List α) (out:List Value),js.length=out.length→(∀ p∈js.zip out,∃ x,a3k x p.2∧R x p.1)→∃ ys,a3e ys out∧Paired R ys js
 | [],[],_,_=>⟨[],.nil,.nil⟩
 | [],_::_,h,_=>by cases h
 | _::_,[],h,_=>by cases h
 | j::js,o::out,h,f=>by
  obtain⟨x,rx,kx⟩:=f (j,o) (by rw[List.zip_cons_cons];exact List.mem_cons_self)
  obtain⟨ys,a,b⟩:=c8q js out (Nat.succ.inj h) fun p hp=>f p (by rw[List.zip_cons_cons];exact List.mem_cons_of_mem _ hp)
  exact⟨x::ys,.cons rx a,.cons kx b⟩
open Classical in
noncomputable def e3v (K:Type) [DecidableEq K] (V:HVK K) (h:Heap) (d0:K) (u:Value):K:=if x:∃ k,V.is h k u then Classical.choose x else d0
theorem c5p {K:Type} [DecidableEq K] {V:HVK K} {h:Heap} {d0 k:K} {u:Value} (x:V.is h k u):e3v K V h d0 u=k:=by
 unfold e3v
 have e:∃ k,V.is h k u:=⟨k,x⟩
 rw[dif_pos e]
 exact V.inj (Classical.choose_spec e) x
end
end My
namespace My
open PySem PySem.Spec PySem.W PyProof.Rows L2 PyProof PySem.SeqAt
abbrev e3k:HVK Nk:=VO.int.toHVK.pair VO.int.toHVK
end My
namespace My
open PySem PySem.Spec PyProof.Rows L2 PyProof
theorem u16 {A:Around} (h:A.units+64 < cLine):A.units+16 < cLine:=by omega
end My
namespace My
open PySem PySem.Spec PySem.W PyProof.Rows L2 PyProof PySem.SeqAt
abbrev Tk:=Int×Int×Int
def IsT (h:Heap) (k:Tk) (v:Value):Prop:=∃ (a:Addr) (o:Obj) (n:Nat) (t1 t2 t3:Tok),v=.ref a∧h.get? a=some o∧o.cls=.type "tuple"∧o.data=.seq #[.int k.1 t1,.int k.2.1 t2,.int k.2.2 t3] n
theorem IsT.keep {h h':Heap} {k:Tk} {v:Value} (x:IsT h k v) (kp:KpT h h'):IsT h' k v:=let ⟨a,o,n,t1,t2,t3,e,ho,hc,hd⟩:=x;⟨a,o,n,t1,t2,t3,e,kp a o _ n ho hc hd,hc,hd⟩
end My
namespace My
open PySem PySem.Spec PySem.W PyProof.Rows L2 PyProof PySem.SeqAt
mutual
inductive TF (H:Hp):V→PyData→List Addr→Prop where
 | int (i:Int):TF H (.int i) (.int i) []
 | str (x:Str):TF H (.str x) (.str x) []
 | lst {a:Addr} {xs:List V} {ds:List PyData} {f:List Addr} (h:H a=some (.lst xs)) (r:TFs H xs ds f):TF H (.ref a) (.list ds) (a::f)
 | tup {a:Addr} {xs:List V} {ds:List PyData} {f:List Addr} (h:H a=some (.tup xs)) (r:TFs H xs ds f):TF H (.ref a) (.tuple ds) (a::f)
inductive TFs (H:Hp):List V→List PyData→List Addr→Prop where
 | nil:TFs H [] [] []
 | cons {x:V} {d:PyData} {xs:List V} {ds:List PyData} {f g:List Addr} (h:TF H x d f) (r:TFs H xs ds g):TFs H (x::xs) (d::ds) (f++g)
end
mutual
theorem TF.tr {H:Hp} {v:V} {d:PyData} {f:List Addr} (h:TF H v d f):Tr H v d:=by
 cases h with
 | int i=>exact .int i
 | str x=>exact .str x
 | lst h r=>exact .lst h (TFs.trs r)
 | tup h r=>exact .tup h (TFs.trs r)
theorem TFs.trs {H:Hp} {vs:List V} {ds:List PyData} {f:List Addr} (h:TFs H vs ds f):Trs H vs ds:=by
 cases h with
 | nil=>exact .nil
 | cons h r=>exact .cons (TF.tr h) (TFs.trs r)
end
mutual
theorem TF.fr {H H':Hp} {v:V} {d:PyData} {f:List Addr} (h:TF H v d f) (k:∀ b∈f,∀ o,H b=some o→H' b=some o):TF H' v d f:=by
 cases h with
 | int i=>exact .int i
 | str x=>exact .str x
 | lst h r=>exact .lst (k _ List.mem_cons_self _ h) (TFs.fr r fun b hb=>k b (List.mem_cons_of_mem _ hb))
 | tup h r=>exact .tup (k _ List.mem_cons_self _ h) (TFs.fr r fun b hb=>k b (List.mem_cons_of_mem _ hb))
theorem TFs.fr {H H':Hp} {vs:List V} {ds:List PyData} {f:List Addr} (h:TFs H vs ds f) (k:∀ b∈f,∀ o,H b=some o→H' b=some o):TFs H' vs ds f:=by
 cases h with
 | nil=>exact .nil
 | cons h r=>exact .cons (TF.fr h fun b hb=>k b (List.mem_append_left _ hb)) (TFs.fr r fun b hb=>k b (List.mem_append_right _ hb))
end
mutual
theorem TF.live {H:Hp} {v:V} {d:PyData} {f:List Addr} (h:TF H v d f):∀ b∈f,(∃ xs,H b=some (.lst xs))∨∃ xs,H b=some (.tup xs):=by
 cases h with
 | int i=>intro b hb;cases hb
 | str x=>intro b hb;cases hb
 | lst h r =>
  intro b hb
  rcases List.mem_cons.mp hb with z | z
  ·exact .inl ⟨_,z ▸ h⟩
  ·exact TFs.live r b z
 | tup h r =>
  intro b hb
  rcases List.mem_cons.mp hb with z | z
  ·exact .inr ⟨_,z ▸ h⟩
  ·exact TFs.live r b z
theorem TFs.live {H:Hp} {vs:List V} {ds:List PyData} {f:List Addr} (h:TFs H vs ds f):∀ b∈f,(∃ xs,H b=some (.lst xs))∨∃ xs,H b=some (.tup xs):=by
 cases h with
 | nil=>intro b hb;cases hb
 | cons h r =>
  intro b hb
  rcases List.mem_append.mp hb with z | z
  ·exact TF.live h b z
  ·exact TFs.live r b z
end
theorem TF.same {H H':Hp} (s:Same H H') {v:V} {d:PyData} {f:List Addr} (h:TF H v d f):TF H' v d f:=h.fr fun b _ o e=>s b o e
theorem TFs.same {H H':Hp} (s:Same H H') {vs:List V} {ds:List PyData} {f:List Addr} (h:TFs H vs ds f):TFs H' vs ds f:=h.fr fun b _ o e=>s b o e
theorem TF.not {H:Hp} {v:V} {d:PyData} {f:List Addr} (h:TF H v d f) {b:Addr} (e:H b=none):b ∉ f:=fun hb=>by
 rcases h.live b hb with ⟨xs,q⟩ | ⟨xs,q⟩<;>rw[e] at q<;>cases q
theorem TFs.not {H:Hp} {vs:List V} {ds:List PyData} {f:List Addr} (h:TFs H vs ds f) {b:Addr} (e:H b=none):b ∉ f:=fun hb=>by
 rcases h.live b hb with ⟨xs,q⟩ | ⟨xs,q⟩<;>rw[e] at q<;>cases q
theorem TFs.app {H:Hp}:∀ {vs us:List V} {ds es:List PyData} {f g:List Addr},TFs H vs ds f→TFs H us es g→TFs H (vs++us) (ds++es) (f++g)
 | _,_,_,_,_,_,.nil,r=>r
 | _,_,_,_,_,_,.cons h q,r=>by
  rw[List.append_assoc]
  exact .cons h (TFs.app q r)
theorem TFs.one {H:Hp} {v:V} {d:PyData} {f:List Addr} (h:TF H v d f):TFs H [v] [d] f:=by
 have:=TFs.cons h .nil
 rw[List.append_nil] at this
 exact this
theorem TFs.ints {H:Hp}:∀ ns:List Int,TFs H (ns.map V.int) (ns.map PyData.int) []
 | []=>.nil
 | n::r=>TFs.cons (f:=[]) (g:=[]) (.int n) (TFs.ints r)
theorem TFs.ints_of {H:Hp}:∀ {vs:List V} {ns:List Int} {f:List Addr},TFs H vs (ns.map PyData.int) f→vs=ns.map V.int∧f=[]
 | _,[],_,.nil=>⟨rfl,rfl⟩
 | _,n::r,_,.cons h q=>by
  cases h
  obtain⟨e,e2⟩:=TFs.ints_of q
  exact⟨by rw[e];rfl,by rw[e2];rfl⟩
theorem TFs.len {H:Hp} {vs:List V} {ds:List PyData} {f:List Addr} (h:TFs H vs ds f):vs.length=ds.length:=h.trs.len
theorem TFs.focus {H:Hp}:∀ {vs:List V} {ds:List PyData} {f:List Addr},TFs H vs ds f→∀ {i:Nat} {d:PyData},ds[i]?=some d→∃ x f1 f2 f3,vs[i]?=some x∧f=f1++(f2++f3)∧TF H x d f2 ∧
  ∀ H' x' d' f2',(∀ b∈f1++f3,∀ o,H b=some o→H' b=some o)→TF H' x' d' f2'→TFs H' (vs.set i x') (ds.set i d') (f1++(f2'++f3))
 | _,_,_,.nil,i,d,e=>by cases e
 | _,_,_,.cons (x:=x) (f:=f) (g:=g) h r,0,d,e=>by
  cases e
  exact⟨x,[],f,g,rfl,rfl,h,fun H' x' d' f2' k t=>(TFs.cons t (r.fr fun b hb=>k b hb):TFs H' (x'::_) (d'::_) (f2'++g))⟩
 | _,_,_,.cons (x:=x) (f:=f) h r,i+1,d,e=>by
  obtain⟨y,f1,f2,f3,e1,e2,e3,e4⟩:=TFs.focus r (i:=i) (d:=d) (by simpa using e)
  refine⟨y,f++f1,f2,f3,by simpa using e1,by rw[e2,List.append_assoc],e3,fun H' x' d' f2' k t=>?_⟩
  rw[List.append_assoc]
  exact .cons (h.fr fun b hb=>k b (by rw[List.append_assoc];exact List.mem_append_left _ hb)) (e4 H' x' d' f2' (fun b hb=>k b (by rw[List.append_assoc];exact List.mem_append_right _ hb)) t)
theorem TFs.set_self {α:Type}:∀ {xs:List α} {i:Nat} {x:α},xs[i]?=some x→xs.set i x=xs
 | [],_,_,h=>by cases h
 | y::r,0,x,h=>by cases h;rfl
 | y::r,i+1,x,h=>by
  show y::r.set i x=_
  rw[TFs.set_self (xs:=r) (by simpa using h)]
theorem nd3 {α:Type} {a b c:List α}:(a++(b++c)).Nodup ↔ (a++c).Nodup∧b.Nodup∧∀ x∈b,x ∉ a∧x ∉ c:=by
 rw[List.nodup_append,List.nodup_append,List.nodup_append]
 constructor
 ·rintro⟨h1,⟨h2,h3,h4⟩,h5⟩
  exact⟨⟨h1,h3,fun x hx y hy=>h5 x hx y (List.mem_append_right _ hy)⟩,h2,fun x hx=>⟨fun z=>h5 x z x (List.mem_append_left _ hx) rfl,fun z=>h4 x hx x z rfl⟩⟩
 ·rintro⟨⟨h1,h2,h3⟩,h4,h5⟩
  refine⟨h1,⟨h4,h2,fun x hx y hy e=>(h5 x hx).2 (e ▸ hy)⟩,fun x hx y hy e=>?_⟩
  rcases List.mem_append.mp hy with z | z
  ·exact(h5 y z).1 (e ▸ hx)
  ·exact h3 x hx y z e
theorem nd2 {α:Type} {a b:List α}:(a++b).Nodup ↔ a.Nodup∧b.Nodup∧∀ x∈b,x ∉ a:=by
 rw[List.nodup_append]
 constructor
 ·rintro⟨h1,h2,h3⟩
  exact⟨h1,h2,fun x hx z=>h3 x z x hx rfl⟩
 ·rintro⟨h1,h2,h3⟩
  exact⟨h1,h2,fun x hx y hy e=>h3 y hy (e ▸ hx)⟩
theorem e9k {α:Type} {σ0 fs:L2.St} {k:Nat} {K:PySem.W.Frag} {l:Addr} {xs:List V} {g:TG} {tc:L2.TT} {te:TE} {Q:VK} {H1:Hp} (as:List α) (ow:α→List Addr) (dx:α→PyData) (dy:α→PyData) (h0:σ0=List.replicate k none++fs) (hl:H1 l=some (.lst xs)) (ht:Trs H1 xs (as.map dx)) (hz:as.length≤sizeLine)
  (ho:as.Pairwise fun a c=>∀ b∈ow c,b ∉ ow a) (hv:∀ a∈as,∀ b∈ow a,∃ o,H1 b=some o)
  (step:∀ a,a∈as→∀ H (ts:L2.St) v (R:Option V→L2.St→Hp→Prop),Same H1 H→ts.length=k→Tr H v (dx a)→(∀ y f (ts2:L2.St) H3,ts2.length=k→Same H H3→TF H3 y (dy a) f→f.Nodup→(∀ b∈f,H b=none∨b∈ow a)→R (some y) (ts2++fs) H3) →
   g v (ts++fs) H fun τ2 H2=>tc τ2 H2 fun ok H3=>if ok=true then te τ2 H3 fun y H4=>R (some y) τ2 H4 else R none τ2 H3)
  (fin:∀ D H' ys f,H1 D=none→Same H1 H'→H' D=some (.lst ys)→TFs H' ys (as.map dy) f→f.Nodup→(∀ b∈f,H1 b=none∨∃ a∈as,b∈ow a)→D ∉ f→Q (.ref D) H'):b0m σ0 (Itl K l) g tc te Q H1:=by
 have hn:xs.length=as.length:=by rw[ht.len,List.length_map]
 intro D hD
 refine⟨fun i m ys τ H=>m=as.length - i∧i≤as.length∧ys.length≤i∧(∃ f,TFs H ys ((as.take i).map dy) f∧f.Nodup∧(∀ b∈f,H1 b=none∨∃ a∈as.take i,b∈ow a)∧D ∉ f)∧(∃ ts:L2.St,ts.length=k∧τ=ts++fs)∧Same H1 H∧H D=some (.lst ys),⟨as.length,rfl,Nat.zero_le _,Nat.le_refl _,⟨[],.nil,.nil,(fun b hb=>by cases hb),(fun hb=>by cases hb)⟩,⟨_,List.length_replicate,h0⟩,Same.upd hD,a0b⟩,?_⟩
 rintro i m ys τ H ⟨rfl,hi,hyl,⟨f,hp,hf,hfn,hDf⟩,⟨ts,hts,rfl⟩,ss,hd⟩
 refine⟨hd,?_⟩
 by_cases hlt:i < as.length
 ·refine .inr ⟨(a2j (SqL.of (ss _ _ hl))).go i (by omega),by omega,?_⟩
  rintro v H' ⟨rfl,yy⟩
  have e:=yy xs (SqL.of (ss _ _ hl))
  obtain⟨d,hde,tr⟩:=ht.get e
  have ea:as[i]?=some as[i]:=List.getElem?_eq_getElem hlt
  rw[List.getElem?_map,ea] at hde
  cases hde
  refine step as[i] (List.getElem_mem hlt) H' ts v (fun o τ2 H3=>match o with
   | some y=>H3 D=some (.lst ys)∧∃ m',m' < as.length - i∧m'=as.length - (i+1)∧i+1≤as.length∧(ys++[y]).length≤i+1∧(∃ f,TFs (upd H3 D (.lst (ys++[y]))) (ys++[y]) ((as.take (i+1)).map dy) f∧f.Nodup∧(∀ b∈f,H1 b=none∨∃ a∈as.take (i+1),b∈ow a)∧D ∉ f)∧(∃ ts:L2.St,ts.length=k∧τ2=ts++fs)∧Same H1 (upd H3 D (.lst (ys++[y])))∧upd H3 D (.lst (ys++[y])) D=some (.lst (ys++[y]))
   | none=>∃ m',m' < as.length - i∧m'=as.length - (i+1)∧i+1≤as.length∧ys.length≤i+1∧(∃ f,TFs H3 ys ((as.take (i+1)).map dy) f∧f.Nodup∧(∀ b∈f,H1 b=none∨∃ a∈as.take (i+1),b∈ow a)∧D ∉ f)∧(∃ ts:L2.St,ts.length=k∧τ2=ts++fs)∧Same H1 H3∧H3 D=some (.lst ys)) ss hts (tr.same ss) (fun y f2 ts2 H3 h2 s3 tr3 nd2' fr3=>?_)
  refine⟨s3 _ _ hd,as.length - (i+1),by omega,rfl,hlt,(by rw[List.length_append,List.length_singleton];omega),?_,⟨ts2,h2,rfl⟩,(ss.trans s3).again hD,a0b⟩
  have tk:as.take (i+1)=as.take i++[as[i]]:=by rw[List.take_add_one,ea];rfl
  have hD2:D ∉ f2:=fun z=>by
   rcases fr3 D z with q | q
   ·rw[hd] at q;cases q
   ·obtain⟨o,q⟩:=hv _ (List.getElem_mem hlt) D q
    rw[hD] at q;cases q
  refine⟨f++f2,?_,nd2.mpr ⟨hf,nd2',fun x hx z=>?_⟩,fun b hb=>?_,fun hb=>?_⟩
  ·rw[tk,List.map_append]
   refine(hp.fr fun b hb o eb=>?_).app (TFs.one (tr3.fr fun b hb o eb=>?_))
   ·rw[a0h (show b≠D from fun z=>hDf (z ▸ hb))]
    exact s3 _ _ eb
   ·rw[a0h (show b≠D from fun z=>hD2 (z ▸ hb))]
    exact eb
  ·rcases fr3 x hx with q | q
   ·exact hp.not q z
   ·rcases hfn x z with q2 | ⟨a,ha,q2⟩
    ·obtain⟨o,q3⟩:=hv _ (List.getElem_mem hlt) x q
     rw[q2] at q3;cases q3
    ·obtain⟨j,hj,ej⟩:=List.mem_iff_getElem.mp ha
     rw[List.length_take] at hj
     rw[List.getElem_take] at ej
     have:=List.pairwise_iff_getElem.mp ho j i (by omega) hlt (by omega) x q
     rw[ej] at this
     exact this q2
  ·rw[tk]
   rcases List.mem_append.mp hb with z | z
   ·rcases hfn b z with q | ⟨a,ha,q⟩
    ·exact .inl q
    ·exact .inr ⟨a,List.mem_append_left _ ha,q⟩
   ·rcases fr3 b z with q | q
    ·exact .inl (ss.free q)
    ·exact .inr ⟨as[i],List.mem_append_right _ (List.mem_singleton.mpr rfl),q⟩
  ·rcases List.mem_append.mp hb with z | z
   ·exact hDf z
   ·exact hD2 z
 ·have e:i=as.length:=by omega
  subst e
  rw[List.take_length] at hp hfn
  exact .inl ⟨(a2j (SqL.of (ss _ _ hl))).stop _ (by omega),fin D H ys f hD ss hd hp hf hfn hDf⟩
end My
namespace My
open PySem PySem.Spec PySem.W PyProof.Rows L2 PyProof PySem.SeqAt
structure e8z (K:PySem.W.Frag) (x qual:Str) (st:Stmt) (f:Addr) (fd:FuncData):Prop where
 ex:∃ (oc:Value) (od:Option Addr) (dV kV doc pm:Value) (an:Option Addr) (cdv ct:Value) (osl:Array (Option Value)),
  fd=PySem.W.fnOf x qual (a0p st) (a0m st) (a0f st) dV kV doc pm an cdv ct∧K.lookup f=some ⟨oc,od,.func fd,osl⟩∧PySem.W.codeIn K cdv qual=true
 kp:PySem.W.keepIn K (.ref f)=true
section
variable {P:Program} {w:World} {K:PySem.W.Frag} {mg:Str→Option Value} {base:Heap}
theorem d3b {x qual:Str} {st:Stmt} {f:Addr} {fd:FuncData} {N ps:List Str} {k:Nat} {sp:Sp} (F:e8z K x qual st f fd) (S:a0r N ps (a0f st)) (len:∀ vs H Q E,sp vs H Q E→vs.length=ps.length)
  (hbody:∀ (cdv:Value) (A:Around) (outer:List Env) (s:Shared) (H:Hp) (vs:List V) (Q:VK) (E:XK),Room k (A.deeper (envOfC qual (a0f st) s.heap.objs.size f cdv))→sp vs H Q E →
   ∃ t,PSs (b7m (CXW P w) P w K mg base N qual (a0f st) f cdv A outer s H E) (a0m st) t∧t {nx:=fun _ H'=>Q .non H',rt:=Q} (c1o N vs) H):a3y P w K mg base (CXW P w) (k+1) f fd ps sp:=by
 obtain⟨oc,od,dV,kV,doc,pm,an,cdv,ct,osl,rfl,lk,hcd⟩:=F.ex
 exact e3z lk hcd S len fun A outer s H vs Q E hr hsp=>hbody cdv A outer s H vs Q E hr hsp
theorem d6b {x qual:Str} {st:Stmt} {f:Addr} {oc:Value} {od an:Option Addr} {osl:Array (Option Value)} {dV kV doc pm cdv ct:Value} (l:K.lookup f=some ⟨oc,od,.func (PySem.W.fnOf x qual (a0p st) (a0m st) (a0f st) dV kV doc pm an cdv ct),osl⟩)
  (c:PySem.W.codeIn K cdv qual=true) (k:PySem.W.keepIn K (.ref f)=true):e8z K x qual st f (PySem.W.fnOf x qual (a0p st) (a0m st) (a0f st) dV kV doc pm an cdv ct):=⟨⟨oc,od,dV,kV,doc,pm,an,cdv,ct,osl,rfl,l,c⟩,k⟩
theorem b1r {s:Shared} {fd:FuncData} {args:Args} {binds:List (Str×Value)} {T:Addr} {o:Obj} {items:Array Value} {n:Nat} (hd:fd.defaults=.ref T) (ho:K.lookup T=some o) (hs:o.data=.seq items n) (X:K.In s.heap)
  (h:∃ k:Option (Array Value)→Sem (List (Str×Value)),bindArgs fd args=(seqItems? fd.defaults>>=k)∧k (some items)=pure binds):BindsTo s fd args binds:=by
 obtain⟨k,h1,h2⟩:=h
 exact BindsTo.of_defaults hd (X _ _ ho) hs h1 h2
end
theorem d1i {α:Type} {xs:List α} {n:Nat} (z:Int) (hl:xs.length=n) (hn:0 < n):(z%(n:Int)).toNat < n∧∃ v,xs[(z%(n:Int)).toNat]?=some v∧atI xs (z%(n:Int))=some v:=by
 have h0:=Int.emod_nonneg z (show (n:Int)≠0 by omega)
 have h1:=Int.emod_lt_of_pos z (show (0:Int) < n by omega)
 obtain⟨j,hj⟩:=Int.eq_ofNat_of_zero_le h0
 rw[hj] at h1 ⊢
 have hjn:j < xs.length:=by omega
 refine⟨by simpa using (by omega:j < n),xs[j],?_,a0k (List.getElem?_eq_getElem hjn)⟩
 rw[Int.toNat_natCast]
 exact List.getElem?_eq_getElem hjn
theorem e4l {ns:List Int} {n:Nat} (z:Int) (hl:ns.length=n) (hn:0 < n):atI (ns.map V.int) (z%(n:Int))=some (.int (ns.getD (z%(n:Int)).toNat 0))∧ns.getD (z%(n:Int)).toNat 0∈ns:=by
 obtain⟨_,v,e,_⟩:=d1i (xs:=ns) z hl hn
 have g:ns.getD (z%(n:Int)).toNat 0=v:=by rw[List.getD_eq_getElem?_getD,e];rfl
 rw[g]
 refine⟨?_,List.mem_of_getElem? e⟩
 have h0:=Int.emod_nonneg z (show (n:Int)≠0 by omega)
 have:=a0k (xs:=ns.map V.int) (j:=(z%(n:Int)).toNat) (v:=.int v) (by rw[List.getElem?_map,e];rfl)
 rwa [Int.toNat_of_nonneg h0] at this
theorem e8n {n:Nat} (z:Int) (hn:0 < n):ixN n (z%(n:Int))=some (z%(n:Int)).toNat:=by
 have h0:=Int.emod_nonneg z (show (n:Int)≠0 by omega)
 have h1:=Int.emod_lt_of_pos z (show (0:Int) < n by omega)
 unfold ixN
 rw[if_pos h0,if_pos h1]
theorem b8y {α β:Type} (f:α→β):∀ (l:List α) (j:Nat),(l.map f).eraseIdx j=(l.eraseIdx j).map f
 | [],_=>rfl
 | _::_,0=>rfl
 | x::r,j+1=>by
  show f x::(r.map f).eraseIdx j=f x::(r.eraseIdx j).map f
  rw[b8y f r j]
end My
namespace My
open PySem PySem.Spec PySem.W PyProof.Rows L2 PyProof PySem.SeqAt
def KN (H H':Hp):Prop:=∀ b o,(∀ xs,o≠HO.lst xs)→H b=some o→H' b=some o
theorem KN.of {H H':Hp} (s:Same H H'):KN H H':=fun b o _ e=>s b o e
theorem KN.trans {A B C:Hp} (a:KN A B) (b:KN B C):KN A C:=fun x o n e=>b x o n (a x o n e)
theorem KN.but {H H':Hp} {D:Addr} {ys:List V} (h:H D=some (.lst ys)) (k:∀ b o,b≠D→H b=some o→H' b=some o):KN H H':=fun b o n e=>k b o (fun z=>by rw[z,h] at e;exact n _ (Option.some.inj e).symm) e
theorem KN.upd {H:Hp} {D:Addr} {ys:List V} {o:HO} (h:H D=some (.lst ys)):KN H (upd H D o):=KN.but h fun b o n e=>by rw[a0h n];exact e
theorem b9d {α β:Type} {F:α→β→Prop}:∀ {xs:List α} {bs:List β} {x:α} {b:β},Paired F xs bs→F x b→Paired F (xs++[x]) (bs++[b])
 | _,_,_,_,.nil,h=>.cons h .nil
 | _,_,_,_,.cons r t,h=>.cons r (b9d t h)
theorem e6m {β:Type} {σ0 fs:L2.St} {k:Nat} {J:It} {g:TG} {tc:L2.TT} {te:TE} {Q:VK} {H1:Hp} (G:Hp→V→β→Prop) (Vi:Nat→Hp→V→Prop) (n:Nat) (f:Nat→Option β) (hG:∀ H H' y b,KN H H'→G H y b→G H' y b) (h0:σ0=List.replicate k none++fs) (hz:n≤sizeLine)
  (hgo:∀ i H,Same H1 H→i < n→J.go i H) (hstop:∀ H,Same H1 H→J.stop n H) (hy:∀ i H v H',Same H1 H→i < n→J.yld i H v H'→H'=H∧Vi i H v)
  (step:∀ i,i < n→∀ H (ts:L2.St) v (R:Option V→L2.St→Hp→Prop),Same H1 H→ts.length=k→Vi i H v→(∀ b y (ts2:L2.St) H3,f i=some b→ts2.length=k→Same H H3→G H3 y b→R (some y) (ts2++fs) H3)→(f i=none→∀ (ts2:L2.St) H3,ts2.length=k→Same H H3→R none (ts2++fs) H3) →
   g v (ts++fs) H fun τ2 H2=>tc τ2 H2 fun ok H3=>if ok=true then te τ2 H3 fun y H4=>R (some y) τ2 H4 else R none τ2 H3)
  (fin:∀ D H' ys,H1 D=none→Same H1 H'→H' D=some (.lst ys)→Paired (G H') ys ((List.range n).filterMap f)→Q (.ref D) H'):b0m σ0 J g tc te Q H1:=by
 intro D hD
 refine⟨fun i m ys τ H=>m=n - i∧i≤n∧ys.length≤i∧Paired (G H) ys ((List.range i).filterMap f)∧(∃ ts:L2.St,ts.length=k∧τ=ts++fs)∧Same H1 H∧H D=some (.lst ys),⟨n,rfl,Nat.zero_le _,Nat.le_refl _,.nil,⟨_,List.length_replicate,h0⟩,Same.upd hD,a0b⟩,?_⟩
 rintro i m ys τ H ⟨rfl,hi,hyl,hp,⟨ts,hts,rfl⟩,ss,hd⟩
 refine⟨hd,?_⟩
 by_cases hlt:i < n
 ·refine .inr ⟨hgo i H ss hlt,by omega,?_⟩
  intro v H' hyl'
  obtain⟨rfl,hv⟩:=hy i H v H' ss hlt hyl'
  have er:List.range (i+1)=List.range i++[i]:=List.range_succ
  refine step i hlt H' ts v (fun o τ2 H3=>match o with
   | some y=>H3 D=some (.lst ys)∧∃ m',m' < n - i∧m'=n - (i+1)∧i+1≤n∧(ys++[y]).length≤i+1∧Paired (G (upd H3 D (.lst (ys++[y])))) (ys++[y]) ((List.range (i+1)).filterMap f)∧(∃ ts:L2.St,ts.length=k∧τ2=ts++fs)∧Same H1 (upd H3 D (.lst (ys++[y])))∧upd H3 D (.lst (ys++[y])) D=some (.lst (ys++[y]))
   | none=>∃ m',m' < n - i∧m'=n - (i+1)∧i+1≤n∧ys.length≤i+1∧Paired (G H3) ys ((List.range (i+1)).filterMap f)∧(∃ ts:L2.St,ts.length=k∧τ2=ts++fs)∧Same H1 H3∧H3 D=some (.lst ys)) ss hts hv (fun b y ts2 H3 hb h2 s3 g3=>?_) fun hb ts2 H3 h2 s3=>?_
  ·refine⟨s3 _ _ hd,n - (i+1),by omega,rfl,hlt,(by rw[List.length_append,List.length_singleton];omega),?_,⟨ts2,h2,rfl⟩,(ss.trans s3).again hD,a0b⟩
   have e1:(List.range (i+1)).filterMap f=(List.range i).filterMap f++[b]:=by
    rw[er,List.filterMap_append]
    show _++List.filterMap f [i]=_
    rw[List.filterMap_cons,hb]
    rfl
   rw[e1]
   have kn:KN H3 (upd H3 D (.lst (ys++[y]))):=KN.upd (s3 _ _ hd)
   exact b9d (Paired.mapP hp fun _ _ z=>hG _ _ _ _ ((KN.of s3).trans kn) z) (hG _ _ _ _ kn g3)
  ·refine⟨n - (i+1),by omega,rfl,hlt,by omega,?_,⟨ts2,h2,rfl⟩,ss.trans s3,s3 _ _ hd⟩
   have e1:(List.range (i+1)).filterMap f=(List.range i).filterMap f:=by
    rw[er,List.filterMap_append]
    show _++List.filterMap f [i]=_
    rw[List.filterMap_cons,hb]
    exact List.append_nil _
   rw[e1]
   exact Paired.mapP hp fun _ _ z=>hG _ _ _ _ (KN.of s3) z
 ·have e:i=n:=by omega
  subst e
  exact .inl ⟨hstop H ss,fin D H ys hD ss hd hp⟩
theorem c6n {α β:Type} {σ0 fs:L2.St} {k:Nat} {K:PySem.W.Frag} {l:Addr} {xs:List V} {g:TG} {tc:L2.TT} {te:TE} {Q:VK} {H1:Hp} (G:Hp→V→β→Prop) (F:Hp→V→α→Prop) (as:List α) (f:α→Option β) (hG:∀ H H' y b,KN H H'→G H y b→G H' y b) (hF:∀ H H' y b,Same H H'→F H y b→F H' y b) (h0:σ0=List.replicate k none++fs)
  (hl:H1 l=some (.lst xs)) (hp:Paired (F H1) xs as) (hz:as.length≤sizeLine)
  (step:∀ a,a∈as→∀ H (ts:L2.St) v (R:Option V→L2.St→Hp→Prop),Same H1 H→ts.length=k→F H v a→(∀ b y (ts2:L2.St) H3,f a=some b→ts2.length=k→Same H H3→G H3 y b→R (some y) (ts2++fs) H3)→(f a=none→∀ (ts2:L2.St) H3,ts2.length=k→Same H H3→R none (ts2++fs) H3) →
   g v (ts++fs) H fun τ2 H2=>tc τ2 H2 fun ok H3=>if ok=true then te τ2 H3 fun y H4=>R (some y) τ2 H4 else R none τ2 H3)
  (fin:∀ D H' ys,H1 D=none→Same H1 H'→H' D=some (.lst ys)→Paired (G H') ys (as.filterMap f)→Q (.ref D) H'):b0m σ0 (Itl K l) g tc te Q H1:=by
 have hn:xs.length=as.length:=a5n hp
 refine e6m G (fun i H v=>∃ a,as[i]?=some a∧F H v a) as.length (fun i=>as[i]?.bind f) hG h0 hz (fun i H ss hi=>(a2j (SqL.of (ss _ _ hl))).go i (by omega)) (fun H ss=>(a2j (SqL.of (ss _ _ hl))).stop _ (by omega)) ?_ ?_ fun D H' ys hD ss hd pp=>fin D H' ys hD ss hd (by rw[c2v] at pp;exact pp)
 ·rintro i H v H' ss hi ⟨rfl,yy⟩
  have e:=yy xs (SqL.of (ss _ _ hl))
  obtain⟨a,ea,fa⟩:=a1w hp e
  exact⟨rfl,a,ea,hF _ _ _ _ ss fa⟩
 ·rintro i hi H ts v R ss hts ⟨a,ea,fa⟩ cs cn
  refine step a (List.mem_of_getElem? ea) H ts v R ss hts fa (fun b y ts2 H3 hb h2 s3 g3=>cs b y ts2 H3 (by rw[ea];exact hb) h2 s3 g3) fun hb ts2 H3 h2 s3=>cn (by rw[ea];exact hb) ts2 H3 h2 s3
theorem e7v {β:Type} {σ0 fs:L2.St} {k:Nat} {lo:Int} {g:TG} {tc:L2.TT} {te:TE} {Q:VK} {H1:Hp} (G:Hp→V→β→Prop) (n:Nat) (f:Nat→Option β) (hG:∀ H H' y b,KN H H'→G H y b→G H' y b) (h0:σ0=List.replicate k none++fs) (hz:n≤sizeLine)
  (step:∀ i,i < n→∀ H (ts:L2.St) (R:Option V→L2.St→Hp→Prop),Same H1 H→ts.length=k→(∀ b y (ts2:L2.St) H3,f i=some b→ts2.length=k→Same H H3→G H3 y b→R (some y) (ts2++fs) H3)→(f i=none→∀ (ts2:L2.St) H3,ts2.length=k→Same H H3→R none (ts2++fs) H3) →
   g (.int (lo+(i:Int))) (ts++fs) H fun τ2 H2=>tc τ2 H2 fun ok H3=>if ok=true then te τ2 H3 fun y H4=>R (some y) τ2 H4 else R none τ2 H3)
  (fin:∀ D H' ys,H1 D=none→Same H1 H'→H' D=some (.lst ys)→Paired (G H') ys ((List.range n).filterMap f)→Q (.ref D) H'):b0m σ0 (Itr lo n) g tc te Q H1:=by
 refine e6m G (fun i _ v=>v=.int (lo+(i:Int))) n f hG h0 hz (fun i H _ hi=>hi) (fun H _=>Nat.le_refl _) ?_ ?_ fin
 ·rintro i H v H' _ _ ⟨rfl,rfl⟩
  exact⟨rfl,rfl⟩
 ·rintro i hi H ts v R ss hts rfl cs cn
  exact step i hi H ts R ss hts cs cn
end My
namespace My
open PySem PySem.Spec PySem.W PyProof.Rows L2 PyProof PySem.SeqAt
structure c7f (k:Nat) (A:Around):Prop where
 dp:A.depth+3*k+5 < recursionLimit
 un:A.units+16*k+200 < cLine
theorem _root_.L2.Room.m {k:Nat} {A:Around} {x:Option Value} (r:Room k A):c7f k (A.mark x):=⟨r.dp,r.un⟩
theorem c7f.units {k:Nat} {A:Around} (r:c7f k A):A.units+64 < cLine:=by have:=r.un;omega
theorem c7f.depth {k:Nat} {A:Around} (r:c7f k A):A.depth < recursionLimit:=by have:=r.dp;omega
theorem c7f.deeper {k:Nat} {A:Around} (r:c7f (k+1) A) (env:Env):c7f k (A.deeper env) :=
 ⟨by have:=r.dp;show A.depth+1+3*k+5 < _;omega,by have:=r.un;show A.units+3+16*k+200 < _;omega⟩
end My
namespace My
namespace Gs
open PySem PyProof.Rows
structure Cmp (prog:Program) (w:World) (A:Around) (E:Value→Shared→Prop) (s:Shared) where
 κ:SortKind
 gd:Keyed→Prop
 rk:Keyed→Int
 lt:∀ {st:SortSt} {p q:Keyed} {Q:Option Bool→SortSt→Prop},kindOf st=κ→gd p→gd q→Q (some (decide (rk p < rk q))) st→wpS (model prog w) A E s (lt' p q) Q st
section
variable {prog:Program} {w:World} {s:Shared} {A:Around} {E:Value→Shared→Prop} {C:Cmp prog w A E s}
def Kc (C:Cmp prog w A E s) (xs:Array Keyed) (i:Nat):Int:=match xs[i]? with
 | some p=>C.rk p
 | none=>0
theorem d2w {xs ys:Array Keyed} {i j:Nat} (h:xs[i]?=ys[j]?):Kc C xs i=Kc C ys j:=by unfold Kc;rw[h]
abbrev Upk (C:Cmp prog w A E s) (l:List Keyed):Prop:=l.Pairwise fun x y=>C.rk x≤C.rk y
structure LInv (C:Cmp prog w A E s) (A B out:List Keyed) (ia ib:Nat):Prop where
 ha:ia≤A.length
 hb:ib≤B.length
 perm:out.Perm (A.take ia++B.take ib)
 up:Upk C out
 leA:∀ x∈out,∀ y∈A.drop ia,C.rk x≤C.rk y
 leB:∀ x∈out,∀ y∈B.drop ib,C.rk x≤C.rk y
theorem LInv.res {A B out:List Keyed} {ia ib:Nat} (h:LInv C A B out ia ib) (e1:ia=A.length) (e2:ib=B.length):out.Perm (A++B)∧Upk C out:=by
 have:=h.perm
 rw[e1,e2,List.take_length,List.take_length] at this
 exact⟨this,h.up⟩
structure HInv (C:Cmp prog w A E s) (A B tl:List Keyed) (na nb:Nat):Prop where
 ha:na≤A.length
 hb:nb≤B.length
 perm:tl.Perm (A.drop na++B.drop nb)
 up:Upk C tl
 leA:∀ x∈A.take na,∀ y∈tl,C.rk x≤C.rk y
 leB:∀ x∈B.take nb,∀ y∈tl,C.rk x≤C.rk y
structure Sb (C:Cmp prog w A E s) (a₀:Array Keyed) (pd:Array (Nat×Nat×Nat)) (lo:Nat) (xs:Array Keyed) (st:SortSt):Prop where
 perm:(arrOf st).Perm a₀
 kind:kindOf st=C.κ
 fail:failedOf st=none
 pend:pendingOf st=pd
 low:∀ k,k < lo→(arrOf st)[k]?=xs[k]?
def Rise (C:Cmp prog w A E s) (xs:Array Keyed) (lo hi:Nat):Prop:=∀ i j,lo≤i→i≤j→j < hi→Kc C xs i≤Kc C xs j
def Fall (C:Cmp prog w A E s) (xs:Array Keyed) (lo hi:Nat):Prop:=∀ i j,lo≤i→i≤j→j < hi→Kc C xs j≤Kc C xs i
section
variable {a₀ xs:Array Keyed} {pd:Array (Nat×Nat×Nat)} {lo:Nat} {st:SortSt}
theorem Sb.size (h:Sb C a₀ pd lo xs st):(arrOf st).size=a₀.size:=h.perm.size_eq
theorem Sb.set (h:Sb C a₀ pd lo xs st) {ys:Array Keyed} (p:ys.Perm (arrOf st)) (l:∀ k,k < lo→ys[k]?=(arrOf st)[k]?):Sb C a₀ pd lo xs (setArr st ys):=⟨p.trans h.perm,h.kind,h.fail,h.pend,fun k hk=>(l k hk).trans (h.low k hk)⟩
theorem Fall.eq {xs ys:Array Keyed} {lo hi:Nat} (h:Fall C xs lo hi) (e:∀ k,Kc C ys k=Kc C xs k):Fall C ys lo hi:=fun i j h1 h2 h3=>by
 rw[e,e]
 exact h i j h1 h2 h3
end
end
end Gs
end My
namespace My
namespace Gs
open PySem PyProof.Rows
section
variable {prog:Program} {w:World} {s:Shared} {A:Around} {E:Value→Shared→Prop} {C:Cmp prog w A E s}
theorem Rise.low {xs ys:Array Keyed} {lo hi:Nat} (l:∀ k,lo≤k→k < hi→ys[k]?=xs[k]?) (h:Rise C xs lo hi):Rise C ys lo hi:=fun i j h1 h2 h3=>by
 rw[d2w (l i h1 (by omega)),d2w (l j (by omega) h3)]
 exact h i j h1 h2 h3
def a8i (C:Cmp prog w A E s) (xs:Array Keyed):List (Nat×Nat×Nat)→Nat→Nat→Prop
 | [],a,b=>a=b
 | x::r,a,b=>x.1=a∧1≤x.2.1∧Rise C xs a (a+x.2.1)∧a8i C xs r (a+x.2.1) b
theorem a8i.le {xs:Array Keyed}:∀ {l:List (Nat×Nat×Nat)} {a b:Nat},a8i C xs l a b→a+l.length≤b
 | [],a,b,h=>by have:a=b:=h;simp;omega
 | x::r,a,b,⟨_,h1,_,h2⟩=>by have:=a8i.le h2;rw[List.length_cons];omega
theorem a8i.low {xs ys:Array Keyed}:∀ {l:List (Nat×Nat×Nat)} {a b:Nat},a8i C xs l a b→(∀ k,a≤k→k < b→ys[k]?=xs[k]?)→a8i C ys l a b
 | [],a,b,h,_=>h
 | x::r,a,b,⟨e,h1,h2,h3⟩,l=>by
  have:=a8i.le h3
  exact⟨e,h1,h2.low fun k k1 k2=>l k k1 (by omega),a8i.low h3 fun k k1 k2=>l k (by omega) k2⟩
theorem a8i.snoc {xs:Array Keyed}:∀ {l:List (Nat×Nat×Nat)} {a b n p:Nat},a8i C xs l a b→1≤n→Rise C xs b (b+n)→a8i C xs (l++[(b,n,p)]) a (b+n)
 | [],a,b,n,p,h,h1,hr=>by
  have e:a=b:=h
  subst e
  exact⟨rfl,h1,hr,rfl⟩
 | x::r,a,b,n,p,⟨e,h2,h3,h4⟩,h1,hr=>⟨e,h2,h3,a8i.snoc h4 h1 hr⟩
theorem a8i.at {xs:Array Keyed}:∀ {l:List (Nat×Nat×Nat)} {a b:Nat},a8i C xs l a b→∀ {i:Nat} {x y:Nat×Nat×Nat},l[i]?=some x→l[i+1]?=some y→a≤x.1∧y.1=x.1+x.2.1∧1≤x.2.1∧1≤y.2.1∧Rise C xs x.1 (x.1+x.2.1)∧Rise C xs (x.1+x.2.1) (x.1+x.2.1+y.2.1)∧x.1+x.2.1+y.2.1≤b ∧
  ∀ ys:Array Keyed,(∀ k,k < x.1∨x.1+x.2.1+y.2.1≤k→ys[k]?=xs[k]?)→Rise C ys x.1 (x.1+x.2.1+y.2.1)→a8i C ys ((l.set i (x.1,x.2.1+y.2.1,x.2.2)).eraseIdx (i+1)) a b
 | [],_,_,_,i,x,y,e,_=>by cases e
 | z::[],_,_,_,i,x,y,_,e2=>by cases e2
 | z::u::r,a,b,⟨e1,h1,h2,h3⟩,0,x,y,ex,ey=>by
  cases ex
  cases (show some u=some y from ey)
  obtain⟨e4,h4,h5,h6⟩:=h3
  have l6:=a8i.le h6
  have ez:z.1=a:=e1
  rw[ez]
  refine⟨Nat.le_refl _,e4,h1,h4,h2,h5,by omega,fun ys ky ry=>?_⟩
  show a8i C ys ((a,z.2.1+u.2.1,z.2.2)::r) a b
  refine⟨rfl,by show 1≤z.2.1+u.2.1;omega,by show Rise C ys a (a+(z.2.1+u.2.1));rw[←Nat.add_assoc];exact ry,?_⟩
  show a8i C ys r (a+(z.2.1+u.2.1)) b
  rw[←Nat.add_assoc]
  exact h6.low fun k k1 _=>ky k (.inr k1)
 | z::u::r,a,b,⟨e1,h1,h2,h3⟩,i+1,x,y,ex,ey=>by
  obtain⟨b1,b2,b3,b4,b5,b6,b7,b8⟩:=a8i.at h3 (i:=i) (x:=x) (y:=y) (by simpa using ex) (by simpa using ey)
  refine⟨by omega,b2,b3,b4,b5,b6,b7,fun ys ky ry=>?_⟩
  exact⟨e1,h1,h2.low fun k k1 k2=>ky k (.inl (by omega)),b8 ys ky ry⟩
variable {a₀:Array Keyed} {st:SortSt}
end
end Gs
end My
namespace My
namespace Gs
open PySem PyProof.Rows
section
variable {prog:Program} {w:World} {s:Shared} {A:Around} {E:Value→Shared→Prop} {C:Cmp prog w A E s}
structure GB (C:Cmp prog w A E s) (a₀:Array Keyed) (st:SortSt) (lo:Nat):Prop where
 perm:(arrOf st).Perm a₀
 kind:kindOf st=C.κ
 fail:failedOf st=none
 runs:a8i C (arrOf st) (pendingOf st).toList 0 lo
variable {a₀:Array Keyed} {st:SortSt}
end
end Gs
end My
namespace My
open PySem PySem.Spec PySem.W PyProof.Rows L2 PyProof PySem.SeqAt
def b3e:List Int→List Int→Bool
 | [],[]=>false
 | [],_::_=>true
 | _::_,[]=>false
 | x::r,y::t=>if x=y then b3e r t else decide (x < y)
theorem d1s:∀ l:List Int,b3e l l=false
 | []=>rfl
 | x::r=>by
  show (if x=x then b3e r r else decide (x < x))=false
  rw[if_pos rfl]
  exact d1s r
theorem d7p:∀ x y z:List Int,b3e x y=true→b3e y z=true→b3e x z=true
 | [],[],_,h,_=>by cases h
 | [],_::_,[],_,h=>by cases h
 | [],_::_,_::_,_,_=>rfl
 | _::_,[],_,h,_=>by cases h
 | _::_,_::_,[],_,h=>by cases h
 | a::r,b::t,c::u,h,h'=>by
  have h1:(if a=b then b3e r t else decide (a < b))=true:=h
  have h2:(if b=c then b3e t u else decide (b < c))=true:=h'
  show (if a=c then b3e r u else decide (a < c))=true
  by_cases e:a=b
  ·rw[if_pos e] at h1
   by_cases e':b=c
   ·rw[if_pos e'] at h2
    rw[if_pos (e.trans e')]
    exact d7p r t u h1 h2
   ·rw[if_neg e'] at h2
    rw[if_neg (fun q=>e' (e.symm.trans q)),e]
    exact h2
  ·rw[if_neg e] at h1
   have l1:=of_decide_eq_true h1
   by_cases e':b=c
   ·rw[if_neg (fun q=>e (q.trans e'.symm)),←e']
    exact h1
   ·rw[if_neg e'] at h2
    have l2:=of_decide_eq_true h2
    rw[if_neg (by omega)]
    exact decide_eq_true (by omega)
theorem c3y:∀ x y:List Int,x≠y→b3e x y=false→b3e y x=true
 | [],[],n,_=>absurd rfl n
 | [],_::_,_,h=>by cases h
 | _::_,[],_,_=>rfl
 | a::r,b::t,n,h=>by
  have h1:(if a=b then b3e r t else decide (a < b))=false:=h
  show (if b=a then b3e t r else decide (b < a))=true
  by_cases e:a=b
  ·rw[if_pos e] at h1
   rw[if_pos e.symm]
   exact c3y r t (fun q=>n (by rw[e,q])) h1
  ·rw[if_neg e] at h1
   have l1:=of_decide_eq_false h1
   rw[if_neg (fun q=>e q.symm)]
   exact decide_eq_true (by omega)
def e0y (cd:Key→Int):Key→Key→Prop
 | .inl i,.inl j=>cd (.inl i)=i∧cd (.inl j)=j
 | .inr x,.inr y=>(x=y ↔ cd (.inr x)=cd (.inr y))∧decide (x.cps.toList < y.cps.toList)=decide (cd (.inr x) < cd (.inr y))
 | _,_=>False
def d4w (cd:Key→Int):List Key→List Key→Prop
 | a::r,b::t=>e0y cd a b∧d4w cd r t
 | _,_=>True
def e9c (cd:Key→Int) (ks:List (List Key)):Prop:=(∀ k∈ks,∀ l∈ks,d4w cd k l)∧∀ k∈ks,k≠[]
theorem d2r {cd:Key→Int} {a b:Key} (h:e0y cd a b):(a=b) ↔ (cd a=cd b):=by
 match a,b,h with
 | .inl i,.inl j,h =>
  rw[h.1,h.2]
  exact⟨fun e=>Sum.inl.inj e,fun e=>congrArg _ e⟩
 | .inr x,.inr y,h=>exact⟨fun e=>h.1.mp (Sum.inr.inj e),fun e=>congrArg _ (h.1.mpr e)⟩
 | .inl _,.inr _,h=>exact h.elim
 | .inr _,.inl _,h=>exact h.elim
def IsK (h:Heap) (k:List Key) (v:Value):Prop:=∃ (a:Addr) (o:Obj) (n:Nat) (us:List Value),v=.ref a∧h.get? a=some o∧o.cls=.type "tuple"∧o.data=.seq us.toArray n∧a3e (k.map kV) us
theorem e7w {k l:Key} {u:Value} (h:a3k (kV k) u) (g:a3k (kV l) u):k=l:=by
 match k,l,h,g with
 | .inl i,.inl j,h,g =>
  obtain⟨t,rfl⟩:=(show ∃ t,u=Value.int i t from h)
  obtain⟨t',e⟩:=(show ∃ t',Value.int i t=Value.int j t' from g)
  injection e with e1 _
  rw[e1]
 | .inr x,.inr y,h,g =>
  obtain⟨t,rfl⟩:=(show ∃ t,u=Value.str x t from h)
  obtain⟨t',e⟩:=(show ∃ t',Value.str x t=Value.str y t' from g)
  injection e with e1 _
  rw[e1]
 | .inl i,.inr y,h,g =>
  obtain⟨t,rfl⟩:=(show ∃ t,u=Value.int i t from h)
  obtain⟨t',e⟩:=(show ∃ t',Value.int i t=Value.str y t' from g)
  cases e
 | .inr x,.inl j,h,g =>
  obtain⟨t,rfl⟩:=(show ∃ t,u=Value.str x t from h)
  obtain⟨t',e⟩:=(show ∃ t',Value.str x t=Value.int j t' from g)
  cases e
theorem b3y:∀ {k l:List Key} {us:List Value},a3e (k.map kV) us→a3e (l.map kV) us→k=l
 | [],[],_,_,_=>rfl
 | [],_::_,_,.nil,h=>nomatch h
 | _::_,[],_,h,.nil=>nomatch h
 | a::r,b::t,_,.cons h1 h2,.cons g1 g2=>by
  have e1:a=b:=e7w h1 g1
  rw[e1,b3y h2 g2]
theorem IsK.inj {h:Heap} {k l:List Key} {v:Value} (x:IsK h k v) (y:IsK h l v):k=l:=by
 obtain⟨a,o,n,us,rfl,ho,_,hd,hv⟩:=x
 obtain⟨a',o',n',us',e,ho',_,hd',hv'⟩:=y
 cases e
 rw[ho] at ho'
 cases ho'
 rw[hd] at hd'
 injection hd' with e1 _
 have e2:us=us':=by
  have:=congrArg Array.toList e1
  simpa using this
 subst e2
 exact b3y hv hv'
section
variable {prog:Program} {w:World} {A:Around} {s:Shared}
theorem e8f {cd:Key→Int} {a b:Key} {u v:Value} {c:Bool} {R:Bool→Shared→Prop} {E:Value→Shared→Prop} (h:e0y cd a b) (ra:a3k (kV a) u) (rb:a3k (kV b) v) (q:R (decide (cd a < cd b)) s):wpAny (model prog w) A (oneLt' c u v) R E s:=by
 match a,b,h with
 | .inl i,.inl j,h =>
  obtain⟨t,rfl⟩:=(show ∃ t,u=Value.int i t from ra)
  obtain⟨t',rfl⟩:=(show ∃ t,v=Value.int j t from rb)
  rw[h.1,h.2] at q
  cases c with
  | true=>exact oneLt_int q
  | false=>exact kat_one _ _ (lt_int q)
 | .inr x,.inr y,h =>
  obtain⟨t,rfl⟩:=(show ∃ t,u=Value.str x t from ra)
  obtain⟨t',rfl⟩:=(show ∃ t,v=Value.str y t from rb)
  rw[←h.2] at q
  cases c with
  | true=>exact oneLt_str q
  | false=>exact kat_one _ _ (PyProof.Rows.lt_str q)
 | .inl _,.inr _,h=>exact h.elim
 | .inr _,.inl _,h=>exact h.elim
theorem f1a {b fin:Bool} {R:Bool→Shared→Prop} {cd:Key→Int}:∀ {k l:List Key} {us vs:List Value} {i:Nat},a3e (k.map kV) us→a3e (l.map kV) vs→d4w cd k l→fin=decide (us.length < vs.length)→R (b3e (k.map cd) (l.map cd)) s→KatLex prog w A b fin R (us.zip vs) i s
 | [],[],_,_,_,.nil,.nil,_,f,q=>by subst f;exact kat_nil q
 | [],_::_,_,_,_,.nil,.cons _ _,_,f,q=>by subst f;exact kat_nil (by simpa [b3e] using q)
 | _::_,[],_,_,_,.cons _ _,.nil,_,f,q=>by subst f;exact kat_nil (by simpa [b3e] using q)
 | x::r,y::t,_,_,i,.cons h1 h2,.cons g1 g2,al,f,q=>by
  have q':R (if cd x=cd y then b3e (r.map cd) (t.map cd) else decide (cd x < cd y)) s:=q
  refine kat_cons ((a1c prog w).eqBool (c8l h1) (c8l g1) (kat_go (fun e=>kat_yes ?_) fun e=>kat_no ?_))
  ·rw[if_pos ((d2r al.1).mp (of_decide_eq_true e))] at q'
   exact f1a h2 g2 al.2 (by rw[f];simp) q'
  ·rw[if_neg fun z=>of_decide_eq_false e ((d2r al.1).mpr z)] at q'
   exact e8f al.1 h1 g1 q'
open Classical in
noncomputable def a8z (h:Heap) (u:Value):List Key:=if x:∃ k,IsK h k u then Classical.choose x else []
theorem b5f {h:Heap} {k:List Key} {u:Value} (x:IsK h k u):a8z h u=k:=by
 unfold a8z
 rw[dif_pos ⟨k,x⟩]
 exact(Classical.choose_spec (⟨k,x⟩:∃ k,IsK h k u)).inj x
theorem d6e {h:Heap} {cd:Key→Int}:∀ {vs:List Value} {ks:List (List Key)},Paired (fun v k=>IsK h k v) vs ks→(∀ k∈ks,k≠[])→∃ fs,KatTups h vs fs∧fs.length=vs.length∧∀ v∈fs,∃ k r,k::r∈ks∧a3k (kV k) v
 | [],[],_,_=>⟨[],trivial,rfl,fun v hv=>by cases hv⟩
 | v::vr,k::kr,.cons h1 t,ne=>by
  obtain⟨fs,ht,hl,ha⟩:=d6e (cd:=cd) t fun k hk=>ne k (.tail _ hk)
  obtain⟨a,o,n,us,rfl,ho,hc,hd,hv⟩:=h1
  match k,ne k (.head _),hv with
  | k0::r,_,hv =>
   cases hv with
   | @cons x u xs us r1 r2 =>
    refine⟨u::fs,KatTups.cons ho hc hd rfl ht,by rw[List.length_cons,List.length_cons,hl],fun v hv=>?_⟩
    rcases List.mem_cons.mp hv with z | z
    ·exact⟨k0,r,.head _,z ▸ r1⟩
    ·obtain⟨k,r,m,rr⟩:=ha v z
     exact⟨k,r,.tail _ m,rr⟩
def tyK:Key→Value
 | .inl _=>.type "int"
 | .inr _=>.type "str"
theorem e1s {M:Model} {h:Heap} {k:Key} {u:Value} (r:a3k (kV k) u):Looks M h (typeOf u) (tyK k):=by
 match k with
 | .inl i =>
  obtain⟨t,rfl⟩:=(show ∃ t,u=Value.int i t from r)
  intro A Q E s _ q
  exact wpAny_typeOf (T:="int") rfl q
 | .inr x =>
  obtain⟨t,rfl⟩:=(show ∃ t,u=Value.str x t from r)
  intro A Q E s _ q
  exact wpAny_typeOf (T:="str") rfl q
theorem e1p {cd:Key→Int} {a b:Key} (h:e0y cd a b):tyK a=tyK b:=by
 match a,b,h with
 | .inl _,.inl _,_=>rfl
 | .inr _,.inr _,_=>rfl
 | .inl _,.inr _,h=>exact h.elim
 | .inr _,.inl _,h=>exact h.elim
theorem e3n (a:Key):(tyK a == tyK a)=true:=by
 cases a with
 | inl i=>exact(show (Value.type "int" == Value.type "int")=true by decide)
 | inr x=>exact(show (Value.type "str" == Value.type "str")=true by decide)
theorem IsK.keep {h h':Heap} {k:List Key} {v:Value} (x:IsK h k v) (kp:∀ b o,o.cls=.type "tuple"→h.get? b=some o→h'.get? b=some o):IsK h' k v:=let ⟨a,o,n,us,e,ho,hc,hd,hv⟩:=x;⟨a,o,n,us,e,kp a o hc ho,hc,hd,hv⟩
end
def TkV (H:Hp) (v:V) (k:List Key):Prop:=∃ p,v=.ref p∧H p=some (.tup (k.map kV))
section
variable {X:Cx} {pins:List (Addr×Obj)} {σ:L2.St} {H:Hp} {s:Shared}
theorem e8u (I:Inv X pins σ H s) {v:V} {k:List Key} {u:Value} (h:TkV H v k) (r:a3k v u):IsK s.heap k u:=by
 obtain⟨p,rfl,e⟩:=h
 obtain rfl:u=Value.ref p:=r
 obtain⟨its,rv,⟨o,e1,e2,c,e3⟩,_⟩:=I.tuple (SqT.of e)
 exact⟨p,o,c,its,rfl,e1,e2,e3,rv⟩
def KF (H H':Hp):Prop:=∀ b o,H b=some o→H' b=some o∨∃ kvs ob,o=.dK kvs∧H' b=some (.frz ob (.dK kvs))
theorem KF.of {H H':Hp} (s:Same H H'):KF H H':=fun b o e=>.inl (s b o e)
theorem KF.refl (H:Hp):KF H H:=fun _ _ e=>.inl e
theorem KF.trans {H H' H'':Hp} (a:KF H H') (b:KF H' H''):KF H H'':=fun c o e=>by
 rcases a c o e with h | ⟨kvs,ob,rfl,h⟩
 ·exact b c o h
 ·rcases b c _ h with h2 | ⟨_,_,z,_⟩
  ·exact .inr ⟨kvs,ob,rfl,h2⟩
  ·cases z
theorem KF.lst {H H':Hp} (a:KF H H') {b:Addr} {xs:List V} (e:H b=some (.lst xs)):H' b=some (.lst xs):=by
 rcases a b _ e with h | ⟨_,_,z,_⟩
 ·exact h
 ·cases z
theorem KF.tup {H H':Hp} (a:KF H H') {b:Addr} {xs:List V} (e:H b=some (.tup xs)):H' b=some (.tup xs):=by
 rcases a b _ e with h | ⟨_,_,z,_⟩
 ·exact h
 ·cases z
theorem KF.frz {H H':Hp} (a:KF H H') {b:Addr} {ob:Obj} {u:HO} (e:H b=some (.frz ob u)):H' b=some (.frz ob u):=by
 rcases a b _ e with h | ⟨_,_,z,_⟩
 ·exact h
 ·cases z
theorem KF.rd {H H':Hp} (a:KF H H') {b:Addr} {kvs:List (Key×V)} (e:Rd H b (.dK kvs)):Rd H' b (.dK kvs):=by
 rcases e with e | ⟨ob,e⟩
 ·rcases a b _ e with h | ⟨_,ob,z,h⟩
  ·exact .inl h
  ·cases z
   exact .inr ⟨ob,h⟩
 ·exact .inr ⟨ob,a.frz e⟩
mutual
theorem Tr.kf {H H':Hp} (s:KF H H') {v:V} {d:PyData} (h:Tr H v d):Tr H' v d:=by
 cases h with
 | int i=>exact .int i
 | str x=>exact .str x
 | lst h r=>exact .lst (s.lst h) (Trs.kf s r)
 | tup h r=>exact .tup (s.tup h) (Trs.kf s r)
theorem Trs.kf {H H':Hp} (s:KF H H') {vs:List V} {ds:List PyData} (h:Trs H vs ds):Trs H' vs ds:=by
 cases h with
 | nil=>exact .nil
 | cons h r=>exact .cons (Tr.kf s h) (Trs.kf s r)
end
def e8i (td:TE):TI:=fun σ H R=>td σ H fun x H1=>∃ d kvs,x=.ref d∧Rd H1 d (.dK kvs)∧∀ ob H2,H2 d=some (.frz ob (.dK kvs))→KF H1 H2→(∀ b,H1 b=none→H2 b=none)→R (ItK d ob kvs) H2
theorem d9b {tg o:Expr} {td:TE} (ho:PE X o td):PI X tg o (e8i td):=by
 constructor;intro pins s σ H R I h
 refine thn (ho pins s σ H _ I h) fun v s1 ⟨x,H1,I1,r1,d,kvs,ex,hd,q⟩=>?_
 subst ex
 cases r1
 obtain⟨ob,H2,I2,h2,k2,n2⟩:∃ ob H2,Inv X pins σ H2 s1∧H2 d=some (.frz ob (.dK kvs))∧KF H1 H2∧∀ b,H1 b=none→H2 b=none:=by
  rcases hd with e | ⟨ob,e⟩
  ·obtain⟨ob,eo⟩:=b0f (I1.hok d _ e)
   refine⟨ob,_,c3e I1 e eo,a0b,fun b o eb=>?_,fun b eb=>?_⟩
   ·by_cases n:b=d
    ·subst n
     rw[e] at eb
     cases eb
     exact .inr ⟨kvs,ob,rfl,a0b⟩
    ·exact .inl (by rw[a0h n];exact eb)
   ·have n:b≠d:=fun z=>by rw[z,e] at eb;cases eb
    rw[a0h n];exact eb
  ·exact⟨ob,H1,I1,e,KF.refl _,fun _ q=>q⟩
 obtain⟨ho2,z,hs,vs,rel,dd⟩:=(show a3q X.prog X.w H2 s1.heap d (.frz ob (.dK kvs)) from I2.hok d _ h2)
 obtain⟨ep,hat⟩:=dd.dictAt
 have hat':∀ h:Heap,h.get? d=some ob→h.DictAt (a1c X.prog X.w) d vs ep:=fun h e=>hat.at' fun o e2=>by
  rw[ho2] at e2
  cases e2
  exact e
 refine wpAny_pyIter_dict hs hat ?_
 have I3:=I2.kept (t':=s1.toks) (h':=s1.heap.push {cls:=.type "dict_keyiterator",data:=.fields #[.ref d,.int 0 0,.int vs.length 0,.int ep 0]}) fun b o e=>Heap.get?_push_of_some _ e
 exact⟨_,[s1.heap.objs.size],_,_,H2,rfl,I3,c8h d _ ep ob kvs vs rel hat',⟨_,Heap.get?_push_size _ rfl,rfl,rfl⟩,fun b hb=>by
  rw[List.mem_singleton.mp hb]
  exact I2.fpOk (Nat.le_refl _) (I2.hok.fresh (Nat.le_refl _)),q ob H2 h2 k2 n2⟩
end
end My
namespace My
open PySem PySem.Spec PySem.W PyProof.Rows L2 PyProof PySem.SeqAt
section
variable {prog:Program} {w:World} {A:Around} {E:Value→Shared→Prop} {s:Shared}
theorem e1w {R:Result→Shared→Prop} {I D l:Addr} {us:List Value} {ks v0:List (Key×Value)} (hh:A.handled=none) (hlI:l≠I) (hDI:D≠I) (hDl:D≠l) (hlen:us.length=ks.length) (hsz:v0.length+ks.length < 1000000) :
  ∀ (k i:Nat) (s:Shared),us.length - i=k→i≤us.length→s.heap.IsListIter I l i→s.heap.IsList l us.toArray→(∀ (j:Nat) u,us[j]?=some u→∃ t ku q,u=.ref t∧t≠I∧t≠D∧ks[j]?=some q∧s.heap.IsTuple t #[ku,q.2]∧(a1c prog w).is q.1 ku=true) →
   (∃ vs,s.heap.DictOf (a1c prog w) D vs∧vs=a7c v0 (ks.take i)∧vs.length≤v0.length+i) →
   (∀ h' tk,(∀ b o,b≠I→b≠D→s.heap.get? b=some o→h'.get? b=some o)→h'.DictOf (a1c prog w) D (a7c v0 ks)→R (.ok (.ret .none)) {s with heap:=h',toks:=tk}) →
   codeAny (model prog w) A (.builtin "dict.update.loop" ⟨[.ref D,.ref I,rawInt i,.none],[]⟩) R s:=by
 have W:=Walks.list (prog:=prog) (w:=w) (A:=A.in1) hh I l hlI us.toArray
 have us0:us.toArray.size=us.length:=by simp
 intro k
 induction k with
 | zero =>
  intro i s hk hi hit hil ht hg hR
  have hin:i=us.length:=by omega
  refine codeAny_builtin b7l ?_
  rw[Around.under_plainId a7y _]
  refine wpAny_bind (W.done s _ _ ⟨by rw[us0,←hin];exact hit,hil⟩ fun h' tk hk'=>?_)
  obtain⟨vs,dd,rfl,_⟩:=hg
  rw[hin,hlen,List.take_length] at dd
  refine wpAny_bind (wpAny_pure (wpAny_pure (hR h' tk (fun b o b1 _ e=>hk' b o (by simpa using b1) e) ?_)))
  obtain⟨o,es,ep,ho,r⟩:=dd
  exact⟨o,es,ep,hk' D o (by simpa using hDI) ho,r⟩
 | succ k ih =>
  intro i s hk hi hit hil ht hg hR
  have hlt:i < us.length:=by omega
  refine codeAny_builtin b7l ?_
  rw[Around.under_plainId a7y _]
  refine wpAny_bind (W.item i s _ _ (by rw[us0];exact hlt) ⟨hit,hil⟩ fun v h1 tk1 hP hst hk1=>?_)
  obtain⟨t,ku,q,rfl,tI,tD,hq,hT,hkk⟩:=ht i v (by simpa using hP)
  obtain⟨vs,dd,evs,hvl⟩:=hg
  obtain⟨oT,hoT,hcT,nT,hdT⟩:=id hT
  have hoT1:=hk1 t oT (by simpa using tI) hoT
  refine wpAny_bind (wpAny_holding ?_)
  refine wpAny_bind (wpAny_tryCatch ?_)
  unfold Builtin.Dict.pairItems
  refine wpAny_bind (wpAny_typeOf (T:="tuple") ⟨oT,hoT1,hcT⟩ ?_)
  rw[if_pos (by decide)]
  refine wpAny_bind (wpAny_seqItems hoT1 hdT ?_)
  refine wpAny_pure ?_
  show wpAny _ _ (holding [ku,q.2] (dictSet D ku q.2)) _ _ _
  refine wpAny_holding ?_
  unfold dictSet
  try with_reducible refine wpAny_holding ?_
  refine wpAny_bind ((a1c prog w).pyHash hkk ?_)
  have dd1:h1.DictOf (a1c prog w) D vs:=by
   obtain⟨o,es,ep,ho,r⟩:=dd
   exact⟨o,es,ep,hk1 D o (by simpa using hDI) ho,r⟩
  have hv6:vs.length≤sizeLine:=Nat.le_trans hvl (Nat.le_trans (show v0.length+i≤1000000 by omega) (by decide))
  refine wpAny_dictSetHashed_pairs (s:={s with heap:=h1,toks:=tk1+1}) (hsz:=hv6) hkk dd1 fun h2 dd2 sb=>?_
  have oth:∀ b,b≠D→h2.get? b=h1.get? b:=fun b hb=>sb.2 b hb
  refine wpAny_pure ⟨plainId_quiet a7y _,?_⟩
  have en:rawInt ((i:Int)+1)=rawInt ((i+1:Nat):Int):=by rw[Int.natCast_add];rfl
  rw[en]
  refine ih (i+1) {s with heap:=h2,toks:=tk1+1} (by omega) hlt (hst.1.at fun o e=>(oth I hDI.symm).trans e) (hst.2.at fun o e=>(oth l hDl.symm).trans e) (fun j u eu=>?_) ⟨_,dd2,?_,?_⟩ fun h3 tk3 k3 dd3=>?_
  ·obtain⟨t',ku',q',e1,e2,e3,e4,⟨oT',hoT',r'⟩,e6⟩:=ht j u eu
   exact⟨t',ku',q',e1,e2,e3,e4,⟨oT',(oth _ e3).trans (hk1 _ _ (by simpa using e2) hoT'),r'⟩,e6⟩
  ·rw[List.take_add_one,hq,evs]
   unfold a7c
   rw[List.foldl_append]
   rfl
  ·have:=c2c (K:=Key) vs q.1 q.2
   omega
  ·exact hR h3 tk3 (fun b o b1 b2 e=>k3 b o b1 b2 ((oth b b2).trans (hk1 b o (by simpa using b1) e))) dd3
end
def e7p (K:PySem.W.Frag) (td te:TE):TE:=fun σ H Q=>td σ H fun x H1=>∃ a,x=.ref a∧IsD H1 a∧te σ H1 fun y H2=>∃ b ws kvs ps,y=.ref b∧H2 a=some (.dK kvs)∧H2 b=some (.lst ws)∧d5z K H2 ws ps∧kvs.length+ps.length < 1000000∧Q .non (upd H2 a (.dK (a5v kvs ps)))
section
variable {X:Cx} {o e:Expr} {td te:TE} {apos cpos:Pos}
theorem e0a {K:PySem.W.Frag} (hK:X.K=K) (hc:X.calm=true) (ho:PE X o td) (he:PE X e te) (m:M1 X o "update" apos e cpos):PE X (.Call (.Attribute o "update" apos) [e] [] cpos) (e7p K td te):=by
 constructor;intro pins s σ H Q I h
 subst hK
 refine wpAny_Call_method m.base m.few m.line PySem.F.plainAttrs_dict PySem.F.slot_dict_update PySem.F.type_dict_update (thn (ho pins s σ H _ I h) fun u s1 ⟨x,H1,I1,rx,a,ex,d,q1⟩=>?_)
 subst ex
 obtain rfl:u=Value.ref a:=rx
 obtain⟨t1,t2,_⟩:=d5u I1 d
 refine⟨t1,t2,?_⟩
 rw[m.trees]
 refine Calls.callWith_builtin rfl (Calls.evalArgs_plain (Calls.spliced_cons (thn (he pins s1 σ H1 _ I1 q1) fun iv s2 ⟨y,H2,I2,ry,b,ws,kvs,ps,ey,ha,hb,hp,hz,q2⟩=>Calls.spliced_nil ?_)))
 subst ey
 obtain rfl:iv=Value.ref b:=ry
 obtain⟨z,hd,vs,rel,dd⟩:=e6i I2.hok ha
 obtain⟨t3,_,_⟩:=d5u I2 (.inl ⟨kvs,.inl ha⟩)
 obtain⟨its,rv,pl,_⟩:=I2.list (SqL.of hb)
 obtain⟨ks,k1,k2,k3⟩:=d8t I2 hp rv
 have kl:ks.length=ps.length:=(Paired.length k1).symm
 have vl:vs.length=kvs.length:=rel.length.symm
 have hab:a≠b:=fun z=>by rw[z,hb] at ha;cases ha
 have hbl:b < s2.heap.objs.size:=by obtain⟨_,_,e,_⟩:=pl;exact Heap.lt_size e
 have hal:a < s2.heap.objs.size:=(I2.hok a _ ha).lt
 refine wpAny_call (codeAny_call_builtin PySem.F.slot_dict_update.plain PySem.F.entry_dict_update (PySem.F.slot_dict_update.check _ _ _ _ _ _ _ _ t3 (PySem.F.args_dict_update_2 _ _) ?_))
 unfold Builtin.«dict.update»
 refine wpAny_bind ?_
 unfold Builtin.Dict.selfAndRest
 refine wpAny_bind (wpAny_notOrdered_dict t3 ?_)
 show wpAny _ _ (pure (a,[Value.ref b])) _ _ _
 refine wpAny_pure ?_
 show wpAny _ _ (Builtin.Dict.updateFrom "dict.update" a (.ref b) [] .none) _ _ _
 unfold Builtin.Dict.updateFrom
 obtain⟨oa,na,hoa,hca,_⟩:=id pl
 refine wpAny_bind (wpAny_typeOf (T:="list") ⟨oa,hoa,hca⟩ ?_)
 rw[if_pos (by decide)]
 refine wpAny_bind (d6h pl (I2.ok.hd hc) fun h1 tk1 hk1=>?_)
 rw[if_pos (show (none:Option Value).isNone=true from rfl)]
 refine wpAny_bind (wpAny_rule ?_)
 have pl2:=pl.keeps hk1
 refine wpAny_bind (wpAny_pyIter_list pl2.isList ?_)
 have dd1:(h1.push {cls:=.type "list_iterator",data:=.fields #[.ref b,.int 0 0]}).DictOf (a1c X.prog X.w) a vs:=by
  obtain⟨o,es,ep,ho,r⟩:=dd
  exact⟨o,es,ep,Heap.get?_push_of_some _ (hk1 _ _ ho),r⟩
 have inI:∀ c o,s2.heap.get? c=some o→c≠h1.objs.size:=fun c o e=>Nat.ne_of_lt (Heap.lt_size (hk1 c o e))
 have kp:∀ c o,s2.heap.get? c=some o→(h1.push {cls:=.type "list_iterator",data:=.fields #[.ref b,.int 0 0]}).get? c=some o:=fun c o e=>Heap.get?_push_of_some _ (hk1 _ _ e)
 obtain⟨ob,hob⟩:=b0f (I2.hok b _ hb)
 obtain⟨oA,hoA⟩:=b0f (I2.hok a _ ha)
 refine wpAny_pure ⟨plainId_quiet a7y _,e1w (A:=X.A) (s:={s2 with heap:=h1.push {cls:=.type "list_iterator",data:=.fields #[.ref b,.int 0 0]},toks:=tk1}) (I:=h1.objs.size) (D:=a) (v0:=vs) (I2.ok.hd hc) (inI b ob hob) (inI a oA hoA) hab k2 (by rw[kl,vl];exact hz) its.length 0 rfl (Nat.zero_le _) ⟨_,Heap.get?_push_size _ rfl,rfl,rfl⟩ (pl2.isList.push _) (fun j u eu=>?_) ⟨vs,dd1,rfl,Nat.le_refl _⟩ fun h3 tk3 k3' dd3=>?_⟩
 ·obtain⟨t,ku,q',e1,e2,e3,⟨oT,hoT,r'⟩,e5⟩:=k3 j u eu
  refine⟨t,ku,q',e1,inI t oT hoT,fun z=>?_,e3,⟨oT,kp _ _ hoT,r'⟩,e5⟩
  obtain⟨o',es,ep,ho',hex,hdt,_⟩:=dd
  rw[z,ho'] at hoT
  cases hoT
  rw[hdt] at r'
  obtain⟨_,_,z2⟩:=r'
  cases z2
 ·have he':∃ q,h3.get? a=some q:=let ⟨q,_,_,hq,_⟩:=dd3;⟨q,hq⟩
  refine⟨.non,_,I2.write (x:=a) (e:=a) (t':=tk3) (o:=.dK (a5v kvs ps)) (by rw[ha];exact True.intro) (.inl rfl) (fun c q hc' hq=>k3' c q (inI c q hq) hc' (kp c q hq)) he' (d1y (Nat.le_trans (a9u ps kvs) (Nat.le_trans (Nat.le_of_lt hz) (by decide))) hd (d7n k1 rel) dd3),rfl,q2⟩
theorem c8y {K:PySem.W.Frag} (hu:X.A.units+16 < cLine) (hK:X.K=K):MtR X "list.index" (fun x xs H Q=>∃ (l:Addr) (ys:List V) (ns:List Nk) (v:V) (k:Nk),x=.ref l∧xs=[v]∧SqL K H l ys∧Paired (NdV H) ys ns∧NdV H v k∧ns.length≤1000∧k∈ns∧Q (.int ((ns.idxOf k:Nat):Int)) H):=by
 subst hK
 intro pins s σ H x xs v us Q I rx rv h
 obtain⟨l,ys,ns,y0,k,rfl,rfl,hl,pk,hv,few,hk,q⟩:=h
 cases rx
 obtain⟨u,rfl,ru⟩:=c4u rv
 obtain⟨its,r,pl,_⟩:=I.list hl
 obtain⟨⟨cls,dd,data,sl⟩,ho,hc,n,hd⟩:=pl.isList
 simp only at hc hd
 subst hc hd
 have hlen:its.length=ns.length:=by rw[←r.length,a5n pk]
 have hj:ns.idxOf k < ns.length:=List.idxOf_lt_length_iff.mpr hk
 have hku:=e8q I hv ru
 have at_:∀ (i:Nat) (hi:i < its.length),e3k.is s.heap (ns[i]'(by omega)) its[i]:=fun i hi=>by
  obtain⟨y,ey,ry⟩:=b4w r (List.getElem?_eq_getElem hi)
  obtain⟨m,em,hm⟩:=a1w pk ey
  rw[List.getElem?_eq_getElem (by omega)] at em
  cases em
  exact e8q I hm ry
 refine call_meets PySem.F.slot_list_index ⟨_,ho,rfl⟩ PySem.F.entry_list_index (PySem.F.args_list_index_2 _ _)
  (list_indexAt l its.toArray n dd sl u (fun y=>decide (e3v _ e3k s.heap (0,0) y=k)) (ns.idxOf k) (by simpa [hlen] using hj) (by omega) ?_ ?_) ⟨ho,fun y hy=>?_,.int _,H,I.tok _,⟨_,rfl⟩,q⟩
 ·have e:=at_ (ns.idxOf k) (by omega)
  rw[List.getElem_toArray,c5p e]
  exact decide_eq_true (List.getElem_idxOf hj)
 ·intro m hm hlt
  have hm':m < its.length:=by simpa using hm
  have e:=at_ m hm'
  rw[List.getElem_toArray,c5p e]
  refine decide_eq_false fun z=>?_
  exact absurd hlt (Nat.not_lt.mpr (by
   have:=List.not_of_lt_findIdx (p:=(· == k)) (xs:=ns) (i:=m) hlt
   simp[z] at this))
 ·obtain⟨i,hi,e⟩:=List.getElem_of_mem (by simpa using hy:y∈its)
  have e':=at_ i hi
  rw[e] at e'
  rw[c5p e']
  exact e3k.eq (show X.A.in1.units+1 < cLine by show X.A.units+1+1 < cLine;omega) e' hku
theorem d5a {K:PySem.W.Frag} (hK:X.K=K):b9p X (.builtin "len") (fun xs H Q=>∃ x n,xs=[x]∧f1b K x H n∧Q (.int n) H):=hK ▸ a1i
def e7z (td:TE):TI:=fun σ H R=>td σ H fun x H1=>∃ d kvs,x=.ref d∧Rd H1 d (.dK kvs)∧∀ ob H2,H2 d=some (.frz ob (.dK kvs))→KF H1 H2→(∀ b,b≠d→H2 b=H1 b)→R (ItK d ob kvs) H2
theorem e0k {tg o:Expr} {td:TE} (ho:PE X o td):PI X tg o (e7z td):=by
 constructor;intro pins s σ H R I h
 refine thn (ho pins s σ H _ I h) fun v s1 ⟨x,H1,I1,r1,d,kvs,ex,hd,q⟩=>?_
 subst ex
 cases r1
 obtain⟨ob,H2,I2,h2,k2,n2⟩:∃ ob H2,Inv X pins σ H2 s1∧H2 d=some (.frz ob (.dK kvs))∧KF H1 H2∧∀ b,b≠d→H2 b=H1 b:=by
  rcases hd with e | ⟨ob,e⟩
  ·obtain⟨ob,eo⟩:=b0f (I1.hok d _ e)
   refine⟨ob,_,c3e I1 e eo,a0b,fun b o eb=>?_,fun b eb=>?_⟩
   ·by_cases n:b=d
    ·subst n
     rw[e] at eb
     cases eb
     exact .inr ⟨kvs,ob,rfl,a0b⟩
    ·exact .inl (by rw[a0h n];exact eb)
   ·exact a0h eb
  ·exact⟨ob,H1,I1,e,KF.refl _,fun _ _=>rfl⟩
 obtain⟨ho2,z,hs,vs,rel,dd⟩:=(show a3q X.prog X.w H2 s1.heap d (.frz ob (.dK kvs)) from I2.hok d _ h2)
 obtain⟨ep,hat⟩:=dd.dictAt
 have hat':∀ h:Heap,h.get? d=some ob→h.DictAt (a1c X.prog X.w) d vs ep:=fun h e=>hat.at' fun o e2=>by
  rw[ho2] at e2
  cases e2
  exact e
 refine wpAny_pyIter_dict hs hat ?_
 have I3:=I2.kept (t':=s1.toks) (h':=s1.heap.push {cls:=.type "dict_keyiterator",data:=.fields #[.ref d,.int 0 0,.int vs.length 0,.int ep 0]}) fun b o e=>Heap.get?_push_of_some _ e
 exact⟨_,[s1.heap.objs.size],_,_,H2,rfl,I3,c8h d _ ep ob kvs vs rel hat',⟨_,Heap.get?_push_size _ rfl,rfl,rfl⟩,fun b hb=>by
  rw[List.mem_singleton.mp hb]
  exact I2.fpOk (Nat.le_refl _) (I2.hok.fresh (Nat.le_refl _)),q ob H2 h2 k2 n2⟩
end
end My
namespace My
open PySem PySem.Spec PySem.W PyProof.Rows L2 PyProof PySem.SeqAt
theorem e3w {prog:Program} {w:World} {A:Around} {E:Value→Shared→Prop} {s:Shared} {vs:List Value} {a F:Addr} {m:Str→Option Value} {n:Nat} {P:PySem.Fin→Shared→Prop} (κ:SortKind) (rk:Value→Int) (h64:vs.length < 64)
  (ho:s.heap.get? a=some (seqObj "list" vs.toArray n)) (hns:s.heap.Ns F m)
  (hkind:2≤vs.length→∀ h',KpT s.heap h'→∀ (R:SortKind→Shared→Prop) (E':Value→Shared→Prop),R κ {s with heap:=h'}→wpAny (model prog w) A (keyKind' vs.toArray) R E' {s with heap:=h'})
  (hlt:2≤vs.length→∀ h',KpT s.heap h'→∀ x∈vs,∀ y∈vs,∀ (R:Bool→Shared→Prop) (E':Value→Shared→Prop),R (decide (rk x < rk y)) {s with heap:=h'}→wpAny (model prog w) A (keyLt' κ x y) R E' {s with heap:=h'})
  (h:∀ out h' c,(∀ b o,b≠F→b≠a→s.heap.get? b=some o→h'.get? b=some o)→h'.Ns F m→h'.get? a=some (seqObj "list" (List.toArray out) c)→out.Perm vs→out.Pairwise (fun x y=>rk x≤rk y)→P (.done (.ret .none)) {s with heap:=h'}) :
  wpAny (model prog w) A (Builtin.«list.sort» ⟨[.ref a],[]⟩) P E s:=by
 have haF:a≠F:=fun e=>by
  obtain⟨o,es,ep,e1,e2,_⟩:=hns
  rw[←e,ho] at e1
  cases e1
  cases e2
 by_cases h2:2≤vs.length
 ·have Fr0:Fr {} F s.heap m:=⟨hns,(fun b o e=>by rw[b5z] at e;cases e),Nat.zero_le _⟩
  have Nw:News {} F s.heap ((c8e F s.heap).filter fun p=>decide (p.1≠a)):=fun p hp=>by
   obtain⟨x,y⟩:=d4t (List.mem_filter.mp hp).1
   exact⟨y,x,b5z _⟩
  have hna:∀ p∈(c8e F s.heap).filter (fun p=>decide (p.1≠a)),p.1≠a:=fun p hp=>of_decide_eq_true (List.mem_filter.mp hp).2
  have inN:∀ {b:Addr} {o:Obj},b≠F→b≠a→s.heap.get? b=some o→(b,o)∈(c8e F s.heap).filter fun p=>decide (p.1≠a):=fun {b o} x y e=>List.mem_filter.mpr ⟨d3h x e,decide_eq_true y⟩
  refine kat_list_sort Fr0 Nw ho haF (b5z _) hna h2 h64 fun e1 h' F' N'=>?_
  have kp:KpT s.heap h':=fun b o xs c e hc hd=>(N' (b,o) (.tail _ (inN (fun z=>by
   obtain⟨o',es,ep,e1,e2,_⟩:=hns
   rw[←z,e] at e1
   cases e1
   rw[hd] at e2
   cases e2) (fun z=>by
   rw[z,ho] at e
   cases e
   exact absurd (show Value.type "list"=Value.type "tuple" from hc) (by decide)) e))).1
  refine hkind h2 h' kp _ _ ?_
  have mem:∀ i,i < vs.length→vs.getD i .none∈vs:=fun i hi=>by
   have:vs.getD i .none=vs[i]:=by simp[List.getD,hi]
   rw[this]
   exact List.getElem_mem hi
  refine InP.wp (n:=vs.length) (f:=fun i=>rk (vs.getD i .none)) (fun i j R hi hj hR=>?_) _ (e0b (by omega)) ?_
  ·show wpAny _ _ (keyLt' κ (vs.getD i .none) (vs.getD j .none)) _ _ _
   exact hlt h2 h' kp _ (mem i hi) _ (mem j hj) _ _ hR
  obtain⟨pp,pr⟩:=d9u (fun i=>rk (vs.getD i .none)) (n:=vs.length) (by omega)
  generalize a2d (fun i=>rk (vs.getD i .none)) (kas_sort vs.length)=p at *
  refine KasFin.intro F' N' (.head hna) fun h3 c F3 N3=>?_
  refine h _ h3 c (fun b o x y e=>(N3 (b,o) (.tail _ (inN x y e))).1) F3.ns (N3 _ (.head _)).1 ?_ ?_
  ·have e:vs=(List.range vs.length).map fun i=>vs.getD i .none:=by
    apply List.ext_getElem
    ·simp
    ·intro i h1 h2
     simp[List.getD,h1]
   have:=pp.map fun i=>vs.getD i Value.none
   rw[←e] at this
   exact this
  ·have hsz:p.size=vs.length:=by rw[←Array.length_toList,pp.length_eq,List.length_range]
   rw[List.pairwise_iff_getElem]
   intro i j hi hj hij
   have hi':i < p.size:=by simpa using hi
   have hj':j < p.size:=by simpa using hj
   have:=pr i j (Nat.le_of_lt hij) (by omega)
   unfold KA at this
   have e1:p.getD i 0=p[i]:=by simp[Array.getD,hi']
   have e2:p.getD j 0=p[j]:=by simp[Array.getD,hj']
   rw[e1,e2] at this
   simpa using this
 ·rw[list_sort_plain]
  have ha:a < s.heap.objs.size:=Heap.lt_size ho
  refine wpAny_bind (listItems_at ho rfl (wpAny_bind (listUpdate_at ho rfl ?_ (by rw[List.size_toArray,sizeLine_eq];omega) (Nat.zero_le _))))
  obtain⟨e1,ho1⟩:∃ e1,(s.heap.update a (Obj.mapSeq fun _=>(#[]:Array Value))).get? a=some (seqObj "list" #[] e1):=⟨_,get?_update_seq ho (fun _=>#[])⟩
  refine wpAny_bind (seqEpoch_at ho1 rfl (wpAny_bind (wpAny_newTuple (wpAny_bind (wpAny_newList (wpAny_holding ?_) (Nat.zero_le _))) (by show vs.length≤_;rw[sizeLine_eq];omega))))
  have s1:=Heap.SameBut.update s.heap a (Obj.mapSeq fun _=>(#[]:Array Value))
  have k1:∀ b o,b≠a→s.heap.get? b=some o→(((s.heap.update a (Obj.mapSeq fun _=>(#[]:Array Value))).push (seqObj "tuple" vs.toArray 0)).push (seqObj "list" #[] 0)).get? b=some o:=fun b o y e=>Heap.get?_push_of_some _ (Heap.get?_push_of_some _ ((s1.2 b y).trans e))
  have ho6:(((s.heap.update a (Obj.mapSeq fun _=>(#[]:Array Value))).push (seqObj "tuple" vs.toArray 0)).push (seqObj "list" #[] 0)).get? a=some (seqObj "list" #[] e1):=Heap.get?_push_of_some _ (Heap.get?_push_of_some _ ho1)
  show wpAny (model prog w) A _ P E {s with heap:=((s.heap.update a (Obj.mapSeq fun _=>(#[]:Array Value))).push (seqObj "tuple" vs.toArray 0)).push (seqObj "list" #[] 0)}
  generalize ((s.heap.update a (Obj.mapSeq fun _=>(#[]:Array Value))).push (seqObj "tuple" vs.toArray 0)).push (seqObj "list" #[] 0)=h6 at k1 ho6
  dsimp only
  have hn2:vs.toArray.size < 2:=by rw[List.size_toArray];omega
  rw[if_pos hn2,if_pos hn2]
  refine wpAny_bind (wpAny_pure ?_)
  rw[StateT.run_pure]
  refine wpAny_bind (wpAny_pure (show wpAny _ _ (seqEpoch a>>=_) _ _ {s with heap:=h6} from wpAny_bind (seqEpoch_at ho6 rfl ?_)))
  have eo:(arrOf (SortSt.mk' general' (vs.toArray.zip vs.toArray) #[] 7 none)).map (·.2)=vs.toArray:=by
   show (vs.toArray.zip vs.toArray).map (·.2)=_
   apply Array.ext
   ·simp
   ·intro i h1 h2
    simp
  dsimp only
  rw[eo]
  refine wpAny_bind (listUpdate_at ho6 rfl ?_ (Nat.zero_le _) (by rw[List.size_toArray,sizeLine_eq];omega))
  simp only [bne_self_eq_false,Bool.false_eq_true,if_false]
  have s2:=Heap.SameBut.update h6 a (Obj.mapSeq fun _=>vs.toArray)
  obtain⟨c2,hc2⟩:∃ c2,(h6.update a (Obj.mapSeq fun _=>vs.toArray)).get? a=some (seqObj "list" vs.toArray c2):=⟨_,get?_update_seq ho6 fun _=>vs.toArray⟩
  refine wpAny_pure (h vs _ c2 (fun b o _ y e=>(s2.2 b y).trans (k1 b o y e)) ?_ hc2 (.refl _) ?_)
  ·obtain⟨o,es,ep,e1,e2,e3⟩:=hns
   exact⟨o,es,ep,(s2.2 F haF.symm).trans (k1 F o haF.symm e1),e2,e3⟩
  ·have hl1:vs.length≤1:=by omega
   match vs,hl1 with
   | [],_=>exact .nil
   | [x],_=>exact List.pairwise_cons.mpr ⟨(fun _ h=>by cases h),List.Pairwise.nil⟩
section
variable {prog:Program} {w:World} {A:Around} {s:Shared}
theorem IsK.keep2 {h h':Heap} {k:List Key} {v:Value} (x:IsK h k v) (kp:KpT h h'):IsK h' k v:=let ⟨a,o,n,us,e,ho,hc,hd,hv⟩:=x;⟨a,o,n,us,e,kp a o _ n ho hc hd,hc,hd,hv⟩
theorem e0n {E:Value→Shared→Prop} {vs:List Value} {ks:List (List Key)} {a F:Addr} {m:Str→Option Value} {n:Nat} {P:PySem.Fin→Shared→Prop} (cd:Key→Int) (h64:vs.length < 64)
  (hk:Paired (fun v k=>IsK s.heap k v) vs ks) (sk:e9c cd ks) (ho:s.heap.get? a=some (seqObj "list" vs.toArray n)) (hns:s.heap.Ns F m)
  (h:∀ out h' c,(∀ b o,b≠F→b≠a→s.heap.get? b=some o→h'.get? b=some o)→h'.Ns F m→h'.get? a=some (seqObj "list" (List.toArray out) c)→out.Perm vs→out.Pairwise (fun x y=>b3e ((a8z s.heap y).map cd) ((a8z s.heap x).map cd)=false)→P (.done (.ret .none)) {s with heap:=h'}) :
  wpAny (model prog w) A (Builtin.«list.sort» ⟨[.ref a],[]⟩) P E s:=by
 have at_:∀ x∈vs,∃ k∈ks,IsK s.heap k x:=fun x hx=>by
  obtain⟨i,hi⟩:=List.mem_iff_getElem?.mp hx
  obtain⟨k,ek,ik⟩:=a1w hk hi
  exact⟨k,List.mem_of_getElem? ek,ik⟩
 have rkl:∀ x∈vs,∀ y,decide (((c3k b3e (ks.map (·.map cd)) ((a8z s.heap x).map cd):Nat):Int) < (c3k b3e (ks.map (·.map cd)) ((a8z s.heap y).map cd):Nat))=b3e ((a8z s.heap x).map cd) ((a8z s.heap y).map cd):=fun x hx y=>by
  obtain⟨k,hm,ik⟩:=at_ x hx
  exact e5i d1s d7p c3y (by rw[b5f ik];exact List.mem_map_of_mem hm)
 obtain⟨T,hT⟩:∃ T:Value,(T == T)=true∧∀ k r,k::r∈ks→tyK k=T:=by
  match ks,sk with
  | [],_=>exact⟨.type "int",by decide,fun k r hm=>by cases hm⟩
  | []::_,sk=>exact absurd rfl (sk.2 _ (.head _))
  | (k0::r0)::kr,sk=>exact⟨tyK k0,e3n _,fun k r hm=>e1p (sk.1 _ hm _ (.head _)).1⟩
 refine e3w (tuples' (T != Value.type "tuple")) (fun u=>(c3k b3e (ks.map (·.map cd)) ((a8z s.heap u).map cd):Nat)) h64 ho hns (fun h2 h' k R E' q=>?_) (fun h2 h' k x hx y hy R E' q=>?_) (fun out h' c k1 k2 k3 pm pw=>h out h' c k1 k2 k3 pm ?_)
 ·obtain⟨fs,t,l,fa⟩:=d6e (cd:=cd) (Paired.imp' (fun v k' x=>IsK.keep2 x k) hk) sk.2
  refine kat_kind (s:={s with heap:=h'}) t (by omega) (fun v hv=>?_) hT.1 q
  obtain⟨k0,r,hm,rr⟩:=fa v hv
  rw[←hT.2 k0 r hm]
  exact e1s rr
 ·have q':R (decide (((c3k b3e (ks.map (·.map cd)) ((a8z s.heap x).map cd):Nat):Int) < (c3k b3e (ks.map (·.map cd)) ((a8z s.heap y).map cd):Nat))) {s with heap:=h'}:=q
  rw[rkl x hx y] at q'
  obtain⟨kx,mx,ix⟩:=at_ x hx
  obtain⟨ky,my,iy⟩:=at_ y hy
  rw[b5f ix,b5f iy] at q'
  obtain⟨ax,ox,nx,ux,rfl,hox,_,hdx,hvx⟩:=ix.keep2 k
  obtain⟨ay,oy,ny,uy,rfl,hoy,_,hdy,hvy⟩:=iy.keep2 k
  exact kat_lt (s:={s with heap:=h'}) hox hdx hoy hdy (f1a (s:={s with heap:=h'}) hvx hvy (sk.1 _ mx _ my) (by simp) q')
 ·refine List.Pairwise.imp_of_mem (fun {x y} hx hy hxy=>?_) pw
  rw[←rkl y (pm.mem_iff.mp hy) x]
  exact decide_eq_false (Int.not_lt.mpr hxy)
end
section
variable {X:Cx} {pins:List (Addr×Obj)} {σ:L2.St} {H:Hp} {s:Shared}
theorem d6z {A:Around} {E:Value→Shared→Prop} (I:Inv X pins σ H s) {h1:Heap} {tk:Nat} {xs:List V} {its:List Value} {ks:List (List Key)} {cd:Key→Int} {P:PySem.Fin→Shared→Prop} (k0:∀ b o,s.heap.get? b=some o→h1.get? b=some o) (hs:s.heap.objs.size≤h1.objs.size) (rv:a3e xs its) (pk:Paired (TkV H) xs ks) (hz:its.length≤sizeLine) (h64:its.length < 64) (sk:e9c cd ks)
  (q:∀ (ys:List V) (js:List (List Key)) (h':Heap),Paired (TkV H) ys js→js.Perm ks→js.Pairwise (fun a b=>b3e (b.map cd) (a.map cd)=false)→Inv X pins σ (upd H h1.objs.size (.lst ys)) {s with heap:=h',toks:=tk}→H h1.objs.size=none→P (.done (.ret .none)) {s with heap:=h',toks:=tk}) :
  wpAny (model X.prog X.w) A (Builtin.«list.sort» ⟨[.ref h1.objs.size],[]⟩) P E {s with heap:=h1.push {cls:=.type "list",data:=.seq its.toArray},toks:=tk}:=by
 have k1:∀ b o,s.heap.get? b=some o→(h1.push {cls:=.type "list",data:=.seq its.toArray}).get? b=some o:=fun b o e=>Heap.get?_push_of_some _ (k0 b o e)
 have hoL:(h1.push {cls:=.type "list",data:=.seq its.toArray}).get? h1.objs.size=some (seqObj "list" its.toArray 0):=Heap.get?_push_size _ rfl
 have I1:Inv X pins σ H {s with heap:=h1.push {cls:=.type "list",data:=.seq its.toArray},toks:=tk}:=I.kept (t':=tk) k1
 obtain⟨m,hns,_⟩:=id I.loc
 have pu:Paired (fun v k=>IsK (h1.push {cls:=.type "list",data:=.seq its.toArray}) k v) its ks:=by
  have:∀ {xs:List V} {its:List Value} {ks:List (List Key)},a3e xs its→Paired (TkV H) xs ks→Paired (fun v k=>IsK (h1.push {cls:=.type "list",data:=.seq its.toArray}) k v) its ks→True:=fun _ _ _=>trivial
  have go:∀ {ys:List V} {us:List Value} {ls:List (List Key)},a3e ys us→Paired (TkV H) ys ls→Paired (fun v k=>IsK (h1.push {cls:=.type "list",data:=.seq its.toArray}) k v) us ls:=by
   intro ys us ls v p
   induction v generalizing ls with
   | nil=>cases p;exact .nil
   | cons r t ih =>
    cases p with
    | cons a b=>exact .cons (e8u I1 a r) (ih b)
  exact go rv pk
 refine e0n (s:={s with heap:=h1.push {cls:=.type "list",data:=.seq its.toArray},toks:=tk}) cd h64 pu sk hoL (hns.keeps k1) fun out h' c kp ns' hD pm pw=>?_
 have at_:∀ u∈its,∃ p k,u=Value.ref p∧H p=some (.tup (k.map kV))∧a8z (h1.push {cls:=.type "list",data:=.seq its.toArray}) u=k:=fun u hu=>by
  obtain⟨i,hi⟩:=List.mem_iff_getElem?.mp hu
  obtain⟨x,ex,rx⟩:=b4w rv hi
  obtain⟨k,ek,p,rfl,hp⟩:=a1w pk ex
  obtain rfl:u=Value.ref p:=rx
  exact⟨p,k,rfl,hp,b5f (e8u I1 ⟨p,rfl,hp⟩ rfl)⟩
 generalize a8z (h1.push {cls:=.type "list",data:=.seq its.toArray})=kf at pw at_
 have em:its.map kf=ks:=by
  have go:∀ {ys:List V} {us:List Value} {ls:List (List Key)},a3e ys us→Paired (TkV H) ys ls→(∀ u∈us,∃ p k,u=Value.ref p∧H p=some (.tup (k.map kV))∧kf u=k)→us.map kf=ls:=by
   intro ys us ls v p
   induction v generalizing ls with
   | nil=>intro _;cases p;rfl
   | cons r t ih =>
    intro ha
    cases p with
    | cons a b =>
     rw[List.map_cons,ih b fun u hu=>ha u (.tail _ hu)]
     obtain⟨pa,k,e1,e2,e3⟩:=ha _ (.head _)
     obtain⟨p2,rfl,e4⟩:=a
     cases (show _=Value.ref p2 from r)
     cases e1
     rw[e2] at e4
     injection e4 with e5
     injection e5 with e6
     rw[e3,d6g e6]
  exact go rv pk at_
 obtain⟨ys,vy,py⟩:=c8q (R:=TkV H) (out.map kf) out (by simp) fun p hp=>by
  obtain⟨i,hi⟩:=List.mem_iff_getElem?.mp hp
  rw[List.getElem?_zip_eq_some] at hi
  obtain⟨h3,h4⟩:=hi
  rw[List.getElem?_map,h4] at h3
  obtain⟨pa,k,e1,e2,e3⟩:=at_ p.2 (pm.mem_iff.mp (List.mem_of_getElem? h4))
  refine⟨.ref pa,e1,pa,rfl,?_⟩
  have e5:kf p.2=p.1:=Option.some.inj h3
  rw[←e5,e3]
  exact e2
 have lo:out.length=its.length:=pm.length_eq
 have I2:=d3p (t':=tk) (D:=h1.objs.size) (u:=.lst ys) (h':=h') I (fun b o nb eb=>kp b o nb (Nat.ne_of_lt (Nat.lt_of_lt_of_le (Heap.lt_size eb) hs)) (k1 b o eb)) (fun m' hm=>e7g hns hm ▸ ns') hs ⟨by rw[vy.length,lo];exact hz,out,c,vy,hD⟩
 refine q ys (out.map kf) h' py ?_ (List.pairwise_map.mpr pw) I2 (I.hok.fresh hs)
 rw[←em]
 exact pm.map kf
theorem c7w:b9p X (.builtin "sorted") (fun xs H Q=>∃ (a:Addr) (vs:List V) (ks:List (List Key)) (cd:Key→Int),xs=[V.ref a]∧SqL X.K H a vs∧Paired (TkV H) vs ks∧e9c cd ks∧vs.length < 64 ∧
  ∀ p ys js,H p=none→Paired (TkV H) ys js→js.Perm ks→js.Pairwise (fun a b=>b3e (b.map cd) (a.map cd)=false)→Q (.ref p) (upd H p (.lst ys))):=by
 intro pins s σ H xs us Q I r h
 obtain⟨a,vs,ks,cd,rfl,e,pk,sk,h64,q⟩:=h
 obtain⟨u,rfl,ru⟩:=c4u r
 cases ru
 obtain⟨its,rv,plst,hz0⟩:=I.list e
 have hlen:its.length=vs.length:=rv.length.symm
 have hz:its.length≤sizeLine:=by rw[hlen];exact hz0
 refine Calls.call_function_entry kind_sorted plain_sorted entry_sorted (args_sorted1 _) ?_
 unfold Builtin.«sorted»
 refine wpAny_bind (m:=checkCount "sorted" 1 1 _) (wpAny_pure (wpAny_bind (collect_list plst.isList (wpAny_bind (wpAny_newList ?_ (by simpa using hz))) (by simpa using hz))))
 have k0:∀ b o,s.heap.get? b=some o→((s.heap.push (seqObj "list" #[] 0)).update s.heap.objs.size (Obj.mapSeq (·++its.toArray))).get? b=some o:=fun b o e=>by
  rw[Heap.get?_update_ne _ _ _ _ (Nat.ne_of_lt (Heap.lt_size e))]
  exact Heap.get?_push_of_some _ e
 have hsz:((s.heap.push (seqObj "list" #[] 0)).update s.heap.objs.size (Obj.mapSeq (·++its.toArray))).objs.size=s.heap.objs.size+1:=by rw[Heap.size_update,size_push']
 generalize (s.heap.push (seqObj "list" #[] 0)).update s.heap.objs.size (Obj.mapSeq (·++its.toArray))=h1 at k0 hsz
 have hoL:(h1.push {cls:=.type "list",data:=.seq its.toArray}).get? h1.objs.size=some (seqObj "list" its.toArray 0):=Heap.get?_push_size _ rfl
 refine wpAny_bind (wpAny_holding (wpAny_call_entry slot_list_sort ⟨_,hoL,rfl⟩ entry_list_sort (d6z I k0 (by rw[hsz];exact Nat.le_succ _) rv pk hz (by rw[hlen];exact h64) sk fun ys js h' py pj pw I2 hn=>?_) (args_list_sort _)))
 exact⟨_,rfl,wpAny_pure ⟨_,rfl,.ref _,_,I2,rfl,q _ ys js hn py pj pw⟩⟩
end
end My
namespace Lw
open PySem PySem.Spec PyProof.Rows L2 My
set_option maxHeartbeats 4000000
inductive Lv where
 | loose | kept | make | watch | hold
def wd:Lv→Str
 | .loose=>"loose"
 | .kept=>"kept"
 | .make=>"make"
 | .watch=>"watch"
 | .hold=>"hold"
def ix:Lv→Nat
 | .loose=>0
 | .kept=>1
 | .make=>2
 | .watch=>3
 | .hold=>4
def a5b:Lv→Int→Int
 | .kept,n=>n+1
 | .make,_=>2
 | _,_=>1
def f0p:Option Int→V
 | none=>.non
 | some k=>.int k
def b1e:Lv→Int→Option Int
 | .loose,_=>none
 | .kept,p=>some p
 | _,_=>some 0
def c2n:Lv→Int→Int
 | .kept,n=>n
 | _,_=>0
def c3d (l:Lv):Sp:=fun vs H Q _=>∃ x,vs=[x]∧Q (.str (wd l)) H
def b1v (l:Lv):Sp:=fun vs H Q _=>∃ (x:V) (n:Int),vs=[x,.int n]∧Q (.int (a5b l n)) H
def c0d (l:Lv):Sp:=fun vs H Q _=>∃ (x:V) (n:Int),vs=[x,.int n]∧Q (f0p (b1e l n)) H
def b4k (l:Lv):Sp:=fun vs H Q _=>∃ (x:V) (n:Int),vs=[x,.int n]∧Q (.int (c2n l n)) H
theorem Same.newO {C:Addr} {H:Hp} {x dx:Addr} (hx:H x=none) (hdx:H dx=none) (n:dx≠x):Same H (upd (upd H dx (.own x)) x (.ins C dx [])):=fun b o e=>by
 have b1:b≠x:=fun z=>by rw[z,hx] at e;cases e
 have b2:b≠dx:=fun z=>by rw[z,hdx] at e;cases e
 rw[a0h b1,a0h b2]
 exact e
def c6t (cls:Lv→Addr) (N:Addr):Sp:=fun vs H Q E=>∃ x:Str,vs=[.str x]∧x.length≤600∧(∀ c∈x.cps.toList,c < 16 ^ 8)∧(∀ l,x=wd l→∀ a dx H',Same H H'→H' a=some (.ins (cls l) dx [])→Q (.ref a) H')∧((∀ l,x≠wd l)→∀ H',Same H H'→E (.ref N) none H')
def top (i:Nat):Stmt:=PySem.Challenge.pw_skewhouse_k54_orders_allowed.main.body.getD i (.Pass ⟨0,0,0,0⟩)
def a3o (s:Stmt):List Stmt:=match s with
 | .ClassDef _ _ _ b _ _ _ _ _ _ _=>b
 | _=>[]
abbrev a4n:Stmt:=(a3o (top 6)).getD 0 (.Pass ⟨0,0,0,0⟩)
abbrev a3v:Stmt:=(a3o (top 6)).getD 6 (.Pass ⟨0,0,0,0⟩)
abbrev a2c:Stmt:=(a3o (top 6)).getD 7 (.Pass ⟨0,0,0,0⟩)
abbrev a1s:Stmt:=(a3o (top 6)).getD 8 (.Pass ⟨0,0,0,0⟩)
abbrev a5q:Stmt:=(a3o (top 7)).getD 0 (.Pass ⟨0,0,0,0⟩)
abbrev a4l:Stmt:=(a3o (top 7)).getD 2 (.Pass ⟨0,0,0,0⟩)
abbrev a2q:Stmt:=(a3o (top 7)).getD 3 (.Pass ⟨0,0,0,0⟩)
abbrev a1x:Stmt:=(a3o (top 7)).getD 4 (.Pass ⟨0,0,0,0⟩)
abbrev a5r:Stmt:=(a3o (top 8)).getD 0 (.Pass ⟨0,0,0,0⟩)
abbrev a4p:Stmt:=(a3o (top 8)).getD 3 (.Pass ⟨0,0,0,0⟩)
abbrev a2r:Stmt:=(a3o (top 8)).getD 4 (.Pass ⟨0,0,0,0⟩)
abbrev a2b:Stmt:=(a3o (top 8)).getD 5 (.Pass ⟨0,0,0,0⟩)
abbrev a4m:Stmt:=(a3o (top 9)).getD 0 (.Pass ⟨0,0,0,0⟩)
abbrev a3w:Stmt:=(a3o (top 9)).getD 2 (.Pass ⟨0,0,0,0⟩)
abbrev a5o:Stmt:=(a3o (top 10)).getD 0 (.Pass ⟨0,0,0,0⟩)
abbrev a4j:Stmt:=(a3o (top 10)).getD 2 (.Pass ⟨0,0,0,0⟩)
abbrev a2u:Stmt:=(a3o (top 10)).getD 3 (.Pass ⟨0,0,0,0⟩)
abbrev a1z:Stmt:=(a3o (top 10)).getD 4 (.Pass ⟨0,0,0,0⟩)
abbrev a7e:Stmt:=top 11
abbrev a5u:Stmt:=top 13
abbrev a7d:Stmt:=top 14
abbrev a7f:Stmt:=top 15
abbrev a5m:Stmt:=top 16
abbrev b5q:Stmt:=top 17
abbrev a2a:Stmt:=top 19
abbrev a7a:Stmt:=top 20
abbrev b3g:Stmt:=top 21
abbrev a4k:Stmt:=top 22
abbrev a3d:Stmt:=top 23
abbrev a8u:Stmt:=top 24
abbrev a9z:Stmt:=top 26
abbrev b3b:Stmt:=top 27
abbrev a9g:Stmt:=top 28
abbrev a9n:Stmt:=top 29
abbrev a9s:Stmt:=top 30
abbrev a3f:Stmt:=top 31
abbrev a3h:Stmt:=top 32
abbrev b3l:Stmt:=top 33
abbrev b3f:Stmt:=top 34
abbrev b3c:Stmt:=top 35
abbrev b3d:Stmt:=top 36
abbrev a7i:Stmt:=top 37
abbrev b3n:Stmt:=top 38
abbrev a7g:Stmt:=top 39
abbrev a3g:Stmt:=top 40
abbrev b3p:Stmt:=top 41
abbrev c0b:Stmt:=top 42
abbrev a2t:Stmt:=top 43
abbrev a3u:Stmt:=top 44
abbrev c1v:Stmt:=top 45
set_option genInjectivity false in
set_option genSizeOf false in
open PySem.W in
structure Tx (K:Frag) (mg:Str→Option Value) where
 b0e:Addr
 a9x:FuncData
 c0f:Fun K "word" "Loose.word" a4n b0e a9x
 b8h:a1j K a9x ["self"] []
 a8b:Addr
 a7r:FuncData
 b6y:Fun K "spots" "Loose.spots" a3v a8b a7r
 b6r:a1j K a7r ["self","looks"] []
 a4v:Addr
 a5h:FuncData
 b0x:Fun K "look_spot" "Loose.look_spot" a2c a4v a5h
 b1b:a1j K a5h ["self","place"] []
 a4g:Addr
 a4i:FuncData
 b0h:Fun K "first_spot" "Loose.first_spot" a1s a4g a4i
 b0g:a1j K a4i ["self","looks"] []
 b2c:Addr
 b1s:FuncData
 c2b:Fun K "word" "Kept.word" a5q b2c b1s
 c2d:a1j K b1s ["self"] []
 b0b:Addr
 a9e:FuncData
 b9b:Fun K "spots" "Kept.spots" a4l b0b a9e
 b8i:a1j K a9e ["self","looks"] []
 a6a:Addr
 a5y:FuncData
 b2x:Fun K "look_spot" "Kept.look_spot" a2q a6a a5y
 b2r:a1j K a5y ["self","place"] []
 a4w:Addr
 a5d:FuncData
 b0s:Fun K "first_spot" "Kept.first_spot" a1x a4w a5d
 b1a:a1j K a5d ["self","looks"] []
 b2i:Addr
 b1y:FuncData
 c3a:Fun K "word" "Make.word" a5r b2i b1y
 c2i:a1j K b1y ["self"] []
 a9v:Addr
 a9i:FuncData
 b8v:Fun K "spots" "Make.spots" a4p a9v a9i
 b9q:a1j K a9i ["self","looks"] []
 a4c:Addr
 a6b:FuncData
 b2t:Fun K "look_spot" "Make.look_spot" a2r a4c a6b
 a8j:a1j K a6b ["self","place"] []
 a3t:Addr
 a4x:FuncData
 b0v:Fun K "first_spot" "Make.first_spot" a2b a3t a4x
 a7b:a1j K a4x ["self","looks"] []
 b0d:Addr
 a9d:FuncData
 c0q:Fun K "word" "Watch.word" a4m b0d a9d
 b9v:a1j K a9d ["self"] []
 a8g:Addr
 a8f:FuncData
 b6j:Fun K "spots" "Watch.spots" a3w a8g a8f
 b6x:a1j K a8f ["self","looks"] []
 b1q:Addr
 b2b:FuncData
 c2x:Fun K "word" "Hold.word" a5o b1q b2b
 c1z:a1j K b2b ["self"] []
 a9o:Addr
 a9m:FuncData
 b8l:Fun K "spots" "Hold.spots" a4j a9o a9m
 c1f:a1j K a9m ["self","looks"] []
 a6c:Addr
 a5x:FuncData
 b2s:Fun K "look_spot" "Hold.look_spot" a2u a6c a5x
 b2p:a1j K a5x ["self","place"] []
 a4u:Addr
 a4z:FuncData
 b1f:Fun K "first_spot" "Hold.first_spot" a1z a4u a4z
 b1m:a1j K a4z ["self","looks"] []
 b4z:Addr
 b3s:FuncData
 b3z:Fun K "level_of" "level_of" a7e b4z b3s
 b9n:a1j K b3s ["word"] []
 c0a:mg "level_of"=some (.ref b4z)
 b1x:Addr
 b2e:FuncData
 b2d:Fun K "levels_of" "levels_of" a5u b1x b2e
 b6a:a1j K b2e ["past","word"] []
 b5y:mg "levels_of"=some (.ref b1x)
 b4d:Addr
 b5e:FuncData
 b4f:Fun K "spots_of" "spots_of" a7d b4d b5e
 c1a:a1j K b5e ["deal","level"] []
 b8z:mg "spots_of"=some (.ref b4d)
 b5g:Addr
 b5c:FuncData
 b4m:Fun K "keeps_of" "keeps_of" a7f b5g b5c
 b9m:a1j K b5c ["past","levels"] []
 c0r:mg "keeps_of"=some (.ref b5g)
 b2g:Addr
 b1w:FuncData
 b5t:Fun K "firsts_of" "firsts_of" a5m b2g b1w
 c2r:a1j K b1w ["past","levels"] []
 c2z:mg "firsts_of"=some (.ref b2g)
 c5h:Addr
 c1i:FuncData
 d0n:e8z K "spots" "spots" b5q c5h c1i
 d7w:a1j K c1i ["history","word"] []
 e0s:a1j K c1i ["history","word"] [.none]
 d5t:mg "spots"=some (.ref c5h)
 a5f:Addr
 a5a:FuncData
 a6z:Fun K "comes_by_places" "comes_by_places" a2a a5f a5a
 b0t:a1j K a5a ["order"] []
 b1h:mg "comes_by_places"=some (.ref a5f)
 b4t:Addr
 b4g:FuncData
 c1j:Fun K "looks_at" "looks_at" a7a b4t b4g
 c9b:a1j K b4g ["deal","level","place"] []
 c7e:mg "looks_at"=some (.ref b4t)
 c5e:Addr
 c4y:FuncData
 c9x:Fun K "finds" "finds" b3g c5e c4y
 d4o:a1j K c4y ["look","makers"] []
 d8l:mg "finds"=some (.ref c5e)
 a9f:Addr
 a9a:FuncData
 b3k:Fun K "looks_find" "looks_find" a4k a9f a9a
 c0n:a1j K a9a ["past","order","levels"] []
 c0k:mg "looks_find"=some (.ref a9f)
 a6s:Addr
 a6x:FuncData
 a9b:Fun K "makes_follow" "makes_follow" a3d a6s a6x
 b3v:a1j K a6x ["past","order","levels"] []
 b5i:mg "makes_follow"=some (.ref a6s)
 b3x:Addr
 b1c:FuncData
 a8y:e8z K "allowed" "allowed" a8u b3x b1c
 d4l:a1j K b1c ["past","order","word"] []
 a8q:a1j K b1c ["past","order","word"] [.none]
 b1k:mg "allowed"=some (.ref b3x)
 b8d:Addr
 b7u:FuncData
 a2v:Fun K "_law_mixed" "_law_mixed" a9z b8d b7u
 a3i:a1j K b7u ["_law_cell_here","_law_k"] []
 a3c:mg "_law_mixed"=some (.ref b8d)
 c3o:Addr
 c4r:FuncData
 b0q:Fun K "_law_cell" "_law_cell" b3b c3o c4r
 b3m:a1j K c4r ["_law_script","_law_k"] []
 b3q:mg "_law_cell"=some (.ref c3o)
 b7r:Addr
 b7x:FuncData
 a9l:Fun K "_law_spots" "_law_spots" a9g b7r b7x
 b2h:a1j K b7x ["_law_word","_law_looks"] []
 b1t:mg "_law_spots"=some (.ref b7r)
 b7n:Addr
 b8c:FuncData
 b7z:Fun K "_law_place" "_law_place" a9n b7n b8c
 c4o:a1j K b8c ["_law_word","_law_k"] []
 c5i:mg "_law_place"=some (.ref b7n)
 b7y:Addr
 b7s:FuncData
 b7v:Fun K "_law_first" "_law_first" a9s b7y b7s
 c4h:a1j K b7s ["_law_word","_law_looks"] []
 c3z:mg "_law_first"=some (.ref b7y)
 a6q:Addr
 a6v:FuncData
 a9y:Fun K "_law_drawn_deals" "_law_drawn_deals" a3f a6q a6v
 b4i:a1j K a6v ["_law_script","_law_word"] []
 b3u:mg "_law_drawn_deals"=some (.ref a6q)
 a6m:Addr
 a6t:FuncData
 b0c:Fun K "_law_drawn_order" "_law_drawn_order" a3h a6m a6t
 b5h:a1j K a6t ["_law_script","_law_deals"] []
 b4h:mg "_law_drawn_order"=some (.ref a6m)
 c5k:Addr
 c6c:FuncData
 c9n:Fun K "_law_keys" "_law_keys" b3l c5k c6c
 d5g:a1j K c6c ["_law_cell_here"] []
 d7q:mg "_law_keys"=some (.ref c5k)
 c5f:Addr
 c5c:FuncData
 d0c:Fun K "_law_look" "_law_look" b3f c5f c5c
 d8u:a1j K c5c ["_law_keys_here","_law_last","_law_number","_law_strange"] []
 d6v:mg "_law_look"=some (.ref c5f)
 c6a:Addr
 c4d:FuncData
 c9j:Fun K "_law_kept" "_law_kept" b3c c6a c4d
 d8w:a1j K c4d ["_law_number","_law_word","_law_mask","_law_state"] []
 d6y:mg "_law_kept"=some (.ref c6a)
 c4e:Addr
 c3r:FuncData
 d1g:Fun K "_law_past" "_law_past" b3d c4e c3r
 d6l:a1j K c3r ["_law_script","_law_deals","_law_order"] []
 d5s:mg "_law_past"=some (.ref c4e)
 b4a:Addr
 b4y:FuncData
 b8k:Fun K "_law_copied" "_law_copied" a7i b4a b4y
 c7p:a1j K b4y ["_law_past_here"] []
 c8r:mg "_law_copied"=some (.ref b4a)
 c4g:Addr
 c4f:FuncData
 d0b:Fun K "_law_ways" "_law_ways" b3n c4g c4f
 d5x:a1j K c4f ["_law_deals","_law_word"] []
 d6o:mg "_law_ways"=some (.ref c4g)
 b3t:Addr
 b4j:FuncData
 c0z:Fun K "_law_placed" "_law_placed" a7g b3t b4j
 c6l:a1j K b4j ["_law_ways_here","_law_order"] []
 c8z:mg "_law_placed"=some (.ref b3t)
 a6o:Addr
 a6p:FuncData
 a9q:Fun K "_law_makers_good" "_law_makers_good" a3g a6o a6p
 b4b:a1j K a6p ["_law_keeps","_law_firsts","_law_makers"] []
 b4q:mg "_law_makers_good"=some (.ref a6o)
 c4s:Addr
 c3p:FuncData
 d0s:Fun K "_law_sees" "_law_sees" b3p c4s c3p
 d8j:a1j K c3p ["_law_keeps","_law_makers","_law_source","_law_at"] []
 d5f:mg "_law_sees"=some (.ref c4s)
 d1x:Addr
 d2e:FuncData
 d5k:Fun K "_law_due" "_law_due" c0b d1x d2e
 e3h:a1j K d2e ["_law_past_here","_law_order","_law_word"] []
 e2p:mg "_law_due"=some (.ref d1x)
 a5z:Addr
 a5w:FuncData
 a8m:Fun K "_law_other_source" "_law_other_source" a2t a5z a5w
 b2v:a1j K a5w ["_law_past_here","_law_number"] []
 b2q:mg "_law_other_source"=some (.ref a5z)
 a7u:Addr
 a7v:FuncData
 b0z:Fun K "_law_otherwise" "_law_otherwise" a3u a7u a7v
 b6n:a1j K a7v ["_law_past_here","_law_order","_law_way","_law_number"] []
 b6q:mg "_law_otherwise"=some (.ref a7u)
 d9c:Addr
 d9h:FuncData
 e6s:Fun K "law" "law" c1v d9c d9h
 e9t:a1j K d9h ["_law_script"] []
 f0u:mg "law"=some (.ref d9c)
 c0w:Addr
 d1b:mg "SkewError"=some (.ref c0w)
 a6g:Addr
 d5j:mg "NoLevel"=some (.ref a6g)
 a4y:Addr
 d4s:mg "Loose"=some (.ref a4y)
 a7q:Addr
 e2h:mg "Kept"=some (.ref a7q)
 a8h:Addr
 e2i:mg "Make"=some (.ref a8h)
 a5c:Addr
 d6m:mg "Watch"=some (.ref a5c)
 a7t:Addr
 e2v:mg "Hold"=some (.ref a7t)
 c7t:f0x K mg "NoLevel" a6g
 d1j:MkO K a4y
 b5d:Cls K a4y
 e0o:findIn K (.ref a4y) "__class__"=some (some (.builtin "object.__class__"))
 d8z:mroIn K a4y (.type "object")=some true
 b3w:b6u K a4y "word" b0e
 b2w:b6u K a4y "spots" a8b
 a7z:b6u K a4y "look_spot" a4v
 a7k:b6u K a4y "first_spot" a4g
 d8h:MkO K a7q
 b8m:Cls K a7q
 e3y:findIn K (.ref a7q) "__class__"=some (some (.builtin "object.__class__"))
 e6g:mroIn K a7q (.type "object")=some true
 b6k:b6u K a7q "word" b2c
 b4x:b6u K a7q "spots" b0b
 a8o:b6u K a7q "look_spot" a6a
 a8a:b6u K a7q "first_spot" a4w
 d8f:MkO K a8h
 b9f:Cls K a8h
 e5s:findIn K (.ref a8h) "__class__"=some (some (.builtin "object.__class__"))
 e6f:mroIn K a8h (.type "object")=some true
 b6m:b6u K a8h "word" b2i
 b4r:b6u K a8h "spots" a9v
 a8t:b6u K a8h "look_spot" a4c
 a8d:b6u K a8h "first_spot" a3t
 d1q:MkO K a5c
 b4l:Cls K a5c
 e0q:findIn K (.ref a5c) "__class__"=some (some (.builtin "object.__class__"))
 e0g:mroIn K a5c (.type "object")=some true
 b4p:b6u K a5c "word" b0d
 b2z:b6u K a5c "spots" a8g
 a8c:b6u K a5c "look_spot" a4c
 a7h:b6u K a5c "first_spot" a3t
 d8i:MkO K a7t
 c0e:Cls K a7t
 e3q:findIn K (.ref a7t) "__class__"=some (some (.builtin "object.__class__"))
 e4t:mroIn K a7t (.type "object")=some true
 b6v:b6u K a7t "word" b1q
 b4c:b6u K a7t "spots" a9o
 a8w:b6u K a7t "look_spot" a6c
 a7w:b6u K a7t "first_spot" a4u
 tg:specialIn K (.builtin "object.__class__") "__get__"=some (some (.builtin "getset_descriptor.__get__"))
 tt:takesIn K (.builtin "object.__class__")=some true
 d4j:Tok
 d5b:mg "START"=some (.int (0) d4j)
 d4x:mg "all"=none
 d2d:mg "bool"=none
 b5a:mg "dict"=none
 a9p:mg "enumerate"=none
 d8k:mg "int"=none
 a8e:mg "isinstance"=none
 a5j:mg "len"=none
 b6t:mg "list"=none
 a2z:mg "range"=none
 b8b:mg "sorted"=none
 e1v:mg "zip"=none
theorem c7j:a0r ["self"] ["self"] (a0f a4n):=⟨rfl,rfl,rfl,by decide +kernel,rfl,by decide +kernel,by decide +kernel⟩
theorem c4k:a0r ["self","looks"] ["self","looks"] (a0f a3v):=⟨rfl,rfl,rfl,by decide +kernel,rfl,by decide +kernel,by decide +kernel⟩
theorem b7e:a0r ["self","place"] ["self","place"] (a0f a2c):=⟨rfl,rfl,rfl,by decide +kernel,rfl,by decide +kernel,by decide +kernel⟩
theorem b6b:a0r ["self","looks"] ["self","looks"] (a0f a1s):=⟨rfl,rfl,rfl,by decide +kernel,rfl,by decide +kernel,by decide +kernel⟩
theorem d0w:a0r ["self"] ["self"] (a0f a5q):=⟨rfl,rfl,rfl,by decide +kernel,rfl,by decide +kernel,by decide +kernel⟩
theorem c6i:a0r ["self","looks"] ["self","looks"] (a0f a4l):=⟨rfl,rfl,rfl,by decide +kernel,rfl,by decide +kernel,by decide +kernel⟩
theorem c0v:a0r ["self","place"] ["self","place"] (a0f a2q):=⟨rfl,rfl,rfl,by decide +kernel,rfl,by decide +kernel,by decide +kernel⟩
theorem b7f:a0r ["self","looks"] ["self","looks"] (a0f a1x):=⟨rfl,rfl,rfl,by decide +kernel,rfl,by decide +kernel,by decide +kernel⟩
theorem c9u:a0r ["self"] ["self"] (a0f a5r):=⟨rfl,rfl,rfl,by decide +kernel,rfl,by decide +kernel,by decide +kernel⟩
theorem c6z:a0r ["self","looks"] ["self","looks"] (a0f a4p):=⟨rfl,rfl,rfl,by decide +kernel,rfl,by decide +kernel,by decide +kernel⟩
theorem c1c:a0r ["self","place"] ["self","place"] (a0f a2r):=⟨rfl,rfl,rfl,by decide +kernel,rfl,by decide +kernel,by decide +kernel⟩
theorem b7b:a0r ["self","looks"] ["self","looks"] (a0f a2b):=⟨rfl,rfl,rfl,by decide +kernel,rfl,by decide +kernel,by decide +kernel⟩
theorem c6w:a0r ["self"] ["self"] (a0f a4m):=⟨rfl,rfl,rfl,by decide +kernel,rfl,by decide +kernel,by decide +kernel⟩
theorem c4c:a0r ["self","looks"] ["self","looks"] (a0f a3w):=⟨rfl,rfl,rfl,by decide +kernel,rfl,by decide +kernel,by decide +kernel⟩
theorem c9o:a0r ["self"] ["self"] (a0f a5o):=⟨rfl,rfl,rfl,by decide +kernel,rfl,by decide +kernel,by decide +kernel⟩
theorem c8s:a0r ["self","looks"] ["self","looks"] (a0f a4j):=⟨rfl,rfl,rfl,by decide +kernel,rfl,by decide +kernel,by decide +kernel⟩
theorem c0s:a0r ["self","place"] ["self","place"] (a0f a2u):=⟨rfl,rfl,rfl,by decide +kernel,rfl,by decide +kernel,by decide +kernel⟩
theorem b7i:a0r ["self","looks"] ["self","looks"] (a0f a1z):=⟨rfl,rfl,rfl,by decide +kernel,rfl,by decide +kernel,by decide +kernel⟩
theorem c2t:a0r ["word","level"] ["word"] (a0f a7e):=⟨rfl,rfl,rfl,by decide +kernel,rfl,by decide +kernel,by decide +kernel⟩
theorem d0k:a0r ["past","word"] ["past","word"] (a0f a5u):=⟨rfl,rfl,rfl,by decide +kernel,rfl,by decide +kernel,by decide +kernel⟩
theorem d3g:a0r ["deal","level"] ["deal","level"] (a0f a7d):=⟨rfl,rfl,rfl,by decide +kernel,rfl,by decide +kernel,by decide +kernel⟩
theorem d3r:a0r ["past","levels"] ["past","levels"] (a0f a7f):=⟨rfl,rfl,rfl,by decide +kernel,rfl,by decide +kernel,by decide +kernel⟩
theorem c9z:a0r ["past","levels"] ["past","levels"] (a0f a5m):=⟨rfl,rfl,rfl,by decide +kernel,rfl,by decide +kernel,by decide +kernel⟩
theorem b8a:a0r ["history","word","levels","found","deal"] ["history","word"] (a0f b5q):=⟨rfl,rfl,rfl,by decide +kernel,rfl,by decide +kernel,by decide +kernel⟩
theorem a6i:a0r ["order","reached","spot"] ["order"] (a0f a2a):=⟨rfl,rfl,rfl,by decide +kernel,rfl,by decide +kernel,by decide +kernel⟩
theorem d3o:a0r ["deal","level","place"] ["deal","level","place"] (a0f a7a):=⟨rfl,rfl,rfl,by decide +kernel,rfl,by decide +kernel,by decide +kernel⟩
theorem e1o:a0r ["look","makers"] ["look","makers"] (a0f b3g):=⟨rfl,rfl,rfl,by decide +kernel,rfl,by decide +kernel,by decide +kernel⟩
theorem a4s:a0r ["past","order","levels","deals","keeps","makers","spot","looks"] ["past","order","levels"] (a0f a4k):=⟨rfl,rfl,rfl,by decide +kernel,rfl,by decide +kernel,by decide +kernel⟩
theorem a3m:a0r ["past","order","levels","keeps","firsts","made","one","other"] ["past","order","levels"] (a0f a3d):=⟨rfl,rfl,rfl,by decide +kernel,rfl,by decide +kernel,by decide +kernel⟩
theorem c2j:a0r ["past","order","word","levels"] ["past","order","word"] (a0f a8u):=⟨rfl,rfl,rfl,by decide +kernel,rfl,by decide +kernel,by decide +kernel⟩
theorem c8g:a0r ["_law_cell_here","_law_k","_law_number"] ["_law_cell_here","_law_k"] (a0f a9z):=⟨rfl,rfl,rfl,by decide +kernel,rfl,by decide +kernel,by decide +kernel⟩
theorem e0w:a0r ["_law_script","_law_k"] ["_law_script","_law_k"] (a0f b3b):=⟨rfl,rfl,rfl,by decide +kernel,rfl,by decide +kernel,by decide +kernel⟩
theorem d4n:a0r ["_law_word","_law_looks"] ["_law_word","_law_looks"] (a0f a9g):=⟨rfl,rfl,rfl,by decide +kernel,rfl,by decide +kernel,by decide +kernel⟩
theorem d7u:a0r ["_law_word","_law_k"] ["_law_word","_law_k"] (a0f a9n):=⟨rfl,rfl,rfl,by decide +kernel,rfl,by decide +kernel,by decide +kernel⟩
theorem d6c:a0r ["_law_word","_law_looks"] ["_law_word","_law_looks"] (a0f a9s):=⟨rfl,rfl,rfl,by decide +kernel,rfl,by decide +kernel,by decide +kernel⟩
theorem a1h:a0r ["_law_script","_law_word","_law_first_here","_law_many","_law_shift","_law_most","_law_deals","_law_k","_law_own","_law_number"] ["_law_script","_law_word"] (a0f a3f):=⟨rfl,rfl,rfl,by decide +kernel,rfl,by decide +kernel,by decide +kernel⟩
theorem a1g:a0r ["_law_script","_law_deals","_law_gone","_law_total","_law_number","_law_word","_law_looks","_law_order","_law_j","_law_going"] ["_law_script","_law_deals"] (a0f a3h):=⟨rfl,rfl,rfl,by decide +kernel,rfl,by decide +kernel,by decide +kernel⟩
theorem b7o:a0r ["_law_cell_here","_law_base","_law_step"] ["_law_cell_here"] (a0f b3l):=⟨rfl,rfl,rfl,by decide +kernel,rfl,by decide +kernel,by decide +kernel⟩
theorem b4o:a0r ["_law_keys_here","_law_last","_law_number","_law_strange","_law_look_here","_law_k","_law_source"] ["_law_keys_here","_law_last","_law_number","_law_strange"] (a0f b3f):=⟨rfl,rfl,rfl,by decide +kernel,rfl,by decide +kernel,by decide +kernel⟩
theorem c5s:a0r ["_law_number","_law_word","_law_mask","_law_state","_law_k","_law_stood"] ["_law_number","_law_word","_law_mask","_law_state"] (a0f b3c):=⟨rfl,rfl,rfl,by decide +kernel,rfl,by decide +kernel,by decide +kernel⟩
theorem a2p:a0r ["_law_script","_law_deals","_law_order","_law_keys_here","_law_state","_law_seen","_law_known","_law_number","_law_word","_law_looks","_law_j","_law_place_here","_law_cell_here","_law_k","_law_look_here","_law_makes"] ["_law_script","_law_deals","_law_order"] (a0f b3d):=⟨rfl,rfl,rfl,by decide +kernel,rfl,by decide +kernel,by decide +kernel⟩
theorem c2a:a0r ["_law_past_here","_law_deals"] ["_law_past_here"] (a0f a7i):=⟨rfl,rfl,rfl,by decide +kernel,rfl,by decide +kernel,by decide +kernel⟩
theorem b1p:a0r ["_law_deals","_law_word","_law_ways_here","_law_number","_law_own","_law_looks"] ["_law_deals","_law_word"] (a0f b3n):=⟨rfl,rfl,rfl,by decide +kernel,rfl,by decide +kernel,by decide +kernel⟩
theorem a3l:a0r ["_law_ways_here","_law_order","_law_at","_law_k","_law_total","_law_number","_law_many","_law_last","_law_place_here"] ["_law_ways_here","_law_order"] (a0f a7g):=⟨rfl,rfl,rfl,by decide +kernel,rfl,by decide +kernel,by decide +kernel⟩
theorem a4d:a0r ["_law_keeps","_law_firsts","_law_makers","_law_k","_law_end","_law_j","_law_other"] ["_law_keeps","_law_firsts","_law_makers"] (a0f a3g):=⟨rfl,rfl,rfl,by decide +kernel,rfl,by decide +kernel,by decide +kernel⟩
theorem b8f:a0r ["_law_keeps","_law_makers","_law_source","_law_at","_law_last","_law_maker"] ["_law_keeps","_law_makers","_law_source","_law_at"] (a0f b3p):=⟨rfl,rfl,rfl,by decide +kernel,rfl,by decide +kernel,by decide +kernel⟩
theorem a2w:a0r ["_law_past_here","_law_order","_law_word","_law_ways_here","_law_at","_law_keeps","_law_firsts","_law_number","_law_own","_law_looks","_law_made","_law_key","_law_makers","_law_level","_law_k","_law_spot","_law_source"] ["_law_past_here","_law_order","_law_word"] (a0f c0b):=⟨rfl,rfl,rfl,by decide +kernel,rfl,by decide +kernel,by decide +kernel⟩
theorem a1e:a0r ["_law_past_here","_law_number","_law_makers","_law_places","_law_k","_law_j","_law_i","_law_key","_law_some"] ["_law_past_here","_law_number"] (a0f a2t):=⟨rfl,rfl,rfl,by decide +kernel,rfl,by decide +kernel,by decide +kernel⟩
theorem a1n:a0r ["_law_past_here","_law_order","_law_way","_law_number","_law_some","_law_k","_law_numbers","_law_ways_here","_law_own"] ["_law_past_here","_law_order","_law_way","_law_number"] (a0f a3u):=⟨rfl,rfl,rfl,by decide +kernel,rfl,by decide +kernel,by decide +kernel⟩
theorem b4n:a0r ["_law_script","_law_deals","_law_order","_law_past_here","_law_cell_here","_law_due_here","_law_handed","_law_found"] ["_law_script"] (a0f c1v):=⟨rfl,rfl,rfl,by decide +kernel,rfl,by decide +kernel,by decide +kernel⟩
def cO {K:PySem.W.Frag} {mg:Str→Option Value} (T:Tx K mg):Lv→Addr
 | .loose=>T.a4y
 | .kept=>T.a7q
 | .make=>T.a8h
 | .watch=>T.a5c
 | .hold=>T.a7t
abbrev Pr:=Int×Int
abbrev Lk:=List Pr
abbrev Dl:=Int×Str×List Lk
abbrev Mkr:=Int×List Int
abbrev Ps:=List Dl×List Mkr
def b3h (p:Pr):PyData:=.tuple [.int p.1,.int p.2]
def a6n (l:Lk):PyData:=.list (l.map b3h)
def a2h (d:Dl):PyData:=.tuple [.int d.1,.str d.2.1,.list (d.2.2.map a6n)]
def a4t (m:Mkr):PyData:=.tuple [.int m.1,.list (m.2.map PyData.int)]
def a3r (p:Ps):PyData:=.tuple [.list (p.1.map a2h),.list (p.2.map a4t)]
def wds:List Str:=["loose","kept","make","watch","hold"]
theorem b9k {α β:Type} (f:α→β):∀ l:List α,l.filterMap (fun j=>some (f j))=l.map f
 | []=>rfl
 | x::r=>by
  rw[List.filterMap_cons,b9k f r]
  rfl
theorem d0o {r:List (Key×V)} {k:Key} {v:V} (h:a4a r k=none):a6e r k v=r++[(k,v)]:=d2x v h
def kN (n:Nk):List Key:=[Sum.inl n.1,Sum.inl n.2]
def KT2 (H H':Hp):Prop:=∀ b xs,H b=some (.tup xs)→H' b=some (.tup xs)
theorem e8l {H H':Hp} (s:KT2 H H') {v:V} {n:Nk} (h:NdV H v n):NdV H' v n:=let ⟨p,e,q⟩:=h;⟨p,e,s _ _ q⟩
theorem KT2.trans {A B C:Hp} (a:KT2 A B) (b:KT2 B C):KT2 A C:=fun x xs e=>b x xs (a x xs e)
abbrev Nds (H:Hp):List V→List Nk→Prop:=Paired (NdV H)
theorem b2y {H H':Hp} (s:KT2 H H') {vs:List V} {ns:List Nk} (h:Nds H vs ns):Nds H' vs ns:=Paired.mapP h fun _ _ z=>e8l s z
theorem a1t {α β:Type} {F:α→β→Prop}:∀ {xs:List α} {bs:List β} {ys:List α} {cs:List β},Paired F xs bs→Paired F ys cs→Paired F (xs++ys) (bs++cs)
 | _,_,_,_,.nil,h=>h
 | _,_,_,_,.cons r t,h=>.cons r (a1t t h)
def CB (H1 H:Hp) (D:Addr) (ys:List V) (qs:List (Nk×Addr)):Prop :=
 Paired (fun (y:V) (q:Nk×Addr)=>∃ t b,y=.ref t∧t≠D∧q.2≠D∧H t=some (.tup [.ref b,.ref q.2])∧H b=some (.tup ((kN q.1).map kV))∧H1 q.2=none∧H q.2=some (.lst [])) ys qs∧(qs.map (·.2)).Nodup
theorem CB.keep {H1 H H':Hp} {D:Addr} {ys:List V} {qs:List (Nk×Addr)} (c:CB H1 H D ys qs) (hD:H1 D=none) (hD2:∀ xs,H D≠some (.tup xs)) (k:∀ b o,b≠D→H b=some o→H' b=some o):CB H1 H' D ys qs :=
 ⟨Paired.mapP c.1 fun _ _ ⟨t,b,e,n1,n2,h1,h2,h3,h4⟩=>⟨t,b,e,n1,n2,k _ _ n1 h1,k _ _ (fun z=>hD2 _ (z ▸ h2)) h2,h3,k _ _ n2 h4⟩,c.2⟩
def dN (n:Nk):PyData:=.tuple [.int n.1,.int n.2]
theorem e3o {K:PySem.W.Frag} {H:Hp} {v:V} {n:Nk} (h:NdV H v n):Dt K H v (dN n):=by
 obtain⟨p,rfl,e⟩:=h
 exact .tup (SqT.of e) (.cons (.int _) (.cons (.int _) .nil))
theorem c0m {K:PySem.W.Frag} {H:Hp}:∀ {vs:List V} {ns:List Nk},Nds H vs ns→Dts K H vs (ns.map dN)
 | _,_,.nil=>.nil
 | _,_,.cons r t=>.cons (e3o r) (c0m t)
theorem d9x:∀ ns:List Nk,PyData.canLayAll0 (ns.map dN)=true∧PyData.depthAll (ns.map dN)≤2
 | []=>⟨rfl,Nat.zero_le _⟩
 | n::r=>by
  obtain⟨a,b⟩:=d9x r
  refine⟨?_,?_⟩
  ·show (PyData.canLay0 (dN n) && PyData.canLayAll0 (r.map dN))=true
   rw[a]
   rfl
  ·show max (PyData.depth (dN n)) (PyData.depthAll (r.map dN))≤2
   exact Nat.max_le.mpr ⟨by show (1:Nat)≤2;decide,b⟩
theorem d1u (ns:List Nk):SeqAt.shaped (.list (ns.map dN))=true:=by
 show (PyData.canLayAll0 (ns.map dN) && decide (PyData.depthAll (ns.map dN)+1≤64))=true
 have:=(d9x ns).2
 rw[(d9x ns).1,decide_eq_true (by omega)]
 rfl
def d9j (K:PySem.W.Frag):Sp:=fun vs H Q _=>∃ (a:Addr) (ns:List Int),vs=[.ref a]∧SqL K H a (ns.map V.int)∧ns.length≤63∧(∀ m∈ns,Builtin.Int.intBits m≤1048576)∧∀ H',Q (.bl true) H'
section
variable {P:Program} {w:World} {K:PySem.W.Frag} {mg:Str→Option Value} {base:Heap}
theorem c6q (T:Tx K mg):a3y P w K mg base CX0 1 T.b0e T.a9x ["self"] (c3d .loose):=by
 refine T.c0f.ok c7j (fun vs H Q E h=>?_) (fun cdv A outer s H vs Q E hr h=>?_)
 ·obtain⟨x,rfl,_⟩:=h
  rfl
 ·obtain⟨x,rfl,q⟩:=h
  exact⟨_,(a0g (a0s a1p)),q⟩
theorem d0f (T:Tx K mg):a3y P w K mg base CX0 1 T.b2c T.b1s ["self"] (c3d .kept):=by
 refine T.c2b.ok d0w (fun vs H Q E h=>?_) (fun cdv A outer s H vs Q E hr h=>?_)
 ·obtain⟨x,rfl,_⟩:=h
  rfl
 ·obtain⟨x,rfl,q⟩:=h
  exact⟨_,(a0g (a0s a1p)),q⟩
theorem d0i (T:Tx K mg):a3y P w K mg base CX0 1 T.b2i T.b1y ["self"] (c3d .make):=by
 refine T.c3a.ok c9u (fun vs H Q E h=>?_) (fun cdv A outer s H vs Q E hr h=>?_)
 ·obtain⟨x,rfl,_⟩:=h
  rfl
 ·obtain⟨x,rfl,q⟩:=h
  exact⟨_,(a0g (a0s a1p)),q⟩
theorem c7g (T:Tx K mg):a3y P w K mg base CX0 1 T.b0d T.a9d ["self"] (c3d .watch):=by
 refine T.c0q.ok c6w (fun vs H Q E h=>?_) (fun cdv A outer s H vs Q E hr h=>?_)
 ·obtain⟨x,rfl,_⟩:=h
  rfl
 ·obtain⟨x,rfl,q⟩:=h
  exact⟨_,(a0g (a0s a1p)),q⟩
theorem d0x (T:Tx K mg):a3y P w K mg base CX0 1 T.b1q T.b2b ["self"] (c3d .hold):=by
 refine T.c2x.ok c9o (fun vs H Q E h=>?_) (fun cdv A outer s H vs Q E hr h=>?_)
 ·obtain⟨x,rfl,_⟩:=h
  rfl
 ·obtain⟨x,rfl,q⟩:=h
  exact⟨_,(a0g (a0s a1p)),q⟩
theorem e5h (T:Tx K mg):∀ l,∃ f fd ps,Cls K (cO T l)∧b6u K (cO T l) "word" f∧a3y P w K mg base CX0 1 f fd ps (c3d l)∧a1j K fd ps []:=by
 intro l
 cases l
 ·exact⟨_,_,_,T.b5d,T.b3w,c6q T,T.b8h⟩
 ·exact⟨_,_,_,T.b8m,T.b6k,d0f T,T.c2d⟩
 ·exact⟨_,_,_,T.b9f,T.b6m,d0i T,T.c2i⟩
 ·exact⟨_,_,_,T.b4l,T.b4p,c7g T,T.b9v⟩
 ·exact⟨_,_,_,T.c0e,T.b6v,d0x T,T.c1z⟩
theorem c5x (T:Tx K mg):a3y P w K mg base CX0 1 T.a8b T.a7r ["self","looks"] (b1v .loose):=by
 refine T.b6y.ok c4k (fun vs H Q E h=>?_) (fun cdv A outer s H vs Q E hr h=>?_)
 ·obtain⟨x,n,rfl,_⟩:=h
  rfl
 ·obtain⟨x,n,rfl,q⟩:=h
  exact⟨_,(a0g (a0s a0c)),q⟩
theorem c8p (T:Tx K mg):a3y P w K mg base CX0 1 T.b0b T.a9e ["self","looks"] (b1v .kept):=by
 refine T.b9b.ok c6i (fun vs H Q E h=>?_) (fun cdv A outer s H vs Q E hr h=>?_)
 ·obtain⟨x,n,rfl,_⟩:=h
  rfl
 ·obtain⟨x,n,rfl,q⟩:=h
  exact⟨_,(a0g (a0s (a0v a3z (pv 1) a0c))),⟨_,rfl,_,_,rfl,rfl,q⟩⟩
theorem c7r (T:Tx K mg):a3y P w K mg base CX0 1 T.a9v T.a9i ["self","looks"] (b1v .make):=by
 refine T.b8v.ok c6z (fun vs H Q E h=>?_) (fun cdv A outer s H vs Q E hr h=>?_)
 ·obtain⟨x,n,rfl,_⟩:=h
  rfl
 ·obtain⟨x,n,rfl,q⟩:=h
  exact⟨_,(a0g (a0s a0c)),q⟩
theorem c5z (T:Tx K mg):a3y P w K mg base CX0 1 T.a8g T.a8f ["self","looks"] (b1v .watch):=by
 refine T.b6j.ok c4c (fun vs H Q E h=>?_) (fun cdv A outer s H vs Q E hr h=>?_)
 ·obtain⟨x,n,rfl,_⟩:=h
  rfl
 ·obtain⟨x,n,rfl,q⟩:=h
  exact⟨_,(a0g (a0s a0c)),q⟩
theorem c7u (T:Tx K mg):a3y P w K mg base CX0 1 T.a9o T.a9m ["self","looks"] (b1v .hold):=by
 refine T.b8l.ok c8s (fun vs H Q E h=>?_) (fun cdv A outer s H vs Q E hr h=>?_)
 ·obtain⟨x,n,rfl,_⟩:=h
  rfl
 ·obtain⟨x,n,rfl,q⟩:=h
  exact⟨_,(a0g (a0s a0c)),q⟩
theorem e0p (T:Tx K mg):∀ l,∃ f fd ps,Cls K (cO T l)∧b6u K (cO T l) "spots" f∧a3y P w K mg base CX0 1 f fd ps (b1v l)∧a1j K fd ps []:=by
 intro l
 cases l
 ·exact⟨_,_,_,T.b5d,T.b2w,c5x T,T.b6r⟩
 ·exact⟨_,_,_,T.b8m,T.b4x,c8p T,T.b8i⟩
 ·exact⟨_,_,_,T.b9f,T.b4r,c7r T,T.b9q⟩
 ·exact⟨_,_,_,T.b4l,T.b2z,c5z T,T.b6x⟩
 ·exact⟨_,_,_,T.c0e,T.b4c,c7u T,T.c1f⟩
theorem b7d (T:Tx K mg):a3y P w K mg base CX0 1 T.a4v T.a5h ["self","place"] (c0d .loose):=by
 refine T.b0x.ok b7e (fun vs H Q E h=>?_) (fun cdv A outer s H vs Q E hr h=>?_)
 ·obtain⟨x,n,rfl,_⟩:=h
  rfl
 ·obtain⟨x,n,rfl,q⟩:=h
  exact⟨_,(a0g (a0s b2u)),q⟩
theorem c0x (T:Tx K mg):a3y P w K mg base CX0 1 T.a6a T.a5y ["self","place"] (c0d .kept):=by
 refine T.b2x.ok c0v (fun vs H Q E h=>?_) (fun cdv A outer s H vs Q E hr h=>?_)
 ·obtain⟨x,n,rfl,_⟩:=h
  rfl
 ·obtain⟨x,n,rfl,q⟩:=h
  exact⟨_,(a0g (a0s (pv 1))),⟨_,rfl,q⟩⟩
theorem b1i (T:Tx K mg):a3y P w K mg base CX0 1 T.a4c T.a6b ["self","place"] (c0d .make):=by
 refine T.b2t.ok c1c (fun vs H Q E h=>?_) (fun cdv A outer s H vs Q E hr h=>?_)
 ·obtain⟨x,n,rfl,_⟩:=h
  rfl
 ·obtain⟨x,n,rfl,q⟩:=h
  exact⟨_,(a0g (a0s a0c)),q⟩
theorem c1g (T:Tx K mg):a3y P w K mg base CX0 1 T.a6c T.a5x ["self","place"] (c0d .hold):=by
 refine T.b2s.ok c0s (fun vs H Q E h=>?_) (fun cdv A outer s H vs Q E hr h=>?_)
 ·obtain⟨x,n,rfl,_⟩:=h
  rfl
 ·obtain⟨x,n,rfl,q⟩:=h
  exact⟨_,(a0g (a0s a0c)),q⟩
theorem c7c (T:Tx K mg):∀ l,∃ f fd ps,Cls K (cO T l)∧b6u K (cO T l) "look_spot" f∧a3y P w K mg base CX0 1 f fd ps (c0d l)∧a1j K fd ps []:=by
 intro l
 cases l
 ·exact⟨_,_,_,T.b5d,T.a7z,b7d T,T.b1b⟩
 ·exact⟨_,_,_,T.b8m,T.a8o,c0x T,T.b2r⟩
 ·exact⟨_,_,_,T.b9f,T.a8t,b1i T,T.a8j⟩
 ·exact⟨_,_,_,T.b4l,T.a8c,b1i T,T.a8j⟩
 ·exact⟨_,_,_,T.c0e,T.a8w,c1g T,T.b2p⟩
theorem b6h (T:Tx K mg):a3y P w K mg base CX0 1 T.a4g T.a4i ["self","looks"] (b4k .loose):=by
 refine T.b0h.ok b6b (fun vs H Q E h=>?_) (fun cdv A outer s H vs Q E hr h=>?_)
 ·obtain⟨x,n,rfl,_⟩:=h
  rfl
 ·obtain⟨x,n,rfl,q⟩:=h
  exact⟨_,(a0g (a0s a0c)),q⟩
theorem b7a (T:Tx K mg):a3y P w K mg base CX0 1 T.a4w T.a5d ["self","looks"] (b4k .kept):=by
 refine T.b0s.ok b7f (fun vs H Q E h=>?_) (fun cdv A outer s H vs Q E hr h=>?_)
 ·obtain⟨x,n,rfl,_⟩:=h
  rfl
 ·obtain⟨x,n,rfl,q⟩:=h
  exact⟨_,(a0g (a0s (pv 1))),⟨_,rfl,q⟩⟩
theorem b0i (T:Tx K mg):a3y P w K mg base CX0 1 T.a3t T.a4x ["self","looks"] (b4k .make):=by
 refine T.b0v.ok b7b (fun vs H Q E h=>?_) (fun cdv A outer s H vs Q E hr h=>?_)
 ·obtain⟨x,n,rfl,_⟩:=h
  rfl
 ·obtain⟨x,n,rfl,q⟩:=h
  exact⟨_,(a0g (a0s a0c)),q⟩
theorem b6z (T:Tx K mg):a3y P w K mg base CX0 1 T.a4u T.a4z ["self","looks"] (b4k .hold):=by
 refine T.b1f.ok b7i (fun vs H Q E h=>?_) (fun cdv A outer s H vs Q E hr h=>?_)
 ·obtain⟨x,n,rfl,_⟩:=h
  rfl
 ·obtain⟨x,n,rfl,q⟩:=h
  exact⟨_,(a0g (a0s a0c)),q⟩
theorem c4j (T:Tx K mg):∀ l,∃ f fd ps,Cls K (cO T l)∧b6u K (cO T l) "first_spot" f∧a3y P w K mg base CX0 1 f fd ps (b4k l)∧a1j K fd ps []:=by
 intro l
 cases l
 ·exact⟨_,_,_,T.b5d,T.a7k,b6h T,T.b0g⟩
 ·exact⟨_,_,_,T.b8m,T.a8a,b7a T,T.b1a⟩
 ·exact⟨_,_,_,T.b9f,T.a8d,b0i T,T.a7b⟩
 ·exact⟨_,_,_,T.b4l,T.a7h,b0i T,T.a7b⟩
 ·exact⟨_,_,_,T.c0e,T.a7w,b6z T,T.b1m⟩
theorem c2s (T:Tx K mg):a3y P w K mg base (CXW P w) 2 T.b4z T.b3s ["word"] (c6t (cO T) T.a6g):=by
 refine d8e T.b3z c2t (fun vs H Q E h=>?_) (fun cdv A outer s H vs Q E hr h=>?_)
 ·obtain⟨x,rfl,_⟩:=h
  rfl
 ·obtain⟨x,rfl,hl,hc,k,ke⟩:=h
  refine⟨_,(a0e (e2m (a2o PassesOwn.never rfl (a1r (a1k (a0a (b8s T.d1j rfl T.d4s) (a0a (b8s T.d8h rfl T.e2h) (a0a (b8s T.d8f rfl T.e2i) (a0a (b8s T.d1q rfl T.d6m) (a0a (b8s T.d8i rfl T.e2v) a0d))))))) (a0i (i:=1) c2t.nd rfl (Or.inl rfl))
   (a0g (a3n (a0t a7m (d5y (pv 1) (e5h T) (hr.mono (by decide))) (pv 0) (a0x _))
   (a0g (a0s (pv 1)))
   a1a))))
   (a0g (e0f T.c7t rfl (e0m (pv 0) (by decide +kernel))))),?_⟩
  intro x1 d1 h1 e1 n1
  have s1:=Same.newO (C:=T.a4y) h1 e1 n1
  have o1:=a0b (H:=upd H d1 (.own x1)) (a:=x1) (o:=HO.ins T.a4y d1 [])
  generalize upd (upd H d1 (.own x1)) x1 (.ins T.a4y d1 [])=H1 at s1 o1 ⊢
  intro x2 d2 h2 e2 n2
  have s2:=Same.newO (C:=T.a7q) h2 e2 n2
  have o2:=a0b (H:=upd H1 d2 (.own x2)) (a:=x2) (o:=HO.ins T.a7q d2 [])
  generalize upd (upd H1 d2 (.own x2)) x2 (.ins T.a7q d2 [])=H2 at s2 o2 ⊢
  intro x3 d3 h3 e3 n3
  have s3:=Same.newO (C:=T.a8h) h3 e3 n3
  have o3:=a0b (H:=upd H2 d3 (.own x3)) (a:=x3) (o:=HO.ins T.a8h d3 [])
  generalize upd (upd H2 d3 (.own x3)) x3 (.ins T.a8h d3 [])=H3 at s3 o3 ⊢
  intro x4 d4 h4 e4 n4
  have s4:=Same.newO (C:=T.a5c) h4 e4 n4
  have o4:=a0b (H:=upd H3 d4 (.own x4)) (a:=x4) (o:=HO.ins T.a5c d4 [])
  generalize upd (upd H3 d4 (.own x4)) x4 (.ins T.a5c d4 [])=H4 at s4 o4 ⊢
  intro x5 d5 h5 e5 n5
  have s5:=Same.newO (C:=T.a7t) h5 e5 n5
  have o5:=a0b (H:=upd H4 d5 (.own x5)) (a:=x5) (o:=HO.ins T.a7t d5 [])
  generalize upd (upd H4 d5 (.own x5)) x5 (.ins T.a7t d5 [])=H5 at s5 o5 ⊢
  refine⟨(by show 5≤sizeLine;decide),fun p hp=>?_⟩
  have s6:=Same.upd (o:=HO.lst [V.ref x1,.ref x2,.ref x3,.ref x4,.ref x5]) hp
  have hpl:=a0b (H:=H5) (a:=p) (o:=HO.lst [V.ref x1,.ref x2,.ref x3,.ref x4,.ref x5])
  have SS:Same H (upd H5 p (.lst [V.ref x1,.ref x2,.ref x3,.ref x4,.ref x5])):=s1.trans (s2.trans (s3.trans (s4.trans (s5.trans s6))))
  replace o1:=s6 _ _ (s5 _ _ (s4 _ _ (s3 _ _ (s2 _ _ o1))))
  replace o2:=s6 _ _ (s5 _ _ (s4 _ _ (s3 _ _ o2)))
  replace o3:=s6 _ _ (s5 _ _ (s4 _ _ o3))
  replace o4:=s6 _ _ (s5 _ _ o4)
  replace o5:=s6 _ _ o5
  generalize upd H5 p (HO.lst [V.ref x1,.ref x2,.ref x3,.ref x4,.ref x5])=H6 at hpl SS o1 o2 o3 o4 o5 ⊢
  clear s1 s2 s3 s4 s5 s6 h1 h2 h3 h4 h5 e1 e2 e3 e4 e5
  have at_:∀ (i:Nat) y,[V.ref x1,.ref x2,.ref x3,.ref x4,.ref x5][i]?=some y→∃ l a dx,ix l=i∧y=V.ref a∧H6 a=some (.ins (cO T l) dx []):=fun i y hy=>by
   match i,hy with
   | 0,hy=>exact⟨.loose,x1,d1,rfl,(Option.some.inj hy).symm,o1⟩
   | 1,hy=>exact⟨.kept,x2,d2,rfl,(Option.some.inj hy).symm,o2⟩
   | 2,hy=>exact⟨.make,x3,d3,rfl,(Option.some.inj hy).symm,o3⟩
   | 3,hy=>exact⟨.watch,x4,d4,rfl,(Option.some.inj hy).symm,o4⟩
   | 4,hy=>exact⟨.hold,x5,d5,rfl,(Option.some.inj hy).symm,o5⟩
   | n+5,hy=>simp at hy
  refine⟨p,rfl,⟨_,SqL.of hpl⟩,a4e (K:=K) (a:=p) (xs:=[V.ref x1,.ref x2,.ref x3,.ref x4,.ref x5])
   (fun i σ Hn=>Hn=H6∧∃ (y:Option V),σ=[some (.str x),y]∧∀ l,ix l < i→x≠wd l)
   ⟨rfl,none,rfl,fun l h=>absurd h (Nat.not_lt_zero _)⟩ (fun i σ Hn _ ⟨z,_⟩=>z ▸ SqL.of hpl) ?_ ?_⟩
  ·rintro i y σ Hn hy ⟨z2,y0,rfl,hno⟩
   subst z2
   obtain⟨l,a,dx,hix,rfl,ha⟩:=at_ i y hy
   refine⟨_,rfl,a,l,dx,[],rfl,ha,rfl,_,rfl,_,rfl,rfl,_,rfl,b0n (fun e=>?_) (fun e=>?_)⟩
   ·exact⟨_,rfl,k l (V.str.inj (of_decide_eq_true e)).symm a dx _ SS ha⟩
   ·refine⟨rfl,_,rfl,fun l' hl'=>?_⟩
    rcases Nat.lt_succ_iff_lt_or_eq.mp hl' with z | z
    ·exact hno l' z
    ·have:l'=l:=by
      rw[←hix] at z
      cases l'<;>cases l<;>first | rfl | cases z
     rw[this]
     exact fun q=>e (decide_eq_true (congrArg V.str q.symm))
  ·rintro σ Hn ⟨z2,y0,rfl,hno⟩
   subst z2
   exact⟨_,rfl,x,rfl,hc,by omega,fun r=>ke (fun l=>hno l (by show ix l < 5;cases l<;>decide)) _ SS⟩
--@STAGE
def lvS (x:Str):Lv:=if x="kept" then .kept else if x="make" then .make else if x="watch" then .watch else if x="hold" then .hold else .loose
theorem d5i {x:Str} (h:x∈wds):wd (lvS x)=x:=by
 unfold wds at h
 simp only [List.mem_cons,List.not_mem_nil,or_false] at h
 rcases h with rfl | rfl | rfl | rfl | rfl<;>decide +kernel
theorem e9n (l:Lv):wd l∈wds:=by cases l<;>decide +kernel
theorem e2l (l:Lv):(wd l).length≤5∧∀ c∈(wd l).cps.toList,c < 128:=by
 cases l<;>decide +kernel
theorem e7r {l m:Lv} (h:wd l=wd m):m=l:=by
 have key:∀ l m:Lv,ix l≠ix m→wd l≠wd m:=by intro l m;cases l<;>cases m<;>decide +kernel
 by_cases e:ix l=ix m
 ·cases l<;>cases m<;>first | rfl | cases e
 ·exact absurd h (key l m e)
def wV:Option Str→V
 | none=>.non
 | some x=>.str x
def lvD (w:Option Str) (d:Dl):Lv:=lvS (w.getD d.2.1)
def a1u (w:Option Str) (d:Dl):List Nk:=(List.range (a5b (lvD w d) (d.2.2.length:Int)).toNat).map fun j:Nat=>(d.1,(j:Int))
def c5l (p:Ps):Prop:=p.1.length≤8∧(p.1.map (·.1)).Nodup∧∀ d∈p.1,d.2.1∈wds∧d.2.2.length≤40
def d4z (x:Str):Prop:=x.length≤600∧∀ c∈x.cps.toList,c < 16 ^ 8
theorem d7f {x:Str} (h:x∈wds):d4z x:=by
 rw[←d5i h]
 exact⟨by have:=(e2l (lvS x)).1;omega,fun c hc=>Nat.lt_trans ((e2l (lvS x)).2 c hc) (by decide)⟩
def LvH (cls:Lv→Addr) (H:Hp) (e:Addr) (w:Option Str) (p:Ps):Prop:=∃ kvs,H e=some (.dK kvs)∧∀ d∈p.1,∃ a dx,a4a kvs (Sum.inl d.1)=some (.ref a)∧H a=some (.ins (cls (lvD w d)) dx [])
theorem LvH.same {cls:Lv→Addr} {H H':Hp} {e:Addr} {w:Option Str} {p:Ps} (s:Same H H') (h:LvH cls H e w p):LvH cls H' e w p:=let ⟨kvs,a,b⟩:=h;⟨kvs,s _ _ a,fun d hd=>let ⟨x,dx,c,f⟩:=b d hd;⟨x,dx,c,s _ _ f⟩⟩
def d9m (cls:Lv→Addr) (N:Addr):Sp:=fun vs H Q E=>∃ (v:V) (p:Ps) (w:Option Str),vs=[v,wV w]∧Tr H v (a3r p)∧c5l p∧(∀ x,w=some x→d4z x)∧((∀ x,w=some x→x∈wds)→∀ e H',Same H H'→LvH cls H' e w p→Q (.ref e) H')∧(∀ x,w=some x→x ∉ wds→∀ H',Same H H'→E (.ref N) none H')
def d7i (cls:Lv→Addr):Sp:=fun vs H Q _=>∃ (v:V) (a:Addr) (d:Dl) (w:Option Str) (dx:Addr),vs=[v,.ref a]∧Tr H v (a2h d)∧H a=some (.ins (cls (lvD w d)) dx [])∧d.2.2.length≤40∧∀ D H' ys,H D=none→Same H H'→H' D=some (.lst ys)→Nds H' ys (a1u w d)→Q (.ref D) H'
def d9a (cls:Lv→Addr) (N:Addr):Sp:=fun vs H Q E=>∃ (v:V) (p:Ps) (w:Option Str),vs=[v,wV w]∧Tr H v (a3r p)∧c5l p∧(∀ x,w=some x→d4z x)∧((∀ x,w=some x→x∈wds)→∀ D H' ys,H D=none→Same H H'→H' D=some (.lst ys)→Nds H' ys (p.1.flatMap (a1u w))→Q (.ref D) H')∧(∀ x,w=some x→x ∉ wds→∀ H',Same H H'→E (.ref N) none H')
theorem a6f {H:Hp} {v:V} {p:Ps} (h:Tr H v (a3r p)):∃ a l m lv mv,v=.ref a∧H a=some (.tup [.ref l,.ref m])∧H l=some (.lst lv)∧Trs H lv (p.1.map a2h)∧H m=some (.lst mv)∧Trs H mv (p.2.map a4t):=by
 cases h with
 | tup h r =>
  cases r with
  | cons h1 r =>
   cases h1 with
   | lst a1 b1 =>
    cases r with
    | cons h2 r =>
     cases h2 with
     | lst a2 b2 =>
      cases r
      exact⟨_,_,_,_,_,rfl,h,a1,b1,a2,b2⟩
theorem a7n {H:Hp} {v:V} {d:Dl} (h:Tr H v (a2h d)):∃ p L lv,v=.ref p∧H p=some (.tup [.int d.1,.str d.2.1,.ref L])∧H L=some (.lst lv)∧Trs H lv (d.2.2.map a6n):=by
 cases h with
 | tup h r =>
  cases r with
  | cons h1 r =>
   cases h1
   cases r with
   | cons h2 r =>
    cases h2
    cases r with
    | cons h3 r =>
     cases h3 with
     | lst a b =>
      cases r
      exact⟨_,_,_,rfl,h,a,b⟩
theorem c4p (w:Option Str) (d:Dl) (h:d.2.2.length≤40):0≤a5b (lvD w d) (d.2.2.length:Int)∧a5b (lvD w d) (d.2.2.length:Int)≤41:=by
 generalize lvD w d=l
 cases l<;>simp only [a5b]<;>omega
theorem b0w:∀ (l a:List (Key×V)),((a++l).map (·.1)).Nodup→a5v a l=a++l
 | [],a,_=>by simp[a5v]
 | q::r,a,h=>by
  have e:a6e a q.1 q.2=a++[q]:=d0o (by
   unfold a4a
   rw[Option.map_eq_none_iff,List.find?_eq_none]
   intro kv hk z
   have z':kv.1=q.1:=of_decide_eq_true z
   rw[List.map_append,List.map_cons,List.nodup_append] at h
   exact h.2.2 kv.1 (List.mem_map.mpr ⟨kv,hk,rfl⟩) q.1 List.mem_cons_self z')
  show a5v (a6e a q.1 q.2) r=_
  rw[e,b0w r (a++[q]) (by simpa using h)]
  simp
def LvP (cls:Lv→Addr) (w:Option Str) (H:Hp) (y:V) (d:Dl):Prop:=∃ t x dx,y=.ref t∧H t=some (.tup [.int d.1,.ref x])∧H x=some (.ins (cls (lvD w d)) dx [])
theorem e8o {cls:Lv→Addr} {w:Option Str}:∀ H H' y d,KN H H'→LvP cls w H y d→LvP cls w H' y d:=fun H H' y d k ⟨t,x,dx,e,h1,h2⟩=>⟨t,x,dx,e,k _ _ (fun xs z=>by cases z) h1,k _ _ (fun xs z=>by cases z) h2⟩
theorem d6n {cls:Lv→Addr} {w:Option Str} {K:PySem.W.Frag} {H:Hp}:∀ {ys:List V} {ds:List Dl},Paired (LvP cls w H) ys ds→∃ ps:List (Key×V),d5z K H ys ps∧ps.map (·.1)=ds.map (fun d=>(Sum.inl d.1:Key))∧∀ d∈ds,∃ x dx,((Sum.inl d.1:Key),V.ref x)∈ps∧H x=some (.ins (cls (lvD w d)) dx [])
 | _,_,.nil=>⟨[],.nil,rfl,fun d hd=>by cases hd⟩
 | _,_,.cons (b:=d) ⟨t,x,dx,e,h1,h2⟩ r=>by
  obtain⟨ps,a,b,c⟩:=d6n r
  subst e
  refine⟨(Sum.inl d.1,.ref x)::ps,.cons (q:=(Sum.inl d.1,V.ref x)) (SqT.of h1) a,by rw[List.map_cons,List.map_cons,b],fun d' hd'=>?_⟩
  rcases List.mem_cons.mp hd' with z | z
  ·rw[z]
   exact⟨x,dx,List.mem_cons_self,h2⟩
  ·obtain⟨x',dx',m,h⟩:=c d' z
   exact⟨x',dx',List.mem_cons_of_mem _ m,h⟩
theorem e7i:∀ H H' y (n:Nk),KN H H'→NdV H y n→NdV H' y n:=fun H H' y n k ⟨p,e,h⟩=>⟨p,e,k _ _ (fun xs z=>by cases z) h⟩
theorem e2r {H H':Hp} (k:KN H H') {ys:List V} {ns:List Nk} (h:Nds H ys ns):Nds H' ys ns:=Paired.mapP h fun _ _ z=>e7i _ _ _ _ k z
theorem e8r {x:Str} (h:∀ l,x≠wd l):x ∉ wds:=fun z=>h (lvS x) (d5i z).symm
theorem a8p {α:Type} {H:Hp} {dx:α→PyData}:∀ {vs:List V} {as:List α},Trs H vs (as.map dx)→Paired (fun v a=>Tr H v (dx a)) vs as
 | _,[],.nil=>.nil
 | _,_::_,.cons h r=>.cons h (a8p r)
theorem c1b (T:Tx K mg):a3y P w K mg base (CXW P w) 3 T.b1x T.b2e ["past","word"] (d9m (cO T) T.a6g):=by
 refine d8e T.b2d d0k (fun vs H Q E h=>?_) (fun cdv A outer s H vs Q E hr h=>?_)
 ·obtain⟨v,p,wo,rfl,_⟩:=h
  rfl
 ·obtain⟨v,p,wo,rfl,tr,⟨l8,nn,gd⟩,fw,qy,qn⟩:=h
  refine⟨_,(a8n (a3n (a0t d6k (pv 1) b2u (a0x _))
   (a0g (a5t (a0l ((c2s T).mono (by decide)) hr rfl T.c0a T.b3z.kp T.b9n .nil (e0i fun _ _ _ z=>z) (a0a (pv 1) a0d))))
   a1a)
   (a0g (a0s (a2y (a6y (K:=K) rfl rfl) (by rfl) T.b5a boot_dict (a0a (a3p ["deal"] rfl (a3b.mk (fv:=["word"]) (js:=[1]) rfl (by decide +kernel) (by decide +kernel) (by decide +kernel) (a1q (Or.inl rfl) a2l) rfl (by decide +kernel)) (a1r (a0o a0z (pv 0) a0c (fun _ _=>rfl))) (fun _ _ _ _ _=>(a0i (i:=0) (show (["deal","word"]:List Str).Nodup by decide +kernel) rfl (Or.inl rfl))) (fun _ _ _ _ _=>b0j) (fun _ _ _ _ _=>(a2f (a0a (a0o (a2g (K:=K) rfl) (pv 0) a0c (fun _ _=>rfl)) (a0a (a0l ((c2s T).mono (by decide)) hr rfl T.c0a T.b3z.kp T.b9n .nil d6d (a0a (e0u (a0t d6p (pv 1) b2u (a0x _)) (a0o (a2g (K:=K) rfl) (pv 0) a0c (fun _ _=>rfl)) (pv 1)) a0d)) a0d))))) a0d))))),?_⟩
  refine⟨fun σ H1=>σ=[some v,some (wV wo)]∧Same H H1∧(∀ x,wo=some x→x∈wds),?_,?_⟩
  ·cases wo with
   | none=>exact⟨_,rfl,rfl,_,rfl,b5k (A:=_) ⟨rfl,Same.refl _,fun x e=>by cases e⟩⟩
   | some x=>exact⟨_,rfl,rfl,_,rfl,c7i (B:=_) ⟨_,rfl,x,rfl,(fw x rfl).1,(fw x rfl).2,fun l e a dx H' s' _=>⟨rfl,s',fun y ey=>by cases ey;rw[e];exact e9n l⟩,fun hn H' s'=>qn x rfl (e8r hn) H' s'⟩⟩
  ·rintro σ H1 ⟨rfl,s1,hw⟩
   obtain⟨a,l,m,lv,mv,rfl,ha,hl,tl,_,_⟩:=a6f tr
   refine⟨_,rfl,a,_,_,_,rfl,rfl,SqT.of (s1 _ _ ha),rfl,l,rfl,⟨_,SqL.of (s1 _ _ hl)⟩,c6n (k:=1) (fs:=[some (wV wo)]) (LvP (cO T) wo) (fun H v d=>Tr H v (a2h d)) p.1 some e8o (fun _ _ _ _ ss z=>z.same ss) rfl (s1 _ _ hl) (a8p (tl.same s1)) (by have:sizeLine=2 ^ 24:=rfl;omega) (fun d hd H2 ts v R ss hts trd cont _=>?_) (fun D H2 ys hD s2 h2 pp=>?_)⟩
   ·obtain⟨t,rfl⟩:=List.length_eq_one_iff.mp hts
    obtain⟨pd,L,lkv,rfl,hpd,_,_⟩:=a7n trd
    obtain⟨gw,_⟩:=gd d hd
    refine⟨_,rfl,pd,_,_,_,rfl,rfl,SqT.of hpd,rfl,?_⟩
    have fin:∀ (x:Str),x∈wds→lvD wo d=lvS x→c6t (cO T) T.a6g [.str x] H2 (fun y H4=>[V.int d.1,y].length≤sizeLine∧∀ q,H4 q=none→R (some (.ref q)) ([some (.ref pd)]++[some (wV wo)]) (upd H4 q (.tup [.int d.1,y]))) (fun _ _ _=>False):=fun x hx el=>by
     refine⟨x,rfl,(d7f hx).1,(d7f hx).2,fun l e a' dx H' s' h'=>⟨(by show 2≤sizeLine;decide),fun q hq=>cont d _ [_] _ rfl rfl (s'.trans (Same.upd hq)) ⟨q,a',dx,rfl,a0b,Same.upd hq _ _ ?_⟩⟩,fun hn=>absurd hx (e8r hn)⟩
     have:lvD wo d=l:=by
      rw[el]
      exact e7r (e.symm.trans (d5i hx).symm)
     rw[this]
     exact h'
    cases wo with
    | none=>exact⟨_,rfl,rfl,_,rfl,c7i (B:=_) ⟨_,rfl,pd,_,_,_,rfl,rfl,SqT.of hpd,rfl,fin d.2.1 gw rfl⟩⟩
    | some x=>exact⟨_,rfl,rfl,_,rfl,b5k (A:=_) ⟨_,rfl,fin x (hw x rfl) rfl⟩⟩
   ·rw[List.filterMap_some] at pp
    obtain⟨ps,pr,pk,pv⟩:=d6n (K:=K) pp
    have lps:ps.length=p.1.length:=by have:=congrArg List.length pk;simpa using this
    have nd:(ps.map (·.1)).Nodup:=by
     rw[pk]
     exact List.pairwise_map.mpr (List.Pairwise.imp (fun z e=>z (Sum.inl.inj e)) (List.pairwise_map.mp nn))
    refine⟨D,ys,ps,rfl,h2,pr,(by omega),fun e he=>qy hw e _ (s1.trans (s2.trans (Same.upd he))) ⟨_,a0b,fun d hd=>?_⟩⟩
    rw[b0w ps [] (by simpa using nd)]
    obtain⟨x,dx,hm,hx⟩:=pv d hd
    exact⟨x,dx,b1o nd hm,Same.upd he _ _ hx⟩
theorem c2o (T:Tx K mg):a3y P w K mg base CX0 2 T.b4d T.b5e ["deal","level"] (d7i (cO T)):=by
 refine T.b4f.ok d3g (fun vs H Q E h=>?_) (fun cdv A outer s H vs Q E hr h=>?_)
 ·obtain⟨v,a,d,wo,dx,rfl,_⟩:=h
  rfl
 ·obtain⟨v,a,d,wo,dx,rfl,tr,ha,l40,q⟩:=h
  refine⟨_,(a0g (a0s (a3p ["place"] rfl (a3b.mk (fv:=["deal"]) (js:=[0]) rfl (by decide +kernel) (by decide +kernel) (by decide +kernel) (a1q (Or.inl rfl) a2l) rfl (by decide +kernel)) (a1o rfl T.a2z (a0a (c4m (pv 1) (e0p T) (hr.mono (by decide)) (a0a (a1b a1i (by rfl) T.a5j boot_len (a0a (a0o a0z (pv 0) a0c (fun _ _=>rfl)) a0d)) a0d)) a0d)) (fun _ _ _ _ _=>(a0i (i:=0) (show (["place","deal"]:List Str).Nodup by decide +kernel) rfl (Or.inl rfl))) (fun _ _ _ _ _=>b0j) (fun _ _ _ _ _=>(a2f (a0a (a0o (a2g (K:=K) rfl) (pv 1) a0c (fun _ _=>rfl)) (a0a (pv 0) a0d))))))),?_⟩
  obtain⟨pd,L,lkv,rfl,hpd,hL,tL⟩:=a7n tr
  have ll:lkv.length=d.2.2.length:=by rw[tL.len,List.length_map]
  have sl:=c4p wo d l40
  refine⟨_,rfl,a,lvD wo d,dx,[],rfl,ha,rfl,_,rfl,pd,_,_,_,rfl,rfl,SqT.of hpd,rfl,_,_,rfl,.inl ⟨_,SqL.of hL,rfl⟩,_,_,rfl,?_⟩
  rw[ll]
  refine⟨_,rfl,(by omega),(by omega),e7v (k:=1) (fs:=[some (.ref pd)]) NdV _ (fun j=>some (d.1,(j:Int))) e7i rfl (by have:sizeLine=2 ^ 24:=rfl;omega) (fun j hj H2 ts R ss hts cont _=>?_) (fun D H2 ys hD s2 h2 pp=>q D H2 ys hD s2 h2 ?_)⟩
  ·obtain⟨t,rfl⟩:=List.length_eq_one_iff.mp hts
   refine⟨_,rfl,pd,_,_,_,rfl,rfl,SqT.of (ss _ _ hpd),rfl,_,rfl,(by show 2≤sizeLine;decide),fun n hn=>cont _ _ [_] _ rfl rfl (Same.upd hn) ⟨n,rfl,?_⟩⟩
   rw[a0b,Int.zero_add]
  ·unfold a1u
   rw[b9k] at pp
   exact pp
theorem e1y (T:Tx K mg):a3y P w K mg base (CXW P w) 4 T.c5h T.c1i ["history","word"] (d9a (cO T) T.a6g):=by
 refine d3b T.d0n b8a (fun vs H Q E h=>?_) (fun cdv A outer s H vs Q E hr h=>?_)
 ·obtain⟨v,p,wo,rfl,_⟩:=h
  rfl
 ·obtain⟨v,p,wo,rfl,tr,gp,fw,qy,qn⟩:=h
  have hu:=a8v hr
  refine⟨_,(a0e (a0n (i:=2) b8a.nd rfl (Or.inl rfl) (a0l ((c1b T).mono (by decide)) hr rfl T.b5y T.b2d.kp T.b6a .nil (e0i fun _ _ _ z=>z) (a0a (pv 0) (a0a (pv 1) a0d))))
   (a0e (a0n (i:=3) b8a.nd rfl (Or.inl rfl) (a1k a0d))
   (a0e (e2m (a2o PassesOwn.never rfl (a1r (a0o a0z (pv 0) a0c (fun _ _=>rfl))) (a0i (i:=4) b8a.nd rfl (Or.inl rfl))
   (a0g (a5t (b7c PySem.F.plainAttrs_list PySem.F.slot_list_extend PySem.F.type_list_extend d7x (pv 3) (a0a (a0l ((c2o T).mono (by decide)) hr rfl T.b8z T.b4f.kp T.c1a .nil a1m (a0a (pv 4) (a0a (a1d hu (pv 2) (a0o a0z (pv 4) a0c (fun _ _=>rfl)) (fun _ _=>rfl)) a0d))) a0d))))))
   (a0g (a0s (pv 3)))))),?_⟩
  by_cases hw:∀ x,wo=some x→x∈wds
  ·refine⟨_,rfl,_,rfl,v,p,wo,rfl,tr,gp,fw,fun _ e H1 s1 lh=>?_,fun x e n=>absurd (hw x e) n⟩
   refine⟨(by show 0≤sizeLine;decide),fun F hF=>?_⟩
   have hF0:=a0b (H:=H1) (a:=F) (o:=HO.lst [])
   have sF:=Same.upd (o:=HO.lst []) hF
   generalize upd H1 F (.lst [])=H1F at hF0 sF
   obtain⟨a,l,m,lv,mv,rfl,ha,hl,tl,_,_⟩:=a6f (tr.same s1)
   refine⟨_,rfl,a,_,_,_,rfl,rfl,SqT.of (sF _ _ ha),rfl,l,rfl,⟨_,SqL.of (sF _ _ hl)⟩,a4e (K:=K) (a:=l) (xs:=lv) (fun i σ H3=>∃ (x4:Option V) (ys:List V),σ=[some (.ref a),some (wV wo),some (.ref e),some (.ref F),x4]∧Same H1 H3∧H3 F=some (.lst ys)∧ys.length≤41*i∧Nds H3 ys ((p.1.take i).flatMap (a1u wo))) ⟨none,[],rfl,sF,hF0,Nat.le_refl _,.nil⟩ (fun i σ H3 _ ⟨_,_,_,s3,_⟩=>SqL.of (s3 _ _ hl)) ?_ ?_⟩
   ·rintro i y σ H3 hy ⟨x4,ys,rfl,s3,hF3,ly,pn⟩
    obtain⟨dd,edd,trd⟩:=tl.get hy
    rw[List.getElem?_map] at edd
    obtain⟨d,ed,rfl⟩:=Option.map_eq_some_iff.mp edd
    have hd:=List.mem_of_getElem? ed
    have hi8:i < 8:=by have:=(List.getElem?_eq_some_iff.mp ed).1;have:=gp.1;omega
    obtain⟨kvs,hk,vk⟩:=lh.same s3
    obtain⟨x,dx,vx,hx⟩:=vk d hd
    obtain⟨pd,L,lkv,rfl,hpd,_,_⟩:=a7n (trd.same s3)
    have dg:=b2n.k (k:=Sum.inl d.1) hk
    rw[vx] at dg
    refine⟨_,rfl,Or.inl ⟨rfl,_,SqL.of hF3⟩,_,rfl,_,rfl,_,rfl,pd,_,_,_,rfl,rfl,SqT.of hpd,rfl,e,_,rfl,dg,.ref pd,x,d,wo,dx,rfl,trd.same s3,hx,(gp.2.2 d hd).2,fun D H4 zs hD s4 h4 pz=>?_⟩
    have lz:zs.length≤41:=by
     rw[a5n pz]
     unfold a1u
     rw[List.length_map,List.length_range]
     have:=c4p wo d (gp.2.2 d hd).2
     omega
    refine⟨F,D,ys,zs,rfl,rfl,s4 _ _ hF3,h4,(by have:sizeLine=2 ^ 24:=rfl;omega),?_⟩
    have kn:=KN.upd (o:=HO.lst (ys++zs)) (s4 _ _ hF3)
    refine⟨_,_,rfl,fun b o eb=>?_,a0b,(by rw[List.length_append];omega),?_⟩
    ·rw[a0h (show b≠F from fun z=>by rw[z,hF] at eb;cases eb)]
     exact s4 _ _ (s3 _ _ eb)
    ·rw[List.take_add_one,ed,List.flatMap_append]
     refine a1t (e2r ((KN.of s4).trans kn) pn) ?_
     show Nds _ zs (List.flatMap (a1u wo) [d])
     rw[List.flatMap_cons,List.flatMap_nil,List.append_nil]
     exact e2r kn pz
   ·rintro σ H3 ⟨x4,ys,rfl,s3,hF3,ly,pn⟩
    have:lv.length=p.1.length:=by rw[tl.len,List.length_map]
    rw[this,List.take_length] at pn
    exact⟨_,rfl,qy hw F H3 ys (s1.free hF) (s1.trans s3) hF3 pn⟩
  ·cases wo with
   | none=>exact absurd (fun x e=>by cases e) hw
   | some x =>
    have hx:x ∉ wds:=fun z=>hw fun y ey=>by cases ey;exact z
    exact⟨_,rfl,_,rfl,v,p,some x,rfl,tr,gp,fw,fun h=>absurd (h x rfl) hx,fun y ey n H' s'=>by cases ey;exact qn x rfl n H' s'⟩
--@STAGE
def a5i (w:Option Str) (d:Dl):Nk:=(d.1,a5b (lvD w d) (d.2.2.length:Int) - 1)
def a5k (w:Option Str) (d:Dl):Nk:=(d.1,c2n (lvD w d) (d.2.2.length:Int))
def KpH (H:Hp) (e:Addr) (p:Ps) (f:Dl→Nk):Prop:=∃ kvs,H e=some (.dK kvs)∧∀ d∈p.1,∃ v,a4a kvs (.inl d.1)=some v∧NdV H v (f d)
theorem KpH.same {H H':Hp} (s:Same H H') {e:Addr} {p:Ps} {f:Dl→Nk} (h:KpH H e p f):KpH H' e p f:=let ⟨kvs,a,b⟩:=h;⟨kvs,s _ _ a,fun d hd=>let ⟨v,c,q,e,hq⟩:=b d hd;⟨v,c,q,e,s _ _ hq⟩⟩
def d7g (cls:Lv→Addr) (f:Option Str→Dl→Nk):Sp:=fun vs H Q _=>∃ (v:V) (e:Addr) (p:Ps) (w:Option Str),vs=[v,.ref e]∧Tr H v (a3r p)∧c5l p∧LvH cls H e w p∧∀ k H',Same H H'→KpH H' k p (f w)→Q (.ref k) H'
def b0o (r:Int→Int):List Nk→Bool
 | []=>true
 | (n,p)::t=>if p < r n then false else b0o (fun m=>if m=n then p else r m) t
def e4m:Sp:=fun vs H Q _=>∃ (o:Addr) (ys:List V) (os:List Nk),vs=[.ref o]∧H o=some (.lst ys)∧Nds H ys os∧os.length≤1000∧∀ H',Same H H'→Q (.bl (b0o (fun _=>0) os)) H'
def a3j (w:Option Str) (d:Dl) (pl:Int):List Lk:=(List.range d.2.2.length).filterMap fun (i:Nat)=>if b1e (lvD w d) (i:Int)=some pl then d.2.2[i]? else none
def d8m (cls:Lv→Addr):Sp:=fun vs H Q _=>∃ (v:V) (a:Addr) (pl:Int) (d:Dl) (w:Option Str) (dx:Addr),vs=[v,.ref a,.int pl]∧Tr H v (a2h d)∧H a=some (.ins (cls (lvD w d)) dx [])∧d.2.2.length≤40∧∀ D H' ys,H D=none→Same H H'→H' D=some (.lst ys)→Trs H' ys ((a3j w d pl).map a6n)→Q (.ref D) H'
def e6y (H:Hp) (m:Addr) (b:Nat) (c:Int→Option Int):Prop:=∃ kvs,H m=some (.dK kvs)∧kvs.length≤b∧∀ k,a4a kvs (.inl k)=(c k).map V.int
def b0l (c:Int→Option Int) (lk:Lk):Bool:=lk.all fun q=>decide ((c q.1).getD 0=q.2)
def e5j:Sp:=fun vs H Q _=>∃ (v:V) (m:Addr) (lk:Lk) (b:Nat) (c:Int→Option Int),vs=[v,.ref m]∧Tr H v (a6n lk)∧lk.length≤1000∧e6y H m b c∧∀ H',Same H H'→Q (.bl (b0l c lk)) H'
def a9k (w:Option Str) (p:Ps) (d:Dl) (pl:Int) (c:Int→Option Int):Int→Option Int:=if (d.1,pl)=a5i w d then fun k=>if (p.2.any fun r=>decide (r.1=k) && decide (d.1∈r.2))=true then some d.1 else c k else c
def c6e (p:Ps) (n:Int):Option Dl:=p.1.find? fun d=>decide (d.1=n)
def b3j (w:Option Str) (p:Ps) (c:Int→Option Int):List Nk→Bool
 | []=>true
 | (n,pl)::t=>match c6e p n with
  | some d=>if (a3j w d pl).all (b0l c)=true then b3j w p (a9k w p d pl c) t else false
  | none=>false
def d3d (p:Ps):Prop:=p.2.length≤100∧(∀ r∈p.2,r.2.length≤1000)∧∀ d∈p.1,∀ lk∈d.2.2,lk.length≤1000
def c9r (cls:Lv→Addr):Sp:=fun vs H Q _=>∃ (v:V) (o e:Addr) (p:Ps) (w:Option Str) (ys:List V) (os:List Nk),vs=[v,.ref o,.ref e]∧Tr H v (a3r p)∧c5l p∧d3d p∧LvH cls H e w p∧H o=some (.lst ys)∧Nds H ys os∧os.length≤1000∧(∀ q∈os,∃ d∈p.1,d.1=q.1)∧∀ H',Same H H'→Q (.bl (b3j w p (fun _=>none) os)) H'
def nbB (K F:Int→Nat):List Int→Bool
 | a::b::r=>if F b≤K a then false else nbB K F (b::r)
 | _=>true
def d1f (w:Option Str) (p:Ps) (os:List Nk) (n:Int):Nat:=match c6e p n with
 | some d=>os.idxOf (a5i w d)
 | none=>0
def d0d (w:Option Str) (p:Ps) (os:List Nk) (n:Int):Nat:=match c6e p n with
 | some d=>os.idxOf (a5k w d)
 | none=>0
def b0a (w:Option Str) (p:Ps) (os:List Nk):Bool:=p.2.all fun r=>nbB (d1f w p os) (d0d w p os) r.2
def d5q (cls:Lv→Addr):Sp:=fun vs H Q _=>∃ (v:V) (o e:Addr) (p:Ps) (w:Option Str) (ys:List V) (os:List Nk),vs=[v,.ref o,.ref e]∧Tr H v (a3r p)∧c5l p∧d3d p∧LvH cls H e w p∧H o=some (.lst ys)∧Nds H ys os∧os.length≤1000∧(∀ d∈p.1,a5i w d∈os∧a5k w d∈os)∧(∀ r∈p.2,∀ x∈r.2,∃ d∈p.1,d.1=x)∧∀ H',Same H H'→Q (.bl (b0a w p os)) H'
theorem d8o {α:Type} {xs:List α} {v:α} (h:xs[xs.length - 1]?=some v):atI xs (-1)=some v:=by
 have hl:=(List.getElem?_eq_some_iff.mp h).1
 unfold atI ixN
 rw[if_neg (by decide),if_pos (by omega)]
 have e:(-1+(xs.length:Int)).toNat=xs.length - 1:=by omega
 simpa [e] using h
theorem b8t {H:Hp} {v:V} {p:Pr} (h:Tr H v (b3h p)):∃ a,v=.ref a∧H a=some (.tup [.int p.1,.int p.2]):=by
 cases h with
 | tup h r =>
  cases r with
  | cons h1 r =>
   cases r with
   | cons h2 r =>
    cases r
    cases h1
    cases h2
    exact⟨_,rfl,h⟩
theorem a9j {H:Hp} {v:V} {ds:List PyData} (h:Tr H v (.list ds)):∃ a xs,v=.ref a∧H a=some (.lst xs)∧Trs H xs ds:=by
 cases h with
 | lst h r=>exact⟨_,_,rfl,h,r⟩
def NpV (f:Dl→Nk) (H:Hp) (y:V) (d:Dl):Prop:=∃ t v,y=.ref t∧H t=some (.tup [.int d.1,v])∧NdV H v (f d)
theorem e3c (f:Dl→Nk):∀ H H' y d,KN H H'→NpV f H y d→NpV f H' y d:=fun H H' y d k ⟨t,v,e,h1,q,e2,h2⟩=>⟨t,v,e,k _ _ (fun _ z=>by cases z) h1,q,e2,k _ _ (fun _ z=>by cases z) h2⟩
theorem c9s {K:PySem.W.Frag} {f:Dl→Nk} {H:Hp}:∀ {ys:List V} {ds:List Dl},Paired (NpV f H) ys ds→∃ ps:List (Key×V),d5z K H ys ps∧ps.map (·.1)=ds.map (fun d=>Sum.inl d.1)∧∀ d∈ds,∃ v,(Sum.inl d.1,v)∈ps∧NdV H v (f d)
 | _,_,.nil=>⟨[],.nil,rfl,fun d hd=>by cases hd⟩
 | _,_,.cons (b:=d0) h t=>by
  obtain⟨ps,h1,h2,h3⟩:=c9s t
  obtain⟨t',v,rfl,ht,hv⟩:=h
  refine⟨(.inl d0.1,v)::ps,.cons (SqT.of ht) h1,by rw[List.map_cons,List.map_cons,h2],fun d hd=>?_⟩
  rcases List.mem_cons.mp hd with e | e
  ·rw[e];exact⟨v,.head _,hv⟩
  ·obtain⟨v',m,hv'⟩:=h3 d e
   exact⟨v',.tail _ m,hv'⟩
theorem d1o {ds:List Dl} (nn:(ds.map (·.1)).Nodup):(ds.map (fun d=>(Sum.inl d.1:Key))).Nodup:=List.pairwise_map.mpr (List.Pairwise.imp (fun z e=>z (Sum.inl.inj e)) (List.pairwise_map.mp nn))
theorem b3i {p:Ps} (nn:(p.1.map (·.1)).Nodup) {d:Dl} (h:d∈p.1):c6e p d.1=some d:=by
 unfold c6e
 generalize p.1=l at *
 induction l with
 | nil=>cases h
 | cons x r ih =>
  obtain⟨n1,n2⟩:=List.nodup_cons.mp nn
  rw[List.find?_cons]
  by_cases z:x.1=d.1
  ·rw[decide_eq_true z]
   rcases List.mem_cons.mp h with e | e
   ·rw[e]
   ·exact absurd (List.mem_map.mpr ⟨d,e,z.symm⟩) n1
  ·rw[decide_eq_false z]
   rcases List.mem_cons.mp h with e | e
   ·exact absurd (by rw[e]) z
   ·exact ih n2 e
theorem d6r {α:Type} (as:List α) (f:α→Bool):as.filterMap (fun a=>some (V.bl (f a)))=(as.map f).map V.bl:=by rw[List.map_map,←List.filterMap_eq_map];rfl
theorem d5h {α:Type} (as:List α) (f:α→Bool):(as.map f).all id=as.all f:=by rw[List.all_map];rfl
theorem d3y (a b:Int):decide (V.int a=V.int b)=decide (a=b):=by
 by_cases h:a=b
 ·rw[h];simp
 ·rw[decide_eq_false h,decide_eq_false (fun e=>h (by injection e))]
theorem e0e (l:Lv) (i:Int) (pl:Int):decide (f0p (b1e l i)=V.int pl)=decide (b1e l i=some pl):=by
 cases b1e l i with
 | none=>rw[decide_eq_false (fun z=>by cases z),decide_eq_false (fun z=>by cases z)]
 | some k =>
  show decide (V.int k=V.int pl)=_
  rw[d3y]
  by_cases h:k=pl
  ·rw[h];simp
  ·rw[decide_eq_false h,decide_eq_false (fun e=>h (Option.some.inj e))]
theorem e0h (l:Lv) (i pl:Int):e9f (f0p (b1e l i)) (.int pl)=true:=by
 cases b1e l i<;>rfl
theorem d1p {H:Hp} {xs:List V} {lks:List Lk} (h:Trs H xs (lks.map a6n)) (p:Nat→Bool):∀ n,n≤lks.length→Trs H ((List.range n).filterMap fun i=>if p i=true then xs[i]? else none) (((List.range n).filterMap fun i=>if p i=true then lks[i]? else none).map a6n)
 | 0,_=>.nil
 | n+1,hn=>by
  rw[List.range_succ,List.filterMap_append,List.filterMap_append,List.map_append]
  refine(d1p h p n (by omega)).app ?_
  obtain⟨lk,hlk⟩:∃ lk,lks[n]?=some lk:=⟨_,List.getElem?_eq_getElem (by omega)⟩
  obtain⟨v,hv,tv⟩:=h.at (i:=n) (d:=a6n lk) (by rw[List.getElem?_map,hlk];rfl)
  by_cases z:p n=true
  ·simp only [List.filterMap_cons,List.filterMap_nil,if_pos z,hv,hlk]
   exact .cons tv .nil
  ·simp only [List.filterMap_cons,List.filterMap_nil,if_neg z]
   exact .nil
theorem e8a (a b:Nk):PyData.eqv (dN a) (dN b)=decide (a=b):=by
 by_cases h:a=b
 ·subst h
  rw[decide_eq_true rfl]
  exact SeqAt.eqv_refl _ rfl
 ·rw[decide_eq_false h]
  show ((a.1 == b.1) && ((a.2 == b.2) && true))=false
  by_cases h1:a.1=b.1
  ·have h2:a.2≠b.2:=fun z=>h (Prod.ext h1 z)
   rw[beq_eq_false_iff_ne.mpr h2,Bool.false_and,Bool.and_false]
  ·rw[beq_eq_false_iff_ne.mpr h1,Bool.false_and]
theorem c2y (n:Int):∀ (l:List Mkr) (kvs:List (Key×V)) (k:Int),a4a (a5v kvs (l.map fun r=>(Sum.inl r.1,V.int n))) (.inl k)=if (l.any fun r=>decide (r.1=k))=true then some (.int n) else a4a kvs (.inl k)
 | [],kvs,k=>rfl
 | r::t,kvs,k=>by
  show a4a (a5v (a6e kvs (.inl r.1) (.int n)) (t.map fun r=>(Sum.inl r.1,V.int n))) (.inl k)=_
  rw[c2y n t,a7p,List.any_cons]
  by_cases h:(t.any fun r=>decide (r.1=k))=true
  ·rw[if_pos h,h,Bool.or_true,if_pos rfl]
  ·rw[if_neg h,Bool.eq_false_iff.mpr h,Bool.or_false]
   by_cases z:r.1=k
   ·rw[if_pos (congrArg Sum.inl z.symm),if_pos (decide_eq_true z)]
   ·rw[if_neg (fun y=>z (Sum.inl.inj y).symm),if_neg (by rw[decide_eq_true_eq];exact z)]
theorem d3u (p:Ps) (n k:Int):((p.2.filter fun r=>decide (n∈r.2)).any fun r=>decide (r.1=k))=p.2.any fun r=>decide (r.1=k) && decide (n∈r.2):=by
 generalize p.2=l
 induction l with
 | nil=>rfl
 | cons r t ih =>
  rw[List.filter_cons,List.any_cons]
  by_cases z:n∈r.2
  ·rw[if_pos (decide_eq_true z),List.any_cons,ih,decide_eq_true z,Bool.and_true]
  ·rw[if_neg (by rw[decide_eq_true_eq];exact z),ih,decide_eq_false z,Bool.and_false,Bool.false_or]
theorem NdV.sm {H H':Hp} (s:Same H H') {v:V} {q:Nk} (h:NdV H v q):NdV H' v q:=let ⟨p,e,hp⟩:=h;⟨p,e,s _ _ hp⟩
theorem b9e {H:Hp} {v:V} {m:Mkr} (h:Tr H v (a4t m)):∃ a l,v=.ref a∧H a=some (.tup [.int m.1,.ref l])∧H l=some (.lst (m.2.map V.int)):=by
 cases h with
 | tup h r =>
  cases r with
  | cons h1 r =>
   cases r with
   | cons h2 r =>
    cases r
    cases h1
    obtain⟨a,xs,rfl,ha,hx⟩:=a9j h2
    rw[hx.ints] at ha
    exact⟨_,a,rfl,h,ha⟩
theorem c9c {K:PySem.W.Frag} {H:Hp} {n:Int}:∀ {ws:List V} {l:List Mkr},Paired (fun v (r:Mkr)=>∃ b,v=.ref b∧H b=some (.tup [.int r.1,.int n])) ws l→d5z K H ws (l.map fun r=>(.inl r.1,.int n))
 | _,_,.nil=>.nil
 | _,_,.cons ⟨_,e,hb⟩ t=>by
  subst e
  exact .cons (SqT.of hb) (c9c t)
theorem c9k (q:Mkr→Bool):∀ l:List Mkr,l.filterMap (fun r=>if q r=true then some r else none)=l.filter q
 | []=>rfl
 | x::t=>by
  rw[List.filterMap_cons,List.filter_cons]
  by_cases y:q x=true
  ·rw[if_pos y,if_pos y,c9k q t]
  ·rw[if_neg y,if_neg y,c9k q t]
theorem e6y.same {H H':Hp} (s:Same H H') {m:Addr} {b:Nat} {c:Int→Option Int} (h:e6y H m b c):e6y H' m b c:=let ⟨kvs,h1,h2⟩:=h;⟨kvs,s _ _ h1,h2⟩
def a6j (ds:List Dl) (xs:List V):List (Key×V):=(ds.zip xs).map fun q=>(.inl q.1.1,q.2)
theorem c2q {H:Hp}:∀ {ds:List Dl} {xs:List V},Trs H xs (ds.map a2h)→Paired (fun v (a:Dl×V)=>v=a.2∧Tr H v (a2h a.1)) xs (ds.zip xs)
 | [],_,h=>by cases h;exact .nil
 | d::r,_,h=>by
  cases h with
  | cons h t=>exact .cons ⟨rfl,h⟩ (c2q t)
theorem c6v {K:PySem.W.Frag} {H:Hp}:∀ {ws:List V} {l:List (Dl×V)},Paired (fun v (a:Dl×V)=>∃ b,v=.ref b∧H b=some (.tup [.int a.1.1,a.2])) ws l→d5z K H ws (l.map fun q=>(.inl q.1.1,q.2))
 | _,_,.nil=>.nil
 | _,_,.cons ⟨_,e,hb⟩ t=>by
  subst e
  exact .cons (SqT.of hb) (c6v t)
theorem b6s {ds:List Dl} {xs:List V} (h:xs.length=ds.length):(a6j ds xs).map (·.1)=ds.map fun d=>(Sum.inl d.1:Key):=by
 unfold a6j
 rw[List.map_map]
 have:(ds.zip xs).map Prod.fst=ds:=by rw[List.map_fst_zip];omega
 conv=>rhs;rw[←this,List.map_map]
 rfl
theorem d4b {H:Hp} {ds:List Dl} {xs:List V} (tl:Trs H xs (ds.map a2h)) (nn:(ds.map (·.1)).Nodup) {d:Dl} (hd:d∈ds):∃ v,a4a (a6j ds xs) (.inl d.1)=some v∧Tr H v (a2h d):=by
 have hl:xs.length=ds.length:=by rw[tl.len,List.length_map]
 obtain⟨i,hi⟩:=List.mem_iff_getElem?.mp hd
 obtain⟨v,hv,tv⟩:=tl.at (i:=i) (d:=a2h d) (by rw[List.getElem?_map,hi];rfl)
 refine⟨v,b1o (by rw[b6s hl];exact d1o nn) (List.mem_map.mpr ⟨(d,v),List.mem_of_getElem? (List.getElem?_zip_eq_some.mpr ⟨hi,hv⟩),rfl⟩),tv⟩
theorem e8b {K F:Int→Nat} {l:List Int} (h:l.length≤1):nbB K F l=true:=by
 match l,h with
 | [],_=>rfl
 | [x],_=>rfl
theorem d2n {kvs:List (Key×V)} {p:Ps} {f:Dl→Nk} {H:Hp} (h:∀ d∈p.1,∃ v,a4a kvs (.inl d.1)=some v∧NdV H v (f d)) {x:Int} (hx:∃ d∈p.1,d.1=x):∃ d v,d∈p.1∧d.1=x∧a4a kvs (.inl x)=some v∧NdV H v (f d):=by
 obtain⟨d,hd,rfl⟩:=hx
 obtain⟨v,h1,h2⟩:=h d hd
 exact⟨d,v,hd,rfl,h1,h2⟩
theorem a5l {H H':Hp} (s:Same H H') {ys:List V} {ns:List Nk} (h:Nds H ys ns):Nds H' ys ns:=Paired.imp' (fun _ _ x=>NdV.sm s x) h
theorem e5g (xs:List V):a7o xs (some 1) none=xs.drop 1:=by
 unfold a7o
 rw[show (some (1:Int))=some ((1:Nat):Int) from rfl,HT.sIx_nat,HT.sIx_none]
 by_cases h:1≤xs.length
 ·rw[Nat.min_eq_left h,List.take_of_length_le (by rw[List.length_drop];exact Nat.le_refl _)]
 ·rw[List.drop_eq_nil_of_le (show xs.length≤min 1 xs.length by omega),List.drop_eq_nil_of_le (show xs.length≤1 by omega),List.take_nil]
theorem c2e (T:Tx K mg):a3y P w K mg base CX0 3 T.b5g T.b5c ["past","levels"] (d7g (cO T) a5i):=by
 refine T.b4m.ok d3r (fun vs H Q E h=>?_) (fun cdv A outer s H vs Q E hr h=>?_)
 ·obtain⟨v,e,p,wo,rfl,_⟩:=h
  rfl
 ·obtain⟨v,e,p,wo,rfl,tr,gp,lh,q⟩:=h
  have hu:=a8v hr
  refine⟨_,(a0g (a0s (a2y (a6y (K:=K) rfl rfl) (by rfl) T.b5a boot_dict (a0a (a3p ["deal"] rfl (a3b.mk (fv:=["levels"]) (js:=[1]) rfl (by decide +kernel) (by decide +kernel) (by decide +kernel) (a1q (Or.inl rfl) a2l) rfl (by decide +kernel)) (a1r (a0o a0z (pv 0) a0c (fun _ _=>rfl))) (fun _ _ _ _ _=>(a0i (i:=0) (show (["deal","levels"]:List Str).Nodup by decide +kernel) rfl (Or.inl rfl))) (fun _ _ _ _ _=>b0j) (fun _ _ _ _ _=>(a2f (a0a (a0o (a2g (K:=K) rfl) (pv 0) a0c (fun _ _=>rfl)) (a0a (a0o (b3r (K:=K) rfl) (a0l ((c2o T).mono (by decide)) hr rfl T.b8z T.b4f.kp T.c1a .nil a1m (a0a (pv 0) (a0a (a1d hu (pv 1) (a0o (a2g (K:=K) rfl) (pv 0) a0c (fun _ _=>rfl)) (fun _ _=>rfl)) a0d))) (d3m c2u a0c) (fun _ _=>rfl)) a0d))))) a0d)))),?_⟩
  obtain⟨l8,nn,gd⟩:=gp
  obtain⟨a,l,m,lv,mv,rfl,ha,hl,tl,_,_⟩:=a6f tr
  refine⟨_,rfl,a,_,_,_,rfl,rfl,SqT.of ha,rfl,l,rfl,⟨_,SqL.of hl⟩,c6n (k:=1) (fs:=[some (.ref e)]) (NpV (a5i wo)) (fun H v d=>Tr H v (a2h d)) p.1 some (e3c _) (fun _ _ _ _ ss z=>z.same ss) rfl hl (a8p tl) (by have:sizeLine=2 ^ 24:=rfl;omega) (fun d hd H2 ts v R ss hts trd cont _=>?_) fun D H2 ys hD s2 h2 pp=>?_⟩
  ·obtain⟨t,rfl⟩:=List.length_eq_one_iff.mp hts
   obtain⟨pd,L,lkv,rfl,hpd,_,_⟩:=a7n trd
   obtain⟨kvs,hk,vk⟩:=lh.same ss
   obtain⟨x,dx,vx,hx⟩:=vk d hd
   have dg:=b2n.k (k:=Sum.inl d.1) hk
   rw[vx] at dg
   refine⟨_,rfl,pd,_,_,_,rfl,rfl,SqT.of hpd,rfl,_,rfl,_,rfl,_,rfl,pd,_,_,_,rfl,rfl,SqT.of hpd,rfl,e,_,rfl,dg,.ref pd,x,d,wo,dx,rfl,trd,hx,(gd d hd).2,fun D3 H3 ys3 hD3 s3 h3 pn=>?_⟩
   have sl:=c4p wo d (gd d hd).2
   have hpos:1≤a5b (lvD wo d) (d.2.2.length:Int):=by
    generalize lvD wo d=lv0
    cases lv0<;>simp only [a5b]<;>omega
   have hlen:ys3.length=(a5b (lvD wo d) (d.2.2.length:Int)).toNat:=by
    rw[a5n pn]
    unfold a1u
    rw[List.length_map,List.length_range]
   obtain⟨yl,hyl⟩:∃ yl,ys3[ys3.length - 1]?=some yl:=⟨_,List.getElem?_eq_getElem (by omega)⟩
   obtain⟨nk,enk,hnk⟩:=a1w pn hyl
   have ek:nk=a5i wo d:=by
    unfold a1u at enk
    rw[List.getElem?_map,List.getElem?_range (by omega)] at enk
    have:=(Option.some.inj enk).symm
    rw[this]
    unfold a5i
    refine Prod.ext rfl ?_
    show ((ys3.length - 1:Nat):Int)=_
    omega
   rw[ek] at hnk
   refine⟨_,rfl,D3,ys3,_,yl,rfl,rfl,SqL.of h3,d8o hyl,(by show 2≤sizeLine;decide),fun t ht=>cont d _ [_] _ rfl rfl (s3.trans (Same.upd ht)) ⟨t,yl,rfl,a0b,?_⟩⟩
   obtain⟨qn,eq,hq⟩:=hnk
   exact⟨qn,eq,Same.upd ht _ _ hq⟩
  ·rw[List.filterMap_some] at pp
   obtain⟨ps,pr,pk,pv⟩:=c9s (K:=K) pp
   have lps:ps.length=p.1.length:=by have:=congrArg List.length pk;simpa using this
   have nd:(ps.map (·.1)).Nodup:=by rw[pk];exact d1o nn
   refine⟨D,ys,ps,rfl,h2,pr,(by omega),fun k hk=>q k _ (s2.trans (Same.upd hk)) ⟨_,a0b,fun d hd=>?_⟩⟩
   rw[b0w ps [] (by simpa using nd)]
   obtain⟨v,hm,qn,eq,hq⟩:=pv d hd
   exact⟨v,b1o nd hm,qn,eq,Same.upd hk _ _ hq⟩
theorem d1c (T:Tx K mg):a3y P w K mg base CX0 2 T.b2g T.b1w ["past","levels"] (d7g (cO T) a5k):=by
 refine T.b5t.ok c9z (fun vs H Q E h=>?_) (fun cdv A outer s H vs Q E hr h=>?_)
 ·obtain⟨v,e,p,wo,rfl,_⟩:=h
  rfl
 ·obtain⟨v,e,p,wo,rfl,tr,gp,lh,q⟩:=h
  have hu:=a8v hr
  refine⟨_,(a0g (a0s (a2y (a6y (K:=K) rfl rfl) (by rfl) T.b5a boot_dict (a0a (a3p ["deal"] rfl (a3b.mk (fv:=["levels"]) (js:=[1]) rfl (by decide +kernel) (by decide +kernel) (by decide +kernel) (a1q (Or.inl rfl) a2l) rfl (by decide +kernel)) (a1r (a0o a0z (pv 0) a0c (fun _ _=>rfl))) (fun _ _ _ _ _=>(a0i (i:=0) (show (["deal","levels"]:List Str).Nodup by decide +kernel) rfl (Or.inl rfl))) (fun _ _ _ _ _=>b0j) (fun _ _ _ _ _=>(a2f (a0a (a0o (a2g (K:=K) rfl) (pv 0) a0c (fun _ _=>rfl)) (a0a (a2f (a0a (a0o (a2g (K:=K) rfl) (pv 0) a0c (fun _ _=>rfl)) (a0a (c4m (a1d hu (pv 1) (a0o (a2g (K:=K) rfl) (pv 0) a0c (fun _ _=>rfl)) (fun _ _=>rfl)) (c4j T) (hr.mono (by decide)) (a0a (a1b (d5a (K:=K) rfl) (by rfl) T.a5j boot_len (a0a (a0o (a2g (K:=K) rfl) (pv 0) a0c (fun _ _=>rfl)) a0d)) a0d)) a0d))) a0d))))) a0d)))),?_⟩
  obtain⟨l8,nn,gd⟩:=gp
  obtain⟨a,l,m,lv,mv,rfl,ha,hl,tl,_,_⟩:=a6f tr
  refine⟨_,rfl,a,_,_,_,rfl,rfl,SqT.of ha,rfl,l,rfl,⟨_,SqL.of hl⟩,c6n (k:=1) (fs:=[some (.ref e)]) (NpV (a5k wo)) (fun H v d=>Tr H v (a2h d)) p.1 some (e3c _) (fun _ _ _ _ ss z=>z.same ss) rfl hl (a8p tl) (by have:sizeLine=2 ^ 24:=rfl;omega) (fun d hd H2 ts v R ss hts trd cont _=>?_) fun D H2 ys hD s2 h2 pp=>?_⟩
  ·obtain⟨t,rfl⟩:=List.length_eq_one_iff.mp hts
   obtain⟨pd,L,lkv,rfl,hpd,hL,tL⟩:=a7n trd
   have ll:lkv.length=d.2.2.length:=by rw[tL.len,List.length_map]
   obtain⟨kvs,hk,vk⟩:=lh.same ss
   obtain⟨x,dx,vx,hx⟩:=vk d hd
   have dg:=b2n.k (k:=Sum.inl d.1) hk
   rw[vx] at dg
   refine⟨_,rfl,pd,_,_,_,rfl,rfl,SqT.of hpd,rfl,_,rfl,pd,_,_,_,rfl,rfl,SqT.of hpd,rfl,_,rfl,_,rfl,pd,_,_,_,rfl,rfl,SqT.of hpd,rfl,e,_,rfl,dg,x,lvD wo d,dx,[],rfl,hx,rfl,_,rfl,pd,_,_,_,rfl,rfl,SqT.of hpd,rfl,_,_,rfl,.inl ⟨_,SqL.of hL,rfl⟩,_,_,rfl,?_⟩
   rw[ll]
   refine⟨(by show 2≤sizeLine;decide),fun t ht=>⟨(by show 2≤sizeLine;decide),fun t2 ht2=>cont d _ [_] _ rfl rfl ((Same.upd ht).trans (Same.upd ht2)) ⟨t2,.ref t,rfl,a0b,t,rfl,Same.upd ht2 _ _ a0b⟩⟩⟩
  ·rw[List.filterMap_some] at pp
   obtain⟨ps,pr,pk,pv⟩:=c9s (K:=K) pp
   have lps:ps.length=p.1.length:=by have:=congrArg List.length pk;simpa using this
   have nd:(ps.map (·.1)).Nodup:=by rw[pk];exact d1o nn
   refine⟨D,ys,ps,rfl,h2,pr,(by omega),fun k hk=>q k _ (s2.trans (Same.upd hk)) ⟨_,a0b,fun d hd=>?_⟩⟩
   rw[b0w ps [] (by simpa using nd)]
   obtain⟨v,hm,qn,eq,hq⟩:=pv d hd
   exact⟨v,b1o nd hm,qn,eq,Same.upd hk _ _ hq⟩
theorem b7j (T:Tx K mg):a3y P w K mg base CX0 1 T.a5f T.a5a ["order"] e4m:=by
 refine T.a6z.ok a6i (fun vs H Q E h=>?_) (fun cdv A outer s H vs Q E hr h=>?_)
 ·obtain⟨o,ys,os,rfl,_⟩:=h
  rfl
 ·obtain⟨o,ys,os,rfl,ho,hn,hz,q⟩:=h
  have hu:=a8v hr
  refine⟨_,(a0e (a0n (i:=1) a6i.nd rfl (Or.inl rfl) a6r)
   (a0e (a2o PassesOwn.never rfl (a1r (pv 0)) (a0i (i:=2) a6i.nd rfl (Or.inl rfl))
   (a0e (a3n (a0t c8n (a0o a0z (pv 2) a0c (fun _ _=>rfl)) (b2k hu (pv 1) (a0o a0z (pv 2) a0c (fun _ _=>rfl)) a0c ⟨rfl,rfl,rfl,rfl⟩) (a0x _))
   (a0g (a0s b2m))
   a1a)
   (a0g (a7j hu (pv 1) (a0o a0z (pv 2) a0c (fun _ _=>rfl)) (a0o a0z (pv 2) a0c (fun _ _=>rfl)) rfl))))
   (a0g (a0s b2m)))),?_⟩
  have z9:(2000:Nat)≤sizeLine:=by decide
  have hyl:=a5n hn
  intro d hd
  have s0:=Same.upd (o:=HO.dK []) hd
  refine⟨_,rfl,o,rfl,⟨_,SqL.of (s0 _ _ ho)⟩,a4e (K:=K) (a:=o) (xs:=ys) (fun i σ H2=>Same H H2∧∃ (x2:Option V) (kvs:List (Key×V)) (r:Int→Int),σ=[some (.ref o),some (.ref d),x2]∧H2 d=some (.dK kvs)∧kvs.length≤i∧(∀ n,(a4a kvs (.inl n)).getD (.int 0)=.int (r n))∧b0o (fun _=>0) os=b0o r (os.drop i)) ⟨s0,none,[],fun _=>0,rfl,a0b,Nat.le_refl _,(fun n=>rfl),rfl⟩ (fun i σ H2 _ ⟨ss,_⟩=>SqL.of (ss _ _ ho)) ?_ ?_⟩
  ·rintro i y σ H2 hy ⟨ss,x2,kvs,r,rfl,hdk,hkl,hr0,hc⟩
   have hi:i < ys.length:=(List.getElem?_eq_some_iff.mp hy).1
   obtain⟨⟨n,pl⟩,hnp,c,rfl,hcN⟩:=a1w hn hy
   have hdr:os.drop i=(n,pl)::os.drop (i+1):=by rw[List.drop_eq_getElem_cons (List.getElem?_eq_some_iff.mp hnp).1,(List.getElem?_eq_some_iff.mp hnp).2]
   rw[hdr] at hc
   have hcN2:=ss _ _ hcN
   refine⟨_,rfl,c,_,_,_,rfl,rfl,SqT.of hcN2,a0k (j:=1) rfl,_,rfl,d,rfl,.inl ⟨_,.inl hdk⟩,_,rfl,c,_,_,_,rfl,rfl,SqT.of hcN2,a0k (j:=0) rfl,_,.inl ⟨kvs,.inl n,.inl hdk,rfl,rfl⟩,?_⟩
   rw[hr0 n]
   refine⟨_,_,rfl,rfl,_,rfl,b0n (fun e=>?_) (fun e=>?_)⟩
   ·have e':=of_decide_eq_true e
    have:b0o (fun _=>0) os=false:=by
     rw[hc]
     show (if pl < r n then false else _)=false
     rw[if_pos e']
    have q:=q H2 ss
    rw[this] at q
    exact q
   ·have e':¬ pl < r n:=fun z=>e (decide_eq_true z)
    refine⟨_,rfl,c,_,_,_,rfl,rfl,SqT.of hcN2,a0k (j:=1) rfl,_,rfl,_,rfl,c,_,_,_,rfl,rfl,SqT.of hcN2,a0k (j:=0) rfl,d,_,rfl,d3q.k (k:=.inl n) hdk (by omega),fun b o e=>by rw[a0h (fun z=>by rw[z,hd] at e;cases e)];exact ss _ _ e,_,_,fun m=>if m=n then pl else r m,rfl,a0b,(Nat.le_trans (a3s kvs (.inl n) _) (by omega)),fun m=>?_,?_⟩
    ·rw[a7p]
     show _=V.int (if m=n then pl else r m)
     by_cases z:m=n
     ·rw[if_pos (congrArg Sum.inl z),if_pos z];rfl
     ·rw[if_neg (fun y=>z (Sum.inl.inj y)),if_neg z]
      exact hr0 m
    ·rw[hc]
     show (if pl < r n then false else _)=_
     rw[if_neg e']
  ·rintro σ H2 ⟨ss,x2,kvs,r,rfl,hdk,hkl,hr0,hc⟩
   rw[hyl,List.drop_length] at hc
   have q:=q H2 ss
   rw[hc] at q
   exact q
theorem d3n (T:Tx K mg):a3y P w K mg base CX0 2 T.b4t T.b4g ["deal","level","place"] (d8m (cO T)):=by
 refine T.c1j.ok d3o (fun vs H Q E h=>?_) (fun cdv A outer s H vs Q E hr h=>?_)
 ·obtain⟨v,a,pl,d,wo,dx,rfl,_⟩:=h
  rfl
 ·obtain⟨v,a,pl,d,wo,dx,rfl,tr,ha,l40,q⟩:=h
  have hu:=a8v hr
  refine⟨_,(a0g (a0s (a3p ["counted","look"] rfl (a3b.mk (fv:=["level","place"]) (js:=[1,2]) rfl (by decide +kernel) (by decide +kernel) (by decide +kernel) (a1q (Or.inl rfl) (a1q (Or.inl rfl) a2l)) rfl (by decide +kernel)) (e5c rfl T.a9p (a0a (a0o a0z (pv 0) a0c (fun _ _=>rfl)) a0d)) (fun _ _ _ _ _=>(c3m (K:=K) (n:=2) rfl rfl (a0u (a0i (i:=0) (show (["counted","look","level","place"]:List Str).Nodup by decide +kernel) rfl (Or.inl rfl)) (a0u (a0i (i:=1) (show (["counted","look","level","place"]:List Str).Nodup by decide +kernel) rfl (Or.inl rfl)) a4o)))) (fun _ _ _ _ _=>(c8d (a0t a7m (c4m (pv 2) (c7c T) (hr.mono (by decide)) (a0a (pv 0) a0d)) (pv 3) (a0x _)))) (fun _ _ _ _ _=>(pv 1))))),?_⟩
  obtain⟨pd,L,lkv,rfl,hpd,hL,tL⟩:=a7n tr
  have ll:lkv.length=d.2.2.length:=by rw[tL.len,List.length_map]
  have z9:(2000:Nat)≤sizeLine:=by decide
  refine⟨_,rfl,pd,_,_,_,rfl,rfl,SqT.of hpd,rfl,L,lkv,rfl,hL,b6f (k:=2) (fs:=[some (.ref a),some (.int pl)]) d.2.2.length (fun i=>if decide (b1e (lvD wo d) (i:Int)=some pl)=true then lkv[i]? else none) rfl (by omega) (fun i H2 ss hi=>⟨lkv,lkv[i],SqL.of (ss _ _ hL),List.getElem?_eq_getElem (by omega)⟩) (fun H2 ss=>⟨lkv,SqL.of (ss _ _ hL),ll⟩) ?_ fun D H2 hD ss hd=>?_⟩
  ·rintro i H2 ts v H3 R ss hi hts ⟨t,x,hx,rfl,ht,rfl⟩ cont
   obtain⟨t1,t2,rfl⟩:∃ a b,ts=[a,b]:=by match ts,hts with | [a,b],_=>exact⟨a,b,rfl⟩
   have hx':=hx lkv (SqL.of (ss _ _ hL))
   have st:=Same.upd (o:=HO.tup [.int (i:Int),x]) ht
   have cont':=cont [some (.int (i:Int)),some x] _ rfl st
   refine⟨t,_,rfl,SqT.of a0b,rfl,_,_,rfl,_,_,rfl,rfl,_,rfl,a,lvD wo d,dx,[],rfl,st _ _ (ss _ _ ha),rfl,_,rfl,_,_,rfl,_,rfl,e0h _ _ _,_,rfl,?_⟩
   rw[e0e]
   refine b0n (fun y=>?_) (fun y=>?_)
   ·have c2:R (lkv[i]?) _ _:=(if_pos (α:=Option V) y) ▸ cont'
    rw[hx'] at c2
    exact⟨_,rfl,c2⟩
   ·have c2:R none _ _:=(if_neg (α:=Option V) y) ▸ cont'
    exact c2
  ·have e:a3j wo d pl=(List.range d.2.2.length).filterMap fun (i:Nat)=>if decide (b1e (lvD wo d) (i:Int)=some pl)=true then d.2.2[i]? else none:=by
    unfold a3j
    congr 1
    funext i
    by_cases z:b1e (lvD wo d) (i:Int)=some pl
    ·rw[if_pos z,if_pos (decide_eq_true z)]
    ·rw[if_neg z,if_neg (by rw[decide_eq_true_eq];exact z)]
   refine q D H2 _ hD ss hd ?_
   rw[e]
   exact d1p (tL.same ss) (fun i=>decide (b1e (lvD wo d) (i:Int)=some pl)) d.2.2.length (Nat.le_refl _)
theorem e2e (T:Tx K mg):a3y P w K mg base CX0 1 T.c5e T.c4y ["look","makers"] e5j:=by
 refine T.c9x.ok e1o (fun vs H Q E h=>?_) (fun cdv A outer s H vs Q E hr h=>?_)
 ·obtain⟨v,m,lk,b0,c,rfl,_⟩:=h
  rfl
 ·obtain⟨v,m,lk,b0,c,rfl,tr,hz,hc,q⟩:=h
  have hu:=a8v hr
  refine⟨_,(a0g (a0s (a1b (c8v rfl) (by rfl) T.d4x boot_all (a0a (a3p ["pair"] rfl (a3b.mk (fv:=["makers"]) (js:=[1]) rfl (by decide +kernel) (by decide +kernel) (by decide +kernel) (a1q (Or.inl rfl) a2l) rfl (by decide +kernel)) (a1r (pv 0)) (fun _ _ _ _ _=>(a0i (i:=0) (show (["pair","makers"]:List Str).Nodup by decide +kernel) rfl (Or.inl rfl))) (fun _ _ _ _ _=>b0j) (fun _ _ _ _ _=>(b5m a7m (b2k hu (pv 1) (a0o (a2g (K:=K) rfl) (pv 0) a0c (fun _ _=>rfl)) (e5l (v:=V.int (0)) rfl T.d5b ⟨_,rfl⟩) ⟨rfl,rfl,rfl,rfl⟩) (a0o (a2g (K:=K) rfl) (pv 0) a0c (fun _ _=>rfl)) (a0x _)))) a0d)))),?_⟩
  have z9:(2000:Nat)≤sizeLine:=by decide
  obtain⟨kvs,hm,_,hv⟩:=hc
  cases tr with
  | @lst a xs ds ha hx =>
   refine⟨_,rfl,a,rfl,⟨_,SqL.of ha⟩,e3t (k:=1) (fs:=[some (.ref m)]) lk b3h (fun r=>some (.bl (decide ((c r.1).getD 0=r.2)))) rfl ha hx (by omega) (fun r hr' H2 ts v R ss hts tr2 cont=>?_) fun D H2 hD ss hd=>?_⟩
   ·obtain⟨t,rfl⟩:=List.length_eq_one_iff.mp hts
    obtain⟨b,rfl,hb⟩:=b8t tr2
    refine⟨_,rfl,m,rfl,.inl ⟨_,.inl (ss _ _ hm)⟩,_,rfl,b,_,_,_,rfl,rfl,SqT.of hb,a0k (j:=0) rfl,_,.inl ⟨kvs,.inl r.1,.inl (ss _ _ hm),rfl,rfl⟩,_,rfl,b,_,_,_,rfl,rfl,SqT.of hb,a0k (j:=1) rfl,?_⟩
    have cont':=cont [some (.ref b)] H2 rfl (Same.refl _)
    rw[hv]
    have eo:((c r.1).map V.int).getD (.int 0)=V.int ((c r.1).getD 0):=by cases c r.1<;>rfl
    show e9f (((c r.1).map V.int).getD (.int 0)) _=true∧_
    rw[eo]
    refine⟨rfl,?_⟩
    show R (some (V.bl (decide (V.int ((c r.1).getD 0)=V.int r.2)))) _ _
    rw[d3y]
    exact cont'
   ·rw[d6r] at hd
    refine⟨D,_,rfl,SqL.of hd,?_⟩
    rw[d5h]
    exact q H2 ss
theorem c7m (T:Tx K mg):a3y P w K mg base CX0 4 T.a9f T.a9a ["past","order","levels"] (c9r (cO T)):=by
 refine T.b3k.ok a4s (fun vs H Q E h=>?_) (fun cdv A outer s H vs Q E hr h=>?_)
 ·obtain⟨v,o,e,p,wo,ys,os,rfl,_⟩:=h
  rfl
 ·obtain⟨v,o,e,p,wo,ys,os,rfl,tr,gp,gm,lh,ho,hn,hz,hin,q⟩:=h
  have hu:=a8v hr
  refine⟨_,(a0e (a0n (i:=3) a4s.nd rfl (Or.inl rfl) (a2y (a6y (K:=K) rfl rfl) (by rfl) T.b5a boot_dict (a0a (a3p ["deal"] rfl (a3b.mk (fv:=[]) (js:=[]) rfl (by decide +kernel) (by decide +kernel) (by decide +kernel) a2l rfl (by decide +kernel)) (a1r (a0o a0z (pv 0) a0c (fun _ _=>rfl))) (fun _ _ _ _ _=>(a0i (i:=0) (show (["deal"]:List Str).Nodup by decide +kernel) rfl (Or.inl rfl))) (fun _ _ _ _ _=>b0j) (fun _ _ _ _ _=>(a2f (a0a (a0o (a2g (K:=K) rfl) (pv 0) a0c (fun _ _=>rfl)) (a0a (pv 0) a0d))))) a0d)))
   (a0e (a0n (i:=4) a4s.nd rfl (Or.inl rfl) (a0l ((c2e T).mono (by decide)) hr rfl T.c0r T.b4m.kp T.b9m .nil a1m (a0a (pv 0) (a0a (pv 2) a0d))))
   (a0e (a0n (i:=5) a4s.nd rfl (Or.inr rfl) a6r)
   (a0e (a2o PassesOwn.never rfl (a1r (pv 1)) (a0i (i:=6) a4s.nd rfl (Or.inr rfl))
   (a0e (a0n (i:=7) a4s.nd rfl (Or.inl rfl) (a0l ((d3n T).mono (by decide)) hr rfl T.c7e T.c1j.kp T.c9b .nil a1m (a0a (a1d hu (pv 3) (a0o a0z (pv 6) a0c (fun _ _=>rfl)) (fun _ _=>rfl)) (a0a (a1d hu (pv 2) (a0o a0z (pv 6) a0c (fun _ _=>rfl)) (fun _ _=>rfl)) (a0a (a0o a0z (pv 6) a0c (fun _ _=>rfl)) a0d)))))
   (a0e (a3n (c7l (b8u (a1b (c8v rfl) (by rfl) T.d4x boot_all (a0a (a3p ["look"] rfl (a3b.mk (fv:=["makers"]) (js:=[5]) rfl (by decide +kernel) (by decide +kernel) (by decide +kernel) (a1q (Or.inl rfl) a2l) rfl (by decide +kernel)) (a1r (pv 7)) (fun _ _ _ _ _=>(a0i (i:=0) (show (["look","makers"]:List Str).Nodup by decide +kernel) rfl (Or.inl rfl))) (fun _ _ _ _ _=>b0j) (fun _ _ _ _ _=>(a0l ((e2e T).mono (by decide)) hr rfl T.d8l T.c9x.kp T.d4o .nil a1m (a0a (pv 0) (a0a (pv 1) a0d))))) a0d))))
   (a0g (a0s b2m))
   a1a)
   (a0g (a3n (a0t (e7b hr.units) (pv 6) (a1d hu (pv 4) (a0o a0z (pv 6) a0c (fun _ _=>rfl)) (fun _ _=>rfl)) (a0x _))
   (a0g (a5t (e0a (K:=K) rfl rfl (pv 5) (a3p ["made"] rfl (a3b.mk (fv:=["spot"]) (js:=[6]) rfl (by decide +kernel) (by decide +kernel) (by decide +kernel) (a1q (Or.inl rfl) a2l) rfl (by decide +kernel)) (a1r (a0o a0z (pv 0) a0c (fun _ _=>rfl))) (fun _ _ _ _ _=>(a0i (i:=0) (show (["made","spot"]:List Str).Nodup by decide +kernel) rfl (Or.inl rfl))) (fun _ _ _ _ _=>(c8d (a0t (d3z (K:=K) rfl) (a0o (a2g (K:=K) rfl) (pv 1) a0c (fun _ _=>rfl)) (a0o (a2g (K:=K) rfl) (pv 0) a0c (fun _ _=>rfl)) rfl))) (fun _ _ _ _ _=>(a2f (a0a (a0o (a2g (K:=K) rfl) (pv 0) a0c (fun _ _=>rfl)) (a0a (a0o (a2g (K:=K) rfl) (pv 1) a0c (fun _ _=>rfl)) a0d))))) ⟨rfl,rfl,rfl,rfl⟩)))
   a1a)))))
   (a0g (a0s b2m)))))),?_⟩
  obtain⟨l8,nn,gd⟩:=id gp
  have z9:(2000000:Nat)≤sizeLine:=by decide
  obtain⟨a,l,m,lv,mv,rfl,ha,hl,tl,hm,tm⟩:=a6f tr
  have hyl:=a5n hn
  have hlv:lv.length=p.1.length:=by rw[tl.len,List.length_map]
  have hzl:(p.1.zip lv).length=p.1.length:=by rw[List.length_zip,hlv,Nat.min_self]
  refine⟨_,rfl,a,_,_,_,rfl,rfl,SqT.of ha,rfl,l,rfl,⟨_,SqL.of hl⟩,c6n (k:=1) (fs:=[]) (fun H v (b:Dl×V)=>∃ t,v=.ref t∧H t=some (.tup [.int b.1.1,b.2])) (fun H v (b:Dl×V)=>v=b.2∧Tr H v (a2h b.1)) (p.1.zip lv) some (fun H H' y b kn ⟨t,e,ht⟩=>⟨t,e,kn _ _ (fun _ z=>by cases z) ht⟩) (fun _ _ _ _ ss z=>⟨z.1,z.2.same ss⟩) rfl hl (c2q tl) (by omega) (fun d hd H2 ts v R ss hts trd cont _=>?_) fun D H2 ws hD s2 h2 pp=>?_⟩
  ·obtain⟨t,rfl⟩:=List.length_eq_one_iff.mp hts
   obtain⟨ev,trd⟩:=trd
   obtain⟨pd,L,lkv,rfl,hpd,_,_⟩:=a7n trd
   exact⟨_,rfl,pd,_,_,_,rfl,rfl,SqT.of hpd,rfl,_,rfl,(by show 2≤sizeLine;decide),fun t ht=>cont d _ [_] _ rfl rfl (Same.upd ht) ⟨t,rfl,by rw[a0b,←ev]⟩⟩
  rw[List.filterMap_some] at pp
  have hkl:(a6j p.1 lv).length=p.1.length:=by unfold a6j;rw[List.length_map,hzl]
  refine⟨D,ws,a6j p.1 lv,rfl,h2,c6v pp,(by omega),fun dd hdd=>?_⟩
  have e0:a5v [] (a6j p.1 lv)=a6j p.1 lv:=by
   rw[b0w _ [] (by rw[List.nil_append,b6s hlv];exact d1o nn)]
   rfl
  rw[e0]
  have sd:=s2.trans (Same.upd (o:=HO.dK (a6j p.1 lv)) hdd)
  have hd3:upd H2 dd (.dK (a6j p.1 lv)) dd=some (.dK (a6j p.1 lv)):=a0b
  generalize upd H2 dd (.dK (a6j p.1 lv))=H3 at sd hd3 ⊢
  refine⟨_,rfl,_,rfl,.ref a,e,p,wo,rfl,tr.same sd,gp,lh.same sd,fun kp H4 s4 hkp=>?_⟩
  have sH4:=sd.trans s4
  have hd4:=s4 _ _ hd3
  intro mk hmk
  have s5:=Same.upd (o:=HO.dK []) hmk
  have kmk:∀ {H5:Hp},Same H4 H5→Same H H5:=fun ss=>sH4.trans ss
  refine⟨_,rfl,o,rfl,⟨_,SqL.of (kmk s5 _ _ ho)⟩,a4e (K:=K) (a:=o) (xs:=ys) (fun i σ H5=>Same H4 H5∧∃ (x6 x7:Option V) (c:Int→Option Int),σ=[some (.ref a),some (.ref o),some (.ref e),some (.ref dd),some (.ref kp),some (.ref mk),x6,x7]∧e6y H5 mk (100*i) c∧b3j wo p (fun _=>none) os=b3j wo p c (os.drop i)) ⟨s5,none,none,_,rfl,⟨[],a0b,Nat.le_refl _,fun k=>rfl⟩,rfl⟩ (fun i σ H5 _ ⟨ss,_⟩=>SqL.of (kmk ss _ _ ho)) ?_ ?_⟩
  ·rintro i y σ H5 hy ⟨ss,x6,x7,c,rfl,hcur,hf⟩
   have hi:i < ys.length:=(List.getElem?_eq_some_iff.mp hy).1
   obtain⟨np,hnp,cc,rfl,hcc⟩:=a1w hn hy
   have hdr:os.drop i=np::os.drop (i+1):=by rw[List.drop_eq_getElem_cons (List.getElem?_eq_some_iff.mp hnp).1,(List.getElem?_eq_some_iff.mp hnp).2]
   obtain⟨d,hdm,hdn⟩:=hin np (List.mem_of_getElem? hnp)
   have hdl:c6e p np.1=some d:=by rw[←hdn];exact b3i nn hdm
   have hfs:b3j wo p c (np::os.drop (i+1))=if (a3j wo d np.2).all (b0l c)=true then b3j wo p (a9k wo p d np.2 c) (os.drop (i+1)) else false:=by
    show (match c6e p np.1 with | some d=>if (a3j wo d np.2).all (b0l c)=true then b3j wo p (a9k wo p d np.2 c) (os.drop (i+1)) else false | none=>false)=_
    rw[hdl]
   rw[hdr,hfs] at hf
   have sH5:=kmk ss
   have hcc5:=sH5 _ _ hcc
   obtain⟨vd,hvd,tvd⟩:=d4b tl nn hdm
   obtain⟨lkvs,hlk,vlk⟩:=lh.same sH5
   obtain⟨x,dx,vx,hx⟩:=vlk d hdm
   obtain⟨kkvs,hkk,vkk⟩:=hkp.same ss
   obtain⟨vk,hvk,nvk⟩:=vkk d hdm
   rw[hdn] at hvd vx hvk
   refine⟨_,rfl,_,rfl,cc,_,_,_,rfl,rfl,SqT.of hcc5,a0k (j:=0) rfl,dd,vd,rfl,.inl ⟨_,.inl np.1,.inl (ss _ _ hd4),rfl,hvd.symm⟩,_,rfl,_,rfl,cc,_,_,_,rfl,rfl,SqT.of hcc5,a0k (j:=0) rfl,e,.ref x,rfl,.inl ⟨_,.inl np.1,.inl hlk,rfl,vx.symm⟩,_,rfl,cc,_,_,_,rfl,rfl,SqT.of hcc5,a0k (j:=1) rfl,vd,x,np.2,d,wo,dx,rfl,tvd.same sH5,hx,(gd d hdm).2,fun D6 H6 ys6 hD6 s6 hd6 t6=>?_⟩
   have hlen6:(a3j wo d np.2).length≤40:=by
    unfold a3j
    refine Nat.le_trans (List.length_filterMap_le _ _) ?_
    rw[List.length_range]
    exact(gd d hdm).2
   have hsub:∀ lk∈a3j wo d np.2,lk∈d.2.2:=fun lk hlk'=>by
    unfold a3j at hlk'
    obtain⟨j,_,e2⟩:=List.mem_filterMap.mp hlk'
    split at e2
    ·exact List.mem_of_getElem? e2
    ·cases e2
   have hcur6:=hcur.same s6
   refine⟨_,rfl,D6,rfl,⟨_,SqL.of hd6⟩,e3t (k:=1) (fs:=[some (.ref mk)]) (a3j wo d np.2) a6n (fun lk=>some (.bl (b0l c lk))) rfl hd6 t6 (by omega) (fun lk hlk' H7 ts v R s7 hts tr7 cont=>?_) fun D7 H7 hD7 s7 hd7=>?_⟩
   ·obtain⟨t,rfl⟩:=List.length_eq_one_iff.mp hts
    exact⟨_,rfl,_,rfl,v,mk,lk,_,c,rfl,tr7,gm.2.2 d hdm lk (hsub lk hlk'),hcur6.same s7,fun H8 s8=>cont [_] H8 rfl s8⟩
   rw[d6r] at hd7
   refine⟨D7,_,rfl,SqL.of hd7,_,rfl,?_⟩
   rw[d5h]
   have s57:=s6.trans s7
   have s47:=ss.trans s57
   by_cases hall:(a3j wo d np.2).all (b0l c)=true
   ·rw[hall]
    rw[if_pos hall] at hf
    refine b5k ?_
    have hnk:=NdV.sm s57 nvk
    have hcc7:=s57 _ _ hcc5
    refine⟨_,rfl,_,rfl,_,rfl,cc,_,_,_,rfl,rfl,SqT.of hcc7,a0k (j:=0) rfl,kp,vk,rfl,.inl ⟨_,.inl np.1,.inl (s57 _ _ hkk),rfl,hvk.symm⟩,_,_,e3o ⟨cc,rfl,hcc7⟩,e3o hnk,rfl,rfl,_,rfl,?_⟩
    rw[e8a]
    have e1:((d.1,np.2)=a5i wo d) ↔ (np=a5i wo d):=by rw[hdn]
    refine b0n (fun ye=>?_) (fun ye=>?_)
    ·have yk:np=a5i wo d:=of_decide_eq_true ye
     obtain⟨kvs,hm7,hkv,hval⟩:=hcur.same s57
     refine⟨_,rfl,mk,rfl,.inl ⟨_,.inl hm7⟩,_,rfl,a,_,_,_,rfl,rfl,SqT.of (kmk s47 _ _ ha),rfl,m,rfl,⟨_,SqL.of (kmk s47 _ _ hm)⟩,c6n (k:=1) (fs:=[some (.ref cc)]) (fun H v (r:Mkr)=>∃ b,v=.ref b∧H b=some (.tup [.int r.1,.int np.1])) (fun H v r=>Tr H v (a4t r)) p.2 (fun r=>if decide (np.1∈r.2)=true then some r else none) (fun H H' y b kn ⟨t,e,ht⟩=>⟨t,e,kn _ _ (fun _ z=>by cases z) ht⟩) (fun _ _ _ _ ss z=>z.same ss) rfl (kmk s47 _ _ hm) (a8p (tm.same (kmk s47))) (by have:=gm.1;omega) (fun r hr' H8 ts v R s8 hts tr8 cs cn=>?_) fun D8 H8 ws8 hD8 s8 hd8 pp8=>?_⟩
     ·obtain⟨t,rfl⟩:=List.length_eq_one_iff.mp hts
      obtain⟨b,lb,rfl,hb,hlb⟩:=b9e tr8
      have hcc8:=s8 _ _ hcc7
      refine⟨_,rfl,cc,_,_,_,rfl,rfl,SqT.of hcc8,a0k (j:=0) rfl,_,rfl,b,_,_,_,rfl,rfl,SqT.of hb,a0k (j:=1) rfl,lb,_,rfl,.inl (SqL.of hlb),rfl,d5o _,_,rfl,?_⟩
      rw[d2a]
      refine b0n (fun yi=>?_) (fun yi=>?_)
      ·have hi2:np.1∈r.2:=by simpa using yi
       exact⟨_,rfl,b,_,_,_,rfl,rfl,SqT.of hb,a0k (j:=0) rfl,_,rfl,cc,_,_,_,rfl,rfl,SqT.of hcc8,a0k (j:=0) rfl,(by show 2≤sizeLine;decide),fun t ht=>cs r _ [_] _ (if_pos (decide_eq_true hi2)) rfl (Same.upd ht) ⟨t,rfl,a0b⟩⟩
      ·exact cn (if_neg (fun z=>yi (by simpa using z))) [_] _ rfl (Same.refl _)
     ·rw[c9k] at pp8
      have hfl:(p.2.filter fun r=>decide (np.1∈r.2)).length≤100:=Nat.le_trans (List.length_filter_le _ _) gm.1
      refine⟨D8,ws8,kvs,_,rfl,s8 _ _ hm7,hd8,c9c pp8,(by rw[List.length_map];omega),?_⟩
      refine⟨fun b o eb=>by rw[a0h (fun z=>by rw[z,hmk] at eb;cases eb)];exact s8 _ _ (s47 _ _ eb),_,_,a9k wo p d np.2 c,rfl,⟨_,a0b,Nat.le_trans (a9u _ _) (by rw[List.length_map];omega),fun k=>?_⟩,hf⟩
      rw[c2y,d3u,hval]
      unfold a9k
      rw[if_pos (e1.mpr yk)]
      rw[hdn]
      split<;>rfl
    ·have yk:¬ np=a5i wo d:=fun z=>ye (decide_eq_true z)
     have ek:a9k wo p d np.2 c=c:=by unfold a9k;rw[if_neg (fun z=>yk (e1.mp z))]
     rw[ek] at hf
     obtain⟨kvs,hm7,hkv,hval⟩:=hcur.same s57
     exact⟨s47,_,_,c,rfl,⟨kvs,hm7,by omega,hval⟩,hf⟩
   ·rw[Bool.eq_false_iff.mpr hall]
    rw[if_neg hall] at hf
    refine c7i ?_
    have q:=q H7 (kmk s47)
    rw[hf] at q
    exact q
  ·rintro σ H5 ⟨ss,x6,x7,c,rfl,hcur,hf⟩
   rw[hyl,List.drop_length] at hf
   have q:=q H5 (kmk ss)
   rw[hf] at q
   exact q
theorem c1n (T:Tx K mg):a3y P w K mg base CX0 4 T.a6s T.a6x ["past","order","levels"] (d5q (cO T)):=by
 refine T.a9b.ok a3m (fun vs H Q E h=>?_) (fun cdv A outer s H vs Q E hr h=>?_)
 ·obtain⟨v,o,e,p,wo,ys,os,rfl,_⟩:=h
  rfl
 ·obtain⟨v,o,e,p,wo,ys,os,rfl,tr,gp,gm,lh,ho,hn,hz,hin,hmk,q⟩:=h
  have hu:=a8v hr
  refine⟨_,(a0e (a0n (i:=3) a3m.nd rfl (Or.inl rfl) (a0l ((c2e T).mono (by decide)) hr rfl T.c0r T.b4m.kp T.b9m .nil a1m (a0a (pv 0) (a0a (pv 2) a0d))))
   (a0e (a0n (i:=4) a3m.nd rfl (Or.inl rfl) (a0l ((d1c T).mono (by decide)) hr rfl T.c2z T.b5t.kp T.c2r .nil a1m (a0a (pv 0) (a0a (pv 2) a0d))))
   (a0e (a2o PassesOwn.never rfl (a1r (a0o a0z (pv 0) a0c (fun _ _=>rfl))) (a0i (i:=5) a3m.nd rfl (Or.inl rfl))
   (a0g (a2o PassesOwn.never rfl (e8w rfl T.e1v (a0a (a0o a0z (pv 5) a0c (fun _ _=>rfl)) (a0a (a6u a9w (a0o a0z (pv 5) a0c (fun _ _=>rfl)) (a9t a0c) a9h) a0d))) (b0k rfl (a0u (a0i (i:=6) a3m.nd rfl (Or.inl rfl)) (a0u (a0i (i:=7) a3m.nd rfl (Or.inl rfl)) a4o)))
   (a0g (a3n (a0t e5x (b7c PySem.F.plainAttrs_list PySem.F.slot_list_index PySem.F.type_list_index (c8y (u16 hr.units) rfl) (pv 1) (a0a (a1d hu (pv 3) (pv 6) (fun _ _=>rfl)) a0d)) (b7c PySem.F.plainAttrs_list PySem.F.slot_list_index PySem.F.type_list_index (c8y (u16 hr.units) rfl) (pv 1) (a0a (a1d hu (pv 4) (pv 7) (fun _ _=>rfl)) a0d)) (a0x _))
   (a0g (a0s b2m))
   a1a)))))
   (a0g (a0s b2m))))),?_⟩
  obtain⟨l8,nn,gd⟩:=id gp
  have z9:(2000:Nat)≤sizeLine:=by decide
  obtain⟨a,l,m,lv,mv,rfl,ha,hl,tl,hm,tm⟩:=a6f tr
  have hml:mv.length=p.2.length:=by rw[tm.len,List.length_map]
  refine⟨_,rfl,_,rfl,.ref a,e,p,wo,rfl,tr,gp,lh,fun kp H1 s1 hkp=>?_⟩
  refine⟨_,rfl,_,rfl,.ref a,e,p,wo,rfl,tr.same s1,gp,lh.same s1,fun fp H2 s2 hfp=>?_⟩
  have s12:=s1.trans s2
  have hkp2:=hkp.same s2
  have hfb:b0a wo p os=p.2.all fun r=>nbB (d1f wo p os) (d0d wo p os) r.2:=rfl
  refine⟨_,rfl,a,_,_,_,rfl,rfl,SqT.of (s12 _ _ ha),rfl,m,rfl,⟨_,SqL.of (s12 _ _ hm)⟩,a4e (K:=K) (a:=m) (xs:=mv) (fun i σ H3=>Same H2 H3∧∃ (x5 x6 x7:Option V),σ=[some (.ref a),some (.ref o),some (.ref e),some (.ref kp),some (.ref fp),x5,x6,x7]∧b0a wo p os=(p.2.drop i).all fun r=>nbB (d1f wo p os) (d0d wo p os) r.2) ⟨Same.refl _,none,none,none,rfl,hfb⟩ (fun i σ H3 _ ⟨ss,_⟩=>SqL.of (ss _ _ (s12 _ _ hm))) ?_ ?_⟩
  ·rintro i y σ H3 hy ⟨ss,x5,x6,x7,rfl,hf⟩
   have hi:i < mv.length:=(List.getElem?_eq_some_iff.mp hy).1
   obtain⟨dd,edd,trm⟩:=tm.get hy
   rw[List.getElem?_map] at edd
   obtain⟨r,hr',rfl⟩:=Option.map_eq_some_iff.mp edd
   have hrm:r∈p.2:=List.mem_of_getElem? hr'
   obtain⟨b,lb,rfl,hb,hlb⟩:=b9e trm
   have hdr:p.2.drop i=r::p.2.drop (i+1):=by rw[List.drop_eq_getElem_cons (List.getElem?_eq_some_iff.mp hr').1,(List.getElem?_eq_some_iff.mp hr').2]
   rw[hdr,List.all_cons] at hf
   have sH3:=s12.trans ss
   have hb3:=sH3 _ _ hb
   have hlb3:=sH3 _ _ hlb
   refine⟨_,rfl,b,_,_,_,rfl,rfl,SqT.of hb3,a0k (j:=1) rfl,_,rfl,b,_,_,_,rfl,rfl,SqT.of hb3,a0k (j:=1) rfl,_,rfl,lb,_,rfl,SqL.of hlb3,fun sp hsp=>?_⟩
   rw[e5g,←List.map_drop]
   have ssp:=Same.upd (o:=HO.lst ((r.2.drop 1).map V.int)) hsp
   have hsp4:=a0b (H:=H3) (a:=sp) (o:=HO.lst ((r.2.drop 1).map V.int))
   generalize upd H3 sp (.lst ((r.2.drop 1).map V.int))=H4 at ssp hsp4 ⊢
   refine⟨_,_,_,_,rfl,.list (SqL.of (ssp _ _ hlb3)),.list (SqL.of hsp4),e5n (xs:=r.2.map V.int) (ys:=(r.2.drop 1).map V.int) (fun j σ H5=>Same H4 H5∧∃ (x6 x7:Option V),σ=[some (.ref a),some (.ref o),some (.ref e),some (.ref kp),some (.ref fp),some (.ref b),x6,x7]∧nbB (d1f wo p os) (d0d wo p os) r.2=nbB (d1f wo p os) (d0d wo p os) (r.2.drop j)) ⟨Same.refl _,x6,x7,rfl,rfl⟩ (fun j σ H5 ⟨s5,_⟩=>⟨a2j (SqL.of (s5 _ _ (ssp _ _ hlb3))),a2j (SqL.of (s5 _ _ hsp4))⟩) ?_ ?_⟩
   ·rintro j x y σ H5 t hx hy ⟨s5,x6,x7,rfl,hnb⟩ ht
    rw[List.getElem?_map] at hx hy
    obtain⟨x1,hx1,rfl⟩:=Option.map_eq_some_iff.mp hx
    obtain⟨y1,hy1,rfl⟩:=Option.map_eq_some_iff.mp hy
    rw[List.getElem?_drop,Nat.add_comm] at hy1
    have hd1:r.2.drop j=x1::r.2.drop (j+1):=by rw[List.drop_eq_getElem_cons (List.getElem?_eq_some_iff.mp hx1).1,(List.getElem?_eq_some_iff.mp hx1).2]
    have hd2:r.2.drop (j+1)=y1::r.2.drop (j+1+1):=by rw[List.drop_eq_getElem_cons (List.getElem?_eq_some_iff.mp hy1).1,(List.getElem?_eq_some_iff.mp hy1).2]
    have st:=Same.upd (o:=HO.tup [.int x1,.int y1]) ht
    have s6:=s5.trans st
    have sA:=ss.trans (ssp.trans s6)
    obtain⟨kkvs,hkk,vkk⟩:=hkp2.same sA
    obtain⟨fkvs,hff,vff⟩:=hfp.same sA
    obtain⟨d1,v1,hd1m,e1,hv1,n1⟩:=d2n vkk (hmk r hrm x1 (List.mem_of_getElem? hx1))
    obtain⟨d2,v2,hd2m,e2,hv2,n2⟩:=d2n vff (hmk r hrm y1 (List.mem_of_getElem? hy1))
    have sHA:=s12.trans sA
    have hn5:=a5l sHA hn
    have ho5:=sHA _ _ ho
    have p1:d1f wo p os x1=os.idxOf (a5i wo d1):=by
     unfold d1f
     rw[←e1,b3i nn hd1m]
    have p2:d0d wo p os y1=os.idxOf (a5k wo d2):=by
     unfold d0d
     rw[←e2,b3i nn hd2m]
    refine⟨t,_,rfl,SqT.of a0b,rfl,_,_,rfl,_,_,rfl,rfl,?_⟩
    refine⟨_,rfl,.inl ⟨rfl,_,SqL.of ho5⟩,_,rfl,_,rfl,kp,v1,rfl,.inl ⟨_,.inl x1,.inl hkk,rfl,hv1.symm⟩,o,ys,os,v1,a5i wo d1,rfl,rfl,SqL.of ho5,hn5,n1,hz,(hin d1 hd1m).1,?_⟩
    refine⟨_,rfl,.inl ⟨rfl,_,SqL.of ho5⟩,_,rfl,_,rfl,fp,v2,rfl,.inl ⟨_,.inl y1,.inl hff,rfl,hv2.symm⟩,o,ys,os,v2,a5k wo d2,rfl,rfl,SqL.of ho5,hn5,n2,hz,(hin d2 hd2m).2,?_⟩
    have hnb2:nbB (d1f wo p os) (d0d wo p os) (r.2.drop j)=if d0d wo p os y1≤d1f wo p os x1 then false else nbB (d1f wo p os) (d0d wo p os) (r.2.drop (j+1)):=by
     rw[hd1,hd2]
     rfl
    rw[hnb2,p1,p2] at hnb
    refine⟨_,_,rfl,rfl,_,rfl,b0n (fun ye=>?_) (fun ye=>?_)⟩
    ·have ye':=of_decide_eq_true ye
     rw[if_pos (by omega)] at hnb
     have q:=q _ sHA
     rw[hf,hnb,Bool.false_and] at q
     exact q
    ·have ye':¬ (os.idxOf (a5k wo d2)≤os.idxOf (a5i wo d1)):=fun z=>ye (decide_eq_true (by omega))
     rw[if_neg ye'] at hnb
     exact⟨s6,_,_,rfl,hnb⟩
   ·rintro σ H5 ⟨s5,x6,x7,rfl,hnb⟩
    have:nbB (d1f wo p os) (d0d wo p os) r.2=true:=by
     rw[hnb]
     refine e8b ?_
     rw[List.length_drop,List.length_map,List.length_map,List.length_drop]
     omega
    rw[this,Bool.true_and] at hf
    exact⟨ss.trans (ssp.trans s5),_,_,_,rfl,hf⟩
  ·rintro σ H3 ⟨ss,x5,x6,x7,rfl,hf⟩
   rw[hml,List.drop_length] at hf
   have q:=q H3 (s12.trans ss)
   rw[hf] at q
   exact q
--@STAGE
def kN2 (n:Nk):List Key:=[.inl n.1,.inl n.2]
def c7x (w:Option Str) (p:Ps) (os:List Nk):Prop:=os.Perm (p.1.flatMap (a1u w))∧b0o (fun _=>0) os=true∧b3j w p (fun _=>none) os=true∧b0a w p os=true
def c9y (p:Ps):Prop:=(p.1.map (·.1)).Pairwise (· < ·)
def e6k (p:Ps):Prop:=∀ r∈p.2,∀ x∈r.2,∃ d∈p.1,d.1=x
def d7r (cls:Lv→Addr) (N:Addr):Sp:=fun vs H Q E=>∃ (v:V) (o:Addr) (p:Ps) (w:Option Str) (ys:List V) (os:List Nk),vs=[v,.ref o,wV w]∧Tr H v (a3r p)∧c5l p∧d3d p∧c9y p∧e6k p∧H o=some (.lst ys)∧Nds H ys os∧os.length < 64∧(∀ x,w=some x→d4z x)∧((∀ x,w=some x→x∈wds)→∀ (b:Bool) H',Same H H'→(b=true ↔ c7x w p os)→Q (.bl b) H')∧(∀ x,w=some x→x ∉ wds→∀ H',Same H H'→E (.ref N) none H')
def cd0:Key→Int
 | .inl i=>i
 | .inr _=>0
theorem d5n {cd:Key→Int}:∀ {js ls:List (List Key)},js.Perm ls→(∀ a∈js,∀ b∈js,a.map cd=b.map cd→a=b)→js.Pairwise (fun a b=>b3e (b.map cd) (a.map cd)=false)→ls.Pairwise (fun a b=>b3e (b.map cd) (a.map cd)=false)→js=ls:=by
 intro js
 induction js with
 | nil=>intro ls p _ _ _;exact(List.Perm.nil_eq p)
 | cons a r ih =>
  intro ls p hj h1 h2
  match ls,p,h2 with
  | [],p,_=>exact absurd p.length_eq (by simp)
  | b::t,p,h2 =>
   obtain⟨a1,a2⟩:=List.pairwise_cons.mp h1
   obtain⟨b1,b2⟩:=List.pairwise_cons.mp h2
   have e:a=b:=by
    rcases List.mem_cons.mp (p.mem_iff.mp (.head _):a∈b::t) with e | ha
    ·exact e
    ·rcases List.mem_cons.mp (p.mem_iff.mpr (.head _):b∈a::r) with e | hb
     ·exact e.symm
     ·have l1:=a1 b hb
      have l2:=b1 a ha
      by_cases q:a.map cd=b.map cd
      ·exact hj a (.head _) b (.tail _ hb) q
      ·have:=c3y _ _ q l2
       rw[l1] at this
       cases this
   subst e
   rw[ih (List.Perm.cons_inv p) (fun x hx y hy=>hj x (.tail _ hx) y (.tail _ hy)) a2 b2]
theorem d0z {a b:Nk} (h:(kN2 a).map cd0=(kN2 b).map cd0):a=b:=by
 have h':[a.1,a.2]=[b.1,b.2]:=h
 injection h' with h1 h2
 injection h2 with h2 _
 exact Prod.ext h1 h2
def f1i (a b:Nk):Prop:=a.1 < b.1∨(a.1=b.1∧a.2 < b.2)
theorem e2b {a b:Nk} (h:f1i a b):b3e ((kN2 b).map cd0) ((kN2 a).map cd0)=false:=by
 show (if b.1=a.1 then (if b.2=a.2 then b3e [] [] else decide (b.2 < a.2)) else decide (b.1 < a.1))=false
 rcases h with h | ⟨h1,h2⟩
 ·rw[if_neg (by omega)]
  exact decide_eq_false (by omega)
 ·rw[if_pos h1.symm,if_neg (by omega)]
  exact decide_eq_false (by omega)
theorem b5x {w:Option Str}:∀ {ds:List Dl},(ds.map (·.1)).Pairwise (· < ·)→(ds.flatMap (a1u w)).Pairwise f1i
 | [],_=>.nil
 | d::r,h=>by
  obtain⟨h1,h2⟩:=List.pairwise_cons.mp h
  rw[List.flatMap_cons]
  refine List.pairwise_append.mpr ⟨?_,b5x h2,fun x hx y hy=>?_⟩
  ·unfold a1u
   exact List.pairwise_map.mpr (List.pairwise_lt_range.imp fun {i j} hij=>.inr ⟨rfl,by show (i:Int) < (j:Int);omega⟩)
  ·obtain⟨e,he,hy⟩:=List.mem_flatMap.mp hy
   unfold a1u at hx hy
   obtain⟨i,_,rfl⟩:=List.mem_map.mp hx
   obtain⟨j,_,rfl⟩:=List.mem_map.mp hy
   exact .inl (h1 e.1 (List.mem_map.mpr ⟨e,he,rfl⟩))
theorem d5c {H:Hp}:∀ {ys:List V} {ns:List Nk},Nds H ys ns→Paired (TkV H) ys (ns.map kN2)
 | _,_,.nil=>.nil
 | _,_,.cons ⟨p,e,hp⟩ t=>.cons ⟨p,e,hp⟩ (d5c t)
theorem d7h {H:Hp}:∀ {ys:List V} {ns:List Nk},Paired (TkV H) ys (ns.map kN2)→Nds H ys ns
 | _,[],h=>by cases h;exact .nil
 | _,n::r,h=>by
  cases h with
  | cons h t =>
   obtain⟨p,e,hp⟩:=h
   exact .cons ⟨p,e,hp⟩ (d7h t)
theorem d7j (ns:List Nk):e9c cd0 (ns.map kN2):=by
 refine⟨fun k hk l hl=>?_,fun k hk e=>?_⟩
 ·obtain⟨a,_,rfl⟩:=List.mem_map.mp hk
  obtain⟨b,_,rfl⟩:=List.mem_map.mp hl
  exact⟨⟨rfl,rfl⟩,⟨rfl,rfl⟩,trivial⟩
 ·obtain⟨a,_,rfl⟩:=List.mem_map.mp hk
  cases e
theorem e2z:∀ (a b:List Nk),PyData.eqv (.list (a.map dN)) (.list (b.map dN))=decide (a=b)
 | [],[]=>rfl
 | [],_::_=>rfl
 | _::_,[]=>rfl
 | x::r,y::t=>by
  have ih:=e2z r t
  show (PyData.eqv (dN x) (dN y) && PyData.eqv (.list (r.map dN)) (.list (t.map dN)))=_
  rw[ih,e8a]
  by_cases h:x=y
  ·by_cases h2:r=t
   ·rw[h,h2];simp
   ·rw[decide_eq_false h2,Bool.and_false,decide_eq_false (fun z=>h2 (by injection z))]
  ·rw[decide_eq_false h,Bool.false_and,decide_eq_false (fun z=>h (by injection z))]
theorem b4v (w:Option Str) {d:Dl}:a5i w d∈a1u w d∧a5k w d∈a1u w d:=by
 have hk:∀ z:Int,0≤z→z < a5b (lvD w d) (d.2.2.length:Int)→(d.1,z)∈a1u w d:=fun z h0 h1=>by
  unfold a1u
  exact List.mem_map.mpr ⟨z.toNat,List.mem_range.mpr (by omega),by rw[Int.toNat_of_nonneg h0]⟩
 unfold a5i a5k
 have hpos:1≤a5b (lvD w d) (d.2.2.length:Int)∧0≤c2n (lvD w d) (d.2.2.length:Int)∧c2n (lvD w d) (d.2.2.length:Int) < a5b (lvD w d) (d.2.2.length:Int):=by
  generalize lvD w d=lv0
  cases lv0<;>simp only [a5b,c2n]<;>omega
 exact⟨hk _ (by omega) (by omega),hk _ hpos.2.1 hpos.2.2⟩
theorem b2j (T:Tx K mg):a3y P w K mg base (CXW P w) 5 T.b3x T.b1c ["past","order","word"] (d7r (cO T) T.a6g):=by
 refine d3b T.a8y c2j (fun vs H Q E h=>?_) (fun cdv A outer s H vs Q E hr h=>?_)
 ·obtain⟨v,o,p,wo,ys,os,rfl,_⟩:=h
  rfl
 ·obtain⟨v,o,p,wo,ys,os,rfl,tr,gp,gm,rise,inm,ho,hn,hz6,fw,qy,qn⟩:=h
  have hz:os.length≤1000:=by omega
  have hyl6:=a5n hn
  have hu:=a8v hr
  refine⟨_,(a0e (a0n (i:=3) c2j.nd rfl (Or.inl rfl) (a0l ((c1b T).mono (by decide)) hr rfl T.b5y T.b2d.kp T.b6a .nil (e0i fun _ _ _ z=>z) (a0a (pv 0) (a0a (pv 2) a0d))))
   (a0e (a3n (PW.pt (d9f (a0t (c2k hr.units) (a1b c7w (by rfl) T.b8b boot_sorted (a0a (pv 1) a0d)) (a0l ((e1y T).mono (by decide)) hr rfl T.d5t T.d0n.kp T.d7w .nil (e0i fun _ _ _ z=>z) (a0a (pv 0) (a0a (pv 2) a0d))) (a0x _)) (d5p (c7l (b8u (a0l ((b7j T).mono (by decide)) hr rfl T.b1h T.a6z.kp T.b0t .nil a1m (a0a (pv 1) a0d)))))))
   (a0g (a0s b2m))
   a1a)
   (a0g (a0s (e3f (a0l ((c7m T).mono (by decide)) hr rfl T.c0k T.b3k.kp T.c0n .nil a1m (a0a (pv 0) (a0a (pv 1) (a0a (pv 3) a0d)))) (e3d (a0l ((c1n T).mono (by decide)) hr rfl T.b5i T.a9b.kp T.b3v .nil a1m (a0a (pv 0) (a0a (pv 1) (a0a (pv 3) a0d)))))))))),?_⟩
  by_cases hw:∀ x,wo=some x→x∈wds
  ·refine⟨_,rfl,_,rfl,v,p,wo,rfl,tr,gp,fw,fun _ e H1 s1 lh=>?_,fun x e' n=>absurd (hw x e') n⟩
   refine⟨_,rfl,o,ys,os.map kN2,cd0,rfl,SqL.of (s1 _ _ ho),d5c (a5l s1 hn),d7j os,(by omega),fun sp zs js hsp tz pm pw=>?_⟩
   obtain⟨ns,rfl⟩:∃ ns:List Nk,js=ns.map kN2:=by
    have:∀ l:List (List Key),(∀ k∈l,∃ n,k=kN2 n)→∃ ns:List Nk,l=ns.map kN2:=by
     intro l
     induction l with
     | nil=>intro _;exact⟨[],rfl⟩
     | cons k r ih =>
      intro h
      obtain⟨n,e1⟩:=h k (.head _)
      obtain⟨ns,e2⟩:=ih fun x hx=>h x (.tail _ hx)
      exact⟨n::ns,by rw[e1,e2];rfl⟩
    exact this js fun k hk=>by
     obtain⟨n,_,e1⟩:=List.mem_map.mp (pm.mem_iff.mp hk)
     exact⟨n,e1.symm⟩
   have su:=Same.upd (o:=HO.lst zs) hsp
   have s12:=s1.trans su
   refine⟨_,rfl,_,rfl,v,p,wo,rfl,tr.same s12,gp,fw,fun _ D H3 ws hD s3 hd3 nd3=>?_,fun x e' n=>absurd (hw x e') n⟩
   have sH3:=s12.trans s3
   have key:ns=p.1.flatMap (a1u wo) ↔ os.Perm (p.1.flatMap (a1u wo)):=by
    have pmn:ns.Perm os:=by
     have inj:∀ {a b:Nk},kN2 a=kN2 b→a=b:=fun {a b} h=>d0z (by rw[h])
     have h1:=pm.map (fun k:List Key=>match k with | [.inl x,.inl y]=>((x,y):Nk) | _=>(0,0))
     rw[List.map_map,List.map_map] at h1
     have e2:((fun k:List Key=>match k with | [.inl x,.inl y]=>((x,y):Nk) | _=>(0,0)) ∘ kN2)=id:=funext fun n=>rfl
     rw[e2,List.map_id,List.map_id] at h1
     exact h1
    constructor
    ·intro h
     rw[←h]
     exact pmn.symm
    ·intro h
     have hpw:((p.1.flatMap (a1u wo)).map kN2).Pairwise (fun a b=>b3e (b.map cd0) (a.map cd0)=false):=List.pairwise_map.mpr ((b5x rise).imp fun h=>e2b h)
     have:=d5n ((pmn.trans h).map kN2) (fun x hx y hy e=>by
      obtain⟨x',_,rfl⟩:=List.mem_map.mp hx
      obtain⟨y',_,rfl⟩:=List.mem_map.mp hy
      rw[d0z e]) pw hpw
     have e3:=congrArg (List.map (fun k:List Key=>match k with | [.inl x,.inl y]=>((x,y):Nk) | _=>(0,0))) this
     rw[List.map_map,List.map_map] at e3
     have e2:((fun k:List Key=>match k with | [.inl x,.inl y]=>((x,y):Nk) | _=>(0,0)) ∘ kN2)=id:=funext fun n=>rfl
     rw[e2,List.map_id,List.map_id] at e3
     exact e3
   have ndz:Nds H3 zs ns:=a5l s3 (a5l su (d7h tz))
   refine⟨_,_,.lst (SqL.of (s3 _ _ a0b)) (c0m ndz),.lst (SqL.of hd3) (c0m nd3),d1u _,d1u _,_,rfl,?_⟩
   rw[e2z]
   by_cases hp:os.Perm (p.1.flatMap (a1u wo))
   ·rw[decide_eq_true (key.mpr hp)]
    refine b5k ?_
    refine⟨_,rfl,o,ys,os,rfl,sH3 _ _ ho,a5l sH3 hn,hz,fun H4 s4=>⟨_,rfl,?_⟩⟩
    have sH4:=sH3.trans s4
    by_cases hc:b0o (fun _=>0) os=true
    ·rw[hc]
     refine b5k ?_
     have hin:∀ x∈os,∃ d∈p.1,d.1=x.1:=fun x hx=>by
      obtain⟨d,hd,h1⟩:=List.mem_flatMap.mp (hp.mem_iff.mp hx)
      unfold a1u at h1
      obtain⟨j,_,rfl⟩:=List.mem_map.mp h1
      exact⟨d,hd,rfl⟩
     have hkf:∀ d∈p.1,a5i wo d∈os∧a5k wo d∈os:=fun d hd=>⟨hp.mem_iff.mpr (List.mem_flatMap.mpr ⟨d,hd,(b4v wo).1⟩),hp.mem_iff.mpr (List.mem_flatMap.mpr ⟨d,hd,(b4v wo).2⟩)⟩
     have lh4:=(lh.same su).same (s3.trans s4)
     refine⟨_,rfl,_,rfl,_,rfl,v,o,e,p,wo,ys,os,rfl,tr.same sH4,gp,gm,lh4,sH4 _ _ ho,a5l sH4 hn,hz,hin,fun H5 s5=>⟨_,rfl,?_⟩⟩
     have sH5:=sH4.trans s5
     refine b0n (fun yf=>?_) (fun yf=>?_)
     ·refine⟨_,rfl,_,rfl,_,rfl,v,o,e,p,wo,ys,os,rfl,tr.same sH5,gp,gm,lh4.same s5,sH5 _ _ ho,a5l sH5 hn,hz,hkf,inm,fun H6 s6=>qy hw _ H6 (sH5.trans s6) ?_⟩
      exact⟨fun h=>⟨hp,hc,yf,h⟩,fun h=>h.2.2.2⟩
     ·refine qy hw false H5 sH5 ⟨(fun h=>by cases h),fun h=>absurd h.2.2.1 yf⟩
    ·rw[Bool.eq_false_iff.mpr hc]
     refine c7i ?_
     exact qy hw false H4 sH4 ⟨(fun h=>by cases h),fun h=>absurd h.2.1 hc⟩
   ·rw[decide_eq_false (fun z=>hp (key.mp z))]
    refine c7i ?_
    refine c7i ?_
    exact qy hw false H3 sH3 ⟨(fun h=>by cases h),fun h=>absurd h.1 hp⟩
  ·cases wo with
   | none=>exact absurd (fun x e=>by cases e) hw
   | some x =>
    have hx:x ∉ wds:=fun z=>hw fun y ey=>by cases ey;exact z
    exact⟨_,rfl,_,rfl,v,p,some x,rfl,tr,gp,fw,fun h=>absurd (h x rfl) hx,fun y ey n H' s'=>by cases ey;exact qn x rfl n H' s'⟩
--@STAGE
def a0q (w:Str) (l:Int):Int:=if w="kept" then l+1 else if w="make" then 2 else 1
def a3a (w:Str) (k:Int):Int:=if w="kept" then k else 0
def a1y (w:Str) (k:Int):Int:=if w="kept" then k else 0
def e4n:Sp:=fun vs H Q _=>∃ (w:Str) (l:Int),vs=[.str w,.int l]∧Q (.int (a0q w l)) H
def e5r:Sp:=fun vs H Q _=>∃ (w:Str) (l:Int),vs=[.str w,.int l]∧Q (.int (a3a w l)) H
def e5b:Sp:=fun vs H Q _=>∃ (w:Str) (l:Int),vs=[.str w,.int l]∧Q (.int (a1y w l)) H
def a2i (w:Option Str) (d:Dl):Str:=w.getD d.2.1
def d6w (H:Hp) (e:Addr) (w:Option Str) (ds:List Dl):Prop:=∃ kvs,Rd H e (.dK kvs)∧kvs.map (·.1)=ds.map (fun d=>Sum.inl d.1)∧∀ d∈ds,∃ t,a4a kvs (.inl d.1)=some (.ref t)∧H t=some (.tup [.str (a2i w d),.int (d.2.2.length:Int)])
def e6x:Sp:=fun vs H Q _=>∃ (v:V) (w:Option Str) (ds:List Dl),vs=[v,wV w]∧Tr H v (.list (ds.map a2h))∧ds.length≤8∧(ds.map (·.1)).Nodup∧∀ e H',Same H H'→d6w H' e w ds→Q (.ref e) H'
def a1l (os:List Nk) (q:Nk):Int:=(os.foldl (fun (s:Int×Int) x=>(s.1+1,if x=q then s.1 else s.2)) (0,-1)).2
def AtD (H:Hp) (t:Addr) (os:List Nk):Prop:=∃ kvs,H t=some (.dT kvs)∧kvs.length≤os.length∧∀ q,a4a kvs (kN2 q)=if a1l os q < 0 then none else some (.int (a1l os q))
def b0u (os:List Nk) (n:Int):Int→List Int→Bool
 | _,[]=>true
 | last,pl::t=>if a1l os (n,pl)≤last then false else b0u os n (a1l os (n,pl)) t
def b7k (w:Option Str) (d:Dl):List Int:=(List.range (a0q (a2i w d) (d.2.2.length:Int)).toNat).map fun (j:Nat)=>(j:Int)
def b3o (w:Option Str) (ds:List Dl) (os:List Nk):Bool:=(ds.all fun d=>b0u os d.1 (-1) (b7k w d)) && decide ((ds.map fun d=>a0q (a2i w d) (d.2.2.length:Int)).sum=(os.length:Int))
def d9y:Sp:=fun vs H Q _=>∃ (e o:Addr) (w:Option Str) (ds:List Dl) (ys:List V) (os:List Nk),vs=[.ref e,.ref o]∧d6w H e w ds∧(∀ d∈ds,d.2.2.length≤40)∧ds.length≤8∧H o=some (.lst ys)∧Nds H ys os∧os.length≤1000∧(b3o w ds os=false→∀ H',KF H H'→Q .non H')∧(b3o w ds os=true→∀ t H',KF H H'→AtD H' t os→Q (.ref t) H')
def KI (H:Hp) (e:Addr) (f:Int→Int) (ns:List Int):Prop:=∃ kvs,H e=some (.dK kvs)∧∀ n∈ns,a4a kvs (.inl n)=some (.int (f n))
def b2o (K F:Int→Int) (a b:Int) (j k:Nat):Bool:=!(decide (j < k) && decide (K a≤K b)) && !(decide (j≠k) && (decide (F a < K b) && decide (K b < K a)))
def c4i (f:Nat→Bool) (i n:Nat):Bool:=(List.range' i (n - i)).all f
def b4s (K F:Int→Int) (ms:List Int):Bool:=c4i (fun k=>c4i (fun j=>b2o K F (ms.getD k 0) (ms.getD j 0) j k) 0 ms.length) 0 ms.length
def e7t:Sp:=fun vs H Q _=>∃ (ka fa ma:Addr) (K F:Int→Int) (ms ns:List Int),vs=[.ref ka,.ref fa,.ref ma]∧KI H ka K ns∧KI H fa F ns∧H ma=some (.lst (ms.map V.int))∧(∀ x∈ms,x∈ns)∧ms.length≤1000∧Q (.bl (b4s K F ms)) H
def a8s (K:Int→Int) (at_:Int):Int→List Int→Int
 | l,[]=>l
 | l,m::r=>a8s K at_ (if K m < at_ then m else l) r
def e7m:Sp:=fun vs H Q _=>∃ (ka ma:Addr) (K:Int→Int) (ms ns:List Int) (src at_:Int),vs=[.ref ka,.ref ma,.int src,.int at_]∧KI H ka K ns∧H ma=some (.lst (ms.map V.int))∧(∀ x∈ms,x∈ns)∧Q (.bl (decide (src=a8s K at_ 0 ms))) H
theorem c7v (q:Nk):∀ (os:List Nk) (s:Int×Int),(os.foldl (fun (s:Int×Int) x=>(s.1+1,if x=q then s.1 else s.2)) s).1=s.1+os.length
 | [],s=>by simp
 | x::r,s=>by
  rw[List.foldl_cons,c7v q r]
  show s.1+1+(r.length:Int)=s.1+((r.length+1:Nat):Int)
  omega
theorem c3b (os:List Nk) (x q:Nk):a1l (os++[x]) q=if x=q then (os.length:Int) else a1l os q:=by
 unfold a1l
 rw[List.foldl_append]
 show (if x=q then _ else _)=_
 rw[c7v]
 simp
theorem e1n (q:Nk):∀ (os:List Nk),-1≤a1l os q:=by
 have key:∀ (l os:List Nk),-1≤a1l os q→-1≤a1l (os++l) q:=by
  intro l
  induction l with
  | nil=>intro os h;rw[List.append_nil];exact h
  | cons x r ih =>
   intro os h
   have:os++x::r=(os++[x])++r:=by simp
   rw[this]
   refine ih _ ?_
   rw[c3b]
   split<;>omega
 intro os
 have:=key os [] (show (-1:Int)≤-1 from Int.le_refl _)
 rwa [List.nil_append] at this
theorem b9g {f:Nat→Bool} {i n:Nat} (h:i < n):c4i f i n=(f i && c4i f (i+1) n):=by
 unfold c4i
 rw[show n - i=(n - (i+1))+1 by omega,List.range'_succ,List.all_cons]
theorem c3w (f:Nat→Bool) (n:Nat):c4i f n n=true:=by
 unfold c4i
 rw[Nat.sub_self]
 rfl
theorem KI.get {H:Hp} {e:Addr} {f:Int→Int} {ns:List Int} (h:KI H e f ns) {n:Int} (hn:n∈ns):b2n H e (.int n) (some (.int (f n))):=by
 obtain⟨kvs,h1,h2⟩:=h
 exact .inl ⟨kvs,.inl n,.inl h1,rfl,(h2 n hn).symm⟩
theorem c5r {ns:List Int} {i:Nat} (h:i < ns.length):atI (ns.map V.int) (0+(i:Int))=some (.int (ns.getD i 0)):=by
 rw[Int.zero_add]
 refine a0k ?_
 rw[List.getElem?_map,List.getElem?_eq_getElem h]
 simp[List.getD,h]
theorem c5o {ns:List Int} {i:Nat} (h:i < ns.length):ns.getD i 0∈ns:=by
 simp[List.getD,h]
theorem e8m {a b:Nk} (h:a≠b):kN2 a≠kN2 b:=fun z=>h (d0z (by rw[z]))
theorem d6w.kf {H H':Hp} (s:KF H H') {e:Addr} {w:Option Str} {ds:List Dl} (h:d6w H e w ds):d6w H' e w ds:=let ⟨kvs,h1,h2,h3⟩:=h;⟨kvs,s.rd h1,h2,fun d hd=>let ⟨t,a,b⟩:=h3 d hd;⟨t,a,s.tup b⟩⟩
theorem c3f {w:Str} {l:Int} (h0:0≤l) (h40:l≤40):1≤a0q w l∧a0q w l≤41:=by
 unfold a0q
 split
 ·omega
 ·split<;>omega
theorem e6z {H H':Hp} (s:KF H H') {ys:List V} {ns:List Nk} (h:Nds H ys ns):Nds H' ys ns:=Paired.imp' (fun _ _ ⟨p,e,hp⟩=>⟨p,e,s.tup hp⟩) h
theorem c5j (x y:Str):decide (V.str x=V.str y)=decide (x=y):=by
 rw[Bool.eq_iff_iff,decide_eq_true_iff,decide_eq_true_iff]
 exact⟨V.str.inj,congrArg V.str⟩
theorem b1g (T:Tx K mg):a3y P w K mg base CX0 1 T.b7r T.b7x ["_law_word","_law_looks"] e4n:=by
 refine T.a9l.ok d4n (fun vs H Q E h=>?_) (fun cdv A outer s H vs Q E hr h=>?_)
 ·obtain⟨c,k,rfl,_⟩:=h
  rfl
 ·obtain⟨wd,l,rfl,q⟩:=h
  refine⟨_,(a0e (a3n (a0t a7m (pv 0) a1p (a0x _))
   (a0g (a0s (a0v a3z (pv 1) a0c)))
   a1a)
   (a0g (a0s (a0v a3z a0c (a2y c7n (by rfl) T.d8k boot_int (a0a (b5m a7m (pv 0) a1p (a0x _)) a0d)))))),?_⟩
  unfold a0q at q
  refine⟨_,rfl,rfl,_,rfl,?_⟩
  rw[c5j]
  refine b0n (fun e=>?_) (fun e=>?_)
  ·have e':=of_decide_eq_true e
   rw[if_pos e'] at q
   exact⟨_,rfl,_,_,rfl,rfl,q⟩
  ·have e':¬ wd=("kept":Str):=fun z=>e (decide_eq_true z)
   rw[if_neg e'] at q
   refine⟨_,rfl,rfl,.inr ⟨_,rfl,_,_,rfl,rfl,?_⟩⟩
   rw[c5j]
   by_cases f:wd=("make":Str)
   ·rw[if_pos f] at q
    rw[decide_eq_true f]
    exact q
   ·rw[if_neg f] at q
    rw[decide_eq_false f]
    exact q
theorem c8w (T:Tx K mg):a3y P w K mg base CX0 1 T.b7n T.b8c ["_law_word","_law_k"] e5r:=by
 refine T.b7z.ok d7u (fun vs H Q E h=>?_) (fun cdv A outer s H vs Q E hr h=>?_)
 ·obtain⟨c,k,rfl,_⟩:=h
  rfl
 ·obtain⟨wd,l,rfl,q⟩:=h
  refine⟨_,(a0e (a3n (a0t a7m (pv 0) a1p (a0x _))
   (a0g (a0s (pv 1)))
   a1a)
   (a0g (a0s a0c))),?_⟩
  unfold a3a at q
  refine⟨_,rfl,rfl,_,rfl,?_⟩
  rw[c5j]
  refine b0n (fun e=>?_) (fun e=>?_)
  ·rw[if_pos (of_decide_eq_true e)] at q
   exact⟨_,rfl,q⟩
  ·rw[if_neg (fun z=>e (decide_eq_true z))] at q
   exact q
theorem c9a (T:Tx K mg):a3y P w K mg base CX0 1 T.b7y T.b7s ["_law_word","_law_looks"] e5b:=by
 refine T.b7v.ok d6c (fun vs H Q E h=>?_) (fun cdv A outer s H vs Q E hr h=>?_)
 ·obtain⟨c,k,rfl,_⟩:=h
  rfl
 ·obtain⟨wd,l,rfl,q⟩:=h
  refine⟨_,(a0e (a3n (a0t a7m (pv 0) a1p (a0x _))
   (a0g (a0s (pv 1)))
   a1a)
   (a0g (a0s a0c))),?_⟩
  unfold a1y at q
  refine⟨_,rfl,rfl,_,rfl,?_⟩
  rw[c5j]
  refine b0n (fun e=>?_) (fun e=>?_)
  ·rw[if_pos (of_decide_eq_true e)] at q
   exact⟨_,rfl,q⟩
  ·rw[if_neg (fun z=>e (decide_eq_true z))] at q
   exact q
--@STAGE
theorem e0v (T:Tx K mg):a3y P w K mg base CX0 1 T.c4g T.c4f ["_law_deals","_law_word"] e6x:=by
 refine T.d0b.ok b1p (fun vs H Q E h=>?_) (fun cdv A outer s H vs Q E hr h=>?_)
 ·obtain⟨v,wo,ds,rfl,_⟩:=h
  rfl
 ·obtain⟨v,wo,ds,rfl,tr,l8,nn,q⟩:=h
  have hu:=a8v hr
  refine⟨_,(a0e (a0n (i:=2) b1p.nd rfl (Or.inl rfl) a6r)
   (a0e (a2o PassesOwn.never rfl (a1r (pv 0)) (b0k rfl (a0u (a0i (i:=3) b1p.nd rfl (Or.inl rfl)) (a0u (a0i (i:=4) b1p.nd rfl (Or.inl rfl)) (a0u (a0i (i:=5) b1p.nd rfl (Or.inl rfl)) a4o))))
   (a0e (a3n (a0t d6k (pv 1) b2u (a0x _))
   (a0g (a0n (i:=4) b1p.nd rfl (Or.inl rfl) (pv 1)))
   a1a)
   (a0g (a7j hu (pv 2) (pv 3) (a2f (a0a (pv 4) (a0a (a1b a1i (by rfl) T.a5j boot_len (a0a (pv 5) a0d)) a0d))) rfl))))
   (a0g (a0s (pv 2))))),?_⟩
  have z9:(2000:Nat)≤sizeLine:=by decide
  obtain⟨dp,xs,rfl,hdp,hx⟩:=a9j tr
  have hxl:xs.length=ds.length:=by rw[hx.len,List.length_map]
  intro e he
  have s0:=Same.upd (o:=HO.dK []) he
  refine⟨_,rfl,dp,rfl,⟨_,SqL.of (s0 _ _ hdp)⟩,a4e (K:=K) (a:=dp) (xs:=xs) (fun i σ H2=>Same H H2∧∃ (x3 x4 x5:Option V) (kvs:List (Key×V)),σ=[some (.ref dp),some (wV wo),some (.ref e),x3,x4,x5]∧H2 e=some (.dK kvs)∧kvs.map (·.1)=(ds.take i).map (fun d=>Sum.inl d.1)∧∀ d∈ds.take i,∃ t,a4a kvs (.inl d.1)=some (.ref t)∧H2 t=some (.tup [.str (a2i wo d),.int (d.2.2.length:Int)])) ⟨s0,none,none,none,[],rfl,a0b,rfl,(fun d hd=>by cases hd)⟩ (fun i σ H2 _ ⟨ss,_⟩=>SqL.of (ss _ _ hdp)) ?_ ?_⟩
  ·rintro i y σ H2 hy ⟨ss,x3,x4,x5,kvs,rfl,hdk,hkeys,hval⟩
   have hi:i < xs.length:=(List.getElem?_eq_some_iff.mp hy).1
   obtain⟨dd,edd,td⟩:=hx.get hy
   rw[List.getElem?_map] at edd
   obtain⟨d,hdi,rfl⟩:=Option.map_eq_some_iff.mp edd
   obtain⟨pd,L,lkv,rfl,hpd,hL,tL⟩:=a7n td
   have ll:lkv.length=d.2.2.length:=by rw[tL.len,List.length_map]
   have tk:ds.take (i+1)=ds.take i++[d]:=by rw[List.take_add_one,hdi];rfl
   have hnt:(Sum.inl d.1:Key) ∉ kvs.map (·.1):=by
    rw[hkeys]
    intro z
    obtain⟨d',hd',e2⟩:=List.mem_map.mp z
    have n2:((ds.take (i+1)).map (·.1)).Nodup:=nn.sublist ((List.take_sublist _ _).map _)
    rw[tk,List.map_append] at n2
    exact absurd (Sum.inl.inj e2) ((List.nodup_append.mp n2).2.2 d'.1 (List.mem_map.mpr ⟨d',hd',rfl⟩) d.1 (by simp))
   have hvn:a4a kvs (.inl d.1)=none:=by
    cases ev:a4a kvs (.inl d.1) with
    | none=>rfl
    | some v=>exact absurd (c9h ev) hnt
   have hkl:kvs.length≤8:=by
    have:=congrArg List.length hkeys
    rw[List.length_map,List.length_map,List.length_take] at this
    omega
   have hpd2:=ss _ _ hpd
   have hL2:=ss _ _ hL
   have fin:∀ (t:Addr),H2 t=none→Same H (upd (upd H2 t (.tup [.str (a2i wo d),.int (d.2.2.length:Int)])) e (.dK (a6e kvs (.inl d.1) (.ref t))))∧upd (upd H2 t (.tup [.str (a2i wo d),.int (d.2.2.length:Int)])) e (.dK (a6e kvs (.inl d.1) (.ref t))) e=some (.dK (a6e kvs (.inl d.1) (.ref t)))∧(a6e kvs (.inl d.1) (.ref t)).map (·.1)=(ds.take (i+1)).map (fun d=>Sum.inl d.1)∧∀ d'∈ds.take (i+1),∃ t',a4a (a6e kvs (.inl d.1) (.ref t)) (.inl d'.1)=some (.ref t')∧upd (upd H2 t (.tup [.str (a2i wo d),.int (d.2.2.length:Int)])) e (.dK (a6e kvs (.inl d.1) (.ref t))) t'=some (.tup [.str (a2i wo d'),.int (d'.2.2.length:Int)]):=fun t ht=>by
    have st:=Same.upd (o:=HO.tup [.str (a2i wo d),.int (d.2.2.length:Int)]) ht
    have te:t≠e:=fun z=>by rw[z,hdk] at ht;cases ht
    refine⟨fun b o eb=>by rw[a0h (fun z=>by rw[z,he] at eb;cases eb)];exact st _ _ (ss _ _ eb),a0b,?_,fun d' hd'=>?_⟩
    ·rw[d2x _ hvn,List.map_append,hkeys,tk,List.map_append]
     rfl
    ·rw[a7p]
     rw[tk] at hd'
     rcases List.mem_append.mp hd' with z | z
     ·have ne:d'.1≠d.1:=fun y=>hnt (by rw[hkeys,←y];exact List.mem_map.mpr ⟨d',z,rfl⟩)
      rw[if_neg (fun y=>ne (Sum.inl.inj y))]
      obtain⟨t',h1,h2⟩:=hval d' z
      exact⟨t',h1,by rw[a0h (fun y=>by rw[y,hdk] at h2;cases h2)];exact st _ _ h2⟩
     ·rw[List.mem_singleton.mp z,if_pos rfl]
      exact⟨t,rfl,by rw[a0h te];exact a0b⟩
   refine⟨pd,_,rfl,SqT.of hpd2,rfl,_,_,rfl,_,_,rfl,_,_,rfl,rfl,?_⟩
   cases wo with
   | none =>
    refine⟨_,rfl,rfl,_,rfl,b5k ?_⟩
    refine⟨_,rfl,_,rfl,_,_,rfl,.inl ⟨_,SqL.of hL2,rfl⟩,(by show 2≤sizeLine;decide),fun t ht=>⟨_,rfl,_,rfl,e,_,rfl,d3q.k (k:=.inl d.1) (Same.upd ht _ _ hdk) (by omega),?_⟩⟩
    obtain⟨f1,f2,f3,f4⟩:=fin t ht
    rw[ll]
    exact⟨f1,_,_,_,_,rfl,f2,f3,f4⟩
   | some x =>
    refine⟨_,rfl,rfl,_,rfl,c7i ⟨_,rfl,?_⟩⟩
    refine⟨_,rfl,_,rfl,_,_,rfl,.inl ⟨_,SqL.of hL2,rfl⟩,(by show 2≤sizeLine;decide),fun t ht=>⟨_,rfl,_,rfl,e,_,rfl,d3q.k (k:=.inl d.1) (Same.upd ht _ _ hdk) (by omega),?_⟩⟩
    obtain⟨f1,f2,f3,f4⟩:=fin t ht
    rw[ll]
    exact⟨f1,_,_,_,_,rfl,f2,f3,f4⟩
  ·rintro σ H2 ⟨ss,x3,x4,x5,kvs,rfl,hdk,hkeys,hval⟩
   rw[hxl,List.take_length] at hkeys hval
   exact⟨_,rfl,q e H2 ss ⟨kvs,.inl hdk,hkeys,hval⟩⟩
theorem e2d (T:Tx K mg):a3y P w K mg base CX0 1 T.c4s T.c3p ["_law_keeps","_law_makers","_law_source","_law_at"] e7m:=by
 refine T.d0s.ok b8f (fun vs H Q E h=>?_) (fun cdv A outer s H vs Q E hr h=>?_)
 ·obtain⟨ka,ma,kf,ms,ns,src,at0,rfl,_⟩:=h
  rfl
 ·obtain⟨ka,ma,kf,ms,ns,src,at0,rfl,hk,hm,hin,q⟩:=h
  have hu:=a8v hr
  refine⟨_,(a0e (a0n (i:=4) b8f.nd rfl (Or.inl rfl) a0c)
   (a0e (a2o PassesOwn.never rfl (a1r (pv 1)) (a0i (i:=5) b8f.nd rfl (Or.inl rfl))
   (a0g (a3n (a0t c8n (a1d hu (pv 0) (pv 5) (fun _ _=>rfl)) (pv 3) (a0x _))
   (a0g (a0n (i:=4) b8f.nd rfl (Or.inl rfl) (pv 5)))
   a1a)))
   (a0g (a0s (b5m a7m (pv 2) (pv 4) (a0x _)))))),?_⟩
  refine⟨_,rfl,ma,rfl,⟨_,SqL.of hm⟩,a4e (K:=K) (a:=ma) (xs:=ms.map V.int) (fun i σ H2=>H=H2∧∃ (l:Int) (x5:Option V),σ=[some (.ref ka),some (.ref ma),some (.int src),some (.int at0),some (.int l),x5]∧a8s kf at0 0 ms=a8s kf at0 l (ms.drop i)) ⟨rfl,0,none,rfl,rfl⟩ (fun i σ H2 _ ⟨e,_⟩=>e ▸ SqL.of hm) ?_ ?_⟩
  ·rintro i y σ H2 hy ⟨rfl,l,x5,rfl,hf⟩
   rw[List.getElem?_map] at hy
   obtain⟨m,hm1,rfl⟩:=Option.map_eq_some_iff.mp hy
   have hdr:ms.drop i=m::ms.drop (i+1):=by rw[List.drop_eq_getElem_cons (List.getElem?_eq_some_iff.mp hm1).1,(List.getElem?_eq_some_iff.mp hm1).2]
   rw[hdr] at hf
   have hf2:a8s kf at0 0 ms=a8s kf at0 (if kf m < at0 then m else l) (ms.drop (i+1)):=hf
   refine⟨_,rfl,_,rfl,ka,_,rfl,hk.get (hin m (List.mem_of_getElem? hm1)),_,rfl,_,_,rfl,rfl,_,rfl,b0n (fun y=>?_) (fun y=>?_)⟩
   ·rw[if_pos (of_decide_eq_true y)] at hf2
    exact⟨_,rfl,rfl,m,_,rfl,hf2⟩
   ·rw[if_neg (fun z=>y (decide_eq_true z))] at hf2
    exact⟨rfl,l,_,rfl,hf2⟩
  ·rintro σ H2 ⟨rfl,l,x5,rfl,hf⟩
   rw[List.length_map,List.drop_length] at hf
   have hf2:a8s kf at0 0 ms=l:=hf
   rw[hf2,←d3y] at q
   exact⟨_,rfl,_,rfl,rfl,q⟩
theorem c1u (T:Tx K mg):a3y P w K mg base CX0 1 T.a6o T.a6p ["_law_keeps","_law_firsts","_law_makers"] e7t:=by
 refine T.a9q.ok a4d (fun vs H Q E h=>?_) (fun cdv A outer s H vs Q E hr h=>?_)
 ·obtain⟨ka,fa,ma,kf,ff,ms,ns,rfl,_⟩:=h
  rfl
 ·obtain⟨ka,fa,ma,kf,ff,ms,ns,rfl,hk,hf,hm,hin,hz,q⟩:=h
  have hu:=a8v hr
  refine⟨_,(a0e (a2o PassesOwn.never rfl (a1o rfl T.a2z (a0a (a1b a1i (by rfl) T.a5j boot_len (a0a (pv 2) a0d)) a0d)) (a0i (i:=3) a4d.nd rfl (Or.inl rfl))
   (a0e (a0n (i:=4) a4d.nd rfl (Or.inl rfl) (a1d hu (pv 0) (a0o a0w (pv 2) (pv 3) (fun _ _=>rfl)) (fun _ _=>rfl)))
   (a0g (a2o PassesOwn.never rfl (a1o rfl T.a2z (a0a (a1b a1i (by rfl) T.a5j boot_len (a0a (pv 2) a0d)) a0d)) (a0i (i:=5) a4d.nd rfl (Or.inl rfl))
   (a0e (a0n (i:=6) a4d.nd rfl (Or.inl rfl) (a1d hu (pv 0) (a0o a0w (pv 2) (pv 5) (fun _ _=>rfl)) (fun _ _=>rfl)))
   (a0e (a3n (PW.pt (b3a (a0t c8n (pv 5) (pv 3) (a0x _)) (a8l (a0t e5x (pv 6) (pv 4) (a0x _)))))
   (a0g (a0s b2m))
   a1a)
   (a0g (a3n (PW.pt (b3a (a0t d3v (pv 5) (pv 3) (a0x _)) (a8l (d9o c8n c8n (a1d hu (pv 1) (a0o a0w (pv 2) (pv 3) (fun _ _=>rfl)) (fun _ _=>rfl)) (pv 6) (pv 4)))))
   (a0g (a0s b2m))
   a1a))))))))
   (a0g (a0s b2m))),?_⟩
  have hml:(ms.map V.int).length=ms.length:=List.length_map _
  have hg0:b4s kf ff ms=c4i (fun k=>c4i (fun j=>b2o kf ff (ms.getD k 0) (ms.getD j 0) j k) 0 ms.length) 0 ms.length:=rfl
  refine⟨_,rfl,_,_,rfl,.inl ⟨_,SqL.of hm,rfl⟩,_,rfl,(by rw[hml];omega),(by rw[hml];omega),a2m (n:=(((ms.map V.int).length:Nat):Int).toNat) (fun k σ H2=>H=H2∧∃ (x3 x4 x5 x6:Option V),σ=[some (.ref ka),some (.ref fa),some (.ref ma),x3,x4,x5,x6]∧b4s kf ff ms=c4i (fun k=>c4i (fun j=>b2o kf ff (ms.getD k 0) (ms.getD j 0) j k) 0 ms.length) k ms.length) ⟨rfl,none,none,none,none,rfl,hg0⟩ ?_ ?_⟩
  ·rintro k σ H2 hk' ⟨rfl,x3,x4,x5,x6,rfl,hg⟩
   rw[hml] at hk'
   have hkl:k < ms.length:=by omega
   rw[b9g hkl] at hg
   refine⟨_,rfl,_,rfl,_,rfl,ma,_,_,_,rfl,rfl,SqL.of hm,c5r hkl,ka,_,rfl,hk.get (hin _ (c5o hkl)),?_⟩
   refine⟨_,rfl,_,_,rfl,.inl ⟨_,SqL.of hm,rfl⟩,_,rfl,(by rw[hml];omega),(by rw[hml];omega),a2m (n:=(((ms.map V.int).length:Nat):Int).toNat) (fun j σ H2=>H=H2∧∃ (x5 x6:Option V),σ=[some (.ref ka),some (.ref fa),some (.ref ma),some (.int (0+(k:Int))),some (.int (kf (ms.getD k 0))),x5,x6]∧c4i (fun j=>b2o kf ff (ms.getD k 0) (ms.getD j 0) j k) 0 ms.length=c4i (fun j=>b2o kf ff (ms.getD k 0) (ms.getD j 0) j k) j ms.length) ⟨rfl,x5,x6,rfl,rfl⟩ ?_ ?_⟩
   ·rintro j σ H2 hj' ⟨rfl,x5,x6,rfl,hg2⟩
    rw[hml] at hj'
    have hjl:j < ms.length:=by omega
    rw[b9g hjl] at hg2
    have stop:b2o kf ff (ms.getD k 0) (ms.getD j 0) j k=false→Q (.bl false) H:=fun z=>by
     rw[z,Bool.false_and] at hg2
     rw[hg2,Bool.false_and] at hg
     rw[hg] at q
     exact q
    refine⟨_,rfl,_,rfl,_,rfl,ma,_,_,_,rfl,rfl,SqL.of hm,c5r hjl,ka,_,rfl,hk.get (hin _ (c5o hjl)),?_⟩
    have second:(decide (j < k) && decide (kf (ms.getD k 0)≤kf (ms.getD j 0)))=false→∀ (D:c9e),(b2o kf ff (ms.getD k 0) (ms.getD j 0) j k=true→D.nx [some (.ref ka),some (.ref fa),some (.ref ma),some (.int (0+(k:Int))),some (.int (kf (ms.getD k 0))),some (.int (0+(j:Int))),some (.int (kf (ms.getD j 0)))] H)→(b2o kf ff (ms.getD k 0) (ms.getD j 0) j k=false→D.rt (.bl false) H)→f1f (f1g (e1b (tOp rNe (d1a 5) (d1a 3))) (e1b (e2k (rI0 fun i j=>V.bl (decide (i < j))) (rI0 fun i j=>V.bl (decide (i < j))) (e1x (d1a 1) (tOp (e8y K) (d1a 2) (d1a 3))) (d1a 6) (d1a 4)))) (f1c (tC (V.bl false))) e8s D [some (.ref ka),some (.ref fa),some (.ref ma),some (.int (0+(k:Int))),some (.int (kf (ms.getD k 0))),some (.int (0+(j:Int))),some (.int (kf (ms.getD j 0)))] H:=fun e1 D d1 d2=>by
     have ec:b2o kf ff (ms.getD k 0) (ms.getD j 0) j k=!(decide (j≠k) && (decide (ff (ms.getD k 0) < kf (ms.getD j 0)) && decide (kf (ms.getD j 0) < kf (ms.getD k 0)))):=by
      unfold b2o
      rw[e1]
      rfl
     rw[ec] at d1 d2
     refine⟨_,rfl,_,rfl,rfl,_,rfl,?_⟩
     have ejk:(!decide (V.int (0+(j:Int))=V.int (0+(k:Int))))=decide (j≠k):=by
      rw[d3y]
      by_cases z:j=k
      ·rw[z];simp
      ·rw[decide_eq_true z,decide_eq_false (by omega)];rfl
     rw[ejk]
     refine b0n (fun y=>?_) (fun y=>?_)
     ·rw[y,Bool.true_and] at d1 d2
      refine⟨_,rfl,_,rfl,_,rfl,ma,_,_,_,rfl,rfl,SqL.of hm,c5r hkl,fa,_,rfl,hf.get (hin _ (c5o hkl)),?_⟩
      refine⟨_,rfl,_,_,rfl,rfl,_,rfl,b0n (fun y1=>?_) (fun y1=>?_)⟩
      ·rw[y1,Bool.true_and] at d1 d2
       refine⟨_,rfl,_,_,rfl,rfl,_,rfl,b0n (fun y2=>?_) (fun y2=>?_)⟩
       ·rw[y2] at d2
        exact d2 rfl
       ·rw[Bool.eq_false_iff.mpr y2] at d1
        exact d1 rfl
      ·rw[Bool.eq_false_iff.mpr y1,Bool.false_and] at d1
       exact⟨_,rfl,b5k (d1 rfl)⟩
     ·rw[Bool.eq_false_iff.mpr y,Bool.false_and] at d1
      exact b5k (d1 rfl)
    have ej:decide ((0:Int)+(j:Int) < 0+(k:Int))=decide (j < k):=by
     by_cases z:j < k
     ·rw[decide_eq_true z,decide_eq_true (by omega)]
     ·rw[decide_eq_false z,decide_eq_false (by omega)]
    have go:b2o kf ff (ms.getD k 0) (ms.getD j 0) j k=true→H=H∧∃ (x5 x6:Option V),[some (V.ref ka),some (.ref fa),some (.ref ma),some (.int (0+(k:Int))),some (.int (kf (ms.getD k 0))),some (.int (0+(j:Int))),some (.int (kf (ms.getD j 0)))]=[some (.ref ka),some (.ref fa),some (.ref ma),some (.int (0+(k:Int))),some (.int (kf (ms.getD k 0))),x5,x6]∧c4i (fun j=>b2o kf ff (ms.getD k 0) (ms.getD j 0) j k) 0 ms.length=c4i (fun j=>b2o kf ff (ms.getD k 0) (ms.getD j 0) j k) (j+1) ms.length:=fun z=>⟨rfl,_,_,rfl,by rw[hg2,z,Bool.true_and]⟩
    refine⟨_,rfl,_,rfl,_,_,rfl,rfl,_,rfl,?_⟩
    rw[ej]
    refine b0n (fun y=>?_) (fun y=>?_)
    ·refine⟨_,rfl,_,rfl,_,_,rfl,rfl,_,rfl,b0n (fun y2=>?_) (fun y2=>?_)⟩
     ·refine stop ?_
      unfold b2o
      rw[y,y2]
      rfl
     ·exact second (by rw[y,Bool.eq_false_iff.mpr y2];rfl) _ go stop
    ·exact b5k (second (by rw[Bool.eq_false_iff.mpr y];rfl) _ go stop)
   ·rintro σ H2 ⟨rfl,x5,x6,rfl,hg2⟩
    have e:(((ms.map V.int).length:Nat):Int).toNat=ms.length:=by rw[hml];omega
    rw[e,c3w] at hg2
    rw[hg2,Bool.true_and] at hg
    exact⟨rfl,_,_,_,_,rfl,hg⟩
  ·rintro σ H2 ⟨rfl,x3,x4,x5,x6,rfl,hg⟩
   have e:(((ms.map V.int).length:Nat):Int).toNat=ms.length:=by rw[hml];omega
   rw[e,c3w] at hg
   rw[hg] at q
   exact q
theorem d4d (T:Tx K mg):a3y P w K mg base CX0 2 T.b3t T.b4j ["_law_ways_here","_law_order"] d9y:=by
 refine T.c0z.ok a3l (fun vs H Q E h=>?_) (fun cdv A outer s H vs Q E hr h=>?_)
 ·obtain⟨e,o,wo,ds,ys,os,rfl,_⟩:=h
  rfl
 ·obtain⟨e,o,wo,ds,ys,os,rfl,hw,h40,l8,ho,hn,hz,q0,q1⟩:=h
  have hu:=a8v hr
  refine⟨_,(a0e (a0n (i:=2) a3l.nd rfl (Or.inl rfl) d9z)
   (a0e (a2o PassesOwn.never rfl (a1o rfl T.a2z (a0a (a1b a1i (by rfl) T.a5j boot_len (a0a (pv 1) a0d)) a0d)) (a0i (i:=3) a3l.nd rfl (Or.inl rfl))
   (a0g (a7j hu (pv 2) (a0o a0w (pv 1) (pv 3) (fun _ _=>rfl)) (pv 3) rfl)))
   (a0e (a0n (i:=4) a3l.nd rfl (Or.inl rfl) a0c)
   (a0e (a2o PassesOwn.never rfl (d9b (pv 0)) (a0i (i:=5) a3l.nd rfl (Or.inl rfl))
   (a0e (a0n (i:=6) a3l.nd rfl (Or.inl rfl) (a0l ((b1g T).mono (by decide)) hr rfl T.b1t T.a9l.kp T.b2h .nil a1m (a0a (a0o a0z (a1d hu (pv 0) (pv 5) (fun _ _=>rfl)) a0c (fun _ _=>rfl)) (a0a (a0o a0z (a1d hu (pv 0) (pv 5) (fun _ _=>rfl)) a0c (fun _ _=>rfl)) a0d))))
   (a0e (a0n (i:=4) a3l.nd rfl (Or.inl rfl) (a0v a3z (pv 4) (pv 6)))
   (a0e (a0n (i:=7) a3l.nd rfl (Or.inl rfl) (d3m c2u a0c))
   (a0g (a2o PassesOwn.never rfl (a1o rfl T.a2z (a0a (pv 6) a0d)) (a0i (i:=8) a3l.nd rfl (Or.inl rfl))
   (a0e (a3n (a0t e9w (b2k hu (pv 2) (a2f (a0a (pv 5) (a0a (pv 8) a0d))) (d3m c2u a0c) ⟨rfl,rfl,rfl,rfl⟩) (pv 7) (a0x _))
   (a0g (a0s b2u))
   a1a)
   (a0g (a0n (i:=7) a3l.nd rfl (Or.inl rfl) (a1d hu (pv 2) (a2f (a0a (pv 5) (a0a (pv 8) a0d))) (fun _ _=>rfl)))))))))))
   (a0e (a3n (a0t d3v (pv 4) (a1b a1i (by rfl) T.a5j boot_len (a0a (pv 1) a0d)) (a0x _))
   (a0g (a0s b2u))
   a1a)
   (a0g (a0s (pv 2)))))))),?_⟩
  have z9:(2000:Nat)≤sizeLine:=by decide
  have hyl:=a5n hn
  intro t ht
  have s0:=Same.upd (o:=HO.dT []) ht
  refine⟨_,rfl,_,_,rfl,.inl ⟨_,SqL.of (s0 _ _ ho),rfl⟩,_,rfl,(by omega),(by omega),a2m (n:=((ys.length:Nat):Int).toNat) (fun k σ H2=>Same H H2∧∃ (x3:Option V),σ=[some (.ref e),some (.ref o),some (.ref t),x3,none,none,none,none,none]∧AtD H2 t (os.take k)) ⟨s0,none,rfl,[],a0b,Nat.le_refl _,fun q=>rfl⟩ ?_ ?_⟩
  ·rintro k σ H2 hk ⟨ss,x3,rfl,kvs,hdk,hkl,hv⟩
   have hk':k < ys.length:=by omega
   obtain⟨y,hy⟩:∃ y,ys[k]?=some y:=⟨_,List.getElem?_eq_getElem hk'⟩
   obtain⟨nk,hnk,c,rfl,hc⟩:=a1w hn hy
   have tk:os.take (k+1)=os.take k++[nk]:=by rw[List.take_add_one,hnk];rfl
   have hlt:(os.take k).length=k:=by rw[List.length_take];omega
   refine⟨_,rfl,_,rfl,_,rfl,_,rfl,o,_,_,_,rfl,rfl,SqL.of (ss _ _ ho),(by rw[Int.zero_add];exact a0k hy),t,_,rfl,d3q.t (k:=kN2 nk) hdk (ss _ _ hc) (by omega),fun b x eb=>by rw[a0h (fun z=>by rw[z,ht] at eb;cases eb)];exact ss _ _ eb,_,rfl,_,a0b,?_,fun q=>?_⟩
   ·refine Nat.le_trans (a3s kvs (kN2 nk) _) ?_
    rw[tk,List.length_append,List.length_singleton]
    omega
   ·rw[a7p,tk,c3b]
    by_cases z:nk=q
    ·rw[if_pos (by rw[z]),if_pos z,if_neg (by omega),hlt,Int.zero_add]
    ·rw[if_neg (fun y=>e8m z y.symm),if_neg z]
     exact hv q
  rintro σ H1 ⟨s1,x3,rfl,hat⟩
  have e1:((ys.length:Nat):Int).toNat=os.length:=by omega
  rw[e1,List.take_length] at hat
  obtain⟨akv,hak,hakl,hav⟩:=hat
  obtain⟨kvs,hrd,hkeys,hval⟩:=hw.kf (KF.of s1)
  have hkl:kvs.length=ds.length:=by
   have:=congrArg List.length hkeys
   rw[List.length_map,List.length_map] at this
   exact this
  have hte:t≠e:=fun z=>by
   obtain⟨k0,hr0,_⟩:=hw
   rcases hr0 with y | ⟨_,y⟩<;>(rw[←z,ht] at y;cases y)
  have hgk:∀ (i:Nat) k x,kvs[i]?=some (k,x)→∃ d,ds[i]?=some d∧k=.inl d.1:=fun i k x ei=>by
   have h1:(kvs.map (·.1))[i]?=some k:=by rw[List.getElem?_map,ei];rfl
   rw[hkeys,List.getElem?_map] at h1
   obtain⟨d,hd,rfl⟩:=Option.map_eq_some_iff.mp h1
   exact⟨d,hd,rfl⟩
  have hpb:b3o wo ds os=((ds.all fun d=>b0u os d.1 (-1) (b7k wo d)) && decide ((ds.map fun d=>a0q (a2i wo d) (d.2.2.length:Int)).sum=(os.length:Int))):=rfl
  refine⟨_,rfl,e,kvs,rfl,hrd,fun ob H2 h2 k2 n2=>?_⟩
  have kH2:=(KF.of s1).trans k2
  have hak2:H2 t=some (.dT akv):=by
   rcases k2 t _ hak with y | ⟨_,_,y,_⟩
   ·exact y
   ·cases y
  have keepN:∀ {H3:Hp},Same H2 H3→KF H H3:=fun s3=>kH2.trans (KF.of s3)
  refine d2f (d:=e) (ob:=ob) (kvs:=kvs) (fun i σ H3=>Same H2 H3∧∃ (x5 x6 x7 x8:Option V),σ=[some (.ref e),some (.ref o),some (.ref t),x3,some (.int ((ds.take i).map fun d=>a0q (a2i wo d) (d.2.2.length:Int)).sum),x5,x6,x7,x8]∧(ds.all fun d=>b0u os d.1 (-1) (b7k wo d))=((ds.drop i).all fun d=>b0u os d.1 (-1) (b7k wo d))) ⟨Same.refl _,none,none,none,none,rfl,rfl⟩ (fun i σ H3 ⟨ss,_⟩=>ss _ _ h2) ?_ ?_
  ·rintro i kk x σ H3 hkx ⟨s3,x5,x6,x7,x8,rfl,hall⟩
   obtain⟨d,hdi,rfl⟩:=hgk i kk x hkx
   have hdm:d∈ds:=List.mem_of_getElem? hdi
   obtain⟨td,hv1,ht1⟩:=hval d hdm
   have ht3:=s3 _ _ (k2.tup ht1)
   have hrd3:Rd H3 e (.dK kvs):=.inr ⟨ob,s3 _ _ h2⟩
   have hdr:ds.drop i=d::ds.drop (i+1):=by rw[List.drop_eq_getElem_cons (List.getElem?_eq_some_iff.mp hdi).1,(List.getElem?_eq_some_iff.mp hdi).2]
   rw[hdr,List.all_cons] at hall
   have sr:=c3f (w:=a2i wo d) (l:=(d.2.2.length:Int)) (by omega) (by have:=h40 d hdm;omega)
   have stk:((ds.take (i+1)).map fun d=>a0q (a2i wo d) (d.2.2.length:Int)).sum=((ds.take i).map fun d=>a0q (a2i wo d) (d.2.2.length:Int)).sum+a0q (a2i wo d) (d.2.2.length:Int):=by
    rw[List.take_add_one,hdi,List.map_append,List.sum_append]
    show _+[_].sum=_
    simp
   refine⟨_,rfl,_,rfl,e,_,rfl,.inl ⟨kvs,.inl d.1,hrd3,rfl,hv1.symm⟩,td,_,_,_,rfl,rfl,SqT.of ht3,a0k (j:=0) rfl,_,rfl,_,rfl,e,_,rfl,.inl ⟨kvs,.inl d.1,hrd3,rfl,hv1.symm⟩,td,_,_,_,rfl,rfl,SqT.of ht3,a0k (j:=1) rfl,a2i wo d,(d.2.2.length:Int),rfl,?_⟩
   refine⟨_,rfl,_,rfl,_,_,rfl,rfl,?_⟩
   have hr0:b0u os d.1 (-1) (b7k wo d)=b0u os d.1 (-1) ((b7k wo d).drop 0):=rfl
   have hpl:(b7k wo d).length=(a0q (a2i wo d) (d.2.2.length:Int)).toNat:=by unfold b7k;rw[List.length_map,List.length_range]
   refine⟨_,rfl,?_⟩
   refine⟨_,rfl,_,rfl,(by omega),(by omega),a2m (n:=(a0q (a2i wo d) (d.2.2.length:Int)).toNat) (fun j σ H4=>Same H2 H4∧∃ (l:Int) (x8:Option V),σ=[some (.ref e),some (.ref o),some (.ref t),x3,some (.int (((ds.take i).map fun d=>a0q (a2i wo d) (d.2.2.length:Int)).sum+a0q (a2i wo d) (d.2.2.length:Int))),some (.int d.1),some (.int (a0q (a2i wo d) (d.2.2.length:Int))),some (.int l),x8]∧-1≤l∧b0u os d.1 (-1) (b7k wo d)=b0u os d.1 l ((b7k wo d).drop j)) ⟨s3,-1,x8,rfl,Int.le_refl _,hr0⟩ ?_ ?_⟩
   ·rintro j σ H4 hj ⟨s4,l,x8,rfl,hl1,hr1⟩
    have epl:(b7k wo d)[j]?=some (j:Int):=by
     unfold b7k
     rw[List.getElem?_map,List.getElem?_range hj]
     rfl
    have hdj:(b7k wo d).drop j=(j:Int)::(b7k wo d).drop (j+1):=by rw[List.drop_eq_getElem_cons (List.getElem?_eq_some_iff.mp epl).1,(List.getElem?_eq_some_iff.mp epl).2]
    rw[hdj] at hr1
    have hr2:b0u os d.1 (-1) (b7k wo d)=if a1l os (d.1,(j:Int))≤l then false else b0u os d.1 (a1l os (d.1,(j:Int))) ((b7k wo d).drop (j+1)):=hr1
    have hak4:=s4 _ _ hak2
    refine⟨_,rfl,t,rfl,.inr ⟨_,.inl hak4⟩,_,rfl,_,rfl,(by show 2≤sizeLine;decide),fun g hg=>?_⟩
    have sg:=Same.upd (o:=HO.tup [.int d.1,.int (0+(j:Int))]) hg
    have ezj:(0:Int)+(j:Int)=(j:Int):=Int.zero_add _
    refine⟨_,rfl,_,.inr ⟨akv,kN2 (d.1,0+(j:Int)),g,.inl (sg _ _ hak4),rfl,a0b,rfl⟩,?_⟩
    rw[hav,ezj]
    rw[ezj] at sg
    have eg:(if a1l os (d.1,(j:Int)) < 0 then none else some (V.int (a1l os (d.1,(j:Int))))).getD (V.int (-1))=V.int (a1l os (d.1,(j:Int))):=by
     have:=e1n (d.1,(j:Int)) os
     by_cases z:a1l os (d.1,(j:Int)) < 0
     ·rw[if_pos z]
      show V.int (-1)=_
      congr 1
      omega
     ·rw[if_neg z];rfl
    show ∃ v,_∧rI0 _ ((if a1l os (d.1,(j:Int)) < 0 then none else some (V.int (a1l os (d.1,(j:Int))))).getD (V.int (-1))) v _ _
    rw[eg]
    refine⟨_,rfl,_,_,rfl,rfl,_,rfl,b0n (fun y=>?_) (fun y=>?_)⟩
    ·have y':=of_decide_eq_true y
     rw[if_pos y'] at hr2
     refine q0 ?_ _ (keepN (s4.trans sg))
     rw[hpb,hall,hr2,Bool.false_and,Bool.false_and]
    ·have y':¬ a1l os (d.1,(j:Int))≤l:=fun z=>y (decide_eq_true z)
     rw[if_neg y'] at hr2
     refine⟨_,rfl,_,rfl,_,rfl,(by show 2≤sizeLine;decide),fun g2 hg2=>?_⟩
     have sg2:=Same.upd (o:=HO.tup [.int d.1,.int (j:Int)]) hg2
     refine⟨t,.int (a1l os (d.1,(j:Int))),rfl,.inr ⟨akv,kN2 (d.1,(j:Int)),g2,.inl (sg2 _ _ (sg _ _ hak4)),rfl,a0b,?_⟩,?_⟩
     ·rw[hav,if_neg (by omega)]
     ·exact⟨s4.trans (sg.trans sg2),_,_,rfl,by omega,hr2⟩
   ·rintro σ H4 ⟨s4,l,x8,rfl,hl1,hr1⟩
    rw[←hpl,List.drop_length] at hr1
    have:b0u os d.1 (-1) (b7k wo d)=true:=hr1
    rw[this,Bool.true_and] at hall
    exact⟨s4,some (.int d.1),some (.int (a0q (a2i wo d) (d.2.2.length:Int))),some (.int l),x8,by rw[stk],hall⟩
  ·rintro σ H3 ⟨s3,x5,x6,x7,x8,rfl,hall⟩
   rw[hkl,List.drop_length] at hall
   rw[hkl,List.take_length]
   have hall':(ds.all fun d=>b0u os d.1 (-1) (b7k wo d))=true:=hall
   have ho3:=(keepN s3).lst ho
   refine⟨_,rfl,_,rfl,_,_,rfl,.inl ⟨_,SqL.of ho3,rfl⟩,rfl,_,rfl,?_⟩
   rw[d3y,hyl]
   by_cases z:(ds.map fun d=>a0q (a2i wo d) (d.2.2.length:Int)).sum=(os.length:Int)
   ·rw[decide_eq_true z]
    refine b5k ?_
    refine⟨_,rfl,q1 ?_ t H3 (keepN s3) ⟨akv,s3 _ _ hak2,hakl,hav⟩⟩
    rw[hpb,hall',decide_eq_true z]
    rfl
   ·rw[decide_eq_false z]
    refine c7i ?_
    refine q0 ?_ _ (keepN s3)
    rw[hpb,decide_eq_false z,Bool.and_false]
--@STAGE
def a4b (w:Option Str) (p:Ps) (os:List Nk) (n:Int):Int:=match c6e p n with
 | some d=>a1l os (d.1,a0q (a2i w d) (d.2.2.length:Int) - 1)
 | none=>0
def a8k (w:Option Str) (p:Ps) (os:List Nk) (n:Int):Int:=match c6e p n with
 | some d=>a1l os (d.1,a1y (a2i w d) (d.2.2.length:Int))
 | none=>0
def b7g (p:Ps) (k:Int):List Int:=((p.2.find? fun r=>decide (r.1=k)).map (·.2)).getD []
def b8j (os:List Nk) (q:Nk):Int:=if a1l os q < 0 then 0 else a1l os q
def d4f (w:Option Str) (p:Ps) (os:List Nk) (d:Dl) (k:Nat) (q:Pr):Bool:=decide (a2i w d="loose") || decide (q.2=a8s (a4b w p os) (b8j os (d.1,a3a (a2i w d) (k:Int))) 0 (b7g p q.1))
def c8x (w:Option Str) (p:Ps) (os:List Nk) (d:Dl) (k:Nat):Bool:=(d.2.2.getD k []).all (d4f w p os d k)
def c4b (w:Option Str) (p:Ps) (os:List Nk) (d:Dl):Bool:=c4i (c8x w p os d) 0 d.2.2.length
def e1j (w:Option Str) (p:Ps) (os:List Nk):Bool:=b3o w p.1 os && ((p.2.all fun r=>b4s (a4b w p os) (a8k w p os) r.2) && p.1.all (c4b w p os))
def e9u:Sp:=fun vs H Q _=>∃ (v:V) (o:Addr) (p:Ps) (w:Option Str) (ys:List V) (os:List Nk),vs=[v,.ref o,wV w]∧Tr H v (a3r p)∧c5l p∧d3d p∧e6k p∧(p.2.map (·.1)).Nodup∧H o=some (.lst ys)∧Nds H ys os∧os.length≤1000∧∀ H',KF H H'→Q (.bl (e1j w p os)) H'
theorem c8b {os:List Nk} {n:Int}:∀ {pls:List Int} {l:Int},-1≤l→b0u os n l pls=true→∀ pl∈pls,l < a1l os (n,pl)
 | [],_,_,_,pl,h=>by cases h
 | x::r,l,hl,h,pl,hm=>by
  have h':(if a1l os (n,x)≤l then false else b0u os n (a1l os (n,x)) r)=true:=h
  by_cases z:a1l os (n,x)≤l
  ·rw[if_pos z] at h'
   cases h'
  ·rw[if_neg z] at h'
   rcases List.mem_cons.mp hm with e | e
   ·rw[e];omega
   ·have:=c8b (by omega) h' pl e
    omega
theorem c3l {w:Option Str} {d:Dl} {pl:Int} (h0:0≤pl) (h1:pl < a0q (a2i w d) (d.2.2.length:Int)):pl∈b7k w d:=by
 unfold b7k
 exact List.mem_map.mpr ⟨pl.toNat,List.mem_range.mpr (by omega),Int.toNat_of_nonneg h0⟩
theorem d0q {K:PySem.W.Frag} {H:Hp}:∀ {mv:List V} {mk:List Mkr},Trs H mv (mk.map a4t)→∃ kvs,d5z K H mv kvs∧kvs.map (·.1)=mk.map (fun r=>Sum.inl r.1)∧∀ r∈mk,∃ l,(Sum.inl r.1,V.ref l)∈kvs∧H l=some (.lst (r.2.map V.int))
 | _,[],h=>by
  cases h
  exact⟨[],.nil,rfl,fun r hr=>by cases hr⟩
 | _,m::t,h=>by
  cases h with
  | cons h1 h2 =>
   obtain⟨kvs,a1,a2,a3⟩:=d0q (K:=K) h2
   obtain⟨b,l,rfl,hb,hl⟩:=b9e h1
   refine⟨(.inl m.1,.ref l)::kvs,.cons (SqT.of hb) a1,by rw[List.map_cons,List.map_cons,a2],fun r hr=>?_⟩
   rcases List.mem_cons.mp hr with e | e
   ·rw[e];exact⟨l,.head _,hl⟩
   ·obtain⟨l',m1,m2⟩:=a3 r e
    exact⟨l',.tail _ m1,m2⟩
theorem e2g {p:Ps} {kvs:List (Key×V)} {H:Hp} (nn:(p.2.map (·.1)).Nodup) (h2:kvs.map (·.1)=p.2.map (fun r=>Sum.inl r.1)) (h3:∀ r∈p.2,∃ l,(Sum.inl r.1,V.ref l)∈kvs∧H l=some (.lst (r.2.map V.int))) (k:Int):(∃ l,a4a kvs (.inl k)=some (.ref l)∧H l=some (.lst ((b7g p k).map V.int)))∨(a4a kvs (.inl k)=none∧b7g p k=[]):=by
 have nd:(kvs.map (·.1)).Nodup:=by rw[h2];exact List.pairwise_map.mpr (List.Pairwise.imp (fun z e=>z (Sum.inl.inj e)) (List.pairwise_map.mp nn))
 unfold b7g
 cases e:p.2.find? (fun r=>decide (r.1=k)) with
 | none =>
  refine .inr ⟨?_,rfl⟩
  cases ev:a4a kvs (.inl k) with
  | none=>rfl
  | some v =>
   have m:=c9h ev
   rw[h2] at m
   obtain⟨r,hr,e2⟩:=List.mem_map.mp m
   have:=List.find?_eq_none.mp e r hr
   exact absurd (decide_eq_true (Sum.inl.inj e2)) this
 | some r =>
  have hr:=List.mem_of_find?_eq_some e
  have hk:r.1=k:=of_decide_eq_true (List.find?_some (p:=fun r:Mkr=>decide (r.1=k)) e)
  obtain⟨l,m1,m2⟩:=h3 r hr
  exact .inl ⟨l,by rw[←hk];exact b1o nd m1,m2⟩
theorem KI.sm {H H':Hp} (s:Same H H') {e:Addr} {f:Int→Int} {ns:List Int} (h:KI H e f ns):KI H' e f ns:=let ⟨kvs,a,b⟩:=h;⟨kvs,s _ _ a,b⟩
theorem f0t {c:Bool} {A B:Prop} (h:c=true) (a:A):if c=true then A else B:=by rw[if_pos h];exact a
theorem e4v (T:Tx K mg):a3y P w K mg base CX0 3 T.d1x T.d2e ["_law_past_here","_law_order","_law_word"] e9u:=by
 refine T.d5k.ok a2w (fun vs H Q E h=>?_) (fun cdv A outer s H vs Q E hr h=>?_)
 ·obtain⟨v,o,p,wo,ys,os,rfl,_⟩:=h
  rfl
 ·obtain⟨v,o,p,wo,ys,os,rfl,tr,gp,gm,inm,nk,ho,hn,hz,q⟩:=h
  have hu:=a8v hr
  refine⟨_,(a0e (a0n (i:=3) a2w.nd rfl (Or.inl rfl) (a0l ((e0v T).mono (by decide)) hr rfl T.d6o T.d0b.kp T.d5x .nil a1m (a0a (a0o a0z (pv 0) a0c (fun _ _=>rfl)) (a0a (pv 2) a0d))))
   (a0e (a0n (i:=4) a2w.nd rfl (Or.inl rfl) (a0l ((d4d T).mono (by decide)) hr rfl T.c8z T.c0z.kp T.c6l .nil a1m (a0a (pv 3) (a0a (pv 1) a0d))))
   (a0e (a3n (a0t d6p (pv 4) b2u (a0x _))
   (a0g (a0s b2m))
   a1a)
   (a0e (a0n (i:=5) a2w.nd rfl (Or.inl rfl) a6r)
   (a0e (a0n (i:=6) a2w.nd rfl (Or.inl rfl) a6r)
   (a0e (a2o PassesOwn.never rfl (e0k (pv 3)) (a0i (i:=7) a2w.nd rfl (Or.inl rfl))
   (a0e (c0g (a1d hu (pv 3) (pv 7) (fun _ _=>rfl)) (b0k rfl (a0u (a0i (i:=8) a2w.nd rfl (Or.inl rfl)) (a0u (a0i (i:=9) a2w.nd rfl (Or.inl rfl)) a4o))))
   (a0e (a7j hu (pv 5) (pv 7) (a1d hu (pv 4) (a2f (a0a (pv 7) (a0a (a0v c1y (a0l ((b1g T).mono (by decide)) hr rfl T.b1t T.a9l.kp T.b2h .nil a1m (a0a (pv 8) (a0a (pv 9) a0d))) a0c) a0d))) (fun _ _=>rfl)) rfl)
   (a0g (a7j hu (pv 6) (pv 7) (a1d hu (pv 4) (a2f (a0a (pv 7) (a0a (a0l ((c9a T).mono (by decide)) hr rfl T.c3z T.b7v.kp T.c4h .nil a1m (a0a (pv 8) (a0a (pv 9) a0d))) a0d))) (fun _ _=>rfl)) rfl)))))
   (a0e (a0n (i:=10) a2w.nd rfl (Or.inl rfl) (a2y (a6y (K:=K) rfl rfl) (by rfl) T.b5a boot_dict (a0a (a0o a0z (pv 0) a0c (fun _ _=>rfl)) a0d)))
   (a0e (a2o PassesOwn.never rfl (a1r (a0o a0z (pv 0) a0c (fun _ _=>rfl))) (b0k rfl (a0u (a0i (i:=11) a2w.nd rfl (Or.inl rfl)) (a0u (a0i (i:=12) a2w.nd rfl (Or.inl rfl)) a4o)))
   (a0g (a3n (c7l (b8u (a0l ((c1u T).mono (by decide)) hr rfl T.b4q T.a9q.kp T.b4b .nil a1m (a0a (pv 5) (a0a (pv 6) (a0a (pv 12) a0d))))))
   (a0g (a0s b2m))
   a1a)))
   (a0e (a2o PassesOwn.never rfl (a1r (a0o a0z (pv 0) a0c (fun _ _=>rfl))) (b0k rfl (a0u (a0i (i:=7) a2w.nd rfl (Or.inl rfl)) (a0u (a0i (i:=13) a2w.nd rfl (Or.inl rfl)) (a0u (a0i (i:=9) a2w.nd rfl (Or.inl rfl)) a4o))))
   (a0e (a0n (i:=8) a2w.nd rfl (Or.inl rfl) (a0o a0z (a1d hu (pv 3) (pv 7) (fun _ _=>rfl)) a0c (fun _ _=>rfl)))
   (a0g (a2o PassesOwn.never rfl (a1o rfl T.a2z (a0a (a1b a1i (by rfl) T.a5j boot_len (a0a (pv 9) a0d)) a0d)) (a0i (i:=14) a2w.nd rfl (Or.inl rfl))
   (a0e (a0n (i:=15) a2w.nd rfl (Or.inl rfl) (b2k hu (pv 4) (a2f (a0a (pv 7) (a0a (a0l ((c8w T).mono (by decide)) hr rfl T.c5i T.b7z.kp T.c4o .nil a1m (a0a (pv 8) (a0a (pv 14) a0d))) a0d))) a0c ⟨rfl,rfl,rfl,rfl⟩))
   (a0g (a2o PassesOwn.never rfl (a1r (a0o a0w (pv 9) (pv 14) (fun _ _=>rfl))) (b0k rfl (a0u (a0i (i:=11) a2w.nd rfl (Or.inl rfl)) (a0u (a0i (i:=16) a2w.nd rfl (Or.inl rfl)) a4o)))
   (a0e (a0n (i:=12) a2w.nd rfl (Or.inl rfl) (b2k hu (pv 10) (pv 11) (a1k a0d) ⟨rfl,rfl,rfl,rfl⟩))
   (a0g (a3n (PW.pt (b3a (a0t d3v (pv 8) a1p (a0x _)) (a8l (c7l (b8u (a0l ((e2d T).mono (by decide)) hr rfl T.d5f T.d0s.kp T.d8j .nil a1m (a0a (pv 5) (a0a (pv 12) (a0a (pv 16) (a0a (pv 15) a0d))))))))))
   (a0g (a0s b2m))
   a1a))))))))))
   (a0g (a0s b2m))))))))))),?_⟩
  have z9:(2000:Nat)≤sizeLine:=by decide
  obtain⟨a,l,m,lv,mv,rfl,ha,hl,tl,hm,tm⟩:=a6f tr
  have hyl:=a5n hn
  have hdue:e1j wo p os=(b3o wo p.1 os && ((p.2.all fun r=>b4s (a4b wo p os) (a8k wo p os) r.2) && p.1.all (c4b wo p os))):=rfl
  refine⟨_,rfl,a,_,_,_,rfl,rfl,SqT.of ha,a0k (j:=0) rfl,_,rfl,.ref l,wo,p.1,rfl,.lst hl tl,gp.1,gp.2.1,fun e H1 s1 hw=>?_⟩
  refine⟨_,rfl,_,rfl,e,o,wo,p.1,ys,os,rfl,hw,(fun d hd=>(gp.2.2 d hd).2),gp.1,s1 _ _ ho,a5l s1 hn,hz,fun hpb H2 k2=>?_,fun hpb t H2 k2 hat=>?_⟩
  ·refine⟨_,rfl,rfl,_,rfl,c7i ?_⟩
   have hb:e1j wo p os=false:=by rw[hdue,hpb];rfl
   rw[hb] at q
   exact q H2 ((KF.of s1).trans k2)
  rw[hpb,Bool.true_and] at hdue
  refine⟨_,rfl,rfl,_,rfl,b5k ?_⟩
  have k02:=(KF.of s1).trans k2
  obtain⟨akv,hak,hakl,hav⟩:=hat
  obtain⟨kvs,hrd,hkeys,hval⟩:=hw.kf k2
  have hkl:kvs.length=p.1.length:=by
   have:=congrArg List.length hkeys
   rw[List.length_map,List.length_map] at this
   exact this
  have hgk:∀ (i:Nat) k x,kvs[i]?=some (k,x)→∃ d,p.1[i]?=some d∧k=.inl d.1:=fun i k x ei=>by
   have h1:(kvs.map (·.1))[i]?=some k:=by rw[List.getElem?_map,ei];rfl
   rw[hkeys,List.getElem?_map] at h1
   obtain⟨d,hd,rfl⟩:=Option.map_eq_some_iff.mp h1
   exact⟨d,hd,rfl⟩
  intro ka hka fa hfa
  have hkf:fa≠ka:=fun z=>by rw[z,a0b] at hfa;cases hfa
  have hfa2:H2 fa=none:=by rwa [a0h hkf] at hfa
  have s4:=(Same.upd (o:=HO.dK []) hka).trans (Same.upd (o:=HO.dK []) hfa)
  have b8n:∀ {b:Addr} {x:HO},H2 b=some x→b≠ka∧b≠fa:=fun eb=>⟨(fun z=>by rw[z,hka] at eb;cases eb),(fun z=>by rw[z,hfa2] at eb;cases eb)⟩
  have hne:e≠ka∧e≠fa:=by
   rcases hrd with y | ⟨_,y⟩<;>exact b8n y
  refine⟨_,rfl,e,kvs,rfl,(KF.of s4).rd hrd,fun ob H5 h5 k5 n5=>?_⟩
  have h5k:H5 ka=some (.dK []):=by rw[n5 ka hne.1.symm,a0h hkf.symm];exact a0b
  have h5f:H5 fa=some (.dK []):=by rw[n5 fa hne.2.symm];exact a0b
  have k25:KF H2 H5:=(KF.of s4).trans k5
  have hak5:H5 t=some (.dT akv):=by
   rcases k25 t _ hak with y | ⟨_,_,y,_⟩
   ·exact y
   ·cases y
  have hrise:∀ d∈p.1,∀ pl:Int,0≤pl→pl < a0q (a2i wo d) (d.2.2.length:Int)→0≤a1l os (d.1,pl):=fun d hd pl h0 h1=>by
   have h2:=(Bool.and_eq_true _ _ ▸ hpb:_∧_).1
   have h3:=List.all_eq_true.mp h2 d hd
   have:=c8b (Int.le_refl _) h3 pl (c3l h0 h1)
   omega
  have hpk:∀ d∈p.1,a4b wo p os d.1=a1l os (d.1,a0q (a2i wo d) (d.2.2.length:Int) - 1):=fun d hd=>by unfold a4b;rw[b3i gp.2.1 hd]
  have hpf:∀ d∈p.1,a8k wo p os d.1=a1l os (d.1,a1y (a2i wo d) (d.2.2.length:Int)):=fun d hd=>by unfold a8k;rw[b3i gp.2.1 hd]
  refine d2f (d:=e) (ob:=ob) (kvs:=kvs) (fun i σ H6=>(∀ b x,H5 b=some x→b≠ka→b≠fa→H6 b=some x)∧∃ (x7 x8 x9:Option V) (kk fk:List (Key×V)),σ=[some (.ref a),some (.ref o),some (wV wo),some (.ref e),some (.ref t),some (.ref ka),some (.ref fa),x7,x8,x9,none,none,none,none,none,none,none]∧H6 ka=some (.dK kk)∧kk.length≤i∧H6 fa=some (.dK fk)∧fk.length≤i∧(∀ d∈p.1.take i,a4a kk (.inl d.1)=some (.int (a4b wo p os d.1)))∧(∀ d∈p.1.take i,a4a fk (.inl d.1)=some (.int (a8k wo p os d.1)))) ⟨fun b x eb _ _=>eb,none,none,none,[],[],rfl,h5k,Nat.le_refl _,h5f,Nat.le_refl _,(fun d hd=>by cases hd),(fun d hd=>by cases hd)⟩ (fun i σ H6 ⟨fr,_⟩=>fr _ _ h5 hne.1 hne.2) ?_ ?_
  ·rintro i k0 x σ H6 hkx ⟨fr,x7,x8,x9,kk,fk,rfl,hkk,lkk,hfk,lfk,vk,vf⟩
   obtain⟨d,hdi,rfl⟩:=hgk i k0 x hkx
   have hi8:i < 8:=by have:=(List.getElem?_eq_some_iff.mp hdi).1;have:=gp.1;omega
   have hdm:d∈p.1:=List.mem_of_getElem? hdi
   obtain⟨td,hv1,ht1⟩:=hval d hdm
   have ht6:=fr _ _ (k25.tup ht1) (b8n ht1).1 (b8n ht1).2
   have hak6:=fr _ _ hak5 (b8n hak).1 (b8n hak).2
   have hrd6:Rd H6 e (.dK kvs):=.inr ⟨ob,fr _ _ h5 hne.1 hne.2⟩
   have sr:=c3f (w:=a2i wo d) (l:=(d.2.2.length:Int)) (by omega) (by have:=(gp.2.2 d hdm).2;omega)
   have fr2:0≤a1y (a2i wo d) (d.2.2.length:Int)∧a1y (a2i wo d) (d.2.2.length:Int) < a0q (a2i wo d) (d.2.2.length:Int):=by
    unfold a1y a0q
    split
    ·omega
    ·split<;>omega
   have hk0:=hrise d hdm (a0q (a2i wo d) (d.2.2.length:Int) - 1) (by omega) (by omega)
   have hf0:=hrise d hdm _ fr2.1 fr2.2
   refine⟨_,rfl,_,rfl,e,_,rfl,.inl ⟨kvs,.inl d.1,hrd6,rfl,hv1.symm⟩,td,_,rfl,SqT.of ht6,rfl,_,_,rfl,_,_,rfl,rfl,?_⟩
   refine⟨_,rfl,_,rfl,_,rfl,_,rfl,a2i wo d,(d.2.2.length:Int),rfl,_,_,rfl,rfl,(by show 2≤sizeLine;decide),fun g hg=>?_⟩
   have sg:=Same.upd (o:=HO.tup [.int d.1,.int (a0q (a2i wo d) (d.2.2.length:Int) - 1)]) hg
   refine⟨t,.int (a1l os (d.1,a0q (a2i wo d) (d.2.2.length:Int) - 1)),rfl,.inr ⟨akv,kN2 (d.1,a0q (a2i wo d) (d.2.2.length:Int) - 1),g,.inl (sg _ _ hak6),rfl,a0b,by rw[hav,if_neg (by omega)]⟩,?_⟩
   refine⟨_,rfl,_,rfl,ka,_,rfl,d3q.k (k:=.inl d.1) (sg _ _ hkk) (by omega),?_⟩
   have hfk2:upd (upd H6 g (HO.tup [.int d.1,.int (a0q (a2i wo d) (d.2.2.length:Int) - 1)])) ka (.dK (a6e kk (.inl d.1) (.int (a1l os (d.1,a0q (a2i wo d) (d.2.2.length:Int) - 1))))) fa=some (.dK fk):=by rw[a0h hkf];exact sg _ _ hfk
   have hak7:upd (upd H6 g (HO.tup [.int d.1,.int (a0q (a2i wo d) (d.2.2.length:Int) - 1)])) ka (.dK (a6e kk (.inl d.1) (.int (a1l os (d.1,a0q (a2i wo d) (d.2.2.length:Int) - 1))))) t=some (.dT akv):=by rw[a0h (b8n hak).1];exact sg _ _ hak6
   refine⟨_,rfl,_,rfl,_,rfl,_,rfl,a2i wo d,(d.2.2.length:Int),rfl,(by show 2≤sizeLine;decide),fun g2 hg2=>?_⟩
   have sg2:=Same.upd (o:=HO.tup [.int d.1,.int (a1y (a2i wo d) (d.2.2.length:Int))]) hg2
   refine⟨t,.int (a1l os (d.1,a1y (a2i wo d) (d.2.2.length:Int))),rfl,.inr ⟨akv,kN2 (d.1,a1y (a2i wo d) (d.2.2.length:Int)),g2,.inl (sg2 _ _ hak7),rfl,a0b,by rw[hav,if_neg (by omega)]⟩,?_⟩
   refine⟨_,rfl,_,rfl,fa,_,rfl,d3q.k (k:=.inl d.1) (sg2 _ _ hfk2) (by omega),?_⟩
   have tk:p.1.take (i+1)=p.1.take i++[d]:=by rw[List.take_add_one,hdi];rfl
   have put:∀ (kv:List (Key×V)) (f:Int→Int) (z:Int),f d.1=z→(∀ d∈p.1.take i,a4a kv (.inl d.1)=some (.int (f d.1)))→∀ d'∈p.1.take (i+1),a4a (a6e kv (.inl d.1) (.int z)) (.inl d'.1)=some (.int (f d'.1)):=fun kv f z hz' hv d' hd'=>by
    rw[a7p]
    by_cases y:d'.1=d.1
    ·rw[if_pos (by rw[y]),y,hz']
    ·rw[if_neg (fun u=>y (Sum.inl.inj u))]
     rw[tk] at hd'
     rcases List.mem_append.mp hd' with u | u
     ·exact hv d' u
     ·rw[List.mem_singleton.mp u] at y
      exact absurd rfl y
   refine⟨fun b x eb nb1 nb2=>by rw[a0h nb2];exact sg2 _ _ (by rw[a0h nb1];exact sg _ _ (fr _ _ eb nb1 nb2)),_,_,_,_,_,rfl,?_,?_,a0b,?_,put kk _ _ (hpk d hdm) vk,put fk _ _ (hpf d hdm) vf⟩
   ·rw[a0h hkf.symm]
    exact sg2 _ _ a0b
   ·exact Nat.le_trans (a3s kk _ _) (by omega)
   ·exact Nat.le_trans (a3s fk _ _) (by omega)
  rintro σ H6 ⟨fr,x7,x8,x9,kk,fk,rfl,hkk,lkk,hfk,lfk,vk,vf⟩
  rw[hkl,List.take_length] at vk vf
  have k26:KF H2 H6:=fun b x eb=>by
   obtain⟨n1,n2⟩:=b8n eb
   rcases k25 b x eb with y | ⟨kv,o',y1,y2⟩
   ·exact .inl (fr _ _ y n1 n2)
   ·exact .inr ⟨kv,o',y1,fr _ _ y2 n1 n2⟩
  have k06:=k02.trans k26
  have hrd6:Rd H6 e (.dK kvs):=.inr ⟨ob,fr _ _ h5 hne.1 hne.2⟩
  have hak6:=fr _ _ hak5 (b8n hak).1 (b8n hak).2
  have kiK:KI H6 ka (a4b wo p os) (p.1.map (·.1)):=⟨kk,hkk,fun n hn=>by obtain⟨d,hd,rfl⟩:=List.mem_map.mp hn;exact vk d hd⟩
  have kiF:KI H6 fa (a8k wo p os) (p.1.map (·.1)):=⟨fk,hfk,fun n hn=>by obtain⟨d,hd,rfl⟩:=List.mem_map.mp hn;exact vf d hd⟩
  obtain⟨mkv,hpr,hmk1,hmk2⟩:=d0q (K:=K) (tm.kf k06)
  have hml:mkv.length≤100:=by
   have:=congrArg List.length hmk1
   rw[List.length_map,List.length_map] at this
   have:=gm.1
   omega
  have hmnd:(mkv.map (·.1)).Nodup:=by rw[hmk1];exact List.pairwise_map.mpr (List.Pairwise.imp (fun z e=>z (Sum.inl.inj e)) (List.pairwise_map.mp nk))
  refine⟨_,rfl,a,_,_,_,rfl,rfl,SqT.of (k06.tup ha),a0k (j:=1) rfl,m,mv,mkv,rfl,k06.lst hm,hpr,(by omega),fun D hD=>?_⟩
  rw[b0w mkv [] (by rw[List.nil_append];exact hmnd),List.nil_append]
  have s7:=Same.upd (o:=HO.dK mkv) hD
  generalize e7:upd H6 D (.dK mkv)=H7 at s7 ⊢
  have hD7:H7 D=some (.dK mkv):=by rw[←e7];exact a0b
  have k07:=k06.trans (KF.of s7)
  have hml2:mv.length=p.2.length:=by rw[tm.len,List.length_map]
  refine⟨_,rfl,a,_,_,_,rfl,rfl,SqT.of (k07.tup ha),a0k (j:=1) rfl,m,rfl,⟨_,SqL.of (k07.lst hm)⟩,a4e (K:=K) (a:=m) (xs:=mv) (fun i σ H8=>H7=H8∧∃ (x11 x12:Option V),σ=[some (.ref a),some (.ref o),some (wV wo),some (.ref e),some (.ref t),some (.ref ka),some (.ref fa),x7,x8,x9,some (.ref D),x11,x12,none,none,none,none]∧(p.2.all fun r=>b4s (a4b wo p os) (a8k wo p os) r.2)=((p.2.drop i).all fun r=>b4s (a4b wo p os) (a8k wo p os) r.2)) ⟨rfl,none,none,rfl,rfl⟩ (fun i σ H8 _ ⟨e8,_⟩=>e8 ▸ SqL.of (k07.lst hm)) ?_ ?_⟩
  ·rintro i y σ H8 hy ⟨rfl,x11,x12,rfl,hall⟩
   obtain⟨dd,edd,td⟩:=tm.get hy
   rw[List.getElem?_map] at edd
   obtain⟨r,hri,rfl⟩:=Option.map_eq_some_iff.mp edd
   have hrm:r∈p.2:=List.mem_of_getElem? hri
   obtain⟨b,l',rfl,hb,hl'⟩:=b9e (td.kf k07)
   have hdr:p.2.drop i=r::p.2.drop (i+1):=by rw[List.drop_eq_getElem_cons (List.getElem?_eq_some_iff.mp hri).1,(List.getElem?_eq_some_iff.mp hri).2]
   rw[hdr,List.all_cons] at hall
   refine⟨b,_,rfl,SqT.of hb,rfl,_,_,rfl,_,_,rfl,rfl,?_⟩
   refine⟨_,rfl,_,rfl,_,rfl,ka,fa,l',a4b wo p os,a8k wo p os,r.2,p.1.map (·.1),rfl,kiK.sm s7,kiF.sm s7,hl',(fun x hx=>by obtain⟨d,hd,e2⟩:=inm r hrm x hx;exact List.mem_map.mpr ⟨d,hd,e2⟩),gm.2.1 r hrm,?_⟩
   cases hg:b4s (a4b wo p os) (a8k wo p os) r.2 with
   | true =>
    rw[hg,Bool.true_and] at hall
    exact⟨_,rfl,b5k ⟨rfl,_,_,rfl,hall⟩⟩
   | false =>
    rw[hg,Bool.false_and] at hall
    rw[hall,Bool.false_and] at hdue
    rw[hdue] at q
    exact⟨_,rfl,c7i (q _ k07)⟩
  rintro σ H8 ⟨rfl,x11,x12,rfl,hall⟩
  rw[hml2,List.drop_length] at hall
  have hall':(p.2.all fun r=>b4s (a4b wo p os) (a8k wo p os) r.2)=true:=hall
  rw[hall',Bool.true_and] at hdue
  have hll:lv.length=p.1.length:=by rw[tl.len,List.length_map]
  have hrd7:=(KF.of s7).rd hrd6
  have hak7:=s7 _ _ hak6
  refine⟨_,rfl,a,_,_,_,rfl,rfl,SqT.of (k07.tup ha),a0k (j:=0) rfl,l,rfl,⟨_,SqL.of (k07.lst hl)⟩,a4e (K:=K) (a:=l) (xs:=lv) (fun i σ H8=>Same H7 H8∧∃ (x7 x8 x9 x11 x12 x13 x14 x15 x16:Option V),σ=[some (.ref a),some (.ref o),some (wV wo),some (.ref e),some (.ref t),some (.ref ka),some (.ref fa),x7,x8,x9,some (.ref D),x11,x12,x13,x14,x15,x16]∧p.1.all (c4b wo p os)=(p.1.drop i).all (c4b wo p os)) ⟨Same.refl _,x7,x8,x9,x11,x12,none,none,none,none,rfl,rfl⟩ (fun i σ H8 _ ⟨s8,_⟩=>SqL.of (s8 _ _ (k07.lst hl))) ?_ ?_⟩
  ·rintro i y σ H8 hy ⟨s8,x7,x8,x9,x11,x12,x13,x14,x15,x16,rfl,hall⟩
   obtain⟨dd,edd,td⟩:=tl.get hy
   rw[List.getElem?_map] at edd
   obtain⟨d,hdi,rfl⟩:=Option.map_eq_some_iff.mp edd
   have hdm:d∈p.1:=List.mem_of_getElem? hdi
   obtain⟨pd,L,lkv,rfl,hpd,hL,tL⟩:=a7n (td.kf k07)
   have ll:lkv.length=d.2.2.length:=by rw[tL.len,List.length_map]
   have l40:=(gp.2.2 d hdm).2
   obtain⟨tw,hv1,ht1⟩:=hval d hdm
   have ht8:=s8 _ _ ((KF.of s7).tup (k26.tup ht1))
   have hdr:p.1.drop i=d::p.1.drop (i+1):=by rw[List.drop_eq_getElem_cons (List.getElem?_eq_some_iff.mp hdi).1,(List.getElem?_eq_some_iff.mp hdi).2]
   rw[hdr,List.all_cons] at hall
   refine⟨pd,_,rfl,SqT.of (s8 _ _ hpd),rfl,_,_,rfl,_,_,rfl,_,_,rfl,rfl,?_⟩
   refine⟨_,rfl,_,rfl,e,_,rfl,.inl ⟨kvs,.inl d.1,(KF.of s8).rd hrd7,rfl,hv1.symm⟩,tw,_,_,_,rfl,rfl,SqT.of ht8,a0k (j:=0) rfl,?_⟩
   refine⟨_,rfl,_,_,rfl,.inl ⟨_,SqL.of (s8 _ _ hL),rfl⟩,_,rfl,(by omega),(by omega),a2m (n:=((lkv.length:Nat):Int).toNat) (fun k σ H9=>Same H7 H9∧∃ (x11 x12 x14 x15 x16:Option V),σ=[some (.ref a),some (.ref o),some (wV wo),some (.ref e),some (.ref t),some (.ref ka),some (.ref fa),some (.int d.1),some (.str (a2i wo d)),some (.ref L),some (.ref D),x11,x12,some (.str d.2.1),x14,x15,x16]∧c4b wo p os d=c4i (c8x wo p os d) k d.2.2.length) ⟨s8,x11,x12,x14,x15,x16,rfl,rfl⟩ ?_ ?_⟩
   ·rintro k σ H9 hk' ⟨s9,x11,x12,x14,x15,x16,rfl,hdl⟩
    have hkl2:k < d.2.2.length:=by omega
    rw[b9g hkl2] at hdl
    refine⟨_,rfl,t,rfl,.inr ⟨_,.inl (s9 _ _ hak7)⟩,_,rfl,_,rfl,_,rfl,a2i wo d,0+(k:Int),rfl,(by show 2≤sizeLine;decide),fun g hg=>?_⟩
    rw[Int.zero_add]
    have sg:=Same.upd (o:=HO.tup [.int d.1,.int (a3a (a2i wo d) (k:Int))]) hg
    refine⟨_,.inr ⟨akv,kN2 (d.1,a3a (a2i wo d) (k:Int)),g,.inl (sg _ _ (s9 _ _ hak7)),rfl,a0b,rfl⟩,?_⟩
    have eg:(a4a akv (kN2 (d.1,a3a (a2i wo d) (k:Int)))).getD (V.int 0)=V.int (b8j os (d.1,a3a (a2i wo d) (k:Int))):=by
     rw[hav]
     unfold b8j
     split<;>rfl
    rw[eg]
    obtain⟨lk,hlk⟩:∃ lk,d.2.2[k]?=some lk:=⟨_,List.getElem?_eq_getElem hkl2⟩
    obtain⟨v1,hv2,tv⟩:=tL.at (i:=k) (d:=a6n lk) (by rw[List.getElem?_map,hlk];rfl)
    obtain⟨b,ws,rfl,hb,tws⟩:=a9j tv
    have s10:=s9.trans sg
    have elk:c8x wo p os d k=lk.all (d4f wo p os d k):=by
     unfold c8x
     simp only [List.getD,hlk,Option.getD_some]
    have hwl:ws.length=lk.length:=by rw[tws.len,List.length_map]
    have eat:atI lkv (k:Int)=some (.ref b):=a0k hv2
    refine⟨_,rfl,_,rfl,L,_,_,_,rfl,rfl,SqL.of (s10 _ _ hL),eat,b,rfl,⟨_,SqL.of (s10 _ _ hb)⟩,a4e (K:=K) (a:=b) (xs:=ws) (fun j σ H11=>Same H7 H11∧∃ (x11 x12 x16:Option V),σ=[some (.ref a),some (.ref o),some (wV wo),some (.ref e),some (.ref t),some (.ref ka),some (.ref fa),some (.int d.1),some (.str (a2i wo d)),some (.ref L),some (.ref D),x11,x12,some (.str d.2.1),some (.int (k:Int)),some (.int (b8j os (d.1,a3a (a2i wo d) (k:Int)))),x16]∧c8x wo p os d k=(lk.drop j).all (d4f wo p os d k)) ⟨s10,x11,x12,x16,rfl,elk⟩ (fun j σ H11 _ ⟨s11,_⟩=>SqL.of (s11 _ _ hb)) ?_ ?_⟩
    ·rintro j y σ H11 hy ⟨s11,x11,x12,x16,rfl,hlb⟩
     obtain⟨dd,edd,tq⟩:=tws.get hy
     rw[List.getElem?_map] at edd
     obtain⟨qq,hqj,rfl⟩:=Option.map_eq_some_iff.mp edd
     obtain⟨c,rfl,hc⟩:=b8t tq
     have hdr2:lk.drop j=qq::lk.drop (j+1):=by rw[List.drop_eq_getElem_cons (List.getElem?_eq_some_iff.mp hqj).1,(List.getElem?_eq_some_iff.mp hqj).2]
     rw[hdr2,List.all_cons] at hlb
     refine⟨c,_,rfl,SqT.of (s11 _ _ hc),rfl,_,_,rfl,_,_,rfl,rfl,?_⟩
     refine⟨_,rfl,D,rfl,.inl ⟨_,.inl (s11 _ _ hD7)⟩,_,rfl,?_⟩
     refine⟨(by show 0≤sizeLine;omega),fun nl hnl=>?_⟩
     have sn:=Same.upd (o:=HO.lst []) hnl
     have s12:=s11.trans sn
     refine⟨_,.inl ⟨mkv,.inl qq.1,.inl (s12 _ _ hD7),rfl,rfl⟩,?_⟩
     obtain⟨ma,ema,hma⟩:∃ ma,(a4a mkv (.inl qq.1)).getD (V.ref nl)=.ref ma∧upd H11 nl (.lst []) ma=some (.lst ((b7g p qq.1).map V.int)):=by
      rcases e2g nk hmk1 hmk2 qq.1 with ⟨l',e1,e2⟩ | ⟨e1,e2⟩
      ·exact⟨l',by rw[e1];rfl,s12 _ _ (s7 _ _ e2)⟩
      ·exact⟨nl,by rw[e1];rfl,by rw[e2];exact a0b⟩
     rw[ema]
     have hin:∀ x∈b7g p qq.1,x∈p.1.map (·.1):=fun x hx=>by
      unfold b7g at hx
      cases ef:p.2.find? (fun r=>decide (r.1=qq.1)) with
      | none =>
       rw[ef] at hx
       cases hx
      | some r =>
       rw[ef] at hx
       obtain⟨d',hd',e2⟩:=inm r (List.mem_of_find?_eq_some ef) x hx
       exact List.mem_map.mpr ⟨d',hd',e2⟩
     have epb:d4f wo p os d k qq=(decide (a2i wo d="loose") || decide (qq.2=a8s (a4b wo p os) (b8j os (d.1,a3a (a2i wo d) (k:Int))) 0 (b7g p qq.1))):=rfl
     refine⟨_,rfl,rfl,_,rfl,?_⟩
     by_cases z:a2i wo d="loose"
     ·rw[epb,decide_eq_true z,Bool.true_or,Bool.true_and] at hlb
      rw[z]
      exact b5k (b5k ⟨s12,_,_,_,rfl,hlb⟩)
     ·rw[epb,decide_eq_false z,Bool.false_or] at hlb
      refine f0t (by rw[decide_eq_false (fun y=>z (V.str.inj y))];rfl) ?_
      refine⟨_,rfl,_,rfl,_,rfl,_,rfl,ka,ma,a4b wo p os,b7g p qq.1,p.1.map (·.1),qq.2,b8j os (d.1,a3a (a2i wo d) (k:Int)),rfl,(kiK.sm s7).sm s12,hma,hin,?_⟩
      cases hg2:decide (qq.2=a8s (a4b wo p os) (b8j os (d.1,a3a (a2i wo d) (k:Int))) 0 (b7g p qq.1)) with
      | true =>
       rw[hg2,Bool.true_and] at hlb
       exact⟨_,rfl,b5k ⟨s12,_,_,_,rfl,hlb⟩⟩
      | false =>
       rw[hg2,Bool.false_and] at hlb
       rw[hlb,Bool.false_and] at hdl
       rw[hdl,Bool.false_and] at hall
       rw[hall] at hdue
       rw[hdue] at q
       exact⟨_,rfl,c7i (q _ (k07.trans (KF.of s12)))⟩
    ·rintro σ H11 ⟨s11,x11,x12,x16,rfl,hlb⟩
     rw[hwl,List.drop_length] at hlb
     have hlb2:c8x wo p os d k=true:=hlb
     rw[hlb2,Bool.true_and] at hdl
     exact⟨s11,_,_,_,_,_,rfl,hdl⟩
   ·rintro σ H9 ⟨s9,x11,x12,x14,x15,x16,rfl,hdl⟩
    have e9:((lkv.length:Nat):Int).toNat=d.2.2.length:=by omega
    rw[e9,c3w] at hdl
    rw[hdl,Bool.true_and] at hall
    exact⟨s9,_,_,_,_,_,_,_,_,_,rfl,hall⟩
  rintro σ H8 ⟨s8,x7,x8,x9,x11,x12,x13,x14,x15,x16,rfl,hall⟩
  rw[hll,List.drop_length] at hall
  have hall2:p.1.all (c4b wo p os)=true:=hall
  rw[hall2] at hdue
  rw[hdue] at q
  exact q _ (k07.trans (KF.of s8))
--@STAGE
theorem b1l {f:Nat→Bool} {n:Nat}:c4i f 0 n=true ↔ ∀ i,i < n→f i=true:=by
 unfold c4i
 rw[List.all_eq_true]
 constructor
 ·intro h i hi
  exact h i (List.mem_range'_1.mpr ⟨Nat.zero_le _,by omega⟩)
 ·intro h i hi
  have:=(List.mem_range'_1.mp hi).2
  exact h i (by omega)
theorem d1m (q:Nk):∀ (os:List Nk) (s l:Int),os.Nodup→(os.foldl (fun (s:Int×Int) x=>(s.1+1,if x=q then s.1 else s.2)) (s,l)).2=if q∈os then s+(os.idxOf q:Int) else l
 | [],s,l,_=>by simp
 | x::r,s,l,h=>by
  obtain⟨h1,h2⟩:=List.nodup_cons.mp h
  rw[List.foldl_cons,d1m q r _ _ h2]
  by_cases z:x=q
  ·subst z
   simp[h1]
  ·have z':¬ q=x:=fun y=>z y.symm
   simp only [if_neg z,List.mem_cons,z',false_or]
   by_cases y:q∈r
   ·rw[if_pos y,if_pos y,List.idxOf_cons]
    have:(x == q)=false:=by simpa using z
    rw[this]
    simp only [Bool.cond_false]
    omega
   ·rw[if_neg y,if_neg y]
theorem b9o {os:List Nk} (h:os.Nodup) {q:Nk} (m:q∈os):a1l os q=(os.idxOf q:Int):=by
 unfold a1l
 rw[d1m q os 0 (-1) h,if_pos m]
 omega
theorem a6w {os:List Nk} (h:os.Nodup) {q:Nk} {i:Nat} (e:os[i]?=some q):a1l os q=(i:Int):=by
 have hm:=List.mem_of_getElem? e
 obtain⟨hi,e'⟩:=List.getElem?_eq_some_iff.mp e
 rw[b9o h hm]
 have:=h.idxOf_getElem i hi
 rw[e'] at this
 rw[this]
theorem d2t (q:Nk):∀ (os:List Nk) (s l:Int),q ∉ os→(os.foldl (fun (s:Int×Int) x=>(s.1+1,if x=q then s.1 else s.2)) (s,l)).2=l
 | [],_,_,_=>rfl
 | x::r,s,l,h=>by
  rw[List.mem_cons,not_or] at h
  rw[List.foldl_cons,if_neg (fun y=>h.1 y.symm)]
  exact d2t q r _ _ h.2
theorem d6u {os:List Nk} {q:Nk} (h:0≤a1l os q):q∈os:=by
 by_cases m:q∈os
 ·exact m
 ·have:=d2t q os 0 (-1) m
  unfold a1l at h
  omega
theorem d4p {α:Type} [DecidableEq α]:∀ {S os:List α},S.Nodup→(∀ x∈S,x∈os)→os.length≤S.length→os.Perm S
 | [],os,_,_,h=>by
  have:os=[]:=List.length_eq_zero_iff.mp (by simpa using h)
  rw[this]
 | a::r,os,hn,hs,h=>by
  obtain⟨h1,h2⟩:=List.nodup_cons.mp hn
  have ha:=hs a (.head _)
  have p1:=List.perm_cons_erase ha
  have hl:=p1.length_eq
  refine p1.trans (List.Perm.cons a (d4p h2 (fun x hx=>?_) ?_))
  ·exact(List.mem_erase_of_ne (fun (z:x=a)=>h1 (z ▸ hx))).mpr (hs x (.tail _ hx))
  ·simp only [List.length_cons] at h hl
   omega
theorem c0c:∀ (os:List Nk) (r:Int→Int),b0o r os=true ↔ (∀ q∈os,r q.1≤q.2)∧os.Pairwise fun a b=>a.1=b.1→a.2≤b.2
 | [],r=>⟨fun _=>⟨(fun q h=>by cases h),.nil⟩,fun _=>rfl⟩
 | (n,pl)::t,r=>by
  show (if pl < r n then false else b0o (fun m=>if m=n then pl else r m) t)=true ↔ _
  rw[List.pairwise_cons]
  by_cases z:pl < r n
  ·rw[if_pos z]
   refine⟨(fun h=>by cases h),fun h=>?_⟩
   have:=h.1 (n,pl) (.head _)
   exact absurd (show r n≤pl from this) (by omega)
  ·rw[if_neg z,c0c t]
   constructor
   ·rintro⟨h1,h2⟩
    refine⟨fun q hq=>?_,fun b hb e=>?_,h2⟩
    ·rcases List.mem_cons.mp hq with e | e
     ·rw[e];show r n≤pl;omega
     ·have h3:(if q.1=n then pl else r q.1)≤q.2:=h1 q e
      by_cases y:q.1=n
      ·rw[if_pos y] at h3
       rw[y];omega
      ·rw[if_neg y] at h3
       exact h3
    ·have h3:(if b.1=n then pl else r b.1)≤b.2:=h1 b hb
     have e':n=b.1:=e
     rw[if_pos e'.symm] at h3
     exact h3
   ·rintro⟨h1,h2,h3⟩
    refine⟨fun q hq=>?_,h3⟩
    show (if q.1=n then pl else r q.1)≤q.2
    by_cases y:q.1=n
    ·rw[if_pos y]
     exact h2 q hq y.symm
    ·rw[if_neg y]
     exact h1 q (.tail _ hq)
theorem b8g {os:List Nk} {n:Int}:∀ (pls:List Int) (l:Int),b0u os n l pls=true ↔ (∀ pl∈pls,l < a1l os (n,pl))∧pls.Pairwise fun a b=>a1l os (n,a) < a1l os (n,b)
 | [],l=>⟨fun _=>⟨(fun q h=>by cases h),.nil⟩,fun _=>rfl⟩
 | pl::t,l=>by
  show (if a1l os (n,pl)≤l then false else b0u os n (a1l os (n,pl)) t)=true ↔ _
  rw[List.pairwise_cons]
  by_cases z:a1l os (n,pl)≤l
  ·rw[if_pos z]
   refine⟨(fun h=>by cases h),fun h=>?_⟩
   have:=h.1 pl (.head _)
   omega
  ·rw[if_neg z,b8g t]
   constructor
   ·rintro⟨h1,h2⟩
    refine⟨fun q hq=>?_,h1,h2⟩
    rcases List.mem_cons.mp hq with e | e
    ·rw[e];omega
    ·have:=h1 q e
     omega
   ·rintro⟨_,h2,h3⟩
    exact⟨h2,h3⟩
theorem b1u {x:Str} (h:x∈wds) (n:Int):a0q x n=a5b (lvS x) n∧a1y x n=c2n (lvS x) n∧(x="loose"→b1e (lvS x) n=none)∧(x≠"loose"→b1e (lvS x) n=some (a3a x n)):=by
 unfold wds at h
 simp only [List.mem_cons,List.not_mem_nil,or_false] at h
 rcases h with rfl | rfl | rfl | rfl | rfl
 ·exact⟨rfl,rfl,fun _=>rfl,fun z=>absurd rfl z⟩
 ·exact⟨rfl,rfl,(fun z=>absurd z (by decide +kernel)),fun _=>rfl⟩
 ·exact⟨rfl,rfl,(fun z=>absurd z (by decide +kernel)),fun _=>rfl⟩
 ·exact⟨rfl,rfl,(fun z=>absurd z (by decide +kernel)),fun _=>rfl⟩
 ·exact⟨rfl,rfl,(fun z=>absurd z (by decide +kernel)),fun _=>rfl⟩
def WdP (w:Option Str) (p:Ps):Prop:=(∀ d∈p.1,a2i w d∈wds)
theorem c7y {w:Option Str}:∀ {ds:List Dl},(∀ d∈ds,a2i w d∈wds)→(ds.map fun d=>a0q (a2i w d) (d.2.2.length:Int)).sum=((ds.flatMap (a1u w)).length:Int)
 | [],_=>rfl
 | d::r,h=>by
  rw[List.map_cons,List.sum_cons,List.flatMap_cons,List.length_append,c7y fun x hx=>h x (.tail _ hx)]
  have e:=(b1u (h d (.head _)) (d.2.2.length:Int)).1
  have e2:(a1u w d).length=(a5b (lvD w d) (d.2.2.length:Int)).toNat:=by unfold a1u;rw[List.length_map,List.length_range]
  have e3:lvS (a2i w d)=lvD w d:=rfl
  have e4:0≤a5b (lvD w d) (d.2.2.length:Int):=by
   generalize lvD w d=l
   cases l<;>simp only [a5b]<;>omega
  rw[e,e3,e2]
  omega
theorem a6d {w:Option Str} {p:Ps} (hw:WdP w p) {q:Nk}:q∈p.1.flatMap (a1u w) ↔ ∃ d∈p.1,d.1=q.1∧0≤q.2∧q.2 < a0q (a2i w d) (d.2.2.length:Int):=by
 rw[List.mem_flatMap]
 constructor
 ·rintro⟨d,hd,h⟩
  unfold a1u at h
  obtain⟨j,hj,rfl⟩:=List.mem_map.mp h
  have hj':=List.mem_range.mp hj
  refine⟨d,hd,rfl,by show (0:Int)≤(j:Int);omega,?_⟩
  rw[(b1u (hw d hd) (d.2.2.length:Int)).1]
  show (j:Int) < a5b (lvD w d) (d.2.2.length:Int)
  omega
 ·rintro⟨d,hd,e,h0,h1⟩
  rw[(b1u (hw d hd) (d.2.2.length:Int)).1] at h1
  have h1':q.2 < a5b (lvD w d) (d.2.2.length:Int):=h1
  refine⟨d,hd,?_⟩
  unfold a1u
  refine List.mem_map.mpr ⟨q.2.toNat,List.mem_range.mpr (by omega),?_⟩
  rw[Int.toNat_of_nonneg h0,e]
theorem d2y {w:Option Str} {p:Ps} (hr:c9y p):(p.1.flatMap (a1u w)).Nodup:=(b5x hr).imp fun {a b} h e=>by
 subst e
 rcases h with h | ⟨_,h⟩<;>omega
theorem e3l {w:Option Str} {d:Dl} {pl:Int} (h:pl∈b7k w d):0≤pl∧pl < a0q (a2i w d) (d.2.2.length:Int):=by
 unfold b7k at h
 obtain⟨j,hj,rfl⟩:=List.mem_map.mp h
 have:=List.mem_range.mp hj
 omega
theorem d2k (w:Option Str) (d:Dl):(b7k w d).Pairwise (· < ·):=by
 unfold b7k
 exact List.pairwise_map.mpr (List.pairwise_lt_range.imp fun {i j} hij=>by show (i:Int) < (j:Int);omega)
theorem e7s {α:Type} {R S:α→α→Prop}:∀ {l:List α},l.Pairwise R→l.Pairwise S→l.Pairwise fun a b=>R a b∧S a b
 | _,.nil,_=>.nil
 | _,.cons h t,h2=>by
  obtain⟨a,b⟩:=List.pairwise_cons.mp h2
  exact .cons (fun x hx=>⟨h x hx,a x hx⟩) (e7s t b)
theorem d3l {w:Option Str} {p:Ps} (hr:c9y p) (hw:WdP w p) (os:List Nk):b3o w p.1 os=true ↔ os.Perm (p.1.flatMap (a1u w))∧b0o (fun _=>0) os=true:=by
 have nd:=d2y (w:=w) hr
 unfold b3o
 rw[Bool.and_eq_true,List.all_eq_true,decide_eq_true_eq,c7y hw,c0c]
 constructor
 ·rintro⟨h1,h2⟩
  have hin:∀ d∈p.1,∀ pl:Int,0≤pl→pl < a0q (a2i w d) (d.2.2.length:Int)→0≤a1l os (d.1,pl):=fun d hd pl z0 z1=>by
   have:=((b8g _ _).mp (h1 d hd)).1 pl (c3l z0 z1)
   omega
  have hp:os.Perm (p.1.flatMap (a1u w)):=d4p nd (fun q hq=>by
   obtain⟨d,hd,e,z0,z1⟩:=(a6d hw).mp hq
   have:=hin d hd q.2 z0 z1
   rw[e] at this
   exact d6u this) (by omega)
  have ndo:os.Nodup:=hp.nodup_iff.mpr nd
  refine⟨hp,fun q hq=>?_,List.pairwise_iff_getElem.mpr fun i j hi hj hij e=>?_⟩
  ·obtain⟨d,hd,e,z0,z1⟩:=(a6d hw).mp (hp.mem_iff.mp hq)
   exact z0
  ·obtain⟨d,hd,e1,z0,z1⟩:=(a6d hw).mp (hp.mem_iff.mp (List.getElem_mem hi))
   obtain⟨d',hd',e2,y0,y1⟩:=(a6d hw).mp (hp.mem_iff.mp (List.getElem_mem hj))
   have ed:d'=d:=by
    have nn:(p.1.map (·.1)).Nodup:=List.Pairwise.imp (fun {a b} h=>Int.ne_of_lt h) hr
    have:=b3i nn hd
    rw[e1,e,←e2,b3i nn hd'] at this
    exact Option.some.inj this
   subst ed
   by_cases z:(os[i]'hi).2≤(os[j]'hj).2
   ·exact z
   ·exfalso
    have hrz:=(b8g _ _).mp (h1 d' hd)
    have pw:=e7s (d2k w d') hrz.2
    have m1:=c3l z0 z1
    have m2:=c3l y0 y1
    have key:∀ {l:List Int},l.Pairwise (fun a b=>a < b∧a1l os (d'.1,a) < a1l os (d'.1,b))→∀ a∈l,∀ b∈l,a < b→a1l os (d'.1,a) < a1l os (d'.1,b):=by
     intro l hl
     induction hl with
     | nil=>intro a ha;cases ha
     | cons h t ih =>
      intro a ha b hb hab
      rcases List.mem_cons.mp ha with ea | ea
      ·rcases List.mem_cons.mp hb with eb | eb
       ·rw[ea,eb] at hab;omega
       ·rw[ea];exact(h b eb).2
      ·rcases List.mem_cons.mp hb with eb | eb
       ·have:=(h a ea).1
        rw[eb] at hab;omega
       ·exact ih a ea b eb hab
    have lt:=key pw _ m2 _ m1 (by omega)
    have q1:a1l os (os[i]'hi)=(i:Int):=a6w ndo (List.getElem?_eq_getElem hi)
    have q2:a1l os (os[j]'hj)=(j:Int):=a6w ndo (List.getElem?_eq_getElem hj)
    have c1:(d'.1,(os[i]'hi).2)=os[i]'hi:=Prod.ext e1 rfl
    have c2:(d'.1,(os[j]'hj).2)=os[j]'hj:=Prod.ext e2 rfl
    rw[c1,c2,q1,q2] at lt
    omega
 ·rintro⟨hp,h0,hc⟩
  have ndo:os.Nodup:=hp.nodup_iff.mpr nd
  refine⟨fun d hd=>(b8g _ _).mpr ?_,by rw[hp.length_eq]⟩
  have mm:∀ pl∈b7k w d,∃ i:Nat,∃ hi:i < os.length,os[i]=(d.1,pl)∧a1l os (d.1,pl)=(i:Int):=fun pl hpl=>by
   obtain⟨z0,z1⟩:=e3l hpl
   have hm:(d.1,pl)∈os:=hp.mem_iff.mpr ((a6d hw).mpr ⟨d,hd,rfl,z0,z1⟩)
   obtain⟨i,hi,e⟩:=List.getElem_of_mem hm
   exact⟨i,hi,e,a6w ndo (by rw[List.getElem?_eq_getElem hi,e])⟩
  refine⟨fun pl hpl=>?_,?_⟩
  ·obtain⟨i,hi,e,el⟩:=mm pl hpl
   omega
  ·refine List.Pairwise.imp_of_mem (fun {a b} ha hb hab=>?_) (d2k w d)
   obtain⟨i,hi,e1,el1⟩:=mm a ha
   obtain⟨j,hj,e2,el2⟩:=mm b hb
   rw[el1,el2]
   by_cases z:i < j
   ·omega
   ·exfalso
    have ne:j≠i:=fun y=>by
     subst y
     rw[e1] at e2
     have:=congrArg Prod.snd e2
     have:a=b:=this
     omega
    have:=List.pairwise_iff_getElem.mp hc j i hj hi (by omega) (by rw[e1,e2])
    rw[e1,e2] at this
    have:b≤a:=this
    omega
--@STAGE
theorem e2y {K F:Int→Nat}:∀ {ms:List Int},(∀ m∈ms,F m≤K m)→(nbB K F ms=true ↔ ms.Pairwise fun a b=>K a < F b)
 | [],_=>⟨fun _=>.nil,fun _=>rfl⟩
 | [x],_=>⟨fun _=>List.pairwise_singleton _ _,fun _=>rfl⟩
 | a::b::r,h=>by
  have ih:=e2y (ms:=b::r) fun m hm=>h m (.tail _ hm)
  show (if F b≤K a then false else nbB K F (b::r))=true ↔ _
  by_cases z:F b≤K a
  ·rw[if_pos z]
   refine⟨(fun y=>by cases y),fun y=>?_⟩
   have:=(List.pairwise_cons.mp y).1 b (.head _)
   omega
  ·rw[if_neg z,ih]
   constructor
   ·intro y
    refine .cons (fun x hx=>?_) y
    rcases List.mem_cons.mp hx with e | e
    ·rw[e];omega
    ·have h1:=(List.pairwise_cons.mp y).1 x e
     have h2:=h b (.tail _ (.head _))
     omega
   ·exact fun y=>(List.pairwise_cons.mp y).2
theorem e1c {K F:Int→Int} {ms:List Int} (h1:∀ m∈ms,F m≤K m) (h2:∀ a∈ms,∀ b∈ms,a≠b→K a≠F b):b4s K F ms=true ↔ ms.Pairwise fun a b=>K a < F b:=by
 have hg:∀ (i:Nat) (hi:i < ms.length),ms.getD i 0=ms[i]:=fun i hi=>by simp[List.getD,hi]
 unfold b4s
 rw[b1l,List.pairwise_iff_getElem]
 constructor
 ·intro h i j hi hj hij
  have:=b1l.mp (h j hj) i hi
  unfold b2o at this
  rw[hg i hi,hg j hj] at this
  simp only [Bool.and_eq_true,Bool.not_eq_true',Bool.and_eq_false_iff,decide_eq_false_iff_not,ne_eq,Decidable.not_not] at this
  obtain⟨a1,a2⟩:=this
  have b1:¬ K ms[j]≤K ms[i]:=by
   rcases a1 with z | z
   ·exact absurd hij z
   ·exact z
  have ne:ms[i]≠ms[j]:=fun z=>b1 (by rw[z];exact Int.le_refl _)
  have n2:=h2 _ (List.getElem_mem hi) _ (List.getElem_mem hj) ne
  rcases a2 with z | z | z
  ·omega
  ·omega
  ·omega
 ·intro h k hk
  refine b1l.mpr fun j hj=>?_
  unfold b2o
  rw[hg k hk,hg j hj]
  simp only [Bool.and_eq_true,Bool.not_eq_true',Bool.and_eq_false_iff,decide_eq_false_iff_not,ne_eq,Decidable.not_not]
  have f1:=h1 _ (List.getElem_mem hk)
  have f2:=h1 _ (List.getElem_mem hj)
  by_cases z:j < k
  ·have:=h j k hj hk z
   exact⟨.inr (by omega),.inr (.inl (by omega))⟩
  ·refine⟨.inl z,?_⟩
   by_cases y:j=k
   ·exact .inl y
   ·have:=h k j hk hj (by omega)
    exact .inr (.inr (by omega))
theorem c7b {K:Int→Int} {s s':Int}:∀ {ms:List Int} {l:Int},(∀ m∈ms,(K m < s ↔ K m < s'))→a8s K s l ms=a8s K s' l ms
 | [],_,_=>rfl
 | m::r,l,h=>by
  show a8s K s (if K m < s then m else l) r=a8s K s' (if K m < s' then m else l) r
  have e:(if K m < s then m else l)=(if K m < s' then m else l):=by simp only [h m (.head _)]
  rw[e]
  exact c7b fun x hx=>h x (.tail _ hx)
theorem b8p {K:Int→Int} {s:Int}:∀ {ms:List Int} {l:Int},(∀ m∈ms,¬ K m < s)→a8s K s l ms=l
 | [],_,_=>rfl
 | m::r,l,h=>by
  show a8s K s (if K m < s then m else l) r=l
  rw[if_neg (h m (.head _))]
  exact b8p fun x hx=>h x (.tail _ hx)
theorem d1l {K:Int→Int} {i n:Int}:∀ {ms:List Int} {l:Int},ms.Pairwise (fun a b=>K a < K b)→n∈ms→K n=i→a8s K (i+1) l ms=n
 | m::r,l,h,hn,e=>by
  obtain⟨h1,h2⟩:=List.pairwise_cons.mp h
  show a8s K (i+1) (if K m < i+1 then m else l) r=n
  rcases List.mem_cons.mp hn with z | z
  ·subst z
   rw[if_pos (by omega)]
   exact b8p fun x hx=>by have:=h1 x hx;omega
  ·exact d1l h2 z e
def c9f (w:Option Str) (p:Ps):List Nk→(Int→Option Int)→(Int→Option Int)
 | [],c=>c
 | (n,pl)::t,c=>c9f w p t (match c6e p n with
  | some d=>a9k w p d pl c
  | none=>c)
theorem d1z (w:Option Str) (p:Ps):∀ (os:List Nk) (q:Nk) (c:Int→Option Int),c9f w p (os++[q]) c=match c6e p q.1 with
  | some d=>a9k w p d q.2 (c9f w p os c)
  | none=>c9f w p os c
 | [],q,c=>rfl
 | (n,pl)::t,q,c=>by
  show c9f w p (t++[q]) _=_
  rw[d1z w p t q]
  rfl
theorem d1k {w:Option Str} {p:Ps}:∀ {os:List Nk} {c:Int→Option Int},(∀ q∈os,∃ d,c6e p q.1=some d)→(b3j w p c os=true ↔ ∀ (i:Nat) q d,os[i]?=some q→c6e p q.1=some d→(a3j w d q.2).all (b0l (c9f w p (os.take i) c))=true)
 | [],c,_=>⟨(fun _ i q d e=>by cases e),fun _=>rfl⟩
 | (n,pl)::t,c,h=>by
  obtain⟨d,hd⟩:=h (n,pl) (.head _)
  have hd':c6e p n=some d:=hd
  have e:b3j w p c ((n,pl)::t)=if (a3j w d pl).all (b0l c)=true then b3j w p (a9k w p d pl c) t else false:=by
   show (match c6e p n with
    | some d=>if (a3j w d pl).all (b0l c)=true then b3j w p (a9k w p d pl c) t else false
    | none=>false)=_
   rw[hd']
  have ec:∀ i,c9f w p (((n,pl)::t).take (i+1)) c=c9f w p (t.take i) (a9k w p d pl c):=fun i=>by
   show c9f w p (t.take i) (match c6e p n with
    | some d=>a9k w p d pl c
    | none=>c)=_
   rw[hd']
  rw[e]
  have ih:=d1k (w:=w) (c:=a9k w p d pl c) fun q hq=>h q (List.mem_cons_of_mem _ hq)
  by_cases z:(a3j w d pl).all (b0l c)=true
  ·rw[if_pos z,ih]
   constructor
   ·intro y i q d' eq ed
    cases i with
    | zero =>
     cases eq
     rw[hd] at ed
     cases ed
     exact z
    | succ i =>
     rw[ec]
     exact y i q d' eq ed
   ·intro y i q d' eq ed
    have:=y (i+1) q d' eq ed
    rwa [ec] at this
  ·rw[if_neg z]
   refine⟨(fun y=>by cases y),fun y=>?_⟩
   exact absurd (y 0 (n,pl) d rfl hd) z
structure Okp (w:Option Str) (p:Ps) (os:List Nk):Prop where
 nn:(p.1.map (·.1)).Nodup
 hw:WdP w p
 hp:os.Perm (p.1.flatMap (a1u w))
 nd:os.Nodup
 inm:e6k p
 nk:(p.2.map (·.1)).Nodup
theorem b5v {w:Option Str} {p:Ps} (hw:WdP w p) {d:Dl} (hd:d∈p.1):a5i w d=(d.1,a0q (a2i w d) (d.2.2.length:Int) - 1)∧a5k w d=(d.1,a1y (a2i w d) (d.2.2.length:Int)):=by
 have e:=b1u (hw d hd) (d.2.2.length:Int)
 unfold a5i a5k
 rw[e.1,e.2.1]
 exact⟨rfl,rfl⟩
theorem Okp.keep {w:Option Str} {p:Ps} {os:List Nk} (k:Okp w p os) {d:Dl} (hd:d∈p.1):∃ i:Nat,os[i]?=some (a5i w d)∧a4b w p os d.1=(i:Int)∧d1f w p os d.1=i:=by
 have hm:a5i w d∈os:=k.hp.mem_iff.mpr (List.mem_flatMap.mpr ⟨d,hd,(b4v w).1⟩)
 have e:=b9o k.nd hm
 refine⟨os.idxOf (a5i w d),?_,?_,?_⟩
 ·have hl:=List.idxOf_lt_length_iff.mpr hm
  rw[List.getElem?_eq_getElem hl,List.getElem_idxOf hl]
 ·unfold a4b
  rw[b3i k.nn hd]
  show a1l os (d.1,a0q (a2i w d) (d.2.2.length:Int) - 1)=_
  rw[←(b5v k.hw hd).1]
  exact e
 ·unfold d1f
  rw[b3i k.nn hd]
theorem Okp.first {w:Option Str} {p:Ps} {os:List Nk} (k:Okp w p os) {d:Dl} (hd:d∈p.1):∃ i:Nat,os[i]?=some (a5k w d)∧a8k w p os d.1=(i:Int)∧d0d w p os d.1=i:=by
 have hm:a5k w d∈os:=k.hp.mem_iff.mpr (List.mem_flatMap.mpr ⟨d,hd,(b4v w).2⟩)
 have e:=b9o k.nd hm
 refine⟨os.idxOf (a5k w d),?_,?_,?_⟩
 ·have hl:=List.idxOf_lt_length_iff.mpr hm
  rw[List.getElem?_eq_getElem hl,List.getElem_idxOf hl]
 ·unfold a8k
  rw[b3i k.nn hd]
  show a1l os (d.1,a1y (a2i w d) (d.2.2.length:Int))=_
  rw[←(b5v k.hw hd).2]
  exact e
 ·unfold d0d
  rw[b3i k.nn hd]
theorem Okp.le {w:Option Str} {p:Ps} {os:List Nk} (k:Okp w p os) (hc:os.Pairwise fun a b=>a.1=b.1→a.2≤b.2) {d:Dl} (hd:d∈p.1):a8k w p os d.1≤a4b w p os d.1:=by
 obtain⟨i,ei,e1,_⟩:=k.first hd
 obtain⟨j,ej,e2,_⟩:=k.keep hd
 rw[e1,e2]
 by_cases z:i≤j
 ·omega
 ·exfalso
  obtain⟨hi,ei'⟩:=List.getElem?_eq_some_iff.mp ei
  obtain⟨hj,ej'⟩:=List.getElem?_eq_some_iff.mp ej
  have:=List.pairwise_iff_getElem.mp hc j i hj hi (by omega) (by rw[ei',ej'];rfl)
  rw[ei',ej',(b5v k.hw hd).1,(b5v k.hw hd).2] at this
  have h2:a0q (a2i w d) (d.2.2.length:Int) - 1≤a1y (a2i w d) (d.2.2.length:Int):=this
  have h3:a1y (a2i w d) (d.2.2.length:Int)≤a0q (a2i w d) (d.2.2.length:Int) - 1:=by
   unfold a1y a0q
   split
   ·omega
   ·split<;>omega
  have h4:a5i w d=a5k w d:=by rw[(b5v k.hw hd).1,(b5v k.hw hd).2,show a0q (a2i w d) (d.2.2.length:Int) - 1=a1y (a2i w d) (d.2.2.length:Int) by omega]
  have h5:=a6w k.nd ei
  have h6:=a6w k.nd ej
  rw[h4,h5] at h6
  omega
theorem d0e {w:Option Str} {p:Ps} {os:List Nk} (k:Okp w p os) {n:Int} (h:∃ d∈p.1,d.1=n):a4b w p os n=(d1f w p os n:Int)∧a8k w p os n=(d0d w p os n:Int):=by
 obtain⟨d,hd,rfl⟩:=h
 obtain⟨i,_,e1,e2⟩:=k.keep hd
 obtain⟨j,_,e3,e4⟩:=k.first hd
 rw[e1,e2,e3,e4]
 exact⟨rfl,rfl⟩
theorem d9q {α:Type} {R S:α→α→Prop} {l:List α} (h:∀ a∈l,∀ b∈l,(R a b ↔ S a b)):l.Pairwise R ↔ l.Pairwise S:=⟨fun z=>List.Pairwise.imp_of_mem (fun {a b} ha hb y=>(h a ha b hb).mp y) z,fun z=>List.Pairwise.imp_of_mem (fun {a b} ha hb y=>(h a ha b hb).mpr y) z⟩
theorem Okp.makers {w:Option Str} {p:Ps} {os:List Nk} (k:Okp w p os) (hc:os.Pairwise fun a b=>a.1=b.1→a.2≤b.2) {r:Mkr} (hr:r∈p.2):(b4s (a4b w p os) (a8k w p os) r.2=true ↔ r.2.Pairwise fun a b=>a4b w p os a < a8k w p os b)∧(nbB (d1f w p os) (d0d w p os) r.2=true ↔ r.2.Pairwise fun a b=>a4b w p os a < a8k w p os b):=by
 have hle:∀ m∈r.2,a8k w p os m≤a4b w p os m:=fun m hm=>by
  obtain⟨d,hd,rfl⟩:=k.inm r hr m hm
  exact k.le hc hd
 refine⟨e1c hle fun a ha b hb ne e=>?_,?_⟩
 ·obtain⟨d,hd,rfl⟩:=k.inm r hr a ha
  obtain⟨d',hd',rfl⟩:=k.inm r hr b hb
  obtain⟨i,ei,e1,_⟩:=k.keep hd
  obtain⟨j,ej,e2,_⟩:=k.first hd'
  rw[e1,e2] at e
  have:i=j:=by omega
  subst this
  rw[ei] at ej
  have e3:a5i w d=a5k w d':=Option.some.inj ej
  have e4:(a5i w d).1=(a5k w d').1:=congrArg Prod.fst e3
  exact ne e4
 ·rw[e2y fun m hm=>?_]
  ·refine d9q fun a ha b hb=>?_
   have h1:=(d0e k (k.inm r hr a ha)).1
   have h2:=(d0e k (k.inm r hr b hb)).2
   rw[h1,h2]
   omega
  ·have h1:=d0e k (k.inm r hr m hm)
   have:=hle m hm
   rw[h1.1,h1.2] at this
   omega
theorem e2n {p:Ps} (nk:(p.2.map (·.1)).Nodup) (n k:Int):(p.2.any fun r=>decide (r.1=k) && decide (n∈r.2))=true ↔ n∈b7g p k:=by
 unfold b7g
 generalize p.2=l at nk
 induction l with
 | nil=>exact⟨(fun h=>by cases h),(fun h=>by cases h)⟩
 | cons r t ih =>
  obtain⟨n1,n2⟩:=List.nodup_cons.mp nk
  rw[List.any_cons,List.find?_cons]
  by_cases z:r.1=k
  ·rw[decide_eq_true z]
   have:(t.any fun r=>decide (r.1=k) && decide (n∈r.2))=false:=by
    rw[List.any_eq_false]
    intro x hx y
    rw[Bool.and_eq_true,decide_eq_true_eq] at y
    exact n1 (List.mem_map.mpr ⟨x,hx,y.1.trans z.symm⟩)
   rw[this,Bool.or_false,Bool.true_and,decide_eq_true_eq]
   exact Iff.rfl
  ·rw[decide_eq_false z,Bool.false_and,Bool.false_or]
   exact ih n2
theorem Okp.cur {w:Option Str} {p:Ps} {os:List Nk} (k:Okp w p os) {key:Int} (hm:∀ x∈b7g p key,∃ d∈p.1,d.1=x) (hr:(b7g p key).Pairwise fun a b=>a4b w p os a < a4b w p os b):∀ i,i≤os.length→(c9f w p (os.take i) (fun _=>none) key).getD 0=a8s (a4b w p os) (i:Int) 0 (b7g p key)
 | 0,_=>by
  rw[List.take_zero]
  show 0=_
  refine(b8p fun m hm'=>?_).symm
  obtain⟨d,hd,rfl⟩:=hm m hm'
  obtain⟨j,_,e,_⟩:=k.keep hd
  rw[e]
  omega
 | i+1,hi=>by
  obtain⟨q,hq⟩:∃ q,os[i]?=some q:=⟨_,List.getElem?_eq_getElem (by omega)⟩
  have ih:=Okp.cur k hm hr i (by omega)
  have tk:os.take (i+1)=os.take i++[q]:=by rw[List.take_add_one,hq];rfl
  obtain⟨d,hd,e,_,_⟩:=(a6d k.hw).mp (k.hp.mem_iff.mp (List.mem_of_getElem? hq))
  have hdl:c6e p q.1=some d:=by rw[←e];exact b3i k.nn hd
  rw[tk,d1z,hdl]
  show (a9k w p d q.2 (c9f w p (os.take i) fun _=>none) key).getD 0=_
  have eq:(d.1,q.2)=q:=Prod.ext e rfl
  have hcast:((i+1:Nat):Int)=(i:Int)+1:=by omega
  rw[hcast]
  by_cases z:q=a5i w d∧d.1∈b7g p key
  ·have:a9k w p d q.2 (c9f w p (os.take i) fun _=>none) key=some d.1:=by
    unfold a9k
    rw[if_pos (by rw[eq];exact z.1),if_pos ((e2n k.nk _ _).mpr z.2)]
   rw[this]
   refine(d1l hr z.2 ?_).symm
   obtain⟨j,ej,e1,_⟩:=k.keep hd
   rw[e1]
   rw[z.1] at hq
   have h5:=a6w k.nd hq
   have h6:=a6w k.nd ej
   omega
  ·have:a9k w p d q.2 (c9f w p (os.take i) fun _=>none) key=c9f w p (os.take i) (fun _=>none) key:=by
    unfold a9k
    rw[eq]
    by_cases y:q=a5i w d
    ·rw[if_pos y,if_neg (fun u=>z ⟨y,(e2n k.nk _ _).mp u⟩)]
    ·rw[if_neg y]
   rw[this,ih]
   refine c7b fun m hm'=>?_
   obtain⟨d',hd',rfl⟩:=hm m hm'
   obtain⟨j,ej,e1,_⟩:=k.keep hd'
   rw[e1]
   have ne:j≠i:=fun y=>by
    subst y
    rw[hq] at ej
    have e3:q=a5i w d':=Option.some.inj ej
    have e4:q.1=d'.1:=congrArg Prod.fst e3
    rw[e4,b3i k.nn hd'] at hdl
    cases hdl
    exact z ⟨e3,hm'⟩
   omega
theorem Okp.deals {w:Option Str} {p:Ps} {os:List Nk} (k:Okp w p os) (hm:∀ r∈p.2,r.2.Pairwise fun a b=>a4b w p os a < a4b w p os b):b3j w p (fun _=>none) os=true ↔ p.1.all (c4b w p os)=true:=by
 have hmk:∀ key,(∀ x∈b7g p key,∃ d∈p.1,d.1=x)∧(b7g p key).Pairwise fun a b=>a4b w p os a < a4b w p os b:=fun key=>by
  unfold b7g
  cases e:p.2.find? (fun r=>decide (r.1=key)) with
  | none=>exact⟨(fun x hx=>by cases hx),.nil⟩
  | some r =>
   have hr:=List.mem_of_find?_eq_some e
   exact⟨k.inm r hr,hm r hr⟩
 have hcur:∀ key i,i≤os.length→(c9f w p (os.take i) (fun _=>none) key).getD 0=a8s (a4b w p os) (i:Int) 0 (b7g p key):=fun key i hi=>k.cur (hmk key).1 (hmk key).2 i hi
 have hdl:∀ q∈os,∃ d,c6e p q.1=some d:=fun q hq=>by
  obtain⟨d,hd,e,_,_⟩:=(a6d k.hw).mp (k.hp.mem_iff.mp hq)
  exact⟨d,by rw[←e];exact b3i k.nn hd⟩
 rw[d1k hdl,List.all_eq_true]
 constructor
 ·intro h d hd
  refine b1l.mpr fun j hj=>?_
  unfold c8x
  rw[List.all_eq_true]
  intro pr hpr
  unfold d4f
  by_cases z:a2i w d="loose"
  ·rw[decide_eq_true z,Bool.true_or]
  ·rw[decide_eq_false z,Bool.false_or,decide_eq_true_eq]
   have e:=b1u (k.hw d hd) (j:Int)
   have hl:b1e (lvD w d) (j:Int)=some (a3a (a2i w d) (j:Int)):=e.2.2.2 z
   have hs:(d.1,a3a (a2i w d) (j:Int))∈os:=k.hp.mem_iff.mpr ((a6d k.hw).mpr ⟨d,hd,rfl,by
    show 0≤a3a (a2i w d) (j:Int)
    unfold a3a
    split<;>omega,by
    show a3a (a2i w d) (j:Int) < a0q (a2i w d) (d.2.2.length:Int)
    unfold a3a a0q
    split
    ·omega
    ·split<;>omega⟩)
   obtain⟨i,hi,ei⟩:=List.getElem_of_mem hs
   have ei':os[i]?=some (d.1,a3a (a2i w d) (j:Int)):=by rw[List.getElem?_eq_getElem hi,ei]
   have hf:=h i _ d ei' (b3i k.nn hd)
   have hsp:b8j os (d.1,a3a (a2i w d) (j:Int))=(i:Int):=by
    unfold b8j
    rw[a6w k.nd ei',if_neg (by omega)]
   rw[hsp]
   have hmem:d.2.2.getD j []∈a3j w d (a3a (a2i w d) (j:Int)):=by
    unfold a3j
    refine List.mem_filterMap.mpr ⟨j,List.mem_range.mpr hj,?_⟩
    rw[if_pos hl,List.getElem?_eq_getElem hj]
    simp[List.getD,hj]
   have hb:=List.all_eq_true.mp hf _ hmem
   unfold b0l at hb
   have:=of_decide_eq_true (List.all_eq_true.mp hb pr hpr)
   rw[hcur pr.1 i (by omega)] at this
   exact this.symm
 ·intro h i q d ei ed
  have hdm:d∈p.1:=List.mem_of_find?_eq_some ed
  have hdq:d.1=q.1:=of_decide_eq_true (List.find?_some (p:=fun d:Dl=>decide (d.1=q.1)) ed)
  have hi:=(List.getElem?_eq_some_iff.mp ei).1
  rw[List.all_eq_true]
  intro lk hlk
  unfold a3j at hlk
  obtain⟨j,hj,e⟩:=List.mem_filterMap.mp hlk
  have hj':=List.mem_range.mp hj
  by_cases zl:b1e (lvD w d) (j:Int)=some q.2
  ·rw[if_pos zl] at e
   have es:=b1u (k.hw d hdm) (j:Int)
   have z:¬ a2i w d="loose":=fun y=>by
    have h3:b1e (lvD w d) (j:Int)=none:=es.2.2.1 y
    rw[h3] at zl
    cases zl
   have hl:b1e (lvD w d) (j:Int)=some (a3a (a2i w d) (j:Int)):=es.2.2.2 z
   rw[hl] at zl
   have epl:a3a (a2i w d) (j:Int)=q.2:=Option.some.inj zl
   have h1:=b1l.mp (h d hdm) j hj'
   unfold c8x at h1
   have elk:d.2.2.getD j []=lk:=by simp[List.getD,e]
   rw[elk] at h1
   unfold b0l
   rw[List.all_eq_true]
   intro pr hpr
   have h2:=List.all_eq_true.mp h1 pr hpr
   unfold d4f at h2
   rw[decide_eq_false z,Bool.false_or,decide_eq_true_eq,epl,hdq] at h2
   have hsp:b8j os (q.1,q.2)=(i:Int):=by
    unfold b8j
    rw[a6w k.nd ei,if_neg (by omega)]
   rw[hsp] at h2
   rw[decide_eq_true_eq,hcur pr.1 i (by omega)]
   exact h2.symm
  ·rw[if_neg zl] at e
   cases e
theorem e5y {w:Option Str} {p:Ps} {os:List Nk} (hr:c9y p) (hw:WdP w p) (inm:e6k p) (nk:(p.2.map (·.1)).Nodup):e1j w p os=true ↔ c7x w p os:=by
 have nn:(p.1.map (·.1)).Nodup:=List.Pairwise.imp (fun {a b} h=>Int.ne_of_lt h) hr
 unfold e1j c7x
 rw[Bool.and_eq_true,Bool.and_eq_true,d3l hr hw]
 have step:os.Perm (p.1.flatMap (a1u w))→b0o (fun _=>0) os=true→(((p.2.all fun r=>b4s (a4b w p os) (a8k w p os) r.2)=true∧p.1.all (c4b w p os)=true) ↔ (b3j w p (fun _=>none) os=true∧b0a w p os=true)):=fun hp hc=>by
  have k:Okp w p os:=⟨nn,hw,hp,hp.nodup_iff.mpr (d2y hr),inm,nk⟩
  have hc2:=((c0c os _).mp hc).2
  have h1:((p.2.all fun r=>b4s (a4b w p os) (a8k w p os) r.2)=true ↔ b0a w p os=true):=by
   unfold b0a
   rw[List.all_eq_true,List.all_eq_true]
   exact⟨fun h r hr'=>(k.makers hc2 hr').2.mpr ((k.makers hc2 hr').1.mp (h r hr')),fun h r hr'=>(k.makers hc2 hr').1.mpr ((k.makers hc2 hr').2.mp (h r hr'))⟩
  have h2:b0a w p os=true→(b3j w p (fun _=>none) os=true ↔ p.1.all (c4b w p os)=true):=fun hf=>k.deals fun r hr'=>by
   unfold b0a at hf
   have:=(k.makers hc2 hr').2.mp (List.all_eq_true.mp hf r hr')
   refine List.Pairwise.imp_of_mem (fun {a b} ha hb y=>?_) this
   obtain⟨d,hd,rfl⟩:=inm r hr' b hb
   have:=k.le hc2 hd
   omega
  rw[h1]
  exact⟨fun ⟨a,b⟩=>⟨(h2 a).mpr b,a⟩,fun ⟨a,b⟩=>⟨b,(h2 b).mp a⟩⟩
 exact⟨fun ⟨⟨a,b⟩,c⟩=>⟨a,b,(step a b).mp c⟩,fun ⟨a,b,c⟩=>⟨⟨a,b⟩,(step a b).mpr c⟩⟩
--@STAGE
def c1l (c k:Int):Int:=((c+7919*k+5)*48271%2147483647)*((c+7919*k+5)*48271%2147483647)%2147483629
theorem c9l (c k:Int):0≤c1l c k:=Int.emod_nonneg _ (by decide)
theorem e5u (c k:Int):c1l c k < 2147483629:=Int.emod_lt_of_pos _ (by decide)
def f0i:Sp:=fun vs H Q _=>∃ c k:Int,vs=[.int c,.int k]∧Q (.int (c1l c k)) H
def e7e (K:PySem.W.Frag):Sp:=fun vs H Q _=>∃ (a:Addr) (ns:List Int) (k:Int),vs=[.ref a,.int k]∧SqL K H a (ns.map V.int)∧0≤k∧∀ c:Int,Q (.int c) H
abbrev Drn:=Int×Str×Int
def e2f (d:Drn):PyData:=.tuple [.int d.1,.str d.2.1,.int d.2.2]
def e4a (ds:List Drn):Prop:=ds.length≤8∧(ds.map (·.1)).Pairwise (· < ·)∧(∀ d∈ds,1≤d.1∧d.1≤8∧d.2.1∈wds∧0≤d.2.2∧d.2.2≤7)∧(3 < ds.length→∀ d∈ds,d.2.2≤3)
def e5a (K:PySem.W.Frag):Sp:=fun vs H Q _=>∃ (a:Addr) (ns:List Int) (wv:V),vs=[.ref a,wv]∧SqL K H a (ns.map V.int)∧(wv=.non∨∃ x∈wds,wv=.str x) ∧
 ∀ v H' ds,Same H H'→Tr (off H H') v (.list (ds.map e2f))→e4a ds→(∀ x,wv=.str x→∀ d∈ds,d.2.1=x)→Q v H'
def cnt (os:List Pr) (i:Nat) (n:Int):Nat:=((os.take i).filter fun p=>p.1 == n).length
def e6l (ds:List Drn) (os:List Pr):Prop:=∀ i n g,os[i]?=some (n,g)→g=(cnt os i n:Int)∧∃ d∈ds,d.1=n∧g < a0q d.2.1 d.2.2
def e5t (K:PySem.W.Frag):Sp:=fun vs H Q _=>∃ (a:Addr) (ns:List Int) (dv:V) (ds:List Drn),vs=[.ref a,dv]∧SqL K H a (ns.map V.int)∧Tr H dv (.list (ds.map e2f))∧e4a ds ∧
 ∀ v H' os,Same H H'→Tr (off H H') v (.list (os.map b3h))→e6l ds os→os.length≤32→Q v H'
def e7c (ks:List Int):Prop:=ks.length=4∧ks.Pairwise (· < ·)
def e7k:Sp:=fun vs H Q _=>∃ c:Int,vs=[.int c]∧0≤c∧c < 2147483629∧∀ D H' ks,H D=none→Same H H'→H' D=some (.lst (ks.map V.int))→e7c ks→Q (.ref D) H'
def e2s (ks ls:List Int) (l:Lk):Prop:=(l.map (·.1)).Pairwise (· < ·)∧l.length≤4∧∀ p∈l,∃ j:Nat,j < 4∧ks[j]?=some p.1∧(p.2=-1∨ls[j]?=some p.2)
def e8t:Sp:=fun vs H Q _=>∃ (ka la:Addr) (ks ls:List Int) (n:Int) (b:Bool),vs=[.ref ka,.ref la,.int n,.bl b]∧H ka=some (.lst (ks.map V.int))∧H la=some (.lst (ls.map V.int))∧e7c ks∧ls.length=4 ∧
 ∀ v H' l f,Same H H'→TF H' v (a6n l) f→f.Nodup→(∀ b∈f,H b=none)→e2s ks ls l→Q v H'
theorem a2n (T:Tx K mg):a3y P w K mg base CX0 1 T.b8d T.b7u ["_law_cell_here","_law_k"] f0i:=by
 refine T.a2v.ok c8g (fun vs H Q E h=>?_) (fun cdv A outer s H vs Q E hr h=>?_)
 ·obtain⟨c,k,rfl,_⟩:=h
  rfl
 ·obtain⟨c,k,rfl,q⟩:=h
  refine⟨_,(a0e (a0n (i:=2) c8g.nd rfl (Or.inl rfl) (a0v a2e (a0v b8o (a0v a3z (a0v a3z (pv 0) (a0v b8o a0c (pv 1))) a0c) a0c) a0c))
   (a0g (a0s (a0v a2e (a0v b8o (pv 2) (pv 2)) a0c)))),?_⟩
  refine⟨_,rfl,_,rfl,_,_,rfl,rfl,.inl ⟨by decide,by decide⟩,_,_,rfl,rfl,_,_,rfl,rfl,_,_,rfl,rfl,.inr ⟨by decide,by decide⟩,_,_,rfl,rfl,(by show (0:Int) < 2147483647;decide),?_⟩
  have a1:=Int.emod_nonneg ((c+7919*k+5)*48271) (show (2147483647:Int)≠0 by decide)
  have a2:=Int.emod_lt_of_pos ((c+7919*k+5)*48271) (show (0:Int) < 2147483647 by decide)
  exact⟨_,rfl,_,rfl,_,_,rfl,rfl,.inl ⟨by omega,by omega⟩,_,_,rfl,rfl,(by show (0:Int) < 2147483629;decide),q⟩
theorem b1z (T:Tx K mg):a3y P w K mg base CX0 2 T.c3o T.c4r ["_law_script","_law_k"] (e7e K):=by
 refine T.b0q.ok e0w (fun vs H Q E h=>?_) (fun cdv A outer s H vs Q E hr h=>?_)
 ·obtain⟨a,ns,k,rfl,_⟩:=h
  rfl
 ·obtain⟨a,ns,k,rfl,ha,hk,q⟩:=h
  refine⟨_,(a0e (a3n (a0t c8n (pv 1) (a1b a1i (by rfl) T.a5j boot_len (a0a (pv 0) a0d)) (a0x _))
   (a0g (a0s (a0o a0w (pv 0) (pv 1) (fun _ _=>rfl))))
   a1a)
   (a0e (a3n (a0t e6a (a1b a1i (by rfl) T.a5j boot_len (a0a (pv 0) a0d)) a0c (a0x _))
   (a0g (a0s (a0l ((a2n T).mono (by decide)) hr rfl T.a3c T.a2v.kp T.a3i .nil a1m (a0a (a0o a0w (pv 0) (a0v a2e (pv 1) (a1b a1i (by rfl) T.a5j boot_len (a0a (pv 0) a0d))) (fun _ _=>rfl)) (a0a (pv 1) a0d)))))
   a1a)
   (a0g (a0s (a0l ((a2n T).mono (by decide)) hr rfl T.a3c T.a2v.kp T.a3i .nil a1m (a0a a0c (a0a (pv 1) a0d))))))),?_⟩
  refine⟨_,rfl,_,rfl,_,_,rfl,.inl ⟨_,ha,rfl⟩,_,_,rfl,rfl,_,rfl,b0n (fun e=>?_) (fun e=>?_)⟩
  ·have e1:k < ((ns.map V.int).length:Int):=of_decide_eq_true e
   obtain⟨v,hv⟩:=d2b (xs:=ns.map V.int) hk e1
   obtain⟨z,hz,rfl⟩:=List.mem_map.mp (c4v hv)
   exact⟨_,rfl,_,rfl,a,_,_,_,rfl,rfl,ha,hv,q z⟩
  ·refine⟨_,rfl,_,_,rfl,.inl ⟨_,ha,rfl⟩,_,_,rfl,rfl,_,rfl,b0n (fun e2=>?_) (fun e2=>?_)⟩
   ·have e3:(0:Int) < ((ns.map V.int).length:Int):=of_decide_eq_true e2
    obtain⟨v,hv⟩:=d2b (xs:=ns.map V.int) (Int.emod_nonneg k (Int.ne_of_gt e3)) (Int.emod_lt_of_pos k e3)
    obtain⟨z,hz,rfl⟩:=List.mem_map.mp (c4v hv)
    exact⟨_,rfl,_,rfl,_,rfl,_,_,rfl,.inl ⟨_,ha,rfl⟩,_,_,rfl,rfl,e3,a,_,_,_,rfl,rfl,ha,hv,_,rfl,_,_,rfl,q _⟩
   ·exact⟨_,rfl,_,_,rfl,q _⟩
theorem a1f {xs:List V} {i:Int} {v:V} (j:Nat) (e:i=(j:Int)) (h:xs[j]?=some v):atI xs i=some v:=by
 rw[e]
 exact a0k h
theorem e3m (b st:Int) (h:1≤st):([b,b+st,b+2*st,b+3*st]).Pairwise (· < ·):=by
 refine List.pairwise_cons.mpr ⟨fun x hx=>?_,List.pairwise_cons.mpr ⟨fun x hx=>?_,List.pairwise_cons.mpr ⟨fun x hx=>?_,List.pairwise_singleton _ _⟩⟩⟩<;>simp only [List.mem_cons,List.not_mem_nil,or_false] at hx<;>omega
theorem d9v (T:Tx K mg):a3y P w K mg base CX0 1 T.c5k T.c6c ["_law_cell_here"] e7k:=by
 refine T.c9n.ok b7o (fun vs H Q E h=>?_) (fun cdv A outer s H vs Q E hr h=>?_)
 ·obtain⟨c,rfl,_⟩:=h
  rfl
 ·obtain⟨c,rfl,c0,c1,q⟩:=h
  refine⟨_,(a0e (a0n (i:=1) b7o.nd rfl (Or.inr rfl) (a0v a2e (a0v b8o (a0v a3z (pv 0) a0c) a0c) (a0v e2w a0c a0c)))
   (a0e (a0n (i:=1) b7o.nd rfl (Or.inr rfl) (a0o a0w (a1k (a0a a0c (a0a (d3m c2u a0c) (a0a (pv 1) (a0a (a0v c1y a0c (pv 1)) a0d))))) (a0v a2e (pv 0) a0c) (fun _ _=>rfl)))
   (a0e (a0n (i:=2) b7o.nd rfl (Or.inr rfl) (a0v a3z a0c (a0v b8o (a0v a2e (a0v a7l (pv 0) a0c) a0c) (a0v a2e (a0v a7l (pv 0) a0c) (a0v e2w a0c a0c)))))
   (a0g (a0s (a3p ["_law_k"] rfl (a3b.mk (fv:=["_law_base","_law_step"]) (js:=[1,2]) rfl (by decide +kernel) (by decide +kernel) (by decide +kernel) (a1q (Or.inl rfl) (a1q (Or.inl rfl) a2l)) rfl (by decide +kernel)) (a1o rfl T.a2z (a0a a0c a0d)) (fun _ _ _ _ _=>(a0i (i:=0) (show (["_law_k","_law_base","_law_step"]:List Str).Nodup by decide +kernel) rfl (Or.inl rfl))) (fun _ _ _ _ _=>b0j) (fun _ _ _ _ _=>(a0v a3z (pv 1) (a0v b8o (pv 0) (pv 2)))))))))),?_⟩
  have e27:(10:Int) ^ (27:Int).toNat=1000000000000000000000000000:=by decide
  have x0:=Int.emod_nonneg (c / 4) (show (3:Int)≠0 by decide)
  have x1:=Int.emod_lt_of_pos (c / 4) (show (0:Int) < 3 by decide)
  have y0:=Int.emod_nonneg (c / 12) (show (10:Int) ^ (27:Int).toNat≠0 by decide)
  have y1:=Int.emod_lt_of_pos (c / 12) (show (0:Int) < (10:Int) ^ (27:Int).toNat by decide)
  refine⟨_,rfl,_,_,rfl,rfl,_,_,rfl,rfl,.inl ⟨by omega,by omega⟩,_,_,rfl,rfl,⟨by decide,by decide,by decide⟩,_,_,rfl,rfl,(by show (0:Int) < (10:Int) ^ (28:Int).toNat;decide),?_⟩
  refine⟨_,rfl,_,rfl,_,rfl,_,_,rfl,rfl,(by show 4≤sizeLine;decide),fun p hp=>?_⟩
  have s1:=Same.upd (o:=HO.lst [.int 0,.int (-2),.int ((c+1)*618033988749894848%(10:Int) ^ (28:Int).toNat),.int (0 - ((c+1)*618033988749894848%(10:Int) ^ (28:Int).toNat))]) hp
  have hb:∃ b:Int,atI [V.int 0,.int (-2),.int ((c+1)*618033988749894848%(10:Int) ^ (28:Int).toNat),.int (0 - ((c+1)*618033988749894848%(10:Int) ^ (28:Int).toNat))] (c%4)=some (.int b):=by
   have h4:c%4=0∨c%4=1∨c%4=2∨c%4=3:=by omega
   rcases h4 with z | z | z | z
   ·exact⟨_,a1f 0 z rfl⟩
   ·exact⟨_,a1f 1 z rfl⟩
   ·exact⟨_,a1f 2 z rfl⟩
   ·exact⟨_,a1f 3 z rfl⟩
  obtain⟨b,hb1⟩:=hb
  refine⟨_,rfl,_,_,rfl,rfl,(by show (0:Int) < 4;decide),p,_,_,_,rfl,rfl,SqL.of a0b,hb1,?_⟩
  refine⟨_,rfl,_,_,rfl,rfl,⟨by decide,by decide⟩,_,_,rfl,rfl,(by show (0:Int) < 3;decide),_,rfl,_,_,rfl,rfl,⟨by decide,by decide⟩,_,_,rfl,rfl,⟨by decide,by decide,by decide⟩,_,_,rfl,rfl,(by show (0:Int) < (10:Int) ^ (27:Int).toNat;decide),_,_,rfl,rfl,.inl ⟨by omega,by omega⟩,_,_,rfl,rfl,?_⟩
  have hS:∃ S:Int,1+c / 4%3*(c / 12%(10:Int) ^ (27:Int).toNat)=S∧1≤S∧S≤3000000000000000000000000000:=by
   generalize c / 12%(10:Int) ^ (27:Int).toNat=Y at *
   rw[e27] at y1
   have:c / 4%3=0∨c / 4%3=1∨c / 4%3=2:=by omega
   refine⟨_,rfl,?_⟩
   rcases this with z | z | z<;>rw[z]<;>omega
  obtain⟨S',eS,g1,g2⟩:=hS
  subst eS
  refine⟨4,rfl,by decide,by decide,b6f (k:=1) (fs:=[some (.int b),some (.int (1+c / 4%3*(c / 12%(10:Int) ^ (27:Int).toNat)))]) 4 (fun i=>some (.int (b+(0+(i:Int))*(1+c / 4%3*(c / 12%(10:Int) ^ (27:Int).toNat))))) rfl (by decide) (fun j H3 _ hj=>hj) (fun H3 _=>Nat.le_refl 4) ?_ ?_⟩
  ·rintro j H4 ts v H5 R ss hj hts ⟨rfl,rfl⟩ cb
   obtain⟨t,rfl⟩:=List.length_eq_one_iff.mp hts
   exact⟨_,rfl,_,rfl,_,rfl,_,_,rfl,rfl,.inl ⟨by omega,by omega⟩,_,_,rfl,rfl,cb [_] _ rfl (Same.refl _)⟩
  ·intro D H4 hD ss hd
   have ek:(List.range 4).filterMap (fun (i:Nat)=>some (V.int (b+(0+(i:Int))*(1+c / 4%3*(c / 12%(10:Int) ^ (27:Int).toNat)))))=([b,b+(1+c / 4%3*(c / 12%(10:Int) ^ (27:Int).toNat)),b+2*(1+c / 4%3*(c / 12%(10:Int) ^ (27:Int).toNat)),b+3*(1+c / 4%3*(c / 12%(10:Int) ^ (27:Int).toNat))]:List Int).map V.int:=by
    show [V.int (b+(0+((0:Nat):Int))*(1+c / 4%3*(c / 12%(10:Int) ^ (27:Int).toNat))),V.int (b+(0+((1:Nat):Int))*(1+c / 4%3*(c / 12%(10:Int) ^ (27:Int).toNat))),V.int (b+(0+((2:Nat):Int))*(1+c / 4%3*(c / 12%(10:Int) ^ (27:Int).toNat))),V.int (b+(0+((3:Nat):Int))*(1+c / 4%3*(c / 12%(10:Int) ^ (27:Int).toNat)))]=[V.int b,V.int (b+(1+c / 4%3*(c / 12%(10:Int) ^ (27:Int).toNat))),V.int (b+2*(1+c / 4%3*(c / 12%(10:Int) ^ (27:Int).toNat))),V.int (b+3*(1+c / 4%3*(c / 12%(10:Int) ^ (27:Int).toNat)))]
    simp
   rw[ek] at hd
   exact q D H4 _ (s1.free hD) (s1.trans ss) hd ⟨rfl,e3m b (1+c / 4%3*(c / 12%(10:Int) ^ (27:Int).toNat)) g1⟩
theorem e1d (T:Tx K mg):a3y P w K mg base CX0 1 T.c5f T.c5c ["_law_keys_here","_law_last","_law_number","_law_strange"] e8t:=by
 refine T.d0c.ok b4o (fun vs H Q E h=>?_) (fun cdv A outer s H vs Q E hr h=>?_)
 ·obtain⟨a1,a2,a3,a4,a5,a6,rfl,_⟩:=h
  rfl
 ·obtain⟨ka,la,ks,ls,n,sb,rfl,hka,hla,gk,l4,q⟩:=h
  refine⟨_,(a0e (a0n (i:=4) b4o.nd rfl (Or.inl rfl) (a1k a0d))
   (a0e (a2o PassesOwn.never rfl (a1o rfl T.a2z (a0a a0c a0d)) (a0i (i:=5) b4o.nd rfl (Or.inl rfl))
   (a0g (a3n (a0t a7m (a0v a2e (a0v a7l (pv 2) (a0o a0w (a1k (a0a a0c (a0a a0c (a0a a0c (a0a a0c a0d))))) (pv 5) (fun _ _=>rfl))) a0c) a0c (a0x _))
   (a0e (a0n (i:=6) b4o.nd rfl (Or.inl rfl) (a0o a0w (pv 1) (pv 5) (fun _ _=>rfl)))
   (a8n (a3n (PW.pt (b3a (b8u (pv 3)) (a8l (a0t a7m (a0v a2e (a0v a7l (pv 2) a0c) a0c) a0c (a0x _)))))
   (a0g (a0n (i:=6) b4o.nd rfl (Or.inl rfl) (d3m c2u a0c)))
   a1a)
   (a0g (a5t (b7c PySem.F.plainAttrs_list PySem.F.slot_list_append PySem.F.type_list_append a4r (pv 4) (a0a (a2f (a0a (a0o a0w (pv 0) (pv 5) (fun _ _=>rfl)) (a0a (pv 6) a0d))) a0d))))))
   a1a)))
   (a0g (a0s (pv 4))))),?_⟩
  have z9:(5:Nat)≤sizeLine:=by decide
  obtain⟨gk1,gk2⟩:=gk
  refine⟨(by show 0≤sizeLine;decide),fun D hD=>?_⟩
  have s1:=Same.upd (o:=HO.lst []) hD
  refine⟨4,rfl,by decide,by decide,a2m (lo:=0) (n:=4) (fun i σ H2=>∃ (x5 x6:Option V) (xs:List V) (l:Lk),σ=[some (.ref ka),some (.ref la),some (.int n),some (.bl sb),some (.ref D),x5,x6]∧Same H H2∧H2 D=some (.lst xs)∧(∃ f,TFs H2 xs (l.map b3h) f∧f.Nodup∧(∀ b∈f,H b=none)∧D ∉ f)∧(l.map (·.1)).Pairwise (· < ·)∧l.length≤i∧∀ p∈l,∃ j:Nat,j < i∧ks[j]?=some p.1∧(p.2=-1∨ls[j]?=some p.2))
   ⟨none,none,[],[],rfl,s1,a0b,⟨[],.nil,.nil,(fun b hb=>by cases hb),(fun hb=>by cases hb)⟩,.nil,Nat.le_refl _,fun p h=>by cases h⟩ ?_ ?_⟩
  ·rintro i σ H2 hi ⟨x5,x6,xs,l,rfl,s2,h2,⟨f0,ht,hf1,hf2,hf3⟩,hpw,hll,hal⟩
   refine c6r fun D' hD'=>?_
   have hxs:xs.length < sizeLine:=by rw[ht.len,List.length_map];omega
   have hz:∃ z:Int,0 < z∧z < 1073741824∧atI [V.int 1,.int 2,.int 4,.int 8] (0+(i:Int))=some (.int z):=by
    have:i=0∨i=1∨i=2∨i=3:=by omega
    rcases this with rfl | rfl | rfl | rfl
    ·exact⟨1,by decide,by decide,a1f 0 rfl rfl⟩
    ·exact⟨2,by decide,by decide,a1f 1 rfl rfl⟩
    ·exact⟨4,by decide,by decide,a1f 2 rfl rfl⟩
    ·exact⟨8,by decide,by decide,a1f 3 rfl rfl⟩
   obtain⟨z,z0,z1,hz⟩:=hz
   have ek:ks[i]?=some ks[i]:=List.getElem?_eq_getElem (by omega)
   have el:ls[i]?=some ls[i]:=List.getElem?_eq_getElem (by omega)
   have ai:(0+(i:Int))=((i:Nat):Int):=by omega
   have hkv:atI (ks.map V.int) (0+(i:Int))=some (.int ks[i]):=a1f i ai (by rw[List.getElem?_map,ek];rfl)
   have hlv:atI (ls.map V.int) (0+(i:Int))=some (.int ls[i]):=a1f i ai (by rw[List.getElem?_map,el];rfl)
   refine⟨_,rfl,(by show 4≤sizeLine;decide),fun p hp=>⟨_,rfl,p,_,_,_,rfl,rfl,SqL.of a0b,hz,_,_,rfl,rfl,⟨z0,z1⟩,_,_,rfl,rfl,(by show (0:Int) < 2;decide),rfl,_,rfl,?_⟩⟩
   have s3:=Same.upd (o:=HO.lst [.int 1,.int 2,.int 4,.int 8]) hp
   generalize upd H2 p (.lst [.int 1,.int 2,.int 4,.int 8])=H3 at *
   have s23:=s2.trans s3
   refine b0n (fun e=>?_) (fun e=>?_)
   ·refine⟨_,rfl,_,rfl,la,_,_,_,rfl,rfl,SqL.of (s23 _ _ hla),hlv,?_⟩
    refine⟨fun σ H4=>H4=H3∧∃ sr:Int,σ=[some (.ref ka),some (.ref la),some (.int n),some (.bl sb),some (.ref D),some (.int (0+(i:Int))),some (.int sr)]∧(sr=-1∨ls[i]?=some sr),?_,?_⟩
    ·refine⟨_,rfl,_,rfl,b0n (fun f=>?_) (fun f=>?_)⟩
     ·refine⟨_,rfl,_,_,rfl,rfl,⟨by decide,by decide⟩,_,_,rfl,rfl,(by show (0:Int) < 3;decide),rfl,_,rfl,b0n (fun g=>?_) (fun g=>?_)⟩
      ·exact⟨_,rfl,rfl,-1,rfl,.inl rfl⟩
      ·exact⟨rfl,ls[i],rfl,.inr el⟩
     ·exact⟨rfl,ls[i],rfl,.inr el⟩
    rintro σ H4 ⟨rfl,sr,rfl,hsr⟩
    refine⟨_,rfl,.inl ⟨rfl,_,SqL.of (s3 _ _ h2)⟩,_,rfl,_,rfl,ka,_,_,_,rfl,rfl,SqL.of (s23 _ _ hka),hkv,_,rfl,(by show 2≤sizeLine;decide),fun t ht2=>?_⟩
    have s4:=Same.upd (o:=HO.tup [.int ks[i],.int sr]) ht2
    have ht4:upd H4 t (.tup [.int ks[i],.int sr]) t=some (.tup [.int ks[i],.int sr]):=a0b
    generalize upd H4 t (.tup [.int ks[i],.int sr])=H5 at *
    refine⟨D,xs,_,rfl,rfl,s4 _ _ (s3 _ _ h2),hxs,fun H6 h6 k6=>?_⟩
    have tD:t≠D:=fun zz=>by rw[zz,s3 _ _ h2] at ht2;cases ht2
    have hH6:Same H H6:=fun b o eb=>k6 _ _ (fun zz=>by rw[zz,hD] at eb;cases eb) (s4 _ _ (s23 _ _ eb))
    subst hD'
    refine⟨_,_,_,l++[(ks[i],sr)],rfl,hH6,h6,?_,?_,by rw[List.length_append,List.length_singleton];omega,?_⟩
    ·rw[List.map_append]
     have tf:t ∉ f0:=fun y=>ht.not (s3.free ht2) y
     refine⟨f0++[t],(ht.fr fun b hb o eb=>k6 _ _ (fun y=>hf3 (y ▸ hb)) (s4 _ _ (s3 _ _ eb))).app (TFs.one (.tup (k6 _ _ tD ht4) (TFs.cons (f:=[]) (g:=[]) (.int _) (TFs.cons (f:=[]) (g:=[]) (.int _) .nil)))),nd2.mpr ⟨hf1,List.pairwise_singleton _ _,fun x hx=>by rw[List.mem_singleton.mp hx];exact tf⟩,fun b hb=>?_,fun hb=>?_⟩
     ·rcases List.mem_append.mp hb with y | y
      ·exact hf2 b y
      ·rw[List.mem_singleton.mp y]
       exact s23.free ht2
     ·rcases List.mem_append.mp hb with y | y
      ·exact hf3 y
      ·exact tD (List.mem_singleton.mp y).symm
    ·rw[List.map_append,List.pairwise_append]
     refine⟨hpw,List.pairwise_singleton _ _,fun x hx y hy=>?_⟩
     obtain⟨pp,hpp,rfl⟩:=List.mem_map.mp hx
     have hy':y=ks[i]:=by simpa using hy
     obtain⟨j,hj,ej,_⟩:=hal pp hpp
     rw[hy']
     obtain⟨hj2,ej2⟩:=List.getElem?_eq_some_iff.mp ej
     have:=List.pairwise_iff_getElem.mp gk2 j i hj2 (by omega) hj
     rw[ej2] at this
     exact this
    ·intro pp hpp
     rcases List.mem_append.mp hpp with y | y
     ·obtain⟨j,hj,e1,e2⟩:=hal pp y
      exact⟨j,by omega,e1,e2⟩
     ·rw[List.mem_singleton.mp y]
      exact⟨i,by omega,ek,hsr⟩
   ·subst hD'
    exact⟨_,_,xs,l,rfl,s23,s3 _ _ h2,⟨f0,ht.same s3,hf1,hf2,hf3⟩,hpw,by omega,fun pp hpp=>by obtain⟨j,hj,e1,e2⟩:=hal pp hpp;exact⟨j,by omega,e1,e2⟩⟩
  ·rintro σ H2 ⟨x5,x6,xs,l,rfl,s2,h2,⟨f0,ht,hf1,hf2,hf3⟩,hpw,hll,hal⟩
   exact⟨_,rfl,q _ H2 l (D::f0) s2 (.lst h2 ht) (List.nodup_cons.mpr ⟨hf3,hf1⟩) (fun b hb=>(List.mem_cons.mp hb).elim (fun y=>by rw[y];exact hD) (hf2 b)) ⟨hpw,hll,hal⟩⟩
--@STAGE
def d4h (sh th:Int) (j:Nat):Int:=1+(j:Int)+sh*(if th≤(j:Int) then 1 else 0)
theorem e3i {sh th:Int} (h:0≤sh) {i j:Nat} (hij:i < j):d4h sh th i < d4h sh th j:=by
 unfold d4h
 by_cases h1:th≤(i:Int)
 ·rw[if_pos h1,if_pos (show th≤(j:Int) by omega)]
  omega
 ·rw[if_neg h1]
  by_cases h2:th≤(j:Int)
  ·rw[if_pos h2]
   omega
  ·rw[if_neg h2]
   omega
theorem e3x {sh th:Int} (h:0≤sh) (j:Nat):1≤d4h sh th j∧d4h sh th j≤1+j+sh:=by
 unfold d4h
 split<;>omega
theorem c1x (T:Tx K mg):a3y P w K mg base CX0 3 T.a6q T.a6v ["_law_script","_law_word"] (e5a K):=by
 refine T.a9y.ok a1h (fun vs H Q E h=>?_) (fun cdv A outer s H vs Q E hr h=>?_)
 ·obtain⟨a1,a2,a3,rfl,_⟩:=h
  rfl
 ·obtain⟨a,ns,wv,rfl,ha,hw,q⟩:=h
  refine⟨_,(a0e (a0n (i:=2) a1h.nd rfl (Or.inl rfl) (a0l ((b1z T).mono (by decide)) hr rfl T.b3q T.b0q.kp T.b3m .nil a1m (a0a (pv 0) (a0a a0c a0d))))
   (a0e (a0n (i:=3) a1h.nd rfl (Or.inl rfl) (a0v a2e (pv 2) a0c))
   (a0e (a0n (i:=4) a1h.nd rfl (Or.inl rfl) (a0v a2e (a0l ((a2n T).mono (by decide)) hr rfl T.a3c T.a2v.kp T.a3i .nil a1m (a0a (pv 2) (a0a a0c a0d))) (a0v c1y a0c (pv 3))))
   (a0e (a0n (i:=5) a1h.nd rfl (Or.inl rfl) a0c)
   (a8n (a3n (PW.pt (b3a (a0t c8n (pv 3) a0c (a0x _)) (a8l (a0t a7m (a0v a2e (a0l ((a2n T).mono (by decide)) hr rfl T.a3c T.a2v.kp T.a3i .nil a1m (a0a (pv 2) (a0a a0c a0d))) a0c) a0c (a0x _)))))
   (a0g (a0n (i:=5) a1h.nd rfl (Or.inl rfl) a0c))
   a1a)
   (a0e (a0n (i:=6) a1h.nd rfl (Or.inl rfl) (a1k a0d))
   (a0e (a2o PassesOwn.never rfl (a1o rfl T.a2z (a0a (pv 3) a0d)) (a0i (i:=7) a1h.nd rfl (Or.inl rfl))
   (a0e (a0n (i:=8) a1h.nd rfl (Or.inl rfl) (pv 1))
   (a8n (a3n (a0t d6p (pv 1) b2u (a0x _))
   (a0g (a0n (i:=8) a1h.nd rfl (Or.inl rfl) (a0o a0w (a1k (a0a a1p (a0a a1p (a0a a1p (a0a a1p (a0a a1p a0d)))))) (a0v a2e (a0l ((a2n T).mono (by decide)) hr rfl T.a3c T.a2v.kp T.a3i .nil a1m (a0a (pv 2) (a0a (a0v a3z a0c (pv 7)) a0d))) a0c) (fun _ _=>rfl))))
   a1a)
   (a0e (a0n (i:=9) a1h.nd rfl (Or.inl rfl) (a0v a3z (a0v a3z a0c (pv 7)) (a0v b8o (pv 4) (a2y c7n (by rfl) T.d8k boot_int (a0a (b5m e5x (pv 7) (a0v a2e (a0l ((a2n T).mono (by decide)) hr rfl T.a3c T.a2v.kp T.a3i .nil a1m (a0a (pv 2) (a0a a0c a0d))) a0c) (a0x _)) a0d)))))
   (a0g (a5t (b7c PySem.F.plainAttrs_list PySem.F.slot_list_append PySem.F.type_list_append a4r (pv 6) (a0a (a2f (a0a (pv 9) (a0a (pv 8) (a0a (a0v a2e (a0l ((a2n T).mono (by decide)) hr rfl T.a3c T.a2v.kp T.a3i .nil a1m (a0a (pv 2) (a0a (a0v a3z a0c (pv 7)) a0d))) (pv 5)) a0d)))) a0d))))))))
   (a0g (a0s (pv 6)))))))))),?_⟩
  refine c3v fun b' hb'=>?_
  have z9:(9:Nat)≤sizeLine:=by decide
  refine⟨_,rfl,a,ns,0,rfl,ha,by decide,fun c=>?_⟩
  obtain⟨m,em⟩:∃ m:Int,c%9=m:=⟨_,rfl⟩
  have m0:=Int.emod_nonneg c (show (9:Int)≠0 by decide)
  have m1:=Int.emod_lt_of_pos c (show (0:Int) < 9 by decide)
  rw[em] at m0 m1
  subst hb';refine b1j fun b' hb'=>?_
  refine⟨_,rfl,_,_,rfl,rfl,(by show (0:Int) < 9;decide),?_⟩
  have h9:(0:Int) < 9 - c%9:=by omega
  subst hb';refine b1j fun b' hb'=>?_
  refine⟨_,rfl,c,1,rfl,_,rfl,_,_,rfl,rfl,_,_,rfl,rfl,h9,?_⟩
  obtain⟨sh,esh⟩:∃ sh:Int,c1l c 1%(9 - c%9)=sh:=⟨_,rfl⟩
  have sh0:=Int.emod_nonneg (c1l c 1) (Int.ne_of_gt h9)
  have sh1:=Int.emod_lt_of_pos (c1l c 1) h9
  rw[esh] at sh0 sh1
  rw[em] at sh1
  subst hb'
  refine⟨fun σ H2=>H2=H∧∃ mo:Int,σ=[some (.ref a),some wv,some (.int c),some (.int m),some (.int sh),some (.int mo),none,none,none,none]∧(mo=4∨(mo=8∧m < 4)),?_,?_⟩
  ·refine⟨_,rfl,_,_,rfl,rfl,_,rfl,b0n (fun e=>?_) (fun e=>?_)⟩
   ·refine⟨_,rfl,c,3,rfl,_,_,rfl,rfl,(by show (0:Int) < 3;decide),rfl,_,rfl,b0n (fun f=>?_) (fun f=>?_)⟩
    ·exact⟨rfl,8,by rw[←em,←esh];rfl,.inr ⟨rfl,by rw[←em];exact of_decide_eq_true e⟩⟩
    ·exact⟨rfl,4,by rw[←em,←esh];rfl,.inl rfl⟩
   ·exact⟨rfl,4,by rw[←em,←esh];rfl,.inl rfl⟩
  rintro σ H2 ⟨rfl,mo,rfl,hmo⟩
  have mo0:0 < mo∧mo≤8:=by omega
  obtain⟨th,eth⟩:∃ th:Int,c1l c 2%8=th:=⟨_,rfl⟩
  refine c3v fun b' hb'=>?_
  refine⟨(by show 0≤sizeLine;decide),fun D hD=>?_⟩
  have s1:=Same.upd (o:=HO.lst []) hD
  subst hb';refine b1j fun b' hb'=>?_
  refine⟨_,rfl,m,rfl,by omega,by omega,a2m (lo:=0) (n:=m.toNat) (fun i σ H3=>∃ (x7 x8 x9:Option V) (xs:List V) (ds:List Drn),σ=[some (.ref a),some wv,some (.int c),some (.int m),some (.int sh),some (.int mo),some (.ref D),x7,x8,x9]∧Same H2 H3∧H3 D=some (.lst xs)∧Trs (b7h (off H2 H3) D) xs (ds.map e2f)∧ds.map (·.1)=(List.range i).map (d4h sh th)∧∀ d∈ds,d.2.1∈wds∧0≤d.2.2∧d.2.2 < mo∧∀ x,wv=.str x→d.2.1=x)
   ⟨none,none,none,[],[],rfl,s1,a0b,.nil,rfl,fun p h=>by cases h⟩ ?_ ?_⟩
  ·intro i σ H3 hi hJ'
   refine d4i fun G' hG'=>?_
   obtain⟨x7,x8,x9,xs,ds,rfl,s3,h3,ht,hnum,hal⟩:=hJ'
   refine hG' ?_
   refine c6r fun D' hD'=>?_
   have hdl:ds.length=i:=by
    have:=congrArg List.length hnum
    rw[List.length_map,List.length_map,List.length_range] at this
    exact this
   have hxs:xs.length < sizeLine:=by rw[ht.len,List.length_map];omega
   refine⟨_,rfl,?_⟩
   refine⟨fun σ H4=>Same H3 H4∧∃ ow:Str,σ=[some (.ref a),some wv,some (.int c),some (.int m),some (.int sh),some (.int mo),some (.ref D),some (.int (0+(i:Int))),some (.str ow),x9]∧ow∈wds∧∀ x,wv=.str x→ow=x,?_,?_⟩
   ·rcases hw with rfl | ⟨x,hx,rfl⟩
    ·refine⟨_,rfl,rfl,_,rfl,f0j rfl ?_⟩
     refine⟨(by show 5≤sizeLine;decide),fun p hp=>?_⟩
     obtain⟨v,hv⟩:=d2b (xs:=wds.map V.str) (Int.emod_nonneg (c1l c (10+(0+(i:Int)))) (show (5:Int)≠0 by decide)) (Int.emod_lt_of_pos (c1l c (10+(0+(i:Int)))) (show (0:Int) < 5 by decide))
     obtain⟨x,hx,rfl⟩:=List.mem_map.mp (c4v hv)
     refine⟨_,rfl,_,rfl,_,_,rfl,rfl,c,_,rfl,_,_,rfl,rfl,(by show (0:Int) < 5;decide),p,_,_,_,rfl,rfl,SqL.of a0b,hv,Same.upd hp,x,rfl,hx,fun x h=>by cases h⟩
    ·refine⟨_,rfl,rfl,_,rfl,f0q (fun z=>by cases z) ?_⟩
     exact⟨Same.refl _,x,rfl,hx,fun y h=>by cases h;rfl⟩
   rintro σ H4 ⟨s4,ow,rfl,how,hox⟩
   refine c3v fun b2' hb2'=>?_
   refine⟨_,rfl,_,_,rfl,rfl,_,rfl,_,rfl,_,rfl,c,2,rfl,_,_,rfl,rfl,(by show (0:Int) < 8;decide),_,_,rfl,rfl,.inr ⟨_,rfl,_,_,rfl,rfl,.inl ⟨by omega,by omega⟩,_,_,rfl,rfl,?_⟩⟩
   have hlo:0≤c1l c (20+(0+(i:Int)))%mo∧c1l c (20+(0+(i:Int)))%mo < mo:=⟨Int.emod_nonneg _ (by omega),Int.emod_lt_of_pos _ mo0.1⟩
   subst hb2'
   refine⟨_,rfl,.inl ⟨rfl,_,SqL.of (s4 _ _ h3)⟩,_,rfl,_,rfl,_,rfl,_,rfl,_,_,rfl,rfl,c,_,rfl,_,rfl,_,_,rfl,rfl,mo0.1,(by show 3≤sizeLine;decide),fun t ht2=>?_⟩
   have en:1+(0+(i:Int))+sh*(if decide (c1l c 2%8≤0+(i:Int))=true then 1 else 0)=d4h sh th i:=by
    unfold d4h
    rw[eth,show (0+(i:Int))=(i:Int) by omega]
    by_cases g:th≤(i:Int)
    ·rw[if_pos g,if_pos (decide_eq_true g)]
    ·rw[if_neg g,if_neg (fun z=>g (of_decide_eq_true z))]
   have tD:t≠D:=fun zz=>by rw[zz,s4 _ _ h3] at ht2;cases ht2
   have key:∀ nn:Int,nn=d4h sh th i→∀ H5,upd H4 t (.tup [.int nn,.str ow,.int (c1l c (20+(0+(i:Int)))%mo)])=H5→∀ H6,H6 D=some (.lst (xs++[.ref t]))→(∀ b o,b≠D→H5 b=some o→H6 b=some o)→∃ (x7 x8 x9':Option V) (xs':List V) (ds':List Drn),[some (.ref a),some wv,some (.int c),some (.int m),some (.int sh),some (.int mo),some (.ref D),some (.int (0+(i:Int))),some (.str ow),some (V.int nn)]=[some (.ref a),some wv,some (.int c),some (.int m),some (.int sh),some (.int mo),some (.ref D),x7,x8,x9']∧Same H2 H6∧H6 D=some (.lst xs')∧Trs (b7h (off H2 H6) D) xs' (ds'.map e2f)∧ds'.map (·.1)=(List.range (i+1)).map (d4h sh th)∧∀ d∈ds',d.2.1∈wds∧0≤d.2.2∧d.2.2 < mo∧∀ x,wv=.str x→d.2.1=x:=by
    intro nn enn H5 e5 H6 h6 k6
    have s5:Same H4 H5:=by rw[←e5];exact Same.upd ht2
    have ht5:H5 t=some (.tup [.int nn,.str ow,.int (c1l c (20+(0+(i:Int)))%mo)]):=by rw[←e5];exact a0b
    have s35:=s4.trans s5
    have hH6:Same H2 H6:=fun b o eb=>k6 _ _ (fun zz=>by rw[zz,hD] at eb;cases eb) (s35 _ _ (s3 _ _ eb))
    refine⟨_,_,_,_,ds++[(nn,ow,c1l c (20+(0+(i:Int)))%mo)],rfl,hH6,h6,?_,?_,?_⟩
    ·rw[List.map_append]
     exact(ht.same fun b o eb=>a6k (a3x eb).1 (b0p (a2k (a3x eb).2).1 (k6 _ _ (a3x eb).1 (s35 _ _ (a2k (a3x eb).2).2)))).app (.cons (.tup (a6k tD (b0p ((s3.trans s4).free ht2) (k6 _ _ tD ht5))) (.cons (.int _) (.cons (.str _) (.cons (.int _) .nil)))) .nil)
    ·rw[List.map_append,hnum,List.range_succ,List.map_append,enn]
     rfl
    ·intro d hd
     rcases List.mem_append.mp hd with y | y
     ·exact hal d y
     ·rw[List.mem_singleton.mp y]
      exact⟨how,hlo.1,hlo.2,hox⟩
   refine⟨D,xs,_,rfl,rfl,(Same.upd ht2) _ _ (s4 _ _ h3),hxs,fun H6 h6 k6=>?_⟩
   subst hD'
   exact key _ en _ rfl H6 h6 k6
  ·intro σ H3 hJ'
   refine d4i fun G' hG'=>?_
   obtain⟨x7,x8,x9,xs,ds,rfl,s3,h3,ht,hnum,hal⟩:=hJ'
   refine hG' ?_
   subst hb'
   have hdl:ds.length=m.toNat:=by
    have:=congrArg List.length hnum
    rw[List.length_map,List.length_map,List.length_range] at this
    exact this
   refine⟨_,rfl,q _ H3 ds s3 (.lst (b0p hD h3) (ht.same b7p)) ⟨by omega,?_,fun d hd=>?_,fun h4 d hd=>?_⟩ fun x hx d hd=>(hal d hd).2.2.2 x hx⟩
   ·rw[hnum,List.pairwise_map]
    exact List.pairwise_lt_range.imp fun h=>e3i sh0 h
   ·have hm:d.1∈(List.range m.toNat).map (d4h sh th):=by rw[←hnum];exact List.mem_map.mpr ⟨d,hd,rfl⟩
    obtain⟨j,hj,ej⟩:=List.mem_map.mp hm
    have hj':=List.mem_range.mp hj
    have:=e3x (th:=th) sh0 j
    rw[ej] at this
    have h2:=hal d hd
    exact⟨this.1,by omega,h2.1,h2.2.1,by omega⟩
   ·have h2:=hal d hd
    omega
def dkC (ds:List Drn) (c:Int→Int):List (Key×V):=ds.map fun d=>(Sum.inl d.1,.int (c d.1))
theorem e2t {ds:List Drn} {c:Int→Int} {n:Int} (h:∃ d∈ds,d.1=n):a4a (dkC ds c) (Sum.inl n:Key)=some (.int (c n)):=by
 obtain⟨d,hd,rfl⟩:=h
 unfold a4a dkC
 rw[List.find?_map]
 have:∃ e,ds.find? ((fun kv:Key×V=>decide (kv.1=Sum.inl d.1)) ∘ fun e:Drn=>(Sum.inl e.1,V.int (c e.1)))=some e:=by
  rw[←Option.isSome_iff_exists,List.find?_isSome]
  exact⟨d,hd,decide_eq_true rfl⟩
 obtain⟨e,he⟩:=this
 rw[he]
 have h1:=List.find?_some he
 have h2:(Sum.inl e.1:Key)=Sum.inl d.1:=of_decide_eq_true h1
 have h3:e.1=d.1:=Sum.inl.inj h2
 show some (V.int (c e.1))=some (V.int (c d.1))
 rw[h3]
theorem e4c {ds:List Drn} {c:Int→Int} {n v:Int} (h:∃ d∈ds,d.1=n):a6e (dkC ds c) (Sum.inl n:Key) (.int v)=dkC ds fun m=>if m=n then v else c m:=by
 obtain⟨d,hd,rfl⟩:=h
 unfold a6e
 have ha:((dkC ds c).any fun kv=>decide (kv.1=Sum.inl d.1))=true:=by
  rw[List.any_eq_true]
  exact⟨_,List.mem_map.mpr ⟨d,hd,rfl⟩,decide_eq_true rfl⟩
 rw[if_pos ha]
 unfold dkC
 rw[List.map_map]
 refine List.map_congr_left fun e _=>?_
 show (if (Sum.inl e.1:Key)=Sum.inl d.1 then ((Sum.inl e.1:Key),V.int v) else (Sum.inl e.1,V.int (c e.1)))=(Sum.inl e.1,V.int (if e.1=d.1 then v else c e.1))
 by_cases g:e.1=d.1
 ·rw[if_pos (congrArg Sum.inl g),if_pos g]
 ·rw[if_neg (fun z=>g (Sum.inl.inj z)),if_neg g]
theorem e4d {ds:List Drn} {c:Int→Int} {d:Drn} (h:∀ e∈ds,e.1≠d.1):a6e (dkC ds c) (Sum.inl d.1:Key) (.int (c d.1))=dkC (ds++[d]) c:=by
 rw[d0o]
 ·unfold dkC
  rw[List.map_append]
  rfl
 ·cases ev:a4a (dkC ds c) (Sum.inl d.1:Key) with
  | none=>rfl
  | some v =>
   obtain⟨kv,hk,z⟩:=List.mem_map.mp (c9h ev)
   obtain⟨e,he,rfl⟩:=List.mem_map.mp hk
   exact absurd (Sum.inl.inj z) (h e he)
theorem d2i {c:Int→Int} {n:Int}:∀ {ds:List Drn},(ds.map (·.1)).Pairwise (· < ·)→(∃ d∈ds,d.1=n)→(ds.map fun d=>if d.1=n then c n+1 else c d.1).sum=(ds.map fun d=>c d.1).sum+1
 | [],_,⟨d,hd,_⟩=>by cases hd
 | e::r,hp,hx=>by
  rw[List.map_cons,List.pairwise_cons] at hp
  simp only [List.map_cons,List.sum_cons]
  by_cases g:e.1=n
  ·have hr:(r.map fun d=>if d.1=n then c n+1 else c d.1)=r.map fun d=>c d.1:=List.map_congr_left fun d hd=>by
    have:=hp.1 d.1 (List.mem_map.mpr ⟨d,hd,rfl⟩)
    rw[if_neg (by omega)]
   rw[if_pos g,hr,g]
   omega
  ·have:∃ d∈r,d.1=n:=by
    obtain⟨d,hd,ed⟩:=hx
    rcases List.mem_cons.mp hd with rfl | z
    ·exact absurd ed g
    ·exact⟨d,z,ed⟩
   rw[if_neg g,d2i hp.2 this]
   omega
theorem d7c (os:List Pr) (p:Pr) (n:Int):cnt (os++[p]) (os.length+1) n=cnt os os.length n+(if p.1=n then 1 else 0):=by
 unfold cnt
 rw[List.take_of_length_le (by simp),List.take_length,List.filter_append,List.length_append]
 congr 1
 by_cases h:p.1=n
 ·rw[if_pos h]
  have:(p.1 == n)=true:=by simpa using h
  simp[this]
 ·rw[if_neg h]
  have:(p.1 == n)=false:=by simpa using h
  simp[this]
theorem d8r (os:List Pr) (p:Pr) {i:Nat} (h:i≤os.length) (n:Int):cnt (os++[p]) i n=cnt os i n:=by
 unfold cnt
 rw[List.take_append_of_le_length h]
theorem e6l.snoc {ds:List Drn} {os:List Pr} (h:e6l ds os) {n:Int} (hd:∃ d∈ds,d.1=n∧(cnt os os.length n:Int) < a0q d.2.1 d.2.2):e6l ds (os++[(n,(cnt os os.length n:Int))]):=by
 intro i m g e
 rcases Nat.lt_or_ge i os.length with hi | hi
 ·rw[List.getElem?_append_left hi] at e
  rw[d8r _ _ (Nat.le_of_lt hi)]
  exact h i m g e
 ·rw[List.getElem?_append_right hi] at e
  have hi2:i - os.length=0:=by
   rcases Nat.eq_zero_or_pos (i - os.length) with z | z
   ·exact z
   ·rw[List.getElem?_eq_none (by rw[List.length_singleton];omega)] at e
    cases e
  rw[hi2] at e
  cases e
  have:i=os.length:=by omega
  subst this
  rw[d8r _ _ (Nat.le_refl _)]
  exact⟨rfl,hd⟩
theorem c0u {w:Str} {l:Int} (h0:0≤l) (h7:l≤7):1≤a0q w l∧a0q w l≤8:=by
 unfold a0q
 split
 ·omega
 ·split<;>omega
theorem b6e {α:Type} {f g:α→Int}:∀ {l:List α},(∀ x∈l,f x≤g x)→(l.map f).sum≤(l.map g).sum
 | [],_=>Int.le_refl _
 | x::r,h=>by
  have h1:=h x List.mem_cons_self
  have h2:=b6e (l:=r) fun y hy=>h y (List.mem_cons_of_mem _ hy)
  simp only [List.map_cons,List.sum_cons]
  omega
theorem b0r {α:Type} {f:α→Int} {k:Int}:∀ {l:List α},(∀ x∈l,f x≤k)→(l.map f).sum≤k*l.length
 | [],_=>by simp
 | x::r,h=>by
  have h1:=h x List.mem_cons_self
  have h2:=b0r (l:=r) fun y hy=>h y (List.mem_cons_of_mem _ hy)
  simp only [List.map_cons,List.sum_cons,List.length_cons]
  rw[show k*((r.length+1:Nat):Int)=k*r.length+k by push_cast;rw[Int.mul_add,Int.mul_one]]
  omega
theorem _root_.My.Tr.drn {H:Hp} {v:V} {d:Drn} (h:Tr H v (e2f d)):∃ a,v=.ref a∧H a=some (.tup [.int d.1,.str d.2.1,.int d.2.2]):=by
 cases h with
 | @tup a xs _ h r =>
  cases r with
  | cons h1 r =>
   cases r with
   | cons h2 r =>
    cases r with
    | cons h3 r =>
     cases r
     cases h1
     cases h2
     cases h3
     exact⟨a,rfl,h⟩
theorem c5t {α:Type}:∀ l:List α,(l.map fun _=>(0:Int)).sum=0
 | []=>rfl
 | _::r=>by rw[List.map_cons,List.sum_cons,c5t r];rfl
theorem c5m (cf:Int→Int):∀ ds:List Drn,ds.filterMap (fun d=>if cf d.1 < a0q d.2.1 d.2.2 then some (V.int d.1) else none)=((ds.filter fun d=>decide (cf d.1 < a0q d.2.1 d.2.2)).map (·.1)).map V.int
 | []=>rfl
 | d::r=>by
  rw[List.filterMap_cons,List.filter_cons]
  by_cases e:cf d.1 < a0q d.2.1 d.2.2
  ·rw[if_pos e,if_pos (decide_eq_true e),c5m cf r]
   rfl
  ·rw[if_neg e,if_neg (fun z=>e (of_decide_eq_true z)),c5m cf r]
theorem b5o {ds:List Drn} (h:(ds.map (·.1)).Pairwise (· < ·)) {d e:Drn} (hd:d∈ds) (he:e∈ds) (x:d.1=e.1):d=e:=by
 have hp:=List.pairwise_iff_getElem.mp (List.pairwise_map.mp h)
 obtain⟨i,hi,rfl⟩:=List.getElem_of_mem hd
 obtain⟨j,hj,rfl⟩:=List.getElem_of_mem he
 rcases Nat.lt_trichotomy i j with z | z | z
 ·have:=hp i j hi hj z
  omega
 ·subst z
  rfl
 ·have:=hp j i hj hi z
  omega
theorem e9d {H H3:Hp} {D g b:Addr} {o:HO}:b7h (b7h (off H H3) D) g b=some o ↔ b≠g∧b≠D∧H b=none∧H3 b=some o:=by
 constructor
 ·intro e
  have e1:=a3x e
  have e2:=a3x e1.2
  have e3:=a2k e2.2
  exact⟨e1.1,e2.1,e3.1,e3.2⟩
 ·rintro⟨h1,h2,h3,h4⟩
  exact a6k h1 (a6k h2 (b0p h3 h4))
theorem c1q (T:Tx K mg):a3y P w K mg base CX0 3 T.a6m T.a6t ["_law_script","_law_deals"] (e5t K):=by
 refine T.b0c.ok a1g (fun vs H Q E h=>?_) (fun cdv A outer s H vs Q E hr h=>?_)
 ·obtain⟨a1,a2,a3,a4,rfl,_⟩:=h
  rfl
 ·obtain⟨a,ns,dv,ds,rfl,ha,hd,gd,q⟩:=h
  have hu:=a8v hr
  refine⟨_,(a0e (a0n (i:=2) a1g.nd rfl (Or.inr rfl) a6r)
   (a0e (a0n (i:=3) a1g.nd rfl (Or.inl rfl) a0c)
   (a0e (a2o PassesOwn.never rfl (a1r (pv 1)) (b0k rfl (a0u (a0i (i:=4) a1g.nd rfl (Or.inl rfl)) (a0u (a0i (i:=5) a1g.nd rfl (Or.inl rfl)) (a0u (a0i (i:=6) a1g.nd rfl (Or.inl rfl)) a4o))))
   (a0e (a7j hu (pv 2) (pv 4) a0c rfl)
   (a0g (a0n (i:=3) a1g.nd rfl (Or.inl rfl) (a0v a3z (pv 3) (a0l ((b1g T).mono (by decide)) hr rfl T.b1t T.a9l.kp T.b2h .nil a1m (a0a (pv 5) (a0a (pv 6) a0d))))))))
   (a0e (a0n (i:=7) a1g.nd rfl (Or.inl rfl) (a1k a0d))
   (a0e (a2o PassesOwn.never rfl (a1o rfl T.a2z (a0a (pv 3) a0d)) (a0i (i:=8) a1g.nd rfl (Or.inl rfl))
   (a0e (c4z (i:=9) ["_law_row"] rfl a1g.nd rfl rfl (a3b.mk (fv:=["_law_gone"]) (js:=[2]) rfl (by decide +kernel) (by decide +kernel) (by decide +kernel) (a1q (Or.inl rfl) a2l) rfl (by decide +kernel)) (a1r (pv 1)) rfl (fun _ _ _ _ _=>(a0i (i:=0) (show (["_law_row","_law_gone"]:List Str).Nodup by decide +kernel) rfl (Or.inl rfl))) (fun _ _ _ _ _=>(c8d (a0t c8n (a1d hu (pv 1) (a0o (a2g (K:=K) rfl) (pv 0) a0c (fun _ _=>rfl)) (fun _ _=>rfl)) (a0l ((b1g T).mono (by decide)) hr rfl T.b1t T.a9l.kp T.b2h .nil a1m (a0a (a0o (a2g (K:=K) rfl) (pv 0) a0c (fun _ _=>rfl)) (a0a (a0o (a2g (K:=K) rfl) (pv 0) a0c (fun _ _=>rfl)) a0d))) (a0x _)))) (fun _ _ _ _ _=>(a0o (a2g (K:=K) rfl) (pv 0) a0c (fun _ _=>rfl))))
   (a0e (a0n (i:=4) a1g.nd rfl (Or.inl rfl) (a0o a0w (pv 9) (a0v a2e (a0l ((a2n T).mono (by decide)) hr rfl T.a3c T.a2v.kp T.a3i .nil a1m (a0a (a0l ((b1z T).mono (by decide)) hr rfl T.b3q T.b0q.kp T.b3m .nil a1m (a0a (pv 0) (a0a (a0v a3z a0c (pv 8)) a0d))) (a0a a0c a0d))) (a1b a1i (by rfl) T.a5j boot_len (a0a (pv 9) a0d))) (fun _ _=>rfl)))
   (a0e (a5t (b7c PySem.F.plainAttrs_list PySem.F.slot_list_append PySem.F.type_list_append a4r (pv 7) (a0a (a2f (a0a (pv 4) (a0a (a1d hu (pv 2) (pv 4) (fun _ _=>rfl)) a0d))) a0d)))
   (a0g (a7j hu (pv 2) (pv 4) (a0v a3z (a1d hu (pv 2) (pv 4) (fun _ _=>rfl)) a0c) rfl))))))
   (a0g (a0s (pv 7)))))))),?_⟩
  refine c3v fun b' hb'=>?_
  have z9:(200:Nat)≤sizeLine:=by decide
  obtain⟨dl,xs,rfl,hdl,htx⟩:=a9j hd
  obtain⟨g1,g2,g3,g4⟩:=gd
  have hxl:xs.length=ds.length:=by rw[htx.len,List.length_map]
  intro g hg
  have s1:=Same.upd (o:=HO.dK []) hg
  subst hb'
  refine⟨_,rfl,dl,rfl,⟨_,SqL.of (s1 _ _ hdl)⟩,a4e (K:=K) (a:=dl) (xs:=xs) (fun i σ H2=>∃ (x4 x5 x6:Option V),σ=[some (.ref a),some (.ref dl),some (.ref g),some (.int ((ds.take i).map fun d=>a0q d.2.1 d.2.2).sum),x4,x5,x6,none,none,none]∧Same H H2∧H2 g=some (.dK (dkC (ds.take i) fun _=>0)))
   ⟨none,none,none,rfl,s1,a0b⟩ (fun i σ H2 _ hJ'=>by obtain⟨_,_,_,_,s2,_⟩:=hJ';exact SqL.of (s2 _ _ hdl)) ?_ ?_⟩
  ·intro i x σ H2 hx hJ'
   refine d4i fun G' hG'=>?_
   obtain⟨x4,x5,x6,rfl,s2,h2⟩:=hJ'
   obtain⟨pd,hpd,tr⟩:=htx.get hx
   have hi:i < ds.length:=by rw[←hxl];exact(List.getElem?_eq_some_iff.mp hx).1
   have ed:ds[i]?=some ds[i]:=List.getElem?_eq_getElem hi
   rw[List.getElem?_map,ed] at hpd
   cases hpd
   obtain⟨t,rfl,ht⟩:=tr.drn
   refine hG' ?_
   refine c6r fun D' hD'=>?_
   refine⟨t,_,rfl,SqT.of (s2 _ _ ht),rfl,_,_,rfl,_,_,rfl,_,_,rfl,rfl,?_⟩
   have hnew:∀ e∈ds.take i,e.1≠ds[i].1:=fun e he z=>by
    have hp:=List.pairwise_iff_getElem.mp (List.pairwise_map.mp g2)
    obtain⟨j,hj,rfl⟩:=List.getElem_of_mem he
    rw[List.length_take] at hj
    have:=hp j i (by omega) hi (by omega)
    rw[List.getElem_take] at z
    omega
   have ep:=e4d (c:=fun _=>0) hnew
   have htk:ds.take (i+1)=ds.take i++[ds[i]]:=by rw[List.take_add_one,ed];rfl
   refine c3v fun b2' hb2'=>?_
   refine⟨_,rfl,_,rfl,g,upd H2 g (.dK (dkC (ds.take (i+1)) fun _=>0)),rfl,.inl ⟨_,Sum.inl ds[i].1,h2,rfl,?_,by rw[htk,←ep]⟩,?_⟩
   ·unfold dkC
    rw[List.length_map,List.length_take]
    omega
   subst hb2';subst hD'
   refine⟨_,rfl,_,rfl,_,rfl,ds[i].2.1,ds[i].2.2,rfl,_,_,rfl,rfl,some (.int ds[i].1),some (.str ds[i].2.1),some (.int ds[i].2.2),?_,s2.again hg,a0b⟩
   rw[htk,List.map_append,List.sum_append,List.map_singleton,List.sum_singleton]
   rfl
  intro σ H2 hJ'
  refine d4i fun G' hG'=>?_
  obtain⟨x4,x5,x6,rfl,s2,h2⟩:=hJ'
  refine hG' ?_
  rw[hxl,List.take_length] at h2
  rw[hxl,List.take_length]
  obtain⟨tot,etot⟩:∃ tot:Int,(ds.map fun d=>a0q d.2.1 d.2.2).sum=tot:=⟨_,rfl⟩
  rw[etot]
  have htot:tot≤32:=by
   by_cases h3:3 < ds.length
   ·have:=b0r (l:=ds) (f:=fun d=>a0q d.2.1 d.2.2) (k:=4) fun d hd=>by
     have h0:=(g3 d hd).2.2.2.1
     have h4:=g4 h3 d hd
     unfold a0q
     split
     ·omega
     ·split<;>omega
    rw[etot] at this
    omega
   ·have:=b0r (l:=ds) (f:=fun d=>a0q d.2.1 d.2.2) (k:=8) fun d hd=>(c0u (g3 d hd).2.2.2.1 (g3 d hd).2.2.2.2).2
    rw[etot] at this
    omega
  have htot0:0≤tot:=by
   have:=b6e (l:=ds) (f:=fun _=>(0:Int)) (g:=fun d=>a0q d.2.1 d.2.2) fun d hd=>by have:=(c0u (w:=d.2.1) (g3 d hd).2.2.2.1 (g3 d hd).2.2.2.2).1;omega
   rw[etot] at this
   have e0:=c5t ds
   omega
  refine b1j fun b' hb'=>?_
  refine⟨(by show 0≤sizeLine;decide),fun D hD=>?_⟩
  have gD:g≠D:=fun z=>by rw[z,hD] at h2;cases h2
  have hD0:H D=none:=s2.free hD
  have s3:=Same.upd (o:=HO.lst []) hD
  subst hb';refine b1j fun b' hb'=>?_
  refine⟨_,rfl,tot,rfl,by omega,by omega,a2m (lo:=0) (n:=tot.toNat) (fun j σ H3=>∃ (x4 x5 x6 x8 x9:Option V) (ys:List V) (os:List Pr),σ=[some (.ref a),some (.ref dl),some (.ref g),some (.int tot),x4,x5,x6,some (.ref D),x8,x9]∧Same H H3∧H3 D=some (.lst ys)∧Trs (b7h (b7h (off H H3) D) g) ys (os.map b3h)∧H3 g=some (.dK (dkC ds fun n=>(cnt os os.length n:Int)))∧e6l ds os∧os.length=j∧(ds.map fun d=>(cnt os os.length d.1:Int)).sum=j∧∀ d∈ds,(cnt os os.length d.1:Int)≤a0q d.2.1 d.2.2)
   ⟨x4,x5,x6,none,none,[],[],rfl,s2.trans s3,a0b,.nil,s3 _ _ h2,fun i n g e=>by simp at e,rfl,?_,fun d hd=>?_⟩ ?_ ?_⟩
  ·exact c5t ds
  ·have:=(c0u (w:=d.2.1) (g3 d hd).2.2.2.1 (g3 d hd).2.2.2.2).1
   show (0:Int)≤_
   omega
  ·intro j σ H3 hj hJ'
   refine d4i fun G' hG'=>?_
   obtain⟨x4,x5,x6,x8,x9,ys,os,rfl,s4,h4,ht,hg4,hW,hol,hsum,hle⟩:=hJ'
   have hyl:ys.length=os.length:=by rw[ht.len,List.length_map]
   obtain⟨cf,ecf⟩:∃ cf:Int→Int,(fun n=>(cnt os os.length n:Int))=cf:=⟨_,rfl⟩
   have hcf:∀ n,(cnt os os.length n:Int)=cf n:=fun n=>congrFun ecf n
   rw[ecf] at hg4
   simp only [hcf] at hsum hle
   refine hG' ?_
   refine c6r fun D' hD'=>?_
   refine c3v fun b2' hb2'=>?_
   refine⟨_,rfl,dl,rfl,⟨_,SqL.of (s4 _ _ hdl)⟩,e3t (k:=1) (fs:=[some (.ref g)]) ds e2f (fun d=>if cf d.1 < a0q d.2.1 d.2.2 then some (.int d.1) else none) rfl (s4 _ _ hdl) (htx.same s4) (by omega) (fun d hd H5 ts v R ss hts tr cont=>?_) (fun D2 H5 hD2 s5 hd2=>?_)⟩
   ·obtain⟨t,rfl⟩:=List.length_eq_one_iff.mp hts
    obtain⟨t1,rfl,ht1⟩:=tr.drn
    have hdgd:b2n H5 g (.int d.1) (some (.int (cf d.1))):=by
     have:=b2n.k (k:=Sum.inl d.1) (ss _ _ hg4)
     rw[e2t ⟨d,hd,rfl⟩] at this
     exact this
    refine⟨_,rfl,_,rfl,t1,_,_,_,rfl,rfl,SqT.of ht1,a0k (j:=0) rfl,g,.int (cf d.1),rfl,hdgd,_,rfl,t1,_,_,_,rfl,rfl,SqT.of ht1,a0k (j:=1) rfl,_,rfl,t1,_,_,_,rfl,rfl,SqT.of ht1,a0k (j:=2) rfl,d.2.1,d.2.2,rfl,_,_,rfl,rfl,_,rfl,?_⟩
    ·have c1:=cont [some (.ref t1)] H5 rfl (Same.refl _)
     by_cases e:cf d.1 < a0q d.2.1 d.2.2
     ·rw[if_pos e] at c1
      rw[decide_eq_true e]
      exact⟨_,rfl,t1,_,_,_,rfl,rfl,SqT.of ht1,a0k (j:=0) rfl,c1⟩
     ·rw[if_neg e] at c1
      rw[decide_eq_false e]
      exact c1
   obtain⟨gl,egl⟩:∃ gl:List Int,ds.filterMap (fun d=>if cf d.1 < a0q d.2.1 d.2.2 then some (V.int d.1) else none)=gl.map V.int∧(∀ n∈gl,∃ d∈ds,d.1=n∧cf n < a0q d.2.1 d.2.2)∧(∀ d∈ds,cf d.1 < a0q d.2.1 d.2.2→d.1∈gl):=by
    refine⟨(ds.filter fun d=>decide (cf d.1 < a0q d.2.1 d.2.2)).map (·.1),?_,fun n hn=>?_,fun d hd hlt=>?_⟩
    ·exact c5m cf ds
    ·obtain⟨d,hd,rfl⟩:=List.mem_map.mp hn
     obtain⟨h1,h2⟩:=List.mem_filter.mp hd
     exact⟨d,h1,rfl,of_decide_eq_true h2⟩
    ·exact List.mem_map.mpr ⟨d,List.mem_filter.mpr ⟨hd,decide_eq_true hlt⟩,rfl⟩
   obtain⟨egl,hgl1,hgl2⟩:=egl
   rw[egl] at hd2
   have hne:0 < gl.length:=by
    rcases Nat.eq_zero_or_pos gl.length with z | z
    ·exfalso
     have e0:=List.eq_nil_of_length_eq_zero z
     have all:∀ d∈ds,a0q d.2.1 d.2.2≤cf d.1:=fun d hd=>by
      rcases Int.lt_or_le (cf d.1) (a0q d.2.1 d.2.2) with y | y
      ·have:=hgl2 d hd y
       rw[e0] at this
       cases this
      ·exact y
     have:=b6e all
     rw[etot,hsum] at this
     omega
    ·exact z
   have hne':(0:Int) < ((gl.map V.int).length:Int):=by rw[List.length_map];omega
   have s45:=s4.trans s5
   subst hb2';refine b1j fun b2' hb2'=>?_
   refine⟨_,rfl,_,rfl,_,rfl,_,_,rfl,rfl,a,ns,_,rfl,s45.seq ha,by omega,fun cz=>⟨_,0,rfl,_,rfl,_,_,rfl,.inl ⟨_,SqL.of hd2,rfl⟩,_,_,rfl,rfl,hne',?_⟩⟩
   obtain⟨v,hv⟩:=d2b (xs:=gl.map V.int) (Int.emod_nonneg (c1l cz 0) (Int.ne_of_gt hne')) (Int.emod_lt_of_pos (c1l cz 0) hne')
   obtain⟨n0,hn0,rfl⟩:=List.mem_map.mp (c4v hv)
   refine⟨D2,_,_,_,rfl,rfl,SqL.of hd2,hv,?_⟩
   obtain⟨d0,hd0,ed0,hlt0⟩:=hgl1 n0 hn0
   have hex:∃ d∈ds,d.1=n0:=⟨d0,hd0,ed0⟩
   have hg5:=s5 _ _ hg4
   have hdg:∀ {HH:Hp},HH g=some (.dK (dkC ds cf))→b2n HH g (.int n0) (some (.int (cf n0))):=fun e=>by
    have:=b2n.k (k:=Sum.inl n0) e
    rw[e2t hex] at this
    exact this
   subst hb2';refine b1j fun b2' hb2'=>?_
   refine⟨_,rfl,.inl ⟨rfl,_,SqL.of (s5 _ _ h4)⟩,_,rfl,_,rfl,_,rfl,g,_,rfl,hdg hg5,(by show 2≤sizeLine;decide),fun t ht2=>?_⟩
   have s6:=Same.upd (o:=HO.tup [.int n0,.int (cf n0)]) ht2
   have ht6:upd H5 t (.tup [.int n0,.int (cf n0)]) t=some (.tup [.int n0,.int (cf n0)]):=a0b
   generalize upd H5 t (.tup [.int n0,.int (cf n0)])=H6 at *
   refine⟨D,ys,_,rfl,rfl,s6 _ _ (s5 _ _ h4),by omega,fun H7 h7 k7=>?_⟩
   have hg7:=k7 _ _ gD (s6 _ _ hg5)
   have tD:t≠D:=fun zz=>by rw[zz,s5 _ _ h4] at ht2;cases ht2
   have tg:t≠g:=fun zz=>by rw[zz,hg5] at ht2;cases ht2
   subst hb2'
   refine⟨_,rfl,_,rfl,g,_,rfl,hdg hg7,_,_,rfl,rfl,_,rfl,_,rfl,g,upd H7 g (.dK (dkC ds fun m=>if m=n0 then cf n0+1 else cf m)),rfl,.inl ⟨_,Sum.inl n0,hg7,rfl,?_,by rw[e4c hex]⟩,?_⟩
   ·unfold dkC
    rw[List.length_map]
    omega
   have hcn:∀ n,(cnt (os++[(n0,cf n0)]) (os++[(n0,cf n0)]).length n:Int)=if n=n0 then cf n0+1 else cf n:=fun n=>by
    rw[List.length_append,List.length_singleton,d7c]
    push_cast
    rw[hcf]
    by_cases e:n=n0
    ·rw[if_pos e,if_pos e.symm,e]
     rfl
    ·rw[if_neg e,if_neg (fun z=>e z.symm)]
     simp
   have hS7:Same H (upd H7 g (.dK (dkC ds fun m=>if m=n0 then cf n0+1 else cf m))):=fun b o eb=>by
    have nb1:b≠g:=fun z=>by rw[z,hg] at eb;cases eb
    have nb2:b≠D:=fun z=>by rw[z,hD0] at eb;cases eb
    rw[a0h nb1]
    exact k7 _ _ nb2 (s6 _ _ (s45 _ _ eb))
   subst hD'
   refine⟨_,_,_,_,_,_,os++[(n0,cf n0)],rfl,hS7,by rw[a0h gD.symm];exact h7,?_,?_,?_,by rw[List.length_append,List.length_singleton,hol],?_,fun d hd=>?_⟩
   ·rw[List.map_append]
    refine(ht.same fun b o eb=>?_).app (.cons (.tup (e9d.mpr ⟨tg,tD,s45.free ht2,by rw[a0h tg];exact k7 _ _ tD ht6⟩) (.cons (.int _) (.cons (.int _) .nil))) .nil)
    obtain⟨e1,e2,e3,e4⟩:=e9d.mp eb
    exact e9d.mpr ⟨e1,e2,e3,by rw[a0h e1];exact k7 _ _ e2 (s6 _ _ (s5 _ _ e4))⟩
   ·rw[a0b]
    congr 3
    funext n
    rw[hcn]
   ·have:=hW.snoc (n:=n0) ⟨d0,hd0,ed0,by rw[hcf];exact hlt0⟩
    rw[hcf] at this
    exact this
   ·simp only [hcn]
    rw[d2i g2 hex,hsum]
    omega
   ·rw[hcn]
    by_cases e:d.1=n0
    ·rw[if_pos e]
     have:d=d0:=b5o g2 hd hd0 (e.trans ed0.symm)
     rw[this]
     omega
    ·rw[if_neg e]
     exact hle d hd
  ·intro σ H3 hJ'
   refine d4i fun G' hG'=>?_
   obtain⟨x4,x5,x6,x8,x9,ys,os,rfl,s4,h4,ht,hg4,hW,hol,hsum,hle⟩:=hJ'
   refine hG' ?_
   subst hb'
   exact⟨_,rfl,q _ H3 os s4 (.lst (b0p hD0 h4) (ht.same fun b o eb=>by obtain⟨_,_,e3,e4⟩:=e9d.mp eb;exact b0p e3 e4)) hW (by omega)⟩
--@STAGE
def skO (L M S:Addr) (b:Bool):List (Key×V):=[(Sum.inr "last",.ref L),(Sum.inr "makers",.ref M),(Sum.inr "stood",.ref S),(Sum.inr "free",.bl b)]
structure Sta (H:Hp) (st L M S:Addr) (ms:List Addr) (ls:List Int) (mk:List (List Int)) (skv:List (Key×V)):Prop where
 h0:∃ b,H st=some (.dK (skO L M S b))
 h1:H L=some (.lst (ls.map V.int))
 h2:H M=some (.lst (ms.map V.ref))
 h3:H S=some (.dK skv)
 n1:ls.length=4
 n2:ms.length=4
 n3:mk.length=4
 hm:∀ (j:Nat) (m:Addr) (ns:List Int),ms[j]?=some m→mk[j]?=some ns→H m=some (.lst (ns.map V.int))
 nd:ms.Nodup
 nL:L ∉ ms
 nM:M≠L∧M ∉ ms
theorem Sta.same {H H':Hp} {st L M S:Addr} {ms:List Addr} {ls:List Int} {mk:List (List Int)} {skv:List (Key×V)} (h:Sta H st L M S ms ls mk skv) (s:Same H H'):Sta H' st L M S ms ls mk skv :=
 ⟨let ⟨b,e⟩:=h.h0;⟨b,s _ _ e⟩,s _ _ h.h1,s _ _ h.h2,s _ _ h.h3,h.n1,h.n2,h.n3,fun j m ns e1 e2=>s _ _ (h.hm j m ns e1 e2),h.nd,h.nL,h.nM⟩
theorem e4j (L M S:Addr) (b:Bool):a4a (skO L M S b) (Sum.inr "last":Key)=some (.ref L):=by
 unfold a4a skO
 rw[List.find?_cons]
 simp
theorem c6p (L M S:Addr) (b:Bool):a4a (skO L M S b) (Sum.inr "makers":Key)=some (.ref M):=by
 have e1:decide ((Sum.inr "last":Key)=(Sum.inr "makers":Key))=false:=by decide +kernel
 unfold a4a skO
 rw[List.find?_cons]
 dsimp only
 rw[e1]
 dsimp only
 rw[List.find?_cons]
 simp
theorem e1r (L M S:Addr) (b:Bool):a4a (skO L M S b) (Sum.inr "stood":Key)=some (.ref S):=by
 have e1:decide ((Sum.inr "last":Key)=(Sum.inr "stood":Key))=false:=by decide +kernel
 have e2:decide ((Sum.inr "makers":Key)=(Sum.inr "stood":Key))=false:=by decide +kernel
 unfold a4a skO
 rw[List.find?_cons]
 dsimp only
 rw[e1]
 dsimp only
 rw[List.find?_cons]
 dsimp only
 rw[e2]
 dsimp only
 rw[List.find?_cons]
 simp
theorem e4y (L M S:Addr) (b:Bool):a4a (skO L M S b) (Sum.inr "free":Key)=some (.bl b):=by
 have e1:decide ((Sum.inr "last":Key)=(Sum.inr "free":Key))=false:=by decide +kernel
 have e2:decide ((Sum.inr "makers":Key)=(Sum.inr "free":Key))=false:=by decide +kernel
 have e3:decide ((Sum.inr "stood":Key)=(Sum.inr "free":Key))=false:=by decide +kernel
 unfold a4a skO
 rw[List.find?_cons]
 dsimp only
 rw[e1]
 dsimp only
 rw[List.find?_cons]
 dsimp only
 rw[e2]
 dsimp only
 rw[List.find?_cons]
 dsimp only
 rw[e3]
 dsimp only
 rw[List.find?_cons]
 simp
theorem Sta.free {H:Hp} {st L M S:Addr} {ms:List Addr} {ls:List Int} {mk:List (List Int)} {skv:List (Key×V)} (h:Sta H st L M S ms ls mk skv):∃ b,b2n H st (.str "free") (some (.bl b)):=by
 obtain⟨b,h0⟩:=h.h0
 have:=b2n.k (k:=Sum.inr "free") h0
 rw[e4y] at this
 exact⟨b,this⟩
theorem Sta.last {H:Hp} {st L M S:Addr} {ms:List Addr} {ls:List Int} {mk:List (List Int)} {skv:List (Key×V)} (h:Sta H st L M S ms ls mk skv):b2n H st (.str "last") (some (.ref L)):=by
 obtain⟨b,h0⟩:=h.h0
 have:=b2n.k (k:=Sum.inr "last") h0
 rw[e4j] at this
 exact this
theorem Sta.makers {H:Hp} {st L M S:Addr} {ms:List Addr} {ls:List Int} {mk:List (List Int)} {skv:List (Key×V)} (h:Sta H st L M S ms ls mk skv):b2n H st (.str "makers") (some (.ref M)):=by
 obtain⟨b,h0⟩:=h.h0
 have:=b2n.k (k:=Sum.inr "makers") h0
 rw[c6p] at this
 exact this
theorem Sta.stood {H:Hp} {st L M S:Addr} {ms:List Addr} {ls:List Int} {mk:List (List Int)} {skv:List (Key×V)} (h:Sta H st L M S ms ls mk skv):b2n H st (.str "stood") (some (.ref S)):=by
 obtain⟨b,h0⟩:=h.h0
 have:=b2n.k (k:=Sum.inr "stood") h0
 rw[e1r] at this
 exact this
theorem Sta.turn {H H4 H5:Hp} {st L M S m:Addr} {ms:List Addr} {ls ns:List Int} {mk:List (List Int)} {skv:List (Key×V)} (h:Sta H st L M S ms ls mk skv) {i:Nat} {n:Int} (em:ms[i]?=some m) (en:mk[i]?=some ns)
  (h4:H4 L=some (.lst ((ls.map V.int).set i (.int n)))) (k4:∀ b o,b≠L→H b=some o→H4 b=some o) (h5:H5 m=some (.lst (ns.map V.int++[.int n]))) (k5:∀ b o,b≠m→H4 b=some o→H5 b=some o) :
  Sta H5 st L M S ms (ls.set i n) (mk.set i (ns++[n])) skv:=by
 have hmm:m∈ms:=List.mem_of_getElem? em
 have mL:m≠L:=fun z=>h.nL (z ▸ hmm)
 have lst_ne:∀ b kv,H b=some (.dK kv)→b≠L∧b≠m:=fun b kv e=>⟨fun z=>(by rw[z,h.h1] at e;cases e),fun z=>(by rw[z,h.hm i m ns em en] at e;cases e)⟩
 obtain⟨b0,hb0⟩:=h.h0
 obtain⟨a1,a2⟩:=lst_ne _ _ hb0
 obtain⟨b1,b2⟩:=lst_ne _ _ h.h3
 refine⟨⟨b0,k5 _ _ a2 (k4 _ _ a1 hb0)⟩,?_,k5 _ _ (fun z=>h.nM.2 (z ▸ hmm)) (k4 _ _ h.nM.1 h.h2),k5 _ _ b2 (k4 _ _ b1 h.h3),by rw[List.length_set];exact h.n1,h.n2,by rw[List.length_set];exact h.n3,fun j m' ns' e1 e2=>?_,h.nd,h.nL,h.nM⟩
 ·rw[List.map_set]
  exact k5 _ _ mL.symm h4
 ·by_cases e:j=i
  ·subst e
   rw[em] at e1
   cases e1
   obtain⟨hj,_⟩:=List.getElem?_eq_some_iff.mp en
   rw[List.getElem?_set_self hj] at e2
   cases e2
   rw[List.map_append]
   exact h5
  ·rw[List.getElem?_set_ne (fun z=>e z.symm)] at e2
   have nm:m'≠m:=fun z=>by
    obtain⟨hj,ej⟩:=List.getElem?_eq_some_iff.mp e1
    obtain⟨hi,ei⟩:=List.getElem?_eq_some_iff.mp em
    exact e ((List.getElem_inj h.nd).mp (ej.trans (z.trans ei.symm)))
   have nL':m'≠L:=fun z=>h.nL (z ▸ List.mem_of_getElem? e1)
   exact k5 _ _ nm (k4 _ _ nL' (h.hm j m' ns' e1 e2))
def c7z (n:Int) (ls ls':List Int) (mk mk':List (List Int)) (j:Nat):Prop:=(ls'[j]?=ls[j]?∧mk'[j]?=mk[j]?)∨(ls'[j]?=some n∧∃ ns,mk[j]?=some ns∧mk'[j]?=some (ns++[n]))
def e8j:Sp:=fun vs H Q _=>∃ (st L M S so:Addr) (ms:List Addr) (ls sl:List Int) (mk:List (List Int)) (skv:List (Key×V)) (n mask:Int) (w:Str),vs=[.int n,.str w,.int mask,.ref st]∧Sta H st L M S ms ls mk skv∧a4a skv (Sum.inl n)=some (.ref so)∧H so=some (.lst (sl.map V.int))∧sl.length=4∧so≠L∧so ∉ ms∧(∀ ns∈mk,ns.length≤100) ∧
 ∀ H' ls' mk',Sta H' st L M S ms ls' mk' skv→(∀ b o,b≠L→b ∉ ms→H b=some o→H' b=some o)→(∀ j,j < 4→c7z n ls ls' mk mk' j)→Q .non H'
theorem e1a (T:Tx K mg):a3y P w K mg base CX0 1 T.c6a T.c4d ["_law_number","_law_word","_law_mask","_law_state"] e8j:=by
 refine T.c9j.ok c5s (fun vs H Q E h=>?_) (fun cdv A outer s H vs Q E hr h=>?_)
 ·obtain⟨a1,a2,a3,a4,a5,a6,a7,a8,a9,a10,a11,a12,a13,rfl,_⟩:=h
  rfl
 ·obtain⟨st,L,M,S,so,ms,ls,sl,mk,skv,n,mask,wd,rfl,hS,hso,hsl,l4,nso1,nso2,hmk,q⟩:=h
  have hu:=a8v hr
  refine⟨_,(a0g (a2o PassesOwn.never rfl (a1o rfl T.a2z (a0a a0c a0d)) (a0i (i:=4) c5s.nd rfl (Or.inl rfl))
   (a0e (a0n (i:=5) c5s.nd rfl (Or.inl rfl) (a0o a0w (a1d hu (a1d hu (pv 3) a1p (fun _ _=>rfl)) (pv 0) (fun _ _=>rfl)) (pv 4) (fun _ _=>rfl)))
   (a0g (a3n (PW.pt (b3a (a0t a7m (a0v a2e (a0v a7l (pv 2) (a0o a0w (a1k (a0a a0c (a0a a0c (a0a a0c (a0a a0c a0d))))) (pv 4) (fun _ _=>rfl))) a0c) a0c (a0x _)) (a8l (PW.pt (d9f (b8u (a1d hu (pv 3) a1p (fun _ _=>rfl))) (d5p (a0t a7m (pv 5) (a0o a0w (a1d hu (pv 3) a1p (fun _ _=>rfl)) (pv 4) (fun _ _=>rfl)) (a0x _))))))))
   (a0e (c0g (pv 0) (d5d (a1d hu (pv 3) a1p (fun _ _=>rfl)) (pv 4) b9l))
   (a0g (a5t (b7c PySem.F.plainAttrs_list PySem.F.slot_list_append PySem.F.type_list_append a4r (a0o a0w (a1d hu (pv 3) a1p (fun _ _=>rfl)) (pv 4) (fun _ _=>rfl)) (a0a (pv 0) a0d)))))
   a1a))))),?_⟩
  refine⟨4,rfl,by decide,by decide,a2m (lo:=0) (n:=4) (fun i σ H2=>∃ (x4 x5:Option V) (ls':List Int) (mk':List (List Int)),σ=[some (.int n),some (.str wd),some (.int mask),some (.ref st),x4,x5]∧Sta H2 st L M S ms ls' mk' skv∧(∀ b o,b≠L→b ∉ ms→H b=some o→H2 b=some o)∧(∀ j,j < i→c7z n ls ls' mk mk' j)∧(∀ j,i≤j→ls'[j]?=ls[j]?∧mk'[j]?=mk[j]?))
   ⟨none,none,ls,mk,rfl,hS,fun _ _ _ _ e=>e,(fun j h=>absurd h (Nat.not_lt_zero _)),fun _ _=>⟨rfl,rfl⟩⟩ ?_ ?_⟩
  ·rintro i σ H2 hi ⟨x4,x5,ls',mk',rfl,hS2,k2,ht,hn⟩
   have ai:(0+(i:Int))=((i:Nat):Int):=by omega
   have hz:∃ z:Int,0 < z∧z < 1073741824∧atI [V.int 1,.int 2,.int 4,.int 8] (0+(i:Int))=some (.int z):=by
    have:i=0∨i=1∨i=2∨i=3:=by omega
    rcases this with rfl | rfl | rfl | rfl
    ·exact⟨1,by decide,by decide,a1f 0 rfl rfl⟩
    ·exact⟨2,by decide,by decide,a1f 1 rfl rfl⟩
    ·exact⟨4,by decide,by decide,a1f 2 rfl rfl⟩
    ·exact⟨8,by decide,by decide,a1f 3 rfl rfl⟩
   obtain⟨z,z0,z1,hz⟩:=hz
   have stay:∀ H3 (x y:Option V),Same H2 H3→∃ (x4 x5:Option V) (ls':List Int) (mk':List (List Int)),[some (.int n),some (.str wd),some (.int mask),some (.ref st),x,y]=[some (.int n),some (.str wd),some (.int mask),some (.ref st),x4,x5]∧Sta H3 st L M S ms ls' mk' skv∧(∀ b o,b≠L→b ∉ ms→H b=some o→H3 b=some o)∧(∀ j,j < i+1→c7z n ls ls' mk mk' j)∧(∀ j,i+1≤j→ls'[j]?=ls[j]?∧mk'[j]?=mk[j]?):=fun H3 x y s3 =>
    ⟨x,y,ls',mk',rfl,hS2.same s3,fun b o b1 b2 e=>s3 _ _ (k2 b o b1 b2 e),fun j hj=>by
     rcases Nat.lt_or_ge j i with y | y
     ·exact ht j y
     ·exact .inl (hn j y),fun j hj=>hn j (by omega)⟩
   refine c6r fun D' hD'=>?_
   have es:sl[i]?=some sl[i]:=List.getElem?_eq_getElem (by omega)
   have hso2:H2 so=some (.lst (sl.map V.int)):=k2 _ _ nso1 nso2 hsl
   have hg2:b2n H2 S (.int n) (some (.ref so)):=by
    have:=b2n.k (k:=Sum.inl n) hS2.h3
    rw[hso] at this
    exact this
   refine⟨_,rfl,st,_,rfl,hS2.stood,_,rfl,S,_,rfl,hg2,_,rfl,so,_,_,_,rfl,rfl,SqL.of hso2,a1f i ai (by rw[List.getElem?_map,es];rfl),?_⟩
   refine⟨_,rfl,(by show 4≤sizeLine;decide),fun p hp=>⟨_,rfl,p,_,_,_,rfl,rfl,SqL.of a0b,hz,_,_,rfl,rfl,⟨z0,z1⟩,_,_,rfl,rfl,(by show (0:Int) < 2;decide),rfl,_,rfl,?_⟩⟩
   have s3:=Same.upd (o:=HO.lst [.int 1,.int 2,.int 4,.int 8]) hp
   generalize upd H2 p (.lst [.int 1,.int 2,.int 4,.int 8])=H3 at *
   refine b0n (fun e=>?_) (fun e=>by subst hD';exact b5k (stay H3 _ _ s3))
   have hS3:=hS2.same s3
   have el:ls'[i]?=some (ls'[i]'(by rw[hS3.n1];exact hi)):=List.getElem?_eq_getElem _
   have em:ms[i]?=some (ms[i]'(by rw[hS3.n2];exact hi)):=List.getElem?_eq_getElem _
   have en:mk'[i]?=some (mk'[i]'(by rw[hS3.n3];exact hi)):=List.getElem?_eq_getElem _
   have body:e6j (e9l (d1a 0) (f0y (e1x (d1a 3) (tC (V.str "last"))) (d1a 4) e6q)) (e7n (tBM K "list" rAppendA (tOp (e8y K) (e1x (d1a 3) (tC (V.str "makers"))) (d1a 4)) (e7y (d1a 0) f0k))) D' [some (.int n),some (.str wd),some (.int mask),some (.ref st),some (.int (0+(i:Int))),some (.int sl[i])] H3:=by
    have ixn:ixN (ls'.map V.int).length (0+(i:Int))=some i:=by
     unfold ixN
     rw[List.length_map,hS3.n1,if_pos (by omega),if_pos (by omega)]
     congr 1
     omega
    refine⟨_,rfl,_,rfl,st,_,rfl,hS3.last,_,rfl,L,_,_,i,rfl,rfl,hS3.h1,ixn,fun H4 h4 k4=>?_⟩
    have hmm:ms[i]'(by rw[hS3.n2];exact hi)∈ms:=List.getElem_mem _
    have mL:ms[i]'(by rw[hS3.n2];exact hi)≠L:=fun y=>hS3.nL (y ▸ hmm)
    have hm4:=k4 _ _ mL (hS3.hm i _ _ em en)
    have st4:b2n H4 st (.str "makers") (some (.ref M)):=by
     obtain⟨b0,hb0⟩:=hS3.h0
     have stL:st≠L:=fun y=>by rw[y,hS3.h1] at hb0;cases hb0
     have:=b2n.k (k:=Sum.inr "makers") (k4 _ _ stL hb0)
     rw[c6p] at this
     exact this
    have hl100:(mk'[i]'(by rw[hS3.n3];exact hi)).length≤100:=by
     have h1:=(hn i (Nat.le_refl _)).2
     rw[en] at h1
     exact hmk _ (List.mem_of_getElem? h1.symm)
    have z101:(101:Nat)≤sizeLine:=by decide
    refine⟨_,rfl,st,_,rfl,st4,_,rfl,M,_,_,.ref (ms[i]'(by rw[hS3.n2];exact hi)),rfl,rfl,SqL.of (k4 _ _ hS3.nM.1 hS3.h2),a1f i ai (by rw[List.getElem?_map,em];rfl),.inl ⟨rfl,_,SqL.of hm4⟩,_,rfl,_,_,_,rfl,rfl,hm4,(by rw[List.length_map];omega),fun H5 h5 k5=>?_⟩
    subst hD'
    refine⟨_,_,_,_,rfl,hS3.turn em en h4 k4 h5 k5,fun b o b1 b2 eb=>k5 _ _ (fun y=>b2 (y ▸ hmm)) (k4 _ _ b1 (s3 _ _ (k2 _ _ b1 b2 eb))),fun j hj=>?_,fun j hj=>?_⟩
    ·rcases Nat.lt_or_ge j i with y | y
     ·have h1:(ls'.set i n)[j]?=ls'[j]?:=List.getElem?_set_ne (by omega)
      have h2:(mk'.set i ((mk'[i]'(by rw[hS3.n3];exact hi))++[n]))[j]?=mk'[j]?:=List.getElem?_set_ne (by omega)
      unfold c7z
      rw[h1,h2]
      exact ht j y
     ·have ej:j=i:=by omega
      subst ej
      refine .inr ⟨List.getElem?_set_self (by rw[hS3.n1];exact hi),_,(hn j (Nat.le_refl _)).2.symm.trans en,List.getElem?_set_self (by rw[hS3.n3];exact hi)⟩
    ·rw[List.getElem?_set_ne (by omega),List.getElem?_set_ne (by omega)]
     exact hn j (by omega)
   obtain⟨fb,hfb⟩:=hS3.free
   refine⟨_,rfl,st,_,rfl,hfb,fb,rfl,b0n (fun f=>c7i body) (fun f=>?_)⟩
   refine⟨_,rfl,_,rfl,st,_,rfl,hS3.last,_,rfl,L,_,_,_,rfl,rfl,SqL.of hS3.h1,a1f i ai (by rw[List.getElem?_map,el];rfl),rfl,_,rfl,b0n (fun f=>body) (fun f=>by subst hD';exact stay H3 _ _ s3)⟩
  ·rintro σ H2 ⟨x4,x5,ls',mk',rfl,hS2,k2,ht,hn⟩
   exact q H2 ls' mk' hS2 k2 ht
--@STAGE
def lkB (d:Drn) (c:Int):Int:=if d.2.1="kept" then min c d.2.2 else if c≤0 then 0 else d.2.2
def c9q (d:Drn) (g:Int) (i:Nat):Int:=if d.2.1="kept" then (if g < (i:Int) then 1 else 0) else if g=0 then (i:Int) else 0
theorem e5k {d:Drn} {g:Int} {i:Nat} (h:a3a d.2.1 (0+(i:Int))=g):c9q d g i+1≤c9q d g (i+1):=by
 unfold a3a at h
 unfold c9q
 by_cases e:d.2.1="kept"
 ·rw[if_pos e] at h
  rw[if_pos e,if_pos e,if_neg (by omega),if_pos (by omega)]
  omega
 ·rw[if_neg e] at h
  rw[if_neg e,if_neg e,if_pos h.symm,if_pos h.symm]
  push_cast
  omega
theorem d7s {d:Drn} {g:Int} {i:Nat}:c9q d g i≤c9q d g (i+1):=by
 unfold c9q
 split
 ·split<;>split<;>omega
 ·split<;>push_cast<;>omega
theorem d9r {d:Drn} {g:Int} (h0:0≤d.2.2) (hg:0≤g):lkB d g+c9q d g d.2.2.toNat≤lkB d (g+1):=by
 unfold lkB c9q
 by_cases e:d.2.1="kept"
 ·rw[if_pos e,if_pos e,if_pos e]
  split<;>omega
 ·rw[if_neg e,if_neg e,if_neg e]
  by_cases z:g=0
  ·rw[if_pos (by omega),if_pos z,if_neg (by omega)]
   omega
  ·rw[if_neg (by omega),if_neg z,if_neg (by omega)]
   omega
theorem c9m {d:Drn} {g:Int} (i:Nat):0≤c9q d g i:=by
 unfold c9q
 split
 ·split<;>omega
 ·split<;>omega
theorem d3a {w:Str} {l:Int} (h:0≤l):0≤a1y w l∧a1y w l≤a0q w l - 1:=by
 unfold a1y a0q
 split
 ·omega
 ·split<;>omega
theorem e0x {os:List Pr} {j:Nat} {n g:Int} (e:os[j]?=some (n,g)) (m:Int):(cnt os (j+1) m:Int)=cnt os j m+(if n=m then 1 else 0):=by
 unfold cnt
 rw[List.take_add_one,e,List.filter_append,List.length_append]
 by_cases h:n=m
 ·rw[if_pos h]
  have:(n == m)=true:=by simpa using h
  simp[this]
 ·rw[if_neg h]
  have:(n == m)=false:=by simpa using h
  simp[this]
theorem e2x {d:Drn} {c:Int} (h0:0≤d.2.2):lkB d c≤d.2.2:=by
 unfold lkB
 split
 ·omega
 ·split<;>omega
structure Fx (ds:List Drn) (ks:List Int) (H0:Hp) (Sa:Int→Addr) (st L M S:Addr) (ms:List Addr):Prop where
 up:(ds.map (·.1)).Pairwise (· < ·)
 n4:ks.length=4
 hL:∃ xs,H0 L=some (.lst xs)
 hms:∀ m∈ms,∃ xs,H0 m=some (.lst xs)
 hS:∃ kv,H0 S=some (.dK kv)
 hSa:∀ d∈ds,∃ xs,H0 (Sa d.1)=some (.lst xs)
 inj:∀ d∈ds,∀ e∈ds,Sa d.1=Sa e.1→d.1=e.1
 sep:∀ d∈ds,Sa d.1≠L∧Sa d.1 ∉ ms∧Sa d.1≠M
 sS:st≠S
structure PSt (ds:List Drn) (ks:List Int) (H0:Hp) (Sa:Int→Addr) (st L M S:Addr) (ms:List Addr) (c:Int→Int) (fb:Drn→Int) (N:Nat) (H2:Hp) (ls:List Int) (mk:List (List Int)) (skv:List (Key×V)) (xs:Int→List V) (lk:Int→List Lk) (fp:Int→List Addr):Prop where
 sta:Sta H2 st L M S ms ls mk skv
 fr:∀ b o,H0 b=some o→b≠L→b ∉ ms→b≠S→(∀ d∈ds,b≠Sa d.1)→H2 b=some o
 dom:∀ b,H2 b=none→H0 b=none
 seen:∀ d∈ds,H2 (Sa d.1)=some (.lst (xs d.1))∧TFs H2 (xs d.1) ((lk d.1).map a6n) (fp d.1)∧(fp d.1).Nodup∧∀ b∈fp d.1,H0 b=none
 stood:∀ d∈ds,a1y d.2.1 d.2.2 < c d.1→∃ (so:Addr) (sl:List Int),a4a skv (Sum.inl d.1)=some (.ref so)∧off H0 H2 so=some (.lst (sl.map V.int))∧sl.length=4
 slen:skv.length≤N
 few:∀ d∈ds,((lk d.1).length:Int)≤fb d
 lks:∀ d∈ds,∀ l∈lk d.1,(l.map (·.1)).Pairwise (· < ·)∧l.length≤4∧∀ x∈l,∃ i:Nat,i < 4∧ks[i]?=some x.1∧(x.2=-1∨x.2=0∨(x.2≠d.1∧∃ ns,mk[i]?=some ns∧x.2∈ns))
 mks:∀ ns∈mk,ns.Nodup∧∀ n∈ns,∃ d∈ds,d.1=n∧c n=a0q d.2.1 d.2.2
 lst:∀ (i:Nat) (v:Int),ls[i]?=some v→v=0∨∃ ns,mk[i]?=some ns∧v∈ns
 mlen:∀ ns∈mk,ns.length≤N
 dis:∀ d∈ds,∀ e∈ds,d.1≠e.1→∀ b∈fp d.1,b ∉ fp e.1
theorem d0g (kvs:List (Key×V)) (k:Key) (v:V):(a6e kvs k v).length≤kvs.length+1:=by
 unfold a6e
 split
 ·rw[List.length_map];omega
 ·rw[List.length_append,List.length_singleton];omega
section
variable {ds:List Drn} {ks:List Int} {H0 H2 H3 H4:Hp} {Sa:Int→Addr} {st L M S:Addr} {ms:List Addr} {c:Int→Int} {fb:Drn→Int} {N:Nat} {ls:List Int} {mk:List (List Int)} {skv:List (Key×V)} {xs:Int→List V} {lk:Int→List Lk} {fp:Int→List Addr}
theorem PSt.same (h:PSt ds ks H0 Sa st L M S ms c fb N H2 ls mk skv xs lk fp) (s:Same H2 H3):PSt ds ks H0 Sa st L M S ms c fb N H3 ls mk skv xs lk fp :=
 ⟨h.sta.same s,fun b o e b1 b2 b3 b4=>s _ _ (h.fr b o e b1 b2 b3 b4),fun b e=>h.dom b (s.free e),fun d hd=>⟨s _ _ (h.seen d hd).1,(h.seen d hd).2.1.same s,(h.seen d hd).2.2⟩,
  fun d hd hc=>by obtain⟨so,sl,e1,e2,e3⟩:=h.stood d hd hc;exact⟨so,sl,e1,d9k s _ _ e2,e3⟩,h.slen,h.few,h.lks,h.mks,h.lst,h.mlen,h.dis⟩
theorem PSt.tup (F:Fx ds ks H0 Sa st L M S ms) (h:PSt ds ks H0 Sa st L M S ms c fb N H2 ls mk skv xs lk fp) {b:Addr} {ys:List V} (e:H0 b=some (.tup ys)):H2 b=some (.tup ys):=by
 obtain⟨x1,e1⟩:=F.hL
 obtain⟨x3,e3⟩:=F.hS
 refine h.fr b _ e (fun z=>by rw[z,e1] at e;cases e) (fun z=>by obtain⟨x2,e2⟩:=F.hms b z;rw[e2] at e;cases e) (fun z=>by rw[z,e3] at e;cases e) fun d hd z=>?_
 obtain⟨x4,e4⟩:=F.hSa d hd
 rw[z,e4] at e
 cases e
theorem PSt.dict (F:Fx ds ks H0 Sa st L M S ms) (h:PSt ds ks H0 Sa st L M S ms c fb N H2 ls mk skv xs lk fp) {b:Addr} {kv:List (Key×V)} (e:H0 b=some (.dK kv)) (n:b≠S):H2 b=some (.dK kv):=by
 obtain⟨x1,e1⟩:=F.hL
 refine h.fr b _ e (fun z=>by rw[z,e1] at e;cases e) (fun z=>by obtain⟨x2,e2⟩:=F.hms b z;rw[e2] at e;cases e) n fun d hd z=>?_
 obtain⟨x4,e4⟩:=F.hSa d hd
 rw[z,e4] at e
 cases e
theorem PSt.keep (F:Fx ds ks H0 Sa st L M S ms) (h:PSt ds ks H0 Sa st L M S ms c fb N H2 ls mk skv xs lk fp) {d:Drn} (hd:d∈ds) {ls':List Int} {mk':List (List Int)} (hS:Sta H3 st L M S ms ls' mk' skv) (k:∀ b o,b≠L→b ∉ ms→H2 b=some o→H3 b=some o) (tn:∀ j,j < 4→c7z d.1 ls ls' mk mk' j) (hn:∀ ns∈mk,d.1 ∉ ns) (hc:c d.1=a0q d.2.1 d.2.2) (hml:∀ ns∈mk,ns.length < N) :
  PSt ds ks H0 Sa st L M S ms c fb N H3 ls' mk' skv xs lk fp:=by
 obtain⟨x1,e1⟩:=F.hL
 have ne:∀ b,H0 b=none→b≠L∧b ∉ ms:=fun b e=>⟨fun z=>(by rw[z,e1] at e;cases e),fun z=>(by obtain⟨x2,e2⟩:=F.hms b z;rw[e2] at e;cases e)⟩
 have so:Same (off H0 H2) (off H0 H3):=fun b o e=>b0p (a2k e).1 (k _ _ (ne b (a2k e).1).1 (ne b (a2k e).1).2 (a2k e).2)
 have grow:∀ (i:Nat) (ns:List Int),mk[i]?=some ns→∃ ns',mk'[i]?=some ns'∧∀ x∈ns,x∈ns':=fun i ns e=>by
  have hi:i < 4:=by rw[←h.sta.n3];exact(List.getElem?_eq_some_iff.mp e).1
  rcases tn i hi with ⟨_,q⟩ | ⟨_,ns2,q1,q2⟩
  ·exact⟨ns,q.trans e,fun x hx=>hx⟩
  ·rw[e] at q1
   cases q1
   exact⟨_,q2,fun x hx=>List.mem_append_left _ hx⟩
 refine⟨hS,fun b o e b1 b2 b3 b4=>k _ _ b1 b2 (h.fr b o e b1 b2 b3 b4),fun b e=>?_,fun e he=>⟨k _ _ (F.sep e he).1 (F.sep e he).2.1 (h.seen e he).1,(h.seen e he).2.1.fr (fun b hb o eb=>k _ _ (ne b ((h.seen e he).2.2.2 b hb)).1 (ne b ((h.seen e he).2.2.2 b hb)).2 eb),(h.seen e he).2.2⟩,fun e he hc'=>?_,h.slen,h.few,fun e he l hl=>?_,fun ns hns=>?_,fun i v hv=>?_,fun ns hns=>?_,h.dis⟩
 ·cases q:H2 b with
  | none=>exact h.dom b q
  | some o =>
   exfalso
   by_cases z:b=L
   ·rw[z,hS.h1] at e
    cases e
   ·by_cases z2:b∈ms
    ·obtain⟨j,hj,ej⟩:=List.getElem_of_mem z2
     have hj4:j < mk'.length:=by rw[hS.n3,←hS.n2];exact hj
     rw[hS.hm j b mk'[j] (by rw[List.getElem?_eq_getElem hj,ej]) (List.getElem?_eq_getElem hj4)] at e
     cases e
    ·rw[k _ _ z z2 q] at e
     cases e
 ·obtain⟨so',sl,q1,q2,q3⟩:=h.stood e he hc'
  exact⟨so',sl,q1,so _ _ q2,q3⟩
 ·obtain⟨q1,q2,q3⟩:=h.lks e he l hl
  refine⟨q1,q2,fun x hx=>?_⟩
  obtain⟨i,hi,r1,r2⟩:=q3 x hx
  refine⟨i,hi,r1,?_⟩
  rcases r2 with r2 | r2 | ⟨r2,ns,r3,r4⟩
  ·exact .inl r2
  ·exact .inr (.inl r2)
  ·obtain⟨ns',g1,g2⟩:=grow i ns r3
   exact .inr (.inr ⟨r2,ns',g1,g2 _ r4⟩)
 ·obtain⟨j,hj,ej⟩:=List.getElem_of_mem hns
  have hj4:j < 4:=by rw[←hS.n3];exact hj
  have ej':mk'[j]?=some ns:=by rw[List.getElem?_eq_getElem hj,ej]
  rcases tn j hj4 with ⟨_,q⟩ | ⟨_,ns2,q1,q2⟩
  ·exact h.mks ns (List.mem_of_getElem? (q.symm.trans ej'))
  ·rw[ej'] at q2
   cases q2
   have hm2:=List.mem_of_getElem? q1
   refine⟨?_,fun n hn'=>?_⟩
   ·rw[List.nodup_append]
    refine⟨(h.mks ns2 hm2).1,List.pairwise_singleton _ _,fun x hx y hy=>?_⟩
    rw[List.mem_singleton.mp hy]
    exact fun z=>hn ns2 hm2 (z ▸ hx)
   ·rcases List.mem_append.mp hn' with y | y
    ·exact(h.mks ns2 hm2).2 n y
    ·rw[List.mem_singleton.mp y]
     exact⟨d,hd,rfl,hc⟩
 ·have hi:i < 4:=by rw[←hS.n1];exact(List.getElem?_eq_some_iff.mp hv).1
  rcases tn i hi with ⟨q,q'⟩ | ⟨q,ns2,q1,q2⟩
  ·rcases h.lst i v (q.symm.trans hv) with y | ⟨ns,y1,y2⟩
   ·exact .inl y
   ·exact .inr ⟨ns,q'.trans y1,y2⟩
  ·rw[hv] at q
   cases q
   exact .inr ⟨_,q2,List.mem_append_right _ List.mem_cons_self⟩
 ·obtain⟨j,hj,ej⟩:=List.getElem_of_mem hns
  have hj4:j < 4:=by rw[←hS.n3];exact hj
  have ej':mk'[j]?=some ns:=by rw[List.getElem?_eq_getElem hj,ej]
  rcases tn j hj4 with ⟨_,q⟩ | ⟨_,ns2,q1,q2⟩
  ·exact h.mlen ns (List.mem_of_getElem? (q.symm.trans ej'))
  ·rw[ej'] at q2
   cases q2
   have:=hml ns2 (List.mem_of_getElem? q1)
   rw[List.length_append,List.length_singleton]
   omega
theorem PSt.count (h:PSt ds ks H0 Sa st L M S ms c fb N H2 ls mk skv xs lk fp) {c':Int→Int} {fb':Drn→Int} {N':Nat} (hN:N≤N') (h1:∀ d∈ds,a1y d.2.1 d.2.2 < c' d.1→a1y d.2.1 d.2.2 < c d.1) (h2:∀ d∈ds,fb d≤fb' d) (h3:∀ ns∈mk,∀ n∈ns,c' n=c n):PSt ds ks H0 Sa st L M S ms c' fb' N' H2 ls mk skv xs lk fp :=
 ⟨h.sta,h.fr,h.dom,h.seen,fun d hd hc=>h.stood d hd (h1 d hd hc),Nat.le_trans h.slen hN,fun d hd=>Int.le_trans (h.few d hd) (h2 d hd),h.lks,
  fun ns hns=>⟨(h.mks ns hns).1,fun n hn=>by obtain⟨d,hd,e1,e2⟩:=(h.mks ns hns).2 n hn;exact⟨d,hd,e1,by rw[h3 ns hns n hn];exact e2⟩⟩,h.lst,fun ns hns=>Nat.le_trans (h.mlen ns hns) hN,h.dis⟩
theorem PSt.look (F:Fx ds ks H0 Sa st L M S ms) (h:PSt ds ks H0 Sa st L M S ms c fb N H2 ls mk skv xs lk fp) {d:Drn} (hd:d∈ds) {v:V} {l:Lk} {f:List Addr} (s3:Same H2 H3) (tf:TF H3 v (a6n l) f) (nf:f.Nodup) (ff:∀ b∈f,H2 b=none) (lo:e2s ks ls l)
  (h4:H4 (Sa d.1)=some (.lst (xs d.1++[v]))) (k4:∀ b o,b≠Sa d.1→H3 b=some o→H4 b=some o) (hn:∀ ns∈mk,d.1 ∉ ns) {fb':Drn→Int} (hf1:fb d+1≤fb' d) (hf2:∀ e∈ds,e.1≠d.1→fb e≤fb' e) :
  PSt ds ks H0 Sa st L M S ms c fb' N H4 ls mk skv (fun n=>if n=d.1 then xs n++[v] else xs n) (fun n=>if n=d.1 then lk n++[l] else lk n) (fun n=>if n=d.1 then fp n++f else fp n):=by
 have h3:=h.same s3
 obtain⟨xs0,hxs0⟩:=F.hSa d hd
 have hl3:=(h3.seen d hd).1
 have ne:∀ b,H0 b=none→b≠Sa d.1:=fun b e z=>by rw[z,hxs0] at e;cases e
 have so:Same (off H0 H3) (off H0 H4):=fun b o e=>b0p (a2k e).1 (k4 _ _ (ne b (a2k e).1) (a2k e).2)
 have dict_ne:∀ b kv,H3 b=some (.dK kv)→b≠Sa d.1:=fun b kv e z=>by rw[z,hl3] at e;cases e
 obtain⟨p1,p2,p3⟩:=F.sep d hd
 obtain⟨b0,hb0⟩:=h3.sta.h0
 refine⟨⟨⟨b0,k4 _ _ (dict_ne _ _ hb0) hb0⟩,k4 _ _ p1.symm h3.sta.h1,k4 _ _ p3.symm h3.sta.h2,k4 _ _ (dict_ne _ _ h3.sta.h3) h3.sta.h3,h3.sta.n1,h3.sta.n2,h3.sta.n3,fun j m ns e1 e2=>k4 _ _ (fun z=>p2 (z ▸ List.mem_of_getElem? e1)) (h3.sta.hm j m ns e1 e2),h3.sta.nd,h3.sta.nL,h3.sta.nM⟩,
  fun b o e b1 b2 b3 b4=>k4 _ _ (b4 d hd) (h3.fr b o e b1 b2 b3 b4),fun b e=>h3.dom b ?_,fun e he=>?_,fun e he hc=>?_,h3.slen,fun e he=>?_,fun e he=>?_,h3.mks,h3.lst,h3.mlen,fun e1 he1 e2 he2 ne12 b hb hb2=>?_⟩
 ·cases q:H3 b with
  | none=>rfl
  | some o =>
   by_cases z:b=Sa d.1
   ·rw[z,h4] at e
    cases e
   ·rw[k4 _ _ z q] at e
    cases e
 ·by_cases z:e.1=d.1
  ·have:e=d:=b5o F.up he hd z
   subst this
   refine⟨?_,?_,?_,?_⟩
   ·rw[if_pos rfl]
    exact h4
   ·rw[if_pos rfl,if_pos rfl,if_pos rfl,List.map_append]
    exact((h3.seen e he).2.1.fr fun b hb o eb=>k4 _ _ (ne b ((h3.seen e he).2.2.2 b hb)) eb).app (TFs.one (tf.fr fun b hb o eb=>k4 _ _ (ne b (h.dom b (ff b hb))) eb))
   ·rw[if_pos rfl]
    exact nd2.mpr ⟨(h.seen e he).2.2.1,nf,fun x hx=>(h.seen e he).2.1.not (ff x hx)⟩
   ·rw[if_pos rfl]
    intro b hb
    rcases List.mem_append.mp hb with y | y
    ·exact(h.seen e he).2.2.2 b y
    ·exact h.dom b (ff b y)
  ·rw[if_neg z,if_neg z,if_neg z]
   exact⟨k4 _ _ (fun y=>z (F.inj e he d hd y)) (h3.seen e he).1,(h3.seen e he).2.1.fr (fun b hb o eb=>k4 _ _ (ne b ((h3.seen e he).2.2.2 b hb)) eb),(h3.seen e he).2.2⟩
 ·obtain⟨so',sl,e1,e2,e3⟩:=h3.stood e he hc
  exact⟨so',sl,e1,so _ _ e2,e3⟩
 ·by_cases z:e.1=d.1
  ·have:e=d:=b5o F.up he hd z
   subst this
   rw[if_pos rfl,List.length_append,List.length_singleton]
   have:=h3.few e he
   push_cast
   omega
  ·rw[if_neg z]
   exact Int.le_trans (h3.few e he) (hf2 e he z)
 ·by_cases z:e.1=d.1
  ·rw[if_pos z]
   intro l' hl'
   rcases List.mem_append.mp hl' with y | y
   ·exact h3.lks e he l' y
   ·rw[List.mem_singleton.mp y]
    refine⟨lo.1,lo.2.1,fun x hx=>?_⟩
    obtain⟨i,hi,e1,e2⟩:=lo.2.2 x hx
    refine⟨i,hi,e1,?_⟩
    rcases e2 with e2 | e2
    ·exact .inl e2
    ·rcases h.lst i x.2 e2 with g | ⟨ns,g1,g2⟩
     ·exact .inr (.inl g)
     ·exact .inr (.inr ⟨fun w=>hn ns (List.mem_of_getElem? g1) (by rw[←z,←w];exact g2),ns,g1,g2⟩)
  ·rw[if_neg z]
   exact h3.lks e he
 ·have key:∀ {e:Drn},e∈ds→b∈(if e.1=d.1 then fp e.1++f else fp e.1)→b∈fp e.1∨(e.1=d.1∧b∈f):=fun {e} he hb=>by
   by_cases z:e.1=d.1
   ·rw[if_pos z] at hb
    exact(List.mem_append.mp hb).imp id fun y=>⟨z,y⟩
   ·rw[if_neg z] at hb
    exact .inl hb
  rcases key he1 hb with y | ⟨y1,y⟩
  ·rcases key he2 hb2 with x | ⟨x1,x⟩
   ·exact h.dis e1 he1 e2 he2 ne12 b y x
   ·exact(h.seen e1 he1).2.1.not (ff b x) y
  ·rcases key he2 hb2 with x | ⟨x1,x⟩
   ·exact(h.seen e2 he2).2.1.not (ff b y) x
   ·exact ne12 (y1.trans x1.symm)
theorem PSt.stand (F:Fx ds ks H0 Sa st L M S ms) (h:PSt ds ks H0 Sa st L M S ms c fb N H2 ls mk skv xs lk fp) {d:Drn} (hd:d∈ds) {so:Addr} (s3:Same H2 H3) (hso0:H2 so=none) (hso:H3 so=some (.lst (ls.map V.int))) {c':Int→Int} (h1:∀ e∈ds,a1y e.2.1 e.2.2 < c' e.1→e.1=d.1∨a1y e.2.1 e.2.2 < c e.1) (h3':∀ ns∈mk,∀ n∈ns,c' n=c n) :
  PSt ds ks H0 Sa st L M S ms c' fb (N+1) (upd H3 S (.dK (a6e skv (Sum.inl d.1) (.ref so)))) ls mk (a6e skv (Sum.inl d.1) (.ref so)) xs lk fp:=by
 have h3:=h.same s3
 obtain⟨oS,hS0⟩:=F.hS
 have hS3:=h3.sta.h3
 have ne:∀ b,H0 b=none→b≠S:=fun b e z=>by rw[z,hS0] at e;cases e
 have soo:Same (off H0 H3) (off H0 (upd H3 S (.dK (a6e skv (Sum.inl d.1) (.ref so))))):=fun b o e=>b0p (a2k e).1 (by rw[a0h (ne b (a2k e).1)];exact(a2k e).2)
 have lne:∀ b ys,H3 b=some (.lst ys)→b≠S:=fun b ys e z=>by rw[z,hS3] at e;cases e
 have stS:=F.sS
 refine⟨⟨by rw[a0h stS];exact h3.sta.h0,by rw[a0h (lne _ _ h3.sta.h1)];exact h3.sta.h1,by rw[a0h (lne _ _ h3.sta.h2)];exact h3.sta.h2,a0b,h3.sta.n1,h3.sta.n2,h3.sta.n3,fun j m ns e1 e2=>by rw[a0h (lne _ _ (h3.sta.hm j m ns e1 e2))];exact h3.sta.hm j m ns e1 e2,h3.sta.nd,h3.sta.nL,h3.sta.nM⟩,
  fun b o e b1 b2 b3 b4=>by rw[a0h b3];exact h3.fr b o e b1 b2 b3 b4,fun b e=>h3.dom b ?_,fun e he=>⟨by rw[a0h (lne _ _ (h3.seen e he).1)];exact(h3.seen e he).1,(h3.seen e he).2.1.fr (fun b hb o eb=>by rw[a0h (ne b ((h3.seen e he).2.2.2 b hb))];exact eb),(h3.seen e he).2.2⟩,fun e he hc=>?_,?_,h3.few,h3.lks,fun ns hns=>⟨(h3.mks ns hns).1,fun n hn=>by obtain⟨e,he,e1,e2⟩:=(h3.mks ns hns).2 n hn;exact⟨e,he,e1,by rw[h3' ns hns n hn];exact e2⟩⟩,h3.lst,fun ns hns=>Nat.le_succ_of_le (h3.mlen ns hns),h3.dis⟩
 ·by_cases z:b=S
  ·rw[z,a0b] at e
   cases e
  ·rw[a0h z] at e
   exact e
 ·rw[a7p]
  by_cases z:e.1=d.1
  ·rw[if_pos (by rw[z])]
   exact⟨so,ls,rfl,soo _ _ (b0p (h.dom so hso0) hso),h3.sta.n1⟩
  ·rw[if_neg (fun y=>z (Sum.inl.inj y))]
   rcases h1 e he hc with y | y
   ·exact absurd y z
   ·obtain⟨so',sl,e1,e2,e3⟩:=h3.stood e he y
    exact⟨so',sl,e1,soo _ _ e2,e3⟩
 ·have:=d0g skv (Sum.inl d.1:Key) (.ref so)
  have:=h3.slen
  omega
end
--@STAGE
structure GP (p:Ps):Prop where
 good:c5l p
 rise:c9y p
 inm:e6k p
 nk:(p.2.map (·.1)).Nodup
 many:p.2.length≤4
 makes:∀ m∈p.2,m.2≠[]∧m.2.length≤100
 looks:∀ d∈p.1,∀ l∈d.2.2,l.length≤4
def e4k (K:PySem.W.Frag):Sp:=fun vs H Q _=>∃ (a:Addr) (ns:List Int) (dv ov:V) (ds:List Drn) (os:List Pr),vs=[.ref a,dv,ov]∧SqL K H a (ns.map V.int)∧Tr H dv (.list (ds.map e2f))∧Tr H ov (.list (os.map b3h))∧e4a ds∧e6l ds os∧os.length≤100 ∧
 ∀ v H' p f,Same H H'→TF H' v (a3r p) f→f.Nodup→(∀ b∈f,H b=none)→GP p→Q v H'
def sk3 (L M S:Addr):List (Key×V):=[(Sum.inr "last",.ref L),(Sum.inr "makers",.ref M),(Sum.inr "stood",.ref S)]
theorem e0l (L M S:Addr) (b:Bool):a6e (sk3 L M S) (Sum.inr "free":Key) (.bl b)=skO L M S b:=by
 refine d0o ?_
 have e1:decide ((Sum.inr "last":Key)=(Sum.inr "free":Key))=false:=by decide +kernel
 have e2:decide ((Sum.inr "makers":Key)=(Sum.inr "free":Key))=false:=by decide +kernel
 have e3:decide ((Sum.inr "stood":Key)=(Sum.inr "free":Key))=false:=by decide +kernel
 unfold a4a sk3
 rw[List.find?_cons]
 dsimp only
 rw[e1]
 dsimp only
 rw[List.find?_cons]
 dsimp only
 rw[e2]
 dsimp only
 rw[List.find?_cons]
 dsimp only
 rw[e3]
 rfl
def d9t (ks:List Int) (mk:List (List Int)) (i:Nat):Option Mkr:=match ks[i]?,mk[i]? with
 | some k,some (n::r)=>some (k,n::r)
 | _,_=>none
theorem b5b {ks:List Int} {mk:List (List Int)} {i:Nat} {m:Mkr} (h:d9t ks mk i=some m):ks[i]?=some m.1∧mk[i]?=some m.2∧m.2≠[]:=by
 unfold d9t at h
 split at h
 ·next k n r e1 e2=>cases h;exact⟨e1,e2,by simp⟩
 ·cases h
theorem e6b {ks:List Int} {mk:List (List Int)} {i:Nat} {k:Int} {ns:List Int} (h1:ks[i]?=some k) (h2:mk[i]?=some ns) (h3:ns≠[]):d9t ks mk i=some (k,ns):=by
 unfold d9t
 rw[h1,h2]
 cases ns with
 | nil=>exact absurd rfl h3
 | cons a r=>rfl
def d4c (ks:List Int) (mk:List (List Int)):List Mkr:=(List.range 4).filterMap (d9t ks mk)
theorem d9s {ks:List Int} {mk:List (List Int)} (hk:ks.Pairwise (· < ·)):((d4c ks mk).map (·.1)).Pairwise (· < ·):=by
 rw[List.pairwise_map]
 unfold d4c
 rw[List.pairwise_filterMap]
 refine List.pairwise_lt_range.imp fun {i j} hij m hm m' hm'=>?_
 obtain⟨a1,_,_⟩:=b5b hm
 obtain⟨b1,_,_⟩:=b5b hm'
 obtain⟨ai,ae⟩:=List.getElem?_eq_some_iff.mp a1
 obtain⟨bi,be⟩:=List.getElem?_eq_some_iff.mp b1
 have:=List.pairwise_iff_getElem.mp hk i j ai bi hij
 rw[ae,be] at this
 exact this
theorem e7x {σ0 fs:L2.St} {k:Nat} {lo:Int} {g:TG} {tc:L2.TT} {te:TE} {Q:VK} {H1:Hp} (n:Nat) (ow:Nat→List Addr) (dy:Nat→Option PyData) (h0:σ0=List.replicate k none++fs) (hz:n≤sizeLine)
  (ho:∀ i j,i < j→j < n→∀ b∈ow j,b ∉ ow i) (hv:∀ i,i < n→∀ b∈ow i,∃ o,H1 b=some o)
  (step:∀ i,i < n→∀ H (ts:L2.St) (R:Option V→L2.St→Hp→Prop),Same H1 H→ts.length=k→(∀ d y f (ts2:L2.St) H3,dy i=some d→ts2.length=k→Same H H3→TF H3 y d f→f.Nodup→(∀ b∈f,H b=none∨b∈ow i)→R (some y) (ts2++fs) H3)→(dy i=none→∀ (ts2:L2.St) H3,ts2.length=k→Same H H3→R none (ts2++fs) H3) →
   g (.int (lo+(i:Int))) (ts++fs) H fun τ2 H2=>tc τ2 H2 fun ok H3=>if ok=true then te τ2 H3 fun y H4=>R (some y) τ2 H4 else R none τ2 H3)
  (fin:∀ D H' ys f,H1 D=none→Same H1 H'→H' D=some (.lst ys)→TFs H' ys ((List.range n).filterMap dy) f→f.Nodup→(∀ b∈f,H1 b=none∨∃ i,i < n∧b∈ow i)→D ∉ f→Q (.ref D) H'):b0m σ0 (Itr lo n) g tc te Q H1:=by
 intro D hD
 refine⟨fun i m ys τ H=>m=n - i∧i≤n∧ys.length≤i∧(∃ f,TFs H ys ((List.range i).filterMap dy) f∧f.Nodup∧(∀ b∈f,H1 b=none∨∃ j,j < i∧b∈ow j)∧D ∉ f)∧(∃ ts:L2.St,ts.length=k∧τ=ts++fs)∧Same H1 H∧H D=some (.lst ys),⟨n,rfl,Nat.zero_le _,Nat.le_refl _,⟨[],.nil,.nil,(fun b hb=>by cases hb),(fun hb=>by cases hb)⟩,⟨_,List.length_replicate,h0⟩,Same.upd hD,a0b⟩,?_⟩
 rintro i m ys τ H ⟨rfl,hi,hyl,⟨f,hp,hf,hfn,hDf⟩,⟨ts,hts,rfl⟩,ss,hd⟩
 refine⟨hd,?_⟩
 by_cases hlt:i < n
 ·refine .inr ⟨hlt,by omega,?_⟩
  rintro v H' ⟨rfl,rfl⟩
  refine step i hlt H' ts (fun o τ2 H3=>match o with
   | some y=>H3 D=some (.lst ys)∧∃ m',m' < n - i∧m'=n - (i+1)∧i+1≤n∧(ys++[y]).length≤i+1∧(∃ f,TFs (upd H3 D (.lst (ys++[y]))) (ys++[y]) ((List.range (i+1)).filterMap dy) f∧f.Nodup∧(∀ b∈f,H1 b=none∨∃ j,j < i+1∧b∈ow j)∧D ∉ f)∧(∃ ts:L2.St,ts.length=k∧τ2=ts++fs)∧Same H1 (upd H3 D (.lst (ys++[y])))∧upd H3 D (.lst (ys++[y])) D=some (.lst (ys++[y]))
   | none=>∃ m',m' < n - i∧m'=n - (i+1)∧i+1≤n∧ys.length≤i+1∧(∃ f,TFs H3 ys ((List.range (i+1)).filterMap dy) f∧f.Nodup∧(∀ b∈f,H1 b=none∨∃ j,j < i+1∧b∈ow j)∧D ∉ f)∧(∃ ts:L2.St,ts.length=k∧τ2=ts++fs)∧Same H1 H3∧H3 D=some (.lst ys)) ss hts (fun d y f2 ts2 H3 ed h2 s3 tr3 nd2' fr3=>?_) (fun en ts2 H3 h2 s3=>?_)
  ·refine⟨s3 _ _ hd,n - (i+1),by omega,rfl,hlt,(by rw[List.length_append,List.length_singleton];omega),?_,⟨ts2,h2,rfl⟩,(ss.trans s3).again hD,a0b⟩
   have hD2:D ∉ f2:=fun z=>by
    rcases fr3 D z with q | q
    ·rw[hd] at q;cases q
    ·obtain⟨o,q⟩:=hv i hlt D q
     rw[hD] at q;cases q
   refine⟨f++f2,?_,nd2.mpr ⟨hf,nd2',fun x hx z=>?_⟩,fun b hb=>?_,fun hb=>?_⟩
   ·rw[List.range_succ,List.filterMap_append]
    have e1:[i].filterMap dy=[d]:=by rw[List.filterMap_cons,ed];rfl
    rw[e1]
    refine(hp.fr fun b hb o eb=>?_).app (TFs.one (tr3.fr fun b hb o eb=>?_))
    ·rw[a0h (show b≠D from fun z=>hDf (z ▸ hb))]
     exact s3 _ _ eb
    ·rw[a0h (show b≠D from fun z=>hD2 (z ▸ hb))]
     exact eb
   ·rcases fr3 x hx with q | q
    ·exact hp.not q z
    ·rcases hfn x z with q2 | ⟨j,hj,q2⟩
     ·obtain⟨o,q3⟩:=hv i hlt x q
      rw[q2] at q3;cases q3
     ·exact ho j i hj hlt x q q2
   ·rcases List.mem_append.mp hb with z | z
    ·exact(hfn b z).imp id fun ⟨j,hj,q⟩=>⟨j,by omega,q⟩
    ·rcases fr3 b z with q | q
     ·exact .inl (ss.free q)
     ·exact .inr ⟨i,by omega,q⟩
   ·rcases List.mem_append.mp hb with z | z
    ·exact hDf z
    ·exact hD2 z
  ·refine⟨n - (i+1),by omega,rfl,hlt,by omega,⟨f,?_,hf,fun b hb=>(hfn b hb).imp id fun ⟨j,hj,q⟩=>⟨j,by omega,q⟩,hDf⟩,⟨ts2,h2,rfl⟩,ss.trans s3,s3 _ _ hd⟩
   rw[List.range_succ,List.filterMap_append]
   have e1:[i].filterMap dy=[]:=by rw[List.filterMap_cons,en];rfl
   rw[e1,List.append_nil]
   exact hp.same s3
 ·have e:i=n:=by omega
  subst e
  exact .inl ⟨Nat.le_refl _,fin D H ys f hD ss hd hp hf hfn hDf⟩
theorem e1q (T:Tx K mg):a3y P w K mg base CX0 4 T.c4e T.c3r ["_law_script","_law_deals","_law_order"] (e4k K):=by
 refine T.d1g.ok a2p (fun vs H Q E h=>?_) (fun cdv A outer s H vs Q E hr h=>?_)
 ·obtain⟨a,ns,dv,ov,ds,os,rfl,_⟩:=h
  rfl
 ·obtain⟨a,ns,dv,ov,ds,os,rfl,ha,hd,ho,⟨g1,g2,g3,g4⟩,hW,hol,q⟩:=h
  have hu:=a8v hr
  refine⟨_,(a0e (a0n (i:=3) a2p.nd rfl (Or.inr rfl) (a0l ((d9v T).mono (by decide)) hr rfl T.d7q T.c9n.kp T.d5g .nil a1m (a0a (a0l ((a2n T).mono (by decide)) hr rfl T.a3c T.a2v.kp T.a3i .nil a1m (a0a (a0l ((b1z T).mono (by decide)) hr rfl T.b3q T.b0q.kp T.b3m .nil a1m (a0a (pv 0) (a0a a0c a0d))) (a0a a0c a0d))) a0d)))
   (a0e (a0n (i:=4) a2p.nd rfl (Or.inr rfl) (e5m (c5w a1p (a1k (a0a a0c (a0a a0c (a0a a0c (a0a a0c a0d))))) (c5w a1p (a1k (a0a (a1k a0d) (a0a (a1k a0d) (a0a (a1k a0d) (a0a (a1k a0d) a0d))))) (c5w a1p a6r e6h))) rfl rfl (by simp) (by decide)))
   (a0e (a7j hu (pv 4) a1p (b5m a7m (a0v a2e (a0l ((a2n T).mono (by decide)) hr rfl T.a3c T.a2v.kp T.a3i .nil a1m (a0a (a0l ((b1z T).mono (by decide)) hr rfl T.b3q T.b0q.kp T.b3m .nil a1m (a0a (pv 0) (a0a a0c a0d))) (a0a a0c a0d))) a0c) a0c (a0x _)) rfl)
   (a0e (a0n (i:=5) a2p.nd rfl (Or.inr rfl) a6r)
   (a0e (a0n (i:=6) a2p.nd rfl (Or.inl rfl) a6r)
   (a0e (a2o PassesOwn.never rfl (a1r (pv 1)) (b0k rfl (a0u (a0i (i:=7) a2p.nd rfl (Or.inl rfl)) (a0u (a0i (i:=8) a2p.nd rfl (Or.inl rfl)) (a0u (a0i (i:=9) a2p.nd rfl (Or.inl rfl)) a4o))))
   (a0e (a7j hu (pv 5) (pv 7) (a1k a0d) rfl)
   (a0g (a7j hu (pv 6) (pv 7) (a2f (a0a (pv 8) (a0a (pv 9) a0d))) rfl))))
   (a0e (a2o PassesOwn.never rfl (a1o rfl T.a2z (a0a (a1b a1i (by rfl) T.a5j boot_len (a0a (pv 2) a0d)) a0d)) (a0i (i:=10) a2p.nd rfl (Or.inl rfl))
   (a0e (c0g (a0o a0w (pv 2) (pv 10) (fun _ _=>rfl)) (b0k rfl (a0u (a0i (i:=7) a2p.nd rfl (Or.inl rfl)) (a0u (a0i (i:=11) a2p.nd rfl (Or.inl rfl)) a4o))))
   (a0e (c0g (a1d hu (pv 6) (pv 7) (fun _ _=>rfl)) (b0k rfl (a0u (a0i (i:=8) a2p.nd rfl (Or.inl rfl)) (a0u (a0i (i:=9) a2p.nd rfl (Or.inl rfl)) a4o))))
   (a0e (a0n (i:=12) a2p.nd rfl (Or.inl rfl) (a0l ((b1z T).mono (by decide)) hr rfl T.b3q T.b0q.kp T.b3m .nil a1m (a0a (pv 0) (a0a (a0v a3z a0c (pv 10)) a0d))))
   (a0e (a2o PassesOwn.never rfl (a1o rfl T.a2z (a0a (pv 9) a0d)) (a0i (i:=13) a2p.nd rfl (Or.inl rfl))
   (a0g (a3n (a0t a7m (a0l ((c8w T).mono (by decide)) hr rfl T.c5i T.b7z.kp T.c4o .nil a1m (a0a (pv 8) (a0a (pv 13) a0d))) (pv 11) (a0x _))
   (a0e (a0n (i:=14) a2p.nd rfl (Or.inl rfl) (a0l ((e1d T).mono (by decide)) hr rfl T.d6v T.d0c.kp T.d8u .nil a1m (a0a (pv 3) (a0a (a1d hu (pv 4) a1p (fun _ _=>rfl)) (a0a (a0l ((a2n T).mono (by decide)) hr rfl T.a3c T.a2v.kp T.a3i .nil a1m (a0a (pv 12) (a0a (a0v a3z a0c (pv 13)) a0d))) (a0a (b5m a7m (pv 8) a1p (a0x _)) a0d))))))
   (a0g (a5t (b7c PySem.F.plainAttrs_list PySem.F.slot_list_append PySem.F.type_list_append a4r (a1d hu (pv 5) (pv 7) (fun _ _=>rfl)) (a0a (pv 14) a0d)))))
   a1a)))
   (a8n (a3n (a0t a7m (pv 11) (a0l ((c9a T).mono (by decide)) hr rfl T.c3z T.b7v.kp T.c4h .nil a1m (a0a (pv 8) (a0a (pv 9) a0d))) (a0x _))
   (a0g (a7j hu (a1d hu (pv 4) a1p (fun _ _=>rfl)) (pv 7) (a2y a7x (by rfl) T.b6t boot_list (a0a (a1d hu (pv 4) a1p (fun _ _=>rfl)) a0d)) rfl))
   a1a)
   (a0g (a3n (a0t a7m (pv 11) (a0v c1y (a0l ((b1g T).mono (by decide)) hr rfl T.b1t T.a9l.kp T.b2h .nil a1m (a0a (pv 8) (a0a (pv 9) a0d))) a0c) (a0x _))
   (a0g (a5t (a0l ((e1a T).mono (by decide)) hr rfl T.d6y T.c9j.kp T.d8w .nil a1m (a0a (pv 7) (a0a (pv 8) (a0a (a0l ((a2n T).mono (by decide)) hr rfl T.a3c T.a2v.kp T.a3i .nil a1m (a0a (pv 12) (a0a a0c a0d))) (a0a (pv 4) a0d)))))))
   a1a))))))))
   (a0e (c4z (i:=15) ["_law_k"] rfl a2p.nd rfl rfl (a3b.mk (fv:=["_law_keys_here","_law_state"]) (js:=[3,4]) rfl (by decide +kernel) (by decide +kernel) (by decide +kernel) (a1q (Or.inl rfl) (a1q (Or.inl rfl) a2l)) rfl (by decide +kernel)) (a1o rfl T.a2z (a0a a0c a0d)) rfl (fun _ _ _ _ _=>(a0i (i:=0) (show (["_law_k","_law_keys_here","_law_state"]:List Str).Nodup by decide +kernel) rfl (Or.inl rfl))) (fun _ _ _ _ _=>(c8d (a0t (e4i (K:=K) rfl hr.units) (a0o (b3r (K:=K) rfl) (a1d hu (pv 2) a1p (fun _ _=>rfl)) (pv 0) (fun _ _=>rfl)) (a1k a0d) (a0x _)))) (fun _ _ _ _ _=>(a2f (a0a (a0o (b3r (K:=K) rfl) (pv 1) (pv 0) (fun _ _=>rfl)) (a0a (a0o (b3r (K:=K) rfl) (a1d hu (pv 2) a1p (fun _ _=>rfl)) (pv 0) (fun _ _=>rfl)) a0d)))))
   (a0g (a0s (a2f (a0a (a3p ["_law_number","_law_word","_law_looks"] rfl (a3b.mk (fv:=["_law_seen"]) (js:=[5]) rfl (by decide +kernel) (by decide +kernel) (by decide +kernel) (a1q (Or.inl rfl) a2l) rfl (by decide +kernel)) (a1r (pv 1)) (fun _ _ _ _ _=>(c3m (K:=K) (n:=3) rfl rfl (a0u (a0i (i:=0) (show (["_law_number","_law_word","_law_looks","_law_seen"]:List Str).Nodup by decide +kernel) rfl (Or.inl rfl)) (a0u (a0i (i:=1) (show (["_law_number","_law_word","_law_looks","_law_seen"]:List Str).Nodup by decide +kernel) rfl (Or.inl rfl)) (a0u (a0i (i:=2) (show (["_law_number","_law_word","_law_looks","_law_seen"]:List Str).Nodup by decide +kernel) rfl (Or.inl rfl)) a4o))))) (fun _ _ _ _ _=>b0j) (fun _ _ _ _ _=>(a2f (a0a (pv 0) (a0a (pv 1) (a0a (a1d hu (pv 3) (pv 0) (fun _ _=>rfl)) a0d)))))) (a0a (pv 15) a0d))))))))))))),?_⟩
  refine c3v fun b' hb'=>?_
  have z9:(200:Nat)≤sizeLine:=by decide
  obtain⟨dl,dxs,rfl,hdl,htd⟩:=a9j hd
  obtain⟨ol,oxs,rfl,hol2,hto⟩:=a9j ho
  have hdxl:dxs.length=ds.length:=by rw[htd.len,List.length_map]
  have hoxl:oxs.length=os.length:=by rw[hto.len,List.length_map]
  refine⟨_,rfl,a,ns,0,rfl,ha,by decide,fun c0=>⟨c0,4,rfl,c1l c0 4,rfl,c9l _ _,e5u _ _,fun Dk H1 ks hDk s1 hk gk=>?_⟩⟩
  have gk1:=gk.1;have gk2:=gk.2
  subst hb';refine b1j fun b' hb'=>?_
  intro st hst
  refine⟨(by show 4≤sizeLine;decide),fun L hL=>⟨(by show 0≤sizeLine;decide),fun m0 hm0=>⟨(by show 0≤sizeLine;decide),fun m1 hm1=>⟨(by show 0≤sizeLine;decide),fun m2 hm2=>⟨(by show 0≤sizeLine;decide),fun m3 hm3=>⟨(by show 4≤sizeLine;decide),fun M hM=>fun S hS=>?_⟩⟩⟩⟩⟩⟩
  have p0:=Same.upd (o:=HO.dK []) hst
  have p1:=Same.upd (o:=HO.lst [.int 0,.int 0,.int 0,.int 0]) hL
  have p2:=Same.upd (o:=HO.lst []) hm0
  have p3:=Same.upd (o:=HO.lst []) hm1
  have p4:=Same.upd (o:=HO.lst []) hm2
  have p5:=Same.upd (o:=HO.lst []) hm3
  have p6:=Same.upd (o:=HO.lst [.ref m0,.ref m1,.ref m2,.ref m3]) hM
  have p7:=Same.upd (o:=HO.dK []) hS
  have r0:upd H1 st (.dK []) st=some (.dK []):=a0b
  have r1:upd (upd H1 st (.dK [])) L (.lst [.int 0,.int 0,.int 0,.int 0]) L=some (.lst [.int 0,.int 0,.int 0,.int 0]):=a0b
  generalize upd (upd H1 st (.dK [])) L (.lst [.int 0,.int 0,.int 0,.int 0])=G1 at *
  have r2:upd G1 m0 (.lst []) m0=some (.lst []):=a0b
  generalize upd G1 m0 (.lst [])=G2 at *
  have r3:upd G2 m1 (.lst []) m1=some (.lst []):=a0b
  generalize upd G2 m1 (.lst [])=G3 at *
  have r4:upd G3 m2 (.lst []) m2=some (.lst []):=a0b
  generalize upd G3 m2 (.lst [])=G4 at *
  have r5:upd G4 m3 (.lst []) m3=some (.lst []):=a0b
  generalize upd G4 m3 (.lst [])=G5 at *
  have r6:upd G5 M (.lst [.ref m0,.ref m1,.ref m2,.ref m3]) M=some (.lst [.ref m0,.ref m1,.ref m2,.ref m3]):=a0b
  generalize upd G5 M (.lst [.ref m0,.ref m1,.ref m2,.ref m3])=G6 at *
  have r7:upd G6 S (.dK []) S=some (.dK []):=a0b
  generalize upd G6 S (.dK [])=G7 at *
  have q1:=p1.trans (p2.trans (p3.trans (p4.trans (p5.trans (p6.trans p7)))))
  have q2:=p2.trans (p3.trans (p4.trans (p5.trans (p6.trans p7))))
  have q3:=p3.trans (p4.trans (p5.trans (p6.trans p7)))
  have q4:=p4.trans (p5.trans (p6.trans p7))
  have q5:=p5.trans (p6.trans p7)
  have q6:=p6.trans p7
  have emg:c2l [] (sk3 L M S)=sk3 L M S:=b0w (sk3 L M S) [] (by show ([Sum.inr "last",Sum.inr "makers",Sum.inr "stood"]:List Key).Nodup;decide +kernel)
  refine⟨q1 _ _ r0,sk3 L M S,rfl,(by show 3≤15;decide),?_⟩
  rw[emg]
  have sG0:Same H1 (upd G7 st (.dK (sk3 L M S))):=(p0.trans q1).again hst
  subst hb';refine b1j fun b' hb'=>?_
  refine⟨_,rfl,a,ns,0,rfl,sG0.seq (s1.seq ha),by decide,fun c1=>⟨c1,5,rfl,_,_,rfl,rfl,(by show (0:Int) < 4;decide),rfl,_,rfl,st,_,rfl,d3q.k (k:=Sum.inr "free") a0b (by show 3 < sizeLine;decide),?_⟩⟩
  rw[e0l]
  obtain⟨fb0,hfb0⟩:∃ b:Bool,decide (V.int (c1l c1 5%4)=V.int 0)=b:=⟨_,rfl⟩
  have efb:skO L M S (decide (V.int (c1l c1 5%4)=V.int 0))=skO L M S fb0:=by rw[hfb0]
  rw[efb]
  have ne2:∀ {HA:Hp} {x y:Addr} {o:HO},HA x=none→HA y=some o→x≠y:=fun e1 e2 z=>by rw[z,e2] at e1;cases e1
  have nL:L≠st:=ne2 hL r0
  have n0:m0≠L:=ne2 hm0 r1
  have n0s:m0≠st:=ne2 hm0 (p1 _ _ r0)
  have n1:m1≠L:=ne2 hm1 (p2 _ _ r1)
  have n10:m1≠m0:=ne2 hm1 r2
  have n1s:m1≠st:=ne2 hm1 (p2 _ _ (p1 _ _ r0))
  have n2:m2≠L:=ne2 hm2 (p3 _ _ (p2 _ _ r1))
  have n20:m2≠m0:=ne2 hm2 (p3 _ _ r2)
  have n21:m2≠m1:=ne2 hm2 r3
  have n2s:m2≠st:=ne2 hm2 (p3 _ _ (p2 _ _ (p1 _ _ r0)))
  have n3:m3≠L:=ne2 hm3 (p4 _ _ (p3 _ _ (p2 _ _ r1)))
  have n30:m3≠m0:=ne2 hm3 (p4 _ _ (p3 _ _ r2))
  have n31:m3≠m1:=ne2 hm3 (p4 _ _ r3)
  have n32:m3≠m2:=ne2 hm3 r4
  have n3s:m3≠st:=ne2 hm3 (p4 _ _ (p3 _ _ (p2 _ _ (p1 _ _ r0))))
  have nMs:M≠st:=ne2 hM (p5 _ _ (p4 _ _ (p3 _ _ (p2 _ _ (p1 _ _ r0)))))
  have nML:M≠L:=ne2 hM (p5 _ _ (p4 _ _ (p3 _ _ (p2 _ _ r1))))
  have nM0:M≠m0:=ne2 hM (p5 _ _ (p4 _ _ (p3 _ _ r2)))
  have nM1:M≠m1:=ne2 hM (p5 _ _ (p4 _ _ r3))
  have nM2:M≠m2:=ne2 hM (p5 _ _ r4)
  have nM3:M≠m3:=ne2 hM r5
  have nSs:S≠st:=ne2 hS (p6 _ _ (p5 _ _ (p4 _ _ (p3 _ _ (p2 _ _ (p1 _ _ r0))))))
  have sG:Same H1 (upd (upd G7 st (.dK (sk3 L M S))) st (.dK (skO L M S fb0))):=sG0.again hst
  have fresh1:H1 L=none∧H1 m0=none∧H1 m1=none∧H1 m2=none∧H1 m3=none∧H1 M=none∧H1 S=none:=⟨p0.free hL,(p0.trans p1).free hm0,(p0.trans (p1.trans p2)).free hm1,(p0.trans (p1.trans (p2.trans p3))).free hm2,(p0.trans (p1.trans (p2.trans (p3.trans p4)))).free hm3,(p0.trans (p1.trans (p2.trans (p3.trans (p4.trans p5))))).free hM,(p0.trans (p1.trans (p2.trans (p3.trans (p4.trans (p5.trans p6)))))).free hS⟩
  have hStaG:Sta (upd (upd G7 st (.dK (sk3 L M S))) st (.dK (skO L M S fb0))) st L M S [m0,m1,m2,m3] [0,0,0,0] [[],[],[],[]] []:=by
   refine⟨⟨fb0,a0b⟩,by rw[a0h nL,a0h nL];exact q2 _ _ r1,by rw[a0h nMs,a0h nMs];exact p7 _ _ r6,by rw[a0h nSs,a0h nSs];exact r7,rfl,rfl,rfl,fun j m nn e1 e2=>?_,?_,?_,⟨nML,?_⟩⟩
   ·have:j=0∨j=1∨j=2∨j=3:=by
     have:=(List.getElem?_eq_some_iff.mp e1).1
     simp only [List.length_cons,List.length_nil] at this
     omega
    rcases this with rfl | rfl | rfl | rfl<;>cases e1<;>cases e2
    ·rw[a0h n0s,a0h n0s];exact q3 _ _ r2
    ·rw[a0h n1s,a0h n1s];exact q4 _ _ r3
    ·rw[a0h n2s,a0h n2s];exact q5 _ _ r4
    ·rw[a0h n3s,a0h n3s];exact q6 _ _ r5
   ·simp only [List.nodup_cons,List.mem_cons,List.not_mem_nil,or_false,not_or,List.nodup_nil,and_true,not_false_eq_true]
    exact⟨⟨n10.symm,n20.symm,n30.symm⟩,⟨n21.symm,n31.symm⟩,n32.symm⟩
   ·simp only [List.mem_cons,List.not_mem_nil,or_false,not_or]
    exact⟨n0.symm,n1.symm,n2.symm,n3.symm⟩
   ·simp only [List.mem_cons,List.not_mem_nil,or_false,not_or]
    exact⟨nM0,nM1,nM2,nM3⟩
  generalize upd (upd G7 st (.dK (sk3 L M S))) st (.dK (skO L M S fb0))=G8 at *
  clear sG0 p0 p1 p2 p3 p4 p5 p6 p7 r0 r1 r2 r3 r4 r5 r6 r7 q1 q2 q3 q4 q5 q6 n0 n0s n1 n10 n1s n2 n20 n21 n2s n3 n30 n31 n32 n3s nMs nML nM0 nM1 nM2 nM3
  subst hb';refine b1j fun b' hb'=>?_
  intro se hse
  subst hb';refine b1j fun b' hb'=>?_
  intro kn hkn
  subst hb';refine b1j fun b' hb'=>?_
  have s8a:=Same.upd (o:=HO.dK []) hse
  have s8b:=Same.upd (o:=HO.dK []) hkn
  have knse:kn≠se:=ne2 hkn a0b
  have seS:se≠S:=ne2 hse hStaG.h3
  have knS:kn≠S:=ne2 hkn (s8a _ _ hStaG.h3)
  have hkn8:G8 kn=none:=s8a.free hkn
  refine⟨_,rfl,dl,rfl,⟨_,SqL.of ((sG.trans (s8a.trans s8b)) _ _ (s1 _ _ hdl))⟩,a4e (K:=K) (a:=dl) (xs:=dxs) (fun i σ H2=>∃ (x7 x8 x9:Option V) (Sa Ka:Int→Addr) (sv kv:List (Key×V)),σ=[some (.ref a),some (.ref dl),some (.ref ol),some (.ref Dk),some (.ref st),some (.ref se),some (.ref kn),x7,x8,x9,none,none,none,none,none,none]∧Same G8 H2∧H2 se=some (.dK sv)∧H2 kn=some (.dK kv)∧sv.length≤i∧kv.length≤i∧(∀ d∈ds.take i,a4a sv (Sum.inl d.1)=some (.ref (Sa d.1))∧H2 (Sa d.1)=some (.lst [])∧G8 (Sa d.1)=none∧a4a kv (Sum.inl d.1)=some (.ref (Ka d.1))∧H2 (Ka d.1)=some (.tup [.str d.2.1,.int d.2.2]))∧∀ d∈ds.take i,∀ e∈ds.take i,Sa d.1=Sa e.1→d.1=e.1)
   ⟨none,none,none,fun _=>0,fun _=>0,[],[],rfl,s8a.trans s8b,s8b _ _ a0b,a0b,Nat.le_refl _,Nat.le_refl _,(fun d h=>by simp at h),fun d h=>by simp at h⟩ (fun i σ H2 _ hJ'=>by obtain⟨_,_,_,_,_,_,_,_,s2,_⟩:=hJ';exact SqL.of (s2 _ _ (sG _ _ (s1 _ _ hdl)))) ?_ ?_⟩
  ·intro i x σ H2 hx hJ'
   refine d4i fun G' hG'=>?_
   obtain⟨x7,x8,x9,Sa,Ka,sv,kv,rfl,s2,hsv,hkv,lsv,lkv,hal,hinj⟩:=hJ'
   refine hG' ?_
   refine c6r fun D' hD'=>?_
   obtain⟨pd,hpd,tr⟩:=htd.get hx
   have hi:i < ds.length:=by rw[←hdxl];exact(List.getElem?_eq_some_iff.mp hx).1
   have ed:ds[i]?=some ds[i]:=List.getElem?_eq_getElem hi
   rw[List.getElem?_map,ed] at hpd
   cases hpd
   obtain⟨t,rfl,ht⟩:=tr.drn
   have htk:ds.take (i+1)=ds.take i++[ds[i]]:=by rw[List.take_add_one,ed];rfl
   have hnew:∀ e∈ds.take i,e.1≠ds[i].1:=fun e he z=>by
    have hp:=List.pairwise_iff_getElem.mp (List.pairwise_map.mp g2)
    obtain⟨j,hj,rfl⟩:=List.getElem_of_mem he
    rw[List.length_take] at hj
    have:=hp j i (by omega) hi (by omega)
    rw[List.getElem_take] at z
    omega
   refine⟨t,_,rfl,SqT.of (s2 _ _ (sG _ _ (s1 _ _ ht))),rfl,_,_,rfl,_,_,rfl,_,_,rfl,rfl,?_⟩
   refine c3v fun b2' hb2'=>?_
   refine⟨(by show 0≤sizeLine;decide),fun b hb=>⟨_,rfl,_,rfl,se,_,rfl,.inl ⟨sv,Sum.inl ds[i].1,(Same.upd hb) _ _ hsv,rfl,by omega,rfl⟩,?_⟩⟩
   have bse:b≠se:=ne2 hb hsv
   have bkn:b≠kn:=ne2 hb hkv
   have k3:∀ x o,x≠se→H2 x=some o→upd (upd H2 b (.lst [])) se (.dK (a6e sv (Sum.inl ds[i].1) (.ref b))) x=some o:=fun x o hx e=>by rw[a0h hx];exact(Same.upd hb) _ _ e
   have hb3:upd (upd H2 b (.lst [])) se (.dK (a6e sv (Sum.inl ds[i].1) (.ref b))) b=some (.lst []):=by rw[a0h bse];exact a0b
   have hse3:upd (upd H2 b (.lst [])) se (.dK (a6e sv (Sum.inl ds[i].1) (.ref b))) se=some (.dK (a6e sv (Sum.inl ds[i].1) (.ref b))):=a0b
   generalize upd (upd H2 b (.lst [])) se (.dK (a6e sv (Sum.inl ds[i].1) (.ref b)))=H3 at *
   subst hb2'
   refine⟨_,rfl,_,rfl,(by show 2≤sizeLine;decide),fun t2 ht2=>⟨_,rfl,_,rfl,kn,_,rfl,.inl ⟨kv,Sum.inl ds[i].1,(Same.upd ht2) _ _ (k3 _ _ knse hkv),rfl,by omega,rfl⟩,?_⟩⟩
   have s4:=Same.upd (o:=HO.tup [.str ds[i].2.1,.int ds[i].2.2]) ht2
   have ht4:upd H3 t2 (.tup [.str ds[i].2.1,.int ds[i].2.2]) t2=some (.tup [.str ds[i].2.1,.int ds[i].2.2]):=a0b
   have tkn:t2≠kn:=ne2 ht2 (k3 _ _ knse hkv)
   have k5:∀ x o,x≠kn→H3 x=some o→upd (upd H3 t2 (.tup [.str ds[i].2.1,.int ds[i].2.2])) kn (.dK (a6e kv (Sum.inl ds[i].1) (.ref t2))) x=some o:=fun x o hx e=>by rw[a0h hx];exact s4 _ _ e
   have ht5:upd (upd H3 t2 (.tup [.str ds[i].2.1,.int ds[i].2.2])) kn (.dK (a6e kv (Sum.inl ds[i].1) (.ref t2))) t2=some (.tup [.str ds[i].2.1,.int ds[i].2.2]):=by rw[a0h tkn];exact ht4
   subst hD'
   refine⟨_,_,_,fun m=>if m=ds[i].1 then b else Sa m,fun m=>if m=ds[i].1 then t2 else Ka m,_,_,rfl,fun x o e=>?_,k5 _ _ knse.symm hse3,a0b,?_,?_,?_,?_⟩
   ·exact k5 _ _ (ne2 hkn8 e).symm (k3 _ _ (ne2 hse e).symm (s2 _ _ e))
   ·have:=d0g sv (Sum.inl ds[i].1:Key) (.ref b)
    omega
   ·have:=d0g kv (Sum.inl ds[i].1:Key) (.ref t2)
    omega
   ·intro d hd
    rw[htk] at hd
    rw[a7p,a7p]
    dsimp only
    rcases List.mem_append.mp hd with y | y
    ·obtain⟨a1,a2,a3,a4,a5⟩:=hal d y
     have ne:=hnew d y
     rw[if_neg (fun z=>ne (Sum.inl.inj z)),if_neg (fun z=>ne (Sum.inl.inj z)),if_neg ne,if_neg ne]
     exact⟨a1,k5 _ _ (fun z=>by rw[z,hkv] at a2;cases a2) (k3 _ _ (fun z=>by rw[z,hsv] at a2;cases a2) a2),a3,a4,k5 _ _ (fun z=>by rw[z,hkv] at a5;cases a5) (k3 _ _ (fun z=>by rw[z,hsv] at a5;cases a5) a5)⟩
    ·rw[List.mem_singleton.mp y,if_pos rfl,if_pos rfl,if_pos rfl,if_pos rfl]
     exact⟨rfl,k5 _ _ bkn hb3,s2.free hb,rfl,ht5⟩
   ·intro d hd e he
    rw[htk] at hd he
    dsimp only
    rcases List.mem_append.mp hd with y | y<;>rcases List.mem_append.mp he with y' | y'
    ·rw[if_neg (hnew d y),if_neg (hnew e y')]
     exact hinj d y e y'
    ·rw[List.mem_singleton.mp y',if_neg (hnew d y),if_pos rfl]
     exact fun z=>absurd z.symm (ne2 hb (hal d y).2.1)
    ·rw[List.mem_singleton.mp y,if_neg (hnew e y'),if_pos rfl]
     exact fun z=>absurd z (ne2 hb (hal e y').2.1)
    ·rw[List.mem_singleton.mp y,List.mem_singleton.mp y']
     exact fun _=>rfl
  intro σ H0 hJ'
  refine d4i fun G' hG'=>?_
  obtain⟨x7,x8,x9,Sa,Ka,sv,kv,rfl,s2,hsv,hkv,lsv,lkv,hal,hinj⟩:=hJ'
  refine hG' ?_
  subst hb';refine b1j fun b' hb'=>?_
  rw[hdxl,List.take_length] at hal hinj
  obtain⟨hf1,hf2,hf3,hf4,hf5,hf6,hf7⟩:=fresh1
  have hms8:∀ m∈[m0,m1,m2,m3],∃ xs,G8 m=some (.lst xs):=fun m hm=>by
   obtain⟨j,hj,ej⟩:=List.getElem_of_mem hm
   have hj4:j < 4:=hj
   exact⟨_,hStaG.hm j m _ (by rw[List.getElem?_eq_getElem hj,ej]) (List.getElem?_eq_getElem (show j < [([]:List Int),[],[],[]].length from hj4))⟩
  have F:Fx ds ks H0 Sa st L M S [m0,m1,m2,m3]:=⟨g2,gk1,⟨_,s2 _ _ hStaG.h1⟩,fun m hm=>by obtain⟨xs,e⟩:=hms8 m hm;exact⟨xs,s2 _ _ e⟩,⟨_,s2 _ _ hStaG.h3⟩,fun d hd=>⟨_,(hal d hd).2.1⟩,hinj,fun d hd=>⟨ne2 (hal d hd).2.2.1 hStaG.h1,fun z=>by obtain⟨xs,e⟩:=hms8 _ z;exact ne2 (hal d hd).2.2.1 e rfl,ne2 (hal d hd).2.2.1 hStaG.h2⟩,nSs.symm⟩
  have old:∀ {c:Int→Int} {fb:Drn→Int} {N:Nat} {H2:Hp} {ls:List Int} {mk:List (List Int)} {skv:List (Key×V)} {xs:Int→List V} {lk:Int→List Lk} {fp:Int→List Addr},PSt ds ks H0 Sa st L M S [m0,m1,m2,m3] c fb N H2 ls mk skv xs lk fp→Same H1 H2:=fun hP b o e=>by
   refine hP.fr b o (s2 _ _ (sG _ _ e)) (ne2 hf1 e).symm (fun z=>?_) (ne2 hf7 e).symm fun d hd=>(ne2 (hal d hd).2.2.1 (sG _ _ e)).symm
   simp only [List.mem_cons,List.not_mem_nil,or_false] at z
   rcases z with rfl | rfl | rfl | rfl
   ·rw[hf2] at e;cases e
   ·rw[hf3] at e;cases e
   ·rw[hf4] at e;cases e
   ·rw[hf5] at e;cases e
  have hP0:PSt ds ks H0 Sa st L M S [m0,m1,m2,m3] (fun n=>(cnt os 0 n:Int)) (fun d=>lkB d (cnt os 0 d.1)) 0 H0 [0,0,0,0] [[],[],[],[]] [] (fun _=>[]) (fun _=>[]) (fun _=>[]):=by
   refine⟨hStaG.same s2,fun b o e _ _ _ _=>e,fun b e=>e,fun d hd=>⟨(hal d hd).2.1,.nil,.nil,(fun b hb=>by cases hb)⟩,fun d hd hc=>?_,Nat.le_refl _,fun d hd=>?_,(fun d hd l hl=>by cases hl),fun nn hn=>?_,fun i v hv=>.inl ?_,fun nn hn=>?_,(fun d hd e he ne b hb=>by cases hb)⟩
   ·have:=(d3a (w:=d.2.1) (g3 d hd).2.2.2.1).1
    have hc':a1y d.2.1 d.2.2 < (0:Int):=hc
    omega
   ·show (0:Int)≤lkB d (0:Int)
    have:=(g3 d hd).2.2.2.1
    unfold lkB
    split
    ·omega
    ·split<;>omega
   ·simp only [List.mem_cons,List.not_mem_nil,or_false,or_self] at hn
    rw[hn]
    exact⟨List.nodup_nil,fun n h=>by cases h⟩
   ·have:=List.mem_of_getElem? hv
    simpa using this
   ·simp only [List.mem_cons,List.not_mem_nil,or_false,or_self] at hn
    rw[hn]
    exact Nat.le_refl _
  refine⟨_,rfl,_,_,rfl,.inl ⟨_,SqL.of ((old hP0) _ _ (s1 _ _ hol2)),rfl⟩,_,rfl,by omega,by omega,a2m (lo:=0) (n:=((oxs.length:Nat):Int).toNat) (fun j σ H2=>∃ (x7 x8 x9 x10 x11 x12 x13 x14:Option V) (ls:List Int) (mk:List (List Int)) (skv:List (Key×V)) (xs:Int→List V) (lk:Int→List Lk) (fp:Int→List Addr),σ=[some (.ref a),some (.ref dl),some (.ref ol),some (.ref Dk),some (.ref st),some (.ref se),some (.ref kn),x7,x8,x9,x10,x11,x12,x13,x14,none]∧PSt ds ks H0 Sa st L M S [m0,m1,m2,m3] (fun n=>(cnt os j n:Int)) (fun d=>lkB d (cnt os j d.1)) j H2 ls mk skv xs lk fp)
   ⟨x7,x8,x9,none,none,none,none,none,_,_,_,_,_,_,rfl,hP0⟩ ?_ ?_⟩
  ·intro j σ H2 hj hJ'
   refine d4i fun G' hG'=>?_
   obtain⟨x7,x8,x9,x10,x11,x12,x13,x14,ls,mk,skv,xs,lk,fp,rfl,hP⟩:=hJ'
   have hj':j < os.length:=by omega
   obtain⟨⟨n,g⟩,eo⟩:∃ p,os[j]?=some p:=⟨_,List.getElem?_eq_getElem hj'⟩
   obtain⟨hg,d,hd,rfl,hlt⟩:=hW j n g eo
   have sH:=old hP
   obtain⟨ov,hov,otr⟩:=hto.at (i:=j) (d:=b3h (d.1,g)) (by rw[List.getElem?_map,eo];rfl)
   obtain⟨ot,rfl,hot⟩:=b8t otr
   obtain⟨a1,a2,a3,a4,a5⟩:=hal d hd
   obtain⟨b1,b2,b3,b4,b5⟩:=g3 d hd
   have hkn2:=hP.dict F hkv knS
   have hgk:b2n H2 kn (.int d.1) (some (.ref (Ka d.1))):=by
    have:=b2n.k (k:=Sum.inl d.1) hkn2
    rw[a4] at this
    exact this
   have g0:0≤g:=by omega
   refine hG' ?_
   refine c6r fun D' hD'=>?_
   refine c3v fun b2' hb2'=>?_
   refine⟨_,rfl,_,rfl,ol,_,_,_,rfl,rfl,SqL.of (sH _ _ (s1 _ _ hol2)),a1f j (by omega) hov,ot,_,rfl,SqT.of (sH _ _ (s1 _ _ hot)),rfl,_,_,rfl,_,_,rfl,rfl,?_⟩
   subst hb2';refine b1j fun b2' hb2'=>?_
   refine⟨_,rfl,_,rfl,kn,_,rfl,hgk,Ka d.1,_,rfl,SqT.of (hP.tup F a5),rfl,_,_,rfl,_,_,rfl,rfl,?_⟩
   subst hb2';refine b1j fun b2' hb2'=>?_
   refine⟨_,rfl,_,rfl,_,_,rfl,rfl,a,ns,_,rfl,sH.seq (s1.seq ha),by omega,fun cz=>?_⟩
   subst hb2';refine b1j fun b2' hb2'=>?_
   have notin:∀ nn∈mk,d.1 ∉ nn:=fun nn hnn z=>by
    obtain⟨e,he,e1,e2⟩:=(hP.mks nn hnn).2 d.1 z
    have:e=d:=b5o g2 he hd e1
    subst this
    omega
   refine⟨_,rfl,d.2.2,rfl,by omega,by omega,a2m (lo:=0) (n:=d.2.2.toNat) (fun i σ H3=>∃ (x13 x14:Option V) (xs:Int→List V) (lk:Int→List Lk) (fp:Int→List Addr),σ=[some (.ref a),some (.ref dl),some (.ref ol),some (.ref Dk),some (.ref st),some (.ref se),some (.ref kn),some (.int d.1),some (.str d.2.1),some (.int d.2.2),some (.int (0+(j:Int))),some (.int g),some (.int cz),x13,x14,none]∧PSt ds ks H0 Sa st L M S [m0,m1,m2,m3] (fun n=>(cnt os j n:Int)) (fun e=>lkB e (cnt os j e.1)+if e.1=d.1 then c9q d g i else 0) j H3 ls mk skv xs lk fp)
    ⟨x13,x14,xs,lk,fp,rfl,hP.count (Nat.le_refl _) (fun e he h=>h) (fun e he=>?_) (fun _ _ _ _=>rfl)⟩ ?_ ?_⟩
   ·have:=c9m (d:=d) (g:=g) 0
    show lkB e (cnt os j e.1)≤lkB e (cnt os j e.1)+if e.1=d.1 then c9q d g 0 else 0
    split<;>omega
   ·intro i σ H3 hi hJ'
    refine d4i fun G' hG'=>?_
    obtain⟨x13,x14,xs,lk,fp,rfl,hP3⟩:=hJ'
    refine hG' ?_
    refine c6r fun D3' hD3'=>?_
    have sH3:=old hP3
    refine⟨_,rfl,_,rfl,d.2.1,_,rfl,_,rfl,rfl,_,rfl,b0n (fun e=>?_) (fun e=>?_)⟩
    ·have e':a3a d.2.1 (0+(i:Int))=g:=by
      have:=of_decide_eq_true e
      exact V.int.inj this
     have hse3:=hP3.dict F hsv seS
     refine⟨_,rfl,_,rfl,st,_,rfl,hP3.sta.last,_,rfl,_,rfl,_,_,rfl,rfl,cz,_,rfl,_,rfl,rfl,Dk,L,ks,ls,_,_,rfl,sH3 _ _ hk,hP3.sta.h1,⟨gk1,gk2⟩,hP3.sta.n1,fun v H4 l f4 s4 tf nf ff lo=>?_⟩
     have hP4:=hP3.same s4
     have hgs:b2n H4 se (.int d.1) (some (.ref (Sa d.1))):=by
      have:=b2n.k (k:=Sum.inl d.1) (s4 _ _ hse3)
      rw[a1] at this
      exact this
     have hsd:=(hP4.seen d hd).1
     have hln:(xs d.1).length < sizeLine:=by
      have h1:=(hP4.seen d hd).2.1.len
      have h2:=hP3.few d hd
      rw[List.length_map] at h1
      have h3:=e2x (d:=d) (c:=(cnt os j d.1:Int)) b4
      have h4:c9q d g i≤8:=by
       unfold c9q
       split
       ·split<;>omega
       ·split<;>omega
      rw[if_pos rfl] at h2
      omega
     refine⟨_,rfl,_,rfl,se,_,rfl,hgs,.inl ⟨rfl,_,SqL.of hsd⟩,_,rfl,Sa d.1,xs d.1,_,rfl,rfl,hsd,hln,fun H5 h5 k5=>?_⟩
     subst hD3'
     refine⟨_,_,_,_,_,rfl,hP3.look F hd s4 tf nf ff lo h5 k5 notin ?_ fun e he hne=>?_⟩
     ·rw[if_pos rfl,if_pos rfl]
      have:=e5k e'
      omega
     ·rw[if_neg hne,if_neg hne]
      exact Int.le_refl _
    ·subst hD3'
     refine⟨_,_,xs,lk,fp,rfl,hP3.count (Nat.le_refl _) (fun e he h=>h) (fun e he=>?_) (fun _ _ _ _=>rfl)⟩
     have:=d7s (d:=d) (g:=g) (i:=i)
     split<;>omega
   intro σ H3 hJ'
   refine d4i fun G' hG'=>?_
   obtain⟨x13,x14,xs,lk,fp,rfl,hP3⟩:=hJ'
   refine hG' ?_
   subst hb2'
   have hcn:=e0x eo
   have hlook:∀ e∈ds,(lkB e (cnt os j e.1)+if e.1=d.1 then c9q d g d.2.2.toNat else 0)≤lkB e (cnt os (j+1) e.1):=fun e he=>by
    rw[hcn]
    by_cases z:e.1=d.1
    ·have:e=d:=b5o g2 he hd z
     subst this
     rw[if_pos rfl,if_pos rfl,←hg]
     exact d9r b4 g0
    ·rw[if_neg z,if_neg (fun y=>z y.symm)]
     exact Int.le_of_eq (by simp)
   have hcmk:∀ nn∈mk,∀ n∈nn,(cnt os (j+1) n:Int)=cnt os j n:=fun nn hnn n hn=>by
    rw[hcn,if_neg (fun z=>notin nn hnn (by rw[z];exact hn))]
    simp
   refine⟨fun σ H4=>∃ (x13 x14:Option V) (skv':List (Key×V)),σ=[some (.ref a),some (.ref dl),some (.ref ol),some (.ref Dk),some (.ref st),some (.ref se),some (.ref kn),some (.int d.1),some (.str d.2.1),some (.int d.2.2),some (.int (0+(j:Int))),some (.int g),some (.int cz),x13,x14,none]∧PSt ds ks H0 Sa st L M S [m0,m1,m2,m3] (fun n=>(cnt os (j+1) n:Int)) (fun e=>lkB e (cnt os (j+1) e.1)) (j+1) H4 ls mk skv' xs lk fp,?_,?_⟩
   ·refine⟨_,rfl,_,rfl,_,rfl,d.2.1,d.2.2,rfl,rfl,_,rfl,b0n (fun e=>?_) (fun e=>?_)⟩
    ·refine⟨_,rfl,st,_,rfl,hP3.sta.last,L,_,rfl,.inl (SqL.of hP3.sta.h1),fun so hso=>?_⟩
     have s4:=Same.upd (o:=HO.lst (ls.map V.int)) hso
     have hP4:=hP3.same s4
     refine⟨_,rfl,st,_,rfl,hP4.sta.stood,_,rfl,S,_,rfl,.inl ⟨skv,Sum.inl d.1,hP4.sta.h3,rfl,?_,rfl⟩,_,_,a6e skv (Sum.inl d.1) (.ref so),rfl,?_⟩
     ·have:=hP3.slen
      omega
     ·refine(hP3.stand F hd s4 hso a0b (c':=fun n=>(cnt os (j+1) n:Int)) (fun e he h=>?_) hcmk).count (Nat.le_refl _) (fun e he h=>h) hlook (fun _ _ _ _=>rfl)
      by_cases z:e.1=d.1
      ·exact .inl z
      ·refine .inr ?_
       have h':a1y e.2.1 e.2.2 < (cnt os (j+1) e.1:Int):=h
       rw[hcn,if_neg (fun y=>z y.symm)] at h'
       simpa using h'
    ·have e':¬ g=a1y d.2.1 d.2.2:=fun z=>e (decide_eq_true (congrArg V.int z))
     refine⟨_,_,skv,rfl,hP3.count (Nat.le_succ _) (fun f hf h=>?_) hlook hcmk⟩
     have h':a1y f.2.1 f.2.2 < (cnt os (j+1) f.1:Int):=h
     rw[hcn] at h'
     by_cases z:f.1=d.1
     ·have:f=d:=b5o g2 hf hd z
      subst this
      rw[if_pos rfl] at h'
      show a1y f.2.1 f.2.2 < (cnt os j f.1:Int)
      omega
     ·rw[if_neg (fun y=>z y.symm)] at h'
      simpa using h'
   rintro σ H4 ⟨x13,x14,skv',rfl,hP4⟩
   refine⟨_,rfl,_,rfl,_,rfl,d.2.1,d.2.2,rfl,_,_,rfl,rfl,rfl,_,rfl,b0n (fun e=>?_) (fun e=>?_)⟩
   ·have e':g=a0q d.2.1 d.2.2 - 1:=V.int.inj (of_decide_eq_true e)
    have hcd:(cnt os (j+1) d.1:Int)=a0q d.2.1 d.2.2:=by
     rw[hcn,if_pos rfl]
     omega
    have hfl:=d3a (w:=d.2.1) b4
    obtain⟨so,sl,hso,hsl,hsl4⟩:=hP4.stood d hd (by show a1y d.2.1 d.2.2 < (cnt os (j+1) d.1:Int);omega)
    have hso0:=(a2k hsl).1
    refine⟨_,rfl,_,rfl,_,rfl,cz,9,rfl,_,rfl,st,L,M,S,so,[m0,m1,m2,m3],ls,sl,mk,skv',d.1,_,d.2.1,rfl,hP4.sta,hso,(a2k hsl).2,hsl4,?_,?_,fun nn hnn=>?_,fun H5 ls' mk' hS5 k5 tn=>?_⟩
    ·exact ne2 hso0 (s2 _ _ hStaG.h1)
    ·exact fun z=>by obtain⟨xx,ex⟩:=hms8 so z;exact ne2 hso0 (s2 _ _ ex) rfl
    ·have:=hP3.mlen nn hnn
     omega
    ·subst hD'
     exact⟨_,_,_,_,_,_,_,_,ls',mk',skv',xs,lk,fp,rfl,hP4.keep F hd hS5 k5 tn notin hcd fun nn hnn=>Nat.lt_succ_of_le (hP3.mlen nn hnn)⟩
   ·subst hD'
    exact⟨_,_,_,_,_,_,_,_,ls,mk,skv',xs,lk,fp,rfl,hP4⟩
  intro σ H2 hJ'
  refine d4i fun G' hG'=>?_
  obtain⟨x7,x8,x9,x10,x11,x12,x13,x14,ls,mk,skv,xs,lk,fp,rfl,hP⟩:=hJ'
  refine hG' ?_
  subst hb';refine b1j fun b' hb'=>?_
  have sH:=old hP
  have hD2:=hP.sta
  have ek4:∀ i,i < 4→∃ k nn m,ks[i]?=some k∧mk[i]?=some nn∧[m0,m1,m2,m3][i]?=some m:=fun i hi=>⟨_,_,_,List.getElem?_eq_getElem (by omega),List.getElem?_eq_getElem (by rw[hD2.n3];exact hi),List.getElem?_eq_getElem (show i < [m0,m1,m2,m3].length from hi)⟩
  have hsep:∀ {i:Nat} {m:Addr},[m0,m1,m2,m3][i]?=some m→(∀ d∈ds,Sa d.1≠m∧m ∉ fp d.1)∧H1 m=none:=fun {i m} e=>by
   have hm:=List.mem_of_getElem? e
   refine⟨fun d hd=>⟨fun z=>(F.sep d hd).2.1 (z ▸ hm),fun z=>?_⟩,?_⟩
   ·have h1:=(hP.seen d hd).2.2.2 m z
    obtain⟨xx,ex⟩:=F.hms m hm
    rw[h1] at ex
    cases ex
   ·simp only [List.mem_cons,List.not_mem_nil,or_false] at hm
    rcases hm with rfl | rfl | rfl | rfl
    ·exact hf2
    ·exact hf3
    ·exact hf4
    ·exact hf5
  refine⟨4,rfl,by decide,by decide,e7x (k:=1) (fs:=[some (.ref Dk),some (.ref st)]) 4 (fun i=>[m0,m1,m2,m3][i]?.toList) (fun i=>(d9t ks mk i).map a4t) rfl (by decide) (fun i j hij hj b hb hb2=>?_) (fun i hi b hb=>?_) (fun i hi H3 ts R s3 hts cs cn=>?_) (fun D H3 ys f hD s3 hd3 ht3 nf fr3 hDf=>?_)⟩
  ·rw[Option.mem_toList] at hb hb2
   obtain⟨a1,a2⟩:=List.getElem?_eq_some_iff.mp hb
   obtain⟨a3,a4⟩:=List.getElem?_eq_some_iff.mp hb2
   have:=(List.getElem_inj hD2.nd).mp (a2.trans a4.symm)
   omega
  ·rw[Option.mem_toList] at hb
   obtain⟨k,nn,m,e1,e2,e3⟩:=ek4 i hi
   exact⟨_,hD2.hm i b nn hb e2⟩
  ·obtain⟨t,rfl⟩:=List.length_eq_one_iff.mp hts
   obtain⟨k,nn,m,e1,e2,e3⟩:=ek4 i hi
   have hS3:=hD2.same s3
   have hm2:=hD2.hm i m nn e3 e2
   have ai:(0+(i:Int))=((i:Nat):Int):=by omega
   have hvm:atI ([m0,m1,m2,m3].map V.ref) (0+(i:Int))=some (.ref m):=a1f i ai (by rw[List.getElem?_map,e3];rfl)
   have hvk:atI (ks.map V.int) (0+(i:Int))=some (.int k):=a1f i ai (by rw[List.getElem?_map,e1];rfl)
   refine⟨_,rfl,st,_,rfl,hS3.makers,_,rfl,M,_,_,.ref m,rfl,rfl,SqL.of hS3.h2,hvm,(by show 0≤sizeLine;decide),fun el hel=>?_⟩
   have s4:=s3.trans (Same.upd (o:=HO.lst []) hel)
   refine⟨.list (nn.map PyData.int),.list [],.lst (SqL.of (s4 _ _ hm2)) (d2m nn),.lst (SqL.of a0b) .nil,c9w nn,rfl,_,rfl,?_⟩
   by_cases hne:nn=[]
   ·subst hne
    have en:d9t ks mk i=none:=by unfold d9t;rw[e1,e2]
    exact cn (by rw[en];rfl) [_] _ rfl (Same.upd hel)
   ·rw[e6c hne]
    have hS4:=hD2.same s4
    have en:=e6b e1 e2 hne
    refine⟨_,rfl,_,rfl,Dk,_,_,_,rfl,rfl,SqL.of (s4 _ _ (sH _ _ hk)),hvk,_,rfl,st,_,rfl,hS4.makers,_,rfl,M,_,_,.ref m,rfl,rfl,SqL.of hS4.h2,hvm,(by show 2≤sizeLine;decide),fun tt htt=>?_⟩
    have s5:=Same.upd (o:=HO.tup [.int k,.ref m]) htt
    have ttm:tt≠m:=ne2 htt (s4 _ _ hm2)
    refine cs (a4t (k,nn)) _ [tt,m] [_] _ (by rw[en];rfl) rfl ((Same.upd hel).trans s5) ?_ ?_ ?_
    ·exact .tup a0b (TFs.cons (f:=[]) (g:=[m]) (.int k) (TFs.one (.lst (f:=[]) (s5 _ _ (s4 _ _ hm2)) (TFs.ints nn))))
    ·exact List.nodup_cons.mpr ⟨fun z=>ttm (List.mem_singleton.mp z),List.pairwise_singleton _ _⟩
    ·intro b hb
     rcases List.mem_cons.mp hb with y | y
     ·rw[y];exact .inl ((Same.upd hel).free htt)
     ·rw[List.mem_singleton.mp y]
      exact .inr (by rw[Option.mem_toList];exact e3)
  have emk:(List.range 4).filterMap (fun i=>(d9t ks mk i).map a4t)=(d4c ks mk).map a4t:=by
   unfold d4c
   rw[List.map_filterMap]
  rw[emk] at ht3
  have sH3:=sH.trans s3
  subst hb'
  have hP3:=hP.same s3
  refine⟨_,rfl,dl,rfl,⟨_,SqL.of (sH3 _ _ (s1 _ _ hdl))⟩,e9k (k:=3) (fs:=[some (.ref se)]) ds (fun d=>Sa d.1::fp d.1) e2f (fun d=>a2h (d.1,d.2.1,lk d.1)) rfl (sH3 _ _ (s1 _ _ hdl)) ((htd.same s1).same sH3) (by omega) ?_ (fun d hd b hb=>?_) (fun d hd H4 ts v R s4 hts tr cs=>?_) (fun D2 H4 zs f2 hD2' s4 hd4 ht4 nf2 fr4 hDf2=>?_)⟩
  ·have hup:ds.Pairwise fun a c=>a.1 < c.1:=List.pairwise_map.mp g2
   refine List.Pairwise.imp_of_mem (fun {d e} hd he hlt b hb hb2=>?_) hup
   have ne:d.1≠e.1:=Int.ne_of_lt hlt
   have sl:∀ {x y:Drn},x∈ds→y∈ds→Sa x.1 ∉ fp y.1:=fun {x y} hx hy z=>by
    have h1:=(hP.seen y hy).2.2.2 _ z
    obtain⟨xx,ex⟩:=F.hSa x hx
    rw[h1] at ex
    cases ex
   rcases List.mem_cons.mp hb with y | y
   ·rcases List.mem_cons.mp hb2 with x | x
    ·exact ne (F.inj d hd e he (x.symm.trans y))
    ·exact sl he hd (y ▸ x)
   ·rcases List.mem_cons.mp hb2 with x | x
    ·exact sl hd he (x ▸ y)
    ·exact hP.dis d hd e he ne b x y
  ·obtain⟨q1,q2,_⟩:=hP3.seen d hd
   rcases List.mem_cons.mp hb with y | y
   ·rw[y];exact⟨_,q1⟩
   ·rcases q2.live b y with ⟨xx,ex⟩ | ⟨xx,ex⟩
    ·exact⟨_,ex⟩
    ·exact⟨_,ex⟩
  ·obtain⟨t1,t2,t3,rfl⟩:∃ t1 t2 t3,ts=[t1,t2,t3]:=My.us3 hts
   obtain⟨pt,rfl,hpt⟩:=tr.drn
   have hsv4:=s4 _ _ (s3 _ _ (hP.dict F hsv seS))
   have hgs:b2n H4 se (.int d.1) (some (.ref (Sa d.1))):=by
    have:=b2n.k (k:=Sum.inl d.1) hsv4
    rw[(hal d hd).1] at this
    exact this
   obtain⟨hs1,hs2,hs3,hs4⟩:=hP3.seen d hd
   refine⟨pt,_,rfl,SqT.of hpt,rfl,_,_,rfl,_,_,rfl,_,_,rfl,rfl,_,rfl,_,rfl,_,rfl,_,rfl,se,_,rfl,hgs,(by show 3≤sizeLine;decide),fun tt htt=>?_⟩
   have s5:=Same.upd (o:=HO.tup [.int d.1,.str d.2.1,.ref (Sa d.1)]) htt
   have nSa:Sa d.1 ∉ fp d.1:=fun z=>by
    obtain⟨xx,ex⟩:=F.hSa d hd
    rw[hs4 _ z] at ex
    cases ex
   have ntt:tt ∉ Sa d.1::fp d.1:=fun z=>by
    rcases List.mem_cons.mp z with y | y
    ·exact ne2 htt (s4 _ _ hs1) y
    ·exact(hs2.same s4).not htt y
   refine cs _ (tt::Sa d.1::fp d.1) [_,_,_] _ rfl s5 ?_ (List.nodup_cons.mpr ⟨ntt,List.nodup_cons.mpr ⟨nSa,hs3⟩⟩) (fun b hb=>?_)
   ·exact .tup a0b (TFs.cons (f:=[]) (.int _) (TFs.cons (f:=[]) (.str _) (TFs.one (.lst (s5 _ _ (s4 _ _ hs1)) ((hs2.same s4).same s5)))))
   ·rcases List.mem_cons.mp hb with y | y
    ·rw[y];exact .inl htt
    ·exact .inr y
  refine⟨_,rfl,(by show 2≤sizeLine;decide),fun z hz=>?_⟩
  have s5:=Same.upd (o:=HO.tup [.ref D2,.ref D]) hz
  have s45:=s4.trans s5
  have em:ds.map (fun d=>a2h (d.1,d.2.1,lk d.1))=(ds.map fun d=>(d.1,d.2.1,lk d.1)).map a2h:=by rw[List.map_map];rfl
  rw[em] at ht4
  have zD2:z≠D2:=ne2 hz hd4
  have zD:z≠D:=ne2 hz (s4 _ _ hd3)
  have DD:D2≠D:=ne2 hD2' hd3
  have zf:z ∉ f:=fun y=>(ht3.same s4).not hz y
  have zf2:z ∉ f2:=fun y=>ht4.not hz y
  have liveO:∀ d∈ds,∀ b∈Sa d.1::fp d.1,H2 b≠none:=fun d hd b hb e=>by
   obtain⟨q1,q2,_⟩:=hP.seen d hd
   rcases List.mem_cons.mp hb with y | y
   ·rw[y,q1] at e;cases e
   ·exact q2.not e y
  have D2f:D2 ∉ f:=fun y=>ht3.not hD2' y
  have Df2:D ∉ f2:=fun y=>by
   rcases fr4 D y with e | ⟨d,hd,e⟩
   ·rw[hd3] at e;cases e
   ·exact liveO d hd D e hD
  have ff2:∀ x∈f,x ∉ f2:=fun x hx y=>by
   rcases fr4 x y with e | ⟨d,hd,e⟩
   ·exact ht3.not e hx
   ·rcases fr3 x hx with e2 | ⟨i,hi,e2⟩
    ·exact liveO d hd x e e2
    ·rw[Option.mem_toList] at e2
     have:=(hsep e2).1 d hd
     rcases List.mem_cons.mp e with y2 | y2
     ·exact this.1 y2.symm
     ·exact this.2 y2
  have frees:∀ b,H1 b=none→H b=none:=fun b e=>s1.free e
  refine q _ _ (ds.map (fun d=>(d.1,d.2.1,lk d.1)),d4c ks mk) (z::((D2::f2)++(D::f))) ((s1.trans sH3).trans s45) (.tup a0b (TFs.cons (.lst (s5 _ _ hd4) (ht4.same s5)) (TFs.one (.lst (s45 _ _ hd3) (ht3.same s45))))) ?_ (fun b hb=>?_) ?_
  ·refine List.nodup_cons.mpr ⟨fun y=>?_,nd2.mpr ⟨List.nodup_cons.mpr ⟨hDf2,nf2⟩,List.nodup_cons.mpr ⟨hDf,nf⟩,fun x hx y=>?_⟩⟩
   ·rcases List.mem_append.mp y with y | y
    ·rcases List.mem_cons.mp y with y | y
     ·exact zD2 y
     ·exact zf2 y
    ·rcases List.mem_cons.mp y with y | y
     ·exact zD y
     ·exact zf y
   ·rcases List.mem_cons.mp hx with x1 | x1
    ·rcases List.mem_cons.mp y with y | y
     ·exact DD (y.symm.trans x1)
     ·exact Df2 (x1 ▸ y)
    ·rcases List.mem_cons.mp y with y | y
     ·exact D2f (y ▸ x1)
     ·exact ff2 x x1 y
  ·have f1:∀ b,H2 b=none→H b=none:=fun b e=>frees b (sH.free e)
   rcases List.mem_cons.mp hb with y | y
   ·rw[y];exact f1 z (s3.free (s4.free hz))
   rcases List.mem_append.mp y with y | y
   ·rcases List.mem_cons.mp y with y | y
    ·rw[y];exact f1 D2 (s3.free hD2')
    ·rcases fr4 b y with e | ⟨d,hd,e⟩
     ·exact f1 b (s3.free e)
     ·rcases List.mem_cons.mp e with e | e
      ·rw[e];exact frees _ (sG.free (hal d hd).2.2.1)
      ·exact frees b (sG.free (s2.free ((hP.seen d hd).2.2.2 b e)))
   ·rcases List.mem_cons.mp y with y | y
    ·rw[y];exact f1 D hD
    ·rcases fr3 b y with e | ⟨i,hi,e⟩
     ·exact f1 b e
     ·rw[Option.mem_toList] at e
      exact frees b (hsep e).2
  ·have en:(ds.map fun d=>((d.1,d.2.1,lk d.1):Dl)).map (·.1)=ds.map (·.1):=by rw[List.map_map];rfl
   refine⟨⟨by rw[List.length_map];exact g1,by rw[en];exact List.Pairwise.imp (fun {a b} h=>Int.ne_of_lt h) g2,fun d hd=>?_⟩,(by unfold c9y;rw[en];exact g2),fun m hm n hn=>?_,List.Pairwise.imp (fun {a b} h=>Int.ne_of_lt h) (d9s gk2),?_,fun m hm=>?_,fun d hd l hl=>?_⟩
   ·obtain⟨e,he,rfl⟩:=List.mem_map.mp hd
    have h1:=hP.few e he
    have h2:=e2x (d:=e) (c:=(cnt os ((oxs.length:Nat):Int).toNat e.1:Int)) (g3 e he).2.2.2.1
    have h3:=(g3 e he).2.2.2.2
    refine⟨(g3 e he).2.2.1,?_⟩
    show (lk e.1).length≤40
    omega
   ·obtain⟨i,hi,e⟩:=List.mem_filterMap.mp hm
    obtain⟨r1,r2,r3⟩:=b5b e
    obtain⟨d,hd,e1,_⟩:=(hP.mks _ (List.mem_of_getElem? r2)).2 n hn
    exact⟨_,List.mem_map.mpr ⟨d,hd,rfl⟩,e1⟩
   ·unfold d4c
    exact Nat.le_trans (List.length_filterMap_le _ _) (by rw[List.length_range];exact Nat.le_refl _)
   ·obtain⟨i,hi,e⟩:=List.mem_filterMap.mp hm
    obtain⟨r1,r2,r3⟩:=b5b e
    exact⟨r3,(by have:=hP.mlen _ (List.mem_of_getElem? r2);omega)⟩
   ·obtain⟨e,he,rfl⟩:=List.mem_map.mp hd
    exact(hP.lks e he l hl).2.1
--@STAGE
def d9e:Sp:=fun vs H Q _=>∃ (v:V) (p:Ps),vs=[v]∧Tr H v (a3r p)∧p.1.length≤8∧(∀ d∈p.1,d.2.2.length≤40)∧p.2.length≤100∧∀ u H',Same H H'→Tr H' u (a3r p)→Q u H'
theorem d3i (T:Tx K mg):a3y P w K mg base CX0 1 T.b4a T.b4y ["_law_past_here"] d9e:=by
 refine T.b8k.ok c2a (fun vs H Q E h=>?_) (fun cdv A outer s H vs Q E hr h=>?_)
 ·obtain⟨v,p,rfl,_⟩:=h
  rfl
 ·obtain⟨v,⟨dx,mx⟩,rfl,ht,hc1,hc2,hc3,q⟩:=h
  obtain⟨a,b,c,xs,ys,rfl,ha,hb,hx,hc,hy⟩:=a6f ht
  refine⟨_,(a0e (c4z (i:=1) ["_law_number","_law_word","_law_looks"] rfl c2a.nd rfl rfl (a3b.mk (fv:=[]) (js:=[]) rfl (by decide +kernel) (by decide +kernel) (by decide +kernel) a2l rfl (by decide +kernel)) (a1r (a0o a0z (pv 0) a0c (fun _ _=>rfl))) rfl (fun _ _ _ _ _=>(c3m (K:=K) (n:=3) rfl rfl (a0u (a0i (i:=0) (show (["_law_number","_law_word","_law_looks"]:List Str).Nodup by decide +kernel) rfl (Or.inl rfl)) (a0u (a0i (i:=1) (show (["_law_number","_law_word","_law_looks"]:List Str).Nodup by decide +kernel) rfl (Or.inl rfl)) (a0u (a0i (i:=2) (show (["_law_number","_law_word","_law_looks"]:List Str).Nodup by decide +kernel) rfl (Or.inl rfl)) a4o))))) (fun _ _ _ _ _=>b0j) (fun _ _ _ _ _=>(a2f (a0a (pv 0) (a0a (pv 1) (a0a (a3p ["_law_look_here"] rfl (a3b.mk (fv:=[]) (js:=[]) rfl (by decide +kernel) (by decide +kernel) (by decide +kernel) a2l rfl (by decide +kernel)) (e1g (K:=K) rfl (pv 2)) (fun _ _ _ _ _=>(a0i (i:=0) (show (["_law_look_here"]:List Str).Nodup by decide +kernel) rfl (Or.inl rfl))) (fun _ _ _ _ _=>b0j) (fun _ _ _ _ _=>(a2y (b4u (K:=K) rfl) (by rfl) T.b6t boot_list (a0a (pv 0) a0d)))) a0d))))))
   (a0g (a0s (a2f (a0a (pv 1) (a0a (a3p ["_law_key","_law_numbers"] rfl (a3b.mk (fv:=[]) (js:=[]) rfl (by decide +kernel) (by decide +kernel) (by decide +kernel) a2l rfl (by decide +kernel)) (a1r (a0o a0z (pv 0) a0c (fun _ _=>rfl))) (fun _ _ _ _ _=>(c3m (K:=K) (n:=2) rfl rfl (a0u (a0i (i:=0) (show (["_law_key","_law_numbers"]:List Str).Nodup by decide +kernel) rfl (Or.inl rfl)) (a0u (a0i (i:=1) (show (["_law_key","_law_numbers"]:List Str).Nodup by decide +kernel) rfl (Or.inl rfl)) a4o)))) (fun _ _ _ _ _=>b0j) (fun _ _ _ _ _=>(a2f (a0a (pv 0) (a0a (a2y (b4u (K:=K) rfl) (by rfl) T.b6t boot_list (a0a (pv 1) a0d)) a0d))))) a0d)))))),?_⟩
  dsimp only at hx hy hc1 hc2 hc3
  have z9:(20000:Nat)≤sizeLine:=by decide
  have old:∀ {HA HB:Hp},Same H HB→Same H (c6f H HA HB):=fun s b o e=>a5e.mpr ⟨s _ _ e,fun ⟨h1,_⟩=>by rw[e] at h1;cases h1⟩
  refine⟨_,rfl,a,_,_,_,rfl,rfl,SqT.of ha,a0k (j:=0) rfl,b,rfl,⟨_,SqL.of hb⟩,e5e (k:=3) (fs:=[]) H (Same.refl H) dx a2h (fun d=>some (a2h d)) rfl hb hx (by omega) (fun d hd H2 ts v R s2 hts tr cs _=>?_) (fun D H2 zs hD s2 hd2 ht2=>?_)⟩
  ·obtain⟨t1,t2,t3,rfl⟩:∃ t1 t2 t3,ts=[t1,t2,t3]:=My.us3 hts
   obtain⟨p1,p2,ps,rfl,hp1,hp2,hps⟩:=a7n tr
   have hlk:=hc2 d hd
   refine⟨p1,_,rfl,SqT.of (s2 _ _ hp1),rfl,_,_,rfl,_,_,rfl,_,_,rfl,rfl,_,rfl,_,rfl,_,rfl,p2,rfl,⟨_,SqL.of (s2 _ _ hp2)⟩,e5e (k:=1) (fs:=[]) H s2 d.2.2 a6n (fun l=>some (a6n l)) rfl (s2 _ _ hp2) hps (by omega) (fun l hl H3 ts v R s3 hts tr cs2 _=>?_) (fun D3 H3 us hD3 s3 hd3 ht3=>?_)⟩
   ·obtain⟨t,rfl⟩:=List.length_eq_one_iff.mp hts
    obtain⟨l1,ls,rfl,hl1,hls⟩:=a9j tr
    have s23:=s2.trans s3
    refine⟨_,rfl,l1,_,rfl,.inl (SqL.of (s23 _ _ hl1)),fun nl hnl=>?_⟩
    have s4:=Same.upd (o:=HO.lst ls) hnl
    exact cs2 _ _ [_] _ rfl rfl s4 (.lst (b5j hnl a0b) (hls.same (old (s23.trans s4))))
   ·rw[b9k] at ht3
    refine⟨(by show 3≤sizeLine;decide),fun z hz=>?_⟩
    have s4:=Same.upd (o:=HO.tup [.int d.1,.str d.2.1,.ref D3]) hz
    exact cs _ _ [_,_,_] _ rfl rfl (s3.trans s4) (.tup (b5j (s3.free hz) a0b) (.cons (.int _) (.cons (.str _) (.cons (.lst (b5j hD3 (s4 _ _ hd3)) (ht3.same fun b o e=>by
     obtain⟨e1,e2⟩:=a3x e
     obtain⟨e3,e4⟩:=a5e.mp e2
     exact a5e.mpr ⟨s4 _ _ e3,e4⟩)) .nil))))
  rw[b9k] at ht2
  have ht2':Trs H2 zs (dx.map a2h):=(ht2.same b7p).same fun b o e=>(a5e.mp e).1
  refine⟨_,rfl,_,rfl,a,_,_,_,rfl,rfl,SqT.of (s2 _ _ ha),a0k (j:=1) rfl,c,rfl,⟨_,SqL.of (s2 _ _ hc)⟩,e5e (k:=2) (fs:=[]) H2 (Same.refl H2) mx a4t (fun d=>some (a4t d)) rfl (s2 _ _ hc) (hy.same s2) (by omega) (fun m hm H3 ts v R s3 hts tr cs _=>?_) (fun D3 H3 us hD3 s3 hd3 ht3=>?_)⟩
  ·obtain⟨t1,t2,rfl⟩:∃ t1 t2,ts=[t1,t2]:=My.us2 hts
   obtain⟨p1,p2,rfl,hp1,hp2⟩:=b9e tr
   refine⟨p1,_,rfl,SqT.of (s3 _ _ hp1),rfl,_,_,rfl,_,_,rfl,rfl,_,rfl,_,rfl,p2,_,rfl,.inl (SqL.of (s3 _ _ hp2)),fun nl hnl=>⟨(by show 2≤sizeLine;decide),fun z hz=>?_⟩⟩
   have s4:=Same.upd (o:=HO.lst (m.2.map V.int)) hnl
   have s5:=Same.upd (o:=HO.tup [.int m.1,.ref nl]) hz
   exact cs _ _ [_,_] _ rfl rfl (s4.trans s5) (.tup (b5j (s4.free hz) a0b) (.cons (.int _) (.cons (.lst (b5j hnl (s5 _ _ a0b)) (Trs.ofInts _)) .nil)))
  rw[b9k] at ht3
  have ht3':Trs H3 us (mx.map a4t):=(ht3.same b7p).same fun b o e=>(a5e.mp e).1
  refine⟨(by show 2≤sizeLine;decide),fun z hz=>?_⟩
  have s5:=Same.upd (o:=HO.tup [.ref D,.ref D3]) hz
  exact q _ _ ((s2.trans s3).trans s5) (.tup a0b (.cons (.lst (s5 _ _ (s3 _ _ hd2)) (ht2'.same (s3.trans s5))) (.cons (.lst (s5 _ _ hd3) (ht3'.same s5)) .nil)))
--@STAGE
theorem b0y {ds:List PyData} (h:∀ d∈ds,d.canLay0=true):PyData.canLayAll0 ds=true:=by
 induction ds with
 | nil=>rfl
 | cons d r ih =>
  show (d.canLay0 && PyData.canLayAll0 r)=true
  rw[h d List.mem_cons_self,ih fun e he=>h e (List.mem_cons_of_mem _ he)]
  rfl
theorem a6h {ds:List PyData} {n:Nat} (h:∀ d∈ds,d.depth≤n):PyData.depthAll ds≤n:=by
 induction ds with
 | nil=>exact Nat.zero_le _
 | cons d r ih =>
  have h1:=h d List.mem_cons_self
  have h2:=ih fun e he=>h e (List.mem_cons_of_mem _ he)
  show max d.depth (PyData.depthAll r)≤n
  omega
theorem d2v (l:Lk):(a6n l).canLay0=true∧(a6n l).depth≤2:=by
 refine⟨b0y fun d hd=>?_,?_⟩
 ·obtain⟨p,_,rfl⟩:=List.mem_map.mp hd
  rfl
 ·have:PyData.depthAll (l.map b3h)≤1:=a6h fun d hd=>by
   obtain⟨p,_,rfl⟩:=List.mem_map.mp hd
   exact Nat.le_refl 1
  show PyData.depthAll (l.map b3h)+1≤2
  omega
theorem b7w {d:Dl} (h:d.2.1∈wds):(a2h d).canLay0=true∧(a2h d).depth≤4:=by
 have hs:∀ x∈wds,(PyData.str x).canLay0=true:=by decide +kernel
 refine⟨?_,?_⟩
 ·show (true && ((PyData.str d.2.1).canLay0 && (PyData.canLayAll0 (d.2.2.map a6n) && true)))=true
  rw[hs _ h,b0y fun e he=>by obtain⟨l,_,rfl⟩:=List.mem_map.mp he;exact(d2v l).1]
  rfl
 ·have:PyData.depthAll (d.2.2.map a6n)≤2:=a6h fun e he=>by
   obtain⟨l,_,rfl⟩:=List.mem_map.mp he
   exact(d2v l).2
  show max 0 (max 0 (max (PyData.depthAll (d.2.2.map a6n)+1) 0))+1≤4
  omega
theorem b7q (m:Mkr):(a4t m).canLay0=true∧(a4t m).depth≤2:=by
 refine⟨?_,?_⟩
 ·show (true && (PyData.canLayAll0 (m.2.map PyData.int) && true))=true
  rw[b0y fun e he=>by obtain⟨l,_,rfl⟩:=List.mem_map.mp he;rfl]
  rfl
 ·have:PyData.depthAll (m.2.map PyData.int)≤0:=a6h fun e he=>by
   obtain⟨l,_,rfl⟩:=List.mem_map.mp he
   exact Nat.le_refl 0
  show max 0 (max (PyData.depthAll (m.2.map PyData.int)+1) 0)+1≤2
  omega
theorem e0c {p:Ps} (h:∀ d∈p.1,d.2.1∈wds):(a3r p).canLay0=true∧(a3r p).depth < 7∧SeqAt.shaped (a3r p)=true:=by
 have h1:(a3r p).canLay0=true:=by
  show (PyData.canLayAll0 (p.1.map a2h) && (PyData.canLayAll0 (p.2.map a4t) && true))=true
  rw[b0y fun e he=>by obtain⟨d,hd,rfl⟩:=List.mem_map.mp he;exact(b7w (h d hd)).1,b0y fun e he=>by obtain⟨d,hd,rfl⟩:=List.mem_map.mp he;exact(b7q d).1]
  rfl
 have h2:(a3r p).depth < 7:=by
  have a1:PyData.depthAll (p.1.map a2h)≤4:=a6h fun e he=>by
   obtain⟨d,hd,rfl⟩:=List.mem_map.mp he
   exact(b7w (h d hd)).2
  have a2:PyData.depthAll (p.2.map a4t)≤2:=a6h fun e he=>by
   obtain⟨d,hd,rfl⟩:=List.mem_map.mp he
   exact(b7q d).2
  show max (PyData.depthAll (p.1.map a2h)+1) (max (PyData.depthAll (p.2.map a4t)+1) 0)+1 < 7
  omega
 refine⟨h1,h2,?_⟩
 unfold SeqAt.shaped
 rw[h1,decide_eq_true (by omega)]
 rfl
theorem b5r {H:Hp} {v:V} {p:Ps} {f:List Addr} (h:TF H v (a3r p) f):∃ a l m lv mv fl fm,v=.ref a∧f=a::(l::fl++(m::fm))∧H a=some (.tup [.ref l,.ref m])∧H l=some (.lst lv)∧TFs H lv (p.1.map a2h) fl∧H m=some (.lst mv)∧TFs H mv (p.2.map a4t) fm:=by
 cases h with
 | tup h r =>
  cases r with
  | cons h1 r =>
   cases r with
   | cons h2 r =>
    cases r
    cases h1 with
    | lst a1 b1 =>
     cases h2 with
     | lst a2 b2=>exact⟨_,_,_,_,_,_,_,rfl,by rw[List.append_nil],h,a1,b1,a2,b2⟩
theorem c2h {H:Hp} {v:V} {d:Dl} {f:List Addr} (h:TF H v (a2h d) f):∃ t L lv g,v=.ref t∧f=t::L::g∧H t=some (.tup [.int d.1,.str d.2.1,.ref L])∧H L=some (.lst lv)∧TFs H lv (d.2.2.map a6n) g:=by
 cases h with
 | tup h r =>
  cases r with
  | cons h1 r =>
   cases h1
   cases r with
   | cons h2 r =>
    cases h2
    cases r with
    | cons h3 r =>
     cases r
     cases h3 with
     | lst a1 b1=>exact⟨_,_,_,_,rfl,by rw[List.append_nil];rfl,h,a1,b1⟩
theorem d3j {H:Hp} {v:V} {m:Mkr} {f:List Addr} (h:TF H v (a4t m) f):∃ t c,v=.ref t∧f=[t,c]∧H t=some (.tup [.int m.1,.ref c])∧H c=some (.lst (m.2.map V.int)):=by
 cases h with
 | tup h r =>
  cases r with
  | cons h1 r =>
   cases h1
   cases r with
   | cons h2 r =>
    cases r
    cases h2 with
    | lst a1 b1 =>
     obtain⟨rfl,rfl⟩:=b1.ints_of
     exact⟨_,_,rfl,rfl,h,a1⟩
theorem d5e {α β:Type} {l:List (α×β)} {k:Nat} {x y:α×β} (h:l[k]?=some x) (e:y.1=x.1):(l.set k y).map (·.1)=l.map (·.1):=by
 rw[List.map_set,e]
 exact TFs.set_self (by rw[List.getElem?_map,h];rfl)
theorem GP.setD {p:Ps} (g:GP p) {k:Nat} {d d':Dl} (h:p.1[k]?=some d) (e:d'.1=d.1) (hw:d'.2.1∈wds) (hl:d'.2.2.length≤40) (h4:∀ l∈d'.2.2,l.length≤4):GP (p.1.set k d',p.2):=by
 have em:=d5e h e
 refine⟨⟨by rw[List.length_set];exact g.good.1,by show ((p.1.set k d').map (·.1)).Nodup;rw[em];exact g.good.2.1,fun x hx=>?_⟩,(by show ((p.1.set k d').map (·.1)).Pairwise (· < ·);rw[em];exact g.rise),fun r hr n hn=>?_,g.nk,g.many,g.makes,fun x hx=>?_⟩
 ·rcases List.mem_or_eq_of_mem_set hx with y | y
  ·exact g.good.2.2 x y
  ·rw[y];exact⟨hw,hl⟩
 ·obtain⟨x,hx,e2⟩:=g.inm r hr n hn
  have:n∈(p.1.set k d').map (·.1):=by rw[em];exact List.mem_map.mpr ⟨x,hx,e2⟩
  obtain⟨y,hy,e3⟩:=List.mem_map.mp this
  exact⟨y,hy,e3⟩
 ·rcases List.mem_or_eq_of_mem_set hx with y | y
  ·exact g.looks x y
  ·rw[y];exact h4
theorem GP.setM {p:Ps} (g:GP p) {k:Nat} {r r':Mkr} (h:p.2[k]?=some r) (e:r'.1=r.1) (h1:r'.2≠[]) (hl:r'.2.length≤100) (h4:∀ x∈r'.2,x∈r.2):GP (p.1,p.2.set k r'):=by
 have em:=d5e h e
 refine⟨g.good,g.rise,fun x hx n hn=>?_,(by show ((p.2.set k r').map (·.1)).Nodup;rw[em];exact g.nk),by rw[List.length_set];exact g.many,fun x hx=>?_,g.looks⟩
 ·rcases List.mem_or_eq_of_mem_set hx with y | y
  ·exact g.inm x y n hn
  ·rw[y] at hn
   exact g.inm r (List.mem_of_getElem? h) n (h4 n hn)
 ·rcases List.mem_or_eq_of_mem_set hx with y | y
  ·exact g.makes x y
  ·rw[y];exact⟨h1,hl⟩
theorem d7a {H H':Hp} {a l m k:Addr} {lv mv:List V} {fl fm:List Addr} {p:Ps} {i:Nat} {x':V} {d d':Dl} (ha:H a=some (.tup [.ref l,.ref m])) (hl:H l=some (.lst lv)) (tl:TFs H lv (p.1.map a2h) fl) (hm:H m=some (.lst mv)) (tm:TFs H mv (p.2.map a4t) fm) (nd:(a::(l::fl++(m::fm))).Nodup)
  (hd:p.1[i]?=some d) (hl':H' l=some (.lst (lv.set i x'))) (kp:∀ b o,b≠l→H b=some o→H' b=some o) (tx:∃ f',TF H' x' (a2h d') f'):Tr H' (.ref a) (a3r (p.1.set i d',p.2)):=by
 obtain⟨f',tx⟩:=tx
 obtain⟨n1,n2⟩:=List.nodup_cons.mp nd
 obtain⟨n3,n4,n5⟩:=nd2.mp n2
 obtain⟨n6,n7⟩:=List.nodup_cons.mp n3
 have al:a≠l:=fun z=>n1 (by rw[z];exact List.mem_append_left _ (.head _))
 have ml:∀ b∈m::fm,b≠l:=fun b hb z=>n5 b hb (by rw[z];exact .head _)
 obtain⟨x,f1,f2,f3,ex,ef,tf,put⟩:=tl.focus (i:=i) (d:=a2h d) (by rw[List.getElem?_map,hd];rfl)
 have t1:=put H' x' (a2h d') f' (fun b hb o eb=>kp b o (fun z=>n6 (by rw[←z,ef];rcases List.mem_append.mp hb with y | y;exact List.mem_append_left _ y;exact List.mem_append_right _ (List.mem_append_right _ y))) eb) tx
 rw[←List.map_set] at t1
 exact .tup (kp _ _ al ha) (.cons (.lst hl' t1.trs) (.cons (.lst (kp _ _ (ml m (.head _)) hm) (tm.fr fun b hb o eb=>kp b o (ml b (.tail _ hb)) eb).trs) .nil))
theorem e2a {H H':Hp} {a l m c:Addr} {lv mv:List V} {fl fm f1 f2 f3:List Addr} {p:Ps} {i:Nat} {x:V} {d d':Dl} (ha:H a=some (.tup [.ref l,.ref m])) (hl:H l=some (.lst lv)) (hm:H m=some (.lst mv)) (tm:TFs H mv (p.2.map a4t) fm) (nd:(a::(l::fl++(m::fm))).Nodup)
  (ex:lv[i]?=some x) (ef:fl=f1++(f2++f3)) (put:∀ H' x' d' f2',(∀ b∈f1++f3,∀ o,H b=some o→H' b=some o)→TF H' x' d' f2'→TFs H' (lv.set i x') ((p.1.map a2h).set i d') (f1++(f2'++f3))) (hc:c∈f2) (kp:∀ b o,b≠c→H b=some o→H' b=some o) (tx:∃ f',TF H' x (a2h d') f'):Tr H' (.ref a) (a3r (p.1.set i d',p.2)):=by
 obtain⟨f',tx⟩:=tx
 obtain⟨n1,n2⟩:=List.nodup_cons.mp nd
 obtain⟨n3,n4,n5⟩:=nd2.mp n2
 obtain⟨n6,n7⟩:=List.nodup_cons.mp n3
 have cfl:c∈fl:=by rw[ef];exact List.mem_append_right _ (List.mem_append_left _ hc)
 have ac:a≠c:=fun z=>n1 (by rw[z];exact List.mem_append_left _ (.tail _ cfl))
 have lc:l≠c:=fun z=>n6 (by rw[z];exact cfl)
 have mc:∀ b∈m::fm,b≠c:=fun b hb z=>n5 b hb (by rw[z];exact .tail _ cfl)
 rw[ef] at n7
 have n8:=(nd3.mp n7).2.2 c hc
 have t1:=put H' x (a2h d') f' (fun b hb o eb=>kp b o (fun z=>by rcases List.mem_append.mp hb with y | y;exact n8.1 (z ▸ y);exact n8.2 (z ▸ y)) eb) tx
 rw[←List.map_set,TFs.set_self ex] at t1
 exact .tup (kp _ _ ac ha) (.cons (.lst (kp _ _ lc hl) t1.trs) (.cons (.lst (kp _ _ (mc m (.head _)) hm) (tm.fr fun b hb o eb=>kp b o (mc b (.tail _ hb)) eb).trs) .nil))
theorem d9p {H H':Hp} {a l m c:Addr} {lv mv:List V} {fl fm f1 f2 f3:List Addr} {p:Ps} {i:Nat} {x:V} {r':Mkr} (ha:H a=some (.tup [.ref l,.ref m])) (hl:H l=some (.lst lv)) (tl:TFs H lv (p.1.map a2h) fl) (hm:H m=some (.lst mv)) (nd:(a::(l::fl++(m::fm))).Nodup)
  (ex:mv[i]?=some x) (ef:fm=f1++(f2++f3)) (put:∀ H' x' d' f2',(∀ b∈f1++f3,∀ o,H b=some o→H' b=some o)→TF H' x' d' f2'→TFs H' (mv.set i x') ((p.2.map a4t).set i d') (f1++(f2'++f3))) (hc:c∈f2) (kp:∀ b o,b≠c→H b=some o→H' b=some o) (tx:∃ f',TF H' x (a4t r') f'):Tr H' (.ref a) (a3r (p.1,p.2.set i r')):=by
 obtain⟨f',tx⟩:=tx
 obtain⟨n1,n2⟩:=List.nodup_cons.mp nd
 obtain⟨n3,n4,n5⟩:=nd2.mp n2
 obtain⟨n6,n7⟩:=List.nodup_cons.mp n4
 have cfm:c∈fm:=by rw[ef];exact List.mem_append_right _ (List.mem_append_left _ hc)
 have ac:a≠c:=fun z=>n1 (by rw[z];exact List.mem_append_right _ (.tail _ cfm))
 have mc:m≠c:=fun z=>n6 (by rw[z];exact cfm)
 have lc:∀ b∈l::fl,b≠c:=fun b hb z=>n5 c (.tail _ cfm) (by rw[←z];exact hb)
 rw[ef] at n7
 have n8:=(nd3.mp n7).2.2 c hc
 have t1:=put H' x (a4t r') f' (fun b hb o eb=>kp b o (fun z=>by rcases List.mem_append.mp hb with y | y;exact n8.1 (z ▸ y);exact n8.2 (z ▸ y)) eb) tx
 rw[←List.map_set,TFs.set_self ex] at t1
 exact .tup (kp _ _ ac ha) (.cons (.lst (kp _ _ (lc l (.head _)) hl) (tl.fr fun b hb o eb=>kp b o (lc b (.tail _ hb)) eb).trs) (.cons (.lst (kp _ _ mc hm) t1.trs) .nil))
--@STAGE
def d8a (t:Nat×Nat×Nat):PyData:=.tuple [.int (t.1:Int),.int (t.2.1:Int),.int (t.2.2:Int)]
def e4q (p:Ps) (t:Nat×Nat×Nat):Prop:=∃ d lk pr,p.1[t.1]?=some d∧d.2.2[t.2.1]?=some lk∧lk[t.2.2]?=some pr
def e4o:Sp:=fun vs H Q _=>∃ (v:V) (z:Int) (p:Ps) (f:List Addr),vs=[v,.int z]∧TF H v (a3r p) f∧f.Nodup∧GP p∧∀ H' p',(∀ b xs,H b=some (.tup xs)→H' b=some (.tup xs))→(∀ b o,b ∉ f→H b=some o→H' b=some o)→Tr H' v (a3r p')→GP p'→Q .non H'
theorem e8g {H:Hp} {v:V} {t:Nat×Nat×Nat} (h:Tr H v (d8a t)):∃ q,v=.ref q∧H q=some (.tup [.int (t.1:Int),.int (t.2.1:Int),.int (t.2.2:Int)]):=by
 cases h with
 | tup h r =>
  cases r with
  | cons h1 r =>
   cases h1
   cases r with
   | cons h2 r =>
    cases h2
    cases r with
    | cons h3 r =>
     cases h3
     cases r
     exact⟨_,rfl,h⟩
theorem d0y (trs:List (Nat×Nat×Nat)):SeqAt.shaped (.list (trs.map d8a))=true:=by
 have h1:(PyData.list (trs.map d8a)).canLay0=true:=b0y fun d hd=>by
  obtain⟨p,_,rfl⟩:=List.mem_map.mp hd
  rfl
 have h2:PyData.depthAll (trs.map d8a)≤1:=a6h fun d hd=>by
  obtain⟨p,_,rfl⟩:=List.mem_map.mp hd
  exact Nat.le_refl 1
 unfold SeqAt.shaped
 rw[h1,decide_eq_true (by show PyData.depthAll (trs.map d8a)+1≤_;omega)]
 rfl
theorem d1e (c:Int):∀ l:List Int,l.filterMap (fun n=>if n=c then none else some (PyData.int n))=(l.filter fun n=>!decide (n=c)).map PyData.int
 | []=>rfl
 | x::r=>by
  rw[List.filterMap_cons,List.filter_cons]
  by_cases z:x=c
  ·rw[if_pos z,decide_eq_true z,d1e c r]
   rfl
  ·rw[if_neg z,decide_eq_false z,d1e c r]
   rfl
theorem e1k {p:Ps} (g:GP p) (k:Int):(b7g p k).length≤100:=by
 unfold b7g
 cases e:p.2.find? (fun r=>decide (r.1=k)) with
 | none=>exact Nat.zero_le _
 | some r=>exact(g.makes r (List.mem_of_find?_eq_some e)).2
theorem d0j (trs:List (Nat×Nat×Nat)):PyData.eqv (.list (trs.map d8a)) (.list [])=decide (trs=[]):=by
 cases trs with
 | nil=>rfl
 | cons a r=>rfl
theorem b8w (T:Tx K mg):a3y P w K mg base CX0 1 T.a5z T.a5w ["_law_past_here","_law_number"] e4o:=by
 refine T.a8m.ok a1e (fun vs H Q E h=>?_) (fun cdv A outer s H vs Q E hr h=>?_)
 ·obtain⟨v,z,p,f,rfl,_⟩:=h
  rfl
 ·obtain⟨v,z,p,f,rfl,tf,nd,gp,q⟩:=h
  have hu:=a8v hr
  refine⟨_,(a0e (a0n (i:=2) a1e.nd rfl (Or.inl rfl) (a2y (a6y (K:=K) rfl rfl) (by rfl) T.b5a boot_dict (a0a (a0o a0z (pv 0) a0c (fun _ _=>rfl)) a0d)))
   (a0e (a0n (i:=3) a1e.nd rfl (Or.inl rfl) (a1k a0d))
   (a0e (a2o PassesOwn.never rfl (a1o rfl T.a2z (a0a (a1b a1i (by rfl) T.a5j boot_len (a0a (a0o a0z (pv 0) a0c (fun _ _=>rfl)) a0d)) a0d)) (a0i (i:=4) a1e.nd rfl (Or.inr rfl))
   (a0g (a2o PassesOwn.never rfl (a1o rfl T.a2z (a0a (a1b a1i (by rfl) T.a5j boot_len (a0a (a0o a0z (a0o a0w (a0o a0z (pv 0) a0c (fun _ _=>rfl)) (pv 4) (fun _ _=>rfl)) a0c (fun _ _=>rfl)) a0d)) a0d)) (a0i (i:=5) a1e.nd rfl (Or.inl rfl))
   (a0g (a2o PassesOwn.never rfl (a1o rfl T.a2z (a0a (a1b a1i (by rfl) T.a5j boot_len (a0a (a0o a0w (a0o a0z (a0o a0w (a0o a0z (pv 0) a0c (fun _ _=>rfl)) (pv 4) (fun _ _=>rfl)) a0c (fun _ _=>rfl)) (pv 5) (fun _ _=>rfl)) a0d)) a0d)) (a0i (i:=6) a1e.nd rfl (Or.inl rfl))
   (a0g (a5t (b7c PySem.F.plainAttrs_list PySem.F.slot_list_append PySem.F.type_list_append a4r (pv 3) (a0a (a2f (a0a (pv 4) (a0a (pv 5) (a0a (pv 6) a0d)))) a0d)))))))))
   (a0g (a3n (a0t (c2k hr.units) (pv 3) (a1k a0d) (a0x _))
   (a0e (c0g (a0o a0w (pv 3) (a0v a2e (pv 1) (a1b a1i (by rfl) T.a5j boot_len (a0a (pv 3) a0d))) (fun _ _=>rfl)) (b0k rfl (a0u (a0i (i:=4) a1e.nd rfl (Or.inr rfl)) (a0u (a0i (i:=5) a1e.nd rfl (Or.inl rfl)) (a0u (a0i (i:=6) a1e.nd rfl (Or.inl rfl)) a4o)))))
   (a0e (a0n (i:=7) a1e.nd rfl (Or.inl rfl) (a0o a0z (a0o a0w (a0o a0w (a0o a0z (a0o a0w (a0o a0z (pv 0) a0c (fun _ _=>rfl)) (pv 4) (fun _ _=>rfl)) a0c (fun _ _=>rfl)) (pv 5) (fun _ _=>rfl)) (pv 6) (fun _ _=>rfl)) a0c (fun _ _=>rfl)))
   (a0e (a0n (i:=8) a1e.nd rfl (Or.inl rfl) (a0v b6w (a1k (a0a a0c (a0a (d3m c2u a0c) a0d))) (a3p ["_law_maker"] rfl (a3b.mk (fv:=["_law_past_here","_law_k"]) (js:=[0,4]) rfl (by decide +kernel) (by decide +kernel) (by decide +kernel) (a1q (Or.inl rfl) (a1q (Or.inl rfl) a2l)) rfl (by decide +kernel)) (a1r (b2k hu (pv 2) (pv 7) (a1k a0d) ⟨rfl,rfl,rfl,rfl⟩)) (fun _ _ _ _ _=>(a0i (i:=0) (show (["_law_maker","_law_past_here","_law_k"]:List Str).Nodup by decide +kernel) rfl (Or.inl rfl))) (fun _ _ _ _ _=>(c8d (a0t d3v (pv 0) (a0o (a2g (K:=K) rfl) (a0o (b3r (K:=K) rfl) (a0o (a2g (K:=K) rfl) (pv 1) a0c (fun _ _=>rfl)) (pv 2) (fun _ _=>rfl)) a0c (fun _ _=>rfl)) (a0x _)))) (fun _ _ _ _ _=>(pv 0)))))
   (a0g (c0g (a2f (a0a (pv 7) (a0a (a0o a0w (pv 8) (a0v a2e (a0v a7l (pv 1) a0c) (a1b a1i (by rfl) T.a5j boot_len (a0a (pv 8) a0d))) (fun _ _=>rfl)) a0d))) (d5d (a0o a0w (a0o a0z (a0o a0w (a0o a0z (pv 0) a0c (fun _ _=>rfl)) (pv 4) (fun _ _=>rfl)) a0c (fun _ _=>rfl)) (pv 5) (fun _ _=>rfl)) (pv 6) b9l))))))
   a1a))))),?_⟩
  have z9:(2000:Nat)≤sizeLine:=by decide
  obtain⟨a,l,m,lv,mv,fl,fm,rfl,ef0,ha,hl,tl,hm,tm⟩:=b5r tf
  have nd':=nd
  rw[ef0] at nd'
  have hlv:lv.length=p.1.length:=by rw[tl.len,List.length_map]
  obtain⟨mkv,hpr,hmk1,hmk2⟩:=d0q (K:=K) tm.trs
  have hml:mkv.length≤100:=by
   have:=congrArg List.length hmk1
   rw[List.length_map,List.length_map] at this
   have:=gp.many
   omega
  have hmnd:(mkv.map (·.1)).Nodup:=by rw[hmk1];exact List.pairwise_map.mpr (List.Pairwise.imp (fun z e=>z (Sum.inl.inj e)) (List.pairwise_map.mp gp.nk))
  refine⟨_,rfl,a,_,_,_,rfl,rfl,SqT.of ha,a0k (j:=1) rfl,m,mv,mkv,rfl,hm,hpr,(by omega),fun D hD=>?_⟩
  rw[b0w mkv [] (by rw[List.nil_append];exact hmnd),List.nil_append]
  have s7:=Same.upd (o:=HO.dK mkv) hD
  refine⟨(by show 0≤sizeLine;omega),fun pl hpl=>?_⟩
  have s8:=Same.upd (o:=HO.lst []) hpl
  have hpl8:upd (upd H D (.dK mkv)) pl (.lst []) pl=some (.lst []):=a0b
  have hD8:upd (upd H D (.dK mkv)) pl (.lst []) D=some (.dK mkv):=s8 _ _ a0b
  have plne:∀ {b:Addr} {o:HO},upd H D (.dK mkv) b=some o→b≠pl:=fun e z=>by rw[z,hpl] at e;cases e
  have s78:=s7.trans s8
  have npl:∀ {b:Addr} {o:HO},H b=some o→b≠pl:=fun e=>plne (s7 _ _ e)
  have nplD:D≠pl:=plne a0b
  generalize upd (upd H D (.dK mkv)) pl (.lst [])=H8 at *
  have at_deal:∀ {k:Nat} {d:Dl},p.1[k]?=some d→∃ t L lkv,lv[k]?=some (.ref t)∧H t=some (.tup [.int d.1,.str d.2.1,.ref L])∧H L=some (.lst lkv)∧Trs H lkv (d.2.2.map a6n):=fun {k d} e=>by
   obtain⟨x,ex,tx⟩:=tl.trs.at (i:=k) (d:=a2h d) (by rw[List.getElem?_map,e];rfl)
   obtain⟨t,L,lkv,rfl,h1,h2,h3⟩:=a7n tx
   exact⟨t,L,lkv,ex,h1,h2,h3⟩
  refine⟨_,rfl,a,_,_,_,rfl,rfl,SqT.of (s78 _ _ ha),a0k (j:=0) rfl,_,_,rfl,.inl ⟨_,SqL.of (s78 _ _ hl),rfl⟩,_,rfl,(by have:=gp.good.1;omega),(by have:=gp.good.1;omega),a2m (n:=((lv.length:Nat):Int).toNat) (fun k σ H2=>(∀ b o,b≠pl→H8 b=some o→H2 b=some o)∧∃ (x4 x5 x6:Option V) (ts:List V) (trs:List (Nat×Nat×Nat)),σ=[some (.ref a),some (.int z),some (.ref D),some (.ref pl),x4,x5,x6,none,none]∧H2 pl=some (.lst ts)∧Trs (b7h H2 pl) ts (trs.map d8a)∧trs.length≤160*k∧∀ t∈trs,e4q p t) ⟨fun _ _ _ e=>e,none,none,none,[],[],rfl,hpl8,.nil,Nat.le_refl _,(fun t ht=>by cases ht)⟩ ?_ ?_⟩
  ·rintro k σ H2 hk ⟨kp,x4,x5,x6,ts,trs,rfl,h2,tts,lts,hok⟩
   have hk':k < p.1.length:=by omega
   have hk8:k < 8:=by have:=gp.good.1;omega
   obtain⟨d,hd⟩:∃ d,p.1[k]?=some d:=⟨_,List.getElem?_eq_getElem hk'⟩
   have hdm:=List.mem_of_getElem? hd
   obtain⟨t,L,lkv,ex,ht,hL,tL⟩:=at_deal hd
   have ll:lkv.length=d.2.2.length:=by rw[tL.len,List.length_map]
   have l40:=(gp.good.2.2 d hdm).2
   have g2:∀ {b:Addr} {o:HO},H b=some o→H2 b=some o:=fun e=>kp _ _ (npl e) (s78 _ _ e)
   refine⟨_,rfl,a,_,_,_,rfl,rfl,SqT.of (g2 ha),a0k (j:=0) rfl,_,rfl,l,_,_,_,rfl,rfl,SqL.of (g2 hl),a1f k (by omega) ex,t,_,_,_,rfl,rfl,SqT.of (g2 ht),a0k (j:=2) rfl,_,_,rfl,.inl ⟨_,SqL.of (g2 hL),rfl⟩,_,rfl,(by omega),(by omega),a2m (n:=((lkv.length:Nat):Int).toNat) (fun j σ H2=>(∀ b o,b≠pl→H8 b=some o→H2 b=some o)∧∃ (x5 x6:Option V) (ts:List V) (trs:List (Nat×Nat×Nat)),σ=[some (.ref a),some (.int z),some (.ref D),some (.ref pl),some (.int (0+(k:Int))),x5,x6,none,none]∧H2 pl=some (.lst ts)∧Trs (b7h H2 pl) ts (trs.map d8a)∧trs.length≤160*k+4*j∧∀ t∈trs,e4q p t) ⟨kp,x5,x6,ts,trs,rfl,h2,tts,lts,hok⟩ ?_ ?_⟩
   ·rintro j σ H2 hj ⟨kp,x5,x6,ts,trs,rfl,h2,tts,lts,hok⟩
    have hj':j < d.2.2.length:=by omega
    obtain⟨lk,hlk⟩:∃ lk,d.2.2[j]?=some lk:=⟨_,List.getElem?_eq_getElem hj'⟩
    obtain⟨x1,ex1,tx1⟩:=tL.at (i:=j) (d:=a6n lk) (by rw[List.getElem?_map,hlk];rfl)
    obtain⟨b,ws,rfl,hb,tws⟩:=a9j tx1
    have lw:ws.length=lk.length:=by rw[tws.len,List.length_map]
    have l4:=gp.looks d hdm lk (List.mem_of_getElem? hlk)
    have g2:∀ {b:Addr} {o:HO},H b=some o→H2 b=some o:=fun e=>kp _ _ (npl e) (s78 _ _ e)
    refine⟨_,rfl,a,_,_,_,rfl,rfl,SqT.of (g2 ha),a0k (j:=0) rfl,_,rfl,l,_,_,_,rfl,rfl,SqL.of (g2 hl),a1f k (by omega) ex,t,_,_,_,rfl,rfl,SqT.of (g2 ht),a0k (j:=2) rfl,_,rfl,L,_,_,_,rfl,rfl,SqL.of (g2 hL),a1f j (by omega) ex1,_,_,rfl,.inl ⟨_,SqL.of (g2 hb),rfl⟩,_,rfl,(by omega),(by omega),a2m (n:=((ws.length:Nat):Int).toNat) (fun i σ H2=>(∀ b o,b≠pl→H8 b=some o→H2 b=some o)∧∃ (x6:Option V) (ts:List V) (trs:List (Nat×Nat×Nat)),σ=[some (.ref a),some (.int z),some (.ref D),some (.ref pl),some (.int (0+(k:Int))),some (.int (0+(j:Int))),x6,none,none]∧H2 pl=some (.lst ts)∧Trs (b7h H2 pl) ts (trs.map d8a)∧trs.length≤160*k+4*j+i∧∀ t∈trs,e4q p t) ⟨kp,x6,ts,trs,rfl,h2,tts,lts,hok⟩ ?_ ?_⟩
    ·rintro i σ H2 hi ⟨kp,x6,ts,trs,rfl,h2,tts,lts,hok⟩
     have hi':i < lk.length:=by omega
     have ltl:ts.length=trs.length:=by rw[tts.len,List.length_map]
     refine⟨_,rfl,.inl ⟨rfl,_,SqL.of h2⟩,_,rfl,_,rfl,_,rfl,(by show 3≤sizeLine;decide),fun nt hnt=>?_⟩
     have sn:=Same.upd (o:=HO.tup [.int (0+(k:Int)),.int (0+(j:Int)),.int (0+(i:Int))]) hnt
     have ntpl:nt≠pl:=fun y=>by rw[y,h2] at hnt;cases hnt
     refine⟨pl,ts,_,rfl,rfl,sn _ _ h2,(by omega),fun H3 h3 k3=>?_⟩
     refine⟨fun b o nb eb=>k3 _ _ nb (sn _ _ (kp _ _ nb eb)),_,ts++[.ref nt],trs++[(k,j,i)],rfl,h3,?_,by rw[List.length_append,List.length_singleton];omega,fun t ht=>?_⟩
     ·rw[List.map_append]
      refine(tts.same fun b o eb=>a6k (a3x eb).1 (k3 _ _ (a3x eb).1 (sn _ _ (a3x eb).2))).app (.cons ?_ .nil)
      have e3:H3 nt=some (.tup [.int (k:Int),.int (j:Int),.int (i:Int)]):=by
       have:=k3 _ _ ntpl a0b
       rw[Int.zero_add,Int.zero_add,Int.zero_add] at this
       exact this
      exact .tup (a6k ntpl e3) (.cons (.int _) (.cons (.int _) (.cons (.int _) .nil)))
     ·rcases List.mem_append.mp ht with y | y
      ·exact hok t y
      ·rw[List.mem_singleton.mp y]
       exact⟨d,lk,_,hd,hlk,List.getElem?_eq_getElem hi'⟩
    ·rintro σ H2 ⟨kp,x6,ts,trs,rfl,h2,tts,lts,hok⟩
     exact⟨kp,_,_,ts,trs,rfl,h2,tts,by omega,hok⟩
   ·rintro σ H2 ⟨kp,x5,x6,ts,trs,rfl,h2,tts,lts,hok⟩
    exact⟨kp,_,_,_,ts,trs,rfl,h2,tts,by omega,hok⟩
  rintro σ H2 ⟨kp,x4,x5,x6,ts,trs,rfl,h2,tts,lts,hok⟩
  have ltl:ts.length=trs.length:=by rw[tts.len,List.length_map]
  have g2:∀ {b:Addr} {o:HO},H b=some o→H2 b=some o:=fun e=>kp _ _ (npl e) (s78 _ _ e)
  have tts2:Trs H2 ts (trs.map d8a):=tts.same b7p
  have hnf:∀ b∈f,∃ o,H b=some o:=fun b hb=>by
   rcases tf.live b hb with ⟨xs,e⟩ | ⟨xs,e⟩
   ·exact⟨_,e⟩
   ·exact⟨_,e⟩
  have plf:pl ∉ f:=fun y=>by
   obtain⟨o,e⟩:=hnf pl y
   exact npl e rfl
  refine⟨_,rfl,(by show 0≤sizeLine;decide),fun el hel=>?_⟩
  have s3:=Same.upd (o:=HO.lst []) hel
  refine⟨.list (trs.map d8a),.list [],.lst (SqL.of (s3 _ _ h2)) (tts2.same s3).dts,.lst (SqL.of a0b) .nil,d0y trs,rfl,_,rfl,?_⟩
  rw[d0j]
  by_cases hne:trs=[]
  ·rw[decide_eq_true hne]
   refine b5k (q _ p (fun b xs e=>s3 _ _ (g2 e)) (fun b o _ e=>s3 _ _ (g2 e)) (tf.fr fun b _ o e=>s3 _ _ (g2 e)).tr gp)
  rw[decide_eq_false hne]
  refine c7i ?_
  have g3:∀ {b:Addr} {o:HO},H b=some o→upd H2 el (.lst []) b=some o:=fun e=>s3 _ _ (g2 e)
  have n0:0 < ts.length:=by rw[ltl];exact List.length_pos_iff.mpr hne
  obtain⟨hidx,v0,ev0,av0⟩:=d1i (xs:=ts) z rfl n0
  generalize (z%((ts.length:Nat):Int)).toNat=ix at hidx ev0
  obtain⟨dd,edd,td⟩:=tts2.get ev0
  rw[List.getElem?_map] at edd
  obtain⟨⟨k,j,i⟩,htr,rfl⟩:=Option.map_eq_some_iff.mp edd
  obtain⟨qt,rfl,hqt⟩:=e8g td
  obtain⟨d,lk,pr,hd,hlk,hpr2⟩:=hok _ (List.mem_of_getElem? htr)
  have hdm:=List.mem_of_getElem? hd
  obtain⟨x,f1,f2,f3,ex,ef,tx,put⟩:=tl.focus (i:=k) (d:=a2h d) (by rw[List.getElem?_map,hd];rfl)
  obtain⟨t,L,lkv,g,rfl,ef2,ht,hL,tL⟩:=c2h tx
  obtain⟨x1,e1,e2,e3,ex1,ef3,tx1,put1⟩:=tL.focus (i:=j) (d:=a6n lk) (by rw[List.getElem?_map,hlk];rfl)
  obtain⟨ws,g1,b,rfl,ef4,hb,tws⟩:∃ ws g1 b,x1=.ref b∧e2=b::g1∧H b=some (.lst ws)∧TFs H ws (lk.map b3h) g1:=by
   cases tx1 with
   | lst h1 h2=>exact⟨_,_,_,rfl,rfl,h1,h2⟩
  obtain⟨x2,c1,c2,c3,ex2,ef5,tx2,put2⟩:=tws.focus (i:=i) (d:=b3h pr) (by rw[List.getElem?_map,hpr2];rfl)
  obtain⟨pa,rfl,hpa⟩:=b8t tx2.tr
  refine⟨_,rfl,_,rfl,_,rfl,_,_,rfl,.inl ⟨_,SqL.of (s3 _ _ h2),rfl⟩,_,_,rfl,rfl,(by omega),pl,_,_,_,rfl,rfl,SqL.of (s3 _ _ h2),av0,qt,_,rfl,SqT.of (s3 _ _ hqt),rfl,_,_,rfl,_,_,rfl,_,_,rfl,rfl,?_⟩
  refine⟨_,rfl,a,_,_,_,rfl,rfl,SqT.of (g3 ha),a0k (j:=0) rfl,_,rfl,l,_,_,_,rfl,rfl,SqL.of (g3 hl),a0k ex,t,_,_,_,rfl,rfl,SqT.of (g3 ht),a0k (j:=2) rfl,_,rfl,L,_,_,_,rfl,rfl,SqL.of (g3 hL),a0k ex1,_,rfl,b,_,_,_,rfl,rfl,SqL.of (g3 hb),a0k ex2,pa,_,_,_,rfl,rfl,SqT.of (g3 hpa),a0k (j:=0) rfl,?_⟩
  refine⟨_,rfl,(by show 2≤sizeLine;decide),fun o1 ho1=>?_⟩
  have s4:=Same.upd (o:=HO.lst [.int 0,.int (-1)]) ho1
  have ho1':upd (upd H2 el (.lst [])) o1 (.lst [.int 0,.int (-1)]) o1=some (.lst [.int 0,.int (-1)]):=a0b
  have hH4:Same H (upd (upd H2 el (.lst [])) o1 (.lst [.int 0,.int (-1)])):=fun b o e=>s4 _ _ (g3 e)
  have hD4:upd (upd H2 el (.lst [])) o1 (.lst [.int 0,.int (-1)]) D=some (.dK mkv):=s4 _ _ (s3 _ _ (kp _ _ nplD hD8))
  refine⟨_,rfl,D,rfl,.inl ⟨_,.inl hD4⟩,_,rfl,(by show 0≤sizeLine;omega),fun nl hnl=>?_⟩
  have s5:=Same.upd (o:=HO.lst []) hnl
  refine⟨_,.inl ⟨mkv,.inl pr.1,.inl (s5 _ _ hD4),rfl,rfl⟩,?_⟩
  have hH5:=hH4.trans s5
  have ho15:=s5 _ _ ho1'
  obtain⟨ma,ema,hma⟩:∃ ma,(a4a mkv (.inl pr.1)).getD (V.ref nl)=.ref ma∧upd (upd (upd H2 el (.lst [])) o1 (.lst [.int 0,.int (-1)])) nl (.lst []) ma=some (.lst ((b7g p pr.1).map V.int)):=by
   rcases e2g gp.nk hmk1 hmk2 pr.1 with ⟨l',u1,u2⟩ | ⟨u1,u2⟩
   ·exact⟨l',by rw[u1];rfl,hH5 _ _ u2⟩
   ·exact⟨nl,by rw[u1];rfl,by rw[u2];exact a0b⟩
  rw[ema]
  generalize upd (upd (upd H2 el (.lst [])) o1 (.lst [.int 0,.int (-1)])) nl (.lst [])=H5 at *
  have m100:=e1k gp pr.1
  refine⟨ma,rfl,⟨_,SqL.of hma⟩,e9g (k:=1) (fs:=[some (.ref a),some (.int (k:Int))]) (b7g p pr.1) PyData.int (fun n=>if n=d.1 then none else some (.int n)) rfl hma (Trs.ofInts _) (by omega) (fun n hn H6 ts R0 v s6 hts tr cs cn=>?_) (fun D6 H6 ys hD6 s6 hd6 ht6=>?_)⟩
  ·obtain⟨t0,rfl⟩:=List.length_eq_one_iff.mp hts
   cases tr
   have hh:=hH5.trans s6
   refine⟨_,rfl,_,rfl,a,_,_,_,rfl,rfl,SqT.of (hh _ _ ha),a0k (j:=0) rfl,_,rfl,l,_,_,_,rfl,rfl,SqL.of (hh _ _ hl),a0k ex,t,_,_,_,rfl,rfl,SqT.of (hh _ _ ht),a0k (j:=0) rfl,rfl,_,rfl,?_⟩
   rw[d3y]
   by_cases y:n=d.1
   ·rw[decide_eq_true y]
    exact b5k (cn (if_pos y) [_] _ rfl (Same.refl _))
   ·rw[decide_eq_false y]
    exact c7i ⟨_,rfl,cs _ _ [_] _ (if_neg y) rfl (Same.refl _) (.int n)⟩
  ·rw[d1e] at ht6
   have eys:=ht6.ints
   generalize hes:(b7g p pr.1).filter (fun n=>!decide (n=d.1))=es at eys
   have les:es.length≤100:=by rw[←hes];exact Nat.le_trans (List.length_filter_le _ _) m100
   rw[eys] at hd6
   have hH6:=hH5.trans s6
   refine⟨o1,D6,_,_,rfl,rfl,s6 _ _ ho15,hd6,(by rw[List.length_map];show 2+es.length≤sizeLine;omega),fun so hso=>?_⟩
   have s7':=Same.upd (o:=HO.lst ([.int 0,.int (-1)]++es.map V.int)) hso
   have hH7:=hH6.trans s7'
   have hso7:upd H6 so (.lst ([V.int 0,.int (-1)]++es.map V.int)) so=some (.lst ((0::-1::es).map V.int)):=a0b
   generalize upd H6 so (HO.lst ([V.int 0,.int (-1)]++es.map V.int))=H7 at *
   obtain⟨am,_⟩:=e4l (ns:=0::-1::es) (n:=((0::-1::es).map V.int).length) (z / 4001) (by rw[List.length_map]) (by rw[List.length_map];show 0 < es.length+2;omega)
   refine⟨_,rfl,_,rfl,_,rfl,_,_,rfl,rfl,⟨by decide,by decide⟩,_,rfl,_,_,rfl,.inl ⟨_,SqL.of hso7,rfl⟩,_,_,rfl,rfl,(by rw[List.length_map];show (0:Int) < ((es.length+2:Nat):Int);omega),so,_,_,_,rfl,rfl,SqL.of hso7,am,(by show 2≤sizeLine;decide),fun np hnp=>?_⟩
   generalize (0::-1::es).getD _ 0=src at *
   have s9:=Same.upd (o:=HO.tup [.int pr.1,.int src]) hnp
   have hH9:=hH7.trans s9
   have hnp9:upd H7 np (.tup [.int pr.1,.int src]) np=some (.tup [.int pr.1,.int src]):=a0b
   have npf:∀ {b:Addr} {o:HO},H b=some o→np≠b:=fun e y=>by rw[y,hH7 _ _ e] at hnp;cases hnp
   generalize upd H7 np (HO.tup [.int pr.1,.int src])=H9 at *
   have hil:i < ws.length:=(List.getElem?_eq_some_iff.mp ex2).1
   have ixn:ixN ws.length (i:Int)=some i:=by
    unfold ixN
    rw[if_pos (by omega),if_pos (by omega)]
    rfl
   refine⟨_,rfl,a,_,_,_,rfl,rfl,SqT.of (hH9 _ _ ha),a0k (j:=0) rfl,_,rfl,l,_,_,_,rfl,rfl,SqL.of (hH9 _ _ hl),a0k ex,t,_,_,_,rfl,rfl,SqT.of (hH9 _ _ ht),a0k (j:=2) rfl,_,rfl,L,_,_,_,rfl,rfl,SqL.of (hH9 _ _ hL),a0k ex1,_,rfl,b,ws,_,i,rfl,rfl,hH9 _ _ hb,ixn,fun H' h' k'=>?_⟩
   have bf2:b∈f2:=by rw[ef2,ef3,ef4];exact .tail _ (.tail _ (List.mem_append_right _ (List.mem_append_left _ (.head _))))
   have bf:b∈f:=by rw[ef0,ef];exact .tail _ (List.mem_append_left _ (.tail _ (List.mem_append_right _ (List.mem_append_left _ bf2))))
   have nf2:f2.Nodup:=by
    have n1:=(List.nodup_cons.mp (nd2.mp (List.nodup_cons.mp nd').2).1).2
    rw[ef] at n1
    exact(nd3.mp n1).2.1
   rw[ef2] at nf2
   obtain⟨nt1,nf3⟩:=List.nodup_cons.mp nf2
   obtain⟨nL1,ng⟩:=List.nodup_cons.mp nf3
   have bg:b∈g:=by rw[ef3,ef4];exact List.mem_append_right _ (List.mem_append_left _ (.head _))
   have tb:t≠b:=fun y=>nt1 (by rw[y];exact .tail _ bg)
   have Lb:L≠b:=fun y=>nL1 (by rw[y];exact bg)
   rw[ef3] at ng
   have ng3:=nd3.mp ng
   have bo:=ng3.2.2 b (by rw[ef4];exact .head _)
   have ng1:=ng3.2.1
   rw[ef4] at ng1
   have bg1:=(List.nodup_cons.mp ng1).1
   have kk:∀ c o,c≠b→H c=some o→H' c=some o:=fun c o nc e=>k' c o nc (hH9 _ _ e)
   have npb:np≠b:=npf hb
   have tpair:TF H' (.ref np) (b3h (pr.1,src)) [np]:=.tup (k' _ _ npb hnp9) (TFs.cons (f:=[]) (g:=[]) (.int _) (TFs.cons (f:=[]) (g:=[]) (.int _) .nil))
   have tlook:=put2 H' (.ref np) (b3h (pr.1,src)) [np] (fun c hc o e=>kk c o (fun y=>bg1 (by rw[←y,ef5];rcases List.mem_append.mp hc with u | u;exact List.mem_append_left _ u;exact List.mem_append_right _ (List.mem_append_right _ u))) e) tpair
   rw[←List.map_set] at tlook
   have tdeal:=put1 H' (.ref b) (a6n (lk.set i (pr.1,src))) _ (fun c hc o e=>kk c o (fun y=>by rcases List.mem_append.mp hc with u | u;exact bo.1 (y ▸ u);exact bo.2 (y ▸ u)) e) (.lst h' tlook)
   rw[←List.map_set,TFs.set_self ex1] at tdeal
   refine q H' (p.1.set k (d.1,d.2.1,d.2.2.set j (lk.set i (pr.1,src))),p.2) (fun c xs e=>kk c _ (fun y=>by rw[y,hb] at e;cases e) e) (fun c o nc e=>kk c o (fun y=>nc (y ▸ bf)) e) (e2a (d:=d) ha hl hm tm nd' ex ef put bf2 kk ⟨_,.tup (kk _ _ tb ht) (TFs.cons (f:=[]) (.int _) (TFs.cons (f:=[]) (.str _) (TFs.one (.lst (kk _ _ Lb hL) tdeal))))⟩) ?_
   refine gp.setD hd rfl (gp.good.2.2 d hdm).1 (by show (d.2.2.set j _).length≤40;rw[List.length_set];exact(gp.good.2.2 d hdm).2) fun l' hl'=>?_
   rcases List.mem_or_eq_of_mem_set hl' with u | u
   ·exact gp.looks d hdm l' u
   ·rw[u,List.length_set]
    exact gp.looks d hdm lk (List.mem_of_getElem? hlk)
--@STAGE
def e1e (v:V) (p:Ps) (f:List Addr) (o:Addr) (way z:Int) (k:Int) (σ:L2.St) (H2:Hp):Prop:=∃ (so:Addr) (ys':List V) (os':List Nk) (p':Ps) (x5 x6 x7 x8:Option V),σ=[some v,some (.ref o),some (.int way),some (.int z),some (.ref so),x5,x6,x7,x8]∧H2 so=some (.lst ys')∧Nds H2 ys' os'∧os'.length≤40∧Tr H2 v (a3r p')∧GP p'∧(k≤way→TF H2 v (a3r p) f∧so ∉ f∧os'.length≤32)
theorem e1e.up {v:V} {p:Ps} {f:List Addr} {o:Addr} {way z k:Int} {σ:L2.St} {H2:Hp} (h:e1e v p f o way z k σ H2):e1e v p f o way z (k+1) σ H2:=by
 obtain⟨so,ys',os',p',x5,x6,x7,x8,e,h1,h2,h3,h4,h5,h6⟩:=h
 exact⟨so,ys',os',p',x5,x6,x7,x8,e,h1,h2,h3,h4,h5,fun z=>h6 (by omega)⟩
def f0s:Sp:=fun vs H Q _=>∃ (v:V) (o:Addr) (ys:List V) (os:List Nk) (p:Ps) (f:List Addr) (way z:Int),vs=[v,.ref o,.int way,.int z]∧TF H v (a3r p) f∧f.Nodup∧GP p∧H o=some (.lst ys)∧Nds H ys os∧os.length≤32∧∀ so H' ys' os' p',H' so=some (.lst ys')→Nds H' ys' os'→os'.length≤40→Tr H' v (a3r p')→GP p'→Q (.ref so) H'
theorem b9h {α β:Type} {F:α→β→Prop}:∀ {xs:List α} {bs:List β} (n:Nat),Paired F xs bs→Paired F (xs.take n) (bs.take n)
 | _,_,0,_=>.nil
 | _,_,_+1,.nil=>.nil
 | _,_,n+1,.cons h t=>.cons h (b9h n t)
theorem b9c {α β:Type} {F:α→β→Prop}:∀ {xs:List α} {bs:List β} (n:Nat),Paired F xs bs→Paired F (xs.drop n) (bs.drop n)
 | _,_,0,h=>h
 | _,_,_+1,.nil=>.nil
 | _,_,n+1,.cons _ t=>b9c n t
theorem b9z {H:Hp} {ys:List V} {os:List Nk} (h:Nds H ys os) (lo hi:Option Int):∃ os',Nds H (a7o ys lo hi) os'∧os'.length≤os.length∧(∀ k:Int,0≤k→lo=none→hi=some k→(os'.length:Int)≤k)∧(∀ k:Int,0≤k→k≤os.length→lo=some k→(os'.length:Int)≤os.length - k):=by
 have hl:=a5n h
 refine⟨_,b9h _ (b9c _ h),?_,fun k k0 e1 e2=>?_,fun k k0 k1 e1=>?_⟩
 ·rw[List.length_take,List.length_drop]
  omega
 ·subst e1
  subst e2
  obtain⟨n,rfl⟩:∃ n:Nat,k=(n:Int):=⟨k.toNat,by omega⟩
  rw[List.length_take,HT.sIx_nat,HT.sIx_none]
  omega
 ·subst e1
  obtain⟨n,rfl⟩:∃ n:Nat,k=(n:Int):=⟨k.toNat,by omega⟩
  rw[List.length_take,List.length_drop,HT.sIx_nat]
  omega
theorem f0d {i:Int} {n:Nat} (h0:0≤i) (h1:i < (n:Int)):seqIndex? i n=some i.toNat:=by
 unfold seqIndex?
 have:¬ i < 0:=by omega
 simp[this,h0,h1]
theorem e6d {xs:List V} {i:Int} (h0:0≤i) (h1:i < (xs.length:Int)):∃ y,xs[i.toNat]?=some y∧atI xs i=some y:=by
 have hl:i.toNat < xs.length:=by omega
 exact⟨xs[i.toNat],List.getElem?_eq_getElem hl,a1f i.toNat (by omega) (List.getElem?_eq_getElem hl)⟩
theorem c7d (ms:List Mkr):SeqAt.shaped (.list (ms.map a4t))=true:=by
 have h1:(PyData.list (ms.map a4t)).canLay0=true:=b0y fun d hd=>by
  obtain⟨p,_,rfl⟩:=List.mem_map.mp hd
  exact(b7q p).1
 have h2:PyData.depthAll (ms.map a4t)≤2:=a6h fun d hd=>by
  obtain⟨p,_,rfl⟩:=List.mem_map.mp hd
  exact(b7q p).2
 unfold SeqAt.shaped
 rw[h1,decide_eq_true (by show PyData.depthAll (ms.map a4t)+1≤_;omega)]
 rfl
theorem c8u {ds:List Dl} (h:∀ d∈ds,d.2.1∈wds):SeqAt.shaped (.list (ds.map a2h))=true:=by
 have h1:(PyData.list (ds.map a2h)).canLay0=true:=b0y fun d hd=>by
  obtain⟨p,hp,rfl⟩:=List.mem_map.mp hd
  exact(b7w (h p hp)).1
 have h2:PyData.depthAll (ds.map a2h)≤4:=a6h fun d hd=>by
  obtain⟨p,hp,rfl⟩:=List.mem_map.mp hd
  exact(b7w (h p hp)).2
 unfold SeqAt.shaped
 rw[h1,decide_eq_true (by show PyData.depthAll (ds.map a2h)+1≤_;omega)]
 rfl
theorem c2m {α:Type} (g:α→PyData) (l:List α):PyData.eqv (.list (l.map g)) (.list [])=decide (l=[]):=by
 cases l with
 | nil=>rfl
 | cons a r=>simp;rfl
theorem c3u (T:Tx K mg):a3y P w K mg base CX0 2 T.a7u T.a7v ["_law_past_here","_law_order","_law_way","_law_number"] f0s:=by
 refine T.b0z.ok a1n (fun vs H Q E h=>?_) (fun cdv A outer s H vs Q E hr h=>?_)
 ·obtain⟨v,o,ys,os,p,f,way,z,rfl,_⟩:=h
  rfl
 ·obtain⟨v,o,ys,os,p,f,way,z,rfl,tf,nd,gp,ho,hn,hz,q⟩:=h
  have hu:=a8v hr
  refine⟨_,(a0e (a0n (i:=4) a1n.nd rfl (Or.inl rfl) (a2y a7x (by rfl) T.b6t boot_list (a0a (pv 1) a0d)))
   (a8n (a3n (PW.pt (b3a (a0t a7m (pv 2) a0c (a0x _)) (a8l (a0t e6a (a1b a1i (by rfl) T.a5j boot_len (a0a (pv 4) a0d)) a0c (a0x _)))))
   (a0e (a0n (i:=5) a1n.nd rfl (Or.inl rfl) (a0v a2e (pv 3) (a0v c1y (a1b a1i (by rfl) T.a5j boot_len (a0a (pv 4) a0d)) a0c)))
   (a0g (a0n (i:=4) a1n.nd rfl (Or.inl rfl) (a0v b6w (a0v b6w (a6u a9w (pv 4) a9h (a9t (pv 5))) (a1k (a0a (a0o a0w (pv 4) (a0v a3z (pv 5) a0c) (fun _ _=>rfl)) (a0a (a0o a0w (pv 4) (pv 5) (fun _ _=>rfl)) a0d)))) (a6u a9w (pv 4) (a9t (a0v a3z (pv 5) a0c)) a9h)))))
   a1a)
   (a8n (a3n (a0t a7m (pv 2) a0c (a0x _))
   (a0g (a5t (a0l ((b8w T).mono (by decide)) hr rfl T.b2q T.a8m.kp T.b2v .nil a1m (a0a (pv 0) (a0a (pv 3) a0d)))))
   a1a)
   (a8n (a3n (PW.pt (b3a (a0t a7m (pv 2) a0c (a0x _)) (a8l (a0t (c2k hr.units) (a0o a0z (pv 0) a0c (fun _ _=>rfl)) (a1k a0d) (a0x _)))))
   (a0e (a0n (i:=6) a1n.nd rfl (Or.inl rfl) (a0o a0z (a0o a0w (a0o a0z (pv 0) a0c (fun _ _=>rfl)) (a0v a2e (pv 3) (a1b a1i (by rfl) T.a5j boot_len (a0a (a0o a0z (pv 0) a0c (fun _ _=>rfl)) a0d))) (fun _ _=>rfl)) a0c (fun _ _=>rfl)))
   (a0g (a5t (b7c PySem.F.plainAttrs_list PySem.F.slot_list_append PySem.F.type_list_append a4r (pv 6) (a0a (b7c PySem.F.plainAttrs_list PySem.F.slot_list_pop PySem.F.type_list_pop e1i (pv 6) (a0a (a0v a2e (a0v a7l (pv 3) a0c) (a1b a1i (by rfl) T.a5j boot_len (a0a (pv 6) a0d))) a0d)) a0d)))))
   a1a)
   (a8n (a3n (PW.pt (b3a (a0t a7m (pv 2) a0c (a0x _)) (a8l (a0t e6a (a1b a1i (by rfl) T.a5j boot_len (a0a (pv 4) a0d)) a0c (a0x _)))))
   (a0e (a0n (i:=5) a1n.nd rfl (Or.inl rfl) (a0v a2e (pv 3) (a1b a1i (by rfl) T.a5j boot_len (a0a (pv 4) a0d))))
   (a0e (a0n (i:=7) a1n.nd rfl (Or.inl rfl) (a1k (a0a (a0v b6w (a6u a9w (pv 4) a9h (a9t (pv 5))) (a6u a9w (pv 4) (a9t (a0v a3z (pv 5) a0c)) a9h)) (a0a (a0v b6w (pv 4) (a1k (a0a (a0o a0w (pv 4) (pv 5) (fun _ _=>rfl)) a0d))) (a0a (a0v b6w (a6u a9w (pv 4) (a9t (pv 5)) a9h) (a6u a9w (pv 4) a9h (a9t (pv 5)))) a0d)))))
   (a0e (a5t (b7c PySem.F.plainAttrs_list PySem.F.slot_list_append PySem.F.type_list_append a4r (pv 7) (a0a (a0v b6w (a0v b6w (a6u a9w (pv 4) a9h (a9t (pv 5))) (a1k (a0a (a2f (a0a (a0v a3z (a0v a2e (a0v a7l (pv 3) a0c) a0c) a0c) (a0a (a0v c1y (a0v a2e (a0v a7l (pv 3) a0c) a0c) a0c) a0d))) a0d))) (a6u a9w (pv 4) (a9t (pv 5)) a9h)) a0d)))
   (a0g (a0n (i:=4) a1n.nd rfl (Or.inl rfl) (a0o a0w (pv 7) (a0v a2e (a0v a7l (pv 3) a0c) a0c) (fun _ _=>rfl)))))))
   a1a)
   (a8n (a3n (PW.pt (b3a (a0t a7m (pv 2) a0c (a0x _)) (a8l (a0t (c2k hr.units) (a0o a0z (pv 0) a0c (fun _ _=>rfl)) (a1k a0d) (a0x _)))))
   (a0e (a0n (i:=5) a1n.nd rfl (Or.inl rfl) (a0v a2e (pv 3) (a1b a1i (by rfl) T.a5j boot_len (a0a (a0o a0z (pv 0) a0c (fun _ _=>rfl)) a0d))))
   (a0e (a0n (i:=8) a1n.nd rfl (Or.inl rfl) (a0o a0w (a1k (a0a a1p (a0a a1p (a0a a1p (a0a a1p (a0a a1p a0d)))))) (a0v a2e (a0v a7l (pv 3) a0c) a0c) (fun _ _=>rfl)))
   (a0g (c0g (a2f (a0a (a0o a0z (a0o a0w (a0o a0z (pv 0) a0c (fun _ _=>rfl)) (pv 5) (fun _ _=>rfl)) a0c (fun _ _=>rfl)) (a0a (pv 8) (a0a (a0o a0z (a0o a0w (a0o a0z (pv 0) a0c (fun _ _=>rfl)) (pv 5) (fun _ _=>rfl)) a0c (fun _ _=>rfl)) a0d)))) (d5d (a0o a0z (pv 0) a0c (fun _ _=>rfl)) (pv 5) b9l)))))
   a1a)
   (a0g (a0s (pv 4))))))))),?_⟩
  have z9:(2000:Nat)≤sizeLine:=by decide
  have hyl:=a5n hn
  refine⟨_,rfl,o,ys,rfl,.inl (SqL.of ho),fun so hso=>?_⟩
  have s1:=Same.upd (o:=HO.lst ys) hso
  have sof:so ∉ f:=tf.not hso
  have iv3:e1e v p f o way z 3 [some v,some (.ref o),some (.int way),some (.int z),some (.ref so),none,none,none,none] (upd H so (.lst ys)):=⟨so,ys,os,p,none,none,none,none,rfl,a0b,a5l s1 hn,by omega,(tf.same s1).tr,gp,fun _=>⟨tf.same s1,sof,hz⟩⟩
  generalize upd H so (.lst ys)=H1 at *
  refine⟨e1e v p f o way z 4,?_,?_⟩
  ·have iv4:=iv3.up
   obtain⟨so',ys',os',p',x5,x6,x7,x8,e0,h1,h2,h3,h4,h5,h6⟩:=iv3
   cases e0
   have ly:=a5n h2
   refine⟨_,rfl,rfl,_,rfl,b0n (fun e=>?_) (fun e=>b5k iv4)⟩
   have e3:way=3:=V.int.inj (of_decide_eq_true e)
   obtain⟨h7,h8,h9⟩:=h6 (by omega)
   refine⟨_,rfl,_,_,rfl,.inl ⟨_,SqL.of h1,rfl⟩,_,_,rfl,rfl,_,rfl,b0n (fun e2=>?_) (fun e2=>iv4)⟩
   have l1:(1:Int) < (ys'.length:Int):=of_decide_eq_true e2
   refine⟨_,rfl,_,rfl,_,_,rfl,.inl ⟨_,SqL.of h1,rfl⟩,_,_,rfl,rfl,_,_,rfl,rfl,(by show (0:Int) < (ys'.length:Int) - 1;omega),?_⟩
   have c0:=Int.emod_nonneg z (show (ys'.length:Int) - 1≠0 by omega)
   have c1:=Int.emod_lt_of_pos z (show (0:Int) < (ys'.length:Int) - 1 by omega)
   obtain⟨y1,ey1,ay1⟩:=e6d (xs:=ys') (i:=z%((ys'.length:Int) - 1)+1) (by omega) (by omega)
   obtain⟨y0,ey0,ay0⟩:=e6d (xs:=ys') (i:=z%((ys'.length:Int) - 1)) (by omega) (by omega)
   obtain⟨n1,_,d1⟩:=a1w h2 ey1
   obtain⟨n0,_,d0⟩:=a1w h2 ey0
   obtain⟨os1,c1',k1,k1b,_⟩:=b9z h2 none (some (z%((ys'.length:Int) - 1)))
   obtain⟨os3,c3',k3,_,k3c⟩:=b9z h2 (some (z%((ys'.length:Int) - 1)+2)) none
   have k1d:=k1b _ c0 rfl rfl
   have k3d:=k3c _ (by omega) (by omega) rfl
   have lc1:=a5s ys' none (some (z%((ys'.length:Int) - 1)))
   have lc3:=a5s ys' (some (z%((ys'.length:Int) - 1)+2)) none
   refine⟨_,rfl,_,rfl,_,rfl,so,ys',rfl,SqL.of h1,fun p1 hp1=>?_⟩
   have u1:=Same.upd (o:=HO.lst (a7o ys' none (some (z%((ys'.length:Int) - 1))))) hp1
   refine⟨_,rfl,_,rfl,_,_,rfl,rfl,so,_,_,_,rfl,rfl,SqL.of (u1 _ _ h1),ay1,_,rfl,_,rfl,so,_,_,_,rfl,rfl,SqL.of (u1 _ _ h1),ay0,(by show 2≤sizeLine;decide),fun p2 hp2=>?_⟩
   have u2:=Same.upd (o:=HO.lst [y1,y0]) hp2
   have u12:=u1.trans u2
   refine⟨p1,p2,_,_,rfl,rfl,u2 _ _ a0b,a0b,(by show _+2≤sizeLine;omega),fun p3 hp3=>?_⟩
   have u3:=Same.upd (o:=HO.lst (a7o ys' none (some (z%((ys'.length:Int) - 1)))++[y1,y0])) hp3
   have u13:=u12.trans u3
   refine⟨_,rfl,_,rfl,_,_,rfl,rfl,_,rfl,so,ys',rfl,SqL.of (u13 _ _ h1),fun p4 hp4=>?_⟩
   have u4:=Same.upd (o:=HO.lst (a7o ys' (some (z%((ys'.length:Int) - 1)+2)) none)) hp4
   refine⟨p3,p4,_,_,rfl,rfl,u4 _ _ a0b,a0b,(by rw[List.length_append];show _+2+_≤sizeLine;omega),fun p5 hp5=>?_⟩
   have u5:=Same.upd (o:=HO.lst ((a7o ys' none (some (z%((ys'.length:Int) - 1)))++[y1,y0])++a7o ys' (some (z%((ys'.length:Int) - 1)+2)) none)) hp5
   have u15:=(u13.trans u4).trans u5
   refine⟨p5,_,(os1++[n1,n0])++os3,p',_,_,_,_,rfl,a0b,a1t (a1t (a5l u15 c1') (.cons (NdV.sm u15 d1) (.cons (NdV.sm u15 d0) .nil))) (a5l u15 c3'),by rw[List.length_append,List.length_append];show os1.length+2+os3.length≤40;omega,h4.same u15,h5,fun y=>by omega⟩
  rintro σ H2 iv4
  refine⟨e1e v p f o way z 5,?_,?_⟩
  ·have iv5:=iv4.up
   obtain⟨so',ys',os',p',x5,x6,x7,x8,rfl,h1,h2,h3,h4,h5,h6⟩:=iv4
   refine⟨_,rfl,rfl,_,rfl,b0n (fun e=>?_) (fun e=>iv5)⟩
   have e3:way=4:=V.int.inj (of_decide_eq_true e)
   obtain⟨h7,h8,h9⟩:=h6 (by omega)
   refine⟨_,rfl,_,rfl,v,z,p,f,rfl,h7,nd,gp,fun H' p'' kt kf tr g=>?_⟩
   exact⟨so',ys',os',p'',_,_,_,_,rfl,kf _ _ h8 h1,b2y kt h2,h3,tr,g,fun y=>by omega⟩
  rintro σ H2 iv5
  refine⟨e1e v p f o way z 6,?_,?_⟩
  ·have iv6:=iv5.up
   obtain⟨so',ys',os',p',x5,x6,x7,x8,rfl,h1,h2,h3,h4,h5,h6⟩:=iv5
   refine⟨_,rfl,rfl,_,rfl,b0n (fun e=>?_) (fun e=>b5k iv6)⟩
   have e3:way=5:=V.int.inj (of_decide_eq_true e)
   obtain⟨h7,h8,h9⟩:=h6 (by omega)
   obtain⟨a,l,m,lv,mv,fl,fm,rfl,ef0,ha,hl,tl,hm,tm⟩:=b5r h7
   have nd':=nd
   rw[ef0] at nd'
   have lmv:mv.length=p.2.length:=by rw[tm.len,List.length_map]
   refine⟨_,rfl,a,_,_,_,rfl,rfl,SqT.of ha,a0k (j:=1) rfl,(by show 0≤sizeLine;decide),fun el hel=>?_⟩
   have s3:=Same.upd (o:=HO.lst []) hel
   refine⟨.list (p.2.map a4t),.list [],.lst (SqL.of (s3 _ _ hm)) (tm.trs.same s3).dts,.lst (SqL.of a0b) .nil,c7d _,rfl,_,rfl,?_⟩
   rw[c2m]
   by_cases hne:p.2=[]
   ·rw[decide_eq_true hne]
    exact b5k ⟨so',ys',os',p',_,_,_,_,rfl,s3 _ _ h1,a5l s3 h2,h3,h4.same s3,h5,fun y=>by omega⟩
   rw[decide_eq_false hne]
   refine c7i ?_
   have n0:0 < mv.length:=by rw[lmv];exact List.length_pos_iff.mpr hne
   obtain⟨hi,v0,ev0,av0⟩:=d1i (xs:=mv) z rfl n0
   generalize (z%((mv.length:Nat):Int)).toNat=ix at hi ev0
   obtain⟨r,hr⟩:∃ r,p.2[ix]?=some r:=⟨_,List.getElem?_eq_getElem (by omega)⟩
   obtain⟨x,f1,f2,f3,ex,ef,tx,put⟩:=tm.focus (i:=ix) (d:=a4t r) (by rw[List.getElem?_map,hr];rfl)
   rw[ev0] at ex
   cases ex
   obtain⟨t,c,rfl,ef2,ht,hc⟩:=d3j tx
   obtain⟨r1,r2⟩:=gp.makes r (List.mem_of_getElem? hr)
   refine⟨_,rfl,a,_,_,_,rfl,rfl,SqT.of (s3 _ _ ha),a0k (j:=1) rfl,_,rfl,_,rfl,a,_,_,_,rfl,rfl,SqT.of (s3 _ _ ha),a0k (j:=1) rfl,_,_,rfl,.inl ⟨_,SqL.of (s3 _ _ hm),rfl⟩,_,_,rfl,rfl,(by omega),m,_,_,_,rfl,rfl,SqL.of (s3 _ _ hm),av0,t,_,_,_,rfl,rfl,SqT.of (s3 _ _ ht),a0k (j:=1) rfl,?_⟩
   have len0:0 < r.2.length:=List.length_pos_iff.mpr r1
   have hc3:=s3 _ _ hc
   have lm:(r.2.map V.int).length=r.2.length:=List.length_map _
   have c0:=Int.emod_nonneg (z / 7) (show ((r.2.length:Nat):Int)≠0 by omega)
   have c1:=Int.emod_lt_of_pos (z / 7) (show (0:Int) < ((r.2.length:Nat):Int) by omega)
   have kl:(z / 7%((r.2.length:Nat):Int)).toNat < r.2.length:=by omega
   obtain⟨y,ey⟩:∃ y,r.2[(z / 7%((r.2.length:Nat):Int)).toNat]?=some y:=⟨_,List.getElem?_eq_getElem kl⟩
   refine⟨_,rfl,.inl ⟨rfl,_,SqL.of hc3⟩,_,rfl,.inl ⟨rfl,_,SqL.of hc3⟩,_,rfl,_,_,rfl,rfl,⟨by decide,by decide⟩,_,rfl,_,_,rfl,.inl ⟨_,SqL.of hc3,rfl⟩,_,_,rfl,rfl,(by rw[lm];omega),c,_,_,(z / 7%((r.2.length:Nat):Int)).toNat,.int y,rfl,rfl,hc3,(by show -(2 ^ 63)≤z / 7%(((r.2.map V.int).length:Nat):Int);rw[lm];omega),(by show z / 7%(((r.2.map V.int).length:Nat):Int) < 2 ^ 63;rw[lm];omega),(by show seqIndex? (z / 7%(((r.2.map V.int).length:Nat):Int)) _=_;rw[lm];exact f0d c0 c1),(by rw[List.getElem?_map,ey];rfl),c,_,_,rfl,rfl,a0b,(by rw[b8y,List.length_map];have:=List.length_eraseIdx_le r.2 (z / 7%((r.2.length:Nat):Int)).toNat;omega),fun H' h' k'=>?_⟩
   rw[b8y] at h'
   generalize (z / 7%((r.2.length:Nat):Int)).toNat=kx at *
   have hc':H' c=some (.lst ((r.2.eraseIdx kx++[y]).map V.int)):=by rw[List.map_append];exact h'
   have kk:∀ b o,b≠c→H2 b=some o→H' b=some o:=fun b o nb eb=>k' b o nb (by rw[a0h nb];exact s3 _ _ eb)
   have cf2:c∈f2:=by rw[ef2];exact .tail _ (.head _)
   have cf:c∈f:=by rw[ef0,ef];exact .tail _ (List.mem_append_right _ (.tail _ (List.mem_append_right _ (List.mem_append_left _ cf2))))
   have nf2:f2.Nodup:=by
    have n1:=(List.nodup_cons.mp (nd2.mp (List.nodup_cons.mp nd').2).2.1).2
    rw[ef] at n1
    exact(nd3.mp n1).2.1
   rw[ef2] at nf2
   have tc:t≠c:=fun u=>(List.nodup_cons.mp nf2).1 (by rw[u];exact .head _)
   refine⟨so',ys',os',(p.1,p.2.set ix (r.1,r.2.eraseIdx kx++[y])),_,_,_,_,rfl,kk _ _ (fun u=>h8 (u ▸ cf)) h1,b2y (fun b xs eb=>kk b _ (fun u=>by rw[u,hc] at eb;cases eb) eb) h2,h3,d9p ha hl tl hm nd' ev0 ef put cf2 kk ⟨_,.tup (kk _ _ tc ht) (TFs.cons (f:=[]) (.int _) (TFs.one (.lst hc' (TFs.ints _))))⟩,?_,fun u=>by omega⟩
   refine gp.setM hr rfl (by simp) ?_ fun u hu'=>?_
   ·show (r.2.eraseIdx kx++[y]).length≤100
    rw[List.length_append,List.length_eraseIdx,if_pos kl,List.length_singleton]
    omega
   ·rcases List.mem_append.mp hu' with u1 | u1
    ·exact List.mem_of_mem_eraseIdx u1
    ·rw[List.mem_singleton.mp u1]
     exact List.mem_of_getElem? ey
  rintro σ H2 iv6
  refine⟨e1e v p f o way z 7,?_,?_⟩
  ·have iv7:=iv6.up
   obtain⟨so',ys',os',p',x5,x6,x7,x8,rfl,h1,h2,h3,h4,h5,h6⟩:=iv6
   have ly:=a5n h2
   refine⟨_,rfl,rfl,_,rfl,b0n (fun e=>?_) (fun e=>b5k iv7)⟩
   have e3:way=6:=V.int.inj (of_decide_eq_true e)
   obtain⟨h7,h8,h9⟩:=h6 (by omega)
   refine⟨_,rfl,_,_,rfl,.inl ⟨_,SqL.of h1,rfl⟩,_,_,rfl,rfl,_,rfl,b0n (fun e2=>?_) (fun e2=>iv7)⟩
   have l1:(0:Int) < (ys'.length:Int):=of_decide_eq_true e2
   refine⟨_,rfl,_,rfl,_,_,rfl,.inl ⟨_,SqL.of h1,rfl⟩,_,_,rfl,rfl,l1,?_⟩
   have c0:=Int.emod_nonneg z (show (ys'.length:Int)≠0 by omega)
   have c1:=Int.emod_lt_of_pos z l1
   obtain⟨y0,ey0,ay0⟩:=e6d (xs:=ys') (i:=(z%((ys'.length:Nat):Int))) c0 c1
   obtain⟨n0,_,d0⟩:=a1w h2 ey0
   obtain⟨osA,cA,kA,kAb,_⟩:=b9z h2 none (some (z%((ys'.length:Nat):Int)))
   obtain⟨osB,cB,kB,_,kBc⟩:=b9z h2 (some ((z%((ys'.length:Nat):Int))+1)) none
   obtain⟨osC,cC,kC,_,kCc⟩:=b9z h2 (some (z%((ys'.length:Nat):Int))) none
   have kAd:=kAb _ c0 rfl rfl
   have kBd:=kBc _ (by omega) (by omega) rfl
   have kCd:=kCc _ c0 (by omega) rfl
   have lA:=a5s ys' none (some (z%((ys'.length:Nat):Int)))
   have lB:=a5s ys' (some ((z%((ys'.length:Nat):Int))+1)) none
   have lC:=a5s ys' (some (z%((ys'.length:Nat):Int))) none
   refine⟨_,rfl,_,rfl,_,rfl,so',ys',rfl,SqL.of h1,fun p1 hp1=>?_⟩
   have u1:=Same.upd (o:=HO.lst (a7o ys' none (some (z%((ys'.length:Nat):Int))))) hp1
   refine⟨_,rfl,_,rfl,_,_,rfl,rfl,_,rfl,so',ys',rfl,SqL.of (u1 _ _ h1),fun p2 hp2=>?_⟩
   have u2:=Same.upd (o:=HO.lst (a7o ys' (some ((z%((ys'.length:Nat):Int))+1)) none)) hp2
   refine⟨p1,p2,_,_,rfl,rfl,u2 _ _ a0b,a0b,(by omega),fun p3 hp3=>?_⟩
   have u3:=Same.upd (o:=HO.lst (a7o ys' none (some (z%((ys'.length:Nat):Int)))++a7o ys' (some ((z%((ys'.length:Nat):Int))+1)) none)) hp3
   have w3:=(u1.trans u2).trans u3
   have a3:upd (upd (upd H2 p1 (.lst (a7o ys' none (some (z%((ys'.length:Nat):Int)))))) p2 (.lst (a7o ys' (some ((z%((ys'.length:Nat):Int))+1)) none))) p3 (.lst (a7o ys' none (some (z%((ys'.length:Nat):Int)))++a7o ys' (some ((z%((ys'.length:Nat):Int))+1)) none)) p3=some (.lst (a7o ys' none (some (z%((ys'.length:Nat):Int)))++a7o ys' (some ((z%((ys'.length:Nat):Int))+1)) none)):=a0b
   generalize upd (upd (upd H2 p1 (.lst (a7o ys' none (some (z%((ys'.length:Nat):Int)))))) p2 (.lst (a7o ys' (some ((z%((ys'.length:Nat):Int))+1)) none))) p3 (.lst (a7o ys' none (some (z%((ys'.length:Nat):Int)))++a7o ys' (some ((z%((ys'.length:Nat):Int))+1)) none))=G3 at *
   refine⟨_,rfl,_,rfl,_,rfl,so',_,_,_,rfl,rfl,SqL.of (w3 _ _ h1),ay0,(by show 1≤sizeLine;decide),fun p4 hp4=>?_⟩
   have u4:=Same.upd (o:=HO.lst [y0]) hp4
   refine⟨so',p4,_,_,rfl,rfl,u4 _ _ (w3 _ _ h1),a0b,(by show _+1≤sizeLine;omega),fun p5 hp5=>?_⟩
   have u5:=Same.upd (o:=HO.lst (ys'++[y0])) hp5
   have w45:=u4.trans u5
   have a5:upd (upd G3 p4 (.lst [y0])) p5 (.lst (ys'++[y0])) p5=some (.lst (ys'++[y0])):=a0b
   generalize upd (upd G3 p4 (.lst [y0])) p5 (.lst (ys'++[y0]))=G5 at *
   have w5:=w3.trans w45
   refine⟨_,rfl,_,rfl,_,rfl,so',ys',rfl,SqL.of (w5 _ _ h1),fun p6 hp6=>?_⟩
   have u6:=Same.upd (o:=HO.lst (a7o ys' (some (z%((ys'.length:Nat):Int))) none)) hp6
   refine⟨_,rfl,_,rfl,_,rfl,so',ys',rfl,SqL.of (u6 _ _ (w5 _ _ h1)),fun p7 hp7=>?_⟩
   have u7:=Same.upd (o:=HO.lst (a7o ys' none (some (z%((ys'.length:Nat):Int))))) hp7
   refine⟨p6,p7,_,_,rfl,rfl,u7 _ _ a0b,a0b,(by omega),fun p8 hp8=>?_⟩
   have u8:=Same.upd (o:=HO.lst (a7o ys' (some (z%((ys'.length:Nat):Int))) none++a7o ys' none (some (z%((ys'.length:Nat):Int))))) hp8
   have w68:=(u6.trans u7).trans u8
   have a8:upd (upd (upd G5 p6 (.lst (a7o ys' (some (z%((ys'.length:Nat):Int))) none))) p7 (.lst (a7o ys' none (some (z%((ys'.length:Nat):Int)))))) p8 (.lst (a7o ys' (some (z%((ys'.length:Nat):Int))) none++a7o ys' none (some (z%((ys'.length:Nat):Int))))) p8=some (.lst (a7o ys' (some (z%((ys'.length:Nat):Int))) none++a7o ys' none (some (z%((ys'.length:Nat):Int))))):=a0b
   generalize upd (upd (upd G5 p6 (.lst (a7o ys' (some (z%((ys'.length:Nat):Int))) none))) p7 (.lst (a7o ys' none (some (z%((ys'.length:Nat):Int)))))) p8 (.lst (a7o ys' (some (z%((ys'.length:Nat):Int))) none++a7o ys' none (some (z%((ys'.length:Nat):Int)))))=G8 at *
   have w8:=w5.trans w68
   refine⟨(by show 3≤sizeLine;decide),fun p9 hp9=>?_⟩
   have u9:=Same.upd (o:=HO.lst [.ref p3,.ref p5,.ref p8]) hp9
   have a9:upd G8 p9 (.lst [.ref p3,.ref p5,.ref p8]) p9=some (.lst [.ref p3,.ref p5,.ref p8]):=a0b
   have n3:p3≠p9:=fun y=>by rw[y] at a3;rw[(w45.trans w68) _ _ a3] at hp9;cases hp9
   have n5:p5≠p9:=fun y=>by rw[y] at a5;rw[w68 _ _ a5] at hp9;cases hp9
   have n8:p8≠p9:=fun y=>by rw[y] at a8;rw[a8] at hp9;cases hp9
   generalize upd G8 p9 (.lst [.ref p3,.ref p5,.ref p8])=G9 at *
   have w9:=w8.trans u9
   refine⟨_,rfl,.inl ⟨rfl,_,SqL.of a9⟩,_,rfl,_,rfl,_,rfl,so',ys',rfl,SqL.of (w9 _ _ h1),fun q1 hq1=>?_⟩
   have v1:=Same.upd (o:=HO.lst (a7o ys' none (some (z%((ys'.length:Nat):Int))))) hq1
   refine⟨_,rfl,_,_,rfl,rfl,⟨by decide,by decide⟩,_,_,rfl,rfl,(by show (0:Int) < 9;decide),_,_,rfl,rfl,_,rfl,_,_,rfl,rfl,⟨by decide,by decide⟩,_,_,rfl,rfl,(by show (0:Int) < 7;decide),_,_,rfl,rfl,(by show 2≤sizeLine;decide),fun q2 hq2=>⟨(by show 1≤sizeLine;decide),fun q3 hq3=>?_⟩⟩
   have v2:=Same.upd (o:=HO.tup [.int (z / 77%9+1),.int (z / 5%7 - 3)]) hq2
   have v3:=Same.upd (o:=HO.lst [.ref q2]) hq3
   refine⟨q1,q3,_,_,rfl,rfl,v3 _ _ (v2 _ _ a0b),a0b,(by show _+1≤sizeLine;omega),fun q4 hq4=>?_⟩
   have v4:=Same.upd (o:=HO.lst (a7o ys' none (some (z%((ys'.length:Nat):Int)))++[.ref q2])) hq4
   have v14:=((v1.trans v2).trans v3).trans v4
   refine⟨_,rfl,_,rfl,_,rfl,so',ys',rfl,SqL.of (v14 _ _ (w9 _ _ h1)),fun q5 hq5=>?_⟩
   have v5:=Same.upd (o:=HO.lst (a7o ys' (some (z%((ys'.length:Nat):Int))) none)) hq5
   refine⟨q4,q5,_,_,rfl,rfl,v5 _ _ a0b,a0b,(by rw[List.length_append];show _+1+_≤sizeLine;omega),fun q6 hq6=>?_⟩
   have v6:=Same.upd (o:=HO.lst ((a7o ys' none (some (z%((ys'.length:Nat):Int)))++[.ref q2])++a7o ys' (some (z%((ys'.length:Nat):Int))) none)) hq6
   have v16:=(v14.trans v5).trans v6
   have nq6:q6≠p9:=fun y=>by rw[y,(v14.trans v5) _ _ a9] at hq6;cases hq6
   have hq2':=((v3.trans v4).trans (v5.trans v6)) q2 _ a0b
   refine⟨p9,_,_,rfl,rfl,v16 _ _ a9,(by show 3 < sizeLine;decide),fun H' h' k'=>?_⟩
   have aq6:=k' q6 _ nq6 a0b
   have kk:∀ b x,b≠p9→G9 b=some x→H' b=some x:=fun b x nb eb=>k' b x nb (v16 _ _ eb)
   have kt:∀ b xs,H2 b=some (.tup xs)→H' b=some (.tup xs):=fun b xs eb=>kk b _ (fun y=>by have:=w9 _ _ eb;rw[y,a9] at this;cases this) (w9 _ _ eb)
   have hq2'':=k' q2 _ (fun y=>by rw[y,v1 _ _ a9] at hq2;cases hq2) hq2'
   have so9:so'≠p9:=fun y=>by have:=w8 _ _ h1;rw[y,hp9] at this;cases this
   have tr':Tr H' v (a3r p'):=(h7.fr fun b hb x eb=>kk b x (fun y=>by
    have e1:=w8 _ _ eb
    rw[y,hp9] at e1;cases e1) (w9 _ _ eb)).tr |> fun _=>by
     exact h4.same (fun b x eb=>kk b x (fun y=>by
      have e1:=w8 _ _ eb
      rw[y,hp9] at e1;cases e1) (w9 _ _ eb))
   refine⟨_,rfl,_,rfl,_,_,rfl,rfl,⟨by decide,by decide⟩,_,_,rfl,rfl,(by show (0:Int) < 4;decide),?_⟩
   have h4':z / 33%4=0∨z / 33%4=1∨z / 33%4=2∨z / 33%4=3:=by omega
   have dn:∀ {y:V} {n:Nk},NdV H2 y n→NdV H' y n:=fun h=>e8l kt h
   rcases h4' with e4 | e4 | e4 | e4
   ·exact⟨p9,_,_,.ref p3,rfl,rfl,SqL.of h',a1f 0 e4 rfl,p3,_,osA++osB,p',_,_,_,_,rfl,kk _ _ n3 (u9 _ _ ((w45.trans w68) _ _ a3)),a1t (b2y kt cA) (b2y kt cB),by rw[List.length_append];omega,tr',h5,fun y=>by omega⟩
   ·exact⟨p9,_,_,.ref p5,rfl,rfl,SqL.of h',a1f 1 e4 rfl,p5,_,os'++[n0],p',_,_,_,_,rfl,kk _ _ n5 (u9 _ _ (w68 _ _ a5)),a1t (b2y kt h2) (.cons (dn d0) .nil),by rw[List.length_append];show _+1≤40;omega,tr',h5,fun y=>by omega⟩
   ·exact⟨p9,_,_,.ref p8,rfl,rfl,SqL.of h',a1f 2 e4 rfl,p8,_,osC++osA,p',_,_,_,_,rfl,kk _ _ n8 (u9 _ _ a8),a1t (b2y kt cC) (b2y kt cA),by rw[List.length_append];omega,tr',h5,fun y=>by omega⟩
   ·exact⟨p9,_,_,.ref q6,rfl,rfl,SqL.of h',a1f 3 e4 rfl,q6,_,(osA++[(z / 77%9+1,z / 5%7 - 3)])++osC,p',_,_,_,_,rfl,aq6,a1t (a1t (b2y kt cA) (.cons ⟨q2,rfl,hq2''⟩ .nil)) (b2y kt cC),by rw[List.length_append,List.length_append];show _+1+_≤40;omega,tr',h5,fun y=>by omega⟩
  rintro σ H2 iv7
  refine⟨e1e v p f o way z 8,?_,?_⟩
  ·have iv8:=iv7.up
   obtain⟨so',ys',os',p',x5,x6,x7,x8,rfl,h1,h2,h3,h4,h5,h6⟩:=iv7
   refine⟨_,rfl,rfl,_,rfl,b0n (fun e=>?_) (fun e=>b5k iv8)⟩
   have e3:way=7:=V.int.inj (of_decide_eq_true e)
   obtain⟨h7,h8,h9⟩:=h6 (by omega)
   obtain⟨a,l,m,lv,mv,fl,fm,rfl,ef0,ha,hl,tl,hm,tm⟩:=b5r h7
   have nd':=nd
   rw[ef0] at nd'
   have llv:lv.length=p.1.length:=by rw[tl.len,List.length_map]
   refine⟨_,rfl,a,_,_,_,rfl,rfl,SqT.of ha,a0k (j:=0) rfl,(by show 0≤sizeLine;decide),fun el hel=>?_⟩
   have s3:=Same.upd (o:=HO.lst []) hel
   refine⟨.list (p.1.map a2h),.list [],.lst (SqL.of (s3 _ _ hl)) (tl.trs.same s3).dts,.lst (SqL.of a0b) .nil,c8u (fun d hd=>(gp.good.2.2 d hd).1),rfl,_,rfl,?_⟩
   rw[c2m]
   by_cases hne:p.1=[]
   ·rw[decide_eq_true hne]
    exact b5k ⟨so',ys',os',p',_,_,_,_,rfl,s3 _ _ h1,a5l s3 h2,h3,h4.same s3,h5,fun y=>by omega⟩
   rw[decide_eq_false hne]
   refine c7i ?_
   have n0:0 < lv.length:=by rw[llv];exact List.length_pos_iff.mpr hne
   obtain⟨hi,v0,ev0,av0⟩:=d1i (xs:=lv) z rfl n0
   have ixm:=e8n (n:=lv.length) z n0
   generalize (z%((lv.length:Nat):Int)).toNat=ix at hi ev0 ixm
   obtain⟨d,hd⟩:∃ d,p.1[ix]?=some d:=⟨_,List.getElem?_eq_getElem (by omega)⟩
   obtain⟨x,f1,f2,f3,ex,ef,tx,put⟩:=tl.focus (i:=ix) (d:=a2h d) (by rw[List.getElem?_map,hd];rfl)
   rw[ev0] at ex
   cases ex
   obtain⟨t,L,lkv,g,rfl,ef2,ht,hL,tL⟩:=c2h tx
   refine⟨_,rfl,_,rfl,a,_,_,_,rfl,rfl,SqT.of (s3 _ _ ha),a0k (j:=0) rfl,_,_,rfl,.inl ⟨_,SqL.of (s3 _ _ hl),rfl⟩,_,_,rfl,rfl,(by omega),?_⟩
   refine⟨(by show 5≤sizeLine;decide),fun w5 hw5=>?_⟩
   have s5:=Same.upd (o:=HO.lst [.str "loose",.str "kept",.str "make",.str "watch",.str "hold"]) hw5
   have s35:=s3.trans s5
   obtain⟨x,hx,ax⟩:∃ x∈wds,atI [V.str "loose",.str "kept",.str "make",.str "watch",.str "hold"] (z / 9%5)=some (.str x):=by
    have h5':z / 9%5=0∨z / 9%5=1∨z / 9%5=2∨z / 9%5=3∨z / 9%5=4:=by omega
    rcases h5' with e | e | e | e | e
    ·exact⟨_,by decide +kernel,a1f 0 e rfl⟩
    ·exact⟨_,by decide +kernel,a1f 1 e rfl⟩
    ·exact⟨_,by decide +kernel,a1f 2 e rfl⟩
    ·exact⟨_,by decide +kernel,a1f 3 e rfl⟩
    ·exact⟨_,by decide +kernel,a1f 4 e rfl⟩
   refine⟨_,rfl,_,_,rfl,rfl,⟨by decide,by decide⟩,_,_,rfl,rfl,(by show (0:Int) < 5;decide),w5,_,_,_,rfl,rfl,SqL.of a0b,ax,?_⟩
   refine⟨_,rfl,a,_,_,_,rfl,rfl,SqT.of (s35 _ _ ha),a0k (j:=0) rfl,_,rfl,l,_,_,_,rfl,rfl,SqL.of (s35 _ _ hl),av0,t,_,_,_,rfl,rfl,SqT.of (s35 _ _ ht),a0k (j:=0) rfl,_,rfl,_,rfl,a,_,_,_,rfl,rfl,SqT.of (s35 _ _ ha),a0k (j:=0) rfl,_,rfl,l,_,_,_,rfl,rfl,SqL.of (s35 _ _ hl),av0,t,_,_,_,rfl,rfl,SqT.of (s35 _ _ ht),a0k (j:=2) rfl,(by show 3≤sizeLine;decide),fun np hnp=>?_⟩
   have s6:=Same.upd (o:=HO.tup [.int d.1,.str x,.ref L]) hnp
   have s36:=s35.trans s6
   refine⟨_,rfl,a,_,_,_,rfl,rfl,SqT.of (s36 _ _ ha),a0k (j:=0) rfl,_,rfl,l,lv,_,ix,rfl,rfl,s36 _ _ hl,ixm,fun H' h' k'=>?_⟩
   have kk:∀ b o,b≠l→H2 b=some o→H' b=some o:=fun b o nb eb=>k' b o nb (s36 _ _ eb)
   obtain⟨n1,n2⟩:=List.nodup_cons.mp nd'
   obtain⟨n6,n7⟩:=List.nodup_cons.mp (nd2.mp n2).1
   have inl':∀ b∈f2,b≠l:=fun b hb y=>n6 (by rw[←y,ef];exact List.mem_append_right _ (List.mem_append_left _ hb))
   have npl:np≠l:=fun y=>by rw[y,s35 _ _ hl] at hnp;cases hnp
   have lf:l∈f:=by rw[ef0];exact .tail _ (List.mem_append_left _ (.head _))
   have tnew:TF H' (.ref np) (a2h (d.1,x,d.2.2)) (np::L::g):=.tup (k' _ _ npl a0b) (TFs.cons (f:=[]) (.int _) (TFs.cons (f:=[]) (.str _) (TFs.one (.lst (kk _ _ (inl' L (by rw[ef2];exact .tail _ (.head _))) hL) (tL.fr fun b hb o eb=>kk b o (inl' b (by rw[ef2];exact .tail _ (.tail _ hb))) eb)))))
   refine⟨so',ys',os',(p.1.set ix (d.1,x,d.2.2),p.2),_,_,_,_,rfl,kk _ _ (fun y=>h8 (y ▸ lf)) h1,b2y (fun b xs eb=>kk b _ (fun y=>by rw[y,hl] at eb;cases eb) eb) h2,h3,d7a (k:=l) ha hl tl hm tm nd' hd h' kk ⟨_,tnew⟩,?_,fun y=>by omega⟩
   have hdm:=List.mem_of_getElem? hd
   exact gp.setD hd rfl hx (gp.good.2.2 d hdm).2 (gp.looks d hdm)
  rintro σ H2 ⟨so',ys',os',p',x5,x6,x7,x8,rfl,h1,h2,h3,h4,h5,h6⟩
  exact⟨_,rfl,q so' H2 ys' os' p' h1 h2 h3 h4 h5⟩
--@STAGE
theorem c6j {H:Hp}:∀ {ys:List V} {os:List Pr},Trs H ys (os.map b3h)→Nds H ys os
 | _,[],h=>by cases h;exact .nil
 | _,x::r,h=>by
  cases h with
  | cons h t =>
   obtain⟨a,e,ha⟩:=b8t h
   exact .cons ⟨a,e,ha⟩ (c6j t)
theorem GP.gm {p:Ps} (g:GP p):d3d p:=⟨by have:=g.many;omega,fun r hr=>by have:=(g.makes r hr).2;omega,fun d hd l hl=>by have:=g.looks d hd l hl;omega⟩
theorem d9n {p:Ps} (h:∀ d∈p.1,d.2.1∈wds) (os:List Nk):(PyData.list [a3r p,.list (os.map dN)]).canLay0=true∧SeqAt.shaped (.list [a3r p,.list (os.map dN)])=true:=by
 obtain⟨a1,a2,_⟩:=e0c h
 obtain⟨b1,b2⟩:=d9x os
 have c1:(PyData.list [a3r p,.list (os.map dN)]).canLay0=true:=by
  show ((a3r p).canLay0 && (PyData.canLayAll0 (os.map dN) && true))=true
  rw[a1,b1]
  rfl
 refine⟨c1,?_⟩
 unfold SeqAt.shaped
 rw[c1,decide_eq_true (by show max (a3r p).depth (max (PyData.depthAll (os.map dN)+1) 0)+1≤_;omega)]
 rfl
theorem d6s {a b:Bool} {P:Prop} (h1:a=true ↔ P) (h2:b=true ↔ P):a=b:=by
 rw[Bool.eq_iff_iff,h1,h2]
theorem d7d:c7x none ([],[]) []:=⟨.nil,rfl,rfl,rfl⟩
theorem d7e:¬ c7x none ([],[]) [(1,0)]:=fun h=>absurd h.1.length_eq (by simp)
theorem e1u:c5l ([],[])∧d3d ([],[])∧c9y ([],[])∧e6k ([],[]):=⟨⟨by decide,.nil,(fun d hd=>by cases hd)⟩,⟨by decide,(fun d hd=>by cases hd),(fun d hd=>by cases hd)⟩,.nil,(fun r hr=>by cases hr)⟩
theorem e8p (T:Tx K mg):a3y P w K mg base CX0 6 T.d9c T.d9h ["_law_script"] (d9j K):=by
 refine T.e6s.ok b4n (fun vs H Q E h=>?_) (fun cdv A outer s H vs Q E hr h=>?_)
 ·obtain⟨a,cs,rfl,_⟩:=h
  rfl
 ·obtain⟨a,cs,rfl,ha,hcs,hbits,q⟩:=h
  have hu:=a8v hr
  refine⟨_,(a0e (a0n (i:=1) b4n.nd rfl (Or.inl rfl) (a0l ((c1x T).mono (by decide)) hr rfl T.b3u T.a9y.kp T.b4i .nil a1m (a0a (pv 0) (a0a b2u a0d))))
   (a0e (a0n (i:=2) b4n.nd rfl (Or.inl rfl) (a0l ((c1q T).mono (by decide)) hr rfl T.b4h T.b0c.kp T.b5h .nil a1m (a0a (pv 0) (a0a (pv 1) a0d))))
   (a0e (a0n (i:=3) b4n.nd rfl (Or.inl rfl) (a0l ((e1q T).mono (by decide)) hr rfl T.d5s T.d1g.kp T.d6l .nil a1m (a0a (pv 0) (a0a (pv 1) (a0a (pv 2) a0d)))))
   (a0e (a0n (i:=4) b4n.nd rfl (Or.inl rfl) (a0l ((b1z T).mono (by decide)) hr rfl T.b3q T.b0q.kp T.b3m .nil a1m (a0a (pv 0) (a0a a0c a0d))))
   (a0e (a0n (i:=2) b4n.nd rfl (Or.inl rfl) (a0l ((c3u T).mono (by decide)) hr rfl T.b6q T.b0z.kp T.b6n .nil a1m (a0a (pv 3) (a0a (pv 2) (a0a (a0v a2e (a0l ((a2n T).mono (by decide)) hr rfl T.a3c T.a2v.kp T.a3i .nil a1m (a0a (pv 4) (a0a a0c a0d))) a0c) (a0a (a0l ((a2n T).mono (by decide)) hr rfl T.a3c T.a2v.kp T.a3i .nil a1m (a0a (pv 4) (a0a a0c a0d))) a0d))))))
   (a0e (a0n (i:=5) b4n.nd rfl (Or.inl rfl) (a0l ((e4v T).mono (by decide)) hr rfl T.e2p T.d5k.kp T.e3h .nil a1m (a0a (pv 3) (a0a (pv 2) (a0a b2u a0d)))))
   (a0e (a0n (i:=6) b4n.nd rfl (Or.inl rfl) (a1k (a0a (a0l ((d3i T).mono (by decide)) hr rfl T.c8r T.b8k.kp T.c7p .nil a1m (a0a (pv 3) a0d)) (a0a (a2y a7x (by rfl) T.b6t boot_list (a0a (pv 2) a0d)) a0d))))
   (a0e (a0n (i:=7) b4n.nd rfl (Or.inl rfl) (a0l ((b2j T).mono (by decide)) hr rfl T.b1k T.a8y.kp T.a8q (show a3e [V.non] [Value.none] from .cons rfl .nil) d6d (a0a (a0o a0w (pv 6) a0c (fun _ _=>rfl)) (a0a (a0o a0w (pv 6) a0c (fun _ _=>rfl)) a0d))))
   (a0e (a3n (PW.pt (d9f (c7l (b8u (a1b e1h (by rfl) T.a8e boot_isinstance (a0a (pv 7) (a0a (e4e (v:=V.ty "bool") rfl T.d2d boot_bool rfl) a0d))))) (d9f (a0t d3v (pv 7) (pv 5) (a0x _)) (d5p (a0t (c2k hr.units) (pv 6) (a1k (a0a (pv 3) (a0a (pv 2) a0d))) (a0x _))))))
   (a0g (a0s b2m))
   a1a)
   (a0e (a3n (a0t d3v (a0l ((b2j T).mono (by decide)) hr rfl T.b1k T.a8y.kp T.a8q (show a3e [V.non] [Value.none] from .cons rfl .nil) d6d (a0a (a0o a0w (pv 6) a0c (fun _ _=>rfl)) (a0a (a0o a0w (pv 6) a0c (fun _ _=>rfl)) a0d))) (pv 5) (a0x _))
   (a0g (a0s b2m))
   a1a)
   (a0g (a0s (e3f (a0l ((b2j T).mono (by decide)) hr rfl T.b1k T.a8y.kp T.a8q (show a3e [V.non] [Value.none] from .cons rfl .nil) d6d (a0a (a2f (a0a (a1k a0d) (a0a (a1k a0d) a0d))) (a0a (a1k a0d) a0d))) (e3d (e7j (a0l ((b2j T).mono (by decide)) hr rfl T.b1k T.a8y.kp T.a8q (show a3e [V.non] [Value.none] from .cons rfl .nil) d6d (a0a (a2f (a0a (a1k a0d) (a0a (a1k a0d) a0d))) (a0a (a1k (a0a (a2f (a0a a0c (a0a a0c a0d))) a0d)) a0d)))))))))))))))))),?_⟩
  refine⟨_,rfl,a,cs,.non,rfl,ha,.inl rfl,fun v1 H1 ds s1 t1 gd _=>?_⟩
  refine⟨_,rfl,_,rfl,a,cs,v1,ds,rfl,s1.seq ha,t1.same c4w,gd,fun v2 H2 os s2 t2 wk lo=>?_⟩
  have s12:=s1.trans s2
  refine⟨_,rfl,_,rfl,_,rfl,a,cs,v1,v2,ds,os,rfl,s12.seq ha,(t1.same c4w).same s2,t2.same c4w,gd,wk,(by omega),fun v3 H3 p f s3 tf nf ff gp=>?_⟩
  refine⟨_,rfl,a,cs,1,rfl,(s12.trans s3).seq ha,by decide,fun c=>?_⟩
  obtain⟨o,ys,rfl,ho,hn⟩:=a9j (t2.same c4w)
  have hn2:=c6j hn
  refine⟨_,rfl,_,rfl,_,rfl,c,30,rfl,_,_,rfl,rfl,(by show (0:Int) < 8;decide),_,rfl,c,31,rfl,v3,o,ys,os,p,f,c1l c 30%8,c1l c 31,rfl,tf,nf,gp,s3 _ _ ho,a5l s3 hn2,lo,fun so H4 ys' os' p' h4 n4 l4 t4 g4=>?_⟩
  have hw0:WdP none p':=fun d hd=>(g4.good.2.2 d hd).1
  have hdu:=e5y (w:=none) (os:=os') g4.rise hw0 g4.inm g4.nk
  refine⟨_,rfl,_,rfl,v3,so,p',none,ys',os',rfl,t4,g4.good,g4.gm,g4.inm,g4.nk,h4,n4,(by omega),fun H5 k5=>?_⟩
  have t5:=t4.kf k5
  have h5:=k5.lst h4
  have n5:=e6z k5 n4
  refine⟨_,rfl,v3,p',rfl,t5,g4.good.1,(fun d hd=>(g4.good.2.2 d hd).2),(by have:=g4.many;omega),fun u H6 s6 tu=>⟨_,rfl,so,ys',rfl,.inl (SqL.of (s6 _ _ h5)),fun lo7 hlo7=>⟨(by show 2≤sizeLine;decide),fun hd hhd=>?_⟩⟩⟩
  have s7:=Same.upd (o:=HO.lst ys') hlo7
  have s8:=Same.upd (o:=HO.lst [u,.ref lo7]) hhd
  have s78:=s7.trans s8
  have hlo8:=s8 lo7 _ a0b
  have hhd8:upd (upd H6 lo7 (.lst ys')) hd (.lst [u,.ref lo7]) hd=some (.lst [u,.ref lo7]):=a0b
  generalize upd (upd H6 lo7 (.lst ys')) hd (.lst [u,.ref lo7])=H8 at *
  have s58:=s6.trans s78
  have tu8:=tu.same s78
  have n8:=a5l s58 n5
  have fine0:∀ x,(none:Option Str)=some x→d4z x:=fun x e=>by cases e
  refine⟨_,rfl,hd,_,_,_,rfl,rfl,SqL.of hhd8,a0k (j:=0) rfl,_,rfl,hd,_,_,_,rfl,rfl,SqL.of hhd8,a0k (j:=1) rfl,u,lo7,p',none,ys',os',rfl,tu8,g4.good,g4.gm,g4.rise,g4.inm,hlo8,n8,(by omega),fine0,(fun _ b H9 s9 hb=>?_),(fun x e n=>by cases e)⟩
  have eb:b=e1j none p' os':=d6s hb hdu
  subst eb
  obtain⟨lb1,lb2⟩:=d9n (p:=p') (fun d hd=>(g4.good.2.2 d hd).1) os'
  refine⟨_,rfl,_,_,_,_,rfl,.bl _,e6w,true,rfl,b5k ?_⟩
  refine⟨_,rfl,_,rfl,rfl,_,rfl,?_⟩
  have e0:(!decide (V.bl (e1j none p' os')=V.bl (e1j none p' os')))=false:=by rw[decide_eq_true rfl];rfl
  rw[e0]
  refine b5k ?_
  refine⟨_,rfl,_,rfl,_,rfl,(by show 2≤sizeLine;decide),fun nl hnl=>?_⟩
  have s10:=Same.upd (o:=HO.lst [v3,.ref so]) hnl
  have s910:=s9.trans s10
  have s510:=s58.trans s910
  refine⟨.list [a3r p',.list (os'.map dN)],.list [a3r p',.list (os'.map dN)],.lst (SqL.of (s910 _ _ hhd8)) (.cons (tu8.same s910).dt (.cons (.lst (SqL.of (s910 _ _ hlo8)) (c0m (a5l s910 n8))) .nil)),.lst (SqL.of a0b) (.cons (t5.same s510).dt (.cons (.lst (SqL.of (s510 _ _ h5)) (c0m (a5l s510 n5))) .nil)),lb2,lb2,_,rfl,?_⟩
  rw[SeqAt.eqv_refl _ lb1]
  refine b5k ?_
  refine⟨_,rfl,hd,_,_,_,rfl,rfl,SqL.of (s910 _ _ hhd8),a0k (j:=0) rfl,_,rfl,hd,_,_,_,rfl,rfl,SqL.of (s910 _ _ hhd8),a0k (j:=1) rfl,u,lo7,p',none,ys',os',rfl,tu8.same s910,g4.good,g4.gm,g4.rise,g4.inm,s910 _ _ hlo8,a5l s910 n8,(by omega),fine0,(fun _ b H11 s11 hb2=>?_),(fun x e n=>by cases e)⟩
  have eb:b=e1j none p' os':=d6s hb2 hdu
  subst eb
  refine⟨_,rfl,rfl,_,rfl,?_⟩
  rw[e0]
  refine b5k ?_
  refine⟨(by show 0≤sizeLine;decide),fun x1 hx1=>⟨(by show 0≤sizeLine;decide),fun x2 hx2=>⟨(by show 2≤sizeLine;decide),fun x3 hx3=>⟨(by show 0≤sizeLine;decide),fun x4 hx4=>?_⟩⟩⟩⟩
  have m1:=Same.upd (o:=HO.lst []) hx1
  have m2:=Same.upd (o:=HO.lst []) hx2
  have m3:=Same.upd (o:=HO.tup [.ref x1,.ref x2]) hx3
  have m4:=Same.upd (o:=HO.lst []) hx4
  have tE:Tr (upd (upd (upd (upd H11 x1 (.lst [])) x2 (.lst [])) x3 (.tup [.ref x1,.ref x2])) x4 (.lst [])) (.ref x3) (a3r ([],[])):=.tup (m4 _ _ a0b) (.cons (.lst ((m2.trans (m3.trans m4)) _ _ a0b) .nil) (.cons (.lst ((m3.trans m4) _ _ a0b) .nil) .nil))
  obtain⟨gn1,gn2,gn3,gn4⟩:=e1u
  refine⟨.ref x3,x4,([],[]),none,[],[],rfl,tE,gn1,gn2,gn3,gn4,a0b,.nil,(by decide),fine0,(fun _ b H12 s12' hb3=>?_),(fun x e n=>by cases e)⟩
  have eb:b=true:=hb3.mpr d7d
  subst eb
  refine⟨true,rfl,c7i ?_⟩
  refine⟨(by show 0≤sizeLine;decide),fun y1 hy1=>⟨(by show 0≤sizeLine;decide),fun y2 hy2=>⟨(by show 2≤sizeLine;decide),fun y3 hy3=>⟨(by show 2≤sizeLine;decide),fun y5 hy5=>⟨(by show 1≤sizeLine;decide),fun y4 hy4=>?_⟩⟩⟩⟩⟩
  have m1:=Same.upd (o:=HO.lst []) hy1
  have m2:=Same.upd (o:=HO.lst []) hy2
  have m3:=Same.upd (o:=HO.tup [.ref y1,.ref y2]) hy3
  have m5:=Same.upd (o:=HO.tup [.int 1,.int 0]) hy5
  have m4:=Same.upd (o:=HO.lst [.ref y5]) hy4
  have tE2:Tr (upd (upd (upd (upd (upd H12 y1 (.lst [])) y2 (.lst [])) y3 (.tup [.ref y1,.ref y2])) y5 (.tup [.int 1,.int 0])) y4 (.lst [.ref y5])) (.ref y3) (a3r ([],[])):=.tup ((m5.trans m4) _ _ a0b) (.cons (.lst ((m2.trans (m3.trans (m5.trans m4))) _ _ a0b) .nil) (.cons (.lst ((m3.trans (m5.trans m4)) _ _ a0b) .nil) .nil))
  refine⟨.ref y3,y4,([],[]),none,[.ref y5],[(1,0)],rfl,tE2,gn1,gn2,gn3,gn4,a0b,.cons ⟨y5,rfl,m4 _ _ a0b⟩ .nil,(by decide),fine0,(fun _ b H13 s13 hb4=>?_),(fun x e n=>by cases e)⟩
  have eb:b=false:=by
   cases b with
   | false=>rfl
   | true=>exact absurd (hb4.mp rfl) d7e
  subst eb
  exact⟨false,rfl,q H13⟩
end
abbrev fnS (a b:Str) (t:Stmt):=PySem.W.fnOf a b (a0p t) (a0m t) (a0f t) .none
open PySem.W in
theorem all_mk {l:OpenLaw} {w:World} {K:Frag} {h:Heap} {mg:Str→Option Value} {fa:Addr} (X:K.In h) (G:h.Ns mainGlobals mg) (hfa:mg "law"=some (.ref fa)) {f0 f1 f2 f3 f4 f5 f6 f7 f8 f9 f10 f11 f12 f13 f14 f15 f16 f17 f18 f19 f20 f21 f22 f23 f24 f25 f26 f27 f28 f29 f30 f31 f32 f33 f34 f35 f36 f37 f38 f39 f40 f41 f42 f43 f44 f45 f46 f47 f48 f49:Addr} {od0 an0 od1 an1 od2 an2 od3 an3 od4 an4 od5 an5 od6 an6 od7 an7 od8 an8 od9 an9 od10 an10 od11 an11 od12 an12 od13 an13 od14 an14 od15 an15 od16 an16 od17 an17 od18 an18 od19 an19 od20 an20 od21 an21 od22 an22 od23 an23 od24 an24 od25 an25 od26 an26 od27 an27 od28 an28 od29 an29 od30 an30 od31 an31 od32 an32 od33 an33 od34 an34 od35 an35 od36 an36 od37 an37 od38 an38 od39 an39 od40 an40 od41 an41 od42 an42 od43 an43 od44 an44 od45 an45 od46 an46 od47 an47 od48 an48 od49 an49:Option Addr} {sl0 sl1 sl2 sl3 sl4 sl5 sl6 sl7 sl8 sl9 sl10 sl11 sl12 sl13 sl14 sl15 sl16 sl17 sl18 sl19 sl20 sl21 sl22 sl23 sl24 sl25 sl26 sl27 sl28 sl29 sl30 sl31 sl32 sl33 sl34 sl35 sl36 sl37 sl38 sl39 sl40 sl41 sl42 sl43 sl44 sl45 sl46 sl47 sl48 sl49:Array (Option Value)} {oc0 kV0 dc0 pm0 cd0 ct0 oc1 kV1 dc1 pm1 cd1 ct1 oc2 kV2 dc2 pm2 cd2 ct2 oc3 kV3 dc3 pm3 cd3 ct3 oc4 kV4 dc4 pm4 cd4 ct4 oc5 kV5 dc5 pm5 cd5 ct5 oc6 kV6 dc6 pm6 cd6 ct6 oc7 kV7 dc7 pm7 cd7 ct7 oc8 kV8 dc8 pm8 cd8 ct8 oc9 kV9 dc9 pm9 cd9 ct9 oc10 kV10 dc10 pm10 cd10 ct10 oc11 kV11 dc11 pm11 cd11 ct11 oc12 kV12 dc12 pm12 cd12 ct12 oc13 kV13 dc13 pm13 cd13 ct13 oc14 kV14 dc14 pm14 cd14 ct14 oc15 kV15 dc15 pm15 cd15 ct15 oc16 kV16 dc16 pm16 cd16 ct16 oc17 kV17 dc17 pm17 cd17 ct17 oc18 kV18 dc18 pm18 cd18 ct18 oc19 kV19 dc19 pm19 cd19 ct19 oc20 kV20 dc20 pm20 cd20 ct20 oc21 kV21 dc21 pm21 cd21 ct21 oc22 kV22 dc22 pm22 cd22 ct22 oc23 kV23 dc23 pm23 cd23 ct23 oc24 kV24 dc24 pm24 cd24 ct24 oc25 kV25 dc25 pm25 cd25 ct25 oc26 kV26 dc26 pm26 cd26 ct26 oc27 kV27 dc27 pm27 cd27 ct27 oc28 kV28 dc28 pm28 cd28 ct28 oc29 kV29 dc29 pm29 cd29 ct29 oc30 kV30 dc30 pm30 cd30 ct30 oc31 kV31 dc31 pm31 cd31 ct31 oc32 kV32 dc32 pm32 cd32 ct32 oc33 kV33 dc33 pm33 cd33 ct33 oc34 kV34 dc34 pm34 cd34 ct34 oc35 kV35 dc35 pm35 cd35 ct35 oc36 kV36 dc36 pm36 cd36 ct36 oc37 kV37 dc37 pm37 cd37 ct37 oc38 kV38 dc38 pm38 cd38 ct38 oc39 kV39 dc39 pm39 cd39 ct39 oc40 kV40 dc40 pm40 cd40 ct40 oc41 kV41 dc41 pm41 cd41 ct41 oc42 kV42 dc42 pm42 cd42 ct42 oc43 kV43 dc43 pm43 cd43 ct43 oc44 kV44 dc44 pm44 cd44 ct44 oc45 kV45 dc45 pm45 cd45 ct45 oc46 kV46 dc46 pm46 cd46 ct46 oc47 kV47 dc47 pm47 cd47 ct47 oc48 kV48 dc48 pm48 cd48 ct48 oc49 kV49 dc49 pm49 cd49 ct49:Value}
  {ec0:Addr} (e0:nsIn K mainGlobals "SkewError"=some (some (.ref ec0)))
  {ec1:Addr} (e1:nsIn K mainGlobals "NoLevel"=some (some (.ref ec1)))
  {ec2:Addr} (e2:nsIn K mainGlobals "Loose"=some (some (.ref ec2)))
  {ec3:Addr} (e3:nsIn K mainGlobals "Kept"=some (some (.ref ec3)))
  {ec4:Addr} (e4:nsIn K mainGlobals "Make"=some (some (.ref ec4)))
  {ec5:Addr} (e5:nsIn K mainGlobals "Watch"=some (some (.ref ec5)))
  {ec6:Addr} (e6:nsIn K mainGlobals "Hold"=some (some (.ref ec6)))
  (a0:findIn K (.ref ec2) "word"=some (some (.ref f0))) (l0:K.lookup f0=some ⟨oc0,od0,.func (Lw.fnS "word" "Loose.word" a4n kV0 dc0 pm0 an0 cd0 ct0),sl0⟩) (c0:codeIn K cd0 "Loose.word"=true) (k0:keepIn K (.ref f0)=true)
  (a1:findIn K (.ref ec2) "spots"=some (some (.ref f1))) (l1:K.lookup f1=some ⟨oc1,od1,.func (Lw.fnS "spots" "Loose.spots" a3v kV1 dc1 pm1 an1 cd1 ct1),sl1⟩) (c1:codeIn K cd1 "Loose.spots"=true) (k1:keepIn K (.ref f1)=true)
  (a2:findIn K (.ref ec2) "look_spot"=some (some (.ref f2))) (l2:K.lookup f2=some ⟨oc2,od2,.func (Lw.fnS "look_spot" "Loose.look_spot" a2c kV2 dc2 pm2 an2 cd2 ct2),sl2⟩) (c2:codeIn K cd2 "Loose.look_spot"=true) (k2:keepIn K (.ref f2)=true)
  (a3:findIn K (.ref ec2) "first_spot"=some (some (.ref f3))) (l3:K.lookup f3=some ⟨oc3,od3,.func (Lw.fnS "first_spot" "Loose.first_spot" a1s kV3 dc3 pm3 an3 cd3 ct3),sl3⟩) (c3:codeIn K cd3 "Loose.first_spot"=true) (k3:keepIn K (.ref f3)=true)
  (a4:findIn K (.ref ec3) "word"=some (some (.ref f4))) (l4:K.lookup f4=some ⟨oc4,od4,.func (Lw.fnS "word" "Kept.word" a5q kV4 dc4 pm4 an4 cd4 ct4),sl4⟩) (c4:codeIn K cd4 "Kept.word"=true) (k4:keepIn K (.ref f4)=true)
  (a5:findIn K (.ref ec3) "spots"=some (some (.ref f5))) (l5:K.lookup f5=some ⟨oc5,od5,.func (Lw.fnS "spots" "Kept.spots" a4l kV5 dc5 pm5 an5 cd5 ct5),sl5⟩) (c5:codeIn K cd5 "Kept.spots"=true) (k5:keepIn K (.ref f5)=true)
  (a6:findIn K (.ref ec3) "look_spot"=some (some (.ref f6))) (l6:K.lookup f6=some ⟨oc6,od6,.func (Lw.fnS "look_spot" "Kept.look_spot" a2q kV6 dc6 pm6 an6 cd6 ct6),sl6⟩) (c6:codeIn K cd6 "Kept.look_spot"=true) (k6:keepIn K (.ref f6)=true)
  (a7:findIn K (.ref ec3) "first_spot"=some (some (.ref f7))) (l7:K.lookup f7=some ⟨oc7,od7,.func (Lw.fnS "first_spot" "Kept.first_spot" a1x kV7 dc7 pm7 an7 cd7 ct7),sl7⟩) (c7:codeIn K cd7 "Kept.first_spot"=true) (k7:keepIn K (.ref f7)=true)
  (a8:findIn K (.ref ec4) "word"=some (some (.ref f8))) (l8:K.lookup f8=some ⟨oc8,od8,.func (Lw.fnS "word" "Make.word" a5r kV8 dc8 pm8 an8 cd8 ct8),sl8⟩) (c8:codeIn K cd8 "Make.word"=true) (k8:keepIn K (.ref f8)=true)
  (a9:findIn K (.ref ec4) "spots"=some (some (.ref f9))) (l9:K.lookup f9=some ⟨oc9,od9,.func (Lw.fnS "spots" "Make.spots" a4p kV9 dc9 pm9 an9 cd9 ct9),sl9⟩) (c9:codeIn K cd9 "Make.spots"=true) (k9:keepIn K (.ref f9)=true)
  (a10:findIn K (.ref ec4) "look_spot"=some (some (.ref f10))) (l10:K.lookup f10=some ⟨oc10,od10,.func (Lw.fnS "look_spot" "Make.look_spot" a2r kV10 dc10 pm10 an10 cd10 ct10),sl10⟩) (c10:codeIn K cd10 "Make.look_spot"=true) (k10:keepIn K (.ref f10)=true)
  (a11:findIn K (.ref ec4) "first_spot"=some (some (.ref f11))) (l11:K.lookup f11=some ⟨oc11,od11,.func (Lw.fnS "first_spot" "Make.first_spot" a2b kV11 dc11 pm11 an11 cd11 ct11),sl11⟩) (c11:codeIn K cd11 "Make.first_spot"=true) (k11:keepIn K (.ref f11)=true)
  (a12:findIn K (.ref ec5) "word"=some (some (.ref f12))) (l12:K.lookup f12=some ⟨oc12,od12,.func (Lw.fnS "word" "Watch.word" a4m kV12 dc12 pm12 an12 cd12 ct12),sl12⟩) (c12:codeIn K cd12 "Watch.word"=true) (k12:keepIn K (.ref f12)=true)
  (a13:findIn K (.ref ec5) "spots"=some (some (.ref f13))) (l13:K.lookup f13=some ⟨oc13,od13,.func (Lw.fnS "spots" "Watch.spots" a3w kV13 dc13 pm13 an13 cd13 ct13),sl13⟩) (c13:codeIn K cd13 "Watch.spots"=true) (k13:keepIn K (.ref f13)=true)
  (a14:findIn K (.ref ec6) "word"=some (some (.ref f14))) (l14:K.lookup f14=some ⟨oc14,od14,.func (Lw.fnS "word" "Hold.word" a5o kV14 dc14 pm14 an14 cd14 ct14),sl14⟩) (c14:codeIn K cd14 "Hold.word"=true) (k14:keepIn K (.ref f14)=true)
  (a15:findIn K (.ref ec6) "spots"=some (some (.ref f15))) (l15:K.lookup f15=some ⟨oc15,od15,.func (Lw.fnS "spots" "Hold.spots" a4j kV15 dc15 pm15 an15 cd15 ct15),sl15⟩) (c15:codeIn K cd15 "Hold.spots"=true) (k15:keepIn K (.ref f15)=true)
  (a16:findIn K (.ref ec6) "look_spot"=some (some (.ref f16))) (l16:K.lookup f16=some ⟨oc16,od16,.func (Lw.fnS "look_spot" "Hold.look_spot" a2u kV16 dc16 pm16 an16 cd16 ct16),sl16⟩) (c16:codeIn K cd16 "Hold.look_spot"=true) (k16:keepIn K (.ref f16)=true)
  (a17:findIn K (.ref ec6) "first_spot"=some (some (.ref f17))) (l17:K.lookup f17=some ⟨oc17,od17,.func (Lw.fnS "first_spot" "Hold.first_spot" a1z kV17 dc17 pm17 an17 cd17 ct17),sl17⟩) (c17:codeIn K cd17 "Hold.first_spot"=true) (k17:keepIn K (.ref f17)=true)
  (a18:nsIn K mainGlobals "level_of"=some (some (.ref f18))) (l18:K.lookup f18=some ⟨oc18,od18,.func (Lw.fnS "level_of" "level_of" a7e kV18 dc18 pm18 an18 cd18 ct18),sl18⟩) (c18:codeIn K cd18 "level_of"=true) (k18:keepIn K (.ref f18)=true)
  (a19:nsIn K mainGlobals "levels_of"=some (some (.ref f19))) (l19:K.lookup f19=some ⟨oc19,od19,.func (Lw.fnS "levels_of" "levels_of" a5u kV19 dc19 pm19 an19 cd19 ct19),sl19⟩) (c19:codeIn K cd19 "levels_of"=true) (k19:keepIn K (.ref f19)=true)
  (a20:nsIn K mainGlobals "spots_of"=some (some (.ref f20))) (l20:K.lookup f20=some ⟨oc20,od20,.func (Lw.fnS "spots_of" "spots_of" a7d kV20 dc20 pm20 an20 cd20 ct20),sl20⟩) (c20:codeIn K cd20 "spots_of"=true) (k20:keepIn K (.ref f20)=true)
  (a21:nsIn K mainGlobals "keeps_of"=some (some (.ref f21))) (l21:K.lookup f21=some ⟨oc21,od21,.func (Lw.fnS "keeps_of" "keeps_of" a7f kV21 dc21 pm21 an21 cd21 ct21),sl21⟩) (c21:codeIn K cd21 "keeps_of"=true) (k21:keepIn K (.ref f21)=true)
  (a22:nsIn K mainGlobals "firsts_of"=some (some (.ref f22))) (l22:K.lookup f22=some ⟨oc22,od22,.func (Lw.fnS "firsts_of" "firsts_of" a5m kV22 dc22 pm22 an22 cd22 ct22),sl22⟩) (c22:codeIn K cd22 "firsts_of"=true) (k22:keepIn K (.ref f22)=true)
   {dt23:Addr} {f0f:Option Addr} {e9s:Array (Option Value)} {dn23:Nat}
  (a23:nsIn K mainGlobals "spots"=some (some (.ref f23))) (l23:K.lookup f23=some ⟨oc23,od23,.func (fnOf "spots" "spots" (a0p b5q) (a0m b5q) (a0f b5q) (.ref dt23) kV23 dc23 pm23 an23 cd23 ct23),sl23⟩) (c23:codeIn K cd23 "spots"=true) (k23:keepIn K (.ref f23)=true)
  (a24:nsIn K mainGlobals "comes_by_places"=some (some (.ref f24))) (l24:K.lookup f24=some ⟨oc24,od24,.func (Lw.fnS "comes_by_places" "comes_by_places" a2a kV24 dc24 pm24 an24 cd24 ct24),sl24⟩) (c24:codeIn K cd24 "comes_by_places"=true) (k24:keepIn K (.ref f24)=true)
  (a25:nsIn K mainGlobals "looks_at"=some (some (.ref f25))) (l25:K.lookup f25=some ⟨oc25,od25,.func (Lw.fnS "looks_at" "looks_at" a7a kV25 dc25 pm25 an25 cd25 ct25),sl25⟩) (c25:codeIn K cd25 "looks_at"=true) (k25:keepIn K (.ref f25)=true)
  (a26:nsIn K mainGlobals "finds"=some (some (.ref f26))) (l26:K.lookup f26=some ⟨oc26,od26,.func (Lw.fnS "finds" "finds" b3g kV26 dc26 pm26 an26 cd26 ct26),sl26⟩) (c26:codeIn K cd26 "finds"=true) (k26:keepIn K (.ref f26)=true)
  (a27:nsIn K mainGlobals "looks_find"=some (some (.ref f27))) (l27:K.lookup f27=some ⟨oc27,od27,.func (Lw.fnS "looks_find" "looks_find" a4k kV27 dc27 pm27 an27 cd27 ct27),sl27⟩) (c27:codeIn K cd27 "looks_find"=true) (k27:keepIn K (.ref f27)=true)
  (a28:nsIn K mainGlobals "makes_follow"=some (some (.ref f28))) (l28:K.lookup f28=some ⟨oc28,od28,.func (Lw.fnS "makes_follow" "makes_follow" a3d kV28 dc28 pm28 an28 cd28 ct28),sl28⟩) (c28:codeIn K cd28 "makes_follow"=true) (k28:keepIn K (.ref f28)=true)
   {dt29:Addr} {f0m:Option Addr} {f0g:Array (Option Value)} {dn29:Nat}
  (a29:nsIn K mainGlobals "allowed"=some (some (.ref f29))) (l29:K.lookup f29=some ⟨oc29,od29,.func (fnOf "allowed" "allowed" (a0p a8u) (a0m a8u) (a0f a8u) (.ref dt29) kV29 dc29 pm29 an29 cd29 ct29),sl29⟩) (c29:codeIn K cd29 "allowed"=true) (k29:keepIn K (.ref f29)=true)
  (a30:nsIn K mainGlobals "_law_mixed"=some (some (.ref f30))) (l30:K.lookup f30=some ⟨oc30,od30,.func (Lw.fnS "_law_mixed" "_law_mixed" a9z kV30 dc30 pm30 an30 cd30 ct30),sl30⟩) (c30:codeIn K cd30 "_law_mixed"=true) (k30:keepIn K (.ref f30)=true)
  (a31:nsIn K mainGlobals "_law_cell"=some (some (.ref f31))) (l31:K.lookup f31=some ⟨oc31,od31,.func (Lw.fnS "_law_cell" "_law_cell" b3b kV31 dc31 pm31 an31 cd31 ct31),sl31⟩) (c31:codeIn K cd31 "_law_cell"=true) (k31:keepIn K (.ref f31)=true)
  (a32:nsIn K mainGlobals "_law_spots"=some (some (.ref f32))) (l32:K.lookup f32=some ⟨oc32,od32,.func (Lw.fnS "_law_spots" "_law_spots" a9g kV32 dc32 pm32 an32 cd32 ct32),sl32⟩) (c32:codeIn K cd32 "_law_spots"=true) (k32:keepIn K (.ref f32)=true)
  (a33:nsIn K mainGlobals "_law_place"=some (some (.ref f33))) (l33:K.lookup f33=some ⟨oc33,od33,.func (Lw.fnS "_law_place" "_law_place" a9n kV33 dc33 pm33 an33 cd33 ct33),sl33⟩) (c33:codeIn K cd33 "_law_place"=true) (k33:keepIn K (.ref f33)=true)
  (a34:nsIn K mainGlobals "_law_first"=some (some (.ref f34))) (l34:K.lookup f34=some ⟨oc34,od34,.func (Lw.fnS "_law_first" "_law_first" a9s kV34 dc34 pm34 an34 cd34 ct34),sl34⟩) (c34:codeIn K cd34 "_law_first"=true) (k34:keepIn K (.ref f34)=true)
  (a35:nsIn K mainGlobals "_law_drawn_deals"=some (some (.ref f35))) (l35:K.lookup f35=some ⟨oc35,od35,.func (Lw.fnS "_law_drawn_deals" "_law_drawn_deals" a3f kV35 dc35 pm35 an35 cd35 ct35),sl35⟩) (c35:codeIn K cd35 "_law_drawn_deals"=true) (k35:keepIn K (.ref f35)=true)
  (a36:nsIn K mainGlobals "_law_drawn_order"=some (some (.ref f36))) (l36:K.lookup f36=some ⟨oc36,od36,.func (Lw.fnS "_law_drawn_order" "_law_drawn_order" a3h kV36 dc36 pm36 an36 cd36 ct36),sl36⟩) (c36:codeIn K cd36 "_law_drawn_order"=true) (k36:keepIn K (.ref f36)=true)
  (a37:nsIn K mainGlobals "_law_keys"=some (some (.ref f37))) (l37:K.lookup f37=some ⟨oc37,od37,.func (Lw.fnS "_law_keys" "_law_keys" b3l kV37 dc37 pm37 an37 cd37 ct37),sl37⟩) (c37:codeIn K cd37 "_law_keys"=true) (k37:keepIn K (.ref f37)=true)
  (a38:nsIn K mainGlobals "_law_look"=some (some (.ref f38))) (l38:K.lookup f38=some ⟨oc38,od38,.func (Lw.fnS "_law_look" "_law_look" b3f kV38 dc38 pm38 an38 cd38 ct38),sl38⟩) (c38:codeIn K cd38 "_law_look"=true) (k38:keepIn K (.ref f38)=true)
  (a39:nsIn K mainGlobals "_law_kept"=some (some (.ref f39))) (l39:K.lookup f39=some ⟨oc39,od39,.func (Lw.fnS "_law_kept" "_law_kept" b3c kV39 dc39 pm39 an39 cd39 ct39),sl39⟩) (c39:codeIn K cd39 "_law_kept"=true) (k39:keepIn K (.ref f39)=true)
  (a40:nsIn K mainGlobals "_law_past"=some (some (.ref f40))) (l40:K.lookup f40=some ⟨oc40,od40,.func (Lw.fnS "_law_past" "_law_past" b3d kV40 dc40 pm40 an40 cd40 ct40),sl40⟩) (c40:codeIn K cd40 "_law_past"=true) (k40:keepIn K (.ref f40)=true)
  (a41:nsIn K mainGlobals "_law_copied"=some (some (.ref f41))) (l41:K.lookup f41=some ⟨oc41,od41,.func (Lw.fnS "_law_copied" "_law_copied" a7i kV41 dc41 pm41 an41 cd41 ct41),sl41⟩) (c41:codeIn K cd41 "_law_copied"=true) (k41:keepIn K (.ref f41)=true)
  (a42:nsIn K mainGlobals "_law_ways"=some (some (.ref f42))) (l42:K.lookup f42=some ⟨oc42,od42,.func (Lw.fnS "_law_ways" "_law_ways" b3n kV42 dc42 pm42 an42 cd42 ct42),sl42⟩) (c42:codeIn K cd42 "_law_ways"=true) (k42:keepIn K (.ref f42)=true)
  (a43:nsIn K mainGlobals "_law_placed"=some (some (.ref f43))) (l43:K.lookup f43=some ⟨oc43,od43,.func (Lw.fnS "_law_placed" "_law_placed" a7g kV43 dc43 pm43 an43 cd43 ct43),sl43⟩) (c43:codeIn K cd43 "_law_placed"=true) (k43:keepIn K (.ref f43)=true)
  (a44:nsIn K mainGlobals "_law_makers_good"=some (some (.ref f44))) (l44:K.lookup f44=some ⟨oc44,od44,.func (Lw.fnS "_law_makers_good" "_law_makers_good" a3g kV44 dc44 pm44 an44 cd44 ct44),sl44⟩) (c44:codeIn K cd44 "_law_makers_good"=true) (k44:keepIn K (.ref f44)=true)
  (a45:nsIn K mainGlobals "_law_sees"=some (some (.ref f45))) (l45:K.lookup f45=some ⟨oc45,od45,.func (Lw.fnS "_law_sees" "_law_sees" b3p kV45 dc45 pm45 an45 cd45 ct45),sl45⟩) (c45:codeIn K cd45 "_law_sees"=true) (k45:keepIn K (.ref f45)=true)
  (a46:nsIn K mainGlobals "_law_due"=some (some (.ref f46))) (l46:K.lookup f46=some ⟨oc46,od46,.func (Lw.fnS "_law_due" "_law_due" c0b kV46 dc46 pm46 an46 cd46 ct46),sl46⟩) (c46:codeIn K cd46 "_law_due"=true) (k46:keepIn K (.ref f46)=true)
  (a47:nsIn K mainGlobals "_law_other_source"=some (some (.ref f47))) (l47:K.lookup f47=some ⟨oc47,od47,.func (Lw.fnS "_law_other_source" "_law_other_source" a2t kV47 dc47 pm47 an47 cd47 ct47),sl47⟩) (c47:codeIn K cd47 "_law_other_source"=true) (k47:keepIn K (.ref f47)=true)
  (a48:nsIn K mainGlobals "_law_otherwise"=some (some (.ref f48))) (l48:K.lookup f48=some ⟨oc48,od48,.func (Lw.fnS "_law_otherwise" "_law_otherwise" a3u kV48 dc48 pm48 an48 cd48 ct48),sl48⟩) (c48:codeIn K cd48 "_law_otherwise"=true) (k48:keepIn K (.ref f48)=true)
  (a49:nsIn K mainGlobals "law"=some (some (.ref f49))) (l49:K.lookup f49=some ⟨oc49,od49,.func (Lw.fnS "law" "law" c1v kV49 dc49 pm49 an49 cd49 ct49),sl49⟩) (c49:codeIn K cd49 "law"=true) (k49:keepIn K (.ref f49)=true)
  (x0:excIn K ec1 [.type "ValueError",.type "Exception",.type "BaseException",.type "object"] "ValueError.__new__"=true)
  (dl23:K.lookup dt23=some ⟨.type "tuple",f0f,.seq #[.none] dn23,e9s⟩)
  (dl29:K.lookup dt29=some ⟨.type "tuple",f0m,.seq #[.none] dn29,f0g⟩)
  (c1k:makesIn K ec2=true)
  (c0t:findIn K (.ref ec2) "__init__"=some (some (.builtin "object.__init__")))
  (b9a:keepIn K (.ref ec2)=true)
  (b5l:plainGet K ec2 Str.empty=true)
  (b5s:hasDictIn K ec2=true)
  (b6i:plainOver K ec2=true)
  (b5p:findIn K (.ref ec2) "__setattr__"=some (some (.builtin "object.__setattr__")))
  (d0h:findIn K (.ref ec2) "__class__"=some (some (.builtin "object.__class__")))
  (c9p:mroIn K ec2 (.type "object")=some true)
  (c5d:makesIn K ec3=true)
  (c3s:findIn K (.ref ec3) "__init__"=some (some (.builtin "object.__init__")))
  (c5g:keepIn K (.ref ec3)=true)
  (b9x:plainGet K ec3 Str.empty=true)
  (b9y:hasDictIn K ec3=true)
  (c0i:plainOver K ec3=true)
  (c1e:findIn K (.ref ec3) "__setattr__"=some (some (.builtin "object.__setattr__")))
  (d7k:findIn K (.ref ec3) "__class__"=some (some (.builtin "object.__class__")))
  (d8y:mroIn K ec3 (.type "object")=some true)
  (c3n:makesIn K ec4=true)
  (c6b:findIn K (.ref ec4) "__init__"=some (some (.builtin "object.__init__")))
  (c4n:keepIn K (.ref ec4)=true)
  (b9i:plainGet K ec4 Str.empty=true)
  (c0h:hasDictIn K ec4=true)
  (c0l:plainOver K ec4=true)
  (b9w:findIn K (.ref ec4) "__setattr__"=some (some (.builtin "object.__setattr__")))
  (d7m:findIn K (.ref ec4) "__class__"=some (some (.builtin "object.__class__")))
  (d6a:mroIn K ec4 (.type "object")=some true)
  (b9t:makesIn K ec5=true)
  (b9s:findIn K (.ref ec5) "__init__"=some (some (.builtin "object.__init__")))
  (b8r:keepIn K (.ref ec5)=true)
  (b5u:plainGet K ec5 Str.empty=true)
  (b6c:hasDictIn K ec5=true)
  (b6d:plainOver K ec5=true)
  (b5w:findIn K (.ref ec5) "__setattr__"=some (some (.builtin "object.__setattr__")))
  (d0l:findIn K (.ref ec5) "__class__"=some (some (.builtin "object.__class__")))
  (d0u:mroIn K ec5 (.type "object")=some true)
  (a6l:findIn K (.ref ec5) "look_spot"=some (some (.ref f10)))
  (a5p:findIn K (.ref ec5) "first_spot"=some (some (.ref f11)))
  (c4a:makesIn K ec6=true)
  (c5b:findIn K (.ref ec6) "__init__"=some (some (.builtin "object.__init__")))
  (c5v:keepIn K (.ref ec6)=true)
  (c0o:plainGet K ec6 Str.empty=true)
  (b8x:hasDictIn K ec6=true)
  (c1h:plainOver K ec6=true)
  (b9j:findIn K (.ref ec6) "__setattr__"=some (some (.builtin "object.__setattr__")))
  (d4k:findIn K (.ref ec6) "__class__"=some (some (.builtin "object.__class__")))
  (d4y:mroIn K ec6 (.type "object")=some true)
  (mf0:isFn K (.ref f0)=true)
  (mf1:isFn K (.ref f1)=true)
  (mf2:isFn K (.ref f2)=true)
  (mf3:isFn K (.ref f3)=true)
  (mf4:isFn K (.ref f4)=true)
  (mf5:isFn K (.ref f5)=true)
  (mf6:isFn K (.ref f6)=true)
  (mf7:isFn K (.ref f7)=true)
  (mf8:isFn K (.ref f8)=true)
  (mf9:isFn K (.ref f9)=true)
  (mf10:isFn K (.ref f10)=true)
  (mf11:isFn K (.ref f11)=true)
  (mf12:isFn K (.ref f12)=true)
  (mf13:isFn K (.ref f13)=true)
  (mf14:isFn K (.ref f14)=true)
  (mf15:isFn K (.ref f15)=true)
  (mf16:isFn K (.ref f16)=true)
  (mf17:isFn K (.ref f17)=true)
  (tgx:specialIn K (.builtin "object.__class__") "__get__"=some (some (.builtin "getset_descriptor.__get__")))
  (ttx:takesIn K (.builtin "object.__class__")=some true)
  {f0b:Tok} (n0:nsIn K mainGlobals "START"=some (some (.int (0) f0b)))
  (d4x:nsIn K mainGlobals "all"=some none)
  (d2d:nsIn K mainGlobals "bool"=some none)
  (b5a:nsIn K mainGlobals "dict"=some none)
  (a9p:nsIn K mainGlobals "enumerate"=some none)
  (d8k:nsIn K mainGlobals "int"=some none)
  (a8e:nsIn K mainGlobals "isinstance"=some none)
  (a5j:nsIn K mainGlobals "len"=some none)
  (b6t:nsIn K mainGlobals "list"=some none)
  (a2z:nsIn K mainGlobals "range"=some none)
  (b8b:nsIn K mainGlobals "sorted"=some none)
  (e1v:nsIn K mainGlobals "zip"=some none)
  : ∃ fd:FuncData,(∀ (s:Shared) (v:Value),BindsTo s fd ⟨[v],[]⟩ [("_law_script",v)])∧∀ base:Heap,K.In base→base.Ns mainGlobals mg→a3y l.prog w K mg base CX0 6 fa fd ["_law_script"] (d9j K):=by
 have e:=hfa.symm.trans (mg_of X G a49)
 cases e
 let T:Tx K mg:={
  b0e:=f0
  a9x:=_
  c0f:=a0j (st:=a4n) l0 c0 k0
  b8h:=(a0j (st:=a4n) l0 c0 k0).binds (ps:=["self"]) fun _ _ _ _ _ _ us hl=>by obtain⟨_,rfl⟩:=My.us1 hl;rfl
  a8b:=f1
  a7r:=_
  b6y:=a0j (st:=a3v) l1 c1 k1
  b6r:=(a0j (st:=a3v) l1 c1 k1).binds (ps:=["self","looks"]) fun _ _ _ _ _ _ us hl=>by obtain⟨_,_,rfl⟩:=My.us2 hl;rfl
  a4v:=f2
  a5h:=_
  b0x:=a0j (st:=a2c) l2 c2 k2
  b1b:=(a0j (st:=a2c) l2 c2 k2).binds (ps:=["self","place"]) fun _ _ _ _ _ _ us hl=>by obtain⟨_,_,rfl⟩:=My.us2 hl;rfl
  a4g:=f3
  a4i:=_
  b0h:=a0j (st:=a1s) l3 c3 k3
  b0g:=(a0j (st:=a1s) l3 c3 k3).binds (ps:=["self","looks"]) fun _ _ _ _ _ _ us hl=>by obtain⟨_,_,rfl⟩:=My.us2 hl;rfl
  b2c:=f4
  b1s:=_
  c2b:=a0j (st:=a5q) l4 c4 k4
  c2d:=(a0j (st:=a5q) l4 c4 k4).binds (ps:=["self"]) fun _ _ _ _ _ _ us hl=>by obtain⟨_,rfl⟩:=My.us1 hl;rfl
  b0b:=f5
  a9e:=_
  b9b:=a0j (st:=a4l) l5 c5 k5
  b8i:=(a0j (st:=a4l) l5 c5 k5).binds (ps:=["self","looks"]) fun _ _ _ _ _ _ us hl=>by obtain⟨_,_,rfl⟩:=My.us2 hl;rfl
  a6a:=f6
  a5y:=_
  b2x:=a0j (st:=a2q) l6 c6 k6
  b2r:=(a0j (st:=a2q) l6 c6 k6).binds (ps:=["self","place"]) fun _ _ _ _ _ _ us hl=>by obtain⟨_,_,rfl⟩:=My.us2 hl;rfl
  a4w:=f7
  a5d:=_
  b0s:=a0j (st:=a1x) l7 c7 k7
  b1a:=(a0j (st:=a1x) l7 c7 k7).binds (ps:=["self","looks"]) fun _ _ _ _ _ _ us hl=>by obtain⟨_,_,rfl⟩:=My.us2 hl;rfl
  b2i:=f8
  b1y:=_
  c3a:=a0j (st:=a5r) l8 c8 k8
  c2i:=(a0j (st:=a5r) l8 c8 k8).binds (ps:=["self"]) fun _ _ _ _ _ _ us hl=>by obtain⟨_,rfl⟩:=My.us1 hl;rfl
  a9v:=f9
  a9i:=_
  b8v:=a0j (st:=a4p) l9 c9 k9
  b9q:=(a0j (st:=a4p) l9 c9 k9).binds (ps:=["self","looks"]) fun _ _ _ _ _ _ us hl=>by obtain⟨_,_,rfl⟩:=My.us2 hl;rfl
  a4c:=f10
  a6b:=_
  b2t:=a0j (st:=a2r) l10 c10 k10
  a8j:=(a0j (st:=a2r) l10 c10 k10).binds (ps:=["self","place"]) fun _ _ _ _ _ _ us hl=>by obtain⟨_,_,rfl⟩:=My.us2 hl;rfl
  a3t:=f11
  a4x:=_
  b0v:=a0j (st:=a2b) l11 c11 k11
  a7b:=(a0j (st:=a2b) l11 c11 k11).binds (ps:=["self","looks"]) fun _ _ _ _ _ _ us hl=>by obtain⟨_,_,rfl⟩:=My.us2 hl;rfl
  b0d:=f12
  a9d:=_
  c0q:=a0j (st:=a4m) l12 c12 k12
  b9v:=(a0j (st:=a4m) l12 c12 k12).binds (ps:=["self"]) fun _ _ _ _ _ _ us hl=>by obtain⟨_,rfl⟩:=My.us1 hl;rfl
  a8g:=f13
  a8f:=_
  b6j:=a0j (st:=a3w) l13 c13 k13
  b6x:=(a0j (st:=a3w) l13 c13 k13).binds (ps:=["self","looks"]) fun _ _ _ _ _ _ us hl=>by obtain⟨_,_,rfl⟩:=My.us2 hl;rfl
  b1q:=f14
  b2b:=_
  c2x:=a0j (st:=a5o) l14 c14 k14
  c1z:=(a0j (st:=a5o) l14 c14 k14).binds (ps:=["self"]) fun _ _ _ _ _ _ us hl=>by obtain⟨_,rfl⟩:=My.us1 hl;rfl
  a9o:=f15
  a9m:=_
  b8l:=a0j (st:=a4j) l15 c15 k15
  c1f:=(a0j (st:=a4j) l15 c15 k15).binds (ps:=["self","looks"]) fun _ _ _ _ _ _ us hl=>by obtain⟨_,_,rfl⟩:=My.us2 hl;rfl
  a6c:=f16
  a5x:=_
  b2s:=a0j (st:=a2u) l16 c16 k16
  b2p:=(a0j (st:=a2u) l16 c16 k16).binds (ps:=["self","place"]) fun _ _ _ _ _ _ us hl=>by obtain⟨_,_,rfl⟩:=My.us2 hl;rfl
  a4u:=f17
  a4z:=_
  b1f:=a0j (st:=a1z) l17 c17 k17
  b1m:=(a0j (st:=a1z) l17 c17 k17).binds (ps:=["self","looks"]) fun _ _ _ _ _ _ us hl=>by obtain⟨_,_,rfl⟩:=My.us2 hl;rfl
  b4z:=f18
  b3s:=_
  b3z:=a0j (st:=a7e) l18 c18 k18
  b9n:=(a0j (st:=a7e) l18 c18 k18).binds (ps:=["word"]) fun _ _ _ _ _ _ us hl=>by obtain⟨_,rfl⟩:=My.us1 hl;rfl
  c0a:=mg_of X G a18
  b1x:=f19
  b2e:=_
  b2d:=a0j (st:=a5u) l19 c19 k19
  b6a:=(a0j (st:=a5u) l19 c19 k19).binds (ps:=["past","word"]) fun _ _ _ _ _ _ us hl=>by obtain⟨_,_,rfl⟩:=My.us2 hl;rfl
  b5y:=mg_of X G a19
  b4d:=f20
  b5e:=_
  b4f:=a0j (st:=a7d) l20 c20 k20
  c1a:=(a0j (st:=a7d) l20 c20 k20).binds (ps:=["deal","level"]) fun _ _ _ _ _ _ us hl=>by obtain⟨_,_,rfl⟩:=My.us2 hl;rfl
  b8z:=mg_of X G a20
  b5g:=f21
  b5c:=_
  b4m:=a0j (st:=a7f) l21 c21 k21
  b9m:=(a0j (st:=a7f) l21 c21 k21).binds (ps:=["past","levels"]) fun _ _ _ _ _ _ us hl=>by obtain⟨_,_,rfl⟩:=My.us2 hl;rfl
  c0r:=mg_of X G a21
  b2g:=f22
  b1w:=_
  b5t:=a0j (st:=a5m) l22 c22 k22
  c2r:=(a0j (st:=a5m) l22 c22 k22).binds (ps:=["past","levels"]) fun _ _ _ _ _ _ us hl=>by obtain⟨_,_,rfl⟩:=My.us2 hl;rfl
  c2z:=mg_of X G a22
  c5h:=f23
  c1i:=_
  d0n:=d6b (st:=b5q) l23 c23 k23
  d7w:=fun s us XX hl=>by rw[List.append_nil] at hl ⊢;obtain⟨_,_,rfl⟩:=My.us2 hl;exact b1r rfl dl23 rfl XX ⟨_,rfl,rfl⟩
  e0s:=fun s us XX hl=>by obtain⟨_,rfl⟩:=My.us1 (us:=us) (by simpa using hl);exact b1r rfl dl23 rfl XX ⟨_,rfl,rfl⟩
  d5t:=mg_of X G a23
  a5f:=f24
  a5a:=_
  a6z:=a0j (st:=a2a) l24 c24 k24
  b0t:=(a0j (st:=a2a) l24 c24 k24).binds (ps:=["order"]) fun _ _ _ _ _ _ us hl=>by obtain⟨_,rfl⟩:=My.us1 hl;rfl
  b1h:=mg_of X G a24
  b4t:=f25
  b4g:=_
  c1j:=a0j (st:=a7a) l25 c25 k25
  c9b:=(a0j (st:=a7a) l25 c25 k25).binds (ps:=["deal","level","place"]) fun _ _ _ _ _ _ us hl=>by obtain⟨_,_,_,rfl⟩:=My.us3 hl;rfl
  c7e:=mg_of X G a25
  c5e:=f26
  c4y:=_
  c9x:=a0j (st:=b3g) l26 c26 k26
  d4o:=(a0j (st:=b3g) l26 c26 k26).binds (ps:=["look","makers"]) fun _ _ _ _ _ _ us hl=>by obtain⟨_,_,rfl⟩:=My.us2 hl;rfl
  d8l:=mg_of X G a26
  a9f:=f27
  a9a:=_
  b3k:=a0j (st:=a4k) l27 c27 k27
  c0n:=(a0j (st:=a4k) l27 c27 k27).binds (ps:=["past","order","levels"]) fun _ _ _ _ _ _ us hl=>by obtain⟨_,_,_,rfl⟩:=My.us3 hl;rfl
  c0k:=mg_of X G a27
  a6s:=f28
  a6x:=_
  a9b:=a0j (st:=a3d) l28 c28 k28
  b3v:=(a0j (st:=a3d) l28 c28 k28).binds (ps:=["past","order","levels"]) fun _ _ _ _ _ _ us hl=>by obtain⟨_,_,_,rfl⟩:=My.us3 hl;rfl
  b5i:=mg_of X G a28
  b3x:=f29
  b1c:=_
  a8y:=d6b (st:=a8u) l29 c29 k29
  d4l:=fun s us XX hl=>by rw[List.append_nil] at hl ⊢;obtain⟨_,_,_,rfl⟩:=My.us3 hl;exact b1r rfl dl29 rfl XX ⟨_,rfl,rfl⟩
  a8q:=fun s us XX hl=>by obtain⟨_,_,rfl⟩:=My.us2 (us:=us) (by simpa using hl);exact b1r rfl dl29 rfl XX ⟨_,rfl,rfl⟩
  b1k:=mg_of X G a29
  b8d:=f30
  b7u:=_
  a2v:=a0j (st:=a9z) l30 c30 k30
  a3i:=(a0j (st:=a9z) l30 c30 k30).binds (ps:=["_law_cell_here","_law_k"]) fun _ _ _ _ _ _ us hl=>by obtain⟨_,_,rfl⟩:=My.us2 hl;rfl
  a3c:=mg_of X G a30
  c3o:=f31
  c4r:=_
  b0q:=a0j (st:=b3b) l31 c31 k31
  b3m:=(a0j (st:=b3b) l31 c31 k31).binds (ps:=["_law_script","_law_k"]) fun _ _ _ _ _ _ us hl=>by obtain⟨_,_,rfl⟩:=My.us2 hl;rfl
  b3q:=mg_of X G a31
  b7r:=f32
  b7x:=_
  a9l:=a0j (st:=a9g) l32 c32 k32
  b2h:=(a0j (st:=a9g) l32 c32 k32).binds (ps:=["_law_word","_law_looks"]) fun _ _ _ _ _ _ us hl=>by obtain⟨_,_,rfl⟩:=My.us2 hl;rfl
  b1t:=mg_of X G a32
  b7n:=f33
  b8c:=_
  b7z:=a0j (st:=a9n) l33 c33 k33
  c4o:=(a0j (st:=a9n) l33 c33 k33).binds (ps:=["_law_word","_law_k"]) fun _ _ _ _ _ _ us hl=>by obtain⟨_,_,rfl⟩:=My.us2 hl;rfl
  c5i:=mg_of X G a33
  b7y:=f34
  b7s:=_
  b7v:=a0j (st:=a9s) l34 c34 k34
  c4h:=(a0j (st:=a9s) l34 c34 k34).binds (ps:=["_law_word","_law_looks"]) fun _ _ _ _ _ _ us hl=>by obtain⟨_,_,rfl⟩:=My.us2 hl;rfl
  c3z:=mg_of X G a34
  a6q:=f35
  a6v:=_
  a9y:=a0j (st:=a3f) l35 c35 k35
  b4i:=(a0j (st:=a3f) l35 c35 k35).binds (ps:=["_law_script","_law_word"]) fun _ _ _ _ _ _ us hl=>by obtain⟨_,_,rfl⟩:=My.us2 hl;rfl
  b3u:=mg_of X G a35
  a6m:=f36
  a6t:=_
  b0c:=a0j (st:=a3h) l36 c36 k36
  b5h:=(a0j (st:=a3h) l36 c36 k36).binds (ps:=["_law_script","_law_deals"]) fun _ _ _ _ _ _ us hl=>by obtain⟨_,_,rfl⟩:=My.us2 hl;rfl
  b4h:=mg_of X G a36
  c5k:=f37
  c6c:=_
  c9n:=a0j (st:=b3l) l37 c37 k37
  d5g:=(a0j (st:=b3l) l37 c37 k37).binds (ps:=["_law_cell_here"]) fun _ _ _ _ _ _ us hl=>by obtain⟨_,rfl⟩:=My.us1 hl;rfl
  d7q:=mg_of X G a37
  c5f:=f38
  c5c:=_
  d0c:=a0j (st:=b3f) l38 c38 k38
  d8u:=(a0j (st:=b3f) l38 c38 k38).binds (ps:=["_law_keys_here","_law_last","_law_number","_law_strange"]) fun _ _ _ _ _ _ us hl=>by obtain⟨_,_,_,_,rfl⟩:=My.us4 hl;rfl
  d6v:=mg_of X G a38
  c6a:=f39
  c4d:=_
  c9j:=a0j (st:=b3c) l39 c39 k39
  d8w:=(a0j (st:=b3c) l39 c39 k39).binds (ps:=["_law_number","_law_word","_law_mask","_law_state"]) fun _ _ _ _ _ _ us hl=>by obtain⟨_,_,_,_,rfl⟩:=My.us4 hl;rfl
  d6y:=mg_of X G a39
  c4e:=f40
  c3r:=_
  d1g:=a0j (st:=b3d) l40 c40 k40
  d6l:=(a0j (st:=b3d) l40 c40 k40).binds (ps:=["_law_script","_law_deals","_law_order"]) fun _ _ _ _ _ _ us hl=>by obtain⟨_,_,_,rfl⟩:=My.us3 hl;rfl
  d5s:=mg_of X G a40
  b4a:=f41
  b4y:=_
  b8k:=a0j (st:=a7i) l41 c41 k41
  c7p:=(a0j (st:=a7i) l41 c41 k41).binds (ps:=["_law_past_here"]) fun _ _ _ _ _ _ us hl=>by obtain⟨_,rfl⟩:=My.us1 hl;rfl
  c8r:=mg_of X G a41
  c4g:=f42
  c4f:=_
  d0b:=a0j (st:=b3n) l42 c42 k42
  d5x:=(a0j (st:=b3n) l42 c42 k42).binds (ps:=["_law_deals","_law_word"]) fun _ _ _ _ _ _ us hl=>by obtain⟨_,_,rfl⟩:=My.us2 hl;rfl
  d6o:=mg_of X G a42
  b3t:=f43
  b4j:=_
  c0z:=a0j (st:=a7g) l43 c43 k43
  c6l:=(a0j (st:=a7g) l43 c43 k43).binds (ps:=["_law_ways_here","_law_order"]) fun _ _ _ _ _ _ us hl=>by obtain⟨_,_,rfl⟩:=My.us2 hl;rfl
  c8z:=mg_of X G a43
  a6o:=f44
  a6p:=_
  a9q:=a0j (st:=a3g) l44 c44 k44
  b4b:=(a0j (st:=a3g) l44 c44 k44).binds (ps:=["_law_keeps","_law_firsts","_law_makers"]) fun _ _ _ _ _ _ us hl=>by obtain⟨_,_,_,rfl⟩:=My.us3 hl;rfl
  b4q:=mg_of X G a44
  c4s:=f45
  c3p:=_
  d0s:=a0j (st:=b3p) l45 c45 k45
  d8j:=(a0j (st:=b3p) l45 c45 k45).binds (ps:=["_law_keeps","_law_makers","_law_source","_law_at"]) fun _ _ _ _ _ _ us hl=>by obtain⟨_,_,_,_,rfl⟩:=My.us4 hl;rfl
  d5f:=mg_of X G a45
  d1x:=f46
  d2e:=_
  d5k:=a0j (st:=c0b) l46 c46 k46
  e3h:=(a0j (st:=c0b) l46 c46 k46).binds (ps:=["_law_past_here","_law_order","_law_word"]) fun _ _ _ _ _ _ us hl=>by obtain⟨_,_,_,rfl⟩:=My.us3 hl;rfl
  e2p:=mg_of X G a46
  a5z:=f47
  a5w:=_
  a8m:=a0j (st:=a2t) l47 c47 k47
  b2v:=(a0j (st:=a2t) l47 c47 k47).binds (ps:=["_law_past_here","_law_number"]) fun _ _ _ _ _ _ us hl=>by obtain⟨_,_,rfl⟩:=My.us2 hl;rfl
  b2q:=mg_of X G a47
  a7u:=f48
  a7v:=_
  b0z:=a0j (st:=a3u) l48 c48 k48
  b6n:=(a0j (st:=a3u) l48 c48 k48).binds (ps:=["_law_past_here","_law_order","_law_way","_law_number"]) fun _ _ _ _ _ _ us hl=>by obtain⟨_,_,_,_,rfl⟩:=My.us4 hl;rfl
  b6q:=mg_of X G a48
  d9c:=fa
  d9h:=_
  e6s:=a0j (st:=c1v) l49 c49 k49
  e9t:=(a0j (st:=c1v) l49 c49 k49).binds (ps:=["_law_script"]) fun _ _ _ _ _ _ us hl=>by obtain⟨_,rfl⟩:=My.us1 hl;rfl
  f0u:=mg_of X G a49
  c0w:=ec0
  d1b:=mg_of X G e0
  a6g:=ec1
  d5j:=mg_of X G e1
  a4y:=ec2
  d4s:=mg_of X G e2
  a7q:=ec3
  e2h:=mg_of X G e3
  a8h:=ec4
  e2i:=mg_of X G e4
  a5c:=ec5
  d6m:=mg_of X G e5
  a7t:=ec6
  e2v:=mg_of X G e6
  c7t:=⟨mg_of X G e1,x0⟩
  d1j:=⟨c1k,c0t,b9a⟩
  b5d:=⟨b5l,b5s,b6i,b5p⟩
  e0o:=d0h
  d8z:=c9p
  b3w:=⟨a0,mf0,k0⟩
  b2w:=⟨a1,mf1,k1⟩
  a7z:=⟨a2,mf2,k2⟩
  a7k:=⟨a3,mf3,k3⟩
  d8h:=⟨c5d,c3s,c5g⟩
  b8m:=⟨b9x,b9y,c0i,c1e⟩
  e3y:=d7k
  e6g:=d8y
  b6k:=⟨a4,mf4,k4⟩
  b4x:=⟨a5,mf5,k5⟩
  a8o:=⟨a6,mf6,k6⟩
  a8a:=⟨a7,mf7,k7⟩
  d8f:=⟨c3n,c6b,c4n⟩
  b9f:=⟨b9i,c0h,c0l,b9w⟩
  e5s:=d7m
  e6f:=d6a
  b6m:=⟨a8,mf8,k8⟩
  b4r:=⟨a9,mf9,k9⟩
  a8t:=⟨a10,mf10,k10⟩
  a8d:=⟨a11,mf11,k11⟩
  d1q:=⟨b9t,b9s,b8r⟩
  b4l:=⟨b5u,b6c,b6d,b5w⟩
  e0q:=d0l
  e0g:=d0u
  b4p:=⟨a12,mf12,k12⟩
  b2z:=⟨a13,mf13,k13⟩
  a8c:=⟨a6l,mf10,k10⟩
  a7h:=⟨a5p,mf11,k11⟩
  d8i:=⟨c4a,c5b,c5v⟩
  c0e:=⟨c0o,b8x,c1h,b9j⟩
  e3q:=d4k
  e4t:=d4y
  b6v:=⟨a14,mf14,k14⟩
  b4c:=⟨a15,mf15,k15⟩
  a8w:=⟨a16,mf16,k16⟩
  a7w:=⟨a17,mf17,k17⟩
  tg:=tgx
  tt:=ttx
  d4j:=_
  d5b:=mg_of X G n0
  d4x:=mg_none_of X G d4x
  d2d:=mg_none_of X G d2d
  b5a:=mg_none_of X G b5a
  a9p:=mg_none_of X G a9p
  d8k:=mg_none_of X G d8k
  a8e:=mg_none_of X G a8e
  a5j:=mg_none_of X G a5j
  b6t:=mg_none_of X G b6t
  a2z:=mg_none_of X G a2z
  b8b:=mg_none_of X G b8b
  e1v:=mg_none_of X G e1v}
 exact⟨fnOf "law" "law" (a0p c1v) (a0m c1v) (a0f c1v) .none kV49 dc49 pm49 an49 cd49 ct49,fun s v=>.of_eq rfl,fun base _ _=>e8p T⟩
theorem walk {l:PySem.W.OpenLaw} {q:Program} {loose:List Str} {XP:(Str→Option Value)→Heap→Prop} {YP:World→Heap→Prop} {d:DefRec} {K:Params→PySem.W.Frag} (hn:l.most=some 63) (hdf:d.params.defaults=[])
  (hY:∀ (w:World) (h:Heap),YP w h→(K w.params).In h)
  (F:∀ (w:World) (mg:Str→Option Value) (fa:Addr) (h:Heap),(K w.params).In h→h.Ns mainGlobals mg→mg d.name=some (.ref fa) →
   ∃ fd:FuncData,(∀ (s:Shared) (u:Value),BindsTo s fd ⟨[u],[]⟩ [("_law_script",u)])∧∀ base:Heap,(K w.params).In base→base.Ns mainGlobals mg→a3y l.prog w (K w.params) mg base CX0 6 fa fd ["_law_script"] (d9j (K w.params))) :
  PySem.W.WalkO q loose XP YP l.row.toRowW d [] (fun f vs=>PySem.call f vs) :=
 My.d9w (n:=63) (k:=6) (x:="_law_script") (CX:=fun _=>CX0) (sp:=fun w=>d9j (K w.params)) hn (by decide) hdf ⟨rfl,by decide,by decide⟩ hY F (fun _ _ a ns hl hb _ hS=>⟨a,ns,rfl,hS,hl,hb,fun _=>rfl⟩) fun _ _ _ _ _ z=>z
end Lw
namespace PySem.W.Fast
def tw15845091846671908946:=0
def tw12294373957049903525:=0
def tw10855857365052211498:=0
def tw11134131575920900771:=0
def tw5674904125843733346:=0
def tw14777578511072337402:=0
def tw16576536698091179579:=0
def tw12769130435785012984:=0
def tw8681978091919703685:=0
def tw11492178605140573164:=0
def tw5864385907856957881:=0
def tw6570384124272460103:=0
def tw15873302238651425345:=0
def tw9576791030640631240:=0
def tw9312542886220295719:=0
def tw5884155663037101221:=0
def tw17866238412038514202:=0
def tw2868764530272563395:=0
def tw3784654651309122263:=0
def tw11370807039408187190:=0
def tw993965463569347750:=0
def tw15973159496353115745:=0
def tw3215846421261456809:=0
def tw14046842764146788155:=0
def tw2768056386812982808:=0
def tw15284032095417418460:=0
def tw14592498299604323198:=0
def tw17958124273690389753:=0
def tw7951675748679245657:=0
def tw15359948377720851906:=0
def tw14886230925596342278:=0
def tw13842075311148313349:=0
def tw10410428953048026922:=0
def tw10587678467325142684:=0
def tw14869453242440976753:=0
def tw12115611107146796015:=0
def tw15003570797618031265:=0
def tw12706061263663169134:=0
def tw6847515335095923526:=0
def tw3156979827207207304:=0
def tw8611343391248860378:=0
def tw3324945416785723389:=0
def tw15096160033621079405:=0
def tw14177125184321637555:=0
def tw17744348292907461675:=0
def tw8158651027221890991:=0
def tw14032480442091008460:=0
def tw297321336259675224:=0
def tw11762276970335776007:=0
def tw9856939653807941846:=0
def tw9130986302289561298:=0
def tw10705744529842062840:=0
def tw10244754955853125501:=0
def tw9504869442262973663:=0
def tw14369435632193314850:=0
def tw980297184370228393:=0
def tw12215828147694440847:=0
def tw4771887726344232087:=0
def tw2836072409223162936:=0
def tw17740793796706518626:=0
def tw12979122221148081376:=0
def tw16789049486367243129:=0
def tw12731985005236854557:=0
def tw13879274308778176319:=0
def tw11197017761325608912:=0
def tw15643322007852109298:=0
def tw2931890536767760889:=0
def tw4575374159841005952:=0
def tw6013208930288317280:=0
def tw14847699438683401579:=0
def tw11731379638659347064:=0
def tw6265928552777083528:=0
def tw8922255902508285639:=0
def tw8629484040514830367:=0
def tw14335377783062200766:=0
def tw17397291075949154034:=0
def tw16646321035059072011:=0
def tw8959893454767583699:=0
def tw3121195652993231328:=0
def tw10195070819061033461:=0
def tw300585131949581270:=0
def tw17542640533526841006:=0
def tw8890577323630662597:=0
def tw8059267831128409956:=0
def tw12067684407776923882:=0
def tw10186629180304488963:=0
def tw14059668032988590089:=0
def tw5551701632849801303:=0
def tw9546076039769511491:=0
def tw8696580218475535408:=0
def tw1027480624828138092:=0
def tw16968746124312295325:=0
def tw17345438757856031588:=0
def tw15856202657712239101:=0
def tw250183612363033371:=0
def tw1092569070427933613:=0
def tw9371649517062865251:=0
def tw16616621233168493738:=0
def tw15283305937737880081:=0
def tw442137589655077973:=0
def tw4826649552488460437:=0
def tw1546521153907100014:=0
def tw3753603751332109318:=0
def tw8090391576169781480:=0
def tw13715640757702517563:=0
def tw18147329938464843146:=0
def tw2775245741791301689:=0
def tw12432682831705566428:=0
def tw16854147924584745818:=0
def tw3770192592855080724:=0
def tw9814133404708718724:=0
def tw89540584598039220:=0
def tw12508673604722421291:=0
def tw2800433094796015234:=0
def tw8730439908774844694:=0
def tw3000877818887710457:=0
def tw1188955340746494096:=0
def tw11773446678418292700:=0
def tw10970277867683707770:=0
def tw2263715783698803456:=0
def tw18050517065161317710:=0
def tw6394962931758449225:=0
def tw7722919798066036143:=0
def tw10446263325280341115:=0
def tw9803188398866791864:=0
def tw12768599165957176902:=0
def tw11442109035474904161:=0
def tw14921508468369311169:=0
def tw17012806444551483365:=0
def tw389711447667720222:=0
def tw10070298834015202498:=0
def tw5188433586201557395:=0
def tw5852738327471169398:=0
def tw2138348297339300102:=0
def tw6968210898162529996:=0
def tw3883154887622372699:=0
def tw8442649430664635233:=0
def tw3567117122003792376:=0
def tw971243585945371395:=0
def tw5402431267858151680:=0
def tw6029015519251242280:=0
def tw1151294238864534493:=0
def tw9521774800948212526:=0
def tw17060792042651533245:=0
def tw6236618779625361830:=0
def tw943911611487311496:=0
def tw6736855430583725069:=0
def tw11239893970567870427:=0
def tw558636749419157039:=0
def tw6852629609533461707:=0
def tw16608152336550875459:=0
def tw3757569688842093394:=0
def tw714724056956545632:=0
def tw15414350009808157311:=0
def tw15238357735192988330:=0
def tw13663980429783196687:=0
def tw10108850744082134982:=0
def tw7072484075754510776:=0
def tw2587104696134317235:=0
def tw16974993770731670580:=0
def tw12566602504843053222:=0
def tw3739126061476855927:=0
def tw7980278520244135265:=0
def tw7534572373152499825:=0
def tw1013183288953656376:=0
def tw8214539891331662369:=0
def tw11531306477102215321:=0
def tw8030461127619833068:=0
def tw1264800412142814424:=0
def tw16479044817300466468:=0
def tw12567704201507698225:=0
def tw4413964375022599202:=0
def tw16990827758183841265:=0
def tw6647555925857915305:=0
def tw13428010060886540696:=0
def tw7226594379699106703:=0
def tw477444350115931357:=0
def tw10697356627782673230:=0
def tw14515730887843223116:=0
def tw3438247415762053194:=0
def tw3174208167167518588:=0
def tw14041008250877470016:=0
def tw2752571161250322533:=0
def tw2547282387782280063:=0
def tw17208903793427291479:=0
def tw14568240126798927048:=0
def tw12520443552420237197:=0
def tw3661371827250953641:=0
def tw9955797447282393398:=0
def tw15551373013021863926:=0
def tw9384303608565875717:=0
def tw6460433089569567571:=0
def tw8121759669352561904:=0
def tw12053495294952327640:=0
def tw15469785028442965611:=0
def tw15149275052086455379:=0
def tw12925380651342004313:=0
def tw16041433991261782237:=0
def tw16017911765719948553:=0
def tw16006380914241612781:=0
def tw9386923752270828164:=0
def tw8165732645545490708:=0
def tw10829585847372315993:=0
def tw14921610146479043425:=0
def tw17884574677078555733:=0
def tw14882804894110606125:=0
def tw2797882189703543845:=0
def tw6815448258330915504:=0
def tw6046050181499107806:=0
def tw2263826428197001901:=0
def tw15142497678666120089:=0
def tw4417175566322197137:=0
def tw14049217064065361927:=0
def tw4775111656123801619:=0
def tw10563495215769997393:=0
def tw4039974794820539861:=0
def tw5104287360287601993:=0
def tw198374695524900379:=0
def tw8425542339126190462:=0
def tw7224667621958193701:=0
def tw10818134393610728367:=0
def tw1362928054209810917:=0
def tw11144116966872659271:=0
def tw3009168026608263373:=0
def tw836658434204584539:=0
def tw12663795527561499981:=0
def tw2365166712999133280:=0
def tw4860064952542536854:=0
def tw10879929043403082144:=0
def tw5373697165421960743:=0
def tw5721541566196228832:=0
def tw15396156311507209391:=0
def tw12310456397780685606:=0
def tw1829148965872212369:=0
def tw1809176165531062106:=0
def tw15148813315510558022:=0
def tw5442130778919701845:=0
def tw8692824825178172772:=0
def tw16075678754852502015:=0
def tw1319019494492180954:=0
def tw9881184881182680736:=0
def tw7704279503914974250:=0
def tw2470161707903571146:=0
def tw489840221269427056:=0
def tw10677871249212204587:=0
def tw4220121621969433407:=0
def tw9956089549627859417:=0
def tw17654907544369871969:=0
def tw7272081562719806152:=0
def tw6995379794846111522:=0
def tw5229501156728130738:=0
def tw4440482958100476689:=0
def tw6702125498844935044:=0
def tw2885681653020846629:=0
def tw17965653928871727856:=0
def tw14632102759093211286:=0
def tw15098144652766521937:=0
def tw8623930095200296144:=0
def tw9135818616725248937:=0
def tw5033348249245348447:=0
def tw1667253669216801185:=0
def tw17619499407597338291:=0
def tw15154000156266210388:=0
def tw6188073079545064875:=0
def tw8292828108838504349:=0
def tw8427458545546034768:=0
def tw3488852884347357921:=0
def tw3289851099517524249:=0
def tw12348677804181000630:=0
def tw7941498212457796243:=0
def tw4159484713004772682:=0
def tw2691205765889128885:=0
def tw16332963958869940396:=0
def tw16623243725696634038:=0
def tw14614637155060141531:=0
def tw16787682110157467563:=0
def tw5648652310112233222:=0
def tw8668185390618768029:=0
def tw3467860380203379719:=0
def tw1239588576853144897:=0
def tw3932889744429804204:=0
def tw17070231161186052865:=0
def tw2227623561058243052:=0
def tw994051714806304216:=0
def tw3424889742486225864:=0
def tw4659994321571527308:=0
def tw4949187562359004053:=0
def tw4794612665571139493:=0
def tw3881892426186723974:=0
def tw1425346130755159026:=0
def tw7864969862912206918:=0
def tw12031133535430623713:=0
def tw3730744065315243655:=0
def tw15127000704606051001:=0
def tw14056526828819864694:=0
def tw11899552573927379431:=0
def tw284114900755716077:=0
def tw12856082927226681064:=0
def tw3470843951201468303:=0
def tw6807358113124140361:=0
def tw18138233967044730449:=0
def tw12112511389654082040:=0
def tw13476144182357553610:=0
def tw7353960170447347363:=0
def tw9438130766507338886:=0
def tw2440564016129733100:=0
def tw15467762203265305995:=0
def tw10697101865073022631:=0
def tw18152871767523156521:=0
def tw16543315558146211953:=0
def tw6343516482675097211:=0
def tw6214573392987932892:=0
def tw18101639945059837761:=0
def tw10513424464715332346:=0
def tw4715215170489613037:=0
def tw12617310572296390561:=0
def tw578174339187031683:=0
def tw1101763658159747783:=0
def tw3686793828002512749:=0
def tw7807676116378710026:=0
def tw9499177597476006723:=0
def tw9029304936164842749:=0
def tw7946185829282702738:=0
def tw4259208527346090559:=0
def tw17148239921220996794:=0
def tw6497923360866280527:=0
def tw15371556027186964945:=0
def tw9884427882022174705:=0
def tw12257273879049281669:=0
def tw7058421952286330228:=0
def tw4792656734065454904:=0
def tw10937077585911245347:=0
def tw14922318908330073997:=0
def tw7672913430646604638:=0
def tw17940007090632332683:=0
def tw12994895321729634320:=0
def tw8818235387277007819:=0
def tw5442799177674417542:=0
def tw11308126006438851846:=0
def tw14024444194557557480:=0
def tw14197502324439095466:=0
def tw15518124000570127524:=0
def tw5607343975098726199:=0
def tw17606705638692994092:=0
def tw5249707606432325612:=0
def tw5641963565529373395:=0
def tw13901653337594519894:=0
def tw15320917763992924275:=0
def tw15292138322388068867:=0
def tw10276225750147881772:=0
def tw12819851552726692441:=0
def tw11427775146760255254:=0
def tw67616211984519668:=0
def tw16474566666711913275:=0
def tw2410978101560950122:=0
def tw13840454079187410288:=0
def tw9131365076895443948:=0
def tw15719349233223383359:=0
def tw2222893407548301778:=0
def tw1025162530609063245:=0
def tw10052966527580945931:=0
def tw4006356428477048010:=0
def tw15677939505007652414:=0
def tw15605216779497114840:=0
def tw4173359854101781227:=0
def tw7869261120918414876:=0
def tw2636193195828379744:=0
def tw1062208214468599510:=0
def tw2193834179050517623:=0
def tw7524501492556228047:=0
def tw18328372329573847802:=0
def tw9201109172704218712:=0
def tw12972784164752022057:=0
def tw2893173275184429543:=0
def tw3819045410087790607:=0
def tw3534040823183217644:=0
def tw17503177599722106629:=0
def tw6656667836823324593:=0
def tw16626230827075637328:=0
def tw9134636436301380901:=0
def tw2525799551987973025:=0
def tw4997876147335156465:=0
def tw16149050763445240427:=0
def tw13058951775395845106:=0
def tw12057391926181613959:=0
def tw807509561315508656:=0
def tw1745293453124768681:=0
def tw14968477782503577048:=0
def tw726741437158460265:=0
def tw3663390153040545794:=0
def tw11511089906789867441:=0
def tw4871645923655065329:=0
def tw9510181221733864501:=0
def tw4574151034062030814:=0
def tw9812752554205066638:=0
def tw12444004592191415929:=0
def tw6832604316833042232:=0
def tw8140001609200489670:=0
def tw980897637300294537:=0
def tw9990360528260745926:=0
def tw7945153594273000393:=0
def tw4807403686289916630:=0
def tw9400838606023622209:=0
def tw7017649462375949088:=0
def tw7198584740911678432:=0
def tw3008641443537491344:=0
def tw5122108992979704345:=0
def tw17784643132817208758:=0
def tw15038856982902977189:=0
def tw13570872540225229105:=0
def tw1901400106550692987:=0
def tw4218995042897470088:=0
def tw12758414398530857275:=0
def tw3551620648525346164:=0
def tw9385707184667539393:=0
def tw9881616692718469172:=0
def tw8061520914834833944:=0
def tw9076913833076364845:=0
def tw15172404215657140882:=0
def tw4090929524823386844:=0
def tw10277470931557038568:=0
def tw4131520236961469807:=0
def tw8790902427539746446:=0
def tw17620512165554474512:=0
def tw5617256296612058573:=0
def tw84217902126224172:=0
def tw518611996975596203:=0
def tw2817294680748496068:=0
def tw3776112372782009981:=0
def tw17245872974097338621:=0
def tw11548966916558877214:=0
def tw7349958215876710637:=0
def tw10265552832087187730:=0
def tw17966054325428007855:=0
def tw11694012242347348727:=0
def tw3768671815465165095:=0
def tw15585781839503612752:=0
def tw5608234211290266186:=0
def tw14764387382703113444:=0
def tw12650342040204017555:=0
def tw2593050162017330348:=0
def tw2870855300994495062:=0
def tw155542505233142637:=0
def tw3347075436308790080:=0
def tw4003723010797361702:=0
def tw10620713524105496448:=0
def tw12383076002402930264:=0
def tw6069856531230727543:=0
def tw1349248662197525545:=0
def tw3107430574301355197:=0
def tw6605038589517788526:=0
def tw15512098895892675582:=0
def tw8640496320359930030:=0
def tw16399469438036568989:=0
def tw16372725877317788376:=0
def tw3625800357501063406:=0
def tw13402878396714230489:=0
def tw1864112261046301365:=0
def tw1453858340000199515:=0
def tw918830650604084838:=0
def tw12917591320059415632:=0
def tw3527626260241297460:=0
def tw5205550493677202424:=0
def tw2395751399367396854:=0
def tw18200082605921585946:=0
def tw15016275273022773207:=0
def tw15162159995262984489:=0
def tw13036666474175337837:=0
def tw15744821862764683021:=0
def tw5759266201331133388:=0
def tw17039785508335378749:=0
def tw3617265227995649614:=0
def tw17345259357286542609:=0
def tw3624601807802936081:=0
def tw6648951228069925744:=0
def tw2818807888529969537:=0
def tw12894641235736194700:=0
def tw13963719177224793077:=0
def tw13422144390741254974:=0
def tw14567925479254096472:=0
def tw8141394113455150616:=0
def tw2374997393391731891:=0
def tw4239031486249190598:=0
def tw11512896657517681890:=0
def tw14451755052616222463:=0
def tw10809184123419050302:=0
def tw11982306381592140335:=0
def tw6321569979484278448:=0
def tw15990487726363050227:=0
def tw9808189584370986046:=0
def tw17791184846343732688:=0
def tw6061326189252651470:=0
def tw3761635565107116429:=0
def tw13391988315346190175:=0
def tw6280427324421876206:=0
def tw8517304643016860906:=0
def tw1712939389019948303:=0
def tw14495921638259784856:=0
def tw17948659881082893055:=0
def tw10118536939598899688:=0
end PySem.W.Fast
open PySem PySem.W PyProof.Rows
set_option maxRecDepth 100000 in
set_option maxHeartbeats 0 in
theorem PySem.Challenge.cw_skewhouse_k54_orders_allowed_holds : PySem.Challenge.rw_skewhouse_k54_orders_allowed.Holds := by
 w_on;o_law;k_head;(case hw=>w_witness2)
 k_fill
 refine Lw.walk (l:=PySem.Challenge.rw_skewhouse_k54_orders_allowed) rfl rfl (fun w h Y=>PySem.W.kIn_of Y) ?F
 case F =>
  intro w mg fa h KX G hmg
  refine' Lw.all_mk KX G hmg ?e0 ?e1 ?e2 ?e3 ?e4 ?e5 ?e6 ?a0 ?l0 ?c0 ?k0 ?a1 ?l1 ?c1 ?k1 ?a2 ?l2 ?c2 ?k2 ?a3 ?l3 ?c3 ?k3 ?a4 ?l4 ?c4 ?k4 ?a5 ?l5 ?c5 ?k5 ?a6 ?l6 ?c6 ?k6 ?a7 ?l7 ?c7 ?k7 ?a8 ?l8 ?c8 ?k8 ?a9 ?l9 ?c9 ?k9 ?a10 ?l10 ?c10 ?k10 ?a11 ?l11 ?c11 ?k11 ?a12 ?l12 ?c12 ?k12 ?a13 ?l13 ?c13 ?k13 ?a14 ?l14 ?c14 ?k14 ?a15 ?l15 ?c15 ?k15 ?a16 ?l16 ?c16 ?k16 ?a17 ?l17 ?c17 ?k17 ?a18 ?l18 ?c18 ?k18 ?a19 ?l19 ?c19 ?k19 ?a20 ?l20 ?c20 ?k20 ?a21 ?l21 ?c21 ?k21 ?a22 ?l22 ?c22 ?k22 ?a23 ?l23 ?c23 ?k23 ?a24 ?l24 ?c24 ?k24 ?a25 ?l25 ?c25 ?k25 ?a26 ?l26 ?c26 ?k26 ?a27 ?l27 ?c27 ?k27 ?a28 ?l28 ?c28 ?k28 ?a29 ?l29 ?c29 ?k29 ?a30 ?l30 ?c30 ?k30 ?a31 ?l31 ?c31 ?k31 ?a32 ?l32 ?c32 ?k32 ?a33 ?l33 ?c33 ?k33 ?a34 ?l34 ?c34 ?k34 ?a35 ?l35 ?c35 ?k35 ?a36 ?l36 ?c36 ?k36 ?a37 ?l37 ?c37 ?k37 ?a38 ?l38 ?c38 ?k38 ?a39 ?l39 ?c39 ?k39 ?a40 ?l40 ?c40 ?k40 ?a41 ?l41 ?c41 ?k41 ?a42 ?l42 ?c42 ?k42 ?a43 ?l43 ?c43 ?k43 ?a44 ?l44 ?c44 ?k44 ?a45 ?l45 ?c45 ?k45 ?a46 ?l46 ?c46 ?k46 ?a47 ?l47 ?c47 ?k47 ?a48 ?l48 ?c48 ?k48 ?a49 ?l49 ?c49 ?k49 ?x0 ?dl23 ?dl29 ?c1k ?c0t ?b9a ?b5l ?b5s ?b6i ?b5p ?d0h ?c9p ?c5d ?c3s ?c5g ?b9x ?b9y ?c0i ?c1e ?d7k ?d8y ?c3n ?c6b ?c4n ?b9i ?c0h ?c0l ?b9w ?d7m ?d6a ?b9t ?b9s ?b8r ?b5u ?b6c ?b6d ?b5w ?d0l ?d0u ?a6l ?a5p ?c4a ?c5b ?c5v ?c0o ?b8x ?c1h ?b9j ?d4k ?d4y ?mf0 ?mf1 ?mf2 ?mf3 ?mf4 ?mf5 ?mf6 ?mf7 ?mf8 ?mf9 ?mf10 ?mf11 ?mf12 ?mf13 ?mf14 ?mf15 ?mf16 ?mf17 ?tgx ?ttx ?n0 ?z0 ?z1 ?z2 ?z3 ?z4 ?z5 ?z6 ?z7 ?z8 ?z9 ?z10
  (case e0=>k_is)
  (case e1=>k_is)
  (case e2=>k_is)
  (case e3=>k_is)
  (case e4=>k_is)
  (case e5=>k_is)
  (case e6=>k_is)
  (case a0=>k_is);(case l0=>k_is);(case c0=>k_is);(case k0=>k_is)
  (case a1=>k_is);(case l1=>k_is);(case c1=>k_is);(case k1=>k_is)
  (case a2=>k_is);(case l2=>k_is);(case c2=>k_is);(case k2=>k_is)
  (case a3=>k_is);(case l3=>k_is);(case c3=>k_is);(case k3=>k_is)
  (case a4=>k_is);(case l4=>k_is);(case c4=>k_is);(case k4=>k_is)
  (case a5=>k_is);(case l5=>k_is);(case c5=>k_is);(case k5=>k_is)
  (case a6=>k_is);(case l6=>k_is);(case c6=>k_is);(case k6=>k_is)
  (case a7=>k_is);(case l7=>k_is);(case c7=>k_is);(case k7=>k_is)
  (case a8=>k_is);(case l8=>k_is);(case c8=>k_is);(case k8=>k_is)
  (case a9=>k_is);(case l9=>k_is);(case c9=>k_is);(case k9=>k_is)
  (case a10=>k_is);(case l10=>k_is);(case c10=>k_is);(case k10=>k_is)
  (case a11=>k_is);(case l11=>k_is);(case c11=>k_is);(case k11=>k_is)
  (case a12=>k_is);(case l12=>k_is);(case c12=>k_is);(case k12=>k_is)
  (case a13=>k_is);(case l13=>k_is);(case c13=>k_is);(case k13=>k_is)
  (case a14=>k_is);(case l14=>k_is);(case c14=>k_is);(case k14=>k_is)
  (case a15=>k_is);(case l15=>k_is);(case c15=>k_is);(case k15=>k_is)
  (case a16=>k_is);(case l16=>k_is);(case c16=>k_is);(case k16=>k_is)
  (case a17=>k_is);(case l17=>k_is);(case c17=>k_is);(case k17=>k_is)
  (case a18=>k_is);(case l18=>k_is);(case c18=>k_is);(case k18=>k_is)
  (case a19=>k_is);(case l19=>k_is);(case c19=>k_is);(case k19=>k_is)
  (case a20=>k_is);(case l20=>k_is);(case c20=>k_is);(case k20=>k_is)
  (case a21=>k_is);(case l21=>k_is);(case c21=>k_is);(case k21=>k_is)
  (case a22=>k_is);(case l22=>k_is);(case c22=>k_is);(case k22=>k_is)
  (case a23=>k_is);(case l23=>k_is);(case c23=>k_is);(case k23=>k_is)
  (case a24=>k_is);(case l24=>k_is);(case c24=>k_is);(case k24=>k_is)
  (case a25=>k_is);(case l25=>k_is);(case c25=>k_is);(case k25=>k_is)
  (case a26=>k_is);(case l26=>k_is);(case c26=>k_is);(case k26=>k_is)
  (case a27=>k_is);(case l27=>k_is);(case c27=>k_is);(case k27=>k_is)
  (case a28=>k_is);(case l28=>k_is);(case c28=>k_is);(case k28=>k_is)
  (case a29=>k_is);(case l29=>k_is);(case c29=>k_is);(case k29=>k_is)
  (case a30=>k_is);(case l30=>k_is);(case c30=>k_is);(case k30=>k_is)
  (case a31=>k_is);(case l31=>k_is);(case c31=>k_is);(case k31=>k_is)
  (case a32=>k_is);(case l32=>k_is);(case c32=>k_is);(case k32=>k_is)
  (case a33=>k_is);(case l33=>k_is);(case c33=>k_is);(case k33=>k_is)
  (case a34=>k_is);(case l34=>k_is);(case c34=>k_is);(case k34=>k_is)
  (case a35=>k_is);(case l35=>k_is);(case c35=>k_is);(case k35=>k_is)
  (case a36=>k_is);(case l36=>k_is);(case c36=>k_is);(case k36=>k_is)
  (case a37=>k_is);(case l37=>k_is);(case c37=>k_is);(case k37=>k_is)
  (case a38=>k_is);(case l38=>k_is);(case c38=>k_is);(case k38=>k_is)
  (case a39=>k_is);(case l39=>k_is);(case c39=>k_is);(case k39=>k_is)
  (case a40=>k_is);(case l40=>k_is);(case c40=>k_is);(case k40=>k_is)
  (case a41=>k_is);(case l41=>k_is);(case c41=>k_is);(case k41=>k_is)
  (case a42=>k_is);(case l42=>k_is);(case c42=>k_is);(case k42=>k_is)
  (case a43=>k_is);(case l43=>k_is);(case c43=>k_is);(case k43=>k_is)
  (case a44=>k_is);(case l44=>k_is);(case c44=>k_is);(case k44=>k_is)
  (case a45=>k_is);(case l45=>k_is);(case c45=>k_is);(case k45=>k_is)
  (case a46=>k_is);(case l46=>k_is);(case c46=>k_is);(case k46=>k_is)
  (case a47=>k_is);(case l47=>k_is);(case c47=>k_is);(case k47=>k_is)
  (case a48=>k_is);(case l48=>k_is);(case c48=>k_is);(case k48=>k_is)
  (case a49=>k_is);(case l49=>k_is);(case c49=>k_is);(case k49=>k_is)
  (case x0=>k_exc)
  (case dl23=>k_is)
  (case dl29=>k_is)
  (case c1k=>k_is)
  (case c0t=>k_is)
  (case b9a=>k_is)
  (case b5l=>k_is)
  (case b5s=>k_is)
  (case b6i=>k_is)
  (case b5p=>k_is)
  (case d0h=>k_is)
  (case c9p=>k_is)
  (case c5d=>k_is)
  (case c3s=>k_is)
  (case c5g=>k_is)
  (case b9x=>k_is)
  (case b9y=>k_is)
  (case c0i=>k_is)
  (case c1e=>k_is)
  (case d7k=>k_is)
  (case d8y=>k_is)
  (case c3n=>k_is)
  (case c6b=>k_is)
  (case c4n=>k_is)
  (case b9i=>k_is)
  (case c0h=>k_is)
  (case c0l=>k_is)
  (case b9w=>k_is)
  (case d7m=>k_is)
  (case d6a=>k_is)
  (case b9t=>k_is)
  (case b9s=>k_is)
  (case b8r=>k_is)
  (case b5u=>k_is)
  (case b6c=>k_is)
  (case b6d=>k_is)
  (case b5w=>k_is)
  (case d0l=>k_is)
  (case d0u=>k_is)
  (case a6l=>k_is)
  (case a5p=>k_is)
  (case c4a=>k_is)
  (case c5b=>k_is)
  (case c5v=>k_is)
  (case c0o=>k_is)
  (case b8x=>k_is)
  (case c1h=>k_is)
  (case b9j=>k_is)
  (case d4k=>k_is)
  (case d4y=>k_is)
  (case mf0=>k_is)
  (case mf1=>k_is)
  (case mf2=>k_is)
  (case mf3=>k_is)
  (case mf4=>k_is)
  (case mf5=>k_is)
  (case mf6=>k_is)
  (case mf7=>k_is)
  (case mf8=>k_is)
  (case mf9=>k_is)
  (case mf10=>k_is)
  (case mf11=>k_is)
  (case mf12=>k_is)
  (case mf13=>k_is)
  (case mf14=>k_is)
  (case mf15=>k_is)
  (case mf16=>k_is)
  (case mf17=>k_is)
  (case tgx=>k_is)
  (case ttx=>k_is)
  (case n0=>k_is)
  (case z0=>k_is)
  (case z1=>k_is)
  (case z2=>k_is)
  (case z3=>k_is)
  (case z4=>k_is)
  (case z5=>k_is)
  (case z6=>k_is)
  (case z7=>k_is)
  (case z8=>k_is)
  (case z9=>k_is)
  (case z10=>k_is)
