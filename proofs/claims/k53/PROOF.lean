import PyProof.Rows.All
import Wide.All
import OpenK.AllK
import Wide.FinOn
import Lean
import PyProof.EqAt
import PyProof.EqKinds
import PyProof.TupleCall
import PySem.Challenge.RW_skewhouse_k53_histories_refused
theorem nx0 {A B:Type} {N O Z:A->B->Prop} (a:A) (b:B) (n:N a b) (o:O a b) (z:Z a b):∃ a b,N a b/\O a b/\Z a b:=⟨a,b,n,o,z⟩
theorem nx1 {A B:Type} {N:A->Prop} {Z:A->B->Prop} (a:A) (n:N a) (b:B) (z:Z a b):∃ a,N a/\∃ b,Z a b:=⟨a,n,b,z⟩
theorem nx2 {A B C:Type} {N O P Q Z:A->B->C->Prop} (a:A) (b:B) (c:C) (n:N a b c) (o:O a b c) (p:P a b c) (q:Q a b c) (z:Z a b c):∃ a b c,N a b c/\O a b c/\P a b c/\Q a b c/\Z a b c:=⟨a,b,c,n,o,p,q,z⟩
theorem nx3 {A B:Type} {Z:A->B->Prop} (a:A) (b:B) (z:Z a b):∃ a b,Z a b:=⟨a,b,z⟩
theorem nx4 {A B:Type} {N O:A->Prop} {P Z:A->B->Prop} (a:A) (n:N a) (o:O a) (b:B) (p:P a b) (z:Z a b):∃ a,N a/\O a/\∃ b,P a b/\Z a b:=⟨a,n,o,b,p,z⟩
theorem nx5 {A B C:Type} {N:A->Prop} {O P Z:A->B->C->Prop} (a:A) (n:N a) (b:B) (c:C) (o:O a b c) (p:P a b c) (z:Z a b c):∃ a,N a/\∃ b c,O a b c/\P a b c/\Z a b c:=⟨a,n,b,c,o,p,z⟩
theorem nx6 {A B:Type} {N:A->Prop} {O Z:A->B->Prop} (a:A) (n:N a) (b:B) (o:O a b) (z:Z a b):∃ a,N a/\∃ b,O a b/\Z a b:=⟨a,n,b,o,z⟩
theorem nx7 {A B:Type} {N O P Z:A->B->Prop} (a:A) (b:B) (n:N a b) (o:O a b) (p:P a b) (z:Z a b):∃ a b,N a b/\O a b/\P a b/\Z a b:=⟨a,b,n,o,p,z⟩
theorem nx8 {A B C D:Type} {N O P Q Z:A->B->C->D->Prop} (a:A) (b:B) (c:C) (d:D) (n:N a b c d) (o:O a b c d) (p:P a b c d) (q:Q a b c d) (z:Z a b c d):∃ a b c d,N a b c d/\O a b c d/\P a b c d/\Q a b c d/\Z a b c d:=⟨a,b,c,d,n,o,p,q,z⟩
theorem nx9 {A B C D E F:Type} {N:A->Prop} {O P Q R:A->B->C->D->E->Prop} {S Z:A->B->C->D->E->F->Prop} (a:A) (n:N a) (b:B) (c:C) (d:D) (e:E) (o:O a b c d e) (p:P a b c d e) (q:Q a b c d e) (r:R a b c d e) (f:F) (s:S a b c d e f) (z:Z a b c d e f):∃ a,N a/\∃ b c d e,O a b c d e/\P a b c d e/\Q a b c d e/\R a b c d e/\∃ f,S a b c d e f/\Z a b c d e f:=⟨a,n,b,c,d,e,o,p,q,r,f,s,z⟩
theorem nx10 {A B C D E F G:Type} {Z:A->B->C->D->E->F->G->Prop} (a:A) (b:B) (c:C) (d:D) (e:E) (f:F) (g:G) (z:Z a b c d e f g):∃ a b c d e f g,Z a b c d e f g:=⟨a,b,c,d,e,f,g,z⟩
theorem nx11 {A B C D E:Type} {N:A->Prop} {O P Q Z:A->B->C->D->E->Prop} (a:A) (n:N a) (b:B) (c:C) (d:D) (e:E) (o:O a b c d e) (p:P a b c d e) (q:Q a b c d e) (z:Z a b c d e):∃ a,N a/\∃ b c d e,O a b c d e/\P a b c d e/\Q a b c d e/\Z a b c d e:=⟨a,n,b,c,d,e,o,p,q,z⟩
theorem nx12 {A B:Type} {N Z:A->B->Prop} (a:A) (b:B) (n:N a b) (z:Z a b):∃ a b,N a b/\Z a b:=⟨a,b,n,z⟩
theorem nx13 {A B C D E:Type} {N O P Q R S T Z:A->B->C->D->E->Prop} (a:A) (b:B) (c:C) (d:D) (e:E) (n:N a b c d e) (o:O a b c d e) (p:P a b c d e) (q:Q a b c d e) (r:R a b c d e) (s:S a b c d e) (t:T a b c d e) (z:Z a b c d e):∃ a b c d e,N a b c d e/\O a b c d e/\P a b c d e/\Q a b c d e/\R a b c d e/\S a b c d e/\T a b c d e/\Z a b c d e:=⟨a,b,c,d,e,n,o,p,q,r,s,t,z⟩
theorem nx14 {A B C:Type} {N O P Q:A->B->Prop} {R Z:A->B->C->Prop} (a:A) (b:B) (n:N a b) (o:O a b) (p:P a b) (q:Q a b) (c:C) (r:R a b c) (z:Z a b c):∃ a b,N a b/\O a b/\P a b/\Q a b/\∃ c,R a b c/\Z a b c:=⟨a,b,n,o,p,q,c,r,z⟩
theorem nx15 {A B C D:Type} {N:A->Prop} {O:A->B->Prop} {P Q Z:A->B->C->D->Prop} (a:A) (n:N a) (b:B) (o:O a b) (c:C) (d:D) (p:P a b c d) (q:Q a b c d) (z:Z a b c d):∃ a,N a/\∃ b,O a b/\∃ c d,P a b c d/\Q a b c d/\Z a b c d:=⟨a,n,b,o,c,d,p,q,z⟩
theorem nx16 {A B C:Type} {N O:A->Prop} {P Q Z:A->B->C->Prop} (a:A) (n:N a) (o:O a) (b:B) (c:C) (p:P a b c) (q:Q a b c) (z:Z a b c):∃ a,N a/\O a/\∃ b c,P a b c/\Q a b c/\Z a b c:=⟨a,n,o,b,c,p,q,z⟩
theorem nx17 {A B:Type} {N:A->Prop} {O P Z:A->B->Prop} (a:A) (n:N a) (b:B) (o:O a b) (p:P a b) (z:Z a b):∃ a,N a/\∃ b,O a b/\P a b/\Z a b:=⟨a,n,b,o,p,z⟩
theorem nx18 {A B C:Type} {N Z:A->B->C->Prop} (a:A) (b:B) (c:C) (n:N a b c) (z:Z a b c):∃ a b c,N a b c/\Z a b c:=⟨a,b,c,n,z⟩
theorem nx19 {A B C:Type} {N:A->Prop} {O P Q Z:A->B->C->Prop} (a:A) (n:N a) (b:B) (c:C) (o:O a b c) (p:P a b c) (q:Q a b c) (z:Z a b c):∃ a,N a/\∃ b c,O a b c/\P a b c/\Q a b c/\Z a b c:=⟨a,n,b,c,o,p,q,z⟩
theorem nx20 {A B C D E F:Type} {N:A->Prop} {O:A->B->Prop} {P Q R S Z:A->B->C->D->E->F->Prop} (a:A) (n:N a) (b:B) (o:O a b) (c:C) (d:D) (e:E) (f:F) (p:P a b c d e f) (q:Q a b c d e f) (r:R a b c d e f) (s:S a b c d e f) (z:Z a b c d e f):∃ a,N a/\∃ b,O a b/\∃ c d e f,P a b c d e f/\Q a b c d e f/\R a b c d e f/\S a b c d e f/\Z a b c d e f:=⟨a,n,b,o,c,d,e,f,p,q,r,s,z⟩
theorem nx21 {A B C D E:Type} {N:A->Prop} {O P Q R Z:A->B->C->D->E->Prop} (a:A) (n:N a) (b:B) (c:C) (d:D) (e:E) (o:O a b c d e) (p:P a b c d e) (q:Q a b c d e) (r:R a b c d e) (z:Z a b c d e):∃ a,N a/\∃ b c d e,O a b c d e/\P a b c d e/\Q a b c d e/\R a b c d e/\Z a b c d e:=⟨a,n,b,c,d,e,o,p,q,r,z⟩
theorem nx22 {A B C:Type} {N O P:A->B->Prop} {Z:A->B->C->Prop} (a:A) (b:B) (n:N a b) (o:O a b) (p:P a b) (c:C) (z:Z a b c):∃ a b,N a b/\O a b/\P a b/\∃ c,Z a b c:=⟨a,b,n,o,p,c,z⟩
theorem nx23 {A B C D:Type} {N:A->Prop} {O P:A->B->C->Prop} {Q Z:A->B->C->D->Prop} (a:A) (n:N a) (b:B) (c:C) (o:O a b c) (p:P a b c) (d:D) (q:Q a b c d) (z:Z a b c d):∃ a,N a/\∃ b c,O a b c/\P a b c/\∃ d,Q a b c d/\Z a b c d:=⟨a,n,b,c,o,p,d,q,z⟩
theorem nx24 {A B C D:Type} {N O P Q R Z:A->B->C->D->Prop} (a:A) (b:B) (c:C) (d:D) (n:N a b c d) (o:O a b c d) (p:P a b c d) (q:Q a b c d) (r:R a b c d) (z:Z a b c d):∃ a b c d,N a b c d/\O a b c d/\P a b c d/\Q a b c d/\R a b c d/\Z a b c d:=⟨a,b,c,d,n,o,p,q,r,z⟩
theorem nx25 {A B:Type} {N O P Q Z:A->B->Prop} (a:A) (b:B) (n:N a b) (o:O a b) (p:P a b) (q:Q a b) (z:Z a b):∃ a b,N a b/\O a b/\P a b/\Q a b/\Z a b:=⟨a,b,n,o,p,q,z⟩
theorem nx26 {A B:Type} {N O:A->Prop} {Z:A->B->Prop} (a:A) (n:N a) (o:O a) (b:B) (z:Z a b):∃ a,N a/\O a/\∃ b,Z a b:=⟨a,n,o,b,z⟩
theorem nx27 {A B C D E F:Type} {N:A->Prop} {O P Q R:A->B->C->D->E->Prop} {S T Z:A->B->C->D->E->F->Prop} (a:A) (n:N a) (b:B) (c:C) (d:D) (e:E) (o:O a b c d e) (p:P a b c d e) (q:Q a b c d e) (r:R a b c d e) (f:F) (s:S a b c d e f) (t:T a b c d e f) (z:Z a b c d e f):∃ a,N a/\∃ b c d e,O a b c d e/\P a b c d e/\Q a b c d e/\R a b c d e/\∃ f,S a b c d e f/\T a b c d e f/\Z a b c d e f:=⟨a,n,b,c,d,e,o,p,q,r,f,s,t,z⟩
theorem nx28 {A B:Type} {N O P:A->Prop} {Q Z:A->B->Prop} (a:A) (n:N a) (o:O a) (p:P a) (b:B) (q:Q a b) (z:Z a b):∃ a,N a/\O a/\P a/\∃ b,Q a b/\Z a b:=⟨a,n,o,p,b,q,z⟩
theorem nx29 {A B C:Type} {N O Z:A->B->C->Prop} (a:A) (b:B) (c:C) (n:N a b c) (o:O a b c) (z:Z a b c):∃ a b c,N a b c/\O a b c/\Z a b c:=⟨a,b,c,n,o,z⟩
theorem nx30 {A B C D E:Type} {N:A->Prop} {O:A->B->Prop} {P:A->B->C->Prop} {Q R Z:A->B->C->D->E->Prop} (a:A) (n:N a) (b:B) (o:O a b) (c:C) (p:P a b c) (d:D) (e:E) (q:Q a b c d e) (r:R a b c d e) (z:Z a b c d e):∃ a,N a/\∃ b,O a b/\∃ c,P a b c/\∃ d e,Q a b c d e/\R a b c d e/\Z a b c d e:=⟨a,n,b,o,c,p,d,e,q,r,z⟩
theorem nx31 {A B C:Type} {N O:A->B->Prop} {P Z:A->B->C->Prop} (a:A) (b:B) (n:N a b) (o:O a b) (c:C) (p:P a b c) (z:Z a b c):∃ a b,N a b/\O a b/\∃ c,P a b c/\Z a b c:=⟨a,b,n,o,c,p,z⟩
theorem nx32 {A B C:Type} {Z:A->B->C->Prop} (a:A) (b:B) (c:C) (z:Z a b c):∃ a b c,Z a b c:=⟨a,b,c,z⟩
theorem nx33 {A B C D:Type} {N O P Q R S T U Z:A->B->C->D->Prop} (a:A) (b:B) (c:C) (d:D) (n:N a b c d) (o:O a b c d) (p:P a b c d) (q:Q a b c d) (r:R a b c d) (s:S a b c d) (t:T a b c d) (u:U a b c d) (z:Z a b c d):∃ a b c d,N a b c d/\O a b c d/\P a b c d/\Q a b c d/\R a b c d/\S a b c d/\T a b c d/\U a b c d/\Z a b c d:=⟨a,b,c,d,n,o,p,q,r,s,t,u,z⟩
theorem nx34 {A B C D E F:Type} {N O P:A->B->Prop} {Q:A->B->C->D->Prop} {R Z:A->B->C->D->E->F->Prop} (a:A) (b:B) (n:N a b) (o:O a b) (p:P a b) (c:C) (d:D) (q:Q a b c d) (e:E) (f:F) (r:R a b c d e f) (z:Z a b c d e f):∃ a b,N a b/\O a b/\P a b/\∃ c d,Q a b c d/\∃ e f,R a b c d e f/\Z a b c d e f:=⟨a,b,n,o,p,c,d,q,e,f,r,z⟩
theorem nx35 {A B C D:Type} {N:A->Prop} {O:A->B->Prop} {P:A->B->C->Prop} {Z:A->B->C->D->Prop} (a:A) (n:N a) (b:B) (o:O a b) (c:C) (p:P a b c) (d:D) (z:Z a b c d):∃ a,N a/\∃ b,O a b/\∃ c,P a b c/\∃ d,Z a b c d:=⟨a,n,b,o,c,p,d,z⟩
theorem nx36 {A B C D E:Type} {N O P Q R Z:A->B->C->D->E->Prop} (a:A) (b:B) (c:C) (d:D) (e:E) (n:N a b c d e) (o:O a b c d e) (p:P a b c d e) (q:Q a b c d e) (r:R a b c d e) (z:Z a b c d e):∃ a b c d e,N a b c d e/\O a b c d e/\P a b c d e/\Q a b c d e/\R a b c d e/\Z a b c d e:=⟨a,b,c,d,e,n,o,p,q,r,z⟩
theorem nx37 {A B C D E F G H I:Type} {Z:A->B->C->D->E->F->G->H->I->Prop} (a:A) (b:B) (c:C) (d:D) (e:E) (f:F) (g:G) (h:H) (i:I) (z:Z a b c d e f g h i):∃ a b c d e f g h i,Z a b c d e f g h i:=⟨a,b,c,d,e,f,g,h,i,z⟩
theorem nx38 {A B C D:Type} {N:A->Prop} {Z:A->B->C->D->Prop} (a:A) (n:N a) (b:B) (c:C) (d:D) (z:Z a b c d):∃ a,N a/\∃ b c d,Z a b c d:=⟨a,n,b,c,d,z⟩
theorem nx39 {A B C D:Type} {N O P Z:A->B->C->D->Prop} (a:A) (b:B) (c:C) (d:D) (n:N a b c d) (o:O a b c d) (p:P a b c d) (z:Z a b c d):∃ a b c d,N a b c d/\O a b c d/\P a b c d/\Z a b c d:=⟨a,b,c,d,n,o,p,z⟩
theorem nx40 {A B C D E:Type} {N:A->Prop} {O P Q R S Z:A->B->C->D->E->Prop} (a:A) (n:N a) (b:B) (c:C) (d:D) (e:E) (o:O a b c d e) (p:P a b c d e) (q:Q a b c d e) (r:R a b c d e) (s:S a b c d e) (z:Z a b c d e):∃ a,N a/\∃ b c d e,O a b c d e/\P a b c d e/\Q a b c d e/\R a b c d e/\S a b c d e/\Z a b c d e:=⟨a,n,b,c,d,e,o,p,q,r,s,z⟩
theorem nx41 {A B C:Type} {N:A->Prop} {O Z:A->B->C->Prop} (a:A) (n:N a) (b:B) (c:C) (o:O a b c) (z:Z a b c):∃ a,N a/\∃ b c,O a b c/\Z a b c:=⟨a,n,b,c,o,z⟩
theorem nx42 {A B C:Type} {N O:A->Prop} {P Q R Z:A->B->C->Prop} (a:A) (n:N a) (o:O a) (b:B) (c:C) (p:P a b c) (q:Q a b c) (r:R a b c) (z:Z a b c):∃ a,N a/\O a/\∃ b c,P a b c/\Q a b c/\R a b c/\Z a b c:=⟨a,n,o,b,c,p,q,r,z⟩
theorem nx43 {A B C:Type} {N O:A->Prop} {P:A->B->Prop} {Q Z:A->B->C->Prop} (a:A) (n:N a) (o:O a) (b:B) (p:P a b) (c:C) (q:Q a b c) (z:Z a b c):∃ a,N a/\O a/\∃ b,P a b/\∃ c,Q a b c/\Z a b c:=⟨a,n,o,b,p,c,q,z⟩
theorem nx44 {A B C:Type} {N O P Q R Z:A->B->C->Prop} (a:A) (b:B) (c:C) (n:N a b c) (o:O a b c) (p:P a b c) (q:Q a b c) (r:R a b c) (z:Z a b c):∃ a b c,N a b c/\O a b c/\P a b c/\Q a b c/\R a b c/\Z a b c:=⟨a,b,c,n,o,p,q,r,z⟩
local macro_rules
 | `(tactic| lia)=>`(tactic| first | assumption | exact Nat.le_refl _ | exact Nat.le_of_lt (by assumption) | exact Nat.lt_of_lt_of_le (by assumption) (by assumption) | lia (verbose:=false) | omega)
section
open PySem PySem.Spec PySem.W PyProof.Rows PyProof PySem.SeqAt
abbrev z00:=@wpAny_bind
abbrev z01:=@if_neg
abbrev z02:=@if_pos
abbrev z03:=@List.length_map
abbrev z04:=@Nat.le_refl
abbrev z05:=@wpAny_pure
abbrev z06:=@List.mem_cons
abbrev z07:=@decide_eq_true
abbrev z08:=@List.mem_append
abbrev z09:=@Heap.lt_size
abbrev z0a:=@List.mem_map
abbrev z0b:=@of_decide_eq_true
abbrev z0c:=@List.getElem?_eq_getElem
abbrev z0d:=@strLen_append
abbrev z0e:=@congrArg
abbrev z0f:=@List.getElem?_map
abbrev z0g:=@List.mem_cons_self
abbrev z0h:=@List.mem_of_getElem?
abbrev z0i:=@List.getElem?_eq_some_iff
abbrev z0j:=@wpAny_mono
abbrev z0k:=@Heap.get?_push_of_some
abbrev z0l:=@Nat.ne_of_lt
abbrev z0m:=@List.map_append
abbrev z0n:=@ext_toList
abbrev z0o:=@List.mem_singleton
abbrev z0p:=@List.mem_cons_of_mem
abbrev z0q:=@List.map_cons
abbrev z0r:=@List.length_append
abbrev z0s:=@Nat.le_trans
abbrev z0t:=@List.map_map
abbrev z0u:=@List.mem_append_right
abbrev z0v:=@decide_eq_false
abbrev z0w:=@Nat.lt_of_lt_of_le
abbrev z0x:=@Nat.zero_le
abbrev z0y:=@F.plainAttrs_str
abbrev z0z:=@boot_len
abbrev z10:=@List.length_eq_one_iff
abbrev z11:=@PassesOwn.never
abbrev z12:=@List.length_cons
abbrev z13:=@Bool.and_eq_true
abbrev z14:=@List.length_take
abbrev z15:=@List.nodup_cons
abbrev z16:=@List.take_length
abbrev z17:=@List.size_toArray
abbrev z18:=@wpAny_holding
abbrev z19:=@List.mem_append_left
abbrev z1a:=@Heap.get?_push_size
abbrev z1b:=@Ne.symm
abbrev z1c:=@decide_eq_true_eq
abbrev z1d:=@List.all_eq_true
abbrev z1e:=@List.append_nil
abbrev z1f:=@Bool.false_ne_true
abbrev z1g:=@Option.some.inj
abbrev z1h:=@Int.emod_nonneg
abbrev z1i:=@List.filterMap_cons
abbrev z1j:=@List.sum_cons
abbrev z1k:=@List.getElem_mem
abbrev z1l:=@List.append_assoc
abbrev z1m:=@List.take_add_one
abbrev z1n:=@wpAny_field
abbrev z1o:=@Int.emod_lt_of_pos
abbrev z1p:=@mg_none_of
abbrev z1q:=@Nat.lt_irrefl
abbrev z1r:=@List.not_mem_nil
abbrev z1s:=@List.getElem_of_mem
abbrev z1t:=@List.find?_cons
abbrev z1u:=@List.length_singleton
abbrev z1v:=@or_false
abbrev z1w:=@F.plainAttrs_list
abbrev z1x:=@Bool.eq_iff_iff
abbrev z1y:=@List.filterMap_eq_map
abbrev z1z:=@W.kia_one
abbrev z20:=@F.type_list_append
abbrev z21:=@Array.length_toList
abbrev z22:=@List.mem_filter
abbrev z23:=@F.slot_list_append
abbrev z25:=@W.kia_tup
abbrev z26:=@typeIs_str
abbrev z27:=@List.mem_filterMap
abbrev z28:=@Bool.eq_false_iff
abbrev z29:=@List.length_drop
abbrev z2a:=@Array.getElem?_toList
abbrev z2b:=@boot_isinstance
abbrev z2c:=@beq_iff_eq
abbrev z2d:=@List.any_cons
abbrev z2e:=@List.getElem?_append_right
abbrev z2f:=@codeAny_builtin
abbrev z2g:=@List.lookup_cons
abbrev z2h:=@F.slot_str_join
abbrev z2i:=@F.slot_str_split
abbrev z2j:=@F.type_str_split
abbrev z2k:=@Sum.inl.inj
abbrev z2l:=@Heap.get?_update_self
abbrev z2m:=@codeAny_mono
abbrev z2n:=@wpAny_standAt
abbrev z2o:=@wpAny_Call_Name_kw
abbrev z2p:=@List.pairwise_map
abbrev z2q:=@List.getElem?_set_ne
abbrev z2r:=@List.pairwise_cons
abbrev z2s:=@wpAny_setField
abbrev z2t:=@wpAny_loadPart_at
abbrev z2u:=@Heap.get?_none_of_le
abbrev z2v:=@List.filterMap_append
abbrev z2w:=@List.mem_or_eq_of_mem_set
abbrev z2x:=@W.Looks.at
abbrev z2y:=@Bool.true_and
abbrev z2z:=@wpAny_execs_nil
abbrev z30:=@PySem.mem_of_lookup
abbrev z32:=@F.type_str_join
abbrev z33:=@F.called_set
abbrev z34:=@List.getElem?_set_self
abbrev z35:=@Array.getElem?_eq_some_iff
abbrev z36:=@List.pairwise_singleton
abbrev z37:=@List.length_nil
abbrev z38:=@Nat.lt_trans
abbrev z39:=@List.getElem?_append_left
abbrev z3a:=@call_meets
abbrev z3b:=@Paired.length
abbrev z3c:=@wpAny_truthy_bool
abbrev z3d:=@Option.map_eq_some_iff
abbrev z3e:=@List.length_replicate
abbrev z3f:=@List.take_of_length_le
abbrev z3g:=@PySem.StrLaws.join_split
abbrev z3h:=@List.eq_nil_of_length_eq_zero
abbrev z3i:=@List.mem_of_mem_take
abbrev z3j:=@List.drop_eq_nil_of_le
abbrev z3k:=@Heap.SameBut.update
abbrev z3l:=@List.pairwise_iff_getElem
abbrev z3m:=@Nat.lt_of_le_of_lt
abbrev z3n:=@Heap.size_push
abbrev z3o:=@wpAny_passesOwn
abbrev z3p:=@List.sum_append
abbrev z3q:=@List.length_set
abbrev z3r:=@Calls.spliced_cons
abbrev z3s:=@Txt.slice_le
abbrev z3t:=@plainId_quiet
abbrev z3u:=@Calls.spliced_nil
abbrev z3v:=@List.pairwise_append
abbrev z3w:=@wpAny_seqItems
abbrev z3x:=@List.map_set
abbrev z3y:=@Obj.data_mapFields
abbrev z3z:=@Nat.le_of_lt
abbrev z40:=@List.range_succ
abbrev z41:=@List.getD_eq_getElem?_getD
abbrev z42:=@wpAny_execs_cons
abbrev z43:=@Int.toNat_natCast
abbrev z44:=@List.nodup_append
abbrev z45:=@PyProof.Rows.callWith_type1
abbrev z46:=@List.map_take
abbrev z47:=@Option.mem_toList
abbrev z48:=@Bool.or_eq_true
abbrev z49:=@Option.map_some
abbrev z4a:=@wpAny_setField_rec
abbrev z4b:=@List.getElem_take
abbrev z4c:=@List.mem_of_mem_drop
abbrev z4d:=@wpAny_newObj_type
abbrev z4e:=@Nat.lt_trichotomy
abbrev z4f:=@List.drop_eq_getElem_cons
abbrev z4g:=@Nat.lt_succ_self
abbrev z4h:=@wpAny_pyIter_list
abbrev z4i:=@List.filter_cons
abbrev z4j:=@List.any_eq_true
abbrev z4k:=@PySem.StrLaws.strSub_toList
abbrev z4l:=@F.type_str_partition
abbrev z4m:=@Bool.not_eq_true'
abbrev z4n:=@F.slot_str_partition
abbrev z4o:=@List.length_pos_iff
abbrev z4p:=@List.length_range
abbrev z4q:=@W.hideAll_get
abbrev z4r:=@F.slot_str_find
abbrev z4s:=@List.take_append_drop
abbrev z4t:=@W.kitx_list
abbrev z4u:=@W.of_hideAll
abbrev z4v:=@W.hideAll_none
abbrev z4w:=@Calls.evalArgs_plain
abbrev z4x:=@W.kitx_dict
abbrev z4y:=@F.excBase_ValueError
abbrev z4z:=@Array.getElem?_eq_getElem
abbrev z50:=@F.slot_str_startswith
abbrev z51:=@List.takeWhile_cons
abbrev z52:=@W.callWith_K
abbrev z53:=@codeAny_call_builtin
abbrev z54:=@Nat.eq_zero_or_pos
abbrev z55:=@wpAny_getItem_str_slice
abbrev z56:=@Heap.get?_update_other
abbrev z57:=@Around.under_plainId
abbrev z58:=@List.filter_append
abbrev z59:=@Nat.mul_le_mul_right
abbrev z5a:=@decide_eq_true_iff
abbrev z5b:=@Option.isSome_iff_exists
abbrev z5c:=@F.slot_list_getattribute
abbrev z5d:=@F.type_str_startswith
abbrev z5e:=@Calls.Name_function_global
abbrev z5f:=@PyProof.Rows.F.plain_set_update_loop
abbrev z5g:=@List.exists_cons_of_length_eq_add_one
end
set_option genSizeOf false
noncomputable section
set_option Elab.async false
set_option linter.all false
set_option maxRecDepth 100000
namespace L2
open PySem PySem.Spec PyProof.Rows
abbrev Key:=Sum Int Str
def c9d:Key->Value->Bool
 | .inl k,v=>Value.isInt k v
 | .inr x,v=>Value.isStrOf x v
def e8r (w:World):Key->Int
 | .inl k=>hashInt k
 | .inr x=>hashStr w x
theorem a2w:∀ {k:Key} {v:Value},c9d k v=true->(∃ i t,k=Sum.inl i/\v=Value.int i t)\/(∃ x t,k=Sum.inr x/\v=Value.str x t)
 | .inl i,v,h=>by
  obtain⟨t,e⟩:=Value.isInt_shape h;exact .inl (nx12 i t rfl e)
 | .inr x,v,h=>by
  obtain⟨t,e⟩:=Value.isStrOf_shape h;exact .inr (nx12 x t rfl e)
theorem d3p (i:Int) (t:Tok):c9d (.inl i) (.int i t)=true:=by simp[c9d,Value.isInt]
theorem d2c (x:Str) (t:Tok):c9d (.inr x) (.str x t)=true:=by simp[c9d,Value.isStrOf]
theorem e2y (a b:Int):decide ((Sum.inl a:Key)=Sum.inl b)=(a == b):=by
 by_cases e:a=b
 ·subst e;simp
 ·have h:¬ (Sum.inl a:Key)=Sum.inl b:=λ q=>e (z2k q)
  rw[z0v h];exact(beq_eq_false_iff_ne.mpr e).symm
theorem e4y (a b:Str):decide ((Sum.inr a:Key)=Sum.inr b)=decide (a=b):=by
 by_cases e:a=b
 ·subst e;simp
 ·have h:¬ (Sum.inr a:Key)=Sum.inr b:=λ q=>e (Sum.inr.inj q)
  rw[z0v h,z0v e]
theorem e3u (a:Int) (b:Str):decide ((Sum.inl a:Key)=Sum.inr b)=false:=z0v (λ q=>nomatch q)
theorem e4z (a:Str) (b:Int):decide ((Sum.inr a:Key)=Sum.inl b)=false:=z0v (λ q=>nomatch q)
def a2a (prog:Program) (w:World):PySem.KeyKind prog w Key where
 is:=c9d
 hash:=e8r w
 inj:=λ v a b ha hb=>by
  rcases a2w ha with ⟨i,t,rfl,rfl⟩ | ⟨x,t,rfl,rfl⟩
  ·rcases a2w hb with ⟨j,u,rfl,e⟩ | ⟨y,u,rfl,e⟩
   ·injection e with e1 _;rw[e1]
   ·exact nomatch e
  ·rcases a2w hb with ⟨j,u,rfl,e⟩ | ⟨y,u,rfl,e⟩
   ·exact nomatch e
   ·injection e with e1 _;rw[e1]
 byValue:=λ k v h=>by
  rcases a2w h with ⟨i,t,rfl,rfl⟩ | ⟨x,t,rfl,rfl⟩<;>rfl
 pyHash:=λ hv h=>by
  rcases a2w hv with ⟨i,t,rfl,rfl⟩ | ⟨x,t,rfl,rfl⟩
  ·exact wpAny_pyHash_int h
  ·exact wpAny_pyHash_str h
 eqBool:=λ hu hv h=>by
  rcases a2w hu with ⟨i,t,rfl,rfl⟩ | ⟨x,t,rfl,rfl⟩
  ·rcases a2w hv with ⟨j,u,rfl,rfl⟩ | ⟨y,u,rfl,rfl⟩
   ·rw[e2y] at h;exact wpAny_eqBool_int h
   ·rw[e3u] at h;exact SeqAt.EqAt.int_str i t y u _ _ _ _ h
  ·rcases a2w hv with ⟨j,u,rfl,rfl⟩ | ⟨y,u,rfl,rfl⟩
   ·rw[e4z] at h;exact SeqAt.EqAt.str_int x t j u _ _ _ _ h
   ·rw[e4y] at h;exact wpAny_eqBool_str h
 «strs»:=λ k x t v h=>by
  rcases a2w h with ⟨i,u,rfl,e⟩ | ⟨y,u,rfl,e⟩
  ·exact nomatch e
  ·injection e with e1 _;subst e1;cases v<;>rfl
theorem c4g (prog:Program) (w:World) (i:Int) (t:Tok):(a2a prog w).is (.inl i) (.int i t)=true:=d3p i t
theorem c3k (prog:Program) (w:World) (x:Str) (t:Tok):(a2a prog w).is (.inr x) (.str x t)=true:=d2c x t
end L2
namespace L2
open PySem PySem.Spec PyProof.Rows
inductive V where
 | non | bl (b:Bool) | int (i:Int) | str (x:Str) | byt (b:Array UInt8) | flt (b:UInt64) | ref (a:Addr) | ty (n:String)
 deriving DecidableEq
def a3c:V->Value->Prop
 | .non,u=>u=Value.none
 | .bl b,u=>u=Value.bool b
 | .int i,u=>∃ t,u=Value.int i t
 | .str x,u=>∃ t,u=Value.str x t
 | .byt b,u=>∃ t,u=Value.bytes b t
 | .flt b,u=>∃ t,u=Value.float b t
 | .ref a,u=>u=Value.ref a
 | .ty n,u=>u=Value.type n
abbrev a3b:List V->List Value->Prop:=Paired a3c
theorem a3b.length (r:a3b xs us):xs.length=us.length:=z3b r
theorem a3b.get:∀ {xs:List V} {us:List Value} {i:Nat} {x:V},a3b xs us->xs[i]?=some x->∃ u,us[i]?=some u/\a3c x u
 | _,_,_,_,.nil,e=>by simp at e
 | _,_,0,_,.cons r _,e=>by simp at e;subst e;exact⟨_,rfl,r⟩
 | _,_,i+1,x,.cons _ t,e=>by
  obtain⟨u,h1,h2⟩:=a3b.get t (by simpa using e);exact⟨u,by simpa using h1,h2⟩
theorem a3b.set (r:a3c x u):∀ {xs:List V} {us:List Value} (i:Nat),a3b xs us->a3b (xs.set i x) (us.set i u)
 | _,_,_,.nil=>.nil
 | _,_,0,.cons _ t=>.cons r t
 | _,_,i+1,.cons q t=>.cons q (a3b.set r i t)
theorem a3b.append:∀ {xs ys:List V} {us ws:List Value},a3b xs us->a3b ys ws->a3b (xs++ys) (us++ws)
 | _,_,_,_,.nil,s=>s
 | _,_,_,_,.cons r t,s=>.cons r (a3b.append t s)
theorem a3b.take:∀ {xs:List V} {us:List Value} (n:Nat),a3b xs us->a3b (xs.take n) (us.take n)
 | _,_,0,_=>.nil
 | _,_,_+1,.nil=>.nil
 | _,_,n+1,.cons r t=>.cons r (a3b.take n t)
theorem a3b.drop:∀ {xs:List V} {us:List Value} (n:Nat),a3b xs us->a3b (xs.drop n) (us.drop n)
 | _,_,0,r=>r
 | _,_,_+1,.nil=>.nil
 | _,_,n+1,.cons _ t=>a3b.drop n t
def c8i:Option V->Option Value->Prop
 | some v,some u=>a3c v u
 | none,none=>True
 | _,_=>False
def KV {κ:Type}:List (κ×V)->List (κ×Value)->Prop:=Paired λ (p:κ×V) (q:κ×Value)=>p.1=q.1/\a3c p.2 q.2
def kV:Key->V
 | .inl i=>.int i
 | .inr x=>.str x
inductive HO where
  | lst (xs:List V)
  | tup (xs:List V)
  | dK (kvs:List (Key×V)) | dT (kvs:List (List Key×V))
  | set (S:Int->Bool) (n:Nat)
  | ins (C dx:Addr) (fs:List (Str×V))
  | own (x:Addr)
  | xd (fs:List (Str×V))
  | met (f x:Addr)
  | rng (lo hi:Int)
  | frz (o:Obj) (u:HO)
  | tbl (ps:Array Value)
  | ext (φ:Heap->Prop)
abbrev Hp:=Addr->Option HO
def upd (H:Hp) (a:Addr) (o:HO):Hp:=λ b=>if b=a then some o else H b
theorem a0c:upd H a o a=some o:=by unfold upd;rw[z02 rfl]
theorem a0m (h:b≠a):upd H a o b=H b:=by unfold upd;rw[z01 h]
theorem e7e {H:Hp} (h:H a=some o) (h':H b=some u) (d:o≠u):a≠b:=by
 intro e;subst e;rw[h] at h';exact d (z1g h')
theorem a0u {H:Hp} (h:H a=some o) (h':H b=none):a≠b:=by
 intro e;subst e;rw[h] at h';cases h'
section
variable (P:Program) (w:World)
def a3m (H:Hp) (h:Heap) (a:Addr):HO->Prop
 | .lst xs=>xs.length<=sizeLine/\∃ (its:List Value) (n:Nat),a3b xs its/\h.get? a=some {cls:=.type "list",data:=.seq its.toArray n}
 | .tup xs=>xs.length<=sizeLine/\∃ its:List Value,a3b xs its/\IsTup h a its.toArray
 | .dK kvs=>kvs.length<=sizeLine/\(a == sysModules)=false/\∃ vs,KV kvs vs/\h.DictOf (a2a P w) a vs
 | .dT kvs=>kvs.length<=sizeLine/\(a == sysModules)=false/\∃ xs:List (List Key×Addr×Value),
   Paired (λ (p:List Key×V) (q:List Key×Addr×Value)=>p.1=q.1/\H q.2.1=some (.tup (p.1.map kV))/\a3c p.2 q.2.2) kvs xs /\
   ∃ o es ep,h.get? a=some o/\o.ExactDict/\o.data=.dict es ep/\es.toList=xs.map (entryOfKey (tupleKind (a2a P w)))/\(xs.map (·.1)).Nodup
 | .set S n=>h.SetOf (intKind P w) a S n
 | .ins C dx fs=>H dx=some (.own a)/\fs.length<=1000/\dx≠a/\h.get? a=some (W.instObj C dx) /\
   ∃ mA,h.Ns1 dx mA/\(∀ f,c8i (fs.lookup f) (mA f))/\PySem.Within mA (fs.map (·.1))
 | .own _=>∃ o,h.get? a=some o
 | .xd fs=>∃ mA,h.Ns1 a mA/\∀ f,c8i (fs.lookup f) (mA f)
 | .rng lo hi=>∃ t u v,h.get? a=some {cls:=.type "range",data:=.fields #[.int lo t,.int hi u,.int 1 v]}
 | .frz o u=>h.get? a=some o/\a3m H h a u
 | .tbl ps=>h.get? a=some {cls:=.none,data:=.fields ps}
 | .met f x=>h.get? a=some (W.methodObj (.ref f) (.ref x))
 | .ext φ=>φ h/\(∃ o,h.get? a=some o)/\∀ h1 h2:Heap,φ h1->(∀ o,h1.get? a=some o->h2.get? a=some o)->φ h2
def HOk (H:Hp) (h:Heap):Prop:=∀ a o,H a=some o->a3m P w H h a o
end
section
variable {P:Program} {w:World} {H H':Hp} {h h':Heap} {a:Addr} {o:HO}
theorem a3m.lt (x:a3m P w H h a o):a < h.objs.size:=by
 cases o with
 | lst xs=>obtain⟨_,_,_,_,e⟩:=x;exact z09 e
 | tup xs=>obtain⟨_,_,_,p⟩:=x;exact p.lt
 | dK kvs=>obtain⟨_,_,_,_,o,_,_,e,_⟩:=x;exact z09 e
 | dT kvs=>obtain⟨_,_,_,_,o,_,_,e,_⟩:=x;exact z09 e
 | set S n=>obtain⟨o,_,_,_,e,_⟩:=x;exact z09 e
 | ins C dx fs=>obtain⟨_,_,_,e,_⟩:=x;exact z09 e
 | own y=>obtain⟨_,e⟩:=x;exact z09 e
 | xd fs=>obtain⟨_,⟨_,_,_,e,_⟩,_⟩:=x;exact z09 e
 | rng lo hi=>obtain⟨_,_,_,e⟩:=x;exact z09 e
 | frz ob u=>obtain⟨e,_⟩:=x;exact z09 e
 | tbl ps=>exact z09 (x)
 | met f y=>exact z09 (x)
 | ext φ=>obtain⟨_,⟨_,e⟩,_⟩:=x;exact z09 e
theorem Paired.mapP:∀ {l₁:List α} {l₂:List β},Paired F l₁ l₂->(∀ a b,F a b->G a b)->Paired G l₁ l₂
 | _,_,.nil,_=>.nil
 | _,_,.cons r t,f=>.cons (f _ _ r) (Paired.mapP t f)
theorem a3m.stay (x:a3m P w H h a o) (k:∀ b u,(b=a\/H b=some (.own a))->h.get? b=some u->h'.get? b=some u)
  (ho:∀ b,H b=some (.own a)->H' b=some (.own a)) (ht:∀ b xs,H b=some (.tup xs)->H' b=some (.tup xs)):a3m P w H' h' a o:=by
 induction o with
 | lst xs=>obtain⟨z,its,n,r,e⟩:=x;exact ⟨z,nx12 its n r (k _ _ (.inl rfl) e)⟩
 | tup xs=>obtain⟨z,its,r,ob,e,c⟩:=x;exact ⟨z,nx6 its r ob (k _ _ (.inl rfl) e) c⟩
 | dK kvs=>obtain⟨z,y,vs,r,ob,es,ep,e,c⟩:=x;exact ⟨z,y,nx38 vs r ob es ep ⟨k _ _ (.inl rfl) e,c⟩⟩
 | dT kvs =>
  obtain⟨z,y,xs,r,ob,es,ep,e,c⟩:=x;exact ⟨z,y,nx38 xs (Paired.mapP r λ p q z=>⟨z.1,ht _ _ z.2.1,z.2.2⟩) ob es ep ⟨k _ _ (.inl rfl) e,c⟩⟩
 | set S n=>obtain⟨ob,es,ep,t,e,c⟩:=x;exact nx3 ob es (nx12 ep t (k _ _ (.inl rfl) e) c)
 | ins C dx fs =>
  obtain⟨d,z,ne,e,mA,⟨od,es,ep,e2,c⟩,r⟩:=x;exact⟨ho _ d,z,ne,k _ _ (.inl rfl) e,mA,nx18 od es ep (k _ _ (.inr d) e2) c,r⟩
 | own y=>obtain⟨ob,e⟩:=x;exact⟨ob,k _ _ (.inl rfl) e⟩
 | xd fs=>obtain⟨mA,⟨od,es,ep,e,c⟩,r⟩:=x;exact⟨mA,nx18 od es ep (k _ _ (.inl rfl) e) c,r⟩
 | rng lo hi=>obtain⟨t,u,v,e⟩:=x;exact nx32 t u v (k _ _ (.inl rfl) e)
 | frz ob u ih=>obtain⟨e,q⟩:=x;exact⟨k _ _ (.inl rfl) e,ih q⟩
 | tbl ps =>
  have e:=x;exact k a _ (.inl rfl) e
 | met f y =>
  have e:=x;exact k a _ (.inl rfl) e
 | ext φ=>obtain⟨p,⟨o,e⟩,st⟩:=x;exact⟨st _ _ p λ o q=>k _ _ (.inl rfl) q,⟨o,k _ _ (.inl rfl) e⟩,st⟩
theorem HOk.lt (x:HOk P w H h) (e:H a=some o):a < h.objs.size:=(x a o e).lt
theorem HOk.fresh (x:HOk P w H h) (e:h.objs.size<=a):H a=none:=by
 cases q:H a with
 | none=>rfl
 | some u=>exact absurd (z0w (x.lt q) e) (z1q _)
theorem HOk.kept (x:HOk P w H h) (k:∀ b u,h.get? b=some u->h'.get? b=some u):HOk P w H h':=λ a o e =>
 (x a o e).stay (λ b u _ q=>k b u q) (λ _ q=>q) λ _ _ q=>q
theorem HOk.laid (x:HOk P w H h) (k:∀ b u,h.get? b=some u->h'.get? b=some u) (hp:h.objs.size<=a) (new:a3m P w (upd H a o) h' a o):HOk P w (upd H a o) h':=λ b u e=>by
 have hn:=x.fresh hp;by_cases hb:b=a
 ·subst hb;rw[a0c] at e;cases e;exact new
 ·rw[a0m hb] at e;exact(x b u e).stay (λ c v _ q=>k c v q) (λ c q=>by rw[a0m (a0u q hn)];exact q) λ c xs q=>by rw[a0m (a0u q hn)];exact q
end
def Rd (H:Hp) (a:Addr) (u:HO):Prop:=H a=some u\/∃ o,H a=some (.frz o u)
theorem Rd.ok (r:Rd H a u) (x:HOk P w H h):a3m P w H h a u:=by
 rcases r with r | ⟨o,r⟩
 ·exact x a u r
 ·obtain⟨_,q⟩:=x a _ r;exact q
def Mut:Option HO->Prop
 | some (.lst _)=>True
 | some (.dK _)=>True
 | some (.dT _)=>True
 | some (.set _ _)=>True
 | some (.ins _ _ _)=>True
 | some (.ext _)=>True
 | _=>False
section
variable {P:Program} {w:World} {H:Hp} {h h':Heap} {x e:Addr} {o':HO}
theorem HOk.write (ok:HOk P w H h) (mu:Mut (H x)) (he:e=x\/H e=some (.own x)) (k:∀ b u,b≠e->h.get? b=some u->h'.get? b=some u) (heo:∃ u,h'.get? e=some u)
  (new:a3m P w (upd H x o') h' x o'):HOk P w (upd H x o') h':=λ b u q=>by
 have nown:∀ c y,H c=some (.own y)->c≠x:=λ c y r z=>by subst z;rw[r] at mu;exact mu
 have ntup:∀ c xs,H c=some (.tup xs)->c≠x:=λ c xs r z=>by subst z;rw[r] at mu;exact mu
 by_cases hb:b=x
 ·subst hb;rw[a0c] at q;cases q;exact new
 ·rw[a0m hb] at q;by_cases hbe:b=e
  ·have q':H b=some (.own x):=by
    rcases he with z | z
    ·exact absurd (hbe.trans z) hb
    ·rw[hbe];exact z
   rw[q] at q';cases q';obtain⟨v,hv⟩:=heo;exact⟨v,by rw[hbe];exact hv⟩
  ·refine(ok b u q).stay (λ c v hc r=>k c v ?_ r) (λ c r=>by rw[a0m (nown c b r)];exact r) λ c xs r=>by rw[a0m (ntup c xs r)];exact r
   rcases hc with rfl | hc
   ·exact hbe
   ·rintro rfl;rcases he with z | z
    ·exact nown c b hc z
    ·rw[hc] at z;cases z;exact hb rfl
end
structure Un (fs ex:List Addr) (H H':Hp) (h h':Heap):Prop where
 keep:∀ b o,h.get? b=some o->H b=none->b ∉ fs->b ∉ ex->h'.get? b=some o
 slot:∀ b o,h.get? b=some o->H b=none->b∈fs->b ∉ ex->∃ sl,h'.get? b=some {o with slots:=sl}
 free:∀ b o,h.get? b=some o->H b=none->b ∉ ex->H' b=none
 there:∀ b o,h.get? b=some o->b ∉ ex->∃ o',h'.get? b=some o'
 tups:∀ b xs,H b=some (.tup xs)->H' b=some (.tup xs)
 frzs:∀ b o u,H b=some (.frz o u)->H' b=some (.frz o u)
 tbls:∀ b ps,H b=some (.tbl ps)->∃ more,H' b=some (.tbl (ps++more))
section
variable {fs fs' ex ex':List Addr} {H H1 H2:Hp} {h h1 h2 h':Heap} {a x e:Addr} {o:HO}
theorem Un.any (u:Un fs ex H H1 h h1) (q:h.get? b=some ob) (n:H b=none) (hx:b ∉ ex):∃ sl,h1.get? b=some {ob with slots:=sl}:=by
 by_cases hb:b∈fs
 ·exact u.slot b ob q n hb hx
 ·exact⟨ob.slots,u.keep b ob q n hb hx⟩
theorem Un.kept (k:∀ b u,h.get? b=some u->h'.get? b=some u):Un fs ex H H h h' :=
 ⟨λ b ob q _ _ _=>k b ob q,λ b ob q _ _ _=>⟨ob.slots,k b ob q⟩,λ _ _ _ n _=>n,λ b ob q _=>⟨ob,k b ob q⟩,λ _ _ q=>q,λ _ _ _ q=>q,λ _ ps q=>⟨#[],by rw[q];simp⟩⟩
theorem Un.refl:Un fs ex H H h h:=Un.kept λ _ _ q=>q
theorem Un.laid (k:∀ b u,h.get? b=some u->h'.get? b=some u) (hp:h.objs.size<=a) (hn:H a=none):Un fs ex H (upd H a o) h h' where
 keep:=λ b u q _ _ _=>k b u q
 slot:=λ b u q _ _ _=>⟨u.slots,k b u q⟩
 free:=λ b u q n _=>by rw[a0m (z0l (z0w (z09 q) hp))];exact n
 there:=λ b u q _=>⟨u,k b u q⟩
 tups:=λ b xs q=>by rw[a0m (a0u q hn)];exact q
 frzs:=λ b u xs q=>by rw[a0m (a0u q hn)];exact q
 tbls:=λ b ps q=>⟨#[],by rw[a0m (a0u q hn),q];simp⟩
theorem Un.write (mu:Mut (H x)) (he:e=x\/H e=some (.own x)) (k:∀ b u,b≠e->h.get? b=some u->h'.get? b=some u) (heo:∃ u,h'.get? e=some u):Un fs ex H (upd H x o) h h':=by
 have hx:∀ b,H b=none->b≠x:=λ b n z=>by subst z;rw[n] at mu;exact mu
 have hb:∀ b,H b=none->b≠e:=λ b n z=>by
  subst z;rcases he with r | r
  ·exact hx b n r
  ·rw[n] at r;cases r
 have hm:∀ b u,H b=some u->¬ Mut (some u)->b≠x:=λ b u q nm z=>by subst z;rw[q] at mu;exact nm mu
 refine⟨λ b u q n _ _=>k b u (hb b n) q,λ b u q n _ _=>⟨u.slots,k b u (hb b n) q⟩,λ b u q n _=>by rw[a0m (hx b n)];exact n,λ b u q _=>?_,
  λ b xs q=>by rw[a0m (hm b _ q λ z=>z)];exact q,λ b u xs q=>by rw[a0m (hm b _ q λ z=>z)];exact q,λ b ps q=>⟨#[],by rw[a0m (hm b _ q λ z=>z),q];simp⟩⟩
 by_cases hbe:b=e
 ·subst hbe;exact heo
 ·exact⟨u,k b u hbe q⟩
end
def trk (h:Heap) (H:Hp):List Addr:=(List.range h.objs.size).filter λ a=>(H a).isSome
def d8r (h:Heap) (H:Hp):Heap:=W.hideAll h (trk h H)
theorem d2n (h:Heap) (H:Hp):(d8r h H).objs.size=h.objs.size:=W.hideAll_size _ _
theorem d6s (e:h.get? b=some o) (n:H b=none):(d8r h H).get? b=some o :=
 z4q _ e λ hm=>by
  have q:=(z22.mp hm).2;rw[n] at q;simp at q
theorem e2e (e:(d8r h H).get? b=some o):h.get? b=some o/\H b=none:=by
 have e':=z4u (trk h H) e;refine⟨e',?_⟩;cases q:H b with
 | none=>rfl
 | some x =>
  have hm:b∈trk h H:=z22.mpr ⟨List.mem_range.mpr (z09 e'),by simp[q]⟩;have z:(d8r h H).get? b=none:=z4v (trk h H) hm;rw[z] at e;cases e
end L2
namespace L2
open PySem PySem.Spec PyProof.Rows
structure Mod (K:W.Frag) (mg:Str->Option Value) (base:Heap):Prop where
 kin:K.In base
 glob:base.Ns mainGlobals mg
 blt:∃ mb,base.Ns builtinsNs mb/\∀ x:Str,x≠"__name__"->mb x=bootBuiltins x
 nolimit:base.NoLimit
structure Cx where
 prog:Program
 w:World
 K:W.Frag
 mg:Str->Option Value
 base:Heap
 A:Around
 N:List Str
 s₀:Shared
 H₀:Hp
 env:Env
 outer:List Env
 stack:List Env
 ex:List Addr
 fn:Str->Bool
 calm:Bool
 pn:List (Addr×Obj)
 xe:Value->Shared->Prop
def frs (l:List Env):List Addr:=l.filterMap (·.frame)
abbrev Cx.fs (X:Cx):List Addr:=frs X.outer
def Vis (sc:Scope) (x:Str):Prop:=sc.names.lookup x=some .local\/sc.names.lookup x=some .cell\/sc.names.lookup x=some .free
def Loc (sc:Scope) (x:Str):Prop:=sc.names.lookup x=some .local\/sc.names.lookup x=some .cell
def e7x (env:Env) (h:Heap) (m:Str->Option Value) (x:Str) (u:Value):Prop :=
 (env.kindOf x=some .local/\m x=some u)\/((env.kindOf x=some .cell\/env.kindOf x=some .free)/\∃ c,env.cells.lookup x=some c/\h.IsCell c (some u))
structure Cx.Ok (X:Cx):Prop where
 mod:Mod X.K X.mg X.base
 kind:X.env.scope.kind=.function
 glob:X.env.globals=mainGlobals
 blt:X.env.builtins=builtinsNs
 above:X.s₀.heap.objs.size<=X.env.locals
 inj:∀ x y c,X.env.cells.lookup x=some c->X.env.cells.lookup y=some c->x=y
 has:∀ x,(X.env.kindOf x=some .cell\/X.env.kindOf x=some .free)->∃ c,X.env.cells.lookup x=some c
 cab:∀ x c,X.fn x=true->X.env.cells.lookup x=some c->X.s₀.heap.objs.size<=c
 hd:X.calm=true->X.A.handled=none
 frames:X.A.frames=some X.stack
 stk:X.stack=X.outer\/(X.stack=X.env::X.outer/\X.env.frame=some X.env.locals)
 exf:∀ b∈X.ex,b≠X.env.locals/\∀ x c,X.env.cells.lookup x=some c->c≠b
 bs:∀ b o,X.base.get? b=some o->X.s₀.heap.get? b=some o/\X.H₀ b=none
 bsz:X.base.objs.size<=X.s₀.heap.objs.size
 noex:∀ b o,X.base.get? b=some o->b ∉ X.ex
 exfs:∀ b∈X.ex,b ∉ X.fs
 funs:X.s₀.heap.FunFrames X.base X.outer
 frf:∀ b∈X.fs,X.H₀ b=none
structure Inv (X:Cx) (pins:List (Addr×Obj)) (σ:List (Option V)) (H:Hp) (s:Shared):Prop where
 ok:X.Ok
 os:s.os=X.s₀.os
 bare:AllBare s.gens
 base:Un X.fs X.ex X.H₀ H X.s₀.heap s.heap
 loc:∃ m,s.heap.Ns X.env.locals m/\∀ (i:Nat) (x:Str) (v:V),X.N[i]?=some x->σ[i]?=some (some v)->Vis X.env.scope x->∃ u,a3c v u/\e7x X.env s.heap m x u
 cell:∀ x c,X.env.cells.lookup x=some c->∃ v,s.heap.IsCell c v
 free:H X.env.locals=none
 freeC:∀ x c,X.env.cells.lookup x=some c->H c=none
 pin:∀ p∈X.pn++pins,s.heap.get? p.1=some p.2/\H p.1=none/\p.1≠X.env.locals/\p.1 ∉ X.fs/\∀ v,p.2.data≠.cell v
 hok:HOk X.prog X.w H s.heap
 len:σ.length=X.N.length
section
variable {X:Cx} {pins:List (Addr×Obj)} {σ:List (Option V)} {H H':Hp} {s:Shared} {h':Heap}
theorem Cx.Ok.nofr (ok:X.Ok) (e:X.base.get? b=some o):b ∉ X.fs:=λ hb=>by
 have:=(ok.funs.mem hb).1;rw[e] at this;cases this
theorem Inv.bs (I:Inv X pins σ H s):∀ b o,X.base.get? b=some o->s.heap.get? b=some o/\H b=none:=λ b o e =>
 ⟨I.base.keep b o (I.ok.bs b o e).1 (I.ok.bs b o e).2 (I.ok.nofr e) (I.ok.noex b o e),I.base.free b o (I.ok.bs b o e).1 (I.ok.bs b o e).2 (I.ok.noex b o e)⟩
theorem Inv.bk (I:Inv X pins σ H s):∀ b o,X.base.get? b=some o->s.heap.get? b=some o:=λ b o e=>(I.bs b o e).1
theorem Inv.mod (I:Inv X pins σ H s):Mod X.K X.mg X.base:=I.ok.mod
theorem Inv.kIn (I:Inv X pins σ H s):X.K.In s.heap:=I.ok.mod.kin.keeps I.bk
theorem Inv.lt (I:Inv X pins σ H s):X.env.locals < s.heap.objs.size:=let ⟨_,hn,_⟩:=I.loc;hn.lt
theorem Inv.sz (I:Inv X pins σ H s):X.s₀.heap.objs.size<=s.heap.objs.size:=z0s I.ok.above (z3z I.lt)
theorem Inv.nofs (I:Inv X pins σ H s) {a:Addr} (h:s.heap.objs.size<=a):a ∉ X.fs:=λ hb=>by
 obtain⟨_,o,ho,_⟩:=I.ok.funs.mem hb;exact absurd (z0w (z09 ho) (z0s I.sz h)) (z1q _)
theorem Inv.cne (I:Inv X pins σ H s):∀ x c,X.env.cells.lookup x=some c->c≠X.env.locals:=λ x c e z=>by
 obtain⟨v,o,ho,hd⟩:=I.cell x c e;obtain⟨m,⟨o',es,ep,ho',hd',_⟩,_⟩:=I.loc;rw[z,ho'] at ho;cases ho;rw[hd'] at hd;cases hd
theorem Inv.funs (I:Inv X pins σ H s):s.heap.FunFrames X.base X.outer:=by
 have all:∀ (l:List Env),(∀ b∈frs l,b∈X.fs)->X.s₀.heap.FunFrames X.base l->s.heap.FunFrames X.base l:=by
  intro l;induction l with
  | nil=>intro _ _;trivial
  | cons env r ih =>
   intro hs hl;obtain⟨hk,⟨L,o,hf,hn,ho,hd⟩,hr⟩:=hl;have hL:=hs L (by unfold frs;rw[z1i,hf];exact z0g);obtain⟨sl,e⟩:=I.base.slot L o ho (I.ok.frf L hL) hL λ z=>I.ok.exfs L z hL
   exact⟨hk,nx7 L _ hf hn e hd,ih (λ b hb=>hs b (by unfold frs;rw[z1i,hf];exact z0p _ hb)) hr⟩
 exact all X.outer (λ _ hb=>hb) I.ok.funs
theorem Inv.stack (I:Inv X pins σ H s):s.heap.FunFrames X.base X.stack:=by
 rcases I.ok.stk with e | ⟨e,hf⟩
 ·rw[e];exact I.funs
 ·rw[e];obtain⟨m,hn,_⟩:=I.loc;refine .cons (by rw[I.ok.kind];decide) hf hn ?_ I.funs;exact z2u (z0s I.ok.bsz I.ok.above)
theorem Inv.stkSub (I:Inv X pins σ H s):∀ b∈frs X.stack,b∈X.env.locals::X.fs:=λ b hb=>by
 rcases I.ok.stk with e | ⟨e,hf⟩
 ·rw[e] at hb;exact z0p _ hb
 ·rw[e] at hb;unfold frs at hb;rw[z1i,hf] at hb;exact hb
theorem Inv.stkFree (I:Inv X pins σ H s):∀ b∈frs X.stack,H b=none:=λ b hb=>by
 rcases z06.mp (I.stkSub b hb) with e | hb
 ·rw[e];exact I.free
 ·obtain⟨_,o,ho,_⟩:=I.ok.funs.mem hb;exact I.base.free b o ho (I.ok.frf b hb) λ z=>I.ok.exfs b z hb
theorem Inv.step {ch:List Addr} (I:Inv X pins σ H s)
  (hch:∀ b∈ch,(b∈X.ex\/X.s₀.heap.objs.size<=b)/\b≠X.env.locals/\(∀ x c,X.env.cells.lookup x=some c->c≠b)/\∀ p∈X.pn++pins,p.1≠b)
  (keep:∀ b o,b≠X.env.locals->b ∉ X.fs->b ∉ ch->s.heap.get? b=some o->H b=none->h'.get? b=some o)
  (slot:∀ b o,b≠X.env.locals->b∈X.fs->b ∉ ch->s.heap.get? b=some o->H b=none->∃ sl,h'.get? b=some {o with slots:=sl}) (free:∀ b o,b ∉ ch->s.heap.get? b=some o->H b=none->H' b=none)
  (there:∀ b o,b ∉ ch->s.heap.get? b=some o->∃ o',h'.get? b=some o')
  (tups:∀ b xs,H b=some (.tup xs)->H' b=some (.tup xs)) (frzs:∀ b o u,H b=some (.frz o u)->H' b=some (.frz o u)) (tbls:∀ b ps,H b=some (.tbl ps)->∃ more,H' b=some (.tbl (ps++more)))
  (ns:∀ m,s.heap.Ns X.env.locals m->h'.Ns X.env.locals m) (hok:HOk X.prog X.w H' h') (hg:AllBare g') :
  Inv X pins σ H' {s with heap:=h',gens:=g',drawn:=d',toks:=t'}:=by
 have neL:∀ b o,X.s₀.heap.get? b=some o->b≠X.env.locals:=λ b o e=>z0l (z0w (z09 e) I.ok.above)
 have neC:∀ b o,X.s₀.heap.get? b=some o->b ∉ X.ex->b ∉ ch:=λ b o e hx hb=>by
  rcases(hch b hb).1 with z | z
  ·exact hx z
  ·exact absurd (z0w (z09 e) z) (z1q _)
 have cellK:∀ x c,X.env.cells.lookup x=some c->∀ v,s.heap.IsCell c v->h'.IsCell c v:=λ x c e v ⟨o,ho,hd⟩=>by
  have nch:=λ z=>(hch c z).2.2.1 x c e rfl
  by_cases hc:c∈X.fs
  ·obtain⟨sl,q⟩:=slot c o (I.cne x c e) hc nch ho (I.freeC x c e);exact⟨_,q,hd⟩
  ·exact⟨o,keep c o (I.cne x c e) hc nch ho (I.freeC x c e),hd⟩
 refine⟨I.ok,I.os,hg,⟨λ b o e n hb hx=>?_,λ b o e n hb hx=>?_,λ b o e n hx=>?_,λ b o e hx=>?_,λ b xs e=>tups b xs (I.base.tups b xs e),λ b o xs e=>frzs b o xs (I.base.frzs b o xs e),λ b ps e=>?_⟩,?_,λ x c e=>?_,?_,λ x c e=>?_,λ p hp=>?_,hok,I.len⟩
 ·exact keep b o (neL b o e) hb (neC b o e hx) (I.base.keep b o e n hb hx) (I.base.free b o e n hx)
 ·obtain⟨sl,e1⟩:=I.base.slot b o e n hb hx;obtain⟨sl',e2⟩:=slot b _ (neL b o e) hb (neC b o e hx) e1 (I.base.free b o e n hx);exact⟨sl',e2⟩
 ·obtain⟨o',e1⟩:=I.base.there b o e hx;exact free b o' (neC b o e hx) e1 (I.base.free b o e n hx)
 ·obtain⟨o',e1⟩:=I.base.there b o e hx;exact there b o' (neC b o e hx) e1
 ·obtain⟨m1,e1⟩:=I.base.tbls b ps e;obtain⟨m2,e2⟩:=tbls b _ e1;exact⟨m1++m2,by rw[e2,Array.append_assoc]⟩
 ·obtain⟨m,hn,hl⟩:=I.loc;refine⟨m,ns m hn,λ i x v e1 e2 e3=>?_⟩;obtain⟨u,r,l⟩:=hl i x v e1 e2 e3;refine⟨u,r,?_⟩;rcases l with l | ⟨k,c,e,z⟩
  ·exact .inl l
  ·exact .inr ⟨k,c,e,cellK x c e _ z⟩
 ·obtain⟨v,z⟩:=I.cell x c e;exact⟨v,cellK x c e v z⟩
 ·obtain⟨m,⟨o,_,_,ho,_⟩,_⟩:=I.loc;exact free _ o (λ z=>(hch _ z).2.1 rfl) ho I.free
 ·obtain⟨v,o,ho,hd⟩:=I.cell x c e;exact free c o (λ z=>(hch c z).2.2.1 x c e rfl) ho (I.freeC x c e)
 ·obtain⟨e,n,ne,nf,d⟩:=I.pin p hp;have nch:=λ z=>(hch p.1 z).2.2.2 p hp rfl
  exact⟨keep p.1 p.2 ne nf nch e n,free p.1 p.2 nch e n,ne,nf,d⟩
theorem Inv.un (I:Inv X pins σ H s) (u:Un X.fs [] H H' s.heap h') (hok:HOk X.prog X.w H' h'):Inv X pins σ H' {s with heap:=h',toks:=t'}:=by
 obtain⟨m,⟨o,es,ep,ho,r⟩,_⟩:=id I.loc;obtain⟨sl,hL⟩:=u.any ho I.free (by simp);exact I.step (ch:=[]) (λ _ z=>nomatch z) (λ b o _ hb _ e n=>u.keep b o e n hb (by simp)) (λ b o _ hb _ e n=>u.slot b o e n hb (by simp)) (λ b o _ e n=>u.free b o e n (by simp)) (λ b o _ e=>u.there b o e (by simp)) u.tups u.frzs u.tbls (λ m' hm=>by
  obtain⟨o',es',ep',ho',r'⟩:=hm;rw[ho] at ho';cases ho';exact nx18 _ es' ep' hL r') hok I.bare
theorem Inv.call (I:Inv X pins σ H s) (u:Un (frs X.stack) ch H H' s.heap h') (hok:HOk X.prog X.w H' h') (hg:AllBare g')
  (hch:∀ b∈ch,(b∈X.ex\/X.s₀.heap.objs.size<=b)/\b≠X.env.locals/\(∀ x c,X.env.cells.lookup x=some c->c≠b)/\∀ p∈X.pn++pins,p.1≠b) :
  Inv X pins σ H' {s with heap:=h',gens:=g',drawn:=d',toks:=t'}:=by
 obtain⟨m,⟨o,es,ep,ho,r⟩,_⟩:=id I.loc;obtain⟨sl,hL⟩:=u.any ho I.free λ z=>(hch _ z).2.1 rfl
 exact I.step hch (λ b o hL hb hc e n=>u.keep b o e n (λ z=>(z06.mp (I.stkSub b z)).elim hL hb) hc) (λ b o _ _ hc e n=>u.any e n hc) (λ b o hc e n=>u.free b o e n hc) (λ b o hc e=>u.there b o e hc) u.tups u.frzs u.tbls (λ m' hm=>by
  obtain⟨o',es',ep',ho',r'⟩:=hm;rw[ho] at ho';cases ho';exact nx18 _ es' ep' hL r') hok hg
theorem Inv.turned (I:Inv X pins σ H s) (k:∀ b o,b≠it->s.heap.get? b=some o->h'.get? b=some o) (hn:H it=none) (hL:it≠X.env.locals)
  (h1:it∈X.ex\/X.s₀.heap.objs.size<=it) (h2:∀ x c,X.env.cells.lookup x=some c->c≠it) (h3:∀ p∈X.pn++pins,p.1≠it):Inv X pins σ H {s with heap:=h',toks:=t'}:=by
 have nit:∀ b u,H b=some u->b≠it:=λ b u e z=>by rw[z,hn] at e;cases e
 refine I.step (ch:=[it]) (λ b hb=>?_) (λ b o _ _ hc e _=>k b o (λ z=>hc (by simp[z])) e) (λ b o _ _ hc e _=>⟨o.slots,k b o (λ z=>hc (by simp[z])) e⟩) (λ _ _ _ _ n=>n)
  (λ b o hc e=>⟨o,k b o (λ z=>hc (by simp[z])) e⟩) (λ _ _ e=>e) (λ _ _ _ e=>e) (λ b ps e=>⟨#[],by rw[e];simp⟩) (λ m hm=>?_) (λ b u e=>?_) I.bare
 ·have e:b=it:=by simpa using hb
  subst e;exact⟨h1,hL,h2,h3⟩
 ·obtain⟨o,es,ep,ho,r⟩:=hm;exact nx18 o es ep (k _ o (z1b hL) ho) r
 ·refine(I.hok b u e).stay (λ c v hc q=>k c v ?_ q) (λ _ q=>q) λ _ _ q=>q
  rcases hc with z | z
  ·rw[z];exact nit b u e
  ·exact nit c _ z
theorem Inv.tok (I:Inv X pins σ H s) (t:Nat):Inv X pins σ H {s with toks:=t}:=I.un Un.refl I.hok
theorem Inv.kept (I:Inv X pins σ H s) (k:∀ b u,s.heap.get? b=some u->h'.get? b=some u):Inv X pins σ H {s with heap:=h',toks:=t'}:=I.un (Un.kept k) (I.hok.kept k)
theorem Inv.laid {a:Addr} (I:Inv X pins σ H s) (k:∀ b u,s.heap.get? b=some u->h'.get? b=some u) (hp:s.heap.objs.size<=a) (new:a3m X.prog X.w (upd H a o) h' a o) :
  Inv X pins σ (upd H a o) {s with heap:=h',toks:=t'}:=I.un (Un.laid k hp (I.hok.fresh hp)) (I.hok.laid k hp new)
theorem Inv.write (I:Inv X pins σ H s) (mu:Mut (H x)) (he:e=x\/H e=some (.own x)) (k:∀ b u,b≠e->s.heap.get? b=some u->h'.get? b=some u) (heo:∃ u,h'.get? e=some u)
  (new:a3m X.prog X.w (upd H x o) h' x o):Inv X pins σ (upd H x o) {s with heap:=h',toks:=t'}:=I.un (Un.write mu he k heo) (I.hok.write mu he k heo new)
theorem Inv.pins_of (I:Inv X pins σ H s) (h:∀ p∈pins',s.heap.get? p.1=some p.2/\H p.1=none/\p.1≠X.env.locals/\p.1 ∉ X.fs/\∀ v,p.2.data≠.cell v):Inv X pins' σ H s :=
 ⟨I.ok,I.os,I.bare,I.base,I.loc,I.cell,I.free,I.freeC,λ p hp=>(z08.mp hp).elim (λ z=>I.pin p (z19 _ z)) (h p),I.hok,I.len⟩
theorem b3r {N:List Str} (hN:N.Nodup) {i j:Nat} (a:N[i]?=some x) (b:N[j]?=some x):i=j:=by
 obtain⟨h1,e1⟩:=z0i.mp a;obtain⟨h2,e2⟩:=z0i.mp b;exact(List.getElem_inj hN).mp (e1.trans e2.symm)
theorem b4j (I:Inv X pins σ H s) (hN:X.N.Nodup) (hi:X.N[i]?=some x) (hx:Loc X.env.scope x) (r:a3c v u)
  (h:∀ s',Inv X pins (σ.set i (some v)) H s'->(∃ a,Heap.SameBut a s.heap s'.heap/\(a=X.env.locals\/X.env.cells.lookup x=some a))->Q () s') (hf:X.fn x=true\/X.env.scope.names.lookup x=some .local:=by first | exact .inl rfl | exact .inr rfl | assumption):wpAny M A (storeName X.env x u) Q E s:=by
 obtain⟨m,hn,hl⟩:=id I.loc;have hcls:(X.env.scope.kind == .class || (X.env.scope.kind == .module && X.env.locals != X.env.globals))=false:=by rw[I.ok.kind];rfl
 have hiσ:i < σ.length:=by rw[I.len];exact(z0i.mp hi).1
 have cne:=I.cne;have tracked:∀ {a:Addr} {h':Heap},(∃ o,s.heap.get? a=some o/\H a=none)->Heap.SameBut a s.heap h'->HOk X.prog X.w H h':=λ {a h'} ha hs b ob e=>by
  obtain⟨_,_,hfree⟩:=ha;refine(I.hok b ob e).stay (λ c w' hc q=>(hs.2 c ?_).trans q) (λ _ q=>q) λ _ _ q=>q
  rintro rfl;rcases hc with rfl | hc
  ·rw[hfree] at e;cases e
  ·rw[hfree] at hc;cases hc
 rcases hx with hk | hk
 ·refine wpAny_storeName_local hk hn (λ h' hn' hs=>?_) hcls;obtain⟨oL,_,_,hoL,_⟩:=id hn;refine h _ ⟨I.ok,I.os,I.bare,⟨λ b o e n hb hx=>?_,λ b o e n hb hx=>?_,I.base.free,λ b o e hx=>?_,I.base.tups,I.base.frzs,I.base.tbls⟩,⟨_,hn',λ j y v' e1 e2 e3=>?_⟩,λ y c e=>?_,I.free,I.freeC,λ p hp=>?_,tracked ⟨oL,hoL,I.free⟩ hs,by simpa using I.len⟩ ⟨_,hs,.inl rfl⟩
  ·exact(hs.2 b (z0l (z0w (z09 e) I.ok.above))).trans (I.base.keep b o e n hb hx)
  ·obtain⟨sl,e1⟩:=I.base.slot b o e n hb hx;exact⟨sl,(hs.2 b (z0l (z0w (z09 e) I.ok.above))).trans e1⟩
  ·obtain⟨o',e1⟩:=I.base.there b o e hx;exact⟨o',(hs.2 b (z0l (z0w (z09 e) I.ok.above))).trans e1⟩
  ·by_cases hj:j=i
   ·subst hj;rw[hi] at e1;cases e1;rw[z34 hiσ] at e2;cases e2;exact⟨u,r,.inl ⟨hk,by simp⟩⟩
   ·rw[z2q (z1b hj)] at e2;obtain⟨u',r',q⟩:=hl j y v' e1 e2 e3;refine⟨u',r',?_⟩;rcases q with ⟨k,e⟩ | ⟨k,c,e,z⟩
    ·refine .inl ⟨k,?_⟩;have:y≠x:=λ e=>hj (b3r hN e1 (e ▸ hi))
     simp[this,e]
    ·exact .inr ⟨k,c,e,z.sameBut hs (cne y c e)⟩
  ·obtain⟨w',z⟩:=I.cell y c e;exact⟨w',z.sameBut hs (cne y c e)⟩
  ·obtain⟨e,n,ne,nf,d⟩:=I.pin p hp;exact⟨(hs.2 p.1 ne).trans e,n,ne,nf,d⟩
 ·have hfn:X.fn x=true:=by
   rcases hf with z | z
   ·exact z
   ·rw[z] at hk;cases hk
  obtain⟨c,hc⟩:=I.ok.has x (.inl hk);obtain⟨w',z⟩:=I.cell x c hc;refine wpAny_storeName_cell I.ok.kind hk hc z (λ h' hc' hs=>?_);obtain⟨oc,hoc,hocd⟩:=id z;refine h {s with heap:=h'} ⟨I.ok,I.os,I.bare,⟨λ b o e n hb hx=>?_,λ b o e n hb hx=>?_,I.base.free,λ b o e hx=>?_,I.base.tups,I.base.frzs,I.base.tbls⟩,⟨m,hn.sameBut hs (z1b (cne x c hc)),λ j y v' e1 e2 e3=>?_⟩,λ y c' e=>?_,I.free,I.freeC,λ p hp=>?_,tracked ⟨oc,hoc,I.freeC x c hc⟩ hs,by simpa using I.len⟩ ⟨c,hs,.inr hc⟩
  ·exact(hs.2 b (z0l (z0w (z09 e) (I.ok.cab x c hfn hc)))).trans (I.base.keep b o e n hb hx)
  ·obtain⟨sl,e1⟩:=I.base.slot b o e n hb hx;exact⟨sl,(hs.2 b (z0l (z0w (z09 e) (I.ok.cab x c hfn hc)))).trans e1⟩
  ·obtain⟨o',e1⟩:=I.base.there b o e hx;exact⟨o',(hs.2 b (z0l (z0w (z09 e) (I.ok.cab x c hfn hc)))).trans e1⟩
  ·by_cases hj:j=i
   ·subst hj;rw[hi] at e1;cases e1;rw[z34 hiσ] at e2;cases e2;exact⟨u,r,.inr ⟨.inl hk,c,hc,hc'⟩⟩
   ·rw[z2q (z1b hj)] at e2;obtain⟨u',r',q⟩:=hl j y v' e1 e2 e3;refine⟨u',r',?_⟩;rcases q with q | ⟨k,c',e,z'⟩
    ·exact .inl q
    ·refine .inr ⟨k,c',e,z'.sameBut hs ?_⟩;rintro rfl;exact hj (b3r hN e1 (I.ok.inj _ _ _ e hc ▸ hi))
  ·by_cases hcc:c'=c
   ·subst hcc;exact⟨_,hc'⟩
   ·obtain⟨w2,z2⟩:=I.cell y c' e;exact⟨w2,z2.sameBut hs hcc⟩
  ·obtain⟨e,n,ne,nf,d⟩:=I.pin p hp;refine⟨(hs.2 p.1 ?_).trans e,n,ne,nf,d⟩;intro q;rw[q,hoc] at e;have q':=z1g e;exact d w' (by rw[<-q'];exact hocd)
theorem a9r (I:Inv X pins σ H s) (hN:X.N.Nodup) (hi:X.N[i]?=some x) (hx:Loc X.env.scope x) (r:a3c v u)
  (h:∀ s',Inv X pins (σ.set i (some v)) H s'->Q () s') (hf:X.fn x=true\/X.env.scope.names.lookup x=some .local:=by first | exact .inl rfl | exact .inr rfl | assumption):wpAny M A (storeName X.env x u) Q E s :=
 b4j I hN hi hx r (λ s' I' _=>h s' I') hf
theorem Inv.call' (I:Inv X pins σ H s) (ho:s'.os=s.os) (u:Un (frs X.stack) ch H H' s.heap s'.heap) (hok:HOk X.prog X.w H' s'.heap) (hg:AllBare s'.gens)
  (hch:∀ b∈ch,(b∈X.ex\/X.s₀.heap.objs.size<=b)/\b≠X.env.locals/\(∀ x c,X.env.cells.lookup x=some c->c≠b)/\∀ p∈X.pn++pins,p.1≠b):Inv X pins σ H' s':=by
 obtain⟨h',g',d',t',o'⟩:=s';have e:=ho;subst e;exact I.call u hok hg hch
end
abbrev XK:=Value->Option Addr->Hp->Prop
abbrev St:=List (Option V)
abbrev VK:=V->Hp->Prop
abbrev TE:=St->Hp->VK->Prop
abbrev TT:=St->Hp->(Bool->Hp->Prop)->Prop
abbrev TA:=St->Hp->(List V->Hp->Prop)->Prop
structure b9c where
 nx:St->Hp->Prop
 rt:VK
 bk:St->Hp->Prop:=λ _ _=>False
 ct:St->Hp->Prop:=λ _ _=>False
abbrev TS:=b9c->St->Hp->Prop
def EP (X:Cx) (pins:List (Addr×Obj)) (σ:St) (Q:VK) (u:Value) (s':Shared):Prop:=∃ v H',Inv X pins σ H' s'/\a3c v u/\Q v H'
def TP (X:Cx) (pins:List (Addr×Obj)) (σ:St) (Q:Bool->Hp->Prop) (b:Bool) (s':Shared):Prop:=∃ H',Inv X pins σ H' s'/\Q b H'
def AP (X:Cx) (pins:List (Addr×Obj)) (σ:St) (Q:List V->Hp->Prop) (us:List Value) (s':Shared):Prop:=∃ vs H',Inv X pins σ H' s'/\a3b vs us/\Q vs H'
def SP (X:Cx) (pins:List (Addr×Obj)) (D:b9c) (f:Flow) (s':Shared):Prop :=
 match f with
 | .next=>∃ σ' H',Inv X pins σ' H' s'/\D.nx σ' H'
 | .brk=>∃ σ' H',Inv X pins σ' H' s'/\D.bk σ' H'
 | .cont=>∃ σ' H',Inv X pins σ' H' s'/\D.ct σ' H'
 | .ret u=>∃ v σ' H',Inv X pins σ' H' s'/\a3c v u/\D.rt v H'
structure PE (X:Cx) (e:Expr) (t:TE):Prop where
 run:∀ (pins:List (Addr×Obj)) (s:Shared) (σ:St) (H:Hp) (Q:VK),Inv X pins σ H s->t σ H Q->wpAny (model X.prog X.w) X.A (eval e X.env) (EP X pins σ Q) X.xe s
instance {X:Cx} {e:Expr} {t:TE}:CoeFun (PE X e t) λ _=>∀ (pins:List (Addr×Obj)) (s:Shared) (σ:St) (H:Hp) (Q:VK),Inv X pins σ H s->t σ H Q->wpAny (model X.prog X.w) X.A (eval e X.env) (EP X pins σ Q) X.xe s:=⟨PE.run⟩
structure PT (X:Cx) (e:Expr) (t:TT):Prop where
 run:∀ (pins:List (Addr×Obj)) (s:Shared) (σ:St) (H:Hp) (Q:Bool->Hp->Prop),Inv X pins σ H s->t σ H Q->wpAny (model X.prog X.w) X.A (isTrue e X.env (eval e X.env)) (TP X pins σ Q) X.xe s
instance {X:Cx} {e:Expr} {t:TT}:CoeFun (PT X e t) λ _=>∀ (pins:List (Addr×Obj)) (s:Shared) (σ:St) (H:Hp) (Q:Bool->Hp->Prop),Inv X pins σ H s->t σ H Q->wpAny (model X.prog X.w) X.A (isTrue e X.env (eval e X.env)) (TP X pins σ Q) X.xe s:=⟨PT.run⟩
structure PW (X:Cx) (e:Expr) (t:TT):Prop where
 run:∀ (whole:Sem Value) (pins:List (Addr×Obj)) (s:Shared) (σ:St) (H:Hp) (Q:Bool->Hp->Prop),Inv X pins σ H s->t σ H Q->wpAny (model X.prog X.w) X.A (isTrue e X.env whole) (TP X pins σ Q) X.xe s
instance {X:Cx} {e:Expr} {t:TT}:CoeFun (PW X e t) λ _=>∀ (whole:Sem Value) (pins:List (Addr×Obj)) (s:Shared) (σ:St) (H:Hp) (Q:Bool->Hp->Prop),Inv X pins σ H s->t σ H Q->wpAny (model X.prog X.w) X.A (isTrue e X.env whole) (TP X pins σ Q) X.xe s:=⟨PW.run⟩
theorem PW.pt (h:PW X e t):PT X e t:=⟨h.run _⟩
structure PA (X:Cx) (es:List Expr) (t:TA):Prop where
 run:∀ (pos:Pos) (pins:List (Addr×Obj)) (s:Shared) (σ:St) (H:Hp) (Q:List V->Hp->Prop),Inv X pins σ H s->t σ H Q->wpAny (model X.prog X.w) X.A (spliced (backTo pos (starEach es X.env))) (AP X pins σ Q) X.xe s
instance {X:Cx} {es:List Expr} {t:TA}:CoeFun (PA X es t) λ _=>∀ (pos:Pos) (pins:List (Addr×Obj)) (s:Shared) (σ:St) (H:Hp) (Q:List V->Hp->Prop),Inv X pins σ H s->t σ H Q->wpAny (model X.prog X.w) X.A (spliced (backTo pos (starEach es X.env))) (AP X pins σ Q) X.xe s:=⟨PA.run⟩
structure PS (X:Cx) (st:Stmt) (t:TS):Prop where
 run:∀ (pins:List (Addr×Obj)) (s:Shared) (σ:St) (H:Hp) (D:b9c),Inv X pins σ H s->t D σ H->wpAny (model X.prog X.w) X.A (exec st X.env) (SP X pins D) X.xe s
instance {X:Cx} {st:Stmt} {t:TS}:CoeFun (PS X st t) λ _=>∀ (pins:List (Addr×Obj)) (s:Shared) (σ:St) (H:Hp) (D:b9c),Inv X pins σ H s->t D σ H->wpAny (model X.prog X.w) X.A (exec st X.env) (SP X pins D) X.xe s:=⟨PS.run⟩
structure PSs (X:Cx) (st:List Stmt) (t:TS):Prop where
 run:∀ (pins:List (Addr×Obj)) (s:Shared) (σ:St) (H:Hp) (D:b9c),Inv X pins σ H s->t D σ H->wpAny (model X.prog X.w) X.A (execs st X.env) (SP X pins D) X.xe s
instance {X:Cx} {st:List Stmt} {t:TS}:CoeFun (PSs X st t) λ _=>∀ (pins:List (Addr×Obj)) (s:Shared) (σ:St) (H:Hp) (D:b9c),Inv X pins σ H s->t D σ H->wpAny (model X.prog X.w) X.A (execs st X.env) (SP X pins D) X.xe s:=⟨PSs.run⟩
theorem thn (h:wpAny M A t Q E s) (hQ:∀ a s,Q a s->Q' a s):wpAny M A t Q' E s:=z0j h hQ λ _ _ x=>x
end L2
namespace L2
open PySem PySem.Spec PyProof.Rows
section
variable {X:Cx}
def b1a (i:Nat):TE:=λ σ H Q=>∃ v,σ[i]?=some (some v)/\Q v H
def tC (v:V):TE:=λ _ H Q=>Q v H
theorem d8d {pos:Pos} (hN:X.N[i]?=some x) (hv:Vis X.env.scope x) (hd:(x == ("__debug__":Str))=false:=by decide) (hcd:(x == ("__classdict__":Str))=false:=by decide):PE X (.Name x pos) (b1a i):=by
 constructor;intro pins s σ H Q I h;obtain⟨v,e,h⟩:=h;obtain⟨m,hn,hl⟩:=I.loc;obtain⟨u,r,l⟩:=hl i x v hN e hv;have fin:EP X pins σ Q u s:= nx0 v H I r h;rcases l with ⟨hk,hm⟩ | ⟨hk,c,hc,hcell⟩
 ·exact wpAny_Name (wpAny_loadName_local I.ok.kind hk hn hm fin) hd
 ·rcases hk with hk | hk
  ·exact wpAny_Name (wpAny_loadName_cell I.ok.kind hk hc hcell fin) hd
  ·exact wpAny_Name (wpAny_loadName_free I.ok.kind hk hc hcell fin hcd) hd
theorem a0e {i j pos}:PE X (.Constant (.int i) j pos) (tC (.int i)):=⟨λ _ _ _ H _ I h=>wpAny_Constant_int (nx0 (.int i) H (I.tok _) ⟨_,rfl⟩ h)⟩
theorem a7l {b j pos}:PE X (.Constant (.bool b) j pos) (tC (.bl b)):=⟨λ _ _ _ H _ I h=>Constant_bool (nx0 (.bl b) H I rfl h)⟩
theorem a3f {j pos}:PE X (.Constant .none j pos) (tC .non):=⟨λ _ _ _ H _ I h=>Constant_none (nx0 (.non) H I rfl h)⟩
theorem a0j {x j pos}:PE X (.Constant (.str x) j pos) (tC (.str x)):=⟨λ _ _ _ H _ I h=>Calls.Constant_str (nx0 (.str x) H (I.tok _) ⟨_,rfl⟩ h)⟩
def Gl (X:Cx) (x:Str):Prop:=X.env.kindOf x=some .globalImplicit
theorem a9g {σ:St} (I:Inv X pins σ H s) (hg:Gl X x) (hm:X.mg x=some u) (h:Q u s)
  (hd:(x == ("__debug__":Str))=false:=by decide):wpAny (model X.prog X.w) X.A (eval (.Name x pos) X.env) Q E s :=
 z5e I.ok.kind hg (Calls.loadGlobal_global (by rw[I.ok.glob];exact I.mod.glob.keeps I.bk) hm h) hd
theorem b1r {E:Value->Shared->Prop} {σ:St} {pos:Pos} (I:Inv X pins σ H s) (hg:Gl X x) (hm:X.mg x=none) (hv:bootBuiltins x=some u) (h:Q u s)
  (hn:x≠"__name__":=by decide) (hd:(x == ("__debug__":Str))=false:=by decide):wpAny (model X.prog X.w) X.A (eval (.Name x pos) X.env) Q E s:=by
 obtain⟨mb,h1,h2⟩:=I.mod.blt;exact z5e I.ok.kind hg (Calls.loadGlobal_builtin (by rw[I.ok.glob];exact I.mod.glob.keeps I.bk) hm (by rw[I.ok.blt];exact h1.keeps I.bk) ((h2 x hn).trans hv) h) hd
theorem a6t (hg:Gl X x) (hm:X.mg x=some u) (r:a3c v u) (hd:(x == ("__debug__":Str))=false:=by decide):PE X (.Name x pos) (tC v) :=
 ⟨λ _ _ _ H _ I h=>a9g I hg hm (nx0 v H I r h) hd⟩
theorem a6v {pos:Pos} (hg:Gl X x) (hm:X.mg x=none) (hv:bootBuiltins x=some u) (r:a3c v u) (hn:x≠"__name__":=by decide) (hd:(x == ("__debug__":Str))=false:=by decide):PE X (.Name x pos) (tC v) :=
 ⟨λ _ _ _ H _ I h=>b1r I hg hm hv (nx0 v H I r h) hn hd⟩
variable {a b:Expr} {ta tb:TE} {pos:Pos}
def tB (t:TE):TT:=λ σ H Q=>t σ H λ x H1=>∃ c,x=.bl c/\Q c H1
theorem a3q {e:Expr} {t:TE} (h:PE X e t) (he:∀ whole,isTrue e X.env whole=(do let v <- whole;standAt e.pos;holding [v] (truthy v)):=by intro _;rfl):PT X e (tB t):=by
 constructor;intro pins s σ H Q I hw;refine isTrue_plain (thn (h pins s σ H _ I hw) λ v s1 ⟨x,H1,I1,r1,q1⟩=>?_) (he _);obtain⟨d,rfl,q⟩:=q1;cases r1;exact z3c ⟨H1,I1,q⟩
variable {tA tB':TT} {rest:List Expr}
def e8i (t u:TT):TT:=λ σ H Q=>t σ H λ c H1=>if c=true then u σ H1 Q else Q false H1
def tOr (t u:TT):TT:=λ σ H Q=>t σ H λ c H1=>if c=true then Q true H1 else u σ H1 Q
def e8f (t:TT):TT:=λ σ H Q=>t σ H λ c H1=>Q (!c) H1
theorem a8e (ha:PT X a tA):PW X (.BoolOp .And [a] pos) tA:=by
 constructor;intro wh pins s σ H Q I h;refine isTrue_and (thn (ha pins s σ H Q I h) λ c s1 e=>?_);cases c with
 | true=>exact isTrue_and_nil e
 | false=>exact e
theorem a6k (ha:PT X a tA):PW X (.BoolOp .Or [a] pos) tA:=by
 constructor;intro wh pins s σ H Q I h;refine isTrue_or (thn (ha pins s σ H Q I h) λ c s1 e=>?_);cases c with
 | false=>exact isTrue_or_nil e
 | true=>exact e
theorem b2b (ha:PT X a tA) (hb:PW X (.BoolOp .And (b::rest) pos) tB'):PW X (.BoolOp .And (a::b::rest) pos) (e8i tA tB'):=by
 constructor;intro wh pins s σ H Q I h;refine isTrue_and (thn (ha pins s σ H _ I h) λ c s1 ⟨H1,I1,q1⟩=>?_);cases c with
 | true=>exact hb wh pins s1 σ H1 Q I1 q1
 | false=>exact⟨H1,I1,q1⟩
theorem a8t (ha:PT X a tA) (hb:PW X (.BoolOp .Or (b::rest) pos) tB'):PW X (.BoolOp .Or (a::b::rest) pos) (tOr tA tB'):=by
 constructor;intro wh pins s σ H Q I h;refine isTrue_or (thn (ha pins s σ H _ I h) λ c s1 ⟨H1,I1,q1⟩=>?_);cases c with
 | true=>exact⟨H1,I1,q1⟩
 | false=>exact hb wh pins s1 σ H1 Q I1 q1
theorem a6n (ha:PT X a tA):PT X (.UnaryOp .Not a pos) (e8f tA):=by
 constructor;intro pins s σ H Q I h;exact isTrue_not (ha pins s σ H (λ c H1=>Q (!c) H1) I h)
def d9c (ta tb:TE):TE:=λ σ H Q=>ta σ H λ x H1=>∃ c,x=.bl c/\if c=true then tb σ H1 Q else Q (.bl false) H1
def e8a (ta tb:TE):TE:=λ σ H Q=>ta σ H λ x H1=>∃ c,x=.bl c/\if c=true then Q (.bl true) H1 else tb σ H1 Q
def e6n (ta:TE):TE:=λ σ H Q=>ta σ H λ x H1=>∃ c,x=.bl c/\Q (.bl (!c)) H1
theorem b1l {op} (h:PE X a t):PE X (.BoolOp op [a] pos) t:=⟨λ pins s σ H Q I hw=>BoolOp_one (h pins s σ H Q I hw)⟩
theorem b0i (ha:PE X a ta) (hb:PE X (.BoolOp .And (b::rest) pos) tb):PE X (.BoolOp .And (a::b::rest) pos) (d9c ta tb):=by
 constructor;intro pins s σ H Q I h;refine BoolOp_and (thn (ha pins s σ H _ I h) λ v s1 ⟨x,H1,I1,r1,q1⟩=>?_);obtain⟨c,rfl,q1⟩:=q1;cases r1;refine z3c ?_;cases c with
 | true=>exact hb pins s1 σ H1 Q I1 q1
 | false=>exact nx0 (.bl false) H1 I1 rfl q1
theorem e5u (ha:PE X a ta) (hb:PE X (.BoolOp .Or (b::rest) pos) tb):PE X (.BoolOp .Or (a::b::rest) pos) (e8a ta tb):=by
 constructor;intro pins s σ H Q I h;refine BoolOp_or (thn (ha pins s σ H _ I h) λ v s1 ⟨x,H1,I1,r1,q1⟩=>?_);obtain⟨c,rfl,q1⟩:=q1;cases r1;refine z3c ?_;cases c with
 | false=>exact hb pins s1 σ H1 Q I1 q1
 | true=>exact nx0 (.bl true) H1 I1 rfl q1
theorem d8y (ha:PE X a ta):PE X (.UnaryOp .Not a pos) (e6n ta):=by
 constructor;intro pins s σ H Q I h;refine UnaryOp_ (thn (ha pins s σ H _ I h) λ v s1 ⟨x,H1,I1,r1,q1⟩=>?_);obtain⟨c,rfl,q1⟩:=q1;cases r1;exact not_of (z3c (nx0 (.bl (!c)) H1 I1 rfl q1))
def tIf (t:TT) (ta tb:TE):TE:=λ σ H Q=>t σ H λ c H1=>if c=true then ta σ H1 Q else tb σ H1 Q
theorem a9p (hc:PT X c tA) (ha:PE X a ta) (hb:PE X b tb):PE X (.IfExp c a b pos) (tIf tA ta tb):=by
 constructor;intro pins s σ H Q I h;refine wpAny_IfExp (thn (hc pins s σ H _ I h) λ d s1 ⟨H1,I1,q1⟩=>?_);cases d with
 | true=>exact ha pins s1 σ H1 Q I1 q1
 | false=>exact hb pins s1 σ H1 Q I1 q1
end
end L2
namespace L2
open PySem PySem.Spec PyProof.Rows
def SqL (K:W.Frag) (H:Hp) (a:Addr) (xs:List V):Prop :=
 Rd H a (.lst xs) \/
  ∃ (o:Obj) (its:Array Value) (n:Nat),K.lookup a=some o/\o.cls=.type "list"/\o.dict=none/\o.data=.seq its n/\its.size<=sizeLine/\a3b xs its.toList
def SqT (K:W.Frag) (H:Hp) (a:Addr) (xs:List V):Prop :=
 Rd H a (.tup xs) \/
  ∃ (o:Obj) (its:Array Value) (n:Nat),K.lookup a=some o/\o.cls=.type "tuple"/\o.data=.seq its n/\its.size<=sizeLine/\a3b xs its.toList
def e7z:Value->Option V
 | .none=>some .non
 | .bool b=>some (.bl b)
 | .int i _=>some (.int i)
 | .str x _=>some (.str x)
 | .bytes b _=>some (.byt b)
 | .float b _=>some (.flt b)
 | .ref a=>some (.ref a)
 | .type n=>some (.ty n)
 | _=>none
theorem a3c.abs (r:a3c x u):e7z u=some x:=by
 cases x with
 | non=>cases r;rfl
 | bl _=>cases r;rfl
 | int _=>obtain⟨t,rfl⟩:=r;rfl
 | str _=>obtain⟨t,rfl⟩:=r;rfl
 | byt _=>obtain⟨t,rfl⟩:=r;rfl
 | flt _=>obtain⟨t,rfl⟩:=r;rfl
 | ref _=>cases r;rfl
 | ty _=>cases r;rfl
theorem a3c.inj (r:a3c x u) (q:a3c y u):x=y:=z1g (r.abs.symm.trans q.abs)
theorem a3b.inj:∀ {xs ys:List V} {us:List Value},a3b xs us->a3b ys us->xs=ys
 | _,_,_,.nil,.nil=>rfl
 | _,_,_,.cons r t,.cons r' t'=>by rw[r.inj r',a3b.inj t t']
section
variable {X:Cx} {pins:List (Addr×Obj)} {σ:St} {H:Hp} {s:Shared} {a:Addr} {xs ys:List V}
theorem SqL.of {K:W.Frag} (h:H a=some (.lst xs)):SqL K H a xs:=.inl (.inl h)
theorem SqT.of {K:W.Frag} (h:H a=some (.tup xs)):SqT K H a xs:=.inl (.inl h)
theorem Inv.list (I:Inv X pins σ H s) (h:SqL X.K H a xs):∃ its:List Value,a3b xs its/\PlainL s.heap a its.toArray/\xs.length<=sizeLine:=by
 rcases h with h | ⟨o,its,n,hk,hc,hd,hs,hz,r⟩
 ·obtain⟨z,its,n,r,e⟩:=h.ok I.hok;exact⟨its,r,nx7 _ n e rfl rfl rfl,z⟩
 ·refine⟨its.toList,r,nx7 o n (I.kIn a o hk) hc hd (by simpa using hs),?_⟩;have e:=r.length;simp only [z21] at e;lia
theorem Inv.tuple (I:Inv X pins σ H s) (h:SqT X.K H a xs):∃ its:List Value,a3b xs its/\IsTup s.heap a its.toArray/\xs.length<=sizeLine:=by
 rcases h with h | ⟨o,its,n,hk,hc,hs,hz,r⟩
 ·obtain⟨z,its,r,p⟩:=h.ok I.hok;exact⟨its,r,p,z⟩
 ·refine⟨its.toList,r,nx26 o (I.kIn a o hk) hc n (by simpa using hs),?_⟩;have e:=r.length;simp only [z21] at e;lia
theorem Inv.list_inj (I:Inv X pins σ H s) (h:SqL X.K H a xs) (h':SqL X.K H a ys):xs=ys:=by
 obtain⟨its,r,⟨o,n,e,_,_,d⟩,_⟩:=I.list h;obtain⟨its',r',⟨o',n',e',_,_,d'⟩,_⟩:=I.list h';rw[e] at e';cases e';rw[d] at d';injection d' with d1 _;have:its=its':=by simpa using z0e Array.toList d1
 subst this;exact r.inj r'
theorem Inv.tuple_inj (I:Inv X pins σ H s) (h:SqT X.K H a xs) (h':SqT X.K H a ys):xs=ys:=by
 obtain⟨its,r,⟨o,e,_,n,d⟩,_⟩:=I.tuple h;obtain⟨its',r',⟨o',e',_,n',d'⟩,_⟩:=I.tuple h';rw[e] at e';cases e';rw[d] at d';injection d' with d1 _;have:its=its':=by simpa using z0e Array.toList d1
 subst this;exact r.inj r'
end
abbrev Cx.wish (X:Cx) (E:Value->Shared->Prop):Cx:={X with xe:=E}
abbrev Cx.nox (X:Cx):Cx:=X.wish λ _ _=>False
theorem Cx.Ok.wish {X:Cx} (ok:X.Ok) (E:Value->Shared->Prop):(X.wish E).Ok :=
 ⟨ok.mod,ok.kind,ok.glob,ok.blt,ok.above,ok.inj,ok.has,ok.cab,ok.hd,ok.frames,ok.stk,ok.exf,ok.bs,ok.bsz,ok.noex,ok.exfs,ok.funs,ok.frf⟩
theorem Cx.Ok.unwish {X:Cx} (ok:(X.wish E).Ok):X.Ok :=
 ⟨ok.mod,ok.kind,ok.glob,ok.blt,ok.above,ok.inj,ok.has,ok.cab,ok.hd,ok.frames,ok.stk,ok.exf,ok.bs,ok.bsz,ok.noex,ok.exfs,ok.funs,ok.frf⟩
section
variable {X:Cx} {pins:List (Addr×Obj)} {σ:St} {H:Hp} {s:Shared} {E:Value->Shared->Prop}
theorem Inv.wish (I:Inv X pins σ H s) (E:Value->Shared->Prop):Inv (X.wish E) pins σ H s:=⟨I.ok.wish E,I.os,I.bare,I.base,I.loc,I.cell,I.free,I.freeC,I.pin,I.hok,I.len⟩
theorem Inv.unwish (I:Inv (X.wish E) pins σ H s):Inv X pins σ H s:=⟨I.ok.unwish,I.os,I.bare,I.base,I.loc,I.cell,I.free,I.freeC,I.pin,I.hok,I.len⟩
theorem SP.unwish (h:SP (X.wish E) pins D f s'):SP X pins D f s':=by
 cases f with
 | next=>obtain⟨σ',H',I,q⟩:=h;exact nx12 σ' H' I.unwish q
 | brk=>obtain⟨σ',H',I,q⟩:=h;exact nx12 σ' H' I.unwish q
 | cont=>obtain⟨σ',H',I,q⟩:=h;exact nx12 σ' H' I.unwish q
 | ret u=>obtain⟨v,σ',H',I,r,q⟩:=h;exact nx29 v σ' H' I.unwish r q
theorem PE.nox (h:PE X.nox e t):PE X e t:=⟨λ pins s σ H Q I hw =>
 z0j (h pins s σ H Q (I.wish _) hw) (λ _ _ ⟨v,H',I',r,q⟩=> nx0 v H' I'.unwish r q) λ _ _ z=>False.elim z⟩
theorem PT.nox (h:PT X.nox e t):PT X e t:=⟨λ pins s σ H Q I hw =>
 z0j (h pins s σ H Q (I.wish _) hw) (λ _ _ ⟨H',I',q⟩=>⟨H',I'.unwish,q⟩) λ _ _ z=>False.elim z⟩
theorem PSs.nox {st:List Stmt} (h:PSs X.nox st t):PSs X st t:=⟨λ pins s σ H D I hw =>
 z0j (h pins s σ H D (I.wish _) hw) (λ _ _ q=>q.unwish) λ _ _ z=>False.elim z⟩
end
section
variable {X:Cx} {st:Stmt} {rest:List Stmt} {t u:TS} {e:Expr} {te:TE} {pos:Pos}
def e5t:TS:=λ D σ H=>D.nx σ H
def d7q (t u:TS):TS:=λ D σ H=>t {D with nx:=u D} σ H
theorem a0n:PSs X [] e5t:=⟨λ _ _ σ H _ I h=>z2z (nx12 σ H I h)⟩
theorem a0d (h1:PS X st t) (h2:PSs X rest u):PSs X (st::rest) (d7q t u):=by
 constructor;intro pins s σ H D I h;refine z42 (thn (h1 pins s σ H {D with nx:=u D} I h) λ f s1 q=>?_);cases f with
 | next =>
  obtain⟨σ',H',I',q⟩:=q;exact h2 pins s1 σ' H' D I' q
 | ret v=>exact q
 | brk=>exact q
 | cont=>exact q
theorem a0f (h1:PS X st t):PSs X [st] t:=by
 constructor;intro pins s σ H D I h;refine z42 (thn (h1 pins s σ H D I h) λ f s1 q=>?_);cases f with
 | next=>exact z2z q
 | ret v=>exact q
 | brk=>exact q
 | cont=>exact q
theorem Inv.quiet {σ:St} (I:Inv X pins σ H s):interactive X.env=false:=by simp[interactive,I.ok.kind]
def e5z (te:TE):TS:=λ D σ H=>te σ H λ _ H1=>D.nx σ H1
theorem a3i (he:PE X e te) (hs:swapsWith e none pos.line X.env=pure false:=by rfl):PS X (.Expr e pos) (e5z te):=by
 constructor;intro pins s σ H D I h;exact wpAny_Expr_any (thn (he pins s σ H _ I h) λ v s1 ⟨x,H1,I1,r1,q1⟩=> nx12 σ H1 I1 q1) I.quiet hs
def e5n (te:TE):TS:=λ D σ H=>te σ H D.rt
theorem a0p (he:PE X e te):PS X (.Return (some e) pos) (e5n te):=by
 constructor;intro pins s σ H D I h;exact wpAny_Return_some (thn (he pins s σ H _ I h) λ v s1 ⟨x,H1,I1,r1,q1⟩=> nx29 x σ H1 I1 r1 q1)
def e8b (c:TT) (t u:TS):TS:=λ D σ H=>c σ H λ b H1=>if b=true then t D σ H1 else u D σ H1
theorem a1g (hc:PT X c tc) (ha:PSs X a t) (hb:PSs X b u):PS X (.If c a b pos) (e8b tc t u):=by
 constructor;intro pins s σ H D I h;refine wpAny_If (thn (hc pins s σ H _ I h) λ d s1 ⟨H1,I1,q1⟩=>?_);cases d with
 | true=>exact ha pins s1 σ H1 D I1 q1
 | false=>exact hb pins s1 σ H1 D I1 q1
def tNever:TS:=λ _ _ _=>False
theorem d5o:PS X st tNever:=⟨λ _ _ _ _ _ _ h=>h.elim⟩
end
abbrev TG:=V->St->Hp->(St->Hp->Prop)->Prop
abbrev TGs:=List V->St->Hp->(St->Hp->Prop)->Prop
structure PG (X:Cx) (target:Expr) (t:TG):Prop where
 run:∀ (pins:List (Addr×Obj)) (s:Shared) (σ:St) (H:Hp) (v:V) (u:Value) (Q:St->Hp->Prop),Inv X pins σ H s->a3c v u->t v σ H Q ->
  wpAny (model X.prog X.w) X.A (assign target X.env u) (λ _ s'=>∃ σ' H',Inv X pins σ' H' s'/\Q σ' H') X.xe s
instance {X:Cx} {target:Expr} {t:TG}:CoeFun (PG X target t) λ _=>∀ (pins:List (Addr×Obj)) (s:Shared) (σ:St) (H:Hp) (v:V) (u:Value) (Q:St->Hp->Prop),Inv X pins σ H s->a3c v u->t v σ H Q ->
  wpAny (model X.prog X.w) X.A (assign target X.env u) (λ _ s'=>∃ σ' H',Inv X pins σ' H' s'/\Q σ' H') X.xe s:=⟨PG.run⟩
structure PGs (X:Cx) (ts:List Expr) (t:TGs):Prop where
 run:∀ (pins:List (Addr×Obj)) (s:Shared) (σ:St) (H:Hp) (vs:List V) (us:List Value) (Q:St->Hp->Prop),Inv X pins σ H s->a3b vs us->t vs σ H Q ->
  wpAny (model X.prog X.w) X.A (assignInOrder ((assignEach ts X.env).map (·.2)) us) (λ _ s'=>∃ σ' H',Inv X pins σ' H' s'/\Q σ' H') X.xe s
instance {X:Cx} {ts:List Expr} {t:TGs}:CoeFun (PGs X ts t) λ _=>∀ (pins:List (Addr×Obj)) (s:Shared) (σ:St) (H:Hp) (vs:List V) (us:List Value) (Q:St->Hp->Prop),Inv X pins σ H s->a3b vs us->t vs σ H Q ->
  wpAny (model X.prog X.w) X.A (assignInOrder ((assignEach ts X.env).map (·.2)) us) (λ _ s'=>∃ σ' H',Inv X pins σ' H' s'/\Q σ' H') X.xe s:=⟨PGs.run⟩
abbrev e6o:=V->V->V->Hp->(Hp->Prop)->Prop
def e7c (X:Cx) (t:e6o):Prop :=
 ∀ (pins:List (Addr×Obj)) (s:Shared) (σ:St) (H:Hp) (o i v:V) (ov iv u:Value) (Q:Hp->Prop),Inv X pins σ H s->a3c o ov->a3c i iv->a3c v u->t o i v H Q ->
  wpAny (model X.prog X.w) X.A (setItem ov iv u) (λ _ s'=>∃ H',Inv X pins σ H' s'/\Q H') X.xe s
section
variable {X:Cx} {pos:Pos}
def c4s (i:Nat):TG:=λ v σ H Q=>Q (σ.set i (some v)) H
theorem d2b (hN:X.N.Nodup) (hi:X.N[i]?=some x) (hx:Loc X.env.scope x) (hf:X.fn x=true\/X.env.scope.names.lookup x=some .local:=by first | exact .inl rfl | exact .inr rfl | assumption):PG X (.Name x pos) (c4s i):=by
 constructor;intro pins s σ H v u Q I r h;exact wpAny_assign_Name (a9r I hN hi hx r (λ s' I'=> nx12 _ H I' h) hf)
def e8g:TGs:=λ vs σ H Q=>vs=[]/\Q σ H
def e5s (t:TG) (u:TGs):TGs:=λ vs σ H Q=>∃ v r,vs=v::r/\t v σ H λ σ' H'=>u r σ' H' Q
theorem a4h:PGs X [] e8g:=by
 constructor;intro pins s σ H vs us Q I r h;obtain⟨e,h⟩:=h;subst e;exact assignInOrder_nil (nx12 σ H I h)
theorem a0w {e:Expr} {es:List Expr} {t:TG} {u:TGs} (h1:PG X e t) (h2:PGs X es u)
  (hs:(assignEach (e::es) X.env).map (·.2)=assign e X.env::(assignEach es X.env).map (·.2):=by rfl):PGs X (e::es) (e5s t u):=by
 constructor;intro pins s σ H vs us Q I r h;obtain⟨v,vr,e1,h⟩:=h;subst e1;cases r with
 | cons r rr =>
  rw[hs];refine assignInOrder_cons (thn (h1 pins s σ H _ _ _ I r h) λ _ s1 ⟨σ1,H1,I1,q1⟩=>?_);exact h2 pins s1 σ1 H1 _ _ Q I1 rr q1
def e7n (K:W.Frag) (n:Nat) (t:TGs):TG:=λ v σ H Q=>∃ a xs,v=.ref a/\SqT K H a xs/\xs.length=n/\t xs σ H Q
theorem a8i {es:List Expr} {k:Nat} {t:TGs} {n:Nat} (hc:X.calm=true) (h:PGs X es t)
  (hn:(assignEach es X.env).length=n:=by rfl) (hst:(assignEach es X.env).findIdx? (·.1)=none:=by rfl):PG X (.Tuple es k pos) (e7n X.K n t):=by
 constructor;intro pins s σ H v u Q I r hw;obtain⟨a,xs,e1,hq,hl,hw⟩:=hw;subst e1;cases r;obtain⟨its,rv,ht,hz⟩:=I.tuple hq;refine assign_Tuple_tuple (I.ok.hd hc) ht (by simp[hn,<-hl,rv.length]) hst λ h' hx=>?_
 have I1:=I.kept (t':=s.toks) λ b o e=>hx b o (z0l (z09 e)) e
 exact h pins _ σ H xs _ Q I1 (by simpa using rv) hw
def e7y (to ti:TE) (t:e6o):TG:=λ v σ H Q=>to σ H λ o H1=>ti σ H1 λ i H2=>t o i v H2 λ H3=>Q σ H3
theorem c2g {o i:Expr} {to ti:TE} {t:e6o} (ho:PE X o to) (hi:PE X i ti) (hs:e7c X t)
  (ha:∀ v,assign (.Subscript o i pos) X.env v=(do
   let ov <- holding [v] (eval o X.env)
   let iv <- holding [v,ov] (eval i X.env)
   standAt pos
   holding [v,ov,iv] (setItem ov iv v)
   release [v,ov,iv] []):=by intro _;rfl):PG X (.Subscript o i pos) (e7y to ti t):=by
 constructor;intro pins s σ H v u Q I r h;rw[ha];refine z00 (z18 (thn (ho pins s σ H _ I h) λ ov s1 ⟨x,H1,I1,r1,q1⟩=>?_));refine z00 (z18 (thn (hi pins s1 σ H1 _ I1 q1) λ iv s2 ⟨y,H2,I2,r2,q2⟩=>?_));refine z00 (z2n (z00 (z18 (thn (hs pins s2 σ H2 x y v ov iv u _ I2 r1 r2 r q2) λ _ s3 ⟨H3,I3,q3⟩=>?_))));exact wpAny_release (nx12 σ H3 I3 q3)
def e5q (te:TE) (g:TG):TS:=λ D σ H=>te σ H λ x H1=>g x σ H1 D.nx
theorem b3b {tg e:Expr} {te:TE} {g:TG} (he:PE X e te) (hg:PG X tg g) (hs:swapsWithSole [tg] e pos.line X.env=pure false:=by rfl) (hw:swappedStores [tg] e X.env=pure none:=by rfl)
  (h1:(assignEach [tg] X.env).map (·.2)=[assign tg X.env]:=by rfl):PS X (.Assign [tg] e pos) (e5q te g):=by
 constructor;intro pins s σ H D I h;refine wpAny_Assign_stores (thn (he pins s σ H _ I h) λ v s1 ⟨x,H1,I1,r1,q1⟩=>?_) hs hw;rw[h1];exact thn (hg pins s1 σ H1 x v _ I1 r1 q1) λ _ s2 q=>q
theorem e4g (hN:X.N.Nodup) (hi:X.N[i]?=some x) (hx:Loc X.env.scope x) (he:PE X e te) (hs:swapsWith e (some (.Name x pos')) pos.line X.env=pure false:=by rfl) (hf:X.fn x=true\/X.env.scope.names.lookup x=some .local:=by first | exact .inl rfl | exact .inr rfl | assumption) :
  PS X (.Assign [.Name x pos'] e pos) (e5q te (c4s i)):=by
 constructor;intro pins s σ H D I h;refine wpAny_Assign_Name (thn (he pins s σ H _ I h) λ v s1 ⟨y,H1,I1,r1,q1⟩=>?_) hs;exact a9r I1 hN hi hx r1 (λ s2 I2=> nx12 _ H1 I2 q1) hf
end
section
variable {X:Cx} {pos:Pos}
def e5f (c:TT) (tb:TS):TS:=λ D σ H=>∃ W:Nat->St->Hp->Prop,(∃ m,W m σ H)/\∀ m σ H,W m σ H ->
 c σ H λ b H1=>if b=true then ∃ N:St->Hp->Prop,(∀ σ' H',N σ' H'->∃ m',m' < m/\W m' σ' H')/\tb {D with nx:=N,ct:=N,bk:=D.nx} σ H1 else D.nx σ H1
theorem d6m {c:Expr} {body:List Stmt} {tc:TT} {tb:TS} (hp:PassesOwn (model X.prog X.w) X.A X.env X.xe) (hc:PT X c tc) (hb:PSs X body tb):PS X (.While c body [] pos) (e5f tc tb):=by
 constructor;intro pins s σ H D I h;obtain⟨W,⟨m0,w0⟩,turn⟩:=h;refine wpAny_While (codeAny_whileLoop (λ n s'=>∃ σ' H',Inv X pins σ' H' s'/\W n σ' H') ?_ m0 (nx12 σ H I w0));rintro n s1 ⟨σ1,H1,I1,w1⟩;refine z3o hp (thn (hc pins s1 σ1 H1 _ I1 (turn n σ1 H1 w1)) λ b s2 ⟨H2,I2,q2⟩=>?_);cases b with
 | true =>
  obtain⟨N,hN,q2⟩:=q2;refine z3o hp (thn (hb pins s2 σ1 H2 _ I2 q2) λ f s3 q3=>?_);cases f with
  | next =>
   obtain⟨σ3,H3,I3,n3⟩:=q3;obtain⟨m',hm,w3⟩:=hN σ3 H3 n3;exact nx41 m' hm σ3 H3 I3 w3
  | cont =>
   obtain⟨σ3,H3,I3,n3⟩:=q3;obtain⟨m',hm,w3⟩:=hN σ3 H3 n3;exact nx41 m' hm σ3 H3 I3 w3
  | brk=>exact q3
  | ret v=>exact q3
 | false =>
  exact z2z (nx12 σ1 H2 I2 q2)
end
structure It where
 go:Nat->Hp->Prop
 yld:Nat->Hp->V->Hp->Prop
 stop:Nat->Hp->Prop
def b6k (X:Cx) (pins:List (Addr×Obj)) (H:Hp) (b:Addr):Prop :=
 H b=none/\b≠X.env.locals/\b ∉ X.fs/\(b∈X.ex\/X.s₀.heap.objs.size<=b)/\(∀ x c,X.env.cells.lookup x=some c->c≠b)/\∀ p∈X.pn++pins,p.1≠b
theorem Inv.fpOk {σ:St} {b:Addr} (I:Inv X pins σ H s) (hb:s.heap.objs.size<=b) (hn:H' b=none):b6k X pins H' b:=by
 refine⟨hn,Nat.ne_of_gt (z0w I.lt hb),I.nofs hb,.inr (z0s I.sz hb),λ x c e z=>?_,λ p hp z=>?_⟩
 ·obtain⟨v,q⟩:=I.cell x c e;exact absurd (z0w q.lt (by rw[z];exact hb)) (z1q _)
 ·exact absurd (z0w (z09 (I.pin p hp).1) (by rw[z];exact hb)) (z1q _)
structure e2l (P:Program) (w:World) (K:W.Frag) (tg:Expr) (J:It) (fp:List Addr) (it:Addr) (tn:Nat->Heap->Prop):Prop where
 mem:it∈fp
 obj:∀ i h,tn i h->∀ b∈fp,∃ o,h.get? b=some o/\∀ v,o.data≠.cell v
 keep:∀ i h h',tn i h->(∀ b∈fp,∀ o,h.get? b=some o->h'.get? b=some o)->tn i h'
 item:∀ (X:Cx),X.prog=P->X.w=w->X.K=K->X.calm=true->∀ (i:Nat) (pins:List (Addr×Obj)) (s:Shared) (σ:St) (H:Hp) (E:Value->Shared->Prop),Inv X pins σ H s->(∀ b∈fp,b6k X pins H b)->tn i s.heap->J.go i H ->
  wpAny (model P w) X.A (pyNext (.ref it)) (λ r s1=>∃ u,r=some u /\
   wpAny (model P w) X.A (letOwnedTupleGo tg (.ref it) u) (λ _ s2=>∃ x H',Inv X pins σ H' s2/\a3c x u/\J.yld i H x H'/\tn (i+1) s2.heap/\∀ b∈fp,H' b=none) E s1) E s
 done:∀ (X:Cx),X.prog=P->X.w=w->X.K=K->X.calm=true->∀ (i:Nat) (pins:List (Addr×Obj)) (s:Shared) (σ:St) (H:Hp) (E:Value->Shared->Prop),Inv X pins σ H s->(∀ b∈fp,b6k X pins H b)->tn i s.heap->J.stop i H ->
  wpAny (model P w) X.A (pyNext (.ref it)) (λ r s1=>r=none/\Inv X pins σ H s1) E s
 self:∀ (A:Around) (i:Nat) (s:Shared) (Q:Value->Shared->Prop) (E:Value->Shared->Prop),tn i s.heap->Q (.ref it) s->wpAny (model P w) A (pyIter (.ref it)) Q E s
abbrev TI:=St->Hp->(It->Hp->Prop)->Prop
def PIE (X:Cx) (pins:List (Addr×Obj)) (σ:St) (tg:Expr) (R:It->Hp->Prop) (itv:Value) (s2:Shared):Prop :=
 ∃ (it:Addr) (fp:List Addr) (tn:Nat->Heap->Prop) (J:It) (H':Hp),itv=.ref it/\Inv X pins σ H' s2/\e2l X.prog X.w X.K tg J fp it tn/\tn 0 s2.heap/\(∀ b∈fp,b6k X pins H' b)/\R J H'
structure PI (X:Cx) (tg iter:Expr) (wi:TI):Prop where
 run:∀ (pins:List (Addr×Obj)) (s:Shared) (σ:St) (H:Hp) (R:It->Hp->Prop),Inv X pins σ H s->wi σ H R ->
  wpAny (model X.prog X.w) X.A (eval iter X.env) (λ v s1=>wpAny (model X.prog X.w) X.A (pyIter v) (PIE X pins σ tg R) X.xe s1) X.xe s
instance {X:Cx} {tg iter:Expr} {wi:TI}:CoeFun (PI X tg iter wi) λ _=>∀ (pins:List (Addr×Obj)) (s:Shared) (σ:St) (H:Hp) (R:It->Hp->Prop),Inv X pins σ H s->wi σ H R ->
  wpAny (model X.prog X.w) X.A (eval iter X.env) (λ v s1=>wpAny (model X.prog X.w) X.A (pyIter v) (PIE X pins σ tg R) X.xe s1) X.xe s:=⟨PI.run⟩
theorem e0t (ho:s.heap.get? it=some o) (hc:o.cls=.type n) (hd:o.data=.fields vs)
    (hn:["enumerate","zip","dict_itemiterator","dict_reverseitemiterator","odict_iterator","itertools.zip_longest","itertools.pairwise"].contains n=false) (hQ:Q () s):wpAny M A (letOwnedTupleGo tg (.ref it) u) Q E s:=by
  cases tg<;>first
    | exact z05 hQ
    | (cases u<;>first
        | exact z05 hQ
        | (refine z00 (wpAny_load ho ?_)
           rw[hc,hd];show wpAny M A (if (["enumerate","zip","dict_itemiterator","dict_reverseitemiterator","odict_iterator","itertools.zip_longest","itertools.pairwise"].contains n && vs[0]? == some (rawInt _))=true then _ else _) Q E s;rw[z01 (by intro h;rw[hn,Bool.false_and] at h;cases h)];exact z05 hQ))
def Itl (K:W.Frag) (a:Addr):It :=
 ⟨λ i H=>∃ xs x,SqL K H a xs/\xs[i]?=some x,λ i H x H'=>H'=H/\∀ xs,SqL K H a xs->xs[i]?=some x,λ i H=>∃ xs,SqL K H a xs/\xs.length<=i⟩
def Itt (K:W.Frag) (a:Addr):It :=
 ⟨λ i H=>∃ xs x,SqT K H a xs/\xs[i]?=some x,λ i H x H'=>H'=H/\∀ xs,SqT K H a xs->xs[i]?=some x,λ i H=>∃ xs,SqT K H a xs/\xs.length<=i⟩
def Itr (lo:Int) (n:Nat):It:=⟨λ i _=>i < n,λ i H x H'=>H'=H/\x=.int (lo+i),λ i _=>n<=i⟩
theorem d0j {K:W.Frag} (a it:Addr):e2l P w K tg (Itl K a) [it] it (λ i h=>h.IsListIter it a i) where
 mem:=by simp
 obj:=λ i h st b hb=>by
  have e:b=it:=by simpa using hb
  subst e;obtain⟨o,e,c,d⟩:=st;exact⟨o,e,λ v z=>by rw[d] at z;cases z⟩
 keep:=λ i h h' st k=>st.at λ o e=>k it (by simp) o e
 item:=by
  intro X hP hw hK hc i pins s σ H E I hf st hg;subst hP hw hK;obtain⟨xs,x,hq,hx⟩:=hg;obtain⟨its,rv,p,hz⟩:=I.list hq;obtain⟨u,hu,ru⟩:=rv.get hx;obtain⟨f0,f1,f2,f3,f4,f5⟩:=hf it (by simp);refine wpAny_pyNext_list_item st p.isList (by simpa using hu) λ h' st' sb=>?_
  have I1:=I.turned (t':=s.toks) (λ b o hb e=>(sb.2 b hb).trans e) f0 f1 f3 f4 f5;obtain⟨o,e,c,d⟩:=id st';exact⟨u,rfl,e0t e c d (by decide) (nx25 x H I1 ru ⟨rfl,λ ys hy=>by rw[I.list_inj hy hq];exact hx⟩ st' λ b hb=>(hf b hb).1)⟩
 done:=by
  intro X hP hw hK hc i pins s σ H E I hf st hg;subst hP hw hK;obtain⟨xs,hq,hx⟩:=hg;obtain⟨its,rv,p,hz⟩:=I.list hq;obtain⟨f0,f1,f2,f3,f4,f5⟩:=hf it (by simp);have hl:=rv.length;exact wpAny_pyNext_list_end (I.ok.hd hc) st p.isList (by simp;lia) λ h' eb=>⟨rfl,I.turned (λ b o hb e=>eb b o hb e) f0 f1 f3 f4 f5⟩
 self:=λ _ _ _ _ _ st h=>wpAny_pyIter_listiter st h
theorem c8m {K:PySem.W.Frag} (it:Addr) (lo:Int) (n:Nat):e2l P w K tg (Itr lo n) [it] it (λ i h=>IsRangeIter h it (lo+(i:Nat)*1) ((n:Int) - (i:Nat)) 1) where
 mem:=by simp
 obj:=λ i h st b hb=>by
  have e:b=it:=by simpa using hb
  subst e;exact⟨_,st,λ v z=>by
   have z':=z;cases z'⟩
 keep:=λ i h h' st k=>k it (by simp) _ st
 item:=by
  intro X hP hw hK hc i pins s σ H E I hf st hg;subst hP hw hK;obtain⟨f0,f1,f2,f3,f4,f5⟩:=hf it (by simp);have W:=Walks.range (prog:=X.prog) (w:=X.w) (I.ok.hd hc) it lo 1 n;refine W.item i s _ _ hg st λ v h' tk hv st' kk=>?_
  obtain⟨t,rfl⟩:=hv;have I1:Inv X pins σ H {s with heap:=h',toks:=tk}:=I.turned (λ b o hb e=>kk b o (by simpa using hb) e) f0 f1 f3 f4 f5;refine⟨_,rfl,e0t st' rfl rfl (by decide) (nx25 (.int (lo+i)) H I1 ⟨t,?_⟩ ⟨rfl,rfl⟩ st' λ b hb=>(hf b hb).1)⟩;rw[Int.mul_one]
 done:=by
  intro X hP hw hK hc i pins s σ H E I hf st hg;subst hP hw hK;obtain⟨f0,f1,f2,f3,f4,f5⟩:=hf it (by simp);exact wpAny_pyNext_range_end (I.ok.hd hc) st (by have:n<=i:=hg;lia) λ h' eb=>⟨rfl,I.turned (λ b o hb e=>eb b o hb e) f0 f1 f3 f4 f5⟩
 self:=λ _ _ _ _ _ st h=>wpAny_pyIter_rangeiter st h
end L2
namespace L2
open PySem PySem.Spec PyProof.Rows
section
variable {X:Cx} {tg:Expr}
def e3y (K:W.Frag) (tl:TE):TI:=λ σ H R=>tl σ H λ x H1=>∃ a,x=.ref a/\(∃ xs,SqL K H1 a xs)/\R (Itl K a) H1
theorem a0z (hl:PE X l tl):PI X tg l (e3y X.K tl):=by
 constructor;intro pins s σ H R I h;refine thn (hl pins s σ H _ I h) λ v s1 ⟨x,H1,I1,r1,q1⟩=>?_
 obtain⟨a,e,⟨xs,hq⟩,q⟩:=q1;subst e;cases r1;obtain⟨its,rv,p,hz⟩:=I1.list hq;refine z4h p.isList ?_;refine nx36 s1.heap.objs.size ([s1.heap.objs.size]) _ _ H1 rfl (I1.kept λ b o e=>z0k _ e) (d0j a _) ⟨_,z1a _ rfl,rfl,rfl⟩ (λ b hb=>?_) q;have e:b=s1.heap.objs.size:=by simpa using hb
 subst e;exact I1.fpOk (z04 _) (I1.hok.fresh (z04 _))
theorem c5h {σ:St} {lo hi:Int} (I:Inv X pins σ H s) (h1:-(2 ^ 62)<=lo) (h2:lo < 2 ^ 62) (h3:-(2 ^ 62)<=hi) (h4:hi < 2 ^ 62)
  (q:R (Itr lo (hi - lo).toNat) H):wpAny (model X.prog X.w) X.A (pyIter (.ref s.heap.objs.size)) (PIE X pins σ tg R) E {s with heap:=s.heap.push {cls:=.type "range",data:=.fields #[.int lo t,.int hi u,.int 1 v]},toks:=tk}:=by
 refine wpAny_pyIter_range (IsRange.new ..) (small_one h1 h2 h3 h4) ?_;have I1:Inv X pins σ H {s with heap:=s.heap.push {cls:=.type "range",data:=.fields #[.int lo t,.int hi u,.int 1 v]},toks:=tk}:=I.kept λ b o e=>z0k _ e
 refine⟨(s.heap.push {cls:=.type "range",data:=.fields #[.int lo t,.int hi u,.int 1 v]}).objs.size,[(s.heap.push {cls:=.type "range",data:=.fields #[.int lo t,.int hi u,.int 1 v]}).objs.size],_,_,H,rfl,
  I1.kept λ b o e=>z0k _ e,c8m _ lo (hi - lo).toNat,?_,λ b hb=>?_,q⟩
 ·have e1:lo+((0:Nat):Int)*1=lo:=by simp
  have e2:(((hi - lo).toNat:Nat):Int) - ((0:Nat):Int)=Builtin.Range.rangeSize lo hi 1:=by rw[rangeSize_one];split<;>lia
  rw[e1,e2];exact z1a _ rfl
 ·have e:b=(s.heap.push {cls:=.type "range",data:=.fields #[.int lo t,.int hi u,.int 1 v]}).objs.size:=by simpa using hb
  subst e;exact I1.fpOk (z04 _) (I1.hok.fresh (z04 _))
def e7g (ta:TA):TI:=λ σ H R=>ta σ H λ vs H1=>∃ j:Int,vs=[.int j]/\-(2 ^ 62)<=j/\j < 2 ^ 62/\R (Itr 0 j.toNat) H1
def e6x (ta:TA):TI:=λ σ H R=>ta σ H λ vs H1=>∃ i j:Int,vs=[.int i,.int j]/\(-(2 ^ 62)<=i/\i < 2 ^ 62/\-(2 ^ 62)<=j/\j < 2 ^ 62)/\R (Itr i (j - i).toNat) H1
theorem a2z (hg:Gl X "range") (hm:X.mg "range"=none) (ha:PA X [a] ta) (hs:starEach [a] X.env=[(false,eval a X.env)]:=by rfl):PI X tg (.Call (.Name "range" p) [a] [] pos) (e7g ta):=by
 constructor;intro pins s σ H R I h;refine Call_ (b1r I hg hm boot_range (z45 (thn (ha pos pins s σ H _ I h) λ us s1 ⟨vs,H1,I1,r1,q1⟩=>?_) hs rfl));obtain⟨j,e,q1,q2,q⟩:=q1;subst e;cases r1 with
 | cons r rr =>
  cases rr;obtain⟨t,rfl⟩:=r;exact call_range_1 (c5h I1 (by lia) (by lia) q1 q2 (by simpa using q))
theorem d1f {p pos:Pos} (hg:Gl X "range") (hm:X.mg "range"=none) (ha:PA X [a,b] ta) (hs:starEach [a,b] X.env=[(false,eval a X.env),(false,eval b X.env)]:=by rfl) (hs2:starEach [b] X.env=[(false,eval b X.env)]:=by rfl) :
  PI X tg (.Call (.Name "range" p) [a,b] [] pos) (e6x ta):=by
 constructor;intro pins s σ H R I h;refine Call_ (b1r I hg hm boot_range (z45 (thn (ha pos pins s σ H _ I h) λ us s1 ⟨vs,H1,I1,r1,q1⟩=>?_) (by rw[hs,hs2]) (by rw[hs2];rfl)));obtain⟨i,j,e,⟨q1,q2,q3,q4⟩,q⟩:=q1;subst e;cases r1 with
 | cons r rr =>
  cases rr with
  | cons r' rr =>
   cases rr;obtain⟨t,rfl⟩:=r;obtain⟨t',rfl⟩:=r';exact call_range_2 (c5h I1 q1 q2 q3 q4 q)
def e8o (wi:TI) (g:TG) (tb:TS):TS:=λ D σ H=>wi σ H λ J H1=>∃ W:Nat->Nat->St->Hp->Prop,(∃ m,W 0 m σ H1)/\∀ i m σ H,W i m σ H ->
 (J.stop i H/\D.nx σ H)\/(J.go i H/\∃ N:St->Hp->Prop,(∀ σ' H',N σ' H'->∃ m',m' < m/\W (i+1) m' σ' H')/\∀ x H',J.yld i H x H'->g x σ H' λ σ2 H2=>tb {D with nx:=N,ct:=N,bk:=D.nx} σ2 H2)
def b7r (fp:List Addr) (h:Heap):List (Addr×Obj):=fp.filterMap λ b=>(h.get? b).map λ o=>(b,o)
theorem a5k (hb:b∈fp) (e:h.get? b=some o):(b,o)∈b7r fp h:=z27.mpr ⟨b,hb,by rw[e];rfl⟩
theorem d0n (hp:p∈b7r fp h):p.1∈fp/\h.get? p.1=some p.2:=by
 obtain⟨b,hb,e⟩:=z27.mp hp;cases q:h.get? b with
 | none=>rw[q] at e;cases e
 | some o =>
  rw[q] at e;have e':=z1g e;subst e';exact⟨hb,q⟩
theorem Inv.pinned {σ:St} (I:Inv X pins σ H s) (hf:∀ b∈fp,b6k X pins H b) (ho:∀ b∈fp,∃ o,s.heap.get? b=some o/\∀ v,o.data≠.cell v):Inv X (pins++b7r fp s.heap) σ H s :=
 I.pins_of λ p hp=>(z08.mp hp).elim (λ z=>I.pin p (z0u _ z)) λ z=>by
  obtain⟨hb,e⟩:=d0n z;obtain⟨f0,f1,f2,_⟩:=hf p.1 hb;obtain⟨o,e',d⟩:=ho p.1 hb;rw[e] at e';cases e';exact⟨e,f0,f1,f2,d⟩
theorem Inv.unpinned {σ:St} (I:Inv X (pins++pl) σ H s):Inv X pins σ H s:=I.pins_of λ p hp=>I.pin p (z0u _ (z19 _ hp))
theorem a2r (hp:PassesOwn (model X.prog X.w) X.A X.env X.xe) (hc:X.calm=true) (hi:PI X tg iter wi) (hg:PG X tg g) (hb:PSs X body tb)
  (hs:∀ x,foldedSetIterable iter X.env x=pure x:=by intro _;rfl):PS X (.For tg iter body [] pos) (e8o wi g tb):=by
 constructor;intro pins s σ H D I h;refine wpAny_For (thn (hi pins s σ H _ I h) λ v s1 h1=>thn h1 λ itv s2 h2=>?_) hs;obtain⟨it,fp,tn,J,H2,e,I2,T,st2,f2,W,⟨m0,w0⟩,turn⟩:=h2;subst e;have stat:∀ {H':Hp},(∀ b∈fp,H' b=none)->∀ b∈fp,b6k X pins H' b:=λ hn b hb=>⟨hn b hb,(f2 b hb).2⟩
 refine codeAny_forLoop_any (λ n s'=>∃ i σ' H',Inv X pins σ' H' s'/\tn i s'.heap/\(∀ b∈fp,H' b=none)/\W i n σ' H') ?_ m0 (nx29 0 σ H2 I2 st2 ⟨λ b hb=>(f2 b hb).1,w0⟩);rintro n s3 ⟨i,σ3,H3,I3,st3,fr3,w3⟩;rcases turn i n σ3 H3 w3 with ⟨stop,qn⟩ | ⟨go,N,hN,step⟩
 ·refine z3o hp (thn (T.done X rfl rfl rfl hc i pins s3 σ3 H3 X.xe I3 (stat fr3) st3 stop) λ r s4 ⟨hr,I4⟩=>?_);subst hr;exact z2z (nx12 σ3 H3 I4 qn)
 ·refine z3o hp (thn (T.item X rfl rfl rfl hc i pins s3 σ3 H3 X.xe I3 (stat fr3) st3 go) λ r s4 ⟨u,hr,h4⟩=>?_);subst hr;refine z3o hp (thn h4 λ _ s5 ⟨x,H5,I5,r5,y5,st5,fr5⟩=>?_);have I5':=I5.pinned (stat fr5) (T.obj _ _ st5);refine z3o hp (thn (hg _ s5 σ3 H5 x u _ I5' r5 (step x H5 y5)) λ _ s6 ⟨σ6,H6,I6,q6⟩=>?_);refine z3o hp (thn (hb _ s6 σ6 H6 _ I6 q6) λ f s7 q7=>?_);have again:∀ {σ7:St} {H7:Hp},Inv X (pins++b7r fp s5.heap) σ7 H7 s7->N σ7 H7->∃ m,m < n/\∃ i σ' H',Inv X pins σ' H' s7/\tn i s7.heap/\(∀ b∈fp,H' b=none)/\W i m σ' H':=λ {σ7 H7} I7 n7=>by
   obtain⟨m',hm,w7⟩:=hN σ7 H7 n7;refine nx1 m' hm (i+1) (nx7 σ7 H7 I7.unpinned (T.keep _ _ _ st5 λ b hb o e=>(I7.pin (b,o) (z0u _ (z0u _ (a5k hb e)))).1) (λ b hb=>?_) w7);obtain⟨o,e,d⟩:=T.obj _ _ st5 b hb;exact(I7.pin (b,o) (z0u _ (z0u _ (a5k hb e)))).2.1
  cases f with
  | next=>obtain⟨σ7,H7,I7,n7⟩:=q7;exact again I7 n7
  | cont=>obtain⟨σ7,H7,I7,n7⟩:=q7;exact again I7 n7
  | brk=>obtain⟨σ7,H7,I7,q7⟩:=q7;exact nx12 σ7 H7 I7.unpinned q7
  | ret v=>obtain⟨x7,σ7,H7,I7,r7,q7⟩:=q7;exact nx29 x7 σ7 H7 I7.unpinned r7 q7
end
theorem a3k {K:PySem.W.Frag} {g:TG} {tb:TS} {D:b9c} (Pv:Nat->St->Hp->Prop) (h0:Pv 0 σ H) (hl:∀ i σ H,i<=xs.length->Pv i σ H->SqL K H a xs)
  (hs:∀ i x σ H,xs[i]?=some x->Pv i σ H->g x σ H λ σ2 H2=>tb {D with nx:=Pv (i+1),ct:=Pv (i+1),bk:=D.nx} σ2 H2) (hd:∀ σ H,Pv xs.length σ H->D.nx σ H) :
  ∃ W:Nat->Nat->St->Hp->Prop,(∃ m,W 0 m σ H)/\∀ i m σ H,W i m σ H ->
   ((Itl K a).stop i H/\D.nx σ H)\/((Itl K a).go i H/\∃ N:St->Hp->Prop,(∀ σ' H',N σ' H'->∃ m',m' < m/\W (i+1) m' σ' H')/\∀ x H',(Itl K a).yld i H x H'->g x σ H' λ σ2 H2=>tb {D with nx:=N,ct:=N,bk:=D.nx} σ2 H2):=by
 refine⟨λ i m σ H=>m=xs.length - i/\i<=xs.length/\Pv i σ H,⟨xs.length,by simp,z0x _,h0⟩,?_⟩;rintro i m σ H ⟨rfl,hi,p⟩;have q:=hl i σ H hi p;by_cases hlt:i < xs.length
 ·refine .inr ⟨nx12 xs (xs[i]) q (by simp[hlt]),Pv (i+1),λ σ' H' p'=>⟨xs.length - (i+1),by lia,rfl,hlt,p'⟩,λ x H' y=>?_⟩;obtain⟨e,y⟩:=y;subst e;exact hs i x σ _ (y xs q) p
 ·have e:i=xs.length:=by lia
  subst e;exact .inl ⟨⟨xs,q,z04 _⟩,hd σ H p⟩
theorem a3h {lo:Int} {g:TG} {tb:TS} {D:b9c} (Pv:Nat->St->Hp->Prop) (h0:Pv 0 σ H)
  (hs:∀ i σ H,i < n->Pv i σ H->g (.int (lo+i)) σ H λ σ2 H2=>tb {D with nx:=Pv (i+1),ct:=Pv (i+1),bk:=D.nx} σ2 H2) (hd:∀ σ H,Pv n σ H->D.nx σ H) :
  ∃ W:Nat->Nat->St->Hp->Prop,(∃ m,W 0 m σ H)/\∀ i m σ H,W i m σ H ->
   ((Itr lo n).stop i H/\D.nx σ H)\/((Itr lo n).go i H/\∃ N:St->Hp->Prop,(∀ σ' H',N σ' H'->∃ m',m' < m/\W (i+1) m' σ' H')/\∀ x H',(Itr lo n).yld i H x H'->g x σ H' λ σ2 H2=>tb {D with nx:=N,ct:=N,bk:=D.nx} σ2 H2):=by
 refine⟨λ i m σ H=>m=n - i/\i<=n/\Pv i σ H,⟨n,by simp,z0x _,h0⟩,?_⟩;rintro i m σ H ⟨rfl,hi,p⟩;by_cases hlt:i < n
 ·refine .inr ⟨hlt,Pv (i+1),λ σ' H' p'=>⟨n - (i+1),by lia,rfl,hlt,p'⟩,λ x H' y=>?_⟩;obtain⟨e,y⟩:=y;subst e y;exact hs i σ _ hlt p
 ·have e:i=n:=by lia
  subst e;exact .inl ⟨z04 _,hd σ H p⟩
end L2
namespace L2
open PySem PySem.Spec PyProof.Rows
abbrev R2:=V->V->Hp->VK->Prop
def OpR (X:Cx) (f:Value->Value->Sem Value) (r:R2):Prop :=
 ∀ (pins:List (Addr×Obj)) (s:Shared) (σ:St) (H:Hp) (x y:V) (v u:Value) (Q:VK),Inv X pins σ H s->a3c x v->a3c y u->r x y H Q ->
  wpAny (model X.prog X.w) X.A (f v u) (EP X pins σ Q) X.xe s
def UnR (X:Cx) (f:Value->Sem Value) (r:V->Hp->VK->Prop):Prop :=
 ∀ (pins:List (Addr×Obj)) (s:Shared) (σ:St) (H:Hp) (x:V) (v:Value) (Q:VK),Inv X pins σ H s->a3c x v->r x H Q ->
  wpAny (model X.prog X.w) X.A (f v) (EP X pins σ Q) X.xe s
def a8k (X:Cx) (f:Value) (r:List V->Hp->VK->Prop):Prop :=
 ∀ (pins:List (Addr×Obj)) (s:Shared) (σ:St) (H:Hp) (xs:List V) (us:List Value) (Q:VK),Inv X pins σ H s->a3b xs us->r xs H Q ->
  wpAny (model X.prog X.w) X.A (call f us) (EP X pins σ Q) X.xe s
def tOp (r:R2) (ta tb:TE):TE:=λ σ H Q=>ta σ H λ x H1=>tb σ H1 λ y H2=>r x y H2 Q
def tUn (r:V->Hp->VK->Prop) (ta:TE):TE:=λ σ H Q=>ta σ H λ x H1=>r x H1 Q
def rI (C:Int->Int->Prop) (g:Int->Int->V):R2:=λ x y H Q=>∃ i j,x=.int i/\y=.int j/\C i j/\Q (g i j) H
def rI0 (g:Int->Int->V):R2:=λ x y H Q=>∃ i j,x=.int i/\y=.int j/\Q (g i j) H
def rU (g:Int->V):V->Hp->VK->Prop:=λ x H Q=>∃ i,x=.int i/\Q (g i) H
section
variable {X:Cx} {a b c:Expr} {ta tb tc:TE} {pos:Pos}
theorem e6f (ha:PE X a ta) (hb:PE X b tb) {σ:St} {R:V->V->Hp->Prop} (I:Inv X pins σ H s)
  (h:ta σ H λ x H1=>tb σ H1 λ y H2=>R x y H2) {f:Value->Value->Sem Value}
  (hf:∀ v u s2 x y H2,Inv X pins σ H2 s2->a3c x v->a3c y u->R x y H2->wpAny (model X.prog X.w) X.A (f v u) Q X.xe s2) :
  wpAny (model X.prog X.w) X.A (eval a X.env) (λ v s₁=>wpAny (model X.prog X.w) X.A (eval b X.env) (λ u s₂=>wpAny (model X.prog X.w) X.A (f v u) Q X.xe s₂) X.xe s₁) X.xe s:=by
 refine thn (ha pins s σ H _ I h) λ v s1 ⟨x,H1,I1,r1,q1⟩=>?_
 refine thn (hb pins s1 σ H1 _ I1 q1) λ u s2 ⟨y,H2,I2,r2,q2⟩=>?_
 exact hf v u s2 x y H2 I2 r1 r2 q2
theorem a0l (ho:OpR X (binaryOp op) r) (ha:PE X a ta) (hb:PE X b tb):PE X (.BinOp a op b pos) (tOp r ta tb):=by
 constructor;intro pins s σ H Q I h;exact wpAny_BinOp (e6f ha hb I h λ v u s2 x y H2 I2 rx ry q=>ho pins s2 σ H2 x y v u Q I2 rx ry q)
theorem d0u (ho:UnR X (unaryOp op) r) (ha:PE X a ta):PE X (.UnaryOp op a pos) (tUn r ta):=by
 constructor;intro pins s σ H Q I h;exact UnaryOp_ (thn (ha pins s σ H _ I h) λ v s1 ⟨x,H1,I1,r1,q1⟩=>ho pins s1 σ H1 x v Q I1 r1 q1)
theorem opI {g:Int->Int->Int}
  (rule:∀ (i j:Int) (t u:Tok) (s:Shared) (Q:Value->Shared->Prop) (E:Value->Shared->Prop),C i j->Q (.int (g i j) s.toks) {s with toks:=s.toks+1}->wpAny (model X.prog X.w) X.A (f (.int i t) (.int j u)) Q E s) :
  OpR X f (rI C λ i j=>.int (g i j)):=by
 intro pins s σ H x y v u Q I rx ry h;obtain⟨i,j,rfl,rfl,hc,q⟩:=h;obtain⟨t,rfl⟩:=rx;obtain⟨t',rfl⟩:=ry;exact rule i j t t' s _ _ hc (nx0 (.int (g i j)) H (I.tok _) ⟨_,rfl⟩ q)
theorem e7u {g:Int->Int->Int}
  (rule:∀ (i j:Int) (t u:Tok) (s:Shared) (Q:Value->Shared->Prop) (E:Value->Shared->Prop),Q (.int (g i j) s.toks) {s with toks:=s.toks+1}->wpAny (model X.prog X.w) X.A (f (.int i t) (.int j u)) Q E s) :
  OpR X f (rI0 λ i j=>.int (g i j)):=by
 intro pins s σ H x y v u Q I rx ry h;obtain⟨i,j,rfl,rfl,q⟩:=h;obtain⟨t,rfl⟩:=rx;obtain⟨t',rfl⟩:=ry;exact rule i j t t' s _ _ (nx0 (.int (g i j)) H (I.tok _) ⟨_,rfl⟩ q)
theorem e5p {g:Int->Int->Bool}
  (rule:∀ (i j:Int) (t u:Tok) (s:Shared) (Q:Value->Shared->Prop) (E:Value->Shared->Prop),Q (.bool (g i j)) s->wpAny (model X.prog X.w) X.A (f (.int i t) (.int j u)) Q E s) :
  OpR X f (rI0 λ i j=>.bl (g i j)):=by
 intro pins s σ H x y v u Q I rx ry h;obtain⟨i,j,rfl,rfl,q⟩:=h;obtain⟨t,rfl⟩:=rx;obtain⟨t',rfl⟩:=ry;exact rule i j t t' s _ _ (nx0 (.bl (g i j)) H I rfl q)
def e7w (i j:Int):Prop:=0 < j/\j < 1073741824
def e8l (i j:Int):Prop:=0<=j/\j<=1000000/\i.natAbs < 2 ^ 64
def e6s (i j:Int):Prop:=(-(2 ^ 64) < i/\i < 2 ^ 64)\/(-(2 ^ 64) < j/\j < 2 ^ 64)
theorem e6s.ok (h:e6s i j):IntMulOk i j:=by
 rcases h with ⟨h1,h2⟩ | ⟨h1,h2⟩
 ·exact .of_left (intBits_le_64 h1 h2)
 ·exact .of_right (intBits_le_64 h1 h2)
theorem a2c:OpR X (binaryOp .Add) (rI0 λ i j=>.int (i+j)):=e7u λ _ _ _ _ _ _ _ q=>add_int q
theorem b7f:OpR X (binaryOp .Sub) (rI0 λ i j=>.int (i - j)):=e7u λ _ _ _ _ _ _ _ q=>sub_int q
theorem b5h:OpR X (binaryOp .Mult) (rI e6s λ i j=>.int (i*j)):=opI λ _ _ _ _ _ _ _ hc q=>mul_int q hc.ok
theorem a4g:OpR X (binaryOp .FloorDiv) (rI e7w λ i j=>.int (i / j)):=opI λ i j _ _ _ _ _ hc q=>by
 have h1:=hc.1;have h2:=hc.2;exact floordiv_int (by lia) (by rw[Int.fdiv_eq_ediv_of_nonneg i (by lia)];exact q) (.inl (PyProof.noPylong_small (by lia)))
theorem a2h:OpR X (binaryOp .Mod) (rI (λ _ j=>0 < j) λ i j=>.int (i%j)):=opI λ i j _ _ _ _ _ hc q=>by
 exact mod_int' (by lia) (by rw[Int.fmod_eq_emod_of_nonneg i (by lia)];exact q)
theorem c6a:OpR X (binaryOp .Pow) (rI e8l λ i j=>.int (i ^ j.toNat)):=opI λ _ _ _ _ _ _ _ hc q=>pow_int_small hc.1 hc.2.1 hc.2.2 q
theorem unI {g:Int->Int}
  (rule:∀ (i:Int) (t:Tok) (s:Shared) (Q:Value->Shared->Prop) (E:Value->Shared->Prop),Q (.int (g i) s.toks) {s with toks:=s.toks+1}->wpAny (model X.prog X.w) X.A (f (.int i t)) Q E s) :
  UnR X f (rU λ i=>.int (g i)):=by
 intro pins s σ H x v Q I rx h;obtain⟨i,rfl,q⟩:=h;obtain⟨t,rfl⟩:=rx;exact rule i t s _ _ (nx0 (.int (g i)) H (I.tok _) ⟨_,rfl⟩ q)
theorem c1k:UnR X (unaryOp .USub) (rU λ i=>.int (-i)):=unI λ _ _ _ _ _ q=>neg_int q
end
def e7r:V->V->Bool
 | .non,.non=>true | .non,.int _=>true | .int _,.non=>true | .non,.bl _=>true | .bl _,.non=>true | .non,.str _=>true | .str _,.non=>true
 | .int _,.int _=>true | .bl _,.bl _=>true | .str _,.str _=>true | .byt _,.byt _=>true
 | .int _,.str _=>true | .str _,.int _=>true | .bl _,.str _=>true | .str _,.bl _=>true
 | _,_=>false
def rEq:R2:=λ x y H Q=>e7r x y=true/\Q (.bl (decide (x=y))) H
def rNe:R2:=λ x y H Q=>e7r x y=true/\Q (.bl (!decide (x=y))) H
theorem d2h:decide (V.int i=V.int j)=(i == j):=by
 rw[z1x];simp
theorem d7x:decide (V.bl i=V.bl j)=(i == j):=by
 rw[z1x];simp
theorem d0y:decide (V.str i=V.str j)=(i == j):=by
 rw[z1x];simp
theorem d3q:decide (V.byt i=V.byt j)=(i.toList == j.toList):=by
 rw[z1x];cases i;cases j;simp
section
variable {X:Cx} {a b c:Expr} {ta tb tc:TE} {pos:Pos}
theorem a2e {σ:St} (I:Inv X pins σ H s) (q:Q (.bl k) H) (e:k=k'):EP X pins σ Q (.bool k') s:=by
 subst e;exact nx0 (.bl k) H I rfl q
theorem a2j:OpR X (compareOp .Eq) rEq:=by
 intro pins s σ H x y v u Q I rx ry h;obtain⟨hs,q⟩:=h;cases x with
 | non =>
  cases rx;cases y with
  | non=>cases ry;exact PySem.EqNone.eq_none_none (a2e I q (by simp))
  | bl j=>cases ry;exact PySem.EqNone.eq_none_bool (a2e I q (by simp))
  | int j=>obtain⟨t',rfl⟩:=ry;exact PySem.EqNone.eq_none_int (a2e I q (by simp))
  | str j=>obtain⟨t',rfl⟩:=ry;exact PySem.EqNone.eq_none_str (a2e I q (by simp))
  | _=>exact absurd (hs) z1f
 | bl i =>
  cases rx;cases y with
  | non=>cases ry;exact PySem.EqNone.eq_bool_none (a2e I q (by simp))
  | bl j=>cases ry;exact eq_bool (a2e I q d7x)
  | str j=>obtain⟨t',rfl⟩:=ry;exact PySem.EqMixed.eq_bool_str (a2e I q (by simp))
  | _=>exact absurd (show false=true from hs) z1f
 | int i =>
  obtain⟨t,rfl⟩:=rx;cases y with
  | non=>cases ry;exact PySem.EqNone.eq_int_none (a2e I q (by simp))
  | int j=>obtain⟨t',rfl⟩:=ry;exact eq_int (a2e I q d2h)
  | str j=>obtain⟨t',rfl⟩:=ry;exact PySem.EqMixed.eq_int_str (a2e I q (by simp))
  | _=>exact absurd (show false=true from hs) z1f
 | str i =>
  obtain⟨t,rfl⟩:=rx;cases y with
  | non=>cases ry;exact PySem.EqNone.eq_str_none (a2e I q (by simp))
  | bl j=>cases ry;exact PySem.EqMixed.eq_str_bool (a2e I q (by simp))
  | int j=>obtain⟨t',rfl⟩:=ry;exact PySem.EqMixed.eq_str_int (a2e I q (by simp))
  | str j=>obtain⟨t',rfl⟩:=ry;exact eq_str (a2e I q d0y)
  | _=>exact absurd (show false=true from hs) z1f
 | byt i =>
  obtain⟨t,rfl⟩:=rx;cases y with
  | byt j=>obtain⟨t',rfl⟩:=ry;exact W.eq_bytes (a2e I q d3q)
  | _=>exact absurd (show false=true from hs) z1f
 | _=>cases y<;>exact absurd (show false=true from hs) z1f
theorem b6m:OpR X (compareOp .NotEq) rNe:=by
 intro pins s σ H x y v u Q I rx ry h;obtain⟨hs,q⟩:=h;cases x with
 | non =>
  cases rx;cases y with
  | non=>cases ry;exact PySem.EqNone.ne_none_none (a2e I q (by simp))
  | bl j=>cases ry;exact PySem.EqNone.ne_none_bool (a2e I q (by simp))
  | int j=>obtain⟨t',rfl⟩:=ry;exact PySem.EqNone.ne_none_int (a2e I q (by simp))
  | str j=>obtain⟨t',rfl⟩:=ry;exact PySem.EqNone.ne_none_str (a2e I q (by simp))
  | _=>exact absurd (hs) z1f
 | bl i =>
  cases rx;cases y with
  | non=>cases ry;exact PySem.EqNone.ne_bool_none (a2e I q (by simp))
  | bl j=>cases ry;exact ne_bool (a2e I q (z0e not d7x))
  | str j=>obtain⟨t',rfl⟩:=ry;exact PySem.EqMixed.ne_bool_str (a2e I q (by simp))
  | _=>exact absurd (show false=true from hs) z1f
 | int i =>
  obtain⟨t,rfl⟩:=rx;cases y with
  | non=>cases ry;exact PySem.EqNone.ne_int_none (a2e I q (by simp))
  | int j=>obtain⟨t',rfl⟩:=ry;exact ne_int (a2e I q (z0e not d2h))
  | str j=>obtain⟨t',rfl⟩:=ry;exact PySem.EqMixed.ne_int_str (a2e I q (by simp))
  | _=>exact absurd (show false=true from hs) z1f
 | str i =>
  obtain⟨t,rfl⟩:=rx;cases y with
  | non=>cases ry;exact PySem.EqNone.ne_str_none (a2e I q (by simp))
  | bl j=>cases ry;exact PySem.EqMixed.ne_str_bool (a2e I q (by simp))
  | int j=>obtain⟨t',rfl⟩:=ry;exact PySem.EqMixed.ne_str_int (a2e I q (by simp))
  | str j=>obtain⟨t',rfl⟩:=ry;exact ne_str (a2e I q (z0e not d0y))
  | _=>exact absurd (show false=true from hs) z1f
 | byt i =>
  obtain⟨t,rfl⟩:=rx;cases y with
  | byt j=>obtain⟨t',rfl⟩:=ry;exact W.ne_bytes (a2e I q (z0e not d3q))
  | _=>exact absurd (show false=true from hs) z1f
 | _=>cases y<;>exact absurd (show false=true from hs) z1f
theorem b3e:OpR X (compareOp .Lt) (rI0 λ i j=>.bl (decide (i < j))):=e5p λ _ _ _ _ _ _ _ q=>lt_int q
theorem e4w:OpR X (compareOp .LtE) (rI0 λ i j=>.bl (decide (i<=j))):=e5p λ _ _ _ _ _ _ _ q=>le_int q
theorem d4m:OpR X (compareOp .Gt) (rI0 λ i j=>.bl (decide (j < i))):=e5p λ _ _ _ _ _ _ _ q=>gt_int q
theorem e2m:OpR X (compareOp .GtE) (rI0 λ i j=>.bl (decide (j<=i))):=e5p λ _ _ _ _ _ _ _ q=>ge_int q
theorem b6q:OpR X (compareOp .Is) (λ x y H Q=>y=.non/\Q (.bl (decide (x=.non))) H):=by
 intro pins s σ H x y v u Q I rx ry h;obtain⟨rfl,q⟩:=h;cases ry;refine is_none_gen (a2e I q ?_);cases x<;>first
  | (cases rx;rfl)
  | (obtain⟨t,rfl⟩:=rx;rfl)
theorem d9m:OpR X (compareOp .IsNot) (λ x y H Q=>y=.non/\Q (.bl (!decide (x=.non))) H):=by
 intro pins s σ H x y v u Q I rx ry h;obtain⟨rfl,q⟩:=h;cases ry;refine isnot_none_gen (a2e I q ?_);cases x<;>first
  | (cases rx;rfl)
  | (obtain⟨t,rfl⟩:=rx;rfl)
theorem a0o (b:Expr) (h:op≠.In:=by decide) (h2:op≠.NotIn:=by decide):behindInMarks op b=false:=by
 have e1:(op == CmpOp.In)=false:=by cases op<;>first | rfl | exact absurd rfl h
 have e2:(op == CmpOp.NotIn)=false:=by cases op<;>first | rfl | exact absurd rfl h2
 cases b<;>simp[behindInMarks,e1,e2]
theorem a4p (ho:OpR X (compareOp op) r) (ha:PE X a ta) (hb:PE X b tb) (hm:behindInMarks op b=false):PE X (.Compare a [op] [b] pos) (tOp r ta tb):=by
 constructor;intro pins s σ H Q I h;exact wpAny_Compare1 (e6f ha hb I h λ v u s2 x y H2 I2 rx ry q=>ho pins s2 σ H2 x y v u Q I2 rx ry q) hm
def e6v (t:TE):TT:=λ σ H Q=>t σ H λ x H'=>∃ k,x=.bl k/\Q k H'
theorem a0i (ho:OpR X (compareOp op) r) (ha:PE X a ta) (hb:PE X b tb) (hm:behindInMarks op b=false):PT X (.Compare a [op] [b] pos) (e6v (tOp r ta tb)):=by
 constructor;intro pins s σ H Q I h;refine wpAny_isTrue_Compare1 (thn (ha pins s σ H _ I h) λ v s1 ⟨x,H1,I1,r1,q1⟩=>thn (hb pins s1 σ H1 _ I1 q1) λ u s2 ⟨y,H2,I2,r2,q2⟩ =>
  thn (ho pins s2 σ H2 x y v u _ I2 r1 r2 q2) λ c s3 ⟨z,H3,I3,r3,k,e,q3⟩=>?_) hm
 subst e;cases r3;exact z3c ⟨H3,I3,q3⟩
def e4n (r r':R2) (ta tb tc:TE):TE:=λ σ H Q=>ta σ H λ x H1=>tb σ H1 λ y H2=>r x y H2 λ z H3=>∃ k,z=.bl k /\
 (if k=true then tc σ H3 λ w' H4=>r' y w' H4 Q else Q (.bl false) H3)
theorem d6k {op op':CmpOp} {r r':R2} (ho:OpR X (compareOp op) r) (ho':OpR X (compareOp op') r') (ha:PE X a ta) (hb:PE X b tb) (hc:PE X c tc)
  (hm:lastMarks [op,op'] [b,c]=false:=by with_unfolding_all rfl):PE X (.Compare a [op,op'] [b,c] pos) (e4n r r' ta tb tc):=by
 constructor;intro pins s σ H Q I h;refine Compare_chain (thn (ha pins s σ H _ I h) λ v s1 ⟨x,H1,I1,r1,q1⟩=>chain_link (thn (hb pins s1 σ H1 _ I1 q1) λ u s2 ⟨y,H2,I2,r2,q2⟩ =>
  thn (ho pins s2 σ H2 x y v u _ I2 r1 r2 q2) λ d s3 ⟨z,H3,I3,r3,k,e,q3⟩=>?_)) hm
 subst e;cases r3;refine z3c ?_;cases k with
 | false=>exact ite_ff (nx0 (.bl false) H3 I3 rfl q3)
 | true=>exact ite_tt (chain_last (thn (hc pins s3 σ H3 _ I3 q3) λ w' s4 ⟨z',H4,I4,r4,q4⟩=>ho' pins s4 σ H4 y z' u w' Q I4 r2 r4 q4))
theorem c5r:(sizeLine:Nat) < 2 ^ 63:=by rw[sizeLine_eq];decide
theorem a0r:OpR X (binaryOp .Add) (λ x y H Q=>∃ i j,x=.str i/\y=.str j/\i.length+j.length<=sizeLine/\Q (.str (i++j)) H):=by
 intro pins s σ H x y v u Q I rx ry h;obtain⟨i,j,rfl,rfl,hz,q⟩:=h;obtain⟨t,rfl⟩:=rx;obtain⟨t',rfl⟩:=ry;exact add_str (λ t' tk=> nx0 (.str (i++j)) H (I.tok _) ⟨_,rfl⟩ q) hz
theorem a8l (r:a3b [x] us):∃ u,us=[u]/\a3c x u:=by
 cases r with
 | cons r1 r2=>cases r2;exact⟨_,rfl,r1⟩
theorem c0w (r:a3b [x,y] us):∃ u w',us=[u,w']/\a3c x u/\a3c y w':=by
 cases r with
 | cons r1 r2 =>
  cases r2 with
  | cons r3 r4=>cases r4;exact nx0 _ _ rfl r1 r3
theorem c2l (hc:X.calm=true):a8k X (.builtin "max") (λ xs H Q=>∃ i j,xs=[.int i,.int j]/\Q (.int (if j > i then j else i)) H):=by
 intro pins s σ H xs us Q I r h;obtain⟨i,j,rfl,q⟩:=h;obtain⟨u,w',rfl,⟨t,rfl⟩,⟨t',rfl⟩⟩:=c0w r;refine max_two_ints (I.ok.hd hc) λ h' tk k=> nx0 _ H (I.kept k) ?_ q
 by_cases hj:j > i
 ·rw[z02 hj,z02 hj];exact⟨_,rfl⟩
 ·rw[z01 hj,z01 hj];exact⟨_,rfl⟩
theorem b4y:a8k X (.type "int") (λ xs H Q=>(∃ i,xs=[.int i]/\Q (.int i) H)\/∃ k,xs=[.bl k]/\Q (.int (if k then 1 else 0)) H):=by
 intro pins s σ H xs us Q I r h;rcases h with ⟨i,rfl,q⟩ | ⟨k,rfl,q⟩
 ·obtain⟨u,rfl,t,rfl⟩:=a8l r;exact call_int_int (nx0 (.int i) H I ⟨_,rfl⟩ q)
 ·obtain⟨u,rfl,r1⟩:=a8l r;cases r1;exact call_int_bool (nx0 (.int (if k then 1 else 0)) H (I.tok _) ⟨_,rfl⟩ q)
theorem c2q:a8k X (.type "str") (λ xs H Q=>∃ i,xs=[.int i]/\i.natAbs.log2 < 1920/\Q (.str (toString i)) H):=by
 intro pins s σ H xs us Q I r h;obtain⟨i,rfl,hz,q⟩:=h;obtain⟨u,rfl,t,rfl⟩:=a8l r;exact PySem.P.str_of_int hz (nx0 (.str _) H (I.tok _) ⟨_,rfl⟩ q)
def e8c (K:W.Frag) (x:V) (H:Hp) (n:Nat):Prop :=
 match x with
 | .str y=>y.length<=sizeLine/\n=y.length
 | .byt y=>y.size<=sizeLine/\n=y.size
 | .ref p=>(∃ xs,SqL K H p xs/\n=xs.length)\/∃ xs,SqT K H p xs/\n=xs.length
 | _=>False
theorem a1k:a8k X (.builtin "len") (λ xs H Q=>∃ x n,xs=[x]/\e8c X.K x H n/\Q (.int n) H):=by
 intro pins s σ H xs us Q I r h;obtain⟨x,n,rfl,e,q⟩:=h;obtain⟨u,rfl,rx⟩:=a8l r;have hs:=sizeLine_eq;cases x with
 | str y =>
  obtain⟨t,rfl⟩:=rx;obtain⟨hy,e'⟩:y.length<=sizeLine/\n=y.length:=e;subst e';exact len_str (by lia) (nx0 (.int _) H (I.tok _) ⟨_,rfl⟩ q)
 | byt y =>
  obtain⟨t,rfl⟩:=rx;obtain⟨hy,e'⟩:y.size<=sizeLine/\n=y.size:=e;subst e';exact W.len_bytes (by lia) (nx0 (.int _) H (I.tok _) ⟨_,rfl⟩ q)
 | ref p =>
  cases rx;have e':=e;rcases e' with ⟨xs,hx,e'⟩ | ⟨xs,hx,e'⟩
  ·subst e';obtain⟨its,r',pl,hz⟩:=I.list hx;have hlen:=r'.length;exact Calls.call_len_list pl.isList (by simp only [z17];lia) (nx0 (.int xs.length) H (I.tok _) ⟨_,by simp only [z17];rw[hlen]⟩ q)
  ·subst e';obtain⟨its,r',pl,hz⟩:=I.tuple hx;have hlen:=r'.length;exact len_tuple pl (by simp only [z17];lia) (nx0 (.int xs.length) H (I.tok _) ⟨_,by simp only [z17];rw[hlen]⟩ q)
 | _=>exact(e).elim
end
end L2
namespace L2
open PySem PySem.Spec PyProof.Rows
structure e6t (h:Heap) (x dx C:Addr) (mA:Str->Option Value):Prop where
 obj:h.get? x=some (W.instObj C dx)
 ns:h.Ns1 dx mA
 ne:dx≠x
theorem d2a {h:Heap} (n:h.Ns1 dx mA):∃ od,h.get? dx=some od/\∀ name,W.lookIn name od=some (mA name):=by
 obtain⟨o,es,ep,ho,hd,hk,_,hm⟩:=n;refine⟨o,ho,λ name=>?_⟩;have e:=hm name;unfold nsFind findBy at e;rw[<-Array.find?_toList] at e;unfold W.lookIn;rw[hd];dsimp only;split
 ·rename_i y q;rw[q] at e;exact z0e some e
 ·rename_i q;rw[q] at e;have a:es.toList.any (·.refKey)=false:=by
   rw[List.any_eq_false];intro y hy;obtain⟨z,t,hkey⟩:=hk y (Array.mem_toList_iff.mp hy);simp[DictEntry.refKey,hkey]
  have a':¬ es.toList.any (·.refKey)=true:=by rw[a];exact z1f
  rw[z01 a'];exact z0e some e
theorem e6t.look (I:e6t h x dx C mA):∃ od,W.InstAt h x (W.instObj C dx) C (some od)/\∀ name,W.lookIn name od=some (mA name) :=
 let ⟨od,ho,hl⟩:=d2a I.ns
 ⟨od,⟨I.obj,rfl,rfl,ho⟩,hl⟩
theorem c8i.some_of (r:c8i (some v) o):∃ u,o=some u/\a3c v u:=by
 cases o with
 | none=>exact(r).elim
 | some u=>exact⟨u,rfl,r⟩
section
variable {P:Program} {w:World} {H H':Hp} {h h':Heap} {a C dx:Addr} {fs fs':List (Str×V)}
theorem d3c (hok:HOk P w H h) (e:H a=some (.ins C dx fs)):∃ mA,e6t h a dx C mA/\(∀ f,c8i (fs.lookup f) (mA f))/\PySem.Within mA (fs.map (·.1))/\fs.length<=1000/\H dx=some (.own a):=by
 obtain⟨d,z,ne,ob,mA,n,r,q⟩:=(hok a _ e);exact⟨mA,⟨ob,n,ne⟩,r,q,z,d⟩
end
structure Cls (K:W.Frag) (C:Addr):Prop where
 pg:W.plainGet K C Str.empty=true
 hd:W.hasDictIn K C=true
 po:W.plainOver K C=true
 sa:W.findIn K (.ref C) "__setattr__"=some (some (.builtin "object.__setattr__"))
theorem Cls.get {K:W.Frag} (c:Cls K C) (f:Str):W.plainGet K C f=true:=c.pg
structure e8d (K:W.Frag) (C:Addr) (m:Str) (f:Addr):Prop where
 at_:W.findIn K (.ref C) m=some (some (.ref f))
 fn:W.isFn K (.ref f)=true
 kp:W.keepIn K (.ref f)=true
section
variable {X:Cx} {pins:List (Addr×Obj)} {σ:St} {H:Hp} {s:Shared} {A:Around} {E:Value->Shared->Prop} {Q:Value->Shared->Prop} {c:Value} {b:Bool}
inductive c7b (K:W.Frag) (H:Hp):V->Value->Prop where
 | non:c7b K H .non (.type "NoneType")
 | bl (x:Bool):c7b K H (.bl x) (.type "bool")
 | int (i:Int):c7b K H (.int i) (.type "int")
 | str (x:Str):c7b K H (.str x) (.type "str")
 | flt (x:UInt64):c7b K H (.flt x) (.type "float")
 | lst {a:Addr} {xs:List V} (e:H a=some (.lst xs)):c7b K H (.ref a) (.type "list")
 | frz {a:Addr} {o:Obj} {xs:List V} (e:H a=some (.frz o (.lst xs))):c7b K H (.ref a) (.type "list")
 | tup {a:Addr} {xs:List V} (e:H a=some (.tup xs)):c7b K H (.ref a) (.type "tuple")
 | dK {a:Addr} {kvs:List (Key×V)} (e:H a=some (.dK kvs)):c7b K H (.ref a) (.type "dict")
 | dT {a:Addr} {kvs:List (List Key×V)} (e:H a=some (.dT kvs)):c7b K H (.ref a) (.type "dict")
 | ins {a C dx:Addr} {fs:List (Str×V)} (e:H a=some (.ins C dx fs)) (cl:Cls K C) (ha:W.findIn K (.ref C) "__class__"=some (some (.builtin "object.__class__")))
   (hn:W.specialIn K (.builtin "object.__class__") "__get__"=some (some (.builtin "getset_descriptor.__get__"))) (htk:W.takesIn K (.builtin "object.__class__")=some true)
   (hm:W.mroIn K C (.type "object")=some true):c7b K H (.ref a) (.ref C)
theorem d0s (I:Inv X pins σ H s) (rx:a3c x u) (ty:c7b X.K H x t) (e:W.kitOne X.K t c=some b) (h:∀ tk,Q (.bool b) {s with toks:=tk}) :
  wpAny (model X.prog X.w) A (call (.builtin "isinstance") [u,c]) Q E s:=by
 cases ty with
 | non=>cases (rx);exact z1z W.kitx_none I.kIn True.intro e (λ z=>nomatch z) h
 | bl y=>cases (rx);exact z1z W.kitx_bool I.kIn True.intro e (λ z=>nomatch z) h
 | int i=>obtain⟨t,q⟩:=(rx);cases q;exact z1z W.kitx_int I.kIn True.intro e (λ z=>nomatch z) h
 | str y=>obtain⟨t,q⟩:=(rx);cases q;exact z1z W.kitx_str I.kIn True.intro e (λ z=>nomatch z) h
 | flt y=>obtain⟨t,q⟩:=(rx);cases q;exact z1z W.kitx_float I.kIn True.intro e (λ z=>nomatch z) h
 | @lst a xs ea =>
  cases (show u=Value.ref a from rx);obtain⟨_,_,n,_,h1⟩:=(show a3m X.prog X.w H s.heap a (.lst xs) from I.hok a _ ea);exact z1z z4t I.kIn ⟨_,h1,rfl⟩ e (λ z=>nomatch z) h
 | @frz a ob xs ea =>
  cases (rx);obtain⟨_,_,_,n,_,h1⟩:=(show a3m X.prog X.w H s.heap a (.frz ob (.lst xs)) from I.hok a _ ea);exact z1z z4t I.kIn ⟨_,h1,rfl⟩ e (λ z=>nomatch z) h
 | @tup a xs ea =>
  cases (show u=Value.ref a from rx);obtain⟨_,_,_,p⟩:=(show a3m X.prog X.w H s.heap a (.tup xs) from I.hok a _ ea);obtain⟨o,h1,h2,_⟩:=p;exact z1z W.kitx_tuple I.kIn ⟨o,h1,h2⟩ e (λ z=>nomatch z) h
 | @dK a kvs ea =>
  cases (show u=Value.ref a from rx);obtain⟨_,_,vs,_,p⟩:=(show a3m X.prog X.w H s.heap a (.dK kvs) from I.hok a _ ea);obtain⟨o,es,ep,h1,h2,_⟩:=p;exact z1z z4x I.kIn ⟨o,h1,h2.1⟩ e (λ z=>nomatch z) h
 | @dT a kvs ea =>
  cases (show u=Value.ref a from rx);obtain⟨_,_,xs,_,o,es,ep,h1,h2,_⟩:=(show a3m X.prog X.w H s.heap a (.dT kvs) from I.hok a _ ea);exact z1z z4x I.kIn ⟨o,h1,h2.1⟩ e (λ z=>nomatch z) h
 | @ins a C dx fs ea cl ha hn htk hm =>
  cases (rx);obtain⟨mA,O,_⟩:=d3c I.hok ea;obtain⟨od,J,_⟩:=O.look;exact z1z (W.kitx_own (cl.get _) cl.hd ha hn htk hm) I.kIn J e (λ z=>nomatch z) h
end
end L2
namespace L2
open PySem PySem.Spec PyProof.Rows
structure Room (k:Nat) (A:Around):Prop where
 hd:A.handled=none
 dp:A.depth+3*k+5 < recursionLimit
 un:A.units+16*k+200 < cLine
theorem Room.mono (r:Room k A) (h:j<=k):Room j A:=⟨r.hd,by have:=r.dp;lia,by have:=r.un;lia⟩
theorem Room.deeper (r:Room (k+1) A) (env:Env):Room k (A.deeper env) :=
 ⟨r.hd,by have:=r.dp;show A.depth+1+3*k+5 < _;lia,by have:=r.un;show A.units+3+16*k+200 < _;lia⟩
theorem Room.in1 {k:Nat} {A:Around} (r:Room (k+1) A):Room k A.in1 :=
 ⟨r.hd,by have:=r.dp;show A.depth+3*k+5 < _;lia,by have:=r.un;show A.units+1+16*k+200 < _;lia⟩
theorem c8j {A:Around} {C:Addr} {us:List Value} {kw:List (Str×Value)}:(A.under (.builtin "type.__call__" ⟨.ref C::us,kw⟩)).depth=A.depth+1:=by
 first | rfl | simp[Around.under,Code.weight,Code.isCreation,Code.isGuard,Code.isCaller,Code.frames,Code.isFrame,guardIds]
theorem c7n {A:Around} {C:Addr} {us:List Value} {kw:List (Str×Value)}:(A.under (.builtin "type.__call__" ⟨.ref C::us,kw⟩)).units=A.units+1:=by
 first | rfl | simp[Around.under,Code.cUnits,Code.frames,Code.isFrame]
theorem Room.make {k:Nat} {A:Around} (r:Room (k+1) A) (C:Addr) (us:List Value) (kw:List (Str×Value)):Room k (A.under (.builtin "type.__call__" ⟨.ref C::us,kw⟩)) :=
 ⟨r.hd,by have:=r.dp;rw[c8j];lia,by have:=r.un;rw[c7n];lia⟩
theorem Room.depth (r:Room k A):A.depth < recursionLimit:=by have:=r.dp;lia
theorem Room.units (r:Room k A):A.units+64 < cLine:=by have:=r.un;lia
def c9k:TA:=λ _ H Q=>Q [] H
def a6u (ta:TE) (tr:TA):TA:=λ σ H Q=>ta σ H λ x H1=>tr σ H1 λ xs H2=>Q (x::xs) H2
section
variable {X:Cx} {e:Expr} {es:List Expr} {te:TE} {t:TA} {pos:Pos}
theorem a0b:PA X [] c9k:=⟨λ _ _ _ _ H Q I h=>z3u (nx0 ([]) H I (.nil) h)⟩
theorem a0a (ha:PE X e te) (hr:PA X es t) (hs:starEach (e::es) X.env=(false,eval e X.env)::starEach es X.env:=by rfl):PA X (e::es) (a6u te t):=by
 constructor;intro pos pins s σ H Q I h;rw[hs];show wpAny _ _ (spliced ((false,eval e X.env)::backTo pos (starEach es X.env))) _ _ s;refine z3r (thn (ha pins s σ H _ I h) λ u s1 ⟨x,H1,I1,r1,q1⟩=>?_);exact thn (hr pos pins s1 σ H1 _ I1 q1) λ us s2 ⟨xs,H2,I2,r2,q2⟩=> nx0 (x::xs) H2 I2 (.cons r1 r2) q2
def e6g (t:TA):TE:=λ σ H Q=>t σ H λ xs H1=>xs.length<=sizeLine/\∀ p,H1 p=none->Q (.ref p) (upd H1 p (.tup xs))
def e8t (t:TA):TE:=λ σ H Q=>t σ H λ xs H1=>xs.length<=sizeLine/\∀ p,H1 p=none->Q (.ref p) (upd H1 p (.lst xs))
theorem a3p {x1} (h:PA X es t):PE X (.Tuple es x1 pos) (e6g t):=by
 constructor;intro pins s σ H Q I hq;refine wpAny_Tuple_spliced (thn (h pos pins s σ H _ I hq) λ us s1 ⟨xs,H1,I1,r,z,q⟩=>⟨by rw[<-r.length];exact z,?_⟩);have hf:=I1.hok.fresh (z04 _);refine nx0 (.ref s1.heap.objs.size) (upd H1 s1.heap.objs.size (.tup xs)) (I1.laid (λ b u e=>z0k _ e) (z04 _) ?_) rfl (q _ hf);exact⟨z,us,r,nx26 _ (z1a _ rfl) rfl _ rfl⟩
theorem a1l (h:PA X es t):PE X (.List es pos) (e8t t):=by
 constructor;intro pins s σ H Q I hq;refine wpAny_List_spliced (thn (h pos pins s σ H _ I hq) λ us s1 ⟨xs,H1,I1,r,z,q⟩=>⟨by rw[<-r.length];exact z,?_⟩);have hf:=I1.hok.fresh (z04 _);refine nx0 (.ref s1.heap.objs.size) (upd H1 s1.heap.objs.size (.lst xs)) (I1.laid (λ b u e=>z0k _ e) (z04 _) ?_) rfl (q _ hf);exact ⟨z,nx12 us 0 r (z1a _ rfl)⟩
end
abbrev Sp:=List V->Hp->VK->XK->Prop
abbrev CXT:=List Env->Hp->Shared->XK->Value->Shared->Prop
structure d8q (P:Program) (w:World) (K:W.Frag) (mg:Str->Option Value) (base:Heap) (A:Around) (outer:List Env) (s:Shared) (H:Hp):Prop where
 frames:A.frames=some outer
 mod:Mod K mg base
 bs:∀ b o,base.get? b=some o->s.heap.get? b=some o/\H b=none
 bsz:base.objs.size<=s.heap.objs.size
 funs:s.heap.FunFrames base outer
 frf:∀ b∈frs outer,H b=none
 hok:HOk P w H s.heap
 bare:AllBare s.gens
def CE (outer:List Env) (P:Program) (w:World) (H:Hp) (s:Shared) (Q:VK) (u:Value) (s':Shared):Prop :=
 ∃ v H',s'.os=s.os/\AllBare s'.gens/\Un (frs outer) [] H H' s.heap s'.heap/\HOk P w H' s'.heap/\a3c v u/\Q v H'
def CR (CX:CXT) (outer:List Env) (P:Program) (w:World) (H:Hp) (s:Shared) (Q:VK) (E:XK) (r:Result) (s':Shared):Prop :=
 match r with
 | .ok (.ret u)=>CE outer P w H s Q u s'
 | .ok _=>False
 | .error e=>CX outer H s E e s'
structure b0w (P:Program) (w:World) (K:W.Frag) (mg:Str->Option Value) (base:Heap) (CX:CXT) (k:Nat) (f:Addr) (fd:FuncData) (ps:List Str) (sp:Sp):Prop where
 len:∀ vs H Q E,sp vs H Q E->vs.length=ps.length
 run:∀ (A:Around) (outer:List Env) (s:Shared) (H:Hp) (args:Args) (us:List Value) (vs:List V) (Q:VK) (E:XK),Room k A->d8q P w K mg base A outer s H->BindsTo s fd args (ps.zip us)->a3b vs us->sp vs H Q E ->
  codeAny (model P w) A (.call (.ref f) args) (CR CX outer P w H s Q E) s
theorem b0w.mono {K:W.Frag} (F:b0w P w K mg base CX j f fd ps sp) (h:j<=k) :
  b0w P w K mg base CX k f fd ps sp:=⟨F.len,λ A outer s H args us vs Q E hr=>F.run A outer s H args us vs Q E (hr.mono h)⟩
theorem d8q.make {P:Program} {w:World} {K:W.Frag} {mg:Str->Option Value} {base:Heap} {A:Around} {outer:List Env} {s:Shared} {H:Hp} (e:d8q P w K mg base A outer s H) (C:Addr) (us:List Value) (kw:List (Str×Value)) :
  d8q P w K mg base (A.under (.builtin "type.__call__" ⟨.ref C::us,kw⟩)) outer s H:=⟨by first | exact e.frames | (simpa [Around.under,Code.envs,Code.isFrame,pushEnvs] using e.frames),e.mod,e.bs,e.bsz,e.funs,e.frf,e.hok,e.bare⟩
section
variable {X:Cx} {pins:List (Addr×Obj)} {σ:St} {H:Hp} {s s':Shared}
theorem Inv.env0 (I:Inv X pins σ H s):d8q X.prog X.w X.K X.mg X.base X.A X.stack s H :=
 ⟨I.ok.frames,I.ok.mod,I.bs,z0s I.ok.bsz I.sz,I.stack,I.stkFree,I.hok,I.bare⟩
theorem Inv.after (I:Inv X pins σ H s) (h:CE X.stack X.prog X.w H s Q u s'):EP X pins σ Q u s':=by
 obtain⟨v,H',os,bare,un,hok,r,q⟩:=h;obtain⟨hh,g,d,t,os'⟩:=s';obtain rfl:os'=s.os:=os;exact nx0 v H' (I.call un hok bare (λ b z=>absurd z (by simp))) r q
end
def b8u (sp:Sp) (dvs:List V) (E:XK) (t:TA):TE:=λ σ H Q=>t σ H λ vs H1=>sp (vs++dvs) H1 Q E
def b1d (K:W.Frag) (fd:FuncData) (ps:List Str) (ds:List Value):Prop :=
 ∀ (s:Shared) (us:List Value),K.In s.heap->(us++ds).length=ps.length->BindsTo s fd ⟨us,[]⟩ (ps.zip (us++ds))
theorem b1d.all {K:W.Frag} (h:∀ us:List Value,us.length=ps.length->bindArgs fd ⟨us,[]⟩=pure (ps.zip us)):b1d K fd ps []:=λ s us _ hl=>by
 rw[z1e] at hl ⊢;exact .of_eq (h us hl)
def c1c (CX:CXT) (X:Cx) (E:XK):Prop:=∀ (pins:List (Addr×Obj)) (σ:St) (H:Hp) (s:Shared) (e:Value) (s':Shared),Inv X pins σ H s->CX X.stack H s E e s'->X.xe e s'
section
variable {X:Cx} {CX:CXT} {k:Nat} {f C:Addr} {fd:FuncData} {ps:List Str} {sp:Sp} {dvs:List V} {ds:List Value} {E:XK} {x m:Str} {p pos apos:Pos} {e o:Expr} {es:List Expr} {ta:TE} {t:TA}
theorem e3g {σ:St} (F:b0w X.prog X.w X.K X.mg X.base CX k f fd ps sp) (hr:Room k X.A) (hb:b1d X.K fd ps ds) (hd:a3b dvs ds) (hx:c1c CX X E)
  (I:Inv X pins σ H s) (r:a3b vs us) (h:sp (vs++dvs) H Q E):wpAny (model X.prog X.w) X.A (call (.ref f) us) (EP X pins σ Q) X.xe s:=by
 have r2:=r.append hd;have hl:(us++ds).length=ps.length:=by rw[<-r2.length];exact F.len _ _ _ _ h
 refine wpAny_call (z2m (F.run X.A X.stack s H ⟨us,[]⟩ (us++ds) (vs++dvs) Q E hr I.env0 (hb s us I.kIn hl) r2 h) λ r s' hq=>?_);cases r with
 | error e=>exact hx pins σ H s e s' I hq
 | ok fl =>
  cases fl with
  | ret u=>exact I.after hq
  | next=>exact False.elim hq
  | brk=>exact False.elim hq
  | cont=>exact False.elim hq
theorem a5s (F:b0w X.prog X.w X.K X.mg X.base CX k f fd ps sp) (hr:Room k X.A) (hg:Gl X x) (hm:X.mg x=some (.ref f)) (hk:W.keepIn X.K (.ref f)=true) (hb:b1d X.K fd ps ds) (hd:a3b dvs ds) (hx:c1c CX X E)
  (ha:PA X (e::es) t) (hdb:(x == ("__debug__":Str))=false:=by decide) (he:starEach (e::es) X.env=(false,eval e X.env)::starEach es X.env:=by rfl) (hpl:(backTo pos (starEach es X.env)).any (·.1)=false:=by rfl) :
  PE X (.Call (.Name x p) (e::es) [] pos) (b8u sp dvs E t):=by
 constructor;intro pins s σ H Q I h;refine z2o (a9g I hg hm ?_ hdb);refine z52 I.ok.mod.kin hk (thn (ha pos pins s σ H _ I h) λ us s1 ⟨vs,H1,I1,r,q⟩=>⟨I1.kIn,?_⟩) he hpl;exact e3g F hr hb hd hx I1 r q
end
structure a0s (N P:List Str) (sc:Scope):Prop where
 kind:sc.kind=.function
 co:sc.isCoroutine=false
 gen:sc.isGenerator=false
 nd:N.Nodup
 pre:N.take P.length=P
 par:∀ x∈P,sc.names.lookup x=some .local\/sc.names.lookup x=some .cell
 nofree:∀ y∈sc.names,y.2≠.free
theorem c0h {kindOf:Str->Option NameKind}:∀ {binds:List (Str×Value)} {m:Str->Option Value},(∀ v,(x,v) ∉ binds)->bindL kindOf binds m x=m x
 | [],_,_=>rfl
 | (n,v)::r,m,h=>by
  unfold bindL;rw[c0h λ w hw=>h w (z0p _ hw)];split
  ·have:x≠n:=by rintro rfl;exact h v z0g
   simp[this]
  ·rfl
theorem c0v {kindOf:Str->Option NameKind}:∀ {binds:List (Str×Value)} {m:Str->Option Value},(∀ v,(x,v) ∉ binds)->bindC kindOf binds m x=m x
 | [],_,_=>rfl
 | (n,v)::r,m,h=>by
  unfold bindC;rw[c0v λ w hw=>h w (z0p _ hw)];split
  ·rfl
  ·have:x≠n:=by rintro rfl;exact h v z0g
   simp[this]
theorem c1d {kindOf:Str->Option NameKind}:∀ {P:List Str} {vs:List Value} {i:Nat} {m:Str->Option Value},P.Nodup->P[i]?=some x->vs[i]?=some v->kindOf x=some .local ->
  bindL kindOf (P.zip vs) m x=some v
 | [],_,_,_,_,h,_,_=>by simp at h
 | _::_,[],_,_,_,_,h,_=>by simp at h
 | p::P,w::vs,0,m,nd,h1,h2,hk=>by
  simp at h1 h2;subst h1;subst h2;show bindL kindOf ((p,w)::P.zip vs) m p=_;unfold bindL;rw[c0h λ v hv=>(z15.mp nd).1 (List.of_mem_zip hv).1,z02 hk];simp
 | p::P,w::vs,i+1,m,nd,h1,h2,hk=>by
  unfold bindL;exact c1d (z15.mp nd).2 (by simpa using h1) (by simpa using h2) hk
theorem c0q {kindOf:Str->Option NameKind}:∀ {P:List Str} {vs:List Value} {i:Nat} {m:Str->Option Value},P.Nodup->P[i]?=some x->vs[i]?=some v->kindOf x≠some .local ->
  bindC kindOf (P.zip vs) m x=some v
 | [],_,_,_,_,h,_,_=>by simp at h
 | _::_,[],_,_,_,_,h,_=>by simp at h
 | p::P,w::vs,0,m,nd,h1,h2,hk=>by
  simp at h1 h2;subst h1;subst h2;show bindC kindOf ((p,w)::P.zip vs) m p=_;unfold bindC;rw[c0v λ v hv=>(z15.mp nd).1 (List.of_mem_zip hv).1,z01 hk];simp
 | p::P,w::vs,i+1,m,nd,h1,h2,hk=>by
  unfold bindC;exact c0q (z15.mp nd).2 (by simpa using h1) (by simpa using h2) hk
def start (N:List Str) (vs:List V):St:=vs.map some++List.replicate (N.length - vs.length) none
def b3s (CX:CXT) (P:Program) (w:World) (K:W.Frag) (mg:Str->Option Value) (base:Heap) (N:List Str) (qual:Str) (scope:Scope) (f:Addr) (cd:Value) (A:Around) (outer:List Env) (s:Shared) (H:Hp) (E:XK):Cx where
 prog:=P
 w:=w
 K:=K
 mg:=mg
 base:=base
 A:=A.deeper (envOfC qual scope s.heap.objs.size f cd)
 N:=N
 s₀:=s
 H₀:=H
 env:=envOfC qual scope s.heap.objs.size f cd
 outer:=outer
 stack:=envOfC qual scope s.heap.objs.size f cd::outer
 ex:=[]
 calm:=true
 fn:=λ _=>true
 pn:=[]
 xe:=λ e s'=>wpAny (model P w) (A.deeper (envOfC qual scope s.heap.objs.size f cd)) (leaving (envOfC qual scope s.heap.objs.size f cd) e) (λ _ s''=>CX outer H s E e s'') (λ e' s''=>CX outer H s E e' s'') s'
theorem c6f {sc:Scope} (h:sc.names.lookup x=some .cell):∃ c,(cellsFrom n sc.names []).lookup x=some c:=by
 have q:=W.cellsFrom_some sc.names n [] (.inl h);exact z5b.mp q
theorem d0x {CX:CXT} {P:Program} {w:World} {K:W.Frag} {mg:Str->Option Value} {base:Heap} {N ps:List Str} {qual:Str} {scope:Scope} {f:Addr} {cd:Value} {A:Around} {outer:List Env} {s s1:Shared} {H:Hp} {E:XK} {us:List Value} {vs:List V}
  (S:a0s N ps scope) (hd:A.handled=none) (e0:d8q P w K mg base A outer s H) (hl:vs.length=ps.length) (r:a3b vs us)
  (x:InCallC s s.heap.objs.size (bindL (envOfC qual scope s.heap.objs.size f cd).kindOf (ps.zip us) λ _=>none) (cellsFrom (s.heap.objs.size+1) scope.names []) (bindC (envOfC qual scope s.heap.objs.size f cd).kindOf (ps.zip us) λ _=>none) s1) :
  Inv (b3s CX P w K mg base N qual scope f cd A outer s H E) [] (start N vs) H s1:=by
 have hpl:ps.length<=N.length:=by have:=z0e List.length S.pre;rw[z14] at this;lia
 obtain⟨h1,tk,rfl,hk⟩:=x.done;have noA:∀ b:Addr,b ∉ (b3s CX P w K mg base N qual scope f cd A outer s H E).ex:=λ b z=>absurd (show b∈([]:List Addr) from z) (by simp)
 refine⟨⟨e0.mod,S.kind,rfl,rfl,z04 _,λ y z c h1 h2=>?_,λ y hy=>?_,λ y c _ h=>?_,λ _=>hd,Around.frames_deeper e0.frames,.inr ⟨rfl,rfl⟩,λ b z=>absurd z (noA b),e0.bs,e0.bsz,λ b _ _=>noA b,λ b z=>absurd z (noA b),e0.funs,e0.frf⟩,
  rfl,e0.bare,Un.kept hk,⟨_,x.toInCall.ns,λ i y v h1 h2 h3=>?_⟩,λ y c h=>⟨_,x.cell y c h⟩,e0.hok.fresh (z04 _),λ y c h=>?_,λ p hp=>absurd (show p∈([]:List (Addr×Obj)) from hp) (by simp),e0.hok.kept hk,?_⟩
 ·exact name_of_addr x.apart (z30 h1) (z30 h2)
 ·rcases hy with hy | hy
  ·exact c6f hy
  ·exact absurd rfl (S.nofree _ (z30 hy))
 ·exact z3z (x.above y c (z30 h))
 ·have hi:i < vs.length:=by
   unfold start at h2;by_cases hi:i < vs.length
   ·exact hi
   ·rw[z2e (by simpa using hi)] at h2;rw[List.getElem?_replicate] at h2;split at h2<;>cases h2
  have ha:vs[i]?=some v:=by
   unfold start at h2;rw[z39 (by simpa using hi),z0f] at h2;cases e:vs[i]? with
   | none=>rw[e] at h2;cases h2
   | some a=>rw[e] at h2;cases h2;rfl
  obtain⟨u,hu,rv⟩:=r.get ha;have hp:ps[i]?=some y:=by
   rw[<-S.pre,List.getElem?_take_of_lt (by lia)];exact h1
  have ndP:ps.Nodup:=by rw[<-S.pre];exact S.nd.sublist (List.take_sublist _ _)
  refine⟨u,rv,?_⟩;rcases S.par y (z0h hp) with k | k
  ·exact .inl ⟨k,c1d ndP hp hu k⟩
  ·obtain⟨c,e⟩:=c6f k;refine .inr ⟨.inl k,c,e,?_⟩;have q:=x.cell y c e;rw[c0q ndP hp hu (by show scope.names.lookup y≠_;rw[k];decide)] at q;exact q
 ·exact e0.hok.fresh (z3z (x.above y c (z30 h)))
 ·unfold start;show _=N.length;rw[z0r,z03,z3e];lia
theorem e4i {CX:CXT} {P:Program} {w:World} {K:W.Frag} {mg:Str->Option Value} {base:Heap} {k:Nat} {f:Addr} {name qual:Str} {params:Arguments} {body:List Stmt} {scope:Scope} {dV kV doc pm cdv ct oc:Value} {an od:Option Addr}
  {osl:Array (Option Value)} {N ps:List Str} {sp:Sp} (lk:K.lookup f=some ⟨oc,od,.func (W.fnOf name qual params body scope dV kV doc pm an cdv ct),osl⟩) (hcd:W.codeIn K cdv qual=true) (S:a0s N ps scope)
  (len:∀ vs H Q E,sp vs H Q E->vs.length=ps.length)
  (hbody:∀ (A:Around) (outer:List Env) (s:Shared) (H:Hp) (vs:List V) (Q:VK) (E:XK),Room k (A.deeper (envOfC qual scope s.heap.objs.size f cdv))->sp vs H Q E ->
   ∃ t,PSs (b3s CX P w K mg base N qual scope f cdv A outer s H E) body t/\t {nx:=λ _ H'=>Q .non H',rt:=Q} (start N vs) H) :
  b0w P w K mg base CX (k+1) f (W.fnOf name qual params body scope dV kV doc pm an cdv ct) ps sp:=by
 refine⟨len,λ A outer s H args us vs Q E hr e0 hb r hsp=>?_⟩;have hl:=len _ _ _ _ hsp;have KX:=e0.mod.kin.keeps λ b o e=>(e0.bs b o e).1
 have lim:=e0.mod.nolimit.keeps λ b o e=>(e0.bs b o e).1
 have hkind:∀ y∈ps.zip us,scope.names.lookup y.1=some .local\/(scope.names.lookup y.1=some .cell/\((cellsFrom (s.heap.objs.size+1) scope.names []).lookup y.1).isSome=true):=λ ⟨n,v⟩ hy=>by
  rcases S.par n (List.of_mem_zip hy).1 with q | q
  ·exact .inl q
  ·exact .inr ⟨q,W.cellsFrom_some _ _ _ (.inl q)⟩
 refine codeAny_call_function hr.depth (KX _ _ lk) rfl S.co S.gen rfl (W.codeRec_of KX hcd) (hb _ _ _ _ ?_);refine wpAny_newFunctionEnv_cells S.kind hkind λ env he s1 x=>?_
 subst he;refine⟨lim.keeps x.toInCall.keep,codeAny_func ?_⟩;obtain⟨t,ht,hq⟩:=hbody A outer s H vs Q E (hr.deeper _) hsp;have I:Inv (b3s CX P w K mg base N qual scope f cdv A outer s H E) [] (start N vs) H s1:=d0x S hr.hd e0 hl r x;refine z0j (ht [] s1 (start N vs) H _ I hq) (λ fl s' hs=>?_) λ e s' hs=>hs
 have fin:∀ {σ':St} {H':Hp} {v:V} {u:Value},Inv (b3s CX P w K mg base N qual scope f cdv A outer s H E) [] σ' H' s'->a3c v u->Q v H'->CE outer P w H s Q u s' :=
  λ {σ' H' v u} J rv q=> nx25 v H' J.os J.bare J.base J.hok ⟨rv,q⟩
 cases fl with
 | ret u =>
  obtain⟨v,σ',H',J,rv,q⟩:=hs;exact fin J rv q
 | next =>
  obtain⟨σ',H',J,q⟩:=hs;exact fin (v:=V.non) J rfl q
 | brk =>
  obtain⟨_,_,_,q⟩:=hs;exact False.elim q
 | cont =>
  obtain⟨_,_,_,q⟩:=hs;exact False.elim q
end L2
namespace L2
open PySem PySem.Spec PyProof.Rows
section
variable {X:Cx} {x:Str} {p pos:Pos} {e:Expr} {es:List Expr} {t:TA} {id T:String} {r:List V->Hp->VK->Prop}
def tCB (r:List V->Hp->VK->Prop) (t:TA):TE:=λ σ H Q=>t σ H λ vs H1=>r vs H1 Q
theorem a0q (hc:a8k X (.builtin id) r) (hg:Gl X x) (hm:X.mg x=none) (hv:bootBuiltins x=some (.builtin id)) (ha:PA X (e::es) t) (hn:x≠"__name__":=by decide) (hdb:(x == ("__debug__":Str))=false:=by decide)
  (he:starEach (e::es) X.env=(false,eval e X.env)::starEach es X.env:=by rfl) (hpl:(backTo pos (starEach es X.env)).any (·.1)=false:=by rfl):PE X (.Call (.Name x p) (e::es) [] pos) (tCB r t):=by
 constructor;intro pins s σ H Q I h;refine z2o (b1r I hg hm hv ?_ hn hdb);exact PyProof.Rows.callWith_builtin1 (thn (ha pos pins s σ H _ I h) λ us s1 ⟨vs,H1,I1,r1,q1⟩=>hc pins s1 σ H1 vs us Q I1 r1 q1) he hpl
theorem a2i (hc:a8k X (.type T) r) (hg:Gl X x) (hm:X.mg x=none) (hv:bootBuiltins x=some (.type T)) (ha:PA X (e::es) t) (hn:x≠"__name__":=by decide) (hdb:(x == ("__debug__":Str))=false:=by decide)
  (he:starEach (e::es) X.env=(false,eval e X.env)::starEach es X.env:=by rfl) (hpl:(backTo pos (starEach es X.env)).any (·.1)=false:=by rfl):PE X (.Call (.Name x p) (e::es) [] pos) (tCB r t):=by
 constructor;intro pins s σ H Q I h;refine z2o (b1r I hg hm hv ?_ hn hdb);exact z45 (thn (ha pos pins s σ H _ I h) λ us s1 ⟨vs,H1,I1,r1,q1⟩=>hc pins s1 σ H1 vs us Q I1 r1 q1) he hpl
end
end L2
namespace HT
open PySem PyProof.Rows
section
variable {prog:Program} {w:World} {A:Around} {E:Value->Shared->Prop} {s:Shared}
def sIx (n d:Nat):Option Int->Nat
 | none=>d
 | some v=>if v < 0 then (v+(n:Int)).toNat else min v.toNat n
theorem sIx_none (n d:Nat):sIx n d none=d:=rfl
theorem sIx_nat (n d k:Nat):sIx n d (some (k:Int))=min k n:=by
 show (if (k:Int) < 0 then ((k:Int)+(n:Int)).toNat else min (k:Int).toNat n)=min k n;rw[z01 (by lia),z43]
end
end HT
namespace L2
open PySem PySem.Spec PyProof.Rows
abbrev TO:=St->Hp->(Option Int->Hp->Prop)->Prop
structure PO (X:Cx) (e:Option Expr) (t:TO):Prop where
 run:∀ (pins:List (Addr×Obj)) (s:Shared) (σ:St) (H:Hp) (Q:Option Int->Hp->Prop),Inv X pins σ H s->t σ H Q ->
  wpAny (model X.prog X.w) X.A (evalPart e X.env) (λ u s'=>∃ o H',Inv X pins σ H' s'/\IsPart u o/\Q o H') X.xe s
instance {X:Cx} {e:Option Expr} {t:TO}:CoeFun (PO X e t) λ _=>∀ (pins:List (Addr×Obj)) (s:Shared) (σ:St) (H:Hp) (Q:Option Int->Hp->Prop),Inv X pins σ H s->t σ H Q ->
  wpAny (model X.prog X.w) X.A (evalPart e X.env) (λ u s'=>∃ o H',Inv X pins σ H' s'/\IsPart u o/\Q o H') X.xe s:=⟨PO.run⟩
def c4r:TO:=λ _ H Q=>Q none H
def d9x (t:TE):TO:=λ σ H Q=>t σ H λ x H1=>∃ i,x=.int i/\Q (some i) H1
section
variable {X:Cx} {e:Expr} {te:TE} {lo hi:Option Expr} {tl th:TO} {pos p2:Pos}
theorem a1u:PO X none c4r:=by
 constructor;intro pins s σ H Q I h;exact z05 (nx0 none H I (.none) h)
theorem a1h (h:PE X e te):PO X (some e) (d9x te):=by
 constructor;intro pins s σ H Q I hw;refine thn (h pins s σ H _ I hw) λ u s1 ⟨x,H1,I1,r1,q1⟩=>?_
 obtain⟨i,rfl,q⟩:=q1;obtain⟨t,rfl⟩:=r1;exact nx0 (some i) H1 I1 (.int i t) q
def SlR (X:Cx) (r:V->Option Int->Option Int->Hp->VK->Prop):Prop :=
 ∀ (pins:List (Addr×Obj)) (s:Shared) (σ:St) (H:Hp) (x:V) (v vl vu:Value) (lo hi:Option Int) (sl:Addr) (Q:VK),Inv X pins σ H s->a3c x v->s.heap.IsSliceOf sl vl vu .none->IsPart vl lo->IsPart vu hi->r x lo hi H Q ->
  ∃ T id,typeLookup (.type T) "__getitem__"=pure (some (.builtin id))/\s.TypeIs v T/\wpAny (model X.prog X.w) X.A (getItem v (.ref sl)) (EP X pins σ Q) X.xe s
def tSl (r:V->Option Int->Option Int->Hp->VK->Prop) (te:TE) (tl th:TO):TE:=λ σ H Q=>te σ H λ x H1=>tl σ H1 λ l H2=>th σ H2 λ u H3=>r x l u H3 Q
theorem a0y (hr:SlR X r) (he:PE X e te) (hl:PO X lo tl) (hu:PO X hi th):PE X (.Subscript e (.Slice lo hi none p2) pos) (tSl r te tl th):=by
 constructor;intro pins s σ H Q I h;refine Subscript_ (thn (he pins s σ H _ I h) λ v s1 ⟨x,H1,I1,r1,q1⟩=>?_);refine wpAny_Slice (thn (hl pins s1 σ H1 _ I1 q1) λ vl s2 ⟨l,H2,I2,pl,q2⟩=>thn (hu pins s2 σ H2 _ I2 q2) λ vu s3 ⟨u,H3,I3,pu,q3⟩=>?_);refine z05 ?_;have I4:Inv X pins σ H3 {s3 with heap:=s3.heap.push {cls:=.type "slice",data:=.fields #[vl,vu,.none]}}:=I3.kept λ b ob q=>z0k _ q
 obtain⟨T,id,hT,ht,hg⟩:=hr pins {s3 with heap:=s3.heap.push {cls:=.type "slice",data:=.fields #[vl,vu,.none]}} σ H3 x v vl vu l u s3.heap.objs.size Q I4 r1 (Heap.IsSliceOf.new ..) pl pu q3;exact tail_any ht hT hg (by with_unfolding_all rfl)
def d5p (xs:List V) (lo hi:Option Int):List V:=(xs.drop (HT.sIx xs.length 0 lo)).take (HT.sIx xs.length xs.length hi - HT.sIx xs.length 0 lo)
theorem c3r (xs:List V) (lo hi:Option Int):(d5p xs lo hi).length<=xs.length:=by
 unfold d5p;rw[z14,z29];lia
end
end L2
namespace L2
open PySem PySem.Spec PyProof.Rows
def ixN (n:Nat) (i:Int):Option Nat:=if 0<=i then (if i < n then some i.toNat else none) else if -(n:Int)<=i then some (i+n).toNat else none
def atI {α:Type} (xs:List α) (i:Int):Option α:=(ixN xs.length i).bind λ j=>xs[j]?
theorem d0q (h:ixN n i=some j):seqIndex? i n=some j/\j < n/\-(n:Int)<=i/\i < n:=by
 unfold ixN at h;by_cases h0:0<=i
 ·rw[z02 h0] at h;by_cases h1:i < n
  ·rw[z02 h1] at h;have e:=z1g h;exact⟨by rw[seqIndex_of h0 h1,e],by lia,by lia,h1⟩
  ·rw[z01 h1] at h;cases h
 ·rw[z01 h0] at h;by_cases h1:-(n:Int)<=i
  ·rw[z02 h1] at h;have e:=z1g h;exact⟨by rw[seqIndex_neg (by lia) h1,e],by lia,h1,by lia⟩
  ·rw[z01 h1] at h;cases h
theorem b8m (h:atI xs i=some v):∃ j,seqIndex? i xs.length=some j/\xs[j]?=some v/\j < xs.length/\-(xs.length:Int)<=i/\i < xs.length:=by
 unfold atI at h;cases e:ixN xs.length i with
 | none=>rw[e] at h;cases h
 | some j =>
  rw[e] at h;obtain⟨h1,h2,h3,h4⟩:=d0q e;exact⟨j,h1,h,h2,h3,h4⟩
theorem a0k {j:Nat} (h:xs[j]?=some v):atI xs (j:Int)=some v:=by
 have hj:=(z0i.mp h).1;have e:ixN xs.length (j:Int)=some j:=by
  unfold ixN;rw[z02 (by lia),z02 (by lia)];simp
 unfold atI;rw[e];exact h
def d1i (b:Expr):Prop:=∀ o i,subscripted b false o i=operate [o,i] (getItem o i)
def IxR (X:Cx) (r:R2):Prop :=
 ∀ (value slice:Expr) (pins:List (Addr×Obj)) (s:Shared) (σ:St) (H:Hp) (x y:V) (v u:Value) (Q:VK),Inv X pins σ H s->a3c x v->a3c y u->r x y H Q ->
  subscripted slice false v u=operate [v,u] (getItem v u)->wpAny (model X.prog X.w) X.A (subscriptTail value slice v u) (EP X pins σ Q) X.xe s
def MtR (X:Cx) (id:String) (r:V->List V->Hp->VK->Prop):Prop :=
 ∀ (pins:List (Addr×Obj)) (s:Shared) (σ:St) (H:Hp) (x:V) (xs:List V) (v:Value) (us:List Value) (Q:VK),Inv X pins σ H s->a3c x v->a3b xs us->r x xs H Q ->
  wpAny (model X.prog X.w) X.A (call (.builtin id) (v::us)) (EP X pins σ Q) X.xe s
section
variable {X:Cx} {a b:Expr} {ta tb:TE} {pos:Pos}
theorem e6z (hr:IxR X r) (ha:PE X a ta) (hb:PE X b tb) (hs:d1i b):PE X (.Subscript a b pos) (tOp r ta tb):=by
 constructor;intro pins s σ H Q I h;exact Subscript_ (e6f ha hb I h λ v u s2 x y H2 I2 rx ry q=>hr a b pins s2 σ H2 x y v u Q I2 rx ry q (hs _ _))
def e7p (K:W.Frag):R2:=λ x y H Q=>∃ p xs i v,x=.ref p/\y=.int i/\SqL K H p xs/\atI xs i=some v/\Q v H
def d4i (K:W.Frag):R2:=λ x y H Q=>∃ p xs i v,x=.ref p/\y=.int i/\SqT K H p xs/\atI xs i=some v/\Q v H
def e7q:R2:=λ x y H Q=>∃ z i c,x=.str z/\y=.int i/\z.length<=sizeLine/\atI z.cps.toList i=some c/\Q (.str ⟨#[c]⟩) H
theorem a1e:IxR X (e7p X.K):=by
 intro value slice pins s σ H x y v u Q I rx ry h hs;obtain⟨p,xs,i,z,rfl,rfl,hq,he,q⟩:=h;cases rx;obtain⟨t,rfl⟩:=ry;obtain⟨its,r,pl,hz⟩:=I.list hq;obtain⟨j,h1,h2,h3,h4,h5⟩:=b8m he;obtain⟨w,ew,rw'⟩:=r.get h2;have hl:=r.length;have hn:=c5r;have fin:EP X pins σ Q w s:= nx0 z H I rw' q;by_cases h0:0<=i
 ·have hj:i.toNat=j:=by
   rw[seqIndex_of h0 h5] at h1;exact z1g h1
  exact item_listR pl.isList h0 (by lia) (by rw[hj];simpa using ew) fin hs
 ·have hj:(i+(its.toArray.size:Int)).toNat=j:=by
   rw[seqIndex_neg (by lia) h4] at h1;rw[z17,<-hl];exact z1g h1
  exact subscriptTail_builtinR (x:=w) pl.isList.typeIs slot_list_getitem.lookup
   (wpAny_getItem_list_neg pl.isList (by lia) (by rw[z17]<;>lia) (by lia) (by rw[hj];simpa using ew) ⟨rfl,fin⟩) hs
theorem a1c:IxR X (d4i X.K):=by
 intro value slice pins s σ H x y v u Q I rx ry h hs;obtain⟨p,xs,i,z,rfl,rfl,hq,he,q⟩:=h;cases rx;obtain⟨t,rfl⟩:=ry;obtain⟨its,r,pl,hz⟩:=I.tuple hq;obtain⟨j,h1,h2,h3,h4,h5⟩:=b8m he;obtain⟨w,ew,rw'⟩:=r.get h2;have hl:=r.length;have hn:=c5r;have fin:EP X pins σ Q w s:= nx0 z H I rw' q;exact subscriptTail_builtinR pl.typeIs slot_tuple_getitem.lookup
  (getItem_tuple pl (by lia) (by lia) (by rw[z17,<-hl];exact h1) (by simpa using ew) ⟨rfl,fin⟩) hs
theorem c5n:IxR X e7q:=by
 intro value slice pins s σ H x y v u Q I rx ry h hs;obtain⟨z,i,c,rfl,rfl,hz,he,q⟩:=h;obtain⟨t,rfl⟩:=rx;obtain⟨t',rfl⟩:=ry;obtain⟨j,h1,h2,h3,h4,h5⟩:=b8m he;have hl:z.cps.toList.length=z.length:=by simp[Str.length]
 rw[hl] at h1 h4 h5;have hn:=c5r;exact tail_any (z26 s z t) slot_str_getitem.lookup (getItem_str (by
  have e1:decide (i < -(2 ^ 63:Int))=false:=z0v (by lia);have e2:decide (i ≥ 2 ^ 63)=false:=z0v (by lia);rw[e1,e2,Bool.or_false]) (by rw[h1];simpa using h2) (nx0 (.str ⟨#[c]⟩) H (I.tok _) ⟨_,rfl⟩ q)) hs
theorem c8r (its:List Value) (n j:Nat) (u:Value):Obj.mapSeq (·.setIfInBounds j u) {cls:=.type "list",data:=.seq its.toArray n}={cls:=.type "list",data:=.seq (its.set j u).toArray n}:=by
 simp[Obj.mapSeq]
theorem Inv.lst {pins:List (Addr×Obj)} {σ:St} {H:Hp} {s:Shared} {p:Addr} {xs:List V} (I:Inv X pins σ H s) (h:H p=some (.lst xs)) :
  ∃ (its:List Value) (n:Nat),a3b xs its/\s.heap.get? p=some {cls:=.type "list",data:=.seq its.toArray n}/\xs.length<=sizeLine:=by
 obtain⟨z,its,n,r,e⟩:=I.hok p _ h;exact nx0 its n r e z
theorem Inv.lstUpd {σ:St} {its its':List Value} (I:Inv X pins σ H s) (h:H p=some (.lst xs))
  (ho:s.heap.get? p=some {cls:=.type "list",data:=.seq its.toArray n}) (hf:f {cls:=.type "list",data:=.seq its.toArray n}={cls:=.type "list",data:=.seq its'.toArray n'}) (r:a3b ys its') (hz:ys.length<=sizeLine) (t:Nat) :
  Inv X pins σ (upd H p (.lst ys)) {s with heap:=s.heap.update p f,toks:=t}:=by
 have e:(s.heap.update p f).get? p=some {cls:=.type "list",data:=.seq its'.toArray n'}:=by
  rw[z2l f ho (by rw[hf]<;>rfl),hf]
 refine I.write (by rw[h];trivial) (.inl rfl) (λ b u hb q=>(z56 _ _ (z1b hb)).trans q) ⟨_,e⟩ ?_;exact ⟨hz,nx12 its' n' r e⟩
def e6m:V->V->V->Hp->(Hp->Prop)->Prop:=λ o i v H Q=>∃ p xs k j,o=.ref p/\i=.int k/\H p=some (.lst xs)/\ixN xs.length k=some j/\Q (upd H p (.lst (xs.set j v)))
theorem d4e:e7c X e6m:=by
 intro pins s σ H o i v ov iv u Q I ro ri rv h;obtain⟨p,xs,k,j,rfl,rfl,hp,hj,q⟩:=h;cases ro;obtain⟨t,rfl⟩:=ri;obtain⟨its,n,r,ho,hz⟩:=I.lst hp;obtain⟨h1,h2,h3,h4⟩:=d0q hj;have hl:=r.length;have hn:=c5r;have I' :=
  I.lstUpd hp ho (c8r its n j u) (r.set rv j) (by rw[z3q];exact hz) s.toks
 by_cases h0:0<=k
 ·have hk:k.toNat=j:=by
   rw[seqIndex_of h0 h4] at h1;exact z1g h1
  exact W.ki_setAt ho h0 (by lia) (by rw[z17,<-hl];exact h4) (by rw[hk];exact⟨_,I',q⟩)
 ·have hk:(k+(its.toArray.size:Int)).toNat=j:=by
   rw[seqIndex_neg (by lia) h3] at h1;rw[z17,<-hl];exact z1g h1
  exact W.ki_setBack ho (by lia) (by rw[z17,<-hl];exact h3) (by lia) (by rw[hk];exact⟨_,I',q⟩)
theorem c1v (lo hi:Option Int) (n:Nat):(sliceBounds lo hi none n).1=((HT.sIx n 0 lo:Nat):Int)/\(sliceBounds lo hi none n).2.1=((HT.sIx n n hi:Nat):Int)/\(sliceBounds lo hi none n).2.2=1:=by
 refine⟨?_,?_,rfl⟩
 ·cases lo with
  | none=>simp[sliceBounds,HT.sIx]
  | some i =>
   simp only [sliceBounds,HT.sIx,Option.getD_none,show (1:Int) > 0 by decide,if_true];by_cases h:i < 0
   ·simp only [h,if_true]<;>lia
   ·simp only [h,if_false]<;>lia
 ·cases hi with
  | none=>simp[sliceBounds,HT.sIx]
  | some i =>
   simp only [sliceBounds,HT.sIx,Option.getD_none,show (1:Int) > 0 by decide,if_true];by_cases h:i < 0
   ·simp only [h,if_true]<;>lia
   ·simp only [h,if_false]<;>lia
theorem b8k (its:List Value) (lo hi:Option Int):slicePick its.toArray lo hi none=((its.drop (HT.sIx its.length 0 lo)).take (HT.sIx its.length its.length hi - HT.sIx its.length 0 lo)).toArray:=by
 obtain⟨h1,h2,h3⟩:=c1v lo hi its.toArray.size;unfold slicePick;rw[h1,h2,h3];simp only [sliceRange_one,pick_run,z17]<;>rfl
def e8n (K:W.Frag):V->Option Int->Option Int->Hp->VK->Prop:=λ x lo hi H Q=>∃ a xs,x=.ref a/\SqL K H a xs/\∀ p,H p=none->Q (.ref p) (upd H p (.lst (d5p xs lo hi)))
theorem a5r:SlR X (e8n X.K):=by
 intro pins s σ H x v vl vu lo hi sl Q I rx hs pl pu h;obtain⟨a,xs,rfl,hx,q⟩:=h;cases rx;obtain⟨its,r,ht,hz⟩:=I.list hx;have hlen:=r.length;refine nx0 ("list") _ slot_list_getitem.lookup ht.isList.typeIs ?_;refine wpAny_getItem_list_slice ht.isList hs pl pu .none (by simp) ?_ (by rw[z17]<;>lia);rw[b8k,<-hlen];refine nx0 (.ref s.heap.objs.size) _ (I.laid (λ b ob q=>z0k _ q) (z04 _) ?_) rfl (q _ (I.hok.fresh (z04 _)));exact ⟨z0s (c3r xs lo hi) hz,nx12 _ 0 ((r.drop (HT.sIx xs.length 0 lo)).take (HT.sIx xs.length xs.length hi - HT.sIx xs.length 0 lo)) (z1a _ rfl)⟩
def b9l:V->Bool
 | .non=>true
 | .bl _=>true
 | .int _=>true
 | .str _=>true
 | _=>false
def eqV:V->V->Bool
 | .non,.non=>true
 | .bl a,.bl b=>a == b
 | .bl a,.int b=>(if a then 1 else 0) == b
 | .int a,.bl b=>a == (if b then 1 else 0)
 | .int a,.int b=>a == b
 | .str a,.str b=>a == b
 | _,_=>false
theorem e4b {A:Around} {s:Shared} {y x:V} {u v:Value} (ry:a3c y u) (rx:a3c x v) (fy:b9l y=true) (fx:b9l x=true):SeqAt.EqAt A s u v (eqV y x):=by
 cases y with
 | non =>
  cases ry;cases x with
  | non=>cases rx;exact SeqAt.EqAt.same _
  | bl b=>cases rx;exact SeqAt.EqAt.none_bool b
  | int b=>obtain⟨t,rfl⟩:=rx;exact SeqAt.EqAt.none_int b t
  | str b=>obtain⟨t,rfl⟩:=rx;exact SeqAt.EqAt.none_str b t
  | _=>exact absurd (fx) z1f
 | bl a =>
  cases ry;cases x with
  | non=>cases rx;exact SeqAt.EqAt.bool_none a
  | bl b=>cases rx;exact SeqAt.EqAt.bool_bool a b
  | int b=>obtain⟨t,rfl⟩:=rx;exact SeqAt.EqAt.bool_int a b t
  | str b=>obtain⟨t,rfl⟩:=rx;exact SeqAt.EqAt.bool_str a b t
  | _=>exact absurd (show false=true from fx) z1f
 | int a =>
  obtain⟨t',rfl⟩:=ry;cases x with
  | non=>cases rx;exact SeqAt.EqAt.int_none a t'
  | bl b=>cases rx;exact SeqAt.EqAt.int_bool a t' b
  | int b=>obtain⟨t,rfl⟩:=rx;exact SeqAt.EqAt.int_int a t' b t
  | str b=>obtain⟨t,rfl⟩:=rx;exact SeqAt.EqAt.int_str a t' b t
  | _=>exact absurd (show false=true from fx) z1f
 | str a =>
  obtain⟨t',rfl⟩:=ry;cases x with
  | non=>cases rx;exact SeqAt.EqAt.str_none a t'
  | bl b=>cases rx;exact SeqAt.EqAt.str_bool a t' b
  | int b=>obtain⟨t,rfl⟩:=rx;exact SeqAt.EqAt.str_int a t' b t
  | str b=>obtain⟨t,rfl⟩:=rx;exact SeqAt.EqAt.str_str a t' b t
  | _=>exact absurd (show false=true from fx) z1f
 | _=>exact absurd (fy) z1f
def eqU (x:V) (u:Value):Bool:=match u with
 | .none=>eqV .non x
 | .bool b=>eqV (.bl b) x
 | .int i _=>eqV (.int i) x
 | .str z _=>eqV (.str z) x
 | _=>false
theorem d8m {x y:V} {u:Value} (r:a3c y u) (f:b9l y=true):eqU x u=eqV y x:=by
 cases y with
 | non=>cases r;rfl
 | bl b=>cases r;rfl
 | int i=>obtain⟨t,rfl⟩:=r;rfl
 | str z=>obtain⟨t,rfl⟩:=r;rfl
 | _=>exact absurd (f) z1f
theorem b5c {x:V}:∀ {xs:List V} {us:List Value},a3b xs us->xs.all b9l=true->us.any (eqU x)=xs.any λ y=>eqV y x
 | _,_,.nil,_=>rfl
 | y::xs,u::us,.cons r t,f=>by
  rw[List.all_cons,z13] at f;rw[z2d,z2d,d8m r f.1,b5c t f.2]
theorem b1z {A:Around} {s:Shared} {x:V} {v:Value} (rx:a3c x v) (fx:b9l x=true):∀ {xs:List V} {us:List Value},a3b xs us->xs.all b9l=true->∀ u∈us,SeqAt.EqAt A s u v (eqU x u)
 | _,_,.nil,_=>λ u hu=>by cases hu
 | y::xs,u::us,.cons r t,f=>λ u' hu=>by
  rw[List.all_cons,z13] at f;rcases z06.mp hu with rfl | hu
  ·rw[d8m r f.1];exact e4b r rx f.1 fx
  ·exact b1z rx fx t f.2 u' hu
def inV (x:V) (xs:List V):Bool:=xs.any λ y=>eqV y x
def rIn (K:W.Frag) (neg:Bool):R2:=λ x y H Q=>∃ p xs,y=.ref p/\(SqL K H p xs\/SqT K H p xs)/\b9l x=true/\xs.all b9l=true/\Q (.bl (if neg then !inV x xs else inV x xs)) H
theorem a8v:OpR X (compareOp .In) (rIn X.K false):=by
 intro pins s σ H x y v u Q I rx ry h;obtain⟨p,xs,rfl,hq,fx,fs,q⟩:=h;cases ry;rcases hq with hq | hq
 ·obtain⟨its,r,pl,hz⟩:=I.list hq;refine SeqAt.in_listAt (eqU x) pl.isList (λ w hw=>b1z rx fx r fs w (by simpa using hw)) (nx0 (.bl _) H I rfl ?_);rw[show its.toArray.any (eqU x)=its.any (eqU x) by simp,b5c r fs];exact q
 ·obtain⟨its,r,pl,hz⟩:=I.tuple hq;refine SeqAt.in_tupleAt (eqU x) pl (λ w hw=>b1z rx fx r fs w (by simpa using hw)) (nx0 (.bl _) H I rfl ?_);rw[show its.toArray.any (eqU x)=its.any (eqU x) by simp,b5c r fs];exact q
theorem a6o:OpR X (compareOp .NotIn) (rIn X.K true):=by
 intro pins s σ H x y v u Q I rx ry h;obtain⟨p,xs,rfl,hq,fx,fs,q⟩:=h;cases ry;rcases hq with hq | hq
 ·obtain⟨its,r,pl,hz⟩:=I.list hq;refine SeqAt.notIn_listAt (eqU x) pl.isList (λ w hw=>b1z rx fx r fs w (by simpa using hw)) (nx0 (.bl _) H I rfl ?_);rw[show its.toArray.any (eqU x)=its.any (eqU x) by simp,b5c r fs];exact q
 ·obtain⟨its,r,pl,hz⟩:=I.tuple hq;refine SeqAt.notIn_tupleAt (eqU x) pl (λ w hw=>b1z rx fx r fs w (by simpa using hw)) (nx0 (.bl _) H I rfl ?_);rw[show its.toArray.any (eqU x)=its.any (eqU x) by simp,b5c r fs];exact q
theorem c1o:OpR X (compareOp .NotIn) (λ x y H Q=>∃ i j,x=.str i/\y=.str j/\Q (.bl (!(!(Builtin.Str.occurrences j i 0 j.length 1).isEmpty))) H):=by
 intro pins s σ H x y v u Q I rx ry h;obtain⟨i,j,rfl,rfl,q⟩:=h;obtain⟨t,rfl⟩:=rx;obtain⟨t',rfl⟩:=ry;exact notIn_str (nx0 (.bl _) H I rfl q)
theorem c0n:a8k X (.type "list") (λ xs H Q=>∃ p ys,xs=[.ref p]/\(SqL X.K H p ys\/SqT X.K H p ys)/\∀ l,H l=none->Q (.ref l) (upd H l (.lst ys))):=by
 intro pins s σ H xs us Q I r h;obtain⟨p,ys,rfl,hq,q⟩:=h;obtain⟨u,rfl,rx⟩:=a8l r;cases rx;have fin:∀ (its:List Value),a3b ys its->ys.length<=sizeLine->∀ (h':Heap) (c':Nat),(∀ b o',s.heap.get? b=some o'->h'.get? b=some o') ->
   h'.get? s.heap.objs.size=some {cls:=.type "list",dict:=none,data:=.seq its.toArray c',slots:=#[]}->EP X pins σ Q (.ref s.heap.objs.size) {s with heap:=h'}:=λ its r' hz h' c' kp e =>
  nx0 (.ref s.heap.objs.size) _ (I.laid kp (z04 _) (show a3m X.prog X.w _ h' _ (.lst ys) from ⟨hz,nx12 its c' r' e⟩)) rfl (q _ (I.hok.fresh (z04 _)))
 rcases hq with hq | hq
 ·obtain⟨its,r',pl,hz⟩:=I.list hq;have hlen:=r'.length;obtain⟨o,ho,hc,n,hd⟩:=pl.isList;exact call_list_seq p (.inl rfl) ho hc hd (λ h' c' kp e=>fin its r' hz h' c' kp e) (by simp only [z17]<;>lia)
 ·obtain⟨its,r',pl,hz⟩:=I.tuple hq;have hlen:=r'.length;obtain⟨o,ho,hc,n,hd⟩:=pl;exact call_list_seq p (.inr rfl) ho hc hd (λ h' c' kp e=>fin its r' hz h' c' kp e) (by simp only [z17]<;>lia)
def tyV (K:W.Frag) (T:String) (x:V) (H:Hp):Prop:=match x with
 | .str _=>T="str"
 | .int _=>T="int"
 | .ref p=>(T="list"/\∃ xs,SqL K H p xs)\/(T="tuple"/\∃ o,K.lookup p=some o/\o.cls=.type "tuple"/\o.dict=none) \/
   (T="dict"/\((∃ kvs,H p=some (.dK kvs))\/∃ kvs,H p=some (.dT kvs)))\/(T="set"/\∃ S n,H p=some (.set S n))
 | _=>False
theorem e3p {σ:St} (I:Inv X pins σ H s) (r:a3c x v) (ty:tyV X.K T x H) :
  s.TypeIs v T/\∀ a,v=.ref a->∃ ob,s.heap.get? a=some ob/\ob.dict=none:=by
 cases x with
 | str z =>
  obtain⟨t,rfl⟩:=r;cases (ty);exact⟨z26 s z t,λ _ e=>nomatch e⟩
 | int i =>
  obtain⟨t,rfl⟩:=r;cases (ty);exact⟨typeIs_int s i t,λ _ e=>nomatch e⟩
 | ref p =>
  cases r;rcases ty with ⟨rfl,xs,hq⟩ | ⟨rfl,o,hk,hc,hd⟩ | ⟨rfl,hk⟩ | ⟨rfl,S,n,hk⟩
  ·obtain⟨its,_,pl,_⟩:=I.list hq;refine⟨pl.isList.typeIs,λ a e=>?_⟩;cases e;obtain⟨o,n,e,c,hd,_⟩:=pl;exact⟨o,e,hd⟩
  ·refine⟨⟨o,I.kIn p o hk,hc⟩,λ a e=>?_⟩;cases e;exact⟨o,I.kIn _ o hk,hd⟩
  ·have z:∃ o,s.heap.get? p=some o/\o.ExactDict:=by
    rcases hk with ⟨kvs,hk⟩ | ⟨kvs,hk⟩
    ·obtain⟨_,_,_,_,o,_,_,e,ex,_⟩:=I.hok p _ hk;exact⟨o,e,ex⟩
    ·obtain⟨_,_,_,_,o,_,_,e,ex,_⟩:=I.hok p _ hk;exact⟨o,e,ex⟩
   obtain⟨o,e,ex⟩:=z;refine⟨⟨o,e,ex.1⟩,λ a e2=>?_⟩;cases e2;exact⟨o,e,ex.2.1⟩
  ·obtain⟨o,_,_,_,e,ex,_⟩:=I.hok p _ hk;refine⟨⟨o,e,ex.1⟩,λ a e2=>?_⟩;cases e2;exact⟨o,e,ex.2.1⟩
 | _=>exact False.elim ty
def tBM (K:W.Frag) (T:String) (r:V->List V->Hp->VK->Prop) (to:TE) (t:TA):TE:=λ σ H Q=>to σ H λ x H1=>tyV K T x H1/\t σ H1 λ xs H2=>r x xs H2 Q
variable {o e:Expr} {es:List Expr} {to:TE} {t:TA} {name:Str} {apos cpos:Pos} {T id:String} {r:V->List V->Hp->VK->Prop}
theorem a2l (pa:PlainAttrs T) (slot:Slot T name id) (hty:typeOf (.builtin id)=pure (.type "method_descriptor")) (hm:MtR X id r) (ho:PE X o to) (ha:PA X (e::es) t)
  (hbase:attributeBase o name X.env (eval o X.env)=eval o X.env:=by rfl)
  (hfew:((backTo cpos (starEach (e::es) X.env)).all (λ x=>!x.1) && (backToKw cpos (keywordEach [] X.env)).all (λ x=>x.1.isSome)
   && decide ((e::es).length+([]:List Keyword).length+(if ([]:List Keyword).isEmpty then 0 else 1) < 30))=true:=by rfl)
  (hline:(apos.endLine == cpos.line)=true:=by rfl) (hs:starEach (e::es) X.env=(false,eval e X.env)::starEach es X.env:=by rfl) (hplain:(backTo cpos (starEach es X.env)).any (·.1)=false:=by rfl) :
  PE X (.Call (.Attribute o name apos) (e::es) [] cpos) (tBM X.K T r to t):=by
 constructor;intro pins s σ H Q I h;refine wpAny_Call_method_late hbase hfew hline rfl (thn (ho pins s σ H _ I h) λ v s1 ⟨x,H1,I1,r1,ty,q1⟩=>?_);obtain⟨h1,h2⟩:=e3p I1 r1 ty;refine nx25 T id pa slot hty h1 ⟨h2,?_⟩;have hA:=ha cpos pins s1 σ H1 _ I1 q1;rw[hs] at hA ⊢;refine Calls.callWith_builtin (by show (false || (backTo cpos (starEach es X.env)).any (·.1))=false;rw[hplain]<;>rfl) (z4w ?_);exact thn hA λ us s2 ⟨vs,H2,I2,r2,q2⟩=>hm pins s2 σ H2 x vs v us Q I2 r1 r2 q2
end
end L2
namespace L2
open PySem PySem.Spec PyProof.Rows
def MtM (X:Cx) (id:String) (r:V->List V->Hp->VK->Prop):Prop :=
 ∀ (pins:List (Addr×Obj)) (s:Shared) (σ:St) (H:Hp) (x:V) (xs:List V) (v:Value) (us:List Value) (Q:VK),Inv X pins σ H s->a3c x v->a3b xs us->r x xs H Q ->
  wpAny (model X.prog X.w) X.A (call (.builtin id) (v::us)) (EP X pins σ Q) X.xe s
theorem a3b.one:∀ {x:V} {us:List Value},a3b [x] us->∃ u,us=[u]/\a3c x u
 | _,_,.cons r .nil=>⟨_,rfl,r⟩
section
variable {X:Cx} {pins:List (Addr×Obj)} {σ:St} {H:Hp} {s:Shared} {l b:Addr} {xs ys zs:List V}
theorem Inv.lset {its its':List Value} (I:Inv X pins σ H s) (hH:H l=some (.lst xs))
  (e:s.heap.get? l=some {cls:=.type "list",data:=.seq its.toArray n}) (hf:f its.toArray=its'.toArray) (hv:a3b ys its') (hz:ys.length<=sizeLine) :
  Inv X pins σ (upd H l (.lst ys)) {s with heap:=s.heap.update l (Obj.mapSeq f),toks:=t'}:=by
 have q:=PySem.IsL.update e f;rw[hf] at q;refine I.write (by rw[hH];exact trivial) (.inl rfl) (λ b' u hb hu=>(z56 s.heap (Obj.mapSeq f) (z1b hb)).trans hu) ⟨_,q⟩ ?_;exact ⟨hz,nx12 its' _ hv q⟩
theorem Inv.lnew (I:Inv X pins σ H s) (hv:a3b ys its) (hz:ys.length<=sizeLine) :
  Inv X pins σ (upd H s.heap.objs.size (.lst ys)) {s with heap:=s.heap.push {cls:=.type "list",data:=.seq its.toArray},toks:=t'} :=
 I.laid (λ _ _ q=>z0k _ q) (z04 _) (⟨hz,nx12 its 0 hv (z1a _ rfl)⟩)
theorem Inv.fresh (I:Inv X pins σ H s):H s.heap.objs.size=none:=I.hok.fresh (z04 _)
theorem Inv.lstM (I:Inv X pins σ H s) (hH:H l=some (.lst xs)):xs.length<=sizeLine/\∃ (its:List Value) (n:Nat),a3b xs its/\xs.length=its.length/\s.heap.get? l=some {cls:=.type "list",data:=.seq its.toArray n}:=by
 obtain⟨z,its,n,r,e⟩:=I.hok l _ hH;exact ⟨z,nx0 its n r r.length e⟩
end
section
variable {X:Cx}
def rAppend:V->List V->Hp->VK->Prop:=λ x vs H Q=>∃ l xs y,x=.ref l/\vs=[y]/\H l=some (.lst xs)/\xs.length < sizeLine/\Q .non (upd H l (.lst (xs++[y])))
theorem b4c:MtM X "list.append" rAppend:=by
 intro pins s σ H x vs v us Q I rx rv h;obtain⟨l,xs,y,rfl,rfl,hH,hz,q⟩:=h;cases rx;obtain⟨u,rfl,ru⟩:=rv.one;obtain⟨z,its,n,r,hl,e⟩:=I.lstM hH;refine z3a F.slot_list_append ⟨_,e,rfl⟩ F.entry_list_append (F.args_list_append_2 _ _) (PySem.list_append l its.toArray n u (by rw[z17];lia)) ⟨e,?_⟩;refine nx0 (.non) _ (I.lset hH e (by simp) (r.append (.cons ru .nil)) ?_) rfl q;rw[z0r,z1u];lia
def e8s:R2:=λ x y H Q=>∃ l b xs zs,x=.ref l/\y=.ref b/\H l=some (.lst xs)/\H b=some (.lst zs)/\xs.length+zs.length<=sizeLine/\∀ p,H p=none->Q (.ref p) (upd H p (.lst (xs++zs)))
theorem a6l:OpR X (binaryOp .Add) e8s:=by
 intro pins s σ H x y v u Q I rx ry h;obtain⟨l,b,xs,zs,rfl,rfl,hH,hB,hz,q⟩:=h;cases rx;cases ry;obtain⟨z,its,n,r,hl,e⟩:=I.lstM hH;obtain⟨z2,its2,n2,r2,hl2,e2⟩:=I.lstM hB;refine PySem.P.add_list e e2 ?_ (by rw[z17,z17];lia);have ea:its.toArray++its2.toArray=(its++its2).toArray:=by simp
 rw[ea];exact nx0 (.ref _) _ (I.lnew (r.append r2) (by rw[z0r];lia)) rfl (q _ I.fresh)
end
end L2
namespace L2
open PySem PySem.Spec PyProof.Rows
section
variable {κ:Type} [DecidableEq κ]
def a6i (kvs:List (κ×V)) (k:κ):Option V:=(kvs.find? λ kv=>decide (kv.1=k)).map (·.2)
def a6s (kvs:List (κ×V)) (k:κ) (v:V):List (κ×V) :=
 if (kvs.any λ kv=>decide (kv.1=k))=true then kvs.map (λ kv=>if kv.1=k then (kv.1,v) else kv) else kvs++[(k,v)]
theorem a4i {k:κ} (e:p.1=k):a6i (p::r) k=some p.2:=by simp[a6i,z1t,e]
theorem a4m {k:κ} (e:¬ p.1=k):a6i (p::r) k=a6i r k:=by simp[a6i,z1t,e]
theorem a9t (k:κ):∀ kvs:List (κ×V),(kvs.any λ kv=>decide (kv.1=k))=(a6i kvs k).isSome
 | []=>rfl
 | p::r=>by
  rw[z2d];by_cases e:p.1=k
  ·simp only [a4i e,z07 e,Bool.true_or,Option.isSome_some]
  ·rw[a4m e,z0v e,Bool.false_or];exact a9t k r
theorem c6d (k j:κ) (y:V):∀ kvs:List (κ×V),a6i (kvs.map λ kv=>if kv.1=k then (kv.1,y) else kv) j=(a6i kvs j).map λ x=>if j=k then y else x
 | []=>rfl
 | p::r=>by
  have ih:=c6d k j y r;rw[z0q];by_cases h:p.1=k
  ·rw[z02 h];by_cases e:p.1=j
   ·rw[a4i (p:=(p.1,y)) e,a4i e,z49,z02 (e.symm.trans h)]
   ·rw[a4m (p:=(p.1,y)) e,a4m e,ih]
  ·rw[z01 h];by_cases e:p.1=j
   ·rw[a4i e,a4i e,z49,z01 (λ z=>h (e.trans z))]
   ·rw[a4m e,a4m e,ih]
theorem c1j (k j:κ) (y:V):∀ kvs:List (κ×V),a6i kvs k=none->a6i (kvs++[(k,y)]) j=if j=k then some y else a6i kvs j
 | [],_=>by
  by_cases e:k=j
  ·rw[z02 e.symm];exact a4i e
  ·rw[z01 (λ z=>e z.symm)];exact a4m e
 | p::r,hn=>by
  rw[List.cons_append];have hk:¬ p.1=k:=λ z=>by rw[a4i z] at hn;cases hn
  rw[a4m hk] at hn;have ih:=c1j k j y r hn;by_cases e:p.1=j
  ·rw[a4i e,a4i e,z01 (λ z=>hk (e.trans z))]
  ·rw[a4m e,a4m e,ih]
theorem b9j (kvs:List (κ×V)) (k j:κ) (y:V):a6i (a6s kvs k y) j=if j=k then some y else a6i kvs j:=by
 unfold a6s;by_cases a:(kvs.any λ kv=>decide (kv.1=k))=true
 ·rw[z02 a,c6d];rw[a9t] at a;by_cases e:j=k
  ·obtain⟨x,hx⟩:=z5b.mp a;rw[z02 e,e,hx,z49,z02 rfl]
  ·rw[z01 e];cases a6i kvs j with
   | none=>rfl
   | some x=>rw[z49,z01 e]
 ·rw[z01 a];refine c1j k j y kvs ?_;rw[a9t] at a;cases q:a6i kvs k with
  | none=>rfl
  | some x=>rw[q] at a;exact(a rfl).elim
theorem a7v (kvs:List (κ×V)) (k:κ) (v:V):(a6s kvs k v).length<=kvs.length+1:=by
 unfold a6s;split
 ·rw[z03];lia
 ·rw[z0r,z12,z37];lia
theorem d6y {kvs:List (κ×V)} {k:κ} (v:V) (h:a6i kvs k=none):a6s kvs k v=kvs++[(k,v)]:=by
 unfold a6s;rw[a9t,h];exact z01 (by decide)
theorem c8i.isSome_eq (r:c8i o u):o.isSome=u.isSome:=by
 cases o with
 | none=>cases u with
  | none=>rfl
  | some _=>exact(r).elim
 | some _=>cases u with
  | none=>exact(r).elim
  | some _=>rfl
theorem c8i.getD (r:c8i o u) (rd:a3c d d'):a3c (o.getD d) (u.getD d'):=by
 cases o with
 | none=>cases u with
  | none=>exact rd
  | some _=>exact(r).elim
 | some _=>cases u with
  | none=>exact(r).elim
  | some _=>exact r
theorem KV.val (r:KV kvs vs) (k:κ):c8i (a6i kvs k) (valueAt vs k):=by
 induction r with
 | nil=>exact True.intro
 | @cons p q ps qs h t ih =>
  obtain⟨h1,h2⟩:=h;by_cases e:p.1=k
  ·have e':=h1.symm.trans e;have b:valueAt (q::qs) k=some q.2:=by simp[valueAt,z1t,e']
   rw[a4i e,b];exact h2
  ·have e':¬ q.1=k:=λ z=>e (h1.trans z)
   have b:valueAt (q::qs) k=valueAt qs k:=by simp[valueAt,z1t,e']
   rw[a4m e,b];exact ih
theorem KV.any (r:KV kvs vs) (k:κ):(kvs.any λ kv=>decide (kv.1=k))=vs.any λ kv=>decide (kv.1=k):=by
 induction r with
 | nil=>rfl
 | cons h t ih=>rw[z2d,z2d,ih,h.1]
theorem KV.repl (r:KV kvs vs) (k:κ) (ry:a3c y u) :
  KV (kvs.map λ kv=>if kv.1=k then (kv.1,y) else kv) (vs.map λ kv=>if kv.1=k then (kv.1,u) else kv):=by
 induction r with
 | nil=>exact .nil
 | @cons p q ps qs h t ih =>
  rw[z0q,z0q];refine .cons ?_ ih;obtain⟨h1,h2⟩:=h;by_cases e:p.1=k
  ·rw[z02 e,z02 (h1.symm.trans e)];exact⟨h1,ry⟩
  ·rw[z01 e,z01 (λ z=>e (h1.trans z))];exact⟨h1,h2⟩
theorem KV.put (r:KV kvs vs) (k:κ) (ry:a3c y u):KV (a6s kvs k y) (stored vs k u):=by
 unfold a6s stored;rw[r.any k];by_cases e:(vs.any λ kv=>decide (kv.1=k))=true
 ·rw[z02 e,z02 e];exact r.repl k ry
 ·rw[z01 e,z01 e];exact Paired.snoc r ⟨rfl,ry⟩
theorem KV.length {vs:List (κ×Value)} (r:KV kvs vs):kvs.length=vs.length:=z3b r
end
theorem c7i (r:a3c (kV k) u):(a2a P w).is k u=true:=by
 cases k with
 | inl i=>obtain⟨t,e⟩:=(r);subst e;exact c4g P w i t
 | inr x=>obtain⟨t,e⟩:=(r);subst e;exact c3k P w x t
theorem c1p:∀ {ks:List Key} {us:List Value},a3b (ks.map kV) us->ItemsAre (a2a P w) ks us
 | [],_,r=>by rw[List.map_nil] at r;cases r;exact .nil
 | k::ks,_,r=>by
  cases r with
  | cons h t=>exact .cons (c7i h) (c1p t)
abbrev KT (H:Hp):List (List Key×V)->List (List Key×Addr×Value)->Prop:=Paired λ p q=>p.1=q.1/\H q.2.1=some (.tup (p.1.map kV))/\a3c p.2 q.2.2
theorem KT.val {H:Hp} {kvs:List (List Key×V)} {xs:List (List Key×Addr×Value)} (r:KT H kvs xs) (k:List Key):c8i (a6i kvs k) ((atKey xs k).map (·.2)):=by
 induction r with
 | nil=>exact True.intro
 | @cons p q ps qs h t ih =>
  obtain⟨h1,_,h2⟩:=h;by_cases e:p.1=k
  ·have e':=h1.symm.trans e;have b:atKey (q::qs) k=some q.2:=by simp[atKey,z1t,e']
   rw[a4i e,b];exact h2
  ·have e':¬ q.1=k:=λ z=>e (h1.trans z)
   have b:atKey (q::qs) k=atKey qs k:=by simp[atKey,z1t,e']
   rw[a4m e,b];exact ih
theorem KT.repl (r:KT H kvs xs) (k:List Key) (ry:a3c y u) :
  KT H (kvs.map λ kv=>if kv.1=k then (kv.1,y) else kv) (xs.map (putAt k u)):=by
 induction r with
 | nil=>exact .nil
 | @cons p q ps qs h t ih =>
  rw[z0q,z0q];refine .cons ?_ ih;obtain⟨h1,h2,h3⟩:=h;unfold putAt;by_cases e:p.1=k
  ·rw[z02 e,z02 (h1.symm.trans e)];exact⟨h1,h2,ry⟩
  ·rw[z01 e,z01 (λ z=>e (h1.trans z))];exact⟨h1,h2,h3⟩
theorem KT.put (r:KT H kvs xs) (k:List Key) (hb:H b=some (.tup (k.map kV))) (ry:a3c y u) :
  KT H (a6s kvs k y) (storedH xs k b u):=by
 have e:(kvs.any λ kv=>decide (kv.1=k))=(atKey xs k).isSome:=by
  rw[a9t,(r.val k).isSome_eq,Option.isSome_map]
 unfold a6s storedH;rw[e];by_cases q:(atKey xs k).isSome=true
 ·rw[z02 q,z02 q];exact r.repl k ry
 ·rw[z01 q,z01 q];exact Paired.snoc r ⟨rfl,hb,ry⟩
theorem KT.keeps (r:KT H kvs xs) (ht:∀ b ys,H b=some (.tup ys)->H' b=some (.tup ys)):KT H' kvs xs :=
 Paired.mapP r λ _ _ z=>⟨z.1,ht _ _ z.2.1,z.2.2⟩
section
variable {P:Program} {w:World} {H:Hp} {h:Heap} {a:Addr}
theorem e3n (ok:HOk P w H h) (e:Rd H a u):a3m P w H h a u:=e.ok ok
theorem d3r (ok:HOk P w H h) (e:Rd H a (.dK kvs)):kvs.length<=sizeLine/\(a == sysModules)=false/\∃ vs,KV kvs vs/\h.DictOf (a2a P w) a vs :=
 show a3m P w H h a (.dK kvs) from e3n ok e
theorem e5g (ok:HOk P w H h) (e:H a=some (.dK kvs)):kvs.length<=sizeLine/\(a == sysModules)=false/\∃ vs,KV kvs vs/\h.DictOf (a2a P w) a vs:=d3r ok (.inl e)
theorem c6r (ok:HOk P w H h) (e:H a=some (.tup (ks.map kV))):(tupleKind (a2a P w)).is h ks a:=by
 obtain⟨_,its,r,o,h1,h2,n,h3⟩:=(ok a _ e);exact nx29 o its.toArray n h1 h2 ⟨h3,by simpa using c1p r⟩
theorem d0f (ok:HOk P w H h) (e:Rd H a (.dT kvs)):kvs.length<=sizeLine/\(a == sysModules)=false /\
  ∃ xs,KT H kvs xs/\h.DictOfH (tupleKind (a2a P w)) a xs:=by
 obtain⟨z,y,xs,r,o,es,ep,h1,h2,h3,h4,h5⟩:=(show a3m P w H h a (.dT kvs) from e3n ok e);refine ⟨z,y,nx1 xs r o (nx25 es ep h1 h2 h3 h4 ⟨λ x hx=>?_,h5⟩)⟩;have all:∀ {l:List (List Key×V)} {m:List (List Key×Addr×Value)},KT H l m->∀ x∈m,(tupleKind (a2a P w)).is h x.1 x.2.1:=by
  intro l m q;induction q with
  | nil=>intro x hx;exact nomatch hx
  | @cons p q ps qs hq t ih =>
   intro x hx;rcases z06.mp hx with e | hx
   ·subst e;exact c6r ok (by rw[<-hq.1];exact hq.2.1)
   ·exact ih x hx
 exact all r x hx
theorem e7h (ok:HOk P w H h) (e:H a=some (.dT kvs)):kvs.length<=sizeLine/\(a == sysModules)=false /\
  ∃ xs,KT H kvs xs/\h.DictOfH (tupleKind (a2a P w)) a xs:=d0f ok (.inl e)
end
def b1j (H:Hp) (a:Addr) (y:V) (r:Option V):Prop :=
 (∃ kvs k,Rd H a (.dK kvs)/\y=kV k/\r=a6i kvs k)\/∃ kvs k b,Rd H a (.dT kvs)/\y=.ref b/\H b=some (.tup (k.map kV))/\r=a6i kvs k
def e5o (H:Hp) (a:Addr) (y v:V) (H':Hp):Prop :=
 (∃ kvs k,H a=some (.dK kvs)/\y=kV k/\kvs.length < sizeLine/\H'=upd H a (.dK (a6s kvs k v))) \/
 ∃ kvs k b,H a=some (.dT kvs)/\y=.ref b/\H b=some (.tup (k.map kV))/\kvs.length < sizeLine/\H'=upd H a (.dT (a6s kvs k v))
theorem b1j.k {k:Key} (e:H a=some (.dK kvs)):b1j H a (kV k) (a6i kvs k):=.inl (nx0 kvs k (.inl e) rfl rfl)
theorem e5o.k {k:Key} (e:H a=some (.dK kvs)) (hl:kvs.length < sizeLine):e5o H a (kV k) v (upd H a (.dK (a6s kvs k v))):=.inl (nx7 kvs k e rfl hl rfl)
section
variable {X:Cx} {pins:List (Addr×Obj)} {σ:St} {H:Hp} {s:Shared} {a:Addr} {y v:V} {u r:Value} {o:Option V} {A:Around} {E:Value->Shared->Prop}
theorem Inv.big (I:Inv X pins σ H s):sysModules < s.heap.objs.size:=by
 have h:=(I.mod.glob.keeps I.bk).lt;exact z38 (by decide) h
theorem d0e (hu:A.units+1 < cLine) (I:Inv X pins σ H s) (g:b1j H a y (some v)) (ry:a3c y u) (h:∀ w' s',Inv X pins σ H s'->a3c v w'->Q w' s') :
  wpAny (model X.prog X.w) A (getItem (.ref a) u) Q E s:=by
 rcases g with ⟨kvs,k,e,ey,l⟩ | ⟨kvs,k,b,e,ey,eb,l⟩
 ·subst ey;obtain⟨z,hd,vs,rel,dd⟩:=d3r I.hok e;obtain⟨w',hw,rw'⟩:=c8i.some_of (by rw[l];exact rel.val k);exact wpAny_getItem_of (c7i ry) dd.mapOf hw (h w' _ (I.tok _) rw')
 ·subst ey;cases (ry);obtain⟨z,hd,xs,rel,dd⟩:=d0f I.hok e;obtain⟨w',hw,rw'⟩:=c8i.some_of (v:=v) (by rw[l];exact rel.val k);obtain⟨p,hp,hp2⟩:=z3d.mp hw;refine wpAny_getItem_heap (tupleKind_room_in1 hu) (c6r I.hok eb) dd hp ?_;rw[hp2];exact h w' _ (I.tok _) rw'
theorem c3y (I:Inv X pins σ H s) (mu:Mut (H a)) (hs:Heap.SameBut a s.heap h') (he:∃ q,h'.get? a=some q) (new:a3m X.prog X.w (upd H a ob) h' a ob) :
  Inv X pins σ (upd H a ob) {s with heap:=h',toks:=t'} :=
 I.write mu (.inl rfl) (λ b q hb z=>(hs.2 b hb).trans z) he new
theorem d3m (z:kvs.length<=sizeLine) (hd:(a == sysModules)=false) (rel:KV kvs vs) (dd:h'.DictOf (a2a P w) a vs) :
  a3m P w H' h' a (.dK kvs):=⟨z,hd,vs,rel,dd⟩
theorem d1z (hu:A.units+1 < cLine) (I:Inv X pins σ H s) (g:e5o H a y v H') (ry:a3c y u) (rv:a3c v r) (h:∀ s',Inv X pins σ H' s'->Q () s') :
  wpAny (model X.prog X.w) A (setItem (.ref a) u r) Q E s:=by
 rcases g with ⟨kvs,k,e,ey,l,eH⟩ | ⟨kvs,k,b,e,ey,eb,l,eH⟩
 ·subst ey eH;obtain⟨z,hd,vs,rel,dd⟩:=e5g I.hok e;have hz:vs.length<=sizeLine:=by rw[<-rel.length];exact z
  have hl:(a6s kvs k v).length<=sizeLine:=by have:=a7v kvs k v;lia
  refine wpAny_setItem_pairs (c7i ry) dd λ h' dd' hs=>h _ ?_
  have he:∃ q,h'.get? a=some q:=let ⟨q,_,_,hq,_⟩:=dd';⟨q,hq⟩
  exact c3y I (by rw[e];exact True.intro) hs he (d3m hl hd (rel.put k rv) dd')
 ·subst ey eH;cases (ry);obtain⟨z,hd,xs,rel,dd⟩:=e7h I.hok e;have hz:xs.length<=sizeLine:=by rw[<-z3b rel];exact z
  have hl:(a6s kvs k v).length<=sizeLine:=by have:=a7v kvs k v;lia
  refine wpAny_setItem_heap (tupleKind_room_in1 hu) (c6r I.hok eb) dd λ h' dd' hs=>h _ ?_
  obtain⟨q,es,ep,hq,h2,h3,h4,_,h5⟩:=dd';refine c3y I (by rw[e];exact True.intro) hs ⟨q,hq⟩ (⟨hl,hd,nx1 _ ((rel.put k eb rv).keeps λ c ys ec=>?_) q (nx25 es ep hq h2 h3 h4 h5)⟩);rw[a0m (e7e ec e (λ z=>nomatch z))];exact ec
end
def e7o (i:Expr):Prop:=∀ ov iv,subscripted i false ov iv=operate [ov,iv] (getItem ov iv)
theorem e0r {T id:String}
  (hl:typeLookup (.type T) "__getitem__"=pure (some (.builtin id))) (hs:e7o slice)
  (h:wpAny (model prog w) A (eval value env) (λ o s₁=>wpAny (model prog w) A (eval slice env) (λ i s₂=>s₂.TypeIs o T/\wpAny (model prog w) A (getItem o i) Q E s₂) E s₁) E s) :
  wpAny (model prog w) A (eval (.Subscript value slice pos) env) Q E s:=by
 refine Subscript_ (z0j h (λ o s₁ h₁=>z0j h₁ (λ i s₂ h₂=>?_) λ _ _ x=>x) λ _ _ x=>x);obtain⟨hT,h₂⟩:=h₂;refine z00 ?_;refine z00 (wpAny_specialOf hT hl ?_);have fin:wpAny (model prog w) A (subscripted slice false o i) (λ r s₃=>wpAny (model prog w) A (letTemporaryGo value o r>>=λ _=>pure r) Q E s₃) E s₂:=by
  rw[hs o i];exact wpAny_operating (z0j h₂ (λ r s₃ h₃=>z00 (wpAny_letTemporaryGo (z05 h₃))) λ _ _ x=>x)
 first
  | exact z05 (z00 fin)
  | exact z00 (z05 (z00 fin))
  | exact z00 fin
theorem c2u {σ:St} (I:Inv X pins σ H s) (g:b1j H a y o):s.TypeIs (.ref a) "dict":=by
 rcases g with ⟨kvs,k,e,_,_⟩ | ⟨kvs,k,b,e,_,_,_⟩
 ·obtain⟨_,_,vs,_,dd⟩:=d3r I.hok e;exact dd.typeIs
 ·obtain⟨_,_,xs,_,dd⟩:=d0f I.hok e;exact dd.typeIs
def e5v (td ty:TE):TE:=λ σ H Q=>td σ H λ x H1=>ty σ H1 λ y H2=>∃ a v,x=.ref a/\b1j H2 a y (some v)/\Q v H2
def e6d (td ty tv:TE):TS:=λ D σ H=>tv σ H λ v H1=>td σ H1 λ x H2=>ty σ H2 λ y H3=>∃ a H4,x=.ref a/\e5o H3 a y v H4/\D.nx σ H4
section
variable {X:Cx} {o i e value:Expr} {pos pos' tpos:Pos} {td ty tv:TE}
theorem a3u (hu:X.A.units+1 < cLine) (ho:PE X o td) (hi:PE X i ty) (hs:e7o i):PE X (.Subscript o i pos) (e5v td ty):=by
 constructor;intro pins s σ H Q I h;refine e0r F.slot_dict_getitem.lookup hs (thn (ho pins s σ H _ I h) λ u s1 ⟨x,H1,I1,rx,q1⟩=>thn (hi pins s1 σ H1 _ I1 q1) λ iv s2 ⟨y,H2,I2,ry,a,v,ex,g,q2⟩=>?_);subst ex;obtain rfl:u=Value.ref a:=rx;exact⟨c2u I2 g,d0e hu I2 g ry λ w' s3 I3 rw'=> nx0 v H2 I3 rw' q2⟩
theorem b4h (hu:X.A.units+1 < cLine) (ho:PE X o td) (hi:PE X i ty) (hv:PE X value tv) (hs:swapsWith value (some (.Subscript o i pos')) pos.line X.env=pure false) :
  PS X (.Assign [.Subscript o i pos'] value pos) (e6d td ty tv):=by
 constructor;intro pins s σ H D I h;refine wpAny_Assign_Subscript (thn (hv pins s σ H _ I h) λ r s1 ⟨v,H1,I1,rv,q1⟩=>thn (ho pins s1 σ H1 _ I1 q1) λ u s2 ⟨x,H2,I2,rx,q2⟩=>thn (hi pins s2 σ H2 _ I2 q2) λ iv s3 ⟨y,H3,I3,ry,a,H4,ex,g,q3⟩=>?_) hs;subst ex;obtain rfl:u=Value.ref a:=rx;exact d1z hu I3 g ry rv λ s4 I4=> nx12 σ H4 I4 q3
end
theorem c7a (h:Heap) (hb:sysModules < h.objs.size):a3m P w H (h.push {cls:=.type "dict",data:=.dict #[]}) h.objs.size (.dK []) :=
 ⟨z0x _,beq_eq_false_iff_ne.mpr (z1b (z0l hb)),[],.nil,Heap.DictOf.new h⟩
def e3e:TE:=λ _ H Q=>∀ p,H p=none->Q (.ref p) (upd H p (.dK []))
section
variable {X:Cx} {pos:Pos}
theorem b3n:PE X (.Dict [] [] pos) e3e:=⟨λ pins s σ H Q I h =>
 wpAny_Dict_empty (nx0 (.ref s.heap.objs.size) _ (I.laid (λ _ _ q=>z0k _ q) (z04 _) (c7a s.heap I.big)) rfl (h _ (I.hok.fresh (z04 _))))⟩
end
def c9o:List (TE×TE)->St->Hp->(List (V×V)->Hp->Prop)->Prop
 | [],_,H,Q=>Q [] H
 | (tk,tv)::r,σ,H,Q=>tk σ H λ x H1=>tv σ H1 λ y H2=>c9o r σ H2 λ ps H3=>Q ((x,y)::ps) H3
abbrev VV:List (V×V)->List (Value×Value)->Prop:=Paired λ p q=>a3c p.1 q.1/\a3c p.2 q.2
def PPs (X:Cx) (pos:Pos) (keys:List (Option Expr)) (values:List Expr) (trs:List (TE×TE)):Prop :=
 ∀ (pins:List (Addr×Obj)) (s:Shared) (σ:St) (H:Hp) (Q:List (V×V)->Hp->Prop),Inv X pins σ H s->c9o trs σ H Q ->
  wpAny (model X.prog X.w) X.A (evalPairs (pairTrees keys values X.env pos)) (λ vs s'=>∃ ps H',Inv X pins σ H' s'/\VV ps vs/\Q ps H') X.xe s
theorem e1n {X:Cx} {pos:Pos}:PPs X pos [] [] []:=λ pins s σ H Q I h=>pairTrees_nil_walk (nx0 ([]) H I (.nil) h)
theorem b8g {X:Cx} {pos:Pos} {k v:Expr} {ks:List (Option Expr)} {vs:List Expr} {tk tv:TE} {trs:List (TE×TE)} (hk:PE X k tk) (hv:PE X v tv) (hr:PPs X pos ks vs trs) :
  PPs X pos (some k::ks) (v::vs) ((tk,tv)::trs):=λ pins s σ H Q I h =>
 pairTrees_cons_walk (thn (hk pins s σ H _ I h) λ u s1 ⟨x,H1,I1,rx,q1⟩=>thn (hv pins s1 σ H1 _ I1 q1) λ w2 s2 ⟨y,H2,I2,ry,q2⟩ =>
  thn (hr pins s2 σ H2 _ I2 q2) λ ws s3 ⟨ps,H3,I3,rel,q3⟩=> nx0 ((x,y)::ps) H3 I3 (.cons ⟨rx,ry⟩ rel) q3)
def b6y (kvs more:List (Key×V)):List (Key×V):=more.foldl (λ acc kv=>a6s acc kv.1 kv.2) kvs
theorem KV.merge:∀ {more:List (Key×V)} {rs:List (Key×Value)} {kvs:List (Key×V)} {vs:List (Key×Value)},KV more rs->KV kvs vs->KV (b6y kvs more) (merged vs rs):=by
 intro more rs kvs vs r;induction r generalizing kvs vs with
 | nil=>intro q;exact q
 | @cons p q ps qs h t ih =>
  intro r0;have e:KV (a6s kvs p.1 p.2) (stored vs q.1 q.2):=by
   have:=r0.put p.1 h.2;rw[<-h.1];exact this
  exact ih e
theorem b1k:∀ (more kvs:List (Key×V)),(b6y kvs more).length<=kvs.length+more.length
 | [],kvs=>by show kvs.length<=kvs.length+0;lia
 | p::r,kvs=>by
  have h1:=b1k r (a6s kvs p.1 p.2);have h2:=a7v kvs p.1 p.2;show (b6y (a6s kvs p.1 p.2) r).length<=_;rw[z12];lia
theorem b7k {P:Program} {w:World}:∀ {kvs:List (Key×V)} {ws:List (Value×Value)},VV (kvs.map λ kv=>(kV kv.1,kv.2)) ws->∃ rs,Carries (a2a P w) ws rs/\KV kvs rs
 | [],_,r=>by rw[List.map_nil] at r;cases r;exact⟨[],True.intro,.nil⟩
 | p::kvs,_,r=>by
  cases r with
  | @cons a b as bs h t =>
   obtain⟨rs,c,q⟩:=b7k t;obtain⟨b1,b2⟩:=b;exact⟨(p.1,b2)::rs,⟨c7i h.1,rfl,c⟩,.cons ⟨rfl,h.2⟩ q⟩
def e5r (trs:List (TE×TE)):TE:=λ σ H Q=>∀ p,H p=none->c9o trs σ (upd H p (.dK [])) λ ps H2=>H2 p=some (.dK [])/\∃ kvs:List (Key×V),ps=kvs.map (λ kv=>(kV kv.1,kv.2))/\kvs.length<=15/\Q (.ref p) (upd H2 p (.dK (b6y [] kvs)))
theorem e0a {X:Cx} {pos:Pos} {keys:List (Option Expr)} {values:List Expr} {trs:List (TE×TE)} (h:PPs X pos keys values trs) (hall:keys.all (·.isSome)=true) (hl:keys.length=values.length) (h0:keys≠[])
  (h15:keys.length<=15):PE X (.Dict keys values pos) (e5r trs):=by
 constructor;intro pins s σ H Q I q;have hn:=I.hok.fresh (z04 s.heap.objs.size);have I1:=I.laid (t':=s.toks) (λ _ _ q=>z0k _ q) (z04 _) (c7a s.heap I.big);refine wpAny_Dict_walk (knd:=a2a X.prog X.w) hall hl h0 h15 (thn (h pins _ σ _ _ I1 (q _ hn)) λ ws s2 ⟨ps,H2,I2,rel,e,kvs,ep,lk,q2⟩=>?_);subst ep;obtain⟨rs,c,rk⟩:=b7k rel;obtain⟨z,hd,vs0,r0,dd⟩:=e5g I2.hok e;cases r0;refine⟨rs,c,dd,λ h' dd' hs=> nx0 (.ref s.heap.objs.size) _ ?_ rfl q2⟩;have hz:(b6y [] kvs).length<=sizeLine:=by
  have h1:=b1k kvs [];rw[z37] at h1;rw[sizeLine_eq];lia
 have he:∃ q,h'.get? s.heap.objs.size=some q:=let ⟨q,_,_,hq,_⟩:=dd';⟨q,hq⟩
 exact c3y I2 (by rw[e];exact True.intro) hs he (d3m hz hd (rk.merge .nil) dd')
structure M1 (X:Cx) (o:Expr) (m:Str) (apos:Pos) (e:Expr) (cpos:Pos):Prop where
 base:attributeBase o m X.env (eval o X.env)=eval o X.env
 few:((backTo cpos (starEach [e] X.env)).all (λ x=>!x.1) && (backToKw cpos (keywordEach [] X.env)).all (λ x=>x.1.isSome)
  && decide (([e]:List Expr).length+([]:List Keyword).length+(if ([]:List Keyword).isEmpty then 0 else 1) < 30))=true
 line:(apos.endLine == cpos.line)=true
 trees:backTo cpos (starEach [e] X.env)=[(false,eval e X.env)]
structure M2 (X:Cx) (o:Expr) (m:Str) (apos:Pos) (e f:Expr) (cpos:Pos):Prop where
 base:attributeBase o m X.env (eval o X.env)=eval o X.env
 few:((backTo cpos (starEach [e,f] X.env)).all (λ x=>!x.1) && (backToKw cpos (keywordEach [] X.env)).all (λ x=>x.1.isSome)
  && decide (([e,f]:List Expr).length+([]:List Keyword).length+(if ([]:List Keyword).isEmpty then 0 else 1) < 30))=true
 line:(apos.endLine == cpos.line)=true
 trees:backTo cpos (starEach [e,f] X.env)=[(false,eval e X.env),(false,eval f X.env)]
def IsD (H:Hp) (a:Addr):Prop:=(∃ kvs,Rd H a (.dK kvs))\/∃ kvs,Rd H a (.dT kvs)
theorem e3l {σ:St} (I:Inv X pins σ H s) (d:IsD H a) :
  s.TypeIs (.ref a) "dict"/\(∀ b,Value.ref a=.ref b->∃ ob,s.heap.get? b=some ob/\ob.dict=none)/\(a == sysModules)=false:=by
 rcases d with ⟨kvs,e⟩ | ⟨kvs,e⟩
 ·obtain⟨_,hd,vs,_,dd⟩:=d3r I.hok e;refine⟨dd.typeIs,λ b q=>?_,hd⟩;cases q;obtain⟨ob,_,_,h1,h2,_⟩:=dd;exact⟨ob,h1,h2.2.1⟩
 ·obtain⟨_,hd,xs,_,dd⟩:=d0f I.hok e;refine⟨dd.typeIs,λ b q=>?_,hd⟩;cases q;obtain⟨ob,_,_,h1,h2,_⟩:=dd;exact⟨ob,h1,h2.2.1⟩
section
variable {X:Cx} {pins:List (Addr×Obj)} {σ:St} {H:Hp} {s:Shared} {a:Addr} {y d:V} {u r:Value} {o:Option V} {A:Around} {E:Value->Shared->Prop}
theorem e4o (hu:A.units+1 < cLine) (I:Inv X pins σ H s) (g:b1j H a y o) (ry:a3c y u) (rd:a3c d r) (h:∀ w' s',Inv X pins σ H s'->a3c (o.getD d) w'->Q w' s') :
  wpAny (model X.prog X.w) A (call (.builtin "dict.get") [.ref a,u,r]) Q E s:=by
 rcases g with ⟨kvs,k,e,ey,l⟩ | ⟨kvs,k,b,e,ey,eb,l⟩
 ·subst ey;obtain⟨z,hd,vs,rel,dd⟩:=d3r I.hok e;refine call_meetsIn F.slot_dict_get dd.typeIs F.entry_dict_get (F.args_dict_get_3 _ _ _) (meets_dict_get_default (a2a X.prog X.w) a (c7i ry) hd r) ⟨_,dd.mapOf,h _ _ (I.tok _) ?_⟩;rw[l];exact(rel.val k).getD rd
 ·subst ey;cases (ry);obtain⟨z,hd,xs,rel,dd⟩:=d0f I.hok e;refine call_meetsIn F.slot_dict_get dd.typeIs F.entry_dict_get (F.args_dict_get_3 _ _ _) (meetsH_dict_get_default (tupleKind (a2a X.prog X.w)) a b hd r) (⟨tupleKind_room_in1 hu,nx0 k xs (c6r I.hok eb) dd (h _ _ (I.tok _) ?_)⟩);rw[l];exact(rel.val k).getD rd
end
def e2x (td ty tx:TE):TE:=λ σ H Q=>td σ H λ x H1=>∃ a,x=.ref a/\IsD H1 a/\ty σ H1 λ y H2=>tx σ H2 λ z H3=>∃ o,b1j H3 a y o/\Q (o.getD z) H3
section
variable {X:Cx} {o e f:Expr} {apos cpos:Pos} {td ty tx:TE}
theorem c5y (hu:X.A.units+1 < cLine) (ho:PE X o td) (he:PE X e ty) (hf:PE X f tx) (m:M2 X o "get" apos e f cpos):PE X (.Call (.Attribute o "get" apos) [e,f] [] cpos) (e2x td ty tx):=by
 constructor;intro pins s σ H Q I h;refine wpAny_Call_method m.base m.few m.line F.plainAttrs_dict F.slot_dict_get F.type_dict_get (thn (ho pins s σ H _ I h) λ u s1 ⟨x,H1,I1,rx,a,ex,d,q1⟩=>?_);subst ex;obtain rfl:u=Value.ref a:=rx;obtain⟨t1,t2,_⟩:=e3l I1 d;refine⟨t1,t2,?_⟩;rw[m.trees];refine Calls.callWith_builtin rfl (z4w (z3r (thn (he pins s1 σ H1 _ I1 q1) λ iv s2 ⟨y,H2,I2,ry,q2⟩ =>
  z3r (thn (hf pins s2 σ H2 _ I2 q2) λ fv s3 ⟨z,H3,I3,rz,ov,g,q3⟩=>z3u ?_))))
 exact e4o hu I3 g ry rz λ w' s4 I4 rw'=> nx0 _ H3 I4 rw' q3
end
end L2
namespace Att
open PySem PySem.W PySem.Calls PyProof.Rows
theorem b4x:∀ (ns:List Int) (vs:List Value),WellAll P h vs (ns.map WData.int)->IntsAre vs ns:=by
 intro ns;induction ns with
 | nil =>
  intro vs w;cases w;exact .nil
 | cons n ns ih =>
  intro vs w;cases w with
  | cons a b =>
   cases a;exact .cons _ _ (ih _ b)
theorem d3a {l:OpenLaw} (hn:l.most=some n)
  (hpre:l.row.toRowW.claim.pre args=true) (hwl:WellAll P h vals args) :
  ∃ a vs ns,vals=[Value.ref a]/\args=[WData.list (ns.map WData.int)]/\h.get? a=some {cls:=.type "list",data:=.seq vs.toArray}/\IntsAre vs ns/\ns.length<=n:=by
 have hsh:WShape.hasAll [] args [.list .int]=true:=(pre_splitW hpre).1;have hc:l.pre.holds [] {args:=args}=true:=(pre_splitW hpre).2;obtain⟨d,r,rfl,h1,h2⟩:=hasAllW_cons hsh;obtain rfl:=hasAllW_nil h2;obtain⟨xs,rfl,h3⟩:=hasW_list h1;obtain⟨ns,rfl⟩:=items_int h3;have hlen:ns.length<=n:=by
  have h4:(WTm.not (.lt (.lit (.int (n:Int))) (.len (.arg 0)))).holds [] {args:=[.list (ns.map .int)]}=true:=by
   have h4:=(holds_andW hc).1;rw[hn] at h4;exact h4
  have h5:=condW_of h4 (w_not (w_lt w_lit (w_len_list (w_arg rfl))));first
   | (rw[z07 q'] at h5;exact absurd h5 (by decide))
   | (simp at h5;lia)
 cases hwl with
 | cons w1 w2 =>
  cases w2;cases w1 with
  | list ho hall=>exact nx2 _ _ ns rfl rfl ho (b4x ns _ hall) hlen
theorem d3s (l:OpenLaw) (args:List WData):l.row.toRowW.claim.post args (.bool true) args=true :=
 postW_of
  (show WShape.has [] (.bool true) .bool=true by first | rfl | decide | simp[WShape.has,WShape.arms,WShape.armsAll])
  (show (WTm.eq .res (.lit (.bool true))).value [] {args:=args,res:=some (.bool true),after:=args}=some (.bool (true == true)) from w_eq_bool (w_res rfl) w_lit) rfl
end Att
namespace L2
open PySem PySem.Spec PyProof.Rows
theorem c2h:∀ {vs:List Value} {ns:List Int},IntsAre vs ns->a3b (ns.map V.int) vs
 | _,_,.nil=>.nil
 | _,_,.cons n t h=>.cons ⟨t,rfl⟩ (c2h h)
def e6w (H:Hp):Prop:=∀ b,H b=none\/∃ o xs,H b=some (.frz o (.lst xs))
theorem d4z {P:Program} {w:World} {K:W.Frag} {mg mb:Str->Option Value} {CX:CXT} {k:Nat} {fa a:Addr} {fd:FuncData} {x:Str} {sp:Sp} {s₁:Shared} {vs:List Value} {ns:List Int}
  (KX:K.In s₁.heap) (hns:s₁.heap.Ns mainGlobals mg) (hb:s₁.heap.Ns builtinsNs mb) (hbb:∀ x:Str,x≠"__name__"->mb x=bootBuiltins x) (hlim:s₁.heap.NoLimit) (hg:s₁.gens=#[])
  (ha:s₁.heap.get? a=some {cls:=.type "list",data:=.seq vs.toArray}) (hi:IntsAre vs ns) (hl:ns.length<=sizeLine) (hr:Room k callerA)
  (F:∀ base:Heap,K.In base->base.Ns mainGlobals mg->b0w P w K mg base CX k fa fd [x] sp) (hbind:∀ (s:Shared) (u:Value),BindsTo s fd ⟨[u],[]⟩ [(x,u)])
  (hsp:∀ H:Hp,e6w H->SqL K H a (ns.map V.int)->sp [.ref a] H (λ v _=>v=.bl true) λ _ _ _=>False)
  (hCX:∀ H e s',CX [] H s₁ (λ _ _ _=>False) e s'->False) :
  codeAny (model P w) callerA (.call (.ref fa) ⟨[.ref a],[]⟩) (λ r s'=>r=.ok (.ret (.bool true))/\OldK s₁.heap s'.heap/\s'.os=s₁.os/\AllBare s'.gens) s₁:=by
 have rv:=c2h hi;have lenV:=hi.length;have core:∀ H:Hp,e6w H->SqL K H a (ns.map V.int)->HOk P w H s₁.heap->(∀ b,H b≠none->b=a)->(H a≠none->K.lookup a=none) ->
   codeAny (model P w) callerA (.call (.ref fa) ⟨[.ref a],[]⟩) (λ r s'=>r=.ok (.ret (.bool true))/\OldK s₁.heap s'.heap/\s'.os=s₁.os/\AllBare s'.gens) s₁:=by
  intro H hO hS hok hA hK;have base_of:∀ {b:Addr} {o:Obj},s₁.heap.get? b=some o->H b=none->(d8r s₁.heap H).get? b=some o:=λ e n=>d6s e n
  have noA:∀ {b:Addr} {o:Obj} {es:Array DictEntry} {ep:Nat},s₁.heap.get? b=some o->o.data=.dict es ep->H b=none:=λ {b o es ep} e d=>by
   cases q:H b with
   | none=>rfl
   | some u =>
    have e':=hA b (by rw[q];simp);subst e';rw[ha] at e;cases e;have d':=d;cases d'
  have nsK:∀ {b:Addr} {m:Str->Option Value},s₁.heap.Ns b m->(d8r s₁.heap H).Ns b m:=λ {b m} ⟨o,es,ep,e,d,r⟩=> nx29 o es ep (base_of e (noA e d)) d r
  have hKb:=λ b o e=>base_of (KX b o e) (by
   cases q:H b with
   | none=>rfl
   | some u =>
    have e':b=a:=hA b (by rw[q];simp);subst e';rw[hK (by rw[q];simp)] at e;cases e)
  have hM:Mod K mg (d8r s₁.heap H):=⟨hKb,nsK hns,⟨mb,nsK hb,hbb⟩,let ⟨mc,h1,h2⟩:=hlim;⟨mc,nsK h1,h2⟩⟩;have e0:d8q P w K mg (d8r s₁.heap H) callerA [] s₁ H:=⟨rfl,hM,λ b o e=>e2e e,Nat.le_of_eq (d2n _ _),trivial,λ b hb=>absurd (show b∈([]:List Addr) from hb) (by simp),hok,.of_eq hg⟩;refine z2m ((F _ hKb (nsK hns)).run callerA [] s₁ H ⟨[.ref a],[]⟩ [.ref a] [.ref a] _ _ hr e0 (hbind s₁ (.ref a)) (.cons rfl .nil) (hsp H hO hS)) λ r s' h=>?_
  cases r with
  | error e=>exact(hCX H e s' h).elim
  | ok fl =>
   cases fl with
   | next=>exact False.elim h
   | brk=>exact False.elim h
   | cont=>exact False.elim h
   | ret u =>
    obtain⟨v,H',os,bare,un,hok',r',q⟩:=h;have q':=q;subst q';obtain rfl:u=Value.bool true:=r';refine⟨rfl,OldK.of_keep λ b o e=>?_,os,bare⟩;cases q:H b with
    | none=>exact un.keep b o e q (by intro z;exact absurd (show b∈([]:List Addr) from z) (by simp)) (by simp)
    | some u =>
     rcases hO b with z | ⟨ob,xs,z⟩
     ·rw[q] at z;cases z
     ·have z2:=un.frzs b ob _ z;obtain⟨e1,_⟩:=hok b _ z;obtain⟨e2,_⟩:=hok' b _ z2;rw[e] at e1;cases e1;exact e2
 cases hk:K.lookup a with
 | some o =>
  have e:=KX a o hk;rw[ha] at e;cases e;refine core (λ _=>none) (λ _=>.inl rfl) (.inr (nx44 _ vs.toArray _ hk rfl rfl rfl (by rw[z17,lenV];exact hl) (by simpa using rv))) (λ b u z=>by have z':=z;cases z') (λ b z=>absurd rfl z) λ z=>absurd rfl z
 | none =>
  refine core (λ b=>if b=a then some (.frz {cls:=.type "list",data:=.seq vs.toArray} (.lst (ns.map V.int))) else none) (λ b=>?_) (.inl (.inr ⟨{cls:=.type "list",data:=.seq vs.toArray},z02 rfl⟩)) (λ b u z=>?_) (λ b z=>?_) λ _=>hk
  ·by_cases hb:b=a
   ·exact .inr (nx3 _ _ (z02 hb))
   ·exact .inl (z01 hb)
  ·by_cases hb:b=a
   ·have z':=(z02 hb).symm.trans z;cases z';subst hb;exact ⟨ha,by rw[z03];exact hl,nx12 vs _ rv ha⟩
   ·have z':=(z01 hb).symm.trans z;cases z'
  ·by_cases hb:b=a
   ·exact hb
   ·exact absurd (z01 hb) z
end L2
namespace L2
open PySem PySem.Spec PyProof.Rows
abbrev KOf {K:W.Frag} {h:Heap} (_:K.In h):W.Frag:=K
end L2
namespace L2
open PySem PySem.Spec PyProof.Rows
def a4v (s:Stmt):Arguments:=match s with
 | .FunctionDef _ a _ _ _ _ _ _ _ _=>a
 | _=>{posonlyargs:=[],args:=[],vararg:=none,kwonlyargs:=[],kw_defaults:=[],kwarg:=none,defaults:=[]}
def a3t (s:Stmt):List Stmt:=match s with
 | .FunctionDef _ _ b _ _ _ _ _ _ _=>b
 | _=>[]
def a0h (s:Stmt):Scope:=match s with
 | .FunctionDef _ _ _ _ _ _ sc _ _ _=>sc
 | _=>{kind:=.function,names:=[],isGenerator:=false,isCoroutine:=false}
abbrev CX0:CXT:=λ _ _ _ _ _ _=>False
abbrev E0:XK:=λ _ _ _=>False
theorem e3q:c1c CX0 X E0:=λ _ _ _ _ _ _ _ h=>h.elim
structure Fun (K:W.Frag) (x qual:Str) (st:Stmt) (f:Addr) (fd:FuncData):Prop where
 ex:∃ (oc:Value) (od:Option Addr) (kV doc pm:Value) (an:Option Addr) (cdv ct:Value) (osl:Array (Option Value)),
  fd=W.fnOf x qual (a4v st) (a3t st) (a0h st) .none kV doc pm an cdv ct/\K.lookup f=some ⟨oc,od,.func fd,osl⟩/\W.codeIn K cdv qual=true
 kp:W.keepIn K (.ref f)=true
section
variable {P:Program} {w:World} {K:W.Frag} {mg:Str->Option Value} {base:Heap}
theorem Fun.ok {x qual:Str} {st:Stmt} {f:Addr} {fd:FuncData} {N ps:List Str} {k:Nat} {sp:Sp} (F:Fun K x qual st f fd) (S:a0s N ps (a0h st)) (len:∀ vs H Q E,sp vs H Q E->vs.length=ps.length)
  (hbody:∀ (cdv:Value) (A:Around) (outer:List Env) (s:Shared) (H:Hp) (vs:List V) (Q:VK) (E:XK),Room k (A.deeper (envOfC qual (a0h st) s.heap.objs.size f cdv))->sp vs H Q E ->
   ∃ t,PSs (b3s CX0 P w K mg base N qual (a0h st) f cdv A outer s H E).nox (a3t st) t/\t {nx:=λ _ H'=>Q .non H',rt:=Q} (start N vs) H):b0w P w K mg base CX0 (k+1) f fd ps sp:=by
 obtain⟨oc,od,kV,doc,pm,an,cdv,ct,osl,rfl,lk,hcd⟩:=F.ex;refine e4i lk hcd S len λ A outer s H vs Q E hr hsp=>?_
 obtain⟨t,h,q⟩:=hbody cdv A outer s H vs Q E hr hsp;exact⟨t,h.nox,q⟩
theorem Fun.binds {st:Stmt} (F:Fun K x qual st f fd)
  (h:∀ (kV doc pm:Value) (an:Option Addr) (cdv ct:Value) (us:List Value),us.length=ps.length->bindArgs (W.fnOf x qual (a4v st) (a3t st) (a0h st) .none kV doc pm an cdv ct) ⟨us,[]⟩=pure (ps.zip us)):b1d K fd ps []:=by
 obtain⟨oc,od,kV,doc,pm,an,cdv,ct,osl,rfl,lk,hcd⟩:=F.ex;exact .all (h kV doc pm an cdv ct)
theorem d8k {st:Stmt} {kV doc pm cdv ct:Value} (l:K.lookup f=some ⟨oc,od,.func (W.fnOf x qual (a4v st) (a3t st) (a0h st) .none kV doc pm an cdv ct),osl⟩)
  (c:W.codeIn K cdv qual=true) (k:W.keepIn K (.ref f)=true):Fun K x qual st f (W.fnOf x qual (a4v st) (a3t st) (a0h st) .none kV doc pm an cdv ct):=⟨nx10 oc od kV doc pm an cdv (nx0 ct osl rfl l c),k⟩
end
theorem c8a (hr:Room k A):A.units+1 < cLine:=z3m (Nat.add_le_add_left (by decide:1<=64) _) hr.units
section
variable {X:Cx}
theorem pv (i:Nat) {pos:Pos} (hN:X.N[i]?=some x:=by rfl) (hv:Vis X.env.scope x:=by first | exact Or.inl rfl | exact Or.inr (Or.inl rfl) | exact Or.inr (Or.inr rfl)) (hd:(x == ("__debug__":Str))=false:=by decide)
  (hcd:(x == ("__classdict__":Str))=false:=by decide):PE X (.Name x pos) (b1a i):=d8d hN hv hd hcd
end
theorem a7h {A B:Prop} (h:B):if false=true then A else B:=by
 exact h
theorem a5m {A B:Prop} (h:A):if true=true then A else B:=by
 exact h
theorem a3o {c A B:Prop} [Decidable c] (h1:c->A) (h2:¬ c->B):if c then A else B:=by
 by_cases h:c
 ·rw[z02 h];exact h1 h
 ·rw[z01 h];exact h2 h
def Same (H H':Hp):Prop:=∀ b o,H b=some o->H' b=some o
theorem Same.refl (H:Hp):Same H H:=λ _ _ h=>h
theorem Same.trans (a:Same H H1) (b:Same H1 H2):Same H H2:=λ c o h=>b c o (a c o h)
theorem Same.free (e:Same H H') (h:H' l=Option.none):H l=Option.none:=by
 cases q:H l with
 | none=>rfl
 | some o =>
  rw[e l o q] at h;cases h
theorem Same.seq {K:W.Frag} (e:Same H H') (h:SqL K H a xs):SqL K H' a xs:=by
 rcases h with (h | ⟨o,h⟩) | h
 ·exact .inl (.inl (e _ _ h))
 ·exact .inl (.inr ⟨o,e _ _ h⟩)
 ·exact .inr h
end L2
namespace L2
open PySem PySem.Spec PyProof.Rows
section
variable {κ:Type} [DecidableEq κ]
theorem d8z {kvs:List (κ×V)} {k:κ} {v:V} (h:a6i kvs k=some v):k∈kvs.map (·.1):=by
 have q:(kvs.any λ kv=>decide (kv.1=k))=true:=by
  rw[a9t,h];all_goals rfl
 obtain⟨p,hp,e⟩:=z4j.mp q;exact z0a.mpr ⟨p,hp,z0b e⟩
end
end L2
namespace My
open PySem PySem.Spec PyProof.Rows L2
section
variable {X:Cx}
theorem a6m:a8k X (.builtin "isinstance") (λ xs H Q=>∃ x t c b,xs=[x,V.ty c]/\c7b X.K H x t/\W.kitOne X.K t (.type c)=some b/\Q (.bl b) H):=by
 intro pins s σ H xs us Q I r h;obtain⟨x,t,c,b,rfl,ty,e,q⟩:=h;obtain⟨u,w',rfl,ru,rw'⟩:=c0w r;cases rw';exact d0s I ru ty e λ tk=> nx0 (.bl b) H (I.tok tk) rfl q
end
section
variable {K:W.Frag}
theorem e5c:W.kitOne K (.type "int") (.type "int")=some true:=by
 show (if (Value.type "int" == Value.type "int")=true then some true else if W.kitMeta "int"=true then (fastBuiltinMro "int").map (·.contains (Value.type "int")) else none)=some true;decide +kernel
theorem e3v:W.kitOne K (.type "int") (.type "bool")=some false:=by
 show (if (Value.type "int" == Value.type "bool")=true then some true else if W.kitMeta "bool"=true then (fastBuiltinMro "int").map (·.contains (Value.type "bool")) else none)=some false;decide +kernel
theorem e4u:W.kitOne K (.type "int") (.type "str")=some false:=by
 show (if (Value.type "int" == Value.type "str")=true then some true else if W.kitMeta "str"=true then (fastBuiltinMro "int").map (·.contains (Value.type "str")) else none)=some false;decide +kernel
theorem d8t:W.kitOne K (.type "str") (.type "str")=some true:=by
 show (if (Value.type "str" == Value.type "str")=true then some true else if W.kitMeta "str"=true then (fastBuiltinMro "str").map (·.contains (Value.type "str")) else none)=some true;decide +kernel
theorem d1l:W.kitOne K (.type "tuple") (.type "tuple")=some true:=by
 show (if (Value.type "tuple" == Value.type "tuple")=true then some true else if W.kitMeta "tuple"=true then (fastBuiltinMro "tuple").map (·.contains (Value.type "tuple")) else none)=some true;decide +kernel
end
def d8w (kvs:List (Key×V)):Prop:=∀ kv∈kvs,∃ n,kv.2=V.int n
theorem d8w.nil:d8w []:=λ _ h=>nomatch h
theorem b5j {α:Type} {xs:List α} {i:Int} (h0:0<=i) (h1:i < xs.length):∃ v,atI xs i=some v:=by
 have e:ixN xs.length i=some i.toNat:=by
  unfold ixN;rw[z02 h0,z02 h1]
 have hl:i.toNat < xs.length:=by lia
 refine⟨xs[i.toNat],?_⟩;unfold atI;rw[e];exact z0c hl
theorem b0t {α:Type} {xs:List α} {i:Int} {v:α} (h:atI xs i=some v):v∈xs:=by
 obtain⟨j,_,e,_⟩:=b8m h;exact z0h e
theorem b1f (xs:List V) (k:Nat):d5p xs none (some (k:Int))=xs.take k:=by
 exact(List.take_eq_take_min).symm
theorem e3z {c A B:Prop} [Decidable c] (hc:c) (h:A):if decide c=true then A else B:=by
 rw[z02 (z07 hc)];exact h
theorem d6v {c A B:Prop} [Decidable c] (hc:¬ c) (h:B):if decide c=true then A else B:=by
 rw[z01 (λ z=>hc (z0b z))];exact h
theorem _root_.L2.Same.upd (h:H p=none):Same H (upd H p o):=λ b u e=>by
 rw[a0m (a0u e h)];exact e
theorem _root_.L2.Same.again (s:Same H H') (h:H p=none):Same H (L2.upd H' p o):=λ b u e=>by
 rw[a0m (a0u e h)];exact s b u e
open Builtin.Int (intBits)
theorem c2f:∀ {ns:List Int} {m:Int},m∈ns->intBits m<=W.WData.weightAll (ns.map W.WData.int)
 | n::r,m,h=>by
  rcases z06.mp h with e | e
  ·subst e;simp only [z0q,W.WData.weightAll,W.WData.weight,Builtin.Int.intBits];lia
  ·have z:=c2f e;simp only [z0q,W.WData.weightAll];lia
theorem e1f {ns:List Int} (h:W.WData.layableAll [W.WData.list (ns.map .int)]=true):∀ m∈ns,intBits m<=1048576:=λ m hm=>by
 have h1:=(W.layW_cons h).1;have h2:=z0b (Bool.and_eq_true_iff.mp h1).2;have h3:=c2f hm;have h4:W.WData.weight (.list (ns.map .int))=W.WData.weightAll (ns.map .int):=by simp only [W.WData.weight]
 lia
end My
namespace My
open PySem PySem.W PySem.Calls PyProof.Rows L2
theorem d4p {l:W.OpenLaw} {n k:Nat} {q:Program} {loose:List Str} {XP:(Str->Option Value)->Heap->Prop} {YP:World->Heap->Prop} {d:DefRec} {K:Params->W.Frag} {CX:World->CXT} {sp:World->Sp} {x:Str}
  (hn:l.most=some n) (hn2:n<=sizeLine) (hdf:d.params.defaults=[]) (hr:Room k callerA)
  (hY:∀ (w:World) (h:Heap),YP w h->(K w.params).In h)
  (F:∀ (w:World) (mg:Str->Option Value) (fa:Addr) (h:Heap),(K w.params).In h->h.Ns mainGlobals mg->mg d.name=some (.ref fa) ->
   ∃ fd:FuncData,(∀ (s:Shared) (u:Value),BindsTo s fd ⟨[u],[]⟩ [(x,u)]) /\
    ∀ base:Heap,(K w.params).In base->base.Ns mainGlobals mg->b0w l.prog w (K w.params) mg base (CX w) k fa fd [x] (sp w))
  (hsp:∀ (w:World) (H:Hp) (a:Addr) (ns:List Int),ns.length<=n->(∀ m∈ns,Builtin.Int.intBits m<=1048576)->e6w H->SqL (K w.params) H a (ns.map V.int)->sp w [.ref a] H (λ v _=>v=.bl true) λ _ _ _=>False)
  (hCX:∀ (w:World) (H:Hp) (s:Shared) (e:Value) (s':Shared),CX w [] H s (λ _ _ _=>False) e s'->False) :
  W.WalkO q loose XP YP l.row.toRowW d [] (λ f vs=>PySem.call f vs):=by
 intro w s₀ s₁ mg mb G Y fa o pm cd doc dV kV ho hd hcd hD hmg hg args vals as hpre hlay hrd hwl hlo;obtain⟨a,vs,ns,rfl,rfl,hobj,hints,hlen⟩:=Att.d3a hn hpre hwl;have KX:=hY w _ Y;obtain⟨fd,hb,hF⟩:=F w mg fa _ KX G.T.g hmg;refine enter_call (z2m (d4z KX G.T.g G.T.b G.T.builtins G.T.nolimit hg hobj hints (z0s hlen hn2) hr hF hb (λ H hO hS=>hsp w H a ns hlen (e1f hlay) hO hS) λ H e s'=>hCX w H s₁ e s') λ r s' hq=>?_);obtain⟨rfl,h2,h3,h4⟩:=hq;exact⟨.inl (nx2 (.bool true) (.bool true) ([]) rfl (λ _=>rfl) (.bool true) (Att.d3s l _) λ _=>⟨List.Pairwise.nil,λ _ hm=>(nomatch hm)⟩),h2,h3,h4⟩
end My
namespace My
open PySem PySem.Spec PyProof.Rows L2
mutual
inductive Dt (K:W.Frag) (H:Hp):V->PyData->Prop where
 | non:Dt K H .non .none
 | bl (b:Bool):Dt K H (.bl b) (.bool b)
 | int (i:Int):Dt K H (.int i) (.int i)
 | str (x:Str):Dt K H (.str x) (.str x)
 | lst {a:Addr} {xs:List V} {ds:List PyData} (h:SqL K H a xs) (r:Dts K H xs ds):Dt K H (.ref a) (.list ds)
 | tup {a:Addr} {xs:List V} {ds:List PyData} (h:SqT K H a xs) (r:Dts K H xs ds):Dt K H (.ref a) (.tuple ds)
inductive Dts (K:W.Frag) (H:Hp):List V->List PyData->Prop where
 | nil:Dts K H [] []
 | cons {x:V} {d:PyData} {xs:List V} {ds:List PyData} (h:Dt K H x d) (r:Dts K H xs ds):Dts K H (x::xs) (d::ds)
end
section
variable {X:Cx} {pins:List (Addr×Obj)} {σ:L2.St} {H:Hp} {s:Shared}
mutual
theorem Dt.reads (I:Inv X pins σ H s) {v:V} {d:PyData} (h:Dt X.K H v d) {u:Value} (r:a3c v u):∃ as,Reads s.heap u d as:=by
 cases h with
 | non=>cases r;exact⟨_,.none⟩
 | bl b=>cases r;exact⟨_,.bool b⟩
 | int i=>obtain⟨t,rfl⟩:=r;exact⟨_,.int i t⟩
 | str x=>obtain⟨t,rfl⟩:=r;exact⟨_,.str x t⟩
 | lst h q =>
  cases r;obtain⟨its,rv,⟨o,n,e,c,_,dd⟩,_⟩:=I.list h;obtain⟨as,z⟩:=Dts.reads I q rv;exact⟨_,.list e c dd (by simpa using z)⟩
 | tup h q =>
  cases r;obtain⟨its,rv,⟨o,e,c,n,dd⟩,_⟩:=I.tuple h;obtain⟨as,z⟩:=Dts.reads I q rv;exact⟨_,.tuple e c dd (by simpa using z)⟩
theorem Dts.reads (I:Inv X pins σ H s) {vs:List V} {ds:List PyData} (h:Dts X.K H vs ds) {us:List Value} (r:a3b vs us):∃ as,ReadsAll s.heap us ds as:=by
 cases h with
 | nil=>cases r;exact⟨_,.nil⟩
 | cons h q =>
  cases r with
  | cons r1 r2 =>
   obtain⟨as,z⟩:=Dt.reads I h r1;obtain⟨bs,y⟩:=Dts.reads I q r2;exact⟨_,.cons z y⟩
end
end
section
variable {X:Cx}
def e8m (K:W.Frag):R2:=λ x y H Q=>∃ da db,Dt K H x da/\Dt K H y db/\SeqAt.shaped da=true/\SeqAt.shaped db=true/\Q (.bl (PyData.eqv da db)) H
def e7l (K:W.Frag):R2:=λ x y H Q=>∃ da db,Dt K H x da/\Dt K H y db/\SeqAt.shaped da=true/\SeqAt.shaped db=true/\Q (.bl (!PyData.eqv da db)) H
theorem e3t (hu:X.A.units+64 < cLine):OpR X (compareOp .Eq) (e8m X.K):=by
 intro pins s σ H x y v u Q I rx ry h;obtain⟨da,db,ha,hb,sa,sb,q⟩:=h;obtain⟨as,ra⟩:=ha.reads I rx;obtain⟨bs,rb⟩:=hb.reads I ry;exact SeqAt.compareEq_shaped ra rb sa sb hu (nx0 (.bl _) H I rfl q)
theorem d7p (hu:X.A.units+64 < cLine):OpR X (compareOp .NotEq) (e7l X.K):=by
 intro pins s σ H x y v u Q I rx ry h;obtain⟨da,db,ha,hb,sa,sb,q⟩:=h;obtain⟨as,ra⟩:=ha.reads I rx;obtain⟨bs,rb⟩:=hb.reads I ry;exact SeqAt.compareNe_shaped ra rb sa sb hu (nx0 (.bl _) H I rfl q)
end
theorem b1g (x:a3m P w H h a o):∃ ob,h.get? a=some ob:=by
 cases o with
 | lst xs=>obtain⟨_,_,_,_,e⟩:=x;exact⟨_,e⟩
 | tup xs=>obtain⟨_,_,_,ob,e,_⟩:=x;exact⟨_,e⟩
 | dK kvs=>obtain⟨_,_,_,_,o,_,_,e,_⟩:=x;exact⟨_,e⟩
 | dT kvs=>obtain⟨_,_,_,_,o,_,_,e,_⟩:=x;exact⟨_,e⟩
 | set S n=>obtain⟨o,_,_,_,e,_⟩:=x;exact⟨_,e⟩
 | ins C dx fs=>obtain⟨_,_,_,e,_⟩:=x;exact⟨_,e⟩
 | own y=>exact x
 | xd fs=>obtain⟨_,⟨_,_,_,e,_⟩,_⟩:=x;exact⟨_,e⟩
 | rng lo hi=>obtain⟨_,_,_,e⟩:=x;exact⟨_,e⟩
 | frz ob u=>obtain⟨e,_⟩:=x;exact⟨_,e⟩
 | tbl ps=>exact⟨_,(show h.get? a=some _ from x)⟩
 | met f y=>exact⟨_,(show h.get? a=some _ from x)⟩
 | ext φ=>obtain⟨_,e,_⟩:=x;exact e
section
variable {X:Cx} {pins:List (Addr×Obj)} {σ:L2.St} {H:Hp} {s:Shared}
theorem a3e (I:Inv X pins σ H s) (h:s.heap.get? D=none):H D=none:=by
 cases q:H D with
 | none=>rfl
 | some u =>
  obtain⟨ob,e⟩:=b1g (I.hok D u q);rw[h] at e;cases e
end
def e4m (X:Cx) (scope:Scope) (x:Str) (elt:Expr) (H:Hp) (v y:V):Prop :=
 ∀ (pins:List (Addr×Obj)) (σ:L2.St) (s s₃:Shared) (C:Addr) (m₃:Str->Option Value) (u:Value) (E':Value->Shared->Prop),Inv X pins σ H s->s.heap.objs.size<=C->a3c v u->s₃.heap.Ns C m₃->m₃ x=some u ->
  (∀ b o,H b≠none->s.heap.get? b=some o->s₃.heap.get? b=some o)->(∀ b o,X.base.get? b=some o->s₃.heap.get? b=some o) ->
  wpAny (model X.prog X.w) X.A (eval elt (compEnvC scope [] C X.env)) (λ z s₄=>a3c y z/\Keeps s₃ s₄) E' s₃
theorem a9e:∀ {xs:List V} {us:List Value} {i:Nat} {u:Value},a3b xs us->us[i]?=some u->∃ x,xs[i]?=some x/\a3c x u
 | _,_,_,_,.nil,e=>by simp at e
 | _,_,0,_,.cons r _,e=>by simp at e;subst e;exact⟨_,rfl,r⟩
 | _,_,i+1,u,.cons _ t,e=>by
  obtain⟨x,h1,h2⟩:=a9e (i:=i) (u:=u) t (by simpa using e);exact⟨x,by simpa using h1,h2⟩
def d8n (o:Obj):Option Value:=match o.data with
 | .fields vs=>vs[2]?
 | _=>none
abbrev c5t (a b:Obj):Prop:=a.dict=b.dict/\d8n a=d8n b
inductive a4c {α:Type}:Sem α->Prop
 | pure (a:α):a4c (.pure a)
 | raise (e:Value):a4c (.raise e)
 | stop (x:String):a4c (.unsupported x)
 | rule {t k}:(∀ u,a4c (k u))->a4c (.rule t k)
 | at {p k}:(∀ u,a4c (k u))->a4c (.at p k)
 | load {a p k}:(∀ o,a4c (k o))->a4c (.load a p k)
 | update {a p f k}:(∀ o:Obj,c5t (f o) o/\(o.isFreed=false->(f o).isFreed=false))->(∀ u,a4c (k u))->a4c (.update a p f k)
 | alloc {o k}:(∀ a,a4c (k a))->a4c (.alloc o k)
 | point {l k}:(∀ u,a4c (k u))->a4c (.point l k)
 | fresh {k}:(∀ u,a4c (k u))->a4c (.fresh k)
 | stack {k}:(∀ u,a4c (k u))->a4c (.stack k)
theorem a4c.bind {f:α->Sem β} (h:a4c t) (hf:∀ a,a4c (f a)):a4c (t>>=f):=by
 induction h with
 | pure a=>exact hf a
 | raise e=>exact .raise e
 | stop x=>exact .stop x
 | rule _ ih=>exact .rule ih
 | «at» _ ih=>exact .at ih
 | load _ ih=>exact .load ih
 | update h _ ih=>exact .update h ih
 | alloc _ ih=>exact .alloc ih
 | point _ ih=>exact .point ih
 | fresh _ ih=>exact .fresh ih
 | stack _ ih=>exact .stack ih
def DK (h h':Heap):Prop:=∀ b o,h.get? b=some o->∃ o',h'.get? b=some o'/\c5t o' o
theorem DK.refl (h:Heap):DK h h:=λ _ o e=>⟨o,e,rfl,rfl⟩
theorem DK.trans (x:DK h1 h2) (y:DK h2 h3):DK h1 h3:=λ b o e=>let ⟨o1,e1,d1⟩:=x b o e;let ⟨o2,e2,d2⟩:=y b o1 e1;⟨o2,e2,d2.1.trans d1.1,d2.2.trans d1.2⟩
theorem DK.upd {h:Heap} {a:Addr} {f:Obj->Obj} (hf:∀ o:Obj,c5t (f o) o/\(o.isFreed=false->(f o).isFreed=false)):DK h (h.update a f):=λ b o e=>by
 by_cases q:b=a
 ·subst q;exact⟨f o,z2l _ e ((hf o).2 (Heap.get?_some_iff.mp e).2),(hf o).1⟩
 ·exact⟨o,(Heap.get?_update_ne _ _ _ _ q).trans e,rfl,rfl⟩
theorem e2b {α:Type} {M:Model} {Γ:PySem.Ctx} {t:Sem α} (c:a4c t):∀ {Q:α->Pos->Shared->Prop} {E:Value->Pos->Shared->Prop} {p:Pos} {s:Shared},
  Sem.wp M Γ t Q E p s->Sem.wp M Γ t (λ a p' s'=>Q a p' s'/\DK s.heap s'.heap) (λ e p' s'=>E e p' s'/\DK s.heap s'.heap) p s:=by
 induction c with
 | pure a=>intro Q E p s h;exact⟨h,.refl _⟩
 | raise e=>intro Q E p s h;exact⟨h,.refl _⟩
 | stop x=>intro Q E p s h;exact h
 | rule _ ih=>intro Q E p s h;exact ih () h
 | «at» _ ih=>intro Q E p s h;exact ih () h
 | load _ ih=>intro Q E p s h;obtain⟨o,e,h⟩:=h;exact⟨o,e,ih o h⟩
 | update hf _ ih =>
  intro Q E p s h;obtain⟨e,h⟩:=h;refine⟨e,?_⟩;exact Sem.wp_mono M Γ _ (λ a p' s' ⟨q,d⟩=>⟨q,DK.trans (DK.upd hf) d⟩) (λ e p' s' ⟨q,d⟩=>⟨q,DK.trans (DK.upd hf) d⟩) _ _ (ih () h)
 | alloc _ ih=>intro Q E p s h;exact Sem.wp_mono M Γ _ (λ a p' s' ⟨q,d⟩=>⟨q,DK.trans (λ b o e=>⟨o,z0k _ e,rfl,rfl⟩) d⟩) (λ e p' s' ⟨q,d⟩=>⟨q,DK.trans (λ b o e=>⟨o,z0k _ e,rfl,rfl⟩) d⟩) _ _ (ih _ h)
 | point _ ih=>intro Q E p s h;exact ih () h
 | fresh _ ih=>intro Q E p s h;exact ih _ h
 | stack _ ih=>intro Q E p s h;exact ih _ h
theorem a2n {α:Type} {M:Model} {A:Around} {t:Sem α} {Q:α->Shared->Prop} {E:Value->Shared->Prop} {s:Shared} (c:a4c t) (h:wpAny M A t Q E s) :
  wpAny M A t (λ a s'=>Q a s'/\DK s.heap s'.heap) (λ e s'=>E e s'/\DK s.heap s'.heap) s:=λ Γ p hΓ=>e2b c (h Γ p hΓ)
theorem b5k (a:Addr):a4c (load a):=.load λ _=>.pure _
theorem b8v (v:Value):a4c (fieldsOf v):=by
 unfold fieldsOf;cases v<;>first | exact .stop _ | skip
 refine a4c.bind (b5k _) λ o=>?_
 split<;>first | exact .stop _ | exact .pure _
theorem a9o (v:Value) (i:Nat):a4c (field v i):=by
 unfold field;refine a4c.bind (b8v _) λ vs=>?_
 split<;>first | exact .stop _ | exact .pure _
theorem b0g {i:Nat} (x:Value) (hi:i≠2) (o:Obj):c5t (Obj.mapFields (·.setIfInBounds i x) o) o/\(o.isFreed=false->(Obj.mapFields (·.setIfInBounds i x) o).isFreed=false):=by
 obtain⟨c,d,da,sl⟩:=o;cases da<;>first | exact⟨⟨rfl,rfl⟩,λ h=>h⟩ | exact⟨⟨rfl,Array.getElem?_setIfInBounds_ne hi⟩,λ h=>h⟩
theorem a7w (v:Value) (i:Nat) (x:Value) (hi:i≠2:=by decide):a4c (setField v i x):=by
 unfold setField;cases v<;>first | exact .stop _ | skip
 show a4c (updateField _ _ _);unfold updateField;refine a4c.bind (b5k _) λ o=>?_
 split
 ·split
  ·exact .update (b0g _ hi) λ _=>.pure _
  ·exact .stop _
 ·exact .stop _
theorem a3y (e:Value) (f:Option Addr):a4c (setFlight e f):=by
 unfold setFlight;refine a4c.bind (a9o _ _) λ tb=>?_
 split
 ·exact a7w _ _ _
 ·exact .pure _
theorem c8p:a4c underTheClaimsCaller:=.stack λ _=>.pure _
theorem b7t:∀ l:List Env,a4c (readyFrames l)
 | []=>.pure _
 | env::outer=>by
  unfold readyFrames;split
  ·refine a4c.bind (b5k _) λ o=>?_
   split
   ·exact .pure _
   ·refine a4c.bind ?_ λ imp=>a4c.bind ?_ λ back=>a4c.bind ?_ λ _=>b7t outer
    ·unfold behindIsImport;split
     ·exact .pure _
     ·split
      ·exact .pure _
      ·exact a4c.bind (a9o _ _) λ _=>.pure _
    ·unfold keptBack;split
     ·split
      ·exact .pure _
      ·exact a4c.bind c8p λ _=>.pure _
     ·exact .pure _
    ·refine .update (λ o=>⟨⟨rfl,rfl⟩,λ h=>?_⟩) λ _=>.pure _
     obtain⟨c,d,da,sl⟩:=o;cases da<;>exact h
  ·exact .stop _
theorem c1h (env:Env):a4c (PySem.frameOf env):=by
 unfold PySem.frameOf;refine a4c.bind (.stack λ _=>.pure _) λ l=>a4c.bind ?_ λ r=>?_
 ·unfold frameObject;split
  ·exact .pure _
  ·exact a4c.bind (b7t _) λ _=>.pure _
 ·split
  ·exact .pure _
  ·exact .stop _
theorem c1e (ty:String) (da:Data):a4c (newObjAsIs (.type ty) da):=.alloc λ _=>.pure _
theorem b6c (ty:String) (vs:List Value):a4c (newFields ty vs):=by
 unfold newFields newObj;dsimp only;split
 ·exact a4c.bind (.stop _) λ _=>c1e _ _
 ·exact c1e _ _
theorem c0b (a b c d e:Value) (pl:List Value):a4c (EntryCells.newEntry a b c d e pl):=b6c _ _
theorem c8f (f:Addr) (b:Bool):a4c (entryPlaceOf f b):=by
 unfold entryPlaceOf;refine a4c.bind (.stack λ _=>.pure _) λ acts=>?_
 split<;>exact .pure _
theorem a4w (e:Value) (env:Env):a4c (noteFrame e env):=by
 unfold noteFrame;have last:∀ (f:Addr) (head:Value),a4c (do setField e 1 (<- EntryCells.newEntry head (<- PySem.frameOf env) .none (rawInt f) .none (<- entryPlaceOf f (head != .none)))):=λ f head =>
  a4c.bind (c1h _) λ a=>a4c.bind (c8f _ _) λ pl=>a4c.bind (c0b _ _ _ _ _ _) λ b=>a7w _ _ _
 split
 ·refine a4c.bind (a9o _ _) λ head=>?_
  split
  ·refine a4c.bind (a9o _ _) λ x=>?_
   split
   ·exact .pure _
   ·exact a4c.bind (a7w _ _ _) λ _=>last _ _
  ·exact last _ _
 ·exact .stop _
theorem a6p (e:Value) (env:Env):a4c (leaving env e):=a4c.bind (a4w _ _) λ _=>a3y _ _
def CXW (P:Program) (w:World):CXT:=λ outer H s E e s' =>
 ∃ (ea:Addr) (cls a0:Value) (B:Heap) (H':Hp) (d:Option Addr),e=.ref ea/\s'.os=s.os/\AllBare s'.gens/\Un (frs outer) [] H H' s.heap s'.heap/\HOk P w H' s'.heap/\Heap.FlyingW B outer ea cls a0 s'.heap /\
  (∀ b o,s'.heap.get? b=some o->(s.heap.get? b≠none\/H' b≠none)->b ∉ frs outer->B.get? b=some o)/\H' ea=none/\s.heap.get? ea=none/\(∃ o,s'.heap.get? ea=some o/\o.dict=d/\(d8n o=some .none\/∀ d',E cls d' H'))/\E cls d H'
section
variable {X:Cx} {pins:List (Addr×Obj)} {σ:L2.St} {H H':Hp} {s:Shared} {h1 h2 B:Heap}
theorem c3g (I:Inv X pins σ H s):∀ b∈frs X.stack,∃ o,s.heap.get? b=some o:=λ b hb=>let ⟨_,o,e,_⟩:=I.stack.mem hb;⟨o,e⟩
theorem c7x (I:Inv X pins σ H s) (un:Un (frs X.stack) [] H H' s.heap h1) (hok:HOk X.prog X.w H' h1) (bk:∀ b o,h1.get? b=some o->(s.heap.get? b≠none\/H' b≠none)->b ∉ frs X.stack->B.get? b=some o)
  (hst:∀ b o,B.get? b=some o->h2.get? b=some o) (hsm:h1.UpToSlots h2) (hfn:∀ b∈frs X.stack,∃ o,h1.get? b=some o/\∀ vs,o.data≠.fields vs) :
  Un (frs X.stack) [] H H' s.heap h2/\HOk X.prog X.w H' h2/\(∀ b o,h2.get? b=some o->(s.heap.get? b≠none\/H' b≠none)->b ∉ frs X.stack->B.get? b=some o)/\∀ b∈frs X.stack,H' b=none:=by
 have nf:∀ b∈frs X.stack,H' b=none:=λ b hb=>by
  obtain⟨o,e⟩:=c3g I b hb;exact un.free b o e (I.stkFree b hb) (by simp)
 have keep:∀ b o,h1.get? b=some o->(s.heap.get? b≠none\/H' b≠none)->b ∉ frs X.stack->h2.get? b=some o:=λ b o e k n=>hst b o (bk b o e k n)
 refine⟨⟨λ b o e n hb _=>?_,λ b o e n hb _=>?_,un.free,λ b o e _=>?_,un.tups,un.frzs,un.tbls⟩,λ a o e=>?_,λ b o e k n=>?_,nf⟩
 ·exact keep b o (un.keep b o e n hb (by simp)) (.inl (by rw[e];simp)) hb
 ·obtain⟨sl,e1⟩:=un.slot b o e n hb (by simp);obtain⟨o',e2,hd⟩:=hfn b hb;rw[e1] at e2;cases e2;obtain⟨sl',e3⟩:=hsm b _ e1 hd;exact⟨sl',e3⟩
 ·obtain⟨o',e1⟩:=un.there b o e (by simp);by_cases hb:b∈frs X.stack
  ·obtain⟨o2,e2,hd⟩:=hfn b hb;obtain⟨sl',e3⟩:=hsm b _ e2 hd;exact⟨_,e3⟩
  ·exact⟨o',keep b o' e1 (.inl (by rw[e];simp)) hb⟩
 ·refine(hok a o e).stay (λ b u hb q=>keep b u q (.inr ?_) (λ z=>?_)) (λ _ q=>q) λ _ _ q=>q
  ·rcases hb with z | z
   ·rw[z,e];simp
   ·rw[z];simp
  ·have q':=nf b z;rcases hb with z | z
   ·rw[z,e] at q';cases q'
   ·rw[z] at q';cases q'
 ·have there1:∃ o',h1.get? b=some o':=by
   rcases k with k | k
   ·cases q:s.heap.get? b with
    | none=>exact(k q).elim
    | some o0=>exact un.there b o0 q (by simp)
   ·cases q:H' b with
    | none=>exact(k q).elim
    | some u=>exact b1g (hok b u q)
  obtain⟨o',e1⟩:=there1;have e2:=bk b o' e1 k n;have e3:=hst b o' e2;rw[e] at e3;cases e3;exact e2
end
section
variable {P:Program} {w:World} {K:W.Frag} {mg:Str->Option Value} {base:Heap} {N:List Str} {qual:Str} {scope:Scope} {f:Addr} {cd:Value} {A:Around} {outer:List Env} {s₀:Shared} {H₀:Hp} {E:XK}
 {pins:List (Addr×Obj)} {σ:L2.St} {H H':Hp} {s:Shared}
theorem c2c {ea:Addr} {d:Option Addr} {cls a0:Value} {B h1 h2:Heap} {s1:Shared} (I:Inv (b3s (CXW P w) P w K mg base N qual scope f cd A outer s₀ H₀ E) pins σ H s) (hos:s1.os=s.os) (hb:AllBare s1.gens)
  (un:Un (frs (envOfC qual scope s₀.heap.objs.size f cd::outer)) [] H H' s.heap h1) (hok:HOk P w H' h1)
  (bk:∀ b o,h1.get? b=some o->(s.heap.get? b≠none\/H' b≠none)->b ∉ frs (envOfC qual scope s₀.heap.objs.size f cd::outer)->B.get? b=some o)
  (fl:Heap.FlyingW B outer ea cls a0 h2) (hsm:h1.UpToSlots h2) (hfn:∀ b∈frs (envOfC qual scope s₀.heap.objs.size f cd::outer),∃ o,h1.get? b=some o/\∀ vs,o.data≠.fields vs)
  (n1:H' ea=none) (n2:s.heap.get? ea=none) (dd:∃ o,h2.get? ea=some o/\o.dict=d/\(d8n o=some .none\/∀ d',E cls d' H')) (hE:E cls d H'):CXW P w outer H₀ s₀ E (.ref ea) {s1 with heap:=h2}:=by
 obtain⟨un2,hok2,bk2,nf⟩:=c7x I un hok bk fl.1 hsm hfn;have sub:∀ b∈frs outer,b∈frs (envOfC qual scope s₀.heap.objs.size f cd::outer):=λ b hb=>by
  obtain⟨env,he,hf⟩:=z27.mp hb;exact z27.mpr ⟨env,z0p _ he,hf⟩
 have notin:∀ b o,s₀.heap.get? b=some o->b ∉ frs outer->b ∉ frs (envOfC qual scope s₀.heap.objs.size f cd::outer):=λ b o e hb hm=>by
  rcases z06.mp (I.stkSub b hm) with z | z
  ·exact absurd (z0w (z09 e) (z ▸ I.ok.above)) (z1q _)
  ·exact hb z
 refine nx3 ea cls (nx33 a0 B H' d rfl (hos.trans I.os) hb ⟨λ b o e n hb _=>?_,λ b o e n hb _=>?_,λ b o e n _=>?_,λ b o e _=>?_,λ b xs e=>un2.tups b xs (I.base.tups b xs e),λ b o u e=>un2.frzs b o u (I.base.frzs b o u e),λ b ps e=>?_⟩ hok2 fl (λ b o e k hb=>?_) n1 ⟨?_,dd,hE⟩)
 ·exact un2.keep b o (I.base.keep b o e n hb (by simp[b3s])) (I.base.free b o e n (by simp[b3s])) (notin b o e hb) (by simp)
 ·obtain⟨sl,e1⟩:=I.base.slot b o e n hb (by simp[b3s]);obtain⟨sl',e2⟩:=un2.slot b _ e1 (I.base.free b o e n (by simp[b3s])) (sub b hb) (by simp);exact⟨sl',e2⟩
 ·obtain⟨o',e1⟩:=I.base.there b o e (by simp[b3s]);exact un2.free b o' e1 (I.base.free b o e n (by simp[b3s])) (by simp)
 ·obtain⟨o',e1⟩:=I.base.there b o e (by simp[b3s]);exact un2.there b o' e1 (by simp)
 ·obtain⟨m1,e1⟩:=I.base.tbls b ps e;obtain⟨m2,e2⟩:=un2.tbls b _ e1;exact⟨m1++m2,by rw[e2,Array.append_assoc]⟩
 ·rcases k with k | k
  ·cases q:s₀.heap.get? b with
   | none=>exact(k q).elim
   | some o0 =>
    obtain⟨o',e1⟩:=I.base.there b o0 q (by simp[b3s]);exact bk2 b o e (.inl (by rw[e1];simp)) (notin b o0 q hb)
  ·exact bk2 b o e (.inr k) λ z=>k (nf b z)
 ·cases q:s₀.heap.get? ea with
  | none=>rfl
  | some o0 =>
   obtain⟨o',e1⟩:=I.base.there ea o0 q (by simp[b3s]);rw[n2] at e1;cases e1
theorem c1n {ea:Addr} {cls:Value} {vs:List Value} {h1:Heap} (I:Inv (b3s (CXW P w) P w K mg base N qual scope f cd A outer s₀ H₀ E) pins σ H s) (hm:Heap.MadeExcOf s.heap h1 ea cls vs) (hE:E cls none H) :
  (b3s (CXW P w) P w K mg base N qual scope f cd A outer s₀ H₀ E).xe (.ref ea) {s with heap:=h1}:=by
 have hin:∀ env∈(envOfC qual scope s₀.heap.objs.size f cd::outer),∀ b,env.frame=some b->b∈frs (envOfC qual scope s₀.heap.objs.size f cd::outer):=λ env he b hb=>z27.mpr ⟨env,he,hb⟩
 have hl:=W.funFrames_hide I.stack hin;refine z0j (a2n (a6p _ _) (wpAny_leaves_madeW (Q:=λ _ s'=>∃ h2 t,s'={s with heap:=h2}/\Heap.FlyingW (W.hideAll s.heap (frs (envOfC qual scope s₀.heap.objs.size f cd::outer))) outer ea cls (.ref t) h2/\h1.UpToSlots h2)
  (base:=W.hideAll s.heap (frs (envOfC qual scope s₀.heap.objs.size f cd::outer))) (h:=s.heap) I.ok.frames rfl (λ b o q=>z4u _ q) hl hm λ h2 t x1 _ _ x4=> nx0 h2 t rfl x1 x4)) (λ _ s' ⟨⟨h2,t,e,x1,x4⟩,dk⟩=>?_) λ _ _ z=>z.1
 subst e;obtain⟨t',he',_⟩:=hm.there;refine c2c (s1:={s with heap:=h1}) I rfl I.bare (Un.kept λ b u q=>hm.keeps b u q) (I.hok.kept λ b u q=>hm.keeps b u q) (λ b o e k n=>?_) x1 x4 (λ b hb=>?_) (a3e I hm.new) hm.new (let ⟨o',q1,q2⟩:=dk ea _ he';⟨o',q1,q2.1,.inl (q2.2.trans rfl)⟩) hE
 ·have e1:∃ o',s.heap.get? b=some o':=by
   rcases k with k | k
   ·cases q:s.heap.get? b with
    | none=>exact(k q).elim
    | some o0=>exact⟨o0,rfl⟩
   ·cases q:H b with
    | none=>exact(k q).elim
    | some u=>exact b1g (I.hok b u q)
  obtain⟨o',e1⟩:=e1;have e2:=hm.keeps b o' e1;rw[e] at e2;cases e2;exact z4q _ e1 n
 ·obtain⟨_,o,e,hd⟩:=I.stack.mem hb;exact⟨o,hm.keeps b o e,hd⟩
theorem d5e {E':XK} (hE:∀ cls d H',E' cls d H'->E cls d H'):c1c (CXW P w) (b3s (CXW P w) P w K mg base N qual scope f cd A outer s₀ H₀ E) E':=by
 intro pins σ H s e s' I h;obtain⟨ea,cls,a0,B,H',d,rfl,os,bare,un,hok,fl,bk,n1,n2,⟨o,ho,hd⟩,hw⟩:=h;refine z0j (a2n (a6p _ _) (wpAny_leaves_onW (Q:=λ _ s''=>∃ h2,s''={s' with heap:=h2}/\Heap.FlyingW B outer ea cls a0 h2/\s'.heap.UpToSlots h2) I.ok.frames rfl fl λ h2 x1 x2=>⟨h2,rfl,x1,x2⟩)) (λ _ s'' ⟨⟨h2,e,x1,x2⟩,dk⟩=>?_) λ _ _ z=>z.1
 subst e;obtain⟨o2,ho2,hd2⟩:=dk ea o ho;exact c2c (s1:=s') I os bare un hok bk x1 x2 (λ b hb=>(fl.2.2.1.mem hb).2) n1 n2 ⟨o2,ho2,hd2.1.trans hd.1,hd.2.imp (λ q=>hd2.2.trans q) λ q d'=>hE _ _ _ (q d')⟩ (hE _ _ _ hw)
theorem b0z {x qual:Str} {st:Stmt} {f:Addr} {fd:FuncData} {N ps:List Str} {k:Nat} {sp:Sp} (F:Fun K x qual st f fd) (S:a0s N ps (a0h st)) (len:∀ vs H Q E,sp vs H Q E->vs.length=ps.length)
  (hbody:∀ (cdv:Value) (A:Around) (outer:List Env) (s:Shared) (H:Hp) (vs:List V) (Q:VK) (E:XK),Room k (A.deeper (envOfC qual (a0h st) s.heap.objs.size f cdv))->sp vs H Q E ->
   ∃ t,PSs (b3s (CXW P w) P w K mg base N qual (a0h st) f cdv A outer s H E) (a3t st) t/\t {nx:=λ _ H'=>Q .non H',rt:=Q} (start N vs) H):b0w P w K mg base (CXW P w) (k+1) f fd ps sp:=by
 obtain⟨oc,od,kV,doc,pm,an,cdv,ct,osl,rfl,lk,hcd⟩:=F.ex;exact e4i lk hcd S len λ A outer s H vs Q E hr hsp=>hbody cdv A outer s H vs Q E hr hsp
structure e4c (K:W.Frag) (mg:Str->Option Value) (x:Str) (C:Addr):Prop where
 bound:mg x=some (.ref C)
 ok:W.excIn K C [.type "ValueError",.type "Exception",.type "BaseException",.type "object"] "ValueError.__new__"=true
end
theorem d2o {K:W.Frag} {h:Heap} {C:Addr} {bmB:List Value} {nid:String} (X:K.In h) (q:W.excIn K C bmB nid=true) :
  ∃ bm N nm qn bs hd sn sub ab col dd k0 k1 k2 k3 k5,∃ mN:Str->Option Value,h.get? C=some (excClassObj nm qn C N bs bm hd sn sub ab col dd k0 k1 k2 k3 k5 nid)/\h.Ns N mN/\mN "__init__"=none/\OwnTail h bmB bm:=by
 unfold W.excIn at q;split at q
 ·next dd cdat slots lk =>
  split at q
  ·next C2 rest a0 a1 a2 a3 n a5 em es =>
   simp only [z13,z2c,z4m] at q;obtain⟨⟨⟨⟨⟨e1,e2⟩,e3⟩,e4⟩,e5⟩,e6⟩:=q;subst e1 e2;obtain⟨c1,c2,c3,c4,c5,c6,c7,c8,c9,c10,c11⟩:=cdat;dsimp only at em e3 e5 e6;subst em e3;obtain⟨lst⟩:=slots;have el:lst=[a0,a1,a2,a3,some (.builtin n),a5]:=es;subst el;refine nx10 rest _ _ _ _ _ _ (nx10 _ _ _ dd a0 a1 a2 (nx29 a3 a5 (h.nsMap c4) (X _ _ lk) ?_ ⟨?_,W.tail_of_in X e4⟩))
   ·exact .of_isNs (W.isNs_of_in X e5)
   ·exact W.nsMap_none_of_in X e5 e6
  ·cases q
 ·cases q
section
variable {P:Program} {w:World} {K:W.Frag} {mg:Str->Option Value} {base:Heap} {N:List Str} {qual:Str} {scope:Scope} {f:Addr} {cd:Value} {A:Around} {outer:List Env} {s₀:Shared} {H₀:Hp} {E:XK}
theorem c7d {x:Str} {C:Addr} {e₀:Expr} {te:TE} {np cpos pos:Pos} (T:e4c K mg x C) (hg:Gl (b3s (CXW P w) P w K mg base N qual scope f cd A outer s₀ H₀ E) x)
  (he:PE (b3s (CXW P w) P w K mg base N qual scope f cd A outer s₀ H₀ E) e₀ te) (hd:(x == ("__debug__":Str))=false:=by decide)
  (ht:backTo cpos (starEach [e₀] (envOfC qual scope s₀.heap.objs.size f cd))=[(false,eval e₀ (envOfC qual scope s₀.heap.objs.size f cd))]:=by rfl) :
  PS (b3s (CXW P w) P w K mg base N qual scope f cd A outer s₀ H₀ E) (.Raise (some (.Call (.Name x np) [e₀] [] cpos)) none pos) (λ _ σ H=>te σ H λ _ H1=>E (.ref C) none H1):=by
 constructor;intro pins s σ H D I h;obtain⟨bm,Nn,nm,qn,bs,hdc,sn,sub,ab,col,dd,k0,k1,k2,k3,k5,mN,hC,hN,hni,TL⟩:=d2o I.ok.mod.kin T.ok;refine wpAny_Raise_call_subT (C:=C) (nm:=nm) (q:=qn) (N:=Nn) (bs:=bs) (bm:=bm) (hdct:=hdc) (sn:=sn) (sub:=sub) (ab:=ab) (col:=col) (dd:=dd) (k0:=k0) (k1:=k1) (k2:=k2) (k3:=k3) (k5:=k5)
  z4y (mN:=mN) (TL.hasType z4y.hasBase) (I.ok.hd rfl) ?_ hni (a9g I hg T.bound ⟨rfl,?_⟩ hd)
 ·show (backTo cpos (starEach [e₀] (envOfC qual scope s₀.heap.objs.size f cd))).any (·.1)=false;rw[ht];rfl
 ·show wpAny _ _ (evalArgs (.ref C) true (backTo cpos (starEach [e₀] (envOfC qual scope s₀.heap.objs.size f cd))) []) _ _ _;rw[ht];refine z4w (z3r (thn (he pins s σ H _ I h) λ u s1 ⟨v,H1,I1,r1,q1⟩=>z3u ?_));refine⟨rfl,(by show 1<=sizeLine;decide),I1.bk _ _ hC,hN.keeps I1.bk,TL.keeps I1.bk,λ h' ea hm=>c1n I1 hm q1⟩
end
section
variable {X:Cx}
abbrev b0d (X:Cx) (ea:Addr):Cx:={X with A:=X.A.mark (some (.ref ea)),calm:=false,xe:=λ _ _=>False}
theorem b3m {pins:List (Addr×Obj)} {σ:L2.St} {H:Hp} {s:Shared} (I:Inv X pins σ H s) (ea:Addr):Inv (b0d X ea) pins σ H s :=
 ⟨⟨I.ok.mod,I.ok.kind,I.ok.glob,I.ok.blt,I.ok.above,I.ok.inj,I.ok.has,I.ok.cab,(λ z=>nomatch z),I.ok.frames,I.ok.stk,I.ok.exf,I.ok.bs,I.ok.bsz,I.ok.noex,I.ok.exfs,I.ok.funs,I.ok.frf⟩,I.os,I.bare,I.base,I.loc,I.cell,I.free,I.freeC,I.pin,I.hok,I.len⟩
theorem a7c {pins:List (Addr×Obj)} {σ:L2.St} {H:Hp} {s:Shared} {ea:Addr} (ok:X.Ok) (I:Inv (b0d X ea) pins σ H s):Inv X pins σ H s :=
 ⟨ok,I.os,I.bare,I.base,I.loc,I.cell,I.free,I.freeC,I.pin,I.hok,I.len⟩
theorem d1n {pins:List (Addr×Obj)} {D:b9c} {fl:Flow} {s:Shared} {ea:Addr} (ok:X.Ok) (h:SP (b0d X ea) pins D fl s):SP X pins D fl s:=by
 cases fl with
 | next=>obtain⟨σ',H',I,q⟩:=h;exact nx12 σ' H' (a7c ok I) q
 | brk=>obtain⟨σ',H',I,q⟩:=h;exact nx12 σ' H' (a7c ok I) q
 | cont=>obtain⟨σ',H',I,q⟩:=h;exact nx12 σ' H' (a7c ok I) q
 | ret u=>obtain⟨v,σ',H',I,r,q⟩:=h;exact nx29 v σ' H' (a7c ok I) r q
end
section
variable {X:Cx}
theorem a3x:SlR X (λ x lo hi H Q=>∃ z:Str,x=.str z/\z.length<=sizeLine/\Q (.str (Txt.slice z lo hi)) H):=by
 intro pins s σ H x v vl vu lo hi sl Q I rx hs pl pu h;obtain⟨z,rfl,hz,q⟩:=h;obtain⟨t,rfl⟩:=rx;refine nx0 ("str") _ F.slot_str_getitem.lookup (z26 _ _ _) ?_;have fin:∀ lo hi,Q (.str (Txt.slice z lo hi)) H->(Txt.slice z lo hi).length<=sizeLine/\∀ (t':Tok) (k:Nat),EP X pins σ Q (.str (Txt.slice z lo hi) t') {s with toks:=k}:=λ lo hi q =>
  ⟨z0s (z3s z _ _) hz,λ t' k=> nx0 (.str _) H (I.tok _) ⟨_,rfl⟩ q⟩
 cases pl with
 | none =>
  cases pu with
  | none=>exact z55 (l:=none) (u:=none) (st:=none) hs rfl (post_val_or_str (fin _ _ q))
  | int j uj=>exact z55 (l:=none) (u:=some (j,uj)) (st:=none) hs rfl (post_val_or_str (fin _ _ q))
 | int i ui =>
  cases pu with
  | none=>exact z55 (l:=some (i,ui)) (u:=none) (st:=none) hs rfl (post_val_or_str (fin _ _ q))
  | int j uj=>exact z55 (l:=some (i,ui)) (u:=some (j,uj)) (st:=none) hs rfl (post_val_or_str (fin _ _ q))
theorem b1v:a8k X (.type "int") (λ xs H Q=>∃ (x:Str) (n:Int),xs=[V.str x]/\PySem.intText? x=some n/\x.length<=640/\Q (.int n) H):=by
 intro pins s σ H xs us Q I r h;obtain⟨x,n,rfl,hn,hl,q⟩:=h;obtain⟨u,rfl,t,rfl⟩:=a8l r;exact W.KIN.call_text hn hl (nx0 (.int n) H (I.tok _) ⟨_,rfl⟩ q)
theorem a8c:MtR X "str.startswith" (λ x xs H Q=>∃ z y:Str,x=.str z/\xs=[V.str y]/\Q (.bl (decide (0+y.length<=z.length) && Builtin.Str.subAt z y 0)) H):=by
 intro pins s σ H x xs v us Q I rx rv h;obtain⟨z,y,rfl,rfl,q⟩:=h;obtain⟨t,rfl⟩:=rx;obtain⟨u,rfl,t',rfl⟩:=a8l rv;exact call_gives z50 (z26 s z t) F.entry_str_startswith (F.args_str_startswith_2 _ _) (gives_str_startswith z y t t') (nx0 (.bl _) H I rfl q)
theorem b8i {σ:L2.St} (I:Inv X pins σ H s) (k:∀ b u,s.heap.get? b=some u->h'.get? b=some u) (hD:s.heap.get? D=none)
  (new:a3m X.prog X.w (upd H D o) h' D o):Inv X pins σ (upd H D o) {s with heap:=h',toks:=t'}:=by
 have nD:=a3e I hD;have neD:∀ b u,s.heap.get? b=some u->b≠D:=λ b u e z=>by rw[z,hD] at e;cases e
 refine I.un ⟨λ b u q _ _ _=>k b u q,λ b u q _ _ _=>⟨u.slots,k b u q⟩,λ b u q n _=>by rw[a0m (neD b u q)];exact n,λ b u q _=>⟨u,k b u q⟩,λ b xs q=>by rw[a0m (a0u q nD)];exact q,
  λ b u xs q=>by rw[a0m (a0u q nD)];exact q,λ b ps q=>⟨#[],by rw[a0m (a0u q nD),q];simp⟩⟩ λ b u e=>?_
 by_cases hb:b=D
 ·subst hb;rw[a0c] at e;cases e;exact new
 ·rw[a0m hb] at e;exact(I.hok b u e).stay (λ c v _ q=>k c v q) (λ c q=>by rw[a0m (a0u q nD)];exact q) λ c xs q=>by rw[a0m (a0u q nD)];exact q
theorem b7d {f:Nat->V}:∀ {cs:List Nat} {us zs:List Value},(us.length=cs.length)->(∀ (i:Nat) u,us[i]?=some u->∃ c t,cs[i]?=some c/\u=.str ⟨#[c]⟩ t)->Paired (λ u z=>∃ c,(∃ t,u=Value.str ⟨#[c]⟩ t)/\a3c (f c) z) us zs->a3b (cs.map f) zs
 | [],[],_,_,_,.nil=>.nil
 | [],_::_,_,h,_,_=>by simp at h
 | _::_,[],_,h,_,_=>by simp at h
 | c::cs,u::us,_,h,g,.cons ⟨c',⟨t',e'⟩,r⟩ q=>by
  obtain⟨c1,t1,e1,e2⟩:=g 0 u rfl;have e1':c=c1:=by simpa using e1
  subst e1';rw[e'] at e2;have e3:c'=c:=by
   injection e2 with e4 _;have e5:=z0e (λ x:Str=>x.cps.toList) e4;simpa using e5
  subst e3;exact .cons r (b7d (by simpa using h) (λ i u hu=>by simpa using g (i+1) u (by simpa using hu)) q)
theorem d5q {j:Nat} {x z:Str} {elt:Expr} {px pz:Pos} {scope:Scope} {pos:Pos} (hc:X.calm=true) (hj:X.N[j]?=some z) (hv:Vis X.env.scope z)
  (hfree:∀ q∈scope.names,q.2≠.free) (hcell:∀ q∈scope.names,q.2≠.cell) (hkind:scope.kind=.function)
  (hnames:∀ q∈scope.names,q.2=.local->scope.names.lookup q.1=some .local) (hx:scope.names.lookup x=some .local)
  (hd:(z == ("__debug__":Str))=false:=by decide) (hcd:(z == ("__classdict__":Str))=false:=by decide) :
  PE X (.ListComp elt [⟨.Name x px,.Name z pz,[],0⟩] scope pos) (λ σ H Q=>∃ (y:Str) (f:Nat->V),σ[j]?=some (some (.str y))/\y.length<=sizeLine/\(∀ c∈y.cps.toList,e4m X scope x elt H (.str ⟨#[c]⟩) (f c)) /\
   ∀ p,H p=none->Q (.ref p) (upd H p (.lst (y.cps.toList.map f)))):=by
 constructor;intro pins s σ H Q I h;obtain⟨y,f,hσ,hz,hel,q⟩:=h;refine wpAny_ListComp_free (cl:=[]) (λ _=>true) (λ u z=>∃ c,(∃ t,u=Value.str ⟨#[c]⟩ t)/\a3c (f c) z) (closureFor_none hfree) hcell hkind hnames hx
  (thn (d8d hj hv hd hcd pins s σ H (λ v H1=>v=.str y/\H1=H) I ⟨_,hσ,rfl,rfl⟩) λ v s1 ⟨vv,H1,I1,r1,e1,e2⟩=>?_) (by intro _;rfl)
 subst e1 e2;obtain⟨t,rfl⟩:=r1;refine wpAny_pyIter_str λ o St W st0=>?_
 have I2:Inv X pins σ H1 {s1 with heap:=s1.heap.push o}:=I1.kept (t':=s1.toks) λ b u e=>z0k _ e
 have hylen:y.cps.toList.length=y.length:=by simp[Str.length]
 refine nx3 s1.heap.objs.size ([s1.heap.objs.size]) (nx24 ([s1.heap.objs.size]) y.cps.size (SignAt y) St rfl (W _ (I1.ok.hd hc)) hz st0 (λ b hb=>?_) ⟨⟨λ C k v s₃ m₃ E' hC hP hns hm hk2 _=>z05 (⟨rfl,nx12 s₃.heap s₃.toks rfl λ _ _ e=>e⟩),λ C k v s₃ m₃ E' hC hP _ hns hm hk2 _=>?_⟩,λ D' h' tk ys vs hD hL hPl hlv hPv hF hk2=>?_⟩)
 ·have e:b=s1.heap.objs.size:=by simpa using hb
  show b < (s1.heap.push o).objs.size;rw[z3n,e];exact z4g _
 ·obtain⟨c,u,hcu,rfl⟩:=hP;have hmem:c∈y.cps.toList:=by
   rw[<-z2a] at hcu;exact z0h hcu
  refine z0j (hel c hmem pins σ _ s₃ C m₃ _ E' I2 hC ⟨u,rfl⟩ hns hm (λ b o' hb e=>?_) (λ b o' e=>?_)) (λ z s₄ ⟨rz,ks⟩=>⟨⟨c,⟨u,rfl⟩,rz⟩,ks⟩) λ _ _ e=>e
  ·refine hk2 b o' (λ z=>?_) e;have z':b=s1.heap.objs.size:=by simpa using z
   rw[z'] at hb;exact hb (I1.hok.fresh (z04 _))
  ·have e2:=I1.bk b o' e;exact hk2 b o' (λ z=>by
    have z':b=s1.heap.objs.size:=by simpa using z
    exact absurd (z09 e2) (by rw[z'];exact z1q _)) (z0k _ e2)
 ·rw[List.filter_eq_self.mpr (λ _ _=>rfl)] at hF;have hlv':vs.length=y.cps.toList.length:=by rw[hlv];simp
  have rv2:a3b (y.cps.toList.map f) ys.toList:=b7d hlv' (λ i u hu=>by
   obtain⟨c,t,e,e'⟩:=hPv i u hu;exact nx12 c t (by rw[z2a];exact e) e') hF
  have hD1:s1.heap.get? D'=none:=by
   cases qq:s1.heap.get? D' with
   | none=>rfl
   | some o' =>
    have e2:(s1.heap.push o).get? D'=some o':=z0k _ qq;rw[hD] at e2;cases e2
  have nD:=a3e I1 hD1;obtain⟨n,zz⟩:=hPl;refine nx0 (.ref D') _ (b8i (s:=s1) (t':=tk) (o:=.lst (y.cps.toList.map f)) I1 (λ b u e=>hk2 b u (λ z=>?_) (z0k _ e)) hD1 (⟨by rw[z03,hylen];exact hz,nx12 ys.toList n rv2 (by simpa using zz)⟩)) rfl (q D' nD);have z':b=s1.heap.objs.size:=by simpa using z
  exact absurd (z09 e) (by rw[z'];exact z1q _)
theorem a6c (hc:X.calm=true):a8k X (.builtin "all") (λ xs H Q=>∃ (p:Addr) (bs:List Bool),xs=[V.ref p]/\SqL X.K H p (bs.map V.bl)/\Q (.bl (bs.all id)) H):=by
 intro pins s σ H xs us Q I r h;obtain⟨p,bs,rfl,hx,q⟩:=h;obtain⟨u,rfl,ru⟩:=a8l r;cases ru;obtain⟨its,rv,pl,_⟩:=I.list hx;have hlen:=rv.length;rw[z03] at hlen;refine call_all_walk (z4h pl.isList ?_);have hne:p≠s.heap.objs.size:=z0l (by obtain⟨o,_,e,_⟩:=pl;exact z09 e);refine nx32 s.heap.objs.size ([s.heap.objs.size,p]) ([s.heap.objs.size]) (nx8 its.toArray.size _ _ (λ i=>bs.getD i true) rfl (Walks.list (A:=X.A.in1) (I.ok.hd hc) s.heap.objs.size p hne its.toArray) ⟨⟨_,z1a _ rfl,rfl,rfl⟩,pl.isList.push _⟩ (λ i v s2 Q2 E2 hP hQ=>?_) λ h' tk hk=>?_)
 ·have hP':its[i]?=some v:=by simpa using hP
  obtain⟨xv,hx1,rx⟩:=a9e rv hP';rw[z0f] at hx1;cases hb:bs[i]? with
  | none=>rw[hb] at hx1;cases hx1
  | some b =>
   rw[hb] at hx1;have e:V.bl b=xv:=z1g hx1;subst e;cases rx;have e2:bs.getD i true=b:=by rw[z41,hb];rfl
   have hQ':Q2 (bs.getD i true) s2:=hQ;rw[e2] at hQ';exact z3c hQ'
 ·have e:(List.range its.toArray.size).all (λ i=>bs.getD i true)=bs.all id:=by
   rw[z17,<-hlen,z1x,z1d,z1d];constructor
   ·intro g b hb;obtain⟨i,hi,e⟩:=List.mem_iff_getElem.mp hb;have:=g i (List.mem_range.mpr hi);rw[z41,z0c hi,e] at this;exact this
   ·intro g i hi;have hi':=List.mem_range.mp hi;rw[z41,z0c hi'];exact g _ (z1k hi')
  rw[e];refine nx0 (.bl (bs.all id)) H (I.kept (t':=tk) λ b u eu=>hk b u (λ z=>?_) (z0k _ eu)) rfl q;have z':b=s.heap.objs.size:=by simpa using z
  exact absurd (z09 eu) (by rw[z'];exact z1q _)
theorem c3f {scope:Scope} {x g:Str} {p1 p2 pos:Pos} {H:Hp} {c:Nat} {z:Str} {tk:Tok} (hkind:scope.kind=.function) (hx:scope.names.lookup x=some .local) (hg:scope.names.lookup g=some .globalImplicit) (hm:X.mg g=some (.str z tk))
  (hd:(x == ("__debug__":Str))=false:=by decide) (hdg:(g == ("__debug__":Str))=false:=by decide)
  (hrg:(compEnvC scope [] 0 X.env).kindOf g=some .globalImplicit:=by rfl) :
  e4m X scope x (.Compare (.Name x p1) [.In] [.Name g p2] pos) H (.str ⟨#[c]⟩) (.bl (decide (c∈z.cps.toList))):=by
 intro pins σ s s₃ C m₃ u E' I hC r hn hmx hk hb;obtain⟨t,rfl⟩:=r;refine wpAny_Compare1 (wpAny_Name (wpAny_loadName_local (by simp[compEnvC,relabel,hkind]) (lookup_relabel_local hx) hn hmx ?_) hd) rfl;refine z5e (by simp[compEnvC,relabel,hkind]) hrg (Calls.loadGlobal_global (by show s₃.heap.Ns X.env.globals X.mg;rw[I.ok.glob];exact I.ok.mod.glob.keeps hb) hm ?_) hdg;refine in_str ?_;rw[StrLaws.found_one];exact ⟨rfl,nx12 s₃.heap s₃.toks rfl λ _ _ q=>q⟩
end
end My
namespace My
open PySem PySem.Spec PyProof.Rows L2 PySem.NumText
def dig (c:Nat):Bool:=decide (48<=c/\c<=57)
def a8n:List Nat->List Nat
 | []=>[]
 | c::r=>if c=45 then r else c::r
def a5d:List Nat->Bool
 | []=>false
 | c::r=>!decide (c=48) && (decide ((c::r).length<=30) && (c::r).all dig)
def a2p (cs:List Nat):Bool:=decide (cs=[48]) || a5d (a8n cs)
def e4j:List Nat->Bool
 | [c]=>decide (97<=c/\c<=122)
 | _=>false
def a3w:List Nat->Int
 | []=>0
 | c::r=>if c=45 then -((digitsVal r:Nat):Int) else ((digitsVal (c::r):Nat):Int)
theorem c4c (h:cs.all dig=true):AllDigits cs:=λ c hc=>z0b (z1d.mp h c hc)
theorem e2a (h:AllDigits cs):cs.all dig=true:=z1d.mpr λ c hc=>z07 (h c hc)
theorem d1p {x:Str} {cs:List Nat} (h:x.cps.toList=cs) (y:Str) (hy:y.cps.toList=cs):x=y:=z0n (h.trans hy.symm)
theorem a0t (x:Str):x.length=x.cps.toList.length:=by simp[Str.length]
theorem b7y {x:Str} (hl:x.length<=640) (h:a2p x.cps.toList=true):intText? x=some (a3w x.cps.toList):=by
 rcases Bool.or_eq_true_iff.mp h with h | h
 ·have e:=z0b h;have hd:AllDigits x.cps.toList:=by rw[e];intro c hc;have:c=48:=(by simpa using hc);lia
  rw[intText_digits hd (by rw[e];simp) (by lia),e];rfl
 ·cases e:x.cps.toList with
  | nil=>rw[e] at h;cases h
  | cons c r =>
   rw[e] at h;by_cases hc:c=45
   ·have h':a5d r=true:=by
     have:a8n (c::r)=r:=z02 hc;rw[this] at h;exact h
    have hr:AllDigits r/\r≠[]:=by
     cases r with
     | nil=>cases h'
     | cons d q =>
      unfold a5d at h';simp only [z13] at h';exact⟨c4c h'.2.2,by simp⟩
    rw[intText_neg (by rw[e,hc]) hr.1 hr.2 (by lia)];show _=some (if c=45 then _ else _);rw[z02 hc]
   ·have h':a5d (c::r)=true:=by
     have:a8n (c::r)=c::r:=z01 hc;rw[this] at h;exact h
    unfold a5d at h';simp only [z13] at h';have hd:AllDigits x.cps.toList:=by rw[e];exact c4c h'.2.2
    rw[intText_digits hd (by rw[e];simp) (by lia),e];show _=some (if c=45 then _ else _);rw[z01 hc]
theorem c5s:∀ (cs:List Nat) (a:Nat),AllDigits cs->cs.foldl (λ acc c=>acc*10+(c - 48)) a < (a+1)*10 ^ cs.length
 | [],a,_=>by simp
 | c::r,a,h=>by
  have h1:=c5s r (a*10+(c - 48)) h.tail;have h2:=h.head;rw[List.foldl_cons,z12,Nat.pow_succ];have h3:(a*10+(c - 48)+1)*10 ^ r.length<=((a+1)*10)*10 ^ r.length:=z59 _ (by lia);have h4:(a+1)*10*10 ^ r.length=(a+1)*(10 ^ r.length*10):=by rw[Nat.mul_assoc,Nat.mul_comm 10]
  lia
theorem b6v (m:Nat):AllDigits ((Nat.toDigits 10 m).map Char.toNat):=by
 intro c hc;obtain⟨ch,hch,e⟩:=z0a.mp hc;rw[<-e];have r:=Nat.isDigit_of_mem_toDigits (by decide) (by decide) hch;simp only [Char.isDigit,z13,z1c,ge_iff_le] at r;obtain⟨r1,r2⟩:=r;have a1:=UInt32.le_iff_toNat_le.mp r1;have a2:=UInt32.le_iff_toNat_le.mp r2;exact⟨a1,a2⟩
theorem b4s (h0:0 < m) (h1:m < 10 ^ 30):a5d ((Nat.toDigits 10 m).map Char.toNat)=true:=by
 have hd:=b6v m;have hv:=W.KIN.val_back m;have hl:=digits10_le (by decide) h1;have hl':((Nat.toDigits 10 m).map Char.toNat).length<=30:=by rw[z03];exact hl
 have hlm:((Nat.toDigits 10 m).map Char.toNat).length=(Nat.toDigits 10 m).length:=z03 ..;cases e:(Nat.toDigits 10 m).map Char.toNat with
 | nil =>
  have:=tDigits_len_ge 10 m;rw[e] at hlm;simp at hlm;lia
 | cons c r =>
  rw[e] at hd hv hl' hlm;unfold a5d;have hc:¬ c=48:=by
   intro hc;subst hc;have hv2:digitsVal r=m:=by rw[<-hv];rfl
   cases r with
   | nil =>
    have:digitsVal ([]:List Nat)=0:=rfl;lia
   | cons d q =>
    have h3:=c5s (d::q) 0 hd.tail;have h4:m < 10 ^ (d::q).length:=by
     have h5:digitsVal (d::q) < (0+1)*10 ^ (d::q).length:=h3;lia
    have h6:=digits10_le (by simp) h4;simp only [z12] at hlm h6;lia
  simp only [z0v hc,z07 hl',e2a hd,Bool.not_false,Bool.and_self]
theorem b1w (h1:-(10 ^ 30) < n) (h2:n < 10 ^ 30):a2p (Str.ofString (toString n)).cps.toList=true/\a3w (Str.ofString (toString n)).cps.toList=n/\(Str.ofString (toString n)).length<=31/\e4j (Str.ofString (toString n)).cps.toList=false:=by
 rcases Int.lt_or_le n 0 with hn | hn
 ·obtain⟨m,rfl⟩:∃ m:Nat,n=-((m:Nat):Int):=⟨n.natAbs,by lia⟩;have m0:0 < m:=by lia
  have m1:m < 10 ^ 30:=by lia
  have e:(Str.ofString (toString (-((m:Nat):Int)))).cps.toList=45::(Nat.toDigits 10 m).map Char.toNat:=by
   obtain⟨k,rfl⟩:∃ k,m=k+1:=⟨m - 1,by lia⟩;have e0:toString (-(((k+1:Nat):Nat):Int))="-"++Nat.repr (k+1):=rfl;rw[e0,signs_ofString,String.toList_append,z0m,Nat.toList_repr];rfl
  have hf:=b4s m0 m1;have hl:=digits10_le (by decide) m1;refine⟨?_,?_,?_,?_⟩
  ·rw[e];unfold a2p;have:a8n (45::(Nat.toDigits 10 m).map Char.toNat)=(Nat.toDigits 10 m).map Char.toNat:=rfl;rw[this,hf,Bool.or_true]
  ·rw[e];show -((digitsVal ((Nat.toDigits 10 m).map Char.toNat):Nat):Int)=_;rw[W.KIN.val_back]
  ·rw[a0t,e,z12,z03];lia
  ·rw[e];cases (Nat.toDigits 10 m).map Char.toNat<;>rfl
 ·obtain⟨m,rfl⟩:=Int.eq_ofNat_of_zero_le hn;have m1:m < 10 ^ 30:=by lia
  have e:=W.KIN.signs_num m;have hl:=digits10_le (k:=30) (by decide) m1;have hd:=b6v m;have hv:=W.KIN.val_back m;refine⟨?_,?_,?_,?_⟩
  ·rw[e];unfold a2p;by_cases m0:m=0
   ·subst m0;rfl
   ·have hf:=b4s (Nat.pos_of_ne_zero m0) m1;cases q:(Nat.toDigits 10 m).map Char.toNat with
    | nil=>rw[q] at hf;cases hf
    | cons c r =>
     rw[q] at hf hd;have hc:¬ c=45:=by have:=hd.head;lia
     have:a8n (c::r)=c::r:=z01 hc;rw[this,hf,Bool.or_true]
  ·rw[e];cases q:(Nat.toDigits 10 m).map Char.toNat with
   | nil =>
    rw[q] at hv;show (0:Int)=_;have:digitsVal ([]:List Nat)=0:=rfl;lia
   | cons c r =>
    rw[q] at hv hd;have hc:¬ c=45:=by have:=hd.head;lia
    show (if c=45 then _ else ((digitsVal (c::r):Nat):Int))=_;rw[z01 hc,hv]
  ·rw[a0t,e,z03];lia
  ·rw[e];cases q:(Nat.toDigits 10 m).map Char.toNat with
   | nil=>rfl
   | cons c r =>
    rw[q] at hd;cases r with
    | nil =>
     have:=hd.head;exact z0v (by lia)
    | cons _ _=>rfl
theorem c2j (x:Str):(decide (0+("-":Str).length<=x.length) && Builtin.Str.subAt x ("-":Str) 0)=decide (x.cps.toList[0]?=some 45):=by
 have h:=StrLaws.subAt_one x 45 0;have e:("-":Str)=⟨#[45]⟩:=by decide +kernel
 rw[e,z1x];simp only [z13,z1c];exact h
theorem b7a {x:Str} (h:1<=x.length):(Txt.slice x (some 1) none).cps.toList=x.cps.toList.tail:=by
 rw[slice_from_eq (by decide) (by lia) rfl];show ((x.cps.toList.drop 1).take ((x.length:Int) - 1).toNat)=_;have hl:=a0t x;rw[z3f (by rw[z29];lia),List.drop_one]
theorem a0g (a b:Str):(a++b).cps.toList=a.cps.toList++b.cps.toList:=by
 show (a.cps++b.cps).toList=_;simp
theorem e1j {cs:List Nat} {d:Nat} (hd:d∈a8n cs) (hn:dig d=false) (hne:¬ cs=[48]):a2p cs=false:=by
 unfold a2p;rw[z0v hne,Bool.false_or];cases e:a8n cs with
 | nil=>rw[e] at hd;cases hd
 | cons c r =>
  rw[e] at hd;have ha:(c::r).all dig=false:=by
   cases q:(c::r).all dig with
   | false=>rfl
   | true=>rw[z1d.mp q d hd] at hn;cases hn
  show (!decide (c=48) && (decide ((c::r).length<=30) && (c::r).all dig))=false;rw[ha,Bool.and_false,Bool.and_false]
theorem e2j {cs:List Nat} (hne:¬ cs=[48]):a2p cs=a5d (a8n cs):=by
 unfold a2p;rw[z0v hne,Bool.false_or]
theorem d2k (c:Nat):decide (c∈("0123456789":Str).cps.toList)=dig c:=by
 unfold dig;rw[z1x,z1c,z1c];constructor
 ·intro h;exact(show ∀ x∈[48,49,50,51,52,53,54,55,56,57],48<=x/\x<=57 by decide) c h
 ·intro h;exact(show ∀ x,x < 58->48<=x->x∈[48,49,50,51,52,53,54,55,56,57] by decide) c (Nat.lt_succ_of_le h.2) h.1
theorem b2a (x:Str):x="0" ↔ x.cps.toList=[48]:=by
 have e:("0":Str).cps.toList=[48]:=by decide +kernel
 constructor
 ·intro h;rw[h];exact e
 ·intro h;exact d1p h _ e
theorem c1i (x:Str):x="" ↔ x.cps.toList=[]:=by
 have e:("":Str).cps.toList=[]:=by decide +kernel
 constructor
 ·intro h;rw[h];exact e
 ·intro h;exact d1p h _ e
theorem b3p (c:Nat):(⟨#[c]⟩:Str)="0" ↔ c=48:=by
 rw[b2a];simp
end My
namespace My
open PySem PySem.Spec PyProof.Rows L2 Builtin Builtin.ObjectAttr Builtin.Getset_descriptor
structure d3n (K:W.Frag) (C:Addr):Prop where
 it:W.isClsIn K C=true
 ga:W.findIn K (.ref C) "__getattribute__"=some (some (.builtin "BaseException.__getattribute__"))
 gt:W.findIn K (.ref C) "__getattr__"=some none
 cl:W.findIn K (.ref C) "__class__"=some (some (.builtin "object.__class__"))
 mB:W.mroIn K C (.type "BaseException")=some true
 mO:W.mroIn K C (.type "object")=some true
def e0c (a C:Addr) (h:Heap):Prop:=∃ o,h.get? a=some o/\o.cls=.ref C
section
variable {prog:Program} {w:World} {A:Around} {E:Value->Shared->Prop} {h:Heap} {g:Array GenState} {d:Drawn} {t:Nat} {os:OsState} {a C:Addr} {o:Obj} {K:W.Frag}
theorem e2z {R:Result->Shared->Prop} (X:K.In h) (T:d3n K C) (hx:h.get? a=some o) (hc:o.cls=.ref C) (hq:R (.ok (.ret (.ref C))) ⟨h,g,d,t,os⟩) :
  codeAny (model prog w) A (.call (.builtin "getset_descriptor.__get__") ⟨[.builtin "object.__class__",.ref a,.ref C],[]⟩) R ⟨h,g,d,t,os⟩:=by
 have L0:W.Looks (model prog w) h (typeOf (.ref a)) (.ref C):=hc ▸ (W.Looks.ld hx).andThen .now;have L1:=W.looks_mroIn (M:=model prog w) X T.mO;refine z53 W.KF.slot_gs.plain W.KF.entry_gs (W.KF.slot_gs.check _ _ _ _ _ _ _ _ W.KF.type_class (W.KF.args_gs _ _ _) ?_);unfold Builtin.«getset_descriptor.__get__» descrGet;rw[W.dga_obj];refine z00 (z05 ?_);unfold descrGetter descrCheckInstance descrNameAndClass isInstance;simp only [W.KF.owner_class];repeat lk
 refine⟨Code.quiet_builtin _ (by decide +kernel),z2f W.KF.entry_class ?_⟩;unfold Builtin.«object.__class__» shownTypeOf;repeat lk
 exact hq
theorem d7d {tk:Tok} {Q:Fin->Shared->Prop} (X:K.In h) (T:d3n K C) (hx:h.get? a=some o) (hc:o.cls=.ref C) (hq:Q (.done (.ret (.ref C))) ⟨h,g,d,t,os⟩) :
  wpAny (model prog w) A (Builtin.«object.__getattribute__» ⟨[.ref a,.str "__class__" tk],[]⟩) Q E ⟨h,g,d,t,os⟩:=by
 have hT5:(⟨h,g,d,t,os⟩:Shared).TypeIs (.builtin "object.__class__") "getset_descriptor":=F.typeOf_object_class;have f5:=F.typeOf_object_class;have f6:=F.slot_gs_get.lookup;have f7:=F.slot_gs_set.lookup;have L2:=W.looks_findIn (M:=model prog w) X T.cl;repeat (any_goals (first | assumption | (with_reducible refine z2t hx ?_;rw[hc]) | with_reducible refine z2x L2 ?_ | wp_step))
 refine e2z X T hx hc ?_;repeat (any_goals (first | assumption | wp_step))
theorem d6c {M:Model} {nameV:Value} {Q:Unit->Shared->Prop} (X:K.In h) (T:d3n K C) (hx:h.get? a=some o) (hc:o.cls=.ref C) (hq:Q () ⟨h,g,d,t,os⟩):wpAny M A (checkBuiltinCall "BaseException.__getattribute__" ⟨[.ref a,nameV],[]⟩) Q E ⟨h,g,d,t,os⟩:=by
 have hk:builtinKind "BaseException.__getattribute__"=some .slot:=by decide +kernel
 have hsplit:splitId "BaseException.__getattribute__"=some ("BaseException","__getattribute__"):=by decide +kernel
 have L1:=W.looks_mroIn (M:=M) X T.mB;have ha:=F.args_bexc_ga (.ref a) nameV;simp only [checkBuiltinCall,hk,hsplit];refine z00 ?_;unfold isInstance;repeat (first | (with_reducible refine z2t hx ?_;rw[hc]) | with_reducible refine z2x L1 ?_ | wp_step)
 exact hq
theorem e0h {tk:Tok} {R:Result->Shared->Prop} (X:K.In h) (T:d3n K C) (hx:h.get? a=some o) (hc:o.cls=.ref C) (hq:R (.ok (.ret (.ref C))) ⟨h,g,d,t,os⟩) :
  codeAny (model prog w) A (.call (.builtin "BaseException.__getattribute__") ⟨[.ref a,.str "__class__" tk],[]⟩) R ⟨h,g,d,t,os⟩ :=
 z53 F.attr_ValueError.ga.plain F.entry_bexc_ga (d6c X T hx hc (d7d X T hx hc hq))
theorem e6q {tk:Tok} {fill expr:Bool} {Q:Value->Shared->Prop} (X:K.In h) (T:d3n K C) (hx:h.get? a=some o) (hc:o.cls=.ref C) (hq:Q (.ref C) ⟨h,g,d,t,os⟩) :
  wpAny (model prog w) A (getAttrBy (.ref a) (.str "__class__" tk) fill expr) Q E ⟨h,g,d,t,os⟩:=by
 have f3:=F.attr_ValueError.ga.bind (.ref a);have hx0:(expr && onTheHeap (Value.builtin "BaseException.__getattribute__"))=false:=by cases expr<;>rfl
 have hx2:(Value.builtin "BaseException.__getattribute__" == Value.builtin "object.__getattribute__")=false:=by decide +kernel
 have hx1:(onTheHeap (Value.ref C) && Value.builtin "BaseException.__getattribute__" == Value.builtin "object.__getattribute__")=false:=by rw[hx2];rfl
 have L1:=W.looks_findIn (M:=model prog w) X T.ga;have L2:=W.looks_findIn (M:=model prog w) X T.gt;repeat (any_goals (first | assumption | (with_reducible refine z2t hx ?_;rw[hc]) | with_reducible refine z2x L1 ?_ | with_reducible refine z2x L2 ?_ | wp_step))
 refine e0h X T hx hc ?_;repeat (any_goals (first | assumption | wp_step))
end
theorem b8r {K:W.Frag} {a C:Addr} (T:d3n K C):W.KitX K (.ref a) (.ref C) (e0c a C) where
 ty:=λ _ _ _ ⟨_,hx,hc⟩=>hc ▸ (W.Looks.ld hx).andThen .now
 it:=λ _ h X _=>by
  have z0:=T.it;unfold W.isClsIn W.clsIn at z0;split at z0
  ·rename_i c' d' cd' sl' ho;intro A' Q' E' s' k q;unfold isType loadHead;exact z00 (wpAny_loadPart (k _ _ (X _ _ ho)) (z05 q))
  ·cases z0
 ne:=λ h tp dd its n sl X htp=>by
  have z0:=T.it;refine z28.mpr λ q=>?_
  have e:C=tp:=Value.ref.inj (z2c.mp q);subst e;unfold W.isClsIn W.clsIn at z0;split at z0
  ·rename_i c' d' cd' sl' ho;have z:=(X _ _ ho).symm.trans htp;cases z
  ·cases z0
 ca:=λ {prog w A E Q s} X ⟨o,hx,hc⟩ k=>by
  obtain⟨h,g,d,t,os⟩:=s;unfold getAttr? getAttrBy?;refine z00 (wpAny_mkText (z00 (wpAny_attempt (e6q X T hx hc ?_))));exact z05 k
end My
namespace My
open PySem PySem.Spec PyProof.Rows L2
abbrev c9l (a C:Addr):HO:=.ext (e0c a C)
theorem d9r {P:Program} {w:World} {H:Hp} {h:Heap} {a C:Addr} {o:Obj} (e:h.get? a=some o) (hc:o.cls=.ref C):a3m P w H h a (c9l a C) :=
 ⟨⟨o,e,hc⟩,⟨o,e⟩,λ _ _ ⟨o,e,hc⟩ k=>⟨o,k o e,hc⟩⟩
section
variable {X:Cx}
theorem b9t {pins:List (Addr×Obj)} {σ:L2.St} {H:Hp} {s:Shared} {a C:Addr} (I:Inv X pins σ H s) (h:H a=some (c9l a C)):e0c a C s.heap :=
 (show a3m X.prog X.w H s.heap a (c9l a C) from I.hok a _ h).1
structure e2r (K:W.Frag) (C D:Addr) (b:Bool):Prop where
 it:W.isClsIn K D=true
 ty:W.typeIn K (.ref D)=some (.type "type")
 self:W.subIn K (.ref C) (.ref C)=some true
 sub:W.subIn K (.ref C) (.ref D)=some b
theorem e2r.one {K:W.Frag} {C D:Addr} {b:Bool} (p:e2r K C D b):W.kitOne K (.ref C) (.ref D)=some b:=by
 unfold W.kitOne;by_cases e:(Value.ref C == Value.ref D)=true
 ·rw[z02 e];have e1:C=D:=Value.ref.inj (z2c.mp e);have h1:=p.self;have h2:=p.sub;rw[<-e1,h1] at h2;exact h2
 ·rw[z01 e];show (if ((W.clsIn K D).isSome && W.typeIn K (.ref D) == some (.type "type"))=true then W.subIn K (.ref C) (.ref D) else none)=some b;have h1:(W.clsIn K D).isSome=true:=p.it;rw[h1,p.ty,z02 (by simp),p.sub]
theorem c5a {K:W.Frag} {C:Addr}:∀ {ds:List Addr},(∀ D∈ds,e2r K C D false)->W.kitAny K (.ref C) (ds.map Value.ref)=some false
 | [],_=>rfl
 | D::r,h=>by
  show (match W.kitOne K (.ref C) (.ref D) with | some true=>some true | some false=>W.kitAny K (.ref C) (r.map Value.ref) | none=>none)=some false;rw[(h D (z06.mpr (Or.inl rfl))).one];exact c5a λ D' m=>h D' (z06.mpr (Or.inr m))
theorem d3z:a8k X (.builtin "isinstance") (λ xs H Q=>∃ a C b c,xs=[V.ref a,c]/\H a=some (c9l a C)/\d3n X.K C/\((∃ D,c=V.ref D/\W.kitOne X.K (.ref C) (.ref D)=some b)\/∃ T,c=V.ty T/\W.kitOne X.K (.ref C) (.type T)=some b)/\Q (.bl b) H):=by
 intro pins s σ H xs us Q I r h;obtain⟨a,C,b,c,rfl,ha,T,hc,q⟩:=h;obtain⟨u,w',rfl,ru,rw'⟩:=c0w r;cases ru;rcases hc with ⟨D,rfl,e⟩ | ⟨n,rfl,e⟩
 ·cases rw';exact z1z (b8r T) I.kIn (b9t I ha) e (λ z=>nomatch z) λ tk=> nx0 (.bl b) H (I.tok tk) rfl q
 ·cases rw';exact z1z (b8r T) I.kIn (b9t I ha) e (λ z=>nomatch z) λ tk=> nx0 (.bl b) H (I.tok tk) rfl q
theorem c0j:∀ {ds:List Addr} {us:List Value},a3b (ds.map V.ref) us->us=ds.map Value.ref
 | [],_,.nil=>rfl
 | D::r,_,.cons e t=>by
  cases e;rw[c0j t];rfl
theorem c9p:a8k X (.builtin "isinstance") (λ xs H Q=>∃ (a C tp:Addr) (ds:List Addr) (b:Bool),xs=[V.ref a,V.ref tp]/\H a=some (c9l a C)/\d3n X.K C/\H tp=some (.tup (ds.map V.ref))/\W.kitAny X.K (.ref C) (ds.map Value.ref)=some b/\Q (.bl b) H):=by
 intro pins s σ H xs us Q I r h;obtain⟨a,C,tp,ds,b,rfl,ha,T,ht,e,q⟩:=h;obtain⟨u,w',rfl,ru,rw'⟩:=c0w r;cases ru;cases rw';obtain⟨_,its,rv,o,e1,hc,n,hd⟩:=(show a3m X.prog X.w H s.heap tp (.tup (ds.map V.ref)) from I.hok tp _ ht);have ei:=c0j rv;subst ei;obtain⟨oc,odd,oda,osl⟩:=o;dsimp only at hc hd;subst hc hd;exact z25 (b8r T) I.kIn (b9t I ha) e1 e (λ z=>nomatch z) λ tk=> nx0 (.bl b) H (I.tok tk) rfl q
theorem b0v {M:Model} {A:Around} {E:Value->Shared->Prop} {K:W.Frag} {h:Heap} {g:Array GenState} {d:Drawn} {t:Nat} {os:OsState} {e C S:Addr} {oe:Obj} {b:Bool} {Q:Bool->Shared->Prop} (X:K.In h) (he:h.get? e=some oe) (hcls:oe.cls=.ref C)
  (hty:W.typeIn K (.ref S)=some (.type "type")) (hit:W.isClsIn K S=true) (hB:W.mroIn K S (.type "BaseException")=some true) (hs:W.subIn K (.ref C) (.ref S)=some b) (hq:Q b ⟨h,g,d,t,os⟩):wpAny M A (excMatches (.ref e) (.ref S)) Q E ⟨h,g,d,t,os⟩:=by
 have f:=tc_notTuple;have L0:=W.looks_typeIn (M:=M) X hty;have L1:=W.looks_mroIn (M:=M) X hB;have L2:=W.looks_subIn (M:=M) X hs;have L3:W.Looks M h (isType (.ref S)) true:=by
  unfold W.isClsIn W.clsIn at hit;split at hit
  ·rename_i c' d' cd' sl' ho;intro A' Q' E' s' k q;unfold isType loadHead;exact z00 (wpAny_loadPart (k _ _ (X _ _ ho)) (z05 q))
  ·cases hit
 unfold excMatches isInstance;repeat (first | (with_reducible refine z2t he ?_;rw[hcls]) | with_reducible refine z2x L0 ?_ | with_reducible refine z2x L1 ?_ | with_reducible refine z2x L2 ?_ | with_reducible refine z2x L3 ?_ | wp_step)
 cases b<;>(wp_walk;exact hq)
end
section
variable {X:Cx} {pins:List (Addr×Obj)} {σ:L2.St} {H:Hp} {s:Shared}
theorem b1p {M:Model} {A:Around} {E:Value->Shared->Prop} {j:Nat} {n:Str} {pos:Pos} {Q:Unit->Shared->Prop} (I:Inv X pins σ H s) (hN:X.N.Nodup) (hj:X.N[j]?=some n) (hk:X.env.scope.names.lookup n=some .local)
  (h:∀ s',Inv X pins (σ.set j none) H s'->Q () s'):wpAny M A (do bindName X.env n .none;unbindBehindTheSuite X.env n pos) Q E s:=by
 obtain⟨m,hn,hl⟩:=id I.loc;have hcls:(X.env.scope.kind == .class || (X.env.scope.kind == .module && X.env.locals != X.env.globals))=false:=by rw[I.ok.kind];rfl
 have hjσ:j < σ.length:=by rw[I.len];exact(z0i.mp hj).1
 have cne:=I.cne;refine wpAny_nameGoes_keeps hk hn hcls λ h' v hn' hs=>?_
 obtain⟨oL,_,_,hoL,_⟩:=id hn;refine h _ ⟨I.ok,I.os,I.bare,⟨λ b o e n hb hx=>?_,λ b o e n hb hx=>?_,I.base.free,λ b o e hx=>?_,I.base.tups,I.base.frzs,I.base.tbls⟩,⟨_,hn',λ i y v' e1 e2 e3=>?_⟩,λ y c e=>?_,I.free,I.freeC,λ p hp=>?_,λ b ob e=>?_,by simpa using I.len⟩
 ·exact(hs.2 b (z0l (z0w (z09 e) I.ok.above))).trans (I.base.keep b o e n hb hx)
 ·obtain⟨sl,e1⟩:=I.base.slot b o e n hb hx;exact⟨sl,(hs.2 b (z0l (z0w (z09 e) I.ok.above))).trans e1⟩
 ·obtain⟨o',e1⟩:=I.base.there b o e hx;exact⟨o',(hs.2 b (z0l (z0w (z09 e) I.ok.above))).trans e1⟩
 ·by_cases hi:i=j
  ·subst hi;rw[z34 hjσ] at e2;cases e2
  ·rw[z2q (z1b hi)] at e2;obtain⟨u',r',q⟩:=hl i y v' e1 e2 e3;refine⟨u',r',?_⟩;rcases q with ⟨k,e⟩ | ⟨k,c,e,z⟩
   ·refine .inl ⟨k,?_⟩;have:y≠n:=λ e=>hi (b3r hN e1 (e ▸ hj))
    simp[this,e]
   ·exact .inr ⟨k,c,e,z.sameBut hs (cne y c e)⟩
 ·obtain⟨w',z⟩:=I.cell y c e;exact⟨w',z.sameBut hs (cne y c e)⟩
 ·obtain⟨e,n,ne,nf,d⟩:=I.pin p hp;exact⟨(hs.2 p.1 ne).trans e,n,ne,nf,d⟩
 ·refine(I.hok b ob e).stay (λ c w' hc q=>(hs.2 c ?_).trans q) (λ _ q=>q) λ _ _ q=>q
  rintro rfl;rcases hc with rfl | hc
  ·rw[I.free] at e;cases e
  ·rw[I.free] at hc;cases hc
theorem d1b (I1:Inv X pins σ H1 s1) (I:Inv X pins σ H s) (hn:s1.heap.get? a=none) (ha:H a=none) (ok:a3m X.prog X.w (upd H a o) s.heap a o):Inv X pins σ (upd H a o) s:=by
 have ne:∀ b u,s1.heap.get? b=some u->b≠a:=λ b u e z=>by rw[z,hn] at e;cases e
 refine⟨I.ok,I.os,I.bare,⟨I.base.keep,I.base.slot,λ b u e n hx=>?_,I.base.there,λ b xs e=>?_,λ b u v e=>?_,λ b ps e=>?_⟩,I.loc,I.cell,?_,λ x c e=>?_,λ p hp=>?_,λ b u e=>?_,I.len⟩
 ·obtain⟨u',e1⟩:=I1.base.there b u e hx;rw[a0m (ne b u' e1)];exact I.base.free b u e n hx
 ·have q:=I.base.tups b xs e;rw[a0m (a0u q ha)];exact q
 ·have q:=I.base.frzs b u v e;rw[a0m (a0u q ha)];exact q
 ·obtain⟨more,q⟩:=I.base.tbls b ps e;exact⟨more,by rw[a0m (a0u q ha)];exact q⟩
 ·obtain⟨m0,⟨u,_,_,hu,_⟩,_⟩:=I1.loc;rw[a0m (ne _ u hu)];exact I.free
 ·obtain⟨v,u,hu,_⟩:=I1.cell x c e;rw[a0m (ne c u hu)];exact I.freeC x c e
 ·obtain⟨e,n,n2,nf,d⟩:=I.pin p hp;obtain⟨e1,_⟩:=I1.pin p hp;exact⟨e,by rw[a0m (ne _ _ e1)];exact n,n2,nf,d⟩
 ·by_cases hb:b=a
  ·subst hb;rw[a0c] at e;cases e;exact ok
  ·rw[a0m hb] at e;refine(I.hok b u e).stay (λ c v hc q=>q) (λ c q=>?_) λ c xs q=>?_
   ·rw[a0m (a0u q ha)];exact q
   ·rw[a0m (a0u q ha)];exact q
structure e2u (K:W.Frag) (mg:Str->Option Value) (x:Str) (S:Addr):Prop where
 bound:mg x=some (.ref S)
 ty:W.typeIn K (.ref S)=some (.type "type")
 it:W.isClsIn K S=true
 mB:W.mroIn K S (.type "BaseException")=some true
def gone (j:Nat) (D:b9c):b9c:={nx:=λ σ H=>D.nx (σ.set j none) H,rt:=D.rt,bk:=λ σ H=>D.bk (σ.set j none) H,ct:=λ σ H=>D.ct (σ.set j none) H}
def d7o (a C:Addr) (d:Option Addr) (h:Heap):Prop:=∃ o,h.get? a=some o/\o.cls=.ref C/\W.notCls o=true/\o.dict=d
theorem e1t {ho:Addr->Addr->Option Addr->HO} {k:Nat} {fa S:Addr} {fd:FuncData} {ps:List Str} {sp:Sp} {fn c y n:Str} {i j:Nat} {a1:Expr} {as:List Expr} {b₀:Stmt} {suite:List Stmt} {t:TA} {th:TS} {py pf cpos apos np hpos pos:Pos}
  (F:b0w X.prog X.w X.K X.mg X.base (CXW X.prog X.w) k fa fd ps sp) (hr:Room k X.A) (hg:Gl X fn) (hm:X.mg fn=some (.ref fa)) (hk:W.keepIn X.K (.ref fa)=true) (hb:b1d X.K fd ps [])
  (ha:PA X.nox (a1::as) t) (T:e2u X.K X.mg c S) (hgc:Gl X c) (hN:X.N.Nodup) (hi:X.N[i]?=some y) (hx:Loc X.env.scope y) (hj:X.N[j]?=some n) (hxn:X.env.scope.names.lookup n=some .local) (hfn:X.fn y=true) (hst:X.stack=X.env::X.outer) (hfr:X.env.frame=some X.env.locals)
  (hs:∀ ea,PSs (b0d X ea) (b₀::suite) th) (hho:∀ (H:Hp) (h:Heap) (ea C:Addr) (d:Option Addr),d7o ea C d h->a3m X.prog X.w H h ea (ho ea C d))
  (hdb:(fn == ("__debug__":Str))=false:=by decide) (hdc:(c == ("__debug__":Str))=false:=by decide) (he:starEach (a1::as) X.env=(false,eval a1 X.env)::starEach as X.env:=by rfl) (hpl:(backTo cpos (starEach as X.env)).any (·.1)=false:=by rfl)
  (hsw:swapsWith (.Call (.Name fn pf) (a1::as) [] cpos) (some (.Name y py)) apos.line X.env=pure false:=by rfl) :
  PS X (.Try [.Assign [.Name y py] (.Call (.Name fn pf) (a1::as) [] cpos) apos] [.ExceptHandler (some (.Name c np)) (some n) (b₀::suite) hpos] [] [] pos)
   (λ D σ H=>t σ H λ vs H1=>sp vs H1 (λ v H2=>D.nx (σ.set i (some v)) H2) (λ cls d H2=>∃ C,cls=.ref C/\W.subIn X.K (.ref C) (.ref S)=some true/\∀ ea,H2 ea=none->th (gone j D) (σ.set j (some (.ref ea))) (upd H2 ea (ho ea C d)))):=by
 constructor;intro pins s σ H D I h;refine wpAny_Try_except (z42 (wpAny_Assign_Name (z2o (a9g I hg hm ?_ hdb)) hsw));refine z52 (h₀:=X.base) I.ok.mod.kin hk (z0j (ha cpos pins s σ H _ (I.wish _) h) (λ us s1 ⟨vs,H1,I1w,r,q⟩=>⟨I1w.kIn,?_⟩) λ _ _ z=>z.elim) he hpl;have I1:Inv X pins σ H1 s1:=I1w.unwish;have hl:us.length=ps.length:=by rw[<-r.length];exact F.len _ _ _ _ q
 have hbb:=hb s1 us I1.kIn (by rw[z1e];exact hl);rw[z1e] at hbb;refine wpAny_call (z2m (F.run X.A X.stack s1 H1 ⟨us,[]⟩ us vs _ _ hr I1.env0 hbb r q) λ res s' hq=>?_);cases res with
 | ok fl =>
  cases fl with
  | ret u =>
   obtain⟨v,H2,I2,r2,q2⟩:=I1.after hq;exact a9r I2 hN hi hx r2 (λ s3 I3=>z2z (z2z (nx12 _ H2 I3 q2))) (.inl hfn)
  | next=>exact False.elim hq
  | brk=>exact False.elim hq
  | cont=>exact False.elim hq
 | error e =>
  obtain⟨ea,cls,a0,B,H',d,rfl,os,bare,un,hok,fl,bk,n1,n2,⟨o0,ho0,hd0⟩,C,hcls,hsub,hth⟩:=hq;subst hcls;have fl':=fl;rw[hst] at fl';have hfnn:∀ b∈frs X.stack,∃ o,s'.heap.get? b=some o/\∀ vs,o.data≠.fields vs:=λ b hb=>(fl.2.2.1.mem hb).2
  refine z0j (a2n (a4w _ _) (wpAny_looks_onW (Q:=λ _ s''=>∃ h4,s''={s' with heap:=h4}/\Heap.HeldW B (X.env::X.outer) ea (.ref C) a0 X.env.locals h4/\s'.heap.UpToSlots h4) (by rw[I1.ok.frames,hst]) hfr fl' λ h4 x1 x2=>⟨h4,rfl,x1,x2⟩)) (λ _ s'' ⟨⟨h4,e4,held,sm4⟩,dk4⟩=>?_) λ _ _ z=>z.1
  subst e4;refine z0j (a2n (a3y _ _) (wpAny_landsW (Q:=λ _ s''=>∃ h5,s''={s' with heap:=h5}/\Heap.FlyingW B (X.env::X.outer) ea (.ref C) a0 h5/\h4.UpToSlots h5) held λ h5 x1 x2=>⟨h5,rfl,x1,x2⟩)) (λ _ s'' ⟨⟨h5,e5,fl5,sm5⟩,dk5⟩=>?_) λ _ _ z=>z.1
  subst e5;obtain⟨ob,hob,hobc⟩:=fl5.there;obtain⟨un5,hok5,_,_⟩:=c7x I1 un hok bk fl5.1 (sm4.trans sm5) hfnn;have I5:Inv X pins σ H' {s' with heap:=h5}:=I1.call' (s':={s' with heap:=h5}) os un5 hok5 bare (λ b z=>absurd z (by simp));refine wpAny_handleBy_cons (codeAny_handlers_test (a9g (X:=b0d X ea) (b3m I5 ea) hgc T.bound ?_ hdc)) (by intro z;cases z);refine b0v (K:=X.K) I5.kIn hob hobc T.ty T.it T.mB hsub (codeAny_handlers_suite_as ?_);refine z0j (a2n (a3y _ _) (lands_againW (Q:=λ _ s''=>∃ h6,s''={s' with heap:=h6}/\Heap.FlyingW B (X.env::X.outer) ea (.ref C) a0 h6/\h5.UpToSlots h6) fl5 λ h6 x1 x2=>⟨h6,rfl,x1,x2⟩)) (λ _ s'' ⟨⟨h6,e6,fl6,sm6⟩,dk6⟩=>?_) λ _ _ z=>z.1
  subst e6;obtain⟨ob6,vs6,hob6,hobc6,hdat6,_⟩:=fl6.first;have isK:d7o ea C d h6:=by
   obtain⟨o4,ho4,hd4⟩:=dk4 ea o0 ho0;obtain⟨o5,ho5,hd5⟩:=dk5 ea o4 ho4;obtain⟨o6,ho6,hd6⟩:=dk6 ea o5 ho5;have ho6':h6.get? ea=some o6:=ho6;rw[hob6] at ho6';cases ho6';exact⟨ob6,hob6,hobc6,by unfold W.notCls;rw[hdat6],hd6.1.trans (hd5.1.trans (hd4.1.trans hd0.1))⟩
  obtain⟨un6,hok6,_,_⟩:=c7x I1 un hok bk fl6.1 ((sm4.trans sm5).trans sm6) hfnn;have I6:Inv X pins σ H' {s' with heap:=h6}:=I1.call' (s':={s' with heap:=h6}) os un6 hok6 bare (λ b z=>absurd z (by simp));have I7:Inv X pins σ (upd H' ea (ho ea C d)) {s' with heap:=h6}:=d1b I1 I6 n2 n1 (hho _ _ _ _ _ isK);refine a9r (X:=b0d X ea) (i:=j) (v:=.ref ea) (b3m I7 ea) hN hj (.inl hxn) rfl (λ s8 I8=>?_) (.inr hxn);refine z0j (hs ea pins _ _ _ (gone j D) I8 (hth ea n1)) (λ f2 s2 z=>?_) λ _ _ z=>z.elim
  have z':=d1n I6.ok z;cases f2 with
  | next=>obtain⟨σ',H9,I9,q⟩:=z';exact b1p I9 hN hj hxn λ s3 I3=> nx12 _ H9 I3 q
  | brk=>obtain⟨σ',H9,I9,q⟩:=z';exact b1p I9 hN hj hxn λ s3 I3=> nx12 _ H9 I3 q
  | cont=>obtain⟨σ',H9,I9,q⟩:=z';exact b1p I9 hN hj hxn λ s3 I3=> nx12 _ H9 I3 q
  | ret u=>obtain⟨v,σ',H9,I9,r,q⟩:=z';exact b1p I9 hN hj hxn λ s3 I3=> nx29 v _ H9 I3 r q
theorem e1v {k:Nat} {fa S:Addr} {fd:FuncData} {ps:List Str} {sp:Sp} {fn c y n:Str} {i j:Nat} {a1:Expr} {as:List Expr} {b₀:Stmt} {suite:List Stmt} {t:TA} {th:TS} {py pf cpos apos np hpos pos:Pos}
  (F:b0w X.prog X.w X.K X.mg X.base (CXW X.prog X.w) k fa fd ps sp) (hr:Room k X.A) (hg:Gl X fn) (hm:X.mg fn=some (.ref fa)) (hk:W.keepIn X.K (.ref fa)=true) (hb:b1d X.K fd ps [])
  (ha:PA X.nox (a1::as) t) (T:e2u X.K X.mg c S) (hgc:Gl X c) (hN:X.N.Nodup) (hi:X.N[i]?=some y) (hx:Loc X.env.scope y) (hj:X.N[j]?=some n) (hxn:X.env.scope.names.lookup n=some .local) (hfn:X.fn y=true) (hst:X.stack=X.env::X.outer) (hfr:X.env.frame=some X.env.locals)
  (hs:∀ ea,PSs (b0d X ea) (b₀::suite) th)
  (hdb:(fn == ("__debug__":Str))=false:=by decide) (hdc:(c == ("__debug__":Str))=false:=by decide) (he:starEach (a1::as) X.env=(false,eval a1 X.env)::starEach as X.env:=by rfl) (hpl:(backTo cpos (starEach as X.env)).any (·.1)=false:=by rfl)
  (hsw:swapsWith (.Call (.Name fn pf) (a1::as) [] cpos) (some (.Name y py)) apos.line X.env=pure false:=by rfl) :
  PS X (.Try [.Assign [.Name y py] (.Call (.Name fn pf) (a1::as) [] cpos) apos] [.ExceptHandler (some (.Name c np)) (some n) (b₀::suite) hpos] [] [] pos)
   (λ D σ H=>t σ H λ vs H1=>sp vs H1 (λ v H2=>D.nx (σ.set i (some v)) H2) (λ cls _ H2=>∃ C,cls=.ref C/\W.subIn X.K (.ref C) (.ref S)=some true/\∀ ea,H2 ea=none->th (gone j D) (σ.set j (some (.ref ea))) (upd H2 ea (c9l ea C)))) :=
 e1t (ho:=λ ea C _=>c9l ea C) F hr hg hm hk hb ha T hgc hN hi hx hj hxn hfn hst hfr hs (λ _ _ _ _ _ ⟨_,q,c,_⟩=>d9r q c) hdb hdc he hpl hsw
end
def Itf (ys:List V):It:=⟨λ i _=>i < ys.length,λ i H x H'=>H'=H/\ys[i]?=some x,λ i _=>ys.length<=i⟩
abbrev a5z (y:Str):List V:=y.cps.toList.map λ c=>V.str ⟨#[c]⟩
theorem a7a (y:Str):(a5z y).length=y.length:=by simp[a5z,Str.length]
theorem b2n {y:Str} {i:Nat}:(a5z y)[i]?=(y.cps[i]?).map λ c=>V.str ⟨#[c]⟩:=by
 rw[z0f,z2a]
abbrev a8p (y:Str):String:=if y.cps.all (· < 128) then "str_ascii_iterator" else "str_iterator"
theorem d5g {P:Program} {w:World} {K:W.Frag} {tg:Expr} (y:Str) (t:Tok) (it:Addr):e2l P w K tg (Itf (a5z y)) [it] it (λ i h=>h.IsStrIter it (a8p y) y t i) where
 mem:=by simp
 obj:=λ i h st b hb=>by
  have e:b=it:=by simpa using hb
  subst e;obtain⟨o,e,c,d⟩:=st;exact⟨o,e,λ v z=>by rw[d] at z;cases z⟩
 keep:=λ i h h' st k=>let ⟨o,ho,r⟩:=st;⟨o,k it (by simp) o ho,r⟩
 item:=by
  intro X hP hw hK hc i pins s σ H E I hf st hg;subst hP hw hK;have hi:i < y.cps.size:=by have:i < (a5z y).length:=hg;rw[a7a] at this;exact this
  obtain⟨f0,f1,f2,f3,f4,f5⟩:=hf it (by simp);have fin:∀ h',h'.IsStrIter it (a8p y) y t (i+1)->Heap.SameBut it s.heap h'->∃ u,some (Value.str ⟨#[y.cps[i]]⟩ s.toks)=some u /\
    wpAny (model X.prog X.w) X.A (letOwnedTupleGo tg (.ref it) u) (λ _ s2=>∃ x H',Inv X pins σ H' s2/\a3c x u/\(Itf (a5z y)).yld i H x H'/\s2.heap.IsStrIter it (a8p y) y t (i+1)/\∀ b∈[it],H' b=none) E {s with heap:=h',toks:=s.toks+1}:=λ h' st' sb=>by
   have I1:Inv X pins σ H {s with heap:=h',toks:=s.toks+1}:=I.turned (λ b o hb e=>(sb.2 b hb).trans e) f0 f1 f3 f4 f5;obtain⟨o,e,c,d⟩:=id st';refine⟨_,rfl,e0t e c d ?_ (nx25 (.str ⟨#[y.cps[i]]⟩) H I1 ⟨_,rfl⟩ ⟨rfl,by rw[b2n,z4z hi];rfl⟩ st' λ b hb=>(hf b hb).1)⟩;unfold a8p;split<;>decide
  cases ha:y.cps.all (· < 128) with
  | true =>
   have e:a8p y="str_ascii_iterator":=z02 ha;rw[e] at st fin ⊢;exact wpAny_pyNext_ascii_item st (by simp[hi]) fin
  | false =>
   have e:a8p y="str_iterator":=z01 (by rw[ha];decide);rw[e] at st fin ⊢;exact wpAny_pyNext_wide_item st (by simp[hi]) fin
 done:=by
  intro X hP hw hK hc i pins s σ H E I hf st hg;subst hP hw hK;have hi:y.cps[i]?=none:=by have:(a5z y).length<=i:=hg;rw[a7a] at this;exact Array.getElem?_eq_none this
  obtain⟨f0,f1,f2,f3,f4,f5⟩:=hf it (by simp);cases ha:y.cps.all (· < 128) with
  | true =>
   have e:a8p y="str_ascii_iterator":=z02 ha;rw[e] at st;exact wpAny_pyNext_ascii_end (I.ok.hd hc) st hi λ h' eb=>⟨rfl,I.turned (λ b o hb e=>eb b o hb e) f0 f1 f3 f4 f5⟩
  | false =>
   have e:a8p y="str_iterator":=z01 (by rw[ha];decide);rw[e] at st;exact wpAny_pyNext_wide_end (I.ok.hd hc) st hi λ h' eb=>⟨rfl,I.turned (t':=s.toks) (λ b o hb e=>eb b o hb e) f0 f1 f3 f4 f5⟩
 self:=λ A i s Q E st h=>by
  cases ha:y.cps.all (· < 128) with
  | true =>
   have e:a8p y="str_ascii_iterator":=z02 ha;rw[e] at st;exact wpAny_pyIter_striter_ascii st h
  | false =>
   have e:a8p y="str_iterator":=z01 (by rw[ha];decide);rw[e] at st;exact wpAny_pyIter_striter_wide st h
abbrev c6j (y:Str) (t:Tok):Obj:={cls:=.type (a8p y),data:=.fields #[.str y t,.int 0 0]}
theorem b4t {prog:Program} {w:World} {A:Around} {E:Value->Shared->Prop} {s:Shared} {x:Str} {t:Tok} {Q:Value->Shared->Prop} (hQ:Q (.ref s.heap.objs.size) {s with heap:=s.heap.push (c6j x t)}):wpAny (model prog w) A (pyIter (.str x t)) Q E s:=by
 cases ha:x.cps.all (· < 128) with
 | true =>
  have e:a8p x="str_ascii_iterator":=z02 ha;unfold c6j at hQ;rw[e] at hQ;exact wpAny_pyIter_ascii ha hQ
 | false =>
  have e:a8p x="str_iterator":=z01 (by rw[ha];decide);unfold c6j at hQ;rw[e] at hQ;exact wpAny_pyIter_wide ha hQ
section
variable {X:Cx} {tg:Expr}
def e8k (tl:TE):TI:=λ σ H R=>tl σ H λ x H1=>∃ y:Str,x=.str y/\R (Itf (a5z y)) H1
theorem e3o {l:Expr} {tl:TE} (hl:PE X l tl):PI X tg l (e8k tl):=by
 constructor;intro pins s σ H R I h;refine thn (hl pins s σ H _ I h) λ v s1 ⟨x,H1,I1,r1,q1⟩=>?_
 obtain⟨y,e,q⟩:=q1;subst e;obtain⟨t,rfl⟩:=r1;refine b4t ?_;refine nx36 s1.heap.objs.size ([s1.heap.objs.size]) _ _ H1 rfl (I1.kept λ b o e=>z0k _ e) (d5g y t _) ⟨_,z1a _ rfl,rfl,rfl⟩ (λ b hb=>?_) q;have e:b=s1.heap.objs.size:=by simpa using hb
 subst e;exact I1.fpOk (z04 _) (I1.hok.fresh (z04 _))
end
theorem d9z {ys:List V} {g:TG} {tb:TS} {D:b9c} {σ:L2.St} {H:Hp} (Pv:Nat->L2.St->Hp->Prop) (h0:Pv 0 σ H)
  (hs:∀ i x σ H,ys[i]?=some x->Pv i σ H->g x σ H λ σ2 H2=>tb {D with nx:=Pv (i+1),ct:=Pv (i+1),bk:=D.nx} σ2 H2) (hd:∀ σ H,Pv ys.length σ H->D.nx σ H) :
  ∃ W:Nat->Nat->L2.St->Hp->Prop,(∃ m,W 0 m σ H)/\∀ i m σ H,W i m σ H ->
   ((Itf ys).stop i H/\D.nx σ H)\/((Itf ys).go i H/\∃ N:L2.St->Hp->Prop,(∀ σ' H',N σ' H'->∃ m',m' < m/\W (i+1) m' σ' H')/\∀ x H',(Itf ys).yld i H x H'->g x σ H' λ σ2 H2=>tb {D with nx:=N,ct:=N,bk:=D.nx} σ2 H2):=by
 refine⟨λ i m σ H=>m=ys.length - i/\i<=ys.length/\Pv i σ H,⟨ys.length,by simp,z0x _,h0⟩,?_⟩;rintro i m σ H ⟨rfl,hi,p⟩;by_cases hlt:i < ys.length
 ·refine .inr ⟨hlt,Pv (i+1),λ σ' H' p'=>⟨ys.length - (i+1),by lia,rfl,hlt,p'⟩,λ x H' y=>?_⟩;obtain⟨e,y⟩:=y;subst e;exact hs i x σ _ y p
 ·have e:i=ys.length:=by lia
  subst e;exact .inl ⟨z04 _,hd σ H p⟩
structure Src (P:Program) (w:World) (K:W.Frag) (J:It) (it:Addr) (st:Nat->Heap->Prop):Prop where
 obj:∀ i h,st i h->∃ o,h.get? it=some o/\∀ v,o.data≠.cell v
 keep:∀ i h h',st i h->(∀ o,h.get? it=some o->h'.get? it=some o)->st i h'
 item:∀ (X:Cx),X.prog=P->X.w=w->X.K=K->∀ (A:Around) (i:Nat) (pins:List (Addr×Obj)) (s:Shared) (σ:L2.St) (H:Hp) (Q:Value->Shared->Prop) (E:Value->Shared->Prop),Inv X pins σ H s->st i s.heap->J.go i H ->
  (∀ x u h' tk,a3c x u->J.yld i H x H->st (i+1) h'->Heap.SameBut it s.heap h'->Q u {s with heap:=h',toks:=tk})->wpAny (model P w) A (Builtin.SmallTypes.nextOf (.ref it)) Q E s
 done:∀ (X:Cx),X.prog=P->X.w=w->X.K=K->∀ (A:Around),A.handled=none->∀ (i:Nat) (pins:List (Addr×Obj)) (s:Shared) (σ:L2.St) (H:Hp) (Q:Value->Shared->Prop) (E:Value->Shared->Prop),Inv X pins σ H s->st i s.heap->J.stop i H ->
  (∀ h' e,Heap.ExtBut it s.heap h'->(∃ o,h'.get? e=some o/\o.cls=.type "StopIteration")->E (.ref e) {s with heap:=h'})->wpAny (model P w) A (Builtin.SmallTypes.nextOf (.ref it)) Q E s
section
variable {P:Program} {w:World} {K:W.Frag}
theorem d4u (a it:Addr):Src P w K (Itl K a) it (λ i h=>h.IsListIter it a i) where
 obj:=λ i h st=>by
  obtain⟨o,e,c,d⟩:=st;exact⟨o,e,λ v z=>by rw[d] at z;cases z⟩
 keep:=λ i h h' st k=>st.at λ o e=>k o e
 item:=by
  intro X hP hw hK A i pins s σ H Q E I st hg hQ;subst hP hw hK;obtain⟨xs,x,hq,hx⟩:=hg;obtain⟨its,rv,p,hz⟩:=I.list hq;obtain⟨u,hu,ru⟩:=rv.get hx;exact wpAny_nextOf_list_item st p.isList (by simpa using hu) λ h' st' sb=>hQ x u h' s.toks ru ⟨rfl,λ ys hy=>by rw[I.list_inj hy hq];exact hx⟩ st' sb
 done:=by
  intro X hP hw hK A hA i pins s σ H Q E I st hg hE;subst hP hw hK;obtain⟨xs,hq,hx⟩:=hg;obtain⟨its,rv,p,hz⟩:=I.list hq;have hl:=rv.length;exact wpAny_nextOf_list_end hA st p.isList (by simp;lia) hE
theorem d9s (y:Str) (t:Tok) (it:Addr):Src P w K (Itf (a5z y)) it (λ i h=>h.IsStrIter it (a8p y) y t i) where
 obj:=λ i h st=>by
  obtain⟨o,e,c,d⟩:=st;exact⟨o,e,λ v z=>by rw[d] at z;cases z⟩
 keep:=λ i h h' st k=>let ⟨o,ho,r⟩:=st;⟨o,k o ho,r⟩
 item:=by
  intro X hP hw hK A i pins s σ H Q E I st hg hQ;have hi:i < y.cps.size:=by have:i < (a5z y).length:=hg;rw[a7a] at this;exact this
  have yl:(Itf (a5z y)).yld i H (.str ⟨#[y.cps[i]]⟩) H:=⟨rfl,by rw[b2n,z4z hi];rfl⟩;cases ha:y.cps.all (· < 128) with
  | true =>
   have e:a8p y="str_ascii_iterator":=z02 ha;rw[e] at st hQ;exact wpAny_nextOf_ascii_item st (c:=y.cps[i]) (by simp[hi]) λ h' st' sb=>hQ (.str ⟨#[y.cps[i]]⟩) _ h' _ ⟨_,rfl⟩ yl st' sb
  | false =>
   have e:a8p y="str_iterator":=z01 (by rw[ha];decide);rw[e] at st hQ;exact wpAny_nextOf_wide_item st (c:=y.cps[i]) (by simp[hi]) λ h' st' sb=>hQ (.str ⟨#[y.cps[i]]⟩) _ h' _ ⟨_,rfl⟩ yl st' sb
 done:=by
  intro X hP hw hK A hA i pins s σ H Q E I st hg hE;have hi:y.cps[i]?=none:=by have:(a5z y).length<=i:=hg;rw[a7a] at this;exact Array.getElem?_eq_none this
  cases ha:y.cps.all (· < 128) with
  | true =>
   have e:a8p y="str_ascii_iterator":=z02 ha;rw[e] at st;exact wpAny_nextOf_ascii_end hA st hi hE
  | false =>
   have e:a8p y="str_iterator":=z01 (by rw[ha];decide);rw[e] at st;exact wpAny_nextOf_wide_end hA st hi hE
theorem b3d {A:Around} {s:Shared} {E:Value->Shared->Prop} {it l:Addr} {i:Nat} {its:Array Value} {Q:Value->Shared->Prop} (st:s.heap.IsTupleIter it l i) (tp:s.heap.IsTuple l its)
  (hs:∀ x g,its[i]?=some x->g.IsTupleIter it l (i+1)->Heap.SameBut it s.heap g->Q x {s with heap:=g})
  (hn:its[i]?=none->A.handled=none/\∀ g e,Heap.ExtBut it s.heap g->(∃ o,g.get? e=some o/\o.cls=.type "StopIteration")->E (.ref e) {s with heap:=g}) :
  wpAny (model P w) A (Builtin.SmallTypes.nextOf (.ref it)) Q E s:=by
 obtain⟨oi,ei,ci,di⟩:=id st;obtain⟨ot,et,_,nt,dt⟩:=id tp;have new:∀ k v,Heap.SameBut it s.heap (s.heap.update it (Obj.mapFields (·.setIfInBounds k v))):=λ _ _=>z3k ..
 refine z00 (wpAny_callSpecial?_slot st.typeIs F.slot_tuple_iterator_next (wpAny_call_entry F.slot_tuple_iterator_next st.typeIs F.entry_tuple_iterator_next ?_ (F.args_tuple_iterator_next_1 _)));refine z00 (wpAny_of_eq rfl (z00 (z1n ei di rfl ?_)));refine z00 (z1n ei di rfl (z00 (z3w et dt ?_)));dsimp only;rw[z43];cases q:its[i]? with
 | some x =>
  refine z00 (z2s ei di (by simp) (z05 ⟨x,rfl,z05 (hs x _ q ?_ (new 1 _))⟩));refine⟨_,z2l _ ei (Obj.isFreed_of_fields (z3y di _)),?_,?_⟩
  ·rw[Obj.cls_mapFields];exact ci
  ·rw[z3y di];simp[rawInt]
 | none =>
  obtain⟨hA,f⟩:=hn q;refine z00 (wpAny_rule (z00 (z2s ei di (by simp) (z00 ?_))));refine z00 (z4d (z00 (wpAny_of_eq rfl (z4d (wpAny_raiseNew_none hA (f _ _ (((new 0 _).extBut.push _).push _) ⟨_,z1a _ rfl,rfl⟩)) (by size_fits)))) (by size_fits))
theorem d0d (a it:Addr):Src P w K (Itt K a) it (λ i h=>h.IsTupleIter it a i) where
 obj:=λ i h st=>by
  obtain⟨o,e,c,d⟩:=st;exact⟨o,e,λ v z=>by rw[d] at z;cases z⟩
 keep:=λ i h h' st k=>st.at λ o e=>k o e
 item:=by
  intro X hP hw hK A i pins s σ H Q E I st hg hQ;subst hP hw hK;obtain⟨xs,x,hq,hx⟩:=hg;obtain⟨its,rv,p,hz⟩:=I.tuple hq;obtain⟨u,hu,ru⟩:=rv.get hx;have hu':its.toArray[i]?=some u:=by simpa using hu
  refine b3d st (p) (λ y g hy st' sb=>?_) (λ z=>by rw[hu'] at z;cases z);have e:=z1g (hu'.symm.trans hy);subst e;exact hQ x u g s.toks ru ⟨rfl,λ ys hy=>by rw[I.tuple_inj hy hq];exact hx⟩ st' sb
 done:=by
  intro X hP hw hK A hA i pins s σ H Q E I st hg hE;subst hP hw hK;obtain⟨xs,hq,hx⟩:=hg;obtain⟨its,rv,p,hz⟩:=I.tuple hq;have hl:=rv.length;have hn:its.toArray[i]?=none:=by simp;lia
  exact b3d st (p) (λ y g hy _ _=>by rw[hn] at hy;cases hy) λ _=>⟨hA,hE⟩
theorem c1b {z TI TO i1 i2:Addr} (hz:IsZip s.heap z TI TO .none) (hTI:IsPair s.heap TI (.ref i1) (.ref i2))
  (h:∀ g1,IsZip g1 z TI TO .ellipsis->Heap.SameBut z s.heap g1 ->
   wpAny (model P w) A (Builtin.SmallTypes.nextOf (.ref i1)) (λ x s2=>∃ a b,IsPair s2.heap TO a b/\∀ g3,IsPair g3 TO x b->Heap.SameBut TO s2.heap g3 ->
    wpAny (model P w) A (Builtin.SmallTypes.nextOf (.ref i2)) (λ y s4=>IsPair s4.heap TO x b/\∀ g5,IsPair g5 TO x y->Heap.SameBut TO s4.heap g5->IsZip g5 z TI TO .ellipsis /\
      ∀ g7 g8,Heap.SameBut z (g5.push {cls:=.type "tuple",data:=.seq #[x,y]}) g7->Heap.SameBut z g7 g8->IsZip g8 z TI TO (rawInt g5.objs.size)->Q (.done (.ret (.ref g5.objs.size))) {s4 with heap:=g8})
     (λ e s4=>IsZip s4.heap z TI TO .ellipsis/\∀ g5,Heap.SameBut z s4.heap g5->E e {s4 with heap:=g5}) {s2 with heap:=g3})
    (λ e s2=>IsZip s2.heap z TI TO .ellipsis/\∀ g3,Heap.SameBut z s2.heap g3->E e {s2 with heap:=g3}) {s with heap:=g1}) :
  wpAny (model P w) A (Builtin.«zip.__next__» ⟨[.ref z],[]⟩) Q E s:=by
 have free:wpAny (model P w) A (Builtin.SmallTypes.ownedTupleIsFree (.ref z)) (λ b s'=>b=true/\s'=s) E s:=by
  exact z00 (z1n hz rfl rfl (z05 ⟨rfl,rfl⟩))
 refine z00 (wpAny_of_eq rfl ?_);refine z00 (z1n hz rfl (x:=.bool false) rfl (z00 (z1n hz rfl rfl (z00 (z3w hTI rfl (z00 (thn free λ b s' hb=>?_)))))));obtain⟨rfl,rfl⟩:=hb;refine z00 (wpAny_rule (z00 (z1n hz rfl rfl (z00 (z4a hz (by simp) λ g1 q1 k1=>z00 ?_)))));refine z00 (z00 (wpAny_onRaise (z00 (z0j (h g1 q1 k1) (λ x s2 d1=>?_) λ e s2 ⟨q2,f2⟩=>z4a q2 (by simp) λ g3 _ k3=>f2 g3 k3))));obtain⟨a,b,t2,d1⟩:=d1;refine z05 (z00 (z3w t2 rfl (z00 (wpAny_updateSeq_pair t2 λ g3 t3 k3=>z00 (wpAny_letGo (z05 (z00 (z00 (wpAny_onRaise ?_)))))))));refine z00 (z0j (d1 g3 t3 k3) (λ y s4 d2=>?_) λ e s4 ⟨q4,f4⟩=>z4a q4 (by simp) λ g5 _ k5=>f4 g5 k5);obtain⟨t4,d2⟩:=d2;refine z05 (z00 (z3w t4 rfl (z00 (wpAny_updateSeq_pair t4 λ g5 t5 k5=>z00 (wpAny_letGo (z05 (z05 (z00 (z3w t5 rfl (z00 (wpAny_newTuple ?_ (by show 2<=sizeLine;decide))))))))))));obtain⟨q5,d2⟩:=d2 g5 t5 k5;have out:wpAny (model P w) A (Builtin.SmallTypes.ownedTupleHandOut (.ref z) (.ref g5.objs.size)) (λ _ s'=>Q (.done (.ret (.ref g5.objs.size))) s') E {s4 with heap:=g5.push {cls:=.type "tuple",data:=.seq #[x,y]}}:=by
  refine z00 (z4a (z0k _ q5) (by simp) λ g7 q7 k7=>z4a q7 (by simp) λ g8 q8 k8=>d2 g7 g8 k7 k8 ?_);exact q8
 exact z00 (thn out λ _ s' q=>z05 q)
def ItZ (J1 J2:It):It:=⟨λ i H=>J1.go i H/\J2.go i H,λ i H v H'=>∃ p x y,J1.yld i H x H/\J2.yld i H y H/\v=.ref p/\H p=none/\H'=upd H p (.tup [x,y]),λ i H=>J1.stop i H\/(J1.go i H/\J2.stop i H)⟩
structure e1l (z TI TO i1 i2:Addr):Prop where
 TIz:TI≠z
 TOz:TO≠z
 i1z:i1≠z
 i2z:i2≠z
 TITO:TI≠TO
 TIi1:TI≠i1
 TIi2:TI≠i2
 TOi1:TO≠i1
 TOi2:TO≠i2
 i12:i1≠i2
theorem d6e (n:Nat):e1l (n+4) (n+2) (n+3) n (n+1):=by
 constructor<;>(intro h;first | exact absurd (show n+2=n+4 from h) (by lia) | exact absurd (show n+3=n+4 from h) (by lia) | exact absurd (show n=n+4 from h) (by lia) | exact absurd (show n+1=n+4 from h) (by lia) | exact absurd (show n+2=n+3 from h) (by lia) | exact absurd (show n+2=n from h) (by lia) | exact absurd (show n+2=n+1 from h) (by lia) | exact absurd (show n+3=n from h) (by lia) | exact absurd (show n+3=n+1 from h) (by lia) | exact absurd (show n=n+1 from h) (by lia))
theorem d5l {z TI TO i1 i2:Addr} (D:e1l z TI TO i1 i2) (S1:Src P w K J1 i1 st1) (S2:Src P w K J2 i2 st2) :
  e2l P w K (.Tuple elts kk tpos) (ItZ J1 J2) [z,TI,TO,i1,i2] z (λ i h=>IsZip h z TI TO .none/\IsPair h TI (.ref i1) (.ref i2)/\(∃ a b,IsPair h TO a b)/\st1 i h/\st2 i h) where
 mem:=by simp
 obj:=λ i h ⟨hz,hTI,⟨a,b,hTO⟩,h1,h2⟩ c hc=>by
  simp only [z06,z1r,z1v] at hc;rcases hc with e | e | e | e | e
  ·rw[e];exact⟨_,hz,λ v z=>by simp at z⟩
  ·rw[e];exact⟨_,hTI,λ v z=>by simp at z⟩
  ·rw[e];exact⟨_,hTO,λ v z=>by simp at z⟩
  ·rw[e];exact S1.obj i h h1
  ·rw[e];exact S2.obj i h h2
 keep:=λ i h h' ⟨hz,hTI,⟨a,b,hTO⟩,h1,h2⟩ k=>⟨k z (by simp) _ hz,k TI (by simp) _ hTI,nx3 a b (k TO (by simp) _ hTO),S1.keep i h h' h1 (k i1 (by simp)),S2.keep i h h' h2 (k i2 (by simp))⟩
 item:=by
  intro X hP hw hK hc i pins s σ H E I hf st hg;subst hP hw hK;obtain⟨hz,hTI,⟨a,b,hTO⟩,h1,h2⟩:=st;have ty:s.TypeIs (.ref z) "zip":=⟨_,hz,rfl⟩;have tz:∀ {s':Shared} {H':Hp} {h':Heap} {t':Nat} {it:Addr},it∈[z,TI,TO,i1,i2]->H' it=none->Inv X pins σ H' s'->Heap.SameBut it s'.heap h'->Inv X pins σ H' {s' with heap:=h',toks:=t'}:=λ {s' H' h' t' it} hm hn I' sb=>by
   obtain⟨f0,f1,f2,f3,f4,f5⟩:=hf it hm;exact I'.turned (λ b o hb e=>(sb.2 b hb).trans e) hn f1 f3 f4 f5
  have fz:=(hf z (by simp)).1;refine z00 (wpAny_attempt (wpAny_callSpecial?_slot ty F.slot_zip_next (wpAny_call_entry F.slot_zip_next ty F.entry_zip_next (c1b hz hTI λ u1 q1 k1=>?_) (F.args_zip_next_1 _))));have I1:=tz (t':=s.toks) (by simp) fz I k1;refine S1.item X rfl rfl rfl _ i pins {s with heap:=u1} σ H _ _ I1 (S1.keep i _ _ h1 λ o e=>k1.extBut _ _ D.i1z e) hg.1 λ x ux u2 t2 rx y1 st1' k2=> nx12 a b (k2.extBut _ _ D.TOi1 (k1.extBut _ _ D.TOz hTO)) λ u3 p3 k3=>?_
  have I2:Inv X pins σ H {s with heap:=u2,toks:=t2}:=tz (s':={s with heap:=u1}) (by simp) (hf i1 (by simp)).1 I1 k2;have I3:Inv X pins σ H {s with heap:=u3,toks:=t2}:=tz (s':={s with heap:=u2,toks:=t2}) (by simp) (hf TO (by simp)).1 I2 k3;refine S2.item X rfl rfl rfl _ i pins {s with heap:=u3,toks:=t2} σ H _ _ I3 (S2.keep i _ _ h2 λ o e=>k3.extBut _ _ D.TOi2.symm (k2.extBut _ _ D.i12.symm (k1.extBut _ _ D.i2z e))) hg.2 λ y uy u4 t4 ry y2 st2' k4=>⟨k4.extBut _ _ D.TOi2 p3,λ u5 p5 k5=>?_⟩
  have I4:Inv X pins σ H {s with heap:=u4,toks:=t4}:=tz (s':={s with heap:=u3,toks:=t2}) (by simp) (hf i2 (by simp)).1 I3 k4;have I5:Inv X pins σ H {s with heap:=u5,toks:=t4}:=tz (s':={s with heap:=u4,toks:=t4}) (by simp) (hf TO (by simp)).1 I4 k5;have all:∀ c o,c≠z->c≠TO->c≠i1->c≠i2->s.heap.get? c=some o->u5.get? c=some o:=λ c o n1 n2 n3 n4 e=>k5.extBut _ _ n2 (k4.extBut _ _ n4 (k3.extBut _ _ n2 (k2.extBut _ _ n3 (k1.extBut _ _ n1 e))))
  have q5:=k5.extBut _ _ D.TOz.symm (k4.extBut _ _ D.i2z.symm (k3.extBut _ _ D.TOz.symm (k2.extBut _ _ D.i1z.symm q1)));refine⟨q5,λ u7 u8 k7 k8 q8=>⟨_,rfl,z05 ⟨_,rfl,wpAny_letOwnedTupleGo_zip q8 λ u9 q9 k9=>?_⟩⟩⟩;have lt:∀ c∈[z,TI,TO,i1,i2],c < u5.objs.size:=λ c hc=>by
   simp only [z06,z1r,z1v] at hc;rcases hc with e | e | e | e | e
   ·rw[e];exact z09 q5
   ·rw[e];exact z09 (all _ _ D.TIz D.TITO D.TIi1 D.TIi2 hTI)
   ·rw[e];exact z09 p5
   ·rw[e];obtain⟨o,eo,_⟩:=S1.obj _ _ st1';exact z09 (k5.extBut _ _ D.TOi1.symm (k4.extBut _ _ D.i12 (k3.extBut _ _ D.TOi1.symm eo)))
   ·rw[e];obtain⟨o,eo,_⟩:=S2.obj _ _ st2';exact z09 (k5.extBut _ _ D.TOi2.symm eo)
  have nT:u5.get? u5.objs.size=none:=z2u (z04 _);have I6:Inv X pins σ (upd H u5.objs.size (.tup [x,y])) {s with heap:=u5.push {cls:=.type "tuple",data:=.seq #[ux,uy]},toks:=t4} :=
   b8i (s:={s with heap:=u5,toks:=t4}) I5 (λ b u e=>z0k _ e) nT (⟨by show 2<=sizeLine;decide,nx17 ([ux,uy]) (.cons rx (.cons ry .nil)) _ (z1a _ rfl) rfl ⟨_,rfl⟩⟩)
  have nz:(upd H u5.objs.size (.tup [x,y])) z=none:=by rw[a0m (z0l (lt z (by simp)))];exact fz
  have I7:Inv X pins σ (upd H u5.objs.size (.tup [x,y])) {s with heap:=u7,toks:=t4}:=tz (s':={s with heap:=u5.push {cls:=.type "tuple",data:=.seq #[ux,uy]},toks:=t4}) (by simp) nz I6 k7;have I8:Inv X pins σ (upd H u5.objs.size (.tup [x,y])) {s with heap:=u8,toks:=t4}:=tz (s':={s with heap:=u7,toks:=t4}) (by simp) nz I7 k8;have I9:Inv X pins σ (upd H u5.objs.size (.tup [x,y])) {s with heap:=u9,toks:=t4}:=tz (s':={s with heap:=u8,toks:=t4}) (by simp) nz I8 k9;have up:∀ c o,c≠z->u5.get? c=some o->u9.get? c=some o:=λ c o n e=>k9.extBut _ _ n (k8.extBut _ _ n (k7.extBut _ _ n (z0k _ e)))
  refine nx25 (.ref u5.objs.size) _ I9 rfl (nx2 u5.objs.size x y y1 y2 rfl (a3e I5 nT) rfl) ⟨q9,up _ _ D.TIz (all _ _ D.TIz D.TITO D.TIi1 D.TIi2 hTI),nx3 _ _ (up _ _ D.TOz p5),
   S1.keep _ _ _ st1' λ o e=>up _ o D.i1z (k5.extBut _ _ D.TOi1.symm (k4.extBut _ _ D.i12 (k3.extBut _ _ D.TOi1.symm e))),S2.keep _ _ _ st2' λ o e=>up _ o D.i2z (k5.extBut _ _ D.TOi2.symm e)⟩ λ c hc=>?_
  rw[a0m (z0l (lt c hc))];exact(hf c hc).1
 done:=by
  intro X hP hw hK hc i pins s σ H E I hf st hg;subst hP hw hK;obtain⟨hz,hTI,⟨a,b,hTO⟩,h1,h2⟩:=st;have hh:X.A.in1.handled=none:=I.ok.hd hc;have ty:s.TypeIs (.ref z) "zip":=⟨_,hz,rfl⟩;have tz:∀ {s':Shared} {h':Heap} {t':Nat} {it:Addr},it∈[z,TI,TO,i1,i2]->Inv X pins σ H s'->(∀ b o,b≠it->s'.heap.get? b=some o->h'.get? b=some o)->Inv X pins σ H {s' with heap:=h',toks:=t'}:=λ {s' h' t' it} hm I' sb=>by
   obtain⟨f0,f1,f2,f3,f4,f5⟩:=hf it hm;exact I'.turned sb f0 f1 f3 f4 f5
  have same:∀ {it:Addr} {g h:Heap},Heap.SameBut it g h->∀ b o,b≠it->g.get? b=some o->h.get? b=some o:=λ sb b o hb e=>(sb.2 b hb).trans e
  refine z00 (wpAny_attempt (wpAny_callSpecial?_slot (name:=Str.ofString "__next__") ty F.slot_zip_next (wpAny_call_entry F.slot_zip_next ty F.entry_zip_next (c1b hz hTI λ u1 q1 k1=>?_) (F.args_zip_next_1 _))));have I1:Inv X pins σ H {s with heap:=u1}:=tz (by simp) I (same k1);have st1:=S1.keep i _ _ h1 λ o e=>k1.extBut _ _ D.i1z e
  have ended:∀ {g:Heap} {tk:Nat} {e:Addr},Inv X pins σ H {s with heap:=g,toks:=tk}->IsZip g z TI TO .ellipsis->(∃ o,g.get? e=some o/\o.cls=.type "StopIteration")->IsZip g z TI TO .ellipsis/\∀ g5,Heap.SameBut z g g5 ->
    wpAny (model X.prog X.w) X.A ((do if <- isInstance (.ref e) (.type "StopIteration") then return none else throw (.ref e)):Sem (Option Value)) (λ r s1=>r=none/\Inv X pins σ H s1) E {s with heap:=g5,toks:=tk}:=λ {g tk e} I' q ⟨o,eo,co⟩=>⟨q,λ g5 k5=>by
   have ne:e≠z:=λ y=>by rw[y,q] at eo;cases eo;simp at co
   exact z00 (wpAny_isInstance ⟨o,k5.extBut _ _ ne eo,co⟩ isSubtype_stop (z05 ⟨rfl,tz (s':={s with heap:=g,toks:=tk}) (by simp) I' (same k5)⟩))⟩
  rcases hg with e1 | ⟨g1,e2⟩
  ·exact S1.done X rfl rfl rfl _ hh i pins {s with heap:=u1} σ H _ _ I1 st1 e1 λ u2 e k2 he=>ended (tz (s':={s with heap:=u1}) (by simp) I1 k2) (k2 _ _ D.i1z.symm q1) he
  ·refine S1.item X rfl rfl rfl _ i pins {s with heap:=u1} σ H _ _ I1 st1 g1 λ x ux u2 t2 rx y1 st1' k2=> nx12 a b (k2.extBut _ _ D.TOi1 (k1.extBut _ _ D.TOz hTO)) λ u3 p3 k3=>?_
   have I2:Inv X pins σ H {s with heap:=u2,toks:=t2}:=tz (it:=i1) (s':={s with heap:=u1}) (by simp) I1 (same k2);have I3:Inv X pins σ H {s with heap:=u3,toks:=t2}:=tz (it:=TO) (s':={s with heap:=u2,toks:=t2}) (by simp) I2 (same k3);refine S2.done X rfl rfl rfl _ hh i pins {s with heap:=u3,toks:=t2} σ H _ _ I3 (S2.keep i _ _ h2 λ o e=>k3.extBut _ _ D.TOi2.symm (k2.extBut _ _ D.i12.symm (k1.extBut _ _ D.i2z e))) e2 λ u4 e k4 he=>?_
   exact ended (tz (s':={s with heap:=u3,toks:=t2}) (by simp) I3 k4) (k4 _ _ D.i2z.symm (k3.extBut _ _ D.TOz.symm (k2.extBut _ _ D.i1z.symm q1))) he
 self:=λ _ _ _ _ _ st h=>wpAny_pyIter_zip st.1 h
inductive c8d (h:Heap):Value->Obj->Prop where
 | list {l:Addr} {xs:Array Value} (e:h.IsList l xs):c8d h (.ref l) {cls:=.type "list_iterator",data:=.fields #[.ref l,.int 0 0]}
 | tup {l:Addr} {xs:Array Value} (e:h.IsTuple l xs):c8d h (.ref l) {cls:=.type "tuple_iterator",data:=.fields #[.ref l,.int 0 0]}
 | str (y:Str) (t:Tok):c8d h (.str y t) (c6j y t)
theorem c8d.keep (x:c8d h u o) (k:∀ b o,h.get? b=some o->h'.get? b=some o):c8d h' u o:=by
 cases x with
 | list e=>exact .list (e.at λ o q=>k _ o q)
 | tup e=>obtain⟨o,e,r⟩:=e;exact .tup ⟨o,k _ _ e,r⟩
 | str y t=>exact .str y t
theorem b6s {A:Around} {E:Value->Shared->Prop} {s:Shared} {u:Value} {o:Obj} {Q:Value->Shared->Prop} (x:c8d s.heap u o) (h:Q (.ref s.heap.objs.size) {s with heap:=s.heap.push o}):wpAny (model P w) A (pyIter u) Q E s:=by
 cases x with
 | list e=>exact z4h e h
 | tup e=>exact wpAny_pyIter_tuple e h
 | str y t=>exact b4t h
abbrev zA (h:Heap) (o1:Obj):Heap:=h.push o1
abbrev zB (h:Heap) (o1 o2:Obj):Heap:=(zA h o1).push o2
abbrev zC (h:Heap) (o1 o2:Obj):Heap:=(zB h o1 o2).push {cls:=.type "tuple",data:=.seq #[.ref h.objs.size,.ref (zA h o1).objs.size]}
abbrev zD (h:Heap) (o1 o2:Obj):Heap:=(zC h o1 o2).push {cls:=.type "tuple",data:=.seq #[.none,.none]}
abbrev zE (h:Heap) (o1 o2:Obj):Heap:=(zD h o1 o2).push {cls:=.type "zip",data:=.fields #[.none,.bool false,.bool false,.ref (zB h o1 o2).objs.size,.ref (zC h o1 o2).objs.size]}
structure d7z (h g:Heap) (o1 o2:Obj) (z TI TO i1 i2:Addr):Prop where
 zip:IsZip g z TI TO .none
 ins:IsPair g TI (.ref i1) (.ref i2)
 outs:IsPair g TO .none .none
 one:g.get? i1=some o1
 two:g.get? i2=some o2
 keep:∀ c o,h.get? c=some o->g.get? c=some o
 young:∀ c∈[z,TI,TO,i1,i2],h.objs.size<=c
 ap:e1l z TI TO i1 i2
theorem d8p (h:Heap) (n1:o1.isFreed=false) (n2:o2.isFreed=false):d7z h (zE h o1 o2) o1 o2 (zD h o1 o2).objs.size (zB h o1 o2).objs.size (zC h o1 o2).objs.size h.objs.size (zA h o1).objs.size:=by
 have up:∀ {g:Heap} {a:Addr} {o u:Obj},g.get? a=some o->(g.push u).get? a=some o:=λ e=>z0k _ e
 have at_:∀ {g:Heap} {o:Obj},o.isFreed=false->(g.push o).get? g.objs.size=some o:=λ e=>z1a _ e
 have sA:(zA h o1).objs.size=h.objs.size+1:=z3n ..;have sB:(zB h o1 o2).objs.size=h.objs.size+2:=by rw[z3n,sA]
 have sC:(zC h o1 o2).objs.size=h.objs.size+3:=by rw[z3n,sB]
 have sD:(zD h o1 o2).objs.size=h.objs.size+4:=by rw[z3n,sC]
 refine⟨at_ rfl,up (up (at_ rfl)),up (at_ rfl),up (up (up (up (at_ n1)))),up (up (up (at_ n2))),λ c o e=>up (up (up (up (up e)))),λ c hc=>?_,?_⟩
 ·rw[sA,sB,sC,sD] at hc;simp only [z06,z1r,z1v] at hc;rcases hc with e | e | e | e | e<;>(rw[e];first | exact Nat.le_add_right _ _ | exact z04 _)
 ·rw[sA,sB,sC,sD];exact d6e _
theorem b8y (u1 u2:Value) (o1 o2:Obj) :
  Meets (Builtin.«zip.__new__» ⟨[.type "zip",u1,u2],[]⟩) (λ _ R s=>c8d s.heap u1 o1/\c8d s.heap u2 o2/\R (.ok (.ret (.ref (zD s.heap o1 o2).objs.size))) {s with heap:=zE s.heap o1 o2}) :=
 .of_wp λ prog w A R s ⟨x1,x2,r⟩=>by
  obtain⟨hp,g,d,tk,os⟩:=s;have hsub:=sub_zip;have L1:=x1;have L2:c8d (Shared.heap ⟨hp.push o1,g,d,tk,os⟩) u2 o2:=x2.keep λ b o e=>z0k _ e
  wp_walk using b6s L1,b6s L2
  exact⟨_,rfl,r⟩
theorem c2b {A:Around} {E:Value->Shared->Prop} {s:Shared} {u1 u2:Value} {o1 o2:Obj} {Q:Value->Shared->Prop} (x1:c8d s.heap u1 o1) (x2:c8d s.heap u2 o2) (n1:o1.isFreed=false) (n2:o2.isFreed=false)
  (k:∀ g z TI TO i1 i2,d7z s.heap g o1 o2 z TI TO i1 i2->Q (.ref z) {s with heap:=g}):wpAny (model P w) A (call (.type "zip") [u1,u2]) Q E s :=
 callType_new F.called_zip (by decide) (F.typeCall_zip_2 u1 u2) (F.newCall_zip_2 u1 u2) (λ obj=>F.args_object_init_3 obj u1 u2) F.entry_zip_new (b8y u1 u2 o1 o2) ⟨x1,x2,⟨_,(d8p s.heap n1 n2).zip,rfl⟩,k _ _ _ _ _ _ (d8p s.heap n1 n2)⟩
end
inductive c9a (K:W.Frag) (H:Hp):V->It->Prop where
 | list {a:Addr} {xs:List V} (h:SqL K H a xs):c9a K H (.ref a) (Itl K a)
 | tup {a:Addr} {xs:List V} (h:SqT K H a xs):c9a K H (.ref a) (Itt K a)
 | str (y:Str):c9a K H (.str y) (Itf (a5z y))
section
variable {X:Cx}
theorem d7n {pins:List (Addr×Obj)} {σ:L2.St} {H:Hp} {s:Shared} {v:V} {J:It} {u:Value} (I:Inv X pins σ H s) (x:c9a X.K H v J) (r:a3c v u):∃ o,c8d s.heap u o/\o.isFreed=false/\∀ it h',h'.get? it=some o->∃ st,Src X.prog X.w X.K J it st/\st 0 h':=by
 cases x with
 | list h =>
  cases r;obtain⟨its,rv,p,hz⟩:=I.list h;exact⟨_,.list p.isList,rfl,λ it h' e=>⟨_,d4u _ it,_,e,rfl,rfl⟩⟩
 | tup h =>
  cases r;obtain⟨its,rv,p,hz⟩:=I.tuple h;exact⟨_,.tup (p),rfl,λ it h' e=>⟨_,d0d _ it,_,e,rfl,rfl⟩⟩
 | str y =>
  obtain⟨t,rfl⟩:=r;exact⟨_,.str y t,rfl,λ it h' e=>⟨_,d9s y t it,_,e,rfl,rfl⟩⟩
def e8p (K:W.Frag) (ta:TA):TI:=λ σ H R=>ta σ H λ vs H1=>∃ u v J1 J2,vs=[u,v]/\c9a K H1 u J1/\c9a K H1 v J2/\R (ItZ J1 J2) H1
theorem d8u {a b:Expr} {ta:TA} {p pos:Pos} {elts:List Expr} {kk:Nat} {tpos:Pos} (hg:Gl X "zip") (hm:X.mg "zip"=none) (ha:PA X [a,b] ta) (hs:starEach [a,b] X.env=[(false,eval a X.env),(false,eval b X.env)]:=by rfl) (hs2:starEach [b] X.env=[(false,eval b X.env)]:=by rfl) :
  PI X (.Tuple elts kk tpos) (.Call (.Name "zip" p) [a,b] [] pos) (e8p X.K ta):=by
 constructor;intro pins s σ H R I h;refine Call_ (b1r I hg hm boot_zip (z45 (thn (ha pos pins s σ H _ I h) λ us s1 ⟨vs,H1,I1,r1,q1⟩=>?_) (by rw[hs,hs2]) (by rw[hs2];rfl)));obtain⟨x,y,J1,J2,rfl,x1,x2,q⟩:=q1;obtain⟨u,w',rfl,ru,rw'⟩:=c0w r1;obtain⟨o1,v1,n1,k1⟩:=d7n I1 x1 ru;obtain⟨o2,v2,n2,k2⟩:=d7n I1 x2 rw';refine c2b v1 v2 n1 n2 λ g z TI TO i1 i2 Z=>?_
 obtain⟨st1,S1,t1⟩:=k1 _ _ Z.one;obtain⟨st2,S2,t2⟩:=k2 _ _ Z.two;have I2:=I1.kept (t':=s1.toks) Z.keep;exact wpAny_pyIter_zip Z.zip (nx36 z ([z,TI,TO,i1,i2]) _ (ItZ J1 J2) H1 rfl I2 (d5l Z.ap S1 S2) ⟨Z.zip,Z.ins,nx3 _ _ Z.outs,t1,t2⟩ (λ b hb=>I1.fpOk (Z.young b hb) (I1.hok.fresh (Z.young b hb))) q)
end
structure Gives (J:It) (H:Hp) (xs:List V):Prop where
 go:∀ i,i < xs.length->J.go i H
 stop:∀ i,xs.length<=i->J.stop i H
 yld:∀ i x H',J.yld i H x H'->xs[i]?=some x
theorem a1s {K:W.Frag} (h:SqL K H a xs):Gives (Itl K a) H xs:=⟨λ i hi=> nx12 xs (xs[i]) h (by simp[hi]),λ i hi=>⟨xs,h,hi⟩,λ i x H' y=>y.2 xs h⟩
theorem c1f {K:W.Frag} {H:Hp} {a:Addr} {xs:List V} (h:SqT K H a xs):Gives (Itt K a) H xs:=⟨λ i hi=> nx12 xs (xs[i]) h (by simp[hi]),λ i hi=>⟨xs,h,hi⟩,λ i x H' y=>y.2 xs h⟩
theorem c9s {g:TG} {tb:TS} {D:b9c} (Pv:Nat->L2.St->Hp->Prop) (h0:Pv 0 σ H) (hl:∀ i σ H,Pv i σ H->Gives J1 H xs/\Gives J2 H ys)
  (hs:∀ i x y σ H p,xs[i]?=some x->ys[i]?=some y->Pv i σ H->H p=none->g (.ref p) σ (upd H p (.tup [x,y])) λ σ2 H2=>tb {D with nx:=Pv (i+1),ct:=Pv (i+1),bk:=D.nx} σ2 H2) (hd:∀ σ H,Pv (min xs.length ys.length) σ H->D.nx σ H) :
  ∃ W:Nat->Nat->L2.St->Hp->Prop,(∃ m,W 0 m σ H)/\∀ i m σ H,W i m σ H ->
   ((ItZ J1 J2).stop i H/\D.nx σ H)\/((ItZ J1 J2).go i H/\∃ N:L2.St->Hp->Prop,(∀ σ' H',N σ' H'->∃ m',m' < m/\W (i+1) m' σ' H')/\∀ x H',(ItZ J1 J2).yld i H x H'->g x σ H' λ σ2 H2=>tb {D with nx:=N,ct:=N,bk:=D.nx} σ2 H2):=by
 refine⟨λ i m σ H=>m=min xs.length ys.length - i/\i<=min xs.length ys.length/\Pv i σ H,⟨min xs.length ys.length,by simp,z0x _,h0⟩,?_⟩;rintro i m σ H ⟨rfl,hi,p⟩;obtain⟨G1,G2⟩:=hl i σ H p;by_cases hlt:i < min xs.length ys.length
 ·refine .inr ⟨⟨G1.go i (by lia),G2.go i (by lia)⟩,Pv (i+1),λ σ' H' p'=>⟨min xs.length ys.length - (i+1),by lia,rfl,hlt,p'⟩,λ v H' y=>?_⟩;obtain⟨q,x,y,y1,y2,rfl,hn,rfl⟩:=y;exact hs i x y σ H q (G1.yld i x _ y1) (G2.yld i y _ y2) p hn
 ·have e:i=min xs.length ys.length:=by lia
  subst e;refine .inl ⟨?_,hd σ H p⟩;by_cases h:xs.length<=ys.length
  ·exact .inl (G1.stop _ (by lia))
  ·exact .inr ⟨G1.go _ (by lia),G2.stop _ (by lia)⟩
end My
namespace My
open PySem PySem.Spec PyProof.Rows L2 PySem.NumText
theorem e4h (c:Nat):(!(Builtin.Str.occurrences ("0123456789":Str) ⟨#[c]⟩ 0 ("0123456789":Str).length 1).isEmpty)=dig c:=by
 rw[StrLaws.found_one];exact d2k c
def a1d (n:Nat) (x:Str):Prop:=x.length<=n/\∀ c∈x.cps.toList,c < 16 ^ 8
theorem a1d.mono {n m:Nat} {x:Str} (h:a1d n x) (l:n<=m):a1d m x:=⟨z0s h.1 l,h.2⟩
theorem a1d.app {n m:Nat} {x y:Str} (h:a1d n x) (g:a1d m y):a1d (n+m) (x++y):=⟨by rw[z0d];have:=h.1;have:=g.1;lia,λ c hc=>by
 rw[a0g] at hc;rcases z08.mp hc with z | z
 ·exact h.2 c z
 ·exact g.2 c z⟩
theorem d1t (x:Str) (lo hi:Option Int):∀ c∈(Txt.slice x lo hi).cps.toList,c∈x.cps.toList:=by
 intro c hc;unfold Txt.slice at hc;split at hc
 ·exact hc
 ·have hc':c∈(PySem.Builtin.Str.strSliceIndices lo hi 1 x.length).filterMap (x.cps[·]?):=hc;obtain⟨i,_,e⟩:=z27.mp hc';rw[<-z2a] at e;exact z0h e
theorem a1d.slice {n:Nat} {x:Str} (h:a1d n x) (lo hi:Option Int):a1d n (Txt.slice x lo hi):=⟨z0s (z3s x _ _) h.1,λ c hc=>h.2 c (d1t x lo hi c hc)⟩
theorem a1d.one {c:Nat} (h:c < 16 ^ 8):a1d 1 ⟨#[c]⟩:=by
 refine⟨z04 _,λ d hd=>?_⟩;have:d=c:=by simpa using hd
 rw[this];exact h
section
variable {X:Cx} {K:W.Frag}
theorem d2f (hK:X.K=K):a8k X (.builtin "isinstance") (λ xs H Q=>∃ a C b c,xs=[V.ref a,c]/\H a=some (c9l a C)/\d3n K C/\((∃ D,c=V.ref D/\W.kitOne K (.ref C) (.ref D)=some b)\/∃ T,c=V.ty T/\W.kitOne K (.ref C) (.type T)=some b)/\Q (.bl b) H):=by
 subst hK;exact d3z
theorem c8s (hK:X.K=K):a8k X (.builtin "isinstance") (λ xs H Q=>∃ (a C tp:Addr) (ds:List Addr) (b:Bool),xs=[V.ref a,V.ref tp]/\H a=some (c9l a C)/\d3n K C/\H tp=some (.tup (ds.map V.ref))/\W.kitAny K (.ref C) (ds.map Value.ref)=some b/\Q (.bl b) H):=by
 subst hK;exact c9p
end
end My
namespace My
open PySem PySem.Spec PyProof.Rows L2
section
variable {X:Cx} {pins:List (Addr×Obj)} {σ:L2.St} {H:Hp} {s:Shared} {scope:Scope} {N:List Str} {target iter elt:Expr} {pos:Pos} {g:TG} {te:TE}
theorem a9y (I:Inv X pins σ H s) (hf:∀ b∈fp,b6k X pins H b) (os:s'.os=s.os) (bare:AllBare s'.gens) (un:Un (frs X.stack) fp H H' s.heap s'.heap) (hok:HOk X.prog X.w H' s'.heap) (nC:H' C=none) (hC:s.heap.objs.size<=C) :
  Inv X pins σ H' s'/\b6k X pins H' C :=
 ⟨I.call' os un hok bare λ b hb=>let ⟨_,f1,_,f3,f4,f5⟩:=hf b hb;⟨f3,f1,f4,f5⟩,I.fpOk hC nC⟩
theorem b8z (I:Inv X pins σ H' s) (f:b6k X pins H' C) (k:Heap.SameBut C s.heap h'):Inv X pins σ H' {s with heap:=h'} :=
 let ⟨f0,f1,_,f3,f4,f5⟩:=f
 I.turned (t':=s.toks) (λ b o hb e=>(k.2 b hb).trans e) f0 f1 f3 f4 f5
end
end My
namespace My
open PySem PySem.Spec PyProof.Rows L2 PySem.Builtin.Str
theorem c1a:∀ (k:Nat) (xs:List Str),a3b (xs.map V.str) (strsFrom k xs)
 | _,[]=>.nil
 | k,_::r=>.cons ⟨k,rfl⟩ (c1a (k+1) r)
theorem b2p:∀ {ys:List Str} {us:List Value},a3b (ys.map V.str) us->StrsAre us ys
 | [],_,.nil=>.nil
 | y::r,_,.cons ⟨t,e⟩ q=>by
  subst e;exact .cons y t (b2p q)
section
variable {X:Cx}
theorem a4y:MtR X "str.split" (λ x xs H Q=>∃ z y:Str,x=.str z/\xs=[V.str y]/\1<=y.length/\z.length<=10000/\∀ p,H p=none->Q (.ref p) (upd H p (.lst ((Txt.split z y).map V.str)))):=by
 intro pins s σ H x xs v us Q I rx rv h;obtain⟨z,y,rfl,rfl,hy,hz,q⟩:=h;obtain⟨t,rfl⟩:=rx;obtain⟨u,rfl,t',rfl⟩:=a8l rv;have hs:(20000:Nat)<=sizeLine:=by decide
 have hl:(Txt.split z y).length<=20000:=by have:=split_le z y;lia
 have hy0:(y.length == 0)=false:=by
  have:¬ y.length=0:=by lia
  simpa using this
 have nD:s.heap.get? s.heap.objs.size=none:=z2u (z04 _);have fin:∀ (us:List Value) (k:Nat),a3b ((Txt.split z y).map V.str) us->EP X pins σ Q (.ref s.heap.objs.size) {s with heap:=s.heap.push {cls:=.type "list",data:=.seq us.toArray},toks:=k}:=λ us k r =>
  nx0 (.ref _) _ (b8i (o:=.lst ((Txt.split z y).map V.str)) I (λ b o e=>z0k _ e) nD (⟨by rw[z03];lia,nx12 us _ r (z1a _ rfl)⟩)) rfl (q _ (a3e I nD))
 have one:Txt.split z y=[z]->a3b ((Txt.split z y).map V.str) [Value.str z t]:=λ e=>by rw[e];exact .cons ⟨t,rfl⟩ .nil
 cases h1:(decide (z.length < y.length) || decide (strKind z < strKind y)) with
 | true=>exact z3a F.slot_str_split (z26 _ _ _) F.entry_str_split (F.args_str_split_2 _ _) (meets_str_split_cannot_occur z y t t' h1) (fin _ _ (one (z02 h1)))
 | false =>
  have ns:¬ (decide (z.length < y.length) || decide (strKind z < strKind y))=true:=by rw[h1];decide
  cases hf:(occurrences z y 0 z.length (z.length+1)).isEmpty with
  | true=>exact z3a F.slot_str_split (z26 _ _ _) F.entry_str_split (F.args_str_split_2 _ _) (meets_str_split_not_found z y t t' h1 hy0 hf) (fin _ _ (one ((z01 ns).trans (z02 hf))))
  | false =>
   have e:Txt.split z y=partsBetween z (occurrences z y 0 z.length (z.length+1)) y.length:=(z01 ns).trans (z01 (by rw[hf];decide));have r:=c1a s.toks (partsBetween z (occurrences z y 0 z.length (z.length+1)) y.length);rw[<-e] at r;refine z3a F.slot_str_split (z26 _ _ _) F.entry_str_split (F.args_str_split_2 _ _) (meets_str_split_sep z y t t' h1 hy0 hf (by lia) (by rw[<-e];lia)) ?_;have g:=fin _ (s.toks+(Txt.split z y).length) r;rw[e] at g;exact g
theorem b0r:MtR X "str.join" (λ x xs H Q=>∃ (z:Str) (a:Addr) (ys:List Str),x=.str z/\xs=[V.ref a]/\SqL X.K H a (ys.map V.str)/\(ys.map (·.length)).sum+ys.length*z.length<=16777216/\Q (.str (Str.join z ys)) H):=by
 intro pins s σ H x xs v us Q I rx rv h;obtain⟨z,a,ys,rfl,rfl,ha,hl,q⟩:=h;obtain⟨t,rfl⟩:=rx;obtain⟨u,rfl,e⟩:=a8l rv;cases e;obtain⟨its,r,pl,_⟩:=I.list ha;have ej:Txt.join z ys=Str.join z ys:=eq_of_beq (join_plain_closes z ys);exact join_list pl.isList (by simpa using b2p r) hl λ t' k=> nx0 (.str _) H (I.tok _) ⟨_,rfl⟩ (by rw[ej];exact q)
end
def c0e (c:Nat):List (List Nat)->List Nat
 | []=>[]
 | [p]=>p
 | p::q::r=>p++c::c0e c (q::r)
theorem a9s (c:Nat):∀ ps:List Str,(Str.join ⟨#[c]⟩ ps).cps.toList=c0e c (ps.map (·.cps.toList))
 | []=>rfl
 | [p]=>rfl
 | p::q::r=>by
  show (p++⟨#[c]⟩++Str.join ⟨#[c]⟩ (q::r)).cps.toList=p.cps.toList++c::c0e c ((q::r).map (·.cps.toList));rw[a0g,a0g,a9s c (q::r)];simp
theorem c0d {c:Nat}:∀ {ps qs:List (List Nat)},ps≠[]->qs≠[]->(∀ p∈ps,c ∉ p)->(∀ q∈qs,c ∉ q)->c0e c ps=c0e c qs->ps=qs
 | [],_,h,_,_,_,_=>(h rfl).elim
 | _,[],_,h,_,_,_=>(h rfl).elim
 | [p],[q],_,_,_,_,e=>by rw[show p=q from e]
 | [p],q::q'::r,_,_,hp,_,e=>by
  have e':p=q++c::c0e c (q'::r):=e;exact absurd (show c∈p by rw[e'];simp) (hp p (by simp))
 | p::p'::r,[q],_,_,_,hq,e=>by
  have e':p++c::c0e c (p'::r)=q:=e;exact absurd (show c∈q by rw[<-e'];simp) (hq q (by simp))
 | p::p'::r,q::q'::r',_,_,hp,hq,e=>by
  have e':p++c::c0e c (p'::r)=q++c::c0e c (q'::r'):=e;have key:∀ (a b:List Nat) (x y:List Nat),c ∉ a->c ∉ b->a++c::x=b++c::y->a=b/\x=y:=by
   intro a;induction a with
   | nil =>
    intro b x y _ hb e;cases b with
    | nil=>exact⟨rfl,by simpa using e⟩
    | cons d b=>simp at e;exact absurd (by simp[e.1]) hb
   | cons d a ih =>
    intro b x y ha hb e;cases b with
    | nil=>simp at e;exact absurd (by simp[e.1]) ha
    | cons d' b =>
     simp only [List.cons_append,List.cons.injEq] at e;obtain⟨h1,h2⟩:=ih b x y (λ z=>ha (z0p _ z)) (λ z=>hb (z0p _ z)) e.2;exact⟨by rw[e.1,h1],h2⟩
  obtain⟨h1,h2⟩:=key p q _ _ (hp p (by simp)) (hq q (by simp)) e';rw[h1,c0d (by simp) (by simp) (λ z hz=>hp z (z0p _ hz)) (λ z hz=>hq z (z0p _ hz)) h2]
theorem a9q {c:Nat} {ps:List Str} (h:ps≠[]) (hf:∀ p∈ps,c ∉ p.cps.toList):Txt.split (Str.join ⟨#[c]⟩ ps) ⟨#[c]⟩=ps:=by
 have e:=z0e (λ x:Str=>x.cps.toList) (StrLaws.join_split (Str.join ⟨#[c]⟩ ps) ⟨#[c]⟩);rw[a9s,a9s] at e;have hs:=split_pos (Str.join ⟨#[c]⟩ ps) ⟨#[c]⟩;have e2:=c0d (c:=c) (by intro z;have:=z0e List.length z;simp at this;rw[this] at hs;simp at hs) (by simpa using h) (λ p hp=>?_) (λ p hp=>?_) e
 ·have inj:∀ {as bs:List Str},as.map (·.cps.toList)=bs.map (·.cps.toList)->as=bs:=by
   intro as;induction as with
   | nil=>intro bs e;cases bs with
    | nil=>rfl
    | cons _ _=>cases e
   | cons a r ih=>intro bs e;cases bs with
    | nil=>cases e
    | cons b r' =>
     simp only [z0q,List.cons.injEq] at e;rw[z0n e.1,ih e.2]
  exact inj e2
 ·obtain⟨x,hx,rfl⟩:=z0a.mp hp;exact StrLaws.split_free _ c x hx
 ·obtain⟨x,hx,rfl⟩:=z0a.mp hp;exact hf x hx
end My
namespace My
open PySem PySem.Spec PyProof.Rows L2
inductive e1x (w:World):List DictEntry->List (Str×V)->Prop where
 | nil:e1x w [] []
 | cons {x:Str} {t:Tok} {v:V} {u:Value} {es:List DictEntry} {ps:List (Str×V)} (r:a3c v u) (q:e1x w es ps):e1x w ({hash:=hashStr w x,key:=.str x t,val:=u}::es) ((x,v)::ps)
theorem a6a {X:Cx}:a8k X (.type "str") (λ xs H Q=>∃ v,xs=[v]/\((∃ n:Int,v=.int n/\n.natAbs.log2 < 1920/\Q (.str (Str.ofString (toString n))) H)\/∃ x:Str,v=.str x/\Q (.str x) H)):=by
 intro pins s σ H xs us Q I r h;obtain⟨v,rfl,h⟩:=h;rcases h with ⟨n,rfl,hz,q⟩ | ⟨x,rfl,q⟩
 ·exact c2q pins s σ H _ us Q I r ⟨n,rfl,hz,q⟩
 ·obtain⟨u,rfl,t,rfl⟩:=a8l r;exact PySem.P.str_of_str (nx0 (.str x) H I ⟨t,rfl⟩ q)
theorem c2z {X:Cx} {K:W.Frag} {es:List Expr} {k:Nat} {t:TGs} {n:Nat} {pos:Pos} (hK:X.K=K) (hc:X.calm=true) (h:PGs X es t) (hn:(assignEach es X.env).length=n:=by rfl) (hst:(assignEach es X.env).findIdx? (·.1)=none:=by rfl):PG X (.Tuple es k pos) (e7n K n t):=by
 subst hK;exact a8i hc h hn hst
abbrev e0l:List Value:=[.type "ValueError",.type "Exception",.type "BaseException",.type "object"]
def c0x (K:W.Frag) (C:Addr):Prop:=∃ bm N nm qn bs hd sn sub ab col dd k0 k1 k2 k3 k5,K.lookup C=some (excClassObj nm qn C N bs bm hd sn sub ab col dd k0 k1 k2 k3 k5 "ValueError.__new__")/\∀ h,K.In h->OwnTail h e0l bm
theorem b7n {K:W.Frag} {h:Heap} {C:Addr} (X:K.In h) (q:c0x K C) :
  ∃ bm N nm qn bs hd sn sub ab col dd k0 k1 k2 k3 k5,h.get? C=some (excClassObj nm qn C N bs bm hd sn sub ab col dd k0 k1 k2 k3 k5 "ValueError.__new__")/\OwnTail h e0l bm:=by
 obtain⟨bm,N,nm,qn,bs,hd,sn,sub,ab,col,dd,k0,k1,k2,k3,k5,lk,tl⟩:=q;exact nx10 bm N nm qn bs hd sn (nx37 sub ab col dd k0 k1 k2 k3 k5 ⟨X _ _ lk,tl h X⟩)
section
variable {X:Cx} {CX:CXT} {k:Nat} {f C:Addr} {fd:FuncData} {ps:List Str} {sp:Sp} {dvs:List V} {ds:List Value} {E:XK} {x m:Str} {p pos apos:Pos} {e o:Expr} {es:List Expr} {ta:TE} {t:TA}
structure e8u (K:W.Frag) (S:Addr) (m:Str) (id:String):Prop where
 sp:W.specialIn K (.ref S) "__getattribute__"=some (some (.builtin "type.__getattribute__"))
 rd:W.readsIn K S (.type "type")=true
 fd:W.findCls K (.ref S) (.type "type") m=some (.val (.builtin id))
 ha:W.handedIn (.builtin id)=true
end
section
variable {P:Program} {w:World} {K:W.Frag} {mg:Str->Option Value} {base:Heap} {N:List Str} {qual:Str} {scope:Scope} {f:Addr} {cd:Value} {A:Around} {outer:List Env} {s₀:Shared} {H₀:Hp} {E:XK}
 {pins:List (Addr×Obj)} {σ:L2.St} {H H2:Hp} {s s2:Shared} {h':Heap} {ea C:Addr} {d:Option Addr}
end
section
variable {M:Model} {A:Around} {E:Value->Shared->Prop} {s:Shared}
theorem c3o {base:Heap} {env:Env} {outer:List Env} {L e:Addr} {oe:Obj} {vs:Array Value} {a0:Value} {Q:Unit->Shared->Prop} (hfr:A.frames=some (env::outer)) (hl:s.heap.FunFrames base (env::outer)) (hf:env.frame=some L)
  (he:s.heap.get? e=some oe) (hkb:base.StaysIn s.heap) (hen:base.get? e=none) (hd:oe.data=.fields vs) (h1:vs[1]?=some .none) (h0:vs[0]?=some a0)
  (h:∀ h',Heap.HeldW base (env::outer) e oe.cls a0 L h'->s.heap.UpToSlots h'->Q () {s with heap:=h'}):wpAny M A (noteFrame (.ref e) env) Q E s:=by
 unfold noteFrame;simp only [hf];refine z00 (z1n he hd h1 ?_);rw[z01 (by decide)];exact wpAny_entryW hfr hl hf he hkb hen hd (z35.mp h1).1 h0 λ h' ⟨x1,x2,x3,x4⟩=>h h' ⟨x1,hen,x2,x3⟩ x4
end
def a4a (cells:List (Str×Addr)):List (Str×NameKind)->List (Str×Addr)->List (Str×Addr)
 | [],acc=>acc
 | (n,k)::r,acc=>if (k == NameKind.free)=true then a4a cells r ((n,(cells.lookup n).getD 0)::acc) else a4a cells r acc
theorem c8z (h:∀ q∈scope.names,q.2=.free->∃ c,env.cells.lookup q.1=some c):closureFor scope env=pure (a4a env.cells scope.names []):=by
 simp only [closureFor];generalize ([]:List (Str×Addr))=acc;revert h;generalize scope.names=names;intro h;induction names generalizing acc with
 | nil=>rfl
 | cons q r ih =>
  obtain⟨n,k⟩:=q;rw[List.forIn_cons];by_cases hk:(k == NameKind.free)=true
  ·obtain⟨c,hc⟩:=h (n,k) z0g (by simpa using hk);have e:cellOf env n=pure c:=by simp only [cellOf,hc]
   simp only [a4a,hk,if_true,e,hc,Option.getD_some,pure_bind];exact ih _ λ q hq=>h q (z0p _ hq)
  ·simp only [a4a,hk,if_false,pure_bind,Bool.false_eq_true];exact ih _ λ q hq=>h q (z0p _ hq)
theorem b2t:∀ {names:List (Str×NameKind)} {acc:List (Str×Addr)},(∀ q∈names,q.2=.free->∃ c,cells.lookup q.1=some c)->(∀ x c,acc.lookup x=some c->cells.lookup x=some c)->∀ x c,(a4a cells names acc).lookup x=some c->cells.lookup x=some c
 | [],_,_,ha=>ha
 | (n,k)::r,acc,h,ha=>by
  intro x c e;by_cases hk:(k == NameKind.free)=true
  ·obtain⟨d,hd⟩:=h (n,k) z0g (by simpa using hk);rw[a4a,z02 hk] at e;refine b2t (λ q hq=>h q (z0p _ hq)) (λ y b q=>?_) x c e;cases hy:y == n with
   | true =>
    have ey:y=n:=by simpa using hy
    subst ey;have hd':=hd;rw[hd'] at q ⊢;simpa using q
   | false =>
    rw[z2g,hy] at q;exact ha y b q
  ·rw[a4a,z01 hk] at e;exact b2t (λ q hq=>h q (z0p _ hq)) ha x c e
theorem a9n:∀ {names:List (Str×NameKind)} {acc:List (Str×Addr)} {x:Str},((x,NameKind.free)∈names\/∃ c,acc.lookup x=some c)->∃ c,(a4a cells names acc).lookup x=some c
 | [],_,_,h=>h.elim (λ z=>by cases z) id
 | (n,k)::r,acc,x,h=>by
  by_cases hk:(k == NameKind.free)=true
  ·rw[a4a,z02 hk];refine a9n ?_;cases hx:x == n with
   | true=>exact .inr ⟨_,by rw[z2g,hx]⟩
   | false =>
    rcases h with h | ⟨c,h⟩
    ·rcases z06.mp h with z | z
     ·cases z;simp at hx
     ·exact .inl z
    ·exact .inr ⟨c,by rw[z2g,hx];exact h⟩
  ·rw[a4a,z01 hk];refine a9n ?_;rcases h with h | h
   ·rcases z06.mp h with z | z
    ·cases z;exact absurd rfl hk
    ·exact .inl z
   ·exact .inr h
theorem a9l {env:Env}:∀ {names:List (Str×NameKind)} {x:Str} {k':NameKind},(names.map λ (n,k)=>if (k == NameKind.free && env.scope.kind == .function && env.kindOf n == some .cell) then (n,NameKind.cell) else (n,k)).lookup x=some k' ->
  ∃ k,names.lookup x=some k/\(k'=k\/(k=.free/\k'=.cell))
 | [],_,_,h=>by simp at h
 | (n,k)::r,x,k',h=>by
  have ih:=@a9l env r x k';have h:List.lookup x ((if (k == NameKind.free && env.scope.kind == .function && env.kindOf n == some .cell)=true then (n,NameKind.cell) else (n,k))::_)=some k':=h;cases hx:x == n with
  | true =>
   by_cases hc:(k == NameKind.free && env.scope.kind == .function && env.kindOf n == some .cell)=true
   ·rw[z02 hc,z2g,hx] at h;cases h;have hk:k=.free:=by
     simp only [z13] at hc;simpa using hc.1.1
    exact⟨k,by rw[z2g,hx],.inr ⟨hk,rfl⟩⟩
   ·rw[z01 hc,z2g,hx] at h;cases h;exact⟨k,by rw[z2g,hx],.inl rfl⟩
  | false =>
   obtain⟨k2,e,q⟩:=ih (by
    by_cases hc:(k == NameKind.free && env.scope.kind == .function && env.kindOf n == some .cell)=true
    ·rw[z02 hc,z2g,hx] at h;exact h
    ·rw[z01 hc,z2g,hx] at h;exact h)
   exact⟨k2,by rw[z2g,hx];exact e,q⟩
def a0x (X:Cx) (scope:Scope) (N:List Str) (cl:List (Str×Addr)) (C:Addr) (s₀:Shared) (H₀:Hp) (ex:List Addr):Cx :=
 {X with N:=N,s₀:=s₀,H₀:=H₀,env:=compEnvC scope cl C X.env,outer:=X.stack,stack:=X.stack,ex:=ex,fn:=λ _=>false,pn:=[],xe:=λ _ _=>False}
def b1c (σ:L2.St) (n:Nat) (js:List Nat):L2.St:=List.replicate n none++js.map λ j=>(σ[j]?).getD none
def e0u (ifs:List Expr) (env:Env):Sem Bool:=forIn ifs true λ c r=>if r=true then do let ok <- isTrue c env (eval c env);pure (ForInStep.yield ok) else pure (ForInStep.yield r)
structure d3t (X:Cx) (ifs:List Expr) (t:TT):Prop where
 run:∀ (pins:List (Addr×Obj)) (s:Shared) (σ:L2.St) (H:Hp) (Q:Bool->Hp->Prop),Inv X pins σ H s->t σ H Q->wpAny (model X.prog X.w) X.A (e0u ifs X.env) (TP X pins σ Q) X.xe s
def e7b:TT:=λ _ H Q=>Q true H
theorem a2y:d3t X [] e7b:=⟨λ pins s σ H Q I h=>wpAny_tests_nil ⟨H,I,h⟩⟩
theorem c1y (h:PT X c t):d3t X [c] t:=⟨λ pins s σ H Q I q=>wpAny_tests_one (h pins s σ H Q I q)⟩
structure a6b (X:Cx) (scope:Scope) (fv:List Str) (js:List Nat):Prop where
 kind:scope.kind=.function
 cell:∀ q∈scope.names,q.2≠.cell
 names:∀ q∈scope.names,q.2=.local->scope.names.lookup q.1=some .local
 free:∀ q∈scope.names,q.2=.free->q.1∈fv
 out:∀ x∈fv,X.env.kindOf x=some .cell\/X.env.kindOf x=some .free
 at':js.map (λ j=>X.N[j]?)=fv.map some
 fr:∀ x∈fv,scope.names.lookup x=some .free
section
variable {X:Cx} {pins:List (Addr×Obj)} {σ:L2.St} {H:Hp} {s:Shared} {scope:Scope} {N:List Str} {C:Addr} {ex:List Addr} {cl:List (Str×Addr)} {fv tg:List Str} {js:List Nat}
theorem a6b.clos (S:a6b X scope fv js) (ok:X.Ok):closureFor scope X.env=pure (a4a X.env.cells scope.names []):=c8z λ q hq e=>ok.has q.1 (S.out q.1 (S.free q hq e))
theorem a6b.sub (S:a6b X scope fv js) (ok:X.Ok):∀ x c,(a4a X.env.cells scope.names []).lookup x=some c->X.env.cells.lookup x=some c :=
 b2t (λ q hq e=>ok.has q.1 (S.out q.1 (S.free q hq e))) (λ x c e=>by cases e)
theorem c5z (I:Inv X pins σ H s) (S:a6b X scope fv js) (hC:s.heap.objs.size<=C)
  (hf:∀ b∈ex,b6k X pins H b) (ho:∀ b∈ex,∃ o,s.heap.get? b=some o):(a0x X scope N (a4a X.env.cells scope.names []) C s H ex).Ok:=by
 have sub:=S.sub I.ok;refine⟨I.ok.mod,S.kind,I.ok.glob,I.ok.blt,hC,λ x y c e1 e2=>I.ok.inj x y c (sub x c e1) (sub y c e2),λ x hx=>?_,λ x c z _=>Bool.noConfusion z,I.ok.hd,I.ok.frames,.inl rfl,λ b hb=>⟨?_,λ x c e=>?_⟩,I.bs,z0s I.ok.bsz I.sz,λ b o e hb=>?_,λ b hb hm=>?_,I.stack,I.stkFree⟩
 ·have e:∃ k',(relabel scope X.env).names.lookup x=some k'/\(k'=.cell\/k'=.free):=by
   rcases hx with z | z
   ·exact⟨_,z,.inl rfl⟩
   ·exact⟨_,z,.inr rfl⟩
  obtain⟨k',e,hk⟩:=e;obtain⟨k,e2,q⟩:=a9l e;have hk2:k=.free:=by
   rcases q with rfl | ⟨rfl,_⟩
   ·rcases hk with rfl | rfl
    ·exact absurd rfl (S.cell _ (z30 e2))
    ·rfl
   ·rfl
  subst hk2;exact a9n (.inl (z30 e2))
 ·obtain⟨o,e⟩:=ho b hb;exact z0l (z0w (z09 e) hC)
 ·obtain⟨_,_,_,_,q,_⟩:=hf b hb;exact q x c (sub x c e)
 ·obtain⟨_,_,_,q,_⟩:=hf b hb;rcases q with q | q
  ·exact I.ok.noex b o e q
  ·exact absurd (z0w (z09 e) (z0s I.ok.bsz q)) (z1q _)
 ·obtain⟨_,q1,q2,_⟩:=hf b hb;rcases z06.mp (I.stkSub b hm) with z | z
  ·exact q1 z
  ·exact q2 z
theorem b5p (I:Inv X pins σ H s) (S:a6b X scope fv js) (ok:(a0x X scope (tg++fv) (a4a X.env.cells scope.names []) C s H ex).Ok) (hk:∀ b o,s.heap.get? b=some o->h'.get? b=some o) (hD:s.heap.get? D=none) (hC:s.heap.get? C=none) (hDC:D≠C)
  (hl:h'.get? D=some {cls:=.type "list",data:=.seq #[]}) (hn:h'.Ns C m):Inv (a0x X scope (tg++fv) (a4a X.env.cells scope.names []) C s H ex) [] (b1c σ tg.length js) (upd H D (.lst [])) {s with heap:=h',toks:=t'}:=by
 have nD:=a3e I hD;have neD:∀ b u,s.heap.get? b=some u->b≠D:=λ b u e z=>by rw[z,hD] at e;cases e
 have sub:=S.sub I.ok;have cellK:∀ c v,s.heap.IsCell c v->h'.IsCell c v:=λ c v ⟨o,ho,hd⟩=>⟨o,hk c o ho,hd⟩
 have hlen:js.length=fv.length:=by have:=z0e List.length S.at';simpa using this
 refine⟨ok,rfl,I.bare,⟨λ b u q _ _ _=>hk b u q,λ b u q _ _ _=>⟨u.slots,hk b u q⟩,λ b u q n _=>by rw[a0m (neD b u q)];exact n,λ b u q _=>⟨u,hk b u q⟩,λ b xs q=>by rw[a0m (a0u q nD)];exact q,
  λ b u xs q=>by rw[a0m (a0u q nD)];exact q,λ b ps (q:H b=_)=>⟨#[],by rw[a0m (a0u q nD),q];simp⟩⟩,⟨m,hn,λ i x v e1 e2 e3=>?_⟩,λ x c e=>?_,?_,λ x c e=>?_,λ p hp=>(by cases hp),λ b u e=>?_,by simp[a0x,b1c,hlen]⟩
 ·have e1:(tg++fv)[i]?=some x:=e1;rcases Nat.lt_or_ge i tg.length with hi | hi
  ·rw[b1c,z39 (by simpa using hi),List.getElem?_replicate,z02 hi] at e2;cases e2
  ·rw[z2e hi] at e1;rw[b1c,z2e (by simpa using hi),z3e,z0f] at e2;obtain⟨j,hj,e2⟩:=z3d.mp e2;have hσ:σ[j]?=some (some v):=by
    cases q:σ[j]? with
    | none=>rw[q] at e2;cases e2
    | some z=>rw[q] at e2;exact z0e some e2
   have hN:X.N[j]?=some x:=by
    have q:=z0e (λ l=>l[i - tg.length]?) S.at';simp only [z0f,hj,e1,z49] at q;exact z1g q
   have hx:=z0h e1;have ko:=S.out x hx;obtain⟨m0,_,hl0⟩:=I.loc;have vis:Vis X.env.scope x:=ko.elim (λ z=>.inr (.inl z)) λ z=>.inr (.inr z)
   obtain⟨u,ru,lk⟩:=hl0 j x v hN hσ vis;obtain⟨c,hc,hcell⟩:∃ c,X.env.cells.lookup x=some c/\s.heap.IsCell c (some u):=by
    rcases lk with ⟨z,_⟩ | ⟨_,q⟩
    ·rcases ko with y | y<;>(rw[y] at z;cases z)
    ·exact q
   obtain⟨c2,hc2⟩:∃ c2,(a4a X.env.cells scope.names []).lookup x=some c2:=a9n (.inl (z30 (S.fr x hx)));have ec:c2=c:=by have:=sub x c2 hc2;rw[hc] at this;exact(z1g this).symm
   subst ec;refine⟨u,ru,.inr ⟨?_,c2,hc2,cellK _ _ hcell⟩⟩;rcases e3 with z | z | z
   ·obtain⟨k,ek,q⟩:=a9l z;rw[S.fr x hx] at ek;cases ek;rcases q with q | ⟨_,q⟩<;>cases q
   ·exact .inl z
   ·exact .inr z
 ·obtain⟨v,z⟩:=I.cell x c (sub x c e);exact⟨v,cellK c v z⟩
 ·show upd H D (.lst []) C=none;rw[a0m (z1b hDC)];exact a3e I hC
 ·obtain⟨v,o,ho,_⟩:=I.cell x c (sub x c e);rw[a0m (neD c o ho)];exact I.freeC x c (sub x c e)
 ·by_cases hb:b=D
  ·subst hb;rw[a0c] at e;cases e;exact ⟨z0x _,nx12 ([]) _ (.nil) hl⟩
  ·rw[a0m hb] at e;exact(I.hok b u e).stay (λ c v _ q=>hk c v q) (λ c q=>by rw[a0m (a0u q nD)];exact q) λ c xs q=>by rw[a0m (a0u q nD)];exact q
end
theorem c7v {prog:Program} {w:World} {A:Around} {s:Shared} {R:Result->Shared->Prop} {elt target iter:Expr} {ifs:List Expr} {scope:Scope} {pos:Pos} {it acc:Value} {env:Env} (I:Nat->Shared->Prop)
  (turn:∀ n s,I n s->wpAny (model prog w) A (pyNext it) (λ r s1=>(r=none/\R (.ok .next) s1)\/∃ v,r=some v/\wpAny (model prog w) A (letOwnedTupleGo target it v) (λ _ s2=>wpAny (model prog w) A (assign target env v) (λ _ s3 =>
   wpAny (model prog w) A (e0u ifs env) (λ ok s4=>if ok=true then wpAny (model prog w) A (eval elt env) (λ x s5=>wpAny (model prog w) A (call (.builtin "list.append") [acc,x]) (λ _ s6=>∃ m,m < n/\I m s6) (λ _ _=>False) s5) (λ _ _=>False) s4
    else ∃ m,m < n/\I m s4) (λ _ _=>False) s3) (λ _ _=>False) s2) (λ _ _=>False) s1) (λ _ _=>False) s)
  (n:Nat) (h:I n s):codeAny (model prog w) A (.compLoop (.ListComp elt [⟨target,iter,ifs,0⟩] scope pos) 0 it acc env) R s:=by
 have no:∀ {α:Type} {E:Value->Shared->Prop} {t:Sem α} {Q:α->Shared->Prop} {u:Shared},wpAny (model prog w) A t Q (λ _ _=>False) u->wpAny (model prog w) A t Q E u:=λ z=>z0j z (λ _ _ q=>q) λ _ _ q=>q.elim
 refine codeAny_loop rfl I (λ n s hI=>wpAny_noted ?_) n h;rw[compTurn_list];refine z00 (z2n (z00 (z0j (turn n s hI) (λ r s1 q=>?_) λ _ _ z=>z.elim)));rcases q with ⟨rfl,q⟩ | ⟨v,rfl,q⟩
 ·exact z05 q
 ·refine z00 (no (thn q λ _ s2 q2=>z00 (no (thn q2 λ _ s3 q3=>z00 (no (thn q3 λ ok s4 q4=>?_))))));cases ok with
  | false=>exact z05 ⟨rfl,q4⟩
  | true=>exact z00 (z00 (no (thn q4 λ x s5 q5=>z00 (no (thn q5 λ _ s6 q6=>z05 (z05 ⟨rfl,q6⟩))))))
def b0e (σ0:L2.St) (J:It) (g:TG) (tc:TT) (te:TE) (Q:VK) (H1:Hp):Prop:=∀ D,H1 D=none->∃ W:Nat->Nat->List V->L2.St->Hp->Prop,(∃ m,W 0 m [] σ0 (upd H1 D (.lst [])))/\∀ i m ys τ H,W i m ys τ H->H D=some (.lst ys) /\
 ((J.stop i H/\Q (.ref D) H)\/(J.go i H/\ys.length < sizeLine/\∀ v H',J.yld i H v H'->g v τ H' λ τ2 H2=>tc τ2 H2 λ ok H3=>if ok=true then te τ2 H3 λ y H4=>H4 D=some (.lst ys)/\∃ m',m' < m/\W (i+1) m' (ys++[y]) τ2 (upd H4 D (.lst (ys++[y])))
  else ∃ m',m' < m/\W (i+1) m' ys τ2 H3))
section
variable {X:Cx} {pins:List (Addr×Obj)} {σ:L2.St} {H:Hp} {s:Shared} {scope:Scope} {fv:List Str} {js:List Nat} {target iter elt:Expr} {ifs:List Expr} {pos:Pos} {g:TG} {tc:TT} {te:TE}
theorem b4d {E:Value->Shared->Prop} {tn:Nat->Heap->Prop} {RR:Value->Addr->Result->Shared->Prop} (tg:List Str) (I:Inv X pins σ H s) (hc:X.calm=true)
  (S:a6b X scope fv js) (T:e2l X.prog X.w X.K target J fp it tn) (st:tn 0 s.heap) (hf:∀ b∈fp,b6k X pins H b)
  (hg:∀ cl C s₀ H₀ ex,PG (a0x X scope (tg++fv) cl C s₀ H₀ ex) target g) (hi:∀ cl C s₀ H₀ ex,d3t (a0x X scope (tg++fv) cl C s₀ H₀ ex) ifs tc) (he:∀ cl C s₀ H₀ ex,PE (a0x X scope (tg++fv) cl C s₀ H₀ ex) elt te) (q:b0e (b1c σ tg.length js) J g tc te Q H)
  (hRR:∀ D C H' s' m,s'.os=s.os->AllBare s'.gens->Un (frs X.stack) fp H H' s.heap s'.heap->HOk X.prog X.w H' s'.heap->s'.heap.Ns C m->H' C=none->s.heap.objs.size<=C->Q (.ref D) H'->RR (.ref D) C (.ok .next) s') :
  wpAny (model X.prog X.w) X.A (newList []) (λ acc s3=>wpAny (model X.prog X.w) X.A (newFunctionEnv scope X.env.globals (a4a X.env.cells scope.names []) [] X.env.qual none .none (some X.env)) (λ cenv s4 =>
   codeAny (model X.prog X.w) X.A (.compStart (.ListComp elt [⟨target,iter,ifs,0⟩] scope pos) 0 (.ref it) acc {cenv with scope:=relabel scope X.env}) (RR acc cenv.locals) s4) E s3) E s:=by
 refine z4d (wpAny_newFunctionEnv S.cell (by intro y hy;simp at hy) (λ h1 hn k1=>?_) S.kind);generalize hg2:s.heap.push {cls:=.type "list",dict:=none,data:=.seq ([]:List Value).toArray}=g2 at hn k1 ⊢;have hC:g2.objs.size=s.heap.objs.size+1:=by rw[<-hg2,z3n]
 have hDC:s.heap.objs.size≠g2.objs.size:=by rw[hC];exact z0l (z4g _)
 have hle:s.heap.objs.size<=g2.objs.size:=by rw[hC];exact Nat.le_succ _
 have nD:s.heap.get? s.heap.objs.size=none:=z2u (z04 _);have nC:=z2u hle;have old:=λ b o e=>k1.extBut b o (z0l (z0w (z09 e) hle)) (z0k _ (hg2 ▸ z0k _ e))
 have hl:=k1.extBut _ _ hDC (z0k _ (hg2 ▸ z1a _ rfl));have ob:=T.obj 0 s.heap st;generalize hcl:a4a X.env.cells scope.names []=cl;have ok:(a0x X scope (tg++fv) cl g2.objs.size s H fp).Ok:=hcl ▸ c5z I S hle hf λ b hb=>let ⟨o,e,_⟩:=ob b hb;⟨o,e⟩
 have I0:Inv (a0x X scope (tg++fv) cl g2.objs.size s H fp) [] (b1c σ tg.length js) (upd H s.heap.objs.size (.lst [])) {s with heap:=h1,toks:=s.toks+([]:List (Str×Value)).length}:=by
  subst hcl;exact b5p I S ok old nD nC hDC hl hn
 have st1:=T.keep 0 _ _ st λ b _ o e=>old b o e
 obtain⟨W,⟨m0,w0⟩,turn⟩:=q _ (a3e I nD);have fpok:∀ {H':Hp} {ps:List (Addr×Obj)},(∀ p∈ps,p.1 ∉ fp)->(∀ b∈fp,H' b=none)->∀ b∈fp,b6k (a0x X scope (tg++fv) cl g2.objs.size s H fp) ps H' b:=λ hps hn b hb=>⟨hn b hb,(ok.exf b hb).1,ok.exfs b hb,.inl hb,(ok.exf b hb).2,λ p hp z=>hps p hp (z ▸ hb)⟩
 have loop:codeAny (model X.prog X.w) X.A (.compLoop (.ListComp elt [⟨target,iter,ifs,0⟩] scope pos) 0 (.ref it) (.ref s.heap.objs.size) (compEnvC scope cl g2.objs.size X.env)) (RR (.ref s.heap.objs.size) g2.objs.size) {s with heap:=h1,toks:=s.toks+([]:List (Str×Value)).length}:=by
  refine c7v (λ n s'=>∃ i ys τ H',Inv (a0x X scope (tg++fv) cl g2.objs.size s H fp) [] τ H' s'/\tn i s'.heap/\(∀ b∈fp,H' b=none)/\W i n ys τ H') (λ n s' hI=>?_) m0 (nx39 0 ([]) _ _ I0 st1 (λ b hb=>?_) w0)
  ·obtain⟨i,ys,τ,H',I1,t1,f1,w1⟩:=hI;obtain⟨hD,w1⟩:=turn i n ys τ H' w1;rcases w1 with ⟨stop,qn⟩ | ⟨go,hz,step⟩
   ·refine thn (T.done (a0x X scope (tg++fv) cl g2.objs.size s H fp) rfl rfl rfl hc i [] s' τ H' _ I1 (fpok (by simp) f1) t1 stop) λ r s2 ⟨hr,I2⟩=>.inl ⟨hr,?_⟩
    obtain⟨m,hn2,_⟩:=I2.loc;exact hRR _ _ H' s2 m I2.os I2.bare I2.base I2.hok hn2 I2.free hle qn
   ·refine thn (T.item (a0x X scope (tg++fv) cl g2.objs.size s H fp) rfl rfl rfl hc i [] s' τ H' _ I1 (fpok (by simp) f1) t1 go) λ r s2 ⟨u,hr,h2⟩=>.inr ⟨u,hr,thn h2 λ _ s3 ⟨x,H3,I3,r3,y3,t3,f3⟩=>?_⟩
    have I3':=I3.pinned (fpok (by simp) f3) (T.obj _ _ t3);have back:∀ {s6:Shared} {τ4:L2.St} {H6:Hp},Inv (a0x X scope (tg++fv) cl g2.objs.size s H fp) ([]++b7r fp s3.heap) τ4 H6 s6->tn (i+1) s6.heap/\∀ b∈fp,H6 b=none:=λ I6 =>
     ⟨T.keep _ _ _ t3 λ b hb o e=>(I6.pin (b,o) (z0u _ (z0u _ (a5k hb e)))).1,λ b hb=>by
      obtain⟨o,e,_⟩:=T.obj _ _ t3 b hb;exact(I6.pin (b,o) (z0u _ (z0u _ (a5k hb e)))).2.1⟩
    refine thn ((hg _ _ _ _ _) _ s3 τ H3 x u _ I3' r3 (step x H3 y3)) λ _ s4 ⟨τ4,H4,I4,q4⟩=>?_
    refine thn ((hi _ _ _ _ _).run _ s4 τ4 H4 _ I4 q4) λ b s5 ⟨H5,I5,q5⟩=>?_
    cases b with
    | false =>
     obtain⟨m',hm,w5⟩:=(q5);obtain⟨b1,b2⟩:=back I5;exact nx11 m' hm (i+1) _ τ4 _ I5.unpinned b1 b2 w5
    | true =>
     refine thn ((he _ _ _ _ _) _ s5 τ4 H5 _ I5 q5) λ z s6 ⟨y,H6,I6,r6,hD6,m',hm,w6⟩=>?_
     refine thn (b4c _ s6 τ4 H6 (.ref s.heap.objs.size) [y] (.ref s.heap.objs.size) [z] (λ _ H7=>H7=upd H6 s.heap.objs.size (.lst (ys++[y]))) I6 rfl (.cons r6 .nil) (nx2 _ ys y rfl rfl hD6 hz rfl)) λ _ s7 ⟨v7,H7,I7,_,e7⟩=>?_
     subst e7;obtain⟨b1,b2⟩:=back I7;exact nx11 m' hm (i+1) _ τ4 _ I7.unpinned b1 b2 w6
  ·obtain⟨o,e,_⟩:=ob b hb;rw[a0m (z0l (z09 e))];exact(hf b hb).1
 exact codeAny_compStart_list loop (T.self _ 0 _ _ _ st1 loop)
def b5m (n:Nat) (js:List Nat) (wi:TI) (g:TG) (tc:TT) (te:TE):TE:=λ σ H Q=>wi σ H λ J H1=>b0e (b1c σ n js) J g tc te Q H1
theorem d7k (tg:List Str) (hc:X.calm=true) (S:a6b X scope fv js) (hi:PI X target iter wi)
  (hg:∀ cl C s₀ H₀ ex,PG (a0x X scope (tg++fv) cl C s₀ H₀ ex) target g) (hf:∀ cl C s₀ H₀ ex,d3t (a0x X scope (tg++fv) cl C s₀ H₀ ex) ifs tc) (he:∀ cl C s₀ H₀ ex,PE (a0x X scope (tg++fv) cl C s₀ H₀ ex) elt te) (hs:∀ x,foldedSetIterable iter X.env x=pure x:=by intro _;rfl) :
  PE X (.ListComp elt [⟨target,iter,ifs,0⟩] scope pos) (b5m tg.length js wi g tc te):=by
 constructor;intro pins s σ H Q I h;refine wpAny_comprehension_free rfl hs (S.clos I.ok) S.kind S.names (thn (hi pins s σ H _ I h) λ v s1 h1=>thn h1 λ itv s2 h2=>?_);obtain⟨it,fp,tn,J,H2,rfl,I2,T,st2,f2,q⟩:=h2;refine b4d tg I2 hc S T st2 f2 hg hf he q λ D C H' s' m os bare un hok hn nC hC qq=>⟨m,hn,λ h' k=>?_⟩
 obtain⟨IX,fC⟩:=a9y I2 f2 os bare un hok nC hC;exact nx0 (.ref D) H' (b8z IX fC k) rfl qq
theorem d5r (tg:List Str) (hc:X.calm=true) (hN:X.N.Nodup) (hy:X.N[i]?=some y) (hk:X.env.scope.names.lookup y=some .local) (S:a6b X scope fv js) (hi:PI X target iter wi)
  (hsw:swapsWith (.ListComp elt [⟨target,iter,ifs,0⟩] scope pos) (some (.Name y py)) spos.line X.env=pure true)
  (hg:∀ cl C s₀ H₀ ex,PG (a0x X scope (tg++fv) cl C s₀ H₀ ex) target g) (hf:∀ cl C s₀ H₀ ex,d3t (a0x X scope (tg++fv) cl C s₀ H₀ ex) ifs tc) (he:∀ cl C s₀ H₀ ex,PE (a0x X scope (tg++fv) cl C s₀ H₀ ex) elt te) (hs:∀ x,foldedSetIterable iter X.env x=pure x:=by intro _;rfl) :
  PS X (.Assign [.Name y py] (.ListComp elt [⟨target,iter,ifs,0⟩] scope pos) spos) (λ D σ H=>b5m tg.length js wi g tc te σ H λ v H1=>D.nx (σ.set i (some v)) H1):=by
 constructor;intro pins s σ H D I h;rw[exec_Assign_Name_used _ _ _ _ hsw];refine z00 (z2n (z00 (z00 (z0j (wpAny_comprehension_free rfl hs (S.clos I.ok) S.kind S.names
  (thn (hi pins s σ H _ I h) λ v s1 h1=>thn h1 λ itv s2 h2=>?_)) (λ _ s' q=>z05 (z05 q)) λ _ _ z=>z))))
 obtain⟨it,fp,tn,J,H2,rfl,I2,T,st2,f2,q⟩:=h2;refine b4d tg I2 hc S T st2 f2 hg hf he q λ L C H' s' m os bare un hok hn nC hC qq=>?_
 obtain⟨IX,fC⟩:=a9y I2 f2 os bare un hok nC hC;refine wpAny_assign_Name (b4j IX hN hy (.inl hk) (v:=.ref L) rfl (λ s3 I3 ⟨a,k3,ha⟩=>?_) (.inr hk));have ne:C≠a:=by
  rcases ha with z | z
  ·rw[z];exact fC.2.1
  ·exact λ w'=>fC.2.2.2.2.1 y a z w'.symm
 exact⟨m,hn.sameBut k3 ne,λ h' k=> nx12 _ H' (b8z I3 fC k) qq⟩
end
theorem d6q {α:Type} {P:α->Prop}:∀ x∈([]:List α),P x:=λ _ h=>by cases h
theorem d1v {α:Type} {P:α->Prop} {a:α} {l:List α} (h:P a) (t:∀ x∈l,P x):∀ x∈a::l,P x:=λ x hx=>by
 rcases z06.mp hx with e | e
 ·exact e ▸ h
 ·exact t x e
theorem a4r {K:W.Frag} (hK:X.K=K):IxR X (d4i K):=hK ▸ a1c
theorem b9x {K:W.Frag} (hK:X.K=K):IxR X (e7p K):=hK ▸ a1e
theorem b2k {σ0 fs:L2.St} (n:Nat) (f:Nat->Option V) (h0:σ0=List.replicate k none++fs) (hz:n<=sizeLine) (hgo:∀ i H,Same H1 H->i < n->J.go i H) (hstop:∀ H,Same H1 H->J.stop n H)
  (step:∀ i H (ts:L2.St) v H' (R:Option V->L2.St->Hp->Prop),Same H1 H->i < n->ts.length=k->J.yld i H v H'->(∀ (ts2:L2.St) H3,ts2.length=k->Same H H3->R (f i) (ts2++fs) H3) ->
   g v (ts++fs) H' λ τ2 H2=>tc τ2 H2 λ ok H3=>if ok=true then te τ2 H3 λ y H4=>R (some y) τ2 H4 else R none τ2 H3)
  (fin:∀ D H',H1 D=none->Same H1 H'->H' D=some (.lst ((List.range n).filterMap f))->Q (.ref D) H'):b0e σ0 J g tc te Q H1:=by
 intro D hD;refine⟨λ i m ys τ H=>m=n - i/\i<=n/\ys=(List.range i).filterMap f/\(∃ ts:L2.St,ts.length=k/\τ=ts++fs)/\Same H1 H/\H D=some (.lst ys),⟨n,rfl,z0x _,rfl,⟨_,z3e,h0⟩,Same.upd hD,a0c⟩,?_⟩;rintro i m ys τ H ⟨rfl,hi,rfl,⟨ts,ht,rfl⟩,ss,hd⟩;refine⟨hd,?_⟩;by_cases hlt:i < n
 ·have hl:((List.range i).filterMap f).length < sizeLine:=z3m (List.length_filterMap_le _ _) (by rw[z4p];lia);refine .inr ⟨hgo i H ss hlt,hl,λ v H' y=>step i H ts v H' (λ o τ2 H3=>match o with
   | some y=>H3 D=some (.lst ((List.range i).filterMap f))/\∃ m',m' < n - i/\m'=n - (i+1)/\i+1<=n/\(List.range i).filterMap f++[y]=(List.range (i+1)).filterMap f/\(∃ ts:L2.St,ts.length=k/\τ2=ts++fs)/\Same H1 (upd H3 D (.lst ((List.range i).filterMap f++[y])))/\upd H3 D (.lst ((List.range i).filterMap f++[y])) D=some (.lst ((List.range i).filterMap f++[y]))
   | none=>∃ m',m' < n - i/\m'=n - (i+1)/\i+1<=n/\(List.range i).filterMap f=(List.range (i+1)).filterMap f/\(∃ ts:L2.St,ts.length=k/\τ2=ts++fs)/\Same H1 H3/\H3 D=some (.lst ((List.range i).filterMap f))) ss hlt ht y λ ts2 H3 h2 s3=>?_⟩
  cases e:f i with
  | none =>
   refine⟨n - (i+1),by lia,rfl,hlt,?_,⟨ts2,h2,rfl⟩,ss.trans s3,s3 _ _ hd⟩;rw[z40,z2v];simp[e]
  | some y =>
   refine⟨s3 _ _ hd,n - (i+1),by lia,rfl,hlt,?_,⟨ts2,h2,rfl⟩,(ss.trans s3).again hD,a0c⟩;rw[z40,z2v];simp[e]
 ·have e:i=n:=by lia
  subst e;exact .inl ⟨hstop H ss,fin D H hD ss hd⟩
theorem c5f {K:W.Frag} {H:Hp}:∀ ms:List Int,Dts K H (ms.map V.int) (ms.map PyData.int)
 | []=>.nil
 | m::r=>.cons (.int m) (c5f r)
def rAppendA:V->List V->Hp->VK->Prop:=λ x vs H Q=>∃ l xs y,x=.ref l/\vs=[y]/\H l=some (.lst xs)/\xs.length < sizeLine/\∀ H',H' l=some (.lst (xs++[y]))->(∀ b o,b≠l->H b=some o->H' b=some o)->Q .non H'
theorem a2f:MtM X "list.append" rAppendA:=by
 intro pins s σ H x vs v us Q I rx rv h;obtain⟨l,xs,y,ex,ev,hH,hz,q⟩:=h;exact b4c pins s σ H x vs v us Q I rx rv (nx2 l xs y ex ev hH hz (q _ a0c λ b o n e=>by rw[a0m n];exact e))
theorem e0d {ms:List Int} (h:ms≠[]):PyData.eqv (.list (ms.map PyData.int)) (.list [])=false:=by
 cases ms with
 | nil=>exact absurd rfl h
 | cons m r=>rfl
def e5y:V->V->V->Hp->(Hp->Prop)->Prop:=λ o i v H Q=>∃ p xs k j,o=.ref p/\i=.int k/\H p=some (.lst xs)/\ixN xs.length k=some j/\∀ H',H' p=some (.lst (xs.set j v))->(∀ b o,b≠p->H b=some o->H' b=some o)->Q H'
theorem a9h:e7c X e5y:=by
 intro pins s σ H o i v ov iv u Q I ro ri rv h;obtain⟨p,xs,k,j,eo,ei,hp,hj,q⟩:=h;exact d4e pins s σ H o i v ov iv u Q I ro ri rv (nx8 p xs k j eo ei hp hj (q _ a0c λ b o n e=>by rw[a0m n];exact e))
theorem c2w (ms:List Int):SeqAt.shaped (.list (ms.map PyData.int))=true:=by
 show (PyData.canLayAll0 (ms.map .int) && decide (PyData.depthAll (ms.map .int)+1<=64))=true;rw[canLayAll_ints ms,depthAll_ints ms];rfl
end My
namespace My
open PySem PySem.Spec PyProof.Rows L2 Builtin.Str
def a6d (z y:Str):List V:=match occurrences z y 0 z.length 1 with
 | i::_=>[.str (strSub z 0 i),.str y,.str (strSub z (i+y.length) z.length)]
 | []=>[.str z,.str Str.empty,.str Str.empty]
theorem a4z {X:Cx}:MtR X "str.partition" (λ x xs H Q=>∃ z y:Str,x=.str z/\xs=[V.str y]/\1<=y.length/\z.length<=sizeLine/\∀ p,H p=none->Q (.ref p) (upd H p (.tup (a6d z y)))):=by
 intro pins s σ H x xs v us Q I rx rv h;obtain⟨z,y,rfl,rfl,hy,hz,q⟩:=h;obtain⟨t,rfl⟩:=rx;obtain⟨u,rfl,t',rfl⟩:=a8l rv;have hy0:(y.length == 0)=false:=by
  have:¬ y.length=0:=by lia
  simpa using this
 have nD:s.heap.get? s.heap.objs.size=none:=z2u (z04 _);have fin:∀ (us:List Value) (k:Nat),a3b (a6d z y) us->EP X pins σ Q (.ref s.heap.objs.size) {s with heap:=s.heap.push {cls:=.type "tuple",data:=.seq us.toArray},toks:=k}:=λ us k r =>
  nx0 (.ref _) _ (b8i (o:=.tup (a6d z y)) I (λ b o e=>z0k _ e) nD (⟨by unfold a6d;split<;>(show 3<=sizeLine;decide),nx17 us r _ (z1a _ rfl) rfl ⟨_,rfl⟩⟩)) rfl (q _ (a3e I nD))
 refine z3a F.slot_str_partition (z26 _ _ _) F.entry_str_partition (F.args_str_partition_2 _ _) (meets_str_partition z y t t' hy0 hz) ?_;cases e:occurrences z y 0 z.length 1 with
 | nil =>
  have ep:a6d z y=[.str z,.str Str.empty,.str Str.empty]:=by unfold a6d;rw[e]
  exact fin _ _ (by rw[ep];exact .cons ⟨_,rfl⟩ (.cons ⟨_,rfl⟩ (.cons ⟨_,rfl⟩ .nil)))
 | cons i r =>
  have ep:a6d z y=[.str (strSub z 0 i),.str y,.str (strSub z (i+y.length) z.length)]:=by unfold a6d;rw[e]
  exact fin _ _ (by rw[ep];exact .cons ⟨_,rfl⟩ (.cons ⟨_,rfl⟩ (.cons ⟨_,rfl⟩ .nil)))
end My
namespace My
open PySem PySem.Spec PyProof.Rows L2 Builtin.Str PySem.StrLaws
def a3v:Str:=⟨#[59,32]⟩
def Led (c d:Nat) (l:List Nat):Prop:=∀ k:Nat,l[k]?=some c->l[k+1]?=some d
theorem e3i {x:Str} {k:Nat} (h1:x.cps.toList[k]?=some 59) (h2:x.cps.toList[k+1]?=some 32):At x a3v x.length k:=by
 obtain⟨l1,e1⟩:=z0i.mp h1;obtain⟨l2,e2⟩:=z0i.mp h2;refine⟨?_,?_⟩
 ·show k+2<=x.cps.size;rw[z21] at l2;lia
 ·rw[subAt_eq];show ((x.cps.toList.drop k).take 2 == [59,32])=true;rw[z4f l1,z4f l2,e1,e2];simp
theorem b8p {x:Str} {a b:Nat} (hl:Led 59 32 x.cps.toList) (hb:b<=x.length) (hn:∀ k,a<=k->k < b->¬ At x a3v x.length k):59 ∉ (strSub x a b).cps.toList:=by
 intro hm;rw[strSub_toList] at hm;obtain⟨j,hj,e⟩:=z1s hm;rw[z14,z29] at hj;rw[z4b,List.getElem_drop] at e;have e1:x.cps.toList[a+j]?=some 59:=by rw[z0c (by lia),e]
 exact hn (a+j) (by lia) (by lia) (e3i e1 (hl _ e1))
theorem d0v {x:Str} (hl:Led 59 32 x.cps.toList):∀ (cuts:List Nat) (a f:Nat),ChainG x a3v x.length a cuts f->(∀ k,f<=k->¬ At x a3v x.length k)->∀ p∈partsFrom x a3v.length a cuts,59 ∉ p.cps.toList:=by
 intro cuts;induction cuts with
 | nil =>
  intro a f h hn p hp;cases (show f=a from h);rw[z0o.mp hp];exact b8p hl (z04 _) λ k h1 _=>hn k h1
 | cons q r ih =>
  intro a f h hn p hp;rcases z06.mp hp with z | z
  ·rw[z];exact b8p hl (by have:=h.2.1.1;lia) h.2.2.1
  ·exact ih _ f h.2.2.2 hn p z
theorem b5b {x:Str} (hl:Led 59 32 x.cps.toList):∀ p∈Txt.split x a3v,59 ∉ p.cps.toList:=by
 obtain⟨f,hG,hn⟩:=occ_tight x a3v (by decide);unfold Txt.split;split
 ·rename_i hc;intro p hp hm;rw[z0o.mp hp] at hm;obtain⟨j,hj,e⟩:=z1s hm;have e1:x.cps.toList[j]?=some 59:=by rw[z0c hj,e]
  have l2:=(z0i.mp (hl _ e1)).1;rw[z21] at l2;rw[z48,z1c,z1c] at hc;rcases hc with h | h
  ·have:x.cps.size < 2:=h;lia
  ·have k1:Builtin.Str.strKind a3v=1:=by decide +kernel
   rw[k1] at h;unfold Builtin.Str.strKind at h;split at h
   ·lia
   ·split at h<;>lia
 ·split
  ·rename_i he;intro p hp;rw[z0o.mp hp];rw[List.isEmpty_iff.mp he] at hG;cases (show f=0 from hG);rw[<-sub_whole x];exact b8p hl (z04 _) λ k h1 _=>hn k h1
  ·rw[partsBetween_eq];exact d0v hl _ 0 f hG hn
def pre (d:Nat):List (List Nat)->List (List Nat)
 | []=>[]
 | p::r=>p::r.map (d::·)
theorem c0t (c d:Nat) (q:List Nat) (R:List (List Nat)):d::c0e c (q::R)=c0e c ((d::q)::R):=by
 cases R<;>rfl
theorem a9v:∀ ps:List Str,(Str.join a3v ps).cps.toList=c0e 59 (pre 32 (ps.map (·.cps.toList)))
 | []=>rfl
 | [p]=>rfl
 | p::q::r=>by
  have ih:=a9v (q::r);show (p++a3v++Str.join a3v (q::r)).cps.toList=p.cps.toList++59::c0e 59 ((32::q.cps.toList)::(r.map (·.cps.toList)).map (32::·));rw[a0g,a0g,ih,<-c0t];show (p.cps.toList++[59,32])++c0e 59 (q.cps.toList::(r.map (·.cps.toList)).map (32::·))=_;simp
theorem c5o:∀ (R:List (List Nat)) (p:List Nat),59 ∉ p->(∀ q∈R,59 ∉ q)->Led 59 32 (c0e 59 (p::R.map (32::·)))
 | [],p,h,_=>λ k e=>absurd (z0h e) h
 | q::R,p,h,hR=>by
  have ih:=c5o R (32::q) (λ z=>(z06.mp z).elim (λ y=>by cases y) λ y=>hR q z0g y) (λ x hx=>hR x (z0p _ hx));intro k e;have eg:c0e 59 (p::(q::R).map (32::·))=p++59::c0e 59 ((32::q)::R.map (32::·)):=rfl;rw[eg] at e ⊢;rcases z4e k p.length with z | z | z
  ·rw[z39 z] at e;exact absurd (z0h e) h
  ·subst z;rw[z2e (by lia),show p.length+1 - p.length=1 by lia,List.getElem?_cons_succ,<-c0t];rfl
  ·rw[z2e (by lia)] at e ⊢;obtain⟨n,hn⟩:∃ n,k - p.length=n+1:=⟨k - p.length - 1,by lia⟩;rw[hn,List.getElem?_cons_succ] at e;rw[show k+1 - p.length=(n+1)+1 by lia,List.getElem?_cons_succ];exact ih n e
theorem c6c:∀ {as bs:List Str},as.map (·.cps.toList)=bs.map (·.cps.toList)->as=bs
 | [],[],_=>rfl
 | [],_::_,e=>by cases e
 | _::_,[],e=>by cases e
 | a::r,b::r',e=>by
  simp only [z0q,List.cons.injEq] at e;rw[z0n e.1,c6c e.2]
theorem c6z {us:List (List Nat)} (h:∀ u∈us,59 ∉ u):∀ u∈pre 32 us,59 ∉ u:=by
 cases us with
 | nil=>intro u hu;cases hu
 | cons p r =>
  intro u hu;rcases z06.mp hu with z | z
  ·rw[z];exact h p z0g
  ·obtain⟨q,hq,rfl⟩:=z0a.mp z;intro y;rcases z06.mp y with y | y
   ·cases y
   ·exact h q (z0p _ hq) y
theorem d9v {us vs:List (List Nat)} (h:pre 32 us=pre 32 vs):us=vs:=by
 cases us with
 | nil=>cases vs with
  | nil=>rfl
  | cons _ _=>cases h
 | cons p r=>cases vs with
  | nil=>cases h
  | cons q r' =>
   simp only [pre,List.cons.injEq] at h;rw[h.1,(List.map_inj_right (λ x y e=>(List.cons.inj e).2)).mp h.2]
theorem c7q {ps:List Str} (h:ps≠[]) (hf:∀ p∈ps,59 ∉ p.cps.toList):Txt.split (Str.join a3v ps) a3v=ps:=by
 have free:∀ u∈ps.map (·.cps.toList),59 ∉ u:=λ u hu=>by
  obtain⟨x,hx,rfl⟩:=z0a.mp hu;exact hf x hx
 have hl:Led 59 32 (Str.join a3v ps).cps.toList:=by
  rw[a9v];cases ps with
  | nil=>exact absurd rfl h
  | cons p r=>exact c5o (r.map (·.cps.toList)) p.cps.toList (hf p z0g) (λ q hq=>free q (z0p _ hq))
 have e:=z0e (λ x:Str=>x.cps.toList) (StrLaws.join_split (Str.join a3v ps) a3v);have hs:=split_pos (Str.join a3v ps) a3v;generalize hq:Txt.split (Str.join a3v ps) a3v=qs at e hs;have hqf:∀ u∈qs.map (·.cps.toList),59 ∉ u:=λ u hu=>by
  obtain⟨x,hx,rfl⟩:=z0a.mp hu;exact b5b hl x (hq ▸ hx)
 rw[a9v,a9v] at e;have q0:pre 32 (qs.map (·.cps.toList))≠[]:=by
  cases qs with
  | nil=>simp at hs
  | cons _ _=>intro z;cases z
 have p0:pre 32 (ps.map (·.cps.toList))≠[]:=by
  cases ps with
  | nil=>exact absurd rfl h
  | cons _ _=>intro z;cases z
 exact c6c (d9v (c0d q0 p0 (c6z hqf) (c6z free) e))
end My
namespace My
open PySem PySem.Spec PyProof.Rows L2
section
open Builtin.Str PySem.StrLaws
theorem e0f {w t:Str} {c:Nat} (h:c ∉ w.cps.toList):a6d (w++⟨#[c]⟩++t) ⟨#[c]⟩=[.str w,.str ⟨#[c]⟩,.str t]:=by
 have ec:(w++⟨#[c]⟩++t).cps.toList=w.cps.toList++c::t.cps.toList:=by
  rw[a0g,a0g];simp
 have el:(w++⟨#[c]⟩++t).length=w.cps.toList.length+(1+t.cps.toList.length):=by
  have e:=z0e List.length ec;rw[z21] at e;show (w++⟨#[c]⟩++t).cps.size=_;rw[e,z0r,z12];lia
 generalize w++⟨#[c]⟩++t=x at ec el;have hat:At x ⟨#[c]⟩ x.length w.cps.toList.length:=(subAt_one x c _).mpr (by rw[ec,z2e (z04 _),Nat.sub_self];rfl);unfold a6d;rcases occ_head x ⟨#[c]⟩ 1 (z04 1) with ⟨_,hn⟩ | ⟨i,r,eo,ha,hn⟩
 ·exact absurd hat (hn _)
 ·have hi:i=w.cps.toList.length:=by
   rcases z4e i w.cps.toList.length with z | z | z
   ·have e:=(subAt_one x c i).mp ha;rw[ec,z39 z] at e;exact absurd (z0h e) h
   ·exact z
   ·exact absurd hat (hn _ z)
  subst hi;rw[eo];have e1:strSub x 0 w.cps.toList.length=w:=z0n (by rw[strSub_toList,ec];simp);have e2:strSub x (w.cps.toList.length+(⟨#[c]⟩:Str).length) x.length=t:=z0n (by
   rw[strSub_toList,ec,el];show ((w.cps.toList++c::t.cps.toList).drop (w.cps.toList.length+1)).take _=_;rw[List.drop_append,z3j (by lia),List.nil_append,show w.cps.toList.length+1 - w.cps.toList.length=1 by lia];show (t.cps.toList).take _=_;exact z3f (by show _<=w.cps.toList.length+(1+t.cps.toList.length) - (w.cps.toList.length+1);lia))
  show [V.str (strSub x 0 w.cps.toList.length),_,V.str (strSub x (w.cps.toList.length+(⟨#[c]⟩:Str).length) x.length)]=_;rw[e1,e2]
end
end My
namespace My
open PySem PySem.Spec PyProof.Rows L2 PyProof
section
variable {prog:Program} {w:World} {A:Around}
theorem d3l {ns:List Int} (h:ns[j]?=some n):ns.take (j+1)=ns.take j++[n]:=by rw[z1m,h];rfl
end
theorem b3y (k:Int):∀ ms:List Int,inV (.int k) (ms.map V.int)=ms.contains k
 | []=>rfl
 | m::r=>by
  have ih:=b3y k r;unfold inV at ih ⊢;rw[z0q,z2d,ih,List.contains_cons];show ((m == k) || _)=_;rw[show (m == k)=(k == m) from (z1x.mpr ⟨λ h=>z2c.mpr (z2c.mp h).symm,λ h=>z2c.mpr (z2c.mp h).symm⟩)]
theorem c7r {X:Cx} {K:W.Frag} (hK:X.K=K):OpR X (compareOp .In) (rIn K false):=hK ▸ a8v
theorem d5z:typeLookup (.type "list_reverseiterator") "__len__"=pure none:=by rw[typeLookup_type,builtinLookup_eq_fast];exact(by kernel_rfl)
theorem d9i:typeLookup (.type "list_reverseiterator") "__length_hint__"=pure (some (.builtin "list_reverseiterator.__length_hint__")):=by rw[typeLookup_type,builtinLookup_eq_fast];exact(by kernel_rfl)
section
variable {prog:Program} {w:World} {A:Around} {s:Shared}
theorem d2m {R:Result->Shared->Prop} {l I S:Addr} {items:Array Value} {res:Value} {c0:Nat} (hh:A.handled=none) (hl:s.heap.IsList l items) (hit:s.heap.IsRevIter I l ((items.size:Int) - 1)) (hlI:l≠I) (hSI:S≠I) (hSl:S≠l) (hn:items.size<=sizeLine)
  (hS:s.heap.get? S=some {cls:=.type "list",data:=.seq #[] c0})
  (hR:∀ h' tk acc' c',(∀ b o,b≠S->b≠I->s.heap.get? b=some o->h'.get? b=some o)->h'.get? S=some {cls:=.type "list",dict:=none,data:=.seq acc' c',slots:=#[]}->ItemsOf (λ i v=>items[items.size - 1 - i]?=some v) acc' items.size->R (.ok (.ret res)) {s with heap:=h',toks:=tk}) :
  wpAny (model prog w) A.in1 (Builtin.List.listExtendWith (.ref S) (.ref I) res) (λ fin s'=>match fin with | .done f=>R (.ok f) s' | .again c'=>c'.quiet=true/\codeAny (model prog w) A c' R s') (λ e s'=>R (.error e) s') s:=by
 have W:=(Walks.listRev (prog:=prog) (w:=w) (A:=A.in1) hh I l hlI items).toS;have st0:0<=items.size/\s.heap.IsRevIter I l ((items.size:Int) - 1 - ((0:Nat):Int))/\s.heap.IsList l items:=⟨z0x _,by simpa using hit,hl⟩;have hSf:S ∉ [I,l]:=λ hm=>by
  rcases z06.mp hm with z | z
  ·exact hSI z
  ·exact hSl (z0o.mp z)
 unfold Builtin.List.listExtendWith;have sm:Builtin.List.listSameRef (.ref S) (.ref I)=false:=by simp[Builtin.List.listSameRef,hSI]
 refine z00 (wpAny_typeOf hit.typeIs ?_);rw[z01 (by rw[sm];decide)];refine z00 (W.self 0 _ _ _ st0 (z00 (z18 ?_)));unfold Builtin.List.listLengthHint;refine z00 (wpAny_specialOf hit.typeIs d5z ?_);show wpAny _ A.in1 (specialOf (Value.ref I) (Str.ofString "__length_hint__")>>=_) _ _ _;refine z00 (wpAny_specialOf hit.typeIs d9i ?_);generalize hid:("list_reverseiterator.__length_hint__":String)=id0;(fail_if_success (clear hid id0));wp_delta;rw[show splitId id0=some ("list_reverseiterator","__length_hint__") from by subst hid;decide +kernel];subst hid;refine z00 (wpAny_isInstance (b:=true) hit.typeIs (by rw[isSubtype_type];kernel_rfl) (z05 ?_));rw[z01 (by decide)];refine z05 ⟨z3t F.plain_extend_loop _,codeAny_extend_loopS W hn _ hSf _ items.size 0 _ _ _ rfl (z0x _) st0 hS (ItemsOf.nil _) λ s' acc' c' hm hS' hacc=>?_⟩;rw[Moved.eq_with hm];refine hR s'.heap s'.toks acc' c' (λ b ob hb hb2 e=>hm.heap b ob (λ hmem=>?_) e) hS' hacc;rcases z06.mp hmem with z | z
 ·exact hb z
 ·exact hb2 (z0o.mp z)
end
theorem e1p {xs:List V} {its ys:List Value} (r:a3b xs its) (hl:ys.length=xs.length) (h:∀ j v,ys[j]?=some v->its[its.length - 1 - j]?=some v):a3b xs.reverse ys:=by
 have key:∀ {zs:List V} {us:List Value},zs.length=us.length->(∀ (j:Nat) v,us[j]?=some v->∃ x,zs[j]?=some x/\a3c x v)->a3b zs us:=by
  intro zs;induction zs with
  | nil =>
   intro us e _;cases us with
   | nil=>exact .nil
   | cons _ _=>simp at e
  | cons z r ih =>
   intro us e hh;cases us with
   | nil=>simp at e
   | cons u q =>
    obtain⟨x,hx,rx⟩:=hh 0 u rfl;cases hx;exact .cons rx (ih (by simpa using e) λ j v ev=>by simpa using hh (j+1) v (by simpa using ev))
 have il:=r.length;refine key (by rw[List.length_reverse,hl]) λ j v e=>?_
 have hj:j < ys.length:=(z0i.mp e).1;obtain⟨x,hx,rx⟩:=a9e r (h j v e);refine⟨x,?_,rx⟩;rw[List.getElem?_reverse (by lia),il];exact hx
def Ris (xs:Array Nat):Prop:=xs.toList.Pairwise (· < ·)
theorem Ris.lt (h:Ris xs) {i j x y:Nat} (hij:i < j) (hi:xs[i]?=some x) (hj:xs[j]?=some y):x < y:=by
 rw[<-z2a] at hi hj;obtain⟨i1,e1⟩:=z0i.mp hi;obtain⟨j1,e2⟩:=z0i.mp hj;have:=z3l.mp h i j i1 j1 hij;rw[e1,e2] at this;exact this
theorem b9n (h:Ris xs) (j:Nat):∀ (fuel lo hi:Nat),hi - lo<=fuel->lo<=hi->hi<=xs.size->(∀ k x,xs[k]?=some x->k < lo->x < j)->(∀ k x,xs[k]?=some x->hi<=k->j<=x) ->
  ∀ k x,xs[k]?=some x->(k < SetTable.below.go xs j fuel lo hi->x < j)/\(SetTable.below.go xs j fuel lo hi<=k->j<=x)
 | 0,lo,hi,hf,hle,hs,h1,h2=>λ k x e=>by
  have:lo=hi:=by lia
  subst this;exact⟨h1 k x e,h2 k x e⟩
 | fuel+1,lo,hi,hf,hle,hs,h1,h2=>λ k x e=>by
  unfold SetTable.below.go;by_cases hlt:lo < hi
  ·rw[z02 hlt];have hm1:lo<=(lo+hi) / 2:=by lia
   have hm2:(lo+hi) / 2 < hi:=by lia
   have hmx:(lo+hi) / 2 < xs.size:=by lia
   have em:=z4z hmx;have eg:xs.getD ((lo+hi) / 2) j=xs[(lo+hi) / 2]:=by simp[Array.getD,hmx]
   dsimp only;rw[eg];by_cases hc:xs[(lo+hi) / 2] < j
   ·rw[z02 hc];refine b9n h j fuel _ hi (by lia) (by lia) hs (λ k x e hk=>?_) h2 k x e;by_cases q:k=(lo+hi) / 2
    ·subst q;rw[em] at e;cases e;exact hc
    ·have:=h.lt (by lia) e em;lia
   ·rw[z01 hc];refine b9n h j fuel lo _ (by lia) hm1 (by lia) h1 (λ k x e hk=>?_) k x e;by_cases q:k=(lo+hi) / 2
    ·subst q;rw[em] at e;cases e;lia
    ·have:=h.lt (by lia) em e;lia
  ·rw[z01 hlt];have:lo=hi:=by lia
   subst this;exact⟨h1 k x e,h2 k x e⟩
theorem b1s (h:Ris xs) (j:Nat) (e:xs[k]?=some x):(k < SetTable.below xs j->x < j)/\(SetTable.below xs j<=k->j<=x):=by
 refine b9n h j xs.size 0 xs.size (by lia) (z0x _) (z04 _) (λ k x _ hk=>absurd hk (Nat.not_lt_zero _)) (λ k x e hk=>?_) k x e;have:=(z35.mp e).1;lia
theorem d5i (h:Ris xs) (e:xs[i]?=some x):SetTable.below xs x=i:=by
 have hb:=b1s h x e;by_cases q:SetTable.below xs x<=i
 ·by_cases q2:SetTable.below xs x=i
  ·exact q2
  ·have hlt:SetTable.below xs x < i:=by lia
   have hi:=(z35.mp e).1;have e2:xs[SetTable.below xs x]?=some xs[SetTable.below xs x]:=z4z (by lia);have h1:=(b1s h x e2).2 (z04 _);have h2:=h.lt hlt e2 e;lia
 ·have:=hb.1 (by lia);lia
theorem b9v (h:Ris xs) (e:xs[SetTable.below xs j]?≠some j):j ∉ xs.toList:=λ hm=>by
 obtain⟨k,hk,ek⟩:=z1s hm;have e1:xs[k]?=some j:=by rw[<-z2a,z0c hk,ek]
 rw[d5i h e1] at e;exact e e1
theorem Ris.insert (h:Ris xs) (hn:j ∉ xs.toList):Ris (SetTable.insertAt xs (SetTable.below xs j) j):=by
 unfold Ris;rw[SetTable.toList_insertAt];refine z3v.mpr ⟨h.sublist (List.take_sublist _ _),z2r.mpr ⟨λ b hb=>?_,h.sublist (List.drop_sublist _ _)⟩,λ a ha b hb=>?_⟩
 ·obtain⟨k,hk,ek⟩:=z1s hb;rw[List.getElem_drop] at ek;have e1:xs[SetTable.below xs j+k]?=some b:=by rw[<-z2a,z0c (by rw[z29] at hk;lia),ek]
  have:=(b1s h j e1).2 (by lia);have ne:b≠j:=λ z=>hn (z ▸ z4c hb)
  lia
 ·obtain⟨k,hk,ek⟩:=z1s ha;rw[z4b] at ek;rw[z14] at hk;have e1:xs[k]?=some a:=by rw[<-z2a,z0c (by lia),ek]
  have h1:=(b1s h j e1).1 (by lia);rcases z06.mp hb with z | z
  ·lia
  ·obtain⟨k2,hk2,ek2⟩:=z1s z;rw[List.getElem_drop] at ek2;have e2:xs[SetTable.below xs j+k2]?=some b:=by rw[<-z2a,z0c (by rw[z29] at hk2;lia),ek2]
   have:=(b1s h j e2).2 (by lia);lia
structure TOk (t:SetTable):Prop where
 up:Ris t.place
 nd:t.dummies=#[]
theorem TOk.fresh (f m:Nat) (l:Bool):TOk (.fresh f m l):=⟨List.Pairwise.nil,rfl⟩
theorem TOk.noDummy (h:TOk t) (j:Nat):SetTable.has t.dummies j=false:=by
 rw[h.nd];unfold SetTable.has;simp
theorem TOk.probed (h:TOk t):∀ (fuel:Nat) (p:SetTable.Probe) {j:Nat} {d:Option Nat},p.dummy=none->SetTable.probe.go t f z fuel p=some (.empty j d)->d=none/\j ∉ t.place.toList
 | 0,p,j,d,hp,e=>by unfold SetTable.probe.go at e;cases e
 | fuel+1,p,j,d,hp,e=>by
  unfold SetTable.probe.go at e;have adv:∀ q:SetTable.Probe,(t.advance q).dummy=q.dummy:=λ q=>by
   unfold SetTable.advance;split<;>rfl
  cases hs:t.slot p.j with
  | empty =>
   rw[hs] at e;cases e;refine⟨hp,b9v h.up λ z=>?_⟩;unfold SetTable.slot at hs;simp only [z,beq_self_eq_true,if_true] at hs;cases hs
  | dummy =>
   unfold SetTable.slot at hs;simp only [h.noDummy] at hs;split at hs<;>cases hs
  | live i =>
   rw[hs] at e;dsimp only at e;split at e
   ·cases e
   ·exact TOk.probed h fuel _ (by rw[adv];exact hp) e
theorem TOk.free (h:TOk t) (e:t.freeSlot z=some (j,b)):j ∉ t.place.toList:=by
 unfold SetTable.freeSlot at e;cases hp:t.probe (λ _=>z+1) z (t.probeStart z) with
 | none=>rw[hp] at e;cases e
 | some m =>
  rw[hp] at e;cases m with
  | candidate a b c=>cases e
  | empty j' d =>
   obtain⟨hd,hn⟩:=h.probed _ _ rfl hp;subst hd;cases e;exact hn
theorem TOk.put (h:TOk t) (hn:j ∉ t.place.toList):TOk (t.put j).1/\(t.put j).1.led=t.led:=by
 refine⟨⟨h.up.insert hn,?_⟩,rfl⟩;show (if SetTable.has t.dummies j=true then _ else t.dummies)=#[];rw[h.noDummy,z01 (by simp)];exact h.nd
theorem d0l (n:Nat):Ris (Array.range n):=by
 unfold Ris;rw[Array.toList_range];exact List.pairwise_lt_range
theorem TOk.stand (t:SetTable) (n:Nat):TOk (t.standIn n)/\(t.standIn n).led=t.led:=⟨⟨d0l n,rfl⟩,rfl⟩
theorem TOk.orStand (h:TOk t) (n:Nat):TOk (t.orStandIn n)/\(t.orStandIn n).led=t.led:=by
 unfold SetTable.orStandIn;split
 ·exact⟨h,rfl⟩
 ·exact TOk.stand t n
theorem TOk.laidNew (h:TOk t) (es:Array (Int×Value)) (z:Int) (x:Value):TOk (layNew t es z x).2.1/\(layNew t es z x).2.1.led=t.led:=by
 unfold layNew;split
 ·rename_i slot wd e;obtain⟨h1,h2⟩:=h.put (h.free e);obtain⟨h3,h4⟩:=h1.orStand (SetTable.insertAt es (t.put slot).2 (z,x)).size;exact⟨h3,h4.trans h2⟩
 ·exact TOk.stand t _
theorem e2h (e:SetTable.laid mask fi mo led pl hs=some (t,o)):TOk t/\t.led=led:=by
 unfold SetTable.laid at e;cases hl:SetTable.layClean mask hs with
 | none=>rw[hl] at e;cases e
 | some ow =>
  rw[hl] at e;cases e;refine⟨⟨?_,rfl⟩,rfl⟩;have key:∀ l:List Nat,l.Pairwise (· < ·)->((l.filterMap λ j=>(ow.getD j none).map (j,·)).map (·.1)).Pairwise (· < ·)/\∀ x∈(l.filterMap λ j=>(ow.getD j none).map (j,·)).map (·.1),x∈l:=by
   intro l;induction l with
   | nil=>intro _;exact⟨.nil,λ x hx=>by cases hx⟩
   | cons a r ih =>
    intro hp;obtain⟨h1,h2⟩:=z2r.mp hp;obtain⟨i1,i2⟩:=ih h2;rw[z1i];cases ho:ow.getD a none with
    | none=>exact⟨i1,λ x hx=>z0p _ (i2 x hx)⟩
    | some q =>
     refine⟨z2r.mpr ⟨λ b hb=>h1 b (i2 b hb),i1⟩,λ x hx=>?_⟩;rcases z06.mp hx with z | z
     ·exact z ▸ z0g
     ·exact z0p _ (i2 x z)
  exact(key _ List.pairwise_lt_range).1
theorem TOk.relay (es:Array (Int×Value)) (wn:Nat):TOk (relayAll t es wn).2.1/\(relayAll t es wn).2.1.led=t.led:=by
 unfold relayAll;split
 ·rename_i t' order e;have:=e2h e;dsimp only;split
  ·exact this
  ·exact TOk.stand t _
 ·exact TOk.stand t _
def d8j (e:Int×Value):Int:=match e.2 with
 | .int n _=>n
 | _=>0
section
variable {prog:Program} {w:World} {A:Around} {E:Value->Shared->Prop} {s:Shared}
def d1e (prog:Program) (w:World) (h:Heap) (a:Addr) (ks:List Int) (led:Bool):Prop :=
 ∃ o es ep t,h.get? a=some o/\o.ExactSet/\o.data=.set es ep t/\ElemsOf (intKind prog w) es.toList/\es.size < scanBound/\t.fits es.size=true/\TOk t/\t.led=led/\(es.toList.map d8j).Perm ks
theorem d5d {e:Int×Value} (h:(∃ k,(intKind prog w).is k e.2=true/\e.1=(intKind prog w).hash k)/\e.2.scannable=true):∃ t,e.2=.int (d8j e) t:=by
 obtain⟨⟨k,hk,_⟩,_⟩:=h;obtain⟨t,ht⟩:=Value.isInt_shape hk;refine⟨t,?_⟩;unfold d8j;rw[ht]
theorem d2e (h:(∃ k,(intKind prog w).is k e.2=true/\e.1=(intKind prog w).hash k)/\e.2.scannable=true):(intKind prog w).is n e.2=true ↔ d8j e=n:=by
 obtain⟨t,ht⟩:=d5d h;rw[ht];constructor
 ·intro z;obtain⟨t',e'⟩:=Value.isInt_shape (show Value.isInt n (Value.int (d8j e) t)=true from z);exact(Value.int.inj e').1
 ·intro z;rw[z];exact intKind_is _ _ _ _
theorem c5d {h:Heap} (ho:h.get? a=some o) (hd:o.data=.set es ep t) (es':Array (Int×Value)) (t':SetTable):(h.update a (Obj.putSet es' t')).get? a=some {o with data:=.set es' (ep+1) t'}:=by
 have q:=z2l (Obj.putSet es' t') ho (by rw[putSet_of es' t' hd];rfl);rwa [putSet_of es' t' hd] at q
theorem e6b (hS:d1e prog w s.heap a ks led) (hroom:ks.length+1 < scanBound)
  (h:∀ b h',Heap.SameBut a s.heap h'->d1e prog w h' a (step_dedup ks n) led->Q b {s with heap:=h'}):wpAny (model prog w) A (setAddHashed a (.int n t0) ((intKind prog w).hash n)) Q E s:=by
 obtain⟨o,es,ep,t,ho,hex,hd,hel,hb,hf,ht,hled,hp⟩:=hS;have hkey:(intKind prog w).is n (.int n t0)=true:=intKind_is _ _ _ _;have hsc:(Value.int n t0).scannable=true:=rfl;have hsz:es.size=ks.length:=by rw[<-z21,<-z03,hp.length_eq]
 refine z18 (z00 (wpAny_setState_of ho hd hf ?_));dsimp only;rw[byScan_of hsc hb hel];simp only [↓reduceIte];refine z00 (z00 (wpAny_rule (z00 (wpAny_setScan_of hkey ho hd hf hel ?_))));cases hr:List.findIdx? (λ e=>(intKind prog w).is n e.2) es.toList with
 | some j =>
  dsimp only;obtain⟨hj,hpj,_⟩:=List.findIdx?_eq_some_iff_getElem.mp hr;have hin:=hp.mem_iff.mp (z0a.mpr ⟨es.toList[j],z1k hj,(d2e (hel _ (z1k hj))).mp hpj⟩);have es0:s={s with heap:=s.heap}:=by cases s;rfl
  refine z05 (z05 ?_);refine h _ s.heap (Heap.SameBut.refl a s.heap) ?_;unfold step_dedup;rw[z02 (z4j.mpr ⟨n,hin,by simp⟩)];exact nx33 o es ep t ho hex hd hel hb hf ht hled hp
 | none =>
  have hnin:n ∉ ks:=λ z=>by
   obtain⟨e,he,ek⟩:=z0a.mp (hp.mem_iff.mpr z);have q:=List.findIdx?_eq_none_iff.mp hr e he;rw[(d2e (hel _ he)).mpr ek] at q;cases q
  have hstep:step_dedup ks n=ks++[n]:=by
   unfold step_dedup;rw[z01 λ z=>by obtain⟨x,hx,ex⟩:=z4j.mp z;exact hnin (by rw[<-z2c.mp ex];exact hx)]
  have gw:∀ (b:Bool) {s₁:Shared} {Q':Unit->Shared->Prop},Q' () s₁->wpAny (model prog w) A (match b with | true=>rule "set.scan.the-table-gave-way" | false=>pure ()) Q' E s₁:=λ b s₁ Q' hq=>by cases b<;>first | exact z05 hq | exact wpAny_rule hq
  have l1:=layNew_perm t es ((intKind prog w).hash n) (.int n t0);have l2:=layNew_fits t es ((intKind prog w).hash n) (.int n t0);have l3:=ht.laidNew es ((intKind prog w).hash n) (.int n t0);generalize layNew t es ((intKind prog w).hash n) (.int n t0)=L at l1 l2 l3 ⊢;obtain⟨es1,t1,wd,gv⟩:=L;dsimp only at l1 l2 l3 ⊢;rw[Array.toList_push] at l1;have hel1:=(hel.push hkey hsc).perm l1;have hp1:(es1.toList.map d8j).Perm (ks++[n]):=(l1.map d8j).trans (by rw[z0m];exact hp.append_right [n]);have sz1:es1.size=ks.length+1:=by rw[<-z21,l1.length_eq,z0r,z21,hsz];rfl
  have hb1:es1.size < scanBound:=by rw[sz1];exact hroom
  refine z00 (gw _ ?_);have tail:∀ (t2:SetTable),t2.fits es1.size=true->TOk t2->t2.led=led->wpAny (model prog w) A (do
    storeSet a es1 t2
    if (!wd && t2.tooFull)=true then do
      (match (relayAll t2 es1 (SetTable.grown es1.size)).2.2 with | true=>rule "set.scan.the-table-gave-way" | false=>pure ())
      storeSet a (relayAll t2 es1 (SetTable.grown es1.size)).1 (relayAll t2 es1 (SetTable.grown es1.size)).2.1
      pure (some true)
     else pure (some true)) (λ r s'=>∃ h',s'={s with heap:=h'}/\r=some true/\Heap.SameBut a s.heap h'/\d1e prog w h' a (ks++[n]) led) E s:=by
   intro t2 f2 k2 le2;refine z00 (wpAny_storeSet_of ho hd ?_ (fits_of_scanBound hb1));have g1:=c5d ho hd es1 t2;have sb1:=z3k s.heap a (Obj.putSet es1 t2);split
   ·have r1:=relayAll_perm t2 es1 (SetTable.grown es1.size);have r2:=relayAll_fits t2 es1 (SetTable.grown es1.size);have r3:=TOk.relay (t:=t2) es1 (SetTable.grown es1.size);generalize relayAll t2 es1 (SetTable.grown es1.size)=Rl at r1 r2 r3 ⊢;obtain⟨es2,t3,gv2⟩:=Rl;have sz2:es2.size=es1.size:=by rw[<-z21,r1.length_eq,z21]
    refine z00 (gw _ (z00 (wpAny_storeSet_of g1 rfl ?_ (fits_of_scanBound (by rw[sz2];exact hb1)))));have g2:=c5d g1 rfl es2 t3;exact z05 (⟨_,rfl,rfl,sb1.trans (z3k _ a _),nx33 _ es2 _ t3 g2 hex rfl (hel1.perm r1) (by rw[sz2];exact hb1) r2 r3.1 (r3.2.trans le2) ((r1.map d8j).trans hp1)⟩)
   ·exact z05 (⟨_,rfl,rfl,sb1,nx33 _ es1 _ t2 g1 hex rfl hel1 hb1 f2 k2 le2 hp1⟩)
  have fin:∀ r s',(∃ h',s'={s with heap:=h'}/\r=some true/\Heap.SameBut a s.heap h'/\d1e prog w h' a (ks++[n]) led)->∃ b,r=some b/\Q b s':=by
   rintro r s' ⟨h',rfl,rfl,hsb,hg⟩;exact⟨true,rfl,h true h' hsb (by rw[hstep];exact hg)⟩
  split
  ·refine z00 ?_;refine z05 ?_;refine z0j (tail t1 l2 l3.1 (l3.2.trans hled)) (λ r s' z=>?_) λ _ _ z=>z
   obtain⟨b,rfl,q⟩:=fin r s' z;exact z05 q
  ·refine z00 (z05 ?_);refine z0j (tail t1 l2 l3.1 (l3.2.trans hled)) (λ r s' z=>?_) λ _ _ z=>z
   obtain⟨b,rfl,q⟩:=fin r s' z;exact z05 q
end
def dd (ns:List Int):List Int:=ns.foldl step_dedup []
theorem dd_len (ns:List Int):(dd ns).length<=ns.length:=by
 have key:∀ (ns acc:List Int),(ns.foldl step_dedup acc).length<=acc.length+ns.length:=by
  intro ns;induction ns with
  | nil=>intro acc;exact z04 _
  | cons n r ih =>
   intro acc;have h1:=ih (step_dedup acc n);have h2:(step_dedup acc n).length<=acc.length+1:=by unfold step_dedup;split<;>simp
   rw[List.foldl_cons,z12];lia
 have:=key ns [];unfold dd;simpa using this
theorem e1b (ns:List Int) (n:Int):dd (ns++[n])=step_dedup (dd ns) n:=by
 unfold dd;rw[List.foldl_append];rfl
section
variable {prog:Program} {w:World} {A:Around} {E:Value->Shared->Prop} {s:Shared}
theorem d1e.keep (x:d1e prog w h a ks led) (k:∀ o,h.get? a=some o->h'.get? a=some o):d1e prog w h' a ks led :=
 let ⟨o,es,ep,t,ho,r⟩:=x
 (nx3 o es (nx12 ep t (k o ho) r))
theorem e4r {us:List Value} (hh:A.handled=none) (hlen:us.length=ns.length) (hus:∀ (j:Nat) u,us[j]?=some u->∃ n t,ns[j]?=some n/\u=Value.int n t) (hlI:l≠I) (hSI:S≠I) (hSl:S≠l) (hb:ns.length+1 < scanBound) :
  ∀ (k i:Nat) (s:Shared),us.length - i=k->i<=us.length->s.heap.IsListIter I l i->s.heap.IsList l us.toArray->d1e prog w s.heap S (dd (ns.take i)) led ->
   (∀ h' tk,(∀ b o,b≠I->b≠S->s.heap.get? b=some o->h'.get? b=some o)->d1e prog w h' S (dd ns) led->R (.ok (.ret .none)) {s with heap:=h',toks:=tk}) ->
   codeAny (model prog w) A (.builtin "set.update.loop" ⟨[.ref S,.ref I],[]⟩) R s:=by
 have W:=Walks.list (prog:=prog) (w:=w) (A:=A.in1) hh I l hlI us.toArray;have us0:us.toArray.size=us.length:=by simp
 intro k;induction k with
 | zero =>
  intro i s hk hi hit hil hg hR;have hin:i=us.length:=by lia
  refine z2f PyProof.Rows.F.entry_set_update_loop ?_;rw[z57 z5f _];refine z00 (W.done s _ _ ⟨by rw[us0,<-hin];exact hit,hil⟩ λ h' tk hk'=>?_);rw[hin,hlen,z16] at hg;exact z05 (hR h' tk (λ b o b1 _ e=>hk' b o (by simpa using b1) e) (hg.keep λ o e=>hk' S o (by simpa using hSI) e))
 | succ k ih =>
  intro i s hk hi hit hil hg hR;have hlt:i < us.length:=by lia
  refine z2f PyProof.Rows.F.entry_set_update_loop ?_;rw[z57 z5f _];refine z00 (W.item i s _ _ (by rw[us0];exact hlt) ⟨hit,hil⟩ λ v h1 tk1 hP hst hk1=>?_);obtain⟨n,t,hn,rfl⟩:=hus i v (by simpa using hP);refine z00 (z18 ?_);refine z18 (z00 ((intKind prog w).pyHash (intKind_is _ _ _ _) ?_));have hg1:=hg.keep λ o e=>hk1 S o (by simpa using hSI) e
  have hroom:(dd (ns.take i)).length+1 < scanBound:=by
   have:=dd_len (ns.take i);rw[z14] at this;lia
  refine e6b (s:={s with heap:=h1,toks:=tk1+1}) hg1 hroom λ b h2 hsb hg2=>?_
  have oth:=λ b hb=>hsb.2 b hb
  refine z05 ⟨z3t z5f _,ih (i+1) {s with heap:=h2,toks:=tk1+1} (by lia) hlt (hst.1.at λ o e=>(oth I hSI.symm).trans e) (hst.2.at λ o e=>(oth l hSl.symm).trans e) (by rw[d3l hn,e1b];exact hg2) λ h3 tk3 k3 hg3=>?_⟩;exact hR h3 tk3 (λ b o b1 b2 e=>k3 b o b1 b2 ((oth b b2).trans (hk1 b o (by simpa using b1) e))) hg3
theorem e6h (a:Value) (h:Q₁ (.ref s.heap.objs.size) {s with heap:=s.heap.push {cls:=.type "set",dict:=none,data:=.set #[] 0 (.fresh 0 0 (!w.params.followText "set-order"))}}) :
  codeAny (model prog w) A (.call (.builtin "set.__new__") ⟨[.type "set",a],[]⟩) (wants Q₁ E) s:=by
 refine codeAny_of_tree ?_;show wpAny _ A.in1 (do checkBuiltinCall "set.__new__" ⟨[.type "set",a],[]⟩;again (.builtin "set.__new__" ⟨[.type "set",a],[]⟩)) _ _ s;refine z00 (wpAny_of_eq (F.newCall_set_1 a) (z05 ⟨z3t F.plain_set_new _,z2f F.entry_set_new ?_⟩));rw[z57 F.plain_set_new _];unfold Builtin.«set.__new__» Builtin.Frozenset.newClass;have hsub:=sub_set_self;obtain⟨hp,g,d,tk,os⟩:=s;dsimp only;wp_walk;refine wpAny_askSetting (z05 ?_);simp only [newObj];exact z00 (wpAny_alloc (z05 (z05 h)))
set_option maxHeartbeats 3200000 in
theorem c8x {l:Addr} {us:List Value} {ns:List Int} {Q:Value->Shared->Prop} (hh:A.handled=none) (hl:s.heap.IsList l us.toArray) (hlen:us.length=ns.length) (hus:∀ (j:Nat) u,us[j]?=some u->∃ n t,ns[j]?=some n/\u=Value.int n t) (hb:ns.length+1 < scanBound)
  (h:∀ h' tk,d1e prog w h' s.heap.objs.size (dd ns) (!w.params.followText "set-order")->(∀ b o,s.heap.get? b=some o->h'.get? b=some o)->Q (.ref s.heap.objs.size) {s with heap:=h',toks:=tk}) :
  wpAny (model prog w) A (call (.type "set") [.ref l]) Q E s:=by
 obtain⟨c,tl,hmro⟩:=z33.mro;have hmade:=z33.made;have hsub:=z33.sub;refine wpAny_call (codeAny_of_tree ?_);show wpAny _ _ (callAny (.type "set") _) _ _ _;refine z05 ⟨Code.quiet_builtin _ (by decide +kernel),z2f F.entry_type_call ?_⟩;rw[Around.under_plain (weight_type_call_type "set" [.ref l] []) rfl];have h1:=z33.notType;have h2:=z33.canCreate;have hct:=F.typeCall_set_1 (.ref l);repeat (any_goals (first | assumption | wp_step))
 generalize hfr:(SetTable.fresh 0 0 (!w.params.followText "set-order"))=fr;refine z2m (e6h (prog:=prog) (w:=w) (.ref l) (E:=E) (Q₁:=λ obj s₁=>obj=.ref s.heap.objs.size/\s₁={s with heap:=s.heap.push {cls:=.type "set",dict:=none,data:=.set #[] 0 fr}}) ⟨rfl,by rw[hfr]⟩) λ r s₁ hr=>?_
 cases r with
 | error e=>exact hr
 | ok fl =>
  cases fl with
  | ret obj =>
   obtain⟨rfl,rfl⟩:=hr;have hS:(s.heap.push {cls:=.type "set",dict:=none,data:=.set #[] 0 fr}).get? s.heap.objs.size=some {cls:=.type "set",dict:=none,data:=.set #[] 0 fr}:=z1a _ rfl;have hT:Shared.TypeIs {s with heap:=s.heap.push {cls:=.type "set",dict:=none,data:=.set #[] 0 fr}} (.ref s.heap.objs.size) "set":=⟨_,hS,rfl⟩;have hli:=z33.init.lookup;have hbi:=z33.init.bind (.ref s.heap.objs.size);repeat (any_goals (first | assumption | wp_step))
   refine z2m (z53 (R:=wants (λ r s₂=>r=.none/\∃ h' tk,s₂={s with heap:=h',toks:=tk}/\d1e prog w h' s.heap.objs.size (dd ns) (!w.params.followText "set-order")/\∀ b o,s.heap.get? b=some o->h'.get? b=some o) E) z33.init.plain F.entry_set_init (check_set_init_1 hT ?_)) λ r₂ s₂ hr₂=>?_
   ·obtain⟨ol,hol,hcl,nl,hdl⟩:=id hl;obtain⟨ocls,odict,odata,oslots⟩:=ol;simp only at hcl hdl;subst hcl;subst hdl;have hol':(s.heap.push {cls:=.type "set",dict:=none,data:=.set #[] 0 fr}).get? l=some {cls:=.type "list",dict:=odict,data:=.seq us.toArray nl,slots:=oslots}:=z0k _ hol;have hsls:=F.sub_list_set;have hslf:=F.sub_list_frozenset;have hne:(Value.type "list" == Value.type "dict")=false:=by decide
    have hl1:(s.heap.push {cls:=.type "set",dict:=none,data:=.set #[] 0 fr}).IsList l us.toArray:= nx26 _ hol' rfl nl rfl;have hfu:fr.fill=0/\fr.place.size=0/\fr.mask=7:=by rw[<-hfr];exact⟨rfl,rfl,rfl⟩
    subst hfr;unfold Builtin.«set.__init__» noKeywords Builtin.Frozenset.updateFrom;generalize hPI:pyIter=PI;wp_walk;subst hPI;refine z4h hl1 (z00 (wpAny_runValue ?_));have hlS:l < s.heap.objs.size:=z09 hol;have hh3:A.in1.in1.handled=none:=by simp[hh]
    refine e4r (prog:=prog) (w:=w) (s:={s with heap:=(s.heap.push {cls:=.type "set",dict:=none,data:=.set #[] 0 (.fresh 0 0 (!w.params.followText "set-order"))}).push {cls:=.type "list_iterator",data:=.fields #[.ref l,.int 0 0]}}) (I:=(s.heap.push {cls:=.type "set",dict:=none,data:=.set #[] 0 (.fresh 0 0 (!w.params.followText "set-order"))}).objs.size) (led:=!w.params.followText "set-order") hh3 hlen hus ?_ ?_ (Nat.ne_of_gt hlS) hb us.length 0 (by lia) (z0x _) ⟨_,z1a _ rfl,rfl,rfl⟩ (hl1.push _) ?_ λ h' tk k hg=>?_
    ·rw[size_push'];exact z0l (Nat.lt_succ_of_lt hlS)
    ·rw[size_push'];exact z0l (z4g _)
    ·exact nx33 _ (#[]) 0 _ (z0k _ hS) ⟨rfl,rfl,rfl⟩ rfl (λ e he=>by cases he) (by decide) rfl (TOk.fresh _ _ _) rfl (.nil)
    ·show wpAny _ _ _ _ _ _;refine z05 ?_;show wpAny _ _ (ret Value.none) _ _ _;refine z05 (⟨rfl,nx0 h' tk rfl hg λ b o e=>?_⟩);have hb1:=z09 e;exact k b o (by rw[size_push'];exact z0l (Nat.lt_succ_of_lt hb1)) (z0l hb1) (z0k _ (z0k _ e))
   ·cases r₂ with
    | error e=>exact hr₂
    | ok fl₂ =>
     cases fl₂ with
     | ret r =>
      obtain⟨rfl,h',tk,rfl,hg,hk'⟩:=hr₂;repeat (any_goals (first | assumption | wp_step))
      exact h _ _ hg hk'
     | _=>exact hr₂.elim
  | _=>exact hr.elim
end
theorem e1q:typeLookup (.type "list") "keys"=pure none:=by rw[typeLookup_type,builtinLookup_eq_fast];exact(by kernel_rfl)
theorem c7c:entryFor table "dict.update.loop"=some Builtin.«dict.update.loop»:=entryFor_of_tree (by kernel_rfl)
theorem b9r:plainId "dict.update.loop"=true:=by decide +kernel
section
variable {prog:Program} {w:World} {A:Around} {E:Value->Shared->Prop} {s:Shared}
theorem e1m (hL:PlainL s.heap l its) (hA:A.handled=none) (h:∀ h' tk,(∀ b o,s.heap.get? b=some o->h'.get? b=some o)->Q none {s with heap:=h',toks:=tk}):wpAny (model prog w) A (getAttr? (.ref l) "keys") Q E s:=by
 obtain⟨o,n,ho,hc,hd,hdat⟩:=hL;obtain⟨c,dct,dat,sl⟩:=o;simp only at hc hdat hd;subst hc hdat hd;obtain⟨hp,g,d,tk,os⟩:=s;have hT:∀ tk',(⟨hp,g,d,tk',os⟩:Shared).TypeIs (.ref l) "list":=λ _=>⟨_,ho,rfl⟩
 have f1:=sub_AttributeError;have f3:=z5c.lookup;have f4:=z5c.bind (.ref l);have f5:=am_list_getattr_none;have hname:(["__module__","__name__","__qualname__","__doc__","__annotations__"]:List Str).contains "keys"=false:=by decide +kernel
 unfold getAttr? getAttrBy? getAttrBy;repeat (any_goals (first | assumption | exact hT _ | ((with_reducible show wpAny _ _ (call (Value.builtin "list.__getattribute__") _ _) _ _ _);refine z3a z5c (hT _) am_entry_list_getattribute (F.args_list_getattribute_2 _ _) (meets_getattribute_miss_list l its n sl "keys" _ e1q hname (by decide +kernel)) ⟨ho,hA,λ h' tk' e hx'=>?_⟩) | wp_step))
 obtain⟨t',u',he⟩:=hx'.there;unfold getattributeRaised;repeat (any_goals (first | assumption | wp_step))
 exact h _ _ hx'.keeps
theorem c7m {K:Type} [DecidableEq K] (vs:List (K×Value)) (k:K) (v:Value):(stored vs k v).length<=vs.length+1:=by
 unfold stored;split<;>simp
def b2c {K:Type} [DecidableEq K] (vs:List (K×Value)) (ps:List (K×Value)):List (K×Value):=ps.foldl (λ a q=>stored a q.1 q.2) vs
theorem d9g {us:List Value} (hh:A.handled=none) (hlI:l≠I) (hDI:D≠I) (hDl:D≠l) (hlen:us.length=ks.length) (hsz:ks.length < 1000000) :
  ∀ (k i:Nat) (s:Shared),us.length - i=k->i<=us.length->s.heap.IsListIter I l i->s.heap.IsList l us.toArray->(∀ (j:Nat) u,us[j]?=some u->∃ t ku q,u=.ref t/\t≠I/\t≠D/\ks[j]?=some q/\s.heap.IsTuple t #[ku,q.2]/\(a2a prog w).is q.1 ku=true) ->
   (∃ vs,s.heap.DictOf (a2a prog w) D vs/\vs=b2c [] (ks.take i)/\vs.length<=i) ->
   (∀ h' tk,(∀ b o,b≠I->b≠D->s.heap.get? b=some o->h'.get? b=some o)->h'.DictOf (a2a prog w) D (b2c [] ks)->R (.ok (.ret .none)) {s with heap:=h',toks:=tk}) ->
   codeAny (model prog w) A (.builtin "dict.update.loop" ⟨[.ref D,.ref I,rawInt i,.none],[]⟩) R s:=by
 have W:=Walks.list (prog:=prog) (w:=w) (A:=A.in1) hh I l hlI us.toArray;have us0:us.toArray.size=us.length:=by simp
 intro k;induction k with
 | zero =>
  intro i s hk hi hit hil ht hg hR;have hin:i=us.length:=by lia
  refine z2f c7c ?_;refine z00 (W.done s _ _ ⟨by rw[us0,<-hin];exact hit,hil⟩ λ h' tk hk'=>?_);obtain⟨vs,dd,rfl,_⟩:=hg;rw[hin,hlen,z16] at dd;refine z00 (z05 (z05 (hR h' tk (λ b o b1 _ e=>hk' b o (by simpa using b1) e) ?_)));obtain⟨o,es,ep,ho,r⟩:=dd;exact nx18 o es ep (hk' D o (by simpa using hDI) ho) r
 | succ k ih =>
  intro i s hk hi hit hil ht hg hR;have hlt:i < us.length:=by lia
  refine z2f c7c ?_;rw[z57 b9r _];refine z00 (W.item i s _ _ (by rw[us0];exact hlt) ⟨hit,hil⟩ λ v h1 tk1 hP hst hk1=>?_);obtain⟨t,ku,q,rfl,tI,tD,hq,hT,hkk⟩:=ht i v (by simpa using hP);obtain⟨vs,dd,evs,hvl⟩:=hg;obtain⟨oT,hoT,hcT,nT,hdT⟩:=id hT;have hoT1:=hk1 t oT (by simpa using tI) hoT;refine z00 (z18 ?_);refine z00 (wpAny_tryCatch ?_);refine z00 (wpAny_typeOf ⟨oT,hoT1,hcT⟩ ?_);refine z00 (z3w hoT1 hdT ?_);refine z05 ?_;refine z18 ?_;unfold dictSet;try with_reducible refine z18 ?_
  refine z00 ((a2a prog w).pyHash hkk ?_);have dd1:h1.DictOf (a2a prog w) D vs:=by
   obtain⟨o,es,ep,ho,r⟩:=dd;exact nx18 o es ep (hk1 D o (by simpa using hDI) ho) r
  have hv6:vs.length<=sizeLine:=z0s hvl (z0s hi (by rw[hlen];exact z0s (z3z hsz) (by decide)));refine wpAny_dictSetHashed_pairs (s:={s with heap:=h1,toks:=tk1+1}) (hsz:=hv6) hkk dd1 λ h2 dd2 sb=>?_
  have oth:=λ b hb=>sb.2 b hb
  refine z05 ⟨z3t b9r _,?_⟩;have en:rawInt ((i:Int)+1)=rawInt ((i+1:Nat):Int):=by rw[Int.natCast_add];rfl
  refine ih (i+1) {s with heap:=h2,toks:=tk1+1} (by lia) hlt (hst.1.at λ o e=>(oth I hDI.symm).trans e) (hst.2.at λ o e=>(oth l hDl.symm).trans e) (λ j u eu=>?_) ⟨_,dd2,?_,?_⟩ λ h3 tk3 k3 dd3=>?_
  ·obtain⟨t',ku',q',e1,e2,e3,e4,⟨oT',hoT',r'⟩,e6⟩:=ht j u eu;exact nx44 t' ku' q' e1 e2 e3 e4 ⟨oT',(oth _ e3).trans (hk1 _ _ (by simpa using e2) hoT'),r'⟩ e6
  ·rw[z1m,hq,evs];unfold b2c;rw[List.foldl_append];rfl
  ·have:=c7m vs q.1 q.2;lia
  ·exact hR h3 tk3 (λ b o b1 b2 e=>k3 b o b1 b2 ((oth b b2).trans (hk1 b o (by simpa using b1) e))) dd3
end
inductive e2t (K:W.Frag) (H:Hp):List V->List (Key×V)->Prop where
 | nil:e2t K H [] []
 | cons {t:Addr} {q:Key×V} {ws:List V} {ps:List (Key×V)} (h:SqT K H t [kV q.1,q.2]) (r:e2t K H ws ps):e2t K H (.ref t::ws) (q::ps)
def b0o (kvs ps:List (Key×V)):List (Key×V):=ps.foldl (λ a q=>a6s a q.1 q.2) kvs
theorem d8x:∀ {ps:List (Key×V)} {ks:List (Key×Value)} {kvs:List (Key×V)} {vs:List (Key×Value)},KV ps ks->KV kvs vs->KV (b0o kvs ps) (b2c vs ks)
 | _,_,_,_,.nil,h=>h
 | _,_,_,_,.cons (a:=p) (b:=q) e r,h=>by
  have:=KV.put h p.1 e.2;rw[show stored _ p.1 q.2=stored _ q.1 q.2 by rw[e.1]] at this;have h2:=d8x r this;exact h2
theorem b4n:∀ (ps kvs:List (Key×V)),(b0o kvs ps).length<=kvs.length+ps.length
 | [],kvs=>z04 _
 | q::r,kvs=>by
  have h1:=b4n r (a6s kvs q.1 q.2);have h2:=a7v kvs q.1 q.2;show (b0o (a6s kvs q.1 q.2) r).length<=kvs.length+(r.length+1);lia
theorem d8i {σ:L2.St} (I:Inv X pins σ H s):∀ {ws:List V} {ps:List (Key×V)} {its:List Value},e2t X.K H ws ps->a3b ws its ->
  ∃ ks:List (Key×Value),KV ps ks/\its.length=ks.length/\∀ (j:Nat) u,its[j]?=some u->∃ t ku q,u=.ref t/\t < s.heap.objs.size/\ks[j]?=some q/\s.heap.IsTuple t #[ku,q.2]/\(a2a X.prog X.w).is q.1 ku=true
 | _,_,_,.nil,.nil=>⟨[],.nil,rfl,λ j u e=>by simp at e⟩
 | _,_,_,.cons (q:=q) h r,.cons rv rr=>by
  obtain⟨ks,k1,k2,k3⟩:=d8i I r rr;obtain⟨its,r2,⟨o,ho,hr⟩,_⟩:=I.tuple h;obtain⟨ku,vu,rfl,e1,e2⟩:=c0w r2;cases rv;refine⟨(q.1,vu)::ks,.cons ⟨rfl,e2⟩ k1,by simp[k2],λ j u e=>?_⟩;cases j with
  | zero =>
   cases e;exact nx2 _ ku (q.1,vu) rfl (z09 ho) rfl ⟨o,ho,hr.1,hr.2⟩ (c7i e1)
  | succ j=>exact k3 j u (by simpa using e)
theorem b7z {K:W.Frag} (hK:X.K=K) (hc:X.calm=true):a8k X (.type "dict") (λ xs H Q=>∃ (a:Addr) (ws:List V) (ps:List (Key×V)),xs=[V.ref a]/\H a=some (.lst ws)/\e2t K H ws ps/\ps.length < 1000000/\∀ p,H p=none->Q (.ref p) (upd H p (.dK (b0o [] ps)))):=by
 subst hK;intro pins s σ H xs us Q I r h;obtain⟨a,ws,ps,rfl,ha,hp,hz,q⟩:=h;obtain⟨u,rfl,ru⟩:=a8l r;cases ru;obtain⟨its,rv,pl,_⟩:=I.list (SqL.of ha);obtain⟨ks,k1,k2,k3⟩:=d8i I hp rv;have kl:=(z3b k1).symm;have hal:a < s.heap.objs.size:=by obtain⟨_,_,e,_⟩:=pl;exact z09 e
 refine callType_codes (Q₁:=λ obj s₁=>obj=.ref s.heap.objs.size/\s₁={s with heap:=s.heap.push {cls:=.type "dict",data:=.dict #[]}}) F.kt_called_dict (F.kt_typeCall_dict_1 _) F.entry_dict_init (PySem.kt_code_dict_new _ ⟨rfl,rfl⟩) λ obj s₁ ⟨e1,e2⟩=>?_
 subst e1 e2;have hnew:(s.heap.push {cls:=.type "dict",data:=.dict #[]}).DictOf (a2a X.prog X.w) s.heap.objs.size []:=Heap.DictOf.new s.heap;refine⟨hnew.typeIs,F.args_dict_init_2 _ _,?_⟩;refine z00 ?_;refine z00 (wpAny_notOrdered_dict hnew.typeIs ?_);refine z05 ?_;show wpAny _ _ (Builtin.Dict.updateFrom "dict.__init__" s.heap.objs.size (.ref a) [] .none) _ _ _;have pl1:PlainL (s.heap.push {cls:=.type "dict",data:=.dict #[]}) a its.toArray:=pl.keeps λ b o e=>z0k _ e
 obtain⟨oa,na,hoa,hca,_⟩:=id pl1;refine z00 (wpAny_typeOf ⟨oa,hoa,hca⟩ ?_);refine z00 (e1m pl1 (I.ok.hd hc) λ h1 tk1 hk1=>?_);refine z00 (wpAny_rule ?_);have pl2:=pl1.keeps hk1;refine z00 (z4h pl2.isList ?_);have dd1:(h1.push {cls:=.type "list_iterator",data:=.fields #[.ref a,.int 0 0]}).DictOf (a2a X.prog X.w) s.heap.objs.size []:=by
  obtain⟨o,es,ep,ho,r⟩:=hnew;exact nx18 o es ep (z0k _ (hk1 _ _ ho)) r
 have hDl:s.heap.objs.size < h1.objs.size:=by obtain⟨o,es,ep,ho,r⟩:=hnew;exact z09 (hk1 _ _ ho)
 have haI:=z38 hal hDl;have kp:∀ b o,s.heap.get? b=some o->(h1.push {cls:=.type "list_iterator",data:=.fields #[.ref a,.int 0 0]}).get? b=some o:=λ b o e=>z0k _ (hk1 _ _ (z0k _ e))
 refine z05 ⟨z3t b9r _,d9g (A:=X.A.in1) (s:={s with heap:=h1.push {cls:=.type "list_iterator",data:=.fields #[.ref a,.int 0 0]},toks:=tk1}) (I.ok.hd hc) (z0l haI) (z0l hDl) (Nat.ne_of_gt hal) k2 (by rw[kl];exact hz) its.length 0 rfl (z0x _) ⟨_,z1a _ rfl,rfl,rfl⟩ (pl2.isList.push _) (λ j u eu=>?_) ⟨[],dd1,rfl,z04 _⟩ λ h3 tk3 k3' dd3=>?_⟩
 ·obtain⟨t,ku,q',e1,e2,e3,⟨oT,hoT,r'⟩,e5⟩:=k3 j u eu;exact nx44 t ku q' e1 (z0l (z38 e2 hDl)) (z0l e2) e3 ⟨oT,kp _ _ hoT,r'⟩ e5
 ·refine ⟨rfl,nx0 (.ref _) _ ?_ rfl (q _ (I.hok.fresh (z04 _)))⟩;refine I.laid (λ b o e=>k3' b o (z0l (z38 (z09 e) hDl)) (z0l (z09 e)) (kp b o e)) (z04 _) ?_;exact d3m (z0s (b4n ps []) (by simp only [z37,Nat.zero_add];exact z0s (z3z hz) (by decide))) (beq_eq_false_iff_ne.mpr (z1b (z0l I.big))) (d8x k1 .nil) dd3
end My
namespace My
open PySem PyProof.Rows
def kf (p:Keyed):Int:=numOf p.1
abbrev Upk (l:List Keyed):Prop:=l.Pairwise λ x y=>kf x<=kf y
structure LInv (A B out:List Keyed) (ia ib:Nat):Prop where
 ha:ia<=A.length
 hb:ib<=B.length
 perm:out.Perm (A.take ia++B.take ib)
 up:Upk out
 leA:∀ x∈out,∀ y∈A.drop ia,kf x<=kf y
 leB:∀ x∈out,∀ y∈B.drop ib,kf x<=kf y
structure HInv (A B tl:List Keyed) (na nb:Nat):Prop where
 ha:na<=A.length
 hb:nb<=B.length
 perm:tl.Perm (A.drop na++B.drop nb)
 up:Upk tl
 leA:∀ x∈A.take na,∀ y∈tl,kf x<=kf y
 leB:∀ x∈B.take nb,∀ y∈tl,kf x<=kf y
structure Sb (a₀:Array Keyed) (pd:Array (Nat×Nat×Nat)) (lo:Nat) (xs:Array Keyed) (st:SortSt):Prop where
 perm:(arrOf st).Perm a₀
 kind:kindOf st=oneType'
 fail:failedOf st=none
 pend:pendingOf st=pd
 low:∀ k,k < lo->(arrOf st)[k]?=xs[k]?
section
variable {prog:Program} {w:World} {s:Shared} {A:Around} {E:Value->Shared->Prop} {a₀ xs:Array Keyed} {pd:Array (Nat×Nat×Nat)} {lo:Nat} {st:SortSt}
theorem Sb.set (h:Sb a₀ pd lo xs st) (p:ys.Perm (arrOf st)) (l:∀ k,k < lo->ys[k]?=(arrOf st)[k]?):Sb a₀ pd lo xs (setArr st ys):=⟨p.trans h.perm,h.kind,h.fail,h.pend,λ k hk=>(l k hk).trans (h.low k hk)⟩
end
end My
namespace My
open PySem PySem.Spec PyProof.Rows L2
section
variable {X:Cx}
theorem b3j (hu:X.A.units+64 < cLine):OpR X (compareOp .NotEq) (λ x y H Q=>∃ (a b:Addr) (xs:List V),x=.ref a/\y=.ref b/\SqL X.K H a xs/\SqL X.K H b []/\Q (.bl (!xs.isEmpty)) H):=by
 intro pins s σ H x y v u Q I rx ry h;obtain⟨a,b,xs,rfl,rfl,ha,hb,q⟩:=h;cases xs with
 | nil=>exact d7p hu pins s σ H (.ref a) (.ref b) v u Q I rx ry (nx25 _ _ (.lst ha .nil) (.lst hb .nil) rfl rfl q)
 | cons w r =>
  cases rx;cases ry;obtain⟨its,rv,⟨o,n,e,c,d0,dd⟩,_⟩:=I.list ha;obtain⟨jts,rw',⟨o2,n2,e2,c2,d2,dd2⟩,_⟩:=I.list hb;cases rw';have hne:(its.toArray.size != (#[]:Array Value).size)=true:=by
   cases rv;simp
  exact PySem.SeqAt.RcNeAt.lists_lengths (nx26 _ e c n dd) (nx26 _ e2 c2 n2 dd2) hne (z3m (Nat.le_add_right _ _) hu) _ _ _ _ (nx0 (.bl true) H I rfl q)
end
section
variable {M:Model} {A:Around} {E:Value->Shared->Prop} {s:Shared} {B:Heap} {l:List Env} {env:Env} {ea L:Addr} {cls a0:Value}
theorem b4v {α:Type} {what:String} {Q:α->Shared->Prop} (hf:env.frame=some L) (h:Heap.HeldW B l ea cls a0 L s.heap) (hE:E (.ref ea) s):wpAny M A (PySem.passOn what (.ref ea) env) Q E s:=by
 obtain⟨_,_,_,oe,vs,T,oT,ts,he,hcls,hd,h1,hnT,hTe,hT,hdT,h3⟩:=h;unfold PySem.passOn;refine z00 (z1n he hd h1 ?_);rw[z01 (show ¬ ((Value.ref T == Value.none)=true) from by simp)];have step:wpAny M A (setFlight (.ref ea) env.frame>>=λ _=>(throw (.ref ea):Sem α)) Q E s:=by
  rw[hf];unfold setFlight;refine z00 (z00 (z1n he hd h1 ?_));rw[z02 (show (Value.ref T != Value.none)=true from by simp)];refine z2s hT hdT (z35.mp h3).1 ?_;show wpAny M A (throw (.ref ea)) Q E {s with heap:=s.heap.update T (Obj.mapFields (·.setIfInBounds 3 (rawInt L)))};rw[Heap.update_setField_same s.heap T oT ts 3 (rawInt L) hT hdT h3];exact wpAny_throw hE
 first
  | exact z00 (z05 step)
  | exact step
theorem c7o {α:Type} {what:String} {Q:α->Shared->Prop} (hf:env.frame=some L) (h:Heap.FlyingW B l ea cls a0 s.heap)
  (hE:∀ h',Heap.HeldW B l ea cls a0 L h'->s.heap.UpToSlots h'->DK s.heap h'->E (.ref ea) {s with heap:=h'}):wpAny M A (PySem.passOn what (.ref ea) env) Q E s:=by
 obtain⟨hkb,hb,hl,oe,vs,T,oT,ts,he,hcls,hd,h1,hnT,hTe,hT,hdT,h3⟩:=h;have hsz3:3 < ts.size:=(z35.mp h3).1;unfold PySem.passOn;refine z00 (z1n he hd h1 ?_);rw[z01 (show ¬ ((Value.ref T == Value.none)=true) from by simp)];have other:∀ b,b≠T->(s.heap.update T (Obj.mapFields (·.setIfInBounds 3 (rawInt L)))).get? b=s.heap.get? b:=λ b hb=>z56 _ _ (z1b hb)
 have noRecord:∀ b o,s.heap.get? b=some o->(∀ vs,o.data≠.fields vs)->b≠T:=λ b o hb hnf q=>by
  rw[q,hT] at hb;injection hb with hb;subst hb;exact hnf ts hdT
 have step:wpAny M A (setFlight (.ref ea) env.frame>>=λ _=>(throw (.ref ea):Sem α)) Q E s:=by
  rw[hf];unfold setFlight;refine z00 (z00 (z1n he hd h1 ?_));rw[z02 (show (Value.ref T != Value.none)=true from by simp)];refine z2s hT hdT hsz3 (wpAny_throw (hE _ ⟨λ b o hbo=>(other b λ q=>by rw[q,hnT] at hbo;cases hbo).trans (hkb b o hbo),hb,
   hl.of_keeps λ b o hb hnf=>⟨o,(other b (noRecord b o hb hnf)).trans hb,rfl⟩,?_⟩ (λ b o hb hnf=>⟨o.slots,(other b (noRecord b o hb hnf)).trans hb⟩) (DK.upd (b0g _ (by decide)))))
  exact nx13 oe vs T _ _ ((other ea (z1b hTe)).trans he) hcls hd h1 hnT hTe (z2l _ hT (Obj.isFreed_of_fields (z3y hdT _))) ⟨z3y hdT _,by simp[hsz3]⟩
 first
  | exact z00 (z05 step)
  | exact step
theorem d7h {C:Addr} {h h':Heap} {m:Str->Option Value} (x:Heap.HeldW B l ea cls a0 L h) (k:Heap.SameBut C h h') (hn:h.Ns C m) (hC:C ∉ frs l):Heap.HeldW (W.hideAll B [C]) l ea cls a0 L h':=by
 obtain⟨hkb,hb,hl,oe,vs,T,oT,ts,he,hcls,hd,h1,hnT,hTe,hT,hdT,h3⟩:=x;obtain⟨oc,es,nc,hoc,hdc,_⟩:=hn;have nfC:∀ b o (vs:Array Value),h.get? b=some o->o.data=.fields vs->b≠C:=λ b o vs e q z=>by
  rw[z,hoc] at e;cases e;rw[hdc] at q;cases q
 have hid:∀ b o,(W.hideAll B [C]).get? b=some o->B.get? b=some o/\b≠C:=λ b o e=>⟨z4u _ e,λ z=>by
  rw[z,z4v _ (z0g)] at e;cases e⟩
 have nn:∀ b,B.get? b=none->(W.hideAll B [C]).get? b=none:=λ b e=>by
  cases q:(W.hideAll B [C]).get? b with
  | none=>rfl
  | some o=>rw[(hid b o q).1] at e;cases e
 refine ⟨λ b o e=>(k.2 b (hid b o e).2).trans (hkb b o (hid b o e).1),nn _ hb,?_,nx13 oe vs T oT ts ((k.2 _ (nfC _ _ _ he hd)).trans he) hcls hd h1 (nn _ hnT) hTe ((k.2 _ (nfC _ _ _ hT hdT)).trans hT) ⟨hdT,h3⟩⟩;have key:∀ l:List Env,h.FunFrames B l->C ∉ frs l->h'.FunFrames (W.hideAll B [C]) l:=by
  intro l;induction l with
  | nil=>intro _ _;trivial
  | cons env r ih =>
   rintro⟨z,⟨Lf,o,hf,hn,ho,hd⟩,hr⟩ hC;have e:frs (env::r)=Lf::frs r:=by unfold frs;rw[z1i,hf]
   rw[e] at hC;exact⟨z,nx7 Lf o hf (nn _ hn) ((k.2 _ λ q=>hC (q ▸ z0g)).trans ho) hd,ih hr λ q=>hC (z0p _ q)⟩
 exact key l hl hC
end
def b8q (X:Cx) (fp:List Addr) (H:Hp) (s:Shared) (C:Option Addr) (E1:XK):Value->Shared->Prop:=λ e s'=>∃ (ea:Addr) (cls a0:Value) (B:Heap) (H':Hp) (d:Option Addr),e=.ref ea/\s'.os=s.os/\AllBare s'.gens/\Un (frs X.stack) fp H H' s.heap s'.heap/\HOk X.prog X.w H' s'.heap/\Heap.HeldW B X.stack ea cls a0 X.env.locals s'.heap /\
 (∀ b o,s'.heap.get? b=some o->((s.heap.get? b≠none/\b ∉ fp)\/H' b≠none)->b ∉ frs X.stack->B.get? b=some o)/\H' ea=none/\(s.heap.get? ea=none\/ea∈fp)/\(∃ o,s'.heap.get? ea=some o/\o.dict=d/\(d8n o=some .none\/∀ d',E1 cls d' H'))/\(∀ c,C=some c->H' c=none/\∃ m,s'.heap.Ns c m)/\E1 cls d H'
section
variable {X:Cx} {pins:List (Addr×Obj)} {σ:L2.St} {H:Hp} {s:Shared} {scope:Scope} {N:List Str} {target iter elt:Expr} {pos:Pos} {g:TG} {te:TE} {E1:XK} {C:Addr} {ex:List Addr}
theorem b8q.gone {e:Value} {s':Shared} {h':Heap} (I:Inv X pins σ H s) (x:b8q X ex H s (some C) E1 e s') (hC:s.heap.objs.size<=C) (k:Heap.SameBut C s'.heap h'):b8q X ex H s none E1 e {s' with heap:=h'}:=by
 obtain⟨ea,cls,a0,B,H',d,rfl,os,bare,un,hok,held,bk,n1,new,⟨o0,ho0,hd0⟩,hc,hE⟩:=x;obtain⟨nC,m,hn⟩:=hc C rfl;have neS:∀ b o,s.heap.get? b=some o->b≠C:=λ b o e=>z0l (z0w (z09 e) hC)
 have hCf:C ∉ frs X.stack:=λ z=>by obtain⟨o,e⟩:=c3g I C z;exact neS C o e rfl
 have neH:∀ b,H' b≠none->b≠C:=λ b e z=>e (z ▸ nC)
 have ned:∀ b o (vs:Array Value),s'.heap.get? b=some o->o.data=.fields vs->b≠C:=λ b o vs e q z=>by
  obtain⟨oc,es,nc,hoc,hdc,_⟩:=hn;rw[z,hoc] at e;cases e;rw[hdc] at q;cases q
 have nea:ea≠C:=by
  obtain⟨_,_,_,oe,vs,T,oT,ts,he,hcls,hd,_⟩:=held;exact ned ea oe vs he hd
 refine nx3 ea cls (nx33 a0 _ H' d rfl os bare ⟨λ b o e n hb hx=>(k.2 b (neS b o e)).trans (un.keep b o e n hb hx),λ b o e n hb hx=>?_,un.free,λ b o e hx=>?_,un.tups,un.frzs,un.tbls⟩ (λ b o e=>?_) (d7h held k hn hCf) (λ b o e q nb=>?_) n1 ⟨new,⟨o0,(k.2 ea nea).trans ho0,hd0⟩,λ c z=>(by cases z),hE⟩)
 ·obtain⟨sl,e1⟩:=un.slot b o e n hb hx;exact⟨sl,(k.2 b (neS b o e)).trans e1⟩
 ·obtain⟨o',e1⟩:=un.there b o e hx;exact⟨o',(k.2 b (neS b o e)).trans e1⟩
 ·refine(hok b o e).stay (λ c u hc q=>(k.2 c ?_).trans q) (λ _ q=>q) λ _ _ q=>q
  rcases hc with z | z
  ·exact neH c (by rw[z,e];simp)
  ·exact neH c (by rw[z];simp)
 ·have nb2:b≠C:=by
   rcases q with ⟨q,_⟩ | q
   ·cases z:s.heap.get? b with
    | none=>exact(q z).elim
    | some u=>exact neS b u z
   ·exact neH b q
  exact z4q _ (bk b o ((k.2 b nb2).symm.trans e) q nb) (by simpa using nb2)
end
theorem b9i:entryFor table "proto.unchain"=some Builtin.«proto.unchain»:=entryFor_of_fast (by kernel_rfl)
section
variable {prog:Program} {w:World} {A:Around} {E:Value->Shared->Prop} {s:Shared} {env:Env} {K:W.Frag} {C ea:Addr} {o:Obj}
theorem c8h {e:Value} {vs:Array Value} {Q:Value->Shared->Prop} (ho:s.heap.get? ea=some o) (hd:o.data=.fields vs) (h2:vs[2]?=some .none) (h:Q .none s) :
  wpAny (model prog w) A (runValue (.builtin "proto.unchain" ⟨[e,.ref ea,.ref ea,.bool false],[]⟩)) Q E s:=by
 refine wpAny_runValue (z2f b9i ?_);show wpAny _ _ (field (.ref ea) 2>>=_) _ _ s;refine z00 (z1n ho hd h2 ?_);rw[z02 (show ((Value.none == Value.none)=true) from rfl)];first | exact z05 h | exact z00 (z05 (z05 h)) | (wp_walk;exact h)
theorem b7s {msg:String} {vs:Array Value} {Q:Value->Shared->Prop} (X:K.In s.heap) (hc:c0x K C) (ho:s.heap.get? ea=some o) (hcl:o.cls=.ref C) (hd:o.data=.fields vs) (h:Q (.ref ea) s) :
  wpAny (model prog w) A (excFromValue (.ref ea) msg) Q E s:=by
 obtain⟨bm,Nn,nm,qn,bs,hdc,sn,sub,ab,col,dd,k0,k1,k2,k3,k5,hC,TL⟩:=b7n X hc;have hcB:(Value.ref C::bm).contains (.type "BaseException")=true:=by rw[List.contains_cons,TL.hasType z4y.hasBase,Bool.or_true]
 obtain⟨hp,g,dr,t,os⟩:=s;obtain⟨oc,od,oda,osl⟩:=o;dsimp only at hcl hd ho hC;subst hcl hd;unfold excFromValue;repeat (first | with_reducible refine z2t ho ?_ | with_reducible refine z2t hC ?_ | (with_reducible refine wpAny_isSubtype_exc hC ?_;rw[hcB]) | wp_step)
 exact h
abbrev e3m (C t ea:Addr):Obj:={cls:=.ref C,data:=.fields #[.ref t,.none,.ref ea,.ref ea,.bool true,.none]}
theorem c8u {C2:Addr} {x c:Sem Value} {Q:Flow->Shared->Prop} (hh:A.handled=some (.ref ea)) (hc:c0x K C) (hc2:c0x K C2)
  (h:wpAny (model prog w) A x (λ v s1=>∃ e2,v=.ref e2/\wpAny (model prog w) A c (λ u s2=>∃ t o2 vs,u=.ref ea/\K.In s2.heap/\K.lookup e2=none/\s2.heap.get? e2=some {cls:=.ref C,data:=.fields #[.ref t,.none,.none,.none,.bool false,.none]} /\
   s2.heap.get? ea=some o2/\o2.cls=.ref C2/\o2.data=.fields vs/\vs[2]?=some .none/\e2≠ea/\∀ h',Heap.SameBut e2 s2.heap h'->h'.get? e2=some (e3m C t ea)->E (.ref e2) {s2 with heap:=h'}) E s1) E s) :
  wpAny (model prog w) A (raiseStmt env (some x) (some c)) Q E s:=by
 unfold raiseStmt;refine z00 (z0j h (λ v s1 ⟨e2,e1,h1⟩=>?_) λ _ _ z=>z);subst e1;refine z00 (z18 (z0j h1 (λ u s2 ⟨t,o2,vs,e1,X,nK,he2,hea,hcl2,hd2,hv2,ne,hE⟩=>?_) λ _ _ z=>z));subst e1;refine z00 (z05 ?_);refine z00 (z18 (b7s X hc he2 rfl rfl ?_));dsimp only;rw[z01 (show ¬ ((Value.ref ea == Value.none)=true) from by simp)];refine z00 (z18 (b7s X hc2 hea hcl2 hd2 ?_));refine z00 (z2s he2 rfl (show 3 < 6 by decide) ?_);have u1:=z2l (Obj.mapFields (·.setIfInBounds 3 (.ref ea))) he2 rfl;refine z00 (z2s u1 rfl (show 4 < 6 by decide) ?_);have u2:=z2l (Obj.mapFields (·.setIfInBounds 4 (.bool true))) u1 rfl;have k2:Heap.SameBut e2 s2.heap ((s2.heap.update e2 (Obj.mapFields (·.setIfInBounds 3 (.ref ea)))).update e2 (Obj.mapFields (·.setIfInBounds 4 (.bool true)))):=(z3k ..).trans (z3k ..);dsimp only;generalize (s2.heap.update e2 (Obj.mapFields (·.setIfInBounds 3 (.ref ea)))).update e2 (Obj.mapFields (·.setIfInBounds 4 (.bool true)))=hb at u2 k2;replace u2:hb.get? e2=some {cls:=.ref C,data:=.fields #[.ref t,.none,.none,.ref ea,.bool true,.none]}:=u2;have Xb:K.In hb:=λ b o e=>by
  have n:b≠e2:=λ z=>by rw[z,nK] at e;cases e
  exact(k2.2 b n).trans (X b o e)
 have heb:=(k2.2 ea (z1b ne)).trans hea;obtain⟨bm,Nn,nm,qn,bs,hdc,sn,sub,ab,col,dd,k0,k1,kk2,k3,k5,hC,TL⟩:=b7n Xb hc;obtain⟨hp,g,dr,tk,os⟩:=s2;dsimp only;unfold raisedInstance setFlight;repeat (first | with_reducible refine z2t u2 ?_ | with_reducible refine z2t hC ?_ | with_reducible refine z1n u2 rfl rfl ?_ | wp_step)
 unfold raiseNew;refine z00 (wpAny_handled ?_);rw[hh];dsimp only;rw[z02 (show (Value.ref ea != Value.ref e2)=true from by simpa using z1b ne)];refine z00 (z18 (c8h heb hd2 hv2 ?_));refine z00 ?_;show wpAny _ _ (setField (.ref e2) 2 (.ref ea)) _ _ _;refine z2s u2 rfl (show 2 < 6 by decide) ?_;exact wpAny_throw (hE _ (k2.trans (z3k ..)) (z2l (Obj.mapFields (·.setIfInBounds 2 (.ref ea))) u2 rfl))
end
section
variable {X:Cx} {pins:List (Addr×Obj)} {σ:L2.St} {H H':Hp} {s:Shared} {fp:List Addr} {B h1 h2:Heap} {ea:Addr}
theorem d6w (I:Inv X pins σ H s) (hf:∀ b∈fp,b6k X pins H b):∀ b∈frs X.stack,b ∉ fp:=λ b hm hb=>by
 obtain⟨_,q1,q2,_⟩:=hf b hb;rcases z06.mp (I.stkSub b hm) with z | z
 ·exact q1 z
 ·exact q2 z
theorem c5p (I:Inv X pins σ H s) (hf:∀ b∈fp,b6k X pins H b) (un:Un (frs X.stack) fp H H' s.heap h1) (hok:HOk X.prog X.w H' h1) (bk:∀ b o,h1.get? b=some o->((s.heap.get? b≠none/\b ∉ fp)\/H' b≠none)->b ∉ frs X.stack->B.get? b=some o)
  (hst:∀ b o,B.get? b=some o->h2.get? b=some o) (hsm:h1.UpToSlots h2) (hfn:∀ b∈frs X.stack,∃ o,h1.get? b=some o/\∀ vs,o.data≠.fields vs) :
  Un (frs X.stack) fp H H' s.heap h2/\HOk X.prog X.w H' h2/\(∀ b o,h2.get? b=some o->((s.heap.get? b≠none/\b ∉ fp)\/H' b≠none)->b ∉ frs X.stack->B.get? b=some o)/\∀ b∈frs X.stack,H' b=none:=by
 have nfp:=d6w I hf;have nf:∀ b∈frs X.stack,H' b=none:=λ b hb=>by
  obtain⟨o,e⟩:=c3g I b hb;exact un.free b o e (I.stkFree b hb) (nfp b hb)
 have keep:∀ b o,h1.get? b=some o->((s.heap.get? b≠none/\b ∉ fp)\/H' b≠none)->b ∉ frs X.stack->h2.get? b=some o:=λ b o e k n=>hst b o (bk b o e k n)
 refine⟨⟨λ b o e n hb hx=>?_,λ b o e n hb hx=>?_,un.free,λ b o e hx=>?_,un.tups,un.frzs,un.tbls⟩,λ a o e=>?_,λ b o e k n=>?_,nf⟩
 ·exact keep b o (un.keep b o e n hb hx) (.inl ⟨by rw[e];simp,hx⟩) hb
 ·obtain⟨sl,e1⟩:=un.slot b o e n hb hx;obtain⟨o',e2,hd⟩:=hfn b hb;rw[e1] at e2;cases e2;obtain⟨sl',e3⟩:=hsm b _ e1 hd;exact⟨sl',e3⟩
 ·obtain⟨o',e1⟩:=un.there b o e hx;by_cases hb:b∈frs X.stack
  ·obtain⟨o2,e2,hd⟩:=hfn b hb;obtain⟨sl',e3⟩:=hsm b _ e2 hd;exact⟨_,e3⟩
  ·exact⟨o',keep b o' e1 (.inl ⟨by rw[e];simp,hx⟩) hb⟩
 ·refine(hok a o e).stay (λ b u hb q=>keep b u q (.inr ?_) (λ z=>?_)) (λ _ q=>q) λ _ _ q=>q
  ·rcases hb with z | z
   ·rw[z,e];simp
   ·rw[z];simp
  ·have q':=nf b z;rcases hb with z | z
   ·rw[z,e] at q';cases q'
   ·rw[z] at q';cases q'
 ·have there1:∃ o',h1.get? b=some o':=by
   rcases k with ⟨k,hx⟩ | k
   ·cases q:s.heap.get? b with
    | none=>exact(k q).elim
    | some o0=>exact un.there b o0 q hx
   ·cases q:H' b with
    | none=>exact(k q).elim
    | some u=>exact b1g (hok b u q)
  obtain⟨o',e1⟩:=there1;have e2:=bk b o' e1 k n;have e3:=hst b o' e2;rw[e] at e3;cases e3;exact e2
structure e6i (X:Cx) (pins:List (Addr×Obj)) (ea:Addr):Prop where
 old:X.s₀.heap.get? ea=none
 loc:ea≠X.env.locals
 cell:∀ x c,X.env.cells.lookup x=some c->c≠ea
 pin:∀ p∈X.pn++pins,p.1≠ea
theorem c9x (I:Inv X pins σ H s) (hex:X.ex=[]) (hf:∀ b∈fp,b6k X pins H b) (new:s.heap.get? ea=none\/ea∈fp):e6i X pins ea:=by
 have key:∀ o,s.heap.get? ea=some o->b6k X pins H ea:=λ o e=>by
  rcases new with z | z
  ·rw[z] at e;cases e
  ·exact hf ea z
 refine⟨?_,λ z=>?_,λ x c e z=>?_,λ p hp z=>?_⟩
 ·cases q:X.s₀.heap.get? ea with
  | none=>rfl
  | some o =>
   obtain⟨o',e⟩:=I.base.there ea o q (by rw[hex];simp);obtain⟨_,_,_,f3,_⟩:=key o' e;rcases f3 with f3 | f3
   ·rw[hex] at f3;cases f3
   ·exact absurd (z0w (z09 q) f3) (z1q _)
 ·obtain⟨m,⟨o,_,_,ho,_⟩,_⟩:=I.loc;obtain⟨_,f1,_⟩:=key o (z ▸ ho);exact f1 z
 ·obtain⟨v,o,ho,_⟩:=I.cell x c e;obtain⟨_,_,_,_,f4,_⟩:=key o (z ▸ ho);exact f4 x c e z
 ·obtain⟨e,_⟩:=I.pin p hp;obtain⟨_,_,_,_,_,f5⟩:=key p.2 (z ▸ e);exact f5 p hp z
theorem c8q {o:HO} (I:Inv X pins σ H s) (x:e6i X pins ea) (ha:H ea=none) (ok:a3m X.prog X.w (upd H ea o) s.heap ea o):Inv X pins σ (upd H ea o) s:=by
 have ne0:∀ b u,X.s₀.heap.get? b=some u->b≠ea:=λ b u e z=>by rw[z,x.old] at e;cases e
 refine⟨I.ok,I.os,I.bare,⟨I.base.keep,I.base.slot,λ b u e n hx=>?_,I.base.there,λ b xs e=>?_,λ b u v e=>?_,λ b ps e=>?_⟩,I.loc,I.cell,?_,λ y c e=>?_,λ p hp=>?_,λ b u e=>?_,I.len⟩
 ·rw[a0m (ne0 b u e)];exact I.base.free b u e n hx
 ·have q:=I.base.tups b xs e;rw[a0m (a0u q ha)];exact q
 ·have q:=I.base.frzs b u v e;rw[a0m (a0u q ha)];exact q
 ·obtain⟨more,q⟩:=I.base.tbls b ps e;exact⟨more,by rw[a0m (a0u q ha)];exact q⟩
 ·rw[a0m (z1b x.loc)];exact I.free
 ·rw[a0m (x.cell y c e)];exact I.freeC y c e
 ·obtain⟨e,n,n2,nf,d⟩:=I.pin p hp;exact⟨e,by rw[a0m (x.pin p hp)];exact n,n2,nf,d⟩
 ·by_cases hb:b=ea
  ·subst hb;rw[a0c] at e;cases e;exact ok
  ·rw[a0m hb] at e;refine(I.hok b u e).stay (λ c v hc q=>q) (λ c q=>?_) λ c xs q=>?_
   ·rw[a0m (a0u q ha)];exact q
   ·rw[a0m (a0u q ha)];exact q
theorem d1s {cls a0:Value} {d:Option Addr} {E:XK} {s2:Shared} (I2:Inv X pins σ H' s2) (hst:X.stack=X.env::X.outer) (hex:X.ex=[]) (bk:∀ b o,s2.heap.get? b=some o->(X.s₀.heap.get? b≠none\/H' b≠none)->b ∉ frs X.stack->B.get? b=some o)
  (fl:Heap.FlyingW B X.outer ea cls a0 s2.heap) (n1:H' ea=none) (n2:X.s₀.heap.get? ea=none) (dd:∃ o,s2.heap.get? ea=some o/\o.dict=d/\(d8n o=some .none\/∀ d',E cls d' H')) (hE:E cls d H'):CXW X.prog X.w X.outer X.H₀ X.s₀ E (.ref ea) s2:=by
 have sub:∀ b∈frs X.outer,b∈frs X.stack:=λ b hb=>by
  obtain⟨env,he,hf⟩:=z27.mp hb;rw[hst];exact z27.mpr ⟨env,z0p _ he,hf⟩
 have notin:∀ b o,X.s₀.heap.get? b=some o->b ∉ frs X.outer->b ∉ frs X.stack:=λ b o e hb hm=>by
  rcases z06.mp (I2.stkSub b hm) with z | z
  ·exact absurd (z0w (z09 e) (z ▸ I2.ok.above)) (z1q _)
  ·exact hb z
 have nx:∀ b,b ∉ X.ex:=λ b=>by rw[hex];simp
 refine nx3 ea cls (nx33 a0 B H' d rfl I2.os I2.bare ⟨λ b o e n hb _=>I2.base.keep b o e n hb (nx b),λ b o e n hb _=>I2.base.slot b o e n hb (nx b),λ b o e n _=>I2.base.free b o e n (nx b),λ b o e _=>I2.base.there b o e (nx b),I2.base.tups,I2.base.frzs,I2.base.tbls⟩ I2.hok fl (λ b o e k hb=>?_) n1 ⟨n2,dd,hE⟩);rcases k with k | k
 ·cases q:X.s₀.heap.get? b with
  | none=>exact(k q).elim
  | some o0=>exact bk b o e (.inl k) (notin b o0 q hb)
 ·exact bk b o e (.inr k) λ z=>k (I2.stkFree b z)
end
section
variable {X:Cx} {pins:List (Addr×Obj)} {σ:L2.St} {H:Hp} {s:Shared} {T:Addr} {h':Heap}
theorem d4r (I:Inv X pins σ H s) (x:e6i X pins T) (ha:H T=none) (k:Heap.SameBut T s.heap h'):Inv X pins σ H {s with heap:=h'}:=by
 have ne0:∀ b u,X.s₀.heap.get? b=some u->b≠T:=λ b u e z=>by rw[z,x.old] at e;cases e
 obtain⟨m,hn,hl⟩:=id I.loc;refine⟨I.ok,I.os,I.bare,⟨λ b o e n hb hx=>(k.2 b (ne0 b o e)).trans (I.base.keep b o e n hb hx),λ b o e n hb hx=>?_,I.base.free,λ b o e hx=>?_,I.base.tups,I.base.frzs,I.base.tbls⟩,⟨m,hn.sameBut k (z1b x.loc),λ i y v e1 e2 e3=>?_⟩,λ y c e=>?_,I.free,I.freeC,λ p hp=>?_,λ b u e=>?_,I.len⟩
 ·obtain⟨sl,e1⟩:=I.base.slot b o e n hb hx;exact⟨sl,(k.2 b (ne0 b o e)).trans e1⟩
 ·obtain⟨o',e1⟩:=I.base.there b o e hx;exact⟨o',(k.2 b (ne0 b o e)).trans e1⟩
 ·obtain⟨u',r',q⟩:=hl i y v e1 e2 e3;refine⟨u',r',?_⟩;rcases q with q | ⟨kk,c,e,z⟩
  ·exact .inl q
  ·exact .inr ⟨kk,c,e,z.sameBut k (x.cell y c e)⟩
 ·obtain⟨w',z⟩:=I.cell y c e;exact⟨w',z.sameBut k (x.cell y c e)⟩
 ·obtain⟨e,n,n2,nf,d⟩:=I.pin p hp;exact⟨(k.2 p.1 (x.pin p hp)).trans e,n,n2,nf,d⟩
 ·refine(I.hok b u e).stay (λ c v hc q=>(k.2 c ?_).trans q) (λ _ q=>q) λ _ _ q=>q
  rintro rfl;rcases hc with rfl | hc
  ·rw[ha] at e;cases e
  ·rw[ha] at hc;cases hc
end
section
variable {M:Model} {A:Around} {E:Value->Shared->Prop} {s:Shared} {B:Heap} {l:List Env} {env:Env} {ea L:Addr} {cls a0:Value}
theorem d7i {Lf:Addr} {h h':Heap} {m:Str->Option Value} (x:Heap.HeldW B l ea cls a0 L h) (k:Heap.SameBut Lf h h') (hB:B.get? Lf=none) (hn:h.Ns Lf m) (hn':∃ m',h'.Ns Lf m'):Heap.HeldW B l ea cls a0 L h':=by
 obtain⟨hkb,hb,hl,oe,vs,T,oT,ts,he,hcls,hd,h1,hnT,hTe,hT,hdT,h3⟩:=x;obtain⟨oc,es,nc,hoc,hdc,_⟩:=hn;obtain⟨m',oc',es',nc',hoc',hdc',_⟩:=hn';have nfC:∀ b o (vs:Array Value),h.get? b=some o->o.data=.fields vs->b≠Lf:=λ b o vs e q z=>by
  rw[z,hoc] at e;cases e;rw[hdc] at q;cases q
 refine ⟨λ b o e=>(k.2 b λ z=>by rw[z,hB] at e;cases e).trans (hkb b o e),hb,?_,nx13 oe vs T oT ts ((k.2 _ (nfC _ _ _ he hd)).trans he) hcls hd h1 hnT hTe ((k.2 _ (nfC _ _ _ hT hdT)).trans hT) ⟨hdT,h3⟩⟩;have key:∀ l:List Env,h.FunFrames B l->h'.FunFrames B l:=by
  intro l;induction l with
  | nil=>intro _;trivial
  | cons env r ih =>
   rintro⟨z,⟨Lg,o,hf,hn,ho,hd⟩,hr⟩;refine⟨z,?_,ih hr⟩;by_cases q:Lg=Lf
   ·subst q;exact nx7 Lg oc' hf hn hoc' λ vs y=>by rw[hdc'] at y;cases y
   ·exact nx7 Lg o hf hn ((k.2 _ q).trans ho) hd
 exact key l hl
theorem d0i (hf:env.frame=some L) (h:Heap.HeldW B l ea cls a0 L s.heap) (hE:E (.ref ea) s):cameBackBy M A env E (.ref ea) s:=by
 obtain⟨_,_,_,oe,vs,T,oT,ts,he,hcls,hd,h1,hnT,hTe,hT,hdT,h3⟩:=h;unfold cameBackBy;refine z00 (z1n he hd h1 ?_);rw[z01 (show ¬ ((Value.ref T == Value.none)=true) from by simp)];have step:wpAny M A (setFlight (.ref ea) env.frame) (λ _ s''=>E (.ref ea) s'') E s:=by
  rw[hf];unfold setFlight;refine z00 (z1n he hd h1 ?_);rw[z02 (show (Value.ref T != Value.none)=true from by simp)];refine z2s hT hdT (z35.mp h3).1 ?_;show E (.ref ea) {s with heap:=s.heap.update T (Obj.mapFields (·.setIfInBounds 3 (rawInt L)))};rw[Heap.update_setField_same s.heap T oT ts 3 (rawInt L) hT hdT h3];exact hE
 first
  | exact z00 (z05 step)
  | exact step
theorem b9z {outer:List Env} {Q:Unit->Shared->Prop} (hf:env.frame=some L) (h:Heap.HeldW B (env::outer) ea cls a0 L s.heap)
  (hQ:∀ T h',B.get? T=none->(∃ o ts,s.heap.get? T=some o/\o.data=.fields ts)->T≠ea->Heap.SameBut T s.heap h'->Heap.FlyingW B outer ea cls a0 h'->Q () {s with heap:=h'}):wpAny M A (leaving env (.ref ea)) Q E s:=by
 have hh:=h;obtain⟨hkb,hb,hl,oe,vs,T,oT,ts,he,hcls,hd,h1,hnT,hTe,hT,hdT,h3⟩:=h;have hsz3:3 < ts.size:=(z35.mp h3).1;have other:∀ b,b≠T->(s.heap.update T (Obj.mapFields (·.setIfInBounds 3 ((none:Option Addr).elim Value.none λ f=>rawInt f)))).get? b=s.heap.get? b:=λ b hb=>z56 _ _ (z1b hb)
 have noRecord:∀ b o,s.heap.get? b=some o->(∀ vs,o.data≠.fields vs)->b≠T:=λ b o hb hnf q=>by
  rw[q,hT] at hb;injection hb with hb;subst hb;exact hnf ts hdT
 unfold leaving;refine z00 (wpAny_noteFrame_againW hf hh.2.2.2 ?_);unfold setFlight;refine z00 (z1n he hd h1 ?_);rw[z02 (show (Value.ref T != Value.none)=true from by simp)];refine z2s hT hdT hsz3 (hQ T _ hnT (nx12 oT ts hT hdT) hTe (z3k ..) ⟨λ b o hbo=>(other b λ q=>by rw[q,hnT] at hbo;cases hbo).trans (hkb b o hbo),hb,?_,?_⟩)
 ·exact(hl.of_keeps λ b o hb hnf=>⟨o,(other b (noRecord b o hb hnf)).trans hb,rfl⟩).2.2
 ·exact nx13 oe vs T _ _ ((other ea (z1b hTe)).trans he) hcls hd h1 hnT hTe (z2l _ hT (Obj.isFreed_of_fields (z3y hdT _))) ⟨z3y hdT _,by simp[hsz3]⟩
end
section
variable {X:Cx} {pins:List (Addr×Obj)} {σ:L2.St} {H:Hp} {s:Shared}
theorem c8o {M:Model} {A:Around} {E:Value->Shared->Prop} {j:Nat} {n:Str} {pos:Pos} {Q:Unit->Shared->Prop} (I:Inv X pins σ H s) (hN:X.N.Nodup) (hj:X.N[j]?=some n) (hk:X.env.scope.names.lookup n=some .local)
  (h:∀ s',Inv X pins (σ.set j none) H s'->Heap.SameBut X.env.locals s.heap s'.heap->(∃ m,s'.heap.Ns X.env.locals m)->Q () s'):wpAny M A (do bindName X.env n .none;unbindBehindTheSuite X.env n pos) Q E s:=by
 obtain⟨m,hn,hl⟩:=id I.loc;have hcls:(X.env.scope.kind == .class || (X.env.scope.kind == .module && X.env.locals != X.env.globals))=false:=by rw[I.ok.kind];rfl
 have hjσ:j < σ.length:=by rw[I.len];exact(z0i.mp hj).1
 have cne:=I.cne;refine wpAny_nameGoes_keeps hk hn hcls λ h' v hn' hs=>?_
 obtain⟨oL,_,_,hoL,_⟩:=id hn;refine h _ (⟨I.ok,I.os,I.bare,⟨λ b o e n hb hx=>?_,λ b o e n hb hx=>?_,I.base.free,λ b o e hx=>?_,I.base.tups,I.base.frzs,I.base.tbls⟩,⟨_,hn',λ i y v' e1 e2 e3=>?_⟩,λ y c e=>?_,I.free,I.freeC,λ p hp=>?_,λ b ob e=>?_,by simpa using I.len⟩) hs ⟨_,hn'⟩
 ·exact(hs.2 b (z0l (z0w (z09 e) I.ok.above))).trans (I.base.keep b o e n hb hx)
 ·obtain⟨sl,e1⟩:=I.base.slot b o e n hb hx;exact⟨sl,(hs.2 b (z0l (z0w (z09 e) I.ok.above))).trans e1⟩
 ·obtain⟨o',e1⟩:=I.base.there b o e hx;exact⟨o',(hs.2 b (z0l (z0w (z09 e) I.ok.above))).trans e1⟩
 ·by_cases hi:i=j
  ·subst hi;rw[z34 hjσ] at e2;cases e2
  ·rw[z2q (z1b hi)] at e2;obtain⟨u',r',q⟩:=hl i y v' e1 e2 e3;refine⟨u',r',?_⟩;rcases q with ⟨k,e⟩ | ⟨k,c,e,z⟩
   ·refine .inl ⟨k,?_⟩;have:y≠n:=λ e=>hi (b3r hN e1 (e ▸ hj))
    simp[this,e]
   ·exact .inr ⟨k,c,e,z.sameBut hs (cne y c e)⟩
 ·obtain⟨w',z⟩:=I.cell y c e;exact⟨w',z.sameBut hs (cne y c e)⟩
 ·obtain⟨e,n,ne,nf,d⟩:=I.pin p hp;exact⟨(hs.2 p.1 ne).trans e,n,ne,nf,d⟩
 ·refine(I.hok b ob e).stay (λ c w' hc q=>(hs.2 c ?_).trans q) (λ _ q=>q) λ _ _ q=>q
  rintro rfl;rcases hc with rfl | hc
  ·rw[I.free] at e;cases e
  ·rw[I.free] at hc;cases hc
theorem c4i {E:XK} {n:Str} {hpos:Pos} {j:Nat} {e2 t ea Dc:Addr} {s9 s10:Shared} (I9:Inv X pins σ H s9) (hst:X.stack=X.env::X.outer) (hfr:X.env.frame=some X.env.locals) (hex:X.ex=[])
  (hxe:∀ e s',wpAny (model X.prog X.w) X.A (leaving X.env e) (λ _ s''=>CXW X.prog X.w X.outer X.H₀ X.s₀ E e s'') (λ e' s''=>CXW X.prog X.w X.outer X.H₀ X.s₀ E e' s'') s'->X.xe e s')
  (hN:X.N.Nodup) (hj:X.N[j]?=some n) (hxn:X.env.scope.names.lookup n=some .local) (new:s9.heap.get? e2=none) (k:∀ b o,s9.heap.get? b=some o->s10.heap.get? b=some o) (os:s10.os=s9.os) (bare:AllBare s10.gens)
  (he2:s10.heap.get? e2=some (e3m Dc t ea)) (hE:∀ d',E (.ref Dc) d' H) :
  AsSuiteRaised (model X.prog X.w) (X.A.mark (some (.ref ea))) X.env n hpos (notedBy (model X.prog X.w) (X.A.mark (some (.ref ea))) X.env (cameBackBy (model X.prog X.w) X.A X.env X.xe)) (.ref e2) s10:=by
 have I10:Inv X pins σ H s10:=I9.call' (ch:=[]) os (Un.kept k) (I9.hok.kept k) bare (λ b z=>absurd z (by simp));have hin:∀ env∈X.stack,∀ b,env.frame=some b->b∈e2::frs X.stack:=λ env he b hb=>z0p _ (z27.mpr ⟨env,he,hb⟩)
 have hl:=W.funFrames_hide I10.stack hin;have hen:(W.hideAll s10.heap (e2::frs X.stack)).get? e2=none:=z4v _ (z0g);have hLm:X.env.locals∈frs X.stack:=z27.mpr ⟨X.env,by rw[hst];exact z0g,hfr⟩;have hBL:(W.hideAll s10.heap (e2::frs X.stack)).get? X.env.locals=none:=z4v _ (z0p _ hLm);have hfn:∀ b∈frs X.stack,∃ o,s10.heap.get? b=some o/\∀ vs,o.data≠.fields vs:=λ b hb=>let ⟨_,o,e,hd⟩:=I10.stack.mem hb;⟨o,e,hd⟩
 generalize hB:W.hideAll s10.heap (e2::frs X.stack)=B at hl hen hBL;rw[hst] at hl;have bk:∀ b o,s10.heap.get? b=some o->(s9.heap.get? b≠none\/H b≠none)->b ∉ frs X.stack->B.get? b=some o:=λ b o e q nb=>by
  rw[<-hB];refine z4q _ e λ z=>?_
  rcases z06.mp z with z | z
  ·rcases q with q | q
   ·rw[z] at q;exact q new
   ·rw[z] at q;exact q (a3e I9 new)
  ·exact nb z
 have hkb:∀ b o,B.get? b=some o->s10.heap.get? b=some o:=λ b o q=>by rw[<-hB] at q;exact z4u _ q
 refine c3o (a0:=.ref t) (by show X.A.frames=_;rw[I9.ok.frames,hst]) hl hfr he2 hkb hen rfl rfl rfl λ h4 held sm=>?_
 obtain⟨un4,hok4,bk4,_⟩:=c7x I9 (Un.kept k) (I9.hok.kept k) bk held.1 sm hfn;have I11:Inv X pins σ H {s10 with heap:=h4}:=I9.call' (s':={s10 with heap:=h4}) os un4 hok4 bare (λ b z=>absurd z (by simp));refine c8o I11 hN hj hxn λ s12 I12 hs5 hn5=>?_
 obtain⟨m,hn,_⟩:=I11.loc;have held5:=d7i held hs5 hBL hn hn5;refine b4v hfr held5 (wpAny_noteFrame_againW hfr held5.2.2.2 (d0i hfr held5 (hxe _ _ ?_)));refine b9z hfr held5 λ T h7 hBT hTo hTe sb fl7=>?_
 obtain⟨oT,ts,hT,hdT⟩:=hTo;have nT:s9.heap.get? T=none:=by
  cases q:s9.heap.get? T with
  | none=>rfl
  | some o' =>
   exfalso;by_cases hm:T∈frs X.stack
   ·rw[hst] at hm;obtain⟨_,o,e,hd⟩:=held5.2.2.1.mem hm;rw[hT] at e;cases e;exact hd _ hdT
   ·rw[bk T o' (k T o' q) (.inl (by rw[q];simp)) hm] at hBT;cases hBT
 have I13:Inv X pins (σ.set j none) H {s12 with heap:=h7}:=d4r I12 (c9x I9 hex (fp:=[]) (λ b z=>absurd z (by simp)) (.inl nT)) (a3e I9 nT) sb;obtain⟨ob,hob,_⟩:=fl7.there;refine d1s (d:=ob.dict) I13 hst hex (λ b o e q nb=>?_) fl7 (a3e I9 new) (c9x I9 hex (fp:=[]) (λ b z=>absurd z (by simp)) (.inl new)).old ⟨ob,hob,rfl,.inr hE⟩ (hE _);have q9:s9.heap.get? b≠none\/H b≠none:=q.imp (λ q=>by
  cases z:X.s₀.heap.get? b with
  | none=>exact(q z).elim
  | some o0 =>
   obtain⟨o',e'⟩:=I9.base.there b o0 z (by rw[hex];simp);rw[e'];simp) id
 have nbT:b≠T:=λ z=>by
  rcases q9 with q | q
  ·exact q (z ▸ nT)
  ·exact q (z ▸ a3e I9 nT)
 have nbL:b≠X.env.locals:=λ z=>nb (z ▸ hLm)
 exact bk4 b o ((hs5.2 b nbL).symm.trans ((sb.2 b nbT).symm.trans e)) q9 nb
end
def d0g (a C:Addr) (h:Heap):Prop:=∃ o vs,h.get? a=some o/\o.cls=.ref C/\o.data=.fields vs/\vs[2]?=some .none
abbrev e2q (a C:Addr):HO:=.ext (d0g a C)
theorem d9k {P:Program} {w:World} {H:Hp} {h:Heap} {a C:Addr} (e:d0g a C h):a3m P w H h a (e2q a C):=⟨e,let ⟨o,_,q,_⟩:=e;⟨o,q⟩,λ _ _ ⟨o,vs,q,r⟩ k=> nx12 o vs (k o q) r⟩
def e3w (K:W.Frag) (S Dc:Addr) (j:Nat) (te0:TE) (E:XK) (σ:L2.St):XK:=λ cls d H2=>d=none/\∃ C,cls=.ref C/\((W.subIn K (.ref C) (.ref S)=some true/\c0x K C/\∀ ea,H2 ea=none->te0 (σ.set j (some (.ref ea))) (upd H2 ea (e2q ea C)) λ _ H3=>H3 ea=some (e2q ea C)/\∀ d',E (.ref Dc) d' H3) \/
 (W.subIn K (.ref C) (.ref S)=some false/\E (.ref C) none H2))
section
variable {X:Cx} {pins:List (Addr×Obj)} {σ:L2.St} {H:Hp} {s:Shared} {fp:List Addr}
theorem d6o {E:XK} {S Dc:Addr} {c dn n:Str} {j:Nat} {e₀:Expr} {te0:TE} {np dp cpos np2 rpos hpos:Pos} {Q:Flow->Shared->Prop} {e:Value} {s':Shared}
  (I:Inv X pins σ H s) (hf:∀ b∈fp,b6k X pins H b) (hst:X.stack=X.env::X.outer) (hfr:X.env.frame=some X.env.locals) (hex:X.ex=[])
  (hxe:∀ e s',wpAny (model X.prog X.w) X.A (leaving X.env e) (λ _ s''=>CXW X.prog X.w X.outer X.H₀ X.s₀ E e s'') (λ e' s''=>CXW X.prog X.w X.outer X.H₀ X.s₀ E e' s'') s'->X.xe e s')
  (T:e2u X.K X.mg c S) (hgc:Gl X c) (TD:e4c X.K X.mg dn Dc) (clD:c0x X.K Dc) (kpD:W.keepIn X.K (.ref Dc)=true) (hgd:Gl X dn) (hN:X.N.Nodup) (hj:X.N[j]?=some n) (hxn:X.env.scope.names.lookup n=some .local)
  (he0:∀ ea,PE (b0d X ea) e₀ te0) (h:b8q X fp H s none (e3w X.K S Dc j te0 E σ) e s') (hdc:(c == ("__debug__":Str))=false:=by decide) (hdd:(dn == ("__debug__":Str))=false:=by decide) (hdn:(n == ("__debug__":Str))=false:=by decide)
  (hs:starEach [e₀] X.env=[(false,eval e₀ X.env)]:=by rfl) :
  wpAny (model X.prog X.w) X.A (setFlight e none) (λ _ s₃=>wpAny (model X.prog X.w) X.A
   (handleBy e X.env [.ExceptHandler (some (.Name c np)) (some n) [.Raise (some (.Call (.Name dn dp) [e₀] [] cpos)) (some (.Name n np2)) rpos] hpos]) Q X.xe s₃) X.xe s':=by
 obtain⟨ea,cls,a0,B,H',d,rfl,os,bare,un,hok,held,bk,n1,new,⟨o0,ho0,hd0⟩,_,hdn0,C,hcls,hcase⟩:=h;subst hdn0 hcls;have hctx:d8n o0=some .none:=hd0.2.elim id λ q=>by obtain⟨z,_⟩:=q (some 0);cases z
 have hfnn:∀ b∈frs X.stack,∃ o,s'.heap.get? b=some o/\∀ vs,o.data≠.fields vs:=λ b hb=>(held.2.2.1.mem hb).2
 have fpc:∀ b∈fp,(b∈X.ex\/X.s₀.heap.objs.size<=b)/\b≠X.env.locals/\(∀ x c,X.env.cells.lookup x=some c->c≠b)/\∀ p∈X.pn++pins,p.1≠b:=λ b hb=>let ⟨_,f1,_,f3,f4,f5⟩:=hf b hb;⟨f3,f1,f4,f5⟩
 refine z0j (a2n (a3y _ _) (wpAny_landsW (Q:=λ _ s''=>∃ h5,s''={s' with heap:=h5}/\Heap.FlyingW B X.stack ea (.ref C) a0 h5/\s'.heap.UpToSlots h5) held λ h5 x1 x2=>⟨h5,rfl,x1,x2⟩)) (λ _ s'' ⟨⟨h5,e5,fl5,sm5⟩,dk5⟩=>?_) λ _ _ z=>z.1
 subst e5;obtain⟨ob,hob,hobc⟩:=fl5.there;obtain⟨un5,hok5,_,_⟩:=c5p I hf un hok bk fl5.1 sm5 hfnn;have I5:Inv X pins σ H' {s' with heap:=h5}:=I.call' (s':={s' with heap:=h5}) os un5 hok5 bare fpc;refine wpAny_handleBy_cons (codeAny_handlers_test (a9g (X:=b0d X ea) (b3m I5 ea) hgc T.bound ?_ hdc)) (by intro z;cases z);rcases hcase with ⟨hsub,clC,hth⟩ | ⟨hsub,hE⟩
 ·refine b0v (K:=X.K) I5.kIn hob hobc T.ty T.it T.mB hsub (codeAny_handlers_suite_as ?_);refine z0j (a2n (a3y _ _) (lands_againW (Q:=λ _ s''=>∃ h6,s''={s' with heap:=h6}/\Heap.FlyingW B X.stack ea (.ref C) a0 h6/\h5.UpToSlots h6) fl5 λ h6 x1 x2=>⟨h6,rfl,x1,x2⟩)) (λ _ s'' ⟨⟨h6,e6,fl6,sm6⟩,dk6⟩=>?_) λ _ _ z=>z.1
  subst e6;obtain⟨ob6,vs6,hob6,hobc6,hdat6,_⟩:=fl6.first;have isC:d0g ea C h6:=by
   obtain⟨o5,ho5,hd5⟩:=dk5 ea o0 ho0;obtain⟨o6,ho6,hd6⟩:=dk6 ea o5 ho5;have ho6':h6.get? ea=some o6:=ho6;rw[hob6] at ho6';cases ho6';refine nx7 ob6 vs6 hob6 hobc6 hdat6 ?_;have z:=hd6.2.trans (hd5.2.trans hctx);unfold d8n at z;rw[hdat6] at z;exact z
  obtain⟨un6,hok6,_,_⟩:=c5p I hf un hok bk fl6.1 (sm5.trans sm6) hfnn;have I6:Inv X pins σ H' {s' with heap:=h6}:=I.call' (s':={s' with heap:=h6}) os un6 hok6 bare fpc;have I7:=c8q I6 (c9x I hex hf new) n1 (d9k (P:=X.prog) (w:=X.w) (H:=upd H' ea (e2q ea C)) isC);refine a9r (X:=b0d X ea) (i:=j) (v:=.ref ea) (b3m I7 ea) hN hj (.inl hxn) rfl (λ s8 I8=>?_) (.inr hxn);have hw:=hth ea n1;refine z42 ?_;rw[arm_exec_Raise];simp only [evalOpt,Option.map];refine z00 (z2n (c8u (K:=X.K) (C:=Dc) (C2:=C) (ea:=ea) rfl clD clC ?_));refine z00 (z0j (Q:=λ v s9=>∃ e2,v=.ref e2/\∃ sA HA,Inv (b0d X ea) pins (σ.set j (some (.ref ea))) HA sA/\HA ea=some (e2q ea C)/\(∀ d',E (.ref Dc) d' HA)/\(∃ us,Heap.MadeExcOf sA.heap s9.heap e2 (.ref Dc) us)/\s9.os=sA.os/\AllBare s9.gens) (E:=λ _ _=>False) ?_ (λ v s9 h9=>z00 (z2n (z05 ?_))) λ _ _ z=>z.elim)
  ·refine z2o (a9g (X:=b0d X ea) I8 hgd TD.bound ?_ hdd);have hs2:starEach [e₀] X.env=(false,eval e₀ X.env)::starEach [] X.env:=by rw[hs];rfl
   refine z52 (h₀:=X.base) I.ok.mod.kin kpD ?_ hs2 rfl;rw[hs];refine z3r (thn (he0 ea pins s8 _ _ _ I8 hw) λ u s1 ⟨v,H1,I1,r1,q1⟩=>z3u ⟨I1.kIn,?_⟩);obtain⟨hp,g,d,t,os1⟩:=s1;obtain⟨bm,Nn,nm,qn,bs,hdcc,sn,sub,ab,col,dd,k0,k1,k2,k3,k5,mN,hC,hNs,hni,TL⟩:=d2o I1.kIn TD.ok;refine wpAny_call_exc_subT (h:=hp) (g:=g) (d:=d) (t:=t) (os:=os1) z4y TL hC hNs hni (λ h' e2 hm=>?_) (by show 1<=sizeLine;decide);exact nx19 e2 rfl ⟨hp,g,d,t,os1⟩ H1 I1 q1.1 q1.2 ⟨⟨_,hm⟩,rfl,I1.bare⟩
  ·obtain⟨e2,e1,sA,HA,IA,hA,hE,⟨us,hm⟩,os9,bare9⟩:=h9;refine⟨e2,e1,?_⟩;have I9:Inv (b0d X ea) pins (σ.set j (some (.ref ea))) HA s9:=IA.call' (ch:=[]) os9 (Un.kept hm.keeps) (IA.hok.kept hm.keeps) bare9 (λ b z=>absurd z (by simp));obtain⟨m,hn,hl⟩:=I9.loc;have hjσ:j < σ.length:=by rw[I.len];exact(z0i.mp hj).1
   obtain⟨u,r,l⟩:=hl j n (.ref ea) hj (z34 hjσ) (.inl hxn);cases r;have hld:(b0d X ea).env.kindOf n=some .local/\m n=some (.ref ea):=by
    rcases l with l | ⟨hk,_⟩
    ·exact l
    ·have hxn':(b0d X ea).env.kindOf n=some .local:=hxn;rcases hk with hk | hk<;>(rw[hxn'] at hk;cases hk)
   refine z00 (wpAny_Name (wpAny_loadName_local I9.ok.kind hld.1 hn hld.2 (z00 (z2n (z05 ?_)))) hdn);obtain⟨t,ht,_,_⟩:=hm.there;obtain⟨o2,vs2,hea,hcl2,hd2,hv2⟩:=(show a3m X.prog X.w HA s9.heap ea (e2q ea C) from I9.hok ea _ hA).1;have ne:e2≠ea:=λ z=>by
    obtain⟨o,eo⟩:=b1g (IA.hok ea _ hA);rw[<-z,hm.new] at eo;cases eo
   refine nx44 t o2 vs2 rfl I9.kIn ?_ ht hea ⟨hcl2,hd2,hv2,ne,λ h' sb he'=>?_⟩
   ·cases q:X.K.lookup e2 with
    | none=>rfl
    | some o =>
     have z:=IA.kIn e2 o q;rw[hm.new] at z;cases z
   ·exact c4i (s10:={s9 with heap:=h'}) (a7c I6.ok IA) hst hfr hex hxe hN hj hxn hm.new (λ b o e=>(sb.2 b λ z=>by rw[z,hm.new] at e;cases e).trans (hm.keeps b o e)) os9 bare9 he' hE
 ·refine b0v (K:=X.K) I5.kIn hob hobc T.ty T.it T.mB hsub ?_;refine wpAny_handleBy_nil (c7o hfr fl5 λ h6 held6 sm6 dk6=>hxe _ _ ?_);have fl6:=held6;rw[hst] at fl6;refine z0j (a2n (a6p _ _) (b9z (Q:=λ _ s''=>∃ h7,s''={s' with heap:=h7}/\Heap.FlyingW B X.outer ea (.ref C) a0 h7/\h6.UpToSlots h7) hfr fl6 λ T h7 _ ⟨oT,ts,hT,hdT⟩ _ sb fl7=>⟨h7,rfl,fl7,λ b o e hd=>⟨o.slots,(sb.2 b λ z=>by rw[z] at e;rw[hT] at e;cases e;exact hd _ hdT).trans e⟩⟩)) (λ _ s'' ⟨⟨h7,e7,fl7,sm7⟩,dk7⟩=>?_) λ _ _ z=>z.1
  subst e7;obtain⟨un7,hok7,bk7,_⟩:=c5p I hf un hok bk fl7.1 ((sm5.trans sm6).trans sm7) hfnn;have I7:Inv X pins σ H' {s' with heap:=h7}:=I.call' (s':={s' with heap:=h7}) os un7 hok7 bare fpc;have hea:=c9x I hex hf new;obtain⟨o5,ho5,hd5⟩:=dk5 ea o0 ho0;obtain⟨o6,ho6,hd6⟩:=dk6 ea o5 ho5;obtain⟨o7,ho7,hd7⟩:=dk7 ea o6 ho6;refine d1s (d:=none) I7 hst hex (λ b o e q nb=>bk7 b o e (q.imp (λ q=>?_) id) nb) fl7 n1 hea.old ⟨o7,ho7,hd7.1.trans (hd6.1.trans (hd5.1.trans hd0.1)),.inl (hd7.2.trans (hd6.2.trans (hd5.2.trans hctx)))⟩ hE;cases z:X.s₀.heap.get? b with
  | none=>exact(q z).elim
  | some u =>
   obtain⟨u',e'⟩:=I.base.there b u z (by rw[hex];simp);refine⟨by rw[e'];simp,λ hm=>?_⟩;obtain⟨_,_,_,f3,_⟩:=hf b hm;rcases f3 with f3 | f3
   ·rw[hex] at f3;cases f3
   ·exact absurd (z0w (z09 z) f3) (z1q _)
end
section
variable {X:Cx} {pins:List (Addr×Obj)} {σ:L2.St} {H:Hp} {s:Shared} {fp:List Addr} {E:XK}
theorem c7g {e:Value} {s':Shared} (I:Inv X pins σ H s) (hf:∀ b∈fp,b6k X pins H b) (hst:X.stack=X.env::X.outer) (hfr:X.env.frame=some X.env.locals) (hex:X.ex=[])
  (h:b8q X fp H s none E e s'):wpAny (model X.prog X.w) X.A (leaving X.env e) (λ _ s''=>CXW X.prog X.w X.outer X.H₀ X.s₀ E e s'') (λ e' s''=>CXW X.prog X.w X.outer X.H₀ X.s₀ E e' s'') s':=by
 obtain⟨ea,cls,a0,B,H',d,rfl,os,bare,un,hok,held,bk,n1,new,⟨o0,ho0,hd0⟩,_,hE⟩:=h;have hfnn:∀ b∈frs X.stack,∃ o,s'.heap.get? b=some o/\∀ vs,o.data≠.fields vs:=λ b hb=>(held.2.2.1.mem hb).2
 have fpc:∀ b∈fp,(b∈X.ex\/X.s₀.heap.objs.size<=b)/\b≠X.env.locals/\(∀ x c,X.env.cells.lookup x=some c->c≠b)/\∀ p∈X.pn++pins,p.1≠b:=λ b hb=>let ⟨_,f1,_,f3,f4,f5⟩:=hf b hb;⟨f3,f1,f4,f5⟩
 have fl6:=held;rw[hst] at fl6;refine z0j (a2n (a6p _ _) (b9z (Q:=λ _ s''=>∃ h7,s''={s' with heap:=h7}/\Heap.FlyingW B X.outer ea cls a0 h7/\s'.heap.UpToSlots h7) hfr fl6 λ T h7 _ ⟨oT,ts,hT,hdT⟩ _ sb fl7=>⟨h7,rfl,fl7,λ b o e hd=>⟨o.slots,(sb.2 b λ z=>by rw[z] at e;rw[hT] at e;cases e;exact hd _ hdT).trans e⟩⟩)) (λ _ s'' ⟨⟨h7,e7,fl7,sm7⟩,dk7⟩=>?_) λ _ _ z=>z.1
 subst e7;obtain⟨un7,hok7,bk7,_⟩:=c5p I hf un hok bk fl7.1 sm7 hfnn;have I7:Inv X pins σ H' {s' with heap:=h7}:=I.call' (s':={s' with heap:=h7}) os un7 hok7 bare fpc;have hea:=c9x I hex hf new;obtain⟨o7,ho7,hd7⟩:=dk7 ea o0 ho0;refine d1s (d:=d) I7 hst hex (λ b o e q nb=>bk7 b o e (q.imp (λ q=>?_) id) nb) fl7 n1 hea.old ⟨o7,ho7,hd7.1.trans hd0.1,hd0.2.imp (λ q=>hd7.2.trans q) id⟩ hE;cases z:X.s₀.heap.get? b with
 | none=>exact(q z).elim
 | some u =>
  obtain⟨u',e'⟩:=I.base.there b u z (by rw[hex];simp);refine⟨by rw[e'];simp,λ hm=>?_⟩;obtain⟨_,_,_,f3,_⟩:=hf b hm;rcases f3 with f3 | f3
  ·rw[hex] at f3;cases f3
  ·exact absurd (z0w (z09 z) f3) (z1q _)
end
theorem c6i {K:W.Frag} {C:Addr} (q:W.excIn K C e0l "ValueError.__new__"=true):c0x K C:=by
 unfold W.excIn at q;split at q
 ·next dd cdat slots lk =>
  split at q
  ·next C2 rest a0 a1 a2 a3 n a5 em es =>
   simp only [z13,z2c,z4m] at q;obtain⟨⟨⟨⟨⟨e1,e2⟩,e3⟩,e4⟩,e5⟩,e6⟩:=q;subst e1 e2;obtain⟨c1,c2,c3,c4,c5,c6,c7,c8,c9,c10,c11⟩:=cdat;dsimp only at em e3 e5 e6;subst em e3;obtain⟨lst⟩:=slots;have el:lst=[a0,a1,a2,a3,some (.builtin "ValueError.__new__"),a5]:=es;subst el;exact nx10 rest _ _ _ _ _ _ (nx37 _ _ _ dd a0 a1 a2 a3 a5 ⟨lk,λ h X=>W.tail_of_in X e4⟩)
  ·cases q
 ·cases q
end My
namespace My
open PySem PySem.Spec PyProof.Rows L2 PySem.NumText
theorem d0p:∀ (cs:List Nat) (a:Nat),a*10 ^ cs.length<=cs.foldl (λ acc c=>acc*10+(c - 48)) a
 | [],a=>by simp
 | c::r,a=>by
  have h1:=d0p r (a*10+(c - 48));rw[List.foldl_cons,z12,Nat.pow_succ];have h3:(a*10)*10 ^ r.length<=(a*10+(c - 48))*10 ^ r.length:=z59 _ (by lia);have h4:a*10*10 ^ r.length=a*(10 ^ r.length*10):=by rw[Nat.mul_assoc,Nat.mul_comm 10]
  lia
theorem d0h:∀ (cs ds:List Nat) (a b:Nat),cs.length=ds.length->AllDigits cs->AllDigits ds->cs.foldl (λ acc c=>acc*10+(c - 48)) a=ds.foldl (λ acc c=>acc*10+(c - 48)) b->a=b/\cs=ds
 | [],[],a,b,_,_,_,h=>⟨h,rfl⟩
 | [],_::_,_,_,h,_,_,_=>by simp at h
 | _::_,[],_,_,h,_,_,_=>by simp at h
 | c::r,d::t,a,b,hl,h1,h2,h=>by
  obtain⟨e1,e2⟩:=d0h r t _ _ (by simpa using hl) h1.tail h2.tail h;have c1:=h1.head;have d1:=h2.head;dsimp only at e1;exact⟨by lia,by rw[e2,show c=d by lia]⟩
theorem b2y {cs:List Nat} (h:a5d cs=true):∃ c r,cs=c::r/\c≠48/\cs.length<=30/\AllDigits cs:=by
 cases cs with
 | nil=>cases h
 | cons c r =>
  have h':(!decide (c=48) && (decide ((c::r).length<=30) && (c::r).all dig))=true:=h;simp only [z13,z4m,decide_eq_false_iff_not,z1c] at h';exact nx7 c r rfl h'.1 h'.2.1 (c4c h'.2.2)
theorem c5b {cs ds:List Nat} (h1:a5d cs=true) (h2:a5d ds=true) (h:digitsVal cs=digitsVal ds):cs=ds:=by
 obtain⟨c,r,rfl,nc,lc,ac⟩:=b2y h1;obtain⟨d,t,rfl,nd,ld,ad⟩:=b2y h2;have low:∀ (c:Nat) (r:List Nat),c≠48->AllDigits (c::r)->10 ^ r.length<=digitsVal (c::r):=λ c r n a=>by
  have q:=d0p r (0*10+(c - 48));have c1:=a.head;have q2:1*10 ^ r.length<=(0*10+(c - 48))*10 ^ r.length:=z59 _ (by lia);rw[Nat.one_mul] at q2;exact z0s q2 q
 have up:∀ cs:List Nat,AllDigits cs->digitsVal cs < 10 ^ cs.length:=λ cs a=>by
  have q:=c5s cs 0 a;rw[Nat.zero_add,Nat.one_mul] at q;exact q
 have lr:r.length=t.length:=by
  rcases z4e r.length t.length with z | z | z
  ·have q1:=up _ ac;have q2:=low d t nd ad;have q3:10 ^ (c::r).length<=10 ^ t.length:=Nat.pow_le_pow_right (by decide) (by rw[z12];lia);lia
  ·exact z
  ·have q1:=up _ ad;have q2:=low c r nc ac;have q3:10 ^ (d::t).length<=10 ^ r.length:=Nat.pow_le_pow_right (by decide) (by rw[z12];lia);lia
 exact(d0h (c::r) (d::t) 0 0 (by simp[lr]) ac ad h).2
theorem a3z {cs:List Nat} (h:a5d cs=true):0 < digitsVal cs/\digitsVal cs < 10 ^ 30:=by
 obtain⟨c,r,rfl,nc,lc,ac⟩:=b2y h;have q:=d0p r (0*10+(c - 48));have c1:=ac.head;have q2:1*10 ^ r.length<=(0*10+(c - 48))*10 ^ r.length:=z59 _ (by lia);have q3:0 < 10 ^ r.length:=Nat.pow_pos (by decide);have u:=c5s (c::r) 0 ac;rw[Nat.zero_add,Nat.one_mul] at u;have u2:10 ^ (c::r).length<=10 ^ 30:=Nat.pow_le_pow_right (by decide) lc;have e:digitsVal (c::r)=r.foldl (λ acc c=>acc*10+(c - 48)) (0*10+(c - 48)):=rfl;exact⟨by lia,z0w u u2⟩
theorem b5i {cs:List Nat} (h:a2p cs=true):cs=[48]\/(∃ r,cs=45::r/\a5d r=true/\a3w cs=-((digitsVal r:Nat):Int))\/(a5d cs=true/\a3w cs=((digitsVal cs:Nat):Int)):=by
 rcases Bool.or_eq_true_iff.mp h with z | z
 ·exact .inl (z0b z)
 ·cases cs with
  | nil=>cases z
  | cons c r =>
   by_cases hc:c=45
   ·subst hc;exact .inr (.inl ⟨r,rfl,by simpa [a8n] using z,by simp[a3w]⟩)
   ·exact .inr (.inr ⟨by simpa [a8n,hc] using z,by simp[a3w,hc]⟩)
theorem c2a {cs:List Nat} (h:a2p cs=true):-(10 ^ 30) < a3w cs/\a3w cs < 10 ^ 30:=by
 have hp:((10:Int) ^ 30)=((10 ^ 30:Nat):Int):=by decide
 rcases b5i h with rfl | ⟨r,rfl,f,e⟩ | ⟨f,e⟩
 ·decide
 ·have:=a3z f;lia
 ·have:=a3z f;lia
theorem num_inj {cs ds:List Nat} (h1:a2p cs=true) (h2:a2p ds=true) (h:a3w cs=a3w ds):cs=ds:=by
 have z0:a3w [48]=0:=by decide
 rcases b5i h1 with rfl | ⟨r,rfl,f,e⟩ | ⟨f,e⟩<;>rcases b5i h2 with rfl | ⟨t,rfl,g,e2⟩ | ⟨g,e2⟩
 ·rfl
 ·have:=a3z g;lia
 ·have:=a3z g;lia
 ·have:=a3z f;lia
 ·rw[c5b f g (by lia)]
 ·have:=a3z f;have:=a3z g;lia
 ·have:=a3z f;lia
 ·have:=a3z f;have:=a3z g;lia
 ·exact c5b f g (by lia)
theorem d6p {x:Str} (h:a2p x.cps.toList=true):Str.ofString (toString (a3w x.cps.toList))=x:=by
 obtain⟨b1,b2⟩:=c2a h;obtain⟨t1,t2,_,_⟩:=b1w b1 b2;exact z0n (num_inj t1 h t2)
end My
namespace My
open PySem PySem.Spec PyProof.Rows L2
section
variable {X:Cx} {e a b:Expr} {es:List Expr} {te ta tb:TE} {t:TA} {pos:Pos}
def e8e (t u:TS):TS:=λ D σ H=>∃ W:L2.St->Hp->Prop,t {D with nx:=W} σ H/\∀ σ' H',W σ' H'->u D σ' H'
theorem a1y {st:Stmt} {rest:List Stmt} {t u:TS} (h1:PS X st t) (h2:PSs X rest u):PSs X (st::rest) (e8e t u):=by
 constructor;intro pins s σ H D I ⟨W,h,k⟩;refine z42 (thn (h1 pins s σ H {D with nx:=W} I h) λ f s1 q=>?_);cases f with
 | next =>
  obtain⟨σ',H',I',q⟩:=q;exact h2 pins s1 σ' H' D I' (k σ' H' q)
 | ret v=>exact q
 | brk=>exact q
 | cont=>exact q
end
theorem b8s (sep:Str):∀ (l:List Str) (p:Str),p∈l->∀ c∈p.cps.toList,c∈(Str.join sep l).cps.toList
 | [],p,h=>by cases h
 | [x],p,h=>by cases z0o.mp h;exact λ _ h=>h
 | x::y::r,p,h=>by
  have e:(Str.join sep (x::y::r)).cps.toList=x.cps.toList++sep.cps.toList++(Str.join sep (y::r)).cps.toList:=by
   show (x++sep++Str.join sep (y::r)).cps.toList=_;rw[a0g,a0g]
  rw[e];rcases z06.mp h with z | z
  ·subst z;exact λ c hc=>by simp[hc]
  ·exact λ c hc=>by simp[b8s sep (y::r) p z c hc]
theorem b2m (sep:Str):∀ (l:List Str) (c:Nat),c∈(Str.join sep l).cps.toList->c∈sep.cps.toList\/∃ p∈l,c∈p.cps.toList
 | [],c,h=>by
  have e:(Str.join sep []).cps.toList=[]:=rfl;rw[e] at h;cases h
 | [x],c,h=>.inr ⟨x,by simp,h⟩
 | x::y::r,c,h=>by
  have e:(Str.join sep (x::y::r)).cps.toList=x.cps.toList++sep.cps.toList++(Str.join sep (y::r)).cps.toList:=by
   show (x++sep++Str.join sep (y::r)).cps.toList=_;rw[a0g,a0g]
  rw[e] at h;rcases z08.mp h with z | z
  ·rcases z08.mp z with z | z
   ·exact .inr ⟨x,by simp,z⟩
   ·exact .inl z
  ·rcases b2m sep (y::r) c z with z | ⟨p,hp,hc⟩
   ·exact .inl z
   ·exact .inr ⟨p,by simp[z06.mp hp],hc⟩
theorem e1k {X:Cx}:MtR X "str.find" (λ x xs H Q=>∃ z y:Str,x=.str z/\xs=[V.str y]/\Q (.int (match Builtin.Str.occurrences z y 0 z.length 1 with | i::_=>(i:Int) | []=>-1)) H):=by
 intro pins s σ H x xs v us Q I rx rv h;obtain⟨z,y,rfl,rfl,q⟩:=h;obtain⟨t,rfl⟩:=rx;obtain⟨u,rfl,t',rfl⟩:=a8l rv;exact call_gives z4r (z26 s z t) F.entry_str_find (F.args_str_find_2 _ _) (gives_str_find z y t t') (nx0 (.int _) H (I.tok _) ⟨_,rfl⟩ q)
end My
namespace My
open PySem PySem.Spec PyProof.Rows L2 PyProof
theorem d1w {X:Cx}:MtR X "str.rstrip" (λ x xs H Q=>∃ z y:Str,x=.str z/\xs=[V.str y]/\z.length<=sizeLine/\Q (.str (Txt.rstripChars z y)) H):=by
 intro pins s σ H x xs v us Q I rx rv h;obtain⟨z,y,rfl,rfl,hz,q⟩:=h;obtain⟨t,rfl⟩:=rx;obtain⟨u,rfl,t',rfl⟩:=a8l rv;exact call_gives F.slot_str_rstrip (z26 s z t) F.entry_str_rstrip (F.args_str_rstrip_2 _ _) (gives_str_rstrip_chars z y t t') (post_val_or_made (λ _=>fits_stripped _ _ _ hz) λ t2 k=> nx0 (.str _) H (I.tok _) ⟨_,rfl⟩ q)
theorem d1g {X:Cx}:a8k X (.builtin "abs") (λ xs H Q=>∃ n:Int,xs=[.int n]/\Q (.int (if n < 0 then -n else n)) H):=by
 intro pins s σ H xs us Q I r h;obtain⟨n,rfl,q⟩:=h;obtain⟨u,rfl,t,rfl⟩:=a8l r;exact call_abs_int λ u tk=> nx0 (.int _) H (I.tok _) ⟨_,rfl⟩ q
def tNever:TE:=λ _ _ _=>False
def e1s (K:W.Frag) (t:TA):TE:=λ σ H Q=>t σ H λ vs H1=>∃ a ns,vs=[V.ref a]/\SqL K H1 a (ns.map V.int)/\ns.length < 4000/\Q (.int (dd ns).length) H1
theorem d3h {X:Cx} {K:W.Frag} {e:Expr} {t:TA} {p p2 pos pos2:Pos} (hK:X.K=K) (hc:X.calm=true) (hgl:Gl X "len") (hml:X.mg "len"=none) (hg:Gl X "set") (hm:X.mg "set"=none) (ha:PA X [e] t)
  (hs:starEach [e] X.env=[(false,eval e X.env)]:=by rfl) (hs2:starEach [.Call (.Name "set" p2) [e] [] pos2] X.env=[(false,eval (.Call (.Name "set" p2) [e] [] pos2) X.env)]:=by rfl) :
  PE X (.Call (.Name "len" p) [.Call (.Name "set" p2) [e] [] pos2] [] pos) (e1s K t):=by
 constructor;intro pins s σ H Q I h;subst hK;refine z2o (b1r I hgl hml z0z ?_ (by decide) (by decide));refine PyProof.Rows.callWith_builtin1 ?_ (by rw[hs2];rfl) rfl;show wpAny _ _ (spliced ((false,eval (.Call (.Name "set" p2) [e] [] pos2) X.env)::backTo pos [])) _ _ s;refine z3r ?_;refine z2o (b1r I hg hm PyProof.Rows.boot_set (z45 (thn (ha pos2 pins s σ H _ I h) λ us s1 ⟨vs,H1,I1,r1,q1⟩=>?_) hs rfl) (by decide) (by decide));obtain⟨l,ns,rfl,hx,h4,q⟩:=q1;obtain⟨u,rfl,ru⟩:=a8l r1;cases ru;obtain⟨its,rv,pl,hz⟩:=I1.list hx;have hlen:=rv.length;rw[z03] at hlen;refine c8x (I1.ok.hd hc) pl.isList hlen.symm (λ j u eu=>?_) (show ns.length+1 < 4096 by lia) λ h' tk hG k=>?_
 ·obtain⟨x,hx1,rx⟩:=a9e rv eu;rw[z0f] at hx1;cases en:ns[j]? with
  | none=>rw[en] at hx1;cases hx1
  | some n =>
   rw[en] at hx1;cases hx1;obtain⟨t,rfl⟩:=rx;exact nx12 n t rfl rfl
 refine z3u ?_;obtain⟨o,es,ep,tb,ho,hex,hd,_,hsc,hf,_,_,hp⟩:=hG;have he:es.size=(dd ns).length:=by
  have:=hp.length_eq;rw[z03,z21] at this;exact this
 have h40:=dd_len ns;refine call_len_set ho hex hd hf (by rw[he];lia) ?_;have I2:=I1.kept (t':=tk+1+1) λ b o eb=>k b o eb
 exact nx0 (.int _) _ I2 ⟨_,by rw[he]⟩ q
section
variable {prog:Program} {w:World} {A:Around} {E:Value->Shared->Prop} {s:Shared}
theorem c4n {R:List Value->Shared->Prop} {l I:Addr} {items:Array Value} (hh:A.handled=none) (hl:s.heap.IsList l items) (hit:s.heap.IsRevIter I l ((items.size:Int) - 1)) (hlI:l≠I) (hn:items.size<=sizeLine)
  (h:∀ (h':Heap) (tk:Nat) (acc:Array Value),(∀ b o,b≠I->s.heap.get? b=some o->h'.get? b=some o)->ItemsOf (λ i v=>items[items.size - 1 - i]?=some v) acc items.size->R acc.toList {s with heap:=h',toks:=tk}) :
  wpAny (model prog w) A (collect (.ref I)) R E s:=by
 obtain⟨oI,hoI,cI,dI⟩:=id hit;obtain⟨ol,hol,cl,nl,dl⟩:=id hl;have hIs:=z0l (z09 hoI);have hls:=z0l (z09 hol);refine z00 (wpAny_runValue (z2f PyProof.Rows.entry_proto_collect' ?_));refine z00 (z4d (z05 ⟨z3t F.plain_list_iadd _,z2f PyProof.Rows.entry_list_iadd' ?_⟩));have hL:(s.heap.push {cls:=.type "list",data:=.seq ([]:List Value).toArray}).get? s.heap.objs.size=some {cls:=.type "list",data:=.seq #[]}:=z1a _ rfl;have key:=d2m (prog:=prog) (w:=w) (s:={s with heap:=s.heap.push {cls:=.type "list",data:=.seq ([]:List Value).toArray}})
  (R:=λ (q:Result) (s':Shared)=>∃ (h':Heap) (tk:Nat) (acc:Array Value) (c:Nat),q=.ok (.ret (.ref s.heap.objs.size))/\s'={s with heap:=h',toks:=tk}/\(∀ b o,b≠I->s.heap.get? b=some o->h'.get? b=some o) /\
   h'.get? s.heap.objs.size=some {cls:=.type "list",dict:=none,data:=.seq acc c,slots:=#[]}/\ItemsOf (λ i v=>items[items.size - 1 - i]?=some v) acc items.size)
  hh (hl.at λ o e=>z0k _ e) (hit.at λ o e=>z0k _ e) hlI hIs.symm hls.symm hn hL
  (λ h' tk acc c k hL' hacc=> nx8 h' tk acc c rfl rfl (λ b o hb e=>k b o (z0l (z09 e)) hb (z0k _ e)) hL' hacc)
 refine z0j key (λ fin s' x=>?_) λ e s' x=>?_
 ·cases fin with
  | done f =>
   obtain⟨h',tk,acc,c,e,rfl,k,hL',hacc⟩:=x;cases e;show wpAny _ A (load s.heap.objs.size>>=_) _ _ _;exact z00 (wpAny_load hL' (z05 (h h' tk acc k hacc)))
  | again c₁ =>
   refine⟨x.1,z2m x.2 λ q s₂ y=>?_⟩;obtain⟨h',tk,acc,c,rfl,rfl,k,hL',hacc⟩:=y;exact z00 (wpAny_load hL' (z05 (h h' tk acc k hacc)))
 ·obtain⟨_,_,_,_,e',_⟩:=x;cases e'
theorem d4w {Q:Value->Shared->Prop} {x:Str} {t:Tok} {l I:Addr} {items:Array Value} {ys:List Str} (hh:A.handled=none) (hl:s.heap.IsList l items) (hit:s.heap.IsRevIter I l ((items.size:Int) - 1)) (hlI:l≠I) (hn:items.size<=sizeLine)
  (hy:∀ acc:List Value,acc.length=items.size->(∀ j v,acc[j]?=some v->items[items.size - 1 - j]?=some v)->StrsAre acc ys) (hok:(ys.map (·.length)).sum+ys.length*x.length<=16777216)
  (hQ:∀ h' tk t',(∀ b o,b≠I->s.heap.get? b=some o->h'.get? b=some o)->Q (.str (Txt.join x ys) t') {s with heap:=h',toks:=tk}) :
  wpAny (model prog w) A (call (.builtin "str.join") [.str x t,.ref I]) Q E s:=by
 have W:=(Walks.listRev (prog:=prog) (w:=w) (A:=A.in1) hh I l hlI items).toS;have st0:0<=items.size/\s.heap.IsRevIter I l ((items.size:Int) - 1 - ((0:Nat):Int))/\s.heap.IsList l items:=⟨z0x _,by simpa using hit,hl⟩;refine wpAny_call (z53 z2h.plain F.entry_str_join (z2h.check _ _ _ _ _ _ _ _ (z26 _ _ _) (F.args_str_join_2 _ _) ?_));rw[join_tree_other];refine z00 (wpAny_typeOf hit.typeIs ?_);refine z00 (wpAny_tryCatch (W.self 0 s _ _ st0 ?_));refine z00 (c4n hh hl hit hlI hn λ h' tk acc k hacc=>?_);have hS:=hy acc.toList (by rw[z21];exact hacc.1) λ j v ev=>hacc.2 j v (by rw[<-z2a];exact ev)
 obtain⟨p,hv,ht⟩:=strsAre_values hS;rw[hv];have hok':=joinOk_of hok;rw[<-ht] at hok';unfold JoinOk at hok';rw[z4m] at hok';have g:PySem.Gives (joinTail x (strValues p)) (joinMade x p):=by
  have g0:=gives_joinTail x p hok';cases p with
  | nil=>exact g0
  | cons _ r=>cases r with
   | nil=>exact g0
   | cons _ _=>exact g0
 exact g prog w A (wants Q E) _ (post_join p ⟨joinFit_length hok',λ t' k2=>by rw[ht];exact hQ h' k2 t' k⟩)
end
def c5v (to:TE) (t:TA):TE:=λ σ H Q=>to σ H λ x H0=>∃ z:Str,x=.str z/\t σ H0 λ vs H1=>∃ (a:Addr) (ys:List Str),vs=[V.ref a]/\H1 a=some (.lst (ys.map V.str))/\(ys.map (·.length)).sum+ys.length*z.length<=16777216/\Q (.str (Str.join z ys.reverse)) H1
theorem c9c {X:Cx} {o e:Expr} {to:TE} {t:TA} {p2 apos cpos pos2:Pos} (hc:X.calm=true) (hg:Gl X "reversed") (hm:X.mg "reversed"=none) (ho:PE X o to) (ha:PA X [e] t)
  (hbase:attributeBase o "join" X.env (eval o X.env)=eval o X.env:=by rfl)
  (hfew:((backTo cpos (starEach [.Call (.Name "reversed" p2) [e] [] pos2] X.env)).all (λ x=>!x.1) && (backToKw cpos (keywordEach [] X.env)).all (λ x=>x.1.isSome)
   && decide (([.Call (.Name "reversed" p2) [e] [] pos2]:List Expr).length+([]:List Keyword).length+(if ([]:List Keyword).isEmpty then 0 else 1) < 30))=true:=by rfl)
  (hline:(apos.endLine == cpos.line)=true:=by rfl) (hs:starEach [e] X.env=[(false,eval e X.env)]:=by rfl) (hs2:starEach [.Call (.Name "reversed" p2) [e] [] pos2] X.env=[(false,eval (.Call (.Name "reversed" p2) [e] [] pos2) X.env)]:=by rfl) :
  PE X (.Call (.Attribute o "join" apos) [.Call (.Name "reversed" p2) [e] [] pos2] [] cpos) (c5v to t):=by
 constructor;intro pins s σ H Q I h;refine wpAny_Call_method_late hbase hfew hline rfl (thn (ho pins s σ H _ I h) λ v s1 ⟨x,H1,I1,r1,q1⟩=>?_);obtain⟨z,rfl,q1⟩:=q1;obtain⟨tz,rfl⟩:=r1;refine nx25 ("str") ("str.join") z0y z2h z32 (z26 _ _ _) ⟨λ a z=>(by cases z),?_⟩;refine Calls.callWith_builtin rfl (z4w ?_);show wpAny _ _ (spliced ((false,eval (.Call (.Name "reversed" p2) [e] [] pos2) X.env)::backTo cpos [])) _ _ s1;refine z3r ?_;refine z2o (b1r I1 hg hm boot_reversed (z45 (thn (ha pos2 pins s1 σ H1 _ I1 q1) λ us s2 ⟨vs,H2,I2,r2,q2⟩=>?_) hs rfl) (by decide) (by decide));obtain⟨l,ys,rfl,hl,hok,q⟩:=q2;obtain⟨u,rfl,ru⟩:=a8l r2;cases ru;obtain⟨its,rv,pl,hz⟩:=I2.list (SqL.of hl);have hlen:=rv.length;refine call_reversed_list pl.isList (z3u ?_);have hi:(s2.heap.push (revObj l ((its.toArray.size:Int) - 1))).IsRevIter s2.heap.objs.size l ((its.toArray.size:Int) - 1):=⟨_,z1a _ rfl,rfl,rfl⟩;have hll:l < s2.heap.objs.size:=by obtain⟨_,el,_⟩:=pl.isList;exact z09 el
 refine d4w (I2.ok.hd hc) (pl.isList.push _) hi (z0l hll) (by rw[z17,<-hlen];exact hz) (λ acc ha hj=>?_) (by rw[List.map_reverse,List.sum_reverse,List.length_reverse];exact hok) λ h' tk t' k=>?_
 ·refine b2p (by
   rw[List.map_reverse];exact e1p rv (by rw[ha,z17,hlen]) λ j v ev=>by simpa using hj j v ev)
 ·have I3:=I2.kept (t':=tk) λ b o eb=>k b o (z0l (z09 eb)) (z0k _ eb)
  have ej:Txt.join z ys.reverse=Str.join z ys.reverse:=eq_of_beq (join_plain_closes z _);exact nx0 (.str _) _ I3 ⟨_,rfl⟩ (by rw[ej];exact q)
theorem c6u:∀ {cs:List String} {us:List Value},a3b (cs.map V.ty) us->us=cs.map Value.type
 | [],_,.nil=>rfl
 | c::r,_,.cons e q=>by rw[c6u q,show _=Value.type c from e];rfl
theorem d2v {X:Cx} {K:W.Frag} (hK:X.K=K):a8k X (.builtin "isinstance") (λ xs H Q=>∃ (x:V) (tp:Addr) (cs:List String) (t:Value) (b:Bool),xs=[x,V.ref tp]/\H tp=some (.tup (cs.map V.ty))/\c7b K H x t/\W.kitAny K t (cs.map Value.type)=some b/\Q (.bl b) H):=by
 subst hK;intro pins s σ H xs us Q I r h;obtain⟨x,tp,cs,t,b,rfl,ht,ty,e,q⟩:=h;obtain⟨u,w',rfl,rx,rw'⟩:=c0w r;cases rw';obtain⟨_,its,rv,o,e1,hc,n,hd⟩:=(I.hok tp _ ht);have ei:=c6u rv;subst ei;obtain⟨oc,odd,oda,osl⟩:=o;subst hc hd;have h:∀ tk,EP X pins σ Q (.bool b) {s with toks:=tk}:=λ tk=> nx0 (.bl b) H (I.tok tk) rfl q
 cases ty with
 | non=>cases (rx);exact z25 W.kitx_none I.kIn True.intro e1 e (λ z=>nomatch z) h
 | bl y=>cases (rx);exact z25 W.kitx_bool I.kIn True.intro e1 e (λ z=>nomatch z) h
 | int i=>obtain⟨t,q⟩:=(rx);cases q;exact z25 W.kitx_int I.kIn True.intro e1 e (λ z=>nomatch z) h
 | str y=>obtain⟨t,q⟩:=(rx);cases q;exact z25 W.kitx_str I.kIn True.intro e1 e (λ z=>nomatch z) h
 | flt y=>obtain⟨t,q⟩:=(rx);cases q;exact z25 W.kitx_float I.kIn True.intro e1 e (λ z=>nomatch z) h
 | @lst a xs ea =>
  cases (show u=Value.ref a from rx);obtain⟨_,_,n,_,h1⟩:=(I.hok a _ ea);exact z25 z4t I.kIn ⟨_,h1,rfl⟩ e1 e (λ z=>nomatch z) h
 | @frz a ob xs ea =>
  cases (rx);obtain⟨_,_,_,n,_,h1⟩:=(I.hok a _ ea);exact z25 z4t I.kIn ⟨_,h1,rfl⟩ e1 e (λ z=>nomatch z) h
 | @tup a xs ea =>
  cases (show u=Value.ref a from rx);obtain⟨_,_,_,p⟩:=(I.hok a _ ea);obtain⟨o,h1,h2,_⟩:=p;exact z25 W.kitx_tuple I.kIn ⟨o,h1,h2⟩ e1 e (λ z=>nomatch z) h
 | @dK a kvs ea =>
  cases (show u=Value.ref a from rx);obtain⟨_,_,vs,_,p⟩:=(I.hok a _ ea);obtain⟨o,es,ep,h1,h2,_⟩:=p;exact z25 z4x I.kIn ⟨o,h1,h2.1⟩ e1 e (λ z=>nomatch z) h
 | @dT a kvs ea =>
  cases (show u=Value.ref a from rx);obtain⟨_,_,xs,_,o,es,ep,h1,h2,_⟩:=(I.hok a _ ea);exact z25 z4x I.kIn ⟨o,h1,h2.1⟩ e1 e (λ z=>nomatch z) h
 | @ins a C dx fs ea cl ha hn htk hm =>
  cases (rx);obtain⟨mA,O,_⟩:=d3c I.hok ea;obtain⟨od,J,_⟩:=O.look;exact z25 (W.kitx_own (cl.get _) cl.hd ha hn htk hm) I.kIn J e1 e (λ z=>nomatch z) h
mutual
inductive Tr (H:Hp):V->PyData->Prop where
 | int (i:Int):Tr H (.int i) (.int i)
 | str (x:Str):Tr H (.str x) (.str x)
 | lst {a:Addr} {xs:List V} {ds:List PyData} (h:H a=some (.lst xs)) (r:Trs H xs ds):Tr H (.ref a) (.list ds)
 | tup {a:Addr} {xs:List V} {ds:List PyData} (h:H a=some (.tup xs)) (r:Trs H xs ds):Tr H (.ref a) (.tuple ds)
inductive Trs (H:Hp):List V->List PyData->Prop where
 | nil:Trs H [] []
 | cons {x:V} {d:PyData} {xs:List V} {ds:List PyData} (h:Tr H x d) (r:Trs H xs ds):Trs H (x::xs) (d::ds)
end
mutual
theorem Tr.same {H H':Hp} (s:Same H H') {v:V} {d:PyData} (h:Tr H v d):Tr H' v d:=by
 cases h with
 | int i=>exact .int i
 | str x=>exact .str x
 | lst h r=>exact .lst (s _ _ h) (Trs.same s r)
 | tup h r=>exact .tup (s _ _ h) (Trs.same s r)
theorem Trs.same {H H':Hp} (s:Same H H') {vs:List V} {ds:List PyData} (h:Trs H vs ds):Trs H' vs ds:=by
 cases h with
 | nil=>exact .nil
 | cons h r=>exact .cons (Tr.same s h) (Trs.same s r)
end
mutual
theorem Tr.dt {K:W.Frag} {H:Hp} {v:V} {d:PyData} (h:Tr H v d):Dt K H v d:=by
 cases h with
 | int i=>exact .int i
 | str x=>exact .str x
 | lst h r=>exact .lst (SqL.of h) (Trs.dts r)
 | tup h r=>exact .tup (SqT.of h) (Trs.dts r)
theorem Trs.dts {K:W.Frag} {H:Hp} {vs:List V} {ds:List PyData} (h:Trs H vs ds):Dts K H vs ds:=by
 cases h with
 | nil=>exact .nil
 | cons h r=>exact .cons (Tr.dt h) (Trs.dts r)
end
theorem Trs.len:∀ {vs:List V} {ds:List PyData},Trs H vs ds->vs.length=ds.length
 | _,_,.nil=>rfl
 | _,_,.cons _ r=>by simp only [z12,Trs.len r]
theorem Trs.get:∀ {vs:List V} {ds:List PyData},Trs H vs ds->∀ {i:Nat} {v:V},vs[i]?=some v->∃ d,ds[i]?=some d/\Tr H v d
 | _,_,.nil,i,v,e=>by simp at e
 | _,_,.cons h r,0,v,e=>by cases e;exact⟨_,rfl,h⟩
 | _,_,.cons h r,i+1,v,e=>Trs.get r (by simpa using e)
theorem Trs.at:∀ {vs:List V} {ds:List PyData},Trs H vs ds->∀ {i:Nat} {d:PyData},ds[i]?=some d->∃ v,vs[i]?=some v/\Tr H v d
 | _,_,.nil,i,v,e=>by simp at e
 | _,_,.cons h r,0,v,e=>by cases e;exact⟨_,rfl,h⟩
 | _,_,.cons h r,i+1,v,e=>Trs.at r (by simpa using e)
theorem Trs.app:∀ {vs us:List V} {ds es:List PyData},Trs H vs ds->Trs H us es->Trs H (vs++us) (ds++es)
 | _,_,_,_,.nil,r=>r
 | _,_,_,_,.cons h q,r=>.cons h (Trs.app q r)
theorem Trs.ints:∀ {vs:List V} {ns:List Int},Trs H vs (ns.map PyData.int)->vs=ns.map V.int
 | _,[],.nil=>rfl
 | _,n::r,.cons h q=>by cases h;rw[Trs.ints q];rfl
theorem Trs.ofInts:∀ (ns:List Int),Trs H (ns.map V.int) (ns.map PyData.int)
 | []=>.nil
 | n::r=>.cons (.int n) (Trs.ofInts r)
end My
namespace My
open PySem PySem.Spec PyProof.Rows L2
def off (H H':Hp):Hp:=λ b=>if (H b).isSome=true then none else H' b
def b0q (H:Hp) (D:Addr):Hp:=λ b=>if b=D then none else H b
theorem a4s {H H':Hp}:Same (off H H') H':=λ b o e=>by
 unfold off at e;split at e
 ·cases e
 ·exact e
theorem b3v:Same (b0q H D) H:=λ b o e=>by
 unfold b0q at e;split at e
 ·cases e
 ·exact e
theorem a1v (h:H b=none) (e:H' b=some o):off H H' b=some o:=by
 unfold off;rw[h];exact e
theorem a1b (e:off H H' b=some o):H b=none/\H' b=some o:=by
 unfold off at e;split at e
 ·cases e
 ·next h =>
  refine⟨?_,e⟩;cases q:H b with
  | none=>rfl
  | some z=>rw[q] at h;exact absurd rfl h
theorem a3d (s:Same H' H''):Same (off H H') (off H H''):=λ b o e=>a1v (a1b e).1 (s _ _ (a1b e).2)
theorem a5i (s:Same H H2):Same (off H2 H') (off H H'):=λ b o e=>a1v (by
 cases q:H b with
 | none=>rfl
 | some z=>have:=s _ _ q;rw[(a1b e).1] at this;cases this) (a1b e).2
theorem c7w {α β:Type} (f:α->Option β):∀ (as:List α),(List.range as.length).filterMap (λ i=>as[i]?.bind f)=as.filterMap f:=by
 intro as;have key:∀ n,n<=as.length->(List.range n).filterMap (λ i=>as[i]?.bind f)=(as.take n).filterMap f:=by
  intro n;induction n with
  | zero=>intro _;rfl
  | succ n ih =>
   intro h;rw[z40,z2v,ih (by lia),z1m,z2v,z0c (by lia)];congr 1;show List.filterMap (λ i=>as[i]?.bind f) [n]=List.filterMap f [as[n]];simp only [z1i,List.filterMap_nil,z0c (show n < as.length by lia),Option.bind]
 rw[key as.length (z04 _),z16]
theorem a8h {α:Type} {σ0 fs:L2.St} {K:W.Frag} (as:List α) (dx:α->PyData) (f:α->Option V) (h0:σ0=List.replicate k none++fs) (hl:H1 l=some (.lst xs)) (ht:Trs H1 xs (as.map dx)) (hz:as.length<=sizeLine)
  (step:∀ a,a∈as->∀ H (ts:L2.St) v (R:Option V->L2.St->Hp->Prop),Same H1 H->ts.length=k->Tr H v (dx a)->(∀ (ts2:L2.St) H3,ts2.length=k->Same H H3->R (f a) (ts2++fs) H3) ->
   g v (ts++fs) H λ τ2 H2=>tc τ2 H2 λ ok H3=>if ok=true then te τ2 H3 λ y H4=>R (some y) τ2 H4 else R none τ2 H3)
  (fin:∀ D H',H1 D=none->Same H1 H'->H' D=some (.lst (as.filterMap f))->Q (.ref D) H'):b0e σ0 (Itl K l) g tc te Q H1:=by
 have hn:xs.length=as.length:=by rw[ht.len,z03]
 refine b2k as.length (λ i=>as[i]?.bind f) h0 hz (λ i H ss hi=>(a1s (SqL.of (ss _ _ hl))).go i (by lia)) (λ H ss=>(a1s (SqL.of (ss _ _ hl))).stop _ (by lia)) ?_ λ D H' hD ss hd=>fin D H' hD ss (by rw[hd,c7w])
 rintro i H ts v H' R ss hi hts ⟨rfl,yy⟩ cont;have e:=yy xs (SqL.of (ss _ _ hl));obtain⟨d,hd,tr⟩:=ht.get e;rw[z0f] at hd;cases ea:as[i]? with
 | none=>rw[ea] at hd;cases hd
 | some a =>
  rw[ea] at hd;cases hd;exact step a (z0h ea) H' ts v R ss hts (tr.same ss) λ ts2 H3 h2 s3=>by
   have:=cont ts2 H3 h2 s3;rw[ea] at this;exact this
theorem e5i {α:Type} {σ0 fs:L2.St} {k:Nat} {K:W.Frag} {l:Addr} {xs:List V} {g:TG} {tc:TT} {te:TE} {Q:VK} {H1:Hp} (P:α->Prop) (S:Hp->Hp->Hp) (Z:Addr->Hp->Hp) (as:List α) (dx:α->PyData) (dy:α->Option PyData) (h0:σ0=List.replicate k none++fs) (hl:H1 l=some (.lst xs)) (ht:Trs H1 xs (as.map dx)) (hz:as.length<=sizeLine)
  (z1:∀ D H H3 o,H1 D=none->Same H1 H->H D=some o->Same H H3->Same (Z D H) (Z D H3)) (z2:∀ D H H3 o zs,H1 D=none->Same H1 H->H D=some o->Same H H3->Same (S H H3) (Z D (upd H3 D (.lst zs))))
  (z3:∀ D H o zs,H1 D=none->Same H1 H->H D=some o->Same (Z D H) (Z D (upd H D (.lst zs))))
  (step:∀ a,a∈as->∀ H (ts:L2.St) v (R:Option V->L2.St->Hp->Prop),Same H1 H->ts.length=k->Tr H v (dx a)->Tr H1 v (dx a)->(∀ d y (ts2:L2.St) H3,P a->dy a=some d->ts2.length=k->Same H H3->Tr (S H H3) y d->R (some y) (ts2++fs) H3)->(P a->dy a=none->∀ (ts2:L2.St) H3,ts2.length=k->Same H H3->R none (ts2++fs) H3) ->
   g v (ts++fs) H λ τ2 H2=>tc τ2 H2 λ ok H3=>if ok=true then te τ2 H3 λ y H4=>R (some y) τ2 H4 else R none τ2 H3)
  (fin:(∀ a∈as,P a)->∀ D H' ys,H1 D=none->Same H1 H'->H' D=some (.lst ys)->Trs (Z D H') ys (as.filterMap dy)->Q (.ref D) H'):b0e σ0 (Itl K l) g tc te Q H1:=by
 have hn:xs.length=as.length:=by rw[ht.len,z03]
 intro D hD;refine⟨λ i m ys τ H=>m=as.length - i/\i<=as.length/\ys.length<=i/\(∀ a∈as.take i,P a)/\Trs (Z D H) ys ((as.take i).filterMap dy)/\(∃ ts:L2.St,ts.length=k/\τ=ts++fs)/\Same H1 H/\H D=some (.lst ys),⟨as.length,rfl,z0x _,z04 _,(λ a h=>by cases h),.nil,⟨_,z3e,h0⟩,Same.upd hD,a0c⟩,?_⟩;rintro i m ys τ H ⟨rfl,hi,hyl,hP,hp,⟨ts,hts,rfl⟩,ss,hd⟩;refine⟨hd,?_⟩;by_cases hlt:i < as.length
 ·refine .inr ⟨(a1s (SqL.of (ss _ _ hl))).go i (by lia),by lia,?_⟩;rintro v H' ⟨rfl,yy⟩;have e:=yy xs (SqL.of (ss _ _ hl));obtain⟨d,hde,tr⟩:=ht.get e;have ea:=z0c hlt;rw[z0f,ea] at hde;cases hde;have hP2:P as[i]->∀ a∈as.take (i+1),P a:=λ h a ha=>by
   rw[z1m,ea] at ha;rcases z08.mp ha with z | z
   ·exact hP a z
   ·rw[z0o.mp z];exact h
  refine step as[i] (z1k hlt) H' ts v (λ o τ2 H3=>match o with
   | some y=>H3 D=some (.lst ys)/\∃ m',m' < as.length - i/\m'=as.length - (i+1)/\i+1<=as.length/\(ys++[y]).length<=i+1/\(∀ a∈as.take (i+1),P a)/\Trs (Z D (upd H3 D (.lst (ys++[y])))) (ys++[y]) ((as.take (i+1)).filterMap dy)/\(∃ ts:L2.St,ts.length=k/\τ2=ts++fs)/\Same H1 (upd H3 D (.lst (ys++[y])))/\upd H3 D (.lst (ys++[y])) D=some (.lst (ys++[y]))
   | none=>∃ m',m' < as.length - i/\m'=as.length - (i+1)/\i+1<=as.length/\ys.length<=i+1/\(∀ a∈as.take (i+1),P a)/\Trs (Z D H3) ys ((as.take (i+1)).filterMap dy)/\(∃ ts:L2.St,ts.length=k/\τ2=ts++fs)/\Same H1 H3/\H3 D=some (.lst ys)) ss hts (tr.same ss) tr (λ d y ts2 H3 hPa hy h2 s3 tr3=>?_) λ hPa hy ts2 H3 h2 s3=>?_
  ·refine⟨s3 _ _ hd,as.length - (i+1),by lia,rfl,hlt,(by rw[z0r,z1u];lia),hP2 hPa,?_,⟨ts2,h2,rfl⟩,(ss.trans s3).again hD,a0c⟩;rw[z1m,ea,z2v];refine((hp.same (z1 D H' H3 _ hD ss hd s3)).same (z3 D H3 _ _ hD (ss.trans s3) (s3 _ _ hd))).app ?_;show Trs _ [y] (List.filterMap dy [as[i]]);rw[z1i,hy];exact .cons (tr3.same (z2 D H' H3 _ _ hD ss hd s3)) .nil
  ·refine⟨as.length - (i+1),by lia,rfl,hlt,by lia,hP2 hPa,?_,⟨ts2,h2,rfl⟩,ss.trans s3,s3 _ _ hd⟩;rw[z1m,ea,z2v];have e0:List.filterMap dy (some as[i]).toList=[]:=by
    show List.filterMap dy [as[i]]=[];rw[z1i,hy];rfl
   rw[e0,z1e];exact hp.same (z1 D H' H3 _ hD ss hd s3)
 ·have e:i=as.length:=by lia
  subst e;rw[z16] at hp hP;exact .inl ⟨(a1s (SqL.of (ss _ _ hl))).stop _ (by lia),fin hP D H ys hD ss hd hp⟩
theorem a3g (e:b0q H D b=some o):b≠D/\H b=some o:=by
 unfold b0q at e;split at e
 ·cases e
 ·next h=>exact⟨h,e⟩
theorem a5t (h:b≠D) (e:H b=some o):b0q H D b=some o:=by
 unfold b0q;rw[z01 h];exact e
theorem c1r {α:Type} {σ0 fs:L2.St} {k:Nat} {K:W.Frag} {l:Addr} {xs:List V} {g:TG} {tc:TT} {te:TE} {Q:VK} {H1:Hp} (P:α->Prop) (as:List α) (dx:α->PyData) (dy:α->Option PyData) (h0:σ0=List.replicate k none++fs) (hl:H1 l=some (.lst xs)) (ht:Trs H1 xs (as.map dx)) (hz:as.length<=sizeLine)
  (step:∀ a,a∈as->∀ H (ts:L2.St) v (R:Option V->L2.St->Hp->Prop),Same H1 H->ts.length=k->Tr H v (dx a)->(∀ d y (ts2:L2.St) H3,P a->dy a=some d->ts2.length=k->Same H H3->Tr (off H H3) y d->R (some y) (ts2++fs) H3)->(P a->dy a=none->∀ (ts2:L2.St) H3,ts2.length=k->Same H H3->R none (ts2++fs) H3) ->
   g v (ts++fs) H λ τ2 H2=>tc τ2 H2 λ ok H3=>if ok=true then te τ2 H3 λ y H4=>R (some y) τ2 H4 else R none τ2 H3)
  (fin:(∀ a∈as,P a)->∀ D H' ys,H1 D=none->Same H1 H'->H' D=some (.lst ys)->Trs (off H1 H') ys (as.filterMap dy)->Q (.ref D) H'):b0e σ0 (Itl K l) g tc te Q H1 :=
 e5i P (λ H H3=>off H H3) (λ D H=>b0q (off H1 H) D) as dx dy h0 hl ht hz (λ D H H3 o hD s1 hd s3 b ob e=>a5t (a3g e).1 (a3d s3 _ _ (a3g e).2))
  (λ D H H3 o zs hD s1 hd s3 b ob e=>by
   have hb:b≠D:=λ z=>by rw[z] at e;rw[(a1b e).1] at hd;cases hd
   exact a5t hb (a1v (a1b (a5i s1 _ _ e)).1 (by rw[a0m hb];exact(a1b e).2)))
  (λ D H o zs hD s1 hd b ob e=>a5t (a3g e).1 (a1v (a1b (a3g e).2).1 (by rw[a0m (a3g e).1];exact(a1b (a3g e).2).2)))
  (λ a ha H ts v R ss hts tr _ cs cn=>step a ha H ts v R ss hts tr cs cn) λ hP D H' ys hD ss hd ht=>fin hP D H' ys hD ss hd (ht.same b3v)
theorem d8s {X:Cx} {K:W.Frag} {o e:Expr} {es:List Expr} {to:TE} {t:TA} {name:Str} {apos cpos:Pos} {T id:String} {r:V->List V->Hp->VK->Prop} (hK:X.K=K) (pa:PlainAttrs T) (slot:Slot T name id) (hty:typeOf (.builtin id)=pure (.type "method_descriptor")) (hm:MtR X id r) (ho:PE X o to) (ha:PA X (e::es) t)
  (hbase:attributeBase o name X.env (eval o X.env)=eval o X.env:=by rfl)
  (hfew:((backTo cpos (starEach (e::es) X.env)).all (λ x=>!x.1) && (backToKw cpos (keywordEach [] X.env)).all (λ x=>x.1.isSome)
   && decide ((e::es).length+([]:List Keyword).length+(if ([]:List Keyword).isEmpty then 0 else 1) < 30))=true:=by rfl)
  (hline:(apos.endLine == cpos.line)=true:=by rfl) (hs:starEach (e::es) X.env=(false,eval e X.env)::starEach es X.env:=by rfl) (hplain:(backTo cpos (starEach es X.env)).any (·.1)=false:=by rfl) :
  PE X (.Call (.Attribute o name apos) (e::es) [] cpos) (tBM K T r to t):=by
 subst hK;exact a2l pa slot hty hm ho ha hbase hfew hline hs hplain
theorem e0m {X:Cx} {K:W.Frag} (hK:X.K=K) (hu:X.A.units+64 < cLine):OpR X (compareOp .NotEq) (e7l K):=by
 subst hK;exact d7p hu
end My
namespace My
open PySem PySem.W PyProof.Rows
theorem b7x {p:Prop} (h:∀ G:Prop,(p->G)->G):p:=h p id
section
open L2
theorem b1u {a b:TS} {D:b9c} {σ:L2.St} {H:Hp} (h:∀ b',b'=b->d7q a b' D σ H):d7q a b D σ H:=h b rfl
theorem a6h {a b:TS} {D:b9c} {R:VK} {B C:L2.St->Hp->Prop} {σ:L2.St} {H:Hp} (h:∀ b',b'=b->d7q a b' D σ H):(b9c.mk (d7q a b D) R B C).nx σ H:=h b rfl
theorem b3g {g:TG} {tb:TS} {x:V} {D:b9c} {σ:L2.St} {H:Hp} (h:∀ D',D'=D->g x σ H λ σ2 H2=>tb D' σ2 H2):g x σ H λ σ2 H2=>tb D σ2 H2:=h D rfl
end
theorem us1 {α:Type} {us:List α} (h:us.length=1):∃ a,us=[a]:=z10.mp h
theorem us2 {α:Type} {us:List α} (h:us.length=2):∃ a b,us=[a,b]:=by
 obtain⟨a,t,rfl⟩:=z5g h;obtain⟨b,rfl⟩:=us1 (Nat.succ.inj h);exact nx3 a b rfl
theorem us3 {α:Type} {us:List α} (h:us.length=3):∃ a b c,us=[a,b,c]:=by
 obtain⟨a,t,rfl⟩:=z5g h;obtain⟨b,c,rfl⟩:=us2 (Nat.succ.inj h);exact nx32 a b c rfl
theorem us4 {α:Type} {us:List α} (h:us.length=4):∃ a b c d,us=[a,b,c,d]:=by
 obtain⟨a,t,rfl⟩:=z5g h;obtain⟨b,c,d,rfl⟩:=us3 (Nat.succ.inj h);exact nx3 a b (nx3 c d rfl)
end My
namespace My
open PySem PySem.SetTable
def LS (mask:Nat) (h:Int):Nat->Nat×Nat
 | 0=>(bits h%(mask+1),bits h)
 | r+1=>leap mask (LS mask h r).1 (LS mask h r).2
def rl (mask i:Nat):Nat:=runEnd mask i - i
def e8j (mask:Nat):Prop:=mask=7\/mask=31\/mask=127
def Ps (mask:Nat) (h:Int) (r k:Nat):Nat:=(LS mask h r).1+k
def Bef (mask:Nat) (h:Int) (ok:Nat->Prop) (r k:Nat):Prop:=(∀ r',r' < r->∀ k',k'<=rl mask (LS mask h r').1->ok (Ps mask h r' k'))/\∀ k',k' < k->ok (Ps mask h r k')
structure TT (t:SetTable) (es:List (Int×Value)):Prop where
 size:e8j t.mask
 up:Ris t.place
 nd:t.dummies=#[]
 within:∀ j∈t.place.toList,j<=t.mask
 len:t.place.toList.length=es.length
 fnd:∀ j e,(j,e)∈t.place.toList.zip es->∃ r k,k<=rl t.mask (LS t.mask e.1 r).1/\Ps t.mask e.1 r k=j/\Bef t.mask e.1 (·∈t.place.toList) r k
def Occ (ow:Array (Option Nat)) (j:Nat):Prop:=∃ m,ow[j]?=some (some m)
structure LI (mask:Nat) (hs:List Int) (ow:Array (Option Nat)):Prop where
 sz:ow.size=mask+1
 at_:∀ (j m:Nat),ow[j]?=some (some m)->∃ z,hs[m]?=some z/\∃ r k,k<=rl mask (LS mask z r).1/\Ps mask z r k=j/\Bef mask z (Occ ow) r k
 one:∀ (j j' m:Nat),ow[j]?=some (some m)->ow[j']?=some (some m)->j=j'
 all:∀ (m:Nat),m < hs.length->∃ (j:Nat),ow[j]?=some (some m)
theorem LI.nil (mask:Nat):LI mask [] (Array.replicate (mask+1) none):=by
 have no:∀ (j m:Nat),(Array.replicate (mask+1) (none:Option Nat))[j]?=some (some m)->False:=λ j m e=>by
  rw[Array.getElem?_replicate] at e;split at e<;>cases e
 exact⟨by simp,λ j m e=>(no j m e).elim,λ j j' m e=>(no j m e).elim,λ m h=>absurd h (Nat.not_lt_zero _)⟩
end My
namespace My
open PySem PySem.Spec PyProof.Rows L2 PyProof PySem.SeqAt
def KpT (h h':Heap):Prop:=∀ b o xs n,h.get? b=some o->o.cls=.type "tuple"->o.data=.seq xs n->h'.get? b=some o
structure HVK (K:Type) [DecidableEq K] where
 is:Heap->K->Value->Prop
 hash:K->Int
 d:Nat
 inj:∀ {h:Heap} {x y:K} {v:Value},is h x v->is h y v->x=y
 keep:∀ {h h':Heap} {k:K} {v:Value},is h k v->KpT h h'->is h' k v
 pyHash:∀ {prog:Program} {w:World} {A:Around} {E:Value->Shared->Prop} {s:Shared} {k:K} {v:Value} {Q:Int->Shared->Prop},A.units+d < cLine->is s.heap k v->(∀ tk,Q (hash k) {s with toks:=tk})->wpAny (model prog w) A (PySem.pyHash v) Q E s
 eq:∀ {A:Around} {s:Shared} {x y:K} {u v:Value},A.units+d < cLine->is s.heap x u->is s.heap y v->EqAt A s u v (decide (x=y))
 quiet:∀ {prog:Program} {w:World} {A:Around} {E:Value->Shared->Prop} {s:Shared} {k:K} {v:Value} {Q:Bool->Shared->Prop} (n:Nat),d<=n->is s.heap k v->Q true s->wpAny (model prog w) A (eqIsQuiet n v) Q E s
 cls:∀ {prog:Program} {w:World} {A:Around} {E:Value->Shared->Prop} {s:Shared} {k:K} {v:Value} {Q:Bool->Shared->Prop} (n:Nat),d<=n->is s.heap k v->Q false s->wpAny (model prog w) A (ofAClassStatement n v) Q E s
 byv:∀ {prog:Program} {w:World} {A:Around} {E:Value->Shared->Prop} {s:Shared} {k:K} {v:Value} {Q:Bool->Shared->Prop} (n:Nat),d<=n->is s.heap k v->Q true s->wpAny (model prog w) A (hashByValue n v) Q E s
def HVK.int:HVK Int where
 is:=λ _ k v=>∃ t,v=.int k t
 hash:=hashInt
 d:=0
 inj:=λ ⟨t,e⟩ ⟨t',e'⟩=>by subst e;cases e';rfl
 keep:=λ x _=>x
 pyHash:=λ _ ⟨t,e⟩ h=>by subst e;exact wpAny_pyHash_int (h _)
 eq:=λ _ ⟨t,e⟩ ⟨t',e'⟩ prog w E Q h=>by subst e;subst e';exact wpAny_eqBool_int h
 quiet:=λ n _ ⟨t,e⟩ h=>by
  subst e;rw[eqIsQuiet_byValue n rfl];exact z05 h
 cls:=λ n _ ⟨t,e⟩ h=>by
  subst e;unfold ofAClassStatement;exact z05 h
 byv:=λ n _ ⟨t,e⟩ h=>by
  subst e;unfold hashByValue;exact z05 h
end My
namespace My
open PySem PySem.Spec PySem.W PyProof.Rows L2 PyProof PySem.SeqAt
structure VO (K:Type) [DecidableEq K] extends HVK K where
 lt:K->K->Bool
 irr:∀ x,lt x x=false
 tr:∀ x y z,lt x y=true->lt y z=true->lt x z=true
 tot:∀ x y,x≠y->lt x y=false->lt y x=true
 T:Value
 rfT:(T == T)=true
 typ:∀ {h:Heap} {k:K} {v:Value} (M:Model),is h k v->Looks M h (typeOf v) T
 one:∀ {prog:Program} {w:World} {A:Around} {E:Value->Shared->Prop} {s:Shared} {x y:K} {u v:Value} {Q:Bool->Shared->Prop} (b:Bool),(b=true->(T != Value.type "tuple")=true)->A.units+d < cLine->is s.heap x u->is s.heap y v->Q (lt x y) s->wpAny (model prog w) A (oneLt' b u v) Q E s
section
variable {K L:Type} [DecidableEq K] [DecidableEq L]
def VO.int:VO Int where
 toHVK:=HVK.int
 lt:=λ a b=>decide (a < b)
 irr:=λ x=>by simp
 tr:=λ x y z h h'=>by simp only [z1c] at *;lia
 tot:=λ x y n h=>by simp only [z1c,decide_eq_false_iff_not] at *;lia
 T:=.type "int"
 rfT:=by decide
 typ:=λ M ⟨t,e⟩=>by
  subst e;intro A Q E s _ q;exact wpAny_typeOf (T:="int") rfl q
 one:=λ b _ _ ⟨t,e⟩ ⟨t',e'⟩ h=>by
  subst e;subst e';cases b with
  | true=>exact oneLt_int h
  | false=>exact kat_one _ _ (lt_int h)
end
abbrev Nk:=Int×Int
def NdV (H:Hp) (v:V) (n:Nk):Prop:=∃ p,v=.ref p/\H p=some (.tup [.int n.1,.int n.2])
section
variable {X:Cx} {pins:List (Addr×Obj)} {σ:L2.St} {H:Hp} {s:Shared}
theorem b4w {α β:Type} {F:α->β->Prop}:∀ {l:List α} {m:List β} {i:Nat} {b:β},Paired F l m->m[i]?=some b->∃ a,l[i]?=some a/\F a b
 | _,_,_,_,.nil,e=>by simp at e
 | _,_,0,_,.cons r _,e=>by simp at e;subst e;exact⟨_,rfl,r⟩
 | _,_,i+1,_,.cons _ t,e=>by
  obtain⟨a,ea,f⟩:=b4w (i:=i) t (by simpa using e);exact⟨a,by simpa using ea,f⟩
end
end My
namespace My
open PySem PySem.Spec PyProof.Rows L2 PyProof
inductive e6y (K:W.Frag) (H:Hp):List V->List (List Key×V)->Prop where
 | nil:e6y K H [] []
 | cons {t b:Addr} {q:List Key×V} {ws:List V} {ps:List (List Key×V)} (h:SqT K H t [.ref b,q.2]) (hb:H b=some (.tup (q.1.map kV))) (r:e6y K H ws ps):e6y K H (.ref t::ws) (q::ps)
theorem u16 {A:Around} (h:A.units+64 < cLine):A.units+16 < cLine:=by lia
end My
namespace My
open PySem PySem.Spec PySem.W PyProof.Rows L2 PyProof PySem.SeqAt
section
variable {X:Cx} {pins:List (Addr×Obj)} {σ:L2.St} {H:Hp} {s:Shared}
def rInsertAt:V->List V->Hp->VK->Prop:=λ x vs H Q=>∃ (l:Addr) (xs:List V) (i:Int) (y:V),x=.ref l/\vs=[.int i,y]/\H l=some (.lst xs)/\0<=i/\i<=xs.length/\xs.length < sizeLine /\
 ∀ H',H' l=some (.lst (xs.take i.toNat++y::xs.drop i.toNat))->(∀ b o,b≠l->H b=some o->H' b=some o)->Q .non H'
theorem c3u:MtM X "list.insert" rInsertAt:=by
 intro pins s σ H x vs v us Q I rx rv h;obtain⟨l,xs,i,y,rfl,rfl,hH,h0,h1,hz,q⟩:=h;cases rx;obtain⟨w1,u,rfl,rw1,ru⟩:=c0w rv;obtain⟨t,rfl⟩:=rw1;obtain⟨z,its,n,r,hl,e⟩:=I.lstM hH;have z24:sizeLine=2 ^ 24:=rfl;have fits:¬(!Builtin.List.listFitsIndex i)=true:=by
  unfold Builtin.List.listFitsIndex;rw[z07 (by lia),z07 (by lia)];decide
 refine z3a F.slot_list_insert ⟨_,e,rfl⟩ F.entry_list_insert (F.args_list_insert_3 _ _ _) (AutoSeq1.list_insert_list_int_val_1 l its.toArray n i t u fits (by rw[z17];lia)) ⟨e,?_⟩;refine nx0 (.non) _ (I.lset (its':=its.take i.toNat++u::its.drop i.toNat) hH e ?_ ?_ ?_) rfl (q _ a0c λ b o n e=>by rw[a0m n];exact e)
 ·have hk:¬ i < 0:=by lia
  have hm:min i.toNat its.toArray.size=i.toNat:=by rw[z17];lia
  rw[z01 hk,hm];simp;exact z3f (by rw[z29];exact z04 _)
 ·exact a3b.append (r.take _) (.cons ru (r.drop _))
 ·rw[z0r,z12,z14,z29];lia
end
mutual
inductive TF (H:Hp):V->PyData->List Addr->Prop where
 | int (i:Int):TF H (.int i) (.int i) []
 | str (x:Str):TF H (.str x) (.str x) []
 | lst {a:Addr} {xs:List V} {ds:List PyData} {f:List Addr} (h:H a=some (.lst xs)) (r:TFs H xs ds f):TF H (.ref a) (.list ds) (a::f)
 | tup {a:Addr} {xs:List V} {ds:List PyData} {f:List Addr} (h:H a=some (.tup xs)) (r:TFs H xs ds f):TF H (.ref a) (.tuple ds) (a::f)
inductive TFs (H:Hp):List V->List PyData->List Addr->Prop where
 | nil:TFs H [] [] []
 | cons {x:V} {d:PyData} {xs:List V} {ds:List PyData} {f g:List Addr} (h:TF H x d f) (r:TFs H xs ds g):TFs H (x::xs) (d::ds) (f++g)
end
mutual
theorem TF.tr {H:Hp} {v:V} {d:PyData} {f:List Addr} (h:TF H v d f):Tr H v d:=by
 cases h with
 | int i=>exact .int i
 | str x=>exact .str x
 | lst h r=>exact .lst h (TFs.trs r)
 | tup h r=>exact .tup h (TFs.trs r)
theorem TFs.trs {H:Hp} {vs:List V} {ds:List PyData} {f:List Addr} (h:TFs H vs ds f):Trs H vs ds:=by
 cases h with
 | nil=>exact .nil
 | cons h r=>exact .cons (TF.tr h) (TFs.trs r)
end
mutual
theorem TF.fr {H H':Hp} {v:V} {d:PyData} {f:List Addr} (h:TF H v d f) (k:∀ b∈f,∀ o,H b=some o->H' b=some o):TF H' v d f:=by
 cases h with
 | int i=>exact .int i
 | str x=>exact .str x
 | lst h r=>exact .lst (k _ z0g _ h) (TFs.fr r λ b hb=>k b (z0p _ hb))
 | tup h r=>exact .tup (k _ z0g _ h) (TFs.fr r λ b hb=>k b (z0p _ hb))
theorem TFs.fr {H H':Hp} {vs:List V} {ds:List PyData} {f:List Addr} (h:TFs H vs ds f) (k:∀ b∈f,∀ o,H b=some o->H' b=some o):TFs H' vs ds f:=by
 cases h with
 | nil=>exact .nil
 | cons h r=>exact .cons (TF.fr h λ b hb=>k b (z19 _ hb)) (TFs.fr r λ b hb=>k b (z0u _ hb))
end
mutual
theorem TF.live {H:Hp} {v:V} {d:PyData} {f:List Addr} (h:TF H v d f):∀ b∈f,(∃ xs,H b=some (.lst xs))\/∃ xs,H b=some (.tup xs):=by
 cases h with
 | int i=>intro b hb;cases hb
 | str x=>intro b hb;cases hb
 | lst h r =>
  intro b hb;rcases z06.mp hb with z | z
  ·exact .inl ⟨_,z ▸ h⟩
  ·exact TFs.live r b z
 | tup h r =>
  intro b hb;rcases z06.mp hb with z | z
  ·exact .inr ⟨_,z ▸ h⟩
  ·exact TFs.live r b z
theorem TFs.live {H:Hp} {vs:List V} {ds:List PyData} {f:List Addr} (h:TFs H vs ds f):∀ b∈f,(∃ xs,H b=some (.lst xs))\/∃ xs,H b=some (.tup xs):=by
 cases h with
 | nil=>intro b hb;cases hb
 | cons h r =>
  intro b hb;rcases z08.mp hb with z | z
  ·exact TF.live h b z
  ·exact TFs.live r b z
end
theorem TF.same (s:Same H H') (h:TF H v d f):TF H' v d f:=h.fr λ b _ o e=>s b o e
theorem TFs.same (s:Same H H') (h:TFs H vs ds f):TFs H' vs ds f:=h.fr λ b _ o e=>s b o e
theorem TFs.not (h:TFs H vs ds f) (e:H b=none):b ∉ f:=λ hb=>by
 rcases h.live b hb with ⟨xs,q⟩ | ⟨xs,q⟩<;>rw[e] at q<;>cases q
theorem TFs.app:∀ {vs us:List V} {ds es:List PyData} {f g:List Addr},TFs H vs ds f->TFs H us es g->TFs H (vs++us) (ds++es) (f++g)
 | _,_,_,_,_,_,.nil,r=>r
 | _,_,_,_,_,_,.cons h q,r=>by
  rw[z1l];exact .cons h (TFs.app q r)
theorem TFs.one (h:TF H v d f):TFs H [v] [d] f:=by
 have:=TFs.cons h .nil;rw[z1e] at this;exact this
theorem TFs.ints:∀ ns:List Int,TFs H (ns.map V.int) (ns.map PyData.int) []
 | []=>.nil
 | n::r=>TFs.cons (.int n) (TFs.ints r)
theorem TFs.ints_of:∀ {vs:List V} {ns:List Int} {f:List Addr},TFs H vs (ns.map PyData.int) f->vs=ns.map V.int/\f=[]
 | _,[],_,.nil=>⟨rfl,rfl⟩
 | _,n::r,_,.cons h q=>by
  cases h;obtain⟨e,e2⟩:=TFs.ints_of q;exact⟨by rw[e];rfl,by rw[e2];rfl⟩
theorem TFs.len (h:TFs H vs ds f):vs.length=ds.length:=h.trs.len
theorem TFs.focus:∀ {vs:List V} {ds:List PyData} {f:List Addr},TFs H vs ds f->∀ {i:Nat} {d:PyData},ds[i]?=some d->∃ x f1 f2 f3,vs[i]?=some x/\f=f1++(f2++f3)/\TF H x d f2 /\
  ∀ H' x' d' f2',(∀ b∈f1++f3,∀ o,H b=some o->H' b=some o)->TF H' x' d' f2'->TFs H' (vs.set i x') (ds.set i d') (f1++(f2'++f3))
 | _,_,_,.nil,i,d,e=>by cases e
 | _,_,_,.cons (x:=x) (f:=f) (g:=g) h r,0,d,e=>by
  cases e;exact nx39 x ([]) f g rfl rfl h λ H' x' d' f2' k t=>(TFs.cons t (r.fr λ b hb=>k b hb):TFs H' (x'::_) (d'::_) (f2'++g))
 | _,_,_,.cons (f:=f) h r,i+1,d,e=>by
  obtain⟨y,f1,f2,f3,e1,e2,e3,e4⟩:=TFs.focus r (by simpa using e);refine nx39 y (f++f1) f2 f3 (by simpa using e1) (by rw[e2,z1l]) e3 λ H' x' d' f2' k t=>?_;rw[z1l];exact .cons (h.fr λ b hb=>k b (by rw[z1l];exact z19 _ hb)) (e4 H' x' d' f2' (λ b hb=>k b (by rw[z1l];exact z0u _ hb)) t)
theorem TFs.set_self {α:Type}:∀ {xs:List α} {i:Nat} {x:α},xs[i]?=some x->xs.set i x=xs
 | [],_,_,h=>by cases h
 | y::r,0,x,h=>by cases h;rfl
 | y::r,i+1,x,h=>by
  show y::r.set i x=_;rw[TFs.set_self (by simpa using h)]
theorem nd3 {α:Type} {a b c:List α}:(a++(b++c)).Nodup ↔ (a++c).Nodup/\b.Nodup/\∀ x∈b,x ∉ a/\x ∉ c:=by
 rw[z44,z44,z44];constructor
 ·rintro⟨h1,⟨h2,h3,h4⟩,h5⟩;exact⟨⟨h1,h3,λ x hx y hy=>h5 x hx y (z0u _ hy)⟩,h2,λ x hx=>⟨λ z=>h5 x z x (z19 _ hx) rfl,λ z=>h4 x hx x z rfl⟩⟩
 ·rintro⟨⟨h1,h2,h3⟩,h4,h5⟩;refine⟨h1,⟨h4,h2,λ x hx y hy e=>(h5 x hx).2 (e ▸ hy)⟩,λ x hx y hy e=>?_⟩;rcases z08.mp hy with z | z
  ·exact(h5 y z).1 (e ▸ hx)
  ·exact h3 x hx y z e
theorem nd2 {α:Type} {a b:List α}:(a++b).Nodup ↔ a.Nodup/\b.Nodup/\∀ x∈b,x ∉ a:=by
 rw[z44];constructor
 ·rintro⟨h1,h2,h3⟩;exact⟨h1,h2,λ x hx z=>h3 x z x hx rfl⟩
 ·rintro⟨h1,h2,h3⟩;exact⟨h1,h2,λ x hx y hy e=>h3 y hy (e ▸ hx)⟩
theorem e6u {α:Type} {σ0 fs:L2.St} {K:W.Frag} (as:List α) (ow:α->List Addr) (dx:α->PyData) (dy:α->PyData) (h0:σ0=List.replicate k none++fs) (hl:H1 l=some (.lst xs)) (ht:Trs H1 xs (as.map dx)) (hz:as.length<=sizeLine)
  (ho:as.Pairwise λ a c=>∀ b∈ow c,b ∉ ow a) (hv:∀ a∈as,∀ b∈ow a,∃ o,H1 b=some o)
  (step:∀ a,a∈as->∀ H (ts:L2.St) v (R:Option V->L2.St->Hp->Prop),Same H1 H->ts.length=k->Tr H v (dx a)->(∀ y f (ts2:L2.St) H3,ts2.length=k->Same H H3->TF H3 y (dy a) f->f.Nodup->(∀ b∈f,H b=none\/b∈ow a)->R (some y) (ts2++fs) H3) ->
   g v (ts++fs) H λ τ2 H2=>tc τ2 H2 λ ok H3=>if ok=true then te τ2 H3 λ y H4=>R (some y) τ2 H4 else R none τ2 H3)
  (fin:∀ D H' ys f,H1 D=none->Same H1 H'->H' D=some (.lst ys)->TFs H' ys (as.map dy) f->f.Nodup->(∀ b∈f,H1 b=none\/∃ a∈as,b∈ow a)->D ∉ f->Q (.ref D) H'):b0e σ0 (Itl K l) g tc te Q H1:=by
 have hn:xs.length=as.length:=by rw[ht.len,z03]
 intro D hD;refine⟨λ i m ys τ H=>m=as.length - i/\i<=as.length/\ys.length<=i/\(∃ f,TFs H ys ((as.take i).map dy) f/\f.Nodup/\(∀ b∈f,H1 b=none\/∃ a∈as.take i,b∈ow a)/\D ∉ f)/\(∃ ts:L2.St,ts.length=k/\τ=ts++fs)/\Same H1 H/\H D=some (.lst ys),⟨as.length,rfl,z0x _,z04 _,⟨[],.nil,.nil,(λ b hb=>by cases hb),(λ hb=>by cases hb)⟩,⟨_,z3e,h0⟩,Same.upd hD,a0c⟩,?_⟩;rintro i m ys τ H ⟨rfl,hi,hyl,⟨f,hp,hf,hfn,hDf⟩,⟨ts,hts,rfl⟩,ss,hd⟩;refine⟨hd,?_⟩;by_cases hlt:i < as.length
 ·refine .inr ⟨(a1s (SqL.of (ss _ _ hl))).go i (by lia),by lia,?_⟩;rintro v H' ⟨rfl,yy⟩;have e:=yy xs (SqL.of (ss _ _ hl));obtain⟨d,hde,tr⟩:=ht.get e;have ea:=z0c hlt;rw[z0f,ea] at hde;cases hde;refine step as[i] (z1k hlt) H' ts v (λ o τ2 H3=>match o with
   | some y=>H3 D=some (.lst ys)/\∃ m',m' < as.length - i/\m'=as.length - (i+1)/\i+1<=as.length/\(ys++[y]).length<=i+1/\(∃ f,TFs (upd H3 D (.lst (ys++[y]))) (ys++[y]) ((as.take (i+1)).map dy) f/\f.Nodup/\(∀ b∈f,H1 b=none\/∃ a∈as.take (i+1),b∈ow a)/\D ∉ f)/\(∃ ts:L2.St,ts.length=k/\τ2=ts++fs)/\Same H1 (upd H3 D (.lst (ys++[y])))/\upd H3 D (.lst (ys++[y])) D=some (.lst (ys++[y]))
   | none=>∃ m',m' < as.length - i/\m'=as.length - (i+1)/\i+1<=as.length/\ys.length<=i+1/\(∃ f,TFs H3 ys ((as.take (i+1)).map dy) f/\f.Nodup/\(∀ b∈f,H1 b=none\/∃ a∈as.take (i+1),b∈ow a)/\D ∉ f)/\(∃ ts:L2.St,ts.length=k/\τ2=ts++fs)/\Same H1 H3/\H3 D=some (.lst ys)) ss hts (tr.same ss) (λ y f2 ts2 H3 h2 s3 tr3 nd2' fr3=>?_)
  refine⟨s3 _ _ hd,as.length - (i+1),by lia,rfl,hlt,(by rw[z0r,z1u];lia),?_,⟨ts2,h2,rfl⟩,(ss.trans s3).again hD,a0c⟩;have tk:as.take (i+1)=as.take i++[as[i]]:=by rw[z1m,ea];rfl
  have hD2:D ∉ f2:=λ z=>by
   rcases fr3 D z with q | q
   ·rw[hd] at q;cases q
   ·obtain⟨o,q⟩:=hv _ (z1k hlt) D q;rw[hD] at q;cases q
  refine⟨f++f2,?_,nd2.mpr ⟨hf,nd2',λ x hx z=>?_⟩,λ b hb=>?_,λ hb=>?_⟩
  ·rw[tk,z0m];refine(hp.fr λ b hb o eb=>?_).app (TFs.one (tr3.fr λ b hb o eb=>?_))
   ·rw[a0m (show b≠D from λ z=>hDf (z ▸ hb))];exact s3 _ _ eb
   ·rw[a0m (show b≠D from λ z=>hD2 (z ▸ hb))];exact eb
  ·rcases fr3 x hx with q | q
   ·exact hp.not q z
   ·rcases hfn x z with q2 | ⟨a,ha,q2⟩
    ·obtain⟨o,q3⟩:=hv _ (z1k hlt) x q;rw[q2] at q3;cases q3
    ·obtain⟨j,hj,ej⟩:=List.mem_iff_getElem.mp ha;rw[z14] at hj;rw[z4b] at ej;have:=z3l.mp ho j i (by lia) hlt (by lia) x q;rw[ej] at this;exact this q2
  ·rw[tk];rcases z08.mp hb with z | z
   ·rcases hfn b z with q | ⟨a,ha,q⟩
    ·exact .inl q
    ·exact .inr ⟨a,z19 _ ha,q⟩
   ·rcases fr3 b z with q | q
    ·exact .inl (ss.free q)
    ·exact .inr ⟨as[i],z0u _ (z0o.mpr rfl),q⟩
  ·rcases z08.mp hb with z | z
   ·exact hDf z
   ·exact hD2 z
 ·have e:i=as.length:=by lia
  subst e;rw[z16] at hp hfn;exact .inl ⟨(a1s (SqL.of (ss _ _ hl))).stop _ (by lia),fin D H ys f hD ss hd hp hf hfn hDf⟩
structure e7d (K:W.Frag) (x qual:Str) (st:Stmt) (f:Addr) (fd:FuncData):Prop where
 ex:∃ (oc:Value) (od:Option Addr) (dV kV doc pm:Value) (an:Option Addr) (cdv ct:Value) (osl:Array (Option Value)),
  fd=W.fnOf x qual (a4v st) (a3t st) (a0h st) dV kV doc pm an cdv ct/\K.lookup f=some ⟨oc,od,.func fd,osl⟩/\W.codeIn K cdv qual=true
 kp:W.keepIn K (.ref f)=true
section
variable {P:Program} {w:World} {K:W.Frag} {mg:Str->Option Value} {base:Heap}
theorem e1i {st:Stmt} {dV kV doc pm cdv ct:Value} (l:K.lookup f=some ⟨oc,od,.func (W.fnOf x qual (a4v st) (a3t st) (a0h st) dV kV doc pm an cdv ct),osl⟩)
  (c:W.codeIn K cdv qual=true) (k:W.keepIn K (.ref f)=true):e7d K x qual st f (W.fnOf x qual (a4v st) (a3t st) (a0h st) dV kV doc pm an cdv ct):=⟨nx10 oc od dV kV doc pm an (nx29 cdv ct osl rfl l c),k⟩
theorem b7h (hd:fd.defaults=.ref T) (ho:K.lookup T=some o) (hs:o.data=.seq items n) (X:K.In s.heap)
  (h:∃ k:Option (Array Value)->Sem (List (Str×Value)),bindArgs fd args=(seqItems? fd.defaults>>=k)/\k (some items)=pure binds):BindsTo s fd args binds:=by
 obtain⟨k,h1,h2⟩:=h;exact BindsTo.of_defaults hd (X _ _ ho) hs h1 h2
end
theorem d2t {n:Nat} (z:Int) (hl:xs.length=n) (hn:0 < n):(z%(n:Int)).toNat < n/\∃ v,xs[(z%(n:Int)).toNat]?=some v/\atI xs (z%(n:Int))=some v:=by
 have h0:=z1h z (show (n:Int)≠0 by lia);have h1:=z1o z (show (0:Int) < n by lia);obtain⟨j,hj⟩:=Int.eq_ofNat_of_zero_le h0;rw[hj] at h1 ⊢;have hjn:j < xs.length:=by lia
 refine⟨by simpa using (by lia:j < n),xs[j],?_,a0k (z0c hjn)⟩;exact z0c hjn
theorem d9l {ns:List Int} (z:Int) (hl:ns.length=n) (hn:0 < n):atI (ns.map V.int) (z%(n:Int))=some (.int (ns.getD (z%(n:Int)).toNat 0))/\ns.getD (z%(n:Int)).toNat 0∈ns:=by
 obtain⟨_,v,e,_⟩:=d2t z hl hn;have g:ns.getD (z%(n:Int)).toNat 0=v:=by rw[z41,e];rfl
 rw[g];refine⟨?_,z0h e⟩;have h0:=z1h z (show (n:Int)≠0 by lia);have:=a0k (xs:=ns.map V.int) (by rw[z0f,e];rfl);rwa [Int.toNat_of_nonneg h0] at this
theorem a8g:∀ {xs:List α} {bs:List β} {x:α} {b:β},Paired F xs bs->F x b->Paired F (xs++[x]) (bs++[b])
 | _,_,_,_,.nil,h=>.cons h .nil
 | _,_,_,_,.cons r t,h=>.cons r (a8g t h)
end My
namespace My
open PySem PySem.Spec PyProof.Rows L2
section
variable {X:Cx}
theorem d5y {e:Expr} {z:Str} {k:Nat} {te:TE} {p1 p2 pos:Pos} (he:PE X e te) (hz:z.length<=1000) (hev:evalEach [.FormattedValue e 114 none p1,.Constant (.str z) k p2] X.env=[eval (.FormattedValue e 114 none p1) X.env,eval (.Constant (.str z) k p2) X.env]:=by rfl) :
  PE X (.JoinedStr [.FormattedValue e 114 none p1,.Constant (.str z) k p2] pos) (λ σ H Q=>te σ H λ x H1=>∃ y:Str,x=.str y/\(∀ c∈y.cps.toList,c < 16 ^ 8)/\y.length<=8000/\∀ r,Q (.str r) H1):=by
 constructor;intro pins s σ H Q I h;refine wpAny_JoinedStr ?_;rw[hev];refine wpAny_FormattedValue_repr (thn (he pins s σ H _ I h) λ u s1 ⟨x,H1,I1,r1,y,e1,hc,hl,q⟩=>?_);subst e1;obtain⟨t,rfl⟩:=r1;have hr:=PySem.StrLaws.reprText_len y hc;have hsz:(reprText y).length<=80002:=by lia
 have hs2:(80002:Nat)+1000<=sizeLine:=by decide
 refine wpAny_pyReprObj_str ?_ (by lia);refine formatField_str (λ t' tk=>?_) (by lia);have e0:(Str.empty++reprText y).length=(reprText y).length:=by rw[z0d];show 0+_=_;lia
 refine nx0 _ _ rfl (by rw[e0];lia) ?_;refine Calls.Constant_str (nx0 _ _ rfl (by rw[z0d,e0];lia) ?_);exact ⟨by rw[z0d,e0];lia,nx0 (.str _) H1 ((I1.tok _).tok _) ⟨_,rfl⟩ (q _)⟩
end
theorem c4p {prog:Program} {w:World} {A:Around} {s:Shared} {R:Result->Shared->Prop} {elt target iter:Expr} {ifs:List Expr} {scope:Scope} {pos:Pos} {it acc:Value} {env:Env} (I:Nat->Shared->Prop)
  (turn:∀ n s,I n s->wpAny (model prog w) A (pyNext it) (λ r s1=>(r=none/\R (.ok .next) s1)\/∃ v,r=some v/\wpAny (model prog w) A (letOwnedTupleGo target it v) (λ _ s2=>wpAny (model prog w) A (assign target env v) (λ _ s3 =>
   wpAny (model prog w) A (e0u ifs env) (λ ok s4=>if ok=true then wpAny (model prog w) A (eval elt env) (λ x s5=>wpAny (model prog w) A (call (.builtin "list.append") [acc,x]) (λ _ s6=>∃ m,m < n/\I m s6) (λ _ _=>False) s5) (notedBy (model prog w) A env λ e s'=>R (.error e) s') s4
    else ∃ m,m < n/\I m s4) (λ _ _=>False) s3) (λ _ _=>False) s2) (λ _ _=>False) s1) (λ _ _=>False) s)
  (n:Nat) (h:I n s):codeAny (model prog w) A (.compLoop (.ListComp elt [⟨target,iter,ifs,0⟩] scope pos) 0 it acc env) R s:=by
 have no:∀ {α:Type} {E:Value->Shared->Prop} {t:Sem α} {Q:α->Shared->Prop} {u:Shared},wpAny (model prog w) A t Q (λ _ _=>False) u->wpAny (model prog w) A t Q E u:=λ z=>z0j z (λ _ _ q=>q) λ _ _ q=>q.elim
 refine codeAny_loop rfl I (λ n s hI=>wpAny_noted ?_) n h;rw[compTurn_list];refine z00 (z2n (z00 (z0j (turn n s hI) (λ r s1 q=>?_) λ _ _ z=>z.elim)));rcases q with ⟨rfl,q⟩ | ⟨v,rfl,q⟩
 ·exact z05 q
 ·refine z00 (no (thn q λ _ s2 q2=>z00 (no (thn q2 λ _ s3 q3=>z00 (no (thn q3 λ ok s4 q4=>?_))))));cases ok with
  | false=>exact z05 ⟨rfl,q4⟩
  | true=>exact z00 (z00 (thn q4 λ x s5 q5=>z00 (no (thn q5 λ _ s6 q6=>z05 (z05 ⟨rfl,q6⟩)))))
def XEF (X:Cx) (scope:Scope) (N:List Str) (cl:List (Str×Addr)) (C:Addr) (s₀:Shared) (H₀:Hp) (ex:List Addr) (E1:XK):Value->Shared->Prop:=λ e s'=>∃ (pins:List (Addr×Obj)) (σ:L2.St) (H:Hp) (s:Shared),Inv (a0x X scope N cl C s₀ H₀ ex) pins σ H s/\CXW X.prog X.w X.stack H s E1 e s'
abbrev b3q (X:Cx) (scope:Scope) (N:List Str) (E1:XK) (cl:List (Str×Addr)) (C:Addr) (s₀:Shared) (H₀:Hp) (ex:List Addr):Cx:=(a0x X scope N cl C s₀ H₀ ex).wish (XEF X scope N cl C s₀ H₀ ex E1)
theorem c2p {X:Cx} {scope:Scope} {N:List Str} {cl:List (Str×Addr)} {C:Addr} {s₀:Shared} {H₀:Hp} {ex:List Addr} {E1:XK}:c1c (CXW X.prog X.w) (b3q X scope N E1 cl C s₀ H₀ ex) E1:=λ pins σ H s _ _ I h=> nx3 pins σ (nx12 H s I.unwish h)
section
variable {X:Cx} {pins:List (Addr×Obj)} {σ:L2.St} {H:Hp} {s:Shared} {scope:Scope} {fv:List Str} {js:List Nat} {N:List Str} {cl:List (Str×Addr)} {target iter elt:Expr} {ifs:List Expr} {pos:Pos} {g:TG} {tc:L2.TT} {te:TE} {E1:XK} {C:Addr} {ex:List Addr}
theorem d0c {R:Value->Shared->Prop} (I:Inv X pins σ H s) (hst:X.stack=X.env::X.outer) (hfr:X.env.frame=some X.env.locals) (hR:∀ e s',b8q X ex H s (some C) E1 e s'->R e s') :
  ∀ e s',XEF X scope N cl C s H ex E1 e s'->notedBy (model X.prog X.w) X.A (compEnvC scope cl C X.env) R e s':=by
 intro e s' h;obtain⟨pins',σ',HY,sY,IY,ea,cls,a0,B,H',d,rfl,os,bare,un,hok,fl,bk,n1,n2,⟨o0,ho0,hd0⟩,hE⟩:=h;have fl':=fl;rw[hst] at fl';have hfnn:∀ b∈frs X.stack,∃ o,s'.heap.get? b=some o/\∀ vs,o.data≠.fields vs:=λ b hb=>(fl.2.2.1.mem hb).2
 show wpAny _ _ (noteFrame (.ref ea) X.env) _ _ s';refine z0j (a2n (a4w _ _) (wpAny_looks_onW (Q:=λ _ s''=>∃ h4,s''={s' with heap:=h4}/\Heap.HeldW B (X.env::X.outer) ea cls a0 X.env.locals h4/\s'.heap.UpToSlots h4) (by rw[I.ok.frames,hst]) hfr fl' λ h4 x1 x2=>⟨h4,rfl,x1,x2⟩)) (λ _ s'' ⟨⟨h4,e4,held,sm4⟩,dk4⟩=>?_) λ _ _ z=>z.1
 subst e4;obtain⟨un4,hok4,bk4,_⟩:=c7x IY un hok bk held.1 sm4 hfnn;have IY4:Inv (a0x X scope N cl C s H ex) pins' σ' H' {s' with heap:=h4}:=IY.call' (s':={s' with heap:=h4}) os un4 hok4 bare (λ b z=>absurd z (by simp));obtain⟨m,hn,_⟩:=IY4.loc;obtain⟨o4,ho4,hd4⟩:=dk4 ea o0 ho0;rw[<-hst] at held;have bkX:∀ b o,h4.get? b=some o->((s.heap.get? b≠none/\b ∉ ex)\/H' b≠none)->b ∉ frs X.stack->B.get? b=some o:=λ b o e k n=>by
  refine bk4 b o e ?_ n;rcases k with ⟨k,nx⟩ | k
  ·left;cases q:s.heap.get? b with
   | none=>exact(k q).elim
   | some u =>
    obtain⟨u',e'⟩:=IY.base.there b u q nx;rw[e'];simp
  ·exact .inr k
 have new:s.heap.get? ea=none\/ea∈ex:=by
  by_cases hx:ea∈ex
  ·exact .inr hx
  ·left;cases q:s.heap.get? ea with
   | none=>rfl
   | some u =>
    obtain⟨u',e'⟩:=IY.base.there ea u q hx;rw[n2] at e';cases e'
 exact hR _ _ (nx3 ea cls (nx33 a0 B H' d rfl IY4.os IY4.bare IY4.base IY4.hok held bkX n1 ⟨new,⟨o4,ho4,hd4.1.trans hd0.1,hd0.2.imp (λ q=>hd4.2.trans q) id⟩,λ c z=>by cases z;exact⟨IY4.free,m,hn⟩,hE⟩))
theorem b2z {E:Value->Shared->Prop} {J:It} {fp:List Addr} {it:Addr} {tn:Nat->Heap->Prop} {Q:VK} {RR:Value->Env->Result->Shared->Prop} (tg:List Str) (I:Inv X pins σ H s) (hc:X.calm=true) (hst:X.stack=X.env::X.outer) (hfr:X.env.frame=some X.env.locals)
  (S:a6b X scope fv js) (T:e2l X.prog X.w X.K target J fp it tn) (st:tn 0 s.heap) (hf:∀ b∈fp,b6k X pins H b)
  (hg:∀ cl C s₀ H₀ ex,PG (a0x X scope (tg++fv) cl C s₀ H₀ ex) target g) (hi:∀ cl C s₀ H₀ ex,d3t (a0x X scope (tg++fv) cl C s₀ H₀ ex) ifs tc) (he:∀ cl C s₀ H₀ ex,PE (b3q X scope (tg++fv) E1 cl C s₀ H₀ ex) elt te) (q:b0e (b1c σ tg.length js) J g tc te Q H)
  (hRR:∀ D C H' s' m cenv,cenv.locals=C->cenv.frame=X.env.frame->s'.os=s.os->AllBare s'.gens->Un (frs X.stack) fp H H' s.heap s'.heap->HOk X.prog X.w H' s'.heap->s'.heap.Ns C m->H' C=none->s.heap.objs.size<=C->Q (.ref D) H'->RR (.ref D) cenv (.ok .next) s')
  (hRE:∀ D C e s' cenv,cenv.locals=C->cenv.frame=X.env.frame->s.heap.objs.size<=C->b8q X fp H s (some C) E1 e s'->RR (.ref D) cenv (.error e) s') :
  wpAny (model X.prog X.w) X.A (newList []) (λ acc s3=>wpAny (model X.prog X.w) X.A (newFunctionEnv scope X.env.globals (a4a X.env.cells scope.names []) [] X.env.qual none .none (some X.env)) (λ cenv s4 =>
   codeAny (model X.prog X.w) X.A (.compStart (.ListComp elt [⟨target,iter,ifs,0⟩] scope pos) 0 (.ref it) acc {cenv with scope:=relabel scope X.env}) (RR acc cenv) s4) E s3) E s:=by
 refine z4d (wpAny_newFunctionEnv S.cell (by intro y hy;simp at hy) (λ h1 hn k1=>?_) S.kind);dsimp only at hn k1 ⊢;generalize hg2:s.heap.push {cls:=.type "list",dict:=none,data:=.seq ([]:List Value).toArray}=g2 at hn k1 ⊢;have hC:g2.objs.size=s.heap.objs.size+1:=by rw[<-hg2,z3n]
 have hDC:s.heap.objs.size≠g2.objs.size:=by rw[hC];exact z0l (z4g _)
 have hle:s.heap.objs.size<=g2.objs.size:=by rw[hC];exact Nat.le_succ _
 have nD:s.heap.get? s.heap.objs.size=none:=z2u (z04 _);have nC:s.heap.get? g2.objs.size=none:=z2u hle;have old:∀ b o,s.heap.get? b=some o->h1.get? b=some o:=λ b o e=>k1.extBut b o (z0l (z0w (z09 e) hle)) (z0k _ (hg2 ▸ z0k _ e))
 have hl:h1.get? s.heap.objs.size=some {cls:=.type "list",data:=.seq #[]}:=k1.extBut _ _ hDC (z0k _ (hg2 ▸ z1a _ rfl));have ob:=T.obj 0 s.heap st;generalize hcl:a4a X.env.cells scope.names []=cl;have ok:(a0x X scope (tg++fv) cl g2.objs.size s H fp).Ok:=hcl ▸ c5z I S hle hf λ b hb=>let ⟨o,e,_⟩:=ob b hb;⟨o,e⟩
 have I0:Inv (a0x X scope (tg++fv) cl g2.objs.size s H fp) [] (b1c σ tg.length js) (upd H s.heap.objs.size (.lst [])) {s with heap:=h1,toks:=s.toks+([]:List (Str×Value)).length}:=by
  subst hcl;exact b5p I S ok old nD nC hDC hl hn
 have st1:tn 0 h1:=T.keep 0 _ _ st λ b _ o e=>old b o e
 obtain⟨W,⟨m0,w0⟩,turn⟩:=q _ (a3e I nD);have fpok:∀ {H':Hp} {ps:List (Addr×Obj)},(∀ p∈ps,p.1 ∉ fp)->(∀ b∈fp,H' b=none)->∀ b∈fp,b6k (a0x X scope (tg++fv) cl g2.objs.size s H fp) ps H' b:=λ hps hn b hb=>⟨hn b hb,(ok.exf b hb).1,ok.exfs b hb,.inl hb,(ok.exf b hb).2,λ p hp z=>hps p hp (z ▸ hb)⟩
 have loop:∀ cv:Env,cv.locals=g2.objs.size->cv.frame=X.env.frame->codeAny (model X.prog X.w) X.A (.compLoop (.ListComp elt [⟨target,iter,ifs,0⟩] scope pos) 0 (.ref it) (.ref s.heap.objs.size) (compEnvC scope cl g2.objs.size X.env)) (RR (.ref s.heap.objs.size) cv) {s with heap:=h1,toks:=s.toks+([]:List (Str×Value)).length}:=by
  intro cv c1 c2;refine c4p (λ n s'=>∃ i ys τ H',Inv (a0x X scope (tg++fv) cl g2.objs.size s H fp) [] τ H' s'/\tn i s'.heap/\(∀ b∈fp,H' b=none)/\W i n ys τ H') (λ n s' hI=>?_) m0 (nx39 0 ([]) _ _ I0 st1 (λ b hb=>?_) w0)
  ·obtain⟨i,ys,τ,H',I1,t1,f1,w1⟩:=hI;obtain⟨hD,w1⟩:=turn i n ys τ H' w1;rcases w1 with ⟨stop,qn⟩ | ⟨go,hz,step⟩
   ·refine thn (T.done (a0x X scope (tg++fv) cl g2.objs.size s H fp) rfl rfl rfl hc i [] s' τ H' _ I1 (fpok (by simp) f1) t1 stop) λ r s2 ⟨hr,I2⟩=>.inl ⟨hr,?_⟩
    obtain⟨m,hn2,_⟩:=I2.loc;exact hRR _ _ H' s2 m cv c1 c2 I2.os I2.bare I2.base I2.hok hn2 I2.free hle qn
   ·refine thn (T.item (a0x X scope (tg++fv) cl g2.objs.size s H fp) rfl rfl rfl hc i [] s' τ H' _ I1 (fpok (by simp) f1) t1 go) λ r s2 ⟨u,hr,h2⟩=>.inr ⟨u,hr,thn h2 λ _ s3 ⟨x,H3,I3,r3,y3,t3,f3⟩=>?_⟩
    have I3':=I3.pinned (fpok (by simp) f3) (T.obj _ _ t3);have back:∀ {s6:Shared} {τ4:L2.St} {H6:Hp},Inv (a0x X scope (tg++fv) cl g2.objs.size s H fp) ([]++b7r fp s3.heap) τ4 H6 s6->tn (i+1) s6.heap/\∀ b∈fp,H6 b=none:=λ I6 =>
     ⟨T.keep _ _ _ t3 λ b hb o e=>(I6.pin (b,o) (z0u _ (z0u _ (a5k hb e)))).1,λ b hb=>by
      obtain⟨o,e,_⟩:=T.obj _ _ t3 b hb;exact(I6.pin (b,o) (z0u _ (z0u _ (a5k hb e)))).2.1⟩
    refine thn ((hg _ _ _ _ _) _ s3 τ H3 x u _ I3' r3 (step x H3 y3)) λ _ s4 ⟨τ4,H4,I4,q4⟩=>?_
    refine thn ((hi _ _ _ _ _).run _ s4 τ4 H4 _ I4 q4) λ b s5 ⟨H5,I5,q5⟩=>?_
    cases b with
    | false =>
     obtain⟨m',hm,w5⟩:=(show ∃ m',m' < n/\W (i+1) m' ys τ4 H5 from q5);obtain⟨b1,b2⟩:=back I5;exact nx11 m' hm (i+1) _ τ4 _ I5.unpinned b1 b2 w5
    | true =>
     refine z0j ((he _ _ _ _ _) _ s5 τ4 H5 _ (I5.wish _) q5) (λ z s6 ⟨y,H6,I6w,r6,hD6,m',hm,w6⟩=>?_) (d0c I hst hfr λ e s' h=>hRE _ _ e s' cv c1 c2 hle h);have I6:=I6w.unwish;refine thn (b4c _ s6 τ4 H6 (.ref s.heap.objs.size) [y] (.ref s.heap.objs.size) [z] (λ _ H7=>H7=upd H6 s.heap.objs.size (.lst (ys++[y]))) I6 rfl (.cons r6 .nil) (nx2 _ ys y rfl rfl hD6 hz rfl)) λ _ s7 ⟨v7,H7,I7,_,e7⟩=>?_
     subst e7;obtain⟨b1,b2⟩:=back I7;exact nx11 m' hm (i+1) _ τ4 _ I7.unpinned b1 b2 w6
  ·obtain⟨o,e,_⟩:=ob b hb;rw[a0m (z0l (z09 e))];exact(hf b hb).1
 exact codeAny_compStart_list (loop _ rfl rfl) (T.self _ 0 _ _ _ st1 (loop _ rfl rfl))
def e2o (M:Model) (A:Around) (E:Value->Shared->Prop) (env:Env) (scope:Scope) (use:Option (Value->Sem Unit)) (Q:Value->Shared->Prop) (acc:Value) (cenv:Env) (r:Result) (s':Shared):Prop :=
 match r with
 | .ok f=>compPost M A E use Q acc cenv.locals (.ok f) s'
 | .error x=>∃ m,s'.heap.Ns cenv.locals m/\∀ h',Heap.SameBut cenv.locals s'.heap h'->wpAny M A (passOn "comprehension.variables-let-go" x {cenv with scope:=relabel scope env}:Sem Value) (λ _ _=>False) E {s' with heap:=h'}
theorem b6r {M:Model} {A:Around} {E:Value->Shared->Prop} {env:Env} {s:Shared} {e:Expr} {scope:Scope} {pos:Pos} {newAcc first:Sem Value} {g:Comprehension} {gs:List Comprehension} {cl:List (Str×Addr)} {use:Option (Value->Sem Unit)} {Q:Value->Shared->Prop}
  (hcl:clausesOf e=g::gs) (hs:∀ x,foldedSetIterable g.iter env x=pure x) (hclos:closureFor scope env=pure cl) (hkind:scope.kind=.function) (hnames:∀ x∈scope.names,x.2=.local->scope.names.lookup x.1=some .local)
  (h:wpAny M A first (λ x s₁=>wpAny M A (pyIter x) (λ it s₂=>wpAny M A newAcc (λ acc s₃=>wpAny M A (newFunctionEnv scope env.globals cl [] env.qual none .none (some env)) (λ cenv s₄ =>
    codeAny M A (.compStart e 0 it acc {cenv with scope:=relabel scope env}) (e2o M A E env scope use Q acc cenv) s₄) E s₃) E s₂) E s₁) E s) :
  wpAny M A (comprehension e scope env pos newAcc false first use) Q E s:=by
 unfold comprehension;rw[hclos,hcl];have id2:∀ e s',E e s'->E e s':=λ _ _ z=>z
 refine z00 (z0j h (λ x s₁ h₁=>?_) id2);refine z00 (z2n (z00 (wpAny_of_eq (hs x) (z00 (z18 (z0j h₁ (λ it s₂ h₂=>?_) id2))))));refine wpAny_standIf (z00 (z0j h₂ (λ acc s₃ h₃=>z00 (z05 (z00 (z0j h₃ (λ cenv s₄ h₄=>?_) id2)))) id2));dsimp only;have loc:∀ l:List (Str×NameKind),(∀ x∈l,x∈scope.names)->∀ x∈l,x.2=.local->Env.kindOf {cenv with scope:=relabel scope env} x.1=some .local:=λ l hl x hx e=>lookup_relabel_local (hnames x (hl x hx) e)
 have mem:∀ x∈(scope.names.filter λ x=>(x.2 == .local || x.2 == .cell) && x.1 != (".0":Str)).reverse,x∈scope.names:=λ x hx=>(z22.mp (List.mem_reverse.mp hx)).1
 refine z18 (z00 (wpAny_attempt (z18 (wpAny_run (z2m h₄ λ r s' hr=>?_)))));cases r with
 | ok f =>
  cases use with
  | none =>
   obtain⟨m,hn,hr⟩:=hr;exact z00 (z18 (wpAny_comp_letGo (cenv:={cenv with scope:=relabel scope env}) hkind _ s' m (loc _ mem) hn λ h' m' _ hs'=>z05 (hr h' hs')))
  | some u =>
   refine z00 (wpAny_rule (z00 (z18 (z0j hr (λ _ s'' hr'=>?_) id2))));obtain⟨m,hn,hr'⟩:=hr';refine z00 (wpAny_comp_letGo (cenv:={cenv with scope:=relabel scope env}) hkind _ s'' m (loc _ λ x hx=>?_) hn λ h' m' _ hs'=>z05 (hr' h' hs'));rcases z08.mp hx with z | z
   ·exact mem x (z4c z)
   ·exact mem x (z3i z)
 | error x =>
  obtain⟨m,hn,hr'⟩:=hr;cases use<;>exact z00 (z18 (wpAny_comp_letGo (cenv:={cenv with scope:=relabel scope env}) hkind _ s' m (loc _ mem) hn λ h' m' _ hs'=>z0j (hr' h' hs') (λ _ _ z=>z.elim) id2))
theorem e7k {E:XK} {fp:List Addr} {e:Value} {s':Shared} {cenv:Env} {C:Addr} (I:Inv X pins σ H s) (hf:∀ b∈fp,b6k X pins H b) (hst:X.stack=X.env::X.outer) (hfr:X.env.frame=some X.env.locals) (hex:X.ex=[])
  (hxe:∀ e s',wpAny (model X.prog X.w) X.A (leaving X.env e) (λ _ s''=>CXW X.prog X.w X.outer X.H₀ X.s₀ E e s'') (λ e' s''=>CXW X.prog X.w X.outer X.H₀ X.s₀ E e' s'') s'->X.xe e s')
  (c1:cenv.locals=C) (c2:cenv.frame=X.env.frame) (hC:s.heap.objs.size<=C) (hE:b8q X fp H s (some C) E e s') :
  ∃ m,s'.heap.Ns cenv.locals m/\∀ h',Heap.SameBut cenv.locals s'.heap h'->wpAny (model X.prog X.w) X.A (PySem.passOn "comprehension.variables-let-go" e {cenv with scope:=relabel scope X.env}:Sem Value) (λ _ _=>False) X.xe {s' with heap:=h'}:=by
 subst c1;have hE':=hE;obtain⟨ea,cls,a0,B,H',d,rfl,os,bare,un,hok,held,bk,n1,new,dd,hcc,_⟩:=hE';obtain⟨_,m,hn⟩:=hcc _ rfl;refine⟨m,hn,λ h' k=>?_⟩;have hG:=b8q.gone I hE hC k;have hG':=hG;obtain⟨ea2,cls2,a2,B2,H3,d2,ee,_,_,_,_,held2,_⟩:=hG';cases ee;exact b4v (c2.trans hfr) held2 (hxe _ _ (c7g I hf hst hfr hex hG))
theorem b4o {te:XK->TE} {E:XK} {wi:TI} (tg:List Str) (hc:X.calm=true) (hst:X.stack=X.env::X.outer) (hfr:X.env.frame=some X.env.locals) (hex:X.ex=[])
  (hxe:∀ e s',wpAny (model X.prog X.w) X.A (leaving X.env e) (λ _ s''=>CXW X.prog X.w X.outer X.H₀ X.s₀ E e s'') (λ e' s''=>CXW X.prog X.w X.outer X.H₀ X.s₀ E e' s'') s'->X.xe e s')
  (S:a6b X scope fv js) (hi:PI X target iter wi)
  (hg:∀ cl C s₀ H₀ ex,PG (a0x X scope (tg++fv) cl C s₀ H₀ ex) target g) (hf:∀ cl C s₀ H₀ ex,d3t (a0x X scope (tg++fv) cl C s₀ H₀ ex) ifs tc) (he:∀ E1 cl C s₀ H₀ ex,PE (b3q X scope (tg++fv) E1 cl C s₀ H₀ ex) elt (te E1)) (hs:∀ x,foldedSetIterable iter X.env x=pure x:=by intro _;rfl) :
  PE X (.ListComp elt [⟨target,iter,ifs,0⟩] scope pos) (b5m tg.length js wi g tc (te E)):=by
 constructor;intro pins s σ H Q I h;rw[eval_ListComp];refine b6r (use:=none) rfl hs (S.clos I.ok) S.kind S.names (thn (hi pins s σ H _ I h) λ v s1 h1=>thn h1 λ itv s2 h2=>?_);obtain⟨it,fp,tn,J,H2,rfl,I2,T,st2,f2,q⟩:=h2;refine b2z (RR:=λ acc cenv=>e2o (model X.prog X.w) X.A X.xe X.env scope none (EP X pins σ Q) acc cenv) tg I2 hc hst hfr S T st2 f2 hg hf (he E) q (λ D C H' s' m cenv c1 c2 os bare un hok hn nC hC qq=>?_) λ D C e s' cenv c1 c2 hC hE=>e7k I2 f2 hst hfr hex hxe c1 c2 hC hE
 subst c1;obtain⟨IX,fC⟩:=a9y I2 f2 os bare un hok nC hC;exact⟨m,hn,λ h' k=> nx0 (.ref D) H' (b8z IX fC k) rfl qq⟩
theorem c0i {te:XK->TE} {E:XK} {wi:TI} {i:Nat} {y:Str} {py spos:Pos} (tg:List Str) (hc:X.calm=true) (hst:X.stack=X.env::X.outer) (hfr:X.env.frame=some X.env.locals) (hex:X.ex=[])
  (hxe:∀ e s',wpAny (model X.prog X.w) X.A (leaving X.env e) (λ _ s''=>CXW X.prog X.w X.outer X.H₀ X.s₀ E e s'') (λ e' s''=>CXW X.prog X.w X.outer X.H₀ X.s₀ E e' s'') s'->X.xe e s')
  (hN:X.N.Nodup) (hy:X.N[i]?=some y) (hk:X.env.scope.names.lookup y=some .local) (S:a6b X scope fv js) (hi:PI X target iter wi)
  (hsw:swapsWith (.ListComp elt [⟨target,iter,ifs,0⟩] scope pos) (some (.Name y py)) spos.line X.env=pure true)
  (hg:∀ cl C s₀ H₀ ex,PG (a0x X scope (tg++fv) cl C s₀ H₀ ex) target g) (hf:∀ cl C s₀ H₀ ex,d3t (a0x X scope (tg++fv) cl C s₀ H₀ ex) ifs tc) (he:∀ E1 cl C s₀ H₀ ex,PE (b3q X scope (tg++fv) E1 cl C s₀ H₀ ex) elt (te E1)) (hs:∀ x,foldedSetIterable iter X.env x=pure x:=by intro _;rfl) :
  PS X (.Assign [.Name y py] (.ListComp elt [⟨target,iter,ifs,0⟩] scope pos) spos) (λ D σ H=>b5m tg.length js wi g tc (te E) σ H λ v H1=>D.nx (σ.set i (some v)) H1):=by
 constructor;intro pins s σ H D I h;rw[exec_Assign_Name_used _ _ _ _ hsw];refine z00 (z2n (z00 (z00 (z0j (Q:=λ _ s'=>SP X pins D .next s') (E:=X.xe) (b6r (use:=some (assign (.Name y py) X.env)) rfl hs (S.clos I.ok) S.kind S.names
  (thn (hi pins s σ H _ I h) λ v s1 h1=>thn h1 λ itv s2 h2=>?_)) (λ _ s' q=>z05 (z05 q)) λ _ _ z=>z))))
 obtain⟨it,fp,tn,J,H2,rfl,I2,T,st2,f2,q⟩:=h2;refine b2z (RR:=λ acc cenv=>e2o (model X.prog X.w) X.A X.xe X.env scope (some (assign (.Name y py) X.env)) (λ _ s'=>SP X pins D .next s') acc cenv) tg I2 hc hst hfr S T st2 f2 hg hf (he E) q (λ L C H' s' m cenv c1 c2 os bare un hok hn nC hC qq=>?_) λ L C e s' cenv c1 c2 hC hE=>e7k I2 f2 hst hfr hex hxe c1 c2 hC hE
 subst c1;obtain⟨IX,fC⟩:=a9y I2 f2 os bare un hok nC hC;refine wpAny_assign_Name (b4j IX hN hy (.inl hk) (v:=.ref L) rfl (λ s3 I3 ⟨a,k3,ha⟩=>?_) (.inr hk));have ne:cenv.locals≠a:=by
  rcases ha with z | z
  ·rw[z];exact fC.2.1
  ·exact λ w'=>fC.2.2.2.2.1 y a z w'.symm
 exact⟨m,hn.sameBut k3 ne,λ h' k=> nx12 _ H' (b8z I3 fC k) qq⟩
end
end My
namespace My
open PySem PySem.Spec PySem.W PyProof.Rows L2 PyProof PySem.SeqAt
structure b9f (k:Nat) (A:Around):Prop where
 dp:A.depth+3*k+5 < recursionLimit
 un:A.units+16*k+200 < cLine
theorem _root_.L2.Room.m (r:Room k A):b9f k (A.mark x):=⟨r.dp,r.un⟩
theorem b9f.units (r:b9f k A):A.units+64 < cLine:=by have:=r.un;lia
theorem b9f.depth (r:b9f k A):A.depth < recursionLimit:=by have:=r.dp;lia
theorem b9f.deeper (r:b9f (k+1) A) (env:Env):b9f k (A.deeper env) :=
 ⟨by have:=r.dp;show A.depth+1+3*k+5 < _;lia,by have:=r.un;show A.units+3+16*k+200 < _;lia⟩
structure e8q (P:Program) (w:World) (K:W.Frag) (mg:Str->Option Value) (base:Heap) (k:Nat) (f:Addr) (fd:FuncData) (ps:List Str) (sp:Sp):Prop where
 len:∀ vs H Q E,sp vs H Q E->vs.length=ps.length
 run:∀ (A:Around) (outer:List Env) (s:Shared) (H:Hp) (args:Args) (us:List Value) (vs:List V) (Q:VK) (E:XK),b9f k A->d8q P w K mg base A outer s H->BindsTo s fd args (ps.zip us)->a3b vs us->sp vs H Q E ->
  codeAny (model P w) A (.call (.ref f) args) (CR CX0 outer P w H s Q E) s
end My
namespace My
namespace Gs
open PySem PyProof.Rows
structure Cmp (prog:Program) (w:World) (A:Around) (E:Value->Shared->Prop) (s:Shared) where
 κ:SortKind
 gd:Keyed->Prop
 rk:Keyed->Int
 lt:∀ {st:SortSt} {p q:Keyed} {Q:Option Bool->SortSt->Prop},kindOf st=κ->gd p->gd q->Q (some (decide (rk p < rk q))) st->wpS (model prog w) A E s (lt' p q) Q st
section
variable {prog:Program} {w:World} {s:Shared} {A:Around} {E:Value->Shared->Prop} {C:Cmp prog w A E s}
abbrev Upk (C:Cmp prog w A E s) (l:List Keyed):Prop:=l.Pairwise λ x y=>C.rk x<=C.rk y
structure LInv (C:Cmp prog w A E s) (A B out:List Keyed) (ia ib:Nat):Prop where
 ha:ia<=A.length
 hb:ib<=B.length
 perm:out.Perm (A.take ia++B.take ib)
 up:Upk C out
 leA:∀ x∈out,∀ y∈A.drop ia,C.rk x<=C.rk y
 leB:∀ x∈out,∀ y∈B.drop ib,C.rk x<=C.rk y
structure HInv (C:Cmp prog w A E s) (A B tl:List Keyed) (na nb:Nat):Prop where
 ha:na<=A.length
 hb:nb<=B.length
 perm:tl.Perm (A.drop na++B.drop nb)
 up:Upk C tl
 leA:∀ x∈A.take na,∀ y∈tl,C.rk x<=C.rk y
 leB:∀ x∈B.take nb,∀ y∈tl,C.rk x<=C.rk y
structure Sb (C:Cmp prog w A E s) (a₀:Array Keyed) (pd:Array (Nat×Nat×Nat)) (lo:Nat) (xs:Array Keyed) (st:SortSt):Prop where
 perm:(arrOf st).Perm a₀
 kind:kindOf st=C.κ
 fail:failedOf st=none
 pend:pendingOf st=pd
 low:∀ k,k < lo->(arrOf st)[k]?=xs[k]?
section
variable {a₀ xs:Array Keyed} {pd:Array (Nat×Nat×Nat)} {lo:Nat} {st:SortSt}
theorem Sb.set (h:Sb C a₀ pd lo xs st) (p:ys.Perm (arrOf st)) (l:∀ k,k < lo->ys[k]?=(arrOf st)[k]?):Sb C a₀ pd lo xs (setArr st ys):=⟨p.trans h.perm,h.kind,h.fail,h.pend,λ k hk=>(l k hk).trans (h.low k hk)⟩
end
end
end Gs
end My
namespace My
open PySem PySem.Spec PySem.W PyProof.Rows L2 PyProof PySem.SeqAt
abbrev Eg:=Nk×Nk×Str×Option Int
def oV:Option Int->V
 | none=>.non
 | some i=>.int i
def EgV (H:Hp) (v:V) (k:Eg):Prop:=∃ p u1 u2,v=.ref p/\H p=some (.tup [u1,u2,.str k.2.2.1,oV k.2.2.2])/\NdV H u1 k.1/\NdV H u2 k.2.1
section
variable {X:Cx} {pins:List (Addr×Obj)} {σ:L2.St} {H:Hp} {s:Shared}
inductive e7a (H:Hp):List V->List Eg->Prop where
 | nil:e7a H [] []
 | cons {t b:Addr} {v:V} {k:Eg} {ws:List V} {ks:List Eg} (h:H t=some (.tup [.ref b,v])) (hb:EgV H (.ref b) k) (r:e7a H ws ks):e7a H (.ref t::ws) (k::ks)
end
end My
namespace My
open PySem PySem.Spec PyProof.Rows L2
section
variable {P:Program} {w:World}
inductive ZsV (h:Heap):Value->Obj->Prop where
 | list {l:Addr} {xs:Array Value} (e:h.IsList l xs):ZsV h (.ref l) {cls:=.type "list_iterator",data:=.fields #[.ref l,.int 0 0]}
end
inductive e8h (K:W.Frag) (H:Hp):V->It->Prop where
 | list {a:Addr} {xs:List V} (h:SqL K H a xs):e8h K H (.ref a) (Itl K a)
end My
namespace My
open PySem PySem.Spec PySem.W PyProof.Rows L2
section
variable {P:Program} {w:World} {K:Frag} {mg:Str->Option Value} {base h:Heap} {x q:Str} {st:Stmt} {ps:List Str} {fa:Addr}
def FnH (K:Frag) (x q:Str) (st:Stmt) (f:Addr):Prop:=∃ oc od an sl kV dc pm cd ct,K.lookup f=some ⟨oc,od,.func (fnOf x q (a4v st) (a3t st) (a0h st) .none kV dc pm an cd ct),sl⟩/\codeIn K cd q=true/\keepIn K (.ref f)=true
def FeH (K:Frag) (x:Str) (st:Stmt):Prop:=∃ f,nsIn K mainGlobals x=some (some (.ref f))/\FnH K x x st f
structure FmH (K:Frag) (C:Addr) (x q:Str) (st:Stmt) (f:Addr):Prop where
 m:e8d K C x f
 h:FnH K x q st f
theorem e3j {oc od an sl kV dc pm cd ct} (a:nsIn K mainGlobals x=some (some (.ref f))) (l:K.lookup f=some ⟨oc,od,.func (fnOf x x (a4v st) (a3t st) (a0h st) .none kV dc pm an cd ct),sl⟩) (c:codeIn K cd x=true) (k:keepIn K (.ref f)=true):FeH K x st :=
 nx38 f a _ _ _ (nx32 _ _ _ (nx29 _ _ _ l c k))
def Bnd (x q:Str) (st:Stmt) (ps:List Str):Prop:=∀ (kV doc pm:Value) (an:Option Addr) (cdv ct:Value) (us:List Value),us.length=ps.length->bindArgs (fnOf x q (a4v st) (a3t st) (a0h st) .none kV doc pm an cdv ct) ⟨us,[]⟩=pure (ps.zip us)
theorem FnH.fn (h:FnH K x q st f) (b:Bnd x q st ps):∃ d,Fun K x q st f d/\b1d K d ps []:=by
 obtain⟨_,_,_,_,_,_,_,_,_,l,c,k⟩:=h;exact⟨_,d8k l c k,(d8k l c k).binds b⟩
structure Fe (K:Frag) (mg:Str->Option Value) (x:Str) (st:Stmt) (ps:List Str):Prop where
 e:∃ f d,Fun K x x st f d/\b1d K d ps []/\mg x=some (.ref f)
structure Fm (K:Frag) (x q:Str) (st:Stmt) (ps:List Str) (f:Addr):Prop where
 e:∃ d,Fun K x q st f d/\b1d K d ps []
noncomputable def Fe.f (D:Fe K mg x st ps):Addr:=D.e.choose
noncomputable def Fe.d (D:Fe K mg x st ps):FuncData:=D.e.choose_spec.choose
theorem Fe.F (D:Fe K mg x st ps):Fun K x x st D.f D.d:=D.e.choose_spec.choose_spec.1
theorem Fe.b (D:Fe K mg x st ps):b1d K D.d ps []:=D.e.choose_spec.choose_spec.2.1
theorem Fe.m (D:Fe K mg x st ps):mg x=some (.ref D.f):=D.e.choose_spec.choose_spec.2.2
noncomputable def Fm.d {f:Addr} (D:Fm K x q st ps f):FuncData:=D.e.choose
theorem Fm.F (D:Fm K x q st ps f):Fun K x q st f D.d:=D.e.choose_spec.1
theorem FeH.fe (D:FeH K x st) (X:K.In h) (G:h.Ns mainGlobals mg) (b:Bnd x x st ps):Fe K mg x st ps :=
 let ⟨f,a,r⟩:=D
 let ⟨d,F,B⟩:=r.fn b
 ⟨f,d,F,B,mg_of X G a⟩
abbrev Fe.Ok (D:Fe K mg x st ps) (P:Program) (w:World) (base:Heap) (k:Nat) (sp:Sp):Prop:=b0w P w K mg base CX0 k D.f D.d ps sp
abbrev Fm.Ok {f:Addr} (D:Fm K x q st ps f) (mg:Str->Option Value) (P:Program) (w:World) (base:Heap) (k:Nat) (sp:Sp):Prop:=b0w P w K mg base CX0 k f D.d ps sp
def FdH (K:Frag) (x:Str) (st:Stmt):Prop:=∃ f oc od an sl kV dc pm cd ct dt dod dn dsl,nsIn K mainGlobals x=some (some (.ref f))/\K.lookup f=some ⟨oc,od,.func (fnOf x x (a4v st) (a3t st) (a0h st) (.ref dt) kV dc pm an cd ct),sl⟩/\codeIn K cd x=true/\keepIn K (.ref f)=true/\K.lookup dt=some ⟨.type "tuple",dod,.seq #[.none] dn,dsl⟩
def e7m (x:Str) (st:Stmt) (ps:List Str) (ds:List Value):Prop:=∀ (dV kV doc pm:Value) (an:Option Addr) (cdv ct:Value) (us:List Value),(us++ds).length=ps.length->∃ k:Option (Array Value)->Sem (List (Str×Value)),bindArgs (fnOf x x (a4v st) (a3t st) (a0h st) dV kV doc pm an cdv ct) ⟨us,[]⟩=(seqItems? dV>>=k)/\k (some #[.none])=pure (ps.zip (us++ds))
structure Fd (K:Frag) (mg:Str->Option Value) (x:Str) (st:Stmt) (ps:List Str):Prop where
 e:∃ f d,e7d K x x st f d/\b1d K d ps []/\b1d K d ps [.none]/\mg x=some (.ref f)
noncomputable def Fd.f (D:Fd K mg x st ps):Addr:=D.e.choose
noncomputable def Fd.d (D:Fd K mg x st ps):FuncData:=D.e.choose_spec.choose
theorem Fd.F (D:Fd K mg x st ps):e7d K x x st D.f D.d:=D.e.choose_spec.choose_spec.1
theorem FdH.fd (D:FdH K x st) (X:K.In h) (G:h.Ns mainGlobals mg) (b0:e7m x st ps []) (b1:e7m x st ps [.none]):Fd K mg x st ps:=by
 obtain⟨f,_,_,_,_,_,_,_,_,_,dt,_,_,_,a,l,c,k,t⟩:=D;exact⟨f,_,e1i l c k,λ s us XX hl=>b7h rfl t rfl XX (b0 _ _ _ _ _ _ _ us hl),λ s us XX hl=>b7h rfl t rfl XX (b1 _ _ _ _ _ _ _ us hl),mg_of X G a⟩
abbrev Fd.Ok (D:Fd K mg x st ps) (P:Program) (w:World) (base:Heap) (k:Nat) (sp:Sp):Prop:=b0w P w K mg base CX0 k D.f D.d ps sp
theorem okF {f:Addr} {d:FuncData} {N:List Str} {k:Nat} {sp:Sp} (F:Fun K x q st f d) (S:a0s N ps (a0h st)) (h:∀ (cdv:Value) (A:Around) (outer:List Env) (s:Shared) (H:Hp) (vs:List V) (Q:VK) (E:XK),Room k (A.deeper (envOfC q (a0h st) s.heap.objs.size f cdv))->sp vs H Q E ->
   ∃ t,PSs (b3s CX0 P w K mg base N q (a0h st) f cdv A outer s H E).nox (a3t st) t/\t {nx:=λ _ H'=>Q .non H',rt:=Q} (start N vs) H)
  (l:∀ vs H Q E,sp vs H Q E->vs.length=ps.length:=by intro vs H Q E h;repeat (first | (obtain⟨rfl,_⟩:=h;rfl) | (obtain⟨_,h⟩:=h))):b0w P w K mg base CX0 (k+1) f d ps sp:=F.ok S l h
theorem Fe.law (D:Fe K mg x st ps) (hfa:mg x=some (.ref fa)) (b:∀ kV doc pm an cdv ct v,bindArgs (fnOf x x (a4v st) (a3t st) (a0h st) .none kV doc pm an cdv ct) ⟨[v],[]⟩=pure [(p,v)]) (r:∀ base,D.Ok P w base k sp) :
  ∃ fd:FuncData,(∀ (s:Shared) (v:Value),BindsTo s fd ⟨[v],[]⟩ [(p,v)])/\∀ base:Heap,K.In base->base.Ns mainGlobals mg->b0w P w K mg base CX0 k fa fd ps sp:=by
 have e:=hfa.symm.trans D.m;cases e;refine⟨D.d,λ s v=>?_,λ base _ _=>r base⟩;obtain⟨_,_,_,_,_,_,_,_,_,e,_⟩:=D.F.ex;rw[e];exact .of_eq (b ..)
end
theorem fsc {N P:List Str} {sc:Scope} (a:sc.kind=.function:=by rfl) (b:sc.isCoroutine=false:=by rfl) (c:sc.isGenerator=false:=by rfl) (d:N.Nodup:=by decide +kernel) (e:N.take P.length=P:=by rfl) (f:∀ x∈P,sc.names.lookup x=some .local\/sc.names.lookup x=some .cell:=by decide +kernel) (g:∀ y∈sc.names,y.2≠.free:=by decide +kernel):a0s N P sc:=⟨a,b,c,d,e,f,g⟩
section
variable {X:Cx}
theorem pcF {x:Str} {st:Stmt} {ps:List Str} {k n:Nat} {sp:Sp} {p pos:Pos} {e:Expr} {es:List Expr} {t:TA} (D:Fe X.K X.mg x st ps) (F:b0w X.prog X.w X.K X.mg X.base CX0 k D.f D.d ps sp) (hr:Room n X.A) (ha:PA X (e::es) t) (h:k<=n:=by decide) (hg:Gl X x:=by rfl) (hdb:(x == ("__debug__":Str))=false:=by decide)
  (he:starEach (e::es) X.env=(false,eval e X.env)::starEach es X.env:=by rfl) (hpl:(backTo pos (starEach es X.env)).any (·.1)=false:=by rfl):PE X (.Call (.Name x p) (e::es) [] pos) (b8u sp [] E0 t):=a5s (F.mono h) hr hg D.m D.F.kp D.b .nil e3q ha hdb he hpl
theorem psx (i:Nat) {x:Str} {e:Expr} {te:TE} {pos pos':Pos} (hN:X.N.Nodup) (he:PE X e te) (hi:X.N[i]?=some x:=by rfl) (hx:Loc X.env.scope x:=by first | exact Or.inl rfl | exact Or.inr rfl) (hs:swapsWith e (some (.Name x pos')) pos.line X.env=pure false:=by rfl)
  (hf:X.fn x=true\/X.env.scope.names.lookup x=some .local:=by first | exact .inl rfl | exact .inr rfl | assumption):PS X (.Assign [.Name x pos'] e pos) (e5q te (c4s i)):=e4g hN hi hx he hs hf
theorem pgm (i:Nat) {x:Str} {pos:Pos} (hN:X.N.Nodup) (hi:X.N[i]?=some x:=by rfl) (hx:Loc X.env.scope x:=by first | exact Or.inl rfl | exact Or.inr rfl) (hf:X.fn x=true\/X.env.scope.names.lookup x=some .local:=by first | exact .inl rfl | exact .inr rfl | assumption):PG X (.Name x pos) (c4s i):=d2b hN hi hx hf
theorem pgn (i:Nat) {x:Str} {pos:Pos} (hi:X.N[i]?=some x:=by rfl) (hN:X.N.Nodup:=by first | (show [_].Nodup;decide +kernel) | (show [_,_].Nodup;decide +kernel) | (show [_,_,_].Nodup;decide +kernel) | (show [_,_,_,_].Nodup;decide +kernel) | (show [_,_,_,_,_].Nodup;decide +kernel) | (show [_,_,_,_,_,_].Nodup;decide +kernel) | (show [_,_,_,_,_,_,_].Nodup;decide +kernel))
  (hx:Loc X.env.scope x:=by first | exact Or.inl rfl | exact Or.inr rfl) (hf:X.fn x=true\/X.env.scope.names.lookup x=some .local:=by first | exact .inl rfl | exact .inr rfl | assumption):PG X (.Name x pos) (c4s i):=d2b hN hi hx hf
theorem pix {r:R2} {a b:Expr} {ta tb:TE} {pos:Pos} (hr:IxR X r) (ha:PE X a ta) (hb:PE X b tb) (hs:d1i b:=by exact λ _ _=>rfl):PE X (.Subscript a b pos) (tOp r ta tb):=e6z hr ha hb hs
section
variable {scope:Scope} {target iter elt:Expr} {ifs:List Expr} {pos:Pos} {g:TG} {tc:L2.TT} {te:TE} {wi:TI}
theorem csc (fv:List Str) (js:List Nat) (a:scope.kind=.function:=by rfl) (b:∀ q∈scope.names,q.2≠.cell:=by decide +kernel) (c:∀ q∈scope.names,q.2=.local->scope.names.lookup q.1=some .local:=by decide +kernel) (d:∀ q∈scope.names,q.2=.free->q.1∈fv:=by decide +kernel)
  (e:∀ x∈fv,X.env.kindOf x=some .cell\/X.env.kindOf x=some .free:=by repeat (first | exact d6q | refine d1v (by first | exact Or.inl rfl | exact Or.inr rfl) ?_)) (f:js.map (λ j=>X.N[j]?)=fv.map some:=by rfl) (h:∀ x∈fv,scope.names.lookup x=some .free:=by decide +kernel):a6b X scope fv js:=⟨a,b,c,d,e,f,h⟩
theorem pcf (tg fv:List Str) (js:List Nat) (hi:PI X target iter wi) (hg:∀ {cl C s₀ H₀ ex},PG (a0x X scope (tg++fv) cl C s₀ H₀ ex) target g) (hf:∀ {cl C s₀ H₀ ex},d3t (a0x X scope (tg++fv) cl C s₀ H₀ ex) ifs tc) (he:∀ {cl C s₀ H₀ ex},PE (a0x X scope (tg++fv) cl C s₀ H₀ ex) elt te)
  (S:a6b X scope fv js:=by exact csc _ _) (hc:X.calm=true:=by rfl) (hs:∀ x,foldedSetIterable iter X.env x=pure x:=by intro _;rfl):PE X (.ListComp elt [⟨target,iter,ifs,0⟩] scope pos) (b5m tg.length js wi g tc te):=d7k tg hc S hi (λ _ _ _ _ _=>hg) (λ _ _ _ _ _=>hf) (λ _ _ _ _ _=>he) hs
theorem psf (i:Nat) {y:Str} {py spos:Pos} (tg:List Str) (hN:X.N.Nodup) (fv:List Str) (js:List Nat) (hi:PI X target iter wi) (hg:∀ {cl C s₀ H₀ ex},PG (a0x X scope (tg++fv) cl C s₀ H₀ ex) target g) (hf:∀ {cl C s₀ H₀ ex},d3t (a0x X scope (tg++fv) cl C s₀ H₀ ex) ifs tc) (he:∀ {cl C s₀ H₀ ex},PE (a0x X scope (tg++fv) cl C s₀ H₀ ex) elt te)
  (S:a6b X scope fv js:=by exact csc _ _) (hc:X.calm=true:=by rfl) (hy:X.N[i]?=some y:=by rfl) (hk:X.env.scope.names.lookup y=some .local:=by rfl) (hw:swapsWith (.ListComp elt [⟨target,iter,ifs,0⟩] scope pos) (some (.Name y py)) spos.line X.env=pure true:=by rfl) (hs:∀ x,foldedSetIterable iter X.env x=pure x:=by intro _;rfl) :
  PS X (.Assign [.Name y py] (.ListComp elt [⟨target,iter,ifs,0⟩] scope pos) spos) (λ D σ H=>b5m tg.length js wi g tc te σ H λ v H1=>D.nx (σ.set i (some v)) H1):=d5r tg hc hN hy hk S hi hw (λ _ _ _ _ _=>hg) (λ _ _ _ _ _=>hf) (λ _ _ _ _ _=>he) hs
end
end
end My
namespace My
open PySem PySem.Spec PyProof.Rows L2
section
variable {X:Cx} {pins:List (Addr×Obj)} {σ:L2.St} {H:Hp} {s:Shared}
theorem e2i {E:XK} {k:Nat} {fa S Dc:Addr} {fd:FuncData} {ps:List Str} {sp:Sp} {fn c dn n y:Str} {i j:Nat} {a1 e₀:Expr} {as:List Expr} {t:TA} {te0:TE} {py pf cpos apos np dp dpos np2 rpos hpos pos:Pos}
  (F:b0w X.prog X.w X.K X.mg X.base (CXW X.prog X.w) k fa fd ps sp) (hr:Room k X.A) (hg:Gl X fn) (hm:X.mg fn=some (.ref fa)) (hkp:W.keepIn X.K (.ref fa)=true) (hb:b1d X.K fd ps []) (ha:PA X.nox (a1::as) t)
  (hst:X.stack=X.env::X.outer) (hfr:X.env.frame=some X.env.locals) (hex:X.ex=[])
  (hxe:∀ e s',wpAny (model X.prog X.w) X.A (leaving X.env e) (λ _ s''=>CXW X.prog X.w X.outer X.H₀ X.s₀ E e s'') (λ e' s''=>CXW X.prog X.w X.outer X.H₀ X.s₀ E e' s'') s'->X.xe e s')
  (T:e2u X.K X.mg c S) (hgc:Gl X c) (TD:e4c X.K X.mg dn Dc) (clD:c0x X.K Dc) (kpD:W.keepIn X.K (.ref Dc)=true) (hgd:Gl X dn) (hN:X.N.Nodup) (hy:X.N[i]?=some y) (hx:Loc X.env.scope y) (hj:X.N[j]?=some n) (hxn:X.env.scope.names.lookup n=some .local) (hfn:X.fn y=true)
  (he0:∀ ea,PE (b0d X ea) e₀ te0)
  (hdb:(fn == ("__debug__":Str))=false:=by decide) (hdc:(c == ("__debug__":Str))=false:=by decide) (hdd:(dn == ("__debug__":Str))=false:=by decide) (hdn:(n == ("__debug__":Str))=false:=by decide) (he:starEach (a1::as) X.env=(false,eval a1 X.env)::starEach as X.env:=by rfl) (hpl:(backTo cpos (starEach as X.env)).any (·.1)=false:=by rfl)
  (hsw:swapsWith (.Call (.Name fn pf) (a1::as) [] cpos) (some (.Name y py)) apos.line X.env=pure false:=by rfl) (hs:starEach [e₀] X.env=[(false,eval e₀ X.env)]:=by rfl) :
  PS X (.Try [.Assign [.Name y py] (.Call (.Name fn pf) (a1::as) [] cpos) apos] [.ExceptHandler (some (.Name c np)) (some n) [.Raise (some (.Call (.Name dn dp) [e₀] [] dpos)) (some (.Name n np2)) rpos] hpos] [] [] pos)
   (λ D σ H=>t σ H λ vs H1=>sp vs H1 (λ v H2=>D.nx (σ.set i (some v)) H2) (e3w X.K S Dc j te0 E σ)):=by
 constructor;intro pins s σ H D I h;refine wpAny_Try_except (z42 (wpAny_Assign_Name (z2o (a9g I hg hm ?_ hdb)) hsw));refine z52 (h₀:=X.base) I.ok.mod.kin hkp (z0j (ha cpos pins s σ H _ (I.wish _) h) (λ us s1 ⟨vs,H1,I1w,r,q⟩=>⟨I1w.kIn,?_⟩) λ _ _ z=>z.elim) he hpl;have I1:Inv X pins σ H1 s1:=I1w.unwish;have hl:us.length=ps.length:=by rw[<-r.length];exact F.len _ _ _ _ q
 have hbb:=hb s1 us I1.kIn (by rw[z1e];exact hl);rw[z1e] at hbb;refine wpAny_call (z2m (F.run X.A X.stack s1 H1 ⟨us,[]⟩ us vs _ _ hr I1.env0 hbb r q) λ res s' hq=>?_);cases res with
 | ok fl =>
  cases fl with
  | ret u =>
   obtain⟨v,H2,I2,r2,q2⟩:=I1.after hq;exact a9r I2 hN hy hx r2 (λ s3 I3=>z2z (z2z (nx12 _ H2 I3 q2))) (.inl hfn)
  | next=>exact False.elim hq
  | brk=>exact False.elim hq
  | cont=>exact False.elim hq
 | error e =>
  obtain⟨ea,cls,a0,B,H',d,rfl,os,bare,un,hok,fl,bk,n1,n2,⟨o0,ho0,hd0⟩,hE⟩:=hq;have fl':=fl;rw[hst] at fl';have hfnn:∀ b∈frs X.stack,∃ o,s'.heap.get? b=some o/\∀ vs,o.data≠.fields vs:=λ b hb=>(fl.2.2.1.mem hb).2
  refine z0j (a2n (a4w _ _) (wpAny_looks_onW (Q:=λ _ s''=>∃ h4,s''={s' with heap:=h4}/\Heap.HeldW B (X.env::X.outer) ea cls a0 X.env.locals h4/\s'.heap.UpToSlots h4) (by rw[I1.ok.frames,hst]) hfr fl' λ h4 x1 x2=>⟨h4,rfl,x1,x2⟩)) (λ _ s'' ⟨⟨h4,e4,held,sm4⟩,dk4⟩=>?_) λ _ _ z=>z.1
  subst e4;obtain⟨un4,hok4,bk4,_⟩:=c7x I1 un hok bk held.1 sm4 hfnn;obtain⟨o4,ho4,hd4⟩:=dk4 ea o0 ho0;rw[<-hst] at held;exact d6o (fp:=[]) I1 (λ b z=>absurd z (by simp)) hst hfr hex hxe T hgc TD clD kpD hgd hN hj hxn he0
   (nx3 ea cls (nx33 a0 B H' d rfl os bare un4 hok4 held (λ b o e q nb=>bk4 b o e (q.imp (λ q=>q.1) id) nb) n1 ⟨.inl n2,⟨o4,ho4,hd4.1.trans hd0.1,hd0.2.imp (λ q=>hd4.2.trans q) id⟩,λ c z=>(by cases z),hE⟩)) hdc hdd hdn hs
end
def b6e:V->Bool
 | .non=>true
 | _=>false
def e0j (K:W.Frag) (H:Hp) (y:V):Prop:=y=.non\/(∃ i:Int,y=.int i)\/(∃ x:Str,y=.str x)\/∃ (a:Addr) (zs:List V),y=.ref a/\(SqL K H a zs\/SqT K H a zs)
def e0x (K:W.Frag):R2:=λ x y H Q=>∃ (l:Addr) (xs:List V),x=.non/\y=.ref l/\SqL K H l xs/\(∀ y∈xs,e0j K H y)/\Q (.bl (xs.any b6e)) H
def c2k:Value->Bool
 | .none=>true
 | _=>false
theorem b1i {X:Cx} {K:W.Frag} (hu:X.A.units+16 < cLine) (hK:X.K=K):OpR X (compareOp .In) (e0x K):=by
 subst hK;intro pins s σ H x y v u Q I rx ry h;obtain⟨l,xs,rfl,rfl,hl,hk,q⟩:=h;cases rx;cases ry;obtain⟨its,rv,pl,_⟩:=I.list hl;refine SeqAt.in_listAt c2k pl.isList (λ w hw=>?_) ?_
 ·obtain⟨i,hi⟩:=List.mem_iff_getElem?.mp (by simpa using hw);obtain⟨x',ex,rx⟩:=a9e rv hi;rcases hk x' (z0h ex) with rfl | ⟨n,rfl⟩ | ⟨n,rfl⟩ | ⟨a,zs,rfl,hs | hs⟩
  ·cases rx;exact SeqAt.EqAt.same _
  ·obtain⟨t,rfl⟩:=rx;exact SeqAt.EqAt.int_none n t
  ·obtain⟨t,rfl⟩:=rx;exact SeqAt.EqAt.str_none n t
  ·cases rx;obtain⟨_,_,p2,_⟩:=I.list hs;exact SeqAt.EqAt.list_none p2.isList (show X.A.units+1 < cLine by lia)
  ·cases rx;obtain⟨_,_,p2,_⟩:=I.tuple hs;exact SeqAt.EqAt.tuple_none p2 (show X.A.units+1 < cLine by lia)
 ·refine nx0 (.bl _) H I rfl ?_;have e:∀ {xs:List V} {us:List Value},a3b xs us->us.any c2k=xs.any b6e:=λ {xs us} r=>by
   induction r with
   | nil=>rfl
   | @cons y u _ _ r _ ih =>
    rw[z2d,z2d,ih];have:c2k u=b6e y:=by
     cases y with
     | non=>cases r;rfl
     | bl b=>cases r;rfl
     | int i=>obtain⟨t,rfl⟩:=r;rfl
     | str z=>obtain⟨t,rfl⟩:=r;rfl
     | ref a=>cases r;rfl
     | byt z=>obtain⟨t,rfl⟩:=r;rfl
     | flt z=>obtain⟨t,rfl⟩:=r;rfl
     | ty a=>cases r;rfl
    rw[this]
  rw[show its.toArray.any c2k=its.any c2k by simp,e rv];exact q
def OTr (H:Hp) (v:V):Option PyData->Prop
 | none=>v=.non
 | some d=>Tr H v d
theorem OTr.same {H H':Hp} (s:Same H H') {v:V} {o:Option PyData} (h:OTr H v o):OTr H' v o:=by
 cases o with
 | none=>exact h
 | some d=>exact Tr.same s h
theorem OTr.ok {K:W.Frag} {H:Hp} {v:V} {o:Option PyData} (h:OTr H v o):e0j K H v/\b6e v=o.isNone:=by
 cases o with
 | none=>cases h;exact⟨.inl rfl,rfl⟩
 | some d =>
  cases (show Tr H v d from h) with
  | int i=>exact⟨.inr (.inl ⟨i,rfl⟩),rfl⟩
  | str x=>exact⟨.inr (.inr (.inl ⟨x,rfl⟩)),rfl⟩
  | lst e _=>exact⟨.inr (.inr (.inr (nx12 _ _ rfl (.inl (SqL.of e))))),rfl⟩
  | tup e _=>exact⟨.inr (.inr (.inr (nx12 _ _ rfl (.inr (SqT.of e))))),rfl⟩
theorem a2x {H H':Hp} (s:Same H H'):∀ {xs:List V} {os:List (Option PyData)},Paired (OTr H) xs os->Paired (OTr H') xs os
 | _,_,.nil=>.nil
 | _,_,.cons h r=>.cons (h.same s) (a2x s r)
theorem b4r {K:W.Frag} {H:Hp}:∀ {xs:List V} {os:List (Option PyData)},Paired (OTr H) xs os->(∀ y∈xs,e0j K H y)/\xs.any b6e=os.any Option.isNone
 | _,_,.nil=>⟨(λ _ h=>by cases h),rfl⟩
 | _,_,.cons h r=>by
  obtain⟨a,b⟩:=b4r (K:=K) r;obtain⟨c,d⟩:=h.ok (K:=K);refine⟨λ y hy=>(z06.mp hy).elim (λ z=>z ▸ c) (a y),?_⟩;rw[z2d,z2d,d,b]
theorem b1n {H:Hp}:∀ {xs:List V} {ds:List PyData},Paired (OTr H) xs (ds.map some)->Trs H xs ds
 | _,[],.nil=>.nil
 | _,_::_,.cons h r=>.cons h (b1n r)
def d7m (z y:Str):Int:=match Builtin.Str.occurrences z y 0 z.length 1 with
 | i::_=>(i:Int)
 | []=>-1
theorem b8c {X:Cx}:MtR X "str.find" (λ x xs H Q=>∃ z y:Str,x=.str z/\xs=[V.str y]/\Q (.int (d7m z y)) H):=λ pins s σ H x xs v us Q I rx rv h=>e1k pins s σ H x xs v us Q I rx rv h
theorem e5k {α:Type} {σ0 fs:L2.St} {k:Nat} {K:W.Frag} {l:Addr} {xs:List V} {g:TG} {te:TE} {Q:VK} {H1:Hp} (as:List α) (dx:α->PyData) (dy:α->Option PyData) (h0:σ0=List.replicate k none++fs) (hl:H1 l=some (.lst xs)) (ht:Trs H1 xs (as.map dx)) (hz:as.length<=sizeLine)
  (step:∀ a,a∈as->∀ H (ts:L2.St) v (R:V->L2.St->Hp->Prop),Same H1 H->ts.length=k->Tr H v (dx a)->(∀ y (ts2:L2.St) H3,ts2.length=k->Same H H3->OTr (off H H3) y (dy a)->R y (ts2++fs) H3)->g v (ts++fs) H λ τ2 H2=>te τ2 H2 λ y H4=>R y τ2 H4)
  (fin:∀ D H' ys,H1 D=none->Same H1 H'->H' D=some (.lst ys)->Paired (OTr (off H1 H')) ys (as.map dy)->Q (.ref D) H'):b0e σ0 (Itl K l) g e7b te Q H1:=by
 have hn:xs.length=as.length:=by rw[ht.len,z03]
 intro D hD;refine⟨λ i m ys τ H=>m=as.length - i/\i<=as.length/\ys.length=i/\Paired (OTr (b0q (off H1 H) D)) ys ((as.take i).map dy)/\(∃ ts:L2.St,ts.length=k/\τ=ts++fs)/\Same H1 H/\H D=some (.lst ys),⟨as.length,rfl,z0x _,rfl,.nil,⟨_,z3e,h0⟩,Same.upd hD,a0c⟩,?_⟩;rintro i m ys τ H ⟨rfl,hi,hyl,hp,⟨ts,hts,rfl⟩,ss,hd⟩;refine⟨hd,?_⟩;by_cases hlt:i < as.length
 ·refine .inr ⟨(a1s (SqL.of (ss _ _ hl))).go i (by lia),by lia,?_⟩;rintro v H' ⟨rfl,yy⟩;have e:=yy xs (SqL.of (ss _ _ hl));obtain⟨d,hde,tr⟩:=ht.get e;have ea:=z0c hlt;rw[z0f,ea] at hde;cases hde;refine step as[i] (z1k hlt) H' ts v (λ y τ2 H3=>H3 D=some (.lst ys)/\∃ m',m' < as.length - i/\m'=as.length - (i+1)/\i+1<=as.length/\(ys++[y]).length=i+1/\Paired (OTr (b0q (off H1 (upd H3 D (.lst (ys++[y])))) D)) (ys++[y]) ((as.take (i+1)).map dy)/\(∃ ts:L2.St,ts.length=k/\τ2=ts++fs)/\Same H1 (upd H3 D (.lst (ys++[y])))/\upd H3 D (.lst (ys++[y])) D=some (.lst (ys++[y]))) ss hts (tr.same ss) λ y ts2 H3 h2 s3 tr3=>?_
  refine⟨s3 _ _ hd,as.length - (i+1),by lia,rfl,hlt,(by rw[z0r,hyl];rfl),?_,⟨ts2,h2,rfl⟩,(ss.trans s3).again hD,a0c⟩;rw[z1m,ea,z0m];have z1:Same (b0q (off H1 H') D) (b0q (off H1 (upd H3 D (.lst (ys++[y])))) D):=λ b o e=>a5t (a3g e).1 (a1v (a1b (a3g e).2).1 (by rw[a0m (a3g e).1];exact s3 _ _ (a1b (a3g e).2).2))
  have z2:Same (off H' H3) (b0q (off H1 (upd H3 D (.lst (ys++[y])))) D):=λ b o e=>by
   have hb:b≠D:=λ z=>by rw[z] at e;rw[(a1b e).1] at hd;cases hd
   exact a5t hb (a1v (a1b (a5i ss _ _ e)).1 (by rw[a0m hb];exact(a1b e).2))
  exact a8g (a2x z1 hp) (tr3.same z2)
 ·have e:i=as.length:=by lia
  subst e;rw[z16] at hp;exact .inl ⟨(a1s (SqL.of (ss _ _ hl))).stop _ (by lia),fin D H ys hD ss hd (a2x b3v hp)⟩
end My
namespace Lw
open PySem PySem.Spec PyProof.Rows L2 My PySem.NumText
set_option maxHeartbeats 4000000
def top (i:Nat):Stmt:=PySem.Challenge.pw_skewhouse_k53_histories_refused.main.body.getD i (.Pass ⟨0,0,0,0⟩)
set_option genInjectivity false in
set_option genSizeOf false in
open PySem.W in
structure Tx (K:Frag) (mg:Str->Option Value) where
 a4o:Fe K mg "is_written_number" (top 9) ["text"]
 a1m:Fe K mg "number_of" (top 10) ["text"]
 a6f:Fe K mg "written" (top 11) ["number"]
 b5e:Fe K mg "is_level" (top 12) ["word"]
 b2o:Fe K mg "show_pair" (top 17) ["pair"]
 b2s:Fe K mg "show_look" (top 18) ["look"]
 b2w:Fe K mg "show_deal" (top 19) ["deal"]
 b2v:Fe K mg "show_make" (top 20) ["made"]
 a7m:Fe K mg "show_history" (top 21) ["past"]
 a5n:Fe K mg "read_pair" (top 22) ["text"]
 a5j:Fe K mg "read_look" (top 23) ["text"]
 a5q:Fe K mg "read_deal" (top 24) ["row"]
 a5o:Fe K mg "read_make" (top 25) ["row"]
 a5l:Fe K mg "read_rows" (top 26) ["text"]
 c2o:Fe K mg "rise" (top 27) ["numbers"]
 b2j:Fe K mg "is_source" (top 28) ["source","key","number","makers"]
 b8o:Fe K mg "is_look" (top 29) ["look","number","makers"]
 b9w:Fe K mg "is_deal" (top 30) ["deal","makers"]
 b8e:Fe K mg "is_make" (top 31) ["made","numbers"]
 b0k:Fe K mg "is_history" (top 32) ["past"]
 a3n:Fe K mg "read_history" (top 33) ["text"]
 a2v:Fe K mg "_law_mixed" (top 35) ["_law_cell_here","_law_k"]
 b0s:Fe K mg "_law_cell" (top 36) ["_law_script","_law_k"]
 b1b:Fe K mg "_law_spots" (top 37) ["_law_word","_law_looks"]
 c0a:Fe K mg "_law_place" (top 38) ["_law_word","_law_k"]
 b9d:Fe K mg "_law_first" (top 39) ["_law_word","_law_looks"]
 a8f:Fe K mg "_law_drawn_deals" (top 40) ["_law_script","_law_word"]
 a7x:Fe K mg "_law_drawn_order" (top 41) ["_law_script","_law_deals"]
 c4z:Fe K mg "_law_keys" (top 42) ["_law_cell_here"]
 c2y:Fe K mg "_law_look" (top 43) ["_law_keys_here","_law_last","_law_number_here","_law_strange"]
 c4l:Fe K mg "_law_kept" (top 44) ["_law_number_here","_law_word","_law_mask","_law_state"]
 c3m:Fe K mg "_law_past" (top 45) ["_law_script","_law_deals","_law_order"]
 a4t:Fe K mg "_law_same" (top 46) ["_law_found","_law_due_here"]
 a5y:Fe K mg "_law_number" (top 47) ["_law_text_here"]
 b4q:Fe K mg "_law_look_of" (top 48) ["_law_text_here"]
 b5g:Fe K mg "_law_deal_of" (top 49) ["_law_row"]
 b5r:Fe K mg "_law_make_of" (top 50) ["_law_row"]
 b4f:Fe K mg "_law_rise" (top 51) ["_law_numbers"]
 a9c:Fe K mg "_law_is_history" (top 52) ["_law_deals","_law_makes"]
 c9v:Fe K mg "_law_due" (top 53) ["_law_text_here"]
 c2v:Fe K mg "_law_sign" (top 54) ["_law_cell_here"]
 b5o:Fe K mg "_law_odd_row" (top 55) ["_law_number_here"]
 b0m:Fe K mg "_law_with_rows" (top 56) ["_law_text_here","_law_way","_law_number_here"]
 b2i:Fe K mg "_law_spoiled" (top 57) ["_law_text_here","_law_way","_law_number_here"]
 c3p:Fe K mg "_law_pair" (top 58) ["_law_key","_law_source"]
 c3z:Fe K mg "_law_text" (top 59) ["_law_past_here"]
 b2d:Fe K mg "_law_of_looks" (top 60) ["_law_past_here","_law_way","_law_number_here"]
 b2g:Fe K mg "_law_of_makes" (top 61) ["_law_past_here","_law_way","_law_number_here"]
 d9t:Fe K mg "law" (top 62) ["_law_script"]
 b0y:Addr
 e1u:mg "SkewError"=some (.ref b0y)
 a1i:Addr
 c7y:mg "NoNumber"=some (.ref a1i)
 a4q:Addr
 c3a:mg "NoProgram"=some (.ref a4q)
 a1t:Addr
 c3c:mg "NoHistory"=some (.ref a1t)
 b7m:e4c K mg "NoNumber" a1i
 b0j:e4c K mg "NoHistory" a1t
 b3c:d3n K a1t
 c1l:keepIn K (.ref a1t)=true
 e6a:subIn K (.ref a1i) (.ref a1i)=some true
 e7f:subIn K (.ref a1t) (.ref b0y)=some true
 c0z:e2u K mg "SkewError" b0y
 c4y:e2u K mg "NoNumber" a1i
 a8u:e2r K a1t a1t true
 a9j:e2r K a1t a1i false
 a8s:e2r K a1t a4q false
 d2d:Tok
 c9z:mg "FIGURES"=some (.str "0123456789" d2d)
 b6g:Tok
 b6n:mg "MOST_FIGURES"=some (.int (30) b6g)
 a5h:Addr
 b8f:mg "LEVEL_WORDS"=some (.ref a5h)
 b8d:∀ H:Hp,SqT K H a5h [V.str "loose",V.str "kept",V.str "make",V.str "watch",V.str "hold"]
 d9y:Tok
 e2g:mg "START"=some (.int (0) d9y)
 d6n:Tok
 b8h:mg "UNKEPT"=some (.int (-1) d6n)
 c1g:Tok
 c2i:mg "MOST_DEALS"=some (.int (8) c1g)
 e1a:mg "abs"=none
 b9e:mg "all"=none
 d3o:mg "bool"=none
 c6b:mg "dict"=none
 c1u:mg "int"=none
 a1q:mg "isinstance"=none
 a4f:mg "len"=none
 b7l:mg "list"=none
 d5u:mg "max"=none
 a4e:mg "range"=none
 b2u:mg "reversed"=none
 e0o:mg "set"=none
 b4b:mg "str"=none
 b5n:mg "tuple"=none
 d4t:mg "zip"=none
theorem a6j:a0s ["text","figures"] ["text"] (a0h (top 9)):=fsc
theorem c3w:a0s ["text"] ["text"] (a0h (top 10)):=fsc
theorem a7d:a0s ["number","rest","parts","sign"] ["number"] (a0h (top 11)):=fsc
theorem c8n:a0s ["word"] ["word"] (a0h (top 12)):=fsc
theorem b4l:a0s ["pair","source"] ["pair"] (a0h (top 17)):=fsc
theorem c4v:a0s ["look"] ["look"] (a0h (top 18)):=fsc
theorem b4i:a0s ["deal","head"] ["deal"] (a0h (top 19)):=fsc
theorem c4o:a0s ["made"] ["made"] (a0h (top 20)):=fsc
theorem b5z:a0s ["past"] ["past"] (a0h (top 21)):=fsc
theorem b0u:a0s ["text","halves","source"] ["text"] (a0h (top 22)):=fsc
theorem c3v:a0s ["text"] ["text"] (a0h (top 23)):=fsc
theorem a7n:a0s ["row","halves","head","looks"] ["row"] (a0h (top 24)):=fsc
theorem b0n:a0s ["row","halves","key"] ["row"] (a0h (top 25)):=fsc
theorem a7q:a0s ["text","rows","deals","makes"] ["text"] (a0h (top 26)):=fsc
theorem e2p:a0s ["numbers"] ["numbers"] (a0h (top 27)):=fsc
theorem c4m:a0s ["source","key","number","makers"] ["source","key","number","makers"] (a0h (top 28)):=fsc
theorem d1r:a0s ["look","number","makers"] ["look","number","makers"] (a0h (top 29)):=fsc
theorem c0o:a0s ["deal","makers","in_bounds"] ["deal","makers"] (a0h (top 30)):=fsc
theorem c2m:a0s ["made","numbers","each_once"] ["made","numbers"] (a0h (top 31)):=fsc
theorem a9d:a0s ["past","numbers","makers"] ["past"] (a0h (top 32)):=fsc
theorem b0f:a0s ["text","past","refusal"] ["text"] (a0h (top 33)):=fsc
theorem c0m:a0s ["_law_cell_here","_law_k","_law_number_here"] ["_law_cell_here","_law_k"] (a0h (top 35)):=fsc
theorem d4b:a0s ["_law_script","_law_k"] ["_law_script","_law_k"] (a0h (top 36)):=fsc
theorem d2w:a0s ["_law_word","_law_looks"] ["_law_word","_law_looks"] (a0h (top 37)):=fsc
theorem c9n:a0s ["_law_word","_law_k"] ["_law_word","_law_k"] (a0h (top 38)):=fsc
theorem d1a:a0s ["_law_word","_law_looks"] ["_law_word","_law_looks"] (a0h (top 39)):=fsc
theorem a1o:a0s ["_law_script","_law_word","_law_first_here","_law_many","_law_shift","_law_most","_law_deals","_law_k","_law_own","_law_number_here"] ["_law_script","_law_word"] (a0h (top 40)):=fsc
theorem a1p:a0s ["_law_script","_law_deals","_law_gone","_law_total","_law_number_here","_law_word","_law_looks","_law_order","_law_j","_law_going"] ["_law_script","_law_deals"] (a0h (top 41)):=fsc
theorem b3k:a0s ["_law_cell_here","_law_base","_law_step"] ["_law_cell_here"] (a0h (top 42)):=fsc
theorem b1t:a0s ["_law_keys_here","_law_last","_law_number_here","_law_strange","_law_look_here","_law_k","_law_source"] ["_law_keys_here","_law_last","_law_number_here","_law_strange"] (a0h (top 43)):=fsc
theorem c6n:a0s ["_law_number_here","_law_word","_law_mask","_law_state","_law_k"] ["_law_number_here","_law_word","_law_mask","_law_state"] (a0h (top 44)):=fsc
theorem a2k:a0s ["_law_script","_law_deals","_law_order","_law_keys_here","_law_state","_law_seen","_law_known","_law_number_here","_law_word","_law_looks","_law_j","_law_place_here","_law_cell_here","_law_k","_law_look_here","_law_makes"] ["_law_script","_law_deals","_law_order"] (a0h (top 45)):=fsc
theorem b9h:a0s ["_law_found","_law_due_here","_law_one","_law_other"] ["_law_found","_law_due_here"] (a0h (top 46)):=fsc
theorem a9m:a0s ["_law_text_here","_law_figures","_law_sign_here"] ["_law_text_here"] (a0h (top 47)):=fsc
theorem a4u:a0s ["_law_text_here","_law_look_here","_law_part","_law_at","_law_key","_law_source"] ["_law_text_here"] (a0h (top 48)):=fsc
theorem a5p:a0s ["_law_row","_law_at","_law_words","_law_number_here","_law_looks"] ["_law_row"] (a0h (top 49)):=fsc
theorem a9x:a0s ["_law_row","_law_at","_law_numbers","_law_key"] ["_law_row"] (a0h (top 50)):=fsc
theorem c6p:a0s ["_law_numbers","_law_k"] ["_law_numbers"] (a0h (top 51)):=fsc
theorem a1j:a0s ["_law_deals","_law_makes","_law_numbers","_law_made","_law_key","_law_makers","_law_k","_law_number_here","_law_word","_law_looks","_law_look_here","_law_source","_law_some"] ["_law_deals","_law_makes"] (a0h (top 52)):=fsc
theorem b2e:a0s ["_law_text_here","_law_deals","_law_makes","_law_rows","_law_row"] ["_law_text_here"] (a0h (top 53)):=fsc
theorem b9u:a0s ["_law_cell_here","_law_some"] ["_law_cell_here"] (a0h (top 54)):=fsc
theorem a9w:a0s ["_law_number_here","_law_some"] ["_law_number_here"] (a0h (top 55)):=fsc
theorem a2s:a0s ["_law_text_here","_law_way","_law_number_here","_law_rows","_law_at","_law_some"] ["_law_text_here","_law_way","_law_number_here"] (a0h (top 56)):=fsc
theorem a7z:a0s ["_law_text_here","_law_way","_law_number_here","_law_place_here","_law_sign_here"] ["_law_text_here","_law_way","_law_number_here"] (a0h (top 57)):=fsc
theorem d5x:a0s ["_law_key","_law_source"] ["_law_key","_law_source"] (a0h (top 58)):=fsc
theorem a2t:a0s ["_law_past_here","_law_rows","_law_number_here","_law_word","_law_looks","_law_row","_law_k","_law_key","_law_numbers"] ["_law_past_here"] (a0h (top 59)):=fsc
theorem a3j:a0s ["_law_past_here","_law_way","_law_number_here","_law_places","_law_deal","_law_look_here","_law_k","_law_own"] ["_law_past_here","_law_way","_law_number_here"] (a0h (top 60)):=fsc
theorem b0l:a0s ["_law_past_here","_law_way","_law_number_here","_law_numbers","_law_k"] ["_law_past_here","_law_way","_law_number_here"] (a0h (top 61)):=fsc
theorem a5e:a0s ["_law_script","_law_deals","_law_order","_law_cell_here","_law_k","_law_way","_law_number_here","_law_past_here","_law_text_here","_law_due_here","_law_found","_law_refused","e"] ["_law_script"] (a0h (top 62)):=fsc
def e6e:Sp:=λ vs H Q _=>∃ x:Str,vs=[.str x]/\x.length<=8000/\∀ H',Same H H'->Q (.bl (a2p x.cps.toList)) H'
def e0s (C:Addr):Sp:=λ vs H Q E=>∃ x:Str,vs=[.str x]/\x.length<=8000/\(∀ c∈x.cps.toList,c < 16 ^ 8)/\(a2p x.cps.toList=true->∀ H',Same H H'->Q (.int (a3w x.cps.toList)) H')/\(a2p x.cps.toList=false->∀ H',Same H H'->E (.ref C) none H')
def a8r:List Str:=["loose","kept","make","watch","hold"]
abbrev Pr:=Int×Int
abbrev Lk:=List Pr
abbrev Dl:=Int×Str×List Lk
abbrev Mkr:=Int×List Int
abbrev Ps:=List Dl×List Mkr
def a5g (p:Pr):PyData:=.tuple [.int p.1,.int p.2]
def a4k (l:Lk):PyData:=.list (l.map a5g)
def a3a (d:Dl):PyData:=.tuple [.int d.1,.str d.2.1,.list (d.2.2.map a4k)]
def a3l (m:Mkr):PyData:=.tuple [.int m.1,.list (m.2.map PyData.int)]
def a3r (p:Ps):PyData:=.tuple [.list (p.1.map a3a),.list (p.2.map a3l)]
def num (n:Int):Str:=Str.ofString (toString n)
def b3f (s:Int):Str:=if s=-1 then ⟨#[63]⟩ else num s
def a1n (p:Pr):Str:=num p.1++⟨#[60]⟩++b3f p.2
def a1f (l:Lk):Str:=if l=[] then ⟨#[45]⟩ else Str.join ⟨#[32]⟩ (l.map a1n)
def hdD (d:Dl):Str:=num d.1++⟨#[32]⟩++d.2.1++⟨#[58]⟩
def a0v (d:Dl):Str:=if d.2.2=[] then hdD d else hdD d++⟨#[32]⟩++Str.join a3v (d.2.2.map a1f)
def mkW:Str:=⟨#[109,97,107,101,32]⟩
def a1a (m:Mkr):Str:=mkW++num m.1++⟨#[58]⟩++Str.join ⟨#[]⟩ (m.2.map λ n=>⟨#[32]⟩++num n)
def a5f (p:Ps):Str:=Str.join ⟨#[10]⟩ (p.1.map a0v++p.2.map a1a)
def Bd (n:Int):Prop:=-(10 ^ 30) < n/\n < 10 ^ 30
def BdL (l:Lk):Prop:=∀ p∈l,Bd p.1/\Bd p.2
def BdD (d:Dl):Prop:=Bd d.1/\∀ l∈d.2.2,BdL l
def BdM (m:Mkr):Prop:=Bd m.1/\∀ n∈m.2,Bd n
def BdP (p:Ps):Prop:=(∀ d∈p.1,BdD d)/\∀ m∈p.2,BdM m
def cL (l:Lk):Nat:=l.length+1
def cD (d:Dl):Nat:=(d.2.2.map cL).sum+d.2.1.length+1
def cM (m:Mkr):Nat:=m.2.length+1
def cP (p:Ps):Nat:=(p.1.map cD).sum+(p.2.map cM).sum
theorem a1z {n:Int} (h:Bd n):(num n).length<=31:=(b1w h.1 h.2).2.2.1
theorem b3a (c:Nat):(⟨#[c]⟩:Str).length=1:=rfl
theorem c6s {n:Int} (h:Bd n):(b3f n).length<=31:=by
 unfold b3f;split
 ·rw[b3a];decide
 ·exact a1z h
theorem c7p {p:Pr} (h1:Bd p.1) (h2:Bd p.2):(a1n p).length<=63:=by
 have a:=a1z h1;have b:=c6s h2;unfold a1n;rw[z0d,z0d,b3a];lia
theorem a1w {α:Type} {f g:α->Nat}:∀ {l:List α},(∀ x∈l,f x<=g x)->(l.map f).sum<=(l.map g).sum
 | [],_=>z04 _
 | x::r,h=>by
  have h1:=h x z0g;have h2:=a1w (l:=r) λ y hy=>h y (z0p _ hy)
  simp only [z0q,z1j];lia
theorem c4f {α:Type} {f:α->Nat} (k:Nat):∀ {l:List α},(l.map λ x=>k*f x).sum=k*(l.map f).sum
 | []=>rfl
 | x::r=>by simp only [z0q,z1j,c4f k (l:=r),Nat.mul_add]
theorem a6w {α:Type} (k:Nat):∀ {l:List α},(l.map λ _=>k).sum=k*l.length
 | []=>rfl
 | x::r=>by simp only [z0q,z1j,a6w k (l:=r),z12,Nat.mul_add];lia
theorem a1r {α:Type} {f:α->Nat}:∀ {l:List α} {x:α},x∈l->f x<=(l.map f).sum
 | y::r,x,h=>by
  simp only [z0q,z1j];rcases z06.mp h with rfl | h
  ·lia
  ·have:=a1r (f:=f) h;lia
theorem a1x {α:Type} {f:α->Nat} (h1:∀ x,1<=f x):∀ {l:List α},l.length<=(l.map f).sum
 | []=>z04 _
 | x::r=>by
  have:=a1x (f:=f) h1 (l:=r);have:=h1 x;simp only [z0q,z1j,z12];lia
theorem a5b (s:Str):∀ l:List Str,(Str.join s l).length<=(l.map (·.length)).sum+l.length*s.length
 | []=>z0x _
 | [x]=>by simp[Str.join]
 | x::y::r=>by
  have ih:=a5b s (y::r);show (x++s++Str.join s (y::r)).length<=_;rw[z0d,z0d];simp only [z0q,z1j,z12,Nat.succ_mul] at ih ⊢;lia
theorem b8l {l:Lk} (h:BdL l):((l.map a1n).map (·.length)).sum<=63*l.length:=by
 rw[z0t];have:=a1w (l:=l) (f:=(λ x:Str=>x.length) ∘ a1n) (g:=λ _=>63) λ p hp=>c7p (h p hp).1 (h p hp).2
 rw[a6w] at this;exact this
theorem c8y {l:Lk} (h:BdL l):(a1f l).length<=64*cL l:=by
 unfold a1f cL;split
 ·rw[b3a];lia
 ·have:=b8l h;have:=a5b ⟨#[32]⟩ (l.map a1n);rw[b3a,z03] at this;lia
theorem c6g {d:Dl} (h:BdD d):((d.2.2.map a1f).map (·.length)).sum<=64*(d.2.2.map cL).sum:=by
 rw[z0t,<-c4f];exact a1w λ l hl=>c8y (h.2 l hl)
theorem c6t (l:Lk):1<=cL l:=Nat.succ_le_succ (z0x _)
theorem c6l (d:Dl):1<=cD d:=Nat.succ_le_succ (z0x _)
theorem c6k (d:Mkr):1<=cM d:=Nat.succ_le_succ (z0x _)
theorem d1o {d:Dl} (h:BdD d):(hdD d).length<=33+d.2.1.length:=by
 have:=a1z h.1;unfold hdD;rw[z0d,z0d,z0d,b3a,b3a];lia
theorem b6x {d:Dl} (h:BdD d):(a0v d).length<=70*cD d:=by
 have h1:=d1o h;have h2:=c6g h;have h3:=a5b a3v (d.2.2.map a1f);have h4:=a1x c6t (l:=d.2.2);have l2:a3v.length=2:=rfl;rw[l2,z03] at h3;unfold a0v cD;split
 ·lia
 ·rw[z0d,z0d,b3a];lia
theorem c6w {ns:List Int} (h:∀ n∈ns,Bd n):((ns.map λ n=>(⟨#[32]⟩:Str)++num n).map (·.length)).sum<=32*ns.length:=by
 rw[z0t];have:=a1w (l:=ns) (f:=(λ x:Str=>x.length) ∘ λ n=>(⟨#[32]⟩:Str)++num n) (g:=λ _=>32) λ n hn=>by
  have:=a1z (h n hn);show ((⟨#[32]⟩:Str)++num n).length<=32;rw[z0d,b3a];lia
 rw[a6w] at this;exact this
theorem b4p:mkW.length=5:=rfl
theorem b7g {m:Mkr} (h:BdM m):(a1a m).length<=70*cM m:=by
 have h1:=a1z h.1;have h2:=c6w h.2;have h3:=a5b ⟨#[]⟩ (m.2.map λ n=>(⟨#[32]⟩:Str)++num n);have l0:(⟨#[]⟩:Str).length=0:=rfl;rw[l0] at h3;unfold a1a cM;rw[z0d,z0d,z0d,b3a,b4p];lia
theorem c6e {p:Ps} (h:BdP p):((p.1.map a0v++p.2.map a1a).map (·.length)).sum<=70*cP p:=by
 rw[z0m,z3p,z0t,z0t];have h1:=a1w (l:=p.1) (f:=(λ x:Str=>x.length) ∘ a0v) (g:=λ d=>70*cD d) λ d hd=>b6x (h.1 d hd)
 have h2:=a1w (l:=p.2) (f:=(λ x:Str=>x.length) ∘ a1a) (g:=λ d=>70*cM d) λ d hd=>b7g (h.2 d hd)
 rw[c4f] at h1 h2;unfold cP;lia
def e7s:Sp:=λ vs H Q _=>∃ n:Int,vs=[.int n]/\Bd n/\∀ H',Same H H'->Q (.str (num n)) H'
def d7e:Sp:=λ vs H Q _=>∃ v p,vs=[v]/\Tr H v (a5g p)/\Bd p.1/\Bd p.2/\∀ H',Same H H'->Q (.str (a1n p)) H'
def d4y:Sp:=λ vs H Q _=>∃ v l,vs=[v]/\Tr H v (a4k l)/\BdL l/\cL l<=20000/\∀ H',Same H H'->Q (.str (a1f l)) H'
def d6x:Sp:=λ vs H Q _=>∃ v d,vs=[v]/\Tr H v (a3a d)/\BdD d/\cD d<=20000/\∀ H',Same H H'->Q (.str (a0v d)) H'
def d7b:Sp:=λ vs H Q _=>∃ v m,vs=[v]/\Tr H v (a3l m)/\BdM m/\cM m<=20000/\∀ H',Same H H'->Q (.str (a1a m)) H'
def d5v:Sp:=λ vs H Q _=>∃ v p,vs=[v]/\Tr H v (a3r p)/\BdP p/\cP p<=20000/\∀ H',Same H H'->Q (.str (a5f p)) H'
def a3s:List Int->Bool
 | a::b::r=>decide (a < b) && a3s (b::r)
 | _=>true
def b7j (ms:List Mkr) (k:Int):List Int:=((ms.find? λ m=>m.1 == k).map (·.2)).getD []
def b1q (ms:List Mkr) (n:Int) (p:Pr):Bool:=decide (p.2=0) || decide (p.2=-1) || (!decide (p.2=n) && decide (p.2∈b7j ms p.1))
def c0g (ms:List Mkr) (n:Int) (l:Lk):Bool:=a3s (l.map (·.1)) && l.all (b1q ms n)
def c9h (ms:List Mkr) (d:Dl):Bool:=decide (1<=d.1/\d.1<=8) && decide (d.2.1∈a8r) && d.2.2.all (c0g ms d.1)
def d2x (ds:List Dl) (m:Mkr):Bool:=decide ((dd m.2).length=m.2.length) && m.2.all λ n=>decide (n∈ds.map (·.1))
def c0f (p:Ps):Bool:=a3s (p.1.map (·.1)) && a3s (p.2.map (·.1)) && p.1.all (c9h p.2) && p.2.all (d2x p.1)
def Mks (H:Hp) (d:Addr) (ms:List Mkr):Prop:=∃ kvs,H d=some (.dK kvs)/\∀ k:Int,(∃ l,a6i kvs (Sum.inl k)=some (.ref l)/\H l=some (.lst ((b7j ms k).map V.int)))\/(a6i kvs (Sum.inl k)=none/\b7j ms k=[])
def e4k:Sp:=λ vs H Q _=>∃ x:Str,vs=[.str x]/\Q (.bl (decide (x∈a8r))) H
def e3k:Sp:=λ vs H Q _=>∃ (a:Addr) (ns:List Int),vs=[.ref a]/\H a=some (.lst (ns.map V.int))/\ns.length<=20000/\∀ H',Same H H'->Q (.bl (a3s ns)) H'
def e6c:Sp:=λ vs H Q _=>∃ (d:Addr) (ms:List Mkr) (n:Int) (p:Pr),vs=[.int p.2,.int p.1,.int n,.ref d]/\Mks H d ms/\∀ H',Same H H'->Q (.bl (b1q ms n p)) H'
def d7t:Sp:=λ vs H Q _=>∃ (v:V) (d:Addr) (ms:List Mkr) (n:Int) (l:Lk),vs=[v,.int n,.ref d]/\Tr H v (a4k l)/\Mks H d ms/\cL l<=20000/\∀ H',Same H H'->Q (.bl (c0g ms n l)) H'
def e3h:Sp:=λ vs H Q _=>∃ (v:V) (d:Addr) (ms:List Mkr) (x:Dl),vs=[v,.ref d]/\Tr H v (a3a x)/\Mks H d ms/\cD x<=20000/\∀ H',Same H H'->Q (.bl (c9h ms x)) H'
def e5h:Sp:=λ vs H Q _=>∃ (v:V) (a:Addr) (ds:List Dl) (m:Mkr),vs=[v,.ref a]/\Tr H v (a3l m)/\H a=some (.lst ((ds.map (·.1)).map V.int))/\m.2.length < 4000/\∀ H',Same H H'->Q (.bl (d2x ds m)) H'
def e3f:Sp:=λ vs H Q _=>∃ (v:V) (p:Ps),vs=[v]/\Tr H v (a3r p)/\cP p<=20000/\(∀ m∈p.2,m.2.length < 4000)/\∀ H',Same H H'->Q (.bl (c0f p)) H'
section
variable {P:Program} {w:World} {K:W.Frag} {mg:Str->Option Value} {base:Heap}
theorem b1x (T:Tx K mg):T.a4o.Ok P w base 1 e6e:=by
 refine okF T.a4o.F a6j λ _ _ _ _ H _ Q _ _ h=>?_
 ·obtain⟨x,rfl,hl,k⟩:=h;have hz:(8000:Nat)<=sizeLine:=by decide
  refine⟨_,(a0d (a1g (a0i a2j (pv 0) a0j (a0o _))
   (a0f (a0p a7l))
   a0n)
   (a0d (psx 1 a6j.nd (a9p (a3q (a2l z0y z50 z5d a8c (pv 0) (a0a a0j a0b))) (a0y a3x (pv 0) (a1h a0e) a1u) (pv 0)))
   (a0d (a1g (PW.pt (a8t (a0i a2j (pv 1) a0j (a0o _)) (a8t (a0i a2j (pix c5n (pv 1) a0e) a0j (a0o _)) (a6k (a0i d4m (a0q a1k (by rfl) T.a4f z0z (a0a (pv 1) a0b)) (a6t (v:=V.int (30)) rfl T.b6n ⟨_,rfl⟩) (a0o _))))))
   (a0f (a0p a7l))
   a0n)
   (a0f (a0p (a0q (a6c rfl) (by rfl) T.b9e boot_all (a0a (d5q (j:=1) rfl rfl (Or.inl rfl) (by decide +kernel) (by decide +kernel) rfl (by decide +kernel) rfl) a0b))))))),?_⟩
  refine nx4 _ rfl rfl _ rfl (a3o (λ e=>?_) (λ e=>?_))
  ·have ex:=(b2a x).mp (V.str.inj (z0b e));have k1:=k H (Same.refl H);rw[ex] at k1;exact k1
  ·have nx:¬ x.cps.toList=[48]:=λ z=>e (z07 (z0e V.str ((b2a x).mpr z)))
   have kf:a2p x.cps.toList=false->Q (.bl false) H:=λ z=>by
    have k1:=k H (Same.refl H);rw[z] at k1;exact k1
   refine a6h λ b' hb'=>?_
   have tail:∀ F:Str,F.cps.toList=a8n x.cps.toList->F.length<=8000->b' {nx:=λ _ H'=>Q .non H',rt:=Q} [some (.str x),some (.str F)] H:=λ F hF hFl=>by
    subst hb';have hnl:=e2j nx;rw[<-hF] at hnl;have lc:=a0t F;refine nx4 _ rfl rfl _ rfl (a3o (λ e1=>a5m ?_) (λ e1=>?_))
    ·rw[(c1i F).mp (V.str.inj (z0b e1))] at hnl;exact kf hnl
    have nF:F.cps.toList≠[]:=λ z=>e1 (z07 (z0e V.str ((c1i F).mpr z)))
    obtain⟨c,r,hcr⟩:=List.exists_cons_of_ne_nil nF;have hd:a5d F.cps.toList=(!decide (c=48) && (decide (F.cps.toList.length<=30) && F.cps.toList.all dig)):=by rw[hcr];rfl
    rw[hd] at hnl;refine nx1 _ rfl F (nx25 0 c rfl rfl (by lia) (by rw[hcr];exact a0k (j:=0) rfl) ⟨rfl,_,rfl,a3o (λ e2=>a5m ?_) (λ e2=>?_)⟩)
    ·rw[z07 ((b3p c).mp (V.str.inj (z0b e2)))] at hnl;exact kf hnl
    rw[z0v (λ z=>e2 (z07 (z0e V.str ((b3p c).mpr z))))] at hnl;refine nx5 _ rfl _ _ rfl ⟨by lia,rfl⟩ (nx31 _ _ rfl rfl _ rfl (a3o (λ e3=>?_) (λ e3=>?_)))
    ·have z:(30:Int) < F.length:=z0b e3;rw[z0v (show ¬ F.cps.toList.length<=30 by lia)] at hnl;exact kf hnl
    ·have z:¬ (30:Int) < F.length:=λ y=>e3 (z07 y)
     rw[z07 (show F.cps.toList.length<=30 by lia)] at hnl;refine nx7 F (λ d=>.bl (dig d)) rfl (by lia) (λ d hd=>?_) λ p hp=> nx0 p (F.cps.toList.map dig) rfl (SqL.of ?_) ?_
     ·dsimp only;rw[<-d2k];exact c3f rfl rfl rfl T.c9z
     ·rw[a0c,z0t];rfl
     ·have k1:=k _ (Same.upd (o:=.lst ((F.cps.toList.map dig).map V.bl)) hp);rw[hnl,z0t] at k1;rw[List.all_map];exact k1
   refine nx26 _ rfl rfl x (nx4 _ rfl rfl _ rfl ?_);rw[c2j];by_cases hs:x.cps.toList[0]?=some 45
   ·have h1:1<=x.length:=by
     rw[a0t];exact(z0i.mp hs).1
    refine e3z hs (⟨_,rfl,nx17 _ rfl x rfl (by lia) (tail _ ?_ (z0s (z3s x _ _) hl))⟩);rw[b7a h1];cases q:x.cps.toList with
    | nil=>rw[q] at hs;cases hs
    | cons c r =>
     rw[q] at hs;exact(z02 (by simpa using hs)).symm
   ·refine d6v hs ⟨_,rfl,tail x ?_ hl⟩;cases q:x.cps.toList with
    | nil=>rfl
    | cons c r =>
     rw[q] at hs;exact(z01 λ z=>hs (by rw[z];rfl)).symm
theorem d3f {x:Str} (h:a2p x.cps.toList=true):x.length<=31:=by
 rw[a0t];rcases Bool.or_eq_true_iff.mp h with z | z
 ·rw[z0b z];decide
 ·cases q:x.cps.toList with
  | nil=>simp
  | cons c r =>
   rw[q] at z;have fl:∀ l:List Nat,a5d l=true->l.length<=30:=λ l hl=>by
    cases l with
    | nil=>cases hl
    | cons b s =>
     have hl':(!decide (b=48) && (decide ((b::s).length<=30) && (b::s).all dig))=true:=hl;simp only [z13] at hl';exact z0b hl'.2.1
   by_cases hc:c=45
   ·have e:a8n (c::r)=r:=z02 hc;rw[e] at z;have:=fl r z;rw[z12];lia
   ·have e:a8n (c::r)=c::r:=z01 hc;rw[e] at z;have:=fl _ z;lia
theorem a5w (T:Tx K mg):b0w P w K mg base (CXW P w) 2 T.a1m.f T.a1m.d ["text"] (e0s T.a1i):=by
 refine b0z T.a1m.F c3w (λ vs H Q E h=>?_) (λ cdv A outer s H vs Q E hr h=>?_)
 ·obtain⟨x,rfl,_⟩:=h;rfl
 ·obtain⟨x,rfl,hl,hc,k,ke⟩:=h;refine⟨_,(a0d (a1g (a6n (a3q (pcF T.a4o (b1x T) hr (a0a (pv 0) a0b))))
   (a0f (c7d T.b7m rfl (d5y (pv 0) (by decide +kernel))))
   a0n)
   (a0f (a0p (a2i b1v (by rfl) T.c1u boot_int (a0a (pv 0) a0b))))),?_⟩
  refine nx17 _ rfl x rfl (by lia) λ H1 s1=>⟨_,rfl,?_⟩;cases q:a2p x.cps.toList with
  | false=>exact a5m (nx17 _ rfl x rfl hc ⟨by lia,λ r=>ke q H1 s1⟩)
  | true =>
   have:=d3f q;exact a7h (nx19 _ rfl x _ rfl (b7y (by lia) q) (by lia) (k q H1 s1))
theorem d9e {n:Int} (h:n < 0):num n=⟨#[45]⟩++num (-n):=by
 unfold num;refine z0n ?_;rw[a0g,PyProof.Rows.toString_neg h,show 0 - n=-n by lia,signs_ofString,String.toList_append,z0m,signs_ofString (toString (-n))];rfl
theorem a6e {n:Int} (h:Bd n):n.natAbs.log2 < 1920:=by
 obtain⟨h1,h2⟩:=h;have h3:n.natAbs < 2 ^ 100:=by
  have:(10:Int) ^ 30 < 2 ^ 100:=by decide
  lia
 rcases z54 n.natAbs with h0 | hp
 ·rw[h0];decide
 ·exact z38 ((Nat.log2_lt (Nat.ne_of_gt hp)).mpr h3) (by decide)
theorem _root_.My.Tr.pair {H:Hp} {v:V} {p:Pr} (h:Tr H v (a5g p)):∃ a,v=.ref a/\H a=some (.tup [.int p.1,.int p.2]):=by
 cases h with
 | @tup a xs _ h r =>
  cases r with
  | cons h1 r =>
   cases r with
   | cons h2 r =>
    cases r;cases h1;cases h2;exact⟨a,rfl,h⟩
theorem _root_.My.Tr.list {H:Hp} {v:V} {ds:List PyData} (h:Tr H v (.list ds)):∃ a xs,v=.ref a/\H a=some (.lst xs)/\Trs H xs ds:=by
 cases h with
 | @lst a xs _ h r=>exact nx0 a xs rfl h r
theorem _root_.My.Tr.look {H:Hp} {v:V} {l:Lk} (h:Tr H v (a4k l)):∃ a xs,v=.ref a/\H a=some (.lst xs)/\Trs H xs (l.map a5g):=h.list
theorem _root_.My.Tr.ints {H:Hp} {v:V} {ns:List Int} (h:Tr H v (.list (ns.map PyData.int))):∃ a,v=.ref a/\H a=some (.lst (ns.map V.int)):=by
 obtain⟨a,xs,rfl,h1,h2⟩:=h.list;rw[h2.ints] at h1;exact⟨a,rfl,h1⟩
theorem _root_.My.Tr.deal {H:Hp} {v:V} {d:Dl} (h:Tr H v (a3a d)):∃ a b xs,v=.ref a/\H a=some (.tup [.int d.1,.str d.2.1,.ref b])/\H b=some (.lst xs)/\Trs H xs (d.2.2.map a4k):=by
 cases h with
 | @tup a xs _ h r =>
  cases r with
  | cons h1 r =>
   cases r with
   | cons h2 r =>
    cases r with
    | cons h3 r =>
     cases r;cases h1;cases h2;obtain⟨b,ys,rfl,h4,h5⟩:=h3.list;exact nx29 a b ys rfl h ⟨h4,h5⟩
theorem _root_.My.Tr.make {H:Hp} {v:V} {m:Mkr} (h:Tr H v (a3l m)):∃ a b,v=.ref a/\H a=some (.tup [.int m.1,.ref b])/\H b=some (.lst (m.2.map V.int)):=by
 cases h with
 | @tup a xs _ h r =>
  cases r with
  | cons h1 r =>
   cases r with
   | cons h2 r =>
    cases r;cases h1;obtain⟨b,rfl,h4⟩:=h2.ints;exact nx0 a b rfl h h4
theorem _root_.My.Tr.past {H:Hp} {v:V} {p:Ps} (h:Tr H v (a3r p)):∃ a b c xs ys,v=.ref a/\H a=some (.tup [.ref b,.ref c])/\H b=some (.lst xs)/\H c=some (.lst ys)/\Trs H xs (p.1.map a3a)/\Trs H ys (p.2.map a3l):=by
 cases h with
 | @tup a xs _ h r =>
  cases r with
  | cons h1 r =>
   cases r with
   | cons h2 r =>
    cases r;obtain⟨b,ys,rfl,h4,h5⟩:=h1.list;obtain⟨c,zs,rfl,h6,h7⟩:=h2.list;exact nx36 a b c ys zs rfl h h4 h6 h5 h7
--@STAGE
theorem a7b (T:Tx K mg):T.a6f.Ok P w base 1 e7s:=by
 refine okF T.a6f.F a7d λ _ _ _ _ H _ Q _ _ h=>?_
 ·obtain⟨n,rfl,hb,k⟩:=h;refine⟨_,(a0d (psx 1 a7d.nd (a0q d1g (by rfl) T.e1a boot_abs (a0a (pv 0) a0b)))
   (a0d (psx 2 a7d.nd (a1l a0b))
   (a0d (d6m z11 (a0i e2m (pv 1) (a0l c6a a0e a0e) (a0o _))
   (a0d d5o
   (a0f (psx 1 a7d.nd (a0l a4g (pv 1) (a0l c6a a0e a0e))))))
   (a0d (a3i (a2l z1w z23 z20 a2f (pv 2) (a0a (a2i a6a (by rfl) T.b4b boot_str (a0a (pv 1) a0b)) a0b)))
   (a0d (psx 3 a7d.nd (a9p (a0i b3e (pv 0) a0e (a0o _)) a0j a0j))
   (a0f (a0p (a0l a0r (pv 3) (c9c rfl rfl T.b2u a0j (a0a (pv 2) a0b)))))))))),?_⟩
  obtain⟨m,hm0,hmb,hme⟩:∃ m:Int,0<=m/\m < 10 ^ 30/\(if n < 0 then -n else n)=m:=⟨_,by split<;>lia,by obtain⟨h1,h2⟩:=hb;split<;>lia,rfl⟩;have hbm:Bd m:=⟨by lia,hmb⟩;refine nx6 _ rfl n rfl ?_;rw[hme];refine⟨(by show 0<=sizeLine;decide),λ pl hpl=>?_⟩;refine⟨λ i σ H2=>σ=[some (.int n),some (.int m),some (.ref pl),none]/\Same H H2/\H2 pl=some (.lst []),⟨0,rfl,Same.upd hpl,a0c⟩,?_⟩;rintro i σ H2 ⟨rfl,s2,h2⟩;have e64:¬ (10:Int) ^ (64:Int).toNat<=m:=by
   have:(10:Int) ^ 30 < 10 ^ (64:Int).toNat:=by decide
   lia
  refine nx19 _ rfl _ _ rfl rfl ⟨by decide,by decide⟩ (nx31 _ _ rfl rfl _ rfl (d6v e64 ?_));refine nx43 _ rfl (.inl ⟨rfl,_,SqL.of h2⟩) _ rfl _ rfl (.inl ⟨m,rfl,?_,?_⟩)
  ·exact a6e hbm
  ·refine nx2 pl ([]) _ rfl rfl h2 (by decide) λ H3 h3 k3=>?_;have s3:Same H H3:=λ b o e=>k3 _ _ (λ z=>by rw[z,hpl] at e;cases e) (s2 _ _ e)
   have l31:=a1z hbm;have z31:(40:Nat)<=sizeLine:=by decide
   have tail:∀ sg:Str,sg.length<=1->sg++num m=num n->tOp (λ x y H Q=>∃ i j,x=V.str i/\y=V.str j/\i.length+j.length<=sizeLine/\Q (V.str (i++j)) H) (b1a 3) (c5v (tC (V.str (Str.ofString ""))) (a6u (b1a 2) c9k)) [some (V.int n),some (V.int m),some (V.ref pl),some (V.str sg)] H3 Q:=λ sg hsg e=>by
    refine nx30 _ rfl ("":Str) rfl _ rfl pl ([num m]) rfl h3 ⟨?_,nx7 _ _ rfl rfl ?_ ?_⟩
    ·show (num m).length+0+1*("":Str).length<=_;have:("":Str).length=0:=by decide +kernel
     lia
    ·show sg.length+(num m).length<=sizeLine;lia
    ·show Q (V.str (sg++num m)) H3;rw[e];exact k H3 s3
   refine nx23 _ rfl _ _ rfl rfl _ rfl (a3o (λ e=>?_) (λ e=>?_))
   ·have e':n < 0:=z0b e;rw[z02 e'] at hme;exact tail _ (by decide +kernel) (by rw[d9e e',hme,show ("-":Str)=⟨#[45]⟩ from by decide +kernel])
   ·have e':¬ n < 0:=λ z=>e (z07 z)
    rw[z01 e'] at hme;exact tail _ (by decide +kernel) (by rw[hme];exact z0n (by rw[a0g,show ("":Str).cps.toList=[] from by decide +kernel,List.nil_append]))
theorem c4h (T:Tx K mg):T.b2o.Ok P w base 2 d7e:=by
 refine okF T.b2o.F b4l λ _ _ _ _ H _ Q _ hr h=>?_
 ·obtain⟨v,⟨kx,sx⟩,rfl,ht,h1,h2,k⟩:=h;refine⟨_,(a0d (psx 1 b4l.nd (a9p (a0i a2j (pix a1c (pv 0) a0e) (a6t (v:=V.int (-1)) rfl T.b8h ⟨_,rfl⟩) (a0o _)) a0j (pcF T.a6f (a7b T) hr (a0a (pix a1c (pv 0) a0e) a0b))))
   (a0f (a0p (a0l a0r (a0l a0r (pcF T.a6f (a7b T) hr (a0a (pix a1c (pv 0) a0e) a0b)) a0j) (pv 1))))),?_⟩
  obtain⟨a,rfl,ha⟩:=ht.pair;have z99:(99:Nat)<=sizeLine:=by decide
  have l1:=a1z h1;have l2:=c6s h2;have fin:∀ H2,Same H H2->tOp (λ x y H Q=>∃ i j,x=V.str i/\y=V.str j/\i.length+j.length<=sizeLine/\Q (V.str (i++j)) H) (tOp (λ x y H Q=>∃ i j,x=V.str i/\y=V.str j/\i.length+j.length<=sizeLine/\Q (V.str (i++j)) H) (b8u e7s [] E0 (a6u (tOp (d4i K) (b1a 0) (tC (V.int 0))) c9k)) (tC (V.str (Str.ofString "<")))) (b1a 1) [some (V.ref a),some (V.str (b3f sx))] H2 Q:=λ H2 s2=>by
   refine nx27 _ rfl a _ _ _ rfl rfl (SqT.of (s2 _ _ ha)) (a0k (j:=0) rfl) kx rfl h1 λ H3 s3=> nx7 _ _ rfl rfl ?_ (nx19 _ rfl _ _ rfl rfl ?_ ?_)
   ·show (num kx).length+("<":Str).length<=_;have:("<":Str).length=1:=by decide +kernel
    dsimp only at l1;lia
   ·show (num kx++("<":Str)).length+(b3f sx).length<=_;have:("<":Str).length=1:=by decide +kernel
    dsimp only at l1 l2;rw[z0d];lia
   ·have e:num kx++("<":Str)++b3f sx=a1n (kx,sx):=by
     rw[show ("<":Str)=⟨#[60]⟩ from by decide +kernel];rfl
    rw[e];exact k H3 (s2.trans s3)
  refine nx40 _ rfl a _ _ _ rfl rfl (SqT.of ha) (a0k (j:=1) rfl) rfl ⟨_,rfl,a3o (λ e=>?_) (λ e=>?_)⟩
  ·have es:sx=-1:=by simpa using e
   have:=fin H (Same.refl H);rw[show b3f sx=("?":Str) from by rw[es];decide +kernel] at this;exact this
  ·have es:¬ sx=-1:=by simpa using e
   refine nx27 _ rfl a _ _ _ rfl rfl (SqT.of ha) (a0k (j:=1) rfl) sx rfl h2 λ H2 s2=>?_;have:=fin H2 s2;rw[show b3f sx=num sx from z01 es] at this;exact this
theorem c4t (T:Tx K mg):T.b2s.Ok P w base 3 d4y:=by
 refine okF T.b2s.F c4v λ _ _ _ _ H _ _ _ hr h=>?_
 ·obtain⟨v,l,rfl,ht,h1,h2,k⟩:=h;refine⟨_,(a0d (a1g (a0i a2j (a0q a1k (by rfl) T.a4f z0z (a0a (pv 0) a0b)) a0e (a0o _))
   (a0f (a0p a0j))
   a0n)
   (a0f (a0p (a2l z0y z2h z32 b0r a0j (a0a (pcf ["pair"] [] [] (a0z (pv 0)) (pgn 0) a2y (pcF T.b2o (c4h T) hr (a0a (pv 0) a0b))) a0b))))),?_⟩
  obtain⟨a,xs,rfl,ha,hx⟩:=ht.look;have hl:xs.length=l.length:=by rw[hx.len,z03]
  have z9:(20000:Nat)<=sizeLine:=by decide
  have hcl:l.length+1<=20000:=h2;refine nx1 _ rfl _ (nx28 _ rfl (.inl ⟨_,SqL.of ha,rfl⟩) rfl _ rfl (a3o (λ e=>?_) (λ e=>?_)))
  ·have:l=[]:=by
    have:xs.length=0:=by simpa using e
    exact z3h (by lia)
   have e2:a1f l=("-":Str):=by rw[this];decide +kernel
   have:=k H (Same.refl H);rw[e2] at this;exact this
  ·have hne:¬ l=[]:=λ z=>e (by rw[z] at hl;simpa using hl)
   refine ⟨rfl,nx17 _ rfl a rfl ⟨_,SqL.of ha⟩ (a8h (k:=1) (fs:=[]) l a5g (λ p=>some (.str (a1n p))) rfl ha hx (by lia) (λ p hp H2 ts v R ss hts tr cont=>?_) (λ D H2 hD ss hd=>?_))⟩
   ·obtain⟨t,rfl⟩:=z10.mp hts;exact nx19 _ rfl v p rfl tr ((h1 p hp).1) ⟨(h1 p hp).2,λ H3 s3=>cont [_] H3 rfl s3⟩
   ·rw[show l.filterMap (λ p=>some (V.str (a1n p)))=(l.map a1n).map V.str from by rw[z0t,<-z1y];rfl] at hd;have hs:=b8l h1;refine nx2 _ D (l.map a1n) rfl rfl (SqL.of hd) ?_ ?_
    ·have:(" ":Str).length=1:=by decide +kernel
     rw[this,z03];lia
    ·have:=k H2 ss;rw[show a1f l=Str.join (" ":Str) (l.map a1n) from by rw[show (" ":Str)=⟨#[32]⟩ from by decide +kernel];exact z01 hne] at this;exact this
theorem c4u (T:Tx K mg):T.b2w.Ok P w base 4 d6x:=by
 refine okF T.b2w.F b4i λ _ _ _ _ _ _ _ _ hr h=>?_
 ·obtain⟨v,⟨nx,wx,ls⟩,rfl,ht,h1,h2,k⟩:=h;refine⟨_,(a0d (psx 1 b4i.nd (a0l a0r (a0l a0r (a0l a0r (pcF T.a6f (a7b T) hr (a0a (pix a1c (pv 0) a0e) a0b)) a0j) (pix a1c (pv 0) a0e)) a0j))
   (a0d (a1g (a0i a2j (a0q a1k (by rfl) T.a4f z0z (a0a (pix a1c (pv 0) a0e) a0b)) a0e (a0o _))
   (a0f (a0p (pv 1)))
   a0n)
   (a0f (a0p (a0l a0r (a0l a0r (pv 1) a0j) (a2l z0y z2h z32 b0r a0j (a0a (pcf ["look"] [] [] (a0z (pix a1c (pv 0) a0e)) (pgn 0) a2y (pcF T.b2s (c4t T) hr (a0a (pv 0) a0b))) a0b))))))),?_⟩
  obtain⟨a,b,xs,rfl,ha,hb,hx⟩:=ht.deal;dsimp only at hx ha;have hl:xs.length=ls.length:=by rw[hx.len,z03]
  have z9:(2000000:Nat)<=sizeLine:=by decide
  have l1:=a1z h1.1;dsimp only at l1;have hc:(ls.map cL).sum+wx.length+1<=20000:=h2;have hll:=a1x c6t (l:=ls);have c1:(" ":Str).length=1:=by decide +kernel
  have c2:(":":Str).length=1:=by decide +kernel
  have eh:num nx++(" ":Str)++wx++(":":Str)=hdD (nx,wx,ls):=by rw[show (" ":Str)=⟨#[32]⟩ from by decide +kernel,show (":":Str)=⟨#[58]⟩ from by decide +kernel];rfl
  refine nx27 _ rfl a _ _ _ rfl rfl (SqT.of ha) (a0k (j:=0) rfl) nx rfl h1.1 λ H2 s2=>?_;refine nx7 _ _ rfl rfl (by show (num nx).length+(" ":Str).length<=_;lia) (nx21 _ rfl a _ _ _ rfl rfl (SqT.of (s2 _ _ ha)) (a0k (j:=1) rfl) (nx7 _ _ rfl rfl (by show (num nx++(" ":Str)).length+wx.length<=_;rw[z0d];lia) (nx7 _ _ rfl rfl (by show (num nx++(" ":Str)++wx).length+(":":Str).length<=_;rw[z0d,z0d];lia) ?_)));rw[eh];refine nx21 _ rfl a _ _ _ rfl rfl (SqT.of (s2 _ _ ha)) (a0k (j:=2) rfl) (nx22 _ _ rfl (.inl ⟨_,SqL.of (s2 _ _ hb),rfl⟩) rfl _ ⟨rfl,a3o (λ e=>?_) (λ e=>?_)⟩)
  ·have e0:ls=[]:=by
    have:xs.length=0:=by simpa using e
    exact z3h (by lia)
   have e2:a0v (nx,wx,ls)=hdD (nx,wx,ls):=z02 e0;have:=k H2 s2;rw[e2] at this;exact⟨_,rfl,this⟩
  ·have hne:¬ ls=[]:=λ z=>e (by rw[z] at hl;simpa using hl)
   have hh:=d1o h1;dsimp only at hh;refine nx19 _ rfl _ _ rfl rfl (by show (hdD (nx,wx,ls)).length+(" ":Str).length<=_;lia) ⟨rfl,nx27 _ rfl a _ _ _ rfl rfl (SqT.of (s2 _ _ ha)) (a0k (j:=2) rfl) b rfl ⟨_,SqL.of (s2 _ _ hb)⟩ (a8h (k:=1) (fs:=[]) ls a4k (λ p=>some (.str (a1f p))) rfl (s2 _ _ hb) (hx.same s2) (by lia) (λ p hp H3 ts v R ss hts tr cont=>?_) (λ D H3 hD ss hd=>?_))⟩
   ·obtain⟨t,rfl⟩:=z10.mp hts;have:=a1r (f:=cL) hp;exact nx19 _ rfl v p rfl tr (h1.2 p hp) ⟨by lia,λ H4 s4=>cont [_] H4 rfl s4⟩
   ·rw[show ls.filterMap (λ p=>some (V.str (a1f p)))=(ls.map a1f).map V.str from by rw[z0t,<-z1y];rfl] at hd;have hs:=c6g h1;have hj:=a5b a3v (ls.map a1f);have l2:a3v.length=2:=rfl;dsimp only at hs;rw[z03,l2] at hj;refine nx2 _ D (ls.map a1f) rfl rfl (SqL.of hd) ?_ (nx7 _ _ rfl rfl ?_ ?_)
    ·rw[show ("; ":Str)=a3v from by decide +kernel,l2,z03];lia
    ·show (hdD (nx,wx,ls)++(" ":Str)).length+(Str.join ("; ":Str) (ls.map a1f)).length<=_;rw[z0d,show ("; ":Str)=a3v from by decide +kernel];lia
    ·have:=k H3 (s2.trans ss);rw[show a0v (nx,wx,ls)=hdD (nx,wx,ls)++(" ":Str)++Str.join ("; ":Str) (ls.map a1f) from by rw[show (" ":Str)=⟨#[32]⟩ from by decide +kernel,show ("; ":Str)=a3v from by decide +kernel];exact z01 hne] at this;exact this
theorem c4e (T:Tx K mg):T.b2v.Ok P w base 4 d7b:=by
 refine okF T.b2v.F c4o λ _ _ _ _ _ _ _ _ hr h=>?_
 ·obtain⟨v,⟨kx,ns⟩,rfl,ht,h1,h2,k⟩:=h;refine⟨_,(a0f (a0p (a0l a0r (a0l a0r (a0l a0r a0j (pcF T.a6f (a7b T) hr (a0a (pix a1c (pv 0) a0e) a0b))) a0j) (a2l z0y z2h z32 b0r a0j (a0a (pcf ["number"] [] [] (a0z (pix a1c (pv 0) a0e)) (pgn 0) a2y (a0l a0r a0j (pcF T.a6f (a7b T) hr (a0a (pv 0) a0b)))) a0b))))),?_⟩;obtain⟨a,b,rfl,ha,hb⟩:=ht.make;dsimp only at hb ha;have z9:(2000000:Nat)<=sizeLine:=by decide
  have l1:=a1z h1.1;dsimp only at l1;have hc:ns.length+1<=20000:=h2;have c1:(" ":Str).length=1:=by decide +kernel
  have c2:(":":Str).length=1:=by decide +kernel
  have c3:("make ":Str).length=5:=by decide +kernel
  refine nx27 _ rfl a _ _ _ rfl rfl (SqT.of ha) (a0k (j:=0) rfl) kx rfl h1.1 λ H2 s2=>?_;refine nx7 _ _ rfl rfl (by show ("make ":Str).length+(num kx).length<=_;lia) (nx25 _ _ rfl rfl (by show (("make ":Str)++num kx).length+(":":Str).length<=_;rw[z0d];lia) rfl (nx27 _ rfl a _ _ _ rfl rfl (SqT.of (s2 _ _ ha)) (a0k (j:=1) rfl) b rfl ⟨_,SqL.of (s2 _ _ hb)⟩ ?_));refine a8h (k:=1) (fs:=[]) ns PyData.int (λ n=>some (.str (⟨#[32]⟩++num n))) rfl (s2 _ _ hb) (Trs.ofInts ns) (by lia) (λ p hp H3 ts v R ss hts tr cont=>?_) (λ D H3 hD ss hd=>?_)
  ·obtain⟨t,rfl⟩:=z10.mp hts;cases tr;have hbp:=h1.2 p hp;have lp:=a1z hbp;refine nx17 _ rfl p rfl hbp λ H4 s4=> nx7 _ _ rfl rfl (by show (" ":Str).length+(num p).length<=_;lia) ?_;have:=cont [some (.int p)] H4 rfl s4;rw[show (⟨#[32]⟩:Str)=(" ":Str) from by decide +kernel] at this;exact this
  ·rw[show ns.filterMap (λ n=>some (V.str (⟨#[32]⟩++num n)))=(ns.map λ n=>(⟨#[32]⟩:Str)++num n).map V.str from by rw[z0t,<-z1y];rfl] at hd;have hs:=c6w h1.2;have hj:=a5b ⟨#[]⟩ (ns.map λ n=>(⟨#[32]⟩:Str)++num n);have l0:(⟨#[]⟩:Str).length=0:=rfl;dsimp only at hs;rw[l0] at hj;refine nx2 _ D _ rfl rfl (SqL.of hd) ?_ (nx7 _ _ rfl rfl ?_ ?_)
   ·rw[show ("":Str)=⟨#[]⟩ from by decide +kernel,l0];lia
   ·show (("make ":Str)++num kx++(":":Str)).length+(Str.join ("":Str) (ns.map λ n=>(⟨#[32]⟩:Str)++num n)).length<=_;rw[z0d,z0d,show ("":Str)=⟨#[]⟩ from by decide +kernel];lia
   ·have:=k H3 (s2.trans ss);rw[show a1a (kx,ns)=("make ":Str)++num kx++(":":Str)++Str.join ("":Str) (ns.map λ n=>(⟨#[32]⟩:Str)++num n) from by rw[show ("make ":Str)=mkW from by decide +kernel,show ("":Str)=⟨#[]⟩ from by decide +kernel,show (":":Str)=⟨#[58]⟩ from by decide +kernel];rfl] at this;exact this
theorem b6p (T:Tx K mg):T.a7m.Ok P w base 5 d5v:=by
 refine okF T.a7m.F b5z λ _ _ _ _ _ _ Q _ hr h=>?_
 ·obtain⟨v,⟨dx,mx⟩,rfl,ht,h1,h2,k⟩:=h;refine⟨_,(a0f (a0p (a2l z0y z2h z32 b0r a0j (a0a (a0l a6l (pcf ["deal"] [] [] (a0z (pix a1c (pv 0) a0e)) (pgn 0) a2y (pcF T.b2w (c4u T) hr (a0a (pv 0) a0b))) (pcf ["made"] [] [] (a0z (pix a1c (pv 0) a0e)) (pgn 0) a2y (pcF T.b2v (c4e T) hr (a0a (pv 0) a0b)))) a0b)))),?_⟩;obtain⟨a,b,c,xs,ys,rfl,ha,hb,hc,hx,hy⟩:=ht.past;dsimp only at hx hy;have z9:(2000000:Nat)<=sizeLine:=by decide
  have hc2:(dx.map cD).sum+(mx.map cM).sum<=20000:=h2;have hll:=a1x c6l (l:=dx);have hlm:=a1x c6k (l:=mx);refine ⟨rfl,nx27 _ rfl a _ _ _ rfl rfl (SqT.of ha) (a0k (j:=0) rfl) b rfl ⟨_,SqL.of hb⟩ ?_⟩;refine a8h (k:=1) (fs:=[]) dx a3a (λ n=>some (.str (a0v n))) rfl hb hx (by lia) (λ p hp H3 ts v R ss hts tr cont=>?_) (λ D H3 hD ss hd=>?_)
  ·obtain⟨t,rfl⟩:=z10.mp hts;have:=a1r (f:=cD) hp;exact nx19 _ rfl v p rfl tr (h1.1 p hp) ⟨by lia,λ H4 s4=>cont [_] H4 rfl s4⟩
  refine nx27 _ rfl a _ _ _ rfl rfl (SqT.of (ss _ _ ha)) (a0k (j:=1) rfl) c rfl ⟨_,SqL.of (ss _ _ hc)⟩ ?_;refine a8h (k:=1) (fs:=[]) mx a3l (λ n=>some (.str (a1a n))) rfl (ss _ _ hc) (hy.same ss) (by lia) (λ p hp H4 ts v R s4 hts tr cont=>?_) (λ D2 H4 hD2 s4 hd2=>?_)
  ·obtain⟨t,rfl⟩:=z10.mp hts;have:=a1r (f:=cM) hp;exact nx19 _ rfl v p rfl tr (h1.2 p hp) ⟨by lia,λ H5 s5=>cont [_] H5 rfl s5⟩
  rw[show dx.filterMap (λ p=>some (V.str (a0v p)))=(dx.map a0v).map V.str from by rw[z0t,<-z1y];rfl] at hd;rw[show mx.filterMap (λ p=>some (V.str (a1a p)))=(mx.map a1a).map V.str from by rw[z0t,<-z1y];rfl] at hd2;have hs:=c6e h1;have hcp:cP (dx,mx)<=20000:=h2;refine nx24 D D2 _ _ rfl rfl (s4 _ _ hd) hd2 (by rw[z03,z03,z03,z03];lia) λ q hq=>?_;refine nx2 _ q (dx.map a0v++mx.map a1a) rfl rfl (SqL.of (by rw[z0m];exact a0c)) ?_ ?_
  ·have:("\n":Str).length=1:=by decide +kernel
   rw[this,z0r,z03,z03];dsimp only at hs;lia
  ·have e:a5f (dx,mx)=Str.join ("\n":Str) (dx.map a0v++mx.map a1a):=by rw[show ("\n":Str)=⟨#[10]⟩ from by decide +kernel];rfl
   show Q (V.str (Str.join ("\n":Str) (dx.map a0v++mx.map a1a))) _;rw[<-e];exact k _ ((ss.trans s4).trans (Same.upd hq))
--@STAGE
theorem b3w (x:Str):∀ ls:List Str,inV (V.str x) (ls.map V.str)=decide (x∈ls)
 | []=>by simp[inV]
 | l::r=>by
  have ih:=b3w x r;have e:inV (V.str x) ((l::r).map V.str)=((l == x) || inV (V.str x) (r.map V.str)):=rfl;rw[e,ih];by_cases h:l=x
  ·subst h;simp
  ·have h2:¬ x=l:=λ z=>h z.symm
   simp[h,h2]
theorem d6u (xs:List V):d5p xs (some 1) none=xs.tail:=by
 cases xs with
 | nil=>rfl
 | cons x r =>
  show ((x::r).drop (min 1 (r.length+1))).take (r.length+1 - min 1 (r.length+1))=r;rw[show min 1 (r.length+1)=1 by lia];show r.take (r.length+1 - 1)=r;rw[Nat.add_sub_cancel,z16]
theorem b6t:∀ ns:List Int,((List.range (ns.length - 1)).map λ i=>decide (ns.getD i 0 < ns.getD (i+1) 0)).all id=a3s ns
 | []=>rfl
 | [a]=>rfl
 | a::b::r=>by
  have ih:=b6t (b::r);show ((List.range (r.length+1)).map _).all id=(decide (a < b) && a3s (b::r));rw[List.range_succ_eq_map,z0q,List.all_cons,z0t,<-ih];rfl
theorem b2l:∀ {ns:List Int},a3s ns=true->ns.Pairwise (· < ·)
 | [],_=>.nil
 | [a],_=>.cons (λ _ h=>by cases h) .nil
 | a::b::r,h=>by
  have h':(decide (a < b) && a3s (b::r))=true:=h;rw[z13] at h';have ih:=b2l h'.2;refine .cons (λ x hx=>?_) ih;have hab:a < b:=z0b h'.1;rcases z06.mp hx with rfl | hx
  ·exact hab
  ·exact Int.lt_trans hab ((z2r.mp ih).1 x hx)
theorem c3e:∀ {ns:List Int},ns.Pairwise (· < ·)->a3s ns=true
 | [],_=>rfl
 | [a],_=>rfl
 | a::b::r,h=>by
  obtain⟨h1,h2⟩:=z2r.mp h;show (decide (a < b) && a3s (b::r))=true;rw[z07 (h1 b z0g),c3e h2];rfl
theorem bls {α:Type} (as:List α) (f:α->Bool):as.filterMap (λ a=>some (V.bl (f a)))=(as.map f).map V.bl:=by rw[z0t,<-z1y];rfl
theorem c2n {α:Type} (as:List α) (f:α->Bool):(as.map f).all id=as.all f:=by rw[List.all_map];rfl
theorem Mks.same {H H':Hp} {d:Addr} {ms:List Mkr} (h:Mks H d ms) (s:Same H H'):Mks H' d ms:=by
 obtain⟨kvs,h1,h2⟩:=h;exact⟨kvs,s _ _ h1,λ k=>(h2 k).imp (λ ⟨l,e1,e2⟩=>⟨l,e1,s _ _ e2⟩) id⟩
theorem e0z {r:List (Key×V)} {k:Key} (h:(r.any λ kv=>decide (kv.1=k))=false):a6s r k v=r++[(k,v)]:=by
 unfold a6s;rw[h];rfl
theorem b9g:∀ (l a:List (Key×V)),((a++l).map (·.1)).Nodup->b0o a l=a++l
 | [],a,_=>by simp[b0o]
 | q::r,a,h=>by
  have e:a6s a q.1 q.2=a++[q]:=e0z (by
   rw[List.any_eq_false];intro kv hk z;have z':kv.1=q.1:=z0b z;rw[z0m,z0q,z44] at h;exact h.2.2 kv.1 (z0a.mpr ⟨kv,hk,rfl⟩) q.1 z0g z')
  show b0o (a6s a q.1 q.2) r=_;rw[e,b9g r (a++[q]) (by simpa using h)];simp
theorem d3k {H:Hp}:∀ {ms:List Mkr} {ys:List V},Trs H ys (ms.map a3l)->∃ ps:List (Key×V),e2t K H ys ps/\ps.map (·.1)=ms.map (λ m=>(Sum.inl m.1:Key))/\∀ k:Int,(∃ l,a6i ps (Sum.inl k)=some (.ref l)/\H l=some (.lst ((b7j ms k).map V.int)))\/(a6i ps (Sum.inl k)=none/\b7j ms k=[])
 | [],_,.nil=>⟨[],.nil,rfl,λ k=>.inr ⟨rfl,rfl⟩⟩
 | m::r,_,.cons h q=>by
  obtain⟨ps,p1,p2,p3⟩:=d3k q;obtain⟨a,b,rfl,ha,hb⟩:=h.make;refine⟨(Sum.inl m.1,.ref b)::ps,.cons (SqT.of ha) p1,by rw[z0q,p2];rfl,λ k=>?_⟩;by_cases e:m.1=k
  ·subst e;refine .inl ⟨b,?_,?_⟩
   ·simp[a6i]
   ·rw[hb];simp[b7j]
  ·have e1:a6i ((Sum.inl m.1,V.ref b)::ps) (Sum.inl k:Key)=a6i ps (Sum.inl k):=by
    have:decide ((Sum.inl m.1:Key)=Sum.inl k)=false:=z0v λ z=>e (z2k z)
    unfold a6i;rw[z1t];dsimp only;rw[this]
   have e2:b7j (m::r) k=b7j r k:=by
    unfold b7j;rw[z1t];have:(m.1 == k)=false:=by simpa using e
    rw[this]
   rw[e1,e2];exact p3 k
theorem c8w (T:Tx K mg):T.b5e.Ok P w base 1 e4k:=by
 refine okF T.b5e.F c8n λ _ _ _ _ H _ Q _ _ h=>?_
 ·obtain⟨x,rfl,k⟩:=h;refine⟨_,(a0f (a0p (a4p a8v (pv 0) (a6t (v:=V.ref T.a5h) rfl T.b8f rfl) rfl))),?_⟩;refine nx19 _ rfl T.a5h (a8r.map V.str) rfl (.inr (T.b8d _)) rfl ⟨rfl,?_⟩;show Q (V.bl (inV (V.str x) (a8r.map V.str))) H;rw[b3w];exact k
theorem c3t (T:Tx K mg):T.c2o.Ok P w base 1 e3k:=by
 refine okF T.c2o.F e2p λ _ _ _ _ H _ _ _ _ h=>?_
 ·obtain⟨a,ns,rfl,ha,hl,k⟩:=h;refine⟨_,(a0f (a0p (a0q (a6c rfl) (by rfl) T.b9e boot_all (a0a (pcf ["one","other"] [] [] (d8u rfl T.d4t (a0a (pv 0) (a0a (a0y a5r (pv 0) (a1h a0e) a1u) a0b))) (c2z (K:=K) (n:=2) rfl rfl (a0w (pgn 0) (a0w (pgn 1) a4h))) a2y (a4p b3e (pv 0) (pv 1) (a0o _))) a0b)))),?_⟩;have z9:(20000:Nat)<=sizeLine:=by decide
  refine nx30 _ rfl _ rfl 1 rfl a _ rfl (SqL.of ha) λ p hp=>?_;rw[d6u];have s1:=Same.upd (o:=HO.lst (ns.map V.int).tail) hp;have ha1:=s1 _ _ ha;have hp1:upd H p (.lst (ns.map V.int).tail) p=some (.lst (ns.map V.int).tail):=a0c;generalize upd H p (.lst (ns.map V.int).tail)=H1 at *;have hln:(ns.map V.int).tail.length=ns.length - 1:=by rw[List.length_tail,z03]
  refine nx39 _ _ _ _ rfl (.list (SqL.of ha1)) (.list (SqL.of hp1)) (b2k (k:=2) (fs:=[]) (ns.length - 1) (λ i=>some (.bl (decide (ns.getD i 0 < ns.getD (i+1) 0)))) rfl (by lia) (λ i H2 ss hi=>⟨(a1s (SqL.of (ss _ _ ha1))).go i (by rw[z03];lia),(a1s (SqL.of (ss _ _ hp1))).go i (by lia)⟩) (λ H2 ss=>?_) ?_ ?_)
  ·rcases z54 ns.length with z | z
   ·exact .inl ((a1s (SqL.of (ss _ _ ha1))).stop _ (by rw[z03];lia))
   ·exact .inr ⟨(a1s (SqL.of (ss _ _ ha1))).go _ (by rw[z03];lia),(a1s (SqL.of (ss _ _ hp1))).stop _ (by lia)⟩
  ·rintro i H2 ts v H3 R ss hi hts ⟨q,x,y,y1,y2,rfl,hq,rfl⟩ cont;have e1:=(a1s (SqL.of (ss _ _ ha1))).yld i x H2 y1;have e2:=(a1s (SqL.of (ss _ _ hp1))).yld i y H2 y2;rw[z0f,z0c (show i < ns.length by lia)] at e1;rw[List.getElem?_tail,z0f,z0c (show i+1 < ns.length by lia)] at e2;cases e1;cases e2;obtain⟨t1,t2,rfl⟩:∃ t1 t2,ts=[t1,t2]:=My.us2 hts;have c:=cont [some (.int ns[i]),some (.int ns[i+1])] (upd H2 q (.tup [.int ns[i],.int ns[i+1]])) rfl (Same.upd hq);rw[show ns.getD i 0=ns[i] from by rw[z41,z0c (show i < ns.length by lia)];rfl,show ns.getD (i+1) 0=ns[i+1] from by rw[z41,z0c (show i+1 < ns.length by lia)];rfl] at c;exact nx34 q _ rfl (SqT.of a0c) rfl _ _ rfl _ _ rfl ⟨rfl,nx15 _ rfl _ rfl _ _ rfl rfl c⟩
  ·intro D H2 hD ss hd;rw[bls] at hd;refine nx0 D _ rfl (SqL.of hd) ?_;rw[b6t];exact k H2 (s1.trans ss)
theorem a7e:∀ ns:List Int,(ns.map V.int).all b9l=true
 | []=>rfl
 | _::r=>by rw[z0q,List.all_cons,a7e r];rfl
theorem c3q (T:Tx K mg):T.b2j.Ok P w base 1 e6c:=by
 refine okF T.b2j.F c4m λ _ _ _ _ _ _ Q _ hr h=>?_
 ·obtain⟨d,ms,n,⟨kx,sx⟩,rfl,⟨kvs,hd,hk⟩,k⟩:=h;have hu:=c8a hr;refine⟨_,(a0f (a0p (e5u (a4p a8v (pv 0) (a3p (a0a (a6t (v:=V.int (0)) rfl T.e2g ⟨_,rfl⟩) (a0a (a6t (v:=V.int (-1)) rfl T.b8h ⟨_,rfl⟩) a0b))) rfl) (b1l (b0i (a4p b6m (pv 0) (pv 2) (a0o _)) (b1l (a4p a8v (pv 0) (c5y hu (pv 3) (pv 1) (a1l a0b) ⟨rfl,rfl,rfl,rfl⟩) rfl))))))),?_⟩;dsimp only at *;refine⟨_,rfl,(by show 2<=sizeLine;decide),λ p hp=> nx14 p _ rfl (.inr (SqT.of a0c)) rfl rfl _ rfl ?_⟩;have s1:=Same.upd (o:=HO.tup [.int 0,.int (-1)]) hp;have e0:inV (.int sx) [.int 0,.int (-1)]=(decide (sx=0) || decide (sx=-1)):=by
   show (((0:Int) == sx) || (((-1:Int) == sx) || false))=_;rw[z1x,Bool.or_false,z48,z48,z2c,z2c,z5a,z5a];exact⟨λ h=>h.imp Eq.symm Eq.symm,λ h=>h.imp Eq.symm Eq.symm⟩
  refine a3o (λ e=>?_) (λ e=>?_)
  ·have e':(decide (sx=0) || decide (sx=-1))=true:=by rw[<-e0];exact e
   have:=k _ s1;rw[show b1q ms n (kx,sx)=true from by unfold b1q;rw[e'];rfl] at this;exact this
  ·have e':(decide (sx=0) || decide (sx=-1))=false:=by rw[<-e0];exact z28.mpr e
   have ei:b1q ms n (kx,sx)=(!decide (sx=n) && decide (sx∈b7j ms kx)):=by unfold b1q;rw[e'];rfl
   refine ⟨_,rfl,nx4 _ rfl rfl _ rfl (a3o (λ f=>?_) (λ f=>?_))⟩
   ·have f':decide (sx=n)=false:=by
     have:¬ sx=n:=by simpa using f
     exact z0v this
    refine nx6 _ rfl _ rfl (nx4 d rfl (.inl ⟨kvs,.inl (s1 _ _ hd)⟩) _ rfl ⟨(by show 0<=sizeLine;decide),λ q hq=>?_⟩);have s2:=s1.trans (Same.upd (o:=HO.lst []) hq);refine⟨_,b1j.k (k:=Sum.inl kx) (s2 _ _ hd),?_⟩;rcases hk kx with ⟨l,h1,h2⟩ | ⟨h1,h2⟩
    ·rw[h1];refine nx25 l _ rfl (.inl (SqL.of (s2 _ _ h2))) rfl (a7e _) ?_;show Q (V.bl (inV (.int sx) ((b7j ms kx).map V.int))) _;have:=k _ s2;rw[ei,f'] at this;rw[b3y];simpa using this
    ·rw[h1];refine nx25 q ([]) rfl (.inl (SqL.of a0c)) rfl rfl ?_;have:=k _ s2;rw[ei,f',h2] at this;exact this
   ·have f':decide (sx=n)=true:=by
     have:sx=n:=by simpa using f
     exact z07 this
    have:=k _ s1;rw[ei,f'] at this;exact this
theorem d1u (T:Tx K mg):T.b8o.Ok P w base 2 d7t:=by
 refine okF T.b8o.F d1r λ _ _ _ _ _ _ _ _ hr h=>?_
 ·obtain⟨v,d,ms,n,l,rfl,ht,hm,hc,k⟩:=h;obtain⟨a,xs,rfl,ha,hx⟩:=ht.look;refine⟨_,(a0f (a0p (b0i (pcF T.c2o (c3t T) hr (a0a (pcf ["pair"] [] [] (a0z (pv 0)) (pgn 0) a2y (pix (a4r (K:=K) rfl) (pv 0) a0e)) a0b)) (b1l (a0q (a6c rfl) (by rfl) T.b9e boot_all (a0a (pcf ["pair"] ["number","makers"] [1,2] (a0z (pv 0)) (pgn 0) a2y (pcF T.b2j (c3q T) hr (a0a (pix (a4r (K:=K) rfl) (pv 0) a0e) (a0a (pix (a4r (K:=K) rfl) (pv 0) a0e) (a0a (pv 1) (a0a (pv 2) a0b)))))) a0b)))))),?_⟩;have hl:xs.length=l.length:=by rw[hx.len,z03]
  have z9:(20000:Nat)<=sizeLine:=by decide
  have hcl:l.length+1<=20000:=hc;refine nx17 _ rfl a rfl ⟨_,SqL.of ha⟩ (a8h (k:=1) (fs:=[]) l a5g (λ p=>some (.int p.1)) rfl ha hx (by lia) (λ p hp H2 ts v R ss hts tr cont=>?_) (λ D H2 hD ss hd=>?_))
  ·obtain⟨t,rfl⟩:=z10.mp hts;obtain⟨b,rfl,hb⟩:=tr.pair;exact nx21 _ rfl b _ _ _ rfl rfl (SqT.of hb) (a0k (j:=0) rfl) (cont [_] _ rfl (Same.refl _))
  rw[show l.filterMap (λ p=>some (V.int p.1))=(l.map (·.1)).map V.int from by rw[z0t,<-z1y];rfl] at hd;refine nx7 D _ rfl hd (by rw[z03];lia) λ H3 s3=>⟨_,rfl,a3o (λ e=>?_) (λ e=>?_)⟩
  ·have s23:=ss.trans s3;refine nx17 _ rfl a rfl ⟨_,SqL.of (s23 _ _ ha)⟩ (a8h (k:=1) (fs:=[some (.int n),some (.ref d)]) l a5g (λ p=>some (.bl (b1q ms n p))) rfl (s23 _ _ ha) (hx.same s23) (by lia) (λ p hp H4 ts v R s4 hts tr cont=>?_) (λ D2 H4 hD2 s4 hd2=>?_))
   ·obtain⟨t,rfl⟩:=z10.mp hts;obtain⟨b,rfl,hb⟩:=tr.pair;exact nx21 _ rfl b _ _ _ rfl rfl (SqT.of hb) (a0k (j:=1) rfl) (nx9 _ rfl b _ _ _ rfl rfl (SqT.of hb) (a0k (j:=0) rfl) _ rfl (nx1 _ rfl d (nx29 ms n p rfl (hm.same (s23.trans s4)) λ H5 s5=>cont [_] H5 rfl s5)))
   ·rw[bls] at hd2;refine nx0 D2 _ rfl (SqL.of hd2) ?_;rw[c2n];have:=k H4 (s23.trans s4);rw[show c0g ms n l=l.all (b1q ms n) from by unfold c0g;rw[e];rfl] at this;exact this
  ·have:=k H3 (ss.trans s3);rw[show c0g ms n l=false from by unfold c0g;rw[z28.mpr e];rfl] at this;exact this
theorem d1x (T:Tx K mg):T.b9w.Ok P w base 3 e3h:=by
 refine okF T.b9w.F c0o λ _ _ _ _ H _ Q _ hr h=>?_
 ·obtain⟨v,d,ms,⟨nx,wx,ls⟩,rfl,ht,hm,hc,k⟩:=h;obtain⟨a,b,xs,rfl,ha,hb,hx⟩:=ht.deal;refine⟨_,(a0d (psx 2 c0o.nd (d6k e4w e4w a0e (pix a1c (pv 0) a0e) (a6t (v:=V.int (8)) rfl T.c2i ⟨_,rfl⟩)))
   (a0f (a0p (b0i (pv 2) (b0i (pcF T.b5e (c8w T) hr (a0a (pix a1c (pv 0) a0e) a0b)) (b1l (a0q (a6c rfl) (by rfl) T.b9e boot_all (a0a (pcf ["look"] ["deal","makers"] [0,1] (a0z (pix a1c (pv 0) a0e)) (pgn 0) a2y (pcF T.b8o (d1u T) hr (a0a (pv 0) (a0a (pix (a4r (K:=K) rfl) (pv 1) a0e) (a0a (pv 2) a0b))))) a0b)))))))),?_⟩
  dsimp only at ha hb hx;have hl:xs.length=ls.length:=by rw[hx.len,z03]
  have z9:(20000:Nat)<=sizeLine:=by decide
  have hcl:(ls.map cL).sum+wx.length+1<=20000:=hc;have hll:=a1x c6t (l:=ls);have tail:∀ (bb:Bool),c9h ms (nx,wx,ls)=(bb && decide (wx∈a8r) && ls.all (c0g ms nx))->d9c (b1a 2) (d9c (b8u e4k [] E0 (a6u (tOp (d4i K) (b1a 0) (tC (V.int 1))) c9k))
     (tCB (λ xs H_1 Q=>∃ p bs,xs=[V.ref p]/\SqL K H_1 p (List.map V.bl bs)/\Q (V.bl (bs.all id)) H_1)
      (a6u (b5m [Str.ofString "look"].length [0,1] (e3y K (tOp (d4i K) (b1a 0) (tC (V.int 2)))) (c4s 0) e7b
        (b8u d7t [] E0 (a6u (b1a 0) (a6u (tOp (d4i K) (b1a 1) (tC (V.int 0))) (a6u (b1a 2) c9k))))) c9k))) [some (.ref a),some (.ref d),some (.bl bb)] H Q:=λ bb hbb=>by
   refine nx6 _ rfl _ rfl (a3o (λ e=>?_) (λ e=>?_))
   ·rw[e,z2y] at hbb;refine nx21 _ rfl a _ _ _ rfl rfl (SqT.of ha) (a0k (j:=1) rfl) (nx6 wx rfl _ rfl (a3o (λ f=>?_) (λ f=>?_)))
    ·rw[f,z2y] at hbb;refine nx27 _ rfl a _ _ _ rfl rfl (SqT.of ha) (a0k (j:=2) rfl) b rfl ⟨_,SqL.of hb⟩ (a8h (k:=1) (fs:=[some (.ref a),some (.ref d)]) ls a4k (λ p=>some (.bl (c0g ms nx p))) rfl hb hx (by lia) (λ p hp H4 ts v R s4 hts tr cont=>?_) (λ D2 H4 hD2 s4 hd2=>?_))
     ·obtain⟨t,rfl⟩:=z10.mp hts;have:=a1r (f:=cL) hp;exact nx20 _ rfl _ rfl a _ _ _ rfl rfl (SqT.of (s4 _ _ ha)) (a0k (j:=0) rfl) (nx1 _ rfl v (nx8 d ms nx p rfl tr (hm.same s4) (by lia) λ H5 s5=>cont [_] H5 rfl s5))
     ·rw[bls] at hd2;refine nx0 D2 _ rfl (SqL.of hd2) ?_;rw[c2n];have:=k H4 s4;rw[hbb] at this;exact this
    ·have:=k H (Same.refl H);rw[hbb,z28.mpr f] at this;exact this
   ·have:=k H (Same.refl H);rw[hbb,z28.mpr e] at this;exact this
  have ei:c9h ms (nx,wx,ls)=(decide (1<=nx/\nx<=8) && decide (wx∈a8r) && ls.all (c0g ms nx)):=rfl;refine nx21 _ rfl a _ _ _ rfl rfl (SqT.of ha) (a0k (j:=0) rfl) (nx31 _ _ rfl rfl _ rfl (a3o (λ e=>?_) (λ e=>?_)))
  ·refine nx0 _ _ rfl rfl (tail _ ?_);rw[ei];have e1:1<=nx:=z0b e;congr 2;rw[z1x];simp[e1]
  ·refine tail _ ?_;rw[ei];have e1:¬ 1<=nx:=λ z=>e (z07 z)
   congr 2;simp[e1]
theorem d2r (T:Tx K mg):T.b8e.Ok P w base 1 e5h:=by
 refine okF T.b8e.F c2m λ _ _ _ _ H _ _ _ _ h=>?_
 ·obtain⟨v,q,ds,⟨kx,ns⟩,rfl,ht,hq,hl,k⟩:=h;obtain⟨a,b,rfl,ha,hb⟩:=ht.make;refine⟨_,(a0d (psx 2 c2m.nd (a4p a2j (d3h (K:=K) rfl rfl rfl T.a4f rfl T.e0o (a0a (pix a1c (pv 0) a0e) a0b)) (a0q a1k (by rfl) T.a4f z0z (a0a (pix a1c (pv 0) a0e) a0b)) (a0o _)))
   (a0f (a0p (b0i (pv 2) (b1l (a0q (a6c rfl) (by rfl) T.b9e boot_all (a0a (pcf ["number"] ["numbers"] [1] (a0z (pix a1c (pv 0) a0e)) (pgn 0) a2y (a4p (c7r (K:=K) rfl) (pv 0) (pv 1) rfl)) a0b))))))),?_⟩
  dsimp only at *;have z9:(4000:Nat)<=sizeLine:=by decide
  refine nx21 _ rfl a _ _ _ rfl rfl (SqT.of ha) (a0k (j:=1) rfl) (nx7 b ns rfl (SqL.of hb) hl (nx21 _ rfl a _ _ _ rfl rfl (SqT.of ha) (a0k (j:=1) rfl) (nx7 _ _ rfl (.inl ⟨_,SqL.of hb,rfl⟩) rfl ?_)));have ei:d2x ds (kx,ns)=(decide ((dd ns).length=ns.length) && ns.all λ n=>decide (n∈ds.map (·.1))):=rfl;have ee:decide (V.int ((dd ns).length:Int)=V.int ((ns.map V.int).length:Int))=decide ((dd ns).length=ns.length):=by
   rw[z03,z1x];simp[Int.ofNat_inj]
  rw[ee];refine nx6 _ rfl _ rfl (a3o (λ e=>?_) (λ e=>?_))
  ·refine nx27 _ rfl a _ _ _ rfl rfl (SqT.of ha) (a0k (j:=1) rfl) b rfl ⟨_,SqL.of hb⟩ (a8h (k:=1) (fs:=[some (.ref q)]) ns PyData.int (λ n=>some (.bl (decide (n∈ds.map (·.1))))) rfl hb (Trs.ofInts ns) (by lia) (λ p hp H4 ts v R s4 hts tr cont=>?_) (λ D2 H4 hD2 s4 hd2=>?_))
   ·obtain⟨t,rfl⟩:=z10.mp hts;cases tr;refine nx6 _ rfl _ rfl (nx25 q _ rfl (.inl (SqL.of (s4 _ _ hq))) rfl (a7e _) ?_);have:=cont [some (.int p)] _ rfl (Same.refl _);show R (some (V.bl (inV (.int p) ((ds.map (·.1)).map V.int)))) _ _;rw[b3y];simpa using this
   ·rw[bls] at hd2;refine nx0 D2 _ rfl (SqL.of hd2) ?_;rw[c2n];have:=k H4 s4;rw[ei,e,z2y] at this;exact this
  ·have:=k H (Same.refl H);rw[ei,z28.mpr e] at this;exact this
theorem c1q (T:Tx K mg):T.b0k.Ok P w base 4 e3f:=by
 refine okF T.b0k.F a9d λ _ _ _ _ H _ Q _ hr h=>?_
 ·obtain⟨v,⟨dx,mx⟩,rfl,ht,hc2,h4,k⟩:=h;obtain⟨a,b,c,xs,ys,rfl,ha,hb,hc,hx,hy⟩:=ht.past;have hu:=c8a hr;refine⟨_,(a0d (psx 1 a9d.nd (pcf ["deal"] [] [] (a0z (pix a1c (pv 0) a0e)) (pgn 0) a2y (pix (a4r (K:=K) rfl) (pv 0) a0e)))
   (a0d (a1g (PW.pt (a8t (a6n (a3q (pcF T.c2o (c3t T) hr (a0a (pv 1) a0b)))) (a6k (a6n (a3q (pcF T.c2o (c3t T) hr (a0a (pcf ["made"] [] [] (a0z (pix a1c (pv 0) a0e)) (pgn 0) a2y (pix (a4r (K:=K) rfl) (pv 0) a0e)) a0b)))))))
   (a0f (a0p a7l))
   a0n)
   (a0d (psx 2 a9d.nd (a2i (b7z (K:=K) rfl rfl) (by rfl) T.c6b boot_dict (a0a (pix a1c (pv 0) a0e) a0b)))
   (a0f (a0p (b0i (a0q (a6c rfl) (by rfl) T.b9e boot_all (a0a (pcf ["deal"] ["makers"] [2] (a0z (pix a1c (pv 0) a0e)) (pgn 0) a2y (pcF T.b9w (d1x T) hr (a0a (pv 0) (a0a (pv 1) a0b)))) a0b)) (b1l (a0q (a6c rfl) (by rfl) T.b9e boot_all (a0a (pcf ["made"] ["numbers"] [1] (a0z (pix a1c (pv 0) a0e)) (pgn 0) a2y (pcF T.b8e (d2r T) hr (a0a (pv 0) (a0a (pv 1) a0b)))) a0b))))))))),?_⟩
  dsimp only at *;have z9:(20000:Nat)<=sizeLine:=by decide
  have hcp:(dx.map cD).sum+(mx.map cM).sum<=20000:=hc2;have hll:=a1x c6l (l:=dx);have hlm:=a1x c6k (l:=mx);have ei:c0f (dx,mx)=(a3s (dx.map (·.1)) && a3s (mx.map (·.1)) && dx.all (c9h mx) && mx.all (d2x dx)):=rfl;refine nx27 _ rfl a _ _ _ rfl rfl (SqT.of ha) (a0k (j:=0) rfl) b rfl ⟨_,SqL.of hb⟩ (a8h (k:=1) (fs:=[]) dx a3a (λ d=>some (.int d.1)) rfl hb hx (by lia) (λ p hp H2 ts v R ss hts tr cont=>?_) (λ D H2 hD s2 hd=>?_))
  ·obtain⟨t,rfl⟩:=z10.mp hts;obtain⟨p1,p2,ps,rfl,hp1,_,_⟩:=tr.deal;exact nx21 _ rfl p1 _ _ _ rfl rfl (SqT.of hp1) (a0k (j:=0) rfl) (cont [_] _ rfl (Same.refl _))
  rw[show dx.filterMap (λ p=>some (V.int p.1))=(dx.map (·.1)).map V.int from by rw[z0t,<-z1y];rfl] at hd;have fin1:∀ H3,Same H H3->(a3s (dx.map (·.1)) && a3s (mx.map (·.1)))=false->Q (.bl false) H3:=λ H3 s3 e=>by
   have:=k H3 s3;rw[ei,e] at this;exact this
  refine nx19 _ rfl D _ rfl hd (by rw[z03];lia) λ H3 s3=>⟨_,rfl,a3o (λ e=>?_) (λ e=>?_)⟩
  ·have e':a3s (dx.map (·.1))=false:=by simpa using e
   exact fin1 H3 (s2.trans s3) (by rw[e'];rfl)
  have e1:a3s (dx.map (·.1))=true:=by simpa using e
  have s23:=s2.trans s3;refine nx27 _ rfl a _ _ _ rfl rfl (SqT.of (s23 _ _ ha)) (a0k (j:=1) rfl) c rfl ⟨_,SqL.of (s23 _ _ hc)⟩ (a8h (k:=1) (fs:=[]) mx a3l (λ d=>some (.int d.1)) rfl (s23 _ _ hc) (hy.same s23) (by lia) (λ p hp H4 ts v R ss hts tr cont=>?_) (λ D2 H4 hD2 s4 hd2=>?_))
  ·obtain⟨t,rfl⟩:=z10.mp hts;obtain⟨p1,p2,rfl,hp1,_⟩:=tr.make;exact nx21 _ rfl p1 _ _ _ rfl rfl (SqT.of hp1) (a0k (j:=0) rfl) (cont [_] _ rfl (Same.refl _))
  rw[show mx.filterMap (λ p=>some (V.int p.1))=(mx.map (·.1)).map V.int from by rw[z0t,<-z1y];rfl] at hd2;refine nx7 D2 _ rfl hd2 (by rw[z03];lia) λ H5 s5=>⟨_,rfl,a3o (λ f=>?_) (λ f=>?_)⟩
  ·have e':a3s (mx.map (·.1))=false:=by simpa using f
   exact fin1 H5 (s23.trans (s4.trans s5)) (by rw[e'];exact Bool.and_false _)
  have e2:a3s (mx.map (·.1))=true:=by simpa using f
  have s45:=s23.trans (s4.trans s5);obtain⟨ps,pr1,pr2,pr3⟩:=d3k (K:=K) (hy.same s45);have hpl:ps.length=mx.length:=by
   have:=z0e List.length pr2;rw[z03,z03] at this;exact this
  have hnd:(ps.map (·.1)).Nodup:=by
   rw[pr2];have:=b2l e2;rw[z2p] at this;unfold List.Nodup;rw[z2p];exact this.imp λ h z=>absurd (z2k z) (Int.ne_of_lt h)
  refine nx21 _ rfl a _ _ _ rfl rfl (SqT.of (s45 _ _ ha)) (a0k (j:=1) rfl) (nx2 c ys ps rfl (s45 _ _ hc) pr1 (by lia) λ dd hdd=>?_);rw[b9g ps [] (by simpa using hnd)];have s6:=s45.trans (Same.upd (o:=HO.dK ([]++ps)) hdd);have hM:Mks (upd H5 dd (.dK ([]++ps))) dd mx:=⟨ps,a0c,λ k=>(pr3 k).imp (λ ⟨l,q1,q2⟩=>⟨l,q1,(Same.upd (o:=HO.dK ([]++ps)) hdd) _ _ q2⟩) id⟩;have hd6:upd H5 dd (.dK ([]++ps)) D=some (.lst ((dx.map (·.1)).map V.int)):=(Same.upd (o:=HO.dK ([]++ps)) hdd) _ _ ((s3.trans (s4.trans s5)) _ _ hd);generalize upd H5 dd (.dK ([]++ps))=H6 at *;have ei2:c0f (dx,mx)=(dx.all (c9h mx) && mx.all (d2x dx)):=by rw[ei,e1,e2];rfl
  refine nx27 _ rfl a _ _ _ rfl rfl (SqT.of (s6 _ _ ha)) (a0k (j:=0) rfl) b rfl ⟨_,SqL.of (s6 _ _ hb)⟩ (a8h (k:=1) (fs:=[some (.ref dd)]) dx a3a (λ d=>some (.bl (c9h mx d))) rfl (s6 _ _ hb) (hx.same s6) (by lia) (λ p hp H7 ts v R ss hts tr cont=>?_) (λ D3 H7 hD3 s7 hd3=>?_))
  ·obtain⟨t,rfl⟩:=z10.mp hts;have:=a1r (f:=cD) hp;exact nx20 _ rfl _ rfl v dd mx p rfl tr (hM.same ss) (by lia) λ H8 s8=>cont [_] H8 rfl s8
  rw[bls] at hd3;refine nx31 D3 _ rfl (SqL.of hd3) _ rfl ?_;rw[c2n];have s67:=s6.trans s7;refine a3o (λ g=>?_) (λ g=>?_)
  ·rw[g,z2y] at ei2;refine nx27 _ rfl a _ _ _ rfl rfl (SqT.of (s67 _ _ ha)) (a0k (j:=1) rfl) c rfl ⟨_,SqL.of (s67 _ _ hc)⟩ (a8h (k:=1) (fs:=[some (.ref D)]) mx a3l (λ d=>some (.bl (d2x dx d))) rfl (s67 _ _ hc) (hy.same s67) (by lia) (λ p hp H8 ts v R ss hts tr cont=>?_) (λ D4 H8 hD4 s8 hd4=>?_))
   ·obtain⟨t,rfl⟩:=z10.mp hts;exact nx20 _ rfl _ rfl v D dx p rfl tr (ss _ _ (s7 _ _ hd6)) (h4 p hp) λ H9 s9=>cont [_] H9 rfl s9
   ·rw[bls] at hd4;refine nx0 D4 _ rfl (SqL.of hd4) ?_;rw[c2n];have:=k H8 (s67.trans s8);rw[ei2] at this;exact this
  ·have:=k H7 s67;rw[ei2,z28.mpr g] at this;exact this
--@STAGE
section
open Builtin.Str PySem.StrLaws
theorem c3n {x:Str} {c d i:Nat}:At x ⟨#[c,d]⟩ x.length i ↔ x.cps.toList[i]?=some c/\x.cps.toList[i+1]?=some d:=by
 constructor
 ·rintro⟨_,h⟩;rw[subAt_eq] at h;have e:(x.cps.toList.drop i).take 2=[c,d]:=eq_of_beq h;have e0:=z0e (λ l:List Nat=>l[0]?) e;have e1:=z0e (λ l:List Nat=>l[1]?) e;rw[List.getElem?_take,List.getElem?_drop] at e0 e1;exact⟨by simpa using e0,by simpa using e1⟩
 ·rintro⟨h1,h2⟩;obtain⟨l1,e1⟩:=z0i.mp h1;obtain⟨l2,e2⟩:=z0i.mp h2;refine⟨?_,?_⟩
  ·show i+2<=x.cps.size;rw[z21] at l2;lia
  ·rw[subAt_eq];show ((x.cps.toList.drop i).take 2 == [c,d])=true;rw[z4f l1,z4f l2,e1,e2];simp
theorem d4o {w t:Str} {c d:Nat} (h:c ∉ w.cps.toList):a6d (w++⟨#[c,d]⟩++t) ⟨#[c,d]⟩=[.str w,.str ⟨#[c,d]⟩,.str t]:=by
 have ec:(w++⟨#[c,d]⟩++t).cps.toList=w.cps.toList++c::d::t.cps.toList:=by
  rw[a0g,a0g];simp
 have el:(w++⟨#[c,d]⟩++t).length=w.cps.toList.length+(2+t.cps.toList.length):=by
  rw[a0t,ec,z0r,z12,z12];lia
 generalize w++⟨#[c,d]⟩++t=x at ec el;have hat:At x ⟨#[c,d]⟩ x.length w.cps.toList.length:=c3n.mpr ⟨by rw[ec,z2e (z04 _),Nat.sub_self];rfl,by rw[ec,z2e (by lia),show w.cps.toList.length+1 - w.cps.toList.length=1 by lia];rfl⟩;unfold a6d;rcases occ_head x ⟨#[c,d]⟩ 1 (z04 1) with ⟨_,hn⟩ | ⟨i,r,eo,ha,hn⟩
 ·exact absurd hat (hn _)
 ·have hi:i=w.cps.toList.length:=by
   rcases z4e i w.cps.toList.length with z | z | z
   ·have e:=(c3n.mp ha).1;rw[ec,z39 z] at e;exact absurd (z0h e) h
   ·exact z
   ·exact absurd hat (hn _ z)
  subst hi;rw[eo];have e1:strSub x 0 w.cps.toList.length=w:=z0n (by rw[strSub_toList,ec];simp);have e2:strSub x (w.cps.toList.length+(⟨#[c,d]⟩:Str).length) x.length=t:=z0n (by
   rw[strSub_toList,ec,el];show ((w.cps.toList++c::d::t.cps.toList).drop (w.cps.toList.length+2)).take _=_;rw[List.drop_append,z3j (by lia),List.nil_append,show w.cps.toList.length+2 - w.cps.toList.length=2 by lia];show (t.cps.toList).take _=_;exact z3f (by show _<=w.cps.toList.length+(2+t.cps.toList.length) - (w.cps.toList.length+2);lia))
  show [V.str (strSub x 0 w.cps.toList.length),_,V.str (strSub x (w.cps.toList.length+(⟨#[c,d]⟩:Str).length) x.length)]=_;rw[e1,e2]
theorem e0g {w:Str} {c d:Nat} (h:c ∉ w.cps.toList):a6d (w++⟨#[c]⟩) ⟨#[c,d]⟩=[.str (w++⟨#[c]⟩),.str Str.empty,.str Str.empty]:=by
 have ec:(w++⟨#[c]⟩).cps.toList=w.cps.toList++[c]:=by rw[a0g]
 unfold a6d;rcases occ_head (w++⟨#[c]⟩) ⟨#[c,d]⟩ 1 (z04 1) with ⟨eo,_⟩ | ⟨i,r,eo,ha,_⟩
 ·rw[eo]
 ·obtain⟨a1,a2⟩:=c3n.mp ha;rw[ec] at a1 a2;rcases Nat.lt_or_ge i w.cps.toList.length with z | z
  ·rw[z39 z] at a1;exact absurd (z0h a1) h
  ·rw[z2e (by lia)] at a2;rw[List.getElem?_eq_none (by rw[z1u];lia)] at a2;cases a2
theorem d2s {x:Str} {c:Nat} (h:c ∉ x.cps.toList):Txt.rstripChars x ⟨#[c]⟩=x:=by
 unfold Txt.rstripChars Txt.stripBy;have e:(x.cps.toList.drop 0).reverse.takeWhile (⟨#[c]⟩:Str).cps.contains=[]:=by
  cases q:(x.cps.toList.drop 0).reverse with
  | nil=>rfl
  | cons a r =>
   have ha:a∈x.cps.toList:=by
    have:a∈(x.cps.toList.drop 0).reverse:=by rw[q];exact z0g
    simpa using this
   have hc:¬ (⟨#[c]⟩:Str).cps.contains a=true:=λ z=>by
    have:a=c:=by simpa using z
    exact h (this ▸ ha)
   rw[z51,z01 hc]
 have e2:stripSame (⟨#[c]⟩:Str).cps.contains false true x=true:=by
  show ((0:Nat) == 0 && (x.length - ((x.cps.toList.drop 0).reverse.takeWhile (⟨#[c]⟩:Str).cps.contains).length == x.length))=true;rw[e];simp
 rw[z02 e2]
theorem c7z {x:Str} {c:Nat} (h:c ∉ x.cps.toList):Txt.rstripChars (x++⟨#[c]⟩) ⟨#[c]⟩=x:=by
 unfold Txt.rstripChars Txt.stripBy;have ec:(x++⟨#[c]⟩).cps.toList=x.cps.toList++[c]:=by rw[a0g]
 have e:(((x++⟨#[c]⟩:Str).cps.toList.drop 0).reverse.takeWhile (⟨#[c]⟩:Str).cps.contains)=[c]:=by
  rw[ec,List.drop_zero,List.reverse_append,List.reverse_singleton,List.singleton_append,z51,z02 (by simp)];congr 1;cases q:x.cps.toList.reverse with
  | nil=>rfl
  | cons a r =>
   have ha:a∈x.cps.toList:=by
    have:a∈x.cps.toList.reverse:=by rw[q];exact z0g
    simpa using this
   have hc:¬ (⟨#[c]⟩:Str).cps.contains a=true:=λ z=>by
    have:a=c:=by simpa using z
    exact h (this ▸ ha)
   rw[z51,z01 hc]
 have el:(x++⟨#[c]⟩:Str).length=x.length+1:=by rw[z0d];rfl
 have e2:stripSame (⟨#[c]⟩:Str).cps.contains false true (x++⟨#[c]⟩)=false:=by
  show ((0:Nat) == 0 && ((x++⟨#[c]⟩:Str).length - (((x++⟨#[c]⟩:Str).cps.toList.drop 0).reverse.takeWhile (⟨#[c]⟩:Str).cps.contains).length == (x++⟨#[c]⟩:Str).length))=false;rw[e,el];simp
 rw[z01 (by rw[e2];decide)];show strSub (x++⟨#[c]⟩) 0 ((x++⟨#[c]⟩:Str).length - (((x++⟨#[c]⟩:Str).cps.toList.drop 0).reverse.takeWhile (⟨#[c]⟩:Str).cps.contains).length)=x;rw[e,el];refine z0n ?_;rw[strSub_toList,ec,List.drop_zero];show (x.cps.toList++[c]).take (x.length+1 - 1 - 0)=_;rw[Nat.add_sub_cancel,Nat.sub_zero,a0t,List.take_left'];rfl
end
theorem c2d {n:Int} (h:Bd n):∀ c∈(num n).cps.toList,c=45\/dig c=true:=by
 intro c hc;by_cases hd:dig c=true
 ·exact .inr hd
 refine .inl ?_;have nd:dig c=false:=z28.mpr hd;obtain⟨t1,_,_,_⟩:=b1w h.1 h.2;unfold num at hc;by_cases h0:(Str.ofString (toString n)).cps.toList=[48]
 ·rw[h0] at hc;have:c=48:=by simpa using hc
  subst this;exact absurd rfl hd
 by_cases hf:c∈a8n (Str.ofString (toString n)).cps.toList
 ·rw[e1j hf nd h0] at t1;cases t1
 ·cases q:(Str.ofString (toString n)).cps.toList with
  | nil=>rw[q] at hc;cases hc
  | cons a r =>
   rw[q] at hc hf;by_cases ha:a=45
   ·have e:a8n (a::r)=r:=z02 ha;rw[e] at hf;rcases z06.mp hc with z | z
    ·lia
    ·exact absurd z hf
   ·have e:a8n (a::r)=a::r:=z01 ha;rw[e] at hf;exact absurd hc hf
theorem d8o {c:Nat} (h:dig c=true):48<=c/\c<=57:=by
 unfold dig at h;simpa using h
theorem a7i {n:Int} (h:Bd n) {c:Nat} (h1:c≠45) (h2:c < 48\/57 < c):c ∉ (num n).cps.toList:=λ hc=>by
 rcases c2d h c hc with z | z
 ·exact h1 z
 ·have:=d8o z;lia
theorem e3d {n:Int} (h:Bd n) {c:Nat} (h1:c≠45) (h2:c < 48\/57 < c) (h3:c≠63):c ∉ (b3f n).cps.toList:=by
 unfold b3f;split
 ·intro hc;have:c=63:=by simpa using hc
  exact h3 this
 ·exact a7i h h1 h2
theorem d3i {p:Pr} (hb:Bd p.1/\Bd p.2) {c:Nat} (h1:c≠45) (h2:c < 48\/57 < c) (h3:c≠63) (h4:c≠60):c ∉ (a1n p).cps.toList:=by
 unfold a1n;rw[a0g,a0g,z08,z08];rintro((z | z) | z)
 ·exact a7i hb.1 h1 h2 z
 ·exact h4 (by simpa using z)
 ·exact e3d hb.2 h1 h2 h3 z
theorem c5m {c x:Nat}:∀ {ps:List (List Nat)},x∈c0e c ps->x=c\/∃ p∈ps,x∈p
 | [],h=>by cases h
 | [p],h=>.inr ⟨p,z0g,h⟩
 | p::q::r,h=>by
  have h':x∈p++c::c0e c (q::r):=h;rcases z08.mp h' with z | z
  ·exact .inr ⟨p,z0g,z⟩
  ·rcases z06.mp z with z | z
   ·exact .inl z
   ·rcases c5m z with y | ⟨u,hu,y⟩
    ·exact .inl y
    ·exact .inr ⟨u,z0p _ hu,y⟩
theorem d0b {c d:Nat} {ls:List Str} (h1:c≠d) (h2:∀ x∈ls,c ∉ x.cps.toList):c ∉ (Str.join ⟨#[d]⟩ ls).cps.toList:=by
 rw[a9s];intro z;rcases c5m z with y | ⟨u,hu,y⟩
 ·exact h1 y
 ·obtain⟨x,hx,rfl⟩:=z0a.mp hu;exact h2 x hx y
theorem d1q {l:Lk} (hb:BdL l) {c:Nat} (h1:c≠45) (h2:c < 48\/57 < c) (h3:c≠63) (h4:c≠60) (h5:c≠32):c ∉ (a1f l).cps.toList:=by
 unfold a1f;split
 ·intro z;exact h1 (by simpa using z)
 ·refine d0b h5 λ x hx=>?_
  obtain⟨p,hp,rfl⟩:=z0a.mp hx;exact d3i (hb p hp) h1 h2 h3 h4
theorem e2n {c:Nat} {ls:List Str} (h1:c≠59) (h3:c≠32) (h2:∀ x∈ls,c ∉ x.cps.toList):c ∉ (Str.join a3v ls).cps.toList:=by
 induction ls with
 | nil=>intro z;cases z
 | cons a r ih =>
  cases r with
  | nil=>exact h2 a z0g
  | cons b q =>
   show c ∉ (a++a3v++Str.join a3v (b::q)).cps.toList;rw[a0g,a0g,z08,z08];rintro((z | z) | z)
   ·exact h2 a z0g z
   ·have:c=59\/c=32:=by simpa [a3v] using z
    lia
   ·exact ih (λ x hx=>h2 x (z0p _ hx)) z
theorem c2x {x:Str} (h:x∈a8r) {c:Nat} (h1:c < 97):c ∉ x.cps.toList:=by
 have key:∀ y∈a8r,∀ d∈y.cps.toList,97<=d:=by decide +kernel
 intro z;have:=key x h c z;lia
theorem d7u {d:Dl} (hb:BdD d) (hw:d.2.1∈a8r) {c:Nat} (h1:c < 45) (h2:c≠32):c ∉ (hdD d).cps.toList:=by
 unfold hdD;rw[a0g,a0g,a0g,z08,z08,z08];rintro(((z | z) | z) | z)
 ·exact a7i hb.1 (by lia) (by lia) z
 ·exact h2 (by simpa using z)
 ·exact c2x hw (by lia) z
 ·have:c=58:=by simpa using z
  lia
theorem d3g {d:Dl} (hb:BdD d) (hw:d.2.1∈a8r):10 ∉ (a0v d).cps.toList:=by
 unfold a0v;split
 ·exact d7u hb hw (by decide) (by decide)
 ·rw[a0g,a0g,z08,z08];rintro((z | z) | z)
  ·exact d7u hb hw (by decide) (by decide) z
  ·have:(10:Nat)=32:=by simpa using z
   lia
  ·refine e2n (by decide) (by decide) (λ x hx=>?_) z;obtain⟨l,hl,rfl⟩:=z0a.mp hx;exact d1q (hb.2 l hl) (by decide) (by decide) (by decide) (by decide) (by decide)
theorem b7b:∀ (ns:List Str),ns≠[]->Str.join ⟨#[]⟩ (ns.map λ n=>(⟨#[32]⟩:Str)++n)=⟨#[32]⟩++Str.join ⟨#[32]⟩ ns
 | [],h=>(h rfl).elim
 | [a],_=>rfl
 | a::b::r,_=>by
  have ih:=b7b (b::r) (by simp);show (⟨#[32]⟩:Str)++a++⟨#[]⟩++Str.join ⟨#[]⟩ ((b::r).map λ n=>(⟨#[32]⟩:Str)++n)=⟨#[32]⟩++(a++⟨#[32]⟩++Str.join ⟨#[32]⟩ (b::r));rw[ih];refine z0n ?_;simp only [a0g];simp
theorem b8x {m:Mkr} (h:m.2≠[]):a1a m=mkW++num m.1++⟨#[58,32]⟩++Str.join ⟨#[32]⟩ (m.2.map num):=by
 unfold a1a;have e:=b7b (m.2.map num) (by simpa using h);rw[z0t] at e;have e':Str.join ⟨#[]⟩ (m.2.map λ n=>(⟨#[32]⟩:Str)++num n)=⟨#[32]⟩++Str.join ⟨#[32]⟩ (m.2.map num):=e;rw[e'];refine z0n ?_;simp only [a0g];simp
theorem d1h {d:Dl} (h:d.2.2≠[]):a0v d=num d.1++⟨#[32]⟩++d.2.1++⟨#[58,32]⟩++Str.join a3v (d.2.2.map a1f):=by
 unfold a0v hdD;rw[z01 h];refine z0n ?_;simp only [a0g];simp
theorem d2p {m:Mkr} (hb:BdM m) (h:m.2≠[]):10 ∉ (a1a m).cps.toList:=by
 rw[b8x h,a0g,a0g,a0g,z08,z08,z08];rintro(((z | z) | z) | z)
 ·simp[mkW] at z
 ·exact a7i hb.1 (by decide) (by decide) z
 ·simp at z
 ·refine d0b (by decide) (λ x hx=>?_) z;obtain⟨n,hn,rfl⟩:=z0a.mp hx;exact a7i (hb.2 n hn) (by decide) (by decide)
theorem d1j {n:Int} (h:Bd n):∃ c r,(num n).cps.toList=c::r/\c≠109:=by
 cases q:(num n).cps.toList with
 | nil =>
  obtain⟨t1,_,_,_⟩:=b1w h.1 h.2;unfold num at q;rw[q] at t1;cases t1
 | cons c r =>
  refine nx12 c r rfl λ z=>?_;have:=a7i h (c:=109) (by decide) (by decide);rw[q,z] at this;exact this z0g
theorem c7u {x:Str} {c:Nat} {r:List Nat} (e:x.cps.toList=c::r) (h:c≠109):(decide (0+("make":Str).length<=x.length) && Builtin.Str.subAt x "make" 0)=false:=by
 rw[Bool.and_eq_false_iff];refine .inr ?_;rw[PySem.StrLaws.subAt_eq,e];rw[z28];intro z;have z':=eq_of_beq z;have l4:("make":Str).length=4:=by decide +kernel
 rw[l4,List.drop_zero,show ("make":Str).cps.toList=[109,97,107,101] from by decide +kernel] at z';have:=z0e (λ l:List Nat=>l[0]?) z';exact h (by simpa using this)
theorem c8l {x:Str} {r:List Nat} (e:x.cps.toList=109::97::107::101::r):(decide (0+("make":Str).length<=x.length) && Builtin.Str.subAt x "make" 0)=true:=by
 have l4:("make":Str).length=4:=by decide +kernel
 rw[z13];refine⟨z07 ?_,?_⟩
 ·rw[l4,a0t,e];simp
 ·rw[PySem.StrLaws.subAt_eq,e,l4,show ("make":Str).cps.toList=[109,97,107,101] from by decide +kernel];simp
--@STAGE
--@STAGE
theorem c0p {n:Int} (h:Bd n):(num n).length<=1000/\(∀ c∈(num n).cps.toList,c < 16 ^ 8)/\a2p (num n).cps.toList=true/\a3w (num n).cps.toList=n:=by
 obtain⟨t1,t2,t3,_⟩:=b1w h.1 h.2;refine⟨z0s t3 (by decide),λ c hc=>?_,t1,t2⟩;have:c<=57:=by
  rcases c2d h c hc with z | z
  ·lia
  ·exact(d8o z).2
 exact z3m this (by decide)
theorem c5e {H:Hp} {α:Type} (f:α->Str):∀ (l:List α),Trs H ((l.map f).map V.str) (l.map λ a=>PyData.str (f a))
 | []=>.nil
 | n::r=>.cons (.str (f n)) (c5e f r)
theorem d2j:∀ (l:List Str),(∀ x∈l,1<=x.length)->∀ s:Str,l.length<=(Str.join s l).length
 | [],_,_=>z0x _
 | [a],h,_=>h a z0g
 | a::b::r,h,s=>by
  have ih:=d2j (b::r) (λ x hx=>h x (z0p _ hx)) s;have h1:=h a z0g;show _<=(a++s++Str.join s (b::r)).length;rw[z0d,z0d,z12];lia
theorem d2q {s:Str}:∀ {l:List Str} {x:Str},x∈l->x.length<=(Str.join s l).length
 | [a],x,h=>by rw[z0o.mp h];exact z04 _
 | a::b::r,x,h=>by
  show _<=(a++s++Str.join s (b::r)).length;rw[z0d,z0d];rcases z06.mp h with rfl | h
  ·lia
  ·have:=d2q (s:=s) h;lia
theorem b9y {p:Prop} [Decidable p] {A B:Prop} (h:p) (b:B):if (!decide p)=true then A else B:=by
 rw[z07 h];exact b
theorem c4x {p:Prop} [Decidable p] {A B:Prop} (h:¬ p) (a:A):if (!decide p)=true then A else B:=by
 rw[z0v h];exact a
theorem b2q {d:Dl} (hb:Bd d.1):∃ c r,(a0v d).cps.toList=c::r/\c≠109:=by
 obtain⟨c,r,e,h⟩:=d1j hb;have hh:∃ q,(hdD d).cps.toList=c::q:=by
  unfold hdD;rw[a0g,a0g,a0g,e];exact⟨_,rfl⟩
 obtain⟨q,hq⟩:=hh;unfold a0v;split
 ·exact nx12 c q hq h
 ·rw[a0g,a0g,hq];exact nx12 c _ rfl h
theorem b7v (m:Mkr):∃ r,(a1a m).cps.toList=109::97::107::101::r:=by
 unfold a1a;rw[a0g,a0g,a0g];exact⟨_,rfl⟩
def a5x {α β:Type} (f:α->Option β):List α->Option (List β)
 | []=>some []
 | a::r=>match f a,a5x f r with
  | some b,some l=>some (b::l)
  | _,_=>none
theorem a5v {α β:Type} {f:α->Option β} {a:α} {r:List α} {m:List β} (h:a5x f (a::r)=some m):∃ b l,f a=some b/\a5x f r=some l/\m=b::l:=by
 unfold a5x at h;split at h
 ·next b l e1 e2=>cases h;exact nx0 b l e1 e2 rfl
 ·cases h
theorem a4j {α β:Type} {f:α->Option β}:∀ {l:List α} {a:α},a∈l->f a=none->a5x f l=none
 | b::r,a,h,e=>by
  cases q:a5x f (b::r) with
  | none=>rfl
  | some m =>
   obtain⟨x,l,e1,e2,_⟩:=a5v q;rcases z06.mp h with rfl | h
   ·rw[e] at e1;cases e1
   ·rw[a4j h e] at e2;cases e2
theorem b0x {α β:Type} {f:α->Option β}:∀ {l:List α},(∀ a∈l,f a≠none)->a5x f l=some (l.filterMap f)
 | [],_=>rfl
 | a::r,h=>by
  cases e:f a with
  | none=>exact absurd e (h a z0g)
  | some b =>
   unfold a5x;rw[e,b0x λ x hx=>h x (z0p _ hx),z1i,e]
theorem b8w {α β:Type} {f:α->Option β}:∀ {l:List α} {m:List β},a5x f l=some m->l.map f=m.map some
 | [],m,h=>by cases h;rfl
 | a::r,m,h=>by
  obtain⟨b,l,e1,e2,rfl⟩:=a5v h;rw[z0q,z0q,e1,b8w e2]
theorem a8w {α β:Type} {f:α->Option β} {g:β->α} (hg:∀ a b,f a=some b->g b=a):∀ {l:List α} {m:List β},a5x f l=some m->m.map g=l
 | [],m,h=>by cases h;rfl
 | a::r,m,h=>by
  obtain⟨b,l,e1,e2,rfl⟩:=a5v h;rw[z0q,hg a b e1,a8w hg e2]
theorem a7o {α β:Type} {f:α->Option β} {g:β->α}:∀ {m:List β},(∀ b∈m,f (g b)=some b)->a5x f (m.map g)=some m
 | [],_=>rfl
 | b::r,h=>by
  unfold a5x;rw[z0q];dsimp only;rw[h b z0g,a7o λ x hx=>h x (z0p _ hx)]
theorem a2m {α β:Type} {f:α->Option β} {P:β->Prop}:∀ {l:List α} {m:List β},(∀ a∈l,∀ b,f a=some b->P b)->a5x f l=some m->∀ b∈m,P b
 | [],m,_,h=>by cases h;intro b hb;cases hb
 | a::r,m,hp,h=>by
  obtain⟨b,l,e1,e2,rfl⟩:=a5v h;intro x hx;rcases z06.mp hx with rfl | hx
  ·exact hp a z0g x e1
  ·exact a2m (λ y hy=>hp y (z0p _ hy)) e2 x hx
theorem a7y {α β:Type} {f:α->Option β} {c:β->Nat} {d:α->Nat}:∀ {l:List α} {m:List β},(∀ a∈l,∀ b,f a=some b->c b<=d a)->a5x f l=some m->(m.map c).sum<=(l.map d).sum
 | [],m,_,h=>by cases h;exact z04 _
 | a::r,m,hp,h=>by
  obtain⟨b,l,e1,e2,rfl⟩:=a5v h;have h1:=hp a z0g b e1;have h2:=a7y (λ y hy=>hp y (z0p _ hy)) e2;simp only [z0q,z1j];lia
theorem b8a {α β:Type} {f:α->Option β} {l:List α} {m:List β} (h:a5x f l=some m):m.length=l.length:=by
 have:=z0e List.length (b8w h);rw[z03,z03] at this;exact this.symm
def a7k (x s:Str):Option (Str×Str):=match Builtin.Str.occurrences x s 0 x.length 1 with
 | []=>none
 | i::_=>some (Builtin.Str.strSub x 0 i,Builtin.Str.strSub x (i+s.length) x.length)
theorem a6g {x s a b:Str} (h:a7k x s=some (a,b)):a6d x s=[.str a,.str s,.str b]:=by
 unfold a7k at h;unfold a6d;split at h
 ·cases h
 ·next e=>cases h;rw[e]
theorem a7j {x s:Str} (h:a7k x s=none):a6d x s=[.str x,.str Str.empty,.str Str.empty]:=by
 unfold a7k at h;unfold a6d;split at h
 ·next e=>rw[e]
 ·cases h
theorem d7w {x s a b:Str} (hs:s≠Str.empty) (h:a6d x s=[.str a,.str s,.str b]):a7k x s=some (a,b):=by
 cases q:a7k x s with
 | none =>
  rw[a7j q] at h;have h1:V.str Str.empty=V.str s:=by injection h with _ h;injection h with h _
  exact absurd (V.str.inj h1).symm hs
 | some p =>
  obtain⟨u,v⟩:=p;rw[a6g q] at h;injection h with h1 h;injection h with _ h;injection h with h2 _;rw[V.str.inj h1,V.str.inj h2]
theorem d9n {x s a b:Str} (hs:s≠Str.empty) (h:a6d x s=[.str a,.str Str.empty,.str b]):a7k x s=none:=by
 cases q:a7k x s with
 | none=>rfl
 | some p =>
  obtain⟨u,v⟩:=p;rw[a6g q] at h;have h1:V.str s=V.str Str.empty:=by injection h with _ h;injection h with h _
  exact absurd (V.str.inj h1) hs
theorem c5c {x s a b:Str} (h:a7k x s=some (a,b)):∃ i,Builtin.Str.occurrences x s 0 x.length 1=i::(Builtin.Str.occurrences x s 0 x.length 1).tail/\a=Builtin.Str.strSub x 0 i/\b=Builtin.Str.strSub x (i+s.length) x.length/\i+s.length<=x.length/\a++s++b=x:=by
 rcases PySem.StrLaws.occ_head x s 1 (z04 1) with ⟨e,_⟩ | ⟨i,r,e,ha,_⟩
 ·unfold a7k at h;rw[e] at h;cases h
 ·have s1:=PySem.StrLaws.sub_cat x s (z0x i) ha;rw[PySem.StrLaws.sub_whole] at s1;unfold a7k at h;rw[e] at h;cases h;exact⟨i,by rw[e];rfl,rfl,rfl,ha.1,s1⟩
theorem a6q {x s a b:Str} (h:a7k x s=some (a,b)):a++s++b=x:=by
 obtain⟨_,_,_,_,_,e⟩:=c5c h;exact e
theorem b1m {c:Nat} {r:List Nat} {s:Str} (h:s.cps.toList=c::r):s≠Str.empty:=λ z=>by
 rw[z] at h;cases h
theorem b9b {w t:Str} {c:Nat} (h:c ∉ w.cps.toList):a7k (w++⟨#[c]⟩++t) ⟨#[c]⟩=some (w,t):=d7w (b1m (s:=⟨#[c]⟩) rfl) (e0f h)
theorem c3i {w t:Str} {c d:Nat} (h:c ∉ w.cps.toList):a7k (w++⟨#[c,d]⟩++t) ⟨#[c,d]⟩=some (w,t):=d7w (b1m (s:=⟨#[c,d]⟩) rfl) (d4o h)
theorem e4l {w:Str} {c d:Nat} (h:c ∉ w.cps.toList):a7k (w++⟨#[c]⟩) ⟨#[c,d]⟩=none:=d9n (b1m (s:=⟨#[c,d]⟩) rfl) (e0g h)
theorem b1e {a s b x:Str} (h:a++s++b=x):x.length=a.length+s.length+b.length:=by
 rw[<-h,z0d,z0d]
def a4d (x:Str):Option Int:=if a2p x.cps.toList=true then some (a3w x.cps.toList) else none
theorem a5a {x:Str} (h:a2p x.cps.toList=true):a4d x=some (a3w x.cps.toList):=by unfold a4d;rw[z02 h]
theorem a5u {x:Str} (h:a2p x.cps.toList=false):a4d x=none:=by unfold a4d;rw[z01 (by rw[h];simp)]
theorem a2o {x:Str} {n:Int} (h:a4d x=some n):Bd n/\num n=x/\1<=x.length:=by
 unfold a4d at h;split at h
 ·next z =>
  cases h;refine⟨c2a z,d6p z,?_⟩;rw[a0t];cases q:x.cps.toList with
  | nil=>rw[q] at z;cases z
  | cons c r=>simp
 ·cases h
theorem a6r {n:Int} (h:Bd n):a4d (num n)=some n:=by
 obtain⟨_,_,h1,h2⟩:=c0p h;rw[a5a h1,h2]
theorem b6z:a4d Str.empty=none:=a5u rfl
def c9i (b:Str):Option Int:=if b=⟨#[63]⟩ then some (-1) else a4d b
def d2z (b:Str):Option Int:=if b=⟨#[63]⟩ then some (-1) else (a4d b).bind λ s=>if 0<=s then some s else none
def b6i (f:Str->Option Int) (x:Str):Option Pr:=(a7k x ⟨#[60]⟩).bind λ q=>(a4d q.1).bind λ k=>(f q.2).map λ s=>(k,s)
abbrev b4e:=b6i c9i
abbrev b2x:=b6i d2z
def b8n (f:Str->Option Pr) (x:Str):Option Lk:=if x=⟨#[45]⟩ then some [] else a5x f (Txt.split x ⟨#[32]⟩)
abbrev b8j:=b8n b4e
abbrev b5x:=b8n b2x
theorem a2b {α β:Type} {o:Option α} {f:α->Option β} {b:β} (h:o.bind f=some b):∃ a,o=some a/\f a=some b:=Option.bind_eq_some_iff.mp h
theorem map_some {α β:Type} {o:Option α} {f:α->β} {b:β} (h:o.map f=some b):∃ a,o=some a/\f a=b:=z3d.mp h
theorem d7s:Bd (-1):=⟨by decide,by decide⟩
theorem c9u {b:Str} {s:Int} (h:c9i b=some s):Bd s:=by
 unfold c9i at h;split at h
 ·cases h;exact d7s
 ·exact(a2o h).1
theorem c5i {s:Int} (h:Bd s):c9i (b3f s)=some s:=by
 unfold c9i b3f;by_cases e:s=-1
 ·rw[z02 e,z02 rfl,e]
 ·rw[z01 e,z01,a6r h];intro z;have:=a7i h (c:=63) (by decide) (by decide);rw[z] at this;exact this z0g
theorem d6j {s:Int} (h:Bd s) (h1:-1<=s):d2z (b3f s)=some s:=by
 have h2:=c5i h;unfold c9i at h2;unfold d2z;split at h2
 ·next z=>rw[z02 z];exact h2
 ·next z =>
  rw[z01 z,h2];have e:¬ s=-1:=λ y=>z (by rw[y];rfl)
  exact z02 (by lia)
theorem c9m {b:Str} {s:Int} (h:d2z b=some s):Bd s/\b3f s=b/\-1<=s:=by
 unfold d2z at h;split at h
 ·next z=>cases h;exact⟨d7s,z.symm,by decide⟩
 ·obtain⟨n,e1,e2⟩:=a2b h;split at e2
  ·next z =>
   cases e2;obtain⟨b1,b2,_⟩:=a2o e1;refine⟨b1,?_,by lia⟩;unfold b3f;rw[z01 (by lia),b2]
  ·cases e2
theorem c9b {x:Str} {p:Pr} (h:b4e x=some p):Bd p.1/\Bd p.2:=by
 obtain⟨q,_,h⟩:=a2b h;obtain⟨k,e2,h⟩:=a2b h;obtain⟨s,e3,rfl⟩:=map_some h;exact⟨(a2o e2).1,c9u e3⟩
theorem b6w {x:Str} {p:Pr} (h:b2x x=some p):a1n p=x/\Bd p.1/\Bd p.2:=by
 obtain⟨⟨a,b⟩,e1,h⟩:=a2b h;obtain⟨k,e2,h⟩:=a2b h;obtain⟨s,e3,rfl⟩:=map_some h;obtain⟨b1,b2,_⟩:=a2o e2;obtain⟨c1,c2,_⟩:=c9m e3;refine⟨?_,b1,c1⟩;show num k++⟨#[60]⟩++b3f s=x;rw[b2,c2];exact a6q e1
theorem c5g {p:Pr} (h:Bd p.1):a7k (a1n p) ⟨#[60]⟩=some (num p.1,b3f p.2):=b9b (a7i h (by decide) (by decide))
theorem d5k {p:Pr} (h1:Bd p.1) (h2:Bd p.2):b4e (a1n p)=some p:=by
 unfold b4e b6i;rw[c5g h1];show (a4d (num p.1)).bind _=_;rw[a6r h1];show (c9i (b3f p.2)).map _=_;rw[c5i h2];rfl
theorem d3v {p:Pr} (h1:Bd p.1) (h2:Bd p.2) (h3:-1<=p.2):b2x (a1n p)=some p:=by
 unfold b2x b6i;rw[c5g h1];show (a4d (num p.1)).bind _=_;rw[a6r h1];show (d2z (b3f p.2)).map _=_;rw[d6j h2 h3];rfl
theorem c7k {l:Lk} (h:BdL l) (hne:l≠[]):a1f l≠⟨#[45]⟩/\Txt.split (a1f l) ⟨#[32]⟩=l.map a1n:=by
 have el:a1f l=Str.join ⟨#[32]⟩ (l.map a1n):=z01 hne;refine⟨λ z=>?_,?_⟩
 ·cases l with
  | nil=>exact hne rfl
  | cons p r =>
   have m:(60:Nat)∈(a1f (p::r)).cps.toList:=by
    rw[el];refine b8s _ _ (a1n p) (z0a.mpr ⟨p,z0g,rfl⟩) 60 ?_;unfold a1n;rw[a0g,a0g];simp
   rw[z] at m;simp at m
 ·rw[el];refine a9q (by simpa using hne) λ x hx=>?_
  obtain⟨p,hp,rfl⟩:=z0a.mp hx;exact d3i (h p hp) (by decide) (by decide) (by decide) (by decide)
theorem c7f {f:Str->Option Pr} {l:Lk} (h:BdL l) (hf:∀ p∈l,f (a1n p)=some p):b8n f (a1f l)=some l:=by
 unfold b8n;by_cases hne:l=[]
 ·subst hne;exact z02 rfl
 ·obtain⟨e1,e2⟩:=c7k h hne;rw[z01 e1,e2];exact a7o hf
theorem b3i (x y:Str):Txt.split x y≠[]:=λ z=>by
 have:=split_pos x y;rw[z] at this;simp at this
theorem b7e {x:Str} {l:Lk} (h:b5x x=some l):a1f l=x/\BdL l:=by
 unfold b5x b8n at h;split at h
 ·next z=>cases h;exact⟨by rw[z];rfl,λ p hp=>by cases hp⟩
 ·have hb:=a8w (g:=a1n) (λ a b e=>(b6w e).1) h;refine⟨?_,λ p hp=>a2m (P:=λ p:Pr=>Bd p.1/\Bd p.2) (λ a _ b e=>(b6w e).2) h p hp⟩;have hne:l≠[]:=λ z=>by
   rw[z] at hb;exact b3i _ _ hb.symm
  unfold a1f;rw[z01 hne,hb,z3g]
--@STAGE
def hdO (h:Str) (lk:Option (List Lk)):Option Dl:=lk.bind λ ls=>match a7k h ⟨#[32]⟩ with
 | none=>(a4d h).map λ n=>(n,Str.empty,ls)
 | some q=>(a4d q.1).map λ n=>(n,q.2,ls)
def b0b (r:Str):Option Dl:=match a7k r ⟨#[58,32]⟩ with
 | none=>hdO (Txt.rstripChars r ⟨#[58]⟩) (some [])
 | some q=>hdO (Txt.rstripChars q.1 ⟨#[58]⟩) (a5x b8j (Txt.split q.2 a3v))
def a9a (r:Str):Option Mkr:=(a7k r ⟨#[58,32]⟩).bind λ q=>(a7k q.1 ⟨#[32]⟩).bind λ h=>(a4d h.2).bind λ k=>(a5x a4d (Txt.split q.2 ⟨#[32]⟩)).map λ ns=>(k,ns)
def a4l (x:Str):Bool:=decide (0+("make":Str).length<=x.length) && Builtin.Str.subAt x "make" 0
def a4n (t:Str):List Str:=if t=Str.empty then [] else Txt.split t ⟨#[10]⟩
def b5t (t:Str):Option Ps:=(a5x b0b ((a4n t).filter λ r=>!a4l r)).bind λ ds=>(a5x a9a ((a4n t).filter a4l)).map λ ms=>(ds,ms)
def b0c (b:Str):Option (List Lk):=if b=Str.empty then some [] else if b.cps.toList[0]?=some 32 then a5x b5x (Txt.split (Builtin.Str.strSub b 1 b.length) a3v) else none
def d6z (b:Str):List Str->Option Dl
 | [n,w]=>if w∈a8r then (a4d n).bind λ k=>(b0c b).map λ ls=>(k,w,ls) else none
 | _=>none
def a9k (r:Str):Option Dl:=(a7k r ⟨#[58]⟩).bind λ q=>d6z q.2 (Txt.split q.1 ⟨#[32]⟩)
def a9b (r:Str):Option Mkr:=(a7k r ⟨#[58,32]⟩).bind λ q=>if q.1.length < 5 then none else (a4d (Builtin.Str.strSub q.1 5 q.1.length)).bind λ k=>(a5x a4d (Txt.split q.2 ⟨#[32]⟩)).map λ ns=>(k,ns)
def mk5 (r:Str):Bool:=decide (Txt.slice r none (some 5)=mkW)
def d6r (rs:List Str):Option Ps:=if (rs.dropWhile λ r=>!mk5 r).all mk5=true then (a5x a9k (rs.takeWhile λ r=>!mk5 r)).bind λ ds=>(a5x a9b (rs.dropWhile λ r=>!mk5 r)).bind λ ms=>if c0f (ds,ms)=true then some (ds,ms) else none else none
def d8h (t:Str):Option Ps:=d6r (a4n t)
def Rd (p:Ps):Prop:=BdP p/\(∀ d∈p.1,d.2.1∈a8r)/\∀ m∈p.2,m.2≠[]
theorem d2u (s:Str):∀ l:List Str,(l.map (·.length)).sum+l.length*s.length<=(Str.join s l).length+s.length
 | []=>by simp
 | [x]=>by show x.length+0+1*s.length<=x.length+s.length;lia
 | x::y::r=>by
  have ih:=d2u s (y::r);have e:(Str.join s (x::y::r)).length=x.length+s.length+(Str.join s (y::r)).length:=by
   show (x++s++Str.join s (y::r)).length=_;rw[z0d,z0d]
  simp only [z0q,z1j,z12,Nat.succ_mul] at ih e ⊢;lia
theorem a8z (x s:Str):((Txt.split x s).map (·.length)).sum+(Txt.split x s).length*s.length<=x.length+s.length:=by
 have:=d2u s (Txt.split x s);rw[z3g] at this;exact this
theorem a8y {α:Type} (f:α->Nat) (k:Nat):∀ l:List α,(l.map λ x=>f x+k).sum=(l.map f).sum+l.length*k
 | []=>by simp
 | x::r=>by
  simp only [z0q,z1j,a8y f k r,z12,Nat.succ_mul];lia
theorem b7p {α:Type} (f:α->Nat) (p:α->Bool):∀ l:List α,((l.filter λ x=>!p x).map f).sum+((l.filter p).map f).sum=(l.map f).sum
 | []=>rfl
 | x::r=>by
  have ih:=b7p f p r;rw[z4i,z4i];cases p x<;>simp only [Bool.not_true,Bool.not_false,if_true,if_false,Bool.false_eq_true,z0q,z1j]<;>lia
theorem c6y {x:Str} {l:Lk} (h:b8j x=some l):BdL l/\cL l<=x.length+2:=by
 unfold b8j b8n at h;split at h
 ·cases h;exact⟨(λ p hp=>by cases hp),by show 1<=_;lia⟩
 ·refine⟨λ p hp=>a2m (P:=λ p:Pr=>Bd p.1/\Bd p.2) (λ a _ b e=>c9b e) h p hp,?_⟩;have h1:=b8a h;have h2:=a8z x ⟨#[32]⟩;rw[b3a] at h2;show l.length+1<=_;lia
theorem d8b {h:Str} {lk:Option (List Lk)} {d:Dl} (e:hdO h lk=some d):Bd d.1/\d.2.1.length<=h.length/\lk=some d.2.2:=by
 obtain⟨ls,e1,e⟩:=a2b e;split at e
 ·obtain⟨n,e2,rfl⟩:=map_some e;exact⟨(a2o e2).1,z0x _,e1⟩
 ·next q e0 =>
  obtain⟨n,e2,rfl⟩:=map_some e;have:=b1e (a6q e0);exact⟨(a2o e2).1,by show q.2.length<=_;lia,e1⟩
theorem b9q {r:Str} {d:Dl} (h:b0b r=some d):BdD d/\cD d<=r.length+1:=by
 unfold b0b at h;split at h
 ·obtain⟨h1,h2,h3⟩:=d8b h;have hl:(Txt.rstripChars r ⟨#[58]⟩).length<=r.length:=len_stripBy _ _ _ _;obtain⟨n,w,ls⟩:=d;cases h3;refine⟨⟨h1,λ l hl=>by cases hl⟩,?_⟩;show 0+w.length+1<=_;dsimp only at h2;lia
 ·next q e0 =>
  obtain⟨h1,h2,h3⟩:=d8b h;have hl:(Txt.rstripChars q.1 ⟨#[58]⟩).length<=q.1.length:=len_stripBy _ _ _ _;have hx:=b1e (a6q (a:=q.1) (b:=q.2) e0);rw[show (⟨#[58,32]⟩:Str).length=2 from rfl] at hx;refine⟨⟨h1,λ l hl=>a2m (P:=BdL) (λ a _ b e=>(c6y e).1) h3 l hl⟩,?_⟩;have hs:(d.2.2.map cL).sum<=((Txt.split q.2 a3v).map (·.length)).sum+(Txt.split q.2 a3v).length*2:=by
   have:=a7y (c:=cL) (d:=λ x:Str=>x.length+2) (λ a _ b e=>(c6y e).2) h3;rw[a8y] at this;exact this
  have hj:=a8z q.2 a3v;rw[show a3v.length=2 from rfl] at hj;show (d.2.2.map cL).sum+d.2.1.length+1<=_;lia
theorem b1h {r:Str} {m:Mkr} (h:a9a r=some m):BdM m/\m.2≠[]/\cM m<=r.length+1/\2*m.2.length<=r.length+1:=by
 obtain⟨q,e1,h⟩:=a2b h;obtain⟨g,e2,h⟩:=a2b h;obtain⟨k,e3,h⟩:=a2b h;obtain⟨ns,e4,rfl⟩:=map_some h;have hx:=b1e (a6q (a:=q.1) (b:=q.2) e1);rw[show (⟨#[58,32]⟩:Str).length=2 from rfl] at hx;have hl:=b8a e4;have hj:=a8z q.2 ⟨#[32]⟩;have h1:=a7y (c:=λ _=>1) (d:=λ x:Str=>x.length) (λ a _ b e=>(a2o e).2.2) e4;rw[a6w] at h1;rw[b3a] at hj;refine⟨⟨(a2o e3).1,a2m (P:=Bd) (λ a _ b e=>(a2o e).1) e4⟩,λ z=>?_,?_,?_⟩
 ·rw[show ns=[] from z] at hl;exact b3i _ _ (z3h hl.symm)
 ·show ns.length+1<=_;lia
 ·show 2*ns.length<=_;lia
theorem c7e (t:Str):((a4n t).map λ r:Str=>r.length+1).sum<=t.length+1:=by
 unfold a4n;split
 ·exact z0x _
 ·have:=a8z t ⟨#[10]⟩;rw[a8y];rw[b3a] at this;exact this
theorem c5w {t:Str} {p:Ps} (h:b5t t=some p):BdP p/\(∀ m∈p.2,m.2≠[])/\cP p<=t.length+1/\∀ m∈p.2,2*m.2.length<=t.length+1:=by
 obtain⟨ds,e1,h⟩:=a2b h;obtain⟨ms,e2,rfl⟩:=map_some h;have hr:=c7e t;have hf:=b7p (λ r:Str=>r.length+1) a4l (a4n t);have h1:=a7y (c:=cD) (d:=λ r:Str=>r.length+1) (λ a _ b e=>(b9q e).2) e1;have h2:=a7y (c:=cM) (d:=λ r:Str=>r.length+1) (λ a _ b e=>(b1h e).2.2.1) e2;refine⟨⟨a2m (λ a _ b e=>(b9q e).1) e1,a2m (λ a _ b e=>(b1h e).1) e2⟩,a2m (λ a _ b e=>(b1h e).2.1) e2,?_,a2m (λ a ha b e=>?_) e2⟩
 ·show (ds.map cD).sum+(ms.map cM).sum<=_;lia
 ·have h3:=(b1h e).2.2.2;have h4:=a1r (f:=λ r:Str=>r.length+1) (z22.mp ha).1;lia
theorem d0t {n:Int} {w:Str} (h:Bd n) (hw:w∈a8r):(58:Nat) ∉ (num n++⟨#[32]⟩++w:Str).cps.toList:=by
 rw[a0g,a0g,z08,z08];rintro((z | z) | z)
 ·exact a7i h (by decide) (by decide) z
 ·simp at z
 ·exact c2x hw (by decide) z
theorem d8a {n:Int} {w:Str} {ls:List Lk} (h:Bd n):hdO (num n++⟨#[32]⟩++w) (some ls)=some (n,w,ls):=by
 show (match a7k (num n++⟨#[32]⟩++w) ⟨#[32]⟩ with
  | none=>_
  | some q=>(a4d q.1).map λ n=>(n,q.2,ls))=_
 rw[b9b (a7i h (by decide) (by decide))];show (a4d (num n)).map _=_;rw[a6r h];rfl
theorem b5l {ls:List Lk} (h:∀ l∈ls,BdL l) (hne:ls≠[]):Txt.split (Str.join a3v (ls.map a1f)) a3v=ls.map a1f:=c7q (by simpa using hne) λ x hx=>by
 obtain⟨l,hl,rfl⟩:=z0a.mp hx;exact d1q (h l hl) (by decide) (by decide) (by decide) (by decide) (by decide)
theorem c5j {d:Dl} (h:BdD d) (hw:d.2.1∈a8r):b0b (a0v d)=some d:=by
 obtain⟨n,w,ls⟩:=d;have h58:=d0t h.1 hw;by_cases hne:ls=[]
 ·subst hne;have er:a0v (n,w,[])=num n++⟨#[32]⟩++w++⟨#[58]⟩:=rfl;unfold b0b;rw[er,e4l h58];dsimp only;rw[c7z h58,d8a h.1]
 ·unfold b0b;rw[d1h (d:=(n,w,ls)) hne];dsimp only;rw[c3i h58];dsimp only;rw[d2s h58,b5l h.2 hne,a7o λ l hl=>c7f (h.2 l hl) λ p hp=>d5k (h.2 l hl p hp).1 (h.2 l hl p hp).2,d8a h.1]
theorem b7u {ns:List Int} (h:∀ n∈ns,Bd n) (hne:ns≠[]):a5x a4d (Txt.split (Str.join ⟨#[32]⟩ (ns.map num)) ⟨#[32]⟩)=some ns:=by
 rw[a9q (by simpa using hne) λ x hx=>by
  obtain⟨n,hn,rfl⟩:=z0a.mp hx;exact a7i (h n hn) (by decide) (by decide)]
 exact a7o λ n hn=>a6r (h n hn)
theorem c9q {k:Int} (h:Bd k):(58:Nat) ∉ (mkW++num k:Str).cps.toList:=by
 rw[a0g,z08];rintro(z | z)
 ·simp[mkW] at z
 ·exact a7i h (by decide) (by decide) z
theorem c5x {m:Mkr} (h:BdM m) (hn:m.2≠[]):a9a (a1a m)=some m:=by
 unfold a9a;rw[b8x hn,c3i (c9q h.1)];show (a7k (mkW++num m.1) ⟨#[32]⟩).bind _=_;rw[show mkW=(⟨#[109,97,107,101]⟩:Str)++⟨#[32]⟩ from by decide +kernel,b9b (by simp)];show (a4d (num m.1)).bind _=_;rw[a6r h.1];show (a5x a4d (Txt.split (Str.join ⟨#[32]⟩ (m.2.map num)) ⟨#[32]⟩)).map _=_;rw[b7u h.2 hn];rfl
theorem c6h {p:Ps} (h:Rd p):a4n (a5f p)=p.1.map a0v++p.2.map a1a:=by
 obtain⟨⟨b1,b2⟩,h2,h3⟩:=h;have hs:∀ x∈p.1.map a0v++p.2.map a1a,10 ∉ x.cps.toList/\1<=x.length:=λ x hx=>by
  rcases z08.mp hx with z | z
  ·obtain⟨d,hd,rfl⟩:=z0a.mp z;refine⟨d3g (b1 d hd) (h2 d hd),?_⟩;obtain⟨c,r,e,_⟩:=b2q (b1 d hd).1;rw[a0t,e];simp
  ·obtain⟨m,hm,rfl⟩:=z0a.mp z;refine⟨d2p (b2 m hm) (h3 m hm),?_⟩;obtain⟨r,e⟩:=b7v m;rw[a0t,e];simp
 unfold a4n a5f;generalize p.1.map a0v++p.2.map a1a=rs at hs;by_cases hne:rs=[]
 ·subst hne;rfl
 ·rw[z01,a9q hne λ x hx=>(hs x hx).1];intro z;have:=d2j rs (λ x hx=>(hs x hx).2) ⟨#[10]⟩;rw[z] at this;exact hne (z3h (Nat.le_zero.mp this))
theorem e1c {d:Dl} (h:Bd d.1):a4l (a0v d)=false:=by
 obtain⟨c,r,e,hc⟩:=b2q h;exact c7u e hc
theorem e0i (m:Mkr):a4l (a1a m)=true:=by
 obtain⟨r,e⟩:=b7v m;exact c8l e
theorem c7h {α:Type} {p:α->Bool} {a b:List α} (ha:∀ x∈a,p x=true) (hb:∀ x∈b,p x=false):(a++b).filter p=a:=by
 rw[z58,List.filter_eq_self.mpr ha,List.filter_eq_nil_iff.mpr λ x hx=>by rw[hb x hx];simp,z1e]
theorem c4a {α:Type} {p:α->Bool} {a b:List α} (ha:∀ x∈a,p x=false) (hb:∀ x∈b,p x=true):(a++b).filter p=b:=by
 rw[z58,List.filter_eq_self.mpr hb,List.filter_eq_nil_iff.mpr λ x hx=>by rw[ha x hx];simp,List.nil_append]
theorem d4n {p:Ps} (h:Rd p):b5t (a5f p)=some p:=by
 have hd:∀ x∈p.1.map a0v,a4l x=false:=λ x hx=>by
  obtain⟨d,hd,rfl⟩:=z0a.mp hx;exact e1c (h.1.1 d hd).1
 have hm:∀ x∈p.2.map a1a,a4l x=true:=λ x hx=>by
  obtain⟨m,_,rfl⟩:=z0a.mp hx;exact e0i m
 unfold b5t;rw[c6h h,c7h (p:=λ r=>!a4l r) (λ x hx=>by rw[hd x hx];rfl) (λ x hx=>by rw[hm x hx];rfl),c4a hd hm,a7o λ d hd=>c5j (h.1.1 d hd) (h.2.1 d hd)];show (a5x a9a (p.2.map a1a)).map _=_;rw[a7o λ m hm=>c5x (h.1.2 m hm) (h.2.2 m hm)];rfl
--@STAGE
theorem b3x {x:Str} {i:Nat} (h:i<=x.length):Txt.slice x none (some (i:Int))=Builtin.Str.strSub x 0 i:=by
 have e:Txt.slice x none (some (i:Int))=⟨((x.cps.toList.drop 0).take ((i:Int) - 0).toNat).toArray⟩:=PySem.StrLaws.sliceText_to (x:=x) (j:=(i:Int)) ⟨by lia,by rw[<-a0t];lia⟩;rw[e];refine z0n ?_;rw[z4k];show (x.cps.toList.drop 0).take ((i:Int) - 0).toNat=_;rw[show ((i:Int) - 0).toNat=i - 0 by lia]
theorem b0a {x:Str} {i:Nat} (h:i<=x.length):Txt.slice x (some (i:Int)) none=Builtin.Str.strSub x i x.length:=by
 have e:Txt.slice x (some (i:Int)) none=⟨((x.cps.toList.drop (i:Int).toNat).take ((x.cps.toList.length:Int) - (i:Int)).toNat).toArray⟩:=PySem.StrLaws.sliceText_from (x:=x) (i:=(i:Int)) ⟨by lia,by rw[<-a0t];lia⟩;rw[e];refine z0n ?_;rw[z4k];show (x.cps.toList.drop (i:Int).toNat).take ((x.cps.toList.length:Int) - (i:Int)).toNat=_;rw[<-a0t,z43,show ((x.length:Int) - (i:Int)).toNat=x.length - i by lia]
theorem a4x {x:Str} (i:Nat):(Builtin.Str.strSub x i x.length).cps.toList=x.cps.toList.drop i:=by
 rw[z4k];exact z3f (by rw[z29,a0t];exact z04 _)
theorem b7w {x:Str} (i:Nat):(Builtin.Str.strSub x 0 i).cps.toList=x.cps.toList.take i:=by
 rw[z4k,List.drop_zero,Nat.sub_zero]
theorem c3d {r:Str}:mk5 r=true ↔ ∃ t:Str,r=mkW++t:=by
 unfold mk5;rw[z1c];constructor
 ·intro h;have hl:=z3s r none (some 5);rw[h,b4p] at hl;rw[show (5:Int)=((5:Nat):Int) from rfl,b3x hl] at h;refine⟨Builtin.Str.strSub r 5 r.length,z0n ?_⟩;rw[a0g,<-h,b7w,a4x,z4s]
 ·rintro⟨t,rfl⟩;have hl:5<=(mkW++t).length:=by rw[z0d,b4p];lia
  rw[show (5:Int)=((5:Nat):Int) from rfl,b3x hl];refine z0n ?_;rw[b7w,a0g];rfl
theorem d4j {m:Mkr}:mk5 (a1a m)=true:=c3d.mpr ⟨num m.1++⟨#[58]⟩++Str.join ⟨#[]⟩ (m.2.map λ n=>⟨#[32]⟩++num n),z0n (by unfold a1a;simp only [a0g,z1l])⟩
theorem d6i {d:Dl} (h:Bd d.1):mk5 (a0v d)=false:=by
 rw[z28];intro z;obtain⟨t,e⟩:=c3d.mp z;obtain⟨c,r,e1,hc⟩:=b2q h;rw[e,a0g] at e1;have:(109:Nat)=c:=(List.cons.inj e1).1;exact hc this.symm
theorem d7g {ls:List Lk} (h:∀ l∈ls,BdL l) (h2:∀ l∈ls,∀ x∈l,-1<=x.2) (hne:ls≠[]):b0c (⟨#[32]⟩++Str.join a3v (ls.map a1f))=some ls:=by
 have e0:(⟨#[32]⟩++Str.join a3v (ls.map a1f):Str).cps.toList=32::(Str.join a3v (ls.map a1f)).cps.toList:=by rw[a0g];rfl
 unfold b0c;rw[z01 (b1m e0),z02 (by rw[e0];rfl)];have e1:Builtin.Str.strSub (⟨#[32]⟩++Str.join a3v (ls.map a1f)) 1 (⟨#[32]⟩++Str.join a3v (ls.map a1f):Str).length=Str.join a3v (ls.map a1f):=z0n (by rw[a4x,e0];rfl);rw[e1,b5l h hne];exact a7o λ l hl=>c7f (h l hl) λ p hp=>d3v (h l hl p hp).1 (h l hl p hp).2 (h2 l hl p hp)
theorem c8e {b:Str} {ls:List Lk} (h:b0c b=some ls):(∀ l∈ls,BdL l)/\b=if ls=[] then Str.empty else ⟨#[32]⟩++Str.join a3v (ls.map a1f):=by
 unfold b0c at h;split at h
 ·next z=>cases h;exact⟨(λ l hl=>by cases hl),by rw[z02 rfl];exact z⟩
 ·split at h
  ·next z0 z =>
   have hb:=a8w (g:=a1f) (λ a b e=>(b7e e).1) h;have hne:ls≠[]:=λ y=>by
    rw[y] at hb;exact b3i _ _ hb.symm
   refine⟨a2m (P:=BdL) (λ a _ b e=>(b7e e).2) h,?_⟩;rw[z01 hne,hb,z3g];refine z0n ?_;rw[a0g,a4x];cases q:b.cps.toList with
   | nil=>rw[q] at z;cases z
   | cons c r =>
    rw[q] at z;have:c=32:=by simpa using z
    rw[this];rfl
  ·cases h
theorem d5s {n:Int} {w:Str} (h:Bd n) (hw:w∈a8r):Txt.split (num n++⟨#[32]⟩++w) ⟨#[32]⟩=[num n,w]:=by
 refine a9q (ps:=[num n,w]) (by simp) λ x hx=>?_
 rcases z06.mp hx with rfl | hx
 ·exact a7i h (by decide) (by decide)
 ·rw[z0o.mp hx];exact c2x hw (by decide)
theorem d4c {d:Dl} (h:BdD d) (hw:d.2.1∈a8r) (h2:∀ l∈d.2.2,∀ x∈l,-1<=x.2):a9k (a0v d)=some d:=by
 obtain⟨n,w,ls⟩:=d;have h58:=d0t h.1 hw;have e:∃ b,a0v (n,w,ls)=num n++⟨#[32]⟩++w++⟨#[58]⟩++b/\b0c b=some ls:=by
  by_cases hne:ls=[]
  ·subst hne;exact⟨Str.empty,z0n (by rw[a0g];show _=_++[];rw[z1e];rfl),by unfold b0c;rw[z02 rfl]⟩
  ·refine⟨_,?_,d7g h.2 h2 hne⟩;rw[d1h (d:=(n,w,ls)) hne];refine z0n ?_;simp only [a0g,z1l];rfl
 obtain⟨b,e1,e2⟩:=e;unfold a9k;rw[e1,b9b h58];show d6z b (Txt.split (num n++⟨#[32]⟩++w) ⟨#[32]⟩)=_;rw[d5s h.1 hw];show (if w∈a8r then (a4d (num n)).bind λ k=>(b0c b).map λ ls=>(k,w,ls) else none)=_;rw[z02 hw,a6r h.1,e2];rfl
theorem a7g {r:Str} {d:Dl} (h:a9k r=some d):a0v d=r/\BdD d/\d.2.1∈a8r:=by
 obtain⟨⟨a,b⟩,e1,h⟩:=a2b h;unfold d6z at h;split at h
 ·next n w e2 =>
  have e2:Txt.split a ⟨#[32]⟩=[n,w]:=e2;split at h
  ·next hw =>
   obtain⟨k,e3,h⟩:=a2b h;obtain⟨ls,e4,rfl⟩:=map_some h;obtain⟨b1,b2,_⟩:=a2o e3;obtain⟨c1,c2⟩:=c8e e4;dsimp only at c2;have ha:=z3g a ⟨#[32]⟩;rw[e2] at ha;have hr:=a6q e1;refine⟨?_,⟨b1,c1⟩,hw⟩;have hh:hdD (k,w,ls)=a++⟨#[58]⟩:=by
    unfold hdD;rw[b2,<-ha];rfl
   unfold a0v;rw[hh,<-hr,c2];dsimp only;split
   ·refine z0n ?_;rw[a0g (a++⟨#[58]⟩)];show _=_++[];rw[z1e]
   ·refine z0n ?_;simp only [a0g,z1l]
  ·cases h
 ·cases h
theorem d6t {m:Mkr} (h:BdM m) (hn:m.2≠[]):a9b (a1a m)=some m:=by
 unfold a9b;rw[b8x hn,c3i (c9q h.1)];show (if (mkW++num m.1).length < 5 then none else (a4d (Builtin.Str.strSub (mkW++num m.1) 5 (mkW++num m.1).length)).bind _)=_;have e1:Builtin.Str.strSub (mkW++num m.1) 5 (mkW++num m.1).length=num m.1:=z0n (by rw[a4x,a0g];rfl);rw[z01 (by rw[z0d,b4p];lia),e1,a6r h.1];show (a5x a4d (Txt.split (Str.join ⟨#[32]⟩ (m.2.map num)) ⟨#[32]⟩)).map _=_;rw[b7u h.2 hn];rfl
theorem a9z {r:Str} {m:Mkr} (h5:mk5 r=true) (h:a9b r=some m):a1a m=r/\BdM m/\m.2≠[]:=by
 obtain⟨⟨a,b⟩,e1,h⟩:=a2b h;dsimp only at h;split at h
 ·cases h
 ·next hl =>
  obtain⟨k,e3,h⟩:=a2b h;obtain⟨ns,e4,rfl⟩:=map_some h;obtain⟨b1,b2,_⟩:=a2o e3;have hb:=a8w (g:=num) (λ a b e=>(a2o e).2.1) e4;have hne:ns≠[]:=λ y=>by
   rw[y] at hb;exact b3i _ _ hb.symm
  have hr:=a6q e1;refine⟨?_,⟨b1,a2m (P:=Bd) (λ a _ b e=>(a2o e).1) e4⟩,hne⟩;rw[b8x (m:=(k,ns)) hne];dsimp only;rw[b2,hb,z3g,<-hr];obtain⟨t,et⟩:=c3d.mp h5;have ha:mkW++Builtin.Str.strSub a 5 a.length=a:=by
   refine z0n ?_;rw[a0g,a4x];have e5:a.cps.toList.take 5=mkW.cps.toList:=by
    have hl':5<=a.cps.toList.length:=by rw[<-a0t];lia
    have:=z0e (λ x:Str=>x.cps.toList.take 5) (hr.trans et);rw[a0g,a0g,a0g,z1l,List.take_append_of_le_length hl'] at this;exact this
   rw[<-e5,z4s]
  rw[ha]
theorem d4x {p:Ps} (h:c0f p=true):∀ d∈p.1,∀ l∈d.2.2,∀ x∈l,-1<=x.2:=by
 intro d hd l hl x hx;unfold c0f at h;simp only [z13,z1d] at h;obtain⟨⟨_,h3⟩,h4⟩:=h;have h5:=h3 d hd;unfold c9h at h5;simp only [z13,z1d] at h5;have h6:=h5.2 l hl;unfold c0g at h6;simp only [z13,z1d] at h6;have h7:=h6.2 x hx;unfold b1q at h7;simp only [z48,z13,z1c] at h7;rcases h7 with (z | z) | ⟨_,z⟩
 ·lia
 ·lia
 ·unfold b7j at z;cases q:p.2.find? λ m=>m.1 == x.1 with
  | none=>rw[q] at z;cases z
  | some m =>
   rw[q] at z;have h8:=h4 m (List.mem_of_find?_eq_some q);unfold d2x at h8;simp only [z13,z1d,z1c] at h8;obtain⟨e,he,e2⟩:=z0a.mp (h8.2 x.2 z);have h9:=h3 e he;unfold c9h at h9;simp only [z13,z1c] at h9;lia
theorem c6q {α:Type} {p:α->Bool} {a b:List α} (ha:∀ x∈a,p x=false) (hb:∀ x∈b,p x=true):(a++b).takeWhile (λ x=>!p x)=a/\(a++b).dropWhile (λ x=>!p x)=b:=by
 have ha':∀ x∈a,(λ x=>!p x) x=true:=λ x hx=>by show (!p x)=true;rw[ha x hx];rfl
 rw[List.takeWhile_append_of_pos ha',List.dropWhile_append_of_pos ha'];cases b with
 | nil=>exact⟨z1e _,rfl⟩
 | cons y r =>
  have hy:=hb y z0g;rw[z51,List.dropWhile_cons];simp[hy]
theorem e0w {p:Ps} (h:Rd p) (hp:c0f p=true):d8h (a5f p)=some p:=by
 have hs:=d4x hp;have hd:∀ x∈p.1.map a0v,mk5 x=false:=λ x hx=>by
  obtain⟨d,hd,rfl⟩:=z0a.mp hx;exact d6i (h.1.1 d hd).1
 have hm:∀ x∈p.2.map a1a,mk5 x=true:=λ x hx=>by
  obtain⟨m,_,rfl⟩:=z0a.mp hx;exact d4j
 obtain⟨s1,s2⟩:=c6q hd hm;unfold d8h d6r;rw[c6h h,s1,s2,z02 (z1d.mpr hm),a7o λ d hd=>d4c (h.1.1 d hd) (h.2.1 d hd) (hs d hd)];show (a5x a9b (p.2.map a1a)).bind _=_;rw[a7o λ m hm=>d6t (h.1.2 m hm) (h.2.2 m hm)];exact z02 hp
theorem b7c:∀ {l:List Str} {ms:List Mkr},(∀ x∈l,mk5 x=true)->a5x a9b l=some ms->ms.map a1a=l
 | [],ms,_,h=>by cases h;rfl
 | a::r,ms,hl,h=>by
  obtain⟨b,l,f1,f2,rfl⟩:=a5v h;rw[z0q,(a9z (hl a z0g) f1).1,b7c (λ x hx=>hl x (z0p _ hx)) f2]
theorem c0y {t:Str} {p:Ps} (h:d8h t=some p):Rd p/\c0f p=true/\a5f p=t:=by
 unfold d8h d6r at h;split at h
 ·next hall =>
  obtain⟨ds,e1,h⟩:=a2b h;obtain⟨ms,e2,h⟩:=a2b h;split at h
  ·next hp =>
   cases h;have hall':=z1d.mp hall;have hb1:=a8w (g:=a0v) (λ a b e=>(a7g e).1) e1;have hb2:=b7c hall' e2;refine⟨⟨⟨a2m (λ a _ b e=>(a7g e).2.1) e1,a2m (λ a ha b e=>(a9z (hall' a ha) e).2.1) e2⟩,a2m (P:=λ d:Dl=>d.2.1∈a8r) (λ a _ b e=>(a7g e).2.2) e1,a2m (P:=λ m:Mkr=>m.2≠[]) (λ a ha b e=>(a9z (hall' a ha) e).2.2) e2⟩,hp,?_⟩;show Str.join ⟨#[10]⟩ (ds.map a0v++ms.map a1a)=t;rw[hb1,hb2,List.takeWhile_append_dropWhile];unfold a4n;split
   ·next z=>rw[z];rfl
   ·exact z3g _ _
  ·cases h
 ·cases h
def c8t (t:Str):Option Ps:=(b5t t).bind λ p=>if c0f p=true/\a5f p=t then some p else none
theorem c6x (t:Str):c8t t=d8h t:=by
 cases q:d8h t with
 | some p =>
  obtain⟨h1,h2,h3⟩:=c0y q;unfold c8t;rw[<-h3,d4n h1];exact z02 ⟨h2,rfl⟩
 | none =>
  unfold c8t;cases e:b5t t with
  | none=>rfl
  | some p =>
   show (if c0f p=true/\a5f p=t then some p else none)=none;rw[z01];rintro⟨h1,h2⟩;obtain⟨b1,b2,_,_⟩:=c5w e;have hw:∀ d∈p.1,d.2.1∈a8r:=λ d hd=>by
    unfold c0f at h1;simp only [z13,z1d] at h1;have:=h1.1.2 d hd;unfold c9h at this;simp only [z13,z1c] at this;exact this.1.2
   rw[<-h2,e0w ⟨b1,hw,b2⟩ h1] at q;cases q
--@STAGE
def d4a (C:Addr):Sp:=λ vs H Q E=>∃ x:Str,vs=[.str x]/\a1d 8000 x/\(∀ p,b4e x=some p->∀ v H',Same H H'->Tr (off H H') v (a5g p)->Q v H')/\(b4e x=none->∀ H',Same H H'->E (.ref C) none H')
def d6a (C:Addr):Sp:=λ vs H Q E=>∃ x:Str,vs=[.str x]/\a1d 8000 x/\(∀ l,b8j x=some l->∀ v H',Same H H'->Tr (off H H') v (a4k l)->Q v H')/\(b8j x=none->∀ H',Same H H'->E (.ref C) none H')
def d5m (C:Addr):Sp:=λ vs H Q E=>∃ x:Str,vs=[.str x]/\a1d 8000 x/\(∀ d,b0b x=some d->∀ v H',Same H H'->Tr (off H H') v (a3a d)->Q v H')/\(b0b x=none->∀ H',Same H H'->E (.ref C) none H')
def d4v (C:Addr):Sp:=λ vs H Q E=>∃ x:Str,vs=[.str x]/\a1d 8000 x/\(∀ m,a9a x=some m->∀ v H',Same H H'->Tr (off H H') v (a3l m)->Q v H')/\(a9a x=none->∀ H',Same H H'->E (.ref C) none H')
def d5h (C:Addr):Sp:=λ vs H Q E=>∃ x:Str,vs=[.str x]/\a1d 8000 x/\(∀ p,b5t x=some p->∀ v H',Same H H'->Tr (off H H') v (a3r p)->Q v H')/\(b5t x=none->∀ H',Same H H'->E (.ref C) none H')
def d3w (D:Addr):Sp:=λ vs H Q E=>∃ x:Str,vs=[.str x]/\a1d 7900 x/\(∀ p,c8t x=some p->∀ v H',Same H H'->Tr (off H H') v (a3r p)->Q v H')/\(c8t x=none->∀ d H',Same H H'->E (.ref D) d H')
theorem b1o {n:Nat} {x:Str} (h:a1d n x) (i j:Nat):a1d n (Builtin.Str.strSub x i j):=by
 have e:=z4k x i j;refine⟨?_,λ c hc=>h.2 c ?_⟩
 ·have:=h.1;rw[a0t] at this ⊢;rw[e,z14,z29];lia
 ·rw[e] at hc;exact z4c (z3i hc)
theorem a2u {n:Nat} {x y:Str} (h:a1d n x):∀ p∈Txt.split x y,a1d n p:=λ p hp=>by
 have a:=d2q (s:=y) hp;have b:=b8s y _ p hp;rw[z3g] at a b;exact⟨z0s a h.1,λ c hc=>h.2 c (b c hc)⟩
theorem a6y {n:Nat} {x s a b:Str} (h:a1d n x) (e:a7k x s=some (a,b)):a1d n a/\a1d n b:=by
 obtain⟨i,_,rfl,rfl,_⟩:=c5c e;exact⟨b1o h _ _,b1o h _ _⟩
theorem b4a {n:Nat} {x y:Str} (h:a1d n x):a1d n (Txt.rstripChars x y):=by
 unfold Txt.rstripChars;rw[stripBy_eq];exact b1o h _ _
theorem b5a {n:Nat}:a1d n Str.empty:=⟨z0x _,λ c hc=>by cases hc⟩
theorem a6z {n:Nat} {x y:Str} (h:a1d n x) (hn:n<=8000):(Txt.split x y).length<=sizeLine:=by
 have:=split_le x y;have:=h.1;exact z0s (show _<=8002 by lia) (by decide)
theorem b0p {H:Hp} (l:List Str):Trs H (l.map V.str) (l.map PyData.str):=by
 have:=c5e (H:=H) (λ x:Str=>x) l;rw[List.map_id'] at this;exact this
theorem c0u {α β γ:Type} (f:α->Option β) (g:β->γ):∀ l:List α,l.filterMap (λ a=>(f a).map g)=(l.filterMap f).map g
 | []=>rfl
 | a::r=>by
  rw[z1i,z1i];cases f a with
  | none=>exact c0u f g r
  | some b=>show g b::_=g b::_;rw[c0u f g r]
theorem e4t:("<":Str)=⟨#[60]⟩:=by decide +kernel
theorem d5n:("?":Str)=⟨#[63]⟩:=by decide +kernel
theorem c7s:("-":Str)=⟨#[45]⟩:=by decide +kernel
theorem c0l:(" ":Str)=⟨#[32]⟩:=by decide +kernel
theorem d1m:(":":Str)=⟨#[58]⟩:=by decide +kernel
theorem d0m:(": ":Str)=⟨#[58,32]⟩:=by decide +kernel
theorem e7t:("; ":Str)=a3v:=by decide +kernel
theorem e2f:("\n":Str)=⟨#[10]⟩:=by decide +kernel
theorem d9a:("":Str)=Str.empty:=by decide +kernel
theorem c4d (T:Tx K mg):b0w P w K mg base (CXW P w) 3 T.a5n.f T.a5n.d ["text"] (d4a T.a1i):=by
 refine b0z T.a5n.F b0u (λ vs H Q E h=>?_) (λ cdv A outer s H vs Q E hr h=>?_)
 ·obtain⟨x,rfl,_⟩:=h;rfl
 ·obtain⟨x,rfl,hF,k,ke⟩:=h;refine⟨_,(a0d (psx 1 b0u.nd (a2l z0y z4n z4l a4z (pv 0) (a0a a0j a0b)))
   (a0d (psx 2 b0u.nd (a9p (a0i a2j (pix a1c (pv 1) a0e) a0j (a0o _)) (a6t (v:=V.int (-1)) rfl T.b8h ⟨_,rfl⟩) (a5s ((a5w T).mono (by decide)) hr rfl T.a1m.m T.a1m.F.kp T.a1m.b .nil (d5e λ _ _ _ z=>z) (a0a (pix a1c (pv 1) a0e) a0b))))
   (a0f (a0p (a3p (a0a (a5s ((a5w T).mono (by decide)) hr rfl T.a1m.m T.a1m.F.kp T.a1m.b .nil (d5e λ _ _ _ z=>z) (a0a (pix a1c (pv 1) a0e) a0b)) (a0a (pv 2) a0b))))))),?_⟩
  have z8:(8000:Nat)<=sizeLine:=by decide
  have hl:=hF.1;refine nx42 _ rfl rfl x ("<") rfl rfl (by decide +kernel) ⟨(by lia),λ p hp=>?_⟩;rw[e4t];cases hc:a7k x ⟨#[60]⟩ with
  | none =>
   rw[a7j hc];have ke':=ke (by unfold b4e b6i;rw[hc];rfl);have s1:=Same.upd (o:=HO.tup [V.str x,V.str Str.empty,V.str Str.empty]) hp;have g1:=a0c (H:=H) (a:=p) (o:=HO.tup [V.str x,V.str Str.empty,V.str Str.empty]);generalize upd H p (HO.tup [V.str x,V.str Str.empty,V.str Str.empty])=H1 at s1 g1;refine nx40 _ rfl p _ _ _ rfl rfl (SqT.of g1) (a0k (j:=2) rfl) rfl ⟨_,rfl,d6v (by decide +kernel) ?_⟩;exact nx27 _ rfl p _ _ _ rfl rfl (SqT.of g1) (a0k (j:=2) rfl) Str.empty rfl (z0x _) ⟨(λ c hc=>by cases hc),(λ h H3 s3=>by cases h),(λ h H3 s3=>ke' H3 (s1.trans s3))⟩
  | some q =>
   obtain⟨a,b⟩:=q;rw[a6g hc];obtain⟨fa,fb⟩:=a6y hF hc;have ep:b4e x=(a4d a).bind λ k=>(c9i b).map λ s=>(k,s):=by unfold b4e b6i;rw[hc];rfl
   rw[ep] at k ke;have s1:=Same.upd (o:=HO.tup [V.str a,V.str ⟨#[60]⟩,V.str b]) hp;have g1:=a0c (H:=H) (a:=p) (o:=HO.tup [V.str a,V.str ⟨#[60]⟩,V.str b]);generalize upd H p (HO.tup [V.str a,V.str ⟨#[60]⟩,V.str b])=H1 at s1 g1;have fin:∀ (sx:Int) H2,c9i b=some sx->Same H1 H2->e6g (a6u (b8u (e0s T.a1i) [] E (a6u (tOp (d4i K) (b1a 1) (tC (V.int 0))) c9k)) (a6u (b1a 2) c9k)) [some (.str x),some (.ref p),some (.int sx)] H2 Q:=λ sx H2 es s2=>by
    refine nx27 _ rfl p _ _ _ rfl rfl (SqT.of (s2 _ _ g1)) (a0k (j:=0) rfl) a rfl fa.1 ⟨fa.2,(λ hn H3 s3=>?_),(λ hn H3 s3=>ke (by rw[a5u hn];rfl) H3 (s1.trans (s2.trans s3)))⟩;refine⟨_,rfl,(by show 2<=sizeLine;decide),λ t ht=>?_⟩;have s13:=s1.trans (s2.trans s3);exact k (a3w a.cps.toList,sx) (by rw[a5a hn,es];rfl) _ _ (s13.trans (Same.upd ht)) (.tup (a1v (s13.free ht) a0c) (.cons (.int _) (.cons (.int _) .nil)))
   refine nx40 _ rfl p _ _ _ rfl rfl (SqT.of g1) (a0k (j:=2) rfl) rfl ⟨_,rfl,a3o (λ e=>?_) (λ e=>?_)⟩
   ·have e':b=⟨#[63]⟩:=(V.str.inj (z0b e)).trans d5n;exact fin (-1) H1 (by unfold c9i;rw[z02 e']) (Same.refl _)
   ·have e':¬ b=⟨#[63]⟩:=λ z=>e (z07 (by rw[z,<-d5n]))
    have es:c9i b=a4d b:=by unfold c9i;rw[z01 e']
    refine nx27 _ rfl p _ _ _ rfl rfl (SqT.of g1) (a0k (j:=2) rfl) b rfl fb.1 ⟨fb.2,(λ hn H3 s3=>?_),(λ hn H3 s3=>ke (by rw[es,a5u hn];cases a4d a<;>rfl) H3 (s1.trans s3))⟩;exact fin _ H3 (by rw[es,a5a hn]) s3
theorem c4b (T:Tx K mg):b0w P w K mg base (CXW P w) 4 T.a5j.f T.a5j.d ["text"] (d6a T.a1i):=by
 refine b0z T.a5j.F c3v (λ vs H Q E h=>?_) (λ cdv A outer s H vs Q E hr h=>?_)
 ·obtain⟨x,rfl,_⟩:=h;rfl
 ·obtain⟨x,rfl,hF,k,ke⟩:=h;refine⟨_,(a0d (a1g (a0i a2j (pv 0) a0j (a0o _))
   (a0f (a0p (a1l a0b)))
   a0n)
   (a0f (a0p (b4o (E:=E) ["part"] rfl rfl rfl rfl (λ _ _ h=>h) (csc [] []) (a0z (a2l z0y z2i z2j a4y (pv 0) (a0a a0j a0b))) (λ _ _ _ _ _=>(pgn 0)) (λ _ _ _ _ _=>a2y) (λ E1 _ _ _ _ _=>(a5s ((c4d T).mono (by decide)) hr rfl T.a5n.m T.a5n.F.kp T.a5n.b .nil c2p (a0a (pv 0) a0b))))))),?_⟩
  have z8:(8000:Nat)<=sizeLine:=by decide
  have hl:=hF.1;unfold b8j b8n at k ke;refine nx4 _ rfl rfl _ rfl (a3o (λ e=>?_) (λ e=>?_))
  ·have e':x=⟨#[45]⟩:=(V.str.inj (z0b e)).trans c7s;rw[z02 e'] at k;exact⟨(by show 0<=sizeLine;decide),λ q hq=>k [] rfl _ _ (Same.upd hq) (.lst (a1v hq a0c) .nil)⟩
  have e':¬ x=⟨#[45]⟩:=λ z=>e (z07 (by rw[z,<-c7s]))
  rw[z01 e'] at k ke;refine nx42 _ rfl rfl x (" ") rfl rfl (by decide +kernel) ⟨(by lia),λ q hq=>?_⟩;rw[c0l];have hfit:=a2u (y:=⟨#[32]⟩) hF;have hsl:=a6z (y:=⟨#[32]⟩) hF (z04 _);generalize Txt.split x ⟨#[32]⟩=ws at k ke hfit hsl ⊢;have s1:=Same.upd (o:=HO.lst (ws.map V.str)) hq;refine⟨q,rfl,⟨_,SqL.of a0c⟩,c1r (k:=1) (fs:=[]) (λ x=>b4e x≠none) ws PyData.str (λ x=>(b4e x).map a5g) rfl a0c (b0p ws) hsl (λ a ha H3 ts v R ss hts tr cont _=>?_) (λ hP D H3 ys hD ss hd ht=>?_)⟩
  ·obtain⟨t,rfl⟩:=z10.mp hts;cases tr;exact nx17 _ rfl a rfl (hfit a ha) ⟨(λ p hp v H4 s4 t4=>cont (a5g p) v [_] H4 (by rw[hp];simp) (by rw[hp];rfl) rfl s4 t4),(λ hn H4 s4=>ke (a4j ha hn) H4 (s1.trans (ss.trans s4)))⟩
  ·rw[c0u] at ht;exact k _ (b0x hP) _ _ (s1.trans ss) (.lst (a1v (s1.free hD) hd) (ht.same (a5i s1)))
--@STAGE
theorem c6v {h:Str} (hF:a1d 8000 h):∃ hn hz hw,a6d h ⟨#[32]⟩=[.str hn,.str hz,.str hw]/\a1d 8000 hn/\∀ lk,hdO h lk=lk.bind λ ls=>(a4d hn).map λ n=>(n,hw,ls):=by
 cases hc:a7k h ⟨#[32]⟩ with
 | none=>exact nx29 _ _ _ (a7j hc) hF λ lk=>by unfold hdO;rw[hc]
 | some q =>
  obtain⟨a,b⟩:=q;exact nx29 _ _ _ (a6g hc) ((a6y hF hc).1) λ lk=>by unfold hdO;rw[hc]
theorem c3l (T:Tx K mg):b0w P w K mg base (CXW P w) 5 T.a5q.f T.a5q.d ["row"] (d5m T.a1i):=by
 refine b0z T.a5q.F a7n (λ vs H Q E h=>?_) (λ cdv A outer s H vs Q E hr h=>?_)
 ·obtain⟨x,rfl,_⟩:=h;rfl
 ·obtain⟨x,rfl,hF,k,ke⟩:=h;refine⟨_,(a0d (psx 1 a7n.nd (a2l z0y z4n z4l a4z (pv 0) (a0a a0j a0b)))
   (a0d (psx 2 a7n.nd (a2l z0y z4n z4l a4z (a2l z0y F.slot_str_rstrip F.type_str_rstrip d1w (pix a1c (pv 1) a0e) (a0a a0j a0b)) (a0a a0j a0b)))
   (a0d (psx 3 a7n.nd (a9p (a0i b6m (pix a1c (pv 1) a0e) a0j (a0o _)) (b4o (E:=E) ["part"] rfl rfl rfl rfl (λ _ _ h=>h) (csc [] []) (a0z (a2l z0y z2i z2j a4y (pix a1c (pv 1) a0e) (a0a a0j a0b))) (λ _ _ _ _ _=>(pgn 0)) (λ _ _ _ _ _=>a2y) (λ E1 _ _ _ _ _=>(a5s ((c4b T).mono (by decide)) hr rfl T.a5j.m T.a5j.F.kp T.a5j.b .nil c2p (a0a (pv 0) a0b)))) (a1l a0b)))
   (a0f (a0p (a3p (a0a (a5s ((a5w T).mono (by decide)) hr rfl T.a1m.m T.a1m.F.kp T.a1m.b .nil (d5e λ _ _ _ z=>z) (a0a (pix a1c (pv 2) a0e) a0b)) (a0a (pix a1c (pv 2) a0e) (a0a (pv 3) a0b))))))))),?_⟩
  have z8:(8000:Nat)<=sizeLine:=by decide
  have hl:=hF.1;have fin:∀ (lk:Option (List Lk)) (ls:List Lk) (hn hz hw:Str) (p hq2 la:Addr) H2 zs,b0b x=(lk.bind λ ls=>(a4d hn).map λ n=>(n,hw,ls))->lk=some ls->a1d 8000 hn->Same H H2->H2 hq2=some (.tup [.str hn,.str hz,.str hw])->H la=none->H2 la=some (.lst zs)->Trs (off H H2) zs (ls.map a4k) ->
    e6g (a6u (b8u (e0s T.a1i) [] E (a6u (tOp (d4i K) (b1a 2) (tC (V.int 0))) c9k)) (a6u (tOp (d4i K) (b1a 2) (tC (V.int 2))) (a6u (b1a 3) c9k))) [some (.str x),some (.ref p),some (.ref hq2),some (.ref la)] H2 Q:=λ lk ls hn hz hw p hq2 la H2 zs ed el fh s2 hh hlk0 hlk hz'=>by
   subst el;rw[ed] at k ke;refine nx27 _ rfl hq2 _ _ _ rfl rfl (SqT.of hh) (a0k (j:=0) rfl) hn rfl fh.1 ⟨fh.2,(λ hy H3 s3=>?_),(λ hy H3 s3=>ke (by rw[a5u hy];rfl) H3 (s2.trans s3))⟩;refine nx27 _ rfl hq2 _ _ _ rfl rfl (SqT.of (s3 _ _ hh)) (a0k (j:=2) rfl) _ rfl (by show 3<=sizeLine;decide) λ q hq=>?_;have s13:=s2.trans s3;have s4:=Same.upd (o:=HO.tup [.int (a3w hn.cps.toList),.str hw,.ref la]) hq;exact k (a3w hn.cps.toList,hw,ls) (by rw[a5a hy];rfl) _ _ (s13.trans s4) (.tup (a1v (s13.free hq) a0c) (.cons (.int _) (.cons (.str hw) (.cons (.lst (a1v hlk0 (s4 _ _ (s3 _ _ hlk))) (hz'.same (a3d (s3.trans s4)))) .nil))))
  refine nx42 _ rfl rfl x (": ") rfl rfl (by decide +kernel) ⟨(by lia),λ p hp=>?_⟩;rw[d0m];cases hc:a7k x ⟨#[58,32]⟩ with
  | none =>
   rw[a7j hc];have ed:b0b x=hdO (Txt.rstripChars x ⟨#[58]⟩) (some []):=by unfold b0b;rw[hc]
   have hS:=b4a (y:=⟨#[58]⟩) hF;obtain⟨hn,hz,hw,e1,f1,e2⟩:=c6v hS;rw[e2] at ed;have s1:=Same.upd (o:=HO.tup [V.str x,V.str Str.empty,V.str Str.empty]) hp;have g1:=a0c (H:=H) (a:=p) (o:=HO.tup [V.str x,V.str Str.empty,V.str Str.empty]);generalize upd H p (HO.tup [V.str x,V.str Str.empty,V.str Str.empty])=H1 at s1 g1;refine nx40 _ rfl p _ _ _ rfl rfl (SqT.of g1) (a0k (j:=0) rfl) rfl (nx25 _ _ rfl rfl (by lia) rfl (nx25 _ _ rfl rfl (by decide +kernel) ?_ λ h hh=>?_))
   ·rw[d1m];exact z0s hS.1 z8
   rw[d1m,c0l,e1];have s2:=s1.trans (Same.upd (o:=HO.tup [.str hn,.str hz,.str hw]) hh);refine nx40 _ rfl p _ _ _ rfl rfl (SqT.of ((Same.upd hh) _ _ g1)) (a0k (j:=1) rfl) rfl ⟨_,rfl,a7h ?_⟩;refine⟨(by show 0<=sizeLine;decide),λ lk hlk=>?_⟩;have s3:=Same.upd (o:=HO.lst []) hlk;exact fin _ [] hn hz hw p h lk _ [] ed rfl f1 (s2.trans s3) (s3 _ _ a0c) (s2.free hlk) a0c .nil
  | some q =>
   obtain⟨a,b⟩:=q;rw[a6g hc];obtain⟨fa,fb⟩:=a6y hF hc;have ed:b0b x=hdO (Txt.rstripChars a ⟨#[58]⟩) (a5x b8j (Txt.split b a3v)):=by unfold b0b;rw[hc]
   have hS:=b4a (y:=⟨#[58]⟩) fa;obtain⟨hn,hz,hw,e1,f1,e2⟩:=c6v hS;rw[e2] at ed;have s1:=Same.upd (o:=HO.tup [V.str a,V.str ⟨#[58,32]⟩,V.str b]) hp;have g1:=a0c (H:=H) (a:=p) (o:=HO.tup [V.str a,V.str ⟨#[58,32]⟩,V.str b]);generalize upd H p (HO.tup [V.str a,V.str ⟨#[58,32]⟩,V.str b])=H1 at s1 g1;have la:=fa.1;have lb:=fb.1;refine nx40 _ rfl p _ _ _ rfl rfl (SqT.of g1) (a0k (j:=0) rfl) rfl (nx25 _ _ rfl rfl (by lia) rfl (nx25 _ _ rfl rfl (by decide +kernel) ?_ λ h hh=>?_))
   ·rw[d1m];exact z0s hS.1 z8
   rw[d1m,c0l,e1];have s2:=s1.trans (Same.upd (o:=HO.tup [.str hn,.str hz,.str hw]) hh);have g2:=(Same.upd (o:=HO.tup [.str hn,.str hz,.str hw]) hh) _ _ g1;have hh2:=a0c (H:=H1) (a:=h) (o:=HO.tup [.str hn,.str hz,.str hw]);generalize upd H1 h (HO.tup [.str hn,.str hz,.str hw])=H2 at s2 g2 hh2;refine nx40 _ rfl p _ _ _ rfl rfl (SqT.of g2) (a0k (j:=1) rfl) rfl ⟨_,rfl,a5m ?_⟩;refine nx40 _ rfl p _ _ _ rfl rfl (SqT.of g2) (a0k (j:=2) rfl) rfl (nx25 _ _ rfl rfl (by decide +kernel) (by lia) λ q hq=>?_);rw[e7t];have hfit:=a2u (y:=a3v) fb;have hsl:=a6z (y:=a3v) fb (z04 _);generalize Txt.split b a3v=ws at ed hfit hsl ⊢;have s3:=Same.upd (o:=HO.lst (ws.map V.str)) hq;have s23:=s2.trans s3;refine⟨q,rfl,⟨_,SqL.of a0c⟩,c1r (k:=1) (fs:=[]) (λ x=>b8j x≠none) ws PyData.str (λ x=>(b8j x).map a4k) rfl a0c (b0p ws) hsl (λ a ha H3 ts v R ss hts tr cont _=>?_) (λ hP D H3 ys hD ss hd ht=>?_)⟩
   ·obtain⟨t,rfl⟩:=z10.mp hts;cases tr;exact nx17 _ rfl a rfl (hfit a ha) ⟨(λ p hp v H4 s4 t4=>cont (a4k p) v [_] H4 (by rw[hp];simp) (by rw[hp];rfl) rfl s4 t4),(λ hn H4 s4=>ke (by rw[ed,a4j ha hn];rfl) H4 (s23.trans (ss.trans s4)))⟩
   ·rw[c0u] at ht;exact fin _ _ hn hz hw p h D H3 ys ed (b0x hP) f1 (s23.trans ss) (ss _ _ (s3 _ _ hh2)) (s23.free hD) hd (ht.same (a5i s23))
theorem c3b (T:Tx K mg):b0w P w K mg base (CXW P w) 5 T.a5o.f T.a5o.d ["row"] (d4v T.a1i):=by
 refine b0z T.a5o.F b0n (λ vs H Q E h=>?_) (λ cdv A outer s H vs Q E hr h=>?_)
 ·obtain⟨x,rfl,_⟩:=h;rfl
 ·obtain⟨x,rfl,hF,k,ke⟩:=h;refine⟨_,(a0d (psx 1 b0n.nd (a2l z0y z4n z4l a4z (pv 0) (a0a a0j a0b)))
   (a0d (psx 2 b0n.nd (a5s ((a5w T).mono (by decide)) hr rfl T.a1m.m T.a1m.F.kp T.a1m.b .nil (d5e λ _ _ _ z=>z) (a0a (pix a1c (a2l z0y z4n z4l a4z (pix a1c (pv 1) a0e) (a0a a0j a0b)) a0e) a0b)))
   (a0f (a0p (a3p (a0a (pv 2) (a0a (b4o (E:=E) ["part"] rfl rfl rfl rfl (λ _ _ h=>h) (csc [] []) (a0z (a2l z0y z2i z2j a4y (pix a1c (pv 1) a0e) (a0a a0j a0b))) (λ _ _ _ _ _=>(pgn 0)) (λ _ _ _ _ _=>a2y) (λ E1 _ _ _ _ _=>(a5s ((a5w T).mono (by decide)) hr rfl T.a1m.m T.a1m.F.kp T.a1m.b .nil c2p (a0a (pv 0) a0b)))) a0b))))))),?_⟩
  have z8:(8000:Nat)<=sizeLine:=by decide
  obtain⟨h0,hz,h2,e1,f0,f2,e2,e3⟩:∃ h0 hz h2,a6d x ⟨#[58,32]⟩=[.str h0,.str hz,.str h2]/\a1d 8000 h0/\a1d 8000 h2/\(a7k h0 ⟨#[32]⟩=none->a9a x=none)/\∀ a b,a7k h0 ⟨#[32]⟩=some (a,b)->a9a x=(a4d b).bind λ k=>(a5x a4d (Txt.split h2 ⟨#[32]⟩)).map λ ns=>(k,ns):=by
   cases hc:a7k x ⟨#[58,32]⟩ with
   | none =>
    have en:a9a x=none:=by unfold a9a;rw[hc];rfl
    refine nx2 _ _ _ (a7j hc) hF b5a (λ _=>en) λ a b e=>?_;rw[en,show Txt.split Str.empty ⟨#[32]⟩=[Str.empty] from by decide +kernel];have:a5x a4d [Str.empty]=none:=a4j z0g b6z;rw[this];cases a4d b<;>rfl
   | some q =>
    obtain⟨a,b⟩:=q;have en:a9a x=(a7k a ⟨#[32]⟩).bind λ h=>(a4d h.2).bind λ k=>(a5x a4d (Txt.split b ⟨#[32]⟩)).map λ ns=>(k,ns):=by unfold a9a;rw[hc];rfl
    exact nx2 _ _ _ (a6g hc) ((a6y hF hc).1) ((a6y hF hc).2) (λ e=>by rw[en,e];rfl) λ c d e=>by rw[en,e];rfl
  obtain⟨g0,gz,g2,d1,d2,d3⟩:∃ g0 gz g2,a6d h0 ⟨#[32]⟩=[.str g0,.str gz,.str g2]/\a1d 8000 g2/\a9a x=(a4d g2).bind λ k=>(a5x a4d (Txt.split h2 ⟨#[32]⟩)).map λ ns=>(k,ns):=by
   cases hc:a7k h0 ⟨#[32]⟩ with
   | none=>exact nx29 _ _ _ (a7j hc) b5a (by rw[e2 hc,b6z];rfl)
   | some q =>
    obtain⟨a,b⟩:=q;exact nx29 _ _ _ (a6g hc) ((a6y f0 hc).2) (e3 a b hc)
  rw[d3] at k ke;clear e2 e3 d3;have hl:=hF.1;have l0:=f0.1;have l2:=f2.1;refine nx42 _ rfl rfl x (": ") rfl rfl (by decide +kernel) ⟨(by lia),λ p hp=>?_⟩;rw[d0m,e1];have s1:=Same.upd (o:=HO.tup [.str h0,.str hz,.str h2]) hp;have hp1:=a0c (H:=H) (a:=p) (o:=HO.tup [.str h0,.str hz,.str h2]);generalize upd H p (HO.tup [.str h0,.str hz,.str h2])=H1 at s1 hp1;refine nx40 _ rfl p _ _ _ rfl rfl (SqT.of hp1) (a0k (j:=0) rfl) rfl (nx25 _ _ rfl rfl (by decide +kernel) (by lia) λ h hh=>?_);rw[c0l,d1];have s2:=s1.trans (Same.upd (o:=HO.tup [.str g0,.str gz,.str g2]) hh);have hp2:=(Same.upd (o:=HO.tup [.str g0,.str gz,.str g2]) hh) _ _ hp1;refine nx3 h _ (nx14 _ _ rfl rfl (SqT.of a0c) (a0k (j:=2) rfl) g2 rfl ⟨d2.1,d2.2,(λ hy H3 s3=>?_),(λ hy H3 s3=>ke (by rw[a5u hy];rfl) H3 (s2.trans s3))⟩);rw[a5a hy] at k ke;have s03:=s2.trans s3;refine nx20 _ rfl _ rfl p _ _ _ rfl rfl (SqT.of (s3 _ _ hp2)) (a0k (j:=2) rfl) ⟨rfl,nx25 _ _ rfl rfl (by decide +kernel) (by lia) λ q hq=>?_⟩;have hfit:=a2u (y:=⟨#[32]⟩) f2;have hsl:=a6z (y:=⟨#[32]⟩) f2 (z04 _);generalize Txt.split h2 ⟨#[32]⟩=ws at k ke hfit hsl ⊢;have s4:=Same.upd (o:=HO.lst (ws.map V.str)) hq;have s04:=s03.trans s4;refine⟨q,rfl,⟨_,SqL.of a0c⟩,c1r (k:=1) (fs:=[]) (λ x=>a4d x≠none) ws PyData.str (λ x=>(a4d x).map PyData.int) rfl a0c (b0p ws) hsl (λ a ha H5 ts v R ss hts tr cont _=>?_) (λ hP D H5 ys hD ss hd ht=>?_)⟩
  ·obtain⟨t,rfl⟩:=z10.mp hts;cases tr;refine nx17 _ rfl a rfl ((hfit a ha).1) ⟨(hfit a ha).2,(λ hy H6 s6=>?_),(λ hy H6 s6=>ke (by rw[a4j ha (a5u hy)];rfl) H6 (s04.trans (ss.trans s6)))⟩;exact cont _ _ [_] H6 (by rw[a5a hy];simp) (by rw[a5a hy];rfl) rfl s6 (.int _)
  ·rw[c0u] at ht;refine⟨(by show 2<=sizeLine;decide),λ z hz=>?_⟩;have s5:=s04.trans ss;have s6:=Same.upd (o:=HO.tup [.int (a3w g2.cps.toList),.ref D]) hz;exact k (a3w g2.cps.toList,ws.filterMap a4d) (by rw[b0x hP];rfl) _ _ (s5.trans s6) (.tup (a1v (s5.free hz) a0c) (.cons (.int _) (.cons (.lst (a1v (s04.free hD) (s6 _ _ hd)) ((ht.same (a5i s04)).same (a3d s6))) .nil)))
theorem a8x {α β γ:Type} (p:α->Bool) (f:α->Option β) (g:β->γ):∀ l:List α,l.filterMap (λ a=>if p a=true then (f a).map g else none)=((l.filter p).filterMap f).map g
 | []=>rfl
 | a::r=>by
  rw[z1i,z4i];cases h:p a with
  | false=>exact a8x p f g r
  | true =>
   rw[z02 rfl,z02 rfl,z1i];cases f a with
   | none=>exact a8x p f g r
   | some b=>show g b::_=g b::_;rw[a8x p f g r]
theorem c1s {n:Nat} {t:Str} (h:a1d n t):∀ r∈a4n t,a1d n r:=λ r hr=>by
 unfold a4n at hr;split at hr
 ·cases hr
 ·exact a2u h r hr
theorem d1c {t:Str} (h:a1d 8000 t):(a4n t).length<=sizeLine:=by
 unfold a4n;split
 ·exact z0x _
 ·exact a6z h (z04 _)
theorem c4k (T:Tx K mg):b0w P w K mg base (CXW P w) 6 T.a5l.f T.a5l.d ["text"] (d5h T.a1i):=by
 refine b0z T.a5l.F a7q (λ vs H Q E h=>?_) (λ cdv A outer s H vs Q E hr h=>?_)
 ·obtain⟨x,rfl,_⟩:=h;rfl
 ·obtain⟨x,rfl,hF,k,ke⟩:=h;refine⟨_,(a0d (psx 1 a7q.nd (a9p (a0i b6m (pv 0) a0j (a0o _)) (a2l z0y z2i z2j a4y (pv 0) (a0a a0j a0b)) (a1l a0b)))
   (a0d (c0i (E:=E) (i:=2) ["row"] rfl rfl rfl rfl (λ _ _ h=>h) a7q.nd rfl rfl (csc [] []) (a0z (pv 1)) rfl (λ _ _ _ _ _=>(pgn 0)) (λ _ _ _ _ _=>(c1y (a6n (a3q (d8s (K:=K) rfl z0y z50 z5d a8c (pv 0) (a0a a0j a0b)))))) (λ E1 _ _ _ _ _=>(a5s ((c3l T).mono (by decide)) hr rfl T.a5q.m T.a5q.F.kp T.a5q.b .nil c2p (a0a (pv 0) a0b))))
   (a0d (c0i (E:=E) (i:=3) ["row"] rfl rfl rfl rfl (λ _ _ h=>h) a7q.nd rfl rfl (csc [] []) (a0z (pv 1)) rfl (λ _ _ _ _ _=>(pgn 0)) (λ _ _ _ _ _=>(c1y (a3q (d8s (K:=K) rfl z0y z50 z5d a8c (pv 0) (a0a a0j a0b))))) (λ E1 _ _ _ _ _=>(a5s ((c3b T).mono (by decide)) hr rfl T.a5o.m T.a5o.F.kp T.a5o.b .nil c2p (a0a (pv 0) a0b))))
   (a0f (a0p (a3p (a0a (pv 2) (a0a (pv 3) a0b)))))))),?_⟩
  have z8:(8000:Nat)<=sizeLine:=by decide
  have hl:=hF.1;have hfit:=c1s hF;have hsl:=d1c hF;refine b1u λ b' hb'=>?_
  have tail:∀ q H1,Same H H1->H1 q=some (.lst ((a4n x).map V.str))->b' {nx:=λ _ H'=>Q .non H',rt:=Q} [some (.str x),some (.ref q),none,none] H1:=λ q H1 s1 hq1=>by
   subst hb';refine nx17 _ rfl q rfl ⟨_,SqL.of hq1⟩ (c1r (k:=1) (fs:=[]) (λ r=>a4l r=false->b0b r≠none) (a4n x) PyData.str (λ r=>if (!a4l r)=true then (b0b r).map a3a else none) rfl hq1 (b0p _) hsl (λ r hx H3 ts v R ss hts tr cont cn=>?_) (λ hP D H3 ys hD s3 hd ht=>?_))
   ·obtain⟨t,rfl⟩:=z10.mp hts;cases tr;refine nx26 _ rfl rfl _ (nx4 _ rfl rfl _ rfl ?_);have ec:(decide (0+("make":Str).length<=r.length) && Builtin.Str.subAt r "make" 0)=a4l r:=rfl;rw[ec];cases hb:a4l r with
    | false=>exact nx17 _ rfl r rfl (hfit r hx) ⟨(λ d hd v H4 s4 t4=>cont (a3a d) v [_] H4 (λ _=>by rw[hd];simp) (by rw[hb,hd];rfl) rfl s4 t4),(λ hn H4 s4=>ke (by unfold b5t;rw[a4j (z22.mpr ⟨hx,by rw[hb];rfl⟩) hn];rfl) H4 (s1.trans (ss.trans s4)))⟩
    | true=>exact cn (λ y=>by rw[hb] at y;cases y) (by rw[hb];rfl) [_] _ rfl (Same.refl _)
   rw[a8x] at ht;have hd1:=b0x (f:=b0b) (l:=(a4n x).filter λ r=>!a4l r) λ a ha=>hP a (z22.mp ha).1 (by have:=(z22.mp ha).2;cases hb:a4l a with | false=>rfl | true=>rw[hb] at this;cases this)
   have s13:=s1.trans s3;refine nx17 _ rfl q rfl ⟨_,SqL.of (s3 _ _ hq1)⟩ (c1r (k:=1) (fs:=[]) (λ r=>a4l r=true->a9a r≠none) (a4n x) PyData.str (λ r=>if a4l r=true then (a9a r).map a3l else none) rfl (s3 _ _ hq1) (b0p _) hsl (λ r hx H4 ts v R ss hts tr cont cn=>?_) (λ hP2 D2 H4 zs hD2 s4 hd2 ht2=>?_))
   ·obtain⟨t,rfl⟩:=z10.mp hts;cases tr;refine nx26 _ rfl rfl _ (nx4 _ rfl rfl _ rfl ?_);have ec:(decide (0+("make":Str).length<=r.length) && Builtin.Str.subAt r "make" 0)=a4l r:=rfl;rw[ec];cases hb:a4l r with
    | false=>exact cn (λ y=>by rw[hb] at y;cases y) (by rw[hb];rfl) [_] _ rfl (Same.refl _)
    | true=>exact nx17 _ rfl r rfl (hfit r hx) ⟨(λ d hd v H5 s5 t5=>cont (a3l d) v [_] H5 (λ _=>by rw[hd];simp) (by rw[hb,hd];rfl) rfl s5 t5),(λ hn H5 s5=>ke (by unfold b5t;rw[hd1,a4j (z22.mpr ⟨hx,hb⟩) hn];rfl) H5 (s13.trans (ss.trans s5)))⟩
   rw[a8x] at ht2;have hd3:=b0x (f:=a9a) (l:=(a4n x).filter a4l) λ a ha=>hP2 a (z22.mp ha).1 (z22.mp ha).2
   have s14:=s13.trans s4;refine nx17 _ rfl _ rfl (by show 2<=sizeLine;decide) λ z hz=>?_;have s5:=Same.upd (o:=HO.tup [.ref D,.ref D2]) hz;exact k (_,_) (by unfold b5t;rw[hd1,hd3];rfl) _ _ (s14.trans s5) (.tup (a1v (s14.free hz) a0c) (.cons (.lst (a1v (s1.free hD) (s5 _ _ (s4 _ _ hd))) ((ht.same (a5i s1)).same (a3d (s4.trans s5)))) (.cons (.lst (a1v (s13.free hD2) (s5 _ _ hd2)) ((ht2.same (a5i s13)).same (a3d s5))) .nil)))
  by_cases e0:x=Str.empty
  ·have er:a4n x=[]:=z02 e0;exact nx4 _ rfl rfl _ rfl (b9y (by rw[e0,d9a]) ⟨(by show 0<=sizeLine;decide),λ q hq=>tail q _ (Same.upd hq) (by rw[er];exact a0c)⟩)
  ·have er:a4n x=Txt.split x ⟨#[10]⟩:=z01 e0;refine nx4 _ rfl rfl _ rfl (c4x (λ z=>e0 ((V.str.inj z).trans d9a)) (nx42 _ rfl rfl _ _ rfl rfl (by decide +kernel) ⟨(by lia),λ q hq=>?_⟩));rw[e2f,<-er];exact tail q _ (Same.upd hq) a0c
theorem b6l (T:Tx K mg):b0w P w K mg base (CXW P w) 7 T.a3n.f T.a3n.d ["text"] (d3w T.a1t):=by
 refine b0z T.a3n.F b0f (λ vs H Q E h=>?_) (λ cdv A outer s H vs Q E hr h=>?_)
 ·obtain⟨p,rfl,_⟩:=h;rfl
 ·obtain⟨x,rfl,hF,k,ke⟩:=h;refine⟨_,(a0d (e2i (E:=E) (i:=1) (j:=2) ((c4k T).mono (by decide)) hr rfl T.a5l.m T.a5l.F.kp T.a5l.b (a0a (pv 0) a0b) rfl rfl rfl (λ _ _ h=>h) T.c4y rfl T.b0j (c6i T.b0j.ok) T.c1l rfl b0f.nd rfl (Or.inl rfl) rfl rfl rfl (λ ea=>a0j))
   (a0d (a1g (PW.pt (a8t (a6n (a3q (pcF T.b0k (c1q T) hr (a0a (pv 1) a0b)))) (a6k (a0i b6m (pcF T.a7m (b6p T) hr (a0a (pv 1) a0b)) (pv 0) (a0o _)))))
   (a0f (c7d T.b0j rfl a0j))
   a0n)
   (a0f (a0p (pv 1))))),?_⟩
  have hl:=hF.1;unfold c8t at k ke;refine nx17 _ rfl x rfl (hF.mono (by decide)) ⟨(λ p hp v H2 s2 t2=>?_),(λ hn H2 s2=>?_)⟩
  ·rw[hp] at k ke;obtain⟨b1,b2,b3,b4⟩:=c5w hp;refine nx19 _ rfl v p rfl (t2.same a4s) (by lia) ⟨(λ m hm=>by have:=b4 m hm;lia),λ H3 s3=>⟨_,rfl,?_⟩⟩;have s23:=s2.trans s3;cases hb:c0f p with
   | false=>exact a5m (ke (by show (if _ then _ else _)=_;rw[z01];rintro⟨y,_⟩;rw[hb] at y;cases y) none H3 s23)
   | true =>
    refine a7h (nx19 _ rfl v p rfl ((t2.same a4s).same s3) b1 ⟨(by lia),λ H4 s4=> nx4 _ rfl rfl _ rfl ?_⟩);by_cases e:a5f p=x
    ·exact b9y (z0e V.str e) ⟨_,rfl,k p (z02 ⟨hb,e⟩) v H4 (s23.trans s4) (t2.same (a3d (s3.trans s4)))⟩
    ·exact c4x (λ z=>e (V.str.inj z)) (ke (z01 λ y=>e y.2) none H4 (s23.trans s4))
  ·exact⟨rfl,T.a1i,rfl,.inl ⟨T.e6a,c6i T.b7m.ok,λ ea hea=>⟨a0c,λ d'=>ke (by rw[hn];rfl) d' _ (s2.trans (Same.upd hea))⟩⟩⟩
--@STAGE
def ovI:Option Int->V
 | none=>.non
 | some k=>.int k
def e3r:Sp:=λ vs H Q _=>∃ x:Str,vs=[.str x]/\a1d 8000 x/\∀ H',Same H H'->Q (ovI (a4d x)) H'
def d0r:Sp:=λ vs H Q _=>∃ x:Str,vs=[.str x]/\a1d 8000 x/\∀ v H',Same H H'->OTr (off H H') v ((b5x x).map a4k)->Q v H'
def d0w:Sp:=λ vs H Q _=>∃ x:Str,vs=[.str x]/\a1d 8000 x/\∀ v H',Same H H'->OTr (off H H') v ((a9k x).map a3a)->Q v H'
def d0z:Sp:=λ vs H Q _=>∃ x:Str,vs=[.str x]/\a1d 8000 x/\∀ v H',Same H H'->OTr (off H H') v ((a9b x).map a3l)->Q v H'
theorem c1z (x:Str):Txt.slice x none (some 1)=⟨#[45]⟩ ↔ x.cps.toList[0]?=some 45:=by
 have l1:(⟨#[45]⟩:Str).length=1:=rfl;by_cases h:1<=x.length
 ·rw[show (1:Int)=((1:Nat):Int) from rfl,b3x h];cases q:x.cps.toList with
  | nil=>rw[a0t,q] at h;simp at h
  | cons c r =>
   constructor
   ·intro z;have:=z0e (λ y:Str=>y.cps.toList) z;rw[b7w,q] at this;have:c=45:=(List.cons.inj this).1;rw[this];rfl
   ·intro z;have:c=45:=by simpa using z
    refine z0n ?_;rw[b7w,q,this];rfl
 ·have h0:x.cps.toList=[]:=z3h (by rw[<-a0t];lia);constructor
  ·intro z;have hl:=z3s x none (some 1);rw[z,l1] at hl;lia
  ·intro z;rw[h0] at z;cases z
theorem e2c {cs fs:List Nat} (hf:fs=a8n cs):a2p cs=(fs.all dig && (decide (1<=fs.length) && (decide (fs.length<=30) && !(decide (fs[0]?=some 48) && !decide (cs=[48]))))):=by
 by_cases h0:cs=[48]
 ·have e:fs=[48]:=by rw[hf,h0];rfl
  rw[e,h0];rfl
 ·unfold a2p;rw[z0v h0,Bool.false_or,<-hf];cases fs with
  | nil=>rfl
  | cons c r =>
   show (!decide (c=48) && (decide ((c::r).length<=30) && (c::r).all dig))=((c::r).all dig && (decide (1<=(c::r).length) && (decide ((c::r).length<=30) && !(decide (some c=some 48) && !false))));rw[z07 (show 1<=(c::r).length by simp)];by_cases h1:c=48
   ·rw[z07 h1,z07 (z0e some h1)];simp
   ·rw[z0v h1,z0v (λ z=>h1 (z1g z))];simp[Bool.and_comm]
theorem a4b {α:Type} {l:List α} {i:Nat} {x:α} (h:l[i]?=some x):l.take (i+1)=l.take i++[x]:=by rw[z1m,h];rfl
theorem a2d {xs:List V} {i:Int} {v:V} (j:Nat) (e:i=(j:Int)) (h:xs[j]?=some v):atI xs i=some v:=by
 rw[e];exact a0k h
theorem a7f (T:Tx K mg):T.a5y.Ok P w base 1 e3r:=by
 refine okF T.a5y.F a9m λ _ A _ _ H _ Q _ _ h=>?_
 ·obtain⟨x,rfl,hF,q⟩:=h;refine⟨_,(a0d (psx 1 a9m.nd (pv 0))
   (a1y (a1g (a0i a2j (a0y a3x (pv 0) a1u (a1h a0e)) a0j (a0o _))
   (a0f (psx 1 a9m.nd (a0y a3x (pv 0) (a1h a0e) a1u)))
   a0n)
   (a0d (a2r z11 rfl (e3o (pv 1)) (pgm 2 a9m.nd)
   (a0f (a1g (a0i c1o (pv 2) a0j rfl)
   (a0f (a0p a3f))
   a0n)))
   (a1y (a1g (PW.pt (a8t (a0i b3e (a0q a1k (by rfl) T.a4f z0z (a0a (pv 1) a0b)) a0e (a0o _)) (a8t (a0i d4m (a0q a1k (by rfl) T.a4f z0z (a0a (pv 1) a0b)) a0e (a0o _)) (a6k (PW.pt (b2b (a0i a2j (pix c5n (pv 1) a0e) a0j (a0o _)) (a8e (a0i b6m (pv 0) a0j (a0o _)))))))))
   (a0f (a0p a3f))
   a0n)
   (a0f (a0p (a2i b1v (by rfl) T.c1u boot_int (a0a (pv 0) a0b)))))))),?_⟩
  have z8:(8000:Nat)<=sizeLine:=by decide
  have hl:=hF.1;refine nx6 _ rfl (λ σ H2=>H2=H/\∃ F:Str,σ=[some (.str x),some (.str F),none]/\F.cps.toList=a8n x.cps.toList/\F.length<=8000) ?_ ?_
  ·refine nx6 _ rfl _ rfl (nx28 x rfl (by lia) rfl _ rfl (a3o (λ e=>?_) (λ e=>?_)))
   ·have e1:=(c1z x).mp ((V.str.inj (z0b e)).trans c7s);have h1:1<=x.length:=by rw[a0t];exact(z0i.mp e1).1
    refine nx6 _ rfl _ rfl (nx28 x rfl (by lia) rfl _ rfl ⟨?_,z0s (z3s x _ _) hl⟩);rw[b7a h1];cases q:x.cps.toList with
    | nil=>rw[q] at e1;cases e1
    | cons c r =>
     rw[q] at e1;have hc:c=45:=by simpa using e1
     exact(z02 hc).symm
   ·have e1:¬ x.cps.toList[0]?=some 45:=λ z=>e (z07 (by rw[(c1z x).mpr z,<-c7s]))
    refine⟨rfl,x,rfl,?_,hl⟩;cases q:x.cps.toList with
    | nil=>rfl
    | cons c r =>
     rw[q] at e1;exact(z01 λ z=>e1 (by rw[z];rfl)).symm
  ·rintro σ H2 ⟨rfl,F,rfl,hFc,hFl⟩;have lc:=a0t F;have hnl:=e2c hFc;have kf:a2p x.cps.toList=false->∀ H',Same H2 H'->Q .non H':=λ h H' s'=>by
    have:=q H' s';rw[a5u h] at this;exact this
   refine nx6 _ rfl F rfl (d9z (ys:=a5z F) (λ i σ H3=>H3=H2/\(F.cps.toList.take i).all dig=true/\∃ v:Option V,σ=[some (.str x),some (.str F),v]) ⟨rfl,rfl,none,rfl⟩ ?_ ?_)
   ·rintro i y σ H3 hi ⟨rfl,hall,v1,rfl⟩;rw[b2n,<-z2a] at hi;obtain⟨d,hd,rfl⟩:=z3d.mp hi;refine nx23 _ rfl _ _ rfl rfl _ rfl ?_;rw[e4h];cases hdg:dig d with
    | false =>
     refine a5m (kf ?_ _ (Same.refl _));rw[hnl,show F.cps.toList.all dig=false from List.all_eq_false.mpr ⟨d,z0h hd,by rw[hdg];simp⟩];rfl
    | true =>
     refine a7h ⟨rfl,?_,some (.str ⟨#[d]⟩),rfl⟩;rw[a4b hd,List.all_append,hall];show (true && (dig d && true))=true;rw[hdg];rfl
   ·rintro σ H3 ⟨rfl,hall,v1,rfl⟩;have el:(a5z F).length=F.cps.toList.length:=by rw[a7a,a0t]
    rw[el,z16] at hall;rw[hall,z2y] at hnl;refine⟨λ σ H4=>H4=H3/\a2p x.cps.toList=true/\σ=[some (.str x),some (.str F),v1],?_,?_⟩
    ·refine nx5 _ rfl _ _ rfl ⟨by lia,rfl⟩ (nx31 _ _ rfl rfl _ rfl (a3o (λ e1=>a5m (B:=False) ?_) (λ e1=>?_)))
     ·have e1':((F.length:Nat):Int) < 1:=z0b e1;exact kf (by rw[hnl,z0v (show ¬ 1<=F.cps.toList.length by lia)];rfl) _ (Same.refl _)
     have e1':¬ ((F.length:Nat):Int) < 1:=λ z=>e1 (z07 z)
     rw[z07 (show 1<=F.cps.toList.length by lia),z2y] at hnl;refine nx5 _ rfl _ _ rfl ⟨by lia,rfl⟩ (nx31 _ _ rfl rfl _ rfl (a3o (λ e2=>a5m (B:=False) ?_) (λ e2=>?_)))
     ·have e2':(30:Int) < ((F.length:Nat):Int):=z0b e2;exact kf (by rw[hnl,z0v (show ¬ F.cps.toList.length<=30 by lia)];rfl) _ (Same.refl _)
     have e2':¬ (30:Int) < ((F.length:Nat):Int):=λ z=>e2 (z07 z)
     rw[z07 (show F.cps.toList.length<=30 by lia),z2y] at hnl;obtain⟨c,hc⟩:∃ c,F.cps.toList[0]?=some c:=⟨_,z0c (by lia)⟩;rw[hc] at hnl;refine nx1 _ rfl F (nx25 0 c rfl rfl (by lia) (a0k (j:=0) hc) ⟨rfl,_,rfl,a3o (λ e3=>?_) (λ e3=>?_)⟩)
     ·have h48:=(b3p c).mp (V.str.inj (z0b e3));rw[z07 (z0e some h48),z2y] at hnl;refine nx4 _ rfl rfl _ rfl ?_;by_cases hx:x.cps.toList=[48]
      ·rw[z07 hx] at hnl;exact b9y (z0e V.str ((b2a x).mpr hx)) ⟨rfl,hnl,rfl⟩
      ·rw[z0v hx] at hnl;exact c4x (λ z=>hx ((b2a x).mp (V.str.inj z))) (kf hnl _ (Same.refl _))
     ·rw[z0v (λ z=>e3 (z07 (z0e V.str ((b3p c).mpr (z1g z)))))] at hnl;exact a7h (A:=False) ⟨rfl,hnl,rfl⟩
    ·rintro σ H4 ⟨rfl,hn,rfl⟩;have:=d3f hn;have q2:=q H4 (Same.refl _);rw[a5a hn] at q2;exact nx19 _ rfl x _ rfl (b7y (by lia) hn) (by lia) q2
--@STAGE
theorem b2f (x:Str) (s:Str) (hs:1<=s.length):∃ (at':Int) (a b:Str),d7m x s=at'/\(-1<=at'/\at'<=x.length)/\Txt.slice x none (some (if at' > 0 then at' else 0))=a/\Txt.slice x (some (at'+s.length)) none=b/\((at' < 0/\a7k x s=none)\/(0<=at'/\a7k x s=some (a,b)/\at'=a.length)):=by
 cases hc:a7k x s with
 | none =>
  refine nx2 (-1) _ _ ?_ ⟨by lia,by lia⟩ rfl rfl (.inl ⟨by decide,rfl⟩);unfold a7k at hc;unfold d7m;split at hc
  ·next e=>rw[e]
  ·cases hc
 | some q =>
  obtain⟨a,b⟩:=q;obtain⟨i,e1,e2,e3,e4,e5⟩:=c5c hc;have hi:i<=x.length:=by lia
  have hla:a.length=i:=by rw[e2,a0t,b7w,z14,<-a0t];lia
  refine nx2 (i:Int) a b (by unfold d7m;rw[e1]) ⟨by lia,by lia⟩ ?_ ?_ (.inr ⟨by lia,rfl,by rw[hla]⟩)
  ·rw[show (if (i:Int) > 0 then (i:Int) else 0)=(i:Int) by split<;>lia,b3x hi,e2]
  ·rw[show (i:Int)+(s.length:Int)=((i+s.length:Nat):Int) by push_cast;rfl,b0a e4,e3]
theorem c0s {α β:Type} {f:α->Option β} {b:β} {a:α}:∀ {l:List α} {m:List β},a5x f l=some m->f a=some b->a5x f (l++[a])=some (m++[b])
 | [],m,h,e=>by
  cases h;show (match f a,a5x f [] with
   | some b,some l=>some (b::l)
   | _,_=>none)=_
  rw[e];rfl
 | x::r,m,h,e=>by
  obtain⟨y,l,e1,e2,rfl⟩:=a5v h;show (match f x,a5x f (r++[a]) with
   | some b,some l=>some (b::l)
   | _,_=>none)=_
  rw[e1,c0s e2 e];rfl
theorem c8v (T:Tx K mg):T.b4q.Ok P w base 2 d0r:=by
 refine okF T.b4q.F a4u λ _ _ _ s H _ Q _ hr h=>?_
 ·obtain⟨x,rfl,hF,q⟩:=h;refine⟨_,(a0d (psx 1 a4u.nd (a1l a0b))
   (a1y (a1g (a0i a2j (pv 0) a0j (a0o _))
   (a0f (a0p (pv 1)))
   a0n)
   (a0d (a2r z11 rfl (a0z (a2l z0y z2i z2j a4y (pv 0) (a0a a0j a0b))) (pgm 2 a4u.nd)
   (a0d (psx 3 a4u.nd (a2l z0y z4r F.type_str_find b8c (pv 2) (a0a a0j a0b)))
   (a0d (psx 4 a4u.nd (pcF T.a5y (a7f T) hr (a0a (a0y a3x (pv 2) a1u (a1h (a0q (c2l rfl) (by rfl) T.d5u boot_max (a0a a0e (a0a (pv 3) a0b))))) a0b)))
   (a0d (psx 5 a4u.nd (pcF T.a5y (a7f T) hr (a0a (a0y a3x (pv 2) (a1h (a0l a2c (pv 3) a0e)) a1u) a0b)))
   (a1y (a1g (a0i a2j (a0y a3x (pv 2) (a1h (a0l a2c (pv 3) a0e)) a1u) a0j (a0o _))
   (a0f (psx 5 a4u.nd (d0u c1k a0e)))
   (a0f (a1g (PW.pt (a8t (a0i b6q (pv 5) a3f (a0o _)) (a6k (a0i b3e (pv 5) a0e (a0o _)))))
   (a0f (a0p a3f))
   a0n)))
   (a1y (a1g (PW.pt (a8t (a0i b3e (pv 3) a0e (a0o _)) (a6k (a0i b6q (pv 4) a3f (a0o _)))))
   (a0f (a0p a3f))
   a0n)
   (a0f (a3i (a2l z1w z23 z20 a2f (pv 1) (a0a (a3p (a0a (pv 4) (a0a (pv 5) a0b))) a0b))))))))))
   (a0f (a0p (pv 1)))))),?_⟩
  have z8:(8000:Nat)<=sizeLine:=by decide
  have hl:=hF.1;refine⟨(by show 0<=sizeLine;decide),λ D hD=>?_⟩;have s0:=Same.upd (o:=HO.lst []) hD;have h0:=a0c (H:=H) (a:=D) (o:=HO.lst []);generalize upd H D (HO.lst [])=H1 at s0 h0;refine⟨λ σ H2=>H2=H1/\¬ x=⟨#[45]⟩/\σ=[some (.str x),some (.ref D),none,none,none,none],?_,?_⟩
  ·refine nx4 _ rfl rfl _ rfl (a3o (λ e=>?_) (λ e=>?_))
   ·have e':x=⟨#[45]⟩:=(V.str.inj (z0b e)).trans c7s;refine⟨_,rfl,q _ H1 s0 ?_⟩;unfold b5x b8n;rw[z02 e'];exact .lst (a1v hD h0) .nil
   ·exact⟨rfl,λ z=>e (z07 (by rw[z,<-c7s])),rfl⟩
  rintro σ H2 ⟨rfl,hne,rfl⟩;unfold b5x b8n at q;rw[z01 hne] at q;refine nx42 _ rfl rfl x (" ") rfl rfl (by decide +kernel) ⟨(by lia),λ p hp=>?_⟩;rw[c0l];have hfit:=a2u (y:=⟨#[32]⟩) hF;have hsl:(Txt.split x ⟨#[32]⟩).length<=8002:=by have:=split_le x ⟨#[32]⟩;lia
  generalize Txt.split x ⟨#[32]⟩=ws at q hfit hsl ⊢;have s1:=Same.upd (o:=HO.lst (ws.map V.str)) hp;have g1:=a0c (H:=H2) (a:=p) (o:=HO.lst (ws.map V.str));have h1:=s1 _ _ h0;have pD:p≠D:=λ z=>by rw[z,h0] at hp;cases hp
  generalize upd H2 p (HO.lst (ws.map V.str))=H3 at s1 g1 h1;have s01:=s0.trans s1;refine⟨p,rfl,⟨_,SqL.of g1⟩,a3k (K:=K) (a:=p) (xs:=ws.map V.str) (λ i σ H4=>∃ (x2 x3 x4 x5:Option V) (xs:List V) (l:Lk),σ=[some (.str x),some (.ref D),x2,x3,x4,x5]/\H4 p=some (.lst (ws.map V.str))/\Same H H4/\H4 D=some (.lst xs)/\a5x b2x (ws.take i)=some l/\Trs (b0q (off H H4) D) xs (l.map a5g))
   (nx3 none none (nx24 none none ([]) ([]) rfl g1 s01 h1 rfl (.nil))) (λ i σ H4 _ hJ=>by obtain⟨_,_,_,_,_,_,_,hp4,_⟩:=hJ;exact SqL.of hp4) ?_ ?_⟩
  ·rintro i y σ H4 hi ⟨x2,x3,x4,x5,xs,l,rfl,hp4,s4,h4,ha,ht⟩;rw[z0f] at hi;obtain⟨t,et,rfl⟩:=z3d.mp hi;have htm:=z0h et;have ft:=hfit t htm;obtain⟨at',a,b,ea,⟨hlo,hhi⟩,sa,sb',hcase⟩:=b2f t ⟨#[60]⟩ (by decide);have sb:Txt.slice t (some (at'+1)) none=b:=sb';have bad:b2x t=none->Q .non H4/\∀ H',Same H4 H'->Q .non H':=λ hn=>by
    rw[a4j htm hn] at q;exact⟨q _ H4 s4 rfl,λ H' s'=>q _ H' (s4.trans s') rfl⟩
   have fa:a1d 8000 a:=by rw[<-sa];exact ft.slice _ _
   have fb:a1d 8000 b:=by rw[<-sb];exact ft.slice _ _
   have lt:=ft.1;refine nx16 _ rfl rfl t ("<") rfl rfl ?_;rw[e4t,ea];refine nx6 _ rfl _ rfl ⟨0,nx6 at' rfl _ rfl (nx4 t rfl (by lia) _ rfl ⟨ft.slice _ _,λ H5 s5=>?_⟩)⟩;rw[sa];refine nx6 _ rfl _ rfl (nx31 _ _ rfl rfl _ rfl (nx4 t rfl (by lia) _ rfl ⟨ft.slice _ _,λ H6 s6=>?_⟩));rw[sb];have s46:=s5.trans s6;refine⟨λ σ H7=>H7=H6/\∃ sx:Int,d2z b=some sx/\σ=[some (.str x),some (.ref D),some (.str t),some (.int at'),some (ovI (a4d a)),some (.int sx)],?_,?_⟩
   ·refine nx6 _ rfl _ rfl (nx31 _ _ rfl rfl _ rfl (nx28 t rfl (by lia) rfl _ rfl ?_));rw[sb];refine a3o (λ e=>?_) (λ e=>?_)
    ·have e':b=⟨#[63]⟩:=(V.str.inj (z0b e)).trans d5n;exact nx4 _ rfl rfl (-1) (z02 e') rfl
    ·have e':¬ b=⟨#[63]⟩:=λ z=>e (z07 (by rw[z,<-d5n]))
     have es:d2z b=(a4d b).bind λ s=>if 0<=s then some s else none:=z01 e'
     have hb:d2z b=none->b2x t=none:=λ hn=>by
      rcases hcase with ⟨_,hc⟩ | ⟨_,hc,_⟩
      ·unfold b2x b6i;rw[hc];rfl
      ·unfold b2x b6i;rw[hc];show (a4d a).bind (λ k=>(d2z b).map _)=none;rw[hn];cases a4d a<;>rfl
     cases hnb:a4d b with
     | none =>
      rw[hnb] at es;exact nx4 _ rfl rfl _ rfl (a5m (a5m ((bad (hb es)).2 _ s46)))
     | some n =>
      rw[hnb] at es;refine nx4 _ rfl rfl _ rfl (a7h (nx23 _ rfl _ _ rfl rfl _ rfl (a3o (λ e2=>?_) (λ e2=>?_))))
      ·have e2':n < 0:=z0b e2;exact(bad (hb (es.trans (z01 (by lia))))).2 _ s46
      ·have e2':¬ n < 0:=λ z=>e2 (z07 z)
       exact⟨rfl,n,es.trans (z02 (by lia)),rfl⟩
   rintro σ H7 ⟨rfl,sx,hsx,rfl⟩;refine⟨λ σ H8=>H8=H7/\∃ k:Int,b2x t=some (k,sx)/\σ=[some (.str x),some (.ref D),some (.str t),some (.int at'),some (.int k),some (.int sx)],?_,?_⟩
   ·refine nx23 _ rfl _ _ rfl rfl _ rfl (a3o (λ e=>a5m (B:=False) ?_) (λ e=>?_))
    ·have e':at' < 0:=z0b e;rcases hcase with ⟨_,hc⟩ | ⟨h0,_⟩
     ·exact(bad (by unfold b2x b6i;rw[hc];rfl)).2 _ s46
     ·lia
    ·have e':¬ at' < 0:=λ z=>e (z07 z)
     rcases hcase with ⟨h0,_⟩ | ⟨_,hc,_⟩
     ·lia
     ·have ep:b2x t=(a4d a).bind λ k=>some (k,sx):=by
       unfold b2x b6i;rw[hc];show (a4d a).bind (λ k=>(d2z b).map _)=_;rw[hsx];rfl
      cases hna:a4d a with
      | none =>
       rw[hna] at ep;exact nx4 _ rfl rfl _ rfl (a5m ((bad ep).2 _ s46))
      | some k =>
       rw[hna] at ep;exact nx4 _ rfl rfl _ rfl (a7h ⟨rfl,k,ep,rfl⟩)
   rintro σ H8 ⟨rfl,k,hk,rfl⟩;have hlx:xs.length<=8002:=by
    rw[ht.len,z03,b8a ha,z14];lia
   have h48:=s46 _ _ h4;refine nx43 _ rfl (.inl ⟨rfl,_,SqL.of h48⟩) _ rfl _ rfl ⟨(by show 2<=sizeLine;decide),λ u hu=>?_⟩;have s9:=Same.upd (o:=HO.tup [.int k,.int sx]) hu;have g9:=a0c (H:=H8) (a:=u) (o:=HO.tup [.int k,.int sx]);generalize upd H8 u (HO.tup [.int k,.int sx])=H9 at s9 g9;refine nx2 D xs _ rfl rfl (s9 _ _ h48) (z3m hlx (by decide)) λ H10 h10 k10=>?_;have s49:=s46.trans s9;have uD:u≠D:=λ z=>by rw[z,h48] at hu;cases hu
   refine nx3 _ _ (nx24 _ _ _ (l++[(k,sx)]) rfl (k10 _ _ pD (s49 _ _ hp4)) (λ b o eb=>k10 _ _ (λ z=>by rw[z,hD] at eb;cases eb) (s49 _ _ (s4 _ _ eb))) h10 (by rw[a4b et];exact c0s ha hk) ?_);rw[z0m];refine(ht.same λ b o eb=>?_).app (.cons (.tup (a5t uD (a1v ((s4.trans s46).free hu) (k10 _ _ uD g9))) (.cons (.int _) (.cons (.int _) .nil))) .nil);have e1:=a3g eb;have e2:=a1b e1.2;exact a5t e1.1 (a1v e2.1 (k10 _ _ e1.1 (s49 _ _ e2.2)))
  ·rintro σ H4 ⟨x2,x3,x4,x5,xs,l,rfl,hp4,s4,h4,ha,ht⟩;rw[z03,z16] at ha;rw[ha] at q;exact⟨_,rfl,q _ H4 s4 (.lst (a1v hD h4) (ht.same b3v))⟩
theorem c9e {x:Str} {l:Option Int} {j:Int} (h:(x.length:Int)<=j):Txt.slice x l (some j)=Txt.slice x l none:=by
 show PySem.StrLaws.sliceText x l (some j)=PySem.StrLaws.sliceText x l none;unfold PySem.StrLaws.sliceText;have e:Builtin.Str.strSliceIndices l (some j) 1 x.length=Builtin.Str.strSliceIndices l (some (x.length:Int)) 1 x.length:=by
  have h1:max 0 (min j (x.length:Int))=(x.length:Int):=by lia
  have h2:¬ j < 0:=by lia
  have h3:¬ (x.length:Int) < 0:=by lia
  simp[Builtin.Str.strSliceIndices,h1,h2,h3]
 rw[PySem.StrLaws.sliceIdx_none_hi,e]
theorem d3x {x:Str} {i:Nat} (h:i<=x.length):Txt.slice x (some (i:Int)) (some ((i:Int)+1))=⟨(x.cps.toList.drop i |>.take 1).toArray⟩:=by
 by_cases h1:i+1<=x.length
 ·have e:Txt.slice x (some (i:Int)) (some ((i:Int)+1))=⟨((x.cps.toList.drop i).take (i+1 - i)).toArray⟩:=PySem.StrLaws.sliceText_nat x (Nat.le_succ i) h1;rw[e,show i+1 - i=1 by lia]
 ·rw[c9e (by lia),b0a h];refine z0n ?_;have hi:x.cps.toList.drop i=[]:=z3j (by rw[<-a0t];lia);rw[a4x,hi];rfl
theorem b3t {α β γ:Type} {f:α->Option β} {g:β->γ} {l:List α} (h:(l.map λ t=>(f t).map g).any Option.isNone=true):a5x f l=none:=by
 obtain⟨o,ho,h1⟩:=z4j.mp h;obtain⟨t,ht,rfl⟩:=z0a.mp ho;refine a4j ht ?_;cases e:f t with
 | none=>rfl
 | some b=>rw[e] at h1;cases h1
theorem b3l {α β γ:Type} {f:α->Option β} {g:β->γ} {l:List α} (h:(l.map λ t=>(f t).map g).any Option.isNone=false):a5x f l=some (l.filterMap f)/\(l.map λ t=>(f t).map g)=((l.filterMap f).map g).map some:=by
 have h1:∀ t∈l,f t≠none:=λ t ht e=>by
  have:=List.any_eq_false.mp h _ (z0a.mpr ⟨t,ht,rfl⟩);rw[e] at this;exact this rfl
 have h2:=b0x h1;refine⟨h2,?_⟩;have h3:=b8w h2;have h4:(l.map λ t=>(f t).map g)=(l.map f).map (Option.map g):=by rw[z0t];rfl
 rw[h4,h3,z0t,z0t];rfl
theorem d8c {cs:List Nat}:((⟨(cs.take 1).toArray⟩:Str)∈([("":Str)," "]:List Str)) ↔ (cs=[]\/cs[0]?=some 32):=by
 rw[d9a,c0l];cases cs with
 | nil=>exact⟨λ _=>.inl rfl,λ _=>z0g⟩
 | cons c r =>
  have e1:(⟨((c::r).take 1).toArray⟩:Str)=⟨#[c]⟩:=rfl;rw[e1,z06,z0o];constructor
  ·rintro(z | z)
   ·exact absurd z (b1m (s:=⟨#[c]⟩) rfl)
   ·have:[c]=[32]:=z0e (λ y:Str=>y.cps.toList) z;cases this;exact .inr rfl
  ·rintro(z | z)
   ·cases z
   ·have:c=32:=by simpa using z
    rw[this];exact .inr rfl
theorem c8b (T:Tx K mg):T.b5g.Ok P w base 3 d0w:=by
 refine okF T.b5g.F a5p λ _ _ _ _ H _ Q _ hr h=>?_
 ·obtain⟨x,rfl,hF,q⟩:=h;refine⟨_,(a0d (psx 1 a5p.nd (a2l z0y z4r F.type_str_find b8c (pv 0) (a0a a0j a0b)))
   (a0d (psx 2 a5p.nd (a2l z0y z2i z2j a4y (a0y a3x (pv 0) a1u (a1h (a0q (c2l rfl) (by rfl) T.d5u boot_max (a0a a0e (a0a (pv 1) a0b))))) (a0a a0j a0b)))
   (a1y (a1g (PW.pt (a8t (a0i b3e (pv 1) a0e (a0o _)) (a8t (a0i b6m (a0q a1k (by rfl) T.a4f z0z (a0a (pv 2) a0b)) a0e (a0o _)) (a6k (a0i a6o (pix a1e (pv 2) a0e) (a1l (a0a a0j (a0a a0j (a0a a0j (a0a a0j (a0a a0j a0b)))))) rfl)))))
   (a0f (a0p a3f))
   a0n)
   (a0d (psx 3 a5p.nd (pcF T.a5y (a7f T) hr (a0a (pix a1e (pv 2) a0e) a0b)))
   (a0d (psx 4 a5p.nd (a1l a0b))
   (a1y (a1g (PW.pt (a8t (a0i b6q (pv 3) a3f (a0o _)) (a6k (a0i a6o (a0y a3x (pv 0) (a1h (a0l a2c (pv 1) a0e)) (a1h (a0l a2c (pv 1) a0e))) (a1l (a0a a0j (a0a a0j a0b))) rfl))))
   (a0f (a0p a3f))
   a0n)
   (a1y (a1g (a0i b6m (a0y a3x (pv 0) (a1h (a0l a2c (pv 1) a0e)) a1u) a0j (a0o _))
   (a0f (psf 4 ["_law_part"] a5p.nd [] [] (a0z (a2l z0y z2i z2j a4y (a0y a3x (pv 0) (a1h (a0l a2c (pv 1) a0e)) a1u) (a0a a0j a0b))) (pgn 0) a2y (pcF T.b4q (c8v T) hr (a0a (pv 0) a0b))))
   a0n)
   (a1y (a1g (a0i (b1i (u16 hr.units) rfl) a3f (pv 4) rfl)
   (a0f (a0p a3f))
   a0n)
   (a0f (a0p (a3p (a0a (pv 3) (a0a (pix a1e (pv 2) a0e) (a0a (pv 4) a0b)))))))))))))),?_⟩
  have z8:(8000:Nat)<=sizeLine:=by decide
  have hl:=hF.1;obtain⟨at',a,b,ea,⟨hlo,hhi⟩,sa,sb',hcase⟩:=b2f x ⟨#[58]⟩ (by decide);have sb:Txt.slice x (some (at'+1)) none=b:=sb';have bad:a9k x=none->∀ H',Same H H'->Q .non H':=λ hn H' s'=>by
   have:=q .non H' s';rw[hn] at this;exact this rfl
  have fa:a1d 8000 a:=by rw[<-sa];exact hF.slice _ _
  have fb:a1d 8000 b:=by rw[<-sb];exact hF.slice _ _
  refine nx16 _ rfl rfl x (":") rfl rfl ?_;rw[d1m,ea];refine nx6 _ rfl _ rfl (nx12 0 at' rfl (nx17 _ rfl x rfl (by lia) ⟨rfl,nx25 _ _ rfl rfl (by decide +kernel) ?_ λ p hp=>?_⟩))
  ·exact z0s (hF.slice _ _).1 (by decide)
  rw[c0l,sa];have hfit:=a2u (y:=⟨#[32]⟩) fa;obtain⟨ws,ews⟩:∃ ws,Txt.split a ⟨#[32]⟩=ws:=⟨_,rfl⟩;rw[ews] at hfit ⊢;have s1:=Same.upd (o:=HO.lst (ws.map V.str)) hp;have g1:=a0c (H:=H) (a:=p) (o:=HO.lst (ws.map V.str));generalize upd H p (HO.lst (ws.map V.str))=H1 at s1 g1;have edl:0<=at'->a7k x ⟨#[58]⟩=some (a,b)/\at'=a.length/\a9k x=d6z b ws:=λ h0=>by
   rcases hcase with ⟨z,_⟩ | ⟨_,hc,el⟩
   ·lia
   ·refine⟨hc,el,?_⟩;unfold a9k;rw[hc];rw[<-ews];rfl
  refine⟨λ σ H2=>Same H1 H2/\0<=at'/\(∃ n w,ws=[n,w]/\w∈a8r)/\σ=[some (.str x),some (.int at'),some (.ref p),none,none],?_,?_⟩
  ·refine nx23 _ rfl _ _ rfl rfl _ rfl (a3o (λ e=>a5m (B:=False) ?_) (λ e=>?_))
   ·have e':at' < 0:=z0b e;rcases hcase with ⟨_,hc⟩ | ⟨z,_⟩
    ·exact bad (by unfold a9k;rw[hc];rfl) _ s1
    ·lia
   have e':¬ at' < 0:=λ z=>e (z07 z)
   obtain⟨_,_,ed⟩:=edl (by lia);refine nx1 _ rfl _ (nx28 _ rfl (.inl ⟨_,SqL.of g1,rfl⟩) rfl _ rfl ?_);by_cases h2:ws.length=2
   ·refine b9y (by rw[z03,h2];rfl) ?_;obtain⟨n,w,rfl⟩:∃ n w,ws=[n,w]:=by
     match ws,h2 with
     | [n,w],_=>exact nx3 n w rfl
    refine nx40 _ rfl p _ _ _ rfl rfl (SqL.of g1) (a0k (j:=1) rfl) (by show 5<=sizeLine;decide) λ l hl5=> nx14 l (a8r.map V.str) rfl (.inl (SqL.of a0c)) rfl rfl _ rfl ?_;rw[b3w];by_cases hw:w∈a8r
    ·rw[z07 hw];exact a7h ⟨Same.upd hl5,by lia,nx12 n w rfl hw,rfl⟩
    ·rw[z0v hw];exact a5m (bad (ed.trans (z01 hw)) _ (s1.trans (Same.upd hl5)))
   ·refine c4x (λ z=>h2 (by rw[z03] at z;have:=V.int.inj z;lia)) (a5m (B:=False) (bad (ed.trans ?_) _ s1));match ws,h2 with
    | [],_=>rfl
    | [_],_=>rfl
    | [_,_],h=>exact absurd rfl h
    | _::_::_::_,_=>rfl
  rintro σ H2 ⟨s2,h0,⟨n,w,rfl,hw⟩,rfl⟩;obtain⟨hc,el,ed⟩:=edl h0;have ed:a9k x=(a4d n).bind λ k=>(b0c b).map λ ls=>(k,w,ls):=ed.trans (z02 hw)
  have s02:=s1.trans s2;have g2:=s2 _ _ g1;refine nx27 _ rfl p _ _ _ rfl rfl (SqL.of g2) (a0k (j:=0) rfl) n rfl (hfit n z0g) λ H3 s3=>?_;refine⟨(by show 0<=sizeLine;decide),λ D0 hD0=>?_⟩;have s03:=s02.trans s3;have s4:=Same.upd (o:=HO.lst []) hD0;have g4:=a0c (H:=H3) (a:=D0) (o:=HO.lst []);have hD0H:=s03.free hD0;generalize upd H3 D0 (HO.lst [])=H4 at s4 g4;have s04:=s03.trans s4;have hal:a.length+1<=x.length:=by
   have:=b1e (a6q hc);rw[b3a] at this;lia
  have hbc:b.cps.toList=x.cps.toList.drop (a.length+1):=by
   rw[<-sb,el,show ((a.length:Nat):Int)+1=((a.length+1:Nat):Int) by push_cast;rfl,b0a hal,a4x]
  have hsl:Txt.slice x (some (at'+1)) (some (at'+2))=⟨(b.cps.toList.take 1).toArray⟩:=by
   rw[hbc,el,show ((a.length:Nat):Int)+2=((a.length+1:Nat):Int)+1 by push_cast;lia,show ((a.length:Nat):Int)+1=((a.length+1:Nat):Int) by push_cast;rfl];exact d3x hal
  refine⟨λ σ H5=>Same H4 H5/\∃ k,a4d n=some k/\(b.cps.toList=[]\/b.cps.toList[0]?=some 32)/\σ=[some (.str x),some (.int at'),some (.ref p),some (.int k),some (.ref D0)],?_,?_⟩
  ·cases hn:a4d n with
   | none =>
    rw[hn] at ed;exact nx4 _ rfl rfl _ rfl (a5m (a5m (bad ed _ s04)))
   | some k =>
    rw[hn] at ed;refine nx4 _ rfl rfl _ rfl (a7h (nx15 _ rfl _ rfl _ _ rfl rfl (nx15 _ rfl _ rfl _ _ rfl rfl (nx17 _ rfl x rfl (by lia) ⟨(by show 2<=sizeLine;decide),λ l hl2=> nx14 l (([("":Str)," "]:List Str).map V.str) rfl (.inl (SqL.of a0c)) rfl rfl _ rfl ?_⟩))));rw[b3w,hsl];by_cases hb:b.cps.toList=[]\/b.cps.toList[0]?=some 32
    ·rw[z07 (d8c.mpr hb)];exact a7h ⟨Same.upd hl2,k,rfl,hb,rfl⟩
    ·rw[z0v (λ z=>hb (d8c.mp z))];refine a5m (bad (ed.trans ?_) _ (s04.trans (Same.upd hl2)));have:b0c b=none:=by
      unfold b0c;rw[z01 (λ z=>hb (.inl (by rw[z];rfl))),z01 (λ z=>hb (.inr z))]
     rw[this];rfl
  rintro σ H5 ⟨s5,k,hn,hb,rfl⟩;rw[hn] at ed;have ed:a9k x=(b0c b).map λ ls=>(k,w,ls):=ed
  have s05:=s04.trans s5;refine⟨λ σ H6=>Same H5 H6/\∃ (la:Addr) (zs:List V) (ps:List Str),b0c b=a5x b5x ps/\H la=none/\H6 la=some (.lst zs)/\Paired (OTr (off H H6)) zs (ps.map λ t=>(b5x t).map a4k)/\σ=[some (.str x),some (.int at'),some (.ref p),some (.int k),some (.ref la)],?_,?_⟩
  ·refine nx6 _ rfl _ rfl (nx31 _ _ rfl rfl _ rfl (nx28 x rfl (by lia) rfl _ rfl ?_));rw[sb];by_cases hbe:b=Str.empty
   ·refine b9y (by rw[hbe,d9a]) (⟨Same.refl _,nx2 D0 ([]) ([]) ?_ hD0H (s5 _ _ g4) (.nil) rfl⟩);unfold b0c;rw[z02 hbe];rfl
   ·refine c4x (λ z=>hbe ((V.str.inj z).trans d9a)) ?_;have hb32:b.cps.toList[0]?=some 32:=hb.resolve_left λ z=>hbe (z0n z)
    have hbl:a.length+2<=x.length:=by
     have h1:1<=b.cps.toList.length:=(z0i.mp hb32).1;rw[hbc,z29,<-a0t] at h1;lia
    have hs2:Txt.slice x (some (at'+2)) none=Builtin.Str.strSub b 1 b.length:=by
     rw[el,show ((a.length:Nat):Int)+2=((a.length+2:Nat):Int) by push_cast;rfl,b0a hbl];refine z0n ?_;rw[a4x,a4x,hbc,List.drop_drop]
    have ht:b0c b=a5x b5x (Txt.split (Builtin.Str.strSub b 1 b.length) a3v):=by
     unfold b0c;rw[z01 hbe,z02 hb32]
    have fs:=b1o fb 1 b.length;refine nx15 _ rfl _ rfl _ _ rfl rfl (nx17 _ rfl x rfl (by lia) ⟨rfl,nx25 _ _ rfl rfl (by decide +kernel) ?_ λ r hr2=>?_⟩)
    ·exact z0s (hF.slice _ _).1 (by decide)
    rw[hs2,e7t];have hfs:=a2u (y:=a3v) fs;have hsl2:=a6z (y:=a3v) fs (z04 _);generalize Txt.split (Builtin.Str.strSub b 1 b.length) a3v=ps at ht hfs hsl2 ⊢;have s6:=Same.upd (o:=HO.lst (ps.map V.str)) hr2;have s06:=s05.trans s6;refine⟨r,rfl,⟨_,SqL.of a0c⟩,e5k (k:=1) (fs:=[]) ps PyData.str (λ t=>(b5x t).map a4k) rfl a0c (b0p ps) hsl2 (λ y hy H7 ts v R ss hts tr cont=>?_) (λ D H7 ys hD ss hd hp7=>?_)⟩
    ·obtain⟨t,rfl⟩:=z10.mp hts;cases tr;exact nx17 _ rfl y rfl (hfs y hy) λ v H8 s8 t8=>cont v [_] H8 rfl s8 t8
    ·exact ⟨s6.trans ss,nx2 D ys ps ht (s06.free hD) hd (a2x (a5i s06) hp7) rfl⟩
  rintro σ H6 ⟨s6,la,zs,ps,ht,hla,g6,hz,rfl⟩;have s06:=s05.trans s6;obtain⟨o1,o2⟩:=b4r (K:=K) (a2x a4s hz);refine⟨λ σ H7=>H7=H6/\zs.any b6e=false/\σ=[some (.str x),some (.int at'),some (.ref p),some (.int k),some (.ref la)],?_,?_⟩
  ·refine ⟨_,rfl,nx14 la zs rfl rfl (SqL.of g6) o1 _ rfl ?_⟩;cases ho:zs.any b6e with
   | true =>
    rw[o2] at ho;exact a5m (bad (by rw[ed,ht,b3t ho];rfl) _ s06)
   | false=>exact a7h ⟨rfl,rfl,rfl⟩
  rintro σ H7 ⟨rfl,ho,rfl⟩;rw[o2] at ho;obtain⟨y1,y2⟩:=b3l ho;rw[y2] at hz;have htr:=b1n hz;have g7:=s6 _ _ (s5 _ _ (s4 _ _ (s3 _ _ g2)));refine ⟨_,rfl,nx27 _ rfl p _ _ _ rfl rfl (SqL.of g7) (a0k (j:=1) rfl) _ rfl (by show 3<=sizeLine;decide) λ tt htt=>?_⟩;have s8:=Same.upd (o:=HO.tup [.int k,.str w,.ref la]) htt;refine q _ _ (s06.trans s8) ?_;rw[ed,ht,y1];exact .tup (a1v (s06.free htt) a0c) (.cons (.int k) (.cons (.str w) (.cons (.lst (a1v hla (s8 _ _ g6)) (htr.same (a3d s8))) .nil)))
--@STAGE
theorem d9q {H:Hp} (t:Str):OTr H (ovI (a4d t)) ((a4d t).map PyData.int):=by
 cases a4d t with
 | none=>exact rfl
 | some n=>exact Tr.int n
theorem c7t (T:Tx K mg):T.b5r.Ok P w base 3 d0z:=by
 refine okF T.b5r.F a9x λ _ _ _ _ H _ Q _ hr h=>?_
 ·obtain⟨x,rfl,hF,q⟩:=h;refine⟨_,(a0d (psx 1 a9x.nd (a2l z0y z4r F.type_str_find b8c (pv 0) (a0a a0j a0b)))
   (a0d (a1g (a0i b3e (pv 1) a0e (a0o _))
   (a0f (a0p a3f))
   a0n)
   (a0d (psf 2 ["_law_part"] a9x.nd [] [] (a0z (a2l z0y z2i z2j a4y (a0y a3x (pv 0) (a1h (a0l a2c (pv 1) a0e)) a1u) (a0a a0j a0b))) (pgn 0) a2y (pcF T.a5y (a7f T) hr (a0a (pv 0) a0b)))
   (a0d (psx 3 a9x.nd (pcF T.a5y (a7f T) hr (a0a (a0y a3x (pv 0) (a1h a0e) (a1h (pv 1))) a0b)))
   (a0d (a1g (PW.pt (a8t (a0i b6q (pv 3) a3f (a0o _)) (a6k (a0i (b1i (u16 hr.units) rfl) a3f (pv 2) rfl))))
   (a0f (a0p a3f))
   a0n)
   (a0f (a0p (a3p (a0a (pv 3) (a0a (pv 2) a0b)))))))))),?_⟩
  have z8:(8000:Nat)<=sizeLine:=by decide
  have hl:=hF.1;obtain⟨at',a,b,ea,⟨hlo,hhi⟩,sa,sb',hcase⟩:=b2f x ⟨#[58,32]⟩ (by decide);have sb:Txt.slice x (some (at'+2)) none=b:=sb';have bad:a9b x=none->∀ H',Same H H'->Q .non H':=λ hn H' s'=>by
   have:=q .non H' s';rw[hn] at this;exact this rfl
  have fb:a1d 8000 b:=by rw[<-sb];exact hF.slice _ _
  refine nx16 _ rfl rfl x (": ") rfl rfl ?_;rw[d0m,ea];refine nx23 _ rfl _ _ rfl rfl _ rfl (a3o (λ e=>?_) (λ e=>?_))
  ·have e':at' < 5:=z0b e;refine bad ?_ _ (Same.refl _);unfold a9b;rcases hcase with ⟨_,hc⟩ | ⟨_,hc,el⟩
   ·rw[hc];rfl
   ·rw[hc];exact z02 (by show a.length < 5;lia)
  have e':¬ at' < 5:=λ z=>e (z07 z)
  obtain⟨hc,el⟩:a7k x ⟨#[58,32]⟩=some (a,b)/\at'=a.length:=by
   rcases hcase with ⟨z,_⟩ | ⟨_,hc,el⟩
   ·lia
   ·exact⟨hc,el⟩
  have hal:a.length+2<=x.length:=by
   have:=b1e (a6q hc);rw[show (⟨#[58,32]⟩:Str).length=2 from rfl] at this;lia
  have ed:a9b x=(a4d (Builtin.Str.strSub a 5 a.length)).bind λ k=>(a5x a4d (Txt.split b ⟨#[32]⟩)).map λ ns=>(k,ns):=by
   unfold a9b;rw[hc];exact z01 (by show ¬ a.length < 5;lia)
  have hs5:Txt.slice x (some 5) (some at')=Builtin.Str.strSub a 5 a.length:=by
   have e1:Txt.slice x (some ((5:Nat):Int)) (some ((a.length:Nat):Int))=⟨((x.cps.toList.drop 5).take (a.length - 5)).toArray⟩:=PySem.StrLaws.sliceText_nat x (by lia) (by lia);rw[el];refine Eq.trans e1 (z0n ?_);rw[a4x];obtain⟨i,_,e2,_,_,_⟩:=c5c hc;have hai:a.cps.toList=x.cps.toList.take i:=by rw[e2,b7w]
   have hil:a.length=i\/x.length<=i:=by
    have:=z0e List.length hai;rw[<-a0t,z14,<-a0t] at this;lia
   have hai':a.cps.toList=x.cps.toList.take a.length:=by
    rcases hil with z | z
    ·rw[z];exact hai
    ·exfalso;have:=z0e List.length hai;rw[<-a0t,z14,<-a0t] at this;lia
   rw[hai',List.drop_take]
  refine nx15 _ rfl _ rfl _ _ rfl rfl (nx17 _ rfl x rfl (by lia) ⟨rfl,nx25 _ _ rfl rfl (by decide +kernel) ?_ λ p hp=>?_⟩)
  ·exact z0s (hF.slice _ _).1 (by decide)
  rw[c0l,sb];have hfs:=a2u (y:=⟨#[32]⟩) fb;have hsl2:=a6z (y:=⟨#[32]⟩) fb (z04 _);generalize Txt.split b ⟨#[32]⟩=ps at ed hfs hsl2 ⊢;have s1:=Same.upd (o:=HO.lst (ps.map V.str)) hp;refine⟨p,rfl,⟨_,SqL.of a0c⟩,e5k (k:=1) (fs:=[]) ps PyData.str (λ t=>(a4d t).map PyData.int) rfl a0c (b0p ps) hsl2 (λ y hy H7 ts v R ss hts tr cont=>?_) (λ D H2 zs hD s2 hd hz=>?_)⟩
  ·obtain⟨t,rfl⟩:=z10.mp hts;cases tr;exact nx17 _ rfl y rfl (hfs y hy) λ H8 s8=>cont _ [_] H8 rfl s8 (d9q y)
  have s02:=s1.trans s2;refine nx35 _ rfl _ rfl _ rfl _ ⟨rfl,nx4 x rfl (by lia) _ rfl ⟨hF.slice _ _,λ H3 s3=>?_⟩⟩;rw[hs5];have s03:=s02.trans s3;have hz:=a2x ((a5i s1).trans (a3d s3)) hz;obtain⟨o1,o2⟩:=b4r (K:=K) (a2x a4s hz);cases hn:a4d (Builtin.Str.strSub a 5 a.length) with
  | none =>
   rw[hn] at ed;exact nx4 _ rfl rfl _ rfl (a5m (a5m (bad ed _ s03)))
  | some k =>
   rw[hn] at ed;refine nx4 _ rfl rfl _ rfl (a7h (⟨_,rfl,nx14 D zs rfl rfl (SqL.of (s3 _ _ hd)) o1 _ rfl ?_⟩));cases ho:zs.any b6e with
   | true =>
    rw[o2] at ho;exact a5m (bad (by rw[ed,b3t ho];rfl) _ s03)
   | false =>
    rw[o2] at ho;obtain⟨y1,y2⟩:=b3l ho;rw[y2] at hz;have htr:=b1n hz;refine a7h (nx17 _ rfl _ rfl (by show 2<=sizeLine;decide) λ tt htt=>?_);have s8:=Same.upd (o:=HO.tup [.int k,.ref D]) htt;refine q _ _ (s03.trans s8) ?_;rw[ed,y1];exact .tup (a1v (s03.free htt) a0c) (.cons (.int k) (.cons (.lst (a1v (s1.free hD) (s8 _ _ (s3 _ _ hd))) (htr.same (a3d s8))) .nil))
--@STAGE
theorem d5f {ns:List Int} (h:∀ (j:Nat) (a b:Int),ns[j]?=some a->ns[j+1]?=some b->a < b):a3s ns=true:=by
 induction ns with
 | nil=>rfl
 | cons a r ih =>
  cases r with
  | nil=>rfl
  | cons b r =>
   show (decide (a < b) && a3s (b::r))=true;rw[z07 (h 0 a b rfl rfl),ih λ j x y e1 e2=>h (j+1) x y e1 e2];rfl
theorem d4d {ns:List Int} {j:Nat} {a b:Int} (e1:ns[j]?=some a) (e2:ns[j+1]?=some b) (h:¬ a < b):a3s ns=false:=by
 rw[z28];intro z;have hp:=b2l z;obtain⟨h1,f1⟩:=z0i.mp e1;obtain⟨h2,f2⟩:=z0i.mp e2;have:=z3l.mp hp j (j+1) h1 h2 (z4g j);rw[f1,f2] at this;exact h this
theorem d3e {ns:List Int}:a3s ([0]++ns++[9])=true ↔ a3s ns=true/\∀ n∈ns,1<=n/\n<=8:=by
 constructor
 ·intro h;have hp:=b2l h;rw[z3v,z3v] at hp;obtain⟨⟨_,h2,h3⟩,_,h5⟩:=hp;refine⟨c3e h2,λ n hn=>?_⟩;have:=h3 0 z0g n hn;have:=h5 n (z0u _ hn) 9 z0g;lia
 ·rintro⟨h1,h2⟩;refine c3e ?_;rw[z3v,z3v];refine⟨⟨z36 _ _,b2l h1,λ a ha b hb=>?_⟩,z36 _ _,λ a ha b hb=>?_⟩
  ·rw[z0o.mp ha];have:=h2 b hb;lia
  ·rw[z0o.mp hb];rcases z08.mp ha with z | z
   ·rw[z0o.mp z];decide
   ·have:=h2 a z;lia
theorem dd_len {ns:List Int}:(dd ns).length=ns.length ↔ ∀ (k:Nat) (n:Int),ns[k]?=some n->n ∉ ns.take k:=by
 have key:∀ (ns acc:List Int),(ns.foldl step_dedup acc).length<=acc.length+ns.length/\((ns.foldl step_dedup acc).length=acc.length+ns.length ↔ ∀ (k:Nat) (n:Int),ns[k]?=some n->n ∉ acc++ns.take k):=by
  intro ns;induction ns with
  | nil=>intro acc;exact⟨z04 _,λ _ k n h=>by simp at h,λ _=>rfl⟩
  | cons m r ih =>
   intro acc;rw[List.foldl_cons];by_cases hm:m∈acc
   ·have es:step_dedup acc m=acc:=by unfold step_dedup;simp[hm]
    rw[es];obtain⟨i1,_⟩:=ih acc;refine⟨by rw[z12];lia,λ h=>?_,λ h=>?_⟩
    ·rw[z12] at h;lia
    ·exact absurd (z19 _ hm) (h 0 m rfl)
   ·have es:step_dedup acc m=acc++[m]:=by unfold step_dedup;simp[hm]
    rw[es];obtain⟨i1,i2⟩:=ih (acc++[m]);rw[z0r,z1u] at i1 i2;rw[z12];refine⟨by lia,λ h=>?_,λ h=>?_⟩
    ·have h3:=i2.mp (by lia);intro k n hk;cases k with
     | zero =>
      have:m=n:=by simpa using hk
      rw[<-this];simpa using hm
     | succ k =>
      have:=h3 k n (by simpa using hk);rw[z1l] at this;exact this
    ·have h3:∀ (k:Nat) (n:Int),r[k]?=some n->n ∉ (acc++[m])++r.take k:=λ k n hk=>by
      have:=h (k+1) n (by simpa using hk);rw[z1l];exact this
     have:=i2.mpr h3;lia
 have:=(key ns []).2;rw[z37,Nat.zero_add] at this;exact this
theorem c5q {ds:List Dl} {m:Mkr}:d2x ds m=true ↔ ∀ (k:Nat) (n:Int),m.2[k]?=some n->n∈ds.map (·.1)/\n ∉ m.2.take k:=by
 unfold d2x;rw[z13,z1c,dd_len,z1d];constructor
 ·rintro⟨h1,h2⟩ k n hk;exact⟨z0b (h2 n (z0h hk)),h1 k n hk⟩
 ·intro h;refine⟨λ k n hk=>(h k n hk).2,λ n hn=>?_⟩;obtain⟨k,hk,e⟩:=List.mem_iff_getElem.mp hn;exact z07 (h k n (by rw[z0c hk,e])).1
theorem d7f {ds:List Dl} {ms:List Mkr} (hw:∀ d∈ds,d.2.1∈a8r):c0f (ds,ms)=true ↔ a3s ([0]++ds.map (·.1)++[9])=true/\a3s (ms.map (·.1))=true/\(∀ m∈ms,d2x ds m=true)/\∀ d∈ds,∀ l∈d.2.2,c0g ms d.1 l=true:=by
 unfold c0f;rw[d3e];simp only [z13,z1d];constructor
 ·rintro⟨⟨⟨h1,h2⟩,h3⟩,h4⟩;have h5:∀ d∈ds,(1<=d.1/\d.1<=8)/\∀ l∈d.2.2,c0g ms d.1 l=true:=λ d hd=>by
   have:=h3 d hd;unfold c9h at this;simp only [z13,z1c,z1d] at this;exact⟨this.1.1,this.2⟩
  refine⟨⟨h1,λ n hn=>?_⟩,h2,h4,λ d hd=>(h5 d hd).2⟩;obtain⟨d,hd,rfl⟩:=z0a.mp hn;exact(h5 d hd).1
 ·rintro⟨⟨h1,h2⟩,h3,h4,h5⟩;refine⟨⟨⟨h1,h3⟩,λ d hd=>?_⟩,h4⟩;unfold c9h;simp only [z13,z1c,z1d];exact⟨⟨h2 d.1 (z0a.mpr ⟨d,hd,rfl⟩),hw d hd⟩,h5 d hd⟩
def e1r:Sp:=λ vs H Q _=>∃ (a:Addr) (ns:List Int),vs=[.ref a]/\H a=some (.lst (ns.map V.int))/\ns.length<=20000/\Q (.bl (a3s ns)) H
theorem b9a (T:Tx K mg):T.b4f.Ok P w base 1 e1r:=by
 refine okF T.b4f.F c6p λ _ _ _ _ H _ _ _ _ h=>?_
 ·obtain⟨a,ns,rfl,ha,hl,k⟩:=h;refine⟨_,(a0d (a2r z11 rfl (d1f rfl T.a4e (a0a a0e (a0a (a0q a1k (by rfl) T.a4f z0z (a0a (pv 0) a0b)) a0b))) (pgm 1 c6p.nd)
   (a0f (a1g (a0i e2m (pix a1e (pv 0) (a0l b7f (pv 1) a0e)) (pix a1e (pv 0) (pv 1)) (a0o _))
   (a0f (a0p a7l))
   a0n)))
   (a0f (a0p a7l))),?_⟩
  have el:(ns.map V.int).length=ns.length:=z03 ..;refine nx1 _ rfl _ (nx16 _ rfl (.inl ⟨_,SqL.of ha,rfl⟩) 1 _ rfl ⟨by decide,by decide,by lia,by lia⟩ (a3h (lo:=1) (n:=(((ns.map V.int).length:Nat) - 1:Int).toNat) (λ i σ H2=>H2=H/\(∀ j,j < i->∀ a b:Int,ns[j]?=some a->ns[j+1]?=some b->a < b)/\∃ v:Option V,σ=[some (.ref a),v]) ⟨rfl,(λ j h=>by lia),none,rfl⟩ ?_ ?_))
  ·rintro i σ H2 hi ⟨rfl,hP,v,rfl⟩;have h1:i < ns.length:=by lia
   have h2:i+1 < ns.length:=by lia
   have e1:=z0c h1;have e2:=z0c h2;refine nx15 _ rfl _ rfl _ _ rfl rfl (nx8 a _ _ _ rfl rfl (SqL.of ha) (a2d i (by lia) (by rw[z0f,e1];rfl)) (nx20 _ rfl _ rfl a _ _ _ rfl rfl (SqL.of ha) (a2d (i+1) (by push_cast;lia) (by rw[z0f,e2];rfl)) (nx31 _ _ rfl rfl _ rfl (a3o (λ e=>?_) (λ e=>?_)))))
   ·have e':ns[i+1]<=ns[i]:=z0b e;rw[d4d e1 e2 (by lia)] at k;exact k
   ·have e':¬ ns[i+1]<=ns[i]:=λ z=>e (z07 z)
    refine⟨rfl,λ j hj x y f1 f2=>?_,_,rfl⟩;by_cases z:j=i
    ·subst z;rw[e1] at f1;rw[e2] at f2;cases f1;cases f2;lia
    ·exact hP j (by lia) x y f1 f2
  ·rintro σ H2 ⟨rfl,hP,v,rfl⟩;rw[d5f λ j x y f1 f2=>hP j (by have:=(z0i.mp f2).1;lia) x y f1 f2] at k;exact k
def c9y:Sp:=λ vs H Q _=>∃ (dv mv:V) (ds:List Dl) (ms:List Mkr),vs=[dv,mv]/\Tr H dv (.list (ds.map a3a))/\Tr H mv (.list (ms.map a3l))/\(∀ d∈ds,d.2.1∈a8r)/\cP (ds,ms)<=19000/\∀ H',Same H H'->Q (.bl (c0f (ds,ms))) H'
theorem e3a {ms:List Mkr} {n:Int} {p:Pr}:b1q ms n p=decide (p.2∈[-1,0]++(b7j ms p.1).filter λ m=>!decide (m=n)):=by
 unfold b1q;rw[z1x];simp only [z48,z13,z1c,z4m,decide_eq_false_iff_not,z08,z06,z1r,z1v,z22];constructor
 ·rintro((h | h) | ⟨h1,h2⟩)
  ·exact .inl (.inr h)
  ·exact .inl (.inl h)
  ·exact .inr ⟨h2,h1⟩
 ·rintro((h | h) | ⟨h1,h2⟩)
  ·exact .inl (.inr h)
  ·exact .inl (.inl h)
  ·exact .inr ⟨h2,h1⟩
theorem d5a {ms:List Mkr} {k:Int}:(b7j ms k).length<=(ms.map cM).sum:=by
 unfold b7j;cases e:ms.find? λ m=>m.1 == k with
 | none=>exact z0x _
 | some m =>
  have:=a1r (f:=cM) (List.mem_of_find?_eq_some e);have h:cM m=m.2.length+1:=rfl;show m.2.length<=_;lia
theorem e1h (n:Int):∀ l:List Int,l.filterMap (λ m=>if m=n then none else some (V.int m))=(l.filter λ m=>!decide (m=n)).map V.int
 | []=>rfl
 | a::r=>by
  rw[z1i,z4i];by_cases h:a=n
  ·rw[z02 h,z07 h];exact e1h n r
  ·rw[z01 h,z0v h];show V.int a::_=V.int a::_;rw[e1h n r]
theorem inI (x:Int) (l:List Int):inV (.int x) (l.map V.int)=decide (x∈l):=by
 rw[b3y,z1x,List.contains_iff_mem,z1c]
theorem c0c (T:Tx K mg):T.a9c.Ok P w base 2 c9y:=by
 refine okF T.a9c.F a1j λ _ _ _ _ H _ Q _ hr h=>?_
 ·obtain⟨dv,mv,ds,ms,rfl,td,tm,hw,hc,q⟩:=h;have hu:=c8a hr;refine⟨_,(a0d (psf 2 ["_law_deal"] a1j.nd [] [] (a0z (pv 0)) (pgn 0) a2y (pix (a4r (K:=K) rfl) (pv 0) a0e))
   (a0d (a1g (PW.pt (a8t (a6n (a3q (pcF T.b4f (b9a T) hr (a0a (a0l a6l (a0l a6l (a1l (a0a a0e a0b)) (pv 2)) (a1l (a0a a0e a0b))) a0b)))) (a6k (a6n (a3q (pcF T.b4f (b9a T) hr (a0a (pcf ["_law_row"] [] [] (a0z (pv 1)) (pgn 0) a2y (pix (a4r (K:=K) rfl) (pv 0) a0e)) a0b)))))))
   (a0f (a0p a7l))
   a0n)
   (a0d (psx 3 a1j.nd (a2i (b7z (K:=K) rfl rfl) (by rfl) T.c6b boot_dict (a0a (pv 1) a0b)))
   (a0d (a2r z11 rfl (a0z (pv 1)) (a8i rfl (a0w (pgm 4 a1j.nd) (a0w (pgm 5 a1j.nd) a4h)))
   (a0f (a2r z11 rfl (a2z rfl T.a4e (a0a (a0q a1k (by rfl) T.a4f z0z (a0a (pv 5) a0b)) a0b)) (pgm 6 a1j.nd)
   (a0f (a1g (PW.pt (a8t (a0i a6o (pix a1e (pv 5) (pv 6)) (pv 2) rfl) (a6k (a0i a8v (pix a1e (pv 5) (pv 6)) (a0y a5r (pv 5) a1u (a1h (pv 6))) rfl))))
   (a0f (a0p a7l))
   a0n)))))
   (a0d (a2r z11 rfl (a0z (pv 0)) (a8i rfl (a0w (pgm 7 a1j.nd) (a0w (pgm 8 a1j.nd) (a0w (pgm 9 a1j.nd) a4h))))
   (a0f (a2r z11 rfl (a0z (pv 9)) (pgm 10 a1j.nd)
   (a0d (a1g (a6n (a3q (pcF T.b4f (b9a T) hr (a0a (pcf ["_law_pair_here"] [] [] (a0z (pv 10)) (pgn 0) a2y (pix (a4r (K:=K) rfl) (pv 0) a0e)) a0b))))
   (a0f (a0p a7l))
   a0n)
   (a0f (a2r z11 rfl (a0z (pv 10)) (a8i rfl (a0w (pgm 4 a1j.nd) (a0w (pgm 11 a1j.nd) a4h)))
   (a0d (psf 12 ["_law_maker"] a1j.nd ["_law_number_here"] [7] (a0z (c5y hu (pv 3) (pv 4) (a1l a0b) ⟨rfl,rfl,rfl,rfl⟩)) (pgn 0) (c1y (a0i b6m (pv 0) (pv 1) (a0o _))) (pv 0))
   (a0f (a1g (a0i a6o (pv 11) (a0l a6l (a1l (a0a (d0u c1k a0e) (a0a a0e a0b))) (pv 12)) rfl)
   (a0f (a0p a7l))
   a0n)))))))))
   (a0f (a0p a7l))))))),?_⟩
  have z9:(20000:Nat)<=sizeLine:=by decide
  have hcp:(ds.map cD).sum+(ms.map cM).sum<=19000:=hc;have hll:=a1x c6l (l:=ds);have hlm:=a1x c6k (l:=ms);have ips:=d7f (ms:=ms) hw;have bad:¬ c0f (ds,ms)=true->∀ H',Same H H'->Q (.bl false) H':=λ h H' s'=>by
   have:=q H' s';rw[z28.mpr h] at this;exact this
  obtain⟨b,xs,rfl,hb,hx⟩:=td.list;obtain⟨c,ys,rfl,hcc,hy⟩:=tm.list;have hxl:xs.length=ds.length:=by rw[hx.len,z03]
  have hyl:ys.length=ms.length:=by rw[hy.len,z03]
  refine nx17 _ rfl b rfl ⟨_,SqL.of hb⟩ (a8h (k:=1) (fs:=[]) ds a3a (λ d=>some (.int d.1)) rfl hb hx (by lia) (λ p hp H2 ts v R ss hts tr cont=>?_) (λ D H2 hD s2 hd=>?_))
  ·obtain⟨t,rfl⟩:=z10.mp hts;obtain⟨p1,p2,ps,rfl,hp1,_,_⟩:=tr.deal;exact nx21 _ rfl p1 _ _ _ rfl rfl (SqT.of hp1) (a0k (j:=0) rfl) (cont [_] _ rfl (Same.refl _))
  rw[show ds.filterMap (λ p=>some (V.int p.1))=(ds.map (·.1)).map V.int from by rw[z0t,<-z1y];rfl] at hd;have hl1:(ds.map (·.1)).length=ds.length:=z03 ..;refine⟨(by show 1<=sizeLine;decide),λ l1 hl1=> nx40 _ rfl l1 D _ _ rfl rfl a0c ((Same.upd hl1) _ _ hd) ?_ λ l2 hl2=>⟨(by show 1<=sizeLine;decide),λ l3 hl3=> nx24 l2 l3 _ _ rfl rfl ((Same.upd hl3) _ _ a0c) a0c ?_ λ l4 hl4=> nx22 l4 ([0]++ds.map (·.1)++[9]) rfl ?_ ?_ _ ⟨rfl,?_⟩⟩⟩
  ·rw[z03];simp;lia
  ·simp;lia
  ·rw[a0c];simp
  ·simp;lia
  have s3:=(Same.upd (o:=HO.lst [.int 0]) hl1).trans ((Same.upd (o:=HO.lst ([.int 0]++(ds.map (·.1)).map V.int)) hl2).trans ((Same.upd (o:=HO.lst [.int 9]) hl3).trans (Same.upd (o:=HO.lst ([.int 0]++(ds.map (·.1)).map V.int++[.int 9])) hl4)));generalize upd (upd (upd (upd H2 l1 _) l2 _) l3 _) l4 _=H3 at s3;have s03:=s2.trans s3;refine a3o (λ e=>?_) (λ e=>?_)
  ·have e':a3s ([0]++ds.map (·.1)++[9])=false:=by simpa using e
   exact bad (λ z=>by rw[(ips.mp z).1] at e';cases e') _ s03
  have e1:a3s ([0]++ds.map (·.1)++[9])=true:=by simpa using e
  refine nx17 _ rfl c rfl ⟨_,SqL.of (s03 _ _ hcc)⟩ (a8h (k:=1) (fs:=[]) ms a3l (λ d=>some (.int d.1)) rfl (s03 _ _ hcc) (hy.same s03) (by lia) (λ p hp H4 ts v R ss hts tr cont=>?_) (λ D2 H4 hD2 s4 hd2=>?_))
  ·obtain⟨t,rfl⟩:=z10.mp hts;obtain⟨p1,p2,rfl,hp1,_⟩:=tr.make;exact nx21 _ rfl p1 _ _ _ rfl rfl (SqT.of hp1) (a0k (j:=0) rfl) (cont [_] _ rfl (Same.refl _))
  rw[show ms.filterMap (λ p=>some (V.int p.1))=(ms.map (·.1)).map V.int from by rw[z0t,<-z1y];rfl] at hd2;have s04:=s03.trans s4;refine nx22 D2 _ rfl hd2 (by rw[z03];lia) _ ⟨rfl,a3o (λ f=>?_) (λ f=>?_)⟩
  ·have e':a3s (ms.map (·.1))=false:=by simpa using f
   exact bad (λ z=>by rw[(ips.mp z).2.1] at e';cases e') _ s04
  have e2:a3s (ms.map (·.1))=true:=by simpa using f
  obtain⟨ps,pr1,pr2,pr3⟩:=d3k (K:=K) (hy.same s04);have hpl:ps.length=ms.length:=by
   have:=z0e List.length pr2;rw[z03,z03] at this;exact this
  have hnd:(ps.map (·.1)).Nodup:=by
   rw[pr2];have:=b2l e2;rw[z2p] at this;unfold List.Nodup;rw[z2p];exact this.imp λ h z=>absurd (z2k z) (Int.ne_of_lt h)
  refine nx1 _ rfl c (nx25 ys ps rfl (s04 _ _ hcc) pr1 (by lia) λ dd hdd=>?_);rw[b9g ps [] (by simpa using hnd)];have s5:=Same.upd (o:=HO.dK ([]++ps)) hdd;have hM:Mks (upd H4 dd (.dK ([]++ps))) dd ms:=⟨ps,a0c,λ k=>(pr3 k).imp (λ ⟨l,q1,q2⟩=>⟨l,q1,s5 _ _ q2⟩) id⟩;have hD5:=s5 _ _ ((s3.trans s4) _ _ hd);generalize upd H4 dd (.dK ([]++ps))=H5 at s5 hM hD5;have s05:=s04.trans s5;refine nx17 _ rfl c rfl ⟨_,SqL.of (s05 _ _ hcc)⟩ (a3k (K:=K) (a:=c) (xs:=ys) (λ i σ H6=>Same H5 H6/\(∀ m∈ms.take i,d2x ds m=true)/\∃ x4 x5 x6 x7 x8 x9 x10 x11 x12:Option V,σ=[some (.ref b),some (.ref c),some (.ref D),some (.ref dd),x4,x5,x6,x7,x8,x9,x10,x11,x12])
   (⟨Same.refl _,(λ m hm=>by cases hm),nx37 _ _ _ _ _ _ _ _ _ rfl⟩) (λ i σ H6 _ hJ=>SqL.of (hJ.1 _ _ (s05 _ _ hcc))) ?_ ?_)
  ·rintro i y σ H6 hi ⟨s6,hP,x4,x5,x6,x7,x8,x9,x10,x11,x12,rfl⟩;obtain⟨pd,hpd,tr⟩:=hy.get hi;have him:i < ms.length:=by rw[<-hyl];exact(z0i.mp hi).1
   have em:=z0c him;rw[z0f,em] at hpd;cases hpd;obtain⟨p1,p2,rfl,hp1,hp2⟩:=tr.make;have s06:=s05.trans s6;have hmm:=z1k him;generalize ms[i]=m at em hp1 hp2 hmm;have hml:m.2.length<=19000:=by
    have:=a1r (f:=cM) hmm;have h:cM m=m.2.length+1:=rfl;lia
   have hp26:=s06 _ _ hp2;refine nx34 p1 _ rfl (SqT.of (s06 _ _ hp1)) rfl _ _ rfl _ _ rfl ⟨rfl,?_⟩;refine nx23 _ rfl _ _ rfl (.inl ⟨_,SqL.of hp26,rfl⟩) _ rfl ⟨by lia,by rw[z03];lia,a3h (lo:=0) (n:=(((m.2.map V.int).length:Nat):Int).toNat) (λ k σ H7=>Same H6 H7/\(∀ (j:Nat) (n:Int),j < k->m.2[j]?=some n->n∈ds.map (·.1)/\n ∉ m.2.take j)/\∃ x6:Option V,σ=[some (.ref b),some (.ref c),some (.ref D),some (.ref dd),some (.int m.1),some (.ref p2),x6,x7,x8,x9,x10,x11,x12])
    ⟨Same.refl _,(λ j n h=>by lia),_,rfl⟩ ?_ ?_⟩
   ·rintro k σ H7 hk ⟨s7,hK,x6,rfl⟩;rw[z03,z43] at hk;have ek:=z0c hk;generalize m.2[k]=n at ek;have ai:(0+(k:Int))=((k:Nat):Int):=by lia
    have hix:atI (m.2.map V.int) (0+(k:Int))=some (.int n):=a2d k ai (by rw[z0f,ek];rfl);have hp27:=s7 _ _ hp26;have hbad:∀ H',Same H7 H'->(¬ n∈ds.map (·.1)\/n∈m.2.take k)->Q (.bl false) H':=λ H' s' h=>bad (λ z=>by
     have:=c5q.mp ((ips.mp z).2.2.1 m hmm) k n ek;rcases h with h | h
     ·exact h this.1
     ·exact this.2 h) H' ((s06.trans s7).trans s')
    refine ⟨_,rfl,nx9 _ rfl p2 _ _ _ rfl rfl (SqL.of hp27) hix _ rfl (nx14 D _ rfl (.inl (SqL.of ((s6.trans s7) _ _ hD5))) rfl (a7e _) _ rfl ?_)⟩;rw[inI];by_cases h1:n∈ds.map (·.1)
    ·rw[z07 h1];refine a7h (nx20 _ rfl _ rfl p2 _ _ _ rfl rfl (SqL.of hp27) hix (nx30 _ rfl _ rfl _ rfl p2 _ rfl (SqL.of hp27) λ sl hsl=>?_));rw[ai,b1f,<-z46];have s8:=Same.upd (o:=HO.lst ((m.2.take k).map V.int)) hsl;refine nx14 sl _ rfl (.inl (SqL.of a0c)) rfl (a7e _) _ rfl ?_;rw[inI];by_cases h2:n∈m.2.take k
     ·rw[z07 h2];exact a5m (hbad _ s8 (.inr h2))
     ·rw[z0v h2];refine a7h ⟨s7.trans s8,λ j n' hj ej=>?_,_,rfl⟩;by_cases z:j=k
      ·subst z;rw[ek] at ej;cases ej;exact⟨h1,h2⟩
      ·exact hK j n' (by lia) ej
    ·rw[z0v h1];exact a5m (a5m (hbad _ (Same.refl _) (.inl h1)))
   ·rintro σ H7 ⟨s7,hK,x6,rfl⟩;refine ⟨s6.trans s7,λ m' hm'=>?_,nx37 _ _ _ _ _ _ _ _ _ rfl⟩;rw[a4b em] at hm';rcases z08.mp hm' with z | z
    ·exact hP m' z
    ·rw[z0o.mp z];exact c5q.mpr λ j n ej=>hK j n (by rw[z03,z43];exact(z0i.mp ej).1) ej
  rintro σ H6 ⟨s6,hP,x4,x5,x6,x7,x8,x9,x10,x11,x12,rfl⟩;rw[hyl,z16] at hP;have s06:=s05.trans s6;refine nx17 _ rfl b rfl ⟨_,SqL.of (s06 _ _ hb)⟩ (a3k (K:=K) (a:=b) (xs:=xs) (λ i σ H7=>Same H6 H7/\(∀ d∈ds.take i,∀ l∈d.2.2,c0g ms d.1 l=true)/\∃ x4 x5 x6 x7 x8 x9 x10 x11 x12:Option V,σ=[some (.ref b),some (.ref c),some (.ref D),some (.ref dd),x4,x5,x6,x7,x8,x9,x10,x11,x12])
   (⟨Same.refl _,(λ m hm=>by cases hm),nx37 _ _ _ _ _ _ _ _ _ rfl⟩) (λ i σ H7 _ hJ=>SqL.of (hJ.1 _ _ (s06 _ _ hb))) ?_ ?_)
  ·rintro i y σ H7 hi ⟨s7,hQ,x4,x5,x6,x7,x8,x9,x10,x11,x12,rfl⟩;obtain⟨pd,hpd,tr⟩:=hx.get hi;have him:i < ds.length:=by rw[<-hxl];exact(z0i.mp hi).1
   have em:=z0c him;rw[z0f,em] at hpd;cases hpd;obtain⟨p1,p2,zs,rfl,hp1,hp2,hz⟩:=tr.deal;have s07:=s06.trans s7;have hdm:=z1k him;generalize ds[i]=d at em hp1 hp2 hz hdm;have hzl:zs.length=d.2.2.length:=by rw[hz.len,z03]
   have hcD:(d.2.2.map cL).sum<=19000:=by
    have:=a1r (f:=cD) hdm;have h:cD d=(d.2.2.map cL).sum+d.2.1.length+1:=rfl;lia
   have hp27:=s07 _ _ hp2;refine nx34 p1 _ rfl (SqT.of (s07 _ _ hp1)) rfl _ _ rfl _ _ rfl (nx0 _ _ rfl rfl ?_);refine nx17 _ rfl p2 rfl ⟨_,SqL.of hp27⟩ (a3k (K:=K) (a:=p2) (xs:=zs) (λ j σ H8=>Same H7 H8/\(∀ l∈d.2.2.take j,c0g ms d.1 l=true)/\∃ x4 x10 x11 x12:Option V,σ=[some (.ref b),some (.ref c),some (.ref D),some (.ref dd),x4,x5,x6,some (.int d.1),some (.str d.2.1),some (.ref p2),x10,x11,x12])
    (⟨Same.refl _,(λ m hm=>by cases hm),nx3 _ _ (nx3 _ _ rfl)⟩) (λ j σ H8 _ hJ=>SqL.of (hJ.1 _ _ hp27)) ?_ ?_)
   ·rintro j y σ H8 hj ⟨s8,hL,x4,x10,x11,x12,rfl⟩;obtain⟨pd,hpd,tr⟩:=hz.get hj;have hjm:j < d.2.2.length:=by rw[<-hzl];exact(z0i.mp hj).1
    have ej:=z0c hjm;rw[z0f,ej] at hpd;cases hpd;obtain⟨la,ws,rfl,hla,hws⟩:=tr.look;have s08:=s07.trans s8;have hlm2:=z1k hjm;generalize d.2.2[j]=l at ej hla hws hlm2;have hwl:ws.length=l.length:=by rw[hws.len,z03]
    have hcl:l.length+1<=19000:=by
     have:=a1r (f:=cL) hlm2;have h:cL l=l.length+1:=rfl;lia
    have hbad:∀ H',Same H8 H'->c0g ms d.1 l=false->Q (.bl false) H':=λ H' s' h=>bad (λ z=>by
     have:=(ips.mp z).2.2.2 d hdm l hlm2;rw[h] at this;cases this) H' (s08.trans s')
    refine nx17 _ rfl la rfl ⟨_,SqL.of (s08 _ _ hla)⟩ (a8h (k:=1) (fs:=[]) l a5g (λ p=>some (.int p.1)) rfl (s08 _ _ hla) (hws.same s08) (by lia) (λ p hp H9 ts v R ss hts tr cont=>?_) (λ D3 H9 hD3 s9 hd3=>?_))
    ·obtain⟨t,rfl⟩:=z10.mp hts;obtain⟨b,rfl,hb⟩:=tr.pair;exact nx21 _ rfl b _ _ _ rfl rfl (SqT.of hb) (a0k (j:=0) rfl) (cont [_] _ rfl (Same.refl _))
    rw[show l.filterMap (λ p=>some (V.int p.1))=(l.map (·.1)).map V.int from by rw[z0t,<-z1y];rfl] at hd3;refine nx22 D3 _ rfl hd3 (by rw[z03];lia) _ ⟨rfl,a3o (λ f=>?_) (λ f=>?_)⟩
    ·have e':a3s (l.map (·.1))=false:=by simpa using f
     exact hbad _ s9 (by unfold c0g;rw[e'];rfl)
    have e3:a3s (l.map (·.1))=true:=by simpa using f
    have eil:c0g ms d.1 l=l.all (b1q ms d.1):=by unfold c0g;rw[e3];rfl
    have s09:=s08.trans s9;have s79:=s8.trans s9;refine nx17 _ rfl la rfl ⟨_,SqL.of (s09 _ _ hla)⟩ (a3k (K:=K) (a:=la) (xs:=ws) (λ k σ H10=>Same H9 H10/\(∀ x∈l.take k,b1q ms d.1 x=true)/\∃ x4 x11 x12:Option V,σ=[some (.ref b),some (.ref c),some (.ref D),some (.ref dd),x4,x5,x6,some (.int d.1),some (.str d.2.1),some (.ref p2),some (.ref la),x11,x12])
     (⟨Same.refl _,(λ m hm=>by cases hm),nx32 _ _ _ rfl⟩) (λ k σ H10 _ hJ=>SqL.of (hJ.1 _ _ (s09 _ _ hla))) ?_ ?_)
    ·rintro k y σ H10 hk ⟨s10,hS,x4,x11,x12,rfl⟩;obtain⟨pd,hpd,tr⟩:=hws.get hk;have hkm:k < l.length:=by rw[<-hwl];exact(z0i.mp hk).1
     have ek:=z0c hkm;rw[z0f,ek] at hpd;cases hpd;obtain⟨pa,rfl,hpa⟩:=tr.pair;have hxm:=z1k hkm;generalize l[k]=x at ek hpa hxm;have s010:=s09.trans s10;refine nx34 pa _ rfl (SqT.of (s010 _ _ hpa)) rfl _ _ rfl _ _ rfl ⟨rfl,?_⟩;obtain⟨kvs,hkv,hkk⟩:=hM.same ((s6.trans s7).trans (s79.trans s10));refine ⟨_,rfl,nx4 dd rfl (.inl ⟨kvs,.inl hkv⟩) _ rfl ⟨(by show 0<=sizeLine;decide),λ q0 hq0=>⟨_,b1j.k (k:=Sum.inl x.1) ((Same.upd hq0) _ _ hkv),?_⟩⟩⟩;have s11:=Same.upd (o:=HO.lst []) hq0;obtain⟨lv,elv,hlv⟩:∃ lv:Addr,(a6i kvs (Sum.inl x.1)).getD (.ref q0)=.ref lv/\upd H10 q0 (.lst []) lv=some (.lst ((b7j ms x.1).map V.int)):=by
      rcases hkk x.1 with ⟨l,h1,h2⟩ | ⟨h1,h2⟩
      ·exact⟨l,by rw[h1];rfl,s11 _ _ h2⟩
      ·exact⟨q0,by rw[h1];rfl,by rw[h2];exact a0c⟩
     rw[elv];generalize upd H10 q0 (.lst [])=H11 at s11 hlv;have hmk:=d5a (ms:=ms) (k:=x.1);refine⟨lv,rfl,⟨_,SqL.of hlv⟩,a8h (k:=1) (fs:=[some (.int d.1)]) (b7j ms x.1) PyData.int (λ m=>if m=d.1 then none else some (.int m)) rfl hlv (Trs.ofInts _) (by lia) (λ m hm H12 ts v R ss hts tr cont=>?_) (λ D4 H12 hD4 s12 hd4=>?_)⟩
     ·obtain⟨t,rfl⟩:=z10.mp hts;cases tr;have c1:=cont [some (.int m)] H12 rfl (Same.refl _);refine ⟨_,rfl,nx4 _ rfl rfl _ rfl ?_⟩;by_cases hn:m=d.1
      ·rw[z02 hn] at c1;exact b9y (z0e V.int hn) c1
      ·rw[z01 hn] at c1;exact c4x (λ z=>hn (V.int.inj z)) ⟨_,rfl,c1⟩
     rw[e1h] at hd4;have hfl:=List.length_filter_le (λ m=>!decide (m=d.1)) (b7j ms x.1);refine nx17 _ rfl _ rfl (by show 2<=sizeLine;decide) λ l5 hl5=> nx40 _ rfl l5 D4 _ _ rfl rfl a0c ((Same.upd hl5) _ _ hd4) ?_ λ l6 hl6=> nx14 l6 (([-1,0]++(b7j ms x.1).filter λ m=>!decide (m=d.1)).map V.int) rfl (.inl (SqL.of ?_)) rfl (a7e _) _ rfl ?_
     ·rw[z03];show 2+_<=_;lia
     ·rw[a0c,z0m];rfl
     have s13:=(Same.upd (o:=HO.lst [.int (-1),.int 0]) hl5).trans (Same.upd (o:=HO.lst ([.int (-1),.int 0]++((b7j ms x.1).filter λ m=>!decide (m=d.1)).map V.int)) hl6);have s913:=s10.trans (s11.trans (s12.trans s13));rw[inI,<-e3a];cases hsr:b1q ms d.1 x with
     | false =>
      refine a5m (hbad _ (s9.trans s913) ?_);rw[eil];exact List.all_eq_false.mpr ⟨x,hxm,by rw[hsr];simp⟩
     | true =>
      refine a7h (⟨s913,λ y hy=>?_,nx32 _ _ _ rfl⟩);rw[a4b ek] at hy;rcases z08.mp hy with z | z
      ·exact hS y z
      ·rw[z0o.mp z];exact hsr
    ·rintro σ H10 ⟨s10,hS,x4,x11,x12,rfl⟩;rw[hwl,z16] at hS;refine ⟨s79.trans s10,λ l' hl'=>?_,nx3 _ _ (nx3 _ _ rfl)⟩;rw[a4b ej] at hl';rcases z08.mp hl' with z | z
     ·exact hL l' z
     ·rw[z0o.mp z,eil];exact z1d.mpr hS
   ·rintro σ H8 ⟨s8,hL,x4,x10,x11,x12,rfl⟩;rw[hzl,z16] at hL;refine ⟨s7.trans s8,λ d' hd'=>?_,nx37 _ _ _ _ _ _ _ _ _ rfl⟩;rw[a4b em] at hd';rcases z08.mp hd' with z | z
    ·exact hQ d' z
    ·rw[z0o.mp z];exact hL
  ·rintro σ H7 ⟨s7,hQ,x4,x5,x6,x7,x8,x9,x10,x11,x12,rfl⟩;rw[hxl,z16] at hQ;have:=q H7 (s06.trans s7);rw[ips.mpr ⟨e1,e2,hP,hQ⟩] at this;exact this
--@STAGE
theorem d7y {H H3:Hp} {D g b:Addr} {o:HO}:b0q (b0q (off H H3) D) g b=some o ↔ b≠g/\b≠D/\H b=none/\H3 b=some o:=by
 constructor
 ·intro e;have e1:=a3g e;have e2:=a3g e1.2;have e3:=a1b e2.2;exact⟨e1.1,e2.1,e3.1,e3.2⟩
 ·rintro⟨h1,h2,h3,h4⟩;exact a5t h1 (a5t h2 (a1v h3 h4))
def e4q:Sp:=λ vs H Q _=>∃ x:Str,vs=[.str x]/\a1d 7900 x/\∀ v H',Same H H'->OTr (off H H') v ((d8h x).map a3r)->Q v H'
theorem e0e {r:Str} {d:Dl} (h:a9k r=some d):cD d<=r.length+1:=by
 obtain⟨h1,h2,h3⟩:=a7g h;have:=c5j h2 h3;rw[h1] at this;exact(b9q this).2
theorem e1z {r:Str} {m:Mkr} (h5:mk5 r=true) (h:a9b r=some m):cM m<=r.length+1:=by
 obtain⟨h1,h2,h3⟩:=a9z h5 h;have:=c5x h2 h3;rw[h1] at this;exact(b1h this).2.2.1
theorem b4m {H H4 H5 H6:Hp} {D1 D2 D:Addr} {xs:List V} {os:List (Option PyData)} (h:Paired (OTr (b0q (b0q (off H H4) D1) D2)) xs os) (s5:Same H4 H5) (hD:D=D1\/D=D2) (k6:∀ b o,b≠D->H5 b=some o->H6 b=some o):Paired (OTr (b0q (b0q (off H H6) D1) D2)) xs os:=a2x (λ b o eb=>by
  obtain⟨e1,e2,e3,e4⟩:=d7y.mp eb;exact d7y.mpr ⟨e1,e2,e3,k6 _ _ (λ z=>by rcases hD with y | y;exact e2 (z.trans y);exact e1 (z.trans y)) (s5 _ _ e4)⟩) h
theorem d1d {H H4 H5 H6:Hp} {D1 D2 D:Addr} {v:V} {o:Option PyData} (s4:Same H H4) (h1:H4 D1≠none) (h2:H4 D2≠none) (h:OTr (off H4 H5) v o) (hD:D=D1\/D=D2) (k6:∀ b o,b≠D->H5 b=some o->H6 b=some o):OTr (b0q (b0q (off H H6) D1) D2) v o:=h.same λ b o eb=>by
  obtain⟨e1,e2⟩:=a1b eb;have n1:b≠D1:=λ z=>h1 (z ▸ e1)
  have n2:b≠D2:=λ z=>h2 (z ▸ e1)
  exact d7y.mpr ⟨n2,n1,s4.free e1,k6 _ _ (λ z=>by rcases hD with y | y;exact n1 (z.trans y);exact n2 (z.trans y)) e2⟩
theorem d9p (T:Tx K mg):T.c9v.Ok P w base 4 e4q:=by
 refine okF T.c9v.F b2e λ _ A _ _ H _ Q _ hr h=>?_
 ·obtain⟨x,rfl,hF,q⟩:=h;refine⟨_,(a0d (psx 1 b2e.nd (a1l a0b))
   (a0d (psx 2 b2e.nd (a1l a0b))
   (a0d (psx 3 b2e.nd (a1l a0b))
   (a1y (a1g (a0i b6m (pv 0) a0j (a0o _))
   (a0f (psx 3 b2e.nd (a2l z0y z2i z2j a4y (pv 0) (a0a a0j a0b))))
   a0n)
   (a0d (a2r z11 rfl (a0z (pv 3)) (pgm 4 b2e.nd)
   (a0f (a1g (a0i a2j (a0y a3x (pv 4) a1u (a1h a0e)) a0j (a0o _))
   (a0f (a3i (a2l z1w z23 z20 a2f (pv 2) (a0a (pcF T.b5r (c7t T) hr (a0a (pv 4) a0b)) a0b))))
   (a0f (a1g (a0i (b3j hr.units) (pv 2) (a1l a0b) (a0o _))
   (a0f (a0p a3f))
   (a0f (a3i (a2l z1w z23 z20 a2f (pv 1) (a0a (pcF T.b5g (c8b T) hr (a0a (pv 4) a0b)) a0b)))))))))
   (a1y (a1g (PW.pt (a8t (a0i (b1i (u16 hr.units) rfl) a3f (pv 1) rfl) (a8t (a0i (b1i (u16 hr.units) rfl) a3f (pv 2) rfl) (a6k (a6n (a3q (pcF T.a9c (c0c T) hr (a0a (pv 1) (a0a (pv 2) a0b)))))))))
   (a0f (a0p a3f))
   a0n)
   (a0f (a0p (a3p (a0a (pv 1) (a0a (pv 2) a0b))))))))))),?_⟩
  have z8:(8000:Nat)<=sizeLine:=by decide
  have hF8:a1d 8000 x:=hF.mono (by decide);have hl:=hF.1;refine⟨(by show 0<=sizeLine;decide),λ D1 hD1=>⟨(by show 0<=sizeLine;decide),λ D2 hD2=>⟨(by show 0<=sizeLine;decide),λ D3 hD3=>?_⟩⟩⟩;have s1:=Same.upd (o:=HO.lst []) hD1;have g1:=a0c (H:=H) (a:=D1) (o:=HO.lst []);generalize upd H D1 (HO.lst [])=H1 at s1 g1 hD2 hD3;have s2:=Same.upd (o:=HO.lst []) hD2;have g2:=a0c (H:=H1) (a:=D2) (o:=HO.lst []);have n12:D1≠D2:=λ z=>by rw[z,hD2] at g1;cases g1
  generalize upd H1 D2 (HO.lst [])=H2 at s2 g2 hD3;have s3:=Same.upd (o:=HO.lst []) hD3;have g3:=a0c (H:=H2) (a:=D3) (o:=HO.lst []);have n13:D1≠D3:=λ z=>by rw[<-z,s2 _ _ g1] at hD3;cases hD3
  have n23:D2≠D3:=λ z=>by rw[<-z,g2] at hD3;cases hD3
  generalize upd H2 D3 (HO.lst [])=H3 at s3 g3;have hD2H:=s1.free hD2;refine⟨λ σ H4=>∃ p,Same H H4/\H4 D1=some (.lst [])/\H4 D2=some (.lst [])/\H4 p=some (.lst ((a4n x).map V.str))/\p≠D1/\p≠D2/\σ=[some (.str x),some (.ref D1),some (.ref D2),some (.ref p),none],?_,?_⟩
  ·have s03:=s1.trans (s2.trans s3);have g13:=s3 _ _ (s2 _ _ g1);have g23:=s3 _ _ g2;by_cases e0:x=Str.empty
   ·have er:a4n x=[]:=z02 e0;exact nx4 _ rfl rfl _ rfl (b9y (by rw[e0,d9a]) ⟨D3,s03,g13,g23,by rw[er];exact g3,n13.symm,n23.symm,rfl⟩)
   ·have er:a4n x=Txt.split x ⟨#[10]⟩:=z01 e0;refine nx4 _ rfl rfl _ rfl (c4x (λ z=>e0 ((V.str.inj z).trans d9a)) (nx42 _ rfl rfl _ _ rfl rfl (by decide +kernel) ⟨(by lia),λ q0 hq0=>?_⟩));rw[e2f,<-er];have s4:=Same.upd (o:=HO.lst ((a4n x).map V.str)) hq0;exact⟨q0,s03.trans s4,s4 _ _ g13,s4 _ _ g23,a0c,(λ z=>by rw[z,g13] at hq0;cases hq0),(λ z=>by rw[z,g23] at hq0;cases hq0),rfl⟩
  rintro σ H4 ⟨p,s4,g14,g24,gp,np1,np2,rfl⟩;have hfit:=c1s hF8;have hrs:=c7e x;have hrl:(a4n x).length<=8002:=by
   have:=a1x (f:=λ r:Str=>r.length+1) (λ r=>by show 1<=r.length+1;lia) (l:=a4n x);lia
  have edue:d8h x=d6r (a4n x):=rfl;rw[edue] at q;generalize a4n x=rs at gp hfit hrs hrl q;have bad:d6r rs=none->∀ H',Same H H'->Q .non H':=λ hn H' s'=>by
   have:=q .non H' s';rw[hn] at this;exact this rfl
  refine nx17 _ rfl p rfl ⟨_,SqL.of gp⟩ (a3k (K:=K) (a:=p) (xs:=rs.map V.str) (λ i σ H5=>∃ (xs ys:List V) (A B:List Str) (x4:Option V),rs.take i=A++B/\(∀ r∈A,mk5 r=false)/\(∀ r∈B,mk5 r=true)/\Same H H5/\H5 p=some (.lst (rs.map V.str))/\H5 D1=some (.lst xs)/\H5 D2=some (.lst ys)/\Paired (OTr (b0q (b0q (off H H5) D1) D2)) xs (A.map λ r=>(a9k r).map a3a)/\Paired (OTr (b0q (b0q (off H H5) D1) D2)) ys (B.map λ r=>(a9b r).map a3l)/\σ=[some (.str x),some (.ref D1),some (.ref D2),some (.ref p),x4])
   (nx13 ([]) ([]) ([]) ([]) none rfl (λ r h=>by cases h) (λ r h=>by cases h) s4 gp g14 g24 ⟨.nil,.nil,rfl⟩) (λ i σ H5 _ hJ=>by obtain⟨_,_,_,_,_,_,_,_,_,h,_⟩:=hJ;exact SqL.of h) ?_ ?_)
  ·rintro i y σ H5 hi ⟨xs,ys,A,B,x4,eAB,hA,hB,s5,hp5,h15,h25,px,py,rfl⟩;rw[z0f] at hi;obtain⟨r,er,rfl⟩:=z3d.mp hi;have hrm:=z0h er;have fr:=hfit r hrm;have lr:=fr.1;have lx:=z3b px;have ly:=z3b py;rw[z03] at lx ly;have lAB:A.length+B.length<=8002:=by
    have:=z0e List.length eAB;rw[z14,z0r] at this;lia
   refine nx6 _ rfl _ rfl (nx28 r rfl (by lia) rfl _ rfl ?_);rw[show ("make ":Str)=mkW from by decide +kernel];cases h5:mk5 r with
   | true =>
    rw[z07 (z0e V.str (z0b h5))];refine a5m (nx43 _ rfl (.inl ⟨rfl,_,SqL.of h25⟩) _ rfl r rfl ⟨fr,λ v H6 s6 t6=> nx2 D2 ys v rfl rfl (s6 _ _ h25) (z3m (show ys.length<=8002 by lia) (by decide)) λ H7 h7 k7=>?_⟩);refine nx13 xs (ys++[v]) A (B++[r]) _ ?_ hA ?_ (λ b o eb=>k7 _ _ (λ z=>by rw[z,hD2H] at eb;cases eb) (s6 _ _ (s5 _ _ eb))) (k7 _ _ np2 (s6 _ _ hp5)) (k7 _ _ n12 (s6 _ _ h15)) h7 ⟨b4m px s6 (.inr rfl) k7,?_,rfl⟩
    ·rw[a4b er,eAB,z1l]
    ·intro r' hr';rcases z08.mp hr' with z | z
     ·exact hB r' z
     ·rw[z0o.mp z];exact h5
    ·rw[z0m];exact a8g (b4m py s6 (.inr rfl) k7) (d1d s5 (by rw[h15];simp) (by rw[h25];simp) t6 (.inr rfl) k7)
   | false =>
    rw[z0v (λ z=>by have:mk5 r=true:=z07 (V.str.inj z);rw[h5] at this;cases this)];refine a7h ⟨_,rfl,(by show 0<=sizeLine;decide),λ l0 hl0=> ⟨D2,nx14 l0 ys rfl rfl (SqL.of ((Same.upd hl0) _ _ h25)) (SqL.of a0c) _ rfl ?_⟩⟩;have s6:=Same.upd (o:=HO.lst []) hl0;cases B with
    | cons b0 B' =>
     have hy:ys.isEmpty=false:=by
      cases ys with
      | nil=>simp at ly
      | cons _ _=>rfl
     rw[hy];refine a5m (bad ?_ _ (s5.trans s6));unfold d6r;rw[z01];intro hall;have erest:rs=A++(b0::B'++rs.drop i):=by
      rw[<-z1l,<-eAB,z4s]
     have hA':∀ x∈A,(λ r=>!mk5 r) x=true:=λ x hx=>by show (!mk5 x)=true;rw[hA x hx];rfl
     rw[erest,List.dropWhile_append_of_pos hA'] at hall;have hb0:=hB b0 z0g;rw[List.cons_append,List.dropWhile_cons] at hall;simp only [hb0,Bool.not_true,Bool.false_eq_true,if_false] at hall;have hrd:r∈b0::(B'++rs.drop i):=z0p _ (z0u _ (z0h (by rw[List.getElem?_drop,Nat.add_zero];exact er:(rs.drop i)[0]?=some r)));have:=z1d.mp hall r hrd;rw[h5] at this;cases this
    | nil =>
     have hy:ys=[]:=z3h ly;subst hy;have h16:=s6 _ _ h15;refine a7h (nx43 _ rfl (.inl ⟨rfl,_,SqL.of h16⟩) _ rfl r rfl ⟨fr,λ v H7 s7 t7=> nx2 D1 xs v rfl rfl (s7 _ _ h16) (z3m (show xs.length<=8002 by lia) (by decide)) λ H8 h8 k8=>?_⟩);have s67:=s6.trans s7;refine nx13 (xs++[v]) ([]) (A++[r]) ([]) _ ?_ ?_ (λ r h=>by cases h) (λ b o eb=>k8 _ _ (λ z=>by rw[z,hD1] at eb;cases eb) (s67 _ _ (s5 _ _ eb))) (k8 _ _ np1 (s67 _ _ hp5)) h8 (k8 _ _ n12.symm (s67 _ _ h25)) ⟨?_,.nil,rfl⟩
     ·rw[a4b er,eAB,z1e,z1e]
     ·intro r' hr';rcases z08.mp hr' with z | z
      ·exact hA r' z
      ·rw[z0o.mp z];exact h5
     ·rw[z0m];exact a8g (b4m px s67 (.inl rfl) k8) (d1d (s5.trans s6) (by rw[h16];simp) (by rw[s6 _ _ h25];simp) t7 (.inl rfl) k8)
  rintro σ H5 ⟨xs,ys,A,B,x4,eAB,hA,hB,s5,hp5,h15,h25,px,py,rfl⟩;rw[z03,z16] at eAB;subst eAB;obtain⟨sp1,sp2⟩:=c6q hA hB;have edr:d6r (A++B)=(a5x a9k A).bind λ ds=>(a5x a9b B).bind λ ms=>if c0f (ds,ms)=true then some (ds,ms) else none:=by
   unfold d6r;rw[sp1,sp2,z02 (z1d.mpr hB)]
  have sb2:Same (b0q (b0q (off H H5) D1) D2) (off H H5):=λ b o eb=>by obtain⟨_,_,e3,e4⟩:=d7y.mp eb;exact a1v e3 e4
  have qx:=a2x sb2 px;have qy:=a2x sb2 py;obtain⟨o1,o2⟩:=b4r (K:=K) (a2x a4s qx);obtain⟨o3,o4⟩:=b4r (K:=K) (a2x a4s qy);refine⟨λ σ H6=>∃ ds ms,Same H5 H6/\d6r (A++B)=some (ds,ms)/\Trs (off H H6) xs (ds.map a3a)/\Trs (off H H6) ys (ms.map a3l)/\σ=[some (.str x),some (.ref D1),some (.ref D2),some (.ref p),x4],?_,?_⟩
  ·refine ⟨_,rfl,nx14 D1 xs rfl rfl (SqL.of h15) o1 _ rfl ?_⟩;cases ho:xs.any b6e with
   | true =>
    rw[o2] at ho;exact a5m (a5m (bad (by rw[edr,b3t ho];rfl) _ s5))
   | false =>
    rw[o2] at ho;obtain⟨y1,y2⟩:=b3l ho;rw[y2] at qx;have tx:=b1n qx;refine a7h (⟨_,rfl,nx14 D2 ys rfl rfl (SqL.of h25) o3 _ rfl ?_⟩);cases ho2:ys.any b6e with
    | true =>
     rw[o4] at ho2;exact a5m (a5m (bad (by rw[edr,y1,b3t ho2];rfl) _ s5))
    | false =>
     rw[o4] at ho2;obtain⟨y3,y4⟩:=b3l ho2;rw[y4] at qy;have ty:=b1n qy;have hcp:cP (A.filterMap a9k,B.filterMap a9b)<=19000:=by
      have h1:=a7y (c:=cD) (d:=λ r:Str=>r.length+1) (λ a _ b e=>e0e e) y1;have h2:=a7y (c:=cM) (d:=λ r:Str=>r.length+1) (λ a ha b e=>e1z (hB a ha) e) y3;rw[z0m,z3p] at hrs;show ((A.filterMap a9k).map cD).sum+((B.filterMap a9b).map cM).sum<=_;lia
     refine a7h (nx20 _ rfl _ rfl (.ref D1) (.ref D2) _ _ rfl (.lst h15 (tx.same a4s)) (.lst h25 (ty.same a4s)) (a2m (P:=λ d:Dl=>d.2.1∈a8r) (λ a _ b e=>(a7g e).2.2) y1) ⟨hcp,λ H6 s6=>⟨_,rfl,?_⟩⟩);cases hps:c0f (A.filterMap a9k,B.filterMap a9b) with
     | false=>exact a5m (bad (by rw[edr,y1,y3];show (if _ then _ else _)=_;rw[hps];rfl) _ (s5.trans s6))
     | true=>exact a7h (nx25 _ _ s6 (by rw[edr,y1,y3];show (if _ then _ else _)=_;rw[hps];rfl) (tx.same (a3d s6)) (ty.same (a3d s6)) rfl)
  rintro σ H6 ⟨ds,ms,s6,hdm,tx,ty,rfl⟩;have s06:=s5.trans s6;refine nx17 _ rfl _ rfl (by show 2<=sizeLine;decide) λ tt htt=>?_;have s7:=Same.upd (o:=HO.tup [.ref D1,.ref D2]) htt;refine q _ _ (s06.trans s7) ?_;rw[hdm];exact .tup (a1v (s06.free htt) a0c) (.cons (.lst (a1v hD1 (s7 _ _ (s6 _ _ h15))) (tx.same (a3d s7))) (.cons (.lst (a1v hD2H (s7 _ _ (s6 _ _ h25))) (ty.same (a3d s7))) .nil))
--@STAGE
def b6b (c k:Int):Int:=((c+7919*k+5)*48271%2147483647)*((c+7919*k+5)*48271%2147483647)%2147483629
theorem c3x (c k:Int):0<=b6b c k:=z1h _ (by decide)
theorem e0y (c k:Int):b6b c k < 2147483629:=z1o _ (by decide)
def e5x:Sp:=λ vs H Q _=>∃ c k:Int,vs=[.int c,.int k]/\Q (.int (b6b c k)) H
def e3b (K:W.Frag):Sp:=λ vs H Q _=>∃ (a:Addr) (ns:List Int) (k:Int),vs=[.ref a,.int k]/\SqL K H a (ns.map V.int)/\0<=k/\∀ c:Int,Q (.int c) H
def a2g (w:Str) (l:Int):Int:=if w="kept" then l+1 else if w="make" then 2 else 1
def c0r (w:Str) (k:Int):Int:=if w="kept" then k else 0
def a5c (w:Str) (k:Int):Int:=if w="kept" then k else 0
def d9d:Sp:=λ vs H Q _=>∃ (w:Str) (l:Int),vs=[.str w,.int l]/\Q (.int (a2g w l)) H
def e0k:Sp:=λ vs H Q _=>∃ (w:Str) (l:Int),vs=[.str w,.int l]/\Q (.int (c0r w l)) H
def d9u:Sp:=λ vs H Q _=>∃ (w:Str) (l:Int),vs=[.str w,.int l]/\Q (.int (a5c w l)) H
abbrev Drn:=Int×Str×Int
def d8e (d:Drn):PyData:=.tuple [.int d.1,.str d.2.1,.int d.2.2]
def e0b (ds:List Drn):Prop:=ds.length<=8/\(ds.map (·.1)).Pairwise (· < ·)/\(∀ d∈ds,1<=d.1/\d.1<=8/\d.2.1∈a8r/\0<=d.2.2/\d.2.2<=7)/\(3 < ds.length->∀ d∈ds,d.2.2<=3)
def d9h (K:W.Frag):Sp:=λ vs H Q _=>∃ (a:Addr) (ns:List Int) (wv:V),vs=[.ref a,wv]/\SqL K H a (ns.map V.int)/\(wv=.non\/∃ x∈a8r,wv=.str x) /\
 ∀ v H' ds,Same H H'->Tr (off H H') v (.list (ds.map d8e))->e0b ds->(∀ x,wv=.str x->∀ d∈ds,d.2.1=x)->Q v H'
def cnt (os:List Pr) (i:Nat) (n:Int):Nat:=((os.take i).filter λ p=>p.1 == n).length
def e2s (ds:List Drn) (os:List Pr):Prop:=∀ i n g,os[i]?=some (n,g)->g=(cnt os i n:Int)/\∃ d∈ds,d.1=n/\g < a2g d.2.1 d.2.2
def d9b (K:W.Frag):Sp:=λ vs H Q _=>∃ (a:Addr) (ns:List Int) (dv:V) (ds:List Drn),vs=[.ref a,dv]/\SqL K H a (ns.map V.int)/\Tr H dv (.list (ds.map d8e))/\e0b ds /\
 ∀ v H' os,Same H H'->Tr (off H H') v (.list (os.map a5g))->e2s ds os->os.length<=32->Q v H'
def e4p (ks:List Int):Prop:=ks.length=4/\ks.Pairwise (· < ·)/\∀ k∈ks,Bd k
def e4f:Sp:=λ vs H Q _=>∃ c:Int,vs=[.int c]/\0<=c/\c < 2147483629/\∀ D H' ks,H D=none->Same H H'->H' D=some (.lst (ks.map V.int))->e4p ks->Q (.ref D) H'
def d8l (ks ls:List Int) (l:Lk):Prop:=(l.map (·.1)).Pairwise (· < ·)/\l.length<=4/\∀ p∈l,∃ j:Nat,j < 4/\ks[j]?=some p.1/\(p.2=-1\/ls[j]?=some p.2)
def e5d:Sp:=λ vs H Q _=>∃ (ka la:Addr) (ks ls:List Int) (n:Int) (b:Bool),vs=[.ref ka,.ref la,.int n,.bl b]/\H ka=some (.lst (ks.map V.int))/\H la=some (.lst (ls.map V.int))/\e4p ks/\ls.length=4 /\
 ∀ v H' l f,Same H H'->TF H' v (a4k l) f->f.Nodup->(∀ b∈f,H b=none)->d8l ks ls l->Q v H'
abbrev wds:List Str:=a8r
theorem d6h {r:List (Key×V)} {k:Key} {v:V} (h:a6i r k=none):a6s r k v=r++[(k,v)]:=d6y v h
theorem c3j (h:Tr H v (.list ds)):∃ a xs,v=.ref a/\H a=some (.lst xs)/\Trs H xs ds:=h.list
theorem e0n (h:Tr H v (a5g p)):∃ a,v=.ref a/\H a=some (.tup [.int p.1,.int p.2]):=h.pair
theorem b9s (x y:Str):decide (V.str x=V.str y)=decide (x=y):=by
 rw[z1x,z5a,z5a];exact⟨V.str.inj,z0e V.str⟩
theorem b5q (T:Tx K mg):T.b1b.Ok P w base 1 d9d:=by
 refine okF T.b1b.F d2w λ _ _ _ _ _ _ _ _ _ h=>?_
 ·obtain⟨wd,l,rfl,q⟩:=h;refine⟨_,(a0d (a1g (a0i a2j (pv 0) a0j (a0o _))
   (a0f (a0p (a0l a2c (pv 1) a0e)))
   a0n)
   (a0f (a0p (a0l a2c a0e (a2i b4y (by rfl) T.c1u boot_int (a0a (a4p a2j (pv 0) a0j (a0o _)) a0b)))))),?_⟩
  unfold a2g at q;refine nx4 _ rfl rfl _ rfl ?_;rw[b9s];refine a3o (λ e=>?_) (λ e=>?_)
  ·have e':=z0b e;rw[z02 e'] at q;exact nx5 _ rfl _ _ rfl rfl q
  ·have e':¬ wd=("kept":Str):=λ z=>e (z07 z)
   rw[z01 e'] at q;refine⟨_,rfl,rfl,.inr (nx5 _ rfl _ _ rfl rfl ?_)⟩;rw[b9s];by_cases f:wd=("make":Str)
   ·rw[z02 f] at q;rw[z07 f];exact q
   ·rw[z01 f] at q;rw[z0v f];exact q
theorem c9w (T:Tx K mg):T.c0a.Ok P w base 1 e0k:=by
 refine okF T.c0a.F c9n λ _ _ _ _ _ _ _ _ _ h=>?_
 ·obtain⟨wd,l,rfl,q⟩:=h;refine⟨_,(a0d (a1g (a0i a2j (pv 0) a0j (a0o _))
   (a0f (a0p (pv 1)))
   a0n)
   (a0f (a0p a0e))),?_⟩
  unfold c0r at q;refine nx4 _ rfl rfl _ rfl ?_;rw[b9s];refine a3o (λ e=>?_) (λ e=>?_)
  ·rw[z02 (z0b e)] at q;exact⟨_,rfl,q⟩
  ·rw[z01 (λ z=>e (z07 z))] at q;exact q
theorem d2g (T:Tx K mg):T.b9d.Ok P w base 1 d9u:=by
 refine okF T.b9d.F d1a λ _ _ _ _ _ _ _ _ _ h=>?_
 ·obtain⟨wd,l,rfl,q⟩:=h;refine⟨_,(a0d (a1g (a0i a2j (pv 0) a0j (a0o _))
   (a0f (a0p (pv 1)))
   a0n)
   (a0f (a0p a0e))),?_⟩
  unfold a5c at q;refine nx4 _ rfl rfl _ rfl ?_;rw[b9s];refine a3o (λ e=>?_) (λ e=>?_)
  ·rw[z02 (z0b e)] at q;exact⟨_,rfl,q⟩
  ·rw[z01 (λ z=>e (z07 z))] at q;exact q
theorem a2q (T:Tx K mg):T.a2v.Ok P w base 1 e5x:=by
 refine okF T.a2v.F c0m λ _ _ _ _ _ _ _ _ _ h=>?_
 ·obtain⟨c,k,rfl,q⟩:=h;refine⟨_,(a0d (psx 2 c0m.nd (a0l a2h (a0l b5h (a0l a2c (a0l a2c (pv 0) (a0l b5h a0e (pv 1))) a0e) a0e) a0e))
   (a0f (a0p (a0l a2h (a0l b5h (pv 2) (pv 2)) a0e)))),?_⟩
  refine nx6 _ rfl _ rfl (nx22 _ _ rfl rfl (.inl ⟨by decide,by decide⟩) _ (nx16 _ rfl rfl _ _ rfl rfl (nx7 _ _ rfl rfl (.inr ⟨by decide,by decide⟩) (nx7 _ _ rfl rfl (by show (0:Int) < 2147483647;decide) ?_))));have a1:=z1h ((c+7919*k+5)*48271) (show (2147483647:Int)≠0 by decide);have a2:=z1o ((c+7919*k+5)*48271) (show (0:Int) < 2147483647 by decide);exact nx15 _ rfl _ rfl _ _ rfl rfl ⟨.inl ⟨by lia,by lia⟩,nx7 _ _ rfl rfl (by show (0:Int) < 2147483629;decide) q⟩
theorem b1y (T:Tx K mg):T.b0s.Ok P w base 2 (e3b K):=by
 refine okF T.b0s.F d4b λ _ _ _ _ _ _ _ _ hr h=>?_
 ·obtain⟨a,ns,k,rfl,ha,hk,q⟩:=h;refine⟨_,(a0d (a1g (a0i b3e (pv 1) (a0q a1k (by rfl) T.a4f z0z (a0a (pv 0) a0b)) (a0o _))
   (a0f (a0p (pix a1e (pv 0) (pv 1))))
   a0n)
   (a0d (a1g (a0i d4m (a0q a1k (by rfl) T.a4f z0z (a0a (pv 0) a0b)) a0e (a0o _))
   (a0f (a0p (pcF T.a2v (a2q T) hr (a0a (pix a1e (pv 0) (a0l a2h (pv 1) (a0q a1k (by rfl) T.a4f z0z (a0a (pv 0) a0b)))) (a0a (pv 1) a0b)))))
   a0n)
   (a0f (a0p (pcF T.a2v (a2q T) hr (a0a a0e (a0a (pv 1) a0b))))))),?_⟩
  refine nx15 _ rfl _ rfl _ _ rfl (.inl ⟨_,ha,rfl⟩) (nx31 _ _ rfl rfl _ rfl (a3o (λ e=>?_) (λ e=>?_)))
  ·have e1:k < ((ns.map V.int).length:Int):=z0b e;obtain⟨v,hv⟩:=b5j (xs:=ns.map V.int) hk e1;obtain⟨z,hz,rfl⟩:=z0a.mp (b0t hv);exact nx20 _ rfl _ rfl a _ _ _ rfl rfl ha hv (q z)
  ·refine nx5 _ rfl _ _ rfl (.inl ⟨_,ha,rfl⟩) (nx31 _ _ rfl rfl _ rfl (a3o (λ e2=>?_) (λ e2=>?_)))
   ·have e3:(0:Int) < ((ns.map V.int).length:Int):=z0b e2;obtain⟨v,hv⟩:=b5j (xs:=ns.map V.int) (z1h k (Int.ne_of_gt e3)) (z1o k e3);obtain⟨z,hz,rfl⟩:=z0a.mp (b0t hv);exact nx30 _ rfl _ rfl _ rfl _ _ rfl (.inl ⟨_,ha,rfl⟩) (nx7 _ _ rfl rfl e3 (nx8 a _ _ _ rfl rfl ha hv (nx41 _ rfl _ _ rfl (q _))))
   ·exact nx41 _ rfl _ _ rfl (q _)
theorem e1g (b st:Int) (h:1<=st):([b,b+st,b+2*st,b+3*st]).Pairwise (· < ·):=by
 refine z2r.mpr ⟨λ x hx=>?_,z2r.mpr ⟨λ x hx=>?_,z2r.mpr ⟨λ x hx=>?_,z36 _ _⟩⟩⟩<;>simp only [z06,z1r,z1v] at hx<;>lia
theorem d9w {b st:Int} (h1:-(10 ^ 28) < b) (h2:b < 10 ^ 28) (h3:1<=st) (h4:st<=3000000000000000000000000000):∀ k∈[b,b+st,b+2*st,b+3*st],Bd k:=λ k hk=>by
 have e1:(10:Int) ^ 28=10000000000000000000000000000:=by decide
 have e2:(10:Int) ^ 30=1000000000000000000000000000000:=by decide
 unfold Bd;rw[e1] at h1 h2;rw[e2];simp only [z06,z1r,z1v] at hk;rcases hk with rfl | rfl | rfl | rfl<;>lia
theorem smj {j:Nat} (h:j<4):-2^64<0+(j:Int)/\0+(j:Int)<2^64:=⟨by lia,by lia⟩
theorem d6d (T:Tx K mg):T.c4z.Ok P w base 1 e4f:=by
 refine okF T.c4z.F b3k λ _ _ _ _ _ _ _ _ _ h=>?_
 ·obtain⟨c,rfl,c0,c1,q⟩:=h;refine⟨_,(a0d (psx 1 b3k.nd (a0l a2h (a0l b5h (a0l a2c (pv 0) a0e) a0e) (a0l c6a a0e a0e)))
   (a0d (psx 1 b3k.nd (pix a1e (a1l (a0a a0e (a0a (d0u c1k a0e) (a0a (pv 1) (a0a (a0l b7f a0e (pv 1)) a0b))))) (a0l a2h (pv 0) a0e)))
   (a0d (psx 2 b3k.nd (a0l a2c a0e (a0l b5h (a0l a2h (a0l a4g (pv 0) a0e) a0e) (a0l a2h (a0l a4g (pv 0) a0e) (a0l c6a a0e a0e)))))
   (a0f (a0p (pcf ["_law_k"] ["_law_base","_law_step"] [1,2] (a2z rfl T.a4e (a0a a0e a0b)) (pgn 0) a2y (a0l a2c (pv 1) (a0l b5h (pv 0) (pv 2))))))))),?_⟩
  have e27:(10:Int) ^ (27:Int).toNat=1000000000000000000000000000:=by decide
  have x0:=z1h (c / 4) (show (3:Int)≠0 by decide);have x1:=z1o (c / 4) (show (0:Int) < 3 by decide);have y0:=z1h (c / 12) (show (10:Int) ^ (27:Int).toNat≠0 by decide);have y1:=z1o (c / 12) (show (0:Int) < (10:Int) ^ (27:Int).toNat by decide);refine nx1 _ rfl _ (nx42 _ rfl rfl _ _ rfl rfl (.inl ⟨by lia,by lia⟩) (nx7 _ _ rfl rfl ⟨by decide,by decide,by decide⟩ (nx7 _ _ rfl rfl (by show (0:Int) < (10:Int) ^ (28:Int).toNat;decide) ?_)));refine nx30 _ rfl _ rfl _ rfl _ _ rfl rfl ⟨(by show 4<=sizeLine;decide),λ p hp=>?_⟩;have s1:=Same.upd (o:=HO.lst [.int 0,.int (-2),.int ((c+1)*618033988749894848%(10:Int) ^ (28:Int).toNat),.int (0 - ((c+1)*618033988749894848%(10:Int) ^ (28:Int).toNat))]) hp;have e28:(10:Int) ^ (28:Int).toNat=10 ^ 28:=by decide
  have u0:=z1h ((c+1)*618033988749894848) (show (10:Int) ^ (28:Int).toNat≠0 by decide);have u1:=z1o ((c+1)*618033988749894848) (show (0:Int) < (10:Int) ^ (28:Int).toNat by decide);rw[e28] at u1;have hb:∃ b:Int,(-(10 ^ 28) < b/\b < 10 ^ 28)/\atI [V.int 0,.int (-2),.int ((c+1)*618033988749894848%(10:Int) ^ (28:Int).toNat),.int (0 - ((c+1)*618033988749894848%(10:Int) ^ (28:Int).toNat))] (c%4)=some (.int b):=by
   have h4:c%4=0\/c%4=1\/c%4=2\/c%4=3:=by lia
   rcases h4 with z | z | z | z
   ·exact⟨_,⟨by decide,by decide⟩,a2d 0 z rfl⟩
   ·exact⟨_,⟨by decide,by decide⟩,a2d 1 z rfl⟩
   ·exact⟨_,⟨by lia,by lia⟩,a2d 2 z rfl⟩
   ·exact⟨_,⟨by lia,by lia⟩,a2d 3 z rfl⟩
  obtain⟨b,⟨hblo,hbhi⟩,hb1⟩:=hb;refine nx19 _ rfl _ _ rfl rfl (by show (0:Int) < 4;decide) (nx8 p _ _ _ rfl rfl (SqL.of a0c) hb1 ?_);refine nx19 _ rfl _ _ rfl rfl ⟨by decide,by decide⟩ (nx7 _ _ rfl rfl (by show (0:Int) < 3;decide) (nx19 _ rfl _ _ rfl rfl ⟨by decide,by decide⟩ (nx7 _ _ rfl rfl ⟨by decide,by decide,by decide⟩ (nx7 _ _ rfl rfl (by show (0:Int) < (10:Int) ^ (27:Int).toNat;decide) (nx7 _ _ rfl rfl (.inl ⟨by lia,by lia⟩) (nx0 _ _ rfl rfl ?_))))));have hS:∃ S:Int,1+c / 4%3*(c / 12%(10:Int) ^ (27:Int).toNat)=S/\1<=S/\S<=3000000000000000000000000000:=by
   generalize c / 12%(10:Int) ^ (27:Int).toNat=Y at *;rw[e27] at y1;have:c / 4%3=0\/c / 4%3=1\/c / 4%3=2:=by lia
   refine⟨_,rfl,?_⟩;rcases this with z | z | z<;>rw[z]<;>lia
  obtain⟨S',eS,g1,g2⟩:=hS;subst eS;refine⟨4,rfl,by decide,by decide,b2k (k:=1) (fs:=[some (.int b),some (.int (1+c / 4%3*(c / 12%(10:Int) ^ (27:Int).toNat)))]) 4 (λ i=>some (.int (b+(0+(i:Int))*(1+c / 4%3*(c / 12%(10:Int) ^ (27:Int).toNat))))) rfl (by decide) (λ j H3 _ hj=>hj) (λ H3 _=>z04 4) ?_ ?_⟩
  ·rintro j H4 ts v H5 R ss hj hts ⟨rfl,rfl⟩ cb;obtain⟨t,rfl⟩:=z10.mp hts;exact nx30 _ rfl _ rfl _ rfl _ _ rfl rfl ⟨.inl (smj hj),nx0 _ _ rfl rfl (cb [_] _ rfl (Same.refl _))⟩
  ·intro D H4 hD ss hd;have ek:(List.range 4).filterMap (λ (i:Nat)=>some (V.int (b+(0+(i:Int))*(1+c / 4%3*(c / 12%(10:Int) ^ (27:Int).toNat)))))=([b,b+(1+c / 4%3*(c / 12%(10:Int) ^ (27:Int).toNat)),b+2*(1+c / 4%3*(c / 12%(10:Int) ^ (27:Int).toNat)),b+3*(1+c / 4%3*(c / 12%(10:Int) ^ (27:Int).toNat))]:List Int).map V.int:=by
    show [V.int (b+(0+((0:Nat):Int))*(1+c / 4%3*(c / 12%(10:Int) ^ (27:Int).toNat))),V.int (b+(0+((1:Nat):Int))*(1+c / 4%3*(c / 12%(10:Int) ^ (27:Int).toNat))),V.int (b+(0+((2:Nat):Int))*(1+c / 4%3*(c / 12%(10:Int) ^ (27:Int).toNat))),V.int (b+(0+((3:Nat):Int))*(1+c / 4%3*(c / 12%(10:Int) ^ (27:Int).toNat)))]=[V.int b,V.int (b+(1+c / 4%3*(c / 12%(10:Int) ^ (27:Int).toNat))),V.int (b+2*(1+c / 4%3*(c / 12%(10:Int) ^ (27:Int).toNat))),V.int (b+3*(1+c / 4%3*(c / 12%(10:Int) ^ (27:Int).toNat)))];simp
   rw[ek] at hd;exact q D H4 _ (s1.free hD) (s1.trans ss) hd ⟨rfl,e1g b (1+c / 4%3*(c / 12%(10:Int) ^ (27:Int).toNat)) g1,d9w hblo hbhi g1 g2⟩
theorem d6l (T:Tx K mg):T.c2y.Ok P w base 1 e5d:=by
 refine okF T.c2y.F b1t λ _ _ _ _ H _ _ _ _ h=>?_
 ·obtain⟨ka,la,ks,ls,n,sb,rfl,hka,hla,gk,l4,q⟩:=h;refine⟨_,(a0d (psx 4 b1t.nd (a1l a0b))
   (a0d (a2r z11 rfl (a2z rfl T.a4e (a0a a0e a0b)) (pgm 5 b1t.nd)
   (a0f (a1g (a0i a2j (a0l a2h (a0l a4g (pv 2) (pix a1e (a1l (a0a a0e (a0a a0e (a0a a0e (a0a a0e a0b))))) (pv 5))) a0e) a0e (a0o _))
   (a0d (psx 6 b1t.nd (pix a1e (pv 1) (pv 5)))
   (a1y (a1g (PW.pt (b2b (a3q (pv 3)) (a8e (a0i a2j (a0l a2h (a0l a4g (pv 2) a0e) a0e) a0e (a0o _)))))
   (a0f (psx 6 b1t.nd (d0u c1k a0e)))
   a0n)
   (a0f (a3i (a2l z1w z23 z20 a2f (pv 4) (a0a (a3p (a0a (pix a1e (pv 0) (pv 5)) (a0a (pv 6) a0b))) a0b))))))
   a0n)))
   (a0f (a0p (pv 4))))),?_⟩
  have z9:(5:Nat)<=sizeLine:=by decide
  obtain⟨gk1,gk2,_⟩:=gk;refine⟨(by show 0<=sizeLine;decide),λ D hD=>?_⟩;have s1:=Same.upd (o:=HO.lst []) hD;refine⟨4,rfl,by decide,by decide,a3h (lo:=0) (n:=4) (λ i σ H2=>∃ (x5 x6:Option V) (xs:List V) (l:Lk),σ=[some (.ref ka),some (.ref la),some (.int n),some (.bl sb),some (.ref D),x5,x6]/\Same H H2/\H2 D=some (.lst xs)/\(∃ f,TFs H2 xs (l.map a5g) f/\f.Nodup/\(∀ b∈f,H b=none)/\D ∉ f)/\(l.map (·.1)).Pairwise (· < ·)/\l.length<=i/\∀ p∈l,∃ j:Nat,j < i/\ks[j]?=some p.1/\(p.2=-1\/ls[j]?=some p.2))
   (nx24 none none ([]) ([]) rfl s1 a0c ⟨[],.nil,.nil,(λ b hb=>by cases hb),(λ hb=>by cases hb)⟩ (.nil) ⟨z04 _,λ p h=>by cases h⟩) ?_ ?_⟩
  ·rintro i σ H2 hi ⟨x5,x6,xs,l,rfl,s2,h2,⟨f0,ht,hf1,hf2,hf3⟩,hpw,hll,hal⟩;refine b3g λ D' hD'=>?_
   have hxs:xs.length < sizeLine:=by rw[ht.len,z03];lia
   have hz:∃ z:Int,0 < z/\z < 1073741824/\atI [V.int 1,.int 2,.int 4,.int 8] (0+(i:Int))=some (.int z):=by
    have:i=0\/i=1\/i=2\/i=3:=by lia
    rcases this with rfl | rfl | rfl | rfl
    ·exact⟨1,by decide,by decide,a2d 0 rfl rfl⟩
    ·exact⟨2,by decide,by decide,a2d 1 rfl rfl⟩
    ·exact⟨4,by decide,by decide,a2d 2 rfl rfl⟩
    ·exact⟨8,by decide,by decide,a2d 3 rfl rfl⟩
   obtain⟨z,z0,z1,hz⟩:=hz;have ek:ks[i]?=some ks[i]:=z0c (by lia);have el:ls[i]?=some ls[i]:=z0c (by lia);have ai:(0+(i:Int))=((i:Nat):Int):=by lia
   have hkv:atI (ks.map V.int) (0+(i:Int))=some (.int ks[i]):=a2d i ai (by rw[z0f,ek];rfl);have hlv:atI (ls.map V.int) (0+(i:Int))=some (.int ls[i]):=a2d i ai (by rw[z0f,el];rfl);refine⟨_,rfl,(by show 4<=sizeLine;decide),λ p hp=> nx21 _ rfl p _ _ _ rfl rfl (SqL.of a0c) hz (nx7 _ _ rfl rfl ⟨z0,z1⟩ (nx14 _ _ rfl rfl (by show (0:Int) < 2;decide) rfl _ rfl ?_))⟩;have s3:=Same.upd (o:=HO.lst [.int 1,.int 2,.int 4,.int 8]) hp;generalize upd H2 p (.lst [.int 1,.int 2,.int 4,.int 8])=H3 at *;have s23:=s2.trans s3;refine a3o (λ e=>?_) (λ e=>?_)
   ·refine nx20 _ rfl _ rfl la _ _ _ rfl rfl (SqL.of (s23 _ _ hla)) hlv ?_;refine⟨λ σ H4=>H4=H3/\∃ sr:Int,σ=[some (.ref ka),some (.ref la),some (.int n),some (.bl sb),some (.ref D),some (.int (0+(i:Int))),some (.int sr)]/\(sr=-1\/ls[i]?=some sr),?_,?_⟩
    ·refine nx6 _ rfl _ rfl (a3o (λ f=>?_) (λ f=>?_))
     ·refine nx19 _ rfl _ _ rfl rfl ⟨by decide,by decide⟩ (nx14 _ _ rfl rfl (by show (0:Int) < 3;decide) rfl _ rfl (a3o (λ g=>?_) (λ g=>?_)))
      ·exact nx4 _ rfl rfl (-1) rfl (.inl rfl)
      ·exact⟨rfl,ls[i],rfl,.inr el⟩
     ·exact⟨rfl,ls[i],rfl,.inr el⟩
    rintro σ H4 ⟨rfl,sr,rfl,hsr⟩;refine nx4 _ rfl (.inl ⟨rfl,_,SqL.of (s3 _ _ h2)⟩) _ rfl (nx27 _ rfl ka _ _ _ rfl rfl (SqL.of (s23 _ _ hka)) hkv _ rfl (by show 2<=sizeLine;decide) λ t ht2=>?_);have s4:=Same.upd (o:=HO.tup [.int ks[i],.int sr]) ht2;have ht4:upd H4 t (.tup [.int ks[i],.int sr]) t=some (.tup [.int ks[i],.int sr]):=a0c;generalize upd H4 t (.tup [.int ks[i],.int sr])=H5 at *;refine nx2 D xs _ rfl rfl (s4 _ _ (s3 _ _ h2)) hxs λ H6 h6 k6=>?_;have tD:t≠D:=λ zz=>by rw[zz,s3 _ _ h2] at ht2;cases ht2
    have hH6:Same H H6:=λ b o eb=>k6 _ _ (λ zz=>by rw[zz,hD] at eb;cases eb) (s4 _ _ (s23 _ _ eb))
    subst hD';refine nx24 _ _ _ (l++[(ks[i],sr)]) rfl hH6 h6 ?_ ?_ ⟨by rw[z0r,z1u];lia,?_⟩
    ·rw[z0m];have tf:t ∉ f0:=λ y=>ht.not (s3.free ht2) y
     refine⟨f0++[t],(ht.fr λ b hb o eb=>k6 _ _ (λ y=>hf3 (y ▸ hb)) (s4 _ _ (s3 _ _ eb))).app (TFs.one (.tup (k6 _ _ tD ht4) (TFs.cons (f:=[]) (g:=[]) (.int _) (TFs.cons (f:=[]) (g:=[]) (.int _) .nil)))),nd2.mpr ⟨hf1,z36 _ _,λ x hx=>by rw[z0o.mp hx];exact tf⟩,λ b hb=>?_,λ hb=>?_⟩
     ·rcases z08.mp hb with y | y
      ·exact hf2 b y
      ·rw[z0o.mp y];exact s23.free ht2
     ·rcases z08.mp hb with y | y
      ·exact hf3 y
      ·exact tD (z0o.mp y).symm
    ·rw[z0m,z3v];refine⟨hpw,z36 _ _,λ x hx y hy=>?_⟩;obtain⟨pp,hpp,rfl⟩:=z0a.mp hx;have hy':y=ks[i]:=by simpa using hy
     obtain⟨j,hj,ej,_⟩:=hal pp hpp;rw[hy'];obtain⟨hj2,ej2⟩:=z0i.mp ej;have:=z3l.mp gk2 j i hj2 (by lia) hj;rw[ej2] at this;exact this
    ·intro pp hpp;rcases z08.mp hpp with y | y
     ·obtain⟨j,hj,e1,e2⟩:=hal pp y;exact⟨j,by lia,e1,e2⟩
     ·rw[z0o.mp y];exact⟨i,by lia,ek,hsr⟩
   ·subst hD';exact nx24 _ _ xs l rfl s23 (s3 _ _ h2) ⟨f0,ht.same s3,hf1,hf2,hf3⟩ hpw ⟨by lia,λ pp hpp=>by obtain⟨j,hj,e1,e2⟩:=hal pp hpp;exact⟨j,by lia,e1,e2⟩⟩
  ·rintro σ H2 ⟨x5,x6,xs,l,rfl,s2,h2,⟨f0,ht,hf1,hf2,hf3⟩,hpw,hll,hal⟩;exact⟨_,rfl,q _ H2 l (D::f0) s2 (.lst h2 ht) (z15.mpr ⟨hf3,hf1⟩) (λ b hb=>(z06.mp hb).elim (λ y=>by rw[y];exact hD) (hf2 b)) ⟨hpw,hll,hal⟩⟩
--@STAGE
def c9j (sh th:Int) (j:Nat):Int:=1+(j:Int)+sh*(if th<=(j:Int) then 1 else 0)
theorem e0v {sh th:Int} (h:0<=sh) {i j:Nat} (hij:i < j):c9j sh th i < c9j sh th j:=by
 unfold c9j;by_cases h1:th<=(i:Int)
 ·rw[z02 h1,z02 (show th<=(j:Int) by lia)];lia
 ·rw[z01 h1];by_cases h2:th<=(j:Int)
  ·rw[z02 h2];lia
  ·rw[z01 h2];lia
theorem e0q {sh th:Int} (h:0<=sh) (j:Nat):1<=c9j sh th j/\c9j sh th j<=1+j+sh:=by
 unfold c9j;split<;>lia
theorem b5w (T:Tx K mg):T.a8f.Ok P w base 3 (d9h K):=by
 refine okF T.a8f.F a1o λ _ _ _ _ H _ _ _ hr h=>?_
 ·obtain⟨a,ns,wv,rfl,ha,hw,q⟩:=h;refine⟨_,(a0d (psx 2 a1o.nd (pcF T.b0s (b1y T) hr (a0a (pv 0) (a0a a0e a0b))))
   (a0d (psx 3 a1o.nd (a0l a2h (pv 2) a0e))
   (a0d (psx 4 a1o.nd (a0l a2h (pcF T.a2v (a2q T) hr (a0a (pv 2) (a0a a0e a0b))) (a0l b7f a0e (pv 3))))
   (a0d (psx 5 a1o.nd a0e)
   (a1y (a1g (PW.pt (b2b (a0i b3e (pv 3) a0e (a0o _)) (a8e (a0i a2j (a0l a2h (pcF T.a2v (a2q T) hr (a0a (pv 2) (a0a a0e a0b))) a0e) a0e (a0o _)))))
   (a0f (psx 5 a1o.nd a0e))
   a0n)
   (a0d (psx 6 a1o.nd (a1l a0b))
   (a0d (a2r z11 rfl (a2z rfl T.a4e (a0a (pv 3) a0b)) (pgm 7 a1o.nd)
   (a0d (psx 8 a1o.nd (pv 1))
   (a1y (a1g (a0i b6q (pv 1) a3f (a0o _))
   (a0f (psx 8 a1o.nd (pix a1e (a1l (a0a a0j (a0a a0j (a0a a0j (a0a a0j (a0a a0j a0b)))))) (a0l a2h (pcF T.a2v (a2q T) hr (a0a (pv 2) (a0a (a0l a2c a0e (pv 7)) a0b))) a0e))))
   a0n)
   (a0d (psx 9 a1o.nd (a0l a2c (a0l a2c a0e (pv 7)) (a0l b5h (pv 4) (a2i b4y (by rfl) T.c1u boot_int (a0a (a4p e2m (pv 7) (a0l a2h (pcF T.a2v (a2q T) hr (a0a (pv 2) (a0a a0e a0b))) a0e) (a0o _)) a0b)))))
   (a0f (a3i (a2l z1w z23 z20 a2f (pv 6) (a0a (a3p (a0a (pv 9) (a0a (pv 8) (a0a (a0l a2h (pcF T.a2v (a2q T) hr (a0a (pv 2) (a0a (a0l a2c a0e (pv 7)) a0b))) (pv 5)) a0b)))) a0b))))))))
   (a0f (a0p (pv 6)))))))))),?_⟩
  refine b1u λ b' hb'=>?_
  have z9:(9:Nat)<=sizeLine:=by decide
  refine nx1 _ rfl a (nx7 ns 0 rfl ha (by decide) λ c=>?_);obtain⟨m,em⟩:∃ m:Int,c%9=m:=⟨_,rfl⟩;have m0:=z1h c (show (9:Int)≠0 by decide);have m1:=z1o c (show (0:Int) < 9 by decide);rw[em] at m0 m1;subst hb';refine a6h λ b' hb'=>?_
  refine nx19 _ rfl _ _ rfl rfl (by show (0:Int) < 9;decide) ?_;have h9:(0:Int) < 9 - c%9:=by lia
  subst hb';refine a6h λ b' hb'=>?_
  refine nx1 _ rfl c (nx15 1 rfl _ rfl _ _ rfl rfl (nx7 _ _ rfl rfl h9 ?_));obtain⟨sh,esh⟩:∃ sh:Int,b6b c 1%(9 - c%9)=sh:=⟨_,rfl⟩;have sh0:=z1h (b6b c 1) (Int.ne_of_gt h9);have sh1:=z1o (b6b c 1) h9;rw[esh] at sh0 sh1;rw[em] at sh1;subst hb';refine⟨λ σ H2=>H2=H/\∃ mo:Int,σ=[some (.ref a),some wv,some (.int c),some (.int m),some (.int sh),some (.int mo),none,none,none,none]/\(mo=4\/(mo=8/\m < 4)),?_,?_⟩
  ·refine nx23 _ rfl _ _ rfl rfl _ rfl (a3o (λ e=>?_) (λ e=>?_))
   ·refine nx41 _ rfl c 3 rfl (nx14 _ _ rfl rfl (by show (0:Int) < 3;decide) rfl _ rfl (a3o (λ f=>?_) (λ f=>?_)))
    ·exact⟨rfl,8,by rw[<-em,<-esh];rfl,.inr ⟨rfl,by rw[<-em];exact z0b e⟩⟩
    ·exact⟨rfl,4,by rw[<-em,<-esh];rfl,.inl rfl⟩
   ·exact⟨rfl,4,by rw[<-em,<-esh];rfl,.inl rfl⟩
  rintro σ H2 ⟨rfl,mo,rfl,hmo⟩;have mo0:0 < mo/\mo<=8:=by lia
  obtain⟨th,eth⟩:∃ th:Int,b6b c 2%8=th:=⟨_,rfl⟩;refine b1u λ b' hb'=>?_
  refine⟨(by show 0<=sizeLine;decide),λ D hD=>?_⟩;have s1:=Same.upd (o:=HO.lst []) hD;subst hb';refine a6h λ b' hb'=>?_
  refine nx17 _ rfl m rfl (by lia) ⟨by lia,a3h (lo:=0) (n:=m.toNat) (λ i σ H3=>∃ (x7 x8 x9:Option V) (xs:List V) (ds:List Drn),σ=[some (.ref a),some wv,some (.int c),some (.int m),some (.int sh),some (.int mo),some (.ref D),x7,x8,x9]/\Same H2 H3/\H3 D=some (.lst xs)/\Trs (b0q (off H2 H3) D) xs (ds.map d8e)/\ds.map (·.1)=(List.range i).map (c9j sh th)/\∀ d∈ds,d.2.1∈wds/\0<=d.2.2/\d.2.2 < mo/\∀ x,wv=.str x->d.2.1=x)
   (nx36 none none none ([]) ([]) rfl s1 a0c (.nil) rfl λ p h=>by cases h) ?_ ?_⟩
  ·intro i σ H3 hi hJ';refine b7x λ G' hG'=>?_
   obtain⟨x7,x8,x9,xs,ds,rfl,s3,h3,ht,hnum,hal⟩:=hJ';refine hG' ?_;refine b3g λ D' hD'=>?_
   have hdl:ds.length=i:=by
    have:=z0e List.length hnum;rw[z03,z03,z4p] at this;exact this
   have hxs:xs.length < sizeLine:=by rw[ht.len,z03];lia
   refine⟨_,rfl,?_⟩;refine⟨λ σ H4=>Same H3 H4/\∃ ow:Str,σ=[some (.ref a),some wv,some (.int c),some (.int m),some (.int sh),some (.int mo),some (.ref D),some (.int (0+(i:Int))),some (.str ow),x9]/\ow∈wds/\∀ x,wv=.str x->ow=x,?_,?_⟩
   ·rcases hw with rfl | ⟨x,hx,rfl⟩
    ·refine nx4 _ rfl rfl _ rfl (e3z rfl ?_);refine⟨(by show 5<=sizeLine;decide),λ p hp=>?_⟩;obtain⟨v,hv⟩:=b5j (xs:=wds.map V.str) (z1h (b6b c (10+(0+(i:Int)))) (show (5:Int)≠0 by decide)) (z1o (b6b c (10+(0+(i:Int)))) (show (0:Int) < 5 by decide));obtain⟨x,hx,rfl⟩:=z0a.mp (b0t hv);refine nx15 _ rfl _ rfl _ _ rfl rfl (nx12 c _ rfl (nx7 _ _ rfl rfl (by show (0:Int) < 5;decide) (nx24 p _ _ _ rfl rfl (SqL.of a0c) hv (Same.upd hp) ⟨x,rfl,hx,λ x h=>by cases h⟩)))
    ·refine nx4 _ rfl rfl _ rfl (d6v (λ z=>by cases z) ?_);exact⟨Same.refl _,x,rfl,hx,λ y h=>by cases h;rfl⟩
   rintro σ H4 ⟨s4,ow,rfl,how,hox⟩;refine b1u λ b2' hb2'=>?_
   refine nx5 _ rfl _ _ rfl rfl (nx35 _ rfl _ rfl _ rfl c (nx19 2 rfl _ _ rfl rfl (by show (0:Int) < 8;decide) (nx0 _ _ rfl rfl (.inr (nx19 _ rfl _ _ rfl rfl (.inl ⟨by lia,by lia⟩) (nx0 _ _ rfl rfl ?_))))));have hlo:0<=b6b c (20+(0+(i:Int)))%mo/\b6b c (20+(0+(i:Int)))%mo < mo:=⟨z1h _ (by lia),z1o _ mo0.1⟩;subst hb2';refine nx4 _ rfl (.inl ⟨rfl,_,SqL.of (s4 _ _ h3)⟩) _ rfl (nx30 _ rfl _ rfl _ rfl _ _ rfl rfl (nx12 c _ rfl (nx19 _ rfl _ _ rfl rfl mo0.1 ⟨(by show 3<=sizeLine;decide),λ t ht2=>?_⟩)));have en:1+(0+(i:Int))+sh*(if decide (b6b c 2%8<=0+(i:Int))=true then 1 else 0)=c9j sh th i:=by
    unfold c9j;rw[eth,show (0+(i:Int))=(i:Int) by lia];by_cases g:th<=(i:Int)
    ·rw[z02 g,z02 (z07 g)]
    ·rw[z01 g,z01 (λ z=>g (z0b z))]
   have tD:t≠D:=λ zz=>by rw[zz,s4 _ _ h3] at ht2;cases ht2
   have key:∀ nn:Int,nn=c9j sh th i->∀ H5,upd H4 t (.tup [.int nn,.str ow,.int (b6b c (20+(0+(i:Int)))%mo)])=H5->∀ H6,H6 D=some (.lst (xs++[.ref t]))->(∀ b o,b≠D->H5 b=some o->H6 b=some o)->∃ (x7 x8 x9':Option V) (xs':List V) (ds':List Drn),[some (.ref a),some wv,some (.int c),some (.int m),some (.int sh),some (.int mo),some (.ref D),some (.int (0+(i:Int))),some (.str ow),some (V.int nn)]=[some (.ref a),some wv,some (.int c),some (.int m),some (.int sh),some (.int mo),some (.ref D),x7,x8,x9']/\Same H2 H6/\H6 D=some (.lst xs')/\Trs (b0q (off H2 H6) D) xs' (ds'.map d8e)/\ds'.map (·.1)=(List.range (i+1)).map (c9j sh th)/\∀ d∈ds',d.2.1∈wds/\0<=d.2.2/\d.2.2 < mo/\∀ x,wv=.str x->d.2.1=x:=by
    intro nn enn H5 e5 H6 h6 k6;have s5:Same H4 H5:=by rw[<-e5];exact Same.upd ht2
    have ht5:H5 t=some (.tup [.int nn,.str ow,.int (b6b c (20+(0+(i:Int)))%mo)]):=by rw[<-e5];exact a0c
    have s35:=s4.trans s5;have hH6:Same H2 H6:=λ b o eb=>k6 _ _ (λ zz=>by rw[zz,hD] at eb;cases eb) (s35 _ _ (s3 _ _ eb))
    refine nx36 _ _ _ _ (ds++[(nn,ow,b6b c (20+(0+(i:Int)))%mo)]) rfl hH6 h6 ?_ ?_ ?_
    ·rw[z0m];exact(ht.same λ b o eb=>a5t (a3g eb).1 (a1v (a1b (a3g eb).2).1 (k6 _ _ (a3g eb).1 (s35 _ _ (a1b (a3g eb).2).2)))).app (.cons (.tup (a5t tD (a1v ((s3.trans s4).free ht2) (k6 _ _ tD ht5))) (.cons (.int _) (.cons (.str _) (.cons (.int _) .nil)))) .nil)
    ·rw[z0m,hnum,z40,z0m,enn];rfl
    ·intro d hd;rcases z08.mp hd with y | y
     ·exact hal d y
     ·rw[z0o.mp y];exact⟨how,hlo.1,hlo.2,hox⟩
   refine nx2 D xs _ rfl rfl ((Same.upd ht2) _ _ (s4 _ _ h3)) hxs λ H6 h6 k6=>?_;subst hD';exact key _ en _ rfl H6 h6 k6
  ·intro σ H3 hJ';refine b7x λ G' hG'=>?_
   obtain⟨x7,x8,x9,xs,ds,rfl,s3,h3,ht,hnum,hal⟩:=hJ';refine hG' ?_;subst hb';have hdl:ds.length=m.toNat:=by
    have:=z0e List.length hnum;rw[z03,z03,z4p] at this;exact this
   refine⟨_,rfl,q _ H3 ds s3 (.lst (a1v hD h3) (ht.same b3v)) ⟨by lia,?_,λ d hd=>?_,λ h4 d hd=>?_⟩ λ x hx d hd=>(hal d hd).2.2.2 x hx⟩
   ·rw[hnum,z2p];exact List.pairwise_lt_range.imp λ h=>e0v sh0 h
   ·have hm:d.1∈(List.range m.toNat).map (c9j sh th):=by rw[<-hnum];exact z0a.mpr ⟨d,hd,rfl⟩
    obtain⟨j,hj,ej⟩:=z0a.mp hm;have hj':=List.mem_range.mp hj;have:=e0q (th:=th) sh0 j;rw[ej] at this;have h2:=hal d hd;exact⟨this.1,by lia,h2.1,h2.2.1,by lia⟩
   ·have h2:=hal d hd;lia
def dkC (ds:List Drn) (c:Int->Int):List (Key×V):=ds.map λ d=>(Sum.inl d.1,.int (c d.1))
theorem d8g {ds:List Drn} {c:Int->Int} {n:Int} (h:∃ d∈ds,d.1=n):a6i (dkC ds c) (Sum.inl n:Key)=some (.int (c n)):=by
 obtain⟨d,hd,rfl⟩:=h;unfold a6i dkC;rw[List.find?_map];have:∃ e,ds.find? ((λ kv:Key×V=>decide (kv.1=Sum.inl d.1)) ∘ λ e:Drn=>(Sum.inl e.1,V.int (c e.1)))=some e:=by
  rw[<-z5b,List.find?_isSome];exact⟨d,hd,z07 rfl⟩
 obtain⟨e,he⟩:=this;rw[he];have h1:=List.find?_some he;have h2:(Sum.inl e.1:Key)=Sum.inl d.1:=z0b h1;have h3:e.1=d.1:=z2k h2;show some (V.int (c e.1))=some (V.int (c d.1));rw[h3]
theorem d9o {ds:List Drn} {c:Int->Int} {n v:Int} (h:∃ d∈ds,d.1=n):a6s (dkC ds c) (Sum.inl n:Key) (.int v)=dkC ds λ m=>if m=n then v else c m:=by
 obtain⟨d,hd,rfl⟩:=h;unfold a6s;have ha:((dkC ds c).any λ kv=>decide (kv.1=Sum.inl d.1))=true:=by
  rw[z4j];exact⟨_,z0a.mpr ⟨d,hd,rfl⟩,z07 rfl⟩
 rw[z02 ha];unfold dkC;rw[z0t];refine List.map_congr_left λ e _=>?_
 show (if (Sum.inl e.1:Key)=Sum.inl d.1 then ((Sum.inl e.1:Key),V.int v) else (Sum.inl e.1,V.int (c e.1)))=(Sum.inl e.1,V.int (if e.1=d.1 then v else c e.1));by_cases g:e.1=d.1
 ·rw[z02 (z0e Sum.inl g),z02 g]
 ·rw[z01 (λ z=>g (z2k z)),z01 g]
theorem e1d {ds:List Drn} {c:Int->Int} {d:Drn} (h:∀ e∈ds,e.1≠d.1):a6s (dkC ds c) (Sum.inl d.1:Key) (.int (c d.1))=dkC (ds++[d]) c:=by
 rw[d6h]
 ·unfold dkC;rw[z0m];rfl
 ·cases ev:a6i (dkC ds c) (Sum.inl d.1:Key) with
  | none=>rfl
  | some v =>
   obtain⟨kv,hk,z⟩:=z0a.mp (d8z ev);obtain⟨e,he,rfl⟩:=z0a.mp hk;exact absurd (z2k z) (h e he)
theorem c6o {c:Int->Int} {n:Int}:∀ {ds:List Drn},(ds.map (·.1)).Pairwise (· < ·)->(∃ d∈ds,d.1=n)->(ds.map λ d=>if d.1=n then c n+1 else c d.1).sum=(ds.map λ d=>c d.1).sum+1
 | [],_,⟨d,hd,_⟩=>by cases hd
 | e::r,hp,hx=>by
  rw[z0q,z2r] at hp;simp only [z0q,z1j];by_cases g:e.1=n
  ·have hr:(r.map λ d=>if d.1=n then c n+1 else c d.1)=r.map λ d=>c d.1:=List.map_congr_left λ d hd=>by
    have:=hp.1 d.1 (z0a.mpr ⟨d,hd,rfl⟩);rw[z01 (by lia)]
   rw[z02 g,hr,g];lia
  ·have:∃ d∈r,d.1=n:=by
    obtain⟨d,hd,ed⟩:=hx;rcases z06.mp hd with rfl | z
    ·exact absurd ed g
    ·exact⟨d,z,ed⟩
   rw[z01 g,c6o hp.2 this];lia
theorem c9r (os:List Pr) (p:Pr) (n:Int):cnt (os++[p]) (os.length+1) n=cnt os os.length n+(if p.1=n then 1 else 0):=by
 unfold cnt;rw[z3f (by simp),z16,z58,z0r];congr 1;by_cases h:p.1=n
 ·rw[z02 h];have:(p.1 == n)=true:=by simpa using h
  simp[this]
 ·rw[z01 h];have:(p.1 == n)=false:=by simpa using h
  simp[this]
theorem d1y (os:List Pr) (p:Pr) {i:Nat} (h:i<=os.length) (n:Int):cnt (os++[p]) i n=cnt os i n:=by
 unfold cnt;rw[List.take_append_of_le_length h]
theorem e2s.snoc {ds:List Drn} {os:List Pr} (h:e2s ds os) {n:Int} (hd:∃ d∈ds,d.1=n/\(cnt os os.length n:Int) < a2g d.2.1 d.2.2):e2s ds (os++[(n,(cnt os os.length n:Int))]):=by
 intro i m g e;rcases Nat.lt_or_ge i os.length with hi | hi
 ·rw[z39 hi] at e;rw[d1y _ _ (z3z hi)];exact h i m g e
 ·rw[z2e hi] at e;have hi2:i - os.length=0:=by
   rcases z54 (i - os.length) with z | z
   ·exact z
   ·rw[List.getElem?_eq_none (by rw[z1u];lia)] at e;cases e
  rw[hi2] at e;cases e;have:i=os.length:=by lia
  subst this;rw[d1y _ _ (z04 _)];exact⟨rfl,hd⟩
theorem b5d {w:Str} {l:Int} (h0:0<=l) (h7:l<=7):1<=a2g w l/\a2g w l<=8:=by
 unfold a2g;split
 ·lia
 ·split<;>lia
theorem b2r {α:Type} {f g:α->Int}:∀ {l:List α},(∀ x∈l,f x<=g x)->(l.map f).sum<=(l.map g).sum
 | [],_=>Int.le_refl _
 | x::r,h=>by
  have h1:=h x z0g;have h2:=b2r (l:=r) λ y hy=>h y (z0p _ hy)
  simp only [z0q,z1j];lia
theorem a9i {α:Type} {f:α->Int} {k:Int}:∀ {l:List α},(∀ x∈l,f x<=k)->(l.map f).sum<=k*l.length
 | [],_=>by simp
 | x::r,h=>by
  have h1:=h x z0g;have h2:=a9i (l:=r) λ y hy=>h y (z0p _ hy)
  simp only [z0q,z1j,z12];rw[show k*((r.length+1:Nat):Int)=k*r.length+k by push_cast;rw[Int.mul_add,Int.mul_one]];lia
theorem _root_.My.Tr.drn {H:Hp} {v:V} {d:Drn} (h:Tr H v (d8e d)):∃ a,v=.ref a/\H a=some (.tup [.int d.1,.str d.2.1,.int d.2.2]):=by
 cases h with
 | @tup a xs _ h r =>
  cases r with
  | cons h1 r =>
   cases r with
   | cons h2 r =>
    cases r with
    | cons h3 r =>
     cases r;cases h1;cases h2;cases h3;exact⟨a,rfl,h⟩
theorem b9o {α:Type}:∀ l:List α,(l.map λ _=>(0:Int)).sum=0
 | []=>rfl
 | _::r=>by rw[z0q,z1j,b9o r];rfl
theorem b8b (cf:Int->Int):∀ ds:List Drn,ds.filterMap (λ d=>if cf d.1 < a2g d.2.1 d.2.2 then some (V.int d.1) else none)=((ds.filter λ d=>decide (cf d.1 < a2g d.2.1 d.2.2)).map (·.1)).map V.int
 | []=>rfl
 | d::r=>by
  rw[z1i,z4i];by_cases e:cf d.1 < a2g d.2.1 d.2.2
  ·rw[z02 e,z02 (z07 e),b8b cf r];rfl
  ·rw[z01 e,z01 (λ z=>e (z0b z)),b8b cf r]
theorem num_inj {ds:List Drn} (h:(ds.map (·.1)).Pairwise (· < ·)) {d e:Drn} (hd:d∈ds) (he:e∈ds) (x:d.1=e.1):d=e:=by
 have hp:=z3l.mp (z2p.mp h);obtain⟨i,hi,rfl⟩:=z1s hd;obtain⟨j,hj,rfl⟩:=z1s he;rcases z4e i j with z | z | z
 ·have:=hp i j hi hj z;lia
 ·subst z;rfl
 ·have:=hp j i hj hi z;lia
theorem b5y (T:Tx K mg):T.a7x.Ok P w base 3 (d9b K):=by
 refine okF T.a7x.F a1p λ _ _ _ _ H _ _ _ hr h=>?_
 ·obtain⟨a,ns,dv,ds,rfl,ha,hd,gd,q⟩:=h;have hu:=c8a hr;refine⟨_,(a0d (psx 2 a1p.nd b3n)
   (a0d (psx 3 a1p.nd a0e)
   (a0d (a2r z11 rfl (a0z (pv 1)) (a8i rfl (a0w (pgm 4 a1p.nd) (a0w (pgm 5 a1p.nd) (a0w (pgm 6 a1p.nd) a4h))))
   (a0d (b4h hu (pv 2) (pv 4) a0e rfl)
   (a0f (psx 3 a1p.nd (a0l a2c (pv 3) (pcF T.b1b (b5q T) hr (a0a (pv 5) (a0a (pv 6) a0b))))))))
   (a0d (psx 7 a1p.nd (a1l a0b))
   (a0d (a2r z11 rfl (a2z rfl T.a4e (a0a (pv 3) a0b)) (pgm 8 a1p.nd)
   (a0d (psf 9 ["_law_row"] a1p.nd ["_law_gone"] [2] (a0z (pv 1)) (pgn 0) (c1y (a0i b3e (a3u hu (pv 1) (pix (a4r (K:=K) rfl) (pv 0) a0e) (λ _ _=>rfl)) (pcF T.b1b (b5q T) hr (a0a (pix (a4r (K:=K) rfl) (pv 0) a0e) (a0a (pix (a4r (K:=K) rfl) (pv 0) a0e) a0b))) (a0o _))) (pix (a4r (K:=K) rfl) (pv 0) a0e))
   (a0d (psx 4 a1p.nd (pix a1e (pv 9) (a0l a2h (pcF T.a2v (a2q T) hr (a0a (pcF T.b0s (b1y T) hr (a0a (pv 0) (a0a (a0l a2c a0e (pv 8)) a0b))) (a0a a0e a0b))) (a0q a1k (by rfl) T.a4f z0z (a0a (pv 9) a0b)))))
   (a0d (a3i (a2l z1w z23 z20 a2f (pv 7) (a0a (a3p (a0a (pv 4) (a0a (a3u hu (pv 2) (pv 4) (λ _ _=>rfl)) a0b))) a0b)))
   (a0f (b4h hu (pv 2) (pv 4) (a0l a2c (a3u hu (pv 2) (pv 4) (λ _ _=>rfl)) a0e) rfl))))))
   (a0f (a0p (pv 7)))))))),?_⟩
  refine b1u λ b' hb'=>?_
  have z9:(200:Nat)<=sizeLine:=by decide
  obtain⟨dl,xs,rfl,hdl,htx⟩:=c3j hd;obtain⟨g1,g2,g3,g4⟩:=gd;have hxl:xs.length=ds.length:=by rw[htx.len,z03]
  intro g hg;have s1:=Same.upd (o:=HO.dK []) hg;subst hb';refine nx17 _ rfl dl rfl ⟨_,SqL.of (s1 _ _ hdl)⟩ (a3k (K:=K) (a:=dl) (xs:=xs) (λ i σ H2=>∃ (x4 x5 x6:Option V),σ=[some (.ref a),some (.ref dl),some (.ref g),some (.int ((ds.take i).map λ d=>a2g d.2.1 d.2.2).sum),x4,x5,x6,none,none,none]/\Same H H2/\H2 g=some (.dK (dkC (ds.take i) λ _=>0)))
   (nx29 none none none rfl s1 a0c) (λ i σ H2 _ hJ'=>by obtain⟨_,_,_,_,s2,_⟩:=hJ';exact SqL.of (s2 _ _ hdl)) ?_ ?_)
  ·intro i x σ H2 hx hJ';refine b7x λ G' hG'=>?_
   obtain⟨x4,x5,x6,rfl,s2,h2⟩:=hJ';obtain⟨pd,hpd,tr⟩:=htx.get hx;have hi:i < ds.length:=by rw[<-hxl];exact(z0i.mp hx).1
   have ed:ds[i]?=some ds[i]:=z0c hi;rw[z0f,ed] at hpd;cases hpd;obtain⟨t,rfl,ht⟩:=tr.drn;refine hG' ?_;refine b3g λ D' hD'=>?_
   refine nx34 t _ rfl (SqT.of (s2 _ _ ht)) rfl _ _ rfl _ _ rfl (nx0 _ _ rfl rfl ?_);have hnew:∀ e∈ds.take i,e.1≠ds[i].1:=λ e he z=>by
    have hp:=z3l.mp (z2p.mp g2);obtain⟨j,hj,rfl⟩:=z1s he;rw[z14] at hj;have:=hp j i (by lia) hi (by lia);rw[z4b] at z;lia
   have ep:=e1d (c:=λ _=>0) hnew;have htk:ds.take (i+1)=ds.take i++[ds[i]]:=by rw[z1m,ed];rfl
   refine b1u λ b2' hb2'=>?_
   refine nx15 _ rfl _ rfl g (upd H2 g (.dK (dkC (ds.take (i+1)) λ _=>0))) rfl (.inl (nx7 _ (Sum.inl ds[i].1) h2 rfl ?_ (by rw[htk,<-ep]))) ?_
   ·unfold dkC;rw[z03,z14];lia
   subst hb2';subst hD';refine nx35 _ rfl _ rfl _ rfl (ds[i].2.1) (nx5 (ds[i].2.2) rfl _ _ rfl rfl (nx29 (some (.int ds[i].1)) (some (.str ds[i].2.1)) (some (.int ds[i].2.2)) ?_ (s2.again hg) a0c));rw[htk,z0m,z3p,List.map_singleton,List.sum_singleton];rfl
  intro σ H2 hJ';refine b7x λ G' hG'=>?_
  obtain⟨x4,x5,x6,rfl,s2,h2⟩:=hJ';refine hG' ?_;rw[hxl,z16] at h2;rw[hxl,z16];obtain⟨tot,etot⟩:∃ tot:Int,(ds.map λ d=>a2g d.2.1 d.2.2).sum=tot:=⟨_,rfl⟩;rw[etot];have htot:tot<=32:=by
   by_cases h3:3 < ds.length
   ·have:=a9i (l:=ds) (f:=λ d=>a2g d.2.1 d.2.2) (k:=4) λ d hd=>by
     have h0:=(g3 d hd).2.2.2.1;have h4:=g4 h3 d hd;unfold a2g;split
     ·lia
     ·split<;>lia
    rw[etot] at this;lia
   ·have:=a9i (l:=ds) (f:=λ d=>a2g d.2.1 d.2.2) (k:=8) λ d hd=>(b5d (g3 d hd).2.2.2.1 (g3 d hd).2.2.2.2).2
    rw[etot] at this;lia
  have htot0:0<=tot:=by
   have:=b2r (l:=ds) (f:=λ _=>(0:Int)) (g:=λ d=>a2g d.2.1 d.2.2) λ d hd=>by have:=(b5d (w:=d.2.1) (g3 d hd).2.2.2.1 (g3 d hd).2.2.2.2).1;lia
   rw[etot] at this;have e0:=b9o ds;lia
  refine a6h λ b' hb'=>?_
  refine⟨(by show 0<=sizeLine;decide),λ D hD=>?_⟩;have gD:g≠D:=λ z=>by rw[z,hD] at h2;cases h2
  have hD0:H D=none:=s2.free hD;have s3:=Same.upd (o:=HO.lst []) hD;subst hb';refine a6h λ b' hb'=>?_
  refine nx17 _ rfl tot rfl (by lia) ⟨by lia,a3h (lo:=0) (n:=tot.toNat) (λ j σ H3=>∃ (x4 x5 x6 x8 x9:Option V) (ys:List V) (os:List Pr),σ=[some (.ref a),some (.ref dl),some (.ref g),some (.int tot),x4,x5,x6,some (.ref D),x8,x9]/\Same H H3/\H3 D=some (.lst ys)/\Trs (b0q (b0q (off H H3) D) g) ys (os.map a5g)/\H3 g=some (.dK (dkC ds λ n=>(cnt os os.length n:Int)))/\e2s ds os/\os.length=j/\(ds.map λ d=>(cnt os os.length d.1:Int)).sum=j/\∀ d∈ds,(cnt os os.length d.1:Int)<=a2g d.2.1 d.2.2)
   (nx32 x4 x5 x6 (nx33 none none ([]) ([]) rfl (s2.trans s3) a0c (.nil) (s3 _ _ h2) (λ i n g e=>by simp at e) rfl ?_ λ d hd=>?_)) ?_ ?_⟩
  ·exact b9o ds
  ·have:=(b5d (w:=d.2.1) (g3 d hd).2.2.2.1 (g3 d hd).2.2.2.2).1;show (0:Int)<=_;lia
  ·intro j σ H3 hj hJ';refine b7x λ G' hG'=>?_
   obtain⟨x4,x5,x6,x8,x9,ys,os,rfl,s4,h4,ht,hg4,hW,hol,hsum,hle⟩:=hJ';have hyl:ys.length=os.length:=by rw[ht.len,z03]
   obtain⟨cf,ecf⟩:∃ cf:Int->Int,(λ n=>(cnt os os.length n:Int))=cf:=⟨_,rfl⟩;have hcf:∀ n,(cnt os os.length n:Int)=cf n:=λ n=>congrFun ecf n
   rw[ecf] at hg4;simp only [hcf] at hsum hle;refine hG' ?_;refine b3g λ D' hD'=>?_
   refine b1u λ b2' hb2'=>?_
   refine nx17 _ rfl dl rfl ⟨_,SqL.of (s4 _ _ hdl)⟩ (a8h (k:=1) (fs:=[some (.ref g)]) ds d8e (λ d=>if cf d.1 < a2g d.2.1 d.2.2 then some (.int d.1) else none) rfl (s4 _ _ hdl) (htx.same s4) (by lia) (λ d hd H5 ts v R ss hts tr cont=>?_) (λ D2 H5 hD2 s5 hd2=>?_))
   ·obtain⟨t,rfl⟩:=z10.mp hts;obtain⟨t1,rfl,ht1⟩:=tr.drn;have hdgd:b1j H5 g (.int d.1) (some (.int (cf d.1))):=by
     have:=b1j.k (k:=Sum.inl d.1) (ss _ _ hg4);rw[d8g ⟨d,hd,rfl⟩] at this;exact this
    refine nx20 _ rfl _ rfl t1 _ _ _ rfl rfl (SqT.of ht1) (a0k (j:=0) rfl) (nx0 g (.int (cf d.1)) rfl hdgd (nx9 _ rfl t1 _ _ _ rfl rfl (SqT.of ht1) (a0k (j:=1) rfl) _ rfl (nx8 t1 _ _ _ rfl rfl (SqT.of ht1) (a0k (j:=2) rfl) (nx12 d.2.1 d.2.2 rfl (nx31 _ _ rfl rfl _ rfl ?_)))))
    ·have c1:=cont [some (.ref t1)] H5 rfl (Same.refl _);by_cases e:cf d.1 < a2g d.2.1 d.2.2
     ·rw[z02 e] at c1;rw[z07 e];exact nx21 _ rfl t1 _ _ _ rfl rfl (SqT.of ht1) (a0k (j:=0) rfl) c1
     ·rw[z01 e] at c1;rw[z0v e];exact c1
   obtain⟨gl,egl⟩:∃ gl:List Int,ds.filterMap (λ d=>if cf d.1 < a2g d.2.1 d.2.2 then some (V.int d.1) else none)=gl.map V.int/\(∀ n∈gl,∃ d∈ds,d.1=n/\cf n < a2g d.2.1 d.2.2)/\(∀ d∈ds,cf d.1 < a2g d.2.1 d.2.2->d.1∈gl):=by
    refine⟨(ds.filter λ d=>decide (cf d.1 < a2g d.2.1 d.2.2)).map (·.1),?_,λ n hn=>?_,λ d hd hlt=>?_⟩
    ·exact b8b cf ds
    ·obtain⟨d,hd,rfl⟩:=z0a.mp hn;obtain⟨h1,h2⟩:=z22.mp hd;exact⟨d,h1,rfl,z0b h2⟩
    ·exact z0a.mpr ⟨d,z22.mpr ⟨hd,z07 hlt⟩,rfl⟩
   obtain⟨egl,hgl1,hgl2⟩:=egl;rw[egl] at hd2;have hne:0 < gl.length:=by
    rcases z54 gl.length with z | z
    ·exfalso;have e0:=z3h z;have all:∀ d∈ds,a2g d.2.1 d.2.2<=cf d.1:=λ d hd=>by
      rcases Int.lt_or_le (cf d.1) (a2g d.2.1 d.2.2) with y | y
      ·have:=hgl2 d hd y;rw[e0] at this;cases this
      ·exact y
     have:=b2r all;rw[etot,hsum] at this;lia
    ·exact z
   have hne':(0:Int) < ((gl.map V.int).length:Int):=by rw[z03];lia
   have s45:=s4.trans s5;subst hb2';refine a6h λ b2' hb2'=>?_
   refine nx30 _ rfl _ rfl _ rfl _ _ rfl rfl (nx29 a ns _ rfl (s45.seq ha) ⟨by lia,λ cz=> nx12 _ 0 rfl (nx1 _ rfl _ (nx42 _ rfl (.inl ⟨_,SqL.of hd2,rfl⟩) _ _ rfl rfl hne' ?_))⟩);obtain⟨v,hv⟩:=b5j (xs:=gl.map V.int) (z1h (b6b cz 0) (Int.ne_of_gt hne')) (z1o (b6b cz 0) hne');obtain⟨n0,hn0,rfl⟩:=z0a.mp (b0t hv);refine nx8 D2 _ _ _ rfl rfl (SqL.of hd2) hv ?_;obtain⟨d0,hd0,ed0,hlt0⟩:=hgl1 n0 hn0;have hex:∃ d∈ds,d.1=n0:=⟨d0,hd0,ed0⟩;have hg5:=s5 _ _ hg4;have hdg:∀ {HH:Hp},HH g=some (.dK (dkC ds cf))->b1j HH g (.int n0) (some (.int (cf n0))):=λ e=>by
    have:=b1j.k (k:=Sum.inl n0) e;rw[d8g hex] at this;exact this
   subst hb2';refine a6h λ b2' hb2'=>?_
   refine nx43 _ rfl (.inl ⟨rfl,_,SqL.of (s5 _ _ h4)⟩) _ rfl _ rfl (nx19 _ rfl g _ rfl (hdg hg5) (by show 2<=sizeLine;decide) λ t ht2=>?_);have s6:=Same.upd (o:=HO.tup [.int n0,.int (cf n0)]) ht2;have ht6:upd H5 t (.tup [.int n0,.int (cf n0)]) t=some (.tup [.int n0,.int (cf n0)]):=a0c;generalize upd H5 t (.tup [.int n0,.int (cf n0)])=H6 at *;refine nx2 D ys _ rfl rfl (s6 _ _ (s5 _ _ h4)) (by lia) λ H7 h7 k7=>?_;have hg7:=k7 _ _ gD (s6 _ _ hg5);have tD:t≠D:=λ zz=>by rw[zz,s5 _ _ h4] at ht2;cases ht2
   have tg:t≠g:=λ zz=>by rw[zz,hg5] at ht2;cases ht2
   subst hb2';refine nx15 _ rfl _ rfl g _ rfl (hdg hg7) (nx0 _ _ rfl rfl (nx15 _ rfl _ rfl g (upd H7 g (.dK (dkC ds λ m=>if m=n0 then cf n0+1 else cf m))) rfl (.inl (nx7 _ (Sum.inl n0) hg7 rfl ?_ (by rw[d9o hex]))) ?_))
   ·unfold dkC;rw[z03];lia
   have hcn:∀ n,(cnt (os++[(n0,cf n0)]) (os++[(n0,cf n0)]).length n:Int)=if n=n0 then cf n0+1 else cf n:=λ n=>by
    rw[z0r,z1u,c9r]
    push_cast
    rw[hcf];by_cases e:n=n0
    ·rw[z02 e,z02 e.symm,e];rfl
    ·rw[z01 e,z01 (λ z=>e z.symm)];simp
   have hS7:Same H (upd H7 g (.dK (dkC ds λ m=>if m=n0 then cf n0+1 else cf m))):=λ b o eb=>by
    have nb1:b≠g:=λ z=>by rw[z,hg] at eb;cases eb
    have nb2:b≠D:=λ z=>by rw[z,hD0] at eb;cases eb
    rw[a0m nb1];exact k7 _ _ nb2 (s6 _ _ (s45 _ _ eb))
   subst hD';refine nx32 _ _ _ (nx33 _ _ _ (os++[(n0,cf n0)]) rfl hS7 (by rw[a0m gD.symm];exact h7) ?_ ?_ ?_ (by rw[z0r,z1u,hol]) ?_ λ d hd=>?_)
   ·rw[z0m];refine(ht.same λ b o eb=>?_).app (.cons (.tup (d7y.mpr ⟨tg,tD,s45.free ht2,by rw[a0m tg];exact k7 _ _ tD ht6⟩) (.cons (.int _) (.cons (.int _) .nil))) .nil);obtain⟨e1,e2,e3,e4⟩:=d7y.mp eb;exact d7y.mpr ⟨e1,e2,e3,by rw[a0m e1];exact k7 _ _ e2 (s6 _ _ (s5 _ _ e4))⟩
   ·rw[a0c];congr 3;funext n;rw[hcn]
   ·have:=hW.snoc (n:=n0) ⟨d0,hd0,ed0,by rw[hcf];exact hlt0⟩;rw[hcf] at this;exact this
   ·simp only [hcn];rw[c6o g2 hex,hsum];lia
   ·rw[hcn];by_cases e:d.1=n0
    ·rw[z02 e];have:d=d0:=num_inj g2 hd hd0 (e.trans ed0.symm);rw[this];lia
    ·rw[z01 e];exact hle d hd
  ·intro σ H3 hJ';refine b7x λ G' hG'=>?_
   obtain⟨x4,x5,x6,x8,x9,ys,os,rfl,s4,h4,ht,hg4,hW,hol,hsum,hle⟩:=hJ';refine hG' ?_;subst hb';exact⟨_,rfl,q _ H3 os s4 (.lst (a1v hD0 h4) (ht.same λ b o eb=>by obtain⟨_,_,e3,e4⟩:=d7y.mp eb;exact a1v e3 e4)) hW (by lia)⟩
--@STAGE
def skO (L M S:Addr):List (Key×V):=[(Sum.inr "last",.ref L),(Sum.inr "makers",.ref M),(Sum.inr "stood",.ref S)]
structure Sta (H:Hp) (st L M S:Addr) (ms:List Addr) (ls:List Int) (mk:List (List Int)) (skv:List (Key×V)):Prop where
 h0:H st=some (.dK (skO L M S))
 h1:H L=some (.lst (ls.map V.int))
 h2:H M=some (.lst (ms.map V.ref))
 h3:H S=some (.dK skv)
 n1:ls.length=4
 n2:ms.length=4
 n3:mk.length=4
 hm:∀ (j:Nat) (m:Addr) (ns:List Int),ms[j]?=some m->mk[j]?=some ns->H m=some (.lst (ns.map V.int))
 nd:ms.Nodup
 nL:L ∉ ms
 nM:M≠L/\M ∉ ms
theorem Sta.same {H H':Hp} {st L M S:Addr} {ms:List Addr} {ls:List Int} {mk:List (List Int)} {skv:List (Key×V)} (h:Sta H st L M S ms ls mk skv) (s:Same H H'):Sta H' st L M S ms ls mk skv :=
 ⟨s _ _ h.h0,s _ _ h.h1,s _ _ h.h2,s _ _ h.h3,h.n1,h.n2,h.n3,λ j m ns e1 e2=>s _ _ (h.hm j m ns e1 e2),h.nd,h.nL,h.nM⟩
theorem d9f (L M S:Addr):a6i (skO L M S) (Sum.inr "last":Key)=some (.ref L):=by
 unfold a6i skO;rw[z1t];simp
theorem c2e (L M S:Addr):a6i (skO L M S) (Sum.inr "makers":Key)=some (.ref M):=by
 have e1:decide ((Sum.inr "last":Key)=(Sum.inr "makers":Key))=false:=by decide +kernel
 unfold a6i skO;rw[z1t];dsimp only;rw[e1];dsimp only;rw[z1t];simp
theorem d4h (L M S:Addr):a6i (skO L M S) (Sum.inr "stood":Key)=some (.ref S):=by
 have e1:decide ((Sum.inr "last":Key)=(Sum.inr "stood":Key))=false:=by decide +kernel
 have e2:decide ((Sum.inr "makers":Key)=(Sum.inr "stood":Key))=false:=by decide +kernel
 unfold a6i skO;rw[z1t];dsimp only;rw[e1];dsimp only;rw[z1t];dsimp only;rw[e2];dsimp only;rw[z1t];simp
theorem Sta.last {H:Hp} {st L M S:Addr} {ms:List Addr} {ls:List Int} {mk:List (List Int)} {skv:List (Key×V)} (h:Sta H st L M S ms ls mk skv):b1j H st (.str "last") (some (.ref L)):=by
 have:=b1j.k (k:=Sum.inr "last") h.h0;rw[d9f] at this;exact this
theorem Sta.makers {H:Hp} {st L M S:Addr} {ms:List Addr} {ls:List Int} {mk:List (List Int)} {skv:List (Key×V)} (h:Sta H st L M S ms ls mk skv):b1j H st (.str "makers") (some (.ref M)):=by
 have:=b1j.k (k:=Sum.inr "makers") h.h0;rw[c2e] at this;exact this
theorem Sta.stood {H:Hp} {st L M S:Addr} {ms:List Addr} {ls:List Int} {mk:List (List Int)} {skv:List (Key×V)} (h:Sta H st L M S ms ls mk skv):b1j H st (.str "stood") (some (.ref S)):=by
 have:=b1j.k (k:=Sum.inr "stood") h.h0;rw[d4h] at this;exact this
theorem Sta.turn {H H4 H5:Hp} {st L M S m:Addr} {ms:List Addr} {ls ns:List Int} {mk:List (List Int)} {skv:List (Key×V)} (h:Sta H st L M S ms ls mk skv) {i:Nat} {n:Int} (em:ms[i]?=some m) (en:mk[i]?=some ns)
  (h4:H4 L=some (.lst ((ls.map V.int).set i (.int n)))) (k4:∀ b o,b≠L->H b=some o->H4 b=some o) (h5:H5 m=some (.lst (ns.map V.int++[.int n]))) (k5:∀ b o,b≠m->H4 b=some o->H5 b=some o) :
  Sta H5 st L M S ms (ls.set i n) (mk.set i (ns++[n])) skv:=by
 have hmm:m∈ms:=z0h em;have mL:m≠L:=λ z=>h.nL (z ▸ hmm)
 have lst_ne:∀ b kv,H b=some (.dK kv)->b≠L/\b≠m:=λ b kv e=>⟨λ z=>(by rw[z,h.h1] at e;cases e),λ z=>(by rw[z,h.hm i m ns em en] at e;cases e)⟩
 obtain⟨a1,a2⟩:=lst_ne _ _ h.h0;obtain⟨b1,b2⟩:=lst_ne _ _ h.h3;refine⟨k5 _ _ a2 (k4 _ _ a1 h.h0),?_,k5 _ _ (λ z=>h.nM.2 (z ▸ hmm)) (k4 _ _ h.nM.1 h.h2),k5 _ _ b2 (k4 _ _ b1 h.h3),by rw[z3q];exact h.n1,h.n2,by rw[z3q];exact h.n3,λ j m' ns' e1 e2=>?_,h.nd,h.nL,h.nM⟩
 ·rw[z3x];exact k5 _ _ mL.symm h4
 ·by_cases e:j=i
  ·subst e;rw[em] at e1;cases e1;obtain⟨hj,_⟩:=z0i.mp en;rw[z34 hj] at e2;cases e2;rw[z0m];exact h5
  ·rw[z2q (λ z=>e z.symm)] at e2;have nm:m'≠m:=λ z=>by
    obtain⟨hj,ej⟩:=z0i.mp e1;obtain⟨hi,ei⟩:=z0i.mp em;exact e ((List.getElem_inj h.nd).mp (ej.trans (z.trans ei.symm)))
   have nL':m'≠L:=λ z=>h.nL (z ▸ z0h e1)
   exact k5 _ _ nm (k4 _ _ nL' (h.hm j m' ns' e1 e2))
def c1w (n:Int) (ls ls':List Int) (mk mk':List (List Int)) (j:Nat):Prop:=(ls'[j]?=ls[j]?/\mk'[j]?=mk[j]?)\/(ls'[j]?=some n/\∃ ns,mk[j]?=some ns/\mk'[j]?=some (ns++[n]))
def e4v:Sp:=λ vs H Q _=>∃ (st L M S so:Addr) (ms:List Addr) (ls sl:List Int) (mk:List (List Int)) (skv:List (Key×V)) (n mask:Int) (w:Str),vs=[.int n,.str w,.int mask,.ref st]/\Sta H st L M S ms ls mk skv/\a6i skv (Sum.inl n)=some (.ref so)/\H so=some (.lst (sl.map V.int))/\sl.length=4/\so≠L/\so ∉ ms/\(∀ ns∈mk,ns.length<=100) /\
 ∀ H' ls' mk',Sta H' st L M S ms ls' mk' skv->(∀ b o,b≠L->b ∉ ms->H b=some o->H' b=some o)->(∀ j,j < 4->c1w n ls ls' mk mk' j)->Q .non H'
theorem d4s (T:Tx K mg):T.c4l.Ok P w base 1 e4v:=by
 refine okF T.c4l.F c6n λ _ _ _ _ H _ _ _ hr h=>?_
 ·obtain⟨st,L,M,S,so,ms,ls,sl,mk,skv,n,mask,wd,rfl,hS,hso,hsl,l4,nso1,nso2,hmk,q⟩:=h;have hu:=c8a hr;refine⟨_,(a0f (a2r z11 rfl (a2z rfl T.a4e (a0a a0e a0b)) (pgm 4 c6n.nd)
   (a0f (a1g (PW.pt (b2b (a0i a2j (a0l a2h (a0l a4g (pv 2) (pix a1e (a1l (a0a a0e (a0a a0e (a0a a0e (a0a a0e a0b))))) (pv 4))) a0e) a0e (a0o _)) (a8e (a0i a2j (pix a1e (a3u hu (a3u hu (pv 3) a0j (λ _ _=>rfl)) (pv 0) (λ _ _=>rfl)) (pv 4)) (pix a1e (a3u hu (pv 3) a0j (λ _ _=>rfl)) (pv 4)) (a0o _)))))
   (a0d (b3b (pv 0) (c2g (a3u hu (pv 3) a0j (λ _ _=>rfl)) (pv 4) a9h))
   (a0f (a3i (a2l z1w z23 z20 a2f (pix a1e (a3u hu (pv 3) a0j (λ _ _=>rfl)) (pv 4)) (a0a (pv 0) a0b)))))
   a0n)))),?_⟩
  refine⟨4,rfl,by decide,by decide,a3h (lo:=0) (n:=4) (λ i σ H2=>∃ (x4:Option V) (ls':List Int) (mk':List (List Int)),σ=[some (.int n),some (.str wd),some (.int mask),some (.ref st),x4]/\Sta H2 st L M S ms ls' mk' skv/\(∀ b o,b≠L->b ∉ ms->H b=some o->H2 b=some o)/\(∀ j,j < i->c1w n ls ls' mk mk' j)/\(∀ j,i<=j->ls'[j]?=ls[j]?/\mk'[j]?=mk[j]?))
   (nx2 none ls mk rfl hS (λ _ _ _ _ e=>e) (λ j h=>absurd h (Nat.not_lt_zero _)) λ _ _=>⟨rfl,rfl⟩) ?_ ?_⟩
  ·rintro i σ H2 hi ⟨x4,ls',mk',rfl,hS2,k2,ht,hn⟩;have ai:(0+(i:Int))=((i:Nat):Int):=by lia
   have hz:∃ z:Int,0 < z/\z < 1073741824/\atI [V.int 1,.int 2,.int 4,.int 8] (0+(i:Int))=some (.int z):=by
    have:i=0\/i=1\/i=2\/i=3:=by lia
    rcases this with rfl | rfl | rfl | rfl
    ·exact⟨1,by decide,by decide,a2d 0 rfl rfl⟩
    ·exact⟨2,by decide,by decide,a2d 1 rfl rfl⟩
    ·exact⟨4,by decide,by decide,a2d 2 rfl rfl⟩
    ·exact⟨8,by decide,by decide,a2d 3 rfl rfl⟩
   obtain⟨z,z0,z1,hz⟩:=hz;have stay:∀ H3 (x:Option V),Same H2 H3->∃ (x4:Option V) (ls':List Int) (mk':List (List Int)),[some (.int n),some (.str wd),some (.int mask),some (.ref st),x]=[some (.int n),some (.str wd),some (.int mask),some (.ref st),x4]/\Sta H3 st L M S ms ls' mk' skv/\(∀ b o,b≠L->b ∉ ms->H b=some o->H3 b=some o)/\(∀ j,j < i+1->c1w n ls ls' mk mk' j)/\(∀ j,i+1<=j->ls'[j]?=ls[j]?/\mk'[j]?=mk[j]?):=λ H3 x s3 =>
    nx2 x ls' mk' rfl (hS2.same s3) (λ b o b1 b2 e=>s3 _ _ (k2 b o b1 b2 e)) (λ j hj=>by
     rcases Nat.lt_or_ge j i with y | y
     ·exact ht j y
     ·exact .inl (hn j y)) λ j hj=>hn j (by lia)
   refine b3g λ D' hD'=>?_
   refine⟨_,rfl,(by show 4<=sizeLine;decide),λ p hp=> nx21 _ rfl p _ _ _ rfl rfl (SqL.of a0c) hz (nx7 _ _ rfl rfl ⟨z0,z1⟩ (nx14 _ _ rfl rfl (by show (0:Int) < 2;decide) rfl _ rfl ?_))⟩;have s3:=Same.upd (o:=HO.lst [.int 1,.int 2,.int 4,.int 8]) hp;generalize upd H2 p (.lst [.int 1,.int 2,.int 4,.int 8])=H3 at *;refine a3o (λ e=>?_) (λ e=>by subst hD';exact stay H3 _ s3);have hS3:=hS2.same s3;have hso3:H3 so=some (.lst (sl.map V.int)):=s3 _ _ (k2 _ _ nso1 nso2 hsl);have es:sl[i]?=some sl[i]:=z0c (by lia);have el:ls'[i]?=some (ls'[i]'(by rw[hS3.n1];exact hi)):=z0c _;have em:ms[i]?=some (ms[i]'(by rw[hS3.n2];exact hi)):=z0c _;have en:mk'[i]?=some (mk'[i]'(by rw[hS3.n3];exact hi)):=z0c _;have hg:b1j H3 S (.int n) (some (.ref so)):=by
    have:=b1j.k (k:=Sum.inl n) hS3.h3;rw[hso] at this;exact this
   refine nx5 _ rfl st _ rfl hS3.stood (nx5 _ rfl S _ rfl hg (nx21 _ rfl so _ _ _ rfl rfl (SqL.of hso3) (a2d i ai (by rw[z0f,es];rfl)) (nx23 _ rfl st _ rfl hS3.last _ rfl (nx24 L _ _ _ rfl rfl (SqL.of hS3.h1) (a2d i ai (by rw[z0f,el];rfl)) rfl ⟨_,rfl,a3o (λ f=>?_) (λ f=>by subst hD';exact stay H3 _ s3)⟩))));have ixn:ixN (ls'.map V.int).length (0+(i:Int))=some i:=by
    unfold ixN;rw[z03,hS3.n1,z02 (by lia),z02 (by lia)];congr 1;lia
   refine nx15 _ rfl _ rfl st _ rfl hS3.last (nx21 _ rfl L _ _ i rfl rfl hS3.h1 ixn λ H4 h4 k4=>?_);have hmm:ms[i]'(by rw[hS3.n2];exact hi)∈ms:=z1k _;have mL:ms[i]'(by rw[hS3.n2];exact hi)≠L:=λ y=>hS3.nL (y ▸ hmm)
   have hm4:=k4 _ _ mL (hS3.hm i _ _ em en);have st4:b1j H4 st (.str "makers") (some (.ref M)):=by
    have stL:st≠L:=λ y=>by have:=hS3.h0;rw[y,hS3.h1] at this;cases this
    have:=b1j.k (k:=Sum.inr "makers") (k4 _ _ stL hS3.h0);rw[c2e] at this;exact this
   have hl100:(mk'[i]'(by rw[hS3.n3];exact hi)).length<=100:=by
    have h1:=(hn i (z04 _)).2;rw[en] at h1;exact hmk _ (z0h h1.symm)
   have z101:(101:Nat)<=sizeLine:=by decide
   refine nx5 _ rfl st _ rfl st4 (nx40 _ rfl M _ _ (.ref (ms[i]'(by rw[hS3.n2];exact hi))) rfl rfl (SqL.of (k4 _ _ hS3.nM.1 hS3.h2)) (a2d i ai (by rw[z0f,em];rfl)) (.inl ⟨rfl,_,SqL.of hm4⟩) (nx1 _ rfl _ (nx25 _ _ rfl rfl hm4 (by rw[z03];lia) λ H5 h5 k5=>?_)));subst hD';refine nx2 _ _ _ rfl (hS3.turn em en h4 k4 h5 k5) (λ b o b1 b2 eb=>k5 _ _ (λ y=>b2 (y ▸ hmm)) (k4 _ _ b1 (s3 _ _ (k2 _ _ b1 b2 eb)))) (λ j hj=>?_) λ j hj=>?_
   ·rcases Nat.lt_or_ge j i with y | y
    ·have h1:(ls'.set i n)[j]?=ls'[j]?:=z2q (by lia);have h2:(mk'.set i ((mk'[i]'(by rw[hS3.n3];exact hi))++[n]))[j]?=mk'[j]?:=z2q (by lia);unfold c1w;rw[h1,h2];exact ht j y
    ·have ej:j=i:=by lia
     subst ej;refine .inr ⟨z34 (by rw[hS3.n1];exact hi),_,(hn j (z04 _)).2.symm.trans en,z34 (by rw[hS3.n3];exact hi)⟩
   ·rw[z2q (by lia),z2q (by lia)];exact hn j (by lia)
  ·rintro σ H2 ⟨x4,ls',mk',rfl,hS2,k2,ht,hn⟩;exact q H2 ls' mk' hS2 k2 ht
--@STAGE
--@STAGE
def lkB (d:Drn) (c:Int):Int:=if d.2.1="kept" then min c d.2.2 else if c<=0 then 0 else d.2.2
def c4w (d:Drn) (g:Int) (i:Nat):Int:=if d.2.1="kept" then (if g < (i:Int) then 1 else 0) else if g=0 then (i:Int) else 0
theorem e0p {d:Drn} {g:Int} {i:Nat} (h:c0r d.2.1 (0+(i:Int))=g):c4w d g i+1<=c4w d g (i+1):=by
 unfold c0r at h;unfold c4w;by_cases e:d.2.1="kept"
 ·rw[z02 e] at h;rw[z02 e,z02 e,z01 (by lia),z02 (by lia)];lia
 ·rw[z01 e] at h;rw[z01 e,z01 e,z02 h.symm,z02 h.symm]
  push_cast
  lia
theorem d2l {d:Drn} {g:Int} {i:Nat}:c4w d g i<=c4w d g (i+1):=by
 unfold c4w;split
 ·split<;>split<;>lia
 ·split<;>push_cast<;>lia
theorem d7c {d:Drn} {g:Int} (h0:0<=d.2.2) (hg:0<=g):lkB d g+c4w d g d.2.2.toNat<=lkB d (g+1):=by
 unfold lkB c4w;by_cases e:d.2.1="kept"
 ·rw[z02 e,z02 e,z02 e];split<;>lia
 ·rw[z01 e,z01 e,z01 e];by_cases z:g=0
  ·rw[z02 (by lia),z02 z,z01 (by lia)];lia
  ·rw[z01 (by lia),z01 z,z01 (by lia)];lia
theorem c2s {d:Drn} {g:Int} (i:Nat):0<=c4w d g i:=by
 unfold c4w;split
 ·split<;>lia
 ·split<;>lia
theorem c5l {w:Str} {l:Int} (h:0<=l):0<=a5c w l/\a5c w l<=a2g w l - 1:=by
 unfold a5c a2g;split
 ·lia
 ·split<;>lia
theorem d4g {os:List Pr} {j:Nat} {n g:Int} (e:os[j]?=some (n,g)) (m:Int):(cnt os (j+1) m:Int)=cnt os j m+(if n=m then 1 else 0):=by
 unfold cnt;rw[z1m,e,z58,z0r];by_cases h:n=m
 ·rw[z02 h];have:(n == m)=true:=by simpa using h
  simp[this]
 ·rw[z01 h];have:(n == m)=false:=by simpa using h
  simp[this]
theorem d7r {d:Drn} {c:Int} (h0:0<=d.2.2):lkB d c<=d.2.2:=by
 unfold lkB;split
 ·lia
 ·split<;>lia
structure Fx (ds:List Drn) (ks:List Int) (H0:Hp) (Sa:Int->Addr) (st L M S:Addr) (ms:List Addr):Prop where
 up:(ds.map (·.1)).Pairwise (· < ·)
 n4:ks.length=4
 hL:∃ xs,H0 L=some (.lst xs)
 hms:∀ m∈ms,∃ xs,H0 m=some (.lst xs)
 hS:∃ kv,H0 S=some (.dK kv)
 hSa:∀ d∈ds,∃ xs,H0 (Sa d.1)=some (.lst xs)
 inj:∀ d∈ds,∀ e∈ds,Sa d.1=Sa e.1->d.1=e.1
 sep:∀ d∈ds,Sa d.1≠L/\Sa d.1 ∉ ms/\Sa d.1≠M
 sS:st≠S
structure PSt (ds:List Drn) (ks:List Int) (H0:Hp) (Sa:Int->Addr) (st L M S:Addr) (ms:List Addr) (c:Int->Int) (fb:Drn->Int) (N:Nat) (H2:Hp) (ls:List Int) (mk:List (List Int)) (skv:List (Key×V)) (xs:Int->List V) (lk:Int->List Lk) (fp:Int->List Addr):Prop where
 sta:Sta H2 st L M S ms ls mk skv
 fr:∀ b o,H0 b=some o->b≠L->b ∉ ms->b≠S->(∀ d∈ds,b≠Sa d.1)->H2 b=some o
 dom:∀ b,H2 b=none->H0 b=none
 seen:∀ d∈ds,H2 (Sa d.1)=some (.lst (xs d.1))/\TFs H2 (xs d.1) ((lk d.1).map a4k) (fp d.1)/\(fp d.1).Nodup/\∀ b∈fp d.1,H0 b=none
 stood:∀ d∈ds,a5c d.2.1 d.2.2 < c d.1->∃ (so:Addr) (sl:List Int),a6i skv (Sum.inl d.1)=some (.ref so)/\off H0 H2 so=some (.lst (sl.map V.int))/\sl.length=4
 slen:skv.length<=N
 few:∀ d∈ds,((lk d.1).length:Int)<=fb d
 lks:∀ d∈ds,∀ l∈lk d.1,(l.map (·.1)).Pairwise (· < ·)/\l.length<=4/\∀ x∈l,∃ i:Nat,i < 4/\ks[i]?=some x.1/\(x.2=-1\/x.2=0\/(x.2≠d.1/\∃ ns,mk[i]?=some ns/\x.2∈ns))
 mks:∀ ns∈mk,ns.Nodup/\∀ n∈ns,∃ d∈ds,d.1=n/\c n=a2g d.2.1 d.2.2
 lst:∀ (i:Nat) (v:Int),ls[i]?=some v->v=0\/∃ ns,mk[i]?=some ns/\v∈ns
 mlen:∀ ns∈mk,ns.length<=N
 dis:∀ d∈ds,∀ e∈ds,d.1≠e.1->∀ b∈fp d.1,b ∉ fp e.1
theorem c3s (kvs:List (Key×V)) (k:Key) (v:V):(a6s kvs k v).length<=kvs.length+1:=by
 unfold a6s;split
 ·rw[z03];lia
 ·rw[z0r,z1u];lia
section
variable {ds:List Drn} {ks:List Int} {H0 H2 H3 H4:Hp} {Sa:Int->Addr} {st L M S:Addr} {ms:List Addr} {c:Int->Int} {fb:Drn->Int} {N:Nat} {ls:List Int} {mk:List (List Int)} {skv:List (Key×V)} {xs:Int->List V} {lk:Int->List Lk} {fp:Int->List Addr}
theorem PSt.same (h:PSt ds ks H0 Sa st L M S ms c fb N H2 ls mk skv xs lk fp) (s:Same H2 H3):PSt ds ks H0 Sa st L M S ms c fb N H3 ls mk skv xs lk fp :=
 ⟨h.sta.same s,λ b o e b1 b2 b3 b4=>s _ _ (h.fr b o e b1 b2 b3 b4),λ b e=>h.dom b (s.free e),λ d hd=>⟨s _ _ (h.seen d hd).1,(h.seen d hd).2.1.same s,(h.seen d hd).2.2⟩,
  λ d hd hc=>by obtain⟨so,sl,e1,e2,e3⟩:=h.stood d hd hc;exact nx0 so sl e1 (a3d s _ _ e2) e3,h.slen,h.few,h.lks,h.mks,h.lst,h.mlen,h.dis⟩
theorem PSt.tup (F:Fx ds ks H0 Sa st L M S ms) (h:PSt ds ks H0 Sa st L M S ms c fb N H2 ls mk skv xs lk fp) {b:Addr} {ys:List V} (e:H0 b=some (.tup ys)):H2 b=some (.tup ys):=by
 obtain⟨x1,e1⟩:=F.hL;obtain⟨x3,e3⟩:=F.hS;refine h.fr b _ e (λ z=>by rw[z,e1] at e;cases e) (λ z=>by obtain⟨x2,e2⟩:=F.hms b z;rw[e2] at e;cases e) (λ z=>by rw[z,e3] at e;cases e) λ d hd z=>?_
 obtain⟨x4,e4⟩:=F.hSa d hd;rw[z,e4] at e;cases e
theorem PSt.dict (F:Fx ds ks H0 Sa st L M S ms) (h:PSt ds ks H0 Sa st L M S ms c fb N H2 ls mk skv xs lk fp) {b:Addr} {kv:List (Key×V)} (e:H0 b=some (.dK kv)) (n:b≠S):H2 b=some (.dK kv):=by
 obtain⟨x1,e1⟩:=F.hL;refine h.fr b _ e (λ z=>by rw[z,e1] at e;cases e) (λ z=>by obtain⟨x2,e2⟩:=F.hms b z;rw[e2] at e;cases e) n λ d hd z=>?_
 obtain⟨x4,e4⟩:=F.hSa d hd;rw[z,e4] at e;cases e
theorem PSt.keep (F:Fx ds ks H0 Sa st L M S ms) (h:PSt ds ks H0 Sa st L M S ms c fb N H2 ls mk skv xs lk fp) {d:Drn} (hd:d∈ds) {ls':List Int} {mk':List (List Int)} (hS:Sta H3 st L M S ms ls' mk' skv) (k:∀ b o,b≠L->b ∉ ms->H2 b=some o->H3 b=some o) (tn:∀ j,j < 4->c1w d.1 ls ls' mk mk' j) (hn:∀ ns∈mk,d.1 ∉ ns) (hc:c d.1=a2g d.2.1 d.2.2) (hml:∀ ns∈mk,ns.length < N) :
  PSt ds ks H0 Sa st L M S ms c fb N H3 ls' mk' skv xs lk fp:=by
 obtain⟨x1,e1⟩:=F.hL;have ne:∀ b,H0 b=none->b≠L/\b ∉ ms:=λ b e=>⟨λ z=>(by rw[z,e1] at e;cases e),λ z=>(by obtain⟨x2,e2⟩:=F.hms b z;rw[e2] at e;cases e)⟩
 have so:Same (off H0 H2) (off H0 H3):=λ b o e=>a1v (a1b e).1 (k _ _ (ne b (a1b e).1).1 (ne b (a1b e).1).2 (a1b e).2)
 have grow:∀ (i:Nat) (ns:List Int),mk[i]?=some ns->∃ ns',mk'[i]?=some ns'/\∀ x∈ns,x∈ns':=λ i ns e=>by
  have hi:i < 4:=by rw[<-h.sta.n3];exact(z0i.mp e).1
  rcases tn i hi with ⟨_,q⟩ | ⟨_,ns2,q1,q2⟩
  ·exact⟨ns,q.trans e,λ x hx=>hx⟩
  ·rw[e] at q1;cases q1;exact⟨_,q2,λ x hx=>z19 _ hx⟩
 refine⟨hS,λ b o e b1 b2 b3 b4=>k _ _ b1 b2 (h.fr b o e b1 b2 b3 b4),λ b e=>?_,λ e he=>⟨k _ _ (F.sep e he).1 (F.sep e he).2.1 (h.seen e he).1,(h.seen e he).2.1.fr (λ b hb o eb=>k _ _ (ne b ((h.seen e he).2.2.2 b hb)).1 (ne b ((h.seen e he).2.2.2 b hb)).2 eb),(h.seen e he).2.2⟩,λ e he hc'=>?_,h.slen,h.few,λ e he l hl=>?_,λ ns hns=>?_,λ i v hv=>?_,λ ns hns=>?_,h.dis⟩
 ·cases q:H2 b with
  | none=>exact h.dom b q
  | some o =>
   exfalso;by_cases z:b=L
   ·rw[z,hS.h1] at e;cases e
   ·by_cases z2:b∈ms
    ·obtain⟨j,hj,ej⟩:=z1s z2;have hj4:j < mk'.length:=by rw[hS.n3,<-hS.n2];exact hj
     rw[hS.hm j b mk'[j] (by rw[z0c hj,ej]) (z0c hj4)] at e;cases e
    ·rw[k _ _ z z2 q] at e;cases e
 ·obtain⟨so',sl,q1,q2,q3⟩:=h.stood e he hc';exact nx0 so' sl q1 (so _ _ q2) q3
 ·obtain⟨q1,q2,q3⟩:=h.lks e he l hl;refine⟨q1,q2,λ x hx=>?_⟩;obtain⟨i,hi,r1,r2⟩:=q3 x hx;refine⟨i,hi,r1,?_⟩;rcases r2 with r2 | r2 | ⟨r2,ns,r3,r4⟩
  ·exact .inl r2
  ·exact .inr (.inl r2)
  ·obtain⟨ns',g1,g2⟩:=grow i ns r3;exact .inr (.inr ⟨r2,ns',g1,g2 _ r4⟩)
 ·obtain⟨j,hj,ej⟩:=z1s hns;have hj4:j < 4:=by rw[<-hS.n3];exact hj
  have ej':mk'[j]?=some ns:=by rw[z0c hj,ej]
  rcases tn j hj4 with ⟨_,q⟩ | ⟨_,ns2,q1,q2⟩
  ·exact h.mks ns (z0h (q.symm.trans ej'))
  ·rw[ej'] at q2;cases q2;have hm2:=z0h q1;refine⟨?_,λ n hn'=>?_⟩
   ·rw[z44];refine⟨(h.mks ns2 hm2).1,z36 _ _,λ x hx y hy=>?_⟩;rw[z0o.mp hy];exact λ z=>hn ns2 hm2 (z ▸ hx)
   ·rcases z08.mp hn' with y | y
    ·exact(h.mks ns2 hm2).2 n y
    ·rw[z0o.mp y];exact⟨d,hd,rfl,hc⟩
 ·have hi:i < 4:=by rw[<-hS.n1];exact(z0i.mp hv).1
  rcases tn i hi with ⟨q,q'⟩ | ⟨q,ns2,q1,q2⟩
  ·rcases h.lst i v (q.symm.trans hv) with y | ⟨ns,y1,y2⟩
   ·exact .inl y
   ·exact .inr ⟨ns,q'.trans y1,y2⟩
  ·rw[hv] at q;cases q;exact .inr ⟨_,q2,z0u _ z0g⟩
 ·obtain⟨j,hj,ej⟩:=z1s hns;have hj4:j < 4:=by rw[<-hS.n3];exact hj
  have ej':mk'[j]?=some ns:=by rw[z0c hj,ej]
  rcases tn j hj4 with ⟨_,q⟩ | ⟨_,ns2,q1,q2⟩
  ·exact h.mlen ns (z0h (q.symm.trans ej'))
  ·rw[ej'] at q2;cases q2;have:=hml ns2 (z0h q1);rw[z0r,z1u];lia
theorem PSt.count (h:PSt ds ks H0 Sa st L M S ms c fb N H2 ls mk skv xs lk fp) {c':Int->Int} {fb':Drn->Int} {N':Nat} (hN:N<=N') (h1:∀ d∈ds,a5c d.2.1 d.2.2 < c' d.1->a5c d.2.1 d.2.2 < c d.1) (h2:∀ d∈ds,fb d<=fb' d) (h3:∀ ns∈mk,∀ n∈ns,c' n=c n):PSt ds ks H0 Sa st L M S ms c' fb' N' H2 ls mk skv xs lk fp :=
 ⟨h.sta,h.fr,h.dom,h.seen,λ d hd hc=>h.stood d hd (h1 d hd hc),z0s h.slen hN,λ d hd=>Int.le_trans (h.few d hd) (h2 d hd),h.lks,
  λ ns hns=>⟨(h.mks ns hns).1,λ n hn=>by obtain⟨d,hd,e1,e2⟩:=(h.mks ns hns).2 n hn;exact⟨d,hd,e1,by rw[h3 ns hns n hn];exact e2⟩⟩,h.lst,λ ns hns=>z0s (h.mlen ns hns) hN,h.dis⟩
theorem PSt.look (F:Fx ds ks H0 Sa st L M S ms) (h:PSt ds ks H0 Sa st L M S ms c fb N H2 ls mk skv xs lk fp) {d:Drn} (hd:d∈ds) {v:V} {l:Lk} {f:List Addr} (s3:Same H2 H3) (tf:TF H3 v (a4k l) f) (nf:f.Nodup) (ff:∀ b∈f,H2 b=none) (lo:d8l ks ls l)
  (h4:H4 (Sa d.1)=some (.lst (xs d.1++[v]))) (k4:∀ b o,b≠Sa d.1->H3 b=some o->H4 b=some o) (hn:∀ ns∈mk,d.1 ∉ ns) {fb':Drn->Int} (hf1:fb d+1<=fb' d) (hf2:∀ e∈ds,e.1≠d.1->fb e<=fb' e) :
  PSt ds ks H0 Sa st L M S ms c fb' N H4 ls mk skv (λ n=>if n=d.1 then xs n++[v] else xs n) (λ n=>if n=d.1 then lk n++[l] else lk n) (λ n=>if n=d.1 then fp n++f else fp n):=by
 have h3:=h.same s3;obtain⟨xs0,hxs0⟩:=F.hSa d hd;have hl3:=(h3.seen d hd).1;have ne:∀ b,H0 b=none->b≠Sa d.1:=λ b e z=>by rw[z,hxs0] at e;cases e
 have so:Same (off H0 H3) (off H0 H4):=λ b o e=>a1v (a1b e).1 (k4 _ _ (ne b (a1b e).1) (a1b e).2)
 have dict_ne:∀ b kv,H3 b=some (.dK kv)->b≠Sa d.1:=λ b kv e z=>by rw[z,hl3] at e;cases e
 obtain⟨p1,p2,p3⟩:=F.sep d hd;have hb0:=h3.sta.h0;refine⟨⟨k4 _ _ (dict_ne _ _ hb0) hb0,k4 _ _ p1.symm h3.sta.h1,k4 _ _ p3.symm h3.sta.h2,k4 _ _ (dict_ne _ _ h3.sta.h3) h3.sta.h3,h3.sta.n1,h3.sta.n2,h3.sta.n3,λ j m ns e1 e2=>k4 _ _ (λ z=>p2 (z ▸ z0h e1)) (h3.sta.hm j m ns e1 e2),h3.sta.nd,h3.sta.nL,h3.sta.nM⟩,
  λ b o e b1 b2 b3 b4=>k4 _ _ (b4 d hd) (h3.fr b o e b1 b2 b3 b4),λ b e=>h3.dom b ?_,λ e he=>?_,λ e he hc=>?_,h3.slen,λ e he=>?_,λ e he=>?_,h3.mks,h3.lst,h3.mlen,λ e1 he1 e2 he2 ne12 b hb hb2=>?_⟩
 ·cases q:H3 b with
  | none=>rfl
  | some o =>
   by_cases z:b=Sa d.1
   ·rw[z,h4] at e;cases e
   ·rw[k4 _ _ z q] at e;cases e
 ·by_cases z:e.1=d.1
  ·have:e=d:=num_inj F.up he hd z;subst this;refine⟨?_,?_,?_,?_⟩
   ·rw[z02 rfl];exact h4
   ·rw[z02 rfl,z02 rfl,z02 rfl,z0m];exact((h3.seen e he).2.1.fr λ b hb o eb=>k4 _ _ (ne b ((h3.seen e he).2.2.2 b hb)) eb).app (TFs.one (tf.fr λ b hb o eb=>k4 _ _ (ne b (h.dom b (ff b hb))) eb))
   ·rw[z02 rfl];exact nd2.mpr ⟨(h.seen e he).2.2.1,nf,λ x hx=>(h.seen e he).2.1.not (ff x hx)⟩
   ·rw[z02 rfl];intro b hb;rcases z08.mp hb with y | y
    ·exact(h.seen e he).2.2.2 b y
    ·exact h.dom b (ff b y)
  ·rw[z01 z,z01 z,z01 z];exact⟨k4 _ _ (λ y=>z (F.inj e he d hd y)) (h3.seen e he).1,(h3.seen e he).2.1.fr (λ b hb o eb=>k4 _ _ (ne b ((h3.seen e he).2.2.2 b hb)) eb),(h3.seen e he).2.2⟩
 ·obtain⟨so',sl,e1,e2,e3⟩:=h3.stood e he hc;exact nx0 so' sl e1 (so _ _ e2) e3
 ·by_cases z:e.1=d.1
  ·have:e=d:=num_inj F.up he hd z;subst this;rw[z02 rfl,z0r,z1u];have:=h3.few e he
   push_cast
   lia
  ·rw[z01 z];exact Int.le_trans (h3.few e he) (hf2 e he z)
 ·by_cases z:e.1=d.1
  ·rw[z02 z];intro l' hl';rcases z08.mp hl' with y | y
   ·exact h3.lks e he l' y
   ·rw[z0o.mp y];refine⟨lo.1,lo.2.1,λ x hx=>?_⟩;obtain⟨i,hi,e1,e2⟩:=lo.2.2 x hx;refine⟨i,hi,e1,?_⟩;rcases e2 with e2 | e2
    ·exact .inl e2
    ·rcases h.lst i x.2 e2 with g | ⟨ns,g1,g2⟩
     ·exact .inr (.inl g)
     ·exact .inr (.inr ⟨λ w=>hn ns (z0h g1) (by rw[<-z,<-w];exact g2),ns,g1,g2⟩)
  ·rw[z01 z];exact h3.lks e he
 ·have key:∀ {e:Drn},e∈ds->b∈(if e.1=d.1 then fp e.1++f else fp e.1)->b∈fp e.1\/(e.1=d.1/\b∈f):=λ {e} he hb=>by
   by_cases z:e.1=d.1
   ·rw[z02 z] at hb;exact(z08.mp hb).imp id λ y=>⟨z,y⟩
   ·rw[z01 z] at hb;exact .inl hb
  rcases key he1 hb with y | ⟨y1,y⟩
  ·rcases key he2 hb2 with x | ⟨x1,x⟩
   ·exact h.dis e1 he1 e2 he2 ne12 b y x
   ·exact(h.seen e1 he1).2.1.not (ff b x) y
  ·rcases key he2 hb2 with x | ⟨x1,x⟩
   ·exact(h.seen e2 he2).2.1.not (ff b y) x
   ·exact ne12 (y1.trans x1.symm)
theorem PSt.stand (F:Fx ds ks H0 Sa st L M S ms) (h:PSt ds ks H0 Sa st L M S ms c fb N H2 ls mk skv xs lk fp) {d:Drn} (hd:d∈ds) {so:Addr} (s3:Same H2 H3) (hso0:H2 so=none) (hso:H3 so=some (.lst (ls.map V.int))) {c':Int->Int} (h1:∀ e∈ds,a5c e.2.1 e.2.2 < c' e.1->e.1=d.1\/a5c e.2.1 e.2.2 < c e.1) (h3':∀ ns∈mk,∀ n∈ns,c' n=c n) :
  PSt ds ks H0 Sa st L M S ms c' fb (N+1) (upd H3 S (.dK (a6s skv (Sum.inl d.1) (.ref so)))) ls mk (a6s skv (Sum.inl d.1) (.ref so)) xs lk fp:=by
 have h3:=h.same s3;obtain⟨oS,hS0⟩:=F.hS;have hS3:=h3.sta.h3;have ne:∀ b,H0 b=none->b≠S:=λ b e z=>by rw[z,hS0] at e;cases e
 have soo:Same (off H0 H3) (off H0 (upd H3 S (.dK (a6s skv (Sum.inl d.1) (.ref so))))):=λ b o e=>a1v (a1b e).1 (by rw[a0m (ne b (a1b e).1)];exact(a1b e).2)
 have lne:∀ b ys,H3 b=some (.lst ys)->b≠S:=λ b ys e z=>by rw[z,hS3] at e;cases e
 have stS:=F.sS;refine⟨⟨by rw[a0m stS];exact h3.sta.h0,by rw[a0m (lne _ _ h3.sta.h1)];exact h3.sta.h1,by rw[a0m (lne _ _ h3.sta.h2)];exact h3.sta.h2,a0c,h3.sta.n1,h3.sta.n2,h3.sta.n3,λ j m ns e1 e2=>by rw[a0m (lne _ _ (h3.sta.hm j m ns e1 e2))];exact h3.sta.hm j m ns e1 e2,h3.sta.nd,h3.sta.nL,h3.sta.nM⟩,
  λ b o e b1 b2 b3 b4=>by rw[a0m b3];exact h3.fr b o e b1 b2 b3 b4,λ b e=>h3.dom b ?_,λ e he=>⟨by rw[a0m (lne _ _ (h3.seen e he).1)];exact(h3.seen e he).1,(h3.seen e he).2.1.fr (λ b hb o eb=>by rw[a0m (ne b ((h3.seen e he).2.2.2 b hb))];exact eb),(h3.seen e he).2.2⟩,λ e he hc=>?_,?_,h3.few,h3.lks,λ ns hns=>⟨(h3.mks ns hns).1,λ n hn=>by obtain⟨e,he,e1,e2⟩:=(h3.mks ns hns).2 n hn;exact⟨e,he,e1,by rw[h3' ns hns n hn];exact e2⟩⟩,h3.lst,λ ns hns=>Nat.le_succ_of_le (h3.mlen ns hns),h3.dis⟩
 ·by_cases z:b=S
  ·rw[z,a0c] at e;cases e
  ·rw[a0m z] at e;exact e
 ·rw[b9j];by_cases z:e.1=d.1
  ·rw[z02 (by rw[z])];exact nx0 so ls rfl (soo _ _ (a1v (h.dom so hso0) hso)) h3.sta.n1
  ·rw[z01 (λ y=>z (z2k y))];rcases h1 e he hc with y | y
   ·exact absurd y z
   ·obtain⟨so',sl,e1,e2,e3⟩:=h3.stood e he y;exact nx0 so' sl e1 (soo _ _ e2) e3
 ·have:=c3s skv (Sum.inl d.1:Key) (.ref so);have:=h3.slen;lia
end
--@STAGE
def wL (l:Lk):Nat:=34*l.length+3
def wD (d:Dl):Nat:=10+(d.2.2.map wL).sum
def wM (m:Mkr):Nat:=38+2*m.2.length
def wP (p:Ps):Nat:=(p.1.map wD).sum+(p.2.map wM).sum
structure SmP (n:Nat) (p:Ps):Prop where
 deals:∀ d∈p.1,0<=d.1/\d.1<=9/\d.2.1∈a8r
 looks:∀ d∈p.1,∀ l∈d.2.2,∀ x∈l,Bd x.1/\-1<=x.2/\x.2<=9
 makes:∀ m∈p.2,Bd m.1/\m.2≠[]/\∀ n∈m.2,0<=n/\n<=9
 w:wP p<=n
def e2d (K:W.Frag):Sp:=λ vs H Q _=>∃ (a:Addr) (ns:List Int) (dv ov:V) (ds:List Drn) (os:List Pr),vs=[.ref a,dv,ov]/\SqL K H a (ns.map V.int)/\Tr H dv (.list (ds.map d8e))/\Tr H ov (.list (os.map a5g))/\e0b ds/\e2s ds os/\os.length<=32 /\
 ∀ v H' p f,Same H H'->TF H' v (a3r p) f->f.Nodup->(∀ b∈f,H b=none)->SmP 3824 p->Q v H'
def d5c (ks:List Int) (mk:List (List Int)) (i:Nat):Option Mkr:=match ks[i]?,mk[i]? with
 | some k,some (n::r)=>some (k,n::r)
 | _,_=>none
theorem c0k {ks:List Int} {mk:List (List Int)} {i:Nat} {m:Mkr} (h:d5c ks mk i=some m):ks[i]?=some m.1/\mk[i]?=some m.2/\m.2≠[]:=by
 unfold d5c at h;split at h
 ·next k n r e1 e2=>cases h;exact⟨e1,e2,by simp⟩
 ·cases h
theorem d9j {ks:List Int} {mk:List (List Int)} {i:Nat} {k:Int} {ns:List Int} (h1:ks[i]?=some k) (h2:mk[i]?=some ns) (h3:ns≠[]):d5c ks mk i=some (k,ns):=by
 unfold d5c;rw[h1,h2];cases ns with
 | nil=>exact absurd rfl h3
 | cons a r=>rfl
def c1m (ks:List Int) (mk:List (List Int)):List Mkr:=(List.range 4).filterMap (d5c ks mk)
theorem e4a {σ0 fs:L2.St} {k:Nat} {lo:Int} {g:TG} {tc:L2.TT} {te:TE} {Q:VK} {H1:Hp} (n:Nat) (ow:Nat->List Addr) (dy:Nat->Option PyData) (h0:σ0=List.replicate k none++fs) (hz:n<=sizeLine)
  (ho:∀ i j,i < j->j < n->∀ b∈ow j,b ∉ ow i) (hv:∀ i,i < n->∀ b∈ow i,∃ o,H1 b=some o)
  (step:∀ i,i < n->∀ H (ts:L2.St) (R:Option V->L2.St->Hp->Prop),Same H1 H->ts.length=k->(∀ d y f (ts2:L2.St) H3,dy i=some d->ts2.length=k->Same H H3->TF H3 y d f->f.Nodup->(∀ b∈f,H b=none\/b∈ow i)->R (some y) (ts2++fs) H3)->(dy i=none->∀ (ts2:L2.St) H3,ts2.length=k->Same H H3->R none (ts2++fs) H3) ->
   g (.int (lo+(i:Int))) (ts++fs) H λ τ2 H2=>tc τ2 H2 λ ok H3=>if ok=true then te τ2 H3 λ y H4=>R (some y) τ2 H4 else R none τ2 H3)
  (fin:∀ D H' ys f,H1 D=none->Same H1 H'->H' D=some (.lst ys)->TFs H' ys ((List.range n).filterMap dy) f->f.Nodup->(∀ b∈f,H1 b=none\/∃ i,i < n/\b∈ow i)->D ∉ f->Q (.ref D) H'):b0e σ0 (Itr lo n) g tc te Q H1:=by
 intro D hD;refine⟨λ i m ys τ H=>m=n - i/\i<=n/\ys.length<=i/\(∃ f,TFs H ys ((List.range i).filterMap dy) f/\f.Nodup/\(∀ b∈f,H1 b=none\/∃ j,j < i/\b∈ow j)/\D ∉ f)/\(∃ ts:L2.St,ts.length=k/\τ=ts++fs)/\Same H1 H/\H D=some (.lst ys),⟨n,rfl,z0x _,z04 _,⟨[],.nil,.nil,(λ b hb=>by cases hb),(λ hb=>by cases hb)⟩,⟨_,z3e,h0⟩,Same.upd hD,a0c⟩,?_⟩;rintro i m ys τ H ⟨rfl,hi,hyl,⟨f,hp,hf,hfn,hDf⟩,⟨ts,hts,rfl⟩,ss,hd⟩;refine⟨hd,?_⟩;by_cases hlt:i < n
 ·refine .inr ⟨hlt,by lia,?_⟩;rintro v H' ⟨rfl,rfl⟩;refine step i hlt H' ts (λ o τ2 H3=>match o with
   | some y=>H3 D=some (.lst ys)/\∃ m',m' < n - i/\m'=n - (i+1)/\i+1<=n/\(ys++[y]).length<=i+1/\(∃ f,TFs (upd H3 D (.lst (ys++[y]))) (ys++[y]) ((List.range (i+1)).filterMap dy) f/\f.Nodup/\(∀ b∈f,H1 b=none\/∃ j,j < i+1/\b∈ow j)/\D ∉ f)/\(∃ ts:L2.St,ts.length=k/\τ2=ts++fs)/\Same H1 (upd H3 D (.lst (ys++[y])))/\upd H3 D (.lst (ys++[y])) D=some (.lst (ys++[y]))
   | none=>∃ m',m' < n - i/\m'=n - (i+1)/\i+1<=n/\ys.length<=i+1/\(∃ f,TFs H3 ys ((List.range (i+1)).filterMap dy) f/\f.Nodup/\(∀ b∈f,H1 b=none\/∃ j,j < i+1/\b∈ow j)/\D ∉ f)/\(∃ ts:L2.St,ts.length=k/\τ2=ts++fs)/\Same H1 H3/\H3 D=some (.lst ys)) ss hts (λ d y f2 ts2 H3 ed h2 s3 tr3 nd2' fr3=>?_) (λ en ts2 H3 h2 s3=>?_)
  ·refine⟨s3 _ _ hd,n - (i+1),by lia,rfl,hlt,(by rw[z0r,z1u];lia),?_,⟨ts2,h2,rfl⟩,(ss.trans s3).again hD,a0c⟩;have hD2:D ∉ f2:=λ z=>by
    rcases fr3 D z with q | q
    ·rw[hd] at q;cases q
    ·obtain⟨o,q⟩:=hv i hlt D q;rw[hD] at q;cases q
   refine⟨f++f2,?_,nd2.mpr ⟨hf,nd2',λ x hx z=>?_⟩,λ b hb=>?_,λ hb=>?_⟩
   ·rw[z40,z2v];have e1:[i].filterMap dy=[d]:=by rw[z1i,ed];rfl
    rw[e1];refine(hp.fr λ b hb o eb=>?_).app (TFs.one (tr3.fr λ b hb o eb=>?_))
    ·rw[a0m (show b≠D from λ z=>hDf (z ▸ hb))];exact s3 _ _ eb
    ·rw[a0m (show b≠D from λ z=>hD2 (z ▸ hb))];exact eb
   ·rcases fr3 x hx with q | q
    ·exact hp.not q z
    ·rcases hfn x z with q2 | ⟨j,hj,q2⟩
     ·obtain⟨o,q3⟩:=hv i hlt x q;rw[q2] at q3;cases q3
     ·exact ho j i hj hlt x q q2
   ·rcases z08.mp hb with z | z
    ·exact(hfn b z).imp id λ ⟨j,hj,q⟩=>⟨j,by lia,q⟩
    ·rcases fr3 b z with q | q
     ·exact .inl (ss.free q)
     ·exact .inr ⟨i,by lia,q⟩
   ·rcases z08.mp hb with z | z
    ·exact hDf z
    ·exact hD2 z
  ·refine⟨n - (i+1),by lia,rfl,hlt,by lia,⟨f,?_,hf,λ b hb=>(hfn b hb).imp id λ ⟨j,hj,q⟩=>⟨j,by lia,q⟩,hDf⟩,⟨ts2,h2,rfl⟩,ss.trans s3,s3 _ _ hd⟩;rw[z40,z2v];have e1:[i].filterMap dy=[]:=by rw[z1i,en];rfl
   rw[e1,z1e];exact hp.same s3
 ·have e:i=n:=by lia
  subst e;exact .inl ⟨z04 _,fin D H ys f hD ss hd hp hf hfn hDf⟩
theorem d7l (T:Tx K mg):T.c3m.Ok P w base 4 (e2d K):=by
 refine okF T.c3m.F a2k λ _ _ _ _ H _ _ _ hr h=>?_
 ·obtain⟨a,ns,dv,ov,ds,os,rfl,ha,hd,ho,⟨g1,g2,g3,g4⟩,hW,hol,q⟩:=h;have hu:=c8a hr;refine⟨_,(a0d (psx 3 a2k.nd (pcF T.c4z (d6d T) hr (a0a (pcF T.a2v (a2q T) hr (a0a (pcF T.b0s (b1y T) hr (a0a (pv 0) (a0a a0e a0b))) (a0a a0e a0b))) a0b)))
   (a0d (psx 4 a2k.nd (e0a (b8g a0j (a1l (a0a a0e (a0a a0e (a0a a0e (a0a a0e a0b))))) (b8g a0j (a1l (a0a (a1l a0b) (a0a (a1l a0b) (a0a (a1l a0b) (a0a (a1l a0b) a0b))))) (b8g a0j b3n e1n))) rfl rfl (by simp) (by decide)))
   (a0d (psx 5 a2k.nd b3n)
   (a0d (psx 6 a2k.nd b3n)
   (a0d (a2r z11 rfl (a0z (pv 1)) (a8i rfl (a0w (pgm 7 a2k.nd) (a0w (pgm 8 a2k.nd) (a0w (pgm 9 a2k.nd) a4h))))
   (a0d (b4h hu (pv 5) (pv 7) (a1l a0b) rfl)
   (a0f (b4h hu (pv 6) (pv 7) (a3p (a0a (pv 8) (a0a (pv 9) a0b))) rfl))))
   (a0d (a2r z11 rfl (a2z rfl T.a4e (a0a (a0q a1k (by rfl) T.a4f z0z (a0a (pv 2) a0b)) a0b)) (pgm 10 a2k.nd)
   (a0d (b3b (pix a1e (pv 2) (pv 10)) (a8i rfl (a0w (pgm 7 a2k.nd) (a0w (pgm 11 a2k.nd) a4h))))
   (a0d (b3b (a3u hu (pv 6) (pv 7) (λ _ _=>rfl)) (a8i rfl (a0w (pgm 8 a2k.nd) (a0w (pgm 9 a2k.nd) a4h))))
   (a0d (psx 12 a2k.nd (pcF T.b0s (b1y T) hr (a0a (pv 0) (a0a (a0l a2c a0e (pv 10)) a0b))))
   (a0d (a2r z11 rfl (a2z rfl T.a4e (a0a (pv 9) a0b)) (pgm 13 a2k.nd)
   (a0f (a1g (a0i a2j (pcF T.c0a (c9w T) hr (a0a (pv 8) (a0a (pv 13) a0b))) (pv 11) (a0o _))
   (a0d (psx 14 a2k.nd (pcF T.c2y (d6l T) hr (a0a (pv 3) (a0a (a3u hu (pv 4) a0j (λ _ _=>rfl)) (a0a (pcF T.a2v (a2q T) hr (a0a (pv 12) (a0a (a0l a2c a0e (pv 13)) a0b))) (a0a (a4p a2j (pv 8) a0j (a0o _)) a0b))))))
   (a0f (a3i (a2l z1w z23 z20 a2f (a3u hu (pv 5) (pv 7) (λ _ _=>rfl)) (a0a (pv 14) a0b)))))
   a0n)))
   (a1y (a1g (a0i a2j (pv 11) (pcF T.b9d (d2g T) hr (a0a (pv 8) (a0a (pv 9) a0b))) (a0o _))
   (a0f (b4h hu (a3u hu (pv 4) a0j (λ _ _=>rfl)) (pv 7) (a2i c0n (by rfl) T.b7l boot_list (a0a (a3u hu (pv 4) a0j (λ _ _=>rfl)) a0b)) rfl))
   a0n)
   (a0f (a1g (a0i a2j (pv 11) (a0l b7f (pcF T.b1b (b5q T) hr (a0a (pv 8) (a0a (pv 9) a0b))) a0e) (a0o _))
   (a0f (a3i (pcF T.c4l (d4s T) hr (a0a (pv 7) (a0a (pv 8) (a0a (pcF T.a2v (a2q T) hr (a0a (pv 12) (a0a a0e a0b))) (a0a (pv 4) a0b)))))))
   a0n))))))))
   (a0d (psf 15 ["_law_k"] a2k.nd ["_law_keys_here","_law_state"] [3,4] (a2z rfl T.a4e (a0a a0e a0b)) (pgn 0) (c1y (a0i (e0m (K:=K) rfl hr.units) (pix (b9x (K:=K) rfl) (a3u hu (pv 2) a0j (λ _ _=>rfl)) (pv 0)) (a1l a0b) (a0o _))) (a3p (a0a (pix (b9x (K:=K) rfl) (pv 1) (pv 0)) (a0a (pix (b9x (K:=K) rfl) (a3u hu (pv 2) a0j (λ _ _=>rfl)) (pv 0)) a0b))))
   (a0f (a0p (a3p (a0a (pcf ["_law_number_here","_law_word","_law_looks"] ["_law_seen"] [5] (a0z (pv 1)) (c2z (K:=K) (n:=3) rfl rfl (a0w (pgn 0) (a0w (pgn 1) (a0w (pgn 2) a4h)))) a2y (a3p (a0a (pv 0) (a0a (pv 1) (a0a (a3u hu (pv 3) (pv 0) (λ _ _=>rfl)) a0b))))) (a0a (pv 15) a0b)))))))))))),?_⟩
  refine b1u λ b' hb'=>?_
  have z9:(200:Nat)<=sizeLine:=by decide
  obtain⟨dl,dxs,rfl,hdl,htd⟩:=c3j hd;obtain⟨ol,oxs,rfl,hol2,hto⟩:=c3j ho;have hdxl:dxs.length=ds.length:=by rw[htd.len,z03]
  have hoxl:oxs.length=os.length:=by rw[hto.len,z03]
  refine nx1 _ rfl a (nx7 ns 0 rfl ha (by decide) λ c0=> ⟨c0,nx17 4 rfl (b6b c0 4) rfl (c3x _ _) ⟨e0y _ _,λ Dk H1 ks hDk s1 hk gk=>?_⟩⟩);have gk1:=gk.1;have gk2:=gk.2.1;have gk3:=gk.2.2;subst hb';refine a6h λ b' hb'=>?_
  intro st hst;refine⟨(by show 4<=sizeLine;decide),λ L hL=>⟨(by show 0<=sizeLine;decide),λ m0 hm0=>⟨(by show 0<=sizeLine;decide),λ m1 hm1=>⟨(by show 0<=sizeLine;decide),λ m2 hm2=>⟨(by show 0<=sizeLine;decide),λ m3 hm3=>⟨(by show 4<=sizeLine;decide),λ M hM=>λ S hS=>?_⟩⟩⟩⟩⟩⟩;have p0:=Same.upd (o:=HO.dK []) hst;have p1:=Same.upd (o:=HO.lst [.int 0,.int 0,.int 0,.int 0]) hL;have p2:=Same.upd (o:=HO.lst []) hm0;have p3:=Same.upd (o:=HO.lst []) hm1;have p4:=Same.upd (o:=HO.lst []) hm2;have p5:=Same.upd (o:=HO.lst []) hm3;have p6:=Same.upd (o:=HO.lst [.ref m0,.ref m1,.ref m2,.ref m3]) hM;have p7:=Same.upd (o:=HO.dK []) hS;have r0:upd H1 st (.dK []) st=some (.dK []):=a0c;have r1:upd (upd H1 st (.dK [])) L (.lst [.int 0,.int 0,.int 0,.int 0]) L=some (.lst [.int 0,.int 0,.int 0,.int 0]):=a0c;generalize upd (upd H1 st (.dK [])) L (.lst [.int 0,.int 0,.int 0,.int 0])=G1 at *;have r2:upd G1 m0 (.lst []) m0=some (.lst []):=a0c;generalize upd G1 m0 (.lst [])=G2 at *;have r3:upd G2 m1 (.lst []) m1=some (.lst []):=a0c;generalize upd G2 m1 (.lst [])=G3 at *;have r4:upd G3 m2 (.lst []) m2=some (.lst []):=a0c;generalize upd G3 m2 (.lst [])=G4 at *;have r5:upd G4 m3 (.lst []) m3=some (.lst []):=a0c;generalize upd G4 m3 (.lst [])=G5 at *;have r6:upd G5 M (.lst [.ref m0,.ref m1,.ref m2,.ref m3]) M=some (.lst [.ref m0,.ref m1,.ref m2,.ref m3]):=a0c;generalize upd G5 M (.lst [.ref m0,.ref m1,.ref m2,.ref m3])=G6 at *;have r7:upd G6 S (.dK []) S=some (.dK []):=a0c;generalize upd G6 S (.dK [])=G7 at *;have q1:=p1.trans (p2.trans (p3.trans (p4.trans (p5.trans (p6.trans p7)))));have q2:=p2.trans (p3.trans (p4.trans (p5.trans (p6.trans p7))));have q3:=p3.trans (p4.trans (p5.trans (p6.trans p7)));have q4:=p4.trans (p5.trans (p6.trans p7));have q5:=p5.trans (p6.trans p7);have q6:=p6.trans p7;have emg:b6y [] (skO L M S)=skO L M S:=b9g (skO L M S) [] (by show ([Sum.inr "last",Sum.inr "makers",Sum.inr "stood"]:List Key).Nodup;decide +kernel);refine⟨q1 _ _ r0,skO L M S,rfl,(by show 3<=15;decide),?_⟩;rw[emg];have ne2:∀ {HA:Hp} {x y:Addr} {o:HO},HA x=none->HA y=some o->x≠y:=λ e1 e2 z=>by rw[z,e2] at e1;cases e1
  have nL:L≠st:=ne2 hL r0;have n0:m0≠L:=ne2 hm0 r1;have n0s:m0≠st:=ne2 hm0 (p1 _ _ r0);have n1:m1≠L:=ne2 hm1 (p2 _ _ r1);have n10:m1≠m0:=ne2 hm1 r2;have n1s:m1≠st:=ne2 hm1 (p2 _ _ (p1 _ _ r0));have n2:m2≠L:=ne2 hm2 (p3 _ _ (p2 _ _ r1));have n20:m2≠m0:=ne2 hm2 (p3 _ _ r2);have n21:m2≠m1:=ne2 hm2 r3;have n2s:m2≠st:=ne2 hm2 (p3 _ _ (p2 _ _ (p1 _ _ r0)));have n3:m3≠L:=ne2 hm3 (p4 _ _ (p3 _ _ (p2 _ _ r1)));have n30:m3≠m0:=ne2 hm3 (p4 _ _ (p3 _ _ r2));have n31:m3≠m1:=ne2 hm3 (p4 _ _ r3);have n32:m3≠m2:=ne2 hm3 r4;have n3s:m3≠st:=ne2 hm3 (p4 _ _ (p3 _ _ (p2 _ _ (p1 _ _ r0))));have nMs:M≠st:=ne2 hM (p5 _ _ (p4 _ _ (p3 _ _ (p2 _ _ (p1 _ _ r0)))));have nML:M≠L:=ne2 hM (p5 _ _ (p4 _ _ (p3 _ _ (p2 _ _ r1))));have nM0:M≠m0:=ne2 hM (p5 _ _ (p4 _ _ (p3 _ _ r2)));have nM1:M≠m1:=ne2 hM (p5 _ _ (p4 _ _ r3));have nM2:M≠m2:=ne2 hM (p5 _ _ r4);have nM3:M≠m3:=ne2 hM r5;have nSs:S≠st:=ne2 hS (p6 _ _ (p5 _ _ (p4 _ _ (p3 _ _ (p2 _ _ (p1 _ _ r0))))));have sG:Same H1 (upd G7 st (.dK (skO L M S))):=(p0.trans q1).again hst;have fresh1:H1 L=none/\H1 m0=none/\H1 m1=none/\H1 m2=none/\H1 m3=none/\H1 M=none/\H1 S=none:=⟨p0.free hL,(p0.trans p1).free hm0,(p0.trans (p1.trans p2)).free hm1,(p0.trans (p1.trans (p2.trans p3))).free hm2,(p0.trans (p1.trans (p2.trans (p3.trans p4)))).free hm3,(p0.trans (p1.trans (p2.trans (p3.trans (p4.trans p5))))).free hM,(p0.trans (p1.trans (p2.trans (p3.trans (p4.trans (p5.trans p6)))))).free hS⟩;have hStaG:Sta (upd G7 st (.dK (skO L M S))) st L M S [m0,m1,m2,m3] [0,0,0,0] [[],[],[],[]] []:=by
   refine⟨a0c,by rw[a0m nL];exact q2 _ _ r1,by rw[a0m nMs];exact p7 _ _ r6,by rw[a0m nSs];exact r7,rfl,rfl,rfl,λ j m nn e1 e2=>?_,?_,?_,⟨nML,?_⟩⟩
   ·have:j=0\/j=1\/j=2\/j=3:=by
     have:=(z0i.mp e1).1;simp only [z12,z37] at this;lia
    rcases this with rfl | rfl | rfl | rfl<;>cases e1<;>cases e2
    ·rw[a0m n0s];exact q3 _ _ r2
    ·rw[a0m n1s];exact q4 _ _ r3
    ·rw[a0m n2s];exact q5 _ _ r4
    ·rw[a0m n3s];exact q6 _ _ r5
   ·simp only [z15,z06,z1r,z1v,not_or,List.nodup_nil,and_true,not_false_eq_true];exact⟨⟨n10.symm,n20.symm,n30.symm⟩,⟨n21.symm,n31.symm⟩,n32.symm⟩
   ·simp only [z06,z1r,z1v,not_or];exact⟨n0.symm,n1.symm,n2.symm,n3.symm⟩
   ·simp only [z06,z1r,z1v,not_or];exact⟨nM0,nM1,nM2,nM3⟩
  generalize upd G7 st (.dK (skO L M S))=G8 at *;clear p0 p1 p2 p3 p4 p5 p6 p7 r0 r1 r2 r3 r4 r5 r6 r7 q1 q2 q3 q4 q5 q6 n0 n0s n1 n10 n1s n2 n20 n21 n2s n3 n30 n31 n32 n3s nMs nML nM0 nM1 nM2 nM3;subst hb';refine a6h λ b' hb'=>?_
  intro se hse;subst hb';refine a6h λ b' hb'=>?_
  intro kn hkn;subst hb';refine a6h λ b' hb'=>?_
  have s8a:=Same.upd (o:=HO.dK []) hse;have s8b:=Same.upd (o:=HO.dK []) hkn;have knse:kn≠se:=ne2 hkn a0c;have seS:se≠S:=ne2 hse hStaG.h3;have knS:kn≠S:=ne2 hkn (s8a _ _ hStaG.h3);have hkn8:G8 kn=none:=s8a.free hkn;refine nx17 _ rfl dl rfl ⟨_,SqL.of ((sG.trans (s8a.trans s8b)) _ _ (s1 _ _ hdl))⟩ (a3k (K:=K) (a:=dl) (xs:=dxs) (λ i σ H2=>∃ (x7 x8 x9:Option V) (Sa Ka:Int->Addr) (sv kv:List (Key×V)),σ=[some (.ref a),some (.ref dl),some (.ref ol),some (.ref Dk),some (.ref st),some (.ref se),some (.ref kn),x7,x8,x9,none,none,none,none,none,none]/\Same G8 H2/\H2 se=some (.dK sv)/\H2 kn=some (.dK kv)/\sv.length<=i/\kv.length<=i/\(∀ d∈ds.take i,a6i sv (Sum.inl d.1)=some (.ref (Sa d.1))/\H2 (Sa d.1)=some (.lst [])/\G8 (Sa d.1)=none/\a6i kv (Sum.inl d.1)=some (.ref (Ka d.1))/\H2 (Ka d.1)=some (.tup [.str d.2.1,.int d.2.2]))/\∀ d∈ds.take i,∀ e∈ds.take i,Sa d.1=Sa e.1->d.1=e.1)
   (nx3 none none (nx13 none (λ _=>0) (λ _=>0) ([]) ([]) rfl (s8a.trans s8b) (s8b _ _ a0c) a0c (z04 _) (z04 _) (λ d h=>by simp at h) λ d h=>by simp at h)) (λ i σ H2 _ hJ'=>by obtain⟨_,_,_,_,_,_,_,_,s2,_⟩:=hJ';exact SqL.of (s2 _ _ (sG _ _ (s1 _ _ hdl)))) ?_ ?_)
  ·intro i x σ H2 hx hJ';refine b7x λ G' hG'=>?_
   obtain⟨x7,x8,x9,Sa,Ka,sv,kv,rfl,s2,hsv,hkv,lsv,lkv,hal,hinj⟩:=hJ';refine hG' ?_;refine b3g λ D' hD'=>?_
   obtain⟨pd,hpd,tr⟩:=htd.get hx;have hi:i < ds.length:=by rw[<-hdxl];exact(z0i.mp hx).1
   have ed:ds[i]?=some ds[i]:=z0c hi;rw[z0f,ed] at hpd;cases hpd;obtain⟨t,rfl,ht⟩:=tr.drn;have htk:ds.take (i+1)=ds.take i++[ds[i]]:=by rw[z1m,ed];rfl
   have hnew:∀ e∈ds.take i,e.1≠ds[i].1:=λ e he z=>by
    have hp:=z3l.mp (z2p.mp g2);obtain⟨j,hj,rfl⟩:=z1s he;rw[z14] at hj;have:=hp j i (by lia) hi (by lia);rw[z4b] at z;lia
   refine nx34 t _ rfl (SqT.of (s2 _ _ (sG _ _ (s1 _ _ ht)))) rfl _ _ rfl _ _ rfl (nx0 _ _ rfl rfl ?_);refine b1u λ b2' hb2'=>?_
   refine⟨(by show 0<=sizeLine;decide),λ b hb=> nx15 _ rfl _ rfl se _ rfl (.inl (nx7 sv (Sum.inl ds[i].1) ((Same.upd hb) _ _ hsv) rfl (by lia) rfl)) ?_⟩;have bse:b≠se:=ne2 hb hsv;have bkn:b≠kn:=ne2 hb hkv;have k3:∀ x o,x≠se->H2 x=some o->upd (upd H2 b (.lst [])) se (.dK (a6s sv (Sum.inl ds[i].1) (.ref b))) x=some o:=λ x o hx e=>by rw[a0m hx];exact(Same.upd hb) _ _ e
   have hb3:upd (upd H2 b (.lst [])) se (.dK (a6s sv (Sum.inl ds[i].1) (.ref b))) b=some (.lst []):=by rw[a0m bse];exact a0c
   have hse3:upd (upd H2 b (.lst [])) se (.dK (a6s sv (Sum.inl ds[i].1) (.ref b))) se=some (.dK (a6s sv (Sum.inl ds[i].1) (.ref b))):=a0c;generalize upd (upd H2 b (.lst [])) se (.dK (a6s sv (Sum.inl ds[i].1) (.ref b)))=H3 at *;subst hb2';refine nx17 _ rfl _ rfl (by show 2<=sizeLine;decide) λ t2 ht2=> nx15 _ rfl _ rfl kn _ rfl (.inl (nx7 kv (Sum.inl ds[i].1) ((Same.upd ht2) _ _ (k3 _ _ knse hkv)) rfl (by lia) rfl)) ?_;have s4:=Same.upd (o:=HO.tup [.str ds[i].2.1,.int ds[i].2.2]) ht2;have ht4:upd H3 t2 (.tup [.str ds[i].2.1,.int ds[i].2.2]) t2=some (.tup [.str ds[i].2.1,.int ds[i].2.2]):=a0c;have tkn:t2≠kn:=ne2 ht2 (k3 _ _ knse hkv);have k5:∀ x o,x≠kn->H3 x=some o->upd (upd H3 t2 (.tup [.str ds[i].2.1,.int ds[i].2.2])) kn (.dK (a6s kv (Sum.inl ds[i].1) (.ref t2))) x=some o:=λ x o hx e=>by rw[a0m hx];exact s4 _ _ e
   have ht5:upd (upd H3 t2 (.tup [.str ds[i].2.1,.int ds[i].2.2])) kn (.dK (a6s kv (Sum.inl ds[i].1) (.ref t2))) t2=some (.tup [.str ds[i].2.1,.int ds[i].2.2]):=by rw[a0m tkn];exact ht4
   subst hD';refine nx3 _ _ (nx13 _ (λ m=>if m=ds[i].1 then b else Sa m) (λ m=>if m=ds[i].1 then t2 else Ka m) _ _ rfl (λ x o e=>?_) (k5 _ _ knse.symm hse3) a0c ?_ ?_ ?_ ?_)
   ·exact k5 _ _ (ne2 hkn8 e).symm (k3 _ _ (ne2 hse e).symm (s2 _ _ e))
   ·have:=c3s sv (Sum.inl ds[i].1:Key) (.ref b);lia
   ·have:=c3s kv (Sum.inl ds[i].1:Key) (.ref t2);lia
   ·intro d hd;rw[htk] at hd;rw[b9j,b9j];dsimp only;rcases z08.mp hd with y | y
    ·obtain⟨a1,a2,a3,a4,a5⟩:=hal d y;have ne:=hnew d y;rw[z01 (λ z=>ne (z2k z)),z01 (λ z=>ne (z2k z)),z01 ne,z01 ne];exact⟨a1,k5 _ _ (λ z=>by rw[z,hkv] at a2;cases a2) (k3 _ _ (λ z=>by rw[z,hsv] at a2;cases a2) a2),a3,a4,k5 _ _ (λ z=>by rw[z,hkv] at a5;cases a5) (k3 _ _ (λ z=>by rw[z,hsv] at a5;cases a5) a5)⟩
    ·rw[z0o.mp y,z02 rfl,z02 rfl,z02 rfl,z02 rfl];exact⟨rfl,k5 _ _ bkn hb3,s2.free hb,rfl,ht5⟩
   ·intro d hd e he;rw[htk] at hd he;dsimp only;rcases z08.mp hd with y | y<;>rcases z08.mp he with y' | y'
    ·rw[z01 (hnew d y),z01 (hnew e y')];exact hinj d y e y'
    ·rw[z0o.mp y',z01 (hnew d y),z02 rfl];exact λ z=>absurd z.symm (ne2 hb (hal d y).2.1)
    ·rw[z0o.mp y,z01 (hnew e y'),z02 rfl];exact λ z=>absurd z (ne2 hb (hal e y').2.1)
    ·rw[z0o.mp y,z0o.mp y'];exact λ _=>rfl
  intro σ H0 hJ';refine b7x λ G' hG'=>?_
  obtain⟨x7,x8,x9,Sa,Ka,sv,kv,rfl,s2,hsv,hkv,lsv,lkv,hal,hinj⟩:=hJ';refine hG' ?_;subst hb';refine a6h λ b' hb'=>?_
  rw[hdxl,z16] at hal hinj;obtain⟨hf1,hf2,hf3,hf4,hf5,hf6,hf7⟩:=fresh1;have hms8:∀ m∈[m0,m1,m2,m3],∃ xs,G8 m=some (.lst xs):=λ m hm=>by
   obtain⟨j,hj,ej⟩:=z1s hm;have hj4:j < 4:=hj;exact⟨_,hStaG.hm j m _ (by rw[z0c hj,ej]) (z0c (show j < [([]:List Int),[],[],[]].length from hj4))⟩
  have F:Fx ds ks H0 Sa st L M S [m0,m1,m2,m3]:=⟨g2,gk1,⟨_,s2 _ _ hStaG.h1⟩,λ m hm=>by obtain⟨xs,e⟩:=hms8 m hm;exact⟨xs,s2 _ _ e⟩,⟨_,s2 _ _ hStaG.h3⟩,λ d hd=>⟨_,(hal d hd).2.1⟩,hinj,λ d hd=>⟨ne2 (hal d hd).2.2.1 hStaG.h1,λ z=>by obtain⟨xs,e⟩:=hms8 _ z;exact ne2 (hal d hd).2.2.1 e rfl,ne2 (hal d hd).2.2.1 hStaG.h2⟩,nSs.symm⟩;have old:∀ {c:Int->Int} {fb:Drn->Int} {N:Nat} {H2:Hp} {ls:List Int} {mk:List (List Int)} {skv:List (Key×V)} {xs:Int->List V} {lk:Int->List Lk} {fp:Int->List Addr},PSt ds ks H0 Sa st L M S [m0,m1,m2,m3] c fb N H2 ls mk skv xs lk fp->Same H1 H2:=λ hP b o e=>by
   refine hP.fr b o (s2 _ _ (sG _ _ e)) (ne2 hf1 e).symm (λ z=>?_) (ne2 hf7 e).symm λ d hd=>(ne2 (hal d hd).2.2.1 (sG _ _ e)).symm
   simp only [z06,z1r,z1v] at z;rcases z with rfl | rfl | rfl | rfl
   ·rw[hf2] at e;cases e
   ·rw[hf3] at e;cases e
   ·rw[hf4] at e;cases e
   ·rw[hf5] at e;cases e
  have hP0:PSt ds ks H0 Sa st L M S [m0,m1,m2,m3] (λ n=>(cnt os 0 n:Int)) (λ d=>lkB d (cnt os 0 d.1)) 0 H0 [0,0,0,0] [[],[],[],[]] [] (λ _=>[]) (λ _=>[]) (λ _=>[]):=by
   refine⟨hStaG.same s2,λ b o e _ _ _ _=>e,λ b e=>e,λ d hd=>⟨(hal d hd).2.1,.nil,.nil,(λ b hb=>by cases hb)⟩,λ d hd hc=>?_,z04 _,λ d hd=>?_,(λ d hd l hl=>by cases hl),λ nn hn=>?_,λ i v hv=>.inl ?_,λ nn hn=>?_,(λ d hd e he ne b hb=>by cases hb)⟩
   ·have:=(c5l (w:=d.2.1) (g3 d hd).2.2.2.1).1;have hc':a5c d.2.1 d.2.2 < (0:Int):=hc;lia
   ·show (0:Int)<=lkB d (0:Int);have:=(g3 d hd).2.2.2.1;unfold lkB;split
    ·lia
    ·split<;>lia
   ·simp only [z06,z1r,z1v,or_self] at hn;rw[hn];exact⟨List.nodup_nil,λ n h=>by cases h⟩
   ·have:=z0h hv;simpa using this
   ·simp only [z06,z1r,z1v,or_self] at hn;rw[hn];exact z04 _
  refine nx23 _ rfl _ _ rfl (.inl ⟨_,SqL.of ((old hP0) _ _ (s1 _ _ hol2)),rfl⟩) _ rfl ⟨by lia,by lia,a3h (lo:=0) (n:=((oxs.length:Nat):Int).toNat) (λ j σ H2=>∃ (x7 x8 x9 x10 x11 x12 x13 x14:Option V) (ls:List Int) (mk:List (List Int)) (skv:List (Key×V)) (xs:Int->List V) (lk:Int->List Lk) (fp:Int->List Addr),σ=[some (.ref a),some (.ref dl),some (.ref ol),some (.ref Dk),some (.ref st),some (.ref se),some (.ref kn),x7,x8,x9,x10,x11,x12,x13,x14,none]/\PSt ds ks H0 Sa st L M S [m0,m1,m2,m3] (λ n=>(cnt os j n:Int)) (λ d=>lkB d (cnt os j d.1)) j H2 ls mk skv xs lk fp)
   (nx10 x7 x8 x9 none none none none (nx10 none _ _ _ _ _ _ ⟨rfl,hP0⟩)) ?_ ?_⟩
  ·intro j σ H2 hj hJ';refine b7x λ G' hG'=>?_
   obtain⟨x7,x8,x9,x10,x11,x12,x13,x14,ls,mk,skv,xs,lk,fp,rfl,hP⟩:=hJ';have hj':j < os.length:=by lia
   obtain⟨⟨n,g⟩,eo⟩:∃ p,os[j]?=some p:=⟨_,z0c hj'⟩;obtain⟨hg,d,hd,rfl,hlt⟩:=hW j n g eo;have sH:=old hP;obtain⟨ov,hov,otr⟩:=hto.at (i:=j) (d:=a5g (d.1,g)) (by rw[z0f,eo];rfl);obtain⟨ot,rfl,hot⟩:=e0n otr;obtain⟨a1,a2,a3,a4,a5⟩:=hal d hd;obtain⟨b1,b2,b3,b4,b5⟩:=g3 d hd;have hkn2:=hP.dict F hkv knS;have hgk:b1j H2 kn (.int d.1) (some (.ref (Ka d.1))):=by
    have:=b1j.k (k:=Sum.inl d.1) hkn2;rw[a4] at this;exact this
   have g0:0<=g:=by lia
   refine hG' ?_;refine b3g λ D' hD'=>?_
   refine b1u λ b2' hb2'=>?_
   refine nx20 _ rfl _ rfl ol _ _ _ rfl rfl (SqL.of (sH _ _ (s1 _ _ hol2))) (a2d j (by lia) hov) (nx34 ot _ rfl (SqT.of (sH _ _ (s1 _ _ hot))) rfl _ _ rfl _ _ rfl ⟨rfl,?_⟩);subst hb2';refine a6h λ b2' hb2'=>?_
   refine nx15 _ rfl _ rfl kn _ rfl hgk (nx34 (Ka d.1) _ rfl (SqT.of (hP.tup F a5)) rfl _ _ rfl _ _ rfl ⟨rfl,?_⟩);subst hb2';refine a6h λ b2' hb2'=>?_
   refine nx15 _ rfl _ rfl _ _ rfl rfl (nx29 a ns _ rfl (sH.seq (s1.seq ha)) ⟨by lia,λ cz=>?_⟩);subst hb2';refine a6h λ b2' hb2'=>?_
   have notin:∀ nn∈mk,d.1 ∉ nn:=λ nn hnn z=>by
    obtain⟨e,he,e1,e2⟩:=(hP.mks nn hnn).2 d.1 z;have:e=d:=num_inj g2 he hd e1;subst this;lia
   refine nx17 _ rfl d.2.2 rfl (by lia) ⟨by lia,a3h (lo:=0) (n:=d.2.2.toNat) (λ i σ H3=>∃ (x13 x14:Option V) (xs:Int->List V) (lk:Int->List Lk) (fp:Int->List Addr),σ=[some (.ref a),some (.ref dl),some (.ref ol),some (.ref Dk),some (.ref st),some (.ref se),some (.ref kn),some (.int d.1),some (.str d.2.1),some (.int d.2.2),some (.int (0+(j:Int))),some (.int g),some (.int cz),x13,x14,none]/\PSt ds ks H0 Sa st L M S [m0,m1,m2,m3] (λ n=>(cnt os j n:Int)) (λ e=>lkB e (cnt os j e.1)+if e.1=d.1 then c4w d g i else 0) j H3 ls mk skv xs lk fp)
    (nx3 x13 x14 (nx18 xs lk fp rfl (hP.count (z04 _) (λ e he h=>h) (λ e he=>?_) (λ _ _ _ _=>rfl)))) ?_ ?_⟩
   ·have:=c2s (d:=d) (g:=g) 0;show lkB e (cnt os j e.1)<=lkB e (cnt os j e.1)+if e.1=d.1 then c4w d g 0 else 0
    split<;>lia
   ·intro i σ H3 hi hJ';refine b7x λ G' hG'=>?_
    obtain⟨x13,x14,xs,lk,fp,rfl,hP3⟩:=hJ';refine hG' ?_;refine b3g λ D3' hD3'=>?_
    have sH3:=old hP3;refine nx6 _ rfl _ rfl (nx12 d.2.1 _ rfl (nx4 _ rfl rfl _ rfl (a3o (λ e=>?_) (λ e=>?_))))
    ·have e':c0r d.2.1 (0+(i:Int))=g:=by
      have:=z0b e;exact V.int.inj this
     have hse3:=hP3.dict F hsv seS;refine nx15 _ rfl _ rfl st _ rfl hP3.sta.last (nx15 _ rfl _ rfl _ _ rfl rfl (nx12 cz _ rfl (nx26 _ rfl rfl Dk (nx36 L ks ls _ _ rfl (sH3 _ _ hk) hP3.sta.h1 ⟨gk1,gk2,gk3⟩ hP3.sta.n1 λ v H4 l f4 s4 tf nf ff lo=>?_))));have hP4:=hP3.same s4;have hgs:b1j H4 se (.int d.1) (some (.ref (Sa d.1))):=by
      have:=b1j.k (k:=Sum.inl d.1) (s4 _ _ hse3);rw[a1] at this;exact this
     have hsd:=(hP4.seen d hd).1;have hln:(xs d.1).length < sizeLine:=by
      have h1:=(hP4.seen d hd).2.1.len;have h2:=hP3.few d hd;rw[z03] at h1;have h3:=d7r (d:=d) (c:=(cnt os j d.1:Int)) b4;have h4:c4w d g i<=8:=by
       unfold c4w;split
       ·split<;>lia
       ·split<;>lia
      rw[z02 rfl] at h2;lia
     refine nx6 _ rfl _ rfl (nx22 se _ rfl hgs (.inl ⟨rfl,_,SqL.of hsd⟩) _ ⟨rfl,nx2 (Sa d.1) (xs d.1) _ rfl rfl hsd hln λ H5 h5 k5=>?_⟩);subst hD3';refine nx3 _ _ (nx18 _ _ _ rfl (hP3.look F hd s4 tf nf ff lo h5 k5 notin ?_ λ e he hne=>?_))
     ·rw[z02 rfl,z02 rfl];have:=e0p e';lia
     ·rw[z01 hne,z01 hne];exact Int.le_refl _
    ·subst hD3';refine nx3 _ _ (nx18 xs lk fp rfl (hP3.count (z04 _) (λ e he h=>h) (λ e he=>?_) (λ _ _ _ _=>rfl)));have:=d2l (d:=d) (g:=g) (i:=i);split<;>lia
   intro σ H3 hJ';refine b7x λ G' hG'=>?_
   obtain⟨x13,x14,xs,lk,fp,rfl,hP3⟩:=hJ';refine hG' ?_;subst hb2';have hcn:=d4g eo;have hlook:∀ e∈ds,(lkB e (cnt os j e.1)+if e.1=d.1 then c4w d g d.2.2.toNat else 0)<=lkB e (cnt os (j+1) e.1):=λ e he=>by
    rw[hcn];by_cases z:e.1=d.1
    ·have:e=d:=num_inj g2 he hd z;subst this;rw[z02 rfl,z02 rfl,<-hg];exact d7c b4 g0
    ·rw[z01 z,z01 (λ y=>z y.symm)];exact Int.le_of_eq (by simp)
   have hcmk:∀ nn∈mk,∀ n∈nn,(cnt os (j+1) n:Int)=cnt os j n:=λ nn hnn n hn=>by
    rw[hcn,z01 (λ z=>notin nn hnn (by rw[z];exact hn))];simp
   refine⟨λ σ H4=>∃ (x13 x14:Option V) (skv':List (Key×V)),σ=[some (.ref a),some (.ref dl),some (.ref ol),some (.ref Dk),some (.ref st),some (.ref se),some (.ref kn),some (.int d.1),some (.str d.2.1),some (.int d.2.2),some (.int (0+(j:Int))),some (.int g),some (.int cz),x13,x14,none]/\PSt ds ks H0 Sa st L M S [m0,m1,m2,m3] (λ n=>(cnt os (j+1) n:Int)) (λ e=>lkB e (cnt os (j+1) e.1)) (j+1) H4 ls mk skv' xs lk fp,?_,?_⟩
   ·refine nx6 _ rfl _ rfl (nx23 _ rfl d.2.1 d.2.2 rfl rfl _ rfl (a3o (λ e=>?_) (λ e=>?_)))
    ·refine nx1 _ rfl st (nx16 _ rfl hP3.sta.last L _ rfl (.inl (SqL.of hP3.sta.h1)) λ so hso=>?_);have s4:=Same.upd (o:=HO.lst (ls.map V.int)) hso;have hP4:=hP3.same s4;refine nx23 _ rfl st _ rfl hP4.sta.stood _ rfl (nx0 S _ rfl (.inl (nx7 skv (Sum.inl d.1) hP4.sta.h3 rfl ?_ rfl)) (nx18 _ _ (a6s skv (Sum.inl d.1) (.ref so)) rfl ?_))
     ·have:=hP3.slen;lia
     ·refine(hP3.stand F hd s4 hso a0c (c':=λ n=>(cnt os (j+1) n:Int)) (λ e he h=>?_) hcmk).count (z04 _) (λ e he h=>h) hlook (λ _ _ _ _=>rfl);by_cases z:e.1=d.1
      ·exact .inl z
      ·refine .inr ?_;have h':a5c e.2.1 e.2.2 < (cnt os (j+1) e.1:Int):=h;rw[hcn,z01 (λ y=>z y.symm)] at h';simpa using h'
    ·have e':¬ g=a5c d.2.1 d.2.2:=λ z=>e (z07 (z0e V.int z))
     refine nx18 _ _ skv rfl (hP3.count (Nat.le_succ _) (λ f hf h=>?_) hlook hcmk);have h':a5c f.2.1 f.2.2 < (cnt os (j+1) f.1:Int):=h;rw[hcn] at h';by_cases z:f.1=d.1
     ·have:f=d:=num_inj g2 hf hd z;subst this;rw[z02 rfl] at h';show a5c f.2.1 f.2.2 < (cnt os j f.1:Int);lia
     ·rw[z01 (λ y=>z y.symm)] at h';simpa using h'
   rintro σ H4 ⟨x13,x14,skv',rfl,hP4⟩;refine nx35 _ rfl _ rfl _ rfl d.2.1 (nx1 d.2.2 rfl _ (nx28 _ rfl rfl rfl _ rfl (a3o (λ e=>?_) (λ e=>?_))))
   ·have e':g=a2g d.2.1 d.2.2 - 1:=V.int.inj (z0b e);have hcd:(cnt os (j+1) d.1:Int)=a2g d.2.1 d.2.2:=by
     rw[hcn,z02 rfl];lia
    have hfl:=c5l (w:=d.2.1) b4;obtain⟨so,sl,hso,hsl,hsl4⟩:=hP4.stood d hd (by show a5c d.2.1 d.2.2 < (cnt os (j+1) d.1:Int);lia);have hso0:=(a1b hsl).1;refine nx35 _ rfl _ rfl _ rfl cz (nx6 9 rfl _ rfl (nx37 st L M S so ([m0,m1,m2,m3]) ls sl mk (nx33 skv' d.1 _ d.2.1 rfl hP4.sta hso ((a1b hsl).2) hsl4 ?_ ?_ (λ nn hnn=>?_) λ H5 ls' mk' hS5 k5 tn=>?_)))
    ·exact ne2 hso0 (s2 _ _ hStaG.h1)
    ·exact λ z=>by obtain⟨xx,ex⟩:=hms8 so z;exact ne2 hso0 (s2 _ _ ex) rfl
    ·have:=hP3.mlen nn hnn;lia
    ·subst hD';exact nx10 _ _ _ _ _ _ _ (nx10 _ ls' mk' skv' xs lk fp ⟨rfl,hP4.keep F hd hS5 k5 tn notin hcd λ nn hnn=>Nat.lt_succ_of_le (hP3.mlen nn hnn)⟩)
   ·subst hD';exact nx10 _ _ _ _ _ _ _ (nx10 _ ls mk skv' xs lk fp ⟨rfl,hP4⟩)
  intro σ H2 hJ';refine b7x λ G' hG'=>?_
  obtain⟨x7,x8,x9,x10,x11,x12,x13,x14,ls,mk,skv,xs,lk,fp,rfl,hP⟩:=hJ';refine hG' ?_;subst hb';refine a6h λ b' hb'=>?_
  have sH:=old hP;have hD2:=hP.sta;have ek4:∀ i,i < 4->∃ k nn m,ks[i]?=some k/\mk[i]?=some nn/\[m0,m1,m2,m3][i]?=some m:=λ i hi=> nx29 _ _ _ (z0c (by lia)) (z0c (by rw[hD2.n3];exact hi)) (z0c (show i < [m0,m1,m2,m3].length from hi))
  have hsep:∀ {i:Nat} {m:Addr},[m0,m1,m2,m3][i]?=some m->(∀ d∈ds,Sa d.1≠m/\m ∉ fp d.1)/\H1 m=none:=λ {i m} e=>by
   have hm:=z0h e;refine⟨λ d hd=>⟨λ z=>(F.sep d hd).2.1 (z ▸ hm),λ z=>?_⟩,?_⟩
   ·have h1:=(hP.seen d hd).2.2.2 m z;obtain⟨xx,ex⟩:=F.hms m hm;rw[h1] at ex;cases ex
   ·simp only [z06,z1r,z1v] at hm;rcases hm with rfl | rfl | rfl | rfl
    ·exact hf2
    ·exact hf3
    ·exact hf4
    ·exact hf5
  refine⟨4,rfl,by decide,by decide,e4a (k:=1) (fs:=[some (.ref Dk),some (.ref st)]) 4 (λ i=>[m0,m1,m2,m3][i]?.toList) (λ i=>(d5c ks mk i).map a3l) rfl (by decide) (λ i j hij hj b hb hb2=>?_) (λ i hi b hb=>?_) (λ i hi H3 ts R s3 hts cs cn=>?_) (λ D H3 ys f hD s3 hd3 ht3 nf fr3 hDf=>?_)⟩
  ·rw[z47] at hb hb2;obtain⟨a1,a2⟩:=z0i.mp hb;obtain⟨a3,a4⟩:=z0i.mp hb2;have:=(List.getElem_inj hD2.nd).mp (a2.trans a4.symm);lia
  ·rw[z47] at hb;obtain⟨k,nn,m,e1,e2,e3⟩:=ek4 i hi;exact⟨_,hD2.hm i b nn hb e2⟩
  ·obtain⟨t,rfl⟩:=z10.mp hts;obtain⟨k,nn,m,e1,e2,e3⟩:=ek4 i hi;have hS3:=hD2.same s3;have hm2:=hD2.hm i m nn e3 e2;have ai:(0+(i:Int))=((i:Nat):Int):=by lia
   have hvm:atI ([m0,m1,m2,m3].map V.ref) (0+(i:Int))=some (.ref m):=a2d i ai (by rw[z0f,e3];rfl);have hvk:atI (ks.map V.int) (0+(i:Int))=some (.int k):=a2d i ai (by rw[z0f,e1];rfl);refine nx23 _ rfl st _ rfl hS3.makers _ rfl (nx24 M _ _ (.ref m) rfl rfl (SqL.of hS3.h2) hvm (by show 0<=sizeLine;decide) λ el hel=>?_);have s4:=s3.trans (Same.upd (o:=HO.lst []) hel);refine nx14 (.list (nn.map PyData.int)) (.list []) (.lst (SqL.of (s4 _ _ hm2)) (c5f nn)) (.lst (SqL.of a0c) .nil) (c2w nn) rfl _ rfl ?_;by_cases hne:nn=[]
   ·subst hne;have en:d5c ks mk i=none:=by unfold d5c;rw[e1,e2]
    exact cn (by rw[en];rfl) [_] _ rfl (Same.upd hel)
   ·rw[e0d hne];have hS4:=hD2.same s4;have en:=d9j e1 e2 hne;refine nx20 _ rfl _ rfl Dk _ _ _ rfl rfl (SqL.of (s4 _ _ (sH _ _ hk))) hvk (nx23 _ rfl st _ rfl hS4.makers _ rfl (nx24 M _ _ (.ref m) rfl rfl (SqL.of hS4.h2) hvm (by show 2<=sizeLine;decide) λ tt htt=>?_));have s5:=Same.upd (o:=HO.tup [.int k,.ref m]) htt;have ttm:tt≠m:=ne2 htt (s4 _ _ hm2);refine cs (a3l (k,nn)) _ [tt,m] [_] _ (by rw[en];rfl) rfl ((Same.upd hel).trans s5) ?_ ?_ ?_
    ·exact .tup a0c (TFs.cons (f:=[]) (g:=[m]) (.int k) (TFs.one (.lst (f:=[]) (s5 _ _ (s4 _ _ hm2)) (TFs.ints nn))))
    ·exact z15.mpr ⟨λ z=>ttm (z0o.mp z),z36 _ _⟩
    ·intro b hb;rcases z06.mp hb with y | y
     ·rw[y];exact .inl ((Same.upd hel).free htt)
     ·rw[z0o.mp y];exact .inr (by rw[z47];exact e3)
  have emk:(List.range 4).filterMap (λ i=>(d5c ks mk i).map a3l)=(c1m ks mk).map a3l:=by
   unfold c1m;rw[List.map_filterMap]
  rw[emk] at ht3;have sH3:=sH.trans s3;subst hb';have hP3:=hP.same s3;refine nx17 _ rfl dl rfl ⟨_,SqL.of (sH3 _ _ (s1 _ _ hdl))⟩ (e6u (k:=3) (fs:=[some (.ref se)]) ds (λ d=>Sa d.1::fp d.1) d8e (λ d=>a3a (d.1,d.2.1,lk d.1)) rfl (sH3 _ _ (s1 _ _ hdl)) ((htd.same s1).same sH3) (by lia) ?_ (λ d hd b hb=>?_) (λ d hd H4 ts v R s4 hts tr cs=>?_) (λ D2 H4 zs f2 hD2' s4 hd4 ht4 nf2 fr4 hDf2=>?_))
  ·have hup:ds.Pairwise λ a c=>a.1 < c.1:=z2p.mp g2
   refine List.Pairwise.imp_of_mem (λ {d e} hd he hlt b hb hb2=>?_) hup;have ne:d.1≠e.1:=Int.ne_of_lt hlt;have sl:∀ {x y:Drn},x∈ds->y∈ds->Sa x.1 ∉ fp y.1:=λ {x y} hx hy z=>by
    have h1:=(hP.seen y hy).2.2.2 _ z;obtain⟨xx,ex⟩:=F.hSa x hx;rw[h1] at ex;cases ex
   rcases z06.mp hb with y | y
   ·rcases z06.mp hb2 with x | x
    ·exact ne (F.inj d hd e he (x.symm.trans y))
    ·exact sl he hd (y ▸ x)
   ·rcases z06.mp hb2 with x | x
    ·exact sl hd he (x ▸ y)
    ·exact hP.dis d hd e he ne b x y
  ·obtain⟨q1,q2,_⟩:=hP3.seen d hd;rcases z06.mp hb with y | y
   ·rw[y];exact⟨_,q1⟩
   ·rcases q2.live b y with ⟨xx,ex⟩ | ⟨xx,ex⟩
    ·exact⟨_,ex⟩
    ·exact⟨_,ex⟩
  ·obtain⟨t1,t2,t3,rfl⟩:∃ t1 t2 t3,ts=[t1,t2,t3]:=My.us3 hts;obtain⟨pt,rfl,hpt⟩:=tr.drn;have hsv4:=s4 _ _ (s3 _ _ (hP.dict F hsv seS));have hgs:b1j H4 se (.int d.1) (some (.ref (Sa d.1))):=by
    have:=b1j.k (k:=Sum.inl d.1) hsv4;rw[(hal d hd).1] at this;exact this
   obtain⟨hs1,hs2,hs3,hs4⟩:=hP3.seen d hd;refine nx34 pt _ rfl (SqT.of hpt) rfl _ _ rfl _ _ rfl (nx31 _ _ rfl rfl _ rfl (nx30 _ rfl _ rfl _ rfl se _ rfl hgs ⟨(by show 3<=sizeLine;decide),λ tt htt=>?_⟩));have s5:=Same.upd (o:=HO.tup [.int d.1,.str d.2.1,.ref (Sa d.1)]) htt;have nSa:Sa d.1 ∉ fp d.1:=λ z=>by
    obtain⟨xx,ex⟩:=F.hSa d hd;rw[hs4 _ z] at ex;cases ex
   have ntt:tt ∉ Sa d.1::fp d.1:=λ z=>by
    rcases z06.mp z with y | y
    ·exact ne2 htt (s4 _ _ hs1) y
    ·exact(hs2.same s4).not htt y
   refine cs _ (tt::Sa d.1::fp d.1) [_,_,_] _ rfl s5 ?_ (z15.mpr ⟨ntt,z15.mpr ⟨nSa,hs3⟩⟩) (λ b hb=>?_)
   ·exact .tup a0c (TFs.cons (f:=[]) (.int _) (TFs.cons (f:=[]) (.str _) (TFs.one (.lst (s5 _ _ (s4 _ _ hs1)) ((hs2.same s4).same s5)))))
   ·rcases z06.mp hb with y | y
    ·rw[y];exact .inl htt
    ·exact .inr y
  refine⟨_,rfl,(by show 2<=sizeLine;decide),λ z hz=>?_⟩;have s5:=Same.upd (o:=HO.tup [.ref D2,.ref D]) hz;have s45:=s4.trans s5;have em:ds.map (λ d=>a3a (d.1,d.2.1,lk d.1))=(ds.map λ d=>(d.1,d.2.1,lk d.1)).map a3a:=by rw[z0t];rfl
  rw[em] at ht4;have zD2:z≠D2:=ne2 hz hd4;have zD:z≠D:=ne2 hz (s4 _ _ hd3);have DD:D2≠D:=ne2 hD2' hd3;have zf:z ∉ f:=λ y=>(ht3.same s4).not hz y
  have zf2:z ∉ f2:=λ y=>ht4.not hz y
  have liveO:∀ d∈ds,∀ b∈Sa d.1::fp d.1,H2 b≠none:=λ d hd b hb e=>by
   obtain⟨q1,q2,_⟩:=hP.seen d hd;rcases z06.mp hb with y | y
   ·rw[y,q1] at e;cases e
   ·exact q2.not e y
  have D2f:D2 ∉ f:=λ y=>ht3.not hD2' y
  have Df2:D ∉ f2:=λ y=>by
   rcases fr4 D y with e | ⟨d,hd,e⟩
   ·rw[hd3] at e;cases e
   ·exact liveO d hd D e hD
  have ff2:∀ x∈f,x ∉ f2:=λ x hx y=>by
   rcases fr4 x y with e | ⟨d,hd,e⟩
   ·exact ht3.not e hx
   ·rcases fr3 x hx with e2 | ⟨i,hi,e2⟩
    ·exact liveO d hd x e e2
    ·rw[z47] at e2;have:=(hsep e2).1 d hd;rcases z06.mp e with y2 | y2
     ·exact this.1 y2.symm
     ·exact this.2 y2
  have frees:∀ b,H1 b=none->H b=none:=λ b e=>s1.free e
  refine q _ _ (ds.map (λ d=>(d.1,d.2.1,lk d.1)),c1m ks mk) (z::((D2::f2)++(D::f))) ((s1.trans sH3).trans s45) (.tup a0c (TFs.cons (.lst (s5 _ _ hd4) (ht4.same s5)) (TFs.one (.lst (s45 _ _ hd3) (ht3.same s45))))) ?_ (λ b hb=>?_) ?_
  ·refine z15.mpr ⟨λ y=>?_,nd2.mpr ⟨z15.mpr ⟨hDf2,nf2⟩,z15.mpr ⟨hDf,nf⟩,λ x hx y=>?_⟩⟩
   ·rcases z08.mp y with y | y
    ·rcases z06.mp y with y | y
     ·exact zD2 y
     ·exact zf2 y
    ·rcases z06.mp y with y | y
     ·exact zD y
     ·exact zf y
   ·rcases z06.mp hx with x1 | x1
    ·rcases z06.mp y with y | y
     ·exact DD (y.symm.trans x1)
     ·exact Df2 (x1 ▸ y)
    ·rcases z06.mp y with y | y
     ·exact D2f (y ▸ x1)
     ·exact ff2 x x1 y
  ·have f1:∀ b,H2 b=none->H b=none:=λ b e=>frees b (sH.free e)
   rcases z06.mp hb with y | y
   ·rw[y];exact f1 z (s3.free (s4.free hz))
   rcases z08.mp y with y | y
   ·rcases z06.mp y with y | y
    ·rw[y];exact f1 D2 (s3.free hD2')
    ·rcases fr4 b y with e | ⟨d,hd,e⟩
     ·exact f1 b (s3.free e)
     ·rcases z06.mp e with e | e
      ·rw[e];exact frees _ (sG.free (hal d hd).2.2.1)
      ·exact frees b (sG.free (s2.free ((hP.seen d hd).2.2.2 b e)))
   ·rcases z06.mp y with y | y
    ·rw[y];exact f1 D hD
    ·rcases fr3 b y with e | ⟨i,hi,e⟩
     ·exact f1 b e
     ·rw[z47] at e;exact frees b (hsep e).2
  ·have hfew:∀ e∈ds,(lk e.1).length<=7/\(3 < ds.length->(lk e.1).length<=3):=λ e he=>by
    have h1:=hP.few e he;have h2:=d7r (d:=e) (c:=(cnt os ((oxs.length:Nat):Int).toNat e.1:Int)) (g3 e he).2.2.2.1;have h3:=(g3 e he).2.2.2.2;refine⟨by lia,λ h=>?_⟩;have:=g4 h e he;lia
   have h18:∀ ns∈mk,∀ n∈ns,1<=n/\n<=8:=λ ns hns n hn=>by
    obtain⟨d,hd,e1,_⟩:=(hP.mks ns hns).2 n hn;rw[<-e1];exact⟨(g3 d hd).1,(g3 d hd).2.1⟩
   refine⟨λ d hd=>?_,λ d hd l hl x hx=>?_,λ m hm=>?_,?_⟩
   ·obtain⟨e,he,rfl⟩:=z0a.mp hd;have:=g3 e he;exact⟨by show 0<=e.1;lia,by show e.1<=9;lia,this.2.2.1⟩
   ·obtain⟨e,he,rfl⟩:=z0a.mp hd;obtain⟨i,hi,r1,r2⟩:=(hP.lks e he l hl).2.2 x hx;refine⟨gk3 _ (z0h r1),?_⟩;rcases r2 with r2 | r2 | ⟨_,nn,r3,r4⟩
    ·lia
    ·lia
    ·have:=h18 nn (z0h r3) _ r4;lia
   ·obtain⟨i,hi,e⟩:=z27.mp hm;obtain⟨r1,r2,r3⟩:=c0k e;refine⟨gk3 _ (z0h r1),r3,λ n hn=>?_⟩;have:=h18 _ (z0h r2) n hn;lia
   ·have hwM:((c1m ks mk).map wM).sum<=408:=by
     have h1:=a1w (l:=c1m ks mk) (f:=wM) (g:=λ _=>102) λ m hm=>by
      obtain⟨i,hi,e⟩:=z27.mp hm;obtain⟨r1,r2,r3⟩:=c0k e;have:=hP.mlen _ (z0h r2);show 38+2*m.2.length<=102;lia
     rw[a6w] at h1;have h2:(c1m ks mk).length<=4:=by
      unfold c1m;exact z0s (List.length_filterMap_le _ _) (by rw[z4p];exact z04 _)
     lia
    have hwl:∀ e∈ds,((lk e.1).map wL).sum<=139*(lk e.1).length:=λ e he=>by
     have h1:=a1w (l:=lk e.1) (f:=wL) (g:=λ _=>139) λ l hl=>by
      have:=(hP.lks e he l hl).2.1;show 34*l.length+3<=139;lia
     rw[a6w] at h1;exact h1
    have hwD:((ds.map λ d=>((d.1,d.2.1,lk d.1):Dl)).map wD).sum<=3416:=by
     rw[z0t];by_cases h3:3 < ds.length
     ·have h1:=a1w (l:=ds) (f:=wD ∘ λ d=>((d.1,d.2.1,lk d.1):Dl)) (g:=λ _=>427) λ e he=>by
       have:=hwl e he;have:=(hfew e he).2 h3;show 10+((lk e.1).map wL).sum<=427;lia
      rw[a6w] at h1;lia
     ·have h1:=a1w (l:=ds) (f:=wD ∘ λ d=>((d.1,d.2.1,lk d.1):Dl)) (g:=λ _=>983) λ e he=>by
       have:=hwl e he;have:=(hfew e he).1;show 10+((lk e.1).map wL).sum<=983;lia
      rw[a6w] at h1;lia
    show ((ds.map λ d=>((d.1,d.2.1,lk d.1):Dl)).map wD).sum+((c1m ks mk).map wM).sum<=3824;lia
--@STAGE
theorem d3j:W.kitOne K (.type "list") (.type "list")=some true:=by
 show (if (Value.type "list" == Value.type "list")=true then some true else if W.kitMeta "list"=true then (fastBuiltinMro "list").map (·.contains (Value.type "list")) else none)=some true;decide +kernel
theorem e2w:W.kitOne K (.type "list") (.type "tuple")=some false:=by
 show (if (Value.type "list" == Value.type "tuple")=true then some true else if W.kitMeta "tuple"=true then (fastBuiltinMro "list").map (·.contains (Value.type "tuple")) else none)=some false;decide +kernel
theorem d8v:W.kitOne K (.type "tuple") (.type "list")=some false:=by
 show (if (Value.type "tuple" == Value.type "list")=true then some true else if W.kitMeta "list"=true then (fastBuiltinMro "tuple").map (·.contains (Value.type "list")) else none)=some false;decide +kernel
theorem e3s:W.kitOne K (.type "int") (.type "list")=some false:=by
 show (if (Value.type "int" == Value.type "list")=true then some true else if W.kitMeta "list"=true then (fastBuiltinMro "int").map (·.contains (Value.type "list")) else none)=some false;decide +kernel
theorem e2v:W.kitOne K (.type "int") (.type "tuple")=some false:=by
 show (if (Value.type "int" == Value.type "tuple")=true then some true else if W.kitMeta "tuple"=true then (fastBuiltinMro "int").map (·.contains (Value.type "tuple")) else none)=some false;decide +kernel
theorem e4d:W.kitOne K (.type "str") (.type "list")=some false:=by
 show (if (Value.type "str" == Value.type "list")=true then some true else if W.kitMeta "list"=true then (fastBuiltinMro "str").map (·.contains (Value.type "list")) else none)=some false;decide +kernel
theorem e3x:W.kitOne K (.type "str") (.type "tuple")=some false:=by
 show (if (Value.type "str" == Value.type "tuple")=true then some true else if W.kitMeta "tuple"=true then (fastBuiltinMro "str").map (·.contains (Value.type "tuple")) else none)=some false;decide +kernel
theorem e4e:W.kitAny K (.type "int") (["list","tuple"].map Value.type)=some false:=by
 show W.kitAny K (.type "int") [.type "list",.type "tuple"]=_;simp only [W.kitAny,e3s,e2v]
theorem e4x:W.kitAny K (.type "str") (["list","tuple"].map Value.type)=some false:=by
 show W.kitAny K (.type "str") [.type "list",.type "tuple"]=_;simp only [W.kitAny,e4d,e3x]
theorem e5a:W.kitAny K (.type "list") (["list","tuple"].map Value.type)=some true:=by
 show W.kitAny K (.type "list") [.type "list",.type "tuple"]=_;simp only [W.kitAny,d3j]
theorem e5e:W.kitAny K (.type "tuple") (["list","tuple"].map Value.type)=some true:=by
 show W.kitAny K (.type "tuple") [.type "list",.type "tuple"]=_;simp only [W.kitAny,d8v,d1l]
theorem b4g:∀ {ds:List PyData} {i:Nat} {d:PyData},ds[i]?=some d->d.depth<=PyData.depthAll ds
 | [],i,d,e=>by simp at e
 | x::r,0,d,e=>by
  cases e;show x.depth<=max x.depth (PyData.depthAll r);lia
 | x::r,i+1,d,e=>by
  have:=b4g (ds:=r) (i:=i) (d:=d) (by simpa using e);show d.depth<=max x.depth (PyData.depthAll r);lia
def b5f (n:Nat):Sp:=λ vs H Q _=>∃ (v u:V) (d:PyData),vs=[v,u]/\Tr H v d/\Tr H u d/\d.depth < n/\∀ H',Same H H'->Q (.bl true) H'
def e1o:Sp:=λ vs H Q _=>∃ k sr:Int,vs=[.int k,.int sr]/\Bd k/\Bd sr/\-1<=sr/\Q (.str (a1n (k,sr))) H
def e1y:Sp:=λ vs H Q _=>∃ (v:V) (p:Ps),vs=[v]/\Tr H v (a3r p)/\BdP p/\(∀ d∈p.1,∀ l∈d.2.2,∀ x∈l,-1<=x.2)/\cP p<=20000/\∀ H',Same H H'->Q (.str (a5f p)) H'
theorem c7l (T:Tx K mg):T.a4t.Ok P w base 0 (b5f 0) :=
 ⟨λ vs H Q E h=>by obtain⟨v,u,d,rfl,_⟩:=h;rfl,λ A outer s H args us vs Q E _ _ _ _ h=>by obtain⟨v,u,d,_,_,_,h0,_⟩:=h;exact absurd h0 (Nat.not_lt_zero _)⟩
theorem c8k (T:Tx K mg) {n:Nat} (ih:b0w P w K mg base CX0 n T.a4t.f T.a4t.d ["_law_found","_law_due_here"] (b5f n)):b0w P w K mg base CX0 (n+1) T.a4t.f T.a4t.d ["_law_found","_law_due_here"] (b5f (n+1)):=by
 refine okF T.a4t.F b9h λ _ _ _ _ H _ Q _ hr h=>?_
 ·obtain⟨v,u,d,rfl,hv,hu',hd,q⟩:=h;refine⟨_,(a0d (a1g (a3q (a0q (d2v (K:=K) rfl) (by rfl) T.a1q z2b (a0a (pv 1) (a0a (a3p (a0a (a6v (v:=V.ty "list") rfl T.b7l boot_list rfl) (a0a (a6v (v:=V.ty "tuple") rfl T.b5n boot_tuple rfl) a0b))) a0b))))
   (a0d (a1g (PW.pt (b2b (a3q (a0q a6m (by rfl) T.a1q z2b (a0a (pv 1) (a0a (a6v (v:=V.ty "list") rfl T.b7l boot_list rfl) a0b)))) (a8e (a6n (a3q (a0q a6m (by rfl) T.a1q z2b (a0a (pv 0) (a0a (a6v (v:=V.ty "list") rfl T.b7l boot_list rfl) a0b))))))))
   (a0f (a0p a7l))
   a0n)
   (a0d (a1g (PW.pt (b2b (a3q (a0q a6m (by rfl) T.a1q z2b (a0a (pv 1) (a0a (a6v (v:=V.ty "tuple") rfl T.b5n boot_tuple rfl) a0b)))) (a8e (a6n (a3q (a0q a6m (by rfl) T.a1q z2b (a0a (pv 0) (a0a (a6v (v:=V.ty "tuple") rfl T.b5n boot_tuple rfl) a0b))))))))
   (a0f (a0p a7l))
   a0n)
   (a0d (a1g (a0i b6m (a0q a1k (by rfl) T.a4f z0z (a0a (pv 0) a0b)) (a0q a1k (by rfl) T.a4f z0z (a0a (pv 1) a0b)) (a0o _))
   (a0f (a0p a7l))
   a0n)
   (a0d (a2r z11 rfl (d8u rfl T.d4t (a0a (pv 0) (a0a (pv 1) a0b))) (a8i rfl (a0w (pgm 2 b9h.nd) (a0w (pgm 3 b9h.nd) a4h)))
   (a0f (a1g (a6n (a3q (a5s ih hr rfl T.a4t.m T.a4t.F.kp T.a4t.b .nil e3q (a0a (pv 2) (a0a (pv 3) a0b)))))
   (a0f (a0p a7l))
   a0n)))
   (a0f (a0p a7l))))))
   a0n)
   (a0d (a1g (a3q (a0q a6m (by rfl) T.a1q z2b (a0a (pv 1) (a0a (a6v (v:=V.ty "str") rfl T.b4b boot_str rfl) a0b))))
   (a0f (a0p (b0i (a0q a6m (by rfl) T.a1q z2b (a0a (pv 0) (a0a (a6v (v:=V.ty "str") rfl T.b4b boot_str rfl) a0b))) (b1l (a4p a2j (pv 0) (pv 1) (a0o _))))))
   a0n)
   (a0f (a0p (b0i (a0q a6m (by rfl) T.a1q z2b (a0a (pv 0) (a0a (a6v (v:=V.ty "int") rfl T.c1u boot_int rfl) a0b))) (b0i (d8y (a0q a6m (by rfl) T.a1q z2b (a0a (pv 0) (a0a (a6v (v:=V.ty "bool") rfl T.d3o boot_bool rfl) a0b)))) (b1l (a4p a2j (pv 0) (pv 1) (a0o _))))))))),?_⟩
  cases hv with
  | int i =>
   cases hu';refine⟨_,rfl,(by show 2<=sizeLine;decide),λ tp htp=> nx32 _ tp (["list","tuple"]) (nx14 _ _ rfl a0c (.int i) e4e _ rfl (a7h ?_))⟩;refine nx38 _ rfl _ _ _ (nx28 _ rfl (.int i) e4u _ rfl (a7h ?_));refine nx38 _ rfl _ _ _ (nx28 _ rfl (.int i) e5c _ rfl (a5m (nx11 _ rfl _ _ _ _ rfl (.int i) e3v (nx6 _ rfl _ rfl (a5m (nx17 _ rfl _ rfl rfl ?_))))));show Q (.bl (decide (V.int i=V.int i))) _;rw[z07 rfl];exact q _ (Same.upd htp)
  | str x =>
   cases hu';refine⟨_,rfl,(by show 2<=sizeLine;decide),λ tp htp=> nx32 _ tp (["list","tuple"]) (nx14 _ _ rfl a0c (.str x) e4x _ rfl (a7h ?_))⟩;refine nx38 _ rfl _ _ _ (nx28 _ rfl (.str x) d8t _ rfl (a5m ?_));refine nx38 _ rfl _ _ _ (nx28 _ rfl (.str x) d8t _ rfl (a5m (nx17 _ rfl _ rfl rfl ?_)));show Q (.bl (decide (V.str x=V.str x))) _;rw[z07 rfl];exact q _ (Same.upd htp)
  | @lst a xs ds h1 r1 =>
   cases hu' with
   | @lst b ys _ h2 r2 =>
    have l1:xs.length=ds.length:=r1.len;have l2:ys.length=ds.length:=r2.len;refine⟨_,rfl,(by show 2<=sizeLine;decide),λ tp htp=> nx32 _ tp (["list","tuple"]) (nx14 _ _ rfl a0c (.lst ((Same.upd htp) _ _ h2)) e5a _ rfl (a5m ?_))⟩;have s1:=Same.upd (o:=HO.tup [.ty "list",.ty "tuple"]) htp;have g1:=s1 _ _ h1;have g2:=s1 _ _ h2;have hH:Same H (upd H tp (.tup [.ty "list",.ty "tuple"])):=s1;generalize upd H tp (.tup [.ty "list",.ty "tuple"])=H1 at *;refine nx38 _ rfl _ _ _ (nx28 _ rfl (.lst g2) d3j _ rfl (a5m (nx38 _ rfl _ _ _ (nx28 _ rfl (.lst g1) d3j _ rfl (a7h ?_)))));refine nx38 _ rfl _ _ _ (nx28 _ rfl (.lst g2) e2w _ rfl (a7h (a7h ?_)));refine nx23 _ rfl _ _ rfl (.inl ⟨_,SqL.of g1,rfl⟩) _ rfl (nx22 _ _ rfl (.inl ⟨_,SqL.of g2,rfl⟩) rfl _ ⟨rfl,b9y (by rw[l1,l2]) ?_⟩);refine nx6 _ rfl _ rfl (nx39 _ _ _ _ rfl (.list (SqL.of g1)) (.list (SqL.of g2)) (c9s (xs:=xs) (ys:=ys) (λ i σ H2=>∃ x2 x3:Option V,σ=[some (.ref a),some (.ref b),x2,x3]/\Same H1 H2) (nx12 none none rfl (Same.refl _)) (λ i σ H2 ⟨_,_,_,s2⟩=>⟨a1s (SqL.of (s2 _ _ g1)),a1s (SqL.of (s2 _ _ g2))⟩) ?_ ?_))
    ·rintro i x y σ H2 p hx hy ⟨x2,x3,rfl,s2⟩ hp;obtain⟨d,ed,tx⟩:=r1.get hx;obtain⟨d',ed',ty'⟩:=r2.get hy;rw[ed] at ed';cases ed';have s3:=s2.trans (Same.upd (o:=HO.tup [x,y]) hp);have hdd:d.depth < n:=by
      have:=b4g ed;have h9:PyData.depthAll ds+1 < n+1:=hd;lia
     refine nx34 p _ rfl (SqT.of a0c) rfl _ _ rfl _ _ rfl ⟨rfl,nx6 _ rfl _ rfl (nx2 x y d rfl (tx.same (hH.trans s3)) (ty'.same (hH.trans s3)) hdd λ H3 s4=>⟨_,rfl,a7h (nx12 _ _ rfl (s3.trans s4))⟩)⟩
    ·rintro σ H2 ⟨x2,x3,rfl,s2⟩;exact q H2 (hH.trans s2)
  | @tup a xs ds h1 r1 =>
   cases hu' with
   | @tup b ys _ h2 r2 =>
    have l1:xs.length=ds.length:=r1.len;have l2:ys.length=ds.length:=r2.len;refine⟨_,rfl,(by show 2<=sizeLine;decide),λ tp htp=> nx32 _ tp (["list","tuple"]) (nx14 _ _ rfl a0c (.tup ((Same.upd htp) _ _ h2)) e5e _ rfl (a5m ?_))⟩;have s1:=Same.upd (o:=HO.tup [.ty "list",.ty "tuple"]) htp;have g1:=s1 _ _ h1;have g2:=s1 _ _ h2;have hH:Same H (upd H tp (.tup [.ty "list",.ty "tuple"])):=s1;generalize upd H tp (.tup [.ty "list",.ty "tuple"])=H1 at *;refine nx38 _ rfl _ _ _ (nx28 _ rfl (.tup g2) d8v _ rfl (a7h (a7h ?_)));refine nx38 _ rfl _ _ _ (nx28 _ rfl (.tup g2) d1l _ rfl (a5m (nx38 _ rfl _ _ _ (nx28 _ rfl (.tup g1) d1l _ rfl (a7h ?_)))));refine nx23 _ rfl _ _ rfl (.inr ⟨_,SqT.of g1,rfl⟩) _ rfl (nx22 _ _ rfl (.inr ⟨_,SqT.of g2,rfl⟩) rfl _ ⟨rfl,b9y (by rw[l1,l2]) ?_⟩);refine nx6 _ rfl _ rfl (nx39 _ _ _ _ rfl (.tup (SqT.of g1)) (.tup (SqT.of g2)) (c9s (xs:=xs) (ys:=ys) (λ i σ H2=>∃ x2 x3:Option V,σ=[some (.ref a),some (.ref b),x2,x3]/\Same H1 H2) (nx12 none none rfl (Same.refl _)) (λ i σ H2 ⟨_,_,_,s2⟩=>⟨c1f (SqT.of (s2 _ _ g1)),c1f (SqT.of (s2 _ _ g2))⟩) ?_ ?_))
    ·rintro i x y σ H2 p hx hy ⟨x2,x3,rfl,s2⟩ hp;obtain⟨d,ed,tx⟩:=r1.get hx;obtain⟨d',ed',ty'⟩:=r2.get hy;rw[ed] at ed';cases ed';have s3:=s2.trans (Same.upd (o:=HO.tup [x,y]) hp);have hdd:d.depth < n:=by
      have:=b4g ed;have h9:PyData.depthAll ds+1 < n+1:=hd;lia
     refine nx34 p _ rfl (SqT.of a0c) rfl _ _ rfl _ _ rfl ⟨rfl,nx6 _ rfl _ rfl (nx2 x y d rfl (tx.same (hH.trans s3)) (ty'.same (hH.trans s3)) hdd λ H3 s4=>⟨_,rfl,a7h (nx12 _ _ rfl (s3.trans s4))⟩)⟩
    ·rintro σ H2 ⟨x2,x3,rfl,s2⟩;exact q H2 (hH.trans s2)
theorem c1t (T:Tx K mg):∀ n:Nat,b0w P w K mg base CX0 n T.a4t.f T.a4t.d ["_law_found","_law_due_here"] (b5f n)
 | 0=>c7l T
 | n+1=>c8k T (c1t T n)
theorem d5w (T:Tx K mg):T.a4t.Ok P w base 7 (b5f 7):=c1t T 7
theorem d5j (T:Tx K mg):T.c3p.Ok P w base 1 e1o:=by
 refine okF T.c3p.F d5x λ _ _ _ _ _ _ _ _ _ h=>?_
 ·obtain⟨k,sr,rfl,b1,b2,hs,q⟩:=h;refine⟨_,(a0d (a1g (a0i b3e (pv 1) a0e (a0o _))
   (a0f (a0p (a0l a0r (a2i a6a (by rfl) T.b4b boot_str (a0a (pv 0) a0b)) a0j)))
   a0n)
   (a0f (a0p (a0l a0r (a0l a0r (a2i a6a (by rfl) T.b4b boot_str (a0a (pv 0) a0b)) a0j) (a2i a6a (by rfl) T.b4b boot_str (a0a (pv 1) a0b)))))),?_⟩
  have z9:(99:Nat)<=sizeLine:=by decide
  have l1:=a1z b1;have l2:=a1z b2;have c1:("<?":Str).length=2:=by decide +kernel
  have c2:("<":Str).length=1:=by decide +kernel
  refine nx23 _ rfl _ _ rfl rfl _ rfl (a3o (λ e=>?_) (λ e=>?_))
  ·have e':sr=-1:=by
    have:sr < 0:=z0b e;lia
   refine nx6 _ rfl _ rfl (.inl (nx42 k rfl (a6e b1) _ _ rfl rfl (by show (num k).length+("<?":Str).length<=_;lia) ?_));have ee:a1n (k,sr)=num k++("<?":Str):=by
    rw[e'];refine z0n ?_;unfold a1n;rw[a0g,a0g,a0g,show ("<?":Str).cps.toList=[60,63] from by decide +kernel,show b3f (k,(-1:Int)).2=(⟨#[63]⟩:Str) from rfl];simp
   rw[ee] at q;exact q
  ·have e':¬ sr=-1:=λ z=>e (z07 (by lia))
   refine nx6 _ rfl _ rfl (.inl (nx42 k rfl (a6e b1) _ _ rfl rfl (by show (num k).length+("<":Str).length<=_;lia) (nx6 _ rfl _ rfl (.inl (nx42 sr rfl (a6e b2) _ _ rfl rfl (by show (num k++("<":Str)).length+(num sr).length<=_;rw[z0d];lia) ?_)))));have ee:a1n (k,sr)=num k++("<":Str)++num sr:=by
    unfold a1n b3f;rw[z01 e',show ("<":Str)=⟨#[60]⟩ from by decide +kernel]
   rw[ee] at q;exact q
theorem b4u (h:∀ d∈ds,d.canLay0=true):PyData.canLayAll0 ds=true:=by
 induction ds with
 | nil=>rfl
 | cons d r ih =>
  show (d.canLay0 && PyData.canLayAll0 r)=true;rw[h d z0g,ih λ e he=>h e (z0p _ he)];rfl
theorem a9f (h:∀ d∈ds,d.depth<=n):PyData.depthAll ds<=n:=by
 induction ds with
 | nil=>exact z0x _
 | cons d r ih =>
  have h1:=h d z0g;have h2:=ih λ e he=>h e (z0p _ he)
  show max d.depth (PyData.depthAll r)<=n;lia
theorem b3h (l:Lk):(a4k l).canLay0=true/\(a4k l).depth<=2:=by
 refine⟨b4u λ d hd=>?_,?_⟩
 ·obtain⟨p,_,rfl⟩:=z0a.mp hd;rfl
 ·have:PyData.depthAll (l.map a5g)<=1:=a9f λ d hd=>by
   obtain⟨p,_,rfl⟩:=z0a.mp hd;exact z04 1
  show PyData.depthAll (l.map a5g)+1<=2;lia
theorem c5u (h:d.2.1∈a8r):(a3a d).canLay0=true/\(a3a d).depth<=4:=by
 have hs:∀ x∈a8r,(PyData.str x).canLay0=true:=by decide +kernel
 refine⟨?_,?_⟩
 ·show (true && ((PyData.str d.2.1).canLay0 && (PyData.canLayAll0 (d.2.2.map a4k) && true)))=true;rw[hs _ h,b4u λ e he=>by obtain⟨l,_,rfl⟩:=z0a.mp he;exact(b3h l).1];rfl
 ·have:PyData.depthAll (d.2.2.map a4k)<=2:=a9f λ e he=>by
   obtain⟨l,_,rfl⟩:=z0a.mp he;exact(b3h l).2
  show max 0 (max 0 (max (PyData.depthAll (d.2.2.map a4k)+1) 0))+1<=4;lia
theorem c6m (m:Mkr):(a3l m).canLay0=true/\(a3l m).depth<=2:=by
 refine⟨?_,?_⟩
 ·show (true && (PyData.canLayAll0 (m.2.map PyData.int) && true))=true;rw[b4u λ e he=>by obtain⟨l,_,rfl⟩:=z0a.mp he;rfl];rfl
 ·have:PyData.depthAll (m.2.map PyData.int)<=0:=a9f λ e he=>by
   obtain⟨l,_,rfl⟩:=z0a.mp he;exact z04 0
  show max 0 (max (PyData.depthAll (m.2.map PyData.int)+1) 0)+1<=2;lia
theorem d6b (h:∀ d∈p.1,d.2.1∈a8r):(a3r p).canLay0=true/\(a3r p).depth < 7/\SeqAt.shaped (a3r p)=true:=by
 have h1:(a3r p).canLay0=true:=by
  show (PyData.canLayAll0 (p.1.map a3a) && (PyData.canLayAll0 (p.2.map a3l) && true))=true;rw[b4u λ e he=>by obtain⟨d,hd,rfl⟩:=z0a.mp he;exact(c5u (h d hd)).1,b4u λ e he=>by obtain⟨d,hd,rfl⟩:=z0a.mp he;exact(c6m d).1];rfl
 have h2:(a3r p).depth < 7:=by
  have a1:PyData.depthAll (p.1.map a3a)<=4:=a9f λ e he=>by
   obtain⟨d,hd,rfl⟩:=z0a.mp he;exact(c5u (h d hd)).2
  have a2:PyData.depthAll (p.2.map a3l)<=2:=a9f λ e he=>by
   obtain⟨d,hd,rfl⟩:=z0a.mp he;exact(c6m d).2
  show max (PyData.depthAll (p.1.map a3a)+1) (max (PyData.depthAll (p.2.map a3l)+1) 0)+1 < 7;lia
 refine⟨h1,h2,?_⟩;unfold SeqAt.shaped;rw[h1,z07 (by lia)];rfl
theorem c3h (l:Lk):SeqAt.shaped (a4k l)=true:=by
 unfold SeqAt.shaped;rw[(b3h l).1,z07 (by have:=(b3h l).2;lia)];rfl
theorem d3y (l:Lk):PyData.eqv (a4k l) (.list [])=decide (l=[]):=by
 cases l with
 | nil=>rfl
 | cons p r=>rfl
theorem b4k {s:Str}:∀ {l:List Str} (x:Str),l≠[]->Str.join s (l++[x])=Str.join s l++s++x
 | [],_,h=>(h rfl).elim
 | [a],x,_=>rfl
 | a::b::r,x,_=>by
  have ih:=b4k (s:=s) (l:=b::r) x (by simp);show a++s++Str.join s ((b::r)++[x])=a++s++Str.join s (b::r)++s++x;rw[ih];refine z0n ?_;simp only [a0g,z1l]
def c2r (d:Dl) (i:Nat):Dl:=(d.1,d.2.1,d.2.2.take i)
theorem d4k (d:Dl):c2r d d.2.2.length=d:=by
 unfold c2r;rw[z16]
theorem d3b (d:Dl):a0v (c2r d 0)=hdD d:=rfl
theorem d0k {d:Dl} {i:Nat} {l:Lk} (e:d.2.2[i]?=some l):a0v (c2r d (i+1))=a0v (c2r d i)++(if i=0 then ⟨#[32]⟩ else a3v)++a1f l:=by
 have htk:d.2.2.take (i+1)=d.2.2.take i++[l]:=by rw[z1m,e];rfl
 have h1:a0v (c2r d (i+1))=hdD d++⟨#[32]⟩++Str.join a3v ((d.2.2.take i++[l]).map a1f):=by
  unfold a0v;rw[z01 (by show ¬ d.2.2.take (i+1)=[];rw[htk];simp)];show hdD d++⟨#[32]⟩++Str.join a3v ((d.2.2.take (i+1)).map a1f)=_;rw[htk]
 rw[h1];by_cases hi:i=0
 ·subst hi;rw[z02 rfl,d3b];rfl
 ·have hne:d.2.2.take i≠[]:=λ z=>by
   have:=z0e List.length z;have hl:=(z0i.mp e).1;rw[z14,z37] at this;lia
  have h2:a0v (c2r d i)=hdD d++⟨#[32]⟩++Str.join a3v ((d.2.2.take i).map a1f):=z01 hne;rw[z01 hi,h2,z0m,List.map_singleton,b4k _ (by simpa using hne)];refine z0n ?_;simp only [a0g,z1l]
theorem e1e {d:Dl} (h:BdD d) (i:Nat):BdD (c2r d i):=⟨h.1,λ l hl=>h.2 l (z3i hl)⟩
theorem b3o {α:Type} (f:α->Nat):∀ (l:List α) (i:Nat),((l.take i).map f).sum<=(l.map f).sum
 | [],i=>by simp
 | a::r,0=>z0x _
 | a::r,i+1=>by
  have:=b3o f r i;simp only [List.take_succ_cons,z0q,z1j];lia
theorem e4s (d:Dl) (i:Nat):cD (c2r d i)<=cD d:=by
 have:=b3o cL d.2.2 i;show ((d.2.2.take i).map cL).sum+d.2.1.length+1<=(d.2.2.map cL).sum+d.2.1.length+1;lia
def c9g (m:Mkr) (i:Nat):Mkr:=(m.1,m.2.take i)
theorem d6f (d:Mkr):c9g d d.2.length=d:=by
 unfold c9g;rw[z16]
theorem c7j:∀ (l:List Str) (x:Str),Str.join ⟨#[]⟩ (l++[x])=Str.join ⟨#[]⟩ l++x
 | [],x=>by
  refine z0n ?_;rw[a0g];rfl
 | a::r,x=>by
  rw[b4k x (by simp)];refine z0n ?_;simp only [a0g];simp
theorem d3d {m:Mkr} {i:Nat} {n:Int} (e:m.2[i]?=some n):a1a (c9g m (i+1))=a1a (c9g m i)++⟨#[32]⟩++num n:=by
 have htk:m.2.take (i+1)=m.2.take i++[n]:=by rw[z1m,e];rfl
 unfold a1a c9g;dsimp only;rw[htk,z0m,List.map_singleton,c7j];refine z0n ?_;simp only [a0g,z1l]
theorem e2k {d:Mkr} (h:BdM d) (i:Nat):BdM (c9g d i):=⟨h.1,λ l hl=>h.2 l (z3i hl)⟩
theorem e3c (d:Mkr) (i:Nat):cM (c9g d i)<=cM d:=by
 show (d.2.take i).length+1<=d.2.length+1;rw[z14];lia
theorem d7a (T:Tx K mg):T.c3z.Ok P w base 2 e1y:=by
 refine okF T.c3z.F a2t λ _ _ _ _ H _ Q _ hr h=>?_
 ·obtain⟨v,⟨dx,mx⟩,rfl,ht,hb0,hs,hc2,q⟩:=h;obtain⟨a,b,c,xs,ys,rfl,ha,hb,hc,hx,hy⟩:=ht.past;refine⟨_,(a0d (psx 1 a2t.nd (a1l a0b))
   (a0d (a2r z11 rfl (a0z (pix a1c (pv 0) a0e)) (a8i rfl (a0w (pgm 2 a2t.nd) (a0w (pgm 3 a2t.nd) (a0w (pgm 4 a2t.nd) a4h))))
   (a0d (psx 5 a2t.nd (a0l a0r (a0l a0r (a0l a0r (a2i a6a (by rfl) T.b4b boot_str (a0a (pv 2) a0b)) a0j) (pv 3)) a0j))
   (a0d (a2r z11 rfl (a2z rfl T.a4e (a0a (a0q a1k (by rfl) T.a4f z0z (a0a (pv 4) a0b)) a0b)) (pgm 6 a2t.nd)
   (a0d (psx 5 a2t.nd (a0l a0r (pv 5) (pix a1e (a1l (a0a a0j (a0a a0j a0b))) (a2i b4y (by rfl) T.c1u boot_int (a0a (a4p a2j (pv 6) a0e (a0o _)) a0b)))))
   (a0d (psx 5 a2t.nd (a0l a0r (pv 5) (a2l z0y z2h z32 b0r a0j (a0a (pcf ["_law_key","_law_source"] [] [] (a0z (pix a1e (pv 4) (pv 6))) (c2z (K:=K) (n:=2) rfl rfl (a0w (pgn 0) (a0w (pgn 1) a4h))) a2y (pcF T.c3p (d5j T) hr (a0a (pv 0) (a0a (pv 1) a0b)))) a0b))))
   (a0f (a1g (a0i (e3t hr.units) (pix a1e (pv 4) (pv 6)) (a1l a0b) (a0o _))
   (a0f (psx 5 a2t.nd (a0l a0r (pv 5) a0j)))
   a0n)))))
   (a0f (a3i (a2l z1w z23 z20 a2f (pv 1) (a0a (pv 5) a0b)))))))
   (a0d (a2r z11 rfl (a0z (pix a1c (pv 0) a0e)) (a8i rfl (a0w (pgm 7 a2t.nd) (a0w (pgm 8 a2t.nd) a4h)))
   (a0d (psx 5 a2t.nd (a0l a0r (a0l a0r a0j (a2i a6a (by rfl) T.b4b boot_str (a0a (pv 7) a0b))) a0j))
   (a0d (a2r z11 rfl (a0z (pv 8)) (pgm 2 a2t.nd)
   (a0f (psx 5 a2t.nd (a0l a0r (a0l a0r (pv 5) a0j) (a2i a6a (by rfl) T.b4b boot_str (a0a (pv 2) a0b))))))
   (a0f (a3i (a2l z1w z23 z20 a2f (pv 1) (a0a (pv 5) a0b)))))))
   (a0f (a0p (a2l z0y z2h z32 b0r a0j (a0a (pv 1) a0b))))))),?_⟩
  refine b1u λ b' hb'=>?_
  dsimp only at hx hy hs;have z9:(6000000:Nat)<=sizeLine:=by decide
  have hcp:(dx.map cD).sum+(mx.map cM).sum<=20000:=hc2;have hll:=a1x c6l (l:=dx);have hlm:=a1x c6k (l:=mx);have c1:(" ":Str).length=1:=by decide +kernel
  have c2:(":":Str).length=1:=by decide +kernel
  have c3:("make ":Str).length=5:=by decide +kernel
  have c4:("-":Str).length=1:=by decide +kernel
  have c5:("; ":Str).length=2:=by decide +kernel
  have hxl:xs.length=dx.length:=by rw[hx.len,z03]
  have hyl:ys.length=mx.length:=by rw[hy.len,z03]
  refine⟨(by show 0<=sizeLine;decide),λ D hD=>?_⟩;have s1:=Same.upd (o:=HO.lst []) hD;subst hb';refine a6h λ b' hb'=>?_
  refine nx27 _ rfl a _ _ _ rfl rfl (SqT.of (s1 _ _ ha)) (a0k (j:=0) rfl) b rfl ⟨_,SqL.of (s1 _ _ hb)⟩ (a3k (K:=K) (a:=b) (xs:=xs) (λ i σ H2=>∃ (x2 x3 x4 x5 x6:Option V),σ=[some (.ref a),some (.ref D),x2,x3,x4,x5,x6,none,none]/\Same H H2/\H2 D=some (.lst (((dx.take i).map a0v).map V.str)))
   (nx3 none none (nx29 none none none rfl s1 a0c)) (λ i σ H2 _ hJ'=>by obtain⟨_,_,_,_,_,_,s2,_⟩:=hJ';exact SqL.of (s2 _ _ hb)) ?_ ?_)
  ·intro i x σ H2 hxi hJ';refine b7x λ G' hG'=>?_
   obtain⟨x2,x3,x4,x5,x6,rfl,s2,h2⟩:=hJ';obtain⟨pd,hpd,tr⟩:=hx.get hxi;have hi:i < dx.length:=by rw[<-hxl];exact(z0i.mp hxi).1
   have ed:dx[i]?=some dx[i]:=z0c hi;rw[z0f,ed] at hpd;cases hpd;have hdm:dx[i]∈dx:=z1k hi;generalize dx[i]=d at *;obtain⟨p1,p2,ps,rfl,hp1,hp2,hps⟩:=tr.deal;have hbd:=hb0.1 d hdm;have hcd:=a1r (f:=cD) hdm;have hlk:=a1x c6t (l:=d.2.2);have ecd:cD d=(d.2.2.map cL).sum+d.2.1.length+1:=rfl;have l31:=a1z hbd.1;have hpl:ps.length=d.2.2.length:=by rw[hps.len,z03]
   refine hG' ?_;refine b3g λ D' hD'=>?_
   refine nx34 p1 _ rfl (SqT.of (s2 _ _ hp1)) rfl _ _ rfl _ _ rfl (nx0 _ _ rfl rfl ?_);have eh:num d.1++(" ":Str)++d.2.1++(":":Str)=a0v (c2r d 0):=by rw[show (" ":Str)=⟨#[32]⟩ from by decide +kernel,show (":":Str)=⟨#[58]⟩ from by decide +kernel];rfl
   refine b1u λ b2' hb2'=>?_
   refine nx6 _ rfl _ rfl (.inl (nx42 d.1 rfl (a6e hbd.1) _ _ rfl rfl (by show (num d.1).length+(" ":Str).length<=_;lia) (nx19 _ rfl _ _ rfl rfl (by show (num d.1++(" ":Str)).length+d.2.1.length<=_;rw[z0d];lia) (nx7 _ _ rfl rfl (by show (num d.1++(" ":Str)++d.2.1).length+(":":Str).length<=_;rw[z0d,z0d];lia) ?_))));subst hb2';show (b9c.mk (d7q _ _ _) _ _ _).nx [some (.ref a),some (.ref D),some (.int d.1),some (.str d.2.1),some (.ref p2),some (.str (num d.1++(" ":Str)++d.2.1++(":":Str))),x6,none,none] H2;rw[eh];refine a6h λ b2' hb2'=>?_
   refine nx23 _ rfl _ _ rfl (.inl ⟨_,SqL.of (s2 _ _ hp2),rfl⟩) _ rfl ⟨by lia,by lia,a3h (lo:=0) (n:=((ps.length:Nat):Int).toNat) (λ k σ H3=>∃ (x6:Option V),σ=[some (.ref a),some (.ref D),some (.int d.1),some (.str d.2.1),some (.ref p2),some (.str (a0v (c2r d k))),x6,none,none]/\Same H2 H3)
    ⟨x6,rfl,Same.refl _⟩ ?_ ?_⟩
   ·intro k σ H3 hk hJ';refine b7x λ G' hG'=>?_
    obtain⟨x6,rfl,s3⟩:=hJ';refine hG' ?_;refine b3g λ D3' hD3'=>?_
    have s23:=s2.trans s3;have hk':k < d.2.2.length:=by lia
    have el:d.2.2[k]?=some d.2.2[k]:=z0c hk';have hlm:d.2.2[k]∈d.2.2:=z1k hk';obtain⟨lv,hlv,ltr⟩:=hps.at (i:=k) (d:=a4k d.2.2[k]) (by rw[z0f,el];rfl);have enx:=d0k el;generalize d.2.2[k]=l at *;obtain⟨la,ls,rfl,hla,hls⟩:=ltr.look;have hbl:=hbd.2 l hlm;have hcl:=a1r (f:=cL) hlm;have ecl:cL l=l.length+1:=rfl;have b1:=b6x (e1e hbd k);have b2:=e4s d k;have b3:=b8l hbl;have b4:=a5b ⟨#[32]⟩ (l.map a1n);rw[b3a,z03] at b4;obtain⟨sp,esp⟩:∃ sp:Str,(if k=0 then (⟨#[32]⟩:Str) else a3v)=sp:=⟨_,rfl⟩;have hspl:sp.length<=2:=by
     rw[<-esp];split<;>decide
    have hsv:atI [V.str "; ",V.str " "] (if decide (V.int (0+(k:Int))=V.int 0)=true then 1 else 0)=some (.str sp):=by
     by_cases hk0:k=0
     ·subst hk0;rw[z02 rfl] at esp;rw[z02 (by decide),<-esp,show (⟨#[32]⟩:Str)=(" ":Str) from by decide +kernel];rfl
     ·rw[z01 hk0] at esp;rw[z01 (λ z=>hk0 (by have:=V.int.inj (z0b z);lia)),<-esp,show a3v=("; ":Str) from by decide +kernel];rfl
    refine b1u λ b3' hb3'=>?_
    refine⟨_,rfl,(by show 2<=sizeLine;decide),λ p hp=>⟨_,rfl,rfl,.inr (nx21 _ rfl p _ _ _ rfl rfl (SqL.of a0c) hsv (nx7 _ _ rfl rfl (by show (a0v (c2r d k)).length+sp.length<=_;lia) ?_))⟩⟩;have s4:=s23.trans (Same.upd (o:=HO.lst [.str "; ",.str " "]) hp);have s34:=s3.trans (Same.upd (o:=HO.lst [.str "; ",.str " "]) hp);generalize upd H3 p (.lst [.str "; ",.str " "])=H4 at *;have hvl:atI ps (0+(k:Int))=some (.ref la):=a2d k (by lia) hlv;subst hb3';refine a6h λ b3' hb3'=>?_
    refine nx4 _ rfl rfl _ rfl (nx27 _ rfl p2 _ _ _ rfl rfl (SqL.of (s4 _ _ hp2)) hvl la rfl ⟨_,SqL.of (s4 _ _ hla)⟩ (a8h (k:=2) (fs:=[]) l a5g (λ p=>some (.str (a1n p))) rfl (s4 _ _ hla) (hls.same s4) (by lia) (λ pr hpr H5 ts v R s5 hts tr5 cont=>?_) (λ D5 H5 hD5 s5 hd5=>?_)))
    ·obtain⟨t1,t2,rfl⟩:∃ t1 t2,ts=[t1,t2]:=My.us2 hts;obtain⟨pa,rfl,hpa⟩:=tr5.pair;refine nx22 pa _ rfl (SqT.of hpa) rfl _ (nx23 _ rfl _ _ rfl rfl _ rfl (nx19 _ rfl pr.1 pr.2 rfl ((hbl pr hpr).1) ((hbl pr hpr).2) ⟨hs d hdm l hlm pr hpr,?_⟩));exact cont [_,_] H5 rfl (Same.refl _)
    rw[show l.filterMap (λ p=>some (V.str (a1n p)))=(l.map a1n).map V.str from by rw[z0t,<-z1y];rfl] at hd5;refine nx2 _ D5 (l.map a1n) rfl rfl (SqL.of hd5) ?_ (nx7 _ _ rfl rfl ?_ ?_)
    ·rw[c1,z03];lia
    ·show (a0v (c2r d k)++sp).length+(Str.join (" ":Str) (l.map a1n)).length<=_;rw[z0d,show (" ":Str)=⟨#[32]⟩ from by decide +kernel];lia
    have s45:=s4.trans s5;subst hb3';refine nx20 _ rfl _ rfl p2 _ _ _ rfl rfl (SqL.of (s45 _ _ hp2)) hvl ⟨(by show 0<=sizeLine;decide),λ el' hel=> nx14 (a4k l) (.list []) (Tr.dt (.lst ((s45.trans (Same.upd hel)) _ _ hla) (hls.same (s45.trans (Same.upd hel))))) (.lst (SqL.of a0c) .nil) (c3h l) rfl _ rfl ?_⟩;rw[d3y];have s35:=(s34.trans s5).trans (Same.upd (o:=HO.lst []) hel);refine a3o (λ e=>?_) (λ e=>?_)
    ·have e0:l=[]:=z0b e;subst e0;subst hD3';refine nx1 _ rfl _ (nx28 _ rfl rfl ?_ (some (.int (0+(k:Int)))) ?_ s35)
     ·show (a0v (c2r d k)++sp++Str.join (" ":Str) []).length+("-":Str).length<=_;rw[z0d,z0d,show (Str.join (" ":Str) ([]:List Str)).length=0 from by decide +kernel];lia
     ·rw[enx,esp];have:a0v (c2r d k)++sp++Str.join (" ":Str) (([]:Lk).map a1n)++("-":Str)=a0v (c2r d k)++sp++a1f []:=by
       refine z0n ?_;have hJ:(Str.join (" ":Str) (([]:Lk).map a1n)).cps.toList=[]:=by decide +kernel
       have hm:("-":Str).cps.toList=(a1f []).cps.toList:=by decide +kernel
       simp only [a0g,hJ,hm,z1e]
      rw[<-this];rfl
    ·have e0:¬ l=[]:=λ z=>e (z07 z)
     subst hD3';refine⟨some (.int (0+(k:Int))),?_,s35⟩;rw[enx,esp,show a1f l=Str.join (" ":Str) (l.map a1n) from by rw[show (" ":Str)=⟨#[32]⟩ from by decide +kernel];exact z01 e0];rfl
   intro σ H3 hJ';refine b7x λ G' hG'=>?_
   obtain⟨x6,rfl,s3⟩:=hJ';refine hG' ?_;subst hb2';have e9:((ps.length:Nat):Int).toNat=d.2.2.length:=by lia
   rw[e9,d4k];have s23:=s2.trans s3;subst hD';refine nx4 _ rfl (.inl ⟨rfl,_,SqL.of (s3 _ _ h2)⟩) _ rfl (nx2 D _ _ rfl rfl (s3 _ _ h2) ?_ λ H4 h4 k4=> nx3 _ _ (nx29 _ _ _ rfl (λ b o e=>k4 _ _ (λ z=>by rw[z,hD] at e;cases e) (s23 _ _ e)) ?_))
   ·rw[z03,z03,z14];lia
   ·rw[z1m,ed,z0m,z0m];exact h4
  intro σ H2 hJ';refine b7x λ G' hG'=>?_
  obtain⟨x2,x3,x4,x5,x6,rfl,s2,h2⟩:=hJ';refine hG' ?_;subst hb';refine a6h λ b' hb'=>?_
  rw[hxl,z16] at h2;refine nx27 _ rfl a _ _ _ rfl rfl (SqT.of (s2 _ _ ha)) (a0k (j:=1) rfl) c rfl ⟨_,SqL.of (s2 _ _ hc)⟩ (a3k (K:=K) (a:=c) (xs:=ys) (λ i σ H3=>∃ (x2 x3 x4 x5 x6 x7 x8:Option V),σ=[some (.ref a),some (.ref D),x2,x3,x4,x5,x6,x7,x8]/\Same H H3/\H3 D=some (.lst ((dx.map a0v++(mx.take i).map a1a).map V.str)))
   (nx10 x2 x3 x4 x5 x6 none none ⟨rfl,s2,by rw[List.take_zero,List.map_nil,z1e];exact h2⟩) (λ i σ H3 _ hJ'=>by obtain⟨_,_,_,_,_,_,_,_,s3,_⟩:=hJ';exact SqL.of (s3 _ _ hc)) ?_ ?_)
  ·intro i x σ H3 hxi hJ';refine b7x λ G' hG'=>?_
   obtain⟨x2,x3,x4,x5,x6,x7,x8,rfl,s3,h3⟩:=hJ';obtain⟨pd,hpd,tr⟩:=hy.get hxi;have hi:i < mx.length:=by rw[<-hyl];exact(z0i.mp hxi).1
   have ed:mx[i]?=some mx[i]:=z0c hi;rw[z0f,ed] at hpd;cases hpd;have hdm:mx[i]∈mx:=z1k hi;generalize mx[i]=m at *;obtain⟨p1,p2,rfl,hp1,hp2⟩:=tr.make;have hbm:=hb0.2 m hdm;have hcm:=a1r (f:=cM) hdm;have ecm:cM m=m.2.length+1:=rfl;have l31:=a1z hbm.1;refine hG' ?_;refine b3g λ D' hD'=>?_
   refine nx34 p1 _ rfl (SqT.of (s3 _ _ hp1)) rfl _ _ rfl _ _ rfl ⟨rfl,?_⟩;have eh:("make ":Str)++num m.1++(":":Str)=a1a (c9g m 0):=by
    rw[show ("make ":Str)=mkW from by decide +kernel,show (":":Str)=⟨#[58]⟩ from by decide +kernel];refine z0n ?_;unfold a1a c9g;rw[a0g,a0g,a0g,a0g,a0g];show _=_++[];rw[z1e]
   refine b1u λ b2' hb2'=>?_
   refine nx6 _ rfl _ rfl (.inl (nx42 m.1 rfl (a6e hbm.1) _ _ rfl rfl (by show ("make ":Str).length+(num m.1).length<=_;lia) (nx7 _ _ rfl rfl (by show (("make ":Str)++num m.1).length+(":":Str).length<=_;rw[z0d];lia) ?_)));subst hb2';show (b9c.mk (d7q _ _ _) _ _ _).nx [some (.ref a),some (.ref D),x2,x3,x4,some (.str (("make ":Str)++num m.1++(":":Str))),x6,some (.int m.1),some (.ref p2)] H3;rw[eh];refine a6h λ b2' hb2'=>?_
   refine nx17 _ rfl p2 rfl ⟨_,SqL.of (s3 _ _ hp2)⟩ (a3k (K:=K) (a:=p2) (xs:=m.2.map V.int) (λ k σ H4=>∃ (x2:Option V),σ=[some (.ref a),some (.ref D),x2,x3,x4,some (.str (a1a (c9g m k))),x6,some (.int m.1),some (.ref p2)]/\Same H3 H4)
    ⟨x2,rfl,Same.refl _⟩ (λ k σ H4 _ hJ'=>by obtain⟨_,_,s4⟩:=hJ';exact SqL.of (s4 _ _ (s3 _ _ hp2))) ?_ ?_)
   ·intro k x σ H4 hxk hJ';refine b7x λ G' hG'=>?_
    obtain⟨x2,rfl,s4⟩:=hJ';refine hG' ?_;refine b3g λ D3' hD3'=>?_
    rw[z0f] at hxk;cases en:m.2[k]? with
    | none=>rw[en] at hxk;cases hxk
    | some n =>
     rw[en] at hxk;cases hxk;have hbn:=hbm.2 n (z0h en);have ln:=a1z hbn;have b1:=b7g (e2k hbm k);have b2:=e3c m k;subst hD3';refine nx19 _ rfl _ _ rfl rfl (by show (a1a (c9g m k)).length+(" ":Str).length<=_;lia) (nx6 _ rfl _ rfl (.inl (nx26 n rfl (a6e hbn) _ (nx28 _ rfl rfl (by show (a1a (c9g m k)++(" ":Str)).length+(num n).length<=_;rw[z0d];lia) (some (.int n)) ?_ s4))));rw[d3d en,show (⟨#[32]⟩:Str)=(" ":Str) from by decide +kernel];rfl
   intro σ H4 hJ';refine b7x λ G' hG'=>?_
   obtain⟨x2,rfl,s4⟩:=hJ';refine hG' ?_;subst hb2';rw[z03,d6f];have s34:=s3.trans s4;subst hD';refine nx4 _ rfl (.inl ⟨rfl,_,SqL.of (s4 _ _ h3)⟩) _ rfl (nx2 D _ _ rfl rfl (s4 _ _ h3) ?_ λ H5 h5 k5=> nx10 _ _ _ _ _ _ _ ⟨rfl,λ b o e=>k5 _ _ (λ z=>by rw[z,hD] at e;cases e) (s34 _ _ e),?_⟩)
   ·rw[z03,z0r,z03,z03,z14];lia
   ·rw[z1m,ed,z0m (l₂:=(some m).toList),<-z1l,z0m (l₂:=List.map a1a (some m).toList)];exact h5
  intro σ H3 hJ';refine b7x λ G' hG'=>?_
  obtain⟨x2,x3,x4,x5,x6,x7,x8,rfl,s3,h3⟩:=hJ';refine hG' ?_;subst hb';rw[hyl,z16] at h3;have hsum:=c6e hb0;have cn:("\n":Str).length=1:=by decide +kernel
  have hcp2:cP (dx,mx)<=20000:=hc2;dsimp only at hsum;refine ⟨rfl,nx1 _ rfl _ (nx25 D (dx.map a0v++mx.map a1a) rfl rfl (SqL.of h3) ?_ ?_)⟩
  ·rw[cn,z0r,z03,z03];lia
  ·have e:a5f (dx,mx)=Str.join ("\n":Str) (dx.map a0v++mx.map a1a):=by rw[show ("\n":Str)=⟨#[10]⟩ from by decide +kernel];rfl
   show Q (V.str (Str.join ("\n":Str) (dx.map a0v++mx.map a1a))) _;rw[<-e];exact q _ s3
--@STAGE
--@STAGE
def e5l:Sp:=λ vs H Q _=>∃ n:Int,vs=[.int n]/\∀ c:Nat,c < 128->Q (.str ⟨#[c]⟩) H
theorem d4l (T:Tx K mg):T.c2v.Ok P w base 1 e5l:=by
 refine okF T.c2v.F b9u λ _ _ _ _ _ _ _ _ _ h=>?_
 ·obtain⟨n,rfl,k⟩:=h;refine⟨_,(a0d (psx 1 b9u.nd a0j)
   (a0d (psx 1 b9u.nd (a0l a0r (pv 1) a0j))
   (a0f (a0p (pix c5n (pv 1) (a0l a2h (pv 0) (a0q a1k (by rfl) T.a4f z0z (a0a (pv 1) a0b)))))))),?_⟩
  refine nx19 _ rfl _ _ rfl rfl (by decide +kernel) ?_;generalize hz:((" !\"#$&'()*+,-./0123456789:;<=>?@ABCDEFGHIJKLMNOPQRSTUVWXYZ[\\]^_`":Str)++("abcdefghijklmnopqrstuvwxyz{|}~\n":Str))=z;have hl:z.length=95:=by rw[<-hz];decide +kernel
  have hc:∀ c∈z.cps.toList,c < 128:=by rw[<-hz];decide +kernel
  refine nx30 _ rfl _ rfl _ rfl _ _ rfl ⟨by rw[hl];decide,rfl⟩ (nx7 _ _ rfl rfl (by show (0:Int) < (z.length:Int);rw[hl];decide) ?_);obtain⟨c,e⟩:∃ c,atI z.cps.toList (n%(z.length:Int))=some c:=b5j (by rw[hl];lia) (by rw[<-a0t,hl];lia);exact nx2 _ _ c rfl rfl (by rw[hl];decide) e (k c (hc c (b0t e)))
def d5b:Sp:=λ vs H Q _=>∃ n:Int,vs=[.int n]/\∀ y H',a1d 30 y->Same H H'->Q (.str y) H'
def a9u:Sp:=λ vs H Q _=>∃ (x:Str) (wy n:Int),vs=[.str x,.int wy,.int n]/\a1d 3860 x/\∀ y H',a1d 7900 y->Same H H'->Q (.str y) H'
def e7v:List Str:=(["","1 watch:","9 kept:","make 5: 1","make 5:","make 5: ","2 hold: -","3 make: ;","0 loose:"]:List Str)++(["make 4: 1 1","2  loose:","1 kept: 5<0 5<0","4 kept: 6<0 5<0","2 watch: 5<?;","1 watch: "]:List Str)++(["8 hold: 5<0; -; 7<?"]:List Str)
theorem c9f (T:Tx K mg):T.b5o.Ok P w base 1 d5b:=by
 refine okF T.b5o.F a9w λ _ _ _ _ _ _ _ _ _ h=>?_
 ·obtain⟨n,rfl,k⟩:=h;refine⟨_,(a0d (psx 1 a9w.nd (a1l (a0a a0j (a0a a0j (a0a a0j (a0a a0j (a0a a0j (a0a a0j (a0a a0j (a0a a0j (a0a a0j a0b)))))))))))
   (a0d (psx 1 a9w.nd (a0l a6l (pv 1) (a1l (a0a a0j (a0a a0j (a0a a0j (a0a a0j (a0a a0j (a0a a0j a0b)))))))))
   (a0d (psx 1 a9w.nd (a0l a6l (pv 1) (a1l (a0a a0j a0b))))
   (a0f (a0p (pix a1e (pv 1) (a0l a2h (pv 0) a0e))))))),?_⟩
  have hall:∀ y∈e7v,y.length<=30/\∀ c∈y.cps.toList,c < 16 ^ 8:=by decide +kernel
  refine⟨(by show 9<=sizeLine;decide),λ l1 hl1=>⟨_,rfl,(by show 6<=sizeLine;decide),λ l2 hl2=> nx24 l1 l2 _ _ rfl rfl ((Same.upd hl2) _ _ a0c) a0c (by decide) λ l3 hl3=>⟨_,rfl,(by show 1<=sizeLine;decide),λ l4 hl4=> nx24 l3 l4 _ _ rfl rfl ((Same.upd hl4) _ _ a0c) a0c (by decide) λ l5 hl5=> nx15 _ rfl _ rfl _ _ rfl rfl ⟨(by show (0:Int) < 16;decide),?_⟩⟩⟩⟩;obtain⟨v,hv⟩:=b5j (xs:=e7v.map V.str) (i:=n%16) (z1h _ (by decide)) (z1o _ (by decide));obtain⟨y,hy,rfl⟩:=z0a.mp (b0t hv);exact nx8 l5 _ _ _ rfl rfl (SqL.of a0c) hv (k y _ (hall y hy) ((Same.upd hl1).trans ((Same.upd hl2).trans ((Same.upd hl3).trans ((Same.upd hl4).trans (Same.upd hl5))))))
theorem b3u (xs:List V) (k:Nat):d5p xs (some (k:Int)) none=xs.drop k:=by
 unfold d5p;rw[HT.sIx_nat,HT.sIx_none];by_cases h:k<=xs.length
 ·rw[Nat.min_eq_left h,z3f (by rw[z29];exact z04 _)]
 ·rw[z3j (show xs.length<=min k xs.length by lia),z3j (show xs.length<=k by lia),List.take_nil]
theorem d3u (xs:List V) (k:Nat):d5p xs (some (k:Int)) (some ((k:Int)+1))=(xs.drop k).take 1:=by
 unfold d5p;rw[show (k:Int)+1=((k+1:Nat):Int) by push_cast;rfl,HT.sIx_nat,HT.sIx_nat];by_cases h:k+1<=xs.length
 ·rw[Nat.min_eq_left h,Nat.min_eq_left (by lia),show k+1 - k=1 by lia]
 ·rw[z3j (show xs.length<=min k xs.length by lia),z3j (show xs.length<=k by lia),List.take_nil,List.take_nil]
def jw (rs:List Str):Nat:=(rs.map λ r:Str=>r.length+1).sum
theorem b0h (a b:List Str):jw (a++b)=jw a+jw b:=by unfold jw;rw[z0m,z3p]
theorem c5k (a:Str):jw [a]=a.length+1:=by unfold jw;simp
theorem d0a (a:List Str):a.length<=jw a:=a1x λ r=>by show 1<=r.length+1;lia
theorem d2y (a:List Str) (k:Nat):jw (a.take k)+jw (a.drop k)=jw a:=by rw[<-b0h,z4s]
theorem e6j {a:List Str} {k:Nat} {r:Str} (h:a[k]?=some r):jw (a.take k)+(r.length+1)+jw (a.drop (k+1))=jw a:=by
 obtain⟨hk,e⟩:=z0i.mp h;have h1:=d2y a k;rw[z4f hk,e,<-List.singleton_append,b0h,c5k] at h1;lia
theorem c8g {rs:List Str} (h:jw rs<=7900) (hc:∀ r∈rs,a1d 8000 r):a1d 7900 (Str.join ⟨#[10]⟩ rs):=by
 refine⟨?_,λ c hcc=>?_⟩
 ·have h1:=a5b ⟨#[10]⟩ rs;have h2:jw rs=(rs.map (·.length)).sum+rs.length*1:=a8y _ 1 rs;rw[b3a] at h1;lia
 ·rcases b2m _ _ c hcc with z | ⟨r,hr,z⟩
  ·have:c=10:=by simpa using z
   rw[this];decide
  ·exact(hc r hr).2 c z
def WrI (H:Hp) (x:Str) (wy n:Int) (k:Nat) (rs:List Str) (j:Int) (σ:L2.St) (H2:Hp):Prop:=∃ (p2:Addr) (rs2:List Str) (x5:Option V),Same H H2/\H2 p2=some (.lst (rs2.map V.str))/\jw rs2<=7800/\(∀ y∈rs2,a1d 8000 y)/\(j<=wy->rs2=rs)/\σ=[some (.str x),some (.int wy),some (.int n),some (.ref p2),some (.int (k:Int)),x5]
theorem c1x (T:Tx K mg):T.b0m.Ok P w base 2 a9u:=by
 refine okF T.b0m.F a2s λ _ _ _ _ H _ _ _ hr h=>?_
 ·obtain⟨x,wy,n,rfl,hF,q⟩:=h;refine⟨_,(a0d (psx 3 a2s.nd (a2l z0y z2i z2j a4y (pv 0) (a0a a0j a0b)))
   (a0d (psx 4 a2s.nd (a0l a2h (pv 2) (a0q a1k (by rfl) T.a4f z0z (a0a (pv 3) a0b))))
   (a1y (a1g (a0i a2j (pv 1) a0e (a0o _))
   (a0f (psx 3 a2s.nd (a0l a6l (a0l a6l (a0y a5r (pv 3) a1u (a1h (pv 4))) (a1l (a0a (pix a1e (pv 3) (pv 4)) a0b))) (a0y a5r (pv 3) (a1h (pv 4)) a1u))))
   a0n)
   (a1y (a1g (a0i a2j (pv 1) a0e (a0o _))
   (a0d (psx 5 a2s.nd (a0l a6l (a0y a5r (pv 3) (a1h (a0l a2c (pv 4) a0e)) (a1h (a0l a2c (pv 4) a0e))) (a1l (a0a (pix a1e (pv 3) (pv 4)) a0b))))
   (a0f (psx 3 a2s.nd (a0l a6l (a0l a6l (a0y a5r (pv 3) a1u (a1h (pv 4))) (pv 5)) (a0y a5r (pv 3) (a1h (a0l a2c (pv 4) a0e)) a1u)))))
   a0n)
   (a1y (a1g (a0i a2j (pv 1) a0e (a0o _))
   (a0f (psx 3 a2s.nd (a0l a6l (a0y a5r (pv 3) a1u (a1h (pv 4))) (a0y a5r (pv 3) (a1h (a0l a2c (pv 4) a0e)) a1u))))
   a0n)
   (a1y (a1g (a0i a2j (pv 1) a0e (a0o _))
   (a0f (psx 3 a2s.nd (a0l a6l (a0l a6l (a0y a5r (pv 3) a1u (a1h (pv 4))) (a1l (a0a (pcF T.b5o (c9f T) hr (a0a (a0l a4g (pv 2) a0e) a0b)) a0b))) (a0y a5r (pv 3) (a1h (pv 4)) a1u))))
   a0n)
   (a0f (a0p (a2l z0y z2h z32 b0r a0j (a0a (pv 3) a0b)))))))))),?_⟩
  have z9:(20000:Nat)<=sizeLine:=by decide
  have hl:=hF.1;refine nx42 _ rfl rfl x ("\n") rfl rfl (by decide +kernel) ⟨(by lia),λ p hp=>?_⟩;rw[e2f];have hpos:=split_pos x ⟨#[10]⟩;have hjw:jw (Txt.split x ⟨#[10]⟩)<=3861:=by
   have h1:=a8z x ⟨#[10]⟩;have h2:jw (Txt.split x ⟨#[10]⟩)=((Txt.split x ⟨#[10]⟩).map (·.length)).sum+(Txt.split x ⟨#[10]⟩).length*1:=a8y _ 1 _;rw[b3a] at h1;lia
  have hfit:∀ r∈Txt.split x ⟨#[10]⟩,a1d 8000 r:=a2u (hF.mono (by decide));generalize Txt.split x ⟨#[10]⟩=rs at hpos hjw hfit ⊢;have s1:=Same.upd (o:=HO.lst (rs.map V.str)) hp;have g1:=a0c (H:=H) (a:=p) (o:=HO.lst (rs.map V.str));generalize upd H p (HO.lst (rs.map V.str))=H1 at s1 g1;have hlen:(0:Int) < ((rs.map V.str).length:Nat):=by rw[z03];lia
  refine nx15 _ rfl _ rfl _ _ rfl (.inl ⟨_,SqL.of g1,rfl⟩) (nx7 _ _ rfl rfl hlen ?_);obtain⟨k,ek,hk⟩:∃ k:Nat,n%((rs.map V.str).length:Nat)=(k:Int)/\k < rs.length:=by
   have h1:=z1h n (Int.ne_of_gt hlen);have h2:=z1o n hlen;rw[z03] at h2 h1 ⊢;exact⟨(n%(rs.length:Int)).toNat,by lia,by lia⟩
  rw[show (λ i j=>V.int (i%j)) n (((rs.map V.str).length:Nat):Int)=V.int (k:Int) from z0e V.int ek];have er:=z0c hk;generalize rs[k]=r at er;have hat:=e6j er;have hrm:=z0h er;have hlr:=d0a rs;have hix:atI (rs.map V.str) (k:Int)=some (.str r):=a0k (by rw[z0f,er];rfl);have fit1:∀ j,∀ y∈rs.take j,a1d 8000 y:=λ j y hy=>hfit y (z3i hy)
  have fit2:∀ j,∀ y∈rs.drop j,a1d 8000 y:=λ j y hy=>hfit y (z4c hy)
  have l1:=λ j=>d0a (rs.take j)
  have l2:=λ j=>d0a (rs.drop j)
  have c1:=λ j=>d2y rs j
  refine⟨WrI H x wy n k rs 5,?_,?_⟩
  ·refine nx4 _ rfl rfl _ rfl (a3o (λ e=>?_) (λ e=>?_))
   ·have e':wy=4:=V.int.inj (z0b e);refine nx30 _ rfl _ rfl _ rfl p _ rfl (SqL.of g1) λ a1 h1=>?_;rw[b1f,<-z46];have s2:=Same.upd (o:=HO.lst ((rs.take k).map V.str)) h1;refine nx20 _ rfl _ rfl p _ _ _ rfl rfl (SqL.of (s2 _ _ g1)) hix ⟨(by show 1<=sizeLine;decide),λ a2 h2=>?_⟩;have s3:=Same.upd (o:=HO.lst [V.str r]) h2;refine nx24 a1 a2 _ _ rfl rfl (s3 _ _ a0c) a0c ?_ λ a3 h3=>?_
    ·have:=l1 k;have:=c1 k;rw[z03];show _+1<=_;lia
    have s4:=Same.upd (o:=HO.lst ((rs.take k).map V.str++[V.str r])) h3;have s14:=s2.trans (s3.trans s4);refine nx30 _ rfl _ rfl _ rfl p _ rfl (SqL.of (s14 _ _ g1)) λ a4 h4=>?_;rw[b3u,<-List.map_drop];have s5:=Same.upd (o:=HO.lst ((rs.drop k).map V.str)) h4;refine nx24 a3 a4 _ _ rfl rfl (s5 _ _ a0c) a0c ?_ λ a5 h5=>?_
    ·have:=l1 k;have:=l2 k;have:=c1 k;rw[z0r,z03,z03];show _+1+_<=_;lia
    refine nx44 a5 (rs.take k++[r]++rs.drop k) _ (s1.trans (s14.trans (s5.trans (Same.upd h5)))) (by rw[a0c,z0m,z0m];rfl) ?_ (λ y hy=>?_) (λ z=>by lia) rfl
    ·have:=c1 k;rw[b0h,b0h,c5k];lia
    ·rcases z08.mp hy with hy | hy
     ·rcases z08.mp hy with hy | hy
      ·exact fit1 k y hy
      ·rw[z0o.mp hy];exact hfit r hrm
     ·exact fit2 k y hy
   ·exact nx44 p rs none s1 g1 (by lia) hfit (λ _=>rfl) rfl
  rintro σ H2 ⟨p2,rs2,x5,s02,g2,j2,f2,w2,rfl⟩;refine⟨WrI H x wy n k rs 6,?_,?_⟩
  ·refine nx4 _ rfl rfl _ rfl (a3o (λ e=>?_) (λ e=>?_))
   ·have e':wy=5:=V.int.inj (z0b e);rw[w2 (by lia)] at g2;have hk1:(k:Int)+1=((k+1:Nat):Int):=by push_cast;rfl
    have hk2:(k:Int)+2=((k+2:Nat):Int):=by push_cast;rfl
    refine nx15 _ rfl _ rfl _ _ rfl rfl (nx15 _ rfl _ rfl _ _ rfl rfl (nx5 _ rfl p2 _ rfl (SqL.of g2) λ a1 h1=>?_));rw[show (k:Int)+2=((k+1:Nat):Int)+1 by push_cast;lia,hk1,d3u,<-List.map_drop,<-z46];have s2:=Same.upd (o:=HO.lst (((rs.drop (k+1)).take 1).map V.str)) h1;refine nx20 _ rfl _ rfl p2 _ _ _ rfl rfl (SqL.of (s2 _ _ g2)) hix ⟨(by show 1<=sizeLine;decide),λ a2 h2=>?_⟩;have s3:=Same.upd (o:=HO.lst [V.str r]) h2;refine nx24 a1 a2 _ _ rfl rfl (s3 _ _ a0c) a0c ?_ λ a3 h3=>?_
    ·rw[z03,z14];show _+1<=_;lia
    have s4:=Same.upd (o:=HO.lst (((rs.drop (k+1)).take 1).map V.str++[V.str r])) h3;have s14:=s2.trans (s3.trans s4);refine nx30 _ rfl _ rfl _ rfl p2 _ rfl (SqL.of (s14 _ _ g2)) λ a4 h4=>?_;rw[b1f,<-z46];have s5:=Same.upd (o:=HO.lst ((rs.take k).map V.str)) h4;refine nx40 _ rfl a4 a3 _ _ rfl rfl a0c (s5 _ _ a0c) ?_ λ a5 h5=>?_
    ·have:=l1 k;have:=c1 k;rw[z0r,z03,z03,z14 (l:=rs.drop (k+1))];show _+(_+1)<=_;lia
    have s6:=Same.upd (o:=HO.lst ((rs.take k).map V.str++(((rs.drop (k+1)).take 1).map V.str++[V.str r]))) h5;have s16:=s14.trans (s5.trans s6);refine nx15 _ rfl _ rfl _ _ rfl rfl (nx5 _ rfl p2 _ rfl (SqL.of (s16 _ _ g2)) λ a6 h6=>?_);rw[hk2,b3u,<-List.map_drop];have s7:=Same.upd (o:=HO.lst ((rs.drop (k+2)).map V.str)) h6;have hd2:jw ((rs.drop (k+1)).take 1)+jw (rs.drop (k+2))=jw (rs.drop (k+1)):=by
     have:=d2y (rs.drop (k+1)) 1;rw[List.drop_drop] at this;exact this
    refine nx24 a5 a6 _ _ rfl rfl (s7 _ _ a0c) a0c ?_ λ a7 h7=>?_
    ·have:=l1 k;have:=l2 (k+2);have:=c1 k;have:=c1 (k+2);rw[z0r,z0r,z03,z03,z03,z14 (l:=rs.drop (k+1))];show _+(_+1)+_<=_;lia
    refine nx44 a7 (rs.take k++((rs.drop (k+1)).take 1++[r])++rs.drop (k+2)) _ (s02.trans (s16.trans (s7.trans (Same.upd h7)))) (by rw[a0c,z0m,z0m,z0m];rfl) ?_ (λ y hy=>?_) (λ z=>by lia) rfl
    ·rw[b0h,b0h,b0h,c5k];lia
    ·rcases z08.mp hy with hy | hy
     ·rcases z08.mp hy with hy | hy
      ·exact fit1 k y hy
      ·rcases z08.mp hy with hy | hy
       ·exact fit2 (k+1) y (z3i hy)
       ·rw[z0o.mp hy];exact hfit r hrm
     ·exact fit2 (k+2) y hy
   ·exact nx44 p2 rs2 x5 s02 g2 j2 f2 (λ z=>w2 (by lia)) rfl
  clear g2 j2 f2 w2 s02;rintro σ H2 ⟨p2,rs2,x5,s02,g2,j2,f2,w2,rfl⟩;refine⟨WrI H x wy n k rs 7,?_,?_⟩
  ·refine nx4 _ rfl rfl _ rfl (a3o (λ e=>?_) (λ e=>?_))
   ·have e':wy=6:=V.int.inj (z0b e);rw[w2 (by lia)] at g2;refine nx30 _ rfl _ rfl _ rfl p2 _ rfl (SqL.of g2) λ a1 h1=>?_;rw[b1f,<-z46];have s2:=Same.upd (o:=HO.lst ((rs.take k).map V.str)) h1;refine nx15 _ rfl _ rfl _ _ rfl rfl (nx5 _ rfl p2 _ rfl (SqL.of (s2 _ _ g2)) λ a2 h2=>?_);rw[show (k:Int)+1=((k+1:Nat):Int) by push_cast;rfl,b3u,<-List.map_drop];have s3:=Same.upd (o:=HO.lst ((rs.drop (k+1)).map V.str)) h2;refine nx24 a1 a2 _ _ rfl rfl (s3 _ _ a0c) a0c ?_ λ a3 h3=>?_
    ·have:=l1 k;have:=l2 (k+1);rw[z03,z03];lia
    refine nx44 a3 (rs.take k++rs.drop (k+1)) _ (s02.trans (s2.trans (s3.trans (Same.upd h3)))) (by rw[a0c,z0m]) ?_ (λ y hy=>?_) (λ z=>by lia) rfl
    ·rw[b0h];lia
    ·rcases z08.mp hy with hy | hy
     ·exact fit1 k y hy
     ·exact fit2 (k+1) y hy
   ·exact nx44 p2 rs2 x5 s02 g2 j2 f2 (λ z=>w2 (by lia)) rfl
  clear g2 j2 f2 w2 s02;rintro σ H2 ⟨p2,rs2,x5,s02,g2,j2,f2,w2,rfl⟩;refine⟨WrI H x wy n k rs 8,?_,?_⟩
  ·refine nx4 _ rfl rfl _ rfl (a3o (λ e=>?_) (λ e=>?_))
   ·have e':wy=7:=V.int.inj (z0b e);rw[w2 (by lia)] at g2;refine nx30 _ rfl _ rfl _ rfl p2 _ rfl (SqL.of g2) λ a1 h1=>?_;rw[b1f,<-z46];have s2:=Same.upd (o:=HO.lst ((rs.take k).map V.str)) h1;refine nx1 _ rfl _ (nx28 _ rfl rfl ⟨by decide,by decide⟩ _ rfl λ y H3 hy s3=>⟨(by show 1<=sizeLine;decide),λ a2 h2=>?_⟩);have s4:=Same.upd (o:=HO.lst [V.str y]) h2;refine nx24 a1 a2 _ _ rfl rfl (s4 _ _ (s3 _ _ a0c)) a0c ?_ λ a3 h3=>?_
    ·have:=l1 k;have:=c1 k;rw[z03];show _+1<=_;lia
    have s5:=Same.upd (o:=HO.lst ((rs.take k).map V.str++[V.str y])) h3;have s15:=s2.trans (s3.trans (s4.trans s5));refine nx30 _ rfl _ rfl _ rfl p2 _ rfl (SqL.of (s15 _ _ g2)) λ a4 h4=>?_;rw[b3u,<-List.map_drop];have s6:=Same.upd (o:=HO.lst ((rs.drop k).map V.str)) h4;refine nx24 a3 a4 _ _ rfl rfl (s6 _ _ a0c) a0c ?_ λ a5 h5=>?_
    ·have:=l1 k;have:=l2 k;have:=c1 k;rw[z0r,z03,z03];show _+1+_<=_;lia
    refine nx44 a5 (rs.take k++[y]++rs.drop k) _ (s02.trans (s15.trans (s6.trans (Same.upd h5)))) (by rw[a0c,z0m,z0m];rfl) ?_ (λ z hz=>?_) (λ z=>by lia) rfl
    ·have:=c1 k;have:=hy.1;rw[b0h,b0h,c5k];lia
    ·rcases z08.mp hz with hz | hz
     ·rcases z08.mp hz with hz | hz
      ·exact fit1 k z hz
      ·rw[z0o.mp hz];exact hy.mono (by decide)
     ·exact fit2 k z hz
   ·exact nx44 p2 rs2 x5 s02 g2 j2 f2 (λ z=>w2 (by lia)) rfl
  clear g2 j2 f2 w2 s02;rintro σ H2 ⟨p2,rs2,x5,s02,g2,j2,f2,_,rfl⟩;have hj:=c8g (by lia:jw rs2<=7900) f2;have h2:jw rs2=(rs2.map (·.length)).sum+rs2.length*1:=a8y _ 1 _;refine ⟨rfl,nx1 _ rfl _ (nx25 p2 rs2 rfl rfl (SqL.of g2) ?_ ?_)⟩
  ·rw[b3a];lia
  ·exact q _ H2 hj s02
theorem c4j (T:Tx K mg):T.b2i.Ok P w base 3 a9u:=by
 refine okF T.b2i.F a7z λ _ _ _ _ H _ Q _ hr h=>?_
 ·obtain⟨x,wy,n,rfl,hF,q⟩:=h;refine⟨_,(a0d (psx 3 a7z.nd (a0l a2h (pv 2) (a0l a2c (a0q a1k (by rfl) T.a4f z0z (a0a (pv 0) a0b)) a0e)))
   (a0d (psx 4 a7z.nd (pcF T.c2v (d4l T) hr (a0a (a0l a4g (pv 2) a0e) a0b)))
   (a0d (a1g (a0i a2j (pv 1) a0e (a0o _))
   (a0f (a0p (a0l a0r (a0l a0r (a0y a3x (pv 0) a1u (a1h (pv 3))) (pv 4)) (a0y a3x (pv 0) (a1h (pv 3)) a1u))))
   a0n)
   (a0d (a1g (a0i a2j (pv 1) a0e (a0o _))
   (a0f (a0p (a0l a0r (a0y a3x (pv 0) a1u (a1h (pv 3))) (a0y a3x (pv 0) (a1h (a0l a2c (pv 3) a0e)) a1u))))
   a0n)
   (a0d (a1g (a0i a2j (pv 1) a0e (a0o _))
   (a0f (a0p (a0l a0r (a0l a0r (a0y a3x (pv 0) a1u (a1h (pv 3))) (pv 4)) (a0y a3x (pv 0) (a1h (a0l a2c (pv 3) a0e)) a1u))))
   a0n)
   (a0d (a1g (PW.pt (a8t (a0i a2j (pv 1) a0e (a0o _)) (a6k (a0i a2j (pv 1) a0e (a0o _)))))
   (a0d (psx 4 a7z.nd (pix c5n a0j (a0l a2h (a0l a4g (pv 2) a0e) a0e)))
   (a0f (a0p (a0l a0r (a0l a0r (a0y a3x (pv 0) a1u (a1h (pv 3))) (pv 4)) (a0y a3x (pv 0) (a1h (a0l b7f (a0l a2c (pv 3) a0e) (pv 1))) a1u)))))
   a0n)
   (a0f (a0p (pcF T.b0m (c1x T) hr (a0a (pv 0) (a0a (pv 1) (a0a (pv 2) a0b)))))))))))),?_⟩
  have z9:(20000:Nat)<=sizeLine:=by decide
  have hl:=hF.1;have hlen:(0:Int) < ((x.length:Nat):Int)+1:=by lia
  refine nx15 _ rfl _ rfl _ _ rfl ⟨by lia,rfl⟩ (nx0 _ _ rfl rfl (nx7 _ _ rfl rfl hlen ?_));refine nx1 _ rfl _ (nx28 _ rfl rfl ⟨by decide,by decide⟩ _ rfl λ c hc=>?_);have fs:=λ a b=>hF.slice a b
  have f1:a1d 1 ⟨#[c]⟩:=a1d.one (z38 hc (by decide));have two:∀ {a b:Str},a1d 3860 a->a1d 3860 b->∀ H',Same H H'->Q (.str (a++b)) H':=λ ha hb H' s'=>q _ H' ((ha.app hb).mono (by decide)) s'
  have three:∀ {a b c:Str},a1d 3860 a->a1d 1 b->a1d 3860 c->∀ H',Same H H'->Q (.str (a++b++c)) H':=λ ha hb hc H' s'=>q _ H' (((ha.app hb).app hc).mono (by decide)) s'
  have le2:∀ {a b:Str} {m:Nat},a1d 3860 a->a1d m b->m<=3860->a.length+b.length<=sizeLine:=λ ha hb hm=>by have:=ha.1;have:=hb.1;lia
  have le3:∀ {a b c:Str},a1d 3860 a->a1d 1 b->a1d 3860 c->(a++b).length+c.length<=sizeLine:=λ ha hb hc=>by have:=(ha.app hb).1;have:=hc.1;lia
  refine nx4 _ rfl rfl _ rfl (a3o (λ e=>?_) (λ _=>?_))
  ·exact nx6 _ rfl _ rfl (nx17 _ rfl x rfl (by lia) (nx1 _ rfl _ (nx28 _ rfl rfl (le2 (fs _ _) f1 (by decide)) _ rfl (nx6 _ rfl _ rfl (nx42 x rfl (by lia) _ _ rfl rfl (le3 (fs _ _) f1 (fs _ _)) (three (fs _ _) f1 (fs _ _) _ (Same.refl _)))))))
  refine nx4 _ rfl rfl _ rfl (a3o (λ e=>?_) (λ _=>?_))
  ·exact nx6 _ rfl _ rfl (nx17 _ rfl x rfl (by lia) (nx6 _ rfl _ rfl (nx31 _ _ rfl rfl _ rfl (nx42 x rfl (by lia) _ _ rfl rfl (le2 (fs _ _) (fs _ _) (by decide)) (two (fs _ _) (fs _ _) _ (Same.refl _))))))
  refine nx4 _ rfl rfl _ rfl (a3o (λ e=>?_) (λ _=>?_))
  ·exact nx6 _ rfl _ rfl (nx17 _ rfl x rfl (by lia) (nx1 _ rfl _ (nx28 _ rfl rfl (le2 (fs _ _) f1 (by decide)) _ rfl (nx23 _ rfl _ _ rfl rfl _ rfl (nx42 x rfl (by lia) _ _ rfl rfl (le3 (fs _ _) f1 (fs _ _)) (three (fs _ _) f1 (fs _ _) _ (Same.refl _)))))))
  have fin:e5n (b8u a9u [] E0 (a6u (b1a 0) (a6u (b1a 1) (a6u (b1a 2) c9k)))) {nx:=λ _ H'=>Q V.non H',rt:=Q} [some (.str x),some (.int wy),some (.int n),some (.int (n%(((x.length:Nat):Int)+1))),some (.str ⟨#[c]⟩)] H:= nx35 _ rfl _ rfl _ rfl x (nx0 wy n rfl hF q);have body:d7q (e5q (tOp e7q (tC (V.str (Str.ofString "0123456789?<;: -"))) (tOp (rI (λ x j=>0 < j) λ i j=>V.int (i%j)) (tOp (rI e7w λ i j=>V.int (i / j)) (b1a 2) (tC (V.int 4001))) (tC (V.int 16)))) (c4s 4))
    (e5n (tOp (λ x y H Q=>∃ i j,x=V.str i/\y=V.str j/\i.length+j.length<=sizeLine/\Q (V.str (i++j)) H) (tOp (λ x y H Q=>∃ i j,x=V.str i/\y=V.str j/\i.length+j.length<=sizeLine/\Q (V.str (i++j)) H) (tSl (λ x lo hi H Q=>∃ z,x=V.str z/\z.length<=sizeLine/\Q (V.str (Txt.slice z lo hi)) H) (b1a 0) c4r (d9x (b1a 3))) (b1a 4))
     (tSl (λ x lo hi H Q=>∃ z,x=V.str z/\z.length<=sizeLine/\Q (V.str (Txt.slice z lo hi)) H) (b1a 0) (d9x (tOp (rI0 λ i j=>V.int (i - j)) (tOp (rI0 λ i j=>V.int (i+j)) (b1a 3) (tC (V.int 9))) (b1a 1))) c4r))) {nx:=e5n (b8u a9u [] E0 (a6u (b1a 0) (a6u (b1a 1) (a6u (b1a 2) c9k)))) {nx:=λ _ H'=>Q V.non H',rt:=Q},rt:=Q} [some (.str x),some (.int wy),some (.int n),some (.int (n%(((x.length:Nat):Int)+1))),some (.str ⟨#[c]⟩)] H:=by
   have hz:("0123456789?<;: -":Str).length=16:=by decide +kernel
   have hzc:∀ d∈("0123456789?<;: -":Str).cps.toList,d < 128:=by decide +kernel
   obtain⟨d,ed⟩:∃ d,atI ("0123456789?<;: -":Str).cps.toList (n / 4001%16)=some d:=b5j (by lia) (by rw[<-a0t,hz];lia);have f2:a1d 1 ⟨#[d]⟩:=a1d.one (z38 (hzc d (b0t ed)) (by decide));refine nx19 _ rfl _ _ rfl rfl ⟨by decide,by decide⟩ (nx7 _ _ rfl rfl (by show (0:Int) < 16;decide) (nx2 _ _ d rfl rfl (by rw[hz];decide) ed ?_));exact nx6 _ rfl _ rfl (nx17 _ rfl x rfl (by lia) (nx19 _ rfl _ _ rfl rfl (le2 (fs _ _) f2 (by decide)) (nx15 _ rfl _ rfl _ _ rfl rfl (nx23 _ rfl _ _ rfl rfl _ rfl (nx42 x rfl (by lia) _ _ rfl rfl (le3 (fs _ _) f2 (fs _ _)) (three (fs _ _) f2 (fs _ _) _ (Same.refl _)))))))
  refine nx4 _ rfl rfl _ rfl (a3o (λ e=>a5m (B:=False) body) (λ _=> nx4 _ rfl rfl _ rfl (a3o (λ e=>body) (λ _=>fin))))
--@STAGE
theorem b7i {H:Hp} {v:V} {p:Ps} {f:List Addr} (h:TF H v (a3r p) f):∃ a l m lv mv fl fm,v=.ref a/\f=a::(l::fl++(m::fm))/\H a=some (.tup [.ref l,.ref m])/\H l=some (.lst lv)/\TFs H lv (p.1.map a3a) fl/\H m=some (.lst mv)/\TFs H mv (p.2.map a3l) fm:=by
 cases h with
 | tup h r =>
  cases r with
  | cons h1 r =>
   cases r with
   | cons h2 r =>
    cases r;cases h1 with
    | lst a1 b1 =>
     cases h2 with
     | lst a2 b2=>exact nx3 _ _ (nx36 _ _ _ _ _ rfl (by rw[z1e]) h a1 b1 ⟨a2,b2⟩)
theorem b7q {H:Hp} {v:V} {d:Dl} {f:List Addr} (h:TF H v (a3a d) f):∃ t L lv g,v=.ref t/\f=t::L::g/\H t=some (.tup [.int d.1,.str d.2.1,.ref L])/\H L=some (.lst lv)/\TFs H lv (d.2.2.map a4k) g:=by
 cases h with
 | tup h r =>
  cases r with
  | cons h1 r =>
   cases h1;cases r with
   | cons h2 r =>
    cases h2;cases r with
    | cons h3 r =>
     cases r;cases h3 with
     | lst a1 b1=>exact nx8 _ _ _ _ rfl (by rw[z1e];rfl) h a1 b1
theorem c8c {H:Hp} {v:V} {m:Mkr} {f:List Addr} (h:TF H v (a3l m) f):∃ t c,v=.ref t/\f=[t,c]/\H t=some (.tup [.int m.1,.ref c])/\H c=some (.lst (m.2.map V.int)):=by
 cases h with
 | tup h r =>
  cases r with
  | cons h1 r =>
   cases h1;cases r with
   | cons h2 r =>
    cases r;cases h2 with
    | lst a1 b1 =>
     obtain⟨rfl,rfl⟩:=b1.ints_of;exact nx7 _ _ rfl rfl h a1
theorem c9t {H H':Hp} {a l m k:Addr} {lv mv:List V} {fl fm:List Addr} {p:Ps} {i:Nat} {x':V} {d d':Dl} (ha:H a=some (.tup [.ref l,.ref m])) (hl:H l=some (.lst lv)) (tl:TFs H lv (p.1.map a3a) fl) (hm:H m=some (.lst mv)) (tm:TFs H mv (p.2.map a3l) fm) (nd:(a::(l::fl++(m::fm))).Nodup)
  (hd:p.1[i]?=some d) (hl':H' l=some (.lst (lv.set i x'))) (kp:∀ b o,b≠l->H b=some o->H' b=some o) (tx:∃ f',TF H' x' (a3a d') f'):Tr H' (.ref a) (a3r (p.1.set i d',p.2)):=by
 obtain⟨f',tx⟩:=tx;obtain⟨n1,n2⟩:=z15.mp nd;obtain⟨n3,n4,n5⟩:=nd2.mp n2;obtain⟨n6,n7⟩:=z15.mp n3;have al:a≠l:=λ z=>n1 (by rw[z];exact z19 _ (.head _))
 have ml:∀ b∈m::fm,b≠l:=λ b hb z=>n5 b hb (by rw[z];exact .head _)
 obtain⟨x,f1,f2,f3,ex,ef,tf,put⟩:=tl.focus (i:=i) (d:=a3a d) (by rw[z0f,hd];rfl);have t1:=put H' x' (a3a d') f' (λ b hb o eb=>kp b o (λ z=>n6 (by rw[<-z,ef];rcases z08.mp hb with y | y;exact z19 _ y;exact z0u _ (z0u _ y))) eb) tx;rw[<-z3x] at t1;exact .tup (kp _ _ al ha) (.cons (.lst hl' t1.trs) (.cons (.lst (kp _ _ (ml m (.head _)) hm) (tm.fr λ b hb o eb=>kp b o (ml b (.tail _ hb)) eb).trs) .nil))
theorem d7j {H H':Hp} {a l m c:Addr} {lv mv:List V} {fl fm f1 f2 f3:List Addr} {p:Ps} {i:Nat} {x:V} {d d':Dl} (ha:H a=some (.tup [.ref l,.ref m])) (hl:H l=some (.lst lv)) (hm:H m=some (.lst mv)) (tm:TFs H mv (p.2.map a3l) fm) (nd:(a::(l::fl++(m::fm))).Nodup)
  (ex:lv[i]?=some x) (ef:fl=f1++(f2++f3)) (put:∀ H' x' d' f2',(∀ b∈f1++f3,∀ o,H b=some o->H' b=some o)->TF H' x' d' f2'->TFs H' (lv.set i x') ((p.1.map a3a).set i d') (f1++(f2'++f3))) (hc:c∈f2) (kp:∀ b o,b≠c->H b=some o->H' b=some o) (tx:∃ f',TF H' x (a3a d') f'):Tr H' (.ref a) (a3r (p.1.set i d',p.2)):=by
 obtain⟨f',tx⟩:=tx;obtain⟨n1,n2⟩:=z15.mp nd;obtain⟨n3,n4,n5⟩:=nd2.mp n2;obtain⟨n6,n7⟩:=z15.mp n3;have cfl:c∈fl:=by rw[ef];exact z0u _ (z19 _ hc)
 have ac:a≠c:=λ z=>n1 (by rw[z];exact z19 _ (.tail _ cfl))
 have lc:l≠c:=λ z=>n6 (by rw[z];exact cfl)
 have mc:∀ b∈m::fm,b≠c:=λ b hb z=>n5 b hb (by rw[z];exact .tail _ cfl)
 rw[ef] at n7;have n8:=(nd3.mp n7).2.2 c hc;have t1:=put H' x (a3a d') f' (λ b hb o eb=>kp b o (λ z=>by rcases z08.mp hb with y | y;exact n8.1 (z ▸ y);exact n8.2 (z ▸ y)) eb) tx;rw[<-z3x,TFs.set_self ex] at t1;exact .tup (kp _ _ ac ha) (.cons (.lst (kp _ _ lc hl) t1.trs) (.cons (.lst (kp _ _ (mc m (.head _)) hm) (tm.fr λ b hb o eb=>kp b o (mc b (.tail _ hb)) eb).trs) .nil))
theorem d5t {H H':Hp} {a l m c:Addr} {lv mv:List V} {fl fm f1 f2 f3:List Addr} {p:Ps} {i:Nat} {x:V} {r':Mkr} (ha:H a=some (.tup [.ref l,.ref m])) (hl:H l=some (.lst lv)) (tl:TFs H lv (p.1.map a3a) fl) (hm:H m=some (.lst mv)) (nd:(a::(l::fl++(m::fm))).Nodup)
  (ex:mv[i]?=some x) (ef:fm=f1++(f2++f3)) (put:∀ H' x' d' f2',(∀ b∈f1++f3,∀ o,H b=some o->H' b=some o)->TF H' x' d' f2'->TFs H' (mv.set i x') ((p.2.map a3l).set i d') (f1++(f2'++f3))) (hc:c∈f2) (kp:∀ b o,b≠c->H b=some o->H' b=some o) (tx:∃ f',TF H' x (a3l r') f'):Tr H' (.ref a) (a3r (p.1,p.2.set i r')):=by
 obtain⟨f',tx⟩:=tx;obtain⟨n1,n2⟩:=z15.mp nd;obtain⟨n3,n4,n5⟩:=nd2.mp n2;obtain⟨n6,n7⟩:=z15.mp n4;have cfm:c∈fm:=by rw[ef];exact z0u _ (z19 _ hc)
 have ac:a≠c:=λ z=>n1 (by rw[z];exact z0u _ (.tail _ cfm))
 have mc:m≠c:=λ z=>n6 (by rw[z];exact cfm)
 have lc:∀ b∈l::fl,b≠c:=λ b hb z=>n5 c (.tail _ cfm) (by rw[<-z];exact hb)
 rw[ef] at n7;have n8:=(nd3.mp n7).2.2 c hc;have t1:=put H' x (a3l r') f' (λ b hb o eb=>kp b o (λ z=>by rcases z08.mp hb with y | y;exact n8.1 (z ▸ y);exact n8.2 (z ▸ y)) eb) tx;rw[<-z3x,TFs.set_self ex] at t1;exact .tup (kp _ _ ac ha) (.cons (.lst (kp _ _ (lc l (.head _)) hl) (tl.fr λ b hb o eb=>kp b o (lc b (.tail _ hb)) eb).trs) (.cons (.lst (kp _ _ mc hm) t1.trs) .nil))
theorem b3z {α:Type} {f:α->Nat} {c:Nat}:∀ {l:List α} {i:Nat} {x x':α},l[i]?=some x->f x'<=f x+c->((l.set i x').map f).sum<=(l.map f).sum+c
 | a::r,0,x,x',h,hf=>by
  have:a=x:=by simpa using h
  subst this;simp only [List.set_cons_zero,z0q,z1j];lia
 | a::r,i+1,x,x',h,hf=>by
  have:=b3z (l:=r) (i:=i) (by simpa using h) hf;simp only [List.set_cons_succ,z0q,z1j];lia
theorem SmP.mono {n m:Nat} {p:Ps} (h:SmP n p) (l:n<=m):SmP m p:=⟨h.deals,h.looks,h.makes,z0s h.w l⟩
theorem SmP.setL {n:Nat} {p:Ps} (h:SmP n p) {i j:Nat} {d:Dl} {lk lk':Lk} (hd:p.1[i]?=some d) (hl:d.2.2[j]?=some lk) (h1:lk'.length<=lk.length+1) (h2:∀ x∈lk',Bd x.1/\-1<=x.2/\x.2<=9):SmP (n+34) (p.1.set i (d.1,d.2.1,d.2.2.set j lk'),p.2):=by
 refine⟨λ e he=>?_,λ e he l hl=>?_,h.makes,?_⟩
 ·rcases z2w he with y | y
  ·exact h.deals e y
  ·rw[y];exact h.deals d (z0h hd)
 ·rcases z2w he with y | y
  ·exact h.looks e y l hl
  ·rw[y] at hl;rcases z2w hl with z | z
   ·exact h.looks d (z0h hd) l z
   ·rw[z];exact h2
 ·have e1:wD (d.1,d.2.1,d.2.2.set j lk')<=wD d+34:=by
   have:=b3z (f:=wL) (c:=34) (x':=lk') hl (by show 34*lk'.length+3<=34*lk.length+3+34;lia);show 10+((d.2.2.set j lk').map wL).sum<=10+(d.2.2.map wL).sum+34;lia
  have e2:=b3z (f:=wD) hd e1;have e3:(p.1.map wD).sum+(p.2.map wM).sum<=n:=h.w;show ((p.1.set i (d.1,d.2.1,d.2.2.set j lk')).map wD).sum+(p.2.map wM).sum<=n+34;lia
theorem SmP.setN {n:Nat} {p:Ps} (h:SmP n p) {i:Nat} {d:Dl} {k:Int} (hd:p.1[i]?=some d) (h1:0<=k/\k<=9):SmP n (p.1.set i (k,d.2.1,d.2.2),p.2):=by
 have hdm:=z0h hd;refine⟨λ e he=>?_,λ e he l hl=>?_,h.makes,?_⟩
 ·rcases z2w he with y | y
  ·exact h.deals e y
  ·rw[y];exact⟨h1.1,h1.2,(h.deals d hdm).2.2⟩
 ·rcases z2w he with y | y
  ·exact h.looks e y l hl
  ·rw[y] at hl;exact h.looks d hdm l hl
 ·have e2:=b3z (f:=wD) (c:=0) (x':=(k,d.2.1,d.2.2)) hd (z04 _);have e3:(p.1.map wD).sum+(p.2.map wM).sum<=n:=h.w;show ((p.1.set i (k,d.2.1,d.2.2)).map wD).sum+(p.2.map wM).sum<=n;lia
theorem SmP.setM {n:Nat} {p:Ps} (h:SmP n p) {i:Nat} {m:Mkr} {ns:List Int} (hm:p.2[i]?=some m) (h1:ns.length<=m.2.length+1) (h0:ns≠[]) (h2:∀ x∈ns,0<=x/\x<=9):SmP (n+2) (p.1,p.2.set i (m.1,ns)):=by
 refine⟨h.deals,h.looks,λ e he=>?_,?_⟩
 ·rcases z2w he with y | y
  ·exact h.makes e y
  ·rw[y];exact⟨(h.makes m (z0h hm)).1,h0,h2⟩
 ·have e2:=b3z (f:=wM) (c:=2) (x':=(m.1,ns)) hm (by show 38+2*ns.length<=38+2*m.2.length+2;lia);have e3:(p.1.map wD).sum+(p.2.map wM).sum<=n:=h.w;show (p.1.map wD).sum+((p.2.set i (m.1,ns)).map wM).sum<=n+2;lia
def PrV (H:Hp) (v:V) (x:Pr):Prop:=∃ t,v=.ref t/\H t=some (.tup [.int x.1,.int x.2])
theorem d7v {H:Hp}:∀ {ws:List V} {lk:Lk},Trs H ws (lk.map a5g)->Paired (PrV H) ws lk
 | _,[],.nil=>.nil
 | _,_::_,.cons h r=>.cons h.pair (d7v r)
theorem d8f {H:Hp}:∀ {ws:List V} {lk:Lk},Paired (PrV H) ws lk->∃ g,TFs H ws (lk.map a5g) g
 | _,_,.nil=>⟨[],.nil⟩
 | _,_,.cons ⟨t,e,h⟩ r=>by
  subst e;obtain⟨g,hg⟩:=d8f r;exact⟨_,.cons (.tup h (TFs.cons (f:=[]) (g:=[]) (.int _) (TFs.cons (f:=[]) (g:=[]) (.int _) .nil))) hg⟩
theorem b7o {α β:Type} {F G:α->β->Prop} (h:∀ a b,F a b->G a b):∀ {l:List α} {m:List β},Paired F l m->Paired G l m
 | _,_,.nil=>.nil
 | _,_,.cons r t=>.cons (h _ _ r) (b7o h t)
theorem b2h {α β:Type} {F:α->β->Prop} {x:α} {b:β} (h:F x b):∀ {xs:List α} {bs:List β} (i:Nat),Paired F xs bs->Paired F (xs.set i x) (bs.set i b)
 | _,_,_,.nil=>.nil
 | _,_,0,.cons _ r=>.cons h r
 | _,_,i+1,.cons a r=>.cons a (b2h h i r)
theorem b6u {α β:Type} {F:α->β->Prop} {x:α} {b:β} (h:F x b):∀ {xs:List α} {bs:List β} (i:Nat),Paired F xs bs->Paired F (xs.take i++x::xs.drop i) (bs.take i++b::bs.drop i)
 | _,_,i,.nil=>by rw[List.take_nil,List.take_nil,List.drop_nil,List.drop_nil];exact .cons h .nil
 | _,_,0,.cons a r=>.cons h (.cons a r)
 | _,_,i+1,.cons a r=>.cons a (b6u h i r)
def d1k:Sp:=λ vs H Q _=>∃ (v:V) (wy n:Int) (p:Ps) (f:List Addr),vs=[v,.int wy,.int n]/\TF H v (a3r p) f/\f.Nodup/\SmP 3824 p/\∀ H',(∀ b o,b ∉ f->H b=some o->H' b=some o)->(¬ (10<=wy/\wy<=12)->Same H H')->(∃ p',Tr H' v (a3r p')/\SmP 3860 p')->Q .non H'
def Plc (p:Ps) (lv:List V) (H H2:Hp) (y:V):Prop:=∃ (t i j k:Nat) (d:Dl) (lk:Lk) (ti L la:Addr) (xs:List V),y=.ref t/\H2 t=some (.tup [.int d.1,.ref la,.int (k:Int)])/\p.1[i]?=some d/\d.2.2[j]?=some lk/\k < lk.length/\lv[i]?=some (.ref ti)/\H ti=some (.tup [.int d.1,.str d.2.1,.ref L])/\H L=some (.lst xs)/\xs[j]?=some (.ref la)
theorem Plc.mono {p:Ps} {lv:List V} {H H2 H3:Hp} {y:V} (h:Plc p lv H H2 y) (k:∀ b xs,H2 b=some (.tup xs)->H3 b=some (.tup xs)):Plc p lv H H3 y:=by
 obtain⟨t,i,j,k',d,lk,ti,L,la,xs,e1,e2,r⟩:=h;exact nx10 t i j k' d lk ti (nx29 L la xs e1 (k _ _ e2) r)
theorem c4q (T:Tx K mg):T.b2d.Ok P w base 1 d1k:=by
 refine okF T.b2d.F a3j λ _ _ _ _ H _ Q _ hr h=>?_
 ·obtain⟨v,wy,n,p,f,rfl,tf,nd,sm,q⟩:=h;refine⟨_,(a0d (psx 3 a3j.nd (a1l a0b))
   (a0d (a2r z11 rfl (a0z (pix a1c (pv 0) a0e)) (pgm 4 a3j.nd)
   (a0f (a2r z11 rfl (a0z (pix a1c (pv 4) a0e)) (pgm 5 a3j.nd)
   (a0f (a2r z11 rfl (a2z rfl T.a4e (a0a (a0q a1k (by rfl) T.a4f z0z (a0a (pv 5) a0b)) a0b)) (pgm 6 a3j.nd)
   (a0f (a3i (a2l z1w z23 z20 a2f (pv 3) (a0a (a3p (a0a (pix a1c (pv 4) a0e) (a0a (pv 5) (a0a (pv 6) a0b)))) a0b)))))))))
   (a0f (a1g (a0i (b3j hr.units) (pv 3) (a1l a0b) (a0o _))
   (a0d (b3b (pix a1e (pv 3) (a0l a2h (pv 2) (a0q a1k (by rfl) T.a4f z0z (a0a (pv 3) a0b)))) (a8i rfl (a0w (pgm 7 a3j.nd) (a0w (pgm 5 a3j.nd) (a0w (pgm 6 a3j.nd) a4h)))))
   (a1y (a1g (a0i a2j (pv 1) a0e (a0o _))
   (a0f (b3b (a3p (a0a (pix a1c (pix a1e (pv 5) (pv 6)) a0e) (a0a (pv 7) a0b))) (c2g (pv 5) (pv 6) a9h)))
   a0n)
   (a1y (a1g (a0i a2j (pv 1) a0e (a0o _))
   (a0f (b3b (a3p (a0a (pix a1c (pix a1e (pv 5) (pv 6)) a0e) (a0a (a0l b7f (a0l a2h (a0l a4g (pv 2) a0e) a0e) a0e) a0b))) (c2g (pv 5) (pv 6) a9h)))
   a0n)
   (a0f (a1g (a0i a2j (pv 1) a0e (a0o _))
   (a0f (a3i (a2l z1w F.slot_list_insert F.type_list_insert c3u (pv 5) (a0a (pv 6) (a0a (pix a1e (pv 5) (pv 6)) a0b)))))
   a0n)))))
   a0n)))),?_⟩
  have z9:(20000:Nat)<=sizeLine:=by decide
  obtain⟨a,l,m,lv,mv,fl,fm,rfl,ef0,ha,hl,tl,hm,tm⟩:=b7i tf;have nd':=nd;rw[ef0] at nd';have hlv:lv.length=p.1.length:=by rw[tl.len,z03]
  have hww:(p.1.map wD).sum+(p.2.map wM).sum<=3824:=sm.w;refine⟨(by show 0<=sizeLine;lia),λ pl hpl=>?_⟩;have s1:=Same.upd (o:=HO.lst []) hpl;have g1:=a0c (H:=H) (a:=pl) (o:=HO.lst []);have npl:∀ {b:Addr} {o:HO},H b=some o->b≠pl:=λ e z=>by rw[z,hpl] at e;cases e
  generalize upd H pl (HO.lst [])=H1 at s1 g1;refine nx27 _ rfl a _ _ _ rfl rfl (SqT.of (s1 _ _ ha)) (a0k (j:=0) rfl) l rfl ⟨_,SqL.of (s1 _ _ hl)⟩ (a3k (K:=K) (a:=l) (xs:=lv) (λ i σ H2=>(∀ b o,H b=some o->H2 b=some o)/\∃ (x4 x5 x6:Option V) (ts:List V),σ=[some (.ref a),some (.int wy),some (.int n),some (.ref pl),x4,x5,x6,none]/\H2 pl=some (.lst ts)/\(∀ y∈ts,Plc p lv H H2 y)/\ts.length<=((p.1.take i).map wD).sum)
   (⟨s1,nx39 none none none ([]) rfl g1 (λ y h=>by cases h) (z04 _)⟩) (λ i σ H2 _ hJ=>SqL.of (hJ.1 _ _ hl)) ?_ ?_)
  ·rintro i y σ H2 hi ⟨kp,x4,x5,x6,ts,rfl,h2,hok,lts⟩;have hi':i < p.1.length:=by rw[<-hlv];exact(z0i.mp hi).1
   obtain⟨d,hd⟩:∃ d,p.1[i]?=some d:=⟨_,z0c hi'⟩;obtain⟨pd,hpd,tx⟩:=tl.trs.get hi;rw[z0f,hd] at hpd;cases hpd;obtain⟨ti,L,xs,rfl,hti,hL,tL⟩:=tx.deal;have ll:xs.length=d.2.2.length:=by rw[tL.len,z03]
   have hsD:((p.1.take (i+1)).map wD).sum=((p.1.take i).map wD).sum+wD d:=by rw[a4b hd,z0m,z3p];simp
   have hsT:=b3o wD p.1 (i+1);have hwd:wD d=10+(d.2.2.map wL).sum:=rfl;refine nx27 _ rfl ti _ _ _ rfl rfl (SqT.of (kp _ _ hti)) (a0k (j:=2) rfl) L rfl ⟨_,SqL.of (kp _ _ hL)⟩ (a3k (K:=K) (a:=L) (xs:=xs) (λ j σ H2=>(∀ b o,H b=some o->H2 b=some o)/\∃ (x5 x6:Option V) (ts:List V),σ=[some (.ref a),some (.int wy),some (.int n),some (.ref pl),some (.ref ti),x5,x6,none]/\H2 pl=some (.lst ts)/\(∀ y∈ts,Plc p lv H H2 y)/\ts.length<=((p.1.take i).map wD).sum+((d.2.2.take j).map wL).sum)
    (⟨kp,nx29 x5 x6 ts rfl h2 ⟨hok,lts⟩⟩) (λ j σ H2 _ hJ=>SqL.of (hJ.1 _ _ hL)) ?_ ?_)
   ·rintro j y σ H2 hj ⟨kp,x5,x6,ts,rfl,h2,hok,lts⟩;have hj':j < d.2.2.length:=by rw[<-ll];exact(z0i.mp hj).1
    obtain⟨lk,hlk⟩:∃ lk,d.2.2[j]?=some lk:=⟨_,z0c hj'⟩;obtain⟨pd,hpd,tx⟩:=tL.get hj;rw[z0f,hlk] at hpd;cases hpd;obtain⟨la,ws,rfl,hla,tws⟩:=tx.look;have lw:ws.length=lk.length:=by rw[tws.len,z03]
    have hsL:((d.2.2.take (j+1)).map wL).sum=((d.2.2.take j).map wL).sum+wL lk:=by rw[a4b hlk,z0m,z3p];simp
    have hsU:=b3o wL d.2.2 (j+1);have hwl:wL lk=34*lk.length+3:=rfl;refine nx23 _ rfl _ _ rfl (.inl ⟨_,SqL.of (kp _ _ hla),rfl⟩) _ rfl ⟨by lia,by lia,a3h (lo:=0) (n:=((ws.length:Nat):Int).toNat) (λ k σ H2=>(∀ b o,H b=some o->H2 b=some o)/\∃ (x6:Option V) (ts:List V),σ=[some (.ref a),some (.int wy),some (.int n),some (.ref pl),some (.ref ti),some (.ref la),x6,none]/\H2 pl=some (.lst ts)/\(∀ y∈ts,Plc p lv H H2 y)/\ts.length<=((p.1.take i).map wD).sum+((d.2.2.take j).map wL).sum+k)
     (⟨kp,nx7 x6 ts rfl h2 hok lts⟩) ?_ ?_⟩
    ·rintro k σ H2 hk ⟨kp,x6,ts,rfl,h2,hok,lts⟩;have hk':k < lk.length:=by lia
     refine nx4 _ rfl (.inl ⟨rfl,_,SqL.of h2⟩) _ rfl (nx8 ti _ _ _ rfl rfl (SqT.of (kp _ _ hti)) (a0k (j:=0) rfl) (nx17 _ rfl _ rfl (by show 3<=sizeLine;decide) λ nt hnt=>?_));have sn:=Same.upd (o:=HO.tup [.int d.1,.ref la,.int (0+(k:Int))]) hnt;have ntpl:nt≠pl:=λ y=>by rw[y,h2] at hnt;cases hnt
     refine nx2 pl ts _ rfl rfl (sn _ _ h2) (by lia) λ H3 h3 k3=>?_;have kt:∀ b zs,H2 b=some (.tup zs)->H3 b=some (.tup zs):=λ b zs e=>k3 _ _ (λ y=>by rw[y,h2] at e;cases e) (sn _ _ e)
     refine ⟨λ b o eb=>k3 _ _ (npl eb) (sn _ _ (kp _ _ eb)),nx7 _ (ts++[.ref nt]) rfl h3 (λ y hy=>?_) (by rw[z0r,z1u];lia)⟩;rcases z08.mp hy with z | z
     ·exact(hok y z).mono kt
     ·rw[z0o.mp z];refine nx32 nt i j (nx32 k d lk (nx33 ti L la xs rfl ?_ hd hlk hk' hi hti hL hj));have:=k3 _ _ ntpl (a0c (H:=H2) (a:=nt) (o:=HO.tup [.int d.1,.ref la,.int (0+(k:Int))]));rw[Int.zero_add] at this;exact this
    ·rintro σ H2 ⟨kp,x6,ts,rfl,h2,hok,lts⟩;exact ⟨kp,nx29 _ _ ts rfl h2 ⟨hok,by lia⟩⟩
   ·rintro σ H2 ⟨kp,x5,x6,ts,rfl,h2,hok,lts⟩;rw[ll,z16] at lts;exact ⟨kp,nx39 _ _ _ ts rfl h2 hok (by lia)⟩
  rintro σ H2 ⟨kp,x4,x5,x6,ts,rfl,h2,hok,lts⟩;refine⟨_,rfl,(by show 0<=sizeLine;decide),λ el hel=> ⟨pl,nx14 el ts rfl rfl (SqL.of ((Same.upd hel) _ _ h2)) (SqL.of a0c) _ rfl ?_⟩⟩;have s3:=Same.upd (o:=HO.lst []) hel;have h23:=s3 _ _ h2;have kp3:Same H (upd H2 el (.lst [])):=λ b o e=>s3 _ _ (kp _ _ e)
  have ok3:∀ y∈ts,Plc p lv H (upd H2 el (.lst [])) y:=λ y hy=>(hok y hy).mono λ b xs e=>s3 _ _ e
  generalize upd H2 el (.lst [])=H3 at s3 h23 kp3 ok3;have stay:∀ H',Same H H'->Q .non H':=λ H' s'=>q H' (λ b o _ e=>s' _ _ e) (λ _=>s') ⟨p,(tf.same s').tr,sm.mono (by decide)⟩
  by_cases hne:ts=[]
  ·rw[hne];exact a7h (stay H3 kp3)
  have hie:ts.isEmpty=false:=by cases ts with | nil=>exact absurd rfl hne | cons _ _=>rfl
  rw[hie];refine a5m ?_;have n0:0 < ts.length:=z4o.mpr hne;obtain⟨_,v0,ev0,av0⟩:=d2t (xs:=ts) n rfl n0;obtain⟨qt,i,j,k,d,lk,ti0,L0,la0,xs0,rfl,hqt,hd,hlk,hk,elv,hti0,hL0,exs⟩:=ok3 v0 (z0h ev0);have hdm:=z0h hd;obtain⟨x,f1,f2,f3,ex,ef,tx,put⟩:=tl.focus (i:=i) (d:=a3a d) (by rw[z0f,hd];rfl);obtain⟨t,L,lkv,g,rfl,ef2,ht,hL,tL⟩:=b7q tx;have h1:t=ti0:=V.ref.inj (z1g (ex.symm.trans elv));subst h1;have h2:L=L0:=by rw[ht] at hti0;cases hti0;rfl
  subst h2;have h3:lkv=xs0:=by rw[hL] at hL0;cases hL0;rfl
  subst h3;clear hti0 hL0;obtain⟨x1,e1,e2,e3,ex1,ef3,tx1,put1⟩:=tL.focus (i:=j) (d:=a4k lk) (by rw[z0f,hlk];rfl);obtain⟨ws,g1',b,rfl,ef4,hb,tws⟩:∃ ws g1 b,x1=.ref b/\e2=b::g1/\H b=some (.lst ws)/\TFs H ws (lk.map a5g) g1:=by
   cases tx1 with
   | lst h1 h2=>exact nx29 _ _ _ rfl rfl ⟨h1,h2⟩
  have h4:b=la0:=V.ref.inj (z1g (ex1.symm.trans exs));subst h4;have prs:=d7v tws.trs;have lw:ws.length=lk.length:=z3b prs;obtain⟨pv,epv,pa,rfl,hpa⟩:∃ pv,ws[k]?=some pv/\PrV H pv lk[k]:=by
   obtain⟨pv,e,h⟩:=b4w prs (z0c hk);exact⟨pv,e,h⟩
  have hpm:=sm.looks d hdm lk (z0h hlk) lk[k] (z1k hk);generalize lk[k]=pr at hpa hpm;have bf2:b∈f2:=by rw[ef2,ef3,ef4];exact .tail _ (.tail _ (z0u _ (z19 _ (.head _))))
  have bf:b∈f:=by rw[ef0,ef];exact .tail _ (z19 _ (.tail _ (z0u _ (z19 _ bf2))))
  have nf2:f2.Nodup:=by
   have n1:=(z15.mp (nd2.mp (z15.mp nd').2).1).2;rw[ef] at n1;exact(nd3.mp n1).2.1
  rw[ef2] at nf2;obtain⟨nt1,nf3⟩:=z15.mp nf2;obtain⟨nL1,ng⟩:=z15.mp nf3;have bg:b∈g:=by rw[ef3,ef4];exact z0u _ (z19 _ (.head _))
  have tb:t≠b:=λ y=>nt1 (by rw[y];exact .tail _ bg)
  have Lb:L≠b:=λ y=>nL1 (by rw[y];exact bg)
  rw[ef3] at ng;have bo:=(nd3.mp ng).2.2 b (by rw[ef4];exact .head _);have chg:∀ (H':Hp) (ws':List V) (lk':Lk),(∀ c o,c≠b->H c=some o->H' c=some o)->H' b=some (.lst ws')->Paired (PrV H') ws' lk'->lk'.length<=lk.length+1->(∀ x∈lk',Bd x.1/\-1<=x.2/\x.2<=9)->∃ p',Tr H' (.ref a) (a3r p')/\SmP 3860 p':=λ H' ws' lk' kk h' pp hl1 hl2=>by
   obtain⟨g',tg'⟩:=d8f pp;have tdeal:=put1 H' (.ref b) (a4k lk') _ (λ c hc o e=>kk c o (λ y=>by rcases z08.mp hc with u | u;exact bo.1 (y ▸ u);exact bo.2 (y ▸ u)) e) (.lst h' tg');rw[<-z3x,TFs.set_self exs] at tdeal;exact⟨_,d7j (d:=d) (d':=(d.1,d.2.1,d.2.2.set j lk')) ha hl hm tm nd' elv ef put bf2 kk ⟨_,.tup (kk _ _ tb ht) (TFs.cons (f:=[]) (.int _) (TFs.cons (f:=[]) (.str _) (TFs.one (.lst (kk _ _ Lb hL) tdeal))))⟩,(sm.setL hd hlk hl1 hl2).mono (by decide)⟩
  have hlkm:=sm.looks d hdm lk (z0h hlk);have setm:∀ y:Pr,(Bd y.1/\-1<=y.2/\y.2<=9)->∀ x∈lk.set k y,Bd x.1/\-1<=x.2/\x.2<=9:=λ y hy x hx=>by
   rcases z2w hx with u | u
   ·exact hlkm x u
   ·rw[u];exact hy
  have hkw:k < ws.length:=by lia
  have ixn:ixN ws.length (k:Int)=some k:=by
   unfold ixN;rw[z02 (by lia),z02 (by lia)];rfl
  have prk:∀ {H'},(∀ c o,c≠b->H c=some o->H' c=some o)->Paired (PrV H') ws lk:=λ {H'} kk=>b7o (λ y x h=>by
   obtain⟨t,rfl,e⟩:=h;exact⟨t,rfl,kk _ _ (λ z=>by rw[z,hb] at e;cases e) e⟩) prs
  refine nx30 _ rfl _ rfl _ rfl _ _ rfl (.inl ⟨_,SqL.of h23,rfl⟩) (nx7 _ _ rfl rfl (by lia) (nx8 pl _ _ _ rfl rfl (SqL.of h23) av0 (nx34 qt _ rfl (SqT.of hqt) rfl _ _ rfl _ _ rfl (nx0 _ _ rfl rfl ?_))));have done:∀ H',(∀ c o,c≠b->H3 c=some o->H' c=some o)->(10<=wy/\wy<=12)->(∃ p',Tr H' (.ref a) (a3r p')/\SmP 3860 p')->Q .non H':=λ H' k' hw hp'=>q H' (λ c o nc e=>k' c o (λ y=>nc (y ▸ bf)) (kp3 _ _ e)) (λ hn=>absurd hw hn) hp'
  refine⟨λ σ H'=>(∀ c o,c≠b->H3 c=some o->H' c=some o)/\(wy≠10->H'=H3)/\(wy=10->∃ p',Tr H' (.ref a) (a3r p')/\SmP 3860 p')/\σ=[some (.ref a),some (.int wy),some (.int n),some (.ref pl),x4,some (.ref b),some (.int (k:Int)),some (.int d.1)],?_,?_⟩
  ·refine nx4 _ rfl rfl _ rfl (a3o (λ e=>?_) (λ e=>?_))
   ·have e':wy=10:=V.int.inj (z0b e);refine nx20 _ rfl _ rfl b _ _ _ rfl rfl (SqL.of (kp3 _ _ hb)) (a0k epv) (nx3 pa _ (nx14 _ _ rfl rfl (SqT.of (kp3 _ _ hpa)) (a0k (j:=0) rfl) _ rfl ⟨(by show 2<=sizeLine;decide),λ np hnp=>?_⟩));have s4:=Same.upd (o:=HO.tup [.int pr.1,.int d.1]) hnp;have npb:np≠b:=λ y=>by rw[y,kp3 _ _ hb] at hnp;cases hnp
    refine nx20 _ rfl _ rfl b ws _ k rfl rfl (s4 _ _ (kp3 _ _ hb)) ixn λ H' h' k'=>?_;refine⟨λ c o nc e=>k' _ _ nc (s4 _ _ e),λ z=>absurd e' z,λ _=>?_,rfl⟩;have kk:∀ c o,c≠b->H c=some o->H' c=some o:=λ c o nc e=>k' _ _ nc (s4 _ _ (kp3 _ _ e))
    have hdd:=sm.deals d hdm;exact chg H' _ (lk.set k (pr.1,d.1)) kk h' (b2h ⟨np,rfl,k' _ _ npb a0c⟩ k (prk kk)) (by rw[z3q];lia) (setm _ ⟨hpm.1,by show -1<=d.1;lia,hdd.2.1⟩)
   ·have e':¬ wy=10:=λ z=>e (z07 (z0e V.int z))
    exact⟨λ c o _ e=>e,λ _=>rfl,λ z=>absurd z e',rfl⟩
  rintro σ H4 ⟨k4,u4,c4,rfl⟩;refine⟨λ σ H'=>(∀ c o,c≠b->H3 c=some o->H' c=some o)/\(wy≠10->wy≠11->H'=H3)/\(wy=10\/wy=11->∃ p',Tr H' (.ref a) (a3r p')/\SmP 3860 p')/\σ=[some (.ref a),some (.int wy),some (.int n),some (.ref pl),x4,some (.ref b),some (.int (k:Int)),some (.int d.1)],?_,?_⟩
  ·refine nx4 _ rfl rfl _ rfl (a3o (λ e=>?_) (λ e=>?_))
   ·have e':wy=11:=V.int.inj (z0b e);have:=u4 (by lia);subst this;refine nx20 _ rfl _ rfl b _ _ _ rfl rfl (SqL.of (kp3 _ _ hb)) (a0k epv) (nx8 pa _ _ _ rfl rfl (SqT.of (kp3 _ _ hpa)) (a0k (j:=0) rfl) (nx19 _ rfl _ _ rfl rfl ⟨by decide,by decide⟩ (nx7 _ _ rfl rfl (by show (0:Int) < 11;decide) (nx7 _ _ rfl rfl (by show 2<=sizeLine;decide) λ np hnp=>?_))));have s4:=Same.upd (o:=HO.tup [.int pr.1,.int (n / 401%11 - 1)]) hnp;have npb:np≠b:=λ y=>by rw[y,kp3 _ _ hb] at hnp;cases hnp
    refine nx20 _ rfl _ rfl b ws _ k rfl rfl (s4 _ _ (kp3 _ _ hb)) ixn λ H' h' k'=>?_;refine⟨λ c o nc e=>k' _ _ nc (s4 _ _ e),λ _ z=>absurd e' z,λ _=>?_,rfl⟩;have kk:∀ c o,c≠b->H c=some o->H' c=some o:=λ c o nc e=>k' _ _ nc (s4 _ _ (kp3 _ _ e))
    exact chg H' _ (lk.set k (pr.1,n / 401%11 - 1)) kk h' (b2h ⟨np,rfl,k' _ _ npb a0c⟩ k (prk kk)) (by rw[z3q];lia) (setm _ ⟨hpm.1,by show -1<=n / 401%11 - 1;lia,by show n / 401%11 - 1<=9;lia⟩)
   ·have e':¬ wy=11:=λ z=>e (z07 (z0e V.int z))
    exact⟨k4,λ z _=>u4 z,λ z=>c4 (z.resolve_right e'),rfl⟩
  rintro σ H5 ⟨k5,u5,c5,rfl⟩;refine nx4 _ rfl rfl _ rfl (a3o (λ e=>?_) (λ e=>?_))
  ·have e':wy=12:=V.int.inj (z0b e);have:=u5 (by lia) (by lia);subst this;refine nx4 _ rfl (.inl ⟨rfl,_,SqL.of (kp3 _ _ hb)⟩) _ rfl (nx20 _ rfl _ rfl b _ _ _ rfl rfl (SqL.of (kp3 _ _ hb)) (a0k epv) (nx24 b ws (k:Int) _ rfl rfl (kp3 _ _ hb) (by lia) (by lia) ⟨?_,λ H' h' k'=>?_⟩))
   ·have h1:=a1r (f:=wD) hdm;have h2:=a1r (f:=wL) (z0h hlk);have h3:wL lk=34*lk.length+3:=rfl;have h4:wD d=10+(d.2.2.map wL).sum:=rfl;lia
   ·rw[z43] at h';have kk:∀ c o,c≠b->H c=some o->H' c=some o:=λ c o nc e=>k' _ _ nc (kp3 _ _ e)
    have pab:pa≠b:=λ y=>by rw[y,hb] at hpa;cases hpa
    refine done H' (λ c o nc e=>k' _ _ nc e) (by lia) (chg H' _ (lk.take k++pr::lk.drop k) kk h' (b6u ⟨pa,rfl,kk _ _ pab hpa⟩ k (prk kk)) ?_ λ x hx=>?_)
    ·rw[z0r,z12,z14,z29];lia
    ·rcases z08.mp hx with u | u
     ·exact hlkm x (z3i u)
     ·rcases z06.mp u with u | u
      ·rw[u];exact hpm
      ·exact hlkm x (z4c u)
  ·have e':¬ wy=12:=λ z=>e (z07 (z0e V.int z))
   by_cases hw:wy=10\/wy=11
   ·exact done H5 k5 (by lia) (c5 hw)
   ·rw[u5 (λ z=>hw (.inl z)) λ z=>hw (.inr z)];exact stay H3 kp3
--@STAGE
def d0o:Sp:=λ vs H Q _=>∃ (v:V) (wy n:Int) (p:Ps) (f:List Addr),vs=[v,.int wy,.int n]/\Tr H v (a3r p)/\SmP 3860 p/\(13<=wy->TF H v (a3r p) f/\f.Nodup/\SmP 3824 p)/\∀ H',(∀ b o,b ∉ f->H b=some o->H' b=some o)->(∃ p',Tr H' v (a3r p')/\SmP 3860 p')->Q .non H'
theorem c2t (T:Tx K mg):T.b2g.Ok P w base 1 d0o:=by
 refine okF T.b2g.F b0l λ _ A _ _ H _ Q _ hr h=>?_
 ·obtain⟨v,wy,n,p,f0,rfl,tr,sm0,htf,q0⟩:=h;have hww:=sm0.w;have hh:(wy < 13/\∀ H',Same H H'->Q .non H')\/(∃ f,TF H v (a3r p) f/\f.Nodup/\SmP 3824 p/\∀ H',(∀ b o,b ∉ f->H b=some o->H' b=some o)->(∃ p',Tr H' v (a3r p')/\SmP 3860 p')->Q .non H'):=by
   by_cases h:13<=wy
   ·exact .inr ⟨f0,(htf h).1,(htf h).2.1,(htf h).2.2,q0⟩
   ·exact .inl ⟨by lia,λ H' s'=>q0 H' (λ b o _ e=>s' _ _ e) ⟨p,tr.same s',sm0⟩⟩
  clear htf q0;refine⟨_,(a1y (a1g (a0i (b3j hr.units) (pix a1c (pv 0) a0e) (a1l a0b) (a0o _))
   (a0d (psx 3 b0l.nd (pix a1c (pix a1e (pix a1c (pv 0) a0e) (a0l a2h (pv 2) (a0q a1k (by rfl) T.a4f z0z (a0a (pix a1c (pv 0) a0e) a0b)))) a0e))
   (a1y (a1g (a0i a2j (pv 1) a0e (a0o _))
   (a0f (a3i (a2l z1w z23 z20 a2f (pv 3) (a0a (pix a1e (pv 3) (a0l a2h (a0l a4g (pv 2) a0e) (a0q a1k (by rfl) T.a4f z0z (a0a (pv 3) a0b)))) a0b))))
   a0n)
   (a0f (a1g (a0i a2j (pv 1) a0e (a0o _))
   (a0f (b3b (a0l a2h (a0l a4g (pv 2) a0e) a0e) (c2g (pv 3) (a0l a2h (a0l a4g (pv 2) a0e) (a0q a1k (by rfl) T.a4f z0z (a0a (pv 3) a0b))) a9h)))
   a0n))))
   a0n)
   (a0f (a1g (PW.pt (b2b (a0i a2j (pv 1) a0e (a0o _)) (a8e (a0i (b3j hr.units) (pix a1c (pv 0) a0e) (a1l a0b) (a0o _)))))
   (a0d (psx 4 b0l.nd (a0l a2h (pv 2) (a0q a1k (by rfl) T.a4f z0z (a0a (pix a1c (pv 0) a0e) a0b))))
   (a0f (b3b (a3p (a0a (a0l a2h (a0l a4g (pv 2) a0e) a0e) (a0a (pix a1c (pix a1e (pix a1c (pv 0) a0e) (pv 4)) a0e) (a0a (pix a1c (pix a1e (pix a1c (pv 0) a0e) (pv 4)) a0e) a0b)))) (c2g (pix a1c (pv 0) a0e) (pv 4) a9h))))
   a0n))),?_⟩
  have z9:(20000:Nat)<=sizeLine:=by decide
  have hww:(p.1.map wD).sum+(p.2.map wM).sum<=3860:=hww;obtain⟨a,b,c,xs,ys,rfl,ha,hb,hc,hx,hy⟩:=tr.past;have hxl:xs.length=p.1.length:=by rw[hx.len,z03]
  have hyl:ys.length=p.2.length:=by rw[hy.len,z03]
  obtain⟨R,fin,Rsame,hmk,R13,R15⟩:∃ R:Hp->Prop,(∀ H',R H'->Q .non H')/\(∀ H',Same H H'->R H')/\(wy=13\/wy=14->∀ m∈p.2,m.2≠[]/\∀ n∈m.2,0<=n/\n<=9) /\
    (wy=13\/wy=14->∀ (i:Nat) (m:Mkr) (p1 c0:Addr),p.2[i]?=some m->ys[i]?=some (.ref p1)->H p1=some (.tup [.int m.1,.ref c0])->∀ (H':Hp) (ns:List Int),(∀ b o,b≠c0->H b=some o->H' b=some o)->H' c0=some (.lst (ns.map V.int))->ns.length<=m.2.length+1->ns≠[]->(∀ x∈ns,0<=x/\x<=9)->R H') /\
    (wy=15->∀ (k:Nat) (d:Dl) (td Ld:Addr),p.1[k]?=some d->xs[k]?=some (.ref td)->H td=some (.tup [.int d.1,.str d.2.1,.ref Ld])->∀ (H':Hp) (z:Int) (tz:Addr),(∀ c o,c≠b->H c=some o->H' c=some o)->H' b=some (.lst (xs.set k (.ref tz)))->H' tz=some (.tup [.int z,.str d.2.1,.ref Ld])->0<=z/\z<=9->R H'):=by
   rcases hh with ⟨hlt,q⟩ | ⟨f,tf,nd,sm,q⟩
   ·exact⟨Same H,q,λ _ h=>h,λ h=>by lia,λ h=>by lia,λ h=>by lia⟩
   ·obtain⟨a',l,m',lv,mv,fl,fm,ea,ef0,ha',hl,tl,hm',tm⟩:=b7i tf;cases ea;rw[ha] at ha';cases ha';rw[hb] at hl;cases hl;rw[hc] at hm';cases hm';have nd':=nd;rw[ef0] at nd';refine⟨λ H'=>(∀ b o,b ∉ f->H b=some o->H' b=some o)/\∃ p',Tr H' (.ref a) (a3r p')/\SmP 3860 p',λ H' h=>q H' h.1 h.2,λ H' s'=>⟨λ b o _ e=>s' _ _ e,p,tr.same s',sm.mono (by decide)⟩,λ _ m hm=>⟨(sm.makes m hm).2.1,(sm.makes m hm).2.2⟩,λ _ i m p1 c0 hm ey hp1 H' ns kk h' l1 l2 l3=>?_,λ _ k d td Ld hd ex0 htd H' z tz kk h' htz hz=>?_⟩
    ·obtain⟨x,f1,f2,f3,ex,ef,tx,put⟩:=tm.focus (i:=i) (d:=a3l m) (by rw[z0f,hm];rfl);obtain⟨t,c1,rfl,ef2,ht,hc1⟩:=c8c tx;rw[ey] at ex;cases ex;rw[hp1] at ht;cases ht;have cf2:c0∈f2:=by rw[ef2];exact .tail _ (.head _)
     have cf:c0∈f:=by rw[ef0,ef];exact .tail _ (z0u _ (.tail _ (z0u _ (z19 _ cf2))))
     have pc:p1≠c0:=λ y=>by rw[y,hc1] at hp1;cases hp1
     exact⟨λ b o nb e=>kk b o (λ y=>nb (y ▸ cf)) e,_,d5t (r':=(m.1,ns)) ha hb tl hc nd' ey ef put cf2 kk ⟨_,.tup (kk _ _ pc hp1) (TFs.cons (f:=[]) (.int _) (TFs.one (.lst h' (TFs.ints ns))))⟩,(sm.setM hm l1 l2 l3).mono (by decide)⟩
    ·obtain⟨x,f1,f2,f3,ex,ef,tx,put⟩:=tl.focus (i:=k) (d:=a3a d) (by rw[z0f,hd];rfl);obtain⟨t,L,lkv,g,rfl,ef2,ht,hL,tL⟩:=b7q tx;rw[ex0] at ex;cases ex;rw[htd] at ht;cases ht;have bf:b∈f:=by rw[ef0];exact .tail _ (z19 _ (.head _))
     have nb:b ∉ fl:=(z15.mp (nd2.mp (z15.mp nd').2).1).1;have gf:∀ e∈Ld::g,e≠b:=λ e he y=>nb (by rw[<-y,ef,ef2];exact z0u _ (z19 _ (.tail _ he)))
     exact⟨λ c o nc e=>kk c o (λ y=>nc (y ▸ bf)) e,_,c9t (k:=a) (d:=d) (d':=(z,d.2.1,d.2.2)) ha hb tl hc tm nd' hd h' kk ⟨_,.tup htz (TFs.cons (f:=[]) (.int _) (TFs.cons (f:=[]) (.str _) (TFs.one (.lst (kk _ _ (gf _ (.head _)) hL) (tL.fr λ e he o eo=>kk _ _ (gf e (.tail _ he)) eo)))))⟩,(sm.setN hd hz).mono (by decide)⟩
  refine⟨λ σ H'=>R H'/\(wy≠13->wy≠14->Same H H')/\∃ x3:Option V,σ=[some (.ref a),some (.int wy),some (.int n),x3,none],?_,?_⟩
  ·refine nx40 _ rfl a _ _ _ rfl rfl (SqT.of ha) (a0k (j:=1) rfl) (by show 0<=sizeLine;decide) λ el hel=> ⟨c,nx14 el ys rfl rfl (SqL.of ((Same.upd hel) _ _ hc)) (SqL.of a0c) _ rfl ?_⟩;have s1:=Same.upd (o:=HO.lst []) hel;generalize upd H el (HO.lst [])=H1 at s1;by_cases hne:ys=[]
   ·rw[hne];exact a7h ⟨Rsame _ s1,λ _ _=>s1,none,rfl⟩
   have hie:ys.isEmpty=false:=by cases ys with | nil=>exact absurd rfl hne | cons _ _=>rfl
   rw[hie];refine a5m ?_;have n0:0 < ys.length:=z4o.mpr hne;obtain⟨_,v0,ev0,av0⟩:=d2t (xs:=ys) n rfl n0;generalize (n%((ys.length:Nat):Int)).toNat=i at ev0;obtain⟨pd,hpd,tx⟩:=hy.get ev0;rw[z0f] at hpd;obtain⟨m,hm,rfl⟩:=z3d.mp hpd;obtain⟨p1,c0,rfl,hp1,hc0⟩:=tx.make;have hmm:=z0h hm;refine nx9 _ rfl a _ _ _ rfl rfl (SqT.of (s1 _ _ ha)) (a0k (j:=1) rfl) _ rfl (nx21 _ rfl a _ _ _ rfl rfl (SqT.of (s1 _ _ ha)) (a0k (j:=1) rfl) (nx0 _ _ rfl (.inl ⟨_,SqL.of (s1 _ _ hc),rfl⟩) (nx7 _ _ rfl rfl (by lia) (nx8 c _ _ _ rfl rfl (SqL.of (s1 _ _ hc)) av0 (nx8 p1 _ _ _ rfl rfl (SqT.of (s1 _ _ hp1)) (a0k (j:=1) rfl) ?_)))));have h1:=s1 _ _ hc0;have hml:m.2.length<=3860:=by
    have:=a1r (f:=wM) hmm;have h:wM m=38+2*m.2.length:=rfl;lia
   have hil:(m.2.map V.int).length=m.2.length:=z03 ..;refine⟨λ σ H'=>(wy≠13->H'=H1)/\(wy=13->R H')/\σ=[some (.ref a),some (.int wy),some (.int n),some (.ref c0),none],?_,?_⟩
   ·refine nx4 _ rfl rfl _ rfl (a3o (λ e=>?_) (λ e=>?_))
    ·have e':wy=13:=V.int.inj (z0b e);obtain⟨m0,m9⟩:=hmk (.inl e') m hmm;have hm0:0 < m.2.length:=z4o.mpr m0;obtain⟨am,amem⟩:=d9l (ns:=m.2) (n:=(m.2.map V.int).length) (n / 7) (by rw[z03]) (by rw[z03];exact hm0);refine nx4 _ rfl (.inl ⟨rfl,_,SqL.of h1⟩) _ rfl (nx19 _ rfl _ _ rfl rfl ⟨by decide,by decide⟩ (nx1 _ rfl _ (nx42 _ rfl (.inl ⟨_,SqL.of h1,rfl⟩) _ _ rfl rfl (by lia) (nx8 c0 _ _ _ rfl rfl (SqL.of h1) am (nx2 c0 (m.2.map V.int) _ rfl rfl h1 (by lia) λ H' h' k'=>?_)))));generalize m.2.getD _ 0=y at amem h';refine⟨λ z=>absurd e' z,λ _=>R13 (.inl e') i m p1 c0 hm ev0 hp1 H' (m.2++[y]) (λ b o nb e=>k' _ _ nb (s1 _ _ e)) (by rw[z0m];exact h') (by rw[z0r];exact z04 _) (by simp) (λ x hx=>?_),rfl⟩;rcases z08.mp hx with u | u
     ·exact m9 x u
     ·rw[z0o.mp u];exact m9 y amem
    ·have e':¬ wy=13:=λ z=>e (z07 (z0e V.int z))
     exact⟨λ _=>rfl,λ z=>absurd z e',rfl⟩
   rintro σ H4 ⟨u4,c4,rfl⟩;refine nx4 _ rfl rfl _ rfl (a3o (λ e=>?_) (λ e=>?_))
   ·have e':wy=14:=V.int.inj (z0b e);have:=u4 (by lia);subst this;obtain⟨m0,m9⟩:=hmk (.inr e') m hmm;have hm0:0 < m.2.length:=z4o.mpr m0;obtain⟨k,ek,hk⟩:∃ k:Nat,n / 7%(((m.2.map V.int).length:Nat):Int)=(k:Int)/\k < m.2.length:=by
     have h1:=z1h (n / 7) (show ((m.2.map V.int).length:Int)≠0 by lia);have h2:=z1o (n / 7) (show (0:Int) < ((m.2.map V.int).length:Int) by lia);exact⟨(n / 7%(((m.2.map V.int).length:Nat):Int)).toNat,by lia,by lia⟩
    have ixn:ixN (m.2.map V.int).length (n / 7%(((m.2.map V.int).length:Nat):Int))=some k:=by
     rw[ek];unfold ixN;rw[z02 (by lia),z02 (by lia)];rfl
    refine nx19 _ rfl _ _ rfl rfl ⟨by decide,by decide⟩ (nx7 _ _ rfl rfl (by show (0:Int) < 10;decide) (nx15 _ rfl _ rfl _ _ rfl rfl ⟨⟨by decide,by decide⟩,nx1 _ rfl _ (nx42 _ rfl (.inl ⟨_,SqL.of h1,rfl⟩) _ _ rfl rfl (by lia) (nx8 c0 _ _ k rfl rfl h1 ixn λ H' h' k'=>?_))⟩));refine⟨R13 (.inr e') i m p1 c0 hm ev0 hp1 H' (m.2.set k (n / 401%10)) (λ b o nb e=>k' _ _ nb (s1 _ _ e)) (by rw[z3x];exact h') (by rw[z3q];lia) (λ z=>?_) (λ x hx=>?_),λ _ z=>absurd e' z,_,rfl⟩
    ·have:=z0e List.length z;rw[z3q,z37] at this;lia
    ·rcases z2w hx with u | u
     ·exact m9 x u
     ·rw[u];lia
   ·have e':¬ wy=14:=λ z=>e (z07 (z0e V.int z))
    by_cases h13:wy=13
    ·exact⟨c4 h13,λ z=>absurd h13 z,_,rfl⟩
    ·rw[u4 h13];exact⟨Rsame _ s1,λ _ _=>s1,_,rfl⟩
  rintro σ H2 ⟨r2,u2,x3,rfl⟩;refine nx4 _ rfl rfl _ rfl (a3o (λ e=>?_) (λ e=>a7h (A:=False) (fin H2 r2)));have e':wy=15:=V.int.inj (z0b e);have s2:=u2 (by lia) (by lia);refine nx40 _ rfl a _ _ _ rfl rfl (SqT.of (s2 _ _ ha)) (a0k (j:=0) rfl) (by show 0<=sizeLine;decide) λ el hel=> ⟨b,nx14 el xs rfl rfl (SqL.of ((Same.upd hel) _ _ (s2 _ _ hb))) (SqL.of a0c) _ rfl ?_⟩;have s3:=s2.trans (Same.upd (o:=HO.lst []) hel);generalize upd H2 el (HO.lst [])=H3 at s3;by_cases hne:xs=[]
  ·rw[hne];exact a7h (fin _ (Rsame _ s3))
  have hie:xs.isEmpty=false:=by cases xs with | nil=>exact absurd rfl hne | cons _ _=>rfl
  rw[hie];refine a5m ?_;have n0:0 < xs.length:=z4o.mpr hne;refine nx20 _ rfl _ rfl a _ _ _ rfl rfl (SqT.of (s3 _ _ ha)) (a0k (j:=0) rfl) (nx0 _ _ rfl (.inl ⟨_,SqL.of (s3 _ _ hb),rfl⟩) (nx7 _ _ rfl rfl (by lia) ?_));obtain⟨k,ek,hk⟩:∃ k:Nat,n%((xs.length:Nat):Int)=(k:Int)/\k < xs.length:=by
   have h1:=z1h n (show ((xs.length:Nat):Int)≠0 by lia);have h2:=z1o n (show (0:Int) < ((xs.length:Nat):Int) by lia);exact⟨(n%((xs.length:Nat):Int)).toNat,by lia,by lia⟩
  rw[show (λ i j=>V.int (i%j)) n (((xs.length:Nat)):Int)=V.int (k:Int) from z0e V.int ek];obtain⟨d,hd⟩:∃ d,p.1[k]?=some d:=⟨_,z0c (by lia)⟩;obtain⟨x,ex,tx⟩:=hx.at (i:=k) (d:=a3a d) (by rw[z0f,hd];rfl);obtain⟨td,Ld,_,rfl,htd,_,_⟩:=tx.deal;have ixn:ixN xs.length (k:Int)=some k:=by
   unfold ixN;rw[z02 (by lia),z02 (by lia)];rfl
  have av:=a0k ex;refine nx19 _ rfl _ _ rfl rfl ⟨by decide,by decide⟩ (nx7 _ _ rfl rfl (by show (0:Int) < 10;decide) (nx21 _ rfl a _ _ _ rfl rfl (SqT.of (s3 _ _ ha)) (a0k (j:=0) rfl) (nx21 _ rfl b _ _ _ rfl rfl (SqL.of (s3 _ _ hb)) av (nx8 td _ _ _ rfl rfl (SqT.of (s3 _ _ htd)) (a0k (j:=1) rfl) (nx21 _ rfl a _ _ _ rfl rfl (SqT.of (s3 _ _ ha)) (a0k (j:=0) rfl) (nx21 _ rfl b _ _ _ rfl rfl (SqL.of (s3 _ _ hb)) av (nx24 td _ _ _ rfl rfl (SqT.of (s3 _ _ htd)) (a0k (j:=2) rfl) (by show 3<=sizeLine;decide) λ tz htz=>?_)))))));have s4:=Same.upd (o:=HO.tup [.int (n / 401%10),.str d.2.1,.ref Ld]) htz;have g4:=a0c (H:=H3) (a:=tz) (o:=HO.tup [.int (n / 401%10),.str d.2.1,.ref Ld]);have tzb:tz≠b:=λ y=>by rw[y,s3 _ _ hb] at htz;cases htz
  refine nx9 _ rfl a _ _ _ rfl rfl (SqT.of (s4 _ _ (s3 _ _ ha))) (a0k (j:=0) rfl) _ rfl (nx8 b xs _ k rfl rfl (s4 _ _ (s3 _ _ hb)) ixn λ H' h' k'=>fin H' (R15 e' k d td Ld hd ex htd H' (n / 401%10) tz (λ c o nc eo=>k' _ _ nc (s4 _ _ (s3 _ _ eo))) h' (k' _ _ tzb g4) (by lia)))
--@STAGE
theorem d2i (h:xs[xs.length - 1]?=some v):atI xs (-1)=some v:=by
 have hl:=(z0i.mp h).1;unfold atI ixN;rw[z01 (by decide),z02 (by lia)];have e:(-1+(xs.length:Int)).toNat=xs.length - 1:=by lia
 simpa [e] using h
theorem e7j {n:Int} (h0:0<=n) (h9:n<=9):(num n).length<=1:=by
 have key:∀ k,k < 10->(num ((k:Nat):Int)).length<=1:=by decide +kernel
 obtain⟨k,rfl⟩:=Int.eq_ofNat_of_zero_le h0;exact key k (by lia)
def Asc (x:Str):Prop:=∀ c∈x.cps.toList,c < 16 ^ 8
theorem Asc.app {x y:Str} (h:Asc x) (g:Asc y):Asc (x++y):=λ c hc=>by
 rw[a0g,z08] at hc;exact hc.elim (h c) (g c)
theorem Asc.join {s:Str} {l:List Str} (h:Asc s) (g:∀ x∈l,Asc x):Asc (Str.join s l):=λ c hc=>by
 rcases b2m _ _ c hc with z | ⟨x,hx,z⟩
 ·exact h c z
 ·exact g x hx c z
theorem b4z {n:Int} (h:Bd n):Asc (num n):=(c0p h).2.1
theorem a6x {c:Nat} (h:c < 16 ^ 8):Asc ⟨#[c]⟩:=(a1d.one h).2
theorem e1w {n:Int} (h:Bd n):Asc (b3f n):=by
 unfold b3f;split
 ·exact a6x (by decide)
 ·exact b4z h
theorem d4q {l:Lk} (h:BdL l):Asc (a1f l):=by
 unfold a1f;split
 ·exact a6x (by decide)
 ·refine(a6x (by decide)).join λ x hx=>?_
  obtain⟨p,hp,rfl⟩:=z0a.mp hx;exact((b4z (h p hp).1).app (a6x (by decide))).app (e1w (h p hp).2)
theorem d4f {p:Ps} (h:BdP p) (hw:∀ d∈p.1,d.2.1∈a8r):Asc (a5f p):=by
 have hlv:∀ x∈a8r,∀ c∈x.cps.toList,c < 16 ^ 8:=by decide +kernel
 refine(a6x (by decide)).join λ x hx=>?_
 rcases z08.mp hx with z | z
 ·obtain⟨d,hd,rfl⟩:=z0a.mp z;have hh:Asc (hdD d):=(((b4z (h.1 d hd).1).app (a6x (by decide))).app (hlv _ (hw d hd))).app (a6x (by decide));unfold a0v;split
  ·exact hh
  ·refine(hh.app (a6x (by decide))).app (Asc.join (by decide:∀ c∈a3v.cps.toList,c < 16 ^ 8) λ x hx=>?_);obtain⟨l,hl,rfl⟩:=z0a.mp hx;exact d4q ((h.1 d hd).2 l hl)
 ·obtain⟨m,hm,rfl⟩:=z0a.mp z;refine(((show Asc mkW from (by decide:∀ c∈mkW.cps.toList,c < 16 ^ 8)).app (b4z (h.2 m hm).1)).app (a6x (by decide))).app (Asc.join (λ c hc=>by cases hc) λ x hx=>?_);obtain⟨n,hn,rfl⟩:=z0a.mp hx;exact(a6x (by decide)).app (b4z ((h.2 m hm).2 n hn))
theorem SmP.bd {n:Nat} {p:Ps} (h:SmP n p):BdP p:=by
 have e30:(10:Int) ^ 30=1000000000000000000000000000000:=by decide
 have b9:∀ n:Int,-1<=n->n<=9->Bd n:=λ n h1 h2=>⟨by rw[e30];lia,by rw[e30];lia⟩
 exact⟨λ d hd=>⟨b9 _ (by have:=(h.deals d hd).1;lia) (h.deals d hd).2.1,λ l hl x hx=>⟨(h.looks d hd l hl x hx).1,b9 _ (h.looks d hd l hl x hx).2.1 (h.looks d hd l hl x hx).2.2⟩⟩,λ m hm=>⟨(h.makes m hm).1,λ n hn=>b9 n (by have:=((h.makes m hm).2.2 n hn).1;lia) ((h.makes m hm).2.2 n hn).2⟩⟩
theorem SmP.c {n:Nat} {p:Ps} (h:SmP n p):cP p<=n:=by
 have xl:∀ y∈a8r,y.length<=5:=by decide +kernel
 have h1:=a1w (l:=p.1) (f:=cD) (g:=wD) λ d hd=>by
  have h3:=xl _ (h.deals d hd).2.2;have h4:=a1w (l:=d.2.2) (f:=cL) (g:=wL) λ l hl=>by show l.length+1<=34*l.length+3;lia
  show (d.2.2.map cL).sum+d.2.1.length+1<=10+(d.2.2.map wL).sum;lia
 have h2:=a1w (l:=p.2) (f:=cM) (g:=wM) λ m hm=>by show m.2.length+1<=38+2*m.2.length;lia
 have h3:(p.1.map wD).sum+(p.2.map wM).sum<=n:=h.w;show (p.1.map cD).sum+(p.2.map cM).sum<=n;lia
theorem SmP.len {n:Nat} {p:Ps} (h:SmP n p):(a5f p).length<=n:=by
 have xl:∀ y∈a8r,y.length<=5:=by decide +kernel
 have hb:=h.bd;have lk1:∀ d∈p.1,∀ l∈d.2.2,(a1f l).length<=34*l.length+1:=λ d hd l hl=>by
  unfold a1f;split
  ·rw[b3a];lia
  ·have h1:=a1w (l:=l) (f:=(λ x:Str=>x.length) ∘ a1n) (g:=λ _=>33) λ x hx=>by
    obtain⟨h1,h2,h3⟩:=h.looks d hd l hl x hx;have h4:=a1z h1;have h5:(b3f x.2).length<=1:=by
     unfold b3f;split
     ·exact z04 1
     ·exact e7j (by lia) h3
    show (a1n x).length<=33;unfold a1n;rw[z0d,z0d,b3a];lia
   rw[a6w,<-z0t] at h1;have h2:=a5b ⟨#[32]⟩ (l.map a1n);rw[b3a,z03] at h2;lia
 have dl1:∀ d∈p.1,(a0v d).length+1<=wD d:=λ d hd=>by
  obtain⟨d0,d9,dw⟩:=h.deals d hd;have h1:(hdD d).length<=8:=by
   have:=e7j d0 d9;have:=xl _ dw;unfold hdD;rw[z0d,z0d,z0d,b3a,b3a];lia
  have h4:=a1w (l:=d.2.2) (f:=(λ x:Str=>x.length) ∘ a1f) (g:=λ l=>34*l.length+1) λ l hl=>lk1 d hd l hl
  rw[<-z0t] at h4;have h5:=a5b a3v (d.2.2.map a1f);rw[show a3v.length=2 from rfl,z03] at h5;have h6:(d.2.2.map wL).sum=(d.2.2.map λ l=>34*l.length+1).sum+d.2.2.length*2:=a8y (λ l:Lk=>34*l.length+1) 2 d.2.2;show _<=10+(d.2.2.map wL).sum;unfold a0v;split
  ·lia
  ·rw[z0d,z0d,b3a];lia
 have mk1:∀ m∈p.2,(a1a m).length+1<=wM m:=λ m hm=>by
  have h1:=a1z (h.makes m hm).1;have h2:=a1w (l:=m.2) (f:=(λ x:Str=>x.length) ∘ λ n=>(⟨#[32]⟩:Str)++num n) (g:=λ _=>2) λ n hn=>by
   obtain⟨h8,h9⟩:=(h.makes m hm).2.2 n hn;have:=e7j h8 h9;show ((⟨#[32]⟩:Str)++num n).length<=2;rw[z0d,b3a];lia
  rw[a6w,<-z0t] at h2;have h3:=a5b ⟨#[]⟩ (m.2.map λ n=>(⟨#[32]⟩:Str)++num n);rw[show (⟨#[]⟩:Str).length=0 from rfl] at h3;show _<=38+2*m.2.length;unfold a1a;rw[z0d,z0d,z0d,b3a,b4p];lia
 have h1:=a5b ⟨#[10]⟩ (p.1.map a0v++p.2.map a1a);rw[b3a,z0r,z03,z03,z0m,z3p,z0t,z0t] at h1;have h2:=a1w (l:=p.1) (f:=λ d=>(a0v d).length+1) (g:=wD) dl1;have h3:=a1w (l:=p.2) (f:=λ m=>(a1a m).length+1) (g:=wM) mk1;rw[a8y] at h2 h3;have h4:(p.1.map wD).sum+(p.2.map wM).sum<=n:=h.w;have e1:(p.1.map ((λ x:Str=>x.length) ∘ a0v)).sum=(p.1.map λ d=>(a0v d).length).sum:=rfl;have e2:(p.2.map ((λ x:Str=>x.length) ∘ a1a)).sum=(p.2.map λ d=>(a1a d).length).sum:=rfl;rw[e1,e2] at h1;show (Str.join ⟨#[10]⟩ (p.1.map a0v++p.2.map a1a)).length<=n;lia
def d6g (K:W.Frag):Sp:=λ vs H Q _=>∃ (a:Addr) (ns:List Int),vs=[.ref a]/\SqL K H a (ns.map V.int)/\ns.length<=63/\(∀ m∈ns,Builtin.Int.intBits m<=1048576)/\∀ H',Q (.bl true) H'
theorem e5m (T:Tx K mg):T.d9t.Ok P w base 9 (d6g K):=by
 refine okF T.d9t.F a5e λ _ A _ _ _ _ _ _ hr h=>?_
 ·obtain⟨a,ns,rfl,ha,h63,hbits,k⟩:=h;refine⟨_,(a0d (psx 1 a5e.nd (pcF T.a8f (b5w T) hr (a0a (pv 0) (a0a a3f a0b))))
   (a0d (psx 2 a5e.nd (pcF T.a7x (b5y T) hr (a0a (pv 0) (a0a (pv 1) a0b))))
   (a0d (psx 3 a5e.nd (pcF T.b0s (b1y T) hr (a0a (pv 0) (a0a a0e a0b))))
   (a1y (a1g (a0i d4m (a0q a1k (by rfl) T.a4f z0z (a0a (pv 0) a0b)) a0e (a0o _))
   (a0f (psx 3 a5e.nd (pix a1e (pv 0) (d0u c1k a0e))))
   a0n)
   (a0d (a2r z11 rfl (a2z rfl T.a4e (a0a a0e a0b)) (pgm 4 a5e.nd)
   (a0d (psx 5 a5e.nd (a0l a2h (pcF T.a2v (a2q T) hr (a0a (pv 3) (a0a (a0l a2c a0e (pv 4)) a0b))) a0e))
   (a0d (psx 6 a5e.nd (pcF T.a2v (a2q T) hr (a0a (pv 3) (a0a (a0l a2c a0e (pv 4)) a0b))))
   (a0d (psx 7 a5e.nd (pcF T.c3m (d7l T) hr (a0a (pv 0) (a0a (pv 1) (a0a (pv 2) a0b)))))
   (a0d (a3i (pcF T.b2d (c4q T) hr (a0a (pv 7) (a0a (pv 5) (a0a (pv 6) a0b)))))
   (a0d (a3i (pcF T.b2g (c2t T) hr (a0a (pv 7) (a0a (pv 5) (a0a (pv 6) a0b)))))
   (a0d (psx 8 a5e.nd (pcF T.c3z (d7a T) hr (a0a (pv 7) a0b)))
   (a1y (a1g (a0i b3e (pv 5) a0e (a0o _))
   (a0f (psx 8 a5e.nd (pcF T.b2i (c4j T) hr (a0a (pv 8) (a0a (pv 5) (a0a (pv 6) a0b))))))
   a0n)
   (a0d (psx 9 a5e.nd (pcF T.c9v (d9p T) hr (a0a (pv 8) a0b)))
   (a0d (psx 10 a5e.nd a3f)
   (a0d (psx 11 a5e.nd a7l)
   (a0d (e1v (i:=10) (j:=12) ((b6l T).mono (by decide)) hr rfl T.a3n.m T.a3n.F.kp T.a3n.b (a0a (pv 8) a0b) T.c0z rfl a5e.nd rfl (Or.inl rfl) rfl rfl rfl rfl rfl (λ ea=>(a0f (psx 11 a5e.nd (b0i (a0q (d2f (K:=K) rfl) (by rfl) T.a1q z2b (a0a (pv 12) (a0a (a6t (v:=V.ref T.a1t) rfl T.c3c rfl) a0b))) (b1l (d8y (a0q (c8s (K:=K) rfl) (by rfl) T.a1q z2b (a0a (pv 12) (a0a (a3p (a0a (a6t (v:=V.ref T.a1i) rfl T.c7y rfl) (a0a (a6t (v:=V.ref T.a4q) rfl T.c3a rfl) a0b))) a0b))))))))))
   (a1y (a1g (PW.pt (b2b (a0i b6q (pv 9) a3f (a0o _)) (a8e (a6n (a3q (pv 11))))))
   (a0f (a0p a7l))
   a0n)
   (a0f (a1g (PW.pt (b2b (a0i d9m (pv 9) a3f (a0o _)) (a8e (PW.pt (a8t (a3q (pv 11)) (a6k (a6n (a3q (pcF T.a4t (d5w T) hr (a0a (pv 10) (a0a (pv 9) a0b)))))))))))
   (a0f (a0p a7l))
   a0n)))))))))))))))
   (a0f (a0p a7l))))))),?_⟩
  refine nx1 _ rfl a (nx7 ns (.non) rfl ha (.inl rfl) λ v1 H1 ds s1 t1 gd _=>?_);refine nx20 _ rfl _ rfl a ns v1 ds rfl (s1.seq ha) (t1.same a4s) gd λ v2 H2 os s2 t2 hW hol=>?_;have hS:=(s1.trans s2).seq ha;have td:=(t1.same a4s).same s2;have to:=t2.same a4s;refine nx1 _ rfl a (nx7 ns 2 rfl hS (by decide) λ c0=>?_);refine⟨λ σ H3=>H3=H2/\∃ c:Int,σ=[some (.ref a),some v1,some v2,some (.int c),none,none,none,none,none,none,none,none,none],?_,?_⟩
  ·refine nx5 _ rfl _ _ rfl (.inl ⟨_,hS,rfl⟩) (nx31 _ _ rfl rfl _ rfl (a3o (λ e=>?_) (λ e=>⟨rfl,c0,rfl⟩)));have e1:(1:Int) < (((ns.map V.int).length:Nat):Int):=z0b e;rw[z03] at e1;have el:=z0c (show ns.length - 1 < ns.length by lia);exact nx20 _ rfl _ rfl a _ _ _ rfl rfl hS (d2i (by rw[z03,z0f,el];rfl)) ⟨rfl,_,rfl⟩
  rintro σ H2' ⟨rfl,c,rfl⟩;refine⟨3,rfl,by decide,by decide,a3h (lo:=0) (n:=(3:Int).toNat) (λ i σ H3=>Same H2' H3/\∃ x4 x5 x6 x7 x8 x9 x10 x11 x12:Option V,σ=[some (.ref a),some v1,some v2,some (.int c),x4,x5,x6,x7,x8,x9,x10,x11,x12]) (⟨Same.refl _,nx37 _ _ _ _ _ _ _ _ _ rfl⟩) ?_ ?_⟩
  ·rintro i σ H3 hi ⟨s3,x4,x5,x6,x7,x8,x9,x10,x11,x12,rfl⟩;refine nx15 _ rfl _ rfl _ _ rfl rfl (nx12 c _ rfl (nx7 _ _ rfl rfl (by show (0:Int) < 16;decide) ?_));obtain⟨wy,ewy⟩:∃ wy,b6b c (1+(0+(i:Int)))%16=wy:=⟨_,rfl⟩;rw[show (λ i j=>V.int (i%j)) (b6b c (1+(0+(i:Int)))) 16=V.int wy from z0e V.int ewy];refine nx15 _ rfl _ rfl _ _ rfl rfl (nx12 c _ rfl ?_);obtain⟨n,en⟩:∃ n,b6b c (4+(0+(i:Int)))=n:=⟨_,rfl⟩;rw[en];refine nx35 _ rfl _ rfl _ rfl a (nx13 ns v1 v2 ds os rfl (s3.seq hS) (td.same s3) (to.same s3) gd hW hol λ v4 H4 p f s4 tf nd fr sm=>?_);refine nx35 _ rfl _ rfl _ rfl v4 (nx8 wy n p f rfl tf nd sm λ H5 k5 u5 hp5=>?_);obtain⟨p6,t6,sm6,c6⟩:∃ p6,Tr H5 v4 (a3r p6)/\SmP 3860 p6/\(13<=wy->TF H5 v4 (a3r p6) f/\f.Nodup/\SmP 3824 p6):=by
    by_cases hw:10<=wy/\wy<=12
    ·obtain⟨p5,t5,sm5⟩:=hp5;exact⟨p5,t5,sm5,λ z=>by lia⟩
    ·have s5:=u5 hw;exact⟨p,(tf.same s5).tr,sm.mono (by decide),λ _=>⟨tf.same s5,nd,sm⟩⟩
   refine nx35 _ rfl _ rfl _ rfl v4 (nx8 wy n p6 f rfl t6 sm6 c6 λ H6 k6 hp6=>?_);obtain⟨p7,t7,sm7⟩:=hp6;have s36:Same H3 H6:=λ b o e=>by
    have nb:b ∉ f:=λ hb=>by rw[fr b hb] at e;cases e
    exact k6 _ _ nb (k5 _ _ nb (s4 _ _ e))
   refine nx19 _ rfl v4 p7 rfl t7 sm7.bd ⟨(λ d hd l hl x hx=>(sm7.looks d hd l hl x hx).2.1),z0s sm7.c (by decide),λ H7 s7=>?_⟩;have hsh:a1d 3860 (a5f p7):=⟨sm7.len,d4f sm7.bd λ d hd=>(sm7.deals d hd).2.2⟩;generalize a5f p7=x0 at hsh;refine⟨λ σ H8=>Same H7 H8/\∃ x,a1d 7900 x/\σ=[some (.ref a),some v1,some v2,some (.int c),some (.int (0+(i:Int))),some (.int wy),some (.int n),some v4,some (.str x),x9,x10,x11,x12],?_,?_⟩
   ·refine nx23 _ rfl _ _ rfl rfl _ rfl (a3o (λ e=>?_) (λ e=>⟨Same.refl _,x0,hsh.mono (by decide),rfl⟩));exact nx35 _ rfl _ rfl _ rfl x0 (nx0 wy n rfl hsh λ y H8 hy s8=>⟨s8,y,hy,rfl⟩)
   rintro σ H8 ⟨s8,x,hx,rfl⟩;have s38:=s36.trans (s7.trans s8);refine nx17 _ rfl x rfl hx λ v9 H9 s9 o9=>?_;rw[<-c6x] at o9;refine nx17 _ rfl x rfl hx ⟨(λ pp hp v10 H10 s10 t10=>?_),(λ hn dd H10 s10=>⟨_,rfl,T.e7f,λ ea hea=>?_⟩)⟩
   ·have hdl:=hp;rw[c6x] at hdl;obtain⟨hRd,_,_⟩:=c0y hdl;rw[hp] at o9;have t9:Tr (off H8 H9) v9 (a3r pp):=o9;obtain⟨q9,_,_,_,_,rfl,_⟩:=t9.past;refine⟨λ σ H11=>H11=H10/\σ=[some (.ref a),some v1,some v2,some (.int c),some (.int (0+(i:Int))),some (.int wy),some (.int n),some v4,some (.str x),some (.ref q9),some v10,some (.bl false),x12],?_,?_⟩
    ·exact nx4 _ rfl rfl _ rfl (a7h (A:=False) ⟨rfl,rfl⟩)
    rintro σ H11 ⟨rfl,rfl⟩;refine nx4 _ rfl rfl _ rfl (a5m (B:=False) (nx6 _ rfl _ rfl (a7h (A:=False) ?_)));exact nx6 _ rfl _ rfl (nx2 v10 (.ref q9) (a3r pp) rfl (t10.same a4s) ((t9.same a4s).same s10) ((d6b hRd.2.1).2.1) λ H12 s12=>⟨_,rfl,a7h (A:=False) (⟨s3.trans (s38.trans (s9.trans (s10.trans s12))),nx37 _ _ _ _ _ _ _ _ _ rfl⟩)⟩)
   ·rw[hn] at o9;have e9:v9=.non:=o9;subst e9;refine nx9 _ rfl ea _ true _ rfl a0c T.b3c (.inl ⟨_,rfl,T.a8u.one⟩) _ rfl (a5m (B:=False) ?_);refine⟨_,rfl,(by show 2<=sizeLine;decide),λ tp htp=>?_⟩;have h1:(upd (upd H10 ea (c9l ea T.a1t)) tp (.tup ([T.a1i,T.a4q].map V.ref))) ea=some (c9l ea T.a1t):=(Same.upd htp) _ _ a0c;refine nx36 ea _ tp ([T.a1i,T.a4q]) false rfl h1 T.b3c a0c (c5a (λ D hD=>?_)) ?_
    ·simp only [z06,z1r,z1v] at hD;rcases hD with z | z
     ·rw[z];exact T.a9j
     ·rw[z];exact T.a8s
    have s11:=(Same.upd (o:=c9l ea T.a1t) hea).trans (Same.upd (o:=HO.tup ([T.a1i,T.a4q].map V.ref)) htp);refine⟨_,rfl,?_⟩;refine⟨λ σ H12=>Same H10 H12/\σ=[some (.ref a),some v1,some v2,some (.int c),some (.int (0+(i:Int))),some (.int wy),some (.int n),some v4,some (.str x),some .non,some .non,some (.bl true),none],?_,?_⟩
    ·exact nx4 _ rfl rfl _ rfl (a5m (B:=False) (nx6 _ rfl _ rfl (a7h (A:=False) ⟨s11,rfl⟩)))
    rintro σ H12 ⟨s12,rfl⟩;exact nx4 _ rfl rfl _ rfl (a7h (A:=False) (⟨s3.trans (s38.trans (s9.trans (s10.trans s12))),nx37 _ _ _ _ _ _ _ _ _ rfl⟩))
  ·rintro σ H3 ⟨s3,x4,x5,x6,x7,x8,x9,x10,x11,x12,rfl⟩;exact k H3
end
open PySem.W in
theorem all_mk {l:OpenLaw} {w:World} {K:Frag} {h:Heap} {mg:Str->Option Value} {fa:Addr} (X:K.In h) (G:h.Ns mainGlobals mg) (hfa:mg "law"=some (.ref fa))
  {ec0:Addr} (e0:nsIn K mainGlobals "SkewError"=some (some (.ref ec0)))
  {ec1:Addr} (e1:nsIn K mainGlobals "NoNumber"=some (some (.ref ec1)))
  {ec2:Addr} (e2:nsIn K mainGlobals "NoProgram"=some (some (.ref ec2)))
  {ec3:Addr} (e3:nsIn K mainGlobals "NoHistory"=some (some (.ref ec3)))
  (g0:FeH K "is_written_number" (top 9))
  (g1:FeH K "number_of" (top 10))
  (g2:FeH K "written" (top 11))
  (g3:FeH K "is_level" (top 12))
  (g4:FeH K "show_pair" (top 17))
  (g5:FeH K "show_look" (top 18))
  (g6:FeH K "show_deal" (top 19))
  (g7:FeH K "show_make" (top 20))
  (g8:FeH K "show_history" (top 21))
  (g9:FeH K "read_pair" (top 22))
  (g10:FeH K "read_look" (top 23))
  (g11:FeH K "read_deal" (top 24))
  (g12:FeH K "read_make" (top 25))
  (g13:FeH K "read_rows" (top 26))
  (g14:FeH K "rise" (top 27))
  (g15:FeH K "is_source" (top 28))
  (g16:FeH K "is_look" (top 29))
  (g17:FeH K "is_deal" (top 30))
  (g18:FeH K "is_make" (top 31))
  (g19:FeH K "is_history" (top 32))
  (g20:FeH K "read_history" (top 33))
  (g21:FeH K "_law_mixed" (top 35))
  (g22:FeH K "_law_cell" (top 36))
  (g23:FeH K "_law_spots" (top 37))
  (g24:FeH K "_law_place" (top 38))
  (g25:FeH K "_law_first" (top 39))
  (g26:FeH K "_law_drawn_deals" (top 40))
  (g27:FeH K "_law_drawn_order" (top 41))
  (g28:FeH K "_law_keys" (top 42))
  (g29:FeH K "_law_look" (top 43))
  (g30:FeH K "_law_kept" (top 44))
  (g31:FeH K "_law_past" (top 45))
  (g32:FeH K "_law_same" (top 46))
  (g33:FeH K "_law_number" (top 47))
  (g34:FeH K "_law_look_of" (top 48))
  (g35:FeH K "_law_deal_of" (top 49))
  (g36:FeH K "_law_make_of" (top 50))
  (g37:FeH K "_law_rise" (top 51))
  (g38:FeH K "_law_is_history" (top 52))
  (g39:FeH K "_law_due" (top 53))
  (g40:FeH K "_law_sign" (top 54))
  (g41:FeH K "_law_odd_row" (top 55))
  (g42:FeH K "_law_with_rows" (top 56))
  (g43:FeH K "_law_spoiled" (top 57))
  (g44:FeH K "_law_pair" (top 58))
  (g45:FeH K "_law_text" (top 59))
  (g46:FeH K "_law_of_looks" (top 60))
  (g47:FeH K "_law_of_makes" (top 61))
  (g48:FeH K "law" (top 62))
  (x0:excIn K ec1 [.type "ValueError",.type "Exception",.type "BaseException",.type "object"] "ValueError.__new__"=true)
  (x1:excIn K ec3 [.type "ValueError",.type "Exception",.type "BaseException",.type "object"] "ValueError.__new__"=true)
  (b6h:isClsIn K ec3=true)
  (b5s:findIn K (.ref ec3) "__getattribute__"=some (some (.builtin "BaseException.__getattribute__")))
  (b6o:findIn K (.ref ec3) "__getattr__"=some none)
  (b6j:findIn K (.ref ec3) "__class__"=some (some (.builtin "object.__class__")))
  (b5v:mroIn K ec3 (.type "BaseException")=some true)
  (b6f:mroIn K ec3 (.type "object")=some true)
  (b8t:keepIn K (.ref ec3)=true)
  (e5b:subIn K (.ref ec1) (.ref ec1)=some true)
  (e5j:subIn K (.ref ec3) (.ref ec0)=some true)
  (b6d:typeIn K (.ref ec0)=some (.type "type"))
  (b6a:isClsIn K ec0=true)
  (b5u:mroIn K ec0 (.type "BaseException")=some true)
  (b9p:typeIn K (.ref ec1)=some (.type "type"))
  (b9m:isClsIn K ec1=true)
  (b9k:mroIn K ec1 (.type "BaseException")=some true)
  (a8b:isClsIn K ec3=true)
  (a7p:typeIn K (.ref ec3)=some (.type "type"))
  (a7t:subIn K (.ref ec3) (.ref ec3)=some true)
  (a8a:subIn K (.ref ec3) (.ref ec3)=some true)
  (a8q:isClsIn K ec1=true)
  (a8j:typeIn K (.ref ec1)=some (.type "type"))
  (a8m:subIn K (.ref ec3) (.ref ec3)=some true)
  (a8o:subIn K (.ref ec3) (.ref ec1)=some false)
  (a7r:isClsIn K ec2=true)
  (a7s:typeIn K (.ref ec2)=some (.type "type"))
  (a7u:subIn K (.ref ec3) (.ref ec3)=some true)
  (a8d:subIn K (.ref ec3) (.ref ec2)=some false)
  {e6p:Tok} (n0:nsIn K mainGlobals "FIGURES"=some (some (.str "0123456789" e6p)))
  {e6l:Tok} (n1:nsIn K mainGlobals "MOST_FIGURES"=some (some (.int (30) e6l)))
  {ca2:Addr} {e6k:Option Addr} {cs2:Array (Option Value)} {cn2:Nat} {cx2_0 cx2_1 cx2_2 cx2_3 cx2_4:Tok} (n2:nsIn K mainGlobals "LEVEL_WORDS"=some (some (.ref ca2))) (q2:K.lookup ca2=some ⟨.type "tuple",e6k,.seq #[.str "loose" cx2_0,.str "kept" cx2_1,.str "make" cx2_2,.str "watch" cx2_3,.str "hold" cx2_4] cn2,cs2⟩)
  {e7i:Tok} (n3:nsIn K mainGlobals "START"=some (some (.int (0) e7i)))
  {e6r:Tok} (n4:nsIn K mainGlobals "UNKEPT"=some (some (.int (-1) e6r)))
  {e5w:Tok} (n5:nsIn K mainGlobals "MOST_DEALS"=some (some (.int (8) e5w)))
  (e1a:nsIn K mainGlobals "abs"=some none)
  (b9e:nsIn K mainGlobals "all"=some none)
  (d3o:nsIn K mainGlobals "bool"=some none)
  (c6b:nsIn K mainGlobals "dict"=some none)
  (c1u:nsIn K mainGlobals "int"=some none)
  (a1q:nsIn K mainGlobals "isinstance"=some none)
  (a4f:nsIn K mainGlobals "len"=some none)
  (b7l:nsIn K mainGlobals "list"=some none)
  (d5u:nsIn K mainGlobals "max"=some none)
  (a4e:nsIn K mainGlobals "range"=some none)
  (b2u:nsIn K mainGlobals "reversed"=some none)
  (e0o:nsIn K mainGlobals "set"=some none)
  (b4b:nsIn K mainGlobals "str"=some none)
  (b5n:nsIn K mainGlobals "tuple"=some none)
  (d4t:nsIn K mainGlobals "zip"=some none)
  : ∃ fd:FuncData,(∀ (s:Shared) (v:Value),BindsTo s fd ⟨[v],[]⟩ [("_law_script",v)])/\∀ base:Heap,K.In base->base.Ns mainGlobals mg->b0w l.prog w K mg base CX0 9 fa fd ["_law_script"] (d6g K):=by
 have T:Tx K mg:=by
  refine⟨g0.fe X G ?_,g1.fe X G ?_,g2.fe X G ?_,g3.fe X G ?_,g4.fe X G ?_,g5.fe X G ?_,g6.fe X G ?_,g7.fe X G ?_,g8.fe X G ?_,g9.fe X G ?_,g10.fe X G ?_,g11.fe X G ?_,g12.fe X G ?_,g13.fe X G ?_,g14.fe X G ?_,g15.fe X G ?_,g16.fe X G ?_,g17.fe X G ?_,g18.fe X G ?_,g19.fe X G ?_,g20.fe X G ?_,g21.fe X G ?_,g22.fe X G ?_,g23.fe X G ?_,g24.fe X G ?_,g25.fe X G ?_,g26.fe X G ?_,g27.fe X G ?_,g28.fe X G ?_,g29.fe X G ?_,g30.fe X G ?_,g31.fe X G ?_,g32.fe X G ?_,g33.fe X G ?_,g34.fe X G ?_,g35.fe X G ?_,g36.fe X G ?_,g37.fe X G ?_,g38.fe X G ?_,g39.fe X G ?_,g40.fe X G ?_,g41.fe X G ?_,g42.fe X G ?_,g43.fe X G ?_,g44.fe X G ?_,g45.fe X G ?_,g46.fe X G ?_,g47.fe X G ?_,g48.fe X G ?_,ec0,mg_of X G e0,ec1,mg_of X G e1,ec2,mg_of X G e2,ec3,mg_of X G e3,⟨mg_of X G e1,x0⟩,⟨mg_of X G e3,x1⟩,⟨b6h,b5s,b6o,b6j,b5v,b6f⟩,b8t,e5b,e5j,⟨mg_of X G e0,b6d,b6a,b5u⟩,⟨mg_of X G e1,b9p,b9m,b9k⟩,⟨a8b,a7p,a7t,a8a⟩,⟨a8q,a8j,a8m,a8o⟩,⟨a7r,a7s,a7u,a8d⟩,_,mg_of X G n0,_,mg_of X G n1,ca2,mg_of X G n2,λ _=>.inr (nx2 _ _ _ q2 rfl rfl (by show 5<=sizeLine;decide) (.cons ⟨_,rfl⟩ (.cons ⟨_,rfl⟩ (.cons ⟨_,rfl⟩ (.cons ⟨_,rfl⟩ (.cons ⟨_,rfl⟩ .nil)))))),_,mg_of X G n3,_,mg_of X G n4,_,mg_of X G n5,z1p X G e1a,z1p X G b9e,z1p X G d3o,z1p X G c6b,z1p X G c1u,z1p X G a1q,z1p X G a4f,z1p X G b7l,z1p X G d5u,z1p X G a4e,z1p X G b2u,z1p X G e0o,z1p X G b4b,z1p X G b5n,z1p X G d4t⟩;all_goals first | (intro _ _ _ _ _ _ us hl;first | (obtain⟨_,rfl⟩:=us1 hl;rfl) | (obtain⟨_,_,rfl⟩:=us2 hl;rfl) | (obtain⟨_,_,_,rfl⟩:=us3 hl;rfl) | (obtain⟨_,_,_,_,rfl⟩:=us4 hl;rfl))
 exact T.d9t.law hfa (λ _ _ _ _ _ _ _=>rfl) λ base=>e5m T
theorem walk {l:W.OpenLaw} {q:Program} {loose:List Str} {XP:(Str->Option Value)->Heap->Prop} {YP:World->Heap->Prop} {d:DefRec} {K:Params->W.Frag} (hn:l.most=some 63) (hdf:d.params.defaults=[])
  (hY:∀ (w:World) (h:Heap),YP w h->(K w.params).In h)
  (F:∀ (w:World) (mg:Str->Option Value) (fa:Addr) (h:Heap),(K w.params).In h->h.Ns mainGlobals mg->mg d.name=some (.ref fa) ->
   ∃ fd:FuncData,(∀ (s:Shared) (u:Value),BindsTo s fd ⟨[u],[]⟩ [("_law_script",u)])/\∀ base:Heap,(K w.params).In base->base.Ns mainGlobals mg->b0w l.prog w (K w.params) mg base CX0 9 fa fd ["_law_script"] (d6g (K w.params))) :
  W.WalkO q loose XP YP l.row.toRowW d [] (λ f vs=>PySem.call f vs) :=
 My.d4p (n:=63) (k:=9) (x:="_law_script") (CX:=λ _=>CX0) (sp:=λ w=>d6g (K w.params)) hn (by decide) hdf ⟨rfl,by decide,by decide⟩ hY F (λ _ _ a ns hl hb _ hS=> nx25 a ns rfl hS hl hb λ _=>rfl) λ _ _ _ _ _ z=>z
end Lw
namespace PySem.W.Fast
def tw1456714976481249355:=0
def tw9308272120228632593:=0
def tw9889602687932253039:=0
def tw5278377876353101948:=0
def tw477460971734606973:=0
def tw1850576187973976656:=0
def tw13582623278640864433:=0
def tw17766924302035684984:=0
def tw13493500696057107412:=0
def tw2689280715328237952:=0
def tw4562053988074471554:=0
def tw14695755000163045071:=0
def tw5727828378231514175:=0
def tw10984359450188643812:=0
def tw4366627261300353896:=0
def tw16389516891534956122:=0
def tw7281283253497082321:=0
def tw18130381093978523497:=0
def tw16642590104284328850:=0
def tw4052776028252684695:=0
def tw12780015270819296836:=0
def tw9988887614706334482:=0
def tw14115580086654507625:=0
def tw5889178431593811496:=0
def tw5432653472765442561:=0
def tw9525713777142894012:=0
def tw13676299253503072786:=0
def tw1444435190099891257:=0
def tw8466151784920112548:=0
def tw14980236220628596249:=0
def tw7070834080012843621:=0
def tw5414093488678947812:=0
def tw18243887797507293986:=0
def tw4880442135960987749:=0
def tw3709804997426743206:=0
def tw18364006040015625798:=0
def tw5766340063991816325:=0
def tw14377544618487305535:=0
def tw7636302307849944170:=0
def tw13400810729840485663:=0
def tw9141885884403235376:=0
def tw861516466259722749:=0
def tw9170232451962879809:=0
def tw11238255735254711601:=0
def tw16726526961953291394:=0
def tw18304460471290467478:=0
def tw4473195942132851514:=0
def tw12555013180779968740:=0
def tw2845508921686544370:=0
def tw3461532390467787555:=0
def tw6392158139107614386:=0
def tw12736173454069250123:=0
def tw52116266993797576:=0
def tw16814033689432158928:=0
def tw3833696496001742159:=0
def tw9050971109287031353:=0
def tw5160673955926963570:=0
def tw18260140751697487427:=0
def tw6038639424258295636:=0
def tw13314267457670171109:=0
def tw6877485012836115300:=0
def tw5340499348320115923:=0
def tw1817424810678654341:=0
def tw2974520912999461367:=0
def tw2242296393775864792:=0
def tw12181279980622315455:=0
def tw14919093138522548804:=0
def tw12085361206866131821:=0
def tw5559811815704321395:=0
def tw17401307083785795950:=0
def tw770583826739356094:=0
def tw16398728100833026634:=0
def tw5100567085567363237:=0
def tw9370764369507922261:=0
def tw9066087933689812294:=0
def tw18377768949147026277:=0
def tw3858434913734605690:=0
def tw10294623714667182694:=0
def tw1745071428619588513:=0
def tw9491308063072335650:=0
def tw274378788341251534:=0
def tw11254279433667646830:=0
def tw3485828039259850019:=0
def tw14131879024661933337:=0
def tw4318846258634807139:=0
def tw6044319455102936397:=0
def tw11368401804299547851:=0
def tw12800646388226130147:=0
def tw13048975358021970917:=0
def tw2288601152212697342:=0
def tw10462205656658572014:=0
def tw3997056826782937470:=0
def tw17074715773646101838:=0
def tw13485691096068639241:=0
def tw10532375194504018711:=0
def tw12104508059020230154:=0
def tw10210992163292146894:=0
def tw16845248578383218686:=0
def tw13318522422753079916:=0
def tw8823576333762320391:=0
def tw17339107086505606709:=0
def tw2925695462852483384:=0
def tw8058939689561678633:=0
def tw14466172226390502384:=0
def tw10219218028362623945:=0
def tw579534934734369370:=0
def tw9016429003059622325:=0
def tw15090330861452598348:=0
def tw12440400058609784316:=0
def tw10599552084919005091:=0
def tw8641573631103766881:=0
def tw11872783852438222187:=0
def tw15008273602370231595:=0
def tw4940834363392408920:=0
def tw4989887295450458552:=0
def tw4041059453059483077:=0
def tw8202413143590383001:=0
def tw15846817831246335992:=0
def tw14368133690490300749:=0
def tw5805874311475123493:=0
def tw15235039663028461802:=0
def tw838126553320104097:=0
def tw8056188000634892393:=0
def tw5403897893671540687:=0
def tw428926069351368206:=0
def tw8804029664223935897:=0
def tw6770370864248112936:=0
def tw5473362105815652651:=0
def tw8918887596180265909:=0
def tw5501999895874413483:=0
def tw9440293753072783149:=0
def tw12762475431021045604:=0
def tw7357668772465987382:=0
def tw8047748879781935762:=0
def tw7816423924244771101:=0
def tw11491732865621431815:=0
def tw739385842920758621:=0
def tw3909638699828226976:=0
def tw16425931290751444556:=0
def tw3792583809008582704:=0
def tw6068937311388911711:=0
def tw8247348462223724899:=0
def tw11642777660002445395:=0
def tw5446413996499596031:=0
def tw7003382432112717680:=0
def tw10048076952805324118:=0
def tw14194277912558150642:=0
def tw15998027015993772795:=0
def tw16152705208417166902:=0
def tw976827794392955454:=0
def tw12170850082319573152:=0
def tw1062084712998693324:=0
def tw7405623540953084710:=0
def tw12942090922110578922:=0
def tw8241220909648195235:=0
def tw9325208159056022288:=0
def tw2127437532604002093:=0
def tw12430139728625664958:=0
def tw1711577173264224816:=0
def tw5825978597277071296:=0
def tw7938920869205897044:=0
def tw11222138560269206276:=0
def tw1121374838870965658:=0
def tw16366982160138958227:=0
def tw6366312525310459058:=0
def tw15728037488099138752:=0
def tw4097582524907781819:=0
def tw208562877246077201:=0
def tw13539453736754875659:=0
def tw7360475074614466961:=0
def tw5775397834845513053:=0
def tw9097397062286333296:=0
def tw11194827696402664630:=0
def tw13987775074926802256:=0
def tw15075106510543126204:=0
def tw651452580308842917:=0
def tw15609226715482175358:=0
def tw6920316904522933516:=0
def tw7159540480655442750:=0
def tw12906572490874164880:=0
def tw3051170547184343445:=0
def tw13348744590139035428:=0
def tw14985569318410902831:=0
def tw12902054796175236490:=0
def tw12727018746987754068:=0
def tw16316794382558178097:=0
def tw14658023770731155274:=0
def tw16232201800289636520:=0
def tw7510016500441466415:=0
def tw11427590887867945038:=0
def tw14515885649027177919:=0
def tw9333935736036673586:=0
def tw7615933357759837108:=0
def tw14332645756980497300:=0
def tw1898563936277753371:=0
def tw12495889315099340448:=0
def tw13826719833828409412:=0
def tw17901941522856766847:=0
def tw7768144903456443935:=0
def tw12562429473083241523:=0
def tw3138019498359728125:=0
def tw1760944247244817985:=0
def tw5984928657405237688:=0
def tw6576665378550354073:=0
def tw5885670979877574913:=0
def tw3432603070955763645:=0
def tw16485585044073223102:=0
def tw12705866910573824786:=0
def tw16156597590068993959:=0
def tw17529414003501947908:=0
def tw11702632480952090222:=0
def tw15067493701312997123:=0
def tw10027443894684435684:=0
def tw11561460798485721811:=0
def tw5620059212458886330:=0
def tw1630309217609590853:=0
def tw15451946404641352565:=0
def tw2639849728928381929:=0
def tw4547057354478197269:=0
def tw9213906868041989930:=0
def tw13211351075251603870:=0
def tw1888166177587889872:=0
def tw10353097018823069264:=0
def tw2111224181345945265:=0
def tw12235964772186425845:=0
def tw15856260012699195015:=0
def tw12067450009724459913:=0
def tw2839436942191409605:=0
def tw8777021957271526497:=0
def tw3530270382691894281:=0
def tw13749513620284811978:=0
def tw828575138125531170:=0
def tw2003496422148758494:=0
def tw5091970464774320760:=0
def tw6905199734068405668:=0
def tw17436300494086578613:=0
def tw8194113747454838110:=0
def tw17726196083952590257:=0
def tw15393284947643577096:=0
def tw12863982000246870244:=0
def tw8786664437909436260:=0
def tw13584303499956327903:=0
def tw14022787122846314238:=0
def tw6449242595494917199:=0
def tw12654982104857417830:=0
def tw1388093655346806024:=0
def tw9204574024674473165:=0
def tw5720351506796631949:=0
def tw14634806608449673145:=0
def tw11318346846224977412:=0
def tw8882173864609103112:=0
def tw1056946106266070267:=0
def tw1025822234234680757:=0
def tw13514499161997610665:=0
def tw10946209207569500355:=0
def tw5145064668828745943:=0
def tw17381706557604384392:=0
def tw15553793974662784752:=0
def tw10378982601714674695:=0
def tw12983208554308034864:=0
def tw8271492762435079597:=0
def tw2808130214845687206:=0
def tw17217761513159424850:=0
def tw2159634273879333347:=0
def tw10163335753158608651:=0
def tw1386731788992834560:=0
def tw6084766496989376608:=0
def tw14672372299223210962:=0
def tw17576781539388342032:=0
def tw948223563917135139:=0
def tw17785314801058304880:=0
def tw1947316951532994759:=0
def tw4615661176073756885:=0
def tw15050092967725342780:=0
def tw13829435915667670723:=0
def tw15801233228603820073:=0
def tw10937364723458098375:=0
def tw2751606053419988354:=0
def tw17153160351832565259:=0
def tw3911374810533028441:=0
def tw6486902291709047946:=0
def tw609056368164819982:=0
def tw12534294627426573112:=0
def tw15706659267236356354:=0
def tw5729330304445916382:=0
def tw9166914555455892355:=0
def tw5926837641841765294:=0
def tw12254065988423436004:=0
def tw10759938951688339176:=0
def tw6659873601482198481:=0
def tw11340601015129348769:=0
def tw13566983854710609545:=0
def tw17610182745800447394:=0
def tw3127286489575392764:=0
def tw1754384444981343533:=0
def tw6388559884223457990:=0
def tw3121205752233367296:=0
def tw7416454777671423495:=0
def tw944188372061188034:=0
def tw4643678111664343510:=0
def tw4648971485913637950:=0
def tw3629165407940240061:=0
def tw1727330662269253151:=0
def tw6517333442091251462:=0
def tw16449686280756700209:=0
def tw9797733302430312688:=0
def tw16592394882514990270:=0
def tw6743474644335885918:=0
def tw12851929684529551080:=0
def tw7658816636777581659:=0
def tw678561529806405725:=0
def tw5257537872626913116:=0
def tw12914418719450871765:=0
def tw13165090602899082023:=0
def tw17359625487381561093:=0
def tw18291013674382513803:=0
def tw4193768045885689768:=0
def tw688651220616840510:=0
def tw8413703027536217315:=0
def tw18160153609462340658:=0
def tw16483518900769367385:=0
def tw5959449279235244926:=0
def tw14792963877710812151:=0
def tw15056002683916840141:=0
def tw16690493004319770214:=0
def tw7816931552413835415:=0
def tw8958814313617348776:=0
def tw9084077784869918360:=0
def tw16050836583222901593:=0
def tw519436823341947591:=0
def tw16943189799778366067:=0
def tw14928705615239341319:=0
def tw8075518041704229818:=0
def tw2067162691048712092:=0
def tw9545994595634799675:=0
def tw12551405340267085497:=0
end PySem.W.Fast
open PySem PySem.W PyProof.Rows
set_option maxRecDepth 100000 in
set_option maxHeartbeats 0 in
theorem PySem.Challenge.cw_skewhouse_k53_histories_refused_holds : PySem.Challenge.rw_skewhouse_k53_histories_refused.Holds := by
 w_on;o_law;k_head;(case hw=>w_witness2)
 k_fill
 refine Lw.walk (l:=PySem.Challenge.rw_skewhouse_k53_histories_refused) rfl rfl (λ w h Y=>PySem.W.kIn_of Y) ?F;case F =>
  intro w mg fa h KX G hmg;refine' Lw.all_mk KX G hmg ..;any_goals first | k_is | (apply My.e3j<;>k_is) | k_exc
