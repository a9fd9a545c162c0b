import PyProof.Rows.All
import Wide.All
import OpenK.AllK
import Wide.FinOn
import Lean
import PyProof.EqAt
import PyProof.EqKinds
import PyProof.TupleCall
import PySem.Challenge.RW_skewhouse_k62_edges
theorem nx0 {A B:Type} {N O Z:A->B->Prop} (a:A) (b:B) (n:N a b) (o:O a b) (z:Z a b):∃ a b,N a b/\O a b/\Z a b:=⟨a,b,n,o,z⟩
theorem nx1 {A B C D:Type} {N O P Q Z:A->B->C->D->Prop} (a:A) (b:B) (c:C) (d:D) (n:N a b c d) (o:O a b c d) (p:P a b c d) (q:Q a b c d) (z:Z a b c d):∃ a b c d,N a b c d/\O a b c d/\P a b c d/\Q a b c d/\Z a b c d:=⟨a,b,c,d,n,o,p,q,z⟩
theorem nx2 {A B:Type} {Z:A->B->Prop} (a:A) (b:B) (z:Z a b):∃ a b,Z a b:=⟨a,b,z⟩
theorem nx3 {A B:Type} {N:A->Prop} {O Z:A->B->Prop} (a:A) (n:N a) (b:B) (o:O a b) (z:Z a b):∃ a,N a/\∃ b,O a b/\Z a b:=⟨a,n,b,o,z⟩
theorem nx4 {A B C:Type} {N O P Z:A->B->C->Prop} (a:A) (b:B) (c:C) (n:N a b c) (o:O a b c) (p:P a b c) (z:Z a b c):∃ a b c,N a b c/\O a b c/\P a b c/\Z a b c:=⟨a,b,c,n,o,p,z⟩
theorem nx5 {A B C D E:Type} {N:A->Prop} {O P Q R Z:A->B->C->D->E->Prop} (a:A) (n:N a) (b:B) (c:C) (d:D) (e:E) (o:O a b c d e) (p:P a b c d e) (q:Q a b c d e) (r:R a b c d e) (z:Z a b c d e):∃ a,N a/\∃ b c d e,O a b c d e/\P a b c d e/\Q a b c d e/\R a b c d e/\Z a b c d e:=⟨a,n,b,c,d,e,o,p,q,r,z⟩
theorem nx6 {A B:Type} {N O:A->Prop} {P Z:A->B->Prop} (a:A) (n:N a) (o:O a) (b:B) (p:P a b) (z:Z a b):∃ a,N a/\O a/\∃ b,P a b/\Z a b:=⟨a,n,o,b,p,z⟩
theorem nx7 {A B C:Type} {N:A->Prop} {O P Z:A->B->C->Prop} (a:A) (n:N a) (b:B) (c:C) (o:O a b c) (p:P a b c) (z:Z a b c):∃ a,N a/\∃ b c,O a b c/\P a b c/\Z a b c:=⟨a,n,b,c,o,p,z⟩
theorem nx8 {A B:Type} {N O P Z:A->B->Prop} (a:A) (b:B) (n:N a b) (o:O a b) (p:P a b) (z:Z a b):∃ a b,N a b/\O a b/\P a b/\Z a b:=⟨a,b,n,o,p,z⟩
theorem nx9 {A B:Type} {N Z:A->B->Prop} (a:A) (b:B) (n:N a b) (z:Z a b):∃ a b,N a b/\Z a b:=⟨a,b,n,z⟩
theorem nx10 {A B C:Type} {Z:A->B->C->Prop} (a:A) (b:B) (c:C) (z:Z a b c):∃ a b c,Z a b c:=⟨a,b,c,z⟩
theorem nx11 {A B:Type} {N:A->Prop} {Z:A->B->Prop} (a:A) (n:N a) (b:B) (z:Z a b):∃ a,N a/\∃ b,Z a b:=⟨a,n,b,z⟩
theorem nx12 {A B:Type} {N O P Q Z:A->B->Prop} (a:A) (b:B) (n:N a b) (o:O a b) (p:P a b) (q:Q a b) (z:Z a b):∃ a b,N a b/\O a b/\P a b/\Q a b/\Z a b:=⟨a,b,n,o,p,q,z⟩
theorem nx13 {A B:Type} {N O:A->Prop} {Z:A->B->Prop} (a:A) (n:N a) (o:O a) (b:B) (z:Z a b):∃ a,N a/\O a/\∃ b,Z a b:=⟨a,n,o,b,z⟩
theorem nx14 {A B C D:Type} {N O P Q R Z:A->B->C->D->Prop} (a:A) (b:B) (c:C) (d:D) (n:N a b c d) (o:O a b c d) (p:P a b c d) (q:Q a b c d) (r:R a b c d) (z:Z a b c d):∃ a b c d,N a b c d/\O a b c d/\P a b c d/\Q a b c d/\R a b c d/\Z a b c d:=⟨a,b,c,d,n,o,p,q,r,z⟩
theorem nx15 {A B C:Type} {N O P:A->B->Prop} {Z:A->B->C->Prop} (a:A) (b:B) (n:N a b) (o:O a b) (p:P a b) (c:C) (z:Z a b c):∃ a b,N a b/\O a b/\P a b/\∃ c,Z a b c:=⟨a,b,n,o,p,c,z⟩
theorem nx16 {A B C D E F:Type} {N:A->Prop} {O P Q R:A->B->C->D->E->Prop} {S T Z:A->B->C->D->E->F->Prop} (a:A) (n:N a) (b:B) (c:C) (d:D) (e:E) (o:O a b c d e) (p:P a b c d e) (q:Q a b c d e) (r:R a b c d e) (f:F) (s:S a b c d e f) (t:T a b c d e f) (z:Z a b c d e f):∃ a,N a/\∃ b c d e,O a b c d e/\P a b c d e/\Q a b c d e/\R a b c d e/\∃ f,S a b c d e f/\T a b c d e f/\Z a b c d e f:=⟨a,n,b,c,d,e,o,p,q,r,f,s,t,z⟩
theorem nx17 {A B C:Type} {N O P Q Z:A->B->C->Prop} (a:A) (b:B) (c:C) (n:N a b c) (o:O a b c) (p:P a b c) (q:Q a b c) (z:Z a b c):∃ a b c,N a b c/\O a b c/\P a b c/\Q a b c/\Z a b c:=⟨a,b,c,n,o,p,q,z⟩
theorem nx18 {A B C D E F:Type} {N:A->Prop} {O:A->B->Prop} {P Q R S Z:A->B->C->D->E->F->Prop} (a:A) (n:N a) (b:B) (o:O a b) (c:C) (d:D) (e:E) (f:F) (p:P a b c d e f) (q:Q a b c d e f) (r:R a b c d e f) (s:S a b c d e f) (z:Z a b c d e f):∃ a,N a/\∃ b,O a b/\∃ c d e f,P a b c d e f/\Q a b c d e f/\R a b c d e f/\S a b c d e f/\Z a b c d e f:=⟨a,n,b,o,c,d,e,f,p,q,r,s,z⟩
theorem nx19 {A B C D E F G:Type} {N O P Q R S Z:A->B->C->D->E->F->G->Prop} (a:A) (b:B) (c:C) (d:D) (e:E) (f:F) (g:G) (n:N a b c d e f g) (o:O a b c d e f g) (p:P a b c d e f g) (q:Q a b c d e f g) (r:R a b c d e f g) (s:S a b c d e f g) (z:Z a b c d e f g):∃ a b c d e f g,N a b c d e f g/\O a b c d e f g/\P a b c d e f g/\Q a b c d e f g/\R a b c d e f g/\S a b c d e f g/\Z a b c d e f g:=⟨a,b,c,d,e,f,g,n,o,p,q,r,s,z⟩
theorem nx20 {A B C:Type} {N O P Q:A->B->Prop} {R Z:A->B->C->Prop} (a:A) (b:B) (n:N a b) (o:O a b) (p:P a b) (q:Q a b) (c:C) (r:R a b c) (z:Z a b c):∃ a b,N a b/\O a b/\P a b/\Q a b/\∃ c,R a b c/\Z a b c:=⟨a,b,n,o,p,q,c,r,z⟩
theorem nx21 {A B C:Type} {N O Z:A->B->C->Prop} (a:A) (b:B) (c:C) (n:N a b c) (o:O a b c) (z:Z a b c):∃ a b c,N a b c/\O a b c/\Z a b c:=⟨a,b,c,n,o,z⟩
theorem nx22 {A B C:Type} {N:A->Prop} {O:A->B->Prop} {Z:A->B->C->Prop} (a:A) (n:N a) (b:B) (o:O a b) (c:C) (z:Z a b c):∃ a,N a/\∃ b,O a b/\∃ c,Z a b c:=⟨a,n,b,o,c,z⟩
theorem nx23 {A B C D E:Type} {N O P Q Z:A->B->C->D->E->Prop} (a:A) (b:B) (c:C) (d:D) (e:E) (n:N a b c d e) (o:O a b c d e) (p:P a b c d e) (q:Q a b c d e) (z:Z a b c d e):∃ a b c d e,N a b c d e/\O a b c d e/\P a b c d e/\Q a b c d e/\Z a b c d e:=⟨a,b,c,d,e,n,o,p,q,z⟩
theorem nx24 {A B C D E F G:Type} {N:A->Prop} {O P Q R:A->B->C->D->E->Prop} {S T Z:A->B->C->D->E->F->G->Prop} (a:A) (n:N a) (b:B) (c:C) (d:D) (e:E) (o:O a b c d e) (p:P a b c d e) (q:Q a b c d e) (r:R a b c d e) (f:F) (g:G) (s:S a b c d e f g) (t:T a b c d e f g) (z:Z a b c d e f g):∃ a,N a/\∃ b c d e,O a b c d e/\P a b c d e/\Q a b c d e/\R a b c d e/\∃ f g,S a b c d e f g/\T a b c d e f g/\Z a b c d e f g:=⟨a,n,b,c,d,e,o,p,q,r,f,g,s,t,z⟩
theorem nx25 {A B C D E:Type} {N O Z:A->B->C->D->E->Prop} (a:A) (b:B) (c:C) (d:D) (e:E) (n:N a b c d e) (o:O a b c d e) (z:Z a b c d e):∃ a b c d e,N a b c d e/\O a b c d e/\Z a b c d e:=⟨a,b,c,d,e,n,o,z⟩
theorem nx26 {A B C D E F G H I J:Type} {N:A->Prop} {O P Q R:A->B->C->D->E->Prop} {S:A->B->C->D->E->F->Prop} {T U V W Z:A->B->C->D->E->F->G->H->I->J->Prop} (a:A) (n:N a) (b:B) (c:C) (d:D) (e:E) (o:O a b c d e) (p:P a b c d e) (q:Q a b c d e) (r:R a b c d e) (f:F) (s:S a b c d e f) (g:G) (h:H) (i:I) (j:J) (t:T a b c d e f g h i j) (u:U a b c d e f g h i j) (v:V a b c d e f g h i j) (w:W a b c d e f g h i j) (z:Z a b c d e f g h i j):∃ a,N a/\∃ b c d e,O a b c d e/\P a b c d e/\Q a b c d e/\R a b c d e/\∃ f,S a b c d e f/\∃ g h i j,T a b c d e f g h i j/\U a b c d e f g h i j/\V a b c d e f g h i j/\W a b c d e f g h i j/\Z a b c d e f g h i j:=⟨a,n,b,c,d,e,o,p,q,r,f,s,g,h,i,j,t,u,v,w,z⟩
theorem nx27 {A B:Type} {N O P Q R Z:A->B->Prop} (a:A) (b:B) (n:N a b) (o:O a b) (p:P a b) (q:Q a b) (r:R a b) (z:Z a b):∃ a b,N a b/\O a b/\P a b/\Q a b/\R a b/\Z a b:=⟨a,b,n,o,p,q,r,z⟩
theorem nx28 {A B C D:Type} {N O P Q:A->B->C->Prop} {R Z:A->B->C->D->Prop} (a:A) (b:B) (c:C) (n:N a b c) (o:O a b c) (p:P a b c) (q:Q a b c) (d:D) (r:R a b c d) (z:Z a b c d):∃ a b c,N a b c/\O a b c/\P a b c/\Q a b c/\∃ d,R a b c d/\Z a b c d:=⟨a,b,c,n,o,p,q,d,r,z⟩
theorem nx29 {A B C D E:Type} {N:A->Prop} {O P Q Z:A->B->C->D->E->Prop} (a:A) (n:N a) (b:B) (c:C) (d:D) (e:E) (o:O a b c d e) (p:P a b c d e) (q:Q a b c d e) (z:Z a b c d e):∃ a,N a/\∃ b c d e,O a b c d e/\P a b c d e/\Q a b c d e/\Z a b c d e:=⟨a,n,b,c,d,e,o,p,q,z⟩
theorem nx30 {A B C D:Type} {N O P Z:A->B->C->D->Prop} (a:A) (b:B) (c:C) (d:D) (n:N a b c d) (o:O a b c d) (p:P a b c d) (z:Z a b c d):∃ a b c d,N a b c d/\O a b c d/\P a b c d/\Z a b c d:=⟨a,b,c,d,n,o,p,z⟩
theorem nx31 {A B C D E F:Type} {Z:A->B->C->D->E->F->Prop} (a:A) (b:B) (c:C) (d:D) (e:E) (f:F) (z:Z a b c d e f):∃ a b c d e f,Z a b c d e f:=⟨a,b,c,d,e,f,z⟩
theorem nx32 {A B C D E F:Type} {N O P Q Z:A->B->C->D->E->F->Prop} (a:A) (b:B) (c:C) (d:D) (e:E) (f:F) (n:N a b c d e f) (o:O a b c d e f) (p:P a b c d e f) (q:Q a b c d e f) (z:Z a b c d e f):∃ a b c d e f,N a b c d e f/\O a b c d e f/\P a b c d e f/\Q a b c d e f/\Z a b c d e f:=⟨a,b,c,d,e,f,n,o,p,q,z⟩
theorem nx33 {A B C D:Type} {N:A->Prop} {O P:A->B->C->Prop} {Z:A->B->C->D->Prop} (a:A) (n:N a) (b:B) (c:C) (o:O a b c) (p:P a b c) (d:D) (z:Z a b c d):∃ a,N a/\∃ b c,O a b c/\P a b c/\∃ d,Z a b c d:=⟨a,n,b,c,o,p,d,z⟩
theorem nx34 {A B C:Type} {N Z:A->B->C->Prop} (a:A) (b:B) (c:C) (n:N a b c) (z:Z a b c):∃ a b c,N a b c/\Z a b c:=⟨a,b,c,n,z⟩
theorem nx35 {A B C:Type} {N O:A->Prop} {P:A->B->Prop} {Z:A->B->C->Prop} (a:A) (n:N a) (o:O a) (b:B) (p:P a b) (c:C) (z:Z a b c):∃ a,N a/\O a/\∃ b,P a b/\∃ c,Z a b c:=⟨a,n,o,b,p,c,z⟩
theorem nx36 {A B C D E:Type} {N:A->Prop} {O P Q R S Z:A->B->C->D->E->Prop} (a:A) (n:N a) (b:B) (c:C) (d:D) (e:E) (o:O a b c d e) (p:P a b c d e) (q:Q a b c d e) (r:R a b c d e) (s:S a b c d e) (z:Z a b c d e):∃ a,N a/\∃ b c d e,O a b c d e/\P a b c d e/\Q a b c d e/\R a b c d e/\S a b c d e/\Z a b c d e:=⟨a,n,b,c,d,e,o,p,q,r,s,z⟩
local macro_rules
 | `(tactic| lia)=>`(tactic| first | assumption | exact Nat.le_refl _ | exact Nat.le_of_lt (by assumption) | exact Nat.lt_of_lt_of_le (by assumption) (by assumption) | lia (verbose:=false) | omega)
section
open PySem PySem.Spec PySem.W PyProof.Rows PyProof PySem.SeqAt
abbrev z00:=@wpAny_bind
abbrev z01:=@if_neg
abbrev z02:=@if_pos
abbrev z03:=@wpAny_pure
abbrev z04:=@List.length_map
abbrev z05:=@Nat.le_refl
abbrev z06:=@wpS_bind
abbrev z07:=@wpS_pure
abbrev z08:=@decide_eq_true
abbrev z09:=@List.getElem?_map
abbrev z0a:=@List.mem_cons
abbrev z0b:=@congrArg
abbrev z0c:=@List.mem_of_getElem?
abbrev z0d:=@List.mem_map
abbrev z0e:=@Heap.get?_push_of_some
abbrev z0f:=@List.mem_append
abbrev z0g:=@Heap.lt_size
abbrev z0h:=@of_decide_eq_true
abbrev z0i:=@List.mem_singleton
abbrev z0j:=@List.length_append
abbrev z0k:=@Nat.ne_of_lt
abbrev z0l:=@List.getElem?_eq_some_iff
abbrev z0m:=@Nat.zero_le
abbrev z0n:=@decide_eq_false
abbrev z0o:=@List.getElem?_eq_getElem
abbrev z0p:=@List.size_toArray
abbrev z0q:=@Array.length_toList
abbrev z0r:=@Option.some.inj
abbrev z0s:=@Nat.le_trans
abbrev z0t:=@Heap.get?_push_size
abbrev z0u:=@Array.getElem?_toList
abbrev z0v:=@List.take_add_one
abbrev z0w:=@List.map_cons
abbrev z0x:=@List.take_length
abbrev z0y:=@List.length_drop
abbrev z0z:=@List.map_append
abbrev z15:=@List.map_map
abbrev z16:=@List.length_take
abbrev z17:=@List.length_cons
abbrev z18:=@PassesOwn.never
abbrev z19:=@List.append_nil
abbrev z1a:=@boot_len
abbrev z1b:=@wpAny_mono
abbrev z1c:=@List.append_assoc
abbrev z1d:=@Prod.ext
abbrev z1e:=@List.mem_append_right
abbrev z1f:=@List.nodup_cons
abbrev z1g:=@List.length_eq_one_iff
abbrev z1h:=@F.plainAttrs_list
abbrev z1i:=@List.mem_flatMap
abbrev z1j:=@List.mem_cons_of_mem
abbrev z1k:=@Bool.false_ne_true
abbrev z1l:=@Nat.lt_of_lt_of_le
abbrev z1m:=@List.length_range
abbrev z1n:=@wpAny_holding
abbrev z1o:=@List.filterMap_cons
abbrev z1p:=@List.mem_cons_self
abbrev z1q:=@wpAny_call_entry
abbrev z1r:=@List.forIn_cons
abbrev z1s:=@wpAny_rule
abbrev z1t:=@Ne.symm
abbrev z1u:=@List.Pairwise.imp
abbrev z1v:=@List.mem_iff_getElem?
abbrev z1w:=@wpS_forRange
abbrev z1x:=@List.mem_append_left
abbrev z1y:=@List.length_pos_iff
abbrev z1z:=@Option.map_eq_some_iff
abbrev z20:=@List.take_of_length_le
abbrev z21:=@Array.toList_append
abbrev z22:=@wpS_mono
abbrev z23:=@getElem?_pos
abbrev z25:=@Int.toNat_natCast
abbrev z26:=@List.pairwise_map
abbrev z27:=@Int.emod_nonneg
abbrev z28:=@List.range_succ
abbrev z29:=@Bool.true_and
abbrev z2a:=@List.not_mem_nil
abbrev z2b:=@Int.emod_lt_of_pos
abbrev z2c:=@or_false
abbrev z2d:=@decide_eq_true_eq
abbrev z2e:=@mg_none_of
abbrev z2f:=@List.nodup_append
abbrev z2g:=@wpS_get
abbrev z2h:=@if_false
abbrev z2i:=@Heap.SameBut.update
abbrev z2j:=@List.getElem?_inj
abbrev z2k:=@wpS_modify
abbrev z2l:=@List.filterMap_append
abbrev z2m:=@List.getElem?_eq_none
abbrev z2n:=@List.flatMap_cons
abbrev z2o:=@Sum.inl.inj
abbrev z2p:=@Array.getElem?_eq_getElem
abbrev z2q:=@List.mem_of_mem_drop
abbrev z2r:=@wpAny_seqItems
abbrev z2s:=@Int.le_of_lt
abbrev z2t:=@List.getD_eq_getElem?_getD
abbrev z2u:=@List.getElem?_append_right
abbrev z2v:=@List.length_eq_zero_iff
abbrev z2w:=@List.pairwise_append
abbrev z2x:=@W.kia_one
abbrev z2y:=@size_push'
abbrev z2z:=@F.type_list_extend
abbrev z30:=@wpAny_specialOf
abbrev z31:=@F.slot_list_extend
abbrev z32:=@List.pairwise_iff_getElem
abbrev z33:=@List.map_set
abbrev z34:=@wpAny_attempt
abbrev z35:=@List.lookup_cons
abbrev z36:=@Bool.false_eq_true
abbrev z37:=@List.mem_of_mem_take
abbrev z38:=@Int.zero_add
abbrev z39:=@List.take_append_drop
abbrev z3a:=@codeAny_builtin
abbrev z3b:=@List.filter_cons
abbrev z3c:=@List.find?_cons
abbrev z3d:=@Array.toList_push
abbrev z3e:=@List.mem_or_eq_of_mem_set
abbrev z3f:=@Calls.spliced_cons
abbrev z3g:=@List.take_sublist
abbrev z3h:=@List.length_nil
abbrev z3i:=@F.slot_tuple_hash
abbrev z3j:=@List.getElem_mem
abbrev z3k:=@List.mem_filter
abbrev z3l:=@wpAny_typeOf
abbrev z3m:=@List.flatMap_nil
abbrev z3n:=@List.length_replicate
abbrev z3o:=@Nat.le_succ
abbrev z3p:=@Bool.eq_iff_iff
abbrev z3q:=@beq_eq_false_iff_ne
abbrev z3r:=@call_meets
abbrev z3s:=@List.flatMap_append
abbrev z3t:=@List.length_set
abbrev z3u:=@Bool.and_eq_true
abbrev z3v:=@Nat.le_of_lt
abbrev z3w:=@Obj.data_mapFields
abbrev z3x:=@of_decide_eq_false
abbrev z3y:=@List.pairwise_cons
abbrev z3z:=@wpAny_setField
abbrev z40:=@List.getElem_idxOf
abbrev z41:=@List.mem_range
abbrev z42:=@plainId_quiet
abbrev z43:=@wpAny_callSpecial?_slot
abbrev z44:=@Int.le_refl
abbrev z45:=@List.any_eq_true
abbrev z46:=@Paired.length
abbrev z47:=@PySem.mem_of_lookup
abbrev z48:=@List.getElem_take
abbrev z49:=@F.called_set
abbrev z4a:=@List.getElem?_append_left
abbrev z4b:=@List.length_filter_le
abbrev z4c:=@Heap.get?_update_other
abbrev z4d:=@List.drop_sublist
abbrev z4e:=@List.idxOf_lt_length_iff
abbrev z4f:=@List.find?_eq_none
abbrev z4g:=@List.idxOf_eq_length
abbrev z4h:=@codeAny_mono
abbrev z4i:=@List.getElem_drop
abbrev z4j:=@List.foldl_append
abbrev z4k:=@Heap.get?_update_self
abbrev z4l:=@Nat.lt_succ_self
abbrev z4m:=@List.drop_zero
abbrev z4n:=@Nat.lt_of_le_of_lt
abbrev z4o:=@Nat.min_eq_left
abbrev z4p:=@wpAny_Call_Name_kw
abbrev z4q:=@List.drop_eq_nil_of_le
abbrev z4r:=@List.getElem_of_mem
abbrev z4s:=@wpAny_newObj_type
abbrev z4t:=@Array.forIn_toList
abbrev z4u:=@Nat.ne_of_gt
abbrev z4v:=@Heap.size_push
abbrev z4w:=@Nat.not_lt_zero
abbrev z4x:=@get?_update_seq
abbrev z4y:=@wpAny_setState_of
abbrev z4z:=@F.type_list_append
abbrev z50:=@F.slot_dict_get
abbrev z51:=@F.slot_list_append
abbrev z52:=@Calls.callWith_builtin
abbrev z53:=@Array.perm_iff_toList_perm
abbrev z54:=@Bool.eq_false_iff
abbrev z55:=@wpAny_newList
abbrev z56:=@Nat.lt_trans
abbrev z57:=@List.drop_length
abbrev z58:=@listUpdate_at
abbrev z59:=@wpAny_fieldsOf
abbrev z5a:=@Nat.lt_succ_of_lt
abbrev z5b:=@Nat.lt_irrefl
abbrev z5c:=@PyProof.Rows.callWith_type1
abbrev z5d:=@boot_isinstance
abbrev z5e:=@Calls.spliced_nil
abbrev z5f:=@wpAny_pyIter_list
abbrev z5g:=@Around.under_plainId
abbrev z5h:=@Calls.evalArgs_plain
abbrev z5i:=@Array.getElem?_eq_none
abbrev z5j:=@Nat.le_max_right
abbrev z5k:=@Nat.le_add_right
abbrev z5l:=@F.slot_dict_keyiterator_next
abbrev z5m:=@Array.toList_reverse
abbrev z5n:=@wpAny_passesOwn
abbrev z5o:=@List.drop_eq_getElem_cons
abbrev z5p:=@Nat.le_max_left
abbrev z5q:=@List.take_left'
abbrev z5r:=@decide_eq_true_iff
abbrev z5s:=@wpAny_isInstance
abbrev z5t:=@List.drop_drop
abbrev z5u:=@List.length_singleton
abbrev z5v:=@List.perm_append_comm
abbrev z5w:=@List.mem_filterMap
abbrev z5x:=@wpAny_setEntries_of
abbrev z5y:=@Heap.get?_none_of_le
abbrev z5z:=@wpAny_setField_rec
abbrev z60:=@List.zip_cons_cons
abbrev z61:=@wpAny_askSetting
abbrev z62:=@List.of_mem_zip
abbrev z63:=@List.getElem?_take
abbrev z64:=@Option.map_eq_none_iff
abbrev z65:=@Option.map_some
abbrev z66:=@wpAny_notOrdered_dict
abbrev z67:=@List.mergeSort_perm
abbrev z68:=@wpAny_dictEntries
abbrev z69:=@List.exists_cons_of_length_eq_add_one
abbrev z6a:=@tupleKind_room_in1
abbrev z6b:=@F.slot_NoneType_hash
abbrev z6c:=@Array.getElem_mem_toList
abbrev z6d:=@List.filterMap_some
abbrev z6e:=@F.plainAttrs_dict
abbrev z6f:=@F.slot_dict_setdefault
abbrev z6g:=@List.replicate_succ
abbrev z6h:=@List.length_eraseIdx_of_lt
abbrev z6i:=@Obj.cls_mapFields
abbrev z6j:=@wpAny_typeNameOfWhole_keyiter
abbrev z6k:=@List.getElem?_range
abbrev z6l:=@wpAny_truthy_bool
abbrev z6m:=@bne_self_eq_false
abbrev z6n:=@List.pairwise_lt_range
abbrev z6o:=@List.getElem?_drop
abbrev z6p:=@wpAny_Call_method
abbrev z6q:=@List.idxOf_append
abbrev z6r:=@F.entry_dict_get
abbrev z6s:=@List.extract_eq_take_drop
abbrev z6t:=@wpAny_callSpecialIfBoundUnlessNone?_slot
abbrev z6u:=@List.length_filterMap_le
abbrev z6v:=@List.set_eq_of_length_le
abbrev z6w:=@List.take_succ_eq_append_getElem
abbrev z6x:=@List.getElem?_take_of_lt
abbrev z6y:=@Array.getElem?_eq_some_iff
abbrev z6z:=@List.Pairwise.imp_of_mem
abbrev z70:=@F.slot_list_getattribute
abbrev z71:=@Calls.call_function_entry
abbrev z72:=@PyProof.Rows.F.plain_set_update_loop
end
set_option genSizeOf false
noncomputable section
set_option Elab.async false
set_option linter.all false
set_option maxRecDepth 100000
namespace L2
open PySem PySem.Spec PyProof.Rows
abbrev Key:=Sum Int Str
def c2c:Key->Value->Bool
 | .inl k,v=>Value.isInt k v
 | .inr x,v=>Value.isStrOf x v
def e6s (w:World):Key->Int
 | .inl k=>hashInt k
 | .inr x=>hashStr w x
theorem a1o:∀ {k:Key} {v:Value},c2c k v=true->(∃ i t,k=Sum.inl i/\v=Value.int i t)\/(∃ x t,k=Sum.inr x/\v=Value.str x t)
 | .inl i,v,h=>by
  obtain⟨t,e⟩:=Value.isInt_shape h;exact .inl (nx9 i t rfl e)
 | .inr x,v,h=>by
  obtain⟨t,e⟩:=Value.isStrOf_shape h;exact .inr (nx9 x t rfl e)
theorem d1f (i:Int) (t:Tok):c2c (.inl i) (.int i t)=true:=by simp[c2c,Value.isInt]
theorem d0d (x:Str) (t:Tok):c2c (.inr x) (.str x t)=true:=by simp[c2c,Value.isStrOf]
theorem e0e (a b:Int):decide ((Sum.inl a:Key)=Sum.inl b)=(a == b):=by
 by_cases e:a=b
 ·subst e;simp
 ·have h:¬ (Sum.inl a:Key)=Sum.inl b:=λ q=>e (z2o q)
  rw[z0n h];exact(z3q.mpr e).symm
theorem e0g (a b:Str):decide ((Sum.inr a:Key)=Sum.inr b)=decide (a=b):=by
 by_cases e:a=b
 ·subst e;simp
 ·have h:¬ (Sum.inr a:Key)=Sum.inr b:=λ q=>e (Sum.inr.inj q)
  rw[z0n h,z0n e]
theorem e3c (a:Int) (b:Str):decide ((Sum.inl a:Key)=Sum.inr b)=false:=z0n (λ q=>nomatch q)
theorem e3e (a:Str) (b:Int):decide ((Sum.inr a:Key)=Sum.inl b)=false:=z0n (λ q=>nomatch q)
def a0y (prog:Program) (w:World):PySem.KeyKind prog w Key where
 is:=c2c
 hash:=e6s w
 inj:=λ v a b ha hb=>by
  rcases a1o ha with ⟨i,t,rfl,rfl⟩ | ⟨x,t,rfl,rfl⟩
  ·rcases a1o hb with ⟨j,u,rfl,e⟩ | ⟨y,u,rfl,e⟩
   ·injection e with e1 _;rw[e1]
   ·exact nomatch e
  ·rcases a1o hb with ⟨j,u,rfl,e⟩ | ⟨y,u,rfl,e⟩
   ·exact nomatch e
   ·injection e with e1 _;rw[e1]
 byValue:=λ k v h=>by
  rcases a1o h with ⟨i,t,rfl,rfl⟩ | ⟨x,t,rfl,rfl⟩<;>rfl
 pyHash:=λ hv h=>by
  rcases a1o hv with ⟨i,t,rfl,rfl⟩ | ⟨x,t,rfl,rfl⟩
  ·exact wpAny_pyHash_int h
  ·exact wpAny_pyHash_str h
 eqBool:=λ hu hv h=>by
  rcases a1o hu with ⟨i,t,rfl,rfl⟩ | ⟨x,t,rfl,rfl⟩
  ·rcases a1o hv with ⟨j,u,rfl,rfl⟩ | ⟨y,u,rfl,rfl⟩
   ·rw[e0e] at h;exact wpAny_eqBool_int h
   ·rw[e3c] at h;exact SeqAt.EqAt.int_str i t y u _ _ _ _ h
  ·rcases a1o hv with ⟨j,u,rfl,rfl⟩ | ⟨y,u,rfl,rfl⟩
   ·rw[e3e] at h;exact SeqAt.EqAt.str_int x t j u _ _ _ _ h
   ·rw[e0g] at h;exact wpAny_eqBool_str h
 «strs»:=λ k x t v h=>by
  rcases a1o h with ⟨i,u,rfl,e⟩ | ⟨y,u,rfl,e⟩
  ·exact nomatch e
  ·injection e with e1 _;subst e1;cases v<;>rfl
theorem c1d (prog:Program) (w:World) (i:Int) (t:Tok):(a0y prog w).is (.inl i) (.int i t)=true:=d1f i t
theorem c1w (prog:Program) (w:World) (x:Str) (t:Tok):(a0y prog w).is (.inr x) (.str x t)=true:=d0d x t
end L2
namespace L2
open PySem PySem.Spec PyProof.Rows
inductive V where
 | non | bl (b:Bool) | int (i:Int) | str (x:Str) | byt (b:Array UInt8) | flt (b:UInt64) | ref (a:Addr) | ty (n:String)
 deriving DecidableEq
def a2d:V->Value->Prop
 | .non,u=>u=Value.none
 | .bl b,u=>u=Value.bool b
 | .int i,u=>∃ t,u=Value.int i t
 | .str x,u=>∃ t,u=Value.str x t
 | .byt b,u=>∃ t,u=Value.bytes b t
 | .flt b,u=>∃ t,u=Value.float b t
 | .ref a,u=>u=Value.ref a
 | .ty n,u=>u=Value.type n
abbrev a2e:List V->List Value->Prop:=Paired a2d
theorem a2e.length (r:a2e xs us):xs.length=us.length:=z46 r
theorem a2e.get:∀ {xs:List V} {us:List Value} {i:Nat} {x:V},a2e xs us->xs[i]?=some x->∃ u,us[i]?=some u/\a2d x u
 | _,_,_,_,.nil,e=>by simp at e
 | _,_,0,_,.cons r _,e=>by simp at e;subst e;exact⟨_,rfl,r⟩
 | _,_,i+1,x,.cons _ t,e=>by
  obtain⟨u,h1,h2⟩:=a2e.get t (by simpa using e);exact⟨u,by simpa using h1,h2⟩
theorem a2e.set (r:a2d x u):∀ {xs:List V} {us:List Value} (i:Nat),a2e xs us->a2e (xs.set i x) (us.set i u)
 | _,_,_,.nil=>.nil
 | _,_,0,.cons _ t=>.cons r t
 | _,_,i+1,.cons q t=>.cons q (a2e.set r i t)
theorem a2e.append:∀ {xs ys:List V} {us ws:List Value},a2e xs us->a2e ys ws->a2e (xs++ys) (us++ws)
 | _,_,_,_,.nil,s=>s
 | _,_,_,_,.cons r t,s=>.cons r (a2e.append t s)
theorem a2e.take:∀ {xs:List V} {us:List Value} (n:Nat),a2e xs us->a2e (xs.take n) (us.take n)
 | _,_,0,_=>.nil
 | _,_,_+1,.nil=>.nil
 | _,_,n+1,.cons r t=>.cons r (a2e.take n t)
theorem a2e.drop:∀ {xs:List V} {us:List Value} (n:Nat),a2e xs us->a2e (xs.drop n) (us.drop n)
 | _,_,0,r=>r
 | _,_,_+1,.nil=>.nil
 | _,_,n+1,.cons _ t=>a2e.drop n t
def b4f:Option V->Option Value->Prop
 | some v,some u=>a2d v u
 | none,none=>True
 | _,_=>False
def KV {κ:Type}:List (κ×V)->List (κ×Value)->Prop:=Paired λ (p:κ×V) (q:κ×Value)=>p.1=q.1/\a2d p.2 q.2
def kV:Key->V
 | .inl i=>.int i
 | .inr x=>.str x
inductive HO where
  | lst (xs:List V)
  | tup (xs:List V)
  | dK (kvs:List (Key×V)) | dT (kvs:List (List Key×V))
  | set (S:Int->Bool) (n:Nat)
  | ins (C dx:Addr) (fs:List (Str×V))
  | own (x:Addr)
  | xd (fs:List (Str×V))
  | met (f x:Addr)
  | rng (lo hi:Int)
  | frz (o:Obj) (u:HO)
  | tbl (ps:Array Value)
  | ext (φ:Heap->Prop)
abbrev Hp:=Addr->Option HO
def upd (H:Hp) (a:Addr) (o:HO):Hp:=λ b=>if b=a then some o else H b
theorem a0b:upd H a o a=some o:=by unfold upd;rw[z02 rfl]
theorem a0g (h:b≠a):upd H a o b=H b:=by unfold upd;rw[z01 h]
theorem e1v {H:Hp} (h:H a=some o) (h':H b=some u) (d:o≠u):a≠b:=by
 intro e;subst e;rw[h] at h';exact d (z0r h')
theorem a0s {H:Hp} (h:H a=some o) (h':H b=none):a≠b:=by
 intro e;subst e;rw[h] at h';cases h'
section
variable (P:Program) (w:World)
def a2r (H:Hp) (h:Heap) (a:Addr):HO->Prop
 | .lst xs=>xs.length<=sizeLine/\∃ (its:List Value) (n:Nat),a2e xs its/\h.get? a=some {cls:=.type "list",data:=.seq its.toArray n}
 | .tup xs=>xs.length<=sizeLine/\∃ its:List Value,a2e xs its/\IsTup h a its.toArray
 | .dK kvs=>kvs.length<=sizeLine/\(a == sysModules)=false/\∃ vs,KV kvs vs/\h.DictOf (a0y P w) a vs
 | .dT kvs=>kvs.length<=sizeLine/\(a == sysModules)=false/\∃ xs:List (List Key×Addr×Value),
   Paired (λ (p:List Key×V) (q:List Key×Addr×Value)=>p.1=q.1/\H q.2.1=some (.tup (p.1.map kV))/\a2d p.2 q.2.2) kvs xs /\
   ∃ o es ep,h.get? a=some o/\o.ExactDict/\o.data=.dict es ep/\es.toList=xs.map (entryOfKey (tupleKind (a0y P w)))/\(xs.map (·.1)).Nodup
 | .set S n=>h.SetOf (intKind P w) a S n
 | .ins C dx fs=>H dx=some (.own a)/\fs.length<=1000/\dx≠a/\h.get? a=some (W.instObj C dx) /\
   ∃ mA,h.Ns1 dx mA/\(∀ f,b4f (fs.lookup f) (mA f))/\PySem.Within mA (fs.map (·.1))
 | .own _=>∃ o,h.get? a=some o
 | .xd fs=>∃ mA,h.Ns1 a mA/\∀ f,b4f (fs.lookup f) (mA f)
 | .rng lo hi=>∃ t u v,h.get? a=some {cls:=.type "range",data:=.fields #[.int lo t,.int hi u,.int 1 v]}
 | .frz o u=>h.get? a=some o/\a2r H h a u
 | .tbl ps=>h.get? a=some {cls:=.none,data:=.fields ps}
 | .met f x=>h.get? a=some (W.methodObj (.ref f) (.ref x))
 | .ext φ=>φ h/\(∃ o,h.get? a=some o)/\∀ h1 h2:Heap,φ h1->(∀ o,h1.get? a=some o->h2.get? a=some o)->φ h2
def HOk (H:Hp) (h:Heap):Prop:=∀ a o,H a=some o->a2r P w H h a o
end
section
variable {P:Program} {w:World} {H H':Hp} {h h':Heap} {a:Addr} {o:HO}
theorem a2r.lt (x:a2r P w H h a o):a < h.objs.size:=by
 cases o with
 | lst xs=>obtain⟨_,_,_,_,e⟩:=x;exact z0g e
 | tup xs=>obtain⟨_,_,_,p⟩:=x;exact p.lt
 | dK kvs=>obtain⟨_,_,_,_,o,_,_,e,_⟩:=x;exact z0g e
 | dT kvs=>obtain⟨_,_,_,_,o,_,_,e,_⟩:=x;exact z0g e
 | set S n=>obtain⟨o,_,_,_,e,_⟩:=x;exact z0g e
 | ins C dx fs=>obtain⟨_,_,_,e,_⟩:=x;exact z0g e
 | own y=>obtain⟨_,e⟩:=x;exact z0g e
 | xd fs=>obtain⟨_,⟨_,_,_,e,_⟩,_⟩:=x;exact z0g e
 | rng lo hi=>obtain⟨_,_,_,e⟩:=x;exact z0g e
 | frz ob u=>obtain⟨e,_⟩:=x;exact z0g e
 | tbl ps=>exact z0g (x)
 | met f y=>exact z0g (x)
 | ext φ=>obtain⟨_,⟨_,e⟩,_⟩:=x;exact z0g e
theorem Paired.mapP:∀ {l₁:List α} {l₂:List β},Paired F l₁ l₂->(∀ a b,F a b->G a b)->Paired G l₁ l₂
 | _,_,.nil,_=>.nil
 | _,_,.cons r t,f=>.cons (f _ _ r) (Paired.mapP t f)
theorem Paired.imp' {F G:α->β->Prop} (f:∀ a b,F a b->G a b) (r:Paired F l₁ l₂):Paired G l₁ l₂:=Paired.mapP r f
theorem a2r.stay (x:a2r P w H h a o) (k:∀ b u,(b=a\/H b=some (.own a))->h.get? b=some u->h'.get? b=some u)
  (ho:∀ b,H b=some (.own a)->H' b=some (.own a)) (ht:∀ b xs,H b=some (.tup xs)->H' b=some (.tup xs)):a2r P w H' h' a o:=by
 induction o with
 | lst xs=>obtain⟨z,its,n,r,e⟩:=x;exact ⟨z,nx9 its n r (k _ _ (.inl rfl) e)⟩
 | tup xs=>obtain⟨z,its,r,ob,e,c⟩:=x;exact ⟨z,nx3 its r ob (k _ _ (.inl rfl) e) c⟩
 | dK kvs=>obtain⟨z,y,vs,r,ob,es,ep,e,c⟩:=x;exact ⟨z,y,nx11 vs r ob (nx9 es ep (k _ _ (.inl rfl) e) c)⟩
 | dT kvs =>
  obtain⟨z,y,xs,r,ob,es,ep,e,c⟩:=x;exact ⟨z,y,nx11 xs (Paired.mapP r λ p q z=>⟨z.1,ht _ _ z.2.1,z.2.2⟩) ob (nx9 es ep (k _ _ (.inl rfl) e) c)⟩
 | set S n=>obtain⟨ob,es,ep,t,e,c⟩:=x;exact nx2 ob es (nx9 ep t (k _ _ (.inl rfl) e) c)
 | ins C dx fs =>
  obtain⟨d,z,ne,e,mA,⟨od,es,ep,e2,c⟩,r⟩:=x;exact⟨ho _ d,z,ne,k _ _ (.inl rfl) e,mA,nx34 od es ep (k _ _ (.inr d) e2) c,r⟩
 | own y=>obtain⟨ob,e⟩:=x;exact⟨ob,k _ _ (.inl rfl) e⟩
 | xd fs=>obtain⟨mA,⟨od,es,ep,e,c⟩,r⟩:=x;exact⟨mA,nx34 od es ep (k _ _ (.inl rfl) e) c,r⟩
 | rng lo hi=>obtain⟨t,u,v,e⟩:=x;exact nx10 t u v (k _ _ (.inl rfl) e)
 | frz ob u ih=>obtain⟨e,q⟩:=x;exact⟨k _ _ (.inl rfl) e,ih q⟩
 | tbl ps =>
  have e:=x;exact k a _ (.inl rfl) e
 | met f y =>
  have e:=x;exact k a _ (.inl rfl) e
 | ext φ=>obtain⟨p,⟨o,e⟩,st⟩:=x;exact⟨st _ _ p λ o q=>k _ _ (.inl rfl) q,⟨o,k _ _ (.inl rfl) e⟩,st⟩
theorem HOk.lt (x:HOk P w H h) (e:H a=some o):a < h.objs.size:=(x a o e).lt
theorem HOk.fresh (x:HOk P w H h) (e:h.objs.size<=a):H a=none:=by
 cases q:H a with
 | none=>rfl
 | some u=>exact absurd (z1l (x.lt q) e) (z5b _)
theorem HOk.kept (x:HOk P w H h) (k:∀ b u,h.get? b=some u->h'.get? b=some u):HOk P w H h':=λ a o e =>
 (x a o e).stay (λ b u _ q=>k b u q) (λ _ q=>q) λ _ _ q=>q
theorem HOk.laid (x:HOk P w H h) (k:∀ b u,h.get? b=some u->h'.get? b=some u) (hp:h.objs.size<=a) (new:a2r P w (upd H a o) h' a o):HOk P w (upd H a o) h':=λ b u e=>by
 have hn:=x.fresh hp;by_cases hb:b=a
 ·subst hb;rw[a0b] at e;cases e;exact new
 ·rw[a0g hb] at e;exact(x b u e).stay (λ c v _ q=>k c v q) (λ c q=>by rw[a0g (a0s q hn)];exact q) λ c xs q=>by rw[a0g (a0s q hn)];exact q
end
def Rd (H:Hp) (a:Addr) (u:HO):Prop:=H a=some u\/∃ o,H a=some (.frz o u)
theorem Rd.ok (r:Rd H a u) (x:HOk P w H h):a2r P w H h a u:=by
 rcases r with r | ⟨o,r⟩
 ·exact x a u r
 ·obtain⟨_,q⟩:=x a _ r;exact q
def Mut:Option HO->Prop
 | some (.lst _)=>True
 | some (.dK _)=>True
 | some (.dT _)=>True
 | some (.set _ _)=>True
 | some (.ins _ _ _)=>True
 | some (.ext _)=>True
 | _=>False
section
variable {P:Program} {w:World} {H:Hp} {h h':Heap} {x e:Addr} {o':HO}
theorem HOk.write (ok:HOk P w H h) (mu:Mut (H x)) (he:e=x\/H e=some (.own x)) (k:∀ b u,b≠e->h.get? b=some u->h'.get? b=some u) (heo:∃ u,h'.get? e=some u)
  (new:a2r P w (upd H x o') h' x o'):HOk P w (upd H x o') h':=λ b u q=>by
 have nown:∀ c y,H c=some (.own y)->c≠x:=λ c y r z=>by subst z;rw[r] at mu;exact mu
 have ntup:∀ c xs,H c=some (.tup xs)->c≠x:=λ c xs r z=>by subst z;rw[r] at mu;exact mu
 by_cases hb:b=x
 ·subst hb;rw[a0b] at q;cases q;exact new
 ·rw[a0g hb] at q;by_cases hbe:b=e
  ·have q':H b=some (.own x):=by
    rcases he with z | z
    ·exact absurd (hbe.trans z) hb
    ·rw[hbe];exact z
   rw[q] at q';cases q';obtain⟨v,hv⟩:=heo;exact⟨v,by rw[hbe];exact hv⟩
  ·refine(ok b u q).stay (λ c v hc r=>k c v ?_ r) (λ c r=>by rw[a0g (nown c b r)];exact r) λ c xs r=>by rw[a0g (ntup c xs r)];exact r
   rcases hc with rfl | hc
   ·exact hbe
   ·rintro rfl;rcases he with z | z
    ·exact nown c b hc z
    ·rw[hc] at z;cases z;exact hb rfl
end
structure Un (fs ex:List Addr) (H H':Hp) (h h':Heap):Prop where
 keep:∀ b o,h.get? b=some o->H b=none->b ∉ fs->b ∉ ex->h'.get? b=some o
 slot:∀ b o,h.get? b=some o->H b=none->b∈fs->b ∉ ex->∃ sl,h'.get? b=some {o with slots:=sl}
 free:∀ b o,h.get? b=some o->H b=none->b ∉ ex->H' b=none
 there:∀ b o,h.get? b=some o->b ∉ ex->∃ o',h'.get? b=some o'
 tups:∀ b xs,H b=some (.tup xs)->H' b=some (.tup xs)
 frzs:∀ b o u,H b=some (.frz o u)->H' b=some (.frz o u)
 tbls:∀ b ps,H b=some (.tbl ps)->∃ more,H' b=some (.tbl (ps++more))
section
variable {fs fs' ex ex':List Addr} {H H1 H2:Hp} {h h1 h2 h':Heap} {a x e:Addr} {o:HO}
theorem Un.any (u:Un fs ex H H1 h h1) (q:h.get? b=some ob) (n:H b=none) (hx:b ∉ ex):∃ sl,h1.get? b=some {ob with slots:=sl}:=by
 by_cases hb:b∈fs
 ·exact u.slot b ob q n hb hx
 ·exact⟨ob.slots,u.keep b ob q n hb hx⟩
theorem Un.trans (a:Un fs ex H H1 h h1) (b:Un fs ex H1 H2 h1 h2):Un fs ex H H2 h h2 where
 keep:=λ c ob q n hc hx=>b.keep c ob (a.keep c ob q n hc hx) (a.free c ob q n hx) hc hx
 slot:=λ c ob q n hc hx=>by
  obtain⟨sl,e1⟩:=a.slot c ob q n hc hx;obtain⟨sl',e2⟩:=b.slot c _ e1 (a.free c ob q n hx) hc hx;exact⟨sl',e2⟩
 free:=λ c ob q n hx=>by
  obtain⟨o',e1⟩:=a.there c ob q hx;exact b.free c o' e1 (a.free c ob q n hx) hx
 there:=λ c ob q hx=>by
  obtain⟨o',e1⟩:=a.there c ob q hx;exact b.there c o' e1 hx
 tups:=λ c xs q=>b.tups c xs (a.tups c xs q)
 frzs:=λ c ob xs q=>b.frzs c ob xs (a.frzs c ob xs q)
 tbls:=λ c ps q=>by
  obtain⟨m1,e1⟩:=a.tbls c ps q;obtain⟨m2,e2⟩:=b.tbls c _ e1;exact⟨m1++m2,by rw[e2,Array.append_assoc]⟩
theorem Un.kept (k:∀ b u,h.get? b=some u->h'.get? b=some u):Un fs ex H H h h' :=
 ⟨λ b ob q _ _ _=>k b ob q,λ b ob q _ _ _=>⟨ob.slots,k b ob q⟩,λ _ _ _ n _=>n,λ b ob q _=>⟨ob,k b ob q⟩,λ _ _ q=>q,λ _ _ _ q=>q,λ _ ps q=>⟨#[],by rw[q];simp⟩⟩
theorem Un.refl:Un fs ex H H h h:=Un.kept λ _ _ q=>q
theorem Un.laid (k:∀ b u,h.get? b=some u->h'.get? b=some u) (hp:h.objs.size<=a) (hn:H a=none):Un fs ex H (upd H a o) h h' where
 keep:=λ b u q _ _ _=>k b u q
 slot:=λ b u q _ _ _=>⟨u.slots,k b u q⟩
 free:=λ b u q n _=>by rw[a0g (z0k (z1l (z0g q) hp))];exact n
 there:=λ b u q _=>⟨u,k b u q⟩
 tups:=λ b xs q=>by rw[a0g (a0s q hn)];exact q
 frzs:=λ b u xs q=>by rw[a0g (a0s q hn)];exact q
 tbls:=λ b ps q=>⟨#[],by rw[a0g (a0s q hn),q];simp⟩
theorem Un.write (mu:Mut (H x)) (he:e=x\/H e=some (.own x)) (k:∀ b u,b≠e->h.get? b=some u->h'.get? b=some u) (heo:∃ u,h'.get? e=some u):Un fs ex H (upd H x o) h h':=by
 have hx:∀ b,H b=none->b≠x:=λ b n z=>by subst z;rw[n] at mu;exact mu
 have hb:∀ b,H b=none->b≠e:=λ b n z=>by
  subst z;rcases he with r | r
  ·exact hx b n r
  ·rw[n] at r;cases r
 have hm:∀ b u,H b=some u->¬ Mut (some u)->b≠x:=λ b u q nm z=>by subst z;rw[q] at mu;exact nm mu
 refine⟨λ b u q n _ _=>k b u (hb b n) q,λ b u q n _ _=>⟨u.slots,k b u (hb b n) q⟩,λ b u q n _=>by rw[a0g (hx b n)];exact n,λ b u q _=>?_,
  λ b xs q=>by rw[a0g (hm b _ q λ z=>z)];exact q,λ b u xs q=>by rw[a0g (hm b _ q λ z=>z)];exact q,λ b ps q=>⟨#[],by rw[a0g (hm b _ q λ z=>z),q];simp⟩⟩
 by_cases hbe:b=e
 ·subst hbe;exact heo
 ·exact⟨u,k b u hbe q⟩
end
def trk (h:Heap) (H:Hp):List Addr:=(List.range h.objs.size).filter λ a=>(H a).isSome
def d5f (h:Heap) (H:Hp):Heap:=W.hideAll h (trk h H)
theorem d0x (h:Heap) (H:Hp):(d5f h H).objs.size=h.objs.size:=W.hideAll_size _ _
theorem d4p (e:h.get? b=some o) (n:H b=none):(d5f h H).get? b=some o :=
 W.hideAll_get _ e λ hm=>by
  have q:=(z3k.mp hm).2;rw[n] at q;simp at q
theorem d8c (e:(d5f h H).get? b=some o):h.get? b=some o/\H b=none:=by
 have e':=W.of_hideAll (trk h H) e;refine⟨e',?_⟩;cases q:H b with
 | none=>rfl
 | some x =>
  have hm:b∈trk h H:=z3k.mpr ⟨z41.mpr (z0g e'),by simp[q]⟩;have z:(d5f h H).get? b=none:=W.hideAll_none (trk h H) hm;rw[z] at e;cases e
def d6y (g h:Heap) (L:Addr):List (Addr×Obj):=(List.range h.objs.size).filterMap λ a=>if a=L\/(g.get? a).isSome=true then none else (h.get? a).map λ o=>(a,o)
def b6e (g h:Heap) (L d:Addr):List (Addr×Obj):=(d6y g h L).filter λ p=>decide (p.1≠d)
end L2
namespace L2
open PySem PySem.Spec PyProof.Rows
structure Mod (K:W.Frag) (mg:Str->Option Value) (base:Heap):Prop where
 kin:K.In base
 glob:base.Ns mainGlobals mg
 blt:∃ mb,base.Ns builtinsNs mb/\∀ x:Str,x≠"__name__"->mb x=bootBuiltins x
 nolimit:base.NoLimit
structure Cx where
 prog:Program
 w:World
 K:W.Frag
 mg:Str->Option Value
 base:Heap
 A:Around
 N:List Str
 s₀:Shared
 H₀:Hp
 env:Env
 outer:List Env
 stack:List Env
 ex:List Addr
 fn:Str->Bool
 calm:Bool
 pn:List (Addr×Obj)
 xe:Value->Shared->Prop
def frs (l:List Env):List Addr:=l.filterMap (·.frame)
abbrev Cx.fs (X:Cx):List Addr:=frs X.outer
def Vis (sc:Scope) (x:Str):Prop:=sc.names.lookup x=some .local\/sc.names.lookup x=some .cell\/sc.names.lookup x=some .free
def Loc (sc:Scope) (x:Str):Prop:=sc.names.lookup x=some .local\/sc.names.lookup x=some .cell
def e7f (env:Env) (h:Heap) (m:Str->Option Value) (x:Str) (u:Value):Prop :=
 (env.kindOf x=some .local/\m x=some u)\/((env.kindOf x=some .cell\/env.kindOf x=some .free)/\∃ c,env.cells.lookup x=some c/\h.IsCell c (some u))
structure Cx.Ok (X:Cx):Prop where
 mod:Mod X.K X.mg X.base
 kind:X.env.scope.kind=.function
 glob:X.env.globals=mainGlobals
 blt:X.env.builtins=builtinsNs
 above:X.s₀.heap.objs.size<=X.env.locals
 inj:∀ x y c,X.env.cells.lookup x=some c->X.env.cells.lookup y=some c->x=y
 has:∀ x,(X.env.kindOf x=some .cell\/X.env.kindOf x=some .free)->∃ c,X.env.cells.lookup x=some c
 cab:∀ x c,X.fn x=true->X.env.cells.lookup x=some c->X.s₀.heap.objs.size<=c
 hd:X.calm=true->X.A.handled=none
 frames:X.A.frames=some X.stack
 stk:X.stack=X.outer\/(X.stack=X.env::X.outer/\X.env.frame=some X.env.locals)
 exf:∀ b∈X.ex,b≠X.env.locals/\∀ x c,X.env.cells.lookup x=some c->c≠b
 bs:∀ b o,X.base.get? b=some o->X.s₀.heap.get? b=some o/\X.H₀ b=none
 bsz:X.base.objs.size<=X.s₀.heap.objs.size
 noex:∀ b o,X.base.get? b=some o->b ∉ X.ex
 exfs:∀ b∈X.ex,b ∉ X.fs
 funs:X.s₀.heap.FunFrames X.base X.outer
 frf:∀ b∈X.fs,X.H₀ b=none
structure Inv (X:Cx) (pins:List (Addr×Obj)) (σ:List (Option V)) (H:Hp) (s:Shared):Prop where
 ok:X.Ok
 os:s.os=X.s₀.os
 bare:AllBare s.gens
 base:Un X.fs X.ex X.H₀ H X.s₀.heap s.heap
 loc:∃ m,s.heap.Ns X.env.locals m/\∀ (i:Nat) (x:Str) (v:V),X.N[i]?=some x->σ[i]?=some (some v)->Vis X.env.scope x->∃ u,a2d v u/\e7f X.env s.heap m x u
 cell:∀ x c,X.env.cells.lookup x=some c->∃ v,s.heap.IsCell c v
 free:H X.env.locals=none
 freeC:∀ x c,X.env.cells.lookup x=some c->H c=none
 pin:∀ p∈X.pn++pins,s.heap.get? p.1=some p.2/\H p.1=none/\p.1≠X.env.locals/\p.1 ∉ X.fs/\∀ v,p.2.data≠.cell v
 hok:HOk X.prog X.w H s.heap
 len:σ.length=X.N.length
section
variable {X:Cx} {pins:List (Addr×Obj)} {σ:List (Option V)} {H H':Hp} {s:Shared} {h':Heap}
theorem Cx.Ok.nofr (ok:X.Ok) (e:X.base.get? b=some o):b ∉ X.fs:=λ hb=>by
 have:=(ok.funs.mem hb).1;rw[e] at this;cases this
theorem Inv.bs (I:Inv X pins σ H s):∀ b o,X.base.get? b=some o->s.heap.get? b=some o/\H b=none:=λ b o e =>
 ⟨I.base.keep b o (I.ok.bs b o e).1 (I.ok.bs b o e).2 (I.ok.nofr e) (I.ok.noex b o e),I.base.free b o (I.ok.bs b o e).1 (I.ok.bs b o e).2 (I.ok.noex b o e)⟩
theorem Inv.bk (I:Inv X pins σ H s):∀ b o,X.base.get? b=some o->s.heap.get? b=some o:=λ b o e=>(I.bs b o e).1
theorem Inv.mod (I:Inv X pins σ H s):Mod X.K X.mg X.base:=I.ok.mod
theorem Inv.kIn (I:Inv X pins σ H s):X.K.In s.heap:=I.ok.mod.kin.keeps I.bk
theorem Inv.lt (I:Inv X pins σ H s):X.env.locals < s.heap.objs.size:=let ⟨_,hn,_⟩:=I.loc;hn.lt
theorem Inv.sz (I:Inv X pins σ H s):X.s₀.heap.objs.size<=s.heap.objs.size:=z0s I.ok.above (z3v I.lt)
theorem Inv.nofs (I:Inv X pins σ H s) {a:Addr} (h:s.heap.objs.size<=a):a ∉ X.fs:=λ hb=>by
 obtain⟨_,o,ho,_⟩:=I.ok.funs.mem hb;exact absurd (z1l (z0g ho) (z0s I.sz h)) (z5b _)
theorem Inv.cne (I:Inv X pins σ H s):∀ x c,X.env.cells.lookup x=some c->c≠X.env.locals:=λ x c e z=>by
 obtain⟨v,o,ho,hd⟩:=I.cell x c e;obtain⟨m,⟨o',es,ep,ho',hd',_⟩,_⟩:=I.loc;rw[z,ho'] at ho;cases ho;rw[hd'] at hd;cases hd
theorem Inv.funs (I:Inv X pins σ H s):s.heap.FunFrames X.base X.outer:=by
 have all:∀ (l:List Env),(∀ b∈frs l,b∈X.fs)->X.s₀.heap.FunFrames X.base l->s.heap.FunFrames X.base l:=by
  intro l;induction l with
  | nil=>intro _ _;trivial
  | cons env r ih =>
   intro hs hl;obtain⟨hk,⟨L,o,hf,hn,ho,hd⟩,hr⟩:=hl;have hL:=hs L (by unfold frs;rw[z1o,hf];exact z1p);obtain⟨sl,e⟩:=I.base.slot L o ho (I.ok.frf L hL) hL λ z=>I.ok.exfs L z hL
   exact⟨hk,nx8 L _ hf hn e hd,ih (λ b hb=>hs b (by unfold frs;rw[z1o,hf];exact z1j _ hb)) hr⟩
 exact all X.outer (λ _ hb=>hb) I.ok.funs
theorem Inv.stack (I:Inv X pins σ H s):s.heap.FunFrames X.base X.stack:=by
 rcases I.ok.stk with e | ⟨e,hf⟩
 ·rw[e];exact I.funs
 ·rw[e];obtain⟨m,hn,_⟩:=I.loc;refine .cons (by rw[I.ok.kind];decide) hf hn ?_ I.funs;exact z5y (z0s I.ok.bsz I.ok.above)
theorem Inv.stkSub (I:Inv X pins σ H s):∀ b∈frs X.stack,b∈X.env.locals::X.fs:=λ b hb=>by
 rcases I.ok.stk with e | ⟨e,hf⟩
 ·rw[e] at hb;exact z1j _ hb
 ·rw[e] at hb;unfold frs at hb;rw[z1o,hf] at hb;exact hb
theorem Inv.stkFree (I:Inv X pins σ H s):∀ b∈frs X.stack,H b=none:=λ b hb=>by
 rcases z0a.mp (I.stkSub b hb) with e | hb
 ·rw[e];exact I.free
 ·obtain⟨_,o,ho,_⟩:=I.ok.funs.mem hb;exact I.base.free b o ho (I.ok.frf b hb) λ z=>I.ok.exfs b z hb
theorem Inv.step {ch:List Addr} (I:Inv X pins σ H s)
  (hch:∀ b∈ch,(b∈X.ex\/X.s₀.heap.objs.size<=b)/\b≠X.env.locals/\(∀ x c,X.env.cells.lookup x=some c->c≠b)/\∀ p∈X.pn++pins,p.1≠b)
  (keep:∀ b o,b≠X.env.locals->b ∉ X.fs->b ∉ ch->s.heap.get? b=some o->H b=none->h'.get? b=some o)
  (slot:∀ b o,b≠X.env.locals->b∈X.fs->b ∉ ch->s.heap.get? b=some o->H b=none->∃ sl,h'.get? b=some {o with slots:=sl}) (free:∀ b o,b ∉ ch->s.heap.get? b=some o->H b=none->H' b=none)
  (there:∀ b o,b ∉ ch->s.heap.get? b=some o->∃ o',h'.get? b=some o')
  (tups:∀ b xs,H b=some (.tup xs)->H' b=some (.tup xs)) (frzs:∀ b o u,H b=some (.frz o u)->H' b=some (.frz o u)) (tbls:∀ b ps,H b=some (.tbl ps)->∃ more,H' b=some (.tbl (ps++more)))
  (ns:∀ m,s.heap.Ns X.env.locals m->h'.Ns X.env.locals m) (hok:HOk X.prog X.w H' h') (hg:AllBare g') :
  Inv X pins σ H' {s with heap:=h',gens:=g',drawn:=d',toks:=t'}:=by
 have neL:∀ b o,X.s₀.heap.get? b=some o->b≠X.env.locals:=λ b o e=>z0k (z1l (z0g e) I.ok.above)
 have neC:∀ b o,X.s₀.heap.get? b=some o->b ∉ X.ex->b ∉ ch:=λ b o e hx hb=>by
  rcases(hch b hb).1 with z | z
  ·exact hx z
  ·exact absurd (z1l (z0g e) z) (z5b _)
 have cellK:∀ x c,X.env.cells.lookup x=some c->∀ v,s.heap.IsCell c v->h'.IsCell c v:=λ x c e v ⟨o,ho,hd⟩=>by
  have nch:=λ z=>(hch c z).2.2.1 x c e rfl
  by_cases hc:c∈X.fs
  ·obtain⟨sl,q⟩:=slot c o (I.cne x c e) hc nch ho (I.freeC x c e);exact⟨_,q,hd⟩
  ·exact⟨o,keep c o (I.cne x c e) hc nch ho (I.freeC x c e),hd⟩
 refine⟨I.ok,I.os,hg,⟨λ b o e n hb hx=>?_,λ b o e n hb hx=>?_,λ b o e n hx=>?_,λ b o e hx=>?_,λ b xs e=>tups b xs (I.base.tups b xs e),λ b o xs e=>frzs b o xs (I.base.frzs b o xs e),λ b ps e=>?_⟩,?_,λ x c e=>?_,?_,λ x c e=>?_,λ p hp=>?_,hok,I.len⟩
 ·exact keep b o (neL b o e) hb (neC b o e hx) (I.base.keep b o e n hb hx) (I.base.free b o e n hx)
 ·obtain⟨sl,e1⟩:=I.base.slot b o e n hb hx;obtain⟨sl',e2⟩:=slot b _ (neL b o e) hb (neC b o e hx) e1 (I.base.free b o e n hx);exact⟨sl',e2⟩
 ·obtain⟨o',e1⟩:=I.base.there b o e hx;exact free b o' (neC b o e hx) e1 (I.base.free b o e n hx)
 ·obtain⟨o',e1⟩:=I.base.there b o e hx;exact there b o' (neC b o e hx) e1
 ·obtain⟨m1,e1⟩:=I.base.tbls b ps e;obtain⟨m2,e2⟩:=tbls b _ e1;exact⟨m1++m2,by rw[e2,Array.append_assoc]⟩
 ·obtain⟨m,hn,hl⟩:=I.loc;refine⟨m,ns m hn,λ i x v e1 e2 e3=>?_⟩;obtain⟨u,r,l⟩:=hl i x v e1 e2 e3;refine⟨u,r,?_⟩;rcases l with l | ⟨k,c,e,z⟩
  ·exact .inl l
  ·exact .inr ⟨k,c,e,cellK x c e _ z⟩
 ·obtain⟨v,z⟩:=I.cell x c e;exact⟨v,cellK x c e v z⟩
 ·obtain⟨m,⟨o,_,_,ho,_⟩,_⟩:=I.loc;exact free _ o (λ z=>(hch _ z).2.1 rfl) ho I.free
 ·obtain⟨v,o,ho,hd⟩:=I.cell x c e;exact free c o (λ z=>(hch c z).2.2.1 x c e rfl) ho (I.freeC x c e)
 ·obtain⟨e,n,ne,nf,d⟩:=I.pin p hp;have nch:=λ z=>(hch p.1 z).2.2.2 p hp rfl
  exact⟨keep p.1 p.2 ne nf nch e n,free p.1 p.2 nch e n,ne,nf,d⟩
theorem Inv.un (I:Inv X pins σ H s) (u:Un X.fs [] H H' s.heap h') (hok:HOk X.prog X.w H' h'):Inv X pins σ H' {s with heap:=h',toks:=t'}:=by
 obtain⟨m,⟨o,es,ep,ho,r⟩,_⟩:=id I.loc;obtain⟨sl,hL⟩:=u.any ho I.free (by simp);exact I.step (ch:=[]) (λ _ z=>nomatch z) (λ b o _ hb _ e n=>u.keep b o e n hb (by simp)) (λ b o _ hb _ e n=>u.slot b o e n hb (by simp)) (λ b o _ e n=>u.free b o e n (by simp)) (λ b o _ e=>u.there b o e (by simp)) u.tups u.frzs u.tbls (λ m' hm=>by
  obtain⟨o',es',ep',ho',r'⟩:=hm;rw[ho] at ho';cases ho';exact nx34 _ es' ep' hL r') hok I.bare
theorem Inv.call (I:Inv X pins σ H s) (u:Un (frs X.stack) ch H H' s.heap h') (hok:HOk X.prog X.w H' h') (hg:AllBare g')
  (hch:∀ b∈ch,(b∈X.ex\/X.s₀.heap.objs.size<=b)/\b≠X.env.locals/\(∀ x c,X.env.cells.lookup x=some c->c≠b)/\∀ p∈X.pn++pins,p.1≠b) :
  Inv X pins σ H' {s with heap:=h',gens:=g',drawn:=d',toks:=t'}:=by
 obtain⟨m,⟨o,es,ep,ho,r⟩,_⟩:=id I.loc;obtain⟨sl,hL⟩:=u.any ho I.free λ z=>(hch _ z).2.1 rfl
 exact I.step hch (λ b o hL hb hc e n=>u.keep b o e n (λ z=>(z0a.mp (I.stkSub b z)).elim hL hb) hc) (λ b o _ _ hc e n=>u.any e n hc) (λ b o hc e n=>u.free b o e n hc) (λ b o hc e=>u.there b o e hc) u.tups u.frzs u.tbls (λ m' hm=>by
  obtain⟨o',es',ep',ho',r'⟩:=hm;rw[ho] at ho';cases ho';exact nx34 _ es' ep' hL r') hok hg
theorem Inv.turned (I:Inv X pins σ H s) (k:∀ b o,b≠it->s.heap.get? b=some o->h'.get? b=some o) (hn:H it=none) (hL:it≠X.env.locals)
  (h1:it∈X.ex\/X.s₀.heap.objs.size<=it) (h2:∀ x c,X.env.cells.lookup x=some c->c≠it) (h3:∀ p∈X.pn++pins,p.1≠it):Inv X pins σ H {s with heap:=h',toks:=t'}:=by
 have nit:∀ b u,H b=some u->b≠it:=λ b u e z=>by rw[z,hn] at e;cases e
 refine I.step (ch:=[it]) (λ b hb=>?_) (λ b o _ _ hc e _=>k b o (λ z=>hc (by simp[z])) e) (λ b o _ _ hc e _=>⟨o.slots,k b o (λ z=>hc (by simp[z])) e⟩) (λ _ _ _ _ n=>n)
  (λ b o hc e=>⟨o,k b o (λ z=>hc (by simp[z])) e⟩) (λ _ _ e=>e) (λ _ _ _ e=>e) (λ b ps e=>⟨#[],by rw[e];simp⟩) (λ m hm=>?_) (λ b u e=>?_) I.bare
 ·have e:b=it:=by simpa using hb
  subst e;exact⟨h1,hL,h2,h3⟩
 ·obtain⟨o,es,ep,ho,r⟩:=hm;exact nx34 o es ep (k _ o (z1t hL) ho) r
 ·refine(I.hok b u e).stay (λ c v hc q=>k c v ?_ q) (λ _ q=>q) λ _ _ q=>q
  rcases hc with z | z
  ·rw[z];exact nit b u e
  ·exact nit c _ z
theorem Inv.tok (I:Inv X pins σ H s) (t:Nat):Inv X pins σ H {s with toks:=t}:=I.un Un.refl I.hok
theorem Inv.kept (I:Inv X pins σ H s) (k:∀ b u,s.heap.get? b=some u->h'.get? b=some u):Inv X pins σ H {s with heap:=h',toks:=t'}:=I.un (Un.kept k) (I.hok.kept k)
theorem Inv.laid {a:Addr} (I:Inv X pins σ H s) (k:∀ b u,s.heap.get? b=some u->h'.get? b=some u) (hp:s.heap.objs.size<=a) (new:a2r X.prog X.w (upd H a o) h' a o) :
  Inv X pins σ (upd H a o) {s with heap:=h',toks:=t'}:=I.un (Un.laid k hp (I.hok.fresh hp)) (I.hok.laid k hp new)
theorem Inv.write (I:Inv X pins σ H s) (mu:Mut (H x)) (he:e=x\/H e=some (.own x)) (k:∀ b u,b≠e->s.heap.get? b=some u->h'.get? b=some u) (heo:∃ u,h'.get? e=some u)
  (new:a2r X.prog X.w (upd H x o) h' x o):Inv X pins σ (upd H x o) {s with heap:=h',toks:=t'}:=I.un (Un.write mu he k heo) (I.hok.write mu he k heo new)
theorem Inv.pins_of (I:Inv X pins σ H s) (h:∀ p∈pins',s.heap.get? p.1=some p.2/\H p.1=none/\p.1≠X.env.locals/\p.1 ∉ X.fs/\∀ v,p.2.data≠.cell v):Inv X pins' σ H s :=
 ⟨I.ok,I.os,I.bare,I.base,I.loc,I.cell,I.free,I.freeC,λ p hp=>(z0f.mp hp).elim (λ z=>I.pin p (z1x _ z)) (h p),I.hok,I.len⟩
theorem nodup_ix {N:List Str} (hN:N.Nodup) {i j:Nat} (a:N[i]?=some x) (b:N[j]?=some x):i=j:=by
 obtain⟨h1,e1⟩:=z0l.mp a;obtain⟨h2,e2⟩:=z0l.mp b;exact(List.getElem_inj hN).mp (e1.trans e2.symm)
theorem b7w (I:Inv X pins σ H s) (hN:X.N.Nodup) (hi:X.N[i]?=some x) (hx:Loc X.env.scope x) (r:a2d v u)
  (h:∀ s',Inv X pins (σ.set i (some v)) H s'->(∃ a,Heap.SameBut a s.heap s'.heap/\(a=X.env.locals\/X.env.cells.lookup x=some a))->Q () s') (hf:X.fn x=true\/X.env.scope.names.lookup x=some .local:=by first | exact .inl rfl | exact .inr rfl | assumption):wpAny M A (storeName X.env x u) Q E s:=by
 obtain⟨m,hn,hl⟩:=id I.loc;have hcls:(X.env.scope.kind == .class || (X.env.scope.kind == .module && X.env.locals != X.env.globals))=false:=by rw[I.ok.kind];rfl
 have hiσ:i < σ.length:=by rw[I.len];exact(z0l.mp hi).1
 have cne:=I.cne;have tracked:∀ {a:Addr} {h':Heap},(∃ o,s.heap.get? a=some o/\H a=none)->Heap.SameBut a s.heap h'->HOk X.prog X.w H h':=λ {a h'} ha hs b ob e=>by
  obtain⟨_,_,hfree⟩:=ha;refine(I.hok b ob e).stay (λ c w' hc q=>(hs.2 c ?_).trans q) (λ _ q=>q) λ _ _ q=>q
  rintro rfl;rcases hc with rfl | hc
  ·rw[hfree] at e;cases e
  ·rw[hfree] at hc;cases hc
 rcases hx with hk | hk
 ·refine wpAny_storeName_local hk hn (λ h' hn' hs=>?_) hcls;obtain⟨oL,_,_,hoL,_⟩:=id hn;refine h _ ⟨I.ok,I.os,I.bare,⟨λ b o e n hb hx=>?_,λ b o e n hb hx=>?_,I.base.free,λ b o e hx=>?_,I.base.tups,I.base.frzs,I.base.tbls⟩,⟨_,hn',λ j y v' e1 e2 e3=>?_⟩,λ y c e=>?_,I.free,I.freeC,λ p hp=>?_,tracked ⟨oL,hoL,I.free⟩ hs,by simpa using I.len⟩ ⟨_,hs,.inl rfl⟩
  ·exact(hs.2 b (z0k (z1l (z0g e) I.ok.above))).trans (I.base.keep b o e n hb hx)
  ·obtain⟨sl,e1⟩:=I.base.slot b o e n hb hx;exact⟨sl,(hs.2 b (z0k (z1l (z0g e) I.ok.above))).trans e1⟩
  ·obtain⟨o',e1⟩:=I.base.there b o e hx;exact⟨o',(hs.2 b (z0k (z1l (z0g e) I.ok.above))).trans e1⟩
  ·by_cases hj:j=i
   ·subst hj;rw[hi] at e1;cases e1;rw[List.getElem?_set_self hiσ] at e2;cases e2;exact⟨u,r,.inl ⟨hk,by simp⟩⟩
   ·rw[List.getElem?_set_ne (z1t hj)] at e2;obtain⟨u',r',q⟩:=hl j y v' e1 e2 e3;refine⟨u',r',?_⟩;rcases q with ⟨k,e⟩ | ⟨k,c,e,z⟩
    ·refine .inl ⟨k,?_⟩;have:y≠x:=λ e=>hj (nodup_ix hN e1 (e ▸ hi))
     simp[this,e]
    ·exact .inr ⟨k,c,e,z.sameBut hs (cne y c e)⟩
  ·obtain⟨w',z⟩:=I.cell y c e;exact⟨w',z.sameBut hs (cne y c e)⟩
  ·obtain⟨e,n,ne,nf,d⟩:=I.pin p hp;exact⟨(hs.2 p.1 ne).trans e,n,ne,nf,d⟩
 ·have hfn:X.fn x=true:=by
   rcases hf with z | z
   ·exact z
   ·rw[z] at hk;cases hk
  obtain⟨c,hc⟩:=I.ok.has x (.inl hk);obtain⟨w',z⟩:=I.cell x c hc;refine wpAny_storeName_cell I.ok.kind hk hc z (λ h' hc' hs=>?_);obtain⟨oc,hoc,hocd⟩:=id z;refine h {s with heap:=h'} ⟨I.ok,I.os,I.bare,⟨λ b o e n hb hx=>?_,λ b o e n hb hx=>?_,I.base.free,λ b o e hx=>?_,I.base.tups,I.base.frzs,I.base.tbls⟩,⟨m,hn.sameBut hs (z1t (cne x c hc)),λ j y v' e1 e2 e3=>?_⟩,λ y c' e=>?_,I.free,I.freeC,λ p hp=>?_,tracked ⟨oc,hoc,I.freeC x c hc⟩ hs,by simpa using I.len⟩ ⟨c,hs,.inr hc⟩
  ·exact(hs.2 b (z0k (z1l (z0g e) (I.ok.cab x c hfn hc)))).trans (I.base.keep b o e n hb hx)
  ·obtain⟨sl,e1⟩:=I.base.slot b o e n hb hx;exact⟨sl,(hs.2 b (z0k (z1l (z0g e) (I.ok.cab x c hfn hc)))).trans e1⟩
  ·obtain⟨o',e1⟩:=I.base.there b o e hx;exact⟨o',(hs.2 b (z0k (z1l (z0g e) (I.ok.cab x c hfn hc)))).trans e1⟩
  ·by_cases hj:j=i
   ·subst hj;rw[hi] at e1;cases e1;rw[List.getElem?_set_self hiσ] at e2;cases e2;exact⟨u,r,.inr ⟨.inl hk,c,hc,hc'⟩⟩
   ·rw[List.getElem?_set_ne (z1t hj)] at e2;obtain⟨u',r',q⟩:=hl j y v' e1 e2 e3;refine⟨u',r',?_⟩;rcases q with q | ⟨k,c',e,z'⟩
    ·exact .inl q
    ·refine .inr ⟨k,c',e,z'.sameBut hs ?_⟩;rintro rfl;exact hj (nodup_ix hN e1 (I.ok.inj _ _ _ e hc ▸ hi))
  ·by_cases hcc:c'=c
   ·subst hcc;exact⟨_,hc'⟩
   ·obtain⟨w2,z2⟩:=I.cell y c' e;exact⟨w2,z2.sameBut hs hcc⟩
  ·obtain⟨e,n,ne,nf,d⟩:=I.pin p hp;refine⟨(hs.2 p.1 ?_).trans e,n,ne,nf,d⟩;intro q;rw[q,hoc] at e;have q':=z0r e;exact d w' (by rw[<-q'];exact hocd)
theorem c3h (I:Inv X pins σ H s) (hN:X.N.Nodup) (hi:X.N[i]?=some x) (hx:Loc X.env.scope x) (r:a2d v u)
  (h:∀ s',Inv X pins (σ.set i (some v)) H s'->Q () s') (hf:X.fn x=true\/X.env.scope.names.lookup x=some .local:=by first | exact .inl rfl | exact .inr rfl | assumption):wpAny M A (storeName X.env x u) Q E s :=
 b7w I hN hi hx r (λ s' I' _=>h s' I') hf
theorem Inv.call' (I:Inv X pins σ H s) (ho:s'.os=s.os) (u:Un (frs X.stack) ch H H' s.heap s'.heap) (hok:HOk X.prog X.w H' s'.heap) (hg:AllBare s'.gens)
  (hch:∀ b∈ch,(b∈X.ex\/X.s₀.heap.objs.size<=b)/\b≠X.env.locals/\(∀ x c,X.env.cells.lookup x=some c->c≠b)/\∀ p∈X.pn++pins,p.1≠b):Inv X pins σ H' s':=by
 obtain⟨h',g',d',t',o'⟩:=s';have e:=ho;subst e;exact I.call u hok hg hch
end
abbrev XK:=Value->Option Addr->Hp->Prop
abbrev St:=List (Option V)
abbrev VK:=V->Hp->Prop
abbrev TE:=St->Hp->VK->Prop
abbrev TT:=St->Hp->(Bool->Hp->Prop)->Prop
abbrev TA:=St->Hp->(List V->Hp->Prop)->Prop
structure c8l where
 nx:St->Hp->Prop
 rt:VK
 bk:St->Hp->Prop:=λ _ _=>False
 ct:St->Hp->Prop:=λ _ _=>False
abbrev TS:=c8l->St->Hp->Prop
def EP (X:Cx) (pins:List (Addr×Obj)) (σ:St) (Q:VK) (u:Value) (s':Shared):Prop:=∃ v H',Inv X pins σ H' s'/\a2d v u/\Q v H'
def TP (X:Cx) (pins:List (Addr×Obj)) (σ:St) (Q:Bool->Hp->Prop) (b:Bool) (s':Shared):Prop:=∃ H',Inv X pins σ H' s'/\Q b H'
def AP (X:Cx) (pins:List (Addr×Obj)) (σ:St) (Q:List V->Hp->Prop) (us:List Value) (s':Shared):Prop:=∃ vs H',Inv X pins σ H' s'/\a2e vs us/\Q vs H'
def SP (X:Cx) (pins:List (Addr×Obj)) (D:c8l) (f:Flow) (s':Shared):Prop :=
 match f with
 | .next=>∃ σ' H',Inv X pins σ' H' s'/\D.nx σ' H'
 | .brk=>∃ σ' H',Inv X pins σ' H' s'/\D.bk σ' H'
 | .cont=>∃ σ' H',Inv X pins σ' H' s'/\D.ct σ' H'
 | .ret u=>∃ v σ' H',Inv X pins σ' H' s'/\a2d v u/\D.rt v H'
structure PE (X:Cx) (e:Expr) (t:TE):Prop where
 run:∀ (pins:List (Addr×Obj)) (s:Shared) (σ:St) (H:Hp) (Q:VK),Inv X pins σ H s->t σ H Q->wpAny (model X.prog X.w) X.A (eval e X.env) (EP X pins σ Q) X.xe s
instance {X:Cx} {e:Expr} {t:TE}:CoeFun (PE X e t) λ _=>∀ (pins:List (Addr×Obj)) (s:Shared) (σ:St) (H:Hp) (Q:VK),Inv X pins σ H s->t σ H Q->wpAny (model X.prog X.w) X.A (eval e X.env) (EP X pins σ Q) X.xe s:=⟨PE.run⟩
structure PT (X:Cx) (e:Expr) (t:TT):Prop where
 run:∀ (pins:List (Addr×Obj)) (s:Shared) (σ:St) (H:Hp) (Q:Bool->Hp->Prop),Inv X pins σ H s->t σ H Q->wpAny (model X.prog X.w) X.A (isTrue e X.env (eval e X.env)) (TP X pins σ Q) X.xe s
instance {X:Cx} {e:Expr} {t:TT}:CoeFun (PT X e t) λ _=>∀ (pins:List (Addr×Obj)) (s:Shared) (σ:St) (H:Hp) (Q:Bool->Hp->Prop),Inv X pins σ H s->t σ H Q->wpAny (model X.prog X.w) X.A (isTrue e X.env (eval e X.env)) (TP X pins σ Q) X.xe s:=⟨PT.run⟩
structure PW (X:Cx) (e:Expr) (t:TT):Prop where
 run:∀ (whole:Sem Value) (pins:List (Addr×Obj)) (s:Shared) (σ:St) (H:Hp) (Q:Bool->Hp->Prop),Inv X pins σ H s->t σ H Q->wpAny (model X.prog X.w) X.A (isTrue e X.env whole) (TP X pins σ Q) X.xe s
instance {X:Cx} {e:Expr} {t:TT}:CoeFun (PW X e t) λ _=>∀ (whole:Sem Value) (pins:List (Addr×Obj)) (s:Shared) (σ:St) (H:Hp) (Q:Bool->Hp->Prop),Inv X pins σ H s->t σ H Q->wpAny (model X.prog X.w) X.A (isTrue e X.env whole) (TP X pins σ Q) X.xe s:=⟨PW.run⟩
theorem PW.pt (h:PW X e t):PT X e t:=⟨h.run _⟩
structure PA (X:Cx) (es:List Expr) (t:TA):Prop where
 run:∀ (pos:Pos) (pins:List (Addr×Obj)) (s:Shared) (σ:St) (H:Hp) (Q:List V->Hp->Prop),Inv X pins σ H s->t σ H Q->wpAny (model X.prog X.w) X.A (spliced (backTo pos (starEach es X.env))) (AP X pins σ Q) X.xe s
instance {X:Cx} {es:List Expr} {t:TA}:CoeFun (PA X es t) λ _=>∀ (pos:Pos) (pins:List (Addr×Obj)) (s:Shared) (σ:St) (H:Hp) (Q:List V->Hp->Prop),Inv X pins σ H s->t σ H Q->wpAny (model X.prog X.w) X.A (spliced (backTo pos (starEach es X.env))) (AP X pins σ Q) X.xe s:=⟨PA.run⟩
structure PS (X:Cx) (st:Stmt) (t:TS):Prop where
 run:∀ (pins:List (Addr×Obj)) (s:Shared) (σ:St) (H:Hp) (D:c8l),Inv X pins σ H s->t D σ H->wpAny (model X.prog X.w) X.A (exec st X.env) (SP X pins D) X.xe s
instance {X:Cx} {st:Stmt} {t:TS}:CoeFun (PS X st t) λ _=>∀ (pins:List (Addr×Obj)) (s:Shared) (σ:St) (H:Hp) (D:c8l),Inv X pins σ H s->t D σ H->wpAny (model X.prog X.w) X.A (exec st X.env) (SP X pins D) X.xe s:=⟨PS.run⟩
structure PSs (X:Cx) (st:List Stmt) (t:TS):Prop where
 run:∀ (pins:List (Addr×Obj)) (s:Shared) (σ:St) (H:Hp) (D:c8l),Inv X pins σ H s->t D σ H->wpAny (model X.prog X.w) X.A (execs st X.env) (SP X pins D) X.xe s
instance {X:Cx} {st:List Stmt} {t:TS}:CoeFun (PSs X st t) λ _=>∀ (pins:List (Addr×Obj)) (s:Shared) (σ:St) (H:Hp) (D:c8l),Inv X pins σ H s->t D σ H->wpAny (model X.prog X.w) X.A (execs st X.env) (SP X pins D) X.xe s:=⟨PSs.run⟩
theorem thn (h:wpAny M A t Q E s) (hQ:∀ a s,Q a s->Q' a s):wpAny M A t Q' E s:=z1b h hQ λ _ _ x=>x
end L2
namespace L2
open PySem PySem.Spec PyProof.Rows
section
variable {X:Cx}
def c8m (i:Nat):TE:=λ σ H Q=>∃ v,σ[i]?=some (some v)/\Q v H
def tC (v:V):TE:=λ _ H Q=>Q v H
theorem e1i {pos:Pos} (hN:X.N[i]?=some x) (hv:Vis X.env.scope x) (hd:(x == ("__debug__":Str))=false:=by decide) (hcd:(x == ("__classdict__":Str))=false:=by decide):PE X (.Name x pos) (c8m i):=by
 constructor;intro pins s σ H Q I h;obtain⟨v,e,h⟩:=h;obtain⟨m,hn,hl⟩:=I.loc;obtain⟨u,r,l⟩:=hl i x v hN e hv;have fin:EP X pins σ Q u s:= nx0 v H I r h;rcases l with ⟨hk,hm⟩ | ⟨hk,c,hc,hcell⟩
 ·exact wpAny_Name (wpAny_loadName_local I.ok.kind hk hn hm fin) hd
 ·rcases hk with hk | hk
  ·exact wpAny_Name (wpAny_loadName_cell I.ok.kind hk hc hcell fin) hd
  ·exact wpAny_Name (wpAny_loadName_free I.ok.kind hk hc hcell fin hcd) hd
theorem a0c {i j pos}:PE X (.Constant (.int i) j pos) (tC (.int i)):=⟨λ _ _ _ H _ I h=>wpAny_Constant_int (nx0 (.int i) H (I.tok _) ⟨_,rfl⟩ h)⟩
theorem a7z {b j pos}:PE X (.Constant (.bool b) j pos) (tC (.bl b)):=⟨λ _ _ _ H _ I h=>Constant_bool (nx0 (.bl b) H I rfl h)⟩
theorem a3p {j pos}:PE X (.Constant .none j pos) (tC .non):=⟨λ _ _ _ H _ I h=>Constant_none (nx0 (.non) H I rfl h)⟩
theorem a1s {x j pos}:PE X (.Constant (.str x) j pos) (tC (.str x)):=⟨λ _ _ _ H _ I h=>Calls.Constant_str (nx0 (.str x) H (I.tok _) ⟨_,rfl⟩ h)⟩
def Gl (X:Cx) (x:Str):Prop:=X.env.kindOf x=some .globalImplicit
theorem b6p {σ:St} (I:Inv X pins σ H s) (hg:Gl X x) (hm:X.mg x=some u) (h:Q u s)
  (hd:(x == ("__debug__":Str))=false:=by decide):wpAny (model X.prog X.w) X.A (eval (.Name x pos) X.env) Q E s :=
 Calls.Name_function_global I.ok.kind hg (Calls.loadGlobal_global (by rw[I.ok.glob];exact I.mod.glob.keeps I.bk) hm h) hd
theorem a7w {E:Value->Shared->Prop} {σ:St} {pos:Pos} (I:Inv X pins σ H s) (hg:Gl X x) (hm:X.mg x=none) (hv:bootBuiltins x=some u) (h:Q u s)
  (hn:x≠"__name__":=by decide) (hd:(x == ("__debug__":Str))=false:=by decide):wpAny (model X.prog X.w) X.A (eval (.Name x pos) X.env) Q E s:=by
 obtain⟨mb,h1,h2⟩:=I.mod.blt;exact Calls.Name_function_global I.ok.kind hg (Calls.loadGlobal_builtin (by rw[I.ok.glob];exact I.mod.glob.keeps I.bk) hm (by rw[I.ok.blt];exact h1.keeps I.bk) ((h2 x hn).trans hv) h) hd
theorem c1j (hg:Gl X x) (hm:X.mg x=some u) (r:a2d v u) (hd:(x == ("__debug__":Str))=false:=by decide):PE X (.Name x pos) (tC v) :=
 ⟨λ _ _ _ H _ I h=>b6p I hg hm (nx0 v H I r h) hd⟩
theorem b0v {pos:Pos} (hg:Gl X x) (hm:X.mg x=none) (hv:bootBuiltins x=some u) (r:a2d v u) (hn:x≠"__name__":=by decide) (hd:(x == ("__debug__":Str))=false:=by decide):PE X (.Name x pos) (tC v) :=
 ⟨λ _ _ _ H _ I h=>a7w I hg hm hv (nx0 v H I r h) hn hd⟩
variable {a b:Expr} {ta tb:TE} {pos:Pos}
def tB (t:TE):TT:=λ σ H Q=>t σ H λ x H1=>∃ c,x=.bl c/\Q c H1
theorem a7x {e:Expr} {t:TE} (h:PE X e t) (he:∀ whole,isTrue e X.env whole=(do let v <- whole;standAt e.pos;holding [v] (truthy v)):=by intro _;rfl):PT X e (tB t):=by
 constructor;intro pins s σ H Q I hw;refine isTrue_plain (thn (h pins s σ H _ I hw) λ v s1 ⟨x,H1,I1,r1,q1⟩=>?_) (he _);obtain⟨d,rfl,q⟩:=q1;cases r1;exact z6l ⟨H1,I1,q⟩
variable {tA tB':TT} {b6e:List Expr}
def e6t (t u:TT):TT:=λ σ H Q=>t σ H λ c H1=>if c=true then u σ H1 Q else Q false H1
def tOr (t u:TT):TT:=λ σ H Q=>t σ H λ c H1=>if c=true then Q true H1 else u σ H1 Q
def e6x (t:TT):TT:=λ σ H Q=>t σ H λ c H1=>Q (!c) H1
theorem a5b (ha:PT X a tA):PW X (.BoolOp .And [a] pos) tA:=by
 constructor;intro wh pins s σ H Q I h;refine isTrue_and (thn (ha pins s σ H Q I h) λ c s1 e=>?_);cases c with
 | true=>exact isTrue_and_nil e
 | false=>exact e
theorem b4o (ha:PT X a tA):PW X (.BoolOp .Or [a] pos) tA:=by
 constructor;intro wh pins s σ H Q I h;refine isTrue_or (thn (ha pins s σ H Q I h) λ c s1 e=>?_);cases c with
 | false=>exact isTrue_or_nil e
 | true=>exact e
theorem a5g (ha:PT X a tA) (hb:PW X (.BoolOp .And (b::b6e) pos) tB'):PW X (.BoolOp .And (a::b::b6e) pos) (e6t tA tB'):=by
 constructor;intro wh pins s σ H Q I h;refine isTrue_and (thn (ha pins s σ H _ I h) λ c s1 ⟨H1,I1,q1⟩=>?_);cases c with
 | true=>exact hb wh pins s1 σ H1 Q I1 q1
 | false=>exact⟨H1,I1,q1⟩
theorem b8w (ha:PT X a tA) (hb:PW X (.BoolOp .Or (b::b6e) pos) tB'):PW X (.BoolOp .Or (a::b::b6e) pos) (tOr tA tB'):=by
 constructor;intro wh pins s σ H Q I h;refine isTrue_or (thn (ha pins s σ H _ I h) λ c s1 ⟨H1,I1,q1⟩=>?_);cases c with
 | true=>exact⟨H1,I1,q1⟩
 | false=>exact hb wh pins s1 σ H1 Q I1 q1
theorem b4c (ha:PT X a tA):PT X (.UnaryOp .Not a pos) (e6x tA):=by
 constructor;intro pins s σ H Q I h;exact isTrue_not (ha pins s σ H (λ c H1=>Q (!c) H1) I h)
def e1k (ta tb:TE):TE:=λ σ H Q=>ta σ H λ x H1=>∃ c,x=.bl c/\if c=true then tb σ H1 Q else Q (.bl false) H1
def e4t (ta:TE):TE:=λ σ H Q=>ta σ H λ x H1=>∃ c,x=.bl c/\Q (.bl (!c)) H1
theorem c3m {op} (h:PE X a t):PE X (.BoolOp op [a] pos) t:=⟨λ pins s σ H Q I hw=>BoolOp_one (h pins s σ H Q I hw)⟩
theorem b2z (ha:PE X a ta) (hb:PE X (.BoolOp .And (b::b6e) pos) tb):PE X (.BoolOp .And (a::b::b6e) pos) (e1k ta tb):=by
 constructor;intro pins s σ H Q I h;refine BoolOp_and (thn (ha pins s σ H _ I h) λ v s1 ⟨x,H1,I1,r1,q1⟩=>?_);obtain⟨c,rfl,q1⟩:=q1;cases r1;refine z6l ?_;cases c with
 | true=>exact hb pins s1 σ H1 Q I1 q1
 | false=>exact nx0 (.bl false) H1 I1 rfl q1
theorem e0m (ha:PE X a ta):PE X (.UnaryOp .Not a pos) (e4t ta):=by
 constructor;intro pins s σ H Q I h;refine UnaryOp_ (thn (ha pins s σ H _ I h) λ v s1 ⟨x,H1,I1,r1,q1⟩=>?_);obtain⟨c,rfl,q1⟩:=q1;cases r1;exact not_of (z6l (nx0 (.bl (!c)) H1 I1 rfl q1))
def tIf (t:TT) (ta tb:TE):TE:=λ σ H Q=>t σ H λ c H1=>if c=true then ta σ H1 Q else tb σ H1 Q
theorem c3i (hc:PT X c tA) (ha:PE X a ta) (hb:PE X b tb):PE X (.IfExp c a b pos) (tIf tA ta tb):=by
 constructor;intro pins s σ H Q I h;refine wpAny_IfExp (thn (hc pins s σ H _ I h) λ d s1 ⟨H1,I1,q1⟩=>?_);cases d with
 | true=>exact ha pins s1 σ H1 Q I1 q1
 | false=>exact hb pins s1 σ H1 Q I1 q1
end
end L2
namespace L2
open PySem PySem.Spec PyProof.Rows
def SqL (K:W.Frag) (H:Hp) (a:Addr) (xs:List V):Prop :=
 Rd H a (.lst xs) \/
  ∃ (o:Obj) (its:Array Value) (n:Nat),K.lookup a=some o/\o.cls=.type "list"/\o.dict=none/\o.data=.seq its n/\its.size<=sizeLine/\a2e xs its.toList
def SqT (K:W.Frag) (H:Hp) (a:Addr) (xs:List V):Prop :=
 Rd H a (.tup xs) \/
  ∃ (o:Obj) (its:Array Value) (n:Nat),K.lookup a=some o/\o.cls=.type "tuple"/\o.data=.seq its n/\its.size<=sizeLine/\a2e xs its.toList
def e6n:Value->Option V
 | .none=>some .non
 | .bool b=>some (.bl b)
 | .int i _=>some (.int i)
 | .str x _=>some (.str x)
 | .bytes b _=>some (.byt b)
 | .float b _=>some (.flt b)
 | .ref a=>some (.ref a)
 | .type n=>some (.ty n)
 | _=>none
theorem a2d.abs (r:a2d x u):e6n u=some x:=by
 cases x with
 | non=>cases r;rfl
 | bl _=>cases r;rfl
 | int _=>obtain⟨t,rfl⟩:=r;rfl
 | str _=>obtain⟨t,rfl⟩:=r;rfl
 | byt _=>obtain⟨t,rfl⟩:=r;rfl
 | flt _=>obtain⟨t,rfl⟩:=r;rfl
 | ref _=>cases r;rfl
 | ty _=>cases r;rfl
theorem a2d.inj (r:a2d x u) (q:a2d y u):x=y:=z0r (r.abs.symm.trans q.abs)
theorem a2e.inj:∀ {xs ys:List V} {us:List Value},a2e xs us->a2e ys us->xs=ys
 | _,_,_,.nil,.nil=>rfl
 | _,_,_,.cons r t,.cons r' t'=>by rw[r.inj r',a2e.inj t t']
section
variable {X:Cx} {pins:List (Addr×Obj)} {σ:St} {H:Hp} {s:Shared} {a:Addr} {xs ys:List V}
theorem SqL.of {K:W.Frag} (h:H a=some (.lst xs)):SqL K H a xs:=.inl (.inl h)
theorem SqT.of {K:W.Frag} (h:H a=some (.tup xs)):SqT K H a xs:=.inl (.inl h)
theorem Inv.list (I:Inv X pins σ H s) (h:SqL X.K H a xs):∃ its:List Value,a2e xs its/\PlainL s.heap a its.toArray/\xs.length<=sizeLine:=by
 rcases h with h | ⟨o,its,n,hk,hc,hd,hs,hz,r⟩
 ·obtain⟨z,its,n,r,e⟩:=h.ok I.hok;exact⟨its,r,nx8 _ n e rfl rfl rfl,z⟩
 ·refine⟨its.toList,r,nx8 o n (I.kIn a o hk) hc hd (by simpa using hs),?_⟩;have e:=r.length;simp only [z0q] at e;lia
theorem Inv.tuple (I:Inv X pins σ H s) (h:SqT X.K H a xs):∃ its:List Value,a2e xs its/\IsTup s.heap a its.toArray/\xs.length<=sizeLine:=by
 rcases h with h | ⟨o,its,n,hk,hc,hs,hz,r⟩
 ·obtain⟨z,its,r,p⟩:=h.ok I.hok;exact⟨its,r,p,z⟩
 ·refine⟨its.toList,r,nx13 o (I.kIn a o hk) hc n (by simpa using hs),?_⟩;have e:=r.length;simp only [z0q] at e;lia
theorem Inv.list_inj (I:Inv X pins σ H s) (h:SqL X.K H a xs) (h':SqL X.K H a ys):xs=ys:=by
 obtain⟨its,r,⟨o,n,e,_,_,d⟩,_⟩:=I.list h;obtain⟨its',r',⟨o',n',e',_,_,d'⟩,_⟩:=I.list h';rw[e] at e';cases e';rw[d] at d';injection d' with d1 _;have:its=its':=by simpa using z0b Array.toList d1
 subst this;exact r.inj r'
end
abbrev Cx.wish (X:Cx) (E:Value->Shared->Prop):Cx:={X with xe:=E}
abbrev Cx.nox (X:Cx):Cx:=X.wish λ _ _=>False
theorem Cx.Ok.wish {X:Cx} (ok:X.Ok) (E:Value->Shared->Prop):(X.wish E).Ok :=
 ⟨ok.mod,ok.kind,ok.glob,ok.blt,ok.above,ok.inj,ok.has,ok.cab,ok.hd,ok.frames,ok.stk,ok.exf,ok.bs,ok.bsz,ok.noex,ok.exfs,ok.funs,ok.frf⟩
theorem Cx.Ok.unwish {X:Cx} (ok:(X.wish E).Ok):X.Ok :=
 ⟨ok.mod,ok.kind,ok.glob,ok.blt,ok.above,ok.inj,ok.has,ok.cab,ok.hd,ok.frames,ok.stk,ok.exf,ok.bs,ok.bsz,ok.noex,ok.exfs,ok.funs,ok.frf⟩
section
variable {X:Cx} {pins:List (Addr×Obj)} {σ:St} {H:Hp} {s:Shared} {E:Value->Shared->Prop}
theorem Inv.wish (I:Inv X pins σ H s) (E:Value->Shared->Prop):Inv (X.wish E) pins σ H s:=⟨I.ok.wish E,I.os,I.bare,I.base,I.loc,I.cell,I.free,I.freeC,I.pin,I.hok,I.len⟩
theorem Inv.unwish (I:Inv (X.wish E) pins σ H s):Inv X pins σ H s:=⟨I.ok.unwish,I.os,I.bare,I.base,I.loc,I.cell,I.free,I.freeC,I.pin,I.hok,I.len⟩
theorem SP.unwish (h:SP (X.wish E) pins D f s'):SP X pins D f s':=by
 cases f with
 | next=>obtain⟨σ',H',I,q⟩:=h;exact nx9 σ' H' I.unwish q
 | brk=>obtain⟨σ',H',I,q⟩:=h;exact nx9 σ' H' I.unwish q
 | cont=>obtain⟨σ',H',I,q⟩:=h;exact nx9 σ' H' I.unwish q
 | ret u=>obtain⟨v,σ',H',I,r,q⟩:=h;exact nx21 v σ' H' I.unwish r q
theorem PE.nox (h:PE X.nox e t):PE X e t:=⟨λ pins s σ H Q I hw =>
 z1b (h pins s σ H Q (I.wish _) hw) (λ _ _ ⟨v,H',I',r,q⟩=> nx0 v H' I'.unwish r q) λ _ _ z=>False.elim z⟩
theorem PT.nox (h:PT X.nox e t):PT X e t:=⟨λ pins s σ H Q I hw =>
 z1b (h pins s σ H Q (I.wish _) hw) (λ _ _ ⟨H',I',q⟩=>⟨H',I'.unwish,q⟩) λ _ _ z=>False.elim z⟩
theorem PSs.nox {st:List Stmt} (h:PSs X.nox st t):PSs X st t:=⟨λ pins s σ H D I hw =>
 z1b (h pins s σ H D (I.wish _) hw) (λ _ _ q=>q.unwish) λ _ _ z=>False.elim z⟩
end
section
variable {X:Cx} {st:Stmt} {b6e:List Stmt} {t u:TS} {e:Expr} {te:TE} {pos:Pos}
def e5e:TS:=λ D σ H=>D.nx σ H
def a1h (t u:TS):TS:=λ D σ H=>t {D with nx:=u D} σ H
theorem a0u:PSs X [] e5e:=⟨λ _ _ σ H _ I h=>wpAny_execs_nil (nx9 σ H I h)⟩
theorem a0e (h1:PS X st t) (h2:PSs X b6e u):PSs X (st::b6e) (a1h t u):=by
 constructor;intro pins s σ H D I h;refine wpAny_execs_cons (thn (h1 pins s σ H {D with nx:=u D} I h) λ f s1 q=>?_);cases f with
 | next =>
  obtain⟨σ',H',I',q⟩:=q;exact h2 pins s1 σ' H' D I' q
 | ret v=>exact q
 | brk=>exact q
 | cont=>exact q
theorem a0f (h1:PS X st t):PSs X [st] t:=by
 constructor;intro pins s σ H D I h;refine wpAny_execs_cons (thn (h1 pins s σ H D I h) λ f s1 q=>?_);cases f with
 | next=>exact wpAny_execs_nil q
 | ret v=>exact q
 | brk=>exact q
 | cont=>exact q
theorem Inv.quiet {σ:St} (I:Inv X pins σ H s):interactive X.env=false:=by simp[interactive,I.ok.kind]
def e0z (te:TE):TS:=λ D σ H=>te σ H λ _ H1=>D.nx σ H1
theorem a1u (he:PE X e te) (hs:swapsWith e none pos.line X.env=pure false:=by rfl):PS X (.Expr e pos) (e0z te):=by
 constructor;intro pins s σ H D I h;exact wpAny_Expr_any (thn (he pins s σ H _ I h) λ v s1 ⟨x,H1,I1,r1,q1⟩=> nx9 σ H1 I1 q1) I.quiet hs
def e6b (te:TE):TS:=λ D σ H=>te σ H D.rt
theorem a0k (he:PE X e te):PS X (.Return (some e) pos) (e6b te):=by
 constructor;intro pins s σ H D I h;exact wpAny_Return_some (thn (he pins s σ H _ I h) λ v s1 ⟨x,H1,I1,r1,q1⟩=> nx21 x σ H1 I1 r1 q1)
def a5p (c:TT) (t u:TS):TS:=λ D σ H=>c σ H λ b H1=>if b=true then t D σ H1 else u D σ H1
theorem a2b (hc:PT X c tc) (ha:PSs X a t) (hb:PSs X b u):PS X (.If c a b pos) (a5p tc t u):=by
 constructor;intro pins s σ H D I h;refine wpAny_If (thn (hc pins s σ H _ I h) λ d s1 ⟨H1,I1,q1⟩=>?_);cases d with
 | true=>exact ha pins s1 σ H1 D I1 q1
 | false=>exact hb pins s1 σ H1 D I1 q1
def tNever:TS:=λ _ _ _=>False
theorem d2l:PS X st tNever:=⟨λ _ _ _ _ _ _ h=>h.elim⟩
end
abbrev TG:=V->St->Hp->(St->Hp->Prop)->Prop
abbrev TGs:=List V->St->Hp->(St->Hp->Prop)->Prop
structure PG (X:Cx) (target:Expr) (t:TG):Prop where
 run:∀ (pins:List (Addr×Obj)) (s:Shared) (σ:St) (H:Hp) (v:V) (u:Value) (Q:St->Hp->Prop),Inv X pins σ H s->a2d v u->t v σ H Q ->
  wpAny (model X.prog X.w) X.A (assign target X.env u) (λ _ s'=>∃ σ' H',Inv X pins σ' H' s'/\Q σ' H') X.xe s
instance {X:Cx} {target:Expr} {t:TG}:CoeFun (PG X target t) λ _=>∀ (pins:List (Addr×Obj)) (s:Shared) (σ:St) (H:Hp) (v:V) (u:Value) (Q:St->Hp->Prop),Inv X pins σ H s->a2d v u->t v σ H Q ->
  wpAny (model X.prog X.w) X.A (assign target X.env u) (λ _ s'=>∃ σ' H',Inv X pins σ' H' s'/\Q σ' H') X.xe s:=⟨PG.run⟩
structure PGs (X:Cx) (ts:List Expr) (t:TGs):Prop where
 run:∀ (pins:List (Addr×Obj)) (s:Shared) (σ:St) (H:Hp) (vs:List V) (us:List Value) (Q:St->Hp->Prop),Inv X pins σ H s->a2e vs us->t vs σ H Q ->
  wpAny (model X.prog X.w) X.A (assignInOrder ((assignEach ts X.env).map (·.2)) us) (λ _ s'=>∃ σ' H',Inv X pins σ' H' s'/\Q σ' H') X.xe s
instance {X:Cx} {ts:List Expr} {t:TGs}:CoeFun (PGs X ts t) λ _=>∀ (pins:List (Addr×Obj)) (s:Shared) (σ:St) (H:Hp) (vs:List V) (us:List Value) (Q:St->Hp->Prop),Inv X pins σ H s->a2e vs us->t vs σ H Q ->
  wpAny (model X.prog X.w) X.A (assignInOrder ((assignEach ts X.env).map (·.2)) us) (λ _ s'=>∃ σ' H',Inv X pins σ' H' s'/\Q σ' H') X.xe s:=⟨PGs.run⟩
abbrev e4u:=V->V->V->Hp->(Hp->Prop)->Prop
def e4c (X:Cx) (t:e4u):Prop :=
 ∀ (pins:List (Addr×Obj)) (s:Shared) (σ:St) (H:Hp) (o i v:V) (ov iv u:Value) (Q:Hp->Prop),Inv X pins σ H s->a2d o ov->a2d i iv->a2d v u->t o i v H Q ->
  wpAny (model X.prog X.w) X.A (setItem ov iv u) (λ _ s'=>∃ H',Inv X pins σ H' s'/\Q H') X.xe s
section
variable {X:Cx} {pos:Pos}
def d0e (i:Nat):TG:=λ v σ H Q=>Q (σ.set i (some v)) H
theorem c7e (hN:X.N.Nodup) (hi:X.N[i]?=some x) (hx:Loc X.env.scope x) (hf:X.fn x=true\/X.env.scope.names.lookup x=some .local:=by first | exact .inl rfl | exact .inr rfl | assumption):PG X (.Name x pos) (d0e i):=by
 constructor;intro pins s σ H v u Q I r h;exact wpAny_assign_Name (c3h I hN hi hx r (λ s' I'=> nx9 _ H I' h) hf)
def e6p:TGs:=λ vs σ H Q=>vs=[]/\Q σ H
def e4r (t:TG) (u:TGs):TGs:=λ vs σ H Q=>∃ v r,vs=v::r/\t v σ H λ σ' H'=>u r σ' H' Q
theorem a3d:PGs X [] e6p:=by
 constructor;intro pins s σ H vs us Q I r h;obtain⟨e,h⟩:=h;subst e;exact assignInOrder_nil (nx9 σ H I h)
theorem a0o {e:Expr} {es:List Expr} {t:TG} {u:TGs} (h1:PG X e t) (h2:PGs X es u)
  (hs:(assignEach (e::es) X.env).map (·.2)=assign e X.env::(assignEach es X.env).map (·.2):=by rfl):PGs X (e::es) (e4r t u):=by
 constructor;intro pins s σ H vs us Q I r h;obtain⟨v,vr,e1,h⟩:=h;subst e1;cases r with
 | cons r rr =>
  rw[hs];refine assignInOrder_cons (thn (h1 pins s σ H _ _ _ I r h) λ _ s1 ⟨σ1,H1,I1,q1⟩=>?_);exact h2 pins s1 σ1 H1 _ _ Q I1 rr q1
def e6l (K:W.Frag) (n:Nat) (t:TGs):TG:=λ v σ H Q=>∃ a xs,v=.ref a/\SqT K H a xs/\xs.length=n/\t xs σ H Q
theorem a5n {es:List Expr} {k:Nat} {t:TGs} {n:Nat} (hc:X.calm=true) (h:PGs X es t)
  (hn:(assignEach es X.env).length=n:=by rfl) (hst:(assignEach es X.env).findIdx? (·.1)=none:=by rfl):PG X (.Tuple es k pos) (e6l X.K n t):=by
 constructor;intro pins s σ H v u Q I r hw;obtain⟨a,xs,e1,hq,hl,hw⟩:=hw;subst e1;cases r;obtain⟨its,rv,ht,hz⟩:=I.tuple hq;refine assign_Tuple_tuple (I.ok.hd hc) ht (by simp[hn,<-hl,rv.length]) hst λ h' hx=>?_
 have I1:=I.kept (t':=s.toks) λ b o e=>hx b o (z0k (z0g e)) e
 exact h pins _ σ H xs _ Q I1 (by simpa using rv) hw
def e6r (to ti:TE) (t:e4u):TG:=λ v σ H Q=>to σ H λ o H1=>ti σ H1 λ i H2=>t o i v H2 λ H3=>Q σ H3
theorem c7q {o i:Expr} {to ti:TE} {t:e4u} (ho:PE X o to) (hi:PE X i ti) (hs:e4c X t)
  (ha:∀ v,assign (.Subscript o i pos) X.env v=(do
   let ov <- holding [v] (eval o X.env)
   let iv <- holding [v,ov] (eval i X.env)
   standAt pos
   holding [v,ov,iv] (setItem ov iv v)
   release [v,ov,iv] []):=by intro _;rfl):PG X (.Subscript o i pos) (e6r to ti t):=by
 constructor;intro pins s σ H v u Q I r h;rw[ha];refine z00 (z1n (thn (ho pins s σ H _ I h) λ ov s1 ⟨x,H1,I1,r1,q1⟩=>?_));refine z00 (z1n (thn (hi pins s1 σ H1 _ I1 q1) λ iv s2 ⟨y,H2,I2,r2,q2⟩=>?_));refine z00 (wpAny_standAt (z00 (z1n (thn (hs pins s2 σ H2 x y v ov iv u _ I2 r1 r2 r q2) λ _ s3 ⟨H3,I3,q3⟩=>?_))));exact wpAny_release (nx9 σ H3 I3 q3)
def e5w (te:TE) (g:TG):TS:=λ D σ H=>te σ H λ x H1=>g x σ H1 D.nx
theorem b7t {tg e:Expr} {te:TE} {g:TG} (he:PE X e te) (hg:PG X tg g) (hs:swapsWithSole [tg] e pos.line X.env=pure false:=by rfl) (hw:swappedStores [tg] e X.env=pure none:=by rfl)
  (h1:(assignEach [tg] X.env).map (·.2)=[assign tg X.env]:=by rfl):PS X (.Assign [tg] e pos) (e5w te g):=by
 constructor;intro pins s σ H D I h;refine wpAny_Assign_stores (thn (he pins s σ H _ I h) λ v s1 ⟨x,H1,I1,r1,q1⟩=>?_) hs hw;rw[h1];exact thn (hg pins s1 σ H1 x v _ I1 r1 q1) λ _ s2 q=>q
theorem e2z (hN:X.N.Nodup) (hi:X.N[i]?=some x) (hx:Loc X.env.scope x) (he:PE X e te) (hs:swapsWith e (some (.Name x pos')) pos.line X.env=pure false:=by rfl) (hf:X.fn x=true\/X.env.scope.names.lookup x=some .local:=by first | exact .inl rfl | exact .inr rfl | assumption) :
  PS X (.Assign [.Name x pos'] e pos) (e5w te (d0e i)):=by
 constructor;intro pins s σ H D I h;refine wpAny_Assign_Name (thn (he pins s σ H _ I h) λ v s1 ⟨y,H1,I1,r1,q1⟩=>?_) hs;exact c3h I1 hN hi hx r1 (λ s2 I2=> nx9 _ H1 I2 q1) hf
end
structure It where
 go:Nat->Hp->Prop
 yld:Nat->Hp->V->Hp->Prop
 stop:Nat->Hp->Prop
def c3d (X:Cx) (pins:List (Addr×Obj)) (H:Hp) (b:Addr):Prop :=
 H b=none/\b≠X.env.locals/\b ∉ X.fs/\(b∈X.ex\/X.s₀.heap.objs.size<=b)/\(∀ x c,X.env.cells.lookup x=some c->c≠b)/\∀ p∈X.pn++pins,p.1≠b
theorem Inv.fpOk {σ:St} {b:Addr} (I:Inv X pins σ H s) (hb:s.heap.objs.size<=b) (hn:H' b=none):c3d X pins H' b:=by
 refine⟨hn,z4u (z1l I.lt hb),I.nofs hb,.inr (z0s I.sz hb),λ x c e z=>?_,λ p hp z=>?_⟩
 ·obtain⟨v,q⟩:=I.cell x c e;exact absurd (z1l q.lt (by rw[z];exact hb)) (z5b _)
 ·exact absurd (z1l (z0g (I.pin p hp).1) (by rw[z];exact hb)) (z5b _)
structure d6t (P:Program) (w:World) (K:W.Frag) (tg:Expr) (J:It) (fp:List Addr) (it:Addr) (tn:Nat->Heap->Prop):Prop where
 mem:it∈fp
 obj:∀ i h,tn i h->∀ b∈fp,∃ o,h.get? b=some o/\∀ v,o.data≠.cell v
 keep:∀ i h h',tn i h->(∀ b∈fp,∀ o,h.get? b=some o->h'.get? b=some o)->tn i h'
 item:∀ (X:Cx),X.prog=P->X.w=w->X.K=K->X.calm=true->∀ (i:Nat) (pins:List (Addr×Obj)) (s:Shared) (σ:St) (H:Hp) (E:Value->Shared->Prop),Inv X pins σ H s->(∀ b∈fp,c3d X pins H b)->tn i s.heap->J.go i H ->
  wpAny (model P w) X.A (pyNext (.ref it)) (λ r s1=>∃ u,r=some u /\
   wpAny (model P w) X.A (letOwnedTupleGo tg (.ref it) u) (λ _ s2=>∃ x H',Inv X pins σ H' s2/\a2d x u/\J.yld i H x H'/\tn (i+1) s2.heap/\∀ b∈fp,H' b=none) E s1) E s
 done:∀ (X:Cx),X.prog=P->X.w=w->X.K=K->X.calm=true->∀ (i:Nat) (pins:List (Addr×Obj)) (s:Shared) (σ:St) (H:Hp) (E:Value->Shared->Prop),Inv X pins σ H s->(∀ b∈fp,c3d X pins H b)->tn i s.heap->J.stop i H ->
  wpAny (model P w) X.A (pyNext (.ref it)) (λ r s1=>r=none/\Inv X pins σ H s1) E s
 self:∀ (A:Around) (i:Nat) (s:Shared) (Q:Value->Shared->Prop) (E:Value->Shared->Prop),tn i s.heap->Q (.ref it) s->wpAny (model P w) A (pyIter (.ref it)) Q E s
abbrev TI:=St->Hp->(It->Hp->Prop)->Prop
def PIE (X:Cx) (pins:List (Addr×Obj)) (σ:St) (tg:Expr) (R:It->Hp->Prop) (itv:Value) (s2:Shared):Prop :=
 ∃ (it:Addr) (fp:List Addr) (tn:Nat->Heap->Prop) (J:It) (H':Hp),itv=.ref it/\Inv X pins σ H' s2/\d6t X.prog X.w X.K tg J fp it tn/\tn 0 s2.heap/\(∀ b∈fp,c3d X pins H' b)/\R J H'
structure PI (X:Cx) (tg iter:Expr) (wi:TI):Prop where
 run:∀ (pins:List (Addr×Obj)) (s:Shared) (σ:St) (H:Hp) (R:It->Hp->Prop),Inv X pins σ H s->wi σ H R ->
  wpAny (model X.prog X.w) X.A (eval iter X.env) (λ v s1=>wpAny (model X.prog X.w) X.A (pyIter v) (PIE X pins σ tg R) X.xe s1) X.xe s
instance {X:Cx} {tg iter:Expr} {wi:TI}:CoeFun (PI X tg iter wi) λ _=>∀ (pins:List (Addr×Obj)) (s:Shared) (σ:St) (H:Hp) (R:It->Hp->Prop),Inv X pins σ H s->wi σ H R ->
  wpAny (model X.prog X.w) X.A (eval iter X.env) (λ v s1=>wpAny (model X.prog X.w) X.A (pyIter v) (PIE X pins σ tg R) X.xe s1) X.xe s:=⟨PI.run⟩
theorem d7m (ho:s.heap.get? it=some o) (hc:o.cls=.type n) (hd:o.data=.fields vs)
    (hn:["enumerate","zip","dict_itemiterator","dict_reverseitemiterator","odict_iterator","itertools.zip_longest","itertools.pairwise"].contains n=false) (hQ:Q () s):wpAny M A (letOwnedTupleGo tg (.ref it) u) Q E s:=by
  cases tg<;>first
    | exact z03 hQ
    | (cases u<;>first
        | exact z03 hQ
        | (refine z00 (wpAny_load ho ?_)
           rw[hc,hd];show wpAny M A (if (["enumerate","zip","dict_itemiterator","dict_reverseitemiterator","odict_iterator","itertools.zip_longest","itertools.pairwise"].contains n && vs[0]? == some (rawInt _))=true then _ else _) Q E s;rw[z01 (by intro h;rw[hn,Bool.false_and] at h;cases h)];exact z03 hQ))
def Itl (K:W.Frag) (a:Addr):It :=
 ⟨λ i H=>∃ xs x,SqL K H a xs/\xs[i]?=some x,λ i H x H'=>H'=H/\∀ xs,SqL K H a xs->xs[i]?=some x,λ i H=>∃ xs,SqL K H a xs/\xs.length<=i⟩
def Itt (K:W.Frag) (a:Addr):It :=
 ⟨λ i H=>∃ xs x,SqT K H a xs/\xs[i]?=some x,λ i H x H'=>H'=H/\∀ xs,SqT K H a xs->xs[i]?=some x,λ i H=>∃ xs,SqT K H a xs/\xs.length<=i⟩
def Itr (lo:Int) (n:Nat):It:=⟨λ i _=>i < n,λ i H x H'=>H'=H/\x=.int (lo+i),λ i _=>n<=i⟩
theorem c6u {K:W.Frag} (a it:Addr):d6t P w K tg (Itl K a) [it] it (λ i h=>h.IsListIter it a i) where
 mem:=by simp
 obj:=λ i h st b hb=>by
  have e:b=it:=by simpa using hb
  subst e;obtain⟨o,e,c,d⟩:=st;exact⟨o,e,λ v z=>by rw[d] at z;cases z⟩
 keep:=λ i h h' st k=>st.at λ o e=>k it (by simp) o e
 item:=by
  intro X hP hw hK hc i pins s σ H E I hf st hg;subst hP hw hK;obtain⟨xs,x,hq,hx⟩:=hg;obtain⟨its,rv,p,hz⟩:=I.list hq;obtain⟨u,hu,ru⟩:=rv.get hx;obtain⟨f0,f1,f2,f3,f4,f5⟩:=hf it (by simp);refine wpAny_pyNext_list_item st p.isList (by simpa using hu) λ h' st' sb=>?_
  have I1:=I.turned (t':=s.toks) (λ b o hb e=>(sb.2 b hb).trans e) f0 f1 f3 f4 f5;obtain⟨o,e,c,d⟩:=id st';exact⟨u,rfl,d7m e c d (by decide) (nx12 x H I1 ru ⟨rfl,λ ys hy=>by rw[I.list_inj hy hq];exact hx⟩ st' λ b hb=>(hf b hb).1)⟩
 done:=by
  intro X hP hw hK hc i pins s σ H E I hf st hg;subst hP hw hK;obtain⟨xs,hq,hx⟩:=hg;obtain⟨its,rv,p,hz⟩:=I.list hq;obtain⟨f0,f1,f2,f3,f4,f5⟩:=hf it (by simp);have hl:=rv.length;exact wpAny_pyNext_list_end (I.ok.hd hc) st p.isList (by simp;lia) λ h' eb=>⟨rfl,I.turned (λ b o hb e=>eb b o hb e) f0 f1 f3 f4 f5⟩
 self:=λ _ _ _ _ _ st h=>wpAny_pyIter_listiter st h
theorem c6h {K:PySem.W.Frag} (it:Addr) (lo:Int) (n:Nat):d6t P w K tg (Itr lo n) [it] it (λ i h=>IsRangeIter h it (lo+(i:Nat)*1) ((n:Int) - (i:Nat)) 1) where
 mem:=by simp
 obj:=λ i h st b hb=>by
  have e:b=it:=by simpa using hb
  subst e;exact⟨_,st,λ v z=>by
   have z':=z;cases z'⟩
 keep:=λ i h h' st k=>k it (by simp) _ st
 item:=by
  intro X hP hw hK hc i pins s σ H E I hf st hg;subst hP hw hK;obtain⟨f0,f1,f2,f3,f4,f5⟩:=hf it (by simp);have W:=Walks.range (prog:=X.prog) (w:=X.w) (I.ok.hd hc) it lo 1 n;refine W.item i s _ _ hg st λ v h' tk hv st' kk=>?_
  obtain⟨t,rfl⟩:=hv;have I1:Inv X pins σ H {s with heap:=h',toks:=tk}:=I.turned (λ b o hb e=>kk b o (by simpa using hb) e) f0 f1 f3 f4 f5;refine⟨_,rfl,d7m st' rfl rfl (by decide) (nx12 (.int (lo+i)) H I1 ⟨t,?_⟩ ⟨rfl,rfl⟩ st' λ b hb=>(hf b hb).1)⟩;rw[Int.mul_one]
 done:=by
  intro X hP hw hK hc i pins s σ H E I hf st hg;subst hP hw hK;obtain⟨f0,f1,f2,f3,f4,f5⟩:=hf it (by simp);exact wpAny_pyNext_range_end (I.ok.hd hc) st (by have:n<=i:=hg;lia) λ h' eb=>⟨rfl,I.turned (λ b o hb e=>eb b o hb e) f0 f1 f3 f4 f5⟩
 self:=λ _ _ _ _ _ st h=>wpAny_pyIter_rangeiter st h
end L2
namespace L2
open PySem PySem.Spec PyProof.Rows
section
variable {X:Cx} {tg:Expr}
def e5k (K:W.Frag) (tl:TE):TI:=λ σ H R=>tl σ H λ x H1=>∃ a,x=.ref a/\(∃ xs,SqL K H1 a xs)/\R (Itl K a) H1
theorem a1a (hl:PE X l tl):PI X tg l (e5k X.K tl):=by
 constructor;intro pins s σ H R I h;refine thn (hl pins s σ H _ I h) λ v s1 ⟨x,H1,I1,r1,q1⟩=>?_
 obtain⟨a,e,⟨xs,hq⟩,q⟩:=q1;subst e;cases r1;obtain⟨its,rv,p,hz⟩:=I1.list hq;refine z5f p.isList ?_;refine nx23 s1.heap.objs.size ([s1.heap.objs.size]) _ _ H1 rfl (I1.kept λ b o e=>z0e _ e) (c6u a _) ⟨_,z0t _ rfl,rfl,rfl⟩ ⟨λ b hb=>?_,q⟩;have e:b=s1.heap.objs.size:=by simpa using hb
 subst e;exact I1.fpOk (z05 _) (I1.hok.fresh (z05 _))
theorem c4b {σ:St} {lo hi:Int} (I:Inv X pins σ H s) (h1:-(2 ^ 62)<=lo) (h2:lo < 2 ^ 62) (h3:-(2 ^ 62)<=hi) (h4:hi < 2 ^ 62)
  (q:R (Itr lo (hi - lo).toNat) H):wpAny (model X.prog X.w) X.A (pyIter (.ref s.heap.objs.size)) (PIE X pins σ tg R) E {s with heap:=s.heap.push {cls:=.type "range",data:=.fields #[.int lo t,.int hi u,.int 1 v]},toks:=tk}:=by
 refine wpAny_pyIter_range (IsRange.new ..) (small_one h1 h2 h3 h4) ?_;have I1:Inv X pins σ H {s with heap:=s.heap.push {cls:=.type "range",data:=.fields #[.int lo t,.int hi u,.int 1 v]},toks:=tk}:=I.kept λ b o e=>z0e _ e
 refine⟨(s.heap.push {cls:=.type "range",data:=.fields #[.int lo t,.int hi u,.int 1 v]}).objs.size,[(s.heap.push {cls:=.type "range",data:=.fields #[.int lo t,.int hi u,.int 1 v]}).objs.size],_,_,H,rfl,
  I1.kept λ b o e=>z0e _ e,c6h _ lo (hi - lo).toNat,?_,λ b hb=>?_,q⟩
 ·have e1:lo+((0:Nat):Int)*1=lo:=by simp
  have e2:(((hi - lo).toNat:Nat):Int) - ((0:Nat):Int)=Builtin.Range.rangeSize lo hi 1:=by rw[rangeSize_one];split<;>lia
  rw[e1,e2];exact z0t _ rfl
 ·have e:b=(s.heap.push {cls:=.type "range",data:=.fields #[.int lo t,.int hi u,.int 1 v]}).objs.size:=by simpa using hb
  subst e;exact I1.fpOk (z05 _) (I1.hok.fresh (z05 _))
def e5x (ta:TA):TI:=λ σ H R=>ta σ H λ vs H1=>∃ j:Int,vs=[.int j]/\-(2 ^ 62)<=j/\j < 2 ^ 62/\R (Itr 0 j.toNat) H1
def e4a (ta:TA):TI:=λ σ H R=>ta σ H λ vs H1=>∃ i j:Int,vs=[.int i,.int j]/\(-(2 ^ 62)<=i/\i < 2 ^ 62/\-(2 ^ 62)<=j/\j < 2 ^ 62)/\R (Itr i (j - i).toNat) H1
theorem a2m (hg:Gl X "range") (hm:X.mg "range"=none) (ha:PA X [a] ta) (hs:starEach [a] X.env=[(false,eval a X.env)]:=by rfl):PI X tg (.Call (.Name "range" p) [a] [] pos) (e5x ta):=by
 constructor;intro pins s σ H R I h;refine Call_ (a7w I hg hm boot_range (z5c (thn (ha pos pins s σ H _ I h) λ us s1 ⟨vs,H1,I1,r1,q1⟩=>?_) hs rfl));obtain⟨j,e,q1,q2,q⟩:=q1;subst e;cases r1 with
 | cons r rr =>
  cases rr;obtain⟨t,rfl⟩:=r;exact call_range_1 (c4b I1 (by lia) (by lia) q1 q2 (by simpa using q))
theorem c7y {p pos:Pos} (hg:Gl X "range") (hm:X.mg "range"=none) (ha:PA X [a,b] ta) (hs:starEach [a,b] X.env=[(false,eval a X.env),(false,eval b X.env)]:=by rfl) (hs2:starEach [b] X.env=[(false,eval b X.env)]:=by rfl) :
  PI X tg (.Call (.Name "range" p) [a,b] [] pos) (e4a ta):=by
 constructor;intro pins s σ H R I h;refine Call_ (a7w I hg hm boot_range (z5c (thn (ha pos pins s σ H _ I h) λ us s1 ⟨vs,H1,I1,r1,q1⟩=>?_) (by rw[hs,hs2]) (by rw[hs2];rfl)));obtain⟨i,j,e,⟨q1,q2,q3,q4⟩,q⟩:=q1;subst e;cases r1 with
 | cons r rr =>
  cases rr with
  | cons r' rr =>
   cases rr;obtain⟨t,rfl⟩:=r;obtain⟨t',rfl⟩:=r';exact call_range_2 (c4b I1 q1 q2 q3 q4 q)
def b0o (wi:TI) (g:TG) (tb:TS):TS:=λ D σ H=>wi σ H λ J H1=>∃ W:Nat->Nat->St->Hp->Prop,(∃ m,W 0 m σ H1)/\∀ i m σ H,W i m σ H ->
 (J.stop i H/\D.nx σ H)\/(J.go i H/\∃ N:St->Hp->Prop,(∀ σ' H',N σ' H'->∃ m',m' < m/\W (i+1) m' σ' H')/\∀ x H',J.yld i H x H'->g x σ H' λ σ2 H2=>tb {D with nx:=N,ct:=N,bk:=D.nx} σ2 H2)
def b8z (fp:List Addr) (h:Heap):List (Addr×Obj):=fp.filterMap λ b=>(h.get? b).map λ o=>(b,o)
theorem a7a (hb:b∈fp) (e:h.get? b=some o):(b,o)∈b8z fp h:=z5w.mpr ⟨b,hb,by rw[e];rfl⟩
theorem c9a (hp:p∈b8z fp h):p.1∈fp/\h.get? p.1=some p.2:=by
 obtain⟨b,hb,e⟩:=z5w.mp hp;cases q:h.get? b with
 | none=>rw[q] at e;cases e
 | some o =>
  rw[q] at e;have e':=z0r e;subst e';exact⟨hb,q⟩
theorem Inv.pinned {σ:St} (I:Inv X pins σ H s) (hf:∀ b∈fp,c3d X pins H b) (ho:∀ b∈fp,∃ o,s.heap.get? b=some o/\∀ v,o.data≠.cell v):Inv X (pins++b8z fp s.heap) σ H s :=
 I.pins_of λ p hp=>(z0f.mp hp).elim (λ z=>I.pin p (z1e _ z)) λ z=>by
  obtain⟨hb,e⟩:=c9a z;obtain⟨f0,f1,f2,_⟩:=hf p.1 hb;obtain⟨o,e',d⟩:=ho p.1 hb;rw[e] at e';cases e';exact⟨e,f0,f1,f2,d⟩
theorem Inv.unpinned {σ:St} (I:Inv X (pins++pl) σ H s):Inv X pins σ H s:=I.pins_of λ p hp=>I.pin p (z1e _ (z1x _ hp))
theorem a1w (hp:PassesOwn (model X.prog X.w) X.A X.env X.xe) (hc:X.calm=true) (hi:PI X tg iter wi) (hg:PG X tg g) (hb:PSs X body tb)
  (hs:∀ x,foldedSetIterable iter X.env x=pure x:=by intro _;rfl):PS X (.For tg iter body [] pos) (b0o wi g tb):=by
 constructor;intro pins s σ H D I h;refine wpAny_For (thn (hi pins s σ H _ I h) λ v s1 h1=>thn h1 λ itv s2 h2=>?_) hs;obtain⟨it,fp,tn,J,H2,e,I2,T,st2,f2,W,⟨m0,w0⟩,turn⟩:=h2;subst e;have stat:∀ {H':Hp},(∀ b∈fp,H' b=none)->∀ b∈fp,c3d X pins H' b:=λ hn b hb=>⟨hn b hb,(f2 b hb).2⟩
 refine codeAny_forLoop_any (λ n s'=>∃ i σ' H',Inv X pins σ' H' s'/\tn i s'.heap/\(∀ b∈fp,H' b=none)/\W i n σ' H') ?_ m0 (nx4 0 σ H2 I2 st2 (λ b hb=>(f2 b hb).1) w0);rintro n s3 ⟨i,σ3,H3,I3,st3,fr3,w3⟩;rcases turn i n σ3 H3 w3 with ⟨stop,qn⟩ | ⟨go,N,hN,step⟩
 ·refine z5n hp (thn (T.done X rfl rfl rfl hc i pins s3 σ3 H3 X.xe I3 (stat fr3) st3 stop) λ r s4 ⟨hr,I4⟩=>?_);subst hr;exact wpAny_execs_nil (nx9 σ3 H3 I4 qn)
 ·refine z5n hp (thn (T.item X rfl rfl rfl hc i pins s3 σ3 H3 X.xe I3 (stat fr3) st3 go) λ r s4 ⟨u,hr,h4⟩=>?_);subst hr;refine z5n hp (thn h4 λ _ s5 ⟨x,H5,I5,r5,y5,st5,fr5⟩=>?_);have I5':=I5.pinned (stat fr5) (T.obj _ _ st5);refine z5n hp (thn (hg _ s5 σ3 H5 x u _ I5' r5 (step x H5 y5)) λ _ s6 ⟨σ6,H6,I6,q6⟩=>?_);refine z5n hp (thn (hb _ s6 σ6 H6 _ I6 q6) λ f s7 q7=>?_);have again:∀ {σ7:St} {H7:Hp},Inv X (pins++b8z fp s5.heap) σ7 H7 s7->N σ7 H7->∃ m,m < n/\∃ i σ' H',Inv X pins σ' H' s7/\tn i s7.heap/\(∀ b∈fp,H' b=none)/\W i m σ' H':=λ {σ7 H7} I7 n7=>by
   obtain⟨m',hm,w7⟩:=hN σ7 H7 n7;refine nx11 m' hm (i+1) (nx8 σ7 H7 I7.unpinned (T.keep _ _ _ st5 λ b hb o e=>(I7.pin (b,o) (z1e _ (z1e _ (a7a hb e)))).1) (λ b hb=>?_) w7);obtain⟨o,e,d⟩:=T.obj _ _ st5 b hb;exact(I7.pin (b,o) (z1e _ (z1e _ (a7a hb e)))).2.1
  cases f with
  | next=>obtain⟨σ7,H7,I7,n7⟩:=q7;exact again I7 n7
  | cont=>obtain⟨σ7,H7,I7,n7⟩:=q7;exact again I7 n7
  | brk=>obtain⟨σ7,H7,I7,q7⟩:=q7;exact nx9 σ7 H7 I7.unpinned q7
  | ret v=>obtain⟨x7,σ7,H7,I7,r7,q7⟩:=q7;exact nx21 x7 σ7 H7 I7.unpinned r7 q7
end
theorem a2a {K:PySem.W.Frag} {g:TG} {tb:TS} {D:c8l} (Pv:Nat->St->Hp->Prop) (h0:Pv 0 σ H) (hl:∀ i σ H,i<=xs.length->Pv i σ H->SqL K H a xs)
  (hs:∀ i x σ H,xs[i]?=some x->Pv i σ H->g x σ H λ σ2 H2=>tb {D with nx:=Pv (i+1),ct:=Pv (i+1),bk:=D.nx} σ2 H2) (hd:∀ σ H,Pv xs.length σ H->D.nx σ H) :
  ∃ W:Nat->Nat->St->Hp->Prop,(∃ m,W 0 m σ H)/\∀ i m σ H,W i m σ H ->
   ((Itl K a).stop i H/\D.nx σ H)\/((Itl K a).go i H/\∃ N:St->Hp->Prop,(∀ σ' H',N σ' H'->∃ m',m' < m/\W (i+1) m' σ' H')/\∀ x H',(Itl K a).yld i H x H'->g x σ H' λ σ2 H2=>tb {D with nx:=N,ct:=N,bk:=D.nx} σ2 H2):=by
 refine⟨λ i m σ H=>m=xs.length - i/\i<=xs.length/\Pv i σ H,⟨xs.length,by simp,z0m _,h0⟩,?_⟩;rintro i m σ H ⟨rfl,hi,p⟩;have q:=hl i σ H hi p;by_cases hlt:i < xs.length
 ·refine .inr ⟨nx9 xs (xs[i]) q (by simp[hlt]),Pv (i+1),λ σ' H' p'=>⟨xs.length - (i+1),by lia,rfl,hlt,p'⟩,λ x H' y=>?_⟩;obtain⟨e,y⟩:=y;subst e;exact hs i x σ _ (y xs q) p
 ·have e:i=xs.length:=by lia
  subst e;exact .inl ⟨⟨xs,q,z05 _⟩,hd σ H p⟩
theorem a4c {lo:Int} {g:TG} {tb:TS} {D:c8l} (Pv:Nat->St->Hp->Prop) (h0:Pv 0 σ H)
  (hs:∀ i σ H,i < n->Pv i σ H->g (.int (lo+i)) σ H λ σ2 H2=>tb {D with nx:=Pv (i+1),ct:=Pv (i+1),bk:=D.nx} σ2 H2) (hd:∀ σ H,Pv n σ H->D.nx σ H) :
  ∃ W:Nat->Nat->St->Hp->Prop,(∃ m,W 0 m σ H)/\∀ i m σ H,W i m σ H ->
   ((Itr lo n).stop i H/\D.nx σ H)\/((Itr lo n).go i H/\∃ N:St->Hp->Prop,(∀ σ' H',N σ' H'->∃ m',m' < m/\W (i+1) m' σ' H')/\∀ x H',(Itr lo n).yld i H x H'->g x σ H' λ σ2 H2=>tb {D with nx:=N,ct:=N,bk:=D.nx} σ2 H2):=by
 refine⟨λ i m σ H=>m=n - i/\i<=n/\Pv i σ H,⟨n,by simp,z0m _,h0⟩,?_⟩;rintro i m σ H ⟨rfl,hi,p⟩;by_cases hlt:i < n
 ·refine .inr ⟨hlt,Pv (i+1),λ σ' H' p'=>⟨n - (i+1),by lia,rfl,hlt,p'⟩,λ x H' y=>?_⟩;obtain⟨e,y⟩:=y;subst e y;exact hs i σ _ hlt p
 ·have e:i=n:=by lia
  subst e;exact .inl ⟨z05 _,hd σ H p⟩
end L2
namespace L2
open PySem PySem.Spec PyProof.Rows
abbrev R2:=V->V->Hp->VK->Prop
def OpR (X:Cx) (f:Value->Value->Sem Value) (r:R2):Prop :=
 ∀ (pins:List (Addr×Obj)) (s:Shared) (σ:St) (H:Hp) (x y:V) (v u:Value) (Q:VK),Inv X pins σ H s->a2d x v->a2d y u->r x y H Q ->
  wpAny (model X.prog X.w) X.A (f v u) (EP X pins σ Q) X.xe s
def UnR (X:Cx) (f:Value->Sem Value) (r:V->Hp->VK->Prop):Prop :=
 ∀ (pins:List (Addr×Obj)) (s:Shared) (σ:St) (H:Hp) (x:V) (v:Value) (Q:VK),Inv X pins σ H s->a2d x v->r x H Q ->
  wpAny (model X.prog X.w) X.A (f v) (EP X pins σ Q) X.xe s
def b4l (X:Cx) (f:Value) (r:List V->Hp->VK->Prop):Prop :=
 ∀ (pins:List (Addr×Obj)) (s:Shared) (σ:St) (H:Hp) (xs:List V) (us:List Value) (Q:VK),Inv X pins σ H s->a2e xs us->r xs H Q ->
  wpAny (model X.prog X.w) X.A (call f us) (EP X pins σ Q) X.xe s
def tOp (r:R2) (ta tb:TE):TE:=λ σ H Q=>ta σ H λ x H1=>tb σ H1 λ y H2=>r x y H2 Q
def tUn (r:V->Hp->VK->Prop) (ta:TE):TE:=λ σ H Q=>ta σ H λ x H1=>r x H1 Q
def rI (C:Int->Int->Prop) (g:Int->Int->V):R2:=λ x y H Q=>∃ i j,x=.int i/\y=.int j/\C i j/\Q (g i j) H
def rI0 (g:Int->Int->V):R2:=λ x y H Q=>∃ i j,x=.int i/\y=.int j/\Q (g i j) H
def rU (g:Int->V):V->Hp->VK->Prop:=λ x H Q=>∃ i,x=.int i/\Q (g i) H
section
variable {X:Cx} {a b c:Expr} {ta tb tc:TE} {pos:Pos}
theorem e5i (ha:PE X a ta) (hb:PE X b tb) {σ:St} {R:V->V->Hp->Prop} (I:Inv X pins σ H s)
  (h:ta σ H λ x H1=>tb σ H1 λ y H2=>R x y H2) {f:Value->Value->Sem Value}
  (hf:∀ v u s2 x y H2,Inv X pins σ H2 s2->a2d x v->a2d y u->R x y H2->wpAny (model X.prog X.w) X.A (f v u) Q X.xe s2) :
  wpAny (model X.prog X.w) X.A (eval a X.env) (λ v s₁=>wpAny (model X.prog X.w) X.A (eval b X.env) (λ u s₂=>wpAny (model X.prog X.w) X.A (f v u) Q X.xe s₂) X.xe s₁) X.xe s:=by
 refine thn (ha pins s σ H _ I h) λ v s1 ⟨x,H1,I1,r1,q1⟩=>?_
 refine thn (hb pins s1 σ H1 _ I1 q1) λ u s2 ⟨y,H2,I2,r2,q2⟩=>?_
 exact hf v u s2 x y H2 I2 r1 r2 q2
theorem a0p (ho:OpR X (binaryOp op) r) (ha:PE X a ta) (hb:PE X b tb):PE X (.BinOp a op b pos) (tOp r ta tb):=by
 constructor;intro pins s σ H Q I h;exact wpAny_BinOp (e5i ha hb I h λ v u s2 x y H2 I2 rx ry q=>ho pins s2 σ H2 x y v u Q I2 rx ry q)
theorem d4c (ho:UnR X (unaryOp op) r) (ha:PE X a ta):PE X (.UnaryOp op a pos) (tUn r ta):=by
 constructor;intro pins s σ H Q I h;exact UnaryOp_ (thn (ha pins s σ H _ I h) λ v s1 ⟨x,H1,I1,r1,q1⟩=>ho pins s1 σ H1 x v Q I1 r1 q1)
theorem opI {g:Int->Int->Int}
  (rule:∀ (i j:Int) (t u:Tok) (s:Shared) (Q:Value->Shared->Prop) (E:Value->Shared->Prop),C i j->Q (.int (g i j) s.toks) {s with toks:=s.toks+1}->wpAny (model X.prog X.w) X.A (f (.int i t) (.int j u)) Q E s) :
  OpR X f (rI C λ i j=>.int (g i j)):=by
 intro pins s σ H x y v u Q I rx ry h;obtain⟨i,j,rfl,rfl,hc,q⟩:=h;obtain⟨t,rfl⟩:=rx;obtain⟨t',rfl⟩:=ry;exact rule i j t t' s _ _ hc (nx0 (.int (g i j)) H (I.tok _) ⟨_,rfl⟩ q)
theorem e5h {g:Int->Int->Int}
  (rule:∀ (i j:Int) (t u:Tok) (s:Shared) (Q:Value->Shared->Prop) (E:Value->Shared->Prop),Q (.int (g i j) s.toks) {s with toks:=s.toks+1}->wpAny (model X.prog X.w) X.A (f (.int i t) (.int j u)) Q E s) :
  OpR X f (rI0 λ i j=>.int (g i j)):=by
 intro pins s σ H x y v u Q I rx ry h;obtain⟨i,j,rfl,rfl,q⟩:=h;obtain⟨t,rfl⟩:=rx;obtain⟨t',rfl⟩:=ry;exact rule i j t t' s _ _ (nx0 (.int (g i j)) H (I.tok _) ⟨_,rfl⟩ q)
theorem e3z {g:Int->Int->Bool}
  (rule:∀ (i j:Int) (t u:Tok) (s:Shared) (Q:Value->Shared->Prop) (E:Value->Shared->Prop),Q (.bool (g i j)) s->wpAny (model X.prog X.w) X.A (f (.int i t) (.int j u)) Q E s) :
  OpR X f (rI0 λ i j=>.bl (g i j)):=by
 intro pins s σ H x y v u Q I rx ry h;obtain⟨i,j,rfl,rfl,q⟩:=h;obtain⟨t,rfl⟩:=rx;obtain⟨t',rfl⟩:=ry;exact rule i j t t' s _ _ (nx0 (.bl (g i j)) H I rfl q)
def e7h (i j:Int):Prop:=0 < j/\j < 1073741824
def e7c (i j:Int):Prop:=0<=j/\j<=1000000/\i.natAbs < 2 ^ 64
def e5g (i j:Int):Prop:=(-(2 ^ 64) < i/\i < 2 ^ 64)\/(-(2 ^ 64) < j/\j < 2 ^ 64)
theorem e5g.ok (h:e5g i j):IntMulOk i j:=by
 rcases h with ⟨h1,h2⟩ | ⟨h1,h2⟩
 ·exact .of_left (intBits_le_64 h1 h2)
 ·exact .of_right (intBits_le_64 h1 h2)
theorem c5b (k:Nat):(0:Int)<=2 ^ k:=by
 exact Int.natCast_nonneg _
theorem a3v:OpR X (binaryOp .Add) (rI0 λ i j=>.int (i+j)):=e5h λ _ _ _ _ _ _ _ q=>add_int q
theorem a6c:OpR X (binaryOp .Sub) (rI0 λ i j=>.int (i - j)):=e5h λ _ _ _ _ _ _ _ q=>sub_int q
theorem b5l:OpR X (binaryOp .Mult) (rI e5g λ i j=>.int (i*j)):=opI λ _ _ _ _ _ _ _ hc q=>mul_int q hc.ok
theorem a8c:OpR X (binaryOp .FloorDiv) (rI e7h λ i j=>.int (i / j)):=opI λ i j _ _ _ _ _ hc q=>by
 have h1:=hc.1;have h2:=hc.2;exact floordiv_int (by lia) (by rw[Int.fdiv_eq_ediv_of_nonneg i (by lia)];exact q) (.inl (PyProof.noPylong_small (by lia)))
theorem a1l:OpR X (binaryOp .Mod) (rI (λ _ j=>0 < j) λ i j=>.int (i%j)):=opI λ i j _ _ _ _ _ hc q=>by
 exact mod_int' (by lia) (by rw[Int.fmod_eq_emod_of_nonneg i (by lia)];exact q)
theorem c9n:OpR X (binaryOp .Pow) (rI e7c λ i j=>.int (i ^ j.toNat)):=opI λ _ _ _ _ _ _ _ hc q=>pow_int_small hc.1 hc.2.1 hc.2.2 q
theorem c8h:OpR X (binaryOp .RShift) (rI (λ _ j=>0<=j) λ i j=>.int (i / 2 ^ j.toNat)):=opI λ i j _ _ _ _ _ hc q =>
 rshift_int hc (by rw[Int.fdiv_eq_ediv_of_nonneg i (c5b _)];exact q)
theorem c7p:OpR X (binaryOp .BitAnd) (rI0 λ i j=>.int (Builtin.bitAnd i j)):=e5h λ _ _ _ _ _ _ _ q=>and_int q
theorem unI {g:Int->Int}
  (rule:∀ (i:Int) (t:Tok) (s:Shared) (Q:Value->Shared->Prop) (E:Value->Shared->Prop),Q (.int (g i) s.toks) {s with toks:=s.toks+1}->wpAny (model X.prog X.w) X.A (f (.int i t)) Q E s) :
  UnR X f (rU λ i=>.int (g i)):=by
 intro pins s σ H x v Q I rx h;obtain⟨i,rfl,q⟩:=h;obtain⟨t,rfl⟩:=rx;exact rule i t s _ _ (nx0 (.int (g i)) H (I.tok _) ⟨_,rfl⟩ q)
theorem c3o:UnR X (unaryOp .USub) (rU λ i=>.int (-i)):=unI λ _ _ _ _ _ q=>neg_int q
end
def e6d:V->V->Bool
 | .non,.non=>true | .non,.int _=>true | .int _,.non=>true | .non,.bl _=>true | .bl _,.non=>true | .non,.str _=>true | .str _,.non=>true
 | .int _,.int _=>true | .bl _,.bl _=>true | .str _,.str _=>true | .byt _,.byt _=>true
 | .int _,.str _=>true | .str _,.int _=>true | .bl _,.str _=>true | .str _,.bl _=>true
 | _,_=>false
def rEq:R2:=λ x y H Q=>e6d x y=true/\Q (.bl (decide (x=y))) H
def rNe:R2:=λ x y H Q=>e6d x y=true/\Q (.bl (!decide (x=y))) H
theorem d0s:decide (V.int i=V.int j)=(i == j):=by
 rw[z3p];simp
theorem d5r:decide (V.bl i=V.bl j)=(i == j):=by
 rw[z3p];simp
theorem d0h:decide (V.str i=V.str j)=(i == j):=by
 rw[z3p];simp
theorem c9r:decide (V.byt i=V.byt j)=(i.toList == j.toList):=by
 rw[z3p];cases i;cases j;simp
section
variable {X:Cx} {a b c:Expr} {ta tb tc:TE} {pos:Pos}
theorem a1m {σ:St} (I:Inv X pins σ H s) (q:Q (.bl k) H) (e:k=k'):EP X pins σ Q (.bool k') s:=by
 subst e;exact nx0 (.bl k) H I rfl q
theorem a4f:OpR X (compareOp .Eq) rEq:=by
 intro pins s σ H x y v u Q I rx ry h;obtain⟨hs,q⟩:=h;cases x with
 | non =>
  cases rx;cases y with
  | non=>cases ry;exact PySem.EqNone.eq_none_none (a1m I q (by simp))
  | bl j=>cases ry;exact PySem.EqNone.eq_none_bool (a1m I q (by simp))
  | int j=>obtain⟨t',rfl⟩:=ry;exact PySem.EqNone.eq_none_int (a1m I q (by simp))
  | str j=>obtain⟨t',rfl⟩:=ry;exact PySem.EqNone.eq_none_str (a1m I q (by simp))
  | _=>exact absurd (hs) z1k
 | bl i =>
  cases rx;cases y with
  | non=>cases ry;exact PySem.EqNone.eq_bool_none (a1m I q (by simp))
  | bl j=>cases ry;exact eq_bool (a1m I q d5r)
  | str j=>obtain⟨t',rfl⟩:=ry;exact PySem.EqMixed.eq_bool_str (a1m I q (by simp))
  | _=>exact absurd (show false=true from hs) z1k
 | int i =>
  obtain⟨t,rfl⟩:=rx;cases y with
  | non=>cases ry;exact PySem.EqNone.eq_int_none (a1m I q (by simp))
  | int j=>obtain⟨t',rfl⟩:=ry;exact eq_int (a1m I q d0s)
  | str j=>obtain⟨t',rfl⟩:=ry;exact PySem.EqMixed.eq_int_str (a1m I q (by simp))
  | _=>exact absurd (show false=true from hs) z1k
 | str i =>
  obtain⟨t,rfl⟩:=rx;cases y with
  | non=>cases ry;exact PySem.EqNone.eq_str_none (a1m I q (by simp))
  | bl j=>cases ry;exact PySem.EqMixed.eq_str_bool (a1m I q (by simp))
  | int j=>obtain⟨t',rfl⟩:=ry;exact PySem.EqMixed.eq_str_int (a1m I q (by simp))
  | str j=>obtain⟨t',rfl⟩:=ry;exact eq_str (a1m I q d0h)
  | _=>exact absurd (show false=true from hs) z1k
 | byt i =>
  obtain⟨t,rfl⟩:=rx;cases y with
  | byt j=>obtain⟨t',rfl⟩:=ry;exact W.eq_bytes (a1m I q c9r)
  | _=>exact absurd (show false=true from hs) z1k
 | _=>cases y<;>exact absurd (show false=true from hs) z1k
theorem b4i:OpR X (compareOp .NotEq) rNe:=by
 intro pins s σ H x y v u Q I rx ry h;obtain⟨hs,q⟩:=h;cases x with
 | non =>
  cases rx;cases y with
  | non=>cases ry;exact PySem.EqNone.ne_none_none (a1m I q (by simp))
  | bl j=>cases ry;exact PySem.EqNone.ne_none_bool (a1m I q (by simp))
  | int j=>obtain⟨t',rfl⟩:=ry;exact PySem.EqNone.ne_none_int (a1m I q (by simp))
  | str j=>obtain⟨t',rfl⟩:=ry;exact PySem.EqNone.ne_none_str (a1m I q (by simp))
  | _=>exact absurd (hs) z1k
 | bl i =>
  cases rx;cases y with
  | non=>cases ry;exact PySem.EqNone.ne_bool_none (a1m I q (by simp))
  | bl j=>cases ry;exact ne_bool (a1m I q (z0b not d5r))
  | str j=>obtain⟨t',rfl⟩:=ry;exact PySem.EqMixed.ne_bool_str (a1m I q (by simp))
  | _=>exact absurd (show false=true from hs) z1k
 | int i =>
  obtain⟨t,rfl⟩:=rx;cases y with
  | non=>cases ry;exact PySem.EqNone.ne_int_none (a1m I q (by simp))
  | int j=>obtain⟨t',rfl⟩:=ry;exact ne_int (a1m I q (z0b not d0s))
  | str j=>obtain⟨t',rfl⟩:=ry;exact PySem.EqMixed.ne_int_str (a1m I q (by simp))
  | _=>exact absurd (show false=true from hs) z1k
 | str i =>
  obtain⟨t,rfl⟩:=rx;cases y with
  | non=>cases ry;exact PySem.EqNone.ne_str_none (a1m I q (by simp))
  | bl j=>cases ry;exact PySem.EqMixed.ne_str_bool (a1m I q (by simp))
  | int j=>obtain⟨t',rfl⟩:=ry;exact PySem.EqMixed.ne_str_int (a1m I q (by simp))
  | str j=>obtain⟨t',rfl⟩:=ry;exact ne_str (a1m I q (z0b not d0h))
  | _=>exact absurd (show false=true from hs) z1k
 | byt i =>
  obtain⟨t,rfl⟩:=rx;cases y with
  | byt j=>obtain⟨t',rfl⟩:=ry;exact W.ne_bytes (a1m I q (z0b not c9r))
  | _=>exact absurd (show false=true from hs) z1k
 | _=>cases y<;>exact absurd (show false=true from hs) z1k
theorem c8o:OpR X (compareOp .Lt) (rI0 λ i j=>.bl (decide (i < j))):=e3z λ _ _ _ _ _ _ _ q=>lt_int q
theorem e4h:OpR X (compareOp .LtE) (rI0 λ i j=>.bl (decide (i<=j))):=e3z λ _ _ _ _ _ _ _ q=>le_int q
theorem e3p:OpR X (compareOp .Gt) (rI0 λ i j=>.bl (decide (j < i))):=e3z λ _ _ _ _ _ _ _ q=>gt_int q
theorem e5l:OpR X (compareOp .GtE) (rI0 λ i j=>.bl (decide (j<=i))):=e3z λ _ _ _ _ _ _ _ q=>ge_int q
theorem c3j:OpR X (compareOp .Is) (λ x y H Q=>y=.non/\Q (.bl (decide (x=.non))) H):=by
 intro pins s σ H x y v u Q I rx ry h;obtain⟨rfl,q⟩:=h;cases ry;refine is_none_gen (a1m I q ?_);cases x<;>first
  | (cases rx;rfl)
  | (obtain⟨t,rfl⟩:=rx;rfl)
theorem a8n:OpR X (compareOp .IsNot) (λ x y H Q=>y=.non/\Q (.bl (!decide (x=.non))) H):=by
 intro pins s σ H x y v u Q I rx ry h;obtain⟨rfl,q⟩:=h;cases ry;refine isnot_none_gen (a1m I q ?_);cases x<;>first
  | (cases rx;rfl)
  | (obtain⟨t,rfl⟩:=rx;rfl)
theorem a0n (b:Expr) (h:op≠.In:=by decide) (h2:op≠.NotIn:=by decide):behindInMarks op b=false:=by
 have e1:(op == CmpOp.In)=false:=by cases op<;>first | rfl | exact absurd rfl h
 have e2:(op == CmpOp.NotIn)=false:=by cases op<;>first | rfl | exact absurd rfl h2
 cases b<;>simp[behindInMarks,e1,e2]
theorem b3o (ho:OpR X (compareOp op) r) (ha:PE X a ta) (hb:PE X b tb) (hm:behindInMarks op b=false):PE X (.Compare a [op] [b] pos) (tOp r ta tb):=by
 constructor;intro pins s σ H Q I h;exact wpAny_Compare1 (e5i ha hb I h λ v u s2 x y H2 I2 rx ry q=>ho pins s2 σ H2 x y v u Q I2 rx ry q) hm
def e2o (t:TE):TT:=λ σ H Q=>t σ H λ x H'=>∃ k,x=.bl k/\Q k H'
theorem a0j (ho:OpR X (compareOp op) r) (ha:PE X a ta) (hb:PE X b tb) (hm:behindInMarks op b=false):PT X (.Compare a [op] [b] pos) (e2o (tOp r ta tb)):=by
 constructor;intro pins s σ H Q I h;refine wpAny_isTrue_Compare1 (thn (ha pins s σ H _ I h) λ v s1 ⟨x,H1,I1,r1,q1⟩=>thn (hb pins s1 σ H1 _ I1 q1) λ u s2 ⟨y,H2,I2,r2,q2⟩ =>
  thn (ho pins s2 σ H2 x y v u _ I2 r1 r2 q2) λ c s3 ⟨z,H3,I3,r3,k,e,q3⟩=>?_) hm
 subst e;cases r3;exact z6l ⟨H3,I3,q3⟩
theorem c7z:(sizeLine:Nat) < 2 ^ 63:=by rw[sizeLine_eq];decide
theorem b3r (r:a2e [x] us):∃ u,us=[u]/\a2d x u:=by
 cases r with
 | cons r1 r2=>cases r2;exact⟨_,rfl,r1⟩
theorem d0g (r:a2e [x,y] us):∃ u w',us=[u,w']/\a2d x u/\a2d y w':=by
 cases r with
 | cons r1 r2 =>
  cases r2 with
  | cons r3 r4=>cases r4;exact nx0 _ _ rfl r1 r3
def e6h (K:W.Frag) (x:V) (H:Hp) (n:Nat):Prop :=
 match x with
 | .str y=>y.length<=sizeLine/\n=y.length
 | .byt y=>y.size<=sizeLine/\n=y.size
 | .ref p=>(∃ xs,SqL K H p xs/\n=xs.length)\/∃ xs,SqT K H p xs/\n=xs.length
 | _=>False
theorem a1f:b4l X (.builtin "len") (λ xs H Q=>∃ x n,xs=[x]/\e6h X.K x H n/\Q (.int n) H):=by
 intro pins s σ H xs us Q I r h;obtain⟨x,n,rfl,e,q⟩:=h;obtain⟨u,rfl,rx⟩:=b3r r;have hs:=sizeLine_eq;cases x with
 | str y =>
  obtain⟨t,rfl⟩:=rx;obtain⟨hy,e'⟩:y.length<=sizeLine/\n=y.length:=e;subst e';exact len_str (by lia) (nx0 (.int _) H (I.tok _) ⟨_,rfl⟩ q)
 | byt y =>
  obtain⟨t,rfl⟩:=rx;obtain⟨hy,e'⟩:y.size<=sizeLine/\n=y.size:=e;subst e';exact W.len_bytes (by lia) (nx0 (.int _) H (I.tok _) ⟨_,rfl⟩ q)
 | ref p =>
  cases rx;have e':=e;rcases e' with ⟨xs,hx,e'⟩ | ⟨xs,hx,e'⟩
  ·subst e';obtain⟨its,r',pl,hz⟩:=I.list hx;have hlen:=r'.length;exact Calls.call_len_list pl.isList (by simp only [z0p];lia) (nx0 (.int xs.length) H (I.tok _) ⟨_,by simp only [z0p];rw[hlen]⟩ q)
  ·subst e';obtain⟨its,r',pl,hz⟩:=I.tuple hx;have hlen:=r'.length;exact len_tuple pl (by simp only [z0p];lia) (nx0 (.int xs.length) H (I.tok _) ⟨_,by simp only [z0p];rw[hlen]⟩ q)
 | _=>exact(e).elim
end
end L2
namespace L2
open PySem PySem.Spec PyProof.Rows
structure e3x (h:Heap) (x dx C:Addr) (mA:Str->Option Value):Prop where
 obj:h.get? x=some (W.instObj C dx)
 ns:h.Ns1 dx mA
 ne:dx≠x
theorem c7n {h:Heap} (n:h.Ns1 dx mA):∃ od,h.get? dx=some od/\∀ name,W.lookIn name od=some (mA name):=by
 obtain⟨o,es,ep,ho,hd,hk,_,hm⟩:=n;refine⟨o,ho,λ name=>?_⟩;have e:=hm name;unfold nsFind findBy at e;rw[<-Array.find?_toList] at e;unfold W.lookIn;rw[hd];dsimp only;split
 ·rename_i y q;rw[q] at e;exact z0b some e
 ·rename_i q;rw[q] at e;have a:es.toList.any (·.refKey)=false:=by
   rw[List.any_eq_false];intro y hy;obtain⟨z,t,hkey⟩:=hk y (Array.mem_toList_iff.mp hy);simp[DictEntry.refKey,hkey]
  have a':¬ es.toList.any (·.refKey)=true:=by rw[a];exact z1k
  rw[z01 a'];exact z0b some e
theorem e3x.look (I:e3x h x dx C mA):∃ od,W.InstAt h x (W.instObj C dx) C (some od)/\∀ name,W.lookIn name od=some (mA name) :=
 let ⟨od,ho,hl⟩:=c7n I.ns
 ⟨od,⟨I.obj,rfl,rfl,ho⟩,hl⟩
section
variable {prog:Program} {w:World} {A:Around} {E:Value->Shared->Prop} {s:Shared} {K:W.Frag} {x dx C f:Addr} {mA:Str->Option Value} {name:Str} {v:Value}
theorem d1z (X:K.In s.heap) (I:e3x s.heap x dx C mA) (hg:W.plainGet K C name=true)
  (hf:W.findIn K (.ref C) name=some (some (.ref f))) (ht:W.isFn K (.ref f)=true) (hv:mA name=none) (h:Q (.ref f,[.ref x]) s) :
  wpAny (model prog w) A (getMethod (.ref x) name pl) Q E s:=by
 obtain⟨od,J,hl⟩:=I.look;exact W.method_fn X J (W.plainGet_of hg).1 (W.plainGet_of hg).2 hf (beq_iff_eq.mp ht) (by show (W.lookIn name od).map (·.isSome)=some false;rw[hl,hv];rfl) h
theorem d0t (X:K.In s.heap) (hm:W.makesIn K C=true)
  (hi:W.findIn K (.ref C) "__init__"=some (some (.builtin "object.__init__")))
  (hb:∀ self,W.Looks (model prog w) s.heap (bindSpecial (.builtin "object.__init__") self) (.builtin "object.__init__",[self]))
  (h:codeAny (model prog w) (A.under (.builtin "type.__call__" ⟨[.ref C],[]⟩)) (.call (.builtin "object.__init__") ⟨[.ref (s.heap.objs.size+1)],[]⟩) (W.InitBack (s.heap.objs.size+1) R)
   {s with heap:=(s.heap.push W.emptyDict).push (W.instObj C s.heap.objs.size)}) :
  codeAny (model prog w) A (.call (.ref C) ⟨[],[]⟩) R s:=by
 exact W.make_core (W.makes_of X hm) (W.looks_findIn X hi) hb (.inr ⟨rfl,rfl⟩) h
end
theorem b4f.some_of (r:b4f (some v) o):∃ u,o=some u/\a2d v u:=by
 cases o with
 | none=>exact(r).elim
 | some u=>exact⟨u,rfl,r⟩
theorem b4f.none_of (r:b4f none o):o=none:=by
 cases o with
 | none=>rfl
 | some u=>exact(r).elim
section
variable {P:Program} {w:World} {H H':Hp} {h h':Heap} {a C dx:Addr} {fs fs':List (Str×V)}
theorem c8p (hok:HOk P w H h) (e:H a=some (.ins C dx fs)):∃ mA,e3x h a dx C mA/\(∀ f,b4f (fs.lookup f) (mA f))/\PySem.Within mA (fs.map (·.1))/\fs.length<=1000/\H dx=some (.own a):=by
 obtain⟨d,z,ne,ob,mA,n,r,q⟩:=(hok a _ e);exact⟨mA,⟨ob,n,ne⟩,r,q,z,d⟩
end
structure Cls (K:W.Frag) (C:Addr):Prop where
 pg:W.plainGet K C Str.empty=true
 hd:W.hasDictIn K C=true
 po:W.plainOver K C=true
 sa:W.findIn K (.ref C) "__setattr__"=some (some (.builtin "object.__setattr__"))
theorem Cls.get {K:W.Frag} (c:Cls K C) (f:Str):W.plainGet K C f=true:=c.pg
structure a8q (K:W.Frag) (C:Addr) (m:Str) (f:Addr):Prop where
 at_:W.findIn K (.ref C) m=some (some (.ref f))
 fn:W.isFn K (.ref f)=true
 kp:W.keepIn K (.ref f)=true
section
variable {X:Cx} {pins:List (Addr×Obj)} {σ:St} {H:Hp} {s:Shared} {a C dx:Addr} {fs:List (Str×V)} {f:Str} {v:V} {A:Around} {E:Value->Shared->Prop}
theorem b4r (I:Inv X pins σ H s) (e:H a=some (.ins C dx fs)) (c:Cls X.K C) (k:a8q X.K C m g) (l:fs.lookup m=none)
  (h:Q (.ref g,[.ref a]) s):wpAny (model X.prog X.w) A (getMethod (.ref a) m pl) Q E s:=by
 obtain⟨mA,O,r,_,_,_⟩:=c8p I.hok e;have hn:=b4f.none_of (by rw[<-l];exact r m);exact d1z I.kIn O (c.get m) k.at_ k.fn hn h
theorem Inv.made (I:Inv X pins σ H s):Inv X pins σ (upd (upd H s.heap.objs.size (.own (s.heap.objs.size+1))) (s.heap.objs.size+1) (.ins C s.heap.objs.size []))
  {s with heap:=(s.heap.push W.emptyDict).push (W.instObj C s.heap.objs.size)}:=by
 have e1:(s.heap.push W.emptyDict).get? s.heap.objs.size=some W.emptyDict:=z0t s.heap rfl;have e2:((s.heap.push W.emptyDict).push (W.instObj C s.heap.objs.size)).get? (s.heap.objs.size+1)=some (W.instObj C s.heap.objs.size):=by
  have:=z0t (s.heap.push W.emptyDict) (o:=W.instObj C s.heap.objs.size) rfl;rwa [z4v] at this
 have e3:(s.heap.push W.emptyDict).Ns s.heap.objs.size (λ _=>none):= nx4 W.emptyDict (#[]) _ e1 rfl (λ e he=>absurd he (by simp)) λ _=>rfl;have I1:=I.laid (o:=.own (s.heap.objs.size+1)) (t':=s.toks) (λ b u q=>z0e _ q) (z05 _) ⟨_,e1⟩;refine I1.laid (λ b u q=>z0e _ q) (Nat.le_of_eq (z4v _ _)) ?_;have ne:s.heap.objs.size≠s.heap.objs.size+1:=z0k (z4l _);refine⟨by rw[a0g ne,a0b],z0m _,ne,e2,λ _=>none,(Heap.Ns1.of_empty e3).at λ o q=>z0e _ q,λ _=>True.intro,λ y hy=>absurd rfl hy⟩
end
section
variable {X:Cx} {pins:List (Addr×Obj)} {σ:St} {H:Hp} {s:Shared} {A:Around} {E:Value->Shared->Prop} {Q:Value->Shared->Prop} {c:Value} {b:Bool}
inductive b7a (K:W.Frag) (H:Hp):V->Value->Prop where
 | non:b7a K H .non (.type "NoneType")
 | bl (x:Bool):b7a K H (.bl x) (.type "bool")
 | int (i:Int):b7a K H (.int i) (.type "int")
 | str (x:Str):b7a K H (.str x) (.type "str")
 | flt (x:UInt64):b7a K H (.flt x) (.type "float")
 | lst {a:Addr} {xs:List V} (e:H a=some (.lst xs)):b7a K H (.ref a) (.type "list")
 | frz {a:Addr} {o:Obj} {xs:List V} (e:H a=some (.frz o (.lst xs))):b7a K H (.ref a) (.type "list")
 | tup {a:Addr} {xs:List V} (e:H a=some (.tup xs)):b7a K H (.ref a) (.type "tuple")
 | dK {a:Addr} {kvs:List (Key×V)} (e:H a=some (.dK kvs)):b7a K H (.ref a) (.type "dict")
 | dT {a:Addr} {kvs:List (List Key×V)} (e:H a=some (.dT kvs)):b7a K H (.ref a) (.type "dict")
 | ins {a C dx:Addr} {fs:List (Str×V)} (e:H a=some (.ins C dx fs)) (cl:Cls K C) (ha:W.findIn K (.ref C) "__class__"=some (some (.builtin "object.__class__")))
   (hn:W.specialIn K (.builtin "object.__class__") "__get__"=some (some (.builtin "getset_descriptor.__get__"))) (htk:W.takesIn K (.builtin "object.__class__")=some true)
   (hm:W.mroIn K C (.type "object")=some true):b7a K H (.ref a) (.ref C)
theorem c7d (I:Inv X pins σ H s) (rx:a2d x u) (ty:b7a X.K H x t) (e:W.kitOne X.K t c=some b) (h:∀ tk,Q (.bool b) {s with toks:=tk}) :
  wpAny (model X.prog X.w) A (call (.builtin "isinstance") [u,c]) Q E s:=by
 cases ty with
 | non=>cases (rx);exact z2x W.kitx_none I.kIn True.intro e (λ z=>nomatch z) h
 | bl y=>cases (rx);exact z2x W.kitx_bool I.kIn True.intro e (λ z=>nomatch z) h
 | int i=>obtain⟨t,q⟩:=(rx);cases q;exact z2x W.kitx_int I.kIn True.intro e (λ z=>nomatch z) h
 | str y=>obtain⟨t,q⟩:=(rx);cases q;exact z2x W.kitx_str I.kIn True.intro e (λ z=>nomatch z) h
 | flt y=>obtain⟨t,q⟩:=(rx);cases q;exact z2x W.kitx_float I.kIn True.intro e (λ z=>nomatch z) h
 | @lst a xs ea =>
  cases (show u=Value.ref a from rx);obtain⟨_,_,n,_,h1⟩:=(show a2r X.prog X.w H s.heap a (.lst xs) from I.hok a _ ea);exact z2x W.kitx_list I.kIn ⟨_,h1,rfl⟩ e (λ z=>nomatch z) h
 | @frz a ob xs ea =>
  cases (rx);obtain⟨_,_,_,n,_,h1⟩:=(show a2r X.prog X.w H s.heap a (.frz ob (.lst xs)) from I.hok a _ ea);exact z2x W.kitx_list I.kIn ⟨_,h1,rfl⟩ e (λ z=>nomatch z) h
 | @tup a xs ea =>
  cases (show u=Value.ref a from rx);obtain⟨_,_,_,p⟩:=(show a2r X.prog X.w H s.heap a (.tup xs) from I.hok a _ ea);obtain⟨o,h1,h2,_⟩:=p;exact z2x W.kitx_tuple I.kIn ⟨o,h1,h2⟩ e (λ z=>nomatch z) h
 | @dK a kvs ea =>
  cases (show u=Value.ref a from rx);obtain⟨_,_,vs,_,p⟩:=(show a2r X.prog X.w H s.heap a (.dK kvs) from I.hok a _ ea);obtain⟨o,es,ep,h1,h2,_⟩:=p;exact z2x W.kitx_dict I.kIn ⟨o,h1,h2.1⟩ e (λ z=>nomatch z) h
 | @dT a kvs ea =>
  cases (show u=Value.ref a from rx);obtain⟨_,_,xs,_,o,es,ep,h1,h2,_⟩:=(show a2r X.prog X.w H s.heap a (.dT kvs) from I.hok a _ ea);exact z2x W.kitx_dict I.kIn ⟨o,h1,h2.1⟩ e (λ z=>nomatch z) h
 | @ins a C dx fs ea cl ha hn htk hm =>
  cases (rx);obtain⟨mA,O,_⟩:=c8p I.hok ea;obtain⟨od,J,_⟩:=O.look;exact z2x (W.kitx_own (cl.get _) cl.hd ha hn htk hm) I.kIn J e (λ z=>nomatch z) h
end
end L2
namespace L2
open PySem PySem.Spec PyProof.Rows
structure Room (k:Nat) (A:Around):Prop where
 hd:A.handled=none
 dp:A.depth+3*k+5 < recursionLimit
 un:A.units+16*k+200 < cLine
theorem Room.mono (r:Room k A) (h:j<=k):Room j A:=⟨r.hd,by have:=r.dp;lia,by have:=r.un;lia⟩
theorem Room.deeper (r:Room (k+1) A) (env:Env):Room k (A.deeper env) :=
 ⟨r.hd,by have:=r.dp;show A.depth+1+3*k+5 < _;lia,by have:=r.un;show A.units+3+16*k+200 < _;lia⟩
theorem Room.depth (r:Room k A):A.depth < recursionLimit:=by have:=r.dp;lia
theorem Room.units (r:Room k A):A.units+64 < cLine:=by have:=r.un;lia
def d9x:TA:=λ _ H Q=>Q [] H
def c1v (ta:TE) (tr:TA):TA:=λ σ H Q=>ta σ H λ x H1=>tr σ H1 λ xs H2=>Q (x::xs) H2
section
variable {X:Cx} {e:Expr} {es:List Expr} {te:TE} {t:TA} {pos:Pos}
theorem a0d:PA X [] d9x:=⟨λ _ _ _ _ H Q I h=>z5e (nx0 ([]) H I (.nil) h)⟩
theorem a0a (ha:PE X e te) (hr:PA X es t) (hs:starEach (e::es) X.env=(false,eval e X.env)::starEach es X.env:=by rfl):PA X (e::es) (c1v te t):=by
 constructor;intro pos pins s σ H Q I h;rw[hs];show wpAny _ _ (spliced ((false,eval e X.env)::backTo pos (starEach es X.env))) _ _ s;refine z3f (thn (ha pins s σ H _ I h) λ u s1 ⟨x,H1,I1,r1,q1⟩=>?_);exact thn (hr pos pins s1 σ H1 _ I1 q1) λ us s2 ⟨xs,H2,I2,r2,q2⟩=> nx0 (x::xs) H2 I2 (.cons r1 r2) q2
def e7i (t:TA):TE:=λ σ H Q=>t σ H λ xs H1=>xs.length<=sizeLine/\∀ p,H1 p=none->Q (.ref p) (upd H1 p (.tup xs))
def e6v (t:TA):TE:=λ σ H Q=>t σ H λ xs H1=>xs.length<=sizeLine/\∀ p,H1 p=none->Q (.ref p) (upd H1 p (.lst xs))
theorem a1j {x1} (h:PA X es t):PE X (.Tuple es x1 pos) (e7i t):=by
 constructor;intro pins s σ H Q I hq;refine wpAny_Tuple_spliced (thn (h pos pins s σ H _ I hq) λ us s1 ⟨xs,H1,I1,r,z,q⟩=>⟨by rw[<-r.length];exact z,?_⟩);have hf:=I1.hok.fresh (z05 _);refine nx0 (.ref s1.heap.objs.size) (upd H1 s1.heap.objs.size (.tup xs)) (I1.laid (λ b u e=>z0e _ e) (z05 _) ?_) rfl (q _ hf);exact⟨z,us,r,nx13 _ (z0t _ rfl) rfl _ rfl⟩
theorem a1d (h:PA X es t):PE X (.List es pos) (e6v t):=by
 constructor;intro pins s σ H Q I hq;refine wpAny_List_spliced (thn (h pos pins s σ H _ I hq) λ us s1 ⟨xs,H1,I1,r,z,q⟩=>⟨by rw[<-r.length];exact z,?_⟩);have hf:=I1.hok.fresh (z05 _);refine nx0 (.ref s1.heap.objs.size) (upd H1 s1.heap.objs.size (.lst xs)) (I1.laid (λ b u e=>z0e _ e) (z05 _) ?_) rfl (q _ hf);exact ⟨z,nx9 us 0 r (z0t _ rfl)⟩
end
abbrev Sp:=List V->Hp->VK->XK->Prop
abbrev CXT:=List Env->Hp->Shared->XK->Value->Shared->Prop
structure d9w (P:Program) (w:World) (K:W.Frag) (mg:Str->Option Value) (base:Heap) (A:Around) (outer:List Env) (s:Shared) (H:Hp):Prop where
 frames:A.frames=some outer
 mod:Mod K mg base
 bs:∀ b o,base.get? b=some o->s.heap.get? b=some o/\H b=none
 bsz:base.objs.size<=s.heap.objs.size
 funs:s.heap.FunFrames base outer
 frf:∀ b∈frs outer,H b=none
 hok:HOk P w H s.heap
 bare:AllBare s.gens
def CE (outer:List Env) (P:Program) (w:World) (H:Hp) (s:Shared) (Q:VK) (u:Value) (s':Shared):Prop :=
 ∃ v H',s'.os=s.os/\AllBare s'.gens/\Un (frs outer) [] H H' s.heap s'.heap/\HOk P w H' s'.heap/\a2d v u/\Q v H'
def CR (CX:CXT) (outer:List Env) (P:Program) (w:World) (H:Hp) (s:Shared) (Q:VK) (E:XK) (r:Result) (s':Shared):Prop :=
 match r with
 | .ok (.ret u)=>CE outer P w H s Q u s'
 | .ok _=>False
 | .error e=>CX outer H s E e s'
structure b1f (P:Program) (w:World) (K:W.Frag) (mg:Str->Option Value) (base:Heap) (CX:CXT) (k:Nat) (f:Addr) (fd:FuncData) (ps:List Str) (sp:Sp):Prop where
 len:∀ vs H Q E,sp vs H Q E->vs.length=ps.length
 run:∀ (A:Around) (outer:List Env) (s:Shared) (H:Hp) (args:Args) (us:List Value) (vs:List V) (Q:VK) (E:XK),Room k A->d9w P w K mg base A outer s H->BindsTo s fd args (ps.zip us)->a2e vs us->sp vs H Q E ->
  codeAny (model P w) A (.call (.ref f) args) (CR CX outer P w H s Q E) s
theorem b1f.mono {K:W.Frag} (F:b1f P w K mg base CX j f fd ps sp) (h:j<=k) :
  b1f P w K mg base CX k f fd ps sp:=⟨F.len,λ A outer s H args us vs Q E hr=>F.run A outer s H args us vs Q E (hr.mono h)⟩
section
variable {X:Cx} {pins:List (Addr×Obj)} {σ:St} {H:Hp} {s s':Shared}
theorem Inv.env0 (I:Inv X pins σ H s):d9w X.prog X.w X.K X.mg X.base X.A X.stack s H :=
 ⟨I.ok.frames,I.ok.mod,I.bs,z0s I.ok.bsz I.sz,I.stack,I.stkFree,I.hok,I.bare⟩
theorem Inv.after (I:Inv X pins σ H s) (h:CE X.stack X.prog X.w H s Q u s'):EP X pins σ Q u s':=by
 obtain⟨v,H',os,bare,un,hok,r,q⟩:=h;obtain⟨hh,g,d,t,os'⟩:=s';obtain rfl:os'=s.os:=os;exact nx0 v H' (I.call un hok bare (λ b z=>absurd z (by simp))) r q
end
def c6w (sp:Sp) (dvs:List V) (E:XK) (t:TA):TE:=λ σ H Q=>t σ H λ vs H1=>sp (vs++dvs) H1 Q E
def a4p (K:W.Frag) (fd:FuncData) (ps:List Str) (ds:List Value):Prop :=
 ∀ (s:Shared) (us:List Value),K.In s.heap->(us++ds).length=ps.length->BindsTo s fd ⟨us,[]⟩ (ps.zip (us++ds))
theorem a4p.all {K:W.Frag} (h:∀ us:List Value,us.length=ps.length->bindArgs fd ⟨us,[]⟩=pure (ps.zip us)):a4p K fd ps []:=λ s us _ hl=>by
 rw[z19] at hl ⊢;exact .of_eq (h us hl)
def c6y (CX:CXT) (X:Cx) (E:XK):Prop:=∀ (pins:List (Addr×Obj)) (σ:St) (H:Hp) (s:Shared) (e:Value) (s':Shared),Inv X pins σ H s->CX X.stack H s E e s'->X.xe e s'
section
variable {X:Cx} {CX:CXT} {k:Nat} {f C:Addr} {fd:FuncData} {ps:List Str} {sp:Sp} {dvs:List V} {ds:List Value} {E:XK} {x m:Str} {p pos apos:Pos} {e o:Expr} {es:List Expr} {ta:TE} {t:TA}
theorem c9y {σ:St} (F:b1f X.prog X.w X.K X.mg X.base CX k f fd ps sp) (hr:Room k X.A) (hb:a4p X.K fd ps ds) (hd:a2e dvs ds) (hx:c6y CX X E)
  (I:Inv X pins σ H s) (r:a2e vs us) (h:sp (vs++dvs) H Q E):wpAny (model X.prog X.w) X.A (call (.ref f) us) (EP X pins σ Q) X.xe s:=by
 have r2:=r.append hd;have hl:(us++ds).length=ps.length:=by rw[<-r2.length];exact F.len _ _ _ _ h
 refine wpAny_call (z4h (F.run X.A X.stack s H ⟨us,[]⟩ (us++ds) (vs++dvs) Q E hr I.env0 (hb s us I.kIn hl) r2 h) λ r s' hq=>?_);cases r with
 | error e=>exact hx pins σ H s e s' I hq
 | ok fl =>
  cases fl with
  | ret u=>exact I.after hq
  | next=>exact False.elim hq
  | brk=>exact False.elim hq
  | cont=>exact False.elim hq
theorem b6r (F:b1f X.prog X.w X.K X.mg X.base CX k f fd ps sp) (hr:Room k X.A) (hg:Gl X x) (hm:X.mg x=some (.ref f)) (hk:W.keepIn X.K (.ref f)=true) (hb:a4p X.K fd ps ds) (hd:a2e dvs ds) (hx:c6y CX X E)
  (ha:PA X (e::es) t) (hdb:(x == ("__debug__":Str))=false:=by decide) (he:starEach (e::es) X.env=(false,eval e X.env)::starEach es X.env:=by rfl) (hpl:(backTo pos (starEach es X.env)).any (·.1)=false:=by rfl) :
  PE X (.Call (.Name x p) (e::es) [] pos) (c6w sp dvs E t):=by
 constructor;intro pins s σ H Q I h;refine z4p (b6p I hg hm ?_ hdb);refine W.callWith_K I.ok.mod.kin hk (thn (ha pos pins s σ H _ I h) λ us s1 ⟨vs,H1,I1,r,q⟩=>⟨I1.kIn,?_⟩) he hpl;exact c9y F hr hb hd hx I1 r q
end
structure a0i (N P:List Str) (sc:Scope):Prop where
 kind:sc.kind=.function
 co:sc.isCoroutine=false
 gen:sc.isGenerator=false
 nd:N.Nodup
 pre:N.take P.length=P
 par:∀ x∈P,sc.names.lookup x=some .local\/sc.names.lookup x=some .cell
 nofree:∀ y∈sc.names,y.2≠.free
theorem b8o {kindOf:Str->Option NameKind}:∀ {binds:List (Str×Value)} {m:Str->Option Value},(∀ v,(x,v) ∉ binds)->bindL kindOf binds m x=m x
 | [],_,_=>rfl
 | (n,v)::r,m,h=>by
  unfold bindL;rw[b8o λ w hw=>h w (z1j _ hw)];split
  ·have:x≠n:=by rintro rfl;exact h v z1p
   simp[this]
  ·rfl
theorem c0m {kindOf:Str->Option NameKind}:∀ {binds:List (Str×Value)} {m:Str->Option Value},(∀ v,(x,v) ∉ binds)->bindC kindOf binds m x=m x
 | [],_,_=>rfl
 | (n,v)::r,m,h=>by
  unfold bindC;rw[c0m λ w hw=>h w (z1j _ hw)];split
  ·rfl
  ·have:x≠n:=by rintro rfl;exact h v z1p
   simp[this]
theorem c0c {kindOf:Str->Option NameKind}:∀ {P:List Str} {vs:List Value} {i:Nat} {m:Str->Option Value},P.Nodup->P[i]?=some x->vs[i]?=some v->kindOf x=some .local ->
  bindL kindOf (P.zip vs) m x=some v
 | [],_,_,_,_,h,_,_=>by simp at h
 | _::_,[],_,_,_,_,h,_=>by simp at h
 | p::P,w::vs,0,m,nd,h1,h2,hk=>by
  simp at h1 h2;subst h1;subst h2;show bindL kindOf ((p,w)::P.zip vs) m p=_;unfold bindL;rw[b8o λ v hv=>(z1f.mp nd).1 (z62 hv).1,z02 hk];simp
 | p::P,w::vs,i+1,m,nd,h1,h2,hk=>by
  unfold bindL;exact c0c (z1f.mp nd).2 (by simpa using h1) (by simpa using h2) hk
theorem b8a {kindOf:Str->Option NameKind}:∀ {P:List Str} {vs:List Value} {i:Nat} {m:Str->Option Value},P.Nodup->P[i]?=some x->vs[i]?=some v->kindOf x≠some .local ->
  bindC kindOf (P.zip vs) m x=some v
 | [],_,_,_,_,h,_,_=>by simp at h
 | _::_,[],_,_,_,_,h,_=>by simp at h
 | p::P,w::vs,0,m,nd,h1,h2,hk=>by
  simp at h1 h2;subst h1;subst h2;show bindC kindOf ((p,w)::P.zip vs) m p=_;unfold bindC;rw[c0m λ v hv=>(z1f.mp nd).1 (z62 hv).1,z01 hk];simp
 | p::P,w::vs,i+1,m,nd,h1,h2,hk=>by
  unfold bindC;exact b8a (z1f.mp nd).2 (by simpa using h1) (by simpa using h2) hk
def start (N:List Str) (vs:List V):St:=vs.map some++List.replicate (N.length - vs.length) none
def d5g (CX:CXT) (P:Program) (w:World) (K:W.Frag) (mg:Str->Option Value) (base:Heap) (N:List Str) (qual:Str) (scope:Scope) (f:Addr) (cd:Value) (A:Around) (outer:List Env) (s:Shared) (H:Hp) (E:XK):Cx where
 prog:=P
 w:=w
 K:=K
 mg:=mg
 base:=base
 A:=A.deeper (envOfC qual scope s.heap.objs.size f cd)
 N:=N
 s₀:=s
 H₀:=H
 env:=envOfC qual scope s.heap.objs.size f cd
 outer:=outer
 stack:=envOfC qual scope s.heap.objs.size f cd::outer
 ex:=[]
 calm:=true
 fn:=λ _=>true
 pn:=[]
 xe:=λ e s'=>wpAny (model P w) (A.deeper (envOfC qual scope s.heap.objs.size f cd)) (leaving (envOfC qual scope s.heap.objs.size f cd) e) (λ _ s''=>CX outer H s E e s'') (λ e' s''=>CX outer H s E e' s'') s'
theorem c4k {sc:Scope} (h:sc.names.lookup x=some .cell):∃ c,(cellsFrom n sc.names []).lookup x=some c:=by
 have q:=W.cellsFrom_some sc.names n [] (.inl h);exact Option.isSome_iff_exists.mp q
theorem c9e {CX:CXT} {P:Program} {w:World} {K:W.Frag} {mg:Str->Option Value} {base:Heap} {N ps:List Str} {qual:Str} {scope:Scope} {f:Addr} {cd:Value} {A:Around} {outer:List Env} {s s1:Shared} {H:Hp} {E:XK} {us:List Value} {vs:List V}
  (S:a0i N ps scope) (hd:A.handled=none) (e0:d9w P w K mg base A outer s H) (hl:vs.length=ps.length) (r:a2e vs us)
  (x:InCallC s s.heap.objs.size (bindL (envOfC qual scope s.heap.objs.size f cd).kindOf (ps.zip us) λ _=>none) (cellsFrom (s.heap.objs.size+1) scope.names []) (bindC (envOfC qual scope s.heap.objs.size f cd).kindOf (ps.zip us) λ _=>none) s1) :
  Inv (d5g CX P w K mg base N qual scope f cd A outer s H E) [] (start N vs) H s1:=by
 have hpl:ps.length<=N.length:=by have:=z0b List.length S.pre;rw[z16] at this;lia
 obtain⟨h1,tk,rfl,hk⟩:=x.done;have noA:∀ b:Addr,b ∉ (d5g CX P w K mg base N qual scope f cd A outer s H E).ex:=λ b z=>absurd (show b∈([]:List Addr) from z) (by simp)
 refine⟨⟨e0.mod,S.kind,rfl,rfl,z05 _,λ y z c h1 h2=>?_,λ y hy=>?_,λ y c _ h=>?_,λ _=>hd,Around.frames_deeper e0.frames,.inr ⟨rfl,rfl⟩,λ b z=>absurd z (noA b),e0.bs,e0.bsz,λ b _ _=>noA b,λ b z=>absurd z (noA b),e0.funs,e0.frf⟩,
  rfl,e0.bare,Un.kept hk,⟨_,x.toInCall.ns,λ i y v h1 h2 h3=>?_⟩,λ y c h=>⟨_,x.cell y c h⟩,e0.hok.fresh (z05 _),λ y c h=>?_,λ p hp=>absurd (show p∈([]:List (Addr×Obj)) from hp) (by simp),e0.hok.kept hk,?_⟩
 ·exact name_of_addr x.apart (z47 h1) (z47 h2)
 ·rcases hy with hy | hy
  ·exact c4k hy
  ·exact absurd rfl (S.nofree _ (z47 hy))
 ·exact z3v (x.above y c (z47 h))
 ·have hi:i < vs.length:=by
   unfold start at h2;by_cases hi:i < vs.length
   ·exact hi
   ·rw[z2u (by simpa using hi)] at h2;rw[List.getElem?_replicate] at h2;split at h2<;>cases h2
  have ha:vs[i]?=some v:=by
   unfold start at h2;rw[z4a (by simpa using hi),z09] at h2;cases e:vs[i]? with
   | none=>rw[e] at h2;cases h2
   | some a=>rw[e] at h2;cases h2;rfl
  obtain⟨u,hu,rv⟩:=r.get ha;have hp:ps[i]?=some y:=by
   rw[<-S.pre,z6x (by lia)];exact h1
  have ndP:ps.Nodup:=by rw[<-S.pre];exact S.nd.sublist (z3g _ _)
  refine⟨u,rv,?_⟩;rcases S.par y (z0c hp) with k | k
  ·exact .inl ⟨k,c0c ndP hp hu k⟩
  ·obtain⟨c,e⟩:=c4k k;refine .inr ⟨.inl k,c,e,?_⟩;have q:=x.cell y c e;rw[b8a ndP hp hu (by show scope.names.lookup y≠_;rw[k];decide)] at q;exact q
 ·exact e0.hok.fresh (z3v (x.above y c (z47 h)))
 ·unfold start;show _=N.length;rw[z0j,z04,z3n];lia
theorem e3b {CX:CXT} {P:Program} {w:World} {K:W.Frag} {mg:Str->Option Value} {base:Heap} {k:Nat} {f:Addr} {name qual:Str} {params:Arguments} {body:List Stmt} {scope:Scope} {dV kV doc pm cdv ct oc:Value} {an od:Option Addr}
  {osl:Array (Option Value)} {N ps:List Str} {sp:Sp} (lk:K.lookup f=some ⟨oc,od,.func (W.fnOf name qual params body scope dV kV doc pm an cdv ct),osl⟩) (hcd:W.codeIn K cdv qual=true) (S:a0i N ps scope)
  (len:∀ vs H Q E,sp vs H Q E->vs.length=ps.length)
  (hbody:∀ (A:Around) (outer:List Env) (s:Shared) (H:Hp) (vs:List V) (Q:VK) (E:XK),Room k (A.deeper (envOfC qual scope s.heap.objs.size f cdv))->sp vs H Q E ->
   ∃ t,PSs (d5g CX P w K mg base N qual scope f cdv A outer s H E) body t/\t {nx:=λ _ H'=>Q .non H',rt:=Q} (start N vs) H) :
  b1f P w K mg base CX (k+1) f (W.fnOf name qual params body scope dV kV doc pm an cdv ct) ps sp:=by
 refine⟨len,λ A outer s H args us vs Q E hr e0 hb r hsp=>?_⟩;have hl:=len _ _ _ _ hsp;have KX:=e0.mod.kin.keeps λ b o e=>(e0.bs b o e).1
 have lim:=e0.mod.nolimit.keeps λ b o e=>(e0.bs b o e).1
 have hkind:∀ y∈ps.zip us,scope.names.lookup y.1=some .local\/(scope.names.lookup y.1=some .cell/\((cellsFrom (s.heap.objs.size+1) scope.names []).lookup y.1).isSome=true):=λ ⟨n,v⟩ hy=>by
  rcases S.par n (z62 hy).1 with q | q
  ·exact .inl q
  ·exact .inr ⟨q,W.cellsFrom_some _ _ _ (.inl q)⟩
 refine codeAny_call_function hr.depth (KX _ _ lk) rfl S.co S.gen rfl (W.codeRec_of KX hcd) (hb _ _ _ _ ?_);refine wpAny_newFunctionEnv_cells S.kind hkind λ env he s1 x=>?_
 subst he;refine⟨lim.keeps x.toInCall.keep,codeAny_func ?_⟩;obtain⟨t,ht,hq⟩:=hbody A outer s H vs Q E (hr.deeper _) hsp;have I:Inv (d5g CX P w K mg base N qual scope f cdv A outer s H E) [] (start N vs) H s1:=c9e S hr.hd e0 hl r x;refine z1b (ht [] s1 (start N vs) H _ I hq) (λ fl s' hs=>?_) λ e s' hs=>hs
 have fin:∀ {σ':St} {H':Hp} {v:V} {u:Value},Inv (d5g CX P w K mg base N qual scope f cdv A outer s H E) [] σ' H' s'->a2d v u->Q v H'->CE outer P w H s Q u s' :=
  λ {σ' H' v u} J rv q=> nx27 v H' J.os J.bare J.base J.hok rv q
 cases fl with
 | ret u =>
  obtain⟨v,σ',H',J,rv,q⟩:=hs;exact fin J rv q
 | next =>
  obtain⟨σ',H',J,q⟩:=hs;exact fin (v:=V.non) J rfl q
 | brk =>
  obtain⟨_,_,_,q⟩:=hs;exact False.elim q
 | cont =>
  obtain⟨_,_,_,q⟩:=hs;exact False.elim q
end L2
namespace L2
open PySem PySem.Spec PyProof.Rows
section
variable {X:Cx} {x:Str} {p pos:Pos} {e:Expr} {es:List Expr} {t:TA} {id T:String} {r:List V->Hp->VK->Prop}
def tCB (r:List V->Hp->VK->Prop) (t:TA):TE:=λ σ H Q=>t σ H λ vs H1=>r vs H1 Q
theorem a0q (hc:b4l X (.builtin id) r) (hg:Gl X x) (hm:X.mg x=none) (hv:bootBuiltins x=some (.builtin id)) (ha:PA X (e::es) t) (hn:x≠"__name__":=by decide) (hdb:(x == ("__debug__":Str))=false:=by decide)
  (he:starEach (e::es) X.env=(false,eval e X.env)::starEach es X.env:=by rfl) (hpl:(backTo pos (starEach es X.env)).any (·.1)=false:=by rfl):PE X (.Call (.Name x p) (e::es) [] pos) (tCB r t):=by
 constructor;intro pins s σ H Q I h;refine z4p (a7w I hg hm hv ?_ hn hdb);exact PyProof.Rows.callWith_builtin1 (thn (ha pos pins s σ H _ I h) λ us s1 ⟨vs,H1,I1,r1,q1⟩=>hc pins s1 σ H1 vs us Q I1 r1 q1) he hpl
theorem a6h (hc:b4l X (.type T) r) (hg:Gl X x) (hm:X.mg x=none) (hv:bootBuiltins x=some (.type T)) (ha:PA X (e::es) t) (hn:x≠"__name__":=by decide) (hdb:(x == ("__debug__":Str))=false:=by decide)
  (he:starEach (e::es) X.env=(false,eval e X.env)::starEach es X.env:=by rfl) (hpl:(backTo pos (starEach es X.env)).any (·.1)=false:=by rfl):PE X (.Call (.Name x p) (e::es) [] pos) (tCB r t):=by
 constructor;intro pins s σ H Q I h;refine z4p (a7w I hg hm hv ?_ hn hdb);exact z5c (thn (ha pos pins s σ H _ I h) λ us s1 ⟨vs,H1,I1,r1,q1⟩=>hc pins s1 σ H1 vs us Q I1 r1 q1) he hpl
end
end L2
namespace HT
open PySem PyProof.Rows
def lexLt:List Int->List Int->Bool
 | [],[]=>false
 | [],_::_=>true
 | _::_,[]=>false
 | x::xs,y::ys=>if x=y then lexLt xs ys else decide (x < y)
theorem lexLt_cons (x y:Int) (xs ys:List Int):lexLt (x::xs) (y::ys)=if x=y then lexLt xs ys else decide (x < y):=rfl
theorem lexLt_nil_nil:lexLt [] []=false:=rfl
theorem b4j (y:Int) (ys:List Int):lexLt [] (y::ys)=true:=rfl
theorem b4m (x:Int) (xs:List Int):lexLt (x::xs) []=false:=rfl
theorem d2c (A:Around) (s:Shared) (a:Int) (t:Tok) (c:Int) (u:Tok):∃ e,SeqAt.EqAt A s (.int a t) (.int c u) e/\(e=true ↔ a=c) :=
 ⟨(a == c),SeqAt.EqAt.int_int a t c u,by simp⟩
theorem d1y (A:Around) (s:Shared) (a:Int) (t:Tok) (c:Int) (u:Tok) (prog:Program) (w:World) (E:Value->Shared->Prop) (Q:Value->Shared->Prop) (h:Q (.bool (decide (a < c))) s) :
  wpAny (model prog w) A (richCompare .Lt (.int a t) (.int c u)) Q E s :=
 (PyProof.Rows.lt_int h:wpAny (model prog w) A (compareOp .Lt (.int a t) (.int c u)) Q E s)
section
open PySem.SeqAt
open PySem.AutoSeq1 (wpAny_loadPart')
open PySem.MeetsSeq PySem.MeetsSeq2 PySem.MeetsSeq3
theorem b7d (l b:Addr) (items items2:Array Value) (n n2:Nat) (dd dd2:Option Addr) (sl sl2:Array (Option Value)) (ns ms:List Int) (hi:IntsAre items.toList ns) (hj:IntsAre items2.toList ms) :
  Meets (Builtin.«tuple.__lt__» ⟨[.ref l,.ref b],[]⟩)
   (λ _ R s=>s.heap.get? l=some {cls:=.type "tuple",dict:=dd,data:=.seq items n,slots:=sl}/\s.heap.get? b=some {cls:=.type "tuple",dict:=dd2,data:=.seq items2 n2,slots:=sl2} /\
    R (.ok (.ret (.bool (lexLt ns ms)))) s) :=
 .of_wp λ prog w A R s h=>by
  obtain⟨hp,g,d,tk,os⟩:=s;obtain⟨hl,hb,h⟩:=h;have f2:=AutoSeq1.sub_tuple_tuple;have z1:items.size=ns.length:=by rw[<-hi.length];simp
  have z2:items2.size=ms.length:=by rw[<-hj.length];simp
  wp_walk using wpAny_loadPart' hl,wpAny_loadPart' hb,wpAny_forIn_list _ (λ b6e b s'=>b.1=none/\s'=⟨hp,g,d,tk,os⟩/\∃ (vs ws:List Value) (ns' ms':List Int),b6e=vs.zip ws /\
   IntsAre vs ns'/\IntsAre ws ms'/\ns'.length+items2.size=ms'.length+items.size/\R (.ok (.ret (.bool (lexLt ns' ms')))) ⟨hp,g,d,tk,os⟩) _
  case turn =>
   rintro⟨y,x⟩ b6e b s' ⟨hb',rfl,vs,ws,ns',ms',hz,hvi,hwi,hlen,hR⟩;cases hvi with
   | nil=>rw[List.zip_nil_left] at hz;cases hz
   | cons a t hvi' =>
    cases hwi with
    | nil=>rw[List.zip_nil_right] at hz;cases hz
    | cons c u hwi' =>
     rw[z60] at hz;injection hz with hyx hrest;injection hyx with hy hx;subst hy hx;rw[lexLt_cons] at hR;simp only [z17] at hlen;obtain⟨e,he,hiff⟩:=d2c A.in1 ⟨hp,g,d,tk,os⟩ a t c u;refine z00 (he prog w _ _ ?_);cases e with
     | true =>
      rw[z02 (hiff.mp rfl)] at hR;wp_walk
      exact ⟨rfl,rfl,nx1 _ _ _ _ hrest hvi' hwi' (by lia) hR⟩
     | false =>
      rw[z01 (λ q=>absurd (hiff.mpr q) z1k)] at hR;have hri:=d1y A.in1 ⟨hp,g,d,tk,os⟩ a t c u prog w;wp_walk using hri
      exact⟨_,rfl,by simpa using hR⟩
  case fin =>
   rintro⟨b1,b2⟩ s' ⟨hb',rfl,vs,ws,ns',ms',hz,hvi,hwi,hlen,hR⟩;simp only at hb';subst hb';have hv:lexLt ns' ms'=decide (items.size < items2.size):=by
    cases hvi with
    | nil =>
     cases hwi with
     | nil =>
      simp only [z3h] at hlen;rw[lexLt_nil_nil];exact(z0n (by lia)).symm
     | cons c u hw =>
      simp only [z3h,z17] at hlen;rw[b4j];exact(z08 (by lia)).symm
    | cons a t hv =>
     cases hwi with
     | nil =>
      simp only [z3h,z17] at hlen;rw[b4m];exact(z0n (by lia)).symm
     | cons c u hw =>
      rw[z60] at hz;cases hz
   rw[hv] at hR;wp_walk
   exact⟨_,rfl,by simpa [Builtin.Tuple.tupleCompareSizes] using hR⟩
  case h =>
   exact ⟨rfl,rfl,nx1 items.toList items2.toList ns ms rfl hi hj (by lia) h⟩
end
section
variable {prog:Program} {w:World} {A:Around} {E:Value->Shared->Prop} {s:Shared}
theorem lt_tupInts (hl:IsTup s.heap l items) (hb:IsTup s.heap b items2) (hi:IntsAre items.toList ns) (hj:IntsAre items2.toList ms)
  (hu:A.units < cLine) (h:Q (.bool (lexLt ns ms)) s):wpAny (model prog w) A (compareOp .Lt (.ref l) (.ref b)) Q E s:=by
 obtain⟨⟨cls,dd,data,sl⟩,ho,hc,n,hd⟩:=id hl;obtain⟨⟨cls2,dd2,data2,sl2⟩,ho2,hc2,n2,hd2⟩:=id hb;simp only at hc hd hc2 hd2;subst hc hd hc2 hd2;exact richCompare_meets_room (op:=.Lt) ⟨_,ho,rfl⟩ ⟨_,ho2,rfl⟩ F.slot_tuple_lt F.entry_tuple_lt (F.args_tuple_lt_2 _ _) (b7d l b items items2 n n2 dd dd2 sl sl2 ns ms hi hj)
  ⟨ho,ho2,show Value.bool (lexLt ns ms)≠Value.notImplemented/\Q (.bool (lexLt ns ms)) s from ⟨(λ x=>nomatch x),h⟩⟩ hu
def sIx (n d:Nat):Option Int->Nat
 | none=>d
 | some v=>if v < 0 then (v+(n:Int)).toNat else min v.toNat n
theorem sIx_none (n d:Nat):sIx n d none=d:=rfl
theorem sIx_nat (n d k:Nat):sIx n d (some (k:Int))=min k n:=by
 show (if (k:Int) < 0 then ((k:Int)+(n:Int)).toNat else min (k:Int).toNat n)=min k n;rw[z01 (by lia),z25]
end
end HT
namespace L2
open PySem PySem.Spec PyProof.Rows
abbrev TO:=St->Hp->(Option Int->Hp->Prop)->Prop
structure PO (X:Cx) (e:Option Expr) (t:TO):Prop where
 run:∀ (pins:List (Addr×Obj)) (s:Shared) (σ:St) (H:Hp) (Q:Option Int->Hp->Prop),Inv X pins σ H s->t σ H Q ->
  wpAny (model X.prog X.w) X.A (evalPart e X.env) (λ u s'=>∃ o H',Inv X pins σ H' s'/\IsPart u o/\Q o H') X.xe s
instance {X:Cx} {e:Option Expr} {t:TO}:CoeFun (PO X e t) λ _=>∀ (pins:List (Addr×Obj)) (s:Shared) (σ:St) (H:Hp) (Q:Option Int->Hp->Prop),Inv X pins σ H s->t σ H Q ->
  wpAny (model X.prog X.w) X.A (evalPart e X.env) (λ u s'=>∃ o H',Inv X pins σ H' s'/\IsPart u o/\Q o H') X.xe s:=⟨PO.run⟩
def d6m:TO:=λ _ H Q=>Q none H
def e4v (t:TE):TO:=λ σ H Q=>t σ H λ x H1=>∃ i,x=.int i/\Q (some i) H1
section
variable {X:Cx} {e:Expr} {te:TE} {lo hi:Option Expr} {tl th:TO} {pos p2:Pos}
theorem c1c:PO X none d6m:=by
 constructor;intro pins s σ H Q I h;exact z03 (nx0 none H I (.none) h)
theorem b3i (h:PE X e te):PO X (some e) (e4v te):=by
 constructor;intro pins s σ H Q I hw;refine thn (h pins s σ H _ I hw) λ u s1 ⟨x,H1,I1,r1,q1⟩=>?_
 obtain⟨i,rfl,q⟩:=q1;obtain⟨t,rfl⟩:=r1;exact nx0 (some i) H1 I1 (.int i t) q
def SlR (X:Cx) (r:V->Option Int->Option Int->Hp->VK->Prop):Prop :=
 ∀ (pins:List (Addr×Obj)) (s:Shared) (σ:St) (H:Hp) (x:V) (v vl vu:Value) (lo hi:Option Int) (sl:Addr) (Q:VK),Inv X pins σ H s->a2d x v->s.heap.IsSliceOf sl vl vu .none->IsPart vl lo->IsPart vu hi->r x lo hi H Q ->
  ∃ T id,typeLookup (.type T) "__getitem__"=pure (some (.builtin id))/\s.TypeIs v T/\wpAny (model X.prog X.w) X.A (getItem v (.ref sl)) (EP X pins σ Q) X.xe s
def tSl (r:V->Option Int->Option Int->Hp->VK->Prop) (te:TE) (tl th:TO):TE:=λ σ H Q=>te σ H λ x H1=>tl σ H1 λ l H2=>th σ H2 λ u H3=>r x l u H3 Q
theorem b1v (hr:SlR X r) (he:PE X e te) (hl:PO X lo tl) (hu:PO X hi th):PE X (.Subscript e (.Slice lo hi none p2) pos) (tSl r te tl th):=by
 constructor;intro pins s σ H Q I h;refine Subscript_ (thn (he pins s σ H _ I h) λ v s1 ⟨x,H1,I1,r1,q1⟩=>?_);refine wpAny_Slice (thn (hl pins s1 σ H1 _ I1 q1) λ vl s2 ⟨l,H2,I2,pl,q2⟩=>thn (hu pins s2 σ H2 _ I2 q2) λ vu s3 ⟨u,H3,I3,pu,q3⟩=>?_);refine z03 ?_;have I4:Inv X pins σ H3 {s3 with heap:=s3.heap.push {cls:=.type "slice",data:=.fields #[vl,vu,.none]}}:=I3.kept λ b ob q=>z0e _ q
 obtain⟨T,id,hT,ht,hg⟩:=hr pins {s3 with heap:=s3.heap.push {cls:=.type "slice",data:=.fields #[vl,vu,.none]}} σ H3 x v vl vu l u s3.heap.objs.size Q I4 r1 (Heap.IsSliceOf.new ..) pl pu q3;exact tail_any ht hT hg (by with_unfolding_all rfl)
def d1k (xs:List V) (lo hi:Option Int):List V:=(xs.drop (HT.sIx xs.length 0 lo)).take (HT.sIx xs.length xs.length hi - HT.sIx xs.length 0 lo)
theorem c2u (xs:List V) (lo hi:Option Int):(d1k xs lo hi).length<=xs.length:=by
 unfold d1k;rw[z16,z0y];lia
end
end L2
namespace L2
open PySem PySem.Spec PyProof.Rows
def ixN (n:Nat) (i:Int):Option Nat:=if 0<=i then (if i < n then some i.toNat else none) else if -(n:Int)<=i then some (i+n).toNat else none
def atI {α:Type} (xs:List α) (i:Int):Option α:=(ixN xs.length i).bind λ j=>xs[j]?
theorem c9h (h:ixN n i=some j):seqIndex? i n=some j/\j < n/\-(n:Int)<=i/\i < n:=by
 unfold ixN at h;by_cases h0:0<=i
 ·rw[z02 h0] at h;by_cases h1:i < n
  ·rw[z02 h1] at h;have e:=z0r h;exact⟨by rw[seqIndex_of h0 h1,e],by lia,by lia,h1⟩
  ·rw[z01 h1] at h;cases h
 ·rw[z01 h0] at h;by_cases h1:-(n:Int)<=i
  ·rw[z02 h1] at h;have e:=z0r h;exact⟨by rw[seqIndex_neg (by lia) h1,e],by lia,h1,by lia⟩
  ·rw[z01 h1] at h;cases h
theorem c8u (h:atI xs i=some v):∃ j,seqIndex? i xs.length=some j/\xs[j]?=some v/\j < xs.length/\-(xs.length:Int)<=i/\i < xs.length:=by
 unfold atI at h;cases e:ixN xs.length i with
 | none=>rw[e] at h;cases h
 | some j =>
  rw[e] at h;obtain⟨h1,h2,h3,h4⟩:=c9h e;exact⟨j,h1,h,h2,h3,h4⟩
theorem a0m {j:Nat} (h:xs[j]?=some v):atI xs (j:Int)=some v:=by
 have hj:=(z0l.mp h).1;have e:ixN xs.length (j:Int)=some j:=by
  unfold ixN;rw[z02 (by lia),z02 (by lia)];simp
 unfold atI;rw[e];exact h
def c8i (b:Expr):Prop:=∀ o i,subscripted b false o i=operate [o,i] (getItem o i)
def IxR (X:Cx) (r:R2):Prop :=
 ∀ (value slice:Expr) (pins:List (Addr×Obj)) (s:Shared) (σ:St) (H:Hp) (x y:V) (v u:Value) (Q:VK),Inv X pins σ H s->a2d x v->a2d y u->r x y H Q ->
  subscripted slice false v u=operate [v,u] (getItem v u)->wpAny (model X.prog X.w) X.A (subscriptTail value slice v u) (EP X pins σ Q) X.xe s
def MtR (X:Cx) (id:String) (r:V->List V->Hp->VK->Prop):Prop :=
 ∀ (pins:List (Addr×Obj)) (s:Shared) (σ:St) (H:Hp) (x:V) (xs:List V) (v:Value) (us:List Value) (Q:VK),Inv X pins σ H s->a2d x v->a2e xs us->r x xs H Q ->
  wpAny (model X.prog X.w) X.A (call (.builtin id) (v::us)) (EP X pins σ Q) X.xe s
section
variable {X:Cx} {a b:Expr} {ta tb:TE} {pos:Pos}
theorem e4g (hr:IxR X r) (ha:PE X a ta) (hb:PE X b tb) (hs:c8i b):PE X (.Subscript a b pos) (tOp r ta tb):=by
 constructor;intro pins s σ H Q I h;exact Subscript_ (e5i ha hb I h λ v u s2 x y H2 I2 rx ry q=>hr a b pins s2 σ H2 x y v u Q I2 rx ry q (hs _ _))
def e6a (K:W.Frag):R2:=λ x y H Q=>∃ p xs i v,x=.ref p/\y=.int i/\SqL K H p xs/\atI xs i=some v/\Q v H
def e5y (K:W.Frag):R2:=λ x y H Q=>∃ p xs i v,x=.ref p/\y=.int i/\SqT K H p xs/\atI xs i=some v/\Q v H
theorem a0l:IxR X (e6a X.K):=by
 intro value slice pins s σ H x y v u Q I rx ry h hs;obtain⟨p,xs,i,z,rfl,rfl,hq,he,q⟩:=h;cases rx;obtain⟨t,rfl⟩:=ry;obtain⟨its,r,pl,hz⟩:=I.list hq;obtain⟨j,h1,h2,h3,h4,h5⟩:=c8u he;obtain⟨w,ew,rw'⟩:=r.get h2;have hl:=r.length;have hn:=c7z;have fin:EP X pins σ Q w s:= nx0 z H I rw' q;by_cases h0:0<=i
 ·have hj:i.toNat=j:=by
   rw[seqIndex_of h0 h5] at h1;exact z0r h1
  exact item_listR pl.isList h0 (by lia) (by rw[hj];simpa using ew) fin hs
 ·have hj:(i+(its.toArray.size:Int)).toNat=j:=by
   rw[seqIndex_neg (by lia) h4] at h1;rw[z0p,<-hl];exact z0r h1
  exact subscriptTail_builtinR (x:=w) pl.isList.typeIs slot_list_getitem.lookup
   (wpAny_getItem_list_neg pl.isList (by lia) (by rw[z0p]<;>lia) (by lia) (by rw[hj];simpa using ew) ⟨rfl,fin⟩) hs
theorem a0t:IxR X (e5y X.K):=by
 intro value slice pins s σ H x y v u Q I rx ry h hs;obtain⟨p,xs,i,z,rfl,rfl,hq,he,q⟩:=h;cases rx;obtain⟨t,rfl⟩:=ry;obtain⟨its,r,pl,hz⟩:=I.tuple hq;obtain⟨j,h1,h2,h3,h4,h5⟩:=c8u he;obtain⟨w,ew,rw'⟩:=r.get h2;have hl:=r.length;have hn:=c7z;have fin:EP X pins σ Q w s:= nx0 z H I rw' q;exact subscriptTail_builtinR pl.typeIs slot_tuple_getitem.lookup
  (getItem_tuple pl (by lia) (by lia) (by rw[z0p,<-hl];exact h1) (by simpa using ew) ⟨rfl,fin⟩) hs
theorem c5y (its:List Value) (n j:Nat) (u:Value):Obj.mapSeq (·.setIfInBounds j u) {cls:=.type "list",data:=.seq its.toArray n}={cls:=.type "list",data:=.seq (its.set j u).toArray n}:=by
 simp[Obj.mapSeq]
theorem Inv.lst {pins:List (Addr×Obj)} {σ:St} {H:Hp} {s:Shared} {p:Addr} {xs:List V} (I:Inv X pins σ H s) (h:H p=some (.lst xs)) :
  ∃ (its:List Value) (n:Nat),a2e xs its/\s.heap.get? p=some {cls:=.type "list",data:=.seq its.toArray n}/\xs.length<=sizeLine:=by
 obtain⟨z,its,n,r,e⟩:=I.hok p _ h;exact nx0 its n r e z
theorem Inv.lstUpd {σ:St} {its its':List Value} (I:Inv X pins σ H s) (h:H p=some (.lst xs))
  (ho:s.heap.get? p=some {cls:=.type "list",data:=.seq its.toArray n}) (hf:f {cls:=.type "list",data:=.seq its.toArray n}={cls:=.type "list",data:=.seq its'.toArray n'}) (r:a2e ys its') (hz:ys.length<=sizeLine) (t:Nat) :
  Inv X pins σ (upd H p (.lst ys)) {s with heap:=s.heap.update p f,toks:=t}:=by
 have e:(s.heap.update p f).get? p=some {cls:=.type "list",data:=.seq its'.toArray n'}:=by
  rw[z4k f ho (by rw[hf]<;>rfl),hf]
 refine I.write (by rw[h];trivial) (.inl rfl) (λ b u hb q=>(z4c _ _ (z1t hb)).trans q) ⟨_,e⟩ ?_;exact ⟨hz,nx9 its' n' r e⟩
def e5q:V->V->V->Hp->(Hp->Prop)->Prop:=λ o i v H Q=>∃ p xs k j,o=.ref p/\i=.int k/\H p=some (.lst xs)/\ixN xs.length k=some j/\Q (upd H p (.lst (xs.set j v)))
theorem d1x:e4c X e5q:=by
 intro pins s σ H o i v ov iv u Q I ro ri rv h;obtain⟨p,xs,k,j,rfl,rfl,hp,hj,q⟩:=h;cases ro;obtain⟨t,rfl⟩:=ri;obtain⟨its,n,r,ho,hz⟩:=I.lst hp;obtain⟨h1,h2,h3,h4⟩:=c9h hj;have hl:=r.length;have hn:=c7z;have I' :=
  I.lstUpd hp ho (c5y its n j u) (r.set rv j) (by rw[z3t];exact hz) s.toks
 by_cases h0:0<=k
 ·have hk:k.toNat=j:=by
   rw[seqIndex_of h0 h4] at h1;exact z0r h1
  exact W.ki_setAt ho h0 (by lia) (by rw[z0p,<-hl];exact h4) (by rw[hk];exact⟨_,I',q⟩)
 ·have hk:(k+(its.toArray.size:Int)).toNat=j:=by
   rw[seqIndex_neg (by lia) h3] at h1;rw[z0p,<-hl];exact z0r h1
  exact W.ki_setBack ho (by lia) (by rw[z0p,<-hl];exact h3) (by lia) (by rw[hk];exact⟨_,I',q⟩)
theorem b8m (lo hi:Option Int) (n:Nat):(sliceBounds lo hi none n).1=((HT.sIx n 0 lo:Nat):Int)/\(sliceBounds lo hi none n).2.1=((HT.sIx n n hi:Nat):Int)/\(sliceBounds lo hi none n).2.2=1:=by
 refine⟨?_,?_,rfl⟩
 ·cases lo with
  | none=>simp[sliceBounds,HT.sIx]
  | some i =>
   simp only [sliceBounds,HT.sIx,Option.getD_none,show (1:Int) > 0 by decide,if_true];by_cases h:i < 0
   ·simp only [h,if_true]<;>lia
   ·simp only [h,z2h]<;>lia
 ·cases hi with
  | none=>simp[sliceBounds,HT.sIx]
  | some i =>
   simp only [sliceBounds,HT.sIx,Option.getD_none,show (1:Int) > 0 by decide,if_true];by_cases h:i < 0
   ·simp only [h,if_true]<;>lia
   ·simp only [h,z2h]<;>lia
theorem b7j (its:List Value) (lo hi:Option Int):slicePick its.toArray lo hi none=((its.drop (HT.sIx its.length 0 lo)).take (HT.sIx its.length its.length hi - HT.sIx its.length 0 lo)).toArray:=by
 obtain⟨h1,h2,h3⟩:=b8m lo hi its.toArray.size;unfold slicePick;rw[h1,h2,h3];simp only [sliceRange_one,pick_run,z0p]<;>rfl
def e7g (K:W.Frag):V->Option Int->Option Int->Hp->VK->Prop:=λ x lo hi H Q=>∃ a xs,x=.ref a/\SqL K H a xs/\∀ p,H p=none->Q (.ref p) (upd H p (.lst (d1k xs lo hi)))
theorem b7p:SlR X (e7g X.K):=by
 intro pins s σ H x v vl vu lo hi sl Q I rx hs pl pu h;obtain⟨a,xs,rfl,hx,q⟩:=h;cases rx;obtain⟨its,r,ht,hz⟩:=I.list hx;have hlen:=r.length;refine nx0 ("list") _ slot_list_getitem.lookup ht.isList.typeIs ?_;refine wpAny_getItem_list_slice ht.isList hs pl pu .none (by simp) ?_ (by rw[z0p]<;>lia);rw[b7j,<-hlen];refine nx0 (.ref s.heap.objs.size) _ (I.laid (λ b ob q=>z0e _ q) (z05 _) ?_) rfl (q _ (I.hok.fresh (z05 _)));exact ⟨z0s (c2u xs lo hi) hz,nx9 _ 0 ((r.drop (HT.sIx xs.length 0 lo)).take (HT.sIx xs.length xs.length hi - HT.sIx xs.length 0 lo)) (z0t _ rfl)⟩
def tyV (K:W.Frag) (T:String) (x:V) (H:Hp):Prop:=match x with
 | .str _=>T="str"
 | .int _=>T="int"
 | .ref p=>(T="list"/\∃ xs,SqL K H p xs)\/(T="tuple"/\∃ o,K.lookup p=some o/\o.cls=.type "tuple"/\o.dict=none) \/
   (T="dict"/\((∃ kvs,H p=some (.dK kvs))\/∃ kvs,H p=some (.dT kvs)))\/(T="set"/\∃ S n,H p=some (.set S n))
 | _=>False
theorem d5l {σ:St} (I:Inv X pins σ H s) (r:a2d x v) (ty:tyV X.K T x H) :
  s.TypeIs v T/\∀ a,v=.ref a->∃ ob,s.heap.get? a=some ob/\ob.dict=none:=by
 cases x with
 | str z =>
  obtain⟨t,rfl⟩:=r;cases (ty);exact⟨typeIs_str s z t,λ _ e=>nomatch e⟩
 | int i =>
  obtain⟨t,rfl⟩:=r;cases (ty);exact⟨typeIs_int s i t,λ _ e=>nomatch e⟩
 | ref p =>
  cases r;rcases ty with ⟨rfl,xs,hq⟩ | ⟨rfl,o,hk,hc,hd⟩ | ⟨rfl,hk⟩ | ⟨rfl,S,n,hk⟩
  ·obtain⟨its,_,pl,_⟩:=I.list hq;refine⟨pl.isList.typeIs,λ a e=>?_⟩;cases e;obtain⟨o,n,e,c,hd,_⟩:=pl;exact⟨o,e,hd⟩
  ·refine⟨⟨o,I.kIn p o hk,hc⟩,λ a e=>?_⟩;cases e;exact⟨o,I.kIn _ o hk,hd⟩
  ·have z:∃ o,s.heap.get? p=some o/\o.ExactDict:=by
    rcases hk with ⟨kvs,hk⟩ | ⟨kvs,hk⟩
    ·obtain⟨_,_,_,_,o,_,_,e,ex,_⟩:=I.hok p _ hk;exact⟨o,e,ex⟩
    ·obtain⟨_,_,_,_,o,_,_,e,ex,_⟩:=I.hok p _ hk;exact⟨o,e,ex⟩
   obtain⟨o,e,ex⟩:=z;refine⟨⟨o,e,ex.1⟩,λ a e2=>?_⟩;cases e2;exact⟨o,e,ex.2.1⟩
  ·obtain⟨o,_,_,_,e,ex,_⟩:=I.hok p _ hk;refine⟨⟨o,e,ex.1⟩,λ a e2=>?_⟩;cases e2;exact⟨o,e,ex.2.1⟩
 | _=>exact False.elim ty
def e6j (K:W.Frag) (T:String) (r:V->List V->Hp->VK->Prop) (to:TE):TE:=λ σ H Q=>to σ H λ x H1=>tyV K T x H1/\r x [] H1 Q
def tBM (K:W.Frag) (T:String) (r:V->List V->Hp->VK->Prop) (to:TE) (t:TA):TE:=λ σ H Q=>to σ H λ x H1=>tyV K T x H1/\t σ H1 λ xs H2=>r x xs H2 Q
variable {o e:Expr} {es:List Expr} {to:TE} {t:TA} {name:Str} {apos cpos:Pos} {T id:String} {r:V->List V->Hp->VK->Prop}
theorem e0w (pa:PlainAttrs T) (slot:Slot T name id) (hty:typeOf (.builtin id)=pure (.type "method_descriptor")) (hm:MtR X id r) (ho:PE X o to)
  (hbase:attributeBase o name X.env (eval o X.env)=eval o X.env:=by rfl) (hline:(apos.endLine == cpos.line)=true:=by rfl):PE X (.Call (.Attribute o name apos) [] [] cpos) (e6j X.K T r to):=by
 constructor;intro pins s σ H Q I h;refine wpAny_Call_method0_late hbase hline (thn (ho pins s σ H _ I h) λ v s1 ⟨x,H1,I1,r1,ty,q1⟩=>?_);obtain⟨h1,h2⟩:=d5l I1 r1 ty;exact nx27 T id pa slot hty h1 h2 (z52 rfl (PySem.evalArgs_none (hm pins s1 σ H1 x [] v [] Q I1 r1 .nil q1)))
theorem a4q (pa:PlainAttrs T) (slot:Slot T name id) (hty:typeOf (.builtin id)=pure (.type "method_descriptor")) (hm:MtR X id r) (ho:PE X o to) (ha:PA X (e::es) t)
  (hbase:attributeBase o name X.env (eval o X.env)=eval o X.env:=by rfl)
  (hfew:((backTo cpos (starEach (e::es) X.env)).all (λ x=>!x.1) && (backToKw cpos (keywordEach [] X.env)).all (λ x=>x.1.isSome)
   && decide ((e::es).length+([]:List Keyword).length+(if ([]:List Keyword).isEmpty then 0 else 1) < 30))=true:=by rfl)
  (hline:(apos.endLine == cpos.line)=true:=by rfl) (hs:starEach (e::es) X.env=(false,eval e X.env)::starEach es X.env:=by rfl) (hplain:(backTo cpos (starEach es X.env)).any (·.1)=false:=by rfl) :
  PE X (.Call (.Attribute o name apos) (e::es) [] cpos) (tBM X.K T r to t):=by
 constructor;intro pins s σ H Q I h;refine wpAny_Call_method_late hbase hfew hline rfl (thn (ho pins s σ H _ I h) λ v s1 ⟨x,H1,I1,r1,ty,q1⟩=>?_);obtain⟨h1,h2⟩:=d5l I1 r1 ty;refine nx27 T id pa slot hty h1 h2 ?_;have hA:=ha cpos pins s1 σ H1 _ I1 q1;rw[hs] at hA ⊢;refine z52 (by show (false || (backTo cpos (starEach es X.env)).any (·.1))=false;rw[hplain]<;>rfl) (z5h ?_);exact thn hA λ us s2 ⟨vs,H2,I2,r2,q2⟩=>hm pins s2 σ H2 x vs v us Q I2 r1 r2 q2
end
end L2
namespace L2
open PySem PySem.Spec PyProof.Rows
def MtM (X:Cx) (id:String) (r:V->List V->Hp->VK->Prop):Prop :=
 ∀ (pins:List (Addr×Obj)) (s:Shared) (σ:St) (H:Hp) (x:V) (xs:List V) (v:Value) (us:List Value) (Q:VK),Inv X pins σ H s->a2d x v->a2e xs us->r x xs H Q ->
  wpAny (model X.prog X.w) X.A (call (.builtin id) (v::us)) (EP X pins σ Q) X.xe s
theorem a2e.one:∀ {x:V} {us:List Value},a2e [x] us->∃ u,us=[u]/\a2d x u
 | _,_,.cons r .nil=>⟨_,rfl,r⟩
theorem a2e.zero:∀ {us:List Value},a2e [] us->us=[]
 | _,.nil=>rfl
theorem a2e.eraseIdx:∀ {xs:List V} {us:List Value} (i:Nat),a2e xs us->a2e (xs.eraseIdx i) (us.eraseIdx i)
 | _,_,_,.nil=>.nil
 | _,_,0,.cons _ t=>t
 | _,_,i+1,.cons r t=>.cons r (a2e.eraseIdx i t)
theorem a2e.rep (h:a2e xs us):∀ k:Nat,a2e (List.replicate k xs).flatten (List.replicate k us).flatten
 | 0=>.nil
 | k+1=>by
  exact a2e.append h (a2e.rep h k)
theorem b9l {α:Type}:∀ (l:List α) (i:Nat),(l.eraseIdx i).length<=l.length
 | [],_=>z05 _
 | _::_,0=>z3o _
 | _::r,i+1=>Nat.succ_le_succ (b9l r i)
theorem b9m (its:List Value):∀ (k:Nat) (acc:List Value),
  List.foldl (λ x1 x2=>x1++x2) acc.toArray (List.replicate k its.toArray)=(acc++(List.replicate k its).flatten).toArray
 | 0,acc=>by simp
 | k+1,acc=>by
  have e:acc.toArray++its.toArray=(acc++its).toArray:=by simp
  have e2:(acc++its)++(List.replicate k its).flatten=acc++(List.replicate (k+1) its).flatten:=by
   rw[z6g,List.flatten_cons,z1c]
  rw[<-e2,<-b9m its k (acc++its),<-e,z6g,List.foldl_cons]
section
variable {X:Cx} {pins:List (Addr×Obj)} {σ:St} {H:Hp} {s:Shared} {l b:Addr} {xs ys zs:List V}
theorem Inv.lset {its its':List Value} (I:Inv X pins σ H s) (hH:H l=some (.lst xs))
  (e:s.heap.get? l=some {cls:=.type "list",data:=.seq its.toArray n}) (hf:f its.toArray=its'.toArray) (hv:a2e ys its') (hz:ys.length<=sizeLine) :
  Inv X pins σ (upd H l (.lst ys)) {s with heap:=s.heap.update l (Obj.mapSeq f),toks:=t'}:=by
 have q:=PySem.IsL.update e f;rw[hf] at q;refine I.write (by rw[hH];exact trivial) (.inl rfl) (λ b' u hb hu=>(z4c s.heap (Obj.mapSeq f) (z1t hb)).trans hu) ⟨_,q⟩ ?_;exact ⟨hz,nx9 its' _ hv q⟩
theorem Inv.lnew (I:Inv X pins σ H s) (hv:a2e ys its) (hz:ys.length<=sizeLine) :
  Inv X pins σ (upd H s.heap.objs.size (.lst ys)) {s with heap:=s.heap.push {cls:=.type "list",data:=.seq its.toArray},toks:=t'} :=
 I.laid (λ _ _ q=>z0e _ q) (z05 _) (⟨hz,nx9 its 0 hv (z0t _ rfl)⟩)
theorem Inv.fresh (I:Inv X pins σ H s):H s.heap.objs.size=none:=I.hok.fresh (z05 _)
theorem Inv.lstM (I:Inv X pins σ H s) (hH:H l=some (.lst xs)):xs.length<=sizeLine/\∃ (its:List Value) (n:Nat),a2e xs its/\xs.length=its.length/\s.heap.get? l=some {cls:=.type "list",data:=.seq its.toArray n}:=by
 obtain⟨z,its,n,r,e⟩:=I.hok l _ hH;exact ⟨z,nx0 its n r r.length e⟩
theorem c4i (h:n<=sizeLine):Builtin.List.listTooLong n=false:=by
 exact z0n (by lia)
end
section
variable {X:Cx}
def rAppend:V->List V->Hp->VK->Prop:=λ x vs H Q=>∃ l xs y,x=.ref l/\vs=[y]/\H l=some (.lst xs)/\xs.length < sizeLine/\Q .non (upd H l (.lst (xs++[y])))
theorem c0i:MtM X "list.append" rAppend:=by
 intro pins s σ H x vs v us Q I rx rv h;obtain⟨l,xs,y,rfl,rfl,hH,hz,q⟩:=h;cases rx;obtain⟨u,rfl,ru⟩:=rv.one;obtain⟨z,its,n,r,hl,e⟩:=I.lstM hH;refine z3r F.slot_list_append ⟨_,e,rfl⟩ F.entry_list_append (F.args_list_append_2 _ _) (PySem.list_append l its.toArray n u (by rw[z0p];lia)) ⟨e,?_⟩;refine nx0 (.non) _ (I.lset hH e (by simp) (r.append (.cons ru .nil)) ?_) rfl q;rw[z0j,z5u];lia
def rExtend:V->List V->Hp->VK->Prop:=λ x vs H Q=>∃ l b xs zs,x=.ref l/\vs=[.ref b]/\H l=some (.lst xs)/\H b=some (.lst zs)/\xs.length+zs.length<=sizeLine/\Q .non (upd H l (.lst (xs++zs)))
theorem a2n:MtM X "list.extend" rExtend:=by
 intro pins s σ H x vs v us Q I rx rv h;obtain⟨l,b,xs,zs,rfl,rfl,hH,hB,hz,q⟩:=h;cases rx;obtain⟨u,rfl,ru⟩:=rv.one;cases ru;obtain⟨z,its,n,r,hl,e⟩:=I.lstM hH;obtain⟨z2,its2,n2,r2,hl2,e2⟩:=I.lstM hB;have hsz:its.toArray.size+its2.toArray.size<=sizeLine:=by rw[z0p,z0p];lia
 have hlong:¬ (!its.toArray.isEmpty && Builtin.List.listTooLong (its.toArray.size+its2.toArray.size))=true:=by
  rw[c4i hsz,Bool.and_false];exact z1k
 refine z3r F.slot_list_extend ⟨_,e,rfl⟩ F.entry_list_extend (F.args_list_extend_2 _ _)
  (AutoSeq1.list_extend_list_list_0 l its.toArray n b its2.toArray n2 hlong (by rw[z0p];lia) (by lia)) ⟨e,e2,?_⟩
 refine nx0 (.non) _ (I.lset hH e (by simp) (r.append r2) ?_) rfl q;rw[z0j];lia
def rPopAt:V->List V->Hp->VK->Prop:=λ x vs H Q=>∃ l xs i k y,x=.ref l/\vs=[.int i]/\H l=some (.lst xs)/\-(2 ^ 63)<=i/\i < 2 ^ 63/\seqIndex? i xs.length=some k/\xs[k]?=some y/\Q y (upd H l (.lst (xs.eraseIdx k)))
theorem d4n:MtM X "list.pop" rPopAt:=by
 intro pins s σ H x vs v us Q I rx rv h;obtain⟨l,xs,i,k,y,rfl,rfl,hH,h1,h2,hk,hy,q⟩:=h;cases rx;obtain⟨u,rfl,ru⟩:=rv.one;obtain⟨t,rfl⟩:=ru;obtain⟨z,its,n,r,hl,e⟩:=I.lstM hH;obtain⟨w,hw,rw'⟩:=r.get hy;refine z3r F.slot_list_pop ⟨_,e,rfl⟩ F.entry_list_pop (F.args_list_pop_2 _ _)
  (MeetsSeq.list_pop_at l its.toArray n i t k w (fitsIndex_both h1 h2) (by rw[z0p,<-hl];exact hk) (by rw[<-z0u];exact hw) (by rw[z0p];lia)) ⟨e,?_⟩
 refine nx0 y _ (I.lset hH e ?_ (r.eraseIdx k) ?_) rw' q
 ·rw[List.eraseIdxIfInBounds_toArray]
 ·have:=b9l xs k;lia
def rClear:V->List V->Hp->VK->Prop:=λ x vs H Q=>∃ l xs,x=.ref l/\vs=[]/\H l=some (.lst xs)/\Q .non (upd H l (.lst []))
theorem d1s:MtM X "list.clear" rClear:=by
 intro pins s σ H x vs v us Q I rx rv h;obtain⟨l,xs,rfl,rfl,hH,q⟩:=h;cases rx;have hus:=rv.zero;subst hus;obtain⟨z,its,n,r,hl,e⟩:=I.lstM hH;refine z3r F.slot_list_clear ⟨_,e,rfl⟩ F.entry_list_clear (F.args_list_clear_1 _) (AutoSeq1.list_clear_list_0 l its.toArray n (by rw[z0p];lia)) ⟨e,?_⟩;exact nx0 (.non) _ (I.lset hH e rfl .nil (z0m _)) rfl q
def e7a:R2:=λ x y H Q=>∃ l b xs zs,x=.ref l/\y=.ref b/\H l=some (.lst xs)/\H b=some (.lst zs)/\xs.length+zs.length<=sizeLine/\∀ p,H p=none->Q (.ref p) (upd H p (.lst (xs++zs)))
theorem c4x:OpR X (binaryOp .Add) e7a:=by
 intro pins s σ H x y v u Q I rx ry h;obtain⟨l,b,xs,zs,rfl,rfl,hH,hB,hz,q⟩:=h;cases rx;cases ry;obtain⟨z,its,n,r,hl,e⟩:=I.lstM hH;obtain⟨z2,its2,n2,r2,hl2,e2⟩:=I.lstM hB;refine PySem.P.add_list e e2 ?_ (by rw[z0p,z0p];lia);have ea:its.toArray++its2.toArray=(its++its2).toArray:=by simp
 rw[ea];exact nx0 (.ref _) _ (I.lnew (r.append r2) (by rw[z0j];lia)) rfl (q _ I.fresh)
def e7b:R2:=λ x y H Q=>∃ l k xs,x=.ref l/\y=.int k/\H l=some (.lst xs)/\-(2 ^ 63)<=k/\k < 2 ^ 63/\xs.length*k.toNat<=sizeLine /\
 ∀ p,H p=none->Q (.ref p) (upd H p (.lst (List.replicate k.toNat xs).flatten))
theorem d7j {α:Type} (xs:List α) (k:Nat):(List.replicate k xs).flatten.length=k*xs.length:=by
 induction k with
 | zero=>simp
 | succ k ih=>rw[z6g,List.flatten_cons,z0j,ih,Nat.succ_mul,Nat.add_comm]
theorem d5h:OpR X (binaryOp .Mult) e7b:=by
 intro pins s σ H x y v u Q I rx ry h;obtain⟨l,k,xs,rfl,rfl,hH,h1,h2,hz,q⟩:=h;cases rx;obtain⟨t,rfl⟩:=ry;obtain⟨z,its,n,r,hl,e⟩:=I.lstM hH;have hlen:its.toArray.size*k.toNat<=sizeLine:=by rw[z0p,<-hl];exact hz
 have hcap:¬ its.toArray.size*k.toNat > (2 ^ 63 - 1) / 8:=by
  have:(sizeLine:Nat)<=(2 ^ 63 - 1) / 8:=by decide
  lia
 have hfit:¬ (!Builtin.List.listFitsIndex k)=true:=by
  rw[fitsIndex_both h1 h2];exact z1k
 have hlong:¬ Builtin.List.listTooLong (its.toArray.size*k.toNat)=true:=by
  rw[c4i hlen];exact z1k
 have hnew:List.foldl (λ x1 x2=>x1++x2) #[] (List.replicate (if its.toArray.isEmpty=true then 0 else k.toNat) its.toArray)=(List.replicate k.toNat its).flatten.toArray:=by
  have f0:=λ m=>by
   have:=b9m its m [];rw[List.nil_append] at this;exact this
  rw[f0];cases its with
  | nil=>simp
  | cons a r'=>rw[z01 (by simp)]
 refine wpAny_binaryOp_repeat_ref (by decide) ⟨_,e,rfl⟩ (λ s'=>typeIs_int s' k t) noFill_list_mul F.fills_int_mul F.slot_int_rmul repeat_list F.slot_int_index.lookup
  (z3r F.slot_int_rmul (typeIs_int s k t) F.entry_int_rmul (F.args_int_rmul_2 _ _) (int___rmul___int_list k t l its.toArray n)
   ⟨e,rfl,⟨_,e,rfl⟩,z3r F.slot_list_mul ⟨_,e,rfl⟩ F.entry_list_mul (F.args_list_mul_2 _ _) (AutoListH.list___mul___list_int_3 l its.toArray n k t hfit hcap hlong) ⟨e,?_⟩⟩)
 rw[hnew];exact nx0 (.ref _) _ (I.lnew (r.rep k.toNat) (by rw[d7j,Nat.mul_comm];exact hz)) rfl (q _ I.fresh)
end
end L2
namespace L2
open PySem PySem.Spec PyProof.Rows
section
variable {κ:Type} [DecidableEq κ]
def a1r (kvs:List (κ×V)) (k:κ):Option V:=(kvs.find? λ kv=>decide (kv.1=k)).map (·.2)
def a3t (kvs:List (κ×V)) (k:κ) (v:V):List (κ×V) :=
 if (kvs.any λ kv=>decide (kv.1=k))=true then kvs.map (λ kv=>if kv.1=k then (kv.1,v) else kv) else kvs++[(k,v)]
def e3t (kvs:List (κ×V)) (k:κ):List (κ×V):=kvs.filter λ kv=>decide (kv.1≠k)
theorem a2v {k:κ} (e:p.1=k):a1r (p::r) k=some p.2:=by simp[a1r,z3c,e]
theorem a2w {k:κ} (e:¬ p.1=k):a1r (p::r) k=a1r r k:=by simp[a1r,z3c,e]
theorem b1x (k:κ):∀ kvs:List (κ×V),(kvs.any λ kv=>decide (kv.1=k))=(a1r kvs k).isSome
 | []=>rfl
 | p::r=>by
  rw[List.any_cons];by_cases e:p.1=k
  ·simp only [a2v e,z08 e,Bool.true_or,Option.isSome_some]
  ·rw[a2w e,z0n e,Bool.false_or];exact b1x k r
theorem c2y (k j:κ) (y:V):∀ kvs:List (κ×V),a1r (kvs.map λ kv=>if kv.1=k then (kv.1,y) else kv) j=(a1r kvs j).map λ x=>if j=k then y else x
 | []=>rfl
 | p::r=>by
  have ih:=c2y k j y r;rw[z0w];by_cases h:p.1=k
  ·rw[z02 h];by_cases e:p.1=j
   ·rw[a2v (p:=(p.1,y)) e,a2v e,z65,z02 (e.symm.trans h)]
   ·rw[a2w (p:=(p.1,y)) e,a2w e,ih]
  ·rw[z01 h];by_cases e:p.1=j
   ·rw[a2v e,a2v e,z65,z01 (λ z=>h (e.trans z))]
   ·rw[a2w e,a2w e,ih]
theorem b8s (k j:κ) (y:V):∀ kvs:List (κ×V),a1r kvs k=none->a1r (kvs++[(k,y)]) j=if j=k then some y else a1r kvs j
 | [],_=>by
  by_cases e:k=j
  ·rw[z02 e.symm];exact a2v e
  ·rw[z01 (λ z=>e z.symm)];exact a2w e
 | p::r,hn=>by
  rw[List.cons_append];have hk:¬ p.1=k:=λ z=>by rw[a2v z] at hn;cases hn
  rw[a2w hk] at hn;have ih:=b8s k j y r hn;by_cases e:p.1=j
  ·rw[a2v e,a2v e,z01 (λ z=>hk (e.trans z))]
  ·rw[a2w e,a2w e,ih]
theorem a7m (kvs:List (κ×V)) (k j:κ) (y:V):a1r (a3t kvs k y) j=if j=k then some y else a1r kvs j:=by
 unfold a3t;by_cases a:(kvs.any λ kv=>decide (kv.1=k))=true
 ·rw[z02 a,c2y];rw[b1x] at a;by_cases e:j=k
  ·obtain⟨x,hx⟩:=Option.isSome_iff_exists.mp a;rw[z02 e,e,hx,z65,z02 rfl]
  ·rw[z01 e];cases a1r kvs j with
   | none=>rfl
   | some x=>rw[z65,z01 e]
 ·rw[z01 a];refine b8s k j y kvs ?_;rw[b1x] at a;cases q:a1r kvs k with
  | none=>rfl
  | some x=>rw[q] at a;exact(a rfl).elim
theorem a2c (kvs:List (κ×V)) (k:κ) (v:V):(a3t kvs k v).length<=kvs.length+1:=by
 unfold a3t;split
 ·rw[z04];lia
 ·rw[z0j,z17,z3h];lia
theorem b4f.isSome_eq (r:b4f o u):o.isSome=u.isSome:=by
 cases o with
 | none=>cases u with
  | none=>rfl
  | some _=>exact(r).elim
 | some _=>cases u with
  | none=>exact(r).elim
  | some _=>rfl
theorem b4f.getD (r:b4f o u) (rd:a2d d d'):a2d (o.getD d) (u.getD d'):=by
 cases o with
 | none=>cases u with
  | none=>exact rd
  | some _=>exact(r).elim
 | some _=>cases u with
  | none=>exact(r).elim
  | some _=>exact r
theorem KV.val (r:KV kvs vs) (k:κ):b4f (a1r kvs k) (valueAt vs k):=by
 induction r with
 | nil=>exact True.intro
 | @cons p q ps qs h t ih =>
  obtain⟨h1,h2⟩:=h;by_cases e:p.1=k
  ·have e':=h1.symm.trans e;have b:valueAt (q::qs) k=some q.2:=by simp[valueAt,z3c,e']
   rw[a2v e,b];exact h2
  ·have e':¬ q.1=k:=λ z=>e (h1.trans z)
   have b:valueAt (q::qs) k=valueAt qs k:=by simp[valueAt,z3c,e']
   rw[a2w e,b];exact ih
theorem KV.any (r:KV kvs vs) (k:κ):(kvs.any λ kv=>decide (kv.1=k))=vs.any λ kv=>decide (kv.1=k):=by
 induction r with
 | nil=>rfl
 | cons h t ih=>rw[List.any_cons,List.any_cons,ih,h.1]
theorem KV.repl (r:KV kvs vs) (k:κ) (ry:a2d y u) :
  KV (kvs.map λ kv=>if kv.1=k then (kv.1,y) else kv) (vs.map λ kv=>if kv.1=k then (kv.1,u) else kv):=by
 induction r with
 | nil=>exact .nil
 | @cons p q ps qs h t ih =>
  rw[z0w,z0w];refine .cons ?_ ih;obtain⟨h1,h2⟩:=h;by_cases e:p.1=k
  ·rw[z02 e,z02 (h1.symm.trans e)];exact⟨h1,ry⟩
  ·rw[z01 e,z01 (λ z=>e (h1.trans z))];exact⟨h1,h2⟩
theorem KV.put (r:KV kvs vs) (k:κ) (ry:a2d y u):KV (a3t kvs k y) (stored vs k u):=by
 unfold a3t stored;rw[r.any k];by_cases e:(vs.any λ kv=>decide (kv.1=k))=true
 ·rw[z02 e,z02 e];exact r.repl k ry
 ·rw[z01 e,z01 e];exact Paired.snoc r ⟨rfl,ry⟩
theorem KV.drop (r:KV kvs vs) (k:κ):KV (e3t kvs k) (without vs k):=by
 unfold e3t without;induction r with
 | nil=>exact .nil
 | @cons p q ps qs h t ih =>
  obtain⟨h1,h2⟩:=h;rw[z3b,z3b];by_cases e:p.1=k
  ·have a:¬ decide (p.1≠k)=true:=by simp[e]
   have b:¬ decide (q.1≠k)=true:=by simp[h1.symm.trans e]
   rw[z01 a,z01 b];exact ih
  ·have e':¬ q.1=k:=λ z=>e (h1.trans z)
   have a:decide (p.1≠k)=true:=by simp[e]
   have b:decide (q.1≠k)=true:=by simp[e']
   rw[z02 a,z02 b];exact .cons ⟨h1,h2⟩ ih
theorem KV.keys {kvs:List (κ×V)} {vs:List (κ×Value)} (r:KV kvs vs):kvs.map (·.1)=vs.map (·.1):=by
 induction r with
 | nil=>rfl
 | cons h t ih=>rw[z0w,z0w,ih,h.1]
theorem KV.length {vs:List (κ×Value)} (r:KV kvs vs):kvs.length=vs.length:=z46 r
end
theorem c2e (r:a2d (kV k) u):(a0y P w).is k u=true:=by
 cases k with
 | inl i=>obtain⟨t,e⟩:=(r);subst e;exact c1d P w i t
 | inr x=>obtain⟨t,e⟩:=(r);subst e;exact c1w P w x t
theorem b3s:∀ {ks:List Key} {us:List Value},a2e (ks.map kV) us->ItemsAre (a0y P w) ks us
 | [],_,r=>by rw[List.map_nil] at r;cases r;exact .nil
 | k::ks,_,r=>by
  cases r with
  | cons h t=>exact .cons (c2e h) (b3s t)
abbrev KT (H:Hp):List (List Key×V)->List (List Key×Addr×Value)->Prop:=Paired λ p q=>p.1=q.1/\H q.2.1=some (.tup (p.1.map kV))/\a2d p.2 q.2.2
theorem KT.val {H:Hp} {kvs:List (List Key×V)} {xs:List (List Key×Addr×Value)} (r:KT H kvs xs) (k:List Key):b4f (a1r kvs k) ((atKey xs k).map (·.2)):=by
 induction r with
 | nil=>exact True.intro
 | @cons p q ps qs h t ih =>
  obtain⟨h1,_,h2⟩:=h;by_cases e:p.1=k
  ·have e':=h1.symm.trans e;have b:atKey (q::qs) k=some q.2:=by simp[atKey,z3c,e']
   rw[a2v e,b];exact h2
  ·have e':¬ q.1=k:=λ z=>e (h1.trans z)
   have b:atKey (q::qs) k=atKey qs k:=by simp[atKey,z3c,e']
   rw[a2w e,b];exact ih
theorem KT.repl (r:KT H kvs xs) (k:List Key) (ry:a2d y u) :
  KT H (kvs.map λ kv=>if kv.1=k then (kv.1,y) else kv) (xs.map (putAt k u)):=by
 induction r with
 | nil=>exact .nil
 | @cons p q ps qs h t ih =>
  rw[z0w,z0w];refine .cons ?_ ih;obtain⟨h1,h2,h3⟩:=h;unfold putAt;by_cases e:p.1=k
  ·rw[z02 e,z02 (h1.symm.trans e)];exact⟨h1,h2,ry⟩
  ·rw[z01 e,z01 (λ z=>e (h1.trans z))];exact⟨h1,h2,h3⟩
theorem KT.put (r:KT H kvs xs) (k:List Key) (hb:H b=some (.tup (k.map kV))) (ry:a2d y u) :
  KT H (a3t kvs k y) (storedH xs k b u):=by
 have e:(kvs.any λ kv=>decide (kv.1=k))=(atKey xs k).isSome:=by
  rw[b1x,(r.val k).isSome_eq,Option.isSome_map]
 unfold a3t storedH;rw[e];by_cases q:(atKey xs k).isSome=true
 ·rw[z02 q,z02 q];exact r.repl k ry
 ·rw[z01 q,z01 q];exact Paired.snoc r ⟨rfl,hb,ry⟩
theorem KT.keeps (r:KT H kvs xs) (ht:∀ b ys,H b=some (.tup ys)->H' b=some (.tup ys)):KT H' kvs xs :=
 Paired.mapP r λ _ _ z=>⟨z.1,ht _ _ z.2.1,z.2.2⟩
section
variable {P:Program} {w:World} {H:Hp} {h:Heap} {a:Addr}
theorem e0n (ok:HOk P w H h) (e:Rd H a u):a2r P w H h a u:=e.ok ok
theorem b6d (ok:HOk P w H h) (e:Rd H a (.dK kvs)):kvs.length<=sizeLine/\(a == sysModules)=false/\∃ vs,KV kvs vs/\h.DictOf (a0y P w) a vs :=
 show a2r P w H h a (.dK kvs) from e0n ok e
theorem d7l (ok:HOk P w H h) (e:H a=some (.dK kvs)):kvs.length<=sizeLine/\(a == sysModules)=false/\∃ vs,KV kvs vs/\h.DictOf (a0y P w) a vs:=b6d ok (.inl e)
theorem b5f (ok:HOk P w H h) (e:H a=some (.tup (ks.map kV))):(tupleKind (a0y P w)).is h ks a:=by
 obtain⟨_,its,r,o,h1,h2,n,h3⟩:=(ok a _ e);exact nx4 o its.toArray n h1 h2 h3 (by simpa using b3s r)
theorem c5r (ok:HOk P w H h) (e:Rd H a (.dT kvs)):kvs.length<=sizeLine/\(a == sysModules)=false /\
  ∃ xs,KT H kvs xs/\h.DictOfH (tupleKind (a0y P w)) a xs:=by
 obtain⟨z,y,xs,r,o,es,ep,h1,h2,h3,h4,h5⟩:=(show a2r P w H h a (.dT kvs) from e0n ok e);refine ⟨z,y,nx11 xs r o (nx27 es ep h1 h2 h3 h4 (λ x hx=>?_) h5)⟩;have all:∀ {l:List (List Key×V)} {m:List (List Key×Addr×Value)},KT H l m->∀ x∈m,(tupleKind (a0y P w)).is h x.1 x.2.1:=by
  intro l m q;induction q with
  | nil=>intro x hx;exact nomatch hx
  | @cons p q ps qs hq t ih =>
   intro x hx;rcases z0a.mp hx with e | hx
   ·subst e;exact b5f ok (by rw[<-hq.1];exact hq.2.1)
   ·exact ih x hx
 exact all r x hx
theorem e3d (ok:HOk P w H h) (e:H a=some (.dT kvs)):kvs.length<=sizeLine/\(a == sysModules)=false /\
  ∃ xs,KT H kvs xs/\h.DictOfH (tupleKind (a0y P w)) a xs:=c5r ok (.inl e)
end
def b0y (H:Hp) (a:Addr) (y:V) (r:Option V):Prop :=
 (∃ kvs k,Rd H a (.dK kvs)/\y=kV k/\r=a1r kvs k)\/∃ kvs k b,Rd H a (.dT kvs)/\y=.ref b/\H b=some (.tup (k.map kV))/\r=a1r kvs k
def d1m (H:Hp) (a:Addr) (y v:V) (H':Hp):Prop :=
 (∃ kvs k,H a=some (.dK kvs)/\y=kV k/\kvs.length < sizeLine/\H'=upd H a (.dK (a3t kvs k v))) \/
 ∃ kvs k b,H a=some (.dT kvs)/\y=.ref b/\H b=some (.tup (k.map kV))/\kvs.length < sizeLine/\H'=upd H a (.dT (a3t kvs k v))
theorem b0y.k {k:Key} (e:H a=some (.dK kvs)):b0y H a (kV k) (a1r kvs k):=.inl (nx0 kvs k (.inl e) rfl rfl)
theorem d1m.k {k:Key} (e:H a=some (.dK kvs)) (hl:kvs.length < sizeLine):d1m H a (kV k) v (upd H a (.dK (a3t kvs k v))):=.inl (nx8 kvs k e rfl hl rfl)
theorem d1m.t {k:List Key} (e:H a=some (.dT kvs)) (eb:H b=some (.tup (k.map kV))) (hl:kvs.length < sizeLine) :
  d1m H a (.ref b) v (upd H a (.dT (a3t kvs k v))):=.inr (nx17 kvs k b e rfl eb hl rfl)
section
variable {X:Cx} {pins:List (Addr×Obj)} {σ:St} {H:Hp} {s:Shared} {a:Addr} {y v:V} {u r:Value} {o:Option V} {A:Around} {E:Value->Shared->Prop}
theorem Inv.big (I:Inv X pins σ H s):sysModules < s.heap.objs.size:=by
 have h:=(I.mod.glob.keeps I.bk).lt;exact z56 (by decide) h
theorem c7g (hu:A.units+1 < cLine) (I:Inv X pins σ H s) (g:b0y H a y (some v)) (ry:a2d y u) (h:∀ w' s',Inv X pins σ H s'->a2d v w'->Q w' s') :
  wpAny (model X.prog X.w) A (getItem (.ref a) u) Q E s:=by
 rcases g with ⟨kvs,k,e,ey,l⟩ | ⟨kvs,k,b,e,ey,eb,l⟩
 ·subst ey;obtain⟨z,hd,vs,rel,dd⟩:=b6d I.hok e;obtain⟨w',hw,rw'⟩:=b4f.some_of (by rw[l];exact rel.val k);exact wpAny_getItem_of (c2e ry) dd.mapOf hw (h w' _ (I.tok _) rw')
 ·subst ey;cases (ry);obtain⟨z,hd,xs,rel,dd⟩:=c5r I.hok e;obtain⟨w',hw,rw'⟩:=b4f.some_of (v:=v) (by rw[l];exact rel.val k);obtain⟨p,hp,hp2⟩:=z1z.mp hw;refine wpAny_getItem_heap (z6a hu) (b5f I.hok eb) dd hp ?_;rw[hp2];exact h w' _ (I.tok _) rw'
theorem b6b (I:Inv X pins σ H s) (mu:Mut (H a)) (hs:Heap.SameBut a s.heap h') (he:∃ q,h'.get? a=some q) (new:a2r X.prog X.w (upd H a ob) h' a ob) :
  Inv X pins σ (upd H a ob) {s with heap:=h',toks:=t'} :=
 I.write mu (.inl rfl) (λ b q hb z=>(hs.2 b hb).trans z) he new
theorem d1a (z:kvs.length<=sizeLine) (hd:(a == sysModules)=false) (rel:KV kvs vs) (dd:h'.DictOf (a0y P w) a vs) :
  a2r P w H' h' a (.dK kvs):=⟨z,hd,vs,rel,dd⟩
theorem c9m (hu:A.units+1 < cLine) (I:Inv X pins σ H s) (g:d1m H a y v H') (ry:a2d y u) (rv:a2d v r) (h:∀ s',Inv X pins σ H' s'->Q () s') :
  wpAny (model X.prog X.w) A (setItem (.ref a) u r) Q E s:=by
 rcases g with ⟨kvs,k,e,ey,l,eH⟩ | ⟨kvs,k,b,e,ey,eb,l,eH⟩
 ·subst ey eH;obtain⟨z,hd,vs,rel,dd⟩:=d7l I.hok e;have hz:vs.length<=sizeLine:=by rw[<-rel.length];exact z
  have hl:(a3t kvs k v).length<=sizeLine:=by have:=a2c kvs k v;lia
  refine wpAny_setItem_pairs (c2e ry) dd λ h' dd' hs=>h _ ?_
  have he:∃ q,h'.get? a=some q:=let ⟨q,_,_,hq,_⟩:=dd';⟨q,hq⟩
  exact b6b I (by rw[e];exact True.intro) hs he (d1a hl hd (rel.put k rv) dd')
 ·subst ey eH;cases (ry);obtain⟨z,hd,xs,rel,dd⟩:=e3d I.hok e;have hz:xs.length<=sizeLine:=by rw[<-z46 rel];exact z
  have hl:(a3t kvs k v).length<=sizeLine:=by have:=a2c kvs k v;lia
  refine wpAny_setItem_heap (z6a hu) (b5f I.hok eb) dd λ h' dd' hs=>h _ ?_
  obtain⟨q,es,ep,hq,h2,h3,h4,_,h5⟩:=dd';refine b6b I (by rw[e];exact True.intro) hs ⟨q,hq⟩ (⟨hl,hd,nx11 _ ((rel.put k eb rv).keeps λ c ys ec=>?_) q (nx12 es ep hq h2 h3 h4 h5)⟩);rw[a0g (e1v ec e (λ z=>nomatch z))];exact ec
end
section
variable {X:Cx} {pins:List (Addr×Obj)} {σ:St} {H:Hp} {s:Shared} {a:Addr} {kvs:List (Key×V)} {k:Key} {u:Value} {A:Around} {E:Value->Shared->Prop}
theorem e5t (I:Inv X pins σ H s) (e:Rd H a (.dK kvs)) (h:∀ t s',Inv X pins σ H s'->Q (.int kvs.length t) s'):wpAny (model X.prog X.w) A (call (.builtin "len") [.ref a]) Q E s:=by
 obtain⟨z,hd,vs,rel,dd⟩:=b6d I.hok e;refine call_len_dict hd dd (by rw[<-rel.length];rw[sizeLine_eq] at z;lia) ?_;rw[<-rel.length];exact h _ _ (I.tok _)
end
def e6k (i:Expr):Prop:=∀ ov iv,subscripted i false ov iv=operate [ov,iv] (getItem ov iv)
theorem d6l {T id:String}
  (hl:typeLookup (.type T) "__getitem__"=pure (some (.builtin id))) (hs:e6k slice)
  (h:wpAny (model prog w) A (eval value env) (λ o s₁=>wpAny (model prog w) A (eval slice env) (λ i s₂=>s₂.TypeIs o T/\wpAny (model prog w) A (getItem o i) Q E s₂) E s₁) E s) :
  wpAny (model prog w) A (eval (.Subscript value slice pos) env) Q E s:=by
 refine Subscript_ (z1b h (λ o s₁ h₁=>z1b h₁ (λ i s₂ h₂=>?_) λ _ _ x=>x) λ _ _ x=>x);obtain⟨hT,h₂⟩:=h₂;refine z00 ?_;refine z00 (z30 hT hl ?_);have fin:wpAny (model prog w) A (subscripted slice false o i) (λ r s₃=>wpAny (model prog w) A (letTemporaryGo value o r>>=λ _=>pure r) Q E s₃) E s₂:=by
  rw[hs o i];exact wpAny_operating (z1b h₂ (λ r s₃ h₃=>z00 (wpAny_letTemporaryGo (z03 h₃))) λ _ _ x=>x)
 first
  | exact z03 (z00 fin)
  | exact z00 (z03 (z00 fin))
  | exact z00 fin
theorem c1o {σ:St} (I:Inv X pins σ H s) (g:b0y H a y o):s.TypeIs (.ref a) "dict":=by
 rcases g with ⟨kvs,k,e,_,_⟩ | ⟨kvs,k,b,e,_,_,_⟩
 ·obtain⟨_,_,vs,_,dd⟩:=b6d I.hok e;exact dd.typeIs
 ·obtain⟨_,_,xs,_,dd⟩:=c5r I.hok e;exact dd.typeIs
def e4d (td ty:TE):TE:=λ σ H Q=>td σ H λ x H1=>ty σ H1 λ y H2=>∃ a v,x=.ref a/\b0y H2 a y (some v)/\Q v H2
def e4y (td ty tv:TE):TS:=λ D σ H=>tv σ H λ v H1=>td σ H1 λ x H2=>ty σ H2 λ y H3=>∃ a H4,x=.ref a/\d1m H3 a y v H4/\D.nx σ H4
section
variable {X:Cx} {o i e value:Expr} {pos pos' tpos:Pos} {td ty tv:TE}
theorem a2o (hu:X.A.units+1 < cLine) (ho:PE X o td) (hi:PE X i ty) (hs:e6k i):PE X (.Subscript o i pos) (e4d td ty):=by
 constructor;intro pins s σ H Q I h;refine d6l F.slot_dict_getitem.lookup hs (thn (ho pins s σ H _ I h) λ u s1 ⟨x,H1,I1,rx,q1⟩=>thn (hi pins s1 σ H1 _ I1 q1) λ iv s2 ⟨y,H2,I2,ry,a,v,ex,g,q2⟩=>?_);subst ex;obtain rfl:u=Value.ref a:=rx;exact⟨c1o I2 g,c7g hu I2 g ry λ w' s3 I3 rw'=> nx0 v H2 I3 rw' q2⟩
theorem b5x (hu:X.A.units+1 < cLine) (ho:PE X o td) (hi:PE X i ty) (hv:PE X value tv) (hs:swapsWith value (some (.Subscript o i pos')) pos.line X.env=pure false) :
  PS X (.Assign [.Subscript o i pos'] value pos) (e4y td ty tv):=by
 constructor;intro pins s σ H D I h;refine wpAny_Assign_Subscript (thn (hv pins s σ H _ I h) λ r s1 ⟨v,H1,I1,rv,q1⟩=>thn (ho pins s1 σ H1 _ I1 q1) λ u s2 ⟨x,H2,I2,rx,q2⟩=>thn (hi pins s2 σ H2 _ I2 q2) λ iv s3 ⟨y,H3,I3,ry,a,H4,ex,g,q3⟩=>?_) hs;subst ex;obtain rfl:u=Value.ref a:=rx;exact c9m hu I3 g ry rv λ s4 I4=> nx9 σ H4 I4 q3
end
theorem d1u (h:Heap) (hb:sysModules < h.objs.size):a2r P w H (h.push {cls:=.type "dict",data:=.dict #[]}) h.objs.size (.dK []) :=
 ⟨z0m _,z3q.mpr (z1t (z0k hb)),[],.nil,Heap.DictOf.new h⟩
theorem d4j (h:Heap) (hb:sysModules < h.objs.size):a2r P w H (h.push {cls:=.type "dict",data:=.dict #[]}) h.objs.size (.dT []) :=
 ⟨z0m _,z3q.mpr (z1t (z0k hb)),nx11 ([]) (.nil) _ (nx12 (#[]) 0 (z0t _ rfl) ⟨rfl,rfl,rfl⟩ rfl rfl List.nodup_nil)⟩
def e1s:TE:=λ _ H Q=>∀ p,H p=none->Q (.ref p) (upd H p (.dK []))
def e2s:TE:=λ _ H Q=>∀ p,H p=none->Q (.ref p) (upd H p (.dT []))
section
variable {X:Cx} {pos:Pos}
theorem a9i:PE X (.Dict [] [] pos) e1s:=⟨λ pins s σ H Q I h =>
 wpAny_Dict_empty (nx0 (.ref s.heap.objs.size) _ (I.laid (λ _ _ q=>z0e _ q) (z05 _) (d1u s.heap I.big)) rfl (h _ (I.hok.fresh (z05 _))))⟩
theorem c3k:PE X (.Dict [] [] pos) e2s:=⟨λ pins s σ H Q I h =>
 wpAny_Dict_empty (nx0 (.ref s.heap.objs.size) _ (I.laid (λ _ _ q=>z0e _ q) (z05 _) (d4j s.heap I.big)) rfl (h _ (I.hok.fresh (z05 _))))⟩
end
structure M1 (X:Cx) (o:Expr) (m:Str) (apos:Pos) (e:Expr) (cpos:Pos):Prop where
 base:attributeBase o m X.env (eval o X.env)=eval o X.env
 few:((backTo cpos (starEach [e] X.env)).all (λ x=>!x.1) && (backToKw cpos (keywordEach [] X.env)).all (λ x=>x.1.isSome)
  && decide (([e]:List Expr).length+([]:List Keyword).length+(if ([]:List Keyword).isEmpty then 0 else 1) < 30))=true
 line:(apos.endLine == cpos.line)=true
 trees:backTo cpos (starEach [e] X.env)=[(false,eval e X.env)]
structure M2 (X:Cx) (o:Expr) (m:Str) (apos:Pos) (e f:Expr) (cpos:Pos):Prop where
 base:attributeBase o m X.env (eval o X.env)=eval o X.env
 few:((backTo cpos (starEach [e,f] X.env)).all (λ x=>!x.1) && (backToKw cpos (keywordEach [] X.env)).all (λ x=>x.1.isSome)
  && decide (([e,f]:List Expr).length+([]:List Keyword).length+(if ([]:List Keyword).isEmpty then 0 else 1) < 30))=true
 line:(apos.endLine == cpos.line)=true
 trees:backTo cpos (starEach [e,f] X.env)=[(false,eval e X.env),(false,eval f X.env)]
def IsD (H:Hp) (a:Addr):Prop:=(∃ kvs,Rd H a (.dK kvs))\/∃ kvs,Rd H a (.dT kvs)
theorem c3g {σ:St} (I:Inv X pins σ H s) (d:IsD H a) :
  s.TypeIs (.ref a) "dict"/\(∀ b,Value.ref a=.ref b->∃ ob,s.heap.get? b=some ob/\ob.dict=none)/\(a == sysModules)=false:=by
 rcases d with ⟨kvs,e⟩ | ⟨kvs,e⟩
 ·obtain⟨_,hd,vs,_,dd⟩:=b6d I.hok e;refine⟨dd.typeIs,λ b q=>?_,hd⟩;cases q;obtain⟨ob,_,_,h1,h2,_⟩:=dd;exact⟨ob,h1,h2.2.1⟩
 ·obtain⟨_,hd,xs,_,dd⟩:=c5r I.hok e;refine⟨dd.typeIs,λ b q=>?_,hd⟩;cases q;obtain⟨ob,_,_,h1,h2,_⟩:=dd;exact⟨ob,h1,h2.2.1⟩
section
variable {X:Cx} {pins:List (Addr×Obj)} {σ:St} {H:Hp} {s:Shared} {a:Addr} {y d:V} {u r:Value} {o:Option V} {A:Around} {E:Value->Shared->Prop}
theorem e2f (hu:A.units+1 < cLine) (I:Inv X pins σ H s) (g:b0y H a y o) (ry:a2d y u) (h:∀ w' s',Inv X pins σ H s'->a2d (o.getD .non) w'->Q w' s') :
  wpAny (model X.prog X.w) A (call (.builtin "dict.get") [.ref a,u]) Q E s:=by
 rcases g with ⟨kvs,k,e,ey,l⟩ | ⟨kvs,k,b,e,ey,eb,l⟩
 ·subst ey;obtain⟨z,hd,vs,rel,dd⟩:=b6d I.hok e;refine call_meetsIn z50 dd.typeIs z6r (F.args_dict_get_2 _ _) (meets_dict_get (a0y X.prog X.w) a (c2e ry) hd) ⟨_,dd.mapOf,h _ _ (I.tok _) ?_⟩;rw[l];exact(rel.val k).getD rfl
 ·subst ey;cases (ry);obtain⟨z,hd,xs,rel,dd⟩:=c5r I.hok e;refine call_meetsIn z50 dd.typeIs z6r (F.args_dict_get_2 _ _) (meetsH_dict_get (tupleKind (a0y X.prog X.w)) a b hd) (⟨z6a hu,nx0 k xs (b5f I.hok eb) dd (h _ _ (I.tok _) ?_)⟩);rw[l];exact(rel.val k).getD rfl
theorem e3k (hu:A.units+1 < cLine) (I:Inv X pins σ H s) (g:b0y H a y o) (ry:a2d y u) (rd:a2d d r) (h:∀ w' s',Inv X pins σ H s'->a2d (o.getD d) w'->Q w' s') :
  wpAny (model X.prog X.w) A (call (.builtin "dict.get") [.ref a,u,r]) Q E s:=by
 rcases g with ⟨kvs,k,e,ey,l⟩ | ⟨kvs,k,b,e,ey,eb,l⟩
 ·subst ey;obtain⟨z,hd,vs,rel,dd⟩:=b6d I.hok e;refine call_meetsIn z50 dd.typeIs z6r (F.args_dict_get_3 _ _ _) (meets_dict_get_default (a0y X.prog X.w) a (c2e ry) hd r) ⟨_,dd.mapOf,h _ _ (I.tok _) ?_⟩;rw[l];exact(rel.val k).getD rd
 ·subst ey;cases (ry);obtain⟨z,hd,xs,rel,dd⟩:=c5r I.hok e;refine call_meetsIn z50 dd.typeIs z6r (F.args_dict_get_3 _ _ _) (meetsH_dict_get_default (tupleKind (a0y X.prog X.w)) a b hd r) (⟨z6a hu,nx0 k xs (b5f I.hok eb) dd (h _ _ (I.tok _) ?_)⟩);rw[l];exact(rel.val k).getD rd
end
def e1l (td ty:TE):TE:=λ σ H Q=>td σ H λ x H1=>∃ a,x=.ref a/\IsD H1 a/\ty σ H1 λ y H2=>∃ o,b0y H2 a y o/\Q (o.getD .non) H2
def e2p (td ty tx:TE):TE:=λ σ H Q=>td σ H λ x H1=>∃ a,x=.ref a/\IsD H1 a/\ty σ H1 λ y H2=>tx σ H2 λ z H3=>∃ o,b0y H3 a y o/\Q (o.getD z) H3
section
variable {X:Cx} {o e f:Expr} {apos cpos:Pos} {td ty tx:TE}
theorem b1z (hu:X.A.units+1 < cLine) (ho:PE X o td) (he:PE X e ty) (m:M1 X o "get" apos e cpos):PE X (.Call (.Attribute o "get" apos) [e] [] cpos) (e1l td ty):=by
 constructor;intro pins s σ H Q I h;refine z6p m.base m.few m.line z6e z50 F.type_dict_get (thn (ho pins s σ H _ I h) λ u s1 ⟨x,H1,I1,rx,a,ex,d,q1⟩=>?_);subst ex;obtain rfl:u=Value.ref a:=rx;obtain⟨t1,t2,_⟩:=c3g I1 d;refine⟨t1,t2,?_⟩;rw[m.trees];refine z52 rfl (z5h (z3f (thn (he pins s1 σ H1 _ I1 q1) λ iv s2 ⟨y,H2,I2,ry,ov,g,q2⟩=>z5e ?_)));exact e2f hu I2 g ry λ w' s3 I3 rw'=> nx0 _ H2 I3 rw' q2
theorem a7n (hu:X.A.units+1 < cLine) (ho:PE X o td) (he:PE X e ty) (hf:PE X f tx) (m:M2 X o "get" apos e f cpos):PE X (.Call (.Attribute o "get" apos) [e,f] [] cpos) (e2p td ty tx):=by
 constructor;intro pins s σ H Q I h;refine z6p m.base m.few m.line z6e z50 F.type_dict_get (thn (ho pins s σ H _ I h) λ u s1 ⟨x,H1,I1,rx,a,ex,d,q1⟩=>?_);subst ex;obtain rfl:u=Value.ref a:=rx;obtain⟨t1,t2,_⟩:=c3g I1 d;refine⟨t1,t2,?_⟩;rw[m.trees];refine z52 rfl (z5h (z3f (thn (he pins s1 σ H1 _ I1 q1) λ iv s2 ⟨y,H2,I2,ry,q2⟩ =>
  z3f (thn (hf pins s2 σ H2 _ I2 q2) λ fv s3 ⟨z,H3,I3,rz,ov,g,q3⟩=>z5e ?_))))
 exact e3k hu I3 g ry rz λ w' s4 I4 rw'=> nx0 _ H3 I4 rw' q3
end
end L2
namespace Att
open PySem PySem.W PySem.Calls PyProof.Rows
theorem b2j:∀ (ns:List Int) (vs:List Value),WellAll P h vs (ns.map WData.int)->IntsAre vs ns:=by
 intro ns;induction ns with
 | nil =>
  intro vs w;cases w;exact .nil
 | cons n ns ih =>
  intro vs w;cases w with
  | cons a b =>
   cases a;exact .cons _ _ (ih _ b)
theorem c9o {l:OpenLaw} (hn:l.most=some n)
  (hpre:l.row.toRowW.claim.pre args=true) (hwl:WellAll P h vals args) :
  ∃ a vs ns,vals=[Value.ref a]/\args=[WData.list (ns.map WData.int)]/\h.get? a=some {cls:=.type "list",data:=.seq vs.toArray}/\IntsAre vs ns/\ns.length<=n:=by
 have hsh:WShape.hasAll [] args [.list .int]=true:=(pre_splitW hpre).1;have hc:l.pre.holds [] {args:=args}=true:=(pre_splitW hpre).2;obtain⟨d,r,rfl,h1,h2⟩:=hasAllW_cons hsh;obtain rfl:=hasAllW_nil h2;obtain⟨xs,rfl,h3⟩:=hasW_list h1;obtain⟨ns,rfl⟩:=items_int h3;have hlen:ns.length<=n:=by
  have h4:(WTm.not (.lt (.lit (.int (n:Int))) (.len (.arg 0)))).holds [] {args:=[.list (ns.map .int)]}=true:=by
   have h4:=(holds_andW hc).1;rw[hn] at h4;exact h4
  have h5:=condW_of h4 (w_not (w_lt w_lit (w_len_list (w_arg rfl))));first
   | (rw[z08 q'] at h5;exact absurd h5 (by decide))
   | (simp at h5;lia)
 cases hwl with
 | cons w1 w2 =>
  cases w2;cases w1 with
  | list ho hall=>exact nx17 _ _ ns rfl rfl ho (b2j ns _ hall) hlen
theorem c7t (l:OpenLaw) (args:List WData):l.row.toRowW.claim.post args (.bool true) args=true :=
 postW_of
  (show WShape.has [] (.bool true) .bool=true by first | rfl | decide | simp[WShape.has,WShape.arms,WShape.armsAll])
  (show (WTm.eq .res (.lit (.bool true))).value [] {args:=args,res:=some (.bool true),after:=args}=some (.bool (true == true)) from w_eq_bool (w_res rfl) w_lit) rfl
section
variable {prog:Program} {w:World} {A:Around} {E:Value->Shared->Prop} {s:Shared} {K:Frag}
def e6m (h:Heap) (L d:Addr):List (Addr×Obj):=(List.range h.objs.size).filterMap λ a=>if a=L\/a=d then none else (h.get? a).map λ o=>(a,o)
end
end Att
namespace L2
open PySem PySem.Spec PyProof.Rows
theorem c0l:∀ {vs:List Value} {ns:List Int},IntsAre vs ns->a2e (ns.map V.int) vs
 | _,_,.nil=>.nil
 | _,_,.cons n t h=>.cons ⟨t,rfl⟩ (c0l h)
def e5d (H:Hp):Prop:=∀ b,H b=none\/∃ o xs,H b=some (.frz o (.lst xs))
theorem d2r {P:Program} {w:World} {K:W.Frag} {mg mb:Str->Option Value} {CX:CXT} {k:Nat} {fa a:Addr} {fd:FuncData} {x:Str} {sp:Sp} {s₁:Shared} {vs:List Value} {ns:List Int}
  (KX:K.In s₁.heap) (hns:s₁.heap.Ns mainGlobals mg) (hb:s₁.heap.Ns builtinsNs mb) (hbb:∀ x:Str,x≠"__name__"->mb x=bootBuiltins x) (hlim:s₁.heap.NoLimit) (hg:s₁.gens=#[])
  (ha:s₁.heap.get? a=some {cls:=.type "list",data:=.seq vs.toArray}) (hi:IntsAre vs ns) (hl:ns.length<=sizeLine) (hr:Room k callerA)
  (F:∀ base:Heap,K.In base->base.Ns mainGlobals mg->b1f P w K mg base CX k fa fd [x] sp) (hbind:∀ (s:Shared) (u:Value),BindsTo s fd ⟨[u],[]⟩ [(x,u)])
  (hsp:∀ H:Hp,e5d H->SqL K H a (ns.map V.int)->sp [.ref a] H (λ v _=>v=.bl true) λ _ _ _=>False)
  (hCX:∀ H e s',CX [] H s₁ (λ _ _ _=>False) e s'->False) :
  codeAny (model P w) callerA (.call (.ref fa) ⟨[.ref a],[]⟩) (λ r s'=>r=.ok (.ret (.bool true))/\OldK s₁.heap s'.heap/\s'.os=s₁.os/\AllBare s'.gens) s₁:=by
 have rv:=c0l hi;have lenV:=hi.length;have core:∀ H:Hp,e5d H->SqL K H a (ns.map V.int)->HOk P w H s₁.heap->(∀ b,H b≠none->b=a)->(H a≠none->K.lookup a=none) ->
   codeAny (model P w) callerA (.call (.ref fa) ⟨[.ref a],[]⟩) (λ r s'=>r=.ok (.ret (.bool true))/\OldK s₁.heap s'.heap/\s'.os=s₁.os/\AllBare s'.gens) s₁:=by
  intro H hO hS hok hA hK;have base_of:∀ {b:Addr} {o:Obj},s₁.heap.get? b=some o->H b=none->(d5f s₁.heap H).get? b=some o:=λ e n=>d4p e n
  have noA:∀ {b:Addr} {o:Obj} {es:Array DictEntry} {ep:Nat},s₁.heap.get? b=some o->o.data=.dict es ep->H b=none:=λ {b o es ep} e d=>by
   cases q:H b with
   | none=>rfl
   | some u =>
    have e':=hA b (by rw[q];simp);subst e';rw[ha] at e;cases e;have d':=d;cases d'
  have nsK:∀ {b:Addr} {m:Str->Option Value},s₁.heap.Ns b m->(d5f s₁.heap H).Ns b m:=λ {b m} ⟨o,es,ep,e,d,r⟩=> nx21 o es ep (base_of e (noA e d)) d r
  have hKb:=λ b o e=>base_of (KX b o e) (by
   cases q:H b with
   | none=>rfl
   | some u =>
    have e':b=a:=hA b (by rw[q];simp);subst e';rw[hK (by rw[q];simp)] at e;cases e)
  have hM:Mod K mg (d5f s₁.heap H):=⟨hKb,nsK hns,⟨mb,nsK hb,hbb⟩,let ⟨mc,h1,h2⟩:=hlim;⟨mc,nsK h1,h2⟩⟩;have e0:d9w P w K mg (d5f s₁.heap H) callerA [] s₁ H:=⟨rfl,hM,λ b o e=>d8c e,Nat.le_of_eq (d0x _ _),trivial,λ b hb=>absurd (show b∈([]:List Addr) from hb) (by simp),hok,.of_eq hg⟩;refine z4h ((F _ hKb (nsK hns)).run callerA [] s₁ H ⟨[.ref a],[]⟩ [.ref a] [.ref a] _ _ hr e0 (hbind s₁ (.ref a)) (.cons rfl .nil) (hsp H hO hS)) λ r s' h=>?_
  cases r with
  | error e=>exact(hCX H e s' h).elim
  | ok fl =>
   cases fl with
   | next=>exact False.elim h
   | brk=>exact False.elim h
   | cont=>exact False.elim h
   | ret u =>
    obtain⟨v,H',os,bare,un,hok',r',q⟩:=h;have q':=q;subst q';obtain rfl:u=Value.bool true:=r';refine⟨rfl,OldK.of_keep λ b o e=>?_,os,bare⟩;cases q:H b with
    | none=>exact un.keep b o e q (by intro z;exact absurd (show b∈([]:List Addr) from z) (by simp)) (by simp)
    | some u =>
     rcases hO b with z | ⟨ob,xs,z⟩
     ·rw[q] at z;cases z
     ·have z2:=un.frzs b ob _ z;obtain⟨e1,_⟩:=hok b _ z;obtain⟨e2,_⟩:=hok' b _ z2;rw[e] at e1;cases e1;exact e2
 cases hk:K.lookup a with
 | some o =>
  have e:=KX a o hk;rw[ha] at e;cases e;refine core (λ _=>none) (λ _=>.inl rfl) (.inr (nx17 _ vs.toArray _ hk rfl rfl rfl ⟨by rw[z0p,lenV];exact hl,by simpa using rv⟩)) (λ b u z=>by have z':=z;cases z') (λ b z=>absurd rfl z) λ z=>absurd rfl z
 | none =>
  refine core (λ b=>if b=a then some (.frz {cls:=.type "list",data:=.seq vs.toArray} (.lst (ns.map V.int))) else none) (λ b=>?_) (.inl (.inr ⟨{cls:=.type "list",data:=.seq vs.toArray},z02 rfl⟩)) (λ b u z=>?_) (λ b z=>?_) λ _=>hk
  ·by_cases hb:b=a
   ·exact .inr (nx2 _ _ (z02 hb))
   ·exact .inl (z01 hb)
  ·by_cases hb:b=a
   ·have z':=(z02 hb).symm.trans z;cases z';subst hb;exact ⟨ha,by rw[z04];exact hl,nx9 vs _ rv ha⟩
   ·have z':=(z01 hb).symm.trans z;cases z'
  ·by_cases hb:b=a
   ·exact hb
   ·exact absurd (z01 hb) z
end L2
namespace L2
open PySem PySem.Spec PyProof.Rows
abbrev KOf {K:W.Frag} {h:Heap} (_:K.In h):W.Frag:=K
end L2
namespace L2
open PySem PySem.Spec PyProof.Rows
def a2y (s:Stmt):Arguments:=match s with
 | .FunctionDef _ a _ _ _ _ _ _ _ _=>a
 | _=>{posonlyargs:=[],args:=[],vararg:=none,kwonlyargs:=[],kw_defaults:=[],kwarg:=none,defaults:=[]}
def a2j (s:Stmt):List Stmt:=match s with
 | .FunctionDef _ _ b _ _ _ _ _ _ _=>b
 | _=>[]
def a0h (s:Stmt):Scope:=match s with
 | .FunctionDef _ _ _ _ _ _ sc _ _ _=>sc
 | _=>{kind:=.function,names:=[],isGenerator:=false,isCoroutine:=false}
abbrev CX0:CXT:=λ _ _ _ _ _ _=>False
abbrev E0:XK:=λ _ _ _=>False
theorem c6g:c6y CX0 X E0:=λ _ _ _ _ _ _ _ h=>h.elim
structure Fun (K:W.Frag) (x qual:Str) (st:Stmt) (f:Addr) (fd:FuncData):Prop where
 ex:∃ (oc:Value) (od:Option Addr) (kV doc pm:Value) (an:Option Addr) (cdv ct:Value) (osl:Array (Option Value)),
  fd=W.fnOf x qual (a2y st) (a2j st) (a0h st) .none kV doc pm an cdv ct/\K.lookup f=some ⟨oc,od,.func fd,osl⟩/\W.codeIn K cdv qual=true
 kp:W.keepIn K (.ref f)=true
section
variable {P:Program} {w:World} {K:W.Frag} {mg:Str->Option Value} {base:Heap}
theorem Fun.ok {x qual:Str} {st:Stmt} {f:Addr} {fd:FuncData} {N ps:List Str} {k:Nat} {sp:Sp} (F:Fun K x qual st f fd) (S:a0i N ps (a0h st)) (len:∀ vs H Q E,sp vs H Q E->vs.length=ps.length)
  (hbody:∀ (cdv:Value) (A:Around) (outer:List Env) (s:Shared) (H:Hp) (vs:List V) (Q:VK) (E:XK),Room k (A.deeper (envOfC qual (a0h st) s.heap.objs.size f cdv))->sp vs H Q E ->
   ∃ t,PSs (d5g CX0 P w K mg base N qual (a0h st) f cdv A outer s H E).nox (a2j st) t/\t {nx:=λ _ H'=>Q .non H',rt:=Q} (start N vs) H):b1f P w K mg base CX0 (k+1) f fd ps sp:=by
 obtain⟨oc,od,kV,doc,pm,an,cdv,ct,osl,rfl,lk,hcd⟩:=F.ex;refine e3b lk hcd S len λ A outer s H vs Q E hr hsp=>?_
 obtain⟨t,h,q⟩:=hbody cdv A outer s H vs Q E hr hsp;exact⟨t,h.nox,q⟩
theorem Fun.binds {st:Stmt} (F:Fun K x qual st f fd)
  (h:∀ (kV doc pm:Value) (an:Option Addr) (cdv ct:Value) (us:List Value),us.length=ps.length->bindArgs (W.fnOf x qual (a2y st) (a2j st) (a0h st) .none kV doc pm an cdv ct) ⟨us,[]⟩=pure (ps.zip us)):a4p K fd ps []:=by
 obtain⟨oc,od,kV,doc,pm,an,cdv,ct,osl,rfl,lk,hcd⟩:=F.ex;exact .all (h kV doc pm an cdv ct)
theorem d5n {st:Stmt} {kV doc pm cdv ct:Value} (l:K.lookup f=some ⟨oc,od,.func (W.fnOf x qual (a2y st) (a2j st) (a0h st) .none kV doc pm an cdv ct),osl⟩)
  (c:W.codeIn K cdv qual=true) (k:W.keepIn K (.ref f)=true):Fun K x qual st f (W.fnOf x qual (a2y st) (a2j st) (a0h st) .none kV doc pm an cdv ct):=⟨nx31 oc od kV doc pm an (nx21 cdv ct osl rfl l c),k⟩
end
theorem a2z (hr:Room k A):A.units+1 < cLine:=z4n (Nat.add_le_add_left (by decide:1<=64) _) hr.units
section
variable {X:Cx}
theorem pv (i:Nat) {pos:Pos} (hN:X.N[i]?=some x:=by rfl) (hv:Vis X.env.scope x:=by first | exact Or.inl rfl | exact Or.inr (Or.inl rfl) | exact Or.inr (Or.inr rfl)) (hd:(x == ("__debug__":Str))=false:=by decide)
  (hcd:(x == ("__classdict__":Str))=false:=by decide):PE X (.Name x pos) (c8m i):=e1i hN hv hd hcd
end
theorem a7o {A B:Prop} (h:B):if false=true then A else B:=by
 exact h
theorem b4g {A B:Prop} (h:A):if true=true then A else B:=by
 exact h
theorem a4n {c A B:Prop} [Decidable c] (h1:c->A) (h2:¬ c->B):if c then A else B:=by
 by_cases h:c
 ·rw[z02 h];exact h1 h
 ·rw[z01 h];exact h2 h
def Same (H H':Hp):Prop:=∀ b o,H b=some o->H' b=some o
theorem Same.refl (H:Hp):Same H H:=λ _ _ h=>h
theorem Same.trans (a:Same H H1) (b:Same H1 H2):Same H H2:=λ c o h=>b c o (a c o h)
theorem Same.free (e:Same H H') (h:H' l=Option.none):H l=Option.none:=by
 cases q:H l with
 | none=>rfl
 | some o =>
  rw[e l o q] at h;cases h
theorem Same.seq {K:W.Frag} (e:Same H H') (h:SqL K H a xs):SqL K H' a xs:=by
 rcases h with (h | ⟨o,h⟩) | h
 ·exact .inl (.inl (e _ _ h))
 ·exact .inl (.inr ⟨o,e _ _ h⟩)
 ·exact .inr h
end L2
namespace L2
open PySem PySem.Spec PyProof.Rows
section
variable {X:Cx}
theorem d0c:b4l X (.builtin "len") (λ xs H Q=>∃ a kvs,xs=[V.ref a]/\H a=some (.dK kvs)/\Q (.int kvs.length) H):=by
 intro pins s σ H xs us Q I r h;obtain⟨a,kvs,rfl,ha,q⟩:=h;obtain⟨u,rfl,ru⟩:=b3r r;cases ru;exact e5t I (.inl ha) λ t s' I'=> nx0 (.int kvs.length) H I' ⟨t,rfl⟩ q
end
end L2
namespace My
open PySem PySem.Spec PyProof.Rows L2
section
variable {X:Cx}
theorem a7i:b4l X (.builtin "isinstance") (λ xs H Q=>∃ x t c b,xs=[x,V.ty c]/\b7a X.K H x t/\W.kitOne X.K t (.type c)=some b/\Q (.bl b) H):=by
 intro pins s σ H xs us Q I r h;obtain⟨x,t,c,b,rfl,ty,e,q⟩:=h;obtain⟨u,w',rfl,ru,rw'⟩:=d0g r;cases rw';exact c7d I ru ty e λ tk=> nx0 (.bl b) H (I.tok tk) rfl q
end
section
variable {K:W.Frag}
theorem e2j:W.kitOne K (.type "int") (.type "int")=some true:=by
 show (if (Value.type "int" == Value.type "int")=true then some true else if W.kitMeta "int"=true then (fastBuiltinMro "int").map (·.contains (Value.type "int")) else none)=some true;decide +kernel
theorem e2k:W.kitOne K (.type "int") (.type "bool")=some false:=by
 show (if (Value.type "int" == Value.type "bool")=true then some true else if W.kitMeta "bool"=true then (fastBuiltinMro "int").map (·.contains (Value.type "bool")) else none)=some false;decide +kernel
theorem e1r:W.kitOne K (.type "str") (.type "str")=some true:=by
 show (if (Value.type "str" == Value.type "str")=true then some true else if W.kitMeta "str"=true then (fastBuiltinMro "str").map (·.contains (Value.type "str")) else none)=some true;decide +kernel
theorem d5e:W.kitOne K (.type "tuple") (.type "tuple")=some true:=by
 show (if (Value.type "tuple" == Value.type "tuple")=true then some true else if W.kitMeta "tuple"=true then (fastBuiltinMro "tuple").map (·.contains (Value.type "tuple")) else none)=some true;decide +kernel
end
theorem e6f [DecidableEq κ]:∀ {ka:List (κ×Value)},(∀ kv∈ka,∃ y,valueAt kb kv.1=some y/\SeqAt.EqAt A s kv.2 y true)->W.KeqHits A s kb ka true
 | [],_=>.nil
 | (k,v)::r,h=>by
  obtain⟨y,e,q⟩:=h (k,v) (z0a.mpr (Or.inl rfl));have t:=e6f λ kv m=>h kv (z0a.mpr (Or.inr m))
  exact W.KeqHits.hit e q t
theorem a9t {κ:Type} [DecidableEq κ]:∀ {kvs:List (κ×V)} {k:κ} {v:V},(kvs.map (·.1)).Nodup->(k,v)∈kvs->a1r kvs k=some v
 | p::r,k,v,hn,hm=>by
  have hn':=hn;obtain⟨h1,h2⟩:=z1f.mp hn';rcases z0a.mp hm with e | e
  ·subst e;exact a2v rfl
  ·have ne:¬ p.1=k:=λ z=>h1 (z0d.mpr ⟨(k,v),e,z.symm⟩)
   rw[a2w ne];exact a9t h2 e
def d6b (kvs:List (Key×V)):Prop:=∀ kv∈kvs,∃ n,kv.2=V.int n
theorem d6b.nil:d6b []:=λ _ h=>nomatch h
theorem _root_.L2.Same.upd (h:H p=none):Same H (upd H p o):=λ b u e=>by
 rw[a0g (a0s e h)];exact e
theorem _root_.L2.Same.again (s:Same H H') (h:H p=none):Same H (L2.upd H' p o):=λ b u e=>by
 rw[a0g (a0s e h)];exact s b u e
open Builtin.Int (intBits)
theorem b9b:∀ {ns:List Int} {m:Int},m∈ns->intBits m<=W.WData.weightAll (ns.map W.WData.int)
 | n::r,m,h=>by
  rcases z0a.mp h with e | e
  ·subst e;simp only [z0w,W.WData.weightAll,W.WData.weight,Builtin.Int.intBits];lia
  ·have z:=b9b e;simp only [z0w,W.WData.weightAll];lia
theorem d7f {ns:List Int} (h:W.WData.layableAll [W.WData.list (ns.map .int)]=true):∀ m∈ns,intBits m<=1048576:=λ m hm=>by
 have h1:=(W.layW_cons h).1;have h2:=z0h (Bool.and_eq_true_iff.mp h1).2;have h3:=b9b hm;have h4:W.WData.weight (.list (ns.map .int))=W.WData.weightAll (ns.map .int):=by simp only [W.WData.weight]
 lia
end My
namespace My
open PySem PySem.W PySem.Calls PyProof.Rows L2
theorem d3o {l:W.OpenLaw} {n k:Nat} {q:Program} {loose:List Str} {XP:(Str->Option Value)->Heap->Prop} {YP:World->Heap->Prop} {d:DefRec} {K:Params->W.Frag} {CX:World->CXT} {sp:World->Sp} {x:Str}
  (hn:l.most=some n) (hn2:n<=sizeLine) (hdf:d.params.defaults=[]) (hr:Room k callerA)
  (hY:∀ (w:World) (h:Heap),YP w h->(K w.params).In h)
  (F:∀ (w:World) (mg:Str->Option Value) (fa:Addr) (h:Heap),(K w.params).In h->h.Ns mainGlobals mg->mg d.name=some (.ref fa) ->
   ∃ fd:FuncData,(∀ (s:Shared) (u:Value),BindsTo s fd ⟨[u],[]⟩ [(x,u)]) /\
    ∀ base:Heap,(K w.params).In base->base.Ns mainGlobals mg->b1f l.prog w (K w.params) mg base (CX w) k fa fd [x] (sp w))
  (hsp:∀ (w:World) (H:Hp) (a:Addr) (ns:List Int),ns.length<=n->(∀ m∈ns,Builtin.Int.intBits m<=1048576)->e5d H->SqL (K w.params) H a (ns.map V.int)->sp w [.ref a] H (λ v _=>v=.bl true) λ _ _ _=>False)
  (hCX:∀ (w:World) (H:Hp) (s:Shared) (e:Value) (s':Shared),CX w [] H s (λ _ _ _=>False) e s'->False) :
  W.WalkO q loose XP YP l.row.toRowW d [] (λ f vs=>PySem.call f vs):=by
 intro w s₀ s₁ mg mb G Y fa o pm cd doc dV kV ho hd hcd hD hmg hg args vals as hpre hlay hrd hwl hlo;obtain⟨a,vs,ns,rfl,rfl,hobj,hints,hlen⟩:=Att.c9o hn hpre hwl;have KX:=hY w _ Y;obtain⟨fd,hb,hF⟩:=F w mg fa _ KX G.T.g hmg;refine enter_call (z4h (d2r KX G.T.g G.T.b G.T.builtins G.T.nolimit hg hobj hints (z0s hlen hn2) hr hF hb (λ H hO hS=>hsp w H a ns hlen (d7f hlay) hO hS) λ H e s'=>hCX w H s₁ e s') λ r s' hq=>?_);obtain⟨rfl,h2,h3,h4⟩:=hq;exact⟨.inl (nx17 (.bool true) (.bool true) ([]) rfl (λ _=>rfl) (.bool true) (Att.c7t l _) λ _=>⟨List.Pairwise.nil,λ _ hm=>(nomatch hm)⟩),h2,h3,h4⟩
end My
namespace My
open PySem PySem.Spec PyProof.Rows L2
mutual
inductive Dt (K:W.Frag) (H:Hp):V->PyData->Prop where
 | non:Dt K H .non .none
 | bl (b:Bool):Dt K H (.bl b) (.bool b)
 | int (i:Int):Dt K H (.int i) (.int i)
 | str (x:Str):Dt K H (.str x) (.str x)
 | lst {a:Addr} {xs:List V} {ds:List PyData} (h:SqL K H a xs) (r:Dts K H xs ds):Dt K H (.ref a) (.list ds)
 | tup {a:Addr} {xs:List V} {ds:List PyData} (h:SqT K H a xs) (r:Dts K H xs ds):Dt K H (.ref a) (.tuple ds)
inductive Dts (K:W.Frag) (H:Hp):List V->List PyData->Prop where
 | nil:Dts K H [] []
 | cons {x:V} {d:PyData} {xs:List V} {ds:List PyData} (h:Dt K H x d) (r:Dts K H xs ds):Dts K H (x::xs) (d::ds)
end
section
variable {X:Cx} {pins:List (Addr×Obj)} {σ:L2.St} {H:Hp} {s:Shared}
mutual
theorem Dt.reads (I:Inv X pins σ H s) {v:V} {d:PyData} (h:Dt X.K H v d) {u:Value} (r:a2d v u):∃ as,Reads s.heap u d as:=by
 cases h with
 | non=>cases r;exact⟨_,.none⟩
 | bl b=>cases r;exact⟨_,.bool b⟩
 | int i=>obtain⟨t,rfl⟩:=r;exact⟨_,.int i t⟩
 | str x=>obtain⟨t,rfl⟩:=r;exact⟨_,.str x t⟩
 | lst h q =>
  cases r;obtain⟨its,rv,⟨o,n,e,c,_,dd⟩,_⟩:=I.list h;obtain⟨as,z⟩:=Dts.reads I q rv;exact⟨_,.list e c dd (by simpa using z)⟩
 | tup h q =>
  cases r;obtain⟨its,rv,⟨o,e,c,n,dd⟩,_⟩:=I.tuple h;obtain⟨as,z⟩:=Dts.reads I q rv;exact⟨_,.tuple e c dd (by simpa using z)⟩
theorem Dts.reads (I:Inv X pins σ H s) {vs:List V} {ds:List PyData} (h:Dts X.K H vs ds) {us:List Value} (r:a2e vs us):∃ as,ReadsAll s.heap us ds as:=by
 cases h with
 | nil=>cases r;exact⟨_,.nil⟩
 | cons h q =>
  cases r with
  | cons r1 r2 =>
   obtain⟨as,z⟩:=Dt.reads I h r1;obtain⟨bs,y⟩:=Dts.reads I q r2;exact⟨_,.cons z y⟩
end
end
section
variable {X:Cx}
def e6i (K:W.Frag):R2:=λ x y H Q=>∃ da db,Dt K H x da/\Dt K H y db/\SeqAt.shaped da=true/\SeqAt.shaped db=true/\Q (.bl (PyData.eqv da db)) H
def e7e (K:W.Frag):R2:=λ x y H Q=>∃ da db,Dt K H x da/\Dt K H y db/\SeqAt.shaped da=true/\SeqAt.shaped db=true/\Q (.bl (!PyData.eqv da db)) H
theorem d5d (hu:X.A.units+64 < cLine):OpR X (compareOp .Eq) (e6i X.K):=by
 intro pins s σ H x y v u Q I rx ry h;obtain⟨da,db,ha,hb,sa,sb,q⟩:=h;obtain⟨as,ra⟩:=ha.reads I rx;obtain⟨bs,rb⟩:=hb.reads I ry;exact SeqAt.compareEq_shaped ra rb sa sb hu (nx0 (.bl _) H I rfl q)
theorem c9w (hu:X.A.units+64 < cLine):OpR X (compareOp .NotEq) (e7e X.K):=by
 intro pins s σ H x y v u Q I rx ry h;obtain⟨da,db,ha,hb,sa,sb,q⟩:=h;obtain⟨as,ra⟩:=ha.reads I rx;obtain⟨bs,rb⟩:=hb.reads I ry;exact SeqAt.compareNe_shaped ra rb sa sb hu (nx0 (.bl _) H I rfl q)
end
theorem c4p (x:a2r P w H h a o):∃ ob,h.get? a=some ob:=by
 cases o with
 | lst xs=>obtain⟨_,_,_,_,e⟩:=x;exact⟨_,e⟩
 | tup xs=>obtain⟨_,_,_,ob,e,_⟩:=x;exact⟨_,e⟩
 | dK kvs=>obtain⟨_,_,_,_,o,_,_,e,_⟩:=x;exact⟨_,e⟩
 | dT kvs=>obtain⟨_,_,_,_,o,_,_,e,_⟩:=x;exact⟨_,e⟩
 | set S n=>obtain⟨o,_,_,_,e,_⟩:=x;exact⟨_,e⟩
 | ins C dx fs=>obtain⟨_,_,_,e,_⟩:=x;exact⟨_,e⟩
 | own y=>exact x
 | xd fs=>obtain⟨_,⟨_,_,_,e,_⟩,_⟩:=x;exact⟨_,e⟩
 | rng lo hi=>obtain⟨_,_,_,e⟩:=x;exact⟨_,e⟩
 | frz ob u=>obtain⟨e,_⟩:=x;exact⟨_,e⟩
 | tbl ps=>exact⟨_,(show h.get? a=some _ from x)⟩
 | met f y=>exact⟨_,(show h.get? a=some _ from x)⟩
 | ext φ=>obtain⟨_,e,_⟩:=x;exact e
section
variable {X:Cx} {pins:List (Addr×Obj)} {σ:L2.St} {H:Hp} {s:Shared}
theorem a7e (I:Inv X pins σ H s) (h:s.heap.get? D=none):H D=none:=by
 cases q:H D with
 | none=>rfl
 | some u =>
  obtain⟨ob,e⟩:=c4p (I.hok D u q);rw[h] at e;cases e
end
theorem a5m:∀ {xs:List V} {us:List Value} {i:Nat} {u:Value},a2e xs us->us[i]?=some u->∃ x,xs[i]?=some x/\a2d x u
 | _,_,_,_,.nil,e=>by simp at e
 | _,_,0,_,.cons r _,e=>by simp at e;subst e;exact⟨_,rfl,r⟩
 | _,_,i+1,u,.cons _ t,e=>by
  obtain⟨x,h1,h2⟩:=a5m (i:=i) (u:=u) t (by simpa using e);exact⟨x,by simpa using h1,h2⟩
def e6g (o:Obj):Option Value:=match o.data with
 | .fields vs=>vs[2]?
 | _=>none
abbrev d6f (a b:Obj):Prop:=a.dict=b.dict/\e6g a=e6g b
inductive b3g {α:Type}:Sem α->Prop
 | pure (a:α):b3g (.pure a)
 | raise (e:Value):b3g (.raise e)
 | stop (x:String):b3g (.unsupported x)
 | rule {t k}:(∀ u,b3g (k u))->b3g (.rule t k)
 | at {p k}:(∀ u,b3g (k u))->b3g (.at p k)
 | load {a p k}:(∀ o,b3g (k o))->b3g (.load a p k)
 | update {a p f k}:(∀ o:Obj,d6f (f o) o/\(o.isFreed=false->(f o).isFreed=false))->(∀ u,b3g (k u))->b3g (.update a p f k)
 | alloc {o k}:(∀ a,b3g (k a))->b3g (.alloc o k)
 | point {l k}:(∀ u,b3g (k u))->b3g (.point l k)
 | fresh {k}:(∀ u,b3g (k u))->b3g (.fresh k)
 | stack {k}:(∀ u,b3g (k u))->b3g (.stack k)
theorem b3g.bind {f:α->Sem β} (h:b3g t) (hf:∀ a,b3g (f a)):b3g (t>>=f):=by
 induction h with
 | pure a=>exact hf a
 | raise e=>exact .raise e
 | stop x=>exact .stop x
 | rule _ ih=>exact .rule ih
 | «at» _ ih=>exact .at ih
 | load _ ih=>exact .load ih
 | update h _ ih=>exact .update h ih
 | alloc _ ih=>exact .alloc ih
 | point _ ih=>exact .point ih
 | fresh _ ih=>exact .fresh ih
 | stack _ ih=>exact .stack ih
def DK (h h':Heap):Prop:=∀ b o,h.get? b=some o->∃ o',h'.get? b=some o'/\d6f o' o
theorem DK.trans (x:DK h1 h2) (y:DK h2 h3):DK h1 h3:=λ b o e=>let ⟨o1,e1,d1⟩:=x b o e;let ⟨o2,e2,d2⟩:=y b o1 e1;⟨o2,e2,d2.1.trans d1.1,d2.2.trans d1.2⟩
section
variable {P:Program} {w:World} {K:W.Frag} {mg:Str->Option Value} {base:Heap} {N:List Str} {qual:Str} {scope:Scope} {f:Addr} {cd:Value} {A:Around} {outer:List Env} {s₀:Shared} {H₀:Hp} {E:XK}
 {pins:List (Addr×Obj)} {σ:L2.St} {H H':Hp} {s:Shared}
end
section
variable {X:Cx}
theorem d8a {σ:L2.St} (I:Inv X pins σ H s) (k:∀ b u,s.heap.get? b=some u->h'.get? b=some u) (hD:s.heap.get? D=none)
  (new:a2r X.prog X.w (upd H D o) h' D o):Inv X pins σ (upd H D o) {s with heap:=h',toks:=t'}:=by
 have nD:=a7e I hD;have neD:∀ b u,s.heap.get? b=some u->b≠D:=λ b u e z=>by rw[z,hD] at e;cases e
 refine I.un ⟨λ b u q _ _ _=>k b u q,λ b u q _ _ _=>⟨u.slots,k b u q⟩,λ b u q n _=>by rw[a0g (neD b u q)];exact n,λ b u q _=>⟨u,k b u q⟩,λ b xs q=>by rw[a0g (a0s q nD)];exact q,
  λ b u xs q=>by rw[a0g (a0s q nD)];exact q,λ b ps q=>⟨#[],by rw[a0g (a0s q nD),q];simp⟩⟩ λ b u e=>?_
 by_cases hb:b=D
 ·subst hb;rw[a0b] at e;cases e;exact new
 ·rw[a0g hb] at e;exact(I.hok b u e).stay (λ c v _ q=>k c v q) (λ c q=>by rw[a0g (a0s q nD)];exact q) λ c xs q=>by rw[a0g (a0s q nD)];exact q
end
end My
namespace My
open PySem PySem.Spec PyProof.Rows L2 PySem.NumText
def dig (c:Nat):Bool:=decide (48<=c/\c<=57)
def c9q:List Nat->List Nat
 | []=>[]
 | c::r=>if c=45 then r else c::r
def c4c:List Nat->Bool
 | []=>false
 | c::r=>!decide (c=48) && (decide ((c::r).length<=30) && (c::r).all dig)
def d0r (cs:List Nat):Bool:=decide (cs=[48]) || c4c (c9q cs)
def e1z:List Nat->Bool
 | [c]=>decide (97<=c/\c<=122)
 | _=>false
def e2e:List Nat->Int
 | []=>0
 | c::r=>if c=45 then -((digitsVal r:Nat):Int) else ((digitsVal (c::r):Nat):Int)
theorem d8i (h:cs.all dig=true):AllDigits cs:=λ c hc=>z0h (List.all_eq_true.mp h c hc)
theorem d6z (h:AllDigits cs):cs.all dig=true:=List.all_eq_true.mpr λ c hc=>z08 (h c hc)
theorem b8t (x:Str):x.length=x.cps.toList.length:=by simp[Str.length]
theorem d5j:∀ (cs:List Nat) (a:Nat),AllDigits cs->cs.foldl (λ acc c=>acc*10+(c - 48)) a < (a+1)*10 ^ cs.length
 | [],a,_=>by simp
 | c::r,a,h=>by
  have h1:=d5j r (a*10+(c - 48)) h.tail;have h2:=h.head;rw[List.foldl_cons,z17,Nat.pow_succ];have h3:(a*10+(c - 48)+1)*10 ^ r.length<=((a+1)*10)*10 ^ r.length:=Nat.mul_le_mul_right _ (by lia);have h4:(a+1)*10*10 ^ r.length=(a+1)*(10 ^ r.length*10):=by rw[Nat.mul_assoc,Nat.mul_comm 10]
  lia
theorem b5b (m:Nat):AllDigits ((Nat.toDigits 10 m).map Char.toNat):=by
 intro c hc;obtain⟨ch,hch,e⟩:=z0d.mp hc;rw[<-e];have r:=Nat.isDigit_of_mem_toDigits (by decide) (by decide) hch;simp only [Char.isDigit,z3u,z2d,ge_iff_le] at r;obtain⟨r1,r2⟩:=r;have a1:=UInt32.le_iff_toNat_le.mp r1;have a2:=UInt32.le_iff_toNat_le.mp r2;exact⟨a1,a2⟩
theorem b3y (h0:0 < m) (h1:m < 10 ^ 30):c4c ((Nat.toDigits 10 m).map Char.toNat)=true:=by
 have hd:=b5b m;have hv:=W.KIN.val_back m;have hl:=digits10_le (by decide) h1;have hl':((Nat.toDigits 10 m).map Char.toNat).length<=30:=by rw[z04];exact hl
 have hlm:((Nat.toDigits 10 m).map Char.toNat).length=(Nat.toDigits 10 m).length:=z04 ..;cases e:(Nat.toDigits 10 m).map Char.toNat with
 | nil =>
  have:=tDigits_len_ge 10 m;rw[e] at hlm;simp at hlm;lia
 | cons c r =>
  rw[e] at hd hv hl' hlm;unfold c4c;have hc:¬ c=48:=by
   intro hc;subst hc;have hv2:digitsVal r=m:=by rw[<-hv];rfl
   cases r with
   | nil =>
    have:digitsVal ([]:List Nat)=0:=rfl;lia
   | cons d q =>
    have h3:=d5j (d::q) 0 hd.tail;have h4:m < 10 ^ (d::q).length:=by
     have h5:digitsVal (d::q) < (0+1)*10 ^ (d::q).length:=h3;lia
    have h6:=digits10_le (by simp) h4;simp only [z17] at hlm h6;lia
  simp only [z0n hc,z08 hl',d6z hd,Bool.not_false,Bool.and_self]
theorem c3a (h1:-(10 ^ 30) < n) (h2:n < 10 ^ 30):d0r (Str.ofString (toString n)).cps.toList=true/\e2e (Str.ofString (toString n)).cps.toList=n/\(Str.ofString (toString n)).length<=31/\e1z (Str.ofString (toString n)).cps.toList=false:=by
 rcases Int.lt_or_le n 0 with hn | hn
 ·obtain⟨m,rfl⟩:∃ m:Nat,n=-((m:Nat):Int):=⟨n.natAbs,by lia⟩;have m0:0 < m:=by lia
  have m1:m < 10 ^ 30:=by lia
  have e:(Str.ofString (toString (-((m:Nat):Int)))).cps.toList=45::(Nat.toDigits 10 m).map Char.toNat:=by
   obtain⟨k,rfl⟩:∃ k,m=k+1:=⟨m - 1,by lia⟩;have e0:toString (-(((k+1:Nat):Nat):Int))="-"++Nat.repr (k+1):=rfl;rw[e0,signs_ofString,String.toList_append,z0z,Nat.toList_repr];rfl
  have hf:=b3y m0 m1;have hl:=digits10_le (by decide) m1;refine⟨?_,?_,?_,?_⟩
  ·rw[e];unfold d0r;have:c9q (45::(Nat.toDigits 10 m).map Char.toNat)=(Nat.toDigits 10 m).map Char.toNat:=rfl;rw[this,hf,Bool.or_true]
  ·rw[e];show -((digitsVal ((Nat.toDigits 10 m).map Char.toNat):Nat):Int)=_;rw[W.KIN.val_back]
  ·rw[b8t,e,z17,z04];lia
  ·rw[e];cases (Nat.toDigits 10 m).map Char.toNat<;>rfl
 ·obtain⟨m,rfl⟩:=Int.eq_ofNat_of_zero_le hn;have m1:m < 10 ^ 30:=by lia
  have e:=W.KIN.signs_num m;have hl:=digits10_le (k:=30) (by decide) m1;have hd:=b5b m;have hv:=W.KIN.val_back m;refine⟨?_,?_,?_,?_⟩
  ·rw[e];unfold d0r;by_cases m0:m=0
   ·subst m0;rfl
   ·have hf:=b3y (Nat.pos_of_ne_zero m0) m1;cases q:(Nat.toDigits 10 m).map Char.toNat with
    | nil=>rw[q] at hf;cases hf
    | cons c r =>
     rw[q] at hf hd;have hc:¬ c=45:=by have:=hd.head;lia
     have:c9q (c::r)=c::r:=z01 hc;rw[this,hf,Bool.or_true]
  ·rw[e];cases q:(Nat.toDigits 10 m).map Char.toNat with
   | nil =>
    rw[q] at hv;show (0:Int)=_;have:digitsVal ([]:List Nat)=0:=rfl;lia
   | cons c r =>
    rw[q] at hv hd;have hc:¬ c=45:=by have:=hd.head;lia
    show (if c=45 then _ else ((digitsVal (c::r):Nat):Int))=_;rw[z01 hc,hv]
  ·rw[b8t,e,z04];lia
  ·rw[e];cases q:(Nat.toDigits 10 m).map Char.toNat with
   | nil=>rfl
   | cons c r =>
    rw[q] at hd;cases r with
    | nil =>
     have:=hd.head;exact z0n (by lia)
    | cons _ _=>rfl
theorem c9v (h1:-(10 ^ 30) < n) (h2:n < 10 ^ 30):∀ c∈(Str.ofString (toString n)).cps.toList,c < 16 ^ 8:=by
 obtain⟨t1,_,_,_⟩:=c3a h1 h2;intro c hc;rcases Bool.or_eq_true_iff.mp t1 with z | z
 ·rw[z0h z] at hc;have:c=48:=by simpa using hc
  lia
 ·cases q:(Str.ofString (toString n)).cps.toList with
  | nil=>rw[q] at hc;cases hc
  | cons a r =>
   rw[q] at hc z;have key:∀ l:List Nat,c4c l=true->∀ d∈l,d < 16 ^ 8:=λ l hl d hd=>by
    cases l with
    | nil=>cases hd
    | cons b s =>
     have hl':(!decide (b=48) && (decide ((b::s).length<=30) && (b::s).all dig))=true:=hl;simp only [z3u] at hl';have:=d8i hl'.2.2 d hd;lia
   by_cases ha:a=45
   ·have e:c9q (a::r)=r:=z02 ha;rw[e] at z;rcases z0a.mp hc with y | y
    ·lia
    ·exact key r z c y
   ·have e:c9q (a::r)=a::r:=z01 ha;rw[e] at z;exact key _ z c hc
end My
namespace My
open PySem PySem.Spec PyProof.Rows L2 Builtin Builtin.ObjectAttr Builtin.Getset_descriptor
def e1p (a C:Addr) (h:Heap):Prop:=∃ o,h.get? a=some o/\o.cls=.ref C
end My
namespace My
open PySem PySem.Spec PyProof.Rows L2
section
variable {X:Cx} {pins:List (Addr×Obj)} {σ:L2.St} {H:Hp} {s:Shared}
theorem c8v (I1:Inv X pins σ H1 s1) (I:Inv X pins σ H s) (hn:s1.heap.get? a=none) (ha:H a=none) (ok:a2r X.prog X.w (upd H a o) s.heap a o):Inv X pins σ (upd H a o) s:=by
 have ne:∀ b u,s1.heap.get? b=some u->b≠a:=λ b u e z=>by rw[z,hn] at e;cases e
 refine⟨I.ok,I.os,I.bare,⟨I.base.keep,I.base.slot,λ b u e n hx=>?_,I.base.there,λ b xs e=>?_,λ b u v e=>?_,λ b ps e=>?_⟩,I.loc,I.cell,?_,λ x c e=>?_,λ p hp=>?_,λ b u e=>?_,I.len⟩
 ·obtain⟨u',e1⟩:=I1.base.there b u e hx;rw[a0g (ne b u' e1)];exact I.base.free b u e n hx
 ·have q:=I.base.tups b xs e;rw[a0g (a0s q ha)];exact q
 ·have q:=I.base.frzs b u v e;rw[a0g (a0s q ha)];exact q
 ·obtain⟨more,q⟩:=I.base.tbls b ps e;exact⟨more,by rw[a0g (a0s q ha)];exact q⟩
 ·obtain⟨m0,⟨u,_,_,hu,_⟩,_⟩:=I1.loc;rw[a0g (ne _ u hu)];exact I.free
 ·obtain⟨v,u,hu,_⟩:=I1.cell x c e;rw[a0g (ne c u hu)];exact I.freeC x c e
 ·obtain⟨e,n,n2,nf,d⟩:=I.pin p hp;obtain⟨e1,_⟩:=I1.pin p hp;exact⟨e,by rw[a0g (ne _ _ e1)];exact n,n2,nf,d⟩
 ·by_cases hb:b=a
  ·subst hb;rw[a0b] at e;cases e;exact ok
  ·rw[a0g hb] at e;refine(I.hok b u e).stay (λ c v hc q=>q) (λ c q=>?_) λ c xs q=>?_
   ·rw[a0g (a0s q ha)];exact q
   ·rw[a0g (a0s q ha)];exact q
def c7m (a C:Addr) (d:Option Addr) (h:Heap):Prop:=∃ o,h.get? a=some o/\o.cls=.ref C/\W.notCls o=true/\o.dict=d
end
def Itf (ys:List V):It:=⟨λ i _=>i < ys.length,λ i H x H'=>H'=H/\ys[i]?=some x,λ i _=>ys.length<=i⟩
abbrev e2i (y:Str):List V:=y.cps.toList.map λ c=>V.str ⟨#[c]⟩
abbrev e5c (y:Str):String:=if y.cps.all (· < 128) then "str_ascii_iterator" else "str_iterator"
abbrev e0q (y:Str) (t:Tok):Obj:={cls:=.type (e5c y),data:=.fields #[.str y t,.int 0 0]}
structure Src (P:Program) (w:World) (K:W.Frag) (J:It) (it:Addr) (st:Nat->Heap->Prop):Prop where
 obj:∀ i h,st i h->∃ o,h.get? it=some o/\∀ v,o.data≠.cell v
 keep:∀ i h h',st i h->(∀ o,h.get? it=some o->h'.get? it=some o)->st i h'
 item:∀ (X:Cx),X.prog=P->X.w=w->X.K=K->∀ (A:Around) (i:Nat) (pins:List (Addr×Obj)) (s:Shared) (σ:L2.St) (H:Hp) (Q:Value->Shared->Prop) (E:Value->Shared->Prop),Inv X pins σ H s->st i s.heap->J.go i H ->
  (∀ x u h' tk,a2d x u->J.yld i H x H->st (i+1) h'->Heap.SameBut it s.heap h'->Q u {s with heap:=h',toks:=tk})->wpAny (model P w) A (Builtin.SmallTypes.nextOf (.ref it)) Q E s
 done:∀ (X:Cx),X.prog=P->X.w=w->X.K=K->∀ (A:Around),A.handled=none->∀ (i:Nat) (pins:List (Addr×Obj)) (s:Shared) (σ:L2.St) (H:Hp) (Q:Value->Shared->Prop) (E:Value->Shared->Prop),Inv X pins σ H s->st i s.heap->J.stop i H ->
  (∀ h' e,Heap.ExtBut it s.heap h'->(∃ o,h'.get? e=some o/\o.cls=.type "StopIteration")->E (.ref e) {s with heap:=h'})->wpAny (model P w) A (Builtin.SmallTypes.nextOf (.ref it)) Q E s
section
variable {P:Program} {w:World} {K:W.Frag}
theorem d3i (a it:Addr):Src P w K (Itl K a) it (λ i h=>h.IsListIter it a i) where
 obj:=λ i h st=>by
  obtain⟨o,e,c,d⟩:=st;exact⟨o,e,λ v z=>by rw[d] at z;cases z⟩
 keep:=λ i h h' st k=>st.at λ o e=>k o e
 item:=by
  intro X hP hw hK A i pins s σ H Q E I st hg hQ;subst hP hw hK;obtain⟨xs,x,hq,hx⟩:=hg;obtain⟨its,rv,p,hz⟩:=I.list hq;obtain⟨u,hu,ru⟩:=rv.get hx;exact wpAny_nextOf_list_item st p.isList (by simpa using hu) λ h' st' sb=>hQ x u h' s.toks ru ⟨rfl,λ ys hy=>by rw[I.list_inj hy hq];exact hx⟩ st' sb
 done:=by
  intro X hP hw hK A hA i pins s σ H Q E I st hg hE;subst hP hw hK;obtain⟨xs,hq,hx⟩:=hg;obtain⟨its,rv,p,hz⟩:=I.list hq;have hl:=rv.length;exact wpAny_nextOf_list_end hA st p.isList (by simp;lia) hE
theorem b9i {z TI TO i1 i2:Addr} (hz:IsZip s.heap z TI TO .none) (hTI:IsPair s.heap TI (.ref i1) (.ref i2))
  (h:∀ g1,IsZip g1 z TI TO .ellipsis->Heap.SameBut z s.heap g1 ->
   wpAny (model P w) A (Builtin.SmallTypes.nextOf (.ref i1)) (λ x s2=>∃ a b,IsPair s2.heap TO a b/\∀ g3,IsPair g3 TO x b->Heap.SameBut TO s2.heap g3 ->
    wpAny (model P w) A (Builtin.SmallTypes.nextOf (.ref i2)) (λ y s4=>IsPair s4.heap TO x b/\∀ g5,IsPair g5 TO x y->Heap.SameBut TO s4.heap g5->IsZip g5 z TI TO .ellipsis /\
      ∀ g7 g8,Heap.SameBut z (g5.push {cls:=.type "tuple",data:=.seq #[x,y]}) g7->Heap.SameBut z g7 g8->IsZip g8 z TI TO (rawInt g5.objs.size)->Q (.done (.ret (.ref g5.objs.size))) {s4 with heap:=g8})
     (λ e s4=>IsZip s4.heap z TI TO .ellipsis/\∀ g5,Heap.SameBut z s4.heap g5->E e {s4 with heap:=g5}) {s2 with heap:=g3})
    (λ e s2=>IsZip s2.heap z TI TO .ellipsis/\∀ g3,Heap.SameBut z s2.heap g3->E e {s2 with heap:=g3}) {s with heap:=g1}) :
  wpAny (model P w) A (Builtin.«zip.__next__» ⟨[.ref z],[]⟩) Q E s:=by
 have free:wpAny (model P w) A (Builtin.SmallTypes.ownedTupleIsFree (.ref z)) (λ b s'=>b=true/\s'=s) E s:=by
  exact z00 (wpAny_field hz rfl rfl (z03 ⟨rfl,rfl⟩))
 refine z00 (wpAny_of_eq rfl ?_);refine z00 (wpAny_field hz rfl (x:=.bool false) rfl (z00 (wpAny_field hz rfl rfl (z00 (z2r hTI rfl (z00 (thn free λ b s' hb=>?_)))))));obtain⟨rfl,rfl⟩:=hb;refine z00 (z1s (z00 (wpAny_field hz rfl rfl (z00 (z5z hz (by simp) λ g1 q1 k1=>z00 ?_)))));refine z00 (z00 (wpAny_onRaise (z00 (z1b (h g1 q1 k1) (λ x s2 d1=>?_) λ e s2 ⟨q2,f2⟩=>z5z q2 (by simp) λ g3 _ k3=>f2 g3 k3))));obtain⟨a,b,t2,d1⟩:=d1;refine z03 (z00 (z2r t2 rfl (z00 (wpAny_updateSeq_pair t2 λ g3 t3 k3=>z00 (wpAny_letGo (z03 (z00 (z00 (wpAny_onRaise ?_)))))))));refine z00 (z1b (d1 g3 t3 k3) (λ y s4 d2=>?_) λ e s4 ⟨q4,f4⟩=>z5z q4 (by simp) λ g5 _ k5=>f4 g5 k5);obtain⟨t4,d2⟩:=d2;refine z03 (z00 (z2r t4 rfl (z00 (wpAny_updateSeq_pair t4 λ g5 t5 k5=>z00 (wpAny_letGo (z03 (z03 (z00 (z2r t5 rfl (z00 (wpAny_newTuple ?_ (by show 2<=sizeLine;decide))))))))))));obtain⟨q5,d2⟩:=d2 g5 t5 k5;have out:wpAny (model P w) A (Builtin.SmallTypes.ownedTupleHandOut (.ref z) (.ref g5.objs.size)) (λ _ s'=>Q (.done (.ret (.ref g5.objs.size))) s') E {s4 with heap:=g5.push {cls:=.type "tuple",data:=.seq #[x,y]}}:=by
  refine z00 (z5z (z0e _ q5) (by simp) λ g7 q7 k7=>z5z q7 (by simp) λ g8 q8 k8=>d2 g7 g8 k7 k8 ?_);exact q8
 exact z00 (thn out λ _ s' q=>z03 q)
def ItZ (J1 J2:It):It:=⟨λ i H=>J1.go i H/\J2.go i H,λ i H v H'=>∃ p x y,J1.yld i H x H/\J2.yld i H y H/\v=.ref p/\H p=none/\H'=upd H p (.tup [x,y]),λ i H=>J1.stop i H\/(J1.go i H/\J2.stop i H)⟩
structure d9b (z TI TO i1 i2:Addr):Prop where
 TIz:TI≠z
 TOz:TO≠z
 i1z:i1≠z
 i2z:i2≠z
 TITO:TI≠TO
 TIi1:TI≠i1
 TIi2:TI≠i2
 TOi1:TO≠i1
 TOi2:TO≠i2
 i12:i1≠i2
theorem d3v (n:Nat):d9b (n+4) (n+2) (n+3) n (n+1):=by
 constructor<;>(intro h;first | exact absurd (show n+2=n+4 from h) (by lia) | exact absurd (show n+3=n+4 from h) (by lia) | exact absurd (show n=n+4 from h) (by lia) | exact absurd (show n+1=n+4 from h) (by lia) | exact absurd (show n+2=n+3 from h) (by lia) | exact absurd (show n+2=n from h) (by lia) | exact absurd (show n+2=n+1 from h) (by lia) | exact absurd (show n+3=n from h) (by lia) | exact absurd (show n+3=n+1 from h) (by lia) | exact absurd (show n=n+1 from h) (by lia))
theorem d4v {z TI TO i1 i2:Addr} (D:d9b z TI TO i1 i2) (S1:Src P w K J1 i1 st1) (S2:Src P w K J2 i2 st2) :
  d6t P w K (.Tuple elts kk tpos) (ItZ J1 J2) [z,TI,TO,i1,i2] z (λ i h=>IsZip h z TI TO .none/\IsPair h TI (.ref i1) (.ref i2)/\(∃ a b,IsPair h TO a b)/\st1 i h/\st2 i h) where
 mem:=by simp
 obj:=λ i h ⟨hz,hTI,⟨a,b,hTO⟩,h1,h2⟩ c hc=>by
  simp only [z0a,z2a,z2c] at hc;rcases hc with e | e | e | e | e
  ·rw[e];exact⟨_,hz,λ v z=>by simp at z⟩
  ·rw[e];exact⟨_,hTI,λ v z=>by simp at z⟩
  ·rw[e];exact⟨_,hTO,λ v z=>by simp at z⟩
  ·rw[e];exact S1.obj i h h1
  ·rw[e];exact S2.obj i h h2
 keep:=λ i h h' ⟨hz,hTI,⟨a,b,hTO⟩,h1,h2⟩ k=>⟨k z (by simp) _ hz,k TI (by simp) _ hTI,nx2 a b (k TO (by simp) _ hTO),S1.keep i h h' h1 (k i1 (by simp)),S2.keep i h h' h2 (k i2 (by simp))⟩
 item:=by
  intro X hP hw hK hc i pins s σ H E I hf st hg;subst hP hw hK;obtain⟨hz,hTI,⟨a,b,hTO⟩,h1,h2⟩:=st;have ty:s.TypeIs (.ref z) "zip":=⟨_,hz,rfl⟩;have tz:∀ {s':Shared} {H':Hp} {h':Heap} {t':Nat} {it:Addr},it∈[z,TI,TO,i1,i2]->H' it=none->Inv X pins σ H' s'->Heap.SameBut it s'.heap h'->Inv X pins σ H' {s' with heap:=h',toks:=t'}:=λ {s' H' h' t' it} hm hn I' sb=>by
   obtain⟨f0,f1,f2,f3,f4,f5⟩:=hf it hm;exact I'.turned (λ b o hb e=>(sb.2 b hb).trans e) hn f1 f3 f4 f5
  have fz:=(hf z (by simp)).1;refine z00 (z34 (z43 ty F.slot_zip_next (z1q F.slot_zip_next ty F.entry_zip_next (b9i hz hTI λ u1 q1 k1=>?_) (F.args_zip_next_1 _))));have I1:=tz (t':=s.toks) (by simp) fz I k1;refine S1.item X rfl rfl rfl _ i pins {s with heap:=u1} σ H _ _ I1 (S1.keep i _ _ h1 λ o e=>k1.extBut _ _ D.i1z e) hg.1 λ x ux u2 t2 rx y1 st1' k2=> nx9 a b (k2.extBut _ _ D.TOi1 (k1.extBut _ _ D.TOz hTO)) λ u3 p3 k3=>?_
  have I2:Inv X pins σ H {s with heap:=u2,toks:=t2}:=tz (s':={s with heap:=u1}) (by simp) (hf i1 (by simp)).1 I1 k2;have I3:Inv X pins σ H {s with heap:=u3,toks:=t2}:=tz (s':={s with heap:=u2,toks:=t2}) (by simp) (hf TO (by simp)).1 I2 k3;refine S2.item X rfl rfl rfl _ i pins {s with heap:=u3,toks:=t2} σ H _ _ I3 (S2.keep i _ _ h2 λ o e=>k3.extBut _ _ D.TOi2.symm (k2.extBut _ _ D.i12.symm (k1.extBut _ _ D.i2z e))) hg.2 λ y uy u4 t4 ry y2 st2' k4=>⟨k4.extBut _ _ D.TOi2 p3,λ u5 p5 k5=>?_⟩
  have I4:Inv X pins σ H {s with heap:=u4,toks:=t4}:=tz (s':={s with heap:=u3,toks:=t2}) (by simp) (hf i2 (by simp)).1 I3 k4;have I5:Inv X pins σ H {s with heap:=u5,toks:=t4}:=tz (s':={s with heap:=u4,toks:=t4}) (by simp) (hf TO (by simp)).1 I4 k5;have all:∀ c o,c≠z->c≠TO->c≠i1->c≠i2->s.heap.get? c=some o->u5.get? c=some o:=λ c o n1 n2 n3 n4 e=>k5.extBut _ _ n2 (k4.extBut _ _ n4 (k3.extBut _ _ n2 (k2.extBut _ _ n3 (k1.extBut _ _ n1 e))))
  have q5:=k5.extBut _ _ D.TOz.symm (k4.extBut _ _ D.i2z.symm (k3.extBut _ _ D.TOz.symm (k2.extBut _ _ D.i1z.symm q1)));refine⟨q5,λ u7 u8 k7 k8 q8=>⟨_,rfl,z03 ⟨_,rfl,wpAny_letOwnedTupleGo_zip q8 λ u9 q9 k9=>?_⟩⟩⟩;have lt:∀ c∈[z,TI,TO,i1,i2],c < u5.objs.size:=λ c hc=>by
   simp only [z0a,z2a,z2c] at hc;rcases hc with e | e | e | e | e
   ·rw[e];exact z0g q5
   ·rw[e];exact z0g (all _ _ D.TIz D.TITO D.TIi1 D.TIi2 hTI)
   ·rw[e];exact z0g p5
   ·rw[e];obtain⟨o,eo,_⟩:=S1.obj _ _ st1';exact z0g (k5.extBut _ _ D.TOi1.symm (k4.extBut _ _ D.i12 (k3.extBut _ _ D.TOi1.symm eo)))
   ·rw[e];obtain⟨o,eo,_⟩:=S2.obj _ _ st2';exact z0g (k5.extBut _ _ D.TOi2.symm eo)
  have nT:u5.get? u5.objs.size=none:=z5y (z05 _);have I6:Inv X pins σ (upd H u5.objs.size (.tup [x,y])) {s with heap:=u5.push {cls:=.type "tuple",data:=.seq #[ux,uy]},toks:=t4} :=
   d8a (s:={s with heap:=u5,toks:=t4}) I5 (λ b u e=>z0e _ e) nT (⟨by show 2<=sizeLine;decide,[ux,uy],.cons rx (.cons ry .nil),nx13 _ (z0t _ rfl) rfl _ rfl⟩)
  have nz:(upd H u5.objs.size (.tup [x,y])) z=none:=by rw[a0g (z0k (lt z (by simp)))];exact fz
  have I7:Inv X pins σ (upd H u5.objs.size (.tup [x,y])) {s with heap:=u7,toks:=t4}:=tz (s':={s with heap:=u5.push {cls:=.type "tuple",data:=.seq #[ux,uy]},toks:=t4}) (by simp) nz I6 k7;have I8:Inv X pins σ (upd H u5.objs.size (.tup [x,y])) {s with heap:=u8,toks:=t4}:=tz (s':={s with heap:=u7,toks:=t4}) (by simp) nz I7 k8;have I9:Inv X pins σ (upd H u5.objs.size (.tup [x,y])) {s with heap:=u9,toks:=t4}:=tz (s':={s with heap:=u8,toks:=t4}) (by simp) nz I8 k9;have up:∀ c o,c≠z->u5.get? c=some o->u9.get? c=some o:=λ c o n e=>k9.extBut _ _ n (k8.extBut _ _ n (k7.extBut _ _ n (z0e _ e)))
  refine nx12 (.ref u5.objs.size) _ I9 rfl (nx17 u5.objs.size x y y1 y2 rfl (a7e I5 nT) rfl) ⟨q9,up _ _ D.TIz (all _ _ D.TIz D.TITO D.TIi1 D.TIi2 hTI),nx2 _ _ (up _ _ D.TOz p5),
   S1.keep _ _ _ st1' λ o e=>up _ o D.i1z (k5.extBut _ _ D.TOi1.symm (k4.extBut _ _ D.i12 (k3.extBut _ _ D.TOi1.symm e))),S2.keep _ _ _ st2' λ o e=>up _ o D.i2z (k5.extBut _ _ D.TOi2.symm e)⟩ λ c hc=>?_
  rw[a0g (z0k (lt c hc))];exact(hf c hc).1
 done:=by
  intro X hP hw hK hc i pins s σ H E I hf st hg;subst hP hw hK;obtain⟨hz,hTI,⟨a,b,hTO⟩,h1,h2⟩:=st;have hh:X.A.in1.handled=none:=I.ok.hd hc;have ty:s.TypeIs (.ref z) "zip":=⟨_,hz,rfl⟩;have tz:∀ {s':Shared} {h':Heap} {t':Nat} {it:Addr},it∈[z,TI,TO,i1,i2]->Inv X pins σ H s'->(∀ b o,b≠it->s'.heap.get? b=some o->h'.get? b=some o)->Inv X pins σ H {s' with heap:=h',toks:=t'}:=λ {s' h' t' it} hm I' sb=>by
   obtain⟨f0,f1,f2,f3,f4,f5⟩:=hf it hm;exact I'.turned sb f0 f1 f3 f4 f5
  have same:∀ {it:Addr} {g h:Heap},Heap.SameBut it g h->∀ b o,b≠it->g.get? b=some o->h.get? b=some o:=λ sb b o hb e=>(sb.2 b hb).trans e
  refine z00 (z34 (z43 (name:=Str.ofString "__next__") ty F.slot_zip_next (z1q F.slot_zip_next ty F.entry_zip_next (b9i hz hTI λ u1 q1 k1=>?_) (F.args_zip_next_1 _))));have I1:Inv X pins σ H {s with heap:=u1}:=tz (by simp) I (same k1);have st1:=S1.keep i _ _ h1 λ o e=>k1.extBut _ _ D.i1z e
  have ended:∀ {g:Heap} {tk:Nat} {e:Addr},Inv X pins σ H {s with heap:=g,toks:=tk}->IsZip g z TI TO .ellipsis->(∃ o,g.get? e=some o/\o.cls=.type "StopIteration")->IsZip g z TI TO .ellipsis/\∀ g5,Heap.SameBut z g g5 ->
    wpAny (model X.prog X.w) X.A ((do if <- isInstance (.ref e) (.type "StopIteration") then return none else throw (.ref e)):Sem (Option Value)) (λ r s1=>r=none/\Inv X pins σ H s1) E {s with heap:=g5,toks:=tk}:=λ {g tk e} I' q ⟨o,eo,co⟩=>⟨q,λ g5 k5=>by
   have ne:e≠z:=λ y=>by rw[y,q] at eo;cases eo;simp at co
   exact z00 (z5s ⟨o,k5.extBut _ _ ne eo,co⟩ isSubtype_stop (z03 ⟨rfl,tz (s':={s with heap:=g,toks:=tk}) (by simp) I' (same k5)⟩))⟩
  rcases hg with e1 | ⟨g1,e2⟩
  ·exact S1.done X rfl rfl rfl _ hh i pins {s with heap:=u1} σ H _ _ I1 st1 e1 λ u2 e k2 he=>ended (tz (s':={s with heap:=u1}) (by simp) I1 k2) (k2 _ _ D.i1z.symm q1) he
  ·refine S1.item X rfl rfl rfl _ i pins {s with heap:=u1} σ H _ _ I1 st1 g1 λ x ux u2 t2 rx y1 st1' k2=> nx9 a b (k2.extBut _ _ D.TOi1 (k1.extBut _ _ D.TOz hTO)) λ u3 p3 k3=>?_
   have I2:Inv X pins σ H {s with heap:=u2,toks:=t2}:=tz (it:=i1) (s':={s with heap:=u1}) (by simp) I1 (same k2);have I3:Inv X pins σ H {s with heap:=u3,toks:=t2}:=tz (it:=TO) (s':={s with heap:=u2,toks:=t2}) (by simp) I2 (same k3);refine S2.done X rfl rfl rfl _ hh i pins {s with heap:=u3,toks:=t2} σ H _ _ I3 (S2.keep i _ _ h2 λ o e=>k3.extBut _ _ D.TOi2.symm (k2.extBut _ _ D.i12.symm (k1.extBut _ _ D.i2z e))) e2 λ u4 e k4 he=>?_
   exact ended (tz (s':={s with heap:=u3,toks:=t2}) (by simp) I3 k4) (k4 _ _ D.i2z.symm (k3.extBut _ _ D.TOz.symm (k2.extBut _ _ D.i1z.symm q1))) he
 self:=λ _ _ _ _ _ st h=>wpAny_pyIter_zip st.1 h
inductive e0a (h:Heap):Value->Obj->Prop where
 | list {l:Addr} {xs:Array Value} (e:h.IsList l xs):e0a h (.ref l) {cls:=.type "list_iterator",data:=.fields #[.ref l,.int 0 0]}
 | tup {l:Addr} {xs:Array Value} (e:h.IsTuple l xs):e0a h (.ref l) {cls:=.type "tuple_iterator",data:=.fields #[.ref l,.int 0 0]}
 | str (y:Str) (t:Tok):e0a h (.str y t) (e0q y t)
theorem e0a.keep (x:e0a h u o) (k:∀ b o,h.get? b=some o->h'.get? b=some o):e0a h' u o:=by
 cases x with
 | list e=>exact .list (e.at λ o q=>k _ o q)
 | tup e=>obtain⟨o,e,r⟩:=e;exact .tup ⟨o,k _ _ e,r⟩
 | str y t=>exact .str y t
abbrev zA (h:Heap) (o1:Obj):Heap:=h.push o1
abbrev zB (h:Heap) (o1 o2:Obj):Heap:=(zA h o1).push o2
abbrev zC (h:Heap) (o1 o2:Obj):Heap:=(zB h o1 o2).push {cls:=.type "tuple",data:=.seq #[.ref h.objs.size,.ref (zA h o1).objs.size]}
abbrev zD (h:Heap) (o1 o2:Obj):Heap:=(zC h o1 o2).push {cls:=.type "tuple",data:=.seq #[.none,.none]}
abbrev zE (h:Heap) (o1 o2:Obj):Heap:=(zD h o1 o2).push {cls:=.type "zip",data:=.fields #[.none,.bool false,.bool false,.ref (zB h o1 o2).objs.size,.ref (zC h o1 o2).objs.size]}
structure d4x (h g:Heap) (o1 o2:Obj) (z TI TO i1 i2:Addr):Prop where
 zip:IsZip g z TI TO .none
 ins:IsPair g TI (.ref i1) (.ref i2)
 outs:IsPair g TO .none .none
 one:g.get? i1=some o1
 two:g.get? i2=some o2
 keep:∀ c o,h.get? c=some o->g.get? c=some o
 young:∀ c∈[z,TI,TO,i1,i2],h.objs.size<=c
 ap:d9b z TI TO i1 i2
theorem d6h (h:Heap) (n1:o1.isFreed=false) (n2:o2.isFreed=false):d4x h (zE h o1 o2) o1 o2 (zD h o1 o2).objs.size (zB h o1 o2).objs.size (zC h o1 o2).objs.size h.objs.size (zA h o1).objs.size:=by
 have up:∀ {g:Heap} {a:Addr} {o u:Obj},g.get? a=some o->(g.push u).get? a=some o:=λ e=>z0e _ e
 have at_:∀ {g:Heap} {o:Obj},o.isFreed=false->(g.push o).get? g.objs.size=some o:=λ e=>z0t _ e
 have sA:(zA h o1).objs.size=h.objs.size+1:=z4v ..;have sB:(zB h o1 o2).objs.size=h.objs.size+2:=by rw[z4v,sA]
 have sC:(zC h o1 o2).objs.size=h.objs.size+3:=by rw[z4v,sB]
 have sD:(zD h o1 o2).objs.size=h.objs.size+4:=by rw[z4v,sC]
 refine⟨at_ rfl,up (up (at_ rfl)),up (at_ rfl),up (up (up (up (at_ n1)))),up (up (up (at_ n2))),λ c o e=>up (up (up (up (up e)))),λ c hc=>?_,?_⟩
 ·rw[sA,sB,sC,sD] at hc;simp only [z0a,z2a,z2c] at hc;rcases hc with e | e | e | e | e<;>(rw[e];first | exact z5k _ _ | exact z05 _)
 ·rw[sA,sB,sC,sD];exact d3v _
end
inductive d6u (K:W.Frag) (H:Hp):V->It->Prop where
 | list {a:Addr} {xs:List V} (h:SqL K H a xs):d6u K H (.ref a) (Itl K a)
 | tup {a:Addr} {xs:List V} (h:SqT K H a xs):d6u K H (.ref a) (Itt K a)
 | str (y:Str):d6u K H (.str y) (Itf (e2i y))
structure d8l (J:It) (H:Hp) (xs:List V):Prop where
 go:∀ i,i < xs.length->J.go i H
 stop:∀ i,xs.length<=i->J.stop i H
 yld:∀ i x H',J.yld i H x H'->xs[i]?=some x
theorem a2h {K:W.Frag} (h:SqL K H a xs):d8l (Itl K a) H xs:=⟨λ i hi=> nx9 xs (xs[i]) h (by simp[hi]),λ i hi=>⟨xs,h,hi⟩,λ i x H' y=>y.2 xs h⟩
theorem d9e {g:TG} {tb:TS} {D:c8l} (Pv:Nat->L2.St->Hp->Prop) (h0:Pv 0 σ H) (hl:∀ i σ H,Pv i σ H->d8l J1 H xs/\d8l J2 H ys)
  (hs:∀ i x y σ H p,xs[i]?=some x->ys[i]?=some y->Pv i σ H->H p=none->g (.ref p) σ (upd H p (.tup [x,y])) λ σ2 H2=>tb {D with nx:=Pv (i+1),ct:=Pv (i+1),bk:=D.nx} σ2 H2) (hd:∀ σ H,Pv (min xs.length ys.length) σ H->D.nx σ H) :
  ∃ W:Nat->Nat->L2.St->Hp->Prop,(∃ m,W 0 m σ H)/\∀ i m σ H,W i m σ H ->
   ((ItZ J1 J2).stop i H/\D.nx σ H)\/((ItZ J1 J2).go i H/\∃ N:L2.St->Hp->Prop,(∀ σ' H',N σ' H'->∃ m',m' < m/\W (i+1) m' σ' H')/\∀ x H',(ItZ J1 J2).yld i H x H'->g x σ H' λ σ2 H2=>tb {D with nx:=N,ct:=N,bk:=D.nx} σ2 H2):=by
 refine⟨λ i m σ H=>m=min xs.length ys.length - i/\i<=min xs.length ys.length/\Pv i σ H,⟨min xs.length ys.length,by simp,z0m _,h0⟩,?_⟩;rintro i m σ H ⟨rfl,hi,p⟩;obtain⟨G1,G2⟩:=hl i σ H p;by_cases hlt:i < min xs.length ys.length
 ·refine .inr ⟨⟨G1.go i (by lia),G2.go i (by lia)⟩,Pv (i+1),λ σ' H' p'=>⟨min xs.length ys.length - (i+1),by lia,rfl,hlt,p'⟩,λ v H' y=>?_⟩;obtain⟨q,x,y,y1,y2,rfl,hn,rfl⟩:=y;exact hs i x y σ H q (G1.yld i x _ y1) (G2.yld i y _ y2) p hn
 ·have e:i=min xs.length ys.length:=by lia
  subst e;refine .inl ⟨?_,hd σ H p⟩;by_cases h:xs.length<=ys.length
  ·exact .inl (G1.stop _ (by lia))
  ·exact .inr ⟨G1.go _ (by lia),G2.stop _ (by lia)⟩
end My
namespace My
open PySem PySem.Spec PyProof.Rows L2 PySem.NumText
def e2l (n:Nat) (x:Str):Prop:=x.length<=n/\∀ c∈x.cps.toList,c < 16 ^ 8
theorem e2l.num (h1:-(10 ^ 30) < n) (h2:n < 10 ^ 30):e2l 31 (Str.ofString (toString n)):=⟨(c3a h1 h2).2.2.1,c9v h1 h2⟩
end My
namespace My
open PySem PySem.Spec PyProof.Rows L2
section
variable {X:Cx} {pins:List (Addr×Obj)} {σ:L2.St} {H:Hp} {s:Shared} {scope:Scope} {N:List Str} {target iter elt:Expr} {pos:Pos} {g:TG} {te:TE}
theorem b5i (I:Inv X pins σ H s) (hf:∀ b∈fp,c3d X pins H b) (os:s'.os=s.os) (bare:AllBare s'.gens) (un:Un (frs X.stack) fp H H' s.heap s'.heap) (hok:HOk X.prog X.w H' s'.heap) (nC:H' C=none) (hC:s.heap.objs.size<=C) :
  Inv X pins σ H' s'/\c3d X pins H' C :=
 ⟨I.call' os un hok bare λ b hb=>let ⟨_,f1,_,f3,f4,f5⟩:=hf b hb;⟨f3,f1,f4,f5⟩,I.fpOk hC nC⟩
theorem d0u (I:Inv X pins σ H' s) (f:c3d X pins H' C) (k:Heap.SameBut C s.heap h'):Inv X pins σ H' {s with heap:=h'} :=
 let ⟨f0,f1,_,f3,f4,f5⟩:=f
 I.turned (t':=s.toks) (λ b o hb e=>(k.2 b hb).trans e) f0 f1 f3 f4 f5
end
inductive d7k (w:World):List DictEntry->List (Str×V)->Prop where
 | nil:d7k w [] []
 | cons {x:Str} {t:Tok} {v:V} {u:Value} {es:List DictEntry} {ps:List (Str×V)} (r:a2d v u) (q:d7k w es ps):d7k w ({hash:=hashStr w x,key:=.str x t,val:=u}::es) ((x,v)::ps)
theorem c9p {X:Cx} {K:W.Frag} {es:List Expr} {k:Nat} {t:TGs} {n:Nat} {pos:Pos} (hK:X.K=K) (hc:X.calm=true) (h:PGs X es t) (hn:(assignEach es X.env).length=n:=by rfl) (hst:(assignEach es X.env).findIdx? (·.1)=none:=by rfl):PG X (.Tuple es k pos) (e6l K n t):=by
 subst hK;exact a5n hc h hn hst
def c3y (a C:Addr) (d:Option Addr) (h:Heap):Prop:=∃ o,h.get? a=some o/\o.cls=.ref C/\o.dict=d/\∃ vs t0,o.data=.fields vs/\vs[0]?=some (.ref t0)/\vs[1]?=some .none/\vs[2]?=some .none
abbrev e3v (a C dx:Addr) (h:Heap):Prop:=c7m a C (some dx) h
section
variable {P:Program} {w:World} {H:Hp} {h:Heap} {a C dx:Addr} {fs:List (Str×V)}
theorem c3y.any (e:c3y a C (some dx) h):e3v a C dx h:=let ⟨o,q,c,d,vs,t0,x,_⟩:=e;⟨o,q,c,by unfold W.notCls;rw[x],d⟩
end
section
variable {X:Cx} {CX:CXT} {k:Nat} {f C:Addr} {fd:FuncData} {ps:List Str} {sp:Sp} {dvs:List V} {ds:List Value} {E:XK} {x m:Str} {p pos apos:Pos} {e o:Expr} {es:List Expr} {ta:TE} {t:TA}
structure e7j (K:W.Frag) (S:Addr) (m:Str) (id:String):Prop where
 sp:W.specialIn K (.ref S) "__getattribute__"=some (some (.builtin "type.__getattribute__"))
 rd:W.readsIn K S (.type "type")=true
 fd:W.findCls K (.ref S) (.type "type") m=some (.val (.builtin id))
 ha:W.handedIn (.builtin id)=true
end
def del (H:Hp) (a:Addr):Hp:=λ b=>if b=a then none else H b
section
variable {P:Program} {w:World} {K:W.Frag} {mg:Str->Option Value} {base:Heap} {N:List Str} {qual:Str} {scope:Scope} {f:Addr} {cd:Value} {A:Around} {outer:List Env} {s₀:Shared} {H₀:Hp} {E:XK}
 {pins:List (Addr×Obj)} {σ:L2.St} {H H2:Hp} {s s2:Shared} {h':Heap} {ea C:Addr} {d:Option Addr}
end
section
variable {X:Cx} {K:W.Frag}
theorem c7m.is (x:c7m a C d h):e1p a C h:=let ⟨o,e,c,_⟩:=x;⟨o,e,c⟩
theorem c3y.is (x:c3y a C d h):e1p a C h:=let ⟨o,e,c,_⟩:=x;⟨o,e,c⟩
end
def a3a (cells:List (Str×Addr)):List (Str×NameKind)->List (Str×Addr)->List (Str×Addr)
 | [],acc=>acc
 | (n,k)::r,acc=>if (k == NameKind.free)=true then a3a cells r ((n,(cells.lookup n).getD 0)::acc) else a3a cells r acc
theorem c5m (h:∀ q∈scope.names,q.2=.free->∃ c,env.cells.lookup q.1=some c):closureFor scope env=pure (a3a env.cells scope.names []):=by
 simp only [closureFor];generalize ([]:List (Str×Addr))=acc;revert h;generalize scope.names=names;intro h;induction names generalizing acc with
 | nil=>rfl
 | cons q r ih =>
  obtain⟨n,k⟩:=q;rw[z1r];by_cases hk:(k == NameKind.free)=true
  ·obtain⟨c,hc⟩:=h (n,k) z1p (by simpa using hk);have e:cellOf env n=pure c:=by simp only [cellOf,hc]
   simp only [a3a,hk,if_true,e,hc,Option.getD_some,pure_bind];exact ih _ λ q hq=>h q (z1j _ hq)
  ·simp only [a3a,hk,z2h,pure_bind,z36];exact ih _ λ q hq=>h q (z1j _ hq)
theorem b0w:∀ {names:List (Str×NameKind)} {acc:List (Str×Addr)},(∀ q∈names,q.2=.free->∃ c,cells.lookup q.1=some c)->(∀ x c,acc.lookup x=some c->cells.lookup x=some c)->∀ x c,(a3a cells names acc).lookup x=some c->cells.lookup x=some c
 | [],_,_,ha=>ha
 | (n,k)::r,acc,h,ha=>by
  intro x c e;by_cases hk:(k == NameKind.free)=true
  ·obtain⟨d,hd⟩:=h (n,k) z1p (by simpa using hk);rw[a3a,z02 hk] at e;refine b0w (λ q hq=>h q (z1j _ hq)) (λ y b q=>?_) x c e;cases hy:y == n with
   | true =>
    have ey:y=n:=by simpa using hy
    subst ey;have hd':=hd;rw[hd'] at q ⊢;simpa using q
   | false =>
    rw[z35,hy] at q;exact ha y b q
  ·rw[a3a,z01 hk] at e;exact b0w (λ q hq=>h q (z1j _ hq)) ha x c e
theorem a6x:∀ {names:List (Str×NameKind)} {acc:List (Str×Addr)} {x:Str},((x,NameKind.free)∈names\/∃ c,acc.lookup x=some c)->∃ c,(a3a cells names acc).lookup x=some c
 | [],_,_,h=>h.elim (λ z=>by cases z) id
 | (n,k)::r,acc,x,h=>by
  by_cases hk:(k == NameKind.free)=true
  ·rw[a3a,z02 hk];refine a6x ?_;cases hx:x == n with
   | true=>exact .inr ⟨_,by rw[z35,hx]⟩
   | false =>
    rcases h with h | ⟨c,h⟩
    ·rcases z0a.mp h with z | z
     ·cases z;simp at hx
     ·exact .inl z
    ·exact .inr ⟨c,by rw[z35,hx];exact h⟩
  ·rw[a3a,z01 hk];refine a6x ?_;rcases h with h | h
   ·rcases z0a.mp h with z | z
    ·cases z;exact absurd rfl hk
    ·exact .inl z
   ·exact .inr h
theorem a6s {env:Env}:∀ {names:List (Str×NameKind)} {x:Str} {k':NameKind},(names.map λ (n,k)=>if (k == NameKind.free && env.scope.kind == .function && env.kindOf n == some .cell) then (n,NameKind.cell) else (n,k)).lookup x=some k' ->
  ∃ k,names.lookup x=some k/\(k'=k\/(k=.free/\k'=.cell))
 | [],_,_,h=>by simp at h
 | (n,k)::r,x,k',h=>by
  have ih:=@a6s env r x k';have h:List.lookup x ((if (k == NameKind.free && env.scope.kind == .function && env.kindOf n == some .cell)=true then (n,NameKind.cell) else (n,k))::_)=some k':=h;cases hx:x == n with
  | true =>
   by_cases hc:(k == NameKind.free && env.scope.kind == .function && env.kindOf n == some .cell)=true
   ·rw[z02 hc,z35,hx] at h;cases h;have hk:k=.free:=by
     simp only [z3u] at hc;simpa using hc.1.1
    exact⟨k,by rw[z35,hx],.inr ⟨hk,rfl⟩⟩
   ·rw[z01 hc,z35,hx] at h;cases h;exact⟨k,by rw[z35,hx],.inl rfl⟩
  | false =>
   obtain⟨k2,e,q⟩:=ih (by
    by_cases hc:(k == NameKind.free && env.scope.kind == .function && env.kindOf n == some .cell)=true
    ·rw[z02 hc,z35,hx] at h;exact h
    ·rw[z01 hc,z35,hx] at h;exact h)
   exact⟨k2,by rw[z35,hx];exact e,q⟩
def a1i (X:Cx) (scope:Scope) (N:List Str) (cl:List (Str×Addr)) (C:Addr) (s₀:Shared) (H₀:Hp) (ex:List Addr):Cx :=
 {X with N:=N,s₀:=s₀,H₀:=H₀,env:=compEnvC scope cl C X.env,outer:=X.stack,stack:=X.stack,ex:=ex,fn:=λ _=>false,pn:=[],xe:=λ _ _=>False}
def b3v (σ:L2.St) (n:Nat) (js:List Nat):L2.St:=List.replicate n none++js.map λ j=>(σ[j]?).getD none
def e0k (ifs:List Expr) (env:Env):Sem Bool:=forIn ifs true λ c r=>if r=true then do let ok <- isTrue c env (eval c env);pure (ForInStep.yield ok) else pure (ForInStep.yield r)
structure d8o (X:Cx) (ifs:List Expr) (t:TT):Prop where
 run:∀ (pins:List (Addr×Obj)) (s:Shared) (σ:L2.St) (H:Hp) (Q:Bool->Hp->Prop),Inv X pins σ H s->t σ H Q->wpAny (model X.prog X.w) X.A (e0k ifs X.env) (TP X pins σ Q) X.xe s
def e7d:TT:=λ _ H Q=>Q true H
theorem a3w:d8o X [] e7d:=⟨λ pins s σ H Q I h=>wpAny_tests_nil ⟨H,I,h⟩⟩
theorem b2t (h:PT X c t):d8o X [c] t:=⟨λ pins s σ H Q I q=>wpAny_tests_one (h pins s σ H Q I q)⟩
structure a6d (X:Cx) (scope:Scope) (fv:List Str) (js:List Nat):Prop where
 kind:scope.kind=.function
 cell:∀ q∈scope.names,q.2≠.cell
 names:∀ q∈scope.names,q.2=.local->scope.names.lookup q.1=some .local
 free:∀ q∈scope.names,q.2=.free->q.1∈fv
 out:∀ x∈fv,X.env.kindOf x=some .cell\/X.env.kindOf x=some .free
 at':js.map (λ j=>X.N[j]?)=fv.map some
 fr:∀ x∈fv,scope.names.lookup x=some .free
section
variable {X:Cx} {pins:List (Addr×Obj)} {σ:L2.St} {H:Hp} {s:Shared} {scope:Scope} {N:List Str} {C:Addr} {ex:List Addr} {cl:List (Str×Addr)} {fv tg:List Str} {js:List Nat}
theorem a6d.clos (S:a6d X scope fv js) (ok:X.Ok):closureFor scope X.env=pure (a3a X.env.cells scope.names []):=c5m λ q hq e=>ok.has q.1 (S.out q.1 (S.free q hq e))
theorem a6d.sub (S:a6d X scope fv js) (ok:X.Ok):∀ x c,(a3a X.env.cells scope.names []).lookup x=some c->X.env.cells.lookup x=some c :=
 b0w (λ q hq e=>ok.has q.1 (S.out q.1 (S.free q hq e))) (λ x c e=>by cases e)
theorem d4s (I:Inv X pins σ H s) (S:a6d X scope fv js) (hC:s.heap.objs.size<=C)
  (hf:∀ b∈ex,c3d X pins H b) (ho:∀ b∈ex,∃ o,s.heap.get? b=some o):(a1i X scope N (a3a X.env.cells scope.names []) C s H ex).Ok:=by
 have sub:=S.sub I.ok;refine⟨I.ok.mod,S.kind,I.ok.glob,I.ok.blt,hC,λ x y c e1 e2=>I.ok.inj x y c (sub x c e1) (sub y c e2),λ x hx=>?_,λ x c z _=>Bool.noConfusion z,I.ok.hd,I.ok.frames,.inl rfl,λ b hb=>⟨?_,λ x c e=>?_⟩,I.bs,z0s I.ok.bsz I.sz,λ b o e hb=>?_,λ b hb hm=>?_,I.stack,I.stkFree⟩
 ·have e:∃ k',(relabel scope X.env).names.lookup x=some k'/\(k'=.cell\/k'=.free):=by
   rcases hx with z | z
   ·exact⟨_,z,.inl rfl⟩
   ·exact⟨_,z,.inr rfl⟩
  obtain⟨k',e,hk⟩:=e;obtain⟨k,e2,q⟩:=a6s e;have hk2:k=.free:=by
   rcases q with rfl | ⟨rfl,_⟩
   ·rcases hk with rfl | rfl
    ·exact absurd rfl (S.cell _ (z47 e2))
    ·rfl
   ·rfl
  subst hk2;exact a6x (.inl (z47 e2))
 ·obtain⟨o,e⟩:=ho b hb;exact z0k (z1l (z0g e) hC)
 ·obtain⟨_,_,_,_,q,_⟩:=hf b hb;exact q x c (sub x c e)
 ·obtain⟨_,_,_,q,_⟩:=hf b hb;rcases q with q | q
  ·exact I.ok.noex b o e q
  ·exact absurd (z1l (z0g e) (z0s I.ok.bsz q)) (z5b _)
 ·obtain⟨_,q1,q2,_⟩:=hf b hb;rcases z0a.mp (I.stkSub b hm) with z | z
  ·exact q1 z
  ·exact q2 z
theorem c2m (I:Inv X pins σ H s) (S:a6d X scope fv js) (ok:(a1i X scope (tg++fv) (a3a X.env.cells scope.names []) C s H ex).Ok) (hk:∀ b o,s.heap.get? b=some o->h'.get? b=some o) (hD:s.heap.get? D=none) (hC:s.heap.get? C=none) (hDC:D≠C)
  (hl:h'.get? D=some {cls:=.type "list",data:=.seq #[]}) (hn:h'.Ns C m):Inv (a1i X scope (tg++fv) (a3a X.env.cells scope.names []) C s H ex) [] (b3v σ tg.length js) (upd H D (.lst [])) {s with heap:=h',toks:=t'}:=by
 have nD:=a7e I hD;have neD:∀ b u,s.heap.get? b=some u->b≠D:=λ b u e z=>by rw[z,hD] at e;cases e
 have sub:=S.sub I.ok;have cellK:∀ c v,s.heap.IsCell c v->h'.IsCell c v:=λ c v ⟨o,ho,hd⟩=>⟨o,hk c o ho,hd⟩
 have hlen:js.length=fv.length:=by have:=z0b List.length S.at';simpa using this
 refine⟨ok,rfl,I.bare,⟨λ b u q _ _ _=>hk b u q,λ b u q _ _ _=>⟨u.slots,hk b u q⟩,λ b u q n _=>by rw[a0g (neD b u q)];exact n,λ b u q _=>⟨u,hk b u q⟩,λ b xs q=>by rw[a0g (a0s q nD)];exact q,
  λ b u xs q=>by rw[a0g (a0s q nD)];exact q,λ b ps (q:H b=_)=>⟨#[],by rw[a0g (a0s q nD),q];simp⟩⟩,⟨m,hn,λ i x v e1 e2 e3=>?_⟩,λ x c e=>?_,?_,λ x c e=>?_,λ p hp=>(by cases hp),λ b u e=>?_,by simp[a1i,b3v,hlen]⟩
 ·have e1:(tg++fv)[i]?=some x:=e1;rcases Nat.lt_or_ge i tg.length with hi | hi
  ·rw[b3v,z4a (by simpa using hi),List.getElem?_replicate,z02 hi] at e2;cases e2
  ·rw[z2u hi] at e1;rw[b3v,z2u (by simpa using hi),z3n,z09] at e2;obtain⟨j,hj,e2⟩:=z1z.mp e2;have hσ:σ[j]?=some (some v):=by
    cases q:σ[j]? with
    | none=>rw[q] at e2;cases e2
    | some z=>rw[q] at e2;exact z0b some e2
   have hN:X.N[j]?=some x:=by
    have q:=z0b (λ l=>l[i - tg.length]?) S.at';simp only [z09,hj,e1,z65] at q;exact z0r q
   have hx:=z0c e1;have ko:=S.out x hx;obtain⟨m0,_,hl0⟩:=I.loc;have vis:Vis X.env.scope x:=ko.elim (λ z=>.inr (.inl z)) λ z=>.inr (.inr z)
   obtain⟨u,ru,lk⟩:=hl0 j x v hN hσ vis;obtain⟨c,hc,hcell⟩:∃ c,X.env.cells.lookup x=some c/\s.heap.IsCell c (some u):=by
    rcases lk with ⟨z,_⟩ | ⟨_,q⟩
    ·rcases ko with y | y<;>(rw[y] at z;cases z)
    ·exact q
   obtain⟨c2,hc2⟩:∃ c2,(a3a X.env.cells scope.names []).lookup x=some c2:=a6x (.inl (z47 (S.fr x hx)));have ec:c2=c:=by have:=sub x c2 hc2;rw[hc] at this;exact(z0r this).symm
   subst ec;refine⟨u,ru,.inr ⟨?_,c2,hc2,cellK _ _ hcell⟩⟩;rcases e3 with z | z | z
   ·obtain⟨k,ek,q⟩:=a6s z;rw[S.fr x hx] at ek;cases ek;rcases q with q | ⟨_,q⟩<;>cases q
   ·exact .inl z
   ·exact .inr z
 ·obtain⟨v,z⟩:=I.cell x c (sub x c e);exact⟨v,cellK c v z⟩
 ·show upd H D (.lst []) C=none;rw[a0g (z1t hDC)];exact a7e I hC
 ·obtain⟨v,o,ho,_⟩:=I.cell x c (sub x c e);rw[a0g (neD c o ho)];exact I.freeC x c (sub x c e)
 ·by_cases hb:b=D
  ·subst hb;rw[a0b] at e;cases e;exact ⟨z0m _,nx9 ([]) _ (.nil) hl⟩
  ·rw[a0g hb] at e;exact(I.hok b u e).stay (λ c v _ q=>hk c v q) (λ c q=>by rw[a0g (a0s q nD)];exact q) λ c xs q=>by rw[a0g (a0s q nD)];exact q
end
theorem c5u {prog:Program} {w:World} {A:Around} {s:Shared} {R:Result->Shared->Prop} {elt target iter:Expr} {ifs:List Expr} {scope:Scope} {pos:Pos} {it acc:Value} {env:Env} (I:Nat->Shared->Prop)
  (turn:∀ n s,I n s->wpAny (model prog w) A (pyNext it) (λ r s1=>(r=none/\R (.ok .next) s1)\/∃ v,r=some v/\wpAny (model prog w) A (letOwnedTupleGo target it v) (λ _ s2=>wpAny (model prog w) A (assign target env v) (λ _ s3 =>
   wpAny (model prog w) A (e0k ifs env) (λ ok s4=>if ok=true then wpAny (model prog w) A (eval elt env) (λ x s5=>wpAny (model prog w) A (call (.builtin "list.append") [acc,x]) (λ _ s6=>∃ m,m < n/\I m s6) (λ _ _=>False) s5) (λ _ _=>False) s4
    else ∃ m,m < n/\I m s4) (λ _ _=>False) s3) (λ _ _=>False) s2) (λ _ _=>False) s1) (λ _ _=>False) s)
  (n:Nat) (h:I n s):codeAny (model prog w) A (.compLoop (.ListComp elt [⟨target,iter,ifs,0⟩] scope pos) 0 it acc env) R s:=by
 have no:∀ {α:Type} {E:Value->Shared->Prop} {t:Sem α} {Q:α->Shared->Prop} {u:Shared},wpAny (model prog w) A t Q (λ _ _=>False) u->wpAny (model prog w) A t Q E u:=λ z=>z1b z (λ _ _ q=>q) λ _ _ q=>q.elim
 refine codeAny_loop rfl I (λ n s hI=>wpAny_noted ?_) n h;rw[compTurn_list];refine z00 (wpAny_standAt (z00 (z1b (turn n s hI) (λ r s1 q=>?_) λ _ _ z=>z.elim)));rcases q with ⟨rfl,q⟩ | ⟨v,rfl,q⟩
 ·exact z03 q
 ·refine z00 (no (thn q λ _ s2 q2=>z00 (no (thn q2 λ _ s3 q3=>z00 (no (thn q3 λ ok s4 q4=>?_))))));cases ok with
  | false=>exact z03 ⟨rfl,q4⟩
  | true=>exact z00 (z00 (no (thn q4 λ x s5 q5=>z00 (no (thn q5 λ _ s6 q6=>z03 (z03 ⟨rfl,q6⟩))))))
def a6n (σ0:L2.St) (J:It) (g:TG) (tc:TT) (te:TE) (Q:VK) (H1:Hp):Prop:=∀ D,H1 D=none->∃ W:Nat->Nat->List V->L2.St->Hp->Prop,(∃ m,W 0 m [] σ0 (upd H1 D (.lst [])))/\∀ i m ys τ H,W i m ys τ H->H D=some (.lst ys) /\
 ((J.stop i H/\Q (.ref D) H)\/(J.go i H/\ys.length < sizeLine/\∀ v H',J.yld i H v H'->g v τ H' λ τ2 H2=>tc τ2 H2 λ ok H3=>if ok=true then te τ2 H3 λ y H4=>H4 D=some (.lst ys)/\∃ m',m' < m/\W (i+1) m' (ys++[y]) τ2 (upd H4 D (.lst (ys++[y])))
  else ∃ m',m' < m/\W (i+1) m' ys τ2 H3))
section
variable {X:Cx} {pins:List (Addr×Obj)} {σ:L2.St} {H:Hp} {s:Shared} {scope:Scope} {fv:List Str} {js:List Nat} {target iter elt:Expr} {ifs:List Expr} {pos:Pos} {g:TG} {tc:TT} {te:TE}
theorem b3k {E:Value->Shared->Prop} {tn:Nat->Heap->Prop} {RR:Value->Addr->Result->Shared->Prop} (tg:List Str) (I:Inv X pins σ H s) (hc:X.calm=true)
  (S:a6d X scope fv js) (T:d6t X.prog X.w X.K target J fp it tn) (st:tn 0 s.heap) (hf:∀ b∈fp,c3d X pins H b)
  (hg:∀ cl C s₀ H₀ ex,PG (a1i X scope (tg++fv) cl C s₀ H₀ ex) target g) (hi:∀ cl C s₀ H₀ ex,d8o (a1i X scope (tg++fv) cl C s₀ H₀ ex) ifs tc) (he:∀ cl C s₀ H₀ ex,PE (a1i X scope (tg++fv) cl C s₀ H₀ ex) elt te) (q:a6n (b3v σ tg.length js) J g tc te Q H)
  (hRR:∀ D C H' s' m,s'.os=s.os->AllBare s'.gens->Un (frs X.stack) fp H H' s.heap s'.heap->HOk X.prog X.w H' s'.heap->s'.heap.Ns C m->H' C=none->s.heap.objs.size<=C->Q (.ref D) H'->RR (.ref D) C (.ok .next) s') :
  wpAny (model X.prog X.w) X.A (newList []) (λ acc s3=>wpAny (model X.prog X.w) X.A (newFunctionEnv scope X.env.globals (a3a X.env.cells scope.names []) [] X.env.qual none .none (some X.env)) (λ cenv s4 =>
   codeAny (model X.prog X.w) X.A (.compStart (.ListComp elt [⟨target,iter,ifs,0⟩] scope pos) 0 (.ref it) acc {cenv with scope:=relabel scope X.env}) (RR acc cenv.locals) s4) E s3) E s:=by
 refine z4s (wpAny_newFunctionEnv S.cell (by intro y hy;simp at hy) (λ h1 hn k1=>?_) S.kind);generalize hg2:s.heap.push {cls:=.type "list",dict:=none,data:=.seq ([]:List Value).toArray}=g2 at hn k1 ⊢;have hC:g2.objs.size=s.heap.objs.size+1:=by rw[<-hg2,z4v]
 have hDC:s.heap.objs.size≠g2.objs.size:=by rw[hC];exact z0k (z4l _)
 have hle:s.heap.objs.size<=g2.objs.size:=by rw[hC];exact z3o _
 have nD:s.heap.get? s.heap.objs.size=none:=z5y (z05 _);have nC:=z5y hle;have old:=λ b o e=>k1.extBut b o (z0k (z1l (z0g e) hle)) (z0e _ (hg2 ▸ z0e _ e))
 have hl:=k1.extBut _ _ hDC (z0e _ (hg2 ▸ z0t _ rfl));have ob:=T.obj 0 s.heap st;generalize hcl:a3a X.env.cells scope.names []=cl;have ok:(a1i X scope (tg++fv) cl g2.objs.size s H fp).Ok:=hcl ▸ d4s I S hle hf λ b hb=>let ⟨o,e,_⟩:=ob b hb;⟨o,e⟩
 have I0:Inv (a1i X scope (tg++fv) cl g2.objs.size s H fp) [] (b3v σ tg.length js) (upd H s.heap.objs.size (.lst [])) {s with heap:=h1,toks:=s.toks+([]:List (Str×Value)).length}:=by
  subst hcl;exact c2m I S ok old nD nC hDC hl hn
 have st1:=T.keep 0 _ _ st λ b _ o e=>old b o e
 obtain⟨W,⟨m0,w0⟩,turn⟩:=q _ (a7e I nD);have fpok:∀ {H':Hp} {ps:List (Addr×Obj)},(∀ p∈ps,p.1 ∉ fp)->(∀ b∈fp,H' b=none)->∀ b∈fp,c3d (a1i X scope (tg++fv) cl g2.objs.size s H fp) ps H' b:=λ hps hn b hb=>⟨hn b hb,(ok.exf b hb).1,ok.exfs b hb,.inl hb,(ok.exf b hb).2,λ p hp z=>hps p hp (z ▸ hb)⟩
 have loop:codeAny (model X.prog X.w) X.A (.compLoop (.ListComp elt [⟨target,iter,ifs,0⟩] scope pos) 0 (.ref it) (.ref s.heap.objs.size) (compEnvC scope cl g2.objs.size X.env)) (RR (.ref s.heap.objs.size) g2.objs.size) {s with heap:=h1,toks:=s.toks+([]:List (Str×Value)).length}:=by
  refine c5u (λ n s'=>∃ i ys τ H',Inv (a1i X scope (tg++fv) cl g2.objs.size s H fp) [] τ H' s'/\tn i s'.heap/\(∀ b∈fp,H' b=none)/\W i n ys τ H') (λ n s' hI=>?_) m0 (nx30 0 ([]) _ _ I0 st1 (λ b hb=>?_) w0)
  ·obtain⟨i,ys,τ,H',I1,t1,f1,w1⟩:=hI;obtain⟨hD,w1⟩:=turn i n ys τ H' w1;rcases w1 with ⟨stop,qn⟩ | ⟨go,hz,step⟩
   ·refine thn (T.done (a1i X scope (tg++fv) cl g2.objs.size s H fp) rfl rfl rfl hc i [] s' τ H' _ I1 (fpok (by simp) f1) t1 stop) λ r s2 ⟨hr,I2⟩=>.inl ⟨hr,?_⟩
    obtain⟨m,hn2,_⟩:=I2.loc;exact hRR _ _ H' s2 m I2.os I2.bare I2.base I2.hok hn2 I2.free hle qn
   ·refine thn (T.item (a1i X scope (tg++fv) cl g2.objs.size s H fp) rfl rfl rfl hc i [] s' τ H' _ I1 (fpok (by simp) f1) t1 go) λ r s2 ⟨u,hr,h2⟩=>.inr ⟨u,hr,thn h2 λ _ s3 ⟨x,H3,I3,r3,y3,t3,f3⟩=>?_⟩
    have I3':=I3.pinned (fpok (by simp) f3) (T.obj _ _ t3);have back:∀ {s6:Shared} {τ4:L2.St} {H6:Hp},Inv (a1i X scope (tg++fv) cl g2.objs.size s H fp) ([]++b8z fp s3.heap) τ4 H6 s6->tn (i+1) s6.heap/\∀ b∈fp,H6 b=none:=λ I6 =>
     ⟨T.keep _ _ _ t3 λ b hb o e=>(I6.pin (b,o) (z1e _ (z1e _ (a7a hb e)))).1,λ b hb=>by
      obtain⟨o,e,_⟩:=T.obj _ _ t3 b hb;exact(I6.pin (b,o) (z1e _ (z1e _ (a7a hb e)))).2.1⟩
    refine thn ((hg _ _ _ _ _) _ s3 τ H3 x u _ I3' r3 (step x H3 y3)) λ _ s4 ⟨τ4,H4,I4,q4⟩=>?_
    refine thn ((hi _ _ _ _ _).run _ s4 τ4 H4 _ I4 q4) λ b s5 ⟨H5,I5,q5⟩=>?_
    cases b with
    | false =>
     obtain⟨m',hm,w5⟩:=(q5);obtain⟨b1,b2⟩:=back I5;exact nx29 m' hm (i+1) _ τ4 _ I5.unpinned b1 b2 w5
    | true =>
     refine thn ((he _ _ _ _ _) _ s5 τ4 H5 _ I5 q5) λ z s6 ⟨y,H6,I6,r6,hD6,m',hm,w6⟩=>?_
     refine thn (c0i _ s6 τ4 H6 (.ref s.heap.objs.size) [y] (.ref s.heap.objs.size) [z] (λ _ H7=>H7=upd H6 s.heap.objs.size (.lst (ys++[y]))) I6 rfl (.cons r6 .nil) (nx17 _ ys y rfl rfl hD6 hz rfl)) λ _ s7 ⟨v7,H7,I7,_,e7⟩=>?_
     subst e7;obtain⟨b1,b2⟩:=back I7;exact nx29 m' hm (i+1) _ τ4 _ I7.unpinned b1 b2 w6
  ·obtain⟨o,e,_⟩:=ob b hb;rw[a0g (z0k (z0g e))];exact(hf b hb).1
 exact codeAny_compStart_list loop (T.self _ 0 _ _ _ st1 loop)
def c4q (n:Nat) (js:List Nat) (wi:TI) (g:TG) (tc:TT) (te:TE):TE:=λ σ H Q=>wi σ H λ J H1=>a6n (b3v σ n js) J g tc te Q H1
theorem d3c (tg:List Str) (hc:X.calm=true) (S:a6d X scope fv js) (hi:PI X target iter wi)
  (hg:∀ cl C s₀ H₀ ex,PG (a1i X scope (tg++fv) cl C s₀ H₀ ex) target g) (hf:∀ cl C s₀ H₀ ex,d8o (a1i X scope (tg++fv) cl C s₀ H₀ ex) ifs tc) (he:∀ cl C s₀ H₀ ex,PE (a1i X scope (tg++fv) cl C s₀ H₀ ex) elt te) (hs:∀ x,foldedSetIterable iter X.env x=pure x:=by intro _;rfl) :
  PE X (.ListComp elt [⟨target,iter,ifs,0⟩] scope pos) (c4q tg.length js wi g tc te):=by
 constructor;intro pins s σ H Q I h;refine wpAny_comprehension_free rfl hs (S.clos I.ok) S.kind S.names (thn (hi pins s σ H _ I h) λ v s1 h1=>thn h1 λ itv s2 h2=>?_);obtain⟨it,fp,tn,J,H2,rfl,I2,T,st2,f2,q⟩:=h2;refine b3k tg I2 hc S T st2 f2 hg hf he q λ D C H' s' m os bare un hok hn nC hC qq=>⟨m,hn,λ h' k=>?_⟩
 obtain⟨IX,fC⟩:=b5i I2 f2 os bare un hok nC hC;exact nx0 (.ref D) H' (d0u IX fC k) rfl qq
theorem d3j (tg:List Str) (hc:X.calm=true) (hN:X.N.Nodup) (hy:X.N[i]?=some y) (hk:X.env.scope.names.lookup y=some .local) (S:a6d X scope fv js) (hi:PI X target iter wi)
  (hsw:swapsWith (.ListComp elt [⟨target,iter,ifs,0⟩] scope pos) (some (.Name y py)) spos.line X.env=pure true)
  (hg:∀ cl C s₀ H₀ ex,PG (a1i X scope (tg++fv) cl C s₀ H₀ ex) target g) (hf:∀ cl C s₀ H₀ ex,d8o (a1i X scope (tg++fv) cl C s₀ H₀ ex) ifs tc) (he:∀ cl C s₀ H₀ ex,PE (a1i X scope (tg++fv) cl C s₀ H₀ ex) elt te) (hs:∀ x,foldedSetIterable iter X.env x=pure x:=by intro _;rfl) :
  PS X (.Assign [.Name y py] (.ListComp elt [⟨target,iter,ifs,0⟩] scope pos) spos) (λ D σ H=>c4q tg.length js wi g tc te σ H λ v H1=>D.nx (σ.set i (some v)) H1):=by
 constructor;intro pins s σ H D I h;rw[exec_Assign_Name_used _ _ _ _ hsw];refine z00 (wpAny_standAt (z00 (z00 (z1b (wpAny_comprehension_free rfl hs (S.clos I.ok) S.kind S.names
  (thn (hi pins s σ H _ I h) λ v s1 h1=>thn h1 λ itv s2 h2=>?_)) (λ _ s' q=>z03 (z03 q)) λ _ _ z=>z))))
 obtain⟨it,fp,tn,J,H2,rfl,I2,T,st2,f2,q⟩:=h2;refine b3k tg I2 hc S T st2 f2 hg hf he q λ L C H' s' m os bare un hok hn nC hC qq=>?_
 obtain⟨IX,fC⟩:=b5i I2 f2 os bare un hok nC hC;refine wpAny_assign_Name (b7w IX hN hy (.inl hk) (v:=.ref L) rfl (λ s3 I3 ⟨a,k3,ha⟩=>?_) (.inr hk));have ne:C≠a:=by
  rcases ha with z | z
  ·rw[z];exact fC.2.1
  ·exact λ w'=>fC.2.2.2.2.1 y a z w'.symm
 exact⟨m,hn.sameBut k3 ne,λ h' k=> nx9 _ H' (d0u I3 fC k) qq⟩
end
theorem d2v {α:Type} {P:α->Prop}:∀ x∈([]:List α),P x:=λ _ h=>by cases h
theorem d0v {α:Type} {P:α->Prop} {a:α} {l:List α} (h:P a) (t:∀ x∈l,P x):∀ x∈a::l,P x:=λ x hx=>by
 rcases z0a.mp hx with e | e
 ·exact e ▸ h
 ·exact t x e
theorem a2q {K:W.Frag} (hK:X.K=K):IxR X (e5y K):=hK ▸ a0t
theorem a8y {K:W.Frag} (hK:X.K=K):IxR X (e6a K):=hK ▸ a0l
theorem a9y {σ0 fs:L2.St} (n:Nat) (f:Nat->Option V) (h0:σ0=List.replicate k none++fs) (hz:n<=sizeLine) (hgo:∀ i H,Same H1 H->i < n->J.go i H) (hstop:∀ H,Same H1 H->J.stop n H)
  (step:∀ i H (ts:L2.St) v H' (R:Option V->L2.St->Hp->Prop),Same H1 H->i < n->ts.length=k->J.yld i H v H'->(∀ (ts2:L2.St) H3,ts2.length=k->Same H H3->R (f i) (ts2++fs) H3) ->
   g v (ts++fs) H' λ τ2 H2=>tc τ2 H2 λ ok H3=>if ok=true then te τ2 H3 λ y H4=>R (some y) τ2 H4 else R none τ2 H3)
  (fin:∀ D H',H1 D=none->Same H1 H'->H' D=some (.lst ((List.range n).filterMap f))->Q (.ref D) H'):a6n σ0 J g tc te Q H1:=by
 intro D hD;refine⟨λ i m ys τ H=>m=n - i/\i<=n/\ys=(List.range i).filterMap f/\(∃ ts:L2.St,ts.length=k/\τ=ts++fs)/\Same H1 H/\H D=some (.lst ys),⟨n,rfl,z0m _,rfl,⟨_,z3n,h0⟩,Same.upd hD,a0b⟩,?_⟩;rintro i m ys τ H ⟨rfl,hi,rfl,⟨ts,ht,rfl⟩,ss,hd⟩;refine⟨hd,?_⟩;by_cases hlt:i < n
 ·have hl:((List.range i).filterMap f).length < sizeLine:=z4n (z6u _ _) (by rw[z1m];lia);refine .inr ⟨hgo i H ss hlt,hl,λ v H' y=>step i H ts v H' (λ o τ2 H3=>match o with
   | some y=>H3 D=some (.lst ((List.range i).filterMap f))/\∃ m',m' < n - i/\m'=n - (i+1)/\i+1<=n/\(List.range i).filterMap f++[y]=(List.range (i+1)).filterMap f/\(∃ ts:L2.St,ts.length=k/\τ2=ts++fs)/\Same H1 (upd H3 D (.lst ((List.range i).filterMap f++[y])))/\upd H3 D (.lst ((List.range i).filterMap f++[y])) D=some (.lst ((List.range i).filterMap f++[y]))
   | none=>∃ m',m' < n - i/\m'=n - (i+1)/\i+1<=n/\(List.range i).filterMap f=(List.range (i+1)).filterMap f/\(∃ ts:L2.St,ts.length=k/\τ2=ts++fs)/\Same H1 H3/\H3 D=some (.lst ((List.range i).filterMap f))) ss hlt ht y λ ts2 H3 h2 s3=>?_⟩
  cases e:f i with
  | none =>
   refine⟨n - (i+1),by lia,rfl,hlt,?_,⟨ts2,h2,rfl⟩,ss.trans s3,s3 _ _ hd⟩;rw[z28,z2l];simp[e]
  | some y =>
   refine⟨s3 _ _ hd,n - (i+1),by lia,rfl,hlt,?_,⟨ts2,h2,rfl⟩,(ss.trans s3).again hD,a0b⟩;rw[z28,z2l];simp[e]
 ·have e:i=n:=by lia
  subst e;exact .inl ⟨hstop H ss,fin D H hD ss hd⟩
section
variable {X:Cx} {pins:List (Addr×Obj)} {σ:L2.St} {H:Hp} {s:Shared} {a:Addr} {kvs:List (Key×V)} {k:Key} {u r:Value} {d:V} {A:Around} {E:Value->Shared->Prop}
theorem d2j (I:Inv X pins σ H s) (e:H a=some (.dK kvs)) (ry:a2d (kV k) u) (rd:a2d d r) (hl:kvs.length < sizeLine) (h1:∀ v w' s',a1r kvs k=some v->Inv X pins σ H s'->a2d v w'->Q w' s')
  (h2:a1r kvs k=none->∀ s',Inv X pins σ (upd H a (.dK (a3t kvs k d))) s'->Q r s'):wpAny (model X.prog X.w) A (call (.builtin "dict.setdefault") [.ref a,u,r]) Q E s:=by
 obtain⟨z,hd,vs,rel,dd⟩:=d7l I.hok e;refine call_meetsIn z6f dd.typeIs F.entry_dict_setdefault (F.args_dict_setdefault_3 _ _ _) (kt_meets_setdefault (a0y X.prog X.w) a (c2e ry) hd r) ⟨vs,dd,by rw[<-rel.length];exact z,λ v hv=>?_,λ hn h' dd' hs=>?_⟩
 ·have q:=rel.val k;cases e2:a1r kvs k with
  | none=>rw[e2] at q;rw[b4f.none_of q] at hv;cases hv
  | some y =>
   rw[e2] at q;obtain⟨w',hw,rw'⟩:=b4f.some_of q;rw[hw] at hv;cases hv;exact h1 y _ _ e2 (I.tok _) rw'
 ·have q:=rel.val k;cases e2:a1r kvs k with
  | some y =>
   rw[e2] at q;obtain⟨w',hw,_⟩:=b4f.some_of q;rw[hw] at hn;cases hn
  | none =>
   refine h2 e2 _ ?_;have he:∃ q,h'.get? a=some q:=let ⟨q,_,_,hq,_⟩:=dd';⟨q,hq⟩
   have hz:(a3t kvs k d).length<=sizeLine:=by have:=a2c kvs k d;lia
   exact b6b I (by rw[e];exact True.intro) hs he (d1a hz hd (rel.put k rd) dd')
end
def e4e (td ty tx:TE):TE:=λ σ H Q=>td σ H λ x H1=>∃ a,x=.ref a/\IsD H1 a/\ty σ H1 λ y H2=>tx σ H2 λ z H3=>∃ kvs k,H3 a=some (.dK kvs)/\y=kV k/\kvs.length < sizeLine /\
 (∀ v,a1r kvs k=some v->Q v H3)/\(a1r kvs k=none->Q z (upd H3 a (.dK (a3t kvs k z))))
section
variable {X:Cx} {o e f:Expr} {td ty tx:TE} {apos cpos:Pos}
theorem d7z (ho:PE X o td) (he:PE X e ty) (hf:PE X f tx) (m:M2 X o "setdefault" apos e f cpos):PE X (.Call (.Attribute o "setdefault" apos) [e,f] [] cpos) (e4e td ty tx):=by
 constructor;intro pins s σ H Q I h;refine z6p m.base m.few m.line z6e z6f F.type_dict_setdefault (thn (ho pins s σ H _ I h) λ u s1 ⟨x,H1,I1,rx,a,ex,d,q1⟩=>?_);subst ex;obtain rfl:u=Value.ref a:=rx;obtain⟨t1,t2,_⟩:=c3g I1 d;refine⟨t1,t2,?_⟩;rw[m.trees];refine z52 rfl (z5h (z3f (thn (he pins s1 σ H1 _ I1 q1) λ iv s2 ⟨y,H2,I2,ry,q2⟩ =>
  z3f (thn (hf pins s2 σ H2 _ I2 q2) λ fv s3 ⟨z,H3,I3,rz,kvs,k,ea,ey,hl,q3,q4⟩=>z5e ?_))))
 subst ey;exact d2j I3 ea ry rz hl (λ v w' s4 l I4 rw'=> nx0 v H3 I4 rw' (q3 v l)) λ l s4 I4=> nx0 z _ I4 rz (q4 l)
theorem b9y:∀ {a b:List Int},a.Perm b->a.Pairwise (·<=·)->b.Pairwise (·<=·)->a=b
 | [],_,p,_,_=>(List.nil_perm.mp p).symm
 | x::r,b,p,ha,hb=>by
  cases b with
  | nil=>exact absurd (List.perm_nil.mp p) (by simp)
  | cons y t =>
   rw[z3y] at ha hb;have h1:x<=y:=by
    rcases z0a.mp (p.symm.subset z1p) with e | e
    ·lia
    ·exact ha.1 y e
   have h2:y<=x:=by
    rcases z0a.mp (p.subset z1p) with e | e
    ·lia
    ·exact hb.1 x e
   have e:x=y:=by lia
   subst e;rw[b9y ((List.perm_cons x).mp p) ha.2 hb.2]
def a2s (ks:List Int):List Int:=ks.mergeSort (·<=·)
theorem a1b (ks:List Int):(a2s ks).Perm ks:=z67 ks _
theorem b2p (ks:List Int):(a2s ks).Pairwise (·<=·):=by
 have:=List.pairwise_mergeSort (le:=λ a b:Int=>decide (a<=b)) (λ a b c h1 h2=>by simp only [z2d] at *;lia) (λ a b=>by simp only [Bool.or_eq_true,z2d];lia) ks;exact this.imp λ h=>by simpa using h
theorem c4m {ks ks':List Int} (p:ks'.Perm ks) (h:ks'.Pairwise (·<=·)):ks'=a2s ks:=b9y (p.trans (a1b ks).symm) h (b2p ks)
theorem b3c:∀ {us:List Value} {ns:List Int},IntsAre us ns->a2e (ns.map V.int) us
 | _,_,.nil=>.nil
 | _,_,.cons _ _ t=>.cons ⟨_,rfl⟩ (b3c t)
theorem b0i:∀ {us:List Value} {ns:List Int},us.length=ns.length->(∀ (j:Nat) (v:Value),us[j]?=some v->∃ n t,ns[j]?=some n/\v=Value.int n t)->IntsAre us ns
 | [],[],_,_=>.nil
 | [],_::_,h,_=>by simp at h
 | _::_,[],h,_=>by simp at h
 | u::us,n::ns,h,hv=>by
  obtain⟨m,t,e,rfl⟩:=hv 0 u rfl;cases (e);exact .cons _ _ (b0i (by simpa using h) λ j v e=>hv (j+1) v (by simpa using e))
theorem b1h (hc:X.calm=true):b4l X (.builtin "sorted") (λ xs H Q=>∃ (a:Addr) (kvs:List (Key×V)) (ks:List Int),xs=[V.ref a]/\H a=some (.dK kvs)/\kvs.map (·.1)=ks.map Sum.inl/\ks.length < 64/\∀ p,H p=none->Q (.ref p) (upd H p (.lst ((a2s ks).map V.int)))):=by
 intro pins s σ H xs us Q I r h;obtain⟨a,kvs,ks,rfl,e,ek,h64,q⟩:=h;obtain⟨u,rfl,ru⟩:=b3r r;cases ru;obtain⟨z,hd,vs,rel,dd⟩:=d7l I.hok e;obtain⟨ep,hat⟩:=dd.dictAt;have hkl:vs.length=ks.length:=by rw[<-rel.length,<-z04,ek,z04]
 have hsz:vs.length<=sizeLine:=by rw[<-rel.length];exact z
 refine z71 kind_sorted plain_sorted entry_sorted (args_sorted1 _) ?_;refine z00 (z03 ?_);refine z00 (W.kdu_collect (W.kdl_dict hd) (I.ok.hd hc) hat hsz λ h' tk acc hk hacc=>?_);have hl:acc.toList.length=vs.length:=by rw[z0q];exact hacc.1
 have hI:=b0i (by rw[hl,hkl]) λ j v ev=>by
  obtain⟨k,x,hx,hkk⟩:=hacc.2 j v (by rw[<-z0u];exact ev);have e1:(vs.map (·.1))[j]?=some k:=by rw[z09,hx];rfl
  rw[<-rel.keys,ek,z09] at e1;obtain⟨n,hn,rfl⟩:=z1z.mp e1;rcases a1o (show c2c (Sum.inl n) v=true from hkk) with ⟨i,t,ei,ev2⟩ | ⟨y,t,ei,ev2⟩
  ·cases ei;exact nx9 n t hn ev2
  ·cases ei
 refine z00 (z55 ?_ (by rw[hl];exact hsz));have hoL:(h'.push {cls:=.type "list",data:=.seq acc.toList.toArray}).get? h'.objs.size=some (seqObj "list" acc.toList.toArray 0):=z0t _ rfl;refine z00 (z1n (z1q slot_list_sort ⟨_,hoL,rfl⟩ entry_list_sort (list_sort_tree hoL hI (by rw[hl,hkl];exact h64) λ out ns' a1 a2 a3=>⟨_,rfl,?_⟩) (args_list_sort _)));obtain⟨ep',hat'⟩:=sortedHeap_at hoL;have I1:=I.kept (t':=tk) hk;have en:=c4m a2 a3;subst en;have I2:=I1.laid (o:=.lst ((a2s ks).map V.int)) (t':=tk) (h':=sortedHeap (h'.push {cls:=.type "list",data:=.seq acc.toList.toArray}) h'.objs.size acc.toList out)
  (λ b v ev=>by
   have hb:=z0g ev;rw[sortedHeap_old (z0k hb) (by rw[z2y];exact z5a hb)];exact z0e _ ev) (z05 _)
  (⟨by rw[z04,(a1b ks).length_eq,<-hkl];exact hsz,nx9 out.toList ep' (b3c a1) (by simpa [seqObj] using hat')⟩)
 exact z03 (nx7 _ rfl (.ref _) _ I2 rfl (q _ (I1.hok.fresh (z05 _))))
end
section
variable {K:W.Frag}
theorem e2d:W.kitOne K (.type "list") (.type "list")=some true:=by
 show (if (Value.type "list" == Value.type "list")=true then some true else if W.kitMeta "list"=true then (fastBuiltinMro "list").map (·.contains (Value.type "list")) else none)=some true;decide +kernel
end
def rAppendA:V->List V->Hp->VK->Prop:=λ x vs H Q=>∃ l xs y,x=.ref l/\vs=[y]/\H l=some (.lst xs)/\xs.length < sizeLine/\∀ H',H' l=some (.lst (xs++[y]))->(∀ b o,b≠l->H b=some o->H' b=some o)->Q .non H'
theorem a3z:MtM X "list.append" rAppendA:=by
 intro pins s σ H x vs v us Q I rx rv h;obtain⟨l,xs,y,ex,ev,hH,hz,q⟩:=h;exact c0i pins s σ H x vs v us Q I rx rv (nx17 l xs y ex ev hH hz (q _ a0b λ b o n e=>by rw[a0g n];exact e))
def e4q:V->V->V->Hp->(Hp->Prop)->Prop:=λ o i v H Q=>∃ p xs k j,o=.ref p/\i=.int k/\H p=some (.lst xs)/\ixN xs.length k=some j/\∀ H',H' p=some (.lst (xs.set j v))->(∀ b o,b≠p->H b=some o->H' b=some o)->Q H'
theorem b2y:e4c X e4q:=by
 intro pins s σ H o i v ov iv u Q I ro ri rv h;obtain⟨p,xs,k,j,eo,ei,hp,hj,q⟩:=h;exact d1x pins s σ H o i v ov iv u Q I ro ri rv (nx1 p xs k j eo ei hp hj (q _ a0b λ b o n e=>by rw[a0g n];exact e))
def rClearA:V->List V->Hp->VK->Prop:=λ x vs H Q=>∃ l xs,x=.ref l/\vs=[]/\H l=some (.lst xs)/\∀ H',(∀ b o,b≠l->H b=some o->H' b=some o)->Q .non H'
theorem c6x:MtM X "list.clear" rClearA:=by
 intro pins s σ H x vs v us Q I rx rv h;obtain⟨l,xs,ex,ev,hH,q⟩:=h;exact d1s pins s σ H x vs v us Q I rx rv (nx8 l xs ex ev hH (q _ λ b o n e=>by rw[a0g n];exact e))
def ItE (K:W.Frag) (a:Addr):It :=
 ⟨λ i H=>∃ xs x,SqL K H a xs/\xs[i]?=some x,λ i H v H'=>∃ p x,(∀ xs,SqL K H a xs->xs[i]?=some x)/\v=.ref p/\H p=none/\H'=upd H p (.tup [.int i,x]),λ i H=>∃ xs,SqL K H a xs/\xs.length=i⟩
section
variable {P:Program} {w:World} {K:W.Frag}
theorem d8r {σ:L2.St} (I:Inv X pins σ H s) (fe:c3d X pins H e) (fi:c3d X pins H it) (oe:∃ o,h'.get? e=some o) (oi:∃ o,h'.get? it=some o)
  (k:∀ b o,b≠e->b≠it->s.heap.get? b=some o->h'.get? b=some o):Inv X pins σ H {s with heap:=h',toks:=t'}:=by
 have nb:∀ b o,H b=some o->b≠e/\b≠it:=λ b o q=>⟨λ z=>(by rw[z,fe.1] at q;cases q),λ z=>(by rw[z,fi.1] at q;cases q)⟩
 refine I.call' (ch:=[e,it]) rfl ⟨λ b o q _ _ hx=>?_,λ b o q _ _ hx=>?_,λ b o q n _=>n,λ b o q hx=>?_,λ b xs q=>q,λ b o u q=>q,λ b ps (q:H b=_)=>⟨#[],by rw[q];simp⟩⟩ (λ b u q=>?_) I.bare λ b hb=>?_
 ·simp only [z0a,z2a,z2c,not_or] at hx;exact k b o hx.1 hx.2 q
 ·simp only [z0a,z2a,z2c,not_or] at hx;exact⟨o.slots,k b o hx.1 hx.2 q⟩
 ·by_cases z:b=e
  ·rw[z];exact oe
  ·by_cases y:b=it
   ·rw[y];exact oi
   ·exact⟨o,k b o z y q⟩
 ·refine(I.hok b u q).stay (λ c v hc z=>?_) (λ c z=>z) λ c xs z=>z
  rcases hc with y | y
  ·subst y;obtain⟨n1,n2⟩:=nb _ _ q;exact k _ v n1 n2 z
  ·obtain⟨n1,n2⟩:=nb _ _ y;exact k _ v n1 n2 z
 ·simp only [z0a,z2a,z2c] at hb;rcases hb with rfl | rfl
  ·exact⟨fe.2.2.2.1,fe.2.1,fe.2.2.2.2.1,fe.2.2.2.2.2⟩
  ·exact⟨fi.2.2.2.1,fi.2.1,fi.2.2.2.2.1,fi.2.2.2.2.2⟩
theorem c6q (a e it:Addr) (hei:e≠it):d6t P w K (.Tuple elts kk tpos) (ItE K a) [e,it] e (λ i h=>(∃ old,IsEnum h e it i old)/\h.IsListIter it a i) where
 mem:=by simp
 obj:=λ i h ⟨⟨old,he⟩,hi⟩ c hc=>by
  simp only [z0a,z2a,z2c] at hc;rcases hc with z | z
  ·rw[z];exact⟨_,he,λ v z=>by simp at z⟩
  ·rw[z];obtain⟨o,eo,c,d⟩:=hi;exact⟨o,eo,λ v z=>by rw[d] at z;cases z⟩
 keep:=λ i h h' ⟨⟨old,he⟩,hi⟩ k=>⟨⟨old,k e (by simp) _ he⟩,hi.at λ o eo=>k it (by simp) o eo⟩
 item:=by
  intro X hP hw hK hc i pins s σ H E I hf st hg;subst hP hw hK;obtain⟨⟨old,he⟩,hi⟩:=st;obtain⟨xs,x,hq,hx⟩:=hg;obtain⟨its,rv,p,hz⟩:=I.list hq;obtain⟨u,hu,ru⟩:=rv.get hx;have hlt:i < its.toArray.size:=by rw[z0p];exact(z0l.mp hu).1
  have hai:a≠it:=λ z=>by
   obtain⟨o,e1,c1,_⟩:=p.isList;obtain⟨o2,e2,c2,_⟩:=hi;rw[z,e2] at e1;cases e1;rw[c2] at c1;exact absurd c1 (by decide)
  have hae:e≠a:=λ z=>by
   obtain⟨o,e1,c1,_⟩:=p.isList;rw[<-z,he] at e1;cases e1;exact absurd c1 (show ¬ (Value.type "enumerate"=Value.type "list") from by decide)
  refine wpAny_pyNext_enum_itemD (Draws.list (A:=X.A.in1) (I.ok.hd hc) it a hai its.toArray) he ⟨hi,p.isList⟩ hlt hei ?_ λ x' h' tk hx' ho' st' ht' hz' k'=>?_
  ·simp only [z0a,z2a,z2c,not_or];exact⟨hei,hae⟩
  have ex:x'=u:=by
   have:its[i]?=some x':=by simpa using hx'
   rw[hu] at this;exact(z0r this).symm
  subst ex;refine⟨_,rfl,wpAny_letOwnedTupleGo_enum ho' λ h2 he2 hs2=>?_⟩;have helt:=z0g he;have hilt:=let ⟨o,eo,_⟩:=hi;z0g eo
  have nT:s.heap.get? s.heap.objs.size=none:=z5y (z05 _);have hT:=hs2.extBut _ _ (z4u helt) ht';have st2:=st'.1.at λ o eo=>hs2.extBut _ _ (z1t hei) eo
  have I2:Inv X pins σ H {s with heap:=h2,toks:=tk+1}:=d8r I (hf e (by simp)) (hf it (by simp)) ⟨_,he2⟩ (let ⟨o,eo,_⟩:=st2;⟨o,eo⟩) λ b o n1 n2 q=>hs2.extBut _ _ n1 (k' b o n1 n2 q)
  have HT:=a7e I nT;have I3:Inv X pins σ (upd H s.heap.objs.size (.tup [.int i,x])) {s with heap:=h2,toks:=tk+1}:=c8v I I2 nT HT (⟨by show 2<=sizeLine;decide,[.int i tk,x'],.cons ⟨_,rfl⟩ (.cons ru .nil),nx13 _ hT rfl _ rfl⟩);refine nx12 (.ref s.heap.objs.size) _ I3 rfl (nx8 s.heap.objs.size x (λ ys hy=>by rw[I.list_inj hy hq];exact hx) rfl HT rfl) ⟨⟨_,he2⟩,st2⟩ λ c hcm=>?_;simp only [z0a,z2a,z2c] at hcm;rcases hcm with z | z
  ·rw[z,a0g (z0k helt)];exact(hf e (by simp)).1
  ·rw[z,a0g (z0k hilt)];exact(hf it (by simp)).1
 done:=by
  intro X hP hw hK hc i pins s σ H E I hf st hg;subst hP hw hK;obtain⟨⟨old,he⟩,hi⟩:=st;obtain⟨xs,hq,hx⟩:=hg;obtain⟨its,rv,p,hz⟩:=I.list hq;have hai:a≠it:=λ z=>by
   obtain⟨o,e1,c1,_⟩:=p.isList;obtain⟨o2,e2,c2,_⟩:=hi;rw[z,e2] at e1;cases e1;rw[c2] at c1;exact absurd c1 (by decide)
  have hn:its.toArray.size=i:=by rw[z0p,<-rv.length];exact hx
  subst hn;refine wpAny_pyNext_enum_endD (Draws.list (A:=X.A.in1) (I.ok.hd hc) it a hai its.toArray) he ⟨hi,p.isList⟩ λ h' k=>⟨rfl,?_⟩
  obtain⟨f0,f1,f2,f3,f4,f5⟩:=hf it (by simp);exact I.turned (λ b o hb eo=>k b o hb eo) f0 f1 f3 f4 f5
 self:=λ _ _ _ _ _ st h=>let ⟨⟨_,he⟩,_⟩:=st;wpAny_pyIter_enum he h
end
section
variable {X:Cx}
def e5p (K:W.Frag) (ta:TA):TI:=λ σ H R=>ta σ H λ vs H1=>∃ a xs,vs=[.ref a]/\H1 a=some (.lst xs)/\R (ItE K a) H1
theorem d0l (hg:Gl X "enumerate") (hm:X.mg "enumerate"=none) (ha:PA X [a] ta) (hs:starEach [a] X.env=[(false,eval a X.env)]:=by rfl) :
  PI X (.Tuple elts kk tpos) (.Call (.Name "enumerate" p) [a] [] pos) (e5p X.K ta):=by
 constructor;intro pins s σ H R I h;refine Call_ (a7w I hg hm boot_enumerate (z5c (thn (ha pos pins s σ H _ I h) λ us s1 ⟨vs,H1,I1,r1,q1⟩=>?_) hs rfl));obtain⟨l,xs,rfl,hl,q⟩:=q1;obtain⟨u,rfl,ru⟩:=b3r r1;cases ru;obtain⟨z,its,n,rv,e⟩:=(I1.hok l _ hl);refine call_enumerate_1 e λ h' he hi hz k=>?_
 have I2:=I1.kept (t':=s1.toks) k;refine wpAny_pyIter_enum he (nx23 (s1.heap.objs.size+1) ([s1.heap.objs.size+1,s1.heap.objs.size]) _ (ItE X.K l) H1 rfl I2 (c6q l _ _ (z4u (z4l _))) ⟨⟨_,he⟩,hi⟩ ⟨λ b hb=>?_,q⟩);have hb':s1.heap.objs.size<=b:=by
  simp only [z0a,z2a,z2c] at hb;rcases hb with z | z<;>(rw[z];first | exact z3o _ | exact z05 _)
 exact I1.fpOk hb' (I1.hok.fresh hb')
end
theorem c3x {K:PySem.W.Frag} {g:TG} {tb:TS} {D:c8l} (Pv:Nat->L2.St->Hp->Prop) (h0:Pv 0 σ H) (hl:∀ i σ H,Pv i σ H->SqL K H a xs)
  (hs:∀ i x σ H p,xs[i]?=some x->Pv i σ H->H p=none->g (.ref p) σ (upd H p (.tup [.int i,x])) λ σ2 H2=>tb {D with nx:=Pv (i+1),ct:=Pv (i+1),bk:=D.nx} σ2 H2) (hd:∀ σ H,Pv xs.length σ H->D.nx σ H) :
  ∃ W:Nat->Nat->L2.St->Hp->Prop,(∃ m,W 0 m σ H)/\∀ i m σ H,W i m σ H ->
   ((ItE K a).stop i H/\D.nx σ H)\/((ItE K a).go i H/\∃ N:L2.St->Hp->Prop,(∀ σ' H',N σ' H'->∃ m',m' < m/\W (i+1) m' σ' H')/\∀ x H',(ItE K a).yld i H x H'->g x σ H' λ σ2 H2=>tb {D with nx:=N,ct:=N,bk:=D.nx} σ2 H2):=by
 refine⟨λ i m σ H=>m=xs.length - i/\i<=xs.length/\Pv i σ H,⟨xs.length,by simp,z0m _,h0⟩,?_⟩;rintro i m σ H ⟨rfl,hi,p⟩;by_cases hlt:i < xs.length
 ·refine .inr ⟨nx9 xs (xs[i]) (hl i σ H p) (by simp[hlt]),Pv (i+1),λ σ' H' p'=>⟨xs.length - (i+1),by lia,rfl,hlt,p'⟩,?_⟩;rintro x H' ⟨q,y,hy,rfl,hq,rfl⟩;exact hs i y σ H q (hy xs (hl i σ H p)) p hq
 ·have e:i=xs.length:=by lia
  subst e;exact .inl ⟨⟨xs,hl _ σ H p,rfl⟩,hd σ H p⟩
theorem c5d {σ:L2.St} (I:Inv X pins σ H s) (e:H d=some (.dK kvs)) (ho:s.heap.get? d=some ob):Inv X pins σ (upd H d (.frz ob (.dK kvs))) s:=by
 have ne:∀ b,H b=none->b≠d:=λ b q z=>by rw[z,e] at q;cases q
 refine⟨I.ok,I.os,I.bare,⟨I.base.keep,I.base.slot,λ b o q n hx=>?_,I.base.there,λ b xs q=>?_,λ b o u q=>?_,λ b ps q=>?_⟩,I.loc,I.cell,?_,λ x c q=>?_,λ p hp=>?_,λ b u q=>?_,I.len⟩
 ·have:=I.base.free b o q n hx;rw[a0g (ne b this)];exact this
 ·have:=I.base.tups b xs q;rw[a0g λ z=>by rw[z,e] at this;cases this];exact this
 ·have:=I.base.frzs b o u q;rw[a0g λ z=>by rw[z,e] at this;cases this];exact this
 ·obtain⟨more,q2⟩:=I.base.tbls b ps q;exact⟨more,by rw[a0g λ z=>by rw[z,e] at q2;cases q2];exact q2⟩
 ·rw[a0g (ne _ I.free)];exact I.free
 ·rw[a0g (ne _ (I.freeC x c q))];exact I.freeC x c q
 ·obtain⟨a1,a2,a3⟩:=I.pin p hp;exact⟨a1,by rw[a0g (ne _ a2)];exact a2,a3⟩
 ·by_cases hb:b=d
  ·subst hb;rw[a0b] at q;cases q;exact⟨ho,(I.hok b _ e).stay (λ c v _ z=>z) (λ c z=>by rw[a0g λ y=>by rw[y,e] at z;cases z];exact z) λ c xs z=>by rw[a0g λ y=>by rw[y,e] at z;cases z];exact z⟩
  ·rw[a0g hb] at q;exact(I.hok b u q).stay (λ c v _ z=>z) (λ c z=>by rw[a0g λ y=>by rw[y,e] at z;cases z];exact z) λ c xs z=>by rw[a0g λ y=>by rw[y,e] at z;cases z];exact z
theorem a1g:∀ {l:List α} {m:List β} {i:Nat} {a:α},Paired F l m->l[i]?=some a->∃ b,m[i]?=some b/\F a b
 | _,_,_,_,.nil,e=>by simp at e
 | _,_,0,_,.cons h _,e=>by simp at e;subst e;exact⟨_,rfl,h⟩
 | _,_,i+1,a,.cons _ t,e=>by
  obtain⟨b,h1,h2⟩:=a1g (i:=i) (a:=a) t (by simpa using e);exact⟨b,by simpa using h1,h2⟩
section
variable {P:Program} {w:World} {K:W.Frag}
theorem d7c (h:(a0y P w).is k key=true):a2d (kV k) key:=by
 rcases a1o h with ⟨i,t,rfl,rfl⟩ | ⟨y,t,rfl,rfl⟩
 ·exact⟨t,rfl⟩
 ·exact⟨t,rfl⟩
end
end My
namespace My
open PySem PySem.Spec PyProof.Rows L2 Builtin.Str PySem.StrLaws
def pre (d:Nat):List (List Nat)->List (List Nat)
 | []=>[]
 | p::r=>p::r.map (d::·)
end My
namespace My
open PySem PySem.Spec PyProof.Rows L2 PyProof
section
variable {prog:Program} {w:World} {A:Around}
theorem d0o {ns:List Int} (h:ns[j]?=some n):ns.take (j+1)=ns.take j++[n]:=by rw[z0v,h];rfl
end
theorem a1c {F:α->β->Prop} (p:Paired F xs bs):xs.length=bs.length:=by
 induction p with
 | nil=>rfl
 | cons _ _ ih=>simp only [z17,ih]
structure MkO (K:W.Frag) (C:Addr):Prop where
 makes:W.makesIn K C=true
 init:W.findIn K (.ref C) "__init__"=some (some (.builtin "object.__init__"))
 kp:W.keepIn K (.ref C)=true
section
variable {X:Cx}
def e4l (C:Addr):TE:=λ _ H Q=>∀ x dx,H x=none->H dx=none->dx≠x->Q (.ref x) (upd (upd H dx (.own x)) x (.ins C dx []))
theorem b2m (M:MkO X.K C) (hg:Gl X x) (hm:X.mg x=some (.ref C)) (hdb:(x == ("__debug__":Str))=false:=by decide):PE X (.Call (.Name x p) [] [] pos) (e4l C):=by
 constructor;intro pins s σ H Q I h;refine z4p (b6p I hg hm ?_ hdb);refine W.callWith_K0 I.kIn M.kp (wpAny_call (d0t I.kIn M.makes M.init (λ self=>W.Looks.of_pure (W.oi_bind self)) ?_));have I2:=Inv.made (C:=C) I;have hq:=h (s.heap.objs.size+1) s.heap.objs.size (I.hok.fresh (z3o _)) (I.hok.fresh (z05 _)) (z0k (z4l _));have Y:=W.makes_of (M:=model X.prog X.w) I.kIn M.makes;have e2:((s.heap.push W.emptyDict).push (W.instObj C s.heap.objs.size)).get? (s.heap.objs.size+1)=some (W.instObj C s.heap.objs.size):=by
  have:=z0t (s.heap.push W.emptyDict) (o:=W.instObj C s.heap.objs.size) rfl;rwa [z2y] at this
 have t1:W.Looks (model X.prog X.w) ((s.heap.push W.emptyDict).push (W.instObj C s.heap.objs.size)) (typeOf (.ref (s.heap.objs.size+1))) (.ref C):=(W.Looks.ld e2).andThen .now;have t2:W.Looks (model X.prog X.w) ((s.heap.push W.emptyDict).push (W.instObj C s.heap.objs.size)) (isInstance (.ref (s.heap.objs.size+1)) (.type "object")) true:=t1.andThen (Y.top.keeps λ b o e=>z0e _ (z0e _ e));refine codeAny_call_builtin W.oi_plain W.entry_oi (@W.check_slot (model X.prog X.w) _ _ _ "object.__init__" "object" "__init__" (.ref (s.heap.objs.size+1)) [] [] _ W.oi_kind W.oi_split t2 (W.oi_args (.ref (s.heap.objs.size+1))) ?_);exact z03 (And.intro rfl (nx0 (V.ref _) _ I2 rfl hq))
def e0o (X:Cx) {ι:Type} (cls:ι->Addr) (m:Str) (sp:ι->Sp) (k:Nat):Prop:=∀ l,∃ f fd ps,Cls X.K (cls l)/\a8q X.K (cls l) m f/\b1f X.prog X.w X.K X.mg X.base CX0 k f fd ps (sp l)/\a4p X.K fd ps []
def d4w {ι:Type} (cls:ι->Addr) (m:Str) (sp:ι->Sp) (ta:TE) (t:TA):TE:=λ σ H Q=>ta σ H λ x H1=>∃ a l dx fs,x=.ref a/\H1 a=some (.ins (cls l) dx fs)/\fs.lookup m=none/\t σ H1 λ vs H2=>sp l (x::vs) H2 Q E0
theorem b7e {ι:Type} {cls:ι->Addr} {m:Str} {sp:ι->Sp} {k:Nat} {o e:Expr} {es:List Expr} {ta:TE} {t:TA} {apos pos:Pos} {pl:Sem Bool} (he:PE X o ta) (M:e0o X cls m sp k) (hr:Room k X.A) (ha:PA X (e::es) t)
  (hst:starEach (e::es) X.env=(false,eval e X.env)::starEach es X.env:=by rfl) (hpl:(backTo pos (starEach es X.env)).any (·.1)=false:=by rfl)
  (ht:eval (.Call (.Attribute o m apos) (e::es) [] pos) X.env=(do let ov <- eval o X.env;standAt apos.atName;let (f,first) <- holding [ov] (getMethod ov m pl);callWith pos f first (backTo pos (starEach (e::es) X.env)) (backToKw pos (keywordEach [] X.env))):=by rfl) :
  PE X (.Call (.Attribute o m apos) (e::es) [] pos) (d4w cls m sp ta t):=by
 constructor;intro pins s σ H Q I h;refine W.methodCall_KW (thn (he pins s σ H _ I h) λ u s1 ⟨x,H1,I1,rx,a,l,dx,fs,ex,ea,lk,q⟩=>?_) ht;subst ex;obtain rfl:u=Value.ref a:=rx;obtain⟨f,fd,ps,c,hm,F,hb⟩:=M l;refine b4r I1 ea c hm lk ?_;refine W.callWith_K I.ok.mod.kin hm.kp (thn (ha pos pins s1 σ H1 _ I1 q) λ us s2 ⟨vs,H2,I2,r,q2⟩=>⟨I2.kIn,?_⟩) hst hpl;exact c9y (vs:=.ref a::vs) F hr hb .nil c6g I2 (.cons rfl r) (by rw[z19];exact q2)
theorem c7o {ι:Type} {cls:ι->Addr} {m:Str} {sp:ι->Sp} {k:Nat} {o:Expr} {ta:TE} {apos pos:Pos} {pl:Sem Bool} (he:PE X o ta) (M:e0o X cls m sp k) (hr:Room k X.A)
  (ht:eval (.Call (.Attribute o m apos) [] [] pos) X.env=(do let ov <- eval o X.env;standAt apos.atName;let (f,first) <- holding [ov] (getMethod ov m pl);callWith pos f first (backTo pos (starEach [] X.env)) (backToKw pos (keywordEach [] X.env))):=by rfl) :
  PE X (.Call (.Attribute o m apos) [] [] pos) (d4w cls m sp ta d9x):=by
 constructor;intro pins s σ H Q I h;refine W.methodCall_KW (thn (he pins s σ H _ I h) λ u s1 ⟨x,H1,I1,rx,a,l,dx,fs,ex,ea,lk,q⟩=>?_) ht;subst ex;obtain rfl:u=Value.ref a:=rx;obtain⟨f,fd,ps,c,hm,F,hb⟩:=M l;refine b4r I1 ea c hm lk ?_;exact W.callWith_K0 I1.kIn hm.kp (c9y (vs:=[.ref a]) F hr hb .nil c6g I1 (.cons rfl .nil) q)
end
def Ris (xs:Array Nat):Prop:=xs.toList.Pairwise (· < ·)
theorem Ris.lt (h:Ris xs) {i j x y:Nat} (hij:i < j) (hi:xs[i]?=some x) (hj:xs[j]?=some y):x < y:=by
 rw[<-z0u] at hi hj;obtain⟨i1,e1⟩:=z0l.mp hi;obtain⟨j1,e2⟩:=z0l.mp hj;have:=z32.mp h i j i1 j1 hij;rw[e1,e2] at this;exact this
theorem b7n (h:Ris xs) (j:Nat):∀ (fuel lo hi:Nat),hi - lo<=fuel->lo<=hi->hi<=xs.size->(∀ k x,xs[k]?=some x->k < lo->x < j)->(∀ k x,xs[k]?=some x->hi<=k->j<=x) ->
  ∀ k x,xs[k]?=some x->(k < SetTable.below.go xs j fuel lo hi->x < j)/\(SetTable.below.go xs j fuel lo hi<=k->j<=x)
 | 0,lo,hi,hf,hle,hs,h1,h2=>λ k x e=>by
  have:lo=hi:=by lia
  subst this;exact⟨h1 k x e,h2 k x e⟩
 | fuel+1,lo,hi,hf,hle,hs,h1,h2=>λ k x e=>by
  unfold SetTable.below.go;by_cases hlt:lo < hi
  ·rw[z02 hlt];have hm1:lo<=(lo+hi) / 2:=by lia
   have hm2:(lo+hi) / 2 < hi:=by lia
   have hmx:(lo+hi) / 2 < xs.size:=by lia
   have em:=z2p hmx;have eg:xs.getD ((lo+hi) / 2) j=xs[(lo+hi) / 2]:=by simp[Array.getD,hmx]
   dsimp only;rw[eg];by_cases hc:xs[(lo+hi) / 2] < j
   ·rw[z02 hc];refine b7n h j fuel _ hi (by lia) (by lia) hs (λ k x e hk=>?_) h2 k x e;by_cases q:k=(lo+hi) / 2
    ·subst q;rw[em] at e;cases e;exact hc
    ·have:=h.lt (by lia) e em;lia
   ·rw[z01 hc];refine b7n h j fuel lo _ (by lia) hm1 (by lia) h1 (λ k x e hk=>?_) k x e;by_cases q:k=(lo+hi) / 2
    ·subst q;rw[em] at e;cases e;lia
    ·have:=h.lt (by lia) em e;lia
  ·rw[z01 hlt];have:lo=hi:=by lia
   subst this;exact⟨h1 k x e,h2 k x e⟩
theorem a5u (h:Ris xs) (j:Nat) (e:xs[k]?=some x):(k < SetTable.below xs j->x < j)/\(SetTable.below xs j<=k->j<=x):=by
 refine b7n h j xs.size 0 xs.size (by lia) (z0m _) (z05 _) (λ k x _ hk=>absurd hk (z4w _)) (λ k x e hk=>?_) k x e;have:=(z6y.mp e).1;lia
theorem d1q (h:Ris xs) (e:xs[i]?=some x):SetTable.below xs x=i:=by
 have hb:=a5u h x e;by_cases q:SetTable.below xs x<=i
 ·by_cases q2:SetTable.below xs x=i
  ·exact q2
  ·have hlt:SetTable.below xs x < i:=by lia
   have hi:=(z6y.mp e).1;have e2:xs[SetTable.below xs x]?=some xs[SetTable.below xs x]:=z2p (by lia);have h1:=(a5u h x e2).2 (z05 _);have h2:=h.lt hlt e2 e;lia
 ·have:=hb.1 (by lia);lia
theorem b6o (h:Ris xs) (e:xs[SetTable.below xs j]?≠some j):j ∉ xs.toList:=λ hm=>by
 obtain⟨k,hk,ek⟩:=z4r hm;have e1:xs[k]?=some j:=by rw[<-z0u,z0o hk,ek]
 rw[d1q h e1] at e;exact e e1
theorem Ris.insert (h:Ris xs) (hn:j ∉ xs.toList):Ris (SetTable.insertAt xs (SetTable.below xs j) j):=by
 unfold Ris;rw[SetTable.toList_insertAt];refine z2w.mpr ⟨h.sublist (z3g _ _),z3y.mpr ⟨λ b hb=>?_,h.sublist (z4d _ _)⟩,λ a ha b hb=>?_⟩
 ·obtain⟨k,hk,ek⟩:=z4r hb;rw[z4i] at ek;have e1:xs[SetTable.below xs j+k]?=some b:=by rw[<-z0u,z0o (by rw[z0y] at hk;lia),ek]
  have:=(a5u h j e1).2 (by lia);have ne:b≠j:=λ z=>hn (z ▸ z2q hb)
  lia
 ·obtain⟨k,hk,ek⟩:=z4r ha;rw[z48] at ek;rw[z16] at hk;have e1:xs[k]?=some a:=by rw[<-z0u,z0o (by lia),ek]
  have h1:=(a5u h j e1).1 (by lia);rcases z0a.mp hb with z | z
  ·lia
  ·obtain⟨k2,hk2,ek2⟩:=z4r z;rw[z4i] at ek2;have e2:xs[SetTable.below xs j+k2]?=some b:=by rw[<-z0u,z0o (by rw[z0y] at hk2;lia),ek2]
   have:=(a5u h j e2).2 (by lia);lia
structure TOk (t:SetTable):Prop where
 up:Ris t.place
 nd:t.dummies=#[]
theorem TOk.fresh (f m:Nat) (l:Bool):TOk (.fresh f m l):=⟨List.Pairwise.nil,rfl⟩
theorem TOk.noDummy (h:TOk t) (j:Nat):SetTable.has t.dummies j=false:=by
 rw[h.nd];unfold SetTable.has;simp
theorem TOk.probed (h:TOk t):∀ (fuel:Nat) (p:SetTable.Probe) {j:Nat} {d:Option Nat},p.dummy=none->SetTable.probe.go t f z fuel p=some (.empty j d)->d=none/\j ∉ t.place.toList
 | 0,p,j,d,hp,e=>by unfold SetTable.probe.go at e;cases e
 | fuel+1,p,j,d,hp,e=>by
  unfold SetTable.probe.go at e;have adv:∀ q:SetTable.Probe,(t.advance q).dummy=q.dummy:=λ q=>by
   unfold SetTable.advance;split<;>rfl
  cases hs:t.slot p.j with
  | empty =>
   rw[hs] at e;cases e;refine⟨hp,b6o h.up λ z=>?_⟩;unfold SetTable.slot at hs;simp only [z,beq_self_eq_true,if_true] at hs;cases hs
  | dummy =>
   unfold SetTable.slot at hs;simp only [h.noDummy] at hs;split at hs<;>cases hs
  | live i =>
   rw[hs] at e;dsimp only at e;split at e
   ·cases e
   ·exact TOk.probed h fuel _ (by rw[adv];exact hp) e
theorem TOk.free (h:TOk t) (e:t.freeSlot z=some (j,b)):j ∉ t.place.toList:=by
 unfold SetTable.freeSlot at e;cases hp:t.probe (λ _=>z+1) z (t.probeStart z) with
 | none=>rw[hp] at e;cases e
 | some m =>
  rw[hp] at e;cases m with
  | candidate a b c=>cases e
  | empty j' d =>
   obtain⟨hd,hn⟩:=h.probed _ _ rfl hp;subst hd;cases e;exact hn
theorem TOk.put (h:TOk t) (hn:j ∉ t.place.toList):TOk (t.put j).1/\(t.put j).1.led=t.led:=by
 refine⟨⟨h.up.insert hn,?_⟩,rfl⟩;show (if SetTable.has t.dummies j=true then _ else t.dummies)=#[];rw[h.noDummy,z01 (by simp)];exact h.nd
theorem c7i (n:Nat):Ris (Array.range n):=by
 unfold Ris;rw[Array.toList_range];exact z6n
theorem TOk.stand (t:SetTable) (n:Nat):TOk (t.standIn n)/\(t.standIn n).led=t.led:=⟨⟨c7i n,rfl⟩,rfl⟩
theorem TOk.orStand (h:TOk t) (n:Nat):TOk (t.orStandIn n)/\(t.orStandIn n).led=t.led:=by
 unfold SetTable.orStandIn;split
 ·exact⟨h,rfl⟩
 ·exact TOk.stand t n
theorem TOk.laidNew (h:TOk t) (es:Array (Int×Value)) (z:Int) (x:Value):TOk (layNew t es z x).2.1/\(layNew t es z x).2.1.led=t.led:=by
 unfold layNew;split
 ·rename_i slot wd e;obtain⟨h1,h2⟩:=h.put (h.free e);obtain⟨h3,h4⟩:=h1.orStand (SetTable.insertAt es (t.put slot).2 (z,x)).size;exact⟨h3,h4.trans h2⟩
 ·exact TOk.stand t _
theorem d7i (e:SetTable.laid mask fi mo led pl hs=some (t,o)):TOk t/\t.led=led:=by
 unfold SetTable.laid at e;cases hl:SetTable.layClean mask hs with
 | none=>rw[hl] at e;cases e
 | some ow =>
  rw[hl] at e;cases e;refine⟨⟨?_,rfl⟩,rfl⟩;have key:∀ l:List Nat,l.Pairwise (· < ·)->((l.filterMap λ j=>(ow.getD j none).map (j,·)).map (·.1)).Pairwise (· < ·)/\∀ x∈(l.filterMap λ j=>(ow.getD j none).map (j,·)).map (·.1),x∈l:=by
   intro l;induction l with
   | nil=>intro _;exact⟨.nil,λ x hx=>by cases hx⟩
   | cons a r ih =>
    intro hp;obtain⟨h1,h2⟩:=z3y.mp hp;obtain⟨i1,i2⟩:=ih h2;rw[z1o];cases ho:ow.getD a none with
    | none=>exact⟨i1,λ x hx=>z1j _ (i2 x hx)⟩
    | some q =>
     refine⟨z3y.mpr ⟨λ b hb=>h1 b (i2 b hb),i1⟩,λ x hx=>?_⟩;rcases z0a.mp hx with z | z
     ·exact z ▸ z1p
     ·exact z1j _ (i2 x z)
  exact(key _ z6n).1
theorem TOk.relay (es:Array (Int×Value)) (wn:Nat):TOk (relayAll t es wn).2.1/\(relayAll t es wn).2.1.led=t.led:=by
 unfold relayAll;split
 ·rename_i t' order e;have:=d7i e;dsimp only;split
  ·exact this
  ·exact TOk.stand t _
 ·exact TOk.stand t _
def b7r (e:Int×Value):Int:=match e.2 with
 | .int n _=>n
 | _=>0
section
variable {prog:Program} {w:World} {A:Around} {E:Value->Shared->Prop} {s:Shared}
def c0o (prog:Program) (w:World) (h:Heap) (a:Addr) (ks:List Int) (led:Bool):Prop :=
 ∃ o es ep t,h.get? a=some o/\o.ExactSet/\o.data=.set es ep t/\ElemsOf (intKind prog w) es.toList/\es.size < scanBound/\t.fits es.size=true/\TOk t/\t.led=led/\(es.toList.map b7r).Perm ks
theorem b6n {e:Int×Value} (h:(∃ k,(intKind prog w).is k e.2=true/\e.1=(intKind prog w).hash k)/\e.2.scannable=true):∃ t,e.2=.int (b7r e) t:=by
 obtain⟨⟨k,hk,_⟩,_⟩:=h;obtain⟨t,ht⟩:=Value.isInt_shape hk;refine⟨t,?_⟩;unfold b7r;rw[ht]
theorem c9l (h:(∃ k,(intKind prog w).is k e.2=true/\e.1=(intKind prog w).hash k)/\e.2.scannable=true):(intKind prog w).is n e.2=true ↔ b7r e=n:=by
 obtain⟨t,ht⟩:=b6n h;rw[ht];constructor
 ·intro z;obtain⟨t',e'⟩:=Value.isInt_shape (show Value.isInt n (Value.int (b7r e) t)=true from z);exact(Value.int.inj e').1
 ·intro z;rw[z];exact intKind_is _ _ _ _
theorem c3n {h:Heap} (ho:h.get? a=some o) (hd:o.data=.set es ep t) (es':Array (Int×Value)) (t':SetTable):(h.update a (Obj.putSet es' t')).get? a=some {o with data:=.set es' (ep+1) t'}:=by
 have q:=z4k (Obj.putSet es' t') ho (by rw[putSet_of es' t' hd];rfl);rwa [putSet_of es' t' hd] at q
theorem e5s (hS:c0o prog w s.heap a ks led) (hroom:ks.length+1 < scanBound)
  (h:∀ b h',Heap.SameBut a s.heap h'->c0o prog w h' a (step_dedup ks n) led->Q b {s with heap:=h'}):wpAny (model prog w) A (setAddHashed a (.int n t0) ((intKind prog w).hash n)) Q E s:=by
 obtain⟨o,es,ep,t,ho,hex,hd,hel,hb,hf,ht,hled,hp⟩:=hS;have hkey:(intKind prog w).is n (.int n t0)=true:=intKind_is _ _ _ _;have hsc:(Value.int n t0).scannable=true:=rfl;have hsz:es.size=ks.length:=by rw[<-z0q,<-z04,hp.length_eq]
 refine z1n (z00 (z4y ho hd hf ?_));dsimp only;rw[byScan_of hsc hb hel];simp only [↓reduceIte];refine z00 (z00 (z1s (z00 (wpAny_setScan_of hkey ho hd hf hel ?_))));cases hr:List.findIdx? (λ e=>(intKind prog w).is n e.2) es.toList with
 | some j =>
  dsimp only;obtain⟨hj,hpj,_⟩:=List.findIdx?_eq_some_iff_getElem.mp hr;have hin:=hp.mem_iff.mp (z0d.mpr ⟨es.toList[j],z3j hj,(c9l (hel _ (z3j hj))).mp hpj⟩);have es0:s={s with heap:=s.heap}:=by cases s;rfl
  refine z03 (z03 ?_);refine h _ s.heap (Heap.SameBut.refl a s.heap) ?_;unfold step_dedup;rw[z02 (z45.mpr ⟨n,hin,by simp⟩)];exact nx14 o es ep t ho hex hd hel hb ⟨hf,ht,hled,hp⟩
 | none =>
  have hnin:n ∉ ks:=λ z=>by
   obtain⟨e,he,ek⟩:=z0d.mp (hp.mem_iff.mpr z);have q:=List.findIdx?_eq_none_iff.mp hr e he;rw[(c9l (hel _ he)).mpr ek] at q;cases q
  have hstep:step_dedup ks n=ks++[n]:=by
   unfold step_dedup;rw[z01 λ z=>by obtain⟨x,hx,ex⟩:=z45.mp z;exact hnin (by rw[<-beq_iff_eq.mp ex];exact hx)]
  have gw:∀ (b:Bool) {s₁:Shared} {Q':Unit->Shared->Prop},Q' () s₁->wpAny (model prog w) A (match b with | true=>rule "set.scan.the-table-gave-way" | false=>pure ()) Q' E s₁:=λ b s₁ Q' hq=>by cases b<;>first | exact z03 hq | exact z1s hq
  have l1:=layNew_perm t es ((intKind prog w).hash n) (.int n t0);have l2:=layNew_fits t es ((intKind prog w).hash n) (.int n t0);have l3:=ht.laidNew es ((intKind prog w).hash n) (.int n t0);generalize layNew t es ((intKind prog w).hash n) (.int n t0)=L at l1 l2 l3 ⊢;obtain⟨es1,t1,wd,gv⟩:=L;dsimp only at l1 l2 l3 ⊢;rw[z3d] at l1;have hel1:=(hel.push hkey hsc).perm l1;have hp1:(es1.toList.map b7r).Perm (ks++[n]):=(l1.map b7r).trans (by rw[z0z];exact hp.append_right [n]);have sz1:es1.size=ks.length+1:=by rw[<-z0q,l1.length_eq,z0j,z0q,hsz];rfl
  have hb1:es1.size < scanBound:=by rw[sz1];exact hroom
  refine z00 (gw _ ?_);have tail:∀ (t2:SetTable),t2.fits es1.size=true->TOk t2->t2.led=led->wpAny (model prog w) A (do
    storeSet a es1 t2
    if (!wd && t2.tooFull)=true then do
      (match (relayAll t2 es1 (SetTable.grown es1.size)).2.2 with | true=>rule "set.scan.the-table-gave-way" | false=>pure ())
      storeSet a (relayAll t2 es1 (SetTable.grown es1.size)).1 (relayAll t2 es1 (SetTable.grown es1.size)).2.1
      pure (some true)
     else pure (some true)) (λ r s'=>∃ h',s'={s with heap:=h'}/\r=some true/\Heap.SameBut a s.heap h'/\c0o prog w h' a (ks++[n]) led) E s:=by
   intro t2 f2 k2 le2;refine z00 (wpAny_storeSet_of ho hd ?_ (fits_of_scanBound hb1));have g1:=c3n ho hd es1 t2;have sb1:=z2i s.heap a (Obj.putSet es1 t2);split
   ·have r1:=relayAll_perm t2 es1 (SetTable.grown es1.size);have r2:=relayAll_fits t2 es1 (SetTable.grown es1.size);have r3:=TOk.relay (t:=t2) es1 (SetTable.grown es1.size);generalize relayAll t2 es1 (SetTable.grown es1.size)=Rl at r1 r2 r3 ⊢;obtain⟨es2,t3,gv2⟩:=Rl;have sz2:es2.size=es1.size:=by rw[<-z0q,r1.length_eq,z0q]
    refine z00 (gw _ (z00 (wpAny_storeSet_of g1 rfl ?_ (fits_of_scanBound (by rw[sz2];exact hb1)))));have g2:=c3n g1 rfl es2 t3;exact z03 (⟨_,rfl,rfl,sb1.trans (z2i _ a _),nx14 _ es2 _ t3 g2 hex rfl (hel1.perm r1) (by rw[sz2];exact hb1) ⟨r2,r3.1,r3.2.trans le2,(r1.map b7r).trans hp1⟩⟩)
   ·exact z03 (⟨_,rfl,rfl,sb1,nx14 _ es1 _ t2 g1 hex rfl hel1 hb1 ⟨f2,k2,le2,hp1⟩⟩)
  have fin:∀ r s',(∃ h',s'={s with heap:=h'}/\r=some true/\Heap.SameBut a s.heap h'/\c0o prog w h' a (ks++[n]) led)->∃ b,r=some b/\Q b s':=by
   rintro r s' ⟨h',rfl,rfl,hsb,hg⟩;exact⟨true,rfl,h true h' hsb (by rw[hstep];exact hg)⟩
  split
  ·refine z00 ?_;refine z03 ?_;refine z1b (tail t1 l2 l3.1 (l3.2.trans hled)) (λ r s' z=>?_) λ _ _ z=>z
   obtain⟨b,rfl,q⟩:=fin r s' z;exact z03 q
  ·refine z00 (z03 ?_);refine z1b (tail t1 l2 l3.1 (l3.2.trans hled)) (λ r s' z=>?_) λ _ _ z=>z
   obtain⟨b,rfl,q⟩:=fin r s' z;exact z03 q
end
def dd (ns:List Int):List Int:=ns.foldl step_dedup []
theorem d1b (ns:List Int):(dd ns).length<=ns.length:=by
 have key:∀ (ns acc:List Int),(ns.foldl step_dedup acc).length<=acc.length+ns.length:=by
  intro ns;induction ns with
  | nil=>intro acc;exact z05 _
  | cons n r ih =>
   intro acc;have h1:=ih (step_dedup acc n);have h2:(step_dedup acc n).length<=acc.length+1:=by unfold step_dedup;split<;>simp
   rw[List.foldl_cons,z17];lia
 have:=key ns [];unfold dd;simpa using this
theorem d9q (ns:List Int) (n:Int):dd (ns++[n])=step_dedup (dd ns) n:=by
 unfold dd;rw[z4j];rfl
section
variable {prog:Program} {w:World} {A:Around} {E:Value->Shared->Prop} {s:Shared}
theorem c0o.keep (x:c0o prog w h a ks led) (k:∀ o,h.get? a=some o->h'.get? a=some o):c0o prog w h' a ks led :=
 let ⟨o,es,ep,t,ho,r⟩:=x
 (nx2 o es (nx9 ep t (k o ho) r))
theorem e3n {us:List Value} (hh:A.handled=none) (hlen:us.length=ns.length) (hus:∀ (j:Nat) u,us[j]?=some u->∃ n t,ns[j]?=some n/\u=Value.int n t) (hlI:l≠I) (hSI:S≠I) (hSl:S≠l) (hb:ns.length+1 < scanBound) :
  ∀ (k i:Nat) (s:Shared),us.length - i=k->i<=us.length->s.heap.IsListIter I l i->s.heap.IsList l us.toArray->c0o prog w s.heap S (dd (ns.take i)) led ->
   (∀ h' tk,(∀ b o,b≠I->b≠S->s.heap.get? b=some o->h'.get? b=some o)->c0o prog w h' S (dd ns) led->R (.ok (.ret .none)) {s with heap:=h',toks:=tk}) ->
   codeAny (model prog w) A (.builtin "set.update.loop" ⟨[.ref S,.ref I],[]⟩) R s:=by
 have W:=Walks.list (prog:=prog) (w:=w) (A:=A.in1) hh I l hlI us.toArray;have us0:us.toArray.size=us.length:=by simp
 intro k;induction k with
 | zero =>
  intro i s hk hi hit hil hg hR;have hin:i=us.length:=by lia
  refine z3a PyProof.Rows.F.entry_set_update_loop ?_;rw[z5g z72 _];refine z00 (W.done s _ _ ⟨by rw[us0,<-hin];exact hit,hil⟩ λ h' tk hk'=>?_);rw[hin,hlen,z0x] at hg;exact z03 (hR h' tk (λ b o b1 _ e=>hk' b o (by simpa using b1) e) (hg.keep λ o e=>hk' S o (by simpa using hSI) e))
 | succ k ih =>
  intro i s hk hi hit hil hg hR;have hlt:i < us.length:=by lia
  refine z3a PyProof.Rows.F.entry_set_update_loop ?_;rw[z5g z72 _];refine z00 (W.item i s _ _ (by rw[us0];exact hlt) ⟨hit,hil⟩ λ v h1 tk1 hP hst hk1=>?_);obtain⟨n,t,hn,rfl⟩:=hus i v (by simpa using hP);refine z00 (z1n ?_);refine z1n (z00 ((intKind prog w).pyHash (intKind_is _ _ _ _) ?_));have hg1:=hg.keep λ o e=>hk1 S o (by simpa using hSI) e
  have hroom:(dd (ns.take i)).length+1 < scanBound:=by
   have:=d1b (ns.take i);rw[z16] at this;lia
  refine e5s (s:={s with heap:=h1,toks:=tk1+1}) hg1 hroom λ b h2 hsb hg2=>?_
  have oth:=λ b hb=>hsb.2 b hb
  refine z03 ⟨z42 z72 _,ih (i+1) {s with heap:=h2,toks:=tk1+1} (by lia) hlt (hst.1.at λ o e=>(oth I hSI.symm).trans e) (hst.2.at λ o e=>(oth l hSl.symm).trans e) (by rw[d0o hn,d9q];exact hg2) λ h3 tk3 k3 hg3=>?_⟩;exact hR h3 tk3 (λ b o b1 b2 e=>k3 b o b1 b2 ((oth b b2).trans (hk1 b o (by simpa using b1) e))) hg3
theorem e5b (a:Value) (h:Q₁ (.ref s.heap.objs.size) {s with heap:=s.heap.push {cls:=.type "set",dict:=none,data:=.set #[] 0 (.fresh 0 0 (!w.params.followText "set-order"))}}) :
  codeAny (model prog w) A (.call (.builtin "set.__new__") ⟨[.type "set",a],[]⟩) (wants Q₁ E) s:=by
 refine codeAny_of_tree ?_;show wpAny _ A.in1 (do checkBuiltinCall "set.__new__" ⟨[.type "set",a],[]⟩;again (.builtin "set.__new__" ⟨[.type "set",a],[]⟩)) _ _ s;refine z00 (wpAny_of_eq (F.newCall_set_1 a) (z03 ⟨z42 F.plain_set_new _,z3a F.entry_set_new ?_⟩));rw[z5g F.plain_set_new _];unfold Builtin.«set.__new__» Builtin.Frozenset.newClass;have hsub:=sub_set_self;obtain⟨hp,g,d,tk,os⟩:=s;dsimp only;wp_walk;refine z61 (z03 ?_);simp only [newObj];exact z00 (wpAny_alloc (z03 (z03 h)))
set_option maxHeartbeats 3200000 in
theorem c5z {l:Addr} {us:List Value} {ns:List Int} {Q:Value->Shared->Prop} (hh:A.handled=none) (hl:s.heap.IsList l us.toArray) (hlen:us.length=ns.length) (hus:∀ (j:Nat) u,us[j]?=some u->∃ n t,ns[j]?=some n/\u=Value.int n t) (hb:ns.length+1 < scanBound)
  (h:∀ h' tk,c0o prog w h' s.heap.objs.size (dd ns) (!w.params.followText "set-order")->(∀ b o,s.heap.get? b=some o->h'.get? b=some o)->Q (.ref s.heap.objs.size) {s with heap:=h',toks:=tk}) :
  wpAny (model prog w) A (call (.type "set") [.ref l]) Q E s:=by
 obtain⟨c,tl,hmro⟩:=z49.mro;have hmade:=z49.made;have hsub:=z49.sub;refine wpAny_call (codeAny_of_tree ?_);show wpAny _ _ (callAny (.type "set") _) _ _ _;refine z03 ⟨Code.quiet_builtin _ (by decide +kernel),z3a F.entry_type_call ?_⟩;rw[Around.under_plain (weight_type_call_type "set" [.ref l] []) rfl];have h1:=z49.notType;have h2:=z49.canCreate;have hct:=F.typeCall_set_1 (.ref l);repeat (any_goals (first | assumption | wp_step))
 generalize hfr:(SetTable.fresh 0 0 (!w.params.followText "set-order"))=fr;refine z4h (e5b (prog:=prog) (w:=w) (.ref l) (E:=E) (Q₁:=λ obj s₁=>obj=.ref s.heap.objs.size/\s₁={s with heap:=s.heap.push {cls:=.type "set",dict:=none,data:=.set #[] 0 fr}}) ⟨rfl,by rw[hfr]⟩) λ r s₁ hr=>?_
 cases r with
 | error e=>exact hr
 | ok fl =>
  cases fl with
  | ret obj =>
   obtain⟨rfl,rfl⟩:=hr;have hS:(s.heap.push {cls:=.type "set",dict:=none,data:=.set #[] 0 fr}).get? s.heap.objs.size=some {cls:=.type "set",dict:=none,data:=.set #[] 0 fr}:=z0t _ rfl;have hT:Shared.TypeIs {s with heap:=s.heap.push {cls:=.type "set",dict:=none,data:=.set #[] 0 fr}} (.ref s.heap.objs.size) "set":=⟨_,hS,rfl⟩;have hli:=z49.init.lookup;have hbi:=z49.init.bind (.ref s.heap.objs.size);repeat (any_goals (first | assumption | wp_step))
   refine z4h (codeAny_call_builtin (R:=wants (λ r s₂=>r=.none/\∃ h' tk,s₂={s with heap:=h',toks:=tk}/\c0o prog w h' s.heap.objs.size (dd ns) (!w.params.followText "set-order")/\∀ b o,s.heap.get? b=some o->h'.get? b=some o) E) z49.init.plain F.entry_set_init (check_set_init_1 hT ?_)) λ r₂ s₂ hr₂=>?_
   ·obtain⟨ol,hol,hcl,nl,hdl⟩:=id hl;obtain⟨ocls,odict,odata,oslots⟩:=ol;simp only at hcl hdl;subst hcl;subst hdl;have hol':(s.heap.push {cls:=.type "set",dict:=none,data:=.set #[] 0 fr}).get? l=some {cls:=.type "list",dict:=odict,data:=.seq us.toArray nl,slots:=oslots}:=z0e _ hol;have hsls:=F.sub_list_set;have hslf:=F.sub_list_frozenset;have hne:(Value.type "list" == Value.type "dict")=false:=by decide
    have hl1:(s.heap.push {cls:=.type "set",dict:=none,data:=.set #[] 0 fr}).IsList l us.toArray:= nx13 _ hol' rfl nl rfl;have hfu:fr.fill=0/\fr.place.size=0/\fr.mask=7:=by rw[<-hfr];exact⟨rfl,rfl,rfl⟩
    subst hfr;unfold Builtin.«set.__init__» noKeywords Builtin.Frozenset.updateFrom;generalize hPI:pyIter=PI;wp_walk;subst hPI;refine z5f hl1 (z00 (wpAny_runValue ?_));have hlS:l < s.heap.objs.size:=z0g hol;have hh3:A.in1.in1.handled=none:=by simp[hh]
    refine e3n (prog:=prog) (w:=w) (s:={s with heap:=(s.heap.push {cls:=.type "set",dict:=none,data:=.set #[] 0 (.fresh 0 0 (!w.params.followText "set-order"))}).push {cls:=.type "list_iterator",data:=.fields #[.ref l,.int 0 0]}}) (I:=(s.heap.push {cls:=.type "set",dict:=none,data:=.set #[] 0 (.fresh 0 0 (!w.params.followText "set-order"))}).objs.size) (led:=!w.params.followText "set-order") hh3 hlen hus ?_ ?_ (z4u hlS) hb us.length 0 (by lia) (z0m _) ⟨_,z0t _ rfl,rfl,rfl⟩ (hl1.push _) ?_ λ h' tk k hg=>?_
    ·rw[z2y];exact z0k (z5a hlS)
    ·rw[z2y];exact z0k (z4l _)
    ·exact nx14 _ (#[]) 0 _ (z0e _ hS) ⟨rfl,rfl,rfl⟩ rfl (λ e he=>by cases he) (by decide) ⟨rfl,TOk.fresh _ _ _,rfl,.nil⟩
    ·show wpAny _ _ _ _ _ _;refine z03 ?_;show wpAny _ _ (ret Value.none) _ _ _;refine z03 (⟨rfl,nx0 h' tk rfl hg λ b o e=>?_⟩);have hb1:=z0g e;exact k b o (by rw[z2y];exact z0k (z5a hb1)) (z0k hb1) (z0e _ (z0e _ e))
   ·cases r₂ with
    | error e=>exact hr₂
    | ok fl₂ =>
     cases fl₂ with
     | ret r =>
      obtain⟨rfl,h',tk,rfl,hg,hk'⟩:=hr₂;repeat (any_goals (first | assumption | wp_step))
      exact h _ _ hg hk'
     | _=>exact hr₂.elim
  | _=>exact hr.elim
end
theorem a8j (j:Nat):∀ (fuel lo hi:Nat),lo<=hi->SetTable.below.go xs j fuel lo hi<=hi
 | 0,lo,hi,h=>by unfold SetTable.below.go;exact h
 | fuel+1,lo,hi,h=>by
  unfold SetTable.below.go;split
  ·dsimp only;split
   ·exact a8j j fuel _ hi (by lia)
   ·exact z0s (a8j j fuel lo _ (by lia)) (by lia)
  ·exact h
theorem d3w (j:Nat):SetTable.below xs j<=xs.size:=a8j j _ _ _ (z0m _)
theorem c3z (h:Ris xs) (h1:∀ (k x:Nat),xs[k]?=some x->k < i->x < j) (h2:∀ (k x:Nat),xs[k]?=some x->i<=k->j<=x) (hi:i<=xs.size):SetTable.below xs j=i:=by
 have hle:=d3w (xs:=xs) j;by_cases q:SetTable.below xs j < i
 ·have hlt:SetTable.below xs j < xs.size:=by lia
  have e:=z2p hlt;have a:=h1 _ _ e q;have b:=(a5u h j e).2 (z05 _);lia
 ·by_cases q2:i < SetTable.below xs j
  ·have e:xs[i]?=some (xs[i]'(by lia)):=z2p (by lia);have a:=h2 _ _ e (z05 _);have b:=(a5u h j e).1 q2;lia
  ·lia
def d1h (xs:Array Nat):Nat->Nat
 | 0=>0
 | i+1=>xs.getD i 0+1
theorem b5k (h:Ris xs) (hi:i<=xs.size):SetTable.below xs (d1h xs i)=i:=by
 cases i with
 | zero=>exact c3z h (λ k x _ z=>absurd z (z4w _)) (λ k x _ _=>z0m _) hi
 | succ i =>
  have e:xs[i]?=some (xs[i]'(by lia)):=z2p (by lia);have ed:xs.getD i 0=xs[i]'(by lia):=by simp[Array.getD,show i < xs.size by lia]
  refine c3z h (λ k x ek z=>?_) (λ k x ek z=>?_) hi
  ·show x < xs.getD i 0+1;rw[ed];by_cases q:k=i
   ·subst q;rw[e] at ek;cases ek;lia
   ·have:=h.lt (by lia) ek e;lia
  ·show xs.getD i 0+1<=x;rw[ed];exact h.lt (by lia) e ek
theorem b0h {α:Type}:∀ (l:List α) (i:Nat) (h:i < l.length),(l[i]::l.eraseIdx i).Perm l
 | [],i,h=>absurd h (z4w _)
 | a::r,0,h=>.refl _
 | a::r,i+1,h=>by
  have hi:i < r.length:=by simpa using h
  exact(List.Perm.swap _ _ _).trans ((b0h r i hi).cons a)
theorem c7a (next:Nat->Nat):∀ (fuel k:Nat) (left:List α) (out:Array α),left.length<=fuel->(pickOrder.go next fuel k left out).toList.Perm (out.toList++left)
 | 0,k,left,out,h=>by
  have:left=[]:=z2v.mp (by lia);subst this;unfold pickOrder.go;simp
 | fuel+1,k,left,out,h=>by
  unfold pickOrder.go;cases left with
  | nil=>simp
  | cons a r =>
   have hlt:next k%(a::r).length < (a::r).length:=Nat.mod_lt _ (by simp);rw[z0o hlt];refine(c7a next fuel (k+1) _ _ (by rw[z6h hlt];simp at h ⊢;lia)).trans ?_;rw[z3d,z1c];exact(List.Perm.append_left _ (b0h _ _ hlt))
theorem b2w (next:Nat->Nat) (xs:Array α):(pickOrder next xs).toList.Perm xs.toList:=by
 unfold pickOrder;have:=c7a next xs.size 0 xs.toList #[] (by simp);simpa using this
section
variable {M:Model} {A:Around} {E:Value->Shared->Prop}
theorem c5x (hn:n≠0) (h:∀ m d,m < n->Q m {s with drawn:=d}):wpAny M A (choose src n) Q E s:=λ Γ p _=>by
 unfold choose;refine⟨hn,?_⟩;exact h _ _ (Nat.mod_lt _ (Nat.pos_of_ne_zero hn))
theorem d1g:∀ (n:Nat) (xs:List α) (Q:List α->Shared->Prop) (s:Shared),xs.length=n->(∀ ys d,ys.Perm xs->Q ys {s with drawn:=d})->wpAny M A (drawOrder n xs) Q E s
 | 0,xs,Q,s,hn,h=>by
  have:xs=[]:=z2v.mp hn;subst this;have e:s={s with drawn:=s.drawn}:=by cases s;rfl
  exact z03 (h [] _ (.refl _))
 | n+1,[],Q,s,hn,h=>by cases hn
 | n+1,a::r,Q,s,hn,h=>by
  refine z00 (c5x (by simp) λ m d hm=>?_);rw[z0o hm];refine z00 (d1g n _ _ _ (by rw[z6h hm,hn];rfl) λ ys d' hp=>?_);exact z03 (h _ _ ((hp.cons _).trans (b0h _ _ hm)))
end
theorem a6b:Slot "set_iterator" "__next__" "set_iterator.__next__":=.of (owner:="set_iterator") (n:="__next__") (by rw[typeLookup_type,builtinLookup_eq_fast];kernel_rfl) (by decide +kernel) (by decide +kernel) (by decide +kernel) (by first | exact .inl (by decide +kernel) | exact .inr (by decide +kernel)) (by rw[isSubtype_type];kernel_rfl)
theorem d5k:Slot "set_iterator" "__iter__" "set_iterator.__iter__":=.of (owner:="set_iterator") (n:="__iter__") (by rw[typeLookup_type,builtinLookup_eq_fast];kernel_rfl) (by decide +kernel) (by decide +kernel) (by decide +kernel) (by first | exact .inl (by decide +kernel) | exact .inr (by decide +kernel)) (by rw[isSubtype_type];kernel_rfl)
theorem c4o:entryFor table "set_iterator.__next__"=some Builtin.«set_iterator.__next__»:=entryFor_of_tree (by kernel_rfl)
theorem e1u:entryFor table "set_iterator.__iter__"=some Builtin.«dict_keyiterator.__iter__»:=entryFor_alias (id':="dict_keyiterator.__iter__") (by kernel_rfl) rfl (by decide +kernel) (by kernel_rfl)
theorem e4m:entryFor table "set.__iter__"=some Builtin.«frozenset.__iter__»:=entryFor_alias (id':="frozenset.__iter__") (by kernel_rfl) rfl (by decide +kernel) (by kernel_rfl)
theorem e1t:Manifest.owners.lookup (String.ofList ['r','o','t','a','r','e','t','i','_','t','e','s'].reverse)=some Manifest.sig_set_iterator:=by kernel_rfl
theorem c4f (a:Value):argsOk "set_iterator.__next__" ⟨[a],[]⟩:=by unfold argsOk;rw[signature?_of (n:=['_','_','t','x','e','n','_','_']) (by kernel_rfl) e1t];kernel_rfl
theorem e0v (a:Value):argsOk "set_iterator.__iter__" ⟨[a],[]⟩:=by unfold argsOk;rw[signature?_of (n:=['_','_','r','e','t','i','_','_']) (by kernel_rfl) e1t];kernel_rfl
def c2f (h:Heap) (I a:Addr) (first:Value) (i n ep:Nat):Prop:=∃ o,h.get? I=some o/\o.cls=.type "set_iterator"/\o.data=.fields #[first,.int i 0,.ref a,.int n 0,.int ep 0]
def b0j (h:Heap) (a:Addr) (es:Array (Int×Value)) (ep:Nat) (t:SetTable):Prop:=∃ o,h.get? a=some o/\o.ExactSet/\o.data=.set es ep t
theorem c2f.keep (x:c2f h I a v i n ep) (k:∀ o,h.get? I=some o->h'.get? I=some o):c2f h' I a v i n ep:=let ⟨o,ho,r⟩:=x;⟨o,k o ho,r⟩
theorem b0j.keep (x:b0j h a es ep t) (k:∀ o,h.get? a=some o->h'.get? a=some o):b0j h' a es ep t:=let ⟨o,ho,r⟩:=x;⟨o,k o ho,r⟩
section
variable {prog:Program} {w:World} {A:Around} {E:Value->Shared->Prop} {s:Shared} {I a:Addr} {es:Array (Int×Value)} {ep:Nat} {t:SetTable}
theorem c2f.typeIs (x:c2f s.heap I a v i n ep):s.TypeIs (.ref I) "set_iterator":=let ⟨o,ho,hc,_⟩:=x;⟨o,ho,hc⟩
theorem c5n (hS:b0j s.heap a es ep t) (hf:t.fits es.size=true) (h:Q (!w.params.followText "set-order" && (!t.plain && decide (1 < es.size))) s):wpAny (model prog w) A (setDrawn a) Q E s:=by
 obtain⟨o,ho,hex,hd⟩:=hS;refine z00 (z4y ho hd hf ?_);refine z00 (z00 (z61 (z03 ?_)));exact z03 h
theorem c3s (hT:w.params.followText "set-order"=true) (hS:b0j s.heap a es ep t) (hf:t.fits es.size=true)
  (h:Q (((pickOrder (w.params.setOrder a ep) es)[i]?).map λ e=>(e.2,slot)) s):wpAny (model prog w) A (setNext a slot i ep) Q E s:=by
 obtain⟨o,ho,hex,hd⟩:=hS;refine z00 (z4y ho hd hf ?_);have by1:∀ {Q:Bool->Shared->Prop},Q true s->wpAny (model prog w) A setsByText Q E s:=λ {Q} h=>by
  refine z00 (z61 (z03 ?_));rw[show (⟨(model prog w).prog,(model prog w).w.params⟩:Setting).params.followText "set-order"=true from hT];exact h
 refine z00 (by1 ?_);rw[z02 rfl,z01 (by simp)];refine z00 (z00 (z4y ho hd hf ?_));refine z00 (by1 ?_);exact z00 (z61 (z03 (z03 h)))
theorem c4r {Q:Option (Value×Nat)->Shared->Prop} {slot i:Nat} (hT:w.params.followText "set-order"=false) (hD:(!t.plain && decide (1 < es.size))=false) (hl:t.led=true) (hS:b0j s.heap a es ep t) (hf:t.fits es.size=true)
  (h:Q (match es[SetTable.below t.place slot]?,t.place[SetTable.below t.place slot]? with
   | some (_,x),some j=>some (x,j+1)
   | _,_=>none) s):wpAny (model prog w) A (setNext a slot i ep) Q E s:=by
 obtain⟨o,ho,hex,hd⟩:=hS;refine z00 (z4y ho hd hf ?_);have by0:∀ {Q:Bool->Shared->Prop},Q false s->wpAny (model prog w) A setsByText Q E s:=λ {Q} h=>by
  refine z00 (z61 (z03 ?_));rw[show (⟨(model prog w).prog,(model prog w).w.params⟩:Setting).params.followText "set-order"=false from hT];exact h
 refine z00 (by0 ?_);show wpAny _ _ (if (!t.plain && decide (1 < es.size))=true then _ else _) _ _ _;rw[hD,z01 z1k];refine z00 ?_;show wpAny _ _ (if (!t.led && !es.isEmpty)=true then _ else _) _ _ _;rw[hl,z01 (by simp)];exact z03 (z03 h)
theorem b7k {o:Obj} {vs:Array Value} (k:Nat) (x:Value) (ho:s.heap.get? I=some o) (hd:o.data=.fields vs):(s.heap.update I (Obj.mapFields (·.setIfInBounds k x))).get? I=some (Obj.mapFields (·.setIfInBounds k x) o):=z4k _ ho (Obj.isFreed_of_fields (z3w hd _))
theorem d1c {slot slot' i:Nat} (hit:c2f s.heap I a (.int slot 0) i es.size ep) (hS:b0j s.heap a es ep t) (hf:t.fits es.size=true)
  (hn:∀ {E':Value->Shared->Prop} {Q':Option (Value×Nat)->Shared->Prop},Q' (some (x,slot')) s->wpAny (model prog w) A.in1 (setNext a slot i ep) Q' E' s)
  (hQ:∀ h',c2f h' I a (.int slot' 0) (i+1) es.size ep->Heap.SameBut I s.heap h'->Q (some x) {s with heap:=h'}):wpAny (model prog w) A (pyNext (.ref I)) Q E s:=by
 obtain⟨o,ho,hc,hd⟩:=id hit;obtain⟨os,hos,hex,hds⟩:=id hS;refine z00 (z34 (z43 hit.typeIs a6b (z1q a6b hit.typeIs c4o ?_ (c4f _))));refine z00 (z03 ?_);refine z00 (z59 ho hd ?_);dsimp only;refine z00 (z5x hos hds hf ?_);rw[z01 (by simp)];refine z00 ?_;refine hn ?_;refine z00 (z3z ho hd (by simp) ?_);have h1:=b7k 0 (rawInt (slot':Int)) ho hd;refine z00 (z3z h1 (z3w hd _) (by simp) ?_);have h2:=b7k (s:={s with heap:=s.heap.update I (Obj.mapFields (·.setIfInBounds 0 (rawInt (slot':Int))))}) 1 (rawInt ((i:Int)+1)) h1 (z3w hd _);refine z03 ⟨_,rfl,?_⟩;refine z03 (hQ _ ⟨_,h2,(z6i ..).trans ((z6i ..).trans hc),?_⟩ ((z2i ..).trans (z2i ..)));rw[z3w (z3w hd _)];simp[rawInt]
end
section
variable {prog:Program} {w:World} {A:Around} {E:Value->Shared->Prop} {s:Shared} {I a:Addr} {es:Array (Int×Value)} {ep:Nat} {t:SetTable}
theorem b6q {Q:Option Value->Shared->Prop} (hh:A.handled=none) (hQ:∀ h',(∀ b o,s.heap.get? b=some o->h'.get? b=some o)->Q none {s with heap:=h'}) :
  wpAny (model prog w) A.in1 (newExc (.type "StopIteration") []>>=λ e=>raiseNew e) (λ (fin:Fin) s'=>∃ v,fin=.done (.ret v)/\wpAny (model prog w) A (pure (some v)) Q E s')
   (λ e s'=>wpAny (model prog w) A (do if <- isInstance e (.type "StopIteration") then pure none else throw e) Q E s') s:=by
 refine z00 ?_;refine z00 (m:=firstArgMember _ _) (wpAny_of_eq (a:=Value.none) (by first | rfl | (simp only [firstArgMember];rfl)) ?_);refine z4s ?_ (by size_fits);refine z00 (wpAny_handled ?_);rw[show A.in1.handled=none from hh];refine z00 (z03 (wpAny_throw ?_));refine z00 (z5s ⟨_,z0t _ rfl,rfl⟩ isSubtype_stop ?_);exact z03 (hQ _ λ b o e=>z0e _ (z0e _ e))
theorem d6a {slot i:Nat} (hh:A.handled=none) (hit:c2f s.heap I a (.int slot 0) i es.size ep) (hS:b0j s.heap a es ep t) (hf:t.fits es.size=true)
  (hn:∀ {E':Value->Shared->Prop} {Q':Option (Value×Nat)->Shared->Prop},Q' none s->wpAny (model prog w) A.in1 (setNext a slot i ep) Q' E' s)
  (hQ:∀ h',(∀ b o,b≠I->s.heap.get? b=some o->h'.get? b=some o)->Q none {s with heap:=h'}):wpAny (model prog w) A (pyNext (.ref I)) Q E s:=by
 obtain⟨o,ho,hc,hd⟩:=id hit;obtain⟨os,hos,hex,hds⟩:=id hS;refine z00 (z34 (z43 hit.typeIs a6b (z1q a6b hit.typeIs c4o ?_ (c4f _))));refine z00 (z03 ?_);refine z00 (z59 ho hd ?_);dsimp only;refine z00 (z5x hos hds hf ?_);rw[z01 (by simp)];refine z00 ?_;refine hn ?_;refine z00 (z3z ho hd (by simp) ?_);exact b6q hh λ h' k=>hQ h' λ b o hb e=>k b o ((z4c _ _ (z1t hb)).trans e)
theorem d8k {ps:List Nat} (hit:c2f s.heap I a (.ref T) i es.size ep) (hS:b0j s.heap a es ep t) (hf:t.fits es.size=true)
 (hT:s.heap.get? T=some oT) (hdT:oT.data=.seq (ps.map λ (k:Nat)=>rawInt k).toArray c) (hp:ps[i]?=some p) (he:es[p]?=some e)
    (hQ:∀ h',c2f h' I a (.ref T) (i+1) es.size ep->Heap.SameBut I s.heap h'->Q (some e.2) {s with heap:=h'}):wpAny (model prog w) A (pyNext (.ref I)) Q E s:=by
  obtain⟨o,ho,hc,hd⟩:=id hit;obtain⟨os,hos,hex,hds⟩:=id hS;refine z00 (z34 (z43 hit.typeIs a6b (z1q a6b hit.typeIs c4o ?_ (c4f _))));refine z00 (z03 ?_);refine z00 (z59 ho hd ?_);dsimp only;refine z00 (z5x hos hds hf ?_);rw[z01 (by simp)];refine z00 (z2r hT hdT ?_);dsimp only;have e1:(ps.map λ (k:Nat)=>rawInt k).toArray[(i:Int).toNat]?=some (.int p 0):=by
    rw[z25,List.getElem?_toArray,z09,hp];rfl
  rw[e1];refine z00 (z00 (z4y hos hds hf ?_));dsimp only;rw[z25,z25,z01 (by simp),he];refine z03 ?_;refine z00 (z3z ho hd (by simp) ?_);have h1:=b7k 1 (rawInt ((i:Int)+1)) ho hd;refine z03 ⟨_,rfl,?_⟩;refine z03 (hQ _ ⟨_,h1,(z6i ..).trans hc,?_⟩ (z2i ..));rw[z3w hd];simp[rawInt]
theorem e1f {ps:List Nat} (hh:A.handled=none) (hit:c2f s.heap I a (.ref T) i es.size ep) (hS:b0j s.heap a es ep t) (hf:t.fits es.size=true)
 (hT:s.heap.get? T=some oT) (hdT:oT.data=.seq (ps.map λ (k:Nat)=>rawInt k).toArray c) (hp:ps[i]?=none)
    (hQ:∀ h',(∀ b o,b≠I->s.heap.get? b=some o->h'.get? b=some o)->Q none {s with heap:=h'}):wpAny (model prog w) A (pyNext (.ref I)) Q E s:=by
  obtain⟨o,ho,hc,hd⟩:=id hit;obtain⟨os,hos,hex,hds⟩:=id hS;refine z00 (z34 (z43 hit.typeIs a6b (z1q a6b hit.typeIs c4o ?_ (c4f _))));refine z00 (z03 ?_);refine z00 (z59 ho hd ?_);dsimp only;refine z00 (z5x hos hds hf ?_);rw[z01 (by simp)];refine z00 (z2r hT hdT ?_);dsimp only;have e1:(ps.map λ (k:Nat)=>rawInt k).toArray[(i:Int).toNat]?=none:=by
    rw[z25,List.getElem?_toArray,z09,hp];rfl
  rw[e1];refine z00 (z3z ho hd (by simp) ?_);have h1:=b7k 0 (rawInt 0) ho hd;refine z00 (z3z h1 (z3w hd _) (by simp) ?_);refine b6q hh λ h' k=>hQ h' λ b o hb e=>k b o ?_
  exact(z4c _ _ (z1t hb)).trans ((z4c _ _ (z1t hb)).trans e)
theorem c1k (hit:c2f s.heap I a v i n ep) (h:Q (.ref I) s):wpAny (model prog w) A (pyIter (.ref I)) Q E s:=by
 refine wpAny_pyIter_slot hit.typeIs d5k (z1q d5k hit.typeIs e1u ?_ (e0v _));exact z03 (nx7 _ rfl ("set_iterator") _ hit.typeIs a6b.lookup h)
end
section
variable {prog:Program} {w:World} {A:Around} {E:Value->Shared->Prop} {s:Shared} {I a:Addr} {es:Array (Int×Value)} {ep:Nat} {t:SetTable}
def c1x (ms:List Int) (i:Nat) (v:Value):Prop:=∃ n t,ms[i]?=some n/\v=Value.int n t
theorem e3l (hel:ElemsOf (intKind prog w) es.toList) {i:Nat} (he:es[i]?=some e):∃ t,e.2=.int (b7r e) t:=b6n (hel _ (z0c (by rw[z0u];exact he)))
theorem e2r (hT:w.params.followText "set-order"=true) (hh:A.handled=none) (hne:a≠I) (hf:t.fits es.size=true) (hel:ElemsOf (intKind prog w) es.toList) :
  Walks prog w A I [I,a] [I] es.size (c1x ((pickOrder (w.params.setOrder a ep) es).toList.map b7r)) (λ i h=>c2f h I a (.int 0 0) i es.size ep/\b0j h a es ep t) where
 sub:=λ b hb=>by simp at hb;simp[hb]
 frame:=λ _ _ _ st hk=>⟨st.1.keep λ o e=>hk I (by simp) o e,st.2.keep λ o e=>hk a (by simp) o e⟩
 item:=λ i s Q E hi st hQ=>by
  have hp:=b2w (w.params.setOrder a ep) es;have hsz:(pickOrder (w.params.setOrder a ep) es).size=es.size:=by rw[<-z0q,hp.length_eq,z0q]
  have hx:(pickOrder (w.params.setOrder a ep) es)[i]?=some (pickOrder (w.params.setOrder a ep) es)[i]:=z2p (by lia);obtain⟨tk,ht⟩:=b6n (hel _ (hp.mem_iff.mp (z0c (by rw[z0u];exact hx))));refine d1c st.1 st.2 hf (λ h=>c3s hT st.2 hf (by rw[hx];exact h)) λ h' it sb=>hQ _ h' s.toks (nx9 _ tk (by rw[z09,z0u,hx];rfl) ht) ⟨it,st.2.keep λ o e=>(sb.2 _ hne).trans e⟩ λ b o hb e=>(sb.2 b (by simpa using hb)).trans e
 done:=λ s Q E st hQ=>by
  have hp:=b2w (w.params.setOrder a ep) es;have hsz:(pickOrder (w.params.setOrder a ep) es).size=es.size:=by rw[<-z0q,hp.length_eq,z0q]
  have hx:(pickOrder (w.params.setOrder a ep) es)[es.size]?=none:=z5i (by lia);exact d6a hh st.1 st.2 hf (λ h=>c3s hT st.2 hf (by rw[hx];exact h)) λ h' k=>hQ h' s.toks λ b o hb e=>k b o (by simpa using hb) e
 self:=λ _ _ _ _ st hQ=>c1k st.1 hQ
theorem e2x (hT:w.params.followText "set-order"=false) (hD:(!t.plain && decide (1 < es.size))=false) (hl:t.led=true) (ht:TOk t) (hps:t.place.size=es.size) (hh:A.handled=none) (hne:a≠I) (hf:t.fits es.size=true) (hel:ElemsOf (intKind prog w) es.toList) :
  Walks prog w A I [I,a] [I] es.size (c1x (es.toList.map b7r)) (λ i h=>c2f h I a (.int (d1h t.place i) 0) i es.size ep/\b0j h a es ep t) where
 sub:=λ b hb=>by simp at hb;simp[hb]
 frame:=λ _ _ _ st hk=>⟨st.1.keep λ o e=>hk I (by simp) o e,st.2.keep λ o e=>hk a (by simp) o e⟩
 item:=λ i s Q E hi st hQ=>by
  have hb:=b5k ht.up (i:=i) (by lia);have hx:=z2p hi;have hy:t.place[i]?=some (t.place[i]'(by lia)):=z2p (by lia);have hy2:t.place[i]'(by lia)+1=d1h t.place (i+1):=by
   show _=t.place.getD i 0+1;simp[Array.getD,show i < t.place.size by lia]
  obtain⟨tk,htk⟩:=e3l hel hx;refine d1c st.1 st.2 hf (λ h=>c4r hT hD hl st.2 hf (by rw[hb,hx,hy];dsimp only;rw[hy2];exact h)) λ h' it sb=>hQ _ h' s.toks (nx9 _ tk (by rw[z09,z0u,hx];rfl) htk) ⟨it,st.2.keep λ o e=>(sb.2 _ hne).trans e⟩ λ b o hb e=>(sb.2 b (by simpa using hb)).trans e
 done:=λ s Q E st hQ=>by
  have hb:=b5k ht.up (i:=es.size) (by lia);have hx:es[es.size]?=none:=z5i (z05 _);exact d6a hh st.1 st.2 hf (λ h=>c4r hT hD hl st.2 hf (by rw[hb,hx];exact h)) λ h' k=>hQ h' s.toks λ b o hb e=>k b o (by simpa using hb) e
 self:=λ _ _ _ _ st hQ=>c1k st.1 hQ
def e4w (h:Heap) (T:Addr) (ps:List Nat):Prop:=∃ o c,h.get? T=some o/\o.data=.seq (ps.map λ (k:Nat)=>rawInt k).toArray c
def b4b (es:Array (Int×Value)) (ps:List Nat):List Int:=ps.map λ p=>b7r (es.getD p (0,.none))
theorem c6a (hp:ps.Perm (List.range es.size)):(b4b es ps).Perm (es.toList.map b7r):=by
 refine(hp.map _).trans ?_;have:(List.range es.size).map (λ p=>b7r (es.getD p (0,.none)))=es.toList.map b7r:=by
  apply List.ext_getElem
  ·simp
  ·intro i h1 h2;have hi:i < es.size:=by simpa using h1
   simp[Array.getD,hi]
 rw[this]
theorem e3w (hp:ps.Perm (List.range es.size)) (hh:A.handled=none) (hne:a≠I) (hTI:T≠I) (hf:t.fits es.size=true) (hel:ElemsOf (intKind prog w) es.toList) :
  Walks prog w A I [I,a,T] [I] es.size (c1x (b4b es ps)) (λ i h=>c2f h I a (.ref T) i es.size ep/\b0j h a es ep t/\e4w h T ps) where
 sub:=λ b hb=>by simp at hb;simp[hb]
 frame:=λ _ _ _ st hk=>⟨st.1.keep λ o e=>hk I (by simp) o e,st.2.1.keep λ o e=>hk a (by simp) o e,let ⟨o,c,ho,hd⟩:=st.2.2; (nx9 o c (hk T (by simp) o ho) hd)⟩
 item:=λ i s Q E hi st hQ=>by
  have hl:ps.length=es.size:=by rw[hp.length_eq,z1m]
  have hx:ps[i]?=some (ps[i]'(by lia)):=z0o (by lia);have hm:=z41.mp (hp.mem_iff.mp (z0c hx));have he:=z2p hm;obtain⟨tk,htk⟩:=e3l hel he;obtain⟨o,c,ho,hd⟩:=id st.2.2;refine d8k st.1 st.2.1 hf ho hd hx he λ h' it sb=>hQ _ h' s.toks (nx9 _ tk ?_ htk) ⟨it,st.2.1.keep λ o e=>(sb.2 _ hne).trans e,nx9 o c ((sb.2 _ hTI).trans ho) hd⟩ λ b o hb e=>(sb.2 b (by simpa using hb)).trans e
  unfold b4b;rw[z09,hx];simp[Array.getD,hm]
 done:=λ s Q E st hQ=>by
  have hl:ps.length=es.size:=by rw[hp.length_eq,z1m]
  obtain⟨o,c,ho,hd⟩:=id st.2.2;exact e1f hh st.1 st.2.1 hf ho hd (z2m (by lia)) λ h' k=>hQ h' s.toks λ b o hb e=>k b o (by simpa using hb) e
 self:=λ _ _ _ _ st hQ=>c1k st.1 hQ
theorem c5h (h:t.fits n=true):t.place.size=n:=by
 unfold SetTable.fits at h;simp at h;exact h.1
theorem e0h (hh:A.handled=none) (hG:c0o prog w s.heap a ks led) (hled:led=!w.params.followText "set-order")
  (h:∀ (I:Addr) (h':Heap) (d:Drawn) (fp:List Addr) (St:Nat->Heap->Prop) (ms:List Int),s.heap.objs.size<=I->(∀ b∈fp,b=a\/s.heap.objs.size<=b)->(∀ b o,s.heap.get? b=some o->h'.get? b=some o)->ms.Perm ks ->
   Walks prog w A I fp [I] ms.length (c1x ms) St->St 0 h'->Q (.ref I) {s with heap:=h',drawn:=d}):wpAny (model prog w) A (pyIter (.ref a)) Q E s:=by
 obtain⟨o,es,ep,t,ho,hex,hd,hel,hb,hf,ht,hl,hp⟩:=hG;have hT:s.TypeIs (.ref a) "set":=⟨o,ho,hex.1⟩;have ha:=z0g ho;have hsl:es.size<=sizeLine:=z0s (z3v hb) (by decide);refine wpAny_pyIter_slot hT F.slot_set_iter (z1q F.slot_set_iter hT e4m ?_ (F.args_set_iter_1 _));unfold Builtin.«frozenset.__iter__» Builtin.Frozenset.slot0 slotArgs;simp only [List.isEmpty_nil,Bool.not_true,z36,↓reduceIte,bind_assoc,z3h,z6m];refine z00 (z03 ?_);refine z00 (z03 ?_);refine z00 (z00 (z5x ho hd hf (z03 ?_)));refine z00 (c5n ⟨o,ho,hex,hd⟩ hf ?_);have hpl:=c5h hf;have sz0:(es.toList.map b7r).length=es.size:=by simp
 have hkeep:∀ oI:Obj,∀ b o',s.heap.get? b=some o'->(s.heap.push oI).get? b=some o':=λ oI b o' e=>z0e _ e
 have hpt:∀ b∈[s.heap.objs.size,a],b=a\/s.heap.objs.size<=b:=λ b hb=>by
  rcases z0a.mp hb with z | z
  ·exact .inr (by lia)
  ·exact .inl (z0i.mp z)
 cases hT0:w.params.followText "set-order" with
 | true =>
  refine z00 (z03 ?_);refine z00 (wpAny_setEpoch_of ho hd hf ?_);refine z00 (z4s ?_);refine z03 (nx7 _ rfl ("set_iterator") _ ⟨_,z0t _ rfl,rfl⟩ a6b.lookup ?_);have hpp:=b2w (w.params.setOrder a ep) es;have hW:=e2r (ep:=ep) hT0 hh (z0k ha) hf hel;have hlen:((pickOrder (w.params.setOrder a ep) es).toList.map b7r).length=es.size:=by rw[z04,hpp.length_eq,z0q]
  rw[<-hlen] at hW;exact h s.heap.objs.size _ s.drawn _ _ _ (z05 _) hpt (hkeep _) ((hpp.map b7r).trans hp) hW ⟨⟨_,z0t _ rfl,rfl,by rw[hlen];rfl⟩,⟨o,z0e _ ho,hex,hd⟩⟩
 | false =>
  have hl1:t.led=true:=by rw[hl,hled,hT0];rfl
  cases hD:(!t.plain && decide (1 < es.size)) with
  | true =>
   refine z00 (d1g _ _ _ _ (by simp) λ ps d hps=>?_);have hps1:ps.length=es.size:=by rw[hps.length_eq,z1m]
   refine z00 (wpAny_newTuple ?_ (by rw[z04,hps1];exact hsl));have ho1:(s.heap.push {cls:=.type "tuple",data:=.seq (ps.map λ (k:Nat)=>rawInt k).toArray}).get? a=some o:=z0e _ ho;refine z00 (wpAny_setEpoch_of ho1 hd hf ?_);refine z00 (z4s ?_);refine z03 (nx7 _ rfl ("set_iterator") _ ⟨_,z0t _ rfl,rfl⟩ a6b.lookup ?_);have hW:=e3w (I:=(s.heap.push {cls:=.type "tuple",data:=.seq (ps.map λ (k:Nat)=>rawInt k).toArray}).objs.size) (ep:=ep) hps hh (by rw[z2y];exact z0k (z5a ha)) (by rw[z2y];exact z0k (z4l _)) hf hel;have hlen:(b4b es ps).length=es.size:=by rw[b4b,z04,hps1]
   rw[<-hlen] at hW;refine h _ _ d _ _ _ (by rw[z2y];exact z3o _) (λ b hb=>?_) (λ b o' e=>z0e _ (z0e _ e)) ((c6a hps).trans hp) hW ⟨⟨_,z0t _ rfl,rfl,by rw[hlen];rfl⟩,⟨o,z0e _ ho1,hex,hd⟩,nx9 _ 0 (z0e _ (z0t _ rfl)) rfl⟩;rcases z0a.mp hb with z | z
   ·exact .inr (by rw[z,z2y];exact z3o _)
   ·rcases z0a.mp z with z | z
    ·exact .inl z
    ·exact .inr (by rw[z0i.mp z];exact z05 _)
  | false =>
   refine z00 (z03 ?_);refine z00 (wpAny_setEpoch_of ho hd hf ?_);refine z00 (z4s ?_);refine z03 (nx7 _ rfl ("set_iterator") _ ⟨_,z0t _ rfl,rfl⟩ a6b.lookup ?_);have hW:=e2x (ep:=ep) hT0 hD hl1 ht hpl hh (z0k ha) hf hel;rw[<-sz0] at hW;exact h s.heap.objs.size _ s.drawn _ _ _ (z05 _) hpt (hkeep _) hp hW ⟨⟨_,z0t _ rfl,rfl,by rw[sz0];rfl⟩,⟨o,z0e _ ho,hex,hd⟩⟩
end
section
variable {prog:Program} {w:World} {A:Around} {E:Value->Shared->Prop} {s:Shared} {a:Addr} {ks:List Int} {led:Bool}
theorem c0o.typeIs (x:c0o prog w s.heap a ks led):s.TypeIs (.ref a) "set":=let ⟨o,_,_,_,ho,hex,_⟩:=x;⟨o,ho,hex.1⟩
theorem e3h (hT:s.TypeIs (.ref a) "set") (h:Q false s):wpAny (model prog w) A (Builtin.List.listLengthHint (.ref a)) Q E s:=by
 unfold Builtin.List.listLengthHint;refine z00 (z30 hT F.slot_set_len.lookup ?_);generalize hid:("set.__len__":String)=id0;subst hid;refine z00 (z5s (b:=true) hT (by rw[isSubtype_type];kernel_rfl) ?_);exact z00 (z3l hT (z03 h))
theorem e5m {R:Result->Shared->Prop} (hh:A.handled=none) (hG:c0o prog w s.heap a ks led) (hled:led=!w.params.followText "set-order") (hn:ks.length<=sizeLine) {L:Addr} (hLa:L≠a) {res:Value} {c₀:Nat} (hL:s.heap.get? L=some {cls:=.type "list",data:=.seq #[] c₀})
  (hR:∀ (h':Heap) (tk:Nat) (d:Drawn) (acc:Array Value) (c:Nat) (ms:List Int),(∀ b o,b≠L->s.heap.get? b=some o->h'.get? b=some o)->h'.get? L=some {cls:=.type "list",dict:=none,data:=.seq acc c,slots:=#[]}->ms.Perm ks->ItemsOf (c1x ms) acc ms.length->R (.ok (.ret res)) {s with heap:=h',toks:=tk,drawn:=d}) :
  wpAny (model prog w) A.in1 (Builtin.List.listExtendWith (.ref L) (.ref a) res) (λ fin s'=>match fin with
   | .done f=>R (.ok f) s'
   | .again c'=>c'.quiet=true/\codeAny (model prog w) A c' R s') (λ e s'=>R (.error e) s') s:=by
 have hLlt:L < s.heap.objs.size:=z0g hL;unfold Builtin.List.listExtendWith;refine z00 (z3l (T:="set") hG.typeIs ?_);have h1:Builtin.List.listSameRef (.ref L) (.ref a)=false:=by simp[Builtin.List.listSameRef,hLa]
 have n1:(Value.type "set" == Value.type "list")=false:=by decide
 have n2:(Value.type "set" == Value.type "tuple")=false:=by decide
 simp only [h1,n1,n2,Bool.or_false,z36,z2h];refine z00 (e0h (A:=A.in1) hh hG hled λ I h' d fp St ms hI hfp hk hp W st=>?_);have hms:ms.length<=sizeLine:=by rw[hp.length_eq];exact hn
 have hLf:L ∉ fp:=λ z=>by
  rcases hfp L z with e | e
  ·exact hLa e
  ·exact absurd e (Nat.not_le_of_lt hLlt)
 have key:∀ (hx:Heap) (c₁ tk:Nat),St 0 hx->(∀ b o,b≠L->s.heap.get? b=some o->hx.get? b=some o)->hx.get? L=some {cls:=.type "list",data:=.seq #[] c₁} ->
   codeAny (model prog w) A (.builtin "list.extend.loop" ⟨[.ref L,.ref I,res],[]⟩) R {s with heap:=hx,toks:=tk,drawn:=d}:=λ hx c₁ tk st1 kx hL1=>by
  refine codeAny_extend_loopS W.toS hms L hLf res ms.length 0 _ #[] c₁ rfl (z0m _) st1 hL1 (ItemsOf.nil _) λ s2 acc c2 mv hL2 hacc=>?_
  rw[Moved.eq_with mv];refine hR s2.heap s2.toks d acc c2 ms (λ b o hb e=>mv.heap b o (λ z=>?_) (kx b o hb e)) hL2 hp hacc;rcases z0a.mp z with e' | e'
  ·exact hb e'
  ·have:=z0g e;rw[z0i.mp e'] at this;exact absurd hI (Nat.not_le_of_lt this)
 have hL1:=hk _ _ hL;refine z00 (z1n (e3h (hG.keep λ o e=>hk _ _ e).typeIs ?_));refine z00 (z1s (z00 ?_));refine z00 (wpAny_updateSeq hL1 rfl ?_);have hL2:=z4k (Obj.mapSeq (·.push Value.none)) hL1 rfl;refine wpAny_updateSeq (hz:=by seq_fits) hL2 rfl ?_;have hL3:=z4k (Obj.mapSeq (·.pop)) hL2 rfl;have oth:∀ b o,b≠L->h'.get? b=some o->((h'.update L (Obj.mapSeq (·.push Value.none))).update L (Obj.mapSeq (·.pop))).get? b=some o:=λ b o hb e=>(z4c _ _ (z1t hb)).trans ((z4c _ _ (z1t hb)).trans e)
 exact z03 ⟨z42 F.plain_extend_loop _,key _ _ _ (W.frame 0 _ _ st λ b hb o e=>oth b o (λ z=>hLf (z ▸ hb)) e) (λ b o hb e=>oth b o hb (hk b o e)) hL3⟩
theorem c6p (hh:A.handled=none) (hG:c0o prog w s.heap a ks led) (hled:led=!w.params.followText "set-order") (hn:ks.length<=sizeLine)
  (h:∀ (h':Heap) (tk:Nat) (d:Drawn) (acc:Array Value) (ms:List Int),(∀ b o,s.heap.get? b=some o->h'.get? b=some o)->ms.Perm ks->ItemsOf (c1x ms) acc ms.length->R acc.toList {s with heap:=h',toks:=tk,drawn:=d}) :
  wpAny (model prog w) A (collect (.ref a)) R E s:=by
 have ha:a < s.heap.objs.size:=by obtain⟨o,_,_,_,ho,_⟩:=hG;exact z0g ho
 refine z00 (wpAny_runValue (z3a PyProof.Rows.entry_proto_collect' ?_));refine z00 (z4s (z03 ⟨z42 F.plain_list_iadd _,z3a PyProof.Rows.entry_list_iadd' ?_⟩));have hL:(s.heap.push {cls:=.type "list",data:=.seq ([]:List Value).toArray}).get? s.heap.objs.size=some {cls:=.type "list",data:=.seq #[]}:=z0t _ rfl;have key:=e5m (s:={s with heap:=s.heap.push {cls:=.type "list",data:=.seq ([]:List Value).toArray}})
  (R:=λ (q:Result) (s':Shared)=>∃ (h':Heap) (tk:Nat) (d:Drawn) (acc:Array Value) (c:Nat) (ms:List Int),q=.ok (.ret (.ref s.heap.objs.size))/\s'={s with heap:=h',toks:=tk,drawn:=d}/\(∀ b o,s.heap.get? b=some o->h'.get? b=some o) /\
   h'.get? s.heap.objs.size=some {cls:=.type "list",dict:=none,data:=.seq acc c,slots:=#[]}/\ms.Perm ks/\ItemsOf (c1x ms) acc ms.length)
  hh (hG.keep λ o e=>z0e _ e) hled hn (z4u ha) hL
  (λ h' tk d acc c ms k hL' hp hacc=> nx32 h' tk d acc c ms rfl rfl (λ b o e=>k b o (z0k (z0g e)) (z0e _ e)) hL' ⟨hp,hacc⟩)
 refine z1b key (λ fin s' x=>?_) λ e s' x=>?_
 ·cases fin with
  | done f =>
   obtain⟨h',tk,d,acc,c,ms,e,rfl,k,hL',hp,hacc⟩:=x;cases e;show wpAny _ A (load s.heap.objs.size>>=_) _ _ _;exact z00 (wpAny_load hL' (z03 (h h' tk d acc ms k hp hacc)))
  | again c₁ =>
   refine⟨x.1,z4h x.2 λ q s₂ y=>?_⟩;obtain⟨h',tk,d,acc,c,ms,rfl,rfl,k,hL',hp,hacc⟩:=y;exact z00 (wpAny_load hL' (z03 (h h' tk d acc ms k hp hacc)))
 ·obtain⟨_,_,_,_,_,_,e',_⟩:=x;cases e'
end
theorem c6l {σ:L2.St} (d:Drawn) (I:Inv X pins σ H s):Inv X pins σ H {s with drawn:=d}:=⟨I.ok,I.os,I.bare,I.base,I.loc,I.cell,I.free,I.freeC,I.pin,I.hok,I.len⟩
def d3l (K:W.Frag) (t:TA):TE:=λ σ H Q=>t σ H λ vs H1=>∃ a ns,vs=[V.ref a]/\SqL K H1 a (ns.map V.int)/\ns.length < 4000/\(dd ns).length < 64/\∀ l,H1 l=none->Q (.ref l) (upd H1 l (.lst ((a2s (dd ns)).map V.int)))
theorem c5a {K:W.Frag} {p p2 pos pos2:Pos} (hK:X.K=K) (hc:X.calm=true) (hgl:Gl X "sorted") (hml:X.mg "sorted"=none) (hg:Gl X "set") (hm:X.mg "set"=none) (ha:PA X [e] t)
  (hs:starEach [e] X.env=[(false,eval e X.env)]:=by rfl) (hs2:starEach [.Call (.Name "set" p2) [e] [] pos2] X.env=[(false,eval (.Call (.Name "set" p2) [e] [] pos2) X.env)]:=by rfl) :
  PE X (.Call (.Name "sorted" p) [.Call (.Name "set" p2) [e] [] pos2] [] pos) (d3l K t):=by
 constructor;intro pins s σ H Q I h;subst hK;refine z4p (a7w I hgl hml PyProof.Rows.boot_sorted ?_ (by decide) (by decide));refine PyProof.Rows.callWith_builtin1 ?_ (by rw[hs2];rfl) rfl;rw[hs2];show wpAny _ _ (spliced ((false,eval (.Call (.Name "set" p2) [e] [] pos2) X.env)::backTo pos [])) _ _ s;refine z3f ?_;refine z4p (a7w I hg hm PyProof.Rows.boot_set (z5c (thn (ha pos2 pins s σ H _ I h) λ us s1 ⟨vs,H1,I1,r1,q1⟩=>?_) hs rfl) (by decide) (by decide));obtain⟨l,ns,rfl,hx,h4,h64,q⟩:=q1;obtain⟨u,rfl,ru⟩:=b3r r1;cases ru;obtain⟨its,rv,pl,hz⟩:=I1.list hx;have hlen:=rv.length;rw[z04] at hlen;refine c5z (I1.ok.hd hc) pl.isList hlen.symm (λ j u eu=>?_) (show ns.length+1 < 4096 by lia) λ h' tk hG k=>?_
 ·obtain⟨x,hx1,rx⟩:=a5m rv eu;rw[z09] at hx1;cases en:ns[j]? with
  | none=>rw[en] at hx1;cases hx1
  | some n =>
   rw[en] at hx1;cases hx1;obtain⟨t,rfl⟩:=rx;exact nx9 n t rfl rfl
 refine z5e ?_;have hsz:(dd ns).length<=sizeLine:=z0s (z3v h64) (by decide);refine z71 kind_sorted plain_sorted entry_sorted (args_sorted1 _) ?_;refine z00 (z03 (z00 ?_));refine c6p (I1.ok.hd hc) hG rfl hsz λ h2 tk2 d acc ms k2 hp hacc=>?_
 have hms:=hp.length_eq;have hl:acc.toList.length=ms.length:=by rw[z0q];exact hacc.1
 have hI:=b0i hl λ j v ev=>hacc.2 j v (by rw[<-z0u];exact ev)
 refine z00 (z55 ?_ (by rw[hl,hms];exact hsz));have hoL:(h2.push {cls:=.type "list",data:=.seq acc.toList.toArray}).get? h2.objs.size=some (seqObj "list" acc.toList.toArray 0):=z0t _ rfl;refine z00 (z1n (z1q slot_list_sort ⟨_,hoL,rfl⟩ entry_list_sort (list_sort_tree hoL hI (by rw[hl,hms];exact h64) λ out ns' a1 a2 a3=>⟨_,rfl,?_⟩) (args_list_sort _)));obtain⟨ep',hat'⟩:=sortedHeap_at (out:=out) hoL;have en:=c4m (a2.trans hp) a3;subst en;have I2:=c6l d (I1.kept (t':=tk2) (h':=h2) λ b o eb=>k2 b o (k b o eb));have I3:=I2.laid (o:=.lst ((a2s (dd ns)).map V.int)) (t':=tk2) (h':=sortedHeap (h2.push {cls:=.type "list",data:=.seq acc.toList.toArray}) h2.objs.size acc.toList out)
  (λ b v ev=>by
   have hb:=z0g ev;rw[sortedHeap_old (z0k hb) (by rw[z2y];exact z5a hb)];exact z0e _ ev) (z05 _)
  (⟨by rw[z04,(a1b (dd ns)).length_eq];exact hsz,nx9 out.toList ep' (b3c a1) (by simpa [seqObj] using hat')⟩)
 exact z03 (nx7 _ rfl (.ref _) _ I3 rfl (q _ (I2.hok.fresh (z05 _))))
theorem d9d:typeLookup (.type "list") "keys"=pure none:=by rw[typeLookup_type,builtinLookup_eq_fast];exact(by kernel_rfl)
theorem b1y:entryFor table "dict.update.loop"=some Builtin.«dict.update.loop»:=entryFor_of_tree (by kernel_rfl)
theorem a7c:plainId "dict.update.loop"=true:=by decide +kernel
section
variable {prog:Program} {w:World} {A:Around} {E:Value->Shared->Prop} {s:Shared}
theorem c8z (hL:PlainL s.heap l its) (hA:A.handled=none) (h:∀ h' tk,(∀ b o,s.heap.get? b=some o->h'.get? b=some o)->Q none {s with heap:=h',toks:=tk}):wpAny (model prog w) A (getAttr? (.ref l) "keys") Q E s:=by
 obtain⟨o,n,ho,hc,hd,hdat⟩:=hL;obtain⟨c,dct,dat,sl⟩:=o;simp only at hc hdat hd;subst hc hdat hd;obtain⟨hp,g,d,tk,os⟩:=s;have hT:∀ tk',(⟨hp,g,d,tk',os⟩:Shared).TypeIs (.ref l) "list":=λ _=>⟨_,ho,rfl⟩
 have f1:=sub_AttributeError;have f3:=z70.lookup;have f4:=z70.bind (.ref l);have f5:=am_list_getattr_none;have hname:(["__module__","__name__","__qualname__","__doc__","__annotations__"]:List Str).contains "keys"=false:=by decide +kernel
 unfold getAttr? getAttrBy? getAttrBy;repeat (any_goals (first | assumption | exact hT _ | ((with_reducible show wpAny _ _ (call (Value.builtin "list.__getattribute__") _ _) _ _ _);refine z3r z70 (hT _) am_entry_list_getattribute (F.args_list_getattribute_2 _ _) (meets_getattribute_miss_list l its n sl "keys" _ d9d hname (by decide +kernel)) ⟨ho,hA,λ h' tk' e hx'=>?_⟩) | wp_step))
 obtain⟨t',u',he⟩:=hx'.there;unfold getattributeRaised;repeat (any_goals (first | assumption | wp_step))
 exact h _ _ hx'.keeps
theorem c5g {K:Type} [DecidableEq K] (vs:List (K×Value)) (k:K) (v:Value):(stored vs k v).length<=vs.length+1:=by
 unfold stored;split<;>simp
def a9m {K:Type} [DecidableEq K] (vs:List (K×Value)) (ps:List (K×Value)):List (K×Value):=ps.foldl (λ a q=>stored a q.1 q.2) vs
theorem d6p {us:List Value} (hh:A.handled=none) (hlI:l≠I) (hDI:D≠I) (hDl:D≠l) (hlen:us.length=ks.length) (hsz:ks.length < 1000000) :
  ∀ (k i:Nat) (s:Shared),us.length - i=k->i<=us.length->s.heap.IsListIter I l i->s.heap.IsList l us.toArray->(∀ (j:Nat) u,us[j]?=some u->∃ t ku q,u=.ref t/\t≠I/\t≠D/\ks[j]?=some q/\s.heap.IsTuple t #[ku,q.2]/\(a0y prog w).is q.1 ku=true) ->
   (∃ vs,s.heap.DictOf (a0y prog w) D vs/\vs=a9m [] (ks.take i)/\vs.length<=i) ->
   (∀ h' tk,(∀ b o,b≠I->b≠D->s.heap.get? b=some o->h'.get? b=some o)->h'.DictOf (a0y prog w) D (a9m [] ks)->R (.ok (.ret .none)) {s with heap:=h',toks:=tk}) ->
   codeAny (model prog w) A (.builtin "dict.update.loop" ⟨[.ref D,.ref I,rawInt i,.none],[]⟩) R s:=by
 have W:=Walks.list (prog:=prog) (w:=w) (A:=A.in1) hh I l hlI us.toArray;have us0:us.toArray.size=us.length:=by simp
 intro k;induction k with
 | zero =>
  intro i s hk hi hit hil ht hg hR;have hin:i=us.length:=by lia
  refine z3a b1y ?_;refine z00 (W.done s _ _ ⟨by rw[us0,<-hin];exact hit,hil⟩ λ h' tk hk'=>?_);obtain⟨vs,dd,rfl,_⟩:=hg;rw[hin,hlen,z0x] at dd;refine z00 (z03 (z03 (hR h' tk (λ b o b1 _ e=>hk' b o (by simpa using b1) e) ?_)));obtain⟨o,es,ep,ho,r⟩:=dd;exact nx34 o es ep (hk' D o (by simpa using hDI) ho) r
 | succ k ih =>
  intro i s hk hi hit hil ht hg hR;have hlt:i < us.length:=by lia
  refine z3a b1y ?_;rw[z5g a7c _];refine z00 (W.item i s _ _ (by rw[us0];exact hlt) ⟨hit,hil⟩ λ v h1 tk1 hP hst hk1=>?_);obtain⟨t,ku,q,rfl,tI,tD,hq,hT,hkk⟩:=ht i v (by simpa using hP);obtain⟨vs,dd,evs,hvl⟩:=hg;obtain⟨oT,hoT,hcT,nT,hdT⟩:=id hT;have hoT1:=hk1 t oT (by simpa using tI) hoT;refine z00 (z1n ?_);refine z00 (wpAny_tryCatch ?_);refine z00 (z3l ⟨oT,hoT1,hcT⟩ ?_);refine z00 (z2r hoT1 hdT ?_);refine z03 ?_;refine z1n ?_;unfold dictSet;try with_reducible refine z1n ?_
  refine z00 ((a0y prog w).pyHash hkk ?_);have dd1:h1.DictOf (a0y prog w) D vs:=by
   obtain⟨o,es,ep,ho,r⟩:=dd;exact nx34 o es ep (hk1 D o (by simpa using hDI) ho) r
  have hv6:vs.length<=sizeLine:=z0s hvl (z0s hi (by rw[hlen];exact z0s (z3v hsz) (by decide)));refine wpAny_dictSetHashed_pairs (s:={s with heap:=h1,toks:=tk1+1}) (hsz:=hv6) hkk dd1 λ h2 dd2 sb=>?_
  have oth:=λ b hb=>sb.2 b hb
  refine z03 ⟨z42 a7c _,?_⟩;have en:rawInt ((i:Int)+1)=rawInt ((i+1:Nat):Int):=by rw[Int.natCast_add];rfl
  refine ih (i+1) {s with heap:=h2,toks:=tk1+1} (by lia) hlt (hst.1.at λ o e=>(oth I hDI.symm).trans e) (hst.2.at λ o e=>(oth l hDl.symm).trans e) (λ j u eu=>?_) ⟨_,dd2,?_,?_⟩ λ h3 tk3 k3 dd3=>?_
  ·obtain⟨t',ku',q',e1,e2,e3,e4,⟨oT',hoT',r'⟩,e6⟩:=ht j u eu;exact nx17 t' ku' q' e1 e2 e3 e4 ⟨⟨oT',(oth _ e3).trans (hk1 _ _ (by simpa using e2) hoT'),r'⟩,e6⟩
  ·rw[z0v,hq,evs];unfold a9m;rw[z4j];rfl
  ·have:=c5g vs q.1 q.2;lia
  ·exact hR h3 tk3 (λ b o b1 b2 e=>k3 b o b1 b2 ((oth b b2).trans (hk1 b o (by simpa using b1) e))) dd3
end
inductive d5p (K:W.Frag) (H:Hp):List V->List (Key×V)->Prop where
 | nil:d5p K H [] []
 | cons {t:Addr} {q:Key×V} {ws:List V} {ps:List (Key×V)} (h:SqT K H t [kV q.1,q.2]) (r:d5p K H ws ps):d5p K H (.ref t::ws) (q::ps)
def a4m (kvs ps:List (Key×V)):List (Key×V):=ps.foldl (λ a q=>a3t a q.1 q.2) kvs
theorem d5i:∀ {ps:List (Key×V)} {ks:List (Key×Value)} {kvs:List (Key×V)} {vs:List (Key×Value)},KV ps ks->KV kvs vs->KV (a4m kvs ps) (a9m vs ks)
 | _,_,_,_,.nil,h=>h
 | _,_,_,_,.cons (a:=p) (b:=q) e r,h=>by
  have:=KV.put h p.1 e.2;rw[show stored _ p.1 q.2=stored _ q.1 q.2 by rw[e.1]] at this;have h2:=d5i r this;exact h2
theorem b3m:∀ (ps kvs:List (Key×V)),(a4m kvs ps).length<=kvs.length+ps.length
 | [],kvs=>z05 _
 | q::r,kvs=>by
  have h1:=b3m r (a3t kvs q.1 q.2);have h2:=a2c kvs q.1 q.2;show (a4m (a3t kvs q.1 q.2) r).length<=kvs.length+(r.length+1);lia
theorem d4z {σ:L2.St} (I:Inv X pins σ H s):∀ {ws:List V} {ps:List (Key×V)} {its:List Value},d5p X.K H ws ps->a2e ws its ->
  ∃ ks:List (Key×Value),KV ps ks/\its.length=ks.length/\∀ (j:Nat) u,its[j]?=some u->∃ t ku q,u=.ref t/\t < s.heap.objs.size/\ks[j]?=some q/\s.heap.IsTuple t #[ku,q.2]/\(a0y X.prog X.w).is q.1 ku=true
 | _,_,_,.nil,.nil=>⟨[],.nil,rfl,λ j u e=>by simp at e⟩
 | _,_,_,.cons (q:=q) h r,.cons rv rr=>by
  obtain⟨ks,k1,k2,k3⟩:=d4z I r rr;obtain⟨its,r2,⟨o,ho,hr⟩,_⟩:=I.tuple h;obtain⟨ku,vu,rfl,e1,e2⟩:=d0g r2;cases rv;refine⟨(q.1,vu)::ks,.cons ⟨rfl,e2⟩ k1,by simp[k2],λ j u e=>?_⟩;cases j with
  | zero =>
   cases e;exact nx17 _ ku (q.1,vu) rfl (z0g ho) rfl ⟨o,ho,hr.1,hr.2⟩ (c2e e1)
  | succ j=>exact k3 j u (by simpa using e)
theorem a7f {K:W.Frag} (hK:X.K=K) (hc:X.calm=true):b4l X (.type "dict") (λ xs H Q=>∃ (a:Addr) (ws:List V) (ps:List (Key×V)),xs=[V.ref a]/\H a=some (.lst ws)/\d5p K H ws ps/\ps.length < 1000000/\∀ p,H p=none->Q (.ref p) (upd H p (.dK (a4m [] ps)))):=by
 subst hK;intro pins s σ H xs us Q I r h;obtain⟨a,ws,ps,rfl,ha,hp,hz,q⟩:=h;obtain⟨u,rfl,ru⟩:=b3r r;cases ru;obtain⟨its,rv,pl,_⟩:=I.list (SqL.of ha);obtain⟨ks,k1,k2,k3⟩:=d4z I hp rv;have kl:=(z46 k1).symm;have hal:a < s.heap.objs.size:=by obtain⟨_,_,e,_⟩:=pl;exact z0g e
 refine callType_codes (Q₁:=λ obj s₁=>obj=.ref s.heap.objs.size/\s₁={s with heap:=s.heap.push {cls:=.type "dict",data:=.dict #[]}}) F.kt_called_dict (F.kt_typeCall_dict_1 _) F.entry_dict_init (PySem.kt_code_dict_new _ ⟨rfl,rfl⟩) λ obj s₁ ⟨e1,e2⟩=>?_
 subst e1 e2;have hnew:(s.heap.push {cls:=.type "dict",data:=.dict #[]}).DictOf (a0y X.prog X.w) s.heap.objs.size []:=Heap.DictOf.new s.heap;refine⟨hnew.typeIs,F.args_dict_init_2 _ _,?_⟩;refine z00 ?_;refine z00 (z66 hnew.typeIs ?_);refine z03 ?_;show wpAny _ _ (Builtin.Dict.updateFrom "dict.__init__" s.heap.objs.size (.ref a) [] .none) _ _ _;have pl1:PlainL (s.heap.push {cls:=.type "dict",data:=.dict #[]}) a its.toArray:=pl.keeps λ b o e=>z0e _ e
 obtain⟨oa,na,hoa,hca,_⟩:=id pl1;refine z00 (z3l ⟨oa,hoa,hca⟩ ?_);refine z00 (c8z pl1 (I.ok.hd hc) λ h1 tk1 hk1=>?_);refine z00 (z1s ?_);have pl2:=pl1.keeps hk1;refine z00 (z5f pl2.isList ?_);have dd1:(h1.push {cls:=.type "list_iterator",data:=.fields #[.ref a,.int 0 0]}).DictOf (a0y X.prog X.w) s.heap.objs.size []:=by
  obtain⟨o,es,ep,ho,r⟩:=hnew;exact nx34 o es ep (z0e _ (hk1 _ _ ho)) r
 have hDl:s.heap.objs.size < h1.objs.size:=by obtain⟨o,es,ep,ho,r⟩:=hnew;exact z0g (hk1 _ _ ho)
 have haI:=z56 hal hDl;have kp:∀ b o,s.heap.get? b=some o->(h1.push {cls:=.type "list_iterator",data:=.fields #[.ref a,.int 0 0]}).get? b=some o:=λ b o e=>z0e _ (hk1 _ _ (z0e _ e))
 refine z03 ⟨z42 a7c _,d6p (A:=X.A.in1) (s:={s with heap:=h1.push {cls:=.type "list_iterator",data:=.fields #[.ref a,.int 0 0]},toks:=tk1}) (I.ok.hd hc) (z0k haI) (z0k hDl) (z4u hal) k2 (by rw[kl];exact hz) its.length 0 rfl (z0m _) ⟨_,z0t _ rfl,rfl,rfl⟩ (pl2.isList.push _) (λ j u eu=>?_) ⟨[],dd1,rfl,z05 _⟩ λ h3 tk3 k3' dd3=>?_⟩
 ·obtain⟨t,ku,q',e1,e2,e3,⟨oT,hoT,r'⟩,e5⟩:=k3 j u eu;exact nx17 t ku q' e1 (z0k (z56 e2 hDl)) (z0k e2) e3 ⟨⟨oT,kp _ _ hoT,r'⟩,e5⟩
 ·refine ⟨rfl,nx0 (.ref _) _ ?_ rfl (q _ (I.hok.fresh (z05 _)))⟩;refine I.laid (λ b o e=>k3' b o (z0k (z56 (z0g e) hDl)) (z0k (z0g e)) (kp b o e)) (z05 _) ?_;exact d1a (z0s (b3m ps []) (by simp only [z3h,Nat.zero_add];exact z0s (z3v hz) (by decide))) (z3q.mpr (z1t (z0k I.big))) (d5i k1 .nil) dd3
end My
namespace My
open PySem PySem.Spec PyProof.Rows L2
def ItK (d:Addr) (ob:Obj) (kvs:List (Key×V)):It :=
 ⟨λ i H=>H d=some (.frz ob (.dK kvs))/\i < kvs.length,λ i H v H'=>H'=H/\∃ k x,kvs[i]?=some (k,x)/\v=kV k,λ i H=>H d=some (.frz ob (.dK kvs))/\i=kvs.length⟩
section
variable {P:Program} {w:World} {K:W.Frag}
theorem c6m (d it ep:Addr) (ob:Obj) (kvs:List (Key×V)) (vs:List (Key×Value)) (rel:KV kvs vs) (hat:∀ h:Heap,h.get? d=some ob->h.DictAt (a0y P w) d vs ep) :
  d6t P w K tg (ItK d ob kvs) [it] it (λ i h=>h.IsKeyIter it d i vs.length ep) where
 mem:=by simp
 obj:=λ i h hi c hc=>by
  rw[z0i.mp hc];obtain⟨o,eo,_,dd⟩:=hi;exact⟨o,eo,λ v z=>by rw[dd] at z;cases z⟩
 keep:=λ i h h' hi k=>hi.at λ o eo=>k it (by simp) o eo
 item:=by
  intro X hP hw hK hc i pins s σ H E I hf st hg;obtain⟨hd,hi⟩:=hg;obtain⟨ho,_⟩:=(I.hok d _ hd);obtain⟨⟨k,x⟩,hq⟩:∃ q,kvs[i]?=some q:=⟨_,z0o hi⟩;obtain⟨⟨k2,u⟩,hu,hk2,ru⟩:=a1g rel hq;cases (hk2);refine wpAny_pyNext_dict_item st (hat _ ho) hu λ key h' hkey hi' hs'=>?_
  obtain⟨f0,f1,f2,f3,f4,f5⟩:=hf it (by simp);obtain⟨o',eo',co',do'⟩:=id hi';exact⟨key,rfl,d7m eo' co' do' (by decide) (nx12 (kV k) H (I.turned (λ b o hb eo=>(hs'.2 b hb).trans eo) f0 f1 f3 f4 f5) (d7c hkey) ⟨rfl,nx9 k x hq rfl⟩ hi' λ c hcm=>by rw[z0i.mp hcm];exact f0)⟩
 done:=by
  intro X hP hw hK hc i pins s σ H E I hf st hg;subst hP hw hK;obtain⟨hd,hi⟩:=hg;obtain⟨ho,_⟩:=(show a2r X.prog X.w H s.heap d (.frz ob (.dK kvs)) from I.hok d _ hd);have hn:vs[i]?=none:=List.getElem?_eq_none_iff.mpr (by rw[<-rel.length];lia);refine wpAny_pyNext_dict_end (I.ok.hd hc) st (hat _ ho) hn λ h' k=>⟨rfl,?_⟩
  obtain⟨f0,f1,f2,f3,f4,f5⟩:=hf it (by simp);exact I.turned (λ b o hb eo=>k b o hb eo) f0 f1 f3 f4 f5
 self:=λ _ _ _ _ _ st h=>wpAny_pyIter_keyiter st h
end
theorem d3m {g:TG} {tb:TS} {D:c8l} (Pv:Nat->L2.St->Hp->Prop) (h0:Pv 0 σ H) (hl:∀ i σ H,Pv i σ H->H d=some (.frz ob (.dK kvs)))
  (hs:∀ i k x σ H,kvs[i]?=some (k,x)->Pv i σ H->g (kV k) σ H λ σ2 H2=>tb {D with nx:=Pv (i+1),ct:=Pv (i+1),bk:=D.nx} σ2 H2) (hd:∀ σ H,Pv kvs.length σ H->D.nx σ H) :
  ∃ W:Nat->Nat->L2.St->Hp->Prop,(∃ m,W 0 m σ H)/\∀ i m σ H,W i m σ H ->
   ((ItK d ob kvs).stop i H/\D.nx σ H)\/((ItK d ob kvs).go i H/\∃ N:L2.St->Hp->Prop,(∀ σ' H',N σ' H'->∃ m',m' < m/\W (i+1) m' σ' H')/\∀ x H',(ItK d ob kvs).yld i H x H'->g x σ H' λ σ2 H2=>tb {D with nx:=N,ct:=N,bk:=D.nx} σ2 H2):=by
 refine⟨λ i m σ H=>m=kvs.length - i/\i<=kvs.length/\Pv i σ H,⟨kvs.length,by simp,z0m _,h0⟩,?_⟩;rintro i m σ H ⟨rfl,hi,p⟩;by_cases hlt:i < kvs.length
 ·refine .inr ⟨⟨hl i σ H p,hlt⟩,Pv (i+1),λ σ' H' p'=>⟨kvs.length - (i+1),by lia,rfl,hlt,p'⟩,?_⟩;rintro v H' ⟨rfl,k,x,hx,rfl⟩;exact hs i k x σ _ hx p
 ·have e:i=kvs.length:=by lia
  subst e;exact .inl ⟨⟨hl _ σ H p,rfl⟩,hd σ H p⟩
end My
namespace My
open PySem PySem.Spec PyProof.Rows L2 PyProof
theorem e1x {h:Heap} (x:h.Ns a m) (y:h.Ns a m'):m=m':=by
 obtain⟨o,es,ep,e1,e2,e3⟩:=x;obtain⟨o',es',ep',f1,f2,f3⟩:=y;rw[e1] at f1;cases f1;rw[e2] at f2;cases f2;exact funext λ x=>(e3.2 x).symm.trans (f3.2 x)
theorem c7r {R:α->β->Prop} (p:l1.Perm l2):∀ {l2':List α},Paired R l2' l2->∃ l1':List α,l1'.Perm l2'/\Paired R l1' l1:=by
 induction p with
 | nil=>exact λ {l} h=>⟨l,.refl _,h⟩
 | cons x _ ih =>
  intro l h;cases h with
  | cons r t =>
   obtain⟨l',p',h'⟩:=ih t;exact⟨_::l',p'.cons _,.cons r h'⟩
 | swap x y l =>
  intro l' h;cases h with
  | cons r t =>
   cases t with
   | cons r2 t2=>exact⟨_::_::_,.swap _ _ _,.cons r2 (.cons r t2)⟩
 | trans _ _ ih1 ih2 =>
  intro l h;obtain⟨l2,p2,h2⟩:=ih2 h;obtain⟨l1,p1,h1⟩:=ih1 h2;exact⟨l1,p1.trans p2,h1⟩
theorem c5q {σ:L2.St} {D:Addr} (I:Inv X pins σ H s) (keep:∀ b o,b≠X.env.locals->s.heap.get? b=some o->h'.get? b=some o)
  (ns:∀ m,s.heap.Ns X.env.locals m->h'.Ns X.env.locals m) (hD:s.heap.objs.size<=D) (new:a2r X.prog X.w (upd H D u) h' D u):Inv X pins σ (upd H D u) {s with heap:=h',toks:=t'}:=by
 have old:∀ b o,H b=some o->b≠D:=λ b o e=>z0k (z1l (I.hok b o e).lt hD)
 have was:∀ b o,s.heap.get? b=some o->b≠D:=λ b o e=>z0k (z1l (z0g e) hD)
 refine I.step (g':=s.gens) (d':=s.drawn) (ch:=[]) (λ _ z=>nomatch z) (λ b o nL hb _ e n=>keep b o nL e) (λ b o nL hb _ e n=>⟨o.slots,keep b o nL e⟩) (λ b o _ e n=>by rw[a0g (was b o e)];exact n) (λ b o _ e=>?_) (λ b _ e=>by rw[a0g (old b _ e)];exact e) (λ b _ _ e=>by rw[a0g (old b _ e)];exact e) (λ b ps e=>⟨#[],by rw[a0g (old b _ e)];simpa using e⟩) ns (λ b v q=>?_) I.bare
 ·by_cases z:b=X.env.locals
  ·obtain⟨m,hn,_⟩:=I.loc;obtain⟨o',_,_,e',_⟩:=ns m hn;exact⟨o',z ▸ e'⟩
  ·exact⟨o,keep b o z e⟩
 ·by_cases hb:b=D
  ·subst hb;rw[a0b] at q;cases q;exact new
  ·rw[a0g hb] at q;refine(I.hok b v q).stay (λ c v hc z=>keep c v (λ y=>?_) z) (λ c z=>by rw[a0g (old c _ z)];exact z) λ c _ z=>by rw[a0g (old c _ z)];exact z
   have fr:=I.free;rcases hc with rfl | hc
   ·rw[<-y,q] at fr;cases fr
   ·rw[<-y,hc] at fr;cases fr
end My
namespace My
open PySem PyProof.Rows
def c8j:Bool->Keyed->Array Keyed->Nat->Nat->Nat->StateT SortSt Sem (Option Nat):=sortPriv% PySem.Builtin.gallop
def kf (p:Keyed):Int:=numOf p.1
def e6e (p:Keyed):Prop:=∃ n t,p.1=.int n t
theorem e6e.is (h:e6e p):∃ t,p=(.int (kf p) t,p.2):=by
 obtain⟨n,t,e⟩:=h;refine⟨t,?_⟩;obtain⟨x,y⟩:=p;cases (e);rfl
section
variable {prog:Program} {w:World} {s:Shared} {A:Around} {E:Value->Shared->Prop}
theorem a1p {st:SortSt} (e:xs[i]?=some p) (h:Q p st):wpS (model prog w) A E s (elem' xs i) Q st:=by
 rw[elem'_eq,e];exact z07 h
def bey (left:Bool) (k x:Int):Bool:=if left=true then decide (x < k) else !decide (k < x)
theorem d1r (h:x<=y) (hy:bey left k y=true):bey left k x=true:=by
 unfold bey at *;cases left
 ·rw[z01 (by simp)] at hy ⊢;rw[Bool.not_eq_true'] at hy ⊢;have:=z3x hy;exact z0n (by lia)
 ·have:=z0h hy;exact z08 (by lia)
end
def d2f:Array Keyed->Array Keyed->StateT SortSt Sem (Array Keyed):=sortPriv% PySem.Builtin.mergeLo
def d3g:Array Keyed->Array Keyed->StateT SortSt Sem (Array Keyed):=sortPriv% PySem.Builtin.mergeHi
abbrev Upk (l:List Keyed):Prop:=l.Pairwise λ x y=>kf x<=kf y
structure LInv (A B out:List Keyed) (ia ib:Nat):Prop where
 ha:ia<=A.length
 hb:ib<=B.length
 perm:out.Perm (A.take ia++B.take ib)
 up:Upk out
 leA:∀ x∈out,∀ y∈A.drop ia,kf x<=kf y
 leB:∀ x∈out,∀ y∈B.drop ib,kf x<=kf y
theorem a2u {A:List Keyed} (h:A[i]?=some x):(A.drop i).take 1=[x]:=by
 have ⟨hi,e⟩:=z0l.mp h;rw[z5o hi,e];rfl
structure a2f (st st':SortSt):Prop where
 kind:kindOf st'=kindOf st
 arr:arrOf st'=arrOf st
 pend:pendingOf st'=pendingOf st
 fail:failedOf st'=failedOf st
theorem a2f.refl (st:SortSt):a2f st st:=⟨rfl,rfl,rfl,rfl⟩
theorem a2f.trans (h:a2f a b) (k:a2f b c):a2f a c:=⟨k.kind.trans h.kind,k.arr.trans h.arr,k.pend.trans h.pend,k.fail.trans h.fail⟩
theorem a2f.mk' (st:SortSt) (g:Nat):a2f st (SortSt.mk' (kindOf st) (arrOf st) (pendingOf st) g (failedOf st)):=⟨rfl,rfl,rfl,rfl⟩
theorem b5d (a:Array Keyed) (i:Nat):(a.extract i).toList=a.toList.drop i:=by
 simp;exact z20 (Nat.le_of_eq (by simp))
theorem b5s (a:Array Keyed) (i k:Nat):(a.extract i (i+k)).toList=(a.toList.drop i).take k:=by simp[z6s]
section
variable {prog:Program} {w:World} {s:Shared} {A:Around} {E:Value->Shared->Prop}
theorem a0v [Decidable c] {st:σ} (h1:c->wpS (model prog w) A E s m1 Q st) (h2:¬ c->wpS (model prog w) A E s m2 Q st):wpS (model prog w) A E s (if c then m1 else m2) Q st:=by
 by_cases h:c
 ·rw[z02 h];exact h1 h
 ·rw[z01 h];exact h2 h
theorem b9c (h:bey false k x=true):x<=k:=by
 unfold bey at h;rw[z01 (by simp),Bool.not_eq_true'] at h;have:=z3x h;lia
theorem c2z (h:bey false k x=false):k < x:=by
 unfold bey at h;rw[z01 (by simp),Bool.not_eq_false'] at h;exact z0h h
theorem c0n (h:bey true k x=true):x < k:=z0h h
theorem b7v (h:bey true k x=false):k<=x:=by
 have:=z3x (h);lia
end
structure HInv (A B tl:List Keyed) (na nb:Nat):Prop where
 ha:na<=A.length
 hb:nb<=B.length
 perm:tl.Perm (A.drop na++B.drop nb)
 up:Upk tl
 leA:∀ x∈A.take na,∀ y∈tl,kf x<=kf y
 leB:∀ x∈B.take nb,∀ y∈tl,kf x<=kf y
theorem a8s {A:List Keyed} (h:A[i]?=some x):(A.take (i+1)).drop i=[x]:=by
 have ⟨hi,e⟩:=z0l.mp h;rw[z6w hi,List.drop_append_of_le_length (by rw[z16];lia),List.drop_of_length_le (by rw[z16];lia),e];rfl
theorem a7g (a:Array Keyed) (n:Nat):(a.extract 0 n).toList=a.toList.take n:=by simp[z6s]
theorem c2v (a:Array Keyed) (k n:Nat):(a.extract k n).toList=(a.toList.take n).drop k:=by simp[z6s,List.drop_take]
structure Sb (a₀:Array Keyed) (pd:Array (Nat×Nat×Nat)) (lo:Nat) (xs:Array Keyed) (st:SortSt):Prop where
 perm:(arrOf st).Perm a₀
 kind:kindOf st=oneType'
 fail:failedOf st=none
 pend:pendingOf st=pd
 low:∀ k,k < lo->(arrOf st)[k]?=xs[k]?
def Rise (xs:Array Keyed) (lo hi:Nat):Prop:=∀ i j,lo<=i->i<=j->j < hi->K xs i<=K xs j
def Fall (xs:Array Keyed) (lo hi:Nat):Prop:=∀ i j,lo<=i->i<=j->j < hi->K xs j<=K xs i
section
variable {prog:Program} {w:World} {s:Shared} {A:Around} {E:Value->Shared->Prop} {a₀ xs:Array Keyed} {pd:Array (Nat×Nat×Nat)} {lo:Nat} {st:SortSt}
theorem Sb.size (h:Sb a₀ pd lo xs st):(arrOf st).size=a₀.size:=h.perm.size_eq
theorem Sb.set (h:Sb a₀ pd lo xs st) (p:ys.Perm (arrOf st)) (l:∀ k,k < lo->ys[k]?=(arrOf st)[k]?):Sb a₀ pd lo xs (setArr st ys):=⟨p.trans h.perm,h.kind,h.fail,h.pend,λ k hk=>(l k hk).trans (h.low k hk)⟩
end
theorem c4s (sa:Nat):∀ (r:List Keyed) (c:Nat) (arr:Array Keyed),sa+c+r.length<=arr.size->((r.zipIdx c).foldl (λ a x=>a.setIfInBounds (sa+x.2) x.1) arr).toList=arr.toList.take (sa+c)++r++arr.toList.drop (sa+c+r.length)
 | [],c,arr,_=>by simp
 | p::r,c,arr,h=>by
  rw[z17] at h;have ih:=c4s sa r (c+1) (arr.setIfInBounds (sa+c) p) (by rw[Array.size_setIfInBounds];lia);refine ih.trans ?_;have hl:sa+c < arr.toList.length:=by rw[z0q];lia
  rw[Array.toList_setIfInBounds,show sa+(c+1)=sa+c+1 by lia,List.take_set,List.drop_set_of_lt (by lia),z17,show sa+c+1+r.length=sa+c+(r.length+1) by lia];rw[z6w hl,List.set_append_right _ _ (by rw[z16];lia),z16,z4o (by lia),Nat.sub_self];simp
section
variable {prog:Program} {w:World} {s:Shared} {A:Around} {E:Value->Shared->Prop} {a₀:Array Keyed} {st:SortSt}
theorem d9i {st st2:σ} (h:Q ⟨⟩ st2):wpS (model prog w) A E s (set st2:StateT σ Sem PUnit) Q st:=by
 exact z03 ⟨rfl,h⟩
end
end My
namespace My
open PySem PySem.Spec PyProof.Rows L2
section
variable {X:Cx}
theorem a7h (hu:X.A.units+64 < cLine):OpR X (compareOp .NotEq) (λ x y H Q=>∃ (a b:Addr) (xs:List V),x=.ref a/\y=.ref b/\SqL X.K H a xs/\SqL X.K H b []/\Q (.bl (!xs.isEmpty)) H):=by
 intro pins s σ H x y v u Q I rx ry h;obtain⟨a,b,xs,rfl,rfl,ha,hb,q⟩:=h;cases xs with
 | nil=>exact c9w hu pins s σ H (.ref a) (.ref b) v u Q I rx ry (nx12 _ _ (.lst ha .nil) (.lst hb .nil) rfl rfl q)
 | cons w r =>
  cases rx;cases ry;obtain⟨its,rv,⟨o,n,e,c,d0,dd⟩,_⟩:=I.list ha;obtain⟨jts,rw',⟨o2,n2,e2,c2,d2,dd2⟩,_⟩:=I.list hb;cases rw';have hne:(its.toArray.size != (#[]:Array Value).size)=true:=by
   cases rv;simp
  exact PySem.SeqAt.RcNeAt.lists_lengths (nx13 _ e c n dd) (nx13 _ e2 c2 n2 dd2) hne (z4n (z5k _ _) hu) _ _ _ _ (nx0 (.bl true) H I rfl q)
end
section
variable {X:Cx} {e a b:Expr} {es:List Expr} {te ta tb:TE} {t:TA} {pos:Pos}
def d8b (t u:TS):TS:=λ D σ H=>∃ W:L2.St->Hp->Prop,t {D with nx:=W} σ H/\∀ σ' H',W σ' H'->u D σ' H'
theorem b0d {st:Stmt} {b6e:List Stmt} {t u:TS} (h1:PS X st t) (h2:PSs X b6e u):PSs X (st::b6e) (d8b t u):=by
 constructor;intro pins s σ H D I ⟨W,h,k⟩;refine wpAny_execs_cons (thn (h1 pins s σ H {D with nx:=W} I h) λ f s1 q=>?_);cases f with
 | next =>
  obtain⟨σ',H',I',q⟩:=q;exact h2 pins s1 σ' H' D I' (k σ' H' q)
 | ret v=>exact q
 | brk=>exact q
 | cont=>exact q
end
end My
namespace My
open PySem PySem.Spec PyProof.Rows L2 PyProof
def tNever:TE:=λ _ _ _=>False
mutual
inductive Tr (H:Hp):V->PyData->Prop where
 | int (i:Int):Tr H (.int i) (.int i)
 | str (x:Str):Tr H (.str x) (.str x)
 | lst {a:Addr} {xs:List V} {ds:List PyData} (h:H a=some (.lst xs)) (r:Trs H xs ds):Tr H (.ref a) (.list ds)
 | tup {a:Addr} {xs:List V} {ds:List PyData} (h:H a=some (.tup xs)) (r:Trs H xs ds):Tr H (.ref a) (.tuple ds)
inductive Trs (H:Hp):List V->List PyData->Prop where
 | nil:Trs H [] []
 | cons {x:V} {d:PyData} {xs:List V} {ds:List PyData} (h:Tr H x d) (r:Trs H xs ds):Trs H (x::xs) (d::ds)
end
mutual
theorem Tr.same {H H':Hp} (s:Same H H') {v:V} {d:PyData} (h:Tr H v d):Tr H' v d:=by
 cases h with
 | int i=>exact .int i
 | str x=>exact .str x
 | lst h r=>exact .lst (s _ _ h) (Trs.same s r)
 | tup h r=>exact .tup (s _ _ h) (Trs.same s r)
theorem Trs.same {H H':Hp} (s:Same H H') {vs:List V} {ds:List PyData} (h:Trs H vs ds):Trs H' vs ds:=by
 cases h with
 | nil=>exact .nil
 | cons h r=>exact .cons (Tr.same s h) (Trs.same s r)
end
mutual
theorem Tr.dt {K:W.Frag} {H:Hp} {v:V} {d:PyData} (h:Tr H v d):Dt K H v d:=by
 cases h with
 | int i=>exact .int i
 | str x=>exact .str x
 | lst h r=>exact .lst (SqL.of h) (Trs.dts r)
 | tup h r=>exact .tup (SqT.of h) (Trs.dts r)
theorem Trs.dts {K:W.Frag} {H:Hp} {vs:List V} {ds:List PyData} (h:Trs H vs ds):Dts K H vs ds:=by
 cases h with
 | nil=>exact .nil
 | cons h r=>exact .cons (Tr.dt h) (Trs.dts r)
end
theorem Trs.len:∀ {vs:List V} {ds:List PyData},Trs H vs ds->vs.length=ds.length
 | _,_,.nil=>rfl
 | _,_,.cons _ r=>by simp only [z17,Trs.len r]
theorem Trs.get:∀ {vs:List V} {ds:List PyData},Trs H vs ds->∀ {i:Nat} {v:V},vs[i]?=some v->∃ d,ds[i]?=some d/\Tr H v d
 | _,_,.nil,i,v,e=>by simp at e
 | _,_,.cons h r,0,v,e=>by cases e;exact⟨_,rfl,h⟩
 | _,_,.cons h r,i+1,v,e=>Trs.get r (by simpa using e)
theorem Trs.at:∀ {vs:List V} {ds:List PyData},Trs H vs ds->∀ {i:Nat} {d:PyData},ds[i]?=some d->∃ v,vs[i]?=some v/\Tr H v d
 | _,_,.nil,i,v,e=>by simp at e
 | _,_,.cons h r,0,v,e=>by cases e;exact⟨_,rfl,h⟩
 | _,_,.cons h r,i+1,v,e=>Trs.at r (by simpa using e)
theorem Trs.app:∀ {vs us:List V} {ds es:List PyData},Trs H vs ds->Trs H us es->Trs H (vs++us) (ds++es)
 | _,_,_,_,.nil,r=>r
 | _,_,_,_,.cons h q,r=>.cons h (Trs.app q r)
theorem Trs.ints:∀ {vs:List V} {ns:List Int},Trs H vs (ns.map PyData.int)->vs=ns.map V.int
 | _,[],.nil=>rfl
 | _,n::r,.cons h q=>by cases h;rw[Trs.ints q];rfl
theorem Trs.ofInts:∀ (ns:List Int),Trs H (ns.map V.int) (ns.map PyData.int)
 | []=>.nil
 | n::r=>.cons (.int n) (Trs.ofInts r)
end My
namespace My
open PySem PySem.Spec PyProof.Rows L2
def off (H H':Hp):Hp:=λ b=>if (H b).isSome=true then none else H' b
def d7s (H:Hp) (D:Addr):Hp:=λ b=>if b=D then none else H b
theorem d2k:Same (d7s H D) H:=λ b o e=>by
 unfold d7s at e;split at e
 ·cases e
 ·exact e
theorem b8u (h:H b=none) (e:H' b=some o):off H H' b=some o:=by
 unfold off;rw[h];exact e
theorem a3k (e:off H H' b=some o):H b=none/\H' b=some o:=by
 unfold off at e;split at e
 ·cases e
 ·next h =>
  refine⟨?_,e⟩;cases q:H b with
  | none=>rfl
  | some z=>rw[q] at h;exact absurd rfl h
theorem d2q (s:Same H' H''):Same (off H H') (off H H''):=λ b o e=>b8u (a3k e).1 (s _ _ (a3k e).2)
theorem d4m (s:Same H H2):Same (off H2 H') (off H H'):=λ b o e=>b8u (by
 cases q:H b with
 | none=>rfl
 | some z=>have:=s _ _ q;rw[(a3k e).1] at this;cases this) (a3k e).2
theorem b4v {α β:Type} (f:α->Option β):∀ (as:List α),(List.range as.length).filterMap (λ i=>as[i]?.bind f)=as.filterMap f:=by
 intro as;have key:∀ n,n<=as.length->(List.range n).filterMap (λ i=>as[i]?.bind f)=(as.take n).filterMap f:=by
  intro n;induction n with
  | zero=>intro _;rfl
  | succ n ih =>
   intro h;rw[z28,z2l,ih (by lia),z0v,z2l,z0o (by lia)];congr 1;show List.filterMap (λ i=>as[i]?.bind f) [n]=List.filterMap f [as[n]];simp only [z1o,List.filterMap_nil,z0o (show n < as.length by lia),Option.bind]
 rw[key as.length (z05 _),z0x]
theorem e1n {α:Type} {σ0 fs:L2.St} {K:W.Frag} (as:List α) (dx:α->PyData) (f:α->Option V) (h0:σ0=List.replicate k none++fs) (hl:H1 l=some (.lst xs)) (ht:Trs H1 xs (as.map dx)) (hz:as.length<=sizeLine)
  (step:∀ a,a∈as->∀ H (ts:L2.St) v (R:Option V->L2.St->Hp->Prop),Same H1 H->ts.length=k->Tr H v (dx a)->(∀ (ts2:L2.St) H3,ts2.length=k->Same H H3->R (f a) (ts2++fs) H3) ->
   g v (ts++fs) H λ τ2 H2=>tc τ2 H2 λ ok H3=>if ok=true then te τ2 H3 λ y H4=>R (some y) τ2 H4 else R none τ2 H3)
  (fin:∀ D H',H1 D=none->Same H1 H'->H' D=some (.lst (as.filterMap f))->Q (.ref D) H'):a6n σ0 (Itl K l) g tc te Q H1:=by
 have hn:xs.length=as.length:=by rw[ht.len,z04]
 refine a9y as.length (λ i=>as[i]?.bind f) h0 hz (λ i H ss hi=>(a2h (SqL.of (ss _ _ hl))).go i (by lia)) (λ H ss=>(a2h (SqL.of (ss _ _ hl))).stop _ (by lia)) ?_ λ D H' hD ss hd=>fin D H' hD ss (by rw[hd,b4v])
 rintro i H ts v H' R ss hi hts ⟨rfl,yy⟩ cont;have e:=yy xs (SqL.of (ss _ _ hl));obtain⟨d,hd,tr⟩:=ht.get e;rw[z09] at hd;cases ea:as[i]? with
 | none=>rw[ea] at hd;cases hd
 | some a =>
  rw[ea] at hd;cases hd;exact step a (z0c ea) H' ts v R ss hts (tr.same ss) λ ts2 H3 h2 s3=>by
   have:=cont ts2 H3 h2 s3;rw[ea] at this;exact this
theorem e5v {α:Type} {σ0 fs:L2.St} {K:W.Frag} (S:Hp->Hp->Hp) (Z:Addr->Hp->Hp) (as:List α) (dx:α->PyData) (dy:α->Option PyData) (h0:σ0=List.replicate k none++fs) (hl:H1 l=some (.lst xs)) (ht:Trs H1 xs (as.map dx)) (hz:as.length<=sizeLine)
  (z1:∀ D H H3 o,H1 D=none->Same H1 H->H D=some o->Same H H3->Same (Z D H) (Z D H3)) (z2:∀ D H H3 o zs,H1 D=none->Same H1 H->H D=some o->Same H H3->Same (S H H3) (Z D (upd H3 D (.lst zs))))
  (z3:∀ D H o zs,H1 D=none->Same H1 H->H D=some o->Same (Z D H) (Z D (upd H D (.lst zs))))
  (step:∀ a,a∈as->∀ H (ts:L2.St) v (R:Option V->L2.St->Hp->Prop),Same H1 H->ts.length=k->Tr H v (dx a)->Tr H1 v (dx a)->(∀ d y (ts2:L2.St) H3,dy a=some d->ts2.length=k->Same H H3->Tr (S H H3) y d->R (some y) (ts2++fs) H3)->(dy a=none->∀ (ts2:L2.St) H3,ts2.length=k->Same H H3->R none (ts2++fs) H3) ->
   g v (ts++fs) H λ τ2 H2=>tc τ2 H2 λ ok H3=>if ok=true then te τ2 H3 λ y H4=>R (some y) τ2 H4 else R none τ2 H3)
  (fin:∀ D H' ys,H1 D=none->Same H1 H'->H' D=some (.lst ys)->Trs (Z D H') ys (as.filterMap dy)->Q (.ref D) H'):a6n σ0 (Itl K l) g tc te Q H1:=by
 have hn:xs.length=as.length:=by rw[ht.len,z04]
 intro D hD;refine⟨λ i m ys τ H=>m=as.length - i/\i<=as.length/\ys.length<=i/\Trs (Z D H) ys ((as.take i).filterMap dy)/\(∃ ts:L2.St,ts.length=k/\τ=ts++fs)/\Same H1 H/\H D=some (.lst ys),⟨as.length,rfl,z0m _,z05 _,.nil,⟨_,z3n,h0⟩,Same.upd hD,a0b⟩,?_⟩;rintro i m ys τ H ⟨rfl,hi,hyl,hp,⟨ts,hts,rfl⟩,ss,hd⟩;refine⟨hd,?_⟩;by_cases hlt:i < as.length
 ·refine .inr ⟨(a2h (SqL.of (ss _ _ hl))).go i (by lia),by lia,?_⟩;rintro v H' ⟨rfl,yy⟩;have e:=yy xs (SqL.of (ss _ _ hl));obtain⟨d,hde,tr⟩:=ht.get e;have ea:=z0o hlt;rw[z09,ea] at hde;cases hde;refine step as[i] (z3j hlt) H' ts v (λ o τ2 H3=>match o with
   | some y=>H3 D=some (.lst ys)/\∃ m',m' < as.length - i/\m'=as.length - (i+1)/\i+1<=as.length/\(ys++[y]).length<=i+1/\Trs (Z D (upd H3 D (.lst (ys++[y])))) (ys++[y]) ((as.take (i+1)).filterMap dy)/\(∃ ts:L2.St,ts.length=k/\τ2=ts++fs)/\Same H1 (upd H3 D (.lst (ys++[y])))/\upd H3 D (.lst (ys++[y])) D=some (.lst (ys++[y]))
   | none=>∃ m',m' < as.length - i/\m'=as.length - (i+1)/\i+1<=as.length/\ys.length<=i+1/\Trs (Z D H3) ys ((as.take (i+1)).filterMap dy)/\(∃ ts:L2.St,ts.length=k/\τ2=ts++fs)/\Same H1 H3/\H3 D=some (.lst ys)) ss hts (tr.same ss) tr (λ d y ts2 H3 hy h2 s3 tr3=>?_) λ hy ts2 H3 h2 s3=>?_
  ·refine⟨s3 _ _ hd,as.length - (i+1),by lia,rfl,hlt,(by rw[z0j,z5u];lia),?_,⟨ts2,h2,rfl⟩,(ss.trans s3).again hD,a0b⟩;rw[z0v,ea,z2l];refine((hp.same (z1 D H' H3 _ hD ss hd s3)).same (z3 D H3 _ _ hD (ss.trans s3) (s3 _ _ hd))).app ?_;show Trs _ [y] (List.filterMap dy [as[i]]);rw[z1o,hy];exact .cons (tr3.same (z2 D H' H3 _ _ hD ss hd s3)) .nil
  ·refine⟨as.length - (i+1),by lia,rfl,hlt,by lia,?_,⟨ts2,h2,rfl⟩,ss.trans s3,s3 _ _ hd⟩;rw[z0v,ea,z2l];have e0:List.filterMap dy (some as[i]).toList=[]:=by
    show List.filterMap dy [as[i]]=[];rw[z1o,hy];rfl
   rw[e0,z19];exact hp.same (z1 D H' H3 _ hD ss hd s3)
 ·have e:i=as.length:=by lia
  subst e;rw[z0x] at hp;exact .inl ⟨(a2h (SqL.of (ss _ _ hl))).stop _ (by lia),fin D H ys hD ss hd hp⟩
theorem b0s (e:d7s H D b=some o):b≠D/\H b=some o:=by
 unfold d7s at e;split at e
 ·cases e
 ·next h=>exact⟨h,e⟩
theorem c0z (h:b≠D) (e:H b=some o):d7s H D b=some o:=by
 unfold d7s;rw[z01 h];exact e
theorem e4f {α:Type} {σ0 fs:L2.St} {K:W.Frag} (as:List α) (dx:α->PyData) (dy:α->Option PyData) (h0:σ0=List.replicate k none++fs) (hl:H1 l=some (.lst xs)) (ht:Trs H1 xs (as.map dx)) (hz:as.length<=sizeLine)
  (step:∀ a,a∈as->∀ H (ts:L2.St) v (R:Option V->L2.St->Hp->Prop),Same H1 H->ts.length=k->Tr H v (dx a)->(∀ d y (ts2:L2.St) H3,dy a=some d->ts2.length=k->Same H H3->Tr (off H H3) y d->R (some y) (ts2++fs) H3)->(dy a=none->∀ (ts2:L2.St) H3,ts2.length=k->Same H H3->R none (ts2++fs) H3) ->
   g v (ts++fs) H λ τ2 H2=>tc τ2 H2 λ ok H3=>if ok=true then te τ2 H3 λ y H4=>R (some y) τ2 H4 else R none τ2 H3)
  (fin:∀ D H' ys,H1 D=none->Same H1 H'->H' D=some (.lst ys)->Trs (off H1 H') ys (as.filterMap dy)->Q (.ref D) H'):a6n σ0 (Itl K l) g tc te Q H1 :=
 e5v (λ H H3=>off H H3) (λ D H=>d7s (off H1 H) D) as dx dy h0 hl ht hz (λ D H H3 o hD s1 hd s3 b ob e=>c0z (b0s e).1 (d2q s3 _ _ (b0s e).2))
  (λ D H H3 o zs hD s1 hd s3 b ob e=>by
   have hb:b≠D:=λ z=>by rw[z] at e;rw[(a3k e).1] at hd;cases hd
   exact c0z hb (b8u (a3k (d4m s1 _ _ e)).1 (by rw[a0g hb];exact(a3k e).2)))
  (λ D H o zs hD s1 hd b ob e=>c0z (b0s e).1 (b8u (a3k (b0s e).2).1 (by rw[a0g (b0s e).1];exact(a3k (b0s e).2).2)))
  (λ a ha H ts v R ss hts tr _ cs cn=>step a ha H ts v R ss hts tr cs cn) λ D H' ys hD ss hd ht=>fin D H' ys hD ss hd (ht.same d2k)
theorem e3q {X:Cx} {K:W.Frag} {o e:Expr} {es:List Expr} {to:TE} {t:TA} {name:Str} {apos cpos:Pos} {T id:String} {r:V->List V->Hp->VK->Prop} (hK:X.K=K) (pa:PlainAttrs T) (slot:Slot T name id) (hty:typeOf (.builtin id)=pure (.type "method_descriptor")) (hm:MtR X id r) (ho:PE X o to) (ha:PA X (e::es) t)
  (hbase:attributeBase o name X.env (eval o X.env)=eval o X.env:=by rfl)
  (hfew:((backTo cpos (starEach (e::es) X.env)).all (λ x=>!x.1) && (backToKw cpos (keywordEach [] X.env)).all (λ x=>x.1.isSome)
   && decide ((e::es).length+([]:List Keyword).length+(if ([]:List Keyword).isEmpty then 0 else 1) < 30))=true:=by rfl)
  (hline:(apos.endLine == cpos.line)=true:=by rfl) (hs:starEach (e::es) X.env=(false,eval e X.env)::starEach es X.env:=by rfl) (hplain:(backTo cpos (starEach es X.env)).any (·.1)=false:=by rfl) :
  PE X (.Call (.Attribute o name apos) (e::es) [] cpos) (tBM K T r to t):=by
 subst hK;exact a4q pa slot hty hm ho ha hbase hfew hline hs hplain
end My
namespace My
open PySem PySem.W PyProof.Rows
theorem us1 {α:Type} {us:List α} (h:us.length=1):∃ a,us=[a]:=z1g.mp h
theorem us2 {α:Type} {us:List α} (h:us.length=2):∃ a b,us=[a,b]:=by
 obtain⟨a,t,rfl⟩:=z69 h;obtain⟨b,rfl⟩:=us1 (Nat.succ.inj h);exact nx2 a b rfl
theorem us3 {α:Type} {us:List α} (h:us.length=3):∃ a b c,us=[a,b,c]:=by
 obtain⟨a,t,rfl⟩:=z69 h;obtain⟨b,c,rfl⟩:=us2 (Nat.succ.inj h);exact nx10 a b c rfl
theorem us4 {α:Type} {us:List α} (h:us.length=4):∃ a b c d,us=[a,b,c,d]:=by
 obtain⟨a,t,rfl⟩:=z69 h;obtain⟨b,c,d,rfl⟩:=us3 (Nat.succ.inj h);exact nx2 a b (nx2 c d rfl)
theorem us5 {α:Type} {us:List α} (h:us.length=5):∃ a b c d e,us=[a,b,c,d,e]:=by
 obtain⟨a,t,rfl⟩:=z69 h;obtain⟨b,c,d,e,rfl⟩:=us4 (Nat.succ.inj h);exact nx2 a b (nx10 c d e rfl)
end My
namespace My
open PySem PySem.SetTable
theorem a9s {α:Type} [DecidableEq α]:∀ {l m:List α},l.Nodup->(∀ x∈l,x∈m)->l.length<=m.length
 | [],_,_,_=>z0m _
 | a::r,m,h,s=>by
  obtain⟨h1,h2⟩:=z1f.mp h;have ha:a∈m:=s a z1p;have:=a9s (m:=m.erase a) h2 λ x hx=>(List.mem_erase_of_ne (λ (e:x=a)=>h1 (by rw[<-e];exact hx))).mpr (s x (z1j _ hx))
  rw[List.length_erase_of_mem ha] at this;have:=List.length_pos_of_mem ha;rw[z17];lia
def LS (mask:Nat) (h:Int):Nat->Nat×Nat
 | 0=>(bits h%(mask+1),bits h)
 | r+1=>leap mask (LS mask h r).1 (LS mask h r).2
def rl (mask i:Nat):Nat:=runEnd mask i - i
def e6u (mask:Nat):Prop:=mask=7\/mask=31\/mask=127
def Ps (mask:Nat) (h:Int) (r k:Nat):Nat:=(LS mask h r).1+k
def Bef (mask:Nat) (h:Int) (ok:Nat->Prop) (r k:Nat):Prop:=(∀ r',r' < r->∀ k',k'<=rl mask (LS mask h r').1->ok (Ps mask h r' k'))/\∀ k',k' < k->ok (Ps mask h r k')
structure TT (t:SetTable) (es:List (Int×Value)):Prop where
 size:e6u t.mask
 up:Ris t.place
 nd:t.dummies=#[]
 within:∀ j∈t.place.toList,j<=t.mask
 len:t.place.toList.length=es.length
 fnd:∀ j e,(j,e)∈t.place.toList.zip es->∃ r k,k<=rl t.mask (LS t.mask e.1 r).1/\Ps t.mask e.1 r k=j/\Bef t.mask e.1 (·∈t.place.toList) r k
theorem b5j {α:Type} [DecidableEq α]:∀ {l m:List α},l.Nodup->m.Nodup->(∀ x,x∈l ↔ x∈m)->l.Perm m
 | [],m,_,_,h=>by
  cases m with
  | nil=>exact .nil
  | cons a r=>exact absurd ((h a).mpr z1p) (by simp)
 | a::r,m,hl,hm,h=>by
  obtain⟨h1,h2⟩:=z1f.mp hl;have ha:a∈m:=(h a).mp z1p;refine List.Perm.trans (.cons a (b5j h2 (hm.erase a) λ x=>?_)) (List.perm_cons_erase ha).symm;constructor
  ·intro hx;exact(List.mem_erase_of_ne (λ (e:x=a)=>h1 (by rw[<-e];exact hx))).mpr ((h x).mp (z1j _ hx))
  ·intro hx;have hne:x≠a:=λ e=>(hm.not_mem_erase) (e ▸ hx)
   rcases z0a.mp ((h x).mpr (List.mem_of_mem_erase hx)) with z | z
   ·exact absurd z hne
   ·exact z
def Occ (ow:Array (Option Nat)) (j:Nat):Prop:=∃ m,ow[j]?=some (some m)
structure LI (mask:Nat) (hs:List Int) (ow:Array (Option Nat)):Prop where
 sz:ow.size=mask+1
 at_:∀ (j m:Nat),ow[j]?=some (some m)->∃ z,hs[m]?=some z/\∃ r k,k<=rl mask (LS mask z r).1/\Ps mask z r k=j/\Bef mask z (Occ ow) r k
 one:∀ (j j' m:Nat),ow[j]?=some (some m)->ow[j']?=some (some m)->j=j'
 all:∀ (m:Nat),m < hs.length->∃ (j:Nat),ow[j]?=some (some m)
theorem LI.nil (mask:Nat):LI mask [] (Array.replicate (mask+1) none):=by
 have no:∀ (j m:Nat),(Array.replicate (mask+1) (none:Option Nat))[j]?=some (some m)->False:=λ j m e=>by
  rw[Array.getElem?_replicate] at e;split at e<;>cases e
 exact⟨by simp,λ j m e=>(no j m e).elim,λ j j' m e=>(no j m e).elim,λ m h=>absurd h (z4w _)⟩
end My
namespace My
open PySem PySem.Spec PyProof.Rows L2 PyProof PySem.SeqAt
def KpT (h h':Heap):Prop:=∀ b o xs n,h.get? b=some o->o.cls=.type "tuple"->o.data=.seq xs n->h'.get? b=some o
structure HVK (K:Type) [DecidableEq K] where
 is:Heap->K->Value->Prop
 hash:K->Int
 d:Nat
 inj:∀ {h:Heap} {x y:K} {v:Value},is h x v->is h y v->x=y
 keep:∀ {h h':Heap} {k:K} {v:Value},is h k v->KpT h h'->is h' k v
 pyHash:∀ {prog:Program} {w:World} {A:Around} {E:Value->Shared->Prop} {s:Shared} {k:K} {v:Value} {Q:Int->Shared->Prop},A.units+d < cLine->is s.heap k v->(∀ tk,Q (hash k) {s with toks:=tk})->wpAny (model prog w) A (PySem.pyHash v) Q E s
 eq:∀ {A:Around} {s:Shared} {x y:K} {u v:Value},A.units+d < cLine->is s.heap x u->is s.heap y v->EqAt A s u v (decide (x=y))
 quiet:∀ {prog:Program} {w:World} {A:Around} {E:Value->Shared->Prop} {s:Shared} {k:K} {v:Value} {Q:Bool->Shared->Prop} (n:Nat),d<=n->is s.heap k v->Q true s->wpAny (model prog w) A (eqIsQuiet n v) Q E s
 cls:∀ {prog:Program} {w:World} {A:Around} {E:Value->Shared->Prop} {s:Shared} {k:K} {v:Value} {Q:Bool->Shared->Prop} (n:Nat),d<=n->is s.heap k v->Q false s->wpAny (model prog w) A (ofAClassStatement n v) Q E s
 byv:∀ {prog:Program} {w:World} {A:Around} {E:Value->Shared->Prop} {s:Shared} {k:K} {v:Value} {Q:Bool->Shared->Prop} (n:Nat),d<=n->is s.heap k v->Q true s->wpAny (model prog w) A (hashByValue n v) Q E s
def HVK.int:HVK Int where
 is:=λ _ k v=>∃ t,v=.int k t
 hash:=hashInt
 d:=0
 inj:=λ ⟨t,e⟩ ⟨t',e'⟩=>by subst e;cases e';rfl
 keep:=λ x _=>x
 pyHash:=λ _ ⟨t,e⟩ h=>by subst e;exact wpAny_pyHash_int (h _)
 eq:=λ _ ⟨t,e⟩ ⟨t',e'⟩ prog w E Q h=>by subst e;subst e';exact wpAny_eqBool_int h
 quiet:=λ n _ ⟨t,e⟩ h=>by
  subst e;rw[eqIsQuiet_byValue n rfl];exact z03 h
 cls:=λ n _ ⟨t,e⟩ h=>by
  subst e;unfold ofAClassStatement;exact z03 h
 byv:=λ n _ ⟨t,e⟩ h=>by
  subst e;unfold hashByValue;exact z03 h
section
variable {K L:Type} [DecidableEq K] [DecidableEq L]
def c1u (h:Heap) (v u u':Value):Prop:=∃ a o n,v=.ref a/\h.get? a=some o/\o.cls=.type "tuple"/\o.data=.seq #[u,u'] n
theorem HVK.pair_hash (V:HVK K) (W:HVK L) (hu:A.units+(max V.d W.d+1) < cLine) (T:c1u s.heap v u u') (hx:V.is s.heap x u) (hy:W.is s.heap y u')
  (h:∀ tk,Q (reduceHash (Builtin.Tuple.tupleHashOf [V.hash x,W.hash y])) {s with toks:=tk}):wpAny (model prog w) A (PySem.pyHash v) Q E s:=by
 obtain⟨a,o,n,rfl,ho,hc,hd⟩:=T;have hT:s.TypeIs (.ref a) "tuple":=⟨o,ho,hc⟩;have h1:A.in1.units+V.d < cLine:=by show A.units+1+V.d < cLine;have:=z5p V.d W.d;lia
 have h2:A.in1.units+W.d < cLine:=by show A.units+1+W.d < cLine;have:=z5j V.d W.d;lia
 unfold PySem.pyHash;unfold pyHashByItsType;refine z00 (wpAny_cRoomFor_or (.inr (by lia)) (z00 (z30 hT z3i.lookup ?_)));refine z00 (z30 hT z3i.lookup ?_);refine z00 (z6t hT z3i (z1q z3i hT F.entry_tuple_hash ?_ (F.args_tuple_hash_1 _)));show wpAny _ _ (Builtin.Tuple.tupleItemsOf (.ref a)>>=λ its=>_) _ _ _;refine z00 (wpAny_tupleItemsOf ho hd (z00 ?_));rw[<-z4t,show (#[u,u']:Array Value).toList=[u,u'] from rfl,z1r];refine z00 (z00 (V.pyHash h1 hx λ tk1=>z03 ?_));show wpAny _ _ (forIn [u'] _ _) _ _ _;rw[z1r];refine z00 (z00 (W.pyHash h2 hy λ tk2=>z03 ?_));refine z03 (show wpAny _ _ (retInt (Builtin.Tuple.tupleHashOf [V.hash x,W.hash y])) _ _ _ from ?_);refine wpAny_ret_mkInt (show wpAny _ _ (if (decide (-(2:Int) ^ 63<=Builtin.Tuple.tupleHashOf [V.hash x,W.hash y]) && decide (Builtin.Tuple.tupleHashOf [V.hash x,W.hash y] < 2 ^ 63))=true then _ else _) Q E _ from ?_);unfold reduceHash at h;by_cases hr:(decide (-(2:Int) ^ 63<=Builtin.Tuple.tupleHashOf [V.hash x,W.hash y]) && decide (Builtin.Tuple.tupleHashOf [V.hash x,W.hash y] < 2 ^ 63))=true
 ·rw[z02 hr] at h ⊢;exact z03 (h _)
 ·rw[z01 hr] at h ⊢;exact z00 (z1s (z03 (h _)))
theorem HVK.pair_eq (V:HVK K) (W:HVK L) (hu:A.units+(max V.d W.d+1) < cLine) (T:c1u s.heap v u1 u2) (T':c1u s.heap v' u1' u2') (hx:V.is s.heap x u1) (hy:W.is s.heap y u2) (hx':V.is s.heap x' u1') (hy':W.is s.heap y' u2') :
  EqAt A s v v' (decide ((x,y)=(x',y'))):=by
 obtain⟨a,o,n,rfl,ho,hc,hd⟩:=T;obtain⟨a',o',n',rfl,ho',hc',hd'⟩:=T';have h1:A.in1.units+V.d < cLine:=by show A.units+1+V.d < cLine;have:=z5p V.d W.d;lia
 have h2:A.in1.units+W.d < cLine:=by show A.units+1+W.d < cLine;have:=z5j V.d W.d;lia
 by_cases haa:a=a'
 ·subst haa;obtain rfl:o=o':=z0r (ho.symm.trans ho');rw[hd] at hd';injection hd' with e _;obtain⟨e1,e2⟩:u1=u1'/\u2=u2':=by simpa using e
  subst e1;subst e2;rw[V.inj hx hx',W.inj hy hy',z08 rfl];exact EqAt.same _
 ·have key:=RcAt.tuples (A:=A) (e:=λ j=>if j=0 then decide (x=x') else decide (y=y')) (nx13 o ho hc n hd) (nx13 o' ho' hc' n' hd') (by lia) λ j j1 j2=>by
   have:j=0\/j=1:=by have:j < 2:=j1;lia
   rcases this with rfl | rfl
   ·exact V.eq h1 hx hx'
   ·exact W.eq h2 hy hy'
  have e:((List.range (min (#[u1,u2]:Array Value).size (#[u1',u2']:Array Value).size)).all (λ j=>if j=0 then decide (x=x') else decide (y=y')) && ((#[u1,u2]:Array Value).size == (#[u1',u2']:Array Value).size))=decide ((x,y)=(x',y')):=by
   show ((List.range 2).all _ && true)=_;rw[show List.range 2=[0,1] from rfl];simp[Bool.decide_and]
  rw[e] at key;exact EqAt.of_refs haa key
theorem HVK.pair_quiet (V:HVK K) (W:HVK L) (n:Nat) (hn:max V.d W.d+1<=n) (T:c1u s.heap v u u') (hx:V.is s.heap x u) (hy:W.is s.heap y u') (h:Q true s):wpAny (model prog w) A (eqIsQuiet n v) Q E s:=by
 obtain⟨a,o,c,rfl,ho,hc,hd⟩:=T;have hT:s.TypeIs (.ref a) "tuple":=⟨o,ho,hc⟩;obtain⟨m,rfl⟩:∃ m,n=m+1:=⟨n - 1,by lia⟩;have h1:V.d<=m:=by have:=z5p V.d W.d;lia
 have h2:W.d<=m:=by have:=z5j V.d W.d;lia
 unfold eqIsQuiet;refine z00 (z30 hT F.slot_tuple_eq.lookup (z00 (z5s hT isSubtype_tuple_tuple ?_)));simp only [Bool.not_true,z36,z2h];refine z00 (z2r ho hd (z00 ?_));show wpAny _ _ (forIn (#[u,u']:Array Value) _ _) _ _ _;rw[<-z4t,show (#[u,u']:Array Value).toList=[u,u'] from rfl,z1r];refine z00 (z00 (V.quiet m h1 hx (z03 ?_)));show wpAny _ _ (forIn [u'] _ _) _ _ _;rw[z1r];exact z00 (z00 (W.quiet m h2 hy (z03 (z03 (z03 h)))))
theorem HVK.pair_cls (V:HVK K) (W:HVK L) (n:Nat) (hn:max V.d W.d+1<=n) (T:c1u s.heap v u u') (hx:V.is s.heap x u) (hy:W.is s.heap y u') (h:Q false s):wpAny (model prog w) A (ofAClassStatement n v) Q E s:=by
 obtain⟨a,o,c,rfl,ho,hc,hd⟩:=T;have hT:s.TypeIs (.ref a) "tuple":=⟨o,ho,hc⟩;obtain⟨m,rfl⟩:∃ m,n=m+1:=⟨n - 1,by lia⟩;have h1:V.d<=m:=by have:=z5p V.d W.d;lia
 have h2:W.d<=m:=by have:=z5j V.d W.d;lia
 unfold ofAClassStatement;refine z00 (z3l hT ?_);refine z00 (z03 (z00 (z2r ho hd (z00 ?_))));rw[<-z4t,show (#[u,u']:Array Value).toList=[u,u'] from rfl,z1r];refine z00 (z00 (V.cls m h1 hx (z03 ?_)));show wpAny _ _ (forIn [u'] _ _) _ _ _;rw[z1r];exact z00 (z00 (W.cls m h2 hy (z03 (z03 (z03 h)))))
theorem HVK.pair_byv (V:HVK K) (W:HVK L) (n:Nat) (hn:max V.d W.d+1<=n) (T:c1u s.heap v u u') (hx:V.is s.heap x u) (hy:W.is s.heap y u') (h:Q true s):wpAny (model prog w) A (hashByValue n v) Q E s:=by
 obtain⟨a,o,c,rfl,ho,hc,hd⟩:=T;have hT:s.TypeIs (.ref a) "tuple":=⟨o,ho,hc⟩;obtain⟨m,rfl⟩:∃ m,n=m+1:=⟨n - 1,by lia⟩;have h1:V.d<=m:=by have:=z5p V.d W.d;lia
 have h2:W.d<=m:=by have:=z5j V.d W.d;lia
 refine z00 (z30 hT z3i.lookup (z00 (z2r ho hd (z00 ?_))));show wpAny _ _ (forIn (#[u,u']:Array Value) _ _) _ _ _;rw[<-z4t,show (#[u,u']:Array Value).toList=[u,u'] from rfl,z1r];refine z00 (z00 (V.byv m h1 hx (z03 ?_)));show wpAny _ _ (forIn [u'] _ _) _ _ _;rw[z1r];exact z00 (z00 (W.byv m h2 hy (z03 (z03 (z03 h)))))
def HVK.pair (V:HVK K) (W:HVK L):HVK (K×L) where
 is:=λ h k v=>∃ u u',c1u h v u u'/\V.is h k.1 u/\W.is h k.2 u'
 hash:=λ k=>reduceHash (Builtin.Tuple.tupleHashOf [V.hash k.1,W.hash k.2])
 d:=max V.d W.d+1
 inj:=λ {h x y v} ⟨u,u',⟨a,o,n,e,ho,hc,hd⟩,hx,hy⟩ ⟨z,z',⟨a',o',n',e',ho',hc',hd'⟩,hx',hy'⟩=>by
  subst e;cases e';obtain rfl:o=o':=z0r (ho.symm.trans ho');rw[hd] at hd';injection hd' with e _;obtain⟨e1,e2⟩:u=z/\u'=z':=by simpa using e
  subst e1;subst e2;exact z1d (V.inj hx hx') (W.inj hy hy')
 keep:=λ {h h' k v} ⟨u,u',⟨a,o,n,e,ho,hc,hd⟩,hx,hy⟩ kp=> nx0 u u' (nx4 a o n e (kp a o _ _ ho hc hd) hc hd) (V.keep hx kp) (W.keep hy kp)
 pyHash:=λ hu ⟨_,_,T,hx,hy⟩ h=>V.pair_hash W hu T hx hy h
 eq:=λ {_ _ x y _ _} hu ⟨_,_,T,hx,hy⟩ ⟨_,_,T',hx',hy'⟩=>V.pair_eq W hu T T' hx hy hx' hy'
 quiet:=λ n hn ⟨_,_,T,hx,hy⟩ h=>V.pair_quiet W n hn T hx hy h
 cls:=λ n hn ⟨_,_,T,hx,hy⟩ h=>V.pair_cls W n hn T hx hy h
 byv:=λ n hn ⟨_,_,T,hx,hy⟩ h=>V.pair_byv W n hn T hx hy h
end
end My
namespace My
open PySem PySem.Spec PyProof.Rows L2 PyProof PySem.SeqAt PySem.SetTable
section
variable {K:Type} [DecidableEq K]
def e5u (V:HVK K) (kf:Value->K) (us:List Value) (h:Heap) (a:Addr) (ks:List K) (led:Bool):Prop :=
 ∃ o es ep t,h.get? a=some o/\o.ExactSet/\o.data=.set es ep t/\TT t es.toList/\t.led=led/\5*es.size < 3*t.mask/\(∀ e∈es.toList,e.2∈us/\e.1=V.hash (kf e.2))/\(es.toList.map λ e=>kf e.2).Perm ks
theorem TT.fits {es:Array (Int×Value)} (T:TT t es.toList) (few:es.size<=t.mask):t.fits es.size=true:=by
 have e:t.place.size=es.size:=by have:=T.len;simpa using this
 unfold SetTable.fits SetTable.fill;rw[T.nd,e];simp[few]
variable {prog:Program} {w:World} {A:Around} {E:Value->Shared->Prop} {s:Shared} {V:HVK K} {kf:Value->K} {us:List Value}
end
end My
namespace My
open PySem PySem.Spec PyProof.Rows L2 PyProof PySem.SeqAt
section
variable {K:Type} [DecidableEq K]
variable {prog:Program} {w:World} {A:Around} {E:Value->Shared->Prop} {s:Shared} {V:HVK K} {kf:Value->K} {us:List Value}
theorem e5u.keep (x:e5u V kf us h a ks led) (k:∀ o,h.get? a=some o->h'.get? a=some o):e5u V kf us h' a ks led :=
 let ⟨o,es,ep,t,ho,r⟩:=x
 (nx2 o es (nx9 ep t (k o ho) r))
end
end My
namespace My
open PySem PySem.Spec PySem.W PyProof.Rows L2 PyProof PySem.SeqAt
def InP {α:Type} (n:Nat) (P:α->Prop):KasT α->Prop
 | .ret a=>P a
 | .ask i j k=>i < n/\j < n/\∀ b,InP n P (k b)
theorem InP.bind {P:α->Prop} {R:β->Prop} {g:α->KasT β} (hg:∀ a,P a->InP n R (g a)):∀ t:KasT α,InP n P t->InP n R (t.bind g)
 | .ret a,h=>hg a h
 | .ask _ _ k,h=>⟨h.1,h.2.1,λ b=>InP.bind hg (k b) (h.2.2 b)⟩
def Low (n:Nat) (p:Array Nat):Prop:=0 < n/\∀ x∈p.toList,x < n
theorem Low.at (l:Low n p) (i:Nat):p.getD i 0 < n:=by
 by_cases h:i < p.size
 ·have e:p.getD i 0=p[i]:=by simp[Array.getD,h]
  rw[e];exact l.2 _ (by simp)
 ·have e:p.getD i 0=0:=by simp[Array.getD,h]
  rw[e];exact l.1
theorem Low.perm (l:Low n p) (h:q.Perm p):Low n q:=⟨l.1,λ x hx=>l.2 x (h.toList.mem_iff.mp hx)⟩
structure VO (K:Type) [DecidableEq K] extends HVK K where
 lt:K->K->Bool
 irr:∀ x,lt x x=false
 tr:∀ x y z,lt x y=true->lt y z=true->lt x z=true
 tot:∀ x y,x≠y->lt x y=false->lt y x=true
 T:Value
 rfT:(T == T)=true
 typ:∀ {h:Heap} {k:K} {v:Value} (M:Model),is h k v->Looks M h (typeOf v) T
 one:∀ {prog:Program} {w:World} {A:Around} {E:Value->Shared->Prop} {s:Shared} {x y:K} {u v:Value} {Q:Bool->Shared->Prop} (b:Bool),(b=true->(T != Value.type "tuple")=true)->A.units+d < cLine->is s.heap x u->is s.heap y v->Q (lt x y) s->wpAny (model prog w) A (oneLt' b u v) Q E s
def ltP {K L:Type} [DecidableEq K] [DecidableEq L] (f:K->K->Bool) (g:L->L->Bool) (a b:K×L):Bool:=if a.1=b.1 then g a.2 b.2 else f a.1 b.1
section
variable {K L:Type} [DecidableEq K] [DecidableEq L]
theorem d0k (V:VO K) (W:VO L) (x:K×L):ltP V.lt W.lt x x=false:=by unfold ltP;rw[z02 rfl];exact W.irr _
theorem d5w (V:VO K) (W:VO L) (x y z:K×L) (h:ltP V.lt W.lt x y=true) (h':ltP V.lt W.lt y z=true):ltP V.lt W.lt x z=true:=by
 unfold ltP at *;by_cases e:x.1=y.1
 ·rw[z02 e] at h;by_cases e':y.1=z.1
  ·rw[z02 e'] at h';rw[z02 (e.trans e')];exact W.tr _ _ _ h h'
  ·rw[z01 e'] at h';rw[z01 (λ q=>e' (e.symm.trans q)),e];exact h'
 ·rw[z01 e] at h;by_cases e':y.1=z.1
  ·rw[z01 (λ q=>e (q.trans e'.symm)),<-e'];exact h
  ·rw[z01 e'] at h';have t:=V.tr _ _ _ h h';rw[z01 λ q=>?_]
   ·exact t
   ·rw[q,V.irr] at t;cases t
theorem c7c (V:VO K) (W:VO L) (x y:K×L) (n:x≠y) (h:ltP V.lt W.lt x y=false):ltP V.lt W.lt y x=true:=by
 unfold ltP at *;by_cases e:x.1=y.1
 ·rw[z02 e] at h;rw[z02 e.symm];exact W.tot _ _ (λ q=>n (z1d e q)) h
 ·rw[z01 e] at h;rw[z01 (λ q=>e q.symm)];exact V.tot _ _ e h
def VO.int:VO Int where
 toHVK:=HVK.int
 lt:=λ a b=>decide (a < b)
 irr:=λ x=>by simp
 tr:=λ x y z h h'=>by simp only [z2d] at *;lia
 tot:=λ x y n h=>by simp only [z2d,decide_eq_false_iff_not] at *;lia
 T:=.type "int"
 rfT:=by decide
 typ:=λ M ⟨t,e⟩=>by
  subst e;intro A Q E s _ q;exact z3l (T:="int") rfl q
 one:=λ b _ _ ⟨t,e⟩ ⟨t',e'⟩ h=>by
  subst e;subst e';cases b with
  | true=>exact oneLt_int h
  | false=>exact kat_one _ _ (lt_int h)
def VO.node:VO (Int×Int) where
 toHVK:=HVK.int.pair HVK.int
 lt:=ltP VO.int.lt VO.int.lt
 irr:=d0k VO.int VO.int
 tr:=d5w VO.int VO.int
 tot:=c7c VO.int VO.int
 T:=.type "tuple"
 rfT:=by decide
 typ:=λ M ⟨u,u',⟨a,o,n,e,ho,hc,hd⟩,_⟩=>by
  subst e;intro A Q E s k q;exact z3l (T:="tuple") ⟨o,k a o ho,hc⟩ q
 one:=λ {prog w A E s x y u v Q} b hb hu ⟨u1,u2,⟨a,o,n,e,ho,hc,hd⟩,⟨t1,e1⟩,⟨t2,e2⟩⟩ ⟨v1,v2,⟨a',o',n',e',ho',hc',hd'⟩,⟨t1',e1'⟩,⟨t2',e2'⟩⟩ h=>by
  subst e;subst e';subst e1;subst e2;subst e1';subst e2';cases b with
  | true=>exact absurd (hb rfl) (by decide)
  | false =>
   refine kat_one _ _ (HT.lt_tupInts (ns:=[x.1,x.2]) (ms:=[y.1,y.2]) (nx13 o ho hc n hd) (nx13 o' ho' hc' n' hd') (.cons _ _ (.cons _ _ .nil)) (.cons _ _ (.cons _ _ .nil)) (by lia) ?_);have el:HT.lexLt [x.1,x.2] [y.1,y.2]=ltP VO.int.lt VO.int.lt x y:=by
    unfold ltP;rw[HT.lexLt_cons,HT.lexLt_cons,HT.lexLt_nil_nil];by_cases q:x.1=y.1
    ·rw[z02 q,z02 q];by_cases q2:x.2=y.2
     ·rw[z02 q2,q2];exact(VO.int.irr _).symm
     ·rw[z01 q2];rfl
    ·rw[z01 q,z01 q];rfl
   rw[el];exact h
def b4n (lt:K->K->Bool) (ks:List K) (k:K):Nat:=(ks.filter λ x=>lt x k).length
theorem c1f {lt:K->K->Bool} (irr:∀ x,lt x x=false) (tr:∀ x y z,lt x y=true->lt y z=true->lt x z=true) (tot:∀ x y,x≠y->lt x y=false->lt y x=true) (ha:a∈ks) :
  decide (((b4n lt ks a:Nat):Int) < (b4n lt ks b:Nat))=lt a b:=by
 have mono:∀ {a b:K} (l:List K),(∀ x,lt x a=true->lt x b=true)->(l.filter λ x=>lt x a).length<=(l.filter λ x=>lt x b).length:=by
  intro a b l h;induction l with
  | nil=>exact z05 _
  | cons x r ih =>
   rw[z3b,z3b];by_cases q:lt x a=true
   ·rw[z02 q,z02 (h x q)];exact Nat.succ_le_succ ih
   ·rw[z01 q];split
    ·exact Nat.le_succ_of_le ih
    ·exact ih
 cases hl:lt a b with
 | true =>
  have key:∀ l:List K,a∈l->(l.filter λ x=>lt x a).length < (l.filter λ x=>lt x b).length:=by
   intro l;induction l with
   | nil=>intro h;cases h
   | cons x r ih =>
    intro h;rw[z3b,z3b];rcases z0a.mp h with z | z
    ·subst z;rw[z01 (by rw[irr];exact z1k),z02 hl];exact Nat.lt_succ_of_le (mono r λ y hy=>tr _ _ _ hy hl)
    ·have:=ih z;by_cases q:lt x a=true
     ·rw[z02 q,z02 (tr _ _ _ q hl)];exact Nat.succ_lt_succ this
     ·rw[z01 q];split
      ·exact z5a this
      ·exact this
  have:=key ks ha;exact z08 (by unfold b4n;lia)
 | false =>
  have:(ks.filter λ x=>lt x b).length<=(ks.filter λ x=>lt x a).length:=mono ks λ x hx=>by
   by_cases q:a=b
   ·rw[q];exact hx
   ·exact tr _ _ _ hx (tot a b q hl)
  exact z0n (by unfold b4n;lia)
end
abbrev Nk:=Int×Int
def ltN (a b:Nk):Bool:=ltP VO.int.lt VO.int.lt a b
def NdV (H:Hp) (v:V) (n:Nk):Prop:=∃ p,v=.ref p/\H p=some (.tup [.int n.1,.int n.2])
def PrV (H:Hp) (v:V) (k:Nk×Nk):Prop:=∃ p u u',v=.ref p/\H p=some (.tup [u,u'])/\NdV H u k.1/\NdV H u' k.2
section
variable {X:Cx} {pins:List (Addr×Obj)} {σ:L2.St} {H:Hp} {s:Shared}
theorem d3y (I:Inv X pins σ H s) (h:NdV H v n) (r:a2d v u):(VO.int.toHVK.pair VO.int.toHVK).is s.heap n u:=by
 obtain⟨p,rfl,e⟩:=h;obtain rfl:u=Value.ref p:=r;obtain⟨its,rv,⟨o,e1,e2,c,e3⟩,_⟩:=I.tuple (SqT.of e);cases rv with
 | cons r1 t =>
  cases t with
  | cons r2 t2 =>
   cases t2;exact nx0 _ _ (nx4 p o c rfl e1 e2 e3) r1 r2
theorem b3z:∀ (js:List α) (out:List Value),js.length=out.length->(∀ p∈js.zip out,∃ x,a2d x p.2/\R x p.1)->∃ ys,a2e ys out/\Paired R ys js
 | [],[],_,_=>⟨[],.nil,.nil⟩
 | [],_::_,h,_=>by cases h
 | _::_,[],h,_=>by cases h
 | j::js,o::out,h,f=>by
  obtain⟨x,rx,kx⟩:=f (j,o) (by rw[z60];exact z1p);obtain⟨ys,a,b⟩:=b3z js out (Nat.succ.inj h) λ p hp=>f p (by rw[z60];exact z1j _ hp)
  exact⟨x::ys,.cons rx a,.cons kx b⟩
end
end My
namespace My
open PySem PySem.Spec PyProof.Rows L2 PyProof
def d6c (h:Heap) (d:Addr) (es:Array DictEntry) (ep:Nat):Prop:=∃ o,h.get? d=some o/\o.ExactDict/\o.data=.dict es ep
section
variable {prog:Program} {w:World} {A:Around} {E:Value->Shared->Prop} {s:Shared} {it d v:Addr} {es:Array DictEntry} {i ep:Nat}
theorem d6c.typeIs (x:d6c s.heap d es ep):s.TypeIs (.ref d) "dict":=let ⟨o,ho,hc,_⟩:=x;⟨o,ho,hc.1⟩
theorem d6k (hd:(d == sysModules)=false) (hm:d6c s.heap d es ep)
  (hQ:Q (.ref s.heap.objs.size) {s with heap:=s.heap.push {cls:=.type "dict_keyiterator",data:=.fields #[.ref d,.int 0 0,.int es.size 0,.int ep 0]}}):wpAny (model prog w) A (pyIter (.ref d)) Q E s:=by
 obtain⟨o,ho,hc,hdat⟩:=id hm;have hT:=hm.typeIs;refine wpAny_pyIter_slot hT F.slot_dict_iter (z1q F.slot_dict_iter hT F.entry_dict_iter ?_ (F.args_dict_iter_1 _));refine z00 (z00 (z66 hT (z03 (show wpAny _ _ (Builtin.Dict.showsAll d>>=_) _ _ s from ?_))));unfold Builtin.Dict.showsAll;rw[z01 (by rw[hd];exact z1k)];exact z00 (z03 (z00 (z68 ho hdat (z00 (wpAny_dictEpoch ho hdat (z00 (z4s (z03 (nx7 _ rfl ("dict_keyiterator") _ ⟨_,z0t _ rfl,rfl⟩ z5l.lookup (by simpa [rawInt] using hQ))))))))))
theorem d4a (hit:s.heap.IsKeyIter it d i es.size ep) (hm:d6c s.heap d es ep) (hx:es[i]?=some e)
  (hQ:∀ h',h'.IsKeyIter it d (i+1) es.size ep->Heap.SameBut it s.heap h'->Q (some e.key) {s with heap:=h'}):wpAny (model prog w) A (pyNext (.ref it)) Q E s:=by
 obtain⟨o,ho,hc,hd⟩:=id hit;obtain⟨od,hod,hcd,hdd⟩:=id hm;obtain⟨hlt,rfl⟩:=z6y.mp hx;refine z00 (z34 (z43 hit.typeIs z5l (z1q z5l hit.typeIs F.entry_dict_keyiterator_next ?_ (F.args_dict_keyiterator_next_1 _))));refine z00 (z03 (z00 (z00 (z00 (z6j hit.typeIs (z03 (z00 (z59 ho hd ?_))))))));refine z00 (z03 (z00 (z68 hod hdd ?_)));rw[z01 (by simp)];refine z00 (z03 (z00 (wpAny_dictEpoch hod hdd ?_)));rw[z01 (by simp)];refine z03 ?_;simp only [show ¬ ((i:Int) < 0) from by lia,z2h,z25,z2p hlt];refine z00 (z00 (z6j hit.typeIs (z03 (z00 (wpAny_isOneOf_keyiter hit.typeIs (show wpAny _ _ (setField (.ref it) 1 (rawInt ((i:Int)+1))>>=_) _ _ s from z00 (z3z ho hd (by simp) ?_)))))));have hit':(s.heap.update it (Obj.mapFields (·.setIfInBounds 1 (rawInt ((i:Int)+1))))).IsKeyIter it d (i+1) es.size ep :=
  ⟨_,z4k _ ho (Obj.isFreed_of_fields (z3w hd _)),(z6i ..).trans hc,by rw[z3w hd];simp[rawInt]⟩
 refine z00 (z1n (z00 (wpAny_isOneOf_keyiter hit'.typeIs (?_))));exact z03 (z03 ⟨_,rfl,z03 (hQ _ hit' (z2i ..))⟩)
theorem d8z (hh:A.handled=none) (hit:s.heap.IsKeyIter it d i es.size ep) (hm:d6c s.heap d es ep) (hx:es.size<=i)
  (hQ:∀ h',(∀ b o,b≠it->s.heap.get? b=some o->h'.get? b=some o)->Q none {s with heap:=h'}):wpAny (model prog w) A (pyNext (.ref it)) Q E s:=by
 obtain⟨o,ho,hc,hd⟩:=id hit;obtain⟨od,hod,hcd,hdd⟩:=id hm;refine z00 (z34 (z43 hit.typeIs z5l (z1q z5l hit.typeIs F.entry_dict_keyiterator_next ?_ (F.args_dict_keyiterator_next_1 _))));refine z00 (z03 (z00 (z00 (z00 (z6j hit.typeIs (z03 (z00 (z59 ho hd ?_))))))));refine z00 (z03 (z00 (z68 hod hdd ?_)));rw[z01 (by simp)];refine z00 (z03 (z00 (wpAny_dictEpoch hod hdd ?_)));rw[z01 (by simp)];refine z03 ?_;simp only [show ¬ ((i:Int) < 0) from by lia,z2h,z25,z5i hx];refine z00 (z00 (z6j hit.typeIs (z03 (show wpAny _ _ (setField (.ref it) 0 .none>>=_) _ _ s from z00 (z3z ho hd (by simp) ?_)))));exact b6q hh λ h' k=>hQ h' λ b o hb e=>k b o ((z4c _ _ (z1t hb)).trans e)
end
theorem b3n {K:Type} [DecidableEq K] (xs:List (K×Addr×Value)) (k:K) (a:Addr) (v:Value):(storedH xs k a v).length<=xs.length+1:=by
 unfold storedH;split<;>simp
def a2i {K:Type} [DecidableEq K] (xs:List (K×Addr×Value)) (ps:List (K×Addr×Value)):List (K×Addr×Value):=ps.foldl (λ a q=>storedH a q.1 q.2.1 q.2.2) xs
inductive e5a (K:W.Frag) (H:Hp):List V->List (List Key×V)->Prop where
 | nil:e5a K H [] []
 | cons {t b:Addr} {q:List Key×V} {ws:List V} {ps:List (List Key×V)} (h:SqT K H t [.ref b,q.2]) (hb:H b=some (.tup (q.1.map kV))) (r:e5a K H ws ps):e5a K H (.ref t::ws) (q::ps)
theorem u16 {A:Around} (h:A.units+64 < cLine):A.units+16 < cLine:=by lia
end My
namespace My
open PySem PySem.Spec PySem.W PyProof.Rows L2 PyProof PySem.SeqAt
abbrev Tk:=Int×Int×Int
def ltT (a b:Tk):Bool:=ltP VO.int.lt VO.node.lt a b
theorem c7h (x:Tk):ltT x x=false:=d0k VO.int VO.node x
theorem c8g (x y z:Tk) (h:ltT x y=true) (h':ltT y z=true):ltT x z=true:=d5w VO.int VO.node x y z h h'
theorem c1e (x y:Tk) (n:x≠y) (h:ltT x y=false):ltT y x=true:=c7c VO.int VO.node x y n h
def IsT (h:Heap) (k:Tk) (v:Value):Prop:=∃ (a:Addr) (o:Obj) (n:Nat) (t1 t2 t3:Tok),v=.ref a/\h.get? a=some o/\o.cls=.type "tuple"/\o.data=.seq #[.int k.1 t1,.int k.2.1 t2,.int k.2.2 t3] n
theorem IsT.keep (x:IsT h k v) (kp:KpT h h'):IsT h' k v:=let ⟨a,o,n,t1,t2,t3,e,ho,hc,hd⟩:=x; (nx2 a o (nx30 n t1 t2 t3 e (kp a o _ n ho hc hd) hc hd))
def TrV (H:Hp) (v:V) (k:Tk):Prop:=∃ p,v=.ref p/\H p=some (.tup [.int k.1,.int k.2.1,.int k.2.2])
section
variable {X:Cx} {pins:List (Addr×Obj)} {σ:L2.St} {H:Hp} {s:Shared}
theorem e0x (I:Inv X pins σ H s) (h:TrV H v k) (r:a2d v u):IsT s.heap k u:=by
 obtain⟨p,rfl,e⟩:=h;obtain rfl:u=Value.ref p:=r;obtain⟨its,rv,⟨o,e1,e2,c,e3⟩,_⟩:=I.tuple (SqT.of e);cases rv with
 | cons r1 t =>
  cases t with
  | cons r2 t2 =>
   cases t2 with
   | cons r3 t3 =>
    cases t3;obtain⟨t1,rfl⟩:=r1;obtain⟨t2,rfl⟩:=r2;obtain⟨t3,rfl⟩:=r3;exact nx2 p o (nx30 c t1 t2 t3 rfl e1 e2 e3)
theorem e3a (hu:X.A.units+64 < cLine):OpR X (compareOp .NotEq) (λ x y H Q=>∃ a b kvs,x=.ref a/\y=.ref b/\Rd H a (.dK kvs)/\Rd H b (.dK [])/\Q (.bl (!kvs.isEmpty)) H):=by
 intro pins s σ H x y v u Q I rx ry h;obtain⟨a,b,kvs,rfl,rfl,ha,hb,q⟩:=h;cases rx;cases ry;obtain⟨_,ma,va,ra,da⟩:=b6d I.hok ha;obtain⟨_,mb,vb,rb,db⟩:=b6d I.hok hb;have lb:vb.length=0:=by rw[<-rb.length];rfl
 cases kvs with
 | nil =>
  have la:va.length=0:=by rw[<-ra.length];rfl
  have ea:=z2v.mp la;subst ea;refine W.keq_ne ma mb da db (z4n (z5k _ _) hu) (λ _=>e6f λ kv m=>by cases m) ?_;rw[lb];exact nx0 (.bl false) H I rfl q
 | cons p r =>
  have la:va.length=r.length+1:=by rw[<-ra.length];rfl
  refine W.keq_ne (r:=true) ma mb da db (z4n (z5k _ _) hu) (λ z=>by lia) ?_;rw[la,lb];exact nx0 (.bl true) H I rfl q
theorem b8q {K:W.Frag} (hu:X.A.units+16 < cLine) (hK:X.K=K):MtR X "list.index" (λ x xs H Q=>∃ (l:Addr) (ns:List Int) (k:Int),x=.ref l/\xs=[V.int k]/\SqL K H l (ns.map V.int)/\ns.length<=1000/\k∈ns/\Q (.int ((ns.idxOf k:Nat):Int)) H):=by
 subst hK;intro pins s σ H x xs v us Q I rx rv h;obtain⟨l,ns,k,rfl,rfl,hl,few,hk,q⟩:=h;cases rx;obtain⟨u,rfl,t,rfl⟩:=b3r rv;obtain⟨its,r,pl,_⟩:=I.list hl;obtain⟨⟨cls,dd,data,sl⟩,ho,hc,n,hd⟩:=pl.isList;subst hc hd;have hlen:its.length=ns.length:=by rw[<-r.length,z04]
 have hj:=z4e.mpr hk;have at_:∀ (i:Nat) (hi:i < its.length),∃ t',its[i]=Value.int (ns[i]'(by lia)) t':=λ i hi=>by
  obtain⟨y,ey,ry⟩:=a5m r (z0o hi);rw[z09,z0o (by lia)] at ey;cases ey;exact ry
 refine z3r F.slot_list_index ⟨_,ho,rfl⟩ F.entry_list_index (F.args_list_index_2 _ _)
  (list_indexAt l its.toArray n dd sl (.int k t) (λ y=>match y with | .int m _=>decide (m=k) | _=>false) (ns.idxOf k) (by simpa [hlen] using hj) (by lia) ?_ ?_) (⟨ho,λ y hy=>?_,nx0 (.int _) H (I.tok _) ⟨_,rfl⟩ q⟩)
 ·obtain⟨t',e⟩:=at_ (ns.idxOf k) (by lia);rw[List.getElem_toArray,e];exact z08 (z40 hj)
 ·intro m hm hlt;have hm':m < its.length:=by simpa using hm
  obtain⟨t',e⟩:=at_ m hm';rw[List.getElem_toArray,e];refine z0n λ z=>?_
  exact absurd hlt (Nat.not_lt.mpr (by
   have:=List.not_of_lt_findIdx hlt;simp[z] at this))
 ·obtain⟨i,hi,e⟩:=z4r (by simpa using hy:y∈its);obtain⟨t',e'⟩:=at_ i hi;rw[e'] at e;subst e;exact HVK.int.eq (by show X.A.units+1+0 < cLine;lia) ⟨t',rfl⟩ ⟨t,rfl⟩
def rInsertAt:V->List V->Hp->VK->Prop:=λ x vs H Q=>∃ (l:Addr) (xs:List V) (i:Int) (y:V),x=.ref l/\vs=[.int i,y]/\H l=some (.lst xs)/\0<=i/\i<=xs.length/\xs.length < sizeLine /\
 ∀ H',H' l=some (.lst (xs.take i.toNat++y::xs.drop i.toNat))->(∀ b o,b≠l->H b=some o->H' b=some o)->Q .non H'
theorem c2i:MtM X "list.insert" rInsertAt:=by
 intro pins s σ H x vs v us Q I rx rv h;obtain⟨l,xs,i,y,rfl,rfl,hH,h0,h1,hz,q⟩:=h;cases rx;obtain⟨w1,u,rfl,rw1,ru⟩:=d0g rv;obtain⟨t,rfl⟩:=rw1;obtain⟨z,its,n,r,hl,e⟩:=I.lstM hH;have z24:sizeLine=2 ^ 24:=rfl;have fits:¬(!Builtin.List.listFitsIndex i)=true:=by
  unfold Builtin.List.listFitsIndex;rw[z08 (by lia),z08 (by lia)];decide
 refine z3r F.slot_list_insert ⟨_,e,rfl⟩ F.entry_list_insert (F.args_list_insert_3 _ _ _) (AutoSeq1.list_insert_list_int_val_1 l its.toArray n i t u fits (by rw[z0p];lia)) ⟨e,?_⟩;refine nx0 (.non) _ (I.lset (its':=its.take i.toNat++u::its.drop i.toNat) hH e ?_ ?_ ?_) rfl (q _ a0b λ b o n e=>by rw[a0g n];exact e)
 ·have hk:¬ i < 0:=by lia
  have hm:min i.toNat its.toArray.size=i.toNat:=by rw[z0p];lia
  rw[z01 hk,hm];simp;exact z20 (by rw[z0y];exact z05 _)
 ·exact a2e.append (r.take _) (.cons ru (r.drop _))
 ·rw[z0j,z17,z16,z0y];lia
end
mutual
inductive TF (H:Hp):V->PyData->List Addr->Prop where
 | int (i:Int):TF H (.int i) (.int i) []
 | str (x:Str):TF H (.str x) (.str x) []
 | lst {a:Addr} {xs:List V} {ds:List PyData} {f:List Addr} (h:H a=some (.lst xs)) (r:TFs H xs ds f):TF H (.ref a) (.list ds) (a::f)
 | tup {a:Addr} {xs:List V} {ds:List PyData} {f:List Addr} (h:H a=some (.tup xs)) (r:TFs H xs ds f):TF H (.ref a) (.tuple ds) (a::f)
inductive TFs (H:Hp):List V->List PyData->List Addr->Prop where
 | nil:TFs H [] [] []
 | cons {x:V} {d:PyData} {xs:List V} {ds:List PyData} {f g:List Addr} (h:TF H x d f) (r:TFs H xs ds g):TFs H (x::xs) (d::ds) (f++g)
end
mutual
theorem TF.tr {H:Hp} {v:V} {d:PyData} {f:List Addr} (h:TF H v d f):Tr H v d:=by
 cases h with
 | int i=>exact .int i
 | str x=>exact .str x
 | lst h r=>exact .lst h (TFs.trs r)
 | tup h r=>exact .tup h (TFs.trs r)
theorem TFs.trs {H:Hp} {vs:List V} {ds:List PyData} {f:List Addr} (h:TFs H vs ds f):Trs H vs ds:=by
 cases h with
 | nil=>exact .nil
 | cons h r=>exact .cons (TF.tr h) (TFs.trs r)
end
mutual
theorem TF.fr {H H':Hp} {v:V} {d:PyData} {f:List Addr} (h:TF H v d f) (k:∀ b∈f,∀ o,H b=some o->H' b=some o):TF H' v d f:=by
 cases h with
 | int i=>exact .int i
 | str x=>exact .str x
 | lst h r=>exact .lst (k _ z1p _ h) (TFs.fr r λ b hb=>k b (z1j _ hb))
 | tup h r=>exact .tup (k _ z1p _ h) (TFs.fr r λ b hb=>k b (z1j _ hb))
theorem TFs.fr {H H':Hp} {vs:List V} {ds:List PyData} {f:List Addr} (h:TFs H vs ds f) (k:∀ b∈f,∀ o,H b=some o->H' b=some o):TFs H' vs ds f:=by
 cases h with
 | nil=>exact .nil
 | cons h r=>exact .cons (TF.fr h λ b hb=>k b (z1x _ hb)) (TFs.fr r λ b hb=>k b (z1e _ hb))
end
mutual
theorem TF.live {H:Hp} {v:V} {d:PyData} {f:List Addr} (h:TF H v d f):∀ b∈f,(∃ xs,H b=some (.lst xs))\/∃ xs,H b=some (.tup xs):=by
 cases h with
 | int i=>intro b hb;cases hb
 | str x=>intro b hb;cases hb
 | lst h r =>
  intro b hb;rcases z0a.mp hb with z | z
  ·exact .inl ⟨_,z ▸ h⟩
  ·exact TFs.live r b z
 | tup h r =>
  intro b hb;rcases z0a.mp hb with z | z
  ·exact .inr ⟨_,z ▸ h⟩
  ·exact TFs.live r b z
theorem TFs.live {H:Hp} {vs:List V} {ds:List PyData} {f:List Addr} (h:TFs H vs ds f):∀ b∈f,(∃ xs,H b=some (.lst xs))\/∃ xs,H b=some (.tup xs):=by
 cases h with
 | nil=>intro b hb;cases hb
 | cons h r =>
  intro b hb;rcases z0f.mp hb with z | z
  ·exact TF.live h b z
  ·exact TFs.live r b z
end
theorem TF.same (s:Same H H') (h:TF H v d f):TF H' v d f:=h.fr λ b _ o e=>s b o e
theorem TFs.same (s:Same H H') (h:TFs H vs ds f):TFs H' vs ds f:=h.fr λ b _ o e=>s b o e
theorem TF.not (h:TF H v d f) (e:H b=none):b ∉ f:=λ hb=>by
 rcases h.live b hb with ⟨xs,q⟩ | ⟨xs,q⟩<;>rw[e] at q<;>cases q
theorem TFs.not (h:TFs H vs ds f) (e:H b=none):b ∉ f:=λ hb=>by
 rcases h.live b hb with ⟨xs,q⟩ | ⟨xs,q⟩<;>rw[e] at q<;>cases q
theorem TFs.app:∀ {vs us:List V} {ds es:List PyData} {f g:List Addr},TFs H vs ds f->TFs H us es g->TFs H (vs++us) (ds++es) (f++g)
 | _,_,_,_,_,_,.nil,r=>r
 | _,_,_,_,_,_,.cons h q,r=>by
  rw[z1c];exact .cons h (TFs.app q r)
theorem TFs.one (h:TF H v d f):TFs H [v] [d] f:=by
 have:=TFs.cons h .nil;rw[z19] at this;exact this
theorem TFs.ints:∀ ns:List Int,TFs H (ns.map V.int) (ns.map PyData.int) []
 | []=>.nil
 | n::r=>TFs.cons (.int n) (TFs.ints r)
theorem TFs.ints_of:∀ {vs:List V} {ns:List Int} {f:List Addr},TFs H vs (ns.map PyData.int) f->vs=ns.map V.int/\f=[]
 | _,[],_,.nil=>⟨rfl,rfl⟩
 | _,n::r,_,.cons h q=>by
  cases h;obtain⟨e,e2⟩:=TFs.ints_of q;exact⟨by rw[e];rfl,by rw[e2];rfl⟩
theorem TFs.len (h:TFs H vs ds f):vs.length=ds.length:=h.trs.len
theorem TFs.focus:∀ {vs:List V} {ds:List PyData} {f:List Addr},TFs H vs ds f->∀ {i:Nat} {d:PyData},ds[i]?=some d->∃ x f1 f2 f3,vs[i]?=some x/\f=f1++(f2++f3)/\TF H x d f2 /\
  ∀ H' x' d' f2',(∀ b∈f1++f3,∀ o,H b=some o->H' b=some o)->TF H' x' d' f2'->TFs H' (vs.set i x') (ds.set i d') (f1++(f2'++f3))
 | _,_,_,.nil,i,d,e=>by cases e
 | _,_,_,.cons (x:=x) (f:=f) (g:=g) h r,0,d,e=>by
  cases e;exact nx30 x ([]) f g rfl rfl h λ H' x' d' f2' k t=>(TFs.cons t (r.fr λ b hb=>k b hb):TFs H' (x'::_) (d'::_) (f2'++g))
 | _,_,_,.cons (f:=f) h r,i+1,d,e=>by
  obtain⟨y,f1,f2,f3,e1,e2,e3,e4⟩:=TFs.focus r (by simpa using e);refine nx30 y (f++f1) f2 f3 (by simpa using e1) (by rw[e2,z1c]) e3 λ H' x' d' f2' k t=>?_;rw[z1c];exact .cons (h.fr λ b hb=>k b (by rw[z1c];exact z1x _ hb)) (e4 H' x' d' f2' (λ b hb=>k b (by rw[z1c];exact z1e _ hb)) t)
theorem TFs.set_self {α:Type}:∀ {xs:List α} {i:Nat} {x:α},xs[i]?=some x->xs.set i x=xs
 | [],_,_,h=>by cases h
 | y::r,0,x,h=>by cases h;rfl
 | y::r,i+1,x,h=>by
  show y::r.set i x=_;rw[TFs.set_self (by simpa using h)]
theorem nd3 {α:Type} {a b c:List α}:(a++(b++c)).Nodup ↔ (a++c).Nodup/\b.Nodup/\∀ x∈b,x ∉ a/\x ∉ c:=by
 rw[z2f,z2f,z2f];constructor
 ·rintro⟨h1,⟨h2,h3,h4⟩,h5⟩;exact⟨⟨h1,h3,λ x hx y hy=>h5 x hx y (z1e _ hy)⟩,h2,λ x hx=>⟨λ z=>h5 x z x (z1x _ hx) rfl,λ z=>h4 x hx x z rfl⟩⟩
 ·rintro⟨⟨h1,h2,h3⟩,h4,h5⟩;refine⟨h1,⟨h4,h2,λ x hx y hy e=>(h5 x hx).2 (e ▸ hy)⟩,λ x hx y hy e=>?_⟩;rcases z0f.mp hy with z | z
  ·exact(h5 y z).1 (e ▸ hx)
  ·exact h3 x hx y z e
theorem nd2 {α:Type} {a b:List α}:(a++b).Nodup ↔ a.Nodup/\b.Nodup/\∀ x∈b,x ∉ a:=by
 rw[z2f];constructor
 ·rintro⟨h1,h2,h3⟩;exact⟨h1,h2,λ x hx z=>h3 x z x hx rfl⟩
 ·rintro⟨h1,h2,h3⟩;exact⟨h1,h2,λ x hx y hy e=>h3 y hy (e ▸ hx)⟩
theorem e0u {α:Type} {σ0 fs:L2.St} {K:W.Frag} (as:List α) (ow:α->List Addr) (dx:α->PyData) (dy:α->PyData) (h0:σ0=List.replicate k none++fs) (hl:H1 l=some (.lst xs)) (ht:Trs H1 xs (as.map dx)) (hz:as.length<=sizeLine)
  (ho:as.Pairwise λ a c=>∀ b∈ow c,b ∉ ow a) (hv:∀ a∈as,∀ b∈ow a,∃ o,H1 b=some o)
  (step:∀ a,a∈as->∀ H (ts:L2.St) v (R:Option V->L2.St->Hp->Prop),Same H1 H->ts.length=k->Tr H v (dx a)->(∀ y f (ts2:L2.St) H3,ts2.length=k->Same H H3->TF H3 y (dy a) f->f.Nodup->(∀ b∈f,H b=none\/b∈ow a)->R (some y) (ts2++fs) H3) ->
   g v (ts++fs) H λ τ2 H2=>tc τ2 H2 λ ok H3=>if ok=true then te τ2 H3 λ y H4=>R (some y) τ2 H4 else R none τ2 H3)
  (fin:∀ D H' ys f,H1 D=none->Same H1 H'->H' D=some (.lst ys)->TFs H' ys (as.map dy) f->f.Nodup->(∀ b∈f,H1 b=none\/∃ a∈as,b∈ow a)->D ∉ f->Q (.ref D) H'):a6n σ0 (Itl K l) g tc te Q H1:=by
 have hn:xs.length=as.length:=by rw[ht.len,z04]
 intro D hD;refine⟨λ i m ys τ H=>m=as.length - i/\i<=as.length/\ys.length<=i/\(∃ f,TFs H ys ((as.take i).map dy) f/\f.Nodup/\(∀ b∈f,H1 b=none\/∃ a∈as.take i,b∈ow a)/\D ∉ f)/\(∃ ts:L2.St,ts.length=k/\τ=ts++fs)/\Same H1 H/\H D=some (.lst ys),⟨as.length,rfl,z0m _,z05 _,⟨[],.nil,.nil,(λ b hb=>by cases hb),(λ hb=>by cases hb)⟩,⟨_,z3n,h0⟩,Same.upd hD,a0b⟩,?_⟩;rintro i m ys τ H ⟨rfl,hi,hyl,⟨f,hp,hf,hfn,hDf⟩,⟨ts,hts,rfl⟩,ss,hd⟩;refine⟨hd,?_⟩;by_cases hlt:i < as.length
 ·refine .inr ⟨(a2h (SqL.of (ss _ _ hl))).go i (by lia),by lia,?_⟩;rintro v H' ⟨rfl,yy⟩;have e:=yy xs (SqL.of (ss _ _ hl));obtain⟨d,hde,tr⟩:=ht.get e;have ea:=z0o hlt;rw[z09,ea] at hde;cases hde;refine step as[i] (z3j hlt) H' ts v (λ o τ2 H3=>match o with
   | some y=>H3 D=some (.lst ys)/\∃ m',m' < as.length - i/\m'=as.length - (i+1)/\i+1<=as.length/\(ys++[y]).length<=i+1/\(∃ f,TFs (upd H3 D (.lst (ys++[y]))) (ys++[y]) ((as.take (i+1)).map dy) f/\f.Nodup/\(∀ b∈f,H1 b=none\/∃ a∈as.take (i+1),b∈ow a)/\D ∉ f)/\(∃ ts:L2.St,ts.length=k/\τ2=ts++fs)/\Same H1 (upd H3 D (.lst (ys++[y])))/\upd H3 D (.lst (ys++[y])) D=some (.lst (ys++[y]))
   | none=>∃ m',m' < as.length - i/\m'=as.length - (i+1)/\i+1<=as.length/\ys.length<=i+1/\(∃ f,TFs H3 ys ((as.take (i+1)).map dy) f/\f.Nodup/\(∀ b∈f,H1 b=none\/∃ a∈as.take (i+1),b∈ow a)/\D ∉ f)/\(∃ ts:L2.St,ts.length=k/\τ2=ts++fs)/\Same H1 H3/\H3 D=some (.lst ys)) ss hts (tr.same ss) (λ y f2 ts2 H3 h2 s3 tr3 nd2' fr3=>?_)
  refine⟨s3 _ _ hd,as.length - (i+1),by lia,rfl,hlt,(by rw[z0j,z5u];lia),?_,⟨ts2,h2,rfl⟩,(ss.trans s3).again hD,a0b⟩;have tk:as.take (i+1)=as.take i++[as[i]]:=by rw[z0v,ea];rfl
  have hD2:D ∉ f2:=λ z=>by
   rcases fr3 D z with q | q
   ·rw[hd] at q;cases q
   ·obtain⟨o,q⟩:=hv _ (z3j hlt) D q;rw[hD] at q;cases q
  refine⟨f++f2,?_,nd2.mpr ⟨hf,nd2',λ x hx z=>?_⟩,λ b hb=>?_,λ hb=>?_⟩
  ·rw[tk,z0z];refine(hp.fr λ b hb o eb=>?_).app (TFs.one (tr3.fr λ b hb o eb=>?_))
   ·rw[a0g (show b≠D from λ z=>hDf (z ▸ hb))];exact s3 _ _ eb
   ·rw[a0g (show b≠D from λ z=>hD2 (z ▸ hb))];exact eb
  ·rcases fr3 x hx with q | q
   ·exact hp.not q z
   ·rcases hfn x z with q2 | ⟨a,ha,q2⟩
    ·obtain⟨o,q3⟩:=hv _ (z3j hlt) x q;rw[q2] at q3;cases q3
    ·obtain⟨j,hj,ej⟩:=List.mem_iff_getElem.mp ha;rw[z16] at hj;rw[z48] at ej;have:=z32.mp ho j i (by lia) hlt (by lia) x q;rw[ej] at this;exact this q2
  ·rw[tk];rcases z0f.mp hb with z | z
   ·rcases hfn b z with q | ⟨a,ha,q⟩
    ·exact .inl q
    ·exact .inr ⟨a,z1x _ ha,q⟩
   ·rcases fr3 b z with q | q
    ·exact .inl (ss.free q)
    ·exact .inr ⟨as[i],z1e _ (z0i.mpr rfl),q⟩
  ·rcases z0f.mp hb with z | z
   ·exact hDf z
   ·exact hD2 z
 ·have e:i=as.length:=by lia
  subst e;rw[z0x] at hp hfn;exact .inl ⟨(a2h (SqL.of (ss _ _ hl))).stop _ (by lia),fin D H ys f hD ss hd hp hf hfn hDf⟩
structure e2q (K:W.Frag) (x qual:Str) (st:Stmt) (f:Addr) (fd:FuncData):Prop where
 ex:∃ (oc:Value) (od:Option Addr) (dV kV doc pm:Value) (an:Option Addr) (cdv ct:Value) (osl:Array (Option Value)),
  fd=W.fnOf x qual (a2y st) (a2j st) (a0h st) dV kV doc pm an cdv ct/\K.lookup f=some ⟨oc,od,.func fd,osl⟩/\W.codeIn K cdv qual=true
 kp:W.keepIn K (.ref f)=true
section
variable {P:Program} {w:World} {K:W.Frag} {mg:Str->Option Value} {base:Heap}
theorem e2q.ok {x qual:Str} {st:Stmt} {f:Addr} {fd:FuncData} {N ps:List Str} {k:Nat} {sp:Sp} (F:e2q K x qual st f fd) (S:a0i N ps (a0h st)) (len:∀ vs H Q E,sp vs H Q E->vs.length=ps.length)
  (hbody:∀ (cdv:Value) (A:Around) (outer:List Env) (s:Shared) (H:Hp) (vs:List V) (Q:VK) (E:XK),Room k (A.deeper (envOfC qual (a0h st) s.heap.objs.size f cdv))->sp vs H Q E ->
   ∃ t,PSs (d5g CX0 P w K mg base N qual (a0h st) f cdv A outer s H E).nox (a2j st) t/\t {nx:=λ _ H'=>Q .non H',rt:=Q} (start N vs) H):b1f P w K mg base CX0 (k+1) f fd ps sp:=by
 obtain⟨oc,od,dV,kV,doc,pm,an,cdv,ct,osl,rfl,lk,hcd⟩:=F.ex;refine e3b lk hcd S len λ A outer s H vs Q E hr hsp=>?_
 obtain⟨t,h,q⟩:=hbody cdv A outer s H vs Q E hr hsp;exact⟨t,h.nox,q⟩
theorem d7g {st:Stmt} {dV kV doc pm cdv ct:Value} (l:K.lookup f=some ⟨oc,od,.func (W.fnOf x qual (a2y st) (a2j st) (a0h st) dV kV doc pm an cdv ct),osl⟩)
  (c:W.codeIn K cdv qual=true) (k:W.keepIn K (.ref f)=true):e2q K x qual st f (W.fnOf x qual (a2y st) (a2j st) (a0h st) dV kV doc pm an cdv ct):=⟨nx31 oc od dV kV doc pm (nx2 an cdv (nx0 ct osl rfl l c)),k⟩
theorem b5h (hd:fd.defaults=.ref T) (ho:K.lookup T=some o) (hs:o.data=.seq items n) (X:K.In s.heap)
  (h:∃ k:Option (Array Value)->Sem (List (Str×Value)),bindArgs fd args=(seqItems? fd.defaults>>=k)/\k (some items)=pure binds):BindsTo s fd args binds:=by
 obtain⟨k,h1,h2⟩:=h;exact BindsTo.of_defaults hd (X _ _ ho) hs h1 h2
end
theorem ifS (h1:∀ Q:Bool->Hp->Prop,(∀ H',Same H H'->Q b H')->c σ H Q) (h2:∀ H',Same H H'->if b=true then t D σ H' else u D σ H'):a5p c t u D σ H:=h1 _ h2
theorem b3p {n:Nat} (z:Int) (hl:xs.length=n) (hn:0 < n):(z%(n:Int)).toNat < n/\∃ v,xs[(z%(n:Int)).toNat]?=some v/\atI xs (z%(n:Int))=some v:=by
 have h0:=z27 z (show (n:Int)≠0 by lia);have h1:=z2b z (show (0:Int) < n by lia);obtain⟨j,hj⟩:=Int.eq_ofNat_of_zero_le h0;rw[hj] at h1 ⊢;have hjn:j < xs.length:=by lia
 refine⟨by simpa using (by lia:j < n),xs[j],?_,a0m (z0o hjn)⟩;exact z0o hjn
theorem c7k {ns:List Int} (z:Int) (hl:ns.length=n) (hn:0 < n):atI (ns.map V.int) (z%(n:Int))=some (.int (ns.getD (z%(n:Int)).toNat 0))/\ns.getD (z%(n:Int)).toNat 0∈ns:=by
 obtain⟨_,v,e,_⟩:=b3p z hl hn;have g:ns.getD (z%(n:Int)).toNat 0=v:=by rw[z2t,e];rfl
 rw[g];refine⟨?_,z0c e⟩;have h0:=z27 z (show (n:Int)≠0 by lia);have:=a0m (xs:=ns.map V.int) (by rw[z09,e];rfl);rwa [Int.toNat_of_nonneg h0] at this
theorem d6g (z:Int) (hn:0 < n):ixN n (z%(n:Int))=some (z%(n:Int)).toNat:=by
 have h0:=z27 z (show (n:Int)≠0 by lia);have h1:=z2b z (show (0:Int) < n by lia);unfold ixN;rw[z02 h0,z02 h1]
theorem d6s {α:Type} {x y:List α} {a b:α} (h:(x++a::y).Nodup) (hb:b ∉ x++y):(x++b::y).Nodup:=by
 have h1:=(nd3 (b:=[a])).mp h;exact(nd3).mpr ⟨h1.1,z1f.mpr ⟨(λ z=>by cases z),.nil⟩,λ z hz=>by
  rw[z0i.mp hz];exact⟨λ w=>hb (z1x _ w),λ w=>hb (z1e _ w)⟩⟩
theorem b9a {α β:Type} (f:α->β):∀ (l:List α) (j:Nat),(l.map f).eraseIdx j=(l.eraseIdx j).map f
 | [],_=>rfl
 | _::_,0=>rfl
 | x::r,j+1=>by
  show f x::(r.map f).eraseIdx j=f x::(r.eraseIdx j).map f;rw[b9a f r j]
theorem a1z {α:Type} {xs:List α} {d:α} (h:i < xs.length):xs[i]?=some (xs.getD i d):=by
 rw[z0o h,z2t,z0o h];rfl
theorem c4t (h:TF H (.ref D) (.list ds) f):∃ dv g,f=D::g/\H D=some (.lst dv)/\TFs H dv ds g:=by
 cases h with
 | lst h r=>exact nx0 _ _ rfl h r
theorem V.int_inj' (h:V.int a=V.int b):a=b:=by injection h
def KN (H H':Hp):Prop:=∀ b o,(∀ xs,o≠HO.lst xs)->H b=some o->H' b=some o
theorem KN.of (s:Same H H'):KN H H':=λ b o _ e=>s b o e
theorem KN.trans (a:KN A B) (b:KN B C):KN A C:=λ x o n e=>b x o n (a x o n e)
theorem KN.but (h:H D=some (.lst ys)) (k:∀ b o,b≠D->H b=some o->H' b=some o):KN H H':=λ b o n e=>k b o (λ z=>by rw[z,h] at e;exact n _ (z0r e).symm) e
theorem KN.upd (h:H D=some (.lst ys)):KN H (upd H D o):=KN.but h λ b o n e=>by rw[a0g n];exact e
theorem a8i:∀ {xs:List α} {bs:List β} {x:α} {b:β},Paired F xs bs->F x b->Paired F (xs++[x]) (bs++[b])
 | _,_,_,_,.nil,h=>.cons h .nil
 | _,_,_,_,.cons r t,h=>.cons r (a8i t h)
theorem e0i {σ0 fs:L2.St} (G:Hp->V->β->Prop) (Vi:Nat->Hp->V->Prop) (n:Nat) (f:Nat->Option β) (hG:∀ H H' y b,KN H H'->G H y b->G H' y b) (h0:σ0=List.replicate k none++fs) (hz:n<=sizeLine)
  (hgo:∀ i H,Same H1 H->i < n->J.go i H) (hstop:∀ H,Same H1 H->J.stop n H) (hy:∀ i H v H',Same H1 H->i < n->J.yld i H v H'->H'=H/\Vi i H v)
  (step:∀ i,i < n->∀ H (ts:L2.St) v (R:Option V->L2.St->Hp->Prop),Same H1 H->ts.length=k->Vi i H v->(∀ b y (ts2:L2.St) H3,f i=some b->ts2.length=k->Same H H3->G H3 y b->R (some y) (ts2++fs) H3)->(f i=none->∀ (ts2:L2.St) H3,ts2.length=k->Same H H3->R none (ts2++fs) H3) ->
   g v (ts++fs) H λ τ2 H2=>tc τ2 H2 λ ok H3=>if ok=true then te τ2 H3 λ y H4=>R (some y) τ2 H4 else R none τ2 H3)
  (fin:∀ D H' ys,H1 D=none->Same H1 H'->H' D=some (.lst ys)->Paired (G H') ys ((List.range n).filterMap f)->Q (.ref D) H'):a6n σ0 J g tc te Q H1:=by
 intro D hD;refine⟨λ i m ys τ H=>m=n - i/\i<=n/\ys.length<=i/\Paired (G H) ys ((List.range i).filterMap f)/\(∃ ts:L2.St,ts.length=k/\τ=ts++fs)/\Same H1 H/\H D=some (.lst ys),⟨n,rfl,z0m _,z05 _,.nil,⟨_,z3n,h0⟩,Same.upd hD,a0b⟩,?_⟩;rintro i m ys τ H ⟨rfl,hi,hyl,hp,⟨ts,hts,rfl⟩,ss,hd⟩;refine⟨hd,?_⟩;by_cases hlt:i < n
 ·refine .inr ⟨hgo i H ss hlt,by lia,?_⟩;intro v H' hyl';obtain⟨rfl,hv⟩:=hy i H v H' ss hlt hyl';have er:List.range (i+1)=List.range i++[i]:=z28;refine step i hlt H' ts v (λ o τ2 H3=>match o with
   | some y=>H3 D=some (.lst ys)/\∃ m',m' < n - i/\m'=n - (i+1)/\i+1<=n/\(ys++[y]).length<=i+1/\Paired (G (upd H3 D (.lst (ys++[y])))) (ys++[y]) ((List.range (i+1)).filterMap f)/\(∃ ts:L2.St,ts.length=k/\τ2=ts++fs)/\Same H1 (upd H3 D (.lst (ys++[y])))/\upd H3 D (.lst (ys++[y])) D=some (.lst (ys++[y]))
   | none=>∃ m',m' < n - i/\m'=n - (i+1)/\i+1<=n/\ys.length<=i+1/\Paired (G H3) ys ((List.range (i+1)).filterMap f)/\(∃ ts:L2.St,ts.length=k/\τ2=ts++fs)/\Same H1 H3/\H3 D=some (.lst ys)) ss hts hv (λ b y ts2 H3 hb h2 s3 g3=>?_) λ hb ts2 H3 h2 s3=>?_
  ·refine⟨s3 _ _ hd,n - (i+1),by lia,rfl,hlt,(by rw[z0j,z5u];lia),?_,⟨ts2,h2,rfl⟩,(ss.trans s3).again hD,a0b⟩;have e1:(List.range (i+1)).filterMap f=(List.range i).filterMap f++[b]:=by
    rw[er,z2l];rw[z1o,hb];rfl
   rw[e1];have kn:KN H3 (upd H3 D (.lst (ys++[y]))):=KN.upd (s3 _ _ hd);exact a8i (Paired.mapP hp λ _ _ z=>hG _ _ _ _ ((KN.of s3).trans kn) z) (hG _ _ _ _ kn g3)
  ·refine⟨n - (i+1),by lia,rfl,hlt,by lia,?_,⟨ts2,h2,rfl⟩,ss.trans s3,s3 _ _ hd⟩;have e1:(List.range (i+1)).filterMap f=(List.range i).filterMap f:=by
    rw[er,z2l];show _++List.filterMap f [i]=_;rw[z1o,hb];exact z19 _
   rw[e1];exact Paired.mapP hp λ _ _ z=>hG _ _ _ _ (KN.of s3) z
 ·have e:i=n:=by lia
  subst e;exact .inl ⟨hstop H ss,fin D H ys hD ss hd hp⟩
theorem a5q {σ0 fs:L2.St} {K:W.Frag} (G:Hp->V->β->Prop) (F:Hp->V->α->Prop) (as:List α) (f:α->Option β) (hG:∀ H H' y b,KN H H'->G H y b->G H' y b) (hF:∀ H H' y b,Same H H'->F H y b->F H' y b) (h0:σ0=List.replicate k none++fs)
  (hl:H1 l=some (.lst xs)) (hp:Paired (F H1) xs as) (hz:as.length<=sizeLine)
  (step:∀ a,a∈as->∀ H (ts:L2.St) v (R:Option V->L2.St->Hp->Prop),Same H1 H->ts.length=k->F H v a->(∀ b y (ts2:L2.St) H3,f a=some b->ts2.length=k->Same H H3->G H3 y b->R (some y) (ts2++fs) H3)->(f a=none->∀ (ts2:L2.St) H3,ts2.length=k->Same H H3->R none (ts2++fs) H3) ->
   g v (ts++fs) H λ τ2 H2=>tc τ2 H2 λ ok H3=>if ok=true then te τ2 H3 λ y H4=>R (some y) τ2 H4 else R none τ2 H3)
  (fin:∀ D H' ys,H1 D=none->Same H1 H'->H' D=some (.lst ys)->Paired (G H') ys (as.filterMap f)->Q (.ref D) H'):a6n σ0 (Itl K l) g tc te Q H1:=by
 have hn:=a1c hp;refine e0i G (λ i H v=>∃ a,as[i]?=some a/\F H v a) as.length (λ i=>as[i]?.bind f) hG h0 hz (λ i H ss hi=>(a2h (SqL.of (ss _ _ hl))).go i (by lia)) (λ H ss=>(a2h (SqL.of (ss _ _ hl))).stop _ (by lia)) ?_ ?_ λ D H' ys hD ss hd pp=>fin D H' ys hD ss hd (by rw[b4v] at pp;exact pp)
 ·rintro i H v H' ss hi ⟨rfl,yy⟩;have e:=yy xs (SqL.of (ss _ _ hl));obtain⟨a,ea,fa⟩:=a1g hp e;exact⟨rfl,a,ea,hF _ _ _ _ ss fa⟩
 ·rintro i hi H ts v R ss hts ⟨a,ea,fa⟩ cs cn;refine step a (z0c ea) H ts v R ss hts fa (λ b y ts2 H3 hb h2 s3 g3=>cs b y ts2 H3 (by rw[ea];exact hb) h2 s3 g3) λ hb ts2 H3 h2 s3=>cn (by rw[ea];exact hb) ts2 H3 h2 s3
theorem d5z {σ0 fs:L2.St} {lo:Int} (G:Hp->V->β->Prop) (n:Nat) (f:Nat->Option β) (hG:∀ H H' y b,KN H H'->G H y b->G H' y b) (h0:σ0=List.replicate k none++fs) (hz:n<=sizeLine)
  (step:∀ i,i < n->∀ H (ts:L2.St) (R:Option V->L2.St->Hp->Prop),Same H1 H->ts.length=k->(∀ b y (ts2:L2.St) H3,f i=some b->ts2.length=k->Same H H3->G H3 y b->R (some y) (ts2++fs) H3)->(f i=none->∀ (ts2:L2.St) H3,ts2.length=k->Same H H3->R none (ts2++fs) H3) ->
   g (.int (lo+(i:Int))) (ts++fs) H λ τ2 H2=>tc τ2 H2 λ ok H3=>if ok=true then te τ2 H3 λ y H4=>R (some y) τ2 H4 else R none τ2 H3)
  (fin:∀ D H' ys,H1 D=none->Same H1 H'->H' D=some (.lst ys)->Paired (G H') ys ((List.range n).filterMap f)->Q (.ref D) H'):a6n σ0 (Itr lo n) g tc te Q H1:=by
 refine e0i G (λ i _ v=>v=.int (lo+(i:Int))) n f hG h0 hz (λ i H _ hi=>hi) (λ H _=>z05 _) ?_ ?_ fin
 ·rintro i H v H' _ _ ⟨rfl,rfl⟩;exact⟨rfl,rfl⟩
 ·rintro i hi H ts v R ss hts rfl cs cn;exact step i hi H ts R ss hts cs cn
section
variable {X:Cx}
theorem d3e (hu:X.A.units+64 < cLine):OpR X (compareOp .Eq) (λ x y H Q=>∃ (a b:Addr) (xs:List V),x=.ref a/\y=.ref b/\SqL X.K H a xs/\SqL X.K H b []/\Q (.bl xs.isEmpty) H):=by
 intro pins s σ H x y v u Q I rx ry h;obtain⟨a,b,xs,rfl,rfl,ha,hb,q⟩:=h;cases xs with
 | nil=>exact d5d hu pins s σ H (.ref a) (.ref b) v u Q I rx ry (nx12 _ _ (.lst ha .nil) (.lst hb .nil) rfl rfl q)
 | cons w r =>
  cases rx;cases ry;obtain⟨its,rv,⟨o,n,e,c,d0,dd⟩,_⟩:=I.list ha;obtain⟨jts,rw',⟨o2,n2,e2,c2,d2,dd2⟩,_⟩:=I.list hb;cases rw';have hne:(its.toArray.size != (#[]:Array Value).size)=true:=by
   cases rv;simp
  exact PySem.SeqAt.RcAt.lists_lengths (nx13 _ e c n dd) (nx13 _ e2 c2 n2 dd2) hne (z4n (z5k _ _) hu) _ _ _ _ (nx0 (.bl false) H I rfl q)
end
theorem e1w {σ0 fs:L2.St} {lo:Int} (n:Nat) (dy:Nat->PyData) (h0:σ0=List.replicate k none++fs) (hz:n<=sizeLine)
  (step:∀ i,i < n->∀ H (ts:L2.St) (R:Option V->L2.St->Hp->Prop),Same H1 H->ts.length=k->(∀ y f (ts2:L2.St) H3,ts2.length=k->Same H H3->TF H3 y (dy i) f->f.Nodup->(∀ b∈f,H b=none)->R (some y) (ts2++fs) H3) ->
   g (.int (lo+(i:Int))) (ts++fs) H λ τ2 H2=>tc τ2 H2 λ ok H3=>if ok=true then te τ2 H3 λ y H4=>R (some y) τ2 H4 else R none τ2 H3)
  (fin:∀ D H' ys f,H1 D=none->Same H1 H'->H' D=some (.lst ys)->TFs H' ys ((List.range n).map dy) f->f.Nodup->(∀ b∈f,H1 b=none)->D ∉ f->Q (.ref D) H'):a6n σ0 (Itr lo n) g tc te Q H1:=by
 intro D hD;refine⟨λ i m ys τ H=>m=n - i/\i<=n/\ys.length<=i/\(∃ f,TFs H ys ((List.range i).map dy) f/\f.Nodup/\(∀ b∈f,H1 b=none)/\D ∉ f)/\(∃ ts:L2.St,ts.length=k/\τ=ts++fs)/\Same H1 H/\H D=some (.lst ys),⟨n,rfl,z0m _,z05 _,⟨[],.nil,.nil,(λ b hb=>by cases hb),(λ hb=>by cases hb)⟩,⟨_,z3n,h0⟩,Same.upd hD,a0b⟩,?_⟩;rintro i m ys τ H ⟨rfl,hi,hyl,⟨f,hp,hf,hfn,hDf⟩,⟨ts,hts,rfl⟩,ss,hd⟩;refine⟨hd,?_⟩;by_cases hlt:i < n
 ·refine .inr ⟨hlt,by lia,?_⟩;rintro v H' ⟨rfl,rfl⟩;refine step i hlt H' ts (λ o τ2 H3=>match o with
   | some y=>H3 D=some (.lst ys)/\∃ m',m' < n - i/\m'=n - (i+1)/\i+1<=n/\(ys++[y]).length<=i+1/\(∃ f,TFs (upd H3 D (.lst (ys++[y]))) (ys++[y]) ((List.range (i+1)).map dy) f/\f.Nodup/\(∀ b∈f,H1 b=none)/\D ∉ f)/\(∃ ts:L2.St,ts.length=k/\τ2=ts++fs)/\Same H1 (upd H3 D (.lst (ys++[y])))/\upd H3 D (.lst (ys++[y])) D=some (.lst (ys++[y]))
   | none=>∃ m',m' < n - i/\m'=n - (i+1)/\i+1<=n/\ys.length<=i+1/\(∃ f,TFs H3 ys ((List.range (i+1)).map dy) f/\f.Nodup/\(∀ b∈f,H1 b=none)/\D ∉ f)/\(∃ ts:L2.St,ts.length=k/\τ2=ts++fs)/\Same H1 H3/\H3 D=some (.lst ys)) ss hts (λ y f2 ts2 H3 h2 s3 tr3 nd2' fr3=>?_)
  refine⟨s3 _ _ hd,n - (i+1),by lia,rfl,hlt,(by rw[z0j,z5u];lia),?_,⟨ts2,h2,rfl⟩,(ss.trans s3).again hD,a0b⟩;have hD2:D ∉ f2:=λ z=>by have q:=fr3 D z;rw[hd] at q;cases q
  refine⟨f++f2,?_,nd2.mpr ⟨hf,nd2',λ x hx=>hp.not (fr3 x hx)⟩,λ b hb=>?_,λ hb=>?_⟩
  ·rw[z28,z0z];refine(hp.fr λ b hb o eb=>?_).app (TFs.one (tr3.fr λ b hb o eb=>?_))
   ·rw[a0g (show b≠D from λ z=>hDf (z ▸ hb))];exact s3 _ _ eb
   ·rw[a0g (show b≠D from λ z=>hD2 (z ▸ hb))];exact eb
  ·rcases z0f.mp hb with z | z
   ·exact hfn b z
   ·exact ss.free (fr3 b z)
  ·rcases z0f.mp hb with z | z
   ·exact hDf z
   ·exact hD2 z
 ·have e:i=n:=by lia
  subst e;exact .inl ⟨z05 _,fin D H ys f hD ss hd hp hf hfn hDf⟩
structure b7g (k:Nat) (A:Around):Prop where
 dp:A.depth+3*k+5 < recursionLimit
 un:A.units+16*k+200 < cLine
theorem _root_.L2.Room.m (r:Room k A):b7g k (A.mark x):=⟨r.dp,r.un⟩
theorem b7g.units (r:b7g k A):A.units+64 < cLine:=by have:=r.un;lia
theorem b7g.depth (r:b7g k A):A.depth < recursionLimit:=by have:=r.dp;lia
theorem b7g.deeper (r:b7g (k+1) A) (env:Env):b7g k (A.deeper env) :=
 ⟨by have:=r.dp;show A.depth+1+3*k+5 < _;lia,by have:=r.un;show A.units+3+16*k+200 < _;lia⟩
structure e6q (P:Program) (w:World) (K:W.Frag) (mg:Str->Option Value) (base:Heap) (k:Nat) (f:Addr) (fd:FuncData) (ps:List Str) (sp:Sp):Prop where
 len:∀ vs H Q E,sp vs H Q E->vs.length=ps.length
 run:∀ (A:Around) (outer:List Env) (s:Shared) (H:Hp) (args:Args) (us:List Value) (vs:List V) (Q:VK) (E:XK),b7g k A->d9w P w K mg base A outer s H->BindsTo s fd args (ps.zip us)->a2e vs us->sp vs H Q E ->
  codeAny (model P w) A (.call (.ref f) args) (CR CX0 outer P w H s Q E) s
end My
namespace My
namespace Gs
open PySem PyProof.Rows
structure Cmp (prog:Program) (w:World) (A:Around) (E:Value->Shared->Prop) (s:Shared) where
 κ:SortKind
 gd:Keyed->Prop
 rk:Keyed->Int
 lt:∀ {st:SortSt} {p q:Keyed} {Q:Option Bool->SortSt->Prop},kindOf st=κ->gd p->gd q->Q (some (decide (rk p < rk q))) st->wpS (model prog w) A E s (lt' p q) Q st
section
variable {prog:Program} {w:World} {s:Shared} {A:Around} {E:Value->Shared->Prop} {C:Cmp prog w A E s}
def Kc (C:Cmp prog w A E s) (xs:Array Keyed) (i:Nat):Int:=match xs[i]? with
 | some p=>C.rk p
 | none=>0
theorem a5x (h:xs[i]?=ys[j]?):Kc C xs i=Kc C ys j:=by unfold Kc;rw[h]
theorem b8e (hs:src < xs.size) (hd:d<=src) (k:Nat) :
  Kc C (bubble xs src d) k=if k=src - d then Kc C xs src else if src - d < k/\k<=src then Kc C xs (k - 1) else Kc C xs k:=by
 have e:=getElem?_bubble hs d hd k;by_cases h1:k=src - d
 ·rw[z02 h1] at e ⊢;exact a5x e
 ·rw[z01 h1] at e ⊢;by_cases h2:src - d < k/\k<=src
  ·rw[z02 h2] at e ⊢;exact a5x e
  ·rw[z01 h2] at e ⊢;exact a5x e
theorem a6v (hj:j<=xs.size) (k:Nat) :
  Kc C (mirror xs i j ((j - i) / 2)) k=if i<=k/\k < j then Kc C xs (i+j - 1 - k) else Kc C xs k:=by
 have e:=getElem?_mirror_all (i:=i) hj k;by_cases h1:i<=k/\k < j
 ·rw[z02 h1] at e ⊢;exact a5x e
 ·rw[z01 h1] at e ⊢;exact a5x e
theorem d0n {st:SortSt} (hk:kindOf st=C.κ) (hkey:C.gd key) (g:Nat->Keyed) (hg:∀ i,i < n->arr[b+i]?=some (g i)) (hi:∀ i,i < n->C.gd (g i)) (hh:hint < n)
  (hs:∀ i j,i<=j->j < n->C.rk (g i)<=C.rk (g j)) (h:∀ m,m<=n->(∀ i,i < m->bey left (C.rk key) (C.rk (g i))=true)->(∀ i,m<=i->i < n->bey left (C.rk key) (C.rk (g i))=false)->Q (some m) st) :
  wpS (model prog w) A E s (c8j left key arr b n hint) Q st:=by
 obtain⟨p,hp⟩:∃ p:Nat->Bool,p=λ i=>bey left (C.rk key) (C.rk (g i)):=⟨_,rfl⟩
 have mono:∀ i j,i<=j->j < n->p j=true->p i=true:=λ i j h1 h2 h3=>by
  rw[hp] at h3 ⊢;exact d1r (hs i j h1 h2) h3
 replace h:∀ m,m<=n->(m=0\/p (m - 1)=true)->(m=n\/p m=false)->Q (some m) st:=λ m h1 h2 h3=>by
  refine h m h1 (λ i hi=>?_) λ i h4 h5=>?_
  ·have:=mono i (m - 1) (by lia) (by lia) (h2.resolve_left (by lia));rw[hp] at this;exact this
  ·cases e:bey left (C.rk key) (C.rk (g i)) with
   | false=>rfl
   | true =>
    have q:=mono m i h4 h5 (by rw[hp];exact e);rw[h3.resolve_left (by lia)] at q;cases q
 have ask:∀ {R:Option Bool->SortSt->Prop} {i:Nat},i < n->R (some (p i)) st->wpS (model prog w) A E s (do
   let x <- elem' arr (b+i)
   if left=true then lt' x key else do
    let y <- lt' key x
    pure (Option.map (λ z=>!z) y)) R st:=λ {R i} h1 h2=>by
  refine z06 (a1p (hg i h1) ?_);replace h2:R (some (bey left (C.rk key) (C.rk (g i)))) st:=by
   rw[hp] at h2;exact h2
  cases left
  ·exact z06 (C.lt hk hkey (hi i h1) (z07 h2))
  ·exact C.lt hk (hi i h1) hkey h2
 refine z06 (ask hh ?_);have bin:∀ (f:Nat->Option (Option Nat)×Nat×Nat->StateT SortSt Sem (ForInStep (Option (Option Nat)×Nat×Nat))) (R:Option (Option Nat)×Nat×Nat->SortSt->Prop) (lo hi:Nat),(∀ x l r,l ≥ r->f x (none,l,r)=pure (ForInStep.done (none,l,r))) ->
   (∀ x l r (R:ForInStep (Option (Option Nat)×Nat×Nat)->SortSt->Prop),l < r->r<=n->(p (l+(r - l) / 2)=true->R (ForInStep.yield (none,l+(r - l) / 2+1,r)) st)->(p (l+(r - l) / 2)=false->R (ForInStep.yield (none,l,l+(r - l) / 2)) st)->wpS (model prog w) A E s (f x (none,l,r)) R st) ->
   lo<=hi->hi<=n->(lo=0\/p (lo - 1)=true)->(hi=n\/p hi=false)->(∀ m,m<=n->(m=0\/p (m - 1)=true)->(m=n\/p m=false)->R (none,m,m) st)->wpS (model prog w) A E s (forIn [:n] (none,lo,hi) f) R st:=λ f R lo hi f0 f1 h1 h2 h3 h4 hR=>by
  refine z1w (I:=λ x c st'=>st'=st/\∃ l r,c=(none,l,r)/\l<=r/\r<=n/\(l=0\/p (l - 1)=true)/\(r=n\/p r=false)/\r - l<=n - x) ?_ ?_ (⟨rfl,nx27 lo hi rfl h1 h2 h3 h4 (by lia)⟩)
  ·rintro x c st' _ hx ⟨rfl,l,r,rfl,q1,q2,q3,q4,q5⟩;by_cases hge:l ≥ r
   ·rw[f0 x l r hge];have:l=r:=by lia
    subst this;exact z07 (hR l q2 q3 q4)
   ·exact f1 x l r _ (by lia) q2 (λ e=> ⟨rfl,nx27 _ _ rfl (by lia) (by lia) (.inr e) q4 (by lia)⟩) λ e=> ⟨rfl,nx27 _ _ rfl (by lia) (by lia) q3 (.inr e) (by lia)⟩
  ·rintro c st' ⟨rfl,l,r,rfl,q1,q2,q3,q4,q5⟩;have:l=r:=by lia
   subst this;exact hR l q2 q3 q4
 cases e0:p hint with
 | true =>
  refine z06 (z22 (z1w (I:=λ x c st'=>st'=st/\∃ l o,c=(none,l,o)/\l < o/\x < o/\l < n - hint/\p (hint+l)=true) (Q:=λ c st'=>st'=st/\∃ l o,c=(none,l,o)/\l < o/\l < n - hint/\p (hint+l)=true/\(o ≥ n - hint\/p (hint+o)=false)) ?_ ?_ (⟨rfl,nx12 0 1 rfl (by lia) (by lia) (by lia) e0⟩)) ?_)
  ·rintro x c st' _ hx ⟨rfl,l,o,rfl,q1,q2,q3,q4⟩;dsimp only;by_cases hge:o ≥ n - hint
   ·rw[z02 hge];exact z07 (⟨rfl,nx12 l o rfl q1 q3 q4 (.inl hge)⟩)
   ·rw[z01 hge];refine z06 (ask (by lia) ?_);cases e:p (hint+o) with
    | true=>exact z07 (⟨rfl,nx12 _ _ rfl (by lia) (by lia) (by lia) e⟩)
    | false=>exact z07 (⟨rfl,nx12 l o rfl q1 q3 q4 (.inr e)⟩)
  ·rintro c st' ⟨rfl,l,o,rfl,q1,q2,q3,q4⟩;exact ⟨rfl,nx12 l o rfl q1 q3 q4 (.inl (by lia))⟩
  ·rintro c st' ⟨rfl,l,o,rfl,q1,q3,q4,q5⟩;refine z06 (bin _ _ (hint+l+1) (hint+min o (n - hint)) (λ x l r hl=>z02 hl) (λ x l r R hl hr r1 r2=>?_) (by lia) (by lia) (.inr q4) ?_ λ m h1 h2 h3=>z07 (h m h1 h2 h3))
   ·dsimp only;rw[z01 (by lia)];refine z06 (ask (by lia) ?_);cases e:p (l+(r - l) / 2) with
    | true=>exact z07 (r1 e)
    | false=>exact z07 (r2 e)
   ·by_cases hge:o ≥ n - hint
    ·exact .inl (by lia)
    ·rw[show min o (n - hint)=o by lia];exact .inr (q5.resolve_left hge)
 | false =>
  refine z06 (z22 (z1w (I:=λ x c st'=>st'=st/\∃ l o,c=(none,l,o)/\l < o/\x < o/\l<=hint/\p (hint - l)=false) (Q:=λ c st'=>st'=st/\∃ l o,c=(none,l,o)/\l < o/\l<=hint/\p (hint - l)=false/\(o ≥ hint+1\/p (hint - o)=true)) ?_ ?_ (⟨rfl,nx12 0 1 rfl (by lia) (by lia) (by lia) e0⟩)) ?_)
  ·rintro x c st' _ hx ⟨rfl,l,o,rfl,q1,q2,q3,q4⟩;dsimp only;by_cases hge:o ≥ hint+1
   ·rw[z02 hge];exact z07 (⟨rfl,nx12 l o rfl q1 q3 q4 (.inl hge)⟩)
   ·rw[z01 hge];refine z06 (ask (by lia) ?_);cases e:p (hint - o) with
    | true=>exact z07 (⟨rfl,nx12 l o rfl q1 q3 q4 (.inr e)⟩)
    | false=>exact z07 (⟨rfl,nx12 _ _ rfl (by lia) (by lia) (by lia) e⟩)
  ·rintro c st' ⟨rfl,l,o,rfl,q1,q2,q3,q4⟩;exact ⟨rfl,nx12 l o rfl q1 q3 q4 (.inl (by lia))⟩
  ·rintro c st' ⟨rfl,l,o,rfl,q1,q3,q4,q5⟩;refine z06 (bin _ _ (hint+1 - min o (hint+1)) (hint - l) (λ x l r hl=>z02 hl) (λ x l r R hl hr r1 r2=>?_) (by lia) (by lia) ?_ (.inr q4) λ m h1 h2 h3=>z07 (h m h1 h2 h3))
   ·dsimp only;rw[z01 (by lia)];refine z06 (ask (by lia) ?_);cases e:p (l+(r - l) / 2) with
    | true=>exact z07 (r1 e)
    | false=>exact z07 (r2 e)
   ·by_cases hge:o ≥ hint+1
    ·exact .inl (by lia)
    ·rw[show hint+1 - min o (hint+1) - 1=hint - o by lia];exact .inr (q5.resolve_left hge)
abbrev Upk (C:Cmp prog w A E s) (l:List Keyed):Prop:=l.Pairwise λ x y=>C.rk x<=C.rk y
structure LInv (C:Cmp prog w A E s) (A B out:List Keyed) (ia ib:Nat):Prop where
 ha:ia<=A.length
 hb:ib<=B.length
 perm:out.Perm (A.take ia++B.take ib)
 up:Upk C out
 leA:∀ x∈out,∀ y∈A.drop ia,C.rk x<=C.rk y
 leB:∀ x∈out,∀ y∈B.drop ib,C.rk x<=C.rk y
theorem LInv.swap {A B out:List Keyed} (h:LInv C A B out ia ib):LInv C B A out ib ia:=⟨h.hb,h.ha,h.perm.trans z5v,h.up,h.leB,h.leA⟩
theorem LInv.pushA {A B out:List Keyed} (h:LInv C A B out ia ib) (sA:Upk C A) (hk:ia+k<=A.length) (hc:∀ x∈(A.drop ia).take k,∀ y∈B.drop ib,C.rk x<=C.rk y):LInv C A B (out++(A.drop ia).take k) (ia+k) ib:=by
 have sD:Upk C (A.drop ia):=sA.sublist (z4d _ _);have eD:A.drop ia=(A.drop ia).take k++A.drop (ia+k):=by rw[<-z5t,z39]
 refine⟨hk,h.hb,?_,?_,λ x hx y hy=>?_,λ x hx y hy=>?_⟩
 ·rw[List.take_add,z1c];refine(h.perm.append_right _).trans ?_;rw[z1c];exact z5v.append_left _
 ·exact z2w.mpr ⟨h.up,sD.sublist (z3g _ _),λ x hx y hy=>h.leA x hx y (z37 hy)⟩
 ·rcases z0f.mp hx with z | z
  ·exact h.leA x z y (by rw[eD];exact z1e _ hy)
  ·rw[eD] at sD;exact(z2w.mp sD).2.2 x z y hy
 ·rcases z0f.mp hx with z | z
  ·exact h.leB x z y hy
  ·exact hc x z y hy
theorem LInv.pushB {A B out:List Keyed} (h:LInv C A B out ia ib) (sB:Upk C B) (hk:ib+k<=B.length) (hc:∀ x∈(B.drop ib).take k,∀ y∈A.drop ia,C.rk x<=C.rk y):LInv C A B (out++(B.drop ib).take k) ia (ib+k):=(h.swap.pushA sB hk hc).swap
theorem LInv.res {A B out:List Keyed} (h:LInv C A B out ia ib) (e1:ia=A.length) (e2:ib=B.length):out.Perm (A++B)/\Upk C out:=by
 have:=h.perm;rw[e1,e2,z0x,z0x] at this;exact⟨this,h.up⟩
theorem LInv.endA {A B out:List Keyed} (h:LInv C A B out ia ib) (sA:Upk C A) (e:ib=B.length):(out++A.drop ia).Perm (A++B)/\Upk C (out++A.drop ia):=by
 have:=h.pushA sA (k:=A.length - ia) (by have:=h.ha;lia) (λ x _ y hy=>by rw[e,z57] at hy;cases hy);rw[z20 (by rw[z0y];lia)] at this;exact this.res (by have:=h.ha;lia) e
theorem LInv.endB {A B out:List Keyed} (h:LInv C A B out ia ib) (sB:Upk C B) (e:ia=A.length):(out++B.drop ib).Perm (A++B)/\Upk C (out++B.drop ib) :=
 let ⟨p,u⟩:=h.swap.endA sB e
 ⟨p.trans z5v,u⟩
theorem LInv.lastA {A B out:List Keyed} (h:LInv C A B out ia ib) (sA:Upk C A) (sB:Upk C B) (hl:∀ x∈B,∀ y∈A.drop ia,C.rk x<=C.rk y):(out++B.drop ib++A.drop ia).Perm (A++B)/\Upk C (out++B.drop ib++A.drop ia):=by
 have q:=h.pushB sB (k:=B.length - ib) (by have:=h.hb;lia) (λ x hx y hy=>hl x (z2q (z37 hx)) y hy);rw[z20 (by rw[z0y];lia)] at q;exact q.endA sA (by have:=h.hb;lia)
theorem b3b {A:List Keyed} (sA:Upk C A) (h:A[i]?=some x):∀ y∈A.drop i,C.rk x<=C.rk y:=by
 have ⟨hi,e⟩:=z0l.mp h;have sD:Upk C (A.drop i):=sA.sublist (z4d _ _);rw[z5o hi,e] at sD ⊢;intro y hy;rcases z0a.mp hy with z | z
 ·rw[z];exact z44 _
 ·exact(z3y.mp sD).1 y z
section
theorem b4y {st:SortSt} (hk:kindOf st=C.κ) (hkey:C.gd key) (hn:base+n<=arr.size) (hh:hint < n) (eD:D=(arr.toList.drop base).take n) (sD:Upk C D) (iD:∀ x∈D,C.gd x)
  (h:∀ k,k<=n->(∀ x∈D.take k,bey left (C.rk key) (C.rk x)=true)->(∀ x∈D.drop k,bey left (C.rk key) (C.rk x)=false)->Q (some k) st):wpS (model prog w) A E s (c8j left key arr base n hint) Q st:=by
 have ln:D.length=n:=by rw[eD,z16,z0y,z0q];lia
 have gt:∀ i,(hi:i < n)->(D[i]?).getD key=D[i]'(by lia):=λ i hi=>by rw[z0o (by lia)];rfl
 refine d0n hk hkey (λ i=>(D[i]?).getD key) (λ i hi=>?_) (λ i hi=>?_) hh (λ i j h1 h2=>?_) λ m hm h1 h2=>h m hm (λ x hx=>?_) λ x hx=>?_
 ·have e:D[i]?=arr[base+i]?:=by rw[eD,z6x hi,z6o,z0u]
  rw[<-e,z0o (by lia)];rfl
 ·rw[gt i hi];exact iD _ (z3j _)
 ·rw[gt i (by lia),gt j h2];rcases Nat.lt_or_eq_of_le h1 with z | z
  ·exact z32.mp sD i j (by lia) (by lia) z
  ·subst z;exact z44 _
 ·obtain⟨i,hi,e⟩:=z4r hx;rw[z16] at hi;rw[z48] at e;have:=h1 i (by lia);rw[gt i (by lia),e] at this;exact this
 ·obtain⟨i,hi,e⟩:=z4r hx;rw[z0y] at hi;rw[z4i] at e;have:=h2 (m+i) (by lia) (by lia);rw[gt (m+i) (by lia),e] at this;exact this
theorem e0b {σ α γ:Type} (R:γ->Prop) (j:γ->StateT σ Sem α) {m:StateT σ Sem α} {Q:α->σ->Prop} {st:σ} (a:∀ x,R x->wpS (model prog w) A E s (j x) Q st) (h:(∀ x,R x->wpS (model prog w) A E s (j x) Q st)->wpS (model prog w) A E s m Q st):wpS (model prog w) A E s m Q st:=h a
theorem c5j {a b:Array Keyed} {Q:Array Keyed->SortSt->Prop} {st:SortSt} (hk:kindOf st=C.κ) (iA:∀ x∈a.toList,C.gd x) (iB:∀ x∈b.toList,C.gd x) (sA:Upk C a.toList) (sB:Upk C b.toList) (nA:0 < a.size) (nB:0 < b.size)
  (first:∀ x,b[0]?=some x->∀ y∈a.toList,C.rk x<=C.rk y) (last:∀ x∈b.toList,∀ y,a[a.size - 1]?=some y->C.rk x<=C.rk y)
  (h:∀ (r:Array Keyed) st',a2f st st'->r.toList.Perm (a.toList++b.toList)->Upk C r.toList->Q r st'):wpS (model prog w) A E s (d2f a b) Q st:=by
 refine z06 (wpS_lift (z1s (And.intro rfl ?_)));have at_:∀ {xs:Array Keyed} {i:Nat},i < xs.size->∃ x,xs[i]?=some x/\xs.toList[i]?=some x/\x∈xs.toList:=λ {xs i} hi=>⟨xs[i],z23 xs i hi,by rw[z0u];exact z23 xs i hi,z6c hi⟩
 have la:a.toList.length=a.size:=z0q;have lb:b.toList.length=b.size:=z0q;have dn:∀ (out:Array Keyed) (ia ib:Nat) st',a2f st st'->LInv C a.toList b.toList out.toList ia ib->ib=b.size->Q (out++a.extract ia++b.extract ib) st':=λ out ia ib st' ss L e=>by
  have q:=L.endA sA (e.trans lb.symm);have eq:(out++a.extract ia++b.extract ib).toList=out.toList++a.toList.drop ia:=by
   rw[z21,z21,b5d,b5d,e,<-lb,z57,z19]
  exact h _ st' ss (eq ▸ q.1) (eq ▸ q.2)
 have dnA:∀ (out:Array Keyed) (ia ib:Nat) st',a2f st st'->LInv C a.toList b.toList out.toList ia ib->ia=a.size->Q (out++a.extract ia++b.extract ib) st':=λ out ia ib st' ss L e=>by
  have q:=L.endB sB (e.trans la.symm);have eq:(out++a.extract ia++b.extract ib).toList=out.toList++b.toList.drop ib:=by
   rw[z21,z21,b5d,b5d,e,<-la,z57,z19]
  exact h _ st' ss (eq ▸ q.1) (eq ▸ q.2)
 have dl:∀ (out:Array Keyed) (ia ib:Nat) st',a2f st st'->LInv C a.toList b.toList out.toList ia ib->ia+1=a.size->Q (out++b.extract ib++a.extract ia) st':=λ out ia ib st' ss L e=>by
  obtain⟨z,z1,z2,_⟩:=at_ (xs:=a) (i:=ia) (by lia);have ez:a.toList.drop ia=[z]:=by
   rw[<-a2u z2,z20 (by rw[z0y];lia)]
  have q:=L.lastA sA sB (λ x hx y hy=>by
   rw[ez] at hy;rw[z0i.mp hy];exact last x hx z (by rw[<-z1];congr 1;lia))
  have eq:(out++b.extract ib++a.extract ia).toList=out.toList++b.toList.drop ib++a.toList.drop ia:=by
   rw[z21,z21,b5d,b5d]
  exact h _ st' ss (eq ▸ q.1) (eq ▸ q.2)
 have kd:∀ {st'},a2f st st'->kindOf st'=C.κ:=λ ss=>ss.kind.trans hk
 obtain⟨x0,e0,e0',m0⟩:=at_ nB;refine z06 (a1p e0 ?_);have L1:LInv C a.toList b.toList [x0] 0 1:=by
  have L0:LInv C a.toList b.toList [] 0 0:=⟨z0m _,z0m _,by simp,.nil,by simp,by simp⟩;have q:=L0.pushB sB (k:=1) (by lia) (λ x hx y hy=>by
   rw[a2u e0'] at hx;rw[z0i.mp hx];exact first x0 e0 y (z2q hy))
  rw[a2u e0'] at q;exact q
 refine a0v (λ c1=>z07 (dn #[x0] 0 1 st (a2f.refl _) L1 (by simpa using c1))) λ c1=>?_
 refine a0v (λ c2=>z07 (dl #[x0] 0 1 st (a2f.refl _) L1 (by simpa using c2))) λ c2=>?_
 have c1':1≠b.size:=by simpa using c1
 have c2':0+1≠a.size:=by simpa using c2
 refine z06 (z2g ?_);refine z06 (z22 (z1w (I:=λ x c st'=>a2f st st'/\∃ out ia ib mg,c=(none,out,ia,ib,mg)/\LInv C a.toList b.toList out.toList ia ib/\ia+1 < a.size/\ib < b.size/\x+1<=ia+ib) (Q:=λ c st'=>∃ r o,c=(some r,o)/\Q r st') ?step ?fin (⟨a2f.refl _,nx1 (#[x0]) 0 1 _ rfl L1 (by lia) (by lia) (by lia)⟩)) ?post);case post =>
  rintro c st' ⟨r,o,rfl,q⟩;exact z07 q
 case fin =>
  rintro c st' ⟨ss,out,ia,ib,mg,rfl,L,h1,h2,h3⟩;lia
 case step =>
  rintro x c st' _ hx ⟨ss,out,ia,ib,mg,rfl,L,h1,h2,h3⟩;refine z06 (z22 (z1w (I:=λ y c st'=>a2f st st'/\∃ out' ia' ib' ac bc,c=(none,out',ia',ib',ac,bc)/\LInv C a.toList b.toList out'.toList ia' ib'/\ia'+1 < a.size/\ib' < b.size/\ia+ib+y<=ia'+ib') (Q:=λ c st'=>(∃ r o,c=(some r,o)/\Q r st')\/(a2f st st'/\∃ out' ia' ib' ac bc,c=(none,out',ia',ib',ac,bc)/\LInv C a.toList b.toList out'.toList ia' ib'/\ia'+1 < a.size/\ib' < b.size/\ia+ib+1<=ia'+ib')) ?step1 ?fin1 (⟨ss,nx23 out ia ib 0 0 rfl L h1 h2 (by lia)⟩)) ?post1);case fin1 =>
   rintro c st' ⟨ss,out',ia',ib',ac,bc,rfl,L,h1,h2,h3⟩;exact .inr (⟨ss,nx23 out' ia' ib' ac bc rfl L h1 h2 (by lia)⟩)
  case step1 =>
   rintro y c st' _ hy ⟨ss,out',ia',ib',ac,bc,rfl,L,h1,h2,h3⟩;obtain⟨xb,eb,eb',mb⟩:=at_ h2;obtain⟨xa,ea,ea',ma⟩:=at_ (xs:=a) (i:=ia') (by lia);refine z06 (a1p eb (z06 (a1p ea (z06 (C.lt (kd ss) (iB _ mb) (iA _ ma) ?_)))));by_cases hl:C.rk xb < C.rk xa
   ·rw[z08 hl];have L2:=L.pushB sB (k:=1) (by lia) (λ x hx y hy=>by
     rw[a2u eb'] at hx;rw[z0i.mp hx];have:=b3b sA ea' y hy;lia)
    rw[a2u eb',<-z3d] at L2;refine z06 (a1p eb ?_);refine a0v (λ c=>z07 (.inl (nx9 _ _ rfl (dn _ _ _ _ ss L2 (by simpa using c))))) λ c=>?_
    have c':ib'+1≠b.size:=by simpa using c
    refine a0v (λ _=>z07 (.inr (⟨ss,nx23 (out'.push xb) ia' (ib'+1) _ _ rfl L2 h1 (by lia) (by lia)⟩))) λ _=>z07 (⟨ss,nx23 (out'.push xb) ia' (ib'+1) _ _ rfl L2 h1 (by lia) (by lia)⟩)
   ·rw[z0n hl];have L2:=L.pushA sA (k:=1) (by lia) (λ x hx y hy=>by
     rw[a2u ea'] at hx;rw[z0i.mp hx];have:=b3b sB eb' y hy;lia)
    rw[a2u ea',<-z3d] at L2;refine z06 (a1p ea ?_);refine a0v (λ c=>z07 (.inl (nx9 _ _ rfl (dl _ _ _ _ ss L2 (by simpa using c))))) λ c=>?_
    have c':ia'+1+1≠a.size:=by simpa using c
    refine a0v (λ _=>z07 (.inr (⟨ss,nx23 (out'.push xa) (ia'+1) ib' _ _ rfl L2 (by lia) h2 (by lia)⟩))) λ _=>z07 (⟨ss,nx23 (out'.push xa) (ia'+1) ib' _ _ rfl L2 (by lia) h2 (by lia)⟩)
  case post1 =>
   rintro c st' (⟨r,o,rfl,q⟩ | ⟨ss,out',ia',ib',ac,bc,rfl,L,h1,h2,h4⟩)
   ·exact z07 (nx9 r _ rfl q)
   refine z06 (wpS_lift (z1s (And.intro rfl ?_)));refine z06 (z22 (z1w (I:=λ _ c st'=>a2f st st'/\∃ o2 i2 j2 mg ac bc,c=(none,o2,i2,j2,mg,ac,bc)/\LInv C a.toList b.toList o2.toList i2 j2/\i2+1 < a.size/\j2 < b.size/\ia'+ib'<=i2+j2) (Q:=λ c st'=>(∃ r o,c=(some r,o)/\Q r st')\/(a2f st st'/\∃ o2 i2 j2 mg ac bc,c=(none,o2,i2,j2,mg,ac,bc)/\LInv C a.toList b.toList o2.toList i2 j2/\i2+1 < a.size/\j2 < b.size/\ia'+ib'<=i2+j2)) ?step2 (λ c st' z=>.inr z) (⟨ss,nx32 out' ia' ib' _ ac bc rfl L h1 h2 (z05 _)⟩)) ?post2);case post2 =>
    rintro c st' (⟨r,o,rfl,q⟩ | ⟨ss,o2,i2,j2,mg,ac,bc,rfl,L,h1,h2,h5⟩)
    ·exact z07 (nx9 r _ rfl q)
    ·exact z06 (z2k (z07 (⟨ss.trans ⟨rfl,rfl,rfl,rfl⟩,nx1 o2 i2 j2 _ rfl L h1 h2 (by lia)⟩)))
   case step2 =>
    rintro y c st' _ hy ⟨ss,o2,i2,j2,mg,ac,bc,rfl,L,h1,h2,h5⟩;obtain⟨xb,eb,eb',mb⟩:=at_ h2
    extract_lets +onlyGivenNames s1 v1 s2 v2 s3 v3 s4 v4 s5 v5 v6 v7 jp
    obtain⟨j,hj⟩:∃ j,j=jp:=⟨_,rfl⟩;rw[<-hj];refine e0b (λ _=>True) (j ()) (λ g _=>?_) λ hk=>a0v (λ _=>hk _ trivial) λ _=>hk _ trivial
    subst hj;refine z06 (z2k (z06 (a1p eb (z06 (b4y (D:=a.toList.drop i2) (kd (ss.trans (a2f.mk' st' _))) (iB _ mb) (by show i2+(a.size - i2)<=a.size;lia) (by show 0 < a.size - i2;lia) (z20 (by rw[z0y,la];exact z05 _)).symm (sA.sublist (z4d _ _)) (λ x hx=>iA x (z2q hx)) λ k hkn k1 k2=>?_)))));replace hkn:k<=a.size - i2:=hkn;have sm:=λ g=>ss.trans (a2f.mk' st' g)
    rw[z5t] at k2;have Lk:=L.pushA sA (k:=k) (by lia) (λ x hx y hy=>by
     have z1:=b9c (k1 x hx);have z2:=b3b sB eb' y hy;lia)
    rw[<-b5s,<-z21] at Lk;have g3:=λ y hy=>c2z (k2 y hy)
    dsimp -zeta +zetaDelta only
    extract_lets +onlyGivenNames ac jp
    obtain⟨j,hj⟩:∃ j,j=jp:=⟨_,rfl⟩;rw[<-hj];refine e0b (γ:=Array Keyed×Nat) (λ x=>LInv C a.toList b.toList x.1.toList x.2 j2/\x.2+1 < a.size/\ia'+ib'<=x.2+j2/\∀ y∈a.toList.drop x.2,C.rk xb < C.rk y) (λ x=>j () x.1 x.2) (λ ⟨o3,i3⟩ ⟨Lk,m3,h6,g3⟩=>?_) λ hk=>a0v (λ hk0=>a0v (λ c=>z07 (.inl (nx9 _ _ rfl (dl _ _ _ _ (sm _) Lk (by simpa using c))))) λ c=>a0v (λ c=>z07 (.inl (nx9 _ _ rfl (dnA _ _ _ _ (sm _) Lk (by simpa using c))))) λ c3=>?_) λ hk0=>?_
    ·subst hj;have L4:=Lk.pushB sB (k:=1) (by lia) (λ x hx y hy=>by
      rw[a2u eb'] at hx;rw[z0i.mp hx];exact z2s (g3 y hy))
     rw[a2u eb',<-z3d] at L4;refine z06 (a1p eb (a0v (λ c=>z07 (.inl (nx9 _ _ rfl (dn _ _ _ _ (sm _) L4 (by simpa using c))))) λ c4=>?_));have c4':j2+1≠b.size:=by simpa using c4
     obtain⟨xa,ea,ea',ma⟩:=at_ (xs:=a) (i:=i3) (by lia);refine z06 (a1p ea (z06 (b4y (D:=b.toList.drop (j2+1)) (kd (sm _)) (iA _ ma) (by show j2+1+(b.size - (j2+1))<=b.size;lia) (by show 0 < b.size - (j2+1);lia) (z20 (by rw[z0y,lb];exact z05 _)).symm (sB.sublist (z4d _ _)) (λ x hx=>iB x (z2q hx)) λ k hkn k1 k2=>?_)));rw[z5t] at k2;have L5:=L4.pushB sB (k:=k) (by lia) (λ x hx y hy=>by
      have z1:=c0n (k1 x hx);have z2:=b3b sA ea' y hy;lia)
     rw[<-b5s,<-z21] at L5;dsimp -zeta +zetaDelta only
     extract_lets +onlyGivenNames ac v8 jp
     obtain⟨j,hj⟩:∃ j,j=jp:=⟨_,rfl⟩;rw[<-hj];refine e0b (γ:=Array Keyed×Nat) (λ x=>LInv C a.toList b.toList x.1.toList i3 x.2/\x.2 < b.size/\j2 < x.2/\∀ y∈b.toList.drop x.2,C.rk xa<=C.rk y) (λ x=>j () x.1 x.2) (λ ⟨o4,j3⟩ ⟨L5,h7,h8,g5⟩=>?_) λ hk=>a0v (λ hk0=>a0v (λ c=>z07 (.inl (nx9 _ _ rfl (dn _ _ _ _ (sm _) L5 (by simpa using c))))) λ c=>?_) λ hk0=>?_
     ·subst hj;have L6:=L5.pushA sA (k:=1) (by lia) (λ x hx y hy=>by
       rw[a2u ea'] at hx;rw[z0i.mp hx];exact g5 y hy)
      rw[a2u ea',<-z3d] at L6;refine z06 (a1p ea (a0v (λ c=>z07 (.inl (nx9 _ _ rfl (dl _ _ _ _ (sm _) L6 (by simpa using c))))) λ c7=>?_));have c7':i3+1+1≠a.size:=by simpa using c7
      exact a0v (λ _=>z07 (.inr (⟨sm _,nx32 _ (i3+1) j3 _ _ _ rfl L6 (by lia) (by lia) (by lia)⟩))) λ _=>z07 (⟨sm _,nx32 _ (i3+1) j3 _ _ _ rfl L6 (by lia) (by lia) (by lia)⟩)
     ·have c':j2+1+k≠b.size:=by simpa using c
      exact hk (_,j2+1+k) ⟨L5,by show j2+1+k < _;lia,by show j2 < j2+1+k;lia,λ y hy=>b7v (k2 y hy)⟩
     ·have e0:k=0:=Nat.le_zero.mp (Nat.le_of_not_lt hk0);subst e0;exact hk (_,j2+1) ⟨L4,by show j2+1 < _;lia,z4l _,λ y hy=>b7v (k2 y hy)⟩
    ·have c':i2+k+1≠a.size:=by simpa using c
     have c3':i2+k≠a.size:=by simpa using c3
     exact hk (_,i2+k) ⟨Lk,by show i2+k+1 < _;lia,by show _<=i2+k+j2;lia,g3⟩
    ·have e0:k=0:=Nat.le_zero.mp (Nat.le_of_not_lt hk0);subst e0;exact hk (o2,i2) ⟨L,h1,h5,g3⟩
end
structure HInv (C:Cmp prog w A E s) (A B tl:List Keyed) (na nb:Nat):Prop where
 ha:na<=A.length
 hb:nb<=B.length
 perm:tl.Perm (A.drop na++B.drop nb)
 up:Upk C tl
 leA:∀ x∈A.take na,∀ y∈tl,C.rk x<=C.rk y
 leB:∀ x∈B.take nb,∀ y∈tl,C.rk x<=C.rk y
theorem HInv.swap {A B tl:List Keyed} (h:HInv C A B tl na nb):HInv C B A tl nb na:=⟨h.hb,h.ha,h.perm.trans z5v,h.up,h.leB,h.leA⟩
theorem HInv.pushA {A B tl:List Keyed} (h:HInv C A B tl na nb) (sA:Upk C A) (hk:k<=na) (hc:∀ x∈(A.take na).drop k,∀ y∈B.take nb,C.rk y<=C.rk x):HInv C A B ((A.take na).drop k++tl) k nb:=by
 have sT:Upk C (A.take na):=sA.sublist (z3g _ _);have e1:A.take na=A.take k++(A.take na).drop k:=by
  have:=z39 k (A.take na);rw[List.take_take,z4o hk] at this;exact this.symm
 have e2:A.drop k=(A.take na).drop k++A.drop na:=by
  have z:=z39 na A;have z2:A.drop k=(A.take na++A.drop na).drop k:=by rw[z]
  rw[z2,List.drop_append_of_le_length (by rw[z16];have:=h.ha;lia)]
 refine⟨z0s hk h.ha,h.hb,?_,?_,λ x hx y hy=>?_,λ x hx y hy=>?_⟩
 ·rw[e2,z1c];exact h.perm.append_left _
 ·exact z2w.mpr ⟨sT.sublist (z4d _ _),h.up,λ x hx y hy=>h.leA x (z2q hx) y hy⟩
 ·have hx':x∈A.take na:=by rw[e1];exact z1x _ hx
  rcases z0f.mp hy with z | z
  ·rw[e1] at sT;exact(z2w.mp sT).2.2 x hx y z
  ·exact h.leA x hx' y z
 ·rcases z0f.mp hy with z | z
  ·exact hc y z x hx
  ·exact h.leB x hx y z
theorem HInv.pushB {A B tl:List Keyed} (h:HInv C A B tl na nb) (sB:Upk C B) (hk:k<=nb) (hc:∀ x∈(B.take nb).drop k,∀ y∈A.take na,C.rk y<=C.rk x):HInv C A B ((B.take nb).drop k++tl) na k:=(h.swap.pushA sB hk hc).swap
theorem HInv.endA {A B tl:List Keyed} (h:HInv C A B tl na nb) (sA:Upk C A) (e:nb=0):(A.take na++tl).Perm (A++B)/\Upk C (A.take na++tl):=by
 subst e;have q:=h.pushA sA (z0m na) (λ x _ y hy=>by cases hy);exact⟨q.perm,q.up⟩
theorem HInv.endB {A B tl:List Keyed} (h:HInv C A B tl na nb) (sB:Upk C B) (e:na=0):(B.take nb++tl).Perm (A++B)/\Upk C (B.take nb++tl) :=
 let ⟨p,u⟩:=h.swap.endA sB e
 ⟨p.trans z5v,u⟩
theorem HInv.firstB {A B tl:List Keyed} (h:HInv C A B tl na nb) (sA:Upk C A) (sB:Upk C B) (hl:∀ x∈A,∀ y∈B.take nb,C.rk y<=C.rk x):(B.take nb++(A.take na++tl)).Perm (A++B)/\Upk C (B.take nb++(A.take na++tl)):=by
 have q:=h.pushA sA (z0m na) (λ x hx y hy=>hl x (z37 (z2q hx)) y hy);exact q.endB sB rfl
theorem b2o {A:List Keyed} (sA:Upk C A) (h:A[i]?=some x):∀ y∈A.take (i+1),C.rk y<=C.rk x:=by
 have ⟨hi,e⟩:=z0l.mp h;have sT:Upk C (A.take (i+1)):=sA.sublist (z3g _ _);rw[z6w hi,e] at sT ⊢;intro y hy;rcases z0f.mp hy with z | z
 ·exact(z2w.mp sT).2.2 y z x (z0i.mpr rfl)
 ·rw[z0i.mp z];exact z44 _
section
theorem c5e {a b:Array Keyed} {Q:Array Keyed->SortSt->Prop} {st:SortSt} (hk:kindOf st=C.κ) (iA:∀ x∈a.toList,C.gd x) (iB:∀ x∈b.toList,C.gd x) (sA:Upk C a.toList) (sB:Upk C b.toList) (nA:0 < a.size) (nB:0 < b.size)
  (first:∀ x,b[0]?=some x->∀ y∈a.toList,C.rk x<=C.rk y) (last:∀ x∈b.toList,∀ y,a[a.size - 1]?=some y->C.rk x<=C.rk y)
  (h:∀ (r:Array Keyed) st',a2f st st'->r.toList.Perm (a.toList++b.toList)->Upk C r.toList->Q r st'):wpS (model prog w) A E s (d3g a b) Q st:=by
 refine z06 (wpS_lift (z1s (And.intro rfl ?_)));have at_:∀ {xs:Array Keyed} {i:Nat},i < xs.size->∃ x,xs[i]?=some x/\xs.toList[i]?=some x/\x∈xs.toList:=λ {xs i} hi=>⟨xs[i],z23 xs i hi,by rw[z0u];exact z23 xs i hi,z6c hi⟩
 have la:a.toList.length=a.size:=z0q;have lb:b.toList.length=b.size:=z0q;have dnA:∀ (out:Array Keyed) (na nb:Nat) st',a2f st st'->HInv C a.toList b.toList out.toList.reverse na nb->na=0->Q (a.extract 0 na++b.extract 0 nb++out.reverse) st':=λ out na nb st' ss L e=>by
  have q:=L.endB sB e;have eq:(a.extract 0 na++b.extract 0 nb++out.reverse).toList=b.toList.take nb++out.toList.reverse:=by
   rw[z21,z21,a7g,a7g,e,List.take_zero,List.nil_append,z5m]
  exact h _ st' ss (eq ▸ q.1) (eq ▸ q.2)
 have dnB:∀ (out:Array Keyed) (na nb:Nat) st',a2f st st'->HInv C a.toList b.toList out.toList.reverse na nb->nb=0->Q (a.extract 0 na++b.extract 0 nb++out.reverse) st':=λ out na nb st' ss L e=>by
  have q:=L.endA sA e;have eq:(a.extract 0 na++b.extract 0 nb++out.reverse).toList=a.toList.take na++out.toList.reverse:=by
   rw[z21,z21,a7g,a7g,e,List.take_zero,z19,z5m]
  exact h _ st' ss (eq ▸ q.1) (eq ▸ q.2)
 have fb:∀ (out:Array Keyed) (na nb:Nat) st',a2f st st'->HInv C a.toList b.toList out.toList.reverse na nb->nb=1->Q (b.extract 0 nb++a.extract 0 na++out.reverse) st':=λ out na nb st' ss L e=>by
  obtain⟨z,z1,z2,_⟩:=at_ nB;have q:=L.firstB sA sB (λ x hx y hy=>by
   rw[e] at hy;have ey:b.toList.take 1=[z]:=by
    have:=a2u z2;rw[z4m] at this;exact this
   rw[ey] at hy;rw[z0i.mp hy];exact first z z1 x hx)
  have eq:(b.extract 0 nb++a.extract 0 na++out.reverse).toList=b.toList.take nb++(a.toList.take na++out.toList.reverse):=by
   rw[z21,z21,a7g,a7g,z5m,z1c]
  exact h _ st' ss (eq ▸ q.1) (eq ▸ q.2)
 have kd:∀ {st'},a2f st st'->kindOf st'=C.κ:=λ ss=>ss.kind.trans hk
 obtain⟨x0,e0,e0',m0⟩:=at_ (xs:=a) (i:=a.size - 1) (by lia);refine z06 (a1p e0 ?_);have push1:∀ (out:Array Keyed) (x:Keyed),[x]++out.toList.reverse=(out.push x).toList.reverse:=λ out x=>by rw[z3d,List.reverse_append];rfl
 have pushA1:∀ {out:Array Keyed} {na nb:Nat} {x:Keyed},HInv C a.toList b.toList out.toList.reverse (na+1) nb->a.toList[na]?=some x->(∀ y∈b.toList.take nb,C.rk y<=C.rk x)->HInv C a.toList b.toList (out.push x).toList.reverse na nb:=λ {out na nb x} L e hc=>by
  have q:=L.pushA sA (z3o na) (λ z hz y hy=>by
   rw[a8s e] at hz;rw[z0i.mp hz];exact hc y hy)
  rw[a8s e,push1] at q;exact q
 have pushB1:∀ {out:Array Keyed} {na nb:Nat} {x:Keyed},HInv C a.toList b.toList out.toList.reverse na (nb+1)->b.toList[nb]?=some x->(∀ y∈a.toList.take na,C.rk y<=C.rk x)->HInv C a.toList b.toList (out.push x).toList.reverse na nb:=λ {out na nb x} L e hc=>by
  have q:=L.pushB sB (z3o nb) (λ z hz y hy=>by
   rw[a8s e] at hz;rw[z0i.mp hz];exact hc y hy)
  rw[a8s e,push1] at q;exact q
 have L1:HInv C a.toList b.toList (#[x0]:Array Keyed).toList.reverse (a.size - 1) b.size:=by
  have L0:HInv C a.toList b.toList (#[]:Array Keyed).toList.reverse (a.size - 1+1) b.size:=⟨by lia,by lia,by
   rw[show a.size - 1+1=a.toList.length by lia,<-lb,z57,z57];exact List.Perm.refl _,.nil,(λ x _ y hy=>by simp at hy),λ x _ y hy=>by simp at hy⟩
  exact pushA1 L0 e0' (λ y hy=>last y (z37 hy) x0 e0)
 refine a0v (λ c1=>z07 (dnA #[x0] _ _ st (a2f.refl _) L1 (by simpa using c1))) λ c1=>?_
 refine a0v (λ c2=>z07 (fb #[x0] _ _ st (a2f.refl _) L1 (by simpa using c2))) λ c2=>?_
 have c1':a.size - 1≠0:=by simpa using c1
 have c2':b.size≠1:=by simpa using c2
 refine z06 (z2g ?_);refine z06 (z22 (z1w (I:=λ x c st'=>a2f st st'/\∃ na nb out mg,c=(none,na+1,nb+2,out,mg)/\HInv C a.toList b.toList out.toList.reverse (na+1) (nb+2)/\na+nb+4+x<=a.size+b.size) (Q:=λ c st'=>∃ r o,c=(some r,o)/\Q r st') ?step ?fin (⟨a2f.refl _,nx2 (a.size - 2) (b.size - 2) (nx0 (#[x0]) _ (by rw[show a.size - 2+1=a.size - 1 by lia,show b.size - 2+2=b.size by lia]) (by rw[show a.size - 2+1=a.size - 1 by lia,show b.size - 2+2=b.size by lia];exact L1) (by lia))⟩)) ?post);case post =>
  rintro c st' ⟨r,o,rfl,q⟩;exact z07 q
 case fin =>
  rintro c st' ⟨ss,na,nb,out,mg,rfl,L,h3⟩;lia
 case step =>
  rintro x c st' _ hx ⟨ss,na,nb,out,mg,rfl,L,h3⟩;refine z06 (z22 (z1w (I:=λ y c st'=>a2f st st'/\∃ n2 m2 out' ac bc,c=(none,n2+1,m2+2,out',ac,bc)/\HInv C a.toList b.toList out'.toList.reverse (n2+1) (m2+2)/\n2+m2+y<=na+nb) (Q:=λ c st'=>(∃ r o,c=(some r,o)/\Q r st')\/(a2f st st'/\∃ n2 m2 out' ac bc,c=(none,n2+1,m2+2,out',ac,bc)/\HInv C a.toList b.toList out'.toList.reverse (n2+1) (m2+2)/\n2+m2+1<=na+nb)) ?step1 ?fin1 (⟨ss,nx25 na nb out 0 0 rfl L (by lia)⟩)) ?post1);case fin1 =>
   rintro c st' ⟨ss,n2,m2,out',ac,bc,rfl,L,h3⟩;exact .inr (⟨ss,nx25 n2 m2 out' ac bc rfl L (by lia)⟩)
  case step1 =>
   rintro y c st' _ hy ⟨ss,n2,m2,out',ac,bc,rfl,L,h3⟩;have hla:=L.ha;have hlb:=L.hb;obtain⟨xb,eb,eb',mb⟩:=at_ (xs:=b) (i:=m2+1) (by lia);obtain⟨xa,ea,ea',ma⟩:=at_ (xs:=a) (i:=n2) (by lia);refine z06 (a1p eb (z06 (a1p ea (z06 (C.lt (kd ss) (iB _ mb) (iA _ ma) ?_)))));by_cases hl:C.rk xb < C.rk xa
   ·rw[z08 hl];have L2:=pushA1 L ea' (λ y hy=>by have:=b2o sB eb' y hy;lia);refine z06 (a1p ea (a0v (λ c=>z07 (.inl (nx9 _ _ rfl (dnA _ _ _ _ ss L2 (by simpa using c))))) λ c=>?_));have c':n2≠0:=by simpa using c
    obtain⟨n3,rfl⟩:∃ n3,n2=n3+1:=⟨n2 - 1,by lia⟩;exact a0v (λ _=>z07 (.inr (⟨ss,nx25 n3 m2 (out'.push xa) _ _ rfl L2 (by lia)⟩))) λ _=>z07 (⟨ss,nx25 n3 m2 (out'.push xa) _ _ rfl L2 (by lia)⟩)
   ·rw[z0n hl];have L2:=pushB1 L eb' (λ y hy=>by have:=b2o sA ea' y hy;lia);refine z06 (a1p eb (a0v (λ c=>z07 (.inl (nx9 _ _ rfl (fb _ _ _ _ ss L2 (by simpa using c))))) λ c=>?_));have c':m2≠0:=by simpa using c
    obtain⟨m3,rfl⟩:∃ m3,m2=m3+1:=⟨m2 - 1,by lia⟩;exact a0v (λ _=>z07 (.inr (⟨ss,nx25 n2 m3 (out'.push xb) _ _ rfl L2 (by lia)⟩))) λ _=>z07 (⟨ss,nx25 n2 m3 (out'.push xb) _ _ rfl L2 (by lia)⟩)
  case post1 =>
   rintro c st' (⟨r,o,rfl,q⟩ | ⟨ss,n1,m1,out',ac,bc,rfl,L,h4⟩)
   ·exact z07 (nx9 r _ rfl q)
   refine z06 (wpS_lift (z1s (And.intro rfl ?_)));refine z06 (z22 (z1w (I:=λ _ c st'=>a2f st st'/\∃ n2 m2 o2 mg ac bc,c=(none,n2+1,m2+2,o2,mg,ac,bc)/\HInv C a.toList b.toList o2.toList.reverse (n2+1) (m2+2)/\n2+m2<=n1+m1) (Q:=λ c st'=>(∃ r o,c=(some r,o)/\Q r st')\/(a2f st st'/\∃ n2 m2 o2 mg ac bc,c=(none,n2+1,m2+2,o2,mg,ac,bc)/\HInv C a.toList b.toList o2.toList.reverse (n2+1) (m2+2)/\n2+m2<=n1+m1)) ?step2 (λ c st' z=>.inr z) (⟨ss,nx10 n1 m1 out' (nx21 _ ac bc rfl L (z05 _))⟩)) ?post2);case post2 =>
    rintro c st' (⟨r,o,rfl,q⟩ | ⟨ss,n2,m2,o2,mg,ac,bc,rfl,L,h5⟩)
    ·exact z07 (nx9 r _ rfl q)
    ·exact z06 (z2k (z07 (⟨ss.trans ⟨rfl,rfl,rfl,rfl⟩,nx2 n2 m2 (nx0 o2 _ rfl L (by lia))⟩)))
   case step2 =>
    rintro y c st' _ hy ⟨ss,n2,m2,o2,mg,ac,bc,rfl,L,h5⟩;have hla:=L.ha;have hlb:=L.hb;obtain⟨xb,eb,eb',mb⟩:=at_ (xs:=b) (i:=m2+1) (by lia)
    extract_lets +onlyGivenNames s1 v1 s2 v2 s3 v3 s4 v4 s5 v5 v6 v7 jp
    obtain⟨j,hj⟩:∃ j,j=jp:=⟨_,rfl⟩;rw[<-hj];refine e0b (λ _=>True) (j ()) (λ g _=>?_) λ hk=>a0v (λ _=>hk _ trivial) λ _=>hk _ trivial
    subst hj;refine z06 (z2k (z06 (a1p eb (z06 (b4y (D:=a.toList.take (n2+1)) (kd (ss.trans (a2f.mk' st' _))) (iB _ mb) (by show 0+(n2+1)<=a.size;lia) (by show n2+1 - 1 < n2+1;lia) (by rw[z4m]) (sA.sublist (z3g _ _)) (λ x hx=>iA x (z37 hx)) λ k hkn k1 k2=>?_)))));replace hkn:k<=n2+1:=hkn;have sm:=λ g=>ss.trans (a2f.mk' st' g)
    rw[List.take_take,z4o hkn] at k1;have Lk:=L.pushA sA hkn (λ x hx y hy=>by
     have z1:=c2z (k2 x hx);have z2:=b2o sB eb' y hy;lia)
    have eo:(a.toList.take (n2+1)).drop k++o2.toList.reverse=(o2++(a.extract k (n2+1)).reverse).toList.reverse:=by
     rw[z21,List.reverse_append,z5m,List.reverse_reverse,c2v]
    rw[eo] at Lk;have g3:∀ y∈a.toList.take k,C.rk y<=C.rk xb:=λ y hy=>b9c (k1 y hy)
    dsimp -zeta +zetaDelta only
    extract_lets +onlyGivenNames kk ac jp
    obtain⟨j,hj⟩:∃ j,j=jp:=⟨_,rfl⟩;rw[<-hj];refine e0b (γ:=Nat×Array Keyed) (λ x=>HInv C a.toList b.toList x.2.toList.reverse (x.1+1) (m2+2)/\x.1+m2<=n1+m1/\∀ y∈a.toList.take (x.1+1),C.rk y<=C.rk xb) (λ x=>j () (x.1+1) x.2) (λ ⟨n3,o3⟩ ⟨Lk,h6,g3⟩=>?_) λ hk=>a0v (λ hk0=>a0v (λ c=>z07 (.inl (nx9 _ _ rfl (dnA _ _ _ _ (sm _) Lk (by simpa using c))))) λ c=>?_) λ hk0=>?_
    ·subst hj;have hla:=Lk.ha;have L4:=pushB1 Lk eb' g3;refine z06 (a1p eb (a0v (λ c=>z07 (.inl (nx9 _ _ rfl (fb _ _ _ _ (sm _) L4 (by simpa using c))))) λ c4=>?_));have c4':m2≠0:=by simpa using c4
     obtain⟨xa,ea,ea',ma⟩:=at_ (xs:=a) (i:=n3) (by lia);refine z06 (a1p ea (z06 (b4y (D:=b.toList.take (m2+1)) (kd (sm _)) (iA _ ma) (by show 0+(m2+1)<=b.size;lia) (by show m2+1 - 1 < m2+1;lia) (by rw[z4m];rfl) (sB.sublist (z3g _ _)) (λ x hx=>iB x (z37 hx)) λ k hkn k1 k2=>?_)));replace hkn:k<=m2+1:=hkn;rw[List.take_take,z4o hkn] at k1;have L5:=L4.pushB sB hkn (λ x hx y hy=>by
      have z1:=b7v (k2 x hx);have z2:=b2o sA ea' y hy;lia)
     have eo:∀ (o:Array Keyed),(b.toList.take (m2+1)).drop k++o.toList.reverse=(o++(b.extract k (m2+1)).reverse).toList.reverse:=λ o=>by
      rw[z21,List.reverse_append,z5m,List.reverse_reverse,c2v]
     rw[eo] at L5;dsimp -zeta +zetaDelta only
     extract_lets +onlyGivenNames kk ac v8 jp
     obtain⟨j,hj⟩:∃ j,j=jp:=⟨_,rfl⟩;rw[<-hj];refine e0b (γ:=Nat×Array Keyed) (λ x=>HInv C a.toList b.toList x.2.toList.reverse (n3+1) (x.1+2)/\x.1<=m2/\∀ y∈b.toList.take (x.1+2),C.rk y<=C.rk xa) (λ x=>j () (x.1+2) x.2) (λ ⟨m3,o4⟩ ⟨L5,h7,g5⟩=>?_) λ hk=>a0v (λ hk0=>a0v (λ c=>z07 (.inl (nx9 _ _ rfl (fb _ _ _ _ (sm _) L5 (by simpa using c))))) λ c=>a0v (λ c=>z07 (.inl (nx9 _ _ rfl (dnB _ _ _ _ (sm _) L5 (by simpa using c))))) λ c2=>?_) λ hk0=>?_
     ·subst hj;have L6:=pushA1 L5 ea' g5;refine z06 (a1p ea (a0v (λ c=>z07 (.inl (nx9 _ _ rfl (dnA _ _ _ _ (sm _) L6 (by simpa using c))))) λ c7=>?_));have c7':n3≠0:=by simpa using (show ¬ (n3 == 0)=true from c7)
      obtain⟨n4,rfl⟩:∃ n4,n3=n4+1:=⟨n3 - 1,by lia⟩;exact a0v (λ _=>z07 (.inr (⟨sm _,nx10 n4 m3 _ (nx21 _ _ _ rfl L6 (by lia))⟩))) λ _=>z07 (⟨sm _,nx10 n4 m3 _ (nx21 _ _ _ rfl L6 (by lia))⟩)
     ·have c':k≠1:=by simpa using c
      have c2':k≠0:=by simpa using c2
      obtain⟨m3,rfl⟩:∃ m3,k=m3+2:=⟨k - 2,by lia⟩;exact hk (m3,_) ⟨L5,by show m3<=_;lia,λ y hy=>z2s (c0n (k1 y hy))⟩
     ·have e0:k=m2+1:=by
       have z:¬ m2+1 - k > 0:=hk0;lia
      subst e0;obtain⟨m3,rfl⟩:∃ m3,m2=m3+1:=⟨m2 - 1,by lia⟩;exact hk (m3,_) ⟨L4,by show m3<=_;lia,λ y hy=>z2s (c0n (k1 y hy))⟩
    ·have c':k≠0:=by simpa using c
     obtain⟨n3,rfl⟩:∃ n3,k=n3+1:=⟨k - 1,by lia⟩;exact hk (n3,_) ⟨Lk,by show n3+m2<=_;lia,g3⟩
    ·have e0:k=n2+1:=by
      have z:¬ n2+1 - k > 0:=hk0;lia
     subst e0;exact hk (n2,o2) ⟨L,h5,g3⟩
end
structure Sb (C:Cmp prog w A E s) (a₀:Array Keyed) (pd:Array (Nat×Nat×Nat)) (lo:Nat) (xs:Array Keyed) (st:SortSt):Prop where
 perm:(arrOf st).Perm a₀
 kind:kindOf st=C.κ
 fail:failedOf st=none
 pend:pendingOf st=pd
 low:∀ k,k < lo->(arrOf st)[k]?=xs[k]?
def Rise (C:Cmp prog w A E s) (xs:Array Keyed) (lo hi:Nat):Prop:=∀ i j,lo<=i->i<=j->j < hi->Kc C xs i<=Kc C xs j
def Fall (C:Cmp prog w A E s) (xs:Array Keyed) (lo hi:Nat):Prop:=∀ i j,lo<=i->i<=j->j < hi->Kc C xs j<=Kc C xs i
section
variable {a₀ xs:Array Keyed} {pd:Array (Nat×Nat×Nat)} {lo:Nat} {st:SortSt}
theorem Sb.size (h:Sb C a₀ pd lo xs st):(arrOf st).size=a₀.size:=h.perm.size_eq
theorem Sb.set (h:Sb C a₀ pd lo xs st) (p:ys.Perm (arrOf st)) (l:∀ k,k < lo->ys[k]?=(arrOf st)[k]?):Sb C a₀ pd lo xs (setArr st ys):=⟨p.trans h.perm,h.kind,h.fail,h.pend,λ k hk=>(l k hk).trans (h.low k hk)⟩
theorem Sb.mir (h:Sb C a₀ pd lo xs st) (hi:lo<=i) (hj:j<=a₀.size):Sb C a₀ pd lo xs (setArr st (mirror (arrOf st) i j ((j - i) / 2))) :=
 h.set (mirror_perm _ _ _ _) λ k hk=>by
  rw[getElem?_mirror_all (by rw[h.size];exact hj),z01 (by lia)]
theorem ltk (h:Sb C a₀ pd lo xs st) (h0:∀ x∈a₀.toList,C.gd x) (hi:i < a₀.size) (hj:j < a₀.size) (q1:Kc C (arrOf st) i < Kc C (arrOf st) j->Q (some true) st) (q2:¬ Kc C (arrOf st) i < Kc C (arrOf st) j->Q (some false) st):wpS (model prog w) A E s (ltAt' i j) Q st:=by
 have hi':i < (arrOf st).size:=by rw[h.size];exact hi
 have hj':j < (arrOf st).size:=by rw[h.size];exact hj
 have e1:=z23 (arrOf st) i hi';have e2:=z23 (arrOf st) j hj';have g1:=h0 _ ((z53.mp h.perm).mem_iff.mp (z6c hi'));have g2:=h0 _ ((z53.mp h.perm).mem_iff.mp (z6c hj'));have k1:Kc C (arrOf st) i=C.rk (arrOf st)[i]:=by unfold Kc;rw[e1]
 have k2:Kc C (arrOf st) j=C.rk (arrOf st)[j]:=by unfold Kc;rw[e2]
 refine z06 (z2g ?_);refine z06 (a1p e1 (z06 (a1p e2 (C.lt h.kind g1 g2 ?_))));rw[<-k1,<-k2];by_cases c:Kc C (arrOf st) i < Kc C (arrOf st) j
 ·rw[z08 c];exact q1 c
 ·rw[z0n c];exact q2 c
theorem c3v (xs:Array Keyed) (lo:Nat):Rise C xs lo (lo+1):=λ i j h1 h2 h3=>by
 have:i=j:=by lia
 subst this;exact z44 _
theorem c6t (h:Rise C xs lo hi) (hl:lo < hi) (n:¬ Kc C xs hi < Kc C xs (hi - 1)):Rise C xs lo (hi+1):=λ i j h1 h2 h3=>by
 by_cases c:j < hi
 ·exact h i j h1 h2 c
 ·have ej:j=hi:=by lia
  subst ej;by_cases ci:i=j
  ·subst ci;exact z44 _
  ·have:=h i (j - 1) h1 (by lia) (by lia);lia
theorem a6i (h:Fall C xs lo hi) (hl:lo < hi) (n:Kc C xs hi<=Kc C xs (hi - 1)):Fall C xs lo (hi+1):=λ i j h1 h2 h3=>by
 by_cases c:j < hi
 ·exact h i j h1 h2 c
 ·have ej:j=hi:=by lia
  subst ej;by_cases ci:i=j
  ·subst ci;exact z44 _
  ·have:=h i (j - 1) h1 (by lia) (by lia);lia
theorem Fall.eq (h:Fall C xs lo hi) (e:∀ k,Kc C ys k=Kc C xs k):Fall C ys lo hi:=λ i j h1 h2 h3=>by
 rw[e,e];exact h i j h1 h2 h3
theorem d6i
  (hf:∀ x n (R:ForInStep (Option (Option Nat)×Nat)->SortSt->Prop),a<=n->n < nrem->(Kc C (arrOf st) (lo+n) < Kc C (arrOf st) (lo+n - 1)->R (ForInStep.done (none,n)) st)->(¬ Kc C (arrOf st) (lo+n) < Kc C (arrOf st) (lo+n - 1)->R (ForInStep.yield (none,n+1)) st)->wpS (model prog w) A E s (f x (none,n)) R st)
  (ha:1<=a) (han:a<=nrem) (hs:Rise C (arrOf st) lo (lo+a)) (h:∀ n,a<=n->n<=nrem->Rise C (arrOf st) lo (lo+n)->(n=nrem\/Kc C (arrOf st) (lo+n) < Kc C (arrOf st) (lo+n - 1))->Q (none,n) st):wpS (model prog w) A E s (forIn [a:nrem] (none,a) f) Q st:=by
 refine z1w (I:=λ x c st'=>st'=st/\c=(none,x)/\Rise C (arrOf st) lo (lo+x)) ?_ ?_ ⟨rfl,rfl,hs⟩
 ·rintro x c st' h1 h2 ⟨rfl,rfl,hr⟩;exact hf x x _ h1 h2 (λ z=>h x h1 (by lia) hr (.inr z)) λ z=>⟨rfl,rfl,c6t (hi:=lo+x) hr (by lia) z⟩
 ·rintro c st' ⟨rfl,rfl,hr⟩;rw[show max a nrem=nrem by lia] at hr ⊢;exact h nrem han (z05 _) hr (.inl rfl)
theorem d4k (h0:∀ x∈a₀.toList,C.gd x) (hn:lo+nrem<=a₀.size) (h1:1<=nrem) (hB:Sb C a₀ pd lo xs st) (h:∀ m st',Sb C a₀ pd lo xs st'->1<=m->m<=nrem->Rise C (arrOf st') lo (lo+m)->Q (some m) st'):wpS (model prog w) A E s (countRun' lo nrem) Q st:=by
 refine z06 (d6i (lo:=lo) (λ x n R a1 a2 r1 r2=>z06 (ltk hB h0 (by show lo+n < a₀.size;lia) (by show lo+n - 1 < a₀.size;lia) (λ z=>z07 (r1 z)) λ z=>z07 (r2 z))) (z05 1) h1 (c3v _ _) λ n n1 n2 hr hor=>?_);refine a0v (λ c=>z07 (h n st hB n1 n2 hr)) λ c=>?_
 have c':n≠nrem:=by simpa using c
 have hlt:=hor.resolve_left c';refine a0v (λ c2=>z06 (ltk hB h0 (by lia) (by lia) (λ z=>z07 (h n st hB n1 n2 hr)) λ z=>z06 (wpS_reverse ?_))) λ c2=>?_
 replace z:¬ Kc C (arrOf st) lo < Kc C (arrOf st) (lo+n - 1):=z;have eqK:∀ k,Kc C (mirror (arrOf st) lo (lo+n) ((lo+n - lo) / 2)) k=Kc C (arrOf st) k:=λ k=>by
  rw[a6v (by rw[hB.size];lia)];split
  ·next q =>
   have z1:=hr lo k (z05 _) q.1 q.2;have z2:=hr k (lo+n - 1) q.1 (by lia) (by lia);have z3:=hr lo (lo+(lo+n) - 1 - k) (z05 _) (by lia) (by lia);have z4:=hr (lo+(lo+n) - 1 - k) (lo+n - 1) (by lia) (by lia) (by lia);lia
  ·rfl
 have fl:Fall C (mirror (arrOf st) lo (lo+n) ((lo+n - lo) / 2)) lo (lo+n+1):=by
  refine Fall.eq (a6i (λ i j a1 a2 a3=>?_) (by lia) (z2s hlt)) eqK;have z1:=hr lo i (z05 _) a1 (by lia);have z2:=hr j (lo+n - 1) (by lia) (by lia) (by lia);lia
 have hB2:=hB.mir (i:=lo) (j:=lo+n) (z05 _) (by lia);generalize hst2:setArr st (mirror (arrOf st) lo (lo+n) ((lo+n - lo) / 2))=st2 at hB2 ⊢;replace fl:Fall C (arrOf st2) lo (lo+n+1):=by rw[<-hst2];exact fl
 clear eqK hst2
 rotate_left
 have hB2:=hB;have fl:Fall C (arrOf st) lo (lo+n+1):=by
  have en:n=1:=by lia
  refine a6i (λ i j a1 a2 a3=>?_) (by lia) (z2s hlt);have:i=j:=by lia
  subst this;exact z44 _
 generalize st=st2 at hB2 fl ⊢
 rotate_left
 all_goals
  clear hB hr hor hlt c c2;refine z06 (wpS_lift (z1s (And.intro rfl ?_)));refine z06 (z22 (z1w (I:=λ x c st'=>∃ neq,c=(none,x,neq)/\Sb C a₀ pd lo xs st'/\Fall C (arrOf st') lo (lo+x)/\neq+1<=x/\∀ i,lo+x - (neq+1)<=i->i < lo+x->Kc C (arrOf st') i=Kc C (arrOf st') (lo+x - 1)) (Q:=λ c st'=>∃ m neq,c=(none,m,neq)/\m<=nrem/\Sb C a₀ pd lo xs st'/\Fall C (arrOf st') lo (lo+m)/\neq+1<=m/\∀ i,lo+m - (neq+1)<=i->i < lo+m->Kc C (arrOf st') i=Kc C (arrOf st') (lo+m - 1)) ?_ ?_ ⟨0,rfl,hB2,fl,by lia,λ i a1 a2=>by congr 1;lia⟩) ?_)
  ·rintro x c st' a1 a2 ⟨neq,rfl,hB3,f3,q3,e3⟩;refine z06 (ltk hB3 h0 (by show lo+x < a₀.size;lia) (by show lo+x - 1 < a₀.size;lia) (λ z=>?_) λ z=>?_)
   ·refine a0v (λ _=>?_) λ n=>absurd rfl n
    refine a0v (λ z2=>?_) λ z2=>?_
    ·refine z06 (wpS_reverse (z07 ?_));refine⟨0,rfl,hB3.mir (by show lo<=lo+x - (neq+1);lia) (by show lo+x<=a₀.size;lia),Fall.eq (a6i (hi:=lo+x) f3 (by lia) (z2s z)) ?_,by lia,λ i b1 b2=>by congr 1;lia⟩;intro k;show Kc C (mirror (arrOf st') (lo+x - (neq+1)) (lo+x) ((lo+x - (lo+x - (neq+1))) / 2)) k=Kc C (arrOf st') k;rw[a6v (by rw[hB3.size];lia)];split
     ·next q=>rw[e3 k q.1 q.2,e3 _ (by lia) (by lia)]
     ·rfl
    ·refine z07 ?_;exact⟨0,rfl,hB3,a6i (hi:=lo+x) f3 (by lia) (z2s z),by lia,λ i b1 b2=>by congr 1;lia⟩
   ·refine a0v (λ n=>by cases n) λ _=>?_
    refine z06 (ltk hB3 h0 (by show lo+x - 1 < a₀.size;lia) (by show lo+x < a₀.size;lia) (λ z2=>z07 ?_) λ z2=>z07 ?_)
    ·exact nx27 x neq rfl (by lia) hB3 f3 q3 e3
    have ex:Kc C (arrOf st') (lo+x)=Kc C (arrOf st') (lo+x - 1):=by
     have z':¬ Kc C (arrOf st') (lo+x) < Kc C (arrOf st') (lo+x - 1):=z;have z2':¬ Kc C (arrOf st') (lo+x - 1) < Kc C (arrOf st') (lo+x):=z2;lia
    refine⟨neq+1,rfl,hB3,a6i (hi:=lo+x) f3 (by lia) (by lia),by lia,λ i b1 b2=>?_⟩;rw[show lo+(x+1) - 1=lo+x by lia];by_cases ci:i=lo+x
    ·rw[ci]
    ·rw[e3 i (by lia) (by lia),ex]
  ·rintro c st' ⟨neq,rfl,hB3,f3,q3,e3⟩;rw[show max (n+1) nrem=nrem by lia] at f3 q3 e3 ⊢;exact nx27 nrem neq rfl (z05 _) hB3 f3 q3 e3
  ·rintro c st' ⟨m,neq,rfl,mn,hB3,f3,q3,e3⟩;refine a0v (λ z2=>z06 (wpS_reverse ?_)) λ z2=>?_
   have f4:Fall C (mirror (arrOf st') (lo+m - (neq+1)) (lo+m) ((lo+m - (lo+m - (neq+1))) / 2)) lo (lo+m):=Fall.eq f3 λ k=>by
    rw[a6v (by rw[hB3.size];lia)];split
    ·next q=>rw[e3 k q.1 q.2,e3 _ (by lia) (by lia)]
    ·rfl
   have hB4:=hB3.mir (i:=lo+m - (neq+1)) (j:=lo+m) (by lia) (by lia);generalize hst2:setArr st' (mirror (arrOf st') (lo+m - (neq+1)) (lo+m) ((lo+m - (lo+m - (neq+1))) / 2))=st4 at hB4 ⊢;replace f4:Fall C (arrOf st4) lo (lo+m):=by rw[<-hst2];exact f4
   clear hst2
   rotate_left
   have f4:=f3;have hB4:=hB3;generalize st'=st4 at hB4 f4 ⊢
   rotate_left
   all_goals
    refine z06 (wpS_reverse (?_));have hB5:=hB4.mir (i:=lo) (j:=lo+m) (z05 _) (by lia);refine z06 (d6i (lo:=lo) (a:=m) (λ x n R a1 a2 r1 r2=>z06 (ltk hB5 h0 (by show lo+n < a₀.size;lia) (by show lo+n - 1 < a₀.size;lia) (λ z=>z07 (r1 z)) λ z=>z07 (r2 z))) (by lia) mn ?_ λ n5 a1 a2 a3 _=>z07 (h n5 _ hB5 (by lia) a2 a3));intro i j a1 a2 a3;show Kc C (mirror (arrOf st4) lo (lo+m) ((lo+m - lo) / 2)) i<=Kc C (mirror (arrOf st4) lo (lo+m) ((lo+m - lo) / 2)) j;rw[a6v (by rw[hB4.size];lia),a6v (by rw[hB4.size];lia),z02 (by lia),z02 (by lia)];exact f4 _ _ (by lia) (by lia) (by lia)
end
section
variable {a₀ xs:Array Keyed} {pd:Array (Nat×Nat×Nat)} {lo:Nat} {st:SortSt}
theorem d7d (h0:∀ x∈a₀.toList,C.gd x) (hn:lo+n<=a₀.size) (h1:1<=n) (hok:ok<=n) (hB:Sb C a₀ pd lo xs st) (hr:Rise C (arrOf st) lo (lo+ok)) (h:∀ st',Sb C a₀ pd lo xs st'->Rise C (arrOf st') lo (lo+n)->Q true st'):wpS (model prog w) A E s (binarySort' lo n ok) Q st:=by
 refine z06 (z22 (z1w (I:=λ k c st'=>c=(none,())/\Sb C a₀ pd lo xs st'/\Rise C (arrOf st') lo (lo+k)) (Q:=λ c st'=>c=(none,())/\Sb C a₀ pd lo xs st'/\Rise C (arrOf st') lo (lo+n)) ?_ ?_ ⟨rfl,hB,?_⟩) ?_)
 ·rintro k c st' k1 k2 ⟨rfl,hB2,hr2⟩;refine z06 (z22 (z1w (I:=λ x c st''=>st''=st'/\∃ l r,c=(none,l,r)/\l<=r/\r<=k/\r - l<=k - x/\(∀ i,i < l->Kc C (arrOf st') (lo+i)<=Kc C (arrOf st') (lo+k))/\∀ i,r<=i->i < k->Kc C (arrOf st') (lo+k) < Kc C (arrOf st') (lo+i)) (Q:=λ c st''=>st''=st'/\∃ l r,c=(none,l,r)/\l<=k/\(∀ i,i < l->Kc C (arrOf st') (lo+i)<=Kc C (arrOf st') (lo+k))/\∀ i,l<=i->i < k->Kc C (arrOf st') (lo+k) < Kc C (arrOf st') (lo+i)) ?_ ?_ (⟨rfl,nx27 0 k rfl (by lia) (by lia) (by lia) (λ i z=>by lia) λ i z1 z2=>by lia⟩)) ?_)
  ·rintro x c st'' _ x2 ⟨rfl,l,r,rfl,q1,q2,q3,q4,q5⟩;refine a0v (λ z=>z07 ?_) λ z=>z06 (ltk hB2 h0 (by show lo+k < a₀.size;lia) (by show lo+(l+r) / 2 < a₀.size;replace z:¬ l ≥ r:=z;lia) (λ y=>z07 ?_) λ y=>z07 ?_)
   ·replace z:l ≥ r:=z;have:l=r:=by lia
    subst this;exact ⟨rfl,nx8 l l rfl q2 q4 q5⟩
   ·replace z:¬ l ≥ r:=z;refine ⟨rfl,nx27 l ((l+r) / 2) rfl (by lia) (by lia) (by lia) q4 λ i i1 i2=>?_⟩;have y1:Kc C (arrOf st'') (lo+k) < Kc C (arrOf st'') (lo+(l+r) / 2):=y;have y2:=hr2 (lo+(l+r) / 2) (lo+i) (by lia) (by lia) (by lia);lia
   ·replace z:¬ l ≥ r:=z;refine ⟨rfl,nx27 ((l+r) / 2+1) r rfl (by lia) (by lia) (by lia) (λ i i1=>?_) q5⟩;have y1:¬ Kc C (arrOf st'') (lo+k) < Kc C (arrOf st'') (lo+(l+r) / 2):=y;have y2:=hr2 (lo+i) (lo+(l+r) / 2) (by lia) (by lia) (by lia);lia
  ·rintro c st'' ⟨rfl,l,r,rfl,q1,q2,q3,q4,q5⟩;have:l=r:=by lia
   subst this;exact ⟨rfl,nx8 l l rfl q2 q4 q5⟩
  ·rintro c st'' ⟨rfl,l,r,rfl,q2,q4,q5⟩;refine z06 (z2k (z07 ?_));have hs:lo+k < (arrOf st'').size:=by rw[hB2.size];lia
   refine⟨rfl,hB2.set (bubble_perm _ _ _) (λ j hj=>?_),λ i j i1 i2 i3=>?_⟩
   ·refine(getElem?_bubble hs (lo+k - (lo+l)) (by lia) j).trans ?_;rw[z01 (by lia),z01 (by lia)]
   ·show Kc C (bubble (arrOf st'') (lo+k) (lo+k - (lo+l))) i<=Kc C (bubble (arrOf st'') (lo+k) (lo+k - (lo+l))) j;have lo':∀ i,lo<=i->i < lo+l->Kc C (arrOf st'') i<=Kc C (arrOf st'') (lo+k):=λ i a b=>by
     have:=q4 (i - lo) (by lia);rw[show lo+(i - lo)=i by lia] at this;exact this
    have hi':∀ i,lo+l<=i->i < lo+k->Kc C (arrOf st'') (lo+k) < Kc C (arrOf st'') i:=λ i a b=>by
     have:=q5 (i - lo) (by lia) (by lia);rw[show lo+(i - lo)=i by lia] at this;exact this
    rw[b8e hs (by lia),b8e hs (by lia),show lo+k - (lo+k - (lo+l))=lo+l by lia];repeat' split
    all_goals first
     | lia
     | exact lo' _ (by lia) (by lia)
     | exact z2s (hi' _ (by lia) (by lia))
     | exact hr2 _ _ (by lia) (by lia) (by lia)
 ·rintro c st' ⟨rfl,hB2,hr2⟩;rw[show max (max ok 1) n=n by lia] at hr2;exact⟨rfl,hB2,hr2⟩
 ·by_cases z:ok=0
  ·rw[show max ok 1=1 by lia];exact c3v _ _
  ·rw[show max ok 1=ok by lia];exact hr
 ·rintro c st' ⟨rfl,hB2,hr2⟩;exact z07 (h st' hB2 hr2)
end
theorem d4g (hi:i < xs.toList.length):Kc C xs i=C.rk xs.toList[i]:=by
 have hi':i < xs.size:=by rw[<-z0q];exact hi
 unfold Kc;rw[z23 xs i hi',Array.getElem_toList]
theorem b1w {lo hi:Nat} (h:Rise C xs lo hi) (hh:hi<=xs.size):Upk C ((xs.toList.drop lo).take (hi - lo)):=by
 rw[Upk,z32];intro i j hi hj hij;rw[z16,z0y,z0q] at hi hj;rw[z48,z48,z4i,z4i,<-d4g,<-d4g];exact h _ _ (by lia) (by lia) (by lia)
end
end Gs
end My
namespace My
namespace Gs
open PySem PyProof.Rows
section
variable {prog:Program} {w:World} {s:Shared} {A:Around} {E:Value->Shared->Prop} {C:Cmp prog w A E s}
theorem d5v {lo n:Nat} (hn:lo+n<=xs.size) (h:Upk C ((xs.toList.drop lo).take n)):Rise C xs lo (lo+n):=λ i j h1 h2 h3=>by
 have hl:xs.toList.length=xs.size:=z0q;obtain⟨i',rfl⟩:∃ i',i=lo+i':=⟨i - lo,by lia⟩;obtain⟨j',rfl⟩:∃ j',j=lo+j':=⟨j - lo,by lia⟩;rw[d4g (by lia),d4g (by lia)];rcases Nat.lt_or_eq_of_le h2 with z | z
 ·have:=z32.mp h i' j' (by rw[z16,z0y];lia) (by rw[z16,z0y];lia) (by lia);rw[z48,z48,z4i,z4i] at this;exact this
 ·have:i'=j':=by lia
  subst this;exact z44 _
theorem Rise.low {lo hi:Nat} (l:∀ k,lo<=k->k < hi->ys[k]?=xs[k]?) (h:Rise C xs lo hi):Rise C ys lo hi:=λ i j h1 h2 h3=>by
 rw[a5x (l i h1 (by lia)),a5x (l j (by lia) h3)];exact h i j h1 h2 h3
def a3e (C:Cmp prog w A E s) (xs:Array Keyed):List (Nat×Nat×Nat)->Nat->Nat->Prop
 | [],a,b=>a=b
 | x::r,a,b=>x.1=a/\1<=x.2.1/\Rise C xs a (a+x.2.1)/\a3e C xs r (a+x.2.1) b
theorem a3e.le:∀ {l:List (Nat×Nat×Nat)} {a b:Nat},a3e C xs l a b->a+l.length<=b
 | [],a,b,h=>by have:a=b:=h;simp;lia
 | x::r,a,b,⟨_,h1,_,h2⟩=>by have:=a3e.le h2;rw[z17];lia
theorem a3e.low:∀ {l:List (Nat×Nat×Nat)} {a b:Nat},a3e C xs l a b->(∀ k,a<=k->k < b->ys[k]?=xs[k]?)->a3e C ys l a b
 | [],a,b,h,_=>h
 | x::r,a,b,⟨e,h1,h2,h3⟩,l=>by
  have:=a3e.le h3;exact⟨e,h1,h2.low λ k k1 k2=>l k k1 (by lia),a3e.low h3 λ k k1 k2=>l k (by lia) k2⟩
theorem a3e.snoc:∀ {l:List (Nat×Nat×Nat)} {a b n p:Nat},a3e C xs l a b->1<=n->Rise C xs b (b+n)->a3e C xs (l++[(b,n,p)]) a (b+n)
 | [],a,b,n,p,h,h1,hr=>by
  have e:=h;subst e;exact⟨rfl,h1,hr,rfl⟩
 | x::r,a,b,n,p,⟨e,h2,h3,h4⟩,h1,hr=>⟨e,h2,h3,a3e.snoc h4 h1 hr⟩
theorem a3e.like:∀ {l l':List (Nat×Nat×Nat)} {a b:Nat},a3e C xs l a b->l'.map (λ x=>(x.1,x.2.1))=l.map (λ x=>(x.1,x.2.1))->a3e C xs l' a b
 | [],[],a,b,h,_=>h
 | [],_::_,_,_,_,e=>by cases e
 | _::_,[],_,_,_,e=>by cases e
 | x::r,y::r',a,b,⟨e1,h1,h2,h3⟩,e=>by
  have e2:=(List.cons.inj e).1;have e3:=(List.cons.inj e).2;have y1:=(Prod.mk.inj e2).1;have y2:=(Prod.mk.inj e2).2;refine⟨by rw[y1];exact e1,by rw[y2];exact h1,by rw[y2];exact h2,?_⟩;rw[y2];exact a3e.like h3 e3
theorem a3e.at:∀ {l:List (Nat×Nat×Nat)} {a b:Nat},a3e C xs l a b->∀ {i:Nat} {x y:Nat×Nat×Nat},l[i]?=some x->l[i+1]?=some y->a<=x.1/\y.1=x.1+x.2.1/\1<=x.2.1/\1<=y.2.1/\Rise C xs x.1 (x.1+x.2.1)/\Rise C xs (x.1+x.2.1) (x.1+x.2.1+y.2.1)/\x.1+x.2.1+y.2.1<=b /\
  ∀ ys:Array Keyed,(∀ k,k < x.1\/x.1+x.2.1+y.2.1<=k->ys[k]?=xs[k]?)->Rise C ys x.1 (x.1+x.2.1+y.2.1)->a3e C ys ((l.set i (x.1,x.2.1+y.2.1,x.2.2)).eraseIdx (i+1)) a b
 | [],_,_,_,i,x,y,e,_=>by cases e
 | z::[],_,_,_,i,x,y,_,e2=>by cases e2
 | z::u::r,a,b,⟨e1,h1,h2,h3⟩,0,x,y,ex,ey=>by
  cases ex;cases (ey);obtain⟨e4,h4,h5,h6⟩:=h3;have l6:=a3e.le h6;have ez:=e1;rw[ez];refine⟨z05 _,e4,h1,h4,h2,h5,by lia,λ ys ky ry=>?_⟩;refine⟨rfl,by show 1<=z.2.1+u.2.1;lia,by rw[<-Nat.add_assoc];exact ry,?_⟩;rw[<-Nat.add_assoc];exact h6.low λ k k1 _=>ky k (.inr k1)
 | z::u::r,a,b,⟨e1,h1,h2,h3⟩,i+1,x,y,ex,ey=>by
  obtain⟨b1,b2,b3,b4,b5,b6,b7,b8⟩:=a3e.at h3 (by simpa using ex) (by simpa using ey);refine⟨by lia,b2,b3,b4,b5,b6,b7,λ ys ky ry=>?_⟩;exact⟨e1,h1,h2.low λ k k1 k2=>ky k (.inl (by lia)),b8 ys ky ry⟩
variable {a₀:Array Keyed} {st:SortSt}
theorem b2f (h0:∀ x∈a₀.toList,C.gd x) (hp:(arrOf st).Perm a₀) (hk:kindOf st=C.κ) (hf:failedOf st=none) (e1:(pendingOf st)[i]?=some (sa,na,pa)) (e2:(pendingOf st)[i+1]?=some (sa+na,nb,pb)) (p1:1<=na) (p2:1<=nb) (hn:sa+na+nb<=(arrOf st).size)
  (r1:Rise C (arrOf st) sa (sa+na)) (r2:Rise C (arrOf st) (sa+na) (sa+na+nb))
  (h:∀ st',(arrOf st').Perm a₀->kindOf st'=C.κ->failedOf st'=none->pendingOf st'=((pendingOf st).setIfInBounds i (sa,na+nb,pa)).eraseIdxIfInBounds (i+1)->(∀ k,k < sa\/sa+na+nb<=k->(arrOf st')[k]?=(arrOf st)[k]?)->Rise C (arrOf st') sa (sa+na+nb)->Q true st'):wpS (model prog w) A E s (mergeAt' i) Q st:=by
 obtain⟨kn,ar,pe,mg,fl⟩:=st;replace e1:pe[i]?=some (sa,na,pa):=e1;replace e2:pe[i+1]?=some (sa+na,nb,pb):=e2;replace hf:fl=none:=hf;replace hk:kn=C.κ:=hk;replace hp:ar.Perm a₀:=hp;replace hn:sa+na+nb<=ar.size:=hn;replace r1:Rise C ar sa (sa+na):=r1;replace r2:Rise C ar (sa+na) (sa+na+nb):=r2;subst hf hk;refine z06 (z2g ?_);dsimp only;rw[e1,e2];refine z06 (d9i ?_);have lU:ar.toList.length=ar.size:=z0q;have iU:∀ x∈ar.toList,C.gd x:=λ x hx=>h0 x ((z53.mp hp).mem_iff.mp hx)
 have sT0:=b1w r1 (by lia);have sD0:=b1w r2 (by lia);rw[show sa+na - sa=na by lia] at sT0;rw[show sa+na+nb - (sa+na)=nb by lia] at sD0;obtain⟨P,T,D,R,eU,lP,lT,lD⟩:∃ P T D R:List Keyed,ar.toList=P++(T++(D++R))/\P.length=sa/\T.length=na/\D.length=nb:=by
  refine nx30 (ar.toList.take sa) ((ar.toList.drop sa).take na) ((ar.toList.drop (sa+na)).take nb) (ar.toList.drop (sa+na+nb)) ?_ ?_ ?_ ?_
  ·have v1:=z39 sa ar.toList;have v2:=z39 na (ar.toList.drop sa);rw[z5t] at v2;have v3:=z39 nb (ar.toList.drop (sa+na));rw[z5t] at v3;rw[v3,v2,v1]
  ·rw[z16];lia
  ·rw[z16,z0y];lia
  ·rw[z16,z0y];lia
 have dT:(ar.toList.drop sa).take na=T:=by rw[eU,List.drop_left' lP,z5q lT]
 have dD:(ar.toList.drop (sa+na)).take nb=D:=by rw[eU,<-z1c,List.drop_left' (by rw[z0j];lia),z5q lD]
 rw[dT] at sT0;rw[dD] at sD0;have iT:∀ x∈T,C.gd x:=λ x hx=>iU x (by rw[eU];simp[hx])
 have iD:∀ x∈D,C.gd x:=λ x hx=>iU x (by rw[eU];simp[hx])
 have atT:∀ (j:Nat),j < na->ar[sa+j]?=T[j]?:=λ j hj=>by rw[<-z0u,eU,z2u (by lia),lP,z4a (by lia),show sa+j - sa=j by lia]
 have atD:∀ (j:Nat),j < nb->ar[sa+na+j]?=D[j]?:=λ j hj=>by rw[<-z0u,eU,z2u (by lia),lP,z2u (by lia),lT,z4a (by lia),show sa+na+j - sa - na=j by lia]
 obtain⟨y0,ey0⟩:∃ x,D[0]?=some x:=⟨D[0],z0o (by lia)⟩;obtain⟨z0,ez0⟩:∃ x,T[na - 1]?=some x:=⟨T[na - 1],z0o (by lia)⟩;have a1:ar[sa+na]?=some y0:=by have:=atD 0 (by lia);rw[Nat.add_zero] at this;rw[this];exact ey0
 have b1:ar[sa+na - 1]?=some z0:=by have:=atT (na - 1) (by lia);rw[show sa+(na - 1)=sa+na - 1 by lia] at this;rw[this];exact ez0
 have y0le:∀ x∈D,C.rk y0<=C.rk x:=by
  have q:=b3b sD0 ey0;rw[z4m] at q;exact q
 have z0ge:∀ x∈T,C.rk x<=C.rk z0:=by
  have q:=b2o sT0 ez0;rw[show na - 1+1=na by lia,z20 (by lia)] at q;exact q
 have whole:(∀ x∈T,∀ y∈D,C.rk x<=C.rk y)->Rise C ar sa (sa+na+nb):=λ c=>by
  have:(ar.toList.drop sa).take (na+nb)=T++D:=by rw[eU,List.drop_left' lP,<-z1c,z5q (by rw[z0j];lia)]
  have q:=d5v (C:=C) (xs:=ar) (lo:=sa) (n:=na+nb) (by lia) (by rw[this];exact z2w.mpr ⟨sT0,sD0,c⟩);rw[<-Nat.add_assoc] at q;exact q
 refine z06 (a1p a1 (z06 (b4y (C:=C) (D:=T) rfl (iD _ (z0c ey0)) (by lia) (by lia) dT.symm sT0 iT λ k hkn k1 k2=>?_)));refine a0v (λ c=>z07 (h _ hp rfl rfl rfl (λ _ _=>rfl) (whole λ x hx y hy=>?_))) λ c=>?_
 ·have c':na - k=0:=by simpa using c
  have ek:k=na:=by lia
  subst ek;rw[z20 (by lia)] at k1;exact Int.le_trans (b9c (k1 x hx)) (y0le y hy)
 have c':na - k≠0:=by simpa using c
 refine z06 (a1p (p:=z0) (by rw[show sa+k+(na - k) - 1=sa+na - 1 by lia];exact b1) (z06 (b4y (C:=C) (D:=D) rfl (iT _ (z0c ez0)) (by lia) (by lia) dD.symm sD0 iD λ m hmn m1 m2=>?_)));refine a0v (λ c=>z07 (h _ hp rfl rfl rfl (λ _ _=>rfl) (whole λ x hx y hy=>?_))) λ c2=>?_
 ·have e0:m=0:=by simpa using c
  subst e0;exact Int.le_trans (z0ge x hx) (b7v (m2 y hy))
 have c2':m≠0:=by simpa using c2
 have ea:(ar.extract (sa+k) (sa+na)).toList=T.drop k:=by
  rw[c2v,eU,<-z1c,z5q (by rw[z0j];lia),List.drop_append,lP,show sa+k - sa=k by lia,z4q (by lia),List.nil_append]
 have eb:(ar.extract (sa+na) (sa+na+m)).toList=D.take m:=by
  rw[b5s,<-dD,List.take_take,z4o hmn]
 have la:(ar.extract (sa+k) (sa+na)).toList.length=na - k:=by rw[ea,z0y];lia
 have lb:(ar.extract (sa+na) (sa+na+m)).toList.length=m:=by rw[eb,z16];lia
 have first:∀ x,(ar.extract (sa+na) (sa+na+m))[0]?=some x->∀ y∈(ar.extract (sa+k) (sa+na)).toList,C.rk x<=C.rk y:=λ x hx y hy=>by
  rw[<-z0u,eb,z6x (by lia),ey0] at hx;cases hx;rw[ea] at hy;exact z2s (c2z (k2 y hy))
 have last:∀ x∈(ar.extract (sa+na) (sa+na+m)).toList,∀ y,(ar.extract (sa+k) (sa+na))[(ar.extract (sa+k) (sa+na)).size - 1]?=some y->C.rk x<=C.rk y:=λ x hx y hy=>by
  rw[<-z0u,<-z0q,la,ea,z6o,show k+(na - k - 1)=na - 1 by lia,ez0] at hy;cases hy;rw[eb] at hx;exact z2s (c0n (m1 x hx))
 have fin:∀ (r:Array Keyed) (g:Nat),r.toList.Perm ((ar.extract (sa+k) (sa+na)).toList++(ar.extract (sa+na) (sa+na+m)).toList)->Upk C r.toList->Q true (SortSt.mk' C.κ (r.toList.zipIdx.foldl (λ a x=>a.setIfInBounds (sa+k+x.2) x.1) ar) ((pe.setIfInBounds i (sa,na+nb,pa)).eraseIdxIfInBounds (i+1)) g none):=λ r g pr ur=>by
  have lr:r.toList.length=na - k+m:=by rw[pr.length_eq,z0j,la,lb]
  have ef:=c4s (sa+k) r.toList 0 ar (by rw[lr];lia);have tk:ar.toList.take (sa+k+0)=P++T.take k:=by
   rw[Nat.add_zero,eU,List.take_append,lP,show sa+k - sa=k by lia,z20 (by lia),List.take_append,lT,show k - na=0 by lia,List.take_zero,z19]
  have dk:ar.toList.drop (sa+k+0+r.toList.length)=D.drop m++R:=by
   rw[lr,show sa+k+0+(na - k+m)=(P++T).length+m by rw[z0j];lia,eU,<-z1c,List.drop_append,z4q (by lia),List.nil_append,show (P++T).length+m - (P++T).length=m by lia,List.drop_append,lD,show m - nb=0 by lia,z4m]
  rw[tk,dk] at ef;have pr':r.toList.Perm (T.drop k++D.take m):=by rw[<-ea,<-eb];exact pr
  have ef2:(r.toList.zipIdx.foldl (λ a x=>a.setIfInBounds (sa+k+x.2) x.1) ar).toList=P++(T.take k++(r.toList++D.drop m)++R):=by
   refine ef.trans ?_;simp
  have pp:(r.toList.zipIdx.foldl (λ a x=>a.setIfInBounds (sa+k+x.2) x.1) ar).toList.Perm ar.toList:=by
   rw[ef2,eU];refine List.Perm.append_left _ ?_;rw[<-z1c T D R];refine List.Perm.append_right _ ?_;conv=>rhs;rw[<-z39 k T,<-z39 m D]
   rw[z1c (T.take k)];refine List.Perm.append_left _ ?_;rw[<-z1c];exact pr'.append_right _
  refine h _ (Array.Perm.trans (z53.mpr pp) hp) rfl rfl rfl (λ j hj=>?_) ?_
  ·rw[<-z0u,<-z0u,ef2,eU];have lS:(T.take k++(r.toList++D.drop m)).length=na+nb:=by
    rw[z0j,z0j,z16,z0y,lr];lia
   rcases hj with z | z
   ·rw[z4a (by lia),z4a (by lia)]
   ·rw[z2u (by lia),z2u (by lia),z2u (by lia),<-z1c T D R,z2u (by rw[z0j];lia),lS,z0j,lT,lD]
  ·have q:=d5v (C:=C) (lo:=sa) (n:=na+nb) (by rw[<-z0q,pp.length_eq];lia) ?_
   ·rw[<-Nat.add_assoc] at q;exact q
   ·rw[ef2,List.drop_left' lP,z5q (by
     rw[z0j,z0j,z16,z0y,lr];lia)]
    have inR:∀ x∈r.toList,C.rk y0<=C.rk x/\C.rk x<=C.rk z0:=λ x hx=>by
     rcases z0f.mp (pr'.subset hx) with z | z
     ·exact⟨z2s (c2z (k2 x z)),z0ge x (z2q z)⟩
     ·exact⟨y0le x (z37 z),z2s (c0n (m1 x z))⟩
    refine z2w.mpr ⟨sT0.sublist (z3g _ _),z2w.mpr ⟨ur,sD0.sublist (z4d _ _),λ x hx y hy=>Int.le_trans (inR x hx).2 (b7v (m2 y hy))⟩,λ x hx y hy=>?_⟩;rcases z0f.mp hy with z | z
    ·exact Int.le_trans (b9c (k1 x hx)) (inR y z).1
    ·exact Int.le_trans (b9c (k1 x hx)) (y0le y (z2q z))
 have nA:0 < (ar.extract (sa+k) (sa+na)).size:=by rw[<-z0q,la];lia
 have nB:0 < (ar.extract (sa+na) (sa+na+m)).size:=by rw[<-z0q,lb];lia
 have iA:∀ x∈(ar.extract (sa+k) (sa+na)).toList,C.gd x:=λ x hx=>by
  rw[ea] at hx;exact iT x (z2q hx)
 have iB:∀ x∈(ar.extract (sa+na) (sa+na+m)).toList,C.gd x:=λ x hx=>by
  rw[eb] at hx;exact iD x (z37 hx)
 have sA:Upk C (ar.extract (sa+k) (sa+na)).toList:=by
  rw[ea];exact sT0.sublist (z4d _ _)
 have sB:Upk C (ar.extract (sa+na) (sa+na+m)).toList:=by
  rw[eb];exact sD0.sublist (z3g _ _)
 refine a0v (λ _=>z06 (c5j (C:=C) rfl iA iB sA sB nA nB first last λ r st' ss pr ur=>?_)) λ _=>z06 (c5e (C:=C) rfl iA iB sA sB nA nB first last λ r st' ss pr ur=>?_)
 all_goals
  obtain⟨x1,x2,x3,x4,x5⟩:=st';obtain⟨s1,s2,s3,s4⟩:=ss;replace s1:x1=C.κ:=s1;replace s2:x2=ar:=s2;replace s3:x3=(pe.setIfInBounds i (sa,na+nb,pa)).eraseIdxIfInBounds (i+1):=s3;replace s4:x5=none:=s4;subst s1 s2 s3 s4;exact z06 (z2k (z06 (z2g (z07 (fin r x4 pr ur)))))
end
end Gs
end My
namespace My
namespace Gs
open PySem PyProof.Rows
section
variable {prog:Program} {w:World} {s:Shared} {A:Around} {E:Value->Shared->Prop} {C:Cmp prog w A E s}
structure GB (C:Cmp prog w A E s) (a₀:Array Keyed) (st:SortSt) (lo:Nat):Prop where
 perm:(arrOf st).Perm a₀
 kind:kindOf st=C.κ
 fail:failedOf st=none
 runs:a3e C (arrOf st) (pendingOf st).toList 0 lo
theorem b5e {α β:Type} (f:α->α) (g:α->β) (h:∀ x,g (f x)=g x):∀ (l:List α) (i:Nat),(l.modify i f).map g=l.map g
 | [],i=>by cases i<;>rfl
 | x::r,0=>by show g (f x)::r.map g=_;rw[h];rfl
 | x::r,i+1=>by show g x::(r.modify i f).map g=_;rw[b5e f g h r i];rfl
theorem c9d (c:Nat) (l:List (Nat×Nat×Nat)) (i:Nat):((l.modify i λ x=>(x.1,x.2.1,c)).map λ x=>(x.1,x.2.1))=l.map λ x=>(x.1,x.2.1):=b5e (λ x:Nat×Nat×Nat=>(x.1,x.2.1,c)) _ (λ _=>rfl) l i
theorem a7d (p:Array (Nat×Nat×Nat)) (i:Nat) (x:Nat×Nat×Nat):((p.setIfInBounds i x).eraseIdxIfInBounds (i+1)).toList=(p.toList.set i x).eraseIdx (i+1):=by
 rw[Array.toList_eraseIdxIfInBounds,Array.toList_setIfInBounds]
variable {a₀:Array Keyed} {st:SortSt}
theorem c4l (h0:∀ x∈a₀.toList,C.gd x) (hp:(arrOf st).Perm a₀) (hk:kindOf st=C.κ) (hf:failedOf st=none) (hpd:pendingOf st=#[]) (fin:∀ st',(arrOf st').Perm a₀->failedOf st'=none->Rise C (arrOf st') 0 a₀.size->Q () st'):wpS (model prog w) A E s sortRuns' Q st:=by
 obtain⟨kn,ar,pe,mg,fl⟩:=st;have hsz:ar.size=a₀.size:=hp.size_eq;replace hpd:pe=#[]:=hpd;subst hpd;refine z06 (z2g ?_);refine z06 (z22 (z1w (I:=λ x c st'=>∃ lo,c=(none,lo)/\x<=lo/\lo<=ar.size/\GB C a₀ st' lo) (Q:=λ c st'=>c=(none,ar.size)/\GB C a₀ st' ar.size) ?_ ?_ ⟨0,rfl,z05 _,z0m _,hp,hk,hf,rfl⟩) ?_)
 ·rintro x c st' _ x2 ⟨lo,rfl,hx,hlo,g⟩;refine a0v (λ z=>z07 ?_) λ z=>?_
  ·have e:lo=ar.size:=Nat.le_antisymm hlo z;subst e;exact⟨rfl,g⟩
  replace z:¬ lo ≥ ar.size:=z;have hS':Sb C a₀ (pendingOf st') lo (arrOf st') st':=⟨g.perm,g.kind,g.fail,rfl,λ _ _=>rfl⟩;refine z06 (d4k (C:=C) (lo:=lo) h0 (by show lo+(ar.size - lo)<=a₀.size;lia) (by show 1<=ar.size - lo;lia) hS' λ m st2 hS2 m1 m2 hr=>?_);replace m2:m<=ar.size - lo:=m2;refine a0v (λ c=>z06 (wpS_lift (z1s ⟨rfl,z06 (d7d (C:=C) (lo:=lo) h0 (by show lo+min (ar.size - lo) (minRun' ar.size ar.size 0)<=a₀.size;lia) (by show 1<=min (ar.size - lo) (minRun' ar.size ar.size 0);have c':m < minRun' ar.size ar.size 0:=c;lia) (by show m<=min (ar.size - lo) (minRun' ar.size ar.size 0);have c':m < minRun' ar.size ar.size 0:=c;lia) hS2 hr λ st3 hS3 hr3'=>a0v (λ n=>by cases n) λ _=>?_)⟩))) λ c=>?_
  ·have c':m < minRun' ar.size ar.size 0:=c;have n1:1<=min (ar.size - lo) (minRun' ar.size ar.size 0):=by lia
   have n2:lo+min (ar.size - lo) (minRun' ar.size ar.size 0)<=ar.size:=by lia
   obtain⟨k3,a3,p3,g3,f3⟩:=st3;obtain⟨s1,s2,s3,s4,s5⟩:=hS3;replace s2:k3=C.κ:=s2;replace s3:f3=none:=s3;replace s4:p3=pendingOf st':=s4;have R3:a3e C a3 p3.toList 0 lo:=by rw[s4];exact g.runs.low λ k _ k2=>s5 k k2
   have hr3:=hr3';clear s4 s5;have n3:=Nat.add_le_add hx n1;have hz:a3.size=ar.size:=by rw[s1.size_eq,<-hsz]
   refine z06 (z2g ?_);by_cases ep0:p3.size=0
   ·have ep:=Array.size_eq_zero_iff.mp ep0;subst ep;refine z06 (z2k (z07 ?_));refine⟨lo+(min (ar.size - lo) (minRun' ar.size ar.size 0)),rfl,n3,n2,s1,s2,s3,?_⟩;exact a3e.snoc (l:=[]) R3 n1 hr3
   ·obtain⟨q0,eb⟩:∃ q0,p3.back?=some q0:=⟨p3[p3.size - 1],by rw[Array.back?_eq_getElem?,z23 p3 (p3.size - 1) (by lia)]⟩;have eb':=eb;dsimp only at eb' ⊢;rw[eb];refine z06 (z22 (z1w (I:=λ _ c st''=>c=(none,())/\GB C a₀ st'' lo/\Rise C (arrOf st'') lo (lo+(min (ar.size - lo) (minRun' ar.size ar.size 0)))) ?_ (λ c st'' z=>z) ⟨rfl,⟨s1,s2,s3,R3⟩,hr3⟩) ?_)
    ·rintro y c st4 _ _ ⟨rfl,g4,hr4⟩;refine z06 (z2g ?_);obtain⟨k4,a4,p4,g4',f4⟩:=st4;have z4:a4.size=ar.size:=by rw[(show a4.Perm a₀ from g4.perm).size_eq,<-hsz]
     by_cases h1:p4.size > 1
     ·obtain⟨x4,ex4⟩:∃ x4,p4[p4.size - 2]?=some x4:=⟨_,z23 p4 (p4.size - 2) (by lia)⟩;obtain⟨y4,ey4⟩:∃ y4,p4[p4.size - 2+1]?=some y4:=⟨_,z23 p4 (p4.size - 2+1) (by lia)⟩;dsimp only;rw[z02 h1,ex4];refine a0v (λ _=>z07 ⟨rfl,g4,hr4⟩) λ _=>?_
      obtain⟨b1,b2,b3,b4,b5,b6,b7,b8⟩:=g4.runs.at (i:=p4.size - 2) (x:=x4) (y:=y4) (by rw[z0u];exact ex4) (by rw[z0u];exact ey4);obtain⟨sx,nx,px⟩:=x4;obtain⟨sy,ny,py⟩:=y4;replace b2:sy=sx+nx:=b2;replace b7:sx+nx+ny<=lo:=b7;subst b2;refine z06 (b2f (C:=C) (i:=p4.size - 2) h0 g4.perm g4.kind g4.fail ex4 ey4 b3 b4 (by show sx+nx+ny<=a4.size;lia) b5 b6 λ st5 c1 c2 c3 c4 c5 c6=>a0v (λ n=>by cases n) λ _=>z07 ⟨rfl,⟨c1,c2,c3,?_⟩,?_⟩)
      ·rw[c4,a7d];exact b8 _ c5 c6
      ·exact hr4.low λ k k1 _=>c5 k (.inr (by lia))
     ·dsimp only;rw[z01 h1];exact z07 ⟨rfl,g4,hr4⟩
    ·rintro c st4 ⟨rfl,g4,hr4⟩;refine z06 (z2k (z06 (z2k (z07 ?_))));refine⟨lo+(min (ar.size - lo) (minRun' ar.size ar.size 0)),rfl,n3,n2,g4.perm,g4.kind,g4.fail,?_⟩;rw[z3d,Array.toList_modify];exact a3e.snoc (g4.runs.like (c9d _ _ _)) n1 hr4
  ·have n2:lo+m<=ar.size:=by lia
   have n1:=m1;obtain⟨k3,a3,p3,g3,f3⟩:=st2;obtain⟨s1,s2,s3,s4,s5⟩:=hS2;replace s1:a3.Perm a₀:=s1;replace s2:k3=C.κ:=s2;replace s3:f3=none:=s3;replace s4:p3=pendingOf st':=s4;have R3:a3e C a3 p3.toList 0 lo:=by rw[s4];exact g.runs.low λ k _ k2=>s5 k k2
   have hr3:Rise C a3 lo (lo+m):=hr;clear s4 s5;have n3:x+1<=lo+m:=Nat.add_le_add hx n1;have hz:a3.size=ar.size:=by rw[s1.size_eq,<-hsz]
   refine z06 (z2g ?_);by_cases ep0:p3.size=0
   ·have ep:=Array.size_eq_zero_iff.mp ep0;subst ep;refine z06 (z2k (z07 ?_));refine⟨lo+m,rfl,n3,n2,s1,s2,s3,?_⟩;exact a3e.snoc (l:=[]) R3 n1 hr3
   ·obtain⟨q0,eb⟩:∃ q0,p3.back?=some q0:=⟨p3[p3.size - 1],by rw[Array.back?_eq_getElem?,z23 p3 (p3.size - 1) (by lia)]⟩;have eb':(pendingOf (SortSt.mk' k3 a3 p3 g3 f3)).back?=some q0:=eb;dsimp only at eb' ⊢;rw[eb];refine z06 (z22 (z1w (I:=λ _ c st''=>c=(none,())/\GB C a₀ st'' lo/\Rise C (arrOf st'') lo (lo+m)) ?_ (λ c st'' z=>z) ⟨rfl,⟨s1,s2,s3,R3⟩,hr3⟩) ?_)
    ·rintro y c st4 _ _ ⟨rfl,g4,hr4⟩;refine z06 (z2g ?_);obtain⟨k4,a4,p4,g4',f4⟩:=st4;have z4:a4.size=ar.size:=by rw[(show a4.Perm a₀ from g4.perm).size_eq,<-hsz]
     by_cases h1:p4.size > 1
     ·obtain⟨x4,ex4⟩:∃ x4,p4[p4.size - 2]?=some x4:=⟨_,z23 p4 (p4.size - 2) (by lia)⟩;obtain⟨y4,ey4⟩:∃ y4,p4[p4.size - 2+1]?=some y4:=⟨_,z23 p4 (p4.size - 2+1) (by lia)⟩;dsimp only;rw[z02 h1,ex4];refine a0v (λ _=>z07 ⟨rfl,g4,hr4⟩) λ _=>?_
      obtain⟨b1,b2,b3,b4,b5,b6,b7,b8⟩:=g4.runs.at (i:=p4.size - 2) (x:=x4) (y:=y4) (by rw[z0u];exact ex4) (by rw[z0u];exact ey4);obtain⟨sx,nx,px⟩:=x4;obtain⟨sy,ny,py⟩:=y4;replace b2:sy=sx+nx:=b2;replace b7:sx+nx+ny<=lo:=b7;subst b2;refine z06 (b2f (C:=C) (i:=p4.size - 2) h0 g4.perm g4.kind g4.fail ex4 ey4 b3 b4 (by show sx+nx+ny<=a4.size;lia) b5 b6 λ st5 c1 c2 c3 c4 c5 c6=>a0v (λ n=>by cases n) λ _=>z07 ⟨rfl,⟨c1,c2,c3,?_⟩,?_⟩)
      ·rw[c4,a7d];exact b8 _ c5 c6
      ·exact hr4.low λ k k1 _=>c5 k (.inr (by lia))
     ·dsimp only;rw[z01 h1];exact z07 ⟨rfl,g4,hr4⟩
    ·rintro c st4 ⟨rfl,g4,hr4⟩;refine z06 (z2k (z06 (z2k (z07 ?_))));refine⟨lo+m,rfl,n3,n2,g4.perm,g4.kind,g4.fail,?_⟩;rw[z3d,Array.toList_modify];exact a3e.snoc (g4.runs.like (c9d _ _ _)) n1 hr4
 ·rintro c st' ⟨lo,rfl,hx,hlo,g⟩;have hx':ar.size<=lo:=by have:max 0 ar.size<=lo:=hx;lia
  have e:lo=ar.size:=Nat.le_antisymm hlo hx';subst e;exact⟨rfl,g⟩
 ·rintro c st' ⟨rfl,g⟩;refine z06 (z22 (z1w (I:=λ x c st''=>c=(none,())/\GB C a₀ st'' ar.size/\(pendingOf st'').size<=max 1 (ar.size - x)) (Q:=λ c st''=>c=(none,())/\GB C a₀ st'' ar.size/\(pendingOf st'').size<=1) ?_ ?_ ⟨rfl,g,?_⟩) ?_)
  ·rintro x c st4 _ x2 ⟨rfl,g4,l4⟩;refine z06 (z2g ?_);obtain⟨k4,a4,p4,g4',f4⟩:=st4;have z4:a4.size=ar.size:=by rw[(show a4.Perm a₀ from g4.perm).size_eq,<-hsz]
   replace l4:p4.size<=max 1 (ar.size - x):=l4;refine a0v (λ z=>z07 ⟨rfl,g4,z⟩) λ z=>?_
   replace z:¬ p4.size<=1:=z;have mrg:∀ j,j+1 < p4.size->wpS (model prog w) A E s (mergeAt' j) (λ b st5=>b=true/\GB C a₀ st5 ar.size/\(pendingOf st5).size=p4.size - 1) (SortSt.mk' k4 a4 p4 g4' f4):=λ j hj=>by
    obtain⟨x4,ex4⟩:∃ x4,p4[j]?=some x4:=⟨_,z23 p4 j (by lia)⟩;obtain⟨y4,ey4⟩:∃ y4,p4[j+1]?=some y4:=⟨_,z23 p4 (j+1) hj⟩;obtain⟨b1,b2,b3,b4,b5,b6,b7,b8⟩:=g4.runs.at (i:=j) (x:=x4) (y:=y4) (by rw[z0u];exact ex4) (by rw[z0u];exact ey4);obtain⟨sx,nx,px⟩:=x4;obtain⟨sy,ny,py⟩:=y4;replace b7:sx+nx+ny<=ar.size:=b7;subst b2;refine b2f (C:=C) (i:=j) h0 g4.perm g4.kind g4.fail ex4 ey4 b3 b4 (by show sx+nx+ny<=a4.size;lia) b5 b6 λ st5 c1 c2 c3 c4 c5 c6=>⟨rfl,⟨c1,c2,c3,?_⟩,?_⟩
    ·rw[c4,a7d];exact b8 _ c5 c6
    ·rw[c4,<-z0q,a7d,z6h (by rw[z3t,z0q];exact hj),z3t,z0q]
   refine z06 (z22 (mrg _ ?_) λ b st5 ⟨eb,g5,l5⟩=>?_)
   ·dsimp only;by_cases h2:p4.size - 2 > 0
    ·rw[z02 h2];split<;>lia
    ·rw[z01 h2,z01 (by simp)];lia
   ·subst eb;refine a0v (λ n=>by cases n) λ _=>z07 ⟨rfl,g5,?_⟩
    rw[l5];lia
  ·rintro c st4 ⟨rfl,g4,l4⟩;refine⟨rfl,g4,?_⟩;have:max 0 ar.size=ar.size:=by lia
   rw[this] at l4;lia
  ·have:=g.runs.le;rw[z0q] at this;lia
  ·rintro c st4 ⟨rfl,g4,l4⟩;refine z07 (fin st4 g4.perm g4.fail ?_);have hr:=g4.runs;rw[<-hsz];match e:(pendingOf st4).toList,hr with
   | [],hr =>
    have:0=ar.size:=hr;intro i j _ _ h3;lia
   | [x],⟨_,_,h2,h3⟩ =>
    have e3:0+x.2.1=ar.size:=h3;rw[<-e3];exact h2
   | x::y::r,_ =>
    have:=z0b List.length e;simp at this;lia
end
end Gs
end My
namespace My
open PySem PySem.Spec PySem.W PyProof.Rows L2 PyProof PySem.SeqAt
theorem d8y (κ:SortKind) (rk:Value->Int) (hz:vs.length<=sizeLine)
  (ho:s.heap.get? a=some (seqObj "list" vs.toArray n)) (hns:s.heap.Ns F m)
  (hkind:2<=vs.length->∀ h',(∀ b o,b≠a->s.heap.get? b=some o->h'.get? b=some o)->∀ (R:SortKind->Shared->Prop),R κ {s with heap:=h'}->wpAny (model prog w) A (keyKind' vs.toArray) R E {s with heap:=h'})
  (hlt:2<=vs.length->∀ h',(∀ b o,b≠a->s.heap.get? b=some o->h'.get? b=some o)->∀ x∈vs,∀ y∈vs,∀ (R:Bool->Shared->Prop) (E':Value->Shared->Prop),R (decide (rk x < rk y)) {s with heap:=h'}->wpAny (model prog w) A (keyLt' κ x y) R E' {s with heap:=h'})
  (h:∀ out h' c,(∀ b o,b≠F->b≠a->s.heap.get? b=some o->h'.get? b=some o)->h'.Ns F m->h'.get? a=some (seqObj "list" (List.toArray out) c)->out.Perm vs->out.Pairwise (λ x y=>rk x<=rk y)->P (.done (.ret .none)) {s with heap:=h'}) :
  wpAny (model prog w) A (Builtin.«list.sort» ⟨[.ref a],[]⟩) P E s:=by
 have haF:a≠F:=λ e=>by
  obtain⟨o,es,ep,e1,e2,_⟩:=hns;rw[<-e,ho] at e1;cases e1;cases e2
 rw[list_sort_plain];refine z00 (listItems_at ho rfl (z00 (z58 ho rfl ?_ (by rw[z0p];exact hz) (z0m _))));obtain⟨e1,ho1⟩:∃ e1,(s.heap.update a (Obj.mapSeq λ _=>(#[]:Array Value))).get? a=some (seqObj "list" #[] e1):=⟨_,z4x ho (λ _=>#[])⟩;refine z00 (seqEpoch_at ho1 rfl (z00 (wpAny_newTuple (z00 (z55 (z1n ?_) (z0m _))) (by exact hz))));have s1:=z2i s.heap a (Obj.mapSeq λ _=>(#[]:Array Value));have k1:∀ b o,b≠a->s.heap.get? b=some o->(((s.heap.update a (Obj.mapSeq λ _=>(#[]:Array Value))).push (seqObj "tuple" vs.toArray 0)).push (seqObj "list" #[] 0)).get? b=some o:=λ b o y e=>z0e _ (z0e _ ((s1.2 b y).trans e))
 have ho6:(((s.heap.update a (Obj.mapSeq λ _=>(#[]:Array Value))).push (seqObj "tuple" vs.toArray 0)).push (seqObj "list" #[] 0)).get? a=some (seqObj "list" #[] e1):=z0e _ (z0e _ ho1);generalize ((s.heap.update a (Obj.mapSeq λ _=>(#[]:Array Value))).push (seqObj "tuple" vs.toArray 0)).push (seqObj "list" #[] 0)=h6 at k1 ho6;have fin:∀ (out:List Value),out.length<=sizeLine->out.Perm vs->out.Pairwise (λ x y=>rk x<=rk y)->wpAny (model prog w) A (Builtin.List.listUpdate (.ref a) λ _=>out.toArray) (λ _ s'=>P (.done (.ret .none)) s') E {s with heap:=h6}:=λ out lo pm pw=>by
  have s2:=z2i h6 a (Obj.mapSeq λ _=>out.toArray);obtain⟨c2,hc2⟩:∃ c2,(h6.update a (Obj.mapSeq λ _=>out.toArray)).get? a=some (seqObj "list" out.toArray c2):=⟨_,z4x ho6 λ _=>out.toArray⟩;refine z58 ho6 rfl (h out _ c2 (λ b o _ y e=>(s2.2 b y).trans (k1 b o y e)) ?_ hc2 pm pw) (z0m _) (by rw[z0p];exact Nat.le_succ_of_le lo);obtain⟨o,es,ep,e1,e2,e3⟩:=hns;exact nx21 o es ep ((s2.2 F haF.symm).trans (k1 F o haF.symm e1)) e2 e3
 by_cases h2:2<=vs.length
 ·have hn2:¬ vs.toArray.size < 2:=by rw[z0p];lia
  rw[z01 hn2,z01 hn2];refine z00 (hkind h2 h6 k1 _ ?_);let C:Gs.Cmp prog w A E {s with heap:=h6}:=⟨κ,λ p=>p.1=p.2/\p.1∈vs,λ p=>rk p.1,λ {st p q Q} hk hp hq hQ=>by
   rw[lt'_eq];refine z06 (z2g (z06 (wpS_lift (z34 ?_))));rw[hk];exact hlt h2 h6 k1 _ hp.2 _ hq.2 _ _ ⟨rfl,z07 hQ⟩⟩
  have h0:∀ x∈(pairsOf vs).toList,C.gd x:=λ x hx=>by
   rw[pairsOf_toList] at hx;exact mem_zip_self hx
  refine z00 (z1b (Gs.c4l (Q:=λ _ st'=>(arrOf st').Perm (pairsOf vs)/\failedOf st'=none/\Gs.Rise C (arrOf st') 0 (pairsOf vs).size) h0 (Array.Perm.refl _) rfl rfl rfl λ st' r1 r2 r3=>⟨r1,r2,r3⟩) ?_ λ _ _ e=>e);rintro⟨⟨⟩,st'⟩ s' ⟨rfl,hp,hf,hr⟩;refine z00 (seqEpoch_at ho6 rfl ?_);rw[hf];have pl:(arrOf st').toList.Perm (vs.zip vs):=by rw[<-pairsOf_toList];exact z53.mp hp
  have pm:((arrOf st').toList.map (·.2)).Perm vs:=by
   have:=pl.map (·.2);rwa [List.map_snd_zip (z05 _)] at this
  have pw:((arrOf st').toList.map (·.2)).Pairwise λ x y=>rk x<=rk y:=by
   have hz2:=hp.size_eq;have up:=Gs.b1w hr (by rw[hz2];exact z05 _);rw[z4m,Nat.sub_zero,z20 (by rw[z0q,hz2];exact z05 _)] at up;refine z26.mpr (z6z (λ {x y} hx hy hxy=>?_) up);have e1:=(mem_zip_self (pl.mem_iff.mp hx)).1;have e2:=(mem_zip_self (pl.mem_iff.mp hy)).1;have hxy':rk x.1<=rk y.1:=hxy;rw[e1,e2] at hxy';exact hxy'
  have eo:(arrOf st').map (·.2)=((arrOf st').toList.map (·.2)).toArray:=by
   apply Array.toList_inj.mp;simp
  rw[eo];refine z00 (z1b (fin _ (by rw[pm.length_eq];exact hz) pm pw) (λ _ s'' q=>?_) λ _ _ e=>e);simp only [z6m,z36,z2h];exact z03 q
 ·have hn2:vs.toArray.size < 2:=by rw[z0p];lia
  rw[z02 hn2,z02 hn2];refine z00 (z03 ?_);refine z00 (z03 (z00 (seqEpoch_at ho6 rfl ?_)));have eo:(arrOf (SortSt.mk' general' (vs.toArray.zip vs.toArray) #[] 7 none)).map (·.2)=vs.toArray:=by
   show (vs.toArray.zip vs.toArray).map (·.2)=_;apply Array.ext
   ·simp
   ·intro i h1 h2;simp
  dsimp only;rw[eo];have pw:vs.Pairwise λ x y=>rk x<=rk y:=by
   match vs,h2 with
   | [],_=>exact .nil
   | [x],_=>exact z3y.mpr ⟨(λ _ h=>by cases h),.nil⟩
   | x::y::r,h2=>exact absurd (by simp) h2
  refine z00 (z1b (fin vs hz (.refl _) pw) (λ _ s'' q=>?_) λ _ _ e=>e);simp only [z6m,z36,z2h];exact z03 q
def IsK (h:Heap) (k:List Key) (v:Value):Prop:=∃ (a:Addr) (o:Obj) (n:Nat) (us:List Value),v=.ref a/\h.get? a=some o/\o.cls=.type "tuple"/\o.data=.seq us.toArray n/\a2e (k.map kV) us
theorem e1a (h:a2d (kV k) u) (g:a2d (kV l) u):k=l:=by
 match k,l,h,g with
 | .inl i,.inl j,h,g =>
  obtain⟨t,rfl⟩:=(h);obtain⟨t',e⟩:=(g);injection e with e1 _;rw[e1]
 | .inr x,.inr y,h,g =>
  obtain⟨t,rfl⟩:=(h);obtain⟨t',e⟩:=(g);injection e with e1 _;rw[e1]
 | .inl i,.inr y,h,g =>
  obtain⟨t,rfl⟩:=(show ∃ t,u=Value.int i t from h);obtain⟨t',e⟩:=(g);cases e
 | .inr x,.inl j,h,g =>
  obtain⟨t,rfl⟩:=(show ∃ t,u=Value.str x t from h);obtain⟨t',e⟩:=(g);cases e
theorem a9e:∀ {k l:List Key} {us:List Value},a2e (k.map kV) us->a2e (l.map kV) us->k=l
 | [],[],_,_,_=>rfl
 | [],_::_,_,.nil,h=>nomatch h
 | _::_,[],_,h,.nil=>nomatch h
 | a::r,b::t,_,.cons h1 h2,.cons g1 g2=>by
  have e1:=e1a h1 g1;rw[e1,a9e h2 g2]
theorem IsK.inj (x:IsK h k v) (y:IsK h l v):k=l:=by
 obtain⟨a,o,n,us,rfl,ho,_,hd,hv⟩:=x;obtain⟨a',o',n',us',e,ho',_,hd',hv'⟩:=y;cases e;rw[ho] at ho';cases ho';rw[hd] at hd';injection hd' with e1 _;have e2:us=us':=by
  have:=z0b Array.toList e1;simpa using this
 subst e2;exact a9e hv hv'
section
variable {prog:Program} {w:World} {A:Around} {s:Shared}
theorem IsK.keep (x:IsK h k v) (kp:∀ b o,o.cls=.type "tuple"->h.get? b=some o->h'.get? b=some o):IsK h' k v:=let ⟨a,o,n,us,e,ho,hc,hd,hv⟩:=x; (nx1 a o n us e (kp a o hc ho) hc hd hv)
end
section
variable {X:Cx} {pins:List (Addr×Obj)} {σ:L2.St} {H:Hp} {s:Shared}
theorem d9n (lo:(d == sysModules)=false):KdlSrc prog w "dict" d d es.size (λ i v=>∃ e,es[i]?=some e/\e.key=v) (λ h=>d6c h d es ep) where
 type:=λ _ hm=>hm.typeIs
 there:=λ _ ⟨_,ho,_⟩=>⟨z0g ho,z0g ho⟩
 keep:=λ _ _ ⟨o,ho,x⟩ hk=>⟨o,hk d (.inl rfl) o ho,x⟩
 notList:=by decide
 notTuple:=by decide
 hint:=λ _ _ _ _ hm hq=>kdl_hint_dict hm.typeIs hq
 iter:=λ A s hh hm=> nx0 _ (λ i h=>h.IsKeyIter s.heap.objs.size d i es.size ep/\d6c h d es ep) (λ _ _ hq=>d6k lo hm hq) ({
  sub:=λ b hb=>by simp at hb;simp[hb]
  frame:=λ _ _ _ st hk=>⟨st.1.at λ o e=>hk _ (by simp) o e,let ⟨o,ho,x⟩:=st.2;⟨o,hk d (by simp) o ho,x⟩⟩
  item:=λ i s' Q E hi st hQ=>by
   obtain⟨e,he⟩:∃ e,es[i]?=some e:=⟨es[i],by simp[hi]⟩;have hne:=let ⟨_,ho,_⟩:=hm;z0k (z0g ho)
   refine d4a st.1 st.2 he λ h' hi' hs'=>hQ e.key h' s'.toks ⟨e,he,rfl⟩ ⟨hi',let ⟨o,ho,x⟩:=st.2;⟨o,(hs'.2 d hne).trans ho,x⟩⟩ λ b o hb e=>(hs'.2 b (by simpa using hb)).trans e
  done:=λ s' Q E st hQ=>d8z hh st.1 st.2 (z05 _) λ h' k=>hQ h' s'.toks λ b o hb e=>k b o (by simpa using hb) e
  self:=λ _ _ _ _ st hQ=>wpAny_pyIter_keyiter st.1 hQ}) ⟨⟨_,z0t _ rfl,rfl,rfl⟩,let ⟨o,ho,x⟩:=hm;⟨o,z0e _ ho,x⟩⟩
def KF (H H':Hp):Prop:=∀ b o,H b=some o->H' b=some o\/∃ kvs ob,o=.dK kvs/\H' b=some (.frz ob (.dK kvs))
theorem KF.of (s:Same H H'):KF H H':=λ b o e=>.inl (s b o e)
theorem KF.refl (H:Hp):KF H H:=λ _ _ e=>.inl e
theorem KF.trans (a:KF H H') (b:KF H' H''):KF H H'':=λ c o e=>by
 rcases a c o e with h | ⟨kvs,ob,rfl,h⟩
 ·exact b c o h
 ·rcases b c _ h with h2 | ⟨_,_,z,_⟩
  ·exact .inr (nx9 kvs ob rfl h2)
  ·cases z
theorem KF.lst {H H':Hp} (a:KF H H') {b:Addr} {xs:List V} (e:H b=some (.lst xs)):H' b=some (.lst xs):=by
 rcases a b _ e with h | ⟨_,_,z,_⟩
 ·exact h
 ·cases z
theorem KF.tup {H H':Hp} (a:KF H H') {b:Addr} {xs:List V} (e:H b=some (.tup xs)):H' b=some (.tup xs):=by
 rcases a b _ e with h | ⟨_,_,z,_⟩
 ·exact h
 ·cases z
theorem KF.frz {H H':Hp} (a:KF H H') {b:Addr} {ob:Obj} {u:HO} (e:H b=some (.frz ob u)):H' b=some (.frz ob u):=by
 rcases a b _ e with h | ⟨_,_,z,_⟩
 ·exact h
 ·cases z
theorem KF.rd (a:KF H H') (e:Rd H b (.dK kvs)):Rd H' b (.dK kvs):=by
 rcases e with e | ⟨ob,e⟩
 ·rcases a b _ e with h | ⟨_,ob,z,h⟩
  ·exact .inl h
  ·cases z;exact .inr ⟨ob,h⟩
 ·exact .inr ⟨ob,a.frz e⟩
mutual
theorem Tr.kf {H H':Hp} (s:KF H H') {v:V} {d:PyData} (h:Tr H v d):Tr H' v d:=by
 cases h with
 | int i=>exact .int i
 | str x=>exact .str x
 | lst h r=>exact .lst (s.lst h) (Trs.kf s r)
 | tup h r=>exact .tup (s.tup h) (Trs.kf s r)
theorem Trs.kf {H H':Hp} (s:KF H H') {vs:List V} {ds:List PyData} (h:Trs H vs ds):Trs H' vs ds:=by
 cases h with
 | nil=>exact .nil
 | cons h r=>exact .cons (Tr.kf s h) (Trs.kf s r)
end
end
section
variable {X:Cx} {o e:Expr} {td te:TE} {apos cpos:Pos}
theorem d0m {K:W.Frag} (hK:X.K=K):b4l X (.builtin "len") (λ xs H Q=>∃ x n,xs=[x]/\e6h K x H n/\Q (.int n) H):=hK ▸ a1f
def e2v (td:TE):TI:=λ σ H R=>td σ H λ x H1=>∃ d kvs,x=.ref d/\Rd H1 d (.dK kvs)/\∀ ob H2,H2 d=some (.frz ob (.dK kvs))->KF H1 H2->(∀ b,b≠d->H2 b=H1 b)->R (ItK d ob kvs) H2
theorem d3p (ho:PE X o td):PI X tg o (e2v td):=by
 constructor;intro pins s σ H R I h;refine thn (ho pins s σ H _ I h) λ v s1 ⟨x,H1,I1,r1,d,kvs,ex,hd,q⟩=>?_
 subst ex;cases r1;obtain⟨ob,H2,I2,h2,k2,n2⟩:∃ ob H2,Inv X pins σ H2 s1/\H2 d=some (.frz ob (.dK kvs))/\KF H1 H2/\∀ b,b≠d->H2 b=H1 b:=by
  rcases hd with e | ⟨ob,e⟩
  ·obtain⟨ob,eo⟩:=c4p (I1.hok d _ e);refine nx8 ob _ (c5d I1 e eo) a0b (λ b o eb=>?_) λ b eb=>?_
   ·by_cases n:b=d
    ·subst n;rw[e] at eb;cases eb;exact .inr (nx9 kvs ob rfl a0b)
    ·exact .inl (by rw[a0g n];exact eb)
   ·exact a0g eb
  ·exact nx8 ob H1 I1 e (KF.refl _) λ _ _=>rfl
 obtain⟨ho2,z,hs,vs,rel,dd⟩:=(show a2r X.prog X.w H2 s1.heap d (.frz ob (.dK kvs)) from I2.hok d _ h2);obtain⟨ep,hat⟩:=dd.dictAt;have hat':∀ h:Heap,h.get? d=some ob->h.DictAt (a0y X.prog X.w) d vs ep:=λ h e=>hat.at' λ o e2=>by
  rw[ho2] at e2;cases e2;exact e
 refine wpAny_pyIter_dict hs hat ?_;have I3:=I2.kept (t':=s1.toks) (h':=s1.heap.push {cls:=.type "dict_keyiterator",data:=.fields #[.ref d,.int 0 0,.int vs.length 0,.int ep 0]}) λ b o e=>z0e _ e
 exact nx23 _ ([s1.heap.objs.size]) _ _ H2 rfl I3 (c6m d _ ep ob kvs vs rel hat') ⟨_,z0t _ rfl,rfl,rfl⟩ ⟨λ b hb=>by
  rw[z0i.mp hb];exact I2.fpOk (z05 _) (I2.hok.fresh (z05 _)),q ob H2 h2 k2 n2⟩
end
abbrev Eg:=Nk×Nk×Str×Option Int
abbrev NV:HVK Nk:=HVK.int.pair HVK.int
def oI:Option Int->Value->Prop
 | none,u=>u=.none
 | some i,u=>∃ t,u=.int i t
theorem d5y (h:oI x u) (g:oI y u):x=y:=by
 match x,y,h,g with
 | none,none,_,_=>rfl
 | some i,some j,⟨t,e⟩,⟨t',e'⟩=>subst e;cases e';rfl
 | none,some j,e,⟨t',e'⟩=>subst e';cases e
 | some i,none,⟨t,e⟩,e'=>subst e;cases e'
theorem e1c (h:oI x u) (g:oI y v):EqAt A s u v (decide (x=y)):=by
 match x,y,h,g with
 | none,none,e,e'=>cases e;cases e';exact EqAt.same _
 | some i,some j,⟨t,e⟩,⟨t',e'⟩ =>
  subst e;subst e';have:=EqAt.int_int (A:=A) (s:=s) i t j t';rwa [show (i == j)=decide (some i=some j) by by_cases q:i=j<;>simp[q]] at this
 | none,some j,e,⟨t',e'⟩=>subst e';cases e;exact EqAt.none_int _ _
 | some i,none,⟨t,e⟩,e'=>subst e;cases e';exact EqAt.int_none _ _
def b9g (h:Heap) (k:Eg) (a:Addr):Prop:=∃ o n u1 u2 t u4,h.get? a=some o/\o.cls=.type "tuple"/\o.data=.seq #[u1,u2,.str k.2.2.1 t,u4] n/\NV.is h k.1 u1/\NV.is h k.2.1 u2/\oI k.2.2.2 u4
theorem b9g.keep (x:b9g h k a) (kp:KpT h h'):b9g h' k a:=by
 obtain⟨o,n,u1,u2,t,u4,e1,e2,e3,e4,e5,e6⟩:=x;exact nx32 o n u1 u2 t u4 (kp a o _ _ e1 e2 e3) e2 e3 (NV.keep e4 kp) ⟨NV.keep e5 kp,e6⟩
theorem b9g.inj (hx:b9g h x a) (hy:b9g h y a):x=y:=by
 obtain⟨o,n,u1,u2,t,u4,e1,e2,e3,e4,e5,e6⟩:=hx;obtain⟨o',n',v1,v2,t',v4,f1,f2,f3,f4,f5,f6⟩:=hy;rw[e1] at f1;cases f1;rw[e3] at f3;injection f3 with q _;have q':[u1,u2,Value.str x.2.2.1 t,u4]=[v1,v2,Value.str y.2.2.1 t',v4]:=by simpa using q
 injection q' with q1 q';injection q' with q2 q';injection q' with q3 q';injection q' with q4 _;injection q3 with q3 _;subst q1;subst q2;subst q4;exact z1d (NV.inj e4 f4) (z1d (NV.inj e5 f5) (z1d q3 (d5y e6 f6)))
section
variable {prog:Program} {w:World} {A:Around} {E:Value->Shared->Prop} {s:Shared}
theorem d0p (hu:A.units < cLine) (h:Q (reduceHash 4238894112) {s with toks:=s.toks+1}):wpAny (model prog w) A (PySem.pyHash .none) Q E s:=by
 have hT:s.TypeIs .none "NoneType":=rfl;unfold PySem.pyHash;unfold pyHashByItsType;refine z00 (wpAny_cRoomFor_or (.inr hu) (z00 (z30 hT z6b.lookup ?_)));refine z00 (z30 hT z6b.lookup ?_);refine z00 (z6t hT z6b (z1q z6b hT F.entry_NoneType_hash ?_ (F.args_NoneType_hash_1 _)));refine wpAny_ret_mkInt (show wpAny _ _ (if (decide (-(2:Int) ^ 63<=4238894112) && decide ((4238894112:Int) < 2 ^ 63))=true then _ else _) Q E _ from ?_);unfold reduceHash at h;by_cases hr:(decide (-(2:Int) ^ 63<=4238894112) && decide ((4238894112:Int) < 2 ^ 63))=true
 ·rw[z02 hr] at h ⊢;exact z03 h
 ·rw[z01 hr] at h ⊢;exact z00 (z1s (z03 h))
def b2s (prog:Program) (w:World) (k:Nk):Int:=tupleKeyHash (a0y prog w) [.inl k.1,.inl k.2]
theorem c8q (hu:A.units < cLine) (x:NV.is s.heap k v) (h:Q (b2s prog w k) {s with toks:=s.toks+3}):wpAny (model prog w) A (PySem.pyHash v) Q E s:=by
 obtain⟨u,u',⟨a,o,n,rfl,ho,hc,hd⟩,hx,hy⟩:=x;refine wpAny_pyHash_tuple hu (nx4 o _ n ho hc hd ?_) h;have:a2e ([Sum.inl k.1,Sum.inl k.2].map kV) [u,u']:=.cons hx (.cons hy .nil);exact b3s this
def d2b:Option Int->Int
 | none=>reduceHash 4238894112
 | some i=>hashInt i
theorem e1g (hu:A.units < cLine) (x:oI k v) (h:Q (d2b k) {s with toks:=s.toks+1}):wpAny (model prog w) A (PySem.pyHash v) Q E s:=by
 match k,x,h with
 | none,e,h=>cases e;exact d0p hu h
 | some i,⟨t,e⟩,h=>subst e;exact wpAny_pyHash_int h
def c7f (prog:Program) (w:World) (k:Eg):Int:=reduceHash (Builtin.Tuple.tupleHashOf [b2s prog w k.1,b2s prog w k.2.1,hashStr w k.2.2.1,d2b k.2.2.2])
theorem d9u (hu:A.units+4 < cLine) (x:b9g s.heap k a) (h:Q (c7f prog w k) {s with toks:=s.toks+9}):wpAny (model prog w) A (PySem.pyHash (.ref a)) Q E s:=by
 obtain⟨o,n,u1,u2,t,u4,ho,hc,hd,h1,h2,h4⟩:=x;have hT:s.TypeIs (.ref a) "tuple":=⟨o,ho,hc⟩;have hu1:A.in1.units < cLine:=by show A.units+1 < cLine;lia
 unfold PySem.pyHash;unfold pyHashByItsType;refine z00 (wpAny_cRoomFor_or (.inr (by lia)) (z00 (z30 hT z3i.lookup ?_)));refine z00 (z30 hT z3i.lookup ?_);refine z00 (z6t hT z3i (z1q z3i hT F.entry_tuple_hash ?_ (F.args_tuple_hash_1 _)));show wpAny _ _ (Builtin.Tuple.tupleItemsOf (.ref a)>>=λ its=>_) _ _ _;refine z00 (wpAny_tupleItemsOf ho hd (z00 ?_));rw[<-z4t,show (#[u1,u2,Value.str k.2.2.1 t,u4]:Array Value).toList=[u1,u2,Value.str k.2.2.1 t,u4] from rfl,z1r];refine z00 (z00 (c8q hu1 h1 (z03 ?_)));show wpAny _ _ (forIn [u2,Value.str k.2.2.1 t,u4] _ _) _ _ _;rw[z1r];refine z00 (z00 (c8q hu1 h2 (z03 ?_)));show wpAny _ _ (forIn [Value.str k.2.2.1 t,u4] _ _) _ _ _;rw[z1r];refine z00 (z00 (wpAny_pyHash_str (z03 ?_)));show wpAny _ _ (forIn [u4] _ _) _ _ _;rw[z1r];refine z00 (z00 (e1g hu1 h4 (z03 ?_)));refine z03 (show wpAny _ _ (retInt (Builtin.Tuple.tupleHashOf [b2s prog w k.1,b2s prog w k.2.1,hashStr w k.2.2.1,d2b k.2.2.2])) _ _ _ from ?_);generalize ez:Builtin.Tuple.tupleHashOf [b2s prog w k.1,b2s prog w k.2.1,hashStr w k.2.2.1,d2b k.2.2.2]=z;unfold c7f at h;rw[ez] at h;refine wpAny_ret_mkInt (show wpAny _ _ (if (decide (-(2:Int) ^ 63<=z) && decide (z < 2 ^ 63))=true then _ else _) Q E _ from ?_);unfold reduceHash at h;by_cases hr:(decide (-(2:Int) ^ 63<=z) && decide (z < 2 ^ 63))=true
 ·rw[z02 hr] at h ⊢;exact z03 h
 ·rw[z01 hr] at h ⊢;exact z00 (z1s (z03 h))
theorem e4x (hu:A.units+4 < cLine) (hx:b9g s.heap x a) (hy:b9g s.heap y b):EqAt A s (.ref a) (.ref b) (decide (x=y)):=by
 by_cases haa:a=b
 ·subst haa;rw[hx.inj hy,z08 rfl];exact EqAt.same _
 ·obtain⟨o,n,u1,u2,t,u4,ho,hc,hd,h1,h2,h4⟩:=hx;obtain⟨o',n',v1,v2,t',v4,ho',hc',hd',g1,g2,g4⟩:=hy;have hu1:A.in1.units+NV.d < cLine:=by show A.units+1+1 < cLine;lia
  have key:=RcAt.tuples (A:=A) (e:=λ j=>if j=0 then decide (x.1=y.1) else if j=1 then decide (x.2.1=y.2.1) else if j=2 then decide (x.2.2.1=y.2.2.1) else decide (x.2.2.2=y.2.2.2)) (nx13 o ho hc n hd) (nx13 o' ho' hc' n' hd') (by lia) λ j j1 j2=>by
   have:j=0\/j=1\/j=2\/j=3:=by have:j < 4:=j1;lia
   rcases this with rfl | rfl | rfl | rfl
   ·exact NV.eq hu1 h1 g1
   ·exact NV.eq hu1 h2 g2
   ·have:=EqAt.str_str (A:=A.in1) (s:=s) x.2.2.1 t y.2.2.1 t';rwa [show (x.2.2.1 == y.2.2.1)=decide (x.2.2.1=y.2.2.1) by by_cases q:x.2.2.1=y.2.2.1<;>simp[q]] at this
   ·exact e1c h4 g4
  have e:((List.range (min (#[u1,u2,Value.str x.2.2.1 t,u4]:Array Value).size (#[v1,v2,Value.str y.2.2.1 t',v4]:Array Value).size)).all (λ j=>if j=0 then decide (x.1=y.1) else if j=1 then decide (x.2.1=y.2.1) else if j=2 then decide (x.2.2.1=y.2.2.1) else decide (x.2.2.2=y.2.2.2)) && ((#[u1,u2,Value.str x.2.2.1 t,u4]:Array Value).size == (#[v1,v2,Value.str y.2.2.1 t',v4]:Array Value).size))=decide (x=y):=by
   show ((List.range 4).all _ && true)=_;rw[show List.range 4=[0,1,2,3] from rfl];obtain⟨x1,x2,x3,x4⟩:=x;obtain⟨y1,y2,y3,y4⟩:=y;simp[Bool.decide_and]
  rw[e] at key;exact EqAt.of_refs haa key
theorem d3d (x:b9g s.heap k a) (h:Q true s):wpAny (model prog w) A (eqIsQuiet 8 (.ref a)) Q E s:=by
 obtain⟨o,n,u1,u2,t,u4,ho,hc,hd,h1,h2,h4⟩:=x;have hT:s.TypeIs (.ref a) "tuple":=⟨o,ho,hc⟩;unfold eqIsQuiet;refine z00 (z30 hT F.slot_tuple_eq.lookup (z00 (z5s hT isSubtype_tuple_tuple ?_)));simp only [Bool.not_true,z36,z2h];refine z00 (z2r ho hd (z00 ?_));show wpAny _ _ (forIn (#[u1,u2,Value.str k.2.2.1 t,u4]:Array Value) _ _) _ _ _;rw[<-z4t,show (#[u1,u2,Value.str k.2.2.1 t,u4]:Array Value).toList=[u1,u2,Value.str k.2.2.1 t,u4] from rfl,z1r];refine z00 (z00 (NV.quiet 7 (by decide) h1 (z03 ?_)));show wpAny _ _ (forIn [u2,Value.str k.2.2.1 t,u4] _ _) _ _ _;rw[z1r];refine z00 (z00 (NV.quiet 7 (by decide) h2 (z03 ?_)));show wpAny _ _ (forIn [Value.str k.2.2.1 t,u4] _ _) _ _ _;rw[z1r];refine z00 (z00 ?_);refine z03 (z03 ?_);show wpAny _ _ (forIn [u4] _ _) _ _ _;rw[z1r];refine z00 (z00 ?_);have e4:eqIsQuiet 7 u4=pure true:=by
  match k.2.2.2,h4 with
  | none,e=>cases e;exact eqIsQuiet_byValue 7 rfl
  | some i,⟨t,e⟩=>subst e;exact eqIsQuiet_byValue 7 rfl
 rw[e4];exact z03 (z03 (z03 (z03 h)))
end
def ek (prog:Program) (w:World):HeapKind prog w Eg where
 is:=b9g
 hash:=c7f prog w
 draws:=λ _=>9
 room:=λ A=>A.units+4 < cLine
 inj:=b9g.inj
 keeps:=λ {h h' k a d o es ep} x ho hd sb=>x.keep λ b ob xs n e c dd=>(sb.2 b λ z=>by rw[z,ho] at e;cases e;rw[hd] at dd;cases dd).trans e
 pyHash:=λ hu x h=>d9u hu x h
 eqBool:=λ hu hx hy h=>e4x hu hx hy _ _ _ _ h
 quiet:=λ x h=>d3d x h
section
variable {prog:Program} {w:World} {A:Around} {E:Value->Shared->Prop} {s:Shared}
theorem c2l {h h':Heap} (x:h.DictOfH (ek prog w) D xs) (kD:∀ o,h.get? D=some o->h'.get? D=some o) (kT:∀ b o ys n,h.get? b=some o->o.data=.seq ys n->h'.get? b=some o):h'.DictOfH (ek prog w) D xs:=by
 obtain⟨o,es,ep,e1,e2,e3,e4,e5,e6⟩:=x;refine nx17 o es ep (kD o e1) e2 e3 e4 ⟨λ y hy=>?_,e6⟩;exact b9g.keep (e5 y hy) λ b o ys n e _ d=>kT b o ys n e d
theorem d8g {us:List Value} (hu:A.units+8 < cLine) (hh:A.handled=none) (hlI:l≠I) (hDI:D≠I) (hDl:D≠l) (hlen:us.length=ks.length) (hsz:ks.length < 1000000) :
  ∀ (k i:Nat) (s:Shared),us.length - i=k->i<=us.length->s.heap.IsListIter I l i->s.heap.IsList l us.toArray->(∀ (j:Nat) u,us[j]?=some u->∃ t q,u=.ref t/\ks[j]?=some q/\s.heap.IsTuple t #[.ref q.2.1,q.2.2]/\b9g s.heap q.1 q.2.1) ->
   (∃ xs,s.heap.DictOfH (ek prog w) D xs/\xs=a2i [] (ks.take i)/\xs.length<=i) ->
   (∀ h' tk,(∀ b o,b≠I->b≠D->s.heap.get? b=some o->h'.get? b=some o)->h'.DictOfH (ek prog w) D (a2i [] ks)->R (.ok (.ret .none)) {s with heap:=h',toks:=tk}) ->
   codeAny (model prog w) A (.builtin "dict.update.loop" ⟨[.ref D,.ref I,rawInt i,.none],[]⟩) R s:=by
 have W:=Walks.list (prog:=prog) (w:=w) (A:=A.in1) hh I l hlI us.toArray;have us0:us.toArray.size=us.length:=by simp
 have noI:∀ {s:Shared} {i:Nat},s.heap.IsListIter I l i->∀ b o ys n,s.heap.get? b=some o->o.data=.seq ys n->b≠I:=λ {s i} hit b o ys n ho hd z=>by
  obtain⟨o',ho',hc,hd'⟩:=hit;rw[z,ho'] at ho;cases ho;rw[hd] at hd';cases hd'
 have noD:∀ {h:Heap} {xs:List (Eg×Addr×Value)},h.DictOfH (ek prog w) D xs->∀ b o ys n,h.get? b=some o->o.data=.seq ys n->b≠D:=λ {h xs} dd b o ys n ho hd z=>by
  obtain⟨o',es,ep,e1,e2,e3,_⟩:=dd;rw[z,e1] at ho;cases ho;rw[hd] at e3;cases e3
 intro k;induction k with
 | zero =>
  intro i s hk hi hit hil ht hg hR;have hin:i=us.length:=by lia
  refine z3a b1y ?_;refine z00 (W.done s _ _ ⟨by rw[us0,<-hin];exact hit,hil⟩ λ h' tk hk'=>?_);obtain⟨xs,dd,rfl,_⟩:=hg;rw[hin,hlen,z0x] at dd;exact z00 (z03 (z03 (hR h' tk (λ b o b1 _ e=>hk' b o (by simpa using b1) e) (c2l dd (λ o e=>hk' D o (by simpa using hDI) e) λ b o ys n e d=>hk' b o (by simpa using noI hit b o ys n e d) e))))
 | succ k ih =>
  intro i s hk hi hit hil ht hg hR;have hlt:i < us.length:=by lia
  refine z3a b1y ?_;rw[z5g a7c _];refine z00 (W.item i s _ _ (by rw[us0];exact hlt) ⟨hit,hil⟩ λ v h1 tk1 hP hst hk1=>?_);obtain⟨t,q,rfl,hq,hT,hkk⟩:=ht i v (by simpa using hP);obtain⟨xs,dd,evs,hvl⟩:=hg;obtain⟨oT,hoT,hcT,nT,hdT⟩:=id hT;have kT1:=λ b o ys n e d=>hk1 b o (by simpa using noI hit b o ys n e d) e
  have hoT1:=kT1 t oT _ _ hoT hdT;refine z00 (z1n (z00 (wpAny_tryCatch ?_)));unfold Builtin.Dict.pairItems;refine z00 (z3l (T:="tuple") ⟨oT,hoT1,hcT⟩ ?_);rw[z02 (by decide)];refine z00 (z2r hoT1 hdT (z03 ?_));have dd1:h1.DictOfH (ek prog w) D xs:=c2l dd (λ o e=>hk1 D o (by simpa using hDI) e) kT1;have hkk1:b9g h1 q.1 q.2.1:=hkk.keep λ b o ys n e _ d=>kT1 b o ys n e d
  refine z1n (wpAny_dictSet_heap (knd:=ek prog w) (show A.units+1+4 < cLine by lia) hkk1 dd1 (λ h2 dd2 sb=>?_) (z0s hvl (z0s hi (by rw[hlen];exact z0s (z3v hsz) (by decide)))));have oth:∀ b,b≠D->h2.get? b=h1.get? b:=λ b hb=>sb.2 b hb
  have kT2:=λ b o ys n e d=>(oth b (noD dd b o ys n e d)).trans (kT1 b o ys n e d)
  refine z03 ⟨z42 a7c _,?_⟩;have en:rawInt ((i:Int)+1)=rawInt ((i+1:Nat):Int):=by rw[Int.natCast_add];rfl
  rw[en];refine ih (i+1) {s with heap:=h2,toks:=tk1+(ek prog w).draws q.1} (by lia) hlt (hst.1.at λ o e=>(oth I hDI.symm).trans e) (hst.2.at λ o e=>(oth l hDl.symm).trans e) (λ j u eu=>?_) ⟨_,dd2,?_,?_⟩ λ h3 tk3 k3 dd3=>?_
  ·obtain⟨t',q',e1,e2,⟨oT',hoT',hc',nT',hd'⟩,f⟩:=ht j u eu;exact nx8 t' q' e1 e2 (nx13 oT' (kT2 _ _ _ _ hoT' hd') hc' nT' hd') (f.keep λ b o ys n e _ d=>kT2 b o ys n e d)
  ·rw[z0v,hq,evs];unfold a2i;rw[z4j];rfl
  ·have:=b3n xs q.1 q.2.1 q.2.2;lia
  ·exact hR h3 tk3 (λ b o b1 b2 e=>k3 b o b1 b2 ((oth b b2).trans (hk1 b o (by simpa using b1) e))) dd3
end
def oV:Option Int->V
 | none=>.non
 | some i=>.int i
def EgV (H:Hp) (v:V) (k:Eg):Prop:=∃ p u1 u2,v=.ref p/\H p=some (.tup [u1,u2,.str k.2.2.1,oV k.2.2.2])/\NdV H u1 k.1/\NdV H u2 k.2.1
theorem e2m (r:a2d (oV k) u):oI k u:=by
 cases k with
 | none=>exact r
 | some i=>exact r
section
variable {X:Cx} {pins:List (Addr×Obj)} {σ:L2.St} {H:Hp} {s:Shared}
theorem e4b (I:Inv X pins σ H s) (h:EgV H (.ref a) k):b9g s.heap k a:=by
 obtain⟨p,u1,u2,e0,e,h1,h2⟩:=h;cases e0;obtain⟨its,rv,⟨o,e1,e2,c,e3⟩,_⟩:=I.tuple (SqT.of e);cases rv with
 | cons r1 t =>
  cases t with
  | cons r2 t2 =>
   cases t2 with
   | cons r3 t3 =>
    cases t3 with
    | cons r4 t4 =>
     cases t4;obtain⟨tt,rfl⟩:=r3;exact nx32 o c _ _ tt _ e1 e2 e3 (d3y I h1 r1) ⟨d3y I h2 r2,e2m r4⟩
inductive d9z (H:Hp):List V->List Eg->Prop where
 | nil:d9z H [] []
 | cons {t b:Addr} {v:V} {k:Eg} {ws:List V} {ks:List Eg} (h:H t=some (.tup [.ref b,v])) (hb:EgV H (.ref b) k) (r:d9z H ws ks):d9z H (.ref t::ws) (k::ks)
theorem d0w (I:Inv X pins σ H s):∀ {ws:List V} {ks:List Eg} {its:List Value},d9z H ws ks->a2e ws its ->
  ∃ qs:List (Eg×Addr×Value),Paired (λ (q:Eg×Addr×Value) k=>q.1=k/\EgV H (.ref q.2.1) k) qs ks/\its.length=qs.length/\∀ (j:Nat) u,its[j]?=some u->∃ t q,u=.ref t/\qs[j]?=some q/\s.heap.IsTuple t #[.ref q.2.1,q.2.2]/\b9g s.heap q.1 q.2.1
 | _,_,_,.nil,.nil=>⟨[],.nil,rfl,λ j u e=>by simp at e⟩
 | _,_,_,.cons (b:=b) (k:=k) h hb r,.cons rv rr=>by
  obtain⟨qs,k1,k2,k3⟩:=d0w I r rr;obtain⟨its,r2,⟨o,ho,hr⟩,_⟩:=I.tuple (SqT.of h);obtain⟨ku,vu,rfl,e1,e2⟩:=d0g r2;cases rv;cases e1;refine⟨(k,b,vu)::qs,.cons ⟨rfl,hb⟩ k1,by simp[k2],λ j u e=>?_⟩;cases j with
  | zero =>
   cases e;exact nx8 _ (k,b,vu) rfl rfl ⟨o,ho,hr.1,hr.2⟩ (e4b I hb)
  | succ j=>exact k3 j u (by simpa using e)
theorem c8d {K:Type} [DecidableEq K] {xs:List (K×Addr×Value)} {k:K}:(atKey xs k).isSome=true ↔ k∈xs.map (·.1):=by
 unfold atKey;rw[Option.isSome_map,List.find?_isSome,z0d];exact⟨λ ⟨x,hx,h⟩=>⟨x,hx,z0h h⟩,λ ⟨x,hx,h⟩=>⟨x,hx,z08 h⟩⟩
theorem c0x {K:Type} [DecidableEq K] {xs:List (K×Addr×Value)} {k:K} {a:Addr} {v:Value} {y:K}:y∈(storedH xs k a v).map (·.1) ↔ y=k\/y∈xs.map (·.1):=by
 unfold storedH;split
 ·next h =>
  have hk:=c8d.mp h;rw[z15,show ((λ (x:K×Addr×Value)=>x.1) ∘ putAt k v)=(·.1) from funext λ x=>by unfold putAt;show (if x.1=k then _ else _:K×Addr×Value).1=_;split<;>rfl];exact⟨.inr,λ h=>h.elim (λ e=>e ▸ hk) id⟩
 ·rw[z0z,z0f];exact⟨λ h=>h.elim .inr λ z=>.inl (by simpa using z),λ h=>h.elim (λ z=>.inr (by simpa using z)) .inl⟩
theorem c5k {K:Type} [DecidableEq K] {xs:List (K×Addr×Value)} {k:K} {P:K->Addr->Prop} (h:∀ x∈xs,P x.1 x.2.1) (hk:P k a):∀ x∈storedH xs k a v,P x.1 x.2.1:=by
 intro x hx;unfold storedH at hx;split at hx
 ·obtain⟨y,hy,e⟩:=z0d.mp hx;subst e;have:=h y hy;unfold putAt;split
  ·exact this
  ·exact this
 ·rcases z0f.mp hx with z | z
  ·exact h x z
  ·have e:x=(k,a,v):=by simpa using z
   subst e;exact hk
theorem a7s {K:Type} [DecidableEq K] {y:K}:∀ (qs xs:List (K×Addr×Value)),y∈(a2i xs qs).map (·.1) ↔ y∈xs.map (·.1)\/y∈qs.map (·.1)
 | [],xs=>by show y∈xs.map (·.1) ↔ _;simp
 | q::r,xs=>by
  show y∈(a2i (storedH xs q.1 q.2.1 q.2.2) r).map (·.1) ↔ _;rw[a7s r,c0x,z0w,z0a];exact⟨λ h=>h.elim (λ z=>z.elim (λ e=>.inr (.inl e)) .inl) λ z=>.inr (.inr z),λ h=>h.elim (λ z=>.inl (.inr z)) λ z=>z.elim (λ e=>.inl (.inl e)) .inr⟩
theorem a9j {K:Type} [DecidableEq K] {P:K->Addr->Prop}:∀ (qs xs:List (K×Addr×Value)),(∀ x∈xs,P x.1 x.2.1)->(∀ x∈qs,P x.1 x.2.1)->∀ x∈a2i xs qs,P x.1 x.2.1
 | [],xs,h,_=>h
 | q::r,xs,h,h'=>a9j r _ (c5k h (h' q (.head _))) λ x hx=>h' x (.tail _ hx)
theorem a7u {K:Type} [DecidableEq K]:∀ (qs xs:List (K×Addr×Value)),(a2i xs qs).length<=xs.length+qs.length
 | [],xs=>z05 _
 | q::r,xs=>by
  have h1:=a7u r (storedH xs q.1 q.2.1 q.2.2);have h2:=b3n xs q.1 q.2.1 q.2.2;show (a2i (storedH xs q.1 q.2.1 q.2.2) r).length<=xs.length+(r.length+1);lia
theorem b4p {α β:Type} {R:α×β->α->Prop}:∀ {qs:List (α×β)} {es:List α},Paired (λ q k=>q.1=k/\R q k) qs es->qs.map (·.1)=es
 | _,_,.nil=>rfl
 | _,_,.cons h t=>by rw[z0w,b4p t,h.1]
def ExD (p:Addr) (en:Array DictEntry) (ep:Nat):Heap->Prop:=λ h=>(p == sysModules)=false/\en.size<=sizeLine/\d6c h p en ep
def DkE (H:Hp) (en:Array DictEntry) (ks:List Eg):Prop:=Paired (λ (e:DictEntry) k=>∃ b,e.key=.ref b/\EgV H (.ref b) k) en.toList ks
theorem e3s (x:ExD p en ep h):a2r P w H h p (.ext (ExD p en ep)):=by
 refine⟨x,?_,λ h1 h2 ⟨y1,y2,o,e,y3⟩ k=>⟨y1,y2,o,k _ e,y3⟩⟩;obtain⟨_,_,o,e,_⟩:=x;exact⟨o,e⟩
theorem c5l (hu:X.A.units+16 < cLine) (hc:X.calm=true):b4l X (.type "dict") (λ xs H Q=>∃ (a:Addr) (ws:List V) (es:List Eg),xs=[V.ref a]/\H a=some (.lst ws)/\d9z H ws es/\es.length < 1000000 /\
  ∀ p en ep ks,H p=none->DkE H en ks->ks.Nodup->(∀ x,x∈ks ↔ x∈es)->Q (.ref p) (upd H p (.ext (ExD p en ep)))):=by
 intro pins s σ H xs us Q I r h;obtain⟨a,ws,es,rfl,ha,hp,hz,q⟩:=h;obtain⟨u,rfl,ru⟩:=b3r r;cases ru;obtain⟨its,rv,pl,_⟩:=I.list (SqL.of ha);obtain⟨qs,k1,k2,k3⟩:=d0w I hp rv;have kl:=z46 k1;have hal:a < s.heap.objs.size:=by obtain⟨_,_,e,_⟩:=pl;exact z0g e
 refine callType_codes (Q₁:=λ obj s₁=>obj=.ref s.heap.objs.size/\s₁={s with heap:=s.heap.push {cls:=.type "dict",data:=.dict #[]}}) F.kt_called_dict (F.kt_typeCall_dict_1 _) F.entry_dict_init (PySem.kt_code_dict_new _ ⟨rfl,rfl⟩) λ obj s₁ ⟨e1,e2⟩=>?_
 subst e1 e2;have hnew:(s.heap.push {cls:=.type "dict",data:=.dict #[]}).DictOfH (ek X.prog X.w) s.heap.objs.size []:=Heap.DictOfH.new s.heap;have hTd:Shared.TypeIs {s with heap:=s.heap.push {cls:=.type "dict",data:=.dict #[]}} (.ref s.heap.objs.size) "dict":=⟨_,z0t _ rfl,rfl⟩;refine⟨hTd,F.args_dict_init_2 _ _,?_⟩;refine z00 (z00 (z66 hTd (z03 ?_)));show wpAny _ _ (Builtin.Dict.updateFrom "dict.__init__" s.heap.objs.size (.ref a) [] .none) _ _ _;have pl1:PlainL (s.heap.push {cls:=.type "dict",data:=.dict #[]}) a its.toArray:=pl.keeps λ b o e=>z0e _ e
 obtain⟨oa,na,hoa,hca,_⟩:=id pl1;refine z00 (z3l ⟨oa,hoa,hca⟩ ?_);refine z00 (c8z pl1 (I.ok.hd hc) λ h1 tk1 hk1=>?_);have pl2:=pl1.keeps hk1;refine z00 (z1s (z00 (z5f pl2.isList ?_)));have dd1:(h1.push {cls:=.type "list_iterator",data:=.fields #[.ref a,.int 0 0]}).DictOfH (ek X.prog X.w) s.heap.objs.size []:=c2l hnew (λ o e=>z0e _ (hk1 _ _ e)) λ b o _ _ e _=>z0e _ (hk1 _ _ e)
 have hDl:s.heap.objs.size < h1.objs.size:=by obtain⟨o,es,ep,ho,r⟩:=hnew;exact z0g (hk1 _ _ ho)
 have haI:=z56 hal hDl;have kp:∀ b o,s.heap.get? b=some o->(h1.push {cls:=.type "list_iterator",data:=.fields #[.ref a,.int 0 0]}).get? b=some o:=λ b o e=>z0e _ (hk1 _ _ (z0e _ e))
 refine z03 ⟨z42 a7c _,d8g (A:=X.A.in1) (s:={s with heap:=h1.push {cls:=.type "list_iterator",data:=.fields #[.ref a,.int 0 0]},toks:=tk1}) (show X.A.units+1+8 < cLine by lia) (I.ok.hd hc) (z0k haI) (z0k hDl) (z4u hal) k2 (by rw[kl];exact hz) its.length 0 rfl (z0m _) ⟨_,z0t _ rfl,rfl,rfl⟩ (pl2.isList.push _) (λ j u eu=>?_) ⟨[],dd1,rfl,z05 _⟩ λ h3 tk3 k3' dd3=>?_⟩
 ·obtain⟨t,q',e1,e2,⟨oT,hoT,r'⟩,f⟩:=k3 j u eu;exact nx8 t q' e1 e2 ⟨oT,kp _ _ hoT,r'⟩ (f.keep λ b o xs n e _ _=>kp b o e)
 ·obtain⟨o,en,ep,e1,e2,e3,e4,_,e6⟩:=dd3;have hen:en.size<=sizeLine:=by
   rw[<-z0q,e4,z04];exact z0s (a7u qs []) (by simp only [z3h,Nat.zero_add];rw[kl];exact z0s (z3v hz) (by decide))
  refine ⟨rfl,nx0 (.ref _) _ ?_ rfl (q _ en ep ((a2i [] qs).map (·.1)) (I.hok.fresh (z05 _)) ?_ e6 λ x=>?_)⟩
  ·exact I.laid (λ b o e=>k3' b o (z0k (z56 (z0g e) hDl)) (z0k (z0g e)) (kp b o e)) (z05 _) (e3s ⟨z3q.mpr (z1t (z0k I.big)),hen,o,e1,e2,e3⟩)
  ·unfold DkE;rw[e4];have at_:=a9j (P:=λ k b=>EgV H (.ref b) k) qs [] (λ x hx=>by cases hx) λ x hx=>by
    obtain⟨i,hi⟩:=z1v.mp hx;obtain⟨k,ek,e1,e2⟩:=a1g k1 hi;rw[e1];exact e2
   generalize a2i [] qs=zs at at_;induction zs with
   | nil=>exact .nil
   | cons z r ih=>exact .cons ⟨z.2.1,rfl,at_ z (.head _)⟩ (ih λ x hx=>at_ x (.tail _ hx))
  ·rw[a7s];rw[b4p k1];simp
end
structure So {K:Type} (lt:K->K->Bool):Prop where
 irr:∀ x,lt x x=false
 tr:∀ x y z,lt x y=true->lt y z=true->lt x z=true
 tot:∀ x y,x≠y->lt x y=false->lt y x=true
theorem So.pair {K L:Type} [DecidableEq K] [DecidableEq L] {f:K->K->Bool} {g:L->L->Bool} (F:So f) (G:So g):So (ltP f g) where
 irr:=λ x=>by unfold ltP;rw[z02 rfl];exact G.irr _
 tr:=λ x y z h h'=>by
  unfold ltP at *;by_cases e:x.1=y.1
  ·rw[z02 e] at h;by_cases e':y.1=z.1
   ·rw[z02 e'] at h';rw[z02 (e.trans e')];exact G.tr _ _ _ h h'
   ·rw[z01 e'] at h';rw[z01 (λ q=>e' (e.symm.trans q)),e];exact h'
  ·rw[z01 e] at h;by_cases e':y.1=z.1
   ·rw[z01 (λ q=>e (q.trans e'.symm)),<-e'];exact h
   ·rw[z01 e'] at h';have t:=F.tr _ _ _ h h';rw[z01 λ q=>?_]
    ·exact t
    ·rw[q,F.irr] at t;cases t
 tot:=λ x y n h=>by
  unfold ltP at *;by_cases e:x.1=y.1
  ·rw[z02 e] at h;rw[z02 e.symm];exact G.tot _ _ (λ q=>n (z1d e q)) h
  ·rw[z01 e] at h;rw[z01 (λ q=>e q.symm)];exact F.tot _ _ e h
theorem a5f {K L:Type} [DecidableEq K] [DecidableEq L] {f:K->K->Bool} {g:L->L->Bool} {a b:K×L}:ltP f g a b=if a.1=b.1 then g a.2 b.2 else f a.1 b.1:=rfl
abbrev ltI (a b:Int):Bool:=decide (a < b)
def ltO:Option Int->Option Int->Bool
 | some a,some b=>decide (a < b)
 | none,some _=>true
 | _,_=>false
theorem d2w:So ltI:=⟨λ x=>by simp,λ x y z h h'=>by simp only [z2d] at *;lia,λ x y n h=>by simp only [z2d,decide_eq_false_iff_not] at *;lia⟩
theorem e6c:So ltO:=by
 refine⟨λ x=>by cases x<;>simp[ltO],λ x y z h h'=>?_,λ x y n h=>?_⟩
 ·cases x<;>cases y<;>cases z<;>simp_all [ltO]
  lia
 ·cases x<;>cases y<;>simp_all [ltO]
  lia
abbrev Rk:=Nk×Nk×Int×Option Int
def ltR:Rk->Rk->Bool:=ltP (ltP ltI ltI) (ltP (ltP ltI ltI) (ltP ltI ltO))
theorem d1l:So ltR:=(d2w.pair d2w).pair ((d2w.pair d2w).pair (d2w.pair e6c))
def c0p (h:Heap) (k:Rk) (v:Value):Prop:=∃ a o n u1 u2 t u4,v=.ref a/\h.get? a=some o/\o.cls=.type "tuple"/\o.data=.seq #[u1,u2,.int k.2.2.1 t,u4] n/\NV.is h k.1 u1/\NV.is h k.2.1 u2/\oI k.2.2.2 u4
def RAl (x y:Rk):Prop:=x.2.2.1=y.2.2.1->(x.2.2.2=none ↔ y.2.2.2=none)
section
variable {prog:Program} {w:World} {A:Around} {s:Shared}
theorem e5o (hu:A.units+4 < cLine) (hx:c0p s.heap x u) (hy:c0p s.heap y v) (al:RAl x y) (q:R (ltR x y) s):wpAny (model prog w) A (keyLt' (tuples' (Value.type "tuple" != Value.type "tuple")) u v) R E s:=by
 obtain⟨a,o,n,u1,u2,t,u4,rfl,ho,hc,hd,h1,h2,h4⟩:=hx;obtain⟨a',o',n',v1,v2,t',v4,rfl,ho',hc',hd',g1,g2,g4⟩:=hy;have hu1:A.units+NV.d < cLine:=by show A.units+1 < cLine;lia
 have hu2:=hu1;refine kat_lt ho hd ho' hd' (kat_cons ?_);unfold ltR at q;rw[a5f] at q;refine NV.eq hu1 h1 g1 prog w _ _ (kat_go (λ c=>kat_yes (kat_cons ?_)) λ c=>kat_no ?_)
 ·rw[z02 (z0h c)] at q;rw[a5f] at q;refine NV.eq hu1 h2 g2 prog w _ _ (kat_go (λ c=>kat_yes (kat_cons ?_)) λ c=>kat_no ?_)
  ·rw[z02 (z0h c)] at q;rw[a5f] at q;refine EqAt.int_int x.2.2.1 t y.2.2.1 t' prog w _ _ (kat_go (λ c=>kat_yes (kat_cons ?_)) λ c=>kat_no ?_)
   ·have c':x.2.2.1=y.2.2.1:=by simpa using c
    rw[z02 c'] at q;refine e1c h4 g4 prog w _ _ (kat_go (λ c=>kat_yes (kat_nil ?_)) λ c=>kat_no ?_)
    ·rw[z0h c,e6c.irr] at q;exact q
    ·have ne:=z3x c;have aa:=al c';generalize x.2.2.2=ox at *;generalize y.2.2.2=oy at *;match ox,oy,h4,g4,q with
     | none,none,_,_,_=>exact absurd rfl ne
     | none,some j,_,_,_=>exact absurd (aa.mp rfl) (by simp)
     | some i,none,_,_,_=>exact absurd (aa.mpr rfl) (by simp)
     | some i,some j,⟨t1,e1⟩,⟨t2,e2⟩,q =>
      subst e1;subst e2;exact VO.int.one _ (λ b=>absurd b (by simp)) (by show A.units+0 < cLine;lia) ⟨t1,rfl⟩ ⟨t2,rfl⟩ q
   ·rw[z01 (by simpa using c)] at q;exact VO.int.one _ (λ b=>absurd b (by simp)) (by show A.units+0 < cLine;lia) ⟨t,rfl⟩ ⟨t',rfl⟩ q
  ·rw[z01 (z3x c)] at q;exact VO.node.one _ (λ b=>absurd b (by simp)) hu2 h2 g2 q
 ·rw[z01 (z3x c)] at q;exact VO.node.one _ (λ b=>absurd b (by decide)) hu2 h1 g1 q
theorem c0p.keep (x:c0p h k v) (kp:KpT h h'):c0p h' k v:=by
 obtain⟨a,o,n,u1,u2,t,u4,e0,e1,e2,e3,e4,e5,e6⟩:=x;exact nx19 a o n u1 u2 t u4 e0 (kp a o _ _ e1 e2 e3) e2 e3 (NV.keep e4 kp) (NV.keep e5 kp) e6
theorem c0p.inj (hx:c0p h x v) (hy:c0p h y v):x=y:=by
 obtain⟨a,o,n,u1,u2,t,u4,e0,e1,e2,e3,e4,e5,e6⟩:=hx;obtain⟨a',o',n',v1,v2,t',v4,f0,f1,f2,f3,f4,f5,f6⟩:=hy;subst e0;cases f0;rw[e1] at f1;cases f1;rw[e3] at f3;injection f3 with q _;have q':[u1,u2,Value.int x.2.2.1 t,u4]=[v1,v2,Value.int y.2.2.1 t',v4]:=by simpa using q
 injection q' with q1 q';injection q' with q2 q';injection q' with q3 q';injection q' with q4 _;injection q3 with q3 _;subst q1;subst q2;subst q4;exact z1d (NV.inj e4 f4) (z1d (NV.inj e5 f5) (z1d q3 (d5y e6 f6)))
theorem c3t:∀ {us:List Value} {rs:List Rk},Paired (λ u r=>c0p h r u) us rs->∃ fs,KatTups h us fs/\fs.length=us.length/\∀ v∈fs,∃ k,NV.is h k v
 | _,_,.nil=>⟨[],trivial,rfl,λ v hv=>by cases hv⟩
 | _,_,.cons h1 t=>by
  obtain⟨fs,ht,hl,ha⟩:=c3t t;obtain⟨a,o,n,u1,u2,tt,u4,rfl,ho,hc,hd,g1,g2,g4⟩:=h1;refine⟨u1::fs,KatTups.cons ho hc hd rfl ht,by rw[z17,z17,hl],λ v hv=>?_⟩;rcases z0a.mp hv with z | z
  ·exact⟨_,z ▸ g1⟩
  ·exact ha v z
end
open Classical in
noncomputable def b4e (h:Heap) (u:Value):Rk:=if x:∃ k,c0p h k u then Classical.choose x else ((0,0),(0,0),0,none)
theorem b2b (x:c0p h k u):b4e h u=k:=by
 unfold b4e;rw[dif_pos ⟨k,x⟩];exact(Classical.choose_spec (⟨k,x⟩:∃ k,c0p h k u)).inj x
theorem b8y:∀ {us:List Value} {rs:List Rk},Paired (λ u r=>c0p h r u) us rs->us.map (b4e h)=rs
 | _,_,.nil=>rfl
 | _,_,.cons x t=>by rw[z0w,b8y t,b2b x]
theorem d4h {prog:Program} {w:World} {A:Around} {E:Value->Shared->Prop} {s:Shared} {us vs:List Value} {rs:List Rk} {P:PySem.Fin->Shared->Prop} {a:Addr} {before:Nat} {ks:Value} (hu:A.units+4 < cLine) (hl:us.length=vs.length) (hr:Paired (λ u r=>c0p s.heap r u) us rs) (al:∀ x∈rs,∀ y∈rs,RAl x y)
  (h:∀ st':SortSt,failedOf st'=none->(∃ zs:List (Rk×Value),zs.map (·.2)=((arrOf st').toList.map (·.2))/\zs.Perm (rs.zip vs)/\zs.Pairwise (λ p q=>ltR q.1 p.1=false))->wpAny (model prog w) A (ksk_tail a false before ks st') P E s) :
  wpAny (model prog w) A (ksk_end a false vs.toArray before ks us.toArray) P E s:=by
 have mem_rs:∀ u∈us,∃ r∈rs,c0p s.heap r u:=λ u hu'=>by
  obtain⟨i,hi⟩:=z1v.mp hu';obtain⟨r,er,ir⟩:=a1g hr hi;exact⟨r,z0c er,ir⟩
 have rl:=(z46 hr).symm;unfold ksk_end;simp only [z36,z2h];have zl:(us.toArray.zip vs.toArray).toList=us.zip vs:=by simp
 by_cases h2:2<=vs.length
 ·have hn2:¬ vs.toArray.size < 2:=by rw[z0p];lia
  rw[z01 hn2];obtain⟨fs,t,l,fa⟩:=c3t hr;refine z00 (kat_kind (T:=Value.type "tuple") t (by lia) (λ v hv=>?_) (by decide) ?_)
  ·obtain⟨k,hk⟩:=fa v hv;exact VO.node.typ _ hk
  rw[z01 hn2];let C:Gs.Cmp prog w A E s:=⟨tuples' (Value.type "tuple" != Value.type "tuple"),λ p=>p.1∈us,λ p=>(b4n ltR rs (b4e s.heap p.1):Nat),λ {st p q Q} hk hp hq hQ=>by
   rw[lt'_eq];refine z06 (z2g (z06 (wpS_lift (z34 ?_))));rw[hk];obtain⟨rp,mp,ip⟩:=mem_rs _ hp;obtain⟨rq,mq,iq⟩:=mem_rs _ hq;have e:decide (((b4n ltR rs (b4e s.heap p.1):Nat):Int) < (b4n ltR rs (b4e s.heap q.1):Nat))=ltR rp rq:=by
    rw[b2b ip,b2b iq];exact c1f d1l.irr d1l.tr d1l.tot mp
   refine e5o hu ip iq (al _ mp _ mq) ⟨rfl,?_⟩;rw[<-e];exact z07 hQ⟩
  have h0:∀ x∈(us.toArray.zip vs.toArray).toList,C.gd x:=λ x hx=>by
   rw[zl] at hx;exact(z62 hx).1
  refine z00 (z1b (Gs.c4l (Q:=λ _ st'=>(arrOf st').Perm (us.toArray.zip vs.toArray)/\failedOf st'=none/\Gs.Rise C (arrOf st') 0 (us.toArray.zip vs.toArray).size) h0 (Array.Perm.refl _) rfl rfl rfl λ st' r1 r2 r3=>⟨r1,r2,r3⟩) ?_ λ _ _ e=>e);rintro⟨⟨⟩,st'⟩ s' ⟨rfl,hp,hf,hri⟩;have pl:(arrOf st').toList.Perm (us.zip vs):=by rw[<-zl];exact z53.mp hp
  refine h st' hf ⟨(arrOf st').toList.map λ p=>(b4e s'.heap p.1,p.2),?_,?_,?_⟩
  ·rw[z15];rfl
  ·have:=pl.map λ p=>(b4e s'.heap p.1,p.2)
   have e:(us.zip vs).map (λ p=>(b4e s'.heap p.1,p.2))=rs.zip vs:=by
    rw[<-b8y hr,List.zip_map_left];rfl
   rwa [e] at this
  ·have hz2:=hp.size_eq;have up:=Gs.b1w hri (by rw[hz2];exact z05 _);rw[z4m,Nat.sub_zero,z20 (by rw[z0q,hz2];exact z05 _)] at up;refine z26.mpr (z6z (λ {x y} hx hy hxy=>?_) up);have hy':=(z62 (pl.mem_iff.mp hy)).1;obtain⟨ry,my,iy⟩:=mem_rs _ hy';have hxy':=hxy;have e:=c1f d1l.irr d1l.tr d1l.tot (a:=b4e s'.heap y.1) (b:=b4e s'.heap x.1) (by rw[b2b iy];exact my);rw[<-e];exact z0n (Int.not_lt.mpr hxy')
 ·have hn2:vs.toArray.size < 2:=by rw[z0p];lia
  rw[z02 hn2];refine z00 (z03 ?_);rw[z02 hn2,StateT.run_pure];refine h _ rfl ⟨rs.zip vs,?_,.refl _,?_⟩
  ·rw[zl,List.map_snd_zip (by lia),List.map_snd_zip (by lia)]
  ·have:(rs.zip vs).length < 2:=by rw[List.length_zip];lia
   match rs.zip vs,this with
   | [],_=>exact .nil
   | [x],_=>exact z3y.mpr ⟨(λ _ h=>by cases h),.nil⟩
   | x::y::r,q=>exact absurd q (by simp)
def Ex (a:Addr) (o:Obj):Heap->Prop:=λ h=>h.get? a=some o
theorem c8y (e:h.get? a=some o):a2r P w H h a (.ext (Ex a o)):=⟨e,⟨o,e⟩,λ _ _ y k=>k _ y⟩
def kix (x:Str):Int:=if x="own" then 0 else if x="saw" then 1 else if x="unseen" then 2 else 3
def b7s (e:Eg):Prop:=(e.2.2.1="own"\/e.2.2.1="saw"\/e.2.2.1="unseen"\/e.2.2.1="over")/\(e.2.2.1="own" ↔ e.2.2.2=none)
def a3q (e:Eg):Rk:=(e.1,e.2.1,kix e.2.2.1,e.2.2.2)
theorem c8f {x y:Str} (hx:x="own"\/x="saw"\/x="unseen"\/x="over") (hy:y="own"\/y="saw"\/y="unseen"\/y="over") (h:kix x=kix y):x=y:=by
 rcases hx with rfl | rfl | rfl | rfl<;>rcases hy with rfl | rfl | rfl | rfl<;>first | rfl | (exact absurd h (by decide))
theorem d1o (hx:b7s x) (hy:b7s y) (h:a3q x=a3q y):x=y:=by
 have h1:=z0b Prod.fst h;have h2:=z0b (λ z=>z.2.1) h;have h3:=z0b (λ z=>z.2.2.1) h;have h4:=z0b (λ z=>z.2.2.2) h;exact z1d h1 (z1d h2 (z1d (c8f hx.1 hy.1 h3) h4))
theorem e1j (hx:b7s x) (hy:b7s y):RAl (a3q x) (a3q y):=λ h=>by
 have e:=c8f hx.1 hy.1 h;show x.2.2.2=none ↔ y.2.2.2=none;rw[<-hx.2,<-hy.2,e]
def RkV (H:Hp) (v:V) (k:Rk):Prop:=∃ p u1 u2,v=.ref p/\H p=some (.tup [u1,u2,.int k.2.2.1,oV k.2.2.2])/\NdV H u1 k.1/\NdV H u2 k.2.1
theorem NdV.kp (x:NdV H v n) (k:∀ b xs,H b=some (.tup xs)->H' b=some (.tup xs)):NdV H' v n:=let ⟨p,e,h⟩:=x;⟨p,e,k _ _ h⟩
theorem RkV.kp (x:RkV H v n) (k:∀ b xs,H b=some (.tup xs)->H' b=some (.tup xs)):RkV H' v n:=let ⟨p,u1,u2,e,h,h1,h2⟩:=x; (nx4 p u1 u2 e (k _ _ h) (h1.kp k) (h2.kp k))
theorem EgV.kp (x:EgV H v n) (k:∀ b xs,H b=some (.tup xs)->H' b=some (.tup xs)):EgV H' v n:=let ⟨p,u1,u2,e,h,h1,h2⟩:=x; (nx4 p u1 u2 e (k _ _ h) (h1.kp k) (h2.kp k))
section
variable {X:Cx} {pins:List (Addr×Obj)} {σ:L2.St} {H:Hp} {s:Shared}
theorem e4i (I:Inv X pins σ H s) (h:RkV H (.ref a) k):c0p s.heap k (.ref a):=by
 obtain⟨p,u1,u2,e0,e,h1,h2⟩:=h;cases e0;obtain⟨its,rv,⟨o,e1,e2,c,e3⟩,_⟩:=I.tuple (SqT.of e);cases rv with
 | cons r1 t =>
  cases t with
  | cons r2 t2 =>
   cases t2 with
   | cons r3 t3 =>
    cases t3 with
    | cons r4 t4 =>
     cases t4;obtain⟨tt,rfl⟩:=r3;exact nx19 a o c _ _ tt _ rfl e1 e2 e3 (d3y I h1 r1) (d3y I h2 r2) (e2m r4)
variable {k:Nat} {f:Addr} {fd:FuncData} {nm:Str} {sp:Sp} {A':Around}
def c3r (sp:Sp):Prop:=∀ (H:Hp) (b:Addr) (e:Eg) (Q:VK) (E:XK),EgV H (.ref b) e->b7s e->(∀ p H',(∀ c o,H c=some o->H' c=some o)->RkV H' (.ref p) (a3q e)->Q (.ref p) H')->sp [.ref b] H Q E
theorem d1v (F:b1f X.prog X.w X.K X.mg X.base CX0 k f fd [nm] sp) (hb:a4p X.K fd [nm] []) (hf:A'.frames=some X.stack) (hr:Room k A') (hsp:c3r sp) {D KS:Addr} {oD:Obj} {g:Value->PUnit->Sem (ForInStep PUnit)}
  (hg:∀ x Q E s,wpAny (model X.prog X.w) A' (call (.ref f) [x]) (λ v s'=>wpAny (model X.prog X.w) A' (Builtin.List.listUpdate (.ref KS) λ xs=>xs.push v) (λ _ s''=>Q (.yield PUnit.unit) s'') E s') (λ _ _=>False) s->wpAny (model X.prog X.w) A' (g x PUnit.unit) Q E s) {E:Value->Shared->Prop} (nD:KS≠D) :
  ∀ (vs:List Value) (es:List Eg) (us:List Value) (rs:List Rk) (H1:Hp) (s1:Shared) (c:Nat) (Q:PUnit->Shared->Prop),Inv X pins σ H1 s1->H1 D=some (.ext (Ex D oD))->H1 KS=some (.ext (Ex KS (seqObj "list" us.toArray c)))->us.length+vs.length<=sizeLine ->
   Paired (λ v e=>∃ b,v=Value.ref b/\EgV H1 (.ref b) e) vs es->(∀ e∈es,b7s e)->Paired (λ u r=>∃ p,u=Value.ref p/\RkV H1 (.ref p) r) us rs ->
   (∀ us' H2 s2 c',Inv X pins σ H2 s2->H2 D=some (.ext (Ex D oD))->H2 KS=some (.ext (Ex KS (seqObj "list" us'.toArray c')))->(∀ b o,b≠KS->H1 b=some o->H2 b=some o)->us'.length=us.length+vs.length->Paired (λ u r=>∃ p,u=Value.ref p/\RkV H2 (.ref p) r) us' (rs++es.map a3q)->Q PUnit.unit s2) ->
   wpAny (model X.prog X.w) A' (forIn vs PUnit.unit g) Q E s1:=by
 intro vs;induction vs with
 | nil =>
  intro es us rs H1 s1 c Q I1 hD hK hz pv _ pu h;cases pv;exact z03 (h us H1 s1 c I1 hD hK (λ _ _ _ e=>e) rfl (by simpa using pu))
 | cons v vr ih =>
  intro es us rs H1 s1 c Q I1 hD hK hz pv ok pu h;cases pv with
  | @cons _ e _ er hv pv =>
  obtain⟨b,eb,hb1⟩:=hv;subst eb;rw[z1r];refine z00 (hg _ _ _ _ ?_);have env:d9w X.prog X.w X.K X.mg X.base A' X.stack s1 H1:=⟨hf,I1.env0.mod,I1.env0.bs,I1.env0.bsz,I1.env0.funs,I1.env0.frf,I1.env0.hok,I1.env0.bare⟩;refine wpAny_call (z4h (F.run A' X.stack s1 H1 ⟨[.ref b],[]⟩ [.ref b] [.ref b] (λ v H2=>∃ p,v=.ref p/\(∀ c o,H1 c=some o->H2 c=some o)/\RkV H2 (.ref p) (a3q e)) (λ _ _ _=>False) hr env (hb s1 [.ref b] I1.kIn rfl) (.cons rfl .nil) (hsp H1 b e _ _ hb1 (ok e (.head _)) λ p H' k' r'=>⟨p,rfl,k',r'⟩)) λ r s' hq=>?_);cases r with
  | error e=>exact hq.elim
  | ok fl =>
   cases fl with
   | next=>exact False.elim hq
   | brk=>exact False.elim hq
   | cont=>exact False.elim hq
   | ret u =>
    obtain⟨v',H2,I2,rv,p,ev,k2,hR⟩:=I1.after hq;subst ev;obtain rfl:u=Value.ref p:=rv;have hD2:=k2 _ _ hD;have hK2:=k2 _ _ hK;have hoK:=(I2.hok KS _ hK2).1;have sb:=z2i s'.heap KS (Obj.mapSeq λ xs=>xs.push (Value.ref p));obtain⟨c2,ho2⟩:∃ c2,(s'.heap.update KS (Obj.mapSeq λ xs=>xs.push (Value.ref p))).get? KS=some (seqObj "list" (us++[Value.ref p]).toArray c2):=⟨_,by rw[z4x hoK (λ xs=>xs.push (Value.ref p))];simp;rfl⟩;refine z58 hoK rfl ?_ (by rw[z0p];lia) (by rw[Array.size_push,z0p];lia);have I3:=I2.write (t':=s'.toks) (by rw[hK2];trivial) (.inl rfl) (λ b o nb e=>(sb.2 b nb).trans e) ⟨_,ho2⟩ (c8y ho2);have kt:∀ b xs,H1 b=some (.tup xs)->upd H2 KS (.ext (Ex KS (seqObj "list" (us++[Value.ref p]).toArray c2))) b=some (.tup xs):=λ b xs e=>by
     rw[a0g λ z=>by rw[z,hK] at e;cases e];exact k2 _ _ e
    have kt2:∀ b xs,H2 b=some (.tup xs)->upd H2 KS (.ext (Ex KS (seqObj "list" (us++[Value.ref p]).toArray c2))) b=some (.tup xs):=λ b xs e=>by
     rw[a0g λ z=>by rw[z,hK2] at e;cases e];exact e
    refine ih er (us++[Value.ref p]) (rs++[a3q e]) _ _ c2 Q I3 (by rw[a0g nD.symm];exact hD2) a0b (by simp only [z0j,z17,z3h] at hz ⊢;lia) (Paired.imp' (λ v e ⟨b,eb,hb⟩=>⟨b,eb,hb.kp kt⟩) pv) (λ e he=>ok e (.tail _ he)) ?_ λ us' H3 s3 c3 I3 d3 q3 k3 l3 p3=>h us' H3 s3 c3 I3 d3 q3 (λ b o nb e=>k3 b o nb (by rw[a0g nb];exact k2 _ _ e)) (by rw[l3];simp only [z0j,z17,z3h];lia) (by rw[z1c] at p3;exact p3)
    exact a8i (Paired.imp' (λ v e ⟨b,eb,hb⟩=>⟨b,eb,hb.kp kt⟩) pu) ⟨p,rfl,hR.kp kt2⟩
theorem b9w {α β:Type}:∀ (l:List (α×β)),(l.map (·.1)).zip (l.map (·.2))=l
 | []=>rfl
 | x::r=>by rw[z0w,z0w,z60,b9w r]
theorem b4t (g:α->β):∀ l:List α,Paired (λ a b=>b=g a) l (l.map g)
 | []=>.nil
 | _::r=>.cons rfl (b4t g r)
theorem b5a:∀ {l:List α} {m:List β},Paired (λ a b=>b=g a) l m->m=l.map g
 | _,_,.nil=>rfl
 | _,_,.cons e t=>by rw[z0w,e,b5a t]
theorem c7v (F:b1f X.prog X.w X.K X.mg X.base CX0 k f fd [nm] sp) (hb:a4p X.K fd [nm] []) (hf:A'.frames=some X.stack) (hr:Room k A') (hsp:c3r sp) (I:Inv X pins σ H s) (hD:H D=some (.ext (Ex D (seqObj "list" its.toArray n)))) (hz:its.length<=sizeLine)
  (pv:Paired (λ v e=>∃ b,v=Value.ref b/\EgV H (.ref b) e) its es) (ok:∀ e∈es,b7s e)
  (h:∀ H' s' ys js,Inv X pins σ (upd H' D (.lst ys)) s'->(∀ b o,b≠D->H b=some o->H' b=some o)->Paired (EgV (upd H' D (.lst ys))) ys js->js.Perm es->js.Pairwise (λ a b=>ltR (a3q b) (a3q a)=false)->P (.done (.ret .none)) s') :
  wpAny (model X.prog X.w) A' (Builtin.«list.sort» ⟨[.ref D],[(Str.ofString "key",.ref f)]⟩) P E s:=by
 have hu:A'.units+4 < cLine:=by have:=hr.un;lia
 rw[ksk_t1];unfold ksk_tree;have ho:s.heap.get? D=some (seqObj "list" its.toArray n):=(I.hok D _ hD).1;refine z00 (listItems_at ho rfl (z00 (z58 ho rfl ?_ (by rw[z0p];exact hz) (z0m _))));obtain⟨e1,ho1⟩:∃ e1,(s.heap.update D (Obj.mapSeq λ _=>(#[]:Array Value))).get? D=some (seqObj "list" #[] e1):=⟨_,z4x ho (λ _=>#[])⟩;have sb:=z2i s.heap D (Obj.mapSeq λ _=>(#[]:Array Value));have I1:=I.write (x:=D) (e:=D) (t':=s.toks) (o:=.ext (Ex D (seqObj "list" #[] e1))) (by rw[hD];trivial) (.inl rfl) (λ b o nb e=>(sb.2 b nb).trans e) ⟨_,ho1⟩ (c8y ho1);refine z00 (seqEpoch_at ho1 rfl (z00 (wpAny_newTuple (z00 (z55 (z1n ?_) (z0m _))) (by show its.length<=_;exact hz))));generalize s.heap.update D (Obj.mapSeq λ _=>(#[]:Array Value))=h1 at I1 ho1 ⊢;have I2:=I1.kept (t':=s.toks) (h':=h1.push (seqObj "tuple" its.toArray 0)) λ b o e=>z0e _ e
 have I3:=I2.laid (t':=s.toks) (h':=(h1.push (seqObj "tuple" its.toArray 0)).push (seqObj "list" #[] 0)) (a:=(h1.push (seqObj "tuple" its.toArray 0)).objs.size) (o:=.ext (Ex (h1.push (seqObj "tuple" its.toArray 0)).objs.size (seqObj "list" #[] 0))) (λ b o e=>z0e _ e) (z05 _) (c8y (z0t _ rfl));have hKn:=I2.fresh;have nD:(h1.push (seqObj "tuple" its.toArray 0)).objs.size≠D:=λ z=>by rw[z,a0b] at hKn;cases hKn
 have hKH:H (h1.push (seqObj "tuple" its.toArray 0)).objs.size=none:=by rw[a0g nD] at hKn;exact hKn
 have I3':=I3;clear I3 I2 hKn;generalize (h1.push (seqObj "tuple" its.toArray 0)).push (seqObj "list" #[] 0)=h2 at I3' ⊢;generalize (h1.push (seqObj "tuple" its.toArray 0)).objs.size=KS at I3' nD hKH ⊢;unfold ksk_rest;refine z00 (z1s ?_);rw[<-z4t];have nt:∀ b xs,H b=some (.tup xs)->b≠D/\b≠KS:=λ b xs e=>⟨λ z=>(by rw[z,hD] at e;cases e),λ z=>(by rw[z,hKH] at e;cases e)⟩
 refine z00 (d1v F hb hf hr hsp (D:=D) (KS:=KS) (oD:=seqObj "list" #[] e1) (λ x Q E s hh=>z00 (z34 (z1b hh (λ v s' hk=>z00 (z1b hk (λ _ _ q=>z03 q) λ _ _ z=>z)) λ _ _ z=>z.elim))) nD its es [] [] _ _ 0 _ I3' (by rw[a0g nD.symm,a0b]) a0b (by simpa using hz) (Paired.imp' (λ v e ⟨b,eb,hb⟩=>⟨b,eb,hb.kp λ c xs ec=>by rw[a0g (nt c xs ec).2,a0g (nt c xs ec).1];exact ec⟩) pv) ok .nil λ us' H2 s2 c' I4 d2 q2 k2 l2 p2=>?_);have lv:us'.length=its.length:=by rw[l2];simp
 refine z00 (listItems_at (I4.hok KS _ q2).1 rfl ?_);have kH:∀ b o,b≠D->H b=some o->H2 b=some o:=λ b o nb e=>by
  have nk:b≠KS:=λ z=>by rw[z,hKH] at e;cases e
  exact k2 b o nk (by rw[a0g nk,a0g nb];exact e)
 refine d4h hu lv (rs:=es.map a3q) (by simpa using Paired.imp' (λ u r ⟨p,ep,hp⟩=>ep ▸ e4i I4 hp) p2) (λ x hx y hy=>?_) λ st' hff ⟨zs,z1,z2,z3⟩=>?_
 ·obtain⟨a,ha,rfl⟩:=z0d.mp hx;obtain⟨b,hb',rfl⟩:=z0d.mp hy;exact e1j (ok a ha) (ok b hb')
 ·have ll:es.length=its.length:=(z46 pv).symm;have ez:(es.map a3q).zip its=(es.zip its).map λ p=>(a3q p.1,p.2):=by
   rw[List.zip_map_left];rfl
  rw[ez] at z2;obtain⟨ws,wp,wq⟩:=c7r z2 (b4t (λ p:Eg×Value=>(a3q p.1,p.2)) (es.zip its));have e:=b5a wq;subst e;have ee:(arrOf st').toList.map (·.2)=ws.map (·.2):=by rw[<-z1,z15];rfl
  have mem:∀ p∈ws,∃ b,p.2=Value.ref b/\EgV H (.ref b) p.1:=λ p hp=>by
   obtain⟨i,hi⟩:=z1v.mp (wp.mem_iff.mp hp);rw[List.getElem?_zip_eq_some] at hi;obtain⟨e',he',b,hb1,hb2⟩:=a1g pv hi.2;rw[hi.1] at he';cases he';exact⟨b,hb1,hb2⟩
  obtain⟨ys,vy,py⟩:=b3z (R:=EgV H) (ws.map (·.1)) (ws.map (·.2)) (by simp) λ p hp=>by
   rw[b9w] at hp;obtain⟨b,e1,e2⟩:=mem p hp;exact⟨.ref b,e1,e2⟩
  have lw:(ws.map (·.2)).length=its.length:=by rw[z04,wp.length_eq,List.length_zip,ll,Nat.min_self]
  unfold ksk_tail;dsimp only;have hoK:=(I4.hok KS _ q2).1;have sbK:=z2i s2.heap KS (Obj.mapSeq λ _=>(#[]:Array Value));obtain⟨eK,hoK2⟩:∃ e,(s2.heap.update KS (Obj.mapSeq λ _=>(#[]:Array Value))).get? KS=some (seqObj "list" #[] e):=⟨_,z4x hoK (λ _=>#[])⟩;have I5:=I4.write (x:=KS) (e:=KS) (t':=s2.toks) (o:=.ext (Ex KS (seqObj "list" #[] eK))) (by rw[q2];trivial) (.inl rfl) (λ b o nb e=>(sbK.2 b nb).trans e) ⟨_,hoK2⟩ (c8y hoK2);refine z00 (z58 hoK rfl (z00 (wpAny_letGo ?_)) (by rw[z0p,lv];exact hz) (z0m _));generalize s2.heap.update KS (Obj.mapSeq λ _=>(#[]:Array Value))=h5 at I5 ⊢;have hd5:upd H2 KS (.ext (Ex KS (seqObj "list" #[] eK))) D=some (.ext (Ex D (seqObj "list" #[] e1))):=by rw[a0g nD.symm];exact d2
  have hoD:h5.get? D=some (seqObj "list" #[] e1):=(I5.hok D _ hd5).1;refine z00 (seqEpoch_at hoD rfl ?_);simp only [z36,z2h];have eo:(arrOf st').map (·.2)=(ws.map (·.2)).toArray:=by
   apply Array.toList_inj.mp;rw[Array.toList_map,ee]
  rw[eo];have sbD:=z2i h5 D (Obj.mapSeq λ _=>(ws.map (·.2)).toArray);obtain⟨eD,hoD2⟩:∃ e,(h5.update D (Obj.mapSeq λ _=>(ws.map (·.2)).toArray)).get? D=some (seqObj "list" (ws.map (·.2)).toArray e):=⟨_,z4x hoD (λ _=>(ws.map (·.2)).toArray)⟩;refine z00 (z58 hoD rfl ?_ (z0m _) (by rw[z0p,lw];exact Nat.le_succ_of_le hz));have I6:=I5.write (x:=D) (e:=D) (t':=s2.toks) (o:=.lst ys) (by rw[hd5];trivial) (.inl rfl) (λ b o nb e=>(sbD.2 b nb).trans e) ⟨_,hoD2⟩ (⟨by rw[vy.length,lw];exact hz,nx9 _ eD vy hoD2⟩);rw[hff];simp only [z6m,z36,z2h];refine z03 (h _ _ ys (ws.map (·.1)) I6 (λ b o nb e=>?_) (Paired.imp' (λ v e x=>x.kp λ c xs ec=>?_) py) ?_ ?_)
  ·rw[a0g λ z=>by rw[z,hKH] at e;cases e];exact kH b o nb e
  ·have:=wp.map (·.1);rwa [List.map_fst_zip (by lia)] at this
  ·exact z26.mpr (z26.mp z3)
  ·rw[a0g (nt c xs ec).1,a0g (nt c xs ec).2];exact kH c _ (nt c xs ec).1 ec
end
def d4e (t:TA):TE:=λ σ H Q=>t σ H λ vs H1=>∃ (p:Addr) (en:Array DictEntry) (ep:Nat) (ks:List Eg),vs=[V.ref p]/\H1 p=some (.ext (ExD p en ep))/\DkE H1 en ks/\(∀ e∈ks,b7s e) /\
 ∀ D ys js H',H1 D=none->(∀ b o,H1 b=some o->H' b=some o)->H' D=some (.lst ys)->Paired (EgV H') ys js->js.Perm ks->js.Pairwise (λ a b=>ltR (a3q b) (a3q a)=false)->Q (.ref D) H'
theorem c5f {X:Cx} {k:Nat} {f:Addr} {fd:FuncData} {nm x:Str} {sp:Sp} {e:Expr} {t:TA} {p kp kpos pos:Pos} (hc:X.calm=true) (hg:Gl X "sorted") (hm:X.mg "sorted"=none) (F:b1f X.prog X.w X.K X.mg X.base CX0 k f fd [nm] sp) (hr:Room (k+1) X.A) (hgx:Gl X x) (hmx:X.mg x=some (.ref f)) (hb:a4p X.K fd [nm] []) (hsp:c3r sp) (ha:PA X [e] t)
  (hdb:(x == ("__debug__":Str))=false:=by decide) (he:backTo pos (starEach [e] X.env)=(false,eval e X.env)::backTo pos (starEach [] X.env):=by rfl) (hpl:(backTo pos (starEach [e] X.env)).any (·.1)=false:=by rfl) :
  PE X (.Call (.Name "sorted" p) [e] [⟨some "key",.Name x kp,kpos⟩] pos) (d4e t):=by
 constructor;intro pins s σ H Q I h;refine z4p (a7w I hg hm boot_sorted ?_ (by decide) (by decide));refine callWith_kw (thn (ha pos pins s σ H _ I h) λ us s1 ⟨vs,H1,I1,r1,q1⟩=>?_) he hpl;obtain⟨d,en,ep,ks,rfl,hd,dk,ok,q⟩:=q1;obtain⟨u,rfl,ru⟩:=b3r r1;cases ru;show wpAny _ _ (evalAll ((do let v <- eval (.Name x kp) X.env;standAt pos;pure v)::[])) _ _ s1;refine wpAny_evalAll_cons (z00 (b6p I1 hgx hmx (z00 (wpAny_standAt (z03 (wpAny_evalAll_nil ?_)))) hdb));show wpAny _ _ (call (.builtin "sorted") [.ref d] [(Str.ofString "key",.ref f)]) _ _ _;refine call_function_entry_kw kind_sorted plain_sorted entry_sorted (ksk_s1 _ _) ?_;unfold Builtin.«sorted»;refine z00 (m:=checkCount "sorted" 1 1 _) (z03 ?_);obtain⟨lo,hz,raw⟩:=(I1.hok d _ hd).1;refine z00 (W.kdu_collect (d9n (es:=en) (ep:=ep) lo) (I1.ok.hd hc) raw hz λ h' tk acc hk hacc=>?_);have hl:acc.toList.length=en.size:=by rw[z0q];exact hacc.1
 have hzl:acc.toList.length<=sizeLine:=by rw[hl];exact hz
 refine z00 (z55 ?_ hzl);have hoL:(h'.push {cls:=.type "list",data:=.seq acc.toList.toArray}).get? h'.objs.size=some (seqObj "list" acc.toList.toArray 0):=z0t _ rfl;have I2:=I1.kept (t':=tk) hk;have I3:=I2.laid (t':=tk) (a:=h'.objs.size) (λ b o e=>z0e _ e) (z05 _) (c8y hoL);have hn:H1 h'.objs.size=none:=I2.fresh;have pv:Paired (λ v e=>∃ b,v=Value.ref b/\EgV (upd H1 h'.objs.size (.ext (Ex h'.objs.size (seqObj "list" acc.toList.toArray 0)))) (.ref b) e) acc.toList ks:=by
  have go:∀ {l:List Value} {ds:List DictEntry} {ks:List Eg},Paired (λ (e:DictEntry) k=>∃ b,e.key=.ref b/\EgV H1 (.ref b) k) ds ks->l=ds.map (·.key)->Paired (λ v e=>∃ b,v=Value.ref b/\EgV (upd H1 h'.objs.size (.ext (Ex h'.objs.size (seqObj "list" acc.toList.toArray 0)))) (.ref b) e) l ks:=by
   intro l ds ks pd;induction pd generalizing l with
   | nil=>intro e;subst e;exact .nil
   | cons x t ih =>
    intro e;subst e;obtain⟨b,e1,e2⟩:=x;exact .cons ⟨b,e1,e2.kp λ c xs ec=>by rw[a0g λ z=>by rw[z,hn] at ec;cases ec];exact ec⟩ (ih rfl)
  refine go dk ?_;apply List.ext_getElem?;intro i;rw[z09,z0u,z0u];by_cases hi:i < en.size
  ·have hia:i < acc.size:=by rw[hacc.1];exact hi
   obtain⟨e',he',hv⟩:=hacc.2 i acc[i] (by rw[z2p hia]);rw[z2p hia,he'];exact z0b some hv.symm
  ·rw[z5i (by rw[hacc.1];lia),z5i (by lia)];rfl
 have hrr:Room k X.A.in1.in1:=⟨hr.hd,by have:=hr.dp;show X.A.depth+3*k+5 < _;lia,by have:=hr.un;show X.A.units+1+1+16*k+200 < _;lia⟩;refine z00 (z1n (wpAny_call_entry_kw slot_list_sort ⟨_,hoL,rfl⟩ entry_list_sort (c7v (A':=X.A.in1.in1) F hb I1.ok.frames hrr hsp I3 a0b hzl pv ok λ H' s' ys js I4 k4 py pm pw=>?_) (ksk_l1 _ _)));refine⟨_,rfl,z03 (nx7 _ rfl (.ref h'.objs.size) _ I4 rfl (q _ ys js _ hn (λ b o e=>?_) a0b py pm pw))⟩;have nb:b≠h'.objs.size:=λ z=>by rw[z,hn] at e;cases e
 rw[a0g nb];exact k4 b o nb (by rw[a0g nb];exact e)
theorem u8 {A:Around} (h:A.units+64 < cLine):A.units+8 < cLine:=by lia
section
variable {X:Cx} {pins:List (Addr×Obj)} {σ:L2.St} {H:Hp} {s:Shared} {a b:Addr} {kvs:List (List Key×V)} {k:List Key} {r:Value} {d:V} {E:Value->Shared->Prop}
theorem c9g (hu:A.units+8 < cLine) (I:Inv X pins σ H s) (e:H a=some (.dT kvs)) (eb:H b=some (.tup (k.map kV))) (rd:a2d d r) (hl:kvs.length < sizeLine) (h1:∀ v w' s',a1r kvs k=some v->Inv X pins σ H s'->a2d v w'->Q w' s')
  (h2:a1r kvs k=none->∀ s',Inv X pins σ (upd H a (.dT (a3t kvs k d))) s'->Q r s'):wpAny (model X.prog X.w) A (call (.builtin "dict.setdefault") [.ref a,.ref b,r]) Q E s:=by
 obtain⟨z,hd,xs,rel,dd⟩:=e3d I.hok e;have hT:=dd.typeIs;have kb:=b5f I.hok eb;refine z1q z6f hT F.entry_dict_setdefault ?_ (F.args_dict_setdefault_3 _ _ _);refine z00 (z00 (z66 hT ?_));refine z03 ?_;dsimp only;rw[z01 (by rw[hd];exact z1k)];refine z00 ?_;obtain⟨o,es,ep,ho,hx,hdt,hes,hks,hnd⟩:=dd;refine z1n (z00 ((tupleKind (a0y X.prog X.w)).pyHash (by show A.units+1 < cLine;lia) kb (z00 (wpAny_dictFind_heap (by show A.units+1 < cLine;lia) kb ho hdt hes hks hnd (λ hno=>?_) λ j p hj=>?_))))
 ·have hnone:atKey xs k=none:=by
   unfold atKey;rw[z64,z4f];intro x hx' hk;obtain⟨j,hj⟩:=z1v.mp hx';have e1:=z0h hk;exact hno j x.2 (by rw[hj,<-e1])
  have hv:a1r kvs k=none:=by
   cases e2:a1r kvs k with
   | none=>rfl
   | some y =>
    have q:=rel.val k;rw[e2,hnone] at q;obtain⟨w',hw,_⟩:=b4f.some_of q;cases hw
  have hz:xs.length<=sizeLine:=by rw[<-z46 rel];exact z
  have hes':es.size=xs.length:=by rw[<-z0q,hes,z04]
  refine z00 (z1s (z00 (wpAny_updateDictKeys ho hdt (z03 (z03 ⟨r,rfl,h2 hv _ ?_⟩)) (by lia) (by simp))));have sb:=z2i s.heap a (Obj.mapDictKeys (·.push {hash:=(tupleKind (a0y X.prog X.w)).hash k,key:=.ref b,val:=r}));have ho2:=z4k (Obj.mapDictKeys (·.push {hash:=(tupleKind (a0y X.prog X.w)).hash k,key:=.ref b,val:=r})) ho (Obj.isFreed_of_dict (Obj.data_mapDictKeys hdt _));refine b6b (I.tok _) (by rw[e];exact True.intro) sb ⟨_,ho2⟩ (⟨by have:=a2c kvs k d;lia,hd,nx11 _ ((rel.put k eb rd).keeps λ c ys ec=>?_) _ (nx12 _ _ ho2 (hx.mapDictKeys _) (Obj.data_mapDictKeys hdt _) ?_ ?_)⟩)
  ·rw[a0g (e1v ec e (λ z=>nomatch z))];exact ec
  ·unfold storedH;rw[hnone,z01 (by simp),z0z,z3d,hes];rfl
  ·unfold storedH;rw[hnone,z01 (by simp),z0z];refine z2f.mpr ⟨hnd,by simp,λ y hy w hw e1=>?_⟩;have e2:w=k:=by simpa using hw
   obtain⟨x,hx',e3⟩:=z0d.mp hy;obtain⟨j,hj⟩:=z1v.mp hx';exact hno j x.2 (by rw[hj,<-e2,<-e1,<-e3])
 ·have hat:atKey xs k=some p:=by
   unfold atKey;have hm:=z0c hj;cases hf:xs.find? (λ x=>decide (x.1=k)) with
   | none=>exact absurd (z4f.mp hf _ hm) (by simp)
   | some y =>
    have hy:=List.find?_some hf;have ym:=List.mem_of_find?_eq_some hf;have ek:=z0h hy;have:y=(k,p):=by
     obtain⟨i,hi⟩:=z1v.mp ym;have e1:(xs.map (·.1))[i]?=some k:=by rw[z09,hi];exact z0b some ek
     have e2:(xs.map (·.1))[j]?=some k:=by rw[z09,hj];rfl
     have hij:=(z2j (z0l.mp e1).1 hnd).mp (e1.trans e2.symm);rw[hij,hj] at hi;exact(z0r hi).symm
    rw[this];rfl
  have q:=rel.val k;rw[hat] at q;cases e2:a1r kvs k with
  | none=>rw[e2] at q;exact absurd (b4f.none_of q) (by simp)
  | some y =>
   rw[e2] at q;obtain⟨w',hw,rw'⟩:=b4f.some_of q;have ew:p.2=w':=z0r hw;refine z00 (z68 ho hdt ?_);have he:es[j]?=some (entryOfKey (tupleKind (a0y X.prog X.w)) (k,p)):=by rw[<-z0u,hes,z09,hj];rfl
   rw[he];refine z00 (z1s (z03 (z03 ⟨_,rfl,h1 y _ _ e2 (I.tok _) ?_⟩)));show a2d y p.2;rw[ew];exact rw'
end
def e2h (td ty tx:TE):TE:=λ σ H Q=>td σ H λ x H1=>∃ a,x=.ref a/\IsD H1 a/\ty σ H1 λ y H2=>tx σ H2 λ z H3=>∃ kvs k b,H3 a=some (.dT kvs)/\y=.ref b/\H3 b=some (.tup (k.map kV))/\kvs.length < sizeLine /\
 (∀ v,a1r kvs k=some v->Q v H3)/\(a1r kvs k=none->Q z (upd H3 a (.dT (a3t kvs k z))))
section
variable {X:Cx} {o e f:Expr} {td ty tx:TE} {apos cpos:Pos}
theorem d4q (hu:X.A.units+8 < cLine) (ho:PE X o td) (he:PE X e ty) (hf:PE X f tx) (m:M2 X o "setdefault" apos e f cpos):PE X (.Call (.Attribute o "setdefault" apos) [e,f] [] cpos) (e2h td ty tx):=by
 constructor;intro pins s σ H Q I h;refine z6p m.base m.few m.line z6e z6f F.type_dict_setdefault (thn (ho pins s σ H _ I h) λ u s1 ⟨x,H1,I1,rx,a,ex,d,q1⟩=>?_);subst ex;obtain rfl:u=Value.ref a:=rx;obtain⟨t1,t2,_⟩:=c3g I1 d;refine⟨t1,t2,?_⟩;rw[m.trees];refine z52 rfl (z5h (z3f (thn (he pins s1 σ H1 _ I1 q1) λ iv s2 ⟨y,H2,I2,ry,q2⟩ =>
  z3f (thn (hf pins s2 σ H2 _ I2 q2) λ fv s3 ⟨z,H3,I3,rz,kvs,k,b,ea,ey,eb,hl,q3,q4⟩=>z5e ?_))))
 subst ey;obtain rfl:iv=Value.ref b:=ry;exact c9g hu I3 ea eb rz hl (λ v w' s4 l I4 rw'=> nx0 v H3 I4 rw' (q3 v l)) λ l s4 I4=> nx0 z _ I4 rz (q4 l)
theorem d3x {items:Array Value} {ls:List Str}
  (hg:∀ (i:Nat) (y:Value) (s:Shared) (Q:ForInStep (Option PySem.Fin×Unit)->Shared->Prop),items[i]?=some y->wpAny (model prog w) A (eqBool y x) (λ c s'=>if c=true then wpAny (model prog w) A (retInt (i:Int)) (λ f s''=>Q (.done (some f,())) s'') E s' else Q (.yield (none,())) s') E s->wpAny (model prog w) A (g i (none,())) Q E s)
  (hx:∃ t,x=Value.str k t) (hi:∀ (i:Nat) (y:Str),ls[i]?=some y->∃ t,items[i]?=some (Value.str y t)) :
  ∀ (m i:Nat) (s:Shared) (Q:Option PySem.Fin×Unit->Shared->Prop),i+m=ls.length->(∀ j,j < i->ls[j]?≠some k)->k∈ls.drop i->(∀ t',Q (some (.done (.ret (.int (ls.idxOf k:Nat) t'))),()) {s with toks:=s.toks+1})->wpAny (model prog w) A (forIn (List.range' i m) (none,()) g) Q E s:=by
 intro m;induction m with
 | zero =>
  intro i s Q h _ hk _;rw[z4q (by lia)] at hk;cases hk
 | succ m ih =>
  intro i s Q h hb hk hQ;obtain⟨y,hy⟩:∃ y,ls[i]?=some y:=⟨_,z0o (by lia)⟩;obtain⟨t,ht⟩:=hi i y hy;obtain⟨t2,rfl⟩:=hx;rw[List.range'_succ,z1r];refine z00 (hg i _ s _ ht (EqAt.str_str y t k t2 _ _ _ _ ?_));by_cases e:y=k
  ·subst e;rw[z02 (by simp)];have ei:ls.idxOf y=i:=by
    have hl:=z4e.mpr (z0c hy);have h1:ls[ls.idxOf y]?=some y:=by rw[z0o hl];exact z0b some (z40 hl)
    have h2:¬ ls.idxOf y < i:=λ z=>hb _ z h1
    have h3:ls.idxOf y<=i:=by
     refine Classical.byContradiction λ z=>?_
     have:=List.not_of_lt_findIdx (by show i < ls.idxOf y;lia);rw[(z0l.mp hy).2] at this;simp at this
    lia
   rw[ei] at hQ;exact z00 (wpAny_mkInt (z03 (z03 (hQ _))))
  ·rw[z01 (by simp[e])];refine ih (i+1) s Q (by lia) (λ j hj=>?_) ?_ hQ
   ·by_cases z:j=i
    ·rw[z,hy];exact λ q=>e (z0r q)
    ·exact hb j (by lia)
   ·rw[z5o (by lia)] at hk;rcases z0a.mp hk with z | z
    ·exact absurd (by rw[z];exact((z0l.mp hy).2).symm) e
    ·exact z
theorem c6o {K:W.Frag} (hK:X.K=K):MtR X "tuple.index" (λ x xs H Q=>∃ (l:Addr) (ls:List Str) (k:Str),x=.ref l/\xs=[V.str k]/\SqT K H l (ls.map V.str)/\k∈ls/\Q (.int ((ls.idxOf k:Nat):Int)) H):=by
 subst hK;intro pins s σ H x xs v us Q I rx rv h;obtain⟨l,ls,k,rfl,rfl,hl,hk,q⟩:=h;cases rx;obtain⟨u,rfl,t,rfl⟩:=b3r rv;obtain⟨its,r,⟨o,ho,hc,n,hd⟩,_⟩:=I.tuple hl;have hlen:its.length=ls.length:=by rw[<-r.length,z04]
 refine z1q F.slot_tuple_index ⟨o,ho,hc⟩ F.entry_tuple_index ?_ (F.args_tuple_index_2 _ _);show wpAny _ _ (Builtin.Tuple.tupleItemsOf (.ref l)>>=λ xs=>_) _ _ _;refine z00 (wpAny_tupleItemsOf ho hd ?_);show wpAny _ _ (forIn [0:min its.toArray.size its.toArray.size] (none,()) _>>=λ __s=>_) _ _ _;rw[Nat.min_self,Std.Legacy.Range.forIn_eq_forIn_range',show (List.range' ([0:its.toArray.size]:Std.Legacy.Range).start ([0:its.toArray.size]:Std.Legacy.Range).size ([0:its.toArray.size]:Std.Legacy.Range).step)=List.range' 0 its.length by simp[Std.Legacy.Range.size]];refine z00 (d3x (ls:=ls) (k:=k) (items:=its.toArray) (x:=.str k t) (λ i y s Q hy hh=>?_) ⟨t,rfl⟩ (λ i y hy=>?_) its.length 0 s _ (by lia) (λ j hj=>absurd hj (z4w _)) hk λ t'=>?_)
 ·rw[hy];refine z00 (z1b hh (λ c s' hc=>?_) λ _ _ z=>z);cases c with
  | true=>exact z00 (z1b hc (λ f s'' hf=>z03 hf) λ _ _ z=>z)
  | false=>exact z03 hc
 ·have hil:i < its.length:=by rw[hlen];exact(z0l.mp hy).1
  obtain⟨x0,ex,ru⟩:=a5m r (z0o hil);rw[z09,hy] at ex;cases ex;obtain⟨t',et⟩:=ru;exact⟨t',by simp[hil,et]⟩
 ·exact z03 (nx7 _ rfl (.int _) H (I.tok _) ⟨t',rfl⟩ q)
end
theorem IsT.inj (x:IsT h k v) (y:IsT h l v):k=l:=by
 obtain⟨a,o,n,t1,t2,t3,rfl,ho,_,hd⟩:=x;obtain⟨a',o',n',t1',t2',t3',e,ho',_,hd'⟩:=y;cases e;rw[ho] at ho';cases ho';rw[hd] at hd';injection hd' with e1 _;have e2:=z0b Array.toList e1;injection e2 with a1 e3;injection e3 with a2 e4;injection e4 with a3 _;injection a1 with b1 _;injection a2 with b2 _;injection a3 with b3 _;exact z1d b1 (z1d b2 b3)
open Classical in
noncomputable def d1j (h:Heap) (u:Value):Tk:=if x:∃ k,IsT h k u then Classical.choose x else (0,0,0)
theorem b4d (x:IsT h k u):d1j h u=k:=by
 unfold d1j;rw[dif_pos ⟨k,x⟩];exact(Classical.choose_spec (⟨k,x⟩:∃ k,IsT h k u)).inj x
theorem d5q:∀ {vs:List Value},(∀ v∈vs,∃ k,IsT h k v)->∃ fs,KatTups h vs fs/\fs.length=vs.length/\∀ v∈fs,∃ k:Int,VO.int.is h k v
 | [],_=>⟨[],trivial,rfl,λ v hv=>by cases hv⟩
 | v::r,hk=>by
  obtain⟨fs,t,l,a⟩:=d5q λ v hv=>hk v (.tail _ hv)
  obtain⟨k,ad,o,n,t1,t2,t3,rfl,ho,hc,hd⟩:=hk v (.head _);refine⟨.int k.1 t1::fs,KatTups.cons ho hc hd rfl t,by rw[z17,z17,l],λ v hv=>?_⟩;rcases z0a.mp hv with z | z
  ·exact⟨k.1,z ▸ ⟨t1,rfl⟩⟩
  ·exact a v z
theorem e6y (hu:A.units+1 < cLine) (hx:IsT s.heap x u) (hy:IsT s.heap y v) (hR:R (ltT x y) s) :
  wpAny (model prog w) A (keyLt' (tuples' (VO.int.T != Value.type "tuple")) u v) R E s:=by
 obtain⟨ad,o,n,t1,t2,t3,rfl,ho,hc,hd⟩:=hx;obtain⟨ad',o',n',t1',t2',t3',rfl,ho',hc',hd'⟩:=hy;refine kat_lt ho hd ho' hd' (kat_cons ?_);have hz:=Nat.lt_of_succ_lt hu;refine VO.int.eq hz ⟨t1,rfl⟩ ⟨t1',rfl⟩ prog w _ _ (kat_go (λ q=>kat_yes (kat_cons ?_)) λ q=>kat_no ?_)
 ·unfold ltT ltP at hR;rw[z02 (z0h q)] at hR;refine VO.int.eq hz ⟨t2,rfl⟩ ⟨t2',rfl⟩ prog w _ _ (kat_go (λ q=>kat_yes (kat_cons ?_)) λ q=>kat_no ?_)
  ·have hR:R (ltP VO.int.lt VO.int.lt x.2 y.2) s:=hR;unfold ltP at hR;rw[z02 (z0h q)] at hR;refine VO.int.eq hz ⟨t3,rfl⟩ ⟨t3',rfl⟩ prog w _ _ (kat_go (λ q=>kat_yes (kat_nil ?_)) λ q=>kat_no ?_)
   ·rw[z0h q,VO.int.irr] at hR;exact hR
   ·exact VO.int.one _ (λ b=>absurd b (by simp)) hz ⟨t3,rfl⟩ ⟨t3',rfl⟩ hR
  ·have hR:R (ltP VO.int.lt VO.int.lt x.2 y.2) s:=hR;unfold ltP at hR;rw[z01 (z3x q)] at hR;exact VO.int.one _ (λ b=>absurd b (by simp)) hz ⟨t2,rfl⟩ ⟨t2',rfl⟩ hR
 ·unfold ltT ltP at hR;rw[z01 (z3x q)] at hR;exact VO.int.one _ (λ b=>by simpa using b) hz ⟨t1,rfl⟩ ⟨t1',rfl⟩ hR
section
variable {X:Cx}
theorem b6v (hu:X.A.units+16 < cLine):b4l X (.builtin "sorted") (λ xs H Q=>∃ (a:Addr) (vs:List V) (ks:List Tk),xs=[V.ref a]/\SqL X.K H a vs/\Paired (TrV H) vs ks/\vs.length < 64 /\
  ∀ p ys js,H p=none->Paired (TrV H) ys js->js.Perm ks->js.Pairwise (λ a b=>ltT b a=false)->Q (.ref p) (upd H p (.lst ys))):=by
 intro pins s σ H xs us Q I r h;obtain⟨a,vs,ks,rfl,e,pk,h64,q⟩:=h;obtain⟨u,rfl,ru⟩:=b3r r;cases ru;obtain⟨m,hns,_⟩:=id I.loc;obtain⟨its,rv,plst,hz0⟩:=I.list e;have hz:its.length<=sizeLine:=by rw[<-rv.length];exact hz0
 refine z71 kind_sorted plain_sorted entry_sorted (args_sorted1 _) ?_;refine z00 (z03 (z00 (collect_list plst.isList (z00 (z55 ?_ (by simpa using hz))) (by simpa using hz))));have k0:∀ b o,s.heap.get? b=some o->((s.heap.push (seqObj "list" #[] 0)).update s.heap.objs.size (Obj.mapSeq (·++its.toArray))).get? b=some o:=λ b o e=>by
  rw[Heap.get?_update_ne _ _ _ _ (z0k (z0g e))];exact z0e _ e
 have hsz:((s.heap.push (seqObj "list" #[] 0)).update s.heap.objs.size (Obj.mapSeq (·++its.toArray))).objs.size=s.heap.objs.size+1:=by rw[Heap.size_update,z2y]
 generalize (s.heap.push (seqObj "list" #[] 0)).update s.heap.objs.size (Obj.mapSeq (·++its.toArray))=h1 at k0 hsz;have hs:s.heap.objs.size<=h1.objs.size:=by rw[hsz];exact z3o _
 have k1:∀ b o,s.heap.get? b=some o->(h1.push {cls:=.type "list",data:=.seq its.toArray}).get? b=some o:=λ b o e=>z0e _ (k0 b o e)
 have hoL:(h1.push {cls:=.type "list",data:=.seq its.toArray}).get? h1.objs.size=some (seqObj "list" its.toArray 0):=z0t _ rfl;have I1:=I.kept (t':=s.toks) k1;have at_:∀ u∈its,∃ k∈ks,IsT (h1.push {cls:=.type "list",data:=.seq its.toArray}) k u/\∃ x,a2d x u/\TrV H x k:=λ u hu=>by
  obtain⟨i,hi⟩:=z1v.mp hu;obtain⟨x,ex,rx⟩:=a5m rv hi;obtain⟨k,ek,tv⟩:=a1g pk ex;exact nx6 k (z0c ek) (e0x I1 tv rx) x rx tv
 have em:its.map (d1j (h1.push {cls:=.type "list",data:=.seq its.toArray}))=ks:=by
  apply List.ext_getElem?;intro i;rw[z09];cases hi:its[i]? with
  | none =>
   have:ks.length<=i:=by rw[<-a1c pk,rv.length];exact List.getElem?_eq_none_iff.mp hi
   rw[z2m this];rfl
  | some u =>
   obtain⟨x,ex,rx⟩:=a5m rv hi;obtain⟨k,ek,tv⟩:=a1g pk ex;rw[ek,<-b4d (e0x I1 tv rx)];rfl
 generalize h1.push {cls:=.type "list",data:=.seq its.toArray}=h2 at *;have kp:∀ h':Heap,(∀ b o,b≠h1.objs.size->h2.get? b=some o->h'.get? b=some o)->∀ u k,IsT h2 k u->IsT h' k u:=λ h' k u kk ⟨a,o,n,t1,t2,t3,e,ho,hc,hd⟩=> nx2 a o (nx30 n t1 t2 t3 e (k a o (λ z=>by
  rw[z,hoL] at ho;cases ho;exact absurd (show Value.type "list"=Value.type "tuple" from hc) (by decide)) ho) hc hd)
 have rkl:∀ x∈its,∀ y,decide (((b4n ltT ks (d1j h2 x):Nat):Int) < (b4n ltT ks (d1j h2 y):Nat))=ltT (d1j h2 x) (d1j h2 y):=λ x hx y=>by
  obtain⟨k,hm,ik,_⟩:=at_ x hx;exact c1f c7h c8g c1e (by rw[b4d ik];exact hm)
 refine z00 (z1n (z1q slot_list_sort ⟨_,hoL,rfl⟩ entry_list_sort (d8y (s:={s with heap:=h2}) (tuples' (VO.int.T != Value.type "tuple")) (λ u=>(b4n ltT ks (d1j h2 u):Nat)) hz hoL (hns.keeps k1) (λ l2 h' k R q=>?_) (λ l2 h' k x hx y hy R E' q=>?_) λ out h' c kp' ns' hD pm pw=>?_) (args_list_sort _)))
 ·obtain⟨fs,t,l,fa⟩:=d5q λ v hv=>let ⟨k',_,ik,_⟩:=at_ v hv;⟨k',kp h' k v k' ik⟩
  exact kat_kind t (by lia) (λ v hv=>let ⟨_,hk⟩:=fa v hv;VO.int.typ _ hk) VO.int.rfT q
 ·have q':=q;rw[rkl x hx y] at q';obtain⟨kx,_,ix,_⟩:=at_ x hx;obtain⟨ky,_,iy,_⟩:=at_ y hy;rw[b4d ix,b4d iy] at q';exact e6y (by show X.A.units+1+1+1 < cLine;lia) (kp h' k x kx ix) (kp h' k y ky iy) q'
 ·have pw':(out.map (d1j h2)).Pairwise λ a b=>ltT b a=false:=z26.mpr (z6z (λ {x y} hx hy hxy=>by
   rw[<-rkl y (pm.mem_iff.mp hy) x];exact z0n (Int.not_lt.mpr hxy)) pw)
  refine⟨_,rfl,?_⟩;obtain⟨ys,vy,py⟩:=b3z (out.map (d1j h2)) out (by simp) λ p hp=>by
   obtain⟨i,hi⟩:=z1v.mp hp;rw[List.getElem?_zip_eq_some,z09] at hi;obtain⟨h3,h4⟩:=hi;obtain⟨k,_,ik,x,rx,tv⟩:=at_ p.2 (pm.mem_iff.mp (z0c h4));rw[h4] at h3;rw[<-z0r h3,b4d ik];exact⟨x,rx,tv⟩
  have I2:=c5q (t':=s.toks) (u:=.lst ys) I (λ b o nb eb=>kp' b o nb (z0k (z1l (z0g eb) hs)) (k1 b o eb)) (λ m' hm=>e1x hns hm ▸ ns') hs (⟨by rw[vy.length,pm.length_eq];exact hz,nx9 out c vy hD⟩);refine z03 (nx7 _ rfl (.ref _) _ I2 rfl (q _ ys _ (I.hok.fresh hs) py ?_ pw'));rw[<-em];exact pm.map _
end
end My
namespace My
open PySem PySem.Spec PyProof.Rows L2
section
variable {P:Program} {w:World}
inductive ZsV (h:Heap):Value->Obj->Prop where
 | list {l:Addr} {xs:Array Value} (e:h.IsList l xs):ZsV h (.ref l) {cls:=.type "list_iterator",data:=.fields #[.ref l,.int 0 0]}
theorem ZsV.keep (x:ZsV h u o) (k:∀ b o,h.get? b=some o->h'.get? b=some o):ZsV h' u o:=by
 cases x with
 | list e=>exact .list (e.at λ o q=>k _ o q)
theorem c0d (x:ZsV s.heap u o) (h:Q (.ref s.heap.objs.size) {s with heap:=s.heap.push o}):wpAny (model P w) A (pyIter u) Q E s:=by
 cases x with
 | list e=>exact z5f e h
theorem b9h (u1 u2:Value) (o1 o2:Obj) :
  Meets (Builtin.«zip.__new__» ⟨[.type "zip",u1,u2],[]⟩) (λ _ R s=>ZsV s.heap u1 o1/\ZsV s.heap u2 o2/\R (.ok (.ret (.ref (zD s.heap o1 o2).objs.size))) {s with heap:=zE s.heap o1 o2}) :=
 .of_wp λ prog w A R s ⟨x1,x2,r⟩=>by
  obtain⟨hp,g,d,tk,os⟩:=s;have hsub:=sub_zip;have L1:ZsV (Shared.heap ⟨hp,g,d,tk,os⟩) u1 o1:=x1;have L2:ZsV (Shared.heap ⟨hp.push o1,g,d,tk,os⟩) u2 o2:=x2.keep λ b o e=>z0e _ e
  wp_walk using c0d L1,c0d L2
  exact⟨_,rfl,r⟩
theorem c1a (x1:ZsV s.heap u1 o1) (x2:ZsV s.heap u2 o2) (n1:o1.isFreed=false) (n2:o2.isFreed=false)
  (k:∀ g z TI TO i1 i2,d4x s.heap g o1 o2 z TI TO i1 i2->Q (.ref z) {s with heap:=g}):wpAny (model P w) A (call (.type "zip") [u1,u2]) Q E s :=
 callType_new F.called_zip (by decide) (F.typeCall_zip_2 u1 u2) (F.newCall_zip_2 u1 u2) (λ obj=>F.args_object_init_3 obj u1 u2) F.entry_zip_new (b9h u1 u2 o1 o2) ⟨x1,x2,⟨_,(d6h s.heap n1 n2).zip,rfl⟩,k _ _ _ _ _ _ (d6h s.heap n1 n2)⟩
end
inductive e3y (K:W.Frag) (H:Hp):V->It->Prop where
 | list {a:Addr} {xs:List V} (h:SqL K H a xs):e3y K H (.ref a) (Itl K a)
section
variable {X:Cx}
theorem e0t {σ:L2.St} (I:Inv X pins σ H s) (x:e3y X.K H v J) (r:a2d v u):∃ o,ZsV s.heap u o/\o.isFreed=false/\∀ it h',h'.get? it=some o->∃ st,Src X.prog X.w X.K J it st/\st 0 h':=by
 cases x with
 | list h =>
  cases r;obtain⟨its,rv,p,hz⟩:=I.list h;exact⟨_,.list p.isList,rfl,λ it h' e=>⟨_,d3i _ it,_,e,rfl,rfl⟩⟩
def e5n (K:W.Frag) (ta:TA):TI:=λ σ H R=>ta σ H λ vs H1=>∃ u v J1 J2,vs=[u,v]/\e3y K H1 u J1/\e3y K H1 v J2/\R (ItZ J1 J2) H1
theorem d8s {p pos:Pos} {elts:List Expr} {kk:Nat} {tpos:Pos} (hg:Gl X "zip") (hm:X.mg "zip"=none) (ha:PA X [a,b] ta) (hs:starEach [a,b] X.env=[(false,eval a X.env),(false,eval b X.env)]:=by rfl) (hs2:starEach [b] X.env=[(false,eval b X.env)]:=by rfl) :
  PI X (.Tuple elts kk tpos) (.Call (.Name "zip" p) [a,b] [] pos) (e5n X.K ta):=by
 constructor;intro pins s σ H R I h;refine Call_ (a7w I hg hm boot_zip (z5c (thn (ha pos pins s σ H _ I h) λ us s1 ⟨vs,H1,I1,r1,q1⟩=>?_) (by rw[hs,hs2]) (by rw[hs2];rfl)));obtain⟨x,y,J1,J2,rfl,x1,x2,q⟩:=q1;obtain⟨u,w',rfl,ru,rw'⟩:=d0g r1;obtain⟨o1,v1,n1,k1⟩:=e0t I1 x1 ru;obtain⟨o2,v2,n2,k2⟩:=e0t I1 x2 rw';refine c1a v1 v2 n1 n2 λ g z TI TO i1 i2 Z=>?_
 obtain⟨st1,S1,t1⟩:=k1 _ _ Z.one;obtain⟨st2,S2,t2⟩:=k2 _ _ Z.two;have I2:=I1.kept (t':=s1.toks) Z.keep;exact wpAny_pyIter_zip Z.zip (nx23 z ([z,TI,TO,i1,i2]) _ (ItZ J1 J2) H1 rfl I2 (d4v Z.ap S1 S2) ⟨Z.zip,Z.ins,nx2 _ _ Z.outs,t1,t2⟩ ⟨λ b hb=>I1.fpOk (Z.young b hb) (I1.hok.fresh (Z.young b hb)),q⟩)
end
end My
namespace My
open PySem PySem.Spec PySem.W PyProof.Rows L2
section
variable {P:Program} {w:World} {K:Frag} {mg:Str->Option Value} {base h:Heap} {x q:Str} {st:Stmt} {ps:List Str} {fa:Addr}
def FnH (K:Frag) (x q:Str) (st:Stmt) (f:Addr):Prop:=∃ oc od an sl kV dc pm cd ct,K.lookup f=some ⟨oc,od,.func (fnOf x q (a2y st) (a2j st) (a0h st) .none kV dc pm an cd ct),sl⟩/\codeIn K cd q=true/\keepIn K (.ref f)=true
def FeH (K:Frag) (x:Str) (st:Stmt):Prop:=∃ f,nsIn K mainGlobals x=some (some (.ref f))/\FnH K x x st f
structure FmH (K:Frag) (C:Addr) (x q:Str) (st:Stmt) (f:Addr):Prop where
 m:a8q K C x f
 h:FnH K x q st f
theorem e2t {oc od an sl kV dc pm cd ct} (a:nsIn K mainGlobals x=some (some (.ref f))) (l:K.lookup f=some ⟨oc,od,.func (fnOf x x (a2y st) (a2j st) (a0h st) .none kV dc pm an cd ct),sl⟩) (c:codeIn K cd x=true) (k:keepIn K (.ref f)=true):FeH K x st :=
 nx11 f a _ (nx10 _ _ _ (nx25 _ _ _ _ _ l c k))
theorem e2u {oc od an sl kV dc pm cd ct} (a:findIn K (.ref C) x=some (some (.ref f))) (l:K.lookup f=some ⟨oc,od,.func (fnOf x q (a2y st) (a2j st) (a0h st) .none kV dc pm an cd ct),sl⟩) (c:codeIn K cd q=true) (k:keepIn K (.ref f)=true) (i:isFn K (.ref f)=true):FmH K C x q st f :=
 ⟨⟨a,i,k⟩,_,_,_,_,_,_,_,_,_,l,c,k⟩
theorem d9t (a:findIn K (.ref C) x=some (some (.ref f))) (k:keepIn K (.ref f)=true) (i:isFn K (.ref f)=true):a8q K C x f:=⟨a,i,k⟩
def Bnd (x q:Str) (st:Stmt) (ps:List Str):Prop:=∀ (kV doc pm:Value) (an:Option Addr) (cdv ct:Value) (us:List Value),us.length=ps.length->bindArgs (fnOf x q (a2y st) (a2j st) (a0h st) .none kV doc pm an cdv ct) ⟨us,[]⟩=pure (ps.zip us)
theorem FnH.fn (h:FnH K x q st f) (b:Bnd x q st ps):∃ d,Fun K x q st f d/\a4p K d ps []:=by
 obtain⟨_,_,_,_,_,_,_,_,_,l,c,k⟩:=h;exact⟨_,d5n l c k,(d5n l c k).binds b⟩
structure Fe (K:Frag) (mg:Str->Option Value) (x:Str) (st:Stmt) (ps:List Str):Prop where
 e:∃ f d,Fun K x x st f d/\a4p K d ps []/\mg x=some (.ref f)
structure Fm (K:Frag) (x q:Str) (st:Stmt) (ps:List Str) (f:Addr):Prop where
 e:∃ d,Fun K x q st f d/\a4p K d ps []
noncomputable def Fe.f (D:Fe K mg x st ps):Addr:=D.e.choose
noncomputable def Fe.d (D:Fe K mg x st ps):FuncData:=D.e.choose_spec.choose
theorem Fe.F (D:Fe K mg x st ps):Fun K x x st D.f D.d:=D.e.choose_spec.choose_spec.1
theorem Fe.b (D:Fe K mg x st ps):a4p K D.d ps []:=D.e.choose_spec.choose_spec.2.1
theorem Fe.m (D:Fe K mg x st ps):mg x=some (.ref D.f):=D.e.choose_spec.choose_spec.2.2
noncomputable def Fm.d {f:Addr} (D:Fm K x q st ps f):FuncData:=D.e.choose
theorem Fm.F (D:Fm K x q st ps f):Fun K x q st f D.d:=D.e.choose_spec.1
theorem Fm.b (D:Fm K x q st ps f):a4p K D.d ps []:=D.e.choose_spec.2
theorem FeH.fe (D:FeH K x st) (X:K.In h) (G:h.Ns mainGlobals mg) (b:Bnd x x st ps):Fe K mg x st ps :=
 let ⟨f,a,r⟩:=D
 let ⟨d,F,B⟩:=r.fn b
 ⟨f,d,F,B,mg_of X G a⟩
theorem FmH.fm (D:FmH K C x q st f) (b:Bnd x q st ps):Fm K x q st ps f:=⟨D.h.fn b⟩
abbrev Fe.Ok (D:Fe K mg x st ps) (P:Program) (w:World) (base:Heap) (k:Nat) (sp:Sp):Prop:=b1f P w K mg base CX0 k D.f D.d ps sp
abbrev Fm.Ok {f:Addr} (D:Fm K x q st ps f) (mg:Str->Option Value) (P:Program) (w:World) (base:Heap) (k:Nat) (sp:Sp):Prop:=b1f P w K mg base CX0 k f D.d ps sp
def FdH (K:Frag) (x:Str) (st:Stmt):Prop:=∃ f oc od an sl kV dc pm cd ct dt dod dn dsl,nsIn K mainGlobals x=some (some (.ref f))/\K.lookup f=some ⟨oc,od,.func (fnOf x x (a2y st) (a2j st) (a0h st) (.ref dt) kV dc pm an cd ct),sl⟩/\codeIn K cd x=true/\keepIn K (.ref f)=true/\K.lookup dt=some ⟨.type "tuple",dod,.seq #[.none] dn,dsl⟩
theorem e2g {oc od an sl kV dc pm cd ct dt dod dn dsl} (a:nsIn K mainGlobals x=some (some (.ref f))) (l:K.lookup f=some ⟨oc,od,.func (fnOf x x (a2y st) (a2j st) (a0h st) (.ref dt) kV dc pm an cd ct),sl⟩) (c:codeIn K cd x=true) (k:keepIn K (.ref f)=true) (t:K.lookup dt=some ⟨.type "tuple",dod,.seq #[.none] dn,dsl⟩):FdH K x st :=
 nx10 f _ _ (nx31 _ _ _ _ _ _ (nx23 _ _ _ _ _ a l c k t))
def e5z (x:Str) (st:Stmt) (ps:List Str) (ds:List Value):Prop:=∀ (dV kV doc pm:Value) (an:Option Addr) (cdv ct:Value) (us:List Value),(us++ds).length=ps.length->∃ k:Option (Array Value)->Sem (List (Str×Value)),bindArgs (fnOf x x (a2y st) (a2j st) (a0h st) dV kV doc pm an cdv ct) ⟨us,[]⟩=(seqItems? dV>>=k)/\k (some #[.none])=pure (ps.zip (us++ds))
structure Fd (K:Frag) (mg:Str->Option Value) (x:Str) (st:Stmt) (ps:List Str):Prop where
 e:∃ f d,e2q K x x st f d/\a4p K d ps []/\a4p K d ps [.none]/\mg x=some (.ref f)
noncomputable def Fd.f (D:Fd K mg x st ps):Addr:=D.e.choose
noncomputable def Fd.d (D:Fd K mg x st ps):FuncData:=D.e.choose_spec.choose
theorem Fd.F (D:Fd K mg x st ps):e2q K x x st D.f D.d:=D.e.choose_spec.choose_spec.1
theorem Fd.b (D:Fd K mg x st ps):a4p K D.d ps []:=D.e.choose_spec.choose_spec.2.1
theorem Fd.bd (D:Fd K mg x st ps):a4p K D.d ps [.none]:=D.e.choose_spec.choose_spec.2.2.1
theorem Fd.m (D:Fd K mg x st ps):mg x=some (.ref D.f):=D.e.choose_spec.choose_spec.2.2.2
theorem FdH.fd (D:FdH K x st) (X:K.In h) (G:h.Ns mainGlobals mg) (b0:e5z x st ps []) (b1:e5z x st ps [.none]):Fd K mg x st ps:=by
 obtain⟨f,_,_,_,_,_,_,_,_,_,dt,_,_,_,a,l,c,k,t⟩:=D;exact⟨f,_,d7g l c k,λ s us XX hl=>b5h rfl t rfl XX (b0 _ _ _ _ _ _ _ us hl),λ s us XX hl=>b5h rfl t rfl XX (b1 _ _ _ _ _ _ _ us hl),mg_of X G a⟩
abbrev Fd.Ok (D:Fd K mg x st ps) (P:Program) (w:World) (base:Heap) (k:Nat) (sp:Sp):Prop:=b1f P w K mg base CX0 k D.f D.d ps sp
theorem okF {f:Addr} {d:FuncData} {N:List Str} {k:Nat} {sp:Sp} (F:Fun K x q st f d) (S:a0i N ps (a0h st)) (h:∀ (cdv:Value) (A:Around) (outer:List Env) (s:Shared) (H:Hp) (vs:List V) (Q:VK) (E:XK),Room k (A.deeper (envOfC q (a0h st) s.heap.objs.size f cdv))->sp vs H Q E ->
   ∃ t,PSs (d5g CX0 P w K mg base N q (a0h st) f cdv A outer s H E).nox (a2j st) t/\t {nx:=λ _ H'=>Q .non H',rt:=Q} (start N vs) H)
  (l:∀ vs H Q E,sp vs H Q E->vs.length=ps.length:=by intro vs H Q E h;repeat (first | (obtain⟨rfl,_⟩:=h;rfl) | (obtain⟨_,h⟩:=h))):b1f P w K mg base CX0 (k+1) f d ps sp:=F.ok S l h
structure CoH (K:Frag) (C:Addr):Prop where
 mo:MkO K C
 cl:Cls K C
 tc:findIn K (.ref C) "__class__"=some (some (.builtin "object.__class__"))
 tm:mroIn K C (.type "object")=some true
theorem e3r (a:makesIn K C=true) (b:findIn K (.ref C) "__init__"=some (some (.builtin "object.__init__"))) (c:keepIn K (.ref C)=true) (d:plainGet K C Str.empty=true) (e:hasDictIn K C=true) (f:plainOver K C=true) (g:findIn K (.ref C) "__setattr__"=some (some (.builtin "object.__setattr__"))) (i:findIn K (.ref C) "__class__"=some (some (.builtin "object.__class__"))) (j:mroIn K C (.type "object")=some true):CoH K C:=⟨⟨a,b,c⟩,⟨d,e,f,g⟩,i,j⟩
theorem Fe.law (D:Fe K mg x st ps) (hfa:mg x=some (.ref fa)) (b:∀ kV doc pm an cdv ct v,bindArgs (fnOf x x (a2y st) (a2j st) (a0h st) .none kV doc pm an cdv ct) ⟨[v],[]⟩=pure [(p,v)]) (r:∀ base,D.Ok P w base k sp) :
  ∃ fd:FuncData,(∀ (s:Shared) (v:Value),BindsTo s fd ⟨[v],[]⟩ [(p,v)])/\∀ base:Heap,K.In base->base.Ns mainGlobals mg->b1f P w K mg base CX0 k fa fd ps sp:=by
 have e:=hfa.symm.trans D.m;cases e;refine⟨D.d,λ s v=>?_,λ base _ _=>r base⟩;obtain⟨_,_,_,_,_,_,_,_,_,e,_⟩:=D.F.ex;rw[e];exact .of_eq (b ..)
end
theorem fsc {N P:List Str} {sc:Scope} (a:sc.kind=.function:=by rfl) (b:sc.isCoroutine=false:=by rfl) (c:sc.isGenerator=false:=by rfl) (d:N.Nodup:=by decide +kernel) (e:N.take P.length=P:=by rfl) (f:∀ x∈P,sc.names.lookup x=some .local\/sc.names.lookup x=some .cell:=by decide +kernel) (g:∀ y∈sc.names,y.2≠.free:=by decide +kernel):a0i N P sc:=⟨a,b,c,d,e,f,g⟩
section
variable {X:Cx}
theorem pcF {x:Str} {st:Stmt} {ps:List Str} {k n:Nat} {sp:Sp} {p pos:Pos} {e:Expr} {es:List Expr} {t:TA} (D:Fe X.K X.mg x st ps) (F:b1f X.prog X.w X.K X.mg X.base CX0 k D.f D.d ps sp) (hr:Room n X.A) (ha:PA X (e::es) t) (h:k<=n:=by decide) (hg:Gl X x:=by rfl) (hdb:(x == ("__debug__":Str))=false:=by decide)
  (he:starEach (e::es) X.env=(false,eval e X.env)::starEach es X.env:=by rfl) (hpl:(backTo pos (starEach es X.env)).any (·.1)=false:=by rfl):PE X (.Call (.Name x p) (e::es) [] pos) (c6w sp [] E0 t):=b6r (F.mono h) hr hg D.m D.F.kp D.b .nil c6g ha hdb he hpl
theorem psx (i:Nat) {x:Str} {e:Expr} {te:TE} {pos pos':Pos} (hN:X.N.Nodup) (he:PE X e te) (hi:X.N[i]?=some x:=by rfl) (hx:Loc X.env.scope x:=by first | exact Or.inl rfl | exact Or.inr rfl) (hs:swapsWith e (some (.Name x pos')) pos.line X.env=pure false:=by rfl)
  (hf:X.fn x=true\/X.env.scope.names.lookup x=some .local:=by first | exact .inl rfl | exact .inr rfl | assumption):PS X (.Assign [.Name x pos'] e pos) (e5w te (d0e i)):=e2z hN hi hx he hs hf
theorem pgm (i:Nat) {x:Str} {pos:Pos} (hN:X.N.Nodup) (hi:X.N[i]?=some x:=by rfl) (hx:Loc X.env.scope x:=by first | exact Or.inl rfl | exact Or.inr rfl) (hf:X.fn x=true\/X.env.scope.names.lookup x=some .local:=by first | exact .inl rfl | exact .inr rfl | assumption):PG X (.Name x pos) (d0e i):=c7e hN hi hx hf
theorem pgn (i:Nat) {x:Str} {pos:Pos} (hi:X.N[i]?=some x:=by rfl) (hN:X.N.Nodup:=by first | (show [_].Nodup;decide +kernel) | (show [_,_].Nodup;decide +kernel) | (show [_,_,_].Nodup;decide +kernel) | (show [_,_,_,_].Nodup;decide +kernel) | (show [_,_,_,_,_].Nodup;decide +kernel) | (show [_,_,_,_,_,_].Nodup;decide +kernel) | (show [_,_,_,_,_,_,_].Nodup;decide +kernel))
  (hx:Loc X.env.scope x:=by first | exact Or.inl rfl | exact Or.inr rfl) (hf:X.fn x=true\/X.env.scope.names.lookup x=some .local:=by first | exact .inl rfl | exact .inr rfl | assumption):PG X (.Name x pos) (d0e i):=c7e hN hi hx hf
theorem pix {r:R2} {a b:Expr} {ta tb:TE} {pos:Pos} (hr:IxR X r) (ha:PE X a ta) (hb:PE X b tb) (hs:c8i b:=by exact λ _ _=>rfl):PE X (.Subscript a b pos) (tOp r ta tb):=e4g hr ha hb hs
section
variable {scope:Scope} {target iter elt:Expr} {ifs:List Expr} {pos:Pos} {g:TG} {tc:L2.TT} {te:TE} {wi:TI}
theorem csc (fv:List Str) (js:List Nat) (a:scope.kind=.function:=by rfl) (b:∀ q∈scope.names,q.2≠.cell:=by decide +kernel) (c:∀ q∈scope.names,q.2=.local->scope.names.lookup q.1=some .local:=by decide +kernel) (d:∀ q∈scope.names,q.2=.free->q.1∈fv:=by decide +kernel)
  (e:∀ x∈fv,X.env.kindOf x=some .cell\/X.env.kindOf x=some .free:=by repeat (first | exact d2v | refine d0v (by first | exact Or.inl rfl | exact Or.inr rfl) ?_)) (f:js.map (λ j=>X.N[j]?)=fv.map some:=by rfl) (h:∀ x∈fv,scope.names.lookup x=some .free:=by decide +kernel):a6d X scope fv js:=⟨a,b,c,d,e,f,h⟩
theorem pcf (tg fv:List Str) (js:List Nat) (hi:PI X target iter wi) (hg:∀ {cl C s₀ H₀ ex},PG (a1i X scope (tg++fv) cl C s₀ H₀ ex) target g) (hf:∀ {cl C s₀ H₀ ex},d8o (a1i X scope (tg++fv) cl C s₀ H₀ ex) ifs tc) (he:∀ {cl C s₀ H₀ ex},PE (a1i X scope (tg++fv) cl C s₀ H₀ ex) elt te)
  (S:a6d X scope fv js:=by exact csc _ _) (hc:X.calm=true:=by rfl) (hs:∀ x,foldedSetIterable iter X.env x=pure x:=by intro _;rfl):PE X (.ListComp elt [⟨target,iter,ifs,0⟩] scope pos) (c4q tg.length js wi g tc te):=d3c tg hc S hi (λ _ _ _ _ _=>hg) (λ _ _ _ _ _=>hf) (λ _ _ _ _ _=>he) hs
theorem psf (i:Nat) {y:Str} {py spos:Pos} (tg:List Str) (hN:X.N.Nodup) (fv:List Str) (js:List Nat) (hi:PI X target iter wi) (hg:∀ {cl C s₀ H₀ ex},PG (a1i X scope (tg++fv) cl C s₀ H₀ ex) target g) (hf:∀ {cl C s₀ H₀ ex},d8o (a1i X scope (tg++fv) cl C s₀ H₀ ex) ifs tc) (he:∀ {cl C s₀ H₀ ex},PE (a1i X scope (tg++fv) cl C s₀ H₀ ex) elt te)
  (S:a6d X scope fv js:=by exact csc _ _) (hc:X.calm=true:=by rfl) (hy:X.N[i]?=some y:=by rfl) (hk:X.env.scope.names.lookup y=some .local:=by rfl) (hw:swapsWith (.ListComp elt [⟨target,iter,ifs,0⟩] scope pos) (some (.Name y py)) spos.line X.env=pure true:=by rfl) (hs:∀ x,foldedSetIterable iter X.env x=pure x:=by intro _;rfl) :
  PS X (.Assign [.Name y py] (.ListComp elt [⟨target,iter,ifs,0⟩] scope pos) spos) (λ D σ H=>c4q tg.length js wi g tc te σ H λ v H1=>D.nx (σ.set i (some v)) H1):=d3j tg hc hN hy hk S hi hw (λ _ _ _ _ _=>hg) (λ _ _ _ _ _=>hf) (λ _ _ _ _ _=>he) hs
end
end
end My
namespace Lw
open PySem PySem.Spec PyProof.Rows L2 My
set_option maxHeartbeats 4000000
inductive Lv where
 | loose | kept | make | watch | hold
def wd:Lv->Str
 | .loose=>"loose"
 | .kept=>"kept"
 | .make=>"make"
 | .watch=>"watch"
 | .hold=>"hold"
def ix:Lv->Nat
 | .loose=>0
 | .kept=>1
 | .make=>2
 | .watch=>3
 | .hold=>4
def a1e:Lv->Int->Int
 | .kept,n=>n+1
 | .make,_=>2
 | _,_=>1
def e0c:Option Int->V
 | none=>.non
 | some k=>.int k
def a3y:Lv->Int->Option Int
 | .loose,_=>none
 | .kept,p=>some p
 | _,_=>some 0
def a2t:Lv->Int->Int
 | .kept,n=>n
 | _,_=>0
def b4z (l:Lv):Sp:=λ vs H Q _=>∃ x,vs=[x]/\Q (.str (wd l)) H
def a7k (l:Lv):Sp:=λ vs H Q _=>∃ (x:V) (n:Int),vs=[x,.int n]/\Q (.int (a1e l n)) H
def b2k (l:Lv):Sp:=λ vs H Q _=>∃ (x:V) (n:Int),vs=[x,.int n]/\Q (e0c (a3y l n)) H
def a9f (l:Lv):Sp:=λ vs H Q _=>∃ (x:V) (n:Int),vs=[x,.int n]/\Q (.int (a2t l n)) H
theorem Same.newO (hx:H x=none) (hdx:H dx=none) (n:dx≠x):Same H (upd (upd H dx (.own x)) x (.ins C dx [])):=λ b o e=>by
 have b1:b≠x:=λ z=>by rw[z,hx] at e;cases e
 have b2:b≠dx:=λ z=>by rw[z,hdx] at e;cases e
 rw[a0g b1,a0g b2];exact e
def top (i:Nat):Stmt:=PySem.Challenge.pw_skewhouse_k62_edges.main.body.getD i (.Pass ⟨0,0,0,0⟩)
def d7y (s:Stmt):List Stmt:=match s with
 | .ClassDef _ _ _ b _ _ _ _ _ _ _=>b
 | _=>[]
def cm (i j:Nat):Stmt:=(d7y (top i)).getD j (.Pass ⟨0,0,0,0⟩)
set_option genInjectivity false in
set_option genSizeOf false in
open PySem.W in
structure Tx (K:Frag) (mg:Str->Option Value) where
 b2q:Addr
 a8p:Fm K "word" "Loose.word" (cm 5 0) ["self"] b2q
 b1e:Addr
 a6w:Fm K "spots" "Loose.spots" (cm 5 6) ["self","looks"] b1e
 a6r:Addr
 a4b:Fm K "look_spot" "Loose.look_spot" (cm 5 7) ["self","place"] a6r
 a6e:Addr
 a3u:Fm K "first_spot" "Loose.first_spot" (cm 5 8) ["self","looks"] a6e
 b4s:Addr
 b0f:Fm K "word" "Kept.word" (cm 6 0) ["self"] b4s
 b3a:Addr
 a8b:Fm K "spots" "Kept.spots" (cm 6 2) ["self","looks"] b3a
 a7p:Addr
 a4y:Fm K "look_spot" "Kept.look_spot" (cm 6 3) ["self","place"] a7p
 a6m:Addr
 a4i:Fm K "first_spot" "Kept.first_spot" (cm 6 4) ["self","looks"] a6m
 b5r:Addr
 b0x:Fm K "word" "Make.word" (cm 7 0) ["self"] b5r
 b2h:Addr
 a8o:Fm K "spots" "Make.spots" (cm 7 3) ["self","looks"] b2h
 a4v:Addr
 a3l:Fm K "look_spot" "Make.look_spot" (cm 7 4) ["self","place"] a4v
 a4g:Addr
 a3c:Fm K "first_spot" "Make.first_spot" (cm 7 5) ["self","looks"] a4g
 b3e:Addr
 a8k:Fm K "word" "Watch.word" (cm 8 0) ["self"] b3e
 b1c:Addr
 a6l:Fm K "spots" "Watch.spots" (cm 8 2) ["self","looks"] b1c
 b5m:Addr
 b0u:Fm K "word" "Hold.word" (cm 9 0) ["self"] b5m
 b2e:Addr
 a8a:Fm K "spots" "Hold.spots" (cm 9 2) ["self","looks"] b2e
 a7r:Addr
 a4w:Fm K "look_spot" "Hold.look_spot" (cm 9 3) ["self","place"] a7r
 a6o:Addr
 a4h:Fm K "first_spot" "Hold.first_spot" (cm 9 4) ["self","looks"] a6o
 a8x:Fe K mg "level_of" (top 10) ["word"]
 a9x:Fe K mg "levels_of" (top 15) ["past","word"]
 a9b:Fe K mg "spots_of" (top 16) ["deal","level"]
 a9r:Fe K mg "keeps_of" (top 17) ["past","levels"]
 b0n:Fe K mg "firsts_of" (top 18) ["past","levels"]
 a5z:Fe K mg "with_later" (top 19) ["things"]
 b0c:Fe K mg "own_edges" (top 20) ["past","levels"]
 a8m:Fe K mg "pair_edges" (top 21) ["spot","key","source","makers","keeps"]
 a8f:Fe K mg "deal_edges" (top 22) ["deal","level","makers","keeps"]
 a8g:Fe K mg "look_edges" (top 23) ["past","levels"]
 a8h:Fe K mg "over_edges" (top 24) ["past","levels"]
 c4h:Fe K mg "rank" (top 25) ["edge"]
 a4e:Fd K mg "edges" (top 26) ["history","word"]
 a4d:Fe K mg "_law_cell_at" (top 28) ["_law_script","_law_k"]
 a8u:Fe K mg "_law_whole" (top 29) ["_law_found"]
 a6u:Fe K mg "_law_stream" (top 30) ["_law_cell","_law_many_here"]
 c2k:Fe K mg "_law_keys" (top 31) ["_law_cell"]
 b6h:Fe K mg "_law_times" (top 32) ["_law_xs","_law_end"]
 b7h:Fe K mg "_law_drawn" (top 33) ["_law_script"]
 b3d:Fe K mg "_law_source" (top 34) ["_law_makers","_law_ends","_law_number","_law_time"]
 b0b:Fe K mg "_law_spoiled" (top 35) ["_law_deals","_law_makes","_law_cell"]
 c1g:Fe K mg "_law_tale" (top 36) ["_law_script"]
 a8z:Fe K mg "_law_longer" (top 37) ["_law_script"]
 c0y:Fe K mg "_law_many" (top 38) ["_law_word_here","_law_looks"]
 b7q:Fe K mg "_law_spot" (top 39) ["_law_word_here","_law_place"]
 b7b:Fe K mg "_law_first" (top 40) ["_law_word_here","_law_looks"]
 b6z:Fe K mg "_law_scene" (top 41) ["_law_tale_here","_law_word_here"]
 c9b:Fe K mg "_law_saw" (top 42) ["_law_scene_here","_law_one","_law_other","_law_key"]
 b3u:Fe K mg "_law_unseen" (top 43) ["_law_scene_here","_law_one","_law_other","_law_key"]
 c0s:Fe K mg "_law_over" (top 44) ["_law_scene_here","_law_one","_law_other","_law_key"]
 b0r:Fe K mg "_law_between" (top 45) ["_law_scene_here","_law_one","_law_other","_law_keys_here"]
 c0t:Fe K mg "_law_ways" (top 46) ["_law_scene_here","_law_tale_here"]
 c2a:Fe K mg "_law_word" (top 47) ["_law_cell"]
 a9d:Fe K mg "_law_is_spot" (top 48) ["_law_found"]
 b1t:Fe K mg "_law_alike" (top 49) ["_law_found","_law_due"]
 d8u:Fe K mg "law" (top 50) ["_law_script"]
 a4z:Addr
 d7o:mg "Loose"=some (.ref a4z)
 a7t:Addr
 e2w:mg "Kept"=some (.ref a7t)
 a7v:Addr
 e1b:mg "Make"=some (.ref a7v)
 a5d:Addr
 d9g:mg "Watch"=some (.ref a5d)
 a7q:Addr
 e0d:mg "Hold"=some (.ref a7q)
 a9n:CoH K a4z
 b7c:a8q K a4z "word" b2q
 b4k:a8q K a4z "spots" b1e
 a9o:a8q K a4z "look_spot" a6r
 a7y:a8q K a4z "first_spot" a6e
 b3j:CoH K a7t
 b9n:a8q K a7t "word" b4s
 b7f:a8q K a7t "spots" b3a
 b0p:a8q K a7t "look_spot" a7p
 a9u:a8q K a7t "first_spot" a6m
 b2g:CoH K a7v
 b8i:a8q K a7v "word" b5r
 b5v:a8q K a7v "spots" b2h
 b0e:a8q K a7v "look_spot" a4v
 a8r:a8q K a7v "first_spot" a4g
 a9k:CoH K a5d
 b7m:a8q K a5d "word" b3e
 b4h:a8q K a5d "spots" b1c
 a8w:a8q K a5d "look_spot" a4v
 a8l:a8q K a5d "first_spot" a4g
 b2i:CoH K a7q
 b9s:a8q K a7q "word" b5m
 b5z:a8q K a7q "spots" b2e
 a9z:a8q K a7q "look_spot" a7r
 a9a:a8q K a7q "first_spot" a6o
 tg:specialIn K (.builtin "object.__class__") "__get__"=some (some (.builtin "getset_descriptor.__get__"))
 tt:takesIn K (.builtin "object.__class__")=some true
 d7u:Tok
 d6v:mg "START"=some (.int (0) d7u)
 d4r:Tok
 d2x:mg "UNKEPT"=some (.int (-1) d4r)
 b3h:Addr
 d8d:mg "KINDS"=some (.ref b3h)
 d9o:∀ H:Hp,SqT K H b3h [V.str "own",V.str "saw",V.str "unseen",V.str "over"]
 d4o:∃ o:Obj,K.lookup b3h=some o/\o.cls=.type "tuple"/\o.dict=none
 c9u:mg "bool"=none
 b3x:mg "dict"=none
 a6a:mg "enumerate"=none
 d8v:mg "int"=none
 a1x:mg "isinstance"=none
 a3o:mg "len"=none
 c9z:mg "list"=none
 a3f:mg "range"=none
 d6x:mg "set"=none
 a5s:mg "sorted"=none
 d7v:mg "str"=none
 b5t:mg "tuple"=none
 d9p:mg "zip"=none
theorem b9d:a0i ["self"] ["self"] (a0h (cm 5 0)):=fsc
theorem b6s:a0i ["self","looks"] ["self","looks"] (a0h (cm 5 6)):=fsc
theorem b1k:a0i ["self","place"] ["self","place"] (a0h (cm 5 7)):=fsc
theorem b0t:a0i ["self","looks"] ["self","looks"] (a0h (cm 5 8)):=fsc
theorem c2d:a0i ["self"] ["self"] (a0h (cm 6 0)):=fsc
theorem c0b:a0i ["self","looks"] ["self","looks"] (a0h (cm 6 2)):=fsc
theorem b3q:a0i ["self","place"] ["self","place"] (a0h (cm 6 3)):=fsc
theorem b1p:a0i ["self","looks"] ["self","looks"] (a0h (cm 6 4)):=fsc
theorem c0v:a0i ["self"] ["self"] (a0h (cm 7 0)):=fsc
theorem c0h:a0i ["self","looks"] ["self","looks"] (a0h (cm 7 3)):=fsc
theorem b3l:a0i ["self","place"] ["self","place"] (a0h (cm 7 4)):=fsc
theorem b1n:a0i ["self","looks"] ["self","looks"] (a0h (cm 7 5)):=fsc
theorem b8d:a0i ["self"] ["self"] (a0h (cm 8 0)):=fsc
theorem b6c:a0i ["self","looks"] ["self","looks"] (a0h (cm 8 2)):=fsc
theorem c0r:a0i ["self"] ["self"] (a0h (cm 9 0)):=fsc
theorem c0a:a0i ["self","looks"] ["self","looks"] (a0h (cm 9 2)):=fsc
theorem b4a:a0i ["self","place"] ["self","place"] (a0h (cm 9 3)):=fsc
theorem b1r:a0i ["self","looks"] ["self","looks"] (a0h (cm 9 4)):=fsc
theorem b5g:a0i ["word","level"] ["word"] (a0h (top 10)):=fsc
theorem c2t:a0i ["past","word"] ["past","word"] (a0h (top 15)):=fsc
theorem c5o:a0i ["deal","level"] ["deal","level"] (a0h (top 16)):=fsc
theorem c6f:a0i ["past","levels"] ["past","levels"] (a0h (top 17)):=fsc
theorem c2h:a0i ["past","levels"] ["past","levels"] (a0h (top 18)):=fsc
theorem a4r:a0i ["things","pairs","place","thing"] ["things"] (a0h (top 19)):=fsc
theorem a5v:a0i ["past","levels","found","deal","pairs"] ["past","levels"] (a0h (top 20)):=fsc
theorem a4t:a0i ["spot","key","source","makers","keeps","parted","saw","unseen"] ["spot","key","source","makers","keeps"] (a0h (top 21)):=fsc
theorem a2p:a0i ["deal","level","makers","keeps","found","counted","look","place","key","source"] ["deal","level","makers","keeps"] (a0h (top 22)):=fsc
theorem a3m:a0i ["past","levels","makers","keeps","found","deal"] ["past","levels"] (a0h (top 23)):=fsc
theorem a3n:a0i ["past","levels","keeps","firsts","found","made"] ["past","levels"] (a0h (top 24)):=fsc
theorem d7q:a0i ["edge"] ["edge"] (a0h (top 25)):=fsc
theorem b7i:a0i ["history","word","levels","found"] ["history","word"] (a0h (top 26)):=fsc
theorem c6b:a0i ["_law_script","_law_k"] ["_law_script","_law_k"] (a0h (top 28)):=fsc
theorem c8w:a0i ["_law_found"] ["_law_found"] (a0h (top 29)):=fsc
theorem a5k:a0i ["_law_cell","_law_many_here","_law_found","_law_number","_law_k"] ["_law_cell","_law_many_here"] (a0h (top 30)):=fsc
theorem a6z:a0i ["_law_cell","_law_xs","_law_keys_here","_law_j","_law_key"] ["_law_cell"] (a0h (top 31)):=fsc
theorem b8n:a0i ["_law_xs","_law_end","_law_many_here"] ["_law_xs","_law_end"] (a0h (top 32)):=fsc
theorem a5h:a0i ["_law_script","_law_found","_law_number","_law_xs","_law_end","_law_word_here"] ["_law_script"] (a0h (top 33)):=fsc
theorem a7l:a0i ["_law_makers","_law_ends","_law_number","_law_time","_law_found","_law_maker"] ["_law_makers","_law_ends","_law_number","_law_time"] (a0h (top 34)):=fsc
theorem a1n:a0i ["_law_deals","_law_makes","_law_cell","_law_xs","_law_number","_law_word_here","_law_looks","_law_chain","_law_moved","_law_look","_law_key","_law_some"] ["_law_deals","_law_makes","_law_cell"] (a0h (top 35)):=fsc
theorem a1k:a0i ["_law_script","_law_keys_here","_law_drawn_here","_law_ends","_law_makes","_law_end","_law_number","_law_made","_law_k","_law_deals","_law_word_here","_law_times_here","_law_bits","_law_looks","_law_j","_law_there","_law_cell"] ["_law_script"] (a0h (top 36)):=fsc
theorem a3i:a0i ["_law_script","_law_tale_here","_law_cell","_law_at","_law_number","_law_word_here","_law_looks"] ["_law_script"] (a0h (top 37)):=fsc
theorem d3r:a0i ["_law_word_here","_law_looks"] ["_law_word_here","_law_looks"] (a0h (top 38)):=fsc
theorem d3q:a0i ["_law_word_here","_law_place"] ["_law_word_here","_law_place"] (a0h (top 39)):=fsc
theorem c9c:a0i ["_law_word_here","_law_looks"] ["_law_word_here","_law_looks"] (a0h (top 40)):=fsc
theorem a1t:a0i ["_law_tale_here","_law_word_here","_law_counts","_law_firsts","_law_seen","_law_number","_law_own","_law_looks","_law_level","_law_place","_law_places","_law_key","_law_makers","_law_k"] ["_law_tale_here","_law_word_here"] (a0h (top 41)):=fsc
theorem b6w:a0i ["_law_scene_here","_law_one","_law_other","_law_key","_law_at","_law_name","_law_source_here"] ["_law_scene_here","_law_one","_law_other","_law_key"] (a0h (top 42)):=fsc
theorem a7j:a0i ["_law_scene_here","_law_one","_law_other","_law_key","_law_at","_law_name","_law_source_here"] ["_law_scene_here","_law_one","_law_other","_law_key"] (a0h (top 43)):=fsc
theorem b5y:a0i ["_law_scene_here","_law_one","_law_other","_law_key","_law_at","_law_later"] ["_law_scene_here","_law_one","_law_other","_law_key"] (a0h (top 44)):=fsc
theorem b2r:a0i ["_law_scene_here","_law_one","_law_other","_law_keys_here","_law_found"] ["_law_scene_here","_law_one","_law_other","_law_keys_here"] (a0h (top 45)):=fsc
theorem a5w:a0i ["_law_scene_here","_law_tale_here","_law_keys_here","_law_nodes","_law_number","_law_found","_law_one","_law_other"] ["_law_scene_here","_law_tale_here"] (a0h (top 46)):=fsc
theorem d1n:a0i ["_law_cell"] ["_law_cell"] (a0h (top 47)):=fsc
theorem c5i:a0i ["_law_found"] ["_law_found"] (a0h (top 48)):=fsc
theorem b2n:a0i ["_law_found","_law_due","_law_edge","_law_wanted"] ["_law_found","_law_due"] (a0h (top 49)):=fsc
theorem b9e:a0i ["_law_script","_law_tale_here","_law_word_here","_law_due","_law_found"] ["_law_script"] (a0h (top 50)):=fsc
def cO {K:W.Frag} {mg:Str->Option Value} (T:Tx K mg):Lv->Addr
 | .loose=>T.a4z
 | .kept=>T.a7t
 | .make=>T.a7v
 | .watch=>T.a5d
 | .hold=>T.a7q
def kN (n:Nk):List Key:=[Sum.inl n.1,Sum.inl n.2]
theorem e2n (h:kN a=kN b):a=b:=by
 unfold kN at h;simp at h;exact z1d h.1 h.2
theorem a3b (s:Same H H') (h:NdV H v n):NdV H' v n:=let ⟨p,e,q⟩:=h;⟨p,e,s _ _ q⟩
theorem d7n (s:Same H H') (h:PrV H v k):PrV H' v k:=let ⟨p,u,u',e,q,a,b⟩:=h; (nx4 p u u' e (s _ _ q) (a3b s a) (a3b s b))
def KT2 (H H':Hp):Prop:=∀ b xs,H b=some (.tup xs)->H' b=some (.tup xs)
theorem KT2.trans (a:KT2 A B) (b:KT2 B C):KT2 A C:=λ x xs e=>b x xs (a x xs e)
abbrev Nds (H:Hp):List V->List Nk->Prop:=Paired (NdV H)
theorem a0r:∀ {xs:List α} {bs:List β} {ys:List α} {cs:List β},Paired F xs bs->Paired F ys cs->Paired F (xs++ys) (bs++cs)
 | _,_,_,_,.nil,h=>h
 | _,_,_,_,.cons r t,h=>.cons r (a0r t h)
def bhF (js:List (Nk×Nk)) (n:Nk):List Nk:=(js.filter λ p=>decide (p.1=n)).map (·.2)
def CB (H1 H:Hp) (D:Addr) (ys:List V) (qs:List (Nk×Addr)):Prop :=
 Paired (λ (y:V) (q:Nk×Addr)=>∃ t b,y=.ref t/\t≠D/\q.2≠D/\H t=some (.tup [.ref b,.ref q.2])/\H b=some (.tup ((kN q.1).map kV))/\H1 q.2=none/\H q.2=some (.lst [])) ys qs/\(qs.map (·.2)).Nodup
theorem CB.keep (c:CB H1 H D ys qs) (hD:H1 D=none) (hD2:∀ xs,H D≠some (.tup xs)) (k:∀ b o,b≠D->H b=some o->H' b=some o):CB H1 H' D ys qs :=
 ⟨Paired.mapP c.1 λ _ _ ⟨t,b,e,n1,n2,h1,h2,h3,h4⟩=> nx27 t b e n1 n2 (k _ _ n1 h1) (k _ _ (λ z=>hD2 _ (z ▸ h2)) h2) ⟨h3,k _ _ n2 h4⟩,c.2⟩
def blk (E:List (Nk×Nk)) (L:List Nk):List Nk:=(E.filter λ p=>decide (p.1∈L)).map (·.2)
def frE (E:List (Nk×Nk)) (L:List Nk):List Nk:=L.filter λ x=>!decide (x∈blk E L)
structure Ord (E js:List (Nk×Nk)) (ns L acc fs:List Nk):Prop where
 nd:L.Nodup
 pw:L.Pairwise λ a b=>ltN b a=false
 sub:∀ x∈L,x∈ns
 len:acc.length+L.length=ns.length
 fnd:fs.Nodup
 fm:∀ x,x∈fs ↔ x∈frE E L
 past:∀ y∈ns,y ∉ L->y ∉ L.flatMap (bhF js)
def b1u (cs:List Int) (k:Int):Int:=(cs[k.toNat]?).getD 0
def d7h (K:W.Frag):Sp:=λ vs H Q _=>∃ (a:Addr) (cs:List Int) (k:Int),vs=[.ref a,.int k]/\SqL K H a (cs.map V.int)/\0<=k/\Q (.int (b1u cs k)) H
def d9k:Sp:=λ vs H Q _=>∃ n:Int,vs=[.int n]/\Q (.bl true) H
def dN (n:Nk):PyData:=.tuple [.int n.1,.int n.2]
theorem e1y {K:W.Frag} (h:NdV H v n):Dt K H v (dN n):=by
 obtain⟨p,rfl,e⟩:=h;exact .tup (SqT.of e) (.cons (.int _) (.cons (.int _) .nil))
def d2u (K:W.Frag):Sp:=λ vs H Q _=>∃ (a:Addr) (ns:List Int),vs=[.ref a]/\SqL K H a (ns.map V.int)/\ns.length<=63/\(∀ m∈ns,Builtin.Int.intBits m<=1048576)/\∀ H',Q (.bl true) H'
def a0x (c:Int):Nat->Int
 | 0=>c%2147483647
 | k+1=>(a0x c k*48271+11+(k:Int))%2147483647
def a3h (c:Int) (m:Nat):List Int:=(List.range m).map λ k=>a0x c (k+1)
theorem b1s (c:Int) (k:Nat):0<=a0x c k/\a0x c k < 2147483647:=by
 cases k with
 | zero=>exact⟨z27 _ (by decide),z2b _ (by decide)⟩
 | succ k=>exact⟨z27 _ (by decide),z2b _ (by decide)⟩
theorem c5t (c:Int) (m:Nat):(a3h c m).length=m:=by unfold a3h;rw[z04,z1m]
theorem c8r (h:i < m):(a3h c m)[i]?=some (a0x c (i+1)):=by
 unfold a3h;rw[z09,z6k h];rfl
theorem c4y (h:i < m):atI ((a3h c m).map V.int) (i:Int)=some (.int (a0x c (i+1))):=a0m (by rw[z09,c8r h];rfl)
theorem c1i (c:Int) (m:Nat):(a3h c (m+1)).map V.int=(a3h c m).map V.int++[.int (a0x c (m+1))]:=by
 unfold a3h;rw[z28,z0z,z0z];rfl
def d2g:Sp:=λ vs H Q _=>∃ (c:Int) (m:Nat),vs=[.int c,.int m]/\m<=10/\∀ p H',H p=none->Same H H'->H' p=some (.lst ((a3h c m).map V.int))->Q (.ref p) H'
def e2y (x:Int):Int:=if x%3=0 then x ^ 3*1009%(2*10 ^ 30 - 1) - (10 ^ 30 - 1) else x / 3%7 - 3
def b7y (c:Int):List Int:=a2s (dd ((List.range (a0x c 1%4).toNat).map λ j=>e2y (a0x c (j+2))))
def d8q (K:W.Frag):Sp:=λ vs H Q _=>∃ c:Int,vs=[.int c]/\∀ p H',H p=none->Same H H'->H' p=some (.lst ((b7y c).map V.int))->Q (.ref p) H'
theorem a0w (c:Int) (m:Nat) (i:Nat) (h:i < m) (z:Int) (e:z=(i:Int)):atI ((a3h c m).map V.int) z=some (.int (a0x c (i+1))):=by rw[e];exact c4y h
def a9h (c e:Int):List Int :=
 if a0x c 4%4=0 then List.replicate (a0x c 3%4).toNat e
 else if a0x c 4%4=1 then List.replicate (a0x c 3%4).toNat (e - a0x c 8%400)
 else if a0x c 4%4=2 then (List.range (a0x c 3%4).toNat).map λ j:Nat=>e - (a0x c 3%4 - (j:Int))*(a0x c 8%150)
 else (List.range (a0x c 3%4).toNat).map λ j:Nat=>a0x c (j+5) / 8%1300
theorem c8a (c e:Int):(a9h c e).length=(a0x c 3%4).toNat:=by
 unfold a9h;split
 ·rw[z3n]
 ·split
  ·rw[z3n]
  ·split<;>rw[z04,z1m]
theorem b7l {α:Type} (x:α):∀ n:Nat,(List.replicate n [x]).flatten=List.replicate n x
 | 0=>rfl
 | n+1=>by rw[z6g,List.flatten_cons,b7l x n];rfl
def d9v (K:W.Frag):Sp:=λ vs H Q _=>∃ (a:Addr) (c e:Int),vs=[.ref a,.int e]/\SqL K H a ((a3h c 10).map V.int)/\∀ p H',H p=none->Same H H'->H' p=some (.lst ((a9h c e).map V.int))->Q (.ref p) H'
theorem a4u {α β:Type} (f:α->β):∀ l:List α,l.filterMap (λ j=>some (f j))=l.map f
 | []=>rfl
 | x::r=>by
  rw[z1o,a4u f r];rfl
structure Dw where
 num:Int
 wrd:Str
 fin:Int
 tms:List Int
 bts:List Int
 mad:Int
def wds:List Str:=["loose","kept","make","watch","hold"]
def wdF (x:Int):Str:=wds.getD (x%5).toNat "loose"
def dwF (c:Int) (n:Int):Dw:=⟨n,wdF (a0x c 1),100*(a0x c 2%12)+n,a9h c (100*(a0x c 2%12)+n),[a0x c 5,a0x c 6,a0x c 7],a0x c 9⟩
def b5p (x:Int) (k:Nat):Bool:=decide (Builtin.bitAnd (x / 2 ^ k) 1=1)
theorem e4n (x:Int):atI [V.str "loose",V.str "kept",V.str "make",V.str "watch",V.str "hold"] (x%5)=some (.str (wdF x)):=by
 have h0:=z27 x (show (5:Int)≠0 by decide);have h1:=z2b x (show (0:Int) < 5 by decide);unfold wdF;obtain⟨n,hn⟩:∃ n:Nat,x%5=(n:Int):=⟨(x%5).toNat,by lia⟩;rw[hn] at h1 ⊢;have:n=0\/n=1\/n=2\/n=3\/n=4:=by lia
 rcases this with rfl | rfl | rfl | rfl | rfl<;>exact a0m rfl
def dwO (cs:List Int) (j:Nat):Option Dw:=if b5p (b1u cs 0%256) j=true then some (dwF (b1u cs (1+(1+(j:Int)))+7919*(1+(j:Int))) (1+(j:Int))) else none
def a0z (cs:List Int):List Dw:=(List.range 8).filterMap (dwO cs)
def DwV (p0:Addr) (H:Hp) (v:V) (d:Dw):Prop:=∃ p t b,v=.ref p/\t≠p0/\b≠p0/\H p=some (.tup [.int d.num,.str d.wrd,.int d.fin,.ref t,.ref b,.int d.mad])/\H t=some (.lst (d.tms.map V.int))/\H b=some (.lst (d.bts.map V.int))
def d8e (K:W.Frag):Sp:=λ vs H Q _=>∃ (a:Addr) (cs:List Int),vs=[.ref a]/\SqL K H a (cs.map V.int)/\∀ p dv H',H p=none->Same H H'->H' p=some (.lst dv)->Paired (DwV p H') dv (a0z cs)->Q (.ref p) H'
abbrev Pr:=Int×Int
abbrev Lk:=List Pr
abbrev Dl:=Int×Str×List Lk
abbrev Mkr:=Int×List Int
abbrev Ps:=List Dl×List Mkr
def b0a (p:Pr):PyData:=.tuple [.int p.1,.int p.2]
def a3x (l:Lk):PyData:=.list (l.map b0a)
def a4j (d:Dl):PyData:=.tuple [.int d.1,.str d.2.1,.list (d.2.2.map a3x)]
def a9l (m:Mkr):PyData:=.tuple [.int m.1,.list (m.2.map PyData.int)]
def a4o (p:Ps):PyData:=.tuple [.list (p.1.map a4j),.list (p.2.map a9l)]
def d1i (en:Int->Int) (n t:Int) (ms:List Int):Int:=ms.foldl (λ a m=>if m≠n/\en m < t then m else a) 0
def d4d:Sp:=λ vs H Q _=>∃ (a e:Addr) (kvs:List (Key×V)) (ms:List Int) (en:Int->Int) (n t:Int),vs=[.ref a,.ref e,.int n,.int t]/\H a=some (.lst (ms.map V.int))/\H e=some (.dK kvs)/\(∀ m∈ms,a1r kvs (Sum.inl m)=some (.int (en m)))/\Q (.int (d1i en n t ms)) H
def ixM (ms:List Mkr) (k:Int):Nat:=(ms.map (·.1)).idxOf k
def chF (ms:List Mkr) (k:Int):List Int:=((ms[ixM ms k]?).map (·.2)).getD []
def b8k (ms:List Mkr) (k:Int) (ch:List Int):List Mkr:=ms.set (ixM ms k) (k,ch)
def c0w (ms:List Mkr) (k n:Int):List Mkr:=if k∈ms.map (·.1) then b8k ms k (chF ms k++[n]) else ms++[(k,[n])]
theorem c3e {ms:List Mkr} {k:Int} (h:k∈ms.map (·.1)):ixM ms k < ms.length:=by
 have:=z4e.mpr h;rwa [z04] at this
theorem a3s {ms:List Mkr} {k:Int} (h:k∈ms.map (·.1)):ms[ixM ms k]?=some (k,chF ms k):=by
 have hl:=c3e h;unfold chF;rw[z0o hl];have h2:(ms.map (·.1))[ixM ms k]'(by rw[z04];exact hl)=k:=z40 _;rw[List.getElem_map] at h2;exact z0b some (z1d h2 rfl)
theorem a2x {ms:List Mkr} {k:Int} (h:k ∉ ms.map (·.1)):chF ms k=[]:=by
 unfold chF;rw[z2m (by have:=z4g h;unfold ixM;rw[this,z04];exact z05 _)];rfl
theorem a6q (ms:List Mkr) (k:Int) (ch:List Int):(b8k ms k ch).map (·.1)=ms.map (·.1):=by
 unfold b8k;rw[z33];by_cases h:k∈ms.map (·.1)
 ·refine TFs.set_self ?_;rw[z09,a3s h];rfl
 ·rw[z6v];have:=z4g h;unfold ixM;rw[this];exact z05 _
theorem c8t (ms:List Mkr) (k n:Int):(c0w ms k n).map (·.1)=if k∈ms.map (·.1) then ms.map (·.1) else ms.map (·.1)++[k]:=by
 unfold c0w;split
 ·exact a6q _ _ _
 ·rw[z0z];rfl
theorem b1a {ms:List Mkr} (k n:Int) (h:(ms.map (·.1)).Nodup):((c0w ms k n).map (·.1)).Nodup:=by
 rw[c8t];split
 ·exact h
 ·next q=>exact nd2.mpr ⟨h,z1f.mpr ⟨(λ z=>by cases z),.nil⟩,λ x hx=>by rw[z0i.mp hx];exact q⟩
theorem b6x (h:m∈b8k ms k ch):m∈ms\/m=(k,ch):=by
 unfold b8k at h;exact(z3e h)
theorem d0z (h:x∈chF ms k):∃ m∈ms,x∈m.2:=by
 by_cases hk:k∈ms.map (·.1)
 ·exact⟨_,z0c (a3s hk),h⟩
 ·rw[a2x hk] at h;cases h
theorem d3u (h:m∈c0w ms k n) (hx:x∈m.2):x=n\/∃ m'∈ms,x∈m'.2:=by
 unfold c0w at h;split at h
 ·rcases b6x h with q | q
  ·exact .inr ⟨m,q,hx⟩
  ·rw[q] at hx;rcases z0f.mp hx with z | z
   ·exact .inr (d0z z)
   ·exact .inl (z0i.mp z)
 ·rcases z0f.mp h with q | q
  ·exact .inr ⟨m,q,hx⟩
  ·rw[z0i.mp q] at hx;exact .inl (z0i.mp hx)
def dCh (m:Mkr):PyData:=.list (m.2.map PyData.int)
structure MkH (H:Hp) (M:Addr) (kvs:List (Key×V)) (ms:List Mkr) (f:List Addr):Prop where
 dict:H M=some (.dK kvs)
 keys:kvs.map (·.1)=ms.map λ m=>Sum.inl m.1
 vals:TFs H (kvs.map (·.2)) (ms.map dCh) f
theorem c3p:∀ {kvs:List (Key×V)} {ms:List Mkr},kvs.map (·.1)=ms.map (λ m=>Sum.inl m.1)->∀ k:Int,a1r kvs (Sum.inl k)=(kvs[ixM ms k]?).map (·.2)
 | [],[],_,k=>rfl
 | [],_::_,h,_=>by cases h
 | _::_,[],h,_=>by cases h
 | q::r,m::s,h,k=>by
  have h1:q.1=Sum.inl m.1:=(List.cons.inj h).1;have h2:r.map (·.1)=s.map (λ m=>Sum.inl m.1):=(List.cons.inj h).2;unfold a1r ixM;rw[z3c,z0w,List.idxOf_cons];by_cases e:m.1=k
  ·rw[show decide (q.1=Sum.inl k)=true from z08 (by rw[h1,e]),show (m.1 == k)=true from beq_iff_eq.mpr e];rfl
  ·rw[show decide (q.1=Sum.inl k)=false from z0n λ z=>e (z2o (h1.symm.trans z)),show (m.1 == k)=false from z3q.mpr e];exact c3p (kvs:=r) (ms:=s) h2 k
theorem MkH.has {H:Hp} {M:Addr} {kvs:List (Key×V)} {ms:List Mkr} {f:List Addr} (h:MkH H M kvs ms f) {k:Int} (hk:k∈ms.map (·.1)):∃ a f1 f3,a1r kvs (Sum.inl k)=some (.ref a)/\H a=some (.lst ((chF ms k).map V.int))/\f=f1++([a]++f3) /\
  ∀ H' ch,H' M=some (.dK kvs)->(∀ b∈f1++f3,∀ o,H b=some o->H' b=some o)->H' a=some (.lst (ch.map V.int))->MkH H' M kvs (b8k ms k ch) f:=by
 have hd:(ms.map dCh)[ixM ms k]?=some (dCh (k,chF ms k)):=by rw[z09,a3s hk];rfl
 obtain⟨x,f1,f2,f3,e1,e2,e3,e4⟩:=h.vals.focus hd;have hv:=c3p h.keys k;rw[z09] at e1;rw[e1] at hv;cases e3 with
 | lst ha r =>
  obtain⟨rfl,rfl⟩:=TFs.ints_of r;refine nx4 _ f1 f3 hv ha e2 λ H' ch hM kp h'=>⟨hM,?_,?_⟩
  ·rw[h.keys];have:=z0b (List.map (Sum.inl (β:=Str))) (a6q ms k ch);rw[z15,z15] at this;exact this.symm
  ·have:=e4 H' _ (dCh (k,ch)) _ kp (TF.lst h' (TFs.ints ch));rw[TFs.set_self (by rw[z09];exact e1)] at this;rw[e2];unfold b8k;rw[z33];exact this
theorem MkH.not {H:Hp} {M:Addr} {kvs:List (Key×V)} {ms:List Mkr} {f:List Addr} (h:MkH H M kvs ms f) {k:Int} (hk:k ∉ ms.map (·.1)):a1r kvs (Sum.inl k)=none:=by
 rw[c3p h.keys k];have e:kvs.length=ms.length:=by have:=z0b List.length h.keys;simpa using this
 rw[z2m (by have:=z4g hk;unfold ixM;rw[this,z04,e];exact z05 _)];rfl
theorem c2s {k:Key} (h:a1r kvs k=none):a3t kvs k v=kvs++[(k,v)]:=by
 unfold a3t;rw[z01];intro z;obtain⟨q,hq,e⟩:=z45.mp z;unfold a1r at h;rw[z64,z4f] at h;exact h q hq e
def a5a (ks:List Int) (n made:Int) (ms:List Mkr):Nat->List Mkr
 | 0=>ms
 | i+1=>if b5p made i=true then c0w (a5a ks n made ms i) (ks.getD i 0) n else a5a ks n made ms i
def a1y (ks:List Int) (ts:List Tk):List Mkr:=ts.foldl (λ ms t=>a5a ks t.2.1 t.2.2 ms ks.length) []
def d9j (ts:List Tk) (m:Int):Int:=((ts.find? λ t=>t.2.1 == m).map (·.1)).getD 0
def b5n (ts:List Tk):List Tk:=ts.mergeSort λ a b=>!ltT b a
theorem d1e (a b c:Tk) (h1:ltT b a=false) (h2:ltT c b=false):ltT c a=false:=by
 cases h:ltT c a with
 | false=>rfl
 | true =>
  by_cases e:a=b
  ·rw[e] at h;rw[h] at h2;cases h2
  ·have:=c1e b a (λ z=>e z.symm) h1;have:=c8g c a b h this;rw[this] at h2;cases h2
theorem e0y (p:js.Perm ts) (h:js.Pairwise λ a b=>ltT b a=false):js=b5n ts:=by
 refine List.Perm.eq_of_pairwise (le:=λ a b=>ltT b a=false) (λ a b _ _ h1 h2=>?_) h ?_ (p.trans (z67 ts _).symm)
 ·by_cases e:a=b
  ·exact e
  ·have:=c1e b a (λ z=>e z.symm) h1;rw[this] at h2;cases h2
 ·have:=List.pairwise_mergeSort (le:=λ a b:Tk=>!ltT b a) (λ a b c h1 h2=>by
   have h1':ltT b a=false:=by simpa using h1
   have h2':ltT c b=false:=by simpa using h2
   simpa using d1e a b c h1' h2') (λ a b=>by
   cases h:ltT b a with
   | false=>rfl
   | true =>
    cases h':ltT a b with
    | false=>rfl
    | true =>
     have:=c8g a b a h' h;rw[c7h] at this;cases this) ts
  exact z1u (λ h=>by simpa using h) this
def b8c (ks:List Int) (b:Int):List Int:=ks.filter λ k=>b5p b (ks.idxOf k)
def c0e (ks:List Int) (ms:List Mkr) (en:Int->Int) (n t b:Int):Lk:=(b8c ks b).map λ k=>(k,d1i en n t (chF ms k))
def c1n (ks:List Int) (ms:List Mkr) (en:Int->Int) (d:Dw):Dl:=(d.num,d.wrd,(List.range d.tms.length).map λ j=>c0e ks ms en d.num (d.tms.getD j 0) (d.bts.getD j 0))
def c6i (ms:List Mkr) (c n key:Int):List Int:=if a0x c 1 / 4%12=0 then [-1] else 0::(chF ms key).filter λ m=>decide (m≠n)
def c6k (c:Int) (ch:List Int):List Int :=
 if 1 < ch.length then
  let j:=(1+a0x c 4%((ch.length:Int) - 1)).toNat
  let p:=(a0x c 5%(((ch.eraseIdx j).length:Int)+1)).toNat
  (ch.eraseIdx j).take p++ch.getD j 0::(ch.eraseIdx j).drop p
 else ch
def d9y (ms:List Mkr) (c n:Int) (l:Lk):Lk :=
 let q:=(a0x c 4%(l.length:Int)).toNat
 let o:=c6i ms c n (l.getD q (0,0)).1
 l.set q ((l.getD q (0,0)).1,o.getD (a0x c 5%(o.length:Int)).toNat 0)
def zD:Dl:=(0,"",[])
def a5o (st:List Dl×List Mkr) (c:Int):List Dl×List Mkr :=
 let i:=(a0x c 2%(st.1.length:Int)).toNat
 let d:=st.1.getD i zD
 if a0x c 1%4=0/\st.2≠[] then
  let k:=(a2s (st.2.map (·.1))).getD (a0x c 3%(st.2.length:Int)).toNat 0
  (st.1,b8k st.2 k (c6k c (chF st.2 k)))
 else
  let j:=(a0x c 3%(d.2.2.length:Int)).toNat
  if d.2.2≠[]/\d.2.2.getD j []≠[] then (st.1.set i (d.1,d.2.1,d.2.2.set j (d9y st.2 c d.1 (d.2.2.getD j []))),st.2) else st
def a3j (ds:List Dw):List Tk:=ds.map λ d=>(d.fin,d.num,d.mad)
def stF (cs:List Int):List Dl×List Mkr :=
 let ks:=b7y (b1u cs 1)
 let ts:=b5n (a3j (a0z cs))
 ((a0z cs).map (c1n ks (a1y ks ts) (d9j ts)),a1y ks ts)
def spF (st:List Dl×List Mkr) (c:Int):List Dl×List Mkr:=if c%6=0/\st.1≠[] then a5o st (c / 6) else st
def taS (cs:List Int):List Dl×List Mkr:=((cs.drop 10).take 20).foldl spF (stF cs)
def a1v (cs:List Int):Ps:=((taS cs).1,(a2s ((taS cs).2.map (·.1))).map λ k=>(k,chF (taS cs).2 k))
structure TaH (H:Hp) (D M:Addr) (st:List Dl×List Mkr) (fd fm:List Addr):Prop where
 deals:TF H (.ref D) (.list (st.1.map a4j)) fd
 makes:∃ kvs,MkH H M kvs st.2 fm
 nodup:(fd++fm).Nodup
 keys:(st.2.map (·.1)).Nodup
theorem MkH.same (s:Same H H') (h:MkH H M kvs ms f):MkH H' M kvs ms f:=⟨s _ _ h.dict,h.keys,h.vals.same s⟩
theorem MkH.len (h:MkH H M kvs ms f):kvs.length=ms.length:=by have:=z0b List.length h.keys;simpa using this
theorem TaH.same (s:Same H H') {st:List Dl×List Mkr} (h:TaH H D M st fd fm):TaH H' D M st fd fm:=⟨h.deals.same s,let ⟨kvs,m⟩:=h.makes;⟨kvs,m.same s⟩,h.nodup,h.keys⟩
theorem b9q (h:TF H v (a4j d) f):∃ p L lv fl,v=.ref p/\f=p::L::fl/\H p=some (.tup [.int d.1,.str d.2.1,.ref L])/\H L=some (.lst lv)/\TFs H lv (d.2.2.map a3x) fl:=by
 cases h with
 | tup h r =>
  cases r with
  | cons h1 r =>
   cases h1;cases r with
   | cons h2 r =>
    cases h2;cases r with
    | cons h3 r =>
     cases r;cases h3 with
     | lst h4 r4=>exact nx1 _ _ _ _ rfl (by simp) h h4 r4
theorem c2j (h1:H p=some (.tup [.int d.1,.str d.2.1,.ref L])) (h2:H L=some (.lst lv)) (h3:TFs H lv (d.2.2.map a3x) fl):TF H (.ref p) (a4j d) (p::L::fl):=by
 have:=TF.tup h1 (TFs.cons (.int d.1) (TFs.cons (.str d.2.1) (TFs.one (TF.lst h2 h3))));exact this
theorem b8j (h:TF H v (a3x l) f):∃ a pv fl,v=.ref a/\f=a::fl/\H a=some (.lst pv)/\TFs H pv (l.map b0a) fl:=by
 cases h with
 | lst h r=>exact nx4 _ _ _ rfl rfl h r
theorem c6z (h:TF H v (b0a p) f):∃ a,v=.ref a/\f=[a]/\H a=some (.tup [.int p.1,.int p.2]):=by
 cases h with
 | tup h r =>
  cases r with
  | cons h1 r =>
   cases h1;cases r with
   | cons h2 r =>
    cases h2;cases r;exact⟨_,rfl,rfl,h⟩
theorem c1l (h:H a=some (.tup [.int p.1,.int p.2])):TF H (.ref a) (b0a p) [a]:=TF.tup h (TFs.cons (f:=[]) (.int p.1) (TFs.cons (f:=[]) (.int p.2) .nil))
def SpG (st:List Dl×List Mkr):Prop:=st.1.length<=8/\st.2.length<=30/\(∀ m∈st.2,m.2.length<=30)/\(∀ d∈st.1,d.2.2.length<=3/\∀ l∈d.2.2,l.length<=3)
def c7w:Sp:=λ vs H Q _=>∃ (D M:Addr) (c:Int) (st:List Dl×List Mkr) (fd fm:List Addr),vs=[.ref D,.ref M,.int c]/\TaH H D M st fd fm/\st.1≠[]/\SpG st /\
 ∀ H' fd' fm',TaH H' D M (a5o st c) fd' fm'->(∀ b o,b ∉ fd++fm->H b=some o->H' b=some o)->(∀ b∈fd'++fm',b∈fd++fm\/H b=none)->Q .non H'
def e2c (K:W.Frag):Sp:=λ vs H Q _=>∃ (a:Addr) (cs:List Int),vs=[.ref a]/\SqL K H a (cs.map V.int)/\cs.length<=63 /\
 ∀ v f H',Same H H'->TF H' v (a4o (a1v cs)) f->f.Nodup->(∀ b∈f,H b=none)->Q v H'
theorem d4t (c:Int) (ch:List Int):(c6k c ch).length=ch.length:=by
 unfold c6k;split
 ·next h =>
  dsimp only;have c0:=z27 (a0x c 4) (show ((ch.length:Int) - 1)≠0 by lia);have c1:=z2b (a0x c 4) (show (0:Int) < (ch.length:Int) - 1 by lia);have hl:(ch.eraseIdx (1+a0x c 4%((ch.length:Int) - 1)).toNat).length=ch.length - 1:=z6h (by lia);rw[z0j,z17,z16,z0y];lia
 ·rfl
theorem b6m (h:∀ m∈ms,m.2.length<=n):(chF ms k).length<=n:=by
 by_cases km:k∈ms.map (·.1)
 ·exact h _ (z0c (a3s km))
 ·rw[a2x km];exact z0m _
theorem c3c (ms:List Mkr) (k:Int) (ch:List Int):(b8k ms k ch).length=ms.length:=by unfold b8k;rw[z3t]
theorem b8r {st:List Dl×List Mkr} (h:SpG st) (c:Int):SpG (a5o st c):=by
 obtain⟨h1,h2,h3,h4⟩:=h;unfold a5o;dsimp only;split
 ·refine⟨h1,by rw[c3c];exact h2,λ m hm=>?_,h4⟩;rcases b6x hm with z | z
  ·exact h3 m z
  ·rw[z];show (c6k c _).length<=30;rw[d4t];exact b6m h3
 ·split
  ·next e =>
   refine⟨by rw[z3t];exact h1,h2,h3,λ d hd=>?_⟩;rcases z3e hd with z | z
   ·exact h4 d z
   ·rw[z];dsimp only;by_cases hi:(a0x c 2%(st.1.length:Int)).toNat < st.1.length
    ·have hm:=z0c (a1z (d:=zD) hi);obtain⟨a1,a2⟩:=h4 _ hm;refine⟨by rw[z3t];exact a1,λ l hl=>?_⟩;rcases z3e hl with w | w
     ·exact a2 l w
     ·rw[w];unfold d9y;dsimp only;rw[z3t];by_cases hj:(a0x c 3%((st.1.getD (a0x c 2%(st.1.length:Int)).toNat zD).2.2.length:Int)).toNat < (st.1.getD (a0x c 2%(st.1.length:Int)).toNat zD).2.2.length
      ·exact a2 _ (z0c (a1z hj))
      ·rw[z2t,z2m (by lia)];exact z0m _
    ·have:st.1.getD (a0x c 2%(st.1.length:Int)).toNat zD=zD:=by rw[z2t,z2m (by lia)];rfl
     rw[this] at e;exact absurd rfl e.1
  ·exact⟨h1,h2,h3,h4⟩
theorem e1e {st:List Dl×List Mkr} (h:SpG st) (c:Int):SpG (spF st c):=by
 unfold spF;split
 ·exact b8r h _
 ·exact h
theorem d2n (h:ms.length<=B/\∀ m∈ms,m.2.length<=B):(c0w ms k n).length<=B+1/\∀ m∈c0w ms k n,m.2.length<=B+1:=by
 unfold c0w;split
 ·refine⟨by rw[c3c];lia,λ m hm=>?_⟩;rcases b6x hm with z | z
  ·have:=h.2 m z;lia
  ·rw[z];have:=b6m (k:=k) h.2;rw[z0j];show _+1<=_;lia
 ·refine⟨by rw[z0j];show _+1<=_;lia,λ m hm=>?_⟩;rcases z0f.mp hm with z | z
  ·have:=h.2 m z;lia
  ·rw[z0i.mp z];show 1<=_;lia
theorem b2d (h:ms.length<=B/\∀ m∈ms,m.2.length<=B):∀ i,(a5a ks n made ms i).length<=B+i/\∀ m∈a5a ks n made ms i,m.2.length<=B+i
 | 0=>h
 | i+1=>by
  have ih:=b2d (ks:=ks) (n:=n) (made:=made) h i;unfold a5a;split
  ·exact d2n ih
  ·exact⟨by lia,λ m hm=>by have:=ih.2 m hm;lia⟩
theorem a8v (hk:ks.length<=3) (ts:List Tk):∀ i,(a1y ks (ts.take i)).length<=3*i/\∀ m∈a1y ks (ts.take i),m.2.length<=3*i
 | 0=>⟨z05 _,λ m hm=>by cases hm⟩
 | i+1=>by
  have ih:=a8v hk ts i;cases e:ts[i]? with
  | none =>
   rw[z0v,e];simp only [Option.toList_none,z19];exact⟨by lia,λ m hm=>by have:=ih.2 m hm;lia⟩
  | some t =>
   have:a1y ks (ts.take (i+1))=a5a ks t.2.1 t.2.2 (a1y ks (ts.take i)) ks.length:=by
    unfold a1y;rw[z0v,e,z4j];rfl
   rw[this];have h:=b2d (ks:=ks) (n:=t.2.1) (made:=t.2.2) ih ks.length;exact⟨by lia,λ m hm=>by have:=h.2 m hm;lia⟩
theorem b0l {ts:List Tk} (e:ts[i]?=some t):a1y ks (ts.take (i+1))=a5a ks t.2.1 t.2.2 (a1y ks (ts.take i)) ks.length:=by
 unfold a1y;rw[z0v,e,z4j];rfl
theorem b6j:∀ {i:Nat} {m:Mkr},m∈a5a ks n made ms i->x∈m.2->x=n\/∃ m'∈ms,x∈m'.2
 | 0,m,h,hx=>.inr ⟨m,h,hx⟩
 | i+1,m,h,hx=>by
  unfold a5a at h;split at h
  ·rcases d3u h hx with z | ⟨m',z,w⟩
   ·exact .inl z
   ·exact b6j z w
  ·exact b6j h hx
theorem b6i {ts:List Tk}:∀ (i:Nat) {m:Mkr},m∈a1y ks (ts.take i)->x∈m.2->∃ t∈ts.take i,t.2.1=x
 | 0,m,h,hx=>by cases h
 | i+1,m,h,hx=>by
  cases e:ts[i]? with
  | none =>
   rw[z0v,e] at h ⊢;simp only [Option.toList_none,z19] at h ⊢;exact b6i i h hx
  | some t =>
   rw[b0l e] at h;have tk:ts.take (i+1)=ts.take i++[t]:=by rw[z0v,e];rfl
   rw[tk];rcases b6j h hx with z | ⟨m',z,w⟩
   ·exact⟨t,by simp,z.symm⟩
   ·obtain⟨t',a,b⟩:=b6i i z w;exact⟨t',z1x _ a,b⟩
theorem c2p (h:dwO cs j=some d):d.num=1+(j:Int)/\d.tms.length<=3/\d.bts.length=3/\d.wrd∈wds:=by
 unfold dwO at h;split at h
 ·cases h;refine⟨rfl,?_,rfl,?_⟩
  ·show (a9h _ _).length<=3;rw[c8a];have:=z2b (a0x (b1u cs (1+(1+(j:Int)))+7919*(1+(j:Int))) 3) (show (0:Int) < 4 by decide);lia
  ·show wdF _∈wds;unfold wdF;generalize a0x _ 1=x;have h0:=z27 x (show (5:Int)≠0 by decide);have h1:=z2b x (show (0:Int) < 5 by decide);exact z0c (a1z (show (x%5).toNat < wds.length by show _ < 5;lia))
 ·cases h
theorem a7b (cs:List Int):((a0z cs).map (·.num)).Pairwise (· < ·):=by
 unfold a0z;rw[z26];refine List.Pairwise.filterMap (R:=λ a b:Nat=>a < b) _ (λ a b hab c hc d hd=>?_) z6n;rw[(c2p hc).1,(c2p hd).1];lia
theorem a9p (h:d∈a0z cs):(∃ j:Nat,j < 8/\d.num=1+(j:Int))/\d.tms.length<=3/\d.bts.length=3/\d.wrd∈wds:=by
 unfold a0z at h;obtain⟨j,hj,e⟩:=z5w.mp h;obtain⟨a,b,c,f⟩:=c2p e;exact⟨⟨j,z41.mp hj,a⟩,b,c,f⟩
theorem a8t (cs:List Int):(a0z cs).length<=8:=by
 have:=z6u (dwO cs) (List.range 8);rwa [z1m] at this
theorem b9u (c:Int):(b7y c).length<=3:=by
 unfold b7y;rw[(a1b _).length_eq];refine z0s (d1b _) ?_;rw[z04,z1m];have:=b1s c 1;lia
theorem c4n (cs:List Int):SpG (stF cs):=by
 unfold stF;dsimp only;have hk:=b9u (b1u cs 1);have hl:(b5n (a3j (a0z cs))).length<=8:=by
  unfold b5n a3j;rw[List.length_mergeSort,z04];exact a8t cs
 have hm:=a8v hk (b5n (a3j (a0z cs))) (b5n (a3j (a0z cs))).length;rw[z0x] at hm;refine⟨by rw[z04];exact a8t cs,z0s hm.1 (by lia),λ m h=>by have:=hm.2 m h;lia,λ d hd=>?_⟩;obtain⟨dw,hdw,rfl⟩:=z0d.mp hd;unfold c1n;dsimp only;obtain⟨_,t3,_,_⟩:=a9p hdw;refine⟨by rw[z04,z1m];exact t3,λ l hl=>?_⟩;obtain⟨j,_,rfl⟩:=z0d.mp hl;unfold c0e b8c;rw[z04];exact z0s (z4b _ _) hk
def dDw (d:Dw):PyData:=.tuple [.int d.num,.str d.wrd,.int d.fin,.list (d.tms.map PyData.int),.list (d.bts.map PyData.int),.int d.mad]
theorem e4s (h:DwV p0 H v d):Tr H v (dDw d):=by
 obtain⟨p,t,b,rfl,_,_,h1,h2,h3⟩:=h;exact .tup h1 (.cons (.int _) (.cons (.str _) (.cons (.int _) (.cons (.lst h2 (Trs.ofInts _)) (.cons (.lst h3 (Trs.ofInts _)) (.cons (.int _) .nil))))))
theorem c7b:∀ {vs:List V} {ds:List Dw},Paired (DwV p0 H) vs ds->Trs H vs (ds.map dDw)
 | _,_,.nil=>.nil
 | _,_,.cons h r=>.cons (e4s h) (c7b r)
theorem c6n (h:Tr H v (dDw d)):∃ p t b,v=.ref p/\H p=some (.tup [.int d.num,.str d.wrd,.int d.fin,.ref t,.ref b,.int d.mad])/\H t=some (.lst (d.tms.map V.int))/\H b=some (.lst (d.bts.map V.int)):=by
 cases h with
 | tup h r =>
  cases r with
  | cons h1 r =>
   cases h1;cases r with
   | cons h2 r =>
    cases h2;cases r with
    | cons h3 r =>
     cases h3;cases r with
     | cons h4 r =>
      cases h4 with
      | lst a4 b4 =>
       cases r with
       | cons h5 r =>
        cases h5 with
        | lst a5 b5 =>
         cases r with
         | cons h6 r =>
          cases h6;cases r;rw[Trs.ints b4] at a4;rw[Trs.ints b5] at a5;exact nx4 _ _ _ rfl h a4 a5
def dTk (t:Tk):PyData:=.tuple [.int t.1,.int t.2.1,.int t.2.2]
theorem d6j (h:Tr H v (dTk t)):TrV H v t:=by
 cases h with
 | tup h r =>
  cases r with
  | cons h1 r =>
   cases h1;cases r with
   | cons h2 r =>
    cases h2;cases r with
    | cons h3 r =>
     cases h3;cases r;exact⟨_,rfl,h⟩
theorem b9z:∀ {vs:List V} {ts:List Tk},Trs H vs (ts.map dTk)->Paired (TrV H) vs ts
 | _,[],.nil=>.nil
 | _,_::_,.cons h r=>.cons (d6j h) (b9z r)
theorem d1d:∀ {vs:List V} {ms:List Mkr} {f:List Addr},TFs H vs (ms.map dCh) f->vs=f.map V.ref
 | _,[],_,.nil=>rfl
 | _,m::r,_,.cons h t=>by
  cases h with
  | lst a b =>
   obtain⟨_,rfl⟩:=TFs.ints_of b;rw[d1d t];rfl
section
variable {P:Program} {w:World} {K:W.Frag} {mg:Str->Option Value} {base:Heap}
theorem a5l (T:Tx K mg):T.a4d.Ok P w base 1 (d7h K):=by
 refine okF T.a4d.F c6b λ _ _ _ _ _ _ _ _ _ h=>?_
 ·obtain⟨a,cs,k,rfl,ha,hk,q⟩:=h;refine⟨_,(a0e (a2b (a0j c8o (pv 1) (a0q a1f (by rfl) T.a3o z1a (a0a (pv 0) a0d)) (a0n _))
   (a0f (a0k (pix a0l (pv 0) (pv 1))))
   a0u)
   (a0f (a0k a0c))),?_⟩
  show let z0:TS:=_;a1h (a5p _ _ _) z0 _ _ _
  intros;refine nx22 _ rfl _ rfl _ (nx13 _ rfl (.inl ⟨_,ha,rfl⟩) _ (nx6 _ rfl rfl _ rfl (a4n (λ e=>?_) (λ e=>?_))))
  ·have e1:k < ((cs.map V.int).length:Int):=z0h e;rw[z04] at e1;have hv:(cs.map V.int)[k.toNat]?=some (.int (b1u cs k)):=by
    unfold b1u;rw[z09,z0o (show k.toNat < cs.length by lia)];rfl
   have:=a0m hv;rw[Int.toNat_of_nonneg hk] at this;exact nx18 _ rfl _ rfl a _ _ _ rfl rfl ha this q
  ·have e1:¬ k < ((cs.map V.int).length:Int):=λ z=>e (z08 z)
   rw[z04] at e1;have:b1u cs k=0:=by
    unfold b1u;rw[z2m (by lia)];rfl
   rw[this] at q;exact q
theorem b3f (T:Tx K mg):T.a8u.Ok P w base 1 d9k:=by
 refine okF T.a8u.F c8w λ _ _ _ _ _ _ _ _ _ h=>?_
 ·obtain⟨z,rfl,q⟩:=h;refine⟨_,(a0f (a0k (b2z (a0q a7i (by rfl) T.a1x z5d (a0a (pv 0) (a0a (b0v (v:=V.ty "int") rfl T.d8v boot_int rfl) a0d))) (c3m (e0m (a0q a7i (by rfl) T.a1x z5d (a0a (pv 0) (a0a (b0v (v:=V.ty "bool") rfl T.c9u boot_bool rfl) a0d)))))))),?_⟩;refine nx29 _ rfl _ _ _ _ rfl (b7a.int _) e2j ⟨_,rfl,b4g ?_⟩;exact nx29 _ rfl _ _ _ _ rfl (b7a.int _) e2k ⟨_,rfl,q⟩
theorem a9w (T:Tx K mg):T.a6u.Ok P w base 1 d2g:=by
 refine okF T.a6u.F a5k λ _ _ _ _ H _ _ _ hr h=>?_
 ·obtain⟨c,m,rfl,hm,q⟩:=h;have hu:=a2z hr;refine⟨_,(a0e (psx 2 a5k.nd (a1d a0d))
   (a0e (psx 3 a5k.nd (a0p a1l (pv 0) a0c))
   (a0e (a1w z18 rfl (a2m rfl T.a3f (a0a (pv 1) a0d)) (pgm 4 a5k.nd)
   (a0e (psx 3 a5k.nd (a0p a1l (a0p a3v (a0p a3v (a0p b5l (pv 3) a0c) a0c) (pv 4)) a0c))
   (a0f (a1u (a4q z1h z51 z4z a3z (pv 2) (a0a (pv 3) a0d))))))
   (a0f (a0k (pv 2)))))),?_⟩
  show let z0:TS:=_;let z1:TS:=_;let z2:TS:=a1h _ z1;let z3:TS:=a1h (b0o _ _ z2) z0;let z4:TS:=a1h _ z3;a1h _ z4 _ _ _
  intros;refine⟨(by show 0<=sizeLine;decide),λ p hp=>?_⟩;have s0:=Same.upd (o:=HO.lst []) hp;refine nx7 _ rfl _ _ rfl rfl ⟨(by show (0:Int) < _;decide),?_⟩;refine nx3 _ rfl _ rfl ⟨by lia,by lia,?_⟩;rw[z25];refine a4c (λ i σ H3=>∃ x4:Option V,σ=[some (.int c),some (.int m),some (.ref p),some (.int (a0x c i)),x4]/\Same H H3/\H3 p=some (.lst ((a3h c i).map V.int))) ⟨none,rfl,s0,a0b⟩ ?_ ?_
  ·rintro i σ H3 hi ⟨x4,rfl,s3,hp3⟩;refine nx7 _ rfl _ _ rfl rfl ⟨.inr ⟨by decide,by decide⟩,nx0 _ _ rfl rfl (nx7 _ rfl _ _ rfl rfl (nx8 _ _ rfl rfl (by show (0:Int) < _;decide) ?_))⟩;rw[z38];refine nx6 _ rfl (Or.inl ⟨rfl,_,SqL.of hp3⟩) _ rfl (nx17 p _ _ rfl rfl hp3 (by rw[z04,c5t];have:sizeLine=2 ^ 24:=rfl;lia) λ H5 h5 k5=>?_);refine⟨_,rfl,λ b o e=>k5 b o (λ z=>by rw[z,hp] at e;cases e) (s3 _ _ e),?_⟩;rw[c1i];exact h5
  ·rintro σ H3 ⟨x4,rfl,s3,hp3⟩;exact⟨_,rfl,q p H3 hp s3 hp3⟩
theorem d4l (T:Tx K mg):T.c2k.Ok P w base 2 (d8q K):=by
 refine okF T.c2k.F a6z λ _ _ _ _ H _ _ _ hr h=>?_
 ·obtain⟨c,rfl,q⟩:=h;have hu:=a2z hr;refine⟨_,(a0e (psx 1 a6z.nd (pcF T.a6u (a9w T) hr (a0a (pv 0) (a0a a0c a0d))))
   (a0e (psx 2 a6z.nd (a1d a0d))
   (a0e (a1w z18 rfl (a2m rfl T.a3f (a0a (a0p a1l (pix a0l (pv 1) a0c) a0c) a0d)) (pgm 3 a6z.nd)
   (a0e (psx 4 a6z.nd (a0p a6c (a0p a1l (a0p a8c (pix a0l (pv 1) (a0p a3v a0c (pv 3))) a0c) a0c) a0c))
   (b0d (a2b (a0j a4f (a0p a1l (pix a0l (pv 1) (a0p a3v a0c (pv 3))) a0c) a0c (a0n _))
   (a0f (psx 4 a6z.nd (a0p a6c (a0p a1l (a0p b5l (a0p c9n (pix a0l (pv 1) (a0p a3v a0c (pv 3))) a0c) a0c) (a0p a6c (a0p b5l a0c (a0p c9n a0c a0c)) a0c)) (a0p a6c (a0p c9n a0c a0c) a0c))))
   a0u)
   (a0f (a1u (a4q z1h z51 z4z a3z (pv 2) (a0a (pv 4) a0d)))))))
   (a0f (a0k (c5a (K:=K) rfl rfl rfl T.a5s rfl T.d6x (a0a (pv 2) a0d))))))),?_⟩
  show let z0:TS:=_;let z1:TS:=_;let z2:TS:=d8b (a5p _ _ _) z1;let z3:TS:=a1h _ z2;let z4:TS:=a1h (b0o _ _ z3) z0;let z5:TS:=a1h _ z4;a1h _ z5 _ _ _
  intros;refine nx7 _ rfl c 4 rfl (by decide) λ xs H1 hxs s1 h1=>?_;refine⟨(by show 0<=sizeLine;decide),λ p hp=>?_⟩;have s2:=Same.upd (o:=HO.lst []) hp;have r1:=b1s c 1;refine nx5 _ rfl xs _ _ _ rfl rfl (SqL.of (s2 _ _ h1)) (a0w c 4 0 (by decide) 0 rfl) (nx15 _ _ rfl rfl (by show (0:Int) < _;decide) _ ⟨rfl,by lia,by lia,?_⟩);have hn:(a0x c 1%4).toNat<=3:=by lia
  have sx:xs≠p:=λ z=>by rw[<-z,h1] at hp;cases hp
  refine a4c (λ i σ H3=>∃ x3 x4:Option V,σ=[some (.int c),some (.ref xs),some (.ref p),x3,x4]/\Same H H3/\H3 xs=some (.lst ((a3h c 4).map V.int))/\H3 p=some (.lst (((List.range i).map λ j=>e2y (a0x c (j+2))).map V.int))) (nx8 none none rfl (s1.trans s2) (s2 _ _ h1) a0b) ?_ ?_
  ·rintro i σ H3 hi ⟨x3,x4,rfl,s3,hx3,hp3⟩;have at1:=a0w c 4 (i+1) (by lia) (1+(0+(i:Int))) (by lia);have rx:=b1s c (i+2);refine nx3 _ rfl _ rfl (nx0 _ _ rfl rfl (nx1 xs _ _ _ rfl rfl (SqL.of hx3) at1 (nx8 _ _ rfl rfl ⟨by decide,by decide⟩ (nx8 _ _ rfl rfl (by show (0:Int) < _;decide) (nx0 _ _ rfl rfl ?_)))));refine⟨λ σ H4=>σ=[some (.int c),some (.ref xs),some (.ref p),some (.int (0+(i:Int))),some (.int (e2y (a0x c (i+2))))]/\H4=H3,?_,?_⟩
   ·refine nx3 _ rfl _ rfl (nx0 _ _ rfl rfl (nx1 xs _ _ _ rfl rfl (SqL.of hx3) at1 (nx20 _ _ rfl rfl (by show (0:Int) < _;decide) rfl _ rfl (a4n (λ e=>?_) (λ e=>?_)))))
    ·have e1:a0x c (i+2)%3=0:=by
      have:=z0h e;injection this
     refine nx3 _ rfl _ rfl (nx0 _ _ rfl rfl (nx1 xs _ _ _ rfl rfl (SqL.of hx3) at1 (nx8 _ _ rfl rfl ⟨by decide,by decide,?_⟩ (nx8 _ _ rfl rfl (.inr ⟨by decide,by decide⟩) (nx8 _ _ rfl rfl ⟨by decide,by decide,by decide⟩ (nx8 _ _ rfl rfl (.inl ⟨by decide,by decide⟩) (nx0 _ _ rfl rfl (nx8 _ _ rfl rfl (by show (0:Int) < _;decide) (nx8 _ _ rfl rfl ⟨by decide,by decide,by decide⟩ (nx0 _ _ rfl rfl (nx8 _ _ rfl rfl ?_ rfl)))))))))))
     ·show (a0x c (i+2)).natAbs < 2 ^ 64;lia
     ·unfold e2y;rw[z02 e1];rfl
    ·have e1:¬ a0x c (i+2)%3=0:=λ z=>e (z08 (show V.int (a0x c (i+2)%3)=V.int 0 by rw[z]))
     refine⟨?_,rfl⟩;unfold e2y;rw[z01 e1];rfl
   ·rintro σ H4 ⟨rfl,rfl⟩;refine nx6 _ rfl (Or.inl ⟨rfl,_,SqL.of hp3⟩) _ rfl (nx17 p _ _ rfl rfl hp3 (by rw[z04,z04,z1m];have:sizeLine=2 ^ 24:=rfl;lia) λ H5 h5 k5=>?_);refine nx8 _ _ rfl (λ b o e=>k5 b o (λ z=>by rw[z,s1.free hp] at e;cases e) (s3 _ _ e)) (k5 _ _ sx hx3) ?_;rw[z28,z0z,z0z];exact h5
  ·rintro σ H3 ⟨x3,x4,rfl,s3,hx3,hp3⟩;refine nx7 _ rfl p _ rfl (SqL.of hp3) ⟨(by rw[z04,z1m];lia),?_,λ nl hnl=>?_⟩
   ·refine z4n (d1b _) ?_;rw[z04,z1m];lia
   ·exact q nl _ (s3.free hnl) (s3.trans (Same.upd hnl)) a0b
theorem c8k (T:Tx K mg):T.b6h.Ok P w base 1 (d9v K):=by
 refine okF T.b6h.F b8n λ _ _ _ _ _ _ _ _ hr h=>?_
 ·obtain⟨a,c,e,rfl,ha,q⟩:=h;have hu:=a2z hr;refine⟨_,(a0e (psx 2 b8n.nd (a0p a1l (pix a0l (pv 0) a0c) a0c))
   (a0e (a2b (a0j a4f (a0p a1l (pix a0l (pv 0) a0c) a0c) a0c (a0n _))
   (a0f (a0k (a0p d5h (a1d (a0a (pv 1) a0d)) (pv 2))))
   a0u)
   (a0e (a2b (a0j a4f (a0p a1l (pix a0l (pv 0) a0c) a0c) a0c (a0n _))
   (a0f (a0k (a0p d5h (a1d (a0a (a0p a6c (pv 1) (a0p a1l (pix a0l (pv 0) a0c) a0c)) a0d)) (pv 2))))
   a0u)
   (a0e (a2b (a0j a4f (a0p a1l (pix a0l (pv 0) a0c) a0c) a0c (a0n _))
   (a0f (a0k (pcf ["_law_j"] ["_law_xs","_law_end","_law_many_here"] [0,1,2] (a2m rfl T.a3f (a0a (pv 2) a0d)) (pgn 0) a3w (a0p a6c (pv 2) (a0p b5l (a0p a6c (pv 3) (pv 0)) (a0p a1l (pix (a8y (K:=K) rfl) (pv 1) a0c) a0c))))))
   a0u)
   (a0f (a0k (pcf ["_law_j"] ["_law_xs"] [0] (a2m rfl T.a3f (a0a (pv 2) a0d)) (pgn 0) a3w (a0p a1l (a0p a8c (pix (a8y (K:=K) rfl) (pv 1) (a0p a3v a0c (pv 0))) a0c) a0c)))))))),?_⟩
  show let z0:TS:=_;let z1:TS:=a1h (a5p _ _ _) z0;let z2:TS:=a1h (a5p _ _ _) z1;let z3:TS:=a1h (a5p _ _ _) z2;a1h _ z3 _ _ _
  intros;have r3:=b1s c 3;have at2:=a0w c 10 2 (by decide) 2 rfl;have at3:=a0w c 10 3 (by decide) 3 rfl;have at7:=a0w c 10 7 (by decide) 7 rfl;refine nx24 _ rfl a _ _ _ rfl rfl ha at2 _ _ rfl rfl ⟨(by show (0:Int) < _;decide),?_⟩;refine nx5 _ rfl a _ _ _ rfl rfl ha at3 (nx20 _ _ rfl rfl (by show (0:Int) < _;decide) rfl _ rfl (a4n (λ e0=>?_) (λ e0=>?_)))
  ·have e1:a0x c 4%4=0:=by
    have:=z0h e0;injection this
   refine⟨_,rfl,(by show 1<=sizeLine;decide),λ l hl=> nx11 _ rfl l (nx27 _ _ rfl rfl a0b (by lia) (by lia) ⟨?_,λ p hp=>?_⟩)⟩
   ·show 1*(a0x c 3%4).toNat<=sizeLine;have:sizeLine=2 ^ 24:=rfl;lia
   ·have s1:=Same.upd (o:=HO.lst [V.int e]) hl;refine q p _ (s1.free hp) (s1.trans (Same.upd hp)) ?_;rw[a0b,b7l];unfold a9h;rw[z02 e1,List.map_replicate]
  have n0:¬ a0x c 4%4=0:=λ z=>e0 (z08 (show V.int (a0x c 4%4)=V.int 0 by rw[z]))
  refine nx5 _ rfl a _ _ _ rfl rfl ha at3 (nx20 _ _ rfl rfl (by show (0:Int) < _;decide) rfl _ rfl (a4n (λ e1=>?_) (λ e1=>?_)))
  ·have e2:a0x c 4%4=1:=by
    have:=z0h e1;injection this
   refine nx18 _ rfl _ rfl a _ _ _ rfl rfl ha at7 (nx8 _ _ rfl rfl (by show (0:Int) < _;decide) (nx8 _ _ rfl rfl (by show 1<=sizeLine;decide) λ l hl=> nx11 _ rfl l (nx27 _ _ rfl rfl a0b (by lia) (by lia) ⟨?_,λ p hp=>?_⟩)))
   ·show 1*(a0x c 3%4).toNat<=sizeLine;have:sizeLine=2 ^ 24:=rfl;lia
   ·have s1:=Same.upd (o:=HO.lst [V.int (e - a0x c (7+1)%400)]) hl;refine q p _ (s1.free hp) (s1.trans (Same.upd hp)) ?_;rw[a0b,b7l];unfold a9h;rw[z01 n0,z02 e2,List.map_replicate]
  have n1:¬ a0x c 4%4=1:=λ z=>e1 (z08 (show V.int (a0x c 4%4)=V.int 1 by rw[z]))
  refine nx5 _ rfl a _ _ _ rfl rfl ha at3 (nx20 _ _ rfl rfl (by show (0:Int) < _;decide) rfl _ rfl (a4n (λ e2=>?_) (λ e2=>?_)))
  ·have e3:a0x c 4%4=2:=by
    have:=z0h e2;injection this
   refine nx3 _ rfl _ rfl ⟨by lia,by lia,a9y (k:=1) (fs:=[some (.ref a),some (.int e),some (.int (a0x c 3%4))]) (a0x c 3%4).toNat (λ j=>some (.int (e - (a0x c 3%4 - (0+(j:Int)))*(a0x c 8%150)))) rfl (by have:sizeLine=2 ^ 24:=rfl;lia) (λ j H3 _ hj=>hj) (λ H3 _=>z05 _) ?_ ?_⟩
   ·rintro j H4 ts v H5 R ss hj hts ⟨rfl,rfl⟩ cb;obtain⟨t,rfl⟩:=z1g.mp hts;exact nx3 _ rfl _ rfl (nx7 _ rfl _ _ rfl rfl (nx24 _ rfl a _ _ _ rfl rfl (ss.seq ha) at7 _ _ rfl rfl ⟨(by show (0:Int) < _;decide),nx8 _ _ rfl rfl (.inl ⟨by lia,by lia⟩) (nx0 _ _ rfl rfl (cb [_] _ rfl (Same.refl _)))⟩))
   ·intro D H2 hD s2 h2;refine q D H2 hD s2 ?_;rw[h2,a4u];unfold a9h;rw[z01 n0,z01 n1,z02 e3,z15];refine z0b (λ x=>some (HO.lst x)) (List.map_congr_left λ j _=>?_);show V.int _=V.int _;rw[z38]
  have n2:¬ a0x c 4%4=2:=λ z=>e2 (z08 (show V.int (a0x c 4%4)=V.int 2 by rw[z]))
  refine nx3 _ rfl _ rfl ⟨by lia,by lia,a9y (k:=1) (fs:=[some (.ref a)]) (a0x c 3%4).toNat (λ j=>some (.int (a0x c (4+j+1) / 8%1300))) rfl (by have:sizeLine=2 ^ 24:=rfl;lia) (λ j H3 _ hj=>hj) (λ H3 _=>z05 _) ?_ ?_⟩
  ·rintro j H4 ts v H5 R ss hj hts ⟨rfl,rfl⟩ cb;obtain⟨t,rfl⟩:=z1g.mp hts;exact nx3 _ rfl _ rfl (nx0 _ _ rfl rfl (nx1 a _ _ _ rfl rfl (ss.seq ha) (a0w c 10 (4+j) (by lia) _ (by lia)) (nx8 _ _ rfl rfl ⟨by decide,by decide⟩ (nx8 _ _ rfl rfl (by show (0:Int) < _;decide) (cb [_] _ rfl (Same.refl _))))))
  ·intro D H2 hD s2 h2;refine q D H2 hD s2 ?_;rw[h2,a4u];unfold a9h;rw[z01 n0,z01 n1,z01 n2,z15];refine z0b (λ x=>some (HO.lst x)) (List.map_congr_left λ j _=>?_);show V.int _=V.int _;rw[show 4+j+1=j+5 by lia]
theorem d0q (T:Tx K mg):T.b7h.Ok P w base 2 (d8e K):=by
 refine okF T.b7h.F a5h λ _ _ _ _ H _ _ _ hr h=>?_
 ·obtain⟨a,cs,rfl,ha,q⟩:=h;have hu:=a2z hr;refine⟨_,(a0e (psx 1 a5h.nd (a1d a0d))
   (a0e (a1w z18 rfl (c7y rfl T.a3f (a0a a0c (a0a a0c a0d))) (pgm 2 a5h.nd)
   (a0f (a2b (a0j a4f (a0p c7p (a0p c8h (a0p a1l (pcF T.a4d (a5l T) hr (a0a (pv 0) (a0a a0c a0d))) a0c) (a0p a6c (pv 2) a0c)) a0c) a0c (a0n _))
   (a0e (psx 3 a5h.nd (pcF T.a6u (a9w T) hr (a0a (a0p a3v (pcF T.a4d (a5l T) hr (a0a (pv 0) (a0a (a0p a3v a0c (pv 2)) a0d))) (a0p b5l a0c (pv 2))) (a0a a0c a0d))))
   (a0e (psx 4 a5h.nd (a0p a3v (a0p b5l a0c (a0p a1l (pix a0l (pv 3) a0c) a0c)) (pv 2)))
   (a0e (psx 5 a5h.nd (pix a0l (a1d (a0a a1s (a0a a1s (a0a a1s (a0a a1s (a0a a1s a0d)))))) (a0p a1l (pix a0l (pv 3) a0c) a0c)))
   (a0f (a1u (a4q z1h z51 z4z a3z (pv 1) (a0a (a1j (a0a (pv 2) (a0a (pv 5) (a0a (pv 4) (a0a (pcF T.b6h (c8k T) hr (a0a (pv 3) (a0a (pv 4) a0d))) (a0a (a1d (a0a (pix a0l (pv 3) a0c) (a0a (pix a0l (pv 3) a0c) (a0a (pix a0l (pv 3) a0c) a0d)))) (a0a (pix a0l (pv 3) a0c) a0d))))))) a0d)))))))
   a0u)))
   (a0f (a0k (pv 1))))),?_⟩
  show let z0:TS:=_;let z1:TS:=_;let z2:TS:=a1h _ z1;let z3:TS:=a1h _ z2;let z4:TS:=a1h _ z3;let z5:TS:=a1h (b0o _ _ (a5p _ z4 _)) z0;a1h _ z5 _ _ _
  intros;refine⟨(by show 0<=sizeLine;decide),λ p hp=>?_⟩;have s0:=Same.upd (o:=HO.lst []) hp;refine nx0 1 9 rfl ⟨by decide,by decide,by decide,by decide⟩ ?_;refine a4c (λ i σ H3=>∃ (x2 x3 x4 x5:Option V) (dv:List V),σ=[some (.ref a),some (.ref p),x2,x3,x4,x5]/\Same H H3/\H3 p=some (.lst dv)/\Paired (DwV p H3) dv ((List.range i).filterMap (dwO cs))) (nx25 none none none none ([]) rfl s0 ⟨a0b,.nil⟩) ?_ ?_
  ·rintro i σ H3 hi ⟨x2,x3,x4,x5,dv,rfl,s3,hp3,d3⟩;have hi8:i < 8:=hi;have ha3:=s3.seq ha;have lv:dv.length<=i:=by
    have h1:=a1c d3;have h2:=z6u (dwO cs) (List.range i);rw[z1m] at h2;lia
   have e0:(1+(i:Int) - 1).toNat=i:=by lia
   have snoc:(List.range (i+1)).filterMap (dwO cs)=(List.range i).filterMap (dwO cs)++(dwO cs i).toList:=by
    rw[z28,z2l];show _++List.filterMap (dwO cs) [i]=_;rw[z1o];cases dwO cs i<;>rfl
   refine nx11 _ rfl a (nx8 cs 0 rfl ha3 (by decide) (nx8 _ _ rfl rfl (by show (0:Int) < _;decide) (nx7 _ rfl _ _ rfl rfl (nx8 _ _ rfl rfl (by show (0:Int)<=1+(i:Int) - 1;lia) (nx15 _ _ rfl rfl rfl _ ⟨rfl,a4n (λ e=>?_) (λ e=>?_)⟩)))))
   ·have eb:b5p (b1u cs 0%256) i=true:=by
     have h1:=z0h e;rw[e0] at h1;unfold b5p;exact z08 (V.int.inj h1)
    refine nx22 _ rfl _ rfl _ (nx13 _ rfl rfl a (nx8 cs _ rfl ha3 (by lia) (nx7 _ rfl _ _ rfl rfl ⟨.inl ⟨by decide,by decide⟩,nx0 _ _ rfl rfl (nx0 _ 10 rfl (by decide) λ xs H4 hxs s4 h4=>?_)⟩)));generalize hc:b1u cs (1+(1+(i:Int)))+7919*(1+(i:Int))=c at h4;have ed:dwO cs i=some (dwF c (1+(i:Int))):=by unfold dwO;rw[z02 eb,hc]
    refine nx24 _ rfl xs _ _ _ rfl rfl (SqL.of h4) (a0w c 10 1 (by decide) 1 rfl) _ _ rfl rfl ⟨(by show (0:Int) < _;decide),nx8 _ _ rfl rfl (.inl ⟨by decide,by decide⟩) (nx7 _ rfl _ _ rfl rfl ?_)⟩;refine⟨(by show 5<=sizeLine;decide),λ wl hwl=> nx24 _ rfl xs _ _ _ rfl rfl (SqL.of (Same.upd hwl _ _ h4)) (a0w c 10 0 (by decide) 0 rfl) _ _ rfl rfl ⟨(by show (0:Int) < _;decide),nx1 wl _ _ _ rfl rfl (SqL.of a0b) (e4n (a0x c 1)) ?_⟩⟩;have s5:=Same.upd (o:=HO.lst [V.str "loose",V.str "kept",V.str "make",V.str "watch",V.str "hold"]) hwl;have s35:=s4.trans s5;have hx5:=s5 _ _ h4;generalize upd H4 wl (.lst [V.str "loose",V.str "kept",V.str "make",V.str "watch",V.str "hold"])=H5 at s35 hx5;refine nx6 _ rfl (Or.inl ⟨rfl,_,SqL.of (s35 _ _ hp3)⟩) _ rfl (nx3 _ rfl _ rfl (nx3 _ rfl _ rfl (nx21 xs c _ rfl (SqL.of hx5) λ t H6 ht s6 h6=>?_)));have hx6:=s6 _ _ hx5;refine nx26 _ rfl xs _ _ _ rfl rfl (SqL.of hx6) (a0w c 10 4 (by decide) 4 rfl) _ rfl xs _ _ _ rfl rfl (SqL.of hx6) (a0w c 10 5 (by decide) 5 rfl) (nx36 _ rfl xs _ _ _ rfl rfl (SqL.of hx6) (a0w c 10 6 (by decide) 6 rfl) (by show 3<=sizeLine;decide) λ b hb=>?_);have s7:=Same.upd (o:=HO.lst [V.int (a0x c 5),V.int (a0x c 6),V.int (a0x c 7)]) hb;refine nx36 _ rfl xs _ _ _ rfl rfl (SqL.of (s7 _ _ hx6)) (a0w c 10 8 (by decide) 8 rfl) (by show 6<=sizeLine;decide) λ tp htp=>?_;have s8:=Same.upd (o:=HO.tup [.int (1+(i:Int)),.str (wdF (a0x c 1)),.int (100*(a0x c 2%12)+(1+(i:Int))),.ref t,.ref b,.int (a0x c 9)]) htp;have S:=s35.trans (s6.trans (s7.trans s8));have hpS:=S _ _ hp3;refine nx17 p dv (.ref tp) rfl rfl hpS (by have:sizeLine=2 ^ 24:=rfl;lia) λ H9 h9 k9=>?_;have tpp:tp≠p:=λ z=>by rw[z,s7 _ _ (s6 _ _ (s35 _ _ hp3))] at htp;cases htp
    have tp':t≠p:=λ z=>by rw[z,s35 _ _ hp3] at ht;cases ht
    have bp:b≠p:=λ z=>by rw[z,s6 _ _ (s35 _ _ hp3)] at hb;cases hb
    have kn:∀ x o,x≠p->H3 x=some o->H9 x=some o:=λ x o n e=>k9 x o n (S _ _ e)
    refine nx25 _ _ _ _ (dv++[.ref tp]) rfl (λ x o e=>kn x o (λ z=>by rw[z,hp] at e;cases e) (s3 _ _ e)) ⟨h9,?_⟩;rw[snoc,ed];refine a0r (Paired.mapP d3 λ v d' ⟨p',t',b',e1,n1,n2,e2,e3,e4⟩=> nx17 p' t' b' e1 n1 n2 (kn _ _ (λ z=>by rw[z,hp3] at e2;cases e2) e2) ⟨kn _ _ n1 e3,kn _ _ n2 e4⟩) (.cons (nx17 tp t b rfl tp' bp (k9 _ _ tpp a0b) ⟨k9 _ _ tp' (s8 _ _ (s7 _ _ h6)),k9 _ _ bp (s8 _ _ a0b)⟩) .nil)
   ·have eb:¬ b5p (b1u cs 0%256) i=true:=λ z=>e (by
     unfold b5p at z;rw[e0];exact z08 (z0b V.int (z0h z)))
    have ed:dwO cs i=none:=by unfold dwO;rw[z01 eb]
    refine nx25 _ _ _ _ dv rfl s3 ⟨hp3,?_⟩;rw[snoc,ed];simpa using d3
  ·rintro σ H3 ⟨x2,x3,x4,x5,dv,rfl,s3,hp3,d3⟩;exact⟨_,rfl,q p dv H3 hp s3 hp3 d3⟩
--@STAGE
theorem b6y (en:Int->Int) (n t:Int) (l:List Int) (m:Int):d1i en n t (l++[m])=if m≠n/\en m < t then m else d1i en n t l:=by
 unfold d1i;rw[z4j];rfl
theorem c5p (T:Tx K mg):T.b3d.Ok P w base 1 d4d:=by
 refine okF T.b3d.F a7l λ _ A _ _ H _ _ _ hr h=>?_
 ·obtain⟨a,e,kvs,ms,en,n,t,rfl,ha,he,hv,q⟩:=h;have hu:=a2z hr;refine⟨_,(a0e (psx 4 a7l.nd a0c)
   (a0e (a1w z18 rfl (a1a (pv 0)) (pgm 5 a7l.nd)
   (a0f (a2b (PW.pt (a5g (a0j b4i (pv 5) (pv 2) (a0n _)) (a5b (a0j c8o (a2o hu (pv 1) (pv 5) (λ _ _=>rfl)) (pv 3) (a0n _)))))
   (a0f (psx 4 a7l.nd (pv 5)))
   a0u)))
   (a0f (a0k (pv 4))))),?_⟩
  show let z0:TS:=_;let z1:TS:=a1h (b0o _ _ (a5p _ _ _)) z0;a1h _ z1 _ _ _
  intros;refine nx3 _ rfl a rfl ⟨⟨_,SqL.of ha⟩,a2a (K:=K) (a:=a) (xs:=ms.map V.int) (λ i σ H3=>H3=H/\∃ x:Option V,σ=[some (.ref a),some (.ref e),some (.int n),some (.int t),some (.int (d1i en n t (ms.take i))),x]) ⟨rfl,none,rfl⟩ (λ i σ H3 _ ⟨z,_⟩=>by rw[z];exact SqL.of ha) ?_ ?_⟩
  ·rintro i y σ H3 hy ⟨rfl,x,rfl⟩;rw[z09] at hy;obtain⟨m,em,rfl⟩:=z1z.mp hy;have tk:ms.take (i+1)=ms.take i++[m]:=by rw[z0v,em];rfl
   refine ⟨_,rfl,nx6 _ rfl rfl _ rfl (a4n (λ e1=>?_) (λ e1=>?_))⟩
   ·have n1:m≠n:=λ z=>by rw[z] at e1;simp at e1
    have dg:=b0y.k (k:=Sum.inl m) he;rw[hv m (z0c em)] at dg;refine nx22 _ rfl _ rfl e (nx35 _ rfl dg _ rfl _ (nx6 _ rfl rfl _ rfl (a4n (λ e2=>?_) (λ e2=>?_))))
    ·have e3:en m < t:=z0h e2;refine nx13 _ rfl rfl (some (.int m)) ?_;rw[tk,b6y,z02 ⟨n1,e3⟩];rfl
    ·have e3:¬ en m < t:=λ z=>e2 (z08 z)
     refine⟨rfl,some (.int m),?_⟩;rw[tk,b6y,z01 λ z=>e3 z.2];rfl
   ·have n1:m=n:=by
     by_cases z:m=n
     ·exact z
     ·exact absurd (by rw[z0n (show ¬ V.int m=V.int n from λ w=>z (V.int_inj' w))];rfl) e1
    refine a7o (A:=_) ⟨rfl,some (.int m),?_⟩;rw[tk,b6y,z01 λ z=>z.1 n1];rfl
  ·rintro σ H3 ⟨rfl,x,rfl⟩;rw[z04,z0x];exact⟨_,rfl,q⟩
theorem c2r (n:Int):∀ l:List Int,l.filterMap (λ m=>if m≠n then some (V.int m) else none)=(l.filter λ m=>decide (m≠n)).map V.int
 | []=>rfl
 | x::r=>by
  rw[z1o,z3b];by_cases e:x≠n
  ·rw[z02 e,z02 (z08 e),z0w,c2r n r]
  ·rw[z01 e,z01 (by simpa using e),c2r n r]
theorem e5r {i:Int} {n:Nat} (h0:0<=i) (h1:i < n):seqIndex? i n=some i.toNat:=by
 unfold seqIndex?;have:¬ i < 0:=by lia
 simp[this,h0,h1]
theorem c1h (T:Tx K mg):T.b0b.Ok P w base 2 c7w:=by
 refine okF T.b0b.F a1n λ _ _ _ _ _ _ Q _ hr h=>?_
 ·obtain⟨D,M,c,st,fd,fm,rfl,th,hne,⟨hl8,hm3,hc8,hlk⟩,q⟩:=h;have hu:=a2z hr;refine⟨_,(a0e (psx 3 a1n.nd (pcF T.a6u (a9w T) hr (a0a (pv 2) (a0a a0c a0d))))
   (a0e (b7t (pix a0l (pv 0) (a0p a1l (pix a0l (pv 3) a0c) (a0q a1f (by rfl) T.a3o z1a (a0a (pv 0) a0d)))) (a5n rfl (a0o (pgm 4 a1n.nd) (a0o (pgm 5 a1n.nd) (a0o (pgm 6 a1n.nd) a3d)))))
   (a0f (a2b (PW.pt (a5g (a0j a4f (a0p a1l (pix a0l (pv 3) a0c) a0c) a0c (a0n _)) (a5b (a0j (e3a hr.units) (pv 1) a9i (a0n _)))))
   (a0e (psx 7 a1n.nd (a2o hu (pv 1) (pix a0l (a0q (b1h rfl) (by rfl) T.a5s boot_sorted (a0a (pv 1) a0d)) (a0p a1l (pix a0l (pv 3) a0c) (a0q d0c (by rfl) T.a3o z1a (a0a (pv 1) a0d)))) (λ _ _=>rfl)))
   (a0f (a2b (a0j e3p (a0q a1f (by rfl) T.a3o z1a (a0a (pv 7) a0d)) a0c (a0n _))
   (a0e (psx 8 a1n.nd (a4q z1h F.slot_list_pop F.type_list_pop d4n (pv 7) (a0a (a0p a3v a0c (a0p a1l (pix a0l (pv 3) a0c) (a0p a6c (a0q a1f (by rfl) T.a3o z1a (a0a (pv 7) a0d)) a0c))) a0d)))
   (a0f (a1u (a4q z1h F.slot_list_insert F.type_list_insert c2i (pv 7) (a0a (a0p a1l (pix a0l (pv 3) a0c) (a0p a3v (a0q a1f (by rfl) T.a3o z1a (a0a (pv 7) a0d)) a0c)) (a0a (pv 8) a0d))))))
   a0u)))
   (a0f (a2b (PW.pt (a5g (a0j (a7h hr.units) (pv 6) (a1d a0d) (a0n _)) (a5b (a0j (a7h hr.units) (pix a0l (pv 6) (a0p a1l (pix a0l (pv 3) a0c) (a0q a1f (by rfl) T.a3o z1a (a0a (pv 6) a0d)))) (a1d a0d) (a0n _)))))
   (a0e (psx 9 a1n.nd (pix a0l (pv 6) (a0p a1l (pix a0l (pv 3) a0c) (a0q a1f (by rfl) T.a3o z1a (a0a (pv 6) a0d)))))
   (a0e (psx 10 a1n.nd (pix a0t (pix a0l (pv 9) (a0p a1l (pix a0l (pv 3) a0c) (a0q a1f (by rfl) T.a3o z1a (a0a (pv 9) a0d)))) a0c))
   (a0e (psx 11 a1n.nd (a0p c4x (a1d (a0a a0c a0d)) (pcf ["_law_maker"] ["_law_number"] [4] (a1a (a7n hu (pv 1) (pv 10) (a1d a0d) ⟨rfl,rfl,rfl,rfl⟩)) (pgn 0) (b2t (a0j b4i (pv 0) (pv 1) (a0n _))) (pv 0))))
   (b0d (a2b (a0j a4f (a0p a1l (a0p a8c (pix a0l (pv 3) a0c) a0c) a0c) a0c (a0n _))
   (a0f (psx 11 a1n.nd (a1d (a0a (d4c c3o a0c) a0d))))
   a0u)
   (a0f (b7t (a1j (a0a (pv 10) (a0a (pix a0l (pv 11) (a0p a1l (pix a0l (pv 3) a0c) (a0q a1f (by rfl) T.a3o z1a (a0a (pv 11) a0d)))) a0d))) (c7q (pv 9) (a0p a1l (pix a0l (pv 3) a0c) (a0q a1f (by rfl) T.a3o z1a (a0a (pv 9) a0d))) b2y)))))))
   a0u)))))),?_⟩
  show let z0:TS:=_;let z1:TS:=a1h _ z0;let z2:TS:=a5p _ z1 _;let z3:TS:=a1h _ z2;let z4:TS:=_;let z5:TS:=d8b (a5p _ _ _) z4;let z6:TS:=a1h _ z5;let z7:TS:=a1h _ z6;let z8:TS:=a1h _ z7;let z9:TS:=a5p _ z3 (a5p _ z8 _);let z10:TS:=a1h _ z9;a1h _ z10 _ _ _
  intros;refine nx7 _ rfl c 5 rfl (by decide) λ xs H1 hxs s1 h1=>?_;have q1:∀ H' fd' fm',TaH H' D M (a5o st c) fd' fm'->(∀ b o,b ∉ fd++fm->H1 b=some o->H' b=some o)->(∀ b∈fd'++fm',b∈fd++fm\/H1 b=none)->Q .non H':=λ H' fd' fm' a b c=>q H' fd' fm' a (λ x o nx e=>b x o nx (s1 _ _ e)) λ x hx=>(c x hx).imp id λ z=>s1.free z
  obtain⟨dl,⟨kvs,mk⟩,nd,nk⟩:=th.same s1;have nfd:xs ∉ fd:=th.deals.not hxs;have nfm:xs ∉ fm:=let ⟨_,m⟩:=th.makes;m.vals.not hxs
  clear q th;obtain⟨dv,f0,efd,hD,dvs⟩:=c4t dl;have n0:0 < st.1.length:=z1y.mpr hne;have ldv:dv.length=st.1.length:=by rw[dvs.len,z04]
  obtain⟨hi,v0,ev0,av0⟩:=b3p (a0x c 2) ldv n0;generalize hI:(a0x c 2%(st.1.length:Int)).toNat=i at hi ev0;have ed:st.1[i]?=some (st.1.getD i zD):=a1z hi;generalize hd0:st.1.getD i zD=d at ed;obtain⟨x,g1,g2,g3,ex,ef,td,put⟩:=dvs.focus (i:=i) (d:=a4j d) (by rw[z09,ed];rfl);rw[ev0] at ex;cases ex;obtain⟨p,L,lv,fl,rfl,e2,hp,hL,tl⟩:=b9q td;have av1:atI dv (a0x c (1+1)%(dv.length:Int))=some (.ref p):=by rw[ldv];exact av0
  have llv:lv.length=d.2.2.length:=by rw[tl.len,z04]
  obtain⟨hd3,hl3⟩:=hlk d (z0c ed);refine nx18 _ rfl _ rfl xs _ _ _ rfl rfl (SqL.of h1) (a0w c 5 1 (by decide) 1 rfl) (nx7 _ rfl _ _ rfl (.inl ⟨_,SqL.of hD,rfl⟩) (nx8 _ _ rfl rfl (by rw[ldv];lia) (nx1 D _ _ _ rfl rfl (SqL.of hD) av1 (nx15 p _ rfl (SqT.of hp) rfl _ (nx11 _ rfl _ (nx7 _ rfl _ _ rfl rfl ?_))))));have lkv:=mk.len;dsimp only;refine ifS (b:=decide (a0x c 1%4=0/\st.2≠[])) (λ Q2 k2=>?_) (λ H2 s2=>a4n (λ e=>?_) (λ e=>?_))
  ·refine nx5 _ rfl xs _ _ _ rfl rfl (SqL.of h1) (a0w c 5 0 (by decide) 0 rfl) (nx20 _ _ rfl rfl (by show (0:Int) < 4;decide) rfl _ rfl (a4n (λ e=>?_) (λ e=>?_)))
   ·have e1:a0x c 1%4=0:=V.int_inj' (z0h e);refine⟨_,rfl,λ nn hnn=> nx28 M nn kvs rfl rfl (.inl (Same.upd hnn _ _ mk.dict)) (.inl a0b) _ rfl ?_⟩;have:(!kvs.isEmpty)=decide (a0x c 1%4=0/\st.2≠[]):=by
     rw[z3p,z5r];cases kvs with
     | nil=>simp;intro _;exact z2v.mp lkv.symm
     | cons a r =>
      simp[e1];intro z;rw[z] at lkv;cases lkv
    rw[this];exact k2 _ (Same.upd hnn)
   ·have e1:¬ a0x c 1%4=0:=λ z=>e (z08 (show V.int (a0x c (0+1)%4)=V.int 0 by rw[Nat.zero_add,z]))
    have:decide (a0x c 1%4=0/\st.2≠[])=false:=z0n λ z=>e1 z.1
    rw[this] at k2;exact k2 _ (Same.refl _)
  ·obtain⟨e1,e2'⟩:=z0h e;have h12:=s2 _ _ h1;have mk2:=mk.same s2;have m0:0 < st.2.length:=z1y.mpr e2';have lr:(a2s (st.2.map (·.1))).length=st.2.length:=by rw[(a1b _).length_eq,z04]
   obtain⟨ak,km0⟩:=c7k (ns:=a2s (st.2.map (·.1))) (a0x c 3) lr m0;have sp:a5o st c=(st.1,b8k st.2 ((a2s (st.2.map (·.1))).getD (a0x c 3%(st.2.length:Int)).toNat 0) (c6k c (chF st.2 ((a2s (st.2.map (·.1))).getD (a0x c 3%(st.2.length:Int)).toNat 0)))):=by
    unfold a5o;dsimp only;rw[z02 ⟨e1,e2'⟩]
   rw[sp] at q1;generalize (a2s (st.2.map (·.1))).getD (a0x c 3%(st.2.length:Int)).toNat 0=k at ak km0 q1;have km:k∈st.2.map (·.1):=(a1b _).mem_iff.mp km0;obtain⟨a,f1,f3,va,ha,efm,upm⟩:=mk2.has km;have afm:a∈fm:=by rw[efm];simp
   have afd:a ∉ fd:=λ z=>(z2f.mp nd).2.2 a z a afm rfl
   have hch8:(chF st.2 k).length<=30:=hc8 _ (z0c (a3s km));have nda:∀ b∈f1++f3,b≠a:=λ b hb z=>by
    have h3:=(z2f.mp nd).2.1;rw[efm] at h3;have:=(nd3.mp h3).2.2 a (z0i.mpr rfl);rw[z] at hb;rcases z0f.mp hb with w | w
    ·exact this.1 w
    ·exact this.2 w
   have Ma:M≠a:=λ z=>by rw[<-z,mk2.dict] at ha;cases ha
   have fin:∀ H':Hp,(∀ b o,b≠a->H2 b=some o->H' b=some o)->H' a=some (.lst ((c6k c (chF st.2 k)).map V.int))->Q .non H':=λ H' kp h'=>by
    refine q1 H' fd fm ⟨dl.fr λ b hb o eb=>kp b o (λ z=>afd (z ▸ hb)) (s2 _ _ eb),⟨kvs,upm H' _ (kp _ _ Ma mk2.dict) (λ b hb o eb=>kp b o (nda b hb) eb) h'⟩,nd,by rw[a6q];exact nk⟩ (λ b o nb eb=>kp b o (λ z=>nb (z1e _ (z ▸ afm))) (s2 _ _ eb)) λ b hb=>.inl hb
   have xa:xs≠a:=λ z=>nfm (z ▸ afm)
   refine nx3 _ rfl _ rfl (nx17 M kvs (st.2.map (·.1)) rfl mk2.dict (by rw[mk2.keys,z15];rfl) (by rw[z04];lia) λ sl hsl=>?_);have s3:=Same.upd (o:=HO.lst ((a2s (st.2.map (·.1))).map V.int)) hsl;have dg:=b0y.k (k:=Sum.inl k) (s3 _ _ mk2.dict);rw[va] at dg;refine nx5 _ rfl xs _ _ _ rfl rfl (SqL.of (s3 _ _ h12)) (a0w c 5 2 (by decide) 2 rfl) (nx7 _ rfl M kvs rfl (s3 _ _ mk2.dict) (nx15 _ _ rfl rfl (by rw[lkv];lia) sl (nx17 _ _ _ rfl rfl (SqL.of a0b) (by rw[lkv];exact ak) (nx0 M _ rfl dg ?_))));have ha3:=s3 _ _ ha;have hx3:=s3 _ _ h12;generalize upd H2 sl (HO.lst ((a2s (st.2.map (·.1))).map V.int))=H3 at s3 ha3 hx3;refine nx33 _ rfl _ _ rfl (.inl ⟨_,SqL.of ha3,rfl⟩) _ (nx6 _ rfl rfl _ rfl (a4n (λ e3=>?_) (λ e3=>?_)))
   ·have e4:(1:Int) < (((chF st.2 k).map V.int).length:Int):=z0h e3;rw[z04] at e4;generalize chF st.2 k=ch at *;have c0:=z27 (a0x c 4) (show ((ch.length:Int) - 1)≠0 by lia);have c1:=z2b (a0x c 4) (show (0:Int) < (ch.length:Int) - 1 by lia);have ej:ch[(1+a0x c 4%((ch.length:Int) - 1)).toNat]?=some (ch.getD (1+a0x c 4%((ch.length:Int) - 1)).toNat 0):=a1z (by lia);refine nx6 _ rfl (Or.inl ⟨rfl,_,SqL.of ha3⟩) _ rfl (nx1 xs _ _ _ rfl rfl (SqL.of hx3) (a0w c 5 3 (by decide) 3 rfl) (nx7 _ rfl _ _ rfl (.inl ⟨_,SqL.of ha3,rfl⟩) (nx0 _ _ rfl rfl (nx15 _ _ rfl rfl (by rw[z04];show (0:Int) < (ch.length:Int) - 1;lia) _ (nx13 _ rfl rfl a (nx14 _ _ ((1+a0x c 4%((ch.length:Int) - 1)).toNat) (.int (ch.getD (1+a0x c 4%((ch.length:Int) - 1)).toNat 0)) rfl rfl ha3 (by rw[z04];show -(2 ^ 63)<=1+a0x c 4%((ch.length:Int) - 1);lia) (by rw[z04];show 1+a0x c 4%((ch.length:Int) - 1) < 2 ^ 63;lia) ⟨(by rw[z04];exact e5r (by show 0<=1+a0x c 4%((ch.length:Int) - 1);lia) (by show 1+a0x c 4%((ch.length:Int) - 1) < _;lia)),(by rw[z09,ej];rfl),?_⟩))))));rw[b9a];have mv:c6k c ch=(ch.eraseIdx (1+a0x c 4%((ch.length:Int) - 1)).toNat).take (a0x c 5%(((ch.eraseIdx (1+a0x c 4%((ch.length:Int) - 1)).toNat).length:Int)+1)).toNat++ch.getD (1+a0x c 4%((ch.length:Int) - 1)).toNat 0::(ch.eraseIdx (1+a0x c 4%((ch.length:Int) - 1)).toNat).drop (a0x c 5%(((ch.eraseIdx (1+a0x c 4%((ch.length:Int) - 1)).toNat).length:Int)+1)).toNat:=by
     unfold c6k;rw[z02 (by lia)]
    have le1:(ch.eraseIdx (1+a0x c 4%((ch.length:Int) - 1)).toNat).length<=ch.length:=List.length_eraseIdx_le _ _;generalize (1+a0x c 4%((ch.length:Int) - 1)).toNat=j at *;generalize ch.eraseIdx j=c2 at *;generalize ch.getD j 0=y at *;have d0:=z27 (a0x c 5) (show ((c2.length:Int)+1)≠0 by lia);have d1:=z2b (a0x c 5) (show (0:Int) < (c2.length:Int)+1 by lia);refine nx35 _ rfl (Or.inl ⟨rfl,_,SqL.of a0b⟩) _ rfl xs (nx17 _ _ _ rfl rfl (SqL.of (by rw[a0g xa];exact hx3)) (a0w c 5 4 (by decide) 4 rfl) (nx7 _ rfl _ _ rfl (.inl ⟨_,SqL.of a0b,rfl⟩) (nx0 _ _ rfl rfl (nx8 _ _ rfl rfl (by rw[z04];show (0:Int) < (c2.length:Int)+1;lia) (nx36 _ rfl a _ _ _ rfl rfl a0b (by rw[z04];exact d0) (by rw[z04];show a0x c 5%((c2.length:Int)+1)<=_;lia) ⟨(by rw[z04];have:sizeLine=2 ^ 24:=rfl;lia),λ H' h' k'=>?_⟩)))));refine fin H' (λ b o nb eb=>k' b o nb (by rw[a0g nb];exact s3 _ _ eb)) ?_;rw[h',mv,z04,z0z,z0w,List.map_take,List.map_drop]
   ·have e4:¬ (1:Int) < (((chF st.2 k).map V.int).length:Int):=λ z=>e3 (z08 z)
    rw[z04] at e4;refine fin H3 (λ b o _ eb=>s3 _ _ eb) ?_;rw[ha3];unfold c6k;rw[z01 (by lia)]
  ·have eB:¬ (a0x c 1%4=0/\st.2≠[]):=λ z=>e (z08 z)
   have sp0:a5o st c=(if d.2.2≠[]/\d.2.2.getD (a0x c 3%(d.2.2.length:Int)).toNat []≠[] then (st.1.set i (d.1,d.2.1,d.2.2.set (a0x c 3%(d.2.2.length:Int)).toNat (d9y st.2 c d.1 (d.2.2.getD (a0x c 3%(d.2.2.length:Int)).toNat []))),st.2) else st):=by
    unfold a5o;dsimp only;rw[z01 eB,hI,hd0]
   rw[sp0] at q1;have h12:=s2 _ _ h1;have hL2:=s2 _ _ hL;generalize hJ:(a0x c 3%(d.2.2.length:Int)).toNat=j at q1;have opn:d.2.2≠[]->∃ la pv l1 pf l3,lv[j]?=some (.ref la)/\atI lv (a0x c (2+1)%(lv.length:Int))=some (.ref la)/\fl=l1++((la::pf)++l3)/\H1 la=some (.lst pv)/\TFs H1 pv ((d.2.2.getD j []).map b0a) pf/\d.2.2.getD j []∈d.2.2 /\
     ∀ H' x' d' f2',(∀ b∈l1++l3,∀ o,H1 b=some o->H' b=some o)->TF H' x' d' f2'->TFs H' (lv.set j x') ((d.2.2.map a3x).set j d') (l1++(f2'++l3)):=λ hn=>by
    have l0:0 < d.2.2.length:=z1y.mpr hn;obtain⟨hj,v,ev,av⟩:=b3p (a0x c 3) llv l0;rw[hJ] at hj ev;have el:=a1z (d:=([]:Lk)) hj;obtain⟨x,l1,l2,l3,ex,efl,tk,put2⟩:=tl.focus (i:=j) (d:=a3x (d.2.2.getD j [])) (by rw[z09,el];rfl);rw[ev] at ex;cases ex;obtain⟨la,pv,pf,rfl,el2,hla,tpv⟩:=b8j tk;exact nx23 la pv l1 pf l3 ev (by rw[llv];exact av) (by rw[efl,el2]) hla ⟨tpv,z0c el,put2⟩
   have lvn:d.2.2≠[] ↔ lv≠[]:=by rw[<-z1y,<-z1y,llv]
   refine ifS (b:=decide (d.2.2≠[]/\d.2.2.getD j []≠[])) (λ Q2 k2=>?_) (λ H3 s3=>a4n (λ e=>?_) (λ e=>?_))
   ·refine⟨_,rfl,(by show 0<=sizeLine;decide),λ nn hnn=> nx28 L nn _ rfl rfl (SqL.of (Same.upd hnn _ _ hL2)) (SqL.of a0b) _ rfl (a4n (λ e=>?_) (λ e=>?_))⟩
    ·have l0:lv≠[]:=λ z=>by rw[z] at e;simp at e
     obtain⟨la,pv,l1,pf,l3,ev,av,_,hla,tpv,_,_⟩:=opn (lvn.mpr l0);have su:=Same.upd (o:=HO.lst []) hnn;refine nx18 _ rfl _ rfl xs _ _ _ rfl rfl (SqL.of (su _ _ h12)) (a0w c 5 2 (by decide) 2 rfl) (nx7 _ rfl _ _ rfl (.inl ⟨_,SqL.of (su _ _ hL2),rfl⟩) (nx8 _ _ rfl rfl (by have:=z1y.mpr l0;lia) (nx14 L _ _ _ rfl rfl (SqL.of (su _ _ hL2)) av (by show 0<=sizeLine;decide) λ n2 hn2=> nx28 la n2 pv rfl rfl (SqL.of (Same.upd hn2 _ _ (su _ _ (s2 _ _ hla)))) (SqL.of a0b) _ rfl ?_)));have:(!pv.isEmpty)=decide (d.2.2≠[]/\d.2.2.getD j []≠[]):=by
      have lp:=tpv.len;rw[z04] at lp;rw[z3p,z5r];constructor
      ·intro z;refine⟨lvn.mpr l0,λ w=>?_⟩;rw[w] at lp;rw[z2v.mp lp] at z;cases z
      ·rintro⟨_,z⟩;cases pv with
       | nil=>exact absurd (z2v.mp lp.symm) z
       | cons=>rfl
     rw[this];exact k2 _ (su.trans (Same.upd hn2))
    ·have l0:lv=[]:=by
      cases lv with
      | nil=>rfl
      | cons=>simp at e
     have:decide (d.2.2≠[]/\d.2.2.getD j []≠[])=false:=z0n λ z=>lvn.mp z.1 l0
     rw[this] at k2;exact k2 _ (Same.upd hnn)
   ·obtain⟨e3,e4⟩:=z0h e;rw[z02 ⟨e3,e4⟩] at q1;obtain⟨la,pv,l1,pf,l3,ev,av,efl,hla,tpv,hlm,put2⟩:=opn e3;have s13:=s2.trans s3;have hx3:=s13 _ _ h1;have lpv:pv.length=(d.2.2.getD j []).length:=by rw[tpv.len,z04]
    have p0:0 < (d.2.2.getD j []).length:=z1y.mpr e4;have lp3:=hl3 _ hlm;unfold d9y at q1;dsimp only at q1;generalize hl0:d.2.2.getD j []=l at q1 tpv lpv p0 lp3;obtain⟨hq,pr0,ep0,ap0⟩:=b3p (a0x c 4) lpv p0;generalize hQ:(a0x c 4%(l.length:Int)).toNat=qi at q1 hq ep0;have epq:l[qi]?=some (l.getD qi (0,0)):=a1z hq;generalize l.getD qi (0,0)=pr at q1 epq;obtain⟨x,p1,p2,p3,ex,epf,tpr,put3⟩:=tpv.focus (i:=qi) (d:=b0a pr) (by rw[z09,epq];rfl);rw[ep0] at ex;cases ex;obtain⟨a0,rfl,ea0,ha0⟩:=c6z tpr;have ap1:atI pv (a0x c (3+1)%(pv.length:Int))=some (.ref a0):=by rw[lpv];exact ap0
    refine nx18 _ rfl _ rfl xs _ _ _ rfl rfl (SqL.of hx3) (a0w c 5 2 (by decide) 2 rfl) (nx7 _ rfl _ _ rfl (.inl ⟨_,SqL.of (s13 _ _ hL),rfl⟩) (nx15 _ _ rfl rfl (by have:=z1y.mpr (lvn.mp e3);lia) L (nx17 _ _ _ rfl rfl (SqL.of (s13 _ _ hL)) av ?_)));refine nx18 _ rfl _ rfl xs _ _ _ rfl rfl (SqL.of hx3) (a0w c 5 3 (by decide) 3 rfl) (nx7 _ rfl _ _ rfl (.inl ⟨_,SqL.of (s13 _ _ hla),rfl⟩) (nx8 _ _ rfl rfl (by rw[lpv];lia) (nx1 la _ _ _ rfl rfl (SqL.of (s13 _ _ hla)) ap1 (nx1 a0 _ _ _ rfl rfl (SqT.of (s13 _ _ ha0)) rfl ?_))));have mk3:=mk.same s13;refine⟨(by show 1<=sizeLine;decide),λ zl hzl=>?_⟩;have s4:=Same.upd (o:=HO.lst [V.int 0]) hzl;refine ⟨_,rfl,nx6 M rfl (.inl ⟨kvs,.inl (s4 _ _ mk3.dict)⟩) _ rfl ⟨(by show 0<=sizeLine;decide),λ el hel=>?_⟩⟩;have s5:=Same.upd (o:=HO.lst []) hel;refine⟨_,b0y.k (k:=Sum.inl pr.1) (s5 _ _ (s4 _ _ mk3.dict)),?_⟩;have hch:∀ k,(chF st.2 k).length<=30:=λ k=>by
     by_cases km:k∈st.2.map (·.1)
     ·exact hc8 _ (z0c (a3s km))
     ·rw[a2x km];exact z0m _
    obtain⟨ca,eca,hca⟩:∃ ca,(a1r kvs (Sum.inl pr.1)).getD (.ref el)=.ref ca/\upd (upd H3 zl (.lst [V.int 0])) el (.lst []) ca=some (.lst ((chF st.2 pr.1).map V.int)):=by
     by_cases km:pr.1∈st.2.map (·.1)
     ·obtain⟨a,f1,f3,va,ha,_⟩:=mk3.has km;exact⟨a,by rw[va];rfl,s5 _ _ (s4 _ _ ha)⟩
     ·exact⟨el,by rw[mk3.not km];rfl,by rw[a2x km];exact a0b⟩
    refine⟨ca,eca,⟨_,SqL.of hca⟩,e1n (k:=1) (fs:=[some (.int d.1)]) (chF st.2 pr.1) PyData.int (λ m=>if m≠d.1 then some (.int m) else none) rfl hca (Trs.ofInts _) (by have:=hch pr.1;have:sizeLine=2 ^ 24:=rfl;lia) (λ m hm H6 ts v R ss hts tr cont=>?_) (λ D' H6 hD' ss hd=>?_)⟩
    ·cases tr;obtain⟨t,rfl⟩:=z1g.mp hts;have cn:=cont [some (.int m)] H6 rfl (Same.refl _);refine ⟨_,rfl,nx6 _ rfl rfl _ rfl (a4n (λ e=>?_) (λ e=>?_))⟩
     ·have e':m≠d.1:=λ z=>by rw[z] at e;simp at e
      rw[z02 e'] at cn;exact⟨_,rfl,cn⟩
     ·have e':¬ m≠d.1:=λ z=>e (by rw[z0n (show ¬ V.int m=V.int d.1 from λ w=>z (V.int_inj' w))];rfl)
      rw[z01 e'] at cn;exact cn
    rw[c2r] at hd;have S6:=s13.trans (s4.trans (s5.trans ss));refine nx14 zl D' _ _ rfl rfl (ss _ _ (s5 _ _ a0b)) hd (by rw[z04];have h1:=z4b (λ m=>decide (m≠d.1)) (chF st.2 pr.1);have:=hch pr.1;have:sizeLine=2 ^ 24:=rfl;show 1+_<=_;lia) λ so hso=>?_;have S7:=S6.trans (Same.upd (o:=HO.lst ([V.int 0]++((chF st.2 pr.1).filter λ m=>decide (m≠d.1)).map V.int)) hso);refine⟨λ σ H8=>∃ so,σ=[some (.ref D),some (.ref M),some (.int c),some (.ref xs),some (.int d.1),some (.str d.2.1),some (.ref L),none,none,some (.ref la),some (.int pr.1),some (.ref so)]/\Same H1 H8/\H8 so=some (.lst ((c6i st.2 c d.1 pr.1).map V.int)),?_,?_⟩
    ·refine nx24 _ rfl xs _ _ _ rfl rfl (SqL.of (S7 _ _ h1)) (a0w c 5 0 (by decide) 0 rfl) _ _ rfl rfl ⟨⟨by decide,by decide⟩,nx20 _ _ rfl rfl (by show (0:Int) < 12;decide) rfl _ rfl (a4n (λ e=>?_) (λ e=>?_))⟩
     ·have e1:a0x c 1 / 4%12=0:=V.int_inj' (z0h e);refine⟨1,rfl,(by show 1<=sizeLine;decide),λ s2' hs2'=>⟨s2',rfl,S7.trans (Same.upd hs2'),?_⟩⟩;rw[a0b];unfold c6i;rw[z02 e1];rfl
     ·have e1:¬ a0x c 1 / 4%12=0:=λ z=>e (z08 (show V.int (a0x c (0+1) / 4%12)=V.int 0 by rw[Nat.zero_add,z]))
      refine⟨so,rfl,S7,?_⟩;rw[a0b];unfold c6i;rw[z01 e1];rfl
    ·rintro σ H8 ⟨so2,rfl,S8,hso2⟩;have o0:0 < (c6i st.2 c d.1 pr.1).length:=by
      unfold c6i;split
      ·exact Nat.zero_lt_one
      ·exact Nat.succ_pos _
     generalize c6i st.2 c d.1 pr.1=od at q1 hso2 o0;obtain⟨ao,_⟩:=c7k (ns:=od) (a0x c 5) rfl o0;refine nx3 _ rfl _ rfl (nx5 _ rfl xs _ _ _ rfl rfl (SqL.of (S8 _ _ h1)) (a0w c 5 4 (by decide) 4 rfl) (nx7 _ rfl _ _ rfl (.inl ⟨_,SqL.of hso2,rfl⟩) (nx8 _ _ rfl rfl (by rw[z04];lia) (nx14 so2 _ _ _ rfl rfl (SqL.of hso2) (by rw[z04];exact ao) (by show 2<=sizeLine;decide) λ tp htp=>?_))));generalize od.getD (a0x c 5%(od.length:Int)).toNat 0=sv at q1;have s9:=Same.upd (o:=HO.tup [V.int pr.1,V.int sv]) htp;refine nx18 _ rfl _ rfl xs _ _ _ rfl rfl (SqL.of (s9 _ _ (S8 _ _ h1))) (a0w c 5 3 (by decide) 3 rfl) (nx7 _ rfl _ _ rfl (.inl ⟨_,SqL.of (s9 _ _ (S8 _ _ hla)),rfl⟩) (nx15 _ _ rfl rfl (by rw[lpv];lia) la (nx17 pv _ qi rfl rfl (s9 _ _ (S8 _ _ hla)) (by rw[lpv];have:=d6g (n:=l.length) (a0x c 4) p0;rw[hQ] at this;exact this) λ H' h' k'=>?_)));have live:∀ b∈fd++fm,∃ o,H1 b=some o:=λ b hb=>by
      rcases z0f.mp hb with w | w
      ·rcases dl.live b w with ⟨_,z⟩ | ⟨_,z⟩<;>exact⟨_,z⟩
      ·rcases mk.vals.live b w with ⟨_,z⟩ | ⟨_,z⟩<;>exact⟨_,z⟩
     have ful:fd++fm=(D::(g1++p::L::(l1++la::p1)))++a0::(p3++(l3++(g3++fm))):=by
      rw[efd,ef,e2,efl,epf,ea0];simp
     have ful2:fd++fm=(D::(g1++p::L::l1))++([la]++(p1++a0::(p3++(l3++(g3++fm))))):=by
      rw[ful];simp
     have ful3:(D::(g1++((p::L::(l1++((la::(p1++([tp]++p3)))++l3)))++g3)))++fm=(D::(g1++p::L::(l1++la::p1)))++tp::(p3++(l3++(g3++fm))):=by simp
     have tpn:tp ∉ fd++fm:=λ z=>by
      obtain⟨o,eo⟩:=live tp z;rw[S8 _ _ eo] at htp;cases htp
     have nla:∀ b,b∈(D::(g1++p::L::l1))++(p1++a0::(p3++(l3++(g3++fm))))->b≠la:=λ b hb z=>by
      have h3:=nd;rw[ful2] at h3;have:=(nd3.mp h3).2.2 la (z0i.mpr rfl);rw[z] at hb;rcases z0f.mp hb with w | w
      ·exact this.1 w
      ·exact this.2 w
     have keep:∀ b o,b≠la->H1 b=some o->H' b=some o:=λ b o nb eb=>k' b o nb (s9 _ _ (S8 _ _ eb))
     have hlafd:la∈fd++fm:=by rw[ful2];simp
     have tpla:tp≠la:=λ z=>tpn (z ▸ hlafd)
     have t3:=put3 H' (.ref tp) (b0a (pr.1,sv)) [tp] (λ b hb o eb=>keep b o (nla b (by rcases z0f.mp hb with w | w<;>simp[w])) eb) (c1l (k' tp _ tpla a0b));have t2:=put2 H' (.ref la) (a3x (l.set qi (pr.1,sv))) _ (λ b hb o eb=>keep b o (nla b (by rcases z0f.mp hb with w | w<;>simp[w])) eb) (TF.lst h' (by rw[z33];exact t3));rw[TFs.set_self ev] at t2;have t1:=put H' (.ref p) (a4j (d.1,d.2.1,d.2.2.set j (l.set qi (pr.1,sv)))) _ (λ b hb o eb=>keep b o (nla b (by rcases z0f.mp hb with w | w<;>simp[w])) eb) (c2j (keep p _ (nla p (by simp)) hp) (keep L _ (nla L (by simp)) hL) (by rw[z33];exact t2));rw[TFs.set_self ev0] at t1;have t0:=TF.lst (keep D _ (nla D (by simp)) hD) t1;refine q1 H' _ fm ⟨by rw[z33];exact t0,⟨kvs,keep M _ (λ z=>by have q5:=mk.dict;rw[z,hla] at q5;cases q5) mk.dict,mk.keys,mk.vals.fr λ b hb o eb=>keep b o (nla b (by simp[hb])) eb⟩,?_,nk⟩ (λ b o nb eb=>keep b o (λ z=>nb (z ▸ hlafd)) eb) λ b hb=>?_
     ·rw[ful3];rw[ful] at nd tpn;exact d6s nd λ z=>tpn ((z0f.mp z).elim (λ w=>z1x _ w) λ w=>z1e _ (z1j _ w))
     ·rw[ful3] at hb;rcases z0f.mp hb with w | w
      ·exact .inl (by rw[ful];exact z1x _ w)
      ·rcases z0a.mp w with w | w
       ·rw[w];exact .inr (S8.free htp)
       ·exact .inl (by rw[ful];exact z1e _ (z1j _ w))
   ·have eN:¬ (d.2.2≠[]/\d.2.2.getD j []≠[]):=λ z=>e (z08 z)
    rw[z01 eN] at q1;have s13:=s2.trans s3;exact q1 H3 fd fm ⟨dl.same s13,⟨kvs,mk.same s13⟩,nd,nk⟩ (λ b o _ eb=>s13 _ _ eb) λ b hb=>.inl hb
--@STAGE
theorem d7x (ts:List Tk):(b5n ts).length=ts.length:=by unfold b5n;exact List.length_mergeSort _
theorem c5w (cs:List Int):((b5n (a3j (a0z cs))).map λ t=>t.2.1).Nodup:=by
 have p:(b5n (a3j (a0z cs))).Perm (a3j (a0z cs)):=z67 _ _;refine((p.map λ t=>t.2.1).nodup_iff).mpr ?_;unfold a3j;rw[z15];exact z1u (λ h=>by lia) (a7b cs)
theorem e2b (nd:(ts.map λ t=>t.2.1).Nodup) (h:t∈ts):d9j ts t.2.1=t.1:=by
 unfold d9j;induction ts with
 | nil=>cases h
 | cons x r ih =>
  obtain⟨n1,n2⟩:=z1f.mp (show (x.2.1::r.map λ t=>t.2.1).Nodup from nd);rw[z3c];by_cases e:x.2.1=t.2.1
  ·rw[show (x.2.1 == t.2.1)=true from beq_iff_eq.mpr e];rcases z0a.mp h with z | z
   ·rw[z];rfl
   ·exact absurd (z0d.mpr ⟨t,z,e.symm⟩) n1
  ·rw[show (x.2.1 == t.2.1)=false from z3q.mpr e];rcases z0a.mp h with z | z
   ·exact absurd (by rw[z]) e
   ·exact ih n2 z
theorem c8n (cs:List Int):d1k (cs.map V.int) (some 10) (some 30)=((cs.drop 10).take 20).map V.int:=by
 unfold d1k;rw[show (10:Int)=((10:Nat):Int) from rfl,show (30:Int)=((30:Nat):Int) from rfl,HT.sIx_nat,HT.sIx_nat,z04,List.map_take,List.map_drop];by_cases h:cs.length<=10
 ·rw[z4q (by rw[z04];lia),z4q (by rw[z04];exact h),List.take_nil,List.take_nil]
 ·rw[show min 10 cs.length=10 by lia];by_cases h2:cs.length<=30
  ·rw[z20 (by rw[z0y,z04];lia),z20 (by rw[z0y,z04];lia)]
  ·rw[show min 30 cs.length - 10=20 by lia]
theorem nodup_ix {α:Type} {l:List α} (h:l.Nodup) (hi:i < l.length) (hj:j < l.length) (e:l[i]=l[j]):i=j:=by
 rcases Nat.lt_trichotomy i j with z | z | z
 ·exact absurd e (z32.mp h i j hi hj z)
 ·exact z
 ·exact absurd e.symm (z32.mp h j i hj hi z)
theorem c1y (p:Int->Bool):∀ l:List Int,l.filterMap (λ k=>if p k=true then some (V.int k) else none)=(l.filter p).map V.int
 | []=>rfl
 | x::r=>by
  rw[z1o,z3b];by_cases e:p x=true
  ·rw[z02 e,z02 e,z0w,c1y p r]
  ·rw[z01 e,z01 e,c1y p r]
theorem d2z (ks:List Int) (b:Int):ks.filterMap (λ k=>if b5p b (ks.idxOf k)=true then some (V.int k) else none)=(b8c ks b).map V.int:=c1y (λ k=>b5p b (ks.idxOf k)) ks
structure MS (H5 H3:Hp) (E M:Addr) (kvE:List (Key×V)) (ms:List Mkr):Prop where
 ex:∃ kvs fm,MkH H3 M kvs ms fm/\fm.Nodup/\∀ b∈fm,H5 b=none
 keys:(ms.map (·.1)).Nodup
 ends:H3 E=some (.dK kvE)
 keep:∀ b o,b≠E->b≠M->H5 b=some o->H3 b=some o
theorem MS.same (h:MS H5 H3 E M kvE ms) (s:Same H3 H4):MS H5 H4 E M kvE ms :=
 ⟨let ⟨kvs,fm,a,b,c⟩:=h.ex; (nx0 kvs fm (a.same s) b c),h.keys,s _ _ h.ends,λ b o n1 n2 e=>s _ _ (h.keep b o n1 n2 e)⟩
theorem MS.old (h:MS H5 H3 E M kvE ms) (e:H3 b=none):H5 b=none:=by
 obtain⟨kvs,fm,mk,_,_⟩:=h.ex;cases e5:H5 b with
 | none=>rfl
 | some o =>
  have:=h.keep b o (λ z=>by rw[z,h.ends] at e;cases e) (λ z=>by rw[z,mk.dict] at e;cases e) e5;rw[e] at this;cases this
theorem MS.putE (h:MS H5 H3 E M kvE ms) (n:M≠E) (kv:List (Key×V)):MS H5 (upd H3 E (.dK kv)) E M kv ms:=by
 obtain⟨kvs,fm,mk,b,c⟩:=h.ex;refine⟨nx0 kvs fm ⟨by rw[a0g n];exact mk.dict,mk.keys,mk.vals.fr λ x hx o e=>?_⟩ b c,h.keys,a0b,λ x o n1 n2 e=>by rw[a0g n1];exact h.keep x o n1 n2 e⟩;rw[a0g (show x≠E from λ z=>?_)]
 ·exact e
 ·rcases mk.vals.live x hx with ⟨_,w⟩ | ⟨_,w⟩<;>rw[z,h.ends] at w<;>cases w
theorem d1t (T:Tx K mg):T.c1g.Ok P w base 3 (e2c K):=by
 refine okF T.c1g.F a1k λ _ _ _ _ H _ Q E hr h=>?_
 ·obtain⟨a,cs,rfl,ha,hcs,q⟩:=h;have hu:=a2z hr;refine⟨_,(a0e (psx 1 a1k.nd (pcF T.c2k (d4l T) hr (a0a (pcF T.a4d (a5l T) hr (a0a (pv 0) (a0a a0c a0d))) a0d)))
   (a0e (psx 2 a1k.nd (pcF T.b7h (d0q T) hr (a0a (pv 0) a0d)))
   (a0e (psx 3 a1k.nd a9i)
   (a0e (psx 4 a1k.nd a9i)
   (a0e (a1w z18 rfl (a1a (a0q (b6v (u16 hr.units)) (by rfl) T.a5s boot_sorted (a0a (pcf ["_law_one"] [] [] (a1a (pv 2)) (pgn 0) a3w (a1j (a0a (pix (a2q (K:=K) rfl) (pv 0) a0c) (a0a (pix (a2q (K:=K) rfl) (pv 0) a0c) (a0a (pix (a2q (K:=K) rfl) (pv 0) a0c) a0d))))) a0d))) (a5n rfl (a0o (pgm 5 a1k.nd) (a0o (pgm 6 a1k.nd) (a0o (pgm 7 a1k.nd) a3d))))
   (a0e (b5x hu (pv 3) (pv 6) (pv 5) rfl)
   (a0f (a1w z18 rfl (a2m rfl T.a3f (a0a (a0q a1f (by rfl) T.a3o z1a (a0a (pv 1) a0d)) a0d)) (pgm 8 a1k.nd)
   (a0f (a2b (a0j a4f (a0p c7p (a0p c8h (pv 7) (pv 8)) a0c) a0c (a0n _))
   (a0f (a1u (a4q z1h z51 z4z a3z (d7z (pv 4) (pix a0l (pv 1) (pv 8)) (a1d a0d) ⟨rfl,rfl,rfl,rfl⟩) (a0a (pv 6) a0d))))
   a0u))))))
   (a0e (psx 9 a1k.nd (a1d a0d))
   (a0e (a1w z18 rfl (a1a (pv 2)) (a5n rfl (a0o (pgm 6 a1k.nd) (a0o (pgm 10 a1k.nd) (a0o (pgm 5 a1k.nd) (a0o (pgm 11 a1k.nd) (a0o (pgm 12 a1k.nd) (a0o (pgm 7 a1k.nd) a3d)))))))
   (a0e (psx 13 a1k.nd (a1d a0d))
   (a0e (a1w z18 rfl (a2m rfl T.a3f (a0a (a0q a1f (by rfl) T.a3o z1a (a0a (pv 11) a0d)) a0d)) (pgm 14 a1k.nd)
   (a0e (psf 15 ["_law_key"] a1k.nd ["_law_keys_here","_law_bits","_law_j"] [1,12,14] (a1a (pv 1)) (pgn 0) (b2t (a0j a4f (a0p c7p (a0p c8h (pix (a8y (K:=K) rfl) (pv 2) (pv 3)) (e3q (K:=K) rfl z1h F.slot_list_index F.type_list_index (b8q (K:=K) (u16 hr.units) rfl) (pv 1) (a0a (pv 0) a0d))) a0c) a0c (a0n _))) (pv 0))
   (a0f (a1u (a4q z1h z51 z4z a3z (pv 13) (a0a (pcf ["_law_key"] ["_law_ends","_law_makes","_law_number","_law_times_here","_law_j"] [3,4,6,11,14] (a1a (pv 15)) (pgn 0) a3w (a1j (a0a (pv 0) (a0a (pcF T.b3d (c5p T) hr (a0a (a7n hu (pv 2) (pv 0) (a1d a0d) ⟨rfl,rfl,rfl,rfl⟩) (a0a (pv 1) (a0a (pv 3) (a0a (pix (a8y (K:=K) rfl) (pv 4) (pv 5)) a0d))))) a0d)))) a0d))))))
   (a0f (a1u (a4q z1h z51 z4z a3z (pv 9) (a0a (a1j (a0a (pv 6) (a0a (pv 10) (a0a (pv 13) a0d)))) a0d)))))))
   (a0e (a1w z18 rfl (a1a (b1v b7p (pv 0) (b3i a0c) (b3i a0c))) (pgm 16 a1k.nd)
   (a0f (a2b (PW.pt (a5g (a0j a4f (a0p a1l (pv 16) a0c) a0c (a0n _)) (a5b (a0j (a7h hr.units) (pv 9) (a1d a0d) (a0n _)))))
   (a0f (a1u (pcF T.b0b (c1h T) hr (a0a (pv 9) (a0a (pv 4) (a0a (a0p a8c (pv 16) a0c) a0d))))))
   a0u)))
   (a0f (a0k (a1j (a0a (pv 9) (a0a (pcf ["_law_key"] ["_law_makes"] [4] (a1a (a0q (b1h rfl) (by rfl) T.a5s boot_sorted (a0a (pv 4) a0d))) (pgn 0) a3w (a1j (a0a (pv 0) (a0a (a2o hu (pv 1) (pv 0) (λ _ _=>rfl)) a0d)))) a0d))))))))))))),?_⟩
  show let z0:TS:=_;let z1:TS:=a1h (b0o _ _ (a5p _ _ _)) z0;let z2:TS:=_;let z3:TS:=_;let z4:TS:=a1h _ z3;let z5:TS:=a1h (b0o _ _ z4) z2;let z6:TS:=a1h _ z5;let z7:TS:=a1h (b0o _ _ z6) z1;let z8:TS:=a1h _ z7;let z9:TS:=b0o _ _ (a5p _ _ _);let z10:TS:=a1h _ z9;let z11:TS:=a1h (b0o _ _ z10) z8;let z12:TS:=a1h _ z11;let z13:TS:=a1h _ z12;let z14:TS:=a1h _ z13;a1h _ z14 _ _ _
  intros;have sz:sizeLine=2 ^ 24:=rfl;refine nx11 _ rfl a (nx15 cs 1 rfl ha (by decide) (b1u cs 1) ⟨rfl,λ kp H1 hkp s1 h1=>?_⟩);have hk3:=b9u (b1u cs 1);generalize hks:b7y (b1u cs 1)=ks at h1 hk3;refine nx7 _ rfl a cs rfl (s1.seq ha) λ dp dv H2 hdp s2 h2 pd=>?_;refine λ E hE=>λ M hM=>?_
  have sE:=Same.upd (o:=HO.dK []) hE;have sM:=Same.upd (o:=HO.dK []) hM;have ME:M≠E:=λ z=>by rw[z,a0b] at hM;cases hM
  have S0:=s1.trans (s2.trans (sE.trans sM));have hE4:upd (upd H2 E (.dK [])) M (.dK []) E=some (.dK []):=by rw[a0g ME.symm];exact a0b
  have hM4:=a0b (H:=upd H2 E (.dK [])) (a:=M) (o:=HO.dK []);have hk4:=sM _ _ (sE _ _ (s2 _ _ h1));have hd4:=sM _ _ (sE _ _ h2);have tr4:=(c7b pd).same (sE.trans sM);have HE0:H E=none:=(s1.trans s2).free hE;have HM0:H M=none:=(s1.trans (s2.trans sE)).free hM;generalize upd (upd H2 E (.dK [])) M (.dK [])=H4 at sE sM S0 hE4 hM4 hk4 hd4 tr4;have l8:=a8t cs;have dh:∀ d∈a0z cs,_:=λ d hd=>a9p hd
  have tnd:=c5w cs;have dfold:stF cs=((a0z cs).map (c1n ks (a1y ks (b5n (a3j (a0z cs)))) (d9j (b5n (a3j (a0z cs))))),a1y ks (b5n (a3j (a0z cs)))):=by unfold stF;dsimp only;rw[hks]
  have stg:=c4n cs;have tl8:(b5n (a3j (a0z cs))).length<=8:=by rw[d7x];unfold a3j;rw[z04];exact l8
  generalize hts:b5n (a3j (a0z cs))=js at tnd dfold tl8;refine nx3 _ rfl dp rfl ⟨⟨_,SqL.of hd4⟩,e4f (k:=1) (fs:=[]) (a0z cs) dDw (λ d=>some (dTk (d.fin,d.num,d.mad))) rfl hd4 tr4 (by lia) (λ d hd H5 ts v R ss hts' tr cn _=>?_) (λ C H5 ys hC s5 h5 ht=>?_)⟩
  ·obtain⟨t,rfl⟩:=z1g.mp hts';obtain⟨p,t',b,rfl,hp,_,_⟩:=c6n tr;exact nx26 _ rfl p _ _ _ rfl rfl (SqT.of hp) rfl _ rfl p _ _ _ rfl rfl (SqT.of hp) rfl (nx36 _ rfl p _ _ _ rfl rfl (SqT.of hp) rfl (by show 3<=sizeLine;decide) λ n hn=>cn _ _ [_] _ rfl rfl (Same.upd hn) (Tr.tup (b8u hn a0b) (.cons (.int _) (.cons (.int _) (.cons (.int _) .nil)))))
  have pt:Paired (TrV H5) ys (a3j (a0z cs)):=by
   have e:(a0z cs).filterMap (λ d=>some (dTk (d.fin,d.num,d.mad)))=(a3j (a0z cs)).map dTk:=by
    rw[a4u];unfold a3j;rw[z15];rfl
   rw[e] at ht;exact b9z (ht.same λ b o eb=>(a3k eb).2)
  refine nx17 C ys _ rfl (SqL.of h5) pt (by rw[a1c pt];unfold a3j;rw[z04];lia) λ sl zs js' hsl pj perm pw=>?_;have ej:=e0y perm pw;rw[hts] at ej;subst ej;have s6:=s5.trans (Same.upd (o:=HO.lst zs) hsl);have hsl6:=a0b (H:=H5) (a:=sl) (o:=HO.lst zs);have pj6:Paired (TrV (upd H5 sl (.lst zs))) zs js':=Paired.mapP pj λ v t ⟨p,e,z⟩=>⟨p,e,Same.upd hsl _ _ z⟩
  have slE:sl≠E:=λ z=>by rw[z,s5 _ _ hE4] at hsl;cases hsl
  have slM:sl≠M:=λ z=>by rw[z,s5 _ _ hM4] at hsl;cases hsl
  generalize upd H5 sl (.lst zs)=H6 at s6 hsl6 pj6;refine⟨sl,rfl,⟨_,SqL.of hsl6⟩,a2a (K:=K) (a:=sl) (xs:=zs) (λ i σ H3=>∃ (x5 x6 x7 x8:Option V) (kvE:List (Key×V)),σ=[some (.ref a),some (.ref kp),some (.ref dp),some (.ref E),some (.ref M),x5,x6,x7,x8,none,none,none,none,none,none,none,none] /\
   MS H6 H3 E M kvE (a1y ks (js'.take i))/\kvE.length<=i/\∀ t∈js'.take i,a1r kvE (Sum.inl t.2.1)=some (.int t.1)) (nx25 none none none none ([]) rfl ⟨nx0 ([]) ([]) ⟨s6 _ _ hM4,rfl,.nil⟩ (.nil) (λ b hb=>by cases hb),.nil,s6 _ _ hE4,λ b o _ _ e=>e⟩ ⟨z05 _,λ t ht=>by cases ht⟩) (λ i σ H3 _ ⟨_,_,_,_,_,_,m,_⟩=>SqL.of (m.keep _ _ slE slM hsl6)) ?_ ?_⟩
  ·rintro i y σ H3 hy ⟨x5,x6,x7,x8,kvE,rfl,ms,lE,vE⟩;obtain⟨t,et,p,rfl,hp⟩:=a1g pj6 hy;have pE:p≠E:=λ z=>by rw[z,s6 _ _ hE4] at hp;cases hp
   have pM:p≠M:=λ z=>by rw[z,s6 _ _ hM4] at hp;cases hp
   have tk:js'.take (i+1)=js'.take i++[t]:=by rw[z0v,et];rfl
   have hi8:i < 8:=by have:=(z0l.mp et).1;lia
   refine nx15 p _ rfl (SqT.of (ms.keep _ _ pE pM hp)) rfl _ (nx11 _ rfl _ (nx7 _ rfl _ _ rfl rfl (nx3 _ rfl _ rfl (nx7 _ rfl E _ rfl (d1m.k (k:=Sum.inl t.2.1) ms.ends (by lia)) ?_))));have mE:=ms.putE ME (a3t kvE (Sum.inl t.2.1) (.int t.1));have hk3':=ms.keep _ _ (λ z=>by rw[z,hE4] at hk4;cases hk4) (λ z=>by rw[z,hM4] at hk4;cases hk4) (s6 _ _ hk4);have kpE:kp≠E:=λ z=>by rw[z,hE4] at hk4;cases hk4
   have kpM:kp≠M:=λ z=>by rw[z,hM4] at hk4;cases hk4
   generalize upd H3 E (.dK (a3t kvE (Sum.inl t.2.1) (.int t.1)))=H3' at mE;have hkp:=mE.keep _ _ kpE kpM (s6 _ _ hk4);refine nx33 _ rfl _ _ rfl (.inl ⟨_,SqL.of hkp,rfl⟩) _ ⟨rfl,(by rw[z04];lia),(by rw[z04];lia),?_⟩;rw[z25,z04];refine a4c (λ m σ H7=>∃ x8:Option V,σ=[some (.ref a),some (.ref kp),some (.ref dp),some (.ref E),some (.ref M),some (.int t.1),some (.int t.2.1),some (.int t.2.2),x8,none,none,none,none,none,none,none,none]/\MS H6 H7 E M (a3t kvE (Sum.inl t.2.1) (.int t.1)) (a5a ks t.2.1 t.2.2 (a1y ks (js'.take i)) m)) ⟨x8,rfl,mE⟩ ?_ ?_
   ·rintro m σ H7 hm ⟨x8,rfl,m7⟩;have fw:=b2d (ks:=ks) (n:=t.2.1) (made:=t.2.2) (a8v hk3 js' i) m;have e0:(0+(m:Int)).toNat=m:=by lia
    refine nx3 _ rfl _ rfl (nx8 _ _ rfl rfl (by show (0:Int)<=0+(m:Int);lia) (nx15 _ _ rfl rfl rfl _ ⟨rfl,a4n (λ e=>?_) (λ e=>?_)⟩))
    ·have eb:b5p t.2.2 m=true:=by
      have h1:=z0h e;rw[e0] at h1;unfold b5p;exact z08 (V.int_inj' h1)
     have em:a5a ks t.2.1 t.2.2 (a1y ks (js'.take i)) (m+1)=c0w (a5a ks t.2.1 t.2.2 (a1y ks (js'.take i)) m) (ks.getD m 0) t.2.1:=by
      show (if b5p t.2.2 m=true then _ else _)=_;rw[z02 eb]
     rw[em];generalize a5a ks t.2.1 t.2.2 (a1y ks (js'.take i)) m=mm at m7 fw;have ak:atI (ks.map V.int) (0+(m:Int))=some (.int (ks.getD m 0)):=by
      rw[z38];exact a0m (by rw[z09,My.a1z (d:=0) hm];rfl)
     generalize ks.getD m 0=kn at ak;obtain⟨kvs,fm,mk,nfm,ffm⟩:=m7.ex;refine nx3 _ rfl M rfl ⟨.inl ⟨kvs,.inl mk.dict⟩,nx18 _ rfl _ rfl kp _ _ _ rfl rfl (SqL.of (m7.keep _ _ kpE kpM (s6 _ _ hk4))) ak ⟨(by show 0<=sizeLine;decide),λ nl hnl=>?_⟩⟩;have sn:=Same.upd (o:=HO.lst []) hnl;have mk':=mk.same sn;have m8:=m7.same sn;have hnl6:H6 nl=none:=m7.old hnl;have hnl8:=a0b (H:=H7) (a:=nl) (o:=HO.lst []);have nlE:nl≠E:=λ z=>by rw[z,m7.ends] at hnl;cases hnl
     have nlM:nl≠M:=λ z=>by rw[z,mk.dict] at hnl;cases hnl
     have nlf:nl ∉ fm:=mk.vals.not hnl;generalize upd H7 nl (.lst [])=H8 at sn mk' m8 hnl8;refine nx12 kvs (Sum.inl kn) mk'.dict rfl (by rw[mk'.len];lia) (λ v hv=>?_) λ hv=>?_
     ·by_cases km:kn∈mm.map (·.1)
      ·obtain⟨c0,f1,f3,va,hc,efm,upm⟩:=mk'.has km;rw[va] at hv;cases hv;have cM:c0≠M:=λ z=>by rw[z,mk'.dict] at hc;cases hc
       have cE:c0≠E:=λ z=>by rw[z,m8.ends] at hc;cases hc
       have cfm:c0∈fm:=by rw[efm];simp
       refine ⟨Or.inl ⟨rfl,_,SqL.of hc⟩,nx11 _ rfl c0 (nx12 _ _ rfl rfl hc (by rw[z04];have:=b6m (k:=kn) fw.2;lia) λ H9 h9 k9=>?_)⟩;refine⟨_,rfl,nx0 kvs fm ?_ nfm ffm,b1a _ _ m8.keys,k9 _ _ cE.symm m8.ends,λ b o n1 n2 eb=>k9 b o (λ z=>by rw[z] at eb;rw[ffm c0 cfm] at eb;cases eb) (m8.keep b o n1 n2 eb)⟩;unfold c0w;rw[z02 km];refine upm H9 _ (k9 _ _ cM.symm mk'.dict) (λ b hb o eb=>k9 b o (λ z=>?_) eb) (by rw[h9,z0z];rfl);rw[efm] at nfm;have:=(nd3.mp nfm).2.2 c0 (z0i.mpr rfl);rw[z] at hb;rcases z0f.mp hb with w | w
       ·exact this.1 w
       ·exact this.2 w
      ·rw[mk'.not km] at hv;cases hv
     ·have km:kn ∉ mm.map (·.1):=λ km=>by
       obtain⟨c0,f1,f3,va,_⟩:=mk'.has km;rw[va] at hv;cases hv
      rw[c2s hv];have hn9:upd H8 M (.dK (kvs++[(Sum.inl kn,V.ref nl)])) nl=some (.lst []):=by rw[a0g nlM];exact hnl8
      refine ⟨Or.inl ⟨rfl,_,SqL.of hn9⟩,nx11 _ rfl nl (nx12 _ _ rfl rfl hn9 (by show 0 < sizeLine;decide) λ H9 h9 k9=>?_)⟩;have kp9:∀ b o,b≠nl->b≠M->H8 b=some o->H9 b=some o:=λ b o n1 n2 eb=>k9 b o n1 (by rw[a0g n2];exact eb)
      refine⟨_,rfl,nx0 (kvs++[(Sum.inl kn,V.ref nl)]) (fm++[nl]) ⟨k9 _ _ nlM.symm a0b,?_,?_⟩ (nd2.mpr ⟨nfm,z1f.mpr ⟨(λ z=>by cases z),.nil⟩,λ x hx=>by rw[z0i.mp hx];exact nlf⟩) λ b hb=>?_,b1a _ _ m8.keys,kp9 _ _ nlE.symm ME.symm m8.ends,λ b o n1 n2 eb=>kp9 b o (λ z=>by rw[z,hnl6] at eb;cases eb) n2 (m8.keep b o n1 n2 eb)⟩
      ·unfold c0w;rw[z01 km,z0z,z0z,mk'.keys];rfl
      ·unfold c0w;rw[z01 km,z0z,z0z];refine(mk'.vals.fr λ b hb o eb=>kp9 b o (λ z=>nlf (z ▸ hb)) (λ z=>?_) eb).app (TFs.one (TF.lst h9 (TFs.ints [t.2.1])));rw[z,mk'.dict] at eb;rcases mk'.vals.live b hb with ⟨_,w⟩ | ⟨_,w⟩<;>rw[z,mk'.dict] at w<;>cases w
      ·rcases z0f.mp hb with w | w
       ·exact ffm b w
       ·rw[z0i.mp w];exact hnl6
    ·have eb:¬ b5p t.2.2 m=true:=λ z=>e (by
      unfold b5p at z;rw[e0];exact z08 (z0b V.int (z0h z)))
     refine⟨_,rfl,?_⟩;show MS _ _ _ _ _ (if b5p t.2.2 m=true then _ else _);rw[z01 eb];exact m7
   ·rintro σ H7 ⟨x8,rfl,m7⟩;refine nx25 _ _ _ _ (a3t kvE (Sum.inl t.2.1) (.int t.1)) rfl ?_ ⟨?_,?_⟩
    ·rw[b0l et];exact m7
    ·exact z0s (a2c _ _ _) (by lia)
    ·intro t' ht';rw[a7m];rw[tk] at ht';rcases z0f.mp ht' with w | w
     ·have hne:¬ (Sum.inl t'.2.1:Key)=Sum.inl t.2.1:=λ z=>by
       have z':t'.2.1=t.2.1:=z2o z;obtain⟨i',hi',ei'⟩:=List.mem_iff_getElem.mp w;rw[z16] at hi';rw[z48] at ei';have hit:=(z0l.mp et);obtain⟨hi2,ei2⟩:=hit;have h3:=z32.mp tnd i' i (by rw[z04];lia) (by rw[z04];exact hi2) (by lia);rw[List.getElem_map,List.getElem_map,ei',ei2] at h3;exact h3 z'
      rw[z01 hne];exact vE t' w
     ·rw[z0i.mp w,z02 rfl]
  ·rintro σ H3 ⟨x5,x6,x7,x8,kvE,rfl,ms,lE,vE⟩;have lz:zs.length=js'.length:=a1c pj6;rw[lz,z0x] at ms vE;have S23:Same H2 H3:=λ b o eb=>ms.keep b o (λ z=>by rw[z,hE] at eb;cases eb) (λ z=>by rw[z,sE.free hM] at eb;cases eb) (s6 _ _ (sM _ _ (sE _ _ eb)))
   have S3:Same H H3:=(s1.trans s2).trans S23;have hk3':=S23 _ _ (s2 _ _ h1);have hd3:=S23 _ _ h2;have tr3:=(c7b pd).same S23;have envl:∀ k,∀ x∈chF (a1y ks js') k,a1r kvE (Sum.inl x)=some (.int (d9j js' x)):=λ k x hx=>by
    obtain⟨m,hm,hx'⟩:=d0z hx;rw[<-z0x (l:=js')] at hm;obtain⟨t,ht,rfl⟩:=b6i _ hm hx';rw[z0x] at ht;rw[e2b tnd ht];exact vE t ht
   have clen:∀ k,(chF (a1y ks js') k).length<=30:=λ k=>b6m λ m hm=>by
    have:=(a8v hk3 js' js'.length).2 m (by rw[z0x];exact hm);lia
   obtain⟨kvs,fm,mk,nfm,ffm⟩:=ms.ex;have mends:=ms.ends;have mkeys:=ms.keys;have ffm0:∀ b∈fm,H b=none:=λ b hb=>S0.free (s6.free (ffm b hb))
   clear vE ms pj pj6 pt;generalize hmm:a1y ks js'=mm at *;generalize hen:d9j js'=en at *;refine⟨(by show 0<=sizeLine;decide),λ D hD=>?_⟩;have hD0:=a0b (H:=H3) (a:=D) (o:=HO.lst []);have sD:=Same.upd (o:=HO.lst []) hD;generalize upd H3 D (.lst [])=H3D at hD0 sD;refine nx3 _ rfl dp rfl ⟨⟨_,SqL.of (sD _ _ hd3)⟩,a2a (K:=K) (a:=dp) (xs:=dv) (λ i σ H7=>∃ (x5 x6 x7 x8 x10 x11 x12 x13 x14 x15:Option V) (lv:List V) (f:List Addr),σ=[some (.ref a),some (.ref kp),some (.ref dp),some (.ref E),some (.ref M),x5,x6,x7,x8,some (.ref D),x10,x11,x12,x13,x14,x15,none]/\Same H3 H7/\H7 D=some (.lst lv)/\lv.length<=i/\TFs H7 lv (((a0z cs).take i).map λ d=>a4j (c1n ks mm en d)) f/\f.Nodup/\(∀ b∈f,H3 b=none)/\D ∉ f) (nx10 _ _ _ (nx2 _ _ (nx19 _ _ _ _ _ ([]) ([]) rfl sD hD0 (z05 _) (.nil) (.nil) ⟨(λ b hb=>by cases hb),(λ hb=>by cases hb)⟩))) (λ i σ H7 _ ⟨_,_,_,_,_,_,_,_,_,_,_,_,_,s7,_⟩=>SqL.of (s7 _ _ hd3)) ?_ ?_⟩
   ·rintro i y σ H7 hy ⟨x5,x6,x7,x8,x10,x11,x12,x13,x14,x15,lv,f,rfl,S7,hD7,lli,tf,nf,ff,Df⟩;obtain⟨dd,edd,trd⟩:=tr3.get hy;rw[z09] at edd;obtain⟨d,ed,rfl⟩:=z1z.mp edd;obtain⟨p,tt,bb,rfl,hp,htt,hbb⟩:=c6n (trd.same S7);obtain⟨_,d3,b3,_⟩:=dh d (z0c ed);have hi8:i < 8:=by have:=(z0l.mp ed).1;lia
    have tkd:(a0z cs).take (i+1)=(a0z cs).take i++[d]:=by rw[z0v,ed];rfl
    refine nx15 p _ rfl (SqT.of hp) rfl _ (nx11 _ rfl _ (nx11 _ rfl _ (nx11 _ rfl _ (nx11 _ rfl _ (nx7 _ rfl _ _ rfl rfl ?_)))));refine⟨(by show 0<=sizeLine;decide),λ L hL=>?_⟩;have hL0:=a0b (H:=H7) (a:=L) (o:=HO.lst []);have sL:=Same.upd (o:=HO.lst []) hL;generalize upd H7 L (.lst [])=H7L at hL0 sL;refine nx33 _ rfl _ _ rfl (.inl ⟨_,SqL.of (sL _ _ htt),rfl⟩) _ ⟨rfl,(by rw[z04];lia),(by rw[z04];lia),?_⟩;rw[z25,z04];refine a4c (λ j σ H8=>∃ (x14 x15:Option V) (lkv:List V) (g:List Addr),σ=[some (.ref a),some (.ref kp),some (.ref dp),some (.ref E),some (.ref M),some (.int d.fin),some (.int d.num),some (.int d.mad),x8,some (.ref D),some (.str d.wrd),some (.ref tt),some (.ref bb),some (.ref L),x14,x15,none]/\Same H7 H8/\H8 L=some (.lst lkv)/\lkv.length<=j/\TFs H8 lkv ((List.range j).map λ j=>a3x (c0e ks mm en d.num (d.tms.getD j 0) (d.bts.getD j 0))) g/\g.Nodup/\(∀ b∈g,H7 b=none)/\L ∉ g) (nx14 _ _ ([]) ([]) rfl sL hL0 (z05 _) (.nil) ⟨.nil,(λ b hb=>by cases hb),(λ hb=>by cases hb)⟩) ?_ ?_
    ·rintro j σ H8 hj ⟨x14',x15',lkv,g,rfl,S8,hL8,llj,tg,ng,fg,Lg⟩;have hkp8:=S8 _ _ (S7 _ _ hk3');have hbb8:=S8 _ _ hbb;have hj0:(0+(j:Int))=(j:Int):=z38 _;have ab:atI (d.bts.map V.int) (0+(j:Int))=some (.int (d.bts.getD j 0)):=by
      rw[hj0];exact a0m (by rw[z09,My.a1z (d:=0) (show j < d.bts.length by lia)];rfl)
     have at_:atI (d.tms.map V.int) (0+(j:Int))=some (.int (d.tms.getD j 0)):=by
      rw[hj0];exact a0m (by rw[z09,My.a1z (d:=0) hj];rfl)
     have rsn:(List.range (j+1)).map (λ j=>a3x (c0e ks mm en d.num (d.tms.getD j 0) (d.bts.getD j 0)))=(List.range j).map (λ j=>a3x (c0e ks mm en d.num (d.tms.getD j 0) (d.bts.getD j 0)))++[a3x (c0e ks mm en d.num (d.tms.getD j 0) (d.bts.getD j 0))]:=by rw[z28,z0z];rfl
     rw[rsn];generalize d.bts.getD j 0=bj at ab;generalize d.tms.getD j 0=tj at at_;refine nx3 _ rfl kp rfl ⟨⟨_,SqL.of hkp8⟩,e1n (k:=1) (fs:=[some (.ref kp),some (.ref bb),some (.int (0+(j:Int)))]) ks PyData.int (λ k=>if b5p bj (ks.idxOf k)=true then some (.int k) else none) rfl hkp8 (Trs.ofInts ks) (by lia) (λ k hk H9 ts v R ss hts' tr cont=>?_) (λ C2 H9 hC2 s9 h9=>?_)⟩
     ·cases tr;obtain⟨t,rfl⟩:=z1g.mp hts';have cn:=cont [some (.int k)] H9 rfl (Same.refl _);refine nx18 _ rfl _ rfl bb _ _ _ rfl rfl (SqL.of (ss _ _ hbb8)) ab (nx35 _ rfl (Or.inl ⟨rfl,_,SqL.of (ss _ _ hkp8)⟩) _ rfl kp (nx27 ks k rfl rfl (SqL.of (ss _ _ hkp8)) (by lia) hk (nx8 _ _ rfl rfl (by show (0:Int)<=_;lia) (nx15 _ _ rfl rfl rfl _ ⟨rfl,a4n (λ e=>?_) (λ e=>?_)⟩))))
      ·have eb:b5p bj (ks.idxOf k)=true:=by
        have h1:=z0h e;rw[z25] at h1;unfold b5p;exact z08 (V.int_inj' h1)
       rw[z02 eb] at cn;exact⟨_,rfl,cn⟩
      ·have eb:¬ b5p bj (ks.idxOf k)=true:=λ z=>e (by
        unfold b5p at z;rw[z25];exact z08 (z0b V.int (z0h z)))
       rw[z01 eb] at cn;exact cn
     rw[d2z] at h9;have lth:(b8c ks bj).length<=3:=z0s (z4b _ _) hk3;have S9:=S7.trans (S8.trans s9);have mk9:=mk.same S9;have hE9:=S9 _ _ mends;have htt9:=s9 _ _ (S8 _ _ htt);refine nx35 _ rfl (Or.inl ⟨rfl,_,SqL.of (s9 _ _ hL8)⟩) _ rfl C2 ⟨rfl,⟨_,SqL.of h9⟩,e0u (k:=1) (fs:=[some (.ref E),some (.ref M),some (.int d.num),some (.ref tt),some (.int (0+(j:Int)))]) (b8c ks bj) (λ _=>[]) PyData.int (λ k=>b0a (k,d1i en d.num tj (chF mm k))) rfl h9 (Trs.ofInts _) (by lia) (z32.mpr λ _ _ _ _ _ b hb=>by cases hb) (λ _ _ b hb=>by cases hb) (λ k hk H10 ts v R ss hts' tr cont=>?_) (λ C3 H10 ys f3 hC3 s10 h10 t10 n10 fr10 D10=>?_)⟩
     ·cases tr;obtain⟨t,rfl⟩:=z1g.mp hts';refine nx3 _ rfl _ rfl (nx6 M rfl (.inl ⟨kvs,.inl (ss _ _ mk9.dict)⟩) _ rfl ⟨(by show 0<=sizeLine;decide),λ el hel=>?_⟩);have s5':=Same.upd (o:=HO.lst []) hel;obtain⟨ca,eca,hca⟩:∃ ca,(a1r kvs (Sum.inl k)).getD (.ref el)=.ref ca/\upd H10 el (.lst []) ca=some (.lst ((chF mm k).map V.int)):=by
       by_cases km:k∈mm.map (·.1)
       ·obtain⟨c0,f1,f3,va,hc,_⟩:=mk9.has km;exact⟨c0,by rw[va];rfl,s5' _ _ (ss _ _ hc)⟩
       ·exact⟨el,by rw[mk9.not km];rfl,by rw[a2x km];exact a0b⟩
      refine nx22 _ (b0y.k (k:=Sum.inl k) (s5' _ _ (ss _ _ mk9.dict))) _ rfl _ ⟨rfl,nx18 _ rfl _ rfl tt _ _ _ rfl rfl (SqL.of (s5' _ _ (ss _ _ htt9))) at_ (nx10 ca E kvE (nx14 (chF mm k) en d.num tj (by rw[eca];rfl) hca (s5' _ _ (ss _ _ hE9)) (envl k) (by show 2<=sizeLine;decide) λ tp htp=>cont (.ref tp) [tp] [_] _ rfl (s5'.trans (Same.upd htp)) (c1l (p:=(k,d1i en d.num tj (chF mm k))) a0b) (z1f.mpr ⟨(λ z=>by cases z),.nil⟩) λ b hb=>.inl (by rw[z0i.mp hb];exact s5'.free htp)))⟩
     have fr11:∀ b∈f3,H9 b=none:=λ b hb=>(fr10 b hb).elim id λ ⟨_,_,z⟩=>by cases z
     have S10:=S8.trans (s9.trans s10);refine nx17 L lkv (.ref C3) rfl rfl (s10 _ _ (s9 _ _ hL8)) (by lia) λ H11 h11 k11=>?_;have L3:L ∉ f3:=λ z=>by have:=fr11 L z;rw[s9 _ _ hL8] at this;cases this
     have LC:C3≠L:=λ z=>by rw[z,s9 _ _ hL8] at hC3;cases hC3
     refine nx14 _ _ (lkv++[.ref C3]) (g++(C3::f3)) rfl (λ b o eb=>k11 b o (λ z=>by rw[z,hL] at eb;cases eb) (S10 _ _ eb)) h11 (by rw[z0j];show _+1<=_;lia) ?_ ⟨?_,?_,?_⟩
     ·refine(tg.fr λ b hb o eb=>k11 b o (λ z=>Lg (z ▸ hb)) (s10 _ _ (s9 _ _ eb))).app (TFs.one (TF.lst (k11 _ _ LC h10) ?_));unfold c0e;rw[z15];exact t10.fr λ b hb o eb=>k11 b o (λ z=>L3 (z ▸ hb)) eb
     ·refine nd2.mpr ⟨ng,z1f.mpr ⟨D10,n10⟩,λ x hx z=>?_⟩;rcases z0a.mp hx with w | w
      ·rw[w] at z;exact(tg.same s9).not hC3 z
      ·exact(tg.same s9).not (fr11 x w) z
     ·intro b hb;rcases z0f.mp hb with w | w
      ·exact fg b w
      ·rcases z0a.mp w with w | w
       ·rw[w];exact S8.free (s9.free hC3)
       ·exact S8.free (s9.free (fr11 b w))
     ·intro hb;rcases z0f.mp hb with w | w
      ·exact Lg w
      ·rcases z0a.mp w with w | w
       ·exact LC w.symm
       ·exact L3 w
    ·rintro σ H8 ⟨x14',x15',lkv,g,rfl,S8,hL8,llj,tg,ng,fg,Lg⟩;refine nx6 _ rfl (Or.inl ⟨rfl,_,SqL.of (S8 _ _ hD7)⟩) _ rfl (nx3 _ rfl _ rfl ⟨(by show 3<=sizeLine;decide),λ tp htp=>?_⟩);have st':=Same.upd (o:=HO.tup [V.int d.num,V.str d.wrd,V.ref L]) htp;refine nx17 D lv (.ref tp) rfl rfl (st' _ _ (S8 _ _ hD7)) (by lia) λ H9 h9 k9=>?_;have LD:L≠D:=λ z=>by rw[z,hD7] at hL;cases hL
     have tD:tp≠D:=λ z=>by rw[z,S8 _ _ hD7] at htp;cases htp
     have Dg:D ∉ g:=λ z=>by have:=fg D z;rw[hD7] at this;cases this
     have k9':∀ b o,b≠D->H8 b=some o->H9 b=some o:=λ b o n e=>k9 b o n (st' _ _ e)
     refine nx10 _ _ _ (nx2 _ _ (nx19 _ _ _ _ _ (lv++[.ref tp]) (f++(tp::L::g)) rfl (λ b o eb=>k9' b o (λ z=>by rw[z,hD] at eb;cases eb) (S8 _ _ (S7 _ _ eb))) h9 (by rw[z0j];show _+1<=_;lia) ?_ ?_ ⟨?_,?_⟩))
     ·rw[tkd,z0z];refine(tf.fr λ b hb o eb=>k9' b o (λ z=>Df (z ▸ hb)) (S8 _ _ eb)).app (TFs.one (c2j (d:=c1n ks mm en d) (k9 _ _ tD a0b) (k9' _ _ LD hL8) ?_));unfold c1n;dsimp only;rw[z15];exact tg.fr λ b hb o eb=>k9' b o (λ z=>Dg (z ▸ hb)) eb
     ·refine nd2.mpr ⟨nf,z1f.mpr ⟨?_,z1f.mpr ⟨Lg,ng⟩⟩,λ x hx z=>?_⟩
      ·intro z;rcases z0a.mp z with w | w
       ·rw[w,hL8] at htp;cases htp
       ·exact tg.not htp w
      ·rcases z0a.mp hx with w | w
       ·rw[w] at z;exact(tf.same S8).not htp z
       ·rcases z0a.mp w with w | w
        ·rw[w] at z;exact tf.not hL z
        ·exact tf.not (fg x w) z
     ·intro b hb;rcases z0f.mp hb with w | w
      ·exact ff b w
      ·rcases z0a.mp w with w | w
       ·rw[w];exact S7.free (S8.free htp)
       ·rcases z0a.mp w with w | w
        ·rw[w];exact S7.free hL
        ·exact S7.free (fg b w)
     ·intro hb;rcases z0f.mp hb with w | w
      ·exact Df w
      ·rcases z0a.mp w with w | w
       ·exact tD w.symm
       ·rcases z0a.mp w with w | w
        ·exact LD w.symm
        ·exact Dg w
   ·rintro σ H7 ⟨x5,x6,x7,x8,x10,x11,x12,x13,x14,x15,lv,f,rfl,S7,hD7,lli,tf,nf,ff,Df⟩;have ldv:dv.length=(a0z cs).length:=by rw[tr3.len,z04]
    rw[ldv,z0x] at tf;have ecut:d1k (cs.map V.int) (some 10) (some 30)=((cs.drop 10).take 20).map V.int:=c8n cs;have S07:=S3.trans S7;refine nx3 _ rfl 10 rfl (nx7 30 rfl a _ rfl (S07.seq ha) λ sc hsc=>?_);rw[ecut];have ssc:=Same.upd (o:=HO.lst (((cs.drop 10).take 20).map V.int)) hsc;have hsc0:=a0b (H:=H7) (a:=sc) (o:=HO.lst (((cs.drop 10).take 20).map V.int));generalize upd H7 sc (.lst (((cs.drop 10).take 20).map V.int))=H7s at ssc hsc0;have mk7:=mk.same S7;have scf:sc ∉ (D::f)++fm:=λ z=>by
     rcases z0f.mp z with w | w
     ·rcases z0a.mp w with w | w
      ·rw[w,hD7] at hsc;cases hsc
      ·exact tf.not hsc w
     ·exact mk7.vals.not hsc w
    have ta0:TaH H7s D M (stF cs) (D::f) fm:=by
     rw[dfold];refine⟨by rw[z15];exact TF.lst (ssc _ _ hD7) (tf.same ssc),⟨kvs,mk7.same ssc⟩,?_,mkeys⟩;refine nd2.mpr ⟨z1f.mpr ⟨Df,nf⟩,nfm,λ x hx z=>?_⟩;rcases z0a.mp z with w | w
     ·rw[w] at hx;exact mk.vals.not hD hx
     ·exact mk.vals.not (ff x w) hx
    have tf0:∀ b∈(D::f)++fm,H b=none:=λ b hb=>by
     rcases z0f.mp hb with w | w
     ·rcases z0a.mp w with w | w
      ·rw[w];exact S3.free hD
      ·exact S3.free (ff b w)
     ·exact ffm0 b w
    have cl:((cs.drop 10).take 20).length<=20:=List.length_take_le _ _;generalize hcu:(cs.drop 10).take 20=cu at hsc0 cl;refine⟨sc,rfl,⟨_,SqL.of hsc0⟩,a2a (K:=K) (a:=sc) (xs:=cu.map V.int) (λ i σ H9=>∃ (x5 x6 x7 x8 x10 x11 x12 x13 x14 x15 x16:Option V) (fd fm:List Addr),σ=[some (.ref a),some (.ref kp),some (.ref dp),some (.ref E),some (.ref M),x5,x6,x7,x8,some (.ref D),x10,x11,x12,x13,x14,x15,x16]/\Same H H9/\H9 sc=some (.lst (cu.map V.int))/\SpG ((cu.take i).foldl spF (stF cs))/\TaH H9 D M ((cu.take i).foldl spF (stF cs)) fd fm/\(∀ b∈fd++fm,H b=none)/\sc ∉ fd++fm) (nx31 _ _ _ _ _ _ (nx19 _ _ _ _ none (D::f) fm rfl (S07.trans ssc) hsc0 stg ta0 tf0 scf)) (λ i σ H9 _ ⟨_,_,_,_,_,_,_,_,_,_,_,_,_,_,_,h,_⟩=>SqL.of h) ?_ ?_⟩
    ·rintro i y σ H9 hy ⟨x5,x6,x7,x8,x10,x11,x12,x13,x14,x15,x16,fd,fm',rfl,S9,hsc9,sg,ta,tf9,scf9⟩;rw[z09] at hy;obtain⟨c,ec,rfl⟩:=z1z.mp hy;have tkc:(cu.take (i+1)).foldl spF (stF cs)=spF ((cu.take i).foldl spF (stF cs)) c:=by rw[z0v,ec,z4j];rfl
     rw[tkc];generalize (cu.take i).foldl spF (stF cs)=st at sg ta;obtain⟨dv9,f9,efd,hD9,dvs9⟩:=c4t ta.deals;have l9:dv9.length=st.1.length:=by rw[dvs9.len,z04]
     refine ifS (b:=decide (c%6=0/\st.1≠[])) (λ Q2 k2=>?_) (λ H10 s10=>a4n (λ e=>?_) (λ e=>?_))
     ·refine ⟨_,rfl,nx20 _ _ rfl rfl (by show (0:Int) < 6;decide) rfl _ rfl (a4n (λ e=>?_) (λ e=>?_))⟩
      ·have e1:c%6=0:=V.int_inj' (z0h e);refine⟨_,rfl,(by show 0<=sizeLine;decide),λ nn hnn=> nx28 D nn dv9 rfl rfl (SqL.of (Same.upd hnn _ _ hD9)) (SqL.of a0b) _ rfl ?_⟩;have:(!dv9.isEmpty)=decide (c%6=0/\st.1≠[]):=by
        rw[z3p,z5r];cases dv9 with
        | nil=>simp;intro _;exact z2v.mp l9.symm
        | cons a r =>
         simp[e1];intro z;rw[z] at l9;cases l9
       rw[this];exact k2 _ (Same.upd hnn)
      ·have e1:¬ c%6=0:=λ z=>e (z08 (show V.int (c%6)=V.int 0 by rw[z]))
       have:decide (c%6=0/\st.1≠[])=false:=z0n λ z=>e1 z.1
       rw[this] at k2;exact k2 _ (Same.refl _)
     ·have e1:=z0h e;have es:spF st c=a5o st (c / 6):=by unfold spF;rw[z02 e1]
      rw[es];refine nx3 _ rfl _ rfl (nx7 _ rfl _ _ rfl rfl ⟨⟨by decide,by decide⟩,nx32 D M (c / 6) st fd fm' rfl (ta.same s10) e1.2 sg λ H11 fd' fm2 ta11 kp11 fr11=>?_⟩);refine nx31 _ _ _ _ _ _ (nx19 _ _ _ _ _ fd' fm2 rfl (λ b o eb=>kp11 b o (λ z=>by rw[tf9 b z] at eb;cases eb) (s10 _ _ (S9 _ _ eb))) (kp11 _ _ scf9 (s10 _ _ hsc9)) (b8r sg _) ta11 (λ b hb=>?_) λ hb=>?_)
      ·rcases fr11 b hb with z | z
       ·exact tf9 b z
       ·exact S9.free (s10.free z)
      ·rcases fr11 sc hb with z | z
       ·exact scf9 z
       ·rw[s10 _ _ hsc9] at z;cases z
     ·have e1:¬ (c%6=0/\st.1≠[]):=λ z=>e (z08 z)
      have es:spF st c=st:=by unfold spF;rw[z01 e1]
      rw[es];exact nx31 _ _ _ _ _ _ (nx19 _ _ _ _ _ fd fm' rfl (S9.trans s10) (s10 _ _ hsc9) sg (ta.same s10) tf9 scf9)
    ·rintro σ H9 ⟨x5,x6,x7,x8,x10,x11,x12,x13,x14,x15,x16,fd,fm',rfl,S9,hsc9,sg,ta,tf9,scf9⟩;rw[z04,z0x] at sg ta;have eT:taS cs=cu.foldl spF (stF cs):=by unfold taS;rw[hcu]
     rw[<-eT] at sg ta;have q':∀ v f H',Same H H'->TF H' v (.tuple [.list ((taS cs).1.map a4j),.list ((a2s ((taS cs).2.map (·.1))).map λ k=>a9l (k,chF (taS cs).2 k))]) f->f.Nodup->(∀ b∈f,H b=none)->Q v H':=λ v f H' a1 a2 a3 a4=>q v f H' a1 (by
      unfold a4o a1v;dsimp only;rw[z15];exact a2) a3 a4
     clear q;generalize taS cs=st at *;obtain⟨tdl,⟨kv9,mk9⟩,nd9,nk9⟩:=ta;refine nx3 _ rfl _ rfl (nx17 M kv9 (st.2.map (·.1)) rfl mk9.dict (by rw[mk9.keys,z15];rfl) (by rw[z04];have:=sg.2.1;lia) λ rl hrl=>⟨rl,rfl,⟨_,SqL.of a0b⟩,?_⟩);have srl:=Same.upd (o:=HO.lst ((a2s (st.2.map (·.1))).map V.int)) hrl;have hrl0:=a0b (H:=H9) (a:=rl) (o:=HO.lst ((a2s (st.2.map (·.1))).map V.int));have mk10:=mk9.same srl;generalize upd H9 rl (.lst ((a2s (st.2.map (·.1))).map V.int))=H10 at srl hrl0 mk10;have adr:=d1d mk10.vals;have pick:∀ k∈st.2.map (·.1),∃ c0,a1r kv9 (Sum.inl k)=some (.ref c0)/\H10 c0=some (.lst ((chF st.2 k).map V.int))/\c0∈fm'/\fm'[ixM st.2 k]?=some c0:=λ k hk=>by
      obtain⟨c0,f1,f3,va,hc,efm,_⟩:=mk10.has hk;refine⟨c0,va,hc,by rw[efm];simp,?_⟩;rw[c3p mk10.keys k,<-z09,adr,z09] at va;obtain⟨x,ex,ey⟩:=z1z.mp va;rw[ex];cases ey;rfl
     have lrs:(a2s (st.2.map (·.1))).length<=30:=by rw[(a1b _).length_eq,z04];exact sg.2.1
     refine e0u (k:=1) (fs:=[some (.ref M)]) (a2s (st.2.map (·.1))) (λ k=>match a1r kv9 (Sum.inl k) with | some (.ref c0)=>[c0] | _=>[]) PyData.int (λ k=>a9l (k,chF st.2 k)) rfl hrl0 (Trs.ofInts _) (by lia) ?_ (λ k hk b hb=>?_) (λ k hk H11 ts v R ss hts' tr cont=>?_) (λ C3 H11 ys f3 hC3 s11 h11 t11 n11 fr11 D11=>?_)
     ·have nr:(a2s (st.2.map (·.1))).Nodup:=((a1b _).nodup_iff).mpr nk9;refine z32.mpr λ i j hi hj hij b hb hb2=>?_
      have hne:=z32.mp nr i j hi hj hij;have m1:(a2s (st.2.map (·.1)))[i]∈st.2.map (·.1):=(a1b _).mem_iff.mp (z3j hi);have m2:(a2s (st.2.map (·.1)))[j]∈st.2.map (·.1):=(a1b _).mem_iff.mp (z3j hj);generalize (a2s (st.2.map (·.1)))[i]=k1 at *;generalize (a2s (st.2.map (·.1)))[j]=k2 at *;obtain⟨c1,v1,_,_,g1⟩:=pick k1 m1;obtain⟨c2,v2,_,_,g2⟩:=pick k2 m2;rw[v1] at hb2;rw[v2] at hb;have e1:=z0i.mp hb2;have e2:=z0i.mp hb;rw[<-e1] at g1;rw[<-e2] at g2;have nfm':=(z2f.mp nd9).2.1;obtain⟨hi1,ei1⟩:=z0l.mp g1;obtain⟨hi2,ei2⟩:=z0l.mp g2;have ixe:=nodup_ix nfm' hi1 hi2 (ei1.trans ei2.symm);have a1:=a3s m1;have a2:=a3s m2;rw[ixe,a2] at a1;exact hne (z0b Prod.fst (z0r a1)).symm
     ·have m1:k∈st.2.map (·.1):=(a1b _).mem_iff.mp hk;obtain⟨c1,v1,h1',_,_⟩:=pick k m1;rw[v1] at hb;rw[z0i.mp hb];exact⟨_,h1'⟩
     ·cases tr;obtain⟨t,rfl⟩:=z1g.mp hts';have m1:k∈st.2.map (·.1):=(a1b _).mem_iff.mp hk;obtain⟨c1,v1,h1',_,_⟩:=pick k m1;have dg:=b0y.k (k:=Sum.inl k) (ss _ _ mk10.dict);rw[v1] at dg;refine nx3 _ rfl _ rfl (nx7 _ rfl M _ rfl dg ⟨(by show 2<=sizeLine;decide),λ tp htp=>?_⟩);have stp:=Same.upd (o:=HO.tup [V.int k,V.ref c1]) htp;refine cont (.ref tp) [tp,c1] [_] _ rfl stp (TF.tup a0b (TFs.cons (f:=[]) (.int k) (TFs.one (TF.lst (stp _ _ (ss _ _ h1')) (TFs.ints _))))) ?_ λ b hb=>?_
      ·refine z1f.mpr ⟨λ z=>?_,z1f.mpr ⟨(λ z=>by cases z),.nil⟩⟩;rw[z0i.mp z,ss _ _ h1'] at htp;cases htp
      ·rcases z0a.mp hb with w | w
       ·rw[w];exact .inl htp
       ·rw[v1];exact .inr w
     have S11:=S9.trans (srl.trans s11);refine⟨(by show 2<=sizeLine;decide),λ tp htp=>?_⟩;have stp:=Same.upd (o:=HO.tup [V.ref D,V.ref C3]) htp;have inf:∀ b∈f3,H9 b=none\/b∈fm':=λ b hb=>(fr11 b hb).elim (λ z=>.inl (srl.free z)) λ ⟨k,hk,z⟩=>by
      have m1:k∈st.2.map (·.1):=(a1b _).mem_iff.mp hk;obtain⟨c1,v1,_,cf,_⟩:=pick k m1;rw[v1] at z;rw[z0i.mp z];exact .inr cf
     have td11:=tdl.same (srl.trans s11);have fdl:∀ b∈fd,∃ o,H9 b=some o:=λ b hb=>by rcases tdl.live b hb with ⟨_,z⟩ | ⟨_,z⟩<;>exact⟨_,z⟩
     refine q' (.ref tp) (tp::(fd++(C3::f3))) _ (S11.trans stp) (TF.tup a0b (TFs.cons (td11.same stp) (TFs.one (TF.lst (stp _ _ h11) (t11.same stp))))) ?_ λ b hb=>?_
     ·refine z1f.mpr ⟨λ z=>?_,nd2.mpr ⟨(z2f.mp nd9).1,z1f.mpr ⟨D11,n11⟩,λ x hx z=>?_⟩⟩
      ·rcases z0f.mp z with w | w
       ·exact td11.not htp w
       ·rcases z0a.mp w with w | w
        ·rw[w,h11] at htp;cases htp
        ·exact t11.not htp w
      ·rcases z0a.mp hx with w | w
       ·rw[w] at z;exact(tdl.same srl).not hC3 z
       ·rcases inf x w with y | y
        ·exact tdl.not y z
        ·exact(z2f.mp nd9).2.2 x z x y rfl
     ·rcases z0a.mp hb with w | w
      ·rw[w];exact S11.free htp
      ·rcases z0f.mp w with w | w
       ·exact tf9 b (z1x _ w)
       ·rcases z0a.mp w with w | w
        ·rw[w];exact S9.free (srl.free hC3)
        ·rcases inf b w with y | y
         ·exact S9.free y
         ·exact tf9 b (z1e _ y)
--@STAGE
theorem b8h (T:Tx K mg):T.a8p.Ok mg P w base 1 (b4z .loose):=by
 refine okF T.a8p.F b9d λ _ _ _ _ _ _ _ _ _ h=>?_
 ·obtain⟨x,rfl,q⟩:=h;exact⟨_,(a0f (a0k a1s)),q⟩
theorem c1z (T:Tx K mg):T.b0f.Ok mg P w base 1 (b4z .kept):=by
 refine okF T.b0f.F c2d λ _ _ _ _ _ _ _ _ _ h=>?_
 ·obtain⟨x,rfl,q⟩:=h;exact⟨_,(a0f (a0k a1s)),q⟩
theorem c2o (T:Tx K mg):T.b0x.Ok mg P w base 1 (b4z .make):=by
 refine okF T.b0x.F c0v λ _ _ _ _ _ _ _ _ _ h=>?_
 ·obtain⟨x,rfl,q⟩:=h;exact⟨_,(a0f (a0k a1s)),q⟩
theorem b9v (T:Tx K mg):T.a8k.Ok mg P w base 1 (b4z .watch):=by
 refine okF T.a8k.F b8d λ _ _ _ _ _ _ _ _ _ h=>?_
 ·obtain⟨x,rfl,q⟩:=h;exact⟨_,(a0f (a0k a1s)),q⟩
theorem c1m (T:Tx K mg):T.b0u.Ok mg P w base 1 (b4z .hold):=by
 refine okF T.b0u.F c0r λ _ _ _ _ _ _ _ _ _ h=>?_
 ·obtain⟨x,rfl,q⟩:=h;exact⟨_,(a0f (a0k a1s)),q⟩
theorem d8t (T:Tx K mg):∀ l,∃ f fd ps,Cls K (cO T l)/\a8q K (cO T l) "word" f/\b1f P w K mg base CX0 1 f fd ps (b4z l)/\a4p K fd ps []:=by
 intro l;cases l
 ·exact nx4 _ _ _ T.a9n.cl T.b7c (b8h T) T.a8p.b
 ·exact nx4 _ _ _ T.b3j.cl T.b9n (c1z T) T.b0f.b
 ·exact nx4 _ _ _ T.b2g.cl T.b8i (c2o T) T.b0x.b
 ·exact nx4 _ _ _ T.a9k.cl T.b7m (b9v T) T.a8k.b
 ·exact nx4 _ _ _ T.b2i.cl T.b9s (c1m T) T.b0u.b
theorem b5w (T:Tx K mg):T.a6w.Ok mg P w base 1 (a7k .loose):=by
 refine okF T.a6w.F b6s λ _ _ _ _ _ _ _ _ _ h=>?_
 ·obtain⟨x,n,rfl,q⟩:=h;exact⟨_,(a0f (a0k a0c)),q⟩
theorem b8f (T:Tx K mg):T.a8b.Ok mg P w base 1 (a7k .kept):=by
 refine okF T.a8b.F c0b λ _ _ _ _ _ _ _ _ _ h=>?_
 ·obtain⟨x,n,rfl,q⟩:=h;exact⟨_,(a0f (a0k (a0p a3v (pv 1) a0c))),nx7 _ rfl _ _ rfl rfl q⟩
theorem b9x (T:Tx K mg):T.a8o.Ok mg P w base 1 (a7k .make):=by
 refine okF T.a8o.F c0h λ _ _ _ _ _ _ _ _ _ h=>?_
 ·obtain⟨x,n,rfl,q⟩:=h;exact⟨_,(a0f (a0k a0c)),q⟩
theorem b6f (T:Tx K mg):T.a6l.Ok mg P w base 1 (a7k .watch):=by
 refine okF T.a6l.F b6c λ _ _ _ _ _ _ _ _ _ h=>?_
 ·obtain⟨x,n,rfl,q⟩:=h;exact⟨_,(a0f (a0k a0c)),q⟩
theorem b8l (T:Tx K mg):T.a8a.Ok mg P w base 1 (a7k .hold):=by
 refine okF T.a8a.F c0a λ _ _ _ _ _ _ _ _ _ h=>?_
 ·obtain⟨x,n,rfl,q⟩:=h;exact⟨_,(a0f (a0k a0c)),q⟩
theorem d3z (T:Tx K mg):∀ l,∃ f fd ps,Cls K (cO T l)/\a8q K (cO T l) "spots" f/\b1f P w K mg base CX0 1 f fd ps (a7k l)/\a4p K fd ps []:=by
 intro l;cases l
 ·exact nx4 _ _ _ T.a9n.cl T.b4k (b5w T) T.a6w.b
 ·exact nx4 _ _ _ T.b3j.cl T.b7f (b8f T) T.a8b.b
 ·exact nx4 _ _ _ T.b2g.cl T.b5v (b9x T) T.a8o.b
 ·exact nx4 _ _ _ T.a9k.cl T.b4h (b6f T) T.a6l.b
 ·exact nx4 _ _ _ T.b2i.cl T.b5z (b8l T) T.a8a.b
theorem b1m (T:Tx K mg):T.a4b.Ok mg P w base 1 (b2k .loose):=by
 refine okF T.a4b.F b1k λ _ _ _ _ _ _ _ _ _ h=>?_
 ·obtain⟨x,n,rfl,q⟩:=h;exact⟨_,(a0f (a0k a3p)),q⟩
theorem b2l (T:Tx K mg):T.a4y.Ok mg P w base 1 (b2k .kept):=by
 refine okF T.a4y.F b3q λ _ _ _ _ _ _ _ _ _ h=>?_
 ·obtain⟨x,n,rfl,q⟩:=h;exact⟨_,(a0f (a0k (pv 1))),⟨_,rfl,q⟩⟩
theorem a6k (T:Tx K mg):T.a3l.Ok mg P w base 1 (b2k .make):=by
 refine okF T.a3l.F b3l λ _ _ _ _ _ _ _ _ _ h=>?_
 ·obtain⟨x,n,rfl,q⟩:=h;exact⟨_,(a0f (a0k a0c)),q⟩
theorem b2v (T:Tx K mg):T.a4w.Ok mg P w base 1 (b2k .hold):=by
 refine okF T.a4w.F b4a λ _ _ _ _ _ _ _ _ _ h=>?_
 ·obtain⟨x,n,rfl,q⟩:=h;exact⟨_,(a0f (a0k a0c)),q⟩
theorem c0f (T:Tx K mg):∀ l,∃ f fd ps,Cls K (cO T l)/\a8q K (cO T l) "look_spot" f/\b1f P w K mg base CX0 1 f fd ps (b2k l)/\a4p K fd ps []:=by
 intro l;cases l
 ·exact nx4 _ _ _ T.a9n.cl T.a9o (b1m T) T.a4b.b
 ·exact nx4 _ _ _ T.b3j.cl T.b0p (b2l T) T.a4y.b
 ·exact nx4 _ _ _ T.b2g.cl T.b0e (a6k T) T.a3l.b
 ·exact nx4 _ _ _ T.a9k.cl T.a8w (a6k T) T.a3l.b
 ·exact nx4 _ _ _ T.b2i.cl T.a9z (b2v T) T.a4w.b
theorem b0g (T:Tx K mg):T.a3u.Ok mg P w base 1 (a9f .loose):=by
 refine okF T.a3u.F b0t λ _ _ _ _ _ _ _ _ _ h=>?_
 ·obtain⟨x,n,rfl,q⟩:=h;exact⟨_,(a0f (a0k a0c)),q⟩
theorem b1l (T:Tx K mg):T.a4i.Ok mg P w base 1 (a9f .kept):=by
 refine okF T.a4i.F b1p λ _ _ _ _ _ _ _ _ _ h=>?_
 ·obtain⟨x,n,rfl,q⟩:=h;exact⟨_,(a0f (a0k (pv 1))),⟨_,rfl,q⟩⟩
theorem a6f (T:Tx K mg):T.a3c.Ok mg P w base 1 (a9f .make):=by
 refine okF T.a3c.F b1n λ _ _ _ _ _ _ _ _ _ h=>?_
 ·obtain⟨x,n,rfl,q⟩:=h;exact⟨_,(a0f (a0k a0c)),q⟩
theorem b1j (T:Tx K mg):T.a4h.Ok mg P w base 1 (a9f .hold):=by
 refine okF T.a4h.F b1r λ _ _ _ _ _ _ _ _ _ h=>?_
 ·obtain⟨x,n,rfl,q⟩:=h;exact⟨_,(a0f (a0k a0c)),q⟩
theorem b6g (T:Tx K mg):∀ l,∃ f fd ps,Cls K (cO T l)/\a8q K (cO T l) "first_spot" f/\b1f P w K mg base CX0 1 f fd ps (a9f l)/\a4p K fd ps []:=by
 intro l;cases l
 ·exact nx4 _ _ _ T.a9n.cl T.a7y (b0g T) T.a3u.b
 ·exact nx4 _ _ _ T.b3j.cl T.a9u (b1l T) T.a4i.b
 ·exact nx4 _ _ _ T.b2g.cl T.a8r (a6f T) T.a3c.b
 ·exact nx4 _ _ _ T.a9k.cl T.a8l (a6f T) T.a3c.b
 ·exact nx4 _ _ _ T.b2i.cl T.a9a (b1j T) T.a4h.b
def b4q (cls:Lv->Addr):Sp:=λ vs H Q _=>∃ x:Str,vs=[.str x]/\(∃ l,x=wd l)/\∀ l,x=wd l->∀ a dx H',Same H H'->H' a=some (.ins (cls l) dx [])->Q (.ref a) H'
theorem b5q (T:Tx K mg):T.a8x.Ok P w base 2 (b4q (cO T)):=by
 refine okF T.a8x.F b5g λ _ _ _ _ H _ _ _ hr h=>?_
 ·obtain⟨x,rfl,⟨lx,hx⟩,k⟩:=h;refine⟨_,(a0e (a1w z18 rfl (a1a (a1d (a0a (b2m T.a9n.mo rfl T.d7o) (a0a (b2m T.b3j.mo rfl T.e2w) (a0a (b2m T.b2g.mo rfl T.e1b) (a0a (b2m T.a9k.mo rfl T.d9g) (a0a (b2m T.b2i.mo rfl T.e0d) a0d))))))) (pgm 1 b5g.nd)
   (a0f (a2b (a0j a4f (c7o (pv 1) (d8t T) (hr.mono (by decide))) (pv 0) (a0n _))
   (a0f (a0k (pv 1)))
   a0u)))
   (a0f d2l)),?_⟩
  show let z0:TS:=_;a1h (b0o _ _ (a5p _ _ _)) z0 _ _ _
  intros;intro x1 d1 h1 e1 n1;have s1:=Same.newO (C:=T.a4z) h1 e1 n1;have o1:=a0b (H:=upd H d1 (.own x1)) (a:=x1) (o:=HO.ins T.a4z d1 []);generalize upd (upd H d1 (.own x1)) x1 (.ins T.a4z d1 [])=H1 at s1 o1 ⊢;intro x2 d2 h2 e2 n2;have s2:=Same.newO (C:=T.a7t) h2 e2 n2;have o2:=a0b (H:=upd H1 d2 (.own x2)) (a:=x2) (o:=HO.ins T.a7t d2 []);generalize upd (upd H1 d2 (.own x2)) x2 (.ins T.a7t d2 [])=H2 at s2 o2 ⊢;intro x3 d3 h3 e3 n3;have s3:=Same.newO (C:=T.a7v) h3 e3 n3;have o3:=a0b (H:=upd H2 d3 (.own x3)) (a:=x3) (o:=HO.ins T.a7v d3 []);generalize upd (upd H2 d3 (.own x3)) x3 (.ins T.a7v d3 [])=H3 at s3 o3 ⊢;intro x4 d4 h4 e4 n4;have s4:=Same.newO (C:=T.a5d) h4 e4 n4;have o4:=a0b (H:=upd H3 d4 (.own x4)) (a:=x4) (o:=HO.ins T.a5d d4 []);generalize upd (upd H3 d4 (.own x4)) x4 (.ins T.a5d d4 [])=H4 at s4 o4 ⊢;intro x5 d5 h5 e5 n5;have s5:=Same.newO (C:=T.a7q) h5 e5 n5;have o5:=a0b (H:=upd H4 d5 (.own x5)) (a:=x5) (o:=HO.ins T.a7q d5 []);generalize upd (upd H4 d5 (.own x5)) x5 (.ins T.a7q d5 [])=H5 at s5 o5 ⊢;refine⟨(by show 5<=sizeLine;decide),λ p hp=>?_⟩;have s6:=Same.upd (o:=HO.lst [V.ref x1,.ref x2,.ref x3,.ref x4,.ref x5]) hp;have hpl:=a0b (H:=H5) (a:=p) (o:=HO.lst [V.ref x1,.ref x2,.ref x3,.ref x4,.ref x5]);have SS:Same H (upd H5 p (.lst [V.ref x1,.ref x2,.ref x3,.ref x4,.ref x5])):=s1.trans (s2.trans (s3.trans (s4.trans (s5.trans s6))));replace o1:=s6 _ _ (s5 _ _ (s4 _ _ (s3 _ _ (s2 _ _ o1))));replace o2:=s6 _ _ (s5 _ _ (s4 _ _ (s3 _ _ o2)));replace o3:=s6 _ _ (s5 _ _ (s4 _ _ o3));replace o4:=s6 _ _ (s5 _ _ o4);replace o5:=s6 _ _ o5;generalize upd H5 p (HO.lst [V.ref x1,.ref x2,.ref x3,.ref x4,.ref x5])=H6 at hpl SS o1 o2 o3 o4 o5 ⊢;clear s1 s2 s3 s4 s5 s6 h1 h2 h3 h4 h5 e1 e2 e3 e4 e5;have at_:∀ (i:Nat) y,[V.ref x1,.ref x2,.ref x3,.ref x4,.ref x5][i]?=some y->∃ l a dx,ix l=i/\y=V.ref a/\H6 a=some (.ins (cO T l) dx []):=λ i y hy=>by
   match i,hy with
   | 0,hy=>exact nx21 (.loose) x1 d1 rfl ((z0r hy).symm) o1
   | 1,hy=>exact nx21 (.kept) x2 d2 rfl ((z0r hy).symm) o2
   | 2,hy=>exact nx21 (.make) x3 d3 rfl ((z0r hy).symm) o3
   | 3,hy=>exact nx21 (.watch) x4 d4 rfl ((z0r hy).symm) o4
   | 4,hy=>exact nx21 (.hold) x5 d5 rfl ((z0r hy).symm) o5
   | n+5,hy=>simp at hy
  refine⟨p,rfl,⟨_,SqL.of hpl⟩,a2a (K:=K) (a:=p) (xs:=[V.ref x1,.ref x2,.ref x3,.ref x4,.ref x5])
   (λ i σ Hn=>Hn=H6/\∃ (y:Option V),σ=[some (.str x),y]/\∀ l,ix l < i->x≠wd l)
   ⟨rfl,none,rfl,λ l h=>absurd h (z4w _)⟩ (λ i σ Hn _ ⟨z,_⟩=>z ▸ SqL.of hpl) ?_ ?_⟩
  ·rintro i y σ Hn hy ⟨z2,y0,rfl,hno⟩;subst z2;obtain⟨l,a,dx,hix,rfl,ha⟩:=at_ i y hy;refine nx29 _ rfl a l dx ([]) rfl ha rfl ⟨_,rfl,nx6 _ rfl rfl _ rfl (a4n (λ e=>?_) (λ e=>?_))⟩
   ·exact⟨_,rfl,k l (V.str.inj (z0h e)).symm a dx _ SS ha⟩
   ·refine⟨rfl,_,rfl,λ l' hl'=>?_⟩;rcases Nat.lt_succ_iff_lt_or_eq.mp hl' with z | z
    ·exact hno l' z
    ·have:l'=l:=by
      rw[<-hix] at z;cases l'<;>cases l<;>first | rfl | cases z
     rw[this];exact λ q=>e (z08 (z0b V.str q.symm))
  ·rintro σ Hn ⟨z2,y0,rfl,hno⟩;subst z2;exact absurd hx (hno lx (by show ix lx < 5;cases lx<;>decide))
--@STAGE
def lvS (x:Str):Lv:=if x="kept" then .kept else if x="make" then .make else if x="watch" then .watch else if x="hold" then .hold else .loose
theorem c4g (h:x∈wds):wd (lvS x)=x:=by
 unfold wds at h;simp only [z0a,z2a,z2c] at h;rcases h with rfl | rfl | rfl | rfl | rfl<;>decide +kernel
theorem e5f (l:Lv):wd l∈wds:=by cases l<;>decide +kernel
theorem d6e (h:wd l=wd m):m=l:=by
 have key:∀ l m:Lv,ix l≠ix m->wd l≠wd m:=by intro l m;cases l<;>cases m<;>decide +kernel
 by_cases e:ix l=ix m
 ·cases l<;>cases m<;>first | rfl | cases e
 ·exact absurd h (key l m e)
def wV:Option Str->V
 | none=>.non
 | some x=>.str x
def lvD (w:Option Str) (d:Dl):Lv:=lvS (w.getD d.2.1)
def a2l (w:Option Str) (d:Dl):List Nk:=(List.range (a1e (lvD w d) (d.2.2.length:Int)).toNat).map λ j:Nat=>(d.1,(j:Int))
def d3a (p:Ps):Prop:=p.1.length<=8/\(p.1.map (·.1)).Nodup/\∀ d∈p.1,d.2.1∈wds/\d.2.2.length<=40
def LvH (cls:Lv->Addr) (H:Hp) (e:Addr) (w:Option Str) (p:Ps):Prop:=∃ kvs,H e=some (.dK kvs)/\∀ d∈p.1,∃ a dx,a1r kvs (Sum.inl d.1)=some (.ref a)/\H a=some (.ins (cls (lvD w d)) dx [])
theorem LvH.same {w:Option Str} (s:Same H H') (h:LvH cls H e w p):LvH cls H' e w p:=let ⟨kvs,a,b⟩:=h;⟨kvs,s _ _ a,λ d hd=>let ⟨x,dx,c,f⟩:=b d hd; (nx9 x dx c (s _ _ f))⟩
def d4i (cls:Lv->Addr):Sp:=λ vs H Q _=>∃ (v:V) (p:Ps) (w:Option Str),vs=[v,wV w]/\Tr H v (a4o p)/\d3a p/\(∀ x,w=some x->x∈wds)/\∀ e H',Same H H'->LvH cls H' e w p->Q (.ref e) H'
def c9x (cls:Lv->Addr):Sp:=λ vs H Q _=>∃ (v:V) (a:Addr) (d:Dl) (w:Option Str) (dx:Addr),vs=[v,.ref a]/\Tr H v (a4j d)/\H a=some (.ins (cls (lvD w d)) dx [])/\d.2.2.length<=40/\∀ D H' ys,H D=none->Same H H'->H' D=some (.lst ys)->Nds H' ys (a2l w d)->Q (.ref D) H'
theorem a3r (h:Tr H v (a4o p)):∃ a l m lv mv,v=.ref a/\H a=some (.tup [.ref l,.ref m])/\H l=some (.lst lv)/\Trs H lv (p.1.map a4j)/\H m=some (.lst mv)/\Trs H mv (p.2.map a9l):=by
 cases h with
 | tup h r =>
  cases r with
  | cons h1 r =>
   cases h1 with
   | lst a1 b1 =>
    cases r with
    | cons h2 r =>
     cases h2 with
     | lst a2 b2 =>
      cases r;exact nx23 _ _ _ _ _ rfl h a1 b1 ⟨a2,b2⟩
theorem a6j (h:Tr H v (a4j d)):∃ p L lv,v=.ref p/\H p=some (.tup [.int d.1,.str d.2.1,.ref L])/\H L=some (.lst lv)/\Trs H lv (d.2.2.map a3x):=by
 cases h with
 | tup h r =>
  cases r with
  | cons h1 r =>
   cases h1;cases r with
   | cons h2 r =>
    cases h2;cases r with
    | cons h3 r =>
     cases h3 with
     | lst a b =>
      cases r;exact nx4 _ _ _ rfl h a b
theorem a9c (w:Option Str) (d:Dl) (h:d.2.2.length<=40):0<=a1e (lvD w d) (d.2.2.length:Int)/\a1e (lvD w d) (d.2.2.length:Int)<=41:=by
 generalize lvD w d=l;cases l<;>simp only [a1e]<;>lia
theorem b3t:∀ (l a:List (Key×V)),((a++l).map (·.1)).Nodup->a4m a l=a++l
 | [],a,_=>by simp[a4m]
 | q::r,a,h=>by
  have e:a3t a q.1 q.2=a++[q]:=c2s (by
   unfold a1r;rw[z64,z4f];intro kv hk z;have z':kv.1=q.1:=z0h z;rw[z0z,z0w,z2f] at h;exact h.2.2 kv.1 (z0d.mpr ⟨kv,hk,rfl⟩) q.1 z1p z')
  show a4m (a3t a q.1 q.2) r=_;rw[e,b3t r (a++[q]) (by simpa using h)];simp
def LvP (cls:Lv->Addr) (w:Option Str) (H:Hp) (y:V) (d:Dl):Prop:=∃ t x dx,y=.ref t/\H t=some (.tup [.int d.1,.ref x])/\H x=some (.ins (cls (lvD w d)) dx [])
theorem e3f {w:Option Str}:∀ H H' y d,KN H H'->LvP cls w H y d->LvP cls w H' y d:=λ H H' y d k ⟨t,x,dx,e,h1,h2⟩=> nx21 t x dx e (k _ _ (λ xs z=>by cases z) h1) (k _ _ (λ xs z=>by cases z) h2)
theorem c8e {cls:Lv->Addr} {w:Option Str} {K:W.Frag} {H:Hp}:∀ {ys:List V} {ds:List Dl},Paired (LvP cls w H) ys ds->∃ ps:List (Key×V),d5p K H ys ps/\ps.map (·.1)=ds.map (λ d=>(Sum.inl d.1:Key))/\∀ d∈ds,∃ x dx,((Sum.inl d.1:Key),V.ref x)∈ps/\H x=some (.ins (cls (lvD w d)) dx [])
 | _,_,.nil=>⟨[],.nil,rfl,λ d hd=>by cases hd⟩
 | _,_,.cons (b:=d) ⟨t,x,dx,e,h1,h2⟩ r=>by
  obtain⟨ps,a,b,c⟩:=c8e r;subst e;refine⟨(Sum.inl d.1,.ref x)::ps,.cons (q:=(Sum.inl d.1,V.ref x)) (SqT.of h1) a,by rw[z0w,z0w,b],λ d' hd'=>?_⟩;rcases z0a.mp hd' with z | z
  ·rw[z];exact nx9 x dx z1p h2
  ·obtain⟨x',dx',m,h⟩:=c d' z;exact nx9 x' dx' (z1j _ m) h
theorem d8p:∀ H H' y (n:Nk),KN H H'->NdV H y n->NdV H' y n:=λ H H' y n k ⟨p,e,h⟩=>⟨p,e,k _ _ (λ xs z=>by cases z) h⟩
theorem d5x (k:KN H H') (h:Nds H ys ns):Nds H' ys ns:=Paired.mapP h λ _ _ z=>d8p _ _ _ _ k z
theorem a5j:∀ {vs:List V} {as:List α},Trs H vs (as.map dx)->Paired (λ v a=>Tr H v (dx a)) vs as
 | _,[],.nil=>.nil
 | _,_::_,.cons h r=>.cons h (a5j r)
theorem c1b (T:Tx K mg):T.a9x.Ok P w base 3 (d4i (cO T)):=by
 refine okF T.a9x.F c2t λ _ A _ _ H _ _ _ hr h=>?_
 ·obtain⟨v,p,wo,rfl,tr,⟨l8,nn,gd⟩,hw,qy⟩:=h;refine⟨_,(b0d (a2b (a0j a8n (pv 1) a3p (a0n _))
   (a0f (a1u (pcF T.a8x (b5q T) hr (a0a (pv 1) a0d))))
   a0u)
   (a0f (a0k (a6h (a7f (K:=K) rfl rfl) (by rfl) T.b3x boot_dict (a0a (pcf ["deal"] ["word"] [1] (a1a (pix a0t (pv 0) a0c)) (pgn 0) a3w (a1j (a0a (pix (a2q (K:=K) rfl) (pv 0) a0c) (a0a (pcF T.a8x (b5q T) hr (a0a (c3i (a0j c3j (pv 1) a3p (a0n _)) (pix (a2q (K:=K) rfl) (pv 0) a0c) (pv 1)) a0d)) a0d)))) a0d))))),?_⟩
  show let z0:TS:=_;d8b (a5p _ _ _) z0 _ _ _
  intros;refine⟨λ σ H1=>σ=[some v,some (wV wo)]/\Same H H1,?_,?_⟩
  ·cases wo with
   | none=>exact nx6 _ rfl rfl _ rfl (a7o (A:=_) ⟨rfl,Same.refl _⟩)
   | some x=>exact nx6 _ rfl rfl _ rfl (b4g (B:=_) (nx3 _ rfl x rfl ⟨⟨lvS x,(c4g (hw x rfl)).symm⟩,λ l e a dx H' s' _=>⟨rfl,s'⟩⟩))
  ·rintro σ H1 ⟨rfl,s1⟩;obtain⟨a,l,m,lv,mv,rfl,ha,hl,tl,_,_⟩:=a3r tr;refine nx16 _ rfl a _ _ _ rfl rfl (SqT.of (s1 _ _ ha)) rfl l rfl ⟨_,SqL.of (s1 _ _ hl)⟩ (a5q (k:=1) (fs:=[some (wV wo)]) (LvP (cO T) wo) (λ H v d=>Tr H v (a4j d)) p.1 some e3f (λ _ _ _ _ ss z=>z.same ss) rfl (s1 _ _ hl) (a5j (tl.same s1)) (by have:sizeLine=2 ^ 24:=rfl;lia) (λ d hd H2 ts v R ss hts trd cont _=>?_) (λ D H2 ys hD s2 h2 pp=>?_))
   ·obtain⟨t,rfl⟩:=z1g.mp hts;obtain⟨pd,L,lkv,rfl,hpd,_,_⟩:=a6j trd;obtain⟨gw,_⟩:=gd d hd;refine nx5 _ rfl pd _ _ _ rfl rfl (SqT.of hpd) rfl ?_;have fin:∀ (x:Str),x∈wds->lvD wo d=lvS x->b4q (cO T) [.str x] H2 (λ y H4=>[V.int d.1,y].length<=sizeLine/\∀ q,H4 q=none->R (some (.ref q)) ([some (.ref pd)]++[some (wV wo)]) (upd H4 q (.tup [.int d.1,y]))) (λ _ _ _=>False):=λ x hx el=>by
     refine⟨x,rfl,⟨lvS x,(c4g hx).symm⟩,λ l e a' dx H' s' h'=>⟨(by show 2<=sizeLine;decide),λ q hq=>cont d _ [_] _ rfl rfl (s'.trans (Same.upd hq)) (nx21 q a' dx rfl a0b (Same.upd hq _ _ ?_))⟩⟩;have:lvD wo d=l:=by
      rw[el];exact d6e (e.symm.trans (c4g hx).symm)
     rw[this];exact h'
    cases wo with
    | none=>exact nx6 _ rfl rfl _ rfl (b4g (B:=_) (nx5 _ rfl pd _ _ _ rfl rfl (SqT.of hpd) rfl (fin d.2.1 gw rfl)))
    | some x=>exact nx6 _ rfl rfl _ rfl (a7o (A:=_) ⟨_,rfl,fin x (hw x rfl) rfl⟩)
   ·rw[z6d] at pp;obtain⟨ps,pr,pk,pv⟩:=c8e (K:=K) pp;have lps:ps.length=p.1.length:=by have:=z0b List.length pk;simpa using this
    have nd:(ps.map (·.1)).Nodup:=by
     rw[pk];exact z26.mpr (z1u (λ z e=>z (z2o e)) (z26.mp nn))
    refine nx17 D ys ps rfl h2 pr (by lia) λ e he=>qy e _ (s1.trans (s2.trans (Same.upd he))) ⟨_,a0b,λ d hd=>?_⟩;rw[b3t ps [] (by simpa using nd)];obtain⟨x,dx,hm,hx⟩:=pv d hd;exact nx9 x dx (a9t nd hm) (Same.upd he _ _ hx)
theorem b5o (T:Tx K mg):T.a9b.Ok P w base 2 (c9x (cO T)):=by
 refine okF T.a9b.F c5o λ _ _ _ _ _ _ _ _ hr h=>?_
 ·obtain⟨v,a,d,wo,dx,rfl,tr,ha,l40,q⟩:=h;refine⟨_,(a0f (a0k (pcf ["place"] ["deal"] [0] (a2m rfl T.a3f (a0a (b7e (pv 1) (d3z T) (hr.mono (by decide)) (a0a (a0q a1f (by rfl) T.a3o z1a (a0a (pix a0t (pv 0) a0c) a0d)) a0d)) a0d)) (pgn 0) a3w (a1j (a0a (pix (a2q (K:=K) rfl) (pv 1) a0c) (a0a (pv 0) a0d)))))),?_⟩;obtain⟨pd,L,lkv,rfl,hpd,hL,tL⟩:=a6j tr;have ll:lkv.length=d.2.2.length:=by rw[tL.len,z04]
  have sl:=a9c wo d l40;refine nx29 _ rfl a (lvD wo d) dx ([]) rfl ha rfl (nx24 _ rfl pd _ _ _ rfl rfl (SqT.of hpd) rfl _ _ rfl (.inl ⟨_,SqL.of hL,rfl⟩) (nx9 _ _ rfl ?_));rw[ll];refine⟨_,rfl,(by lia),(by lia),d5z (k:=1) (fs:=[some (.ref pd)]) NdV _ (λ j=>some (d.1,(j:Int))) d8p rfl (by have:sizeLine=2 ^ 24:=rfl;lia) (λ j hj H2 ts R ss hts cont _=>?_) (λ D H2 ys hD s2 h2 pp=>q D H2 ys hD s2 h2 ?_)⟩
  ·obtain⟨t,rfl⟩:=z1g.mp hts;refine nx16 _ rfl pd _ _ _ rfl rfl (SqT.of (ss _ _ hpd)) rfl _ rfl (by show 2<=sizeLine;decide) λ n hn=>cont _ _ [_] _ rfl rfl (Same.upd hn) ⟨n,rfl,?_⟩;rw[a0b,z38]
  ·unfold a2l;rw[a4u] at pp;exact pp
--@STAGE
theorem b0z (h:∀ d∈ds,d.canLay0=true):PyData.canLayAll0 ds=true:=by
 induction ds with
 | nil=>rfl
 | cons d r ih =>
  show (d.canLay0 && PyData.canLayAll0 r)=true;rw[h d z1p,ih λ e he=>h e (z1j _ he)];rfl
theorem a5r (h:∀ d∈ds,d.depth<=n):PyData.depthAll ds<=n:=by
 induction ds with
 | nil=>exact z0m _
 | cons d r ih =>
  have h1:=h d z1p;have h2:=ih λ e he=>h e (z1j _ he)
  show max d.depth (PyData.depthAll r)<=n;lia
theorem c4w (l:Lk):(a3x l).canLay0=true/\(a3x l).depth<=2:=by
 refine⟨b0z λ d hd=>?_,?_⟩
 ·obtain⟨p,_,rfl⟩:=z0d.mp hd;rfl
 ·have:PyData.depthAll (l.map b0a)<=1:=a5r λ d hd=>by
   obtain⟨p,_,rfl⟩:=z0d.mp hd;exact z05 1
  show PyData.depthAll (l.map b0a)+1<=2;lia
theorem c4j (h:d.2.1∈wds):(a4j d).canLay0=true/\(a4j d).depth<=4:=by
 have hs:∀ x∈wds,(PyData.str x).canLay0=true:=by decide +kernel
 refine⟨?_,?_⟩
 ·show (true && ((PyData.str d.2.1).canLay0 && (PyData.canLayAll0 (d.2.2.map a3x) && true)))=true;rw[hs _ h,b0z λ e he=>by obtain⟨l,_,rfl⟩:=z0d.mp he;exact(c4w l).1];rfl
 ·have:PyData.depthAll (d.2.2.map a3x)<=2:=a5r λ e he=>by
   obtain⟨l,_,rfl⟩:=z0d.mp he;exact(c4w l).2
  show max 0 (max 0 (max (PyData.depthAll (d.2.2.map a3x)+1) 0))+1<=4;lia
theorem c3q (m:Mkr):(a9l m).canLay0=true/\(a9l m).depth<=2:=by
 refine⟨?_,?_⟩
 ·show (true && (PyData.canLayAll0 (m.2.map PyData.int) && true))=true;rw[b0z λ e he=>by obtain⟨l,_,rfl⟩:=z0d.mp he;rfl];rfl
 ·have:PyData.depthAll (m.2.map PyData.int)<=0:=a5r λ e he=>by
   obtain⟨l,_,rfl⟩:=z0d.mp he;exact z05 0
  show max 0 (max (PyData.depthAll (m.2.map PyData.int)+1) 0)+1<=2;lia
theorem d4b (h:∀ d∈p.1,d.2.1∈wds):(a4o p).canLay0=true/\(a4o p).depth < 7/\SeqAt.shaped (a4o p)=true:=by
 have h1:(a4o p).canLay0=true:=by
  show (PyData.canLayAll0 (p.1.map a4j) && (PyData.canLayAll0 (p.2.map a9l) && true))=true;rw[b0z λ e he=>by obtain⟨d,hd,rfl⟩:=z0d.mp he;exact(c4j (h d hd)).1,b0z λ e he=>by obtain⟨d,hd,rfl⟩:=z0d.mp he;exact(c3q d).1];rfl
 have h2:(a4o p).depth < 7:=by
  have a1:PyData.depthAll (p.1.map a4j)<=4:=a5r λ e he=>by
   obtain⟨d,hd,rfl⟩:=z0d.mp he;exact(c4j (h d hd)).2
  have a2:PyData.depthAll (p.2.map a9l)<=2:=a5r λ e he=>by
   obtain⟨d,hd,rfl⟩:=z0d.mp he;exact(c3q d).2
  show max (PyData.depthAll (p.1.map a4j)+1) (max (PyData.depthAll (p.2.map a9l)+1) 0)+1 < 7;lia
 refine⟨h1,h2,?_⟩;unfold SeqAt.shaped;rw[h1,z08 (by lia)];rfl
theorem b5u (cs:List Int):SpG (taS cs):=by
 unfold taS;generalize (cs.drop 10).take 20=cu;have key:∀ (l:List Int) st,SpG st->SpG (l.foldl spF st):=by
  intro l;induction l with
  | nil=>intro st h;exact h
  | cons c r ih=>intro st h;exact ih _ (e1e h c)
 exact key cu _ (c4n cs)
theorem c8s (st:List Dl×List Mkr) (c:Int):(spF st c).1.map (λ d=>(d.1,d.2.1))=st.1.map λ d=>(d.1,d.2.1):=by
 unfold spF;split
 ·unfold a5o;dsimp only;split
  ·rfl
  ·split
   ·rw[z33];by_cases hi:(a0x (c / 6) 2%(st.1.length:Int)).toNat < st.1.length
    ·refine TFs.set_self ?_;rw[z09,My.a1z (d:=zD) hi];rfl
    ·rw[z6v (by rw[z04];lia)]
   ·rfl
 ·rfl
theorem b5c (cs:List Int):(a1v cs).1.map (λ d=>(d.1,d.2.1))=(a0z cs).map λ d=>(d.num,d.wrd):=by
 unfold a1v taS;dsimp only;generalize (cs.drop 10).take 20=cu;have key:∀ (l:List Int) st,(l.foldl spF st).1.map (λ d=>(d.1,d.2.1))=st.1.map λ d=>(d.1,d.2.1):=by
  intro l;induction l with
  | nil=>intro st;rfl
  | cons c r ih=>intro st;exact(ih _).trans (c8s st c)
 rw[key];unfold stF;dsimp only;rw[z15];rfl
theorem c6c {p:Ps} {cs:List Int} (h:p.1.map (λ d=>(d.1,d.2.1))=(a0z cs).map λ d=>(d.num,d.wrd)):p.1.length<=8/\(p.1.map (·.1)).Nodup/\∀ d∈p.1,d.2.1∈wds:=by
 have l:p.1.length=(a0z cs).length:=by have:=z0b List.length h;simpa using this
 refine⟨by rw[l];exact a8t cs,?_,λ d hd=>?_⟩
 ·have:=z0b (List.map Prod.fst) h;rw[z15,z15] at this;have e:p.1.map (·.1)=(a0z cs).map (·.num):=this;rw[e];exact z1u (λ z=>by lia) (a7b cs)
 ·have hm:(d.1,d.2.1)∈(a0z cs).map λ d=>(d.num,d.wrd):=by rw[<-h];exact z0d.mpr ⟨d,hd,rfl⟩
  obtain⟨dw,hdw,e⟩:=z0d.mp hm;have:d.2.1=dw.wrd:=(z0b Prod.snd e).symm;rw[this];exact(a9p hdw).2.2.2
def b9t (cs:List Int):Ps :=
 let t:=a1v cs
 let c:=b1u cs 0 / 256
 if c%8=3/\t.1≠[] then
  let i:=(c / 8%(t.1.length:Int)).toNat
  let d:=t.1.getD i zD
  let l1:=d.2.2++(List.range (c / 64%38).toNat).map λ _=>[]
  let l2:=if l1≠[]/\l1.getD (l1.length - 1) []=[]/\t.2≠[] then l1.set (l1.length - 1) [((t.2.getD 0 (0,[])).1,0)] else l1
  (t.1.set i (d.1,"kept",l2),t.2)
 else t
def c3u (K:W.Frag):Sp:=λ vs H Q _=>∃ (a:Addr) (cs:List Int),vs=[.ref a]/\SqL K H a (cs.map V.int)/\cs.length<=63 /\
 ∀ v H',Same H H'->Tr H' v (a4o (b9t cs))->Q v H'
theorem c5s (h:TF H v (a4o p) f):∃ a l m lv mv f1 f2,v=.ref a/\f=a::(l::f1++(m::f2))/\H a=some (.tup [.ref l,.ref m])/\H l=some (.lst lv)/\TFs H lv (p.1.map a4j) f1/\H m=some (.lst mv)/\TFs H mv (p.2.map a9l) f2:=by
 cases h with
 | tup h r =>
  cases r with
  | cons h1 r =>
   cases h1 with
   | lst a1 b1 =>
    cases r with
    | cons h2 r =>
     cases h2 with
     | lst a2 b2 =>
      cases r;exact nx19 _ _ _ _ _ _ _ rfl (by simp) h a1 b1 a2 b2
def b6u (x:Str) (n:Nat):Int:=if x="kept" then (n:Int)+1 else if x="make" then 2 else 1
def e3j:Sp:=λ vs H Q _=>∃ (x:Str) (L:Addr) (lv:List V),vs=[.str x,.ref L]/\H L=some (.lst lv)/\Q (.int (b6u x lv.length)) H
theorem c4z (h:x∈wds) (n:Nat):b6u x n=a1e (lvS x) (n:Int):=by
 unfold wds at h;simp only [z0a,z2a,z2c] at h;have e1:("loose":Str)≠"kept"/\("loose":Str)≠"make"/\("loose":Str)≠"watch"/\("loose":Str)≠"hold"/\("make":Str)≠"kept"/\("watch":Str)≠"kept"/\("watch":Str)≠"make"/\("hold":Str)≠"kept"/\("hold":Str)≠"make"/\("hold":Str)≠"watch":=by decide +kernel
 obtain⟨a1,a2,a3,a4,a5,a6,a7,a8,a9,a10⟩:=e1;rcases h with rfl | rfl | rfl | rfl | rfl
 ·unfold b6u lvS;rw[z01 a1,z01 a2,z01 a1,z01 a2,z01 a3,z01 a4];rfl
 ·unfold b6u lvS;rw[z02 rfl,z02 rfl];rfl
 ·unfold b6u lvS;rw[z01 a5,z02 rfl,z01 a5,z02 rfl];rfl
 ·unfold b6u lvS;rw[z01 a6,z01 a7,z01 a6,z01 a7,z02 rfl];rfl
 ·unfold b6u lvS;rw[z01 a8,z01 a9,z01 a8,z01 a9,z01 a10,z02 rfl];rfl
def c6d (c:Int):Option Str:=([none,some "loose",some "kept",some "make",some "watch",some "hold",none]:List (Option Str)).getD (c%7).toNat none
def d7t:Sp:=λ vs H Q _=>∃ c:Int,vs=[.int c]/\∀ H',Same H H'->Q (wV (c6d c)) H'
theorem d7a (c:Int):∀ x,c6d c=some x->x∈wds:=by
 unfold c6d;generalize (c%7).toNat=n;intro x h;match n,h with
 | 0,h=>cases h
 | 1,h=>cases h;decide +kernel
 | 2,h=>cases h;decide +kernel
 | 3,h=>cases h;decide +kernel
 | 4,h=>cases h;decide +kernel
 | 5,h=>cases h;decide +kernel
 | 6,h=>cases h
 | n+7,h=>cases h
theorem d9r (c:Int):atI [V.non,.str "loose",.str "kept",.str "make",.str "watch",.str "hold",.non] (c%7)=some (wV (c6d c)):=by
 have h0:=z27 c (show (7:Int)≠0 by decide);have h1:=z2b c (show (0:Int) < 7 by decide);unfold c6d;obtain⟨n,hn⟩:∃ n:Nat,c%7=(n:Int):=⟨(c%7).toNat,by lia⟩;rw[hn] at h1 ⊢;have:n=0\/n=1\/n=2\/n=3\/n=4\/n=5\/n=6:=by lia
 rcases this with rfl | rfl | rfl | rfl | rfl | rfl | rfl<;>exact a0m rfl
theorem c8b (cs:List Int):d3a (b9t cs):=by
 have th:=b5c cs;obtain⟨h1,h2,h3⟩:=c6c th;have lk:∀ d∈(a1v cs).1,d.2.2.length<=3:=λ d hd=>((b5u cs).2.2.2 d hd).1
 unfold b9t;dsimp only;split
 ·next e =>
  generalize b1u cs 0 / 256=c at *;have n0:0 < (a1v cs).1.length:=z1y.mpr e.2;have hi:=(b3p (xs:=(a1v cs).1) (c / 8) rfl n0).1;have ed:=My.a1z (d:=zD) hi;generalize (c / 8%((a1v cs).1.length:Int)).toNat=i at *;generalize (a1v cs).1.getD i zD=d at *;have c0:=z27 (c / 64) (show (38:Int)≠0 by decide);have c1:=z2b (c / 64) (show (0:Int) < 38 by decide);refine⟨by rw[z3t];exact h1,?_,λ d' hd'=>?_⟩
  ·rw[z33];rw[TFs.set_self (by rw[z09,ed];rfl)];exact h2
  ·rcases z3e hd' with z | z
   ·have:=lk d' z;exact⟨h3 d' z,by lia⟩
   ·rw[z];have l3:=lk d (z0c ed);refine⟨(show ("kept":Str)∈wds by decide +kernel),?_⟩;have ll:(d.2.2++(List.range (c / 64%38).toNat).map λ _=>([]:Lk)).length<=40:=by
     rw[z0j,z04,z1m];lia
    dsimp only;split
    ·rw[z3t];exact ll
    ·exact ll
 ·exact⟨h1,h2,λ d hd=>⟨h3 d hd,by have:=lk d hd;lia⟩⟩
theorem d9m {β:Type} {ys:List β} (hl:xs.length=ys.length) (hn:ys≠[]) (e:xs[ys.length - 1]?=some v):atI xs ((λ i:Int=>-i) 1)=some v:=by
 have p0:=z1y.mpr hn;unfold atI ixN;rw[z01 (by show ¬ (0:Int)<=-1;decide),z02 (by show -(xs.length:Int)<=-1;lia)];show xs[(-1+(xs.length:Int)).toNat]?=some v;rw[show (-1+(xs.length:Int)).toNat=ys.length - 1 by lia];exact e
theorem d9f {α β:Type} {xs:List α} {ys:List β} (hl:xs.length=ys.length) (hn:ys≠[]):ixN xs.length ((λ i:Int=>-i) 1)=some (ys.length - 1):=by
 have p0:=z1y.mpr hn;unfold ixN;rw[z01 (by show ¬ (0:Int)<=-1;decide),z02 (by show -(xs.length:Int)<=-1;lia)];show some (-1+(xs.length:Int)).toNat=_;rw[show (-1+(xs.length:Int)).toNat=ys.length - 1 by lia]
theorem d8m (h:Tr H v (a9l m)):∃ p c,v=.ref p/\H p=some (.tup [.int m.1,.ref c]):=by
 cases h with
 | tup h r =>
  cases r with
  | cons h1 r =>
   cases h1;cases r with
   | cons h2 r =>
    cases h2 with
    | lst a b =>
     cases r;exact nx9 _ _ rfl h
theorem b4w (T:Tx K mg):T.a8z.Ok P w base 4 (c3u K):=by
 refine okF T.a8z.F a3i λ _ _ _ _ H _ _ _ hr h=>?_
 ·obtain⟨a,cs,rfl,ha,hcs,q⟩:=h;have hu:=a2z hr;refine⟨_,(a0e (psx 1 a3i.nd (pcF T.c1g (d1t T) hr (a0a (pv 0) a0d)))
   (a0e (psx 2 a3i.nd (a0p a8c (pcF T.a4d (a5l T) hr (a0a (pv 0) (a0a a0c a0d))) a0c))
   (b0d (a2b (PW.pt (a5g (a0j a4f (a0p a1l (pv 2) a0c) a0c (a0n _)) (a5b (a0j (a7h hr.units) (pix a0t (pv 1) a0c) (a1d a0d) (a0n _)))))
   (a0e (psx 3 a3i.nd (a0p a1l (a0p a8c (pv 2) a0c) (a0q a1f (by rfl) T.a3o z1a (a0a (pix a0t (pv 1) a0c) a0d))))
   (a0e (b7t (pix a0l (pix a0t (pv 1) a0c) (pv 3)) (a5n rfl (a0o (pgm 4 a3i.nd) (a0o (pgm 5 a3i.nd) (a0o (pgm 6 a3i.nd) a3d)))))
   (a0e (a1u (a4q z1h z31 z2z a2n (pv 6) (a0a (pcf ["_law_k"] [] [] (a2m rfl T.a3f (a0a (a0p a1l (a0p a8c (pv 2) a0c) a0c) a0d)) (pgn 0) a3w (a1d a0d)) a0d)))
   (b0d (a2b (PW.pt (a5g (a0j (a7h hr.units) (pv 6) (a1d a0d) (a0n _)) (a5g (a0j (d3e hr.units) (pix a0l (pv 6) (d4c c3o a0c)) (a1d a0d) (a0n _)) (a5b (a0j (a7h hr.units) (pix a0t (pv 1) a0c) (a1d a0d) (a0n _))))))
   (a0f (b7t (a1d (a0a (a1j (a0a (pix a0t (pix a0l (pix a0t (pv 1) a0c) a0c) a0c) (a0a a0c a0d))) a0d)) (c7q (pv 6) (d4c c3o a0c) b2y)))
   a0u)
   (a0f (b7t (a1j (a0a (pv 4) (a0a a1s (a0a (pv 6) a0d)))) (c7q (pix a0t (pv 1) a0c) (pv 3) b2y)))))))
   a0u)
   (a0f (a0k (pv 1)))))),?_⟩
  show let z0:TS:=_;let z1:TS:=_;let z2:TS:=d8b (a5p _ _ _) z1;let z3:TS:=a1h _ z2;let z4:TS:=a1h _ z3;let z5:TS:=a1h _ z4;let z6:TS:=d8b (a5p _ z5 _) z0;let z7:TS:=a1h _ z6;a1h _ z7 _ _ _
  intros;have sz:sizeLine=2 ^ 24:=rfl;refine nx7 _ rfl a cs rfl ha ⟨hcs,λ v f H1 s1 tf nf ff=>?_⟩;have lk:∀ d∈(a1v cs).1,d.2.2.length<=3:=λ d hd=>((b5u cs).2.2.2 d hd).1
  obtain⟨pa,l,m,lv,mv,f1,f2,rfl,ef,hpa,hl,tl,hm,tm⟩:=c5s tf;refine nx11 _ rfl a (nx8 cs 0 rfl (s1.seq ha) (by decide) (nx8 _ _ rfl rfl ⟨by decide,by decide⟩ ?_));unfold b9t at q;dsimp only at q;have llv:lv.length=(a1v cs).1.length:=by rw[tl.len,z04]
  have lmv:mv.length=(a1v cs).2.length:=by rw[tm.len,z04]
  generalize b1u cs 0=cq at q ⊢;generalize a1v cs=t at *;generalize hres:(if (cq / 256)%8=3/\t.1≠[] then _ else t)=res at q;refine⟨λ σ H2=>∃ x2 x3 x4 x5 x6:Option V,σ=[some (.ref a),some (.ref pa),x2,x3,x4,x5,x6]/\Same H H2/\Tr H2 (.ref pa) (a4o res),?_,?_⟩
  ·refine ifS (b:=decide ((cq / 256)%8=3/\t.1≠[])) (λ Q2 k2=>?_) (λ H2 s2=>a4n (λ e=>?_) (λ e=>?_))
   ·refine ⟨_,rfl,nx20 _ _ rfl rfl (by show (0:Int) < 8;decide) rfl _ rfl (a4n (λ e=>?_) (λ e=>?_))⟩
    ·have e1:(cq / 256)%8=3:=V.int_inj' (z0h e);refine nx36 _ rfl pa _ _ _ rfl rfl (SqT.of hpa) rfl (by show 0<=sizeLine;decide) λ nn hnn=> nx28 l nn lv rfl rfl (SqL.of (Same.upd hnn _ _ hl)) (SqL.of a0b) _ rfl ?_;have:(!lv.isEmpty)=decide ((cq / 256)%8=3/\t.1≠[]):=by
      rw[z3p,z5r];cases lv with
      | nil=>simp;intro _;exact z2v.mp llv.symm
      | cons a r =>
       simp[e1];intro z;rw[z] at llv;cases llv
     rw[this];exact k2 _ (Same.upd hnn)
    ·have e1:¬ (cq / 256)%8=3:=λ z=>e (z08 (show V.int ((cq / 256)%8)=V.int 3 by rw[z]))
     have:decide ((cq / 256)%8=3/\t.1≠[])=false:=z0n λ z=>e1 z.1
     rw[this] at k2;exact k2 _ (Same.refl _)
   ·have e1:=z0h e;rw[z02 e1] at hres;have n0:0 < t.1.length:=z1y.mpr e1.2;obtain⟨hi,v0,ev0,av0⟩:=b3p (xs:=lv) ((cq / 256) / 8) llv n0;generalize hI:((cq / 256) / 8%(t.1.length:Int)).toNat=i at *;have ed:=My.a1z (d:=zD) hi;generalize t.1.getD i zD=d at *;obtain⟨x,g1,g2,g3,ex,ef1,td,put⟩:=tl.focus (i:=i) (d:=a4j d) (by rw[z09,ed];rfl);rw[ev0] at ex;cases ex;obtain⟨pd,L,lkv,fl,rfl,eg2,hpd,hL,tL⟩:=b9q td;have l3:=lk d (z0c ed);have llk:lkv.length=d.2.2.length:=by rw[tL.len,z04]
    have ful:f=pa::l::(g1++(pd::L::(fl++(g3++(m::f2))))):=by rw[ef,ef1,eg2];simp
    have nd:=nf;rw[ful] at nd;have nL:∀ b,b∈pa::l::(g1++[pd])++(fl++(g3++(m::f2)))->b≠L:=λ b hb z=>by
     have e2:pa::l::(g1++(pd::L::(fl++(g3++(m::f2)))))=(pa::l::(g1++[pd]))++([L]++(fl++(g3++(m::f2)))):=by simp
     rw[e2] at nd;have:=(nd3.mp nd).2.2 L (z0i.mpr rfl);rw[z] at hb;rcases z0f.mp hb with w | w
     ·exact this.1 w
     ·exact this.2 w
    have nl:∀ b,b∈pa::(g1++(pd::L::(fl++(g3++(m::f2)))))->b≠l:=λ b hb z=>by
     have e2:pa::l::(g1++(pd::L::(fl++(g3++(m::f2)))))=[pa]++([l]++(g1++(pd::L::(fl++(g3++(m::f2)))))):=by simp
     rw[e2] at nd;have:=(nd3.mp nd).2.2 l (z0i.mpr rfl);rw[z] at hb;rcases z0a.mp hb with w | w
     ·exact this.1 (by rw[w];exact z0i.mpr rfl)
     ·exact this.2 w
    have cm0:=z27 ((cq / 256) / 64) (show (38:Int)≠0 by decide);have cm1:=z2b ((cq / 256) / 64) (show (0:Int) < 38 by decide);refine nx7 _ rfl _ _ rfl rfl ⟨⟨by decide,by decide⟩,nx24 _ rfl pa _ _ _ rfl rfl (SqT.of (s2 _ _ hpa)) rfl _ _ rfl (.inl ⟨_,SqL.of (s2 _ _ hl),rfl⟩) (nx8 _ _ rfl rfl (by rw[llv];lia) ?_)⟩;refine nx26 _ rfl pa _ _ _ rfl rfl (SqT.of (s2 _ _ hpa)) rfl _ rfl l _ _ _ rfl rfl (SqL.of (s2 _ _ hl)) (by rw[llv];exact av0) (nx15 pd _ rfl (SqT.of (s2 _ _ hpd)) rfl _ (nx11 _ rfl _ (nx7 _ rfl _ _ rfl rfl ?_)));refine nx6 _ rfl (Or.inl ⟨rfl,_,SqL.of (s2 _ _ hL)⟩) _ rfl (nx8 _ _ rfl rfl ⟨by decide,by decide⟩ (nx15 _ _ rfl rfl (by show (0:Int) < 38;decide) _ ⟨rfl,(by lia),(by lia),e1w (k:=1) (fs:=[]) _ (λ _=>a3x []) rfl (by lia) (λ j hj H3 ts R ss hts cont=>?_) (λ C3 H3 es fe hC3 s3 h3 te ne fre De=>?_)⟩))
    ·obtain⟨t',rfl⟩:=z1g.mp hts;exact⟨(by show 0<=sizeLine;decide),λ nl' hnl=>cont (.ref nl') [nl'] [_] _ rfl (Same.upd hnl) (TF.lst a0b .nil) (z1f.mpr ⟨(λ z=>by cases z),.nil⟩) λ b hb=>by rw[z0i.mp hb];exact hnl⟩
    have s23:=s2.trans s3;have les:es.length=((cq / 256) / 64%38).toNat:=by rw[te.len,z04,z1m]
    refine nx14 L C3 lkv es rfl rfl (s23 _ _ hL) h3 (by lia) ?_;have hL4:=a0b (H:=H3) (a:=L) (o:=HO.lst (lkv++es));have k4:∀ b o,b≠L->H3 b=some o->upd H3 L (.lst (lkv++es)) b=some o:=λ b o n e=>by rw[a0g n];exact e
    generalize upd H3 L (.lst (lkv++es))=H4 at hL4 k4;have Lfe:L ∉ fe:=λ z=>by have:=fre L z;rw[s2 _ _ hL] at this;cases this
    have t4:TFs H4 (lkv++es) ((d.2.2++(List.range ((cq / 256) / 64%38).toNat).map λ _=>([]:Lk)).map a3x) (fl++fe):=by
     rw[z0z,z15];exact(tL.fr λ b hb o eb=>k4 b o (nL b (by simp[hb])) (s23 _ _ eb)).app (te.fr λ b hb o eb=>k4 b o (λ z=>Lfe (z ▸ hb)) eb)
    have live1:∀ b∈f,∃ o,H1 b=some o:=λ b hb=>by rcases tf.live b hb with ⟨_,z⟩ | ⟨_,z⟩<;>exact⟨_,z⟩
    have lfe:∀ b∈fe,b ∉ f:=λ b hb z=>by
     obtain⟨o,eo⟩:=live1 b z;have:=fre b hb;rw[s2 _ _ eo] at this;cases this
    have hl1:d.2.2++(List.range ((cq / 256) / 64%38).toNat).map (λ _=>([]:Lk))=d.2.2++(List.range ((cq / 256) / 64%38).toNat).map (λ _=>([]:Lk)):=rfl;generalize d.2.2++(List.range ((cq / 256) / 64%38).toNat).map (λ _=>([]:Lk))=l1 at hres t4 hl1;clear hl1;have ll1:(lkv++es).length=l1.length:=by rw[t4.len,z04]
    have kk4:∀ b o,b≠L->H1 b=some o->H4 b=some o:=λ b o n e=>k4 b o n (s23 _ _ e)
    generalize lkv++es=lw at *;generalize hf0:fl++fe=f0 at t4;generalize hl2:(if l1≠[]/\l1.getD (l1.length - 1) []=[]/\t.2≠[] then l1.set (l1.length - 1) [((t.2.getD 0 (0,[])).1,0)] else l1)=l2 at hres;refine⟨λ σ H5=>∃ (lw2:List V) (f5:List Addr),σ=[some (.ref a),some (.ref pa),some (.int (cq / 256)),some (.int ((cq / 256) / 8%(lv.length:Int))),some (.int d.1),some (.str d.2.1),some (.ref L)]/\(∀ b o,b≠L->H1 b=some o->H5 b=some o)/\H5 L=some (.lst lw2)/\TFs H5 lw2 (l2.map a3x) f5/\l ∉ f5,?_,?_⟩
    ·have lf0:l ∉ f0:=λ z=>by
      rw[<-hf0] at z;rcases z0f.mp z with w | w
      ·exact nl l (by simp[w]) rfl
      ·exact lfe l w (by rw[ful];simp)
     have hm4:=kk4 m _ (nL m (by simp)) hm;have hpa4:=kk4 pa _ (nL pa (by simp)) hpa;have lst1:l1≠[]->∃ la pv g1 pf g3,lw[l1.length - 1]?=some (.ref la)/\f0=g1++((la::pf)++g3)/\H4 la=some (.lst pv)/\TFs H4 pv ((l1.getD (l1.length - 1) []).map b0a) pf/\∀ H' x' d' f2',(∀ b∈g1++g3,∀ o,H4 b=some o->H' b=some o)->TF H' x' d' f2'->TFs H' (lw.set (l1.length - 1) x') ((l1.map a3x).set (l1.length - 1) d') (g1++(f2'++g3)):=λ hn=>by
      have p0:l1.length - 1 < l1.length:=by have:=z1y.mpr hn;lia
      have el:=My.a1z (d:=([]:Lk)) p0;obtain⟨x,y1,y2,y3,ex,ey,tk,put2⟩:=t4.focus (i:=l1.length - 1) (d:=a3x (l1.getD (l1.length - 1) [])) (by rw[z09,el];rfl);obtain⟨la,pv,pf,rfl,el2,hla,tpv⟩:=b8j tk;exact nx23 la pv y1 pf y3 ex (by rw[ey,el2]) hla tpv put2
     have lwn:l1≠[] ↔ lw≠[]:=by rw[<-z1y,<-z1y,ll1]
     refine ifS (b:=decide (l1≠[]/\l1.getD (l1.length - 1) []=[]/\t.2≠[])) (λ Q2 k2=>?_) (λ H5 s5=>a4n (λ e=>?_) (λ e=>?_))
     ·refine⟨_,rfl,(by show 0<=sizeLine;decide),λ nn hnn=> nx28 L nn lw rfl rfl (SqL.of (Same.upd hnn _ _ hL4)) (SqL.of a0b) _ rfl (a4n (λ e=>?_) (λ e=>?_))⟩
      ·have lw0:lw≠[]:=λ z=>by rw[z] at e;simp at e
       obtain⟨la,pv,y1,pf,y3,elw,_,hla,tpv,_⟩:=lst1 (lwn.mpr lw0);have su:=Same.upd (o:=HO.lst []) hnn;have lp:=tpv.len;rw[z04] at lp;refine nx18 _ rfl 1 rfl L _ _ _ rfl rfl (SqL.of (su _ _ hL4)) (d9m ll1 (lwn.mpr lw0) elw) ⟨(by show 0<=sizeLine;decide),λ n2 hn2=> nx28 la n2 pv rfl rfl (SqL.of (Same.upd hn2 _ _ (su _ _ hla))) (SqL.of a0b) _ rfl (a4n (λ e2=>?_) (λ e2=>?_))⟩
       ·have su2:=Same.upd (o:=HO.lst []) hn2;have e3:l1.getD (l1.length - 1) []=[]:=by
         cases pv with
         | nil=>exact z2v.mp lp.symm
         | cons=>cases e2
        refine nx36 _ rfl pa _ _ _ rfl rfl (SqT.of (su2 _ _ (su _ _ hpa4))) rfl (by show 0<=sizeLine;decide) λ n3 hn3=> nx28 m n3 mv rfl rfl (SqL.of (Same.upd hn3 _ _ (su2 _ _ (su _ _ hm4)))) (SqL.of a0b) _ rfl ?_;have:(!mv.isEmpty)=decide (l1≠[]/\l1.getD (l1.length - 1) []=[]/\t.2≠[]):=by
         rw[z3p,z5r];constructor
         ·intro z;refine⟨lwn.mpr lw0,e3,λ w=>?_⟩;rw[w] at lmv;rw[z2v.mp lmv] at z;cases z
         ·rintro⟨_,_,z⟩;cases mv with
          | nil=>exact absurd (z2v.mp lmv.symm) z
          | cons=>rfl
        rw[this];exact k2 _ (su.trans (su2.trans (Same.upd hn3)))
       ·have:decide (l1≠[]/\l1.getD (l1.length - 1) []=[]/\t.2≠[])=false:=z0n λ z=>e2 (by
         rw[z.2.1] at lp;rw[z2v.mp lp];rfl)
        rw[this] at k2;exact k2 _ (su.trans (Same.upd hn2))
      ·have lw0:lw=[]:=by
        cases lw with
        | nil=>rfl
        | cons=>simp at e
       have:decide (l1≠[]/\l1.getD (l1.length - 1) []=[]/\t.2≠[])=false:=z0n λ z=>lwn.mp z.1 lw0
       rw[this] at k2;exact k2 _ (Same.upd hnn)
     ·have e2:=z0h e;rw[z02 e2] at hl2;have m0:0 < t.2.length:=z1y.mpr e2.2.2;obtain⟨mx,emx⟩:∃ mx,mv[0]?=some mx:=⟨mv[0]'(by lia),z0o (by lia)⟩;obtain⟨dm,edm,trm⟩:=tm.trs.get emx;rw[z09,My.a1z (d:=((0,[]):Mkr)) m0] at edm;cases edm;obtain⟨mp,mc,rfl,hmp⟩:=d8m trm;have hmp4:H4 mp=some (.tup [.int (t.2.getD 0 (0,[])).1,.ref mc]):=kk4 mp _ (λ z=>by rw[z,hL] at hmp;cases hmp) hmp;obtain⟨la,pv,y1,pf,y3,elw,ef0,hla,tpv,put2⟩:=lst1 e2.1;refine nx5 _ rfl pa _ _ _ rfl rfl (SqT.of (s5 _ _ hpa4)) rfl (nx1 m _ _ _ rfl rfl (SqL.of (s5 _ _ hm4)) (a0m (j:=0) emx) (nx14 mp _ _ _ rfl rfl (SqT.of (s5 _ _ hmp4)) rfl (by show 2<=sizeLine;decide) λ tq htq=>⟨(by show 1<=sizeLine;decide),λ nl' hnl=>?_⟩));have sq:=Same.upd (o:=HO.tup [V.int (t.2.getD 0 (0,[])).1,V.int 0]) htq;have sn:=Same.upd (o:=HO.lst [V.ref tq]) hnl;have S6:=s5.trans (sq.trans sn);refine nx18 _ rfl 1 rfl L lw _ (l1.length - 1) rfl rfl (S6 _ _ hL4) (d9f ll1 e2.1) λ H6 h6 k6=>?_;have nLn:nl'≠L:=λ z=>by rw[z,sq _ _ (s5 _ _ hL4)] at hnl;cases hnl
      have tqL:tq≠L:=λ z=>by rw[z,s5 _ _ hL4] at htq;cases htq
      have Lf0:L ∉ f0:=λ z=>by
       rw[<-hf0] at z;rcases z0f.mp z with w | w
       ·exact nL L (by simp[w]) rfl
       ·exact Lfe w
      have tnew:TF H6 (.ref nl') (a3x [((t.2.getD 0 (0,[])).1,0)]) (nl'::[tq]):=TF.lst (k6 _ _ nLn a0b) (TFs.one (c1l (p:=((t.2.getD 0 (0,[])).1,0)) (k6 _ _ tqL (sn _ _ a0b))));have t6:=put2 H6 (.ref nl') _ _ (λ b hb o eb=>k6 b o (λ z=>Lf0 (by rw[ef0,<-z];rcases z0f.mp hb with w | w<;>simp[w])) (S6 _ _ eb)) tnew;have llw:l≠nl'/\l≠tq:=by
       have hl5:=s5 _ _ (kk4 l _ (nL l (by simp)) hl);exact⟨(λ z=>by rw[<-z,sq _ _ hl5] at hnl;cases hnl),(λ z=>by rw[<-z,hl5] at htq;cases htq)⟩
      refine nx12 _ (y1++((nl'::[tq])++y3)) rfl (λ b o n eb=>k6 b o n (S6 _ _ (kk4 b o n eb))) h6 ?_ λ z=>?_
      ·rw[<-hl2,z33];exact t6
      ·rcases z0f.mp z with w | w
       ·exact lf0 (by rw[ef0];simp[w])
       ·rcases z0f.mp w with w | w
        ·rcases z0a.mp w with w | w
         ·exact llw.1 w
         ·exact llw.2 (z0i.mp w)
        ·exact lf0 (by rw[ef0];simp[w])
     ·have e2:¬ (l1≠[]/\l1.getD (l1.length - 1) []=[]/\t.2≠[]):=λ z=>e (z08 z)
      rw[z01 e2] at hl2;refine nx12 lw f0 rfl (λ b o n eb=>s5 _ _ (kk4 b o n eb)) (s5 _ _ hL4) ?_ lf0;rw[<-hl2];exact t4.same s5
    ·rintro σ H5 ⟨lw2,f5,rfl,kk5,hL5,t5,lf5⟩;have hpa5:=kk5 pa _ (nL pa (by simp)) hpa;have hl5:=kk5 l _ (nL l (by simp)) hl;refine nx3 _ rfl _ rfl ⟨(by show 3<=sizeLine;decide),λ tp htp=>?_⟩;have st':=Same.upd (o:=HO.tup [V.int d.1,V.str "kept",V.ref L]) htp;refine nx26 _ rfl pa _ _ _ rfl rfl (SqT.of (st' _ _ hpa5)) rfl _ rfl l lv _ i rfl rfl (st' _ _ hl5) (by rw[llv,<-hI];exact d6g ((cq / 256) / 8) n0) λ H6 h6 k6=>?_;have kk6:∀ b o,b≠L->b≠l->H1 b=some o->H6 b=some o:=λ b o n1 n2 eb=>k6 b o n2 (st' _ _ (kk5 b o n1 eb))
     have Ll:L≠l:=nl L (by simp);have tpl:tp≠l:=λ z=>by rw[z,hl5] at htp;cases htp
     have t1:=put H6 (.ref tp) (a4j (d.1,"kept",l2)) _ (λ b hb o eb=>kk6 b o (nL b (by rcases z0f.mp hb with w | w<;>simp[w])) (nl b (by rcases z0f.mp hb with w | w<;>simp[w])) eb) (c2j (d:=(d.1,"kept",l2)) (k6 _ _ tpl a0b) (k6 _ _ Ll (st' _ _ hL5)) (t5.fr λ b hb o eb=>k6 b o (λ z=>lf5 (z ▸ hb)) (st' _ _ eb)));refine nx25 _ _ _ _ _ rfl (λ b o eb=>kk6 b o (λ z=>?_) (λ z=>?_) (s1 _ _ eb)) ?_
     ·have:=ff L (by rw[ful];simp);rw[z,this] at eb;cases eb
     ·have:=ff l (by rw[ful];simp);rw[z,this] at eb;cases eb
     ·rw[<-hres];unfold a4o;dsimp only;rw[z33];exact .tup (kk6 pa _ (nL pa (by simp)) (nl pa (by simp)) hpa) (.cons (.lst h6 t1.trs) (.cons (.lst (kk6 m _ (nL m (by simp)) (nl m (by simp)) hm) (tm.fr λ b hb o eb=>kk6 b o (nL b (by simp[hb])) (nl b (by simp[hb])) eb).trs) .nil))
   ·have e1:¬ ((cq / 256)%8=3/\t.1≠[]):=λ z=>e (z08 z)
    rw[z01 e1] at hres;rw[<-hres];exact nx25 _ _ _ _ _ rfl (s1.trans s2) (tf.tr.same s2)
  ·rintro σ H2 ⟨x2,x3,x4,x5,x6,rfl,S2,tr⟩;exact⟨_,rfl,q _ H2 S2 tr⟩
--@STAGE
theorem d2e (T:Tx K mg):T.c0y.Ok P w base 1 e3j:=by
 refine okF T.c0y.F d3r λ _ _ _ _ _ _ _ _ hr h=>?_
 ·obtain⟨x,L,lv,rfl,hL,q⟩:=h;have hu:=a2z hr;refine⟨_,(a0e (a2b (a0j a4f (pv 0) a1s (a0n _))
   (a0f (a0k (a0p a3v (a0q a1f (by rfl) T.a3o z1a (a0a (pv 1) a0d)) a0c)))
   a0u)
   (a0e (a2b (a0j a4f (pv 0) a1s (a0n _))
   (a0f (a0k a0c))
   a0u)
   (a0f (a0k a0c)))),?_⟩
  show let z0:TS:=_;let z1:TS:=a1h (a5p _ _ _) z0;a1h (a5p _ _ _) z1 _ _ _
  intros;unfold b6u at q;refine nx6 _ rfl rfl _ rfl (a4n (λ e=>?_) (λ e=>?_))
  ·have e1:x="kept":=V.str.inj (z0h e);rw[z02 e1] at q;exact nx7 _ rfl _ _ rfl (.inl ⟨_,SqL.of hL,rfl⟩) (nx0 _ _ rfl rfl q)
  ·have e1:¬ x="kept":=λ z=>e (z08 (z0b V.str z))
   rw[z01 e1] at q;refine nx6 _ rfl rfl _ rfl (a4n (λ e=>?_) (λ e=>?_))
   ·have e2:x="make":=V.str.inj (z0h e);rw[z02 e2] at q;exact q
   ·have e2:¬ x="make":=λ z=>e (z08 (z0b V.str z))
    rw[z01 e2] at q;exact q
theorem d3b (T:Tx K mg):T.c2a.Ok P w base 1 d7t:=by
 refine okF T.c2a.F d1n λ _ _ _ _ _ _ _ _ _ h=>?_
 ·obtain⟨c,rfl,q⟩:=h;refine⟨_,(a0f (a0k (pix a0l (a1d (a0a a3p (a0a a1s (a0a a1s (a0a a1s (a0a a1s (a0a a1s (a0a a3p a0d)))))))) (a0p a1l (pv 0) a0c)))),?_⟩;exact⟨(by show 7<=sizeLine;decide),λ wl hwl=> nx7 _ rfl _ _ rfl rfl ⟨(by show (0:Int) < 7;decide),nx1 wl _ _ _ rfl rfl (SqL.of a0b) (d9r c) (q _ (Same.upd hwl))⟩⟩
def c1t (w:Option Str) (d:Dl):Nk:=(d.1,a1e (lvD w d) (d.2.2.length:Int) - 1)
def b9r (w:Option Str) (d:Dl):Nk:=(d.1,a2t (lvD w d) (d.2.2.length:Int))
def KpH (H:Hp) (e:Addr) (p:Ps) (f:Dl->Nk):Prop:=∃ kvs,H e=some (.dK kvs)/\∀ d∈p.1,∃ v,a1r kvs (.inl d.1)=some v/\NdV H v (f d)
def c9t (cls:Lv->Addr) (f:Option Str->Dl->Nk):Sp:=λ vs H Q _=>∃ (v:V) (e:Addr) (p:Ps) (w:Option Str),vs=[v,.ref e]/\Tr H v (a4o p)/\d3a p/\LvH cls H e w p/\∀ k H',Same H H'->KpH H' k p (f w)->Q (.ref k) H'
def c2b (w:Option Str) (d:Dl) (pl:Int):List Lk:=(List.range d.2.2.length).filterMap λ (i:Nat)=>if a3y (lvD w d) (i:Int)=some pl then d.2.2[i]? else none
def c3w (p:Ps) (n:Int):Option Dl:=p.1.find? λ d=>decide (d.1=n)
theorem d0a (h:xs[xs.length - 1]?=some v):atI xs (-1)=some v:=by
 have hl:=(z0l.mp h).1;unfold atI ixN;rw[z01 (by decide),z02 (by lia)];have e:(-1+(xs.length:Int)).toNat=xs.length - 1:=by lia
 simpa [e] using h
theorem d0f (h:Tr H v (b0a p)):∃ a,v=.ref a/\H a=some (.tup [.int p.1,.int p.2]):=by
 cases h with
 | tup h r =>
  cases r with
  | cons h1 r =>
   cases r with
   | cons h2 r =>
    cases r;cases h1;cases h2;exact⟨_,rfl,h⟩
theorem c0u (h:Tr H v (.list ds)):∃ a xs,v=.ref a/\H a=some (.lst xs)/\Trs H xs ds:=by
 cases h with
 | lst h r=>exact nx0 _ _ rfl h r
def NpV (f:Dl->Nk) (H:Hp) (y:V) (d:Dl):Prop:=∃ t v,y=.ref t/\H t=some (.tup [.int d.1,v])/\NdV H v (f d)
theorem d5o (f:Dl->Nk):∀ H H' y d,KN H H'->NpV f H y d->NpV f H' y d:=λ H H' y d k ⟨t,v,e,h1,q,e2,h2⟩=> ⟨t,nx6 v e (k _ _ (λ _ z=>by cases z) h1) q e2 (k _ _ (λ _ z=>by cases z) h2)⟩
theorem c1r {K:W.Frag} {f:Dl->Nk} {H:Hp}:∀ {ys:List V} {ds:List Dl},Paired (NpV f H) ys ds->∃ ps:List (Key×V),d5p K H ys ps/\ps.map (·.1)=ds.map (λ d=>Sum.inl d.1)/\∀ d∈ds,∃ v,(Sum.inl d.1,v)∈ps/\NdV H v (f d)
 | _,_,.nil=>⟨[],.nil,rfl,λ d hd=>by cases hd⟩
 | _,_,.cons (b:=d0) h t=>by
  obtain⟨ps,h1,h2,h3⟩:=c1r t;obtain⟨t',v,rfl,ht,hv⟩:=h;refine⟨(.inl d0.1,v)::ps,.cons (SqT.of ht) h1,by rw[z0w,z0w,h2],λ d hd=>?_⟩;rcases z0a.mp hd with e | e
  ·rw[e];exact⟨v,.head _,hv⟩
  ·obtain⟨v',m,hv'⟩:=h3 d e;exact⟨v',.tail _ m,hv'⟩
theorem d5m {ds:List Dl} (nn:(ds.map (·.1)).Nodup):(ds.map (λ d=>(Sum.inl d.1:Key))).Nodup:=z26.mpr (z1u (λ z e=>z (z2o e)) (z26.mp nn))
theorem e4j {p:Ps} (nn:(p.1.map (·.1)).Nodup) {d:Dl} (h:d∈p.1):c3w p d.1=some d:=by
 unfold c3w;generalize p.1=l at *;induction l with
 | nil=>cases h
 | cons x r ih =>
  obtain⟨n1,n2⟩:=z1f.mp nn;rw[z3c];by_cases z:x.1=d.1
  ·rw[z08 z];rcases z0a.mp h with e | e
   ·rw[e]
   ·exact absurd (z0d.mpr ⟨d,e,z.symm⟩) n1
  ·rw[z0n z];rcases z0a.mp h with e | e
   ·exact absurd (by rw[e]) z
   ·exact ih n2 e
theorem NdV.sm (s:Same H H') (h:NdV H v q):NdV H' v q:=let ⟨p,e,hp⟩:=h;⟨p,e,s _ _ hp⟩
theorem e0f (s:Same H H') (h:Nds H ys ns):Nds H' ys ns:=Paired.imp' (λ _ _ x=>NdV.sm s x) h
theorem b4u (T:Tx K mg):T.a9r.Ok P w base 3 (c9t (cO T) c1t):=by
 refine okF T.a9r.F c6f λ _ _ _ _ H _ _ _ hr h=>?_
 ·obtain⟨v,e,p,wo,rfl,tr,gp,lh,q⟩:=h;have hu:=a2z hr;refine⟨_,(a0f (a0k (a6h (a7f (K:=K) rfl rfl) (by rfl) T.b3x boot_dict (a0a (pcf ["deal"] ["levels"] [1] (a1a (pix a0t (pv 0) a0c)) (pgn 0) a3w (a1j (a0a (pix (a2q (K:=K) rfl) (pv 0) a0c) (a0a (pix (a8y (K:=K) rfl) (pcF T.a9b (b5o T) hr (a0a (pv 0) (a0a (a2o hu (pv 1) (pix (a2q (K:=K) rfl) (pv 0) a0c) (λ _ _=>rfl)) a0d))) (d4c c3o a0c)) a0d)))) a0d)))),?_⟩;obtain⟨l8,nn,gd⟩:=gp;obtain⟨a,l,m,lv,mv,rfl,ha,hl,tl,_,_⟩:=a3r tr;refine nx16 _ rfl a _ _ _ rfl rfl (SqT.of ha) rfl l rfl ⟨_,SqL.of hl⟩ (a5q (k:=1) (fs:=[some (.ref e)]) (NpV (c1t wo)) (λ H v d=>Tr H v (a4j d)) p.1 some (d5o _) (λ _ _ _ _ ss z=>z.same ss) rfl hl (a5j tl) (by have:sizeLine=2 ^ 24:=rfl;lia) (λ d hd H2 ts v R ss hts trd cont _=>?_) λ D H2 ys hD s2 h2 pp=>?_)
  ·obtain⟨t,rfl⟩:=z1g.mp hts;obtain⟨pd,L,lkv,rfl,hpd,_,_⟩:=a6j trd;obtain⟨kvs,hk,vk⟩:=lh.same ss;obtain⟨x,dx,vx,hx⟩:=vk d hd;have dg:=b0y.k (k:=Sum.inl d.1) hk;rw[vx] at dg;refine nx5 _ rfl pd _ _ _ rfl rfl (SqT.of hpd) rfl (nx3 _ rfl _ rfl (nx24 _ rfl pd _ _ _ rfl rfl (SqT.of hpd) rfl e _ rfl dg (nx23 (.ref pd) x d wo dx rfl trd hx ((gd d hd).2) λ D3 H3 ys3 hD3 s3 h3 pn=>?_)));have sl:=a9c wo d (gd d hd).2;have hpos:1<=a1e (lvD wo d) (d.2.2.length:Int):=by
    generalize lvD wo d=lv0;cases lv0<;>simp only [a1e]<;>lia
   have hlen:ys3.length=(a1e (lvD wo d) (d.2.2.length:Int)).toNat:=by
    rw[a1c pn];unfold a2l;rw[z04,z1m]
   obtain⟨yl,hyl⟩:∃ yl,ys3[ys3.length - 1]?=some yl:=⟨_,z0o (by lia)⟩;obtain⟨nk,enk,hnk⟩:=a1g pn hyl;have ek:nk=c1t wo d:=by
    unfold a2l at enk;rw[z09,z6k (by lia)] at enk;have:=(z0r enk).symm;rw[this];unfold c1t;refine z1d rfl ?_;show ((ys3.length - 1:Nat):Int)=_;lia
   rw[ek] at hnk;refine nx36 _ rfl D3 ys3 _ yl rfl rfl (SqL.of h3) (d0a hyl) (by show 2<=sizeLine;decide) λ t ht=>cont d _ [_] _ rfl rfl (s3.trans (Same.upd ht)) (nx0 t yl rfl a0b ?_);obtain⟨qn,eq,hq⟩:=hnk;exact⟨qn,eq,Same.upd ht _ _ hq⟩
  ·rw[z6d] at pp;obtain⟨ps,pr,pk,pv⟩:=c1r (K:=K) pp;have lps:ps.length=p.1.length:=by have:=z0b List.length pk;simpa using this
   have nd:(ps.map (·.1)).Nodup:=by rw[pk];exact d5m nn
   refine nx17 D ys ps rfl h2 pr (by lia) λ k hk=>q k _ (s2.trans (Same.upd hk)) ⟨_,a0b,λ d hd=>?_⟩;rw[b3t ps [] (by simpa using nd)];obtain⟨v,hm,qn,eq,hq⟩:=pv d hd;exact nx3 v (a9t nd hm) qn eq (Same.upd hk _ _ hq)
theorem c1s (T:Tx K mg):T.b0n.Ok P w base 2 (c9t (cO T) b9r):=by
 refine okF T.b0n.F c2h λ _ _ _ _ H _ _ _ hr h=>?_
 ·obtain⟨v,e,p,wo,rfl,tr,gp,lh,q⟩:=h;have hu:=a2z hr;refine⟨_,(a0f (a0k (a6h (a7f (K:=K) rfl rfl) (by rfl) T.b3x boot_dict (a0a (pcf ["deal"] ["levels"] [1] (a1a (pix a0t (pv 0) a0c)) (pgn 0) a3w (a1j (a0a (pix (a2q (K:=K) rfl) (pv 0) a0c) (a0a (a1j (a0a (pix (a2q (K:=K) rfl) (pv 0) a0c) (a0a (b7e (a2o hu (pv 1) (pix (a2q (K:=K) rfl) (pv 0) a0c) (λ _ _=>rfl)) (b6g T) (hr.mono (by decide)) (a0a (a0q (d0m (K:=K) rfl) (by rfl) T.a3o z1a (a0a (pix (a2q (K:=K) rfl) (pv 0) a0c) a0d)) a0d)) a0d))) a0d)))) a0d)))),?_⟩;obtain⟨l8,nn,gd⟩:=gp;obtain⟨a,l,m,lv,mv,rfl,ha,hl,tl,_,_⟩:=a3r tr;refine nx16 _ rfl a _ _ _ rfl rfl (SqT.of ha) rfl l rfl ⟨_,SqL.of hl⟩ (a5q (k:=1) (fs:=[some (.ref e)]) (NpV (b9r wo)) (λ H v d=>Tr H v (a4j d)) p.1 some (d5o _) (λ _ _ _ _ ss z=>z.same ss) rfl hl (a5j tl) (by have:sizeLine=2 ^ 24:=rfl;lia) (λ d hd H2 ts v R ss hts trd cont _=>?_) λ D H2 ys hD s2 h2 pp=>?_)
  ·obtain⟨t,rfl⟩:=z1g.mp hts;obtain⟨pd,L,lkv,rfl,hpd,hL,tL⟩:=a6j trd;have ll:lkv.length=d.2.2.length:=by rw[tL.len,z04]
   obtain⟨kvs,hk,vk⟩:=lh.same ss;obtain⟨x,dx,vx,hx⟩:=vk d hd;have dg:=b0y.k (k:=Sum.inl d.1) hk;rw[vx] at dg;refine nx26 _ rfl pd _ _ _ rfl rfl (SqT.of hpd) rfl _ rfl pd _ _ _ rfl rfl (SqT.of hpd) rfl (nx18 _ rfl _ rfl pd _ _ _ rfl rfl (SqT.of hpd) rfl (nx0 e _ rfl dg (nx30 x (lvD wo d) dx ([]) rfl hx rfl (nx24 _ rfl pd _ _ _ rfl rfl (SqT.of hpd) rfl _ _ rfl (.inl ⟨_,SqL.of hL,rfl⟩) (nx9 _ _ rfl ?_)))));rw[ll];refine⟨(by show 2<=sizeLine;decide),λ t ht=>⟨(by show 2<=sizeLine;decide),λ t2 ht2=>cont d _ [_] _ rfl rfl ((Same.upd ht).trans (Same.upd ht2)) (⟨t2,nx6 (.ref t) rfl a0b t rfl (Same.upd ht2 _ _ a0b)⟩)⟩⟩
  ·rw[z6d] at pp;obtain⟨ps,pr,pk,pv⟩:=c1r (K:=K) pp;have lps:ps.length=p.1.length:=by have:=z0b List.length pk;simpa using this
   have nd:(ps.map (·.1)).Nodup:=by rw[pk];exact d5m nn
   refine nx17 D ys ps rfl h2 pr (by lia) λ k hk=>q k _ (s2.trans (Same.upd hk)) ⟨_,a0b,λ d hd=>?_⟩;rw[b3t ps [] (by simpa using nd)];obtain⟨v,hm,qn,eq,hq⟩:=pv d hd;exact nx3 v (a9t nd hm) qn eq (Same.upd hk _ _ hq)
--@STAGE
def a1q {α:Type}:List α->List (α×α)
 | []=>[]
 | x::r=>r.map (λ y=>(x,y))++a1q r
theorem a4a:∀ {xs:List α},(a,b)∈a1q xs ↔ ∃ i j:Nat,i < j/\xs[i]?=some a/\xs[j]?=some b
 | []=>⟨λ h=>(by cases h),λ ⟨i,j,_,h,_⟩=>(by simp at h)⟩
 | x::r=>by
  unfold a1q;rw[z0f,a4a (xs:=r)];constructor
  ·rintro(h | ⟨i,j,h,h1,h2⟩)
   ·obtain⟨y,hy,e⟩:=z0d.mp h;cases e;obtain⟨j,hj⟩:=z1v.mp hy;exact nx0 0 (j+1) (Nat.succ_pos _) rfl (by simpa using hj)
   ·exact nx0 (i+1) (j+1) (by lia) (by simpa using h1) (by simpa using h2)
  ·rintro⟨i,j,h,h1,h2⟩;cases j with
   | zero=>lia
   | succ j =>
    have h2':r[j]?=some b:=by simpa using h2
    cases i with
    | zero =>
     have e:x=a:=by simpa using h1
     subst e;exact .inl (z0d.mpr ⟨b,z0c h2',rfl⟩)
    | succ i=>exact .inr (nx0 i j (by lia) (by simpa using h1) h2')
def a4l (w:Option Str) (p:Ps) (m:Int):Nk:=match c3w p m with
 | some d=>c1t w d
 | none=>(m,0)
def a6g (w:Option Str) (p:Ps) (m:Int):Nk:=match c3w p m with
 | some d=>b9r w d
 | none=>(m,0)
def d5b (w:Option Str) (d:Dl):List Eg:=(a1q (a2l w d)).map λ q=>(q.1,q.2,"own",none)
def a5t (ms:List Int) (s:Int):Nat:=if s=0 then 0 else ms.idxOf s+1
def a8e (w:Option Str) (p:Ps) (n pl:Int) (q:Pr):List Eg:=if q.2=-1 then [] else
 (((chF p.2 q.1).take (a5t (chF p.2 q.1) q.2)).filter λ m=>decide (m≠n)).map (λ m=>((a4l w p m,(n,pl),"saw",some q.1):Eg)) ++
 (((chF p.2 q.1).drop (a5t (chF p.2 q.1) q.2)).filter λ m=>decide (m≠n)).map (λ m=>(((n,pl),a4l w p m,"unseen",some q.1):Eg))
def b1o (w:Option Str) (p:Ps) (d:Dl) (i:Nat):List Eg:=match a3y (lvD w d) (i:Int) with
 | none=>[]
 | some pl=>(d.2.2.getD i []).flatMap (a8e w p d.1 pl)
def b1q (w:Option Str) (p:Ps) (d:Dl):List Eg:=(List.range d.2.2.length).flatMap (b1o w p d)
def b6l (w:Option Str) (p:Ps) (m:Mkr):List Eg:=(a1q m.2).map λ q=>(a4l w p q.1,a6g w p q.2,"over",some m.1)
def d4f (w:Option Str) (p:Ps):List Eg:=p.1.flatMap (d5b w)++p.1.flatMap (b1q w p)++p.2.flatMap (b6l w p)
structure GH (p:Ps):Prop where
 gp:d3a p
 nums:(p.1.map (·.1)).Pairwise (· < ·)
 pos:∀ d∈p.1,0 < d.1
 keys:(p.2.map (·.1)).Pairwise (· < ·)
 klen:p.2.length<=30
 chn:∀ m∈p.2,m.2.Nodup/\∀ x∈m.2,x∈p.1.map (·.1)
 lks:∀ d∈p.1,∀ lk∈d.2.2,lk.length<=3/\∀ q∈lk,q.2=-1\/q.2=0\/q.2∈chF p.2 q.1
def a4x (w:Option Str) (p:Ps) (n:Nk):Lk:=match c3w p n.1 with
 | some d=>(c2b w d n.2).flatten
 | none=>[]
def plO (p:Ps) (k m:Int):Option Int:=if m∈chF p.2 k then some (((chF p.2 k).idxOf m:Nat)+1) else none
def plF (p:Ps) (k m:Int):Int:=(plO p k m).getD 0
def d2t (w:Option Str) (p:Ps) (a b:Nk) (k:Int):Bool:=decide (a.1∈chF p.2 k) && (decide (a.2=(a4l w p a.1).2) && (a4x w p b).any λ q=>decide (q.1=k) && (decide (0 < q.2) && decide (plF p k a.1<=plF p k q.2)))
def a5y (w:Option Str) (p:Ps) (a b:Nk) (k:Int):Bool:=decide (b.1∈chF p.2 k) && (decide (b.2=(a4l w p b.1).2) && (a4x w p a).any λ q=>decide (q.1=k) && (decide (0<=q.2) && decide (plF p k q.2 < plF p k b.1)))
def c0q (w:Option Str) (p:Ps) (a b:Nk) (k:Int):Bool:=decide (a.2=(a4l w p a.1).2) && (decide (b.2=(a6g w p b.1).2) && (decide (a.1∈chF p.2 k) && (decide (b.1∈chF p.2 k) && decide (plF p k a.1 < plF p k b.1))))
def c6j (ks:List Int) (f:Int->Bool) (a b:Nk) (x:Str):List Eg:=(ks.filter f).map λ k=>(a,b,x,some k)
def a5c (w:Option Str) (p:Ps) (a b:Nk):List Eg:=if a.1=b.1 then (if a.2 < b.2 then [(a,b,"own",none)] else []) else
 c6j (p.2.map (·.1)) (d2t w p a b) a b "saw"++c6j (p.2.map (·.1)) (a5y w p a b) a b "unseen"++c6j (p.2.map (·.1)) (c0q w p a b) a b "over"
def a2g (w:Option Str) (p:Ps):List Nk:=p.1.flatMap (a2l w)
def b0q (w:Option Str) (p:Ps):List Eg:=(a2g w p).flatMap λ a=>(a2g w p).flatMap λ b=>a5c w p a b
theorem a3g {w:Option Str}:n∈a2g w p ↔ ∃ d∈p.1,d.1=n.1/\0<=n.2/\n.2 < a1e (lvD w d) (d.2.2.length:Int):=by
 unfold a2g a2l;rw[z1i];constructor
 ·rintro⟨d,hd,h⟩;obtain⟨j,hj,rfl⟩:=z0d.mp h;have:=z41.mp hj;exact⟨d,hd,rfl,(by show (0:Int)<=(j:Int);lia),(by show (j:Int) < _;lia)⟩
 ·rintro⟨d,hd,e,h0,h1⟩;exact⟨d,hd,z0d.mpr ⟨n.2.toNat,z41.mpr (by lia),z1d e (by show ((n.2.toNat:Nat):Int)=_;lia)⟩⟩
theorem GH.at (g:GH p) (h:d∈p.1):c3w p d.1=some d:=e4j g.gp.2.1 h
theorem GH.num {p:Ps} (g:GH p) {k x:Int} (h:x∈chF p.2 k):(∃ d∈p.1,d.1=x)/\0 < x/\k∈p.2.map (·.1)/\(chF p.2 k).Nodup:=by
 by_cases hk:k∈p.2.map (·.1)
 ·have hm:=z0c (a3s hk);obtain⟨n1,n2⟩:=g.chn _ hm;obtain⟨d,hd,e⟩:=z0d.mp (n2 x h);exact⟨⟨d,hd,e⟩,e ▸ g.pos d hd,hk,n1⟩
 ·rw[a2x hk] at h;cases h
theorem GH.chn' (g:GH p) (k:Int):(chF p.2 k).Nodup:=by
 by_cases hk:k∈p.2.map (·.1)
 ·exact(g.chn _ (z0c (a3s hk))).1
 ·rw[a2x hk];exact .nil
theorem c3f (g:GH p) (h:m∈p.2):chF p.2 m.1=m.2:=by
 have hk:m.1∈p.2.map (·.1):=z0d.mpr ⟨m,h,rfl⟩;have h1:=a3s hk;obtain⟨i,hi⟩:=z1v.mp h;have nd:(p.2.map (·.1)).Nodup:=z1u (λ z=>by lia) g.keys;have e1:(p.2.map (·.1))[i]?=some m.1:=by rw[z09,hi];rfl
 have e2:(p.2.map (·.1))[ixM p.2 m.1]?=some m.1:=by rw[z09,h1];rfl
 have hij:=(z2j (z0l.mp e1).1 nd).mp (e1.trans e2.symm);rw[<-hij,hi] at h1;exact(z0b Prod.snd (z0r h1)).symm
theorem b3w {w:Option Str} (g:GH p) (h:d∈p.1):a4l w p d.1=c1t w d:=by unfold a4l;rw[g.at h]
theorem b6t {w:Option Str} (g:GH p) (h:d∈p.1):a6g w p d.1=b9r w d:=by unfold a6g;rw[g.at h]
theorem a5e {w:Option Str} (g:GH p) (h:∃ d∈p.1,d.1=x):a4l w p x∈a2g w p/\(a4l w p x).1=x/\a6g w p x∈a2g w p/\(a6g w p x).1=x:=by
 obtain⟨d,hd,rfl⟩:=h;rw[b3w g hd,b6t g hd];have hs:1<=a1e (lvD w d) (d.2.2.length:Int)/\0<=a2t (lvD w d) (d.2.2.length:Int)/\a2t (lvD w d) (d.2.2.length:Int) < a1e (lvD w d) (d.2.2.length:Int):=by
  generalize lvD w d=l;cases l<;>simp only [a1e,a2t]<;>lia
 exact⟨a3g.mpr ⟨d,hd,rfl,(by show 0<=a1e _ _ - 1;lia),(by show a1e _ _ - 1 < _;lia)⟩,rfl,a3g.mpr ⟨d,hd,rfl,hs.2.1,hs.2.2⟩,rfl⟩
theorem c6v {i n:Nat} (h:a3y l (i:Int)=some pl) (hi:i < n):0<=pl/\pl < a1e l (n:Int):=by
 cases l<;>simp only [a3y,a1e] at h ⊢<;>first | (injection h with h;lia) | (cases h)
theorem b2a {w:Option Str}:q∈a4x w p n ↔ ∃ d,c3w p n.1=some d/\∃ (i:Nat) (lk:Lk),d.2.2[i]?=some lk/\a3y (lvD w d) (i:Int)=some n.2/\q∈lk:=by
 unfold a4x;cases c3w p n.1 with
 | none=>exact⟨λ h=>(by cases h),λ ⟨d,e,_⟩=>(by cases e)⟩
 | some d =>
  show q∈(c2b w d n.2).flatten ↔ _;rw[List.mem_flatten];unfold c2b;constructor
  ·rintro⟨lk,h,hq⟩;obtain⟨i,hi,e⟩:=z5w.mp h;split at e
   ·next z=>exact nx7 d rfl i lk e z hq
   ·cases e
  ·rintro⟨d',e,i,lk,h1,h2,hq⟩;cases e;exact⟨lk,z5w.mpr ⟨i,z41.mpr (z0l.mp h1).1,by rw[z02 h2];exact h1⟩,hq⟩
theorem b2x {w:Option Str}:x∈b1q w p d ↔ ∃ (i:Nat) (lk:Lk) (pl:Int) (q:Pr),d.2.2[i]?=some lk/\a3y (lvD w d) (i:Int)=some pl/\q∈lk/\x∈a8e w p d.1 pl q:=by
 unfold b1q;rw[z1i];constructor
 ·rintro⟨i,hi,h⟩;have hi':=z41.mp hi;unfold b1o at h;split at h
  ·cases h
  ·next pl e =>
   obtain⟨q,hq,hx⟩:=z1i.mp h;rw[z2t,z0o hi'] at hq;exact nx30 i (d.2.2[i]) pl q (z0o hi') e hq hx
 ·rintro⟨i,lk,pl,q,h1,h2,h3,h4⟩;refine⟨i,z41.mpr (z0l.mp h1).1,?_⟩;unfold b1o;rw[h2];exact z1i.mpr ⟨q,by rw[z2t,h1];exact h3,h4⟩
theorem a9v {ms:List Int} (nd:ms.Nodup):(m∈ms.take t ↔ m∈ms/\ms.idxOf m < t)/\(m∈ms.drop t ↔ m∈ms/\t<=ms.idxOf m):=by
 have at_:m∈ms->ms[ms.idxOf m]?=some m:=λ h=>by
  have hl:=z4e.mpr h;rw[z0o hl];exact z0b some (z40 hl)
 constructor
 ·constructor
  ·intro h;have hm:=z37 h;obtain⟨i,hi⟩:=z1v.mp h;rw[z63] at hi;split at hi
   ·next z =>
    have:=(z2j (z0l.mp hi).1 nd).mp (hi.trans (at_ hm).symm);exact⟨hm,by lia⟩
   ·cases hi
  ·rintro⟨h1,h2⟩;exact z1v.mpr ⟨ms.idxOf m,by rw[z63,z02 h2];exact at_ h1⟩
 ·constructor
  ·intro h;have hm:=z2q h;obtain⟨i,hi⟩:=z1v.mp h;rw[z6o] at hi;have:=(z2j (z0l.mp hi).1 nd).mp (hi.trans (at_ hm).symm);exact⟨hm,by lia⟩
  ·rintro⟨h1,h2⟩;exact z1v.mpr ⟨ms.idxOf m - t,by rw[z6o,show t+(ms.idxOf m - t)=ms.idxOf m by lia];exact at_ h1⟩
theorem a5i (h:m∈chF p.2 k):plF p k m=((chF p.2 k).idxOf m:Nat)+1:=by unfold plF plO;rw[z02 h];rfl
theorem d8h (h:m ∉ chF p.2 k):plF p k m=0:=by unfold plF plO;rw[z01 h];rfl
theorem a8d:e∈c6j ks f a b x ↔ ∃ k∈ks,f k=true/\e=(a,b,x,some k):=by
 unfold c6j;rw[z0d];constructor
 ·rintro⟨k,hk,e⟩;obtain⟨h1,h2⟩:=z3k.mp hk;exact⟨k,h1,h2,e.symm⟩
 ·rintro⟨k,h1,h2,e⟩;exact⟨k,z3k.mpr ⟨h1,h2⟩,e.symm⟩
theorem b2u {w:Option Str} (g:GH p) (hc:a.1∈chF p.2 k) (h:a.2=(a4l w p a.1).2):a=a4l w p a.1:=z1d (a5e g (g.num hc).1).2.1.symm h
theorem c4d {w:Option Str} (g:GH p) (x:Eg):x∈b0q w p ↔ x∈d4f w p:=by
 unfold b0q d4f;rw[z0f,z0f];constructor
 ·intro h;obtain⟨a,ha,h⟩:=z1i.mp h;obtain⟨b,hb,h⟩:=z1i.mp h;obtain⟨da,hda,ea,a0,a1⟩:=a3g.mp ha;obtain⟨db,hdb,eb,b0,b1⟩:=a3g.mp hb;unfold a5c at h;split at h
  ·next e =>
   split at h
   ·next lt =>
    have ex:=z0i.mp h;subst ex;have ed:da=db:=by
     have h1:=g.at hda;rw[ea,e,<-eb,g.at hdb] at h1;exact(z0r h1).symm
    subst ed;refine .inl (.inl (z1i.mpr ⟨da,hda,z0d.mpr ⟨(a,b),a4a.mpr (nx0 a.2.toNat b.2.toNat (by lia) ?_ ?_),rfl⟩⟩))
    ·unfold a2l;rw[z09,z6k (by lia)];exact z0b some (z1d ea (by show ((a.2.toNat:Nat):Int)=_;lia))
    ·unfold a2l;rw[z09,z6k (by lia)];exact z0b some (z1d eb (by show ((b.2.toNat:Nat):Int)=_;lia))
   ·cases h
  ·next ne =>
   rcases z0f.mp h with h | h
   ·rcases z0f.mp h with h | h
    ·obtain⟨k,hk,hs,rfl⟩:=a8d.mp h;unfold d2t at hs;simp only [z3u,z2d,z45] at hs;obtain⟨h1,h2,q,hq,h3,h4,h5⟩:=hs;obtain⟨d,hd,i,lk,e1,e2,e3⟩:=b2a.mp hq;rw[<-eb,g.at hdb] at hd;cases hd;have lq:=(g.lks db hdb lk (z0c e1)).2 q e3;have qc:q.2∈chF p.2 k:=by rcases lq with z | z | z;lia;lia;rw[h3] at z;exact z
     refine .inl (.inr (z1i.mpr ⟨db,hdb,b2x.mpr (nx30 i lk b.2 q e1 e2 e3 ?_)⟩));unfold a8e;rw[z01 (by lia),h3];refine z1x _ (z0d.mpr ⟨a.1,z3k.mpr ⟨(a9v (g.chn' k)).1.mpr ⟨h1,?_⟩,z08 (by rw[eb];exact ne)⟩,?_⟩)
     ·unfold a5t;rw[z01 (by lia)];rw[a5i h1,a5i qc] at h5;lia
     ·rw[<-b2u g h1 h2,eb]
    ·obtain⟨k,hk,hs,rfl⟩:=a8d.mp h;unfold a5y at hs;simp only [z3u,z2d,z45] at hs;obtain⟨h1,h2,q,hq,h3,h4,h5⟩:=hs;obtain⟨d,hd,i,lk,e1,e2,e3⟩:=b2a.mp hq;rw[<-ea,g.at hda] at hd;cases hd;have lq:=(g.lks da hda lk (z0c e1)).2 q e3;refine .inl (.inr (z1i.mpr ⟨da,hda,b2x.mpr (nx30 i lk a.2 q e1 e2 e3 ?_)⟩));unfold a8e;rw[z01 (by lia),h3];refine z1e _ (z0d.mpr ⟨b.1,z3k.mpr ⟨(a9v (g.chn' k)).2.mpr ⟨h1,?_⟩,z08 (by rw[ea];exact λ z=>ne z.symm)⟩,?_⟩)
     ·unfold a5t;split
      ·exact z0m _
      ·next z0 =>
       have qc:q.2∈chF p.2 k:=by rcases lq with z | z | z;lia;lia;rw[h3] at z;exact z
       rw[a5i h1,a5i qc] at h5;lia
     ·rw[<-b2u g h1 h2,ea]
   ·obtain⟨k,hk,hs,rfl⟩:=a8d.mp h;unfold c0q at hs;simp only [z3u,z2d] at hs;obtain⟨h1,h2,h3,h4,h5⟩:=hs;have hm:=z0c (a3s hk);refine .inr (z1i.mpr ⟨(k,chF p.2 k),hm,z0d.mpr ⟨(a.1,b.1),a4a.mpr (nx0 ((chF p.2 k).idxOf a.1) ((chF p.2 k).idxOf b.1) ?_ ?_ ?_),?_⟩⟩)
    ·rw[a5i h3,a5i h4] at h5;lia
    ·have hl:=z4e.mpr h3;rw[z0o hl];exact z0b some (z40 hl)
    ·have hl:=z4e.mpr h4;rw[z0o hl];exact z0b some (z40 hl)
    ·show (a4l w p a.1,a6g w p b.1,("over":Str),some k)=_;rw[<-b2u g h3 h1,show a6g w p b.1=b from z1d (a5e g (g.num h4).1).2.2.2 h2.symm]
 ·have put:∀ {a b:Nk},a∈a2g w p->b∈a2g w p->x∈a5c w p a b->x∈(a2g w p).flatMap λ a=>(a2g w p).flatMap λ b=>a5c w p a b:=λ ha hb h=>z1i.mpr ⟨_,ha,z1i.mpr ⟨_,hb,h⟩⟩
  rintro((h | h) | h)
  ·obtain⟨d,hd,h⟩:=z1i.mp h;obtain⟨⟨a,b⟩,hq,rfl⟩:=z0d.mp h;obtain⟨i,j,lt,h1,h2⟩:=a4a.mp hq;have ma:a∈a2l w d:=z0c h1;have mb:b∈a2l w d:=z0c h2;refine put (z1i.mpr ⟨d,hd,ma⟩) (z1i.mpr ⟨d,hd,mb⟩) ?_;unfold a2l at h1 h2;rw[z09] at h1 h2;obtain⟨i',hi',rfl⟩:=z1z.mp h1;obtain⟨j',hj',rfl⟩:=z1z.mp h2;have ei:=(z0l.mp hi').2;have ej:=(z0l.mp hj').2;rw[List.getElem_range] at ei ej;unfold a5c;rw[z02 rfl,z02 (by show (i':Int) < (j':Int);lia)];exact z0i.mpr rfl
  ·obtain⟨d,hd,h⟩:=z1i.mp h;obtain⟨i,lk,pl,q,e1,e2,e3,h⟩:=b2x.mp h;have lq:=(g.lks d hd lk (z0c e1)).2 q e3;have nd:(d.1,pl)∈a2g w p:=a3g.mpr ⟨d,hd,rfl,c6v e2 (z0l.mp e1).1⟩;have sn:q∈a4x w p (d.1,pl):=b2a.mpr (nx7 d (g.at hd) i lk e1 e2 e3);unfold a8e at h;split at h
   ·cases h
   ·next q1 =>
    rcases z0f.mp h with h | h
    ·obtain⟨m,hm,rfl⟩:=z0d.mp h;obtain⟨m1,m2⟩:=z3k.mp hm;obtain⟨m3,m4⟩:=(a9v (g.chn' q.1)).1.mp m1;have ne:=z0h m2;obtain⟨mn,mp,mk,_⟩:=g.num m3;obtain⟨k1,k2,_,_⟩:=a5e (w:=w) g mn;unfold a5t at m4;split at m4
     ·lia
     ·next q0 =>
      have qc:q.2∈chF p.2 q.1:=by rcases lq with z | z | z;exact absurd z q1;exact absurd z q0;exact z
      refine put k1 nd ?_;unfold a5c;rw[z01 (by rw[k2];exact ne)];refine z1x _ (z1x _ (a8d.mpr ⟨q.1,mk,?_,rfl⟩));unfold d2t;rw[k2];simp only [z3u,z2d,z45];refine⟨m3,trivial,q,sn,rfl,(g.num qc).2.1,?_⟩;rw[a5i m3,a5i qc];lia
    ·obtain⟨m,hm,rfl⟩:=z0d.mp h;obtain⟨m1,m2⟩:=z3k.mp hm;obtain⟨m3,m4⟩:=(a9v (g.chn' q.1)).2.mp m1;have ne:=z0h m2;obtain⟨mn,mp,mk,_⟩:=g.num m3;obtain⟨k1,k2,_,_⟩:=a5e (w:=w) g mn;refine put nd k1 ?_;unfold a5c;rw[z01 (by rw[k2];exact λ z=>ne z.symm)];refine z1x _ (z1e _ (a8d.mpr ⟨q.1,mk,?_,rfl⟩));unfold a5y;rw[k2];simp only [z3u,z2d,z45];unfold a5t at m4;split at m4
     ·next q0 =>
      refine⟨m3,trivial,q,sn,rfl,by lia,?_⟩;rw[a5i m3,d8h (λ z=>by have:=(g.num z).2.1;lia)];lia
     ·next q0 =>
      have qc:q.2∈chF p.2 q.1:=by rcases lq with z | z | z;exact absurd z q1;exact absurd z q0;exact z
      refine⟨m3,trivial,q,sn,rfl,by have:=(g.num qc).2.1;lia,?_⟩;rw[a5i m3,a5i qc];lia
  ·obtain⟨m,hm,h⟩:=z1i.mp h;obtain⟨⟨a,b⟩,hq,rfl⟩:=z0d.mp h;obtain⟨i,j,lt,h1,h2⟩:=a4a.mp hq;have ec:=c3f g hm;have ma:a∈chF p.2 m.1:=by rw[ec];exact z0c h1
   have mb:b∈chF p.2 m.1:=by rw[ec];exact z0c h2
   obtain⟨an,_,ak,nd⟩:=g.num ma;obtain⟨bn,_,_,_⟩:=g.num mb;obtain⟨k1,k2,_,_⟩:=a5e (w:=w) g an;obtain⟨_,_,f1,f2⟩:=a5e (w:=w) g bn;rw[<-ec] at h1 h2;have at_:∀ {y:Int},y∈chF p.2 m.1->(chF p.2 m.1)[(chF p.2 m.1).idxOf y]?=some y:=λ {y} h=>by
    have hl:=z4e.mpr h;rw[z0o hl];exact z0b some (z40 hl)
   have ei:=(z2j (z0l.mp h1).1 nd).mp (h1.trans (at_ ma).symm);have ej:=(z2j (z0l.mp h2).1 nd).mp (h2.trans (at_ mb).symm);refine put k1 f1 ?_;unfold a5c;rw[z01 (by rw[k2,f2];exact λ z=>by rw[z] at ei;lia)];refine z1e _ (a8d.mpr ⟨m.1,ak,?_,rfl⟩);unfold c0q;rw[k2,f2];simp only [z3u,z2d];refine⟨trivial,trivial,ma,mb,?_⟩;rw[a5i ma,a5i mb];lia
--@STAGE
theorem d5t {a b:Nk} (h:a.1 < b.1\/a.1=b.1/\a.2 < b.2):ltP ltI ltI a b=true:=by
 rw[a5f];rcases h with h | ⟨e,h⟩
 ·rw[z01 (by lia)];exact z08 h
 ·rw[z02 e];exact z08 h
theorem e6z (h:ltP ltI ltI x.1 y.1=true):ltR (a3q x) (a3q y)=true:=by
 unfold ltR;rw[a5f,z01 (λ z=>by rw[show x.1=y.1 from z,(d2w.pair d2w).irr] at h;cases h)];exact h
theorem e6w (e:x.1=y.1) (h:ltP ltI ltI x.2.1 y.2.1=true):ltR (a3q x) (a3q y)=true:=by
 unfold ltR;rw[a5f,z02 (show (a3q x).1=(a3q y).1 from e),a5f,z01 (λ (z:(a3q x).2.1=(a3q y).2.1)=>by rw[show x.2.1=y.2.1 from z,(d2w.pair d2w).irr] at h;cases h)];exact h
theorem e4k (e:x.1=y.1) (e2:x.2.1=y.2.1) (h:kix x.2.2.1 < kix y.2.2.1):ltR (a3q x) (a3q y)=true:=by
 unfold ltR;rw[a5f,z02 (show (a3q x).1=(a3q y).1 from e),a5f,z02 (show (a3q x).2.1=(a3q y).2.1 from e2),a5f,z01 (λ z=>by have z':kix x.2.2.1=kix y.2.2.1:=z;lia)];exact z08 h
theorem e6o (e:x.1=y.1) (e2:x.2.1=y.2.1) (e3:x.2.2.1=y.2.2.1) (h:ltO x.2.2.2 y.2.2.2=true):ltR (a3q x) (a3q y)=true:=by
 unfold ltR;rw[a5f,z02 (show (a3q x).1=(a3q y).1 from e),a5f,z02 (show (a3q x).2.1=(a3q y).2.1 from e2),a5f,z02 (show (a3q x).2.2.1=(a3q y).2.2.1 from z0b kix e3)];exact h
theorem a4s (h:e∈c6j ks f a b x):e.1=a/\e.2.1=b/\e.2.2.1=x/\∃ k∈ks,e.2.2.2=some k:=by
 obtain⟨k,hk,_,rfl⟩:=a8d.mp h;exact⟨rfl,rfl,rfl,k,hk,rfl⟩
theorem a6p {w:Option Str} (h:x∈a5c w p a b):x.1=a/\x.2.1=b/\b7s x:=by
 unfold a5c at h;have no:∀ {e:Eg} {s:Str} {k:Int},e.2.2.1=s->e.2.2.2=some k->(s="saw"\/s="unseen"\/s="over")->s≠"own"->b7s e:=λ {e s k} h1 h2 h3 h4=>⟨by rw[h1];exact .inr h3,by rw[h1,h2];exact⟨λ z=>absurd z h4,λ z=>by cases z⟩⟩
 split at h
 ·split at h
  ·have e:=z0i.mp h;subst e;exact⟨rfl,rfl,.inl rfl,⟨λ _=>rfl,λ _=>rfl⟩⟩
  ·cases h
 ·rcases z0f.mp h with h | h
  ·rcases z0f.mp h with h | h
   ·obtain⟨h1,h2,h3,k,_,h4⟩:=a4s h;exact⟨h1,h2,no h3 h4 (.inl rfl) (by decide +kernel)⟩
   ·obtain⟨h1,h2,h3,k,_,h4⟩:=a4s h;exact⟨h1,h2,no h3 h4 (.inr (.inl rfl)) (by decide +kernel)⟩
  ·obtain⟨h1,h2,h3,k,_,h4⟩:=a4s h;exact⟨h1,h2,no h3 h4 (.inr (.inr rfl)) (by decide +kernel)⟩
theorem c7l {ks:List Int} (hk:ks.Pairwise (· < ·)) (f:Int->Bool) (a b:Nk) (x:Str):(c6j ks f a b x).Pairwise λ c d=>ltR (a3q c) (a3q d)=true:=by
 unfold c6j;exact z26.mpr (z1u (λ {k l} (z:k < l)=>e6o (x:=(a,b,x,some k)) (y:=(a,b,x,some l)) rfl rfl rfl (z08 z)) (hk.sublist List.filter_sublist))
theorem d9c {w:Option Str} (g:GH p) (a b:Nk):(a5c w p a b).Pairwise λ c d=>ltR (a3q c) (a3q d)=true:=by
 unfold a5c;split
 ·split
  ·exact z3y.mpr ⟨(λ _ h=>by cases h),.nil⟩
  ·exact .nil
 ·have kx:kix "saw"=1/\kix "unseen"=2/\kix "over"=3:=by decide +kernel
  refine z2w.mpr ⟨z2w.mpr ⟨c7l g.keys _ _ _ _,c7l g.keys _ _ _ _,λ x hx y hy=>?_⟩,c7l g.keys _ _ _ _,λ x hx y hy=>?_⟩
  ·obtain⟨h1,h2,h3,_⟩:=a4s hx;obtain⟨g1,g2,g3,_⟩:=a4s hy;exact e4k (h1.trans g1.symm) (h2.trans g2.symm) (by rw[h3,g3,kx.1,kx.2.1];decide)
  ·obtain⟨g1,g2,g3,_⟩:=a4s hy;rcases z0f.mp hx with hx | hx
   ·obtain⟨h1,h2,h3,_⟩:=a4s hx;exact e4k (h1.trans g1.symm) (h2.trans g2.symm) (by rw[h3,g3,kx.1,kx.2.2];decide)
   ·obtain⟨h1,h2,h3,_⟩:=a4s hx;exact e4k (h1.trans g1.symm) (h2.trans g2.symm) (by rw[h3,g3,kx.2.1,kx.2.2];decide)
theorem c4u {w:Option Str} (g:GH p):(a2g w p).Pairwise λ a b=>ltP ltI ltI a b=true:=by
 unfold a2g;refine List.pairwise_flatMap.mpr ⟨λ d _=>?_,?_⟩
 ·unfold a2l;exact z26.mpr (z1u (λ {i j:Nat} (z:i < j)=>d5t (a:=(d.1,(i:Int))) (b:=(d.1,(j:Int))) (.inr ⟨rfl,Int.ofNat_lt.mpr z⟩)) z6n)
 ·refine z1u (λ {d e} z x hx y hy=>?_) (z26.mp g.nums);unfold a2l at hx hy;obtain⟨i,_,rfl⟩:=z0d.mp hx;obtain⟨j,_,rfl⟩:=z0d.mp hy;exact d5t (.inl z)
theorem c7u {w:Option Str} (g:GH p):(b0q w p).Pairwise λ c d=>ltR (a3q c) (a3q d)=true:=by
 unfold b0q;refine List.pairwise_flatMap.mpr ⟨λ a _=>List.pairwise_flatMap.mpr ⟨λ b _=>d9c g a b,?_⟩,?_⟩
 ·refine z1u (λ {b b'} z x hx y hy=>?_) (c4u g);obtain⟨h1,h2,_⟩:=a6p hx;obtain⟨g1,g2,_⟩:=a6p hy;exact e6w (h1.trans g1.symm) (by rw[h2,g2];exact z)
 ·refine z1u (λ {a a'} z x hx y hy=>?_) (c4u g);obtain⟨b,_,hx⟩:=z1i.mp hx;obtain⟨b',_,hy⟩:=z1i.mp hy;exact e6z (by rw[(a6p hx).1,(a6p hy).1];exact z)
theorem c2g {w:Option Str} (h:x∈b0q w p):b7s x:=by
 obtain⟨a,_,h⟩:=z1i.mp h;obtain⟨b,_,h⟩:=z1i.mp h;exact(a6p h).2.2
theorem d5a {w:Option Str} (g:GH p) (h:x∈d4f w p):b7s x:=c2g ((c4d g x).mpr h)
theorem d3h {w:Option Str} (g:GH p) (hn:ks.Nodup) (hm:∀ x,x∈ks ↔ x∈d4f w p) (pj:js.Perm ks) (pw:js.Pairwise λ a b=>ltR (a3q b) (a3q a)=false):js=b0q w p:=by
 have nw:(b0q w p).Nodup:=z1u (λ {a b} z e=>by rw[e,d1l.irr] at z;cases z) (c7u g);have p2:js.Perm (b0q w p):=pj.trans (b5j hn nw λ x=>(hm x).trans (c4d g x).symm);refine List.Perm.eq_of_pairwise (le:=λ a b=>ltR (a3q b) (a3q a)=false) (λ a b ha hb h1 h2=>?_) pw (z1u (λ {a b} z=>?_) (c7u g)) p2
 ·have oa:=d5a g ((hm a).mp (pj.mem_iff.mp ha));have ob:=c2g hb;by_cases e:a3q a=a3q b
  ·exact d1o oa ob e
  ·have:=d1l.tot _ _ (λ z=>e z.symm) h1;rw[this] at h2;cases h2
 ·cases h:ltR (a3q b) (a3q a) with
  | false=>rfl
  | true =>
   have:=d1l.tr _ _ _ z h;rw[d1l.irr] at this;cases this
--@STAGE
theorem d9a (ms:List Mkr) (k:Int) (ch:List Int) (k':Int):ixM (b8k ms k ch) k'=ixM ms k':=by unfold ixM;rw[a6q]
theorem d3f {ms:List Mkr} {k:Int} (h:k ∉ ms.map (·.1)) (ch:List Int):b8k ms k ch=ms:=by
 unfold b8k;rw[z6v];have:=z4g h;unfold ixM;rw[this,z04];exact z05 _
theorem c1p {ms:List Mkr} {k:Int} (hk:k∈ms.map (·.1)) (ch:List Int) (k':Int):chF (b8k ms k ch) k'=if k'=k then ch else chF ms k':=by
 have h1:=a3s hk;have hl:=c3e hk;unfold chF;rw[d9a];unfold b8k;rw[List.getElem?_set];by_cases e:k'=k
 ·subst e;rw[z02 rfl,z02 hl,z02 rfl];rfl
 ·rw[z01 e];split
  ·next z =>
   by_cases hk':k'∈ms.map (·.1)
   ·have h2:=a3s hk';rw[<-z,h1] at h2;exact absurd (z0b Prod.fst (z0r h2)).symm e
   ·have:=z4g hk';rw[z04] at this;unfold ixM at z hl;lia
  ·rfl
theorem d1p {ms:List Mkr} {k:Int} (hk:k ∉ ms.map (·.1)) (n:Int) (k':Int):chF (ms++[(k,[n])]) k'=if k'=k then [n] else chF ms k':=by
 unfold chF ixM;rw[z0z];by_cases h:k'∈ms.map (·.1)
 ·rw[z01 (λ (z:k'=k)=>hk (z ▸ h)),z6q,z02 h,z4a (show List.idxOf k' (ms.map (·.1)) < ms.length from c3e h)]
 ·rw[z6q,z01 h,z04,z2u (Nat.le_add_left _ _)];by_cases e:k'=k
  ·subst e;rw[z02 rfl];simp
  ·have:ms[List.idxOf k' (ms.map (·.1))]?=none:=z2m (by rw[z4g h,z04];exact z05 _);rw[z01 e,this,z2m];show 1<=_;have:List.idxOf k' [k]=1:=by rw[List.idxOf_cons,show (k == k')=false from z3q.mpr λ z=>e z.symm];rfl
   show 1<=List.idxOf k' [k]+ms.length - ms.length;lia
theorem d6n (ms:List Mkr) (k n k':Int):chF (c0w ms k n) k'=if k'=k then chF ms k++[n] else chF ms k':=by
 unfold c0w;split
 ·next h=>exact c1p h _ _
 ·next h =>
  rw[d1p h,a2x h];rfl
theorem d8n (l:List Int) (f:Int->List Int) (k:Int):chF (l.map λ x=>(x,f x)) k=if k∈l then f k else []:=by
 have e:(l.map λ x=>(x,f x)).map (·.1)=l:=by rw[z15];exact List.map_id _
 split
 ·next h =>
  have hk:k∈(l.map λ x=>(x,f x)).map (·.1):=by rw[e];exact h
  have h1:=a3s hk;rw[z09] at h1;obtain⟨y,hy,ey⟩:=z1z.mp h1;have e1:y=k:=z0b Prod.fst ey;have e2:=z0b Prod.snd ey;rw[e1] at e2;exact e2.symm
 ·next h=>exact a2x (by rw[e];exact h)
theorem e0r {ms:List Mkr} (nd:(ms.map (·.1)).Nodup) {m:Mkr} (h:m∈ms):chF ms m.1=m.2:=by
 have hk:m.1∈ms.map (·.1):=z0d.mpr ⟨m,h,rfl⟩;have h1:=a3s hk;obtain⟨i,hi⟩:=z1v.mp h;have e1:(ms.map (·.1))[i]?=some m.1:=by rw[z09,hi];rfl
 have e2:(ms.map (·.1))[ixM ms m.1]?=some m.1:=by rw[z09,h1];rfl
 have hij:=(z2j (z0l.mp e1).1 nd).mp (e1.trans e2.symm);rw[<-hij,hi] at h1;exact(z0b Prod.snd (z0r h1)).symm
theorem b9j (c:Int) (ch:List Int):(c6k c ch).Perm ch:=by
 unfold c6k;split
 ·next h =>
  dsimp only;have c0:=z27 (a0x c 4) (show ((ch.length:Int) - 1)≠0 by lia);have c1:=z2b (a0x c 4) (show (0:Int) < (ch.length:Int) - 1 by lia);generalize hj:(1+a0x c 4%((ch.length:Int) - 1)).toNat=j;have jl:j < ch.length:=by lia
  refine List.perm_middle.trans ?_;rw[z39,z2t,z0o jl];show (ch[j]::ch.eraseIdx j).Perm ch;rw[List.eraseIdx_eq_take_drop_succ];refine List.perm_middle.symm.trans ?_;rw[<-z5o jl,z39]
 ·exact .refl _
structure SG (st:List Dl×List Mkr):Prop where
 k:(st.2.map (·.1)).Nodup
 c:∀ k,(chF st.2 k).Nodup/\∀ x∈chF st.2 k,x∈st.1.map (·.1)
 s:∀ d∈st.1,∀ lk∈d.2.2,∀ q∈lk,q.2=-1\/q.2=0\/q.2∈chF st.2 q.1
theorem d2y:(c6i ms c n key).getD i 0=-1\/(c6i ms c n key).getD i 0=0\/(c6i ms c n key).getD i 0∈chF ms key:=by
 rw[z2t];cases e:(c6i ms c n key)[i]? with
 | none=>exact .inr (.inl rfl)
 | some y =>
  have hy:=z0c e;show y=-1\/y=0\/_;unfold c6i at hy;split at hy
  ·exact .inl (z0i.mp hy)
  ·rcases z0a.mp hy with z | z
   ·exact .inr (.inl z)
   ·exact .inr (.inr (z3k.mp z).1)
theorem SG.spoil {st:List Dl×List Mkr} (h:SG st) (c:Int):SG (a5o st c):=by
 unfold a5o;dsimp only;split
 ·generalize (a2s (st.2.map (·.1))).getD (a0x c 3%(st.2.length:Int)).toNat 0=k;by_cases hk:k∈st.2.map (·.1)
  ·have mm:∀ k' x,x∈chF (b8k st.2 k (c6k c (chF st.2 k))) k' ↔ x∈chF st.2 k':=λ k' x=>by
    rw[c1p hk];split
    ·next e=>rw[e];exact(b9j c _).mem_iff
    ·exact Iff.rfl
   refine⟨by rw[a6q];exact h.k,λ k'=>⟨?_,λ x hx=>(h.c k').2 x ((mm k' x).mp hx)⟩,λ d hd lk hl q hq=>?_⟩
   ·rw[c1p hk];split
    ·exact(b9j c _).nodup_iff.mpr (h.c k).1
    ·exact(h.c k').1
   ·rcases h.s d hd lk hl q hq with z | z | z
    ·exact .inl z
    ·exact .inr (.inl z)
    ·exact .inr (.inr ((mm _ _).mpr z))
  ·rw[d3f hk];exact h
 ·split
  ·next e =>
   generalize hi:(a0x c 2%(st.1.length:Int)).toNat=i at *;by_cases il:i < st.1.length
   ·have ed:=a1z (d:=zD) il;generalize st.1.getD i zD=d at *;have hd:=z0c ed;have em:(st.1.set i (d.1,d.2.1,d.2.2.set (a0x c 3%(d.2.2.length:Int)).toNat (d9y st.2 c d.1 (d.2.2.getD (a0x c 3%(d.2.2.length:Int)).toNat [])))).map (·.1)=st.1.map (·.1):=by
     rw[z33];exact TFs.set_self (by rw[z09,ed];rfl)
    refine⟨h.k,λ k=>⟨(h.c k).1,λ x hx=>by rw[em];exact(h.c k).2 x hx⟩,λ d' hd' lk hl q hq=>?_⟩;rcases z3e hd' with z | z
    ·exact h.s d' z lk hl q hq
    ·rw[z] at hl;rcases z3e hl with z | z
     ·exact h.s d hd lk z q hq
     ·rw[z] at hq;have old:∀ q∈d.2.2.getD (a0x c 3%(d.2.2.length:Int)).toNat [],q.2=-1\/q.2=0\/q.2∈chF st.2 q.1:=λ q hq=>by
       rw[z2t] at hq;cases e2:d.2.2[(a0x c 3%(d.2.2.length:Int)).toNat]? with
       | none=>rw[e2] at hq;cases hq
       | some l=>rw[e2] at hq;exact h.s d hd l (z0c e2) q hq
      unfold d9y at hq;dsimp only at hq;rcases z3e hq with z | z
      ·exact old q z
      ·rw[z];exact d2y
   ·exfalso;rw[z2t,z2m (by lia)] at e;exact e.1 rfl
  ·exact h
theorem SG.sp {st:List Dl×List Mkr} (h:SG st) (c:Int):SG (spF st c):=by
 unfold spF;split
 ·exact h.spoil _
 ·exact h
theorem c2x (nk:ks.Nodup) (h0:∀ k,(chF ms k).Nodup/\n ∉ chF ms k):∀ i,i<=ks.length->∀ k,(chF (a5a ks n made ms i) k).Nodup/\(∀ x∈chF (a5a ks n made ms i) k,x=n\/x∈chF ms k)/\(n∈chF (a5a ks n made ms i) k->∃ j,j < i/\ks.getD j 0=k)
 | 0,_,k=>⟨(h0 k).1,λ x hx=>.inr hx,λ hx=>absurd hx (h0 k).2⟩
 | i+1,hi,k=>by
  have ih:=c2x nk (made:=made) h0 i (by lia);obtain⟨a1,a2,a3⟩:=ih k;unfold a5a;split
  ·rw[d6n];split
   ·next e =>
    have nn:n ∉ chF (a5a ks n made ms i) (ks.getD i 0):=λ z=>by
     obtain⟨j,jl,ej⟩:=(ih (ks.getD i 0)).2.2 z;have e1:ks[j]?=some (ks.getD j 0):=a1z (by lia);have e2:ks[i]?=some (ks.getD i 0):=a1z (by lia);rw[ej] at e1;have:=(z2j (show j < ks.length by lia) nk).mp (e1.trans e2.symm);lia
    rw[<-e] at nn ⊢;refine⟨z2f.mpr ⟨a1,by simp,λ x hx y hy z=>?_⟩,λ x hx=>?_,λ _=>⟨i,by lia,e.symm⟩⟩
    ·rw[z0i.mp hy] at z;exact nn (z ▸ hx)
    ·rcases z0f.mp hx with z | z
     ·exact a2 x z
     ·exact .inl (z0i.mp z)
   ·exact⟨a1,a2,λ hx=>let ⟨j,jl,ej⟩:=a3 hx;⟨j,by lia,ej⟩⟩
  ·exact⟨a1,a2,λ hx=>let ⟨j,jl,ej⟩:=a3 hx;⟨j,by lia,ej⟩⟩
theorem b7o {ks:List Int} {n made:Int} {ms:List Mkr} (h:(ms.map (·.1)).Nodup):∀ i,((a5a ks n made ms i).map (·.1)).Nodup
 | 0=>h
 | i+1=>by
  unfold a5a;split
  ·exact b1a _ _ (b7o h i)
  ·exact b7o h i
theorem c3l {ks:List Int} (nk:ks.Nodup) {ts:List Tk} (nt:(ts.map (·.2.1)).Nodup):∀ i,((a1y ks (ts.take i)).map (·.1)).Nodup/\∀ k,(chF (a1y ks (ts.take i)) k).Nodup/\∀ x∈chF (a1y ks (ts.take i)) k,∃ t∈ts.take i,t.2.1=x
 | 0=>⟨.nil,λ k=>⟨.nil,λ x hx=>by cases hx⟩⟩
 | i+1=>by
  obtain⟨h1,h2⟩:=c3l nk nt i;cases e:ts[i]? with
  | none =>
   rw[z0v,e];simp only [Option.toList_none,z19];exact⟨h1,h2⟩
  | some t =>
   rw[b0l e];have tk:ts.take (i+1)=ts.take i++[t]:=by rw[z0v,e];rfl
   have nn:∀ k,t.2.1 ∉ chF (a1y ks (ts.take i)) k:=λ k z=>by
    obtain⟨t',ht',et⟩:=(h2 k).2 _ z;obtain⟨j,hj⟩:=z1v.mp ht';rw[z63] at hj;split at hj
    ·next jl =>
     have e1:(ts.map (·.2.1))[j]?=some t.2.1:=by rw[z09,hj];exact z0b some et
     have e2:(ts.map (·.2.1))[i]?=some t.2.1:=by rw[z09,e];rfl
     have:=(z2j (z0l.mp e1).1 nt).mp (e1.trans e2.symm);lia
    ·cases hj
   have key:=c2x nk (n:=t.2.1) (made:=t.2.2) (λ k=>⟨(h2 k).1,nn k⟩) ks.length (z05 _);refine⟨b7o h1 _,λ k=>⟨(key k).1,λ x hx=>?_⟩⟩;rw[tk];rcases(key k).2.1 x hx with z | z
   ·exact⟨t,by simp,z.symm⟩
   ·obtain⟨t',a,b⟩:=(h2 k).2 x z;exact⟨t',z1x _ a,b⟩
theorem d3t (en:Int->Int) (n t:Int) (ms:List Int):d1i en n t ms=0\/d1i en n t ms∈ms:=by
 have key:∀ (l:List Int) (a:Int),(a=0\/a∈ms)->(∀ x∈l,x∈ms)->(l.foldl (λ a m=>if m≠n/\en m < t then m else a) a=0\/l.foldl (λ a m=>if m≠n/\en m < t then m else a) a∈ms):=by
  intro l;induction l with
  | nil=>intro a h _;exact h
  | cons x r ih =>
   intro a h hm;refine ih _ ?_ λ y hy=>hm y (.tail _ hy)
   show (if x≠n/\en x < t then x else a)=0\/(if x≠n/\en x < t then x else a)∈ms;split
   ·exact .inr (hm x (.head _))
   ·exact h
 exact key ms 0 (.inl rfl) λ x hx=>hx
theorem e5j (ns:List Int):(dd ns).Nodup:=by
 unfold dd;have key:∀ (l a:List Int),a.Nodup->(l.foldl step_dedup a).Nodup:=by
  intro l;induction l with
  | nil=>intro a h;exact h
  | cons x r ih =>
   intro a h;refine ih _ ?_;unfold step_dedup;split
   ·exact h
   ·next q=>exact z2f.mpr ⟨h,by simp,λ y hy z hz e=>by rw[z0i.mp hz] at e;exact q (by simpa [e] using hy)⟩
 exact key ns [] .nil
theorem e3m (cs:List Int):SG (stF cs):=by
 unfold stF;dsimp only;have nk:(b7y (b1u cs 1)).Nodup:=by unfold b7y;exact(a1b _).nodup_iff.mpr (e5j _)
 generalize b7y (b1u cs 1)=ks at *;have pt:(b5n (a3j (a0z cs))).Perm (a3j (a0z cs)):=z67 _ _;have en:(a3j (a0z cs)).map (·.2.1)=(a0z cs).map (·.num):=by unfold a3j;rw[z15];rfl
 have nt:((b5n (a3j (a0z cs))).map (·.2.1)).Nodup:=by
  refine(pt.map _).nodup_iff.mpr ?_;rw[en];exact z1u (λ z=>by lia) (a7b cs)
 have key:=c3l nk nt (b5n (a3j (a0z cs))).length;rw[z0x] at key;have em:((a0z cs).map (c1n ks (a1y ks (b5n (a3j (a0z cs)))) (d9j (b5n (a3j (a0z cs)))))).map (·.1)=(a0z cs).map (·.num):=by rw[z15];rfl
 refine⟨key.1,λ k=>⟨(key.2 k).1,λ x hx=>?_⟩,λ d hd lk hl q hq=>?_⟩
 ·obtain⟨t,ht,et⟩:=(key.2 k).2 x hx;rw[em,<-en];exact z0d.mpr ⟨t,pt.mem_iff.mp ht,et⟩
 ·obtain⟨dw,_,rfl⟩:=z0d.mp hd;obtain⟨j,_,rfl⟩:=z0d.mp hl;unfold c0e at hq;obtain⟨k,_,rfl⟩:=z0d.mp hq;exact .inr (d3t _ _ _ _)
theorem e1q (cs:List Int):SG (taS cs):=by
 unfold taS;generalize (cs.drop 10).take 20=cu;have key:∀ (l:List Int) st,SG st->SG (l.foldl spF st):=by
  intro l;induction l with
  | nil=>intro st h;exact h
  | cons c r ih=>intro st h;exact ih _ (h.sp c)
 exact key cu _ (e3m cs)
theorem d7p (cs:List Int):GH (b9t cs):=by
 have gp:=c8b cs;have th:=b5c cs;have sg:=e1q cs;have spg:=b5u cs;have ek:(a1v cs).2.map (·.1)=a2s ((taS cs).2.map (·.1)):=by unfold a1v;dsimp only;rw[z15];exact List.map_id _
 have ec:∀ k,chF (a1v cs).2 k=chF (taS cs).2 k:=λ k=>by
  show chF ((a2s ((taS cs).2.map (·.1))).map λ x=>(x,chF (taS cs).2 x)) k=_;rw[d8n];split
  ·rfl
  ·next h=>exact(a2x λ z=>h ((a1b _).mem_iff.mpr z)).symm
 have kl:(a1v cs).2.length<=30:=by
  have:=z0b List.length ek;rw[z04,(a1b _).length_eq,z04] at this;rw[this];exact spg.2.1
 have kp:((a1v cs).2.map (·.1)).Pairwise (· < ·):=by
  rw[ek];have h1:=b2p ((taS cs).2.map (·.1));have h2:(a2s ((taS cs).2.map (·.1))).Pairwise (·≠·):=(a1b _).nodup_iff.mpr sg.k;exact(h1.and h2).imp λ z=>by lia
 have nd:((a1v cs).2.map (·.1)).Nodup:=z1u (λ z=>by lia) kp;have en:(a1v cs).1.map (·.1)=(a0z cs).map (·.num):=by
  have:=z0b (List.map Prod.fst) th;rw[z15,z15] at this;exact this
 have np:((a1v cs).1.map (·.1)).Pairwise (· < ·):=by rw[en];exact a7b cs
 have ps:∀ x∈(a1v cs).1.map (·.1),0 < x:=λ x hx=>by
  rw[en] at hx;obtain⟨dw,hdw,rfl⟩:=z0d.mp hx;obtain⟨⟨j,_,e⟩,_⟩:=a9p hdw;lia
 have cn:∀ m∈(a1v cs).2,m.2.Nodup/\∀ x∈m.2,x∈(a1v cs).1.map (·.1):=λ m hm=>by
  rw[<-e0r nd hm,ec];exact sg.c m.1
 have lk:∀ d∈(a1v cs).1,∀ lk∈d.2.2,lk.length<=3/\∀ q∈lk,q.2=-1\/q.2=0\/q.2∈chF (a1v cs).2 q.1:=λ d hd lk hl=>⟨(spg.2.2.2 d hd).2 lk hl,λ q hq=>by rw[ec];exact sg.s d hd lk hl q hq⟩
 have ll:∀ d∈(a1v cs).1,d.2.2.length<=3:=λ d hd=>(spg.2.2.2 d hd).1
 unfold b9t at gp ⊢;dsimp only at gp ⊢;split
 ·next e =>
  rw[z02 e] at gp;generalize b1u cs 0 / 256=c at *;have n0:0 < (a1v cs).1.length:=z1y.mpr e.2;have hi:=(b3p (xs:=(a1v cs).1) (c / 8) rfl n0).1;have ed:=My.a1z (d:=zD) hi;generalize (c / 8%((a1v cs).1.length:Int)).toNat=i at *;generalize (a1v cs).1.getD i zD=d at *;have hd:=z0c ed;have ok1:∀ lk∈d.2.2++(List.range (c / 64%38).toNat).map (λ _=>([]:Lk)),lk.length<=3/\∀ q∈lk,q.2=-1\/q.2=0\/q.2∈chF (a1v cs).2 q.1:=λ l hl=>by
   rcases z0f.mp hl with z | z
   ·exact lk d hd l z
   ·obtain⟨_,_,rfl⟩:=z0d.mp z;exact⟨z0m _,λ q hq=>by cases hq⟩
  generalize d.2.2++(List.range (c / 64%38).toNat).map (λ _=>([]:Lk))=l1 at gp ok1 ⊢;generalize hl2:(if l1≠[]/\l1.getD (l1.length - 1) []=[]/\(a1v cs).2≠[] then l1.set (l1.length - 1) [(((a1v cs).2.getD 0 (0,[])).1,0)] else l1)=l2 at gp ⊢;have em:((a1v cs).1.set i (d.1,"kept",l2)).map (·.1)=(a1v cs).1.map (·.1):=by
   rw[z33];exact TFs.set_self (by rw[z09,ed];rfl)
  have ok2:∀ lk∈l2,lk.length<=3/\∀ q∈lk,q.2=-1\/q.2=0\/q.2∈chF (a1v cs).2 q.1:=λ l hl=>by
   rw[<-hl2] at hl;split at hl
   ·rcases z3e hl with z | z
    ·exact ok1 l z
    ·rw[z];refine⟨by show 1<=3;decide,λ q hq=>.inr (.inl ?_)⟩;rw[z0i.mp hq]
   ·exact ok1 l hl
  refine⟨gp,by show (((a1v cs).1.set i (d.1,"kept",l2)).map (·.1)).Pairwise _;rw[em];exact np,λ d' hd'=>ps d'.1 (by rw[<-em];exact z0d.mpr ⟨d',hd',rfl⟩),kp,kl,λ m hm=>⟨(cn m hm).1,λ x hx=>by show x∈((a1v cs).1.set i (d.1,"kept",l2)).map (·.1);rw[em];exact(cn m hm).2 x hx⟩,λ d' hd' l hl=>?_⟩;rcases z3e hd' with z | z
  ·exact lk d' z l hl
  ·rw[z] at hl;exact ok2 l hl
 ·next e =>
  rw[z01 e] at gp;exact⟨gp,np,λ d hd=>ps d.1 (z0d.mpr ⟨d,hd,rfl⟩),kp,kl,cn,lk⟩
--@STAGE
def P2V (H:Hp) (y:V) (q:V×V):Prop:=∃ t,y=.ref t/\H t=some (.tup [q.1,q.2])
theorem e1d:∀ H H' y (q:V×V),KN H H'->P2V H y q->P2V H' y q:=λ H H' y q k ⟨t,e,h⟩=>⟨t,e,k _ _ (λ xs z=>by cases z) h⟩
theorem b0m:∀ H H' y (k:Eg),KN H H'->EgV H y k->EgV H' y k:=λ H H' y q k x=>x.kp λ b xs e=>k _ _ (λ xs z=>by cases z) e
theorem a2k (k:KN H H') (h:Paired (EgV H) ys ns):Paired (EgV H') ys ns:=Paired.mapP h λ _ _ z=>b0m _ _ _ _ k z
theorem d5u (k:KN H H') (h:Paired (P2V H) ys ns):Paired (P2V H') ys ns:=Paired.mapP h λ _ _ z=>e1d _ _ _ _ k z
def d6q (K:W.Frag):Sp:=λ vs H Q _=>∃ (a:Addr) (xs:List V),vs=[.ref a]/\H a=some (.lst xs)/\xs.length<=100/\∀ D H' ys,H D=none->Same H H'->H' D=some (.lst ys)->Paired (P2V H') ys (a1q xs)->Q (.ref D) H'
def e3o (cls:Lv->Addr):Sp:=λ vs H Q _=>∃ (v:V) (e:Addr) (p:Ps) (w:Option Str),vs=[v,.ref e]/\Tr H v (a4o p)/\GH p/\LvH cls H e w p/\∀ D H' ys,H D=none->Same H H'->H' D=some (.lst ys)->Paired (EgV H') ys (p.1.flatMap (d5b w))->Q (.ref D) H'
def KnH (H:Hp) (e:Addr) (p:Ps) (f:Int->Nk):Prop:=∃ kvs,H e=some (.dK kvs)/\∀ d∈p.1,∃ v,a1r kvs (.inl d.1)=some v/\NdV H v (f d.1)
theorem KnH.same (s:Same H H') (h:KnH H e p f):KnH H' e p f:=let ⟨kvs,a,b⟩:=h;⟨kvs,s _ _ a,λ d hd=>let ⟨v,c,q,e,hq⟩:=b d hd; (nx3 v c q e (s _ _ hq))⟩
theorem c9s {w:Option Str} (g:GH p) (h:KpH H e p (c1t w)):KnH H e p (a4l w p):=let ⟨kvs,a,b⟩:=h;⟨kvs,a,λ d hd=>by rw[b3w g hd];exact b d hd⟩
theorem d2o {w:Option Str} (g:GH p) (h:KpH H e p (b9r w)):KnH H e p (a6g w p):=let ⟨kvs,a,b⟩:=h;⟨kvs,a,λ d hd=>by rw[b6t g hd];exact b d hd⟩
theorem KnH.get (h:KnH H e p f) (hx:∃ d∈p.1,d.1=x):∃ kvs v,H e=some (.dK kvs)/\a1r kvs (.inl x)=some v/\NdV H v (f x):=by
 obtain⟨kvs,a,b⟩:=h;obtain⟨d,hd,rfl⟩:=hx;obtain⟨v,c,n⟩:=b d hd;exact nx0 kvs v a c n
def d8j:Sp:=λ vs H Q _=>∃ (sv:V) (m e:Addr) (n pl:Int) (q:Pr) (p:Ps) (w:Option Str),vs=[sv,.int q.1,.int q.2,.ref m,.ref e]/\NdV H sv (n,pl)/\H m=some (.lst ((chF p.2 q.1).map V.int))/\GH p/\(q.2=-1\/q.2=0\/q.2∈chF p.2 q.1)/\KnH H e p (a4l w p)/\∀ D H' ys,H D=none->Same H H'->H' D=some (.lst ys)->Paired (EgV H') ys (a8e w p n pl q)->Q (.ref D) H'
def MkD (H:Hp) (e:Addr) (p:Ps):Prop:=∃ kvs,H e=some (.dK kvs)/\∀ k,(a1r kvs (.inl k)=none/\chF p.2 k=[])\/∃ l,a1r kvs (.inl k)=some (.ref l)/\H l=some (.lst ((chF p.2 k).map V.int))
theorem MkD.same (s:Same H H') (h:MkD H e p):MkD H' e p:=let ⟨kvs,a,b⟩:=h;⟨kvs,s _ _ a,λ k=>(b k).imp id λ ⟨l,c,d⟩=>⟨l,c,s _ _ d⟩⟩
def d6w (cls:Lv->Addr):Sp:=λ vs H Q _=>∃ (v:V) (a m e:Addr) (d:Dl) (p:Ps) (w:Option Str) (dx:Addr),vs=[v,.ref a,.ref m,.ref e]/\Tr H v (a4j d)/\H a=some (.ins (cls (lvD w d)) dx [])/\GH p/\d∈p.1/\MkD H m p/\KnH H e p (a4l w p)/\∀ D H' ys,H D=none->Same H H'->H' D=some (.lst ys)->Paired (EgV H') ys (b1q w p d)->Q (.ref D) H'
def d0b (cls:Lv->Addr) (f:Option Str->Ps->List Eg):Sp:=λ vs H Q _=>∃ (v:V) (e:Addr) (p:Ps) (w:Option Str),vs=[v,.ref e]/\Tr H v (a4o p)/\GH p/\LvH cls H e w p/\∀ D H' ys,H D=none->Same H H'->H' D=some (.lst ys)->Paired (EgV H') ys (f w p)->Q (.ref D) H'
def d5s (K:W.Frag):Sp:=λ vs H Q _=>∃ (b:Addr) (e:Eg),vs=[.ref b]/\EgV H (.ref b) e/\b7s e/\∀ p H',(∀ c o,H c=some o->H' c=some o)->RkV H' (.ref p) (a3q e)->Q (.ref p) H'
theorem d9h (T:Tx K mg):c3r (d5s K):=λ H b e Q E h1 h2 h3=> nx8 b e rfl h1 h2 h3
def c8x:Sp:=λ vs H Q E=>∃ (v:V) (p:Ps) (w:Option Str),vs=[v,wV w]/\Tr H v (a4o p)/\GH p/\(∀ x,w=some x->x∈wds)/\∀ D H' ys,H D=none->Same H H'->H' D=some (.lst ys)->Paired (EgV H') ys (b0q w p)->Q (.ref D) H'
theorem c4e (xs:List V) (n:Nat) (z:Int) (e:z=(n:Int)):d1k xs (some z) none=xs.drop n:=by
 unfold d1k;rw[e,HT.sIx_nat,HT.sIx_none];by_cases h:n<=xs.length
 ·rw[z4o h,z20 (by rw[z0y];exact z05 _)]
 ·rw[z4q (show xs.length<=min n xs.length by lia),z4q (show xs.length<=n by lia),List.take_nil]
theorem e3i (xs:List V) (n:Nat) (z:Int) (e:z=(n:Int)):d1k xs none (some z)=xs.take n:=by
 unfold d1k;rw[e,HT.sIx_nat,HT.sIx_none];by_cases h:n<=xs.length
 ·rw[z4o h];simp
 ·rw[z20 (show xs.length<=n by lia),Nat.min_eq_right (by lia)];simp
theorem b8b {F:α->α->Prop} (h:∀ x,F x x):∀ xs:List α,Paired F xs xs
 | []=>.nil
 | x::r=>.cons (h x) (b8b h r)
theorem b1g:∀ {xs:List α} {ys:List β},Paired F xs ys->Paired (λ (p:α×α) (q:β×β)=>F p.1 q.1/\F p.2 q.2) (a1q xs) (a1q ys)
 | _,_,.nil=>.nil
 | _,_,.cons (a:=a) (b:=b) h p=>by
  unfold a1q;refine a0r ?_ (b1g p);have go:∀ {r:List α} {t:List β},Paired F r t->Paired (λ (p:α×α) (q:β×β)=>F p.1 q.1/\F p.2 q.2) (r.map λ y=>(a,y)) (t.map λ y=>(b,y)):=by
   intro r t x;induction x with
   | nil=>exact .nil
   | cons z _ ih=>exact .cons ⟨h,z⟩ ih
  exact go p
theorem e2a (h:Paired (P2V H) ys (a1q ss)) (hn:Nds H ss ns):Paired (PrV H) ys (a1q ns):=by
 have lp:=b1g hn;generalize a1q ss=l1 at h lp;generalize a1q ns=l2 at lp;induction h generalizing l2 with
 | nil=>cases lp;exact .nil
 | cons x _ ih =>
  cases lp with
  | cons y t =>
   obtain⟨p,e,hp⟩:=x;exact .cons (nx4 p _ _ e hp y.1 y.2) (ih _ t)
theorem b7x (f:α->β):∀ xs:List α,a1q (xs.map f)=(a1q xs).map λ q=>(f q.1,f q.2)
 | []=>rfl
 | x::r=>by
  show (r.map f).map (λ y=>(f x,y))++a1q (r.map f)=(r.map (λ y=>(x,y))++a1q r).map _;rw[b7x f r,z0z,z15,z15];rfl
theorem a6t:∀ xs:List α,(a1q xs).length<=xs.length*xs.length
 | []=>z05 _
 | x::r=>by
  have:=a6t r;unfold a1q;rw[z0j,z04,z17,Nat.add_mul,Nat.mul_add];lia
def I2V (H:Hp) (y:V) (q:Int×Int):Prop:=∃ t,y=.ref t/\H t=some (.tup [.int q.1,.int q.2])
theorem d7e (h:Paired (P2V H) ys (a1q (ms.map V.int))):Paired (I2V H) ys (a1q ms):=by
 rw[b7x] at h;generalize a1q ms=l at h;induction l generalizing ys with
 | nil=>cases h;exact .nil
 | cons q r ih =>
  cases h with
  | cons x t=>exact .cons x (ih t)
theorem a9g {β:Type} (n:Int) (g:Int->β):∀ l:List Int,l.filterMap (λ m=>if m≠n then some (g m) else none)=(l.filter λ m=>decide (m≠n)).map g
 | []=>rfl
 | x::r=>by
  rw[z1o,z3b];by_cases h:x≠n
  ·rw[z02 h,z02 (z08 h),z0w,a9g n g r]
  ·rw[z01 h,z01 (by simpa using h),a9g n g r]
theorem a4k (ms:List Int):Paired (λ (v:V) (x:Int)=>v=.int x) (ms.map V.int) ms:=by
 induction ms with
 | nil=>exact .nil
 | cons x r ih=>exact .cons rfl ih
theorem b8p {w:Option Str} (h:(chF p.2 q.1).length<=8):(a8e w p n pl q).length<=8:=by
 unfold a8e;split
 ·exact z0m _
 ·rw[z0j,z04,z04];have h1:=z4b (λ m=>decide (m≠n)) ((chF p.2 q.1).take (a5t (chF p.2 q.1) q.2));have h2:=z4b (λ m=>decide (m≠n)) ((chF p.2 q.1).drop (a5t (chF p.2 q.1) q.2));rw[z16] at h1;rw[z0y] at h2;lia
theorem GH.few (gh:GH p) (k:Int):(chF p.2 k).length<=8:=by
 have h1:=a9s (gh.chn' k) (m:=p.1.map (·.1)) λ x hx=>let ⟨⟨d,hd,e⟩,_⟩:=gh.num hx;z0d.mpr ⟨d,hd,e⟩
 rw[z04] at h1;exact z0s h1 gh.gp.1
theorem a9q (h:Tr H v (a9l m)):∃ a l,v=.ref a/\H a=some (.tup [.int m.1,.ref l])/\H l=some (.lst (m.2.map V.int)):=by
 cases h with
 | tup h r =>
  cases r with
  | cons h1 r =>
   cases r with
   | cons h2 r =>
    cases r;cases h1;obtain⟨a,xs,rfl,ha,hx⟩:=c0u h2;rw[hx.ints] at ha;exact nx0 _ a rfl h ha
theorem c0k {K:W.Frag} {H:Hp}:∀ {mv:List V} {ms:List Mkr},Trs H mv (ms.map a9l)->∃ ps:List (Key×V),d5p K H mv ps/\ps.map (·.1)=ms.map (λ m=>(Sum.inl m.1:Key))/\∀ m∈ms,∃ l,((Sum.inl m.1:Key),V.ref l)∈ps/\H l=some (.lst (m.2.map V.int))
 | _,[],.nil=>⟨[],.nil,rfl,λ m hm=>by cases hm⟩
 | _,m::r,.cons h t=>by
  obtain⟨ps,a,b,c⟩:=c0k (K:=K) t;obtain⟨x,l,rfl,hx,hl⟩:=a9q h;refine⟨(Sum.inl m.1,.ref l)::ps,.cons (q:=(Sum.inl m.1,V.ref l)) (SqT.of hx) a,by rw[z0w,z0w,b],λ m' hm'=>?_⟩;rcases z0a.mp hm' with z | z
  ·rw[z];exact⟨l,z1p,hl⟩
  ·obtain⟨l',q1,q2⟩:=c m' z;exact⟨l',z1j _ q1,q2⟩
theorem e3g {H:Hp} {e:Addr} {p:Ps} (gh:GH p) {ps:List (Key×V)} (he:H e=some (.dK (a4m [] ps))) (hk:ps.map (·.1)=p.2.map (λ m=>(Sum.inl m.1:Key))) (hv:∀ m∈p.2,∃ l,((Sum.inl m.1:Key),V.ref l)∈ps/\H l=some (.lst (m.2.map V.int))):MkD H e p:=by
 have nk:(p.2.map (·.1)).Nodup:=z1u (λ z=>by lia) gh.keys;have nd:(ps.map (·.1)).Nodup:=by
  rw[hk];exact z26.mpr (z1u (λ z e=>z (z2o e)) (z26.mp nk))
 rw[b3t ps [] (by simpa using nd)] at he;refine⟨ps,he,λ k=>?_⟩;by_cases h:k∈p.2.map (·.1)
 ·obtain⟨l,q1,q2⟩:=hv _ (z0c (a3s h));exact .inr ⟨l,a9t nd q1,q2⟩
 ·refine .inl ⟨?_,a2x h⟩;unfold a1r;rw[z64,z4f];intro kv hkv z;have z':kv.1=Sum.inl k:=z0h z;have hm:kv.1∈ps.map (·.1):=z0d.mpr ⟨kv,hkv,rfl⟩;rw[hk,z'] at hm;obtain⟨m,hm1,hm2⟩:=z0d.mp hm;exact h (z0d.mpr ⟨m,hm1,z2o hm2⟩)
theorem c9k {w:Option Str} (gh:GH p) (hd:d∈p.1) (i:Nat):(b1o w p d i).length<=24:=by
 unfold b1o;split
 ·exact z0m _
 ·next pl _ =>
  have key:∀ l:Lk,l.length<=3->(l.flatMap (a8e w p d.1 pl)).length<=24:=by
   have k2:∀ l:Lk,(l.flatMap (a8e w p d.1 pl)).length<=8*l.length:=by
    intro l;induction l with
    | nil=>exact z05 _
    | cons q r ih =>
     rw[z2n,z0j,z17];have:=b8p (w:=w) (n:=d.1) (pl:=pl) (q:=q) (gh.few q.1);lia
   intro l hl;have:=k2 l;lia
  refine key _ ?_;rw[z2t];cases e:d.2.2[i]? with
  | none=>exact z0m _
  | some l=>exact(gh.lks d hd l (z0c e)).1
theorem b7z {w:Option Str} (gh:GH p) (hd:d∈p.1):(b1q w p d).length<=960:=by
 have h40:=(gh.gp.2.2 d hd).2;have key:∀ l:List Nat,(l.flatMap (b1o w p d)).length<=24*l.length:=by
  intro l;induction l with
  | nil=>exact z05 _
  | cons q r ih =>
   rw[z2n,z0j,z17];have:=c9k (w:=w) gh hd q;lia
 have:=key (List.range d.2.2.length);rw[z1m] at this;unfold b1q;lia
theorem b2c {α β:Type} {f:α->List β}:∀ {l:List α},(∀ x∈l,(f x).length<=n)->(l.flatMap f).length<=n*l.length
 | [],_=>z05 _
 | x::r,h=>by
  rw[z2n,z0j,z17,Nat.mul_add];have h1:=h x (.head _);have h2:=b2c (l:=r) λ y hy=>h y (.tail _ hy)
  lia
theorem d2h {w:Option Str} (h:d.2.2.length<=40):(d5b w d).length<=1681:=by
 unfold d5b;rw[z04];have h1:=a6t (a2l w d);have sl:=a9c w d h;have h2:(a2l w d).length<=41:=by unfold a2l;rw[z04,z1m];lia
 have:=Nat.mul_le_mul h2 h2;lia
theorem d0j {w:Option Str} (gh:GH p) (hm:m∈p.2):(b6l w p m).length<=64:=by
 unfold b6l;rw[z04];have h1:=a6t m.2;have l8:m.2.length<=8:=by rw[<-c3f gh hm];exact gh.few _
 have:=Nat.mul_le_mul l8 l8;lia
theorem d3k {w:Option Str} (gh:GH p):(p.1.flatMap (d5b w)).length<=14000/\(p.1.flatMap (b1q w p)).length<=8000/\(p.2.flatMap (b6l w p)).length<=2000:=by
 have h1:=b2c (f:=d5b w) (n:=1681) λ d hd=>d2h (gh.gp.2.2 d hd).2
 have h2:=b2c (f:=b1q w p) (n:=960) λ d hd=>b7z gh hd
 have h3:=b2c (f:=b6l w p) (n:=64) λ d hd=>d0j (w:=w) gh hd
 have h4:=gh.gp.1;have h5:=gh.klen;lia
def TrE (H:Hp) (y:V) (k:Eg):Prop:=∃ t b,y=.ref t/\H t=some (.tup [.ref b,.bl true])/\EgV H (.ref b) k
theorem e0j:∀ H H' y (k:Eg),KN H H'->TrE H y k->TrE H' y k:=λ H H' y q k ⟨t,b,e,h,g⟩=> nx0 t b e (k _ _ (λ xs z=>by cases z) h) (b0m _ _ _ _ k g)
theorem c9i:∀ {ys:List V} {ks:List Eg},Paired (TrE H) ys ks->d9z H ys ks
 | _,_,.nil=>.nil
 | _,_,.cons ⟨t,b,e,h,g⟩ r=>by
  subst e;exact .cons h g (c9i r)
theorem b1d (T:Tx K mg):T.a5z.Ok P w base 1 (d6q K):=by
 refine okF T.a5z.F a4r λ _ _ _ _ H _ _ _ hr h=>?_
 ·obtain⟨a,xs,rfl,ha,hz,q⟩:=h;have hu:=a2z hr;refine⟨_,(a0e (psx 1 a4r.nd (a1d a0d))
   (a0e (a1w z18 rfl (d0l rfl T.a6a (a0a (pv 0) a0d)) (a5n rfl (a0o (pgm 2 a4r.nd) (a0o (pgm 3 a4r.nd) a3d)))
   (a0f (a1u (a4q z1h z31 z2z a2n (pv 1) (a0a (pcf ["later"] ["thing"] [3] (a1a (b1v b7p (pv 0) (b3i (a0p a3v (pv 2) a0c)) c1c)) (pgn 0) a3w (a1j (a0a (pv 1) (a0a (pv 0) a0d)))) a0d)))))
   (a0f (a0k (pv 1))))),?_⟩
  show let z0:TS:=_;let z1:TS:=a1h (b0o _ _ _) z0;a1h _ z1 _ _ _
  intros;have sz:sizeLine=2 ^ 24:=rfl;refine⟨(by show 0<=sizeLine;decide),λ F hF=>?_⟩;have hF0:=a0b (H:=H) (a:=F) (o:=HO.lst []);have sF:=Same.upd (o:=HO.lst []) hF;generalize upd H F (.lst [])=H1F at hF0 sF;refine nx7 _ rfl a xs rfl (sF _ _ ha) (c3x (K:=K) (a:=a) (xs:=xs) (λ i σ H2=>∃ (x2 x3:Option V) (ys:List V) (L:List (V×V)),σ=[some (.ref a),some (.ref F),x2,x3]/\Same H H2/\H2 F=some (.lst ys)/\ys.length<=100*i/\Paired (P2V H2) ys L/\L++a1q (xs.drop i)=a1q xs) (nx14 none none ([]) ([]) rfl sF hF0 (z05 _) (.nil) rfl) (λ i σ H2 ⟨_,_,_,_,_,s2,_⟩=>SqL.of (s2 _ _ ha)) ?_ ?_)
  ·rintro i x σ H2 p hx ⟨x2,x3,ys,L,rfl,s2,hF2,ly,pl,el⟩ hp;have hi:i < xs.length:=(z0l.mp hx).1;have sp:=Same.upd (o:=HO.tup [.int (i:Int),x]) hp;refine nx15 p _ rfl (SqT.of a0b) rfl _ (nx7 _ rfl _ _ rfl rfl ?_);refine nx6 _ rfl (Or.inl ⟨rfl,_,SqL.of (sp _ _ hF2)⟩) _ rfl (nx7 _ rfl _ _ rfl rfl (nx7 _ rfl a xs rfl (SqL.of (sp _ _ (s2 _ _ ha))) λ c hc=>⟨c,rfl,⟨_,SqL.of a0b⟩,?_⟩));rw[c4e xs (i+1) _ (by lia)];have sc:=Same.upd (o:=HO.lst (xs.drop (i+1))) hc;refine a5q (k:=1) (fs:=[some x]) P2V (λ _ v (b:V)=>v=b) (xs.drop (i+1)) (λ y=>some (x,y)) e1d (λ _ _ _ _ _ z=>z) rfl a0b (b8b (λ _=>rfl) _) (by rw[z0y];lia) (λ y hy H5 ts v R ss hts hv cont _=>?_) λ D H6 zs hD s6 h6 pz=>?_
   ·obtain⟨t,rfl⟩:=z1g.mp hts;subst hv;exact nx3 _ rfl _ rfl ⟨(by show 2<=sizeLine;decide),λ n hn=>cont _ _ [_] _ rfl rfl (Same.upd hn) ⟨n,rfl,a0b⟩⟩
   ·rw[a4u] at pz;have S6:=sp.trans (sc.trans s6);have lz:zs.length<=100:=by rw[a1c pz,z04,z0y];lia
    refine nx14 F D ys zs rfl rfl (S6 _ _ hF2) h6 (by lia) ?_;have kn:=KN.upd (o:=HO.lst (ys++zs)) (S6 _ _ hF2);refine nx14 _ _ _ (L++(xs.drop (i+1)).map (λ y=>(x,y))) rfl (λ b o eb=>?_) a0b (by rw[z0j];lia) (a0r (d5u ((KN.of S6).trans kn) pl) (d5u kn pz)) ?_
    ·rw[a0g (show b≠F from λ z=>by rw[z,hF] at eb;cases eb)];exact S6 _ _ (s2 _ _ eb)
    ·rw[<-el,z1c];have:xs.drop i=x::xs.drop (i+1):=by rw[z5o hi,(z0l.mp hx).2]
     rw[this];rfl
  ·rintro σ H2 ⟨x2,x3,ys,L,rfl,s2,hF2,ly,pl,el⟩;rw[z57] at el;have el':L=a1q xs:=by rw[<-el];exact(z19 L).symm
   rw[el'] at pl;exact⟨_,rfl,q F H2 ys hF s2 hF2 pl⟩
theorem c1q (T:Tx K mg):T.b0c.Ok P w base 3 (e3o (cO T)):=by
 refine okF T.b0c.F a5v λ _ _ _ _ H _ _ _ hr h=>?_
 ·obtain⟨v,e,p,wo,rfl,tr,gh,lh,q⟩:=h;have hu:=a2z hr;refine⟨_,(a0e (psx 2 a5v.nd (a1d a0d))
   (a0e (a1w z18 rfl (a1a (pix a0t (pv 0) a0c)) (pgm 3 a5v.nd)
   (a0e (psx 4 a5v.nd (pcF T.a5z (b1d T) hr (a0a (pcF T.a9b (b5o T) hr (a0a (pv 3) (a0a (a2o hu (pv 1) (pix a0t (pv 3) a0c) (λ _ _=>rfl)) a0d))) a0d)))
   (a0f (a1u (a4q z1h z31 z2z a2n (pv 2) (a0a (pcf ["spot","later"] [] [] (a1a (pv 4)) (c9p (K:=K) (n:=2) rfl rfl (a0o (pgn 0) (a0o (pgn 1) a3d))) a3w (a1j (a0a (pv 0) (a0a (pv 1) (a0a a1s (a0a a3p a0d)))))) a0d))))))
   (a0f (a0k (pv 2))))),?_⟩
  show let z0:TS:=_;let z1:TS:=_;let z2:TS:=a1h _ z1;let z3:TS:=a1h (b0o _ _ z2) z0;a1h _ z3 _ _ _
  intros;have sz:sizeLine=2 ^ 24:=rfl;refine⟨(by show 0<=sizeLine;decide),λ F hF=>?_⟩;have hF0:=a0b (H:=H) (a:=F) (o:=HO.lst []);have sF:=Same.upd (o:=HO.lst []) hF;generalize upd H F (.lst [])=H1F at hF0 sF;obtain⟨a,l,m,lv,mv,rfl,ha,hl,tl,_,_⟩:=a3r tr;refine nx16 _ rfl a _ _ _ rfl rfl (SqT.of (sF _ _ ha)) rfl l rfl ⟨_,SqL.of (sF _ _ hl)⟩ (a2a (K:=K) (a:=l) (xs:=lv) (λ i σ H3=>∃ (x3 x4:Option V) (ys:List V),σ=[some (.ref a),some (.ref e),some (.ref F),x3,x4]/\Same H H3/\H3 F=some (.lst ys)/\ys.length<=1681*i/\Paired (EgV H3) ys ((p.1.take i).flatMap (d5b wo))) (nx17 none none ([]) rfl sF hF0 (z05 _) (.nil)) (λ i σ H3 _ ⟨_,_,_,_,s3,_⟩=>SqL.of (s3 _ _ hl)) ?_ ?_)
  ·rintro i y σ H3 hy ⟨x3,x4,ys,rfl,s3,hF3,ly,pn⟩;obtain⟨dd,edd,trd⟩:=tl.get hy;rw[z09] at edd;obtain⟨d,ed,rfl⟩:=z1z.mp edd;have hd:=z0c ed;have hi8:i < 8:=by have:=(z0l.mp ed).1;have:=gh.gp.1;lia
   obtain⟨kvs,hk,vk⟩:=lh.same s3;obtain⟨x,dx,vx,hx⟩:=vk d hd;obtain⟨pd,L,lkv,rfl,hpd,_,_⟩:=a6j (trd.same s3);have dg:=b0y.k (k:=Sum.inl d.1) hk;rw[vx] at dg;have d40:=(gh.gp.2.2 d hd).2;have sl:=a9c wo d d40;refine nx3 _ rfl _ rfl (nx24 _ rfl pd _ _ _ rfl rfl (SqT.of hpd) rfl e _ rfl dg (nx23 (.ref pd) x d wo dx rfl (trd.same s3) hx d40 λ D4 H4 zs hD4 s4 h4 pz=>?_));have lz:zs.length<=41:=by
    rw[a1c pz];unfold a2l;rw[z04,z1m];lia
   refine nx8 D4 zs rfl h4 (by lia) λ D5 H5 qs hD5 s5 h5 pq=>?_;have pr:=e2a pq (e0f s5 pz);have lq:(a1q (a2l wo d)).length<=1681:=by
    have h1:=a6t (a2l wo d);have h2:(a2l wo d).length<=41:=by rw[<-a1c pz];exact lz
    have:=Nat.mul_le_mul h2 h2;lia
   refine nx35 _ rfl (Or.inl ⟨rfl,_,SqL.of (s5 _ _ (s4 _ _ hF3))⟩) _ rfl D5 ⟨rfl,⟨_,SqL.of h5⟩,a5q (k:=2) (fs:=[]) EgV PrV (a1q (a2l wo d)) (λ q=>some (q.1,q.2,"own",none)) b0m (λ _ _ _ _ ss z=>d7n ss z) rfl h5 pr (by lia) (λ qq hq H6 ts v R ss hts hv cont _=>?_) λ D6 H6 es hD6 s6 h6 pe=>?_⟩
   ·obtain⟨t1,t2,rfl⟩:∃ a b,ts=[a,b]:=by match ts,hts with | [a,b],_=>exact nx2 a b rfl
    obtain⟨t,u,u',rfl,ht,h1,h2⟩:=hv;refine nx15 t _ rfl (SqT.of ht) rfl _ (nx7 _ rfl _ _ rfl rfl (nx3 _ rfl _ rfl ⟨(by show 4<=sizeLine;decide),λ n hn=>cont _ _ [_,_] _ rfl rfl (Same.upd hn) (nx4 n u u' rfl a0b (a3b (Same.upd hn) h1) (a3b (Same.upd hn) h2))⟩))
   ·rw[a4u] at pe;have S6:=s4.trans (s5.trans s6);have le:es.length<=1681:=by rw[a1c pe,z04];exact lq
    refine nx14 F D6 ys es rfl rfl (S6 _ _ hF3) h6 (by lia) ?_;have kn:=KN.upd (o:=HO.lst (ys++es)) (S6 _ _ hF3);refine nx17 _ _ _ rfl (λ b o eb=>?_) a0b (by rw[z0j];lia) ?_
    ·rw[a0g (show b≠F from λ z=>by rw[z,hF] at eb;cases eb)];exact S6 _ _ (s3 _ _ eb)
    ·rw[z0v,ed,z3s];refine a0r (a2k ((KN.of S6).trans kn) pn) ?_;show Paired _ es (List.flatMap (d5b wo) [d]);rw[z2n,z3m,z19];exact a2k kn pe
  ·rintro σ H3 ⟨x3,x4,ys,rfl,s3,hF3,ly,pn⟩;have:lv.length=p.1.length:=by rw[tl.len,z04]
   rw[this,z0x] at pn;exact⟨_,rfl,q F H3 ys hF s3 hF3 pn⟩
theorem b9f (T:Tx K mg):T.a8m.Ok P w base 1 d8j:=by
 refine okF T.a8m.F a4t λ _ _ _ _ H _ Q _ hr h=>?_
 ·obtain⟨sv,m,e,n,pl,qq,p,wo,rfl,hs,hm,gh,sq,kn,q⟩:=h;have hu:=a2z hr;refine⟨_,(a0e (a2b (a0j a4f (pv 2) (c1j (v:=V.int (-1)) rfl T.d2x ⟨_,rfl⟩) (a0n _))
   (a0f (a0k (a1d a0d)))
   a0u)
   (a0e (psx 5 a4t.nd (c3i (a0j a4f (pv 2) (c1j (v:=V.int (0)) rfl T.d6v ⟨_,rfl⟩) (a0n _)) a0c (a0p a3v (a4q z1h PySem.F.slot_list_index PySem.F.type_list_index (b8q (u16 hr.units) rfl) (pv 3) (a0a (pv 2) a0d)) a0c)))
   (a0e (psf 6 ["maker"] a4t.nd ["spot","key","keeps"] [0,1,4] (a1a (b1v b7p (pv 3) c1c (b3i (pv 5)))) (pgn 0) (b2t (a0j b4i (pv 0) (pix (a2q (K:=K) rfl) (pv 1) a0c) (a0n _))) (a1j (a0a (a2o hu (pv 3) (pv 0) (λ _ _=>rfl)) (a0a (pv 1) (a0a a1s (a0a (pv 2) a0d))))))
   (a0e (psf 7 ["maker"] a4t.nd ["spot","key","keeps"] [0,1,4] (a1a (b1v b7p (pv 3) (b3i (pv 5)) c1c)) (pgn 0) (b2t (a0j b4i (pv 0) (pix (a2q (K:=K) rfl) (pv 1) a0c) (a0n _))) (a1j (a0a (pv 1) (a0a (a2o hu (pv 3) (pv 0) (λ _ _=>rfl)) (a0a a1s (a0a (pv 2) a0d))))))
   (a0f (a0k (a0p c4x (pv 6) (pv 7)))))))),?_⟩
  show let z0:TS:=_;let z1:TS:=a1h _ z0;let z2:TS:=a1h _ z1;let z3:TS:=a1h _ z2;a1h (a5p _ _ _) z3 _ _ _
  intros;have sz:sizeLine=2 ^ 24:=rfl;obtain⟨sp,rfl,hsp⟩:=hs;have lm:=gh.few qq.1;refine nx6 _ rfl rfl _ rfl (a4n (λ c=>?_) (λ c=>?_))
  ·have c':qq.2=-1:=V.int_inj' (z0h c);refine⟨(by show 0<=sizeLine;decide),λ F hF=>q F _ [] hF (Same.upd hF) a0b ?_⟩;unfold a8e;rw[z02 c'];exact .nil
  ·have c':¬ qq.2=-1:=λ z=>c (z08 (z0b V.int z))
   have part:∀ (R:VK),R (.int (a5t (chF p.2 qq.1) qq.2:Nat)) H->tIf (e2o (tOp rEq (c8m 2) (tC (V.int 0)))) (tC (V.int 0)) (tOp (rI0 λ i j=>V.int (i+j)) (tBM K "list" (λ x xs H Q=>∃ (l:Addr) (ns:List Int) (k:Int),x=.ref l/\xs=[V.int k]/\SqL K H l (ns.map V.int)/\ns.length<=1000/\k∈ns/\Q (.int ((ns.idxOf k:Nat):Int)) H) (c8m 3) (c1v (c8m 2) d9x)) (tC (V.int 1))) [some (.ref sp),some (.int qq.1),some (.int qq.2),some (.ref m),some (.ref e),none,none,none] H R:=λ R hR=>by
    refine nx6 _ rfl rfl _ rfl (a4n (λ z=>?_) (λ z=>?_))
    ·have z':qq.2=0:=V.int_inj' (z0h z);unfold a5t at hR;rw[z02 z'] at hR;exact hR
    ·have z':¬ qq.2=0:=λ y=>z (z08 (z0b V.int y))
     unfold a5t at hR;rw[z01 z'] at hR;have mem:qq.2∈chF p.2 qq.1:=by rcases sq with y | y | y;exact absurd y c';exact absurd y z';exact y
     refine nx35 _ rfl (Or.inl ⟨rfl,_,SqL.of hm⟩) _ rfl m (nx27 _ _ rfl rfl (SqL.of hm) (by lia) mem (nx0 _ _ rfl rfl ?_));exact hR
   refine part _ ?_;have lt:((chF p.2 qq.1).take (a5t (chF p.2 qq.1) qq.2)).length<=8/\((chF p.2 qq.1).drop (a5t (chF p.2 qq.1) qq.2)).length<=8:=by rw[z16,z0y];lia
   have el:∀ {H2:Hp} (x:Int),Same H H2->x∈chF p.2 qq.1->∃ kvs v,H2 e=some (.dK kvs)/\a1r kvs (.inl x)=some v/\NdV H2 v (a4l wo p x):=λ x ss hx=>(kn.same ss).get (gh.num hx).1
   refine nx3 _ rfl _ rfl (nx7 _ rfl m _ rfl (SqL.of hm) λ c1 hc1=>⟨c1,rfl,⟨_,SqL.of a0b⟩,?_⟩);rw[e3i _ (a5t (chF p.2 qq.1) qq.2) _ rfl,<-List.map_take];have s1:=Same.upd (o:=HO.lst (((chF p.2 qq.1).take (a5t (chF p.2 qq.1) qq.2)).map V.int)) hc1;refine a5q (k:=1) (fs:=[some (.ref sp),some (.int qq.1),some (.ref e)]) EgV (λ _ v (x:Int)=>v=.int x) ((chF p.2 qq.1).take (a5t (chF p.2 qq.1) qq.2)) (λ x=>if x≠n then some (a4l wo p x,(n,pl),"saw",some qq.1) else none) b0m (λ _ _ _ _ _ z=>z) rfl a0b (a4k _) (by lia) (λ x hx H5 ts v R ss hts hv cont cno=>?_) λ D1 H6 zs hD1 s6 h6 pz=>?_
   ·obtain⟨t,rfl⟩:=z1g.mp hts;subst hv;have hsp5:=ss _ _ (s1 _ _ hsp);refine nx18 _ rfl _ rfl sp _ _ _ rfl rfl (SqT.of hsp5) (a0m (j:=0) rfl) ⟨rfl,_,rfl,a4n (λ y=>?_) (λ y=>?_)⟩
    ·have y':x≠n:=λ z=>by rw[z] at y;simp at y
     obtain⟨kvs,kv,hk,vk,nk⟩:=el x (s1.trans ss) (z37 hx);have dg:=b0y.k (k:=Sum.inl x) hk;rw[vk] at dg;exact nx22 _ rfl _ rfl e (nx35 kv rfl dg _ rfl _ ⟨rfl,(by show 4<=sizeLine;decide),λ nn hn=>cont _ _ [_] _ (z02 y') rfl (Same.upd hn) (⟨nn,nx15 kv (.ref sp) rfl a0b (a3b (Same.upd hn) nk) sp ⟨rfl,Same.upd hn _ _ hsp5⟩⟩)⟩)
    ·have y':¬ x≠n:=λ z=>y (by simp[show V.int x≠V.int n from λ q=>z (V.int_inj' q)])
     exact cno (z01 y') [_] _ rfl (Same.refl _)
   ·rw[a9g] at pz;have S6:=s1.trans s6;refine nx3 _ rfl _ rfl (nx7 _ rfl m _ rfl (SqL.of (S6 _ _ hm)) λ c2 hc2=>⟨c2,rfl,⟨_,SqL.of a0b⟩,?_⟩);rw[c4e _ (a5t (chF p.2 qq.1) qq.2) _ rfl,<-List.map_drop];have s2:=Same.upd (o:=HO.lst (((chF p.2 qq.1).drop (a5t (chF p.2 qq.1) qq.2)).map V.int)) hc2;refine a5q (k:=1) (fs:=[some (.ref sp),some (.int qq.1),some (.ref e)]) EgV (λ _ v (x:Int)=>v=.int x) ((chF p.2 qq.1).drop (a5t (chF p.2 qq.1) qq.2)) (λ x=>if x≠n then some ((n,pl),a4l wo p x,"unseen",some qq.1) else none) b0m (λ _ _ _ _ _ z=>z) rfl a0b (a4k _) (by lia) (λ x hx H5 ts v R ss hts hv cont cno=>?_) λ D2 H7 ws hD2 s7 h7 pw=>?_
    ·obtain⟨t,rfl⟩:=z1g.mp hts;subst hv;have S5:=S6.trans (s2.trans ss);have hsp5:=S5 _ _ hsp;refine nx18 _ rfl _ rfl sp _ _ _ rfl rfl (SqT.of hsp5) (a0m (j:=0) rfl) ⟨rfl,_,rfl,a4n (λ y=>?_) (λ y=>?_)⟩
     ·have y':x≠n:=λ z=>by rw[z] at y;simp at y
      obtain⟨kvs,kv,hk,vk,nk⟩:=el x S5 (z2q hx);have dg:=b0y.k (k:=Sum.inl x) hk;rw[vk] at dg;exact nx3 _ rfl _ rfl (nx33 _ rfl e kv rfl dg _ ⟨rfl,(by show 4<=sizeLine;decide),λ nn hn=>cont _ _ [_] _ (z02 y') rfl (Same.upd hn) (nx4 nn (.ref sp) kv rfl a0b ⟨sp,rfl,Same.upd hn _ _ hsp5⟩ (a3b (Same.upd hn) nk))⟩)
     ·have y':¬ x≠n:=λ z=>y (by simp[show V.int x≠V.int n from λ q=>z (V.int_inj' q)])
      exact cno (z01 y') [_] _ rfl (Same.refl _)
    ·rw[a9g] at pw;have S7:=s2.trans s7;have l1:zs.length<=8:=by rw[a1c pz,z04];exact z0s (z4b _ _) lt.1
     have l2:ws.length<=8:=by rw[a1c pw,z04];exact z0s (z4b _ _) lt.2
     refine nx18 _ rfl _ rfl D1 D2 zs ws rfl rfl (S7 _ _ h6) h7 ⟨(by lia),λ D3 hD3=>q D3 _ (zs++ws) ((S6.trans S7).free hD3) ((S6.trans S7).trans (Same.upd hD3)) a0b ?_⟩;unfold a8e;rw[z01 c'];exact a2k (KN.of (Same.upd hD3)) (a0r (a2k (KN.of S7) pz) pw)
theorem c0g (T:Tx K mg):T.a8f.Ok P w base 2 (d6w (cO T)):=by
 refine okF T.a8f.F a2p λ _ _ _ _ H _ _ _ hr h=>?_
 ·obtain⟨v,a,m,e,d,p,wo,dx,rfl,tr,ha,gh,hd,mk,kn,q⟩:=h;have hu:=a2z hr;refine⟨_,(a0e (psx 4 a2p.nd (a1d a0d))
   (a0e (a1w z18 rfl (d0l rfl T.a6a (a0a (pix a0t (pv 0) a0c) a0d)) (a5n rfl (a0o (pgm 5 a2p.nd) (a0o (pgm 6 a2p.nd) a3d)))
   (a0e (psx 7 a2p.nd (b7e (pv 1) (c0f T) (hr.mono (by decide)) (a0a (pv 5) a0d)))
   (a0f (a2b (a0j a8n (pv 7) a3p (a0n _))
   (a0f (a1w z18 rfl (a1a (pv 6)) (a5n rfl (a0o (pgm 8 a2p.nd) (a0o (pgm 9 a2p.nd) a3d)))
   (a0f (a1u (a4q z1h z31 z2z a2n (pv 4) (a0a (pcF T.a8m (b9f T) hr (a0a (a1j (a0a (pix a0t (pv 0) a0c) (a0a (pv 7) a0d))) (a0a (pv 8) (a0a (pv 9) (a0a (a7n hu (pv 2) (pv 8) (a1d a0d) ⟨rfl,rfl,rfl,rfl⟩) (a0a (pv 3) a0d)))))) a0d))))))
   a0u))))
   (a0f (a0k (pv 4))))),?_⟩
  show let z0:TS:=_;let z1:TS:=a5p _ (b0o _ _ _) _;let z2:TS:=a1h _ z1;let z3:TS:=a1h (b0o _ _ z2) z0;a1h _ z3 _ _ _
  intros;have sz:sizeLine=2 ^ 24:=rfl;obtain⟨pd,L,lkv,rfl,hpd,hL,tL⟩:=a6j tr;have ll:lkv.length=d.2.2.length:=by rw[tL.len,z04]
  have h40:=(gh.gp.2.2 d hd).2;refine⟨(by show 0<=sizeLine;decide),λ F hF=>?_⟩;have hF0:=a0b (H:=H) (a:=F) (o:=HO.lst []);have sF:=Same.upd (o:=HO.lst []) hF;generalize upd H F (.lst [])=H1F at hF0 sF;refine nx24 _ rfl pd _ _ _ rfl rfl (SqT.of (sF _ _ hpd)) rfl L lkv rfl (sF _ _ hL) (c3x (K:=K) (a:=L) (xs:=lkv) (λ i σ H3=>∃ (x5 x6 x7 x8 x9:Option V) (ys:List V),σ=[some (.ref pd),some (.ref a),some (.ref m),some (.ref e),some (.ref F),x5,x6,x7,x8,x9]/\Same H H3/\H3 F=some (.lst ys)/\ys.length<=24*i/\Paired (EgV H3) ys ((List.range i).flatMap (b1o wo p d))) (nx32 none none none none none ([]) rfl sF hF0 (z05 _) (.nil)) (λ i σ H3 ⟨_,_,_,_,_,_,_,s3,_⟩=>SqL.of (s3 _ _ hL)) ?_ ?_)
  ·rintro i y σ H3 tp hy ⟨x5,x6,x7,x8,x9,ys,rfl,s3,hF3,ly,pn⟩ htp;have hi:i < d.2.2.length:=by have:=(z0l.mp hy).1;lia
   obtain⟨dl,edl,trl⟩:=tL.get hy;rw[z09] at edl;obtain⟨lk,elk,rfl⟩:=z1z.mp edl;obtain⟨l3,lsrc⟩:=gh.lks d hd lk (z0c elk);obtain⟨la,pv,rfl,hla,tpv⟩:=c0u trl;have sp:=Same.upd (o:=HO.tup [.int (i:Int),.ref la]) htp;have S3:=s3.trans sp;have kF:=sp _ _ hF3;have pn:=a2k (KN.of sp) pn;refine nx15 tp _ rfl (SqT.of a0b) rfl _ (nx7 _ rfl _ _ rfl rfl ?_);generalize upd H3 tp (.tup [.int (i:Int),.ref la])=H4 at sp S3 kF pn;refine nx29 _ rfl a (lvD wo d) dx ([]) rfl (S3 _ _ ha) rfl ⟨_,rfl,nx9 _ _ rfl (nx6 _ rfl rfl _ rfl (a4n (λ c=>?_) (λ c=>?_)))⟩
   ·obtain⟨pl,epl⟩:∃ pl,a3y (lvD wo d) (i:Int)=some pl:=by
     cases ee:a3y (lvD wo d) (i:Int) with
     | none=>rw[ee] at c;exact absurd c (by simp[e0c])
     | some k=>exact⟨k,rfl⟩
    have ev:e0c (a3y (lvD wo d) (i:Int))=V.int pl:=by rw[epl];rfl
    have lE:b1o wo p d i=lk.flatMap (a8e wo p d.1 pl):=by
     unfold b1o;rw[epl,z2t,elk];rfl
    rw[ev];refine nx3 _ rfl la rfl ⟨⟨_,SqL.of (S3 _ _ hla)⟩,a2a (K:=K) (a:=la) (xs:=pv) (λ j σ H5=>∃ (x8 x9:Option V) (ys:List V),σ=[some (.ref pd),some (.ref a),some (.ref m),some (.ref e),some (.ref F),some (.int (i:Int)),some (.ref la),some (.int pl),x8,x9]/\Same H H5/\H5 F=some (.lst ys)/\ys.length<=24*i+8*j/\Paired (EgV H5) ys ((List.range i).flatMap (b1o wo p d)++(lk.take j).flatMap (a8e wo p d.1 pl))) (nx17 _ _ ys rfl S3 kF ly (by simpa using pn)) (λ j σ H5 _ ⟨_,_,_,_,s5,_⟩=>SqL.of (s5 _ _ hla)) ?_ ?_⟩
    ·rintro j y σ H5 hy ⟨x8,x9,ys,rfl,s5,hF5,ly,pn⟩;obtain⟨dq,edq,trq⟩:=tpv.get hy;rw[z09] at edq;obtain⟨qq,eqq,rfl⟩:=z1z.mp edq;obtain⟨ta,rfl,hta⟩:=d0f trq;have hqq:=lsrc qq (z0c eqq);have jl:j < 3:=by have:=(z0l.mp eqq).1;lia
     refine nx15 ta _ rfl (SqT.of (s5 _ _ hta)) rfl _ (nx7 _ rfl _ _ rfl rfl ?_);refine nx35 _ rfl (Or.inl ⟨rfl,_,SqL.of hF5⟩) _ rfl pd (nx28 _ _ _ rfl rfl (SqT.of (s5 _ _ hpd)) rfl _ rfl ⟨(by show 2<=sizeLine;decide),λ nn hnn=>?_⟩);have sn:=Same.upd (o:=HO.tup [.int d.1,.int pl]) hnn;obtain⟨kvs,hkm,vm⟩:=(mk.same s5).same sn;refine nx22 _ rfl _ rfl _ ⟨rfl,nx6 m rfl (.inl ⟨_,.inl hkm⟩) _ rfl ⟨(by show 0<=sizeLine;decide),λ gg hgg=>?_⟩⟩;have sg:=Same.upd (o:=HO.lst []) hgg;have S5:=s5.trans (sn.trans sg);refine nx3 (a1r kvs (.inl qq.1)) (.inl (nx0 kvs (.inl qq.1) (.inl (sg _ _ hkm)) rfl rfl)) _ rfl ?_;obtain⟨ml,eml,hml⟩:∃ ml,(a1r kvs (.inl qq.1)).getD (.ref gg)=.ref ml/\upd (upd H5 nn (.tup [.int d.1,.int pl])) gg (.lst []) ml=some (.lst ((chF p.2 qq.1).map V.int)):=by
      rcases vm qq.1 with ⟨z1,z2⟩ | ⟨ml,z1,z2⟩
      ·exact⟨gg,by rw[z1];rfl,by rw[z2];exact a0b⟩
      ·exact⟨ml,by rw[z1];rfl,sg _ _ z2⟩
     rw[eml];refine ⟨.ref nn,nx19 ml e d.1 pl qq p wo rfl ⟨nn,rfl,sg _ _ a0b⟩ hml gh hqq (kn.same S5) λ D6 H6 zs hD6 s6 h6 pz=>?_⟩;have S6:=sn.trans (sg.trans s6);have lz:zs.length<=8:=by rw[a1c pz];exact b8p (gh.few qq.1)
     refine nx14 F D6 ys zs rfl rfl (S6 _ _ hF5) h6 (by lia) ?_;have kn2:=KN.upd (o:=HO.lst (ys++zs)) (S6 _ _ hF5);refine nx17 _ _ _ rfl (λ b o eb=>?_) a0b (by rw[z0j];lia) ?_
     ·rw[a0g (show b≠F from λ z=>by rw[z,hF] at eb;cases eb)];exact S6 _ _ (s5 _ _ eb)
     ·rw[z0v,eqq,z3s,<-z1c];refine a0r (a2k ((KN.of S6).trans kn2) pn) ?_;show Paired _ zs (List.flatMap (a8e wo p d.1 pl) [qq]);rw[z2n,z3m,z19];exact a2k kn2 pz
    ·rintro σ H5 ⟨x8,x9,ys,rfl,s5,hF5,ly,pn⟩;have lp:pv.length=lk.length:=by rw[tpv.len,z04]
     rw[lp,z0x] at pn;refine nx32 _ _ _ _ _ _ rfl s5 hF5 (by rw[lp] at ly;lia) ?_;rw[z28,z3s,z2n,z3m,z19,lE];exact pn
   ·have epl:a3y (lvD wo d) (i:Int)=none:=by
     cases ee:a3y (lvD wo d) (i:Int) with
     | none=>rfl
     | some k=>rw[ee] at c;exact absurd (by simp[e0c]) c
    have lE:b1o wo p d i=[]:=by
     unfold b1o;rw[epl]
    refine nx32 _ _ _ _ _ _ rfl S3 kF (by lia) ?_;rw[z28,z3s,z2n,z3m,z19,lE,z19];exact pn
  ·rintro σ H3 ⟨x5,x6,x7,x8,x9,ys,rfl,s3,hF3,ly,pn⟩;rw[ll] at pn;exact⟨_,rfl,q F H3 ys hF s3 hF3 pn⟩
theorem c0j (T:Tx K mg):T.a8g.Ok P w base 4 (d0b (cO T) λ w p=>p.1.flatMap (b1q w p)):=by
 refine okF T.a8g.F a3m λ _ _ _ _ H _ _ _ hr h=>?_
 ·obtain⟨v,e,p,wo,rfl,tr,gh,lh,q⟩:=h;have hu:=a2z hr;refine⟨_,(a0e (psx 2 a3m.nd (a6h (a7f (K:=K) rfl rfl) (by rfl) T.b3x boot_dict (a0a (pix a0t (pv 0) a0c) a0d)))
   (a0e (psx 3 a3m.nd (pcF T.a9r (b4u T) hr (a0a (pv 0) (a0a (pv 1) a0d))))
   (a0e (psx 4 a3m.nd (a1d a0d))
   (a0e (a1w z18 rfl (a1a (pix a0t (pv 0) a0c)) (pgm 5 a3m.nd)
   (a0f (a1u (a4q z1h z31 z2z a2n (pv 4) (a0a (pcF T.a8f (c0g T) hr (a0a (pv 5) (a0a (a2o hu (pv 1) (pix a0t (pv 5) a0c) (λ _ _=>rfl)) (a0a (pv 2) (a0a (pv 3) a0d))))) a0d)))))
   (a0f (a0k (pv 4))))))),?_⟩
  show let z0:TS:=_;let z1:TS:=a1h (b0o _ _ _) z0;let z2:TS:=a1h _ z1;let z3:TS:=a1h _ z2;a1h _ z3 _ _ _
  intros;have sz:sizeLine=2 ^ 24:=rfl;obtain⟨a,l,m,lv,mv,rfl,ha,hl,tl,hm,tm⟩:=a3r tr;obtain⟨ps,pr,pk,pv⟩:=c0k (K:=K) tm;have lps:ps.length=p.2.length:=by have:=z0b List.length pk;simpa using this
  have kl:=gh.klen;refine nx5 _ rfl a _ _ _ rfl rfl (SqT.of ha) rfl (nx17 m mv ps rfl hm pr (by lia) λ M hM=>?_);have sM:=Same.upd (o:=HO.dK (a4m [] ps)) hM;have mk:MkD (upd H M (.dK (a4m [] ps))) M p:=e3g gh a0b pk λ x hx=>let ⟨l,q1,q2⟩:=pv x hx;⟨l,q1,sM _ _ q2⟩
  generalize upd H M (.dK (a4m [] ps))=H1 at sM mk;refine nx18 _ rfl _ rfl (.ref a) e p wo rfl (tr.same sM) gh.gp (lh.same sM) λ E2 H2 s2 kp=>?_;have kn:=c9s gh kp;have S2:=sM.trans s2;refine⟨(by show 0<=sizeLine;decide),λ F hF=>?_⟩;have hF0:=a0b (H:=H2) (a:=F) (o:=HO.lst []);have sF:=Same.upd (o:=HO.lst []) hF;generalize upd H2 F (.lst [])=H1F at hF0 sF;refine nx16 _ rfl a _ _ _ rfl rfl (SqT.of (sF _ _ (S2 _ _ ha))) rfl l rfl ⟨_,SqL.of (sF _ _ (S2 _ _ hl))⟩ (a2a (K:=K) (a:=l) (xs:=lv) (λ i σ H3=>∃ (x5:Option V) (ys:List V),σ=[some (.ref a),some (.ref e),some (.ref M),some (.ref E2),some (.ref F),x5]/\Same H2 H3/\H3 F=some (.lst ys)/\ys.length<=960*i/\Paired (EgV H3) ys ((p.1.take i).flatMap (b1q wo p))) (nx12 none ([]) rfl sF hF0 (z05 _) (.nil)) (λ i σ H3 _ ⟨_,_,_,s3,_⟩=>SqL.of (s3 _ _ (S2 _ _ hl))) ?_ ?_)
  ·rintro i y σ H3 hy ⟨x5,ys,rfl,s3,hF3,ly,pn⟩;obtain⟨dd,edd,trd⟩:=tl.get hy;rw[z09] at edd;obtain⟨d,ed,rfl⟩:=z1z.mp edd;have hd:=z0c ed;have hi8:i < 8:=by have:=(z0l.mp ed).1;have:=gh.gp.1;lia
   have S3:=S2.trans s3;obtain⟨kvs,hk,vk⟩:=lh.same S3;obtain⟨x,dx,vx,hx⟩:=vk d hd;obtain⟨pd,L,lkv,rfl,hpd,_,_⟩:=a6j (trd.same S3);have dg:=b0y.k (k:=Sum.inl d.1) hk;rw[vx] at dg;refine nx35 _ rfl (Or.inl ⟨rfl,_,SqL.of hF3⟩) _ rfl _ ⟨rfl,nx24 _ rfl pd _ _ _ rfl rfl (SqT.of hpd) rfl e _ rfl dg (nx22 _ rfl _ rfl (.ref pd) (nx19 x M E2 d p wo dx rfl (trd.same S3) hx gh hd (mk.same (s2.trans s3)) ⟨kn.same s3,λ D6 H6 zs hD6 s6 h6 pz=>?_⟩))⟩;have lz:zs.length<=960:=by rw[a1c pz];exact b7z gh hd
   refine nx14 F D6 ys zs rfl rfl (s6 _ _ hF3) h6 (by lia) ?_;have kn2:=KN.upd (o:=HO.lst (ys++zs)) (s6 _ _ hF3);refine nx12 _ _ rfl (λ b o eb=>?_) a0b (by rw[z0j];lia) ?_
   ·rw[a0g (show b≠F from λ z=>by rw[z,hF] at eb;cases eb)];exact s6 _ _ (s3 _ _ eb)
   ·rw[z0v,ed,z3s];refine a0r (a2k ((KN.of s6).trans kn2) pn) ?_;show Paired _ zs (List.flatMap (b1q wo p) [d]);rw[z2n,z3m,z19];exact a2k kn2 pz
  ·rintro σ H3 ⟨x5,ys,rfl,s3,hF3,ly,pn⟩;have:lv.length=p.1.length:=by rw[tl.len,z04]
   rw[this,z0x] at pn;exact⟨_,rfl,q F H3 ys (S2.free hF) (S2.trans s3) hF3 pn⟩
theorem b7u (T:Tx K mg):T.a8h.Ok P w base 4 (d0b (cO T) λ w p=>p.2.flatMap (b6l w p)):=by
 refine okF T.a8h.F a3n λ _ _ _ _ H _ _ _ hr h=>?_
 ·obtain⟨v,e,p,wo,rfl,tr,gh,lh,q⟩:=h;have hu:=a2z hr;refine⟨_,(a0e (psx 2 a3n.nd (pcF T.a9r (b4u T) hr (a0a (pv 0) (a0a (pv 1) a0d))))
   (a0e (psx 3 a3n.nd (pcF T.b0n (c1s T) hr (a0a (pv 0) (a0a (pv 1) a0d))))
   (a0e (psx 4 a3n.nd (a1d a0d))
   (a0e (a1w z18 rfl (a1a (pix a0t (pv 0) a0c)) (pgm 5 a3n.nd)
   (a0f (a1u (a4q z1h z31 z2z a2n (pv 4) (a0a (pcf ["maker","later"] ["keeps","firsts","made"] [2,3,5] (a1a (pcF T.a5z (b1d T) hr (a0a (pix a0t (pv 5) a0c) a0d))) (c9p (K:=K) (n:=2) rfl rfl (a0o (pgn 0) (a0o (pgn 1) a3d))) a3w (a1j (a0a (a2o hu (pv 2) (pv 0) (λ _ _=>rfl)) (a0a (a2o hu (pv 3) (pv 1) (λ _ _=>rfl)) (a0a a1s (a0a (pix (a2q (K:=K) rfl) (pv 4) a0c) a0d)))))) a0d)))))
   (a0f (a0k (pv 4))))))),?_⟩
  show let z0:TS:=_;let z1:TS:=a1h (b0o _ _ _) z0;let z2:TS:=a1h _ z1;let z3:TS:=a1h _ z2;a1h _ z3 _ _ _
  intros;have sz:sizeLine=2 ^ 24:=rfl;obtain⟨a,l,m,lv,mv,rfl,ha,hl,tl,hm,tm⟩:=a3r tr;have kl:=gh.klen;refine nx18 _ rfl _ rfl (.ref a) e p wo rfl tr gh.gp lh λ E1 H1 s1 kp=>?_;refine nx18 _ rfl _ rfl (.ref a) e p wo rfl (tr.same s1) gh.gp (lh.same s1) λ E2 H2 s2 kf=>?_;have kn1:=(c9s gh kp).same s2;have kn2:=d2o gh kf;have S2:=s1.trans s2;refine⟨(by show 0<=sizeLine;decide),λ F hF=>?_⟩;have hF0:=a0b (H:=H2) (a:=F) (o:=HO.lst []);have sF:=Same.upd (o:=HO.lst []) hF;generalize upd H2 F (.lst [])=H1F at hF0 sF;refine nx16 _ rfl a _ _ _ rfl rfl (SqT.of (sF _ _ (S2 _ _ ha))) rfl m rfl ⟨_,SqL.of (sF _ _ (S2 _ _ hm))⟩ (a2a (K:=K) (a:=m) (xs:=mv) (λ i σ H3=>∃ (x5:Option V) (ys:List V),σ=[some (.ref a),some (.ref e),some (.ref E1),some (.ref E2),some (.ref F),x5]/\Same H2 H3/\H3 F=some (.lst ys)/\ys.length<=64*i/\Paired (EgV H3) ys ((p.2.take i).flatMap (b6l wo p))) (nx12 none ([]) rfl sF hF0 (z05 _) (.nil)) (λ i σ H3 _ ⟨_,_,_,s3,_⟩=>SqL.of (s3 _ _ (S2 _ _ hm))) ?_ ?_)
  ·rintro i y σ H3 hy ⟨x5,ys,rfl,s3,hF3,ly,pn⟩;obtain⟨dd,edd,trd⟩:=tm.get hy;rw[z09] at edd;obtain⟨mm,ed,rfl⟩:=z1z.mp edd;have hmm:=z0c ed;have hi30:i < 30:=by have:=(z0l.mp ed).1;lia
   have S3:=S2.trans s3;obtain⟨t,c,rfl,ht,hc⟩:=a9q (trd.same S3);have ec:=c3f gh hmm;have l8:mm.2.length<=8:=by rw[<-ec];exact gh.few _
   have lq:(a1q mm.2).length<=64:=by
    have h1:=a6t mm.2;have:=Nat.mul_le_mul l8 l8;lia
   refine nx6 _ rfl (Or.inl ⟨rfl,_,SqL.of hF3⟩) _ rfl (nx1 t _ _ _ rfl rfl (SqT.of ht) rfl (nx8 c _ rfl hc (by rw[z04];lia) λ D5 H5 qs hD5 s5 h5 pq=>⟨D5,rfl,⟨_,SqL.of h5⟩,a5q (k:=2) (fs:=[some (.ref E1),some (.ref E2),some (.ref t)]) EgV I2V (a1q mm.2) (λ q=>some (a4l wo p q.1,a6g wo p q.2,"over",some mm.1)) b0m (λ _ _ _ _ ss ⟨x,e1,e2⟩=>⟨x,e1,ss _ _ e2⟩) rfl h5 (d7e pq) (by lia) (λ qq hq H6 ts v R ss hts hv cont _=>?_) λ D6 H6 es hD6 s6 h6 pe=>?_⟩))
   ·obtain⟨t1,t2,rfl⟩:∃ a b,ts=[a,b]:=by match ts,hts with | [a,b],_=>exact nx2 a b rfl
    obtain⟨tq,rfl,htq⟩:=hv;obtain⟨i1,i2,_,g1,g2⟩:=a4a.mp (show (qq.1,qq.2)∈a1q mm.2 from hq);have m1:qq.1∈chF p.2 mm.1:=by rw[ec];exact z0c g1
    have m2:qq.2∈chF p.2 mm.1:=by rw[ec];exact z0c g2
    have S6:=s3.trans (s5.trans ss);obtain⟨kv1,v1,hk1,vk1,nk1⟩:=(kn1.same S6).get (gh.num m1).1;obtain⟨kv2,v2,hk2,vk2,nk2⟩:=(kn2.same S6).get (gh.num m2).1;have dg1:=b0y.k (k:=Sum.inl qq.1) hk1;rw[vk1] at dg1;have dg2:=b0y.k (k:=Sum.inl qq.2) hk2;rw[vk2] at dg2;exact nx15 tq _ rfl (SqT.of htq) rfl _ (nx7 _ rfl _ _ rfl rfl (nx22 _ rfl _ rfl E1 (nx6 v1 rfl dg1 _ rfl (nx7 _ rfl E2 v2 rfl dg2 (nx36 _ rfl t _ _ _ rfl rfl (SqT.of (ss _ _ (s5 _ _ ht))) (a0m (j:=0) rfl) (by show 4<=sizeLine;decide) λ n hn=>cont _ _ [_,_] _ rfl rfl (Same.upd hn) (nx4 n v1 v2 rfl a0b (a3b (Same.upd hn) nk1) (a3b (Same.upd hn) nk2)))))))
   ·rw[a4u] at pe;have S6:=s5.trans s6;have le:es.length<=64:=by rw[a1c pe,z04];exact lq
    refine nx14 F D6 ys es rfl rfl (S6 _ _ hF3) h6 (by lia) ?_;have kn:=KN.upd (o:=HO.lst (ys++es)) (S6 _ _ hF3);refine nx12 _ _ rfl (λ b o eb=>?_) a0b (by rw[z0j];lia) ?_
    ·rw[a0g (show b≠F from λ z=>by rw[z,hF] at eb;cases eb)];exact S6 _ _ (s3 _ _ eb)
    ·rw[z0v,ed,z3s];refine a0r (a2k ((KN.of S6).trans kn) pn) ?_;show Paired _ es (List.flatMap (b6l wo p) [mm]);rw[z2n,z3m,z19];exact a2k kn pe
  ·rintro σ H3 ⟨x5,ys,rfl,s3,hF3,ly,pn⟩;have:mv.length=p.2.length:=by rw[tm.len,z04]
   rw[this,z0x] at pn;exact⟨_,rfl,q F H3 ys (S2.free hF) (S2.trans s3) hF3 pn⟩
theorem d9l (T:Tx K mg):T.c4h.Ok P w base 1 (d5s K):=by
 refine okF T.c4h.F d7q λ _ _ _ _ H _ _ _ hr h=>?_
 ·obtain⟨b,e,rfl,hb,ok,q⟩:=h;have hu:=a2z hr;refine⟨_,(a0f (a0k (a1j (a0a (pix a0t (pv 0) a0c) (a0a (pix a0t (pv 0) a0c) (a0a (a4q F.plainAttrs_tuple F.slot_tuple_index F.type_tuple_index (c6o rfl) (c1j (v:=V.ref T.b3h) rfl T.d8d rfl) (a0a (pix a0t (pv 0) a0c) a0d)) (a0a (pix a0t (pv 0) a0c) a0d))))))),?_⟩;obtain⟨b',u1,u2,e0,eb,h1,h2⟩:=hb;cases e0;obtain⟨okk,_⟩:=ok;have kin:e.2.2.1∈(["own","saw","unseen","over"]:List Str):=by
   rcases okk with z | z | z | z<;>rw[z]<;>decide +kernel
  have kx:(((["own","saw","unseen","over"]:List Str).idxOf e.2.2.1:Nat):Int)=kix e.2.2.1:=by
   rcases okk with z | z | z | z<;>rw[z]<;>decide +kernel
  refine nx26 _ rfl b _ _ _ rfl rfl (SqT.of eb) (a0m (j:=0) rfl) _ rfl b _ _ _ rfl rfl (SqT.of eb) (a0m (j:=1) rfl) ⟨Or.inr (Or.inl ⟨rfl,T.d4o⟩),nx5 _ rfl b _ _ _ rfl rfl (SqT.of eb) (a0m (j:=2) rfl) (nx17 T.b3h (["own","saw","unseen","over"]) e.2.2.1 rfl rfl (T.d9o H) kin ?_)⟩;rw[kx];refine nx36 _ rfl b _ _ _ rfl rfl (SqT.of eb) (a0m (j:=3) rfl) (by show 4<=sizeLine;decide) λ n hn=>?_;have sn:=Same.upd (o:=HO.tup [u1,u2,.int (kix e.2.2.1),oV e.2.2.2]) hn;exact q n _ sn (nx4 n u1 u2 rfl a0b (a3b sn h1) (a3b sn h2))
theorem ok_edges (T:Tx K mg):T.a4e.Ok P w base 5 c8x:=by
 refine T.a4e.F.ok b7i (λ vs H Q E h=>?_) (λ cdv A outer s H vs Q E hr h=>?_)
 ·obtain⟨v,p,wo,rfl,_⟩:=h;rfl
 ·obtain⟨v,p,wo,rfl,tr,gh,fw,q⟩:=h;have hu:=a2z hr;refine⟨_,(a0e (psx 2 b7i.nd (pcF T.a9x (c1b T) hr (a0a (pv 0) (a0a (pv 1) a0d))))
   (a0e (psx 3 b7i.nd (a0p c4x (a0p c4x (pcF T.b0c (c1q T) hr (a0a (pv 0) (a0a (pv 2) a0d))) (pcF T.a8g (c0j T) hr (a0a (pv 0) (a0a (pv 2) a0d)))) (pcF T.a8h (b7u T) hr (a0a (pv 0) (a0a (pv 2) a0d)))))
   (a0f (a0k (c5f rfl rfl T.a5s ((d9l T).mono (by decide)) hr rfl T.c4h.m T.c4h.b (d9h T) (a0a (a6h (c5l (u16 hr.units) rfl) (by rfl) T.b3x boot_dict (a0a (pcf ["edge"] [] [] (a1a (pv 3)) (pgn 0) a3w (a1j (a0a (pv 0) (a0a a7z a0d)))) a0d)) a0d)))))),?_⟩
  show let z0:TS:=_;let z1:TS:=a1h _ z0;a1h _ z1 _ _ _
  intros;have sz:sizeLine=2 ^ 24:=rfl;obtain⟨a1,a2,a3⟩:=d3k (w:=wo) gh;refine nx3 _ rfl _ rfl (nx17 v p wo rfl tr gh.gp fw λ e H1 s1 lh=>?_);refine nx18 _ rfl _ rfl v e p wo rfl (tr.same s1) gh lh λ D2 H2 xs2 hD2 s2 h2 p2=>?_;have S2:=s1.trans s2;refine nx18 _ rfl _ rfl v e p wo rfl (tr.same S2) gh (lh.same s2) λ D3 H3 xs3 hD3 s3 h3 p3=>?_;have S3:=S2.trans s3;have l2:=a1c p2;have l3:xs3.length=(p.1.flatMap (b1q wo p)).length:=a1c p3;refine nx14 D2 D3 xs2 xs3 rfl rfl (s3 _ _ h2) h3 (by lia) λ D4 hD4=>?_;have s4:=Same.upd (o:=HO.lst (xs2++xs3)) hD4;have S4:=S3.trans s4;refine nx18 _ rfl _ rfl v e p wo rfl (tr.same S4) gh (lh.same (s2.trans (s3.trans s4))) λ D5 H5 xs5 hD5 s5 h5 p5=>?_;have l5:xs5.length=(p.2.flatMap (b6l wo p)).length:=a1c p5;refine nx14 D4 D5 (xs2++xs3) xs5 rfl rfl (s5 _ _ a0b) h5 (by rw[z0j];lia) λ D6 hD6=>?_;have s6:=Same.upd (o:=HO.lst (xs2++xs3++xs5)) hD6;have S6:=S4.trans (s5.trans s6);have pall:Paired (EgV (upd H5 D6 (.lst (xs2++xs3++xs5)))) (xs2++xs3++xs5) (d4f wo p):=a0r (a0r (a2k (KN.of (s3.trans (s4.trans (s5.trans s6)))) p2) (a2k (KN.of (s4.trans (s5.trans s6))) p3)) (a2k (KN.of s6) p5);have lall:(d4f wo p).length<=24000:=by
   unfold d4f;rw[z0j,z0j];lia
  refine nx3 _ rfl D6 rfl ⟨⟨_,SqL.of a0b⟩,a5q (k:=1) (fs:=[]) TrE EgV (d4f wo p) some e0j (λ _ _ _ _ ss z=>b0m _ _ _ _ (KN.of ss) z) rfl a0b pall (by lia) (λ k hk H7 ts v R ss hts hv cont _=>?_) λ D7 H7 ws hD7 s7 h7 pw=>?_⟩
  ·obtain⟨t,rfl⟩:=z1g.mp hts;obtain⟨b,u1,u2,rfl,hb,n1,n2⟩:=hv;exact⟨_,rfl,(by show 2<=sizeLine;decide),λ n hn=>cont _ _ [_] _ rfl rfl (Same.upd hn) (nx0 n b rfl a0b (nx4 b u1 u2 rfl (Same.upd hn _ _ hb) (a3b (Same.upd hn) n1) (a3b (Same.upd hn) n2)))⟩
  ·rw[z6d] at pw;refine nx17 D7 ws (d4f wo p) rfl h7 (c9i pw) (by lia) λ Dd en ep ks hDd dk nk mk=>?_;have s8:=Same.upd (o:=HO.ext (ExD Dd en ep)) hDd;refine nx1 Dd en ep ks rfl a0b (Paired.imp' (λ _ _ ⟨b,e1,e2⟩=>⟨b,e1,b0m _ _ _ _ (KN.of s8) e2⟩) dk) (λ k hk=>d5a gh ((mk k).mp hk)) λ D9 ys js H9 hD9 k9 h9 p9 pm pw9=>?_;have ej:=d3h gh nk mk pm pw9;subst ej;have S9:Same H H9:=S6.trans (s7.trans (s8.trans k9));exact q D9 H9 ys ((S6.trans (s7.trans s8)).free hD9) S9 h9 p9
--@STAGE
def d9s:Sp:=λ vs H Q _=>∃ (x:Str) (k:Int),vs=[.str x,.int k]/\x∈wds/\Q (e0c (a3y (lvS x) k)) H
def d2m:Sp:=λ vs H Q _=>∃ (x:Str) (L:Addr) (lv:List V),vs=[.str x,.ref L]/\H L=some (.lst lv)/\x∈wds/\Q (.int (a2t (lvS x) (lv.length:Int))) H
def kP (k m:Int):List Key:=[Sum.inl k,Sum.inl m]
def c7s (H:Hp) (ks:List (List Key×V)) (n:Nk) (l:Lk):Prop:=(a1r ks (kN n)=none/\l=[])\/∃ b lv,a1r ks (kN n)=some (.ref b)/\H b=some (.lst lv)/\Paired (I2V H) lv l
structure ScH (H:Hp) (a c f s q:Addr) (kc kf:List (Key×V)) (ks kq:List (List Key×V)) (w:Option Str) (p:Ps):Prop where
 l:H a=some (.lst [.ref c,.ref f,.ref s,.ref q])
 c:Rd H c (.dK kc)
 f:Rd H f (.dK kf)
 s:H s=some (.dT ks)
 q:H q=some (.dT kq)
 keys:kc.map (·.1)=p.1.map (λ d=>(Sum.inl d.1:Key))
 cv:∀ d∈p.1,a1r kc (.inl d.1)=some (.int (a1e (lvD w d) (d.2.2.length:Int)))
 fv:∀ d∈p.1,a1r kf (.inl d.1)=some (.int (a2t (lvD w d) (d.2.2.length:Int)))
 sv:∀ n,c7s H ks n (a4x w p n)
 qv:∀ k m,a1r kq (kP k m)=(plO p k m).map V.int
def Scn (H:Hp) (v:V) (w:Option Str) (p:Ps):Prop:=∃ a c f s q kc kf ks kq,v=.ref a/\ScH H a c f s q kc kf ks kq w p
theorem e4z (k:KF H H') (h:I2V H v q):I2V H' v q:=let ⟨t,e,x⟩:=h;⟨t,e,k.tup x⟩
theorem ScH.kf (k:KF H H') {a c f s q:Addr} {kc kf:List (Key×V)} {w:Option Str} (h:ScH H a c f s q kc kf ks kq w p):ScH H' a c f s q kc kf ks kq w p:=by
 have dt:∀ {b:Addr} {u:List (List Key×V)},H b=some (.dT u)->H' b=some (.dT u):=λ {b u} e=>by
  rcases k b _ e with z | ⟨_,_,z,_⟩
  ·exact z
  ·cases z
 exact⟨k.lst h.l,k.rd h.c,k.rd h.f,dt h.s,dt h.q,h.keys,h.cv,h.fv,λ n=>(h.sv n).imp id λ ⟨b,lv,e1,e2,e3⟩=> nx0 b lv e1 (k.lst e2) (Paired.imp' (λ _ _ z=>e4z k z) e3),h.qv⟩
theorem Scn.kf (k:KF H H') {w:Option Str} (h:Scn H v w p):Scn H' v w p:=let ⟨a,c,f,s,q,kc,kf,ks,kq,e,x⟩:=h; (nx31 a c f s q kc (nx34 kf ks kq e (x.kf k)))
def d7r:Sp:=λ vs H Q _=>∃ (v:V) (p:Ps) (w:Option Str),vs=[v,wV w]/\Tr H v (a4o p)/\GH p/\(∀ x,w=some x->x∈wds)/\∀ sv H',Same H H'->Scn H' sv w p->Q sv H'
def c9j (B:Option Str->Ps->Nk->Nk->Int->Bool):Sp:=λ vs H Q _=>∃ (sv av bv:V) (a b:Nk) (k:Int) (p:Ps) (w:Option Str),vs=[sv,av,bv,.int k]/\Scn H sv w p/\GH p/\NdV H av a/\NdV H bv b/\a∈a2g w p/\b∈a2g w p/\∀ H',Same H H'->Q (.bl (B w p a b k)) H'
def e1h:Sp:=λ vs H Q _=>∃ (sv av bv:V) (l:Addr) (a b:Nk) (p:Ps) (w:Option Str),vs=[sv,av,bv,.ref l]/\Scn H sv w p/\GH p/\NdV H av a/\NdV H bv b/\a∈a2g w p/\b∈a2g w p/\H l=some (.lst ((p.2.map (·.1)).map V.int))/\∀ D H' ys,H D=none->Same H H'->H' D=some (.lst ys)->Paired (EgV H') ys (a5c w p a b)->Q (.ref D) H'
def e0l:Sp:=λ vs H Q _=>∃ (sv v:V) (p:Ps) (w:Option Str),vs=[sv,v]/\Scn H sv w p/\GH p/\Tr H v (a4o p)/\∀ D H' ys,H D=none->KF H H'->H' D=some (.lst ys)->Paired (EgV H') ys (b0q w p)->Q (.ref D) H'
def d1w:Sp:=λ vs H Q _=>∃ (v:V) (n:Nk),vs=[v]/\NdV H v n/\Q (.bl true) H
def c3b:Sp:=λ vs H Q _=>∃ (a b:Addr) (xs ys:List V) (es:List Eg),vs=[.ref a,.ref b]/\H a=some (.lst xs)/\Paired (EgV H) xs es/\H b=some (.lst ys)/\Paired (EgV H) ys es/\(∀ e∈es,b7s e)/\∀ H',Same H H'->Q (.bl true) H'
theorem e0p (h:c3w p n=some d):d∈p.1/\d.1=n:=⟨List.mem_of_find?_eq_some h,by have:=List.find?_some (show p.1.find? (λ d=>decide (d.1=n))=some d from h);exact z0h this⟩
theorem d2i {w:Option Str} (gh:GH p) (h:q∈a4x w p n):q.2=-1\/q.2=0\/q.2∈chF p.2 q.1:=by
 obtain⟨d,hd,i,lk,e1,e2,e3⟩:=b2a.mp h;exact(gh.lks d (e0p hd).1 lk (z0c e1)).2 q e3
theorem a6y {α:Type} {f:α->Bool} {l:List α} {x:α} (h:(l.take i).any f=false) (e:l[i]?=some x) (hx:f x=false):(l.take (i+1)).any f=false:=by
 rw[z0v,e,List.any_append,h];show (false || (f x || false))=false;rw[hx];rfl
theorem d4y {α:Type} {f:α->Bool} {l:List α} {i:Nat} {x:α} (e:l[i]?=some x) (hx:f x=true):l.any f=true:=z45.mpr ⟨x,z0c e,hx⟩
theorem b9k (h:m∈chF p.2 k):plO p k m=some (plF p k m):=by unfold plF plO;rw[z02 h];rfl
theorem b6k (h:m ∉ chF p.2 k):plO p k m=none:=by unfold plO;rw[z01 h]
theorem d5c (a b:Int):decide (V.int a=V.int b)=decide (a=b):=by
 by_cases h:a=b
 ·rw[h];simp
 ·rw[z0n h,z0n (λ e=>h (V.int_inj' e))]
theorem b8x (l:Lv):lvS (wd l)=l:=d6e (c4g (e5f l)).symm
theorem c9f:lvS "loose"=.loose/\lvS "kept"=.kept/\lvS "make"=.make/\lvS "watch"=.watch/\lvS "hold"=.hold:=⟨b8x .loose,b8x .kept,b8x .make,b8x .watch,b8x .hold⟩
def dEg (e:Eg):PyData:=.tuple [dN e.1,dN e.2.1,.str e.2.2.1,match e.2.2.2 with
 | none=>.none
 | some i=>.int i]
theorem d6o (h:EgV H v e):Dt K H v (dEg e):=by
 obtain⟨p,u1,u2,rfl,hp,h1,h2⟩:=h;refine .tup (SqT.of hp) (.cons (e1y h1) (.cons (e1y h2) (.cons (.str _) (.cons ?_ .nil))));cases e.2.2.2 with
 | none=>exact .non
 | some i=>exact .int i
theorem c2q {K:W.Frag} {H:Hp}:∀ {vs:List V} {es:List Eg},Paired (EgV H) vs es->Dts K H vs (es.map dEg)
 | _,_,.nil=>.nil
 | _,_,.cons r t=>.cons (d6o r) (c2q t)
theorem b9o {e:Eg} (h:b7s e):(dEg e).canLay0=true/\(dEg e).depth<=3:=by
 have hs:(PyData.str e.2.2.1).canLay0=true:=by
  rcases h.1 with z | z | z | z<;>rw[z]<;>decide +kernel
 refine⟨?_,?_⟩
 ·show ((dN e.1).canLay0 && ((dN e.2.1).canLay0 && ((PyData.str e.2.2.1).canLay0 && (PyData.canLay0 (match e.2.2.2 with | none=>PyData.none | some i=>PyData.int i) && true))))=true;rw[hs];cases e.2.2.2<;>rfl
 ·cases e4:e.2.2.2 with
  | none =>
   unfold dEg;rw[e4];show (2:Nat)<=3;decide
  | some i =>
   unfold dEg;rw[e4];show (2:Nat)<=3;decide
theorem b9p {e:Eg} (h:b7s e):SeqAt.shaped (dEg e)=true:=by
 have:=(b9o h).2;unfold SeqAt.shaped;rw[(b9o h).1,z08 (by lia)];rfl
theorem c6e {es:List Eg} (h:∀ e∈es,b7s e):SeqAt.shaped (.list (es.map dEg))=true/\PyData.eqv (.list (es.map dEg)) (.list (es.map dEg))=true:=by
 have l1:PyData.canLayAll0 (es.map dEg)=true:=b0z λ d hd=>by obtain⟨e,he,rfl⟩:=z0d.mp hd;exact(b9o (h e he)).1
 have l2:PyData.depthAll (es.map dEg)<=3:=a5r λ d hd=>by obtain⟨e,he,rfl⟩:=z0d.mp hd;exact(b9o (h e he)).2
 refine⟨?_,SeqAt.eqv_refl _ l1⟩;show (PyData.canLayAll0 (es.map dEg) && decide (PyData.depthAll (es.map dEg)+1<=64))=true;rw[l1,z08 (by lia)];rfl
theorem c7x (ks:List Int) (f:Int->Bool) (a b:Nk) (x:Str):ks.filterMap (λ k=>if f k=true then some ((a,b,x,some k):Eg) else none)=c6j ks f a b x:=by
 unfold c6j;induction ks with
 | nil=>rfl
 | cons k r ih =>
  rw[z1o,z3b];by_cases h:f k=true
  ·rw[z02 h,z02 h,z0w,ih]
  ·rw[z01 h,z01 h,ih]
theorem b1b (ks:List Int) (f:Int->Bool) (a b:Nk) (x:Str):(c6j ks f a b x).length<=ks.length:=by
 unfold c6j;rw[z04];exact z4b _ _
theorem d3n {w:Option Str} {p:Ps} (gh:GH p) (a b:Nk):(a5c w p a b).length<=90:=by
 unfold a5c;have kl:=gh.klen;have kk:(p.2.map (·.1)).length=p.2.length:=z04 _;split
 ·split
  ·show 1<=90;decide
  ·exact z0m _
 ·rw[z0j,z0j];have h1:=b1b (p.2.map (·.1)) (d2t w p a b) a b "saw";have h2:=b1b (p.2.map (·.1)) (a5y w p a b) a b "unseen";have h3:=b1b (p.2.map (·.1)) (c0q w p a b) a b "over";lia
def c5v (w:Option Str) (d:Dl) (j:Nat) (pl:Int):Lk:=((List.range j).filterMap λ (i:Nat)=>if a3y (lvD w d) (i:Int)=some pl then d.2.2[i]? else none).flatten
def gI (w:Option Str) (p:Ps) (i:Nat) (d:Dl) (j:Nat) (n:Nk):Lk:=if n.1=d.1 then c5v w d j n.2 else a4x w (p.1.take i,p.2) n
theorem d6r {w:Option Str} {p:Ps} {i:Nat} {d:Dl} {j:Nat} (h:a3y (lvD w d) (j:Int)=none):gI w p i d (j+1)=gI w p i d j:=by
 funext n;unfold gI c5v;split
 ·rw[z28,z2l,List.flatten_append];have:[j].filterMap (λ (i:Nat)=>if a3y (lvD w d) (i:Int)=some n.2 then d.2.2[i]? else none)=[]:=by
   rw[z1o,z01 (by rw[h];simp)];rfl
  rw[this];simp
 ·rfl
theorem c6s {w:Option Str} {p:Ps} {i:Nat} {d:Dl} {j:Nat} {pl:Int} {lk:Lk} (h:a3y (lvD w d) (j:Int)=some pl) (hl:d.2.2[j]?=some lk):gI w p i d (j+1)=λ n=>if n=(d.1,pl) then gI w p i d j n++lk else gI w p i d j n:=by
 funext n;unfold gI c5v;by_cases e:n.1=d.1
 ·rw[z02 e,z02 e,z28,z2l,List.flatten_append];by_cases e2:n.2=pl
  ·rw[z02 (z1d e e2)];have:[j].filterMap (λ (i:Nat)=>if a3y (lvD w d) (i:Int)=some n.2 then d.2.2[i]? else none)=[lk]:=by
    rw[z1o,z02 (by rw[h,e2]),hl];rfl
   rw[this];simp
  ·rw[z01 (λ z=>e2 (z0b Prod.snd z))];have:[j].filterMap (λ (i:Nat)=>if a3y (lvD w d) (i:Int)=some n.2 then d.2.2[i]? else none)=[]:=by
    rw[z1o,z01 (by rw[h];exact λ z=>e2 (z0r z).symm)];rfl
   rw[this];simp
 ·rw[z01 e,z01 e,z01 (λ z=>e (z0b Prod.fst z))]
theorem b6a {p:Ps} (gh:GH p) {i:Nat} {d:Dl} (ed:p.1[i]?=some d):∀ x∈p.1.take i,x.1≠d.1:=λ x hx e=>by
 obtain⟨j,hj⟩:=z1v.mp hx;rw[z63] at hj;split at hj
 ·next jl =>
  have e1:(p.1.map (·.1))[j]?=some d.1:=by rw[z09,hj];exact z0b some e
  have e2:(p.1.map (·.1))[i]?=some d.1:=by rw[z09,ed];rfl
  have:=(z2j (z0l.mp e1).1 gh.gp.2.1).mp (e1.trans e2.symm);lia
 ·cases hj
theorem d0y {p:Ps} (gh:GH p) {i:Nat} {d:Dl} (ed:p.1[i]?=some d):c3w (p.1.take i,p.2) d.1=none:=by
 unfold c3w;rw[z4f];intro x hx z;exact b6a gh ed x hx (z0h z)
theorem d7b {w:Option Str} {p:Ps} (gh:GH p) {i:Nat} {d:Dl} (ed:p.1[i]?=some d):gI w p i d 0=a4x w (p.1.take i,p.2):=by
 funext n;unfold gI;by_cases e:n.1=d.1
 ·rw[z02 e];unfold a4x;rw[e,d0y gh ed];rfl
 ·rw[z01 e]
theorem d8w {w:Option Str} {p:Ps} (gh:GH p) {i:Nat} {d:Dl} (ed:p.1[i]?=some d):gI w p i d d.2.2.length=a4x w (p.1.take (i+1),p.2):=by
 funext n;have tk:p.1.take (i+1)=p.1.take i++[d]:=by rw[z0v,ed];rfl
 have fd:c3w (p.1.take (i+1),p.2) n.1=(c3w (p.1.take i,p.2) n.1).or (if d.1=n.1 then some d else none):=by
  unfold c3w;show (p.1.take (i+1)).find? _=_;rw[tk,List.find?_append,z3c];by_cases z:d.1=n.1
  ·rw[z02 z,z08 z]
  ·rw[z01 z,z0n z];rfl
 unfold gI;by_cases e:n.1=d.1
 ·rw[z02 e];unfold a4x;rw[fd,e,d0y gh ed,z02 rfl];rfl
 ·rw[z01 e];unfold a4x;rw[fd,z01 (λ z=>e z.symm),Option.or_none]
structure SnI (H H3:Hp) (s:Addr) (ks:List (List Key×V)) (g:Nk->Lk):Prop where
 d:H3 s=some (.dT ks)
 at_:∀ n,c7s H3 ks n (g n)
 new:∀ n b,a1r ks (kN n)=some (.ref b)->H b=none
 inj:∀ n n' b,a1r ks (kN n)=some (.ref b)->a1r ks (kN n')=some (.ref b)->n=n'
theorem c2n {H H':Hp} (k:Same H H') {v:V} {q:Int×Int} (h:I2V H v q):I2V H' v q:=let ⟨t,e,x⟩:=h;⟨t,e,k _ _ x⟩
theorem SnI.same {H H3 H4:Hp} (k:Same H3 H4) {s:Addr} {ks:List (List Key×V)} {g:Nk->Lk} (h:SnI H H3 s ks g):SnI H H4 s ks g:=⟨k _ _ h.d,λ n=>(h.at_ n).imp id λ ⟨b,lv,e1,e2,e3⟩=> nx0 b lv e1 (k _ _ e2) (Paired.imp' (λ _ _ z=>c2n k z) e3),h.new,h.inj⟩
theorem SnI.but {H H3:Hp} {x:Addr} {kk kk':List (Key×V)} (hx:H3 x=some (.dK kk)) {s:Addr} {ks:List (List Key×V)} {g:Nk->Lk} (h:SnI H H3 s ks g):SnI H (upd H3 x (.dK kk')) s ks g:=by
 have ne:∀ b o,H3 b=some o->(∀ u,o≠.dK u)->upd H3 x (.dK kk') b=some o:=λ b o e n=>by
  rw[a0g λ z=>by rw[z,hx] at e;exact n _ (z0r e).symm];exact e
 exact⟨ne _ _ h.d (λ _ z=>by cases z),λ n=>(h.at_ n).imp id λ ⟨b,lv,e1,e2,e3⟩=> nx0 b lv e1 (ne _ _ e2 (λ _ z=>by cases z)) (Paired.imp' (λ _ _ ⟨t,e,z⟩=>⟨t,e,ne _ _ z (λ _ z=>by cases z)⟩) e3),h.new,h.inj⟩
theorem SnI.put {H H4:Hp} {s l:Addr} {ks:List (List Key×V)} {g:Nk->Lk} (h:SnI H H4 s ks g) {n0:Nk} (hn:a1r ks (kN n0)=none) (hl:H4 l=some (.lst [])) (hnew:H l=none) (hun:∀ n,a1r ks (kN n)≠some (.ref l)):SnI H (upd H4 s (.dT (a3t ks (kN n0) (.ref l)))) s (a3t ks (kN n0) (.ref l)) g:=by
 have ne:∀ b o,H4 b=some o->(∀ u,o≠.dT u)->upd H4 s (.dT (a3t ks (kN n0) (.ref l))) b=some o:=λ b o e n=>by
  rw[a0g λ z=>by rw[z,h.d] at e;exact n _ (z0r e).symm];exact e
 have vp:∀ n,a1r (a3t ks (kN n0) (.ref l)) (kN n)=if n=n0 then some (.ref l) else a1r ks (kN n):=λ n=>by
  rw[a7m];by_cases e:n=n0
  ·rw[z02 (z0b kN e),z02 e]
  ·rw[z01 (λ z=>e (e2n z)),z01 e]
 refine⟨a0b,λ n=>?_,λ n b e=>?_,λ n n' b e e'=>?_⟩
 ·by_cases e:n=n0
  ·subst e;rcases h.at_ n with ⟨_,z⟩ | ⟨b,lv,z,_⟩
   ·exact .inr (nx0 l ([]) (by rw[vp,z02 rfl]) (ne _ _ hl (λ _ z=>by cases z)) (by rw[z];exact .nil))
   ·rw[hn] at z;cases z
  ·unfold c7s;rw[vp,z01 e];exact(h.at_ n).imp id λ ⟨b,lv,e1,e2,e3⟩=> nx0 b lv e1 (ne _ _ e2 (λ _ z=>by cases z)) (Paired.imp' (λ _ _ ⟨t,e,z⟩=>⟨t,e,ne _ _ z (λ _ z=>by cases z)⟩) e3)
 ·rw[vp] at e;split at e
  ·cases e;exact hnew
  ·exact h.new n b e
 ·rw[vp] at e e';split at e
  ·next z =>
   cases e;split at e'
   ·next z'=>rw[z,z']
   ·exact absurd e' (hun n')
  ·split at e'
   ·cases e';exact absurd e (hun n)
   ·exact h.inj n n' b e e'
theorem SnI.ext {H H5:Hp} {s b:Addr} {ks:List (List Key×V)} {g:Nk->Lk} (h:SnI H H5 s ks g) {n0:Nk} {xs zs:List V} {lk:Lk} (hv:a1r ks (kN n0)=some (.ref b)) (hb:H5 b=some (.lst xs)) (pz:Paired (I2V H5) zs lk):SnI H (upd H5 b (.lst (xs++zs))) s ks (λ n=>if n=n0 then g n++lk else g n):=by
 have ne:∀ x o,H5 x=some o->(∀ u,o≠.lst u)->upd H5 b (.lst (xs++zs)) x=some o:=λ x o e n=>by
  rw[a0g λ z=>by rw[z,hb] at e;exact n _ (z0r e).symm];exact e
 have i2:∀ {v:V} {q:Int×Int},I2V H5 v q->I2V (upd H5 b (.lst (xs++zs))) v q:=λ ⟨t,e,z⟩=>⟨t,e,ne _ _ z (λ _ z=>by cases z)⟩
 refine⟨ne _ _ h.d (λ _ z=>by cases z),λ n=>?_,h.new,h.inj⟩;by_cases e:n=n0
 ·subst e;rcases h.at_ n with ⟨z,_⟩ | ⟨b',lv,z,hlv,pl⟩
  ·rw[hv] at z;cases z
  ·rw[hv] at z;cases z;rw[hb] at hlv;cases hlv;refine .inr (nx0 b (xs++zs) hv a0b ?_);rw[z02 rfl];exact a0r (Paired.imp' (λ _ _ z=>i2 z) pl) (Paired.imp' (λ _ _ z=>i2 z) pz)
 ·rw[z01 e];rcases h.at_ n with z | ⟨b',lv,z,hlv,pl⟩
  ·exact .inl z
  ·refine .inr (nx0 b' lv z ?_ (Paired.imp' (λ _ _ z=>i2 z) pl));rw[a0g λ y=>e (h.inj n n0 b (by rw[<-y];exact z) hv)];exact hlv
theorem d2s {κ:Type} [DecidableEq κ] {kvs:List (κ×V)} {k:κ} (h:k ∉ kvs.map (·.1)):a1r kvs k=none:=by
 unfold a1r;rw[z64,z4f];intro kv hkv z;exact h (z0d.mpr ⟨kv,hkv,z0h z⟩)
theorem c8c {ms:List Mkr} {k:Int} (hk:k ∉ ms.map (·.1)) (ch:List Int) (k':Int):chF (ms++[(k,ch)]) k'=if k'=k then ch else chF ms k':=by
 unfold chF ixM;rw[z0z];by_cases h:k'∈ms.map (·.1)
 ·rw[z01 (λ (z:k'=k)=>hk (z ▸ h)),z6q,z02 h,z4a (show List.idxOf k' (ms.map (·.1)) < ms.length from c3e h)]
 ·rw[z6q,z01 h,z04,z2u (Nat.le_add_left _ _)];by_cases e:k'=k
  ·subst e;rw[z02 rfl];simp
  ·have:ms[List.idxOf k' (ms.map (·.1))]?=none:=z2m (by rw[z4g h,z04];exact z05 _);rw[z01 e,this,z2m];have:List.idxOf k' [k]=1:=by rw[List.idxOf_cons,show (k == k')=false from z3q.mpr λ z=>e z.symm];rfl
   show 1<=List.idxOf k' [k]+ms.length - ms.length;lia
theorem d6d {k m k' m':Int} (h:kP k m=kP k' m'):k=k'/\m=m':=by
 unfold kP at h;injection h with h1 h2;injection h2 with h2 _;exact⟨z2o h1,z2o h2⟩
def plI (p:Ps) (i:Nat) (mm:Mkr) (j:Nat) (k m:Int):Option Int:=if k=mm.1 then (if m∈mm.2.take j then some ((mm.2.idxOf m:Nat)+1) else none) else plO (p.1,p.2.take i) k m
theorem d0i {p:Ps} (gh:GH p) {i:Nat} {mm:Mkr} (ed:p.2[i]?=some mm):mm.1 ∉ (p.2.take i).map (·.1):=λ z=>by
 obtain⟨x,hx,e⟩:=z0d.mp z;obtain⟨j,hj⟩:=z1v.mp hx;rw[z63] at hj;have nd:(p.2.map (·.1)).Nodup:=z1u (λ z=>by lia) gh.keys;split at hj
 ·next jl =>
  have e1:(p.2.map (·.1))[j]?=some mm.1:=by rw[z09,hj];exact z0b some e
  have e2:(p.2.map (·.1))[i]?=some mm.1:=by rw[z09,ed];rfl
  have:=(z2j (z0l.mp e1).1 nd).mp (e1.trans e2.symm);lia
 ·cases hj
theorem d2a {p:Ps} (gh:GH p) {i:Nat} {mm:Mkr} (ed:p.2[i]?=some mm) (k m:Int):plI p i mm 0 k m=plO (p.1,p.2.take i) k m:=by
 unfold plI;split
 ·next e =>
  have:chF (p.2.take i) k=[]:=a2x (by rw[e];exact d0i gh ed);unfold plO;rw[z01 (by simp),z01 (by show m ∉ chF (p.2.take i) k;rw[this];simp)]
 ·rfl
theorem d2p {p:Ps} (gh:GH p) {i:Nat} {mm:Mkr} (ed:p.2[i]?=some mm) (k m:Int):plI p i mm mm.2.length k m=plO (p.1,p.2.take (i+1)) k m:=by
 have tk:p.2.take (i+1)=p.2.take i++[(mm.1,mm.2)]:=by rw[z0v,ed];rfl
 unfold plI plO;show _=if m∈chF (p.2.take (i+1)) k then some ((((chF (p.2.take (i+1)) k).idxOf m:Nat):Int)+1) else none
 rw[tk,c8c (d0i gh ed),z0x];split
 ·rfl
 ·rfl
theorem d3s {p:Ps} {i:Nat} {mm:Mkr} (nd:mm.2.Nodup) {j:Nat} {x:Int} (ex:mm.2[j]?=some x) (k m:Int):plI p i mm (j+1) k m=if kP k m=kP mm.1 x then some ((j:Int)+1) else plI p i mm j k m:=by
 have jl:=(z0l.mp ex).1;have xi:mm.2.idxOf x=j:=by
  have hl:=z4e.mpr (z0c ex);have h1:mm.2[mm.2.idxOf x]?=some x:=by rw[z0o hl];exact z0b some (z40 hl)
  exact(z2j hl nd).mp (h1.trans ex.symm)
 unfold plI;by_cases e:k=mm.1
 ·subst e;rw[z02 rfl,z02 rfl,z0v,ex];by_cases e2:m=x
  ·subst e2;rw[z02 rfl,z02 (by simp),xi]
  ·rw[z01 (λ z=>e2 (d6d z).2)];have:(m∈mm.2.take j++(some x).toList) ↔ m∈mm.2.take j:=by simp[e2]
   by_cases h:m∈mm.2.take j
   ·rw[z02 (this.mpr h),z02 h]
   ·rw[z01 (λ z=>h (this.mp z)),z01 h]
 ·rw[z01 e,z01 e,z01 (λ z=>e (d6d z).1)]
theorem c4v {H:Hp}:∀ {pv:List V} {lk:Lk},Trs H pv (lk.map b0a)->Paired (I2V H) pv lk
 | _,[],.nil=>.nil
 | _,_::_,.cons h t=>.cons (let ⟨a,e,x⟩:=d0f h;⟨a,e,x⟩) (c4v t)
theorem b8g {w:Option Str} {p:Ps} (gh:GH p) {d:Dl} (hd:d∈p.1):∀ (j:Nat) (pl:Int),(c5v w d j pl).length<=3*j
 | 0,_=>z05 _
 | j+1,pl=>by
  have ih:=b8g (w:=w) gh hd j pl;unfold c5v at ih ⊢;rw[z28,z2l,List.flatten_append,z0j];have:([j].filterMap (λ (i:Nat)=>if a3y (lvD w d) (i:Int)=some pl then d.2.2[i]? else none)).flatten.length<=3:=by
   rw[z1o];split
   ·exact z0m _
   ·next x e =>
    split at e
    ·show (x++[]).length<=3;rw[z19];exact(gh.lks d hd x (z0c e)).1
    ·cases e
  lia
theorem c4a (T:Tx K mg):T.b7q.Ok P w base 1 d9s:=by
 refine okF T.b7q.F d3q λ _ _ _ _ _ _ _ _ hr h=>?_
 ·obtain⟨x,k,rfl,hx,q⟩:=h;have hu:=a2z hr;refine⟨_,(a0e (a2b (a0j a4f (pv 0) a1s (a0n _))
   (a0f (a0k a3p))
   a0u)
   (a0e (a2b (a0j a4f (pv 0) a1s (a0n _))
   (a0f (a0k (pv 1)))
   a0u)
   (a0f (a0k a0c)))),?_⟩
  show let z0:TS:=_;let z1:TS:=a1h (a5p _ _ _) z0;a1h (a5p _ _ _) z1 _ _ _
  intros;unfold wds at hx;simp only [z0a,z2a,z2c] at hx;have ll:=c9f;refine nx6 _ rfl rfl _ rfl (a4n (λ e=>?_) (λ e=>?_))
  ·have e1:x="loose":=V.str.inj (z0h e);subst e1;rw[ll.1] at q;exact q
  ·have e1:¬ x="loose":=λ z=>e (z08 (z0b V.str z))
   refine nx6 _ rfl rfl _ rfl (a4n (λ e=>?_) (λ e=>?_))
   ·have e2:x="kept":=V.str.inj (z0h e);subst e2;rw[ll.2.1] at q;exact⟨_,rfl,q⟩
   ·have e2:¬ x="kept":=λ z=>e (z08 (z0b V.str z))
    rcases hx with rfl | rfl | rfl | rfl | rfl
    ·exact absurd rfl e1
    ·exact absurd rfl e2
    ·rw[ll.2.2.1] at q;exact q
    ·rw[ll.2.2.2.1] at q;exact q
    ·rw[ll.2.2.2.2] at q;exact q
theorem c7j (T:Tx K mg):T.b7b.Ok P w base 1 d2m:=by
 refine okF T.b7b.F c9c λ _ _ _ _ _ _ _ _ hr h=>?_
 ·obtain⟨x,L,lv,rfl,hL,hx,q⟩:=h;have hu:=a2z hr;refine⟨_,(a0e (a2b (a0j a4f (pv 0) a1s (a0n _))
   (a0f (a0k (a0q a1f (by rfl) T.a3o z1a (a0a (pv 1) a0d))))
   a0u)
   (a0f (a0k a0c))),?_⟩
  show let z0:TS:=_;a1h (a5p _ _ _) z0 _ _ _
  intros;unfold wds at hx;simp only [z0a,z2a,z2c] at hx;have ll:=c9f;refine nx6 _ rfl rfl _ rfl (a4n (λ e=>?_) (λ e=>?_))
  ·have e2:x="kept":=V.str.inj (z0h e);subst e2;rw[ll.2.1] at q;exact nx7 _ rfl _ _ rfl (.inl ⟨_,SqL.of hL,rfl⟩) q
  ·have e2:¬ x="kept":=λ z=>e (z08 (z0b V.str z))
   rcases hx with rfl | rfl | rfl | rfl | rfl
   ·rw[ll.1] at q;exact q
   ·exact absurd rfl e2
   ·rw[ll.2.2.1] at q;exact q
   ·rw[ll.2.2.2.1] at q;exact q
   ·rw[ll.2.2.2.2] at q;exact q
theorem c6r (T:Tx K mg):T.b6z.Ok P w base 2 d7r:=by
 refine okF T.b6z.F a1t λ _ A _ s H _ _ _ hr h=>?_
 ·obtain⟨v,p,wo,rfl,tr,gh,hw,q⟩:=h;have hu:=a2z hr;refine⟨_,(a0e (psx 2 a1t.nd a9i)
   (a0e (psx 3 a1t.nd a9i)
   (a0e (psx 4 a1t.nd c3k)
   (a0e (a1w z18 rfl (a1a (pix a0t (pv 0) a0c)) (a5n rfl (a0o (pgm 5 a1t.nd) (a0o (pgm 6 a1t.nd) (a0o (pgm 7 a1t.nd) a3d))))
   (a0e (psx 8 a1t.nd (pv 6))
   (b0d (a2b (a0j a8n (pv 1) a3p (a0n _))
   (a0f (psx 8 a1t.nd (pv 1)))
   a0u)
   (a0e (b5x hu (pv 2) (pv 5) (pcF T.c0y (d2e T) hr (a0a (pv 8) (a0a (pv 7) a0d))) rfl)
   (a0e (b5x hu (pv 3) (pv 5) (pcF T.b7b (c7j T) hr (a0a (pv 8) (a0a (pv 7) a0d))) rfl)
   (a0f (a1w z18 rfl (a2m rfl T.a3f (a0a (a0q a1f (by rfl) T.a3o z1a (a0a (pv 7) a0d)) a0d)) (pgm 9 a1t.nd)
   (a0f (a2b (a0j a8n (pcF T.b7q (c4a T) hr (a0a (pv 8) (a0a (pv 9) a0d))) a3p (a0n _))
   (a0f (a1u (a4q z1h z31 z2z a2n (d4q (u8 hr.units) (pv 4) (a1j (a0a (pv 5) (a0a (pcF T.b7q (c4a T) hr (a0a (pv 8) (a0a (pv 9) a0d))) a0d))) (a1d a0d) ⟨rfl,rfl,rfl,rfl⟩) (a0a (pix a0l (pv 7) (pv 9)) a0d))))
   a0u)))))))))
   (a0e (psx 10 a1t.nd c3k)
   (a0e (a1w z18 rfl (a1a (pix a0t (pv 0) a0c)) (a5n rfl (a0o (pgm 11 a1t.nd) (a0o (pgm 12 a1t.nd) a3d)))
   (a0f (a1w z18 rfl (a2m rfl T.a3f (a0a (a0q a1f (by rfl) T.a3o z1a (a0a (pv 12) a0d)) a0d)) (pgm 13 a1t.nd)
   (a0f (b5x hu (pv 10) (a1j (a0a (pv 11) (a0a (pix a0l (pv 12) (pv 13)) a0d))) (a0p a3v (pv 13) a0c) rfl)))))
   (a0f (a0k (a1d (a0a (pv 2) (a0a (pv 3) (a0a (pv 4) (a0a (pv 10) a0d))))))))))))),?_⟩
  show let z0:TS:=_;let z1:TS:=a1h (b0o _ _ (b0o _ _ _)) z0;let z2:TS:=a1h _ z1;let z3:TS:=b0o _ _ (a5p _ _ _);let z4:TS:=a1h _ z3;let z5:TS:=a1h _ z4;let z6:TS:=d8b (a5p _ _ _) z5;let z7:TS:=a1h _ z6;let z8:TS:=a1h (b0o _ _ z7) z2;let z9:TS:=a1h _ z8;let z10:TS:=a1h _ z9;a1h _ z10 _ _ _
  intros;have sz:sizeLine=2 ^ 24:=rfl;have kl:=gh.klen;obtain⟨a,l,m,lv,mv,rfl,ha,hl,tl,hm,tm⟩:=a3r tr;intro c hc f hf s hs;have sc1:=Same.upd (o:=HO.dK []) hc;have sc2:=Same.upd (o:=HO.dK []) hf;have sc3:=Same.upd (o:=HO.dT []) hs;have S1:=sc1.trans (sc2.trans sc3);have hc1:upd (upd (upd H c (.dK [])) f (.dK [])) s (.dT []) c=some (.dK []):=sc3 _ _ (sc2 _ _ a0b);have hf1:upd (upd (upd H c (.dK [])) f (.dK [])) s (.dT []) f=some (.dK []):=sc3 _ _ a0b;have hs1:upd (upd (upd H c (.dK [])) f (.dK [])) s (.dT []) s=some (.dT []):=a0b;have ncf:c≠f:=λ z=>by rw[<-z,a0b] at hf;cases hf
  have hcH:H c=none:=hc;have hfH:H f=none:=sc1.free hf;have hsH:H s=none:=(sc1.trans sc2).free hs;generalize upd (upd (upd H c (.dK [])) f (.dK [])) s (.dT [])=H1 at S1 hc1 hf1 hs1;refine nx16 _ rfl a _ _ _ rfl rfl (SqT.of (S1 _ _ ha)) rfl l rfl ⟨_,SqL.of (S1 _ _ hl)⟩ (a2a (K:=K) (a:=l) (xs:=lv) (λ i σ H3=>∃ (x5 x6 x7 x8 x9:Option V) (kc kf:List (Key×V)) (ks:List (List Key×V)),σ=[some (.ref a),some (wV wo),some (.ref c),some (.ref f),some (.ref s),x5,x6,x7,x8,x9,none,none,none,none]/\Same H H3/\H3 c=some (.dK kc)/\H3 f=some (.dK kf)/\kc.map (·.1)=(p.1.take i).map (λ d=>(Sum.inl d.1:Key))/\(∀ d∈p.1.take i,a1r kc (.inl d.1)=some (.int (a1e (lvD wo d) (d.2.2.length:Int))))/\(∀ d∈p.1.take i,a1r kf (.inl d.1)=some (.int (a2t (lvD wo d) (d.2.2.length:Int))))/\kf.length<=i/\SnI H H3 s ks (a4x wo (p.1.take i,p.2))/\ks.length<=40*i) (⟨none,nx19 none none none none ([]) ([]) ([]) rfl S1 hc1 hf1 rfl (λ d hd=>by cases hd) ⟨(λ d hd=>by cases hd),z05 _,⟨hs1,λ n=>.inl ⟨rfl,rfl⟩,(λ n b e=>by cases e),λ n n' b e=>by cases e⟩,z05 _⟩⟩) (λ i σ H3 _ ⟨_,_,_,_,_,_,_,_,_,s3,_⟩=>SqL.of (s3 _ _ hl)) ?_ ?_)
  ·rintro i y σ H3 hy ⟨x5,x6,x7,x8,x9,kc,kf,ks,rfl,s3,hc3,hf3,ekc,vkc,vkf,lkf,sn,lks⟩;obtain⟨dd,edd,trd⟩:=tl.get hy;rw[z09] at edd;obtain⟨d,ed,rfl⟩:=z1z.mp edd;have hd:=z0c ed;have hi8:i < 8:=by have:=(z0l.mp ed).1;have:=gh.gp.1;lia
   have d40:=(gh.gp.2.2 d hd).2;obtain⟨pd,L,lkv,rfl,hpd,hL,tL⟩:=a6j trd;have llk:lkv.length=d.2.2.length:=by rw[tL.len,z04]
   refine nx15 pd _ rfl (SqT.of (s3 _ _ hpd)) rfl _ (nx11 _ rfl _ (nx33 _ rfl _ _ rfl rfl _ ⟨rfl,?_⟩));refine⟨λ σ H4=>σ=[some (.ref a),some (wV wo),some (.ref c),some (.ref f),some (.ref s),some (.int d.1),some (.str d.2.1),some (.ref L),some (.str (wo.getD d.2.1)),x9,none,none,none,none]/\H4=H3,?_,?_⟩
   ·cases wo with
    | none=>exact nx6 _ rfl rfl _ rfl (a7o (A:=_) ⟨rfl,rfl⟩)
    | some x=>exact nx6 _ rfl rfl _ rfl (b4g (B:=_) ⟨_,rfl,rfl,rfl⟩)
   rintro σ H4 ⟨rfl,rfl⟩;have xin:wo.getD d.2.1∈wds:=by
    cases wo with
    | none=>exact(gh.gp.2.2 d hd).1
    | some x=>exact hw x rfl
   have em:b6u (wo.getD d.2.1) lkv.length=a1e (lvD wo d) (d.2.2.length:Int):=by rw[llk];exact c4z xin _
   have nk:a1r kc (.inl d.1)=none:=d2s (by
    rw[ekc];intro z;obtain⟨x,hx,e⟩:=z0d.mp z;exact b6a gh ed x hx (z2o e))
   have lkc:kc.length<=i:=by
    have:=z0b List.length ekc;rw[z04,z04,z16] at this;lia
   refine nx3 _ rfl _ rfl (nx21 _ L lkv rfl (s3 _ _ hL) (nx3 _ rfl _ rfl (nx0 c _ rfl (d1m.k (k:=.inl d.1) hc3 (by lia)) ?_)));rw[em];have sn4:=sn.but (kk':=a3t kc (.inl d.1) (.int (a1e (lvD wo d) (d.2.2.length:Int)))) hc3;have hc4:=a0b (H:=H4) (a:=c) (o:=HO.dK (a3t kc (.inl d.1) (.int (a1e (lvD wo d) (d.2.2.length:Int)))));have hf4:upd H4 c (.dK (a3t kc (.inl d.1) (.int (a1e (lvD wo d) (d.2.2.length:Int))))) f=some (.dK kf):=by rw[a0g ncf.symm];exact hf3
   have s4:Same H (upd H4 c (.dK (a3t kc (.inl d.1) (.int (a1e (lvD wo d) (d.2.2.length:Int)))))):=λ b o eb=>by
    rw[a0g (show b≠c from λ z=>by rw[z,hcH] at eb;cases eb)];exact s3 _ _ eb
   generalize upd H4 c (.dK (a3t kc (.inl d.1) (.int (a1e (lvD wo d) (d.2.2.length:Int)))))=H5 at sn4 hc4 hf4 s4;refine nx22 _ rfl _ rfl _ (nx15 L lkv rfl (s4 _ _ hL) xin _ ⟨rfl,nx7 _ rfl f _ rfl (d1m.k (k:=.inl d.1) hf4 (by lia)) ?_⟩);have ef:a2t (lvS (wo.getD d.2.1)) (lkv.length:Int)=a2t (lvD wo d) (d.2.2.length:Int):=by rw[llk];rfl
   rw[ef];have sn5:=sn4.but (kk':=a3t kf (.inl d.1) (.int (a2t (lvD wo d) (d.2.2.length:Int)))) hf4;have hf5:=a0b (H:=H5) (a:=f) (o:=HO.dK (a3t kf (.inl d.1) (.int (a2t (lvD wo d) (d.2.2.length:Int)))));have hc5:upd H5 f (.dK (a3t kf (.inl d.1) (.int (a2t (lvD wo d) (d.2.2.length:Int))))) c=some (.dK (a3t kc (.inl d.1) (.int (a1e (lvD wo d) (d.2.2.length:Int))))):=by rw[a0g ncf];exact hc4
   have s5:Same H (upd H5 f (.dK (a3t kf (.inl d.1) (.int (a2t (lvD wo d) (d.2.2.length:Int)))))):=λ b o eb=>by
    rw[a0g (show b≠f from λ z=>by rw[z,hfH] at eb;cases eb)];exact s4 _ _ eb
   generalize upd H5 f (.dK (a3t kf (.inl d.1) (.int (a2t (lvD wo d) (d.2.2.length:Int)))))=H6 at sn5 hf5 hc5 s5;generalize hkc':a3t kc (.inl d.1) (.int (a1e (lvD wo d) (d.2.2.length:Int)))=kc' at hc5;generalize hkf':a3t kf (.inl d.1) (.int (a2t (lvD wo d) (d.2.2.length:Int)))=kf' at hf5;refine nx33 _ rfl _ _ rfl (.inl ⟨_,SqL.of (s5 _ _ hL),rfl⟩) _ ⟨rfl,(by lia),(by lia),a4c (λ j σ H7=>∃ (x9:Option V) (ks:List (List Key×V)),σ=[some (.ref a),some (wV wo),some (.ref c),some (.ref f),some (.ref s),some (.int d.1),some (.str d.2.1),some (.ref L),some (.str (wo.getD d.2.1)),x9,none,none,none,none]/\Same H H7/\H7 c=some (.dK kc')/\H7 f=some (.dK kf')/\SnI H H7 s ks (gI wo p i d j)/\ks.length<=40*i+j) (nx27 x9 ks rfl s5 hc5 hf5 (by rw[d7b gh ed];exact sn5) lks) ?_ ?_⟩
   ·rintro j σ H7 hj ⟨x9,ks,rfl,s7,hc7,hf7,sn7,lks7⟩;have hj':j < d.2.2.length:=by rw[<-llk];lia
    obtain⟨lk,elk⟩:∃ lk,d.2.2[j]?=some lk:=⟨_,z0o hj'⟩;have l3:=(gh.lks d hd lk (z0c elk)).1;obtain⟨lav,elav,tlk⟩:=tL.at (i:=j) (d:=a3x lk) (by rw[z09,elk];rfl);obtain⟨la,pv,rfl,hla,tpv⟩:=c0u tlk;have ppv:=c4v tpv;have lpv:pv.length<=3:=by rw[a1c ppv];exact l3
    have hat:atI lkv ((0:Int)+(j:Int))=some (.ref la):=by rw[z38];exact a0m elav
    refine nx3 _ rfl _ rfl (nx15 _ _ rfl xin rfl _ ⟨rfl,?_⟩);have eL:a3y (lvS (wo.getD d.2.1)) ((0:Int)+(j:Int))=a3y (lvD wo d) (j:Int):=by rw[z38];rfl
    rw[eL];cases epl:a3y (lvD wo d) (j:Int) with
    | none=>exact a7o (nx27 _ ks rfl s7 hc7 hf7 (by rw[d6r epl];exact sn7) (by lia))
    | some pl =>
    refine b4g ?_;refine nx3 _ rfl s rfl ⟨.inr ⟨_,.inl sn7.d⟩,nx3 _ rfl _ rfl (nx7 _ rfl _ _ rfl xin ⟨(by show 2<=sizeLine;decide),λ t ht=>?_⟩)⟩;have ev:e0c (a3y (lvS (wo.getD d.2.1)) ((0:Int)+(j:Int)))=V.int pl:=by rw[eL,epl];rfl
    rw[ev];have st:=Same.upd (o:=HO.tup [.int d.1,.int pl]) ht;refine⟨(by show 0<=sizeLine;decide),λ nl hnl=>?_⟩;have snl:=Same.upd (o:=HO.lst []) hnl;have S7:=s7.trans (st.trans snl);have ht2:upd (upd H7 t (.tup [.int d.1,.int pl])) nl (.lst []) t=some (.tup ((kN (d.1,pl)).map kV)):=snl _ _ a0b;have sn8:=(sn7.same st).same snl;have c8:=snl _ _ (st _ _ hc7);have f8:=snl _ _ (st _ _ hf7);have hnl8:=a0b (H:=upd H7 t (.tup [.int d.1,.int pl])) (a:=nl) (o:=HO.lst []);have hnlH:H nl=none:=(s7.trans st).free hnl;have unl:∀ n,a1r ks (kN n)≠some (.ref nl):=λ n z=>by
     rcases(sn7.same st).at_ n with ⟨y,_⟩ | ⟨b',lv',y,hb',_⟩
     ·rw[y] at z;cases z
     ·rw[y] at z;cases z;rw[hnl] at hb';cases hb'
    generalize upd (upd H7 t (.tup [.int d.1,.int pl])) nl (.lst [])=H8 at S7 ht2 sn8 c8 f8 hnl8;refine nx17 ks (kN (d.1,pl)) t sn8.d rfl ht2 (by lia) ⟨λ v hv=>?_,λ hv=>?_⟩
    ·rcases sn8.at_ (d.1,pl) with ⟨z,_⟩ | ⟨bb,xs8,hv8,hb8,px8⟩
     ·rw[hv] at z;cases z
     rw[hv] at hv8;cases hv8;have hnb:=sn8.new _ _ hv;have lx:xs8.length<=120:=by
      rw[a1c px8];unfold gI;rw[z02 rfl];have h9:=b8g (w:=wo) gh hd j pl;show (c5v wo d j pl).length<=120;lia
     refine ⟨Or.inl ⟨rfl,_,SqL.of hb8⟩,nx18 _ rfl _ rfl L lkv _ _ rfl rfl (SqL.of (S7 _ _ hL)) hat (nx14 bb la xs8 pv rfl rfl hb8 (S7 _ _ hla) (by lia) ?_)⟩;have se:=sn8.ext hv hb8 (Paired.imp' (λ _ _ z=>c2n S7 z) ppv);have nbc:∀ x u,H8 x=some (.dK u)->x≠bb:=λ x u e z=>by rw[z,hb8] at e;cases e
     refine nx27 _ ks rfl (λ x o eb=>?_) ?_ ?_ ?_ ?_
     ·rw[a0g (show x≠bb from λ z=>by rw[z,hnb] at eb;cases eb)];exact S7 _ _ eb
     ·rw[a0g (nbc _ _ c8)];exact c8
     ·rw[a0g (nbc _ _ f8)];exact f8
     ·rw[c6s epl elk];exact se
     ·lia
    ·have s9:∀ x o,H8 x=some o->(∀ u,o≠.dT u)->upd H8 s (.dT (a3t ks (kN (d.1,pl)) (.ref nl))) x=some o:=λ x o e n=>by
      rw[a0g λ z=>by rw[z,sn8.d] at e;exact n _ (z0r e).symm];exact e
     have sn9:=sn8.put hv hnl8 hnlH unl;have c9:=s9 _ _ c8 (λ _ z=>by cases z);have f9:=s9 _ _ f8 (λ _ z=>by cases z);have nl9:=s9 _ _ hnl8 (λ _ z=>by cases z);have S9:Same H (upd H8 s (.dT (a3t ks (kN (d.1,pl)) (.ref nl)))):=λ b o eb=>by
      rw[a0g (show b≠s from λ z=>by rw[z,hsH] at eb;cases eb)];exact S7 _ _ eb
     have hv9:a1r (a3t ks (kN (d.1,pl)) (.ref nl)) (kN (d.1,pl))=some (.ref nl):=by rw[a7m,z02 rfl]
     have lk9:=a2c ks (kN (d.1,pl)) (.ref nl);generalize upd H8 s (.dT (a3t ks (kN (d.1,pl)) (.ref nl)))=H9 at sn9 c9 f9 nl9 S9;generalize a3t ks (kN (d.1,pl)) (.ref nl)=ks9 at sn9 hv9 lk9;refine ⟨Or.inl ⟨rfl,_,SqL.of nl9⟩,nx18 _ rfl _ rfl L lkv _ _ rfl rfl (SqL.of (S9 _ _ hL)) hat (nx14 nl la ([]) pv rfl rfl nl9 (S9 _ _ hla) (by show 0+pv.length<=sizeLine;lia) ?_)⟩;have se:=sn9.ext hv9 nl9 (Paired.imp' (λ _ _ z=>c2n S9 z) ppv);have nbc:∀ x u,H9 x=some (.dK u)->x≠nl:=λ x u e z=>by rw[z,nl9] at e;cases e
     refine nx27 _ ks9 rfl (λ x o eb=>?_) ?_ ?_ ?_ ?_
     ·rw[a0g (show x≠nl from λ z=>by rw[z,hnlH] at eb;cases eb)];exact S9 _ _ eb
     ·rw[a0g (nbc _ _ c9)];exact c9
     ·rw[a0g (nbc _ _ f9)];exact f9
     ·rw[c6s epl elk];exact se
     ·lia
   ·rintro σ H7 ⟨x9,ks,rfl,s7,hc7,hf7,sn7,lks7⟩;rw[llk,z25] at lks7;rw[llk,z25,d8w gh ed] at sn7;have tk:p.1.take (i+1)=p.1.take i++[d]:=by rw[z0v,ed];rfl
    refine ⟨_,nx19 _ _ _ _ kc' kf' ks rfl s7 hc7 hf7 ?_ (λ x hx=>?_) ⟨λ x hx=>?_,?_,sn7,(by lia)⟩⟩
    ·rw[<-hkc',c2s nk,z0z,ekc,tk,z0z];rfl
    ·rw[<-hkc',a7m];rw[tk] at hx;rcases z0f.mp hx with z | z
     ·rw[z01 (λ y=>b6a gh ed x z (z2o y))];exact vkc x z
     ·rw[z0i.mp z,z02 rfl]
    ·rw[<-hkf',a7m];rw[tk] at hx;rcases z0f.mp hx with z | z
     ·rw[z01 (λ y=>b6a gh ed x z (z2o y))];exact vkf x z
     ·rw[z0i.mp z,z02 rfl]
    ·rw[<-hkf'];have:=a2c kf (.inl d.1) (.int (a2t (lvD wo d) (d.2.2.length:Int)));lia
  ·rintro σ H3 ⟨x5,x6,x7,x8,x9,kc,kf,ks,rfl,s3,hc3,hf3,ekc,vkc,vkf,lkf,sn,lks⟩;have lvl:lv.length=p.1.length:=by rw[tl.len,z04]
   rw[lvl,z0x] at ekc vkc vkf sn;intro pq hpq;have sp:=Same.upd (o:=HO.dT []) hpq;have hpq0:=a0b (H:=H3) (a:=pq) (o:=HO.dT []);generalize upd H3 pq (.dT [])=H4 at sp hpq0;have S4:=s3.trans sp;refine nx16 _ rfl a _ _ _ rfl rfl (SqT.of (S4 _ _ ha)) rfl m rfl ⟨_,SqL.of (S4 _ _ hm)⟩ (a2a (K:=K) (a:=m) (xs:=mv) (λ i σ H5=>∃ (x11 x12 x13:Option V) (kq:List (List Key×V)),σ=[some (.ref a),some (wV wo),some (.ref c),some (.ref f),some (.ref s),x5,x6,x7,x8,x9,some (.ref pq),x11,x12,x13]/\Same H3 H5/\H5 pq=some (.dT kq)/\kq.length<=8*i/\∀ k mk,a1r kq (kP k mk)=(plO (p.1,p.2.take i) k mk).map V.int) (nx1 none none none ([]) rfl sp hpq0 (z05 _) λ k mk=>rfl) (λ i σ H5 _ ⟨_,_,_,_,_,s5,_⟩=>SqL.of (s5 _ _ (s3 _ _ hm))) ?_ ?_)
   ·rintro i y σ H5 hy ⟨x11,x12,x13,kq,rfl,s5,hq5,lkq,vkq⟩;obtain⟨dd,edd,trd⟩:=tm.get hy;rw[z09] at edd;obtain⟨mm,ed,rfl⟩:=z1z.mp edd;have hmm:=z0c ed;have hi30:i < 30:=by have:=(z0l.mp ed).1;lia
    have S5:=s3.trans s5;obtain⟨t,cc,rfl,ht,hcc⟩:=a9q trd;have l8:mm.2.length<=8:=by rw[<-c3f gh hmm];exact gh.few _
    refine nx15 t _ rfl (SqT.of (S5 _ _ ht)) rfl _ (nx7 _ rfl _ _ rfl rfl ?_);refine nx33 _ rfl _ _ rfl (.inl ⟨_,SqL.of (S5 _ _ hcc),rfl⟩) _ ⟨rfl,(by rw[z04];lia),(by rw[z04];lia),a4c (λ j σ H6=>∃ (x13:Option V) (kq:List (List Key×V)),σ=[some (.ref a),some (wV wo),some (.ref c),some (.ref f),some (.ref s),x5,x6,x7,x8,x9,some (.ref pq),some (.int mm.1),some (.ref cc),x13]/\Same H3 H6/\H6 pq=some (.dT kq)/\kq.length<=8*i+j/\∀ k mk,a1r kq (kP k mk)=(plI p i mm j k mk).map V.int) (nx12 x13 kq rfl s5 hq5 lkq λ k mk=>by rw[vkq,d2a gh ed]) ?_ ?_⟩
    ·rintro j σ H6 hj ⟨x13,kq,rfl,s6,hq6,lkq,vkq⟩;have hj':j < mm.2.length:=by rw[z04] at hj;lia
     obtain⟨x,ex⟩:∃ x,mm.2[j]?=some x:=⟨_,z0o hj'⟩;have S6:=s3.trans s6;have hat:atI (mm.2.map V.int) ((0:Int)+(j:Int))=some (.int x):=by rw[z38];exact a0m (by rw[z09,ex];rfl)
     refine nx7 _ rfl _ _ rfl rfl (nx3 _ rfl _ rfl (nx18 _ rfl _ rfl cc _ _ _ rfl rfl (SqL.of (S6 _ _ hcc)) hat ⟨(by show 2<=sizeLine;decide),λ t2 ht2=>?_⟩));have st2:=Same.upd (o:=HO.tup [.int mm.1,.int x]) ht2;refine nx0 pq _ rfl (d1m.t (k:=kP mm.1 x) (st2 _ _ hq6) a0b (by lia)) (nx12 _ _ rfl (λ b o eb=>?_) a0b ?_ λ k mk=>?_)
     ·rw[a0g (show b≠pq from λ z=>by rw[z,hpq] at eb;cases eb)];exact st2 _ _ (s6 _ _ eb)
     ·have:=a2c kq (kP mm.1 x) (.int ((0:Int)+(j:Int)+1));exact z0s this (by lia)
     ·rw[a7m,d3s (gh.chn mm hmm).1 ex,vkq];by_cases e:kP k mk=kP mm.1 x
      ·rw[z02 e,z02 e];show some (V.int ((0:Int)+(j:Int)+1))=some (V.int ((j:Int)+1));rw[z38]
      ·rw[z01 e,z01 e]
    ·rintro σ H6 ⟨x13,kq,rfl,s6,hq6,lkq,vkq⟩;rw[z04,z25] at lkq vkq;exact nx1 _ _ _ kq rfl s6 hq6 (by lia) λ k mk=>by rw[vkq,d2p gh ed]
   ·rintro σ H5 ⟨x11,x12,x13,kq,rfl,s5,hq5,lkq,vkq⟩;have mvl:mv.length=p.2.length:=by rw[tm.len,z04]
    rw[mvl,z0x] at vkq;refine nx3 _ rfl _ rfl (nx3 _ rfl _ rfl ⟨(by show 4<=sizeLine;decide),λ r hr=>?_⟩);have sr:=Same.upd (o:=HO.lst [.ref c,.ref f,.ref s,.ref pq]) hr;have S6:=s5.trans sr;exact q (.ref r) _ (s3.trans S6) (nx31 r c f s pq kc (nx34 kf ks kq rfl ⟨a0b,.inl (S6 _ _ hc3),.inl (S6 _ _ hf3),S6 _ _ sn.d,sr _ _ hq5,ekc,vkc,vkf,(sn.same S6).at_,vkq⟩))
theorem d7w (T:Tx K mg):T.c9b.Ok P w base 1 (c9j d2t):=by
 refine okF T.c9b.F b6w λ _ _ _ s H _ Q _ hr h=>?_
 ·obtain⟨sv,av,bv,a,b,k,p,wo,rfl,sc,gh,ha,hb,na,nb,q⟩:=h;have hu:=a2z hr;refine⟨_,(a0e (psx 4 b6w.nd (b1z hu (pix a0l (pv 0) a0c) (a1j (a0a (pv 3) (a0a (pix a0t (pv 1) a0c) a0d))) ⟨rfl,rfl,rfl,rfl⟩))
   (a0e (a2b (PW.pt (b8w (a0j c3j (pv 4) a3p (a0n _)) (b4o (a0j b4i (pix a0t (pv 1) a0c) (a0p a6c (a2o hu (pix a0l (pv 0) a0c) (pix a0t (pv 1) a0c) (λ _ _=>rfl)) a0c) (a0n _)))))
   (a0f (a0k a7z))
   a0u)
   (a0e (a1w z18 rfl (a1a (a7n hu (pix a0l (pv 0) a0c) (pv 2) (a1d a0d) ⟨rfl,rfl,rfl,rfl⟩)) (a5n rfl (a0o (pgm 5 b6w.nd) (a0o (pgm 6 b6w.nd) a3d)))
   (a0f (a2b (PW.pt (a5g (a0j a4f (pv 5) (pv 3) (a0n _)) (a5g (a0j e3p (pv 6) a0c (a0n _)) (a5b (a0j e4h (pv 4) (a2o hu (pix a0l (pv 0) a0c) (a1j (a0a (pv 3) (a0a (pv 6) a0d))) (λ _ _=>rfl)) (a0n _))))))
   (a0f (a0k a7z))
   a0u)))
   (a0f (a0k a7z))))),?_⟩
  show let z0:TS:=_;let z1:TS:=a1h (b0o _ _ (a5p _ _ _)) z0;let z2:TS:=a1h (a5p _ _ _) z1;a1h _ z2 _ _ _
  intros;obtain⟨sa,c,f,s,qd,kc,kf,ks,kq,rfl,sc⟩:=sc;obtain⟨pa,rfl,hpa⟩:=ha;obtain⟨pb,rfl,hpb⟩:=hb;obtain⟨da,hda,ea,_⟩:=a3g.mp na;refine nx16 _ rfl sa _ _ _ rfl rfl (SqL.of sc.l) (a0m (j:=3) rfl) qd rfl (.inr ⟨_,.inl sc.q⟩) (nx18 _ rfl _ rfl pa _ _ _ rfl rfl (SqT.of hpa) (a0m (j:=0) rfl) ⟨(by show 2<=sizeLine;decide),λ t ht=>?_⟩);have st:=Same.upd (o:=HO.tup [.int k,.int a.1]) ht;refine⟨a1r kq (kP k a.1),.inr (nx4 kq (kP k a.1) t (.inl (st _ _ sc.q)) rfl a0b rfl),?_⟩;have sc1:=sc.kf (KF.of st);have hpa1:=st _ _ hpa;have hpb1:=st _ _ hpb;generalize upd H t (.tup [.int k,.int a.1])=H1 at st sc1 hpa1 hpb1;rw[sc.qv];by_cases hc:a.1∈chF p.2 k
  ·rw[b9k hc];refine nx6 _ rfl rfl _ rfl (a7o ?_);have cv:=sc.cv da hda;rw[ea] at cv;have dg:b0y H1 c (.int a.1) (some (.int (a1e (lvD wo da) (da.2.2.length:Int)))):=.inl (nx0 kc (.inl a.1) sc1.c rfl cv.symm);have kp:(a4l wo p a.1).2=a1e (lvD wo da) (da.2.2.length:Int) - 1:=by rw[<-ea,b3w gh hda];rfl
   refine nx26 _ rfl pa _ _ _ rfl rfl (SqT.of hpa1) (a0m (j:=1) rfl) _ rfl sa _ _ _ rfl rfl (SqL.of sc1.l) (a0m (j:=0) rfl) (nx24 _ rfl pa _ _ _ rfl rfl (SqT.of hpa1) (a0m (j:=0) rfl) c _ rfl dg (nx15 _ _ rfl rfl rfl _ ⟨rfl,?_⟩));rw[d5c];by_cases hk:a.2=a1e (lvD wo da) (da.2.2.length:Int) - 1
   ·rw[z08 hk];refine a7o ?_;have qq:∀ H',Same H H'->Q (.bl ((a4x wo p b).any λ q=>decide (q.1=k) && (decide (0 < q.2) && decide (plF p k a.1<=plF p k q.2)))) H':=λ H' ss=>by
     have:=q H' ss;unfold d2t at this;rw[z08 hc,z08 (hk.trans kp.symm),z29,z29] at this;exact this
    refine nx5 _ rfl sa _ _ _ rfl rfl (SqL.of sc1.l) (a0m (j:=2) rfl) (nx6 s rfl (.inr ⟨_,.inl sc1.s⟩) _ rfl ⟨(by show 0<=sizeLine;decide),λ l hl=>?_⟩);have sl:=Same.upd (o:=HO.lst []) hl;have sc2:=sc1.kf (KF.of sl);have hpb2:=sl _ _ hpb1;refine⟨a1r ks (kN b),.inr (nx4 ks (kN b) pb (.inl sc2.s) rfl hpb2 rfl),?_⟩;obtain⟨b2,lv,eb2,hb2,pl⟩:∃ b2 lv,(a1r ks (kN b)).getD (.ref l)=.ref b2/\upd H1 l (.lst []) b2=some (.lst lv)/\Paired (I2V (upd H1 l (.lst []))) lv (a4x wo p b):=by
     rcases sc2.sv b with ⟨z1,z2⟩ | ⟨b2,lv,z1,z2,z3⟩
     ·exact nx0 l ([]) (by rw[z1];rfl) a0b (by rw[z2];exact .nil)
     ·exact nx0 b2 lv (by rw[z1];rfl) z2 z3
    rw[eb2];generalize upd H1 l (.lst [])=H2 at sl sc2 hpb2 hb2 pl;have S2:=st.trans sl;have src:∀ q∈a4x wo p b,q.2=-1\/q.2=0\/q.2∈chF p.2 q.1:=λ q hq=>d2i gh hq
    generalize a4x wo p b=sn at pl qq src;refine⟨b2,rfl,⟨_,SqL.of hb2⟩,a2a (K:=K) (a:=b2) (xs:=lv) (λ i σ H3=>Same H2 H3/\∃ (x5 x6:Option V),σ=[some (.ref sa),some (.ref pa),some (.ref pb),some (.int k),some (.int (plF p k a.1)),x5,x6]/\((sn.take i).any λ q=>decide (q.1=k) && (decide (0 < q.2) && decide (plF p k a.1<=plF p k q.2)))=false) (⟨Same.refl _,nx9 none none rfl rfl⟩) (λ i σ H3 _ ⟨ss,_⟩=>SqL.of (ss _ _ hb2)) ?_ ?_⟩
    ·rintro i y σ H3 hy ⟨ss,x5,x6,rfl,an⟩;obtain⟨qp,eq,ta,rfl,hta⟩:=a1g pl hy;refine nx15 ta _ rfl (SqT.of (ss _ _ hta)) rfl _ (nx33 _ rfl _ _ rfl rfl _ ⟨rfl,nx6 _ rfl rfl _ rfl ?_⟩);rw[d5c];refine a4n (λ e1=>?_) (λ e1=>a7o (⟨ss,nx9 _ _ rfl (a6y an eq (by rw[z54.mpr e1];rfl))⟩));have e1':=z0h e1;refine nx33 _ rfl _ _ rfl rfl _ ⟨rfl,a4n (λ e2=>?_) (λ e2=>a7o (⟨ss,nx9 _ _ rfl (a6y an eq (by rw[e1,z29,z54.mpr e2];rfl))⟩))⟩;have e2':=z0h e2;have qc:qp.2∈chF p.2 k:=by rcases src qp (z0c eq) with z | z | z;lia;lia;rw[e1'] at z;exact z
     have sc3:=sc2.kf (KF.of ss);refine nx18 _ rfl _ rfl sa _ _ _ rfl rfl (SqL.of sc3.l) (a0m (j:=3) rfl) (nx3 _ rfl _ rfl ⟨(by show 2<=sizeLine;decide),λ t2 ht2=>?_⟩);have st2:=Same.upd (o:=HO.tup [.int k,.int qp.2]) ht2;refine ⟨qd,nx13 _ rfl (.inr (nx4 kq (kP k qp.2) t2 (.inl (st2 _ _ sc3.q)) rfl a0b (by rw[sc3.qv,b9k qc];rfl))) _ (nx6 _ rfl rfl _ rfl (a4n (λ e3=>?_) (λ e3=> ⟨ss.trans st2,nx9 _ _ rfl (a6y an eq (by rw[e1,e2,z29,z29];exact z54.mpr e3))⟩)))⟩;have:=qq _ (S2.trans (ss.trans st2));rw[d4y eq (by rw[e1,e2,z29,z29];exact e3)] at this;exact this
    ·rintro σ H3 ⟨ss,x5,x6,rfl,an⟩;rw[a1c pl,z0x] at an;have:=qq _ (S2.trans ss);rw[an] at this;exact this
   ·rw[z0n hk];refine b4g ?_;have:=q H1 st;unfold d2t at this;rw[z08 hc,z0n (by rw[kp];exact hk)] at this;exact this
  ·rw[b6k hc];refine nx6 _ rfl rfl _ rfl (b4g (b4g ?_));have:=q H1 st;unfold d2t at this;rw[z0n hc] at this;exact this
theorem c5c (T:Tx K mg):T.b3u.Ok P w base 1 (c9j a5y):=by
 refine okF T.b3u.F a7j λ _ _ _ s H _ Q _ hr h=>?_
 ·obtain⟨sv,av,bv,a,b,k,p,wo,rfl,sc,gh,ha,hb,na,nb,q⟩:=h;have hu:=a2z hr;refine⟨_,(a0e (psx 4 a7j.nd (b1z hu (pix a0l (pv 0) a0c) (a1j (a0a (pv 3) (a0a (pix a0t (pv 2) a0c) a0d))) ⟨rfl,rfl,rfl,rfl⟩))
   (a0e (a2b (PW.pt (b8w (a0j c3j (pv 4) a3p (a0n _)) (b4o (a0j b4i (pix a0t (pv 2) a0c) (a0p a6c (a2o hu (pix a0l (pv 0) a0c) (pix a0t (pv 2) a0c) (λ _ _=>rfl)) a0c) (a0n _)))))
   (a0f (a0k a7z))
   a0u)
   (a0e (a1w z18 rfl (a1a (a7n hu (pix a0l (pv 0) a0c) (pv 1) (a1d a0d) ⟨rfl,rfl,rfl,rfl⟩)) (a5n rfl (a0o (pgm 5 a7j.nd) (a0o (pgm 6 a7j.nd) a3d)))
   (a0f (a2b (PW.pt (a5g (a0j a4f (pv 5) (pv 3) (a0n _)) (a5g (a0j e5l (pv 6) a0c (a0n _)) (a5b (a0j c8o (a7n hu (pix a0l (pv 0) a0c) (a1j (a0a (pv 3) (a0a (pv 6) a0d))) a0c ⟨rfl,rfl,rfl,rfl⟩) (pv 4) (a0n _))))))
   (a0f (a0k a7z))
   a0u)))
   (a0f (a0k a7z))))),?_⟩
  show let z0:TS:=_;let z1:TS:=a1h (b0o _ _ (a5p _ _ _)) z0;let z2:TS:=a1h (a5p _ _ _) z1;a1h _ z2 _ _ _
  intros;obtain⟨sa,c,f,s,qd,kc,kf,ks,kq,rfl,sc⟩:=sc;obtain⟨pa,rfl,hpa⟩:=ha;obtain⟨pb,rfl,hpb⟩:=hb;obtain⟨da,hda,ea,_⟩:=a3g.mp nb;refine nx16 _ rfl sa _ _ _ rfl rfl (SqL.of sc.l) (a0m (j:=3) rfl) qd rfl (.inr ⟨_,.inl sc.q⟩) (nx18 _ rfl _ rfl pb _ _ _ rfl rfl (SqT.of hpb) (a0m (j:=0) rfl) ⟨(by show 2<=sizeLine;decide),λ t ht=>?_⟩);have st:=Same.upd (o:=HO.tup [.int k,.int b.1]) ht;refine⟨a1r kq (kP k b.1),.inr (nx4 kq (kP k b.1) t (.inl (st _ _ sc.q)) rfl a0b rfl),?_⟩;have sc1:=sc.kf (KF.of st);have hpa1:=st _ _ hpa;have hpb1:=st _ _ hpb;generalize upd H t (.tup [.int k,.int b.1])=H1 at st sc1 hpa1 hpb1;rw[sc.qv];by_cases hc:b.1∈chF p.2 k
  ·rw[b9k hc];refine nx6 _ rfl rfl _ rfl (a7o ?_);have cv:=sc.cv da hda;rw[ea] at cv;have dg:b0y H1 c (.int b.1) (some (.int (a1e (lvD wo da) (da.2.2.length:Int)))):=.inl (nx0 kc (.inl b.1) sc1.c rfl cv.symm);have kp:(a4l wo p b.1).2=a1e (lvD wo da) (da.2.2.length:Int) - 1:=by rw[<-ea,b3w gh hda];rfl
   refine nx26 _ rfl pb _ _ _ rfl rfl (SqT.of hpb1) (a0m (j:=1) rfl) _ rfl sa _ _ _ rfl rfl (SqL.of sc1.l) (a0m (j:=0) rfl) (nx24 _ rfl pb _ _ _ rfl rfl (SqT.of hpb1) (a0m (j:=0) rfl) c _ rfl dg (nx15 _ _ rfl rfl rfl _ ⟨rfl,?_⟩));rw[d5c];by_cases hk:b.2=a1e (lvD wo da) (da.2.2.length:Int) - 1
   ·rw[z08 hk];refine a7o ?_;have qq:∀ H',Same H H'->Q (.bl ((a4x wo p a).any λ q=>decide (q.1=k) && (decide (0<=q.2) && decide (plF p k q.2 < plF p k b.1)))) H':=λ H' ss=>by
     have:=q H' ss;unfold a5y at this;rw[z08 hc,z08 (hk.trans kp.symm),z29,z29] at this;exact this
    refine nx5 _ rfl sa _ _ _ rfl rfl (SqL.of sc1.l) (a0m (j:=2) rfl) (nx6 s rfl (.inr ⟨_,.inl sc1.s⟩) _ rfl ⟨(by show 0<=sizeLine;decide),λ l hl=>?_⟩);have sl:=Same.upd (o:=HO.lst []) hl;have sc2:=sc1.kf (KF.of sl);have hpb2:=sl _ _ hpa1;refine⟨a1r ks (kN a),.inr (nx4 ks (kN a) pa (.inl sc2.s) rfl hpb2 rfl),?_⟩;obtain⟨b2,lv,eb2,hb2,pl⟩:∃ b2 lv,(a1r ks (kN a)).getD (.ref l)=.ref b2/\upd H1 l (.lst []) b2=some (.lst lv)/\Paired (I2V (upd H1 l (.lst []))) lv (a4x wo p a):=by
     rcases sc2.sv a with ⟨z1,z2⟩ | ⟨b2,lv,z1,z2,z3⟩
     ·exact nx0 l ([]) (by rw[z1];rfl) a0b (by rw[z2];exact .nil)
     ·exact nx0 b2 lv (by rw[z1];rfl) z2 z3
    rw[eb2];generalize upd H1 l (.lst [])=H2 at sl sc2 hpb2 hb2 pl;have S2:=st.trans sl;generalize a4x wo p a=sn at pl qq;refine⟨b2,rfl,⟨_,SqL.of hb2⟩,a2a (K:=K) (a:=b2) (xs:=lv) (λ i σ H3=>Same H2 H3/\∃ (x5 x6:Option V),σ=[some (.ref sa),some (.ref pa),some (.ref pb),some (.int k),some (.int (plF p k b.1)),x5,x6]/\((sn.take i).any λ q=>decide (q.1=k) && (decide (0<=q.2) && decide (plF p k q.2 < plF p k b.1)))=false) (⟨Same.refl _,nx9 none none rfl rfl⟩) (λ i σ H3 _ ⟨ss,_⟩=>SqL.of (ss _ _ hb2)) ?_ ?_⟩
    ·rintro i y σ H3 hy ⟨ss,x5,x6,rfl,an⟩;obtain⟨qp,eq,ta,rfl,hta⟩:=a1g pl hy;refine nx15 ta _ rfl (SqT.of (ss _ _ hta)) rfl _ (nx33 _ rfl _ _ rfl rfl _ ⟨rfl,nx6 _ rfl rfl _ rfl ?_⟩);rw[d5c];refine a4n (λ e1=>?_) (λ e1=>a7o (⟨ss,nx9 _ _ rfl (a6y an eq (by rw[z54.mpr e1];rfl))⟩));have e1':=z0h e1;refine nx33 _ rfl _ _ rfl rfl _ ⟨rfl,a4n (λ e2=>?_) (λ e2=>a7o (⟨ss,nx9 _ _ rfl (a6y an eq (by rw[e1,z29,z54.mpr e2];rfl))⟩))⟩;have e2':=z0h e2;have sc3:=sc2.kf (KF.of ss);refine nx16 _ rfl sa _ _ _ rfl rfl (SqL.of sc3.l) (a0m (j:=3) rfl) qd rfl (.inr ⟨_,.inl sc3.q⟩) (nx3 _ rfl _ rfl ⟨(by show 2<=sizeLine;decide),λ t2 ht2=>?_⟩);have st2:=Same.upd (o:=HO.tup [.int k,.int qp.2]) ht2;refine⟨a1r kq (kP k qp.2),.inr (nx4 kq (kP k qp.2) t2 (.inl (st2 _ _ sc3.q)) rfl a0b rfl),?_⟩;have ev:(a1r kq (kP k qp.2)).getD (V.int 0)=.int (plF p k qp.2):=by
      rw[sc3.qv];unfold plF;cases plO p k qp.2<;>rfl
     rw[ev];refine nx33 _ rfl _ _ rfl rfl _ ⟨rfl,a4n (λ e3=>?_) (λ e3=> ⟨ss.trans st2,nx9 _ _ rfl (a6y an eq (by rw[e1,e2,z29,z29];exact z54.mpr e3))⟩)⟩;have:=qq _ (S2.trans (ss.trans st2));rw[d4y eq (by rw[e1,e2,z29,z29];exact e3)] at this;exact this
    ·rintro σ H3 ⟨ss,x5,x6,rfl,an⟩;rw[a1c pl,z0x] at an;have:=qq _ (S2.trans ss);rw[an] at this;exact this
   ·rw[z0n hk];refine b4g ?_;have:=q H1 st;unfold a5y at this;rw[z08 hc,z0n (by rw[kp];exact hk)] at this;exact this
  ·rw[b6k hc];refine nx6 _ rfl rfl _ rfl (b4g (b4g ?_));have:=q H1 st;unfold a5y at this;rw[z0n hc] at this;exact this
theorem d4u (T:Tx K mg):T.c0s.Ok P w base 1 (c9j c0q):=by
 refine okF T.c0s.F b5y λ _ _ _ s H _ Q _ hr h=>?_
 ·obtain⟨sv,av,bv,a,b,k,p,wo,rfl,sc,gh,ha,hb,na,nb,q⟩:=h;have hu:=a2z hr;refine⟨_,(a0e (a2b (PW.pt (b8w (a0j b4i (pix a0t (pv 1) a0c) (a0p a6c (a2o hu (pix a0l (pv 0) a0c) (pix a0t (pv 1) a0c) (λ _ _=>rfl)) a0c) (a0n _)) (b4o (a0j b4i (pix a0t (pv 2) a0c) (a2o hu (pix a0l (pv 0) a0c) (pix a0t (pv 2) a0c) (λ _ _=>rfl)) (a0n _)))))
   (a0f (a0k a7z))
   a0u)
   (a0e (psx 4 b5y.nd (b1z hu (pix a0l (pv 0) a0c) (a1j (a0a (pv 3) (a0a (pix a0t (pv 1) a0c) a0d))) ⟨rfl,rfl,rfl,rfl⟩))
   (a0e (psx 5 b5y.nd (b1z hu (pix a0l (pv 0) a0c) (a1j (a0a (pv 3) (a0a (pix a0t (pv 2) a0c) a0d))) ⟨rfl,rfl,rfl,rfl⟩))
   (a0f (a0k (b2z (b3o a8n (pv 4) a3p (a0n _)) (b2z (b3o a8n (pv 5) a3p (a0n _)) (c3m (b3o c8o (pv 4) (pv 5) (a0n _)))))))))),?_⟩
  show let z0:TS:=_;let z1:TS:=a1h _ z0;let z2:TS:=a1h _ z1;a1h (a5p _ _ _) z2 _ _ _
  intros;obtain⟨sa,c,f,s,qd,kc,kf,ks,kq,rfl,sc⟩:=sc;obtain⟨pa,rfl,hpa⟩:=ha;obtain⟨pb,rfl,hpb⟩:=hb;obtain⟨da,hda,ea,_⟩:=a3g.mp na;obtain⟨db,hdb,eb,_⟩:=a3g.mp nb;have cv:=sc.cv da hda;rw[ea] at cv;have fv:=sc.fv db hdb;rw[eb] at fv;have dg:b0y H c (.int a.1) (some (.int (a1e (lvD wo da) (da.2.2.length:Int)))):=.inl (nx0 kc (.inl a.1) sc.c rfl cv.symm);have df:b0y H f (.int b.1) (some (.int (a2t (lvD wo db) (db.2.2.length:Int)))):=.inl (nx0 kf (.inl b.1) sc.f rfl fv.symm);have kp:(a4l wo p a.1).2=a1e (lvD wo da) (da.2.2.length:Int) - 1:=by rw[<-ea,b3w gh hda];rfl
  have kf':(a6g wo p b.1).2=a2t (lvD wo db) (db.2.2.length:Int):=by rw[<-eb,b6t gh hdb];rfl
  have q':∀ H',Same H H'->Q (.bl (decide (a.2=a1e (lvD wo da) (da.2.2.length:Int) - 1) && (decide (b.2=a2t (lvD wo db) (db.2.2.length:Int)) && (decide (a.1∈chF p.2 k) && (decide (b.1∈chF p.2 k) && decide (plF p k a.1 < plF p k b.1)))))) H':=λ H' ss=>by
   have:=q H' ss;unfold c0q at this;rw[kp,kf'] at this;exact this
  refine nx26 _ rfl pa _ _ _ rfl rfl (SqT.of hpa) (a0m (j:=1) rfl) _ rfl sa _ _ _ rfl rfl (SqL.of sc.l) (a0m (j:=0) rfl) (nx24 _ rfl pa _ _ _ rfl rfl (SqT.of hpa) (a0m (j:=0) rfl) c _ rfl dg (nx15 _ _ rfl rfl rfl _ ⟨rfl,?_⟩));rw[d5c];by_cases h1:a.2=a1e (lvD wo da) (da.2.2.length:Int) - 1
  ·rw[z08 h1] at q' ⊢;refine a7o ?_;refine nx5 _ rfl pb _ _ _ rfl rfl (SqT.of hpb) (a0m (j:=1) rfl) (nx26 _ rfl sa _ _ _ rfl rfl (SqL.of sc.l) (a0m (j:=1) rfl) _ rfl pb _ _ _ rfl rfl (SqT.of hpb) (a0m (j:=0) rfl) (nx15 f _ rfl df rfl _ ⟨rfl,?_⟩));rw[d5c];by_cases h2:b.2=a2t (lvD wo db) (db.2.2.length:Int)
   ·rw[z08 h2] at q' ⊢;refine a7o ?_;refine nx16 _ rfl sa _ _ _ rfl rfl (SqL.of sc.l) (a0m (j:=3) rfl) qd rfl (.inr ⟨_,.inl sc.q⟩) (nx18 _ rfl _ rfl pa _ _ _ rfl rfl (SqT.of hpa) (a0m (j:=0) rfl) ⟨(by show 2<=sizeLine;decide),λ t ht=>?_⟩);have st:=Same.upd (o:=HO.tup [.int k,.int a.1]) ht;refine⟨a1r kq (kP k a.1),.inr (nx4 kq (kP k a.1) t (.inl (st _ _ sc.q)) rfl a0b rfl),?_⟩;have sc1:=sc.kf (KF.of st);have hpb1:=st _ _ hpb;generalize upd H t (.tup [.int k,.int a.1])=H1 at st sc1 hpb1;refine nx16 _ rfl sa _ _ _ rfl rfl (SqL.of sc1.l) (a0m (j:=3) rfl) qd rfl (.inr ⟨_,.inl sc1.q⟩) (nx18 _ rfl _ rfl pb _ _ _ rfl rfl (SqT.of hpb1) (a0m (j:=0) rfl) ⟨(by show 2<=sizeLine;decide),λ t2 ht2=>?_⟩);have st2:=Same.upd (o:=HO.tup [.int k,.int b.1]) ht2;refine⟨a1r kq (kP k b.1),.inr (nx4 kq (kP k b.1) t2 (.inl (st2 _ _ sc1.q)) rfl a0b rfl),?_⟩;have S2:=st.trans st2;generalize upd H1 t2 (.tup [.int k,.int b.1])=H2 at st2 S2;rw[sc.qv,sc.qv];have qq:=q' H2 S2;by_cases h3:a.1∈chF p.2 k
    ·rw[b9k h3];rw[z08 h3] at qq;refine nx6 _ rfl rfl true rfl (b4g ?_);by_cases h4:b.1∈chF p.2 k
     ·rw[b9k h4];rw[z08 h4] at qq;refine nx6 _ rfl rfl true rfl (b4g ?_);exact nx3 _ rfl _ rfl (nx0 _ _ rfl rfl qq)
     ·rw[b6k h4];rw[z0n h4] at qq;exact nx6 _ rfl rfl false rfl (a7o qq)
    ·rw[b6k h3];rw[z0n h3] at qq;exact nx6 _ rfl rfl false rfl (a7o qq)
   ·rw[z0n h2] at q' ⊢;exact b4g (q' H (Same.refl _))
  ·rw[z0n h1] at q' ⊢;exact b4g (b4g (q' H (Same.refl _)))
theorem c2w (T:Tx K mg):T.b0r.Ok P w base 2 e1h:=by
 refine okF T.b0r.F b2r λ _ _ _ _ H _ _ _ hr h=>?_
 ·obtain⟨sv,av,bv,l,a,b,p,wo,rfl,sc,gh,ha,hb,na,nb,hl,q⟩:=h;have hu:=a2z hr;refine⟨_,(a0e (a2b (a0j a4f (pix a0t (pv 1) a0c) (pix a0t (pv 2) a0c) (a0n _))
   (a0e (a2b (a0j c8o (pix a0t (pv 1) a0c) (pix a0t (pv 2) a0c) (a0n _))
   (a0f (a0k (a1d (a0a (a1j (a0a (pv 1) (a0a (pv 2) (a0a a1s (a0a a3p a0d))))) a0d))))
   a0u)
   (a0f (a0k (a1d a0d))))
   a0u)
   (a0e (psf 4 ["_law_key"] b2r.nd ["_law_scene_here","_law_one","_law_other"] [0,1,2] (a1a (pv 3)) (pgn 0) (b2t (a7x (pcF T.c9b (d7w T) hr (a0a (pv 1) (a0a (pv 2) (a0a (pv 3) (a0a (pv 0) a0d))))))) (a1j (a0a (pv 2) (a0a (pv 3) (a0a a1s (a0a (pv 0) a0d))))))
   (a0e (a1u (a4q z1h z31 z2z a2n (pv 4) (a0a (pcf ["_law_key"] ["_law_scene_here","_law_one","_law_other"] [0,1,2] (a1a (pv 3)) (pgn 0) (b2t (a7x (pcF T.b3u (c5c T) hr (a0a (pv 1) (a0a (pv 2) (a0a (pv 3) (a0a (pv 0) a0d))))))) (a1j (a0a (pv 2) (a0a (pv 3) (a0a a1s (a0a (pv 0) a0d)))))) a0d)))
   (a0e (a1u (a4q z1h z31 z2z a2n (pv 4) (a0a (pcf ["_law_key"] ["_law_scene_here","_law_one","_law_other"] [0,1,2] (a1a (pv 3)) (pgn 0) (b2t (a7x (pcF T.c0s (d4u T) hr (a0a (pv 1) (a0a (pv 2) (a0a (pv 3) (a0a (pv 0) a0d))))))) (a1j (a0a (pv 2) (a0a (pv 3) (a0a a1s (a0a (pv 0) a0d)))))) a0d)))
   (a0f (a0k (pv 4))))))),?_⟩
  show let z0:TS:=_;let z1:TS:=a1h _ z0;let z2:TS:=a1h _ z1;let z3:TS:=a1h _ z2;let z4:TS:=_;let z5:TS:=a1h (a5p _ _ _) z4;a1h (a5p _ z5 _) z3 _ _ _
  intros;have sz:sizeLine=2 ^ 24:=rfl;have kl:=gh.klen;have kk:(p.2.map (·.1)).length=p.2.length:=z04 _;obtain⟨pa,rfl,hpa⟩:=ha;obtain⟨pb,rfl,hpb⟩:=hb;refine nx26 _ rfl pa _ _ _ rfl rfl (SqT.of hpa) (a0m (j:=0) rfl) _ rfl pb _ _ _ rfl rfl (SqT.of hpb) (a0m (j:=0) rfl) ⟨rfl,_,rfl,?_⟩;rw[d5c];unfold a5c at q;by_cases e0:a.1=b.1
  ·rw[z02 e0] at q;rw[z08 e0];refine b4g ?_;refine nx26 _ rfl pa _ _ _ rfl rfl (SqT.of hpa) (a0m (j:=1) rfl) _ rfl pb _ _ _ rfl rfl (SqT.of hpb) (a0m (j:=1) rfl) ⟨_,nx6 _ rfl rfl _ rfl (a4n (λ e1=>?_) (λ e1=>?_))⟩
   ·rw[z02 (z0h e1)] at q;refine nx3 _ rfl _ rfl ⟨(by show 4<=sizeLine;decide),λ t ht=>⟨(by show 1<=sizeLine;decide),λ D hD=>?_⟩⟩;have st:=Same.upd (o:=HO.tup [.ref pa,.ref pb,.str "own",.non]) ht;have sD:=Same.upd (o:=HO.lst [.ref t]) hD;exact q D _ _ (st.free hD) (st.trans sD) a0b (.cons (nx4 t (.ref pa) (.ref pb) rfl (sD _ _ a0b) ⟨pa,rfl,sD _ _ (st _ _ hpa)⟩ ⟨pb,rfl,sD _ _ (st _ _ hpb)⟩) .nil)
   ·rw[z01 (λ z=>e1 (z08 z))] at q;exact⟨(by show 0<=sizeLine;decide),λ D hD=>q D _ _ hD (Same.upd hD) a0b .nil⟩
  ·rw[z01 e0] at q;rw[z0n e0];refine a7o ?_;refine nx3 _ rfl l rfl ⟨⟨_,SqL.of hl⟩,a5q (k:=1) (fs:=[some sv,some (.ref pa),some (.ref pb)]) EgV (λ _ v (x:Int)=>v=.int x) (p.2.map (·.1)) (λ x=>if d2t wo p a b x=true then some (a,b,"saw",some x) else none) b0m (λ _ _ _ _ _ z=>z) rfl (hl) (a4k _) (by lia) (λ x hx H5 ts v R ss hts hv cont cno=>?_) λ D1 H1 z1 hD1 s1 h1 p1=>?_⟩
   ·obtain⟨t,rfl⟩:=z1g.mp hts;subst hv;have S5:Same H H5:=ss;refine nx3 _ rfl _ rfl (nx22 _ rfl _ rfl sv (nx19 (.ref pa) (.ref pb) a b x p wo rfl (sc.kf (KF.of S5)) gh ⟨pa,rfl,S5 _ _ hpa⟩ ⟨pb,rfl,S5 _ _ hpb⟩ na ⟨nb,λ H6 s6=>⟨_,rfl,a4n (λ y=>?_) (λ y=>?_)⟩⟩))
    ·exact nx22 _ rfl _ rfl _ ⟨rfl,(by show 4<=sizeLine;decide),λ nn hn=>cont _ _ [_] _ (z02 y) rfl (s6.trans (Same.upd hn)) (nx4 nn (.ref pa) (.ref pb) rfl a0b ⟨pa,rfl,Same.upd hn _ _ (s6 _ _ (S5 _ _ hpa))⟩ ⟨pb,rfl,Same.upd hn _ _ (s6 _ _ (S5 _ _ hpb))⟩)⟩
    ·exact cno (z01 y) [_] _ rfl s6
   ·rw[c7x] at p1;have l1:z1.length<=30:=by rw[a1c p1];exact z0s (b1b _ _ _ _ _) (by lia)
    refine nx35 _ rfl (Or.inl ⟨rfl,_,SqL.of h1⟩) _ rfl l ⟨rfl,⟨_,SqL.of (s1 _ _ hl)⟩,a5q (k:=1) (fs:=[some sv,some (.ref pa),some (.ref pb)]) EgV (λ _ v (x:Int)=>v=.int x) (p.2.map (·.1)) (λ x=>if a5y wo p a b x=true then some (a,b,"unseen",some x) else none) b0m (λ _ _ _ _ _ z=>z) rfl (s1 _ _ hl) (a4k _) (by lia) (λ x hx H5 ts v R ss hts hv cont cno=>?_) λ D2 H2 z2 hD2 s2 h2 p2=>?_⟩
    ·obtain⟨t,rfl⟩:=z1g.mp hts;subst hv;have S5:Same H H5:=s1.trans ss;refine nx3 _ rfl _ rfl (nx22 _ rfl _ rfl sv (nx19 (.ref pa) (.ref pb) a b x p wo rfl (sc.kf (KF.of S5)) gh ⟨pa,rfl,S5 _ _ hpa⟩ ⟨pb,rfl,S5 _ _ hpb⟩ na ⟨nb,λ H6 s6=>⟨_,rfl,a4n (λ y=>?_) (λ y=>?_)⟩⟩))
     ·exact nx22 _ rfl _ rfl _ ⟨rfl,(by show 4<=sizeLine;decide),λ nn hn=>cont _ _ [_] _ (z02 y) rfl (s6.trans (Same.upd hn)) (nx4 nn (.ref pa) (.ref pb) rfl a0b ⟨pa,rfl,Same.upd hn _ _ (s6 _ _ (S5 _ _ hpa))⟩ ⟨pb,rfl,Same.upd hn _ _ (s6 _ _ (S5 _ _ hpb))⟩)⟩
     ·exact cno (z01 y) [_] _ rfl s6
    ·rw[c7x] at p2;have l2:z2.length<=30:=by rw[a1c p2];exact z0s (b1b _ _ _ _ _) (by lia)
     refine nx14 D1 D2 z1 z2 rfl rfl (s2 _ _ h1) h2 (by lia) ?_;have k2:=KN.upd (o:=HO.lst (z1++z2)) (s2 _ _ h1);have S2:Same H (upd H2 D1 (.lst (z1++z2))):=λ b o eb=>by
      rw[a0g (show b≠D1 from λ z=>by rw[z,hD1] at eb;cases eb)];exact s2 _ _ (s1 _ _ eb)
     have p12:=a0r (a2k ((KN.of s2).trans k2) p1) (a2k k2 p2);have h12:=a0b (H:=H2) (a:=D1) (o:=HO.lst (z1++z2));generalize upd H2 D1 (.lst (z1++z2))=H3 at k2 S2 p12 h12;refine nx35 _ rfl (Or.inl ⟨rfl,_,SqL.of h12⟩) _ rfl l ⟨rfl,⟨_,SqL.of (S2 _ _ hl)⟩,a5q (k:=1) (fs:=[some sv,some (.ref pa),some (.ref pb)]) EgV (λ _ v (x:Int)=>v=.int x) (p.2.map (·.1)) (λ x=>if c0q wo p a b x=true then some (a,b,"over",some x) else none) b0m (λ _ _ _ _ _ z=>z) rfl (S2 _ _ hl) (a4k _) (by lia) (λ x hx H5 ts v R ss hts hv cont cno=>?_) λ D4 H4 z4 hD4 s4 h4 p4=>?_⟩
     ·obtain⟨t,rfl⟩:=z1g.mp hts;subst hv;have S5:Same H H5:=S2.trans ss;refine nx3 _ rfl _ rfl (nx22 _ rfl _ rfl sv (nx19 (.ref pa) (.ref pb) a b x p wo rfl (sc.kf (KF.of S5)) gh ⟨pa,rfl,S5 _ _ hpa⟩ ⟨pb,rfl,S5 _ _ hpb⟩ na ⟨nb,λ H6 s6=>⟨_,rfl,a4n (λ y=>?_) (λ y=>?_)⟩⟩))
      ·exact nx22 _ rfl _ rfl _ ⟨rfl,(by show 4<=sizeLine;decide),λ nn hn=>cont _ _ [_] _ (z02 y) rfl (s6.trans (Same.upd hn)) (nx4 nn (.ref pa) (.ref pb) rfl a0b ⟨pa,rfl,Same.upd hn _ _ (s6 _ _ (S5 _ _ hpa))⟩ ⟨pb,rfl,Same.upd hn _ _ (s6 _ _ (S5 _ _ hpb))⟩)⟩
      ·exact cno (z01 y) [_] _ rfl s6
     ·rw[c7x] at p4;have l4:z4.length<=30:=by rw[a1c p4];exact z0s (b1b _ _ _ _ _) (by lia)
      refine nx14 D1 D4 (z1++z2) z4 rfl rfl (s4 _ _ h12) h4 (by rw[z0j];lia) ?_;have k4:=KN.upd (o:=HO.lst (z1++z2++z4)) (s4 _ _ h12);refine⟨_,rfl,q D1 _ _ hD1 (λ b o eb=>?_) a0b (a0r (a2k ((KN.of s4).trans k4) p12) (a2k k4 p4))⟩;rw[a0g (show b≠D1 from λ z=>by rw[z,hD1] at eb;cases eb)];exact s4 _ _ (S2 _ _ eb)
theorem d2d (T:Tx K mg):T.c0t.Ok P w base 3 e0l:=by
 refine okF T.c0t.F a5w λ _ _ _ s H _ _ _ hr h=>?_
 ·obtain⟨sv,v,p,wo,rfl,sc,gh,tr,q⟩:=h;have hu:=a2z hr;refine⟨_,(a0e (psf 2 ["_law_row"] a5w.nd [] [] (a1a (pix a0t (pv 1) a0c)) (pgn 0) a3w (pix (a2q (K:=K) rfl) (pv 0) a0c))
   (a0e (psx 3 a5w.nd (a1d a0d))
   (a0e (a1w z18 rfl (d3p (pix a0l (pv 0) a0c)) (pgm 4 a5w.nd)
   (a0f (a1u (a4q z1h z31 z2z a2n (pv 3) (a0a (pcf ["_law_place"] ["_law_number"] [4] (a2m rfl T.a3f (a0a (a2o hu (pix a0l (pv 0) a0c) (pv 4) (λ _ _=>rfl)) a0d)) (pgn 0) a3w (a1j (a0a (pv 1) (a0a (pv 0) a0d)))) a0d)))))
   (a0e (psx 5 a5w.nd (a1d a0d))
   (a0e (a1w z18 rfl (a1a (pv 3)) (pgm 6 a5w.nd)
   (a0f (a1w z18 rfl (a1a (pv 3)) (pgm 7 a5w.nd)
   (a0f (a1u (a4q z1h z31 z2z a2n (pv 5) (a0a (pcF T.b0r (c2w T) hr (a0a (pv 0) (a0a (pv 6) (a0a (pv 7) (a0a (pv 2) a0d))))) a0d)))))))
   (a0f (a0k (pv 5)))))))),?_⟩
  show let z0:TS:=_;let z1:TS:=a1h (b0o _ _ (b0o _ _ _)) z0;let z2:TS:=a1h _ z1;let z3:TS:=a1h (b0o _ _ _) z2;let z4:TS:=a1h _ z3;a1h _ z4 _ _ _
  intros;have sz:sizeLine=2 ^ 24:=rfl;have kl:=gh.klen;obtain⟨sa,c,f,s,qd,kc,kf,ks,kq,rfl,sc⟩:=sc;obtain⟨a,l,m,lv,mv,rfl,ha,hl,tl,hm,tm⟩:=a3r tr;refine nx16 _ rfl a _ _ _ rfl rfl (SqT.of ha) rfl m rfl ⟨_,SqL.of hm⟩ (a5q (k:=1) (fs:=[]) (λ _ v (x:Int)=>v=.int x) (λ H v d=>Tr H v (a9l d)) p.2 (λ d=>some d.1) (λ _ _ _ _ _ z=>z) (λ _ _ _ _ ss z=>z.same ss) rfl hm (a5j tm) (by lia) (λ d hd H5 ts v R ss hts hv cont _=>?_) λ D1 H1 kv hD1 s1 h1 p1=>?_)
  ·obtain⟨t,rfl⟩:=z1g.mp hts;obtain⟨pt,cc,rfl,hpt,_⟩:=a9q hv;exact nx5 _ rfl pt _ _ _ rfl rfl (SqT.of hpt) (a0m (j:=0) rfl) (cont _ _ [_] _ rfl rfl (Same.refl _) rfl)
  ·rw[a4u] at p1;have ek:kv=(p.2.map (·.1)).map V.int:=by
    generalize p.2.map (·.1)=ms at p1;clear h1;induction p1 with
    | nil=>rfl
    | cons x _ ih=>rw[z0w,<-ih,x]
   subst ek;have sc1:=sc.kf (KF.of s1);refine⟨(by show 0<=sizeLine;decide),λ F hF=>?_⟩;have hF0:=a0b (H:=H1) (a:=F) (o:=HO.lst []);have sF:=Same.upd (o:=HO.lst []) hF;generalize upd H1 F (.lst [])=H2 at hF0 sF;have sc2:=sc1.kf (KF.of sF);refine nx24 _ rfl sa _ _ _ rfl rfl (SqL.of sc2.l) (a0m (j:=0) rfl) c kc rfl sc2.c λ ob H3 h3 k3 n3=>?_;have k03:KF H H3:=(KF.of (s1.trans sF)).trans k3;have hF3:=k3.lst hF0;have k14:∀ H4:Hp,(∀ b o,b≠F->H3 b=some o->H4 b=some o)->KF H1 H4:=λ H4 k4 b o e=>by
    have nb:b≠F:=λ z=>by rw[z,hF] at e;cases e
    rcases((KF.of sF).trans k3) b o e with z | ⟨kvs,ob,e1,z⟩
    ·exact .inl (k4 _ _ nb z)
    ·exact .inr (nx9 kvs ob e1 (k4 _ _ nb z))
   have kcl:kc.length=p.1.length:=by have:=z0b List.length sc.keys;simpa using this
   refine d3m (λ i σ H4=>∃ (x4:Option V) (ys:List V),σ=[some (.ref sa),some (.ref a),some (.ref D1),some (.ref F),x4,none,none,none]/\(∀ b o,b≠F->H3 b=some o->H4 b=some o)/\H4 F=some (.lst ys)/\ys.length<=41*i/\Nds H4 ys ((p.1.take i).flatMap (a2l wo))) (nx12 none ([]) rfl (λ _ _ _ e=>e) hF3 (z05 _) (.nil)) (λ i σ H4 ⟨_,_,_,k4,hF4,_⟩=>k4 _ _ (λ z=>by rw[z,hF3] at h3;cases h3) h3) ?_ ?_
   ·rintro i kk x σ H4 hk ⟨x4,ys,rfl,k4,hF4,ly,pn⟩;have hi:i < p.1.length:=by have:=(z0l.mp hk).1;lia
    obtain⟨d,ed⟩:∃ d,p.1[i]?=some d:=⟨_,z0o hi⟩;have hd:=z0c ed;have ekk:kk=Sum.inl d.1:=by
     have h1:(kc.map (·.1))[i]?=some kk:=by rw[z09,hk];rfl
     rw[sc.keys,z09,ed] at h1;exact(z0r h1).symm
    subst ekk;have hi8:i < 8:=by have:=gh.gp.1;lia
    have sc4:=sc1.kf (k14 H4 k4);have cv:=sc.cv d hd;have dg:b0y H4 c (.int d.1) (some (.int (a1e (lvD wo d) (d.2.2.length:Int)))):=.inl (nx0 kc (.inl d.1) sc4.c rfl cv.symm);have sl:=a9c wo d (gh.gp.2.2 d hd).2;refine nx6 _ rfl (Or.inl ⟨rfl,_,SqL.of hF4⟩) _ rfl (nx1 sa _ _ _ rfl rfl (SqL.of sc4.l) (a0m (j:=0) rfl) (nx33 _ rfl c _ rfl dg _ ⟨rfl,(by lia),(by lia),d5z (k:=1) (fs:=[some (.int d.1)]) NdV _ (λ j=>some (d.1,(j:Int))) d8p rfl (by lia) (λ j hj H5 ts R ss hts cont _=>?_) λ D5 H5 zs hD5 s5 h5 pz=>?_⟩))
    ·obtain⟨t,rfl⟩:=z1g.mp hts;refine nx3 _ rfl _ rfl ⟨(by show 2<=sizeLine;decide),λ n hn=>cont _ _ [_] _ rfl rfl (Same.upd hn) ⟨n,rfl,?_⟩⟩;rw[a0b,z38]
    ·rw[a4u] at pz;have lz:zs.length<=41:=by rw[a1c pz,z04,z1m];lia
     refine nx14 F D5 ys zs rfl rfl (s5 _ _ hF4) h5 (by lia) ?_;have kn:=KN.upd (o:=HO.lst (ys++zs)) (s5 _ _ hF4);refine nx12 _ _ rfl (λ b o nb eb=>?_) a0b (by rw[z0j];lia) ?_
     ·rw[a0g nb];exact s5 _ _ (k4 b o nb eb)
     ·rw[z0v,ed,z3s];refine a0r (d5x ((KN.of s5).trans kn) pn) ?_;show Nds _ zs (List.flatMap (a2l wo) [d]);rw[z2n,z3m,z19];exact d5x kn pz
   ·rintro σ H4 ⟨x4,ys,rfl,k4,hF4,ly,pn⟩;rw[kcl,z0x] at pn;have pn:Nds H4 ys (a2g wo p):=pn;have sc4:=sc1.kf (k14 H4 k4);have K4:KF H H4:=(KF.of s1).trans (k14 H4 k4);have hD4:H4 D1=some (.lst ((p.2.map (·.1)).map V.int)):=(k14 H4 k4).lst h1;have nl:ys.length<=328:=by have:=gh.gp.1;lia
    have nn:(a2g wo p).length=ys.length:=(a1c pn).symm;refine⟨(by show 0<=sizeLine;decide),λ G hG=>?_⟩;have hG0:=a0b (H:=H4) (a:=G) (o:=HO.lst []);have sG:=Same.upd (o:=HO.lst []) hG;generalize upd H4 G (.lst [])=H5 at hG0 sG;have hGn:H G=none:=by
     cases e:H G with
     | none=>rfl
     | some o=>rcases K4 G o e with z | ⟨_,_,_,z⟩<;>(rw[hG] at z;cases z)
    refine nx3 _ rfl F rfl ⟨⟨_,SqL.of (sG _ _ hF4)⟩,a2a (K:=K) (a:=F) (xs:=ys) (λ i σ H6=>∃ (x6 x7:Option V) (zs:List V),σ=[some (.ref sa),some (.ref a),some (.ref D1),some (.ref F),x4,some (.ref G),x6,x7]/\Same H4 H6/\H6 G=some (.lst zs)/\zs.length<=29520*i/\Paired (EgV H6) zs (((a2g wo p).take i).flatMap λ a=>(a2g wo p).flatMap λ b=>a5c wo p a b)) (nx17 none none ([]) rfl sG hG0 (z05 _) (.nil)) (λ i σ H6 _ ⟨_,_,_,_,s6,_⟩=>SqL.of (s6 _ _ hF4)) ?_ ?_⟩
    ·rintro i y σ H6 hy ⟨x6,x7,zs,rfl,s6,hG6,lz,pz⟩;have hi:i < ys.length:=(z0l.mp hy).1;obtain⟨na,ena,hna⟩:=a1g pn hy;refine nx3 _ rfl F rfl ⟨⟨_,SqL.of (s6 _ _ hF4)⟩,a2a (K:=K) (a:=F) (xs:=ys) (λ j σ H7=>∃ (x7:Option V) (zs:List V),σ=[some (.ref sa),some (.ref a),some (.ref D1),some (.ref F),x4,some (.ref G),some y,x7]/\Same H4 H7/\H7 G=some (.lst zs)/\zs.length<=29520*i+90*j/\Paired (EgV H7) zs ((((a2g wo p).take i).flatMap λ a=>(a2g wo p).flatMap λ b=>a5c wo p a b)++((a2g wo p).take j).flatMap λ b=>a5c wo p na b)) (nx12 _ zs rfl s6 hG6 lz (by simpa using pz)) (λ j σ H7 _ ⟨_,_,_,s7,_⟩=>SqL.of (s7 _ _ hF4)) ?_ ?_⟩
     ·rintro j z σ H7 hz ⟨x7,zs,rfl,s7,hG7,lz,pz⟩;have hj:j < ys.length:=(z0l.mp hz).1;obtain⟨nb,enb,hnb⟩:=a1g pn hz;refine nx35 _ rfl (Or.inl ⟨rfl,_,SqL.of hG7⟩) _ rfl _ ⟨rfl,nx22 _ rfl _ rfl (.ref sa) (nx19 y z D1 na nb p wo rfl (nx31 sa c f s qd kc (nx34 kf ks kq rfl (sc4.kf (KF.of s7)))) gh (a3b s7 hna) (a3b s7 hnb) (z0c ena) ⟨z0c enb,s7 _ _ hD4,λ D8 H8 ws hD8 s8 h8 pw=>?_⟩)⟩;have lw:ws.length<=90:=by rw[a1c pw];exact d3n gh _ _
      refine nx14 G D8 zs ws rfl rfl (s8 _ _ hG7) h8 (by lia) ?_;have kn:=KN.upd (o:=HO.lst (zs++ws)) (s8 _ _ hG7);refine nx12 _ _ rfl (λ b o eb=>?_) a0b (by rw[z0j];lia) ?_
      ·rw[a0g (show b≠G from λ z=>by rw[z,hG] at eb;cases eb)];exact s8 _ _ (s7 _ _ eb)
      ·rw[z0v,enb,z3s,<-z1c];refine a0r (a2k ((KN.of s8).trans kn) pz) ?_;show Paired _ ws (List.flatMap (λ b=>a5c wo p na b) [nb]);rw[z2n,z3m,z19];exact a2k kn pw
     ·rintro σ H7 ⟨x7,zs,rfl,s7,hG7,lz,pz⟩;refine nx17 _ _ _ rfl s7 hG7 (by lia) ?_;rw[<-nn,z0x] at pz;rw[z0v,ena,z3s];show Paired _ zs (_++List.flatMap (λ a=>(a2g wo p).flatMap λ b=>a5c wo p a b) [na]);rw[z2n,z3m,z19];exact pz
    ·rintro σ H6 ⟨x6,x7,zs,rfl,s6,hG6,lz,pz⟩;rw[<-nn,z0x] at pz;exact⟨_,rfl,q G H6 zs hGn (K4.trans (KF.of s6)) hG6 pz⟩
theorem b4x (T:Tx K mg):T.a9d.Ok P w base 2 d1w:=by
 refine okF T.a9d.F c5i λ _ _ _ _ _ _ _ _ hr h=>?_
 ·obtain⟨v,n,rfl,hn,q⟩:=h;have hu:=a2z hr;refine⟨_,(a0f (a0k (b2z (a0q a7i (by rfl) T.a1x z5d (a0a (pv 0) (a0a (b0v (v:=V.ty "tuple") rfl T.b5t boot_tuple rfl) a0d))) (b2z (b3o a4f (a0q a1f (by rfl) T.a3o z1a (a0a (pv 0) a0d)) a0c (a0n _)) (b2z (pcF T.a8u (b3f T) hr (a0a (pix a0t (pv 0) a0c) a0d)) (c3m (pcF T.a8u (b3f T) hr (a0a (pix a0t (pv 0) a0c) a0d)))))))),?_⟩;obtain⟨p,rfl,hp⟩:=hn;refine nx29 _ rfl _ _ _ _ rfl (b7a.tup hp) d5e ⟨_,rfl,b4g ?_⟩;refine ⟨_,rfl,nx15 _ _ rfl (.inr ⟨_,SqT.of hp,rfl⟩) rfl _ ⟨rfl,?_⟩⟩;refine a4n (λ _=>?_) (λ e=>absurd (z08 rfl) e);refine nx5 _ rfl p _ _ _ rfl rfl (SqT.of hp) (a0m (j:=0) rfl) (nx3 n.1 rfl true rfl (b4g ?_));exact nx11 _ rfl p (nx28 _ _ _ rfl rfl (SqT.of hp) (a0m (j:=1) rfl) n.2 rfl q)
theorem b8v (T:Tx K mg):T.b1t.Ok P w base 3 c3b:=by
 refine okF T.b1t.F b2n λ _ _ _ _ H _ _ _ hr h=>?_
 ·obtain⟨a,b,xs,ys,es,rfl,ha,pa,hb,pb,ok,q⟩:=h;have hu:=a2z hr;refine⟨_,(a0e (a2b (PW.pt (b8w (b4c (a7x (a0q a7i (by rfl) T.a1x z5d (a0a (pv 0) (a0a (b0v (v:=V.ty "list") rfl T.c9z boot_list rfl) a0d))))) (b4o (a0j b4i (a0q a1f (by rfl) T.a3o z1a (a0a (pv 0) a0d)) (a0q a1f (by rfl) T.a3o z1a (a0a (pv 1) a0d)) (a0n _)))))
   (a0f (a0k a7z))
   a0u)
   (a0e (a1w z18 rfl (d8s rfl T.d9p (a0a (pv 0) (a0a (pv 1) a0d))) (a5n rfl (a0o (pgm 2 b2n.nd) (a0o (pgm 3 b2n.nd) a3d)))
   (a0e (a2b (PW.pt (b8w (b4c (a7x (a0q a7i (by rfl) T.a1x z5d (a0a (pv 2) (a0a (b0v (v:=V.ty "tuple") rfl T.b5t boot_tuple rfl) a0d))))) (b8w (a0j b4i (a0q a1f (by rfl) T.a3o z1a (a0a (pv 2) a0d)) a0c (a0n _)) (b4o (a0j (c9w hr.units) (pv 2) (pv 3) (a0n _))))))
   (a0f (a0k a7z))
   a0u)
   (a0e (a2b (PW.pt (b8w (b4c (a7x (pcF T.a9d (b4x T) hr (a0a (pix a0t (pv 2) a0c) a0d)))) (b8w (b4c (a7x (pcF T.a9d (b4x T) hr (a0a (pix a0t (pv 2) a0c) a0d)))) (b4o (b4c (a7x (a0q a7i (by rfl) T.a1x z5d (a0a (pix a0t (pv 2) a0c) (a0a (b0v (v:=V.ty "str") rfl T.d7v boot_str rfl) a0d)))))))))
   (a0f (a0k a7z))
   a0u)
   (a0f (a2b (PW.pt (a5g (a0j a8n (pix a0t (pv 2) a0c) a3p (a0n _)) (a5b (b4c (a7x (pcF T.a8u (b3f T) hr (a0a (pix a0t (pv 2) a0c) a0d)))))))
   (a0f (a0k a7z))
   a0u)))))
   (a0f (a0k a7z)))),?_⟩
  show let z0:TS:=_;let z1:TS:=a5p _ _ _;let z2:TS:=a1h (a5p _ _ _) z1;let z3:TS:=a1h (a5p _ _ _) z2;let z4:TS:=a1h (b0o _ _ z3) z0;a1h (a5p _ _ _) z4 _ _ _
  intros;have lx:=a1c pa;have ly:=a1c pb;refine nx29 _ rfl _ _ _ _ rfl (b7a.lst ha) e2d ⟨_,rfl,a7o ?_⟩;refine nx33 _ rfl _ _ rfl (.inl ⟨_,SqL.of ha,rfl⟩) _ ⟨rfl,nx15 _ _ rfl (.inl ⟨_,SqL.of hb,rfl⟩) rfl _ ⟨rfl,?_⟩⟩;rw[d5c,z08 (by rw[lx,ly])];refine a7o ?_;refine nx3 _ rfl _ rfl (nx30 _ _ _ _ rfl (.list (SqL.of ha)) (.list (SqL.of hb)) (d9e (xs:=xs) (ys:=ys) (λ i σ H2=>∃ x2 x3:Option V,σ=[some (.ref a),some (.ref b),x2,x3]/\Same H H2) (nx9 none none rfl (Same.refl _)) (λ i σ H2 ⟨_,_,_,s2⟩=>⟨a2h (SqL.of (s2 _ _ ha)),a2h (SqL.of (s2 _ _ hb))⟩) ?_ ?_))
  ·rintro i x y σ H2 pz hx hy ⟨x2,x3,rfl,s2⟩ hpz;obtain⟨ex,eex,vx⟩:=a1g pa hx;obtain⟨ey,eey,vy⟩:=a1g pb hy;rw[eex] at eey;cases eey;have oke:=ok ex (z0c eex);have sp:=Same.upd (o:=HO.tup [x,y]) hpz;have S2:=s2.trans sp;have vx:=b0m _ _ _ _ (KN.of S2) vx;have vy:=b0m _ _ _ _ (KN.of S2) vy;refine nx15 pz _ rfl (SqT.of a0b) rfl _ (nx7 _ rfl _ _ rfl rfl ?_);generalize upd H2 pz (.tup [x,y])=H3 at sp S2 vx vy;have dx:=d6o (K:=K) vx;have dy:=d6o (K:=K) vy;obtain⟨tx,u1,u2,rfl,htx,n1,n2⟩:=vx;refine nx29 _ rfl _ _ _ _ rfl (b7a.tup htx) d5e ⟨_,rfl,a7o ?_⟩;refine ⟨_,rfl,nx15 _ _ rfl (.inr ⟨_,SqT.of htx,rfl⟩) rfl _ ⟨rfl,a7o ?_⟩⟩;refine nx3 _ rfl _ rfl (nx20 _ _ dx dy (b9p oke) (b9p oke) _ rfl ?_);rw[SeqAt.eqv_refl _ (b9o oke).1];refine a7o ?_;refine nx24 _ rfl tx _ _ _ rfl rfl (SqT.of htx) (a0m (j:=0) rfl) u1 ex.1 rfl n1 ⟨true,rfl,a7o ?_⟩;refine nx24 _ rfl tx _ _ _ rfl rfl (SqT.of htx) (a0m (j:=1) rfl) u2 ex.2.1 rfl n2 ⟨true,rfl,a7o ?_⟩;refine nx5 _ rfl tx _ _ _ rfl rfl (SqT.of htx) (a0m (j:=2) rfl) (nx2 _ _ (nx15 _ _ rfl (b7a.str _) e1r _ ⟨rfl,a7o ?_⟩));have e4:atI [u1,u2,V.str ex.2.2.1,oV ex.2.2.2] 3=some (oV ex.2.2.2):=a0m (j:=3) rfl;cases ez:ex.2.2.2 with
   | none =>
    rw[ez] at htx e4;exact nx36 _ rfl tx _ _ _ rfl rfl (SqT.of htx) e4 rfl ⟨_,rfl,a7o (a7o (nx9 _ _ rfl S2))⟩
   | some i =>
    rw[ez] at htx e4;exact nx36 _ rfl tx _ _ _ rfl rfl (SqT.of htx) e4 rfl ⟨_,rfl,b4g (nx5 _ rfl tx _ _ _ rfl rfl (SqT.of htx) e4 (nx3 i rfl true rfl (a7o (nx9 _ _ rfl S2))))⟩
  ·rintro σ H2 ⟨x2,x3,rfl,s2⟩;exact q H2 s2
theorem e0s (T:Tx K mg):T.d8u.Ok P w base 8 (d2u K):=by
 refine okF T.d8u.F b9e λ _ _ _ _ H _ Q _ hr h=>?_
 ·obtain⟨a,cs,rfl,ha,hcs,hbits,q⟩:=h;have hu:=a2z hr;refine⟨_,(a0e (psx 1 b9e.nd (pcF T.a8z (b4w T) hr (a0a (pv 0) a0d)))
   (a0e (psx 2 b9e.nd (pcF T.c2a (d3b T) hr (a0a (pcF T.a4d (a5l T) hr (a0a (pv 0) (a0a a0c a0d))) a0d)))
   (a0e (psx 3 b9e.nd (pcF T.c0t (d2d T) hr (a0a (pcF T.b6z (c6r T) hr (a0a (pv 1) (a0a (pv 2) a0d))) (a0a (pv 1) a0d))))
   (a0e (psx 4 b9e.nd (b6r ((ok_edges T).mono (by decide)) hr rfl T.a4e.m T.a4e.F.kp T.a4e.b .nil c6g (a0a (pv 1) (a0a (pv 2) a0d))))
   (a0e (a2b (b4c (a7x (pcF T.b1t (b8v T) hr (a0a (pv 4) (a0a (pv 3) a0d)))))
   (a0f (a0k a7z))
   a0u)
   (a0e (a2b (PW.pt (a5g (a0j c3j (pv 2) a3p (a0n _)) (a5b (a0j (c9w hr.units) (b6r ((ok_edges T).mono (by decide)) hr rfl T.a4e.m T.a4e.F.kp T.a4e.bd (show a2e [V.non] [Value.none] from .cons rfl .nil) c6g (a0a (pv 1) a0d)) (pv 3) (a0n _)))))
   (a0f (a0k a7z))
   a0u)
   (a0e (a1u (e0w z1h F.slot_list_clear F.type_list_clear c6x (pv 4)))
   (a0f (a0k (b2z (pcF T.b1t (b8v T) hr (a0a (b6r ((ok_edges T).mono (by decide)) hr rfl T.a4e.m T.a4e.F.kp T.a4e.b .nil c6g (a0a (pv 1) (a0a (pv 2) a0d))) (a0a (pv 3) a0d))) (c3m (b3o (d5d hr.units) (pv 1) (pcF T.a8z (b4w T) hr (a0a (pv 0) a0d)) (a0n _))))))))))))),?_⟩
  show let z0:TS:=_;let z1:TS:=a1h _ z0;let z2:TS:=a1h (a5p _ _ _) z1;let z3:TS:=a1h (a5p _ _ _) z2;let z4:TS:=a1h _ z3;let z5:TS:=a1h _ z4;let z6:TS:=a1h _ z5;a1h _ z6 _ _ _
  intros;have gh:=d7p cs;refine nx7 _ rfl a cs rfl ha ⟨hcs,λ v H1 s1 t1=>?_⟩;refine nx11 _ rfl a (nx15 cs 0 rfl (s1.seq ha) (by decide) _ ⟨rfl,λ H2 s2=>?_⟩);have win:=d7a (b1u cs 0);generalize c6d (b1u cs 0)=wo at win;have lay:=d4b (p:=b9t cs) λ d hd=>(gh.gp.2.2 d hd).1
  generalize hp:b9t cs=p at *;have t2:=t1.same s2;have okw:∀ e∈b0q wo p,b7s e:=λ e he=>c2g he
  obtain⟨sh1,sh2⟩:=c6e okw;refine nx3 _ rfl _ rfl (nx17 v p wo rfl t2 gh win λ sv H3 s3 sc=>?_);refine nx5 _ rfl sv v p wo rfl sc gh (t2.same s3) λ D4 H4 ys hD4 k4 h4 p4=>?_;have t4:=(t2.same s3).kf k4;refine nx3 _ rfl _ rfl (nx17 v p wo rfl t4 gh win λ D5 H5 xs hD5 s5 h5 p5=>?_);have t5:=t4.same s5;refine nx22 _ rfl _ rfl D5 (nx14 D4 xs ys (b0q wo p) rfl h5 p5 (s5 _ _ h4) (a2k (KN.of s5) p4) ⟨okw,λ H6 s6=>⟨true,rfl,a7o ?_⟩⟩);have t6:=t5.same s6;have hD4':∀ {H7:Hp},Same H6 H7->H7 D4=some (.lst ys):=λ s7=>s7 _ _ (s6 _ _ (s5 _ _ h4))
  have b6e:∀ H7:Hp,Same H6 H7->a1h (e0z (e6j K "list" rClearA (c8m 4))) (e6b (e1k (c6w c3b [] E0 (c1v (c6w c8x [] E0 (c1v (c8m 1) (c1v (c8m 2) d9x))) (c1v (c8m 3) d9x))) (tOp (e6i K) (c8m 1) (c6w (c3u K) [] E0 (c1v (c8m 0) d9x))))) {nx:=λ _ H'=>Q V.non H',rt:=Q} [some (.ref a),some v,some (wV wo),some (.ref D4),some (.ref D5)] H7:=λ H7 s7=>by
   have S7:Same H5 H7:=s6.trans s7;refine ⟨_,rfl,Or.inl ⟨rfl,_,SqL.of (S7 _ _ h5)⟩,nx8 D5 xs rfl rfl (S7 _ _ h5) λ H8 k8=>?_⟩;have S48:Same H4 H8:=λ b o eb=>k8 b o (λ z=>by rw[z,hD5] at eb;cases eb) (S7 _ _ (s5 _ _ eb))
   have t8:=t4.same S48;have p8:=a2k (KN.of S48) p4;refine nx3 _ rfl _ rfl (nx17 v p wo rfl t8 gh win λ D9 H9 zs hD9 s9 h9 p9=>?_);refine nx11 _ rfl D9 (nx14 D4 zs ys (b0q wo p) rfl h9 p9 (s9 _ _ (S48 _ _ h4)) (a2k (KN.of s9) p8) ⟨okw,λ Ha sa=>⟨true,rfl,b4g ?_⟩⟩);have ka:KF H Ha:=(KF.of (s1.trans (s2.trans s3))).trans (k4.trans (KF.of (S48.trans (s9.trans sa))));have haa:SqL K Ha a (cs.map V.int):=by
    rcases ha with z | z
    ·refine .inl ?_;rcases z with z | ⟨ob,z⟩
     ·exact .inl (ka.lst z)
     ·exact .inr ⟨ob,ka.frz z⟩
    ·exact .inr z
   refine nx3 _ rfl _ rfl (nx8 a cs rfl haa hcs λ v' Hb sb tb=>?_);rw[hp] at tb;refine nx12 (a4o p) (a4o p) ((t8.same (s9.trans (sa.trans sb))).dt) tb.dt lay.2.2 lay.2.2 ?_;rw[SeqAt.eqv_refl (a4o p) lay.1];exact q _
  cases wo with
  | some x=>exact nx6 _ rfl rfl _ rfl (a7o (a7o (b6e H6 (Same.refl _))))
  | none =>
   refine nx6 _ rfl rfl _ rfl (b4g ?_);refine nx11 _ rfl v (nx12 p none rfl t6 gh (λ x e=>by cases e) λ D7 H7 zs hD7 s7 h7 p7=>?_);refine ⟨_,rfl,nx20 _ _ (.lst (SqL.of h7) (c2q p7)) (.lst (SqL.of (hD4' s7)) (c2q (a2k (KN.of (s5.trans (s6.trans s7))) p4))) sh1 sh1 _ rfl ?_⟩;rw[sh2];exact a7o (b6e H7 s7)
end
open PySem.W in
theorem all_mk {l:OpenLaw} {w:World} {K:Frag} {h:Heap} {mg:Str->Option Value} {fa:Addr} (X:K.In h) (G:h.Ns mainGlobals mg) (hfa:mg "law"=some (.ref fa))
  {ec0:Addr} (e0:nsIn K mainGlobals "Loose"=some (some (.ref ec0)))
  {ec1:Addr} (e1:nsIn K mainGlobals "Kept"=some (some (.ref ec1)))
  {ec2:Addr} (e2:nsIn K mainGlobals "Make"=some (some (.ref ec2)))
  {ec3:Addr} (e3:nsIn K mainGlobals "Watch"=some (some (.ref ec3)))
  {ec4:Addr} (e4:nsIn K mainGlobals "Hold"=some (some (.ref ec4)))
  {f0:Addr} (g0:FmH K ec0 "word" "Loose.word" (cm 5 0) f0)
  {f1:Addr} (g1:FmH K ec0 "spots" "Loose.spots" (cm 5 6) f1)
  {f2:Addr} (g2:FmH K ec0 "look_spot" "Loose.look_spot" (cm 5 7) f2)
  {f3:Addr} (g3:FmH K ec0 "first_spot" "Loose.first_spot" (cm 5 8) f3)
  {f4:Addr} (g4:FmH K ec1 "word" "Kept.word" (cm 6 0) f4)
  {f5:Addr} (g5:FmH K ec1 "spots" "Kept.spots" (cm 6 2) f5)
  {f6:Addr} (g6:FmH K ec1 "look_spot" "Kept.look_spot" (cm 6 3) f6)
  {f7:Addr} (g7:FmH K ec1 "first_spot" "Kept.first_spot" (cm 6 4) f7)
  {f8:Addr} (g8:FmH K ec2 "word" "Make.word" (cm 7 0) f8)
  {f9:Addr} (g9:FmH K ec2 "spots" "Make.spots" (cm 7 3) f9)
  {f10:Addr} (g10:FmH K ec2 "look_spot" "Make.look_spot" (cm 7 4) f10)
  {f11:Addr} (g11:FmH K ec2 "first_spot" "Make.first_spot" (cm 7 5) f11)
  {f12:Addr} (g12:FmH K ec3 "word" "Watch.word" (cm 8 0) f12)
  {f13:Addr} (g13:FmH K ec3 "spots" "Watch.spots" (cm 8 2) f13)
  {f14:Addr} (g14:FmH K ec4 "word" "Hold.word" (cm 9 0) f14)
  {f15:Addr} (g15:FmH K ec4 "spots" "Hold.spots" (cm 9 2) f15)
  {f16:Addr} (g16:FmH K ec4 "look_spot" "Hold.look_spot" (cm 9 3) f16)
  {f17:Addr} (g17:FmH K ec4 "first_spot" "Hold.first_spot" (cm 9 4) f17)
  (g18:FeH K "level_of" (top 10))
  (g19:FeH K "levels_of" (top 15))
  (g20:FeH K "spots_of" (top 16))
  (g21:FeH K "keeps_of" (top 17))
  (g22:FeH K "firsts_of" (top 18))
  (g23:FeH K "with_later" (top 19))
  (g24:FeH K "own_edges" (top 20))
  (g25:FeH K "pair_edges" (top 21))
  (g26:FeH K "deal_edges" (top 22))
  (g27:FeH K "look_edges" (top 23))
  (g28:FeH K "over_edges" (top 24))
  (g29:FeH K "rank" (top 25))
  (g30:FdH K "edges" (top 26))
  (g31:FeH K "_law_cell_at" (top 28))
  (g32:FeH K "_law_whole" (top 29))
  (g33:FeH K "_law_stream" (top 30))
  (g34:FeH K "_law_keys" (top 31))
  (g35:FeH K "_law_times" (top 32))
  (g36:FeH K "_law_drawn" (top 33))
  (g37:FeH K "_law_source" (top 34))
  (g38:FeH K "_law_spoiled" (top 35))
  (g39:FeH K "_law_tale" (top 36))
  (g40:FeH K "_law_longer" (top 37))
  (g41:FeH K "_law_many" (top 38))
  (g42:FeH K "_law_spot" (top 39))
  (g43:FeH K "_law_first" (top 40))
  (g44:FeH K "_law_scene" (top 41))
  (g45:FeH K "_law_saw" (top 42))
  (g46:FeH K "_law_unseen" (top 43))
  (g47:FeH K "_law_over" (top 44))
  (g48:FeH K "_law_between" (top 45))
  (g49:FeH K "_law_ways" (top 46))
  (g50:FeH K "_law_word" (top 47))
  (g51:FeH K "_law_is_spot" (top 48))
  (g52:FeH K "_law_alike" (top 49))
  (g53:FeH K "law" (top 50))
  (d8x:CoH K ec0)
  (e3u:CoH K ec1)
  (e1m:CoH K ec2)
  (d8f:CoH K ec3)
  (b1i:a8q K ec3 "look_spot" f10)
  (b0k:a8q K ec3 "first_spot" f11)
  (e1o:CoH K ec4)
  (tgx:specialIn K (.builtin "object.__class__") "__get__"=some (some (.builtin "getset_descriptor.__get__")))
  (ttx:takesIn K (.builtin "object.__class__")=some true)
  {e4p:Tok} (n0:nsIn K mainGlobals "START"=some (some (.int (0) e4p)))
  {e4o:Tok} (n1:nsIn K mainGlobals "UNKEPT"=some (some (.int (-1) e4o)))
  {ca2:Addr} {cs2:Array (Option Value)} {cn2:Nat} {cx2_0 cx2_1 cx2_2 cx2_3:Tok} (n2:nsIn K mainGlobals "KINDS"=some (some (.ref ca2))) (q2:K.lookup ca2=some ⟨.type "tuple",none,.seq #[.str "own" cx2_0,.str "saw" cx2_1,.str "unseen" cx2_2,.str "over" cx2_3] cn2,cs2⟩)
  (c9u:nsIn K mainGlobals "bool"=some none)
  (b3x:nsIn K mainGlobals "dict"=some none)
  (a6a:nsIn K mainGlobals "enumerate"=some none)
  (d8v:nsIn K mainGlobals "int"=some none)
  (a1x:nsIn K mainGlobals "isinstance"=some none)
  (a3o:nsIn K mainGlobals "len"=some none)
  (c9z:nsIn K mainGlobals "list"=some none)
  (a3f:nsIn K mainGlobals "range"=some none)
  (d6x:nsIn K mainGlobals "set"=some none)
  (a5s:nsIn K mainGlobals "sorted"=some none)
  (d7v:nsIn K mainGlobals "str"=some none)
  (b5t:nsIn K mainGlobals "tuple"=some none)
  (d9p:nsIn K mainGlobals "zip"=some none)
  : ∃ fd:FuncData,(∀ (s:Shared) (v:Value),BindsTo s fd ⟨[v],[]⟩ [("_law_script",v)])/\∀ base:Heap,K.In base->base.Ns mainGlobals mg->b1f l.prog w K mg base CX0 8 fa fd ["_law_script"] (d2u K):=by
 have T:Tx K mg:=by
  refine⟨f0,g0.fm ?_,f1,g1.fm ?_,f2,g2.fm ?_,f3,g3.fm ?_,f4,g4.fm ?_,f5,g5.fm ?_,f6,g6.fm ?_,f7,g7.fm ?_,f8,g8.fm ?_,f9,g9.fm ?_,f10,g10.fm ?_,f11,g11.fm ?_,f12,g12.fm ?_,f13,g13.fm ?_,f14,g14.fm ?_,f15,g15.fm ?_,f16,g16.fm ?_,f17,g17.fm ?_,g18.fe X G ?_,g19.fe X G ?_,g20.fe X G ?_,g21.fe X G ?_,g22.fe X G ?_,g23.fe X G ?_,g24.fe X G ?_,g25.fe X G ?_,g26.fe X G ?_,g27.fe X G ?_,g28.fe X G ?_,g29.fe X G ?_,g30.fd X G ?_ ?_,g31.fe X G ?_,g32.fe X G ?_,g33.fe X G ?_,g34.fe X G ?_,g35.fe X G ?_,g36.fe X G ?_,g37.fe X G ?_,g38.fe X G ?_,g39.fe X G ?_,g40.fe X G ?_,g41.fe X G ?_,g42.fe X G ?_,g43.fe X G ?_,g44.fe X G ?_,g45.fe X G ?_,g46.fe X G ?_,g47.fe X G ?_,g48.fe X G ?_,g49.fe X G ?_,g50.fe X G ?_,g51.fe X G ?_,g52.fe X G ?_,g53.fe X G ?_,ec0,mg_of X G e0,ec1,mg_of X G e1,ec2,mg_of X G e2,ec3,mg_of X G e3,ec4,mg_of X G e4,d8x,g0.m,g1.m,g2.m,g3.m,e3u,g4.m,g5.m,g6.m,g7.m,e1m,g8.m,g9.m,g10.m,g11.m,d8f,g12.m,g13.m,b1i,b0k,e1o,g14.m,g15.m,g16.m,g17.m,tgx,ttx,_,mg_of X G n0,_,mg_of X G n1,ca2,mg_of X G n2,λ _=>.inr (nx17 _ _ _ q2 rfl rfl (by show 4<=sizeLine;decide) (.cons ⟨_,rfl⟩ (.cons ⟨_,rfl⟩ (.cons ⟨_,rfl⟩ (.cons ⟨_,rfl⟩ .nil))))),⟨_,q2,rfl,rfl⟩,z2e X G c9u,z2e X G b3x,z2e X G a6a,z2e X G d8v,z2e X G a1x,z2e X G a3o,z2e X G c9z,z2e X G a3f,z2e X G d6x,z2e X G a5s,z2e X G d7v,z2e X G b5t,z2e X G d9p⟩;all_goals first | (intro _ _ _ _ _ _ us hl;first | (obtain⟨_,rfl⟩:=us1 hl;rfl) | (obtain⟨_,_,rfl⟩:=us2 hl;rfl) | (obtain⟨_,_,_,rfl⟩:=us3 hl;rfl) | (obtain⟨_,_,_,_,rfl⟩:=us4 hl;rfl) | (obtain⟨_,_,_,_,_,rfl⟩:=us5 hl;rfl)) | (intro _ _ _ _ _ _ _ us hl;rw[z19] at hl ⊢;obtain⟨_,_,rfl⟩:=us2 hl;exact⟨_,rfl,rfl⟩) | (intro _ _ _ _ _ _ _ us hl;obtain⟨_,rfl⟩:=us1 (us:=us) (by simpa using hl);exact⟨_,rfl,rfl⟩)
 exact T.d8u.law hfa (λ _ _ _ _ _ _ _=>rfl) λ base=>e0s T
theorem walk {l:W.OpenLaw} {q:Program} {loose:List Str} {XP:(Str->Option Value)->Heap->Prop} {YP:World->Heap->Prop} {d:DefRec} {K:Params->W.Frag} (hn:l.most=some 63) (hdf:d.params.defaults=[])
  (hY:∀ (w:World) (h:Heap),YP w h->(K w.params).In h)
  (F:∀ (w:World) (mg:Str->Option Value) (fa:Addr) (h:Heap),(K w.params).In h->h.Ns mainGlobals mg->mg d.name=some (.ref fa) ->
   ∃ fd:FuncData,(∀ (s:Shared) (u:Value),BindsTo s fd ⟨[u],[]⟩ [("_law_script",u)])/\∀ base:Heap,(K w.params).In base->base.Ns mainGlobals mg->b1f l.prog w (K w.params) mg base CX0 8 fa fd ["_law_script"] (d2u (K w.params))) :
  W.WalkO q loose XP YP l.row.toRowW d [] (λ f vs=>PySem.call f vs) :=
 My.d3o (n:=63) (k:=8) (x:="_law_script") (CX:=λ _=>CX0) (sp:=λ w=>d2u (K w.params)) hn (by decide) hdf ⟨rfl,by decide,by decide⟩ hY F (λ _ _ a ns hl hb _ hS=> nx12 a ns rfl hS hl hb λ _=>rfl) λ _ _ _ _ _ z=>z
end Lw
namespace PySem.W.Fast
def tw1571441067728684066:=0
def tw13866100325075352746:=0
def tw13790409085877041635:=0
def tw10676897825183932624:=0
def tw14420574651845610706:=0
def tw14103408387651368235:=0
def tw3654562691214407437:=0
def tw386619518373602581:=0
def tw8102760967648109414:=0
def tw7690296972228941683:=0
def tw8914415114475524319:=0
def tw10586421328374520986:=0
def tw1730805283743265852:=0
def tw12132596814088275416:=0
def tw10138022784811438675:=0
def tw6875726654406501016:=0
def tw10528250605460863754:=0
def tw9323883596055112547:=0
def tw4561151247735654153:=0
def tw13159582150264411696:=0
def tw9308308038328637529:=0
def tw9635173929995453811:=0
def tw14586848008303504820:=0
def tw4960280746442912837:=0
def tw2207731628789033511:=0
def tw5974229033851685501:=0
def tw15441960376589780267:=0
def tw5372034091746776231:=0
def tw5745843498675071438:=0
def tw9970297145768522294:=0
def tw9918119490856608690:=0
def tw14553711611250687397:=0
def tw7084239673349017768:=0
def tw14023292303515853738:=0
def tw16034143149563402915:=0
def tw2579636663430492148:=0
def tw16631649217011211746:=0
def tw3862461244508207808:=0
def tw7308269907957206008:=0
def tw5611282946116299828:=0
def tw6449229956698980678:=0
def tw11979107875065084270:=0
def tw16019734607101431988:=0
def tw5161500681447557695:=0
def tw15047250289507576552:=0
def tw16419156004295290706:=0
def tw1255687330879841563:=0
def tw8652663533064602590:=0
def tw12001105010432733991:=0
def tw7777208949916260156:=0
def tw14957664252230025088:=0
def tw15788798816003807817:=0
def tw13319740207793067164:=0
def tw14539528727523952929:=0
def tw18248951094440265623:=0
def tw5806045517795613554:=0
def tw9983030653076533994:=0
def tw10729667165752217695:=0
def tw5668462756660705101:=0
def tw8110898866733998651:=0
def tw15373505737614984206:=0
def tw5722462412732149261:=0
def tw8004290376229280806:=0
def tw1934416022278197520:=0
def tw13343088550837110067:=0
def tw11780974625959436748:=0
def tw7075193203148524303:=0
def tw5490852041610395903:=0
def tw15428026235961953032:=0
def tw12735756445920135565:=0
def tw5862279582952905457:=0
def tw1123389118720762882:=0
def tw3571783039079003058:=0
def tw3510763389186507347:=0
def tw2279461377829171464:=0
def tw3180793910401831581:=0
def tw7388378325084686458:=0
def tw2323079441004626487:=0
def tw17893646748647302422:=0
def tw6815781574387393299:=0
def tw4891838896344731123:=0
def tw18426411006133033413:=0
def tw13892966462025639798:=0
def tw4577673075043009348:=0
def tw8767009267465401265:=0
def tw10141089145289715065:=0
def tw1590551528781094206:=0
def tw3769528055370699141:=0
def tw16863981405975571215:=0
def tw11818131506946174794:=0
def tw15126553686847438654:=0
def tw869212124736538702:=0
def tw727527949411541243:=0
def tw1046161097514648704:=0
def tw3744477269063802965:=0
def tw14159433436372949150:=0
def tw13119693686548995012:=0
def tw1251480838824294183:=0
def tw3043857422324247241:=0
def tw12117694815960056734:=0
def tw17526007805285172618:=0
def tw2132464716172623195:=0
def tw9793293604364788250:=0
def tw268714750800830127:=0
def tw6394658120709466850:=0
def tw15585401839117345432:=0
def tw1347044951493461522:=0
def tw2558573268723200711:=0
def tw6192693951518754739:=0
def tw15963147645155654300:=0
def tw9214719946076631620:=0
def tw12699958630404123425:=0
def tw14037059690346985515:=0
def tw1858946148825217622:=0
def tw11884152035355816:=0
def tw9830367657306552162:=0
def tw2656128017012373029:=0
def tw13486025337502499352:=0
def tw14737201504490309864:=0
def tw6649373302650613302:=0
def tw16798586269108115532:=0
def tw3216833704483523378:=0
def tw9290162698530084884:=0
def tw14367242115831956802:=0
def tw16198055036452556218:=0
def tw2777763017393352951:=0
def tw15715419564045953855:=0
def tw450476571921834333:=0
def tw5267470969117571518:=0
def tw4134820916890735231:=0
def tw6313614070712156520:=0
def tw12626903734710269003:=0
def tw6919828617723734194:=0
def tw13360005971258434841:=0
def tw2047541962531371234:=0
def tw7429989944881110252:=0
def tw13550695661038568013:=0
def tw15751650075915159824:=0
def tw2065223118062963220:=0
def tw533644542028972486:=0
def tw15851812053324973421:=0
def tw2478173155776571985:=0
def tw951785640758103361:=0
def tw13214323498118760760:=0
def tw4061043723558357599:=0
def tw6327543591509900164:=0
def tw6036988121015150270:=0
def tw8761011457052186305:=0
def tw17284372289703103684:=0
def tw5959858012553936881:=0
def tw11565240784533071492:=0
def tw4489787212920033516:=0
def tw5197328437574222598:=0
def tw16653440921713635801:=0
def tw3035078793889510885:=0
def tw9407679802032634998:=0
def tw1490788996934377396:=0
def tw4727570877214976975:=0
def tw9200266465075342440:=0
def tw17671565055454140970:=0
def tw16760081994188011296:=0
def tw3377338382465764157:=0
def tw9892269162663761610:=0
def tw6910509494018617908:=0
def tw258607840831968317:=0
def tw10172577568731531480:=0
def tw2924872981422953408:=0
def tw13647999911407813680:=0
def tw18011717388940165331:=0
def tw15853461341671074073:=0
def tw9784450413540549213:=0
def tw5113219841390957753:=0
def tw6994500270245544986:=0
def tw9572996443685668140:=0
def tw15984939992563315431:=0
def tw638194759149551445:=0
def tw12179942047312227230:=0
def tw16455263699161058339:=0
def tw13334637139499584112:=0
def tw14571231846561515573:=0
def tw3542974893702522840:=0
def tw15407504532311723575:=0
def tw5283364014585739730:=0
def tw6663534038530401901:=0
def tw18378837486759197798:=0
def tw2843430344609992501:=0
def tw15917220460322940789:=0
def tw17589829373639766938:=0
def tw7991642263124083102:=0
def tw12069417834357688013:=0
def tw5623105832121616463:=0
def tw3469005182057349369:=0
def tw15798893929878853411:=0
def tw3676482556115863837:=0
def tw9844676998024727611:=0
def tw15578716067998966003:=0
def tw13233254794803829475:=0
def tw6278024986211468044:=0
def tw7070612507849922770:=0
def tw1168395252070228390:=0
def tw5232082926241395797:=0
def tw10102119554302038629:=0
def tw7614879590484353310:=0
def tw15935071964565850723:=0
def tw4424347042088794603:=0
def tw16983871212034163504:=0
def tw13875240671775257293:=0
def tw14735522848401828354:=0
def tw17661928389920734563:=0
def tw847460853974237435:=0
def tw5840936472862821868:=0
def tw14081295146146795170:=0
def tw3609501611176547424:=0
def tw10426390726448559078:=0
def tw9568163309591866585:=0
def tw4171169778616331724:=0
def tw1452427929247164379:=0
def tw5213268466629037371:=0
def tw7714463859836470327:=0
def tw9028333861442378314:=0
def tw17395212470926505328:=0
def tw12820881284218359316:=0
def tw7197813171564016779:=0
def tw12980521924685000761:=0
def tw11752925855887827259:=0
def tw15913088069539465179:=0
def tw2103448634079230185:=0
def tw4445715795396631163:=0
def tw2129132518181633231:=0
def tw12982715740877289720:=0
def tw16357551992145294516:=0
def tw3417669412620534483:=0
def tw7460614618145500137:=0
def tw3628182302672674961:=0
def tw2619823059199157647:=0
def tw15647268465324048366:=0
def tw3867461816760905945:=0
def tw8576385811309585826:=0
def tw6451040581037384017:=0
def tw324185688168817714:=0
def tw14357262845907408251:=0
def tw13743386443089507598:=0
def tw2389828974073520284:=0
def tw5218627897408689767:=0
def tw16906832342805534082:=0
def tw3738892906328780710:=0
def tw4728944593705817643:=0
def tw13617821046280238869:=0
def tw7920986232810284432:=0
def tw1887801622399619078:=0
def tw1316509458200440951:=0
def tw17592632352967136924:=0
def tw15349613046002456563:=0
def tw11281944341250155448:=0
def tw2254084396716560828:=0
def tw16992818397709719834:=0
def tw15142136267614816502:=0
def tw8803882760670424918:=0
def tw6655555460351876071:=0
def tw8579510762577493011:=0
def tw15777576240611378354:=0
def tw8923464158155999813:=0
def tw10534808672668720632:=0
def tw9454165904305967610:=0
def tw7334427459694579441:=0
def tw12478308256176173069:=0
def tw11265621353812595616:=0
def tw11187216531348473234:=0
def tw16447979864842487421:=0
def tw6615478696361237639:=0
def tw1980197791388412761:=0
def tw7510268636987106381:=0
def tw1176243241219922119:=0
def tw6687157588955114467:=0
def tw3793061904913122479:=0
def tw1278656661379773953:=0
def tw5966410529461333609:=0
def tw6793568229467908606:=0
def tw16211530867687546662:=0
def tw5389681941740769987:=0
def tw13849225165966429892:=0
def tw2274772920205252813:=0
def tw17409402438712859016:=0
def tw281190041406576125:=0
def tw15312091951335287579:=0
def tw3894177675769474851:=0
def tw16245869491709920038:=0
def tw5148267478976325915:=0
def tw14278874634398467442:=0
def tw4071917575625610852:=0
def tw15296982136352090636:=0
def tw7574630529141962123:=0
def tw18305788793413147626:=0
def tw13398519347032404436:=0
def tw15209727139137276921:=0
def tw956470490934866267:=0
def tw14633313209973177349:=0
def tw5165563251366669506:=0
def tw2765995700217800844:=0
def tw6170029224466346115:=0
def tw11392142045685892354:=0
def tw17227576856809606084:=0
def tw6746828892752554010:=0
def tw3492170546316576450:=0
def tw8956553476107571261:=0
def tw18176979038027343326:=0
def tw7951465628800080673:=0
def tw3392794484028195182:=0
def tw18393115765156550304:=0
def tw6479689656102860059:=0
def tw23177423544160958:=0
def tw9266189056749385845:=0
def tw18431528556546125976:=0
def tw13335033073847421802:=0
def tw6456082047094344341:=0
def tw4970439649827803725:=0
def tw6094717129062024165:=0
def tw5825924585015177506:=0
def tw3918282158591091225:=0
def tw11880950814992164096:=0
def tw2713475822255199796:=0
def tw3978308808983296331:=0
def tw10108662877346515131:=0
def tw12638381368893872234:=0
def tw9622785114553943781:=0
def tw4524630699019436616:=0
def tw15472212794083589275:=0
def tw10238879186594858179:=0
def tw9175244822288554351:=0
def tw4611678979669295911:=0
def tw11716654269057973005:=0
def tw16087012601594410454:=0
def tw5419616371195067248:=0
def tw11462722597910587730:=0
def tw14463532606321593535:=0
def tw5960998399624312390:=0
def tw10848556591019590432:=0
def tw657420303087479354:=0
def tw15952101494622032262:=0
def tw16662248716984712345:=0
def tw12702348781042204432:=0
def tw6364289113688209818:=0
def tw17066721692334892330:=0
def tw9698356504324537236:=0
def tw2621830373153949417:=0
def tw4282844489608911220:=0
def tw11622609138622171965:=0
def tw7352390387053150851:=0
def tw5201531440255014109:=0
def tw4332672039679094002:=0
def tw13858808852258278020:=0
def tw7159046323315833754:=0
def tw17695096993145947203:=0
def tw1541752843421288407:=0
def tw16806934974676310645:=0
def tw6341589062453961313:=0
def tw8567054246306850142:=0
def tw10975862369735604016:=0
def tw12675050697312553524:=0
def tw9917652451370157170:=0
def tw16249878055810916973:=0
def tw8453999244452599146:=0
def tw8698745129157325049:=0
def tw4071466458482152423:=0
def tw4916440218441608857:=0
def tw11434689210379582701:=0
def tw10017797742307451888:=0
def tw3873130774277352077:=0
def tw12055665931627043252:=0
def tw6419370767492549042:=0
def tw155840969187084438:=0
def tw10484869473242720148:=0
def tw11933110554650139997:=0
def tw16848265337582439333:=0
def tw15396614938659875387:=0
def tw5343556666746503899:=0
def tw14022380291488846192:=0
def tw8151868534435515877:=0
def tw10713612442661553170:=0
def tw13039530949212100716:=0
def tw1015317749333297934:=0
def tw13231057971451124027:=0
def tw12365490877062068851:=0
def tw1877245154146752162:=0
def tw6762319662018571126:=0
def tw6514108805260118809:=0
def tw5509671497840351369:=0
def tw1637207513507621686:=0
def tw1283770727016484765:=0
def tw10634414358798392363:=0
def tw8259124356206393756:=0
def tw15628180250465936158:=0
def tw4748561137553085480:=0
def tw12215729299131360774:=0
def tw6358244723005358310:=0
def tw5743377674034511268:=0
def tw3225021192667454474:=0
def tw9921205607009416582:=0
def tw17045191354264083588:=0
def tw14976207797591490958:=0
def tw12969570290404662572:=0
def tw2410503623885721448:=0
def tw12154929398220340040:=0
def tw15657186078229427519:=0
def tw17340924467826435944:=0
def tw16197613596844049804:=0
def tw15684842108792865192:=0
def tw1391152446265281979:=0
def tw16635863268683493486:=0
def tw8700815817949145626:=0
def tw6486416773560346801:=0
def tw2287974113081256376:=0
def tw16274324749284997293:=0
def tw12195790626645072679:=0
def tw16573748000912797459:=0
def tw16153448362363628251:=0
def tw11405941938433650444:=0
def tw15836040087393067400:=0
def tw16284548915069501334:=0
def tw1695364068523713977:=0
def tw16311430892729889413:=0
def tw16513800203200755676:=0
def tw6591500396545066279:=0
def tw10040670027678405069:=0
def tw16344753260955836495:=0
def tw8421683408982180679:=0
def tw16672452923874128474:=0
def tw9928602634591571280:=0
def tw15938672626042897368:=0
def tw17475016039701484943:=0
def tw11836621584990056247:=0
def tw11048141128046285761:=0
def tw8804657609725458618:=0
def tw9691267706165033518:=0
def tw5049813218439860923:=0
def tw7490861807728792086:=0
def tw13373271117050538997:=0
def tw17259247626373837171:=0
def tw924021721509848391:=0
def tw5274853919312772045:=0
def tw4640192415607850972:=0
def tw15700452429460065887:=0
def tw12648655497516744932:=0
def tw7614766098455084204:=0
def tw1049976373934517072:=0
def tw9242267151378833680:=0
def tw6065699347184416758:=0
def tw3449363894040210251:=0
def tw1424218499761145366:=0
def tw8809331280752177065:=0
def tw3145250884599067608:=0
def tw7893854261700311037:=0
def tw8755103690022713651:=0
def tw9027731588171973761:=0
def tw9628286890706974128:=0
def tw1672987773911364738:=0
def tw1694742948437797955:=0
def tw18060727995693298063:=0
def tw9868149861012860117:=0
def tw16441072283129982429:=0
def tw2219855076688415337:=0
def tw5374245821243133507:=0
def tw3078743908119349780:=0
def tw9463432907912107141:=0
def tw3512539691599495400:=0
def tw4659421354453966442:=0
def tw18387813404160975025:=0
def tw17997281160096904662:=0
def tw6040158305718811856:=0
def tw17823826157404905875:=0
def tw2691028167334554654:=0
def tw16246088517851559099:=0
def tw15626138638658056882:=0
def tw15845957702719129554:=0
def tw15995376893303052096:=0
def tw9324762067384554446:=0
def tw13845110944189769849:=0
def tw15466801654022464807:=0
def tw17477863865190589629:=0
def tw15999099804996152423:=0
def tw3589656180819811469:=0
def tw7355995547176216337:=0
def tw11801459975650074911:=0
def tw1473093075732223282:=0
def tw17171988015109967906:=0
def tw15862712327531826621:=0
def tw7019937174226778637:=0
def tw3086138180328980615:=0
def tw17666211435061077692:=0
def tw14391524333663354931:=0
def tw5559803919411220358:=0
def tw14906009022000149711:=0
def tw14091842940299725668:=0
def tw12943110841615061882:=0
def tw1915102693548772036:=0
def tw7613200784062295830:=0
def tw17285442135009517601:=0
def tw16203315235044218658:=0
def tw15561212891475871709:=0
def tw5179110087701492097:=0
def tw1324980922004603840:=0
def tw16458164779470903986:=0
def tw11940805041005073020:=0
def tw11494956638274149419:=0
def tw11981635528460217399:=0
def tw16340927873672604811:=0
def tw302299695905450624:=0
def tw3694607277030661944:=0
def tw4014751068145711175:=0
def tw3618336134179993118:=0
def tw7445098435689290617:=0
def tw12267597903906823149:=0
def tw18075578098960883739:=0
def tw13919091679960374822:=0
def tw12102427133960895564:=0
def tw17657607975134773670:=0
def tw5333981264909154130:=0
def tw12263975459786408172:=0
end PySem.W.Fast
open PySem PySem.W PyProof.Rows
set_option maxRecDepth 100000 in
set_option maxHeartbeats 0 in
theorem PySem.Challenge.cw_skewhouse_k62_edges_holds : PySem.Challenge.rw_skewhouse_k62_edges.Holds := by
 w_on;o_law;k_head;(case hw=>w_witness2)
 k_fill
 refine Lw.walk (l:=PySem.Challenge.rw_skewhouse_k62_edges) rfl rfl (λ w h Y=>PySem.W.kIn_of Y) ?F;case F =>
  intro w mg fa h KX G hmg;refine' Lw.all_mk KX G hmg ..;any_goals first | k_is | (apply My.e2t<;>k_is) | (apply My.e2u<;>k_is) | (apply My.e3r<;>k_is) | (apply My.d9t<;>k_is) | (apply My.e2g<;>k_is)
