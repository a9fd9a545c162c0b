import PyProof.Rows.All
import KE.KDictOf
import KE.KDictSum
import KE.KEqDict
import KE.KFromBytes
import KE.KIntText
import KE.KIsAll
import KE.KLam
import KE.KMinKey
import KE.KNestM
import KE.KPairComp
import KE.KRevIter
import KE.KSortTup
import ObjForm.ListNI
import Wide.FinOn
import PySem.Challenge.RW_skewhouse_k65_reads_of_what_was_not_kept
theorem nx0{A B:Type}{N Z:A->B->Prop}(a:A)(b:B)(n:N a b)(z:Z a b):∃a b,N a b/\Z a b:=⟨a,b,n,z⟩
theorem nx1{A B C:Type}{N O P Z:A->B->C->Prop}(a:A)(b:B)(c:C)(n:N a b c)(o:O a b c)(p:P a b c)(z:Z a b c):∃a b c,N a b c/\O a b c/\P a b c/\Z a b c:=⟨a,b,c,n,o,p,z⟩
theorem nx2{A B C:Type}{Z:A->B->C->Prop}(a:A)(b:B)(c:C)(z:Z a b c):∃a b c,Z a b c:=⟨a,b,c,z⟩
theorem nx3{A B:Type}{N O P Z:A->B->Prop}(a:A)(b:B)(n:N a b)(o:O a b)(p:P a b)(z:Z a b):∃a b,N a b/\O a b/\P a b/\Z a b:=⟨a,b,n,o,p,z⟩
theorem nx4{A B C D:Type}{N O P Q R S Z:A->B->C->D->Prop}(a:A)(b:B)(c:C)(d:D)(n:N a b c d)(o:O a b c d)(p:P a b c d)(q:Q a b c d)(r:R a b c d)(s:S a b c d)(z:Z a b c d):∃a b c d,N a b c d/\O a b c d/\P a b c d/\Q a b c d/\R a b c d/\S a b c d/\Z a b c d:=⟨a,b,c,d,n,o,p,q,r,s,z⟩
theorem nx5{A B:Type}{N O Z:A->B->Prop}(a:A)(b:B)(n:N a b)(o:O a b)(z:Z a b):∃a b,N a b/\O a b/\Z a b:=⟨a,b,n,o,z⟩
theorem nx6{A B C:Type}{N O P Q Z:A->B->C->Prop}(a:A)(b:B)(c:C)(n:N a b c)(o:O a b c)(p:P a b c)(q:Q a b c)(z:Z a b c):∃a b c,N a b c/\O a b c/\P a b c/\Q a b c/\Z a b c:=⟨a,b,c,n,o,p,q,z⟩
theorem nx7{A B C:Type}{N O Z:A->B->C->Prop}(a:A)(b:B)(c:C)(n:N a b c)(o:O a b c)(z:Z a b c):∃a b c,N a b c/\O a b c/\Z a b c:=⟨a,b,c,n,o,z⟩
theorem nx8{A B:Type}{Z:A->B->Prop}(a:A)(b:B)(z:Z a b):∃a b,Z a b:=⟨a,b,z⟩
theorem nx9{A B:Type}{N:A->Prop}{Z:A->B->Prop}(a:A)(n:N a)(b:B)(z:Z a b):∃a,N a/\∃b,Z a b:=⟨a,n,b,z⟩
theorem nx10{A B:Type}{N O P Q R Z:A->B->Prop}(a:A)(b:B)(n:N a b)(o:O a b)(p:P a b)(q:Q a b)(r:R a b)(z:Z a b):∃a b,N a b/\O a b/\P a b/\Q a b/\R a b/\Z a b:=⟨a,b,n,o,p,q,r,z⟩
theorem nx11{A B C D E F:Type}{N O P:A->B->Prop}{Q:A->B->C->D->Prop}{R Z:A->B->C->D->E->F->Prop}(a:A)(b:B)(n:N a b)(o:O a b)(p:P a b)(c:C)(d:D)(q:Q a b c d)(e:E)(f:F)(r:R a b c d e f)(z:Z a b c d e f):∃a b,N a b/\O a b/\P a b/\∃c d,Q a b c d/\∃e f,R a b c d e f/\Z a b c d e f:=⟨a,b,n,o,p,c,d,q,e,f,r,z⟩
theorem nx12{A B C:Type}{N:A->Prop}{O P Z:A->B->C->Prop}(a:A)(n:N a)(b:B)(c:C)(o:O a b c)(p:P a b c)(z:Z a b c):∃a,N a/\∃b c,O a b c/\P a b c/\Z a b c:=⟨a,n,b,c,o,p,z⟩
theorem nx13{A B C D E F G H I:Type}{Z:A->B->C->D->E->F->G->H->I->Prop}(a:A)(b:B)(c:C)(d:D)(e:E)(f:F)(g:G)(h:H)(i:I)(z:Z a b c d e f g h i):∃a b c d e f g h i,Z a b c d e f g h i:=⟨a,b,c,d,e,f,g,h,i,z⟩
theorem nx14{A B C D E:Type}{N O P Q Z:A->B->C->D->E->Prop}(a:A)(b:B)(c:C)(d:D)(e:E)(n:N a b c d e)(o:O a b c d e)(p:P a b c d e)(q:Q a b c d e)(z:Z a b c d e):∃a b c d e,N a b c d e/\O a b c d e/\P a b c d e/\Q a b c d e/\Z a b c d e:=⟨a,b,c,d,e,n,o,p,q,z⟩
theorem nx15{A B C D E F:Type}{N O P Z:A->B->C->D->E->F->Prop}(a:A)(b:B)(c:C)(d:D)(e:E)(f:F)(n:N a b c d e f)(o:O a b c d e f)(p:P a b c d e f)(z:Z a b c d e f):∃a b c d e f,N a b c d e f/\O a b c d e f/\P a b c d e f/\Z a b c d e f:=⟨a,b,c,d,e,f,n,o,p,z⟩
theorem nx16{A B C D:Type}{N O P Q R S T U Z:A->B->C->D->Prop}(a:A)(b:B)(c:C)(d:D)(n:N a b c d)(o:O a b c d)(p:P a b c d)(q:Q a b c d)(r:R a b c d)(s:S a b c d)(t:T a b c d)(u:U a b c d)(z:Z a b c d):∃a b c d,N a b c d/\O a b c d/\P a b c d/\Q a b c d/\R a b c d/\S a b c d/\T a b c d/\U a b c d/\Z a b c d:=⟨a,b,c,d,n,o,p,q,r,s,t,u,z⟩
theorem nx17{A B C D:Type}{N O P Z:A->B->C->D->Prop}(a:A)(b:B)(c:C)(d:D)(n:N a b c d)(o:O a b c d)(p:P a b c d)(z:Z a b c d):∃a b c d,N a b c d/\O a b c d/\P a b c d/\Z a b c d:=⟨a,b,c,d,n,o,p,z⟩
theorem nx18{A B:Type}{N O:A->Prop}{Z:A->B->Prop}(a:A)(n:N a)(o:O a)(b:B)(z:Z a b):∃a,N a/\O a/\∃b,Z a b:=⟨a,n,o,b,z⟩
theorem nx19{A B:Type}{N O P Q Z:A->B->Prop}(a:A)(b:B)(n:N a b)(o:O a b)(p:P a b)(q:Q a b)(z:Z a b):∃a b,N a b/\O a b/\P a b/\Q a b/\Z a b:=⟨a,b,n,o,p,q,z⟩
theorem nx20{A B C D:Type}{N O P Q R Z:A->B->C->D->Prop}(a:A)(b:B)(c:C)(d:D)(n:N a b c d)(o:O a b c d)(p:P a b c d)(q:Q a b c d)(r:R a b c d)(z:Z a b c d):∃a b c d,N a b c d/\O a b c d/\P a b c d/\Q a b c d/\R a b c d/\Z a b c d:=⟨a,b,c,d,n,o,p,q,r,z⟩
theorem nx21{A B C D E:Type}{N O Z:A->B->C->D->E->Prop}(a:A)(b:B)(c:C)(d:D)(e:E)(n:N a b c d e)(o:O a b c d e)(z:Z a b c d e):∃a b c d e,N a b c d e/\O a b c d e/\Z a b c d e:=⟨a,b,c,d,e,n,o,z⟩
open Array renaming length_toList->Lc,getElem?_toList->ee,toList_append->og,getElem?_eq_getElem->Ci,forIn_toList->Rj,perm_iff_toList_perm->Qk,getElem?_eq_some_iff->fl,toList_push->om,getElem_mem_toList->Xp,toList_reverse->aq,getElem?_eq_none->Jr
open Bool renaming false_ne_true->pc,false_eq_true->ph,and_eq_true->ak,eq_iff_iff->Fn,true->CP,false->GP
open Classical renaming byContradiction->Oh
open Int renaming toNat_natCast->Kf,emod_lt_of_pos->Ph,emod_nonneg->Qh,zero_add->am
open List renaming length_map->pa,mem_map->Ya,getElem?_map->fb,mem_cons->jb,mem_of_getElem?->yb,mem_append->Xb,getElem?_eq_some_iff->Zb,size_toArray->ic,take_add_one->qc,length_append->Ac,map_map->Hc,take_length->Ic,nodup_cons->Vc,map_cons->ed,length_cons->Od,getElem?_eq_getElem->Pd,append_assoc->ke,forIn_cons->oe,mem_iff_getElem?->ze,length_take->Ae,pairwise_map->Be,mem_singleton->Ce,length_eq_one_iff->Ke,map_append->Le,append_nil->z1m,mem_append_right->Ze,length_range->gf,mem_range->Af,mem_cons_self->Yf,length_pos_iff->ag,length_drop->dg,find?_cons->sg,mem_append_left->qh,mem_cons_of_mem->rh,drop_eq_nil_of_le->Mh,filterMap_cons->ri,mem_flatMap->si,nodup_append->Ai,take_append_drop->Bi,range_succ->Ei,map_set->Fi,flatMap_cons->Ki,not_mem_nil->qj,getElem?_eq_none->vj,getD_eq_getElem?_getD->Qj,mem_or_eq_of_mem_set->Sj,pairwise_iff_getElem->Tj,length_filter_le->Yj,mem_filterMap->Uk,flatMap_append->Xk,length_nil->Yk,length_eq_zero_iff->el,take_of_length_le->gl,length_set->il,lookup_cons->ml,perm_append_comm->Zl,mem_filter->im,flatMap_nil->qm,zip_cons_cons->Kn,pairwise_lt_range->Sn,idxOf_eq_length->Wn,drop_eq_getElem_cons->ao,getElem?_inj->Lp,filterMap_append->Op,getElem_take->Pp,getElem_of_mem->Tp,of_mem_zip->Zp,getElem_drop->Lr,mergeSort_perm->Nr,exists_cons_of_length_eq_add_one->Qr,map_congr_left->Rr,filter_append->Yr,replicate_succ->gs,find?_eq_none->As,getElem?_zip_eq_some->Cs,foldl_append->Ds,ext_getElem?->Fs,reverse_perm->Hs,filterMap_some->Js,pairwise_cons->Ls,getElem?_append_left->Ms,length_eraseIdx_of_lt->Zu,getElem?_eq_none_iff->bv,extract_eq_take_drop->dv,getElem?_append_right->iv,idxOf_lt_length_iff->lv,set_eq_of_length_le->mv,length_filterMap_le->qv
open List.Pairwise renaming imp->rg,imp_of_mem->Hn
open Nat renaming le_refl->xa,ne_of_lt->Ab,le_trans->Nb,zero_le->Tb,lt_of_lt_of_le->Vd,le_succ->qi,succ_pos->pj,le_of_lt->sj,zero_add->yj,le_of_eq->Vj,lt_irrefl->Wj,ne_of_gt->Zj,mod_lt->km,lt_succ_iff_lt_or_eq->Gn,lt_succ_of_lt->Rn,le_max_left->Tn,lt_of_le_of_lt->Xn,le_max_right->Zn,min_eq_left->eo,le_of_lt_succ->fo,not_lt_zero->Vp,mul_le_mul->Yp,lt_succ_of_le->jq
open Ne renaming symm->Dc
open Option renaming map_eq_some_iff->Jf,map_some->Mp,some->wP,none->yP
open Option.some renaming inj->me
open Prod renaming ext->yi
open PyProof.Rows renaming wpS_bind->ua,wpS_pure->Ja,wpS_forRange->Je,wpS_mono->Bf,size_push'->Zf,wpS_get->eg,wpS_modify->ui,wpS_lift->Ji,wpS_reverse->Zk,callWith_type1->jm,listUpdate_at->lm,slot_list_sort->En,entry_sorted->Ln,entry_list_sort->Mn,get?_update_seq->Pn,boot_isinstance->Qn,plain_sorted->Vn,args_list_sort->Wp,pairsOf_toList->cq,callWith_builtin1->gv,slot_tuple_getitem->kv,arrOf->IP,Keyed->OP,seqObj->PP,SortSt->RP,pendingOf->WP,failedOf->fQ,envOfC->gQ,step_dedup->iQ,IntsAre->qQ,AllBare->vQ,kind_sorted->CQ,boot_dict->FQ,listItems_at->KQ,args_sorted1->NQ,wpS->UQ,seqEpoch_at->XQ,boot_sorted->cR,tuples'->eR,minRun'->gR,mem_zip_self->uR,mirror->FR,digits10_le->HR,subscriptTail_builtinR->XR
open PyProof.Rows.F renaming plain_set_update_loop->ev
open PySem renaming wpAny_bind->ba,wpAny_pure->ca,wpAny_holding->Jc,wpAny_mono->Pc,wpAny_call_entry->zd,boot_len->Cd,wpAny_rule->Ye,plainId_quiet->Hf,wpAny_seqItems->qg,wpAny_attempt->Ng,codeAny_builtin->Og,wpAny_specialOf->mh,wpAny_newObj_type->oh,wpAny_tryCatch->Lh,sizeLine_eq->ti,wpAny_setState_of->xi,wpAny_Call_Name_kw->Di,wpAny_letGo->Ii,wpAny_callSpecial?_slot->Li,wpAny_newList->oj,wpAny_typeOf->rj,wpAny_setField->wj,wpAny_field->Uj,wpAny_execs_nil->Xj,wpAny_ite_split->Sk,mem_of_lookup->Vk,call_meets->jl,codeAny_mono->kl,wpAny_fieldsOf->ll,wpAny_updateSeq->nl,wpAny_truthy_bool->Yl,wpAny_passesOwn->gm,wpAny_dictEntries->mm,wpAny_standAt->Dn,wpAny_dictEpoch->Jn,strLen_append->Nn,wpAny_setField_rec->ho,wpAny_pyIter_list->io,wpAny_askSetting->Fp,wpAny_isInstance->Gp,wpAny_newTuple->Kp,wpAny_execs_cons->Rp,wpAny_setEntries_of->dq,wpAny_pyIter_slot->gq,wpAny_callSpecialIfBoundUnlessNone?_slot->Ir,wpAny_storeSet_of->Kr,wpAny_typeNameOfWhole_keyiter->Vr,wpAny_cRoomFor_or->Xr,wpAny_notOrdered_dict->Zr,wpAny_tupleItemsOf->qs,wpAny_typeNameOfWhole_valiter->Ks,wpAny_getItem_str_slice->Qs,Value->xP,Shared->zP,Addr->BP,sizeLine->DP,model->FP,Program->HP,starEach->JP,World->KP,Around->LP,cLine->MP,Heap->NP,PyData->QP,Expr->UP,mainGlobals->VP,eval->XP,compareOp->YP,rawInt->ZP,FuncData->aQ,sysModules->bQ,backTo->cQ,Obj->dQ,DictEntry->eQ,Stmt->hQ,binaryOp->jQ,reduceHash->kQ,storedH->lQ,intKind->mQ,assignEach->nQ,pickOrder->oQ,foldedSetIterable->pQ,Scope->rQ,Pos->sQ,tupleKind->tQ,swapsWith->uQ,sliceBounds->wQ,bootBuiltins->xQ,fastBuiltinMro->zQ,NameKind->AQ,ofAClassStatement->BQ,holding->DQ,behindInMarks->EQ,atKey->GQ,wpAny_call->HQ,pyNext->IQ,pyIter->JQ,getItem->MQ,wpAny_ret_mkInt->OQ,pyHashByItsType->PQ,post_val_or_str->QQ,letOwnedTupleGo->RQ,wpAny_isOneOf_valiter->SQ,builtinLookup_eq_fast->TQ,wpAny_of_eq->VQ,setField->WQ,relayAll->YQ,recursionLimit->ZQ,keywordEach->aR,codeAny_call_builtin->bR,IsPair->dR,seqItems?->fR,eqIsQuiet->hR,BindsTo->iR,attributeBase->jR,wpAny_evalAll_cons->kR,tupleKind_room_in1->lR,entryOfKey->oR,IsPart->pR,wpAny_setEpoch_of->qR,wpAny_Call_method->rR,valueAt->sR,standAt->tR,eqIsQuiet_byValue->vR,bindArgs->wR,Env->xR,wpAny_pyHash_int->yR,wpAny_Dict_empty->zR,stored->AR,seqIndex?->DR,scanBound->ER,subscripted->GR,typeLookup_type->IR,callerA->JR,Keyword->KR,isSubtype_type->MR,isInstance->NR,backToKw->RR,Sem->SR,Result->TR,wpAny_comprehension_free->VR,getMethod->WR,spliced->YR,setAddHashed->ZR,seqIndex_neg->aS,entryPlaceOf->bS,call_meetsIn->cS,assign->dS,argsOk->eS
open PySem.Around renaming under_plainId->Hi
open PySem.Calls renaming spliced_cons->xj,spliced_nil->Wl,evalArgs_plain->Ep,callWith_builtin->Ip,call_function_entry->Np
open PySem.F renaming plainAttrs_list->Oe,slot_tuple_hash->lh,plain_min_loop->Nh,slot_list_append->tj,type_list_append->Aj,called_set->al,type_list_extend->Yn,slot_list_extend->bo,slot_zip_next->Qp,slot_dict_keyiterator_next->fq,slot_dict_valueiterator_next->iq,plainAttrs_dict->Mr,slot_NoneType_hash->Ur,slot_dict_setdefault->ss,slot_list_remove->av,entry_tuple_hash->cv,slot_list_getattribute->hv,args_tuple_hash_1->jv
open PySem.Heap renaming get?_push_of_some->Ta,lt_size->Xa,get?_push_size->Hb,get?_update_other->nh,get?_update_self->zi,size_push->Xl,get?_none_of_le->bq
open PySem.Heap.SameBut renaming update->bg
open PySem.MeetsSeq renaming plain_remove_loop->Es
open PySem.Obj renaming data_mapFields->vi,cls_mapFields->Up
open PySem.Paired renaming length->dm
open PySem.PassesOwn renaming never->Qc
open PySem.W renaming kia_one->Gi,kat_cons->yQ,kat_yes->LQ,keepIn->mR,kat_go->nR,kat_no->LR,findIn->PR,codeIn->QR,Frag->UR
set_option compiler.extract_closed false
local macro_rules
 |`(tactic|lia)=>`(tactic|first|assumption|exact Nat.le_refl _|exact Nat.le_of_lt (by assumption)|exact Nat.lt_of_lt_of_le (by assumption) (by assumption)|lia(verbose:=false)|omega)
section
open PySem PySem.Spec PySem.W PyProof.Rows PyProof PySem.SeqAt
abbrev ma:=@if_neg
abbrev wa:=@if_pos
abbrev zb:=@decide_eq_true
abbrev Ub:=@congrArg
abbrev zc:=@of_decide_eq_true
abbrev Wd:=@decide_eq_false
abbrev hf:=@if_false
abbrev uj:=@or_false
abbrev zj:=@getElem?_pos
abbrev rm:=@beq_eq_false_iff_ne
abbrev Jp:=@decide_eq_true_eq
abbrev Wr:=@bne_self_eq_false
abbrev Bs:=@decide_eq_true_iff
end
set_option genSizeOf false
set_option linter.defProp false
noncomputable section
structure PySem.W.Fast:Prop where(tw12471492895901568826 tw861502493610598483 tw621824258390432152 tw6901996201401580103 tw14019881755177166336 tw18388597466812629958 tw15254211478433396525 tw7865408815302691273 tw2416765905656111502 tw9727090134516633575 tw11910149252109655261 tw15654058947040767848 tw16908126552976182760 tw3668986818325518241 tw771822569319705768 tw8554566592984996656 tw10861573186032746274 tw17382457898008728272 tw694261584828832409 tw3110587219445414310 tw14341141199694864594 tw14859695947638507448 tw8171798328758944481 tw12550775161083096063 tw12549542988036985293 tw13567515925198824819 tw13037599305520519465 tw15062127977220616739 tw14154597600763967237 tw3641951560692057861 tw16860917588515726111 tw14424681132571578402 tw4483904966330829159 tw5289818103960998278 tw11513857634932158529 tw18209549738250274047 tw5467331546851215429 tw10888863842102328177 tw3520257249291928256 tw6945566481307383155 tw15541240446876304647 tw6248682570935725439 tw15214748959534726111 tw8752102160057688731 tw903024190392523500 tw17397653436517662659 tw12528533614272120300 tw7001957589650049515 tw14284835775768690865 tw9104974531708491489 tw5960047855520388891 tw5449601097390414333 tw12411574311111392344 tw16409965706819354750 tw15181078141257973585 tw3374319085511977134 tw13307065042914920193 tw16217903435359918192 tw11481637867367846703 tw18105302477358141223 tw17852080271459398996 tw2244103112122482387 tw6125853113672642322 tw17963105932079019327 tw3239113980409921550 tw9317495090193701157 tw9630203353718772412 tw4321966507151631593 tw4684226298888400098 tw5438652380644606353 tw8222940686941784037 tw10294118229990073760 tw2576523973992343609 tw9496870631314116199 tw6229817132586351632 tw4884199854448574 tw8331849164307833061 tw15831126876759372255 tw16753820520455620202 tw1719895430356276633 tw15166322114958858414 tw3419001889969749887 tw4189273013823423559 tw7476452910721959123 tw3238445694619138142 tw542563422162235373 tw2595618661548880785 tw13215348057498601715 tw3099597729799864441 tw14760874974797668852 tw18183970276198133131 tw15240619367488684849 tw8924819469995637033 tw15554417296805563061 tw7943549864190904611 tw10988312798546598065 tw16864618592142003386 tw16670775579421159206 tw7374399212775623666 tw3897268976836264337 tw11212356425047092601 tw7538781388859322016 tw1956260828630720203 tw14847308668706973960 tw9304451534382375720 tw6968137755033780318 tw12717557048674177747 tw14903569129155370506 tw14219159868682941630 tw11266997524610791606 tw10879749546641988924 tw12770481643036789091 tw1205274952441263945 tw10341888390210383824 tw16120054744476736488 tw17348111734160510231 tw12488014758255163090 tw443766864951011646 tw4334401890000744311 tw17691633702590694504 tw2931988195819169919 tw13367274342830030513 tw14170518179582410385 tw15621415185263527259 tw5890639436620234070 tw5344687154915797982 tw384561282630992784 tw7086961617601330827 tw15438627641174518403 tw10258873121960336067 tw13421457143807847188 tw9950792792127014553 tw13831308528885131752 tw514280064592716601 tw8995945545434573385 tw13135312941875745310 tw5072417060200589145 tw4971374062829452455 tw17760279517084355780 tw14074196154385387334 tw13946496683202179788 tw12954591660760965231 tw9757595895972200118 tw3953844824629472508 tw10519837036962490867 tw9461873434466728008 tw8733291241859026926 tw10698057553749749337 tw3300257896294614128 tw14537775516033599862 tw2455152089536381482 tw12670982853097334264 tw8047209995159408440 tw463774138113389760 tw9404705873571188630 tw4859391219904099992 tw4096438862311573950 tw2261719852989239553 tw5702276774652866934 tw11564986514327137767 tw5362036446546632119 tw6548459193220583526 tw4804111812005502284 tw9615563845995560447 tw8949853181751564097 tw14611616552423853409 tw5217270863462422736 tw8297923619242306668 tw6858818405166986180 tw10510056951384868246 tw16003985067176294414 tw17013487888433625170 tw6030501089693204938 tw17817366049700826239 tw16728255500844073214 tw1142673529048489019 tw15142666989864626641 tw10876078143196172821 tw896878414759379649 tw15433366417846715934 tw140001813534094272 tw6170744672141170255 tw12099505692703838030 tw15539815450414544023 tw12297992134047619483 tw12269216009862288129 tw13855379610559885079 tw547895379624588593 tw12772213712371865176 tw1864683662541468164 tw4683681711962371626 tw10192973710116140151 tw7322748291113730364 tw9495317472360511255 tw17062427158221528723 tw14935467056822913822 tw14243238205550065757 tw4309217394794523951 tw1979317910248211280 tw14904681115217272601 tw15779231459743154856 tw3042748168174471775 tw5323657890516693427 tw16203965252921439515 tw6542358382571353910 tw1950803216711332702 tw4547051000311932777 tw5667099127317398114 tw5634867526602368427 tw14963028359598502718 tw14827714588952709054 tw16955839230299176341 tw8219003486749837733 tw2399617604181995578 tw16925712312323332580 tw11429584451438056573 tw17435391645217708394 tw14391293386007564604 tw9399754086935153974 tw12917704675397863716 tw9848817304349107530 tw4436474186459923750 tw15235614512728720 tw855453113358079251 tw11692469974320434101 tw6822071536725586909 tw13053770412826190925 tw1383625962624193546 tw446995266069924076 tw2694234056635809718 tw15590096980072825465 tw3308634892276815127 tw1915925776726481438 tw9879335643197240621 tw354308444213283272 tw2941924889016668590 tw13462424878891718212 tw4046790133079468173 tw14538725608371270373 tw3592811809046731828 tw15565715512253457277 tw4607425872040536859 tw819570635367399668 tw17883462748017686043 tw5498123283257192965 tw14560624547652848805 tw11489344026974618541 tw14782954611325821827 tw1342123614928995077 tw6408400580700104982 tw10297410513487048360 tw17592209452093105858 tw5872530126848033075 tw5725222548895626118 tw13813548295540068894 tw14833712730911297017 tw7921390202802761869 tw6124413428159637790 tw16721508838639397229 tw14993981098963755598 tw10016166984437732892 tw13810262117814702294 tw2353497105660221152 tw3303267245142563540 tw256976265262469064 tw6084841979344569690 tw9646623106273453227 tw18101783494082082527 tw17980500129456985241 tw3235425350174046738 tw7220529860990300233 tw1401067106901849026 tw4548300405975405348 tw17659185236578331656 tw726351398001015727 tw866717566613908145 tw12960429369202013873 tw10551173667578312727 tw3270257207059953099 tw16873086082458093902 tw16378183091871739711 tw7592715696027808041 tw14577027041581768965 tw6216382948874008006 tw3543459598558145280 tw18031968618487185184 tw14849461344987154502 tw1725486776273817318 tw643336161829623379 tw11401859456886640639 tw6522051377940421278 tw6162269159774324313 tw5002640475654186023 tw13956191218907399338 tw16108870410212019532 tw14404928986312190071 tw17214186515701724070 tw8431482922422412695 tw9387514328989991554 tw1070438729232803039 tw2466311954974566718 tw2314633323536394700 tw14958820412457663293 tw10741264400317747893 tw11066385474520676512 tw2570914705882880060 tw15254633091992210921 tw9456574344343218679 tw7909973126167129995 tw8739830900816887780 tw4171853373547519906 tw12669407529647801677 tw17916429707943930468 tw9197174079833555027 tw16822532161544500889 tw16636501806038632012 tw16140922888777852060 tw5459702643516471331 tw2595585439558603231 tw5444512763150141072 tw6356304189028158447 tw447263597446747957 tw16279288168775177219 tw15401437161963490237 tw8374155422468719031 tw4562827626845409882 tw14664691819916384248 tw8186657734068701312 tw977512076041815475 tw6128106870883400570 tw18418582437962087742 tw6557801498797044033 tw10910644110388302437 tw6128145076113358165 tw14564479935002850509 tw6105849179199505303 tw615563214671542189 tw5994696166404524948 tw6405511729158686954 tw15457144420221120805 tw6148891448256914594 tw9113380124883318265 tw3075201292733833056 tw11738243743197964597 tw13034982811429478159 tw209982475168477708 tw6469784823511061222 tw11161164713144168021 tw140236481695663071 tw13547939009206843870 tw1467881925912835984 tw539538531456391632 tw4953865588907285216 tw11853640710764476214 tw7933485763601977624 tw3985964047577975286 tw1266070629607400876 tw12147665669636231765 tw4734895289157585001 tw13055953723892786844 tw9402243437249704421 tw8159993647027272844 tw5101696844757716304 tw2789304352393801511 tw17613222154834848340 tw7485256538410118956 tw11823594873375168262 tw3721919958574915784 tw4490611911172417597 tw18328257000508772394 tw8157277791214410489 tw2295934692909999376 tw5832305185047221409 tw12727641955093265886 tw8080008513338510535 tw12768989823518198380 tw13437419889732721216 tw17483705464198625004 tw4849480874435393781 tw13812277999558781770 tw28018229315631829 tw17334828202450815106 tw3049343062529576306 tw8912161614967838395 tw17339309145561079191 tw17260811203177919210 tw247591363613054380 tw8432719020341155521 tw11898673842065290130 tw13913613514976480042 tw599730875272715187 tw1835071406663858368 tw15752536640612570366 tw4903002758410956813 tw561727478393794602 tw11824586356888161845 tw2187251505897268136 tw12188032599808994241 tw14842496431369740429 tw17318462890700432884 tw2358075552688931204 tw14689541978594310382 tw15042883488752021643 tw14961746396406840608 tw17410218998227585676 tw12887044766017154078 tw7217548393331319763 tw866652123128751154 tw12330612334027959195 tw7050804516273991350 tw11766667032028208565 tw6056707288978253535 tw87601786513091389 tw11962351593759143498 tw12843764043397292189 tw1378205811072252300 tw16756451883985382160 tw8535803893964050539 tw15577281813014381367 tw9536688357841153863 tw8899516883271353254 tw18367749455379333440 tw4075453323654395381 tw9689729476882780088 tw15925456577456769635 tw14261769069557060686 tw8737599933303070863 tw11384182702204212275 tw15861351967447197489 tw6549852094080907030 tw8565224436197482051 tw9320515035125037321 tw1532491051758110099 tw1825952489489211193 tw9806118890596472461 tw11907897558876765624 tw10842938092177581297 tw14196522196718054806 tw3215387988796971590 tw5285915839522022235 tw740290905518256060 tw2107523057676978006 tw17170472223608059050 tw18310463660012746435 tw7424060955962978353 tw10624116801336726872 tw2483420100392427323 tw16723463757517087524 tw13394580363473044415 tw13757698761724263525 tw13160504802963445071 tw11317637306720784765 tw1495895850433845275 tw15702583709834301711 tw11033627544408312984 tw14727194681476072466 tw14746253646979254834 tw14022695629967993375 tw2084650752826471497 tw6798380500665416597 tw13669536469129627823 tw17464319187374939960 tw9972681490609642005 tw2080317491765294665 tw3778530596728393105 tw3365755272349913518 tw13343918040275786880 tw1000662321505670351 tw6046103115902281144 tw211337195705725219 tw2259672571474061568 tw14454166528178196959 tw3681537716864247207 tw14172470266813156586 tw14387916025512776202 tw1717767836212652739 tw16298917771340976007 tw8498532028676091811 tw12314708539913122752 tw16248296213531012650 tw14226173905949225808 tw15895094517606616290 tw5274481202262711730 tw6420159726195949164 tw17351735930882485243 tw4480162626587320490 tw1607123104830579860 tw6782663255696616371 tw17518593693041627797 tw16493865465440409018 tw5010956058597451964 tw9510108024173832781 tw12740759652641322565 tw12408111787983249662 tw14520296925931582552 tw12747814925858328940 tw12798174099139212305 tw4096221787609464999 tw3382625519597670723 tw5622701340561072331 tw8760152093665844161 tw18146532975450069615 tw15227483606004533461 tw9947508896943372755 tw16226643914720891334 tw9331231397406362311 tw2403389108928632939 tw8480184845173159842 tw18094105663378112561 tw11662115353561507501 tw8212203176049278890 tw14647417624928369756 tw9116068151291705539 tw16682895059504647277 tw8919978131948313185 tw6060609690816243450 tw14061609134260724683 tw17658959251048325594 tw4015202173357781934 tw991626836265849350 tw10792498714594961201 tw13674586047789940208 tw16615150188913437886 tw523537741815420091 tw6327569006664949090 tw7212858340449540239 tw4561898282857576226 tw8422229294311615681 tw12903330217458380548 tw8972062959192195235 tw6278996535519779258:True)
set_option maxHeartbeats 0 in
open_top hd for PySem.Challenge.rw_skewhouse_k65_reads_of_what_was_not_kept
set_option Elab.async false
set_option linter.all false
set_option maxRecDepth 100000
theorem ea0{A B:Type}{N O Z:A->B->Prop}{Y1:Prop}(Y0:∀(a:A)(b:B),N a b->O a b->Z a b->Y1):(∃a b,N a b/\O a b/\Z a b)->Y1:=by
 rintro⟨a,b,n,o,z⟩;exact Y0 a b n o z
theorem ea1{A:Type}{N Z:A->Prop}{Y1:Prop}(Y0:∀(a:A),N a->Z a->Y1):(∃a,N a/\Z a)->Y1:=by
 rintro⟨a,n,z⟩;exact Y0 a n z
theorem ea2{A B C D:Type}{N O P Q Z:A->B->C->D->Prop}{Y1:Prop}(Y0:∀(a:A)(b:B)(c:C)(d:D),N a b c d->O a b c d->P a b c d->Q a b c d->Z a b c d->Y1):(∃a b c d,N a b c d/\O a b c d/\P a b c d/\Q a b c d/\Z a b c d)->Y1:=by
 rintro⟨a,b,c,d,n,o,p,q,z⟩;exact Y0 a b c d n o p q z
theorem ea3{N O Z:Prop}{Y1:Prop}(Y0:N->O->Z->Y1):(N/\O/\Z)->Y1:=by
 rintro⟨n,o,z⟩;exact Y0 n o z
theorem ea4{A B C:Type}{N O P Z:A->B->C->Prop}{Y1:Prop}(Y0:∀(a:A)(b:B)(c:C),N a b c->O a b c->P a b c->Z a b c->Y1):(∃a b c,N a b c/\O a b c/\P a b c/\Z a b c)->Y1:=by
 rintro⟨a,b,c,n,o,p,z⟩;exact Y0 a b c n o p z
theorem ea5{A B C:Type}{Z:A->B->C->Prop}{Y1:Prop}(Y0:∀(a:A)(b:B)(c:C),Z a b c->Y1):(∃a b c,Z a b c)->Y1:=by
 rintro⟨a,b,c,z⟩;exact Y0 a b c z
theorem ea6{N O P Z:Prop}{Y1:Prop}(Y0:N->O->P->Z->Y1):(N/\O/\P/\Z)->Y1:=by
 rintro⟨n,o,p,z⟩;exact Y0 n o p z
theorem ea7{A:Type}{N O Z:A->Prop}{Y1:Prop}(Y0:∀(a:A),N a->O a->Z a->Y1):(∃a,N a/\O a/\Z a)->Y1:=by
 rintro⟨a,n,o,z⟩;exact Y0 a n o z
theorem ea8{A B:Type}{N Z:A->B->Prop}{Y1:Prop}(Y0:∀(a:A)(b:B),N a b->Z a b->Y1):(∃a b,N a b/\Z a b)->Y1:=by
 rintro⟨a,b,n,z⟩;exact Y0 a b n z
theorem eaA{A B:Type}{N O P Z:A->B->Prop}{Y1:Prop}(Y0:∀(a:A)(b:B),N a b->O a b->P a b->Z a b->Y1):(∃a b,N a b/\O a b/\P a b/\Z a b)->Y1:=by
 rintro⟨a,b,n,o,p,z⟩;exact Y0 a b n o p z
theorem eaB{A B C D E F G:Type}{N O P Q R S Z:A->B->C->D->E->F->G->Prop}{Y1:Prop}(Y0:∀(a:A)(b:B)(c:C)(d:D)(e:E)(f:F)(g:G),N a b c d e f g->O a b c d e f g->P a b c d e f g->Q a b c d e f g->R a b c d e f g->S a b c d e f g->Z a b c d e f g->Y1):(∃a b c d e f g,N a b c d e f g/\O a b c d e f g/\P a b c d e f g/\Q a b c d e f g/\R a b c d e f g/\S a b c d e f g/\Z a b c d e f g)->Y1:=by
 rintro⟨a,b,c,d,e,f,g,n,o,p,q,r,s,z⟩;exact Y0 a b c d e f g n o p q r s z
theorem eaC{A B:Type}{N:Prop}{Z:A->B->Prop}{Y1:Prop}(Y0:N->∀(a:A)(b:B),Z a b->Y1):(N/\∃a b,Z a b)->Y1:=by
 rintro⟨n,a,b,z⟩;exact Y0 n a b z
theorem eaD{N O P Q R Z:Prop}{Y1:Prop}(Y0:N->O->P->Q->R->Z->Y1):(N/\O/\P/\Q/\R/\Z)->Y1:=by
 rintro⟨n,o,p,q,r,z⟩;exact Y0 n o p q r z
theorem eaE{A B C D:Type}{N O P Z:A->B->C->D->Prop}{Y1:Prop}(Y0:∀(a:A)(b:B)(c:C)(d:D),N a b c d->O a b c d->P a b c d->Z a b c d->Y1):(∃a b c d,N a b c d/\O a b c d/\P a b c d/\Z a b c d)->Y1:=by
 rintro⟨a,b,c,d,n,o,p,z⟩;exact Y0 a b c d n o p z
theorem eaF{A B C:Type}{N O P Q Z:A->B->C->Prop}{Y1:Prop}(Y0:∀(a:A)(b:B)(c:C),N a b c->O a b c->P a b c->Q a b c->Z a b c->Y1):(∃a b c,N a b c/\O a b c/\P a b c/\Q a b c/\Z a b c)->Y1:=by
 rintro⟨a,b,c,n,o,p,q,z⟩;exact Y0 a b c n o p q z
theorem eaG{A B C D E F:Type}{N O Z:A->B->C->D->E->F->Prop}{Y1:Prop}(Y0:∀(a:A)(b:B)(c:C)(d:D)(e:E)(f:F),N a b c d e f->O a b c d e f->Z a b c d e f->Y1):(∃a b c d e f,N a b c d e f/\O a b c d e f/\Z a b c d e f)->Y1:=by
 rintro⟨a,b,c,d,e,f,n,o,z⟩;exact Y0 a b c d e f n o z
theorem eaH{A B C D:Type}{N:Prop}{O P Q R Z:A->B->C->D->Prop}{Y1:Prop}(Y0:N->∀(a:A)(b:B)(c:C)(d:D),O a b c d->P a b c d->Q a b c d->R a b c d->Z a b c d->Y1):(N/\∃a b c d,O a b c d/\P a b c d/\Q a b c d/\R a b c d/\Z a b c d)->Y1:=by
 rintro⟨n,a,b,c,d,o,p,q,r,z⟩;exact Y0 n a b c d o p q r z
theorem eb0{A B C:Type}{N O Z:A->B->C->Prop}{Y1:Prop}(Y0:∀(a:A)(b:B)(c:C),N a b c->O a b c->Z a b c->Y1):(∃a b c,N a b c/\O a b c/\Z a b c)->Y1:=by
 rintro⟨a,b,c,n,o,z⟩;exact Y0 a b c n o z
theorem eb1{A B C D E F G H I J K L:Type}{N O P Q R S Z:A->B->C->D->E->F->G->H->I->J->K->L->Prop}{Y1:Prop}(Y0:∀(a:A)(b:B)(c:C)(d:D)(e:E)(f:F)(g:G)(h:H)(i:I)(j:J)(k:K)(l:L),N a b c d e f g h i j k l->O a b c d e f g h i j k l->P a b c d e f g h i j k l->Q a b c d e f g h i j k l->R a b c d e f g h i j k l->S a b c d e f g h i j k l->Z a b c d e f g h i j k l->Y1):(∃a b c d e f g h i j k l,N a b c d e f g h i j k l/\O a b c d e f g h i j k l/\P a b c d e f g h i j k l/\Q a b c d e f g h i j k l/\R a b c d e f g h i j k l/\S a b c d e f g h i j k l/\Z a b c d e f g h i j k l)->Y1:=by
 rintro⟨a,b,c,d,e,f,g,h,i,j,k,l,n,o,p,q,r,s,z⟩;exact Y0 a b c d e f g h i j k l n o p q r s z
theorem eb2{A:Type}{N O P Z:A->Prop}{Y1:Prop}(Y0:∀(a:A),N a->O a->P a->Z a->Y1):(∃a,N a/\O a/\P a/\Z a)->Y1:=by
 rintro⟨a,n,o,p,z⟩;exact Y0 a n o p z
theorem eb3{A B C D E:Type}{N O P Q R Z:A->B->C->D->E->Prop}{Y1:Prop}(Y0:∀(a:A)(b:B)(c:C)(d:D)(e:E),N a b c d e->O a b c d e->P a b c d e->Q a b c d e->R a b c d e->Z a b c d e->Y1):(∃a b c d e,N a b c d e/\O a b c d e/\P a b c d e/\Q a b c d e/\R a b c d e/\Z a b c d e)->Y1:=by
 rintro⟨a,b,c,d,e,n,o,p,q,r,z⟩;exact Y0 a b c d e n o p q r z
theorem eb4{A B:Type}{N O P Q Z:A->B->Prop}{Y1:Prop}(Y0:∀(a:A)(b:B),N a b->O a b->P a b->Q a b->Z a b->Y1):(∃a b,N a b/\O a b/\P a b/\Q a b/\Z a b)->Y1:=by
 rintro⟨a,b,n,o,p,q,z⟩;exact Y0 a b n o p q z
theorem eb5{A:Type}{N:Prop}{O Z:A->Prop}{Y1:Prop}(Y0:N->∀(a:A),O a->Z a->Y1):(N/\∃a,O a/\Z a)->Y1:=by
 rintro⟨n,a,o,z⟩;exact Y0 n a o z
theorem eb6{A B:Type}{N O P Q R Z:A->B->Prop}{Y1:Prop}(Y0:∀(a:A)(b:B),N a b->O a b->P a b->Q a b->R a b->Z a b->Y1):(∃a b,N a b/\O a b/\P a b/\Q a b/\R a b/\Z a b)->Y1:=by
 rintro⟨a,b,n,o,p,q,r,z⟩;exact Y0 a b n o p q r z
theorem eb7{A B C D E:Type}{N:Prop}{O P Q R Z:A->B->C->D->E->Prop}{Y1:Prop}(Y0:N->∀(a:A)(b:B)(c:C)(d:D)(e:E),O a b c d e->P a b c d e->Q a b c d e->R a b c d e->Z a b c d e->Y1):(N/\∃a b c d e,O a b c d e/\P a b c d e/\Q a b c d e/\R a b c d e/\Z a b c d e)->Y1:=by
 rintro⟨n,a,b,c,d,e,o,p,q,r,z⟩;exact Y0 n a b c d e o p q r z
theorem eb8{A B C D:Type}{N O P Q R S T U Z:A->B->C->D->Prop}{Y1:Prop}(Y0:∀(a:A)(b:B)(c:C)(d:D),N a b c d->O a b c d->P a b c d->Q a b c d->R a b c d->S a b c d->T a b c d->U a b c d->Z a b c d->Y1):(∃a b c d,N a b c d/\O a b c d/\P a b c d/\Q a b c d/\R a b c d/\S a b c d/\T a b c d/\U a b c d/\Z a b c d)->Y1:=by
 rintro⟨a,b,c,d,n,o,p,q,r,s,t,u,z⟩;exact Y0 a b c d n o p q r s t u z
theorem eb9{A B C D E F G H I J:Type}{N O P Q R S T Z:A->B->C->D->E->F->G->H->I->J->Prop}{Y1:Prop}(Y0:∀(a:A)(b:B)(c:C)(d:D)(e:E)(f:F)(g:G)(h:H)(i:I)(j:J),N a b c d e f g h i j->O a b c d e f g h i j->P a b c d e f g h i j->Q a b c d e f g h i j->R a b c d e f g h i j->S a b c d e f g h i j->T a b c d e f g h i j->Z a b c d e f g h i j->Y1):(∃a b c d e f g h i j,N a b c d e f g h i j/\O a b c d e f g h i j/\P a b c d e f g h i j/\Q a b c d e f g h i j/\R a b c d e f g h i j/\S a b c d e f g h i j/\T a b c d e f g h i j/\Z a b c d e f g h i j)->Y1:=by
 rintro⟨a,b,c,d,e,f,g,h,i,j,n,o,p,q,r,s,t,z⟩;exact Y0 a b c d e f g h i j n o p q r s t z
theorem ebA{A B C D:Type}{N:A->Prop}{O P Q R Z:A->B->C->D->Prop}{Y1:Prop}(Y0:∀(a:A),N a->∀(b:B)(c:C)(d:D),O a b c d->P a b c d->Q a b c d->R a b c d->Z a b c d->Y1):(∃a,N a/\∃b c d,O a b c d/\P a b c d/\Q a b c d/\R a b c d/\Z a b c d)->Y1:=by
 rintro⟨a,n,b,c,d,o,p,q,r,z⟩;exact Y0 a n b c d o p q r z
theorem ebB{A B C D:Type}{N O Z:A->B->C->D->Prop}{Y1:Prop}(Y0:∀(a:A)(b:B)(c:C)(d:D),N a b c d->O a b c d->Z a b c d->Y1):(∃a b c d,N a b c d/\O a b c d/\Z a b c d)->Y1:=by
 rintro⟨a,b,c,d,n,o,z⟩;exact Y0 a b c d n o z
theorem ebC{N O P Q Z:Prop}{Y1:Prop}(Y0:N->O->P->Q->Z->Y1):(N/\O/\P/\Q/\Z)->Y1:=by
 rintro⟨n,o,p,q,z⟩;exact Y0 n o p q z
theorem ebD{A B C D E:Type}{N O P Z:A->B->C->D->E->Prop}{Y1:Prop}(Y0:∀(a:A)(b:B)(c:C)(d:D)(e:E),N a b c d e->O a b c d e->P a b c d e->Z a b c d e->Y1):(∃a b c d e,N a b c d e/\O a b c d e/\P a b c d e/\Z a b c d e)->Y1:=by
 rintro⟨a,b,c,d,e,n,o,p,z⟩;exact Y0 a b c d e n o p z
theorem ebE{A B C D E F G:Type}{N O P Q R S T U V Z:A->B->C->D->E->F->G->Prop}{Y1:Prop}(Y0:∀(a:A)(b:B)(c:C)(d:D)(e:E)(f:F)(g:G),N a b c d e f g->O a b c d e f g->P a b c d e f g->Q a b c d e f g->R a b c d e f g->S a b c d e f g->T a b c d e f g->U a b c d e f g->V a b c d e f g->Z a b c d e f g->Y1):(∃a b c d e f g,N a b c d e f g/\O a b c d e f g/\P a b c d e f g/\Q a b c d e f g/\R a b c d e f g/\S a b c d e f g/\T a b c d e f g/\U a b c d e f g/\V a b c d e f g/\Z a b c d e f g)->Y1:=by
 rintro⟨a,b,c,d,e,f,g,n,o,p,q,r,s,t,u,v,z⟩;exact Y0 a b c d e f g n o p q r s t u v z
theorem ebF{A:Type}{N O:Prop}{P Z:A->Prop}{Y1:Prop}(Y0:N->O->∀(a:A),P a->Z a->Y1):(N/\O/\∃a,P a/\Z a)->Y1:=by
 rintro⟨n,o,a,p,z⟩;exact Y0 n o a p z
theorem ebG{A B C D:Type}{N O P Q R Z:A->B->C->D->Prop}{Y1:Prop}(Y0:∀(a:A)(b:B)(c:C)(d:D),N a b c d->O a b c d->P a b c d->Q a b c d->R a b c d->Z a b c d->Y1):(∃a b c d,N a b c d/\O a b c d/\P a b c d/\Q a b c d/\R a b c d/\Z a b c d)->Y1:=by
 rintro⟨a,b,c,d,n,o,p,q,r,z⟩;exact Y0 a b c d n o p q r z
theorem ebH{A B C D:Type}{N O P Q R S T Z:A->B->C->D->Prop}{Y1:Prop}(Y0:∀(a:A)(b:B)(c:C)(d:D),N a b c d->O a b c d->P a b c d->Q a b c d->R a b c d->S a b c d->T a b c d->Z a b c d->Y1):(∃a b c d,N a b c d/\O a b c d/\P a b c d/\Q a b c d/\R a b c d/\S a b c d/\T a b c d/\Z a b c d)->Y1:=by
 rintro⟨a,b,c,d,n,o,p,q,r,s,t,z⟩;exact Y0 a b c d n o p q r s t z
theorem ec0{A B C:Type}{N O P:A->Prop}{Q R S Z:A->B->C->Prop}{Y1:Prop}(Y0:∀(a:A),N a->O a->P a->∀(b:B)(c:C),Q a b c->R a b c->S a b c->Z a b c->Y1):(∃a,N a/\O a/\P a/\∃b c,Q a b c/\R a b c/\S a b c/\Z a b c)->Y1:=by
 rintro⟨a,n,o,p,b,c,q,r,s,z⟩;exact Y0 a n o p b c q r s z
theorem ec1{A B C D E F G H I J K L:Type}{Z:A->B->C->D->E->F->G->H->I->J->K->L->Prop}{Y1:Prop}(Y0:∀(a:A)(b:B)(c:C)(d:D)(e:E)(f:F)(g:G)(h:H)(i:I)(j:J)(k:K)(l:L),Z a b c d e f g h i j k l->Y1):(∃a b c d e f g h i j k l,Z a b c d e f g h i j k l)->Y1:=by
 rintro⟨a,b,c,d,e,f,g,h,i,j,k,l,z⟩;exact Y0 a b c d e f g h i j k l z
theorem ec2{A B C D E F:Type}{N:Prop}{O P Q Z:A->B->C->D->E->F->Prop}{Y1:Prop}(Y0:N->∀(a:A)(b:B)(c:C)(d:D)(e:E)(f:F),O a b c d e f->P a b c d e f->Q a b c d e f->Z a b c d e f->Y1):(N/\∃a b c d e f,O a b c d e f/\P a b c d e f/\Q a b c d e f/\Z a b c d e f)->Y1:=by
 rintro⟨n,a,b,c,d,e,f,o,p,q,z⟩;exact Y0 n a b c d e f o p q z
theorem ec3{A B:Type}{N:Prop}{O P Z:A->B->Prop}{Y1:Prop}(Y0:N->∀(a:A)(b:B),O a b->P a b->Z a b->Y1):(N/\∃a b,O a b/\P a b/\Z a b)->Y1:=by
 rintro⟨n,a,b,o,p,z⟩;exact Y0 n a b o p z
theorem ec4{A B C D E F:Type}{N O P Q R S T Z:A->B->C->D->E->F->Prop}{Y1:Prop}(Y0:∀(a:A)(b:B)(c:C)(d:D)(e:E)(f:F),N a b c d e f->O a b c d e f->P a b c d e f->Q a b c d e f->R a b c d e f->S a b c d e f->T a b c d e f->Z a b c d e f->Y1):(∃a b c d e f,N a b c d e f/\O a b c d e f/\P a b c d e f/\Q a b c d e f/\R a b c d e f/\S a b c d e f/\T a b c d e f/\Z a b c d e f)->Y1:=by
 rintro⟨a,b,c,d,e,f,n,o,p,q,r,s,t,z⟩;exact Y0 a b c d e f n o p q r s t z
theorem ec5{A:Type}{N O P Q Z:A->Prop}{Y1:Prop}(Y0:∀(a:A),N a->O a->P a->Q a->Z a->Y1):(∃a,N a/\O a/\P a/\Q a/\Z a)->Y1:=by
 rintro⟨a,n,o,p,q,z⟩;exact Y0 a n o p q z
theorem ec6{A B:Type}{N:Prop}{O Z:A->B->Prop}{Y1:Prop}(Y0:N->∀(a:A)(b:B),O a b->Z a b->Y1):(N/\∃a b,O a b/\Z a b)->Y1:=by
 rintro⟨n,a,b,o,z⟩;exact Y0 n a b o z
theorem ec7{A B:Type}{N:A->Prop}{O Z:A->B->Prop}{Y1:Prop}(Y0:∀(a:A),N a->∀(b:B),O a b->Z a b->Y1):(∃a,N a/\∃b,O a b/\Z a b)->Y1:=by
 rintro⟨a,n,b,o,z⟩;exact Y0 a n b o z
theorem ec8{A B C D E F:Type}{N:Prop}{O P Q R Z:A->B->C->D->E->F->Prop}{Y1:Prop}(Y0:N->∀(a:A)(b:B)(c:C)(d:D)(e:E)(f:F),O a b c d e f->P a b c d e f->Q a b c d e f->R a b c d e f->Z a b c d e f->Y1):(N/\∃a b c d e f,O a b c d e f/\P a b c d e f/\Q a b c d e f/\R a b c d e f/\Z a b c d e f)->Y1:=by
 rintro⟨n,a,b,c,d,e,f,o,p,q,r,z⟩;exact Y0 n a b c d e f o p q r z
def kq:(0:Nat)<PySem.sizeLine:=by decide
def nb:(0:Nat)<=PySem.sizeLine:=by decide
def Qd:(1:Nat)<=PySem.sizeLine:=by decide
def Za:(2:Nat)<=PySem.sizeLine:=by decide
def Lf:(3:Nat)<=PySem.sizeLine:=by decide
def af:(4:Nat)<=PySem.sizeLine:=by decide
def Pg:(5:Nat)<=PySem.sizeLine:=by decide
def lq:(6:Nat)<=PySem.sizeLine:=by decide
namespace L2
open PySem PySem.Spec PyProof.Rows
abbrev Key:=Sum Int Str
def um:Key->xP->Bool
 |.inl k,v=>Value.isInt k v
 |.inr x,v=>Value.isStrOf x v
def qE(w:KP):Key->Int
 |.inl k=>hashInt k
 |.inr x=>hashStr w x
def Bj:∀{k:Key}{v:xP},um k v=CP->(∃i t,k=Sum.inl i/\v=Value.int i t)\/(∃x t,k=Sum.inr x/\v=Value.str x t)
 |.inl i,v,h=>by
  obtain⟨t,e⟩:=Value.isInt_shape h;exact .inl (nx0 i t rfl e)
 |.inr x,v,h=>by
  obtain⟨t,e⟩:=Value.isStrOf_shape h;exact .inr (nx0 x t rfl e)
def rE(i:Int)(t:Tok):um (.inl i) (.int i t)=CP:=by simp[um,Value.isInt]
def sE(x:Str)(t:Tok):um (.inr x) (.str x t)=CP:=by simp[um,Value.isStrOf]
def tE(a b:Int):decide ((Sum.inl a:Key)=Sum.inl b)=(a==b):=by
 grind
def uE(a b:Str):decide ((Sum.inr a:Key)=Sum.inr b)=decide (a=b):=by
 simp_all
def vE(a:Int)(b:Str):decide ((Sum.inl a:Key)=Sum.inr b)=GP:=by rfl
def wE(a:Str)(b:Int):decide ((Sum.inr a:Key)=Sum.inl b)=GP:=by rfl
def ge(prog:HP)(w:KP):PySem.KeyKind prog w Key where
 is:=um
 hash:=qE w
 inj:=λv a b Y U=>by
  rcases Bj Y with⟨i,t,rfl,rfl⟩|⟨x,t,rfl,rfl⟩
  ·rcases Bj U with⟨j,u,rfl,e⟩|⟨y,u,rfl,e⟩
   ·injection e with J _;rw[J]
   ·exact nomatch e
  ·rcases Bj U with⟨j,u,rfl,e⟩|⟨y,u,rfl,e⟩
   ·exact nomatch e
   ·injection e with J _;rw[J]
 byValue:=λk v h=>by
  rcases Bj h with⟨i,t,rfl,rfl⟩|⟨x,t,rfl,rfl⟩<;>rfl
 pyHash:=λO h=>by
  rcases Bj O with⟨i,t,rfl,rfl⟩|⟨x,t,rfl,rfl⟩
  ·exact yR h
  ·exact wpAny_pyHash_str h
 eqBool:=λa0 O h=>by
  rcases Bj a0 with⟨i,t,rfl,rfl⟩|⟨x,t,rfl,rfl⟩
  ·rcases Bj O with⟨j,u,rfl,rfl⟩|⟨y,u,rfl,rfl⟩
   ·rw[tE]at h;exact wpAny_eqBool_int h
   ·rw[vE]at h;exact SeqAt.EqAt.int_str i t y u _ _ _ _ h
  ·rcases Bj O with⟨j,u,rfl,rfl⟩|⟨y,u,rfl,rfl⟩
   ·rw[wE]at h;exact SeqAt.EqAt.str_int x t j u _ _ _ _ h
   ·rw[uE]at h;exact wpAny_eqBool_str h
 «strs»:=λk x t v h=>by
  rcases Bj h with⟨i,u,rfl,e⟩|⟨y,u,rfl,e⟩
  ·exact nomatch e
  ·injection e with J _;subst J;cases v<;>rfl
def xE(prog:HP)(w:KP)(i:Int)(t:Tok):(ge prog w).is (.inl i) (.int i t)=CP:=rE i t
def yE(prog:HP)(w:KP)(x:Str)(t:Tok):(ge prog w).is (.inr x) (.str x t)=CP:=sE x t
inductive V where
 |Pa|bl(b:Bool)|int(i:Int)|str(x:Str)|sh(b:Array UInt8)|jo(b:UInt64)|ref(a:BP)|ty(n:String)
 deriving DecidableEq
def Ka:V->xP->Prop
 |.Pa,u=>u=Value.none
 |.bl b,u=>u=Value.bool b
 |.int i,u=>∃t,u=Value.int i t
 |.str x,u=>∃t,u=Value.str x t
 |.sh b,u=>∃t,u=Value.bytes b t
 |.jo b,u=>∃t,u=Value.float b t
 |.ref a,u=>u=Value.ref a
 |.ty n,u=>u=Value.type n
abbrev Qa:List V->List xP->Prop:=Paired Ka
def Qa.length(r:Qa xs us):xs.length=us.length:=dm r
def Qa.get:∀{xs:List V}{us:List xP}{i:Nat}{x:V},Qa xs us->xs[i]?=wP x->∃u,us[i]?=wP u/\Ka x u
 |_,_,_,_,.nil,e=>by simp at e
 |_,_,0,_,.cons r _,e=>by simp_all
 |_,_,i+1,x,.cons _ t,e=>by
  refine ea1 ?_ (Qa.get (i:=i) (x:=x) t (by simpa using e));rintro u J O
  simp_all
def Qa.set(r:Ka x u):∀{xs:List V}{us:List xP}(i:Nat),Qa xs us->Qa (xs.set i x) (us.set i u)
 |_,_,_,.nil=>.nil
 |_,_,0,.cons _ t=>.cons r t
 |_,_,i+1,.cons q t=>.cons q (Qa.set r i t)
def Qa.append:∀{xs ys:List V}{us J:List xP},Qa xs us->Qa ys J->Qa (xs++ys) (us++J):=by
 intro _ _ _ _ h s;induction h with
 |nil=>exact s
 |cons r t O=>exact .cons r O
def Qa.take:∀{xs:List V}{us:List xP}(n:Nat),Qa xs us->Qa (xs.take n) (us.take n)
 |_,_,0,_=>.nil
 |_,_,_+1,.nil=>.nil
 |_,_,n+1,.cons r t=>.cons r (Qa.take n t)
def Qa.drop:∀{xs:List V}{us:List xP}(n:Nat),Qa xs us->Qa (xs.drop n) (us.drop n)
 |_,_,0,r=>r
 |_,_,_+1,.nil=>.nil
 |_,_,n+1,.cons _ t=>Qa.drop n t
def Sd:Option V->Option xP->Prop
 |some v,wP u=>Ka v u
 |none,yP=>True
 |_,_=>False
def KV{J:Type}:List (J×V)->List (J×xP)->Prop:=Paired λ(p:J×V)(q:J×xP)=>p.1=q.1/\Ka p.2 q.2
def kV:Key->V
 |.inl i=>.int i
 |.inr x=>.str x
inductive HO where
  |lst(xs:List V)
  |tup(xs:List V)
  |dK(Ra:List (Key×V))|dT(Ra:List (List Key×V))
  |set(S:Int->Bool)(n:Nat)
  |ins(C dx:BP)(fs:List (Str×V))
  |own(x:BP)
  |xd(fs:List (Str×V))
  |met(f x:BP)
  |Rs(lo hi:Int)
  |jd(o:dQ)(u:HO)
  |ql(ps:Array xP)
  |ext(φ:NP->Prop)
abbrev Hp:=BP->Option HO
def upd(H:Hp)(a:BP)(o:HO):Hp:=λb=>if b=a then wP o else H b
def la:upd H a o a=wP o:=by unfold upd;rw[wa rfl]
def oa(h:b≠a):upd H a o b=H b:=by unfold upd;rw[ma h]
def he{H:Hp}(h:H a=wP o)(h':H b=yP):a≠b:=by
 lia
section
variable(P:HP)(w:KP)
def Rc(H:Hp)(h:NP)(a:BP):HO->Prop
 |.lst xs=>xs.length<=DP/\∃(O:List xP)(n:Nat),Qa xs O/\h.get? a=wP {cls:=.type "list",data:=.seq O.toArray n}
 |.tup xs=>xs.length<=DP/\∃O:List xP,Qa xs O/\IsTup h a O.toArray
 |.dK U=>U.length<=DP/\(a==bQ)=GP/\∃vs,KV U vs/\h.DictOf (ge P w) a vs
 |.dT U=>U.length<=DP/\(a==bQ)=GP/\∃xs:List (List Key×BP×xP),
   Paired (λ(p:List Key×V)(q:List Key×BP×xP)=>p.1=q.1/\H q.2.1=wP (.tup (p.1.map kV))/\Ka p.2 q.2.2) U xs/\
   ∃o es ep,h.get? a=wP o/\o.ExactDict/\o.data=.dict es ep/\es.toList=xs.map (oR (tQ (ge P w)))/\(xs.map (·.1)).Nodup
 |.set S n=>h.SetOf (mQ P w) a S n
 |.ins C Y fs=>H Y=wP (.own a)/\fs.length<=1000/\Y≠a/\h.get? a=wP (W.instObj C Y)/\
   ∃J,h.Ns1 Y J/\(∀f,Sd (fs.lookup f) (J f))/\PySem.Within J (fs.map (·.1))
 |.own _=>∃o,h.get? a=wP o
 |.xd fs=>∃J,h.Ns1 a J/\∀f,Sd (fs.lookup f) (J f)
 |.Rs lo hi=>∃t u v,h.get? a=wP {cls:=.type "range",data:=.fields #[.int lo t,.int hi u,.int 1 v]}
 |.jd o u=>h.get? a=wP o/\Rc H h a u
 |.ql d0=>h.get? a=wP {cls:=.none,data:=.fields d0}
 |.met f x=>h.get? a=wP (W.methodObj (.ref f) (.ref x))
 |.ext a0=>a0 h/\(∃o,h.get? a=wP o)/\∀b0 c0:NP,a0 b0->(∀o,b0.get? a=wP o->c0.get? a=wP o)->a0 c0
def wc(H:Hp)(h:NP):Prop:=∀a o,H a=wP o->Rc P w H h a o
end
section
variable{P:HP}{w:KP}{H H':Hp}{h h':NP}{a:BP}{o:HO}
def Rc.lt(x:Rc P w H h a o):a<h.objs.size:=by
 cases o with
 |lst xs=>obtain⟨_,_,_,_,e⟩:=x;exact Xa e
 |tup xs=>obtain⟨_,_,_,p⟩:=x;exact p.lt
 |dK J=>revert x;refine ebF ?_;rintro _ _ _ _⟨o,_,_,e,_⟩;exact Xa e
 |dT J=>revert x;refine ebF ?_;rintro _ _ _ _⟨o,_,_,e,_⟩;exact Xa e
 |set S n=>revert x;refine ea5 ?_;rintro o _ _;refine ea1 ?_;rintro _ e _;exact Xa e
 |ins C O fs=>obtain⟨_,_,_,e,_⟩:=x;exact Xa e
 |own y=>obtain⟨_,e⟩:=x;exact Xa e
 |xd fs=>obtain⟨_,⟨_,_,_,e,_⟩,_⟩:=x;exact Xa e
 |Rs lo hi=>obtain⟨_,_,_,e⟩:=x;exact Xa e
 |jd U u=>obtain⟨e,_⟩:=x;exact Xa e
 |ql Y=>exact Xa (x)
 |met f y=>exact Xa (x)
 |ext a0=>obtain⟨_,⟨_,e⟩,_⟩:=x;exact Xa e
def Paired.Ib:∀{J:List α}{O:List β},Paired F J O->(∀a b,F a b->G a b)->Paired G J O:=by
 intro _ _ h f;induction h with
 |nil=>exact .nil
 |cons r t U=>exact .cons (f _ _ r) U
def Paired.imp'{F G:α->β->Prop}(f:∀a b,F a b->G a b)(r:Paired F J O):Paired G J O:=Paired.Ib r f
def Rc.Dd(x:Rc P w H h a o)(k:∀b u,(b=a\/H b=wP (.own a))->h.get? b=wP u->h'.get? b=wP u)
  (a0:∀b,H b=wP (.own a)->H' b=wP (.own a))(f0:∀b xs,H b=wP (.tup xs)->H' b=wP (.tup xs)):Rc P w H' h' a o:=by
 induction o with
 |lst xs=>obtain⟨z,O,n,r,e⟩:=x;exact⟨z,nx0 O n r (k _ _ (.inl rfl) e)⟩
 |tup xs=>obtain⟨z,O,r,J,e,c⟩:=x;exact⟨z,nx9 O r J ⟨by simp_all,c⟩⟩
 |dK b0=>revert x;refine ebF ?_;rintro z y vs r⟨J,es,ep,e,c⟩;exact⟨z,y,nx9 vs r J (nx0 es ep (by grind) c)⟩
 |dT b0=>
  revert x;refine ebF ?_;rintro z y xs r⟨J,es,ep,e,c⟩;exact⟨z,y,nx9 xs (Paired.Ib r (by(intros;simp_all))) J (nx0 es ep (by grind) c)⟩
 |set S n=>revert x;refine ea5 ?_;rintro J es ep;refine ea1 ?_;rintro t e c;exact nx8 J es (nx0 ep t (k _ _ (.inl rfl) e) c)
 |ins C g0 fs=>
  revert x;refine ea3 ?_;rintro d z;refine ebF ?_;rintro c0 e U⟨Y,es,ep,d0,c⟩r;exact⟨a0 _ d,z,c0,by simp_all,U,nx2 Y es ep ⟨k _ _ (.inr d) d0,c⟩,r⟩
 |own y=>obtain⟨J,e⟩:=x;exact⟨J,k _ _ (.inl rfl) e⟩
 |xd fs=>obtain⟨U,⟨Y,es,ep,e,c⟩,r⟩:=x;exact⟨U,nx2 Y es ep ⟨k _ _ (.inl rfl) e,c⟩,r⟩
 |Rs lo hi=>obtain⟨t,u,v,e⟩:=x;exact nx2 t u v (k _ _ (.inl rfl) e)
 |jd J u e0=>obtain⟨e,q⟩:=x;exact⟨k _ _ (.inl rfl) e,e0 q⟩
 |ql h0=>
  have e:=x;exact k a _ (.inl rfl) e
 |met f y=>
  have e:=x;exact k a _ (.inl rfl) e
 |ext i0=>obtain⟨p,⟨o,e⟩,st⟩:=x;exact⟨st _ _ p λo q=>k _ _ (.inl rfl) q,⟨o,k _ _ (.inl rfl) e⟩,st⟩
def wc.lt(x:wc P w H h)(e:H a=wP o):a<h.objs.size:=(x a o e).lt
def wc.fresh(x:wc P w H h)(e:h.objs.size<=a):H a=yP:=by
 cases q:H a with
 |none=>rfl
 |some u=>exact absurd (Vd (x.lt q) e) (Wj _)
def wc.kept(x:wc P w H h)(k:∀b u,h.get? b=wP u->h'.get? b=wP u):wc P w H h':=λa o e=>
 (x a o e).Dd (by(intros;simp_all)) (λ_ q=>q) λ_ _ q=>q
def wc.laid(x:wc P w H h)(k:∀b u,h.get? b=wP u->h'.get? b=wP u)(U:h.objs.size<=a)(Y:Rc P w (upd H a o) h' a o):wc P w (upd H a o) h':=λb u e=>by
 have J:=x.fresh U;by_cases O:b=a
 ·subst O;rw[la]at e;simp_all
 ·rw[oa O]at e;exact(x b u e).Dd (by grind) (λc q=>by rw[oa (he q J)];exact q) λc xs q=>by rw[oa (he q J)];exact q
end
def Rd(H:Hp)(a:BP)(u:HO):Prop:=H a=wP u\/∃o,H a=wP (.jd o u)
def Rd.ok(r:Rd H a u)(x:wc P w H h):Rc P w H h a u:=by
 rcases r with r|⟨o,r⟩
 ·exact x a u r
 ·obtain⟨_,q⟩:=x a _ r;exact q
def mq:Option HO->Prop
 |some (.lst _)=>True
 |some (.dK _)=>True
 |some (.dT _)=>True
 |some (.set _ _)=>True
 |some (.ins _ _ _)=>True
 |some (.ext _)=>True
 |_=>False
section
variable{P:HP}{w:KP}{H:Hp}{h h':NP}{x e:BP}{o':HO}
def wc.write(ok:wc P w H h)(J:mq (H x))(Y:e=x\/H e=wP (.own x))(k:∀b u,b≠e->h.get? b=wP u->h'.get? b=wP u)(c0:∃u,h'.get? e=wP u)
  (d0:Rc P w (upd H x o') h' x o'):wc P w (upd H x o') h':=λb u q=>by
 have a0:∀c y,H c=wP (.own y)->c≠x:=λc y r z=>by subst z;rw[r]at J;exact J
 have e0:∀c xs,H c=wP (.tup xs)->c≠x:=λc xs r z=>by subst z;rw[r]at J;exact J
 by_cases O:b=x
 ·subst O;rw[la]at q;cases q;exact d0
 ·rw[oa O]at q;by_cases U:b=e
  ·have b0:H b=wP (.own x):=by
    rcases Y with z|z
    ·exact absurd (U.trans z) O
    ·rw[U];exact z
   rw[q]at b0;cases b0;obtain⟨v,f0⟩:=c0;exact⟨v,by rw[U];exact f0⟩
  ·refine(ok b u q).Dd (λc v hc r=>k c v ?_ r) (λc r=>by rw[oa (a0 c b r)];exact r) λc xs r=>by rw[oa (e0 c xs r)];exact r
   rcases hc with rfl|hc
   ·exact U
   ·rintro rfl;rcases Y with z|z
    ·exact a0 c b hc z
    ·rw[hc]at z;cases z;exact O rfl
end
structure Un(fs ex:List BP)(H H':Hp)(h h':NP):Prop where
 keep:∀b o,h.get? b=wP o->H b=yP->b∉fs->b∉ex->h'.get? b=wP o
 slot:∀b o,h.get? b=wP o->H b=yP->b∈fs->b∉ex->∃sl,h'.get? b=wP {o with slots:=sl}
 free:∀b o,h.get? b=wP o->H b=yP->b∉ex->H' b=yP
 there:∀b o,h.get? b=wP o->b∉ex->∃o',h'.get? b=wP o'
 tups:∀b xs,H b=wP (.tup xs)->H' b=wP (.tup xs)
 frzs:∀b o u,H b=wP (.jd o u)->H' b=wP (.jd o u)
 tbls:∀b ps,H b=wP (.ql ps)->∃more,H' b=wP (.ql (ps++more))
section
variable{fs AE ex oP:List BP}{H H1 H2:Hp}{h h1 h2 h':NP}{a x e:BP}{o:HO}
def Un.any(u:Un fs ex H H1 h h1)(q:h.get? b=wP J)(n:H b=yP)(O:b∉ex):∃Y,h1.get? b=wP {J with slots:=Y}:=by
 by_cases U:b∈fs
 ·exact u.slot b J q n U O
 ·exact⟨J.slots,u.keep b J q n U O⟩
def Un.kept(k:∀b u,h.get? b=wP u->h'.get? b=wP u):Un fs ex H H h h' :=
 ⟨by(intros;simp_all),λb J q _ _ _=>⟨J.slots,k b J q⟩,λ_ _ _ n _=>n,by(intros;simp_all),λ_ _ q=>q,λ_ _ _ q=>q,λ_ O q=>⟨#[],by rw[q];simp⟩⟩
def Un.refl:Un fs ex H H h h:=Un.kept λ_ _ q=>q
def Un.laid(k:∀b u,h.get? b=wP u->h'.get? b=wP u)(O:h.objs.size<=a)(J:H a=yP):Un fs ex H (upd H a o) h h' where
 keep:=by grind
 slot:=λb u q _ _ _=>⟨u.slots,k b u q⟩
 free:=λb u q n _=>by rw[oa (Ab (Vd (Xa q) O))];exact n
 there:=by grind
 tups:=λb xs q=>by rw[oa (he q J)];exact q
 frzs:=λb u xs q=>by rw[oa (he q J)];exact q
 tbls:=λb U q=>⟨#[],by rw[oa (he q J),q];simp⟩
def Un.write(O:mq (H x))(a0:e=x\/H e=wP (.own x))(k:∀b u,b≠e->h.get? b=wP u->h'.get? b=wP u)(b0:∃u,h'.get? e=wP u):Un fs ex H (upd H x o) h h':=by
 have U:∀b,H b=yP->b≠x:=λb n z=>by subst z;rw[n]at O;exact O
 have Y:∀b,H b=yP->b≠e:=λb n z=>by
  simp_all
 have J:∀b u,H b=wP u->¬mq (wP u)->b≠x:=λb u q nm z=>by simp_all
 refine⟨by(intros;simp_all),λb u q n _ _=>⟨u.slots,k b u (Y b n) q⟩,λb u q n _=>by rw[oa (U b n)];exact n,λb u q _=>?_,
  λb xs q=>by rw[oa (J b _ q λz=>z)];exact q,λb u xs q=>by rw[oa (J b _ q λz=>z)];exact q,λb c0 q=>⟨#[],by rw[oa (J b _ q λz=>z),q];simp⟩⟩
 grind
end
def Ss(h:NP)(H:Hp):List BP:=(List.range h.objs.size).filter λa=>(H a).isSome
def ck(h:NP)(H:Hp):NP:=W.hideAll h (Ss h H)
def BE(h:NP)(H:Hp):(ck h H).objs.size=h.objs.size:=W.hideAll_size _ _
def DE(e:h.get? b=wP o)(n:H b=yP):(ck h H).get? b=wP o:=
 W.hideAll_get _ e λJ=>by
  have q:=(im.mp J).2;rw[n]at q;simp at q
def EE(e:(ck h H).get? b=wP o):h.get? b=wP o/\H b=yP:=by
 have J:=W.of_hideAll (Ss h H) e;refine⟨J,?_⟩;cases q:H b with
 |none=>rfl
 |some x=>
  have O:b∈Ss h H:=im.mpr ⟨Af.mpr (Xa J),by simp[q]⟩;have z:(ck h H).get? b=yP:=W.hideAll_none (Ss h H) O;rw[z]at e;cases e
structure Mod(K:W.Frag)(mg:Str->Option xP)(base:NP):Prop where
 ko:K.In base
 glob:base.Ns VP mg
 blt:∃mb,base.Ns builtinsNs mb/\∀x:Str,x≠"__name__"->mb x=xQ x
 nolimit:base.NoLimit
structure Cx where
 prog:HP
 w:KP
 K:W.Frag
 mg:Str->Option xP
 base:NP
 A:LP
 N:List Str
 s₀:zP
 H₀:Hp
 env:xR
 outer:List xR
 stack:List xR
 ex:List BP
 fn:Str->Bool
 calm:Bool
 pn:List (BP×dQ)
 xe:xP->zP->Prop
def xc(l:List xR):List BP:=l.filterMap (·.frame)
abbrev Cx.fs(X:Cx):List BP:=xc X.outer
def nq(J:rQ)(x:Str):Prop:=J.names.lookup x=wP .local\/J.names.lookup x=wP .cell\/J.names.lookup x=wP .free
def Loc(J:rQ)(x:Str):Prop:=J.names.lookup x=wP .local\/J.names.lookup x=wP .cell
def FE(env:xR)(h:NP)(m:Str->Option xP)(x:Str)(u:xP):Prop:=
 (env.kindOf x=wP .local/\m x=wP u)\/((env.kindOf x=wP .cell\/env.kindOf x=wP .free)/\∃c,env.cells.lookup x=wP c/\h.IsCell c (wP u))
structure Cx.Ok(X:Cx):Prop where
 mod:Mod X.K X.mg X.base
 kind:X.env.scope.kind=.function
 glob:X.env.globals=VP
 blt:X.env.builtins=builtinsNs
 above:X.s₀.heap.objs.size<=X.env.locals
 inj:∀x y c,X.env.cells.lookup x=wP c->X.env.cells.lookup y=wP c->x=y
 has:∀x,(X.env.kindOf x=wP .cell\/X.env.kindOf x=wP .free)->∃c,X.env.cells.lookup x=wP c
 oo:∀x c,X.fn x=CP->X.env.cells.lookup x=wP c->X.s₀.heap.objs.size<=c
 hd:X.calm=CP->X.A.handled=yP
 frames:X.A.frames=wP X.stack
 oq:X.stack=X.outer\/(X.stack=X.env::X.outer/\X.env.frame=wP X.env.locals)
 pq:∀b∈X.ex,b≠X.env.locals/\∀x c,X.env.cells.lookup x=wP c->c≠b
 bs:∀b o,X.base.get? b=wP o->X.s₀.heap.get? b=wP o/\X.H₀ b=yP
 Cj:X.base.objs.size<=X.s₀.heap.objs.size
 uh:∀b o,X.base.get? b=wP o->b∉X.ex
 vh:∀b∈X.ex,b∉X.fs
 Ed:X.s₀.heap.FunFrames X.base X.outer
 vl:∀b∈X.fs,X.H₀ b=yP
structure Inv(X:Cx)(pins:List (BP×dQ))(σ:List (Option V))(H:Hp)(s:zP):Prop where
 ok:X.Ok
 os:s.os=X.s₀.os
 bare:vQ s.gens
 base:Un X.fs X.ex X.H₀ H X.s₀.heap s.heap
 loc:∃m,s.heap.Ns X.env.locals m/\∀(i:Nat)(x:Str)(v:V),X.N[i]?=wP x->σ[i]?=wP (wP v)->nq X.env.scope x->∃u,Ka v u/\FE X.env s.heap m x u
 cell:∀x c,X.env.cells.lookup x=wP c->∃v,s.heap.IsCell c v
 free:H X.env.locals=yP
 Bb:∀x c,X.env.cells.lookup x=wP c->H c=yP
 pin:∀p∈X.pn++pins,s.heap.get? p.1=wP p.2/\H p.1=yP/\p.1≠X.env.locals/\p.1∉X.fs/\∀v,p.2.data≠.cell v
 za:wc X.prog X.w H s.heap
 len:σ.length=X.N.length
section
variable{X:Cx}{pins:List (BP×dQ)}{σ:List (Option V)}{H H':Hp}{s:zP}{h':NP}
def Cx.Ok.uv(ok:X.Ok)(e:X.base.get? b=wP o):b∉X.fs:=λJ=>by
 have:=(ok.Ed.mem J).1
 simp_all
def Inv.bs(I:Inv X pins σ H s):∀b o,X.base.get? b=wP o->s.heap.get? b=wP o/\H b=yP:=λb o e=>
 ⟨I.base.keep b o (I.ok.bs b o e).1 (I.ok.bs b o e).2 (I.ok.uv e) (I.ok.uh b o e),I.base.free b o (I.ok.bs b o e).1 (I.ok.bs b o e).2 (I.ok.uh b o e)⟩
def Inv.bk(I:Inv X pins σ H s):∀b o,X.base.get? b=wP o->s.heap.get? b=wP o:=λb o e=>(I.bs b o e).1
def Inv.mod(I:Inv X pins σ H s):Mod X.K X.mg X.base:=I.ok.mod
def Inv.Gd(I:Inv X pins σ H s):X.K.In s.heap:=I.ok.mod.ko.keeps I.bk
def Inv.lt(I:Inv X pins σ H s):X.env.locals<s.heap.objs.size:=by obtain⟨_,J,_⟩:=I.loc;exact J.lt
def Inv.sz(I:Inv X pins σ H s):X.s₀.heap.objs.size<=s.heap.objs.size:=Nb I.ok.above (sj I.lt)
def Inv.vv(I:Inv X pins σ H s){a:BP}(h:s.heap.objs.size<=a):a∉X.fs:=λJ=>by
 obtain⟨_,o,O,_⟩:=I.ok.Ed.mem J;exact absurd (Vd (Xa O) (Nb I.sz h)) (Wj _)
def Inv.qo(I:Inv X pins σ H s):∀x c,X.env.cells.lookup x=wP c->c≠X.env.locals:=λx c e z=>by
 obtain⟨v,o,J,O⟩:=I.cell x c e;obtain⟨m,⟨U,es,ep,Y,a0,_⟩,_⟩:=I.loc
 simp_all
def Inv.Ed(I:Inv X pins σ H s):s.heap.FunFrames X.base X.outer:=by
 have all:∀(l:List xR),(∀b∈xc l,b∈X.fs)->X.s₀.heap.FunFrames X.base l->s.heap.FunFrames X.base l:=by
  intro l;induction l with
  |nil=>intro _ _;trivial
  |cons env r Y=>
   intro U a0;obtain⟨b0,⟨L,o,c0,f0,d0,g0⟩,e0⟩:=a0;have J:L∈X.fs:=U L (by unfold xc;simp_all);obtain⟨h0,e⟩:=I.base.slot L o d0 (I.ok.vl L J) J λz=>I.ok.vh L z J
   exact⟨b0,by simp[*],Y (λb O=>U b (by unfold xc;rw[ri,c0];exact rh _ O)) e0⟩
 exact all X.outer (λ_ O=>O) I.ok.Ed
def Inv.stack(I:Inv X pins σ H s):s.heap.FunFrames X.base X.stack:=by
 rcases I.ok.oq with e|⟨e,J⟩
 ·rw[e];exact I.Ed
 ·rw[e];obtain⟨m,O,_⟩:=I.loc;refine .cons (by rw[I.ok.kind];decide) J O ?_ I.Ed;exact bq (Nb I.ok.Cj I.ok.above)
def Inv.jf(I:Inv X pins σ H s):∀b∈xc X.stack,b∈X.env.locals::X.fs:=λb J=>by
 rcases I.ok.oq with e|⟨e,O⟩
 ·simp_all
 ·rw[e]at J;unfold xc at J;rw[ri,O]at J;exact J
def Inv.lf(I:Inv X pins σ H s):∀b∈xc X.stack,H b=yP:=λb hb=>by
 rcases jb.mp (I.jf b hb)with e|hb
 ·rw[e];exact I.free
 ·obtain⟨_,o,J,_⟩:=I.ok.Ed.mem hb;exact I.base.free b o J (I.ok.vl b hb) λz=>I.ok.vh b z hb
def Inv.step{ch:List BP}(I:Inv X pins σ H s)
  (b0:∀b∈ch,(b∈X.ex\/X.s₀.heap.objs.size<=b)/\b≠X.env.locals/\(∀x c,X.env.cells.lookup x=wP c->c≠b)/\∀p∈X.pn++pins,p.1≠b)
  (keep:∀b o,b≠X.env.locals->b∉X.fs->b∉ch->s.heap.get? b=wP o->H b=yP->h'.get? b=wP o)
  (slot:∀b o,b≠X.env.locals->b∈X.fs->b∉ch->s.heap.get? b=wP o->H b=yP->∃e0,h'.get? b=wP {o with slots:=e0})(free:∀b o,b∉ch->s.heap.get? b=wP o->H b=yP->H' b=yP)
  (there:∀b o,b∉ch->s.heap.get? b=wP o->∃a0,h'.get? b=wP a0)
  (tups:∀b xs,H b=wP (.tup xs)->H' b=wP (.tup xs))(frzs:∀b o u,H b=wP (.jd o u)->H' b=wP (.jd o u))(tbls:∀b c0,H b=wP (.ql c0)->∃more,H' b=wP (.ql (c0++more)))
  (ns:∀m,s.heap.Ns X.env.locals m->h'.Ns X.env.locals m)(l0:wc X.prog X.w H' h')(m0:vQ g'):
  Inv X pins σ H' {s with heap:=h',gens:=g',drawn:=d',toks:=t'}:=by
 have g0:∀b o,X.s₀.heap.get? b=wP o->b≠X.env.locals:=λb o e=>Ab (Vd (Xa e) I.ok.above)
 have d0:∀b o,X.s₀.heap.get? b=wP o->b∉X.ex->b∉ch:=λb o e J U=>by
  rcases(b0 b U).1 with z|z
  ·exact J z
  ·exact absurd (Vd (Xa e) z) (Wj _)
 have n0:∀x c,X.env.cells.lookup x=wP c->∀v,s.heap.IsCell c v->h'.IsCell c v:=λx c e v⟨o,Y,f0⟩=>by
  have h0:c∉ch:=λz=>(b0 c z).2.2.1 x c e rfl
  by_cases i0:c∈X.fs
  ·obtain⟨e0,q⟩:=slot c o (I.qo x c e) i0 h0 Y (I.Bb x c e);exact⟨_,q,f0⟩
  ·exact⟨o,keep c o (I.qo x c e) i0 h0 Y (I.Bb x c e),f0⟩
 refine⟨I.ok,I.os,m0,⟨λb o e n U J=>?_,λb o e n U J=>?_,λb o e n J=>?_,λb o e J=>?_,λb xs e=>tups b xs (I.base.tups b xs e),λb o xs e=>frzs b o xs (I.base.frzs b o xs e),λb c0 e=>?_⟩,?_,λx c e=>?_,?_,λx c e=>?_,λp o0=>?_,l0,I.len⟩
 ·exact keep b o (g0 b o e) U (d0 b o e J) (I.base.keep b o e n U J) (I.base.free b o e n J)
 ·obtain⟨e0,O⟩:=I.base.slot b o e n U J;obtain⟨s0,j0⟩:=slot b _ (g0 b o e) U (d0 b o e J) O (I.base.free b o e n J)
  grind
 ·obtain⟨a0,O⟩:=I.base.there b o e J;exact free b a0 (d0 b o e J) O (I.base.free b o e n J)
 ·obtain⟨a0,O⟩:=I.base.there b o e J;exact there b a0 (d0 b o e J) O
 ·obtain⟨t0,O⟩:=I.base.tbls b c0 e
  grind
 ·refine ea1 ?_ I.loc;rintro m p0 q0;refine⟨m,ns m p0,λi x v O j0 r0=>?_⟩;obtain⟨u,r,l⟩:=q0 i x v O j0 r0;refine⟨u,r,?_⟩;rcases l with l|⟨k,c,e,z⟩
  ·exact .inl l
  ·exact .inr ⟨k,c,e,n0 x c e _ z⟩
 ·obtain⟨v,z⟩:=I.cell x c e
  grind
 ·obtain⟨m,⟨o,_,_,Y,_⟩,_⟩:=I.loc;exact free _ o (λz=>(b0 _ z).2.1 rfl) Y I.free
 ·obtain⟨v,o,Y,f0⟩:=I.cell x c e;exact free c o (λz=>(b0 c z).2.2.1 x c e rfl) Y (I.Bb x c e)
 ·refine ebC ?_ (I.pin p o0);rintro e n u0 v0 d
  grind
def Inv.un(I:Inv X pins σ H s)(u:Un X.fs [] H H' s.heap h')(Y:wc X.prog X.w H' h'):Inv X pins σ H' {s with heap:=h',toks:=t'}:=by
 obtain⟨m,⟨o,es,ep,O,r⟩,_⟩:=id I.loc;obtain⟨f0,a0⟩:=u.any O I.free (by simp);exact I.step (ch:=[]) (λ_ z=>nomatch z) (λb o _ J _ e n=>u.keep b o e n J (by simp)) (λb o _ J _ e n=>u.slot b o e n J (by simp)) (λb o _ e n=>u.free b o e n (by simp)) (λb o _ e=>u.there b o e (by simp)) u.tups u.frzs u.tbls (λg0 b0=>by
  obtain⟨h0,c0,d0,U,e0⟩:=b0;rw[O]at U;cases U;exact nx2 _ c0 d0 ⟨a0,e0⟩) Y I.bare
def Inv.call(I:Inv X pins σ H s)(u:Un (xc X.stack) ch H H' s.heap h')(a0:wc X.prog X.w H' h')(b0:vQ g')
  (c0:∀b∈ch,(b∈X.ex\/X.s₀.heap.objs.size<=b)/\b≠X.env.locals/\(∀x c,X.env.cells.lookup x=wP c->c≠b)/\∀p∈X.pn++pins,p.1≠b):
  Inv X pins σ H' {s with heap:=h',gens:=g',drawn:=d',toks:=t'}:=by
 obtain⟨m,⟨o,es,ep,U,r⟩,_⟩:=id I.loc;obtain⟨i0,O⟩:=u.any U I.free (by grind);exact I.step c0 (λb o O d0 J e n=>u.keep b o e n (λz=>(jb.mp (I.jf b z)).elim O d0) J) (λb o _ _ J e n=>u.any e n J) (λb o J e n=>u.free b o e n J) (λb o J e=>u.there b o e J) u.tups u.frzs u.tbls (λj0 e0=>by
  obtain⟨l0,f0,g0,Y,h0⟩:=e0;rw[U]at Y;cases Y;exact nx2 _ f0 g0 ⟨O,h0⟩) a0 b0
def Inv.turned(I:Inv X pins σ H s)(k:∀b o,b≠J->s.heap.get? b=wP o->h'.get? b=wP o)(g0:H J=yP)(U:J≠X.env.locals)
  (a0:J∈X.ex\/X.s₀.heap.objs.size<=J)(b0:∀x c,X.env.cells.lookup x=wP c->c≠J)(c0:∀p∈X.pn++pins,p.1≠J):Inv X pins σ H {s with heap:=h',toks:=t'}:=by
 have Y:∀b u,H b=wP u->b≠J:=by lia
 refine I.step (ch:=[J]) (λb d0=>?_) (by(intros;simp_all)) (λb o _ _ O e _=>⟨o.slots,k b o (λz=>O (by simp[z])) e⟩) (λ_ _ _ _ n=>n)
  (by(intros;simp_all)) (λ_ _ e=>e) (λ_ _ _ e=>e) (λb h0 e=>⟨#[],by rw[e];simp⟩) (λm e0=>?_) (λb u e=>?_) I.bare
 ·have e:b=J:=by simpa using d0
  subst e;exact⟨a0,U,b0,c0⟩
 ·obtain⟨o,es,ep,f0,r⟩:=e0;exact nx2 o es ep ⟨k _ o (Dc U) f0,r⟩
 ·refine(I.za b u e).Dd (λc v O q=>k c v ?_ q) (λ_ q=>q) λ_ _ q=>q
  rcases O with z|z
  ·rw[z];exact Y b u e
  ·exact Y c _ z
def Inv.tok(I:Inv X pins σ H s)(t:Nat):Inv X pins σ H {s with toks:=t}:=I.un Un.refl I.za
def Inv.kept(I:Inv X pins σ H s)(k:∀b u,s.heap.get? b=wP u->h'.get? b=wP u):Inv X pins σ H {s with heap:=h',toks:=t'}:=I.un (Un.kept k) (I.za.kept k)
def Inv.laid{a:BP}(I:Inv X pins σ H s)(k:∀b u,s.heap.get? b=wP u->h'.get? b=wP u)(J:s.heap.objs.size<=a)(O:Rc X.prog X.w (upd H a o) h' a o):
  Inv X pins σ (upd H a o) {s with heap:=h',toks:=t'}:=I.un (Un.laid k J (I.za.fresh J)) (I.za.laid k J O)
def Inv.write(I:Inv X pins σ H s)(J:mq (H x))(O:e=x\/H e=wP (.own x))(k:∀b u,b≠e->s.heap.get? b=wP u->h'.get? b=wP u)(U:∃u,h'.get? e=wP u)
  (Y:Rc X.prog X.w (upd H x o) h' x o):Inv X pins σ (upd H x o) {s with heap:=h',toks:=t'}:=I.un (Un.write J O k U) (I.za.write J O k U Y)
def Inv.Qg(I:Inv X pins σ H s)(h:∀p∈J,s.heap.get? p.1=wP p.2/\H p.1=yP/\p.1≠X.env.locals/\p.1∉X.fs/\∀v,p.2.data≠.cell v):Inv X J σ H s:=
 ⟨I.ok,I.os,I.bare,I.base,I.loc,I.cell,I.free,I.Bb,λp O=>(Xb.mp O).elim (λz=>I.pin p (by simp_all)) (h p),I.za,I.len⟩
def md{N:List Str}(J:N.Nodup){i j:Nat}(a:N[i]?=wP x)(b:N[j]?=wP x):i=j:=by
 obtain⟨Y,O⟩:=Zb.mp a;obtain⟨a0,U⟩:=Zb.mp b;exact(List.getElem_inj J).mp (O.trans U.symm)
def Ey(I:Inv X pins σ H s)(r0:X.N.Nodup)(hi:X.N[i]?=wP x)(U:Loc X.env.scope x)(r:Ka v u)
  (h:∀s',Inv X pins (σ.set i (wP v)) H s'->(∃a,Heap.SameBut a s.heap s'.heap/\(a=X.env.locals\/X.env.cells.lookup x=wP a))->Q () s')(x0:X.fn x=CP\/X.env.scope.names.lookup x=wP .local:=by first|exact .inl rfl|exact .inr rfl|assumption):wpAny M A (storeName X.env x u) Q E s:=by
 obtain⟨m,f0,s0⟩:=id I.loc;have y0:(X.env.scope.kind==.class||(X.env.scope.kind==.module&&X.env.locals !=X.env.globals))=GP:=by rw[I.ok.kind];rfl
 have t0:i<σ.length:=by rw[I.len];exact(Zb.mp hi).1
 have qo:=I.qo;have u0:∀{a:BP}{h':NP},(∃o,s.heap.get? a=wP o/\H a=yP)->Heap.SameBut a s.heap h'->wc X.prog X.w H h':=λ{a h'}z0 J b A0 e=>by
  obtain⟨_,_,L0⟩:=z0;refine(I.za b A0 e).Dd (λc g0 Y q=>(J.2 c ?_).trans q) (λ_ q=>q) λ_ _ q=>q
  lia
 rcases U with hk|hk
 ·refine wpAny_storeName_local hk f0 (λh' B0 J=>?_) y0;obtain⟨C0,_,_,D0,_⟩:=id f0;refine h _ ⟨I.ok,I.os,I.bare,⟨λb o e n b0 U=>?_,λb o e n b0 U=>?_,I.base.free,λb o e U=>?_,I.base.tups,I.base.frzs,I.base.tbls⟩,⟨_,B0,λj y h0 O a0 i0=>?_⟩,λy c e=>?_,I.free,I.Bb,λp j0=>?_,u0 ⟨C0,D0,I.free⟩ J,by simpa using I.len⟩ (by grind)
  ·exact(J.2 b (Ab (Vd (Xa e) I.ok.above))).trans (I.base.keep b o e n b0 U)
  ·obtain⟨l0,O⟩:=I.base.slot b o e n b0 U;exact⟨l0,(J.2 b (Ab (Vd (Xa e) I.ok.above))).trans O⟩
  ·obtain⟨m0,O⟩:=I.base.there b o e U;exact⟨m0,(J.2 b (Ab (Vd (Xa e) I.ok.above))).trans O⟩
  ·by_cases c0:j=i
   ·subst c0;rw[hi]at O;cases O;rw[List.getElem?_set_self t0]at a0;cases a0;exact⟨u,r,.inl ⟨hk,by simp⟩⟩
   ·rw[List.getElem?_set_ne (Dc c0)]at a0;refine ea1 ?_ (s0 j y h0 O a0 i0);rintro n0 o0 q;refine⟨n0,o0,?_⟩;rcases q with⟨k,e⟩|⟨k,c,e,z⟩
    ·refine .inl ⟨k,?_⟩;have:y≠x:=λe=>c0 (md r0 O (e▸hi))
     simp[this,e]
    ·exact .inr ⟨k,c,e,z.sameBut J (qo y c e)⟩
  ·obtain⟨g0,z⟩:=I.cell y c e;exact⟨g0,z.sameBut J (qo y c e)⟩
  ·refine ebC ?_ (I.pin p j0);rintro e n d0 p0 d;exact⟨(J.2 p.1 d0).trans e,n,d0,p0,d⟩
 ·have q0:X.fn x=CP:=by
   rcases x0 with z|z
   ·exact z
   ·rw[z]at hk;cases hk
  obtain⟨c,Y⟩:=I.ok.has x (.inl hk);obtain⟨g0,z⟩:=I.cell x c Y;refine wpAny_storeName_cell I.ok.kind hk Y z (λh' v0 J=>?_);obtain⟨F0,G0,M0⟩:=id z;refine h {s with heap:=h'} ⟨I.ok,I.os,I.bare,⟨λb o e n b0 U=>?_,λb o e n b0 U=>?_,I.base.free,λb o e U=>?_,I.base.tups,I.base.frzs,I.base.tbls⟩,⟨m,f0.sameBut J (by grind),λj y h0 O a0 i0=>?_⟩,λy e0 e=>?_,I.free,I.Bb,λp j0=>?_,u0 ⟨F0,G0,I.Bb x c Y⟩ J,by simpa using I.len⟩ (by grind)
  ·exact(J.2 b (Ab (Vd (Xa e) (I.ok.oo x c q0 Y)))).trans (I.base.keep b o e n b0 U)
  ·obtain⟨l0,O⟩:=I.base.slot b o e n b0 U;exact⟨l0,(J.2 b (Ab (Vd (Xa e) (I.ok.oo x c q0 Y)))).trans O⟩
  ·obtain⟨m0,O⟩:=I.base.there b o e U;exact⟨m0,(J.2 b (Ab (Vd (Xa e) (I.ok.oo x c q0 Y)))).trans O⟩
  ·by_cases c0:j=i
   ·subst c0;rw[hi]at O;cases O;rw[List.getElem?_set_self t0]at a0;cases a0;exact⟨u,r,.inr ⟨.inl hk,c,Y,v0⟩⟩
   ·rw[List.getElem?_set_ne (Dc c0)]at a0;obtain⟨n0,o0,q⟩:=s0 j y h0 O a0 i0;refine⟨n0,o0,?_⟩;rcases q with q|⟨k,e0,e,I0⟩
    ·exact .inl q
    ·refine .inr ⟨k,e0,e,I0.sameBut J ?_⟩;rintro rfl;exact c0 (md r0 O (I.ok.inj _ _ _ e Y▸hi))
  ·by_cases w0:e0=c
   ·subst w0;exact⟨_,v0⟩
   ·obtain⟨J0,K0⟩:=I.cell y e0 e;exact⟨J0,K0.sameBut J w0⟩
  ·refine ebC ?_ (I.pin p j0);rintro e n d0 p0 d;refine⟨(J.2 p.1 ?_).trans e,n,d0,p0,d⟩
   grind
def Fy(I:Inv X pins σ H s)(J:X.N.Nodup)(hi:X.N[i]?=wP x)(O:Loc X.env.scope x)(r:Ka v u)
  (h:∀s',Inv X pins (σ.set i (wP v)) H s'->Q () s')(U:X.fn x=CP\/X.env.scope.names.lookup x=wP .local:=by first|exact .inl rfl|exact .inr rfl|assumption):wpAny M A (storeName X.env x u) Q E s:=
 Ey I J hi O r (by(intros;simp_all)) U
def Inv.Rg(I:Inv X pins σ H s)(J:s'.os=s.os)(u:Un (xc X.stack) ch H H' s.heap s'.heap)(O:wc X.prog X.w H' s'.heap)(U:vQ s'.gens)
  (Y:∀b∈ch,(b∈X.ex\/X.s₀.heap.objs.size<=b)/\b≠X.env.locals/\(∀x c,X.env.cells.lookup x=wP c->c≠b)/\∀p∈X.pn++pins,p.1≠b):Inv X pins σ H' s':=by
 obtain⟨h',g',d',t',a0⟩:=s';have e:=J;subst e;exact I.call u O U Y
end
abbrev XK:=xP->Option BP->Hp->Prop
abbrev St:=List (Option V)
abbrev VK:=V->Hp->Prop
abbrev TE:=St->Hp->VK->Prop
abbrev TT:=St->Hp->(Bool->Hp->Prop)->Prop
abbrev TA:=St->Hp->(List V->Hp->Prop)->Prop
structure ug where
 nx:St->Hp->Prop
 rt:VK
 bk:St->Hp->Prop:=λ_ _=>False
 ct:St->Hp->Prop:=λ_ _=>False
abbrev TS:=ug->St->Hp->Prop
inductive EP(X:Cx)(pins:List (BP×dQ))(σ:St)(Q:VK)(u:xP)(s':zP):Prop|mk(v H')(_:Inv X pins σ H' s')(_:Ka v u)(_:Q v H')
def TP(X:Cx)(J:List (BP×dQ))(O:St)(Q:Bool->Hp->Prop)(b:Bool)(s':zP):Prop:=∃H',Inv X J O H' s'/\Q b H'
inductive AP(X:Cx)(pins:List (BP×dQ))(σ:St)(Q:List V->Hp->Prop)(us:List xP)(s':zP):Prop|mk(vs H')(_:Inv X pins σ H' s')(_:Qa vs us)(_:Q vs H')
def SP(X:Cx)(O:List (BP×dQ))(D:ug)(f:Flow)(s':zP):Prop:=
 match f with
 |.next=>∃J H',Inv X O J H' s'/\D.nx J H'
 |.brk=>∃J H',Inv X O J H' s'/\D.bk J H'
 |.cont=>∃J H',Inv X O J H' s'/\D.ct J H'
 |.ret u=>∃v J H',Inv X O J H' s'/\Ka v u/\D.rt v H'
structure PE(X:Cx)(e:UP)(t:TE):Prop where
 run:∀(pins:List (BP×dQ))(s:zP)(σ:St)(H:Hp)(Q:VK),Inv X pins σ H s->t σ H Q->wpAny (FP X.prog X.w) X.A (XP e X.env) (EP X pins σ Q) X.xe s
instance{X:Cx}{e:UP}{t:TE}:CoeFun (PE X e t) λ_=>∀(pins:List (BP×dQ))(s:zP)(σ:St)(H:Hp)(Q:VK),Inv X pins σ H s->t σ H Q->wpAny (FP X.prog X.w) X.A (XP e X.env) (EP X pins σ Q) X.xe s:=⟨PE.run⟩
structure PT(X:Cx)(e:UP)(t:TT):Prop where
 run:∀(pins:List (BP×dQ))(s:zP)(σ:St)(H:Hp)(Q:Bool->Hp->Prop),Inv X pins σ H s->t σ H Q->wpAny (FP X.prog X.w) X.A (isTrue e X.env (XP e X.env)) (TP X pins σ Q) X.xe s
instance{X:Cx}{e:UP}{t:TT}:CoeFun (PT X e t) λ_=>∀(pins:List (BP×dQ))(s:zP)(σ:St)(H:Hp)(Q:Bool->Hp->Prop),Inv X pins σ H s->t σ H Q->wpAny (FP X.prog X.w) X.A (isTrue e X.env (XP e X.env)) (TP X pins σ Q) X.xe s:=⟨PT.run⟩
structure PW(X:Cx)(e:UP)(t:TT):Prop where
 run:∀(whole:SR xP)(pins:List (BP×dQ))(s:zP)(σ:St)(H:Hp)(Q:Bool->Hp->Prop),Inv X pins σ H s->t σ H Q->wpAny (FP X.prog X.w) X.A (isTrue e X.env whole) (TP X pins σ Q) X.xe s
instance{X:Cx}{e:UP}{t:TT}:CoeFun (PW X e t) λ_=>∀(whole:SR xP)(pins:List (BP×dQ))(s:zP)(σ:St)(H:Hp)(Q:Bool->Hp->Prop),Inv X pins σ H s->t σ H Q->wpAny (FP X.prog X.w) X.A (isTrue e X.env whole) (TP X pins σ Q) X.xe s:=⟨PW.run⟩
def PW.pt(h:PW X e t):PT X e t:=⟨h.run _⟩
structure PA(X:Cx)(es:List UP)(t:TA):Prop where
 run:∀(pos:sQ)(pins:List (BP×dQ))(s:zP)(σ:St)(H:Hp)(Q:List V->Hp->Prop),Inv X pins σ H s->t σ H Q->wpAny (FP X.prog X.w) X.A (YR (cQ pos (JP es X.env))) (AP X pins σ Q) X.xe s
instance{X:Cx}{es:List UP}{t:TA}:CoeFun (PA X es t) λ_=>∀(pos:sQ)(pins:List (BP×dQ))(s:zP)(σ:St)(H:Hp)(Q:List V->Hp->Prop),Inv X pins σ H s->t σ H Q->wpAny (FP X.prog X.w) X.A (YR (cQ pos (JP es X.env))) (AP X pins σ Q) X.xe s:=⟨PA.run⟩
structure PS(X:Cx)(st:hQ)(t:TS):Prop where
 run:∀(pins:List (BP×dQ))(s:zP)(σ:St)(H:Hp)(D:ug),Inv X pins σ H s->t D σ H->wpAny (FP X.prog X.w) X.A (exec st X.env) (SP X pins D) X.xe s
instance{X:Cx}{st:hQ}{t:TS}:CoeFun (PS X st t) λ_=>∀(pins:List (BP×dQ))(s:zP)(σ:St)(H:Hp)(D:ug),Inv X pins σ H s->t D σ H->wpAny (FP X.prog X.w) X.A (exec st X.env) (SP X pins D) X.xe s:=⟨PS.run⟩
structure De(X:Cx)(st:List hQ)(t:TS):Prop where
 run:∀(pins:List (BP×dQ))(s:zP)(σ:St)(H:Hp)(D:ug),Inv X pins σ H s->t D σ H->wpAny (FP X.prog X.w) X.A (execs st X.env) (SP X pins D) X.xe s
instance{X:Cx}{st:List hQ}{t:TS}:CoeFun (De X st t) λ_=>∀(pins:List (BP×dQ))(s:zP)(σ:St)(H:Hp)(D:ug),Inv X pins σ H s->t D σ H->wpAny (FP X.prog X.w) X.A (execs st X.env) (SP X pins D) X.xe s:=⟨De.run⟩
def Aa(h:wpAny M A t Q E s)(J:∀a s,Q a s->O a s):wpAny M A t O E s:=Pc h J λ_ _ x=>x
section
variable{X:Cx}
inductive ro(i:Nat)(σ:L2.St)(H:Hp)(Q:VK):Prop|mk(v)(_:σ[i]?=wP (wP v))(_:Q v H)
def tC(v:V):TE:=λ_ H Q=>Q v H
def Gy{pos:sQ}(Y:X.N[i]?=wP x)(a0:nq X.env.scope x)(J:(x==("__debug__":Str))=GP:=by decide)(b0:(x==("__classdict__":Str))=GP:=by decide):PE X (.Name x pos) (ro i):=by
 constructor;intro c0 s d0 H Q I h;obtain⟨v,e,h⟩:=h;obtain⟨m,e0,f0⟩:=I.loc;obtain⟨u,r,l⟩:=f0 i x v Y e a0;have fin:EP X c0 d0 Q u s:=⟨v,H,I,r,h⟩;rcases l with⟨hk,g0⟩|⟨hk,c,O,U⟩
 ·exact wpAny_Name (wpAny_loadName_local I.ok.kind hk e0 g0 fin) J
 ·rcases hk with hk|hk
  ·exact wpAny_Name (wpAny_loadName_cell I.ok.kind hk O U fin) J
  ·exact wpAny_Name (wpAny_loadName_free I.ok.kind hk O U fin b0) J
def ka{i j pos}:PE X (.Constant (.int i) j pos) (tC (.int i)):=⟨λ_ _ _ H _ I h=>wpAny_Constant_int ⟨.int i,H,I.tok _,⟨_,rfl⟩,h⟩⟩
def wh{b j pos}:PE X (.Constant (.bool b) j pos) (tC (.bl b)):=⟨λ_ _ _ H _ I h=>Constant_bool ⟨.bl b,H,I,rfl,h⟩⟩
def Pe{j pos}:PE X (.Constant .none j pos) (tC .Pa):=⟨λ_ _ _ H _ I h=>Constant_none ⟨.Pa,H,I,rfl,h⟩⟩
def jc{x j pos}:PE X (.Constant (.str x) j pos) (tC (.str x)):=⟨λ_ _ _ H _ I h=>Calls.Constant_str ⟨.str x,H,I.tok _,⟨_,rfl⟩,h⟩⟩
def Gl(X:Cx)(x:Str):Prop:=X.env.kindOf x=wP .globalImplicit
def vm{J:St}(I:Inv X a0 J H s)(O:Gl X x)(U:X.mg x=wP u)(h:Q u s)
  (Y:(x==("__debug__":Str))=GP:=by decide):wpAny (FP X.prog X.w) X.A (XP (.Name x pos) X.env) Q E s:=
 Calls.Name_function_global I.ok.kind O (Calls.loadGlobal_global (by rw[I.ok.glob];exact I.mod.glob.keeps I.bk) U h) Y
def Sg{E:xP->zP->Prop}{J:St}{pos:sQ}(I:Inv X b0 J H s)(O:Gl X x)(U:X.mg x=yP)(c0:xQ x=wP u)(h:Q u s)
  (d0:x≠"__name__":=by decide)(Y:(x==("__debug__":Str))=GP:=by decide):wpAny (FP X.prog X.w) X.A (XP (.Name x pos) X.env) Q E s:=by
 obtain⟨e0,a0,f0⟩:=I.mod.blt;exact Calls.Name_function_global I.ok.kind O (Calls.loadGlobal_builtin (by rw[I.ok.glob];exact I.mod.glob.keeps I.bk) U (by rw[I.ok.blt];exact a0.keeps I.bk) (by simp[*]) h) Y
def Ts(J:Gl X x)(O:X.mg x=wP u)(r:Ka v u)(U:(x==("__debug__":Str))=GP:=by decide):PE X (.Name x pos) (tC v):=
 ⟨λ_ _ _ H _ I h=>vm I J O ⟨v,H,I,r,h⟩ U⟩
def so{pos:sQ}(J:Gl X x)(O:X.mg x=yP)(U:xQ x=wP u)(r:Ka v u)(Y:x≠"__name__":=by decide)(a0:(x==("__debug__":Str))=GP:=by decide):PE X (.Name x pos) (tC v):=
 ⟨λ_ _ _ H _ I h=>Sg I J O U ⟨v,H,I,r,h⟩ Y a0⟩
variable{a b:UP}{ta tb:TE}{pos:sQ}
structure PC(X:Cx)(op:CmpOp)(a b:UP)(t:TE):Prop where
 run:∀(pins:List (BP×dQ))(s:zP)(σ:St)(H:Hp)(Q:VK),Inv X pins σ H s->t σ H Q->
  wpAny (FP X.prog X.w) X.A (XP a X.env) (λv wm=>wpAny (FP X.prog X.w) X.A (XP b X.env) (λu xm=>wpAny (FP X.prog X.w) X.A (YP op v u) (EP X pins σ Q) X.xe xm) X.xe wm) X.xe s
instance{X:Cx}{op:CmpOp}{a b:UP}{t:TE}:CoeFun (PC X op a b t) λ_=>∀(pins:List (BP×dQ))(s:zP)(σ:St)(H:Hp)(Q:VK),Inv X pins σ H s->t σ H Q->
  wpAny (FP X.prog X.w) X.A (XP a X.env) (λv wm=>wpAny (FP X.prog X.w) X.A (XP b X.env) (λu xm=>wpAny (FP X.prog X.w) X.A (YP op v u) (EP X pins σ Q) X.xe xm) X.xe wm) X.xe s:=⟨PC.run⟩
def tB(t:TE):TT:=λJ H Q=>t J H λx O=>∃c,x=.bl c/\Q c O
def HE(h:PC X op a b t)(J:EQ op b=GP:=by first|exact e0 _ (by decide) (by decide)|rfl):PT X (.Compare a [op] [b] pos) (tB t):=by
 constructor;intro O s U H Q I Y;refine wpAny_isTrue_Compare1 (Aa (h O s U H _ I Y) λv s1 J=>Aa J λu f0 a0=>Aa a0 ?_) J;rintro c g0⟨x,b0,c0,d0,q1⟩;obtain⟨d,rfl,q⟩:=q1;cases d0;exact Yl ⟨b0,c0,q⟩
def Mi{e:UP}{t:TE}(h:PE X e t)(O:∀J,isTrue e X.env J=(do let v<-J;tR e.pos;DQ [v] (truthy v)):=by intro _;rfl):PT X e (tB t):=by
 constructor;intro U s Y H Q I a0;refine isTrue_plain (Aa (h U s Y H _ I a0) ?_) (O _);rintro v s1⟨x,b0,c0,d0,q1⟩;obtain⟨d,rfl,q⟩:=q1;cases d0;exact Yl ⟨b0,c0,q⟩
variable{tA Us:TT}{rest:List UP}
def IE(t u:TT):TT:=λJ H Q=>t J H λc O=>if c=CP then u J O Q else Q GP O
def JE(t u:TT):TT:=λJ H Q=>t J H λc O=>if c=CP then Q CP O else u J O Q
def ME(t:TT):TT:=λJ H Q=>t J H λc O=>Q (!c) O
def ym(J:PT X a tA):PW X (.BoolOp .And [a] pos) tA:=by
 constructor;intro Y O s U H Q I h;refine isTrue_and (Aa (J O s U H Q I h) λc s1 e=>?_);cases c with
 |true=>exact isTrue_and_nil e
 |false=>exact e
def uo(J:PT X a tA):PW X (.BoolOp .Or [a] pos) tA:=by
 constructor;intro Y O s U H Q I h;refine isTrue_or (Aa (J O s U H Q I h) λc s1 e=>?_);cases c with
 |false=>exact isTrue_or_nil e
 |true=>exact e
def zm(a0:PT X a tA)(b0:PW X (.BoolOp .And (b::rest) pos) Us):PW X (.BoolOp .And (a::b::rest) pos) (IE tA Us):=by
 constructor;intro c0 J s O H Q I h;refine isTrue_and (Aa (a0 J s O H _ I h) ?_);rintro c s1;refine ea1 ?_;rintro U Y q1;cases c with
 |true=>exact b0 c0 J s1 O U Q Y q1
 |false=>exact⟨U,Y,q1⟩
def Am(a0:PT X a tA)(b0:PW X (.BoolOp .Or (b::rest) pos) Us):PW X (.BoolOp .Or (a::b::rest) pos) (JE tA Us):=by
 constructor;intro c0 J s O H Q I h;refine isTrue_or (Aa (a0 J s O H _ I h) ?_);rintro c s1;refine ea1 ?_;rintro U Y q1;cases c with
 |true=>exact⟨U,Y,q1⟩
 |false=>exact b0 c0 J s1 O U Q Y q1
def Dj(J:PT X a tA):PT X (.UnaryOp .Not a pos) (ME tA):=by
 constructor;intro O s U H Q I h;exact isTrue_not (J O s U H (λc Y=>Q (!c) Y) I h)
inductive NE(tb:TE)(σ:L2.St)(Q:VK)(x:V)(H1:Hp):Prop|mk(c)(_:x=.bl c)(_:if c=CP then tb σ H1 Q else Q (.bl GP) H1)
def OE(ta tb:TE):TE:=λJ H Q=>ta J H (NE tb J Q)
inductive QE(Q:VK)(x:V)(H1:Hp):Prop|mk(c)(_:x=.bl c)(_:Q (.bl (!c)) H1)
def RE(ta:TE):TE:=λJ H Q=>ta J H (QE Q)
def Vs{op}(h:PE X a t):PE X (.BoolOp op [a] pos) t:=⟨λJ s O H Q I U=>BoolOp_one (h J s O H Q I U)⟩
def vo(a0:PE X a ta)(b0:PE X (.BoolOp .And (b::rest) pos) tb):PE X (.BoolOp .And (a::b::rest) pos) (OE ta tb):=by
 constructor;intro J s O H Q I h;refine BoolOp_and (Aa (a0 J s O H _ I h) ?_);rintro v s1⟨x,U,Y,c0,q1⟩;obtain⟨c,rfl,q1⟩:=q1;cases c0;refine Yl ?_;cases c with
 |true=>exact b0 J s1 O U Q Y q1
 |false=>exact⟨.bl GP,U,Y,rfl,q1⟩
def SE(J:PE X a ta):PE X (.UnaryOp .Not a pos) (RE ta):=by
 constructor;intro O s U H Q I h;refine UnaryOp_ (Aa (J O s U H _ I h) ?_);rintro v s1⟨x,Y,a0,b0,q1⟩;obtain⟨c,rfl,q1⟩:=q1;cases b0;exact not_of (Yl ⟨.bl (!c),Y,a0,rfl,q1⟩)
def Hy(t:TT)(ta tb:TE):TE:=λJ H Q=>t J H λc O=>if c=CP then ta J O Q else tb J O Q
def wv(a0:PT X c tA)(b0:PE X a ta)(c0:PE X b tb):PE X (.IfExp c a b pos) (Hy tA ta tb):=by
 constructor;intro J s O H Q I h;refine wpAny_IfExp (Aa (a0 J s O H _ I h) ?_);rintro d s1;refine ea1 ?_;rintro U Y q1;cases d with
 |true=>exact b0 J s1 O U Q Y q1
 |false=>exact c0 J s1 O U Q Y q1
end
def ia(K:W.Frag)(H:Hp)(a:BP)(xs:List V):Prop:=
 Rd H a (.lst xs)\/
  ∃(o:dQ)(J:Array xP)(n:Nat),K.lookup a=wP o/\o.cls=.type "list"/\o.dict=yP/\o.data=.seq J n/\J.size<=DP/\Qa xs J.toList
def Ba(K:W.Frag)(H:Hp)(a:BP)(xs:List V):Prop:=
 Rd H a (.tup xs)\/
  ∃(o:dQ)(J:Array xP)(n:Nat),K.lookup a=wP o/\o.cls=.type "tuple"/\o.data=.seq J n/\J.size<=DP/\Qa xs J.toList
def UE:xP->Option V
 |.none=>wP .Pa
 |.bool b=>wP (.bl b)
 |.int i _=>wP (.int i)
 |.str x _=>wP (.str x)
 |.bytes b _=>wP (.sh b)
 |.float b _=>wP (.jo b)
 |.ref a=>wP (.ref a)
 |.type n=>wP (.ty n)
 |_=>yP
def Ka.abs(r:Ka x u):UE u=wP x:=by
 cases x with
 |Pa=>cases r;rfl
 |bl _=>cases r;rfl
 |int _=>obtain⟨t,rfl⟩:=r;rfl
 |str _=>obtain⟨t,rfl⟩:=r;rfl
 |sh _=>obtain⟨t,rfl⟩:=r;rfl
 |jo _=>obtain⟨t,rfl⟩:=r;rfl
 |ref _=>cases r;rfl
 |ty _=>cases r;rfl
def Ka.inj(r:Ka x u)(q:Ka y u):x=y:=me (r.abs.symm.trans q.abs)
def Qa.inj:∀{xs ys:List V}{us:List xP},Qa xs us->Qa ys us->xs=ys:=by
 intro _ ys _ h;induction h generalizing ys with
 |nil=>rintro(_|_);rfl
 |cons r t J=>rintro(_|⟨O,t'⟩);rw[r.inj O,J t']
section
variable{X:Cx}{pins:List (BP×dQ)}{σ:St}{H:Hp}{s:zP}{a:BP}{xs ys:List V}
def ia.of{K:W.Frag}(h:H a=wP (.lst xs)):ia K H a xs:=.inl (.inl h)
def Ba.of{K:W.Frag}(h:H a=wP (.tup xs)):Ba K H a xs:=.inl (.inl h)
def Inv.list(I:Inv X pins σ H s)(h:ia X.K H a xs):∃J:List xP,Qa xs J/\PlainL s.heap a J.toArray/\xs.length<=DP:=by
 rcases h with h|⟨o,J,n,O,U,Y,a0,hz,r⟩
 ·refine ec6 ?_ (h.ok I.za);rintro z J n r e;exact⟨J,r,nx3 _ n e rfl rfl rfl,z⟩
 ·refine⟨J.toList,r,nx3 o n (I.Gd a o O) U Y (by simpa using a0),?_⟩;have e:=r.length
  simp[*]
def Inv.tuple(I:Inv X pins σ H s)(h:Ba X.K H a xs):∃J:List xP,Qa xs J/\IsTup s.heap a J.toArray/\xs.length<=DP:=by
 rcases h with h|⟨o,J,n,O,U,Y,hz,r⟩
 ·refine eb5 ?_ (h.ok I.za);rintro z J r p;exact⟨J,r,p,z⟩
 ·refine⟨J.toList,r,nx18 o (I.Gd a o O) U n (by simpa using Y),?_⟩;have e:=r.length
  grind
def Inv.pe(I:Inv X pins σ H s)(h:ia X.K H a xs)(h':ia X.K H a ys):xs=ys:=by
 obtain⟨O,r,⟨o,n,e,_,_,d⟩,_⟩:=I.list h;obtain⟨its',U,⟨a0,b0,J,_,_,d'⟩,_⟩:=I.list h';rw[e]at J;cases J;rw[d]at d';injection d' with Y _;have:O=its':=by simpa using Ub Array.toList Y
 subst this;exact r.inj U
end
abbrev Cx.Wc(X:Cx)(E:xP->zP->Prop):Cx:={X with xe:=E}
abbrev Cx.Tg(X:Cx):Cx:=X.Wc λ_ _=>False
def Cx.Ok.Wc{X:Cx}(ok:X.Ok)(E:xP->zP->Prop):(X.Wc E).Ok:=
 ⟨ok.mod,ok.kind,ok.glob,ok.blt,ok.above,ok.inj,ok.has,ok.oo,ok.hd,ok.frames,ok.oq,ok.pq,ok.bs,ok.Cj,ok.uh,ok.vh,ok.Ed,ok.vl⟩
def Cx.Ok.Va{X:Cx}(ok:(X.Wc E).Ok):X.Ok:=
 ⟨ok.mod,ok.kind,ok.glob,ok.blt,ok.above,ok.inj,ok.has,ok.oo,ok.hd,ok.frames,ok.oq,ok.pq,ok.bs,ok.Cj,ok.uh,ok.vh,ok.Ed,ok.vl⟩
section
variable{X:Cx}{pins:List (BP×dQ)}{σ:St}{H:Hp}{s:zP}{E:xP->zP->Prop}
def Inv.Wc(I:Inv X pins σ H s)(E:xP->zP->Prop):Inv (X.Wc E) pins σ H s:=⟨I.ok.Wc E,I.os,I.bare,I.base,I.loc,I.cell,I.free,I.Bb,I.pin,I.za,I.len⟩
def Inv.Va(I:Inv (X.Wc E) pins σ H s):Inv X pins σ H s:=⟨I.ok.Va,I.os,I.bare,I.base,I.loc,I.cell,I.free,I.Bb,I.pin,I.za,I.len⟩
def SP.Va(h:SP (X.Wc E) pins D f s'):SP X pins D f s':=by
 cases f with
 |next=>obtain⟨J,H',I,q⟩:=h;exact nx0 J H' I.Va q
 |brk=>obtain⟨J,H',I,q⟩:=h;exact nx0 J H' I.Va q
 |cont=>obtain⟨J,H',I,q⟩:=h;exact nx0 J H' I.Va q
 |ret u=>obtain⟨v,J,H',I,r,q⟩:=h;exact nx7 v J H' I.Va r q
def PE.Tg(h:PE X.Tg e t):PE X e t:=⟨λpins s σ H Q I J=>
 Pc (h pins s σ H Q (I.Wc _) J) (by rintro _ _⟨v,H',O,r,q⟩;exact⟨v,H',O.Va,r,q⟩) (by(intros;simp_all))⟩
def PT.Tg(h:PT X.Tg e t):PT X e t:=⟨λpins s σ H Q I J=>
 Pc (h pins s σ H Q (I.Wc _) J) (by rintro _ _⟨H',O,q⟩;exact⟨H',O.Va,q⟩) (by grind)⟩
def De.Tg{st:List hQ}(h:De X.Tg st t):De X st t:=⟨λpins s σ H D I J=>
 Pc (h pins s σ H D (I.Wc _) J) (λ_ _ q=>q.Va) (by grind)⟩
end
section
variable{X:Cx}{st:hQ}{rest:List hQ}{t u:TS}{e:UP}{te:TE}{pos:sQ}
def VE:TS:=λD J H=>D.nx J H
def ya(t u:TS):TS:=λD J H=>t {D with nx:=u D} J H
def yc:De X [] VE:=⟨λ_ _ J H _ I h=>Xj (nx0 J H I h)⟩
def va(O:PS X st t)(U:De X rest u):De X (st::rest) (ya t u):=by
 constructor;intro J s Y H D I h;refine Rp (Aa (O J s Y H {D with nx:=u D} I h) λf s1 q=>?_);cases f with
 |next=>
  revert q;refine ea8 ?_;rintro a0 H' b0 q;exact U J s1 a0 H' D b0 q
 |ret v=>exact q
 |brk=>exact q
 |cont=>exact q
def ra(J:PS X st t):De X [st] t:=by
 constructor;intro O s U H D I h;refine Rp (Aa (J O s U H D I h) λf s1 q=>?_);cases f with
 |next=>exact Xj q
 |ret v=>exact q
 |brk=>exact q
 |cont=>exact q
def Inv.quiet{J:St}(I:Inv X O J H s):interactive X.env=GP:=by simp[interactive,I.ok.kind]
def WE(te:TE):TS:=λD J H=>te J H λ_ O=>D.nx J O
def Qe(O:PE X e te)(U:uQ e yP pos.line X.env=pure GP:=by rfl):PS X (.Expr e pos) (WE te):=by
 constructor;intro Y s J H D I h;exact wpAny_Expr_any (Aa (O Y s J H _ I h) (by rintro v s1⟨x,a0,b0,c0,q1⟩;exact nx0 J a0 b0 q1)) I.quiet U
def XE(te:TE):TS:=λD J H=>te J H D.rt
def Sa(O:PE X e te):PS X (.Return (wP e) pos) (XE te):=by
 constructor;intro U s J H D I h;exact wpAny_Return_some (Aa (O U s J H _ I h) (by rintro v s1⟨x,Y,a0,b0,q1⟩;exact nx7 x J Y a0 b0 q1))
def Ec(c:TT)(t u:TS):TS:=λD J H=>c J H λb O=>if b=CP then t D J O else u D J O
def rc(a0:PT X c b0)(c0:De X a t)(d0:De X b u):PS X (.If c a b pos) (Ec b0 t u):=by
 constructor;intro J s O H D I h;refine wpAny_If (Aa (a0 J s O H _ I h) ?_);rintro d s1⟨U,Y,q1⟩;cases d with
 |true=>exact c0 J s1 O U D Y q1
 |false=>exact d0 J s1 O U D Y q1
end
abbrev TG:=V->St->Hp->(St->Hp->Prop)->Prop
abbrev dk:=List V->St->Hp->(St->Hp->Prop)->Prop
structure PG(X:Cx)(target:UP)(t:TG):Prop where
 run:∀(pins:List (BP×dQ))(s:zP)(σ:St)(H:Hp)(v:V)(u:xP)(Q:St->Hp->Prop),Inv X pins σ H s->Ka v u->t v σ H Q->
  wpAny (FP X.prog X.w) X.A (dS target X.env u) (λ_ s'=>∃Mf H',Inv X pins Mf H' s'/\Q Mf H') X.xe s
instance{X:Cx}{target:UP}{t:TG}:CoeFun (PG X target t) λ_=>∀(pins:List (BP×dQ))(s:zP)(σ:St)(H:Hp)(v:V)(u:xP)(Q:St->Hp->Prop),Inv X pins σ H s->Ka v u->t v σ H Q->
  wpAny (FP X.prog X.w) X.A (dS target X.env u) (λ_ s'=>∃Mf H',Inv X pins Mf H' s'/\Q Mf H') X.xe s:=⟨PG.run⟩
structure Bm(X:Cx)(ts:List UP)(t:dk):Prop where
 run:∀(pins:List (BP×dQ))(s:zP)(σ:St)(H:Hp)(vs:List V)(us:List xP)(Q:St->Hp->Prop),Inv X pins σ H s->Qa vs us->t vs σ H Q->
  wpAny (FP X.prog X.w) X.A (assignInOrder ((nQ ts X.env).map (·.2)) us) (λ_ s'=>∃Mf H',Inv X pins Mf H' s'/\Q Mf H') X.xe s
instance{X:Cx}{ts:List UP}{t:dk}:CoeFun (Bm X ts t) λ_=>∀(pins:List (BP×dQ))(s:zP)(σ:St)(H:Hp)(vs:List V)(us:List xP)(Q:St->Hp->Prop),Inv X pins σ H s->Qa vs us->t vs σ H Q->
  wpAny (FP X.prog X.w) X.A (assignInOrder ((nQ ts X.env).map (·.2)) us) (λ_ s'=>∃Mf H',Inv X pins Mf H' s'/\Q Mf H') X.xe s:=⟨Bm.run⟩
abbrev xv:=V->V->V->Hp->(Hp->Prop)->Prop
def yv(X:Cx)(t:xv):Prop:=
 ∀(J:List (BP×dQ))(s:zP)(O:St)(H:Hp)(o i v:V)(U Y u:xP)(Q:Hp->Prop),Inv X J O H s->Ka o U->Ka i Y->Ka v u->t o i v H Q->
  wpAny (FP X.prog X.w) X.A (setItem U Y u) (λ_ s'=>∃H',Inv X J O H' s'/\Q H') X.xe s
section
variable{X:Cx}{pos:sQ}
def qq(i:Nat):TG:=λv J H Q=>Q (J.set i (wP v)) H
def Iy(J:X.N.Nodup)(hi:X.N[i]?=wP x)(O:Loc X.env.scope x)(U:X.fn x=CP\/X.env.scope.names.lookup x=wP .local:=by first|exact .inl rfl|exact .inr rfl|assumption):PG X (.Name x pos) (qq i):=by
 constructor;intro a0 s b0 H v u Q I r h;exact wpAny_assign_Name (Fy I J hi O r (λs' Y=>nx0 _ H Y h) U)
def YE:dk:=λvs J H Q=>vs=[]/\Q J H
def ZE(t:TG)(u:dk):dk:=λvs J H Q=>∃v r,vs=v::r/\t v J H λO H'=>u r O H' Q
def xh:Bm X [] YE:=by
 constructor;intro O s J H vs us Q I r h;obtain⟨e,h⟩:=h;subst e;exact assignInOrder_nil (nx0 J H I h)
def Mc{e:UP}{es:List UP}{t:TG}{u:dk}(O:PG X e t)(U:Bm X es u)
  (Y:(nQ (e::es) X.env).map (·.2)=dS e X.env::(nQ es X.env).map (·.2):=by rfl):Bm X (e::es) (ZE t u):=by
 constructor;intro J s a0 H vs us Q I r h;revert h;refine ea8 ?_;rintro v g0 b0 h;subst b0;cases r with
 |cons r c0=>
  rw[Y];refine assignInOrder_cons (Aa (O J s a0 H _ _ _ I r h) ?_);rintro _ s1;refine ea8 ?_;rintro d0 e0 f0 q1;exact U J s1 d0 e0 _ _ Q f0 c0 q1
def Jy(K:W.Frag)(n:Nat)(t:dk):TG:=λv J H Q=>∃a xs,v=.ref a/\Ba K H a xs/\xs.length=n/\t xs J H Q
def Rh{es:List UP}{k:Nat}{t:dk}{n:Nat}(U:X.calm=CP)(h:Bm X es t)
  (Y:(nQ es X.env).length=n:=by rfl)(a0:(nQ es X.env).findIdx? (·.1)=yP:=by rfl):PG X (.Tuple es k pos) (Jy X.K n t):=by
 constructor;intro b0 s c0 H v u Q I r J;revert J;refine eaA ?_;rintro a xs d0 e0 f0 J;subst d0;cases r;refine ea7 ?_ (I.tuple e0);rintro j0 O g0 hz;refine assign_Tuple_tuple (I.ok.hd U) g0 (by simp[Y,<-f0,O.length]) a0 λh' h0=>?_
 have i0:=I.kept (t':=s.toks) λb o e=>h0 b o (Ab (Xa e)) e
 exact h b0 _ c0 H xs _ Q i0 (by simpa using O) J
def aF(O U:TE)(t:xv):TG:=λv J H Q=>O J H λo Y=>U J Y λi a0=>t o i v a0 λb0=>Q J b0
def Ky{o i:UP}{a0 b0:TE}{t:xv}(c0:PE X o a0)(hi:PE X i b0)(d0:yv X t)
  (e0:∀v,dS (.Subscript o i pos) X.env v=(do
   let J<-DQ [v] (XP o X.env)
   let O<-DQ [v,J] (XP i X.env)
   tR pos
   DQ [v,J,O] (setItem J O v)
   release [v,J,O] []):=by intro _;rfl):PG X (.Subscript o i pos) (aF a0 b0 t):=by
 constructor;intro Y s U H v u Q I r h;rw[e0];refine ba (Jc (Aa (c0 Y s U H _ I h) ?_));rintro J s1⟨x,f0,g0,h0,q1⟩;refine ba (Jc (Aa (hi Y s1 U f0 _ g0 q1) ?_));rintro O i0⟨y,j0,l0,m0,q2⟩;refine ba (Dn (ba (Jc (Aa (d0 Y i0 U j0 x y v J O u _ l0 h0 m0 r q2) ?_))));rintro _ p0;refine ea1 ?_;rintro n0 o0 q3;exact wpAny_release (nx0 U n0 o0 q3)
def zv(O:TE)(g:TG):TS:=λD J H=>O J H λx U=>g x J U D.nx
def Av{J e:UP}{O:TE}{g:TG}(a0:PE X e O)(b0:PG X J g)(c0:swapsWithSole [J] e pos.line X.env=pure GP:=by rfl)(d0:swappedStores [J] e X.env=pure yP:=by rfl)
  (e0:(nQ [J] X.env).map (·.2)=[dS J X.env]:=by rfl):PS X (.Assign [J] e pos) (zv O g):=by
 constructor;intro U s Y H D I h;refine wpAny_Assign_stores (Aa (a0 U s Y H _ I h) ?_) c0 d0;rintro v s1⟨x,f0,g0,h0,q1⟩;rw[e0];exact Aa (b0 U s1 Y f0 x v _ g0 h0 q1) λ_ i0 q=>q
def bF(J:X.N.Nodup)(hi:X.N[i]?=wP x)(O:Loc X.env.scope x)(U:PE X e Y)(a0:uQ e (wP (.Name x b0)) pos.line X.env=pure GP:=by rfl)(c0:X.fn x=CP\/X.env.scope.names.lookup x=wP .local:=by first|exact .inl rfl|exact .inr rfl|assumption):
  PS X (.Assign [.Name x b0] e pos) (zv Y (qq i)):=by
 constructor;intro d0 s e0 H D I h;refine wpAny_Assign_Name (Aa (U d0 s e0 H _ I h) ?_) a0;rintro v s1⟨y,f0,g0,h0,q1⟩;exact Fy g0 J hi O h0 (λj0 i0=>nx0 _ f0 i0 q1) c0
inductive cF(c:TT)(tb:TS)(D:ug)(σ:L2.St)(H:Hp):Prop|mk(W:Nat->St->Hp->Prop)(_:(∃m,W m σ H))(_:∀m σ H,W m σ H->c σ H λb H1=>if b=CP then∃N:St->Hp->Prop,(∀Mf H',N Mf H'->∃m',m'<m/\W m' Mf H')/\tb {D with nx:=N,ct:=N,bk:=D.nx} σ H1 else D.nx σ H1)
def Ly(f0:PassesOwn (FP X.prog X.w) X.A X.env X.xe)(m0:PT X c n0)(o0:De X p0 q0):PS X (.While c p0 [] pos) (cF n0 q0):=by
 constructor;intro Y s r0 H D I h;obtain⟨W,⟨s0,t0⟩,turn⟩:=h;refine wpAny_While (codeAny_whileLoop (λn s'=>∃g0 H',Inv X Y g0 H' s'/\W n g0 H') ?_ s0 (nx0 r0 H I t0));rintro n s1;refine ea8 ?_;rintro U h0 u0 v0;refine gm f0 (Aa (m0 Y s1 U h0 _ u0 (turn n U h0 v0)) ?_);rintro b w0;refine ea1 ?_;rintro i0 j0 q2;cases b with
 |true=>
  revert q2;refine ea1 ?_;rintro N l0 q2;refine gm f0 (Aa (o0 Y w0 U i0 _ j0 q2) λf x0 q3=>?_);cases f with
  |next=>
   revert q3;refine ea8 ?_;rintro J O a0 b0;refine ea1 ?_ (l0 J O b0);rintro c0 d0 e0;exact⟨c0,d0,nx0 J O a0 e0⟩
  |cont=>
   revert q3;refine ea8 ?_;rintro J O a0 b0;refine ea1 ?_ (l0 J O b0);rintro c0 d0 e0;exact⟨c0,d0,nx0 J O a0 e0⟩
  |brk=>exact q3
  |ret v=>exact q3
 |false=>
  exact Xj (nx0 U i0 j0 q2)
end
structure It where
 go:Nat->Hp->Prop
 Nf:Nat->Hp->V->Hp->Prop
 stop:Nat->Hp->Prop
def Ug(X:Cx)(J:List (BP×dQ))(H:Hp)(b:BP):Prop:=
 H b=yP/\b≠X.env.locals/\b∉X.fs/\(b∈X.ex\/X.s₀.heap.objs.size<=b)/\(∀x c,X.env.cells.lookup x=wP c->c≠b)/\∀p∈X.pn++J,p.1≠b
def Inv.vg{O:St}{b:BP}(I:Inv X U O H s)(J:s.heap.objs.size<=b)(Y:H' b=yP):Ug X U H' b:=by
 refine⟨Y,Zj (Vd I.lt J),I.vv J,.inr (Nb I.sz J),λx c e z=>?_,λp a0 z=>?_⟩
 ·obtain⟨v,q⟩:=I.cell x c e;exact absurd (Vd q.lt (by rw[z];exact J)) (Wj _)
 ·exact absurd (Vd (Xa (I.pin p a0).1) (by rw[z];exact J)) (Wj _)
structure wl(P:HP)(w:KP)(K:W.Frag)(tg:UP)(J:It)(fp:List BP)(it:BP)(tn:Nat->NP->Prop):Prop where
 mem:it∈fp
 obj:∀i h,tn i h->∀b∈fp,∃o,h.get? b=wP o/\∀v,o.data≠.cell v
 keep:∀i h h',tn i h->(∀b∈fp,∀o,h.get? b=wP o->h'.get? b=wP o)->tn i h'
 item:∀(X:Cx),X.prog=P->X.w=w->X.K=K->X.calm=CP->∀(i:Nat)(pins:List (BP×dQ))(s:zP)(σ:St)(H:Hp)(E:xP->zP->Prop),Inv X pins σ H s->(∀b∈fp,Ug X pins H b)->tn i s.heap->J.go i H->
  wpAny (FP P w) X.A (IQ (.ref it)) (λr s1=>∃u,r=wP u/\
   wpAny (FP P w) X.A (RQ tg (.ref it) u) (λ_ s2=>∃x H',Inv X pins σ H' s2/\Ka x u/\J.Nf i H x H'/\tn (i+1) s2.heap/\∀b∈fp,H' b=yP) E s1) E s
 done:∀(X:Cx),X.prog=P->X.w=w->X.K=K->X.calm=CP->∀(i:Nat)(pins:List (BP×dQ))(s:zP)(σ:St)(H:Hp)(E:xP->zP->Prop),Inv X pins σ H s->(∀b∈fp,Ug X pins H b)->tn i s.heap->J.stop i H->
  wpAny (FP P w) X.A (IQ (.ref it)) (λr s1=>r=yP/\Inv X pins σ H s1) E s
 self:∀(A:LP)(i:Nat)(s:zP)(Q:xP->zP->Prop)(E:xP->zP->Prop),tn i s.heap->Q (.ref it) s->wpAny (FP P w) A (JQ (.ref it)) Q E s
abbrev TI:=St->Hp->(It->Hp->Prop)->Prop
inductive Bv(X:Cx)(pins:List (BP×dQ))(σ:St)(tg:UP)(R:It->Hp->Prop)(dF:xP)(s2:zP):Prop|mk(it:BP)(fp:List BP)(tn:Nat->NP->Prop)(J:It)(H':Hp)(_:dF=.ref it)(_:Inv X pins σ H' s2)(_:wl X.prog X.w X.K tg J fp it tn)(_:tn 0 s2.heap)(_:(∀b∈fp,Ug X pins H' b))(_:R J H')
structure PI(X:Cx)(tg iter:UP)(wi:TI):Prop where
 run:∀(pins:List (BP×dQ))(s:zP)(σ:St)(H:Hp)(R:It->Hp->Prop),Inv X pins σ H s->wi σ H R->
  wpAny (FP X.prog X.w) X.A (XP iter X.env) (λv s1=>wpAny (FP X.prog X.w) X.A (JQ v) (Bv X pins σ tg R) X.xe s1) X.xe s
instance{X:Cx}{tg iter:UP}{wi:TI}:CoeFun (PI X tg iter wi) λ_=>∀(pins:List (BP×dQ))(s:zP)(σ:St)(H:Hp)(R:It->Hp->Prop),Inv X pins σ H s->wi σ H R->
  wpAny (FP X.prog X.w) X.A (XP iter X.env) (λv s1=>wpAny (FP X.prog X.w) X.A (JQ v) (Bv X pins σ tg R) X.xe s1) X.xe s:=⟨PI.run⟩
def Ws(O:s.heap.get? U=wP o)(Y:o.cls=.type n)(a0:o.data=.fields vs)
    (c0:["enumerate","zip","dict_itemiterator","dict_reverseitemiterator","odict_iterator","itertools.zip_longest","itertools.pairwise"].contains n=GP)(J:Q () s):wpAny M A (RQ b0 (.ref U) u) Q E s:=by
  unfold RQ;cases b0<;>first
    |exact ca J
    |(cases u<;>first
        |exact ca J
        | (refine ba (wpAny_load O ?_)
           rw[Y,a0];show wpAny M A (if(["enumerate","zip","dict_itemiterator","dict_reverseitemiterator","odict_iterator","itertools.zip_longest","itertools.pairwise"].contains n&&vs[0]?==wP (ZP _))=CP then _ else _) Q E s;rw[ma (by grind)];exact ca J))
def Vg(K:W.Frag)(a:BP):It:=
 ⟨λi H=>∃xs x,ia K H a xs/\xs[i]?=wP x,λi H x H'=>H'=H/\∀xs,ia K H a xs->xs[i]?=wP x,λi H=>∃xs,ia K H a xs/\xs.length<=i⟩
def xl(lo:Int)(n:Nat):It:=⟨λi _=>i<n,λi H x H'=>H'=H/\x=.int (lo+i),λi _=>n<=i⟩
def eF{K:W.Frag}(a J:BP):wl P w K x0 (Vg K a) [J] J (λi h=>h.IsListIter J a i)where
 mem:=by simp
 obj:=λi h st b U=>by
  have e:b=J:=by simpa using U
  subst e;revert st;refine ea7 ?_;rintro o e c d;exact(by simp_all)
 keep:=λi h h' st k=>st.at (by grind)
 item:=by
  intro X Y a0 b0 m0 i o0 s p0 H E I c0 st d0;subst Y a0 b0;revert d0;refine ea8 ?_;rintro xs x O e0;refine ea7 ?_ (I.list O);rintro q0 f0 p hz;refine ea1 ?_ (f0.get e0);rintro u r0 s0;refine eaD ?_ (c0 J (by simp));rintro g0 h0 t0 i0 j0 l0;refine wpAny_pyNext_list_item st p.isList (by simpa using r0) λh' n0 u0=>?_
  have v0:=I.turned (t':=s.toks) (λb o U e=>(u0.2 b U).trans e) g0 h0 i0 j0 l0;refine ea7 ?_ (id n0);rintro o e c d;exact⟨u,rfl,Ws e c d (by decide) (nx19 x H v0 s0 ⟨rfl,λys w0=>by rw[I.pe w0 O];exact e0⟩ n0 (by(intros;simp_all)))⟩
 done:=by
  intro X Y a0 b0 m0 i o0 s p0 H E I c0 st d0;subst Y a0 b0;obtain⟨xs,O,e0⟩:=d0;refine ea7 ?_ (I.list O);rintro q0 f0 p hz;refine eaD ?_ (c0 J (by simp));rintro g0 h0 t0 i0 j0 l0;have y0:=f0.length;exact wpAny_pyNext_list_end (I.ok.hd m0) st p.isList (by simp;simp_all) λh' z0=>⟨rfl,I.turned ‹_› g0 h0 i0 j0 l0⟩
 self:=λ_ _ _ _ _ st h=>wpAny_pyIter_listiter st h
def fF{K:PySem.W.Frag}(J:BP)(lo:Int)(n:Nat):wl P w K s0 (xl lo n) [J] J (λi h=>IsRangeIter h J (lo+(i:Nat)*1) ((n:Int)-(i:Nat)) 1)where
 mem:=by simp
 obj:=λi h st b n0=>by
  simp_all
 keep:=by simp_all
 item:=by
  intro X O U Y a0 i i0 s j0 H E I b0 st c0;subst O U Y;refine eaD ?_ (b0 J (by simp));rintro d0 e0 o0 f0 g0 h0;have W:=Walks.range (prog:=X.prog) (w:=X.w) (I.ok.hd a0) J lo 1 n;refine W.item i s _ _ c0 st λv h' l0 p0 m0 q0=>?_
  obtain⟨t,rfl⟩:=p0;have r0:Inv X i0 j0 H {s with heap:=h',toks:=l0}:=I.turned (λb o n0 e=>q0 b o (by simp[*]) e) d0 e0 f0 g0 h0;refine⟨_,rfl,Ws (s:={s with heap:=h',toks:=l0}) (n:="range_iterator") m0 rfl rfl (by decide) (nx19 (.int (lo+i)) H r0 ⟨t,?_⟩ ⟨rfl,rfl⟩ m0 (by grind))⟩;rw[Int.mul_one]
 done:=by
  intro X O U Y a0 i i0 s j0 H E I b0 st c0;subst O U Y;refine eaD ?_ (b0 J (by simp));rintro d0 e0 o0 f0 g0 h0;exact wpAny_pyNext_range_end (I.ok.hd a0) st (by have:n<=i:=c0;lia) λh' t0=>⟨rfl,I.turned (t':=s.toks) ‹_› d0 e0 f0 g0 h0⟩
 self:=λ_ _ _ _ _ st h=>wpAny_pyIter_rangeiter st h
section
variable{X:Cx}{tg:UP}
def gF(K:W.Frag)(O:TE):TI:=λU H R=>O U H λx J=>∃a,x=.ref a/\(∃xs,ia K J a xs)/\R (Vg K a) J
def bc(O:PE X l U):PI X tg l (gF X.K U):=by
 constructor;intro Y s a0 H R I h;refine Aa (O Y s a0 H _ I h) ?_;rintro v s1⟨x,b0,J,c0,q1⟩;revert q1;refine ea7 ?_;rintro a e⟨xs,d0⟩q;subst e;cases c0;refine ea7 ?_ (J.list d0);rintro f0 g0 p hz;refine io p.isList ?_;refine⟨s1.heap.objs.size,[s1.heap.objs.size],_,_,b0,rfl,J.kept λb o e=>Ta _ e,eF a _,⟨_,Hb _ rfl,rfl,rfl⟩,λb e0=>?_,q⟩;have e:b=s1.heap.objs.size:=by simpa using e0
 subst e;exact J.vg (xa _) (J.za.fresh (xa _))
def Of{J:St}{lo hi:Int}(I:Inv X U J H s)(Y:-(2^62)<=lo)(a0:lo<2^62)(b0:-(2^62)<=hi)(c0:hi<2^62)
  (q:R (xl lo (hi-lo).toNat) H):wpAny (FP X.prog X.w) X.A (JQ (.ref s.heap.objs.size)) (Bv X U J tg R) E {s with heap:=s.heap.push {cls:=.type "range",data:=.fields #[.int lo t,.int hi u,.int 1 v]},toks:=d0}:=by
 refine wpAny_pyIter_range (IsRange.new ..) (small_one Y a0 b0 c0) ?_;have O:Inv X U J H {s with heap:=s.heap.push {cls:=.type "range",data:=.fields #[.int lo t,.int hi u,.int 1 v]},toks:=d0}:=I.kept λb o e=>Ta _ e
 refine⟨(s.heap.push {cls:=.type "range",data:=.fields #[.int lo t,.int hi u,.int 1 v]}).objs.size,[(s.heap.push {cls:=.type "range",data:=.fields #[.int lo t,.int hi u,.int 1 v]}).objs.size],_,_,H,rfl,
  O.kept λb o e=>Ta _ e,fF _ lo (hi-lo).toNat,?_,λb e0=>?_,q⟩
 ·have f0:lo+((0:Nat):Int)*1=lo:=by simp
  have g0:(((hi-lo).toNat:Nat):Int)-((0:Nat):Int)=Builtin.Range.rangeSize lo hi 1:=by rw[rangeSize_one];split<;>grind
  rw[f0,g0];exact Hb _ rfl
 ·have e:b=(s.heap.push {cls:=.type "range",data:=.fields #[.int lo t,.int hi u,.int 1 v]}).objs.size:=by simpa using e0
  subst e;exact O.vg (xa _) (O.za.fresh (xa _))
def hF(J:TA):TI:=λO H R=>J O H λvs U=>∃j:Int,vs=[.int j]/\-(2^62)<=j/\j<2^62/\R (xl 0 j.toNat) U
def iF(J:TA):TI:=λO H R=>J O H λvs U=>∃i j:Int,vs=[.int i,.int j]/\(-(2^62)<=i/\i<2^62/\-(2^62)<=j/\j<2^62)/\R (xl i (j-i).toNat) U
def yl(J:Gl X "range")(O:X.mg "range"=yP)(U:PA X [a] Y)(a0:JP [a] X.env=[(GP,XP a X.env)]:=by rfl):PI X tg (.Call (.Name "range" p) [a] [] pos) (hF Y):=by
 constructor;intro b0 s c0 H R I h;refine Call_ (Sg I J O boot_range (jm (Aa (U pos b0 s c0 H _ I h) ?_) a0 rfl));rintro us s1⟨vs,g0,d0,e0,q1⟩;revert q1;refine eb2 ?_;rintro j e q1 q2 q;subst e;cases e0 with
 |cons r f0=>
  cases f0;obtain⟨t,rfl⟩:=r;exact call_range_1 (Of d0 (by simp_all) (by simp_all) q1 q2 (by simpa using q))
def jF{p pos:sQ}(U:Gl X "range")(Y:X.mg "range"=yP)(a0:PA X [a,b] b0)(c0:JP [a,b] X.env=[(GP,XP a X.env),(GP,XP b X.env)]:=by rfl)(O:JP [b] X.env=[(GP,XP b X.env)]:=by rfl):
  PI X tg (.Call (.Name "range" p) [a,b] [] pos) (iF b0):=by
 constructor;intro d0 s e0 H R I h;refine Call_ (Sg I U Y boot_range (jm (Aa (a0 pos d0 s e0 H _ I h) ?_) (by rw[c0,O]) (by rw[O];rfl)));rintro us s1⟨vs,j0,f0,g0,q1⟩;revert q1;refine ea0 ?_;rintro i j e⟨q1,q2,q3,h0⟩q;subst e;cases g0 with
 |cons r J=>
  cases J with
  |cons i0 J=>
   cases J;obtain⟨t,rfl⟩:=r;obtain⟨t',rfl⟩:=i0;exact call_range_2 (Of f0 q1 q2 q3 h0 q)
def qe(a0:TI)(g:TG)(b0:TS):TS:=λD J H=>a0 J H λO c0=>∃W:Nat->Nat->St->Hp->Prop,(∃m,W 0 m J c0)/\∀i m J H,W i m J H->
 (O.stop i H/\D.nx J H)\/(O.go i H/\∃N:St->Hp->Prop,(∀U H',N U H'->∃Y,Y<m/\W (i+1) Y U H')/\∀x H',O.Nf i H x H'->g x J H' λd0 e0=>b0 {D with nx:=N,ct:=N,bk:=D.nx} d0 e0)
def rq(fp:List BP)(h:NP):List (BP×dQ):=fp.filterMap λb=>(h.get? b).map λo=>(b,o)
def Xs(J:b∈fp)(e:h.get? b=wP o):(b,o)∈rq fp h:=Uk.mpr ⟨b,J,by rw[e];rfl⟩
def kF(J:p∈rq fp h):p.1∈fp/\h.get? p.1=wP p.2:=by
 obtain⟨b,O,e⟩:=Uk.mp J;cases q:h.get? b with
 |none=>simp_all
 |some o=>
  grind
def Inv.pinned{J:St}(I:Inv X O J H s)(U:∀b∈fp,Ug X O H b)(b0:∀b∈fp,∃o,s.heap.get? b=wP o/\∀v,o.data≠.cell v):Inv X (O++rq fp s.heap) J H s:=
 I.Qg λp Y=>(Xb.mp Y).elim (λz=>I.pin p (by simp_all)) λz=>by
  obtain⟨a0,e⟩:=kF z;refine ea6 ?_ (U p.1 a0);rintro c0 d0 e0 _
  grind
def Inv.Bc{J:St}(I:Inv X (O++pl) J H s):Inv X O J H s:=I.Qg λp U=>I.pin p (by simp_all)
def kd(c0:PassesOwn (FP X.prog X.w) X.A X.env X.xe)(m0:X.calm=CP)(hi:PI X tg iter w0)(x0:PG X tg g)(J:De X y0 z0)
  (A0:∀x,pQ iter X.env x=pure x:=by intro _;rfl):PS X (.For tg iter y0 [] pos) (qe w0 g z0):=by
 constructor;intro b0 s n0 H D I h;refine wpAny_For (Aa (hi b0 s n0 H _ I h) λv s1 B0=>Aa B0 λh1 i1 C0=>?_) A0;obtain⟨j1,fp,o0,l1,D0,e,F0,T,G0,p0,W,⟨I0,J0⟩,turn⟩:=C0;subst e;have h0:∀{H':Hp},(∀b∈fp,H' b=yP)->∀b∈fp,Ug X b0 H' b:=λK0 b J=>⟨K0 b J,(p0 b J).2⟩
 refine codeAny_forLoop_any (λn s'=>∃i d0 H',Inv X b0 d0 H' s'/\o0 i s'.heap/\(∀b∈fp,H' b=yP)/\W i n d0 H') ?_ I0 (nx1 0 n0 D0 F0 G0 (λb J=>(p0 b J).1) J0);rintro n q0;refine ea4 ?_;rintro i e0 g0 r0 s0 t0 L0;rcases turn i n e0 g0 L0 with⟨stop,M0⟩|⟨N0,N,O0,step⟩
 ·refine gm c0 (Aa (T.done X rfl rfl rfl m0 i b0 q0 e0 g0 X.xe r0 (h0 t0) s0 stop) ?_);rintro r P0⟨i0,Q0⟩;subst i0;exact Xj (nx0 e0 g0 Q0 M0)
 ·refine gm c0 (Aa (T.item X rfl rfl rfl m0 i b0 q0 e0 g0 X.xe r0 (h0 t0) s0 N0) ?_);rintro r P0;refine ea1 ?_;rintro u i0 R0;subst i0;refine gm c0 (Aa R0 ?_);rintro _ u0;refine eb4 ?_;rintro x v0 S0 T0 U0 j0 V0;have W0:=S0.pinned (h0 V0) (T.obj _ _ j0);refine gm c0 (Aa (x0 _ u0 e0 v0 x u _ W0 T0 (step x v0 U0)) ?_);rintro _ X0;refine ea8 ?_;rintro Y0 Z0 a1 b1;refine gm c0 (Aa (J _ X0 Y0 Z0 _ a1 b1) λf l0 a0=>?_);have again:∀{O:St}{U:Hp},Inv X (b0++rq fp u0.heap) O U l0->N O U->∃m,m<n/\∃i d0 H',Inv X b0 d0 H' l0/\o0 i l0.heap/\(∀b∈fp,H' b=yP)/\W i m d0 H':=λ{O U}Y f0=>by
   refine ea1 ?_ (O0 O U f0);rintro c1 d1 e1;refine nx9 c1 d1 (i+1) (nx3 O U Y.Bc (T.keep _ _ _ j0 λb J o e=>(Y.pin (b,o) (Ze _ (Ze _ (Xs J e)))).1) (λb J=>?_) e1);obtain⟨o,e,d⟩:=T.obj _ _ j0 b J;exact(Y.pin (b,o) (Ze _ (Ze _ (Xs J e)))).2.1
  cases f with
  |next=>revert a0;refine ea8 ?_;rintro O U Y f0;exact again Y f0
  |cont=>revert a0;refine ea8 ?_;rintro O U Y f0;exact again Y f0
  |brk=>revert a0;refine ea8 ?_;rintro O U Y a0;exact nx0 O U Y.Bc a0
  |ret v=>revert a0;refine eb0 ?_;rintro f1 O U Y g1 a0;exact nx7 f1 O U Y.Bc g1 a0
end
def bf{K:PySem.W.Frag}{g:TG}{a0:TS}{D:ug}(Pv:Nat->St->Hp->Prop)(g0:Pv 0 J H)(d0:∀i J H,i<=xs.length->Pv i J H->ia K H a xs)
  (h0:∀i x J H,xs[i]?=wP x->Pv i J H->g x J H λO U=>a0 {D with nx:=Pv (i+1),ct:=Pv (i+1),bk:=D.nx} O U)(e0:∀J H,Pv xs.length J H->D.nx J H):
  ∃W:Nat->Nat->St->Hp->Prop,(∃m,W 0 m J H)/\∀i m J H,W i m J H->
   ((Vg K a).stop i H/\D.nx J H)\/((Vg K a).go i H/\∃N:St->Hp->Prop,(∀Y H',N Y H'->∃b0,b0<m/\W (i+1) b0 Y H')/\∀x H',(Vg K a).Nf i H x H'->g x J H' λO U=>a0 {D with nx:=N,ct:=N,bk:=D.nx} O U):=by
 refine⟨λi m J H=>m=xs.length-i/\i<=xs.length/\Pv i J H,by simp_all,?_⟩;rintro i m J H;refine ea3 ?_;rintro rfl hi p;have q:=d0 i J H hi p;by_cases c0:i<xs.length
 ·refine .inr ⟨nx0 xs (xs[i]) q (by simp[c0]),Pv (i+1),λY H' f0=>⟨xs.length-(i+1),by grind,rfl,c0,f0⟩,λx H' y=>?_⟩;obtain⟨e,y⟩:=y
  grind
 ·have e:i=xs.length:=by lia
  subst e;exact .inl ⟨⟨xs,q,xa _⟩,e0 J H p⟩
def wo{lo:Int}{g:TG}{b0:TS}{D:ug}(Pv:Nat->St->Hp->Prop)(g0:Pv 0 J H)
  (d0:∀i J H,i<n->Pv i J H->g (.int (lo+i)) J H λO U=>b0 {D with nx:=Pv (i+1),ct:=Pv (i+1),bk:=D.nx} O U)(e0:∀J H,Pv n J H->D.nx J H):
  ∃W:Nat->Nat->St->Hp->Prop,(∃m,W 0 m J H)/\∀i m J H,W i m J H->
   ((xl lo n).stop i H/\D.nx J H)\/((xl lo n).go i H/\∃N:St->Hp->Prop,(∀Y H',N Y H'->∃c0,c0<m/\W (i+1) c0 Y H')/\∀x H',(xl lo n).Nf i H x H'->g x J H' λO U=>b0 {D with nx:=N,ct:=N,bk:=D.nx} O U):=by
 refine⟨λi m J H=>m=n-i/\i<=n/\Pv i J H,by simp_all,?_⟩;rintro i m J H;refine ea3 ?_;rintro rfl hi p;by_cases a0:i<n
 ·refine .inr ⟨a0,Pv (i+1),λY H' f0=>⟨n-(i+1),by grind,rfl,a0,f0⟩,λx H' y=>?_⟩;obtain⟨e,y⟩:=y;subst e y;exact d0 i J _ a0 p
 ·have e:i=n:=by lia
  subst e;exact .inl ⟨xa _,e0 J H p⟩
abbrev R2:=V->V->Hp->VK->Prop
def Cc(X:Cx)(f:xP->xP->SR xP)(r:R2):Prop:=
 ∀(J:List (BP×dQ))(s:zP)(O:St)(H:Hp)(x y:V)(v u:xP)(Q:VK),Inv X J O H s->Ka x v->Ka y u->r x y H Q->
  wpAny (FP X.prog X.w) X.A (f v u) (EP X J O Q) X.xe s
def Cv(X:Cx)(f:xP->SR xP)(r:V->Hp->VK->Prop):Prop:=
 ∀(J:List (BP×dQ))(s:zP)(O:St)(H:Hp)(x:V)(v:xP)(Q:VK),Inv X J O H s->Ka x v->r x H Q->
  wpAny (FP X.prog X.w) X.A (f v) (EP X J O Q) X.xe s
def Cf(X:Cx)(f:xP)(r:List V->Hp->VK->Prop):Prop:=
 ∀(J:List (BP×dQ))(s:zP)(O:St)(H:Hp)(xs:List V)(us:List xP)(Q:VK),Inv X J O H s->Qa xs us->r xs H Q->
  wpAny (FP X.prog X.w) X.A (call f us) (EP X J O Q) X.xe s
def Dm(r:R2)(O U:TE):TE:=λJ H Q=>O J H λx Y=>U J Y λy a0=>r x y a0 Q
def lF(r:V->Hp->VK->Prop)(J:TE):TE:=λO H Q=>J O H λx U=>r x U Q
inductive rI(C:Int->Int->Prop)(g:Int->Int->V)(x y:V)(H:Hp)(Q:VK):Prop|mk(i j)(_:x=.int i)(_:y=.int j)(_:C i j)(_:Q (g i j) H)
inductive zl(g:Int->Int->V)(x y:V)(H:Hp)(Q:VK):Prop|mk(i j)(_:x=.int i)(_:y=.int j)(_:Q (g i j) H)
inductive rU(g:Int->V)(x:V)(H:Hp)(Q:VK):Prop|mk(i)(_:x=.int i)(_:Q (g i) H)
section
variable{X:Cx}{a b c:UP}{ta tb tc:TE}{pos:sQ}
def Dv(b0:PE X a ta)(c0:PE X b tb){J:St}{R:V->V->Hp->Prop}(I:Inv X Y J H s)
  (h:ta J H λx a0=>tb J a0 λy O=>R x y O){f:xP->xP->SR xP}
  (d0:∀v u U x y O,Inv X Y J O U->Ka x v->Ka y u->R x y O->wpAny (FP X.prog X.w) X.A (f v u) Q X.xe U):
  wpAny (FP X.prog X.w) X.A (XP a X.env) (λv e0=>wpAny (FP X.prog X.w) X.A (XP b X.env) (λu f0=>wpAny (FP X.prog X.w) X.A (f v u) Q X.xe f0) X.xe e0) X.xe s:=by
 refine Aa (b0 Y s J H _ I h) ?_;rintro v s1⟨x,a0,g0,h0,q1⟩;refine Aa (c0 Y s1 J a0 _ g0 q1) ?_;rintro u U⟨y,O,i0,j0,q2⟩;exact d0 v u U x y O i0 h0 j0 q2
def Ca(J:Cc X (jQ op) r)(O:PE X a ta)(U:PE X b tb):PE X (.BinOp a op b pos) (Dm r ta tb):=by
 constructor;intro Y s a0 H Q I h;exact wpAny_BinOp (Dv O U I h λv u b0 x y c0 d0 e0 f0 q=>J Y b0 a0 c0 x y v u Q d0 e0 f0 q)
def Em(U:Cv X (unaryOp op) r)(Y:PE X a ta):PE X (.UnaryOp op a pos) (lF r ta):=by
 constructor;intro J s O H Q I h;exact UnaryOp_ (Aa (Y J s O H _ I h) (by rintro v s1⟨x,a0,b0,c0,q1⟩;exact U J s1 O a0 x v Q b0 c0 q1))
def sq{g:Int->Int->Int}
  (rule:∀(i j:Int)(t u:Tok)(s:zP)(Q:xP->zP->Prop)(E:xP->zP->Prop),C i j->Q (.int (g i j) s.toks) {s with toks:=s.toks+1}->wpAny (FP X.prog X.w) X.A (f (.int i t) (.int j u)) Q E s):
  Cc X f (rI C λi j=>.int (g i j)):=by
 intro Y s a0 H x y v u Q I J O h;obtain⟨i,j,rfl,rfl,U,q⟩:=h;obtain⟨t,rfl⟩:=J;obtain⟨t',rfl⟩:=O;exact rule i j t t' s _ _ U ⟨.int (g i j),H,I.tok _,⟨_,rfl⟩,q⟩
def Ev{g:Int->Int->Int}
  (rule:∀(i j:Int)(t u:Tok)(s:zP)(Q:xP->zP->Prop)(E:xP->zP->Prop),Q (.int (g i j) s.toks) {s with toks:=s.toks+1}->wpAny (FP X.prog X.w) X.A (f (.int i t) (.int j u)) Q E s):
  Cc X f (zl λi j=>.int (g i j)):=by
 intro U s Y H x y v u Q I J O h;obtain⟨i,j,rfl,rfl,q⟩:=h;obtain⟨t,rfl⟩:=J;obtain⟨t',rfl⟩:=O;exact rule i j t t' s _ _ ⟨.int (g i j),H,I.tok _,⟨_,rfl⟩,q⟩
def Ny{g:Int->Int->Bool}
  (rule:∀(i j:Int)(t u:Tok)(s:zP)(Q:xP->zP->Prop)(E:xP->zP->Prop),Q (.bool (g i j)) s->wpAny (FP X.prog X.w) X.A (f (.int i t) (.int j u)) Q E s):
  Cc X f (zl λi j=>.bl (g i j)):=by
 intro U s Y H x y v u Q I J O h;obtain⟨i,j,rfl,rfl,q⟩:=h;obtain⟨t,rfl⟩:=J;obtain⟨t',rfl⟩:=O;exact rule i j t t' s _ _ ⟨.bl (g i j),H,I,rfl,q⟩
def mF(i j:Int):Prop:=0<j/\j<1073741824
def nF(i j:Int):Prop:=0<=j/\j<=1000000/\i.natAbs<2^64
def Fv(i j:Int):Prop:=(-(2^64)<i/\i<2^64)\/(-(2^64)<j/\j<2^64)
def Fv.ok(h:Fv i j):IntMulOk i j:=by
 rcases h with⟨J,O⟩|⟨J,O⟩
 ·exact .of_left (intBits_le_64 J O)
 ·exact .of_right (intBits_le_64 J O)
def oF(k:Nat):(0:Int)<=2^k:=by
 grind
def fg:Cc X (jQ .Add) (zl λi j=>.int (i+j)):=Ev λ_ _ _ _ _ _ _ q=>add_int q
def fk:Cc X (jQ .Sub) (zl λi j=>.int (i-j)):=Ev λ_ _ _ _ _ _ _ q=>sub_int q
def xo:Cc X (jQ .Mult) (rI Fv λi j=>.int (i*j)):=sq λ_ _ _ _ _ _ _ J q=>mul_int q J.ok
def Sh:Cc X (jQ .FloorDiv) (rI mF λi j=>.int (i/j)):=sq λi j _ _ _ _ _ J q=>by
 have O:=J.1;have U:=J.2;exact floordiv_int (by lia) (by rw[Int.fdiv_eq_ediv_of_nonneg i (by lia)];exact q) (.inl (PyProof.noPylong_small (by omega)))
def ec:Cc X (jQ .Mod) (rI (λ_ j=>0<j) λi j=>.int (i%j)):=sq λi j _ _ _ _ _ J q=>by
 exact mod_int' (by lia) (by rw[Int.fmod_eq_emod_of_nonneg i (by lia)];exact q)
def Gv:Cc X (jQ .Pow) (rI nF λi j=>.int (i^j.toNat)):=sq λ_ _ _ _ _ _ _ J q=>pow_int_small J.1 J.2.1 J.2.2 q
def Iv:Cc X (jQ .RShift) (rI (λ_ j=>0<=j) λi j=>.int (i/2^j.toNat)):=sq λi j _ _ _ _ _ J q=>
 rshift_int J (by rw[Int.fdiv_eq_ediv_of_nonneg i (oF _)];exact q)
def Jv:Cc X (jQ .BitAnd) (zl λi j=>.int (Builtin.bitAnd i j)):=Ev λ_ _ _ _ _ _ _ q=>and_int q
def pF{g:Int->Int}
  (rule:∀(i:Int)(t:Tok)(s:zP)(Q:xP->zP->Prop)(E:xP->zP->Prop),Q (.int (g i) s.toks) {s with toks:=s.toks+1}->wpAny (FP X.prog X.w) X.A (f (.int i t)) Q E s):
  Cv X f (rU λi=>.int (g i)):=by
 intro O s U H x v Q I J h;obtain⟨i,rfl,q⟩:=h;obtain⟨t,rfl⟩:=J;exact rule i t s _ _ ⟨.int (g i),H,I.tok _,⟨_,rfl⟩,q⟩
def Fm:Cv X (unaryOp .USub) (rU λi=>.int (-i)):=pF λ_ _ _ _ _ q=>neg_int q
end
def Oy:V->V->Bool
 |.Pa,.Pa=>CP|.Pa,.int _=>CP|.int _,.Pa=>CP|.Pa,.bl _=>CP|.bl _,.Pa=>CP|.Pa,.str _=>CP|.str _,.Pa=>CP
 |.int _,.int _=>CP|.bl _,.bl _=>CP|.str _,.str _=>CP|.sh _,.sh _=>CP
 |.int _,.str _=>CP|.str _,.int _=>CP|.bl _,.str _=>CP|.str _,.bl _=>CP
 |_,_=>GP
def Py:R2:=λx y H Q=>Oy x y=CP/\Q (.bl (decide (x=y))) H
def qF:R2:=λx y H Q=>Oy x y=CP/\Q (.bl (!decide (x=y))) H
def Qy:decide (V.int i=V.int j)=(i==j):=by
 grind
def Ry:decide (V.bl i=V.bl j)=(i==j):=by
 grind
def Sy:decide (V.str i=V.str j)=(i==j):=by
 grind
def Uy:decide (V.sh i=V.sh j)=(i.toList==j.toList):=by
 rw[Fn];cases i;cases j;simp
section
variable{X:Cx}{a b c:UP}{ta tb tc:TE}{pos:sQ}
def Sc{J:St}(I:Inv X O J H s)(q:Q (.bl k) H)(e:k=U):EP X O J Q (.bool U) s:=by
 subst e;exact⟨.bl k,H,I,rfl,q⟩
def re:Cc X (YP .Eq) Py:=by
 intro Y s a0 H x y v u Q I O J h;obtain⟨U,q⟩:=h;cases x with
 |Pa=>
  cases O;cases y with
  |Pa=>cases J;exact PySem.EqNone.eq_none_none (Sc I q (by simp))
  |bl j=>cases J;exact PySem.EqNone.eq_none_bool (Sc I q (by simp))
  |int j=>obtain⟨t',rfl⟩:=J;exact PySem.EqNone.eq_none_int (Sc I q (by simp))
  |str j=>obtain⟨t',rfl⟩:=J;exact PySem.EqNone.eq_none_str (Sc I q (by simp))
  |_=>exact absurd (U) pc
 |bl i=>
  cases O;cases y with
  |Pa=>cases J;exact PySem.EqNone.eq_bool_none (Sc I q (by simp))
  |bl j=>cases J;exact eq_bool (Sc I q Ry)
  |str j=>obtain⟨t',rfl⟩:=J;exact PySem.EqMixed.eq_bool_str (Sc I q (by simp))
  |_=>exact absurd (show GP=CP from U) pc
 |int i=>
  obtain⟨t,rfl⟩:=O;cases y with
  |Pa=>cases J;exact PySem.EqNone.eq_int_none (Sc I q (by simp))
  |int j=>obtain⟨t',rfl⟩:=J;exact eq_int (Sc I q Qy)
  |str j=>obtain⟨t',rfl⟩:=J;exact PySem.EqMixed.eq_int_str (Sc I q (by simp))
  |_=>exact absurd (show GP=CP from U) pc
 |str i=>
  obtain⟨t,rfl⟩:=O;cases y with
  |Pa=>cases J;exact PySem.EqNone.eq_str_none (Sc I q (by simp))
  |bl j=>cases J;exact PySem.EqMixed.eq_str_bool (Sc I q (by simp))
  |int j=>obtain⟨t',rfl⟩:=J;exact PySem.EqMixed.eq_str_int (Sc I q (by simp))
  |str j=>obtain⟨t',rfl⟩:=J;exact eq_str (Sc I q Sy)
  |_=>exact absurd ‹_› pc
 |sh i=>
  obtain⟨t,rfl⟩:=O;cases y with
  |sh j=>obtain⟨t',rfl⟩:=J;exact W.eq_bytes (Sc I q Uy)
  |_=>exact absurd ‹_› pc
 |_=>cases y<;>exact absurd ‹_› pc
def yo:Cc X (YP .NotEq) qF:=by
 intro Y s a0 H x y v u Q I O J h;obtain⟨U,q⟩:=h;cases x with
 |Pa=>
  cases O;cases y with
  |Pa=>cases J;exact PySem.EqNone.ne_none_none (Sc I q (by simp))
  |bl j=>cases J;exact PySem.EqNone.ne_none_bool (Sc I q (by simp))
  |int j=>obtain⟨t',rfl⟩:=J;exact PySem.EqNone.ne_none_int (Sc I q (by simp))
  |str j=>obtain⟨t',rfl⟩:=J;exact PySem.EqNone.ne_none_str (Sc I q (by simp))
  |_=>exact absurd (U) pc
 |bl i=>
  cases O;cases y with
  |Pa=>cases J;exact PySem.EqNone.ne_bool_none (Sc I q (by simp))
  |bl j=>cases J;exact ne_bool (Sc I q (Ub not Ry))
  |str j=>obtain⟨t',rfl⟩:=J;exact PySem.EqMixed.ne_bool_str (Sc I q (by simp))
  |_=>exact absurd (show GP=CP from U) pc
 |int i=>
  obtain⟨t,rfl⟩:=O;cases y with
  |Pa=>cases J;exact PySem.EqNone.ne_int_none (Sc I q (by simp))
  |int j=>obtain⟨t',rfl⟩:=J;exact ne_int (Sc I q (Ub not Qy))
  |str j=>obtain⟨t',rfl⟩:=J;exact PySem.EqMixed.ne_int_str (Sc I q (by simp))
  |_=>exact absurd (show GP=CP from U) pc
 |str i=>
  obtain⟨t,rfl⟩:=O;cases y with
  |Pa=>cases J;exact PySem.EqNone.ne_str_none (Sc I q (by simp))
  |bl j=>cases J;exact PySem.EqMixed.ne_str_bool (Sc I q (by simp))
  |int j=>obtain⟨t',rfl⟩:=J;exact PySem.EqMixed.ne_str_int (Sc I q (by simp))
  |str j=>obtain⟨t',rfl⟩:=J;exact ne_str (Sc I q (Ub not Sy))
  |_=>exact absurd ‹_› pc
 |sh i=>
  obtain⟨t,rfl⟩:=O;cases y with
  |sh j=>obtain⟨t',rfl⟩:=J;exact W.ne_bytes (Sc I q (Ub not Uy))
  |_=>exact absurd ‹_› pc
 |_=>cases y<;>exact absurd ‹_› pc
def Kv:Cc X (YP .Lt) (zl λi j=>.bl (decide (i<j))):=Ny λ_ _ _ _ _ _ _ q=>lt_int q
def Mv:Cc X (YP .Gt) (zl λi j=>.bl (decide (j<i))):=Ny λ_ _ _ _ _ _ _ q=>gt_int q
def Nv:Cc X (YP .Is) (λx y H Q=>y=.Pa/\Q (.bl (decide (x=.Pa))) H):=by
 intro U s Y H x y v u Q I J O h;obtain⟨rfl,q⟩:=h;cases O;refine is_none_gen (Sc I q ?_);cases x<;>first
  |(cases J;rfl)
  |(obtain⟨t,rfl⟩:=J;rfl)
def Gm:Cc X (YP .IsNot) (λx y H Q=>y=.Pa/\Q (.bl (!decide (x=.Pa))) H):=by
 intro U s Y H x y v u Q I J O h;obtain⟨rfl,q⟩:=h;cases O;refine isnot_none_gen (Sc I q ?_);cases x<;>first
  |(cases J;rfl)
  |(obtain⟨t,rfl⟩:=J;rfl)
def Cc.or(h:Cc X f r)(h':Cc X f a0):Cc X f (λx y H Q=>r x y H Q\/a0 x y H Q):=by
 intro J s O H x y v u Q I U Y q;rcases q with q|q
 ·exact h J s O H x y v u Q I U Y q
 ·exact h' J s O H x y v u Q I U Y q
def rb(b:UP)(h:op≠.In:=by decide)(J:op≠.NotIn:=by decide):EQ op b=GP:=by
 have O:(op==CmpOp.In)=GP:=by cases op<;>first|rfl|exact absurd rfl h
 have U:(op==CmpOp.NotIn)=GP:=by cases op<;>first|rfl|exact absurd rfl J
 cases b<;>simp[EQ,O,U]
def tq(J:Cc X (YP op) r)(O:PE X a ta)(U:PE X b tb)(Y:EQ op b=GP):PE X (.Compare a [op] [b] pos) (Dm r ta tb):=by
 constructor;intro a0 s b0 H Q I h;exact wpAny_Compare1 (Dv O U I h λv u c0 x y d0 e0 f0 g0 q=>J a0 c0 b0 d0 x y v u Q e0 f0 g0 q) Y
def Vy(t:TE):TT:=λJ H Q=>t J H λx H'=>∃k,x=.bl k/\Q k H'
def wb(U:Cc X (YP op) r)(Y:PE X a ta)(a0:PE X b tb)(b0:EQ op b=GP):PT X (.Compare a [op] [b] pos) (Vy (Dm r ta tb)):=by
 constructor;intro J s O H Q I h;refine wpAny_isTrue_Compare1 (Aa (Y J s O H _ I h) λv s1⟨x,c0,d0,e0,q1⟩=>Aa (a0 J s1 O c0 _ d0 q1) λu f0⟨y,g0,h0,i0,q2⟩=>
  Aa (U J f0 O g0 x y v u _ h0 e0 i0 q2) λc n0⟨z,j0,l0,m0,k,e,q3⟩=>?_) b0
 subst e;cases m0;exact Yl ⟨j0,l0,q3⟩
def uq:(DP:Nat)<2^63:=by rw[ti];decide
def vq:Cc X (jQ .Add) (λx y H Q=>∃i j,x=.str i/\y=.str j/\i.length+j.length<=DP/\Q (.str (i++j)) H):=by
 intro U s Y H x y v u Q I J O h;revert h;refine eaA ?_;rintro i j rfl rfl hz q;obtain⟨t,rfl⟩:=J;obtain⟨t',rfl⟩:=O;exact add_str (λt' a0=>⟨.str (i++j),H,I.tok _,⟨_,rfl⟩,q⟩) hz
def gg(r:Qa [x] us):∃u,us=[u]/\Ka x u:=by
 cases r with
 |cons O J=>cases J;simp_all
def zo(r:Qa [x,y] us):∃u J,us=[u,J]/\Ka x u/\Ka y J:=by
 cases r with
 |cons Y O=>
  cases O with
  |cons a0 U=>cases U;exact(by grind)
def Wy(K:W.Frag)(x:V)(H:Hp)(n:Nat):Prop:=
 match x with
 |.str y=>y.length<=DP/\n=y.length
 |.sh y=>y.size<=DP/\n=y.size
 |.ref p=>(∃xs,ia K H p xs/\n=xs.length)\/∃xs,Ba K H p xs/\n=xs.length
 |_=>False
def Xd:Cf X (.builtin "len") (λxs H Q=>∃x n,xs=[x]/\Wy X.K x H n/\Q (.int n) H):=by
 intro d0 s e0 H xs us Q I r h;revert h;refine ea0 ?_;rintro x n rfl e q;obtain⟨u,rfl,O⟩:=gg r;have f0:=ti;cases x with
 |str y=>
  obtain⟨t,rfl⟩:=O;obtain⟨b0,J⟩:y.length<=DP/\n=y.length:=e;subst J;exact len_str (by lia) ⟨.int _,H,I.tok _,⟨_,rfl⟩,q⟩
 |sh y=>
  obtain⟨t,rfl⟩:=O;obtain⟨b0,J⟩:y.size<=DP/\n=y.size:=e;subst J;exact W.len_bytes (by lia) ⟨.int _,H,I.tok _,⟨_,rfl⟩,q⟩
 |ref p=>
  cases O;have J:=e;rcases J with⟨xs,U,J⟩|⟨xs,U,J⟩
  ·subst J;refine ea7 ?_ (I.list U);rintro c0 Y pl hz;have a0:=Y.length;exact Calls.call_len_list pl.isList (by simp only[ic];lia) ⟨.int xs.length,H,I.tok _,⟨_,by simp only[ic];rw[a0]⟩,q⟩
  ·subst J;refine ea7 ?_ (I.tuple U);rintro c0 Y pl hz;have a0:=Y.length;exact len_tuple pl (by simp only[ic];lia) ⟨.int xs.length,H,I.tok _,⟨_,by simp only[ic];rw[a0]⟩,q⟩
 |_=>exact(e).elim
end
structure Ys(h:NP)(x dx C:BP)(mA:Str->Option xP):Prop where
 obj:h.get? x=wP (W.instObj C dx)
 ns:h.Ns1 dx mA
 ne:dx≠x
def rF{h:NP}(n:h.Ns1 O U):∃J,h.get? O=wP J/\∀name,W.lookIn name J=wP (U name):=by
 revert n;refine eaF ?_;rintro o es ep Y a0 b0 _ c0;refine⟨o,Y,λname=>?_⟩;have e:=c0 name;unfold nsFind findBy at e;rw[<-Array.find?_toList]at e;unfold W.lookIn;rw[a0];dsimp only;split
 ·simp_all
 ·rename_i q;rw[q]at e;have a:es.toList.any (·.refKey)=GP:=by
   rw[List.any_eq_false];intro y e0;obtain⟨z,t,d0⟩:=b0 y (by simp_all);simp[DictEntry.refKey,d0]
  grind
def Ys.look(I:Ys h x O C U):∃J,W.InstAt h x (W.instObj C O) C (wP J)/\∀name,W.lookIn name J=wP (U name):=by
 obtain⟨J,Y,a0⟩:=rF I.ns;exact⟨J,⟨I.obj,rfl,rfl,Y⟩,a0⟩
section
variable{prog:HP}{w:KP}{A:LP}{E:xP->zP->Prop}{s:zP}{K:W.Frag}{x dx C f:BP}{mA:Str->Option xP}{name:Str}{v:xP}
def sF(X:K.In s.heap)(I:Ys s.heap x dx C mA)(J:W.plainGet K C name=CP)
  (O:W.findIn K (.ref C) name=wP (wP (.ref f)))(U:W.isFn K (.ref f)=CP)(b0:mA name=yP)(h:Q (.ref f,[.ref x]) s):
  wpAny (FP prog w) A (WR (.ref x) name pl) Q E s:=by
 obtain⟨Y,a0,c0⟩:=I.look;exact W.method_fn X a0 (W.plainGet_of J).1 (W.plainGet_of J).2 O (beq_iff_eq.mp U) (by show(W.lookIn name Y).map (·.isSome)=wP GP;simp_all) h
def tF(X:K.In s.heap)(J:W.makesIn K C=CP)
  (hi:W.findIn K (.ref C) "__init__"=wP (wP (.builtin "object.__init__")))
  (O:∀self,W.Looks (FP prog w) s.heap (bindSpecial (.builtin "object.__init__") self) (.builtin "object.__init__",[self]))
  (h:codeAny (FP prog w) (A.under (.builtin "type.__call__" ⟨[.ref C],[]⟩)) (.call (.builtin "object.__init__") ⟨[.ref (s.heap.objs.size+1)],[]⟩) (W.InitBack (s.heap.objs.size+1) R)
   {s with heap:=(s.heap.push W.emptyDict).push (W.instObj C s.heap.objs.size)}):
  codeAny (FP prog w) A (.call (.ref C) ⟨[],[]⟩) R s:=by
 exact W.make_core (W.makes_of X J) (W.looks_findIn X hi) O (by simp_all) h
end
def Sd.some_of(r:Sd (wP v) o):∃u,o=wP u/\Ka v u:=by
 cases o with
 |none=>exact(r).elim
 |some u=>exact⟨u,rfl,r⟩
def Sd.none_of(r:Sd yP o):o=yP:=by
 cases o with
 |none=>rfl
 |some u=>exact(r).elim
section
variable{P:HP}{w:KP}{H H':Hp}{h h':NP}{a C dx:BP}{fs AE:List (Str×V)}
def Xy(O:wc P w H h)(e:H a=wP (.ins C dx fs)):∃J,Ys h a dx C J/\(∀f,Sd (fs.lookup f) (J f))/\PySem.Within J (fs.map (·.1))/\fs.length<=1000/\H dx=wP (.own a):=by
 refine ebC ?_ ((O a _ e));rintro d z U Y;refine ea7 ?_;rintro J n r q;exact⟨J,⟨Y,n,U⟩,r,q,z,d⟩
end
structure Cls(K:W.Frag)(C:BP):Prop where
 pg:W.plainGet K C Str.empty=CP
 hd:W.hasDictIn K C=CP
 po:W.plainOver K C=CP
 sa:W.findIn K (.ref C) "__setattr__"=wP (wP (.builtin "object.__setattr__"))
def Cls.get{K:W.Frag}(c:Cls K C)(f:Str):W.plainGet K C f=CP:=c.pg
structure wg(K:W.Frag)(C:BP)(m:Str)(f:BP):Prop where
 at_:W.findIn K (.ref C) m=wP (wP (.ref f))
 fn:W.isFn K (.ref f)=CP
 kp:W.keepIn K (.ref f)=CP
section
variable{X:Cx}{pins:List (BP×dQ)}{σ:St}{H:Hp}{s:zP}{a C dx:BP}{fs:List (Str×V)}{f:Str}{v:V}{A:LP}{E:xP->zP->Prop}
def Yy(I:Inv X pins σ H s)(e:H a=wP (.ins C dx fs))(c:Cls X.K C)(k:wg X.K C m g)(l:fs.lookup m=yP)
  (h:Q (.ref g,[.ref a]) s):wpAny (FP X.prog X.w) A (WR (.ref a) m pl) Q E s:=by
 refine ec5 ?_ (Xy I.za e);rintro J O r _ _ _;have U:J m=yP:=Sd.none_of (by grind);exact sF I.Gd O (c.get m) k.at_ k.fn U h
def Inv.made(I:Inv X pins σ H s):Inv X pins σ (upd (upd H s.heap.objs.size (.own (s.heap.objs.size+1))) (s.heap.objs.size+1) (.ins C s.heap.objs.size []))
  {s with heap:=(s.heap.push W.emptyDict).push (W.instObj C s.heap.objs.size)}:=by
 have J:(s.heap.push W.emptyDict).get? s.heap.objs.size=wP W.emptyDict:=Hb s.heap rfl;have U:((s.heap.push W.emptyDict).push (W.instObj C s.heap.objs.size)).get? (s.heap.objs.size+1)=wP (W.instObj C s.heap.objs.size):=by
  have:=Hb (s.heap.push W.emptyDict) (o:=W.instObj C s.heap.objs.size) rfl;rwa[Xl]at this
 have Y:(s.heap.push W.emptyDict).Ns s.heap.objs.size (λ_=>yP):=nx1 W.emptyDict (#[]) _ J rfl (λe a0=>absurd a0 (by simp)) λ_=>rfl;have b0:=I.laid (o:=.own (s.heap.objs.size+1)) (t':=s.toks) (λb u q=>Ta _ q) (xa _) ⟨_,J⟩;refine b0.laid (λb u q=>Ta _ q) (Vj (Xl _ _)) ?_;have O:s.heap.objs.size≠s.heap.objs.size+1:=by simp_all
 refine⟨by rw[oa O,la],Tb _,O,U,λ_=>yP,(Heap.Ns1.of_empty Y).at λo q=>Ta _ q,λ_=>True.intro,λy c0=>absurd rfl c0⟩
end
def Ov(X:Cx)(op:Operator)(U:V->V->Hp->VK->Prop):Prop:=
 ∀(J:List (BP×dQ))(s:zP)(O:St)(H:Hp)(x y:V)(u v:xP)(Q:VK),Inv X J O H s->Ka x u->Ka y v->U x y H Q->wpAny (FP X.prog X.w) X.A (inplaceOp op u v) (EP X J O Q) X.xe s
section
variable{X:Cx}{o e value:UP}{f:Str}{pos pos' wq:sQ}{ta tv:TE}
inductive uF(x y:V)(H:Hp)(Q:VK):Prop|mk(i j)(_:x=.int i)(_:y=.int j)(_:Q (.int (i+j)) H)
inductive vF(x y:V)(H:Hp)(Q:VK):Prop|mk(i j)(_:x=.int i)(_:y=.int j)(_:Q (.int (i-j)) H)
def wF:Ov X .Add uF:=by
 rintro U s Y H x y u v Q I J O⟨i,j,rfl,rfl,q⟩;obtain⟨t,rfl⟩:=(J);obtain⟨t',rfl⟩:=(O);exact PyProof.Rows.iadd_int ⟨.int (i+j),H,I.tok _,⟨_,rfl⟩,q⟩
def xF:Ov X .Sub vF:=by
 rintro U s Y H x y u v Q I J O⟨i,j,rfl,rfl,q⟩;obtain⟨t,rfl⟩:=(J);obtain⟨t',rfl⟩:=(O);exact PyProof.Rows.isub_int ⟨.int (i-j),H,I.tok _,⟨_,rfl⟩,q⟩
end
section
variable{X:Cx}{pins:List (BP×dQ)}{σ:St}{H:Hp}{s:zP}{A:LP}{E:xP->zP->Prop}{Q:xP->zP->Prop}{c:xP}{b:Bool}
inductive Se(K:W.Frag)(H:Hp):V->xP->Prop where
 |Pa:Se K H .Pa (.type "NoneType")
 |bl(x:Bool):Se K H (.bl x) (.type "bool")
 |int(i:Int):Se K H (.int i) (.type "int")
 |str(x:Str):Se K H (.str x) (.type "str")
 |jo(x:UInt64):Se K H (.jo x) (.type "float")
 |lst{a:BP}{xs:List V}(e:H a=wP (.lst xs)):Se K H (.ref a) (.type "list")
 |jd{a:BP}{o:dQ}{xs:List V}(e:H a=wP (.jd o (.lst xs))):Se K H (.ref a) (.type "list")
 |tup{a:BP}{xs:List V}(e:H a=wP (.tup xs)):Se K H (.ref a) (.type "tuple")
 |dK{a:BP}{Ra:List (Key×V)}(e:H a=wP (.dK Ra)):Se K H (.ref a) (.type "dict")
 |dT{a:BP}{Ra:List (List Key×V)}(e:H a=wP (.dT Ra)):Se K H (.ref a) (.type "dict")
 |ins{a C dx:BP}{fs:List (Str×V)}(e:H a=wP (.ins C dx fs))(cl:Cls K C)(ha:W.findIn K (.ref C) "__class__"=wP (wP (.builtin "object.__class__")))
   (hn:W.specialIn K (.builtin "object.__class__") "__get__"=wP (wP (.builtin "getset_descriptor.__get__")))(pP:W.takesIn K (.builtin "object.__class__")=wP CP)
   (hm:W.mroIn K C (.type "object")=wP CP):Se K H (.ref a) (.ref C)
def yF(I:Inv X pins σ H s)(J:Ka x u)(c0:Se X.K H x t)(e:W.kitOne X.K t c=wP b)(h:∀d0,Q (.bool b) {s with toks:=d0}):
  wpAny (FP X.prog X.w) A (call (.builtin "isinstance") [u,c]) Q E s:=by
 cases c0 with
 |Pa=>cases(J);exact Gi W.kitx_none I.Gd True.intro e (λz=>nomatch z) h
 |bl y=>cases(J);exact Gi W.kitx_bool I.Gd True.intro e (λz=>nomatch z) h
 |int i=>obtain⟨t,q⟩:=(J);cases q;exact Gi W.kitx_int I.Gd True.intro e (λz=>nomatch z) h
 |str y=>obtain⟨t,q⟩:=(J);cases q;exact Gi W.kitx_str I.Gd True.intro e (λz=>nomatch z) h
 |jo y=>obtain⟨t,q⟩:=(J);cases q;exact Gi W.kitx_float I.Gd True.intro e (λz=>nomatch z) h
 |@lst a xs O=>
  cases(show u=Value.ref a from J);refine ec6 ?_ ((show Rc X.prog X.w H s.heap a (.lst xs)from I.za a _ O));rintro _ _ n _ U;exact Gi W.kitx_list I.Gd ⟨_,U,rfl⟩ e (λz=>nomatch z) h
 |@jd a e0 xs O=>
  cases(J);obtain⟨_,_,_,n,_,U⟩:=(show Rc X.prog X.w H s.heap a (.jd e0 (.lst xs))from I.za a _ O);exact Gi W.kitx_list I.Gd ⟨_,U,rfl⟩ e (λz=>nomatch z) h
 |@tup a xs O=>
  cases(show u=Value.ref a from J);refine eb5 ?_ ((show Rc X.prog X.w H s.heap a (.tup xs)from I.za a _ O));rintro _ _ _ p;revert p;refine ea7 ?_;rintro o U Y _;exact Gi W.kitx_tuple I.Gd ⟨o,U,Y⟩ e (λz=>nomatch z) h
 |@dK a a0 O=>
  cases(show u=Value.ref a from J);refine ebF ?_ ((show Rc X.prog X.w H s.heap a (.dK a0)from I.za a _ O));rintro _ _ vs _ p;revert p;refine eb0 ?_;rintro o es ep U Y _;exact Gi W.kitx_dict I.Gd ⟨o,U,Y.1⟩ e (λz=>nomatch z) h
 |@dT a a0 O=>
  cases(show u=Value.ref a from J);refine ebF ?_ ((show Rc X.prog X.w H s.heap a (.dT a0)from I.za a _ O));rintro _ _ xs _;refine eb0 ?_;rintro o es ep U Y _;exact Gi W.kitx_dict I.Gd ⟨o,U,Y.1⟩ e (λz=>nomatch z) h
 |@ins a C m0 fs O b0 f0 g0 h0 i0=>
  cases(J);obtain⟨n0,j0,_⟩:=Xy I.za O;obtain⟨o0,l0,_⟩:=j0.look;exact Gi (W.kitx_own (b0.get _) b0.hd f0 g0 h0 i0) I.Gd l0 e (λz=>nomatch z) h
end
structure Wa(k:Nat)(A:LP):Prop where
 hd:A.handled=yP
 dp:A.depth+3*k+5<ZQ
 un:A.units+16*k+200<MP
def Wa.mono(r:Wa k A)(h:j<=k):Wa j A:=⟨r.hd,by have:=r.dp;lia,by have:=r.un;lia⟩
def Wa.deeper(r:Wa (k+1) A)(env:xR):Wa k (A.deeper env):=
 ⟨r.hd,by have:=r.dp;show A.depth+1+3*k+5<_;lia,by have:=r.un;show A.units+3+16*k+200<_;lia⟩
def Wa.depth(r:Wa k A):A.depth<ZQ:=by have:=r.dp;lia
def Wa.units(r:Wa k A):A.units+64<MP:=by have:=r.un;lia
def xq:TA:=λ_ H Q=>Q [] H
def Zs(O:TE)(tr:TA):TA:=λJ H Q=>O J H λx U=>tr J U λxs Y=>Q (x::xs) Y
section
variable{X:Cx}{e:UP}{es:List UP}{te:TE}{t:TA}{pos:sQ}
def Ad:PA X [] xq:=⟨λ_ _ _ _ H Q I h=>Wl ⟨[],H,I,.nil,h⟩⟩
def na(U:PE X e te)(Y:PA X es t)(a0:JP (e::es) X.env=(GP,XP e X.env)::JP es X.env:=by rfl):PA X (e::es) (Zs te t):=by
 constructor;intro pos J s O H Q I h;rw[a0];show wpAny _ _ (YR ((GP,XP e X.env)::cQ pos (JP es X.env))) _ _ s;refine xj (Aa (U J s O H _ I h) ?_);rintro u s1⟨x,b0,c0,d0,q1⟩;exact Aa (Y pos J s1 O b0 _ c0 q1) (by rintro us h0⟨xs,e0,f0,g0,q2⟩;exact⟨x::xs,e0,f0,.cons d0 g0,q2⟩)
def zF(t:TA):TE:=λO H Q=>t O H λxs J=>xs.length<=DP/\∀p,J p=yP->Q (.ref p) (upd J p (.tup xs))
def AF(t:TA):TE:=λO H Q=>t O H λxs J=>xs.length<=DP/\∀p,J p=yP->Q (.ref p) (upd J p (.lst xs))
def Tc{O}(h:PA X es t):PE X (.Tuple es O pos) (zF t):=by
 constructor;intro U s Y H Q I a0;refine wpAny_Tuple_spliced (Aa (h pos U s Y H _ I a0) ?_);rintro us s1⟨xs,b0,J,r,z,q⟩;refine⟨by rw[<-r.length];exact z,?_⟩;have c0:=J.za.fresh (xa _);refine⟨.ref s1.heap.objs.size,upd b0 s1.heap.objs.size (.tup xs),J.laid (λb u e=>Ta _ e) (xa _) ?_,rfl,q _ c0⟩;exact⟨z,us,r,nx18 _ (Hb _ rfl) rfl _ rfl⟩
def kc(h:PA X es t):PE X (.List es pos) (AF t):=by
 constructor;intro O s U H Q I Y;refine wpAny_List_spliced (Aa (h pos O s U H _ I Y) ?_);rintro us s1⟨xs,a0,J,r,z,q⟩;refine⟨by rw[<-r.length];exact z,?_⟩;have b0:=J.za.fresh (xa _);refine⟨.ref s1.heap.objs.size,upd a0 s1.heap.objs.size (.lst xs),J.laid (λb u e=>Ta _ e) (xa _) ?_,rfl,q _ b0⟩;exact⟨z,nx0 us 0 r (Hb _ rfl)⟩
end
abbrev Sp:=List V->Hp->VK->XK->Prop
abbrev Ni:=List xR->Hp->zP->XK->xP->zP->Prop
structure yq(P:HP)(w:KP)(K:W.Frag)(mg:Str->Option xP)(base:NP)(A:LP)(outer:List xR)(s:zP)(H:Hp):Prop where
 frames:A.frames=wP outer
 mod:Mod K mg base
 bs:∀b o,base.get? b=wP o->s.heap.get? b=wP o/\H b=yP
 Cj:base.objs.size<=s.heap.objs.size
 Ed:s.heap.FunFrames base outer
 vl:∀b∈xc outer,H b=yP
 za:wc P w H s.heap
 bare:vQ s.gens
inductive CE(outer:List xR)(P:HP)(w:KP)(H:Hp)(s:zP)(Q:VK)(u:xP)(s':zP):Prop|mk(v H')(_:s'.os=s.os)(_:vQ s'.gens)(_:Un (xc outer) [] H H' s.heap s'.heap)(_:wc P w H' s'.heap)(_:Ka v u)(_:Q v H')
def CR(CX:Ni)(outer:List xR)(P:HP)(w:KP)(H:Hp)(s:zP)(Q:VK)(E:XK)(r:TR)(s':zP):Prop:=
 match r with
 |.ok (.ret u)=>CE outer P w H s Q u s'
 |.ok _=>False
 |.error e=>CX outer H s E e s'
structure uc(P:HP)(w:KP)(K:W.Frag)(mg:Str->Option xP)(base:NP)(CX:Ni)(k:Nat)(f:BP)(fd:aQ)(ps:List Str)(sp:Sp):Prop where
 len:∀vs H Q E,sp vs H Q E->vs.length=ps.length
 run:∀(A:LP)(outer:List xR)(s:zP)(H:Hp)(args:Args)(us:List xP)(vs:List V)(Q:VK)(E:XK),Wa k A->yq P w K mg base A outer s H->iR s fd args (ps.zip us)->Qa vs us->sp vs H Q E->
  codeAny (FP P w) A (.call (.ref f) args) (CR CX outer P w H s Q E) s
def uc.mono{K:W.Frag}(F:uc P w K mg base CX j f fd J sp)(h:j<=k):
  uc P w K mg base CX k f fd J sp:=⟨F.len,λA outer s H args us vs Q E O=>F.run A outer s H args us vs Q E (O.mono h)⟩
section
variable{X:Cx}{pins:List (BP×dQ)}{σ:St}{H:Hp}{s s':zP}
def Inv.mf(I:Inv X pins σ H s):yq X.prog X.w X.K X.mg X.base X.A X.stack s H:=
 ⟨I.ok.frames,I.ok.mod,I.bs,Nb I.ok.Cj I.sz,I.stack,I.lf,I.za,I.bare⟩
def Inv.after(I:Inv X pins σ H s)(h:CE X.stack X.prog X.w H s Q u s'):EP X pins σ Q u s':=by
 obtain⟨v,H',os,J,un,O,r,q⟩:=h;obtain⟨Y,g,d,t,U⟩:=s';obtain rfl:U=s.os:=os;exact⟨v,H',I.call un O J (by(intros;simp_all)),r,q⟩
end
def Zy(sp:Sp)(J:List V)(E:XK)(t:TA):TE:=λO H Q=>t O H λvs U=>sp (vs++J) U Q E
def Td(K:W.Frag)(fd:aQ)(J:List Str)(O:List xP):Prop:=
 ∀(s:zP)(us:List xP),K.In s.heap->(us++O).length=J.length->iR s fd ⟨us,[]⟩ (J.zip (us++O))
def Td.all{K:W.Frag}(h:∀us:List xP,us.length=J.length->wR fd ⟨us,[]⟩=pure (J.zip us)):Td K fd J []:=λs us _ O=>by
 rw[z1m]at O⊢;exact .of_eq (h us O)
def zq(CX:Ni)(X:Cx)(E:XK):Prop:=∀(J:List (BP×dQ))(O:St)(H:Hp)(s:zP)(e:xP)(s':zP),Inv X J O H s->CX X.stack H s E e s'->X.xe e s'
section
variable{X:Cx}{CX:Ni}{k:Nat}{f C:BP}{fd:aQ}{ps:List Str}{sp:Sp}{Aq:List V}{ds:List xP}{E:XK}{x m:Str}{p pos apos:sQ}{e o:UP}{es:List UP}{ta:TE}{t:TA}
def Qv{O:St}(F:uc X.prog X.w X.K X.mg X.base CX k f fd ps sp)(a0:Wa k X.A)(b0:Td X.K fd ps ds)(c0:Qa Aq ds)(d0:zq CX X E)
  (I:Inv X U O H s)(r:Qa vs us)(h:sp (vs++Aq) H Q E):wpAny (FP X.prog X.w) X.A (call (.ref f) us) (EP X U O Q) X.xe s:=by
 have Y:=r.append c0;have e0:(us++ds).length=ps.length:=by rw[<-Y.length];exact F.len _ _ _ _ h
 refine HQ (kl (F.run X.A X.stack s H ⟨us,[]⟩ (us++ds) (vs++Aq) Q E a0 I.mf (b0 s us I.Gd e0) Y h) λr s' J=>?_);cases r with
 |error e=>exact d0 U O H s e s' I J
 |ok f0=>
  cases f0 with
  |ret u=>exact I.after J
  |next=>exact False.elim J
  |brk=>exact False.elim J
  |cont=>exact False.elim J
def yh(F:uc X.prog X.w X.K X.mg X.base CX k f fd ps sp)(O:Wa k X.A)(U:Gl X x)(Y:X.mg x=wP (.ref f))(a0:W.keepIn X.K (.ref f)=CP)(b0:Td X.K fd ps ds)(c0:Qa Aq ds)(d0:zq CX X E)
  (e0:PA X (e::es) t)(f0:(x==("__debug__":Str))=GP:=by decide)(g0:JP (e::es) X.env=(GP,XP e X.env)::JP es X.env:=by rfl)(h0:(cQ pos (JP es X.env)).any (·.1)=GP:=by rfl):
  PE X (.Call (.Name x p) (e::es) [] pos) (Zy sp Aq E t):=by
 constructor;intro i0 s j0 H Q I h;refine Di (vm I U Y ?_ f0);refine W.callWith_K I.ok.mod.ko a0 (Aa (e0 pos i0 s j0 H _ I h) ?_) g0 h0;rintro us s1⟨vs,l0,J,r,q⟩;refine⟨J.Gd,?_⟩;exact Qv F O b0 c0 d0 J r q
structure Mk(K:W.Frag)(C f:BP):Prop where
 makes:W.makesIn K C=CP
 init:W.findIn K (.ref C) "__init__"=wP (wP (.ref f))
 fn:W.isFn K (.ref f)=CP
 kp:W.keepIn K (.ref C)=CP
end
structure Hm(N P:List Str)(sc:rQ):Prop where
 kind:sc.kind=.function
 co:sc.isCoroutine=GP
 gen:sc.isGenerator=GP
 nd:N.Nodup
 pre:N.take P.length=P
 par:∀x∈P,sc.names.lookup x=wP .local\/sc.names.lookup x=wP .cell
 Im:∀y∈sc.names,y.2≠.free
def az{kindOf:Str->Option AQ}:∀{binds:List (Str×xP)}{m:Str->Option xP},(∀v,(x,v)∉binds)->bindL kindOf binds m x=m x
 |[],_,_=>rfl
 |(n,v)::r,m,h=>by
  unfold bindL;rw[az λw J=>h w (by grind)];split
  ·grind
  ·rfl
def bz{kindOf:Str->Option AQ}:∀{binds:List (Str×xP)}{m:Str->Option xP},(∀v,(x,v)∉binds)->bindC kindOf binds m x=m x
 |[],_,_=>rfl
 |(n,v)::r,m,h=>by
  unfold bindC;rw[bz λw J=>h w (by grind)];split
  ·rfl
  grind
def cz{kindOf:Str->Option AQ}:∀{P:List Str}{vs:List xP}{i:Nat}{m:Str->Option xP},P.Nodup->P[i]?=wP x->vs[i]?=wP v->kindOf x=wP .local->
  bindL kindOf (P.zip vs) m x=wP v
 |[],_,_,_,_,h,_,_=>by simp at h
 |_::_,[],_,_,_,_,h,_=>by simp at h
 |p::P,w::vs,0,m,U,J,O,Y=>by
  simp at J O;subst J;subst O;show bindL kindOf ((p,w)::P.zip vs) m p=_;unfold bindL;rw[az λv a0=>(Vc.mp U).1 (Zp a0).1,wa Y];simp
 |p::P,w::vs,i+1,m,U,J,O,Y=>by
  unfold bindL;exact cz (Vc.mp U).2 (by simpa using J) (by simpa using O) Y
def dz{kindOf:Str->Option AQ}:∀{P:List Str}{vs:List xP}{i:Nat}{m:Str->Option xP},P.Nodup->P[i]?=wP x->vs[i]?=wP v->kindOf x≠wP .local->
  bindC kindOf (P.zip vs) m x=wP v
 |[],_,_,_,_,h,_,_=>by simp at h
 |_::_,[],_,_,_,_,h,_=>by simp at h
 |p::P,w::vs,0,m,U,J,O,Y=>by
  simp at J O;subst J;subst O;show bindC kindOf ((p,w)::P.zip vs) m p=_;unfold bindC;rw[bz λv a0=>(Vc.mp U).1 (Zp a0).1,ma Y];simp
 |p::P,w::vs,i+1,m,U,J,O,Y=>by
  unfold bindC;exact dz (Vc.mp U).2 (by simpa using J) (by simpa using O) Y
def start(N:List Str)(vs:List V):St:=vs.map wP++List.replicate (N.length-vs.length) yP
def Yd(CX:Ni)(P:HP)(w:KP)(K:W.Frag)(mg:Str->Option xP)(base:NP)(N:List Str)(J:Str)(scope:rQ)(f:BP)(O:xP)(A:LP)(outer:List xR)(s:zP)(H:Hp)(E:XK):Cx where
 prog:=P
 w:=w
 K:=K
 mg:=mg
 base:=base
 A:=A.deeper (gQ J scope s.heap.objs.size f O)
 N:=N
 s₀:=s
 H₀:=H
 env:=gQ J scope s.heap.objs.size f O
 outer:=outer
 stack:=gQ J scope s.heap.objs.size f O::outer
 ex:=[]
 calm:=CP
 fn:=λ_=>CP
 pn:=[]
 xe:=λe s'=>wpAny (FP P w) (A.deeper (gQ J scope s.heap.objs.size f O)) (leaving (gQ J scope s.heap.objs.size f O) e) (λ_ U=>CX outer H s E e U) (λY U=>CX outer H s E Y U) s'
def ez{J:rQ}(h:J.names.lookup x=wP .cell):∃c,(cellsFrom n J.names []).lookup x=wP c:=by
 have q:=W.cellsFrom_some J.names n [] (.inl h);exact Option.isSome_iff_exists.mp q
def BF{CX:Ni}{P:HP}{w:KP}{K:W.Frag}{mg:Str->Option xP}{base:NP}{N O:List Str}{Y:Str}{scope:rQ}{f:BP}{a0:xP}{A:LP}{outer:List xR}{s s1:zP}{H:Hp}{E:XK}{us:List xP}{vs:List V}
  (S:Hm N O scope)(g0:A.handled=yP)(J:yq P w K mg base A outer s H)(l0:vs.length=O.length)(r:Qa vs us)
  (x:InCallC s s.heap.objs.size (bindL (gQ Y scope s.heap.objs.size f a0).kindOf (O.zip us) λ_=>yP) (cellsFrom (s.heap.objs.size+1) scope.names []) (bindC (gQ Y scope s.heap.objs.size f a0).kindOf (O.zip us) λ_=>yP) s1):
  Inv (Yd CX P w K mg base N Y scope f a0 A outer s H E) [] (start N vs) H s1:=by
 have m0:O.length<=N.length:=by have:=Ub List.length S.pre;rw[Ae]at this;lia
 refine ea8 ?_ x.done;rintro b0 n0 rfl d0;have h0:∀b:BP,b∉(Yd CX P w K mg base N Y scope f a0 A outer s H E).ex:=λb z=>absurd (show b∈([]:List BP)from z) (by simp)
 refine⟨⟨J.mod,S.kind,rfl,rfl,xa _,λy z c b0 U=>?_,λy hy=>?_,λy c _ h=>?_,λ_=>g0,Around.frames_deeper J.frames,.inr ⟨rfl,rfl⟩,by(intros;simp_all),J.bs,J.Cj,λb _ _=>h0 b,by(intros;simp_all),J.Ed,J.vl⟩,
  rfl,J.bare,Un.kept d0,⟨_,x.toInCall.ns,λi y v b0 U o0=>?_⟩,λy c h=>⟨_,x.cell y c h⟩,J.za.fresh (xa _),λy c h=>?_,λp c0=>absurd (show p∈([]:List (BP×dQ))from c0) (by simp),J.za.kept d0,?_⟩
 ·exact name_of_addr x.apart (Vk b0) (Vk U)
 ·have hy:scope.names.lookup y=wP .cell\/scope.names.lookup y=wP .free:=hy;rcases hy with hy|hy
  ·exact ez hy
  ·exact absurd rfl (S.Im _ (Vk hy))
 ·exact sj (x.above y c (Vk h))
 ·have hi:i<vs.length:=by
   unfold start at U;by_cases hi:i<vs.length
   ·exact hi
   ·grind
  have i0:vs[i]?=wP v:=by
   unfold start at U;rw[Ms (by simpa using hi),fb]at U;cases e:vs[i]? with
   |none=>rw[e]at U;cases U
   |some a=>simp_all
  refine ea1 ?_ (r.get i0);rintro u e0 j0;have c0:O[i]?=wP y:=by
   rw[<-S.pre,List.getElem?_take_of_lt (by simp_all)];exact b0
  have f0:O.Nodup:=by rw[<-S.pre];exact S.nd.sublist (by grind)
  refine⟨u,j0,?_⟩;rcases S.par y (by grind)with k|k
  ·exact .inl ⟨k,cz f0 c0 e0 k⟩
  ·obtain⟨c,e⟩:=ez (n:=s.heap.objs.size+1) k;refine .inr ⟨.inl k,c,e,?_⟩;have q:=x.cell y c e;rw[dz f0 c0 e0 (by show scope.names.lookup y≠_;grind)]at q;exact q
 ·exact J.za.fresh (sj (x.above y c (Vk h)))
 ·unfold start;show _=N.length
  simp_all
def Rv{CX:Ni}{P:HP}{w:KP}{K:W.Frag}{mg:Str->Option xP}{base:NP}{k:Nat}{f:BP}{name O:Str}{g0:Arguments}{d0:List hQ}{scope:rQ}{h0 kV i0 j0 U ct o0:xP}{l0 p0:Option BP}
  {q0:Array (Option xP)}{N b0:List Str}{sp:Sp}(lk:K.lookup f=wP ⟨o0,p0,.func (W.fnOf name O g0 d0 scope h0 kV i0 j0 l0 U ct),q0⟩)(r0:W.codeIn K U O=CP)(S:Hm N b0 scope)
  (len:∀vs H Q E,sp vs H Q E->vs.length=b0.length)
  (s0:∀(A:LP)(outer:List xR)(s:zP)(H:Hp)(vs:List V)(Q:VK)(E:XK),Wa k (A.deeper (gQ O scope s.heap.objs.size f U))->sp vs H Q E->
   ∃t,De (Yd CX P w K mg base N O scope f U A outer s H E) d0 t/\t {nx:=λ_ H'=>Q .Pa H',rt:=Q} (start N vs) H):
  uc P w K mg base CX (k+1) f (W.fnOf name O g0 d0 scope h0 kV i0 j0 l0 U ct) b0 sp:=by
 refine⟨len,λA outer s H args us vs Q E e0 a0 t0 r m0=>?_⟩;have u0:=len _ _ _ _ m0;have n0:=a0.mod.ko.keeps λb o e=>(a0.bs b o e).1
 have v0:=a0.mod.nolimit.keeps λb o e=>(a0.bs b o e).1
 have w0:∀y∈b0.zip us,scope.names.lookup y.1=wP .local\/(scope.names.lookup y.1=wP .cell/\((cellsFrom (s.heap.objs.size+1) scope.names []).lookup y.1).isSome=CP):=λ⟨n,v⟩x0=>by
  rcases S.par n (Zp x0).1 with q|q
  ·exact .inl q
  ·exact .inr ⟨q,W.cellsFrom_some _ _ _ (.inl q)⟩
 refine codeAny_call_function e0.depth (n0 _ _ lk) rfl S.co S.gen rfl (W.codeRec_of n0 r0) (t0 _ _ _ _ ?_);refine wpAny_newFunctionEnv_cells S.kind w0 λenv y0 s1 x=>?_
 subst y0;refine⟨v0.keeps x.toInCall.keep,codeAny_func ?_⟩;refine ea1 ?_ (s0 A outer s H vs Q E (e0.deeper _) m0);rintro t z0 A0;have I:Inv (Yd CX P w K mg base N O scope f U A outer s H E) [] (start N vs) H s1:=BF S e0.hd a0 u0 r x;refine Pc (z0 [] s1 (start N vs) H _ I A0) (λB0 s' Y=>?_) λe s' Y=>Y
 have fin:∀{c0:St}{H':Hp}{v:V}{u:xP},Inv (Yd CX P w K mg base N O scope f U A outer s H E) [] c0 H' s'->Ka v u->Q v H'->CE outer P w H s Q u s' :=
  λ{c0 H' v u}J f0 q=>⟨v,H',J.os,J.bare,J.base,J.za,f0,q⟩
 cases B0 with
 |ret u=>
  revert Y;refine eb0 ?_;rintro v c0 H' J f0 q;exact fin J f0 q
 |next=>
  revert Y;refine ea8 ?_;rintro c0 H' J q;exact fin (v:=V.Pa) J rfl q
 |brk=>
  revert Y;refine ea8 ?_;rintro _ _ _ q;exact False.elim q
 |cont=>
  revert Y;refine ea8 ?_;rintro _ _ _ q;exact False.elim q
section
variable{X:Cx}{x:Str}{p pos:sQ}{e:UP}{es:List UP}{t:TA}{id T:String}{r:List V->Hp->VK->Prop}
def fz(r:List V->Hp->VK->Prop)(t:TA):TE:=λJ H Q=>t J H λvs O=>r vs O Q
def vc(U:Cf X (.builtin id) r)(Y:Gl X x)(a0:X.mg x=yP)(b0:xQ x=wP (.builtin id))(c0:PA X (e::es) t)(d0:x≠"__name__":=by decide)(e0:(x==("__debug__":Str))=GP:=by decide)
  (f0:JP (e::es) X.env=(GP,XP e X.env)::JP es X.env:=by rfl)(g0:(cQ pos (JP es X.env)).any (·.1)=GP:=by rfl):PE X (.Call (.Name x p) (e::es) [] pos) (fz r t):=by
 constructor;intro J s O H Q I h;refine Di (Sg I Y a0 b0 ?_ d0 e0);exact gv (Aa (c0 pos J s O H _ I h) (by rintro us s1⟨vs,h0,i0,j0,q1⟩;exact U J s1 O h0 vs us Q i0 j0 q1)) f0 g0
def Jm(U:Cf X (.type T) r)(Y:Gl X x)(a0:X.mg x=yP)(b0:xQ x=wP (.type T))(c0:PA X (e::es) t)(d0:x≠"__name__":=by decide)(e0:(x==("__debug__":Str))=GP:=by decide)
  (f0:JP (e::es) X.env=(GP,XP e X.env)::JP es X.env:=by rfl)(g0:(cQ pos (JP es X.env)).any (·.1)=GP:=by rfl):PE X (.Call (.Name x p) (e::es) [] pos) (fz r t):=by
 constructor;intro J s O H Q I h;refine Di (Sg I Y a0 b0 ?_ d0 e0);exact jm (Aa (c0 pos J s O H _ I h) (by rintro us s1⟨vs,h0,i0,j0,q1⟩;exact U J s1 O h0 vs us Q i0 j0 q1)) f0 g0
end
end L2
namespace HT
open PySem PyProof.Rows
def lexLt:List Int->List Int->Bool
 |[],[]=>GP
 |[],_::_=>CP
 |_::_,[]=>GP
 |x::xs,y::ys=>if x=y then lexLt xs ys else decide (x<y)
def Gb(x y:Int)(xs ys:List Int):lexLt (x::xs) (y::ys)=if x=y then lexLt xs ys else decide (x<y):=rfl
def Vb:lexLt [] []=GP:=rfl
def CF(y:Int)(ys:List Int):lexLt [] (y::ys)=CP:=rfl
def DF(x:Int)(xs:List Int):lexLt (x::xs) []=GP:=rfl
def EF(A:LP)(s:zP)(a:Int)(t:Tok)(c:Int)(u:Tok):∃e,SeqAt.EqAt A s (.int a t) (.int c u) e/\(e=CP↔a=c):=
 ⟨(a==c),SeqAt.EqAt.int_int a t c u,by simp⟩
def FF(A:LP)(s:zP)(a:Int)(t:Tok)(c:Int)(u:Tok)(prog:HP)(w:KP)(E:xP->zP->Prop)(Q:xP->zP->Prop)(h:Q (.bool (decide (a<c))) s):
  wpAny (FP prog w) A (richCompare .Lt (.int a t) (.int c u)) Q E s:=
 (PyProof.Rows.lt_int h:wpAny (FP prog w) A (YP .Lt (.int a t) (.int c u)) Q E s)
section
open PySem.SeqAt
open PySem.AutoSeq1(wpAny_loadPart')
open PySem.MeetsSeq PySem.MeetsSeq2 PySem.MeetsSeq3
def GF(l b:BP)(items Y:Array xP)(n j0:Nat)(dd l0:Option BP)(m0 n0:Array (Option xP))(ns ms:List Int)(hi:qQ items.toList ns)(o0:qQ Y.toList ms):
  Meets (Builtin.«tuple.__lt__» ⟨[.ref l,.ref b],[]⟩)
   (λ_ R s=>s.heap.get? l=wP {cls:=.type "tuple",dict:=dd,data:=.seq items n,slots:=m0}/\s.heap.get? b=wP {cls:=.type "tuple",dict:=l0,data:=.seq Y j0,slots:=n0}/\
    R (.ok (.ret (.bool (lexLt ns ms)))) s):=
 .of_wp λprog w A R s h=>by
  obtain⟨b0,g,d,c0,os⟩:=s;revert h;refine ea3 ?_;rintro p0 q0 h;have y0:=AutoSeq1.sub_tuple_tuple;have z0:items.size=ns.length:=by rw[<-hi.length];simp
  have A0:Y.size=ms.length:=by rw[<-o0.length];simp
  wp_walk using wpAny_loadPart' p0,wpAny_loadPart' q0,wpAny_forIn_list _ (λh0 b s'=>b.1=yP/\s'=⟨b0,g,d,c0,os⟩/\∃(vs d0:List xP)(J O:List Int),h0=vs.zip d0/\
   qQ vs J/\qQ d0 O/\J.length+Y.size=O.length+items.size/\R (.ok (.ret (.bool (lexLt J O)))) ⟨b0,g,d,c0,os⟩) _
  case turn=>
   rintro⟨y,x⟩h0 b s' ⟨f0,rfl,vs,d0,J,O,hz,g0,e0,a0,U⟩;cases g0 with
   |nil=>rw[List.zip_nil_left]at hz;cases hz
   |cons a t B0=>
    cases e0 with
    |nil=>rw[List.zip_nil_right]at hz;cases hz
    |cons c u C0=>
     rw[Kn]at hz;injection hz with r0 D0;injection r0 with s0 t0;subst s0 t0;rw[Gb]at U;simp only[Od]at a0;refine ea1 ?_ (EF A.in1 ⟨b0,g,d,c0,os⟩ a t c u);rintro e u0 v0;refine ba (u0 prog w _ _ ?_);cases e with
     |true=>
      rw[wa (v0.mp rfl)]at U;wp_walk
      exact(by grind)
     |false=>
      rw[ma (by simp_all)]at U;have w0:=FF A.in1 ⟨b0,g,d,c0,os⟩ a t c u prog w;wp_walk using w0
      exact(by simp_all)
  case fin=>
   rintro⟨F0,G0⟩s' ⟨f0,rfl,vs,d0,J,O,hz,g0,e0,a0,U⟩;simp only at f0;subst f0;have i0:lexLt J O=decide (items.size<Y.size):=by
    cases g0 with
    |nil=>
     cases e0 with
     |nil=>
      simp only[Yk]at a0;rw[Vb];exact(Wd (by simp_all)).symm
     |cons c u x0=>
      simp only[Yk,Od]at a0;rw[CF];exact(zb (by simp_all)).symm
    |cons a t i0=>
     cases e0 with
     |nil=>
      simp only[Yk,Od]at a0;rw[DF];exact(Wd (by lia)).symm
     |cons c u x0=>
      rw[Kn]at hz;cases hz
   rw[i0]at U;wp_walk
   exact⟨_,rfl,by simpa[Builtin.Tuple.tupleCompareSizes]using U⟩
  case h=>
   exact(by grind)
end
section
variable{prog:HP}{w:KP}{A:LP}{E:xP->zP->Prop}{s:zP}
def Xc(b0:IsTup s.heap l items)(c0:IsTup s.heap b J)(hi:qQ items.toList ns)(d0:qQ J.toList ms)
  (e0:A.units<MP)(h:Q (.bool (lexLt ns ms)) s):wpAny (FP prog w) A (YP .Lt (.ref l) (.ref b)) Q E s:=by
 refine ea7 ?_ (id b0);rintro⟨cls,dd,data,f0⟩g0 O⟨n,U⟩;refine ea7 ?_ (id c0);rintro⟨m0,h0,data2,i0⟩j0 Y⟨l0,a0⟩;simp only at O U Y a0;subst O U Y a0;exact richCompare_meets_room (op:=.Lt) ⟨_,g0,rfl⟩ ⟨_,j0,rfl⟩ F.slot_tuple_lt F.entry_tuple_lt (F.args_tuple_lt_2 _ _) (GF l b items J n l0 dd h0 f0 i0 ns ms hi d0)
  (by grind) e0
def gk(i0:IsTup s.heap t vs.toArray)(j0:IsTup s.heap b J.toArray)(l0:vs≠[])
  (m0:J=[]->Q (.ref t) s)(n0:J≠[]->Q (.ref s.heap.objs.size) {s with heap:=s.heap.push {cls:=.type "tuple",data:=.seq (vs++J).toArray}})
  (hsz:vs.length+J.length<=DP):wpAny (FP prog w) A (jQ .Add (.ref t) (.ref b)) Q E s:=by
 refine ea7 ?_ (id i0);rintro⟨cls,dd,data,a0⟩O b0⟨n,c0⟩;refine ea7 ?_ (id j0);rintro⟨o0,d0,data2,e0⟩U f0⟨g0,h0⟩;simp only at b0 c0 f0 h0;subst b0 c0 f0 h0;have e:vs.toArray++J.toArray=(vs++J).toArray:=by simp
 by_cases Y:J=[]
 ·exact concat_meets ⟨_,O,rfl⟩ ⟨_,U,rfl⟩ noFill_tuple_add seq_tuple_add F.slot_tuple_add F.entry_tuple_add (F.args_tuple_add_2 _ _)
   (tuple_addW1 t b vs.toArray J.toArray n g0 dd d0 a0 e0 (by simpa using l0) (by simp[Y])) ⟨O,U,m0 Y⟩
 ·refine concat_meets ⟨_,O,rfl⟩ ⟨_,U,rfl⟩ noFill_tuple_add seq_tuple_add F.slot_tuple_add F.entry_tuple_add (F.args_tuple_add_2 _ _)
   (tuple_addW2 t b vs.toArray J.toArray n g0 dd d0 a0 e0 (by simp[*]) (by simp_all) (by omega)) ⟨O,U,?_⟩
  rw[e];exact n0 Y
def Eb(n d:Nat):Option Int->Nat
 |none=>d
 |some v=>if v<0 then(v+(n:Int)).toNat else min v.toNat n
def se(n d:Nat):Eb n d yP=d:=rfl
def qd(n d k:Nat):Eb n d (wP (k:Int))=min k n:=by
 show(if(k:Int)<0 then((k:Int)+(n:Int)).toNat else min (k:Int).toNat n)=min k n;rw[ma (by simp_all),Kf]
def gz(v:Int)(n d:Nat):(if v<0 then max (v+(n:Int)) 0 else min v (n:Int))=((Eb n d (wP v):Nat):Int):=by
 show(if v<0 then max (v+(n:Int)) 0 else min v (n:Int))=(((if v<0 then(v+(n:Int)).toNat else min v.toNat n):Nat):Int);by_cases J:v<0
 ·simp_all
 ·simp only[ma J];grind
def HF(lo hi:Option Int)(n:Nat):Builtin.Slice.sliceAdjust lo hi 1 (n:Int)=(((Eb n 0 lo:Nat):Int),((Eb n n hi:Nat):Int)):=by
 have J:¬((1:Int)<0):=by simp_all
 unfold Builtin.Slice.sliceAdjust;refine yi ?_ ?_
 ·cases lo with
  |none=>rfl
  |some v=>exact gz v n 0
 ·cases hi with
  |none=>rfl
  |some v=>exact gz v n n
def IF(i j:Nat):Builtin.Slice.slicePlaces (i:Int) (j:Int) 1=j-i:=by
 unfold Builtin.Slice.slicePlaces;have J:(1:Int)>0:=by simp_all
 simp only[J,if_true,Int.ediv_one];split<;>simp_all
def iz(p:pR v o)(h:Q o s):wpAny (FP prog w) A (Builtin.Slice.slicePartIndex v) Q E s:=by
 cases p with
 |none=>exact slicePart_none h
 |int i t=>exact slicePart_int h
def JF{lo hi:Option Int}{Q:Int×Int×Nat->zP->Prop}(a0:s.heap.IsSliceOf b0 U Y .none)(pl:pR U lo)(c0:pR Y hi)
  (h:Q (((Eb n 0 lo:Nat):Int),1,Eb n n hi-Eb n 0 lo) s):wpAny (FP prog w) A (Builtin.Slice.sliceApplied (.ref b0) (pure (n:Int))) Q E s:=by
 refine ea7 ?_ (id a0);rintro os J d0 O;refine ba (ba (Uj J O (x:=U) rfl (ba (Uj J O (x:=Y) rfl (ba (Uj J O rfl (ca ?_)))))));refine ba (slicePart_none ?_);refine ba (iz pl (ba (iz c0 (ba (ca ?_)))));show wpAny _ _ (match Builtin.Slice.sliceAdjust lo hi 1 (n:Int)with|(lo,hi)=>pure (lo,(1:Int),Builtin.Slice.slicePlaces lo hi 1)) _ _ s;rw[HF lo hi n];show wpAny _ _ (pure (((Eb n 0 lo:Nat):Int),(1:Int),Builtin.Slice.slicePlaces ((Eb n 0 lo:Nat):Int) ((Eb n n hi:Nat):Int) 1)) _ _ s;rw[IF];exact ca h
def LF(xs:Array xP)(i k:Nat):((List.range k).filterMap λ(m:Nat)=>xs[((i:Int)+(m:Int)*1).toNat]?).toArray=((xs.toList.drop i).take k).toArray:=by
 have e:(λ(m:Nat)=>xs[((i:Int)+(m:Int)*1).toNat]?)=λm=>xs[i+m]?:=by
  funext m;have:((i:Int)+(m:Int)*1).toNat=i+m:=by lia
  rw[this]
 rw[e];have:=pick_run xs i k;rw[List.filterMap_map]at this;have J:((λx=>xs[x]?)∘λx=>i+x)=λm=>xs[i+m]?:=rfl
 rw[J]at this;rw[this]
def sd{lo hi:Option Int}(J:IsTup s.heap t items)(U:s.heap.IsSliceOf Y a0 b0 .none)(pl:pR a0 lo)(c0:pR b0 hi)
  (d0:¬(Eb items.size 0 lo=0/\Eb items.size items.size hi=items.size))
  (h:Q (.ref s.heap.objs.size) {s with heap:=s.heap.push {cls:=.type "tuple",data:=.seq ((items.toList.drop (Eb items.size 0 lo)).take (Eb items.size items.size hi-Eb items.size 0 lo)).toArray}})
  (hsz:items.size<=DP):wpAny (FP prog w) A (MQ (.ref t) (.ref Y)) Q E s:=by
 have O:sizeOk (.seq ((items.toList.drop (Eb items.size 0 lo)).take (Eb items.size items.size hi-Eb items.size 0 lo)).toArray):=by
  show((items.toList.drop (Eb items.size 0 lo)).take (Eb items.size items.size hi-Eb items.size 0 lo)).toArray.size<=DP;rw[ic,Ae,dg,Lc];omega
 obtain⟨os,e0,f0,i0⟩:=id U;have g0:s.TypeIs (.ref Y) "slice":=⟨os,e0,f0⟩;unfold MQ;try with_reducible refine Jc ?_
 refine ba (wpAny_sequenceKey J.typeIs (by decide) ?_);refine ba (Li J.typeIs kv
  (zd kv J.typeIs entry_tuple_getitem ?_ (args_tuple_getitem _ _)))
 show wpAny _ _ (Builtin.Tuple.tupleItemsOf (.ref t)>>=_) _ _ s;refine ba (tupleItemsOf_ J ?_);refine ba (rj g0 ?_);refine ba (JF U pl c0 ?_);have h0:¬((((Eb items.size 0 lo:Nat):Int)==0&&(1:Int)==1&&(Eb items.size items.size hi-Eb items.size 0 lo)==items.size)=CP):=by
  intro q;rw[ak,ak]at q;have q1:=eq_of_beq q.1.1;have q2:=eq_of_beq q.2;exact d0 (by simp_all)
 show wpAny _ _ (if(((Eb items.size 0 lo:Nat):Int)==0&&(1:Int)==1&&(Eb items.size items.size hi-Eb items.size 0 lo)==items.size)=CP then _ else _) _ _ s;rw[ma h0,LF];first
  |exact ba (oh (ca ⟨_,rfl,ca h⟩) O)
  |exact ba (oh (ba (ca (ca ⟨_,rfl,ca h⟩))) O)
  |exact ba (ba (oh (ca (ca ⟨_,rfl,ca h⟩)) O))
  |exact ba (ba (m:=Builtin.Tuple.tupleExact _) (oh (ca ⟨_,rfl,ca h⟩) O))
end
end HT
namespace L2
open PySem PySem.Spec PyProof.Rows
abbrev TO:=St->Hp->(Option Int->Hp->Prop)->Prop
structure PO(X:Cx)(e:Option UP)(t:TO):Prop where
 run:∀(pins:List (BP×dQ))(s:zP)(σ:St)(H:Hp)(Q:Option Int->Hp->Prop),Inv X pins σ H s->t σ H Q->
  wpAny (FP X.prog X.w) X.A (evalPart e X.env) (λu s'=>∃o H',Inv X pins σ H' s'/\pR u o/\Q o H') X.xe s
instance{X:Cx}{e:Option UP}{t:TO}:CoeFun (PO X e t) λ_=>∀(pins:List (BP×dQ))(s:zP)(σ:St)(H:Hp)(Q:Option Int->Hp->Prop),Inv X pins σ H s->t σ H Q->
  wpAny (FP X.prog X.w) X.A (evalPart e X.env) (λu s'=>∃o H',Inv X pins σ H' s'/\pR u o/\Q o H') X.xe s:=⟨PO.run⟩
def MF:TO:=λ_ H Q=>Q yP H
def NF(t:TE):TO:=λJ H Q=>t J H λx O=>∃i,x=.int i/\Q (wP i) O
section
variable{X:Cx}{e:UP}{te:TE}{lo hi:Option UP}{tl th:TO}{pos p2:sQ}
def Th:PO X yP MF:=by
 constructor;intro J s O H Q I h;exact ca (nx5 yP H I (.none) h)
def Wg(h:PE X e te):PO X (wP e) (NF te):=by
 constructor;intro J s O H Q I U;refine Aa (h J s O H _ I U) ?_;rintro u s1⟨x,Y,a0,b0,q1⟩;obtain⟨i,rfl,q⟩:=q1;obtain⟨t,rfl⟩:=b0;exact nx5 (wP i) Y a0 (.int i t) q
def Al(X:Cx)(r:V->Option Int->Option Int->Hp->VK->Prop):Prop:=
 ∀(J:List (BP×dQ))(s:zP)(O:St)(H:Hp)(x:V)(v U Y:xP)(lo hi:Option Int)(a0:BP)(Q:VK),Inv X J O H s->Ka x v->s.heap.IsSliceOf a0 U Y .none->pR U lo->pR Y hi->r x lo hi H Q->
  ∃T id,typeLookup (.type T) "__getitem__"=pure (wP (.builtin id))/\s.TypeIs v T/\wpAny (FP X.prog X.w) X.A (MQ v (.ref a0)) (EP X J O Q) X.xe s
def Al.or(h:Al X r)(h':Al X e0):Al X (λx lo hi H Q=>r x lo hi H Q\/e0 x lo hi H Q):=by
 intro J s O H x v U Y lo hi a0 Q I b0 c0 pl d0 q;rcases q with q|q
 ·exact h J s O H x v U Y lo hi a0 Q I b0 c0 pl d0 q
 ·exact h' J s O H x v U Y lo hi a0 Q I b0 c0 pl d0 q
def OF(r:V->Option Int->Option Int->Hp->VK->Prop)(te:TE)(tl th:TO):TE:=λJ H Q=>te J H λx O=>tl J O λl U=>th J U λu Y=>r x l u Y Q
def zh(c0:Al X r)(d0:PE X e te)(e0:PO X lo tl)(f0:PO X hi th):PE X (.Subscript e (.Slice lo hi yP p2) pos) (OF r te tl th):=by
 constructor;intro J s O H Q I h;refine Subscript_ (Aa (d0 J s O H _ I h) ?_);rintro v s1⟨x,g0,h0,i0,q1⟩;refine wpAny_Slice (Aa (e0 J s1 O g0 _ h0 q1) ?_);rintro Y j0;refine ea0 ?_;rintro l l0 m0 pl q2;refine Aa (f0 J j0 O l0 _ m0 q2) ?_;rintro a0 U;refine ea0 ?_;rintro u b0 n0 o0 q3;refine ca ?_;have p0:Inv X J O b0 {U with heap:=U.heap.push {cls:=.type "slice",data:=.fields #[Y,a0,.none]}}:=n0.kept λb t0 q=>Ta _ q
 refine ea0 ?_ (c0 J {U with heap:=U.heap.push {cls:=.type "slice",data:=.fields #[Y,a0,.none]}} O b0 x v Y a0 l u U.heap.objs.size Q p0 i0 (Heap.IsSliceOf.new ..) pl o0 q3);rintro T id q0 r0 s0;exact tail_any r0 q0 s0 (by with_unfolding_all rfl)
def xg(xs:List V)(lo hi:Option Int):List V:=(xs.drop (HT.Eb xs.length 0 lo)).take (HT.Eb xs.length xs.length hi-HT.Eb xs.length 0 lo)
def jz(xs:List V)(lo hi:Option Int):(xg xs lo hi).length<=xs.length:=by
 unfold xg;rw[Ae,dg];lia
inductive PF(K:W.Frag)(x:V)(lo hi:Option Int)(H:Hp)(Q:VK):Prop|mk(a xs)(_:x=.ref a)(_:Ba K H a xs)(_:¬(HT.Eb xs.length 0 lo=0/\HT.Eb xs.length xs.length hi=xs.length))(_:∀p,H p=yP->Q (.ref p) (upd H p (.tup (xg xs lo hi))))
def QF:Al X (PF X.K):=by
 intro e0 s f0 H x v g0 h0 lo hi i0 Q I U Y pl a0 h;obtain⟨a,xs,rfl,b0,c0,q⟩:=h;cases U;refine ea7 ?_ (I.tuple b0);rintro d0 r O hz;have J:d0.toArray.size=xs.length:=by rw[ic];exact r.length.symm
 refine nx5 ("tuple") _ kv.lookup O.typeIs ?_;refine HT.sd O Y pl a0 (by rw[J];exact c0) ?_ (by rw[J];exact hz);rw[J];refine⟨.ref s.heap.objs.size,_,I.laid (λb j0 q=>Ta _ q) (xa _) ?_,rfl,q _ (I.za.fresh (xa _))⟩;exact⟨Nb (jz xs lo hi) hz,_,(r.drop (HT.Eb xs.length 0 lo)).take (HT.Eb xs.length xs.length hi-HT.Eb xs.length 0 lo),IsTup.new _ _⟩
inductive RF(K:W.Frag)(x y:V)(H:Hp)(Q:VK):Prop|mk(a b xs ys)(_:x=.ref a)(_:y=.ref b)(_:Ba K H a xs)(_:Ba K H b ys)(_:xs≠[])(_:xs.length+ys.length<=DP)(_:(ys=[]->Q (.ref a) H))(_:(ys≠[]->∀p,H p=yP->Q (.ref p) (upd H p (.tup (xs++ys)))))
def Qa.nf(r:Qa xs us):us=[]↔xs=[]:=by
 cases r with
 |nil=>simp
 |cons _ _=>simp
def SF:Cc X (jQ .Add) (RF X.K):=by
 intro e0 s f0 H x y v u Q I U Y h;obtain⟨a,b,xs,ys,rfl,rfl,a0,b0,c0,hz,q1,q2⟩:=h;cases U;cases Y;refine ea7 ?_ (I.tuple a0);rintro g0 O d0 _;refine ea7 ?_ (I.tuple b0);rintro h0 J p2 _;refine HT.gk d0 p2 (λz=>c0 (O.nf.mp z)) (λz=>⟨.ref a,H,I,rfl,q1 (J.nf.mp z)⟩) (λz=>?_) (by rw[<-O.length,<-J.length];exact hz);refine⟨.ref s.heap.objs.size,_,I.laid (λb i0 q=>Ta _ q) (xa _) ?_,rfl,q2 (λw=>z (J.nf.mpr w)) _ (I.za.fresh (xa _))⟩;exact⟨by rw[Ac];exact hz,_,O.append J,IsTup.new _ _⟩
end
def hg(n:Nat)(i:Int):Option Nat:=if 0<=i then(if i<n then wP i.toNat else yP)else if-(n:Int)<=i then wP (i+n).toNat else yP
def Bd{α:Type}(xs:List α)(i:Int):Option α:=(hg xs.length i).bind λj=>xs[j]?
def kz(h:hg n i=wP j):DR i n=wP j/\j<n/\-(n:Int)<=i/\i<n:=by
 unfold hg at h;by_cases O:0<=i
 ·rw[wa O]at h;by_cases J:i<n
  ·rw[wa J]at h;have e:=me h;exact⟨by rw[seqIndex_of O J,e],by lia,by lia,J⟩
  ·rw[ma J]at h;cases h
 ·rw[ma O]at h;by_cases J:-(n:Int)<=i
  ·rw[wa J]at h;have e:=me h;exact⟨by rw[aS (by simp_all) J,e],by lia,J,by lia⟩
  ·rw[ma J]at h;cases h
def bt(h:Bd xs i=wP v):∃j,DR i xs.length=wP j/\xs[j]?=wP v/\j<xs.length/\-(xs.length:Int)<=i/\i<xs.length:=by
 unfold Bd at h;cases e:hg xs.length i with
 |none=>rw[e]at h;cases h
 |some j=>
  rw[e]at h;refine ea6 ?_ (kz e);rintro J O U Y;exact(by simp_all)
def Pf{j:Nat}(h:xs[j]?=wP v):Bd xs (j:Int)=wP v:=by
 have J:=(Zb.mp h).1;have e:hg xs.length (j:Int)=wP j:=by
  unfold hg;rw[wa (by simp_all),wa (by simp_all)];simp
 unfold Bd;rw[e];exact h
def lz(b:UP):Prop:=∀o i,GR b GP o i=operate [o,i] (MQ o i)
def Oi(X:Cx)(r:R2):Prop:=
 ∀(U slice:UP)(J:List (BP×dQ))(s:zP)(O:St)(H:Hp)(x y:V)(v u:xP)(Q:VK),Inv X J O H s->Ka x v->Ka y u->r x y H Q->
  GR slice GP v u=operate [v,u] (MQ v u)->wpAny (FP X.prog X.w) X.A (subscriptTail U slice v u) (EP X J O Q) X.xe s
def Bl(X:Cx)(id:String)(r:V->List V->Hp->VK->Prop):Prop:=
 ∀(J:List (BP×dQ))(s:zP)(O:St)(H:Hp)(x:V)(xs:List V)(v:xP)(us:List xP)(Q:VK),Inv X J O H s->Ka x v->Qa xs us->r x xs H Q->
  wpAny (FP X.prog X.w) X.A (call (.builtin id) (v::us)) (EP X J O Q) X.xe s
section
variable{X:Cx}{a b:UP}{ta tb:TE}{pos:sQ}
def Oi.or(h:Oi X r)(h':Oi X c0):Oi X (λx y H Q=>r x y H Q\/c0 x y H Q):=by
 intro J slice O s U H x y v u Q I Y a0 q b0;rcases q with q|q
 ·exact h J slice O s U H x y v u Q I Y a0 q b0
 ·exact h' J slice O s U H x y v u Q I Y a0 q b0
def Bl.or{id:String}(h:Bl X id r)(h':Bl X id Y):Bl X id (λx xs H Q=>r x xs H Q\/Y x xs H Q):=by
 intro J s O H x xs v us Q I U rs q;rcases q with q|q
 ·exact h J s O H x xs v us Q I U rs q
 ·exact h' J s O H x xs v us Q I U rs q
def UF(J:Oi X r)(O:PE X a ta)(U:PE X b tb)(Y:lz b):PE X (.Subscript a b pos) (Dm r ta tb):=by
 constructor;intro a0 s b0 H Q I h;exact Subscript_ (Dv O U I h λv u c0 x y d0 e0 f0 g0 q=>J a b a0 c0 b0 d0 x y v u Q e0 f0 g0 q (Y _ _))
inductive mz(K:W.Frag)(x y:V)(H:Hp)(Q:VK):Prop|mk(p xs i v)(_:x=.ref p)(_:y=.int i)(_:ia K H p xs)(_:Bd xs i=wP v)(_:Q v H)
inductive nz(K:W.Frag)(x y:V)(H:Hp)(Q:VK):Prop|mk(p xs i v)(_:x=.ref p)(_:y=.int i)(_:Ba K H p xs)(_:Bd xs i=wP v)(_:Q v H)
inductive VF(x y:V)(H:Hp)(Q:VK):Prop|mk(z i c)(_:x=.str z)(_:y=.int i)(_:z.length<=DP)(_:Bd z.cps.toList i=wP c)(_:Q (.str ⟨#[c]⟩) H)
def Ob:Oi X (mz X.K):=by
 intro o0 slice b0 s c0 H x y v u Q I d0 e0 h U;obtain⟨p,xs,i,z,rfl,rfl,f0,g0,q⟩:=h;cases d0;obtain⟨t,rfl⟩:=e0;refine ea7 ?_ (I.list f0);rintro h0 r pl hz;refine ec5 ?_ (bt g0);rintro j J i0 p0 j0 l0;obtain⟨w,Y,m0⟩:=r.get i0;have n0:=r.length;have q0:=uq;have fin:EP X b0 c0 Q w s:=⟨z,H,I,m0,q⟩;by_cases a0:0<=i
 ·have O:i.toNat=j:=by
   rw[seqIndex_of a0 l0]at J;exact me J
  exact item_listR pl.isList a0 (by lia) (by rw[O];simpa using Y) fin U
 ·have O:(i+(h0.toArray.size:Int)).toNat=j:=by
   rw[aS (by lia) j0]at J;rw[ic,<-n0];exact me J
  exact XR (x:=w) pl.isList.typeIs slot_list_getitem.lookup
   (wpAny_getItem_list_neg pl.isList (by lia) (by rw[ic]<;>simp_all) (by lia) (by rw[O];simpa using Y) ⟨rfl,fin⟩) U
def fc:Oi X (nz X.K):=by
 intro i0 slice J s O H x y v u Q I U Y h a0;obtain⟨p,xs,i,z,rfl,rfl,b0,c0,q⟩:=h;cases U;obtain⟨t,rfl⟩:=Y;refine ea7 ?_ (I.tuple b0);rintro j0 r pl hz;refine ec5 ?_ (bt c0);rintro j d0 e0 l0 m0 n0;obtain⟨w,f0,g0⟩:=r.get e0;have h0:=r.length;have o0:=uq;have fin:EP X J O Q w s:=⟨z,H,I,g0,q⟩;exact XR pl.typeIs slot_tuple_getitem.lookup
  (getItem_tuple pl (by lia) (by lia) (by rw[ic,<-h0];exact d0) (by simpa using f0) ⟨rfl,fin⟩) a0
def WF:Oi X VF:=by
 intro e0 slice f0 s g0 H x y v u Q I J O h U;obtain⟨z,i,c,rfl,rfl,hz,Y,q⟩:=h;obtain⟨t,rfl⟩:=J;obtain⟨t',rfl⟩:=O;refine ec5 ?_ (bt Y);rintro j a0 h0 i0 b0 c0;have d0:z.cps.toList.length=z.length:=by simp[Str.length]
 rw[d0]at a0 b0 c0;have j0:=uq;exact tail_any (typeIs_str s z t) slot_str_getitem.lookup (getItem_str (c:=c) (by
  lia) (by grind) ⟨.str ⟨#[c]⟩,H,I.tok _,⟨_,rfl⟩,q⟩) U
def XF(J:List xP)(n j:Nat)(u:xP):Obj.mapSeq (·.setIfInBounds j u) {cls:=.type "list",data:=.seq J.toArray n}={cls:=.type "list",data:=.seq (J.set j u).toArray n}:=by
 simp[Obj.mapSeq]
def Inv.lst{O:List (BP×dQ)}{U:St}{H:Hp}{s:zP}{p:BP}{xs:List V}(I:Inv X O U H s)(h:H p=wP (.lst xs)):
  ∃(J:List xP)(n:Nat),Qa xs J/\s.heap.get? p=wP {cls:=.type "list",data:=.seq J.toArray n}/\xs.length<=DP:=by
 refine ec6 ?_ (I.za p _ h);rintro z J n r e;exact nx5 J n r e z
def Inv.Km{J:St}{O its':List xP}(I:Inv X a0 J H s)(h:H p=wP (.lst xs))
  (b0:s.heap.get? p=wP {cls:=.type "list",data:=.seq O.toArray n})(U:f {cls:=.type "list",data:=.seq O.toArray n}={cls:=.type "list",data:=.seq its'.toArray Y})(r:Qa ys its')(hz:ys.length<=DP)(t:Nat):
  Inv X a0 J (upd H p (.lst ys)) {s with heap:=s.heap.update p f,toks:=t}:=by
 have e:(s.heap.update p f).get? p=wP {cls:=.type "list",data:=.seq its'.toArray Y}:=by
  rw[zi f b0 (by rw[U]<;>rfl),U]
 refine I.write (by rw[h];trivial) (.inl rfl) (λb u c0 q=>(nh _ _ (Dc c0)).trans q) ⟨_,e⟩ ?_;exact⟨hz,nx0 its' Y r e⟩
inductive YF(o i v:V)(H:Hp)(Q:(Hp->Prop)):Prop|mk(p xs k j)(_:o=.ref p)(_:i=.int k)(_:H p=wP (.lst xs))(_:hg xs.length k=wP j)(_:Q (upd H p (.lst (xs.set j v))))
def ZF:yv X YF:=by
 intro l0 s m0 H o i v n0 o0 u Q I g0 h0 i0 h;obtain⟨p,xs,k,j,rfl,rfl,a0,j0,q⟩:=h;cases g0;obtain⟨t,rfl⟩:=h0;refine ea0 ?_ (I.lst a0);rintro b0 n r O hz;refine ea6 ?_ (kz j0);rintro J p0 c0 d0;have U:=r.length;have q0:=uq;have e0:=
  I.Km a0 O (XF b0 n j u) (r.set i0 j) (by rw[il];exact hz) s.toks
 by_cases f0:0<=k
 ·have Y:k.toNat=j:=by
   rw[seqIndex_of f0 d0]at J;exact me J
  exact W.ki_setAt O f0 (by lia) (by rw[ic,<-U];exact d0) (by rw[Y];exact⟨_,e0,q⟩)
 ·have Y:(k+(b0.toArray.size:Int)).toNat=j:=by
   rw[aS (by lia) c0]at J;rw[ic,<-U];exact me J
  exact W.ki_setBack O (by lia) (by rw[ic,<-U];exact c0) (by lia) (by rw[Y];exact⟨_,e0,q⟩)
def aG(lo hi:Option Int)(n:Nat):(wQ lo hi yP n).1=((HT.Eb n 0 lo:Nat):Int)/\(wQ lo hi yP n).2.1=((HT.Eb n n hi:Nat):Int)/\(wQ lo hi yP n).2.2=1:=by
 refine⟨?_,?_,rfl⟩
 ·cases lo with
  |none=>simp[wQ,HT.Eb]
  |some i=>
   simp only[wQ,HT.Eb,Option.getD_none,show(1:Int)>0 by decide,if_true];by_cases h:i<0
   ·simp only[h,if_true]<;>grind
   ·simp only[h,hf]<;>grind
 ·cases hi with
  |none=>simp[wQ,HT.Eb]
  |some i=>
   simp only[wQ,HT.Eb,Option.getD_none,show(1:Int)>0 by decide,if_true];by_cases h:i<0
   ·simp only[h,if_true]<;>lia
   ·simp only[h,hf]<;>lia
def bG(J:List xP)(lo hi:Option Int):slicePick J.toArray lo hi yP=((J.drop (HT.Eb J.length 0 lo)).take (HT.Eb J.length J.length hi-HT.Eb J.length 0 lo)).toArray:=by
 obtain⟨O,U,Y⟩:=aG lo hi J.toArray.size;unfold slicePick;rw[O,U,Y];simp only[sliceRange_one,pick_run,ic]<;>rfl
inductive cG(K:W.Frag)(x:V)(lo hi:Option Int)(H:Hp)(Q:VK):Prop|mk(a xs)(_:x=.ref a)(_:ia K H a xs)(_:∀p,H p=yP->Q (.ref p) (upd H p (.lst (xg xs lo hi))))
def Ao:Al X (cG X.K):=by
 intro c0 s d0 H x v e0 f0 lo hi g0 Q I O U pl Y h;obtain⟨a,xs,rfl,a0,q⟩:=h;cases O;refine ea7 ?_ (I.list a0);rintro h0 r J hz;have b0:=r.length;refine nx5 ("list") _ slot_list_getitem.lookup J.isList.typeIs ?_;refine wpAny_getItem_list_slice J.isList U pl Y .none (by simp) ?_ (by rw[ic]<;>simp_all);rw[bG,<-b0];refine⟨.ref s.heap.objs.size,_,I.laid (λb i0 q=>Ta _ q) (xa _) ?_,rfl,q _ (I.za.fresh (xa _))⟩;exact⟨Nb (jz xs lo hi) hz,nx0 _ 0 ((r.drop (HT.Eb xs.length 0 lo)).take (HT.Eb xs.length xs.length hi-HT.Eb xs.length 0 lo)) (Hb _ rfl)⟩
def El:V->Bool
 |.Pa=>CP
 |.bl _=>CP
 |.int _=>CP
 |.str _=>CP
 |_=>GP
def Fl:V->V->Bool
 |.Pa,.Pa=>CP
 |.bl a,.bl b=>a==b
 |.bl a,.int b=>(if a then 1 else 0)==b
 |.int a,.bl b=>a==(if b then 1 else 0)
 |.int a,.int b=>a==b
 |.str a,.str b=>a==b
 |_,_=>GP
def dG(O:Ka y u)(J:Ka x v)(Y:El y=CP)(U:El x=CP):SeqAt.EqAt A s u v (Fl y x):=by
 cases y with
 |Pa=>
  cases O;cases x with
  |Pa=>cases J;exact SeqAt.EqAt.same _
  |bl b=>cases J;exact SeqAt.EqAt.none_bool b
  |int b=>obtain⟨t,rfl⟩:=J;exact SeqAt.EqAt.none_int b t
  |str b=>obtain⟨t,rfl⟩:=J;exact SeqAt.EqAt.none_str b t
  |_=>exact absurd (U) pc
 |bl a=>
  cases O;cases x with
  |Pa=>cases J;exact SeqAt.EqAt.bool_none a
  |bl b=>cases J;exact SeqAt.EqAt.bool_bool a b
  |int b=>obtain⟨t,rfl⟩:=J;exact SeqAt.EqAt.bool_int a b t
  |str b=>obtain⟨t,rfl⟩:=J;exact SeqAt.EqAt.bool_str a b t
  |_=>exact absurd ‹_› pc
 |int a=>
  obtain⟨t',rfl⟩:=O;cases x with
  |Pa=>cases J;exact SeqAt.EqAt.int_none a t'
  |bl b=>cases J;exact SeqAt.EqAt.int_bool a t' b
  |int b=>obtain⟨t,rfl⟩:=J;exact SeqAt.EqAt.int_int a t' b t
  |str b=>obtain⟨t,rfl⟩:=J;exact SeqAt.EqAt.int_str a t' b t
  |_=>exact absurd (show GP=CP from U) pc
 |str a=>
  obtain⟨t',rfl⟩:=O;cases x with
  |Pa=>cases J;exact SeqAt.EqAt.str_none a t'
  |bl b=>cases J;exact SeqAt.EqAt.str_bool a t' b
  |int b=>obtain⟨t,rfl⟩:=J;exact SeqAt.EqAt.str_int a t' b t
  |str b=>obtain⟨t,rfl⟩:=J;exact SeqAt.EqAt.str_str a t' b t
  |_=>exact absurd (show GP=CP from U) pc
 |_=>exact absurd (Y) pc
def yg(x:V)(u:xP):Bool:=match u with
 |.none=>Fl .Pa x
 |.bool b=>Fl (.bl b) x
 |.int i _=>Fl (.int i) x
 |.str z _=>Fl (.str z) x
 |_=>GP
def oz(r:Ka y u)(f:El y=CP):yg x u=Fl y x:=by
 cases y with
 |Pa=>cases r;rfl
 |bl b=>cases r;rfl
 |int i=>obtain⟨t,rfl⟩:=r;rfl
 |str z=>obtain⟨t,rfl⟩:=r;rfl
 |_=>exact absurd (f) pc
def Bq:∀{xs:List V}{us:List xP},Qa xs us->xs.all El=CP->us.any (yg x)=xs.any λy=>Fl y x
 |_,_,.nil,_=>rfl
 |y::xs,u::us,.cons r t,f=>by
  rw[List.all_cons,ak]at f;rw[List.any_cons,List.any_cons,oz r f.1,Bq t f.2]
def Cq(J:Ka x v)(O:El x=CP):∀{xs:List V}{us:List xP},Qa xs us->xs.all El=CP->∀u∈us,SeqAt.EqAt A s u v (yg x u)
 |_,_,.nil,_=>by(intros;simp_all)
 |y::xs,u::us,.cons r t,f=>λU hu=>by
  rw[List.all_cons,ak]at f;rcases jb.mp hu with rfl|hu
  ·rw[oz r f.1];exact dG r J f.1 O
  ·exact Cq J O t f.2 U hu
def Lm(x:V)(xs:List V):Bool:=xs.any λy=>Fl y x
inductive pz(K:W.Frag)(neg:Bool)(x y:V)(H:Hp)(Q:VK):Prop|mk(p xs)(_:y=.ref p)(_:(ia K H p xs\/Ba K H p xs))(_:El x=CP)(_:xs.all El=CP)(_:Q (.bl (if neg then !Lm x xs else Lm x xs)) H)
def eG:Cc X (YP .In) (pz X.K GP):=by
 intro b0 s c0 H x y v u Q I O Y h;obtain⟨p,xs,rfl,hq,U,fs,q⟩:=h;cases Y;rcases hq with hq|hq
 ·refine ea7 ?_ (I.list hq);rintro J r pl hz;refine SeqAt.in_listAt (yg x) pl.isList (λw a0=>Cq O U r fs w (by simp_all)) ⟨.bl _,H,I,rfl,?_⟩;rw[show J.toArray.any (yg x)=J.any (yg x)by simp,Bq r fs];exact q
 ·refine ea7 ?_ (I.tuple hq);rintro J r pl hz;refine SeqAt.in_tupleAt (yg x) pl (λw a0=>Cq O U r fs w (by grind)) ⟨.bl _,H,I,rfl,?_⟩;rw[show J.toArray.any (yg x)=J.any (yg x)by simp,Bq r fs];exact q
def fG:Cc X (YP .NotIn) (pz X.K CP):=by
 intro b0 s c0 H x y v u Q I O Y h;obtain⟨p,xs,rfl,hq,U,fs,q⟩:=h;cases Y;rcases hq with hq|hq
 ·refine ea7 ?_ (I.list hq);rintro J r pl hz;refine SeqAt.notIn_listAt (yg x) pl.isList (λw a0=>Cq O U r fs w (by grind)) ⟨.bl _,H,I,rfl,?_⟩;rw[show J.toArray.any (yg x)=J.any (yg x)by simp,Bq r fs];exact q
 ·refine ea7 ?_ (I.tuple hq);rintro J r pl hz;refine SeqAt.notIn_tupleAt (yg x) pl (λw a0=>Cq O U r fs w (by grind)) ⟨.bl _,H,I,rfl,?_⟩;rw[show J.toArray.any (yg x)=J.any (yg x)by simp,Bq r fs];exact q
def Cf.or(h:Cf X f r)(h':Cf X f U):Cf X f (λxs H Q=>r xs H Q\/U xs H Q):=by
 intro J s O H xs us Q I rs q;rcases q with q|q
 ·exact h J s O H xs us Q I rs q
 ·exact h' J s O H xs us Q I rs q
def qz(K:W.Frag)(T:String)(x:V)(H:Hp):Prop:=match x with
 |.str _=>T="str"
 |.int _=>T="int"
 |.ref p=>(T="list"/\∃xs,ia K H p xs)\/(T="tuple"/\∃o,K.lookup p=wP o/\o.cls=.type "tuple"/\o.dict=yP)\/
   (T="dict"/\((∃J,H p=wP (.dK J))\/∃J,H p=wP (.dT J)))\/(T="set"/\∃S n,H p=wP (.set S n))
 |_=>False
def gG{b0:St}(I:Inv X f0 b0 H s)(r:Ka x v)(O:qz X.K T x H):
  s.TypeIs v T/\∀a,v=.ref a->∃a0,s.heap.get? a=wP a0/\a0.dict=yP:=by
 cases x with
 |str z=>
  obtain⟨t,rfl⟩:=r;cases(O);exact⟨typeIs_str s z t,λ_ e=>nomatch e⟩
 |int i=>
  obtain⟨t,rfl⟩:=r;cases(O);exact⟨typeIs_int s i t,λ_ e=>nomatch e⟩
 |ref p=>
  cases r;rcases O with⟨rfl,xs,c0⟩|⟨rfl,o,J,d0,U⟩|⟨rfl,J⟩|⟨rfl,S,n,J⟩
  ·refine ea7 ?_ (I.list c0);rintro g0 _ pl _;refine⟨pl.isList.typeIs,λa e=>?_⟩;cases e;revert pl;refine eaA ?_;rintro o n e c U _;exact⟨o,e,U⟩
  ·refine⟨⟨o,I.Gd p o J,d0⟩,λa e=>?_⟩;cases e;exact⟨o,I.Gd _ o J,U⟩
  ·have z:∃o,s.heap.get? p=wP o/\o.ExactDict:=by
    rcases J with⟨e0,J⟩|⟨e0,J⟩
    ·refine ebF ?_ (I.za p _ J);rintro _ _ _ _;refine eb0 ?_;rintro o _ _ e ex _;exact⟨o,e,ex⟩
    ·refine ebF ?_ (I.za p _ J);rintro _ _ _ _;refine eb0 ?_;rintro o _ _ e ex _;exact⟨o,e,ex⟩
   obtain⟨o,e,ex⟩:=z;refine⟨⟨o,e,ex.1⟩,λa Y=>?_⟩;cases Y;exact⟨o,e,ex.2.1⟩
  ·refine ebB ?_ (I.za p _ J);rintro o _ _ _ e ex _;refine⟨⟨o,e,ex.1⟩,λa Y=>?_⟩;cases Y;exact⟨o,e,ex.2.1⟩
 |_=>exact False.elim O
def Sv(K:W.Frag)(T:String)(r:V->List V->Hp->VK->Prop)(U:TE)(t:TA):TE:=λJ H Q=>U J H λx O=>qz K T x O/\t J O λxs Y=>r x xs Y Q
variable{o e:UP}{es:List UP}{to:TE}{t:TA}{name:Str}{apos Jb:sQ}{T id:String}{r:V->List V->Hp->VK->Prop}
def Ee(b0:PlainAttrs T)(slot:Slot T name id)(c0:typeOf (.builtin id)=pure (.type "method_descriptor"))(d0:Bl X id r)(e0:PE X o to)(f0:PA X (e::es) t)
  (g0:jR o name X.env (XP o X.env)=XP o X.env:=by rfl)
  (h0:((cQ Jb (JP (e::es) X.env)).all (λx=>!x.1)&&(RR Jb (aR [] X.env)).all (λx=>x.1.isSome)
   &&decide ((e::es).length+([]:List KR).length+(if([]:List KR).isEmpty then 0 else 1)<30))=CP:=by rfl)
  (i0:(apos.endLine==Jb.line)=CP:=by rfl)(j0:JP (e::es) X.env=(GP,XP e X.env)::JP es X.env:=by rfl)(t0:(cQ Jb (JP es X.env)).any (·.1)=GP:=by rfl):
  PE X (.Call (.Attribute o name apos) (e::es) [] Jb) (Sv X.K T r to t):=by
 constructor;intro J s O H Q I h;refine wpAny_Call_method_late g0 h0 i0 rfl (Aa (e0 J s O H _ I h) ?_);rintro v s1⟨x,l0,U,Y,m0,q1⟩;obtain⟨n0,o0⟩:=gG U Y m0;refine nx10 T id b0 slot c0 n0 o0 ?_;have a0:=f0 Jb J s1 O l0 _ U q1;rw[j0]at a0⊢;refine Ip (by assumption) (Ep ?_);exact Aa a0 (by rintro us p0⟨vs,q0,r0,s0,q2⟩;exact d0 J p0 O q0 x vs v us Q r0 Y s0 q2)
end
def Bo(X:Cx)(id:String)(r:V->List V->Hp->VK->Prop):Prop:=
 ∀(J:List (BP×dQ))(s:zP)(O:St)(H:Hp)(x:V)(xs:List V)(v:xP)(us:List xP)(Q:VK),Inv X J O H s->Ka x v->Qa xs us->r x xs H Q->
  wpAny (FP X.prog X.w) X.A (call (.builtin id) (v::us)) (EP X J O Q) X.xe s
def Qa.one:∀{x:V}{us:List xP},Qa [x] us->∃u,us=[u]/\Ka x u:=by
 rintro _ _(_|⟨r,_|_⟩);exact⟨_,rfl,r⟩
def Qa.eraseIdx:∀{xs:List V}{us:List xP}(i:Nat),Qa xs us->Qa (xs.eraseIdx i) (us.eraseIdx i)
 |_,_,_,.nil=>.nil
 |_,_,0,.cons _ t=>t
 |_,_,i+1,.cons r t=>.cons r (Qa.eraseIdx i t)
def Qa.rep(h:Qa xs us):∀k:Nat,Qa (List.replicate k xs).flatten (List.replicate k us).flatten
 |0=>.nil
 |k+1=>by
  exact Qa.append h (Qa.rep h k)
def hG{α:Type}:∀(l:List α)(i:Nat),(l.eraseIdx i).length<=l.length
 |[],_=>xa _
 |_::_,0=>qi _
 |_::r,i+1=>by grind
def rz(J:List xP):∀(k:Nat)(O:List xP),
  List.foldl (λU Y=>U++Y) O.toArray (List.replicate k J.toArray)=(O++(List.replicate k J).flatten).toArray
 |0,O=>by simp
 |k+1,O=>by
  have e:O.toArray++J.toArray=(O++J).toArray:=by simp
  have a0:(O++J)++(List.replicate k J).flatten=O++(List.replicate (k+1) J).flatten:=by
   rw[gs,List.flatten_cons,ke]
  rw[<-a0,<-rz J k (O++J),<-e,gs,List.foldl_cons]
section
variable{X:Cx}{pins:List (BP×dQ)}{σ:St}{H:Hp}{s:zP}{l b:BP}{xs ys zs:List V}
def Inv.Qi{J its':List xP}(I:Inv X pins σ H s)(O:H l=wP (.lst xs))
  (e:s.heap.get? l=wP {cls:=.type "list",data:=.seq J.toArray n})(U:f J.toArray=its'.toArray)(Y:Qa ys its')(hz:ys.length<=DP):
  Inv X pins σ (upd H l (.lst ys)) {s with heap:=s.heap.update l (Obj.mapSeq f),toks:=t'}:=by
 have q:=PySem.IsL.update e f;rw[U]at q;refine I.write (by rw[O];exact trivial) (.inl rfl) (λc0 u a0 b0=>(nh s.heap (Obj.mapSeq f) (Dc a0)).trans b0) ⟨_,q⟩ ?_;exact⟨hz,nx0 its' _ Y q⟩
def Inv.Dq(I:Inv X pins σ H s)(O:Qa ys J)(hz:ys.length<=DP):
  Inv X pins σ (upd H s.heap.objs.size (.lst ys)) {s with heap:=s.heap.push {cls:=.type "list",data:=.seq J.toArray},toks:=t'}:=
 I.laid (λ_ _ q=>Ta _ q) (xa _) (⟨hz,nx0 J 0 O (Hb _ rfl)⟩)
def Inv.fresh(I:Inv X pins σ H s):H s.heap.objs.size=yP:=I.za.fresh (xa _)
def Inv.pf(I:Inv X pins σ H s)(O:H l=wP (.lst xs)):xs.length<=DP/\∃(J:List xP)(n:Nat),Qa xs J/\xs.length=J.length/\s.heap.get? l=wP {cls:=.type "list",data:=.seq J.toArray n}:=by
 refine ec6 ?_ (I.za l _ O);rintro z J n r e;exact⟨z,nx5 J n r r.length e⟩
def tz(h:n<=DP):Builtin.List.listTooLong n=GP:=by
 exact Wd (by simp_all)
end
section
variable{X:Cx}
inductive ik(x:V)(vs:List V)(H:Hp)(Q:VK):Prop|mk(l xs y)(_:x=.ref l)(_:vs=[y])(_:H l=wP (.lst xs))(_:xs.length<DP)(_:Q .Pa (upd H l (.lst (xs++[y]))))
def uz:Bo X "list.append" ik:=by
 intro b0 s c0 H x vs v us Q I U Y h;obtain⟨l,xs,y,rfl,rfl,J,hz,q⟩:=h;cases U;obtain⟨u,rfl,a0⟩:=Y.one;refine ec3 ?_ (I.pf J);rintro z O n r d0 e;refine jl F.slot_list_append ⟨_,e,rfl⟩ F.entry_list_append (F.args_list_append_2 _ _) (PySem.list_append l O.toArray n u (by rw[ic];simp_all)) ⟨e,?_⟩;refine⟨.Pa,_,I.Qi (its':=O++[u]) J e (by simp) (r.append (.cons a0 .nil)) ?_,rfl,q⟩
 grind
inductive jk(x:V)(vs:List V)(H:Hp)(Q:VK):Prop|mk(l b xs zs)(_:x=.ref l)(_:vs=[.ref b])(_:H l=wP (.lst xs))(_:H b=wP (.lst zs))(_:xs.length+zs.length<=DP)(_:Q .Pa (upd H l (.lst (xs++zs))))
def Co:Bo X "list.extend" jk:=by
 intro h0 s i0 H x vs v us Q I Y a0 h;obtain⟨l,b,xs,j0,rfl,rfl,U,b0,hz,q⟩:=h;cases Y;obtain⟨u,rfl,c0⟩:=a0.one;cases c0;refine ec3 ?_ (I.pf U);rintro z J n r l0 e;refine ec3 ?_ (I.pf b0);rintro m0 O d0 e0 n0 f0;have hsz:J.toArray.size+O.toArray.size<=DP:=by rw[ic,ic];simp_all
 have g0:¬(!J.toArray.isEmpty&&Builtin.List.listTooLong (J.toArray.size+O.toArray.size))=CP:=by
  rw[tz hsz,Bool.and_false];exact pc
 refine jl F.slot_list_extend ⟨_,e,rfl⟩ F.entry_list_extend (F.args_list_extend_2 _ _)
  (AutoSeq1.list_extend_list_list_0 l J.toArray n b O.toArray d0 g0 (by rw[ic];simp_all) (by lia)) ⟨e,f0,?_⟩
 refine⟨.Pa,_,I.Qi U e (by simp) (r.append e0) ?_,rfl,q⟩;rw[Ac];lia
inductive Mm(x:V)(vs:List V)(H:Hp)(Q:VK):Prop|mk(l xs i k y)(_:x=.ref l)(_:vs=[.int i])(_:H l=wP (.lst xs))(_:-(2^63)<=i)(_:i<2^63)(_:DR i xs.length=wP k)(_:xs[k]?=wP y)(_:Q y (upd H l (.lst (xs.eraseIdx k))))
def iG:Bo X "list.pop" Mm:=by
 intro f0 s g0 H x vs v us Q I U Y h;obtain⟨l,xs,i,k,y,rfl,rfl,J,a0,b0,h0,c0,q⟩:=h;cases U;obtain⟨u,rfl,d0⟩:=Y.one;obtain⟨t,rfl⟩:=d0;refine ec3 ?_ (I.pf J);rintro z O n r i0 e;obtain⟨w,j0,e0⟩:=r.get c0;refine jl F.slot_list_pop ⟨_,e,rfl⟩ F.entry_list_pop (F.args_list_pop_2 _ _)
  (MeetsSeq.list_pop_at l O.toArray n i t k w (fitsIndex_both a0 b0) (by simp_all) (by simp_all) (by rw[ic];simp_all)) ⟨e,?_⟩
 refine⟨y,_,I.Qi (its':=O.eraseIdx k) J e ?_ (r.eraseIdx k) ?_,e0,q⟩
 ·simp_all
 ·have:=hG xs k;lia
inductive jG(x y:V)(H:Hp)(Q:VK):Prop|mk(l b xs zs)(_:x=.ref l)(_:y=.ref b)(_:H l=wP (.lst xs))(_:H b=wP (.lst zs))(_:xs.length+zs.length<=DP)(_:∀p,H p=yP->Q (.ref p) (upd H p (.lst (xs++zs))))
def Do:Cc X (jQ .Add) jG:=by
 intro f0 s g0 H x y v u Q I U Y h;obtain⟨l,b,xs,h0,rfl,rfl,a0,b0,hz,q⟩:=h;cases U;cases Y;refine ec3 ?_ (I.pf a0);rintro z J n r i0 e;refine ec3 ?_ (I.pf b0);rintro j0 O l0 c0 m0 d0;refine PySem.P.add_list e d0 ?_ (by simp_all);have e0:J.toArray++O.toArray=(J++O).toArray:=by simp
 rw[e0];exact⟨.ref _,_,I.Dq (t':=s.toks) (r.append c0) (by rw[Ac];lia),rfl,q _ I.fresh⟩
inductive kG(x y:V)(H:Hp)(Q:VK):Prop|mk(l k xs)(_:x=.ref l)(_:y=.int k)(_:H l=wP (.lst xs))(_:-(2^63)<=k)(_:k<2^63)(_:xs.length*k.toNat<=DP)(_:∀p,H p=yP->Q (.ref p) (upd H p (.lst (List.replicate k.toNat xs).flatten)))
def lG{α:Type}(xs:List α)(k:Nat):(List.replicate k xs).flatten.length=k*xs.length:=by
 induction k with
 |zero=>simp
 |succ k J=>rw[gs,List.flatten_cons,Ac,J,Nat.succ_mul,Nat.add_comm]
def vz:Cc X (jQ .Mult) kG:=by
 intro m0 s n0 H x y v u Q I O U h;obtain⟨l,k,xs,rfl,rfl,Y,a0,b0,hz,q⟩:=h;cases O;obtain⟨t,rfl⟩:=U;refine ec3 ?_ (I.pf Y);rintro z J n r c0 e;have d0:J.toArray.size*k.toNat<=DP:=by rw[ic,<-c0];exact hz
 have e0:¬J.toArray.size*k.toNat>(2^63-1)/8:=by
  have:(DP:Nat)<=(2^63-1)/8:=by decide
  lia
 have f0:¬(!Builtin.List.listFitsIndex k)=CP:=by
  rw[fitsIndex_both a0 b0];exact pc
 have g0:¬Builtin.List.listTooLong (J.toArray.size*k.toNat)=CP:=by
  rw[tz d0];exact pc
 have h0:List.foldl (λi0 j0=>i0++j0) #[] (List.replicate (if J.toArray.isEmpty=CP then 0 else k.toNat) J.toArray)=(List.replicate k.toNat J).flatten.toArray:=by
  have l0:=λm=>by
   have:=rz J m [];rw[List.nil_append]at this;exact this
  rw[l0];cases J with
  |nil=>simp
  |cons a o0=>rw[ma (by simp)]
 refine wpAny_binaryOp_repeat_ref (by decide) ⟨_,e,rfl⟩ (λs'=>typeIs_int s' k t) noFill_list_mul F.fills_int_mul F.slot_int_rmul repeat_list F.slot_int_index.lookup
  (jl F.slot_int_rmul (typeIs_int s k t) F.entry_int_rmul (F.args_int_rmul_2 _ _) (int___rmul___int_list k t l J.toArray n)
   ⟨e,rfl,⟨_,e,rfl⟩,jl F.slot_list_mul ⟨_,e,rfl⟩ F.entry_list_mul (F.args_list_mul_2 _ _) (AutoListH.list___mul___list_int_3 l J.toArray n k t f0 e0 g0) ⟨e,?_⟩⟩)
 rw[h0];exact⟨.ref _,_,I.Dq (r.rep k.toNat) (by rw[lG,Nat.mul_comm];exact hz),rfl,q _ I.fresh⟩
end
section
variable{κ:Type}[DecidableEq κ]
def Oa(J:List (κ×V))(k:κ):Option V:=(J.find? λO=>decide (O.1=k)).map (·.2)
def lc(O:List (κ×V))(k:κ)(v:V):List (κ×V):=
 if(O.any λJ=>decide (J.1=k))=CP then O.map (λJ=>if J.1=k then(J.1,v)else J)else O++[(k,v)]
def Uh{k:κ}(e:p.1=k):Oa (p::r) k=wP p.2:=by simp[Oa,sg,e]
def Vh{k:κ}(e:¬p.1=k):Oa (p::r) k=Oa r k:=by simp[Oa,sg,e]
def Fq(k:κ):∀J:List (κ×V),(J.any λO=>decide (O.1=k))=(Oa J k).isSome
 |[]=>rfl
 |p::r=>by
  rw[List.any_cons];by_cases e:p.1=k
  ·simp only[Uh e,zb e,Bool.true_or,Option.isSome_some]
  ·rw[Vh e,Wd e,Bool.false_or];exact Fq k r
def wz(k j:κ)(y:V):∀O:List (κ×V),Oa (O.map λJ=>if J.1=k then(J.1,y)else J) j=(Oa O j).map λx=>if j=k then y else x
 |[]=>rfl
 |p::r=>by
  have U:=wz k j y r;rw[ed];by_cases h:p.1=k
  ·rw[wa h];by_cases e:p.1=j
   ·rw[Uh (p:=(p.1,y)) e,Uh e,Mp,wa (e.symm.trans h)]
   ·rw[Vh (p:=(p.1,y)) e,Vh e,U]
  ·rw[ma h];by_cases e:p.1=j
   ·rw[Uh e,Uh e,Mp,ma (by simp_all)]
   ·rw[Vh e,Vh e,U]
def Fc(k j:κ)(y:V):∀O:List (κ×V),Oa O k=yP->Oa (O++[(k,y)]) j=if j=k then wP y else Oa O j
 |[],_=>by
  by_cases e:k=j
  ·rw[wa e.symm];exact Uh e
  ·rw[ma (λz=>e z.symm)];exact Vh e
 |p::r,J=>by
  rw[List.cons_append];have U:¬p.1=k:=λz=>by rw[Uh z]at J;cases J
  rw[Vh U]at J;have Y:=Fc k j y r J;by_cases e:p.1=j
  ·rw[Uh e,Uh e,ma (by grind)]
  ·rw[Vh e,Vh e,Y]
def mG(J:List (κ×V))(k j:κ)(y:V):Oa (lc J k y) j=if j=k then wP y else Oa J j:=by
 unfold lc;by_cases a:(J.any λO=>decide (O.1=k))=CP
 ·rw[wa a,wz];rw[Fq]at a;by_cases e:j=k
  ·obtain⟨x,U⟩:=Option.isSome_iff_exists.mp a
   simp_all
  ·rw[ma e];cases Oa J j with
   |none=>rfl
   |some x=>rw[Mp,ma e]
 ·rw[ma a];refine Fc k j y J ?_;rw[Fq]at a;cases q:Oa J k with
  |none=>rfl
  |some x=>simp_all
def Eo(J:List (κ×V))(k:κ)(v:V):(lc J k v).length<=J.length+1:=by
 unfold lc
 grind
def Sd.Hd(r:Sd o u):o.isSome=u.isSome:=by
 cases o with
 |none=>cases u with
  |none=>rfl
  |some _=>exact(r).elim
 |some _=>cases u with
  |none=>exact(r).elim
  |some _=>rfl
def Sd.getD(r:Sd o u)(J:Ka d d'):Ka (o.getD d) (u.getD d'):=by
 cases o with
 |none=>cases u with
  |none=>exact J
  |some _=>exact(r).elim
 |some _=>cases u with
  |none=>exact(r).elim
  |some _=>exact r
def KV.val(r:KV U vs)(k:κ):Sd (Oa U k) (sR vs k):=by
 induction r with
 |nil=>exact True.intro
 |@cons p q c0 J h t Y=>
  obtain⟨a0,b0⟩:=h;by_cases e:p.1=k
  ·have O:=a0.symm.trans e;have b:sR (q::J) k=wP q.2:=by simp[sR,sg,O]
   rw[Uh e,b];exact b0
  ·have O:¬q.1=k:=by simp_all
   have b:sR (q::J) k=sR J k:=by simp[sR,sg,O]
   rw[Vh e,b];exact Y
def KV.any(r:KV O vs)(k:κ):(O.any λJ=>decide (J.1=k))=vs.any λJ=>decide (J.1=k):=by
 induction r with
 |nil=>rfl
 |cons h t U=>rw[List.any_cons,List.any_cons,U,h.1]
def KV.Nm(r:KV O vs)(k:κ)(Y:Ka y u):
  KV (O.map λJ=>if J.1=k then(J.1,y)else J) (vs.map λJ=>if J.1=k then(J.1,u)else J):=by
 unfold KV at r⊢;induction r with
 |nil=>exact .nil
 |@cons p q a0 b0 h t U=>
  rw[ed,ed];refine .cons ?_ U
  lia
def KV.put(r:KV O vs)(k:κ)(J:Ka y u):KV (lc O k y) (AR vs k u):=by
 unfold lc AR;rw[r.any k];by_cases e:(vs.any λU=>decide (U.1=k))=CP
 ·rw[wa e,wa e];exact r.Nm k J
 ·rw[ma e,ma e];exact Paired.snoc r ⟨rfl,J⟩
def KV.keys{J:List (κ×V)}{vs:List (κ×xP)}(r:KV J vs):J.map (·.1)=vs.map (·.1):=by
 induction r with
 |nil=>rfl
 |cons h t O=>rw[ed,ed,O,h.1]
def KV.length{vs:List (κ×xP)}(r:KV J vs):J.length=vs.length:=dm r
end
def Om(r:Ka (kV k) u):(ge P w).is k u=CP:=by
 cases k with
 |inl i=>obtain⟨t,e⟩:=(r);subst e;exact xE P w i t
 |inr x=>obtain⟨t,e⟩:=(r);subst e;exact yE P w x t
def Tv:∀{ks:List Key}{us:List xP},Qa (ks.map kV) us->ItemsAre (ge P w) ks us
 |[],_,r=>by rw[List.map_nil]at r;cases r;exact .nil
 |k::ks,_,r=>by
  cases r with
  |cons h t=>exact .cons (Om h) (Tv t)
abbrev KT(H:Hp):List (List Key×V)->List (List Key×BP×xP)->Prop:=Paired λp q=>p.1=q.1/\H q.2.1=wP (.tup (p.1.map kV))/\Ka p.2 q.2.2
def KT.val{H:Hp}{U:List (List Key×V)}{xs:List (List Key×BP×xP)}(r:KT H U xs)(k:List Key):Sd (Oa U k) ((GQ xs k).map (·.2)):=by
 induction r with
 |nil=>exact True.intro
 |@cons p q c0 J h t Y=>
  revert h;refine ea3 ?_;rintro a0 _ b0;by_cases e:p.1=k
  ·have O:=a0.symm.trans e;have b:GQ (q::J) k=wP q.2:=by simp[GQ,sg,O]
   rw[Uh e,b];exact b0
  ·have O:¬q.1=k:=by simp_all
   have b:GQ (q::J) k=GQ J k:=by simp[GQ,sg,O]
   rw[Vh e,b];exact Y
def KT.Nm(r:KT H O xs)(k:List Key)(Y:Ka y u):
  KT H (O.map λJ=>if J.1=k then(J.1,y)else J) (xs.map (putAt k u)):=by
 induction r with
 |nil=>exact .nil
 |@cons p q a0 b0 h t U=>
  rw[ed,ed];refine .cons ?_ U;revert h;refine ea3 ?_;rintro c0 d0 e0;unfold putAt
  lia
def KT.put(r:KT H J xs)(k:List Key)(U:H b=wP (.tup (k.map kV)))(O:Ka y u):
  KT H (lc J k y) (lQ xs k b u):=by
 have e:(J.any λY=>decide (Y.1=k))=(GQ xs k).isSome:=by
  rw[Fq,(r.val k).Hd,Option.isSome_map]
 unfold lc lQ;rw[e];by_cases q:(GQ xs k).isSome=CP
 ·rw[wa q,wa q];exact r.Nm k O
 ·rw[ma q,ma q];exact Paired.snoc r ⟨rfl,U,O⟩
def KT.keeps(r:KT H J xs)(O:∀b ys,H b=wP (.tup ys)->H' b=wP (.tup ys)):KT H' J xs:=
 Paired.Ib r (by grind)
section
variable{P:HP}{w:KP}{H:Hp}{h:NP}{a:BP}
def xz(ok:wc P w H h)(e:Rd H a u):Rc P w H h a u:=e.ok ok
def Ej(ok:wc P w H h)(e:Rd H a (.dK J)):J.length<=DP/\(a==bQ)=GP/\∃vs,KV J vs/\h.DictOf (ge P w) a vs:=
 show Rc P w H h a (.dK J)from xz ok e
def yz(ok:wc P w H h)(e:H a=wP (.dK J)):J.length<=DP/\(a==bQ)=GP/\∃vs,KV J vs/\h.DictOf (ge P w) a vs:=Ej ok (.inl e)
def Fo(ok:wc P w H h)(e:H a=wP (.tup (ks.map kV))):(tQ (ge P w)).is h ks a:=by
 refine eb5 ?_ ((ok a _ e));rintro _ J r;refine ea7 ?_;rintro o O U⟨n,Y⟩;exact nx1 o J.toArray n O U Y (by simpa using Tv r)
def Go(ok:wc P w H h)(e:Rd H a (.dT J)):J.length<=DP/\(a==bQ)=GP/\
  ∃xs,KT H J xs/\h.DictOfH (tQ (ge P w)) a xs:=by
 refine ea3 ?_ ((show Rc P w H h a (.dT J)from xz ok e));rintro z y;refine ebA ?_;rintro xs r o es ep O U Y a0 b0;refine⟨z,y,nx9 xs r o (nx10 es ep O U Y a0 (λx hx=>?_) b0)⟩;have all:∀{l:List (List Key×V)}{m:List (List Key×BP×xP)},KT H l m->∀x∈m,(tQ (ge P w)).is h x.1 x.2.1:=by
  intro l m q;induction q with
  |nil=>(intros;simp_all)
  |@cons p q d0 e0 f0 t c0=>
   intro x hx;rcases jb.mp hx with e|hx
   ·subst e;exact Fo ok (by simp_all)
   ·exact c0 x hx
 exact all r x hx
def nG(ok:wc P w H h)(e:H a=wP (.dT J)):J.length<=DP/\(a==bQ)=GP/\
  ∃xs,KT H J xs/\h.DictOfH (tQ (ge P w)) a xs:=Go ok (.inl e)
end
def Zd(H:Hp)(a:BP)(y:V)(r:Option V):Prop:=
 (∃J k,Rd H a (.dK J)/\y=kV k/\r=Oa J k)\/∃J k b,Rd H a (.dT J)/\y=.ref b/\H b=wP (.tup (k.map kV))/\r=Oa J k
def kk(H:Hp)(a:BP)(y v:V)(H':Hp):Prop:=
 (∃J k,H a=wP (.dK J)/\y=kV k/\J.length<DP/\H'=upd H a (.dK (lc J k v)))\/
 ∃J k b,H a=wP (.dT J)/\y=.ref b/\H b=wP (.tup (k.map kV))/\J.length<DP/\H'=upd H a (.dT (lc J k v))
def Zd.k{k:Key}(e:H a=wP (.dK J)):Zd H a (kV k) (Oa J k):=.inl (nx5 J k (.inl e) rfl rfl)
def kk.k{k:Key}(e:H a=wP (.dK J))(O:J.length<DP):kk H a (kV k) v (upd H a (.dK (lc J k v))):=.inl (nx3 J k e rfl O rfl)
def kk.t{k:List Key}(e:H a=wP (.dT J))(O:H b=wP (.tup (k.map kV)))(U:J.length<DP):
  kk H a (.ref b) v (upd H a (.dT (lc J k v))):=.inr (nx6 J k b e rfl O U rfl)
section
variable{X:Cx}{pins:List (BP×dQ)}{σ:St}{H:Hp}{s:zP}{a:BP}{y v:V}{u r:xP}{o:Option V}{A:LP}{E:xP->zP->Prop}
def Inv.big(I:Inv X pins σ H s):bQ<s.heap.objs.size:=by
 have h:=(I.mod.glob.keeps I.bk).lt;exact Nat.lt_trans (by decide) h
def zz(c0:A.units+1<MP)(I:Inv X pins σ H s)(g:Zd H a y (wP v))(b0:Ka y u)(h:∀J s',Inv X pins σ H s'->Ka v J->Q J s'):
  wpAny (FP X.prog X.w) A (MQ (.ref a) u) Q E s:=by
 rcases g with⟨d0,k,e,O,l⟩|⟨d0,k,b,e,O,e0,l⟩
 ·subst O;refine ebF ?_ (Ej I.za e);rintro z f0 vs U dd;obtain⟨J,Y,a0⟩:=Sd.some_of (by rw[l];exact U.val k);exact wpAny_getItem_of (Om b0) dd.mapOf Y (h J _ (I.tok _) a0)
 ·subst O;cases(b0);refine ebF ?_ (Go I.za e);rintro z f0 xs U dd;obtain⟨J,Y,a0⟩:=Sd.some_of (v:=v) (by rw[l];exact U.val k);obtain⟨p,g0,h0⟩:=Jf.mp Y;refine wpAny_getItem_heap (lR c0) (Fo I.za e0) dd g0 ?_;rw[h0];exact h J _ (I.tok _) a0
def oG(a0:A.units+1<MP)(I:Inv X pins σ H s)(g:Zd H a y o)(Y:Ka y u)(h:∀s',Inv X pins σ H s'->Q (.bool (!o.isSome)) s'):
  wpAny (FP X.prog X.w) A (YP .NotIn u (.ref a)) Q E s:=by
 rcases g with⟨b0,k,e,J,l⟩|⟨b0,k,b,e,J,c0,l⟩
 ·subst J;refine ebF ?_ (Ej I.za e);rintro z O vs U dd;refine wpAny_notIn_of (Om Y) O dd.mapOf ?_;rw[<-(U.val k).Hd,<-l];exact h _ (I.tok _)
 ·subst J;cases(Y);refine ebF ?_ (Go I.za e);rintro z O xs U dd;refine wpAny_notIn_heap (lR a0) (Fo I.za c0) O dd ?_;have q:=(U.val k).Hd;rw[Option.isSome_map]at q;rw[<-q,<-l];exact h _ (I.tok _)
def et(I:Inv X pins σ H s)(O:mq (H a))(U:Heap.SameBut a s.heap h')(Y:∃q,h'.get? a=wP q)(a0:Rc X.prog X.w (upd H a J) h' a J):
  Inv X pins σ (upd H a J) {s with heap:=h',toks:=t'}:=
 I.write O (.inl rfl) (λb q b0 z=>(U.2 b b0).trans z) Y a0
def Uv(z:J.length<=DP)(O:(a==bQ)=GP)(U:KV J vs)(dd:h'.DictOf (ge P w) a vs):
  Rc P w H' h' a (.dK J):=⟨z,O,vs,U,dd⟩
def Az(i0:A.units+1<MP)(I:Inv X pins σ H s)(g:kk H a y v H')(f0:Ka y u)(g0:Ka v r)(h:∀s',Inv X pins σ H' s'->Q () s'):
  wpAny (FP X.prog X.w) A (setItem (.ref a) u r) Q E s:=by
 rcases g with⟨J,k,e,a0,l,b0⟩|⟨J,k,b,e,a0,h0,l,b0⟩
 ·subst a0 b0;refine ebF ?_ (yz I.za e);rintro z c0 vs O dd;have hz:vs.length<=DP:=by rw[<-O.length];exact z
  have d0:(lc J k v).length<=DP:=by have:=Eo J k v;lia
  refine wpAny_setItem_pairs (Om f0) dd λh' U e0=>h _ ?_
  have j0:∃q,h'.get? a=wP q:=let⟨q,_,_,Y,_⟩:=U;⟨q,Y⟩
  exact et I (by rw[e];exact True.intro) e0 j0 (Uv d0 c0 (O.put k g0) U)
 ·subst a0 b0;cases(f0);refine ebF ?_ (nG I.za e);rintro z c0 xs O dd;have hz:xs.length<=DP:=by rw[<-dm O];exact z
  have d0:(lc J k v).length<=DP:=by have:=Eo J k v;lia
  refine wpAny_setItem_heap (lR i0) (Fo I.za h0) dd λh' U e0=>h _ ?_
  obtain⟨q,es,ep,Y,l0,m0,n0,_,o0⟩:=U;refine et I (by rw[e];exact True.intro) e0 ⟨q,Y⟩ (⟨d0,c0,nx9 _ ((O.put k h0 g0).keeps λc ys p0=>?_) q (nx19 es ep Y l0 m0 n0 o0)⟩);rw[oa (by lia)];exact p0
end
section
variable{X:Cx}{pins:List (BP×dQ)}{σ:St}{H:Hp}{s:zP}{a:BP}{Ra:List (Key×V)}{k:Key}{u:xP}{A:LP}{E:xP->zP->Prop}
def pG(I:Inv X pins σ H s)(e:Rd H a (.dK Ra))(h:∀t s',Inv X pins σ H s'->Q (.int Ra.length t) s'):wpAny (FP X.prog X.w) A (call (.builtin "len") [.ref a]) Q E s:=by
 refine ebF ?_ (Ej I.za e);rintro z O vs J dd;refine call_len_dict O dd (by rw[<-J.length];rw[ti]at z;lia) ?_;rw[<-J.length];exact h _ _ (I.tok _)
end
def ft(i:UP):Prop:=∀J O,GR i GP J O=operate [J,O] (MQ J O)
def Bz{T id:String}
  (b0:typeLookup (.type T) "__getitem__"=pure (wP (.builtin id)))(c0:ft slice)
  (h:wpAny (FP prog w) A (XP U env) (λo Y=>wpAny (FP prog w) A (XP slice env) (λi J=>J.TypeIs o T/\wpAny (FP prog w) A (MQ o i) Q E J) E Y) E s):
  wpAny (FP prog w) A (XP (.Subscript U slice pos) env) Q E s:=by
 refine Subscript_ (Pc h (λo Y d0=>Pc d0 (λi J O=>?_) λ_ _ x=>x) λ_ _ x=>x);obtain⟨e0,O⟩:=O;refine ba ?_;refine ba (mh e0 b0 ?_);have fin:wpAny (FP prog w) A (GR slice GP o i) (λr a0=>wpAny (FP prog w) A (letTemporaryGo U o r>>=λ_=>pure r) Q E a0) E J:=by
  rw[c0 o i];exact wpAny_operating (Pc O (λr a0 f0=>ba (wpAny_letTemporaryGo (ca f0))) λ_ _ x=>x)
 first
  |exact ca (ba fin)
  |exact ba (ca (ba fin))
  |exact ba fin
def qG{J:St}(I:Inv X U J H s)(g:Zd H a y o):s.TypeIs (.ref a) "dict":=by
 rcases g with⟨O,k,e,_,_⟩|⟨O,k,b,e,_,_,_⟩
 ·obtain⟨_,_,vs,_,dd⟩:=Ej I.za e;exact dd.typeIs
 ·obtain⟨_,_,xs,_,dd⟩:=Go I.za e;exact dd.typeIs
inductive rG(Q:VK)(x y:V)(H2:Hp):Prop|mk(a v)(_:x=.ref a)(_:Zd H2 a y (wP v))(_:Q v H2)
def Cz(O U:TE):TE:=λJ H Q=>O J H λx Y=>U J Y (rG Q x)
inductive sG(Q:VK)(y x:V)(H2:Hp):Prop|mk(a o)(_:x=.ref a)(_:Zd H2 a y o)(_:Q (.bl (!o.isSome)) H2)
def tG(O U:TE):TE:=λJ H Q=>O J H λy Y=>U J Y (sG Q y)
inductive uG(D:ug)(σ:L2.St)(v x y:V)(H3:Hp):Prop|mk(a H4)(_:x=.ref a)(_:kk H3 a y v H4)(_:D.nx σ H4)
def vG(O U Y:TE):TS:=λD J H=>Y J H λv a0=>O J a0 λx b0=>U J b0 (uG D J v x)
inductive wG(tv:TE)(rd:V->V->Hp->VK->Prop)(D:ug)(σ:L2.St)(x y:V)(H2:Hp):Prop|mk(a v)(_:x=.ref a)(_:Zd H2 a y (wP v))(_:tv σ H2 λy2 H3=>rd v y2 H3 λz H4=>∃H5,kk H4 a y z H5/\D.nx σ H5)
def xG(O U Y:TE)(a0:V->V->Hp->VK->Prop):TS:=λD J H=>O J H λx b0=>U J b0 (wG Y a0 D J x)
section
variable{X:Cx}{o i e value:UP}{pos pos' wq:sQ}{td ty tv:TE}
def yG(Y:X.A.units+1<MP)(a0:PE X o td)(hi:PE X i ty)(b0:ft i):PE X (.Subscript o i pos) (Cz td ty):=by
 constructor;intro J s O H Q I h;refine Bz F.slot_dict_getitem.lookup b0 (Aa (a0 J s O H _ I h) ?_);rintro u s1⟨x,c0,d0,e0,q1⟩;refine Aa (hi J s1 O c0 _ d0 q1) ?_;rintro j0 l0⟨y,f0,U,g0,a,v,ex,g,q2⟩;subst ex;obtain rfl:u=Value.ref a:=e0;exact⟨qG U g,zz Y U g g0 λm0 n0 h0 i0=>⟨v,f0,h0,i0,q2⟩⟩
def zG(U:X.A.units+1<MP)(hi:PE X i ty)(Y:PE X o td):PC X .NotIn i o (tG ty td):=by
 constructor;intro J s O H Q I h;refine Aa (hi J s O H _ I h) ?_;rintro i0 s1⟨y,a0,b0,c0,q1⟩;refine Aa (Y J s1 O a0 _ b0 q1) ?_;rintro u j0⟨x,d0,e0,f0,a,g0,ex,g,q2⟩;subst ex;obtain rfl:u=Value.ref a:=f0;exact oG U e0 g c0 λl0 h0=>⟨.bl (!g0.isSome),d0,h0,rfl,q2⟩
def Dz(U:X.A.units+1<MP)(Y:PE X o td)(hi:PE X i ty)(a0:PE X value tv)(b0:uQ value (wP (.Subscript o i pos')) pos.line X.env=pure GP):
  PS X (.Assign [.Subscript o i pos'] value pos) (vG td ty tv):=by
 constructor;intro O s J H D I h;refine wpAny_Assign_Subscript (Aa (a0 O s J H _ I h) ?_) b0;rintro r s1⟨v,c0,d0,e0,q1⟩;refine Aa (Y O s1 J c0 _ d0 q1) ?_;rintro u f0⟨x,g0,h0,i0,q2⟩;refine Aa (hi O f0 J g0 _ h0 q2) ?_;rintro o0 p0⟨y,q0,j0,l0,a,m0,ex,g,q3⟩;subst ex;obtain rfl:u=Value.ref a:=i0;exact Az U j0 g l0 e0 λr0 n0=>nx0 J m0 n0 q3
def Ez{op:Operator}{b0:V->V->Hp->VK->Prop}(c0:X.A.units+1<MP)(e0:PE X o td)(hi:PE X i ty)(f0:PE X value tv)(g0:Ov X op b0)
  (h0:∀U J Y,augStore i U J Y=(do DQ [Y,U,J] (setItem U J Y);release [Y,U,J] [];pure .next)):PS X (.AugAssign (.Subscript o i wq) op value pos) (xG td ty tv b0):=by
 constructor;intro a0 s O H D I h;refine wpAny_AugAssign_SubscriptAny (Aa (e0 a0 s O H _ I h) ?_) h0;rintro u s1⟨x,i0,j0,l0,q1⟩;refine Aa (hi a0 s1 O i0 _ j0 q1) ?_;rintro J F0⟨y,m0,n0,d0,a,v,ex,g,q2⟩;subst ex;obtain rfl:u=Value.ref a:=l0;refine zz c0 n0 g d0 λo0 p0 q0 r0=>Aa (f0 a0 p0 O m0 _ q0 q2) ?_
 rintro s0 t0⟨u0,v0,w0,x0,q3⟩;refine Aa (g0 a0 t0 O v0 v u0 o0 s0 _ w0 r0 x0 q3) ?_;rintro G0 I0⟨z,J0,y0,z0,A0,B0,C0⟩;exact Az c0 y0 B0 d0 z0 λK0 D0=>nx0 O A0 D0 C0
end
def AG(h:NP)(J:bQ<h.objs.size):Rc P w H (h.push {cls:=.type "dict",data:=.dict #[]}) h.objs.size (.dK []):=
 ⟨Tb _,by grind,[],.nil,Heap.DictOf.new h⟩
def BG(h:NP)(J:bQ<h.objs.size):Rc P w H (h.push {cls:=.type "dict",data:=.dict #[]}) h.objs.size (.dT []):=
 ⟨Tb _,by grind,nx9 ([]) (.nil) _ (nx19 (#[]) 0 (Hb _ rfl) ⟨rfl,rfl,rfl⟩ rfl rfl List.nodup_nil)⟩
def CG:TE:=λ_ H Q=>∀p,H p=yP->Q (.ref p) (upd H p (.dK []))
def DG:TE:=λ_ H Q=>∀p,H p=yP->Q (.ref p) (upd H p (.dT []))
section
variable{X:Cx}{pos:sQ}
def Vv:PE X (.Dict [] [] pos) CG:=⟨λJ s O H Q I h=>
 zR ⟨.ref s.heap.objs.size,_,I.laid (λ_ _ q=>Ta _ q) (xa _) (AG s.heap I.big),rfl,h _ (I.za.fresh (xa _))⟩⟩
def EG:PE X (.Dict [] [] pos) DG:=⟨λJ s O H Q I h=>
 zR ⟨.ref s.heap.objs.size,_,I.laid (λ_ _ q=>Ta _ q) (xa _) (BG s.heap I.big),rfl,h _ (I.za.fresh (xa _))⟩⟩
end
structure M2(X:Cx)(o:UP)(m:Str)(apos:sQ)(e f:UP)(Jb:sQ):Prop where
 base:jR o m X.env (XP o X.env)=XP o X.env
 Kb:((cQ Jb (JP [e,f] X.env)).all (λx=>!x.1)&&(RR Jb (aR [] X.env)).all (λx=>x.1.isSome)
  &&decide (([e,f]:List UP).length+([]:List KR).length+(if([]:List KR).isEmpty then 0 else 1)<30))=CP
 line:(apos.endLine==Jb.line)=CP
 trees:cQ Jb (JP [e,f] X.env)=[(GP,XP e X.env),(GP,XP f X.env)]
def Xv(H:Hp)(a:BP):Prop:=(∃J,Rd H a (.dK J))\/∃J,Rd H a (.dT J)
def Fz{a0:St}(I:Inv X c0 a0 H s)(d:Xv H a):
  s.TypeIs (.ref a) "dict"/\(∀b,Value.ref a=.ref b->∃J,s.heap.get? b=wP J/\J.dict=yP)/\(a==bQ)=GP:=by
 rcases d with⟨b0,e⟩|⟨b0,e⟩
 ·refine ebF ?_ (Ej I.za e);rintro _ O vs _ dd;refine⟨dd.typeIs,λb q=>?_,O⟩;cases q;revert dd;refine eb0 ?_;rintro J _ _ U Y _;exact⟨J,U,Y.2.1⟩
 ·refine ebF ?_ (Go I.za e);rintro _ O xs _ dd;refine⟨dd.typeIs,λb q=>?_,O⟩;cases q;revert dd;refine eb0 ?_;rintro J _ _ U Y _;exact⟨J,U,Y.2.1⟩
section
variable{X:Cx}{pins:List (BP×dQ)}{σ:St}{H:Hp}{s:zP}{a:BP}{y d:V}{u r:xP}{o:Option V}{A:LP}{E:xP->zP->Prop}
def FG(e0:A.units+1<MP)(I:Inv X pins σ H s)(g:Zd H a y o)(Y:Ka y u)(a0:Ka d r)(h:∀b0 s',Inv X pins σ H s'->Ka (o.getD d) b0->Q b0 s'):
  wpAny (FP X.prog X.w) A (call (.builtin "dict.get") [.ref a,u,r]) Q E s:=by
 rcases g with⟨c0,k,e,J,l⟩|⟨c0,k,b,e,J,d0,l⟩
 ·subst J;refine ebF ?_ (Ej I.za e);rintro z O vs U dd;refine cS F.slot_dict_get dd.typeIs F.entry_dict_get (F.args_dict_get_3 _ _ _) (meets_dict_get_default (ge X.prog X.w) a (Om Y) O r) ⟨_,dd.mapOf,h _ _ (I.tok _) ?_⟩;rw[l];exact(U.val k).getD a0
 ·subst J;cases(Y);refine ebF ?_ (Go I.za e);rintro z O xs U dd;refine cS F.slot_dict_get dd.typeIs F.entry_dict_get (F.args_dict_get_3 _ _ _) (meetsH_dict_get_default (tQ (ge X.prog X.w)) a b O r) (⟨‹_›,nx5 k xs (Fo I.za d0) dd (h _ _ (I.tok _) ?_)⟩);rw[l];exact(U.val k).getD a0
end
inductive GG(ty tx:TE)(σ:L2.St)(Q:VK)(x:V)(H1:Hp):Prop|mk(a)(_:x=.ref a)(_:Xv H1 a)(_:ty σ H1 λy H2=>tx σ H2 λz H3=>∃o,Zd H3 a y o/\Q (o.getD z) H3)
def HG(O U Y:TE):TE:=λJ H Q=>O J H (GG U Y J Q)
section
variable{X:Cx}{o e f:UP}{apos Jb:sQ}{td ty tx:TE}
def ht(Y:X.A.units+1<MP)(a0:PE X o td)(b0:PE X e ty)(c0:PE X f tx)(m:M2 X o "get" apos e f Jb):PE X (.Call (.Attribute o "get" apos) [e,f] [] Jb) (HG td ty tx):=by
 constructor;intro J s O H Q I h;refine rR m.base m.Kb m.line Mr F.slot_dict_get F.type_dict_get (Aa (a0 J s O H _ I h) ?_);rintro u s1⟨x,d0,U,e0,a,ex,d,q1⟩;subst ex;obtain rfl:u=Value.ref a:=e0;refine ea3 ?_ (Fz U d);rintro f0 g0 _;refine⟨f0,g0,?_⟩;rw[m.trees];refine Ip rfl (Ep (xj (Aa (b0 J s1 O d0 _ U q1) λr0 h0⟨y,i0,j0,l0,q2⟩=>
  xj (Aa (c0 J h0 O i0 _ j0 q2) λs0 t0⟨z,m0,n0,o0,u0,g,q3⟩=>Wl ?_))))
 exact FG Y n0 g l0 o0 λv0 w0 p0 q0=>⟨_,m0,p0,q0,q3⟩
end
end L2
namespace Att
open PySem PySem.W PySem.Calls PyProof.Rows
def IG:∀(ns:List Int)(vs:List xP),WellAll P h vs (ns.map WData.int)->qQ vs ns:=by
 intro ns;induction ns with
 |nil=>
  intro vs w;cases w;exact .nil
 |cons n ns J=>
  intro vs w;cases w with
  |cons a b=>
   cases a;exact .cons _ _ (J _ b)
def JG{l:OpenLaw}(Y:l.most=wP n)
  (U:l.row.toRowW.claim.pre args=CP)(a0:WellAll P h b0 args):
  ∃a vs ns,b0=[Value.ref a]/\args=[WData.list (ns.map WData.int)]/\h.get? a=wP {cls:=.type "list",data:=.seq vs.toArray}/\qQ vs ns/\ns.length<=n:=by
 have c0:WShape.hasAll [] args [.list .int]=CP:=(pre_splitW U).1;have d0:l.pre.holds [] {args:=args}=CP:=(pre_splitW U).2;refine ea0 ?_ (hasAllW_cons c0);rintro d r rfl e0 f0;obtain rfl:=hasAllW_nil f0;refine ea1 ?_ (hasW_list e0);rintro xs rfl g0;obtain⟨ns,rfl⟩:=items_int g0;have h0:ns.length<=n:=by
  have J:(WTm.not (.lt (.lit (.int (n:Int))) (.len (.arg 0)))).holds [] {args:=[.list (ns.map .int)]}=CP:=by
   have J:=(holds_andW d0).1;rw[Y]at J;exact J
  have O:=condW_of J (w_not (w_lt w_lit (w_len_list (w_arg rfl))));first
   |(rw[zb n0]at O;exact absurd O (by decide))
   |(simp at O;lia)
 cases a0 with
 |cons i0 j0=>
  cases j0;cases i0 with
  |list l0 m0=>exact nx6 _ _ ns rfl rfl l0 (IG ns _ m0) h0
def KG(l:OpenLaw)(args:List WData):l.row.toRowW.claim.post args (.bool CP) args=CP:=
 postW_of
  (show WShape.has [] (.bool CP) .bool=CP by first|rfl|decide|simp[WShape.has,WShape.arms,WShape.armsAll])
  (show(WTm.eq .res (.lit (.bool CP))).value [] {args:=args,res:=wP (.bool CP),after:=args}=wP (.bool (CP==CP))from w_eq_bool (w_res rfl) w_lit) rfl
end Att
namespace L2
open PySem PySem.Spec PyProof.Rows
def Gz:∀{vs:List xP}{ns:List Int},qQ vs ns->Qa (ns.map V.int) vs
 |_,_,.nil=>.nil
 |_,_,.cons n t h=>.cons ⟨t,rfl⟩ (Gz h)
def Yv(H:Hp):Prop:=∀b,H b=yP\/∃o xs,H b=wP (.jd o (.lst xs))
def LG{P:HP}{w:KP}{K:W.Frag}{mg c0:Str->Option xP}{CX:Ni}{k:Nat}{U a:BP}{fd:aQ}{x:Str}{sp:Sp}{J:zP}{vs:List xP}{ns:List Int}
  (d0:K.In J.heap)(e0:J.heap.Ns VP mg)(O:J.heap.Ns builtinsNs c0)(J0:∀x:Str,x≠"__name__"->c0 x=xQ x)(j0:J.heap.NoLimit)(l0:J.gens=#[])
  (Y:J.heap.get? a=wP {cls:=.type "list",data:=.seq vs.toArray})(hi:qQ vs ns)(m0:ns.length<=DP)(n0:Wa k JR)
  (F:∀base:NP,K.In base->base.Ns VP mg->uc P w K mg base CX k U fd [x] sp)(o0:∀(s:zP)(u:xP),iR s fd ⟨[u],[]⟩ [(x,u)])
  (p0:∀H:Hp,Yv H->ia K H a (ns.map V.int)->sp [.ref a] H (λv _=>v=.bl CP) λ_ _ _=>False)
  (q0:∀H e s',CX [] H J (λ_ _ _=>False) e s'->False):
  codeAny (FP P w) JR (.call (.ref U) ⟨[.ref a],[]⟩) (λr s'=>r=.ok (.ret (.bool CP))/\OldK J.heap s'.heap/\s'.os=J.os/\vQ s'.gens) J:=by
 have r0:=Gz hi;have K0:=hi.length;have core:∀H:Hp,Yv H->ia K H a (ns.map V.int)->wc P w H J.heap->(∀b,H b≠yP->b=a)->(H a≠yP->K.lookup a=yP)->
   codeAny (FP P w) JR (.call (.ref U) ⟨[.ref a],[]⟩) (λr s'=>r=.ok (.ret (.bool CP))/\OldK J.heap s'.heap/\s'.os=J.os/\vQ s'.gens) J:=by
  intro H f0 s0 g0 L0 M0;have h0:∀{b:BP}{o:dQ},J.heap.get? b=wP o->H b=yP->(ck J.heap H).get? b=wP o:=λe n=>DE e n
  have t0:∀{b:BP}{o:dQ}{es:Array eQ}{ep:Nat},J.heap.get? b=wP o->o.data=.dict es ep->H b=yP:=λ{b o es ep}e d=>by
   grind
  have a0:∀{b:BP}{m:Str->Option xP},J.heap.Ns b m->(ck J.heap H).Ns b m:=λ{b m}⟨o,es,ep,e,d,r⟩=>nx7 o es ep (h0 e (t0 e d)) d r
  have i0:K.In (ck J.heap H):=λb o e=>h0 (d0 b o e) (by
   grind)
  have u0:Mod K mg (ck J.heap H):=⟨i0,a0 e0,by grind,by obtain⟨v0,w0,x0⟩:=j0;exact⟨v0,a0 w0,x0⟩⟩;have y0:yq P w K mg (ck J.heap H) JR [] J H:=⟨rfl,u0,λb o e=>EE e,Vj (BE _ _),trivial,λb O=>absurd (show b∈([]:List BP)from O) (by simp),g0,.of_eq l0⟩;refine kl ((F _ i0 (a0 e0)).run JR [] J H ⟨[.ref a],[]⟩ [.ref a] [.ref a] _ _ n0 y0 (o0 J (.ref a)) (.cons rfl .nil) (p0 H f0 s0)) λr s' h=>?_
  cases r with
  |error e=>exact(q0 H e s' h).elim
  |ok z0=>
   cases z0 with
   |next=>exact False.elim h
   |brk=>exact False.elim h
   |cont=>exact False.elim h
   |ret u=>
    obtain⟨v,H',os,A0,un,B0,C0,q⟩:=h;have D0:v=.bl CP:=q;subst D0;obtain rfl:u=Value.bool CP:=C0;refine⟨rfl,OldK.of_keep λb o e=>?_,os,A0⟩;cases q:H b with
    |none=>exact un.keep b o e q (by intro z;exact absurd (show b∈([]:List BP)from z) (by simp)) (by simp)
    |some u=>
     rcases f0 b with z|⟨F0,xs,z⟩
     ·simp_all
     ·have G0:=un.frzs b F0 _ z;obtain⟨N0,_⟩:=g0 b _ z;obtain⟨O0,_⟩:=B0 b _ G0
      simp_all
 cases b0:K.lookup a with
 |some o=>
  have e:=d0 a o b0;rw[Y]at e;cases e;refine core (λ_=>yP) (λ_=>.inl rfl) (.inr (nx6 _ vs.toArray _ b0 rfl rfl rfl ⟨by simp_all,by simp_all⟩)) (λb u z=>by contradiction) (by(intros;simp_all)) λz=>absurd rfl z
 |none=>
  refine core (λb=>if b=a then wP (.jd {cls:=.type "list",data:=.seq vs.toArray} (.lst (ns.map V.int)))else yP) (λb=>?_) (.inl (.inr ⟨{cls:=.type "list",data:=.seq vs.toArray},wa rfl⟩)) (λb u z=>?_) (λb z=>?_) λ_=>b0
  ·grind
  ·by_cases O:b=a
   ·have I0:=(wa O).symm.trans z;cases I0;subst O;exact⟨Y,by rw[pa];exact m0,nx0 vs _ r0 Y⟩
   simp_all
  simp_all
abbrev qP{K:W.Frag}{h:NP}(_:K.In h):W.Frag:=K
def Qf(s:hQ):Arguments:=match s with
 |.FunctionDef _ a _ _ _ _ _ _ _ _=>a
 |_=>{posonlyargs:=[],args:=[],vararg:=yP,kwonlyargs:=[],kw_defaults:=[],kwarg:=yP,defaults:=[]}
def Te(s:hQ):List hQ:=match s with
 |.FunctionDef _ _ b _ _ _ _ _ _ _=>b
 |_=>[]
def mc(s:hQ):rQ:=match s with
 |.FunctionDef _ _ _ _ _ _ J _ _ _=>J
 |_=>{kind:=.function,names:=[],isGenerator:=GP,isCoroutine:=GP}
abbrev Ge:Ni:=λ_ _ _ _ _ _=>False
abbrev E0:XK:=λ_ _ _=>False
def Zv:zq Ge X E0:=λ_ _ _ _ _ _ _ h=>h.elim
structure Wh(K:W.Frag)(x qual:Str)(st:hQ)(f:BP)(fd:aQ):Prop where
 ex:∃(oc:xP)(od:Option BP)(kV doc pm:xP)(an:Option BP)(Gq ct:xP)(aw:Array (Option xP)),
  fd=W.fnOf x qual (Qf st) (Te st) (mc st) .none kV doc pm an Gq ct/\K.lookup f=wP ⟨oc,od,.func fd,aw⟩/\W.codeIn K Gq qual=CP
 kp:W.keepIn K (.ref f)=CP
section
variable{P:HP}{w:KP}{K:W.Frag}{mg:Str->Option xP}{base:NP}
def Wh.ok{x O:Str}{st:hQ}{f:BP}{fd:aQ}{N U:List Str}{k:Nat}{sp:Sp}(F:Wh K x O st f fd)(S:Hm N U (mc st))(len:∀vs H Q E,sp vs H Q E->vs.length=U.length)
  (Y:∀(J:xP)(A:LP)(outer:List xR)(s:zP)(H:Hp)(vs:List V)(Q:VK)(E:XK),Wa k (A.deeper (gQ O (mc st) s.heap.objs.size f J))->sp vs H Q E->
   ∃t,De (Yd Ge P w K mg base N O (mc st) f J A outer s H E).Tg (Te st) t/\t {nx:=λ_ H'=>Q .Pa H',rt:=Q} (start N vs) H):uc P w K mg base Ge (k+1) f fd U sp:=by
 refine ea5 ?_ F.ex;rintro d0 e0 kV;refine eaG ?_;rintro f0 g0 h0 J ct i0 rfl lk a0;refine Rv lk a0 S len λA outer s H vs Q E b0 c0=>?_
 refine ea1 ?_ (Y J A outer s H vs Q E b0 c0);rintro t h q;exact⟨t,h.Tg,q⟩
def Wh.binds{st:hQ}(F:Wh K x b0 st f fd)
  (h:∀(kV J O:xP)(U:Option BP)(Y ct:xP)(us:List xP),us.length=a0.length->wR (W.fnOf x b0 (Qf st) (Te st) (mc st) .none kV J O U Y ct) ⟨us,[]⟩=pure (a0.zip us)):Td K fd a0 []:=by
 refine ea5 ?_ F.ex;rintro c0 d0 kV;refine eaG ?_;rintro J O U Y ct e0 rfl lk f0;exact .all (by(intros;simp_all))
def Hz{st:hQ}{kV U Y J ct:xP}(l:K.lookup f=wP ⟨b0,c0,.func (W.fnOf x O (Qf st) (Te st) (mc st) .none kV U Y a0 J ct),d0⟩)
  (c:W.codeIn K J O=CP)(k:W.keepIn K (.ref f)=CP):Wh K x O st f (W.fnOf x O (Qf st) (Te st) (mc st) .none kV U Y a0 J ct):=⟨by grind,k⟩
end
def Ue(J:Wa k A):A.units+1<MP:=Xn (by simp_all) J.units
section
variable{X:Cx}
def pv(i:Nat){pos:sQ}(J:X.N[i]?=wP x:=by rfl)(O:nq X.env.scope x:=by first|exact Or.inl rfl|exact Or.inr (Or.inl rfl)|exact Or.inr (Or.inr rfl))(U:(x==("__debug__":Str))=GP:=by decide)
  (Y:(x==("__classdict__":Str))=GP:=by decide):PE X (.Name x pos) (ro i):=Gy J O U Y
end
def ud{A B:Prop}(h:B):if GP=CP then A else B:=by
 assumption
def cf{A B:Prop}(h:A):if CP=CP then A else B:=by
 assumption
def nc{c A B:Prop}[Decidable c](J:c->A)(O:¬c->B):if c then A else B:=by
 simp_all
def aa(H H':Hp):Prop:=∀b o,H b=wP o->H' b=wP o
def aa.refl(H:Hp):aa H H:=λ_ _ h=>h
def aa.trans(a:aa H J)(b:aa J O):aa H O:=λc o h=>b c o (a c o h)
def aa.free(e:aa H H')(h:H' l=Option.none):H l=Option.none:=by
 cases q:H l with
 |none=>rfl
 |some o=>
  rw[e l o q]at h;cases h
def aa.seq{K:W.Frag}(e:aa H H')(h:ia K H a xs):ia K H' a xs:=by
 rcases h with(h|⟨o,h⟩)|h
 ·exact .inl (.inl (e _ _ h))
 ·exact .inl (.inr ⟨o,e _ _ h⟩)
 ·exact .inr h
section
variable{X:Cx}
def MG:Cf X (.builtin "len") (λxs H Q=>∃a J,xs=[V.ref a]/\H a=wP (.dK J)/\Q (.int J.length) H):=by
 intro a0 s b0 H xs us Q I r h;revert h;refine ea0 ?_;rintro a J rfl O q;obtain⟨u,rfl,U⟩:=gg r;cases U;exact pG I (.inl O) λt s' Y=>⟨.int J.length,H,Y,⟨t,rfl⟩,q⟩
end
end L2
namespace My
open PySem PySem.Spec PyProof.Rows L2
section
variable{X:Cx}
def Ho:Cf X (.builtin "isinstance") (λxs H Q=>∃x t c b,xs=[x,V.ty c]/\Se X.K H x t/\W.kitOne X.K t (.type c)=wP b/\Q (.bl b) H):=by
 intro Y s a0 H xs us Q I r h;revert h;refine eaE ?_;rintro x t c b rfl ty e q;refine ea0 ?_ (zo r);rintro u b0 rfl J O;cases O;exact yF I J ty e λU=>⟨.bl b,H,I.tok U,rfl,q⟩
end
section
variable{K:W.Frag}
def NG:W.kitOne K (.type "int") (.type "int")=wP CP:=by
 show(if(Value.type "int"==Value.type "int")=CP then wP CP else if W.kitMeta "int"=CP then(zQ "int").map (·.contains (Value.type "int"))else yP)=wP CP;decide+kernel
def OG:W.kitOne K (.type "int") (.type "bool")=wP GP:=by
 show(if(Value.type "int"==Value.type "bool")=CP then wP CP else if W.kitMeta "bool"=CP then(zQ "int").map (·.contains (Value.type "bool"))else yP)=wP GP;decide+kernel
def Iz:W.kitOne K (.type "str") (.type "str")=wP CP:=by
 show(if(Value.type "str"==Value.type "str")=CP then wP CP else if W.kitMeta "str"=CP then(zQ "str").map (·.contains (Value.type "str"))else yP)=wP CP;decide+kernel
def bw:W.kitOne K (.type "tuple") (.type "tuple")=wP CP:=by
 show(if(Value.type "tuple"==Value.type "tuple")=CP then wP CP else if W.kitMeta "tuple"=CP then(zQ "tuple").map (·.contains (Value.type "tuple"))else yP)=wP CP;decide+kernel
end
def Jz[DecidableEq U]:∀{O:List (U×xP)},(∀J∈O,∃y,sR Y J.1=wP y/\SeqAt.EqAt A s J.2 y CP)->W.KeqHits A s Y O CP
 |[],_=>.nil
 |(k,v)::r,h=>by
  obtain⟨y,e,q⟩:=h (k,v) (by simp_all);have t:=Jz λJ m=>h J (jb.mpr (Or.inr m))
  exact W.KeqHits.hit e q t
def jt{O:Type}[DecidableEq O]:∀{J:List (O×V)}{k:O}{v:V},(J.map (·.1)).Nodup->(k,v)∈J->Oa J k=wP v:=by
 intro J k v Y U;induction J with
 |nil=>cases U
 |cons p r a0=>
  obtain⟨d0,b0⟩:=Vc.mp Y;rcases jb.mp U with e|e
  ·subst e;exact Uh rfl
  ·have c0:¬p.1=k:=by grind
   rw[Vh c0];exact a0 b0 e
def QG(J:0<=i)(O:i<xs.length):∃v,Bd xs i=wP v:=by
 have e:hg xs.length i=wP i.toNat:=by
  unfold hg;rw[wa J,wa O]
 have U:i.toNat<xs.length:=by simp_all
 refine⟨xs[i.toNat],?_⟩;unfold Bd
 simp_all
def RG(h:Bd xs i=wP v):v∈xs:=by
 obtain⟨j,_,e,_⟩:=bt h;exact yb e
def _root_.L2.aa.upd(h:H p=yP):aa H (upd H p o):=λb u e=>by
 rw[oa (he e h)];exact e
def _root_.L2.aa.again(s:aa H H')(h:H p=yP):aa H (L2.upd H' p o):=λb u e=>by
 rw[oa (he e h)];exact s b u e
open Builtin.Int(intBits)
def Kz:∀{ns:List Int}{m:Int},m∈ns->intBits m<=W.WData.weightAll (ns.map W.WData.int)
 |n::r,m,h=>by
  rcases jb.mp h with e|e
  ·subst e;simp only[ed,W.WData.weightAll,W.WData.weight,Builtin.Int.intBits];lia
  ·have z:=Kz e;simp only[ed,W.WData.weightAll];lia
def UG{ns:List Int}(h:W.WData.layableAll [W.WData.list (ns.map .int)]=CP):∀m∈ns,intBits m<=1048576:=λm J=>by
 have O:=(W.layW_cons h).1;have U:=zc (Bool.and_eq_true_iff.mp O).2;have Y:=Kz J;have a0:W.WData.weight (.list (ns.map .int))=W.WData.weightAll (ns.map .int):=by simp only[W.WData.weight]
 lia
end My
namespace My
open PySem PySem.W PySem.Calls PyProof.Rows L2
def VG{l:W.OpenLaw}{n k:Nat}{q:HP}{Y:List Str}{a0:(Str->Option xP)->NP->Prop}{O:KP->NP->Prop}{d:DefRec}{K:Params->W.Frag}{CX:KP->Ni}{sp:KP->Sp}{x:Str}
  (b0:l.most=wP n)(x0:n<=DP)(y0:d.params.defaults=[])(c0:Wa k JR)
  (d0:∀(w:KP)(h:NP),O w h->(K w.params).In h)
  (F:∀(w:KP)(mg:Str->Option xP)(J:BP)(h:NP),(K w.params).In h->h.Ns VP mg->mg d.name=wP (.ref J)->
   ∃fd:aQ,(∀(s:zP)(u:xP),iR s fd ⟨[u],[]⟩ [(x,u)])/\
    ∀base:NP,(K w.params).In base->base.Ns VP mg->uc l.prog w (K w.params) mg base (CX w) k J fd [x] (sp w))
  (e0:∀(w:KP)(H:Hp)(a:BP)(ns:List Int),ns.length<=n->(∀m∈ns,Builtin.Int.intBits m<=1048576)->Yv H->ia (K w.params) H a (ns.map V.int)->sp w [.ref a] H (λv _=>v=.bl CP) λ_ _ _=>False)
  (z0:∀(w:KP)(H:Hp)(s:zP)(e:xP)(s':zP),CX w [] H s (λ_ _ _=>False) e s'->False):
  W.WalkO q Y a0 O l.row.toRowW d [] (λf vs=>PySem.call f vs):=by
 intro w s₀ A0 mg B0 G f0 J o C0 D0 F0 G0 kV I0 J0 K0 L0 g0 h0 args M0 as i0 j0 N0 l0 O0;refine eaF ?_ (Att.JG b0 i0 l0);rintro a vs ns rfl rfl m0 n0 o0;have U:=d0 w _ f0;refine ea1 ?_ (F w mg J _ U G.T.g g0);rintro fd p0 q0;refine enter_call (kl (LG U G.T.g G.T.b G.T.builtins G.T.nolimit h0 m0 n0 (by lia) c0 q0 p0 (λH r0 s0=>e0 w H a ns o0 (UG j0) r0 s0) (by(intros;simp_all))) λr s' t0=>?_);revert t0;refine ea6 ?_;rintro rfl u0 v0 w0;exact⟨.inl (nx6 (.bool CP) (.bool CP) ([]) rfl (λ_=>rfl) (.bool CP) (Att.KG l _) (by(intros;simp_all))),u0,v0,w0⟩
end My
namespace My
open PySem PySem.Spec PyProof.Rows L2
mutual
inductive Dt(K:W.Frag)(H:Hp):V->QP->Prop where
 |Pa:Dt K H .Pa .none
 |bl(b:Bool):Dt K H (.bl b) (.bool b)
 |int(i:Int):Dt K H (.int i) (.int i)
 |str(x:Str):Dt K H (.str x) (.str x)
 |lst{a:BP}{xs:List V}{ds:List QP}(h:ia K H a xs)(r:Ri K H xs ds):Dt K H (.ref a) (.list ds)
 |tup{a:BP}{xs:List V}{ds:List QP}(h:Ba K H a xs)(r:Ri K H xs ds):Dt K H (.ref a) (.tuple ds)
inductive Ri(K:W.Frag)(H:Hp):List V->List QP->Prop where
 |nil:Ri K H [] []
 |cons{x:V}{d:QP}{xs:List V}{ds:List QP}(h:Dt K H x d)(r:Ri K H xs ds):Ri K H (x::xs) (d::ds)
end
section
variable{X:Cx}{pins:List (BP×dQ)}{σ:L2.St}{H:Hp}{s:zP}
mutual
def Dt.reads(I:Inv X pins σ H s){v:V}{d:QP}(h:Dt X.K H v d){u:xP}(r:Ka v u):∃as,Reads s.heap u d as:=by
 cases h with
 |Pa=>cases r;exact⟨_,.none⟩
 |bl b=>cases r;exact⟨_,.bool b⟩
 |int i=>obtain⟨t,rfl⟩:=r;exact⟨_,.int i t⟩
 |str x=>obtain⟨t,rfl⟩:=r;exact⟨_,.str x t⟩
 |lst h q=>
  cases r;obtain⟨O,J,⟨o,n,e,c,_,dd⟩,_⟩:=I.list h;obtain⟨as,z⟩:=Ri.reads I q J;exact⟨_,.list e c dd (by simpa using z)⟩
 |tup h q=>
  cases r;obtain⟨O,J,⟨o,e,c,n,dd⟩,_⟩:=I.tuple h;obtain⟨as,z⟩:=Ri.reads I q J;exact⟨_,.tuple e c dd (by simpa using z)⟩
def Ri.reads(I:Inv X pins σ H s){vs:List V}{J:List QP}(h:Ri X.K H vs J){us:List xP}(r:Qa vs us):∃as,ReadsAll s.heap us J as:=by
 cases h with
 |nil=>cases r;exact⟨_,.nil⟩
 |cons h q=>
  cases r with
  |cons O U=>
   obtain⟨as,z⟩:=Dt.reads I h O;obtain⟨bs,y⟩:=Ri.reads I q U;exact⟨_,.cons z y⟩
end
end
section
variable{X:Cx}
inductive WG(K:W.Frag)(x y:V)(H:Hp)(Q:VK):Prop|mk(da db)(_:Dt K H x da)(_:Dt K H y db)(_:SeqAt.shaped da=CP)(_:SeqAt.shaped db=CP)(_:Q (.bl (PyData.eqv da db)) H)
inductive XG(K:W.Frag)(x y:V)(H:Hp)(Q:VK):Prop|mk(da db)(_:Dt K H x da)(_:Dt K H y db)(_:SeqAt.shaped da=CP)(_:SeqAt.shaped db=CP)(_:Q (.bl (!PyData.eqv da db)) H)
def YG(J:X.A.units+64<MP):Cc X (YP .Eq) (WG X.K):=by
 intro f0 s g0 H x y v u Q I O U h;obtain⟨h0,i0,Y,a0,b0,c0,q⟩:=h;obtain⟨as,d0⟩:=Y.reads I O;obtain⟨bs,e0⟩:=a0.reads I U;exact SeqAt.compareEq_shaped d0 e0 b0 c0 J ⟨.bl _,H,I,rfl,q⟩
def Lz(J:X.A.units+64<MP):Cc X (YP .NotEq) (XG X.K):=by
 intro f0 s g0 H x y v u Q I O U h;obtain⟨h0,i0,Y,a0,b0,c0,q⟩:=h;obtain⟨as,d0⟩:=Y.reads I O;obtain⟨bs,e0⟩:=a0.reads I U;exact SeqAt.compareNe_shaped d0 e0 b0 c0 J ⟨.bl _,H,I,rfl,q⟩
end
def kt(x:Rc P w H h a o):∃J,h.get? a=wP J:=by
 cases o with
 |lst xs=>revert x;refine ec6 ?_;rintro _ _ _ _ e;simp_all
 |tup xs=>obtain⟨_,_,_,J,e,_⟩:=x;simp_all
 |dK O=>revert x;refine ebF ?_;rintro _ _ _ _⟨o,_,_,e,_⟩;grind
 |dT O=>revert x;refine ebF ?_;rintro _ _ _ _⟨o,_,_,e,_⟩;grind
 |set S n=>revert x;refine ea5 ?_;rintro o _ _;refine ea1 ?_;rintro _ e _;grind
 |ins C U fs=>revert x;refine ebC ?_;rintro _ _ _ e _;simp_all
 |own y=>exact x
 |xd fs=>obtain⟨_,⟨_,_,_,e,_⟩,_⟩:=x;grind
 |Rs lo hi=>obtain⟨_,_,_,e⟩:=x;simp_all
 |jd J u=>obtain⟨e,_⟩:=x;grind
 |ql Y=>exact⟨_,‹_›⟩
 |met f y=>exact⟨_,‹_›⟩
 |ext a0=>obtain⟨_,e,_⟩:=x;exact e
section
variable{X:Cx}{pins:List (BP×dQ)}{σ:L2.St}{H:Hp}{s:zP}
def Pm(I:Inv X pins σ H s)(h:s.heap.get? D=yP):H D=yP:=by
 cases q:H D with
 |none=>rfl
 |some u=>
  obtain⟨J,e⟩:=kt (I.za D u q)
  simp_all
end
def Rf:∀{xs:List V}{us:List xP}{i:Nat}{u:xP},Qa xs us->us[i]?=wP u->∃x,xs[i]?=wP x/\Ka x u
 |_,_,_,_,.nil,e=>by simp at e
 |_,_,0,_,.cons r _,e=>by simp_all
 |_,_,i+1,u,.cons _ t,e=>by
  refine ea1 ?_ (Rf (i:=i) (u:=u) t (by simpa using e));rintro x J O
  simp_all
def nt(o:dQ):Option xP:=match o.data with
 |.fields vs=>vs[2]?
 |_=>yP
abbrev ot(a b:dQ):Prop:=a.dict=b.dict/\nt a=nt b
inductive gb{α:Type}:SR α->Prop
 |pure(a:α):gb (.pure a)
 |raise(e:xP):gb (.raise e)
 |stop(x:String):gb (.unsupported x)
 |rule{t k}:(∀u,gb (k u))->gb (.rule t k)
 |at{p k}:(∀u,gb (k u))->gb (.at p k)
 |load{a p k}:(∀o,gb (k o))->gb (.load a p k)
 |update{a p f k}:(∀o:dQ,ot (f o) o/\(o.isFreed=GP->(f o).isFreed=GP))->(∀u,gb (k u))->gb (.update a p f k)
 |alloc{o k}:(∀a,gb (k a))->gb (.alloc o k)
 |point{l k}:(∀u,gb (k u))->gb (.point l k)
 |fresh{k}:(∀u,gb (k u))->gb (.fresh k)
 |stack{k}:(∀u,gb (k u))->gb (.stack k)
def gb.bind{f:α->SR β}(h:gb t)(O:∀a,gb (f a)):gb (t>>=f):=by
 induction h with
 |pure a=>exact O a
 |raise e=>exact .raise e
 |stop x=>exact .stop x
 |rule _ J=>exact .rule J
 |«at»_ J=>exact .at J
 |load _ J=>exact .load J
 |update h _ J=>exact .update h J
 |alloc _ J=>exact .alloc J
 |point _ J=>exact .point J
 |fresh _ J=>exact .fresh J
 |stack _ J=>exact .stack J
def DK(h h':NP):Prop:=∀b o,h.get? b=wP o->∃J,h'.get? b=wP J/\ot J o
def DK.refl(h:NP):DK h h:=λ_ o e=>⟨o,e,rfl,rfl⟩
def DK.trans(x:DK J O)(y:DK O U):DK J U:=λb o e=>by obtain⟨Y,a0,b0⟩:=x b o e;obtain⟨c0,d0,e0⟩:=y b Y a0;grind
def DK.upd(J:∀o:dQ,ot (f o) o/\(o.isFreed=GP->(f o).isFreed=GP)):DK h (h.update a f):=λb o e=>by
 by_cases q:b=a
 ·subst q;exact⟨f o,zi _ e ((J o).2 (Heap.get?_some_iff.mp e).2),(J o).1⟩
 ·exact⟨o,(Heap.get?_update_ne _ _ _ _ q).trans e,rfl,rfl⟩
def ZG{t:SR α}(c:gb t):∀{Q:α->sQ->zP->Prop}{E:xP->sQ->zP->Prop}{p:sQ}{s:zP},
  Sem.wp M U t Q E p s->Sem.wp M U t (λa O s'=>Q a O s'/\DK s.heap s'.heap) (λe O s'=>E e O s'/\DK s.heap s'.heap) p s:=by
 induction c with
 |pure a=>intro Q E p s h;exact⟨h,.refl _⟩
 |raise e=>intro Q E p s h;exact⟨h,.refl _⟩
 |stop x=>intro Q E p s h;exact h
 |rule _ J=>intro Q E p s h;exact J () h
 |«at»_ J=>intro Q E p s h;exact J () h
 |load _ J=>intro Q E p s h;obtain⟨o,e,h⟩:=h;exact⟨o,e,J o h⟩
 |update Y _ J=>
  intro Q E p s h;obtain⟨e,h⟩:=h;refine⟨e,?_⟩;exact Sem.wp_mono M U _ (by rintro a O s' ⟨q,d⟩;exact⟨q,DK.trans (DK.upd Y) d⟩) (by rintro e O s' ⟨q,d⟩;exact⟨q,DK.trans (DK.upd Y) d⟩) _ _ (J () h)
 |alloc _ J=>intro Q E p s h;exact Sem.wp_mono M U _ (λa O s' ⟨q,d⟩=>⟨q,DK.trans (λb o e=>⟨o,Ta _ e,rfl,rfl⟩) d⟩) (λe O s' ⟨q,d⟩=>⟨q,DK.trans (λb o e=>⟨o,Ta _ e,rfl,rfl⟩) d⟩) _ _ (J _ h)
 |point _ J=>intro Q E p s h;exact J () h
 |fresh _ J=>intro Q E p s h;exact J _ h
 |stack _ J=>intro Q E p s h;exact J _ h
def Mz(c:gb t)(h:wpAny M A t Q E s):
  wpAny M A t (λa s'=>Q a s'/\DK s.heap s'.heap) (λe s'=>E e s'/\DK s.heap s'.heap) s:=λJ p O=>ZG c (h J p O)
def cw(a:BP):gb (load a):=.load λ_=>.pure _
def aH(v:xP):gb (fieldsOf v):=by
 unfold fieldsOf;cases v<;>first|exact .stop _|skip
 refine gb.bind (cw _) λo=>?_
 split<;>first|exact .stop _|exact .pure _
def qt(v:xP)(i:Nat):gb (field v i):=by
 unfold field;refine gb.bind (aH _) λvs=>?_
 split<;>first|exact .stop _|exact .pure _
def bH{i:Nat}(x:xP)(hi:i≠2)(o:dQ):ot (Obj.mapFields (·.setIfInBounds i x) o) o/\(o.isFreed=GP->(Obj.mapFields (·.setIfInBounds i x) o).isFreed=GP):=by
 obtain⟨c,d,J,O⟩:=o;cases J<;>first|exact⟨⟨rfl,rfl⟩,λh=>h⟩|exact⟨⟨rfl,Array.getElem?_setIfInBounds_ne hi⟩,λh=>h⟩
def dw(v:xP)(i:Nat)(x:xP)(hi:i≠2:=by decide):gb (WQ v i x):=by
 unfold WQ;cases v<;>first|exact .stop _|skip
 show gb (updateField _ _ _);unfold updateField;refine gb.bind (cw _) λo=>?_
 split
 ·split
  ·exact .update (bH _ hi) λ_=>.pure _
  ·exact .stop _
 ·exact .stop _
def cH(e:xP)(f:Option BP):gb (setFlight e f):=by
 unfold setFlight;refine gb.bind (qt _ _) λJ=>?_
 split
 ·exact dw _ _ _
 ·exact .pure _
def dH:gb underTheClaimsCaller:=.stack λ_=>.pure _
def Nz:∀l:List xR,gb (readyFrames l)
 |[]=>.pure _
 |env::outer=>by
  unfold readyFrames;split
  ·refine gb.bind (cw _) λo=>?_
   split
   ·exact .pure _
   ·refine gb.bind ?_ λimp=>gb.bind ?_ λO=>gb.bind ?_ λ_=>Nz outer
    ·unfold behindIsImport;split
     ·exact .pure _
     ·split
      ·exact .pure _
      ·exact gb.bind (qt _ _) λ_=>.pure _
    ·unfold keptBack;split
     ·split
      ·exact .pure _
      ·exact gb.bind dH λ_=>.pure _
     ·exact .pure _
    ·refine .update (λo=>⟨⟨rfl,rfl⟩,λh=>?_⟩) λ_=>.pure _
     obtain⟨c,d,J,U⟩:=o;cases J<;>exact h
  ·exact .stop _
def eH(env:xR):gb (PySem.frameOf env):=by
 unfold PySem.frameOf;refine gb.bind (.stack λ_=>.pure _) λl=>gb.bind ?_ λr=>?_
 ·unfold frameObject;split
  ·exact .pure _
  ·exact gb.bind (Nz _) λ_=>.pure _
 ·split
  ·exact .pure _
  ·exact .stop _
def Oz(J:String)(O:Data):gb (newObjAsIs (.type J) O):=.alloc λ_=>.pure _
def fH(J:String)(vs:List xP):gb (newFields J vs):=by
 unfold newFields newObj;dsimp only;split
 ·exact gb.bind (.stop _) λ_=>Oz _ _
 ·exact Oz _ _
def gH(a b c d e:xP)(pl:List xP):gb (EntryCells.newEntry a b c d e pl):=fH _ _
def hH(f:BP)(b:Bool):gb (bS f b):=by
 unfold bS;refine gb.bind (.stack λ_=>.pure _) λJ=>?_
 split<;>exact .pure _
def iH(e:xP)(env:xR):gb (noteFrame e env):=by
 unfold noteFrame;have O:∀(f:BP)(J:xP),gb (do WQ e 1 (<-EntryCells.newEntry J (<-PySem.frameOf env) .none (ZP f) .none (<-bS f (J !=.none)))):=λf J=>
  gb.bind (eH _) λa=>gb.bind (hH _ _) λpl=>gb.bind (gH _ _ _ _ _ _) λb=>dw _ _ _
 split
 ·refine gb.bind (qt _ _) λJ=>?_
  split
  ·refine gb.bind (qt _ _) λx=>?_
   split
   ·exact .pure _
   ·exact gb.bind (dw _ _ _) λ_=>O _ _
  ·exact O _ _
 ·exact .stop _
def Pz(e:xP)(env:xR):gb (leaving env e):=gb.bind (iH _ _) λ_=>cH _ _
def ae(P:HP)(w:KP):Ni:=λouter H s E e s' =>
 ∃(J:BP)(cls O:xP)(B:NP)(H':Hp)(d:Option BP),e=.ref J/\s'.os=s.os/\vQ s'.gens/\Un (xc outer) [] H H' s.heap s'.heap/\wc P w H' s'.heap/\Heap.FlyingW B outer J cls O s'.heap/\
  (∀b o,s'.heap.get? b=wP o->(s.heap.get? b≠yP\/H' b≠yP)->b∉xc outer->B.get? b=wP o)/\H' J=yP/\s.heap.get? J=yP/\(∃o,s'.heap.get? J=wP o/\o.dict=d/\(nt o=wP .none\/∀d',E cls d' H'))/\E cls d H'
section
variable{X:Cx}{pins:List (BP×dQ)}{σ:L2.St}{H H':Hp}{s:zP}{h1 h2 B:NP}
def jH(I:Inv X pins σ H s):∀b∈xc X.stack,∃o,s.heap.get? b=wP o:=λb J=>by obtain⟨_,o,e,_⟩:=I.stack.mem J;exact⟨o,e⟩
def ew(I:Inv X pins σ H s)(un:Un (xc X.stack) [] H H' s.heap h1)(b0:wc X.prog X.w H' h1)(bk:∀b o,h1.get? b=wP o->(s.heap.get? b≠yP\/H' b≠yP)->b∉xc X.stack->B.get? b=wP o)
  (i0:∀b o,B.get? b=wP o->h2.get? b=wP o)(c0:h1.UpToSlots h2)(d0:∀b∈xc X.stack,∃o,h1.get? b=wP o/\∀vs,o.data≠.fields vs):
  Un (xc X.stack) [] H H' s.heap h2/\wc X.prog X.w H' h2/\(∀b o,h2.get? b=wP o->(s.heap.get? b≠yP\/H' b≠yP)->b∉xc X.stack->B.get? b=wP o)/\∀b∈xc X.stack,H' b=yP:=by
 have e0:∀b∈xc X.stack,H' b=yP:=λb J=>by
  obtain⟨o,e⟩:=jH I b J;exact un.free b o e (I.lf b J) (by simp)
 have keep:∀b o,h1.get? b=wP o->(s.heap.get? b≠yP\/H' b≠yP)->b∉xc X.stack->h2.get? b=wP o:=by(intros;simp_all)
 refine⟨⟨λb o e n J _=>?_,λb o e n J _=>?_,un.free,λb o e _=>?_,un.tups,un.frzs,un.tbls⟩,λa o e=>?_,λb o e k n=>?_,e0⟩
 ·exact keep b o (un.keep b o e n J (by simp)) (by simp_all) J
 ·obtain⟨j0,U⟩:=un.slot b o e n J (by simp);obtain⟨Y,O,a0⟩:=d0 b J;rw[U]at O;cases O;obtain⟨f0,g0⟩:=c0 b _ U a0
  grind
 ·obtain⟨Y,U⟩:=un.there b o e (by simp);by_cases J:b∈xc X.stack
  ·obtain⟨l0,O,a0⟩:=d0 b J;obtain⟨f0,g0⟩:=c0 b _ O a0
   simp[*]
  simp[*]
 ·refine(b0 a o e).Dd (λb u J q=>keep b u q (.inr ?_) (λz=>?_)) (λ_ q=>q) λ_ _ q=>q
  ·lia
  simp_all
 ·have m0:∃Y,h1.get? b=wP Y:=by
   rcases k with k|k
   ·cases q:s.heap.get? b with
    |none=>contradiction
    |some h0=>exact un.there b h0 q (by simp)
   ·cases q:H' b with
    |none=>contradiction
    |some u=>exact kt (b0 b u q)
  grind
end
section
variable{P:HP}{w:KP}{K:W.Frag}{mg:Str->Option xP}{base:NP}{N:List Str}{qual:Str}{scope:rQ}{f:BP}{cd:xP}{A:LP}{outer:List xR}{s₀:zP}{H₀:Hp}{E:XK}
 {pins:List (BP×dQ)}{σ:L2.St}{H H':Hp}{s:zP}
def Qz{s1:zP}(I:Inv (Yd (ae P w) P w K mg base N qual scope f cd A outer s₀ H₀ E) pins σ H s)(g0:s1.os=s.os)(J:vQ s1.gens)
  (un:Un (xc (gQ qual scope s₀.heap.objs.size f cd::outer)) [] H H' s.heap b0)(h0:wc P w H' b0)
  (bk:∀b o,b0.get? b=wP o->(s.heap.get? b≠yP\/H' b≠yP)->b∉xc (gQ qual scope s₀.heap.objs.size f cd::outer)->B.get? b=wP o)
  (e0:Heap.FlyingW B outer U cls i0 d0)(j0:b0.UpToSlots d0)(l0:∀b∈xc (gQ qual scope s₀.heap.objs.size f cd::outer),∃o,b0.get? b=wP o/\∀vs,o.data≠.fields vs)
  (m0:H' U=yP)(t0:s.heap.get? U=yP)(dd:∃o,d0.get? U=wP o/\o.dict=d/\(nt o=wP .none\/∀d',E cls d' H'))(n0:E cls d H'):ae P w outer H₀ s₀ E (.ref U) {s1 with heap:=d0}:=by
 refine ea6 ?_ (ew I un h0 bk e0.1 j0 l0);rintro Y o0 p0 u0;have sub:∀b∈xc outer,b∈xc (gQ qual scope s₀.heap.objs.size f cd::outer):=λb J=>by
  obtain⟨env,v0,w0⟩:=Uk.mp J;exact Uk.mpr (by grind)
 have f0:∀b o,s₀.heap.get? b=wP o->b∉xc outer->b∉xc (gQ qual scope s₀.heap.objs.size f cd::outer):=λb o e J q0=>by
  rcases jb.mp (I.jf b q0)with z|z
  ·exact absurd (Vd (Xa e) (z▸I.ok.above)) (Wj _)
  ·exact J z
 refine nx8 U cls (nx16 i0 B H' d rfl (g0.trans I.os) J ⟨λb o e n J _=>?_,λb o e n J _=>?_,λb o e n _=>?_,λb o e _=>?_,λb xs e=>Y.tups b xs (I.base.tups b xs e),λb o u e=>Y.frzs b o u (I.base.frzs b o u e),λb r0 e=>?_⟩ o0 e0 (λb o e k J=>?_) m0 ⟨?_,dd,n0⟩)
 ·exact Y.keep b o (I.base.keep b o e n J (by simp[Yd])) (I.base.free b o e n (by simp[Yd])) (f0 b o e J) (by simp)
 ·obtain⟨x0,O⟩:=I.base.slot b o e n J (by simp[Yd]);obtain⟨y0,s0⟩:=Y.slot b _ O (I.base.free b o e n (by simp[Yd])) (sub b J) (by simp)
  grind
 ·obtain⟨a0,O⟩:=I.base.there b o e (by simp[Yd]);exact Y.free b a0 O (I.base.free b o e n (by simp[Yd])) (by simp)
 ·obtain⟨a0,O⟩:=I.base.there b o e (by simp[Yd]);exact Y.there b a0 O (by simp)
 ·obtain⟨z0,O⟩:=I.base.tbls b r0 e;obtain⟨A0,s0⟩:=Y.tbls b _ O
  grind
 ·rcases k with k|k
  ·cases q:s₀.heap.get? b with
   |none=>contradiction
   |some c0=>
    obtain⟨a0,O⟩:=I.base.there b c0 q (by simp[Yd]);exact p0 b o e (by grind) (f0 b c0 q J)
  grind
 ·cases q:s₀.heap.get? U with
  |none=>rfl
  |some c0=>
   obtain⟨a0,O⟩:=I.base.there U c0 q (by simp[Yd])
   simp_all
def kH(I:Inv (Yd (ae P w) P w K mg base N qual scope f cd A outer s₀ H₀ E) pins σ H s)(J:Heap.MadeExcOf s.heap a0 b0 cls vs)(e0:E cls yP H):
  (Yd (ae P w) P w K mg base N qual scope f cd A outer s₀ H₀ E).xe (.ref b0) {s with heap:=a0}:=by
 have f0:∀env∈(gQ qual scope s₀.heap.objs.size f cd::outer),∀b,env.frame=wP b->b∈xc (gQ qual scope s₀.heap.objs.size f cd::outer):=λenv g0 b c0=>Uk.mpr ⟨env,g0,c0⟩
 have h0:=W.funFrames_hide I.stack f0;refine Pc (Mz (Pz _ _) (wpAny_leaves_madeW (Q:=λ_ s'=>∃U t,s'={s with heap:=U}/\Heap.FlyingW (W.hideAll s.heap (xc (gQ qual scope s₀.heap.objs.size f cd::outer))) outer b0 cls (.ref t) U/\a0.UpToSlots U)
  (base:=W.hideAll s.heap (xc (gQ qual scope s₀.heap.objs.size f cd::outer))) (h:=s.heap) I.ok.frames rfl (λb o q=>W.of_hideAll _ q) h0 J (by grind))) (λ_ s' ⟨⟨U,t,e,i0,j0⟩,l0⟩=>?_) λ_ _ z=>z.1
 subst e;obtain⟨t',m0,_⟩:=J.there;refine Qz (s1:={s with heap:=a0}) I rfl I.bare (Un.kept λb u q=>J.keeps b u q) (I.za.kept λb u q=>J.keeps b u q) (λb o e k n=>?_) i0 j0 (λb c0=>?_) (Pm I J.new) J.new (by obtain⟨O,q1,q2⟩:=l0 b0 _ m0;exact⟨O,q1,q2.1,.inl (q2.2.trans rfl)⟩) e0
 ·have Y:∃O,s.heap.get? b=wP O:=by
   rcases k with k|k
   ·cases q:s.heap.get? b with
    |none=>contradiction
    |some o0=>grind
   ·cases q:H b with
    |none=>contradiction
    |some u=>exact kt (I.za b u q)
  obtain⟨O,Y⟩:=Y;have d0:=J.keeps b O Y;rw[e]at d0;cases d0;exact W.hideAll_get _ Y n
 ·refine eb5 ?_ (I.stack.mem c0);rintro _ o e n0;exact⟨o,J.keeps b o e,n0⟩
def Qm(a0:∀cls d H',b0 cls d H'->E cls d H'):zq (ae P w) (Yd (ae P w) P w K mg base N qual scope f cd A outer s₀ H₀ E) b0:=by
 intro pins σ H s e s' I h;revert h;refine ec4 ?_;rintro O cls c0 B H' d rfl os d0 un e0 U bk;refine ea6 ?_;rintro f0 g0⟨o,h0,o0⟩i0;refine Pc (Mz (Pz _ _) (wpAny_leaves_onW (Q:=λ_ Y=>∃J,Y={s' with heap:=J}/\Heap.FlyingW B outer O cls c0 J/\s'.heap.UpToSlots J) I.ok.frames rfl U (by(intros;simp_all)))) (?_) λ_ _ z=>z.1
 rintro _ Y⟨⟨J,e,j0,l0⟩,m0⟩;subst e;obtain⟨p0,q0,r0⟩:=m0 O o h0;exact Qz (s1:=s') I os d0 un e0 bk j0 l0 (λb n0=>(U.2.2.1.mem n0).2) f0 g0 (by grind) (a0 _ _ _ i0)
def Rz{x qual:Str}{st:hQ}{f:BP}{fd:aQ}{N O:List Str}{k:Nat}{sp:Sp}(F:Wh K x qual st f fd)(S:Hm N O (mc st))(len:∀vs H Q E,sp vs H Q E->vs.length=O.length)
  (U:∀(J:xP)(A:LP)(outer:List xR)(s:zP)(H:Hp)(vs:List V)(Q:VK)(E:XK),Wa k (A.deeper (gQ qual (mc st) s.heap.objs.size f J))->sp vs H Q E->
   ∃t,De (Yd (ae P w) P w K mg base N qual (mc st) f J A outer s H E) (Te st) t/\t {nx:=λ_ H'=>Q .Pa H',rt:=Q} (start N vs) H):uc P w K mg base (ae P w) (k+1) f fd O sp:=by
 refine ea5 ?_ F.ex;rintro c0 d0 kV;refine eaG ?_;rintro e0 f0 g0 J ct h0 rfl lk Y;exact Rv lk Y S len λA outer s H vs Q E a0 b0=>U J A outer s H vs Q E a0 b0
structure Sz(K:W.Frag)(mg:Str->Option xP)(x:Str)(C:BP):Prop where
 bound:mg x=wP (.ref C)
 ok:W.excIn K C [.type "ValueError",.type "Exception",.type "BaseException",.type "object"] "ValueError.__new__"=CP
end
def lH{K:W.Frag}(q:W.excIn K C O U=CP):
  ∃bm N nm Y bs a0 sn sub ab col dd k0 k1 k2 k3 k5,K.lookup C=wP (excClassObj nm Y C N bs bm a0 sn sub ab col dd k0 k1 k2 k3 k5 U)/\W.tailIn K O bm=CP/\W.nsOkIn K N=CP/\W.nsIn K N "__init__"=wP yP:=by
 refine Oh λG=>?_
 unfold W.excIn at q;cases lk:K.lookup C with
 |none=>rw[lk]at q;exact pc q
 |some o=>
  rw[lk]at q;obtain⟨cls,dd,pl,⟨b0⟩⟩:=o;cases cls;case type s=>
   by_cases J:s="type"
   ·subst J;cases pl;case cls c0=>
     obtain⟨n0,o0,d0,p0,q0,r0,s0,t0,u0,v0,w0⟩:=c0;cases d0;case cons v bm=>
      cases v;case ref x0=>
       rcases b0 with _|⟨e0,_|⟨f0,_|⟨g0,_|⟨h0,_|⟨_|(_|_|_|_|_|_|_|_|_|n|_),_|⟨i0,_|⟨_,_⟩⟩⟩⟩⟩⟩⟩<;>try exact pc q
       simp only[ak,beq_iff_eq,Bool.not_eq_true']at q;obtain⟨⟨⟨⟨⟨rfl,rfl⟩,rfl⟩,j0⟩,l0⟩,m0⟩:=q;exact G ⟨bm,_,_,_,_,_,_,_,_,_,dd,e0,f0,g0,h0,i0,lk,j0,l0,m0⟩
      all_goals exact pc q
     all_goals exact pc q
    all_goals exact pc q
   ·delta W.excIn.match_6 at q;have q:=(dif_neg J).symm.trans q;exact pc q
  all_goals exact pc q
def mH{K:W.Frag}(X:K.In h)(q:W.excIn K C Y a0=CP):
  ∃bm N nm J bs O sn sub ab col dd k0 k1 k2 k3 k5,∃mN:Str->Option xP,h.get? C=wP (excClassObj nm J C N bs bm O sn sub ab col dd k0 k1 k2 k3 k5 a0)/\h.Ns N mN/\mN "__init__"=yP/\OwnTail h Y bm:=by
 refine ec1 ?_ (lH q);rintro bm N nm J bs O sn sub ab col dd k0;refine eaE ?_;rintro k1 k2 k3 k5 lk b0 U c0;exact nx8 bm N (nx13 nm J bs O sn sub ab col dd (nx15 k0 k1 k2 k3 k5 (h.nsMap N) (X _ _ lk) (.of_isNs (W.isNs_of_in X U)) (W.nsMap_none_of_in X U c0) (W.tail_of_in X b0)))
section
variable{P:HP}{w:KP}{K:W.Frag}{mg:Str->Option xP}{base:NP}{N:List Str}{qual:Str}{scope:rQ}{f:BP}{cd:xP}{A:LP}{outer:List xR}{s₀:zP}{H₀:Hp}{E:XK}
def nH{x:Str}{C:BP}{J:UP}{a0:TE}{e0 O pos:sQ}(T:Sz K mg x C)(f0:Gl (Yd (ae P w) P w K mg base N qual scope f cd A outer s₀ H₀ E) x)
  (g0:PE (Yd (ae P w) P w K mg base N qual scope f cd A outer s₀ H₀ E) J a0)(hd:(x==("__debug__":Str))=GP:=by decide)
  (b0:cQ O (JP [J] (gQ qual scope s₀.heap.objs.size f cd))=[(GP,XP J (gQ qual scope s₀.heap.objs.size f cd))]:=by rfl):
  PS (Yd (ae P w) P w K mg base N qual scope f cd A outer s₀ H₀ E) (.Raise (wP (.Call (.Name x e0) [J] [] O)) yP pos) (λ_ Y H=>a0 Y H λ_ c0=>E (.ref C) yP c0):=by
 constructor;intro h0 s Y H D I h;refine ec1 ?_ (mH I.ok.mod.ko T.ok);rintro bm i0 nm j0 bs l0 sn sub ab col dd k0;refine ebD ?_;rintro k1 k2 k3 k5 mN m0 n0 o0 d0;refine wpAny_Raise_call_subT (C:=C) (nm:=nm) (q:=j0) (N:=i0) (bs:=bs) (bm:=bm) (hdct:=l0) (sn:=sn) (sub:=sub) (ab:=ab) (col:=col) (dd:=dd) (k0:=k0) (k1:=k1) (k2:=k2) (k3:=k3) (k5:=k5)
  F.excBase_ValueError (mN:=mN) (d0.hasType F.excBase_ValueError.hasBase) (I.ok.hd rfl) ?_ o0 (vm I f0 T.bound ⟨rfl,?_⟩ hd)
 ·show(cQ O (JP [J] (gQ qual scope s₀.heap.objs.size f cd))).any (·.1)=GP;rw[b0];rfl
 ·show wpAny _ _ (evalArgs (.ref C) CP (cQ O (JP [J] (gQ qual scope s₀.heap.objs.size f cd))) []) _ _ _;rw[b0];refine Ep (xj (Aa (g0 h0 s Y H _ I h) ?_));rintro u s1⟨v,c0,U,q0,q1⟩;refine Wl ?_;refine⟨rfl,Qd,U.bk _ _ m0,n0.keeps U.bk,d0.keeps U.bk,λh' r0 p0=>kH U p0 q1⟩
end
section
variable{X:Cx}
abbrev Hq(X:Cx)(J:BP):Cx:={X with A:=X.A.mark (wP (.ref J)),calm:=GP,xe:=λ_ _=>False}
def Tz{J:L2.St}(I:Inv X O J H s)(U:BP):Inv (Hq X U) O J H s:=
 ⟨⟨I.ok.mod,I.ok.kind,I.ok.glob,I.ok.blt,I.ok.above,I.ok.inj,I.ok.has,I.ok.oo,(λz=>nomatch z),I.ok.frames,I.ok.oq,I.ok.pq,I.ok.bs,I.ok.Cj,I.ok.uh,I.ok.vh,I.ok.Ed,I.ok.vl⟩,I.os,I.bare,I.base,I.loc,I.cell,I.free,I.Bb,I.pin,I.za,I.len⟩
def ut{J:L2.St}(ok:X.Ok)(I:Inv (Hq X U) O J H s):Inv X O J H s:=
 ⟨ok,I.os,I.bare,I.base,I.loc,I.cell,I.free,I.Bb,I.pin,I.za,I.len⟩
def oH(ok:X.Ok)(h:SP (Hq X Y) U D O s):SP X U D O s:=by
 cases O with
 |next=>obtain⟨J,H',I,q⟩:=h;exact nx0 J H' (ut ok I) q
 |brk=>obtain⟨J,H',I,q⟩:=h;exact nx0 J H' (ut ok I) q
 |cont=>obtain⟨J,H',I,q⟩:=h;exact nx0 J H' (ut ok I) q
 |ret u=>obtain⟨v,J,H',I,r,q⟩:=h;exact nx7 v J H' (ut ok I) r q
def Io:Al X (λx lo hi H Q=>∃z:Str,x=.str z/\z.length<=DP/\Q (.str (Txt.slice z lo hi)) H):=by
 intro a0 s b0 H x v d0 e0 lo hi f0 Q I c0 J pl U h;revert h;refine ea7 ?_;rintro z rfl hz q;obtain⟨t,rfl⟩:=c0;refine nx5 ("str") _ F.slot_str_getitem.lookup (typeIs_str _ _ _) ?_;have fin:∀lo hi,Q (.str (Txt.slice z lo hi)) H->(Txt.slice z lo hi).length<=DP/\∀(t':Tok)(k:Nat),EP X a0 b0 Q (.str (Txt.slice z lo hi) t') {s with toks:=k}:=λlo hi q=>
  ⟨Nb (Txt.slice_le z _ _) hz,λt' k=>⟨.str _,H,I.tok _,⟨_,rfl⟩,q⟩⟩
 cases pl with
 |none=>
  cases U with
  |none=>exact Qs (l:=yP) (u:=yP) (st:=yP) J rfl (QQ (fin _ _ q))
  |int j O=>exact Qs (l:=yP) (u:=wP (j,O)) (st:=yP) J rfl (QQ (fin _ _ q))
 |int i Y=>
  cases U with
  |none=>exact Qs (l:=wP (i,Y)) (u:=yP) (st:=yP) J rfl (QQ (fin _ _ q))
  |int j O=>exact Qs (l:=wP (i,Y)) (u:=wP (j,O)) (st:=yP) J rfl (QQ (fin _ _ q))
def pH{O:L2.St}(I:Inv X Y O H s)(k:∀b u,s.heap.get? b=wP u->h'.get? b=wP u)(a0:s.heap.get? D=yP)
  (c0:Rc X.prog X.w (upd H D o) h' D o):Inv X Y O (upd H D o) {s with heap:=h',toks:=t'}:=by
 have J:=Pm I a0;have b0:∀b u,s.heap.get? b=wP u->b≠D:=λb u e z=>by simp_all
 refine I.un ⟨by(intros;simp_all),λb u q _ _ _=>⟨u.slots,k b u q⟩,λb u q n _=>by rw[oa (b0 b u q)];exact n,by(intros;simp_all),λb xs q=>by rw[oa (he q J)];exact q,
  λb u xs q=>by rw[oa (he q J)];exact q,λb d0 q=>⟨#[],by rw[oa (he q J),q];simp⟩⟩ λb u e=>?_
 by_cases U:b=D
 ·subst U;rw[la]at e
  simp_all
 ·rw[oa U]at e;exact(I.za b u e).Dd (by(intros;simp_all)) (λc q=>by rw[oa (he q J)];exact q) λc xs q=>by rw[oa (he q J)];exact q
end
open PySem.NumText
def dig(c:Nat):Bool:=decide (48<=c/\c<=57)
def Iq:List Nat->List Nat
 |[]=>[]
 |c::r=>if c=45 then r else c::r
def vt:List Nat->Bool
 |[]=>GP
 |c::r=>!decide (c=48)&&(decide ((c::r).length<=30)&&(c::r).all dig)
def fw(J:List Nat):Bool:=decide (J=[48])||vt (Iq J)
def qH:List Nat->Bool
 |[c]=>decide (97<=c/\c<=122)
 |_=>GP
def rH:List Nat->Int
 |[]=>0
 |c::r=>if c=45 then-((digitsVal r:Nat):Int)else((digitsVal (c::r):Nat):Int)
def sH(h:J.all dig=CP):AllDigits J:=λc O=>zc (List.all_eq_true.mp h c O)
def tH(h:AllDigits J):J.all dig=CP:=List.all_eq_true.mpr λc O=>zb (h c O)
def Uz(x:Str):x.length=x.cps.toList.length:=by simp[Str.length]
def Vz:∀(J:List Nat)(a:Nat),AllDigits J->J.foldl (λO c=>O*10+(c-48)) a<(a+1)*10^J.length
 |[],a,_=>by simp
 |c::r,a,h=>by
  have U:=Vz r (a*10+(c-48)) h.tail;have Y:=h.head;rw[List.foldl_cons,Od,Nat.pow_succ];have a0:(a*10+(c-48)+1)*10^r.length<=((a+1)*10)*10^r.length:=Nat.mul_le_mul_right _ (by grind)
  grind
def Wz(m:Nat):AllDigits ((Nat.toDigits 10 m).map Char.toNat):=by
 intro c J;obtain⟨ch,O,e⟩:=Ya.mp J;rw[<-e];have r:=Nat.isDigit_of_mem_toDigits (by decide) (by decide) O;simp only[Char.isDigit,ak,Jp,ge_iff_le]at r;obtain⟨U,Y⟩:=r;have a0:=UInt32.le_iff_toNat_le.mp U;have b0:=UInt32.le_iff_toNat_le.mp Y;exact⟨a0,b0⟩
def Xz(g0:0<m)(b0:m<10^30):vt ((Nat.toDigits 10 m).map Char.toNat)=CP:=by
 have O:=Wz m;have Y:=W.KIN.val_back m;have c0:=HR (by decide) b0;have a0:((Nat.toDigits 10 m).map Char.toNat).length<=30:=by rw[pa];exact c0
 have J:((Nat.toDigits 10 m).map Char.toNat).length=(Nat.toDigits 10 m).length:=by simp_all
 cases e:(Nat.toDigits 10 m).map Char.toNat with
 |nil=>
  have:=tDigits_len_ge 10 m;rw[e]at J;simp at J;simp_all
 |cons c r=>
  rw[e]at O Y a0 J;unfold vt;have U:¬c=48:=by
   intro U;subst U;have h0:digitsVal r=m:=by rw[<-Y];rfl
   cases r with
   |nil=>
    have:digitsVal ([]:List Nat)=0:=rfl;simp_all
   |cons d q=>
    have d0:=Vz (d::q) 0 O.tail;have e0:m<10^(d::q).length:=by
     have i0:digitsVal (d::q)<(0+1)*10^(d::q).length:=d0;simp_all
    have f0:=HR (by simp) e0;simp only[Od]at J f0;lia
  simp only[Wd U,zb a0,tH O,Bool.not_false,Bool.and_self]
def Yz(e0:-(10^30)<n)(f0:n<10^30):fw (Str.ofString (toString n)).cps.toList=CP/\rH (Str.ofString (toString n)).cps.toList=n/\(Str.ofString (toString n)).length<=31/\qH (Str.ofString (toString n)).cps.toList=GP:=by
 rcases Int.lt_or_le n 0 with hn|hn
 ·obtain⟨m,rfl⟩:∃m:Nat,n=-((m:Nat):Int):=⟨n.natAbs,by grind⟩;have b0:0<m:=by simp_all
  have U:m<10^30:=by lia
  have e:(Str.ofString (toString (-((m:Nat):Int)))).cps.toList=45::(Nat.toDigits 10 m).map Char.toNat:=by
   obtain⟨k,rfl⟩:∃k,m=k+1:=⟨m-1,by lia⟩;have c0:toString (-(((k+1:Nat):Nat):Int))="-"++Nat.repr (k+1):=rfl;rw[c0,signs_ofString,String.toList_append,Le,Nat.toList_repr];rfl
  have J:=Xz b0 U;have d0:=HR (by decide) U;refine⟨?_,?_,?_,?_⟩
  ·rw[e];unfold fw;have:Iq (45::(Nat.toDigits 10 m).map Char.toNat)=(Nat.toDigits 10 m).map Char.toNat:=rfl;rw[this,J,Bool.or_true]
  ·rw[e];show-((digitsVal ((Nat.toDigits 10 m).map Char.toNat):Nat):Int)=_;rw[W.KIN.val_back]
  ·rw[Uz,e,Od,pa];simp_all
  ·rw[e];cases(Nat.toDigits 10 m).map Char.toNat<;>rfl
 ·obtain⟨m,rfl⟩:=Int.eq_ofNat_of_zero_le hn;have U:m<10^30:=by lia
  have e:=W.KIN.signs_num m;have d0:=HR (k:=30) (by decide) U;have O:=Wz m;have Y:=W.KIN.val_back m;refine⟨?_,?_,?_,?_⟩
  ·rw[e];unfold fw;by_cases b0:m=0
   ·simp_all
   ·have J:=Xz (by grind) U;cases q:(Nat.toDigits 10 m).map Char.toNat with
    |nil=>rw[q]at J;cases J
    |cons c r=>
     rw[q]at J O;have a0:¬c=45:=by have:=O.head;lia
     have:Iq (c::r)=c::r:=ma a0;rw[this,J,Bool.or_true]
  ·rw[e];cases q:(Nat.toDigits 10 m).map Char.toNat with
   |nil=>
    rw[q]at Y;show(0:Int)=_;have:digitsVal ([]:List Nat)=0:=rfl;simp_all
   |cons c r=>
    rw[q]at Y O;have a0:¬c=45:=by have:=O.head;lia
    show(if c=45 then _ else((digitsVal (c::r):Nat):Int))=_;rw[ma a0,Y]
  ·rw[Uz,e,pa];lia
  ·rw[e];cases q:(Nat.toDigits 10 m).map Char.toNat with
   |nil=>rfl
   |cons c r=>
    rw[q]at O;cases r with
    |nil=>
     have:=O.head;exact Wd (by lia)
    |cons _ _=>rfl
def uH(a b:Str):(a++b).cps.toList=a.cps.toList++b.cps.toList:=by
 show(a.cps++b.cps).toList=_;simp
def vH(a0:-(10^30)<n)(b0:n<10^30):∀c∈(Str.ofString (toString n)).cps.toList,c<16^8:=by
 refine ea6 ?_ (Yz a0 b0);rintro c0 _ _ _;intro c J;rcases Bool.or_eq_true_iff.mp c0 with z|z
 ·grind
 ·cases q:(Str.ofString (toString n)).cps.toList with
  |nil=>simp_all
  |cons a r=>
   rw[q]at J z;have key:∀l:List Nat,vt l=CP->∀d∈l,d<16^8:=λl d0 d O=>by
    cases l with
    |nil=>cases O
    |cons b s=>
     have U:(!decide (b=48)&&(decide ((b::s).length<=30)&&(b::s).all dig))=CP:=d0;simp only[ak]at U;have:=sH U.2.2 d O;lia
   by_cases Y:a=45
   ·have e:Iq (a::r)=r:=wa Y
    grind
   ·have e:Iq (a::r)=a::r:=ma Y;rw[e]at z;exact key _ z c J
end My
namespace My
open PySem PySem.Spec PyProof.Rows L2 Builtin Builtin.ObjectAttr Builtin.Getset_descriptor
structure e9s(K:W.Frag)(C:BP):Prop where
 it:W.isClsIn K C=CP
 ga:W.findIn K (.ref C) "__getattribute__"=wP (wP (.builtin "BaseException.__getattribute__"))
 gt:W.findIn K (.ref C) "__getattr__"=wP yP
 cl:W.findIn K (.ref C) "__class__"=wP (wP (.builtin "object.__class__"))
 mB:W.mroIn K C (.type "BaseException")=wP CP
 mO:W.mroIn K C (.type "object")=wP CP
end My
namespace My
open PySem PySem.Spec PyProof.Rows L2
section
variable{X:Cx}
structure e8l(K:W.Frag)(C D:BP)(b:Bool):Prop where
 it:W.isClsIn K D=CP
 ty:W.typeIn K (.ref D)=wP (.type "type")
 self:W.subIn K (.ref C) (.ref C)=wP CP
 sub:W.subIn K (.ref C) (.ref D)=wP b
def wH{M:Model}{A:LP}{E:xP->zP->Prop}{K:W.Frag}{h:NP}{g:Array GenState}{d:Drawn}{t:Nat}{os:OsState}{e C S:BP}{O:dQ}{b:Bool}{Q:Bool->zP->Prop}(X:K.In h)(U:h.get? e=wP O)(Y:O.cls=.ref C)
  (a0:W.typeIn K (.ref S)=wP (.type "type"))(J:W.isClsIn K S=CP)(b0:W.mroIn K S (.type "BaseException")=wP CP)(c0:W.subIn K (.ref C) (.ref S)=wP b)(d0:Q b ⟨h,g,d,t,os⟩):wpAny M A (excMatches (.ref e) (.ref S)) Q E ⟨h,g,d,t,os⟩:=by
 have f:=tc_notTuple;have e0:=W.looks_typeIn (M:=M) X a0;have f0:=W.looks_mroIn (M:=M) X b0;have L2:=W.looks_subIn (M:=M) X c0;have g0:W.Looks M h (isType (.ref S)) CP:=by
  unfold W.isClsIn W.clsIn at J;split at J
  ·rename_i i0 d' j0 l0 h0;intro A' m0 n0 s' k q;unfold isType loadHead;exact ba (wpAny_loadPart (k _ _ (X _ _ h0)) (ca q))
  ·cases J
 unfold excMatches NR;repeat(first|(with_reducible refine wpAny_loadPart_at U ?_;rw[Y])|with_reducible refine W.Looks.at e0 ?_|with_reducible refine W.Looks.at f0 ?_|with_reducible refine W.Looks.at L2 ?_|with_reducible refine W.Looks.at g0 ?_|wp_step)
 cases b<;>(wp_walk;exact d0)
end
section
variable{X:Cx}{pins:List (BP×dQ)}{σ:L2.St}{H:Hp}{s:zP}
def xH(O:Inv X pins σ i0 s1)(I:Inv X pins σ H s)(j0:s1.heap.get? a=yP)(J:H a=yP)(ok:Rc X.prog X.w (upd H a o) s.heap a o):Inv X pins σ (upd H a o) s:=by
 have U:∀b u,s1.heap.get? b=wP u->b≠a:=λb u e z=>by grind
 refine⟨I.ok,I.os,I.bare,⟨I.base.keep,I.base.slot,λb u e n b0=>?_,I.base.there,λb xs e=>?_,λb u v e=>?_,λb e0 e=>?_⟩,I.loc,I.cell,?_,λx c e=>?_,λp c0=>?_,λb u e=>?_,I.len⟩
 ·obtain⟨f0,Y⟩:=O.base.there b u e b0;rw[oa (U b f0 Y)];exact I.base.free b u e n b0
 ·have q:=I.base.tups b xs e;rw[oa (he q J)];exact q
 ·have q:=I.base.frzs b u v e;rw[oa (he q J)];exact q
 ·obtain⟨more,q⟩:=I.base.tbls b e0 e;exact⟨more,by rw[oa (he q J)];exact q⟩
 ·obtain⟨l0,⟨u,_,_,a0,_⟩,_⟩:=O.loc;rw[oa (U _ u a0)];exact I.free
 ·obtain⟨v,u,a0,_⟩:=O.cell x c e;rw[oa (U c u a0)];exact I.Bb x c e
 ·refine ebC ?_ (I.pin p c0);rintro e n g0 h0 d;obtain⟨Y,_⟩:=O.pin p c0;exact⟨e,by rw[oa (U _ _ Y)];exact n,g0,h0,d⟩
 ·by_cases d0:b=a
  ·subst d0;rw[la]at e
   simp_all
  ·rw[oa d0]at e;refine(I.za b u e).Dd (λc v m0 q=>q) (λc q=>?_) λc xs q=>?_
   ·rw[oa (he q J)];exact q
   ·rw[oa (he q J)];exact q
structure e6z(K:W.Frag)(mg:Str->Option xP)(x:Str)(S:BP):Prop where
 bound:mg x=wP (.ref S)
 ty:W.typeIn K (.ref S)=wP (.type "type")
 it:W.isClsIn K S=CP
 mB:W.mroIn K S (.type "BaseException")=wP CP
end
structure Src(P:HP)(w:KP)(K:W.Frag)(J:It)(it:BP)(st:Nat->NP->Prop):Prop where
 obj:∀i h,st i h->∃o,h.get? it=wP o/\∀v,o.data≠.cell v
 keep:∀i h h',st i h->(∀o,h.get? it=wP o->h'.get? it=wP o)->st i h'
 item:∀(X:Cx),X.prog=P->X.w=w->X.K=K->∀(A:LP)(i:Nat)(pins:List (BP×dQ))(s:zP)(σ:L2.St)(H:Hp)(Q:xP->zP->Prop)(E:xP->zP->Prop),Inv X pins σ H s->st i s.heap->J.go i H->
  (∀x u h' tk,Ka x u->J.Nf i H x H->st (i+1) h'->Heap.SameBut it s.heap h'->Q u {s with heap:=h',toks:=tk})->wpAny (FP P w) A (Builtin.SmallTypes.nextOf (.ref it)) Q E s
 done:∀(X:Cx),X.prog=P->X.w=w->X.K=K->∀(A:LP),A.handled=yP->∀(i:Nat)(pins:List (BP×dQ))(s:zP)(σ:L2.St)(H:Hp)(Q:xP->zP->Prop)(E:xP->zP->Prop),Inv X pins σ H s->st i s.heap->J.stop i H->
  (∀h' e,Heap.ExtBut it s.heap h'->(∃o,h'.get? e=wP o/\o.cls=.type "StopIteration")->E (.ref e) {s with heap:=h'})->wpAny (FP P w) A (Builtin.SmallTypes.nextOf (.ref it)) Q E s
section
variable{P:HP}{w:KP}{K:W.Frag}
def yH(a d0:BP):Src P w K (Vg K a) d0 (λi h=>h.IsListIter d0 a i)where
 obj:=λi h st=>by
  revert st;refine ea7 ?_;rintro o e c d
  simp_all
 keep:=λi h h' st k=>st.at λo e=>k o e
 item:=by
  intro X O U Y A i e0 s f0 H Q E I st a0 g0;subst O U Y;obtain⟨xs,x,J,b0⟩:=a0;obtain⟨h0,c0,p,hz⟩:=I.list J;obtain⟨u,p0,i0⟩:=c0.get b0;exact wpAny_nextOf_list_item st p.isList (by grind) λh' j0 l0=>g0 x u h' s.toks i0 ⟨rfl,λys m0=>by rw[I.pe m0 J];exact b0⟩ j0 l0
 done:=by
  intro X O U Y A n0 i e0 s f0 H Q E I st a0 o0;subst O U Y;obtain⟨xs,J,b0⟩:=a0;obtain⟨h0,c0,p,hz⟩:=I.list J;have q0:=c0.length;exact wpAny_nextOf_list_end n0 st p.isList (by simp;lia) o0
def gw(J O:It):It:=⟨λi H=>J.go i H/\O.go i H,λi H v H'=>∃p x y,J.Nf i H x H/\O.Nf i H y H/\v=.ref p/\H p=yP/\H'=upd H p (.tup [x,y]),λi H=>J.stop i H\/(J.go i H/\O.stop i H)⟩
structure hw(z TI TO i1 i2:BP):Prop where
 TIz:TI≠z
 TOz:TO≠z
 i1z:i1≠z
 i2z:i2≠z
 TITO:TI≠TO
 TIi1:TI≠i1
 TIi2:TI≠i2
 TOi1:TO≠i1
 TOi2:TO≠i2
 i12:i1≠i2
def zH(n:Nat):hw (n+4) (n+2) (n+3) n (n+1):=by
 constructor<;>(simp_all)
abbrev zA(h:NP)(J:dQ):NP:=h.push J
abbrev zB(h:NP)(J O:dQ):NP:=(zA h J).push O
abbrev zC(h:NP)(J O:dQ):NP:=(zB h J O).push {cls:=.type "tuple",data:=.seq #[.ref h.objs.size,.ref (zA h J).objs.size]}
abbrev zD(h:NP)(J O:dQ):NP:=(zC h J O).push {cls:=.type "tuple",data:=.seq #[.none,.none]}
abbrev zE(h:NP)(J O:dQ):NP:=(zD h J O).push {cls:=.type "zip",data:=.fields #[.none,.bool GP,.bool GP,.ref (zB h J O).objs.size,.ref (zC h J O).objs.size]}
structure Zz(h g:NP)(o1 o2:dQ)(z TI TO i1 i2:BP):Prop where
 zip:IsZip g z TI TO .none
 ins:dR g TI (.ref i1) (.ref i2)
 outs:dR g TO .none .none
 one:g.get? i1=wP o1
 two:g.get? i2=wP o2
 keep:∀c o,h.get? c=wP o->g.get? c=wP o
 young:∀c∈[z,TI,TO,i1,i2],h.objs.size<=c
 ap:hw z TI TO i1 i2
def aA(h:NP)(e0:J.isFreed=GP)(f0:O.isFreed=GP):Zz h (zE h J O) J O (zD h J O).objs.size (zB h J O).objs.size (zC h J O).objs.size h.objs.size (zA h J).objs.size:=by
 have U:∀{g:NP}{a:BP}{o u:dQ},g.get? a=wP o->(g.push u).get? a=wP o:=λe=>Ta _ e
 have Y:∀{g:NP}{o:dQ},o.isFreed=GP->(g.push o).get? g.objs.size=wP o:=λe=>Hb _ e
 have a0:(zA h J).objs.size=h.objs.size+1:=Xl ..;have b0:(zB h J O).objs.size=h.objs.size+2:=by rw[Xl,a0]
 have c0:(zC h J O).objs.size=h.objs.size+3:=by rw[Xl,b0]
 have d0:(zD h J O).objs.size=h.objs.size+4:=by rw[Xl,c0]
 refine⟨Y rfl,U (U (Y rfl)),U (Y rfl),by grind,by grind,by grind,λc g0=>?_,?_⟩
 ·grind
 ·rw[a0,b0,c0,d0];exact zH _
end
structure AH(J:It)(H:Hp)(xs:List V):Prop where
 go:∀i,i<xs.length->J.go i H
 stop:∀i,xs.length<=i->J.stop i H
 Nf:∀i x H',J.Nf i H x H'->xs[i]?=wP x
def Ve{K:W.Frag}(h:ia K H a xs):AH (Vg K a) H xs:=⟨λi hi=>nx0 xs (xs[i]) h (by simp[hi]),λi hi=>⟨xs,h,hi⟩,λi x H' y=>y.2 xs h⟩
open PySem.NumText
def zg(n:Nat)(x:Str):Prop:=x.length<=n/\∀c∈x.cps.toList,c<16^8
def zg.app(h:zg n x)(g:zg m y):zg (n+m) (x++y):=⟨by rw[Nn];have:=h.1;have:=g.1;lia,λc J=>by
 rw[uH]at J;rcases Xb.mp J with z|z
 ·exact h.2 c z
 ·exact g.2 c z⟩
def BH(x:Str)(lo hi:Option Int):∀c∈(Txt.slice x lo hi).cps.toList,c∈x.cps.toList:=by
 intro c J;unfold Txt.slice at J
 grind
def zg.slice(h:zg n x)(lo hi:Option Int):zg n (Txt.slice x lo hi):=⟨Nb (Txt.slice_le x _ _) h.1,λc J=>h.2 c (BH x lo hi c J)⟩
def zg.one(h:c<16^8):zg 1 ⟨#[c]⟩:=by
 refine⟨xa _,λd J=>?_⟩
 simp_all
def zg.num(J:-(10^30)<n)(O:n<10^30):zg 31 (Str.ofString (toString n)):=⟨(Yz J O).2.2.1,vH J O⟩
end My
namespace My
open PySem PySem.Spec PyProof.Rows L2
section
variable{X:Cx}{pins:List (BP×dQ)}{σ:L2.St}{H:Hp}{s:zP}{scope:rQ}{N:List Str}{target iter elt:UP}{pos:sQ}{g:TG}{te:TE}
def bA(I:Inv X pins σ H s)(J:∀b∈fp,Ug X pins H b)(os:s'.os=s.os)(O:vQ s'.gens)(un:Un (xc X.stack) fp H H' s.heap s'.heap)(U:wc X.prog X.w H' s'.heap)(Y:H' C=yP)(a0:s.heap.objs.size<=C):
  Inv X pins σ H' s'/\Ug X pins H' C:=
 ⟨I.Rg os un U O λb b0=>by refine eaD ?_ (J b b0);rintro _ c0 _ d0 e0 f0;exact⟨d0,c0,e0,f0⟩,I.vg a0 Y⟩
def cA(I:Inv X pins σ H' s)(f:Ug X pins H' C)(k:Heap.SameBut C s.heap h'):Inv X pins σ H' {s with heap:=h'}:=by
 revert f;refine eaD ?_;rintro J O _ U Y a0;exact I.turned (t':=s.toks) (λb o b0 e=>(k.2 b b0).trans e) J O U Y a0
end
open PySem.Builtin.Str
def Jq{P:HP}{w:KP}{X:Cx}:zq (ae P w) X (λ_ _ _=>False):=λ_ _ _ _ _ _ _ h=>by
 revert h;refine ec4 ?_;rintro _ _ _ _ _ _ _ _ _ _ _ _ _;refine ea6 ?_;rintro _ _ _ z;exact z.elim
end My
namespace My
open PySem PySem.Spec PyProof.Rows L2
def dA{X:Cx}{K:W.Frag}{es:List UP}{k:Nat}{t:dk}{n:Nat}{pos:sQ}(J:X.K=K)(O:X.calm=CP)(h:Bm X es t)(U:(nQ es X.env).length=n:=by rfl)(Y:(nQ es X.env).findIdx? (·.1)=yP:=by rfl):PG X (.Tuple es k pos) (Jy K n t):=by
 subst J;exact Rh O h U Y
section
variable{P:HP}{w:KP}{K:W.Frag}{mg:Str->Option xP}{base:NP}{N:List Str}{qual:Str}{scope:rQ}{f:BP}{cd:xP}{A:LP}{outer:List xR}{s₀:zP}{H₀:Hp}{E:XK}
 {pins:List (BP×dQ)}{σ:L2.St}{H H2:Hp}{s s2:zP}{h':NP}{ea C:BP}{d:Option BP}
end
def qf(O:List (Str×BP)):List (Str×AQ)->List (Str×BP)->List (Str×BP)
 |[],J=>J
 |(n,k)::r,J=>if(k==NameKind.free)=CP then qf O r ((n,(O.lookup n).getD 0)::J)else qf O r J
def CH(h:∀q∈scope.names,q.2=.free->∃c,env.cells.lookup q.1=wP c):closureFor scope env=pure (qf env.cells scope.names []):=by
 simp only[closureFor];generalize([]:List (Str×BP))=Y;revert h;generalize scope.names=names;intro h;induction names generalizing Y with
 |nil=>rfl
 |cons q r J=>
  obtain⟨n,k⟩:=q;rw[oe];by_cases O:(k==NameKind.free)=CP
  ·obtain⟨c,U⟩:=h (n,k) Yf (by simp_all);have e:cellOf env n=pure c:=by simp only[cellOf,U]
   simp only[qf,O,if_true,e,U,Option.getD_some,pure_bind];exact J _ (by grind)
  ·simp only[qf,O,hf,pure_bind,ph];exact J _ (by grind)
def iw:∀{names:List (Str×AQ)}{J:List (Str×BP)},(∀q∈names,q.2=.free->∃c,O.lookup q.1=wP c)->(∀x c,J.lookup x=wP c->O.lookup x=wP c)->∀x c,(qf O names J).lookup x=wP c->O.lookup x=wP c
 |[],_,_,U=>U
 |(n,k)::r,J,h,U=>by
  intro x c e;by_cases Y:(k==NameKind.free)=CP
  ·obtain⟨d,a0⟩:=h (n,k) Yf (by grind);rw[qf,wa Y]at e;refine iw (by grind) (λy b q=>?_) x c e
   grind
  ·rw[qf,ma Y]at e;exact iw (by grind) U x c e
def wt:∀{names:List (Str×AQ)}{J:List (Str×BP)}{x:Str},((x,NameKind.free)∈names\/∃c,J.lookup x=wP c)->∃c,(qf Y names J).lookup x=wP c
 |[],_,_,h=>h.elim (by(intros;simp_all)) id
 |(n,k)::r,J,x,h=>by
  by_cases O:(k==NameKind.free)=CP
  ·rw[qf,wa O];refine wt ?_;cases U:x==n with
   |true=>exact .inr ⟨_,by rw[ml,U]⟩
   |false=>
    grind
  ·rw[qf,ma O];refine wt ?_
   grind
def jw{env:xR}:∀{names:List (Str×AQ)}{x:Str}{U:AQ},(names.map λ(n,k)=>if(k==NameKind.free&&env.scope.kind==.function&&env.kindOf n==wP .cell)then(n,NameKind.cell)else(n,k)).lookup x=wP U->
  ∃k,names.lookup x=wP k/\(U=k\/(k=.free/\U=.cell))
 |[],_,_,h=>by simp at h
 |(n,k)::r,x,U,h=>by
  have Y:=@jw env r x U;have h:List.lookup x ((if(k==NameKind.free&&env.scope.kind==.function&&env.kindOf n==wP .cell)=CP then(n,NameKind.cell)else(n,k))::_)=wP U:=h;cases J:x==n with
  |true=>
   by_cases O:(k==NameKind.free&&env.scope.kind==.function&&env.kindOf n==wP .cell)=CP
   ·rw[wa O,ml,J]at h;cases h;have a0:k=.free:=by
     simp only[ak]at O;simpa using O.1.1
    exact⟨k,by rw[ml,J],.inr ⟨a0,rfl⟩⟩
   ·rw[ma O,ml,J]at h;cases h;exact⟨k,by rw[ml,J],.inl rfl⟩
  |false=>
   obtain⟨k2,e,q⟩:=Y (by
    by_cases O:(k==NameKind.free&&env.scope.kind==.function&&env.kindOf n==wP .cell)=CP
    ·rw[wa O,ml,J]at h;exact h
    ·rw[ma O,ml,J]at h;exact h)
   exact⟨k2,by rw[ml,J];exact e,q⟩
def Ud(X:Cx)(scope:rQ)(N:List Str)(J:List (Str×BP))(C:BP)(s₀:zP)(H₀:Hp)(ex:List BP):Cx:=
 {X with N:=N,s₀:=s₀,H₀:=H₀,env:=compEnvC scope J C X.env,outer:=X.stack,stack:=X.stack,ex:=ex,fn:=λ_=>GP,pn:=[],xe:=λ_ _=>False}
def Rm(J:L2.St)(n:Nat)(O:List Nat):L2.St:=List.replicate n yP++O.map λj=>(J[j]?).getD yP
def eA(J:List UP)(env:xR):SR Bool:=forIn J CP λc r=>if r=CP then do let ok<-isTrue c env (XP c env);pure (ForInStep.yield ok)else pure (ForInStep.yield r)
structure Sm(X:Cx)(ifs:List UP)(t:TT):Prop where
 run:∀(pins:List (BP×dQ))(s:zP)(σ:L2.St)(H:Hp)(Q:Bool->Hp->Prop),Inv X pins σ H s->t σ H Q->wpAny (FP X.prog X.w) X.A (eA ifs X.env) (TP X pins σ Q) X.xe s
def DH:TT:=λ_ H Q=>Q CP H
def Df:Sm X [] DH:=⟨λJ s O H Q I h=>wpAny_tests_nil ⟨H,I,h⟩⟩
def Um(h:PT X c t):Sm X [c] t:=⟨λJ s O H Q I q=>wpAny_tests_one (h J s O H Q I q)⟩
structure Xh(X:Cx)(scope:rQ)(fv:List Str)(js:List Nat):Prop where
 kind:scope.kind=.function
 cell:∀q∈scope.names,q.2≠.cell
 names:∀q∈scope.names,q.2=.local->scope.names.lookup q.1=wP .local
 free:∀q∈scope.names,q.2=.free->q.1∈fv
 out:∀x∈fv,X.env.kindOf x=wP .cell\/X.env.kindOf x=wP .free
 at':js.map (λj=>X.N[j]?)=fv.map wP
 fr:∀x∈fv,scope.names.lookup x=wP .free
section
variable{X:Cx}{pins:List (BP×dQ)}{σ:L2.St}{H:Hp}{s:zP}{scope:rQ}{N:List Str}{C:BP}{ex:List BP}{cl:List (Str×BP)}{fv tg:List Str}{js:List Nat}
def Xh.Kq(S:Xh X scope fv js)(ok:X.Ok):closureFor scope X.env=pure (qf X.env.cells scope.names []):=CH λq J e=>ok.has q.1 (S.out q.1 (S.free q J e))
def Xh.sub(S:Xh X scope fv js)(ok:X.Ok):∀x c,(qf X.env.cells scope.names []).lookup x=wP c->X.env.cells.lookup x=wP c:=
 iw (λq J e=>ok.has q.1 (S.out q.1 (S.free q J e))) (by(intros;simp_all))
def EH(I:Inv X pins σ H s)(S:Xh X scope fv js)(a0:s.heap.objs.size<=C)
  (Y:∀b∈ex,Ug X pins H b)(b0:∀b∈ex,∃o,s.heap.get? b=wP o):(Ud X scope N (qf X.env.cells scope.names []) C s H ex).Ok:=by
 have sub:=S.sub I.ok;refine⟨I.ok.mod,S.kind,I.ok.glob,I.ok.blt,a0,λx y c c0 O=>I.ok.inj x y c (sub x c c0) (sub y c O),λx d0=>?_,λx c z _=>Bool.noConfusion z,I.ok.hd,I.ok.frames,.inl rfl,λb J=>⟨?_,λx c e=>?_⟩,I.bs,Nb I.ok.Cj I.sz,λb o e J=>?_,λb J e0=>?_,I.stack,I.lf⟩
 ·have e:∃U,(relabel scope X.env).names.lookup x=wP U/\(U=.cell\/U=.free):=by
   rcases d0 with z|z
   ·exact⟨_,z,.inl rfl⟩
   ·exact⟨_,z,.inr rfl⟩
  revert e;refine ea1 ?_;rintro U e f0;refine ea1 ?_ (jw e);rintro k O q;have g0:k=.free:=by
   rcases q with rfl|⟨rfl,_⟩
   ·rcases f0 with rfl|rfl
    ·exact absurd rfl (S.cell _ (Vk O))
    ·rfl
   ·rfl
  subst g0;exact wt (.inl (Vk O))
 ·obtain⟨o,e⟩:=b0 b J;exact Ab (Vd (Xa e) a0)
 ·obtain⟨_,_,_,_,q,_⟩:=Y b J;exact q x c (sub x c e)
 ·obtain⟨_,_,_,q,_⟩:=Y b J;rcases q with q|q
  ·exact I.ok.uh b o e q
  ·exact absurd (Vd (Xa e) (Nb I.ok.Cj q)) (Wj _)
 ·obtain⟨_,q1,q2,_⟩:=Y b J;rcases jb.mp (I.jf b e0)with z|z
  ·exact q1 z
  ·exact q2 z
def FH(I:Inv X pins σ H s)(S:Xh X scope fv js)(ok:(Ud X scope (tg++fv) (qf X.env.cells scope.names []) C s H ex).Ok)(a0:∀b o,s.heap.get? b=wP o->h'.get? b=wP o)(h0:s.heap.get? D=yP)(i0:s.heap.get? C=yP)(j0:D≠C)
  (l0:h'.get? D=wP {cls:=.type "list",data:=.seq #[]})(m0:h'.Ns C m):Inv (Ud X scope (tg++fv) (qf X.env.cells scope.names []) C s H ex) [] (Rm σ tg.length js) (upd H D (.lst [])) {s with heap:=h',toks:=t'}:=by
 have O:=Pm I h0;have d0:∀b u,s.heap.get? b=wP u->b≠D:=by grind
 have sub:=S.sub I.ok;have n0:∀c v,s.heap.IsCell c v->h'.IsCell c v:=λc v⟨o,b0,o0⟩=>⟨o,a0 c o b0,o0⟩
 have p0:js.length=fv.length:=by have:=Ub List.length S.at';simpa using this
 refine⟨ok,rfl,I.bare,⟨λb u q _ _ _=>a0 b u q,λb u q _ _ _=>⟨u.slots,a0 b u q⟩,λb u q n _=>by rw[oa (d0 b u q)];exact n,λb u q _=>⟨u,a0 b u q⟩,λb xs q=>by rw[oa (he q O)];exact q,
  λb u xs q=>by rw[oa (he q O)];exact q,λb B0(q:H b=_)=>⟨#[],by rw[oa (he q O),q];simp⟩⟩,⟨m,m0,λi x v U J q0=>?_⟩,λx c e=>?_,?_,λx c e=>?_,λp r0=>(by cases r0),λb u e=>?_,by simp[Ud,Rm,p0]⟩
 ·have U:(tg++fv)[i]?=wP x:=U;rcases Nat.lt_or_ge i tg.length with hi|hi
  ·rw[Rm,Ms (by simpa using hi),List.getElem?_replicate,wa hi]at J;cases J
  ·rw[iv hi]at U;rw[Rm,iv (by simpa using hi),List.length_replicate,fb]at J;refine ea1 ?_ (Jf.mp J);rintro j s0 J;have t0:σ[j]?=wP (wP v):=by
    cases q:σ[j]? with
    |none=>rw[q]at J;cases J
    |some z=>rw[q]at J;exact Ub wP J
   have u0:X.N[j]?=wP x:=by
    have q:=Ub (λl=>l[i-tg.length]?) S.at';simp only[fb,s0,U,Mp]at q;exact me q
   have c0:=yb U;have e0:=S.out x c0;refine ea1 ?_ I.loc;rintro C0 _ v0;have w0:nq X.env.scope x:=e0.elim (λz=>.inr (.inl z)) λz=>.inr (.inr z)
   refine ea1 ?_ (v0 j x v u0 t0 w0);rintro u x0 lk;obtain⟨c,y0,z0⟩:∃c,X.env.cells.lookup x=wP c/\s.heap.IsCell c (wP u):=by
    rcases lk with⟨z,_⟩|⟨_,q⟩
    ·rcases e0 with y|y<;>(rw[y]at z;cases z)
    ·exact q
   obtain⟨Y,f0⟩:∃Y,(qf X.env.cells scope.names []).lookup x=wP Y:=wt (.inl (Vk (S.fr x c0)));have A0:Y=c:=by have:=sub x Y f0;rw[y0]at this;exact(me this).symm
   subst A0;refine⟨u,x0,.inr ⟨?_,Y,f0,n0 _ _ z0⟩⟩;rcases q0 with z|z|z
   ·refine ea1 ?_ (jw z);rintro k ek q;rw[S.fr x c0]at ek;cases ek;rcases q with q|⟨_,q⟩<;>cases q
   ·exact .inl z
   ·exact .inr z
 ·obtain⟨v,z⟩:=I.cell x c (sub x c e);exact(by grind)
 ·show upd H D (.lst []) C=yP;rw[oa (Dc j0)];exact Pm I i0
 ·obtain⟨v,o,b0,_⟩:=I.cell x c (sub x c e);rw[oa (d0 c o b0)];exact I.Bb x c (sub x c e)
 ·by_cases g0:b=D
  ·subst g0;rw[la]at e;cases e;exact⟨Tb _,nx0 ([]) _ (.nil) l0⟩
  ·rw[oa g0]at e;exact(I.za b u e).Dd (by(intros;simp_all)) (λc q=>by rw[oa (he q O)];exact q) λc xs q=>by rw[oa (he q O)];exact q
end
def HH{prog:HP}{w:KP}{A:LP}{s:zP}{R:TR->zP->Prop}{a0 O iter:UP}{b0:List UP}{scope:rQ}{pos:sQ}{U c0:xP}{env:xR}(I:Nat->zP->Prop)
  (turn:∀n s,I n s->wpAny (FP prog w) A (IQ U) (λr s1=>(r=yP/\R (.ok .next) s1)\/∃v,r=wP v/\wpAny (FP prog w) A (RQ O U v) (λ_ d0=>wpAny (FP prog w) A (dS O env v) (λ_ e0=>
   wpAny (FP prog w) A (eA b0 env) (λok Y=>if ok=CP then wpAny (FP prog w) A (XP a0 env) (λx f0=>wpAny (FP prog w) A (call (.builtin "list.append") [c0,x]) (λ_ g0=>∃m,m<n/\I m g0) (λ_ _=>False) f0) (λ_ _=>False) Y
    else∃m,m<n/\I m Y) (λ_ _=>False) e0) (λ_ _=>False) d0) (λ_ _=>False) s1) (λ_ _=>False) s)
  (n:Nat)(h:I n s):codeAny (FP prog w) A (.compLoop (.ListComp a0 [⟨O,iter,b0,0⟩] scope pos) 0 U c0 env) R s:=by
 have J:∀{α:Type}{E:xP->zP->Prop}{t:SR α}{Q:α->zP->Prop}{u:zP},wpAny (FP prog w) A t Q (λ_ _=>False) u->wpAny (FP prog w) A t Q E u:=λz=>Pc z (λ_ _ q=>q) λ_ _ q=>q.elim
 refine codeAny_loop rfl I (λn s i0=>wpAny_noted ?_) n h;rw[compTurn_list];refine ba (Dn (ba (Pc (turn n s i0) (λr s1 q=>?_) λ_ _ z=>z.elim)));rcases q with⟨rfl,q⟩|⟨v,rfl,q⟩
 ·exact ca q
 ·refine ba (J (Aa q λ_ d0 q2=>ba (J (Aa q2 λ_ e0 q3=>ba (J (Aa q3 λok Y h0=>?_))))));cases ok with
  |false=>exact ca ⟨rfl,h0⟩
  |true=>exact ba (ba (J (Aa h0 λx f0 j0=>ba (J (Aa j0 λ_ g0 l0=>ca (ca ⟨rfl,l0⟩))))))
def Yh(d0:L2.St)(U:It)(g:TG)(e0:TT)(f0:TE)(Q:VK)(Y:Hp):Prop:=∀D,Y D=yP->∃W:Nat->Nat->List V->L2.St->Hp->Prop,(∃m,W 0 m [] d0 (upd Y D (.lst [])))/\∀i m ys a0 H,W i m ys a0 H->H D=wP (.lst ys)/\
 ((U.stop i H/\Q (.ref D) H)\/(U.go i H/\ys.length<DP/\∀v H',U.Nf i H v H'->g v a0 H' λO g0=>e0 O g0 λok b0=>if ok=CP then f0 O b0 λy c0=>c0 D=wP (.lst ys)/\∃J,J<m/\W (i+1) J (ys++[y]) O (upd c0 D (.lst (ys++[y])))
  else∃J,J<m/\W (i+1) J ys O b0))
section
variable{X:Cx}{pins:List (BP×dQ)}{σ:L2.St}{H:Hp}{s:zP}{scope:rQ}{fv:List Str}{js:List Nat}{target iter elt:UP}{ifs:List UP}{pos:sQ}{g:TG}{tc:TT}{te:TE}
def fA{E:xP->zP->Prop}{e0:Nat->NP->Prop}{j0:xP->BP->TR->zP->Prop}(U:List Str)(I:Inv X pins σ H s)(w0:X.calm=CP)
  (S:Xh X scope fv js)(T:wl X.prog X.w X.K target U0 fp x0 e0)(st:e0 0 s.heap)(y0:∀b∈fp,Ug X pins H b)
  (V0:∀J C s₀ H₀ ex,PG (Ud X scope (U++fv) J C s₀ H₀ ex) target g)(hi:∀J C s₀ H₀ ex,Sm (Ud X scope (U++fv) J C s₀ H₀ ex) ifs tc)(W0:∀J C s₀ H₀ ex,PE (Ud X scope (U++fv) J C s₀ H₀ ex) elt te)(q:Yh (Rm σ U.length js) U0 g tc te Q H)
  (X0:∀D C H' s' m,s'.os=s.os->vQ s'.gens->Un (xc X.stack) fp H H' s.heap s'.heap->wc X.prog X.w H' s'.heap->s'.heap.Ns C m->H' C=yP->s.heap.objs.size<=C->Q (.ref D) H'->j0 (.ref D) C (.ok .next) s'):
  wpAny (FP X.prog X.w) X.A (newList []) (λz0 f0=>wpAny (FP X.prog X.w) X.A (newFunctionEnv scope X.env.globals (qf X.env.cells scope.names []) [] X.env.qual yP .none (wP X.env)) (λA0 l0=>
   codeAny (FP X.prog X.w) X.A (.compStart (.ListComp elt [⟨target,iter,ifs,0⟩] scope pos) 0 (.ref x0) z0 {A0 with scope:=relabel scope X.env}) (j0 z0 A0.locals) l0) E f0) E s:=by
 refine oh (wpAny_newFunctionEnv S.cell (by intro y Y0;simp at Y0) (λB0 g0 k1=>?_) S.kind);generalize m0:s.heap.push {cls:=.type "list",dict:=yP,data:=.seq ([]:List xP).toArray}=Y at g0 k1⊢;have C0:Y.objs.size=s.heap.objs.size+1:=by rw[<-m0,Xl]
 have D0:s.heap.objs.size≠Y.objs.size:=by rw[C0];exact Ab (by simp_all)
 have n0:s.heap.objs.size<=Y.objs.size:=by rw[C0];exact qi _
 have F0:s.heap.get? s.heap.objs.size=yP:=bq (xa _);have Z0:=bq n0;have old:=λb o e=>k1.extBut b o (by grind) (Ta _ (m0▸Ta _ e))
 have a1:=k1.extBut _ _ D0 (Ta _ (m0▸Hb _ rfl));have b1:=T.obj 0 s.heap st;generalize G0:qf X.env.cells scope.names []=J;have ok:(Ud X scope (U++fv) J Y.objs.size s H fp).Ok:=G0▸EH I S n0 y0 (by grind);have c1:Inv (Ud X scope (U++fv) J Y.objs.size s H fp) [] (Rm σ U.length js) (upd H s.heap.objs.size (.lst [])) {s with heap:=B0,toks:=s.toks+([]:List (Str×xP)).length}:=by
  subst G0;exact FH I S ok old F0 Z0 D0 a1 g0
 have I0:=T.keep 0 _ _ st λb _ o e=>old b o e
 refine ea1 ?_ (q _ (Pm I F0));rintro W⟨d1,e1⟩turn;have o0:∀{H':Hp}{J0:List (BP×dQ)},(∀p∈J0,p.1∉fp)->(∀b∈fp,H' b=yP)->∀b∈fp,Ug (Ud X scope (U++fv) J Y.objs.size s H fp) J0 H' b:=λf1 g0 b O=>⟨g0 b O,(ok.pq b O).1,ok.vh b O,.inl O,(ok.pq b O).2,λp g1 z=>f1 p g1 (z▸O)⟩
 have K0:codeAny (FP X.prog X.w) X.A (.compLoop (.ListComp elt [⟨target,iter,ifs,0⟩] scope pos) 0 (.ref x0) (.ref s.heap.objs.size) (compEnvC scope J Y.objs.size X.env)) (j0 (.ref s.heap.objs.size) Y.objs.size) {s with heap:=B0,toks:=s.toks+([]:List (Str×xP)).length}:=by
  refine HH (λn s'=>∃i ys a0 H',Inv (Ud X scope (U++fv) J Y.objs.size s H fp) [] a0 H' s'/\e0 i s'.heap/\(∀b∈fp,H' b=yP)/\W i n ys a0 H') (λn s' h1=>?_) d1 (nx17 0 ([]) _ _ c1 I0 (λb O=>?_) e1)
  ·revert h1;refine eaE ?_;rintro i ys a0 H' L0 M0 N0 p0;obtain⟨E1,p0⟩:=turn i n ys a0 H' p0;rcases p0 with⟨stop,i1⟩|⟨j1,hz,step⟩
   ·refine Aa (T.done (Ud X scope (U++fv) J Y.objs.size s H fp) rfl rfl rfl w0 i [] s' a0 H' _ L0 (o0 (by simp) N0) M0 stop) ?_;rintro r O0⟨q0,c0⟩;refine .inl ⟨q0,?_⟩;obtain⟨m,l1,_⟩:=c0.loc;exact X0 _ _ H' O0 m c0.os c0.bare c0.base c0.za l1 c0.free n0 i1
   ·refine Aa (T.item (Ud X scope (U++fv) J Y.objs.size s H fp) rfl rfl rfl w0 i [] s' a0 H' _ L0 (o0 (by simp) N0) M0 j1) ?_;rintro r O0;refine ea1 ?_;rintro u q0 m1;refine .inr ⟨u,q0,Aa m1 ?_⟩;rintro _ f0;refine eb4 ?_;rintro x P0 n1 o1 p1 t3 r1;have t1:=n1.pinned (o0 (by simp) r1) (T.obj _ _ t3);have Q0:∀{h0:zP}{b0:L2.St}{d0:Hp},Inv (Ud X scope (U++fv) J Y.objs.size s H fp) ([]++rq fp f0.heap) b0 d0 h0->e0 (i+1) h0.heap/\∀b∈fp,d0 b=yP:=λi0=>
     ⟨T.keep _ _ _ t3 λb O o e=>(i0.pin (b,o) (Ze _ (Ze _ (Xs O e)))).1,λb O=>by
      obtain⟨o,e,_⟩:=T.obj _ _ t3 b O;exact(i0.pin (b,o) (Ze _ (Ze _ (Xs O e)))).2.1⟩
    refine Aa ((V0 _ _ _ _ _) _ f0 a0 P0 x u _ t1 o1 (step x P0 p1)) ?_;rintro _ l0;refine ea8 ?_;rintro b0 u1 v1 w1;refine Aa ((hi _ _ _ _ _).run _ l0 b0 u1 _ v1 w1) ?_;rintro b x1;refine ea1 ?_;rintro y1 r0 R0;cases b with
    |false=>
     refine ea1 ?_ ((R0));rintro s0 t0 z1;obtain⟨u0,v0⟩:=Q0 r0;exact nx9 s0 t0 (i+1) (nx1 _ b0 _ r0.Bc u0 v0 z1)
    |true=>
     refine Aa ((W0 _ _ _ _ _) _ x1 b0 y1 _ r0 R0) ?_;rintro z h0⟨y,d0,i0,A1,B1,s0,t0,C1⟩;refine Aa (uz _ h0 b0 d0 (.ref s.heap.objs.size) [y] (.ref s.heap.objs.size) [z] (λ_ S0=>S0=upd d0 s.heap.objs.size (.lst (ys++[y]))) i0 rfl (.cons A1 .nil) ⟨_,ys,y,rfl,rfl,B1,hz,rfl⟩) ?_;rintro _ F1⟨G1,S0,T0,_,D1⟩;subst D1;obtain⟨u0,v0⟩:=Q0 T0;exact nx9 s0 t0 (i+1) (nx1 _ b0 _ T0.Bc u0 v0 C1)
  ·obtain⟨o,e,_⟩:=b1 b O;rw[oa (Ab (Xa e))];exact(y0 b O).1
 exact codeAny_compStart_list K0 (T.self _ 0 _ _ _ I0 K0)
def xt(n:Nat)(js:List Nat)(J:TI)(g:TG)(tc:TT)(te:TE):TE:=λσ H Q=>J σ H λO U=>Yh (Rm σ n js) O g tc te Q U
def IH(J:List Str)(a0:X.calm=CP)(S:Xh X scope fv js)(hi:PI X target iter b0)
  (c0:∀O C s₀ H₀ ex,PG (Ud X scope (J++fv) O C s₀ H₀ ex) target g)(d0:∀O C s₀ H₀ ex,Sm (Ud X scope (J++fv) O C s₀ H₀ ex) ifs tc)(e0:∀O C s₀ H₀ ex,PE (Ud X scope (J++fv) O C s₀ H₀ ex) elt te)(f0:∀x,pQ iter X.env x=pure x:=by intro _;rfl):
  PE X (.ListComp elt [⟨target,iter,ifs,0⟩] scope pos) (xt J.length js b0 g tc te):=by
 constructor;intro pins s σ H Q I h;refine VR rfl f0 (S.Kq I.ok) S.kind S.names (Aa (hi pins s σ H _ I h) λv s1 g0=>Aa g0 λs0 t0 h0=>?_);obtain⟨u0,fp,v0,w0,x0,rfl,U,T,i0,Y,q⟩:=h0;refine fA J U a0 S T i0 Y c0 d0 e0 q λD C H' s' m os j0 un l0 m0 n0 o0 p0=>⟨m,m0,λh' k=>?_⟩
 obtain⟨q0,r0⟩:=bA U Y os j0 un l0 n0 o0;exact⟨.ref D,H',cA q0 r0 k,rfl,p0⟩
def JH(J:List Str)(c0:X.calm=CP)(d0:X.N.Nodup)(e0:X.N[i]?=wP y)(Y:X.env.scope.names.lookup y=wP .local)(S:Xh X scope fv js)(hi:PI X target iter f0)
  (g0:uQ (.ListComp elt [⟨target,iter,ifs,0⟩] scope pos) (wP (.Name y h0)) i0.line X.env=pure CP)
  (j0:∀O C s₀ H₀ ex,PG (Ud X scope (J++fv) O C s₀ H₀ ex) target g)(l0:∀O C s₀ H₀ ex,Sm (Ud X scope (J++fv) O C s₀ H₀ ex) ifs tc)(m0:∀O C s₀ H₀ ex,PE (Ud X scope (J++fv) O C s₀ H₀ ex) elt te)(n0:∀x,pQ iter X.env x=pure x:=by intro _;rfl):
  PS X (.Assign [.Name y h0] (.ListComp elt [⟨target,iter,ifs,0⟩] scope pos) i0) (λD σ H=>xt J.length js f0 g tc te σ H λv o0=>D.nx (σ.set i (wP v)) o0):=by
 constructor;intro pins s σ H D I h;rw[exec_Assign_Name_used _ _ _ _ g0];refine ba (Dn (ba (ba (Pc (VR rfl n0 (S.Kq I.ok) S.kind S.names
  (Aa (hi pins s σ H _ I h) λv s1 p0=>Aa p0 λD0 F0 q0=>?_)) (λ_ s' q=>ca (ca q)) λ_ _ z=>z))))
 obtain⟨G0,fp,I0,J0,K0,rfl,a0,T,r0,b0,q⟩:=q0;refine fA J a0 c0 S T r0 b0 j0 l0 m0 q λL C H' s' m os s0 un t0 u0 v0 w0 x0=>?_
 obtain⟨y0,U⟩:=bA a0 b0 os s0 un t0 v0 w0;refine wpAny_assign_Name (Ey y0 d0 e0 (.inl Y) (v:=.ref L) rfl (?_) (.inr Y));rintro L0 z0⟨a,k3,A0⟩;have B0:C≠a:=by
  rcases A0 with z|z
  ·rw[z];exact U.2.1
  ·exactλC0=>U.2.2.2.2.1 y a z C0.symm
 exact⟨m,u0.sameBut k3 B0,λh' k=>nx0 _ H' (cA z0 U k) x0⟩
end
def KH{α:Type}{P:α->Prop}:∀x∈([]:List α),P x:=by(intros;simp_all)
def LH{α:Type}{P:α->Prop}{a:α}{l:List α}(h:P a)(t:∀x∈l,P x):∀x∈a::l,P x:=by simp_all
def Ef{K:W.Frag}(J:X.K=K):Oi X (nz K):=J▸fc
def Lq{K:W.Frag}(J:X.K=K):Oi X (mz K):=J▸Ob
def Vm{l0 fs:L2.St}(n:Nat)(P:BP->Nat->List V->Hp->Prop)(n0:l0=List.replicate k yP++fs)(hz:n<=DP)(o0:∀i H,aa U H->i<n->h0.go i H)(p0:∀H,aa U H->h0.stop n H)
  (q0:∀D i ys H,P D i ys H->ys.length<=i)(r0:∀D,U D=yP->P D 0 [] (upd U D (.lst [])))
  (step:∀D i H ys(O:L2.St)v H' (R:Option V->L2.St->Hp->Prop),H D=wP (.lst ys)->P D i ys H->aa U H->i<n->O.length=k->h0.Nf i H v H' ->
   (∀y(Y:L2.St)J,Y.length=k->aa H J->P D (i+1) (ys++[y]) (upd J D (.lst (ys++[y])))->R (wP y) (Y++fs) J)->(∀(Y:L2.St)J,Y.length=k->aa H J->P D (i+1) ys J->R yP (Y++fs) J)->
   g v (O++fs) H' λa0 s0=>t0 a0 s0 λok J=>if ok=CP then u0 a0 J λy v0=>R (wP y) a0 v0 else R yP a0 J)
  (fin:∀D H' ys,U D=yP->aa U H'->H' D=wP (.lst ys)->P D n ys H'->Q (.ref D) H'):Yh l0 h0 g t0 u0 Q U:=by
 intro D f0;refine⟨λi m ys m0 H=>m=n-i/\i<=n/\P D i ys H/\(∃O:L2.St,O.length=k/\m0=O++fs)/\aa U H/\H D=wP (.lst ys),⟨n,rfl,Tb _,r0 D f0,⟨_,List.length_replicate,n0⟩,aa.upd f0,la⟩,?_⟩;rintro i m ys m0 H;refine eaD ?_;rintro rfl hi i0⟨O,w0,rfl⟩b0 c0;refine⟨c0,?_⟩;have x0:=q0 _ _ _ _ i0;by_cases g0:i<n
 ·exact .inr ⟨o0 i H b0 g0,by lia,λv H' y=>step D i H ys O v H' (λo a0 J=>match o with
   |some y=>J D=wP (.lst ys)/\∃d0,d0<n-i/\d0=n-(i+1)/\i+1<=n/\P D (i+1) (ys++[y]) (upd J D (.lst (ys++[y])))/\(∃O:L2.St,O.length=k/\a0=O++fs)/\aa U (upd J D (.lst (ys++[y])))/\upd J D (.lst (ys++[y])) D=wP (.lst (ys++[y]))
   |none=>∃d0,d0<n-i/\d0=n-(i+1)/\i+1<=n/\P D (i+1) ys J/\(∃O:L2.St,O.length=k/\a0=O++fs)/\aa U J/\J D=wP (.lst ys)) c0 i0 b0 g0 w0 y
   (λy Y J j0 e0 p=>⟨e0 _ _ c0,n-(i+1),by lia,rfl,g0,p,⟨Y,j0,rfl⟩,(b0.trans e0).again f0,la⟩) λY J j0 e0 p=>⟨n-(i+1),by lia,rfl,g0,p,⟨Y,j0,rfl⟩,b0.trans e0,e0 _ _ c0⟩⟩
 ·obtain rfl:i=n:=by lia
  exact .inl ⟨p0 H b0,fin D H ys f0 b0 c0 i0⟩
def gA{β:Type}(f:Nat->Option β)(i:Nat):((List.range i).filterMap f).length<=i:=by simpa using qv f (List.range i)
def kw{d0 fs:L2.St}{e0:L2.TT}(n:Nat)(f:Nat->Option V)(h0:d0=List.replicate k yP++fs)(hz:n<=DP)(i0:∀i H,aa O H->i<n->b0.go i H)(j0:∀H,aa O H->b0.stop n H)
  (step:∀i H(Y:L2.St)v H' (R:Option V->L2.St->Hp->Prop),aa O H->i<n->Y.length=k->b0.Nf i H v H'->(∀(U:L2.St)J,U.length=k->aa H J->R (f i) (U++fs) J)->
   g v (Y++fs) H' λa0 l0=>e0 a0 l0 λok J=>if ok=CP then m0 a0 J λy n0=>R (wP y) a0 n0 else R yP a0 J)
  (fin:∀D H',O D=yP->aa O H'->H' D=wP (.lst ((List.range n).filterMap f))->Q (.ref D) H'):Yh d0 b0 g e0 m0 Q O:=by
 refine Vm n (λ_ i ys _=>ys=(List.range i).filterMap f) h0 hz i0 j0 (λ_ i _ _ e=>e▸gA f i) (λ_ _=>rfl) (λD i H ys Y v H' R _ e c0 hi o0 y a b=>step i H Y v H' R c0 hi o0 y λU J f0 g0=>?_) λD H' ys p0 c0 q0 e=>fin D H' p0 c0 (e▸q0)
 cases q:f i with
 |none=>exact b U J f0 g0 (by simp[Ei,q,e])
 |some y=>exact a y U J f0 g0 (by simp[Ei,q,e])
section
variable{X:Cx}{pins:List (BP×dQ)}{σ:L2.St}{H:Hp}{s:zP}{a:BP}{Ra:List (Key×V)}{k:Key}{u r:xP}{d:V}{A:LP}{E:xP->zP->Prop}
def MH(I:Inv X pins σ H s)(e:H a=wP (.dK Ra))(d0:Ka (kV k) u)(e0:Ka d r)(m0:Ra.length<DP)(f0:∀v O s',Oa Ra k=wP v->Inv X pins σ H s'->Ka v O->Q O s')
  (g0:Oa Ra k=yP->∀s',Inv X pins σ (upd H a (.dK (lc Ra k d))) s'->Q r s'):wpAny (FP X.prog X.w) A (call (.builtin "dict.setdefault") [.ref a,u,r]) Q E s:=by
 refine ebF ?_ (yz I.za e);rintro z a0 vs U dd;refine cS ss dd.typeIs F.entry_dict_setdefault (F.args_dict_setdefault_3 _ _ _) (kt_meets_setdefault (ge X.prog X.w) a (Om d0) a0 r) ⟨vs,dd,by rw[<-U.length];exact z,λv Y=>?_,λn0 h' b0 h0=>?_⟩
 ·have q:=U.val k;cases J:Oa Ra k with
  |none=>rw[J]at q;rw[Sd.none_of q]at Y;cases Y
  |some y=>
   rw[J]at q;obtain⟨O,c0,i0⟩:=Sd.some_of q;rw[c0]at Y;cases Y;exact f0 y _ _ J (I.tok _) i0
 ·have q:=U.val k;cases J:Oa Ra k with
  |some y=>
   rw[J]at q;obtain⟨O,c0,_⟩:=Sd.some_of q
   simp_all
  |none=>
   refine g0 J _ ?_;have j0:∃q,h'.get? a=wP q:=let⟨q,_,_,l0,_⟩:=b0;⟨q,l0⟩
   have hz:(lc Ra k d).length<=DP:=by have:=Eo Ra k d;lia
   exact et I (by rw[e];exact True.intro) h0 j0 (Uv hz a0 (U.put k e0) b0)
end
inductive NH(ty tx:TE)(σ:L2.St)(Q:VK)(x:V)(H1:Hp):Prop|mk(a)(_:x=.ref a)(_:Xv H1 a)(_:ty σ H1 λy H2=>tx σ H2 λz H3=>∃Ra k,H3 a=wP (.dK Ra)/\y=kV k/\Ra.length<DP/\(∀v,Oa Ra k=wP v->Q v H3)/\(Oa Ra k=yP->Q z (upd H3 a (.dK (lc Ra k z)))))
def OH(O U Y:TE):TE:=λJ H Q=>O J H (NH U Y J Q)
section
variable{X:Cx}{o e f:UP}{td ty tx:TE}{apos Jb:sQ}
def PH(b0:PE X o td)(c0:PE X e ty)(d0:PE X f tx)(m:M2 X o "setdefault" apos e f Jb):PE X (.Call (.Attribute o "setdefault" apos) [e,f] [] Jb) (OH td ty tx):=by
 constructor;intro J s O H Q I h;refine rR m.base m.Kb m.line Mr ss F.type_dict_setdefault (Aa (b0 J s O H _ I h) ?_);rintro u s1⟨x,e0,Y,f0,a,ex,d,q1⟩;subst ex;obtain rfl:u=Value.ref a:=f0;refine ea3 ?_ (Fz Y d);rintro g0 h0 _;refine⟨g0,h0,?_⟩;rw[m.trees];refine Ip rfl (Ep (xj (Aa (c0 J s1 O e0 _ Y q1) λv0 i0⟨y,j0,l0,m0,q2⟩=>
  xj (Aa (d0 J i0 O j0 _ l0 q2) λw0 x0⟨z,n0,o0,a0,y0,k,p0,q0,r0,q3,s0⟩=>Wl ?_))))
 subst q0;exact MH o0 p0 m0 a0 r0 (λv z0 t0 l U u0=>⟨v,n0,U,u0,q3 v l⟩) λl t0 U=>⟨z,_,U,a0,s0 l⟩
def hA:∀{a b:List Int},a.Perm b->a.Pairwise (·<=·)->b.Pairwise (·<=·)->a=b
 |[],_,p,_,_=>(List.nil_perm.mp p).symm
 |x::r,b,p,J,O=>by
  cases b with
  |nil=>exact absurd (List.perm_nil.mp p) (by simp)
  |cons y t=>
   rw[Ls]at J O;have U:x<=y:=by
    rcases jb.mp (p.symm.subset Yf)with e|e
    ·simp_all
    ·exact J.1 y e
   have Y:y<=x:=by
    rcases jb.mp (p.subset Yf)with e|e
    ·simp_all
    ·exact O.1 x e
   have e:x=y:=by lia
   subst e;rw[hA ((List.perm_cons x).mp p) J.2 O.2]
def Yc(ks:List Int):List Int:=ks.mergeSort (·<=·)
def Ff(ks:List Int):(Yc ks).Perm ks:=Nr ks _
def iA(ks:List Int):(Yc ks).Pairwise (·<=·):=by
 have:=List.pairwise_mergeSort (le:=λa b:Int=>decide (a<=b)) (by lia) (λa b=>by lia) ks;exact this.imp (by(intros;simp_all))
def jA{ks J:List Int}(p:J.Perm ks)(h:J.Pairwise (·<=·)):J=Yc ks:=hA (p.trans (Ff ks).symm) h (iA ks)
def kA:∀{us:List xP}{ns:List Int},qQ us ns->Qa (ns.map V.int) us:=by
 intro _ _ h;induction h with
 |nil=>exact .nil
 |cons _ _ t J=>exact .cons ⟨_,rfl⟩ J
def lw:∀{us:List xP}{ns:List Int},us.length=ns.length->(∀(j:Nat)(v:xP),us[j]?=wP v->∃n t,ns[j]?=wP n/\v=Value.int n t)->qQ us ns
 |[],[],_,_=>.nil
 |[],_::_,h,_=>by simp at h
 |_::_,[],h,_=>by simp at h
 |u::us,n::ns,h,J=>by
  obtain⟨m,t,e,rfl⟩:=J 0 u rfl;cases(e);exact .cons _ _ (lw (by simpa using h) λj v e=>J (j+1) v (by simpa using e))
def QH{J:List (Key×V)}{vs:List (Key×xP)}{ks:List Int}{O:Array xP}(U:KV J vs)(ek:J.map (·.1)=ks.map Sum.inl)(h:O.size=vs.length/\∀(j:Nat)(v:xP),O[j]?=wP v->∃(k:Key)(x:xP),vs[j]?=wP (k,x)/\um k v=CP):vs.length=ks.length/\qQ O.toList ks:=by
 have Y:vs.length=ks.length:=by rw[<-U.length,<-pa (f:=(·.1)) (as:=J),ek,pa]
 refine⟨Y,lw (by rw[Lc,<-Y];exact h.1) λj v d0=>?_⟩;refine ea8 ?_ (h.2 j v (by rw[<-ee];exact d0));rintro k x e0 f0;have a0:(vs.map (·.1))[j]?=wP k:=by rw[fb,e0];rfl
 rw[<-U.keys,ek,fb]at a0;obtain⟨n,g0,rfl⟩:=Jf.mp a0;rcases Bj f0 with⟨i,t,b0,c0⟩|⟨y,t,b0,c0⟩<;>cases b0
 exact nx0 n t g0 c0
def RH(h0:X.calm=CP):Cf X (.builtin "sorted") (λxs H Q=>∃(a:BP)(O:List (Key×V))(ks:List Int),xs=[V.ref a]/\Rd H a (.dK O)/\O.map (·.1)=ks.map Sum.inl/\ks.length<64/\∀p,H p=yP->Q (.ref p) (upd H p (.lst ((Yc ks).map V.int)))):=by
 intro v0 s w0 H xs us Q I r h;revert h;refine eaF ?_;rintro a O ks rfl e ek i0 q;obtain⟨u,rfl,j0⟩:=gg r;cases j0;refine ebF ?_ (Ej I.za e);rintro z hd vs Y dd;obtain⟨ep,l0⟩:=dd.dictAt;have hsz:vs.length<=DP:=by rw[<-Y.length];exact z
 refine Np CQ Vn Ln (NQ _) ?_;refine ba (ca ?_);refine ba (W.kdu_collect (W.kdl_dict hd) (I.ok.hd h0) l0 hsz λh' a0 J m0 b0=>?_);have c0:J.toList.length=vs.length:=by rw[Lc];exact b0.1
 obtain⟨d0,n0⟩:=QH Y ek b0;refine ba (oj ?_ (by rw[c0];exact hsz));have U:(h'.push {cls:=.type "list",data:=.seq J.toList.toArray}).get? h'.objs.size=wP (PP "list" J.toList.toArray 0):=Hb _ rfl;refine ba (Jc (zd En ⟨_,U,rfl⟩ Mn (list_sort_tree U n0 (by rw[c0,d0];exact i0) λout x0 o0 p0 q0=>⟨_,rfl,?_⟩) (Wp _)));obtain⟨r0,s0⟩:=sortedHeap_at U;have e0:=I.kept (t':=a0) m0;have t0:=jA p0 q0;subst t0;have u0:=e0.laid (o:=.lst ((Yc ks).map V.int)) (t':=a0) (h':=sortedHeap (h'.push {cls:=.type "list",data:=.seq J.toList.toArray}) h'.objs.size J.toList out)
  (λb v f0=>by
   have g0:=Xa f0;rw[sortedHeap_old (Ab g0) (by rw[Zf];exact Rn g0)];exact Ta _ f0) (xa _)
  (⟨by rw[pa,(Ff ks).length_eq,<-d0];exact hsz,nx0 out.toList r0 (kA o0) (by simpa[PP]using s0)⟩)
 exact ca ⟨_,rfl,.ref _,_,u0,rfl,q _ (e0.za.fresh (xa _))⟩
def lA(O:X.calm=CP):Cf X (.builtin "sorted") (λxs H Q=>∃(a:BP)(J:List (Key×V))(ks:List Int),xs=[V.ref a]/\H a=wP (.dK J)/\J.map (·.1)=ks.map Sum.inl/\ks.length<64/\∀p,H p=yP->Q (.ref p) (upd H p (.lst ((Yc ks).map V.int)))):=
 (by rintro _ _ _ _ _ _ _ I r;refine eb0 ?_;rintro a J ks e h q;exact RH O _ _ _ _ _ _ _ I r (nx7 a J ks e (.inl h) q))
end
section
variable{K:W.Frag}
def SH:W.kitOne K (.type "list") (.type "list")=wP CP:=by
 show(if(Value.type "list"==Value.type "list")=CP then wP CP else if W.kitMeta "list"=CP then(zQ "list").map (·.contains (Value.type "list"))else yP)=wP CP;decide+kernel
end
inductive Si(x:V)(vs:List V)(H:Hp)(Q:VK):Prop|mk(l xs y)(_:x=.ref l)(_:vs=[y])(_:H l=wP (.lst xs))(_:xs.length<DP)(_:∀H',H' l=wP (.lst (xs++[y]))->(∀b o,b≠l->H b=wP o->H' b=wP o)->Q .Pa H')
def Fj:Bo X "list.append" Si:=by
 intro J s O H x vs v us Q I U Y h;obtain⟨l,xs,y,ex,a0,b0,hz,q⟩:=h;exact uz J s O H x vs v us Q I U Y ⟨l,xs,y,ex,a0,b0,hz,q _ la λb o n e=>by rw[oa n];exact e⟩
inductive TH(o i v:V)(H:Hp)(Q:(Hp->Prop)):Prop|mk(p xs k j)(_:o=.ref p)(_:i=.int k)(_:H p=wP (.lst xs))(_:hg xs.length k=wP j)(_:∀H',H' p=wP (.lst (xs.set j v))->(∀b o,b≠p->H b=wP o->H' b=wP o)->Q H')
def nA:yv X TH:=by
 intro J s O H o i v U Y u Q I a0 b0 c0 h;obtain⟨p,xs,k,j,d0,e0,f0,g0,q⟩:=h;exact ZF J s O H o i v U Y u Q I a0 b0 c0 ⟨p,xs,k,j,d0,e0,f0,g0,q _ la λb o n e=>by rw[oa n];exact e⟩
def oA(K:W.Frag)(a:BP)(c:Nat->Int):It:=
 ⟨λi H=>∃xs x,ia K H a xs/\xs[i]?=wP x,λi H v H'=>∃p x,(∀xs,ia K H a xs->xs[i]?=wP x)/\v=.ref p/\H p=yP/\H'=upd H p (.tup [.int (c i),x]),λi H=>∃xs,ia K H a xs/\xs.length=i⟩
abbrev Mq(K:W.Frag)(a:BP):It:=oA K a λi=>i
def UH(d:Nat){P:Nat->xP->Prop}{St:Nat->NP->Prop}(D:Draws prog w A J fp n P St):
  Draws prog w A J fp (n+d) (λi v=>∃j,i=j+d/\P j v) (λi h=>∃j,i=j+d/\St j h)where
 live:=λi h⟨j,_,st⟩=>D.live j h st
 frame:=λi h h' ⟨j,e,st⟩k=>⟨j,e,D.frame j h h' st k⟩
 item:=by
  rintro i s Q E hi⟨j,e,st⟩O;subst e;exact D.item j s Q E (by simp_all) st λx h' U Y a0 b0=>O x h' U ⟨j,rfl,Y⟩ ⟨j+1,by lia,a0⟩ b0
 done:=by
  rintro s Q E⟨j,e,st⟩c0;obtain rfl:j=n:=by simp_all
  exact D.done s Q E st c0
section
variable{P:HP}{w:KP}{K:W.Frag}
def VH{a0:L2.St}(I:Inv X Y a0 H s)(fe:Ug X Y H e)(J:Ug X Y H U)(c0:∃o,h'.get? e=wP o)(d0:∃o,h'.get? U=wP o)
  (k:∀b o,b≠e->b≠U->s.heap.get? b=wP o->h'.get? b=wP o):Inv X Y a0 H {s with heap:=h',toks:=t'}:=by
 have e0:∀b o,H b=wP o->b≠e/\b≠U:=λb o q=>⟨λz=>(by rw[z,fe.1]at q;cases q),λz=>(by rw[z,J.1]at q;cases q)⟩
 refine I.Rg (ch:=[e,U]) rfl ⟨λb o q _ _ O=>?_,λb o q _ _ O=>?_,λb o q n _=>n,λb o q O=>?_,λb xs q=>q,λb o u q=>q,λb f0(q:H b=_)=>⟨#[],by rw[q];simp⟩⟩ (λb u q=>?_) I.bare λb b0=>?_
 ·simp_all
 ·simp only[jb,qj,uj,not_or]at O;exact⟨o.slots,k b o O.1 O.2 q⟩
 ·simp_all
 ·refine(I.za b u q).Dd (λc v g0 z=>?_) (λc z=>z) λc xs z=>z
  grind
 ·simp only[jb,qj,uj]at b0;rcases b0 with rfl|rfl
  ·exact⟨fe.2.2.2.1,fe.2.1,fe.2.2.2.2.1,fe.2.2.2.2.2⟩
  ·exact⟨J.2.2.2.1,J.2.1,J.2.2.2.2.1,J.2.2.2.2.2⟩
def WH(i0:∀i:Nat,c i=((i+d:Nat):Int))(a e J:BP)(j0:e≠J):wl P w K (.Tuple c1 d1 e1) (oA K a c) [e,J] e (λi h=>(∃old,IsEnum h e J (c i) old)/\h.IsListIter J a i)where
 mem:=by simp
 obj:=λi h⟨⟨old,O⟩,hi⟩c a0=>by
  simp only[jb,qj,uj]at a0;rcases a0 with z|z
  ·rw[z];exact(by simp_all)
  ·rw[z];revert hi;refine ea7 ?_;rintro o b0 U f1;exact(by grind)
 keep:=λi h h' ⟨⟨old,O⟩,hi⟩k=>⟨by grind,hi.at (by grind)⟩
 item:=by
  intro X l0 m0 n0 a0 i o0 s p0 H E I c0 st q0;subst l0 m0 n0;obtain⟨⟨old,O⟩,hi⟩:=st;revert q0;refine ea8 ?_;rintro xs x e0 f0;refine ea7 ?_ (I.list e0);rintro d0 r0 p hz;refine ea1 ?_ (r0.get f0);rintro u z0 I0;have g1:i<d0.toArray.size:=by rw[ic];exact(Zb.mp z0).1
  have s0:a≠J:=λz=>by
   obtain⟨o,Y,U,_⟩:=p.isList;obtain⟨J0,t0,u0,_⟩:=hi;rw[z,t0]at Y;cases Y;rw[u0]at U;exact absurd U (by decide)
  have K0:e≠a:=λz=>by
   obtain⟨o,Y,U,_⟩:=p.isList;rw[<-z,O]at Y;cases Y;exact absurd U (by grind)
  have L0:IsEnum s.heap e J ((i+d:Nat):Int) old:=i0 i▸O;refine wpAny_pyNext_enum_itemD (UH d (Draws.list (A:=X.A.in1) (I.ok.hd a0) J a s0 d0.toArray)) L0 ⟨i,rfl,hi,p.isList⟩ (by simp_all) j0 ?_ λg0 h' h0 v0 M0 w0 N0 h1 O0=>?_
  ·simp only[jb,qj,uj,not_or];exact⟨j0,K0⟩
  revert v0;refine ea1 ?_;rintro j i1 v0;obtain rfl:j=i:=by simp_all
  revert w0;refine ea7 ?_;rintro P0 j1 w0 _;obtain rfl:P0=j+1:=by lia
  have ex:g0=u:=by
   have:d0[j]?=wP g0:=by simpa using v0
   rw[z0]at this;exact(me this).symm
  subst ex;refine⟨_,rfl,wpAny_letOwnedTupleGo_enum M0 λx0 A0 y0=>?_⟩;have B0:e<s.heap.objs.size:=Xa O;have Q0:J<s.heap.objs.size:=let⟨o,b0,_⟩:=hi;Xa b0
  have C0:s.heap.get? s.heap.objs.size=yP:=bq (xa _);have R0:x0.get? s.heap.objs.size=wP {cls:=.type "tuple",data:=.seq #[.int ((j+d:Nat):Int) h0,g0]}:=y0.extBut _ _ (Zj B0) N0;have D0:=w0.at λo b0=>y0.extBut _ _ (Dc j0) b0
  have S0:Inv X o0 p0 H {s with heap:=x0,toks:=h0+1}:=VH I (c0 e (by simp)) (c0 J (by simp)) ⟨_,A0⟩ (by obtain⟨o,b0,_⟩:=D0;exact⟨o,b0⟩) λb o F0 T0 q=>y0.extBut _ _ F0 (O0 b o F0 T0 q)
  have HT:H s.heap.objs.size=yP:=Pm I C0;have U0:Inv X o0 p0 (upd H s.heap.objs.size (.tup [.int (c j),x])) {s with heap:=x0,toks:=h0+1}:=xH I S0 C0 HT (⟨by show 2<=DP;decide,[.int ((j+d:Nat):Int) h0,g0],.cons ⟨_,by rw[i0]⟩ (.cons I0 .nil),nx18 _ R0 rfl _ rfl⟩);refine nx19 (.ref s.heap.objs.size) _ U0 rfl (nx3 s.heap.objs.size x (λys V0=>by rw[I.pe V0 e0];exact f0) rfl HT rfl) ⟨⟨_,by rw[i0,show j+1+d=j+d+1 by simp_all];exact A0⟩,D0⟩ λc G0=>?_;simp only[jb,qj,uj]at G0;rcases G0 with z|z
  ·rw[z,oa (Ab B0)];exact(c0 e (by simp)).1
  ·rw[z,oa (Ab Q0)];exact(c0 J (by simp)).1
 done:=by
  intro X l0 m0 n0 a0 i o0 s p0 H E I c0 st q0;subst l0 m0 n0;obtain⟨⟨old,O⟩,hi⟩:=st;obtain⟨xs,e0,f0⟩:=q0;refine ea7 ?_ (I.list e0);rintro d0 r0 p hz;have s0:a≠J:=λz=>by
   obtain⟨o,Y,U,_⟩:=p.isList;obtain⟨J0,t0,u0,_⟩:=hi;rw[z,t0]at Y;cases Y;rw[u0]at U;exact absurd U (by decide)
  have W0:d0.toArray.size=i:=by rw[ic,<-r0.length];exact f0
  subst W0;refine wpAny_pyNext_enum_endD (Draws.list (A:=X.A.in1) (I.ok.hd a0) J a s0 d0.toArray) O ⟨hi,p.isList⟩ λh' k=>⟨rfl,?_⟩
  refine eaD ?_ (c0 J (by simp));rintro X0 Y0 l1 Z0 a1 b1;exact I.turned (t':=s.toks) ‹_› X0 Y0 Z0 a1 b1
 self:=λ_ _ _ _ _ st h=>by obtain⟨⟨_,O⟩,_⟩:=st;exact wpAny_pyIter_enum O h
end
section
variable{X:Cx}
def XH(K:W.Frag)(O:TA):TI:=λU H R=>O U H λvs J=>∃a xs,vs=[.ref a]/\J a=wP (.lst xs)/\R (Mq K a) J
def mw(Y:Gl X "enumerate")(a0:X.mg "enumerate"=yP)(b0:PA X [a] c0)(d0:JP [a] X.env=[(GP,XP a X.env)]:=by rfl):
  PI X (.Tuple n0 o0 p0) (.Call (.Name "enumerate" p) [a] [] pos) (XH X.K c0):=by
 constructor;intro e0 s f0 H R I h;refine Call_ (Sg I Y a0 boot_enumerate (jm (Aa (b0 pos e0 s f0 H _ I h) ?_) d0 rfl));rintro us s1⟨vs,g0,J,h0,q1⟩;revert q1;refine ea0 ?_;rintro l xs rfl i0 q;refine ea1 ?_ (gg h0);rintro u rfl j0;cases j0;refine ec6 ?_ ((J.za l _ i0));rintro z q0 n r0 e;refine call_enumerate_1 e λh' l0 hi hz k=>?_
 have m0:=J.kept (t':=s1.toks) k;refine wpAny_pyIter_enum l0 ⟨s1.heap.objs.size+1,[s1.heap.objs.size+1,s1.heap.objs.size],_,Mq X.K l,g0,rfl,m0,WH (d:=0) (λ_=>rfl) l _ _ (by simp_all),by grind,λb O=>?_,q⟩;have U:s1.heap.objs.size<=b:=by
  simp only[jb,qj,uj]at O;rcases O with z|z<;>(rw[z];first|exact qi _|exact xa _)
 exact J.vg U (J.za.fresh U)
end
def pw{K:PySem.W.Frag}{g:TG}{a0:TS}{D:ug}(Pv:Nat->L2.St->Hp->Prop)(i0:Pv 0 J H)(b0:∀i J H,Pv i J H->ia K H a xs)
  (e0:∀i x J H p,xs[i]?=wP x->Pv i J H->H p=yP->g (.ref p) J (upd H p (.tup [.int i,x])) λO U=>a0 {D with nx:=Pv (i+1),ct:=Pv (i+1),bk:=D.nx} O U)(f0:∀J H,Pv xs.length J H->D.nx J H):
  ∃W:Nat->Nat->L2.St->Hp->Prop,(∃m,W 0 m J H)/\∀i m J H,W i m J H->
   ((Mq K a).stop i H/\D.nx J H)\/((Mq K a).go i H/\∃N:L2.St->Hp->Prop,(∀Y H',N Y H'->∃c0,c0<m/\W (i+1) c0 Y H')/\∀x H',(Mq K a).Nf i H x H'->g x J H' λO U=>a0 {D with nx:=N,ct:=N,bk:=D.nx} O U):=by
 refine⟨λi m J H=>m=xs.length-i/\i<=xs.length/\Pv i J H,by grind,?_⟩;rintro i m J H;refine ea3 ?_;rintro rfl hi p;by_cases d0:i<xs.length
 ·refine .inr ⟨nx0 xs (xs[i]) (b0 i J H p) (by simp[d0]),Pv (i+1),λY H' g0=>⟨xs.length-(i+1),by lia,rfl,d0,g0⟩,?_⟩;rintro x H';refine eaA ?_;rintro q y j0 rfl h0 rfl;exact e0 i y J H q (by grind) p h0
 ·have e:i=xs.length:=by lia
  subst e;exact .inl ⟨⟨xs,b0 _ J H p,rfl⟩,f0 J H p⟩
def Wb:∀{l:List α}{m:List β}{i:Nat}{a:α},Paired F l m->l[i]?=wP a->∃b,m[i]?=wP b/\F a b:=by
 intro _ _ i _ h e;induction h generalizing i with
 |nil=>simp at e
 |cons r t J=>cases i with
  |zero=>simp_all
  |succ i=>
   refine ea1 ?_ (J (i:=i) (by simpa using e));rintro a O f
   simp_all
open Builtin.Str PySem.StrLaws
def pre(d:Nat):List (List Nat)->List (List Nat)
 |[]=>[]
 |p::r=>p::r.map (d::·)
end My
namespace My
open PySem PySem.Spec PyProof.Rows L2 PyProof
section
variable{prog:HP}{w:KP}{A:LP}
def YH{ns:List Int}(h:ns[j]?=wP n):ns.take (j+1)=ns.take j++[n]:=by rw[qc,h];rfl
end
def qb{F:α->β->Prop}(p:Paired F xs bs):xs.length=bs.length:=by
 induction p with
 |nil=>rfl
 |cons _ _ J=>simp only[Od,J]
structure pA(K:W.Frag)(C:BP):Prop where
 makes:W.makesIn K C=CP
 init:W.findIn K (.ref C) "__init__"=wP (wP (.builtin "object.__init__"))
 kp:W.keepIn K (.ref C)=CP
section
variable{X:Cx}
def ZH(C:BP):TE:=λ_ H Q=>∀x J,H x=yP->H J=yP->J≠x->Q (.ref x) (upd (upd H J (.own x)) x (.ins C J []))
def Nq(M:pA X.K C)(J:Gl X x)(O:X.mg x=wP (.ref C))(U:(x==("__debug__":Str))=GP:=by decide):PE X (.Call (.Name x p) [] [] pos) (ZH C):=by
 constructor;intro f0 s g0 H Q I h;refine Di (vm I J O ?_ U);refine W.callWith_K0 I.Gd M.kp (HQ (tF I.Gd M.makes M.init (λself=>W.Looks.of_pure (W.oi_bind self)) ?_));have Y:=Inv.made (C:=C) I;have a0:=h (s.heap.objs.size+1) s.heap.objs.size (I.za.fresh (qi _)) (I.za.fresh (xa _)) (by grind);have b0:=W.makes_of (M:=FP X.prog X.w) I.Gd M.makes;have c0:((s.heap.push W.emptyDict).push (W.instObj C s.heap.objs.size)).get? (s.heap.objs.size+1)=wP (W.instObj C s.heap.objs.size):=by
  have:=Hb (s.heap.push W.emptyDict) (o:=W.instObj C s.heap.objs.size) rfl;rwa[Zf]at this
 have d0:W.Looks (FP X.prog X.w) ((s.heap.push W.emptyDict).push (W.instObj C s.heap.objs.size)) (typeOf (.ref (s.heap.objs.size+1))) (.ref C):=(W.Looks.ld c0).andThen .now;have e0:W.Looks (FP X.prog X.w) ((s.heap.push W.emptyDict).push (W.instObj C s.heap.objs.size)) (NR (.ref (s.heap.objs.size+1)) (.type "object")) CP:=d0.andThen (b0.top.keeps λb o e=>Ta _ (Ta _ e));refine bR W.oi_plain W.entry_oi (@W.check_slot (FP X.prog X.w) _ _ _ "object.__init__" "object" "__init__" (.ref (s.heap.objs.size+1)) [] [] _ W.oi_kind W.oi_split e0 (W.oi_args (.ref (s.heap.objs.size+1))) ?_);exact ca (And.intro rfl ⟨V.ref _,_,Y,rfl,a0⟩)
def qA(X:Cx){J:Type}(cls:J->BP)(m:Str)(sp:J->Sp)(k:Nat):Prop:=∀l,∃f fd O,Cls X.K (cls l)/\wg X.K (cls l) m f/\uc X.prog X.w X.K X.mg X.base Ge k f fd O (sp l)/\Td X.K fd O []
inductive aI(cls:ι->BP)(m:Str)(sp:ι->Sp)(t:TA)(σ:L2.St)(Q:VK)(x:V)(H1:Hp):Prop|mk(a l dx fs)(_:x=.ref a)(_:H1 a=wP (.ins (cls l) dx fs))(_:fs.lookup m=yP)(_:t σ H1 λvs H2=>sp l (x::vs) H2 Q E0)
def rA{J:Type}(cls:J->BP)(m:Str)(sp:J->Sp)(U:TE)(t:TA):TE:=λO H Q=>U O H (aI cls m sp t O Q)
def qw{O:Type}{cls:O->BP}{m:Str}{sp:O->Sp}{k:Nat}{o e:UP}{es:List UP}{U:TE}{t:TA}{J pos:sQ}{pl:SR Bool}(f0:PE X o U)(M:qA X cls m sp k)(g0:Wa k X.A)(h0:PA X (e::es) t)
  (i0:JP (e::es) X.env=(GP,XP e X.env)::JP es X.env:=by rfl)(j0:(cQ pos (JP es X.env)).any (·.1)=GP:=by rfl)
  (l0:XP (.Call (.Attribute o m J) (e::es) [] pos) X.env=(do let Y<-XP o X.env;tR J.atName;let(f,first)<-DQ [Y] (WR Y m pl);callWith pos f first (cQ pos (JP (e::es) X.env)) (RR pos (aR [] X.env))):=by rfl):
  PE X (.Call (.Attribute o m J) (e::es) [] pos) (rA cls m sp U t):=by
 constructor;intro a0 s b0 H Q I h;refine W.methodCall_KW (Aa (f0 a0 s b0 H _ I h) ?_) l0;rintro u s1⟨x,m0,c0,n0,a,l,q0,fs,ex,o0,lk,q⟩;subst ex;obtain rfl:u=Value.ref a:=n0;refine ea4 ?_ (M l);rintro f fd r0 c d0 F p0;refine Yy c0 o0 c d0 lk ?_;refine W.callWith_K I.ok.mod.ko d0.kp (Aa (h0 pos a0 s1 b0 m0 _ c0 q) ?_) i0 j0;rintro us s0⟨vs,t0,e0,r,q2⟩;refine⟨e0.Gd,?_⟩;exact Qv (vs:=.ref a::vs) F g0 p0 .nil Zv e0 (.cons rfl r) (by rw[z1m];exact q2)
def sA{U:Type}{cls:U->BP}{m:Str}{sp:U->Sp}{k:Nat}{o:UP}{Y:TE}{J pos:sQ}{pl:SR Bool}(c0:PE X o Y)(M:qA X cls m sp k)(d0:Wa k X.A)
  (e0:XP (.Call (.Attribute o m J) [] [] pos) X.env=(do let a0<-XP o X.env;tR J.atName;let(f,first)<-DQ [a0] (WR a0 m pl);callWith pos f first (cQ pos (JP [] X.env)) (RR pos (aR [] X.env))):=by rfl):
  PE X (.Call (.Attribute o m J) [] [] pos) (rA cls m sp Y xq):=by
 constructor;intro f0 s g0 H Q I h;refine W.methodCall_KW (Aa (c0 f0 s g0 H _ I h) ?_) e0;rintro u s1⟨x,l0,O,h0,a,l,m0,fs,ex,i0,lk,q⟩;subst ex;obtain rfl:u=Value.ref a:=h0;refine ea4 ?_ (M l);rintro f fd n0 c b0 F j0;refine Yy O i0 c b0 lk ?_;exact W.callWith_K0 O.Gd b0.kp (Qv (vs:=[.ref a]) F d0 j0 .nil Zv O (.cons rfl .nil) q)
def Oq{st:hQ}(h:PS X.Tg st t):PS X st t:=by
 constructor;intro U s Y H D I a0;refine Pc (h U s Y H D (I.Wc _) a0) (λf s' z=>?_) λ_ _ z=>z.elim
 cases f with
 |next=>obtain⟨J,H',O,q⟩:=z;exact nx0 J H' O.Va q
 |brk=>obtain⟨J,H',O,q⟩:=z;exact nx0 J H' O.Va q
 |cont=>obtain⟨J,H',O,q⟩:=z;exact nx0 J H' O.Va q
 |ret u=>obtain⟨v,J,H',O,r,q⟩:=z;exact nx7 v J H' O.Va r q
def bI(b0:PE X e c0)(hz:z.length<=1000)(i0:evalEach [.Constant (.str z) k Y,.FormattedValue e 114 yP a0] X.env=[XP (.Constant (.str z) k Y) X.env,XP (.FormattedValue e 114 yP a0) X.env]:=by rfl):
  PE X (.JoinedStr [.Constant (.str z) k Y,.FormattedValue e 114 yP a0] pos) (λJ H Q=>c0 J H λx O=>∃y:Str,x=.str y/\(∀c∈y.cps.toList,c<16^8)/\y.length<=1000/\∀r,Q (.str r) O):=by
 constructor;intro d0 s J H Q I h;refine wpAny_JoinedStr ?_;have U:(Str.empty++z).length=z.length:=by rw[Nn];show 0+_=_;simp_all
 have j0:(10002:Nat)+1000<=DP:=by decide
 refine Calls.Constant_str (nx5 _ _ rfl (by rw[U];lia) ?_);refine wpAny_FormattedValue_repr (Aa (b0 d0 _ J H _ (I.tok _) h) ?_);rintro u s1⟨x,O,e0,f0,y,g0,h0,l0,q⟩;subst g0;obtain⟨t,rfl⟩:=f0;have m0:=PySem.StrLaws.reprText_len y h0;refine wpAny_pyReprObj_str ?_ (by lia);refine formatField_str (λt' n0=>nx5 _ _ rfl (by rw[Nn,U];lia) ?_) (by lia);exact⟨by rw[Nn,U];lia,.str _,O,(e0.tok _).tok _,⟨_,rfl⟩,q _⟩
end
def rf(xs:Array Nat):Prop:=xs.toList.Pairwise (·<·)
def rf.lt(h:rf xs){i j x y:Nat}(O:i<j)(hi:xs[i]?=wP x)(J:xs[j]?=wP y):x<y:=by
 rw[<-ee]at hi J;obtain⟨U,Y⟩:=Zb.mp hi;obtain⟨a0,b0⟩:=Zb.mp J;have:=Tj.mp h i j U a0 O;rw[Y,b0]at this;exact this
def sw(h:rf xs)(j:Nat):∀(fuel lo hi:Nat),hi-lo<=fuel->lo<=hi->hi<=xs.size->(∀k x,xs[k]?=wP x->k<lo->x<j)->(∀k x,xs[k]?=wP x->hi<=k->j<=x)->
  ∀k x,xs[k]?=wP x->(k<SetTable.below.go xs j fuel lo hi->x<j)/\(SetTable.below.go xs j fuel lo hi<=k->j<=x)
 |0,lo,hi,b0,c0,U,J,O=>λk x e=>by
  have:lo=hi:=by grind
  subst this;exact⟨J k x e,O k x e⟩
 |fuel+1,lo,hi,b0,c0,U,J,O=>λk x e=>by
  unfold SetTable.below.go;by_cases d0:lo<hi
  ·rw[wa d0];have e0:lo<=(lo+hi)/2:=by lia
   have h0:(lo+hi)/2<hi:=by lia
   have Y:(lo+hi)/2<xs.size:=by lia
   have em:=Ci Y;have f0:xs.getD ((lo+hi)/2) j=xs[(lo+hi)/2]:=by simp[Array.getD,Y]
   dsimp only;rw[f0];by_cases a0:xs[(lo+hi)/2]<j
   ·rw[wa a0];refine sw h j fuel _ hi (by grind) (by lia) U (λk x e g0=>?_) O k x e;by_cases q:k=(lo+hi)/2
    ·simp_all
    ·have:=h.lt (by lia) e em;lia
   ·rw[ma a0];refine sw h j fuel lo _ (by grind) e0 (by lia) J (λk x e g0=>?_) k x e;by_cases q:k=(lo+hi)/2
    ·simp_all
    ·have:=h.lt (by lia) em e;lia
  grind
def Wm(h:rf xs)(j:Nat)(e:xs[k]?=wP x):(k<SetTable.below xs j->x<j)/\(SetTable.below xs j<=k->j<=x):=by
 refine sw h j xs.size 0 xs.size (by lia) (Tb _) (xa _) (by(intros;simp_all)) (λk x e J=>?_) k x e
 simp_all
def uA(h:rf xs)(e:xs[i]?=wP x):SetTable.below xs x=i:=by
 have O:=Wm h x e;by_cases q:SetTable.below xs x<=i
 ·by_cases q2:SetTable.below xs x=i
  ·exact q2
  ·have U:SetTable.below xs x<i:=by lia
   have hi:=(fl.mp e).1;have J:xs[SetTable.below xs x]?=wP xs[SetTable.below xs x]:=by simp_all
   have Y:=(Wm h x J).2 (xa _);have a0:=h.lt U J e;lia
 ·have:=O.1 (by simp_all);simp_all
def cI(h:rf xs)(e:xs[SetTable.below xs j]?≠wP j):j∉xs.toList:=λO=>by
 obtain⟨k,U,ek⟩:=Tp O;have J:xs[k]?=wP j:=by rw[<-ee,Pd U,ek]
 rw[uA h J]at e;exact e J
def rf.insert(h:rf xs)(d0:j∉xs.toList):rf (SetTable.insertAt xs (SetTable.below xs j) j):=by
 unfold rf;rw[SetTable.toList_insertAt];refine List.pairwise_append.mpr ⟨h.sublist (by grind),Ls.mpr ⟨λb J=>?_,h.sublist (by grind)⟩,λa a0 b J=>?_⟩
 ·obtain⟨k,O,ek⟩:=Tp J;rw[Lr]at ek;have U:xs[SetTable.below xs j+k]?=wP b:=by rw[<-ee,Pd (by rw[dg]at O;grind),ek]
  have:=(Wm h j U).2 (by simp_all);have e0:b≠j:=by grind
  lia
 ·obtain⟨k,O,ek⟩:=Tp a0;rw[Pp]at ek;rw[Ae]at O;have U:xs[k]?=wP a:=by rw[<-ee,Pd (by grind),ek]
  have f0:=(Wm h j U).1 (by grind);rcases jb.mp J with z|z
  ·simp_all
  ·obtain⟨k2,b0,Y⟩:=Tp z;rw[Lr]at Y;have c0:xs[SetTable.below xs j+k2]?=wP b:=by rw[<-ee,Pd (by rw[dg]at b0;lia),Y]
   have:=(Wm h j c0).2 (by lia);lia
structure Gc(t:SetTable):Prop where
 up:rf t.place
 nd:t.dummies=#[]
def Gc.fresh(f m:Nat)(l:Bool):Gc (.fresh f m l):=⟨List.Pairwise.nil,rfl⟩
def Gc.sf(h:Gc t)(j:Nat):SetTable.has t.dummies j=GP:=by
 rw[h.nd];unfold SetTable.has;simp
def Gc.Xm(h:Gc t):∀(O:Nat)(p:SetTable.Probe){j:Nat}{d:Option Nat},p.dummy=yP->SetTable.probe.go t f z O p=wP (.empty j d)->d=yP/\j∉t.place.toList:=by
 intro l;induction l with
 |zero=>intro p j d U e;unfold SetTable.probe.go at e;cases e
 |succ O Y=>
  intro p j d U e;unfold SetTable.probe.go at e;have a0:∀q:SetTable.Probe,(t.advance q).dummy=q.dummy:=λq=>by
   unfold SetTable.advance;split<;>rfl
  cases J:t.slot p.j with
  |empty=>
   rw[J]at e;cases e;refine⟨U,cI h.up λz=>?_⟩;unfold SetTable.slot at J
   simp_all
  |dummy=>
   unfold SetTable.slot at J;simp only[h.sf]at J;split at J<;>cases J
  |live i=>
   rw[J]at e;dsimp only at e;split at e
   ·cases e
   ·exact Y _ (by simp_all) e
def Gc.free(h:Gc t)(e:t.freeSlot z=wP (j,b)):j∉t.place.toList:=by
 unfold SetTable.freeSlot at e;cases J:t.probe (λ_=>z+1) z (t.probeStart z)with
 |none=>rw[J]at e;cases e
 |some m=>
  rw[J]at e;cases m with
  |candidate a b c=>cases e
  |empty O d=>
   obtain⟨U,Y⟩:=h.Xm _ _ rfl J
   grind
def Gc.put(h:Gc t)(J:j∉t.place.toList):Gc (t.put j).1/\(t.put j).1.led=t.led:=by
 refine⟨⟨h.up.insert J,?_⟩,rfl⟩;show(if SetTable.has t.dummies j=CP then _ else t.dummies)=#[];rw[h.sf,ma (by simp)];exact h.nd
def dI(n:Nat):rf (Array.range n):=by
 unfold rf;rw[Array.toList_range];exact Sn
def Gc.ue(t:SetTable)(n:Nat):Gc (t.standIn n)/\(t.standIn n).led=t.led:=⟨⟨dI n,rfl⟩,rfl⟩
def Gc.nk(h:Gc t)(n:Nat):Gc (t.orStandIn n)/\(t.orStandIn n).led=t.led:=by
 unfold SetTable.orStandIn;split
 ·simp_all
 ·exact Gc.ue t n
def Gc.qk(h:Gc t)(es:Array (Int×xP))(z:Int)(x:xP):Gc (layNew t es z x).2.1/\(layNew t es z x).2.1.led=t.led:=by
 unfold layNew;split
 ·rename_i slot wd e;obtain⟨J,O⟩:=h.put (h.free e);obtain⟨U,Y⟩:=J.nk (SetTable.insertAt es (t.put slot).2 (z,x)).size
  simp[*]
 ·exact Gc.ue t _
def vA(e:SetTable.laid mask d0 e0 led pl U=wP (t,o)):Gc t/\t.led=led:=by
 unfold SetTable.laid at e;cases O:SetTable.layClean mask U with
 |none=>rw[O]at e;cases e
 |some J=>
  rw[O]at e;cases e;refine⟨⟨?_,rfl⟩,rfl⟩;have key:∀l:List Nat,l.Pairwise (·<·)->((l.filterMap λj=>(J.getD j yP).map (j,·)).map (·.1)).Pairwise (·<·)/\∀x∈(l.filterMap λj=>(J.getD j yP).map (j,·)).map (·.1),x∈l:=by
   intro l;induction l with
   |nil=>intro _;exact⟨.nil,by(intros;subst_vars;first|rfl|assumption)⟩
   |cons a r Y=>
    intro a0;obtain⟨f0,b0⟩:=Ls.mp a0;obtain⟨c0,g0⟩:=Y b0;rw[ri];cases h0:J.getD a yP with
    |none=>exact⟨c0,by grind⟩
    |some q=>
     refine⟨Ls.mpr (by grind),λx i0=>?_⟩
     grind
  exact(key _ Sn).1
def Gc.Pq(es:Array (Int×xP))(J:Nat):Gc (YQ t es J).2.1/\(YQ t es J).2.1.led=t.led:=by
 unfold YQ;split
 ·rename_i t' O e;have:=vA e;dsimp only;split
  ·exact this
  ·exact Gc.ue t _
 ·exact Gc.ue t _
def Ti(e:Int×xP):Int:=match e.2 with
 |.int n _=>n
 |_=>0
section
variable{prog:HP}{w:KP}{A:LP}{E:xP->zP->Prop}{s:zP}
def Ui(prog:HP)(w:KP)(h:NP)(a:BP)(ks:List Int)(led:Bool):Prop:=
 ∃o es ep t,h.get? a=wP o/\o.ExactSet/\o.data=.set es ep t/\ElemsOf (mQ prog w) es.toList/\es.size<ER/\t.fits es.size=CP/\Gc t/\t.led=led/\(es.toList.map Ti).Perm ks
def tw{e:Int×xP}(h:(∃k,(mQ prog w).is k e.2=CP/\e.1=(mQ prog w).hash k)/\e.2.scannable=CP):∃t,e.2=.int (Ti e) t:=by
 obtain⟨⟨k,J,_⟩,_⟩:=h;obtain⟨t,O⟩:=Value.isInt_shape J;refine⟨t,?_⟩;unfold Ti;rw[O]
def wA(h:(∃k,(mQ prog w).is k e.2=CP/\e.1=(mQ prog w).hash k)/\e.2.scannable=CP):(mQ prog w).is n e.2=CP↔Ti e=n:=by
 obtain⟨t,J⟩:=tw h;rw[J];constructor
 ·intro z;obtain⟨t',O⟩:=Value.isInt_shape (show Value.isInt n (Value.int (Ti e) t)=CP from z)
  simp_all
 ·intro z;rw[z];exact intKind_is _ _ _ _
def yt{h:NP}(U:h.get? a=wP o)(O:o.data=.set es ep t)(J:Array (Int×xP))(t':SetTable):(h.update a (Obj.putSet J t')).get? a=wP {o with data:=.set J (ep+1) t'}:=by
 have q:=zi (Obj.putSet J t') U (by rw[putSet_of J t' O];rfl);rwa[putSet_of J t' O]at q
def eI(G0:Ui prog w s.heap a ks led)(I0:ks.length+1<ER)
  (h:∀b h',Heap.SameBut a s.heap h'->Ui prog w h' a (iQ ks n) led->Q b {s with heap:=h'}):wpAny (FP prog w) A (ZR a (.int n U) ((mQ prog w).hash n)) Q E s:=by
 revert G0;refine eb8 ?_;rintro o es ep t c0 hex d0 Y q0 h0 r0 i0 e0;have s0:(mQ prog w).is n (.int n U)=CP:=intKind_is _ _ _ _;have t0:(Value.int n U).scannable=CP:=rfl;have hsz:es.size=ks.length:=by rw[<-Lc,<-pa,e0.length_eq]
 refine Jc (ba (xi c0 d0 h0 ?_));dsimp only;rw[byScan_of t0 q0 Y];simp only[↓reduceIte];refine ba (ba (Ye (ba (wpAny_setScan_of s0 c0 d0 h0 Y ?_))));cases u0:List.findIdx? (λe=>(mQ prog w).is n e.2) es.toList with
 |some j=>
  dsimp only;obtain⟨R0,J0,_⟩:=List.findIdx?_eq_some_iff_getElem.mp u0;have S0:=e0.mem_iff.mp (Ya.mpr ⟨es.toList[j],by simp_all,(wA (Y _ (by grind))).mp J0⟩);have T0:s={s with heap:=s.heap}:=by cases s;rfl
  refine ca (ca ?_);refine h _ s.heap (Heap.SameBut.refl a s.heap) ?_;unfold iQ;rw[wa (by simp_all)];exact nx16 o es ep t c0 hex d0 Y q0 h0 r0 i0 e0
 |none=>
  have K0:n∉ks:=λz=>by
   obtain⟨e,v0,ek⟩:=Ya.mp (e0.mem_iff.mpr z);have q:=List.findIdx?_eq_none_iff.mp u0 e v0;rw[(wA (Y _ v0)).mpr ek]at q;cases q
  have U0:iQ ks n=ks++[n]:=by
   unfold iQ;rw[ma λz=>by obtain⟨x,L0,ex⟩:=List.any_eq_true.mp z;exact K0 (by rw[<-beq_iff_eq.mp ex];exact L0)]
  have w0:∀(b:Bool){j0:zP}{l0:Unit->zP->Prop},l0 () j0->wpAny (FP prog w) A (match b with|true=>rule "set.scan.the-table-gave-way"|false=>pure ()) l0 E j0:=λb j0 l0 x0=>by cases b<;>first|exact ca x0|exact Ye x0
  have a0:=layNew_perm t es ((mQ prog w).hash n) (.int n U);have f0:=layNew_fits t es ((mQ prog w).hash n) (.int n U);have b0:=r0.qk es ((mQ prog w).hash n) (.int n U);generalize layNew t es ((mQ prog w).hash n) (.int n U)=L at a0 f0 b0⊢;obtain⟨J,y0,wd,V0⟩:=L;dsimp only at a0 f0 b0⊢;rw[om]at a0;have z0:=(Y.push s0 t0).perm a0;have M0:(J.toList.map Ti).Perm (ks++[n]):=(a0.map Ti).trans (by rw[Le];exact e0.append_right [n]);have N0:J.size=ks.length+1:=by rw[<-Lc,a0.length_eq,Ac,Lc,hsz];rfl
  have g0:J.size<ER:=by rw[N0];exact I0
  refine ba (w0 _ ?_);have A0:∀(O:SetTable),O.fits J.size=CP->Gc O->O.led=led->wpAny (FP prog w) A (do
    storeSet a J O
    if(!wd&&O.tooFull)=CP then do
      (match(YQ O J (SetTable.grown J.size)).2.2 with|true=>rule "set.scan.the-table-gave-way"|false=>pure ())
      storeSet a (YQ O J (SetTable.grown J.size)).1 (YQ O J (SetTable.grown J.size)).2.1
      pure (wP CP)
     else pure (wP CP)) (λr s'=>∃h',s'={s with heap:=h'}/\r=wP CP/\Heap.SameBut a s.heap h'/\Ui prog w h' a (ks++[n]) led) E s:=by
   intro O O0 k2 B0;refine ba (Kr c0 d0 ?_ (fits_of_scanBound g0));have m0:=yt c0 d0 J O;have C0:=bg s.heap a (Obj.putSet J O);split
   ·have n0:=relayAll_perm O J (SetTable.grown J.size);have D0:=relayAll_fits O J (SetTable.grown J.size);have o0:=Gc.Pq (t:=O) J (SetTable.grown J.size);generalize YQ O J (SetTable.grown J.size)=P0 at n0 D0 o0⊢;obtain⟨p0,t3,W0⟩:=P0;have F0:p0.size=J.size:=by rw[<-Lc,n0.length_eq,Lc]
    refine ba (w0 _ (ba (Kr m0 rfl ?_ (fits_of_scanBound (by rw[F0];exact g0)))));have Q0:=yt m0 rfl p0 t3;exact ca (⟨_,rfl,rfl,C0.trans (bg _ a _),nx16 _ p0 _ t3 Q0 hex rfl (z0.perm n0) (by rw[F0];exact g0) D0 o0.1 (o0.2.trans B0) (by grind)⟩)
   ·exact ca (⟨_,rfl,rfl,C0,nx16 _ J _ O m0 hex rfl z0 g0 O0 k2 B0 M0⟩)
  have fin:∀r s',(∃h',s'={s with heap:=h'}/\r=wP CP/\Heap.SameBut a s.heap h'/\Ui prog w h' a (ks++[n]) led)->∃b,r=wP b/\Q b s':=by
   rintro r s';refine eb2 ?_;rintro h' rfl rfl X0 Y0;exact(by simp[*])
  split
  ·refine ba ?_;refine ca ?_;refine Pc (A0 y0 f0 b0.1 (b0.2.trans i0)) (λr s' z=>?_) λ_ _ z=>z
   refine ea1 ?_ (fin r s' z);rintro b rfl q;exact ca q
  ·refine ba (ca ?_);refine Pc (A0 y0 f0 b0.1 (b0.2.trans i0)) (λr s' z=>?_) λ_ _ z=>z
   refine ea1 ?_ (fin r s' z);rintro b rfl q;exact ca q
end
def dd(ns:List Int):List Int:=ns.foldl iQ []
def uw(ns:List Int):(dd ns).length<=ns.length:=by
 have key:∀(ns J:List Int),(ns.foldl iQ J).length<=J.length+ns.length:=by
  intro ns;induction ns with
  |nil=>intro J;exact xa _
  |cons n r O=>
   intro J;have U:(iQ J n).length<=J.length+1:=by unfold iQ;split<;>simp
   grind
 have:=key ns [];unfold dd;simpa using this
def fI(ns:List Int)(n:Int):dd (ns++[n])=iQ (dd ns) n:=by
 unfold dd
 simp_all
section
variable{prog:HP}{w:KP}{A:LP}{E:xP->zP->Prop}{s:zP}
def Ui.keep(x:Ui prog w h a ks led)(k:∀o,h.get? a=wP o->h'.get? a=wP o):Ui prog w h' a ks led:=by
 obtain⟨o,es,ep,t,J,r⟩:=x;exact nx8 o es (nx0 ep t (k o J) r)
def gI{us:List xP}{G:Nat->NP->Prop}(i0:A.handled=yP)(j0:l≠I)(l0:S≠I)(m0:S≠l)
  (keep:∀i h h',(∀b o,(∀fs,o.data≠.fields fs)->h.get? b=wP o->h'.get? b=wP o)->G i h->G i h')
  (put:∀(i:Nat)u(s:zP),us[i]?=wP u->G i s.heap->∀{Q:Bool->zP->Prop}{E:xP->zP->Prop},(∀r h J,(∀b,b≠S->h.get? b=s.heap.get? b)->G (i+1) h->Q r {s with heap:=h,toks:=J})->wpAny (FP prog w) A.in1 (setAdd S u) Q E s):
  ∀(k i:Nat)(s:zP),us.length-i=k->i<=us.length->s.heap.IsListIter I l i->s.heap.IsList l us.toArray->G i s.heap->
   (∀h' J,(∀b o,b≠I->b≠S->s.heap.get? b=wP o->h'.get? b=wP o)->G us.length h'->R (.ok (.ret .none)) {s with heap:=h',toks:=J})->
   codeAny (FP prog w) A (.builtin "set.update.loop" ⟨[.ref S,.ref I],[]⟩) R s:=by
 have W:=Walks.list (prog:=prog) (w:=w) (A:=A.in1) i0 I l j0 us.toArray;have n0:us.toArray.size=us.length:=by simp
 have c0:∀{h:NP}{i:Nat},h.IsListIter I l i->∀b o,(∀fs,o.data≠.fields fs)->h.get? b=wP o->b≠I:=by
  rintro h i⟨C0,o0,D0,p0⟩b o n e rfl;rw[o0]at e;cases e;exact n _ p0
 intro k;induction k with
 |zero=>
  intro i s q0 hi O U Y a0;obtain rfl:i=us.length:=by grind
  refine Og PyProof.Rows.F.entry_set_update_loop ?_;rw[Hi ev _];refine ba (W.done s _ _ ⟨by omega,U⟩ λh' J r0=>?_);exact ca (a0 h' J (by(intros;simp_all)) (keep _ _ _ (λb o n e=>r0 b o (by simpa using c0 O b o n e) e) Y))
 |succ k s0=>
  intro i s q0 hi O U Y a0;have d0:i<us.length:=by lia
  refine Og PyProof.Rows.F.entry_set_update_loop ?_;rw[Hi ev _];refine ba (W.item i s _ _ (by rw[n0];exact d0) ⟨O,U⟩ λv t0 u0 v0 e0 f0=>?_);refine ba (Jc (put i v {s with heap:=t0,toks:=u0} (by simpa using v0) (keep _ _ _ (λb o n e=>f0 b o (by simpa using c0 O b o n e) e) Y) λr w0 x0 b0 y0=>?_));exact ca ⟨Hf ev _,s0 (i+1) {s with heap:=w0,toks:=x0} (by grind) d0 (e0.1.at λo e=>(b0 I l0.symm).trans e) (e0.2.at λo e=>(b0 l m0.symm).trans e) y0 λz0 A0 k3 B0=>a0 z0 A0 (λb o g0 h0 e=>k3 b o g0 h0 ((b0 b h0).trans (f0 b o (by simpa using g0) e))) B0⟩
def hI(a:xP)(h:Q₁ (.ref s.heap.objs.size) {s with heap:=s.heap.push {cls:=.type "set",dict:=yP,data:=.set #[] 0 (.fresh 0 0 (!w.params.followText "set-order"))}}):
  codeAny (FP prog w) A (.call (.builtin "set.__new__") ⟨[.type "set",a],[]⟩) (wants Q₁ E) s:=by
 refine codeAny_of_tree ?_;show wpAny _ A.in1 (do checkBuiltinCall "set.__new__" ⟨[.type "set",a],[]⟩;again (.builtin "set.__new__" ⟨[.type "set",a],[]⟩)) _ _ s;refine ba (VQ (F.newCall_set_1 a) (ca ⟨Hf F.plain_set_new _,Og F.entry_set_new ?_⟩));rw[Hi F.plain_set_new _];unfold Builtin.«set.__new__»Builtin.Frozenset.newClass;have J:=sub_set_self;obtain⟨O,g,d,U,os⟩:=s;dsimp only;wp_walk;refine Fp (ca ?_);simp only[newObj];exact ba (wpAny_alloc (ca (ca h)))
set_option maxHeartbeats 3200000 in
def xA{l:BP}{us:List xP}{Q:xP->zP->Prop}{G:Nat->NP->Prop}(l0:A.handled=yP)(m0:s.heap.IsList l us.toArray)
  (keep:∀i h h',(∀b o,(∀fs,o.data≠.fields fs)->h.get? b=wP o->h'.get? b=wP o)->G i h->G i h')(n0:G 0 (s.heap.push {cls:=.type "set",dict:=yP,data:=.set #[] 0 (.fresh 0 0 (!w.params.followText "set-order"))}))
  (put:∀(i:Nat)u (s':zP),us[i]?=wP u->G i s'.heap->∀{Q:Bool->zP->Prop}{E:xP->zP->Prop},(∀r h J,(∀b,b≠s.heap.objs.size->h.get? b=s'.heap.get? b)->G (i+1) h->Q r {s' with heap:=h,toks:=J})->wpAny (FP prog w) A.in1.in1.in1 (setAdd s.heap.objs.size u) Q E s')
  (h:∀h' J,G us.length h'->(∀b o,s.heap.get? b=wP o->h'.get? b=wP o)->Q (.ref s.heap.objs.size) {s with heap:=h',toks:=J}):
  wpAny (FP prog w) A (call (.type "set") [.ref l]) Q E s:=by
 obtain⟨c,z0,A0⟩:=al.mro;have B0:=al.made;have C0:=al.sub;refine HQ (codeAny_of_tree ?_);show wpAny _ _ (callAny (.type "set") _) _ _ _;refine ca ⟨Code.quiet_builtin _ (by decide+kernel),Og F.entry_type_call ?_⟩;rw[Around.under_plain (weight_type_call_type "set" [.ref l] []) rfl];have D0:=al.notType;have F0:=al.canCreate;have G0:=F.typeCall_set_1 (.ref l);repeat(any_goals(first|assumption|wp_step))
 generalize O:(SetTable.fresh 0 0 (!w.params.followText "set-order"))=fr;refine kl (hI (prog:=prog) (w:=w) (.ref l) (E:=E) (Q₁:=λobj b0=>obj=.ref s.heap.objs.size/\b0={s with heap:=s.heap.push {cls:=.type "set",dict:=yP,data:=.set #[] 0 fr}}) ⟨rfl,by rw[O]⟩) λr b0 U=>?_
 cases r with
 |error e=>exact U
 |ok o0=>
  cases o0 with
  |ret obj=>
   obtain⟨rfl,rfl⟩:=U;have p0:(s.heap.push {cls:=.type "set",dict:=yP,data:=.set #[] 0 fr}).get? s.heap.objs.size=wP {cls:=.type "set",dict:=yP,data:=.set #[] 0 fr}:=Hb _ rfl;have q0:Shared.TypeIs {s with heap:=s.heap.push {cls:=.type "set",dict:=yP,data:=.set #[] 0 fr}} (.ref s.heap.objs.size) "set":=⟨_,p0,rfl⟩;have I0:=al.init.lookup;have J0:=al.init.bind (.ref s.heap.objs.size);repeat(any_goals(first|assumption|wp_step))
   refine kl (bR (R:=wants (λr c0=>r=.none/\∃h' J,c0={s with heap:=h',toks:=J}/\G us.length h'/\∀b o,s.heap.get? b=wP o->h'.get? b=wP o) E) al.init.plain F.entry_set_init (check_set_init_1 q0 ?_)) λr0 c0 Y=>?_
   ·refine ea7 ?_ (id m0);rintro ol d0 e0⟨f0,g0⟩;obtain⟨K0,s0,L0,t0⟩:=ol;simp only at e0 g0;subst e0;subst g0;have u0:(s.heap.push {cls:=.type "set",dict:=yP,data:=.set #[] 0 fr}).get? l=wP {cls:=.type "list",dict:=s0,data:=.seq us.toArray f0,slots:=t0}:=Ta _ d0;have M0:=F.sub_list_set;have N0:=F.sub_list_frozenset;have O0:(Value.type "list"==Value.type "dict")=GP:=by decide
    have h0:(s.heap.push {cls:=.type "set",dict:=yP,data:=.set #[] 0 fr}).IsList l us.toArray:=nx18 _ u0 rfl f0 rfl;have P0:fr.fill=0/\fr.place.size=0/\fr.mask=7:=by rw[<-O];exact⟨rfl,rfl,rfl⟩
    subst O;unfold Builtin.«set.__init__»noKeywords Builtin.Frozenset.updateFrom;generalize v0:JQ=PI;wp_walk;subst v0;refine io h0 (ba (wpAny_runValue ?_));have i0:l<s.heap.objs.size:=Xa d0;have w0:A.in1.in1.handled=yP:=by simp[l0]
    refine gI (prog:=prog) (w:=w) (s:={s with heap:=(s.heap.push {cls:=.type "set",dict:=yP,data:=.set #[] 0 (.fresh 0 0 (!w.params.followText "set-order"))}).push {cls:=.type "list_iterator",data:=.fields #[.ref l,.int 0 0]}}) (I:=(s.heap.push {cls:=.type "set",dict:=yP,data:=.set #[] 0 (.fresh 0 0 (!w.params.followText "set-order"))}).objs.size) w0 ?_ ?_ (Zj i0) keep put us.length 0 (by simp_all) (Tb _) ⟨_,Hb _ rfl,rfl,rfl⟩ (h0.push _) (keep _ _ _ (λb o _ e=>Ta _ e) n0) λh' J k a0=>?_
    ·rw[Zf];exact Ab (Rn i0)
    ·rw[Zf];exact Ab (Nat.lt_succ_self _)
    ·show wpAny _ _ _ _ _ _;refine ca ?_;show wpAny _ _ (ret Value.none) _ _ _;refine ca (⟨rfl,nx5 h' J rfl a0 λb o e=>?_⟩);have j0:=Xa e;exact k b o (by rw[Zf];exact Ab (Rn j0)) (Ab j0) (Ta _ (Ta _ e))
   ·cases r0 with
    |error e=>exact Y
    |ok x0=>
     cases x0 with
     |ret r=>
      revert Y;refine ec3 ?_;rintro rfl h' J rfl a0 y0;repeat(any_goals(first|assumption|wp_step))
      exact h _ _ a0 y0
     |_=>exact Y.elim
  |_=>exact U.elim
def iI{l:BP}{us:List xP}{ns:List Int}{Q:xP->zP->Prop}(U:A.handled=yP)(Y:s.heap.IsList l us.toArray)(a0:us.length=ns.length)(b0:∀(j:Nat)u,us[j]?=wP u->∃n t,ns[j]?=wP n/\u=Value.int n t)(l0:ns.length+1<ER)
  (h:∀h' J,Ui prog w h' s.heap.objs.size (dd ns) (!w.params.followText "set-order")->(∀b o,s.heap.get? b=wP o->h'.get? b=wP o)->Q (.ref s.heap.objs.size) {s with heap:=h',toks:=J}):
  wpAny (FP prog w) A (call (.type "set") [.ref l]) Q E s:=by
 refine xA (G:=λi h=>Ui prog w h s.heap.objs.size (dd (ns.take i)) (!w.params.followText "set-order")) U Y ?_ (nx16 _ (#[]) 0 _ (Hb _ rfl) ⟨rfl,rfl,rfl⟩ rfl (λe c0=>by cases c0) (by decide) rfl (Gc.fresh _ _ _) rfl (.nil)) (λi u s' d0 O Q E k=>?_) λh' J O=>h h' J (by rwa[a0,Ic]at O)
 ·rintro i h h' k;refine eaE ?_;rintro o es ep t e0 c d r;exact nx17 o es ep t (k _ _ (by(intros;simp_all)) e0) c d r
 ·refine ea8 ?_ (b0 i u d0);rintro n t f0 rfl;have g0:(dd (ns.take i)).length+1<ER:=by
   have:=uw (ns.take i);rw[Ae]at this;lia
  exact Jc (ba ((mQ prog w).pyHash (intKind_is _ _ _ _) (eI O g0 λb h0 i0 j0=>k b h0 _ i0.2 (by rw[YH f0,fI];exact j0))))
end
def vw(j:Nat):∀(fuel lo hi:Nat),lo<=hi->SetTable.below.go xs j fuel lo hi<=hi
 |0,lo,hi,h=>by unfold SetTable.below.go;exact h
 |fuel+1,lo,hi,h=>by
  unfold SetTable.below.go;split
  ·dsimp only;split
   ·exact vw j fuel _ hi (by lia)
   ·exact Nb (vw j fuel lo _ (by lia)) (by lia)
  ·exact h
def jI(j:Nat):SetTable.below xs j<=xs.size:=vw j _ _ _ (Tb _)
def yA(h:rf xs)(J:∀(k x:Nat),xs[k]?=wP x->k<i->x<j)(O:∀(k x:Nat),xs[k]?=wP x->i<=k->j<=x)(hi:i<=xs.size):SetTable.below xs j=i:=by
 have Y:=jI (xs:=xs) j;by_cases q:SetTable.below xs j<i
 ·have U:SetTable.below xs j<xs.size:=by lia
  have e:=Ci U;have a:=J _ _ e q;have b:=(Wm h j e).2 (xa _);lia
 ·by_cases q2:i<SetTable.below xs j
  ·have e:xs[i]?=wP (xs[i]'(by lia)):=by simp_all
   have a:=O _ _ e (xa _);have b:=(Wm h j e).1 q2;lia
  ·lia
def zt(xs:Array Nat):Nat->Nat
 |0=>0
 |i+1=>xs.getD i 0+1
def AA(h:rf xs)(hi:i<=xs.size):SetTable.below xs (zt xs i)=i:=by
 cases i with
 |zero=>exact yA h (by(intros;simp_all)) (λk x _ _=>Tb _) hi
 |succ i=>
  have e:xs[i]?=wP (xs[i]'(by lia)):=by simp_all
  have J:xs.getD i 0=xs[i]'(by lia):=by simp[Array.getD,show i<xs.size by lia]
  refine yA h (λk x ek z=>?_) (λk x ek z=>?_) hi
  ·show x<xs.getD i 0+1;rw[J];by_cases q:k=i
   ·simp_all
   ·have:=h.lt (by lia) ek e;lia
  ·show xs.getD i 0+1<=x;rw[J];exact h.lt (by lia) e ek
def ww{α:Type}:∀(l:List α)(i:Nat)(h:i<l.length),(l[i]::l.eraseIdx i).Perm l
 |[],i,h=>by contradiction
 |a::r,0,h=>.refl _
 |a::r,i+1,h=>by
  have hi:i<r.length:=by simpa using h
  exact(List.Perm.swap _ _ _).trans ((ww r i hi).cons a)
def kI(next:Nat->Nat):∀(J k:Nat)(left:List α)(out:Array α),left.length<=J->(pickOrder.go next J k left out).toList.Perm (out.toList++left):=by
 intro l;induction l with
 |zero=>
  intro k left out h;have:left=[]:=by simp_all
  subst this;unfold pickOrder.go;simp
 |succ J U=>
  intro k left out h;unfold pickOrder.go;cases left with
  |nil=>simp
  |cons a r=>
   have O:next k%(a::r).length<(a::r).length:=km _ (by simp);rw[Pd O];refine(U (k+1) _ _ (by rw[Zu O];simp at h⊢;lia)).trans ?_;rw[om,ke];exact(List.Perm.append_left _ (ww _ _ O))
def xw(next:Nat->Nat)(xs:Array α):(oQ next xs).toList.Perm xs.toList:=by
 unfold oQ;have:=kI next xs.size 0 xs.toList #[] (by simp);simpa using this
section
variable{M:Model}{A:LP}{E:xP->zP->Prop}
def lI(J:n≠0)(h:∀m d,m<n->Q m {s with drawn:=d}):wpAny M A (choose O n) Q E s:=λU p _=>by
 unfold choose;refine⟨J,?_⟩;exact h _ _ (km _ (by grind))
def mI:∀(n:Nat)(xs:List α)(Q:List α->zP->Prop)(s:zP),xs.length=n->(∀ys d,ys.Perm xs->Q ys {s with drawn:=d})->wpAny M A (drawOrder n xs) Q E s:=by
 intro n;induction n with
 |zero=>
  intro xs Q s J h;have:xs=[]:=by simp_all
  subst this;have e:s={s with drawn:=s.drawn}:=by cases s;rfl
  exact ca (h [] _ (.refl _))
 |succ n U=>
  rintro(_|⟨a,r⟩)Q s J h
  ·cases J
  refine ba (lI (by simp) λm d O=>?_);rw[Pd O];refine ba (U _ _ _ (by rw[Zu O,J];rfl) λys d' Y=>?_);exact ca (h _ _ ((Y.cons _).trans (ww _ _ O)))
end
def Zh:Slot "set_iterator" "__next__" "set_iterator.__next__":=.of (owner:="set_iterator") (n:="__next__") (by rw[IR,TQ];kernel_rfl) (by decide+kernel) (by decide+kernel) (by decide+kernel) (by first|exact .inl (by decide+kernel)|exact .inr (by decide+kernel)) (by rw[MR];kernel_rfl)
def BA:Slot "set_iterator" "__iter__" "set_iterator.__iter__":=.of (owner:="set_iterator") (n:="__iter__") (by rw[IR,TQ];kernel_rfl) (by decide+kernel) (by decide+kernel) (by decide+kernel) (by first|exact .inl (by decide+kernel)|exact .inr (by decide+kernel)) (by rw[MR];kernel_rfl)
def Bt:entryFor table "set_iterator.__next__"=wP Builtin.«set_iterator.__next__»:=entryFor_of_tree (by kernel_rfl)
def nI:entryFor table "set_iterator.__iter__"=wP Builtin.«dict_keyiterator.__iter__»:=entryFor_alias (id':="dict_keyiterator.__iter__") (by kernel_rfl) rfl (by decide+kernel) (by kernel_rfl)
def pI:entryFor table "set.__iter__"=wP Builtin.«frozenset.__iter__»:=entryFor_alias (id':="frozenset.__iter__") (by kernel_rfl) rfl (by decide+kernel) (by kernel_rfl)
def DA:Manifest.owners.lookup (String.ofList ['r','o','t','a','r','e','t','i','_','t','e','s'].reverse)=wP Manifest.sig_set_iterator:=by kernel_rfl
def Ct(a:xP):eS "set_iterator.__next__" ⟨[a],[]⟩:=by unfold eS;rw[signature?_of (n:=['_','_','t','x','e','n','_','_']) (by kernel_rfl) DA];kernel_rfl
def qI(a:xP):eS "set_iterator.__iter__" ⟨[a],[]⟩:=by unfold eS;rw[signature?_of (n:=['_','_','r','e','t','i','_','_']) (by kernel_rfl) DA];kernel_rfl
def Ag(h:NP)(I a:BP)(first:xP)(i n ep:Nat):Prop:=∃o,h.get? I=wP o/\o.cls=.type "set_iterator"/\o.data=.fields #[first,.int i 0,.ref a,.int n 0,.int ep 0]
def Ah(h:NP)(a:BP)(es:Array (Int×xP))(ep:Nat)(t:SetTable):Prop:=∃o,h.get? a=wP o/\o.ExactSet/\o.data=.set es ep t
def Ag.keep(x:Ag h I a v i n ep)(k:∀o,h.get? I=wP o->h'.get? I=wP o):Ag h' I a v i n ep:=by obtain⟨o,J,r⟩:=x;exact⟨o,k o J,r⟩
def Ah.keep(x:Ah h a es ep t)(k:∀o,h.get? a=wP o->h'.get? a=wP o):Ah h' a es ep t:=by obtain⟨o,J,r⟩:=x;exact⟨o,k o J,r⟩
section
variable{prog:HP}{w:KP}{A:LP}{E:xP->zP->Prop}{s:zP}{I a:BP}{es:Array (Int×xP)}{ep:Nat}{t:SetTable}
def Ag.typeIs(x:Ag s.heap I a v i n ep):s.TypeIs (.ref I) "set_iterator":=by obtain⟨o,J,O,_⟩:=x;exact⟨o,J,O⟩
def sI(J:Ah s.heap a es ep t)(O:t.fits es.size=CP)(h:Q (!w.params.followText "set-order"&&(!t.plain&&decide (1<es.size))) s):wpAny (FP prog w) A (setDrawn a) Q E s:=by
 obtain⟨o,U,hex,Y⟩:=J;refine ba (xi U Y O ?_);refine ba (ba (Fp (ca ?_)));exact ca h
def EA(a0:w.params.followText "set-order"=CP)(b0:Ah s.heap a es ep t)(J:t.fits es.size=CP)
  (h:Q (((oQ (w.params.setOrder a ep) es)[i]?).map λe=>(e.2,slot)) s):wpAny (FP prog w) A (setNext a slot i ep) Q E s:=by
 revert b0;refine ea7 ?_;rintro o O hex U;refine ba (xi O U J ?_);have Y:∀{Q:Bool->zP->Prop},Q CP s->wpAny (FP prog w) A setsByText Q E s:=λ{Q}h=>by
  refine ba (Fp (ca ?_));rw[show(⟨(FP prog w).prog,(FP prog w).w.params⟩:Setting).params.followText "set-order"=CP from a0];exact h
 refine ba (Y ?_);rw[wa rfl,ma (by simp)];refine ba (ba (xi O U J ?_));refine ba (Y ?_);exact ba (Fp (ca (ca h)))
def FA{Q:Option (xP×Nat)->zP->Prop}{slot i:Nat}(J:w.params.followText "set-order"=GP)(O:(!t.plain&&decide (1<es.size))=GP)(U:t.led=CP)(Y:Ah s.heap a es ep t)(a0:t.fits es.size=CP)
  (h:Q (match es[SetTable.below t.place slot]?,t.place[SetTable.below t.place slot]? with
   |some (_,x),wP j=>wP (x,j+1)
   |_,_=>yP) s):wpAny (FP prog w) A (setNext a slot i ep) Q E s:=by
 revert Y;refine ea7 ?_;rintro o b0 hex c0;refine ba (xi b0 c0 a0 ?_);have d0:∀{Q:Bool->zP->Prop},Q GP s->wpAny (FP prog w) A setsByText Q E s:=λ{Q}h=>by
  refine ba (Fp (ca ?_));rw[show(⟨(FP prog w).prog,(FP prog w).w.params⟩:Setting).params.followText "set-order"=GP from J];exact h
 refine ba (d0 ?_);show wpAny _ _ (if(!t.plain&&decide (1<es.size))=CP then _ else _) _ _ _;rw[O,ma pc];refine ba ?_;show wpAny _ _ (if(!t.led&&!es.isEmpty)=CP then _ else _) _ _ _;rw[U,ma (by simp)];exact ca (ca h)
def Et{o:dQ}{vs:Array xP}(k:Nat)(x:xP)(J:s.heap.get? I=wP o)(O:o.data=.fields vs):(s.heap.update I (Obj.mapFields (·.setIfInBounds k x))).get? I=wP (Obj.mapFields (·.setIfInBounds k x) o):=zi _ J (Obj.isFreed_of_fields (vi O _))
def GA{slot slot' i:Nat}(O:Ag s.heap I a (.int slot 0) i es.size ep)(b0:Ah s.heap a es ep t)(c0:t.fits es.size=CP)
  (d0:∀{e0:xP->zP->Prop}{Y:Option (xP×Nat)->zP->Prop},Y (wP (x,slot')) s->wpAny (FP prog w) A.in1 (setNext a slot i ep) Y e0 s)
  (f0:∀h',Ag h' I a (.int slot' 0) (i+1) es.size ep->Heap.SameBut I s.heap h'->Q (wP x) {s with heap:=h'}):wpAny (FP prog w) A (IQ (.ref I)) Q E s:=by
 obtain⟨o,U,g0,J⟩:=id O;obtain⟨os,h0,hex,i0⟩:=id b0;refine ba (Ng (Li O.typeIs Zh (zd Zh O.typeIs Bt ?_ (Ct _))));refine ba (ca ?_);refine ba (ll U J ?_);dsimp only;refine ba (dq h0 i0 c0 ?_);rw[ma (by simp)];refine ba ?_;refine d0 ?_;refine ba (wj U J (by simp) ?_);have a0:=Et 0 (ZP (slot':Int)) U J;refine ba (wj a0 (vi J _) (by simp) ?_);have j0:=Et (s:={s with heap:=s.heap.update I (Obj.mapFields (·.setIfInBounds 0 (ZP (slot':Int))))}) 1 (ZP ((i:Int)+1)) a0 (vi J _);refine ca ⟨_,rfl,?_⟩;refine ca (f0 _ ⟨_,j0,(Up ..).trans ((Up ..).trans g0),?_⟩ ((bg ..).trans (bg ..)));rw[vi (vi J _)];simp[ZP]
def Ft{Q:Option xP->zP->Prop}(J:A.handled=yP)(O:∀h',(∀b o,s.heap.get? b=wP o->h'.get? b=wP o)->Q yP {s with heap:=h'}):
  wpAny (FP prog w) A.in1 (newExc (.type "StopIteration") []>>=λe=>raiseNew e) (λ(fin:Fin)s'=>∃v,fin=.done (.ret v)/\wpAny (FP prog w) A (pure (wP v)) Q E s')
   (λe s'=>wpAny (FP prog w) A (do if<-NR e (.type "StopIteration")then pure yP else throw e) Q E s') s:=by
 refine ba ?_;refine ba (m:=firstArgMember _ _) (VQ (a:=Value.none) (by first|rfl|(simp only[firstArgMember];rfl)) ?_);refine oh ?_ (by size_fits);refine ba (wpAny_handled ?_);rw[show A.in1.handled=yP from J];refine ba (ca (wpAny_throw ?_));refine ba (Gp ⟨_,Hb _ rfl,rfl⟩ isSubtype_stop ?_);exact ca (O _ λb o e=>Ta _ (Ta _ e))
def HA{slot i:Nat}(a0:A.handled=yP)(J:Ag s.heap I a (.int slot 0) i es.size ep)(b0:Ah s.heap a es ep t)(c0:t.fits es.size=CP)
  (d0:∀{e0:xP->zP->Prop}{O:Option (xP×Nat)->zP->Prop},O yP s->wpAny (FP prog w) A.in1 (setNext a slot i ep) O e0 s)
  (f0:∀h',(∀b o,b≠I->s.heap.get? b=wP o->h'.get? b=wP o)->Q yP {s with heap:=h'}):wpAny (FP prog w) A (IQ (.ref I)) Q E s:=by
 obtain⟨o,U,j0,Y⟩:=id J;obtain⟨os,g0,hex,h0⟩:=id b0;refine ba (Ng (Li J.typeIs Zh (zd Zh J.typeIs Bt ?_ (Ct _))));refine ba (ca ?_);refine ba (ll U Y ?_);dsimp only;refine ba (dq g0 h0 c0 ?_);rw[ma (by simp)];refine ba ?_;refine d0 ?_;refine ba (wj U Y (by simp) ?_);exact Ft a0 λh' k=>f0 h' λb o i0 e=>k b o ((nh _ _ (Dc i0)).trans e)
def tI{O:List Nat}(U:Ag s.heap I a (.ref T) i es.size ep)(d0:Ah s.heap a es ep t)(a0:t.fits es.size=CP)
 (e0:s.heap.get? T=wP f0)(g0:f0.data=.seq (O.map λ(k:Nat)=>ZP k).toArray c)(h0:O[i]?=wP p)(i0:es[p]?=wP e)
    (j0:∀h',Ag h' I a (.ref T) (i+1) es.size ep->Heap.SameBut I s.heap h'->Q (wP e.2) {s with heap:=h'}):wpAny (FP prog w) A (IQ (.ref I)) Q E s:=by
  obtain⟨o,Y,l0,J⟩:=id U;obtain⟨os,b0,hex,c0⟩:=id d0;refine ba (Ng (Li U.typeIs Zh (zd Zh U.typeIs Bt ?_ (Ct _))));refine ba (ca ?_);refine ba (ll Y J ?_);dsimp only;refine ba (dq b0 c0 a0 ?_);rw[ma (by simp)];refine ba (qg e0 g0 ?_);dsimp only;have m0:(O.map λ(k:Nat)=>ZP k).toArray[(i:Int).toNat]?=wP (.int p 0):=by
    rw[Kf,List.getElem?_toArray,fb,h0];rfl
  rw[m0];refine ba (ba (xi b0 c0 a0 ?_));dsimp only;rw[Kf,Kf,ma (by simp),i0];refine ca ?_;refine ba (wj Y J (by simp) ?_);have n0:=Et 1 (ZP ((i:Int)+1)) Y J;refine ca ⟨_,rfl,?_⟩;refine ca (j0 _ ⟨_,n0,(Up ..).trans l0,?_⟩ (bg ..));rw[vi J];simp[ZP]
def uI{O:List Nat}(b0:A.handled=yP)(U:Ag s.heap I a (.ref T) i es.size ep)(c0:Ah s.heap a es ep t)(d0:t.fits es.size=CP)
 (e0:s.heap.get? T=wP f0)(g0:f0.data=.seq (O.map λ(k:Nat)=>ZP k).toArray c)(h0:O[i]?=yP)
    (i0:∀h',(∀b o,b≠I->s.heap.get? b=wP o->h'.get? b=wP o)->Q yP {s with heap:=h'}):wpAny (FP prog w) A (IQ (.ref I)) Q E s:=by
  obtain⟨o,Y,o0,J⟩:=id U;obtain⟨os,j0,hex,l0⟩:=id c0;refine ba (Ng (Li U.typeIs Zh (zd Zh U.typeIs Bt ?_ (Ct _))));refine ba (ca ?_);refine ba (ll Y J ?_);dsimp only;refine ba (dq j0 l0 d0 ?_);rw[ma (by simp)];refine ba (qg e0 g0 ?_);dsimp only;have m0:(O.map λ(k:Nat)=>ZP k).toArray[(i:Int).toNat]?=yP:=by
    rw[Kf,List.getElem?_toArray,fb,h0];rfl
  rw[m0];refine ba (wj Y J (by simp) ?_);have n0:=Et 0 (ZP 0) Y J;refine ba (wj n0 (vi J _) (by simp) ?_);refine Ft b0 λh' k=>i0 h' λb o a0 e=>k b o ?_
  exact(nh _ _ (Dc a0)).trans ((nh _ _ (Dc a0)).trans e)
def yw(J:Ag s.heap I a v i n ep)(h:Q (.ref I) s):wpAny (FP prog w) A (JQ (.ref I)) Q E s:=by
 refine gq J.typeIs BA (zd BA J.typeIs nI ?_ (qI _));exact ca (nx12 _ rfl ("set_iterator") _ J.typeIs Zh.lookup h)
def Hl(ms:List xP)(i:Nat)(v:xP):Prop:=ms[i]?=wP v
def vI(a0:w.params.followText "set-order"=CP)(c0:A.handled=yP)(d0:a≠I)(J:t.fits es.size=CP):
  Walks prog w A I [I,a] [I] es.size (Hl ((oQ (w.params.setOrder a ep) es).toList.map Prod.snd)) (λi h=>Ag h I a (.int 0 0) i es.size ep/\Ah h a es ep t)where
 sub:=by(intros;simp_all)
 frame:=λ_ _ _ st g0=>⟨st.1.keep (by grind),st.2.keep (by grind)⟩
 item:=λi s Q E hi st O=>by
  have Y:=xw (w.params.setOrder a ep) es;have hsz:(oQ (w.params.setOrder a ep) es).size=es.size:=by rw[<-Lc,Y.length_eq,Lc]
  have U:(oQ (w.params.setOrder a ep) es)[i]?=wP (oQ (w.params.setOrder a ep) es)[i]:=by simp
  refine GA (slot':=0) st.1 st.2 J (λh=>EA a0 st.2 J (by rw[U];exact h)) λh' e0 b0=>O _ h' s.toks (show(_:List xP)[i]?=_ by rw[fb,ee,U];rfl) ⟨e0,st.2.keep λo e=>(b0.2 _ d0).trans e⟩ λb o f0 e=>(b0.2 b (by simpa using f0)).trans e
 done:=λs Q E st O=>by
  have Y:=xw (w.params.setOrder a ep) es;have hsz:(oQ (w.params.setOrder a ep) es).size=es.size:=by rw[<-Lc,Y.length_eq,Lc]
  have U:(oQ (w.params.setOrder a ep) es)[es.size]?=yP:=by simp_all
  exact HA c0 st.1 st.2 J (λh=>EA a0 st.2 J (by rw[U];exact h)) (by(intros;simp_all))
 self:=λ_ _ _ _ st O=>yw st.1 O
def wI(a0:w.params.followText "set-order"=GP)(b0:(!t.plain&&decide (1<es.size))=GP)(c0:t.led=CP)(d0:Gc t)(l0:t.place.size=es.size)(f0:A.handled=yP)(g0:a≠I)(O:t.fits es.size=CP):
  Walks prog w A I [I,a] [I] es.size (Hl (es.toList.map Prod.snd)) (λi h=>Ag h I a (.int (zt t.place i) 0) i es.size ep/\Ah h a es ep t)where
 sub:=λb J=>by simp_all
 frame:=λ_ _ _ st m0=>⟨st.1.keep (by grind),st.2.keep (by grind)⟩
 item:=λi s Q E hi st U=>by
  have J:=AA d0.up (i:=i) (by lia);have Y:es[i]?=wP es[i]:=by simp
  have h0:t.place[i]?=wP (t.place[i]'(by simp_all)):=by simp
  have i0:t.place[i]'(by lia)+1=zt t.place (i+1):=by
   show _=t.place.getD i 0+1;simp[Array.getD,show i<t.place.size by lia]
  refine GA (slot':=zt t.place (i+1)) st.1 st.2 O (λh=>FA a0 b0 c0 st.2 O (by rw[J,Y,h0];dsimp only;rw[i0];exact h)) λh' j0 e0=>U _ h' s.toks (show(_:List xP)[i]?=_ by rw[fb,ee,Y];rfl) ⟨j0,st.2.keep λo e=>(e0.2 _ g0).trans e⟩ λb o J e=>(e0.2 b (by simp_all)).trans e
 done:=λs Q E st U=>by
  have J:=AA d0.up (i:=es.size) (by simp_all);have Y:es[es.size]?=yP:=by simp_all
  exact HA f0 st.1 st.2 O (λh=>FA a0 b0 c0 st.2 O (by rw[J,Y];exact h)) (by grind)
 self:=λ_ _ _ _ st U=>yw st.1 U
def xI(h:NP)(T:BP)(J:List Nat):Prop:=∃o c,h.get? T=wP o/\o.data=.seq (J.map λ(k:Nat)=>ZP k).toArray c
def Qq(es:Array (Int×xP))(J:List Nat):List xP:=J.map λp=>(es.getD p (0,.none)).2
def yI(J:O.Perm (List.range es.size)):(Qq es O).Perm (es.toList.map Prod.snd):=by
 refine(J.map _).trans ?_;have:(List.range es.size).map (λp=>(es.getD p (0,.none)).2)=es.toList.map Prod.snd:=by
  apply List.ext_getElem
  ·simp
  ·intro i U Y;have hi:i<es.size:=by simpa using U
   simp[Array.getD,hi]
 rw[this]
def zI(b0:J.Perm (List.range es.size))(f0:A.handled=yP)(g0:a≠I)(h0:T≠I)(c0:t.fits es.size=CP):
  Walks prog w A I [I,a,T] [I] es.size (Hl (Qq es J)) (λi h=>Ag h I a (.ref T) i es.size ep/\Ah h a es ep t/\xI h T J)where
 sub:=by(intros;simp_all)
 frame:=λ_ _ _ st i0=>⟨st.1.keep (by grind),st.2.1.keep (by grind),by obtain⟨o,c,O,U⟩:=st.2.2;exact nx0 o c (i0 T (by simp) o O) U⟩
 item:=λi s Q E hi st Y=>by
  have j0:J.length=es.size:=by rw[b0.length_eq,gf]
  have d0:J[i]?=wP (J[i]'(by simp_all)):=by simp
  have e0:J[i]'(by lia)<es.size:=Af.mp (by grind);have l0:es[J[i]'(by lia)]?=wP (es[J[i]'(by lia)]'e0):=by simp
  obtain⟨o,c,O,U⟩:=id st.2.2;refine tI st.1 st.2.1 c0 O U d0 l0 λh' m0 a0=>Y _ h' s.toks ?_ ⟨m0,st.2.1.keep λo e=>(a0.2 _ g0).trans e,nx0 o c ((a0.2 _ h0).trans O) U⟩ λb o n0 e=>(a0.2 b (by simpa using n0)).trans e
  unfold Hl Qq;rw[fb,d0];simp[Array.getD,e0]
 done:=λs Q E st Y=>by
  have j0:J.length=es.size:=by rw[b0.length_eq,gf]
  obtain⟨o,c,O,U⟩:=id st.2.2;exact uI f0 st.1 st.2.1 c0 O U (by simp_all) (by grind)
 self:=λ_ _ _ _ st Y=>yw st.1 Y
def AI(h:t.fits n=CP):t.place.size=n:=by
 unfold SetTable.fits at h
 simp_all
inductive Vi(h:NP)(a:BP)(vs:List xP)(led:Bool):Prop|mk(o es ep t)(_:h.get? a=wP o)(_:o.ExactSet)(_:o.data=.set es ep t)(_:t.fits es.size=CP)(_:Gc t)(_:t.led=led)(_:es.size<=DP)(_:es.toList.map Prod.snd=vs)
def Vi.keep(x:Vi h a vs led)(k:∀o,h.get? a=wP o->h'.get? a=wP o):Vi h' a vs led:=by
 obtain⟨o,es,ep,t,J,O,U,Y,a0,b0,c0,d0⟩:=x;exact⟨o,es,ep,t,k o J,O,U,Y,a0,b0,c0,d0⟩
def Ui.BI(x:Ui prog w h a ks led):∃vs:List xP,Vi h a vs led/\vs.length=ks.length/\∀ms:List xP,ms.Perm vs->∃ns:List Int,ns.Perm ks/\ms.length=ns.length/\∀(j:Nat)v,ms[j]?=wP v->∃n t,ns[j]?=wP n/\v=Value.int n t:=by
 revert x;refine eb8 ?_;rintro o es ep t c0 hex d0 U e0 f0 J g0 Y;refine⟨_,⟨o,es,ep,t,c0,hex,d0,f0,J,g0,Nb (sj e0) (by decide),rfl⟩,?_,λms a0=>?_⟩
 ·rw[<-Y.length_eq,pa,pa]
 ·refine⟨ms.map λv=>Ti (0,v),((a0.map _).trans ?_).trans Y,by simp,λj v b0=>?_⟩
  ·rw[Hc];exact .of_eq (Rr λe O=>by
    obtain⟨t,J⟩:=tw (U e O);simp[Ti])
  ·refine ea1 ?_ (Ya.mp (a0.mem_iff.mp (yb b0)));rintro e O rfl;obtain⟨t,J⟩:=tw (U e O);exact nx0 (Ti e) t (by rw[fb,b0];simp[Ti]) J
def CI(d0:A.handled=yP)(p0:Vi s.heap a vs led)(q0:led=!w.params.followText "set-order")
  (h:∀(I:BP)(h':NP)(d:Drawn)(fp:List BP)(St:Nat->NP->Prop)(ms:List xP),s.heap.objs.size<=I->(∀b∈fp,b=a\/s.heap.objs.size<=b)->(∀b o,s.heap.get? b=wP o->h'.get? b=wP o)->ms.Perm vs->
   Walks prog w A I fp [I] ms.length (Hl ms) St->St 0 h'->Q (.ref I) {s with heap:=h',drawn:=d}):wpAny (FP prog w) A (JQ (.ref a)) Q E s:=by
 obtain⟨o,es,ep,t,O,hex,U,J,r0,s0,t0,rfl⟩:=p0;have g0:s.TypeIs (.ref a) "set":=⟨o,O,hex.1⟩;have h0:a<s.heap.objs.size:=Xa O;refine gq g0 F.slot_set_iter (zd F.slot_set_iter g0 pI ?_ (F.args_set_iter_1 _));unfold Builtin.«frozenset.__iter__»Builtin.Frozenset.slot0 slotArgs;simp only[List.isEmpty_nil,Bool.not_true,ph,↓reduceIte,bind_assoc,Yk,Wr];unfold Builtin.Frozenset.addrOf Builtin.Frozenset.sizeOf;refine ba (ca ?_);try dsimp only
 refine ba (ca ?_);refine ba (ba (dq O U J (ca ?_)));refine ba (sI ⟨o,O,hex,U⟩ J ?_);have u0:=AI J;have i0:(es.toList.map Prod.snd).length=es.size:=by simp
 have j0:∀oI:dQ,∀b b0,s.heap.get? b=wP b0->(s.heap.push oI).get? b=wP b0:=λoI b b0 e=>Ta _ e
 have l0:∀b∈[s.heap.objs.size,a],b=a\/s.heap.objs.size<=b:=by simp
 cases e0:w.params.followText "set-order"with
 |true=>
  rw[show(!CP&&(!t.plain&&decide (1<es.size)))=GP from rfl,ma pc];refine ba (ca ?_);refine ba (qR O U J ?_);refine ba (oh ?_);refine ca (nx12 _ rfl ("set_iterator") _ ⟨_,Hb _ rfl,rfl⟩ Zh.lookup ?_);have m0:=xw (w.params.setOrder a ep) es;have Y:=vI (prog:=prog) (A:=A) (I:=s.heap.objs.size) (a:=a) (ep:=ep) e0 d0 (Ab h0) J;have a0:((oQ (w.params.setOrder a ep) es).toList.map Prod.snd).length=es.size:=by rw[pa,m0.length_eq,Lc]
  rw[<-a0]at Y;exact h s.heap.objs.size _ s.drawn _ _ _ (xa _) l0 (j0 _) (m0.map Prod.snd) Y ⟨⟨_,Hb _ rfl,rfl,by rw[a0];rfl⟩,⟨o,Ta _ O,hex,U⟩⟩
 |false=>
  have v0:t.led=CP:=by rw[s0,q0,e0];rfl
  cases w0:(!t.plain&&decide (1<es.size))with
  |true=>
   rw[wa (by rfl)];refine ba (mI _ _ _ _ (by simp) λc0 d f0=>?_);have n0:c0.length=es.size:=by rw[f0.length_eq,gf]
   refine ba (Kp ?_ (by rw[pa,n0];exact t0));have o0:(s.heap.push {cls:=.type "tuple",data:=.seq (c0.map λ(k:Nat)=>ZP k).toArray}).get? a=wP o:=by simp_all
   refine ba (qR o0 U J ?_);refine ba (oh ?_);refine ca (nx12 _ rfl ("set_iterator") _ ⟨_,Hb _ rfl,rfl⟩ Zh.lookup ?_);have Y:=zI (prog:=prog) (w:=w) (A:=A) (I:=(s.heap.push {cls:=.type "tuple",data:=.seq (c0.map λ(k:Nat)=>ZP k).toArray}).objs.size) (a:=a) (ep:=ep) (T:=s.heap.objs.size) f0 d0 (by rw[Zf];exact Ab (by lia)) (by rw[Zf];exact Ab (by grind)) J;have a0:(Qq es c0).length=es.size:=by rw[Qq,pa,n0]
   rw[<-a0]at Y;refine h _ _ d _ _ _ (by rw[Zf];exact qi _) (λb x0=>?_) (λb b0 e=>Ta _ (by simp_all)) (yI f0) Y ⟨⟨_,Hb _ rfl,rfl,by rw[a0];rfl⟩,⟨o,Ta _ o0,hex,U⟩,nx0 _ 0 (Ta _ (Hb _ rfl)) rfl⟩;rcases jb.mp x0 with z|z
   ·exact .inr (by rw[z,Zf];exact qi _)
   ·rcases jb.mp z with z|z
    ·exact .inl z
    ·exact .inr (by rw[Ce.mp z];exact xa _)
  |false=>
   rw[ma (by simp)];refine ba (ca ?_);refine ba (qR O U J ?_);refine ba (oh ?_);refine ca (nx12 _ rfl ("set_iterator") _ ⟨_,Hb _ rfl,rfl⟩ Zh.lookup ?_);have Y:=wI (prog:=prog) (A:=A) (I:=s.heap.objs.size) (a:=a) (ep:=ep) e0 w0 v0 r0 u0 d0 (Ab h0) J;rw[<-i0]at Y;exact h s.heap.objs.size _ s.drawn _ _ _ (xa _) l0 (j0 _) (.refl _) Y ⟨⟨_,Hb _ rfl,rfl,by rw[i0];rfl⟩,⟨o,Ta _ O,hex,U⟩⟩
end
section
variable{prog:HP}{w:KP}{A:LP}{E:xP->zP->Prop}{s:zP}{a:BP}{vs:List xP}{led:Bool}
def Vi.typeIs(x:Vi s.heap a vs led):s.TypeIs (.ref a) "set":=by obtain⟨o,_,_,_,J,hex,_,_,_,_,_,_⟩:=x;exact⟨o,J,hex.1⟩
def Vi.Kb(x:Vi h a vs led):vs.length<=DP:=by
 obtain⟨o,es,ep,t,_,_,_,_,_,_,J,rfl⟩:=x;simpa using J
def IA(h:ItemsOf (Hl ms) O ms.length):ms=O.toList:=by
 apply Fs;intro i;cases J:O.toList[i]? with
 |none=>
  rw[bv,Lc,h.1]at J;rw[vj J]
 |some v=>
  rw[ee]at J;exact h.2 i v J
def DI(J:s.TypeIs (.ref a) "set")(h:Q GP s):wpAny (FP prog w) A (Builtin.List.listLengthHint (.ref a)) Q E s:=by
 unfold Builtin.List.listLengthHint;refine ba (mh J F.slot_set_len.lookup ?_);generalize O:("set.__len__":String)=U;subst O;refine ba (Gp (b:=CP) J (by rw[MR];kernel_rfl) ?_);exact ba (rj J (ca h))
def EI{R:TR->zP->Prop}(l0:A.handled=yP)(U:Vi s.heap a vs led)(m0:led=!w.params.followText "set-order"){L:BP}(n0:L≠a){res:xP}{o0:Nat}(e0:s.heap.get? L=wP {cls:=.type "list",data:=.seq #[] o0})
  (p0:∀(h':NP)(Y:Nat)(d:Drawn)(a0:Array xP)(c:Nat)(ms:List xP),(∀b o,b≠L->s.heap.get? b=wP o->h'.get? b=wP o)->h'.get? L=wP {cls:=.type "list",dict:=yP,data:=.seq a0 c,slots:=#[]}->ms.Perm vs->ItemsOf (Hl ms) a0 ms.length->R (.ok (.ret res)) {s with heap:=h',toks:=Y,drawn:=d}):
  wpAny (FP prog w) A.in1 (Builtin.List.listExtendWith (.ref L) (.ref a) res) (λfin s'=>match fin with
   |.done f=>R (.ok f) s'
   |.again f0=>f0.quiet=CP/\codeAny (FP prog w) A f0 R s') (λe s'=>R (.error e) s') s:=by
 have B0:L<s.heap.objs.size:=Xa e0;unfold Builtin.List.listExtendWith;refine ba (rj (T:="set") U.typeIs ?_);have q0:Builtin.List.listSameRef (.ref L) (.ref a)=GP:=by simp[Builtin.List.listSameRef,n0]
 have r0:(Value.type "set"==Value.type "list")=GP:=by decide
 have s0:(Value.type "set"==Value.type "tuple")=GP:=by decide
 simp only[q0,r0,s0,Bool.or_false,ph,hf];refine ba (CI (A:=A.in1) l0 U m0 λI h' d fp St ms t0 C0 g0 h0 W st=>?_);have u0:ms.length<=DP:=by
  rw[h0.length_eq];exact U.Kb
 have v0:L∉fp:=by grind
 have key:∀(J:NP)(d0 Y:Nat),St 0 J->(∀b o,b≠L->s.heap.get? b=wP o->J.get? b=wP o)->J.get? L=wP {cls:=.type "list",data:=.seq #[] d0}->
   codeAny (FP prog w) A (.builtin "list.extend.loop" ⟨[.ref L,.ref I,res],[]⟩) R {s with heap:=J,toks:=Y,drawn:=d}:=λJ d0 Y w0 x0 b0=>by
  refine codeAny_extend_loopS W.toS u0 L v0 res ms.length 0 _ #[] d0 rfl (Tb _) w0 b0 (ItemsOf.nil _) λi0 a0 y0 j0 c0 z0=>?_
  rw[Moved.eq_with j0];refine p0 i0.heap i0.toks d a0 y0 ms (λb o O e=>j0.heap b o (λz=>?_) (x0 b o O e)) c0 h0 z0;rcases jb.mp z with e'|e'
  ·exact O e'
  ·have:=Xa e;rw[Ce.mp e']at this;exact absurd t0 (by lia)
 have b0:=g0 _ _ e0;refine ba (Jc (DI (U.keep λo e=>g0 _ _ e).typeIs ?_));refine Sk (λ_=>?_) (λ_=>ca ⟨Hf F.plain_extend_loop _,by contradiction⟩);refine ba (Ye (ba ?_));show wpAny _ _ (updateSeq L (·.push .none)>>=λ_=>updateSeq L (·.pop)) _ _ _;refine ba (nl b0 rfl ?_);have c0:=zi (Obj.mapSeq (·.push Value.none)) b0 rfl;refine nl (hz:=by seq_fits) c0 rfl ?_;have A0:=zi (Obj.mapSeq (·.pop)) c0 rfl;have D0:∀b o,b≠L->h'.get? b=wP o->((h'.update L (Obj.mapSeq (·.push Value.none))).update L (Obj.mapSeq (·.pop))).get? b=wP o:=λb o O e=>(nh _ _ (Dc O)).trans ((nh _ _ (Dc O)).trans e)
 exact ca ⟨Hf F.plain_extend_loop _,key _ _ _ (W.frame 0 _ _ st (by grind)) (by(intros;simp_all)) A0⟩
def JA(c0:A.handled=yP)(b0:Vi s.heap a vs led)(d0:led=!w.params.followText "set-order")
  (h:∀(h':NP)(J:Nat)(d:Drawn)(ms:List xP),(∀b o,s.heap.get? b=wP o->h'.get? b=wP o)->ms.Perm vs->R ms {s with heap:=h',toks:=J,drawn:=d}):
  wpAny (FP prog w) A (collect (.ref a)) R E s:=by
 have e0:a<s.heap.objs.size:=by obtain⟨o,_,_,_,f0,_⟩:=b0;exact Xa f0
 unfold collect;refine ba (wpAny_runValue (Og PyProof.Rows.entry_proto_collect' ?_));rw[Hi F.plain_proto_collect _];show wpAny _ A.in1 (newList []>>=λl=>again (.builtin "list.__iadd__" ⟨[l,.ref a],[]⟩)) _ _ s;refine ba (oh (ca ⟨Hf F.plain_list_iadd _,Og PyProof.Rows.entry_list_iadd' ?_⟩));rw[Hi F.plain_list_iadd _];have g0:(s.heap.push {cls:=.type "list",data:=.seq ([]:List xP).toArray}).get? s.heap.objs.size=wP {cls:=.type "list",data:=.seq #[]}:=Hb _ rfl;show wpAny _ A.in1 (Builtin.List.listExtendWith (.ref s.heap.objs.size) (.ref a) (.ref s.heap.objs.size)) _ _ _;have key:=EI (prog:=prog) (A:=A) (s:={s with heap:=s.heap.push {cls:=.type "list",data:=.seq ([]:List xP).toArray}}) (L:=s.heap.objs.size) (res:=.ref s.heap.objs.size)
  (R:=λ(q:TR)(s':zP)=>∃(h':NP)(J:Nat)(d:Drawn)(O:Array xP)(c:Nat)(ms:List xP),q=.ok (.ret (.ref s.heap.objs.size))/\s'={s with heap:=h',toks:=J,drawn:=d}/\(∀b o,s.heap.get? b=wP o->h'.get? b=wP o)/\
   h'.get? s.heap.objs.size=wP {cls:=.type "list",dict:=yP,data:=.seq O c,slots:=#[]}/\ms.Perm vs/\ItemsOf (Hl ms) O ms.length)
  c0 (b0.keep λo e=>Ta _ e) d0 (Zj e0) g0
  (λh' J d O c ms k U Y a0=>nx8 h' J (nx20 d O c ms rfl rfl (λb o e=>k b o (Ab (Xa e)) (Ta _ e)) U Y a0))
 refine Pc key (λfin s' x=>?_) λe s' x=>?_
 ·cases fin with
  |done f=>
   obtain⟨h',J,d,O,c,ms,e,rfl,k,U,Y,a0⟩:=x;cases e;show wpAny _ A (load s.heap.objs.size>>=_) _ _ _;exact ba (wpAny_load U (ca (IA a0▸h h' J d ms k Y)))
  |again i0=>
   refine⟨x.1,kl x.2 λq j0 y=>?_⟩;obtain⟨h',J,d,O,c,ms,rfl,rfl,k,U,Y,a0⟩:=y;show wpAny _ A (load s.heap.objs.size>>=_) _ _ _;exact ba (wpAny_load U (ca (IA a0▸h h' J d ms k Y)))
 ·obtain⟨_,_,_,_,_,_,h0,_⟩:=x;cases h0
end
def KA{J:L2.St}(d:Drawn)(I:Inv X O J H s):Inv X O J H {s with drawn:=d}:=⟨I.ok,I.os,I.bare,I.base,I.loc,I.cell,I.free,I.Bb,I.pin,I.za,I.len⟩
inductive FI(K:W.Frag)(Q:VK)(vs:List V)(H1:Hp):Prop|mk(a ns)(_:vs=[V.ref a])(_:ia K H1 a (ns.map V.int))(_:ns.length<4000)(_:(dd ns).length<64)(_:∀l,H1 l=yP->Q (.ref l) (upd H1 l (.lst ((Yc (dd ns)).map V.int))))
def GI(K:W.Frag)(t:TA):TE:=λJ H Q=>t J H (FI K Q)
def HI{K:W.Frag}{p a0 pos J:sQ}(r0:X.K=K)(f0:X.calm=CP)(s0:Gl X "sorted")(t0:X.mg "sorted"=yP)(u0:Gl X "set")(v0:X.mg "set"=yP)(w0:PA X [e] t)
  (x0:JP [e] X.env=[(GP,XP e X.env)]:=by rfl)(g0:JP [.Call (.Name "set" a0) [e] [] J] X.env=[(GP,XP (.Call (.Name "set" a0) [e] [] J) X.env)]:=by rfl):
  PE X (.Call (.Name "sorted" p) [.Call (.Name "set" a0) [e] [] J] [] pos) (GI K t):=by
 constructor;intro y0 s z0 H Q I h;subst r0;refine Di (Sg I s0 t0 PyProof.Rows.boot_sorted ?_ (by decide) (by decide));refine gv ?_ (by rw[g0];rfl) rfl;rw[g0];show wpAny _ _ (YR ((GP,XP (.Call (.Name "set" a0) [e] [] J) X.env)::cQ pos [])) _ _ s;refine xj ?_;refine Di (Sg I u0 v0 PyProof.Rows.boot_set (jm (Aa (w0 J y0 s z0 H _ I h) ?_) x0 rfl) (by decide) (by decide));rintro us s1⟨vs,T0,b0,A0,q1⟩;obtain⟨l,ns,rfl,B0,U0,h0,q⟩:=q1;refine ea1 ?_ (gg A0);rintro u rfl C0;cases C0;refine ea7 ?_ (b0.list B0);rintro V0 i0 pl hz;have j0:=i0.length;rw[pa]at j0;refine iI (b0.ok.hd f0) pl.isList j0.symm (λj u D0=>?_) (show ns.length+1<4096 by lia) λh' W0 F0 k=>?_
 ·obtain⟨x,O,G0⟩:=Rf i0 D0;rw[fb]at O;cases c0:ns[j]? with
  |none=>rw[c0]at O;cases O
  |some n=>
   rw[c0]at O;cases O;obtain⟨t,rfl⟩:=G0;exact nx0 n t rfl rfl
 refine Wl ?_;have hsz:(dd ns).length<=DP:=Nb (sj h0) (by decide);refine Np CQ Vn Ln (NQ _) ?_;refine ba (ca (ba ?_));refine ea7 ?_ F0.BI;rintro vs I0 X0 J0;refine JA (b0.ok.hd f0) I0 rfl λU l0 d Y k2 K0=>?_
 refine ea7 ?_ (J0 Y K0);rintro ms m0 d0 L0;have n0:=m0.length_eq;have M0:=lw d0 L0;refine ba (oj ?_ (by rw[d0,n0];exact hsz));have e0:(U.push {cls:=.type "list",data:=.seq Y.toArray}).get? U.objs.size=wP (PP "list" Y.toArray 0):=Hb _ rfl;refine ba (Jc (zd En ⟨_,e0,rfl⟩ Mn (list_sort_tree e0 M0 (by rw[d0,n0];exact h0) λout Y0 N0 O0 P0=>⟨_,rfl,?_⟩) (Wp _)));obtain⟨Q0,R0⟩:=sortedHeap_at (out:=out) e0;have c0:=jA (O0.trans m0) P0;subst c0;have o0:=KA d (b0.kept (t':=l0) (h':=U) (by(intros;simp_all)));have S0:=o0.laid (o:=.lst ((Yc (dd ns)).map V.int)) (t':=l0) (h':=sortedHeap (U.push {cls:=.type "list",data:=.seq Y.toArray}) U.objs.size Y out)
  (λb v p0=>by
   have q0:=Xa p0;rw[sortedHeap_old (Ab q0) (by rw[Zf];exact Rn q0)];exact Ta _ p0) (xa _)
  (⟨by rw[pa,(Ff (dd ns)).length_eq];exact hsz,nx0 out.toList Q0 (kA N0) (by simpa[PP]using R0)⟩)
 exact ca ⟨_,rfl,.ref _,_,S0,rfl,q _ (o0.za.fresh (xa _))⟩
def II:typeLookup (.type "list") "keys"=pure yP:=by rw[IR,TQ];exact(by kernel_rfl)
def LA:entryFor table "dict.update.loop"=wP Builtin.«dict.update.loop»:=entryFor_of_tree (by kernel_rfl)
def MA:plainId "dict.update.loop"=CP:=by decide+kernel
section
variable{prog:HP}{w:KP}{A:LP}{E:xP->zP->Prop}{s:zP}
def JI(e0:PlainL s.heap l f0)(g0:A.handled=yP)(h:∀h' J,(∀b o,s.heap.get? b=wP o->h'.get? b=wP o)->Q yP {s with heap:=h',toks:=J}):wpAny (FP prog w) A (getAttr? (.ref l) "keys") Q E s:=by
 revert e0;refine eaA ?_;rintro o n O U Y a0;obtain⟨c,l0,m0,h0⟩:=o;simp only at U a0 Y;subst U a0 Y;obtain⟨i0,g,d,J,os⟩:=s;have b0:∀c0,(⟨i0,g,d,c0,os⟩:zP).TypeIs (.ref l) "list":=λ_=>⟨_,O,rfl⟩
 have n0:=sub_AttributeError;have o0:=hv.lookup;have p0:=hv.bind (.ref l);have q0:=am_list_getattr_none;have j0:(["__module__","__name__","__qualname__","__doc__","__annotations__"]:List Str).contains "keys"=GP:=by decide+kernel
 unfold getAttr? getAttrBy? getAttrBy;repeat(any_goals(first|assumption|exact b0 _|((with_reducible show wpAny _ _ (call (Value.builtin "list.__getattribute__") _ _) _ _ _);refine jl hv (b0 _) am_entry_list_getattribute (F.args_list_getattribute_2 _ _) (meets_getattribute_miss_list l f0 n h0 "keys" _ II j0 (by decide+kernel)) ⟨O,g0,λh' c0 e d0=>?_⟩)|wp_step))
 obtain⟨t',r0,s0⟩:=d0.there;unfold getattributeRaised;repeat(any_goals(first|assumption|wp_step))
 exact h _ _ d0.keeps
def KI{K:Type}[DecidableEq K](vs:List (K×xP))(k:K)(v:xP):(AR vs k v).length<=vs.length+1:=by
 unfold AR;split<;>simp
def Ym{K:Type}[DecidableEq K](vs:List (K×xP))(J:List (K×xP)):List (K×xP):=J.foldl (λa q=>AR a q.1 q.2) vs
def MI{us:List xP}{G:Nat->NP->Prop}(m0:A.handled=yP)(n0:l≠I)(o0:D≠I)(p0:D≠l)
  (keep:∀i h h',(∀b o,(∀fs,o.data≠.fields fs)->h.get? b=wP o->h'.get? b=wP o)->G i h->G i h')
  (put:∀(i:Nat)u(s:zP),us[i]?=wP u->G i s.heap->∃t U Y,u=.ref t/\s.heap.IsTuple t #[U,Y]/\∀{Q:Unit->zP->Prop}{E:xP->zP->Prop},(∀h J,(∀b,b≠D->h.get? b=s.heap.get? b)->G (i+1) h->Q () {s with heap:=h,toks:=J})->wpAny (FP prog w) A.in1 (dictSet D U Y) Q E s):
  ∀(k i:Nat)(s:zP),us.length-i=k->i<=us.length->s.heap.IsListIter I l i->s.heap.IsList l us.toArray->G i s.heap->
   (∀h' J,(∀b o,b≠I->b≠D->s.heap.get? b=wP o->h'.get? b=wP o)->G us.length h'->R (.ok (.ret .none)) {s with heap:=h',toks:=J})->
   codeAny (FP prog w) A (.builtin "dict.update.loop" ⟨[.ref D,.ref I,ZP i,.none],[]⟩) R s:=by
 have W:=Walks.list (prog:=prog) (w:=w) (A:=A.in1) m0 I l n0 us.toArray;have q0:us.toArray.size=us.length:=by simp
 have d0:∀{h:NP}{i:Nat},h.IsListIter I l i->∀b o,(∀fs,o.data≠.fields fs)->h.get? b=wP o->b≠I:=by
  rintro h i⟨K0,r0,L0,s0⟩b o n e rfl;rw[r0]at e;cases e;exact n _ s0
 intro k;induction k with
 |zero=>
  intro i s t0 hi O e0 a0 b0;obtain rfl:i=us.length:=by lia
  refine Og LA ?_;refine ba (W.done s _ _ (by simp[*]) λh' J u0=>?_);exact ba (ca (ca (b0 h' J (by grind) (keep _ _ _ (λb o n e=>u0 b o (by simpa using d0 O b o n e) e) a0))))
 |succ k v0=>
  intro i s t0 hi O e0 a0 b0;have f0:i<us.length:=by lia
  refine Og LA ?_;refine ba (W.item i s _ _ (by rw[q0];exact f0) ⟨O,e0⟩ λv w0 x0 y0 g0 h0=>?_);refine eb0 ?_ (put i v {s with heap:=w0,toks:=x0} (by simpa using y0) (keep _ _ _ (λb o n e=>h0 b o (by simpa using d0 O b o n e) e) a0));rintro t U Y rfl⟨z0,i0,A0,M0,B0⟩put;refine ba (Jc ?_);refine ba (Lh ?_);refine ba (rj ⟨z0,i0,A0⟩ ?_);refine ba (qg i0 B0 ?_);refine ca ?_;refine Jc (put λC0 D0 c0 F0=>?_);refine ca ⟨Hf MA _,?_⟩;have N0:ZP ((i:Int)+1)=ZP ((i+1:Nat):Int):=by rw[Int.natCast_add];rfl
  exact v0 (i+1) {s with heap:=C0,toks:=D0} (by lia) f0 (g0.1.at λo e=>(c0 I o0.symm).trans e) (g0.2.at λo e=>(c0 l p0.symm).trans e) F0 λG0 I0 k3 J0=>b0 G0 I0 (λb o j0 l0 e=>k3 b o j0 l0 ((c0 b l0).trans (h0 b o (by simpa using j0) e))) J0
end
inductive Il(K:W.Frag)(H:Hp):List V->List (Key×V)->Prop where
 |nil:Il K H [] []
 |cons{t:BP}{q:Key×V}{ws:List V}{ps:List (Key×V)}(h:Ba K H t [kV q.1,q.2])(r:Il K H ws ps):Il K H (.ref t::ws) (q::ps)
def sk(J O:List (Key×V)):List (Key×V):=O.foldl (λa q=>lc a q.1 q.2) J
def NI:∀{O:List (Key×V)}{ks:List (Key×xP)}{J:List (Key×V)}{vs:List (Key×xP)},KV O ks->KV J vs->KV (sk J O) (Ym vs ks):=by
 intro _ _ J vs h q;induction h generalizing J vs with
 |nil=>exact q
 |@cons p b _ _ e r U=>
  have:=KV.put q p.1 e.2;rw[show AR _ p.1 b.2=AR _ b.1 b.2 by rw[e.1]]at this;exact U this
def NA:∀(O J:List (Key×V)),(sk J O).length<=J.length+O.length
 |[],J=>xa _
 |q::r,J=>by
  have U:=NA r (lc J q.1 q.2);have Y:=Eo J q.1 q.2;show(sk (lc J q.1 q.2) r).length<=J.length+(r.length+1);lia
def OI{d0:L2.St}(I:Inv X l0 d0 H s):∀{U:List V}{Y:List (Key×V)}{J:List xP},Il X.K H U Y->Qa U J->
  ∃ks:List (Key×xP),KV Y ks/\J.length=ks.length/\∀(j:Nat)u,J[j]?=wP u->∃t O q,u=.ref t/\t<s.heap.objs.size/\ks[j]?=wP q/\s.heap.IsTuple t #[O,q.2]/\(ge X.prog X.w).is q.1 O=CP:=by
 intro U Y J h;induction h generalizing J with
 |nil=>rintro(_|_);exact⟨[],.nil,rfl,by(intros;simp_all)⟩
 |cons h r e0=>
  rintro(_|⟨f0,g0⟩);refine ea7 ?_ (e0 g0);rintro ks k1 k2 k3;refine ea7 ?_ (I.tuple h);rintro J h0⟨o,a0,b0⟩_;refine ea0 ?_ (zo h0);rintro O c0 rfl i0 j0;cases f0;refine⟨(_,c0)::ks,.cons ⟨rfl,j0⟩ k1,by simp[k2],λj u e=>?_⟩;cases j with
  |zero=>
   cases e;exact nx6 _ O (_,c0) rfl (Xa a0) rfl ⟨o,a0,b0.1,b0.2⟩ (Om i0)
  |succ j=>exact k3 j u (by simpa using e)
def OA{O:L2.St}{J:List xP}{G:Nat->NP->Prop}(c0:X.calm=CP)(I:Inv X d0 O H s)(pl:PlainL s.heap a J.toArray)
  (keep:∀i h h',(∀b o,(∀fs,o.data≠.fields fs)->h.get? b=wP o->h'.get? b=wP o)->G i h->G i h')(l0:G 0 (s.heap.push {cls:=.type "dict",data:=.dict #[]}))
  (put:∀(i:Nat)u(s':zP),J[i]?=wP u->G i s'.heap->∃t e0 f0,u=.ref t/\s'.heap.IsTuple t #[e0,f0]/\∀{Q:Unit->zP->Prop}{E:xP->zP->Prop},(∀h U,(∀b,b≠s.heap.objs.size->h.get? b=s'.heap.get? b)->G (i+1) h->Q () {s' with heap:=h,toks:=U})->wpAny (FP X.prog X.w) X.A.in1.in1 (dictSet s.heap.objs.size e0 f0) Q E s')
  (fin:∀h U,(∀b o,s.heap.get? b=wP o->h.get? b=wP o)->G J.length h->EP X d0 O Q (.ref s.heap.objs.size) {s with heap:=h,toks:=U}):
  wpAny (FP X.prog X.w) X.A (call (.type "dict") [.ref a]) (EP X d0 O Q) X.xe s:=by
 have g0:a<s.heap.objs.size:=by obtain⟨_,_,e,_⟩:=pl;exact Xa e
 refine callType_codes (Q₁:=λobj h0=>obj=.ref s.heap.objs.size/\h0={s with heap:=s.heap.push {cls:=.type "dict",data:=.dict #[]}}) F.kt_called_dict (F.kt_typeCall_dict_1 _) F.entry_dict_init (PySem.kt_code_dict_new _ ⟨rfl,rfl⟩) ?_;rintro obj h0⟨m0,n0⟩;subst m0 n0;have hd:=Hb s.heap (o:={cls:=.type "dict",data:=.dict #[]}) rfl;refine⟨⟨_,hd,rfl⟩,F.args_dict_init_2 _ _,?_⟩;refine ba (ba (Zr ⟨_,hd,rfl⟩ (ca ?_)));have Y:PlainL (s.heap.push {cls:=.type "dict",data:=.dict #[]}) a J.toArray:=pl.keeps λb o e=>Ta _ e
 refine ea0 ?_ (id Y);rintro o0 u0 p0 q0 _;refine ba (rj ⟨o0,p0,q0⟩ ?_);refine ba (JI Y (I.ok.hd c0) λi0 r0 a0=>?_);have j0:=Y.keeps a0;refine ba (Ye (ba (io j0.isList ?_)));have b0:=Xa (a0 _ _ hd);have kp:∀b o,(s.heap.push {cls:=.type "dict",data:=.dict #[]}).get? b=wP o->(i0.push {cls:=.type "list_iterator",data:=.fields #[.ref a,.int 0 0]}).get? b=wP o:=λb o e=>Ta _ (a0 _ _ e)
 exact ca ⟨Hf MA _,MI (A:=X.A.in1) (s:={s with heap:=i0.push {cls:=.type "list_iterator",data:=.fields #[.ref a,.int 0 0]},toks:=r0}) (I.ok.hd c0) (Ab (Nat.lt_trans g0 b0)) (Ab b0) (Zj g0) keep put J.length 0 rfl (Tb _) ⟨_,Hb _ rfl,rfl,rfl⟩ (j0.isList.push _) (keep _ _ _ (λb o _ e=>kp b o e) l0) λs0 t0 k3 g=>⟨rfl,fin s0 t0 (λb o e=>k3 b o (Ab (Nat.lt_trans (Xa e) b0)) (Ab (Xa e)) (kp b o (Ta _ e))) g⟩⟩
def Ht{K:W.Frag}(l0:X.K=K)(m0:X.calm=CP):Cf X (.type "dict") (λxs H Q=>∃(a:BP)(d0:List V)(Y:List (Key×V)),xs=[V.ref a]/\H a=wP (.lst d0)/\Il K H d0 Y/\Y.length<1000000/\∀p,H p=yP->Q (.ref p) (upd H p (.dK (sk [] Y)))):=by
 subst l0;intro G0 s I0 H xs us Q I r h;revert h;refine eaF ?_;rintro a d0 Y rfl n0 o0 hz q;obtain⟨u,rfl,p0⟩:=gg r;cases p0;refine ea7 ?_ (I.list (ia.of n0));rintro q0 r0 pl _;refine ea7 ?_ (OI I o0 r0);rintro ks k1 k2 k3;have J0:=(dm k1).symm;refine OA (G:=λi h=>h.DictOf (ge X.prog X.w) s.heap.objs.size (Ym [] (ks.take i))/\(Ym [] (ks.take i)).length<=i/\∀(j:Nat)u,q0[j]?=wP u->∃t J q,u=.ref t/\t<s.heap.objs.size/\ks[j]?=wP q/\h.IsTuple t #[J,q.2]/\(ge X.prog X.w).is q.1 J=CP) m0 I pl ?_ ⟨Heap.DictOf.new s.heap,xa _,λj u O=>?_⟩ ?_ ?_
 ·rintro i h h' k;refine ea3 ?_;rintro⟨o,es,ep,s0,t0,u0,r⟩e0 c0;refine⟨nx1 o es ep (k _ _ (by grind) s0) t0 u0 r,e0,λj u O=>?_⟩;refine eaF ?_ (c0 j u O);rintro t J q a0 U b0⟨f0,g0,c,n,d⟩h0;exact nx6 t J q a0 U b0 (nx18 f0 (k _ _ (by(intros;simp_all)) g0) c n d) h0
 ·refine eaF ?_ (k3 j u O);rintro t J q a0 U b0⟨f0,g0,r⟩h0;exact nx6 t J q a0 U b0 ⟨f0,Ta _ g0,r⟩ h0
 ·rintro i u s' O;refine ea3 ?_;rintro dd e0 c0;have hi:=(Zb.mp O).1;refine eaF ?_ (c0 i u O);rintro t J q rfl K0 v0 w0 i0;have e:Ym [] (ks.take (i+1))=AR (Ym [] (ks.take i)) q.1 q.2:=by rw[qc,v0];simp[Ym]
  refine nx7 t J q.2 rfl w0 λk=>?_;unfold dictSet;try with_reducible refine Jc ?_
  refine ba ((ge X.prog X.w).pyHash i0 (wpAny_dictSetHashed_pairs (hsz:=Nb e0 (Nb (show i<=1000000 by lia) (by decide))) i0 dd λx0 y0 j0=>k x0 _ j0.2 ⟨?_,?_,λj u O=>?_⟩))
  ·rw[e];exact y0
  ·have:=KI (Ym [] (ks.take i)) q.1 q.2;rw[e];lia
  ·refine eaF ?_ (c0 j u O);rintro t' z0 A0 a0 U b0⟨B0,C0,D0⟩F0;exact nx6 t' z0 A0 a0 U b0 ⟨B0,(j0.2 _ (Ab U)).trans C0,D0⟩ F0
 ·rintro h L0 kp⟨dd,-⟩;rw[k2,Ic]at dd;exact⟨.ref _,_,I.laid kp (xa _) (Uv (Nb (NA Y []) (by simp only[Yk,yj];exact Nb (sj hz) (by decide))) (rm.mpr (Dc (Ab I.big))) (NI k1 .nil) dd),rfl,q _ (I.za.fresh (xa _))⟩
def zw{h:NP}(x:h.Ns a m)(y:h.Ns a J):m=J:=by
 obtain⟨o,es,ep,O,U,Y⟩:=x;obtain⟨a0,b0,c0,d0,e0,f0⟩:=y
 grind
def QI{R:α->β->Prop}(p:J.Perm O):∀{U:List α},Paired R U O->∃Y:List α,Y.Perm U/\Paired R Y J:=by
 induction p with
 |nil=>exactλ{l}h=>⟨l,.refl _,h⟩
 |cons x _ b0=>
  intro l h;cases h with
  |cons r t=>
   obtain⟨a0,c0,h'⟩:=b0 t;exact⟨_::a0,c0.cons _,.cons r h'⟩
 |swap x y l=>
  intro a0 h;cases h with
  |cons r t=>
   cases t with
   |cons d0 e0=>exact⟨_::_::_,.swap _ _ _,.cons d0 (.cons r e0)⟩
 |trans _ _ f0 g0=>
  intro l h;obtain⟨O,h0,i0⟩:=g0 h;obtain⟨J,j0,l0⟩:=f0 i0;exact⟨J,j0.trans h0,l0⟩
def Aw{O:L2.St}{D:BP}(I:Inv X Y O H s)(keep:∀b o,b≠X.env.locals->s.heap.get? b=wP o->h'.get? b=wP o)
  (ns:∀m,s.heap.Ns X.env.locals m->h'.Ns X.env.locals m)(U:s.heap.objs.size<=D)(d0:Rc X.prog X.w (upd H D u) h' D u):Inv X Y O (upd H D u) {s with heap:=h',toks:=t'}:=by
 have old:∀b o,H b=wP o->b≠D:=λb o e=>Ab (Vd (I.za b o e).lt U)
 have a0:∀b o,s.heap.get? b=wP o->b≠D:=λb o e=>Ab (Vd (Xa e) U)
 refine I.step (g':=s.gens) (d':=s.drawn) (ch:=[]) (λ_ z=>nomatch z) (by(intros;simp_all)) (λb o b0 J _ e n=>⟨o.slots,keep b o b0 e⟩) (λb o _ e n=>by rw[oa (a0 b o e)];exact n) (λb o _ e=>?_) (λb _ e=>by rw[oa (old b _ e)];exact e) (λb _ _ e=>by rw[oa (old b _ e)];exact e) (λb e0 e=>⟨#[],by rw[oa (old b _ e)];simpa using e⟩) ns (λb v q=>?_) I.bare
 ·by_cases z:b=X.env.locals
  ·obtain⟨m,c0,_⟩:=I.loc;obtain⟨f0,_,_,g0,_⟩:=ns m c0
   simp_all
  simp[*]
 ·by_cases J:b=D
  ·subst J;rw[la]at q
   grind
  ·rw[oa J]at q;refine(I.za b v q).Dd (λc v h0 z=>keep c v (λy=>?_) z) (λc z=>by rw[oa (old c _ z)];exact z) λc _ z=>by rw[oa (old c _ z)];exact z
   have fr:=I.free
   simp_all
end My
namespace My
open PySem PyProof.Rows
def RI:Bool->OP->Array OP->Nat->Nat->Nat->StateT RP SR (Option Nat):=sortPriv%PySem.Builtin.gallop
def kf(p:OP):Int:=numOf p.1
section
variable{prog:HP}{w:KP}{s:zP}{A:LP}{E:xP->zP->Prop}
def be{st:RP}(e:xs[i]?=wP p)(h:Q p st):UQ (FP prog w) A E s (elem' xs i) Q st:=by
 rw[elem'_eq,e];exact Ja h
end
def SI:Array OP->Array OP->StateT RP SR (Array OP):=sortPriv%PySem.Builtin.mergeLo
def UI:Array OP->Array OP->StateT RP SR (Array OP):=sortPriv%PySem.Builtin.mergeHi
abbrev Bw(l:List OP):Prop:=l.Pairwise λx y=>kf x<=kf y
def Cw{A:List OP}(h:A[i]?=wP x):(A.drop i).take 1=[x]:=by
 have⟨hi,e⟩:=Zb.mp h;rw[ao hi,e];rfl
structure cc(st Jt:RP):Prop where
 kind:kindOf Jt=kindOf st
 arr:IP Jt=IP st
 pend:WP Jt=WP st
 fail:fQ Jt=fQ st
def cc.refl(st:RP):cc st st:=⟨rfl,rfl,rfl,rfl⟩
def cc.trans(h:cc a b)(k:cc b c):cc a c:=⟨k.kind.trans h.kind,k.arr.trans h.arr,k.pend.trans h.pend,k.fail.trans h.fail⟩
def cc.mk'(st:RP)(g:Nat):cc st (SortSt.mk' (kindOf st) (IP st) (WP st) g (fQ st)):=⟨rfl,rfl,rfl,rfl⟩
def Kt(a:Array OP)(i:Nat):(a.extract i).toList=a.toList.drop i:=by
 simp;exact gl (by simp_all)
def Jo(a:Array OP)(i k:Nat):(a.extract i (i+k)).toList=(a.toList.drop i).take k:=by simp[dv]
section
variable{prog:HP}{w:KP}{s:zP}{A:LP}{E:xP->zP->Prop}
def pb[Decidable c]{st:U}(Y:c->UQ (FP prog w) A E s J Q st)(a0:¬c->UQ (FP prog w) A E s O Q st):UQ (FP prog w) A E s (if c then J else O) Q st:=by
 grind
end
def Mt(a:Array OP)(n:Nat):(a.extract 0 n).toList=a.toList.take n:=by simp[dv]
def Nt(a:Array OP)(k n:Nat):(a.extract k n).toList=(a.toList.take n).drop k:=by simp[dv,List.drop_take]
structure Sb(ja:Array OP)(pd:Array (Nat×Nat×Nat))(lo:Nat)(xs:Array OP)(st:RP):Prop where
 perm:(IP st).Perm ja
 kind:kindOf st=oneType'
 fail:fQ st=yP
 pend:WP st=pd
 low:∀k,k<lo->(IP st)[k]?=xs[k]?
def Cb(xs:Array OP)(lo hi:Nat):Prop:=∀i j,lo<=i->i<=j->j<hi->K xs i<=K xs j
def Nc(xs:Array OP)(lo hi:Nat):Prop:=∀i j,lo<=i->i<=j->j<hi->K xs j<=K xs i
section
variable{prog:HP}{w:KP}{s:zP}{A:LP}{E:xP->zP->Prop}{ja xs:Array OP}{pd:Array (Nat×Nat×Nat)}{lo:Nat}{st:RP}
def Sb.size(h:Sb ja pd lo xs st):(IP st).size=ja.size:=h.perm.size_eq
def Sb.set(h:Sb ja pd lo xs st)(p:ys.Perm (IP st))(l:∀k,k<lo->ys[k]?=(IP st)[k]?):Sb ja pd lo xs (setArr st ys):=⟨p.trans h.perm,h.kind,h.fail,h.pend,λk J=>(l k J).trans (h.low k J)⟩
def Nc.eq(h:Nc xs lo hi)(e:∀k,K ys k=K xs k):Nc ys lo hi:=λi j J O U=>by
 rw[e,e];exact h i j J O U
end
def QA(J:Nat):∀(r:List OP)(c:Nat)(O:Array OP),J+c+r.length<=O.size->((r.zipIdx c).foldl (λa x=>a.setIfInBounds (J+x.2) x.1) O).toList=O.toList.take (J+c)++r++O.toList.drop (J+c+r.length)
 |[],c,O,_=>by simp
 |p::r,c,O,h=>by
  rw[Od]at h;have U:=QA J r (c+1) (O.setIfInBounds (J+c) p) (by rw[Array.size_setIfInBounds];lia);refine U.trans ?_;have Y:J+c<O.toList.length:=by rw[Lc];lia
  rw[Array.toList_setIfInBounds,show J+(c+1)=J+c+1 by lia,List.take_set,List.drop_set_of_lt (by lia),Od,show J+c+1+r.length=J+c+(r.length+1)by lia];rw[List.take_succ_eq_append_getElem Y,List.set_append_right _ _ (by rw[Ae];grind),Ae,eo (by lia),Nat.sub_self];simp
section
variable{prog:HP}{w:KP}{s:zP}{A:LP}{E:xP->zP->Prop}{ja:Array OP}{st:RP}
def VI{st J:O}(h:Q ⟨⟩ J):UQ (FP prog w) A E s (set J:StateT O SR PUnit) Q st:=by
 exact ca ⟨rfl,h⟩
end
open PySem.Spec L2
section
variable{X:Cx}
def Ko(a0:X.A.units+64<MP):Cc X (YP .NotEq) (λx y H Q=>∃(a b:BP)(xs:List V),x=.ref a/\y=.ref b/\ia X.K H a xs/\ia X.K H b []/\Q (.bl (!xs.isEmpty)) H):=by
 intro b0 s c0 H x y v u Q I J O h;revert h;refine eaF ?_;rintro a b xs rfl rfl U Y q;cases xs with
 |nil=>exact Lz a0 b0 s c0 H (.ref a) (.ref b) v u Q I J O ⟨_,_,.lst U .nil,.lst Y .nil,rfl,rfl,q⟩
 |cons w r=>
  cases J;cases O;refine ea7 ?_ (I.list U);rintro d0 e0⟨o,n,e,c,m0,dd⟩_;refine ea7 ?_ (I.list Y);rintro n0 f0⟨o0,g0,h0,i0,p0,j0⟩_;cases f0;have l0:(d0.toArray.size !=(#[]:Array xP).size)=CP:=by
   cases e0;simp
  exact PySem.SeqAt.RcNeAt.lists_lengths (nx18 _ e c n dd) (nx18 _ h0 i0 g0 j0) l0 (by lia) _ _ _ _ ⟨.bl CP,H,I,rfl,q⟩
end
section
variable{X:Cx}{e a b:UP}{es:List UP}{te ta tb:TE}{t:TA}{pos:sQ}
inductive Rq(t u:TS)(D:ug)(σ:L2.St)(H:Hp):Prop|mk(W:L2.St->Hp->Prop)(_:t {D with nx:=W} σ H)(_:∀Mf H',W Mf H'->u D Mf H')
def Ot{st:hQ}{J:List hQ}{t u:TS}(Y:PS X st t)(a0:De X J u):De X (st::J) (Rq t u):=by
 constructor;intro O s b0 H D I⟨W,h,k⟩;refine Rp (Aa (Y O s b0 H {D with nx:=W} I h) λf s1 q=>?_);cases f with
 |next=>
  revert q;refine ea8 ?_;rintro U H' c0 q;exact a0 O s1 U H' D c0 (k U H' q)
 |ret v=>exact q
 |brk=>exact q
 |cont=>exact q
end
open PyProof
mutual
inductive Tr(H:Hp):V->QP->Prop where
 |int(i:Int):Tr H (.int i) (.int i)
 |str(x:Str):Tr H (.str x) (.str x)
 |lst{a:BP}{xs:List V}{ds:List QP}(h:H a=wP (.lst xs))(r:ib H xs ds):Tr H (.ref a) (.list ds)
 |tup{a:BP}{xs:List V}{ds:List QP}(h:H a=wP (.tup xs))(r:ib H xs ds):Tr H (.ref a) (.tuple ds)
inductive ib(H:Hp):List V->List QP->Prop where
 |nil:ib H [] []
 |cons{x:V}{d:QP}{xs:List V}{ds:List QP}(h:Tr H x d)(r:ib H xs ds):ib H (x::xs) (d::ds)
end
mutual
def Tr.same{H H':Hp}(s:aa H H'){v:V}{d:QP}(h:Tr H v d):Tr H' v d:=by
 cases h with
 |int i=>exact .int i
 |str x=>exact .str x
 |lst h r=>exact .lst (s _ _ h) (ib.same s r)
 |tup h r=>exact .tup (s _ _ h) (ib.same s r)
def ib.same{H H':Hp}(s:aa H H'){vs:List V}{J:List QP}(h:ib H vs J):ib H' vs J:=by
 cases h with
 |nil=>exact .nil
 |cons h r=>exact .cons (Tr.same s h) (ib.same s r)
end
mutual
def Tr.dt{K:W.Frag}{H:Hp}{v:V}{d:QP}(h:Tr H v d):Dt K H v d:=by
 cases h with
 |int i=>exact .int i
 |str x=>exact .str x
 |lst h r=>exact .lst (ia.of h) (ib.Ew r)
 |tup h r=>exact .tup (Ba.of h) (ib.Ew r)
def ib.Ew{K:W.Frag}{H:Hp}{vs:List V}{J:List QP}(h:ib H vs J):Ri K H vs J:=by
 cases h with
 |nil=>exact .nil
 |cons h r=>exact .cons (Tr.dt h) (ib.Ew r)
end
def ib.len:∀{vs:List V}{J:List QP},ib H vs J->vs.length=J.length
 |_,_,.nil=>rfl
 |_,_,.cons _ r=>by simp only[Od,ib.len r]
def ib.get:∀{vs:List V}{J:List QP},ib H vs J->∀{i:Nat}{v:V},vs[i]?=wP v->∃d,J[i]?=wP d/\Tr H v d
 |_,_,.nil,i,v,e=>by simp at e
 |_,_,.cons h r,0,v,e=>by simp_all
 |_,_,.cons h r,i+1,v,e=>ib.get r (by simpa using e)
def ib.at:∀{vs:List V}{J:List QP},ib H vs J->∀{i:Nat}{d:QP},J[i]?=wP d->∃v,vs[i]?=wP v/\Tr H v d
 |_,_,.nil,i,v,e=>by simp at e
 |_,_,.cons h r,0,v,e=>by simp_all
 |_,_,.cons h r,i+1,v,e=>ib.at r (by simpa using e)
def ib.app:∀{vs us:List V}{J es:List QP},ib H vs J->ib H us es->ib H (vs++us) (J++es)
 |_,_,_,_,.nil,r=>r
 |_,_,_,_,.cons h q,r=>.cons h (ib.app q r)
def ib.ints:∀{vs:List V}{ns:List Int},ib H vs (ns.map PyData.int)->vs=ns.map V.int
 |_,[],.nil=>rfl
 |_,n::r,.cons h q=>by cases h;rw[ib.ints q];rfl
def ib.ofInts:∀(ns:List Int),ib H (ns.map V.int) (ns.map PyData.int)
 |[]=>.nil
 |n::r=>.cons (.int n) (ib.ofInts r)
end My
namespace My
open PySem PySem.Spec PyProof.Rows L2
def off(H H':Hp):Hp:=λb=>if(H b).isSome=CP then yP else H' b
def Zm(H:Hp)(D:BP):Hp:=λb=>if b=D then yP else H b
def WI:aa (Zm H D) H:=λb o e=>by
 unfold Zm at e
 simp_all
def Sq(h:H b=yP)(e:H' b=wP o):off H H' b=wP o:=by
 unfold off
 simp_all
def Gj(e:off H H' b=wP o):H b=yP/\H' b=wP o:=by
 unfold off at e;split at e
 ·cases e
 ·next h=>
  refine⟨?_,e⟩;cases q:H b with
  |none=>rfl
  |some z=>simp_all
def XI(s:aa H' J):aa (off H H') (off H J):=λb o e=>Sq (Gj e).1 (s _ _ (Gj e).2)
def YI(s:aa H J):aa (off J H') (off H H'):=λb o e=>Sq (by
 cases q:H b with
 |none=>rfl
 |some z=>have:=s _ _ q;rw[(Gj e).1]at this;cases this) (Gj e).2
def RA{α β:Type}(f:α->Option β):∀(as:List α),(List.range as.length).filterMap (λi=>as[i]?.bind f)=as.filterMap f:=by
 intro as;have key:∀n,n<=as.length->(List.range n).filterMap (λi=>as[i]?.bind f)=(as.take n).filterMap f:=by
  intro n;induction n with
  |zero=>intro _;rfl
  |succ n J=>
   intro h;rw[Ei,Op,J (by lia),qc,Op,Pd (by lia)]
   grind
 rw[key as.length (xa _),Ic]
def SA{α:Type}{d0 fs:L2.St}{K:W.Frag}(as:List α)(e0:α->QP)(f:α->Option V)(i0:d0=List.replicate k yP++fs)(c0:U l=wP (.lst xs))(f0:ib U xs (as.map e0))(hz:as.length<=DP)
  (step:∀a,a∈as->∀H(a0:L2.St)v(R:Option V->L2.St->Hp->Prop),aa U H->a0.length=k->Tr H v (e0 a)->(∀(g0:L2.St)Y,g0.length=k->aa H Y->R (f a) (g0++fs) Y)->
   g v (a0++fs) H λb0 j0=>l0 b0 j0 λok Y=>if ok=CP then m0 b0 Y λy n0=>R (wP y) b0 n0 else R yP b0 Y)
  (fin:∀D H',U D=yP->aa U H'->H' D=wP (.lst (as.filterMap f))->Q (.ref D) H'):Yh d0 (Vg K l) g l0 m0 Q U:=by
 have r0:xs.length=as.length:=by rw[f0.len,pa]
 refine kw as.length (λi=>as[i]?.bind f) i0 hz (λi H J hi=>(Ve (ia.of (J _ _ c0))).go i (by simp_all)) (λH J=>(Ve (ia.of (J _ _ c0))).stop _ (by simp_all)) ?_ λD H' o0 J O=>fin D H' o0 J (by rw[O,RA])
 rintro i H a0 v H' R J hi p0⟨rfl,q0⟩s0;have e:=q0 xs (ia.of (J _ _ c0));refine ea1 ?_ (f0.get e);rintro d O tr;rw[fb]at O;cases h0:as[i]? with
 |none=>rw[h0]at O;cases O
 |some a=>
  rw[h0]at O;cases O;exact step a (by grind) H' a0 v R J p0 (tr.same J) (by(intros;simp_all))
def ZI{α:Type}{q0 fs:L2.St}{k:Nat}{K:W.Frag}{l:BP}{xs:List V}{g:TG}{r0:TT}{s0:TE}{Q:VK}{O:Hp}(P:α->Prop)(S:Hp->Hp->Hp)(Z:BP->Hp->Hp)(as:List α)(i0:α->QP)(b0:α->Option QP)(x0:q0=List.replicate k yP++fs)(j0:O l=wP (.lst xs))(t0:ib O xs (as.map i0))(hz:as.length<=DP)
  (J0:∀D H J o,O D=yP->aa O H->H D=wP o->aa H J->aa (Z D H) (Z D J))(y0:∀D H J o l0,O D=yP->aa O H->H D=wP o->aa H J->aa (S H J) (Z D (upd J D (.lst l0))))
  (z0:∀D H o l0,O D=yP->aa O H->H D=wP o->aa (Z D H) (Z D (upd H D (.lst l0))))
  (step:∀a,a∈as->∀H (e0:L2.St)v (R:Option V->L2.St->Hp->Prop),aa O H->e0.length=k->Tr H v (i0 a)->Tr O v (i0 a)->(∀d y (Y:L2.St)J,P a->b0 a=wP d->Y.length=k->aa H J->Tr (S H J) y d->R (wP y) (Y++fs) J)->(P a->b0 a=yP->∀(Y:L2.St)J,Y.length=k->aa H J->R yP (Y++fs) J)->
   g v (e0++fs) H λf0 A0=>r0 f0 A0 λok J=>if ok=CP then s0 f0 J λy B0=>R (wP y) f0 B0 else R yP f0 J)
  (fin:(∀a∈as,P a)->∀D H' ys,O D=yP->aa O H'->H' D=wP (.lst ys)->ib (Z D H') ys (as.filterMap b0)->Q (.ref D) H'):Yh q0 (Vg K l) g r0 s0 Q O:=by
 have K0:xs.length=as.length:=by rw[t0.len,pa]
 refine Vm as.length (λD i ys H=>O D=yP/\ys.length<=i/\(∀a∈as.take i,P a)/\ib (Z D H) ys ((as.take i).filterMap b0)) x0 hz (λi H U hi=>(Ve (ia.of (U _ _ j0))).go i (by simp_all)) (λH U=>(Ve (ia.of (U _ _ j0))).stop _ (by simp_all)) (λ_ _ _ _ h=>h.2.1) (λD a0=>⟨a0,xa _,(by(intros;simp_all)),.nil⟩) ?_ ?_
 ·rintro D i H ys e0 v H' R g0;refine ea6 ?_;rintro a0 L0 m0 d0 U u0 C0⟨rfl,D0⟩k1 k2;refine ea1 ?_ (t0.get (D0 xs (ia.of (U _ _ j0))));rintro d v0 tr;have h0:=Pd u0;rw[fb,h0]at v0;cases v0;have w0:P as[i]->∀a∈as.take (i+1),P a:=λh a F0=>by
   rw[qc,h0]at F0
   grind
  refine step as[i] (List.getElem_mem u0) H' e0 v R U C0 (tr.same U) tr (λd y Y J n0 o0 p0 c0 G0=>k1 y Y J p0 c0 ⟨a0,(by simp_all),w0 n0,?_⟩) λn0 o0 Y J p0 c0=>k2 Y J p0 c0 ⟨a0,by lia,w0 n0,?_⟩
  ·rw[qc,h0,Op];refine((d0.same (by simp_all)).same (z0 D J _ _ a0 (U.trans c0) (c0 _ _ g0))).app ?_;show ib _ [y] (List.filterMap b0 [as[i]]);rw[ri,o0];exact .cons (G0.same (y0 D H' J _ _ a0 U g0 c0)) .nil
  ·rw[qc,h0,Op];have I0:List.filterMap b0 (wP as[i]).toList=[]:=by
    show List.filterMap b0 [as[i]]=[];rw[ri,o0];rfl
   rw[I0,z1m];exact d0.same (by grind)
 ·rintro D H' ys a0 U g0⟨_,_,m0,d0⟩;rw[Ic]at d0 m0;exact fin m0 D H' ys a0 U g0 d0
def Lo(e:Zm H D b=wP o):b≠D/\H b=wP o:=by
 unfold Zm at e
 simp_all
def Fw(h:b≠D)(e:H b=wP o):Zm H D b=wP o:=by
 unfold Zm
 simp[*]
def aJ{α:Type}{h0 fs:L2.St}{K:W.Frag}(P:α->Prop)(as:List α)(e0:α->QP)(a0:α->Option QP)(m0:h0=List.replicate k yP++fs)(n0:O l=wP (.lst xs))(f0:ib O xs (as.map e0))(hz:as.length<=DP)
  (step:∀a,a∈as->∀H(b0:L2.St)v(R:Option V->L2.St->Hp->Prop),aa O H->b0.length=k->Tr H v (e0 a)->(∀d y(Y:L2.St)J,P a->a0 a=wP d->Y.length=k->aa H J->Tr (off H J) y d->R (wP y) (Y++fs) J)->(P a->a0 a=yP->∀(Y:L2.St)J,Y.length=k->aa H J->R yP (Y++fs) J)->
   g v (b0++fs) H λc0 o0=>p0 c0 o0 λok J=>if ok=CP then q0 c0 J λy r0=>R (wP y) c0 r0 else R yP c0 J)
  (fin:(∀a∈as,P a)->∀D H' ys,O D=yP->aa O H'->H' D=wP (.lst ys)->ib (off O H') ys (as.filterMap a0)->Q (.ref D) H'):Yh h0 (Vg K l) g p0 q0 Q O:=
 ZI P (λH J=>off H J) (λD H=>Zm (off O H) D) as e0 a0 m0 n0 f0 hz (λD H J o d0 s1 U i0 b j0 e=>Fw (Lo e).1 (XI i0 _ _ (Lo e).2))
  (λD H J o s0 d0 s1 U i0 b j0 e=>by
   have l0:b≠D:=λz=>by rw[z]at e;rw[(Gj e).1]at U;cases U
   exact Fw l0 (Sq (Gj (YI s1 _ _ e)).1 (by rw[oa l0];exact(Gj e).2)))
  (λD H o s0 d0 s1 U b j0 e=>Fw (Lo e).1 (Sq (Gj (Lo e).2).1 (by rw[oa (Lo e).1];exact(Gj (Lo e).2).2)))
  (λa t0 H b0 v R g0 u0 tr _ v0 w0=>step a t0 H b0 v R g0 u0 tr v0 w0) λx0 D H' ys d0 g0 U f0=>fin x0 D H' ys d0 g0 U (f0.same WI)
def bJ{α:Type}{d0 fs:L2.St}{K:W.Frag}(as:List α)(c0:α->QP)(Y:α->Option QP)(e0:d0=List.replicate k yP++fs)(f0:O l=wP (.lst xs))(g0:ib O xs (as.map c0))(hz:as.length<=DP)
  (step:∀a,a∈as->∀H(a0:L2.St)v(R:Option V->L2.St->Hp->Prop),aa O H->a0.length=k->Tr H v (c0 a)->(∀d y(U:L2.St)J,Y a=wP d->U.length=k->aa H J->Tr (off H J) y d->R (wP y) (U++fs) J)->(Y a=yP->∀(U:L2.St)J,U.length=k->aa H J->R yP (U++fs) J)->
   g v (a0++fs) H λb0 h0=>i0 b0 h0 λok J=>if ok=CP then j0 b0 J λy l0=>R (wP y) b0 l0 else R yP b0 J)
  (fin:∀D H' ys,O D=yP->aa O H'->H' D=wP (.lst ys)->ib (off O H') ys (as.filterMap Y)->Q (.ref D) H'):Yh d0 (Vg K l) g i0 j0 Q O:=
 aJ (λ_=>True) as c0 Y e0 f0 g0 hz (λa m0 H a0 v R n0 o0 tr p0 q0=>step a m0 H a0 v R n0 o0 tr (by(intros;simp_all)) (by(intros;simp_all))) λ_=>fin
def cJ{X:Cx}{K:W.Frag}{o e:UP}{es:List UP}{O:TE}{t:TA}{name:Str}{U J:sQ}{T id:String}{r:V->List V->Hp->VK->Prop}(Y:X.K=K)(a0:PlainAttrs T)(slot:Slot T name id)(b0:typeOf (.builtin id)=pure (.type "method_descriptor"))(c0:Bl X id r)(d0:PE X o O)(e0:PA X (e::es) t)
  (f0:jR o name X.env (XP o X.env)=XP o X.env:=by rfl)
  (g0:((cQ J (JP (e::es) X.env)).all (λx=>!x.1)&&(RR J (aR [] X.env)).all (λx=>x.1.isSome)
   &&decide ((e::es).length+([]:List KR).length+(if([]:List KR).isEmpty then 0 else 1)<30))=CP:=by rfl)
  (h0:(U.endLine==J.line)=CP:=by rfl)(i0:JP (e::es) X.env=(GP,XP e X.env)::JP es X.env:=by rfl)(j0:(cQ J (JP es X.env)).any (·.1)=GP:=by rfl):
  PE X (.Call (.Attribute o name U) (e::es) [] J) (Sv K T r O t):=by
 subst Y;exact Ee a0 slot b0 c0 d0 e0 f0 g0 h0 i0 j0
end My
namespace My
open PySem PySem.W PyProof.Rows
def us1{α:Type}{us:List α}(h:us.length=1):∃a,us=[a]:=Ke.mp h
def us2{α:Type}{us:List α}(h:us.length=2):∃a b,us=[a,b]:=by
 obtain⟨a,t,rfl⟩:=Qr h;obtain⟨b,rfl⟩:=us1 (Nat.succ.inj h)
 grind
def us3{α:Type}{us:List α}(h:us.length=3):∃a b c,us=[a,b,c]:=by
 obtain⟨a,t,rfl⟩:=Qr h;obtain⟨b,c,rfl⟩:=us2 (Nat.succ.inj h)
 grind
def us4{α:Type}{us:List α}(h:us.length=4):∃a b c d,us=[a,b,c,d]:=by
 obtain⟨a,t,rfl⟩:=Qr h;refine ea5 ?_ (us3 (Nat.succ.inj h));rintro b c d rfl
 grind
def us5{α:Type}{us:List α}(h:us.length=5):∃a b c d e,us=[a,b,c,d,e]:=by
 obtain⟨a,t,rfl⟩:=Qr h;obtain⟨b,c,d,e,rfl⟩:=us4 (Nat.succ.inj h)
 grind
end My
namespace My
open PySem PySem.SetTable
def Bh{α:Type}[DecidableEq α]:∀{l m:List α},l.Nodup->(∀x∈l,x∈m)->l.length<=m.length
 |[],_,_,_=>Tb _
 |a::r,m,h,s=>by
  obtain⟨O,J⟩:=Vc.mp h;have U:a∈m:=by simp_all
  have:=Bh (m:=m.erase a) J (by grind)
  grind
def LS(mask:Nat)(h:Int):Nat->Nat×Nat
 |0=>(bits h%(mask+1),bits h)
 |r+1=>leap mask (LS mask h r).1 (LS mask h r).2
def rl(mask i:Nat):Nat:=runEnd mask i-i
def Gw(mask i:Nat):rl mask i<=9:=by
 unfold rl runEnd;split<;>simp_all
def Hw{mask i k:Nat}(hi:i<=mask)(h:k<=rl mask i):i+k<=mask:=by
 unfold rl runEnd at h;split at h<;>lia
def Pt(mask:Nat)(h:Int):∀r,(LS mask h r).1<=mask
 |0=>fo (km _ (pj _))
 |_+1=>fo (km _ (pj _))
def UA(mask:Nat)(h:Int):∀r,(LS mask h r).2=bits h/32^r
 |0=>by simp[LS]
 |r+1=>by
  show(LS mask h r).2/32=_;rw[UA mask h r,Nat.div_div_eq_div_mul,Nat.pow_succ]
def dJ(h:Int):bits h<2^64:=by
 unfold bits
 lia
def eJ(mask:Nat)(h:Int)(n:Nat):(LS mask h (12+n+1)).1=((LS mask h (12+n)).1*5+1)%(mask+1):=by
 show((LS mask h (12+n)).1*5+1+(LS mask h (12+n)).2/32)%(mask+1)=_;have e:(LS mask h (12+n)).2/32=0:=by
  rw[UA,Nat.div_div_eq_div_mul,<-Nat.pow_succ];refine Nat.div_eq_of_lt (Vd (dJ h) ?_);exact Nb (show 2^64<=32^13 by decide) (by grind)
 rw[e]
def ig(N:Nat):Nat->Nat->Nat
 |0,i=>i
 |n+1,i=>ig N n ((i*5+1)%N)
def Mo(N:Nat):∀a b i,ig N (a+b) i=ig N b (ig N a i)
 |0,b,i=>by rw[yj];rfl
 |a+1,b,i=>by
  rw[show a+1+b=(a+b)+1 by lia];exact Mo N a b _
def Iw(mask:Nat)(h:Int):∀n,(LS mask h (12+n)).1=ig (mask+1) n (LS mask h 12).1
 |0=>rfl
 |n+1=>by
  rw[show 12+(n+1)=12+n+1 by lia,eJ,Iw mask h n,Mo];rfl
def Wi(mask:Nat):Prop:=mask=7\/mask=31\/mask=127\/mask=511\/mask=2047
def Qt(N:Nat):Nat->Nat->Bool
 |0,i=>i==0
 |n+1,i=>i !=0&&Qt N n ((i*5+1)%N)
def WA:∀{n i:Nat},Qt N n i=CP->ig N n i=0/\∀m,m<n->ig N m i≠0
 |0,i,h=>⟨eq_of_beq h,by(intros;simp_all)⟩
 |n+1,i,h=>by
  simp only[Qt,ak,bne_iff_ne]at h;obtain⟨a,b⟩:=WA h.2;refine⟨a,λm J=>?_⟩;cases m with
  |zero=>exact h.1
  |succ m=>exact b m (by simp_all)
def Jw(h:0<N):∀n{i:Nat},i<N->ig N n i<N
 |0,_,hi=>hi
 |n+1,_,_=>Jw h n (km _ h)
def XA{mask:Nat}(J:Wi mask):∀(n:Nat){i j:Nat},i<mask+1->j<mask+1->ig (mask+1) n i=ig (mask+1) n j->i=j
 |0,_,_,_,_,e=>e
 |n+1,i,j,hi,O,e=>by
  have key:∀{i j:Nat},i<mask+1->(i*5+1)%(mask+1)=(j*5+1)%(mask+1)->i<=j:=λ{i j}hi e=>by
   have h:=Nat.dvd_of_mod_eq_zero (Nat.sub_mod_eq_zero_of_mod_eq e);rw[Nat.add_sub_add_right,<-Nat.sub_mul]at h;have c:Nat.Coprime (mask+1) 5:=by rcases J with rfl|rfl|rfl|rfl|rfl<;>rfl
   exact Nat.le_of_sub_eq_zero (Nat.eq_zero_of_dvd_of_lt (c.dvd_of_dvd_mul_right h) (Xn (Nat.sub_le _ _) hi))
  have:=XA J n (km _ (pj _)) (km _ (pj _)) e;exact Nat.le_antisymm (key hi this) (key O this.symm)
def fJ{mask:Nat}(J:Wi mask):(∀j<mask+1,∃n<mask+1,ig (mask+1) n 0=j)/\ig (mask+1) (mask+1) 0=0:=by
 have U:Qt (mask+1) mask 1=CP:=by rcases J with rfl|rfl|rfl|rfl|rfl<;>decide+kernel
 obtain⟨e0,Y⟩:=WA U;have a0:1%(mask+1)=1:=by rcases J with rfl|rfl|rfl|rfl|rfl<;>rfl
 have st:∀n,ig (mask+1) (n+1) 0=ig (mask+1) n 1:=λn=>by show ig _ n ((0*5+1)%(mask+1))=_;rw[Nat.zero_mul,yj,a0]
 refine⟨λj b0=>Oh λz=>?_,by simp_all⟩;have c0:((List.range (mask+1)).map λn=>ig (mask+1) n 0).Nodup:=by
  refine Be.mpr (Hn (λ{a b}f0 O g0 e=>?_) Sn);have O:=Af.mp O;obtain⟨c,rfl⟩:∃c,b=c+1+a:=⟨b-a-1,by grind⟩;rw[Mo]at e;have:=XA J a (pj _) (Jw (pj _) _ (pj _)) e;rw[st]at this;exact Y c (by lia) this.symm
 have:=Bh (m:=List.range (mask+1)) (Vc.mpr ⟨λh=>?_,c0⟩:(j::_).Nodup) λx d0=>?_
 ·simp at this;lia
 ·obtain⟨n,h0,e⟩:=Ya.mp h;exact z (by simp_all)
 ·rcases jb.mp d0 with e|h
  ·exact Af.mpr (e▸b0)
  ·obtain⟨n,_,e⟩:=Ya.mp h;exact Af.mpr (e▸Jw (pj _) _ (pj _))
def YA{mask:Nat}(U:Wi mask)(h:Int)(Y:j<=mask):∃r,r<turns mask/\(LS mask h r).1=j:=by
 obtain⟨all,a0⟩:=fJ U;obtain⟨a,b0,J⟩:=all (LS mask h 12).1 (jq (Pt mask h 12));obtain⟨b,c0,O⟩:=all j (jq Y);by_cases d0:a<=b
 ·refine⟨12+(b-a),by unfold turns;grind,?_⟩;rw[Iw,<-J,<-Mo,show a+(b-a)=b by simp_all,O]
 ·refine⟨12+(b+(mask+1)-a),by unfold turns;lia,?_⟩;rw[Iw,<-J,<-Mo,show a+(b+(mask+1)-a)=(mask+1)+b by lia,Mo,a0,O]
def Ps(mask:Nat)(h:Int)(r k:Nat):Nat:=(LS mask h r).1+k
def Zc(mask:Nat)(h:Int)(ok:Nat->Prop)(r k:Nat):Prop:=(∀O,O<r->∀J,J<=rl mask (LS mask h O).1->ok (Ps mask h O J))/\∀J,J<k->ok (Ps mask h r J)
def Zc.mono{mask:Nat}(b:Zc mask h p r k)(i:∀j,p j->q j):Zc mask h q r k:=⟨λO a J c=>i _ (b.1 O a J c),λJ a=>i _ (b.2 J a)⟩
def Zc.zero(mask:Nat)(h:Int)(ok:Nat->Prop):Zc mask h ok 0 0:=⟨λ_ a=>absurd a (Vp _),λ_ a=>absurd a (Vp _)⟩
def Zc.more{mask:Nat}{ok:Nat->Prop}(b:Zc mask h ok r k)(o:ok (Ps mask h r k)):Zc mask h ok r (k+1):=
 ⟨b.1,λJ a=>by
  rcases Gn.mp a with z|z
  ·exact b.2 J z
  simp_all⟩
def Zc.next{mask:Nat}{ok:Nat->Prop}(b:Zc mask h ok r (rl mask (LS mask h r).1+1)):Zc mask h ok (r+1) 0:=
 ⟨λO a J c=>by
  rcases Gn.mp a with z|z
  ·exact b.1 O z J c
  ·subst z;exact b.2 J (by lia),by(intros;simp_all)⟩
def gJ{mask:Nat}(b:Zc mask h p r k)(U:Zc mask h q J O)(Y:k<=rl mask (LS mask h r).1)(a0:O<=rl mask (LS mask h J).1):
  p (Ps mask h J O)\/(r=J/\k=O)\/q (Ps mask h r k):=by
 by_cases z:J<r
 ·exact .inl (b.1 J z O a0)
 ·by_cases b0:r<J
  ·exact .inr (.inr (U.1 r b0 k Y))
  ·have e:r=J:=by lia
   subst e;by_cases y:O<k
   ·exact .inl (b.2 O y)
   ·by_cases c0:k<O
    ·exact .inr (.inr (U.2 k c0))
    ·exact .inr (by lia)
def Pb(mask:Nat)(h:Int)(r k:Nat):Probe:={j:=Ps mask h r k,more:=rl mask (LS mask h r).1-k,i:=(LS mask h r).1,perturb:=(LS mask h r).2,dummy:=yP}
def hJ(t:SetTable)(h:Int):t.probeStart h=Pb t.mask h 0 0:=rfl
def iJ{t:SetTable}(J:k<rl t.mask (LS t.mask h r).1):t.advance (Pb t.mask h r k)=Pb t.mask h r (k+1):=by
 unfold SetTable.advance;rw[wa (show(Pb t.mask h r k).more>0 by show rl _ _-k>0;lia)];unfold Pb Ps
 rfl
def jJ{t:SetTable}(J:k=rl t.mask (LS t.mask h r).1):t.advance (Pb t.mask h r k)=Pb t.mask h (r+1) 0:=by
 unfold SetTable.advance;rw[ma (show¬(Pb t.mask h r k).more>0 by show¬rl _ _-k>0;simp_all)];rfl
def ZA{t:SetTable}{ok:Nat->Prop}(U:k<=rl t.mask (LS t.mask h r).1)(b:Zc t.mask h ok r k)(o:ok (Ps t.mask h r k)):
  ∃J O,t.advance (Pb t.mask h r k)=Pb t.mask h J O/\O<=rl t.mask (LS t.mask h J).1/\Zc t.mask h ok J O/\10*r+k<10*J+O:=by
 by_cases z:k<rl t.mask (LS t.mask h r).1
 ·exact nx3 r (k+1) (iJ z) z (b.more o) (by lia)
 ·have e:k=rl t.mask (LS t.mask h r).1:=by lia
  have:=Gw t.mask (LS t.mask h r).1;exact nx3 (r+1) 0 (jJ e) (Tb _) ((e▸b.more o:Zc t.mask h ok r (rl t.mask (LS t.mask h r).1+1)).next) (by lia)
def aB{t:SetTable}(J:rf t.place)(e:t.place[i]?=wP j):t.slot j=.live i:=by
 unfold SetTable.slot;have:=uA J e
 simp_all
def kJ{t:SetTable}(J:rf t.place)(O:t.dummies=#[])(e:j∉t.place.toList):t.slot j=.empty:=by
 unfold SetTable.slot;have n:¬t.place[below t.place j]?=wP j:=by grind
 simp only[beq_iff_eq,n,hf,(Gc.mk J O).sf,ph]
def lJ(b0:rf t.place)(f0:t.dummies=#[]){f:Nat->Int}{ok:Nat->Prop}(live:∀j,ok j->j∈t.place.toList)(g0:∀i j,t.place[i]?=wP j->f i≠h->ok j)
  (room:∃r,r<turns t.mask/\(LS t.mask h r).1∉t.place.toList):∀(O r k:Nat),k<=rl t.mask (LS t.mask h r).1->Zc t.mask h ok r k->10*turns t.mask<=O+(10*r+k)->
  ∃J k1,k1<=rl t.mask (LS t.mask h J).1/\Zc t.mask h ok J k1/\10*r+k<=10*J+k1/\((Ps t.mask h J k1∉t.place.toList/\probe.go t f h O (Pb t.mask h r k)=wP (.empty (Ps t.mask h J k1) yP))\/
   ∃i,t.place[i]?=wP (Ps t.mask h J k1)/\f i=h/\probe.go t f h O (Pb t.mask h r k)=wP (.candidate (Ps t.mask h J k1) i (t.advance (Pb t.mask h J k1)))):=by
 revert room;refine ea1 ?_;rintro Y s0 h0;have i0:∀{r k:Nat},Zc t.mask h ok r k->r<=Y:=λ{r k}b=>by
  by_cases z:r<=Y
  ·exact z
  ·exact absurd (live _ (b.1 Y (by simp_all) 0 (Tb _))) h0
 intro O;induction O with
 |zero=>
  intro r k U b j0;have:=i0 b;have:=Gw t.mask (LS t.mask h r).1;lia
 |succ O l0=>
  intro r k U b j0;by_cases a0:Ps t.mask h r k∈t.place.toList
  ·obtain⟨i,hi⟩:=ze.mp a0;rw[ee]at hi;have c0:=aB b0 hi;by_cases hz:f i=h
   ·refine nx3 r k U b (xa _) (.inr ⟨i,hi,hz,?_⟩);unfold probe.go;rw[show(Pb t.mask h r k).j=Ps t.mask h r k from rfl,c0]
    simp_all
   ·refine eaA ?_ (ZA U b (g0 i _ hi hz));rintro d0 e0 m0 n0 o0 lt;refine eaA ?_ (l0 d0 e0 n0 o0 (by lia));rintro J k1 p0 q0 t0 r0;have e:probe.go t f h (O+1) (Pb t.mask h r k)=probe.go t f h O (Pb t.mask h d0 e0):=by
     conv=>lhs;unfold probe.go
     rw[show(Pb t.mask h r k).j=Ps t.mask h r k from rfl,c0];simp only[beq_iff_eq,hz,hf,m0]
    rw[e];exact nx3 J k1 p0 q0 (by lia) r0
  ·refine nx3 r k U b (xa _) (.inl ⟨a0,?_⟩);unfold probe.go;rw[show(Pb t.mask h r k).j=Ps t.mask h r k from rfl,kJ b0 f0 a0];rfl
def Dh{α:Type}(p:Nat)(x:α)(l:List α):List α:=l.take p++x::l.drop p
def bB(xs:Array α)(p:Nat)(x:α):(insertAt xs p x).toList=Dh p x xs.toList:=by
 unfold insertAt Dh;simp;exact gl (by simp)
def mJ(J:l.length=m.length)(p:Nat)(x:α)(y:β):(Dh p x l).zip (Dh p y m)=Dh p (x,y) (l.zip m):=by
 unfold Dh;rw[List.zip_append (by simp[J]),Kn];show List.zipWith Prod.mk (l.take p) (m.take p)++(x,y)::List.zipWith Prod.mk (l.drop p) (m.drop p)=(List.zipWith Prod.mk l m).take p++(x,y)::(List.zipWith Prod.mk l m).drop p;rw[List.take_zipWith,List.drop_zipWith]
def Kw:z∈Dh p x l↔z=x\/z∈l:=by
 unfold Dh;rw[Xb,jb];constructor
 ·grind
 ·rintro(a|a)
  ·exact .inr (.inl a)
  ·rw[<-Bi p l]at a
   grind
def Mw(p:Nat)(x:α)(l:List α):(Dh p x l).Perm (x::l):=by
 unfold Dh;refine List.perm_middle.trans ?_;rw[Bi]
structure TT(t:SetTable)(es:List (Int×xP)):Prop where
 size:Wi t.mask
 up:rf t.place
 nd:t.dummies=#[]
 within:∀j∈t.place.toList,j<=t.mask
 len:t.place.toList.length=es.length
 bn:∀j e,(j,e)∈t.place.toList.zip es->∃r k,k<=rl t.mask (LS t.mask e.1 r).1/\Ps t.mask e.1 r k=j/\Zc t.mask e.1 (·∈t.place.toList) r k
def TT.ok(T:TT t es):Gc t:=⟨T.up,T.nd⟩
def TT.fresh(f m:Nat)(l:Bool):TT (.fresh f m l) []:=⟨.inl rfl,List.Pairwise.nil,rfl,(λ_ h=>by cases h),rfl,(λ_ _ h=>by cases h)⟩
def TT.room(T:TT t es)(h:Int)(Kb:es.length<=t.mask):∃r,r<turns t.mask/\(LS t.mask h r).1∉t.place.toList:=by
 have:∃j,j<=t.mask/\j∉t.place.toList:=by
  apply Oh;intro z;have:=Bh (l:=List.range (t.mask+1)) (m:=t.place.toList) List.nodup_range (by grind);rw[gf,T.len]at this;lia
 obtain⟨j,J,O⟩:=this;obtain⟨r,U,e⟩:=YA T.size h J;exact(by grind)
def TT.put{t:SetTable}{es:List (Int×xP)}(T:TT t es){z:Int}{x:xP}{r k:Nat}(U:k<=rl t.mask (LS t.mask z r).1)(b:Zc t.mask z (·∈t.place.toList) r k)(a0:Ps t.mask z r k∉t.place.toList):
  TT (t.put (Ps t.mask z r k)).1 (Dh (t.put (Ps t.mask z r k)).2 (z,x) es)/\(t.put (Ps t.mask z r k)).1.led=t.led:=by
 have O:=T.ok.put a0;have pl:(t.put (Ps t.mask z r k)).1.place.toList=Dh (t.put (Ps t.mask z r k)).2 (Ps t.mask z r k) t.place.toList:=bB _ _ _;have mk:(t.put (Ps t.mask z r k)).1.mask=t.mask:=rfl;have mem:∀j,j∈t.place.toList->j∈(t.put (Ps t.mask z r k)).1.place.toList:=λj J=>by rw[pl];exact Kw.mpr (.inr J)
 refine⟨⟨T.size,O.1.up,O.1.nd,λj J=>?_,?_,λj e Y=>?_⟩,O.2⟩
 ·rw[pl]at J;rcases Kw.mp J with q|q
  ·rw[q];exact Hw (Pt _ _ _) U
  ·exact T.within j q
 ·rw[pl];have a:=(Mw (t.put (Ps t.mask z r k)).2 (Ps t.mask z r k) t.place.toList).length_eq;have c:=(Mw (t.put (Ps t.mask z r k)).2 (z,x) es).length_eq;rw[a,c,Od,Od,T.len]
 ·rw[pl,mJ T.len]at Y;rcases Kw.mp Y with q|q
  ·cases q;exact nx5 r k U rfl (b.mono mem)
  ·refine ea0 ?_ (T.bn j e q);rintro b0 c0 d0 e0 f0;exact nx5 b0 c0 d0 e0 (f0.mono mem)
def cB{α:Type}[DecidableEq α]:∀{l m:List α},l.Nodup->m.Nodup->(∀x,x∈l↔x∈m)->l.Perm m
 |[],m,_,_,h=>by
  cases m with
  |nil=>exact .nil
  |cons a r=>exact absurd ((h a).mpr Yf) (by simp)
 |a::r,m,U,O,h=>by
  obtain⟨Y,a0⟩:=Vc.mp U;have b0:a∈m:=(h a).mp Yf;refine List.Perm.trans (.cons a (cB a0 (O.erase a) λx=>?_)) (List.perm_cons_erase b0).symm;constructor
  ·intro J;exact(List.mem_erase_of_ne (λ(e:x=a)=>Y (by rw[<-e];exact J))).mpr ((h x).mp (rh _ J))
  ·intro J;have c0:x≠a:=λe=>(O.not_mem_erase) (e▸J)
   rcases jb.mp ((h x).mpr (List.mem_of_mem_erase J))with z|z
   ·exact absurd z c0
   ·exact z
def Xg(J:Array (Option Nat))(j:Nat):Prop:=∃m,J[j]?=wP (wP m)
def Nw(O:j<J.size):(J.getD j (wP 0)).isNone=CP↔¬Xg J j:=by
 have e:J[j]?=wP J[j]:=Ci O;have U:J.getD j (wP 0)=J[j]:=by simp[Array.getD,O]
 rw[U];unfold Xg;rw[e];cases J[j]with
 |none=>simp
 |some m=>simp
def nJ{mask:Nat}(e0:J.size=mask+1)(room:∃r,r<turns mask/\¬Xg J (LS mask h r).1):∀(Y r:Nat),Zc mask h (Xg J) r 0->turns mask<=Y+r->
  ∃U k1,k1<=rl mask (LS mask h U).1/\Zc mask h (Xg J) U k1/\¬Xg J (Ps mask h U k1)/\layClean.free mask J Y (LS mask h r).1 (LS mask h r).2=wP (Ps mask h U k1):=by
 revert room;refine ea1 ?_;rintro f0 u0 g0;intro Y;induction Y with
 |zero=>
  intro r b h0;exact absurd (b.1 f0 (by lia) 0 (Tb _)) g0
 |succ Y i0=>
  intro r b h0;have d0:runEnd mask (LS mask h r).1+1-(LS mask h r).1=rl mask (LS mask h r).1+1:=by
   unfold rl runEnd;split<;>lia
  have b0:∀k,k<=rl mask (LS mask h r).1->(LS mask h r).1+k<J.size:=λk O=>by rw[e0];exact jq (Hw (Pt _ _ _) O)
  cases a0:(List.range (rl mask (LS mask h r).1+1)).find? (λk=>(J.getD ((LS mask h r).1+k) (wP 0)).isNone)with
  |none=>
   have all:=As.mp a0;have j0:∀k,k<=rl mask (LS mask h r).1->Xg J (Ps mask h r k):=λk O=>by
    have:=all k (Af.mpr (jq O));rw[Nw (b0 k O)]at this;exact Classical.not_not.mp this
   have l0:Zc mask h (Xg J) r (rl mask (LS mask h r).1+1):=⟨b.1,λk O=>j0 k (fo O)⟩;refine eaA ?_ (i0 (r+1) l0.next (by lia));rintro U k1 m0 n0 o0 p0;refine nx3 U k1 m0 n0 o0 ?_;unfold layClean.free;rw[d0,a0];exact p0
  |some k=>
   refine ea3 ?_ (List.find?_range_eq_some.mp a0);rintro q0 r0 s0;have O:k<=rl mask (LS mask h r).1:=fo (Af.mp r0);refine nx3 r k O ⟨b.1,λc0 t0=>?_⟩ ((Nw (b0 k O)).mp q0) ?_
   ·have:=s0 c0 t0;have n:¬(J.getD ((LS mask h r).1+c0) (wP 0)).isNone=CP:=λq=>by rw[q]at this;cases this
    rw[Nw (b0 c0 (by grind))]at n;exact Classical.not_not.mp n
   ·unfold layClean.free;rw[d0,a0];rfl
structure LI(mask:Nat)(hs:List Int)(ow:Array (Option Nat)):Prop where
 sz:ow.size=mask+1
 at_:∀(j m:Nat),ow[j]?=wP (wP m)->∃z,hs[m]?=wP z/\∃r k,k<=rl mask (LS mask z r).1/\Ps mask z r k=j/\Zc mask z (Xg ow) r k
 one:∀(j j' m:Nat),ow[j]?=wP (wP m)->ow[j']?=wP (wP m)->j=j'
 all:∀(m:Nat),m<hs.length->∃(j:Nat),ow[j]?=wP (wP m)
def LI.nil(mask:Nat):LI mask [] (Array.replicate (mask+1) yP):=by
 have J:∀(j m:Nat),(Array.replicate (mask+1) (yP:Option Nat))[j]?=wP (wP m)->False:=λj m e=>by
  rw[Array.getElem?_replicate]at e;split at e<;>cases e
 exact⟨by simp,λj m e=>(J j m e).elim,λj O m e=>(J j m e).elim,λm h=>absurd h (Vp _)⟩
def LI.room{mask:Nat}(L:LI mask Y O)(c0:Wi mask)(Kb:Y.length<=mask)(z:Int):∃r,r<turns mask/\¬Xg O (LS mask z r).1:=by
 have:∃j,j<=mask/\¬Xg O j:=by
  apply Oh;intro n;have U:∀(j:Nat),j<mask+1->∃m,O[j]?=wP (wP m):=λj J=>Oh λy=>n ⟨j,fo J,y⟩
  have d0:((List.range (mask+1)).map λj=>((O[j]?).join).getD 0).Nodup:=by
   refine Be.mpr (Hn (λ{a b}e0 f0 g0 e=>?_) (List.nodup_range (n:=mask+1)));obtain⟨m,em⟩:=U a (Af.mp e0);obtain⟨h0,a0⟩:=U b (Af.mp f0);rw[em,a0]at e;have i0:m=h0:=by simpa using e
   subst i0;exact g0 (L.one a b m em a0)
  have:=Bh (m:=List.range Y.length) d0 λx j0=>by
   obtain⟨j,J,b0⟩:=Ya.mp j0;obtain⟨m,em⟩:=U j (Af.mp J);rw[em]at b0;have:m=x:=by simpa using b0
   subst this;obtain⟨y,n0,_⟩:=L.at_ j m em
   grind
  rw[pa,gf,gf]at this;lia
 obtain⟨j,J,l0⟩:=this;obtain⟨r,m0,e⟩:=YA c0 z J;exact⟨r,m0,e▸l0⟩
def LI.snoc{mask:Nat}(L:LI mask O U)(f0:Wi mask)(Kb:O.length<=mask)(z:Int):
  ∃j,layClean.free mask U (turns mask) (bits z%(mask+1)) (bits z)=wP j/\LI mask (O++[z]) (U.setIfInBounds j (wP O.length)):=by
 refine eaA ?_ (nJ (h:=z) L.sz (L.room f0 Kb z) (turns mask) 0 (Zc.zero _ _ _) (by lia));rintro J k1 b0 g0 h0 i0;refine⟨_,i0,?_⟩;have p0:Ps mask z J k1<U.size:=by rw[L.sz];exact jq (Hw (Pt _ _ _) b0)
 have get:∀(j:Nat),(U.setIfInBounds (Ps mask z J k1) (wP O.length))[j]?=if Ps mask z J k1=j then wP (wP O.length)else U[j]?:=λj=>by
  grind
 have mono:∀j,Xg U j->Xg (U.setIfInBounds (Ps mask z J k1) (wP O.length)) j:=λj⟨m,em⟩=>by
  refine⟨m,?_⟩
  grind
 have lt:∀(j m:Nat),U[j]?=wP (wP m)->m<O.length:=λj m em=>by
  obtain⟨y,Y,_⟩:=L.at_ j m em;exact(Zb.mp Y).1
 refine⟨by simp[L.sz],λj m em=>?_,λj c0 m em a0=>?_,λm d0=>?_⟩
 ·rw[get]at em;by_cases e:Ps mask z J k1=j
  ·rw[wa e]at em;have j0:O.length=m:=by simpa using em
   subst j0;exact nx12 z (by simp) J k1 b0 e (g0.mono mono)
  ·rw[ma e]at em;obtain⟨y,Y,r,k,l0,m0,n0⟩:=L.at_ j m em;exact nx12 y (by rw[Ms (lt j m em)];exact Y) r k l0 m0 (n0.mono mono)
 ·rw[get]at em a0;by_cases e:Ps mask z J k1=j
  ·grind
  ·rw[ma e]at em;by_cases o0:Ps mask z J k1=c0
   ·grind
   ·rw[ma o0]at a0;exact L.one j c0 m em a0
 ·rw[Ac,List.length_singleton]at d0;rcases Gn.mp d0 with q|q
  ·obtain⟨j,e0⟩:=L.all m q;refine⟨j,?_⟩;rw[get,ma (λ(e:Ps mask z J k1=j)=>h0 ⟨m,by rw[e];exact e0⟩)];exact e0
  ·exact⟨_,by rw[get,wa rfl,q]⟩
def Qb{mask:Nat}(a0:Wi mask):∀(O J:List Int)(U:Array (Option Nat)),LI mask J U->J.length+O.length<=mask+1->
  ∃Y,(O.foldl (λb0 z=>do
   let(owner,k)<-b0
   let j<-layClean.free mask owner (turns mask) (bits z%(mask+1)) (bits z)
   pure (owner.setIfInBounds j (wP k),k+1)) (wP (U,J.length))).map (·.1)=wP Y/\LI mask (J++O) Y
 |[],J,U,L,_=>⟨U,rfl,by simp_all⟩
 |z::O,J,U,L,Kb=>by
  rw[Od]at Kb;refine ea1 ?_ (L.snoc a0 (by lia) z);rintro j d0 c0;refine ea1 ?_ (Qb a0 O (J++[z]) _ c0 (by grind));rintro Y e0 L2
  grind
def oJ{mask:Nat}(U:Wi mask)(J:Array Int)(Kb:J.size<=mask+1):∃O,layClean mask J=wP O/\LI mask J.toList O:=by
 obtain⟨O,e,L⟩:=Qb U J.toList [] _ (LI.nil mask) (by simpa using Kb);refine⟨O,?_,L⟩;unfold layClean
 simp_all
def pJ{mask:Nat}(h0:Wi mask)(es:Array (Int×xP))(Kb:es.size<=mask+1)(e0 f0:Nat)(led pl:Bool):
  ∃t o,laid mask e0 f0 led pl (es.map (·.1))=wP (t,o)/\t.mask=mask/\t.led=led/\TT t (o.filterMap (es[·]?)).toList/\(o.filterMap (es[·]?)).toList.Perm es.toList:=by
 refine ea1 ?_ (oJ h0 (es.map (·.1)) (by simpa using Kb));rintro J n0 L;have i0:laid mask e0 f0 led pl (es.map (·.1))=wP ({mask,place:=(((List.range (mask+1)).filterMap λj=>(J.getD j yP).map (j,·)).map (·.1)).toArray,dummies:=#[],finger:=e0,led,moves:=f0,plain:=pl},(((List.range (mask+1)).filterMap λj=>(J.getD j yP).map (j,·)).map (·.2)).toArray):=by
  unfold laid;rw[n0];rfl
 have g0:=(vA i0).1.up;refine nx3 _ _ i0 rfl rfl ?_;have mem:∀(p:Nat×Nat),p∈((List.range (mask+1)).filterMap λj=>(J.getD j yP).map (j,·))↔J[p.1]?=wP (wP p.2):=λp=>by
  rw[Uk];constructor
  ·rintro⟨j,Y,a0⟩;have b0:j<J.size:=by rw[L.sz];exact Af.mp Y
   have c0:J.getD j yP=J[j]:=by simp[Array.getD,b0]
   rw[c0]at a0;rw[Jf]at a0;obtain⟨m,em,rfl⟩:=a0;rw[Ci b0,em]
  ·intro e;have b0:p.1<J.size:=(fl.mp e).1;refine⟨p.1,Af.mpr (by rw[<-L.sz];exact b0),?_⟩;have c0:J.getD p.1 yP=wP p.2:=by
    have:=(fl.mp e).2;simp[Array.getD,b0,this]
   rw[c0];rfl
 have lt:∀p,p∈((List.range (mask+1)).filterMap λj=>(J.getD j yP).map (j,·))->p.2<es.size:=λp O=>by
  obtain⟨z,hz,_⟩:=L.at_ _ _ ((mem p).mp O);have:=(Zb.mp hz).1;simpa using this
 have j0:(((List.range (mask+1)).filterMap λj=>(J.getD j yP).map (j,·)).map (·.1)).Pairwise (·<·):=g0;generalize((List.range (mask+1)).filterMap λj=>(J.getD j yP).map (j,·))=U at mem lt j0 g0⊢;have o0:∀l:List (Nat×Nat),(∀p,p∈l->p.2<es.size)->(l.map (·.2)).filterMap (es[·]?)=l.map λp=>es.getD p.2 (0,.none):=by
  intro l;induction l with
  |nil=>intro _;rfl
  |cons a r p0=>
   intro h;have d0:=h a Yf;rw[ed,ri,Ci d0,ed,p0 λp O=>h p (rh _ O)];simp[Array.getD,d0]
 have q0:(((U.map (·.2)).toArray).filterMap (es[·]?)).toList=U.map λp=>es.getD p.2 (0,.none):=by
  rw[Array.toList_filterMap,o0 U lt]
 have r0:∀j,Xg J j↔j∈U.map (·.1):=λj=>by
  constructor
  ·rintro⟨m,em⟩;exact Ya.mpr ⟨(j,m),(mem (j,m)).mpr em,rfl⟩
  ·intro Y;obtain⟨p,O,rfl⟩:=Ya.mp Y;exact⟨p.2,(mem p).mp O⟩
 rw[q0];refine⟨⟨h0,g0,rfl,λj Y=>?_,by simp,λj e s0=>?_⟩,?_⟩
 ·obtain⟨p,O,rfl⟩:=Ya.mp (show j∈U.map (·.1)from Y);have:=(fl.mp ((mem p).mp O)).1;rw[L.sz]at this;exact fo this
 ·have l0:(j,e)∈(U.map (·.1)).zip (U.map λp=>es.getD p.2 (0,.none)):=s0;rw[List.zip_map']at l0;refine ea1 ?_ (Ya.mp l0);rintro p O ep;cases ep;obtain⟨z,hz,r,k,t0,u0,v0⟩:=L.at_ _ _ ((mem p).mp O);have w0:z=(es.getD p.2 (0,.none)).1:=by
   have m0:=lt p O;rw[ee,Array.getElem?_map,Ci m0]at hz;have:z=es[p.2].1:=by simpa using hz.symm
   rw[this];simp[Array.getD,m0]
  subst w0;exact nx5 r k t0 u0 (v0.mono λj Y=>(r0 j).mp Y)
 ·have Hj:(U.map (·.2)).Nodup:=by
   refine Be.mpr (Hn (λ{a b}d0 x0 B0 e=>?_) (Be.mp j0));have:=L.one a.1 b.1 a.2 ((mem a).mp d0) (by rw[e];exact(mem b).mp x0);simp_all
  have y0:(U.map (·.2)).Perm (List.range es.size):=cB Hj List.nodup_range λm=>by
   rw[Af];constructor
   ·intro h;obtain⟨p,O,rfl⟩:=Ya.mp h;exact lt p O
   ·intro h;obtain⟨j,a0⟩:=L.all m (by simpa using h);exact Ya.mpr ⟨(j,m),(mem (j,m)).mpr a0,rfl⟩
  have z0:(U.map λp=>es.getD p.2 (0,.none))=(U.map (·.2)).map λm=>es.getD m (0,.none):=by rw[Hc];rfl
  have c0:es.toList=(List.range es.size).map λm=>es.getD m (0,.none):=by
   apply List.ext_getElem
   ·simp
   ·intro i A0 C0;have hi:i<es.size:=by simpa using A0
    simp[Array.getD,hi]
  rw[z0,c0];exact y0.map _
end My
namespace My
open PySem PySem.Spec PyProof.Rows L2 PyProof PySem.SeqAt
def Tq(h h':NP):Prop:=∀b o xs n,h.get? b=wP o->o.cls=.type "tuple"->o.data=.seq xs n->h'.get? b=wP o
structure HVK(K:Type)[DecidableEq K]where
 is:NP->K->xP->Prop
 hash:K->Int
 d:Nat
 inj:∀{h:NP}{x y:K}{v:xP},is h x v->is h y v->x=y
 keep:∀{h h':NP}{k:K}{v:xP},is h k v->Tq h h'->is h' k v
 pyHash:∀{prog:HP}{w:KP}{A:LP}{E:xP->zP->Prop}{s:zP}{k:K}{v:xP}{Q:Int->zP->Prop},A.units+d<MP->is s.heap k v->(∀tk,Q (hash k) {s with toks:=tk})->wpAny (FP prog w) A (PySem.pyHash v) Q E s
 eq:∀{A:LP}{s:zP}{x y:K}{u v:xP},A.units+d<MP->is s.heap x u->is s.heap y v->EqAt A s u v (decide (x=y))
 quiet:∀{prog:HP}{w:KP}{A:LP}{E:xP->zP->Prop}{s:zP}{k:K}{v:xP}{Q:Bool->zP->Prop}(n:Nat),d<=n->is s.heap k v->Q CP s->wpAny (FP prog w) A (hR n v) Q E s
 cls:∀{prog:HP}{w:KP}{A:LP}{E:xP->zP->Prop}{s:zP}{k:K}{v:xP}{Q:Bool->zP->Prop}(n:Nat),d<=n->is s.heap k v->Q GP s->wpAny (FP prog w) A (BQ n v) Q E s
 byv:∀{prog:HP}{w:KP}{A:LP}{E:xP->zP->Prop}{s:zP}{k:K}{v:xP}{Q:Bool->zP->Prop}(n:Nat),d<=n->is s.heap k v->Q CP s->wpAny (FP prog w) A (hashByValue n v) Q E s
def HVK.int:HVK Int where
 is:=λ_ k v=>∃t,v=.int k t
 hash:=hashInt
 d:=0
 inj:=by grind
 keep:=λx _=>x
 pyHash:=λ_⟨t,e⟩h=>by subst e;exact yR (h _)
 eq:=λ_⟨t,e⟩⟨t',J⟩prog w E Q h=>by subst e;subst J;exact wpAny_eqBool_int h
 quiet:=λn _⟨t,e⟩h=>by
  subst e;rw[vR n rfl];exact ca h
 cls:=λn _⟨t,e⟩h=>by
  subst e;unfold BQ;exact ca h
 byv:=λn _⟨t,e⟩h=>by
  subst e;unfold hashByValue;exact ca h
section
variable{K L:Type}[DecidableEq K][DecidableEq L]
def cn(h:NP)(v u J:xP):Prop:=∃a o n,v=.ref a/\h.get? a=wP o/\o.cls=.type "tuple"/\o.data=.seq #[u,J] n
def HVK.Eh(V:HVK K)(W:HVK L)(h0:A.units+(max V.d W.d+1)<MP)(T:cn s.heap v u J)(a0:V.is s.heap x u)(b0:W.is s.heap y J)
  (h:∀c0,Q (kQ (Builtin.Tuple.tupleHashOf [V.hash x,W.hash y])) {s with toks:=c0}):wpAny (FP prog w) A (PySem.pyHash v) Q E s:=by
 revert T;refine ea4 ?_;rintro a o n rfl U d0 e0;have O:s.TypeIs (.ref a) "tuple":=⟨o,U,d0⟩;have f0:A.in1.units+V.d<MP:=by show A.units+1+V.d<MP;have:=Tn V.d W.d;lia
 have g0:A.in1.units+W.d<MP:=by show A.units+1+W.d<MP;have:=Zn V.d W.d;lia
 unfold PySem.pyHash;unfold PQ;refine ba (Xr (.inr (by lia)) (ba (mh O lh.lookup ?_)));refine ba (mh O lh.lookup ?_);refine ba (Ir O lh (zd lh O cv ?_ (jv _)));show wpAny _ _ (Builtin.Tuple.tupleItemsOf (.ref a)>>=λi0=>_) _ _ _;refine ba (qs U e0 (ba ?_));rw[<-Rj,show(#[u,J]:Array xP).toList=[u,J]from rfl,oe];refine ba (ba (V.pyHash f0 a0 λj0=>ca ?_));show wpAny _ _ (forIn [J] _ _) _ _ _;rw[oe];refine ba (ba (W.pyHash g0 b0 λl0=>ca ?_));refine ca (show wpAny _ _ (retInt (Builtin.Tuple.tupleHashOf [V.hash x,W.hash y])) _ _ _ from ?_);refine OQ (show wpAny _ _ (if(decide (-(2:Int)^63<=Builtin.Tuple.tupleHashOf [V.hash x,W.hash y])&&decide (Builtin.Tuple.tupleHashOf [V.hash x,W.hash y]<2^63))=CP then _ else _) Q E _ from ?_);unfold kQ at h;by_cases Y:(decide (-(2:Int)^63<=Builtin.Tuple.tupleHashOf [V.hash x,W.hash y])&&decide (Builtin.Tuple.tupleHashOf [V.hash x,W.hash y]<2^63))=CP
 ·rw[wa Y]at h⊢;exact ca (h _)
 ·rw[ma Y]at h⊢;exact ba (Ye (ca (h _)))
def HVK.uk(V:HVK K)(W:HVK L)(y0:A.units+(max V.d W.d+1)<MP)(T:cn s.heap v J O)(l0:cn s.heap m0 U Y)(d0:V.is s.heap x J)(e0:W.is s.heap y O)(f0:V.is s.heap a0 U)(g0:W.is s.heap b0 Y):
  EqAt A s v m0 (decide ((x,y)=(a0,b0))):=by
 revert T;refine ea4 ?_;rintro a o n rfl n0 o0 h0;revert l0;refine ea4 ?_;rintro p0 i0 q0 rfl r0 s0 c0;have t0:A.in1.units+V.d<MP:=by show A.units+1+V.d<MP;have:=Tn V.d W.d;lia
 have u0:A.in1.units+W.d<MP:=by show A.units+1+W.d<MP;have:=Zn V.d W.d;lia
 by_cases j0:a=p0
 ·subst j0;obtain rfl:o=i0:=by simp_all
  rw[h0]at c0;injection c0 with e _;obtain⟨v0,w0⟩:J=U/\O=Y:=by simpa using e
  subst v0;subst w0;rw[V.inj d0 f0,W.inj e0 g0,zb rfl];exact EqAt.same _
 ·have key:=RcAt.tuples (A:=A) (e:=λj=>if j=0 then decide (x=a0)else decide (y=b0)) (nx18 o n0 o0 n h0) (nx18 i0 r0 s0 q0 c0) (by lia) λj x0 z0=>by
   have:j=0\/j=1:=by have:j<2:=x0;lia
   rcases this with rfl|rfl
   ·exact V.eq t0 d0 f0
   ·exact W.eq u0 e0 g0
  have e:((List.range (min (#[J,O]:Array xP).size (#[U,Y]:Array xP).size)).all (λj=>if j=0 then decide (x=a0)else decide (y=b0))&&((#[J,O]:Array xP).size==(#[U,Y]:Array xP).size))=decide ((x,y)=(a0,b0)):=by
   show((List.range 2).all _&&CP)=_;rw[show List.range 2=[0,1]from rfl];simp[Bool.decide_and]
  rw[e]at key;exact EqAt.of_refs j0 key
def HVK.Bg(V:HVK K)(W:HVK L)(n:Nat)(f0:max V.d W.d+1<=n)(T:cn s.heap v u J)(Y:V.is s.heap x u)(a0:W.is s.heap y J)(h:Q CP s):wpAny (FP prog w) A (hR n v) Q E s:=by
 revert T;refine ea4 ?_;rintro a o c rfl O b0 c0;have U:s.TypeIs (.ref a) "tuple":=⟨o,O,b0⟩;obtain⟨m,rfl⟩:∃m,n=m+1:=⟨n-1,by lia⟩;have d0:V.d<=m:=by have:=Tn V.d W.d;lia
 have e0:W.d<=m:=by have:=Zn V.d W.d;lia
 unfold hR;refine ba (mh U F.slot_tuple_eq.lookup (ba (Gp U isSubtype_tuple_tuple ?_)));simp only[Bool.not_true,ph,hf];refine ba (qg O c0 (ba ?_));show wpAny _ _ (forIn (#[u,J]:Array xP) _ _) _ _ _;rw[<-Rj,show(#[u,J]:Array xP).toList=[u,J]from rfl,oe];refine ba (ba (V.quiet m d0 Y (ca ?_)));show wpAny _ _ (forIn [J] _ _) _ _ _;rw[oe];exact ba (ba (W.quiet m e0 a0 (ca (ca (ca h)))))
def HVK.Xi(V:HVK K)(W:HVK L)(n:Nat)(f0:max V.d W.d+1<=n)(T:cn s.heap v u J)(U:V.is s.heap x u)(Y:W.is s.heap y J)(h:Q GP s):wpAny (FP prog w) A (BQ n v) Q E s:=by
 revert T;refine ea4 ?_;rintro a o c rfl O a0 b0;have c0:s.TypeIs (.ref a) "tuple":=⟨o,O,a0⟩;obtain⟨m,rfl⟩:∃m,n=m+1:=⟨n-1,by lia⟩;have d0:V.d<=m:=by have:=Tn V.d W.d;lia
 have e0:W.d<=m:=by have:=Zn V.d W.d;lia
 unfold BQ;refine ba (rj c0 ?_);refine ba (ca (ba (qg O b0 (ba ?_))));rw[<-Rj,show(#[u,J]:Array xP).toList=[u,J]from rfl,oe];refine ba (ba (V.cls m d0 U (ca ?_)));show wpAny _ _ (forIn [J] _ _) _ _ _;rw[oe];exact ba (ba (W.cls m e0 Y (ca (ca (ca h)))))
def HVK.Yi(V:HVK K)(W:HVK L)(n:Nat)(f0:max V.d W.d+1<=n)(T:cn s.heap v u J)(U:V.is s.heap x u)(Y:W.is s.heap y J)(h:Q CP s):wpAny (FP prog w) A (hashByValue n v) Q E s:=by
 revert T;refine ea4 ?_;rintro a o c rfl O a0 b0;have c0:s.TypeIs (.ref a) "tuple":=⟨o,O,a0⟩;obtain⟨m,rfl⟩:∃m,n=m+1:=⟨n-1,by lia⟩;have d0:V.d<=m:=by have:=Tn V.d W.d;lia
 have e0:W.d<=m:=by have:=Zn V.d W.d;lia
 refine ba (mh c0 lh.lookup (ba (qg O b0 (ba ?_))));show wpAny _ _ (forIn (#[u,J]:Array xP) _ _) _ _ _;rw[<-Rj,show(#[u,J]:Array xP).toList=[u,J]from rfl,oe];refine ba (ba (V.byv m d0 U (ca ?_)));show wpAny _ _ (forIn [J] _ _) _ _ _;rw[oe];exact ba (ba (W.byv m e0 Y (ca (ca (ca h)))))
def HVK.pair(V:HVK K)(W:HVK L):HVK (K×L)where
 is:=λh k v=>∃u U,cn h v u U/\V.is h k.1 u/\W.is h k.2 U
 hash:=λk=>kQ (Builtin.Tuple.tupleHashOf [V.hash k.1,W.hash k.2])
 d:=max V.d W.d+1
 inj:=λ{h x y v}⟨u,U,⟨a,o,n,e,f0,b0,a0⟩,J,O⟩⟨z,h0,⟨o0,i0,p0,j0,q0,r0,g0⟩,c0,d0⟩=>by
  subst e;cases j0;obtain rfl:o=i0:=by simp_all
  rw[a0]at g0;injection g0 with e _;obtain⟨l0,m0⟩:u=z/\U=h0:=by simpa using e
  subst l0;subst m0;exact yi (V.inj J c0) (W.inj O d0)
 keep:=λ{h h' k v}⟨u,U,⟨a,o,n,e,f0,b0,a0⟩,J,O⟩kp=>nx5 u U (nx1 a o n e (kp a o _ _ f0 b0 a0) b0 a0) (V.keep J kp) (W.keep O kp)
 pyHash:=λe0⟨_,_,T,J,O⟩h=>V.Eh W e0 T J O h
 eq:=λ{_ _ x y _ _}e0⟨_,_,T,J,O⟩⟨_,_,n0,c0,d0⟩=>V.uk W e0 T n0 J O c0 d0
 quiet:=λn Y⟨_,_,T,J,O⟩h=>V.Bg W n Y T J O h
 cls:=λn Y⟨_,_,T,J,O⟩h=>V.Xi W n Y T J O h
 byv:=λn Y⟨_,_,T,J,O⟩h=>V.Yi W n Y T J O h
end
open PySem.SetTable
section
variable{K:Type}[DecidableEq K]
def Ij(V:HVK K)(kf:xP->K)(us:List xP)(h:NP)(a:BP)(ks:List K)(led:Bool):Prop:=
 ∃o es ep t,h.get? a=wP o/\o.ExactSet/\o.data=.set es ep t/\TT t es.toList/\t.led=led/\5*es.size<3*t.mask/\(∀e∈es.toList,e.2∈us/\e.1=V.hash (kf e.2))/\(es.toList.map λe=>kf e.2).Perm ks
def TT.fits{es:Array (Int×xP)}(T:TT t es.toList)(Kb:es.size<=t.mask):t.fits es.size=CP:=by
 have e:t.place.size=es.size:=by have:=T.len;simpa using this
 unfold SetTable.fits SetTable.fill;rw[T.nd,e];simp[Kb]
variable{prog:HP}{w:KP}{A:LP}{E:xP->zP->Prop}{s:zP}{V:HVK K}{kf:xP->K}{us:List xP}
def qJ(J:V.d<=8)(O:∀u∈us,V.is s.heap (kf u) u)(Y:x∈us)(ys:List xP)(c0:∀y∈ys,y∈us)(h:Q GP s):wpAny (FP prog w) A (searchCouldBeSeen x ys) Q E s:=by
 unfold searchCouldBeSeen;refine ba ?_;refine wpAny_forIn_list _ (λa0 r s'=>r.1=yP/\s'=s/\∀y∈a0,y∈us) _ ?_ ?_ _ _ ⟨rfl,rfl,c0⟩
 ·rintro y a0 r s';refine ea3 ?_;rintro U rfl d0;have b0:=d0 y Yf;have fin:ForInStep.yield ((yP,()):Option Bool×Unit)=.yield (yP,()):=rfl;refine Sk (λ_=>ca (by simp_all)) λ_=>?_
  refine ba (V.quiet 8 J (O x Y) ?_);refine Sk (λz=>absurd z (by decide)) λ_=>ba (V.quiet 8 J (O y b0) ?_)
  refine Sk (λz=>absurd z (by decide)) λ_=>ba (V.cls 8 J (O x Y) ?_)
  refine Sk (λz=>absurd z (by decide)) λ_=>ba (V.cls 8 J (O y b0) ?_)
  exact Sk (by simp) λ_=>ca (by grind)
 ·rintro⟨e0,f0⟩s' ⟨U,rfl,_⟩;simp only at U;subst U;exact ca h
def rJ(t0:V.d<=8)(u0:A.units+V.d<MP)(v0:∀u∈us,∃b,u=.ref b)(Y:∀u∈us,V.is s.heap (kf u) u)(c0:x∈us)
  (d0:s.heap.get? a=wP o)(e0:o.data=.set es ep t)(T:TT t es.toList)(Kb:es.size<=t.mask)(a0:∀e∈es.toList,e.2∈us/\e.1=V.hash (kf e.2))
  (w0:(∃e∈es.toList,kf e.2=kf x)->Q (.there yP) s)
  (x0:∀O k1,k1<=rl t.mask (LS t.mask (V.hash (kf x)) O).1->Zc t.mask (V.hash (kf x)) (λj=>∃(i:Nat)(e:Int×xP),t.place[i]?=wP j/\es[i]?=wP e/\kf e.2≠kf x) O k1->Ps t.mask (V.hash (kf x)) O k1∉t.place.toList->Q (.free (Ps t.mask (V.hash (kf x)) O k1) GP) s):
  ∀(F r k:Nat)(ue:Option Probe),ue.getD (t.probeStart (V.hash (kf x)))=Pb t.mask (V.hash (kf x)) r k->k<=rl t.mask (LS t.mask (V.hash (kf x)) r).1->
   Zc t.mask (V.hash (kf x)) (λj=>∃(i:Nat)(e:Int×xP),t.place[i]?=wP j/\es[i]?=wP e/\kf e.2≠kf x) r k->10*turns t.mask<F+(10*r+k)->
   wpAny (FP prog w) A (setSearchFrom a x (V.hash (kf x)) CP F ue) Q E s:=by
 have f0:=T.fits Kb;have Q0:t.place.size=es.size:=by have:=T.len;simpa using this
 have live:∀j,(∃(i:Nat)(e:Int×xP),t.place[i]?=wP j/\es[i]?=wP e/\kf e.2≠kf x)->j∈t.place.toList:=by grind
 have room:=T.room (V.hash (kf x)) (by simpa using Kb);have y0:∀{r k:Nat},Zc t.mask (V.hash (kf x)) (λj=>∃(i:Nat)(e:Int×xP),t.place[i]?=wP j/\es[i]?=wP e/\kf e.2≠kf x) r k->k<=rl t.mask (LS t.mask (V.hash (kf x)) r).1->10*r+k<10*turns t.mask:=λ{r k}b Y=>by
  obtain⟨g0,R0,z0⟩:=room;have:=Gw t.mask (LS t.mask (V.hash (kf x)) r).1;by_cases z:r<=g0
  ·lia
  ·exact absurd (live _ (b.1 g0 (by simp_all) 0 (Tb _))) z0
 intro F;induction F with
 |zero=>
  intro r k st h0 b0 b A0;have:=y0 b b0;lia
 |succ F B0=>
  intro r k st h0 b0 b A0;unfold setSearchFrom;refine ba (xi d0 e0 f0 ?_);dsimp only;have C0:t.gaveWay=GP:=by
   unfold SetTable.gaveWay;rcases T.size with e|e|e|e|e<;>rw[e]<;>rfl
  rw[C0,ma pc,h0];have i0:∀{i:Nat}{j:Nat},t.place[i]?=wP j->∃e,es[i]?=wP e:=λ{i j}hi=>by
   have:=(fl.mp hi).1;exact⟨es[i]'(by simp_all),Ci (by lia)⟩
  have key:=λ(j0:Nat->Int)(D0:∀(i:Nat)(e:Int×xP),es[i]?=wP e->j0 i=e.1)=>lJ T.up T.nd (f:=j0) (h:=V.hash (kf x)) live (λi j hi F0=>by
   obtain⟨e,J⟩:=i0 hi;refine nx5 i e hi J λz=>F0 ?_;rw[D0 i e J,(a0 e (yb (by rw[ee];exact J))).2,z]) room (10*turns t.mask) r k b0 b (by simp_all)
  refine eaA ?_ (key _ (λi e J=>show(es[i]?.map (·.1)).getD 0=e.1 by rw[J];rfl));rintro O k1 l0 m0 S0 G0;generalize n0:t.probe _ (V.hash (kf x)) (Pb t.mask (V.hash (kf x)) r k)=T0;rcases G0 with⟨I0,em⟩|⟨i,hi,U0,em⟩
  ·rw[n0.symm.trans em];exact ca (x0 O k1 l0 m0 I0)
  ·rw[n0.symm.trans em];obtain⟨e,J⟩:=i0 hi;have o0:=yb (show es.toList[i]?=wP e by rw[ee];exact J);obtain⟨p0,V0⟩:=a0 e o0;obtain⟨W0,q0⟩:=v0 _ p0;have J0:∀y∈((es.filter (·.1==V.hash (kf x))).toList.map (·.2)),y∈us:=λy K0=>by
    obtain⟨L0,M0,rfl⟩:=Ya.mp K0;exact(a0 L0 (Array.mem_toList_iff.mpr (Array.mem_filter.mp (Array.mem_toList_iff.mp M0)).1)).1
   dsimp only;refine Sk (λ_=>ba (qJ t0 Y c0 _ J0 ?_)) λ_=>?_
   rw[ma pc];all_goals
    rw[J];refine ba (Jc (V.eq u0 (Y _ p0) (Y _ c0) prog w E _ ?_));refine ba (xi d0 e0 f0 ?_);dsimp only;by_cases U:kf e.2=kf x
    ·rw[wa (by simp[U])];exact ca (w0 ⟨e,o0,U⟩)
    ·rw[ma (by simp[U])];have sm:t.sameMemory t.moves t.mask=wP CP:=by unfold SetTable.sameMemory;rw[wa (by simp)]
     rw[sm];dsimp only;rw[wa rfl,aB T.up hi];dsimp only;rw[J];dsimp only;rw[q0];refine ba (wpAny_isSame_ref_self (ba (ca ?_)));rw[wa rfl];dsimp only;rw[<-q0,ma (by simp[U])];refine eaA ?_ (ZA l0 m0 ⟨i,e,hi,J,U⟩);rintro r0 s0 N0 O0 P0 lt;rw[N0];exact B0 r0 s0 (wP (Pb t.mask (V.hash (kf x)) r0 s0)) rfl O0 P0 (by lia)
def jg(ks:List K)(n:K):List K:=if n∈ks then ks else ks++[n]
variable{prog:HP}{w:KP}{A:LP}{E:xP->zP->Prop}{s:zP}{V:HVK K}{kf:xP->K}{us:List xP}
def sJ(Y:s.heap.get? a=wP o)(a0:o.data=.set es ep t)(c0:t.fits es.size=CP)(J mask:Nat)(b0:sizeAbove J=mask+1)(hz:Wi mask)(Kb:es.size<=mask+1)
  (h:∀O t',t'.mask=mask->t'.led=t.led->TT t' O.toList->O.toList.Perm es.toList->Q () {s with heap:=s.heap.update a (Obj.putSet O t')}):wpAny (FP prog w) A (setRelay a J) Q E s:=by
 unfold setRelay;refine ba (xi Y a0 c0 ?_);dsimp only;have d0:¬SetTable.sizeAbove J>DP:=by
  rw[b0];rcases hz with e|e|e|e|e<;>rw[e]<;>decide
 rw[ma d0];refine eb4 ?_ (pJ hz es Kb t.finger (t.movedTo mask) t.led t.plain);rintro t' U e0 h0 i0 j0 f0;have sz:(U.filterMap (es[·]?)).size=es.size:=by have:=f0.length_eq;rwa[Lc,Lc]at this
 have g0:t.relaid (es.map (·.1)) J=wP (t',U):=by
  unfold SetTable.relaid;rw[b0];exact e0
 rw[g0];refine ba (show wpAny _ _ (if((U.filterMap (es[·]?)).size !=es.size)=CP then _ else _) _ _ _ from ?_);rw[sz,ma (by simp)];refine ca ?_;dsimp only;exact Kr Y a0 (by simp_all) (by rw[sz];rcases hz with e|e|e|e|e<;>rw[e]at Kb<;>exact Nb Kb (by decide))
def tJ{Q:Bool->zP->Prop}{a:BP}{ks:List K}{led:Bool}{x:xP}(x0:V.d<=8)(U0:A.units+V.d<MP)(y0:∀u∈us,∃b,u=.ref b)(z0:∀u∈us,V.is s.heap (kf u) u)(o0:x∈us)
  (A0:Ij V kf us s.heap a ks led)(Kb:ks.length<=1200)(h:∀b h',Heap.SameBut a s.heap h'->Ij V kf us h' a (jg ks (kf x)) led->Q b {s with heap:=h'}):wpAny (FP prog w) A (ZR a x (V.hash (kf x))) Q E s:=by
 refine ebH ?_ (id A0);rintro o es ep t b0 hex c0 T B0 d0 C0 p0;obtain⟨p1,V0⟩:=y0 x o0;have hsz:es.size=ks.length:=by rw[<-Lc,<-pa (f:=λe:Int×xP=>kf e.2),p0.length_eq]
 have D0:es.size<=t.mask:=by lia
 have F0:=T.fits D0;have W0:s={s with heap:=s.heap}:=by cases s;rfl
 unfold ZR setAddHashedIn;refine Jc (ba (xi b0 c0 F0 ?_));dsimp only;rw[show byScan x es=GP by rw[V0];rfl,ma pc];unfold setSearch;refine ba (rJ x0 U0 y0 z0 o0 b0 c0 T D0 C0 ?q1 ?q2 100000 0 0 yP (hJ t _) (Tb _) (Zc.zero _ _ _) ?q3);case q1=>
  refine ea1 ?_;rintro e q0 ek;have X0:kf x∈ks:=by grind
  refine ca ?_;rw[W0];refine h _ s.heap (Heap.SameBut.refl a s.heap) ?_;unfold jg;rw[wa X0];exact A0
 case q2=>
  intro r0 k1 G0 I0 f0;have Y0:kf x∉ks:=λz=>by
   obtain⟨e,q0,ek⟩:=Ya.mp (p0.mem_iff.mpr z);obtain⟨i,hi⟩:=ze.mp q0;have r1:i<t.place.toList.length:=by rw[T.len];exact(Zb.mp hi).1
   have g0:t.place.toList[i]?=wP (t.place.toList[i]):=by simp_all
   have hz:(t.place.toList[i],e)∈t.place.toList.zip es.toList:=yb (i:=i) (by rw[Cs];exact⟨g0,hi⟩);obtain⟨r,k,J0,s0,K0⟩:=T.bn _ _ hz;rw[(C0 e q0).2,ek]at J0 s0 K0;rcases gJ I0 K0 G0 J0 with q|⟨q1,q2⟩|q
   ·obtain⟨h0,t1,i0,L0,Z0⟩:=q;rw[s0]at i0;have u1:h0<t.place.size:=(fl.mp i0).1;have a1:h0=i:=by
     rw[ee]at g0;by_cases lt:h0<i
     ·have:=T.up.lt lt i0 g0;simp_all
     ·by_cases b1:i<h0
      ·have:=T.up.lt b1 g0 i0;lia
      ·lia
    subst a1;rw[ee]at hi;rw[hi]at L0;cases L0;exact Z0 ek
   ·subst q1;subst q2;rw[s0]at f0;exact f0 (by simp)
   ·exact f0 q
  have c1:jg ks (kf x)=ks++[kf x]:=by unfold jg;rw[ma Y0]
  rw[c1]at h;have d1:Zc t.mask (V.hash (kf x)) (·∈t.place.toList) r0 k1:=I0.mono (by grind);obtain⟨U,j0⟩:=T.put (x:=x) G0 d1 f0;dsimp only;refine ba (xi b0 c0 F0 ?_);dsimp only;have mk:(t.put (Ps t.mask (V.hash (kf x)) r0 k1)).1.mask=t.mask:=rfl;generalize t.put (Ps t.mask (V.hash (kf x)) r0 k1)=tp at U j0 mk⊢;obtain⟨t0,p⟩:=tp;dsimp only at U j0 mk⊢;have M0:(insertAt es p (V.hash (kf x),x)).toList=Dh p (V.hash (kf x),x) es.toList:=bB _ _ _;rw[<-M0]at U;have u0:(insertAt es p (V.hash (kf x),x)).toList.Perm ((V.hash (kf x),x)::es.toList):=by rw[M0];exact Mw _ _ _
  have l0:(insertAt es p (V.hash (kf x),x)).size=es.size+1:=by have:=u0.length_eq;simpa using this
  generalize insertAt es p (V.hash (kf x),x)=J at U u0 l0⊢;have e1:∀e∈J.toList,e.2∈us/\e.1=V.hash (kf e.2):=by grind
  have N0:(J.toList.map λe=>kf e.2).Perm (ks++[kf x]):=(u0.map _).trans ((List.Perm.cons _ p0).trans (List.perm_append_singleton _ _).symm);have O0:∀(O:SetTable),TT O J.toList->O.led=led->O.mask=t.mask->wpAny (FP prog w) A (do
    storeSet a J O
    if(!GP&&O.tooFull)=CP then do
      setRelay a (SetTable.grown (es.size+1))
      pure CP
     else pure CP) Q E s:=λO m0 P0 Q0=>by
   have f1:J.size<=O.mask:=by
    rw[l0,Q0];rcases T.size with e|e|e|e|e<;>rw[e]at d0⊢<;>lia
   have R0:O.fill=J.size:=by
    unfold SetTable.fill;rw[m0.nd];have:=m0.len;simpa using this
   have v0:=yt b0 c0 J O;have S0:=bg s.heap a (Obj.putSet J O);refine ba (Kr b0 c0 ?_ (by rw[l0,hsz];exact Nb (Nat.succ_le_succ Kb) (by decide)));by_cases Y:O.tooFull=CP
   ·rw[wa (by simp[Y])];have e0:5*(es.size+1)≥3*t.mask:=by
     unfold SetTable.tooFull at Y;rw[R0,l0,Q0]at Y;have:=zc Y;grind
    have n0:∀mask,sizeAbove (SetTable.grown (es.size+1))=mask+1->Wi mask->J.size<=mask+1->5*J.size<3*mask->wpAny (FP prog w) A (do
      setRelay a (SetTable.grown (es.size+1))
      pure CP) Q E {s with heap:=s.heap.update a (Obj.putSet J O)}:=λmask g1 h1 i1 j1=>by
     refine ba (sJ (s:={s with heap:=s.heap.update a (Obj.putSet J O)}) v0 rfl (m0.fits f1) _ mask g1 h1 i1 λw0 t3 l1 m1 n1 T0=>ca ?_);have o1:w0.size=J.size:=by have:=T0.length_eq;simpa using this
     exact h CP _ (S0.trans (bg _ a _)) (nx4 _ w0 _ t3 (yt v0 rfl w0 t3) hex rfl n1 (m1.trans P0) (by rw[o1,l1];exact j1) ⟨by grind,(T0.map _).trans N0⟩)
    rcases T.size with e|e|e|e|e
    ·have a0:es.size=4:=by rw[e]at d0 e0;lia
     exact n0 31 (by rw[a0];decide+kernel) (.inr (.inl rfl)) (by lia) (by lia)
    ·have a0:es.size=18:=by rw[e]at d0 e0;lia
     exact n0 127 (by rw[a0];decide+kernel) (.inr (.inr (.inl rfl))) (by lia) (by lia)
    ·have a0:es.size=76:=by rw[e]at d0 e0;lia
     exact n0 511 (by rw[a0];decide+kernel) (.inr (.inr (.inr (.inl rfl)))) (by lia) (by lia)
    ·have a0:es.size=306:=by rw[e]at d0 e0;lia
     exact n0 2047 (by rw[a0];decide+kernel) (.inr (.inr (.inr (.inr rfl)))) (by lia) (by lia)
    ·rw[e]at e0;lia
   ·rw[ma (by simp[Y])];refine ca (h CP _ S0 (nx4 _ J _ O v0 hex rfl m0 P0 ?_ ⟨e1,N0⟩));unfold SetTable.tooFull at Y;rw[R0]at Y;have:¬J.size*5≥O.mask*3:=by simp_all
    lia
  have v1:TT {t0 with plain:=GP} J.toList:=⟨U.size,U.up,U.nd,U.within,U.len,U.bn⟩;refine Sk (λ_=>?_) λ_=>?_
  ·refine ba (V.byv 8 x0 (z0 x o0) ?_);rw[wa rfl];exact O0 t0 U (j0.trans B0) mk
  ·refine ba (ca ?_);rw[wa rfl];exact O0 t0 U (j0.trans B0) mk
 case q3=>rcases T.size with e|e|e|e|e<;>rw[e]<;>decide
end
end My
namespace My
open PySem PySem.Spec PyProof.Rows L2 PyProof PySem.SeqAt
section
variable{K:Type}[DecidableEq K]
def Fh(ks:List K):List K:=ks.foldl jg []
def Ow(ks:List K):(Fh ks).length<=ks.length:=by
 have key:∀(ks J:List K),(ks.foldl jg J).length<=J.length+ks.length:=by
  intro ks;induction ks with
  |nil=>intro J;exact xa _
  |cons n r O=>
   intro J;have U:=O (jg J n);have Y:(jg J n).length<=J.length+1:=by unfold jg;split<;>simp
   rw[List.foldl_cons,Od];lia
 have:=key ks [];unfold Fh;simpa using this
def uJ(ks:List K)(n:K):Fh (ks++[n])=jg (Fh ks) n:=by
 unfold Fh
 simp_all
def vJ(ks:List K):(Fh ks).Nodup/\∀x,x∈Fh ks↔x∈ks:=by
 have key:∀(ks J:List K),J.Nodup->(ks.foldl jg J).Nodup/\∀x,x∈ks.foldl jg J↔x∈J\/x∈ks:=by
  intro ks;induction ks with
  |nil=>(intros;simp_all)
  |cons n r O=>
   intro J h;have U:(jg J n).Nodup:=by
    unfold jg;split
    ·exact h
    ·grind
   have Y:∀x,x∈jg J n↔x∈J\/x=n:=λx=>by
    unfold jg;split
    ·simp_all
    ·simp
   grind
 obtain⟨a,b⟩:=key ks [] List.nodup_nil;exact⟨a,λx=>by rw[Fh,b];simp⟩
variable{prog:HP}{w:KP}{A:LP}{E:xP->zP->Prop}{s:zP}{V:HVK K}{kf:xP->K}{us:List xP}
def Ij.keep(x:Ij V kf us h a ks led)(k:∀o,h.get? a=wP o->h'.get? a=wP o):Ij V kf us h' a ks led:=by
 revert x;refine ea5 ?_;rintro o es ep;refine ea1 ?_;rintro t J r;exact nx8 o es (nx0 ep t (k o J) r)
def Ij.Uq(x:Ij V kf us h a ks led)(O:h.get? a=wP o):o.cls≠.type "tuple":=by
 obtain⟨J,es,ep,t,U,hex,_⟩:=x;obtain rfl:o=J:=by grind
 rw[hex.1];decide
set_option maxHeartbeats 3200000 in
def wJ(d0:V.d<=8)(p0:A.units+8+V.d<MP)(e0:∀u∈us,∃b,u=.ref b)(f0:∀u∈us,V.is s.heap (kf u) u)(g0:A.handled=yP)(h0:s.heap.IsList l us.toArray)(q0:us.length<=1200)
  (h:∀h' Y,Ij V kf us h' s.heap.objs.size (Fh (us.map kf)) (!w.params.followText "set-order")->(∀b o,s.heap.get? b=wP o->h'.get? b=wP o)->Q (.ref s.heap.objs.size) {s with heap:=h',toks:=Y}):
  wpAny (FP prog w) A (call (.type "set") [.ref l]) Q E s:=by
 refine xA (G:=λi h=>Ij V kf us h s.heap.objs.size (Fh ((us.take i).map kf)) (!w.params.followText "set-order")/\∀u∈us,V.is h (kf u) u) g0 h0 ?_ ⟨nx4 _ (#[]) 0 _ (Hb _ rfl) ⟨rfl,rfl,rfl⟩ rfl (TT.fresh _ _ _) rfl (show 5*0<3*7 by decide) ⟨(λe i0=>by cases i0),.nil⟩,λu J=>V.keep (f0 u J) λb o _ _ e _ _=>Ta _ e⟩ ?_ λh' Y U=>h h' Y (by have:=U.1;rwa[Ic]at this)
 ·rintro i h h' k⟨⟨o,es,ep,t,j0,c,d,r⟩,O⟩;exact⟨nx17 o es ep t (k _ _ (by grind) j0) c d r,λu J=>V.keep (O u J) λb o _ _ e _ d=>k b o (by grind) e⟩
 ·rintro i u s' J⟨U,O⟩Q E k;have a0:=yb J;have b0:A.in1.in1.in1.units+V.d<MP:=show A.units+1+1+1+V.d<MP by lia
  unfold setAdd;refine Jc (ba (V.pyHash b0 (O u a0) λl0=>?_));have m0:(Fh ((us.take i).map kf)).length<=1200:=by
   have:=Ow ((us.take i).map kf);rw[pa,Ae]at this;lia
  refine tJ (s:={s' with toks:=l0}) d0 b0 e0 O a0 U m0 λb n0 c0 o0=>k b n0 _ c0.2 ⟨?_,λu J=>V.keep (O u J) λb o _ _ e c _=>(c0.2 b λz=>U.Uq (by rw[<-z];exact e) c).trans e⟩
  rw[show(us.take (i+1)).map kf=(us.take i).map kf++[kf u]by rw[qc,J,Le];rfl,uJ];exact o0
end
open PySem.W
structure VO(K:Type)[DecidableEq K]extends HVK K where
 lt:K->K->Bool
 irr:∀x,lt x x=GP
 tr:∀x y z,lt x y=CP->lt y z=CP->lt x z=CP
 tot:∀x y,x≠y->lt x y=GP->lt y x=CP
 T:xP
 rfT:(T==T)=CP
 typ:∀{h:NP}{k:K}{v:xP}(M:Model),is h k v->Looks M h (typeOf v) T
 one:∀{prog:HP}{w:KP}{A:LP}{E:xP->zP->Prop}{s:zP}{x y:K}{u v:xP}{Q:Bool->zP->Prop}(b:Bool),(b=CP->(T !=Value.type "tuple")=CP)->A.units+d<MP->is s.heap x u->is s.heap y v->Q (lt x y) s->wpAny (FP prog w) A (oneLt' b u v) Q E s
def Yg{K L:Type}[DecidableEq K][DecidableEq L](f:K->K->Bool)(g:L->L->Bool)(a b:K×L):Bool:=if a.1=b.1 then g a.2 b.2 else f a.1 b.1
section
variable{K L:Type}[DecidableEq K][DecidableEq L]
def dB(V:VO K)(W:VO L)(x:K×L):Yg V.lt W.lt x x=GP:=by unfold Yg;rw[wa rfl];exact W.irr _
def eB(V:VO K)(W:VO L)(x y z:K×L)(h:Yg V.lt W.lt x y=CP)(h':Yg V.lt W.lt y z=CP):Yg V.lt W.lt x z=CP:=by
 unfold Yg at*;by_cases e:x.1=y.1
 ·rw[wa e]at h;by_cases J:y.1=z.1
  ·rw[wa J]at h';rw[wa (e.trans J)];exact W.tr _ _ _ h h'
  simp_all
 ·rw[ma e]at h;by_cases J:y.1=z.1
  ·simp_all
  ·rw[ma J]at h';have t:=V.tr _ _ _ h h';rw[ma λq=>?_]
   ·exact t
   ·rw[q,V.irr]at t;cases t
def xJ(V:VO K)(W:VO L)(x y:K×L)(n:x≠y)(h:Yg V.lt W.lt x y=GP):Yg V.lt W.lt y x=CP:=by
 unfold Yg at*;by_cases e:x.1=y.1
 ·rw[wa e]at h;rw[wa e.symm];exact W.tot _ _ (by grind) h
 ·rw[ma e]at h;rw[ma (λq=>e q.symm)];exact V.tot _ _ e h
def VO.int:VO Int where
 toHVK:=HVK.int
 lt:=λa b=>decide (a<b)
 irr:=λx=>by simp
 tr:=by lia
 tot:=by lia
 T:=.type "int"
 rfT:=by decide
 typ:=λM⟨t,e⟩=>by
  subst e;intro A Q E s _ q;exact rj (T:="int") rfl q
 one:=λb _ _⟨t,e⟩⟨t',J⟩h=>by
  subst e;subst J;cases b with
  |true=>exact oneLt_int h
  |false=>exact kat_one _ _ (lt_int h)
def VO.node:VO (Int×Int)where
 toHVK:=HVK.int.pair HVK.int
 lt:=Yg VO.int.lt VO.int.lt
 irr:=dB VO.int VO.int
 tr:=eB VO.int VO.int
 tot:=xJ VO.int VO.int
 T:=.type "tuple"
 rfT:=by decide
 typ:=λM⟨u,m0,⟨a,o,n,e,J,O,U⟩,_⟩=>by
  subst e;intro A Q E s k q;exact rj (T:="tuple") ⟨o,k a o J,O⟩ q
 one:=λ{prog w A E s x y u v Q}b Y n0⟨o0,p0,⟨a,o,n,e,J,O,U⟩,⟨q0,a0⟩,⟨r0,b0⟩⟩⟨s0,t0,⟨u0,c0,d0,e0,f0,g0,h0⟩,⟨v0,i0⟩,⟨w0,j0⟩⟩h=>by
  subst e;subst e0;subst a0;subst b0;subst i0;subst j0;cases b with
  |true=>exact absurd (Y rfl) (by decide)
  |false=>
   refine kat_one _ _ (HT.Xc (ns:=[x.1,x.2]) (ms:=[y.1,y.2]) (nx18 o J O n U) (nx18 c0 f0 g0 d0 h0) (.cons _ _ (.cons _ _ .nil)) (.cons _ _ (.cons _ _ .nil)) (by lia) ?_);have l0:HT.lexLt [x.1,x.2] [y.1,y.2]=Yg VO.int.lt VO.int.lt x y:=by
    unfold Yg;rw[HT.Gb,HT.Gb,HT.Vb];by_cases q:x.1=y.1
    ·rw[wa q,wa q];by_cases q2:x.2=y.2
     ·rw[wa q2,q2];exact(VO.int.irr _).symm
     ·rw[ma q2];rfl
    ·rw[ma q,ma q];rfl
   rw[l0];exact h
end
end My
namespace My
open PySem PySem.Spec PyProof.Rows L2 PyProof PySem.SeqAt
section
variable{K:Type}[DecidableEq K]{V:HVK K}{kf:xP->K}{us:List xP}
variable{prog:HP}{w:KP}{A:LP}{E:xP->zP->Prop}{s:zP}{a:BP}{ks:List K}{led:Bool}
def yJ(Y:A.handled=yP)(Kb:ks.length<=1200)(a0:Ij V kf us s.heap a ks led)(b0:led=!w.params.followText "set-order")
  (h:∀(h':NP)(J:Nat)(d:Drawn)(ms:List xP),(∀b o,s.heap.get? b=wP o->h'.get? b=wP o)->(ms.map kf).Perm ks->(∀v∈ms,v∈us)->R ms {s with heap:=h',toks:=J,drawn:=d}):
  wpAny (FP prog w) A (collect (.ref a)) R E s:=by
 revert a0;refine ebH ?_;rintro o es ep t c0 hex d0 T e0 j0 f0 O;have g0:es.size<=1200:=by rw[<-Lc,<-pa (f:=λe:Int×xP=>kf e.2),O.length_eq];exact Kb
 refine JA Y ⟨o,es,ep,t,c0,hex,d0,T.fits (by lia),T.ok,e0,Nb g0 (by decide),rfl⟩ b0 λh' J d ms k U=>h h' J d ms k ((U.map kf).trans (by rw[Hc];exact O)) λv h0=>?_
 obtain⟨e,i0,rfl⟩:=Ya.mp (U.mem_iff.mp h0);exact(f0 e i0).1
end
open PySem.W
abbrev Nk:=Int×Int
def ltN(a b:Nk):Bool:=Yg VO.int.lt VO.int.lt a b
def Fb(H:Hp)(v:V)(n:Nk):Prop:=∃p,v=.ref p/\H p=wP (.tup [.int n.1,.int n.2])
def Uc(H:Hp)(v:V)(k:Nk×Nk):Prop:=∃p u J,v=.ref p/\H p=wP (.tup [u,J])/\Fb H u k.1/\Fb H J k.2
section
variable{X:Cx}{pins:List (BP×dQ)}{σ:L2.St}{H:Hp}{s:zP}
def Zg(I:Inv X pins σ H s)(h:Fb H v n)(r:Ka v u):(VO.int.toHVK.pair VO.int.toHVK).is s.heap n u:=by
 obtain⟨p,rfl,e⟩:=h;obtain rfl:u=Value.ref p:=r;refine ea7 ?_ (I.tuple (Ba.of e));rintro d0 J⟨o,O,U,c,Y⟩_;cases J with
 |cons a0 t=>
  cases t with
  |cons b0 c0=>
   cases c0;exact nx5 _ _ (nx1 p o c rfl O U Y) a0 b0
def Pw(I:Inv X pins σ H s)(h:Uc H v k)(r:Ka v u):(VO.node.toHVK.pair VO.node.toHVK).is s.heap k u:=by
 revert h;refine ea4 ?_;rintro p a b rfl e J O;obtain rfl:u=Value.ref p:=r;refine ea7 ?_ (I.tuple (Ba.of e));rintro f0 U⟨o,Y,a0,c,b0⟩_;cases U with
 |cons c0 t=>
  cases t with
  |cons d0 e0=>
   cases e0;exact nx5 _ _ (nx1 p o c rfl Y a0 b0) (Zg I J c0) (Zg I O d0)
def Vq:∀(J:List α)(out:List xP),J.length=out.length->(∀p∈J.zip out,∃x,Ka x p.2/\R x p.1)->∃ys,Qa ys out/\Paired R ys J
 |[],[],_,_=>⟨[],.nil,.nil⟩
 |[],_::_,h,_=>by cases h
 |_::_,[],h,_=>by cases h
 |j::J,o::out,h,f=>by
  obtain⟨x,O,U⟩:=f (j,o) (by rw[Kn];simp_all);obtain⟨ys,a,b⟩:=Vq J out (Nat.succ.inj h) λp Y=>f p (by rw[Kn];simp_all)
  exact⟨x::ys,.cons O a,.cons U b⟩
def Qw:∀{l:List α}{m:List β}{i:Nat}{b:β},Paired F l m->m[i]?=wP b->∃a,l[i]?=wP a/\F a b:=by
 intro _ _ i _ h e;induction h generalizing i with
 |nil=>simp at e
 |cons r t J=>cases i with
  |zero=>simp_all
  |succ i=>
   refine ea1 ?_ (J (i:=i) (by simpa using e));rintro a O f
   simp_all
open Classical in
noncomputable def Rw(K:Type)[DecidableEq K](V:HVK K)(h:NP)(J:K)(u:xP):K:=if x:∃k,V.is h k u then Classical.choose x else J
def fB{K:Type}[DecidableEq K]{V:HVK K}{J k:K}(x:V.is h k u):Rw K V h J u=k:=by
 unfold Rw;have e:∃k,V.is h k u:=⟨k,x⟩;rw[dif_pos e];exact V.inj (by grind) x
end
end My
namespace My
open PySem PySem.Spec PyProof.Rows L2 PyProof
def Cg(h:NP)(d:BP)(es:Array eQ)(ep:Nat):Prop:=∃o,h.get? d=wP o/\o.ExactDict/\o.data=.dict es ep
section
variable{prog:HP}{w:KP}{A:LP}{E:xP->zP->Prop}{s:zP}{it d v:BP}{es:Array eQ}{i ep:Nat}
def Cg.typeIs(x:Cg s.heap d es ep):s.TypeIs (.ref d) "dict":=by obtain⟨o,J,O,_⟩:=x;exact⟨o,J,O.1⟩
def gB(b0:(d==bQ)=GP)(O:Cg s.heap d es ep)
  (a0:Q (.ref s.heap.objs.size) {s with heap:=s.heap.push {cls:=.type "dict_keyiterator",data:=.fields #[.ref d,.int 0 0,.int es.size 0,.int ep 0]}}):wpAny (FP prog w) A (JQ (.ref d)) Q E s:=by
 obtain⟨o,U,c0,Y⟩:=id O;have J:=O.typeIs;refine gq J F.slot_dict_iter (zd F.slot_dict_iter J F.entry_dict_iter ?_ (F.args_dict_iter_1 _));refine ba (ba (Zr J (ca (show wpAny _ _ (Builtin.Dict.showsAll d>>=_) _ _ s from ?_))));unfold Builtin.Dict.showsAll;rw[ma (by simp[*])];exact ba (ca (ba (mm U Y (ba (Jn U Y (ba (oh (ca (nx12 _ rfl ("dict_keyiterator") _ ⟨_,Hb _ rfl,rfl⟩ fq.lookup (by simpa[ZP]using a0))))))))))
def zJ{Q:xP->zP->Prop}(U:(d==bQ)=GP)(J:Cg s.heap d es ep)(O:Q (.ref s.heap.objs.size) {s with heap:=s.heap.push {cls:=.type "dict_values",data:=.fields #[.ref d]}}):
  wpAny (FP prog w) A (Builtin.«dict.values» ⟨[.ref d],[]⟩) (λfin s'=>∃v,fin=.done (.ret v)/\Q v s') E s:=by
 refine ba ?_;unfold Builtin.Dict.noArgs;refine ba (Zr J.typeIs (ca (?_)));unfold Builtin.Dict.showsAll;rw[ma (by grind)];exact ba (ca (ba (oh (ca ⟨_,rfl,O⟩))))
def AJ(J:s.heap.IsValuesView v d)(Y:Cg s.heap d es ep)
  (a0:Q (.ref s.heap.objs.size) {s with heap:=s.heap.push {cls:=.type "dict_valueiterator",data:=.fields #[.ref d,.int 0 0,.int es.size 0,.int ep 0]}}):wpAny (FP prog w) A (JQ (.ref v)) Q E s:=by
 obtain⟨d0,b0,e0,c0⟩:=id J;obtain⟨o,O,f0,U⟩:=id Y;refine gq J.typeIs F.slot_dict_values_iter (zd F.slot_dict_values_iter J.typeIs F.entry_dict_values_iter ?_ (F.args_dict_values_iter_1 _));refine ba (ca (ba (ba (Uj b0 c0 rfl (ca (ba (ba (mm O U (ba (Jn O U ?_))))))))));simp only[show Builtin.Dict_items.ownsTuple "dict_valueiterator"=GP by decide,ph,hf];exact oh (ca (nx12 _ rfl ("dict_valueiterator") _ ⟨_,Hb _ rfl,rfl⟩ iq.lookup (by simpa[ZP]using a0)))
def hB(J:s.heap.IsKeyIter it d i es.size ep)(c0:Cg s.heap d es ep)(d0:es[i]?=wP e)
  (e0:∀h',h'.IsKeyIter it d (i+1) es.size ep->Heap.SameBut it s.heap h'->Q (wP e.key) {s with heap:=h'}):wpAny (FP prog w) A (IQ (.ref it)) Q E s:=by
 obtain⟨o,U,f0,O⟩:=id J;obtain⟨h0,Y,i0,a0⟩:=id c0;obtain⟨g0,rfl⟩:=fl.mp d0;refine ba (Ng (Li J.typeIs fq (zd fq J.typeIs F.entry_dict_keyiterator_next ?_ (F.args_dict_keyiterator_next_1 _))));refine ba (ca (ba (ba (ba (Vr J.typeIs (ca (ba (ll U O ?_))))))));refine ba (ca (ba (mm Y a0 ?_)));rw[ma (by simp)];refine ba (ca (ba (Jn Y a0 ?_)));rw[ma (by simp)];refine ca ?_;simp only[show¬((i:Int)<0)from by lia,hf,Kf,Ci g0];refine ba (ba (Vr J.typeIs (ca (ba (wpAny_isOneOf_keyiter J.typeIs (show wpAny _ _ (WQ (.ref it) 1 (ZP ((i:Int)+1))>>=_) _ _ s from ba (wj U O (by simp) ?_)))))));have b0:(s.heap.update it (Obj.mapFields (·.setIfInBounds 1 (ZP ((i:Int)+1))))).IsKeyIter it d (i+1) es.size ep:=
  ⟨_,zi _ U (Obj.isFreed_of_fields (vi O _)),(Up ..).trans f0,by rw[vi O];simp[ZP]⟩
 refine ba (Jc (ba (wpAny_isOneOf_keyiter b0.typeIs (?_))));exact ca (ca ⟨_,rfl,ca (e0 _ b0 (bg ..))⟩)
def BJ(J:s.heap.IsValIter it d i es.size ep)(c0:Cg s.heap d es ep)(d0:es[i]?=wP e)
  (e0:∀h',h'.IsValIter it d (i+1) es.size ep->Heap.SameBut it s.heap h'->Q (wP e.val) {s with heap:=h'}):wpAny (FP prog w) A (IQ (.ref it)) Q E s:=by
 obtain⟨o,U,f0,O⟩:=id J;obtain⟨h0,a0,i0,b0⟩:=id c0;obtain⟨g0,rfl⟩:=fl.mp d0;refine ba (Ng (Li J.typeIs iq (zd iq J.typeIs F.entry_dict_valueiterator_next ?_ (F.args_dict_valueiterator_next_1 _))));refine ba (ca (ba (ba (ba (Ks J.typeIs (ca (ba (ll U O ?_))))))));refine ba (ca (ba (mm a0 b0 ?_)));rw[ma (by simp)];refine ba (ca (ba (Jn a0 b0 ?_)));rw[ma (by simp)];refine ca ?_;simp only[show¬((i:Int)<0)from by lia,hf,Kf,Ci g0];refine ba (ba (Ks J.typeIs (ca (ba (SQ J.typeIs (show wpAny _ _ (WQ (.ref it) 1 (ZP ((i:Int)+1))>>=_) _ _ s from ba (wj U O (by simp) ?_)))))));have Y:(s.heap.update it (Obj.mapFields (·.setIfInBounds 1 (ZP ((i:Int)+1))))).IsValIter it d (i+1) es.size ep:=
  ⟨_,zi _ U (Obj.isFreed_of_fields (vi O _)),(Up ..).trans f0,by rw[vi O];simp[ZP]⟩
 refine ba (Jc (ba (SQ Y.typeIs (ba (SQ (s:={s with heap:=s.heap.update it (Obj.mapFields (·.setIfInBounds 1 (ZP ((i:Int)+1))))}) Y.typeIs (?_))))));exact ca (ca ⟨_,rfl,ca (e0 _ Y (bg ..))⟩)
def iB(b0:A.handled=yP)(J:s.heap.IsKeyIter it d i es.size ep)(c0:Cg s.heap d es ep)(d0:es.size<=i)
  (e0:∀h',(∀b o,b≠it->s.heap.get? b=wP o->h'.get? b=wP o)->Q yP {s with heap:=h'}):wpAny (FP prog w) A (IQ (.ref it)) Q E s:=by
 obtain⟨o,O,g0,U⟩:=id J;obtain⟨h0,Y,i0,a0⟩:=id c0;refine ba (Ng (Li J.typeIs fq (zd fq J.typeIs F.entry_dict_keyiterator_next ?_ (F.args_dict_keyiterator_next_1 _))));refine ba (ca (ba (ba (ba (Vr J.typeIs (ca (ba (ll O U ?_))))))));refine ba (ca (ba (mm Y a0 ?_)));rw[ma (by simp)];refine ba (ca (ba (Jn Y a0 ?_)));rw[ma (by simp)];refine ca ?_;simp only[show¬((i:Int)<0)from by lia,hf,Kf,Jr d0];refine ba (ba (Vr J.typeIs (ca (show wpAny _ _ (WQ (.ref it) 0 .none>>=_) _ _ s from ba (wj O U (by simp) ?_)))));exact Ft b0 λh' k=>e0 h' λb o f0 e=>k b o ((nh _ _ (Dc f0)).trans e)
def CJ(b0:A.handled=yP)(J:s.heap.IsValIter it d i es.size ep)(c0:Cg s.heap d es ep)(d0:es.size<=i)
  (e0:∀h',(∀b o,b≠it->s.heap.get? b=wP o->h'.get? b=wP o)->Q yP {s with heap:=h'}):wpAny (FP prog w) A (IQ (.ref it)) Q E s:=by
 obtain⟨o,O,g0,U⟩:=id J;obtain⟨h0,Y,i0,a0⟩:=id c0;refine ba (Ng (Li J.typeIs iq (zd iq J.typeIs F.entry_dict_valueiterator_next ?_ (F.args_dict_valueiterator_next_1 _))));refine ba (ca (ba (ba (ba (Ks J.typeIs (ca (ba (ll O U ?_))))))));refine ba (ca (ba (mm Y a0 ?_)));rw[ma (by simp)];refine ba (ca (ba (Jn Y a0 ?_)));rw[ma (by simp)];refine ca ?_;simp only[show¬((i:Int)<0)from by lia,hf,Kf,Jr d0];refine ba (ba (Ks J.typeIs (ca (show wpAny _ _ (WQ (.ref it) 0 .none>>=_) _ _ s from ba (wj O U (by simp) ?_)))));exact Ft b0 λh' k=>e0 h' λb o f0 e=>k b o ((nh _ _ (Dc f0)).trans e)
end
def Rt(J:dQ)(es:Array eQ)(ep:Nat):Prop:=J.ExactDict/\J.data=.dict es ep
def Tt(x:Rc P w H h d (.jd O (.dT U)))(J:Rt O es ep):
  Cg h d es ep/\es.size=U.length/\∀(i:Nat)k v,U[i]?=wP (k,v)->∃e b,es[i]?=wP e/\e.key=.ref b/\H b=wP (.tup (k.map kV))/\Ka v e.val:=by
 revert x;refine ea6 ?_;rintro Y _ _;refine ebA ?_;rintro xs r o e0 f0 a0 g0 b0 c0 h0;rw[Y]at a0;cases a0;rw[J.2]at b0;cases b0;refine⟨⟨O,Y,J.1,J.2⟩,?_,λi k v e=>?_⟩
 ·have:=Ub List.length c0;rw[Lc,pa,<-dm r]at this;exact this
 ·refine eb2 ?_ (Wb r e);rintro q d0 q1 q2 q3;refine nx3 (oR (tQ (ge P w)) q) q.2.1 ?_ rfl q2 q3;rw[<-ee,c0,fb,d0];rfl
def jB(d:BP)(O:dQ)(J:List (List Key×V)):It:=
 ⟨λi H=>H d=wP (.jd O (.dT J))/\i<J.length,λi H v H'=>H'=H/\∃k x b,J[i]?=wP (k,x)/\v=.ref b/\H b=wP (.tup (k.map kV)),λi H=>H d=wP (.jd O (.dT J))/\i=J.length⟩
def Wq(d:BP)(O:dQ)(J:List (List Key×V)):It:=
 ⟨λi H=>H d=wP (.jd O (.dT J))/\i<J.length,λi H v H'=>H'=H/\∃k,J[i]?=wP (k,v),λi H=>H d=wP (.jd O (.dT J))/\i=J.length⟩
section
variable{P:HP}{w:KP}{K:W.Frag}
def DJ(d J ep:BP)(h0:dQ)(i0:List (List Key×V))(es:Array eQ)(j0:Rt h0 es ep):wl P w K B0 (jB d h0 i0) [J] J (λi h=>h.IsKeyIter J d i es.size ep)where
 mem:=by simp
 obj:=λi h hi c O=>by
  rw[Ce.mp O];revert hi;refine ea7 ?_;rintro o l0 _ dd
  simp_all
 keep:=λi h h' hi k=>hi.at (by grind)
 item:=by
  intro X m0 n0 o0 O i r0 s s0 H E I U st Y;obtain⟨hd,hi⟩:=Y;refine ea3 ?_ (Tt (I.za d _ hd) j0);rintro a0 sz t0;obtain⟨⟨k,x⟩,p0⟩:∃q,i0[i]?=wP q:=⟨_,Pd hi⟩;refine eaA ?_ (t0 i k x p0);rintro e b u0 b0 v0 C0;refine hB st a0 u0 λh' q0 w0=>?_
  refine eaD ?_ (U J (by simp));rintro c0 d0 x0 e0 f0 g0;refine ea7 ?_ (id q0);rintro D0 y0 z0 A0;exact⟨e.key,rfl,Ws y0 z0 A0 (by decide) (nx19 (.ref b) H (I.turned (λb o b0 l0=>(w0.2 b b0).trans l0) c0 d0 e0 f0 g0) b0 ⟨rfl,nx7 k x b p0 rfl v0⟩ q0 λc F0=>by simp_all)⟩
 done:=by
  intro X m0 n0 o0 O i r0 s s0 H E I U st Y;subst m0 n0 o0;obtain⟨hd,hi⟩:=Y;obtain⟨a0,sz,_⟩:=Tt (I.za d _ hd) j0;refine iB (I.ok.hd O) st a0 (by simp_all) λh' k=>⟨rfl,?_⟩
  refine eaD ?_ (U J (by simp));rintro c0 d0 x0 e0 f0 g0;exact I.turned ‹_› c0 d0 e0 f0 g0
 self:=λ_ _ _ _ _ st h=>wpAny_pyIter_keyiter st h
def EJ(d J ep:BP)(g0:dQ)(h0:List (List Key×V))(es:Array eQ)(i0:Rt g0 es ep):wl P w K C0 (Wq d g0 h0) [J] J (λi h=>h.IsValIter J d i es.size ep)where
 mem:=by simp
 obj:=λi h hi c O=>by
  rw[Ce.mp O];revert hi;refine ea7 ?_;rintro o j0 _ dd
  grind
 keep:=λi h h' ⟨o,r0,r⟩k=>⟨o,k J (by simp) o r0,r⟩
 item:=by
  intro X l0 m0 n0 O i s0 s t0 H E I U st Y;obtain⟨hd,hi⟩:=Y;refine ea3 ?_ (Tt (I.za d _ hd) i0);rintro a0 sz u0;obtain⟨⟨k,x⟩,o0⟩:∃q,h0[i]?=wP q:=⟨_,Pd hi⟩;refine eaA ?_ (u0 i k x o0);rintro e b v0 p0 D0 w0;refine BJ st a0 v0 λh' q0 x0=>?_
  refine eaD ?_ (U J (by simp));rintro b0 c0 y0 d0 e0 f0;refine ea7 ?_ (id q0);rintro F0 z0 A0 B0;exact⟨e.val,rfl,Ws z0 A0 B0 (by decide) (nx19 x H (I.turned (λb o p0 j0=>(x0.2 b p0).trans j0) b0 c0 d0 e0 f0) w0 ⟨rfl,k,o0⟩ q0 λc G0=>by grind)⟩
 done:=by
  intro X l0 m0 n0 O i s0 s t0 H E I U st Y;subst l0 m0 n0;obtain⟨hd,hi⟩:=Y;obtain⟨a0,sz,_⟩:=Tt (I.za d _ hd) i0;refine CJ (I.ok.hd O) st a0 (by lia) λh' k=>⟨rfl,?_⟩
  refine eaD ?_ (U J (by simp));rintro b0 c0 y0 d0 e0 f0;exact I.turned ‹_› b0 c0 d0 e0 f0
 self:=λ_ _ _ _ _ st h=>wpAny_pyIter_valiter st h
end
open PySem.W PySem.SeqAt
abbrev Dg:HVK Nk:=VO.int.toHVK.pair VO.int.toHVK
def FJ(J:A.units<MP)(O:Dg.is s.heap x u)(U:Dg.is s.heap y v)(h:Q (.bool (ltN x y)) s):wpAny (FP prog w) A (YP .Lt u v) Q E s:=by
 revert O;refine ea0 ?_;rintro o0 p0⟨a,o,n,e,Y,a0,b0⟩⟨q0,c0⟩⟨r0,d0⟩;revert U;refine ea0 ?_;rintro s0 t0⟨u0,e0,f0,g0,h0,i0,j0⟩⟨v0,l0⟩⟨w0,m0⟩;subst e;subst g0;subst c0;subst d0;subst l0;subst m0;refine HT.Xc (ns:=[x.1,x.2]) (ms:=[y.1,y.2]) (nx18 o Y a0 n b0) (nx18 e0 h0 i0 f0 j0) (.cons _ _ (.cons _ _ .nil)) (.cons _ _ (.cons _ _ .nil)) J ?_;have n0:HT.lexLt [x.1,x.2] [y.1,y.2]=ltN x y:=by
  unfold ltN Yg;rw[HT.Gb,HT.Gb,HT.Vb];by_cases q:x.1=y.1
  ·rw[wa q,wa q];by_cases q2:x.2=y.2
   ·rw[wa q2,q2];exact(VO.int.irr _).symm
   ·rw[ma q2];rfl
  ·rw[ma q,ma q];rfl
 rw[n0];exact h
def kB(x:Nk):ltN x x=GP:=dB VO.int VO.int x
def GJ(a:ltN x y=CP)(b:ltN y z=CP):ltN x z=CP:=eB VO.int VO.int x y z a b
section
variable{prog:HP}{w:KP}{A:LP}
def lB(ks:List Nk)(us:List xP)(j:Nat)(xs:Array xP):Prop:=(j=0/\xs=#[])\/∃(i:Nat)(u:xP)(k:Nk),i<j/\us[i]?=wP u/\ks[i]?=wP k/\xs=#[u,u]/\∀(J:Nat)O,J<j->ks[J]?=wP O->ltN O k=GP
def HJ(c1:A.units+2<MP)(R0:A.handled=yP)(d1:us.length=ks.length)(S0:us≠[])(T0:l≠I)(p0:S≠I)(U0:S≠l):
  ∀(k j:Nat)(s:zP)(xs:Array xP)(c:Nat),us.length-j=k->j<=us.length->s.heap.IsListIter I l j->s.heap.IsList l us.toArray->lB ks us j xs->(∀(i:Nat)u k,us[i]?=wP u->ks[i]?=wP k->Dg.is s.heap k u)->
   s.heap.get? S=wP {cls:=.type "list",dict:=yP,data:=.seq xs c,slots:=#[]}->
   (∀(i:Nat)u k h' J,us[i]?=wP u->ks[i]?=wP k->(∀b0∈ks,ltN b0 k=GP)->(∀b o,b≠I->b≠S->s.heap.get? b=wP o->h'.get? b=wP o)->R (.ok (.ret u)) {s with heap:=h',toks:=J})->
   codeAny (FP prog w) A (.builtin "min.loop" ⟨[.ref I,.none,.ref S],[]⟩) R s:=by
 have W:=Walks.list (prog:=prog) (w:=w) (A:=A.in1) R0 I l T0 us.toArray;have un:(toString "min"++toString ".loop":String)="min.loop":=by decide
 have G0:us.toArray.size=us.length:=by simp
 intro k;induction k with
 |zero=>
  intro j s xs c V0 W0 v0 w0 x0 m0 h0 q0;have e1:j=us.length:=by lia
  refine Og F.entry_min_loop ?_;rw[Hi Nh _];show wpAny _ A.in1 (fR (.ref S)>>=_) _ _ s;refine ba (qg h0 rfl ?_);rcases x0 with⟨rfl,rfl⟩|⟨i,u,i0,hi,r0,ek,rfl,y0⟩
  ·exact absurd (by grind) S0
  ·refine ba (Lh (W.done s _ _ ⟨by simp_all,w0⟩ λh' J a0=>?_));have U:=a0 S _ (by simpa using p0) h0;refine ba (nl U rfl (ba (Ii (ca ?_))));refine q0 i u i0 _ J r0 ek (λb0 X0=>?_) λb o n0 s0 e=>(nh _ _ (Dc s0)).trans (a0 b o (by simpa using n0) e)
   obtain⟨j0,O⟩:=ze.mp X0
   grind
 |succ k I0=>
  intro j s xs c V0 W0 v0 w0 x0 m0 h0 q0;have t0:j<us.length:=by lia
  obtain⟨c0,l0⟩:∃c0,ks[j]?=wP c0:=⟨_,Pd (by simp_all)⟩;refine Og F.entry_min_loop ?_;rw[Hi Nh _];show wpAny _ A.in1 (fR (.ref S)>>=_) _ _ s;refine ba (qg h0 rfl ?_);have z0:∀o,s.heap.get? I=wP o->∀ys n,o.data=.seq ys n->False:=λo Y0 ys n f1=>by
   obtain⟨g1,h1,J0,i1⟩:=v0
   simp_all
  have Z0:∀o,s.heap.get? S=wP o->o.cls≠.type "tuple":=λo Y0=>by
   grind
  have K0:∀h',h'.get? S=wP {cls:=.type "list",dict:=yP,data:=.seq xs c,slots:=#[]}->h'.IsListIter I l (j+1)->h'.IsList l us.toArray->(∀b o,b≠I->s.heap.get? b=wP o->h'.get? b=wP o)->∀J:Nat,∀(ys:Array xP)(e0:NP),lB ks us (j+1) ys->
    ((e0=h'/\ys=xs)\/e0=h'.update S (Obj.mapSeq λ_=>ys))->codeAny (FP prog w) A (.builtin "min.loop" ⟨[.ref I,.none,.ref S],[]⟩) R {s with heap:=e0,toks:=J}:=by
   intro h' U L0 M0 keep J ys e0 N0 a1;rcases a1 with⟨rfl,rfl⟩|rfl
   ·exact I0 (j+1) {s with heap:=e0,toks:=J} ys c (by grind) t0 L0 M0 N0 (λi u k f0 g0=>Dg.keep (m0 i u k f0 g0) λb o _ _ e _ d=>keep b o (λz=>z0 o (by grind) _ _ d) e) U λi u k A0 B0 f0 g0 d0 k3=>q0 i u k A0 B0 f0 g0 d0 λb o n0 s0 e=>k3 b o n0 s0 (keep b o n0 e)
   ·have C0:∀b,b≠S->(h'.update S (Obj.mapSeq λ_=>ys)).get? b=h'.get? b:=λb Y=>nh _ _ (Dc Y)
    obtain⟨D0,b1⟩:∃D0,(h'.update S (Obj.mapSeq λ_=>ys)).get? S=wP {cls:=.type "list",dict:=yP,data:=.seq ys D0,slots:=#[]}:=⟨_,zi _ U rfl⟩;refine I0 (j+1) {s with heap:=h'.update S (Obj.mapSeq λ_=>ys),toks:=J} ys D0 (by lia) t0 (L0.at λo e=>(C0 I (Dc p0)).trans e) (M0.at λo e=>(C0 l (Dc U0)).trans e) N0 (λi u k f0 g0=>Dg.keep (m0 i u k f0 g0) λb o _ _ e J0 d=>(C0 b (λz=>Z0 o (by rw[<-z];exact e) J0)).trans (keep b o (λz=>z0 o (by grind) _ _ d) e)) b1 λi u k A0 B0 f0 g0 d0 k3=>q0 i u k A0 B0 f0 g0 d0 λb o n0 s0 e=>?_
    simp[*]
  have O0:s.heap.IsListIter I l j/\s.heap.IsList l us.toArray:=⟨v0,w0⟩;rcases x0 with⟨rfl,rfl⟩|⟨i,u,i0,hi,r0,ek,rfl,y0⟩
  ·refine ba (Lh (W.item 0 s _ _ (by rw[G0];exact t0) O0 λv h' J F0 o0 a0=>?_));have d0:us[0]?=wP v:=by simpa using F0
   have U:=a0 S _ (by simpa using p0) h0;refine ba (ca (ba (nl U rfl ?_)));rw[un];refine ca ⟨Hf Nh _,K0 h' U o0.1 o0.2 (λb o Y e=>a0 b o (by simpa using Y) e) J #[v,v] _ (.inr (nx6 0 v c0 (by lia) d0 l0 rfl λj0 b0 u0 O=>?_)) (.inr rfl)⟩;have:j0=0:=by simp_all
   subst this;rw[l0]at O;cases O;exact kB _
  ·refine ba (Lh (W.item j s _ _ (by rw[G0];exact t0) O0 λv h' J F0 o0 a0=>?_));have d0:us[j]?=wP v:=by simpa using F0
   have U:=a0 S _ (by simpa using p0) h0;have P0:Tq s.heap h':=λb o _ _ e _ d=>a0 b o (λz=>z0 o (by grind) _ _ d) e
   have g:=K0 h' U o0.1 o0.2 (λb o Y e=>a0 b o (by simpa using Y) e) J;refine ba (ca (ba (Lh (Jc (ba (FJ (s:={s with heap:=h',toks:=J}) (x:=c0) (y:=i0) (show A.units+1<MP by lia) (Dg.keep (m0 j v c0 d0 l0) P0) (Dg.keep (m0 i u i0 r0 ek) P0) ?_))))));refine ba (Jc (Yl (ba (Ii (ca ?_)))));by_cases Y:ltN c0 i0=CP
   ·rw[wa Y];refine ba (nl U rfl (ba (Ii ?_)));rw[un];refine ca ⟨Hf Nh _,g #[v,v] _ (.inr (nx6 j v c0 (by lia) d0 l0 rfl λj0 b0 u0 O=>?_)) (.inr rfl)⟩;rcases Gn.mp u0 with z|z
    ·have Q0:=y0 j0 b0 z O;cases e0:ltN b0 c0 with
     |false=>rfl
     |true=>rw[GJ e0 Y]at Q0;cases Q0
    ·subst z;rw[l0]at O;cases O;exact kB _
   ·rw[ma Y];refine ba (Ii ?_);rw[un];refine ca ⟨Hf Nh _,g #[u,u] _ (.inr (nx6 i u i0 (by lia) r0 ek rfl λj0 b0 u0 O=>?_)) (.inl ⟨rfl,rfl⟩)⟩;rcases Gn.mp u0 with z|z
    ·exact y0 j0 b0 z O
    ·subst z;rw[l0]at O;cases O;simpa using Y
end
def IJ{K:W.Frag}(o0:X.A.units+16<MP)(g0:X.K=K)(h0:X.calm=CP):Cf X (.builtin "min") (λxs H Q=>∃(a:BP)(vs:List V)(ks:List Nk),xs=[V.ref a]/\ia K H a vs/\Paired (Fb H) vs ks/\vs≠[]/\
  ∀v k,v∈vs->Fb H v k->k∈ks->(∀Y∈ks,ltN Y k=GP)->Q v H):=by
 subst g0;intro p0 s q0 H xs us Q I r h;revert h;refine eaF ?_;rintro l vs ks rfl e pk r0 q;obtain⟨u,rfl,i0⟩:=gg r;cases i0;refine ea7 ?_ (I.list e);rintro U a0 pl _;have j0:U.length=vs.length:=a0.length.symm;have l0:U.length=ks.length:=j0.trans (qb pk);have un:(toString "min"++toString ".loop":String)="min.loop":=by decide
 have m0:∀(i:Nat)u k,U[i]?=wP u->ks[i]?=wP k->Dg.is s.heap k u:=λi u k J O=>by
  obtain⟨x,ex,b0⟩:=Rf a0 J;obtain⟨Y,ek,d0⟩:=Wb pk ex;rw[O]at ek;cases ek;exact Zg I d0 b0
 have c0:=pl.isList;refine kmk_tree F.kind_min F.plain_min F.entry_min (F.args_min1 _) ?_;refine ba (VQ (show Builtin.Builtins.bindParams "min" ["key","default"] 0 ⟨[],[]⟩=pure [yP,yP]from rfl) (ba (ca ?_)));have e0:l<s.heap.objs.size:=by obtain⟨_,e,_⟩:=c0;exact Xa e
 refine ba (io c0 (ba (oj ?_ (Tb _))));rw[un];have f0:∀b o,s.heap.get? b=wP o->((s.heap.push {cls:=.type "list_iterator",data:=.fields #[.ref l,.int 0 0]}).push {cls:=.type "list",data:=.seq ([]:List xP).toArray}).get? b=wP o:=λb o e=>Ta _ (Ta _ e)
 refine ca ⟨Hf Nh _,HJ (A:=X.A) (I:=s.heap.objs.size) (l:=l) (by lia) (I.ok.hd h0) l0 (by grind) (Ab e0) ?_ ?_ U.length 0 _ #[] 0 (by lia) (Tb _) ?_ ?_ (.inl ⟨rfl,rfl⟩) (λi u k J O=>Dg.keep (m0 i u k J O) λb o _ _ e _ _=>f0 b o e) (Hb _ rfl) λi u k h' n0 J O s0 kp=>?_⟩
 ·exact Zj (show s.heap.objs.size<(s.heap.push _).objs.size by rw[Zf];exact Nat.lt_succ_self _)
 ·exact Zj (show l<(s.heap.push _).objs.size by rw[Zf];exact Rn e0)
 ·exact⟨_,Ta _ (Hb _ rfl),rfl,rfl⟩
 ·exact(c0.push _).push _
 ·refine ea1 ?_ (Rf a0 J);rintro x ex b0;refine ea1 ?_ (Wb pk ex);rintro Y ek d0;rw[O]at ek;cases ek;refine⟨x,H,I.kept (t':=n0) λb o e=>kp b o (Ab (Xa e)) (Ab (show b<(s.heap.push _).objs.size by rw[Zf];exact Rn (Xa e))) (f0 b o e),b0,by grind⟩
section
variable{X:Cx}{pins:List (BP×dQ)}{σ:L2.St}{H:Hp}{s:zP}
def Sw(I:Inv X pins σ H s)(O:A.units+1<MP)(h:Fb H v n)(r:Ka v u)(h':Fb H x k)(J:Ka x z):EqAt A s u z (decide (n=k)):=Dg.eq ‹_› (Zg I h r) (Zg I h' J)
def JJ(h:Fb H v n)(h':Fb H v k):n=k:=by
 obtain⟨p,rfl,e⟩:=h;obtain⟨U,O,J⟩:=h';cases O;rw[e]at J;have:=me J;simp at this;exact yi this.1 this.2
end
def nB:∀{xs:List V}{us:List xP},Qa xs us->∀j,Qa (xs.eraseIdx j) (us.eraseIdx j)
 |_,_,.nil,_=>.nil
 |_,_,.cons _ t,0=>t
 |_,_,.cons r t,j+1=>.cons r (nB t j)
inductive Zi(x:V)(vs:List V)(H:Hp)(Q:VK):Prop|mk(l:BP)(xs:List V)(ks:List Nk)(y:V)(k:Nk)(j:Nat)(_:x=.ref l)(_:vs=[y])(_:H l=wP (.lst xs))(_:Paired (Fb H) xs ks)(_:Fb H y k)(_:ks[j]?=wP k)(_:(∀i,i<j->ks[i]?≠wP k))(_:∀H',H' l=wP (.lst (xs.eraseIdx j))->(∀b o,b≠l->H b=wP o->H' b=wP o)->(∀b,b≠l->H b=yP->H' b=yP)->Q .Pa H')
def KJ(v0:X.A.units+16<MP):Bo X "list.remove" Zi:=by
 intro w0 s x0 H x vs v us Q I m0 n0 h;obtain⟨l,xs,ks,y,k,j,rfl,rfl,f0,pk,g0,h0,y0,q⟩:=h;cases m0;obtain⟨u,rfl,i0⟩:=n0.one;refine ec3 ?_ (I.pf f0);rintro z J n r z0 e;have o0:J.length=ks.length:=r.length.symm.trans (qb pk);have j0:j<J.length:=by rw[o0];exact(Zb.mp h0).1
 have key:∀(m i:Nat)(R:TR->zP->Prop),j-i=m->i<=j->R (.ok (.ret .none)) {s with heap:=s.heap.update l (Obj.mapSeq (·.eraseIdxIfInBounds j))}->
   codeAny (FP X.prog X.w) X.A (.builtin "list.remove.loop" ⟨[.ref l,u,ZP i],[]⟩) R s:=by
  intro m;induction m with
  |zero=>
   intro i R p0 hi Y;have:i=j:=by grind
   subst this;refine Og MeetsSeq.entry_remove_loop ?_;rw[Hi Es _];show wpAny _ _ (Builtin.List.listItems (.ref l)>>=_) _ _ _;refine ba (KQ e rfl ?_);obtain⟨O,U⟩:∃O,J[i]?=wP O:=⟨_,Pd j0⟩;refine ea1 ?_ (Rf r U);rintro q0 a0 b0;refine ea1 ?_ (Wb pk a0);rintro l0 c0 d0;rw[h0]at c0;cases c0;have e0:J.toArray[((i:Nat):Int).toNat]?=wP O:=by rw[Kf];simpa using U
   rw[e0];refine ba (Sw I (A:=X.A.in1) (show X.A.units+1+1<MP by lia) d0 b0 g0 i0 X.prog X.w _ _ ?_);rw[wa (zb rfl)];exact ba (lm e rfl (by rw[Kf];exact ca Y) (by rw[ic];lia) (by
    have:(J.toArray.eraseIdxIfInBounds ((i:Nat):Int).toNat).size<=J.toArray.size:=by
     unfold Array.eraseIdxIfInBounds;split
     ·rw[Array.size_eraseIdx];simp_all
     ·exact xa _
    have A0:J.toArray.size=J.length:=by simp
    have B0:(J.toArray.eraseIdxIfInBounds ((i:Nat):Int).toNat).size<=J.toArray.size:=this;show(J.toArray.eraseIdxIfInBounds ((i:Nat):Int).toNat).size<=DP+1;lia))
  |succ m r0=>
   intro i R p0 hi Y;have s0:i<J.length:=by lia
   refine Og MeetsSeq.entry_remove_loop ?_;rw[Hi Es _];show wpAny _ _ (Builtin.List.listItems (.ref l)>>=_) _ _ _;refine ba (KQ e rfl ?_);obtain⟨O,U⟩:∃O,J[i]?=wP O:=⟨_,Pd s0⟩;refine ea1 ?_ (Rf r U);rintro q0 a0 b0;refine ea1 ?_ (Wb pk a0);rintro l0 c0 d0;have e0:J.toArray[((i:Nat):Int).toNat]?=wP O:=by rw[Kf];simpa using U
   rw[e0];refine ba (Sw I (A:=X.A.in1) (show X.A.units+1+1<MP by lia) d0 b0 g0 i0 X.prog X.w _ _ ?_);have t0:l0≠k:=by grind
   rw[Wd t0,ma pc];have u0:ZP (((i:Nat):Int)+1)=ZP ((i+1:Nat):Int):=by rw[Int.natCast_add];rfl
   rw[u0];exact ca ⟨Hf Es _,r0 (i+1) R (by grind) (by grind) Y⟩
 refine HQ (bR av.plain F.entry_list_remove (av.check _ _ _ _ _ _ _ _ ⟨_,e,rfl⟩ (F.args_list_remove_2 _ _) ?_));refine ba (ca (ca ⟨Hf Es _,key j 0 _ (by simp_all) (Tb _) ?_⟩));refine⟨.Pa,_,I.Qi (t':=s.toks) (its':=J.eraseIdx j) (ys:=xs.eraseIdx j) f0 e (by rw[Array.eraseIdxIfInBounds,dif_pos (by simpa using j0)];simp) ?_ ?_,rfl,q _ la (λb o n e=>by rw[oa n];exact e) λb n e=>by rw[oa n];exact e⟩
 ·exact nB r j
 ·have:=List.length_eraseIdx_le xs j;lia
inductive LJ(K:W.Frag)(x y:V)(H:Hp)(Q:VK):Prop|mk(l:BP)(xs:List V)(ks:List Nk)(k:Nk)(_:y=.ref l)(_:ia K H l xs)(_:Paired (Fb H) xs ks)(_:Fb H x k)(_:Q (.bl (decide (k∈ks))) H)
section
variable{X:Cx}{pins:List (BP×dQ)}{σ:L2.St}{H:Hp}{s:zP}
def MJ(I:Inv X pins σ H s)(d0:A.units+1<MP)(U:Qa xs J)(pk:Paired (Fb H) xs ks)(e0:Fb H x k)(f0:Ka x u):
  ∃e:xP->Bool,(∀y,y∈J.toArray->EqAt A s y u (e y))/\(J.toArray.any e)=decide (k∈ks):=by
 classical
 refine⟨λy=>decide (∃n,Dg.is s.heap n y/\n=k),λy g0=>?_,?_⟩
 ·obtain⟨i,hi⟩:=ze.mp (by simpa using g0);obtain⟨b0,ex,O⟩:=Rf U hi;obtain⟨n,n0,Y⟩:=Wb pk ex;have:=Sw I d0 Y O e0 f0;have e:decide (n=k)=decide (∃n,Dg.is s.heap n y/\n=k):=by
   by_cases q:n=k
   ·rw[zb q,zb ⟨n,Zg I Y O,q⟩]
   ·rw[Wd q,Wd];rintro⟨m,a0,rfl⟩;exact q (Dg.inj (Zg I Y O) a0)
  show EqAt A s y u (decide (∃n,Dg.is s.heap n y/\n=k));rw[<-e];exact this
 ·rw[Fn,Array.any_eq_true,Jp];constructor
  ·rintro⟨i,hi,q⟩;obtain⟨n,a0,rfl⟩:=zc q;have h0:J[i]?=wP (J.toArray[i]):=by simp at hi⊢
   obtain⟨b0,ex,O⟩:=Rf U h0;obtain⟨m,em,i0⟩:=Wb pk ex;rw[Dg.inj a0 (Zg I i0 O)];exact yb em
  ·intro q;obtain⟨i,hi⟩:=ze.mp q;refine ea1 ?_ (Qw pk hi);rintro b0 ex j0;refine ea1 ?_ (U.get ex);rintro y l0 m0;obtain⟨c0,e⟩:=Zb.mp l0;refine⟨i,by simpa using c0,zb ⟨k,?_,rfl⟩⟩;have:J.toArray[i]'(by simpa using c0)=y:=by simpa using e
   rw[this];exact Zg I j0 m0
end
def NJ{K:W.Frag}(e0:X.A.units+16<MP)(J:X.K=K):Cc X (YP .In) (LJ K):=by
 subst J;intro f0 s g0 H x y v u Q I O U h;obtain⟨l,xs,ks,k,rfl,Y,pk,a0,q⟩:=h;cases U;refine ea7 ?_ (I.list Y);rintro h0 b0 pl _;obtain⟨e,c0,d0⟩:=MJ I (A:=X.A.in1) (by lia) b0 pk a0 O;refine in_listAt e pl.isList c0 ?_;rw[d0];exact⟨.bl _,H,I,rfl,q⟩
def OJ{O:L2.St}(I:Inv X a0 O H s)(e:H d=wP (.dT b0))(c0:s.heap.get? d=wP d0):Inv X a0 O (upd H d (.jd d0 (.dT b0))) s:=by
 have J:∀b,H b=yP->b≠d:=by lia
 refine⟨I.ok,I.os,I.bare,⟨I.base.keep,I.base.slot,λb o q n e0=>?_,I.base.there,λb xs q=>?_,λb o u q=>?_,λb f0 q=>?_⟩,I.loc,I.cell,?_,λx c q=>?_,λp g0=>?_,λb u q=>?_,I.len⟩
 ·have:=I.base.free b o q n e0;rw[oa (J b this)];exact this
 ·have:=I.base.tups b xs q;rw[oa λz=>by rw[z,e]at this;cases this];exact this
 ·have:=I.base.frzs b o u q;rw[oa λz=>by rw[z,e]at this;cases this];exact this
 ·obtain⟨more,q2⟩:=I.base.tbls b f0 q;exact⟨more,by rw[oa λz=>by rw[z,e]at q2;cases q2];exact q2⟩
 ·rw[oa (J _ I.free)];exact I.free
 ·rw[oa (J _ (I.Bb x c q))];exact I.Bb x c q
 ·refine ea3 ?_ (I.pin p g0);rintro h0 U i0;exact⟨h0,by rw[oa (J _ U)];exact U,i0⟩
 ·by_cases Y:b=d
  ·subst Y;rw[la]at q;cases q;exact⟨c0,(I.za b _ e).Dd (λc v _ z=>z) (λc z=>by rw[oa λy=>by rw[y,e]at z;cases z];exact z) λc xs z=>by rw[oa λy=>by rw[y,e]at z;cases z];exact z⟩
  ·rw[oa Y]at q;exact(I.za b u q).Dd (λc v _ z=>z) (λc z=>by rw[oa λy=>by rw[y,e]at z;cases z];exact z) λc xs z=>by rw[oa λy=>by rw[y,e]at z;cases z];exact z
section
variable{X:Cx}
def oB{Y:L2.St}(b0:Inv X c0 Y U s1)(j0:Rd U d (.dT a0)):
  ∃O J es ep,Inv X c0 Y J s1/\J d=wP (.jd O (.dT a0))/\(∀b o,b≠d->U b=wP o->J b=wP o)/\(∀b,b≠d->U b=yP->J b=yP)/\Rt O es ep/\(d==bQ)=GP/\Cg s1.heap d es ep:=by
 obtain⟨O,J,d0,e0,k2,l0⟩:∃O J,Inv X c0 Y J s1/\J d=wP (.jd O (.dT a0))/\(∀b o,b≠d->U b=wP o->J b=wP o)/\∀b,b≠d->U b=yP->J b=yP:=by
  rcases j0 with e|⟨O,e⟩
  ·obtain⟨O,m0⟩:=kt (b0.za d _ e);exact nx3 O _ (OJ b0 e m0) la (λb o n q=>by rw[oa n];exact q) λb n q=>by rw[oa n];exact q
  ·exact(by grind)
 refine ea6 ?_ ((show Rc X.prog X.w J s1.heap d (.jd O (.dT a0))from d0.za d _ e0));rintro f0 _ n0;refine ebA ?_;rintro xs r o es ep g0 h0 i0 o0 p0;rw[f0]at g0;cases g0;exact nx4 O J es ep d0 e0 k2 l0 ⟨h0,i0⟩ n0 ⟨O,f0,h0,i0⟩
def PJ(a0:TE):TI:=λb0 H R=>a0 b0 H λx O=>∃d U,x=.ref d/\Rd O d (.dT U)/\∀Y J,J d=wP (.jd Y (.dT U))->(∀b o,b≠d->O b=wP o->J b=wP o)->(∀b,b≠d->O b=yP->J b=yP)->R (jB d Y U) J
def QJ(O:PE X o U):PI X n0 o (PJ U):=by
 constructor;intro Y s a0 H R I h;refine Aa (O Y s a0 H _ I h) ?_;rintro v s1⟨x,o0,b0,c0,d,d0,ex,e0,q⟩;subst ex;cases c0;refine ebG ?_ (oB b0 e0);rintro f0 g0 es ep J p0 k2 q0 h0⟨i0,j0⟩;refine gB i0 j0 ?_;have l0:=J.kept (t':=s1.toks) (h':=s1.heap.push {cls:=.type "dict_keyiterator",data:=.fields #[.ref d,.int 0 0,.int es.size 0,.int ep 0]}) λb o e=>Ta _ e
 exact⟨_,[s1.heap.objs.size],_,_,g0,rfl,l0,DJ d _ ep f0 d0 es h0,⟨_,Hb _ rfl,rfl,rfl⟩,λb m0=>by
  rw[Ce.mp m0];exact J.vg (xa _) (J.za.fresh (xa _)),by simp_all⟩
def RJ(a0:TE):TI:=λb0 H R=>a0 b0 H λx O=>∃d U,x=.ref d/\Rd O d (.dT U)/\∀Y J,J d=wP (.jd Y (.dT U))->(∀b o,b≠d->O b=wP o->J b=wP o)->(∀b,b≠d->O b=yP->J b=yP)->R (Wq d Y U) J
def SJ{e0 o:UP}{Y a0:sQ}(O:PE X o f0)(g0:jR o "values" X.env (XP o X.env)=XP o X.env:=by rfl)(h0:(Y.endLine==a0.line)=CP:=by rfl):
  PI X e0 (.Call (.Attribute o "values" Y) [] [] a0) (RJ f0):=by
 constructor;intro b0 s c0 H R I h;refine wpAny_Call_method0_late g0 h0 (Aa (O b0 s c0 H _ I h) ?_);rintro v s1⟨x,y0,i0,j0,d,l0,ex,m0,q⟩;subst ex;cases j0;refine ebG ?_ (oB i0 m0);rintro n0 d0 es ep o0 z0 k2 A0 p0⟨q0,J⟩;refine nx10 ("dict") ("dict.values") Mr F.slot_dict_values F.type_dict_values J.typeIs (λb q=>?_) (Ip rfl (PySem.evalArgs_none ?_))
 ·cases q;revert J;refine ea7 ?_;rintro r0 s0 t0 _;exact⟨r0,s0,t0.2.1⟩
 refine zd F.slot_dict_values J.typeIs F.entry_dict_values (zJ q0 J ?_) (F.args_dict_values_1 _);have u0:(s1.heap.push {cls:=.type "dict_values",data:=.fields #[.ref d]}).IsValuesView s1.heap.objs.size d:=⟨_,Hb _ rfl,rfl,rfl⟩;have U:Inv X b0 c0 d0 {s1 with heap:=s1.heap.push {cls:=.type "dict_values",data:=.fields #[.ref d]}}:=o0.kept (t':=s1.toks) λb o e=>Ta _ e
 have v0:Cg (s1.heap.push {cls:=.type "dict_values",data:=.fields #[.ref d]}) d es ep:=let⟨o,O,r⟩:=J;⟨o,Ta _ O,r⟩
 refine AJ (s:={s1 with heap:=s1.heap.push {cls:=.type "dict_values",data:=.fields #[.ref d]}}) u0 v0 ?_;have w0:=U.kept (t':=s1.toks) (h':=(s1.heap.push {cls:=.type "dict_values",data:=.fields #[.ref d]}).push {cls:=.type "dict_valueiterator",data:=.fields #[.ref d,.int 0 0,.int es.size 0,.int ep 0]}) λb o e=>Ta _ e
 exact⟨_,[(s1.heap.push {cls:=.type "dict_values",data:=.fields #[.ref d]}).objs.size],_,_,d0,rfl,w0,EJ d _ ep n0 l0 es p0,⟨_,Hb _ rfl,rfl,rfl⟩,λb x0=>by
  rw[Ce.mp x0];exact U.vg (xa _) (U.za.fresh (xa _)),by simp_all⟩
end
def TJ{g:TG}{c0:TS}{D:ug}(Pv:Nat->L2.St->Hp->Prop)(l0:Pv 0 J H)(d0:∀i J H,Pv i J H->H d=wP (.jd U (.dT O)))
  (g0:∀i k x J H,O[i]?=wP (k,x)->Pv i J H->g x J H λY a0=>c0 {D with nx:=Pv (i+1),ct:=Pv (i+1),bk:=D.nx} Y a0)(h0:∀J H,Pv O.length J H->D.nx J H):
  ∃W:Nat->Nat->L2.St->Hp->Prop,(∃m,W 0 m J H)/\∀i m J H,W i m J H->
   ((Wq d U O).stop i H/\D.nx J H)\/((Wq d U O).go i H/\∃N:L2.St->Hp->Prop,(∀b0 H',N b0 H'->∃e0,e0<m/\W (i+1) e0 b0 H')/\∀x H',(Wq d U O).Nf i H x H'->g x J H' λY a0=>c0 {D with nx:=N,ct:=N,bk:=D.nx} Y a0):=by
 refine⟨λi m J H=>m=O.length-i/\i<=O.length/\Pv i J H,by simp_all,?_⟩;rintro i m J H;refine ea3 ?_;rintro rfl hi p;by_cases f0:i<O.length
 ·refine .inr ⟨⟨d0 i J H p,f0⟩,Pv (i+1),λb0 H' i0=>⟨O.length-(i+1),by grind,rfl,f0,i0⟩,?_⟩;rintro v H' ⟨rfl,k,j0⟩;exact g0 i k v J _ j0 p
 ·have e:i=O.length:=by lia
  subst e;exact .inl ⟨⟨d0 _ J H p,rfl⟩,h0 J H p⟩
end My
namespace My
open PySem PySem.Spec PyProof.Rows L2 PyProof
def pB{K:Type}[DecidableEq K](xs:List (K×BP×xP))(k:K)(a:BP)(v:xP):(lQ xs k a v).length<=xs.length+1:=by
 unfold lQ;split<;>simp
def Fg{K:Type}[DecidableEq K](xs:List (K×BP×xP))(J:List (K×BP×xP)):List (K×BP×xP):=J.foldl (λa q=>lQ a q.1 q.2.1 q.2.2) xs
def qB{X:Cx}{a0:List (BP×dQ)}{b0:L2.St}{H:Hp}{s:zP}{Q:VK}{a:BP}{J:List xP}{K:Type}[DecidableEq K]{knd:HeapKind X.prog X.w K}{ks:List (K×BP×xP)}
  (hi:∀{h h':NP}{k:K}{b:BP},knd.is h k b->(∀b o ys n,h.get? b=wP o->o.data=.seq ys n->h'.get? b=wP o)->knd.is h' k b)(j0:knd.room X.A.in1.in1)(l0:X.calm=CP)(I:Inv X a0 b0 H s)(pl:PlainL s.heap a J.toArray)(k2:J.length=ks.length)(hz:ks.length<1000000)
  (k3:∀(j:Nat)u,J[j]?=wP u->∃t q,u=.ref t/\ks[j]?=wP q/\s.heap.IsTuple t #[.ref q.2.1,q.2.2]/\knd.is s.heap q.1 q.2.1)
  (fin:∀h c0,(∀b o,s.heap.get? b=wP o->h.get? b=wP o)->h.DictOfH knd s.heap.objs.size (Fg [] ks)->EP X a0 b0 Q (.ref s.heap.objs.size) {s with heap:=h,toks:=c0}):
  wpAny (FP X.prog X.w) X.A (call (.type "dict") [.ref a]) (EP X a0 b0 Q) X.xe s:=by
 have d0:∀{h h':NP},(∀b o ys n,h.get? b=wP o->o.data=.seq ys n->h'.get? b=wP o)->(∀(j:Nat)u,J[j]?=wP u->∃t q,u=.ref t/\ks[j]?=wP q/\h.IsTuple t #[.ref q.2.1,q.2.2]/\knd.is h q.1 q.2.1)->∀(j:Nat)u,J[j]?=wP u->∃t q,u=.ref t/\ks[j]?=wP q/\h'.IsTuple t #[.ref q.2.1,q.2.2]/\knd.is h' q.1 q.2.1:=λk O j u U=>by
  refine eaA ?_ (O j u U);rintro t q Y e0⟨o,m0,c,n,d⟩f;exact nx3 t q Y e0 (nx18 o (k _ _ _ _ m0 d) c n d) (hi f k)
 refine OA (G:=λi h=>h.DictOfH knd s.heap.objs.size (Fg [] (ks.take i))/\(Fg [] (ks.take i)).length<=i/\∀(j:Nat)u,J[j]?=wP u->∃t q,u=.ref t/\ks[j]?=wP q/\h.IsTuple t #[.ref q.2.1,q.2.2]/\knd.is h q.1 q.2.1) l0 I pl ?_ ⟨Heap.DictOfH.new s.heap,xa _,d0 (λb o _ _ e _=>Ta _ e) k3⟩ ?_ λh c0 kp g=>fin h c0 kp (by have:=g.1;rwa[k2,Ic]at this)
 ·rintro i h h' k;refine ea3 ?_;rintro⟨o,es,ep,Y,e0,g0,n0,o0,p0⟩f0 O;have h0:∀b o ys n,h.get? b=wP o->o.data=.seq ys n->h'.get? b=wP o:=λb o ys n e d=>k b o (by grind) e
  exact⟨nx6 o es ep (k _ _ (by grind) Y) e0 g0 n0 ⟨λy q0=>hi (o0 y q0) h0,p0⟩,f0,d0 h0 O⟩
 ·rintro i u s' U;refine ea3 ?_;rintro dd f0 O;have:=(Zb.mp U).1;refine eaA ?_ (O i u U);rintro t q rfl r0 s0 t0;have e:Fg [] (ks.take (i+1))=lQ (Fg [] (ks.take i)) q.1 q.2.1 q.2.2:=by rw[qc,r0];simp[Fg]
  refine nx7 t _ _ rfl s0 λk=>wpAny_dictSet_heap j0 t0 dd (λu0 v0 i0=>k u0 _ i0.2 ⟨by rw[e];exact v0,?_,d0 (λb o ys n w0 d=>(i0.2 b λz=>?_).trans w0) O⟩) (Nb f0 (Nb (show i<=1000000 by lia) (by decide)))
  ·have:=pB (Fg [] (ks.take i)) q.1 q.2.1 q.2.2;rw[e];lia
  ·obtain⟨x0,_,_,Y,_,g0,_⟩:=dd
   simp_all
inductive vk(K:W.Frag)(H:Hp):List V->List (List Key×V)->Prop where
 |nil:vk K H [] []
 |cons{t b:BP}{q:List Key×V}{ws:List V}{ps:List (List Key×V)}(h:Ba K H t [.ref b,q.2])(hb:H b=wP (.tup (q.1.map kV)))(r:vk K H ws ps):vk K H (.ref t::ws) (q::ps)
def dn(J O:List (List Key×V)):List (List Key×V):=O.foldl (λa q=>lc a q.1 q.2) J
def rB:∀{J:List (List Key×V)}{ks:List (List Key×BP×xP)}{O:List (List Key×V)}{xs:List (List Key×BP×xP)},KT H J ks->KT H O xs->KT H (dn O J) (Fg xs ks)
 |_,_,_,_,.nil,h=>h
 |_,_,_,_,.cons (a:=p) (b:=q) e r,h=>by
  have:=KT.put h p.1 e.2.1 e.2.2;rw[show lQ _ p.1 q.2.1 q.2.2=lQ _ q.1 q.2.1 q.2.2 by rw[e.1]]at this;have U:=rB r this;exact U
def sB:∀(O J:List (List Key×V)),(dn J O).length<=J.length+O.length
 |[],J=>xa _
 |q::r,J=>by
  have U:=sB r (lc J q.1 q.2);have Y:=Eo J q.1 q.2;show(dn (lc J q.1 q.2) r).length<=J.length+(r.length+1);lia
def uB{c0:L2.St}(I:Inv X j0 c0 H s):∀{O:List V}{U:List (List Key×V)}{J:List xP},vk X.K H O U->Qa O J->
  ∃ks:List (List Key×BP×xP),KT H U ks/\J.length=ks.length/\∀(j:Nat)u,J[j]?=wP u->∃t q,u=.ref t/\ks[j]?=wP q/\s.heap.IsTuple t #[.ref q.2.1,q.2.2]/\(tQ (ge X.prog X.w)).is s.heap q.1 q.2.1
 |_,_,_,.nil,.nil=>⟨[],.nil,rfl,by(intros;simp_all)⟩
 |_,_,_,.cons (b:=b) (q:=q) h Y r,.cons d0 e0=>by
  refine ea7 ?_ (uB I r e0);rintro ks k1 k2 k3;refine ea7 ?_ (I.tuple h);rintro J f0⟨o,g0,a0⟩_;refine ea0 ?_ (zo f0);rintro l0 b0 rfl h0 i0;cases d0;cases h0;refine⟨(q.1,b,b0)::ks,.cons ⟨rfl,Y,i0⟩ k1,by simp[k2],λj u e=>?_⟩;cases j with
  |zero=>
   cases e;exact nx3 _ (q.1,b,b0) rfl rfl ⟨o,g0,a0.1,a0.2⟩ (Fo I.za Y)
  |succ j=>exact k3 j u (by simpa using e)
def vB{X:Cx}{K:W.Frag}(q0:X.A.units+16<MP)(a0:X.K=K)(b0:X.calm=CP):Cf X (.type "dict") (λxs H Q=>∃(a:BP)(O:List V)(J:List (List Key×V)),xs=[V.ref a]/\H a=wP (.lst O)/\vk K H O J/\J.length<1000000/\∀p,H p=yP->Q (.ref p) (upd H p (.dT (dn [] J)))):=by
 subst a0;intro r0 s s0 H xs us Q I r h;revert h;refine eaF ?_;rintro a O J rfl c0 d0 hz q;obtain⟨u,rfl,e0⟩:=gg r;cases e0;refine ea7 ?_ (I.list (ia.of c0));rintro U f0 pl _;refine ea7 ?_ (uB I d0 f0);rintro ks k1 k2 k3;refine qB (knd:=tQ (ge X.prog X.w)) (λf k=>by revert f;refine ea4 ?_;rintro g0 U n h0 i0 Y j0;exact nx1 g0 U n (k _ _ _ _ h0 Y) i0 Y j0) (show X.A.units+2<MP by lia) b0 I pl k2 (by rw[<-dm k1];exact hz) k3 λh t0 kp dd=>?_
 obtain⟨o,es,ep,l0,m0,n0,o0,_,p0⟩:=dd;exact⟨.ref _,_,I.laid (o:=.dT (dn [] J)) kp (xa _) (⟨Nb (sB J []) (by simp only[Yk,yj];exact Nb (sj hz) (by decide)),rm.mpr (Dc (Ab I.big)),nx9 _ ((rB k1 .nil).keeps λb ys e=>by rw[oa (Ab (I.za b _ e).lt)];exact e) o (nx19 es ep l0 m0 n0 o0 p0)⟩),rfl,q _ (I.za.fresh (xa _))⟩
def Jj{A:LP}(h:A.units+64<MP):A.units+16<MP:=by lia
section
variable{prog:HP}{w:KP}{A:LP}
def wB(kf:Nat->Int)(us:List xP)(j:Nat)(xs:Array xP):Prop:=(j=0/\xs=#[])\/∃i v t,xs=#[v,Value.int (kf i) t]/\us[i]?=wP v/\i<j/\∀J,J<j->kf i<=kf J/\(J<i->kf i<kf J)
def xB(kf:Nat->Int)(us:List xP)(v:xP):Prop:=(us=[]/\v=.none)\/∃i,us[i]?=wP v/\∀j,j<us.length->kf i<=kf j/\(j<i->kf i<kf j)
def UJ{R:TR->zP->Prop}{I S l:BP}{us:List xP}(kf:Nat->Int)(s₀:zP)(D0:A.handled=yP)(F0:l≠I)(m0:S≠I)(G0:S≠l)(I0:s₀.heap.objs.size<=I)(J0:s₀.heap.objs.size<=S)
  (turn:∀(j:Nat)(u:xP)(h:NP)(b0:Nat)(v0:xP->zP->Prop)(K0:xP->zP->Prop),us[j]?=wP u->(∀b o,s₀.heap.get? b=wP o->h.get? b=wP o)->
   (∀J t,v0 (.int (kf j) t) {s₀ with heap:=h,toks:=J})->wpAny (FP prog w) A.in1 (call (.builtin "len") [u]) v0 K0 {s₀ with heap:=h,toks:=b0})
  (w0:∀v h' b0,xB kf us v->(∀b o,s₀.heap.get? b=wP o->h'.get? b=wP o)->R (.ok (.ret v)) {s₀ with heap:=h',toks:=b0}):
  ∀(k j:Nat)(h:NP)(b0:Nat)(xs:Array xP)(c:Nat),us.length-j=k->j<=us.length->h.IsListIter I l j->h.IsList l us.toArray->wB kf us j xs->
   h.get? S=wP {cls:=.type "list",dict:=yP,data:=.seq xs c,slots:=#[]}->(∀b o,s₀.heap.get? b=wP o->h.get? b=wP o)->
   codeAny (FP prog w) A (.builtin "min.loop" ⟨[.ref I,.builtin "len",.ref S],[("default",.none)]⟩) R {s₀ with heap:=h,toks:=b0}:=by
 have W:=Walks.list (prog:=prog) (w:=w) (A:=A.in1) D0 I l F0 us.toArray;have un:(toString "min"++toString ".loop":String)="min.loop":=by decide
 have x0:us.toArray.size=us.length:=by simp
 have n0:∀b o,s₀.heap.get? b=wP o->b≠I:=λb o e=>Ab (Vd (Xa e) I0)
 have L0:∀b o,s₀.heap.get? b=wP o->b≠S:=λb o e=>Ab (Vd (Xa e) J0)
 intro k;induction k with
 |zero=>
  intro j h b0 xs c M0 N0 y0 i0 o0 e0 keep;have X0:j=us.length:=by lia
  refine Og F.entry_min_loop ?_;rw[Hi Nh _];show wpAny _ A.in1 (fR (.ref S)>>=_) _ _ _;refine ba (qg e0 rfl ?_);rcases o0 with⟨rfl,rfl⟩|⟨i,v,t,rfl,c0,hi,p0⟩
  ·refine ba (Lh (W.done _ _ _ ⟨by simp_all,i0⟩ λh' J O=>?_));have O0:us=[]:=by grind
   refine ba (Ye (ca ?_));exact w0 .none h' J (.inl ⟨O0,rfl⟩) (by grind)
  ·refine ba (Lh (W.done _ _ _ ⟨by simp_all,i0⟩ λh' J O=>?_));have Y:=O S _ (by grind) e0;refine ba (nl Y rfl (ba (Ii (ca ?_))));exact w0 v _ J (.inr ⟨i,c0,λa0 q0=>by simp_all⟩) λb o e=>(nh _ _ (by grind)).trans (O b o (by simpa using n0 b o e) (keep b o e))
 |succ k z0=>
  intro j h b0 xs c M0 N0 y0 i0 o0 e0 keep;have j0:j<us.length:=by lia
  refine Og F.entry_min_loop ?_;rw[Hi Nh _];show wpAny _ A.in1 (fR (.ref S)>>=_) _ _ _;refine ba (qg e0 rfl ?_);have put:∀(U:NP)(f0:Nat)(ys A0:Array xP)(B0:Nat),U.IsListIter I l (j+1)->U.IsList l us.toArray->wB kf us (j+1) ys->U.get? S=wP {cls:=.type "list",dict:=yP,data:=.seq A0 B0,slots:=#[]}->(∀b o,s₀.heap.get? b=wP o->U.get? b=wP o)->
    codeAny (FP prog w) A (.builtin "min.loop" ⟨[.ref I,.builtin "len",.ref S],[("default",.none)]⟩) R {s₀ with heap:=U.update S (Obj.mapSeq λ_=>ys),toks:=f0}:=by
   intro U f0 ys A0 B0 P0 Q0 R0 S0 T0;have r0:∀b,b≠S->(U.update S (Obj.mapSeq λ_=>ys)).get? b=U.get? b:=λb l0=>nh _ _ (Dc l0)
   obtain⟨s0,U0⟩:∃s0,(U.update S (Obj.mapSeq λ_=>ys)).get? S=wP {cls:=.type "list",dict:=yP,data:=.seq ys s0,slots:=#[]}:=⟨_,zi _ S0 rfl⟩;exact z0 (j+1) _ f0 ys s0 (by lia) j0 (P0.at λo e=>(r0 I (Dc m0)).trans e) (Q0.at λo e=>(r0 l (Dc G0)).trans e) R0 U0 λb o e=>(r0 b (L0 b o e)).trans (T0 b o e)
  have C0:h.IsListIter I l j/\h.IsList l us.toArray:=⟨y0,i0⟩;rcases o0 with⟨rfl,rfl⟩|⟨i,V0,t0,rfl,W0,hi,p0⟩
  ·refine ba (Lh (W.item 0 _ _ _ (by rw[x0];exact j0) C0 λv h' J u0 d0 O=>?_));have c0:us[0]?=wP v:=by simpa using u0
   have Y:=O S _ (by simpa using m0) e0;have g0:∀b o,s₀.heap.get? b=wP o->h'.get? b=wP o:=λb o e=>O b o (by simpa using n0 b o e) (keep b o e)
   show wpAny _ A.in1 (tryCatch (DQ [v] (call (.builtin "len") [v])) _>>=_) _ _ _;refine ba (Lh (Jc (turn 0 v h' J _ _ c0 g0 λf0 h0=>?_)));refine ba (nl Y rfl ?_);rw[un];exact ca ⟨Hf Nh _,put h' f0 _ _ _ d0.1 d0.2 (.inr (nx1 0 v h0 rfl c0 (by lia) λa0 q0=>by
    have e:a0=0:=by lia
    subst e;exact⟨Int.le_refl _,λz=>absurd z (Wj _)⟩)) Y g0⟩
  ·refine ba (Lh (W.item j _ _ _ (by rw[x0];exact j0) C0 λv h' J u0 d0 O=>?_));have c0:us[j]?=wP v:=by simpa using u0
   have Y:=O S _ (by simpa using m0) e0;have g0:∀b o,s₀.heap.get? b=wP o->h'.get? b=wP o:=λb o e=>O b o (by simpa using n0 b o e) (keep b o e)
   show wpAny _ A.in1 (tryCatch (DQ [v] (call (.builtin "len") [v])) _>>=_) _ _ _;refine ba (Lh (Jc (turn j v h' J _ _ c0 g0 λf0 h0=>?_)));show wpAny _ A.in1 (tryCatch (DQ [v,.int (kf j) h0] (richCompare .Lt (.int (kf j) h0) (.int (kf i) t0)>>=_)) _>>=_) _ _ _;refine ba (Lh (Jc (ba (CmpOf.ints_lt (prog:=prog) (w:=w) (A:=A.in1) (P:=λi v=>∃t,v=.int (kf i) t) kf (λi v h=>h) j i _ _ _ _ _ ⟨h0,rfl⟩ ⟨t0,rfl⟩ ?_))));refine ba (Jc (Yl ?_));refine ba (Ii (ca ?_));by_cases l0:kf j<kf i
   ·simp only[l0,decide_true,if_true];refine ba (nl Y rfl (ba (Ii ?_)));rw[un];refine ca ⟨Hf Nh _,put h' _ _ _ _ d0.1 d0.2 (.inr (nx1 j v h0 rfl c0 (by lia) λa0 q0=>?_)) Y g0⟩;by_cases e:a0=j
    ·subst e;exact⟨Int.le_refl _,λz=>absurd z (Wj _)⟩
    ·have:=(p0 a0 (by lia)).1;exact⟨by lia,λ_=>by lia⟩
   ·simp only[l0,decide_false,ph,hf];refine ba (Ii ?_);rw[un];refine ca ⟨Hf Nh _,z0 (j+1) h' _ _ c (by lia) j0 d0.1 d0.2 (.inr (nx1 i V0 t0 rfl W0 (by lia) λa0 q0=>?_)) Y g0⟩;by_cases e:a0=j
    ·subst e;exact⟨by simp_all,λz=>by grind⟩
    ·exact p0 a0 (by lia)
def VJ(a f v:xP):eS "min" ⟨[a],[(Str.ofString "key",f),(Str.ofString "default",v)]⟩:=by unfold eS;exact(by kernel_rfl)
def WJ(kf:Nat->Int)(a0:A.handled=yP)(J:s.heap.IsList l us.toArray)
  (turn:∀(j:Nat)(u:xP)(h:NP)(O:Nat)(Y:xP->zP->Prop)(b0:xP->zP->Prop),us[j]?=wP u->(∀b o,s.heap.get? b=wP o->h.get? b=wP o)->
   (∀c0 t,Y (.int (kf j) t) {s with heap:=h,toks:=c0})->wpAny (FP prog w) A.in1 (call (.builtin "len") [u]) Y b0 {s with heap:=h,toks:=O})
  (d0:∀v h' O,xB kf us v->(∀b o,s.heap.get? b=wP o->h'.get? b=wP o)->Q v {s with heap:=h',toks:=O}):
  wpAny (FP prog w) A (call (.builtin "min") [.ref l] [(Str.ofString "key",.builtin "len"),(Str.ofString "default",.none)]) Q E s:=by
 have un:(toString "min"++toString ".loop":String)="min.loop":=by decide
 refine kmk_tree F.kind_min F.plain_min F.entry_min (VJ _ _ _) ?_;refine ba (VQ (show Builtin.Builtins.bindParams "min" ["key","default"] 0 ⟨[],[(Str.ofString "key",Value.builtin "len"),(Str.ofString "default",Value.none)]⟩=pure [wP (.builtin "len"),wP .none]from rfl) (ba (ca ?_)));have e0:l<s.heap.objs.size:=by obtain⟨_,e,_⟩:=J;exact Xa e
 refine ba (io J (ba (oj ?_ (Tb _))));rw[un];have U:(s.heap.push {cls:=.type "list_iterator",data:=.fields #[.ref l,.int 0 0]}).objs.size=s.heap.objs.size+1:=Zf ..;refine ca ⟨Hf Nh _,UJ (I:=s.heap.objs.size) (l:=l) kf s a0 (Ab e0) (by rw[U];exact Zj (by grind)) (by rw[U];exact Zj (by grind)) (xa _) (by rw[U];exact qi _) turn d0 us.length 0 _ s.toks #[] 0 (by lia) (Tb _) ?_ ?_ (.inl ⟨rfl,rfl⟩) (Hb _ rfl) λb o e=>Ta _ (Ta _ e)⟩
 ·exact⟨_,Ta _ (Hb _ rfl),rfl,rfl⟩
 ·exact(J.push _).push _
end
def yB(K:W.Frag)(H:Hp)(v:V)(n:Nat):Prop:=∃l J,v=.ref l/\ia K H l J/\J.length=n
def XJ(xs:List V)(ls:List Nat)(v:V):Prop:=(xs=[]/\v=.Pa)\/∃(i n:Nat),xs[i]?=wP v/\ls[i]?=wP n/\∀(j m:Nat),ls[j]?=wP m->n<=m/\(j<i->n<m)
inductive YJ(K:W.Frag)(Q:VK)(vs:List V)(H1:Hp):Prop|mk(p xs ls)(_:vs=[V.ref p])(_:ia K H1 p xs)(_:Paired (yB K H1) xs ls)(_:∀v,XJ xs ls v->Q v H1)
def ZJ(K:W.Frag)(t:TA):TE:=λJ H Q=>t J H (YJ K Q)
def aK{X:Cx}{K:W.Frag}{e:UP}{t:TA}{p h0 a0 pos s0 t0:sQ}{b0:Nat}(u0:X.K=K)(v0:X.calm=CP)(w0:Gl X "min")(x0:X.mg "min"=yP)(y0:Gl X "len")(z0:X.mg "len"=yP)(A0:PA X [e] t)
  (B0:cQ pos (JP [e] X.env)=(GP,XP e X.env)::cQ pos (JP [] X.env):=by rfl)(C0:(cQ pos (JP [e] X.env)).any (·.1)=GP:=by rfl):
  PE X (.Call (.Name "min" p) [e] [⟨wP "key",.Name "len" h0,s0⟩,⟨wP "default",.Constant .none b0 a0,t0⟩] pos) (ZJ K t):=by
 constructor;intro i0 s j0 H Q I h;subst u0;refine Di (Sg I w0 x0 boot_min ?_ (by decide) (by decide));refine callWith_kw (Aa (A0 pos i0 s j0 H _ I h) ?_) B0 C0;rintro us s1⟨vs,J,l0,D0,q1⟩;obtain⟨pl,xs,ls,rfl,F0,m0,q⟩:=q1;refine ea1 ?_ (gg D0);rintro u rfl G0;cases G0;show wpAny _ _ (evalAll ((do let v<-XP (.Name "len" h0) X.env;tR pos;pure v)::[do let v<-XP (.Constant .none b0 a0) X.env;tR pos;pure v])) _ _ s1;refine kR (ba (Sg l0 y0 z0 Cd (ba (Dn (ca ?_))) (by decide) (by decide)));refine kR (ba (Aa (PE.run (Pe (j:=b0) (pos:=a0)) i0 _ j0 J (λv n0=>v=V.Pa/\J=n0) (l0.tok _) ⟨rfl,rfl⟩) ?_));rintro u V0⟨x,n0,O,c0,ex,I0⟩;refine ba (Dn (ca ?_));subst ex I0;cases c0;refine wpAny_evalAll_nil ?_;show wpAny _ _ (call (.builtin "min") [.ref pl] [(Str.ofString "key",.builtin "len"),(Str.ofString "default",.none)]) _ _ _;refine ea7 ?_ (O.list F0);rintro d0 e0 J0 _;have K0:d0.length=ls.length:=by rw[<-e0.length,qb m0]
 have hint:∀(j:Nat)(u:xP),d0[j]?=wP u->∃l U n,xs[j]?=wP (.ref l)/\u=.ref l/\ia X.K J l U/\U.length=n/\ls[j]?=wP n:=λj u e=>by
  refine ea1 ?_ (Rf e0 e);rintro x ex c0;obtain⟨n,W0,l,U,rfl,X0,Y0⟩:=Wb m0 ex;cases c0;exact(by grind)
 have f0:∀{j:Nat}{n:Nat},ls[j]?=wP n->ls.getD j 0=n:=by(intros;simp_all)
 refine WJ (us:=d0) (λj=>((ls.getD j 0:Nat):Int)) (O.ok.hd v0) J0.isList (λj u h g0 Z0 a1 L0 M0 N0=>?_) λv b1 c1 O0 k5=>?_
 ·refine eaF ?_ (hint j u L0);rintro l U n o0 rfl p0 q0 Y;have P0:=O.kept (h':=h) (t':=g0) M0;refine ea7 ?_ (P0.list p0);rintro d1 Q0 R0 hz;have S0:=Q0.length;have e1:=uq;have f1:DP=16777216:=ti;refine Calls.call_len_list R0.isList (by simp only[ic]<;>lia) ?_;have:=N0 (g0+1+1) (g0+1);rw[f0 Y,<-q0,S0]at this;rw[ic];exact this
 ·rcases O0 with⟨T0,rfl⟩|⟨i,hi,U0⟩
  ·refine⟨.Pa,J,O.kept k5,rfl,q _ (.inl ⟨?_,rfl⟩)⟩;have:=e0.length;rw[T0]at this;exact el.mp this
  ·refine eaF ?_ (hint i _ hi);rintro l U n o0 rfl p0 q0 Y;refine⟨.ref l,J,O.kept k5,rfl,q _ (.inr (nx5 i n o0 Y λj m r0=>?_))⟩;have:=U0 j (by rw[K0];exact(Zb.mp r0).1);simp only[f0 r0,f0 Y]at this;exact(by simp_all)
open PySem.W PySem.SeqAt
abbrev Tk:=Int×Int×Int
def IsT(h:NP)(k:Tk)(v:xP):Prop:=∃(a:BP)(o:dQ)(n:Nat)(J O t3:Tok),v=.ref a/\h.get? a=wP o/\o.cls=.type "tuple"/\o.data=.seq #[.int k.1 J,.int k.2.1 O,.int k.2.2 t3] n
def IsT.keep(x:IsT h k v)(kp:Tq h h'):IsT h' k v:=by obtain⟨a,o,n,U,Y,t3,e,a0,J,O⟩:=x;exact nx15 a o n U Y t3 e (kp a o _ n a0 J O) J O
def Jl(H:Hp)(v:V)(k:Tk):Prop:=∃p,v=.ref p/\H p=wP (.tup [.int k.1,.int k.2.1,.int k.2.2])
section
variable{X:Cx}{pins:List (BP×dQ)}{σ:L2.St}{H:Hp}{s:zP}
def AB(I:Inv X pins σ H s)(h:Jl H v k)(r:Ka v u):IsT s.heap k u:=by
 obtain⟨p,rfl,e⟩:=h;obtain rfl:u=Value.ref p:=r;obtain⟨f0,O,⟨o,U,Y,c,a0⟩,_⟩:=I.tuple (Ba.of e);cases O with
 |cons b0 t=>
  cases t with
  |cons c0 J=>
   cases J with
   |cons d0 t3=>
    cases t3;obtain⟨e0,rfl⟩:=b0;obtain⟨J,rfl⟩:=c0;obtain⟨t3,rfl⟩:=d0;exact nx15 p o c e0 J t3 rfl U Y a0
def bK(n0:X.A.units+64<MP):Cc X (YP .NotEq) (λx y H Q=>∃a b J,x=.ref a/\y=.ref b/\Rd H a (.dK J)/\Rd H b (.dK [])/\Q (.bl (!J.isEmpty)) H):=by
 intro pins s σ H x y v u Q I f0 g0 h;revert h;refine eaF ?_;rintro a b J rfl rfl h0 i0 q;cases f0;cases g0;refine ebF ?_ (Ej I.za h0);rintro _ U Y a0 b0;refine ebF ?_ (Ej I.za i0);rintro _ c0 j0 l0 d0;have e0:j0.length=0:=by rw[<-l0.length];rfl
 cases J with
 |nil=>
  have O:Y.length=0:=by rw[<-a0.length];rfl
  have m0:=el.mp O;subst m0;refine W.keq_ne U c0 b0 d0 (by grind) (λ_=>Jz (by(intros;simp_all))) ?_;rw[e0];exact⟨.bl GP,H,I,rfl,q⟩
 |cons p r=>
  have O:Y.length=r.length+1:=by rw[<-a0.length];rfl
  refine W.keq_ne (r:=CP) U c0 b0 d0 (by grind) (λz=>by simp_all) ?_;rw[O,e0];exact⟨.bl CP,H,I,rfl,q⟩
def BB{K:W.Frag}(r0:X.A.units+16<MP)(b0:X.K=K):Bl X "list.index" (λx xs H Q=>∃(l:BP)(ns:List Int)(k:Int),x=.ref l/\xs=[V.int k]/\ia K H l (ns.map V.int)/\ns.length<=1000/\k∈ns/\Q (.int ((ns.idxOf k:Nat):Int)) H):=by
 subst b0;intro pins s σ H x xs v us Q I c0 d0 h;obtain⟨l,ns,k,rfl,rfl,e0,Kb,f0,q⟩:=h;cases c0;refine ea1 ?_ (gg d0);rintro u rfl⟨t,rfl⟩;refine ea7 ?_ (I.list e0);rintro J r pl _;refine ea7 ?_ pl.isList;rintro⟨cls,dd,data,g0⟩U h0⟨n,i0⟩;subst h0 i0;have j0:J.length=ns.length:=by rw[<-r.length,pa]
 have l0:=lv.mpr f0;have O:∀(i:Nat)(hi:i<J.length),∃t',J[i]=Value.int (ns[i]'(by simp_all)) t':=λi hi=>by
  refine ea1 ?_ (Rf r (Pd hi));rintro y Y m0;rw[fb,Pd (by lia)]at Y;cases Y;exact m0
 refine jl F.slot_list_index ⟨_,U,rfl⟩ F.entry_list_index (F.args_list_index_2 _ _)
  (list_indexAt l J.toArray n dd g0 (.int k t) (λy=>match y with|.int m _=>decide (m=k)|_=>GP) (ns.idxOf k) (by simpa[j0]using l0) (by lia) ?_ ?_) ⟨U,λy n0=>?_,.int _,H,I.tok _,⟨_,rfl⟩,q⟩
 ·obtain⟨t',e⟩:=O (ns.idxOf k) (by simp_all);rw[List.getElem_toArray,e];exact zb (by simp_all)
 ·intro m o0 a0;have p0:m<J.length:=by simpa using o0
  obtain⟨t',e⟩:=O m p0;rw[List.getElem_toArray,e];refine Wd λz=>?_
  exact absurd a0 (Nat.not_lt.mpr (by
   have:=List.not_of_lt_findIdx a0;simp[z]at this))
 ·obtain⟨i,hi,e⟩:=Tp (by simpa using n0:y∈J);obtain⟨t',q0⟩:=O i hi;rw[q0]at e;subst e;exact HVK.int.eq (by show X.A.units+1+0<MP;lia) ⟨t',rfl⟩ ⟨t,rfl⟩
inductive Gh(x:V)(vs:List V)(H:Hp)(Q:VK):Prop|mk(l:BP)(xs:List V)(i:Int)(y:V)(_:x=.ref l)(_:vs=[.int i,y])(_:H l=wP (.lst xs))(_:0<=i)(_:i<=xs.length)(_:xs.length<DP)(_:∀H',H' l=wP (.lst (xs.take i.toNat++y::xs.drop i.toNat))->(∀b o,b≠l->H b=wP o->H' b=wP o)->Q .Pa H')
def cK:Bo X "list.insert" Gh:=by
 intro pins s σ H x vs v us Q I U Y h;obtain⟨l,xs,i,y,rfl,rfl,O,e0,f0,hz,q⟩:=h;cases U;refine ea0 ?_ (zo Y);rintro g0 u rfl a0 b0;obtain⟨t,rfl⟩:=a0;refine ec3 ?_ (I.pf O);rintro z J n r h0 e;have i0:DP=2^24:=rfl;have fits:¬(!Builtin.List.listFitsIndex i)=CP:=by
  unfold Builtin.List.listFitsIndex;rw[zb (by lia),zb (by lia)];decide
 refine jl F.slot_list_insert ⟨_,e,rfl⟩ F.entry_list_insert (F.args_list_insert_3 _ _ _) (AutoSeq1.list_insert_list_int_val_1 l J.toArray n i t u fits (by rw[ic];grind)) ⟨e,?_⟩;refine⟨.Pa,_,I.Qi (its':=J.take i.toNat++u::J.drop i.toNat) O e ?_ ?_ ?_,rfl,q _ la λb o n e=>by rw[oa n];exact e⟩
 ·have c0:¬i<0:=by simp_all
  have d0:min i.toNat J.toArray.size=i.toNat:=by rw[ic];simp_all
  rw[ma c0,d0];simp;exact gl (by simp_all)
 ·exact Qa.append (r.take _) (.cons b0 (r.drop _))
 ·rw[Ac,Od,Ae,dg];grind
end
mutual
inductive TF(H:Hp):V->QP->List BP->Prop where
 |int(i:Int):TF H (.int i) (.int i) []
 |str(x:Str):TF H (.str x) (.str x) []
 |lst{a:BP}{xs:List V}{ds:List QP}{f:List BP}(h:H a=wP (.lst xs))(r:Ha H xs ds f):TF H (.ref a) (.list ds) (a::f)
 |tup{a:BP}{xs:List V}{ds:List QP}{f:List BP}(h:H a=wP (.tup xs))(r:Ha H xs ds f):TF H (.ref a) (.tuple ds) (a::f)
inductive Ha(H:Hp):List V->List QP->List BP->Prop where
 |nil:Ha H [] [] []
 |cons{x:V}{d:QP}{xs:List V}{ds:List QP}{f g:List BP}(h:TF H x d f)(r:Ha H xs ds g):Ha H (x::xs) (d::ds) (f++g)
end
mutual
def TF.tr{H:Hp}{v:V}{d:QP}{f:List BP}(h:TF H v d f):Tr H v d:=by
 cases h with
 |int i=>exact .int i
 |str x=>exact .str x
 |lst h r=>exact .lst h (Ha.No r)
 |tup h r=>exact .tup h (Ha.No r)
def Ha.No{H:Hp}{vs:List V}{J:List QP}{f:List BP}(h:Ha H vs J f):ib H vs J:=by
 cases h with
 |nil=>exact .nil
 |cons h r=>exact .cons (TF.tr h) (Ha.No r)
end
mutual
def TF.fr{H H':Hp}{v:V}{d:QP}{f:List BP}(h:TF H v d f)(k:∀b∈f,∀o,H b=wP o->H' b=wP o):TF H' v d f:=by
 cases h with
 |int i=>exact .int i
 |str x=>exact .str x
 |lst h r=>exact .lst (k _ Yf _ h) (Ha.fr r λb J=>k b (rh _ J))
 |tup h r=>exact .tup (k _ Yf _ h) (Ha.fr r λb J=>k b (rh _ J))
def Ha.fr{H H':Hp}{vs:List V}{O:List QP}{f:List BP}(h:Ha H vs O f)(k:∀b∈f,∀o,H b=wP o->H' b=wP o):Ha H' vs O f:=by
 cases h with
 |nil=>exact .nil
 |cons h r=>exact .cons (TF.fr h λb J=>k b (qh _ J)) (Ha.fr r λb J=>k b (Ze _ J))
end
mutual
def TF.live{H:Hp}{v:V}{d:QP}{f:List BP}(h:TF H v d f):∀b∈f,(∃xs,H b=wP (.lst xs))\/∃xs,H b=wP (.tup xs):=by
 cases h with
 |int i=>(intros;simp_all)
 |str x=>grind
 |lst h r=>
  intro b J;rcases jb.mp J with z|z
  ·simp_all
  ·exact Ha.live r b z
 |tup h r=>
  intro b J;rcases jb.mp J with z|z
  ·simp_all
  ·exact Ha.live r b z
def Ha.live{H:Hp}{vs:List V}{J:List QP}{f:List BP}(h:Ha H vs J f):∀b∈f,(∃xs,H b=wP (.lst xs))\/∃xs,H b=wP (.tup xs):=by
 cases h with
 |nil=>grind
 |cons h r=>
  intro b O;rcases Xb.mp O with z|z
  ·exact TF.live h b z
  ·exact Ha.live r b z
end
def TF.same(s:aa H H')(h:TF H v d f):TF H' v d f:=h.fr λb _ o e=>s b o e
def Ha.same(s:aa H H')(h:Ha H vs J f):Ha H' vs J f:=h.fr λb _ o e=>s b o e
def TF.not(h:TF H v d f)(e:H b=yP):b∉f:=λJ=>by
 rcases h.live b J with⟨xs,q⟩|⟨xs,q⟩<;>rw[e]at q<;>cases q
def Ha.not(h:Ha H vs O f)(e:H b=yP):b∉f:=λJ=>by
 rcases h.live b J with⟨xs,q⟩|⟨xs,q⟩<;>rw[e]at q<;>cases q
def Ha.app:∀{vs us:List V}{J es:List QP}{f g:List BP},Ha H vs J f->Ha H us es g->Ha H (vs++us) (J++es) (f++g)
 |_,_,_,_,_,_,.nil,r=>r
 |_,_,_,_,_,_,.cons h q,r=>by
  rw[ke];exact .cons h (Ha.app q r)
def Ha.one(h:TF H v d f):Ha H [v] [d] f:=by
 have:=Ha.cons h .nil
 simp_all
def Ha.ints:∀ns:List Int,Ha H (ns.map V.int) (ns.map PyData.int) []
 |[]=>.nil
 |n::r=>Ha.cons (.int n) (Ha.ints r)
def Ha.ints_of:∀{vs:List V}{ns:List Int}{f:List BP},Ha H vs (ns.map PyData.int) f->vs=ns.map V.int/\f=[]
 |_,[],_,.nil=>⟨rfl,rfl⟩
 |_,n::r,_,.cons h q=>by
  cases h;obtain⟨e,J⟩:=Ha.ints_of q
  simp_all
def Ha.len(h:Ha H vs J f):vs.length=J.length:=h.No.len
def Ha.focus:∀{vs:List V}{J:List QP}{f:List BP},Ha H vs J f->∀{i:Nat}{d:QP},J[i]?=wP d->∃x O b0 U,vs[i]?=wP x/\f=O++(b0++U)/\TF H x d b0/\
  ∀H' Y d' a0,(∀b∈O++U,∀o,H b=wP o->H' b=wP o)->TF H' Y d' a0->Ha H' (vs.set i Y) (J.set i d') (O++(a0++U)):=by
 intro vs;induction vs with
 |nil=>intro J f h i d e;cases h;cases e
 |cons x vs d0=>
  intro J f h i d e;cases h with
  |@cons _ _ _ _ f g h r=>
  cases i with
  |zero=>
   cases e;exact⟨x,[],f,g,rfl,rfl,h,λH' Y d' a0 k t=>(Ha.cons t (r.fr λb c0=>k b c0):Ha H' (Y::_) (d'::_) (a0++g))⟩
  |succ i=>
  obtain⟨y,O,b0,U,e0,f0,g0,h0⟩:=d0 r (by simpa using e);refine⟨y,f++O,b0,U,by simpa using e0,by rw[f0,ke],g0,λH' Y d' a0 k t=>?_⟩;rw[ke];exact .cons (h.fr λb c0=>k b (by grind)) (by grind)
def Ha.bb{α:Type}:∀{xs:List α}{i:Nat}{x:α},xs[i]?=wP x->xs.set i x=xs
 |[],_,_,h=>by cases h
 |y::r,0,x,h=>by cases h;rfl
 |y::r,i+1,x,h=>by
  show y::r.set i x=_;rw[Ha.bb (by simpa using h)]
def Xq{α:Type}{a b c:List α}:(a++(b++c)).Nodup↔(a++c).Nodup/\b.Nodup/\∀x∈b,x∉a/\x∉c:=by
 rw[Ai,Ai,Ai];constructor
 ·rintro⟨Y,⟨a0,b0,c0⟩,O⟩;exact⟨⟨Y,b0,λx J y U=>O x J y (Ze _ U)⟩,a0,λx J=>⟨λz=>O x z x (qh _ J) rfl,λz=>c0 x J x z rfl⟩⟩
 ·rintro⟨⟨Y,a0,b0⟩,c0,O⟩;refine⟨Y,⟨c0,a0,λx J y U e=>(O x J).2 (e▸U)⟩,λx J y U e=>?_⟩;rcases Xb.mp U with z|z
  ·exact(O y z).1 (e▸J)
  ·exact b0 x J y z e
def Hj{α:Type}{a b:List α}:(a++b).Nodup↔a.Nodup/\b.Nodup/\∀x∈b,x∉a:=by
 grind
def DB{α:Type}{m0 fs:L2.St}{K:W.Frag}(as:List α)(Y:α->List BP)(n0:α->QP)(g0:α->QP)(x0:m0=List.replicate k yP++fs)(h0:J l=wP (.lst xs))(o0:ib J xs (as.map n0))(hz:as.length<=DP)
  (y0:as.Pairwise λa c=>∀b∈Y c,b∉Y a)(P0:∀a∈as,∀b∈Y a,∃o,J b=wP o)
  (step:∀a,a∈as->∀H(a0:L2.St)v(R:Option V->L2.St->Hp->Prop),aa J H->a0.length=k->Tr H v (n0 a)->(∀y f(b0:L2.St)U,b0.length=k->aa H U->TF U y (g0 a) f->f.Nodup->(∀b∈f,H b=yP\/b∈Y a)->R (wP y) (b0++fs) U)->
   g v (a0++fs) H λc0 z0=>A0 c0 z0 λok U=>if ok=CP then B0 c0 U λy C0=>R (wP y) c0 C0 else R yP c0 U)
  (fin:∀D H' ys f,J D=yP->aa J H'->H' D=wP (.lst ys)->Ha H' ys (as.map g0) f->f.Nodup->(∀b∈f,J b=yP\/∃a∈as,b∈Y a)->D∉f->Q (.ref D) H'):Yh m0 (Vg K l) g A0 B0 Q J:=by
 have Q0:xs.length=as.length:=by rw[o0.len,pa]
 refine Vm as.length (λD i ys H=>J D=yP/\ys.length<=i/\∃f,Ha H ys ((as.take i).map g0) f/\f.Nodup/\(∀b∈f,J b=yP\/∃a∈as.take i,b∈Y a)/\D∉f) x0 hz (λi H O hi=>(Ve (ia.of (O _ _ h0))).go i (by lia)) (λH O=>(Ve (ia.of (O _ _ h0))).stop _ (by lia)) (λ_ _ _ _ h=>h.2.1) (λD d0=>⟨d0,xa _,[],.nil,.nil,(by(intros;simp_all)),(by simp_all)⟩) ?_ ?_
 ·rintro D i H ys a0 v H' R D0;refine ea3 ?_;rintro d0 R0;refine eb2 ?_;rintro f e0 p0 i0 F0 O j0 G0⟨rfl,I0⟩k1 k2;refine ea1 ?_ (o0.get (I0 xs (ia.of (O _ _ h0))));rintro d q0 tr;have r0:=Pd j0;rw[fb,r0]at q0;cases q0;refine step as[i] (List.getElem_mem j0) H' a0 v R O G0 (tr.same O) λy s0 b0 U J0 t0 K0 L0 u0=>?_
  have v0:as.take (i+1)=as.take i++[as[i]]:=by rw[qc,r0];rfl
  have S0:D∉s0:=λz=>by
   grind
  refine k1 y b0 U J0 t0 ⟨d0,(by grind),f++s0,?_,Hj.mpr ⟨p0,L0,λx M0 z=>?_⟩,λb f0=>?_,λf0=>?_⟩
  ·rw[v0,Le];refine(e0.fr λb f0 o l0=>?_).app (Ha.one (K0.fr λb f0 o l0=>?_))
   ·rw[oa (by grind)];exact t0 _ _ l0
   ·rw[oa (by grind)];exact l0
  ·rcases u0 x M0 with q|q
   ·exact e0.not q z
   ·rcases i0 x z with q2|⟨a,N0,q2⟩
    ·grind
    ·obtain⟨j,O0,w0⟩:=List.mem_iff_getElem.mp N0;rw[Ae]at O0;rw[Pp]at w0;have:=Tj.mp y0 j i (by grind) j0 (by lia) x q;rw[w0]at this;exact this q2
  ·rw[v0];rcases Xb.mp f0 with z|z
   ·grind
   ·rcases u0 b z with q|q
    ·exact .inl (O.free q)
    grind
  grind
 ·rintro D H' ys d0 O D0⟨_,_,f,e0,p0,i0,F0⟩;rw[Ic]at e0 i0
  grind
structure Ut(K:W.Frag)(x qual:Str)(st:hQ)(f:BP)(fd:aQ):Prop where
 ex:∃(oc:xP)(od:Option BP)(dV kV doc pm:xP)(an:Option BP)(Gq ct:xP)(aw:Array (Option xP)),
  fd=W.fnOf x qual (Qf st) (Te st) (mc st) dV kV doc pm an Gq ct/\K.lookup f=wP ⟨oc,od,.func fd,aw⟩/\W.codeIn K Gq qual=CP
 kp:W.keepIn K (.ref f)=CP
section
variable{P:HP}{w:KP}{K:W.Frag}{mg:Str->Option xP}{base:NP}
def Vt{x O:Str}{st:hQ}{f:BP}{fd:aQ}{N U:List Str}{k:Nat}{sp:Sp}(F:Ut K x O st f fd)(S:Hm N U (mc st))(len:∀vs H Q E,sp vs H Q E->vs.length=U.length)
  (Y:∀(J:xP)(A:LP)(outer:List xR)(s:zP)(H:Hp)(vs:List V)(Q:VK)(E:XK),Wa k (A.deeper (gQ O (mc st) s.heap.objs.size f J))->sp vs H Q E->
   ∃t,De (Yd (ae P w) P w K mg base N O (mc st) f J A outer s H E) (Te st) t/\t {nx:=λ_ H'=>Q .Pa H',rt:=Q} (start N vs) H):uc P w K mg base (ae P w) (k+1) f fd U sp:=by
 obtain⟨d0,e0,f0,kV,g0,h0,i0,J,ct,j0,rfl,lk,a0⟩:=F.ex;exact Rv lk a0 S len λA outer s H vs Q E b0 c0=>Y J A outer s H vs Q E b0 c0
def eK{st:hQ}{U kV Y a0 J ct:xP}(l:K.lookup f=wP ⟨c0,d0,.func (W.fnOf x O (Qf st) (Te st) (mc st) U kV Y a0 b0 J ct),e0⟩)
  (c:W.codeIn K J O=CP)(k:W.keepIn K (.ref f)=CP):Ut K x O st f (W.fnOf x O (Qf st) (Te st) (mc st) U kV Y a0 b0 J ct):=⟨by grind,k⟩
def EB(J:fd.defaults=.ref T)(O:K.lookup T=wP o)(U:o.data=.seq items n)(X:K.In s.heap)
  (h:∃k:Option (Array xP)->SR (List (Str×xP)),wR fd args=(fR fd.defaults>>=k)/\k (wP items)=pure binds):iR s fd args binds:=by
 obtain⟨k,Y,a0⟩:=h;exact BindsTo.of_defaults J (X _ _ O) U Y a0
end
def Yq(O:∀Q:Bool->Hp->Prop,(∀H',aa H H'->Q b H')->c J H Q)(U:∀H',aa H H'->if b=CP then t D J H' else u D J H'):Ec c t u D J H:=O _ U
def Kl{n:Nat}(z:Int)(a0:xs.length=n)(b0:0<n):(z%(n:Int)).toNat<n/\∃v,xs[(z%(n:Int)).toNat]?=wP v/\Bd xs (z%(n:Int))=wP v:=by
 have J:=Qh z (show(n:Int)≠0 by lia);have O:=Ph z (show(0:Int)<n by simp_all);obtain⟨j,U⟩:=Int.eq_ofNat_of_zero_le J;rw[U]at O⊢;have Y:j<xs.length:=by simp_all
 refine⟨by simpa using(by simp_all:j<n),xs[j],?_,Pf (by simp)⟩;exact Pd Y
def HB{ns:List Int}(z:Int)(J:ns.length=n)(O:0<n):Bd (ns.map V.int) (z%(n:Int))=wP (.int (ns.getD (z%(n:Int)).toNat 0))/\ns.getD (z%(n:Int)).toNat 0∈ns:=by
 refine eb5 ?_ (Kl z J O);rintro _ v e _;have g:ns.getD (z%(n:Int)).toNat 0=v:=by rw[Qj,e];rfl
 rw[g];refine⟨?_,by grind⟩;have U:=Qh z (show(n:Int)≠0 by lia);have:=Pf (xs:=ns.map V.int) (by rw[fb,e];rfl);rwa[Int.toNat_of_nonneg U]at this
def fK(z:Int)(U:0<n):hg n (z%(n:Int))=wP (z%(n:Int)).toNat:=by
 have J:=Qh z (show(n:Int)≠0 by lia);have O:=Ph z (show(0:Int)<n by lia);unfold hg;rw[wa J,wa O]
def gK{α:Type}{x y:List α}{a b:α}(h:(x++a::y).Nodup)(J:b∉x++y):(x++b::y).Nodup:=by
 grind
def IB{α β:Type}(f:α->β):∀(l:List α)(j:Nat),(l.map f).eraseIdx j=(l.eraseIdx j).map f
 |[],_=>rfl
 |_::_,0=>rfl
 |x::r,j+1=>by
  show f x::(r.map f).eraseIdx j=f x::(r.eraseIdx j).map f;rw[IB f r j]
def df{α:Type}{xs:List α}{d:α}(h:i<xs.length):xs[i]?=wP (xs.getD i d):=by
 simp_all
def JB(h:TF H (.ref D) (.list O) f):∃J g,f=D::g/\H D=wP (.lst J)/\Ha H J O g:=by
 cases h with
 |lst h r=>exact nx5 _ _ rfl h r
def V.Na(h:V.int a=V.int b):a=b:=by injection h
section
variable{X:Cx}
def LB{k:Nat}{e0:BP}{fd:aQ}{f0:List Str}{sp:Sp}{fn:Str}{U:UP}{as:List UP}{t:TA}{g0 b0 h0:sQ}{Y:List (BP×dQ)}{O:L2.St}{H:Hp}{s:zP}{i0:VK}{j0:XK}{R:Flow->zP->Prop}{l0:xP->zP->Prop}
  (F:uc X.prog X.w X.K X.mg X.base (ae X.prog X.w) k e0 fd f0 sp)(o0:Wa k X.A)(p0:Gl X fn)(q0:X.mg fn=wP (.ref e0))(r0:W.keepIn X.K (.ref e0)=CP)(s0:Td X.K fd f0 [])
  (t0:PA X.Tg (U::as) t)(I:Inv X Y O H s)(h:t O H λvs J=>sp vs J i0 j0)
  (u0:∀v c0 s',Inv X Y O c0 s'->i0 v c0->R .next s')(v0:∀J s1 e s',Inv X Y O J s1->ae X.prog X.w X.stack J s1 j0 e s'->l0 e s')
  (w0:(fn==("__debug__":Str))=GP:=by decide)(x0:JP (U::as) X.env=(GP,XP U X.env)::JP as X.env:=by rfl)(y0:(cQ b0 (JP as X.env)).any (·.1)=GP:=by rfl)
  (z0:uQ (.Call (.Name fn g0) (U::as) [] b0) yP h0.line X.env=pure GP:=by rfl):
  wpAny (FP X.prog X.w) X.A (execs [.Expr (.Call (.Name fn g0) (U::as) [] b0) h0] X.env) R l0 s:=by
 refine Rp (wpAny_Expr_any (Di (vm I p0 q0 ?_ w0)) I.quiet z0);refine W.callWith_K (h₀:=X.base) I.ok.mod.ko r0 (Pc (t0 b0 Y s O H _ (I.Wc _) h) (?_) λ_ _ z=>z.elim) x0 y0;rintro us s1⟨vs,J,m0,r,q⟩;refine⟨m0.Gd,?_⟩;have d0:Inv X Y O J s1:=m0.Va;have C0:us.length=f0.length:=by rw[<-r.length];exact F.len _ _ _ _ q
 have n0:=s0 s1 us d0.Gd (by simp_all);rw[z1m]at n0;refine HQ (kl (F.run X.A X.stack s1 J ⟨us,[]⟩ us vs _ _ o0 d0.mf n0 r q) λres s' a0=>?_);cases res with
 |ok A0=>
  cases A0 with
  |ret u=>
   obtain⟨v,c0,B0,D0,q2⟩:=d0.after a0;exact Xj (u0 v c0 _ B0 q2)
  |next=>exact False.elim a0
  |brk=>exact False.elim a0
  |cont=>exact False.elim a0
 |error e=>exact v0 J s1 e s' d0 a0
end
def KN(H H':Hp):Prop:=∀b o,(∀xs,o≠HO.lst xs)->H b=wP o->H' b=wP o
def KN.of(s:aa H H'):KN H H':=λb o _ e=>s b o e
def KN.trans(a:KN A B)(b:KN B C):KN A C:=λx o n e=>b x o n (a x o n e)
def KN.but(h:H D=wP (.lst ys))(k:∀b o,b≠D->H b=wP o->H' b=wP o):KN H H':=λb o n e=>k b o (λz=>by grind) e
def KN.upd(h:H D=wP (.lst ys)):KN H (upd H D o):=KN.but h λb o n e=>by rw[oa n];exact e
def MB:∀{xs:List α}{bs:List β}{x:α}{b:β},Paired F xs bs->F x b->Paired F (xs++[x]) (bs++[b]):=by
 intro _ _ _ _ h q;induction h with
 |nil=>exact .cons q .nil
 |cons r t J=>exact .cons r J
def NB{f0 fs:L2.St}(G:Hp->V->β->Prop)(g0:Nat->Hp->V->Prop)(n:Nat)(f:Nat->Option β)(c0:∀H H' y b,KN H H'->G H y b->G H' y b)(l0:f0=List.replicate k yP++fs)(hz:n<=DP)
  (m0:∀i H,aa U H->i<n->d0.go i H)(n0:∀H,aa U H->d0.stop n H)(o0:∀i H v H',aa U H->i<n->d0.Nf i H v H'->H'=H/\g0 i H v)
  (step:∀i,i<n->∀H(a0:L2.St)v(R:Option V->L2.St->Hp->Prop),aa U H->a0.length=k->g0 i H v->(∀b y(O:L2.St)J,f i=wP b->O.length=k->aa H J->G J y b->R (wP y) (O++fs) J)->(f i=yP->∀(O:L2.St)J,O.length=k->aa H J->R yP (O++fs) J)->
   g v (a0++fs) H λb0 p0=>q0 b0 p0 λok J=>if ok=CP then r0 b0 J λy s0=>R (wP y) b0 s0 else R yP b0 J)
  (fin:∀D H' ys,U D=yP->aa U H'->H' D=wP (.lst ys)->Paired (G H') ys ((List.range n).filterMap f)->Q (.ref D) H'):Yh f0 d0 g q0 r0 Q U:=by
 refine Vm n (λ_ i ys H=>Paired (G H) ys ((List.range i).filterMap f)) l0 hz m0 n0 (λ_ i _ _ p=>qb p▸gA f i) (λ_ _=>.nil) (λD i H ys a0 v H' R t0 h0 i0 hi u0 y a b=>?_) fin;obtain⟨rfl,v0⟩:=o0 i H v H' i0 hi y;refine step i hi H' a0 v R i0 u0 v0 (λc y O J q e0 Y w0=>a y O J e0 Y ?_) λq O J e0 Y=>b O J e0 Y ?_
 ·have j0:KN J (upd J D (.lst (ys++[y]))):=KN.upd (Y _ _ t0);rw[show(List.range (i+1)).filterMap f=(List.range i).filterMap f++[c]by simp[Ei,q]];exact MB (Paired.Ib h0 λ_ _ z=>c0 _ _ _ _ ((KN.of Y).trans j0) z) (c0 _ _ _ _ j0 w0)
 ·rw[show(List.range (i+1)).filterMap f=(List.range i).filterMap f by simp[Ei,q]];exact Paired.Ib h0 λ_ _ z=>c0 _ _ _ _ (KN.of Y) z
def aj{d0 fs:L2.St}{K:W.Frag}(G:Hp->V->β->Prop)(F:Hp->V->α->Prop)(as:List α)(f:α->Option β)(h0:∀H H' y b,KN H H'->G H y b->G H' y b)(t0:∀H H' y b,aa H H'->F H y b->F H' y b)(i0:d0=List.replicate k yP++fs)
  (c0:U l=wP (.lst xs))(e0:Paired (F U) xs as)(hz:as.length<=DP)
  (step:∀a,a∈as->∀H(a0:L2.St)v(R:Option V->L2.St->Hp->Prop),aa U H->a0.length=k->F H v a->(∀b y(Y:L2.St)J,f a=wP b->Y.length=k->aa H J->G J y b->R (wP y) (Y++fs) J)->(f a=yP->∀(Y:L2.St)J,Y.length=k->aa H J->R yP (Y++fs) J)->
   g v (a0++fs) H λb0 j0=>l0 b0 j0 λok J=>if ok=CP then m0 b0 J λy n0=>R (wP y) b0 n0 else R yP b0 J)
  (fin:∀D H' ys,U D=yP->aa U H'->H' D=wP (.lst ys)->Paired (G H') ys (as.filterMap f)->Q (.ref D) H'):Yh d0 (Vg K l) g l0 m0 Q U:=by
 have u0:=qb e0;refine NB G (λi H v=>∃a,as[i]?=wP a/\F H v a) as.length (λi=>as[i]?.bind f) h0 i0 hz (λi H O hi=>(Ve (ia.of (O _ _ c0))).go i (by lia)) (λH O=>(Ve (ia.of (O _ _ c0))).stop _ (by lia)) ?_ ?_ λD H' ys o0 O p0 f0=>fin D H' ys o0 O p0 (by rw[RA]at f0;exact f0)
 ·rintro i H v H' O hi⟨rfl,q0⟩;have e:=q0 xs (ia.of (O _ _ c0));obtain⟨a,r0,g0⟩:=Wb e0 e
  grind
 ·rintro i hi H a0 v R O s0;refine ea1 ?_;rintro a r0 g0 v0 w0;refine step a (by grind) H a0 v R O s0 g0 (by(intros;simp_all)) (by(intros;simp_all))
def hK{b0 fs:L2.St}{lo:Int}(G:Hp->V->β->Prop)(n:Nat)(f:Nat->Option β)(c0:∀H H' y b,KN H H'->G H y b->G H' y b)(d0:b0=List.replicate k yP++fs)(hz:n<=DP)
  (step:∀i,i<n->∀H(U:L2.St)(R:Option V->L2.St->Hp->Prop),aa a0 H->U.length=k->(∀b y(O:L2.St)J,f i=wP b->O.length=k->aa H J->G J y b->R (wP y) (O++fs) J)->(f i=yP->∀(O:L2.St)J,O.length=k->aa H J->R yP (O++fs) J)->
   g (.int (lo+(i:Int))) (U++fs) H λY e0=>f0 Y e0 λok J=>if ok=CP then g0 Y J λy h0=>R (wP y) Y h0 else R yP Y J)
  (fin:∀D H' ys,a0 D=yP->aa a0 H'->H' D=wP (.lst ys)->Paired (G H') ys ((List.range n).filterMap f)->Q (.ref D) H'):Yh b0 (xl lo n) g f0 g0 Q a0:=by
 refine NB G (λi _ v=>v=.int (lo+(i:Int))) n f c0 d0 hz (λi H _ hi=>hi) (λH _=>xa _) ?_ ?_ fin
 ·rintro i H v H' _ _⟨rfl,rfl⟩
  simp_all
 ·rintro i hi H U v R i0 j0 rfl l0 m0;exact step i hi H U R i0 j0 l0 m0
structure Ll(k:Nat)(A:LP):Prop where
 dp:A.depth+3*k+5<ZQ
 un:A.units+16*k+200<MP
def _root_.L2.Wa.m(r:Wa k A):Ll k (A.mark x):=⟨r.dp,r.un⟩
def Ll.units(r:Ll k A):A.units+64<MP:=by have:=r.un;lia
def Ll.depth(r:Ll k A):A.depth<ZQ:=by have:=r.dp;lia
def Ll.deeper(r:Ll (k+1) A)(env:xR):Ll k (A.deeper env):=
 ⟨by have:=r.dp;show A.depth+1+3*k+5<_;lia,by have:=r.un;show A.units+3+16*k+200<_;lia⟩
end My
namespace My
namespace Gs
open PySem PyProof.Rows
structure bj(prog:HP)(w:KP)(A:LP)(E:xP->zP->Prop)(s:zP)where
 κ:SortKind
 gd:OP->Prop
 rk:OP->Int
 lt:∀{st:RP}{p q:OP}{Q:Option Bool->RP->Prop},kindOf st=κ->gd p->gd q->Q (wP (decide (rk p<rk q))) st->UQ (FP prog w) A E s (lt' p q) Q st
section
variable{prog:HP}{w:KP}{s:zP}{A:LP}{E:xP->zP->Prop}{C:bj prog w A E s}
def Kc(C:bj prog w A E s)(xs:Array OP)(i:Nat):Int:=match xs[i]? with
 |some p=>C.rk p
 |none=>0
def gn(h:xs[i]?=ys[j]?):Kc C xs i=Kc C ys j:=by unfold Kc;rw[h]
def OB(Y:J<xs.size)(a0:d<=J)(k:Nat):
  Kc C (bubble xs J d) k=if k=J-d then Kc C xs J else if J-d<k/\k<=J then Kc C xs (k-1)else Kc C xs k:=by
 have e:=getElem?_bubble Y d a0 k;by_cases O:k=J-d
 ·rw[wa O]at e⊢;exact gn e
 ·rw[ma O]at e⊢;by_cases U:J-d<k/\k<=J
  ·rw[wa U]at e⊢;exact gn e
  ·rw[ma U]at e⊢;exact gn e
def Zq(O:j<=xs.size)(k:Nat):
  Kc C (FR xs i j ((j-i)/2)) k=if i<=k/\k<j then Kc C xs (i+j-1-k)else Kc C xs k:=by
 have e:=getElem?_mirror_all (i:=i) O k;by_cases J:i<=k/\k<j
 ·rw[wa J]at e⊢;exact gn e
 ·rw[ma J]at e⊢;exact gn e
abbrev Bw(C:bj prog w A E s)(l:List OP):Prop:=l.Pairwise λx y=>C.rk x<=C.rk y
structure Sb(C:bj prog w A E s)(ja:Array OP)(pd:Array (Nat×Nat×Nat))(lo:Nat)(xs:Array OP)(st:RP):Prop where
 perm:(IP st).Perm ja
 kind:kindOf st=C.κ
 fail:fQ st=yP
 pend:WP st=pd
 low:∀k,k<lo->(IP st)[k]?=xs[k]?
def Cb(C:bj prog w A E s)(xs:Array OP)(lo hi:Nat):Prop:=∀i j,lo<=i->i<=j->j<hi->Kc C xs i<=Kc C xs j
def Nc(C:bj prog w A E s)(xs:Array OP)(lo hi:Nat):Prop:=∀i j,lo<=i->i<=j->j<hi->Kc C xs j<=Kc C xs i
section
variable{ja xs:Array OP}{pd:Array (Nat×Nat×Nat)}{lo:Nat}{st:RP}
def Sb.size(h:Sb C ja pd lo xs st):(IP st).size=ja.size:=h.perm.size_eq
def Sb.set(h:Sb C ja pd lo xs st)(p:ys.Perm (IP st))(l:∀k,k<lo->ys[k]?=(IP st)[k]?):Sb C ja pd lo xs (setArr st ys):=⟨p.trans h.perm,h.kind,h.fail,h.pend,λk J=>(l k J).trans (h.low k J)⟩
def Sb.wk(h:Sb C ja pd lo xs st)(hi:lo<=i)(J:j<=ja.size):Sb C ja pd lo xs (setArr st (FR (IP st) i j ((j-i)/2))):=
 h.set (mirror_perm _ _ _ _) λk O=>by
  rw[getElem?_mirror_all (by rw[h.size];exact J),ma (by lia)]
def Hh(h:Sb C ja pd lo xs st)(J:∀x∈ja.toList,C.gd x)(hi:i<ja.size)(b0:j<ja.size)(q1:Kc C (IP st) i<Kc C (IP st) j->Q (wP CP) st)(q2:¬Kc C (IP st) i<Kc C (IP st) j->Q (wP GP) st):UQ (FP prog w) A E s (ltAt' i j) Q st:=by
 have O:i<(IP st).size:=by rw[h.size];exact hi
 have U:j<(IP st).size:=by rw[h.size];exact b0
 have Y:=zj (IP st) i O;have a0:=zj (IP st) j U;have c0:=J _ ((Qk.mp h.perm).mem_iff.mp (Xp O));have d0:=J _ ((Qk.mp h.perm).mem_iff.mp (Xp U));have k1:Kc C (IP st) i=C.rk (IP st)[i]:=by unfold Kc;rw[Y]
 have k2:Kc C (IP st) j=C.rk (IP st)[j]:=by unfold Kc;rw[a0]
 refine ua (eg ?_);refine ua (be Y (ua (be a0 (C.lt h.kind c0 d0 ?_))))
 lia
def PB(xs:Array OP)(lo:Nat):Cb C xs lo (lo+1):=λi j J O U=>by
 grind
def iK(h:Cb C xs lo hi)(Y:lo<hi)(n:¬Kc C xs hi<Kc C xs (hi-1)):Cb C xs lo (hi+1):=λi j J O a0=>by
 by_cases c:j<hi
 ·exact h i j J O c
 ·have U:j=hi:=by lia
  subst U;by_cases b0:i=j
  ·simp_all
  ·have:=h i (j-1) J (by lia) (by lia);lia
def ar(h:Nc C xs lo hi)(Y:lo<hi)(n:Kc C xs hi<=Kc C xs (hi-1)):Nc C xs lo (hi+1):=λi j J O a0=>by
 by_cases c:j<hi
 ·exact h i j J O c
 ·have U:j=hi:=by lia
  subst U;by_cases b0:i=j
  ·simp_all
  ·have:=h i (j-1) J (by lia) (by lia);lia
def Nc.eq(h:Nc C xs lo hi)(e:∀k,Kc C ys k=Kc C xs k):Nc C ys lo hi:=λi j J O U=>by
 rw[e,e];exact h i j J O U
def ve
  (U:∀x n(R:ForInStep (Option (Option Nat)×Nat)->RP->Prop),a<=n->n<J->(Kc C (IP st) (lo+n)<Kc C (IP st) (lo+n-1)->R (ForInStep.done (yP,n)) st)->(¬Kc C (IP st) (lo+n)<Kc C (IP st) (lo+n-1)->R (ForInStep.yield (yP,n+1)) st)->UQ (FP prog w) A E s (f x (yP,n)) R st)
  (d0:1<=a)(e0:a<=J)(Y:Cb C (IP st) lo (lo+a))(h:∀n,a<=n->n<=J->Cb C (IP st) lo (lo+n)->(n=J\/Kc C (IP st) (lo+n)<Kc C (IP st) (lo+n-1))->Q (yP,n) st):UQ (FP prog w) A E s (forIn [a:J] (yP,a) f) Q st:=by
 refine Je (I:=λx c O=>O=st/\c=(yP,x)/\Cb C (IP st) lo (lo+x)) ?_ ?_ ⟨rfl,rfl,Y⟩
 ·rintro x c O a0 b0;refine ea3 ?_;rintro rfl rfl c0;exact U x x _ a0 b0 (by grind) λz=>⟨rfl,rfl,iK (hi:=lo+x) c0 (by lia) z⟩
 (intros;simp_all)
def tf(e0:∀x∈ja.toList,C.gd x)(n0:lo+n<=ja.size)(o0:1<=n)(p0:ok<=n)(f0:Sb C ja pd lo xs st)(g0:Cb C (IP st) lo (lo+ok))(h:∀J,Sb C ja pd lo xs J->Cb C (IP J) lo (lo+n)->Q CP J):UQ (FP prog w) A E s (binarySort' lo n ok) Q st:=by
 refine ua (Bf (Je (I:=λk c J=>c=(yP,())/\Sb C ja pd lo xs J/\Cb C (IP J) lo (lo+k)) (Q:=λc J=>c=(yP,())/\Sb C ja pd lo xs J/\Cb C (IP J) lo (lo+n)) ?_ ?_ ⟨rfl,f0,?_⟩) ?_)
 ·rintro k c J k1 k2;refine ea3 ?_;rintro rfl Y U;refine ua (Bf (Je (I:=λx c O=>O=J/\∃l r,c=(yP,l,r)/\l<=r/\r<=k/\r-l<=k-x/\(∀i,i<l->Kc C (IP J) (lo+i)<=Kc C (IP J) (lo+k))/\∀i,r<=i->i<k->Kc C (IP J) (lo+k)<Kc C (IP J) (lo+i)) (Q:=λc O=>O=J/\∃l r,c=(yP,l,r)/\l<=k/\(∀i,i<l->Kc C (IP J) (lo+i)<=Kc C (IP J) (lo+k))/\∀i,l<=i->i<k->Kc C (IP J) (lo+k)<Kc C (IP J) (lo+i)) ?_ ?_ (⟨rfl,nx10 0 k rfl (by simp_all) (by lia) (by lia) (by(intros;simp_all)) (by grind)⟩)) ?_)
  ·rintro x c O _ q0⟨rfl,l,r,rfl,q1,q2,q3,a0,b0⟩;refine pb (λz=>Ja ?_) λz=>ua (Hh Y e0 (by show lo+k<ja.size;lia) (by show lo+(l+r)/2<ja.size;replace z:¬l≥r:=z;lia) (λy=>Ja ?_) λy=>Ja ?_)
   ·replace z:l≥r:=z;have:l=r:=by lia
    subst this;exact(by simp_all)
   ·replace z:¬l≥r:=z;refine⟨rfl,nx10 l ((l+r)/2) rfl (by lia) (by lia) (by grind) a0 λi d0 h0=>?_⟩;have i0:Kc C (IP O) (lo+k)<Kc C (IP O) (lo+(l+r)/2):=y;have j0:=U (lo+(l+r)/2) (lo+i) (by simp_all) (by simp_all) (by simp_all);lia
   ·replace z:¬l≥r:=z;refine⟨rfl,nx10 ((l+r)/2+1) r rfl (by lia) (by lia) (by grind) (λi d0=>?_) b0⟩;have i0:¬Kc C (IP O) (lo+k)<Kc C (IP O) (lo+(l+r)/2):=y;have j0:=U (lo+i) (lo+(l+r)/2) (by simp_all) (by lia) (by lia);lia
  ·rintro c O⟨rfl,l,r,rfl,q1,q2,q3,a0,b0⟩;have:l=r:=by grind
   subst this;exact(by simp_all)
  ·rintro c O⟨rfl,l,r,rfl,q2,a0,b0⟩;refine ua (ui (Ja ?_));have c0:lo+k<(IP O).size:=by rw[Y.size];lia
   refine⟨rfl,Y.set (bubble_perm _ _ _) (λj r0=>?_),λi j d0 h0 s0=>?_⟩
   ·refine(getElem?_bubble c0 (lo+k-(lo+l)) (by simp_all) j).trans ?_;rw[ma (by omega),ma (by omega)]
   ·show Kc C (bubble (IP O) (lo+k) (lo+k-(lo+l))) i<=Kc C (bubble (IP O) (lo+k) (lo+k-(lo+l))) j;have l0:∀i,lo<=i->i<lo+l->Kc C (IP O) i<=Kc C (IP O) (lo+k):=λi a b=>by
     have:=a0 (i-lo) (by lia);rw[show lo+(i-lo)=i by lia]at this;exact this
    have m0:∀i,lo+l<=i->i<lo+k->Kc C (IP O) (lo+k)<Kc C (IP O) i:=λi a b=>by
     have:=b0 (i-lo) (by lia) (by lia);rw[show lo+(i-lo)=i by lia]at this;exact this
    rw[OB c0 (by simp_all),OB c0 (by lia),show lo+k-(lo+k-(lo+l))=lo+l by lia];repeat' split
    all_goals first
     |lia
     |exact l0 _ (by lia) (by lia)
     |exact Int.le_of_lt (m0 _ (by lia) (by lia))
     |exact U _ _ (by lia) (by lia) (by lia)
 ·rintro c J;refine ea3 ?_;rintro rfl Y U;rw[show max (max ok 1) n=n by simp_all]at U;exact⟨rfl,Y,U⟩
 ·by_cases z:ok=0
  ·rw[show max ok 1=1 by simp_all];exact PB _ _
  ·rw[show max ok 1=ok by lia];exact g0
 ·rintro c J;refine ea3 ?_;rintro rfl Y U;exact Ja (h J Y U)
end
def QB(hi:i<xs.toList.length):Kc C xs i=C.rk xs.toList[i]:=by
 have J:i<xs.size:=by rw[<-Lc];exact hi
 unfold Kc;rw[zj xs i J,Array.getElem_toList]
def jK{lo hi:Nat}(h:Cb C xs lo hi)(O:hi<=xs.size):Bw C ((xs.toList.drop lo).take (hi-lo)):=by
 rw[Bw,Tj];intro i j hi J U;rw[Ae,dg,Lc]at hi J;rw[Pp,Pp,Lr,Lr,<-QB,<-QB];exact h _ _ (by lia) (by lia) (by omega)
end
end Gs
namespace Gs
open PySem PyProof.Rows
section
variable{prog:HP}{w:KP}{s:zP}{A:LP}{E:xP->zP->Prop}{C:bj prog w A E s}
def Cb.low{lo hi:Nat}(l:∀k,lo<=k->k<hi->ys[k]?=xs[k]?)(h:Cb C xs lo hi):Cb C ys lo hi:=λi j J U O=>by
 rw[gn (l i J (by lia)),gn (l j (by lia) O)];exact h i j J U O
def Ga(C:bj prog w A E s)(xs:Array OP):List (Nat×Nat×Nat)->Nat->Nat->Prop
 |[],a,b=>a=b
 |x::r,a,b=>x.1=a/\1<=x.2.1/\Cb C xs a (a+x.2.1)/\Ga C xs r (a+x.2.1) b
def Ga.le:∀{l:List (Nat×Nat×Nat)}{a b:Nat},Ga C xs l a b->a+l.length<=b
 |[],a,b,h=>by have:a=b:=h;simp;simp_all
 |x::r,a,b,⟨_,O,_,J⟩=>by have:=Ga.le J;rw[Od];lia
def Ga.low:∀{l:List (Nat×Nat×Nat)}{a b:Nat},Ga C xs l a b->(∀k,a<=k->k<b->ys[k]?=xs[k]?)->Ga C ys l a b
 |[],a,b,h,_=>h
 |x::r,a,b,⟨e,O,U,J⟩,l=>by
  have:=Ga.le J;exact⟨e,O,U.low (by grind),Ga.low J (by grind)⟩
def Ga.at:∀{l:List (Nat×Nat×Nat)}{a b:Nat},Ga C xs l a b->∀{i:Nat}{x y:Nat×Nat×Nat},l[i]?=wP x->l[i+1]?=wP y->a<=x.1/\y.1=x.1+x.2.1/\1<=x.2.1/\1<=y.2.1/\Cb C xs x.1 (x.1+x.2.1)/\Cb C xs (x.1+x.2.1) (x.1+x.2.1+y.2.1)/\x.1+x.2.1+y.2.1<=b/\
  ∀ys:Array OP,(∀k,k<x.1\/x.1+x.2.1+y.2.1<=k->ys[k]?=xs[k]?)->Cb C ys x.1 (x.1+x.2.1+y.2.1)->Ga C ys ((l.set i (x.1,x.2.1+y.2.1,x.2.2)).eraseIdx (i+1)) a b
 |[],_,_,_,i,x,y,e,_=>by cases e
 |z::[],_,_,_,i,x,y,_,e0=>by cases e0
 |z::u::r,a,b,⟨J,O,U,Y⟩,0,x,y,ex,a0=>by
  cases ex;cases(a0);revert Y;refine ea6 ?_;rintro f0 g0 h0 b0;have r0:=Ga.le b0;have i0:=J;rw[i0];refine⟨xa _,f0,O,g0,U,h0,by lia,λys c0 d0=>?_⟩;refine⟨rfl,by grind,by grind,?_⟩;rw[<-Nat.add_assoc];exact b0.low (by(intros;simp_all))
 |z::u::r,a,b,⟨J,O,U,Y⟩,i+1,x,y,ex,a0=>by
  refine ea3 ?_ (Ga.at Y (by simpa using ex) (by simpa using a0));rintro s0 j0;refine eaD ?_;rintro l0 m0 n0 o0 p0 q0;refine⟨by lia,j0,l0,m0,n0,o0,p0,λys c0 d0=>?_⟩;exact⟨J,O,U.low (by grind),q0 ys c0 d0⟩
variable{ja:Array OP}{st:RP}
end
end Gs
namespace Gs
open PySem PyProof.Rows
section
variable{prog:HP}{w:KP}{s:zP}{A:LP}{E:xP->zP->Prop}{C:bj prog w A E s}
structure GB(C:bj prog w A E s)(ja:Array OP)(st:RP)(lo:Nat):Prop where
 perm:(IP st).Perm ja
 kind:kindOf st=C.κ
 fail:fQ st=yP
 runs:Ga C (IP st) (WP st).toList 0 lo
variable{ja:Array OP}{st:RP}
end
end Gs
open PySem PySem.Spec PySem.W PyProof.Rows L2 PyProof PySem.SeqAt
section
variable{X:Cx}{pins:List (BP×dQ)}{σ:L2.St}{H:Hp}{s:zP}
def kK(lo:(d==bQ)=GP):KdlSrc prog w "dict" d d es.size (λi v=>∃e,es[i]?=wP e/\e.key=v) (λh=>Cg h d es ep)where
 type:=λ_ O=>O.typeIs
 there:=λ_⟨_,J,_⟩=>⟨Xa J,Xa J⟩
 keep:=λ_ _⟨o,J,x⟩Y=>⟨o,Y d (.inl rfl) o J,x⟩
 notList:=by decide
 notTuple:=by decide
 hint:=λ_ _ _ _ O a0=>kdl_hint_dict O.typeIs a0
 iter:=λA s d0 O=>nx5 _ (λi h=>h.IsKeyIter s.heap.objs.size d i es.size ep/\Cg h d es ep) (λ_ _ a0=>gB lo O a0) ({
  sub:=λb e0=>by simp_all
  frame:=λ_ _ _ st Y=>⟨st.1.at (by grind),by obtain⟨o,J,x⟩:=st.2;exact⟨o,Y d (by simp) o J,x⟩⟩
  item:=λi s' Q E hi st U=>by
   obtain⟨e,b0⟩:∃e,es[i]?=wP e:=⟨es[i],by simp[hi]⟩;have f0:=let⟨_,J,_⟩:=O;Ab (Xa J)
   refine hB st.1 st.2 b0 λh' g0 c0=>U e.key h' s'.toks ⟨e,b0,rfl⟩ ⟨g0,by obtain⟨o,J,x⟩:=st.2;exact⟨o,(c0.2 d f0).trans J,x⟩⟩ λb o e0 e=>(c0.2 b (by simp_all)).trans e
  done:=λs' Q E st U=>iB d0 st.1 st.2 (xa _) (by(intros;simp_all))
  self:=λ_ _ _ _ st U=>wpAny_pyIter_keyiter st.1 U}) ⟨⟨_,Hb _ rfl,rfl,rfl⟩,let⟨o,J,x⟩:=O;⟨o,Ta _ J,x⟩⟩
end
section
variable{X:Cx}{o e:UP}{td te:TE}{apos Jb:sQ}
def lK{K:W.Frag}(J:X.K=K):Cf X (.builtin "len") (λxs H Q=>∃x n,xs=[x]/\Wy K x H n/\Q (.int n) H):=J▸Xd
end
abbrev Eg:=Nk×Nk×Str×Option Int
abbrev NV:HVK Nk:=HVK.int.pair HVK.int
def oI:Option Int->xP->Prop
 |none,u=>u=.none
 |some i,u=>∃t,u=.int i t
def RB(h:oI x u)(g:oI y u):x=y:=by
 match x,y,h,g with
 |none,yP,_,_=>rfl
 |some i,wP j,⟨t,e⟩,⟨t',J⟩=>simp_all
 |none,wP j,e,⟨t',J⟩=>subst J;cases e
 |some i,yP,⟨t,e⟩,J=>subst e;cases J
def TB(h:oI x u)(g:oI y v):EqAt A s u v (decide (x=y)):=by
 match x,y,h,g with
 |none,yP,e,J=>cases e;cases J;exact EqAt.same _
 |some i,wP j,⟨t,e⟩,⟨t',J⟩=>
  subst e;subst J;have:=EqAt.int_int (A:=A) (s:=s) i t j t';rwa[show(i==j)=decide (wP i=wP j)by by_cases q:i=j<;>simp[q]]at this
 |none,wP j,e,⟨t',J⟩=>subst J;cases e;exact EqAt.none_int _ _
 |some i,yP,⟨t,e⟩,J=>subst e;cases J;exact EqAt.int_none _ _
def Gg(h:NP)(k:Eg)(a:BP):Prop:=∃o n J O t U,h.get? a=wP o/\o.cls=.type "tuple"/\o.data=.seq #[J,O,.str k.2.2.1 t,U] n/\NV.is h k.1 J/\NV.is h k.2.1 O/\oI k.2.2.2 U
def Gg.keep(x:Gg h k a)(kp:Tq h h'):Gg h' k a:=by
 obtain⟨o,n,U,Y,t,a0,b0,J,O,c0,d0,e0⟩:=x;exact nx8 o n (nx20 U Y t a0 (kp a o _ _ b0 J O) J O (NV.keep c0 kp) (NV.keep d0 kp) e0)
def Gg.inj(Y:Gg h x a)(a0:Gg h y a):x=y:=by
 obtain⟨o,n,b0,c0,t,d0,e0,r0,f0,g0,h0,i0⟩:=Y;obtain⟨s0,t0,j0,l0,t',m0,O,u0,U,n0,o0,p0⟩:=a0;rw[e0]at O;cases O;rw[f0]at U;injection U with q _;have J:[b0,c0,Value.str x.2.2.1 t,d0]=[j0,l0,Value.str y.2.2.1 t',m0]:=by simpa using q
 injection J with q1 J;injection J with q2 J;injection J with q3 J;injection J with q0 _;injection q3 with q3 _;subst q1;subst q2;subst q0;exact yi (NV.inj g0 n0) (yi (NV.inj h0 o0) (yi q3 (RB i0 p0)))
section
variable{prog:HP}{w:KP}{A:LP}{E:xP->zP->Prop}{s:zP}
def mK(O:A.units<MP)(h:Q (kQ 4238894112) {s with toks:=s.toks+1}):wpAny (FP prog w) A (PySem.pyHash .none) Q E s:=by
 have J:s.TypeIs .none "NoneType":=rfl;unfold PySem.pyHash;unfold PQ;refine ba (Xr (.inr O) (ba (mh J Ur.lookup ?_)));refine ba (mh J Ur.lookup ?_);refine ba (Ir J Ur (zd Ur J F.entry_NoneType_hash ?_ (F.args_NoneType_hash_1 _)));refine OQ (show wpAny _ _ (if(decide (-(2:Int)^63<=4238894112)&&decide ((4238894112:Int)<2^63))=CP then _ else _) Q E _ from ?_);unfold kQ at h;by_cases U:(decide (-(2:Int)^63<=4238894112)&&decide ((4238894112:Int)<2^63))=CP
 ·rw[wa U]at h⊢;exact ca h
 contradiction
def Ih(prog:HP)(w:KP)(k:Nk):Int:=tupleKeyHash (ge prog w) [.inl k.1,.inl k.2]
def Wt(J:A.units<MP)(x:NV.is s.heap k v)(h:Q (Ih prog w k) {s with toks:=s.toks+3}):wpAny (FP prog w) A (PySem.pyHash v) Q E s:=by
 revert x;refine ea0 ?_;rintro u O⟨a,o,n,rfl,U,Y,a0⟩b0 c0;refine wpAny_pyHash_tuple J (nx1 o _ n U Y a0 ?_) h;have:Qa ([Sum.inl k.1,Sum.inl k.2].map kV) [u,O]:=.cons b0 (.cons c0 .nil);exact Tv this
def Xt:Option Int->Int
 |none=>kQ 4238894112
 |some i=>hashInt i
def nK(J:A.units<MP)(x:oI k v)(h:Q (Xt k) {s with toks:=s.toks+1}):wpAny (FP prog w) A (PySem.pyHash v) Q E s:=by
 match k,x,h with
 |none,e,h=>cases e;exact mK J h
 |some i,⟨t,e⟩,h=>subst e;exact yR h
def Tw(prog:HP)(w:KP)(k:Eg):Int:=kQ (Builtin.Tuple.tupleHashOf [Ih prog w k.1,Ih prog w k.2.1,hashStr w k.2.2.1,Xt k.2.2.2])
def oK(j0:A.units+4<MP)(x:Gg s.heap k a)(h:Q (Tw prog w k) {s with toks:=s.toks+9}):wpAny (FP prog w) A (PySem.pyHash (.ref a)) Q E s:=by
 obtain⟨o,n,a0,U,t,J,b0,d0,e0,f0,g0,h0⟩:=x;have O:s.TypeIs (.ref a) "tuple":=⟨o,b0,d0⟩;have Y:A.in1.units<MP:=by show A.units+1<MP;lia
 unfold PySem.pyHash;unfold PQ;refine ba (Xr (.inr (by lia)) (ba (mh O lh.lookup ?_)));refine ba (mh O lh.lookup ?_);refine ba (Ir O lh (zd lh O cv ?_ (jv _)));show wpAny _ _ (Builtin.Tuple.tupleItemsOf (.ref a)>>=λl0=>_) _ _ _;refine ba (qs b0 e0 (ba ?_));rw[<-Rj,show(#[a0,U,Value.str k.2.2.1 t,J]:Array xP).toList=[a0,U,Value.str k.2.2.1 t,J]from rfl,oe];refine ba (ba (Wt Y f0 (ca ?_)));show wpAny _ _ (forIn [U,Value.str k.2.2.1 t,J] _ _) _ _ _;rw[oe];refine ba (ba (Wt Y g0 (ca ?_)));show wpAny _ _ (forIn [Value.str k.2.2.1 t,J] _ _) _ _ _;rw[oe];refine ba (ba (wpAny_pyHash_str (ca ?_)));show wpAny _ _ (forIn [J] _ _) _ _ _;rw[oe];refine ba (ba (nK Y h0 (ca ?_)));refine ca (show wpAny _ _ (retInt (Builtin.Tuple.tupleHashOf [Ih prog w k.1,Ih prog w k.2.1,hashStr w k.2.2.1,Xt k.2.2.2])) _ _ _ from ?_);generalize i0:Builtin.Tuple.tupleHashOf [Ih prog w k.1,Ih prog w k.2.1,hashStr w k.2.2.1,Xt k.2.2.2]=z;unfold Tw at h;rw[i0]at h;refine OQ (show wpAny _ _ (if(decide (-(2:Int)^63<=z)&&decide (z<2^63))=CP then _ else _) Q E _ from ?_);unfold kQ at h;by_cases c0:(decide (-(2:Int)^63<=z)&&decide (z<2^63))=CP
 ·rw[wa c0]at h⊢;exact ca h
 ·rw[ma c0]at h⊢;exact ba (Ye (ca h))
def pK(w0:A.units+4<MP)(J:Gg s.heap x a)(O:Gg s.heap y b):EqAt A s (.ref a) (.ref b) (decide (x=y)):=by
 by_cases U:a=b
 ·subst U;rw[J.inj O,zb rfl];exact EqAt.same _
 ·obtain⟨o,n,Y,a0,t,b0,g0,h0,i0,j0,l0,m0⟩:=J;obtain⟨n0,o0,c0,d0,t',e0,p0,q0,r0,s0,t0,u0⟩:=O;have f0:A.in1.units+NV.d<MP:=by show A.units+1+1<MP;lia
  have key:=RcAt.tuples (A:=A) (e:=λj=>if j=0 then decide (x.1=y.1)else if j=1 then decide (x.2.1=y.2.1)else if j=2 then decide (x.2.2.1=y.2.2.1)else decide (x.2.2.2=y.2.2.2)) (nx18 o g0 h0 n i0) (nx18 n0 p0 q0 o0 r0) (by lia) λj v0 x0=>by
   have:j=0\/j=1\/j=2\/j=3:=by have:j<4:=v0;lia
   rcases this with rfl|rfl|rfl|rfl
   ·exact NV.eq f0 j0 s0
   ·exact NV.eq f0 l0 t0
   ·have:=EqAt.str_str (A:=A.in1) (s:=s) x.2.2.1 t y.2.2.1 t';rwa[show(x.2.2.1==y.2.2.1)=decide (x.2.2.1=y.2.2.1)by by_cases q:x.2.2.1=y.2.2.1<;>simp[q]]at this
   ·exact TB m0 u0
  have e:((List.range (min (#[Y,a0,Value.str x.2.2.1 t,b0]:Array xP).size (#[c0,d0,Value.str y.2.2.1 t',e0]:Array xP).size)).all (λj=>if j=0 then decide (x.1=y.1)else if j=1 then decide (x.2.1=y.2.1)else if j=2 then decide (x.2.2.1=y.2.2.1)else decide (x.2.2.2=y.2.2.2))&&((#[Y,a0,Value.str x.2.2.1 t,b0]:Array xP).size==(#[c0,d0,Value.str y.2.2.1 t',e0]:Array xP).size))=decide (x=y):=by
   show((List.range 4).all _&&CP)=_;rw[show List.range 4=[0,1,2,3]from rfl];obtain⟨y0,z0,A0,B0⟩:=x;obtain⟨C0,D0,F0,G0⟩:=y;simp[Bool.decide_and]
  rw[e]at key;exact EqAt.of_refs U key
def qK(x:Gg s.heap k a)(h:Q CP s):wpAny (FP prog w) A (hR 8 (.ref a)) Q E s:=by
 obtain⟨o,n,U,O,t,J,Y,b0,c0,d0,e0,f0⟩:=x;have a0:s.TypeIs (.ref a) "tuple":=⟨o,Y,b0⟩;unfold hR;refine ba (mh a0 F.slot_tuple_eq.lookup (ba (Gp a0 isSubtype_tuple_tuple ?_)));simp only[Bool.not_true,ph,hf];refine ba (qg Y c0 (ba ?_));show wpAny _ _ (forIn (#[U,O,Value.str k.2.2.1 t,J]:Array xP) _ _) _ _ _;rw[<-Rj,show(#[U,O,Value.str k.2.2.1 t,J]:Array xP).toList=[U,O,Value.str k.2.2.1 t,J]from rfl,oe];refine ba (ba (NV.quiet 7 (by decide) d0 (ca ?_)));show wpAny _ _ (forIn [O,Value.str k.2.2.1 t,J] _ _) _ _ _;rw[oe];refine ba (ba (NV.quiet 7 (by decide) e0 (ca ?_)));show wpAny _ _ (forIn [Value.str k.2.2.1 t,J] _ _) _ _ _;rw[oe];refine ba (ba ?_);refine ca (ca ?_);show wpAny _ _ (forIn [J] _ _) _ _ _;rw[oe];refine ba (ba ?_);have g0:hR 7 J=pure CP:=by
  match k.2.2.2,f0 with
  |none,e=>cases e;exact vR 7 rfl
  |some i,⟨t,e⟩=>subst e;exact vR 7 rfl
 rw[g0];exact ca (ca (ca (ca h)))
end
def ek(prog:HP)(w:KP):HeapKind prog w Eg where
 is:=Gg
 hash:=Tw prog w
 draws:=λ_=>9
 room:=λA=>A.units+4<MP
 inj:=Gg.inj
 keeps:=λ{h h' k a d o es ep}x a0 b0 O=>x.keep λb c0 xs n e c dd=>(O.2 b (by grind)).trans e
 pyHash:=λJ x h=>oK J x h
 eqBool:=λJ U Y h=>pK J U Y _ _ _ _ h
 quiet:=λx h=>qK x h
def oV:Option Int->V
 |none=>.Pa
 |some i=>.int i
def Yb(H:Hp)(v:V)(k:Eg):Prop:=∃p J O,v=.ref p/\H p=wP (.tup [J,O,.str k.2.2.1,oV k.2.2.2])/\Fb H J k.1/\Fb H O k.2.1
def UB(r:Ka (oV k) u):oI k u:=by
 cases k with
 |none=>exact r
 |some i=>exact r
section
variable{X:Cx}{pins:List (BP×dQ)}{σ:L2.St}{H:Hp}{s:zP}
def rK(I:Inv X pins σ H s)(h:Yb H (.ref a) k):Gg s.heap k a:=by
 obtain⟨p,l0,m0,J,e,O,U⟩:=h;cases J;obtain⟨n0,Y,⟨o,a0,b0,c,c0⟩,_⟩:=I.tuple (Ba.of e);cases Y with
 |cons d0 t=>
  cases t with
  |cons e0 f0=>
   cases f0 with
   |cons g0 t3=>
    cases t3 with
    |cons h0 i0=>
     cases i0;obtain⟨j0,rfl⟩:=g0;exact nx8 o c (nx20 _ _ j0 _ a0 b0 c0 (Zg I O d0) (Zg I U e0) (UB h0))
inductive Oo(H:Hp):List V->List Eg->Prop where
 |nil:Oo H [] []
 |cons{t b:BP}{v:V}{k:Eg}{ws:List V}{ks:List Eg}(h:H t=wP (.tup [.ref b,v]))(hb:Yb H (.ref b) k)(r:Oo H ws ks):Oo H (.ref t::ws) (k::ks)
def sK(I:Inv X pins σ H s):∀{U:List V}{ks:List Eg}{J:List xP},Oo H U ks->Qa U J->
  ∃O:List (Eg×BP×xP),Paired (λ(q:Eg×BP×xP)k=>q.1=k/\Yb H (.ref q.2.1) k) O ks/\J.length=O.length/\∀(j:Nat)u,J[j]?=wP u->∃t q,u=.ref t/\O[j]?=wP q/\s.heap.IsTuple t #[.ref q.2.1,q.2.2]/\Gg s.heap q.1 q.2.1:=by
 intro U ks J c0;induction c0 generalizing J with
 |nil=>intro v;cases v;exact⟨[],.nil,rfl,by grind⟩
 |@cons _ b _ k _ _ h Y r d0=>
  intro v;cases v with
  |cons e0 f0=>
  obtain⟨O,k1,k2,k3⟩:=d0 f0;obtain⟨J,g0,⟨o,h0,a0⟩,_⟩:=I.tuple (Ba.of h);obtain⟨j0,b0,rfl,i0,l0⟩:=zo g0;cases e0;cases i0;refine⟨(k,b,b0)::O,.cons ⟨rfl,Y⟩ k1,by simp[k2],λj u e=>?_⟩;cases j with
  |zero=>
   cases e;exact⟨_,(k,b,b0),rfl,rfl,⟨o,h0,a0.1,a0.2⟩,rK I Y⟩
  |succ j=>exact k3 j u (by simpa using e)
def tK{K:Type}[DecidableEq K]{xs:List (K×BP×xP)}{k:K}:(GQ xs k).isSome=CP↔k∈xs.map (·.1):=by
 unfold GQ
 grind
def uK{K:Type}[DecidableEq K]{xs:List (K×BP×xP)}{k:K}{a:BP}{v:xP}{y:K}:y∈(lQ xs k a v).map (·.1)↔y=k\/y∈xs.map (·.1):=by
 unfold lQ;split
 ·next h=>
  have J:=tK.mp h;rw[Hc,show((λ(x:K×BP×xP)=>x.1)∘putAt k v)=(·.1)from funext λx=>by unfold putAt;lia]
  simp_all
 grind
def vK{K:Type}[DecidableEq K]{xs:List (K×BP×xP)}{k:K}{P:K->BP->Prop}(h:∀x∈xs,P x.1 x.2.1)(U:P k a):∀x∈lQ xs k a v,P x.1 x.2.1:=by
 intro x J;unfold lQ at J;split at J
 ·obtain⟨y,O,e⟩:=Ya.mp J;subst e;have:=h y O;unfold putAt;split
  ·exact this
  ·exact this
 grind
def VB{K:Type}[DecidableEq K]{y:K}:∀(J xs:List (K×BP×xP)),y∈(Fg xs J).map (·.1)↔y∈xs.map (·.1)\/y∈J.map (·.1)
 |[],xs=>by show y∈xs.map (·.1)↔_;simp
 |q::r,xs=>by
  show y∈(Fg (lQ xs q.1 q.2.1 q.2.2) r).map (·.1)↔_;rw[VB r,uK,ed,jb]
  grind
def WB{K:Type}[DecidableEq K]{P:K->BP->Prop}:∀(J xs:List (K×BP×xP)),(∀x∈xs,P x.1 x.2.1)->(∀x∈J,P x.1 x.2.1)->∀x∈Fg xs J,P x.1 x.2.1
 |[],xs,h,_=>h
 |q::r,xs,h,h'=>WB r _ (vK h (h' q (.head _))) (by grind)
def XB{K:Type}[DecidableEq K]:∀(J xs:List (K×BP×xP)),(Fg xs J).length<=xs.length+J.length
 |[],xs=>xa _
 |q::r,xs=>by
  have O:=XB r (lQ xs q.1 q.2.1 q.2.2);have U:=pB xs q.1 q.2.1 q.2.2;show(Fg (lQ xs q.1 q.2.1 q.2.2) r).length<=xs.length+(r.length+1);lia
def wK{α β:Type}{R:α×β->α->Prop}:∀{J:List (α×β)}{es:List α},Paired (λq k=>q.1=k/\R q k) J es->J.map (·.1)=es:=by
 intro J es h;induction h with
 |nil=>rfl
 |cons h t O=>rw[ed,O,h.1]
def uf(p:BP)(J:Array eQ)(ep:Nat):NP->Prop:=λh=>(p==bQ)=GP/\J.size<=DP/\Cg h p J ep
def Uw(H:Hp)(J:Array eQ)(ks:List Eg):Prop:=Paired (λ(e:eQ)k=>∃b,e.key=.ref b/\Yb H (.ref b) k) J.toList ks
def Vw(x:uf p J ep h):Rc P w H h p (.ext (uf p J ep)):=by
 refine⟨x,?_,by rintro a0 b0⟨O,U,o,e,Y⟩k;exact⟨O,U,o,k _ e,Y⟩⟩;revert x;refine ebF ?_;rintro _ _ o e _
 simp_all
def xK(q0:X.A.units+16<MP)(f0:X.calm=CP):Cf X (.type "dict") (λxs H Q=>∃(a:BP)(Y:List V)(es:List Eg),xs=[V.ref a]/\H a=wP (.lst Y)/\Oo H Y es/\es.length<1000000/\
  ∀p J ep ks,H p=yP->Uw H J ks->ks.Nodup->(∀x,x∈ks↔x∈es)->Q (.ref p) (upd H p (.ext (uf p J ep)))):=by
 intro pins s σ H xs us Q I r h;revert h;refine eaF ?_;rintro a Y es rfl g0 h0 hz q;obtain⟨u,rfl,i0⟩:=gg r;cases i0;refine ea7 ?_ (I.list (ia.of g0));rintro r0 j0 pl _;refine ea7 ?_ (sK I h0 j0);rintro U k1 k2 k3;have b0:=dm k1;refine qB (knd:=ek X.prog X.w) (λf k=>Gg.keep f λb o ys n e _ d=>k b o ys n e d) (show X.A.units+2+4<MP by lia) f0 I pl k2 (by rw[b0];exact hz) k3 λh s0 kp dd=>?_
 obtain⟨o,J,ep,c0,d0,l0,e0,_,m0⟩:=dd;have n0:J.size<=DP:=by
  rw[<-Lc,e0,pa];exact Nb (XB U []) (by simp only[Yk,yj];rw[b0];exact Nb (sj hz) (by decide))
 refine⟨.ref _,_,?_,rfl,q _ J ep ((Fg [] U).map (·.1)) (I.za.fresh (xa _)) ?_ m0 λx=>?_⟩
 ·exact I.laid kp (xa _) (Vw ⟨rm.mpr (Dc (Ab I.big)),n0,o,c0,d0,l0⟩)
 ·unfold Uw;rw[e0];have a0:=WB (P:=λk b=>Yb H (.ref b) k) U [] (λx O=>by cases O) λx O=>by
   obtain⟨i,hi⟩:=ze.mp O;obtain⟨k,ek,c0,d0⟩:=Wb k1 hi
   simp_all
  generalize Fg [] U=o0 at a0;induction o0 with
  |nil=>exact .nil
  |cons z r p0=>exact .cons ⟨z.2.1,rfl,a0 z (.head _)⟩ (p0 λx O=>a0 x (.tail _ O))
 ·rw[VB];rw[wK k1];simp
end
abbrev Rk:=Nk×Nk×Int×Option Int
def ai(h:NP)(k:Rk)(v:xP):Prop:=∃a o n J O t U,v=.ref a/\h.get? a=wP o/\o.cls=.type "tuple"/\o.data=.seq #[J,O,.int k.2.2.1 t,U] n/\NV.is h k.1 J/\NV.is h k.2.1 O/\oI k.2.2.2 U
def Ww(x y:Rk):Prop:=x.2.2.1=y.2.2.1->(x.2.2.2=yP↔y.2.2.2=yP)
section
variable{prog:HP}{w:KP}{A:LP}{s:zP}
def ai.keep(x:ai h k v)(kp:Tq h h'):ai h' k v:=by
 revert x;refine eaB ?_;rintro a o n U Y t a0 b0 c0 J O d0 e0 f0;exact nx2 a o n (nx4 U Y t a0 b0 (kp a o _ _ c0 J O) J O (NV.keep d0 kp) (NV.keep e0 kp) f0)
def ai.inj(Y:ai h x v)(a0:ai h y v):x=y:=by
 revert Y;refine eaB ?_;rintro a o n b0 c0 t d0 e0 f0 t0 g0 h0 i0 j0;revert a0;refine eaB ?_;rintro u0 v0 w0 l0 m0 t' n0 o0 O x0 U p0 q0 r0;subst e0;cases o0;rw[f0]at O;cases O;rw[g0]at U;injection U with q _;have J:[b0,c0,Value.int x.2.2.1 t,d0]=[l0,m0,Value.int y.2.2.1 t',n0]:=by simpa using q
 injection J with q1 J;injection J with q2 J;injection J with q3 J;injection J with s0 _;injection q3 with q3 _;subst q1;subst q2;subst s0;exact yi (NV.inj h0 p0) (yi (NV.inj i0 q0) (yi q3 (RB j0 r0)))
def YB:∀{us:List xP}{rs:List Rk},Paired (λu r=>ai h r u) us rs->∃fs,KatTups h us fs/\fs.length=us.length/\∀v∈fs,∃k,NV.is h k v
 |_,_,.nil=>⟨[],trivial,rfl,by(intros;simp_all)⟩
 |_,_,.cons J t=>by
  refine ea7 ?_ (YB t);rintro fs O U d0;revert J;refine eaB ?_;rintro a o n Y e0 f0 g0 rfl a0 b0 c0 h0 i0 j0;refine⟨Y::fs,KatTups.cons a0 b0 c0 rfl O,by rw[Od,Od,U],λv l0=>?_⟩
  grind
end
def Ex(a:BP)(o:dQ):NP->Prop:=λh=>h.get? a=wP o
def br(e:h.get? a=wP o):Rc P w H h a (.ext (Ex a o)):=⟨e,⟨o,e⟩,λ_ _ y k=>k _ y⟩
def cr(x:Str):Int:=if x="own"then 0 else if x="saw"then 1 else if x="unseen"then 2 else 3
def xk(e:Eg):Prop:=(e.2.2.1="own"\/e.2.2.1="saw"\/e.2.2.1="unseen"\/e.2.2.1="over")/\(e.2.2.1="own"↔e.2.2.2=yP)
def Ml(e:Eg):Rk:=(e.1,e.2.1,cr e.2.2.1,e.2.2.2)
def yK{x y:Str}(J:x="own"\/x="saw"\/x="unseen"\/x="over")(O:y="own"\/y="saw"\/y="unseen"\/y="over")(h:cr x=cr y):x=y:=by
 rcases J with rfl|rfl|rfl|rfl<;>rcases O with rfl|rfl|rfl|rfl<;>first|rfl|(exact absurd h (by decide))
def zK(J:xk x)(O:xk y):Ww (Ml x) (Ml y):=λh=>by
 have e:=yK J.1 O.1 h;show x.2.2.2=yP↔y.2.2.2=yP;rw[<-J.2,<-O.2,e]
def yk(H:Hp)(v:V)(k:Rk):Prop:=∃p J O,v=.ref p/\H p=wP (.tup [J,O,.int k.2.2.1,oV k.2.2.2])/\Fb H J k.1/\Fb H O k.2.1
def Fb.kp(x:Fb H v n)(k:∀b xs,H b=wP (.tup xs)->H' b=wP (.tup xs)):Fb H' v n:=by obtain⟨p,e,h⟩:=x;exact⟨p,e,k _ _ h⟩
def yk.kp(x:yk H v n)(k:∀b xs,H b=wP (.tup xs)->H' b=wP (.tup xs)):yk H' v n:=by obtain⟨p,J,O,e,h,U,Y⟩:=x;exact nx1 p J O e (k _ _ h) (U.kp k) (Y.kp k)
def Yb.kp(x:Yb H v n)(k:∀b xs,H b=wP (.tup xs)->H' b=wP (.tup xs)):Yb H' v n:=by obtain⟨p,J,O,e,h,U,Y⟩:=x;exact nx1 p J O e (k _ _ h) (U.kp k) (Y.kp k)
section
variable{X:Cx}{pins:List (BP×dQ)}{σ:L2.St}{H:Hp}{s:zP}
def AK(I:Inv X pins σ H s)(h:yk H (.ref a) k):ai s.heap k (.ref a):=by
 obtain⟨p,l0,m0,J,e,O,U⟩:=h;cases J;obtain⟨n0,Y,⟨o,a0,b0,c,c0⟩,_⟩:=I.tuple (Ba.of e);cases Y with
 |cons d0 t=>
  cases t with
  |cons e0 f0=>
   cases f0 with
   |cons g0 t3=>
    cases t3 with
    |cons h0 i0=>
     cases i0;obtain⟨j0,rfl⟩:=g0;exact nx2 a o c (nx4 _ _ j0 _ rfl a0 b0 c0 (Zg I O d0) (Zg I U e0) (UB h0))
variable{k:Nat}{f:BP}{fd:aQ}{nm:Str}{sp:Sp}{A':LP}
def Yt(sp:Sp):Prop:=∀(H:Hp)(b:BP)(e:Eg)(Q:VK)(E:XK),Yb H (.ref b) e->xk e->(∀p H',(∀c o,H c=wP o->H' c=wP o)->yk H' (.ref p) (Ml e)->Q (.ref p) H')->sp [.ref b] H Q E
def BK(F:uc X.prog X.w X.K X.mg X.base Ge k f fd [nm] sp)(Y:Td X.K fd [nm] [])(q0:A'.frames=wP X.stack)(r0:Wa k A')(s0:Yt sp){D KS:BP}{oD:dQ}{g:xP->PUnit->SR (ForInStep PUnit)}
  (t0:∀x Q E s,wpAny (FP X.prog X.w) A' (call (.ref f) [x]) (λv s'=>wpAny (FP X.prog X.w) A' (Builtin.List.listUpdate (.ref KS) λxs=>xs.push v) (λ_ u0=>Q (.yield PUnit.unit) u0) E s') (λ_ _=>False) s->wpAny (FP X.prog X.w) A' (g x PUnit.unit) Q E s){E:xP->zP->Prop}(v0:KS≠D):
  ∀(vs:List xP)(es:List Eg)(us:List xP)(rs:List Rk)(J:Hp)(s1:zP)(c:Nat)(Q:PUnit->zP->Prop),Inv X pins σ J s1->J D=wP (.ext (Ex D oD))->J KS=wP (.ext (Ex KS (PP "list" us.toArray c)))->us.length+vs.length<=DP->
   Paired (λv e=>∃b,v=Value.ref b/\Yb J (.ref b) e) vs es->(∀e∈es,xk e)->Paired (λu r=>∃p,u=Value.ref p/\yk J (.ref p) r) us rs->
   (∀a0 O g0 w0,Inv X pins σ O g0->O D=wP (.ext (Ex D oD))->O KS=wP (.ext (Ex KS (PP "list" a0.toArray w0)))->(∀b o,b≠KS->J b=wP o->O b=wP o)->a0.length=us.length+vs.length->Paired (λu r=>∃p,u=Value.ref p/\yk O (.ref p) r) a0 (rs++es.map Ml)->Q PUnit.unit g0)->
   wpAny (FP X.prog X.w) A' (forIn vs PUnit.unit g) Q E s1:=by
 intro vs;induction vs with
 |nil=>
  intro es us rs J s1 c Q U h0 i0 hz pv _ j0 h;cases pv;exact ca (by grind)
 |cons v R0 x0=>
  intro es us rs J s1 c Q U h0 i0 hz pv ok j0 h;cases pv with
  |@cons _ e _ y0 z0 pv=>
  revert z0;refine ea1 ?_;rintro b b0 A0;subst b0;rw[oe];refine ba (t0 _ _ _ _ ?_);have env:yq X.prog X.w X.K X.mg X.base A' X.stack s1 J:=⟨q0,U.mf.mod,U.mf.bs,U.mf.Cj,U.mf.Ed,U.mf.vl,U.mf.za,U.mf.bare⟩;refine HQ (kl (F.run A' X.stack s1 J ⟨[.ref b],[]⟩ [.ref b] [.ref b] (λv O=>∃p,v=.ref p/\(∀c o,J c=wP o->O c=wP o)/\yk O (.ref p) (Ml e)) (λ_ _ _=>False) r0 env (Y s1 [.ref b] U.Gd rfl) (.cons rfl .nil) (s0 J b e _ _ A0 (ok e (.head _)) λp H' B0 C0=>⟨p,rfl,B0,C0⟩)) λr s' c0=>?_);cases r with
  |error e=>exact c0.elim
  |ok D0=>
   cases D0 with
   |next=>exact False.elim c0
   |brk=>exact False.elim c0
   |cont=>exact False.elim c0
   |ret u=>
    obtain⟨S0,O,l0,F0,p,G0,k2,I0⟩:=U.after c0;subst G0;obtain rfl:u=Value.ref p:=F0;have J0:=k2 _ _ h0;have m0:=k2 _ _ i0;have n0:=(l0.za KS _ m0).1;have K0:=bg s'.heap KS (Obj.mapSeq λxs=>xs.push (Value.ref p));obtain⟨d0,o0⟩:∃d0,(s'.heap.update KS (Obj.mapSeq λxs=>xs.push (Value.ref p))).get? KS=wP (PP "list" (us++[Value.ref p]).toArray d0):=⟨_,by rw[Pn n0 (λxs=>xs.push (Value.ref p))];simp;rfl⟩;refine lm n0 rfl ?_ (by rw[ic];lia) (by rw[Array.size_push,ic];lia);have f0:=l0.write (t':=s'.toks) (by rw[m0];trivial) (.inl rfl) (λb o e0 e=>(K0.2 b e0).trans e) ⟨_,o0⟩ (br o0);have p0:∀b xs,J b=wP (.tup xs)->upd O KS (.ext (Ex KS (PP "list" (us++[Value.ref p]).toArray d0))) b=wP (.tup xs):=λb xs e=>by
     rw[oa λz=>by simp_all];exact k2 _ _ e
    have L0:∀b xs,O b=wP (.tup xs)->upd O KS (.ext (Ex KS (PP "list" (us++[Value.ref p]).toArray d0))) b=wP (.tup xs):=λb xs e=>by
     rw[oa λz=>by simp_all];exact e
    refine x0 y0 (us++[Value.ref p]) (rs++[Ml e]) _ _ d0 Q f0 (by rw[oa v0.symm];exact J0) la (by grind) (Paired.imp' (by rintro v e;refine ea1 ?_;rintro b b0 Y;exact⟨b,b0,Y.kp p0⟩) pv) (λe M0=>ok e (.tail _ M0)) ?_ λa0 N0 O0 P0 f0 Q0 q3 k3 T0 U0=>h a0 N0 O0 P0 f0 Q0 q3 (λb o e0 e=>k3 b o e0 (by rw[oa e0];exact k2 _ _ e)) (by grind) (by simp_all)
    exact MB (Paired.imp' (by rintro v e;refine ea1 ?_;rintro b b0 Y;exact⟨b,b0,Y.kp p0⟩) j0) ⟨p,rfl,I0.kp L0⟩
end
def u8{A:LP}(h:A.units+64<MP):A.units+8<MP:=by lia
section
variable{X:Cx}{o e f:UP}{td ty tx:TE}{apos Jb:sQ}
def CK{items:Array xP}{ls:List Str}
  (U:∀(i:Nat)(y:xP)(s:zP)(Q:ForInStep (Option PySem.Fin×Unit)->zP->Prop),items[i]?=wP y->wpAny (FP prog w) A (eqBool y x) (λc s'=>if c=CP then wpAny (FP prog w) A (retInt (i:Int)) (λf Y=>Q (.done (wP f,())) Y) E s' else Q (.yield (yP,())) s') E s->wpAny (FP prog w) A (g i (yP,())) Q E s)
  (a0:∃t,x=Value.str k t)(hi:∀(i:Nat)(y:Str),ls[i]?=wP y->∃t,items[i]?=wP (Value.str y t)):
  ∀(m i:Nat)(s:zP)(Q:Option PySem.Fin×Unit->zP->Prop),i+m=ls.length->(∀j,j<i->ls[j]?≠wP k)->k∈ls.drop i->(∀t',Q (wP (.done (.ret (.int (ls.idxOf k:Nat) t'))),()) {s with toks:=s.toks+1})->wpAny (FP prog w) A (forIn (List.range' i m) (yP,()) g) Q E s:=by
 intro m;induction m with
 |zero=>
  (intros;simp_all)
 |succ m b0=>
  intro i s Q h c0 d0 J;obtain⟨y,O⟩:∃y,ls[i]?=wP y:=⟨_,Pd (by lia)⟩;obtain⟨t,e0⟩:=hi i y O;obtain⟨f0,rfl⟩:=a0;rw[List.range'_succ,oe];refine ba (U i _ s _ e0 (EqAt.str_str y t k f0 _ _ _ _ ?_));by_cases e:y=k
  ·subst e;rw[wa (by simp)];have g0:ls.idxOf y=i:=by
    have h0:=lv.mpr (yb O);have i0:ls[ls.idxOf y]?=wP y:=by rw[Pd h0];exact Ub wP (by simp_all)
    have j0:¬ls.idxOf y<i:=λz=>c0 _ z i0
    have l0:ls.idxOf y<=i:=by
     refine Oh λz=>?_
     have:=List.not_of_lt_findIdx (by show i<ls.idxOf y;simp_all);rw[(Zb.mp O).2]at this;simp at this
    lia
   rw[g0]at J;exact ba (wpAny_mkInt (ca (ca (J _))))
  ·rw[ma (by simp[e])];refine b0 (i+1) s Q (by grind) (λj m0=>?_) ?_ J
   ·grind
   ·rw[ao (by lia)]at d0
    grind
def EK{K:W.Frag}(a0:X.K=K):Bl X "tuple.index" (λx xs H Q=>∃(l:BP)(ls:List Str)(k:Str),x=.ref l/\xs=[V.str k]/\Ba K H l (ls.map V.str)/\k∈ls/\Q (.int ((ls.idxOf k:Nat):Int)) H):=by
 subst a0;intro m0 s n0 H x xs v us Q I b0 c0 h;revert h;refine eaF ?_;rintro l ls k rfl rfl d0 e0 q;cases b0;refine ea1 ?_ (gg c0);rintro u rfl⟨t,rfl⟩;refine ea7 ?_ (I.tuple d0);rintro J r⟨o,Y,O,n,f0⟩_;have g0:J.length=ls.length:=by rw[<-r.length,pa]
 refine zd F.slot_tuple_index ⟨o,Y,O⟩ F.entry_tuple_index ?_ (F.args_tuple_index_2 _ _);show wpAny _ _ (Builtin.Tuple.tupleItemsOf (.ref l)>>=λxs=>_) _ _ _;refine ba (qs Y f0 ?_);show wpAny _ _ (forIn [0:min J.toArray.size J.toArray.size] (yP,()) _>>=λ__s=>_) _ _ _;rw[Nat.min_self,Std.Legacy.Range.forIn_eq_forIn_range',show(List.range' ([0:J.toArray.size]:Std.Legacy.Range).start ([0:J.toArray.size]:Std.Legacy.Range).size ([0:J.toArray.size]:Std.Legacy.Range).step)=List.range' 0 J.length by simp[Std.Legacy.Range.size]];refine ba (CK (ls:=ls) (k:=k) (items:=J.toArray) (x:=.str k t) (λi y s Q U h0=>?_) ⟨t,rfl⟩ (λi y U=>?_) J.length 0 s _ (by simp_all) (by(intros;simp_all)) e0 λt'=>?_)
 ·rw[U];refine ba (Pc h0 (λc s' O=>?_) λ_ _ z=>z);cases c with
  |true=>exact ba (Pc O (λf o0 i0=>ca i0) λ_ _ z=>z)
  |false=>exact ca O
 ·have j0:i<J.length:=by rw[g0];exact(Zb.mp U).1
  obtain⟨p0,ex,l0⟩:=Rf r (Pd j0);rw[fb,U]at ex;cases ex;obtain⟨t',q0⟩:=l0;exact(by grind)
 ·exact ca ⟨_,rfl,.int _,H,I.tok _,⟨t',rfl⟩,q⟩
end
def IsT.inj(x:IsT h k v)(y:IsT h l v):k=l:=by
 obtain⟨a,o,n,J,O,t3,rfl,U,_,Y⟩:=x;obtain⟨a0,b0,c0,d0,e0,f0,e,g0,_,h0⟩:=y
 grind
open Classical in
noncomputable def Nl(h:NP)(u:xP):Tk:=if x:∃k,IsT h k u then Classical.choose x else(0,0,0)
def Zt(x:IsT h k u):Nl h u=k:=by
 unfold Nl;rw[dif_pos ⟨k,x⟩];exact(Classical.choose_spec (⟨k,x⟩:∃k,IsT h k u)).inj x
def ZB:∀{vs:List xP},(∀v∈vs,∃k,IsT h k v)->∃fs,KatTups h vs fs/\fs.length=vs.length/\∀v∈fs,∃k:Int,VO.int.is h k v
 |[],_=>⟨[],trivial,rfl,by(intros;simp_all)⟩
 |v::r,O=>by
  refine ea7 ?_ (ZB λv J=>O v (.tail _ J));rintro fs t l a
  refine ea5 ?_ (O v (.head _));rintro k ad o;refine eaE ?_;rintro n U c0 t3 rfl Y a0 b0;refine⟨.int k.1 U::fs,KatTups.cons Y a0 b0 rfl t,by rw[Od,Od,l],λv J=>?_⟩;rcases jb.mp J with z|z
  ·exact⟨k.1,z▸⟨U,rfl⟩⟩
  ·exact a v z
end My
namespace My
open PySem PySem.Spec PyProof.Rows L2
section
variable{P:HP}{w:KP}
inductive bi(h:NP):xP->dQ->Prop where
 |list{l:BP}{xs:Array xP}(e:h.IsList l xs):bi h (.ref l) {cls:=.type "list_iterator",data:=.fields #[.ref l,.int 0 0]}
def bi.keep(x:bi h u o)(k:∀b o,h.get? b=wP o->h'.get? b=wP o):bi h' u o:=by
 cases x with
 |list e=>exact .list (e.at λo q=>k _ o q)
def aC(x:bi s.heap u o)(h:Q (.ref s.heap.objs.size) {s with heap:=s.heap.push o}):wpAny (FP P w) A (JQ u) Q E s:=by
 cases x with
 |list e=>exact io e h
def FK(U Y:xP)(J O:dQ):
  Meets (Builtin.«zip.__new__» ⟨[.type "zip",U,Y],[]⟩) (λ_ R s=>bi s.heap U J/\bi s.heap Y O/\R (.ok (.ret (.ref (zD s.heap J O).objs.size))) {s with heap:=zE s.heap J O}):=
 .of_wp λprog w A R s⟨c0,d0,r⟩=>by
  obtain⟨a0,g,d,b0,os⟩:=s;have f0:=sub_zip;have e0:bi (Shared.heap ⟨a0,g,d,b0,os⟩) U J:=c0;have L2:bi (Shared.heap ⟨a0.push J,g,d,b0,os⟩) Y O:=d0.keep λb o e=>Ta _ e
  wp_walk using aC e0,aC L2
  exact⟨_,rfl,r⟩
def GK(c0:bi s.heap J U)(d0:bi s.heap O Y)(a0:U.isFreed=GP)(b0:Y.isFreed=GP)
  (k:∀g z TI TO e0 f0,Zz s.heap g U Y z TI TO e0 f0->Q (.ref z) {s with heap:=g}):wpAny (FP P w) A (call (.type "zip") [J,O]) Q E s:=
 callType_new F.called_zip (by decide) (F.typeCall_zip_2 J O) (F.newCall_zip_2 J O) (λobj=>F.args_object_init_3 obj J O) F.entry_zip_new (FK J O U Y) ⟨c0,d0,⟨_,(aA s.heap a0 b0).zip,rfl⟩,k _ _ _ _ _ _ (aA s.heap a0 b0)⟩
end
inductive au(K:W.Frag)(H:Hp):V->It->Prop where
 |list{a:BP}{xs:List V}(h:ia K H a xs):au K H (.ref a) (Vg K a)
section
variable{X:Cx}
def bC{O:L2.St}(I:Inv X Y O H s)(x:au X.K H v U)(r:Ka v u):∃o,bi s.heap u o/\o.isFreed=GP/\∀J h',h'.get? J=wP o->∃st,Src X.prog X.w X.K U J st/\st 0 h':=by
 cases x with
 |list h=>
  cases r;refine ea7 ?_ (I.list h);rintro a0 b0 p hz;exact⟨_,.list p.isList,rfl,λJ h' e=>⟨_,yH _ J,_,e,rfl,rfl⟩⟩
def HK(K:W.Frag)(Y:TA):TI:=λa0 H R=>Y a0 H λvs J=>∃u v O U,vs=[u,v]/\au K J u O/\au K J v U/\R (gw O U) J
end
open PySem.W
section
variable{P:HP}{w:KP}{K:UR}{mg:Str->Option xP}{base h:NP}{x q:Str}{st:hQ}{ps:List Str}{fa:BP}
def bu(K:UR)(x q:Str)(st:hQ)(f:BP):Prop:=∃O U Y a0 kV b0 c0 J ct,K.lookup f=wP ⟨O,U,.func (fnOf x q (Qf st) (Te st) (mc st) .none kV b0 c0 Y J ct),a0⟩/\QR K J q=CP/\mR K (.ref f)=CP
def Xw(K:UR)(x:Str)(st:hQ):Prop:=∃f,nsIn K VP x=wP (wP (.ref f))/\bu K x x st f
def IK{O U Y a0 kV b0 c0 J ct}(a:nsIn K VP x=wP (wP (.ref f)))(l:K.lookup f=wP ⟨O,U,.func (fnOf x x (Qf st) (Te st) (mc st) .none kV b0 c0 Y J ct),a0⟩)(c:QR K J x=CP)(k:mR K (.ref f)=CP):Xw K x st:=
 nx9 f a _ (nx2 _ _ _ (nx21 _ _ _ _ _ l c k))
def cu(x q:Str)(st:hQ)(ps:List Str):Prop:=∀(kV J O:xP)(U:Option BP)(Y ct:xP)(us:List xP),us.length=ps.length->wR (fnOf x q (Qf st) (Te st) (mc st) .none kV J O U Y ct) ⟨us,[]⟩=pure (ps.zip us)
def bu.fn(h:bu K x q st f)(b:cu x q st ps):∃d,Wh K x q st f d/\Td K d ps []:=by
 revert h;refine ea5 ?_;rintro _ _ _;refine eaG ?_;rintro _ _ _ _ _ _ l c k;exact⟨_,Hz l c k,(Hz l c k).binds b⟩
structure Fe(K:UR)(mg:Str->Option xP)(x:Str)(st:hQ)(ps:List Str):Prop where
 e:∃f d,Wh K x x st f d/\Td K d ps []/\mg x=wP (.ref f)
noncomputable def Fe.f(D:Fe K mg x st ps):BP:=D.e.choose
noncomputable def Fe.d(D:Fe K mg x st ps):aQ:=D.e.choose_spec.choose
def Fe.F(D:Fe K mg x st ps):Wh K x x st D.f D.d:=D.e.choose_spec.choose_spec.1
def Fe.b(D:Fe K mg x st ps):Td K D.d ps []:=D.e.choose_spec.choose_spec.2.1
def Fe.m(D:Fe K mg x st ps):mg x=wP (.ref D.f):=D.e.choose_spec.choose_spec.2.2
def Xw.fe(D:Xw K x st)(X:K.In h)(G:h.Ns VP mg)(b:cu x x st ps):Fe K mg x st ps:=by
 obtain⟨f,a,r⟩:=D;obtain⟨d,F,B⟩:=r.fn b;exact⟨f,d,F,B,mg_of X G a⟩
abbrev Fe.Ok(D:Fe K mg x st ps)(P:HP)(w:KP)(base:NP)(k:Nat)(sp:Sp):Prop:=uc P w K mg base Ge k D.f D.d ps sp
def Yw(K:UR)(x:Str)(st:hQ):Prop:=∃f O U Y a0 kV b0 c0 J ct dt d0 e0 f0,nsIn K VP x=wP (wP (.ref f))/\K.lookup f=wP ⟨O,U,.func (fnOf x x (Qf st) (Te st) (mc st) (.ref dt) kV b0 c0 Y J ct),a0⟩/\QR K J x=CP/\mR K (.ref f)=CP/\K.lookup dt=wP ⟨.type "tuple",d0,.seq #[.none] e0,f0⟩
def JK{O U Y a0 kV b0 c0 J ct dt d0 e0 f0}(a:nsIn K VP x=wP (wP (.ref f)))(l:K.lookup f=wP ⟨O,U,.func (fnOf x x (Qf st) (Te st) (mc st) (.ref dt) kV b0 c0 Y J ct),a0⟩)(c:QR K J x=CP)(k:mR K (.ref f)=CP)(t:K.lookup dt=wP ⟨.type "tuple",d0,.seq #[.none] e0,f0⟩):Yw K x st:=
 nx13 f _ _ _ _ _ _ _ _ (nx14 _ _ _ _ _ a l c k t)
def du(x:Str)(st:hQ)(ps:List Str)(J:List xP):Prop:=∀(O kV U Y:xP)(a0:Option BP)(b0 ct:xP)(us:List xP),(us++J).length=ps.length->∃k:Option (Array xP)->SR (List (Str×xP)),wR (fnOf x x (Qf st) (Te st) (mc st) O kV U Y a0 b0 ct) ⟨us,[]⟩=(fR O>>=k)/\k (wP #[.none])=pure (ps.zip (us++J))
structure Fd(K:UR)(mg:Str->Option xP)(x:Str)(st:hQ)(ps:List Str):Prop where
 e:∃f d,Ut K x x st f d/\Td K d ps []/\Td K d ps [.none]/\mg x=wP (.ref f)
noncomputable def Fd.f(D:Fd K mg x st ps):BP:=D.e.choose
noncomputable def Fd.d(D:Fd K mg x st ps):aQ:=D.e.choose_spec.choose
def Fd.F(D:Fd K mg x st ps):Ut K x x st D.f D.d:=D.e.choose_spec.choose_spec.1
def Fd.b(D:Fd K mg x st ps):Td K D.d ps []:=D.e.choose_spec.choose_spec.2.1
def Fd.bd(D:Fd K mg x st ps):Td K D.d ps [.none]:=D.e.choose_spec.choose_spec.2.2.1
def Fd.m(D:Fd K mg x st ps):mg x=wP (.ref D.f):=D.e.choose_spec.choose_spec.2.2.2
def Yw.fd(D:Yw K x st)(X:K.In h)(G:h.Ns VP mg)(U:du x st ps [])(Y:du x st ps [.none]):Fd K mg x st ps:=by
 revert D;refine ec1 ?_;rintro f _ _ _ _ _ _ _ _ _ dt _;refine eb4 ?_;rintro _ _ a l c k t;exact⟨f,_,eK l c k,λs us J O=>EB rfl t rfl J (U _ _ _ _ _ _ _ us O),λs us J O=>EB rfl t rfl J (Y _ _ _ _ _ _ _ us O),mg_of X G a⟩
abbrev Fd.Ok(D:Fd K mg x st ps)(P:HP)(w:KP)(base:NP)(k:Nat)(sp:Sp):Prop:=uc P w K mg base Ge k D.f D.d ps sp
structure Po(K:UR)(C:BP):Prop where
 mo:pA K C
 cl:Cls K C
 tc:PR K (.ref C) "__class__"=wP (wP (.builtin "object.__class__"))
 tm:mroIn K C (.type "object")=wP CP
def e2g(a:makesIn K C=CP)(b:PR K (.ref C) "__init__"=wP (wP (.builtin "object.__init__")))(c:mR K (.ref C)=CP)(d:plainGet K C Str.empty=CP)(e:hasDictIn K C=CP)(f:plainOver K C=CP)(g:PR K (.ref C) "__setattr__"=wP (wP (.builtin "object.__setattr__")))(i:PR K (.ref C) "__class__"=wP (wP (.builtin "object.__class__")))(j:mroIn K C (.type "object")=wP CP):Po K C:=⟨⟨a,b,c⟩,⟨d,e,f,g⟩,i,j⟩
def Fe.LK(D:Fe K mg x st ps)(J:mg x=wP (.ref fa)){sp:NP->Sp}(b:∀kV O U Y a0 ct v,wR (fnOf x x (Qf st) (Te st) (mc st) .none kV O U Y a0 ct) ⟨[v],[]⟩=pure [(p,v)])(r:∀base,D.Ok P w base k (sp base)):
  ∃fd:aQ,(∀(s:zP)(v:xP),iR s fd ⟨[v],[]⟩ [(p,v)])/\∀base:NP,K.In base->base.Ns VP mg->uc P w K mg base Ge k fa fd ps (sp base):=by
 have e:=J.symm.trans D.m;cases e;refine⟨D.d,λs v=>?_,by(intros;simp_all)⟩;obtain⟨_,_,_,_,_,_,_,_,_,e,_⟩:=D.F.ex;rw[e];exact .of_eq (b ..)
end
def jn{N P:List Str}{J:rQ}(a:J.kind=.function:=by rfl)(b:J.isCoroutine=GP:=by rfl)(c:J.isGenerator=GP:=by rfl)(d:N.Nodup:=by decide+kernel)(e:N.take P.length=P:=by rfl)(f:∀x∈P,J.names.lookup x=wP .local\/J.names.lookup x=wP .cell:=by decide+kernel)(g:∀y∈J.names,y.2≠.free:=by decide+kernel):Hm N P J:=⟨a,b,c,d,e,f,g⟩
section
variable{X:Cx}
def xb{x:Str}{st:hQ}{J:List Str}{k n:Nat}{sp:Sp}{p pos:sQ}{e:UP}{es:List UP}{t:TA}(D:Fe X.K X.mg x st J)(F:uc X.prog X.w X.K X.mg X.base Ge k D.f D.d J sp)(O:Wa n X.A)(U:PA X (e::es) t)(h:k<=n:=by decide)(Y:Gl X x:=by rfl)(a0:(x==("__debug__":Str))=GP:=by decide)
  (b0:JP (e::es) X.env=(GP,XP e X.env)::JP es X.env:=by rfl)(c0:(cQ pos (JP es X.env)).any (·.1)=GP:=by rfl):PE X (.Call (.Name x p) (e::es) [] pos) (Zy sp [] E0 t):=yh (F.mono h) O Y D.m D.F.kp D.b .nil Zv U a0 b0 c0
def Jd(i:Nat){pos:sQ}(hi:X.N[i]?=wP x:=by rfl)(J:X.N.Nodup:=by first|(show[_].Nodup;decide+kernel)|(show[_,_].Nodup;decide+kernel)|(show[_,_,_].Nodup;decide+kernel)|(show[_,_,_,_].Nodup;decide+kernel)|(show[_,_,_,_,_].Nodup;decide+kernel)|(show[_,_,_,_,_,_].Nodup;decide+kernel)|(show[_,_,_,_,_,_,_].Nodup;decide+kernel))
  (O:Loc X.env.scope x:=by first|exact Or.inl rfl|exact Or.inr rfl)(U:X.fn x=CP\/X.env.scope.names.lookup x=wP .local:=by first|exact .inl rfl|exact .inr rfl|assumption):PG X (.Name x pos) (qq i):=Iy J hi O U
def Ea(J:Oi X r)(O:PE X a U)(Y:PE X b a0)(b0:lz b:=by exactλ_ _=>rfl):PE X (.Subscript a b pos) (Dm r U a0):=UF J O Y b0
section
variable{scope:rQ}{target iter elt:UP}{ifs:List UP}{pos:sQ}{g:TG}{tc:L2.TT}{te:TE}{wi:TI}
def cC(J:List Str)(O:List Nat)(a:scope.kind=.function:=by rfl)(b:∀q∈scope.names,q.2≠.cell:=by decide+kernel)(c:∀q∈scope.names,q.2=.local->scope.names.lookup q.1=wP .local:=by decide+kernel)(d:∀q∈scope.names,q.2=.free->q.1∈J:=by decide+kernel)
  (e:∀x∈J,X.env.kindOf x=wP .cell\/X.env.kindOf x=wP .free:=by repeat(first|exact KH|refine LH (by first|exact Or.inl rfl|exact Or.inr rfl) ?_))(f:O.map (λj=>X.N[j]?)=J.map wP:=by rfl)(h:∀x∈J,scope.names.lookup x=wP .free:=by decide+kernel):Xh X scope J O:=⟨a,b,c,d,e,f,h⟩
def vf(J U:List Str)(Y:List Nat)(hi:PI X target iter wi)(c0:∀{O C s₀ H₀ ex},PG (Ud X scope (J++U) O C s₀ H₀ ex) target g)(d0:∀{O C s₀ H₀ ex},Sm (Ud X scope (J++U) O C s₀ H₀ ex) ifs tc)(e0:∀{O C s₀ H₀ ex},PE (Ud X scope (J++U) O C s₀ H₀ ex) elt te)
  (S:Xh X scope U Y:=by exact cC _ _)(a0:X.calm=CP:=by rfl)(b0:∀x,pQ iter X.env x=pure x:=by intro _;rfl):PE X (.ListComp elt [⟨target,iter,ifs,0⟩] scope pos) (xt J.length Y wi g tc te):=IH J a0 S hi ‹_› ‹_› ‹_› b0
def Qo(i:Nat){y:Str}{Y a0:sQ}(J:List Str)(d0:X.N.Nodup)(U:List Str)(b0:List Nat)(hi:PI X target iter wi)(l0:∀{O C s₀ H₀ ex},PG (Ud X scope (J++U) O C s₀ H₀ ex) target g)(m0:∀{O C s₀ H₀ ex},Sm (Ud X scope (J++U) O C s₀ H₀ ex) ifs tc)(n0:∀{O C s₀ H₀ ex},PE (Ud X scope (J++U) O C s₀ H₀ ex) elt te)
  (S:Xh X scope U b0:=by exact cC _ _)(e0:X.calm=CP:=by rfl)(f0:X.N[i]?=wP y:=by rfl)(g0:X.env.scope.names.lookup y=wP .local:=by rfl)(h0:uQ (.ListComp elt [⟨target,iter,ifs,0⟩] scope pos) (wP (.Name y Y)) a0.line X.env=pure CP:=by rfl)(i0:∀x,pQ iter X.env x=pure x:=by intro _;rfl):
  PS X (.Assign [.Name y Y] (.ListComp elt [⟨target,iter,ifs,0⟩] scope pos) a0) (λD c0 H=>xt J.length b0 wi g tc te c0 H λv j0=>D.nx (c0.set i (wP v)) j0):=JH J e0 d0 f0 g0 S hi h0 ‹_› ‹_› ‹_› i0
end
end
open PyProof PySem.SeqAt
def Zw{α β:Type}(f:α->β):∀l:List α,(l.map f).zip l=l.map λv=>(f v,v)
 |[]=>rfl
 |a::r=>by rw[ed,Kn,Zw f r,ed]
def dC{K:Type}[DecidableEq K](V:HVK K)(a0:K){J:List xP}{ks:List K}(c0:ks.length=J.length)(U:∀(i:Nat)(u:xP),J[i]?=wP u->∃k,ks[i]?=wP k/\V.is h k u):∃kf:xP->K,(∀u∈J,V.is h (kf u) u)/\J.map kf=ks:=by
 refine⟨Rw _ V h a0,λu b0=>?_,?_⟩
 ·obtain⟨i,hi⟩:=ze.mp b0;obtain⟨k,_,O⟩:=U i u hi;rw[fB O];exact O
 ·apply Fs;intro i;rw[fb];cases Y:J[i]? with
  |none=>
   rw[bv]at Y;rw[Option.map_none,vj (by simp_all)]
  |some u=>
   obtain⟨k,ek,O⟩:=U i u Y;rw[ek,Mp,fB O]
end My
namespace My
open PySem PySem.Spec PyProof.Rows L2 PyProof
def fp(f:Nat->Option HO)(j:Nat)(o:HO):Nat->Option HO:=λi=>if i=j then wP o else f i
def tp(H:Hp):Hp:=λb=>match H b with
 |some (.tup xs)=>wP (.tup xs)
 |_=>yP
end My
namespace My
open PySem PySem.Spec PySem.W PyProof.Rows L2
section
variable{K:UR}{x q:Str}{st:hQ}{ps:List Str}{C:BP}
structure Me(K:UR)(C:BP)(x q:Str)(st:hQ)(ps:List Str):Prop where
 e:∃f d,wg K C x f/\Wh K x q st f d/\Td K d ps []
noncomputable def Me.f(D:Me K C x q st ps):BP:=D.e.choose
noncomputable def Me.d(D:Me K C x q st ps):aQ:=D.e.choose_spec.choose
def Me.m(D:Me K C x q st ps):wg K C x D.f:=D.e.choose_spec.choose_spec.1
def Me.F(D:Me K C x q st ps):Wh K x q st D.f D.d:=D.e.choose_spec.choose_spec.2.1
def Me.b(D:Me K C x q st ps):Td K D.d ps []:=D.e.choose_spec.choose_spec.2.2
abbrev Me.Ok(D:Me K C x q st ps)(mg:Str->Option xP)(P:HP)(w:KP)(base:NP)(k:Nat)(sp:Sp):Prop:=uc P w K mg base Ge k D.f D.d ps sp
end
section
variable{K:UR}{mg:Str->Option xP}{h:NP}{x q:Str}{st:hQ}{ps:List Str}{f C S N:BP}{oc kV dc pm cd ct:xP}{od an dd:Option BP}{sl:Array (Option xP)}
def e7i(X:K.In h)(G:h.Ns VP mg)(a:nsIn K VP x=wP (wP (.ref f)))(l:K.lookup f=wP ⟨oc,od,.func (fnOf x x (Qf st) (Te st) (mc st) .none kV dc pm an cd ct),sl⟩)(c:QR K cd x=CP)(k:mR K (.ref f)=CP)(b:cu x x st ps):Fe K mg x st ps:=(IK a l c k).fe X G b
def e8p(X:K.In h)(G:h.Ns VP mg)(a:nsIn K VP x=wP (wP (.ref f)))(l:K.lookup f=wP ⟨oc,od,.func (fnOf x x (Qf st) (Te st) (mc st) (.ref dt) kV dc pm an cd ct),sl⟩)(c:QR K cd x=CP)(k:mR K (.ref f)=CP)(t:K.lookup dt=wP ⟨.type "tuple",U,.seq #[.none] Y,a0⟩)(J:du x st ps [])(O:du x st ps [.none]):Fd K mg x st ps:=(JK a l c k t).fd X G J O
def e7m(a:PR K (.ref C) x=wP (wP (.ref f)))(l:K.lookup f=wP ⟨oc,od,.func (fnOf x q (Qf st) (Te st) (mc st) .none kV dc pm an cd ct),sl⟩)(c:QR K cd q=CP)(k:mR K (.ref f)=CP)(i:isFn K (.ref f)=CP)(b:cu x q st ps):Me K C x q st ps:=by
 obtain⟨d,F,B⟩:=bu.fn (nx13 _ _ _ _ _ _ _ _ _ ⟨l,c,k⟩) b;exact⟨f,d,⟨a,i,k⟩,F,B⟩
def e7l(D:Me K C "__init__" q st ps)(m:makesIn K C=CP)(k:mR K (.ref C)=CP):Mk K C D.f:=⟨m,D.m.at_,D.m.fn,k⟩
def e1e(D:Me K B x q st ps)(a:PR K (.ref B) x=wP (wP (.ref f)))(b:PR K (.ref C) x=wP (wP (.ref f))):wg K C x D.f:=by
 have e:=D.m;have z:=e.at_.symm.trans a;cases z;exact⟨b,e.fn,e.kp⟩
def e2l(l:K.lookup f=wP ⟨.type "tuple",od,.seq J n,sl⟩)(z:J.size<=DP)(v:Qa xs J.toList):∀H,Ba K H f xs:=λ_=>.inr (nx6 _ _ _ l rfl rfl z v)
variable{nm qn:Str}{bs sub:List xP}{hd ab:Bool}{sn:List Str}{col:Option Bool}{k0 k1 k2 k3 k5:Option xP}
end
section
variable{X:Cx}{e o:UP}{es:List UP}{ta td ty:TE}{t:TA}{C f:BP}{m x:Str}{fd:aQ}{ps:List Str}{k n:Nat}{sp:Sp}{apos pos p:sQ}
def Fa(J:PE X e ta)(O:JP [e] X.env=(GP,XP e X.env)::JP [] X.env:=by rfl):PA X [e] (Zs ta xq):=na J Ad O
def La(i:Nat)(J:X.N[i]?=wP x:=by rfl)(O:nq X.env.scope x:=by first|exact Or.inl rfl|exact Or.inr (Or.inl rfl)|exact Or.inr (Or.inr rfl))(U:(x==("__debug__":Str))=GP:=by decide)(Y:(x==("__classdict__":Str))=GP:=by decide)(a0:JP [.Name x p] X.env=(GP,XP (.Name x p) X.env)::JP [] X.env:=by rfl):
  PA X [.Name x p] (Zs (ro i) xq):=na (Gy J O U Y) Ad a0
def Sf(J:X.A.units+1<MP)(O:PE X o td)(hi:PE X i ty)(U:ft i:=by exactλ_ _=>rfl):PE X (.Subscript o i pos) (Cz td ty):=yG J O hi U
end
@[elab_as_elim]theorem nw{H:Hp}{p:BP}{Q:Hp->Prop}{o:HO}(h:H p=yP)(k:∀H',aa H H'->H' p=wP o->Q H'):Q (upd H p o):=k _ (aa.upd h) la
@[elab_as_elim]theorem nO{H:Hp}{x dx C:BP}{Q:Hp->Prop}(h:H x=yP)(hd:H dx=yP)(n:dx≠x)(k:∀H',aa H H'->H' x=wP (.ins C dx [])->Q H'):Q (upd (upd H dx (.own x)) x (.ins C dx [])):=
 k _ (λb o e=>by rw[oa (he e h),oa (he e hd)];exact e) la
@[elab_as_elim]theorem cg{H:Hp}{p:BP}{Q:Hp->Prop}{o:HO}(k:∀H',(∀b u,b≠p->H b=wP u->H' b=wP u)->H' p=wP o->Q H'):Q (upd H p o):=k _ (λb u n e=>by rw[oa n];exact e) la
@[elab_as_elim]theorem cb{G H:Hp}{p:BP}{Q:Hp->Prop}{o:HO}(B:∀b u,b≠p->G b=wP u->H b=wP u)(k:∀H',(∀b u,b≠p->G b=wP u->H' b=wP u)->(∀b u,b≠p->H b=wP u->H' b=wP u)->H' p=wP o->Q H'):Q (upd H p o):=cg λ_ B' h=>k _ (λb u n e=>B' b u n (B b u n e)) B' h
def MK(s:aa H G)(B:∀b u,b≠p->G b=wP u->H' b=wP u)(h:H p=yP):aa H H':=λb o e=>B _ _ (λz=>by rw[z,h]at e;cases e) (s _ _ e)
def Tf(J:rQ):List Str:=J.names.filterMap λp=>match p.2 with
 |.local=>wP p.1
 |.cell=>wP p.1
 |_=>yP
def sb{P:HP}{w:KP}{K:UR}{mg:Str->Option xP}{base:NP}{x q:Str}{st:hQ}{J:List Str}{f:BP}{d:aQ}{k:Nat}{sp:Sp}(F:Wh K x q st f d)(h:∀{O:xP}{A:LP}{outer:List xR}{s:zP}(H:Hp)(vs:List V)(Q:VK)(E:XK),Wa k (A.deeper (gQ q (mc st) s.heap.objs.size f O))->sp vs H Q E->
   ∃t,De (Yd Ge P w K mg base (Tf (mc st)) q (mc st) f O A outer s H E).Tg (Te st) t/\t {nx:=λ_ H'=>Q .Pa H',rt:=Q} (start (Tf (mc st)) vs) H)
  (S:Hm (Tf (mc st)) J (mc st):=by exact jn)(l:∀vs H Q E,sp vs H Q E->vs.length=J.length:=by intro vs H Q E h;first|(cases h;subst_vars;rfl)|(repeat(first|(obtain⟨rfl,_⟩:=h;rfl)|(obtain⟨_,h⟩:=h)))):uc P w K mg base Ge (k+1) f d J sp:=F.ok S l λ_ _ _ _=>h
section
variable{X:Cx}
def Ua(i:Nat){x:Str}{pos J:sQ}(O:PE X e U)(Y:X.N.Nodup:=by show(Tf _).Nodup;decide+kernel)(hi:X.N[i]?=wP x:=by rfl)(a0:Loc X.env.scope x:=by first|exact Or.inl rfl|exact Or.inr rfl)(b0:uQ e (wP (.Name x J)) pos.line X.env=pure GP:=by rfl)
  (c0:X.fn x=CP\/X.env.scope.names.lookup x=wP .local:=by first|exact .inl rfl|exact .inr rfl|assumption):PS X (.Assign [.Name x J] e pos) (zv U (qq i)):=bF Y hi a0 O b0 c0
def Db(i:Nat){x:Str}{pos:sQ}(J:X.N.Nodup:=by show(Tf _).Nodup;decide+kernel)(hi:X.N[i]?=wP x:=by rfl)(O:Loc X.env.scope x:=by first|exact Or.inl rfl|exact Or.inr rfl)(U:X.fn x=CP\/X.env.scope.names.lookup x=wP .local:=by first|exact .inl rfl|exact .inr rfl|assumption):PG X (.Name x pos) (qq i):=Iy J hi O U
end
def lb{H:Hp}(h:H a=x)(g:H b=y)(n:x≠y:=by nofun):a≠b:=λz=>n (by rw[<-h,z,g])
open PyProof PySem.SeqAt
section
variable{X:Cx}
def eC{S:BP}{c:Str}{b0:hQ}{c0:List hQ}{d0:TS}{q0 r0:sQ}{U:List (BP×dQ)}{Y:L2.St}{e0:Hp}{s1 s':zP}{D:ug}{e:xP}
  (J:Inv X U Y e0 s1)(s0:ae X.prog X.w X.stack e0 s1 (λcls _ t0=>∃C,cls=.ref C/\W.subIn X.K (.ref C) (.ref S)=wP CP/\d0 D Y t0) e s')
  (T:e6z X.K X.mg c S)(u0:Gl X c)(f0:X.stack=X.env::X.outer)(v0:X.env.frame=wP X.env.locals)
  (w0:∀O,De (Hq X O) (b0::c0) d0)(x0:(c==("__debug__":Str))=GP):
  wpAny (FP X.prog X.w) X.A (noteFrame e X.env) (λ_ y0=>wpAny (FP X.prog X.w) X.A (setFlight e yP) (λ_ z0=>wpAny (FP X.prog X.w) X.A (handleBy e X.env [.ExceptHandler (wP (.Name c q0)) yP (b0::c0) r0]) (SP X U D) X.xe z0) X.xe y0) X.xe s':=by
 revert s0;refine ec4 ?_;rintro O cls R0 B H' _ rfl os g0 un h0 i0 bk;refine ea6 ?_;rintro S0 T0 _;refine ea7 ?_;rintro C A0 B0 C0;subst A0;have j0:=i0;rw[f0]at j0;have l0:∀b∈xc X.stack,∃o,s'.heap.get? b=wP o/\∀vs,o.data≠.fields vs:=λb D0=>(i0.2.2.1.mem D0).2
 refine wpAny_looks_onW (by rw[J.ok.frames,f0]) v0 j0 λU0 F0 m0=>?_
 refine wpAny_landsW F0 λG0 a0 n0=>?_
 refine ea1 ?_ a0.there;rintro V0 I0 J0;refine ea6 ?_ (ew J un h0 bk a0.1 (m0.trans n0) l0);rintro K0 L0 _ _;have o0:=J.Rg (s':={s' with heap:=G0}) os K0 L0 g0 (by grind);refine wpAny_handleBy_cons (codeAny_handlers_test (vm (Tz o0 O) u0 T.bound ?_ x0)) (by intro z;cases z);refine wH o0.Gd I0 J0 T.ty T.it T.mB B0 (codeAny_handlers_suite ?_);refine lands_againW a0 λM0 N0 O0=>?_
 refine ea6 ?_ (ew J un h0 bk N0.1 ((m0.trans n0).trans O0) l0);rintro P0 Q0 _ _;have p0:=J.Rg (s':={s' with heap:=M0}) os P0 Q0 g0 (by grind);exact Pc (w0 O U _ Y H' D (Tz p0 O) C0) (λW0 X0 z=>oH p0.ok z) λ_ _ z=>z.elim
def NK{k m0:Nat}{d0 e0 S:BP}{fd n0:aQ}{o0 p0:List Str}{sp q0:Sp}{fn Y c:Str}{ct a0 b0:UP}{as U:List UP}{r0:hQ}{s0:List hQ}{t0:L2.TT}{t t':TA}{f0:TS}{u0 g0 v0 w0 h0 x0 F0 G0 I0 pos:sQ}
  (J0:PT X.Tg ct t0)
  (F:uc X.prog X.w X.K X.mg X.base (ae X.prog X.w) k d0 fd o0 sp)(K0:Wa k X.A)(L0:Gl X fn)(M0:X.mg fn=wP (.ref d0))(N0:W.keepIn X.K (.ref d0)=CP)(O0:Td X.K fd o0 [])(P0:PA X.Tg (a0::as) t)
  (Q0:uc X.prog X.w X.K X.mg X.base (ae X.prog X.w) m0 e0 n0 p0 q0)(R0:Wa m0 X.A)(S0:Gl X Y)(T0:X.mg Y=wP (.ref e0))(U0:W.keepIn X.K (.ref e0)=CP)(V0:Td X.K n0 p0 [])(W0:PA X.Tg (b0::U) t')
  (T:e6z X.K X.mg c S)(y0:Gl X c)(z0:X.stack=X.env::X.outer)(A0:X.env.frame=wP X.env.locals)
  (B0:∀X0,De (Hq X X0) (r0::s0) f0)
  (Y0:(fn==("__debug__":Str))=GP:=by decide)(Z0:(Y==("__debug__":Str))=GP:=by decide)(C0:(c==("__debug__":Str))=GP:=by decide)(a1:JP (a0::as) X.env=(GP,XP a0 X.env)::JP as X.env:=by rfl)(b1:(cQ g0 (JP as X.env)).any (·.1)=GP:=by rfl)
  (c1:uQ (.Call (.Name fn u0) (a0::as) [] g0) yP v0.line X.env=pure GP:=by rfl)
  (d1:JP (b0::U) X.env=(GP,XP b0 X.env)::JP U X.env:=by rfl)(e1:(cQ h0 (JP U X.env)).any (·.1)=GP:=by rfl)
  (f1:uQ (.Call (.Name Y w0) (b0::U) [] h0) yP x0.line X.env=pure GP:=by rfl):
  PS X (.Try [.If ct [.Expr (.Call (.Name fn u0) (a0::as) [] g0) v0] [.Expr (.Call (.Name Y w0) (b0::U) [] h0) x0] F0] [.ExceptHandler (wP (.Name c G0)) yP (r0::s0) I0] [] [] pos)
   (λD O H=>t0 O H λb H0=>if b=CP
    then t O H0 λvs c0=>sp vs c0 (λ_ J=>D.nx O J) (λcls _ J=>∃C,cls=.ref C/\W.subIn X.K (.ref C) (.ref S)=wP CP/\f0 D O J)
    else t' O H0 λvs c0=>q0 vs c0 (λ_ J=>D.nx O J) (λcls _ J=>∃C,cls=.ref C/\W.subIn X.K (.ref C) (.ref S)=wP CP/\f0 D O J)):=by
 constructor;intro g1 s O H D I h;refine wpAny_Try_except (Rp (wpAny_If (Pc (J0 g1 s O H _ (I.Wc _) h) (?_) λ_ _ z=>z.elim)));rintro b s1;refine ea1 ?_;rintro H0 h1 q;have D0:=h1.Va;cases b with
 |true=>
  exact LB F K0 L0 M0 N0 O0 P0 D0 q (λv J s' i0 q2=>Xj (Xj (nx0 _ J i0 q2))) (λc0 i1 e s' j0 l0=>eC j0 l0 T y0 z0 A0 B0 C0) Y0 a1 b1 c1
 |false=>
  exact LB Q0 R0 S0 T0 U0 V0 W0 D0 q (λv J s' i0 q2=>Xj (Xj (nx0 _ J i0 q2))) (λc0 i1 e s' j0 l0=>eC j0 l0 T y0 z0 A0 B0 C0) Z0 d1 e1 f1
end
abbrev Pk:=Nk×Nk
def eu(h:NP)(k:Pk)(a:BP):Prop:=(NV.pair NV).is h k (.ref a)
def dr(prog:HP)(w:KP)(k:Pk):Int:=kQ (Builtin.Tuple.tupleHashOf [Ih prog w k.1,Ih prog w k.2])
section
variable{prog:HP}{w:KP}{A:LP}{E:xP->zP->Prop}{s:zP}
def OK(h0:A.units+4<MP)(x:eu s.heap k a)(h:Q (dr prog w k) {s with toks:=s.toks+7}):wpAny (FP prog w) A (PySem.pyHash (.ref a)) Q E s:=by
 revert x;refine ea0 ?_;rintro U O⟨i0,o,n,e,Y,c0,d0⟩e0 f0;cases e;have J:s.TypeIs (.ref a) "tuple":=⟨o,Y,c0⟩;have a0:A.in1.units<MP:=by show A.units+1<MP;lia
 unfold PySem.pyHash;unfold PQ;refine ba (Xr (.inr (by lia)) (ba (mh J lh.lookup ?_)));refine ba (mh J lh.lookup ?_);refine ba (Ir J lh (zd lh J cv ?_ (jv _)));show wpAny _ _ (Builtin.Tuple.tupleItemsOf (.ref a)>>=λj0=>_) _ _ _;refine ba (qs Y d0 (ba ?_));rw[<-Rj,show(#[U,O]:Array xP).toList=[U,O]from rfl,oe];refine ba (ba (Wt a0 e0 (ca ?_)));show wpAny _ _ (forIn [O] _ _) _ _ _;rw[oe];refine ba (ba (Wt a0 f0 (ca ?_)));refine ca (show wpAny _ _ (retInt (Builtin.Tuple.tupleHashOf [Ih prog w k.1,Ih prog w k.2])) _ _ _ from ?_);generalize g0:Builtin.Tuple.tupleHashOf [Ih prog w k.1,Ih prog w k.2]=z;unfold dr at h;rw[g0]at h;refine OQ (show wpAny _ _ (if(decide (-(2:Int)^63<=z)&&decide (z<2^63))=CP then _ else _) Q E _ from ?_);unfold kQ at h;by_cases b0:(decide (-(2:Int)^63<=z)&&decide (z<2^63))=CP
 ·rw[wa b0]at h⊢;exact ca h
 ·rw[ma b0]at h⊢;exact ba (Ye (ca h))
end
def pk(prog:HP)(w:KP):HeapKind prog w Pk where
 is:=eu
 hash:=dr prog w
 draws:=λ_=>7
 room:=λA=>A.units+4<MP
 inj:=λJ O=>(NV.pair NV).inj J O
 keeps:=λ{h h' k a d o es ep}x a0 b0 Y=>(NV.pair NV).keep x λb c0 xs n e c dd=>(Y.2 b (by grind)).trans e
 pyHash:=λU x h=>OK U x h
 eqBool:=λ{A _ _ _ _ _ _ _}U J O h=>(NV.pair NV).eq (by show A.units+2<MP;lia) J O _ _ _ _ h
 quiet:=λx h=>(NV.pair NV).quiet 8 (by decide) x h
def fC:∀{xs:List α}{bs:List β}{ys:List α}{J:List β},Paired F xs bs->Paired F ys J->Paired F (xs++ys) (bs++J)
 |_,_,_,_,.nil,h=>h
 |_,_,_,_,.cons r t,h=>.cons r (fC t h)
def ci(P:HP)(w:KP)(H:Hp)(O:Array eQ)(J:List (Pk×V)):Prop:=
 Paired (λ(e:eQ)(q:Pk×V)=>∃b u,e={hash:=dr P w q.1,key:=.ref b,val:=u}/\Uc H (.ref b) q.1/\Ka q.2 u) O.toList J/\(J.map (·.1)).Nodup
def ci.kp(d:ci P w H J O)(k:∀b xs,H b=wP (.tup xs)->H' b=wP (.tup xs)):ci P w H' J O:=
 ⟨Paired.Ib d.1 (by rintro _ _;refine ea0 ?_;rintro b u e⟨p,v,U,Y,a0,b0,c0⟩r;exact nx5 b u e (nx1 p v U Y (k _ _ a0) (b0.kp k) (c0.kp k)) r),d.2⟩
section
variable{X:Cx}{pins:List (BP×dQ)}{σ:L2.St}{H:Hp}{s:zP}{a b:BP}{Ra:List (Pk×V)}{k:Pk}{en:Array eQ}{ep:Nat}{r:xP}{d:V}{E:xP->zP->Prop}
def gC:∀{es:List eQ}{Ra:List (Pk×V)},Paired (λ(e:eQ)(q:Pk×V)=>∃b u,e={hash:=dr P w q.1,key:=.ref b,val:=u}/\Uc H (.ref b) q.1/\Ka q.2 u) es Ra->
  ∃xs:List (Pk×BP×xP),es=xs.map (oR (pk P w))/\Paired (λ(q:Pk×V)(x:Pk×BP×xP)=>q.1=x.1/\Uc H (.ref x.2.1) x.1/\Ka q.2 x.2.2) Ra xs
 |_,_,.nil=>⟨[],rfl,.nil⟩
 |_,_,.cons ⟨b,u,e,J,O⟩ t=>by
  refine ea1 ?_ (gC t);rintro xs U p;exact⟨(_,b,u)::xs,by rw[e,U];rfl,.cons ⟨rfl,J,O⟩ p⟩
def hC(I:Inv X pins σ H s)(h:Uc H v k)(r:Ka v u):∃b,u=.ref b/\v=.ref b/\eu s.heap k b:=by
 have z:=Pw I h r;obtain⟨p,_,_,rfl,_⟩:=h;obtain rfl:u=Value.ref p:=r;exact⟨p,rfl,rfl,z⟩
def ax:∀{Ra:List (Pk×V)}{xs:List (Pk×BP×xP)},Paired (λ(q:Pk×V)(x:Pk×BP×xP)=>q.1=x.1/\Uc H (.ref x.2.1) x.1/\Ka q.2 x.2.2) Ra xs->Sd (Oa Ra k) ((GQ xs k).map (·.2))
 |_,_,.nil=>by simp[Oa,GQ,Sd]
 |_,_,.cons (b:=x) ⟨e,_,O⟩ t=>by
  have J:=ax t;unfold Oa GQ at J⊢;rw[sg,sg,e];by_cases z:x.1=k
  ·rw[zb z];exact O
  ·rw[Wd z];exact J
def iC(I:Inv X pins σ H s)(e:H a=wP (.ext (uf a en ep)))(x:ci X.prog X.w H en Ra):(a==bQ)=GP/\en.size<=DP/\
  ∃xs,en.toList=xs.map (oR (pk X.prog X.w))/\Paired (λ(q:Pk×V)(x:Pk×BP×xP)=>q.1=x.1/\Uc H (.ref x.2.1) x.1/\Ka q.2 x.2.2) Ra xs/\s.heap.DictOfH (pk X.prog X.w) a xs:=by
 obtain⟨⟨U,hz,o,Y,a0,b0⟩,_⟩:=I.za a _ e;refine ea1 ?_ (gC x.1);rintro xs J p;have ek:∀{Ra:List (Pk×V)}{xs:List (Pk×BP×xP)},Paired (λ(q:Pk×V)(x:Pk×BP×xP)=>q.1=x.1/\Uc H (.ref x.2.1) x.1/\Ka q.2 x.2.2) Ra xs->Ra.map (·.1)=xs.map (·.1)/\∀y∈xs,eu s.heap y.1 y.2.1:=by
  intro Ra xs p;induction p with
  |nil=>exact⟨rfl,λ_ h=>by cases h⟩
  |cons h t O=>
   refine⟨by rw[ed,ed,O.1,h.1],λy c0=>?_⟩;rcases jb.mp c0 with z|z
   ·subst z;exact Pw I h.2.1 rfl
   ·exact O.2 y z
 obtain⟨k1,k2⟩:=ek p;exact⟨U,hz,nx18 xs J p o (nx10 en ep Y a0 b0 J k2 (k1▸x.2))⟩
def PK(e0:A.units+8<MP)(I:Inv X pins σ H s)(e:H a=wP (.ext (uf a en ep)))(x:ci X.prog X.w H en Ra)(O:Uc H y k)(U:Ka y u)(Y:Oa Ra k=wP v)(h:∀J s',Inv X pins σ H s'->Ka v J->Q J s'):s.TypeIs (.ref a) "dict"/\wpAny (FP X.prog X.w) A (MQ (.ref a) u) Q E s:=by
 refine ebF ?_ (iC I e x);rintro _ _ xs _⟨p,dd⟩;refine ea7 ?_ (hC I O U);rintro b rfl rfl a0;have q:Sd (Oa Ra k) ((GQ xs k).map (·.2)):=ax p;rw[Y]at q;obtain⟨J,b0,c0⟩:=Sd.some_of q;obtain⟨z,hz,d0⟩:=Jf.mp b0;refine⟨dd.typeIs,wpAny_getItem_heap (show A.units+1+4<MP by lia) a0 dd hz ?_⟩;rw[d0];exact h J _ (I.tok _) c0
def QK(P0:A.units+8<MP)(I:Inv X pins σ H s)(e:H a=wP (.ext (uf a en ep)))(x:ci X.prog X.w H en Ra)(Y:Uc H y k)(q0:Ka y u)(r0:Ka d r)(Q0:en.size<DP)
  (s0:∀v a0 s',Oa Ra k=wP v->Inv X pins σ H s'->Ka v a0->Q a0 s')
  (t0:Oa Ra k=yP->∀U b0 s',ci X.prog X.w (upd H a (.ext (uf a U b0))) U (Ra++[(k,d)])->Inv X pins σ (upd H a (.ext (uf a U b0))) s'->Q r s'):wpAny (FP X.prog X.w) A (call (.builtin "dict.setdefault") [.ref a,u,r]) Q E s:=by
 refine ebF ?_ (iC I e x);rintro g0 hz xs ex⟨p,dd⟩;refine ea7 ?_ (hC I Y q0);rintro b rfl rfl h0;have i0:=dd.typeIs;refine zd ss i0 F.entry_dict_setdefault ?_ (F.args_dict_setdefault_3 _ _ _);refine ba (ba (Zr i0 ?_));refine ca ?_;dsimp only;rw[ma (by rw[g0];exact pc)];refine ba ?_;obtain⟨o,es,u0,c0,v0,O,j0,w0,l0⟩:=dd;have q:Sd (Oa Ra k) ((GQ xs k).map (·.2)):=ax p;refine Jc (ba ((pk X.prog X.w).pyHash (by show A.units+1+4<MP;lia) h0 (ba (wpAny_dictFind_heap (by show A.units+1+4<MP;lia) h0 c0 O j0 w0 l0 (λx0=>?_) λj z m0=>?_))))
 ·rw[atKey_none_of_get x0]at q;have d0:Oa Ra k=yP:=by
   cases J:Oa Ra k with
   |none=>rfl
   |some y=>rw[J]at q;exact(q).elim
  obtain⟨⟨_,_,y0,R0,_,n0⟩,_⟩:=I.za a _ e;obtain rfl:y0=o:=by simp_all
  obtain⟨rfl,rfl⟩:es=en/\u0=ep:=by rw[O]at n0;injection n0 with z0 A0;exact⟨z0,A0⟩
  refine ba (Ye (ba (wpAny_updateDictKeys c0 O (ca (ca ⟨r,rfl,?_⟩)) (by lia) (by simp))));have B0:=bg s.heap a (Obj.mapDictKeys (·.push {hash:=(pk X.prog X.w).hash k,key:=.ref b,val:=r}));have o0:=zi (Obj.mapDictKeys (·.push {hash:=(pk X.prog X.w).hash k,key:=.ref b,val:=r})) c0 (Obj.isFreed_of_dict (Obj.data_mapDictKeys O _));have e0:∀U b0 c ys,H c=wP (.tup ys)->upd H a (.ext (uf a U b0)) c=wP (.tup ys):=λ_ _ c ys C0=>by rw[oa (by lia)];exact C0
  refine t0 d0 _ _ _ ⟨?_,?_⟩ (et (I.tok _) (by rw[e];exact True.intro) B0 ⟨_,o0⟩ (Vw ⟨g0,?_,_,o0,v0.mapDictKeys _,Obj.data_mapDictKeys O _⟩))
  ·rw[om];revert Y;refine ea4 ?_;rintro D0 F0 G0 f0 J I0 J0;exact fC (ci.kp x (e0 _ _)).1 (.cons (nx5 b r rfl (nx1 D0 F0 G0 f0 (e0 _ _ _ _ J) (I0.kp (e0 _ _)) (J0.kp (e0 _ _))) r0) .nil)
  ·rw[Le];refine Ai.mpr ⟨x.2,by simp,λy Y w p0 f0=>?_⟩;have J:w=k:=by simpa using p0
   obtain⟨z,K0,L0⟩:=Ya.mp Y;unfold Oa at d0;rw[Option.map_eq_none_iff,As]at d0;exact d0 z K0 (by rw[L0,f0,J];simp)
  ·rw[Array.size_push];lia
 ·rw[atKey_of_get l0 m0]at q;cases J:Oa Ra k with
  |none=>rw[J]at q;exact absurd (Sd.none_of q) (by simp)
  |some y=>
   rw[J]at q;refine ea1 ?_ (Sd.some_of q);rintro a0 p0 M0;have N0:z.2=a0:=by simp_all
   refine ba (mm c0 O ?_);have O0:es[j]?=wP (oR (pk X.prog X.w) (k,z)):=by rw[<-ee,j0,fb,m0];rfl
   rw[O0];refine ba (Ye (ca (ca ⟨_,rfl,s0 y _ _ J (I.tok _) ?_⟩)));show Ka y z.2;rw[N0];exact M0
end
def RK:TE:=λ_ H Q=>∀p,H p=yP->Q (.ref p) (upd H p (.ext (uf p #[] 0)))
inductive SK(P:HP)(w:KP)(ty tx:TE)(σ:L2.St)(Q:VK)(x:V)(H1:Hp):Prop|mk(a en ep)(_:x=.ref a)(_:H1 a=wP (.ext (uf a en ep)))(_:ty σ H1 λy H2=>tx σ H2 λz H3=>∃en ep Ra k,H3 a=wP (.ext (uf a en ep))/\ci P w H3 en Ra/\Uc H3 y k/\en.size<DP/\(∀v,Oa Ra k=wP v->Q v H3)/\(Oa Ra k=yP->∀bx jC,ci P w (upd H3 a (.ext (uf a bx jC))) bx (Ra++[(k,z)])->Q z (upd H3 a (.ext (uf a bx jC)))))
def TK(P:HP)(w:KP)(O U Y:TE):TE:=λJ H Q=>O J H (SK P w U Y J Q)
inductive UK(P:HP)(w:KP)(Q:VK)(x y:V)(H2:Hp):Prop|mk(a en ep Ra k v)(_:x=.ref a)(_:H2 a=wP (.ext (uf a en ep)))(_:ci P w H2 en Ra)(_:Uc H2 y k)(_:Oa Ra k=wP v)(_:Q v H2)
def WK(P:HP)(w:KP)(O U:TE):TE:=λJ H Q=>O J H λx Y=>U J Y (UK P w Q x)
section
variable{X:Cx}{P:HP}{w:KP}{o e f:UP}{td ty tx:TE}{apos Jb pos:sQ}
def YK:PE X (.Dict [] [] pos) RK:=⟨λJ s O H Q I h=>
 zR ⟨.ref s.heap.objs.size,_,I.laid (λ_ _ q=>Ta _ q) (xa _) (Vw ⟨rm.mpr (Dc (Ab I.big)),Tb _,_,Hb _ rfl,⟨rfl,rfl,rfl⟩,rfl⟩),rfl,h _ (I.za.fresh (xa _))⟩⟩
def ZK(o0:X.prog=P)(p0:X.w=w)(U:X.A.units+8<MP)(Y:PE X o td)(hi:PE X e ty)(a0:ft e):PE X (.Subscript o e pos) (WK P w td ty):=by
 constructor;intro J s O H Q I h;refine Bz F.slot_dict_getitem.lookup a0 (Aa (Y J s O H _ I h) ?_);rintro u s1⟨x,b0,c0,d0,q1⟩;refine Aa (hi J s1 O b0 _ c0 q1) ?_;rintro q0 r0⟨y,e0,f0,g0,a,s0,ep,t0,k,v,ex,h0,i0,j0,l0,q2⟩;subst ex;obtain rfl:u=Value.ref a:=d0;exact PK U f0 h0 i0 j0 g0 l0 λu0 v0 m0 n0=>⟨v,e0,m0,n0,q2⟩
def aL(C0:X.prog=P)(D0:X.w=w)(f0:X.A.units+8<MP)(g0:PE X o td)(h0:PE X e ty)(i0:PE X f tx)(m:M2 X o "setdefault" apos e f Jb):PE X (.Call (.Attribute o "setdefault" apos) [e,f] [] Jb) (TK P w td ty tx):=by
 constructor;intro J s O H Q I h;refine rR m.base m.Kb m.line Mr ss F.type_dict_setdefault (Aa (g0 J s O H _ I h) ?_);rintro u s1⟨x,j0,a0,l0,a,m0,ep,ex,U,q1⟩;subst ex;obtain rfl:u=Value.ref a:=l0;obtain⟨⟨_,_,b0,c0,d0,_⟩,_⟩:=a0.za a _ U;refine⟨⟨b0,c0,d0.1⟩,λb q=>by cases q;exact⟨b0,c0,d0.2.1⟩,?_⟩;rw[m.trees];refine Ip rfl (Ep (xj (Aa (h0 J s1 O j0 _ a0 q1) ?_)));rintro F0 n0⟨y,o0,p0,q0,q2⟩;refine xj (Aa (i0 J n0 O o0 _ p0 q2) ?_);rintro G0 I0⟨z,r0,s0,e0,m0,ep,J0,k,U,t0,u0,v0,q3,w0⟩;refine Wl ?_;exact QK f0 s0 U t0 u0 q0 e0 v0 (λv K0 x0 l Y y0=>⟨v,r0,Y,y0,q3 v l⟩) λl z0 A0 x0 B0 Y=>⟨z,_,Y,e0,w0 l z0 A0 B0⟩
end
abbrev di(h:NP)(z TI TO:BP)(J O:xP):Prop:=h.get? z=wP {cls:=.type "zip",dict:=yP,data:=.fields #[J,O,.bool GP,.ref TI,.ref TO],slots:=#[]}
section
variable{P:HP}{w:KP}{K:W.Frag}
def bL(h:Q (s.heap.get? a) s):wpAny (FP P w) A (loadIfAlive a) Q E s:=
 λJ p _=>by show Sem.wp _ _ (.loadIfAlive a .pure) _ _ _ _;exact h
def kC{A:LP}{E:xP->zP->Prop}{s:zP}{z TI TO j0 g0:BP}{J O a b:xP}{Q:Fin->zP->Prop}(s0:TO≠z)(hz:di s.heap z TI TO J O)(t0:J=.none\/∃p:BP,J=ZP p)(u0:dR s.heap TI (.ref j0) (.ref g0))(D0:dR s.heap TO a b)
  (h:∀h0 J O,di h0 z TI TO J O->Heap.SameBut z s.heap h0->
   wpAny (FP P w) A (Builtin.SmallTypes.nextOf (.ref j0)) (λx a0=>di a0.heap z TI TO J O/\dR a0.heap TO a b/\∀b0 c d,dR b0 TO c d->Heap.SameBut TO a0.heap b0->
    wpAny (FP P w) A (Builtin.SmallTypes.nextOf (.ref g0)) (λy U=>di U.heap z TI TO J O/\dR U.heap TO c d/\∀Y l0 i0 c d,dR Y TO c d->Heap.SameBut TO U.heap Y->
      Heap.SameBut z (Y.push {cls:=.type "tuple",data:=.seq #[x,y]}) l0->Heap.SameBut z l0 i0->(∃J O,di i0 z TI TO J O/\(J=.none\/∃p:BP,J=ZP p))->Q (.done (.ret (.ref Y.objs.size))) {U with heap:=i0})
     (λe U=>di U.heap z TI TO J O/\∀Y,Heap.SameBut z U.heap Y->E e {U with heap:=Y}) {a0 with heap:=b0})
    (λe a0=>di a0.heap z TI TO J O/\∀b0,Heap.SameBut z a0.heap b0->E e {a0 with heap:=b0}) {s with heap:=h0}):
  wpAny (FP P w) A (Builtin.«zip.__next__» ⟨[.ref z],[]⟩) Q E s:=by
 have c0:∀{c:BP}{g:NP},Heap.SameBut c g g:=⟨rfl,λ_ _=>rfl⟩;have free:wpAny (FP P w) A (Builtin.SmallTypes.ownedTupleIsFree (.ref z)) (λr s'=>(r=CP/\s'=s)\/(r=GP/\(∃p:BP,J=ZP p)/\∃g O,s'={s with heap:=g}/\di g z TI TO J O/\Heap.SameBut z s.heap g)) E s:=by
  refine ba (Uj hz rfl rfl ?_);rcases t0 with rfl|⟨p,rfl⟩
  ·exact ca (.inl ⟨rfl,rfl⟩)
  ·refine ba (bL ?_);cases s.heap.get? (p:Int).toNat with
   |none=>exact ca (.inl ⟨rfl,rfl⟩)
   |some o=>
    refine ba (Uj hz rfl (x:=O) rfl ?_);by_cases e:(O !=.bool CP)=CP
    ·rw[wa e];exact ba (ho hz (by simp) λg q k=>ca (.inr (⟨rfl,⟨p,rfl⟩,nx5 g (.bool CP) rfl q k⟩)))
    ·rw[ma e];exact ca (.inr (⟨rfl,⟨p,rfl⟩,nx5 s.heap O rfl hz c0⟩))
 refine ba (VQ rfl ?_);refine ba (Uj hz rfl (x:=.bool GP) rfl (ba (Uj hz rfl rfl (ba (qg u0 rfl (ba (Aa free λr s' v0=>?_)))))));rcases v0 with⟨rfl,rfl⟩|⟨rfl,w0,g,q0,rfl,x0,k⟩
 ·refine ba (Ye (ba (Uj hz rfl rfl (ba (ho hz (by simp) λh0 q1 k1=>ba ?_)))));refine ba (ba (wpAny_onRaise (ba (Pc (h h0 .ellipsis O q1 k1) (λx a0 d0=>?_) (by rintro e a0⟨q2,o0⟩;exact ho q2 (by simp) λb0 _ k3=>o0 b0 k3)))));revert d0;refine ea3 ?_;rintro q2 m0 d0;refine ca (ba (qg m0 rfl (ba (wpAny_updateSeq_pair m0 λb0 t3 k3=>ba (Ii (ca (ba (ba (wpAny_onRaise ?_)))))))));refine ba (Pc (d0 b0 _ _ t3 k3) (λy U e0=>?_) (by rintro e U⟨f0,p0⟩;exact ho f0 (by simp) λY _ k5=>p0 Y k5));revert e0;refine ea3 ?_;rintro f0 n0 e0;refine ca (ba (qg n0 rfl (ba (wpAny_updateSeq_pair n0 λY r0 k5=>ba (Ii (ca (ca (ba (qg r0 rfl (ba (Kp ?_ Za)))))))))));have y0:=k5.extBut _ _ s0.symm f0;have out:wpAny (FP P w) A (Builtin.SmallTypes.ownedTupleHandOut (.ref z) (.ref Y.objs.size)) (λ_ s'=>Q (.done (.ret (.ref Y.objs.size))) s') E {U with heap:=Y.push {cls:=.type "tuple",data:=.seq #[x,y]}}:=by
   refine ba (ho (Ta _ y0) (by simp) λl0 z0 A0=>ho z0 (by simp) λi0 B0 C0=>e0 Y l0 i0 _ _ r0 k5 A0 C0 (nx0 _ _ B0 (.inr ⟨_,rfl⟩)))
  exact ba (Aa out λ_ s' q=>ca q)
 ·refine ba ?_;rw[<-Rj,show(#[Value.ref j0,Value.ref g0]:Array xP).toList=[Value.ref j0,Value.ref g0]from rfl,oe];refine ba (ba (Jc (ba (Pc (h g J q0 x0 k) (λx a0 d0=>?_) (by rintro e a0⟨q2,o0⟩;exact o0 _ c0)))));revert d0;refine ea3 ?_;rintro q2 m0 d0;refine ca (ca ?_);show wpAny _ _ (forIn [Value.ref g0] _ _) _ _ _;rw[oe];refine ba (ba (Jc (ba (Pc (d0 a0.heap _ _ m0 c0) (λy U e0=>?_) (by rintro e U⟨f0,p0⟩;exact p0 _ c0)))));revert e0;refine ea3 ?_;rintro f0 n0 e0;refine ca (ca (ca (ba (Kp ?_ Za))));exact ca (e0 U.heap _ _ _ _ n0 c0 c0 c0 (nx0 J q0 (Ta _ f0) (.inr w0)))
def cL{z TI TO:BP}(hz:di s.heap z TI TO J O)(h:Q (.ref z) s):wpAny (FP P w) A (JQ (.ref z)) Q E s:=
 have t:=⟨_,hz,rfl⟩
 gq t F.slot_zip_iter (zd F.slot_zip_iter t F.entry_zip_iter (ca (nx12 _ rfl ("zip") _ t Qp.lookup h)) (F.args_zip_iter_1 _))
def dL{z TI TO f0 g0:BP}(D:hw z TI TO f0 g0)(i0:Src P w K m1 f0 A0)(m0:Src P w K n1 g0 o1):
  wl P w K (.Name n I1) (gw m1 n1) [z,TI,TO,f0,g0] z (λi h=>(∃a0 c0,di h z TI TO a0 c0/\(a0=.none\/∃p:BP,a0=ZP p))/\dR h TI (.ref f0) (.ref g0)/\(∃a b,dR h TO a b)/\A0 i h/\o1 i h)where
 mem:=by simp
 obj:=by
  rintro i h;refine ebC ?_;rintro⟨_,_,hz,_⟩o0⟨a,b,p0⟩q0 r0 c d0;simp only[jb,qj,uj]at d0;rcases d0 with e|e|e|e|e
  ·simp_all
  ·simp_all
  ·simp_all
  ·rw[e];exact i0.obj i h q0
  ·rw[e];exact m0.obj i h r0
 keep:=λi h h' ⟨⟨a0,c0,hz,q⟩,o0,⟨a,b,p0⟩,q0,r0⟩k=>⟨nx0 a0 c0 (k _ (by simp) _ hz) q,by grind,by grind,i0.keep i h h' q0 (k f0 (by simp)),m0.keep i h h' r0 (k g0 (by simp))⟩
 item:=by
  intro X G0 I0 J0 d0 i J s O H E I j0 st B0;subst G0 I0 J0;revert st;refine ebC ?_;rintro⟨a0,c0,hz,K0⟩o0⟨a,b,p0⟩q0 r0;have v0:s.TypeIs (.ref z) "zip":=⟨_,hz,rfl⟩;have Y:∀{s':zP}{H':Hp}{h':NP}{t':Nat}{b0:BP},b0∈[z,TI,TO,f0,g0]->H' b0=yP->Inv X J O H' s'->Heap.SameBut b0 s'.heap h'->Inv X J O H' {s' with heap:=h',toks:=t'}:=λ{s' H' h' t' b0}L0 p1 w0 x0=>by
   refine eaD ?_ (j0 b0 L0);rintro a0 c0 r1 M0 N0 O0;exact w0.turned (λb o P0 e=>(x0.2 b P0).trans e) p1 c0 M0 N0 O0
  have W0:=(j0 z (by simp)).1;refine ba (Ng (Li v0 Qp (zd Qp v0 F.entry_zip_next (kC D.TOz hz K0 o0 p0 λn0 _ _ q1 k1=>?_) (F.args_zip_next_1 _))));have s0:=Y (t':=s.toks) (by simp) W0 I k1;refine i0.item X rfl rfl rfl _ i J {s with heap:=n0} O H _ _ s0 (i0.keep i _ _ q0 λo e=>k1.extBut _ _ D.i1z e) B0.1 λx C0 u0 e0 X0 Y0 Q0 k2=>⟨k2.extBut _ _ D.i1z.symm q1,k2.extBut _ _ D.TOi1 (k1.extBut _ _ D.TOz p0),λt0 _ _ Z0 k3=>?_⟩
  have R0:Inv X J O H {s with heap:=u0,toks:=e0}:=Y (s':={s with heap:=n0}) (by simp) (j0 f0 (by simp)).1 s0 k2;have y0:Inv X J O H {s with heap:=t0,toks:=e0}:=Y (s':={s with heap:=u0,toks:=e0}) (by simp) (j0 TO (by simp)).1 R0 k3;have q3:=k3.extBut _ _ D.TOz.symm (k2.extBut _ _ D.i1z.symm q1);refine m0.item X rfl rfl rfl _ i J {s with heap:=t0,toks:=e0} O H _ _ y0 (m0.keep i _ _ r0 λo e=>k3.extBut _ _ D.TOi2.symm (k2.extBut _ _ D.i12.symm (k1.extBut _ _ D.i2z e))) B0.2 λy S0 T0 l0 t1 u1 a1 h0=>⟨h0.extBut _ _ D.i2z.symm q3,h0.extBut _ _ D.TOi2 Z0,λU b1 u8 _ _ c1 k5 d1 e1 v1=>⟨_,rfl,ca ⟨_,rfl,?_⟩⟩⟩
  have w1:Inv X J O H {s with heap:=T0,toks:=l0}:=Y (s':={s with heap:=t0,toks:=e0}) (by simp) (j0 g0 (by simp)).1 y0 h0;have f1:Inv X J O H {s with heap:=U,toks:=l0}:=Y (s':={s with heap:=T0,toks:=l0}) (by simp) (j0 TO (by simp)).1 w1 k5;have all:∀c o,c≠z->c≠TO->c≠f0->c≠g0->s.heap.get? c=wP o->U.get? c=wP o:=λc o x1 g1 y1 z1 e=>k5.extBut _ _ g1 (h0.extBut _ _ z1 (k3.extBut _ _ g1 (k2.extBut _ _ y1 (k1.extBut _ _ x1 e))))
  have lt:∀c∈[z,TI,TO,f0,g0],c<U.objs.size:=λc d0=>by
   simp only[jb,qj,uj]at d0;rcases d0 with e|e|e|e|e
   ·rw[e];exact Xa (k5.extBut _ _ D.TOz.symm (h0.extBut _ _ D.i2z.symm q3))
   ·rw[e];exact Xa (all _ _ D.TIz D.TITO D.TIi1 D.TIi2 o0)
   ·rw[e];exact Xa c1
   ·rw[e];obtain⟨o,z0,_⟩:=i0.obj _ _ Q0;exact Xa (k5.extBut _ _ D.TOi1.symm (h0.extBut _ _ D.i12 (k3.extBut _ _ D.TOi1.symm z0)))
   ·rw[e];obtain⟨o,z0,_⟩:=m0.obj _ _ a1;exact Xa (k5.extBut _ _ D.TOi2.symm z0)
  have h1:U.get? U.objs.size=yP:=bq (xa _);have A1:Inv X J O (upd H U.objs.size (.tup [x,y])) {s with heap:=U.push {cls:=.type "tuple",data:=.seq #[C0,S0]},toks:=l0}:=
   pH (s:={s with heap:=U,toks:=l0}) f1 (λb u e=>Ta _ e) h1 (⟨by show 2<=DP;decide,[C0,S0],.cons X0 (.cons t1 .nil),nx18 _ (Hb _ rfl) rfl _ rfl⟩)
  have i1:(upd H U.objs.size (.tup [x,y])) z=yP:=by rw[oa (by grind)];exact W0
  have B1:Inv X J O (upd H U.objs.size (.tup [x,y])) {s with heap:=b1,toks:=l0}:=Y (s':={s with heap:=U.push {cls:=.type "tuple",data:=.seq #[C0,S0]},toks:=l0}) (by simp) i1 A1 d1;have C1:Inv X J O (upd H U.objs.size (.tup [x,y])) {s with heap:=u8,toks:=l0}:=Y (s':={s with heap:=b1,toks:=l0}) (by simp) i1 B1 e1;have D0:∀c o,c≠z->U.get? c=wP o->u8.get? c=wP o:=λc o n e=>e1.extBut _ _ n (d1.extBut _ _ n (Ta _ e))
  refine ca (nx19 (.ref U.objs.size) _ C1 rfl (nx6 U.objs.size x y Y0 u1 rfl (Pm f1 h1) rfl) ⟨v1,D0 _ _ D.TIz (all _ _ D.TIz D.TITO D.TIi1 D.TIi2 o0),nx8 _ _ (D0 _ _ D.TOz c1),
   i0.keep _ _ _ Q0 λo e=>D0 _ o D.i1z (k5.extBut _ _ D.TOi1.symm (h0.extBut _ _ D.i12 (k3.extBut _ _ D.TOi1.symm e))),m0.keep _ _ _ a1 λo e=>D0 _ o D.i2z (k5.extBut _ _ D.TOi2.symm e)⟩ λc d0=>?_)
  rw[oa (Ab (lt c d0))];exact(j0 c d0).1
 done:=by
  intro X G0 I0 J0 d0 i J s O H E I j0 st B0;subst G0 I0 J0;revert st;refine ebC ?_;rintro⟨a0,c0,hz,K0⟩o0⟨a,b,p0⟩q0 r0;have j1:X.A.in1.handled=yP:=I.ok.hd d0;have v0:s.TypeIs (.ref z) "zip":=⟨_,hz,rfl⟩;have Y:∀{s':zP}{h':NP}{t':Nat}{b0:BP},b0∈[z,TI,TO,f0,g0]->Inv X J O H s'->(∀b o,b≠b0->s'.heap.get? b=wP o->h'.get? b=wP o)->Inv X J O H {s' with heap:=h',toks:=t'}:=λ{s' h' t' b0}L0 w0 x0=>by
   refine eaD ?_ (j0 b0 L0);rintro a0 c0 r1 M0 N0 O0;exact w0.turned x0 a0 c0 M0 N0 O0
  have same:∀{b0:BP}{g h:NP},Heap.SameBut b0 g h->∀b o,b≠b0->g.get? b=wP o->h.get? b=wP o:=λx0 b o P0 e=>(x0.2 b P0).trans e
  refine ba (Ng (Li v0 Qp (zd Qp v0 F.entry_zip_next (kC D.TOz hz K0 o0 p0 λn0 a0 c0 q1 k1=>?_) (F.args_zip_next_1 _))));have s0:Inv X J O H {s with heap:=n0}:=Y (by simp) I (same k1);have A0:=i0.keep i _ _ q0 λo e=>k1.extBut _ _ D.i1z e
  have l1:∀{g:NP}{F0:Nat}{e:BP},Inv X J O H {s with heap:=g,toks:=F0}->di g z TI TO a0 c0->(∃o,g.get? e=wP o/\o.cls=.type "StopIteration")->di g z TI TO a0 c0/\∀U0,Heap.SameBut z g U0->
    wpAny (FP X.prog X.w) X.A ((do if<-NR (.ref e) (.type "StopIteration")then return yP else throw (.ref e)):SR (Option xP)) (λr s1=>r=yP/\Inv X J O H s1) E {s with heap:=U0,toks:=F0}:=λ{g F0 e}w0 q⟨o,z0,D1⟩=>⟨q,λU0 k5=>by
   have E1:e≠z:=λy=>by grind
   exact ba (Gp ⟨o,k5.extBut _ _ E1 z0,D1⟩ isSubtype_stop (ca ⟨rfl,Y (s':={s with heap:=g,toks:=F0}) (by simp) w0 (same k5)⟩))⟩
  rcases B0 with F1|⟨G1,H1⟩
  ·exact i0.done X rfl rfl rfl _ j1 i J {s with heap:=n0} O H _ _ s0 A0 F1 λu0 e k2 V0=>l1 (Y (s':={s with heap:=n0}) (by simp) s0 k2) (k2 _ _ D.i1z.symm q1) V0
  ·refine i0.item X rfl rfl rfl _ i J {s with heap:=n0} O H _ _ s0 A0 G1 λx C0 u0 e0 X0 Y0 Q0 k2=>⟨k2.extBut _ _ D.i1z.symm q1,k2.extBut _ _ D.TOi1 (k1.extBut _ _ D.TOz p0),λt0 _ _ Z0 k3=>?_⟩
   have R0:Inv X J O H {s with heap:=u0,toks:=e0}:=Y (s':={s with heap:=n0}) (by simp) s0 (same k2);have y0:Inv X J O H {s with heap:=t0,toks:=e0}:=Y (s':={s with heap:=u0,toks:=e0}) (by simp) R0 (same k3);refine m0.done X rfl rfl rfl _ j1 i J {s with heap:=t0,toks:=e0} O H _ _ y0 (m0.keep i _ _ r0 λo e=>k3.extBut _ _ D.TOi2.symm (k2.extBut _ _ D.i12.symm (k1.extBut _ _ D.i2z e))) H1 λT0 e h0 V0=>?_
   exact l1 (Y (s':={s with heap:=t0,toks:=e0}) (by simp) y0 h0) (h0 _ _ D.i2z.symm (k3.extBut _ _ D.TOz.symm (k2.extBut _ _ D.i1z.symm q1))) V0
 self:=by rintro _ _ _ _ _⟨⟨_,_,hz,_⟩,_⟩h;exact cL hz h
end
section
variable{X:Cx}
def eL{K:W.Frag}{p pos:sQ}{n:Str}{Y:sQ}(a0:X.K=K)(b0:Gl X "zip")(c0:X.mg "zip"=yP)(d0:PA X [a,b] e0)(f0:JP [a,b] X.env=[(GP,XP a X.env),(GP,XP b X.env)]:=by rfl)(O:JP [b] X.env=[(GP,XP b X.env)]:=by rfl):
  PI X (.Name n Y) (.Call (.Name "zip" p) [a,b] [] pos) (HK K e0):=by
 constructor;intro g0 s h0 H R I h;subst a0;refine Call_ (Sg I b0 c0 boot_zip (jm (Aa (d0 pos g0 s h0 H _ I h) ?_) (by rw[f0,O]) (by rw[O];rfl)));rintro us s1⟨vs,i0,J,j0,q1⟩;revert q1;refine eaE ?_;rintro x y l0 m0 rfl n0 o0 q;refine ea0 ?_ (zo j0);rintro u C0 rfl p0 q0;refine ea7 ?_ (bC J n0 p0);rintro D0 r0 s0 k1;refine ea7 ?_ (bC J o0 q0);rintro F0 t0 u0 k2;refine GK r0 t0 s0 u0 λg z TI TO v0 w0 Z=>?_
 obtain⟨G0,x0,y0⟩:=k1 _ _ Z.one;obtain⟨I0,z0,A0⟩:=k2 _ _ Z.two;have B0:=J.kept (t':=s1.toks) Z.keep;exact wpAny_pyIter_zip Z.zip ⟨z,[z,TI,TO,v0,w0],_,gw l0 m0,i0,rfl,B0,dL Z.ap x0 z0,⟨nx0 _ _ Z.zip (.inl rfl),Z.ins,nx8 _ _ Z.outs,y0,A0⟩,λb U=>J.vg (Z.young b U) (J.za.fresh (Z.young b U)),q⟩
end
end My
namespace My
namespace Ps
open PySem PyProof.Rows
structure Cm(prog:HP)(w:KP)(A:LP)(E:xP->zP->Prop)(s:zP)where
 κ:SortKind
 gd:OP->Prop
 lt:∀{st:RP}{p q:OP}{Q:Option Bool->RP->Prop},kindOf st=κ->gd p->gd q->(∀b,Q (wP b) st)->UQ (FP prog w) A E s (lt' p q) Q st
section
variable{prog:HP}{w:KP}{s:zP}{A:LP}{E:xP->zP->Prop}{C:Cm prog w A E s}
def Uf{J α γ:Type}(R:γ->J->Prop)(j:γ->StateT J SR α){m:StateT J SR α}{Q:α->J->Prop}{st:J}(a:∀x st,R x st->UQ (FP prog w) A E s (j x) Q st)(h:(∀x st,R x st->UQ (FP prog w) A E s (j x) Q st)->UQ (FP prog w) A E s m Q st):UQ (FP prog w) A E s m Q st:=h a
def Ro{left:Bool}{key:OP}{O:Array OP}{b n hint:Nat}{Q:Option Nat->RP->Prop}{st:RP}(c0:kindOf st=C.κ)(d0:C.gd key)(m0:b+n<=O.size)(hi:∀x∈O.toList,C.gd x)(g0:hint<n)(h:∀m,m<=n->Q (wP m) st):
  UQ (FP prog w) A E s (RI left key O b n hint) Q st:=by
 have ask:∀{R:Option Bool->RP->Prop}{i:Nat},i<n->(∀b,R (wP b) st)->UQ (FP prog w) A E s (do
   let x<-elem' O (b+i)
   if left=CP then lt' x key else do
    let y<-lt' key x
    pure (Option.map (λz=>!z) y)) R st:=λ{R i}n0 U=>by
  refine ua (be (zj O (b+i) (by lia)) ?_);have g:=hi _ (Xp (xs:=O) (i:=b+i) (by lia));cases left
  ·exact ua (C.lt c0 d0 g λb=>Ja (U _))
  ·exact C.lt c0 g d0 U
 have bin:∀(f:Nat->Option (Option Nat)×Nat×Nat->StateT RP SR (ForInStep (Option (Option Nat)×Nat×Nat)))(R:Option (Option Nat)×Nat×Nat->RP->Prop)(lo hi:Nat),(∀x l r (R:ForInStep (Option (Option Nat)×Nat×Nat)->RP->Prop),r<=n->(∀l Y,Y<=r->R (ForInStep.done (yP,l,Y)) st/\R (ForInStep.yield (yP,l,Y)) st)->UQ (FP prog w) A E s (f x (yP,l,r)) R st)->
   hi<=n->(∀l m,m<=n->R (yP,l,m) st)->UQ (FP prog w) A E s (forIn [:n] (yP,lo,hi) f) R st:=λf R lo hi h0 U e0=>by
  refine Je (I:=λx c J=>J=st/\∃l r,c=(yP,l,r)/\r<=n) ?_ ?_ (⟨rfl,nx0 lo hi rfl U⟩)
  ·rintro x c J _ i0;refine ec6 ?_;rintro rfl l r rfl q;exact h0 x l r _ q λl Y h=>⟨e0 _ _ (Nb h q),rfl,nx0 _ _ rfl (Nb h q)⟩
  ·rintro c J⟨rfl,l,r,rfl,q⟩;exact e0 _ _ q
 refine ua (ask g0 λj0=>?_);cases j0;all_goals
  refine ua (Bf (Je (I:=λx c J=>J=st/\∃l o,c=(yP,l,o)) (Q:=λc J=>J=st/\∃l o,c=(yP,l,o)) ?_ (λ_ _ z=>z) (⟨rfl,nx8 0 1 rfl⟩)) ?_)
  ·rintro x c J _ i0;refine eaC ?_;rintro rfl l o rfl;refine pb (λ_=>Ja (⟨rfl,nx8 _ _ rfl⟩)) λa0=>ua (ask (by dsimp only at a0⊢;grind) λb0=>?_)
   cases b0<;>exact Ja (⟨rfl,nx8 _ _ rfl⟩)
  ·rintro c J;refine eaC ?_;rintro rfl l o rfl;refine ua (bin _ _ _ _ (λx l r R o0 f0=>pb (λ_=>Ja (f0 _ _ (xa _)).1) λa0=>ua (ask (by dsimp only at a0⊢;lia) λb0=>?_)) (by dsimp only;lia) λl m l0=>Ja (h m l0));dsimp only at a0;cases b0<;>exact Ja (f0 _ _ (by dsimp only;lia)).2
def Wv(a b:Array OP)(out:Array OP)(J O:Nat):Prop:=(out.toList++(a.toList.drop J++b.toList.drop O)).Perm (a.toList++b.toList)
def Wv.Vf{a b out:Array OP}{J O:Nat}(h:Wv a b out J O)(k:Nat):Wv a b (out++a.extract J (J+k)) (J+k) O:=by
 unfold Wv at h⊢;rw[og,Jo,<-List.drop_drop,ke,<-ke (List.take k _),Bi];exact h
def Wv.Wf{a b out:Array OP}{O J:Nat}(h:Wv a b out O J)(k:Nat):Wv a b (out++b.extract J (J+k)) O (J+k):=by
 unfold Wv at h⊢;refine .trans ?_ h;rw[og,Jo,ke];refine .append_left _ ?_;conv=>rhs;rw[<-Bi k (b.toList.drop J),List.drop_drop]
 rw[<-ke,<-ke];exact Zl.append_right _
def Wv.Rb{a b out:Array OP}{J O:Nat}(h:Wv a b out J O){x:OP}(e:a[J]?=wP x):Wv a b (out.push x) (J+1) O:=by
 have q:=h.Vf 1;unfold Wv at q⊢;rw[og,Jo,Cw (by rw[ee];exact e),<-om]at q;exact q
def Wv.ub{a b out:Array OP}{O J:Nat}(h:Wv a b out O J){x:OP}(e:b[J]?=wP x):Wv a b (out.push x) O (J+1):=by
 have q:=h.Wf 1;unfold Wv at q⊢;rw[og,Jo,Cw (by rw[ee];exact e),<-om]at q;exact q
def fL{a b:Array OP}{Q:Array OP->RP->Prop}{st:RP}(j0:kindOf st=C.κ)(u0:∀x∈a.toList,C.gd x)(v0:∀x∈b.toList,C.gd x)(U0:0<a.size)(N0:0<b.size)
  (h:∀(r:Array OP)J,cc st J->r.toList.Perm (a.toList++b.toList)->Q r J):UQ (FP prog w) A E s (SI a b) Q st:=by
 refine ua (Ji (Ye (And.intro rfl ?_)));have o0:∀{xs:Array OP}{i:Nat},i<xs.size->∃x,xs[i]?=wP x/\x∈xs.toList:=λ{xs i}hi=>⟨xs[i],by simp,by simp_all⟩
 have p0:∀{out:Array OP}{c0 d0:Nat}{J},cc st J->Wv a b out c0 d0->Q (out++a.extract c0++b.extract d0) J:=λO L=>h _ _ O (by
  rw[og,og,Kt,Kt,ke];exact L)
 have dl:∀{out:Array OP}{c0 d0:Nat}{J},cc st J->Wv a b out c0 d0->Q (out++b.extract d0++a.extract c0) J:=λO L=>h _ _ O (by
  rw[og,og,Kt,Kt,ke];exact(Zl.append_left _).trans L)
 have w0:∀{J},cc st J->kindOf J=C.κ:=λO=>O.kind.trans j0
 refine ea1 ?_ (o0 N0);rintro F0 G0 V0;refine ua (be G0 ?_);have x0:Wv a b #[F0] 0 1:=Wv.ub (out:=#[]) (show Wv a b #[] 0 0 from .refl _) G0;refine pb (λI0=>Ja (p0 (cc.refl _) x0)) λI0=>pb (λJ0=>Ja (dl (cc.refl _) x0)) λJ0=>?_
 have W0:1≠b.size:=by simpa using I0
 have X0:0+1≠a.size:=by simpa using J0
 refine ua (eg ?_);refine ua (Bf (Je (I:=λx c J=>cc st J/\∃out c0 d0 mg,c=(yP,out,c0,d0,mg)/\Wv a b out c0 d0/\c0+1<a.size/\d0<b.size/\x+1<=c0+d0) (Q:=λc J=>∃r o,c=(wP r,o)/\Q r J) ?step ?fin (⟨cc.refl _,nx17 (#[F0]) 0 1 _ rfl x0 (by lia) ⟨by lia,by lia⟩⟩)) ?post);case post=>
  rintro c J;refine ea8 ?_;rintro r o rfl q;exact Ja q
 case fin=>
  rintro c J;refine eaH ?_;rintro O out c0 d0 mg rfl L g0 e0 y0;lia
 case step=>
  rintro x c J _ Y0;refine eaH ?_;rintro O out c0 d0 mg rfl L g0 e0 y0;refine ua (Bf (Je (I:=λy c J=>cc st J/\∃l0 Y a0 ac f0,c=(yP,l0,Y,a0,ac,f0)/\Wv a b l0 Y a0/\Y+1<a.size/\a0<b.size/\c0+d0+y<=Y+a0) (Q:=λc J=>(∃r o,c=(wP r,o)/\Q r J)\/(cc st J/\∃l0 Y a0 ac f0,c=(yP,l0,Y,a0,ac,f0)/\Wv a b l0 Y a0/\Y+1<a.size/\a0<b.size/\c0+d0+1<=Y+a0)) ?step1 ?fin1 (⟨O,nx14 out c0 d0 0 0 rfl L g0 e0 (by lia)⟩)) ?post1);case fin1=>
   rintro c J;refine eb7 ?_;rintro O l0 Y a0 ac f0 rfl L g0 e0 y0;exact .inr (⟨O,nx14 l0 Y a0 ac f0 rfl L g0 e0 (by lia)⟩)
  case step1=>
   rintro y c J _ O0;refine eb7 ?_;rintro O l0 Y a0 ac f0 rfl L g0 e0 y0;refine ea1 ?_ (o0 e0);rintro P0 h0 z0;refine ea1 ?_ (o0 (xs:=a) (i:=Y) (by lia));rintro Q0 i0 A0;refine ua (be h0 (ua (be i0 (ua (C.lt (w0 O) (v0 _ z0) (u0 _ A0) λq=>?_)))));cases q
   ·refine ua (be i0 (pb (λc=>Ja (.inl (nx0 _ _ rfl (dl O (L.Rb i0))))) λc=>?_));have B0:Y+1+1≠a.size:=by simpa using c
    exact pb (λ_=>Ja (.inr (⟨O,nx14 _ (Y+1) a0 _ _ rfl (L.Rb i0) (by lia) e0 (by lia)⟩))) λ_=>Ja (⟨O,nx14 _ (Y+1) a0 _ _ rfl (L.Rb i0) (by lia) e0 (by lia)⟩)
   ·refine ua (be h0 (pb (λc=>Ja (.inl (nx0 _ _ rfl (p0 O (L.ub h0))))) λc=>?_));have B0:a0+1≠b.size:=by simpa using c
    exact pb (λ_=>Ja (.inr (⟨O,nx14 _ Y (a0+1) _ _ rfl (L.ub h0) g0 (by lia) (by lia)⟩))) λ_=>Ja (⟨O,nx14 _ Y (a0+1) _ _ rfl (L.ub h0) g0 (by lia) (by lia)⟩)
  case post1=>
   rintro c J (⟨r,o,rfl,q⟩|⟨O,l0,Y,a0,ac,f0,rfl,L,g0,e0,Z0⟩)
   ·exact Ja (nx0 r _ rfl q)
   refine ua (Ji (Ye (And.intro rfl ?_)));refine ua (Bf (Je (I:=λ_ c J=>cc st J/\∃m0 b0 U mg ac f0,c=(yP,m0,b0,U,mg,ac,f0)/\Wv a b m0 b0 U/\b0+1<a.size/\U<b.size/\Y+a0<=b0+U) (Q:=λc J=>(∃r o,c=(wP r,o)/\Q r J)\/(cc st J/\∃m0 b0 U mg ac f0,c=(yP,m0,b0,U,mg,ac,f0)/\Wv a b m0 b0 U/\b0+1<a.size/\U<b.size/\Y+a0<=b0+U)) ?step2 (λc J z=>.inr z) (⟨O,nx15 l0 Y a0 _ ac f0 rfl L g0 ⟨e0,xa _⟩⟩)) ?post2);case post2=>
    rintro c J (⟨r,o,rfl,q⟩|⟨O,m0,b0,U,mg,ac,f0,rfl,L,g0,e0,K0⟩)
    ·exact Ja (nx0 r _ rfl q)
    ·exact ua (ui (Ja (⟨O.trans ⟨rfl,rfl,rfl,rfl⟩,nx17 m0 b0 U _ rfl L g0 ⟨e0,by lia⟩⟩)))
   case step2=>
    rintro y c J _ O0;refine ec8 ?_;rintro O m0 b0 U mg ac f0 rfl L g0 e0 K0;refine ea1 ?_ (o0 e0);rintro P0 h0 z0
    extract_lets+onlyGivenNames s1 a1 b1 c1 d1 e1 f1 g1 h1 i1 j1 l1 q0
    obtain⟨j,n0⟩:∃j,j=q0:=⟨_,rfl⟩;rw[<-n0];refine Uf (λ_ t0=>t0=J) (j ()) (λg t0 z=>?_) λj0=>pb (λ_=>j0 _ _ rfl) λ_=>j0 _ _ rfl
    subst n0 z;refine ua (ui (ua (be h0 (ua (Ro (C:=C) (w0 (O.trans (cc.mk' t0 _))) (v0 _ z0) (by show b0+(a.size-b0)<=a.size;grind) u0 (by show 0<a.size-b0;grind) λk r0=>?_)))));replace r0:k<=a.size-b0:=r0;have sm:=λg=>O.trans (cc.mk' t0 g)
    dsimp-zeta+zetaDelta only
    extract_lets+onlyGivenNames ac q0
    obtain⟨j,n0⟩:∃j,j=q0:=⟨_,rfl⟩;rw[<-n0];refine Uf (γ:=Array OP×Nat) (λx L0=>cc st L0/\Wv a b x.1 x.2 U/\x.2+1<a.size/\Y+a0<=x.2+U) (λx=>j () x.1 x.2) (λ⟨m1,s0⟩L0⟨O,Lk,n1,o1⟩=>?_) λj0=>pb (λC0=>pb (λc=>Ja (.inl (nx0 _ _ rfl (dl (sm _) (L.Vf k))))) λc=>pb (λc=>Ja (.inl (nx0 _ _ rfl (p0 (sm _) (L.Vf k))))) λR0=>?_) λC0=>j0 (m0,b0) _ ⟨sm _,L,g0,K0⟩
    ·subst n0;refine ua (be h0 (pb (λc=>Ja (.inl (nx0 _ _ rfl (p0 O (Lk.ub h0))))) λS0=>?_));have p1:U+1≠b.size:=by simpa using S0
     refine ea1 ?_ (o0 (xs:=a) (i:=s0) (by lia));rintro Q0 i0 A0;refine ua (be i0 (ua (Ro (C:=C) (w0 O) (u0 _ A0) (by show U+1+(b.size-(U+1))<=b.size;grind) v0 (by show 0<b.size-(U+1);grind) λk r0=>?_)));replace r0:k<=b.size-(U+1):=r0;dsimp-zeta+zetaDelta only
     extract_lets+onlyGivenNames ac r1 q0
     obtain⟨j,n0⟩:∃j,j=q0:=⟨_,rfl⟩;rw[<-n0];refine Uf (γ:=Array OP×Nat) (λx st4=>cc st st4/\Wv a b x.1 s0 x.2/\x.2<b.size/\U<x.2) (λx=>j () x.1 x.2) (λ⟨t1,M0⟩st4⟨O,D0,u1,v1⟩=>?_) λj0=>pb (λC0=>pb (λc=>Ja (.inl (nx0 _ _ rfl (p0 O ((Lk.ub h0).Wf k))))) λc=>?_) λC0=>j0 (_,U+1) _ ⟨O,Lk.ub h0,by show U+1<_;lia,Nat.lt_succ_self _⟩
     ·subst n0;refine ua (be i0 (pb (λc=>Ja (.inl (nx0 _ _ rfl (dl O (D0.Rb i0))))) λT0=>?_));have w1:s0+1+1≠a.size:=by simpa using T0
      exact pb (λ_=>Ja (.inr (⟨O,nx15 _ (s0+1) M0 _ _ _ rfl (D0.Rb i0) (by lia) ⟨by lia,by lia⟩⟩))) λ_=>Ja (⟨O,nx15 _ (s0+1) M0 _ _ _ rfl (D0.Rb i0) (by lia) ⟨by lia,by lia⟩⟩)
     ·have B0:U+1+k≠b.size:=by simpa using c
      exact j0 (_,U+1+k) _ ⟨O,(Lk.ub h0).Wf k,by show U+1+k<_;grind,by show U<U+1+k;lia⟩
    ·have B0:b0+k+1≠a.size:=by simpa using c
     have x1:b0+k≠a.size:=by simpa using R0
     exact j0 (_,b0+k) _ ⟨sm _,L.Vf k,by show b0+k+1<_;grind,by show _<=b0+k+U;lia⟩
def Hv(a b:Array OP)(out:Array OP)(J O:Nat):Prop:=(out.toList++(a.toList.take J++b.toList.take O)).Perm (a.toList++b.toList)
def Hv.Vf{a b out:Array OP}{J O:Nat}(h:Hv a b out J O){k:Nat}(U:k<=J):Hv a b (out++(a.extract k J).reverse) k O:=by
 unfold Hv at h⊢;refine .trans ?_ h;rw[og,aq,Nt,ke];refine .append_left _ ?_;conv=>rhs;rw[<-Bi k (a.toList.take J),List.take_take,eo U]
 rw[<-ke];exact((Zl.trans ((Hs _).append_left _))).append_right _
def Hv.Wf{a b out:Array OP}{O J:Nat}(h:Hv a b out O J){k:Nat}(U:k<=J):Hv a b (out++(b.extract k J).reverse) O k:=by
 unfold Hv at h⊢;refine .trans ?_ h;rw[og,aq,Nt,ke];refine .append_left _ ?_;conv=>rhs;rw[<-Bi k (b.toList.take J),List.take_take,eo U,<-ke]
 exact Zl.trans ((Hs _).append_left _)
def lC{xs out:Array OP}{n:Nat}{x:OP}(e:xs[n]?=wP x):(out++(xs.extract n (n+1)).reverse)=out.push x:=by
 refine Array.toList_inj.mp ?_;rw[og,aq,Jo,Cw (by rw[ee];exact e),om];rfl
def Hv.Rb{a b out:Array OP}{J O:Nat}(h:Hv a b out (J+1) O){x:OP}(e:a[J]?=wP x):Hv a b (out.push x) J O:=by
 have q:=h.Vf (qi J);rw[lC e]at q;exact q
def Hv.ub{a b out:Array OP}{O J:Nat}(h:Hv a b out O (J+1)){x:OP}(e:b[J]?=wP x):Hv a b (out.push x) O J:=by
 have q:=h.Wf (qi J);rw[lC e]at q;exact q
def gL{a b:Array OP}{Q:Array OP->RP->Prop}{st:RP}(g0:kindOf st=C.κ)(x0:∀x∈a.toList,C.gd x)(y0:∀x∈b.toList,C.gd x)(c1:0<a.size)(d1:0<b.size)
  (h:∀(r:Array OP)U,cc st U->r.toList.Perm (a.toList++b.toList)->Q r U):UQ (FP prog w) A E s (UI a b) Q st:=by
 refine ua (Ji (Ye (And.intro rfl ?_)));have m0:∀{xs:Array OP}{i:Nat},i<xs.size->∃x,xs[i]?=wP x/\x∈xs.toList:=λ{xs i}hi=>⟨xs[i],by grind,by grind⟩
 have n0:∀{out:Array OP}{c0 o0:Nat}{U},cc st U->Hv a b out c0 o0->Q (a.extract 0 c0++b.extract 0 o0++out.reverse) U:=λO L=>h _ _ O (by
  rw[og,og,Mt,Mt,aq];exact((Hs _).append_left _).trans (Zl.trans L))
 have s0:∀{out:Array OP}{c0 o0:Nat}{U},cc st U->Hv a b out c0 o0->Q (b.extract 0 o0++a.extract 0 c0++out.reverse) U:=λO L=>h _ _ O (by
  rw[og,og,Mt,Mt,aq];exact((Hs _).append_left _).trans (Zl.trans ((Zl.append_left _).trans L)))
 have z0:∀{U},cc st U->kindOf U=C.κ:=λO=>O.kind.trans g0
 obtain⟨c0,I0⟩:∃n,a.size=n+1:=⟨a.size-1,by lia⟩;refine ea1 ?_ (m0 (xs:=a) (i:=c0) (by simp_all));rintro J0 K0 e1;rw[I0];refine ua (be K0 ?_);have A0:Hv a b #[J0] c0 b.size:=Hv.Rb (out:=#[]) (by
  unfold Hv;rw[<-I0,<-Lc,<-Lc,Ic,Ic];exact .refl _) K0
 refine pb (λL0=>Ja (n0 (cc.refl _) A0)) λL0=>pb (λt0=>Ja (s0 (cc.refl _) A0)) λt0=>?_
 have f1:c0≠0:=by simpa using L0
 have R0:b.size≠1:=by simpa using t0
 refine ua (eg ?_);refine ua (Bf (Je (I:=λx c U=>cc st U/\∃n m out mg,c=(yP,n+1,m+2,out,mg)/\Hv a b out (n+1) (m+2)/\n<=c0/\m+2<=b.size/\n+m+3+x<=c0+b.size) (Q:=λc U=>∃r o,c=(wP r,o)/\Q r U) ?step ?fin (⟨cc.refl _,nx17 (c0-1) (b.size-2) (#[J0]) _ (by rw[show c0-1+1=c0 by lia,show b.size-2+2=b.size by lia];rfl) (by rw[show c0-1+1=c0 by lia,show b.size-2+2=b.size by lia];exact A0) (by simp_all) ⟨by lia,by lia⟩⟩)) ?post);case post=>
  rintro c U;refine ea8 ?_;rintro r o rfl q;exact Ja q
 case fin=>
  rintro c U;refine eaH ?_;rintro O n m out mg rfl L S0 T0 u0;lia
 case step=>
  rintro x c U _ g1;refine eaH ?_;rintro O n m out mg rfl L S0 T0 u0;refine ua (Bf (Je (I:=λy c U=>cc st U/\∃Y J h0 ac d0,c=(yP,Y+1,J+2,h0,ac,d0)/\Hv a b h0 (Y+1) (J+2)/\Y<=n/\J<=m/\Y+J+y<=n+m) (Q:=λc U=>(∃r o,c=(wP r,o)/\Q r U)\/(cc st U/\∃Y J h0 ac d0,c=(yP,Y+1,J+2,h0,ac,d0)/\Hv a b h0 (Y+1) (J+2)/\Y<=n/\J<=m/\Y+J+1<=n+m)) ?step1 ?fin1 (⟨O,nx14 n m out 0 0 rfl L (by lia) (by lia) (by lia)⟩)) ?post1);case fin1=>
   rintro c U;refine eb7 ?_;rintro O Y J h0 ac d0 rfl L u0 M0 U0;exact .inr (⟨O,nx14 Y J h0 ac d0 rfl L u0 M0 (by lia)⟩)
  case step1=>
   rintro y c U _ V0;refine eb7 ?_;rintro O Y J h0 ac d0 rfl L u0 M0 U0;refine ea1 ?_ (m0 (xs:=b) (i:=J+1) (by lia));rintro W0 e0 B0;refine ea1 ?_ (m0 (xs:=a) (i:=Y) (by lia));rintro X0 f0 C0;refine ua (be e0 (ua (be f0 (ua (C.lt (z0 O) (y0 _ B0) (x0 _ C0) λq=>?_)))));cases q
   ·refine ua (be e0 (pb (λc=>Ja (.inl (nx0 _ _ rfl (s0 O (L.ub e0))))) λc=>?_));have D0:J≠0:=by simpa using c
    obtain⟨a0,rfl⟩:∃a0,J=a0+1:=⟨J-1,by lia⟩;exact pb (λ_=>Ja (.inr (⟨O,nx14 Y a0 _ _ _ rfl (L.ub e0) (by lia) (by lia) (by lia)⟩))) λ_=>Ja (⟨O,nx14 Y a0 _ _ _ rfl (L.ub e0) (by lia) (by lia) (by lia)⟩)
   ·refine ua (be f0 (pb (λc=>Ja (.inl (nx0 _ _ rfl (n0 O (L.Rb f0))))) λc=>?_));have D0:Y≠0:=by simpa using c
    obtain⟨b0,rfl⟩:∃b0,Y=b0+1:=⟨Y-1,by lia⟩;exact pb (λ_=>Ja (.inr (⟨O,nx14 b0 J _ _ _ rfl (L.Rb f0) (by lia) (by lia) (by lia)⟩))) λ_=>Ja (⟨O,nx14 b0 J _ _ _ rfl (L.Rb f0) (by lia) (by lia) (by lia)⟩)
  case post1=>
   rintro c U (⟨r,o,rfl,q⟩|⟨O,p0,q0,h0,ac,d0,rfl,L,h1,i1,j1⟩)
   ·exact Ja (nx0 r _ rfl q)
   refine ua (Ji (Ye (And.intro rfl ?_)));refine ua (Bf (Je (I:=λ_ c U=>cc st U/\∃Y J j0 mg ac d0,c=(yP,Y+1,J+2,j0,mg,ac,d0)/\Hv a b j0 (Y+1) (J+2)/\Y<=p0/\J<=q0) (Q:=λc U=>(∃r o,c=(wP r,o)/\Q r U)\/(cc st U/\∃Y J j0 mg ac d0,c=(yP,Y+1,J+2,j0,mg,ac,d0)/\Hv a b j0 (Y+1) (J+2)/\Y<=p0/\J<=q0)) ?step2 (λc U z=>.inr z) (⟨O,nx15 p0 q0 h0 _ ac d0 rfl L (xa _) (xa _)⟩)) ?post2);case post2=>
    rintro c U (⟨r,o,rfl,q⟩|⟨O,Y,J,j0,mg,ac,d0,rfl,L,N0,Y0⟩)
    ·exact Ja (nx0 r _ rfl q)
    ·exact ua (ui (Ja (⟨O.trans ⟨rfl,rfl,rfl,rfl⟩,nx17 Y J j0 _ rfl L (by lia) ⟨by lia,by lia⟩⟩)))
   case step2=>
    rintro y c U _ V0;refine ec2 ?_;rintro O Y J j0 mg ac d0 rfl L N0 Y0;refine ea1 ?_ (m0 (xs:=b) (i:=J+1) (by lia));rintro W0 e0 B0
    extract_lets+onlyGivenNames s1 l1 m1 n1 o1 p1 r1 t1 u1 v1 w1 x1 r0
    obtain⟨j,l0⟩:∃j,j=r0:=⟨_,rfl⟩;rw[<-l0];refine Uf (λ_ v0=>v0=U) (j ()) (λg v0 z=>?_) λg0=>pb (λ_=>g0 _ _ rfl) λ_=>g0 _ _ rfl
    subst l0 z;refine ua (ui (ua (be e0 (ua (Ro (C:=C) (z0 (O.trans (cc.mk' v0 _))) (y0 _ B0) (by show 0+(Y+1)<=a.size;lia) x0 (by show Y+1-1<Y+1;lia) λk i0=>?_)))));replace i0:k<=Y+1:=i0;have sm:=λg=>O.trans (cc.mk' v0 g)
    dsimp-zeta+zetaDelta only
    extract_lets+onlyGivenNames Z0 ac r0
    obtain⟨j,l0⟩:∃j,j=r0:=⟨_,rfl⟩;rw[<-l0];refine Uf (γ:=Nat×Array OP) (λx O0=>cc st O0/\Hv a b x.2 (x.1+1) (J+2)/\x.1<=p0) (λx=>j () (x.1+1) x.2) (λ⟨b0,y1⟩O0⟨O,Lk,P0⟩=>?_) λg0=>pb (λF0=>pb (λc=>Ja (.inl (nx0 _ _ rfl (n0 (sm _) (L.Vf i0))))) λc=>?_) λF0=>g0 (Y,j0) _ ⟨sm _,L,N0⟩
    ·subst l0;refine ua (be e0 (pb (λc=>Ja (.inl (nx0 _ _ rfl (s0 O (Lk.ub e0))))) λa1=>?_));have z1:J≠0:=by simpa using a1
     replace P0:b0<=p0:=P0;refine ea1 ?_ (m0 (xs:=a) (i:=b0) (by lia));rintro X0 f0 C0;refine ua (be f0 (ua (Ro (C:=C) (z0 O) (x0 _ C0) (by show 0+(J+1)<=b.size;lia) y0 (by show J+1-1<J+1;lia) λk i0=>?_)));replace i0:k<=J+1:=i0;dsimp-zeta+zetaDelta only
     extract_lets+onlyGivenNames Z0 ac A1 r0
     obtain⟨j,l0⟩:∃j,j=r0:=⟨_,rfl⟩;rw[<-l0];refine Uf (γ:=Nat×Array OP) (λx st4=>cc st st4/\Hv a b x.2 (b0+1) (x.1+2)/\x.1<=q0) (λx=>j () (x.1+2) x.2) (λ⟨a0,B1⟩st4⟨O,G0,Q0⟩=>?_) λg0=>pb (λF0=>pb (λc=>Ja (.inl (nx0 _ _ rfl (s0 O ((Lk.ub e0).Wf i0))))) λc=>pb (λc=>Ja (.inl (nx0 _ _ rfl (n0 O ((Lk.ub e0).Wf i0))))) λt0=>?_) λF0=>?_
     ·subst l0;replace Q0:a0<=q0:=Q0;refine ua (be f0 (pb (λc=>Ja (.inl (nx0 _ _ rfl (n0 O (G0.Rb f0))))) λb1=>?_));have C1:b0≠0:=by simpa using(show¬(b0==0)=CP from b1)
      obtain⟨w0,rfl⟩:∃w0,b0=w0+1:=⟨b0-1,by omega⟩;exact pb (λ_=>Ja (.inr (⟨O,nx15 w0 a0 _ _ _ _ rfl (G0.Rb f0) (by lia) (by lia)⟩))) λ_=>Ja (⟨O,nx15 w0 a0 _ _ _ _ rfl (G0.Rb f0) (by lia) (by lia)⟩)
     ·have D0:k≠1:=by simpa using c
      have R0:k≠0:=by simpa using t0
      obtain⟨a0,rfl⟩:∃a0,k=a0+2:=⟨k-2,by omega⟩;exact g0 (a0,_) _ ⟨O,(Lk.ub e0).Wf i0,by show a0<=_;lia⟩
     ·obtain⟨a0,rfl⟩:∃a0,J=a0+1:=⟨J-1,by omega⟩;exact g0 (a0,_) _ ⟨O,Lk.ub e0,by show a0<=_;lia⟩
    ·have D0:k≠0:=by simpa using c
     obtain⟨b0,rfl⟩:∃b0,k=b0+1:=⟨k-1,by omega⟩;exact g0 (b0,_) _ ⟨sm _,L.Vf i0,by show b0<=_;lia⟩
structure Sb(C:Cm prog w A E s)(ja:Array OP)(pd:Array (Nat×Nat×Nat))(st:RP):Prop where
 perm:(IP st).Perm ja
 kind:kindOf st=C.κ
 fail:fQ st=yP
 pend:WP st=pd
section
variable{ja:Array OP}{pd:Array (Nat×Nat×Nat)}{lo:Nat}{st:RP}
def Sb.set(h:Sb C ja pd st){ys:Array OP}(p:ys.Perm (IP st)):Sb C ja pd (setArr st ys):=⟨p.trans h.perm,h.kind,h.fail,h.pend⟩
def Sb.wk(h:Sb C ja pd st)(i j:Nat):Sb C ja pd (setArr st (FR (IP st) i j ((j-i)/2))):=h.set (mirror_perm _ _ _ _)
def Hh(h:Sb C ja pd st)(J:∀x∈ja.toList,C.gd x){i j:Nat}(hi:i<ja.size)(U:j<ja.size){Q:Option Bool->RP->Prop}(q:∀b,Q (wP b) st):UQ (FP prog w) A E s (ltAt' i j) Q st:=by
 have hz:=h.perm.size_eq;have g:=λk O=>J _ ((Qk.mp h.perm).mem_iff.mp (Xp (xs:=IP st) (i:=k) O))
 exact ua (eg (ua (be (zj (IP st) i (by simp_all)) (ua (be (zj (IP st) j (by lia)) (C.lt h.kind (g _ _) (g _ _) q))))))
def ve{a J:Nat}{f:Nat->Option (Option Nat)×Nat->StateT RP SR (ForInStep (Option (Option Nat)×Nat))}{Q:Option (Option Nat)×Nat->RP->Prop}
  (U:∀x n(R:ForInStep (Option (Option Nat)×Nat)->RP->Prop),1<=n->n<J->R (ForInStep.done (yP,n)) st->R (ForInStep.yield (yP,n+1)) st->UQ (FP prog w) A E s (f x (yP,n)) R st)
  (a0:1<=a)(b0:a<=J)(h:∀n,1<=n->n<=J->Q (yP,n) st):UQ (FP prog w) A E s (forIn [a:J] (yP,a) f) Q st:=by
 refine Je (I:=λx c O=>O=st/\c=(yP,x)) ?_ ?_ ⟨rfl,rfl⟩
 ·rintro x c O c0 Y⟨rfl,rfl⟩;exact U x x _ (by lia) Y (h x (by lia) (by lia)) ⟨rfl,rfl⟩
 ·rintro c O⟨rfl,rfl⟩;exact h _ (by lia) (by simp_all)
def hL{Y:Nat}{Q:Option Nat->RP->Prop}(b0:∀x∈ja.toList,C.gd x)(n0:lo+Y<=ja.size)(j0:1<=Y)(J:Sb C ja pd st)(h:∀m O,Sb C ja pd O->1<=m->m<=Y->Q (wP m) O):UQ (FP prog w) A E s (countRun' lo Y) Q st:=by
 refine ua (ve (λx n R d0 i0 g0 h0=>ua (Hh J b0 (by show lo+n<_;lia) (by show lo+n-1<_;omega) λb=>by cases b;exact Ja h0;exact Ja g0)) (xa 1) j0 λn e0 f0=>?_);refine pb (λc=>Ja (h _ _ J e0 f0)) λc=>?_
 have o0:n≠Y:=by simpa using c
 refine(λ(c0:∀U,Sb C ja pd U->UQ (FP prog w) A E s _ Q U)=>pb (λp0=>ua (Hh J b0 (by lia) (by show lo+n-1<_;omega) (Bool.rec (ua (Zk (c0 _ (J.wk _ _)))) (Ja (h _ _ J e0 f0))))) λ_=>c0 _ J) λU J=>?_
 ·refine ua (Ji (Ye (And.intro rfl ?_)));refine ua (Bf (Je (I:=λx c O=>∃a0,c=(yP,x,a0)/\Sb C ja pd O) (Q:=λc O=>∃m a0,c=(yP,m,a0)/\1<=m/\m<=Y/\Sb C ja pd O) ?_ ?_ ⟨0,rfl,J⟩) ?_)
  ·rintro x c O d0 i0;refine ea1 ?_;rintro a0 rfl J;replace d0:n+1<=x:=d0;refine ua (Hh J b0 (by show lo+x<_;lia) (by show lo+x-1<_;omega) λb=>?_);cases b
   ·refine ua (Hh J b0 (by show lo+x-1<_;lia) (by show lo+x<_;lia) λb=>?_);cases b
    ·exact Ja ⟨_,rfl,J⟩
    ·exact Ja (nx3 x _ rfl (by lia) (by lia) J)
   ·refine pb (λ_=>pb (λ_=>ua (Zk (Ja ?_))) λ_=>Ja ?_) λn=>absurd rfl n
    ·exact⟨_,rfl,J.wk _ _⟩
    ·exact⟨_,rfl,J⟩
  ·rintro c O;refine ea1 ?_;rintro a0 rfl J;exact nx3 _ _ rfl (by grind) (by lia) J
  ·rintro c O;refine eaA ?_;rintro m a0 rfl l0 m0 J;refine(λ(c0:∀U,Sb C ja pd U->UQ (FP prog w) A E s _ Q U)=>pb (λ_=>ua (Zk (c0 _ (J.wk _ _)))) λ_=>c0 _ J) λU J=>ua (Zk ?_)
   replace J:=J.wk lo (lo+m);exact ua (ve (λx n R d0 i0 g0 h0=>ua (Hh J b0 (by show lo+n<_;lia) (by show lo+n-1<_;lia) λb=>by cases b;exact Ja h0;exact Ja g0)) l0 m0 λn e0 f0=>Ja (h _ _ J e0 f0))
def tf{n ok:Nat}{Q:Bool->RP->Prop}(Y:∀x∈ja.toList,C.gd x)(a0:lo+n<=ja.size)(O:Sb C ja pd st)(h:∀J,Sb C ja pd J->Q CP J):UQ (FP prog w) A E s (binarySort' lo n ok) Q st:=by
 refine ua (Bf (Je (I:=λk c J=>c=(yP,())/\Sb C ja pd J) (Q:=λc J=>c=(yP,())/\Sb C ja pd J) ?_ (λ_ _ z=>z) ⟨rfl,O⟩) ?_)
 ·rintro k c J k1 k2⟨rfl,O⟩;refine ua (Bf (Je (I:=λx c U=>U=J/\∃l r,c=(yP,l,r)/\r<=k) (Q:=λc U=>U=J/\∃l r,c=(yP,l,r)) ?_ ?_ (⟨rfl,nx0 0 k rfl (by lia)⟩)) ?_)
  ·rintro x c U _ b0;refine ec6 ?_;rintro rfl l r rfl q;refine pb (λz=>Ja (⟨rfl,nx8 _ _ rfl⟩)) λz=>ua (Hh O Y (by show lo+k<ja.size;lia) (by show lo+(l+r)/2<ja.size;replace z:¬l≥r:=z;lia) λb=>?_)
   replace z:¬l≥r:=z;cases b
   ·exact Ja (⟨rfl,nx0 ((l+r)/2+1) r rfl q⟩)
   ·exact Ja (⟨rfl,nx0 l ((l+r)/2) rfl (by lia)⟩)
  ·rintro c U;refine ec6 ?_;rintro rfl l r rfl q;exact⟨rfl,nx8 _ _ rfl⟩
  ·rintro c U;refine eaC ?_;rintro rfl l r rfl;exact ua (ui (Ja ⟨rfl,O.set (bubble_perm _ _ _)⟩))
 ·rintro c J⟨rfl,O⟩;exact Ja (h J O)
end
def Ga:List (Nat×Nat×Nat)->Nat->Nat->Prop
 |[],a,b=>a=b
 |x::r,a,b=>x.1=a/\1<=x.2.1/\Ga r (a+x.2.1) b
def Ga.le{l:List (Nat×Nat×Nat)}:∀{a b:Nat},Ga l a b->a<=b:=by
 induction l with
 |nil=>exactλh=>Vj h
 |cons x r J=>
  intro a b⟨_,_,h⟩;have:=J h;lia
def Ga.snoc{l:List (Nat×Nat×Nat)}{b n p:Nat}(J:1<=n):∀{a:Nat},Ga l a b->Ga (l++[(b,n,p)]) a (b+n):=by
 induction l with
 |nil=>exactλe=>⟨e.symm,J,by rw[show _=b from e];rfl⟩
 |cons x r O=>
  intro a⟨e,U,Y⟩;exact⟨e,U,O Y⟩
def Ga.cx{c:Nat}{l:List (Nat×Nat×Nat)}{b:Nat}:∀{i a:Nat},Ga l a b->Ga (l.modify i λx=>(x.1,x.2.1,c)) a b:=by
 induction l with
 |nil=>intro i a h;cases i<;>exact h
 |cons x r U=>
  intro i a⟨e,J,O⟩;cases i with
  |zero=>exact⟨e,J,O⟩
  |succ i=>exact⟨e,J,U O⟩
def Ga.at{l:List (Nat×Nat×Nat)}{b:Nat}{x y:Nat×Nat×Nat}:∀{i a:Nat},Ga l a b->l[i]?=wP x->l[i+1]?=wP y->y.1=x.1+x.2.1/\1<=x.2.1/\1<=y.2.1/\x.1+x.2.1+y.2.1<=b/\Ga ((l.set i (x.1,x.2.1+y.2.1,x.2.2)).eraseIdx (i+1)) a b:=by
 induction l with
 |nil=>intro i a _ e;cases e
 |cons z r b0=>
  intro i a⟨Y,J,a0⟩ex O;cases i with
  |succ i=>
   refine ebC ?_ (b0 a0 (by simpa using ex) (by simpa using O));rintro c0 d0 e0 f0 g0;exact⟨c0,d0,e0,f0,Y,J,g0⟩
  |zero=>
   cases r with
   |nil=>cases O
   |cons u r=>
    cases ex;cases O;revert a0;refine ea3 ?_;rintro h0 i0 U;have j0:=U.le;rw[Y];exact⟨h0,J,i0,j0,rfl,Nb J (Nat.le_add_right _ _),by rw[Nat.add_assoc]at U;exact U⟩
structure GB(C:Cm prog w A E s)(ja:Array OP)(st:RP)(lo:Nat):Prop where
 perm:(IP st).Perm ja
 kind:kindOf st=C.κ
 fail:fQ st=yP
 runs:Ga (WP st).toList 0 lo
section
variable{ja:Array OP}{st:RP}
def mC{i lo:Nat}{Q:Bool->RP->Prop}(G0:∀x∈ja.toList,C.gd x)(g:GB C ja st lo)(V0:lo<=ja.size)(hi:i+1<(WP st).size)(h:∀b0,GB C ja b0 lo->Q CP b0):UQ (FP prog w) A E s (mergeAt' i) Q st:=by
 obtain⟨I0,U,Y,mg,J0⟩:=st;obtain⟨a0,h0,i0,j0⟩:=g;replace hi:i+1<Y.size:=hi;obtain⟨⟨J,O,l0⟩,s0⟩:∃m0,Y[i]?=wP m0:=⟨_,zj Y i (by lia)⟩;obtain⟨⟨K0,c0,W0⟩,t0⟩:∃L0,Y[i+1]?=wP L0:=⟨_,zj Y (i+1) hi⟩;refine ebC ?_ (j0.at (i:=i) (by rw[ee];exact s0) (by rw[ee];exact t0));rintro n0 u0 v0 w0 j0;replace i0:J0=yP:=i0;replace h0:I0=C.κ:=h0;replace a0:U.Perm ja:=a0;replace n0:K0=J+O:=n0;replace w0:J+O+c0<=lo:=w0;replace u0:1<=O:=u0;replace v0:1<=c0:=v0;have hz:=a0.size_eq;subst i0 h0 n0;refine ua (eg ?_);dsimp only;rw[s0,t0];refine ua (VI ?_);have o0:Ga ((Y.setIfInBounds i (J,O+c0,l0)).eraseIdxIfInBounds (i+1)).toList 0 lo:=by
  rw[Array.toList_eraseIdxIfInBounds,Array.toList_setIfInBounds];exact j0
 have e0:∀x∈U.toList,C.gd x:=λx f0=>G0 x ((Qk.mp a0).mem_iff.mp f0)
 have x0:∀j,j<U.size->∃x,U[j]?=wP x/\C.gd x:=λj y0=>⟨U[j],zj U j y0,e0 _ (Xp y0)⟩
 refine ea1 ?_ (x0 (J+O) (by lia));rintro X0 M0 N0;refine ua (be M0 (ua (Ro (C:=C) rfl N0 (by lia) e0 (by lia) λk Y0=>?_)));refine pb (λc=>Ja (h _ ⟨a0,rfl,rfl,o0⟩)) λc=>?_
 have Z0:O-k≠0:=by simpa using c
 refine ea1 ?_ (x0 (J+k+(O-k)-1) (by grind));rintro a1 O0 P0;refine ua (be O0 (ua (Ro (C:=C) rfl P0 (by lia) e0 (by omega) λm b1=>?_)));refine pb (λc=>Ja (h _ ⟨a0,rfl,rfl,o0⟩)) λQ0=>?_
 have c1:m≠0:=by simpa using Q0
 have z0:(U.extract (J+k) (J+O)).toList.length=O-k:=by rw[Lc,Array.size_extract];lia
 have A0:(U.extract (J+O) (J+O+m)).toList.length=m:=by rw[Lc,Array.size_extract];lia
 have fin:∀(r:Array OP)(g:Nat),r.toList.Perm ((U.extract (J+k) (J+O)).toList++(U.extract (J+O) (J+O+m)).toList)->Q CP (SortSt.mk' C.κ (r.toList.zipIdx.foldl (λa x=>a.setIfInBounds (J+k+x.2) x.1) U) ((Y.setIfInBounds i (J,O+c0,l0)).eraseIdxIfInBounds (i+1)) g yP):=λr g d0=>by
  refine h _ ⟨(Qk.mpr ?_).trans a0,rfl,rfl,o0⟩;have B0:r.toList.length=O-k+m:=by rw[d0.length_eq,Ac,z0,A0]
  refine(List.Perm.of_eq (QA (J+k) r.toList 0 U (by rw[B0];grind))).trans ?_;have e:U.toList=U.toList.take (J+k)++((U.extract (J+k) (J+O)).toList++(U.extract (J+O) (J+O+m)).toList)++U.toList.drop (J+O+m):=by
   rw[Nt,Jo];conv=>lhs;rw[<-Bi (J+O+m) U.toList,List.take_add,<-Bi (J+k) (U.toList.take (J+O)),List.take_take,eo (by simp_all)]
   simp only[ke]
  conv=>rhs;rw[e]
  rw[B0,show J+k+0+(O-k+m)=J+O+m by grind];exact(d0.append_left _).append_right _
 have g0:∀{p q:Nat},∀x∈(U.extract p q).toList,C.gd x:=λ{p q}x f0=>e0 x (by rw[Nt]at f0;exact List.mem_of_mem_take (List.mem_of_mem_drop f0))
 have C0:0<(U.extract (J+k) (J+O)).size:=by rw[<-Lc,z0];lia
 have D0:0<(U.extract (J+O) (J+O+m)).size:=by rw[<-Lc,A0];lia
 refine pb (λ_=>ua (fL (C:=C) rfl g0 g0 C0 D0 λr b0 F0 d0=>?_)) λ_=>ua (gL (C:=C) rfl g0 g0 C0 D0 λr b0 F0 d0=>?_)
 all_goals
  obtain⟨R0,S0,T0,m0,U0⟩:=b0;obtain⟨s1,p0,q0,r0⟩:=F0;replace s1:R0=C.κ:=s1;replace p0:S0=U:=p0;replace q0:T0=(Y.setIfInBounds i (J,O+c0,l0)).eraseIdxIfInBounds (i+1):=q0;replace r0:U0=yP:=r0;subst s1 p0 q0 r0;exact ua (ui (ua (eg (Ja (fin r m0 d0)))))
def Xf{Q:Unit->RP->Prop}(a0:∀x∈ja.toList,C.gd x)(h0:(IP st).Perm ja)(b0:kindOf st=C.κ)(t0:fQ st=yP)(u0:WP st=#[])(fin:∀O,(IP O).Perm ja->fQ O=yP->Q () O):UQ (FP prog w) A E s sortRuns' Q st:=by
 refine ua (eg ?_);have hz:=h0.size_eq;refine ua (Bf (Je (I:=λx c O=>∃lo,c=(yP,lo)/\lo<=ja.size/\GB C ja O lo) (Q:=λc O=>∃lo,c=(yP,lo)/\lo<=ja.size/\GB C ja O lo) ?_ (λ_ _ z=>z) ⟨0,rfl,Tb _,h0,b0,t0,by rw[u0];rfl⟩) ?_)
 ·rintro x c O _ v0;refine ea7 ?_;rintro lo rfl c0 g;refine pb (λz=>Ja ⟨lo,rfl,c0,g⟩) λz=>?_
  replace z:¬lo≥(IP st).size:=z;refine ua (hL (C:=C) (lo:=lo) a0 (by show lo+((IP st).size-lo)<=ja.size;simp_all) (by show 1<=(IP st).size-lo;lia) ⟨g.perm,g.kind,g.fail,rfl⟩ λm e0 i0 w0 j0=>?_);replace j0:m<=(IP st).size-lo:=j0;dsimp-zeta+zetaDelta only
  extract_lets+onlyGivenNames D0 x0
  obtain⟨j,l0⟩:∃j,j=x0:=⟨_,rfl⟩;rw[<-l0];refine Uf (γ:=Nat) (λn e0=>Sb C ja (WP O) e0/\1<=n/\lo+n<=ja.size) (λn=>j () n) ?_ λb0=>pb (λc=>ua (Ji (Ye ⟨rfl,ua (tf (C:=C) (lo:=lo) a0 ?_ i0 λF0 y0=>pb (λn=>by cases n) λ_=>b0 _ _ ⟨y0,?_,?_⟩)⟩))) λc=>b0 m e0 ⟨i0,w0,by grind⟩
  ·subst l0;rintro n⟨k3,m0,d0,n0,o0⟩;refine ea3 ?_;rintro⟨s1,z0,A0,f0⟩B0 p0;replace f0:d0=WP O:=f0;have q0:GB C ja (SortSt.mk' k3 m0 d0 n0 o0) lo:=⟨s1,z0,A0,by rw[show WP (SortSt.mk' k3 m0 d0 n0 o0)=_ from f0];exact g.runs⟩;refine ua (eg ?_);have r0:∀{st4},GB C ja st4 lo->GB C ja (setPending st4 ((WP st4).push (lo,n,0))) (lo+n):=λJ=>⟨J.perm,J.kind,J.fail,by
    show Ga ((WP _).push (lo,n,0)).toList 0 (lo+n);rw[om];exact Ga.snoc B0 J.runs⟩
   cases G0:d0.back? with
   |none=>
    dsimp only;exact ua (ui (Ja ⟨lo+n,rfl,p0,r0 q0⟩))
   |some I0=>
    dsimp only;refine ua (Bf (Je (I:=λ_ c U=>c=(yP,())/\GB C ja U lo) ?_ (λc U z=>z) ⟨rfl,q0⟩) ?_)
    ·rintro y c⟨J0,K0,Y,L0,M0⟩_ _⟨rfl,J⟩;refine ua (eg ?_);dsimp only;by_cases s0:Y.size>1
     ·rw[wa s0,zj Y (Y.size-2) (by grind)];exact pb (λ_=>Ja ⟨rfl,J⟩) λ_=>ua (mC (C:=C) a0 J c0 (by show Y.size-2+1<Y.size;lia) λC0 g0=>pb (λn=>by cases n) λ_=>Ja ⟨rfl,g0⟩)
     ·rw[ma s0];exact Ja ⟨rfl,J⟩
    ·rintro c st4⟨rfl,J⟩;refine ua (ui (ua (ui (Ja ⟨lo+n,rfl,p0,r0 (st4:=setPending st4 _) ⟨J.perm,J.kind,J.fail,?_⟩⟩))));show Ga (Array.modify _ _ _).toList 0 lo;rw[Array.toList_modify];exact J.runs.cx
  all_goals
   try replace c:m<gR (IP st).size (IP st).size 0:=c
   show _<=_;first
   |exact Nat.le_min.mpr ⟨by show 1<=(IP st).size-lo;lia,by show 1<=gR (IP st).size (IP st).size 0;lia⟩
   |exact Nb (Nat.add_le_add_left (Nat.min_le_left _ _) _) (by show lo+((IP st).size-lo)<=_;grind)
 ·rintro c O;refine ea7 ?_;rintro lo rfl c0 g;refine ua (Bf (Je (I:=λx c U=>c=(yP,())/\GB C ja U lo) (Q:=λc U=>c=(yP,())/\GB C ja U lo) ?_ (λ_ _ z=>z) ⟨rfl,g⟩) ?_)
  ·rintro x c st4 _ v0⟨rfl,J⟩;refine ua (eg (pb (λz=>Ja ⟨rfl,J⟩) λz=>ua (mC (C:=C) a0 J c0 ?_ λC0 g0=>pb (λn=>by cases n) λ_=>Ja ⟨rfl,g0⟩)));replace z:¬(WP st4).size<=1:=z;refine Xn (Nat.add_le_add_right (m:=(WP st4).size-2) ?_ 1) (by lia);split<;>split<;>first|exact Nat.sub_le _ _|exact xa _
  ·rintro c st4⟨rfl,J⟩;exact Ja (fin st4 J.perm J.fail)
end
end
end Ps
open PySem PySem.Spec PySem.W PyProof.Rows L2 PyProof PySem.SeqAt
def nC{prog:HP}{w:KP}{A:LP}{E:xP->zP->Prop}{s:zP}{vs:List xP}{a F:BP}{m:Str->Option xP}{n:Nat}{P:PySem.Fin->zP->Prop}(i0:SortKind)(S:List xP->Prop)(hz:vs.length<=DP)
  (b0:s.heap.get? a=wP (PP "list" vs.toArray n))(j0:s.heap.Ns F m)
  (n0:2<=vs.length->∀h',(∀b o,b≠a->s.heap.get? b=wP o->h'.get? b=wP o)->∀(R:SortKind->zP->Prop),R i0 {s with heap:=h'}->wpAny (FP prog w) A (keyKind' vs.toArray) R E {s with heap:=h'})
  (o0:2<=vs.length->∀h',(∀b o,b≠a->s.heap.get? b=wP o->h'.get? b=wP o)->UQ (FP prog w) A E {s with heap:=h'} sortRuns' (λ_ J=>(IP J).Perm (pairsOf vs)/\fQ J=yP/\S ((IP J).toList.map (·.2))) (SortSt.mk' i0 (pairsOf vs) #[] 7 yP))(p0:vs.length<2->S vs)
  (h:∀out h' c,(∀b o,b≠F->b≠a->s.heap.get? b=wP o->h'.get? b=wP o)->h'.Ns F m->h'.get? a=wP (PP "list" (List.toArray out) c)->out.Perm vs->S out->P (.done (.ret .none)) {s with heap:=h'}):
  wpAny (FP prog w) A (Builtin.«list.sort» ⟨[.ref a],[]⟩) P E s:=by
 have q0:a≠F:=λe=>by
  obtain⟨o,es,ep,O,d0,_⟩:=j0;rw[<-e,b0]at O;cases O;cases d0
 rw[list_sort_plain];refine ba (KQ b0 rfl (ba (lm b0 rfl ?_ (by rw[ic];exact hz) (Tb _))));obtain⟨O,l0⟩:∃O,(s.heap.update a (Obj.mapSeq λ_=>(#[]:Array xP))).get? a=wP (PP "list" #[] O):=⟨_,Pn b0 (λ_=>#[])⟩;refine ba (XQ l0 rfl (ba (Kp (ba (oj (Jc ?_) (Tb _))) (by exact hz))));have s1:=bg s.heap a (Obj.mapSeq λ_=>(#[]:Array xP));have k1:∀b o,b≠a->s.heap.get? b=wP o->(((s.heap.update a (Obj.mapSeq λ_=>(#[]:Array xP))).push (PP "tuple" vs.toArray 0)).push (PP "list" #[] 0)).get? b=wP o:=λb o y e=>Ta _ (Ta _ ((s1.2 b y).trans e))
 have U:(((s.heap.update a (Obj.mapSeq λ_=>(#[]:Array xP))).push (PP "tuple" vs.toArray 0)).push (PP "list" #[] 0)).get? a=wP (PP "list" #[] O):=Ta _ (Ta _ l0);generalize((s.heap.update a (Obj.mapSeq λ_=>(#[]:Array xP))).push (PP "tuple" vs.toArray 0)).push (PP "list" #[] 0)=Y at k1 U;have fin:∀(out:List xP),out.length<=DP->out.Perm vs->S out->wpAny (FP prog w) A (Builtin.List.listUpdate (.ref a) λ_=>out.toArray) (λ_ s'=>P (.done (.ret .none)) s') E {s with heap:=Y}:=λout lo c0 e0=>by
  have m0:=bg Y a (Obj.mapSeq λ_=>out.toArray);obtain⟨f0,r0⟩:∃f0,(Y.update a (Obj.mapSeq λ_=>out.toArray)).get? a=wP (PP "list" out.toArray f0):=⟨_,Pn U λ_=>out.toArray⟩;refine lm U rfl (h out _ f0 (λb o _ y e=>(m0.2 b y).trans (k1 b o y e)) ?_ r0 c0 e0) (Tb _) (by rw[ic];exact Nat.le_succ_of_le lo);revert j0;refine eb0 ?_;rintro o es ep O d0 s0;exact nx7 o es ep ((m0.2 F q0.symm).trans (by grind)) d0 s0
 by_cases g0:2<=vs.length
 ·have a0:¬vs.toArray.size<2:=by rw[ic];simp_all
  rw[ma a0,ma a0];refine ba (n0 g0 Y k1 _ ?_);refine ba (Pc (o0 g0 Y k1) ?_ λ_ _ e=>e);rintro⟨⟨⟩,J⟩s';refine ea6 ?_;rintro rfl t0 u0 e0;refine ba (XQ U rfl ?_);rw[u0];have pl:(IP J).toList.Perm (vs.zip vs):=by rw[<-cq];exact Qk.mp t0
  have c0:((IP J).toList.map (·.2)).Perm vs:=by
   have:=pl.map (·.2);rwa[List.map_snd_zip (xa _)]at this
  have h0:(IP J).map (·.2)=((IP J).toList.map (·.2)).toArray:=by
   apply Array.toList_inj.mp;simp
  rw[h0];refine ba (Pc (fin _ (by rw[c0.length_eq];exact hz) c0 e0) (λ_ v0 q=>?_) λ_ _ e=>e);simp only[Wr,ph,hf];exact ca q
 ·have a0:vs.toArray.size<2:=by rw[ic];simp_all
  rw[wa a0,wa a0];refine ba (ca ?_);refine ba (ca (ba (XQ U rfl ?_)));have h0:(IP (SortSt.mk' general' (vs.toArray.zip vs.toArray) #[] 7 yP)).map (·.2)=vs.toArray:=by
   show(vs.toArray.zip vs.toArray).map (·.2)=_;apply Array.ext
   ·simp
   ·intro i w0 g0;simp
  dsimp only;rw[h0];refine ba (Pc (fin vs hz (.refl _) (p0 (by lia))) (λ_ v0 q=>?_) λ_ _ e=>e);simp only[Wr,ph,hf];exact ca q
structure VA(K:Type)[DecidableEq K]extends HVK K where
 T:xP
 rfT:(T==T)=CP
 typ:∀{h:NP}{k:K}{v:xP}(M:Model),is h k v->Looks M h (typeOf v) T
 one:∀{prog:HP}{w:KP}{A:LP}{E:xP->zP->Prop}{s:zP}{x y:K}{u v:xP}{Q:Bool->zP->Prop}(b:Bool),(b=CP->(T !=Value.type "tuple")=CP)->A.units+d<MP->is s.heap x u->is s.heap y v->(∀c,Q c s)->wpAny (FP prog w) A (oneLt' b u v) Q E s
def VA.int:VA Int where
 toHVK:=HVK.int
 T:=.type "int"
 rfT:=by decide
 typ:=λM h=>by
  obtain⟨t,e⟩:=h;subst e;intro A Q E s _ q;exact rj (T:="int") rfl q
 one:=λb _ _ J O h=>by
  obtain⟨t,e⟩:=J;obtain⟨t',U⟩:=O;subst e;subst U;cases b with
  |true=>exact oneLt_int (h _)
  |false=>exact kat_one _ _ (lt_int (h _))
def VA.node:VA (Int×Int)where
 toHVK:=HVK.int.pair HVK.int
 T:=.type "tuple"
 rfT:=by decide
 typ:=λM h=>by
  obtain⟨u,n0,⟨a,o,n,e,J,O,U⟩,_⟩:=h;subst e;intro A Q E s k q;exact rj (T:="tuple") ⟨o,k a o J,O⟩ q
 one:=λ{prog w A E s x y u v Q}b Y o0 a0 b0 h=>by
  revert a0;refine ea0 ?_;rintro p0 q0⟨a,o,n,e,J,O,U⟩⟨r0,c0⟩⟨s0,d0⟩;revert b0;refine ea0 ?_;rintro t0 u0⟨v0,e0,f0,g0,h0,i0,j0⟩⟨w0,l0⟩⟨x0,m0⟩;subst e;subst g0;subst c0;subst d0;subst l0;subst m0;cases b with
  |true=>exact absurd (Y rfl) (by decide)
  |false=>exact kat_one _ _ (HT.Xc (ns:=[x.1,x.2]) (ms:=[y.1,y.2]) (nx18 o J O n U) (nx18 e0 h0 i0 f0 j0) (.cons _ _ (.cons _ _ .nil)) (.cons _ _ (.cons _ _ .nil)) (by lia) (h _))
def oC{K L:Type}[DecidableEq K][DecidableEq L](V:VA K)(W:VA L){prog:HP}{w:KP}{A:LP}{E:xP->zP->Prop}{s:zP}{vs:List xP}{a F:BP}{m:Str->Option xP}{n:Nat}{P:PySem.Fin->zP->Prop}(hz:vs.length<=DP)(z0:A.units+(max V.d W.d+1)<MP)
  (J:∀u∈vs,∃k,(V.toHVK.pair W.toHVK).is s.heap k u)(U:s.heap.get? a=wP (PP "list" vs.toArray n))(j0:s.heap.Ns F m)
  (h:∀out h' c,(∀b o,b≠F->b≠a->s.heap.get? b=wP o->h'.get? b=wP o)->h'.Ns F m->h'.get? a=wP (PP "list" (List.toArray out) c)->out.Perm vs->P (.done (.ret .none)) {s with heap:=h'}):
  wpAny (FP prog w) A (Builtin.«list.sort» ⟨[.ref a],[]⟩) P E s:=by
 have e0:A.units+V.d<MP:=by have:=Tn V.d W.d;lia
 have f0:A.units+W.d<MP:=by have:=Zn V.d W.d;lia
 have kp:∀h':NP,(∀b o,b≠a->s.heap.get? b=wP o->h'.get? b=wP o)->∀u∈vs,∃k,(V.toHVK.pair W.toHVK).is h' k u:=λh' k u l0=>(J u l0).imp λ_ x=>(V.toHVK.pair W.toHVK).keep x λb o _ _ e Y _=>k b o (λz=>by
  rw[z,U]at e;cases e;exact absurd (show Value.type "list"=Value.type "tuple"from Y) (by decide)) e
 have tups:∀(h':NP)(l:List xP),(∀u∈l,∃k,(V.toHVK.pair W.toHVK).is h' k u)->∃fs,KatTups h' l fs/\fs.length=l.length/\∀v∈fs,∃k,V.is h' k v:=λh' l=>by
  induction l with
  |nil=>exactλ_=>⟨[],trivial,rfl,by(intros;simp_all)⟩
  |cons v r m0=>
   intro J;refine ea7 ?_ (m0 (by(intros;simp_all)));rintro fs t l a;refine eb0 ?_ (J v (.head _));rintro _ u n0⟨ad,o,n,e,U,Y,a0⟩O b0;have c0:=e;subst c0;refine⟨u::fs,KatTups.cons U Y a0 rfl t,by simp_all,λv d0=>?_⟩;rcases jb.mp d0 with z|z
   ·exact⟨_,z▸O⟩
   ·exact a v z
 refine nC (eR (V.T !=Value.type "tuple")) (λ_=>True) hz U j0 (λo0 h' k R q=>?_) (λo0 h' k=>?_) (λ_=>trivial) λout h' c k1 k2 k3 p0 _=>h out h' c k1 k2 k3 p0
 ·refine ea7 ?_ (tups h' vs (kp h' k));rintro fs t l a;exact kat_kind t (by lia) (λv d0=>by obtain⟨k,J⟩:=a v d0;exact V.typ _ J) V.rfT q
 ·have lt:∀x∈vs,∀y∈vs,∀(R:Bool->zP->Prop)(g0:xP->zP->Prop),(∀b,R b {s with heap:=h'})->wpAny (FP prog w) A (keyLt' (eR (V.T !=Value.type "tuple")) x y) R g0 {s with heap:=h'}:=λx q0 y r0 R g0 q=>by
   refine eb0 ?_ (kp h' k x q0);rintro A0 u n0⟨ad,o,n,e,U,Y,a0⟩O b0;refine eb0 ?_ (kp h' k y r0);rintro B0 z C0⟨D0,F0,G0,c0,s0,I0,t0⟩h0 i0;rw[e,c0];exact kat_lt U a0 s0 t0 (yQ (V.eq e0 O h0 prog w _ _ (nR (λc=>LQ (yQ (W.eq f0 b0 i0 prog w _ _ (nR (λy=>LQ (kat_nil (q _))) λy=>LR (W.one _ (by(intros;simp_all)) f0 b0 i0 q))))) λc=>LR (V.one _ (by simp) e0 O h0 q))))
  refine Ps.Xf (C:=⟨eR (V.T !=Value.type "tuple"),λp=>p.1∈vs,λ{st p q Q}J u0 v0 w0=>?_⟩) (λx O=>?_) (Array.Perm.refl _) rfl rfl rfl λJ0 x0 y0=>⟨x0,y0,trivial⟩
  ·rw[lt'_eq];refine ua (eg (ua (Ji (Ng ?_))));rw[J];exact lt _ u0 _ v0 _ _ λb=>⟨rfl,Ja (w0 b)⟩
  ·rw[cq]at O;exact(uR O).2
section
variable{X:Cx}{pins:List (BP×dQ)}{σ:L2.St}{H:Hp}{s:zP}
def iL(z0:X.A.units+16<MP):Cf X (.builtin "sorted") (λxs H Q=>∃(a:BP)(vs:List V)(ks:List Nk),xs=[V.ref a]/\ia X.K H a vs/\Paired (Fb H) vs ks/\vs.length<=1200/\
  ∀p ys c0,H p=yP->Paired (Fb H) ys c0->c0.Perm ks->Q (.ref p) (upd H p (.lst ys))):=by
 intro pins s σ H xs us Q I r h;revert h;refine eaF ?_;rintro a vs ks rfl e pk A0 q;obtain⟨u,rfl,i0⟩:=gg r;cases i0;obtain⟨m,d0,_⟩:=id I.loc;refine ea7 ?_ (I.list e);rintro J U j0 _;have l0:J.length=vs.length:=U.length.symm;have m0:ks.length=J.length:=(qb pk).symm.trans l0.symm;obtain⟨kf,n0,o0⟩:=dC (VA.int.toHVK.pair VA.int.toHVK) (0,0) m0 λi u p0=>by
  refine ea1 ?_ (Rf U p0);rintro x ex Y;refine ea1 ?_ (Wb pk ex);rintro k ek a0;exact⟨k,ek,Zg I a0 Y⟩
 refine Np CQ Vn Ln (NQ _) ?_;unfold Builtin.«sorted»;refine ba (m:=checkCount "sorted" 1 1 _) (ca (ba (collect_list j0.isList (ba (oj ?_ (by rw[ti];lia))) (by rw[ti];lia))));have k0:∀b o,s.heap.get? b=wP o->((s.heap.push (PP "list" #[] 0)).update s.heap.objs.size (Obj.mapSeq (·++J.toArray))).get? b=wP o:=λb o e=>by
  rw[Heap.get?_update_ne _ _ _ _ (Ab (Xa e))];exact Ta _ e
 have hsz:((s.heap.push (PP "list" #[] 0)).update s.heap.objs.size (Obj.mapSeq (·++J.toArray))).objs.size=s.heap.objs.size+1:=by rw[Heap.size_update,Zf]
 generalize(s.heap.push (PP "list" #[] 0)).update s.heap.objs.size (Obj.mapSeq (·++J.toArray))=O at k0 hsz;have k1:∀b o,s.heap.get? b=wP o->(O.push {cls:=.type "list",data:=.seq J.toArray}).get? b=wP o:=λb o e=>Ta _ (k0 b o e)
 have e0:(O.push {cls:=.type "list",data:=.seq J.toArray}).get? O.objs.size=wP (PP "list" J.toArray 0):=Hb _ rfl;have B0:Inv X pins σ H {s with heap:=O.push {cls:=.type "list",data:=.seq J.toArray}}:=I.kept (t':=s.toks) k1;refine ba (Jc (zd En ⟨_,e0,rfl⟩ Mn (oC VA.int VA.int (s:={s with heap:=O.push {cls:=.type "list",data:=.seq J.toArray}}) (by rw[ti];lia) (show X.A.in1.in1.units+1<MP by show X.A.units+1+1+1<MP;lia) (λu q0=>⟨_,(HVK.int.pair HVK.int).keep (n0 u q0) λb o _ _ e _ _=>k1 b o e⟩) e0 (d0.keeps k1) λout h' c kp r0 s0 f0=>⟨_,rfl,?_⟩) (Wp _)));obtain⟨ys,g0,t0⟩:=Vq (R:=Fb H) (out.map kf) out (by rw[pa]) λp u0=>by
  obtain⟨v,v0,rfl⟩:=Ya.mp (Zw kf out▸u0);obtain⟨i,hi⟩:=ze.mp (f0.mem_iff.mp v0);obtain⟨x,ex,Y⟩:=Rf U hi;obtain⟨C0,ek,a0⟩:=Wb pk ex;rw[<-o0,fb,hi]at ek;cases ek;exact⟨x,Y,a0⟩
 have b0:s.heap.objs.size<=O.objs.size:=by rw[hsz];exact qi _
 have lo:=f0.length_eq;have w0:=Aw (t':=s.toks) (D:=O.objs.size) (u:=.lst ys) (h':=h') I (λb o x0 h0=>kp b o x0 (Ab (Vd (Xa h0) b0)) (k1 b o h0)) (λD0 y0=>zw d0 y0▸r0) b0 (⟨by rw[g0.length,lo,ti];lia,nx0 out c g0 s0⟩);exact ca ⟨_,rfl,.ref _,_,w0,rfl,q _ ys _ (I.za.fresh b0) t0 (by grind)⟩
inductive jL(K:W.Frag)(Q:VK)(vs:List V)(H1:Hp):Prop|mk(a:BP)(xs:List V)(ks:List (Nk×Nk))(_:vs=[V.ref a])(_:ia K H1 a xs)(_:Paired (Uc H1) xs ks)(_:xs.length<=1200)(_:∀l ys js,H1 l=yP->Paired (Uc H1) ys js->js.Nodup->(∀k,k∈js↔k∈ks)->Q (.ref l) (upd H1 l (.lst ys)))
def kL(K:W.Frag)(t:TA):TE:=λσ H Q=>t σ H (jL K Q)
def lL{X:Cx}{K:W.Frag}{e:UP}{t:TA}{p a0 pos Y:sQ}(a1:X.A.units+64<MP)(y0:X.K=K)(j0:X.calm=CP)(z0:Gl X "sorted")(A0:X.mg "sorted"=yP)(B0:Gl X "set")(c0:X.mg "set"=yP)(C0:PA X [e] t)
  (D0:JP [e] X.env=[(GP,XP e X.env)]:=by rfl)(l0:JP [.Call (.Name "set" a0) [e] [] Y] X.env=[(GP,XP (.Call (.Name "set" a0) [e] [] Y) X.env)]:=by rfl):
  PE X (.Call (.Name "sorted" p) [.Call (.Name "set" a0) [e] [] Y] [] pos) (kL K t):=by
 constructor;intro pins s σ H Q I h;subst y0;refine Di (Sg I z0 A0 PyProof.Rows.boot_sorted ?_ (by decide) (by decide));refine gv ?_ (by rw[l0];rfl) rfl;rw[l0];show wpAny _ _ (YR ((GP,XP (.Call (.Name "set" a0) [e] [] Y) X.env)::cQ pos [])) _ _ s;refine xj ?_;refine Di (Sg I B0 c0 PyProof.Rows.boot_set (jm (Aa (C0 Y pins s σ H _ I h) ?_) D0 rfl) (by decide) (by decide));rintro us s1⟨vs,F0,O,G0,q1⟩;obtain⟨l,xs,ks,rfl,I0,pk,b1,q⟩:=q1;refine ea1 ?_ (gg G0);rintro u rfl J0;cases J0;refine ea7 ?_ (O.list I0);rintro J d0 pl hz;have K0:J.length=xs.length:=d0.length.symm;have L0:ks.length=J.length:=(qb pk).symm.trans K0.symm;refine ea1 ?_ (id O.loc);rintro m m0 _;have n0:(VA.node.toHVK.pair VA.node.toHVK).d=2:=rfl;have o0:∀(i:Nat)(u:xP),J[i]?=wP u->∃k,ks[i]?=wP k/\(VA.node.toHVK.pair VA.node.toHVK).is s1.heap k u:=λi u M0=>by
  refine ea1 ?_ (Rf d0 M0);rintro x ex e0;refine ea1 ?_ (Wb pk ex);rintro k ek f0;exact⟨k,ek,Pw O f0 e0⟩
 refine ea1 ?_ (dC (VA.node.toHVK.pair VA.node.toHVK) ((0,0),(0,0)) L0 o0);rintro kf p0 q0;have N0:∀u∈J,∃b,u=.ref b:=λu g0=>by
  obtain⟨i,hi⟩:=ze.mp g0;obtain⟨k,_,⟨_,_,⟨ad,_,_,e,_⟩,_⟩⟩:=o0 i u hi;exact⟨ad,e⟩
 refine wJ (V:=VA.node.toHVK.pair VA.node.toHVK) (kf:=kf) (us:=J) (by rw[n0];decide) (by rw[n0];lia) N0 p0 (O.ok.hd j0) pl.isList (by simp_all) λh' O0 r0 k=>?_
 refine Wl ?_;have Kb:(Fh (J.map kf)).length<=1200:=by have:=Ow (J.map kf);rw[pa]at this;lia
 refine Np CQ Vn Ln (NQ _) ?_;unfold Builtin.«sorted»;refine ba (m:=checkCount "sorted" 1 1 _) (ca (ba ?_));refine yJ (s:={s1 with heap:=h',toks:=O0}) (O.ok.hd j0) Kb r0 rfl λU s0 d ms k2 b0 t0=>?_
 have P0:ms.length=(Fh (J.map kf)).length:=by have:=b0.length_eq;rwa[pa]at this
 have c1:ms.length<=1200:=by rw[P0];have:=Ow (J.map kf);rw[pa]at this;lia
 refine ba (oj ?_ (by rw[ti];lia));have k1:∀b o,s1.heap.get? b=wP o->(U.push {cls:=.type "list",data:=.seq ms.toArray}).get? b=wP o:=λb o e=>Ta _ (by simp_all)
 have u0:(U.push {cls:=.type "list",data:=.seq ms.toArray}).get? U.objs.size=wP (PP "list" ms.toArray 0):=Hb _ rfl;have h0:s1.heap.objs.size<=U.objs.size:=by
  revert r0;refine ea5 ?_;rintro o _ _;refine ea1 ?_;rintro _ Q0 _;exact sj (Xa (k2 _ _ Q0))
 refine ba (Jc (zd En ⟨_,u0,rfl⟩ Mn (oC VA.node VA.node (s:={s1 with heap:=U.push {cls:=.type "list",data:=.seq ms.toArray},toks:=s0,drawn:=d}) (by rw[ti];lia) (show X.A.in1.in1.units+2<MP by show X.A.units+1+1+2<MP;lia) (λu g0=>⟨_,(VA.node.toHVK.pair VA.node.toHVK).keep (p0 u (t0 u g0)) λb o _ _ e _ _=>k1 b o e⟩) u0 (m0.keeps k1) λout R0 c kp S0 T0 i0=>⟨_,rfl,?_⟩) (Wp _)));have lo:=i0.length_eq;obtain⟨ys,v0,U0⟩:=Vq (R:=Uc F0) (out.map kf) out (by rw[pa]) λp b0=>by
  obtain⟨v,V0,rfl⟩:=Ya.mp (Zw kf out▸b0);obtain⟨i,hi⟩:=ze.mp (t0 v (i0.mem_iff.mp V0));obtain⟨x,ex,e0⟩:=Rf d0 hi;obtain⟨W0,ek,f0⟩:=Wb pk ex;rw[<-q0,fb,hi]at ek;cases ek;exact⟨x,e0,f0⟩
 have X0:=Aw (t':=s0) (D:=U.objs.size) (u:=.lst ys) (h':=R0) (KA d O) (λb o Y0 w0=>kp b o Y0 (Ab (Vd (Xa w0) h0)) (k1 b o w0)) (λd1 c0=>zw m0 c0▸S0) h0 (⟨by rw[v0.length,lo,ti];lia,nx0 out c v0 T0⟩);have x0:=(i0.map kf).trans b0;obtain⟨Z0,mem⟩:=vJ (J.map kf);refine ca ⟨_,rfl,.ref _,_,X0,rfl,q _ ys _ (O.za.fresh h0) U0 (x0.nodup_iff.mpr Z0) (λW0=>by rw[x0.mem_iff,mem,q0])⟩
end
section
variable{prog:HP}{w:KP}{A:LP}{s:zP}
def mL{x y:Rk}{u v:xP}{R:Bool->zP->Prop}{E:xP->zP->Prop}(r0:A.units+4<MP)(d0:ai s.heap x u)(e0:ai s.heap y v)(f0:Ww x y)(q:∀b,R b s):wpAny (FP prog w) A (keyLt' (eR (Value.type "tuple"!=Value.type "tuple")) u v) R E s:=by
 revert d0;refine eaB ?_;rintro a o n s0 t0 t u0 rfl g0 v0 h0 O U Y;revert e0;refine eaB ?_;rintro w0 x0 y0 z0 A0 t' B0 rfl i0 C0 j0 a0 b0 c0;have J:A.units+NV.d<MP:=by show A.units+1<MP;lia
 refine kat_lt g0 h0 i0 j0 (yQ (NV.eq J O a0 prog w _ _ (nR (λc=>LQ (yQ (NV.eq J U b0 prog w _ _ (nR (λc=>LQ (yQ (EqAt.int_int x.2.2.1 t y.2.2.1 t' prog w _ _ (nR (λc=>LQ (yQ (TB Y c0 prog w _ _ (nR (λc=>LQ (kat_nil (q _))) λd=>LR ?_)))) λc=>LR (VA.int.one _ (by(intros;subst_vars;first|rfl|assumption)) (by show A.units+0<MP;lia) ⟨t,rfl⟩ ⟨t',rfl⟩ q))))) λc=>LR (VA.node.one _ (by(intros;subst_vars;first|rfl|assumption)) J U b0 q))))) λc=>LR (VA.node.one _ (by(intros;subst_vars;first|rfl|assumption)) J O a0 q))));have D0:=f0 (by simpa using c);have F0:=of_decide_eq_false d;generalize x.2.2.2=l0 at*;generalize y.2.2.2=m0 at*;cases l0 with
 |none=>simp_all
 |some i=>
  cases m0 with
  |none=>simp_all
  |some j=>
   obtain⟨n0,o0⟩:=Y;obtain⟨p0,q0⟩:=c0;subst o0;subst q0;exact VA.int.one _ (by(intros;subst_vars;first|rfl|assumption)) (by show A.units+0<MP;lia) ⟨n0,rfl⟩ ⟨p0,rfl⟩ q
def nL{E:xP->zP->Prop}{us vs:List xP}{rs:List Rk}{P:PySem.Fin->zP->Prop}{a:BP}{b0:Nat}{ks:xP}(f0:A.units+4<MP)(u0:us.length=vs.length)(c0:Paired (λu r=>ai s.heap r u) us rs)(g0:∀x∈rs,∀y∈rs,Ww x y)
  (h:∀J:RP,fQ J=yP->((IP J).toList.map (·.2)).Perm vs->wpAny (FP prog w) A (ksk_tail a GP b0 ks J) P E s):
  wpAny (FP prog w) A (ksk_end a GP vs.toArray b0 ks us.toArray) P E s:=by
 have d0:∀u∈us,∃r∈rs,ai s.heap r u:=λu h0=>by
  obtain⟨i,hi⟩:=ze.mp h0;obtain⟨r,v0,w0⟩:=Wb c0 hi;exact(by grind)
 unfold ksk_end;simp only[ph,hf];have U:(us.toArray.zip vs.toArray).toList=us.zip vs:=by simp
 by_cases x0:2<=vs.length
 ·have O:¬vs.toArray.size<2:=by rw[ic];lia
  rw[ma O];refine ea7 ?_ (YB c0);rintro fs t l i0;refine ba (kat_kind (T:=Value.type "tuple") t (by lia) (λv j0=>?_) (by decide) ?_)
  ·obtain⟨k,Y⟩:=i0 v j0;exact VA.node.typ _ Y
  rw[ma O];let C:Ps.Cm prog w A E s:=⟨eR (Value.type "tuple"!=Value.type "tuple"),λp=>p.1∈us,λ{st p q Q}Y a0 l0 m0=>by
   rw[lt'_eq];refine ua (eg (ua (Ji (Ng ?_))));rw[Y];refine ea1 ?_ (d0 _ a0);rintro y0 mp n0;refine ea1 ?_ (d0 _ l0);rintro z0 o0 p0;exact mL f0 n0 p0 (g0 _ mp _ o0) λb=>⟨rfl,Ja (m0 b)⟩⟩
  have q0:∀x∈(us.toArray.zip vs.toArray).toList,C.gd x:=λx e0=>by
   rw[U]at e0;exact(Zp e0).1
  refine ba (Pc (Ps.Xf (C:=C) (Q:=λ_ J=>(IP J).Perm (us.toArray.zip vs.toArray)/\fQ J=yP) q0 (Array.Perm.refl _) rfl rfl rfl λJ r0 s0=>⟨r0,s0⟩) ?_ λ_ _ e=>e);rintro⟨⟨⟩,J⟩s' ⟨rfl,a0,t0⟩;have pl:=(Qk.mp a0).map (·.2);rw[U,List.map_snd_zip (by simp_all)]at pl;exact h J t0 pl
 ·have O:vs.toArray.size<2:=by rw[ic];lia
  rw[wa O];refine ba (ca ?_);rw[wa O,StateT.run_pure];refine h _ rfl (.of_eq ?_);rw[U,List.map_snd_zip (by lia)]
end
def oL{α β:Type}{R:α->β->Prop}{l:List α}{m:List β}(h:Paired R l m):Paired (λb a=>R a b) m l:=by
 induction h with
 |nil=>exact .nil
 |cons r _ J=>exact .cons r J
section
variable{X:Cx}{pins:List (BP×dQ)}{σ:L2.St}{H:Hp}{s:zP}
variable{k:Nat}{f:BP}{fd:aQ}{nm:Str}{sp:Sp}{A':LP}
def pL(F:uc X.prog X.w X.K X.mg X.base Ge k f fd [nm] sp)(j0:Td X.K fd [nm] [])(O0:A'.frames=wP X.stack)(t0:Wa k A')(P0:Yt sp){D:BP}{J:List xP}{es:List Eg}{n:Nat}{P:PySem.Fin->zP->Prop}{E:xP->zP->Prop}(I:Inv X pins σ H s)(u0:H D=wP (.ext (Ex D (PP "list" J.toArray n))))(hz:J.length<=DP)
  (pv:Paired (λv e=>∃b,v=Value.ref b/\Yb H (.ref b) e) J es)(ok:∀e∈es,xk e)
  (h:∀H' s' ys c0,Inv X pins σ (upd H' D (.lst ys)) s'->(∀b o,b≠D->H b=wP o->H' b=wP o)->Paired (Yb (upd H' D (.lst ys))) ys c0->c0.Perm es->P (.done (.ret .none)) s'):
  wpAny (FP X.prog X.w) A' (Builtin.«list.sort» ⟨[.ref D],[(Str.ofString "key",.ref f)]⟩) P E s:=by
 have Q0:A'.units+4<MP:=by have:=t0.un;lia
 rw[ksk_t1];unfold ksk_tree;have l0:s.heap.get? D=wP (PP "list" J.toArray n):=(I.za D _ u0).1;refine ba (KQ l0 rfl (ba (lm l0 rfl ?_ (by rw[ic];exact hz) (Tb _))));obtain⟨U,h0⟩:∃U,(s.heap.update D (Obj.mapSeq λ_=>(#[]:Array xP))).get? D=wP (PP "list" #[] U):=⟨_,Pn l0 (λ_=>#[])⟩;have R0:=bg s.heap D (Obj.mapSeq λ_=>(#[]:Array xP));have v0:=I.write (x:=D) (e:=D) (t':=s.toks) (o:=.ext (Ex D (PP "list" #[] U))) (by rw[u0];trivial) (.inl rfl) (λb o O e=>(R0.2 b O).trans e) ⟨_,h0⟩ (br h0);refine ba (XQ h0 rfl (ba (Kp (ba (oj (Jc ?_) (Tb _))) (by show J.length<=_;exact hz))));generalize s.heap.update D (Obj.mapSeq λ_=>(#[]:Array xP))=Y at v0 h0⊢;have m0:=v0.kept (t':=s.toks) (h':=Y.push (PP "tuple" J.toArray 0)) λb o e=>Ta _ e
 have w0:=m0.laid (t':=s.toks) (h':=(Y.push (PP "tuple" J.toArray 0)).push (PP "list" #[] 0)) (a:=(Y.push (PP "tuple" J.toArray 0)).objs.size) (o:=.ext (Ex (Y.push (PP "tuple" J.toArray 0)).objs.size (PP "list" #[] 0))) (λb o e=>Ta _ e) (xa _) (br (Hb _ rfl));have d0:=m0.fresh;have e0:(Y.push (PP "tuple" J.toArray 0)).objs.size≠D:=λz=>by rw[z,la]at d0;cases d0
 have x0:H (Y.push (PP "tuple" J.toArray 0)).objs.size=yP:=by rw[oa e0]at d0;exact d0
 have n0:=w0;clear w0 m0 d0;generalize(Y.push (PP "tuple" J.toArray 0)).push (PP "list" #[] 0)=o1 at n0⊢;generalize(Y.push (PP "tuple" J.toArray 0)).objs.size=KS at n0 e0 x0⊢;unfold ksk_rest;refine ba (Ye ?_);rw[<-Rj];have f0:∀b xs,H b=wP (.tup xs)->b≠D/\b≠KS:=by lia
 refine ba (BK F j0 O0 t0 P0 (D:=D) (KS:=KS) (oD:=PP "list" #[] U) (λx Q E s S0=>ba (Ng (Pc S0 (λv s' T0=>ba (Pc T0 (λ_ _ q=>ca q) λ_ _ z=>z)) λ_ _ z=>z.elim))) e0 J es [] [] _ _ 0 _ n0 (by rw[oa e0.symm,la]) la (by simpa using hz) (Paired.imp' (by rintro v e;refine ea1 ?_;rintro b U0 j0;exact⟨b,U0,j0.kp λc xs a0=>by rw[oa (f0 c xs a0).2,oa (f0 c xs a0).1];exact a0⟩) pv) ok .nil λV0 y0 g0 p1 i0 W0 q2 k2 X0 Y0=>?_);have z0:V0.length=J.length:=by rw[X0];simp
 refine ba (KQ (i0.za KS _ q2).1 rfl ?_);have A0:∀b o,b≠D->H b=wP o->y0 b=wP o:=λb o O e=>by
  have B0:b≠KS:=by lia
  exact k2 b o B0 (by rw[oa B0,oa O];exact e)
 refine nL Q0 z0 (rs:=es.map Ml) (by simpa using Paired.imp' (by rintro u r⟨p,ep,o0⟩;exact ep▸AK i0 o0) Y0) (λx Z0 y a1=>?_) λC0 b1 p0=>?_
 ·obtain⟨a,c1,rfl⟩:=Ya.mp Z0;obtain⟨b,d1,rfl⟩:=Ya.mp a1;exact zK (ok a c1) (ok b d1)
 ·generalize e1:(IP C0).toList.map (·.2)=b0 at p0;obtain⟨c0,f1,D0⟩:=QI (R:=λe v=>∃b,v=Value.ref b/\Yb H (.ref b) e) p0 (oL pv);obtain⟨ys,F0,g1⟩:=Vq (R:=Yb H) c0 b0 (qb D0) λp o0=>by
   obtain⟨i,hi⟩:=ze.mp o0;rw[Cs]at hi;refine ec7 ?_ (Wb D0 hi.1);rintro v G0 b U h1;rw[hi.2]at G0;cases G0;exact⟨.ref b,U,h1⟩
  have I0:b0.length=J.length:=p0.length_eq;unfold ksk_tail;dsimp only;have J0:=(i0.za KS _ q2).1;have i1:=bg g0.heap KS (Obj.mapSeq λ_=>(#[]:Array xP));obtain⟨K0,L0⟩:∃e,(g0.heap.update KS (Obj.mapSeq λ_=>(#[]:Array xP))).get? KS=wP (PP "list" #[] e):=⟨_,Pn J0 (λ_=>#[])⟩;have q0:=i0.write (x:=KS) (e:=KS) (t':=g0.toks) (o:=.ext (Ex KS (PP "list" #[] K0))) (by rw[q2];trivial) (.inl rfl) (λb o O e=>(i1.2 b O).trans e) ⟨_,L0⟩ (br L0);refine ba (lm J0 rfl (ba (Ii ?_)) (by rw[ic,z0];exact hz) (Tb _));generalize g0.heap.update KS (Obj.mapSeq λ_=>(#[]:Array xP))=r0 at q0⊢;have M0:upd y0 KS (.ext (Ex KS (PP "list" #[] K0))) D=wP (.ext (Ex D (PP "list" #[] U))):=by rw[oa e0.symm];exact W0
  have s0:r0.get? D=wP (PP "list" #[] U):=(q0.za D _ M0).1;refine ba (XQ s0 rfl ?_);simp only[ph,hf];have j1:(IP C0).map (·.2)=b0.toArray:=by
   apply Array.toList_inj.mp;rw[Array.toList_map,e1]
  rw[j1];have l1:=bg r0 D (Obj.mapSeq λ_=>b0.toArray);obtain⟨m1,N0⟩:∃e,(r0.update D (Obj.mapSeq λ_=>b0.toArray)).get? D=wP (PP "list" b0.toArray e):=⟨_,Pn s0 (λ_=>b0.toArray)⟩;refine ba (lm s0 rfl ?_ (Tb _) (by rw[ic,I0];exact Nat.le_succ_of_le hz));have n1:=q0.write (x:=D) (e:=D) (t':=g0.toks) (o:=.lst ys) (by rw[M0];trivial) (.inl rfl) (λb o O e=>(l1.2 b O).trans e) ⟨_,N0⟩ (⟨by rw[F0.length,I0];exact hz,nx0 _ m1 F0 N0⟩);rw[b1];simp only[Wr,ph,hf];refine ca (h _ _ ys c0 n1 (λb o O e=>?_) (Paired.imp' (λv e x=>x.kp λc xs a0=>?_) g1) f1)
  ·rw[oa λz=>by rw[z,x0]at e;cases e];exact A0 b o O e
  ·rw[oa (f0 c xs a0).1,oa (f0 c xs a0).2];exact A0 c _ (f0 c xs a0).1 a0
end
inductive qL(Q:VK)(vs:List V)(H1:Hp):Prop|mk(p:BP)(en:Array eQ)(ep:Nat)(ks:List Eg)(_:vs=[V.ref p])(_:H1 p=wP (.ext (uf p en ep)))(_:Uw H1 en ks)(_:(∀e∈ks,xk e))(_:∀D ys js H',H1 D=yP->(∀b o,H1 b=wP o->H' b=wP o)->H' D=wP (.lst ys)->Paired (Yb H') ys js->js.Perm ks->Q (.ref D) H')
def rL(t:TA):TE:=λJ H Q=>t J H (qL Q)
def sL{X:Cx}{k:Nat}{f:BP}{fd:aQ}{nm x:Str}{sp:Sp}{e:UP}{t:TA}{p kp m0 pos:sQ}(n0:X.calm=CP)(o0:Gl X "sorted")(p0:X.mg "sorted"=yP)(F:uc X.prog X.w X.K X.mg X.base Ge k f fd [nm] sp)(a0:Wa (k+1) X.A)(q0:Gl X x)(r0:X.mg x=wP (.ref f))(s0:Td X.K fd [nm] [])(t0:Yt sp)(u0:PA X [e] t)
  (v0:(x==("__debug__":Str))=GP:=by decide)(w0:cQ pos (JP [e] X.env)=(GP,XP e X.env)::cQ pos (JP [] X.env):=by rfl)(x0:(cQ pos (JP [e] X.env)).any (·.1)=GP:=by rfl):
  PE X (.Call (.Name "sorted" p) [e] [⟨wP "key",.Name x kp,m0⟩] pos) (rL t):=by
 constructor;intro y0 s z0 H Q I h;refine Di (Sg I o0 p0 cR ?_ (by decide) (by decide));refine callWith_kw (Aa (u0 pos y0 s z0 H _ I h) ?_) w0 x0;rintro us s1⟨vs,U,O,A0,q1⟩;obtain⟨d,b0,ep,ks,rfl,hd,B0,ok,q⟩:=q1;refine ea1 ?_ (gg A0);rintro u rfl C0;cases C0;show wpAny _ _ (evalAll ((do let v<-XP (.Name x kp) X.env;tR pos;pure v)::[])) _ _ s1;refine kR (ba (vm O q0 r0 (ba (Dn (ca (wpAny_evalAll_nil ?_)))) v0));show wpAny _ _ (call (.builtin "sorted") [.ref d] [(Str.ofString "key",.ref f)]) _ _ _;refine call_function_entry_kw CQ Vn Ln (ksk_s1 _ _) ?_;unfold Builtin.«sorted»;refine ba (m:=checkCount "sorted" 1 1 _) (ca ?_);refine ea3 ?_ ((O.za d _ hd).1);rintro lo hz D0;refine ba (W.kdu_collect (kK (es:=b0) (ep:=ep) lo) (O.ok.hd n0) D0 hz λh' f0 J F0 Y=>?_);have G0:J.toList.length=b0.size:=by rw[Lc];exact Y.1
 have g0:J.toList.length<=DP:=by rw[G0];exact hz
 refine ba (oj ?_ g0);have h0:(h'.push {cls:=.type "list",data:=.seq J.toList.toArray}).get? h'.objs.size=wP (PP "list" J.toList.toArray 0):=Hb _ rfl;have i0:=O.kept (t':=f0) F0;have I0:=i0.laid (t':=f0) (a:=h'.objs.size) (λb o e=>Ta _ e) (xa _) (br h0);have j0:U h'.objs.size=yP:=i0.fresh;have pv:Paired (λv e=>∃b,v=Value.ref b/\Yb (upd U h'.objs.size (.ext (Ex h'.objs.size (PP "list" J.toList.toArray 0)))) (.ref b) e) J.toList ks:=by
  have J0:∀{l:List xP}{c0:List eQ}{ks:List Eg},Paired (λ(e:eQ)k=>∃b,e.key=.ref b/\Yb U (.ref b) k) c0 ks->l=c0.map (·.key)->Paired (λv e=>∃b,v=Value.ref b/\Yb (upd U h'.objs.size (.ext (Ex h'.objs.size (PP "list" J.toList.toArray 0)))) (.ref b) e) l ks:=by
   intro l c0 ks K0;induction K0 generalizing l with
   |nil=>intro e;subst e;exact .nil
   |cons x t L0=>
    intro e;subst e;revert x;refine ea1 ?_;rintro b M0 N0;exact .cons ⟨b,M0,N0.kp λc xs d0=>by rw[oa λz=>by rw[z,j0]at d0;cases d0];exact d0⟩ (L0 rfl)
  refine J0 B0 ?_;apply Fs;intro i;rw[fb,ee,ee];by_cases hi:i<b0.size
  ·have l0:i<J.size:=by rw[Y.1];exact hi
   refine ea1 ?_ (Y.2 i J[i] (by rw[Ci l0]));rintro W0 O0 P0;rw[Ci l0,O0];exact Ub wP P0.symm
  ·rw[Jr (by rw[Y.1];simp_all),Jr (by lia)];rfl
 have Q0:Wa k X.A.in1.in1:=⟨a0.hd,by have:=a0.dp;show X.A.depth+3*k+5<_;lia,by have:=a0.un;show X.A.units+1+1+16*k+200<_;lia⟩;refine ba (Jc (wpAny_call_entry_kw En ⟨_,h0,rfl⟩ Mn (pL (A':=X.A.in1.in1) F s0 O.ok.frames Q0 t0 I0 la g0 pv ok λH' s' ys R0 S0 T0 U0 V0=>?_) (ksk_l1 _ _)));refine⟨_,rfl,ca ⟨_,rfl,.ref h'.objs.size,_,S0,rfl,q _ ys R0 _ j0 (λb o e=>?_) la U0 V0⟩⟩;have e0:b≠h'.objs.size:=by lia
 rw[oa e0];exact T0 b o e0 (by rw[oa e0];exact e)
namespace Gs
section
variable{prog:HP}{w:KP}{s:zP}{A:LP}{E:xP->zP->Prop}{C:bj prog w A E s}{ja:Array OP}{st:RP}
def join{m k:StateT RP SR (Option Nat)}{R:RP->Prop}{Q:Option Nat->RP->Prop}(h:(∀J,R J->UQ (FP prog w) A E s k Q J)->UQ (FP prog w) A E s m Q st)(a:∀J,R J->UQ (FP prog w) A E s k Q J):UQ (FP prog w) A E s m Q st:=h a
def tL{xs:Array OP}{f0:Array (Nat×Nat×Nat)}{lo d0:Nat}{Q:Option Nat->RP->Prop}(h0:∀x∈ja.toList,C.gd x)(G0:lo+d0<=ja.size)(w0:1<=d0)(b0:Sb C ja f0 lo xs st)(h:∀m J,Sb C ja f0 lo xs J->1<=m->m<=d0->Cb C (IP J) lo (lo+m)->Q (wP m) J):UQ (FP prog w) A E s (countRun' lo d0) Q st:=by
 refine ua (ve (lo:=lo) (λx n R c0 e0 n0 o0=>ua (Hh b0 h0 (by show lo+n<ja.size;lia) (by show lo+n-1<ja.size;lia) (λz=>Ja (n0 z)) λz=>Ja (o0 z))) (xa 1) w0 (PB _ _) λn r0 s0 m0 x0=>?_);refine pb (λc=>Ja (h _ _ b0 r0 s0 m0)) λc=>?_
 have y0:n≠d0:=by simpa using c
 have t0:=Int.le_of_lt (x0.resolve_left y0);refine join (R:=λg0=>Sb C ja f0 lo xs g0/\Nc C (IP g0) lo (lo+n+1)) (λi0=>pb (λz0=>ua (Hh b0 h0 (by lia) (by show lo+n-1<_;lia) (λz=>Ja (h _ _ b0 r0 s0 m0)) λz=>ua (Zk (i0 _ ⟨b0.wk (xa _) (by lia),?_⟩)))) λz0=>i0 _ ⟨b0,?_⟩) λg0 p0=>?_
 ·replace z:¬Kc C (IP st) lo<Kc C (IP st) (lo+n-1):=z;have eq:∀i,lo<=i->i<lo+n->Kc C (IP st) i=Kc C (IP st) lo:=λi a b=>by
   have I0:=m0 lo i (xa _) a b;have j0:=m0 i (lo+n-1) a (by lia) (by lia);lia
  refine Nc.eq (ar (λi j c0 e0 l0=>?_) (by lia) t0) λk=>?_
  ·rw[eq i c0 (by lia),eq j (by lia) l0];exact Int.le_refl _
  ·show Kc C (FR (IP st) lo (lo+n) ((lo+n-lo)/2)) k=Kc C (IP st) k;rw[Zq (by rw[b0.size];lia)];split
   ·next q=>rw[eq k q.1 q.2,eq _ (by omega) (by omega)]
   ·rfl
 ·have A0:n=1:=by lia
  subst A0;refine ar (λi j c0 e0 l0=>?_) (by lia) t0;obtain rfl:i=j:=by lia
  exact Int.le_refl _
 obtain⟨b0,B0⟩:=p0;refine ua (Ji (Ye (And.intro rfl ?_)));refine ua (Bf (Je (I:=λx c J=>∃O,c=(yP,x,O)/\Sb C ja f0 lo xs J/\Nc C (IP J) lo (lo+x)/\O+1<=x/\∀i,lo+x-(O+1)<=i->i<lo+x->Kc C (IP J) i=Kc C (IP J) (lo+x-1)) (Q:=λc J=>∃m O,c=(yP,m,O)/\m<=d0/\Sb C ja f0 lo xs J/\Nc C (IP J) lo (lo+m)/\O+1<=m/\∀i,lo+m-(O+1)<=i->i<lo+m->Kc C (IP J) i=Kc C (IP J) (lo+m-1)) ?_ ?_ ⟨0,rfl,b0,B0,by simp_all,λi a b=>by rw[show i=lo+(n+1)-1 by lia]⟩) ?_)
 ·rintro x c J c0 e0;refine ec5 ?_;rintro O rfl U Y q3 a0;replace c0:n+1<=x:=c0;refine ua (Hh U h0 (by show lo+x<ja.size;lia) (by show lo+x-1<ja.size;lia) (λz=>?_) λz=>?_)
  ·have u0:=Int.le_of_lt z;refine pb (λ_=>pb (λj0=>ua (Zk (Ja ⟨0,rfl,U.wk (by show lo<=lo+x-(O+1);lia) (by show lo+x<=ja.size;lia),Nc.eq (ar (hi:=lo+x) Y (by lia) u0) λk=>?_,by simp_all,λi a b=>by rw[show i=lo+(x+1)-1 by lia]⟩))) λj0=>Ja ⟨0,rfl,U,ar (hi:=lo+x) Y (by lia) u0,by lia,λi a b=>by rw[show i=lo+(x+1)-1 by lia]⟩) λn=>absurd rfl n
   show Kc C (FR (IP J) (lo+x-(O+1)) (lo+x) ((lo+x-(lo+x-(O+1)))/2)) k=Kc C (IP J) k;rw[Zq (by rw[U.size];lia)];split
   ·next q=>rw[a0 k q.1 q.2,a0 _ (by omega) (by omega)]
   ·rfl
  ·refine pb (λn=>by cases n) λ_=>ua (Hh U h0 (by show lo+x-1<ja.size;lia) (by show lo+x<ja.size;lia) (λj0=>Ja (nx10 x O rfl (sj e0) U Y q3 a0)) λj0=>Ja ?_)
   have ex:Kc C (IP J) (lo+x)=Kc C (IP J) (lo+x-1):=Int.le_antisymm (Int.not_lt.mp j0) (Int.not_lt.mp z);refine⟨O+1,rfl,U,ar (hi:=lo+x) Y (by lia) (Int.le_of_eq ex),by simp_all,λi J0 K0=>?_⟩;show _=Kc C (IP J) (lo+x);by_cases C0:i=lo+x
   ·rw[C0]
   ·rw[a0 i (by lia) (by lia),ex]
 ·rintro c J;refine ec5 ?_;rintro O rfl U Y q3 a0;rw[show max (n+1) d0=d0 by lia]at Y q3 a0⊢;exact nx10 _ _ rfl (xa _) U Y q3 a0
 ·rintro c J;refine eb6 ?_;rintro m O rfl D0 U Y q3 a0;refine join (R:=λg0=>Sb C ja f0 lo xs g0/\Nc C (IP g0) lo (lo+m)) (λi0=>pb (λ_=>ua (Zk (i0 _ ⟨U.wk (by show lo<=lo+m-(O+1);lia) (by show lo+m<=ja.size;lia),Nc.eq Y λk=>?_⟩))) λ_=>i0 _ ⟨U,Y⟩) λst4 p0=>ua (Zk ?_)
  ·show Kc C (FR (IP J) (lo+m-(O+1)) (lo+m) ((lo+m-(lo+m-(O+1)))/2)) k=Kc C (IP J) k;rw[Zq (by rw[U.size];lia)];split
   ·next q=>rw[a0 k q.1 q.2,a0 _ (by lia) (by lia)]
   ·rfl
  obtain⟨q0,F0⟩:=p0;have v0:=q0.wk (i:=lo) (j:=lo+m) (xa _) (by lia);refine ua (ve (lo:=lo) (a:=m) (λx n R c0 e0 n0 o0=>ua (Hh v0 h0 (by show lo+n<ja.size;lia) (by show lo+n-1<ja.size;lia) (λz=>Ja (n0 z)) λz=>Ja (o0 z))) (by lia) D0 (λi j c0 e0 l0=>?_) λL0 c0 e0 l0 _=>Ja (h _ _ v0 (by lia) e0 l0));show Kc C (FR (IP st4) lo (lo+m) ((lo+m-lo)/2)) i<=Kc C (FR (IP st4) lo (lo+m) ((lo+m-lo)/2)) j;rw[Zq (by rw[q0.size];lia),Zq (by rw[q0.size];lia),wa (by lia),wa (by lia)];exact F0 _ _ (by omega) (by omega) (by omega)
def uL{Q:Unit->RP->Prop}(f0:∀x∈ja.toList,C.gd x)(c0:(IP st).Perm ja)(U:kindOf st=C.κ)(g0:fQ st=yP)(h0:WP st=#[])(t0:ja.size<64)(fin:∀J,(IP J).Perm ja->fQ J=yP->Cb C (IP J) 0 ja.size->Q () J):UQ (FP prog w) A E s sortRuns' Q st:=by
 refine ua (eg ?_);have hz:=c0.size_eq;have i0:gR (IP st).size (IP st).size 0=(IP st).size:=by
  cases e:(IP st).size with
  |zero=>rfl
  |succ n=>rw[minRun'_succ,wa (by simp_all)]
 refine ua (Bf (Je (I:=λx c J=>∃lo,c=(yP,lo)/\((x=0/\lo=0/\J=st)\/(lo=ja.size/\(IP J).Perm ja/\fQ J=yP/\(WP J).size<=1/\Cb C (IP J) 0 ja.size))) (Q:=λc J=>∃lo,c=(yP,lo)/\(IP J).Perm ja/\fQ J=yP/\(WP J).size<=1/\Cb C (IP J) 0 ja.size) ?_ ?_ ⟨0,rfl,.inl ⟨rfl,rfl,rfl⟩⟩) ?_)
 ·rintro x c J _ d0;refine ea1 ?_;rintro lo rfl Y;replace d0:x<(IP st).size:=d0;refine pb (λz=>Ja ?_) λz=>?_
  ·replace z:lo≥(IP st).size:=z;rcases Y with⟨rfl,rfl,rfl⟩|⟨_,d⟩
   ·lia
   ·exact⟨lo,rfl,d⟩
  replace z:¬lo≥(IP st).size:=z;refine ea3 ?_ (Y.resolve_right λh=>by simp_all);rintro rfl rfl rfl
  refine ua (tL (C:=C) (lo:=0) (xs:=IP J) f0 (by show 0+((IP J).size-0)<=ja.size;simp_all) (by show 1<=(IP J).size-0;lia) ⟨c0,U,g0,rfl,λ_ _=>rfl⟩ λm a0 j0 u0 l0 O=>?_);replace l0:m<=(IP J).size-0:=l0;dsimp-zeta+zetaDelta only
  extract_lets+onlyGivenNames v0 o0
  obtain⟨j,m0⟩:∃j,j=o0:=⟨_,rfl⟩;rw[<-m0];refine Ps.Uf (γ:=Nat) (λn a0=>Sb C ja (WP J) 0 (IP J) a0/\n=ja.size/\Cb C (IP a0) 0 (0+n)) (λn=>j () n) ?_ λU=>pb (λc=>ua (Ji (Ye ⟨rfl,ua (tf (C:=C) (lo:=0) (xs:=IP J) f0 ?_ ?_ ?_ j0 O λw0 p0 q0=>pb (λn=>by cases n) λ_=>U _ _ ⟨p0,?_,q0⟩)⟩))) λc=>U m a0 ⟨j0,?_,O⟩
  ·subst m0;rintro n⟨k3,x0,r0,y0,z0⟩;refine ea3 ?_;rintro⟨s1,A0,s0,b0,_⟩rfl O;replace b0:r0=WP J:=b0;rw[h0]at b0;subst b0;refine ua (eg (ua (ui (Ja ⟨_,rfl,.inr ⟨yj _,s1,s0,xa _,?_⟩⟩))));rw[yj]at O;exact O
  all_goals
   try replace c:m<gR (IP J).size (IP J).size 0:=c
   try replace c:¬m<gR (IP J).size (IP J).size 0:=c
   rw[i0]at c;try show _+min ((IP J).size-0) (gR (IP J).size (IP J).size 0)<=_
   try show _<=min ((IP J).size-0) (gR (IP J).size (IP J).size 0)
   try show min ((IP J).size-0) (gR (IP J).size (IP J).size 0)=_
   try rw[i0]
   grind
 ·rintro c J;refine ea1 ?_;rintro lo rfl Y;rcases Y with⟨n0,rfl,rfl⟩|⟨_,d⟩
  ·replace n0:(IP J).size=0:=n0;exact⟨0,rfl,c0,g0,by rw[h0];exact Tb _,λi j _ _ B0=>by lia⟩
  ·exact⟨lo,rfl,d⟩
 ·rintro c J;refine ea1 ?_;rintro lo rfl d;refine ua (Bf (Je (I:=λx c e0=>c=(yP,())/\e0=J) (Q:=λc e0=>c=(yP,())/\e0=J) ?_ (λ_ _ z=>z) ⟨rfl,rfl⟩) ?_)
  ·rintro x c st4 _ d0⟨rfl,rfl⟩;exact ua (eg (pb (λ_=>Ja ⟨rfl,rfl⟩) λz=>absurd d.2.2.1 z))
  ·rintro c st4⟨rfl,rfl⟩;exact Ja (fin st4 d.1 d.2.1 d.2.2.2)
end
end Gs
def pC{α β:Type}{f:α->β}{l:List α}(h:(l.map f).Nodup){x y:α}(J:x∈l)(O:y∈l)(e:f x=f y):x=y:=by
 induction l with
 |nil=>cases J
 |cons a r Y=>
  obtain⟨U,a0⟩:=Vc.mp (show(f a::r.map f).Nodup from h);rcases jb.mp J with rfl|z
  ·rcases jb.mp O with rfl|z
   ·rfl
   ·exact absurd (e▸List.mem_map_of_mem z) U
  ·rcases jb.mp O with rfl|q
   ·exact absurd (e▸List.mem_map_of_mem z) U
   ·exact Y a0 z q
def vL{prog:HP}{w:KP}{A:LP}{s:zP}{E:xP->zP->Prop}{x y:Tk}{u v:xP}{R:Bool->zP->Prop}(O:A.units+1<MP)(U:IsT s.heap x u)(Y:IsT s.heap y v)(one:x.1=y.1->x=y)(J:R (decide (x.1<y.1)) s):
  wpAny (FP prog w) A (keyLt' (eR (VA.int.T !=Value.type "tuple")) u v) R E s:=by
 obtain⟨ad,o,n,a0,b0,t3,rfl,c0,l0,d0⟩:=U;obtain⟨m0,n0,o0,e0,f0,g0,rfl,h0,p0,i0⟩:=Y;have hz:=Nat.lt_of_succ_lt O;refine kat_lt c0 d0 h0 i0 (yQ (HVK.int.eq hz ⟨a0,rfl⟩ ⟨e0,rfl⟩ prog w _ _ (nR (λq=>?_) λq=>LR (oneLt_int J))));have j0:=zc q;obtain rfl:=one j0;refine LQ (yQ (HVK.int.eq hz ⟨b0,rfl⟩ ⟨f0,rfl⟩ prog w _ _ (nR (λq=>LQ (yQ (HVK.int.eq hz ⟨t3,rfl⟩ ⟨g0,rfl⟩ prog w _ _ (nR (λq=>LQ (kat_nil ?_)) λq=>by simp at q)))) λq=>by simp at q)));rw[Wd (Int.lt_irrefl _)]at J;exact J
section
variable{X:Cx}
def wL(n0:X.A.units+16<MP):Cf X (.builtin "sorted") (λxs H Q=>∃(a:BP)(vs:List V)(ks:List Tk),xs=[V.ref a]/\ia X.K H a vs/\Paired (Jl H) vs ks/\vs.length<64/\(ks.map (·.1)).Nodup/\
  ∀p ys e0,H p=yP->Paired (Jl H) ys e0->e0.Perm ks->e0.Pairwise (λa b=>a.1<=b.1)->Q (.ref p) (upd H p (.lst ys))):=by
 intro h1 s i1 H xs us Q I r h;obtain⟨a,vs,ks,rfl,e,pk,j1,A0,q⟩:=h;obtain⟨u,rfl,B0⟩:=gg r;cases B0;obtain⟨m,o0,_⟩:=id I.loc;refine ea7 ?_ (I.list e);rintro J b0 C0 D0;have hz:J.length<=DP:=by rw[<-b0.length];exact D0
 refine Np CQ Vn Ln (NQ _) ?_;refine ba (ca (ba (collect_list C0.isList (ba (oj ?_ (by simpa using hz))) (by simpa using hz))));have k0:∀b o,s.heap.get? b=wP o->((s.heap.push (PP "list" #[] 0)).update s.heap.objs.size (Obj.mapSeq (·++J.toArray))).get? b=wP o:=λb o e=>by
  rw[Heap.get?_update_ne _ _ _ _ (Ab (Xa e))];exact Ta _ e
 have hsz:((s.heap.push (PP "list" #[] 0)).update s.heap.objs.size (Obj.mapSeq (·++J.toArray))).objs.size=s.heap.objs.size+1:=by rw[Heap.size_update,Zf]
 generalize(s.heap.push (PP "list" #[] 0)).update s.heap.objs.size (Obj.mapSeq (·++J.toArray))=O at k0 hsz;have f0:s.heap.objs.size<=O.objs.size:=by rw[hsz];exact qi _
 have k1:∀b o,s.heap.get? b=wP o->(O.push {cls:=.type "list",data:=.seq J.toArray}).get? b=wP o:=λb o e=>Ta _ (k0 b o e)
 have p0:(O.push {cls:=.type "list",data:=.seq J.toArray}).get? O.objs.size=wP (PP "list" J.toArray 0):=Hb _ rfl;have q0:=I.kept (t':=s.toks) k1;have c0:∀u∈J,∃k∈ks,IsT (O.push {cls:=.type "list",data:=.seq J.toArray}) k u/\∃x,Ka x u/\Jl H x k:=λu n0=>by
  obtain⟨i,hi⟩:=ze.mp n0;refine ea1 ?_ (Rf b0 hi);rintro x ex Y;refine ea1 ?_ (Wb pk ex);rintro k ek a0;exact nx18 k (by grind) (AB q0 a0 Y) x ⟨Y,a0⟩
 have em:J.map (Nl (O.push {cls:=.type "list",data:=.seq J.toArray}))=ks:=by
  apply Fs;intro i;rw[fb];cases hi:J[i]? with
  |none=>
   have:ks.length<=i:=by rw[<-qb pk,b0.length];exact bv.mp hi
   simp_all
  |some u=>
   refine ea1 ?_ (Rf b0 hi);rintro x ex Y;refine ea1 ?_ (Wb pk ex);rintro k ek a0;rw[ek,<-Zt (AB q0 a0 Y)];rfl
 generalize O.push {cls:=.type "list",data:=.seq J.toArray}=U at*;have kp:∀h':NP,(∀b o,b≠O.objs.size->U.get? b=wP o->h'.get? b=wP o)->∀u k,IsT U k u->IsT h' k u:=λh' k u l1⟨a,o,n,F0,G0,t3,e,I0,J0,K0⟩=>nx15 a o n F0 G0 t3 e (k a o (λz=>by
  grind) I0) J0 K0
 refine ba (Jc (zd En ⟨_,p0,rfl⟩ Mn (nC (s:={s with heap:=U}) (eR (VA.int.T !=Value.type "tuple")) (λl=>l.Pairwise λx y=>(Nl U x).1<=(Nl U y).1) hz p0 (o0.keeps k1) (λL0 h' k R q=>?_) (λL0 h' k=>?_) (λM0=>?_) λout h' c N0 O0 P0 g0 Q0=>?_) (Wp _)))
 ·refine ea7 ?_ (ZB λv h0=>let⟨r0,_,i0,_⟩:=c0 v h0;⟨r0,kp h' k v r0 i0⟩);rintro fs t l R0
  exact kat_kind t (by lia) (λv h0=>by obtain⟨_,j0⟩:=R0 v h0;exact VA.int.typ _ j0) VA.int.rfT q
 ·refine Gs.uL (C:=⟨eR (VA.int.T !=Value.type "tuple"),λp=>p.1=p.2/\p.1∈J,λp=>(Nl U p.1).1,λ{st p q Q}j0 l0 S0 s0=>?_⟩) (λx d0=>?_) (Array.Perm.refl _) rfl rfl rfl ?_ λT0 m0 U0 V0=>⟨m0,U0,?_⟩
  ·rw[lt'_eq];refine ua (eg (ua (Ji (Ng ?_))));rw[j0];refine ea7 ?_ (c0 _ l0.2);rintro W0 X0 ix _;refine ea7 ?_ (c0 _ S0.2);rintro Y0 Z0 t0 _;rw[Zt ix,Zt t0]at s0;exact vL (by show X.A.units+1+1+1<MP;lia) (kp h' k _ W0 ix) (kp h' k _ Y0 t0) (pC A0 X0 Z0) ⟨rfl,Ja s0⟩
  ·rw[cq]at d0;exact uR d0
  ·rw[<-Lc,cq,List.length_zip];have:=b0.length;simp_all
  ·have u0:=m0.size_eq;have pl:(IP T0).toList.Perm (J.zip J):=by rw[<-cq];exact Qk.mp m0
   have v0:=Gs.jK V0 (by rw[u0];exact xa _);rw[List.drop_zero,Nat.sub_zero,gl (by rw[Lc,u0];exact xa _)]at v0;refine Be.mpr (Hn (λ{x y}d0 a1 b1=>?_) v0);rw[<-(uR (pl.mem_iff.mp d0)).1,<-(uR (pl.mem_iff.mp a1)).1];exact b1
 ·match J,M0 with
  |[],_=>exact .nil
  |[x],_=>exact List.pairwise_singleton _ _
  |x::y::r,h=>exact absurd h (by simp)
 ·have c1:(out.map (Nl U)).Pairwise λa b=>a.1<=b.1:=Be.mpr Q0
  refine⟨_,rfl,?_⟩;obtain⟨ys,w0,d1⟩:=Vq (out.map (Nl U)) out (by simp) λp l0=>by
   obtain⟨i,hi⟩:=ze.mp l0;rw[Cs,fb]at hi;obtain⟨x0,y0⟩:=hi;obtain⟨k,_,i0,x,Y,a0⟩:=c0 p.2 (g0.mem_iff.mp (yb y0));rw[y0]at x0;rw[<-me x0,Zt i0];exact⟨x,Y,a0⟩
  have e1:=Aw (t':=s.toks) (u:=.lst ys) I (λb o f1 z0=>N0 b o f1 (Ab (Vd (Xa z0) f0)) (k1 b o z0)) (λm1 g1=>zw o0 g1▸O0) f0 (⟨by rw[w0.length,g0.length_eq];exact hz,nx0 out c w0 P0⟩);refine ca ⟨_,rfl,.ref _,_,e1,rfl,q _ ys _ (I.za.fresh f0) d1 ?_ c1⟩;rw[<-em];exact g0.map _
end
end My
namespace Lw
open PySem PySem.Spec PyProof.Rows L2 My
set_option maxHeartbeats 4000000
inductive Lv where
 |loose|kept|make|watch|hold
def wd:Lv->Str
 |.loose=>"loose"
 |.kept=>"kept"
 |.make=>"make"
 |.watch=>"watch"
 |.hold=>"hold"
def ix:Lv->Nat
 |.loose=>0
 |.kept=>1
 |.make=>2
 |.watch=>3
 |.hold=>4
def ei:Lv->Bool
 |.loose=>CP
 |_=>GP
def Gf:Lv->Int->Int
 |.kept,n=>n+1
 |.make,_=>2
 |_,_=>1
def fu:Option Int->V
 |none=>.Pa
 |some k=>.int k
def zk:Lv->Int->Option Int
 |.loose,_=>yP
 |.kept,p=>wP p
 |_,_=>wP 0
def er:Lv->Int->Int
 |.kept,n=>n
 |_,_=>0
def So(l:Lv):Sp:=λvs H Q _=>∃x,vs=[x]/\Q (.str (wd l)) H
def fx(l:Lv):Sp:=λvs H Q _=>∃x,vs=[x]/\Q (.bl (ei l)) H
def To(l:Lv):Sp:=λvs H Q _=>∃(x:V)(n:Int),vs=[x,.int n]/\Q (.int (Gf l n)) H
def gr(l:Lv):Sp:=λvs H Q _=>∃(x:V)(n:Int),vs=[x,.int n]/\Q (fu (zk l n)) H
def hr(l:Lv):Sp:=λvs H Q _=>∃(x:V)(n:Int),vs=[x,.int n]/\Q (.int (er l n)) H
def aa.cj(Y:H x=yP)(a0:H J=yP)(n:J≠x):aa H (upd (upd H J (.own x)) x (.ins C J [])):=λb o e=>by
 have O:b≠x:=λz=>by simp_all
 have U:b≠J:=λz=>by grind
 rw[oa O,oa U];exact e
inductive qC(cls:Lv->BP)(N:BP)(vs:List V)(H:Hp)(Q:VK)(E:XK):Prop|mk(x:Str)(_:vs=[.str x])(_:x.length<=600)(_:(∀c∈x.cps.toList,c<16^8))(_:(∀l,x=wd l->∀a dx H',aa H H'->H' a=wP (.ins (cls l) dx [])->Q (.ref a) H'))(_:((∀l,x≠wd l)->∀H',aa H H'->E (.ref N) yP H'))
def top(i:Nat):hQ:=PySem.Challenge.pw_skewhouse_k65_reads_of_what_was_not_kept.main.body.getD i (.Pass ⟨0,0,0,0⟩)
def xL(s:hQ):List hQ:=match s with
 |.ClassDef _ _ _ b _ _ _ _ _ _ _=>b
 |_=>[]
def cm(i j:Nat):hQ:=(xL (top i)).getD j (.Pass ⟨0,0,0,0⟩)
set_option genInjectivity false in
set_option genSizeOf false in
open PySem.W in
structure Tx(K:UR)(mg:Str->Option xP)where
 rC:BP
 ah:BP
 dj:BP
 ej:BP
 fj:BP
 gj:BP
 hj:BP
 rP:mg "SkewError"=wP (.ref rC)
 sP:mg "NoLevel"=wP (.ref ah)
 yL:mg "Loose"=wP (.ref dj)
 zL:mg "Kept"=wP (.ref ej)
 AL:mg "Make"=wP (.ref fj)
 BL:mg "Watch"=wP (.ref gj)
 CL:mg "Hold"=wP (.ref hj)
 DL:Sz K mg "NoLevel" ah
 gx:Fe K mg "ring" (top 2) ["waits","start"]
 gu:Fe K mg "followers" (top 4) ["nodes","pairs"]
 jx:Fe K mg "how_many_ahead" (top 5) ["behind"]
 kx:Fe K mg "order_of" (top 6) ["nodes","pairs"]
 lx:Fe K mg "least_ring" (top 7) ["nodes","pairs"]
 iu:Me K dj "word" "Loose.word" (cm 12 0) ["self"]
 ju:Me K dj "spots" "Loose.spots" (cm 12 6) ["self","looks"]
 ku:Me K dj "look_spot" "Loose.look_spot" (cm 12 7) ["self","place"]
 lu:Me K dj "first_spot" "Loose.first_spot" (cm 12 8) ["self","looks"]
 mu:Me K dj "unkept" "Loose.unkept" (cm 12 3) ["self"]
 nu:Me K ej "word" "Kept.word" (cm 13 0) ["self"]
 ou:Me K ej "spots" "Kept.spots" (cm 13 2) ["self","looks"]
 pu:Me K ej "look_spot" "Kept.look_spot" (cm 13 3) ["self","place"]
 qu:Me K ej "first_spot" "Kept.first_spot" (cm 13 4) ["self","looks"]
 Kj:Me K ej "unkept" "Kept.unkept" (cm 13 1) ["self"]
 ru:Me K fj "word" "Make.word" (cm 14 0) ["self"]
 su:Me K fj "spots" "Make.spots" (cm 14 3) ["self","looks"]
 Uo:Me K fj "look_spot" "Make.look_spot" (cm 14 4) ["self","place"]
 Vo:Me K fj "first_spot" "Make.first_spot" (cm 14 5) ["self","looks"]
 tu:Me K gj "word" "Watch.word" (cm 15 0) ["self"]
 uu:Me K gj "spots" "Watch.spots" (cm 15 2) ["self","looks"]
 vu:Me K hj "word" "Hold.word" (cm 16 0) ["self"]
 wu:Me K hj "spots" "Hold.spots" (cm 16 2) ["self","looks"]
 xu:Me K hj "look_spot" "Hold.look_spot" (cm 16 3) ["self","place"]
 yu:Me K hj "first_spot" "Hold.first_spot" (cm 16 4) ["self","looks"]
 Ak:Fe K mg "level_of" (top 17) ["word"]
 fi:Fe K mg "levels_of" (top 22) ["past","word"]
 ir:Fe K mg "spots_of" (top 23) ["deal","level"]
 Wo:Fd K mg "spots" (top 26) ["history","word"]
 zu:Fe K mg "keeps_of" (top 24) ["past","levels"]
 mx:Fe K mg "firsts_of" (top 25) ["past","levels"]
 Au:Fe K mg "with_later" (top 27) ["things"]
 ox:Fe K mg "own_edges" (top 28) ["past","levels"]
 px:Fe K mg "pair_edges" (top 29) ["spot","key","source","makers","keeps"]
 qx:Fe K mg "deal_edges" (top 30) ["deal","level","makers","keeps"]
 rx:Fe K mg "look_edges" (top 31) ["past","levels"]
 sx:Fe K mg "over_edges" (top 32) ["past","levels"]
 Bu:Fe K mg "rank" (top 33) ["edge"]
 Xo:Fd K mg "edges" (top 34) ["history","word"]
 Hg:Fd K mg "unkept" (top 36) ["history","word"]
 ux:Fe K mg "ring_edges" (top 37) ["ring","told"]
 gi:Fd K mg "judge" (top 38) ["history","word"]
 Ol:Fe K mg "_law_cell_at" (top 40) ["_law_script","_law_k"]
 jr:Fe K mg "_law_whole" (top 41) ["_law_found"]
 kr:Fe K mg "_law_stream" (top 42) ["_law_cell","_law_many"]
 vx:Fe K mg "_law_keys" (top 43) ["_law_cell"]
 wx:Fe K mg "_law_times" (top 44) ["_law_xs","_law_end"]
 xx:Fe K mg "_law_drawn" (top 45) ["_law_script"]
 yx:Fe K mg "_law_source" (top 46) ["_law_makers","_law_ends","_law_number","_law_time"]
 zx:Fe K mg "_law_spoiled" (top 47) ["_law_deals","_law_makes","_law_cell"]
 Ax:Fe K mg "_law_tale" (top 48) ["_law_script"]
 Bx:Fe K mg "_law_word" (top 49) ["_law_cell"]
 Dx:Fe K mg "_law_odd" (top 50) ["_law_number"]
 Cu:Fe K mg "_law_marked" (top 51) ["_law_script"]
 lr:Fe K mg "_law_due" (top 52) ["_law_tale_here","_law_word_here"]
 mr:Fe K mg "_law_alike" (top 53) ["_law_found","_law_due_here"]
 Du:Fe K mg "_law_says" (top 54) ["_law_found","_law_due_here"]
 Eu:Fe K mg "_law_refused" (top 55) ["_law_tale_here","_law_word_here","_law_judged"]
 Fx:Fe K mg "law" (top 56) ["_law_script"]
 tP:e9s K ah
 Yo:Po K dj
 Zo:Po K ej
 bp:Po K fj
 EL:wg K fj "unkept" Kj.f
 cp:Po K gj
 FL:wg K gj "look_spot" Uo.f
 GL:wg K gj "first_spot" Vo.f
 HL:wg K gj "unkept" Kj.f
 hp:Po K hj
 IL:wg K hj "unkept" Kj.f
 tg:specialIn K (.builtin "object.__class__") "__get__"=wP (wP (.builtin "getset_descriptor.__get__"))
 tt:takesIn K (.builtin "object.__class__")=wP CP
 JL:e6z K mg "NoLevel" ah
 uP:subIn K (.ref ah) (.type "ValueError")=wP CP
 vP:e8l K ah rC CP
 sC:e8l K ah ah CP
 KL:Tok
 LL:mg "START"=wP (.int (0) KL)
 ML:Tok
 uC:mg "UNKEPT"=wP (.int (-1) ML)
 nr:BP
 NL:mg "KINDS"=wP (.ref nr)
 OL:∀H:Hp,Ba K H nr [V.str "own",V.str "saw",V.str "unseen",V.str "over"]
 PL:∃o:dQ,K.lookup nr=wP o/\o.cls=.type "tuple"/\o.dict=yP
 QL:mg "bool"=yP
 kn:mg "dict"=yP
 Gx:mg "enumerate"=yP
 RL:mg "int"=yP
 ip:mg "isinstance"=yP
 Kd:mg "len"=yP
 TL:mg "list"=yP
 vC:mg "min"=yP
 Bk:mg "range"=yP
 wC:mg "set"=yP
 ln:mg "sorted"=yP
 UL:mg "str"=yP
 xC:mg "tuple"=yP
 VL:mg "zip"=yP
def cO{K:W.Frag}{mg:Str->Option xP}(T:Tx K mg):Lv->BP
 |.loose=>T.dj
 |.kept=>T.ej
 |.make=>T.fj
 |.watch=>T.gj
 |.hold=>T.hj
def kN(n:Nk):List Key:=[Sum.inl n.1,Sum.inl n.2]
def jp(h:kN a=kN b):a=b:=by
 unfold kN at h
 grind
def Pl(h:Fb H v n):∃p,v=.ref p/\H p=wP (.tup ((kN n).map kV)):=h
def yC(h:H p=wP (.tup ((kN n).map kV))):Fb H (.ref p) n:=⟨p,rfl,h⟩
def He(s:aa H H')(h:Fb H v n):Fb H' v n:=by obtain⟨p,e,q⟩:=h;exact⟨p,e,s _ _ q⟩
def AC(s:aa H H')(h:Uc H v k):Uc H' v k:=by obtain⟨p,u,J,e,q,a,b⟩:=h;exact nx1 p u J e (s _ _ q) (He s a) (He s b)
def wf(H H':Hp):Prop:=∀b xs,H b=wP (.tup xs)->H' b=wP (.tup xs)
def lp(s:wf H H')(h:Fb H v n):Fb H' v n:=by obtain⟨p,e,q⟩:=h;exact⟨p,e,s _ _ q⟩
def dh(s:aa H H'):wf H H':=λb xs e=>s b _ e
def pr(e:H l=wP o)(n:∀xs,o≠.tup xs)(k:∀b u,b≠l->H b=wP u->H' b=wP u):wf H H':=λb xs q=>k b _ (λz=>by rw[z,e]at q;exact n xs (me q)) q
def wf.trans(a:wf A B)(b:wf B C):wf A C:=λx xs e=>b x xs (a x xs e)
abbrev Oc(H:Hp):List V->List Nk->Prop:=Paired (Fb H)
def We(s:wf H H')(h:Oc H vs ns):Oc H' vs ns:=Paired.Ib h λ_ _ z=>lp s z
def Hx(s:aa H H')(h:Paired (Uc H) vs ks):Paired (Uc H') vs ks:=Paired.Ib h λ_ _ z=>AC s z
def BD(H0 H:Hp)(J:List (List Key×V))(ns:List Nk)(U:Nk->List Nk):Prop:=
 Paired (λ(q:List Key×V)(n:Nk)=>q.1=kN n/\∃l O,q.2=.ref l/\H0 l=yP/\H l=wP (.lst O)/\Oc H O (U n)) J ns/\(J.map (·.2)).Nodup
def ef{xs:List α}{bs:List β}{ys:List α}{J:List β}(g:Paired F xs bs)(h:Paired F ys J):Paired F (xs++ys) (bs++J):=by
 induction g with
 |nil=>exact h
 |cons r _ O=>exact .cons r O
def Ix{α:Type}[DecidableEq α](O:∀q n,F q n->q.1=kN n){J:List (List Key×V)}{ns:List Nk}{n:Nk}(g:Paired F J ns)(h:n∈ns):∃q,q∈J/\Oa J (kN n)=wP q.2/\F q n:=by
 induction g with
 |nil=>cases h
 |@cons q m _ _ r t U=>
  by_cases e:n=m
  ·subst e;exact⟨q,Yf,by unfold Oa;simp[O _ _ r],r⟩
  ·refine ea7 ?_ (U (by rcases jb.mp h with z|z;exact absurd z e;exact z));rintro Y a b c;refine⟨Y,rh _ a,?_,c⟩;unfold Oa at b⊢;rw[sg,show decide (q.1=kN n)=GP from Wd λz=>e (jp ((O _ _ r).symm.trans z)).symm];exact b
def Jx:∀(O J:List (List Key×V)),(O.map (·.1)).Nodup->(∀p∈O,∀q∈J,q.1≠p.1)->dn J O=J++O
 |[],J,_,_=>(z1m _).symm
 |p::r,J,Y,a0=>by
  obtain⟨c0,b0⟩:=Vc.mp (show(p.1::r.map (·.1)).Nodup from Y);have e:lc J p.1 p.2=J++[p]:=by
   unfold lc;rw[ma];simp only[List.any_eq_true,Jp,not_exists,not_and];exactλq U=>a0 p Yf q U
  show dn (lc J p.1 p.2) r=_;rw[e,Jx r (J++[p]) b0 λx d0 q U=>?_,ke]
  ·rfl
  grind
def Ma(J:List (Nk×Nk))(n:Nk):List Nk:=(J.filter λp=>decide (p.1=n)).map (·.2)
def WL(J:List (Nk×Nk))(k:Nk×Nk)(n:Nk):Ma (J++[k]) n=if k.1=n then Ma J n++[k.2]else Ma J n:=by
 unfold Ma
 grind
abbrev Kx(J H:Hp)(D:BP)(y:V)(q:Nk×BP):Prop:=∃t b,y=.ref t/\t≠D/\q.2≠D/\H t=wP (.tup [.ref b,.ref q.2])/\H b=wP (.tup ((kN q.1).map kV))/\J q.2=yP/\H q.2=wP (.lst [])
def CB(O H:Hp)(D:BP)(ys:List V)(J:List (Nk×BP)):Prop:=Paired (Kx O H D) ys J/\(J.map (·.2)).Nodup
def CB.keep(c:CB J H D ys a0)(f0:J D=yP)(b0:∀xs,H D≠wP (.tup xs))(k:∀b o,b≠D->H b=wP o->H' b=wP o):CB J H' D ys a0:=
 ⟨Paired.Ib c.1 (by rintro _ _;refine eb6 ?_;rintro t b e O U c0 Y⟨d0,e0⟩;exact nx10 t b e O U (k _ _ O c0) (k _ _ (λz=>b0 _ (z▸Y)) Y) ⟨d0,k _ _ U e0⟩),c.2⟩
def CB.YL{K:W.Frag}{O H:Hp}{ys:List V}{J:List (Nk×BP)}(h:Paired (Kx O H D) ys J):vk K H ys (J.map λq=>(kN q.1,V.ref q.2)):=by
 induction h with
 |nil=>exact .nil
 |cons r _ U=>
  revert r;refine eb6 ?_;rintro t b rfl _ _ Y a0⟨_,_⟩;exact vk.cons (Ba.of Y) a0 U
def BC{ns:List Nk}(h:ns.Nodup):(ns.map kN).Nodup:=Be.mpr (rg (λn e=>n (jp e)) h)
def CB.bd{H0 O H H':Hp}{D:BP}(s:aa H0 O)(Y:∀b xs,b≠D->H b=wP (.lst xs)->H' b=wP (.lst xs)){ys:List V}{J:List (Nk×BP)}(h:Paired (Kx O H D) ys J):Paired (λ(q:List Key×V)(n:Nk)=>q.1=kN n/\∃l U,q.2=.ref l/\H0 l=yP/\H' l=wP (.lst U)/\Oc H' U []) (J.map λq=>(kN q.1,V.ref q.2)) (J.map (·.1)):=by
 induction h with
 |nil=>exact .nil
 |cons r _ a0=>
  revert r;refine eb6 ?_;rintro _ _ _ _ b0 _ _⟨c0,d0⟩;exact .cons (⟨rfl,nx3 _ ([]) rfl (s.free c0) (Y _ _ b0 d0) (.nil)⟩) a0
inductive ZL(K:W.Frag)(vs:List V)(H:Hp)(Q:VK)(_:XK):Prop|mk(a b:BP)(nv pv:List V)(ns:List Nk)(E:List (Nk×Nk))(_:vs=[.ref a,.ref b])(_:ia K H a nv)(_:Oc H nv ns)(_:ns.Nodup)(_:ns.length<=40)(_:ia K H b pv)(_:Paired (Uc H) pv E)(_:E.length<=1200)(_:(∀k∈E,k.1∈ns/\k.2∈ns))(_:∀d Ra js H',H d=yP->aa H H'->H' d=wP (.dT Ra)->js.Nodup->(∀k,k∈js↔k∈E)->BD H H' Ra ns (Ma js)->Q (.ref d) H')
def CC(s:wf H H')(h:Uc H v k):Uc H' v k:=by obtain⟨p,u,J,e,q,a,b⟩:=h;exact nx1 p u J e (s _ _ q) (lp s a) (lp s b)
def aM(s:wf H H')(h:Paired (Uc H) vs ks):Paired (Uc H') vs ks:=Paired.Ib h λ_ _ z=>CC s z
abbrev BR(H0 H:Hp)(O:Nk->List Nk)(q:List Key×V)(n:Nk):Prop:=q.1=kN n/\∃l J,q.2=.ref l/\H0 l=yP/\H l=wP (.lst J)/\Oc H J (O n)
def bM(a0:wf H H')(b0:∀b o,b≠c0->H b=wP o->H' b=wP o){J:List (List Key×V)}{ns:List Nk}(h:Paired (BR H0 H d0) J ns)(O:∀q∈J,q.2≠.ref c0)(U:∀n∈ns,e0 n=d0 n):Paired (BR H0 H' e0) J ns:=by
 induction h with
 |nil=>exact .nil
 |@cons q n _ _ r t f0=>
  obtain⟨g0,l,h0,Y,i0,j0,l0⟩:=r;exact .cons (⟨g0,nx3 l h0 Y i0 (b0 _ _ (λz=>O q Yf (by rw[Y,z])) j0) (by rw[U n Yf];exact We a0 l0)⟩) (f0 (λq m0=>O q (rh _ m0)) λn n0=>U n (rh _ n0))
def cM{H0 H H':Hp}{J:BP}{a0:Nk->List Nk}{k o:Nk}{u:V}{b0:List V}(O:wf H H')(e0:∀b o,b≠J->H b=wP o->H' b=wP o)(l0:H J=wP (.lst b0))(m0:H' J=wP (.lst (b0++[u])))(n0:Fb H u o)
  {U:List (List Key×V)}{ns:List Nk}(o0:Paired (BR H0 H a0) U ns)(p0:ns.Nodup)(q0:(U.map (·.2)).Nodup)(v:Oa U (kN k)=wP (.ref J)):Paired (BR H0 H' (λn=>if k=n then a0 n++[o]else a0 n)) U ns:=by
 induction o0 with
 |nil=>exact .nil
 |@cons q n f0 _ r t r0=>
  obtain⟨Y,l,s0,c0,g0,d0,h0⟩:=r;obtain⟨t0,u0⟩:=Vc.mp p0;obtain⟨v0,w0⟩:=Vc.mp (show(q.2::f0.map (·.2)).Nodup from q0);by_cases e:k=n
  ·subst e;have i0:q.2=.ref J:=by
    unfold Oa at v;rw[sg,show decide (q.1=kN k)=CP from zb Y]at v;exact me v
   rw[c0]at i0;cases i0;rw[l0]at d0;cases d0;refine .cons (⟨Y,nx3 J (b0++[u]) c0 g0 m0 ?_⟩) (bM O e0 t (λx0 y0 z=>v0 (by grind)) λm A0=>ma λz=>t0 (by simp[*]));dsimp only;rw[wa rfl];exact ef (We O h0) (.cons (lp O n0) .nil)
  ·have j0:Oa f0 (kN k)=wP (.ref J):=by
    unfold Oa at v⊢;rw[sg,show decide (q.1=kN k)=GP from Wd λz=>e (jp (z.symm.trans Y))]at v;exact v
   have z0:l≠J:=λz=>by
    obtain⟨x0,y0,B0⟩:=Jf.mp j0
    grind
   refine .cons (⟨Y,nx3 l s0 c0 g0 (e0 _ _ z0 d0) ?_⟩) (r0 u0 w0 j0);dsimp only;rw[ma e];exact We O h0
def Ld(ns:List Nk)(c:Nk->Int):List (List Key×V):=ns.map λn=>(kN n,V.int (c n))
def dM(ns:List Nk)(c:Nk->Int):(Ld ns c).map (·.1)=ns.map kN:=by unfold Ld;rw[Hc];rfl
def qr:∀{ns:List Nk}{n:Nk},n∈ns->Oa (Ld ns c) (kN n)=wP (.int (c n))
 |[],n,h=>by cases h
 |m::r,n,h=>by
  unfold Ld Oa;rw[ed,sg];by_cases e:m=n
  ·simp_all
  ·rw[show decide ((kN m,V.int (c m)).1=kN n)=GP from Wd λz=>e (jp z)];exact qr (by grind)
def DC(h:n∈ns):lc (Ld ns c) (kN n) (.int z)=Ld ns (λm=>if m=n then z else c m):=by
 unfold lc;rw[wa]
 ·unfold Ld;rw[Hc];refine Rr λm _=>?_
  show(if kN m=kN n then(kN m,V.int z)else(kN m,V.int (c m)))=(kN m,V.int (if m=n then z else c m));by_cases e:m=n
  ·rw[wa (by rw[e]),wa e]
  ·rw[ma λq=>e (jp q),ma e]
 ·rw[List.any_eq_true];exact⟨(kN n,.int (c n)),Ya.mpr ⟨n,h,rfl⟩,zb rfl⟩
abbrev CA(H:Hp)(D:BP)(y:V)(n:Nk):Prop:=∃t b,y=.ref t/\t≠D/\H t=wP (.tup [.ref b,.int 0])/\H b=wP (.tup ((kN n).map kV))
def eM{K:W.Frag}{H:Hp}{D:BP}{ys:List V}{ns:List Nk}(h:Paired (CA H D) ys ns):vk K H ys (Ld ns λ_=>0):=by
 induction h with
 |nil=>exact .nil
 |cons r _ J=>
  revert r;refine eaA ?_;rintro t b rfl _ O U;exact vk.cons (Ba.of O) U J
def eb(os:List Nk)(n:Nk):Int:=((os.count n:Nat):Int)
def Lx(os:List Nk)(o:Nk):(λm=>if m=o then eb os o+1 else eb os m)=eb (os++[o]):=by
 funext m;unfold eb
 grind
inductive fM(K:W.Frag)(vs:List V)(H:Hp)(Q:VK)(E:XK):Prop|mk(d:BP)(Ra:List (List Key×V))(ns:List Nk)(bh:Nk->List Nk)(_:vs=[.ref d])(_:Rd H d (.dT Ra))(_:Paired (BR (λ_=>yP) H bh) Ra ns)(_:ns.Nodup)(_:ns.length<=40)(_:(∀n∈ns,∀o∈bh n,o∈ns))(_:∀p ob H',H p=yP->(∀b o,b≠d->H b=wP o->H' b=wP o)->H' d=wP (.jd ob (.dT Ra))->H' p=wP (.dT (Ld ns (eb (ns.flatMap bh))))->Q (.ref p) H')
structure Ord(js:List (Nk×Nk))(ns L fs:List Nk)(n:Nat):Prop where
 nd:L.Nodup
 sub:∀x∈L,x∈ns
 len:n+L.length=ns.length
 bn:fs.Nodup
 fm:∀x,x∈fs↔x∈L/\x∉L.flatMap (Ma js)
 past:∀y∈ns,y∉L->y∉L.flatMap (Ma js)
def np:y∈Ma J m↔(m,y)∈J:=by
 unfold Ma;rw[Ya];constructor
 ·(intros;simp_all)
 ·intro h;exact⟨(m,y),im.mpr ⟨h,zb rfl⟩,rfl⟩
def pp{os:List Nk}:eb os y=0↔y∉os:=by
 unfold eb;rw[Int.natCast_eq_zero,List.count_eq_zero]
def Mx(J:O.Nodup)(m:Nk):(Ma O m).Nodup:=by
 refine Be.mpr (Hn (λ{a b}U Y n e=>n ?_) (J.filter _))
 grind
def Nx{L:List Nk}(O:J.Nodup)(U:x∈L)(y:Nk):eb (L.flatMap (Ma J)) y=(if y∈Ma J x then 1 else 0)+eb ((L.erase x).flatMap (Ma J)) y:=by
 have p:(L.flatMap (Ma J)).Perm (Ma J x++(L.erase x).flatMap (Ma J)):=by
  have:=(List.perm_cons_erase U).flatMap_right (Ma J);exact this
 unfold eb;rw[p.count_eq,List.count_append];by_cases h:y∈Ma J x
 ·rw[wa h,(Mx O x).count,wa h];simp_all
 grind
def gM{os:List Nk}:0<eb os y↔y∈os:=by
 have:=pp (os:=os) (y:=y);have J:0<=eb os y:=Int.natCast_nonneg _
 lia
def Ord.step{O:List (Nk×Nk)}{ns L fs:List Nk}{n:Nat}(o:Ord O ns L fs n)(Y:O.Nodup)(a0:∀k∈O,k.1∈ns/\k.2∈ns)(b0:x∈fs):
  Ord O ns (L.erase x) (fs.erase x++(Ma O x).filter λy=>decide (eb (L.flatMap (Ma O)) y=1)) (n+1):=by
 obtain⟨U,c0⟩:=(o.fm x).mp b0;have f0:=λz=>c0 (si.mpr ⟨x,U,z⟩)
 have g0:∀os y,0<=eb os y:=λos y=>Int.natCast_nonneg _
 have h0:=λy J=>Oh λz=>o.past y (a0 _ (np.mp J)).2 z (si.mpr ⟨x,U,J⟩)
 refine⟨o.nd.erase x,λy J=>o.sub y (List.mem_of_mem_erase J),?_,?_,λy=>?_,λy J i0 z=>?_⟩
 ·have:=o.len
  grind
 ·refine Ai.mpr ⟨o.bn.erase x,(Mx Y x).filter _,λy J z hz e=>?_⟩;subst e;have d0:=((o.fm y).mp (List.mem_of_mem_erase J)).2
  simp_all
 ·have ct:=Nx Y U y;rw[Xb,im,Jp,List.Nodup.mem_erase_iff o.bn,o.fm,List.Nodup.mem_erase_iff o.nd,<-pp,<-pp]
  grind
 ·have ct:=Nx Y U y;have j0:=gM.mpr z;by_cases e0:y∈L
  ·grind
  ·have d0:=pp.mpr (o.past y J e0);grind
def EC:∀{fs:List Nk},k∈fs->∃j,fs[j]?=wP k/\(∀i,i<j->fs[i]?≠wP k)/\fs.eraseIdx j=fs.erase k
 |[],h=>by cases h
 |x::r,h=>by
  by_cases e:x=k
  ·exact⟨0,by rw[e];rfl,λi hi=>absurd hi (Vp _),by rw[e];simp⟩
  ·refine ea7 ?_ (EC (by rcases jb.mp h with z|z;exact absurd z.symm e;exact z));rintro j a b c;refine⟨j+1,by simpa using a,λi hi=>?_,?_⟩
   ·cases i with
    |zero=>simpa using e
    |succ i=>simpa using b i (by lia)
   simp_all
def FC:∀{xs:List α}{bs:List β},Paired F xs bs->∀j,Paired F (xs.eraseIdx j) (bs.eraseIdx j)
 |_,_,.nil,_=>.nil
 |_,_,.cons _ t,0=>t
 |_,_,.cons r t,j+1=>.cons r (FC t j)
inductive Wk(E:List (Nk×Nk)):Nat->Nk->Nk->Prop
 |nil(n:Nk):Wk E 0 n n
 |snoc{k:Nat}{n m y:Nk}:Wk E k n m->(m,y)∈E->Wk E (k+1) n y
def Wk.cons{E:List (Nk×Nk)}{k:Nat}{a n y:Nk}(h:(a,n)∈E)(w:Wk E k n y):Wk E (k+1) a y:=by
 induction w with
 |nil=>exact .snoc (.nil _) h
 |snoc _ e J=>exact .snoc (J h) e
inductive hM(K:W.Frag)(vs:List V)(H:Hp)(Q:VK)(_:XK):Prop|mk(a b:BP)(nv pv:List V)(ns:List Nk)(E:List (Nk×Nk))(_:vs=[.ref a,.ref b])(_:ia K H a nv)(_:Oc H nv ns)(_:ns.Nodup)(_:ns.length<=40)(_:ia K H b pv)(_:Paired (Uc H) pv E)(_:E.length<=1200)(_:(∀k∈E,k.1∈ns/\k.2∈ns))(_:(∀n∈ns,∀k,Wk E (k+1) n n->∀H',aa H H'->Q .Pa H'))(_:∀o ov H',H o=yP->aa H H'->H' o=wP (.lst ov)->Q (.ref o) H')
def ce(J:List Int)(k:Int):Int:=(J[k.toNat]?).getD 0
inductive iM(K:W.Frag)(vs:List V)(H:Hp)(Q:VK)(E:XK):Prop|mk(a:BP)(cs:List Int)(k:Int)(_:vs=[.ref a,.int k])(_:ia K H a (cs.map V.int))(_:0<=k)(_:Q (.int (ce cs k)) H)
def jM:Sp:=λvs H Q _=>∃n:Int,vs=[.int n]/\Q (.bl CP) H
def qa(c:Int):Nat->Int
 |0=>c%2147483647
 |k+1=>(qa c k*48271+11+(k:Int))%2147483647
def Jh(c:Int)(m:Nat):List Int:=(List.range m).map λk=>qa c (k+1)
def GC(c:Int)(k:Nat):0<=qa c k/\qa c k<2147483647:=by
 cases k with
 |zero=>exact⟨Qh _ (by decide),Ph _ (by decide)⟩
 |succ k=>exact⟨Qh _ (by decide),Ph _ (by decide)⟩
def kM(c:Int)(m:Nat):(Jh c m).length=m:=by unfold Jh;rw[pa,gf]
def lM(h:i<m):(Jh c m)[i]?=wP (qa c (i+1)):=by
 unfold Jh;rw[fb,List.getElem?_range h];rfl
def mM(h:i<m):Bd ((Jh c m).map V.int) (i:Int)=wP (.int (qa c (i+1))):=Pf (by rw[fb,lM h];rfl)
def nM(c:Int)(m:Nat):(Jh c (m+1)).map V.int=(Jh c m).map V.int++[.int (qa c (m+1))]:=by
 unfold Jh;rw[Ei,Le,Le];rfl
def oM:Sp:=λvs H Q _=>∃(c:Int)(m:Nat),vs=[.int c,.int m]/\m<=10/\∀p H',H p=yP->aa H H'->H' p=wP (.lst ((Jh c m).map V.int))->Q (.ref p) H'
def rr(x:Int):Int:=if x%3=0 then x^3*1009%(2*10^30-1)-(10^30-1)else x/3%7-3
def Ck(c:Int):List Int:=Yc (dd ((List.range (qa c 1%4).toNat).map λj=>rr (qa c (j+2))))
def pM(K:W.Frag):Sp:=λvs H Q _=>∃c:Int,vs=[.int c]/\∀p H',H p=yP->aa H H'->H' p=wP (.lst ((Ck c).map V.int))->Q (.ref p) H'
def we(c:Int)(m:Nat)(i:Nat)(h:i<m)(z:Int)(e:z=(i:Int)):Bd ((Jh c m).map V.int) z=wP (.int (qa c (i+1))):=by rw[e];exact mM h
def Dk(c e:Int):List Int:=
 if qa c 4%4=0 then List.replicate (qa c 3%4).toNat e
 else if qa c 4%4=1 then List.replicate (qa c 3%4).toNat (e-qa c 8%400)
 else if qa c 4%4=2 then(List.range (qa c 3%4).toNat).map λj:Nat=>e-(qa c 3%4-(j:Int))*(qa c 8%150)
 else(List.range (qa c 3%4).toNat).map λj:Nat=>qa c (j+5)/8%1300
def qM(c e:Int):(Dk c e).length=(qa c 3%4).toNat:=by
 unfold Dk
 grind
def Ox{α:Type}(x:α):∀n:Nat,(List.replicate n [x]).flatten=List.replicate n x
 |0=>rfl
 |n+1=>by rw[gs,List.flatten_cons,Ox x n];rfl
inductive rM(K:W.Frag)(vs:List V)(H:Hp)(Q:VK)(E:XK):Prop|mk(a:BP)(c e:Int)(_:vs=[.ref a,.int e])(_:ia K H a ((Jh c 10).map V.int))(_:∀p H',H p=yP->aa H H'->H' p=wP (.lst ((Dk c e).map V.int))->Q (.ref p) H')
def Ek{α β:Type}(f:α->β):∀l:List α,l.filterMap (λj=>wP (f j))=l.map f
 |[]=>rfl
 |x::r=>by
  rw[ri,Ek f r];rfl
structure Dw where
 num:Int
 ii:Str
 fin:Int
 eh:List Int
 fh:List Int
 mn:Int
def gc:List Str:=["loose","kept","make","watch","hold"]
def Ql(x:Int):Str:=gc.getD (x%5).toNat "loose"
def HC(c:Int)(n:Int):Dw:=⟨n,Ql (qa c 1),100*(qa c 2%12)+n,Dk c (100*(qa c 2%12)+n),[qa c 5,qa c 6,qa c 7],qa c 9⟩
def xf(x:Int)(k:Nat):Bool:=decide (Builtin.bitAnd (x/2^k) 1=1)
def IC(x:Int):Bd [V.str "loose",V.str "kept",V.str "make",V.str "watch",V.str "hold"] (x%5)=wP (.str (Ql x)):=by
 have U:=Qh x (show(5:Int)≠0 by decide);have J:=Ph x (show(0:Int)<5 by decide);unfold Ql;obtain⟨n,O⟩:∃n:Nat,x%5=(n:Int):=⟨(x%5).toNat,by lia⟩;rw[O]at J⊢;have:n=0\/n=1\/n=2\/n=3\/n=4:=by lia
 rcases this with rfl|rfl|rfl|rfl|rfl<;>exact Pf rfl
def Ig(J:List Int)(j:Nat):Option Dw:=if xf (ce J 0%256) j=CP then wP (HC (ce J (1+(1+(j:Int)))+7919*(1+(j:Int))) (1+(j:Int)))else yP
def Lb(J:List Int):List Dw:=(List.range 8).filterMap (Ig J)
inductive Fu(p0:BP)(H:Hp)(v:V)(d:Dw):Prop|mk(p t b)(_:v=.ref p)(_:t≠p0)(_:b≠p0)(_:H p=wP (.tup [.int d.num,.str d.ii,.int d.fin,.ref t,.ref b,.int d.mn]))(_:H t=wP (.lst (d.eh.map V.int)))(_:H b=wP (.lst (d.fh.map V.int)))
def sM(K:W.Frag):Sp:=λvs H Q _=>∃(a:BP)(J:List Int),vs=[.ref a]/\ia K H a (J.map V.int)/\∀p O H',H p=yP->aa H H'->H' p=wP (.lst O)->Paired (Fu p H') O (Lb J)->Q (.ref p) H'
abbrev Pr:=Int×Int
abbrev Lk:=List Pr
abbrev Dl:=Int×Str×List Lk
abbrev kb:=Int×List Int
abbrev Ps:=List Dl×List kb
def Jg(p:Pr):QP:=.tuple [.int p.1,.int p.2]
def yf(l:Lk):QP:=.list (l.map Jg)
def Md(d:Dl):QP:=.tuple [.int d.1,.str d.2.1,.list (d.2.2.map yf)]
def ji(m:kb):QP:=.tuple [.int m.1,.list (m.2.map PyData.int)]
def vd(p:Ps):QP:=.tuple [.list (p.1.map Md),.list (p.2.map ji)]
def Lj(J:Int->Int)(n t:Int)(ms:List Int):Int:=ms.foldl (λa m=>if m≠n/\J m<t then m else a) 0
inductive tM(vs:List V)(H:Hp)(Q:VK)(E:XK):Prop|mk(a e:BP)(Ra:List (Key×V))(ms:List Int)(en:Int->Int)(n t:Int)(_:vs=[.ref a,.ref e,.int n,.int t])(_:H a=wP (.lst (ms.map V.int)))(_:H e=wP (.dK Ra))(_:(∀m∈ms,Oa Ra (Sum.inl m)=wP (.int (en m))))(_:Q (.int (Lj en n t ms)) H)
def ff(ms:List kb)(k:Int):Nat:=(ms.map (·.1)).idxOf k
def Ia(ms:List kb)(k:Int):List Int:=((ms[ff ms k]?).map (·.2)).getD []
def kg(ms:List kb)(k:Int)(ch:List Int):List kb:=ms.set (ff ms k) (k,ch)
def Kg(ms:List kb)(k n:Int):List kb:=if k∈ms.map (·.1)then kg ms k (Ia ms k++[n])else ms++[(k,[n])]
def Px{ms:List kb}{k:Int}(h:k∈ms.map (·.1)):ff ms k<ms.length:=by
 have:=lv.mpr h;rwa[pa]at this
def lg{ms:List kb}{k:Int}(h:k∈ms.map (·.1)):ms[ff ms k]?=wP (k,Ia ms k):=by
 have J:=Px h;unfold Ia;rw[Pd J];have O:(ms.map (·.1))[ff ms k]'(by rw[pa];exact J)=k:=List.getElem_idxOf _
 grind
def ij{ms:List kb}{k:Int}(h:k∉ms.map (·.1)):Ia ms k=[]:=by
 unfold Ia;rw[vj (by have:=Wn h;unfold ff;simp[*])];rfl
def qp(ms:List kb)(k:Int)(ch:List Int):(kg ms k ch).map (·.1)=ms.map (·.1):=by
 unfold kg;rw[Fi];by_cases h:k∈ms.map (·.1)
 ·refine Ha.bb ?_;rw[fb,lg h];rfl
 ·rw[mv];have:=Wn h;unfold ff
  simp[*]
def JC(ms:List kb)(k n:Int):(Kg ms k n).map (·.1)=if k∈ms.map (·.1)then ms.map (·.1)else ms.map (·.1)++[k]:=by
 unfold Kg;split
 ·exact qp _ _ _
 simp_all
def Qx{ms:List kb}(k n:Int)(h:(ms.map (·.1)).Nodup):((Kg ms k n).map (·.1)).Nodup:=by
 rw[JC]
 grind
def Rx(h:m∈kg ms k ch):m∈ms\/m=(k,ch):=by
 exact(Sj h)
def KC(h:x∈Ia ms k):∃m∈ms,x∈m.2:=by
 by_cases J:k∈ms.map (·.1)
 ·exact⟨_,yb (lg J),h⟩
 ·rw[ij J]at h;cases h
def uM(h:m∈Kg ms k n)(J:x∈m.2):x=n\/∃O∈ms,x∈O.2:=by
 unfold Kg at h;split at h
 ·rcases Rx h with q|q
  ·exact .inr ⟨m,q,J⟩
  ·rw[q]at J;rcases Xb.mp J with z|z
   ·exact .inr (KC z)
   simp_all
 grind
def sr(m:kb):QP:=.list (m.2.map PyData.int)
structure ki(H:Hp)(M:BP)(Ra:List (Key×V))(ms:List kb)(f:List BP):Prop where
 dict:H M=wP (.dK Ra)
 keys:Ra.map (·.1)=ms.map λm=>Sum.inl m.1
 vals:Ha H (Ra.map (·.2)) (ms.map sr) f
def Gu:∀{J:List (Key×V)}{ms:List kb},J.map (·.1)=ms.map (λm=>Sum.inl m.1)->∀k:Int,Oa J (Sum.inl k)=(J[ff ms k]?).map (·.2)
 |[],[],_,k=>rfl
 |[],_::_,h,_=>by cases h
 |_::_,[],h,_=>by cases h
 |q::r,m::s,h,k=>by
  have O:q.1=Sum.inl m.1:=(List.cons.inj h).1;have U:=(List.cons.inj h).2;unfold Oa ff;rw[sg,ed,List.idxOf_cons];by_cases e:m.1=k
  ·simp[*]
  ·rw[show decide (q.1=Sum.inl k)=GP from Wd λz=>e (Sum.inl.inj (O.symm.trans z)),show(m.1==k)=GP from rm.mpr e];exact Gu U k
def ki.has{H:Hp}{M:BP}{J:List (Key×V)}{ms:List kb}{f:List BP}(h:ki H M J ms f){k:Int}(c0:k∈ms.map (·.1)):∃a O U,Oa J (Sum.inl k)=wP (.ref a)/\H a=wP (.lst ((Ia ms k).map V.int))/\f=O++([a]++U)/\
  ∀H' ch,H' M=wP (.dK J)->(∀b∈O++U,∀o,H b=wP o->H' b=wP o)->H' a=wP (.lst (ch.map V.int))->ki H' M J (kg ms k ch) f:=by
 have d0:(ms.map sr)[ff ms k]?=wP (sr (k,Ia ms k)):=by rw[fb,lg c0];rfl
 refine eaE ?_ (h.vals.focus d0);rintro x O i0 U Y a0 e0 f0;have b0:=Gu h.keys k;rw[fb]at Y;rw[Y]at b0;cases e0 with
 |lst g0 r=>
  obtain⟨rfl,rfl⟩:=Ha.ints_of r;refine nx1 _ O U b0 g0 a0 λH' ch h0 kp h'=>⟨h0,?_,?_⟩
  ·rw[h.keys];have:=Ub (List.map (Sum.inl (β:=Str))) (qp ms k ch);rw[Hc,Hc]at this;exact this.symm
  ·have:=f0 H' _ (sr (k,ch)) _ kp (TF.lst h' (Ha.ints ch));rw[Ha.bb (by simp[*])]at this;rw[a0];unfold kg;rw[Fi];exact this
def ki.not{H:Hp}{M:BP}{J:List (Key×V)}{ms:List kb}{f:List BP}(h:ki H M J ms f){k:Int}(O:k∉ms.map (·.1)):Oa J (Sum.inl k)=yP:=by
 rw[Gu h.keys k];have e:J.length=ms.length:=by have:=Ub List.length h.keys;simpa using this
 rw[vj (by have:=Wn O;unfold ff;simp[*])];rfl
def LC{k:Key}(h:Oa J k=yP):lc J k v=J++[(k,v)]:=by
 unfold lc;rw[ma];intro z;obtain⟨q,O,e⟩:=List.any_eq_true.mp z;unfold Oa at h;rw[Option.map_eq_none_iff,As]at h;exact h q O e
def ie(ks:List Int)(n made:Int)(ms:List kb):Nat->List kb
 |0=>ms
 |i+1=>if xf made i=CP then Kg (ie ks n made ms i) (ks.getD i 0) n else ie ks n made ms i
def de(ks:List Int)(J:List Tk):List kb:=J.foldl (λms t=>ie ks t.2.1 t.2.2 ms ks.length) []
def nn(J:List Tk)(m:Int):Int:=((J.find? λt=>t.2.1==m).map (·.1)).getD 0
def Xe(J:List Tk):List Tk:=J.mergeSort λa b=>decide (a.1<=b.1)
def vM(a0:(J.map (·.1)).Nodup)(p:O.Perm J)(h:O.Pairwise λa b=>a.1<=b.1):O=Xe J:=by
 have q:(Xe J).Perm J:=Nr J _;refine List.Perm.eq_of_pairwise (λa b b0 c0 U Y=>pC a0 (p.mem_iff.mp b0) (q.mem_iff.mp c0) (Int.le_antisymm U Y)) h ?_ (p.trans q.symm);exact rg (λh=>zc h) (List.pairwise_mergeSort (le:=λa b:Tk=>decide (a.1<=b.1)) (λa b c U Y=>by simp at*;lia) (λa b=>by simp;lia) J)
def ur(ks:List Int)(b:Int):List Int:=ks.filter λk=>xf b (ks.idxOf k)
def rn(ks:List Int)(ms:List kb)(J:Int->Int)(n t b:Int):Lk:=(ur ks b).map λk=>(k,Lj J n t (Ia ms k))
def vn(ks:List Int)(ms:List kb)(J:Int->Int)(d:Dw):Dl:=(d.num,d.ii,(List.range d.eh.length).map λj=>rn ks ms J d.num (d.eh.getD j 0) (d.fh.getD j 0))
def mi(ms:List kb)(c n key:Int):List Int:=if qa c 1/4%12=0 then[-1]else 0::(Ia ms key).filter λm=>decide (m≠n)
def jj(c:Int)(ch:List Int):List Int:=
 if 1<ch.length then
  let j:=(1+qa c 4%((ch.length:Int)-1)).toNat
  let p:=(qa c 5%(((ch.eraseIdx j).length:Int)+1)).toNat
  (ch.eraseIdx j).take p++ch.getD j 0::(ch.eraseIdx j).drop p
 else ch
def rp(ms:List kb)(c n:Int)(l:Lk):Lk:=
 let q:=(qa c 4%(l.length:Int)).toNat
 let o:=mi ms c n (l.getD q (0,0)).1
 l.set q ((l.getD q (0,0)).1,o.getD (qa c 5%(o.length:Int)).toNat 0)
def zD:Dl:=(0,"",[])
def hh(st:List Dl×List kb)(c:Int):List Dl×List kb:=
 let i:=(qa c 2%(st.1.length:Int)).toNat
 let d:=st.1.getD i zD
 if qa c 1%4=0/\st.2≠[]then
  let k:=(Yc (st.2.map (·.1))).getD (qa c 3%(st.2.length:Int)).toNat 0
  (st.1,kg st.2 k (jj c (Ia st.2 k)))
 else
  let j:=(qa c 3%(d.2.2.length:Int)).toNat
  if d.2.2≠[]/\d.2.2.getD j []≠[]then(st.1.set i (d.1,d.2.1,d.2.2.set j (rp st.2 c d.1 (d.2.2.getD j []))),st.2)else st
def yd(J:List Dw):List Tk:=J.map λd=>(d.fin,d.num,d.mn)
def Lg(J:List Int):List Dl×List kb:=
 let ks:=Ck (ce J 1)
 let O:=Xe (yd (Lb J))
 ((Lb J).map (vn ks (de ks O) (nn O)),de ks O)
def je(st:List Dl×List kb)(c:Int):List Dl×List kb:=if c%6=0/\st.1≠[]then hh st (c/6)else st
def zf(J:List Int):List Dl×List kb:=((J.drop 10).take 20).foldl je (Lg J)
def ye(J:List Int):Ps:=((zf J).1,(Yc ((zf J).2.map (·.1))).map λk=>(k,Ia (zf J).2 k))
structure Rl(H:Hp)(D M:BP)(st:List Dl×List kb)(fd fm:List BP):Prop where
 kj:TF H (.ref D) (.list (st.1.map Md)) fd
 makes:∃Ra,ki H M Ra st.2 fm
 nodup:(fd++fm).Nodup
 keys:(st.2.map (·.1)).Nodup
def ki.same(s:aa H H')(h:ki H M J ms f):ki H' M J ms f:=⟨s _ _ h.dict,h.keys,h.vals.same s⟩
def ki.len(h:ki H M J ms f):J.length=ms.length:=by have:=Ub List.length h.keys;simpa using this
def Rl.same(s:aa H H'){st:List Dl×List kb}(h:Rl H D M st fd J):Rl H' D M st fd J:=⟨h.kj.same s,by obtain⟨O,m⟩:=h.makes;exact⟨O,m.same s⟩,h.nodup,h.keys⟩
def MC(h:TF H v (Md d) f):∃p L J O,v=.ref p/\f=p::L::O/\H p=wP (.tup [.int d.1,.str d.2.1,.ref L])/\H L=wP (.lst J)/\Ha H J (d.2.2.map yf) O:=by
 cases h with
 |tup h r=>
  cases r with
  |cons U r=>
   cases U;cases r with
   |cons Y r=>
    cases Y;cases r with
    |cons a0 r=>
     cases r;cases a0 with
     |lst b0 c0=>exact nx17 _ _ _ _ rfl (by simp) h ⟨b0,c0⟩
def NC(J:H p=wP (.tup [.int d.1,.str d.2.1,.ref L]))(O:H L=wP (.lst U))(Y:Ha H U (d.2.2.map yf) a0):TF H (.ref p) (Md d) (p::L::a0):=by
 have:=TF.tup J (Ha.cons (.int d.1) (Ha.cons (.str d.2.1) (Ha.one (TF.lst O Y))));exact this
def wM(h:TF H v (yf l) f):∃a pv J,v=.ref a/\f=a::J/\H a=wP (.lst pv)/\Ha H pv (l.map Jg) J:=by
 cases h with
 |lst h r=>exact nx1 _ _ _ rfl rfl h r
def xM(h:TF H v (Jg p) f):∃a,v=.ref a/\f=[a]/\H a=wP (.tup [.int p.1,.int p.2]):=by
 cases h with
 |tup h r=>
  cases r with
  |cons J r=>
   cases J;cases r with
   |cons O r=>
    cases O;cases r;exact⟨_,rfl,rfl,h⟩
def OC(h:H a=wP (.tup [.int p.1,.int p.2])):TF H (.ref a) (Jg p) [a]:=TF.tup h (Ha.cons (f:=[]) (.int p.1) (Ha.cons (f:=[]) (.int p.2) .nil))
def Mj(st:List Dl×List kb):Prop:=st.1.length<=8/\st.2.length<=30/\(∀m∈st.2,m.2.length<=30)/\(∀d∈st.1,d.2.2.length<=3/\∀l∈d.2.2,l.length<=3)
inductive yM(vs:List V)(H:Hp)(Q:VK)(E:XK):Prop|mk(D M:BP)(c:Int)(st:List Dl×List kb)(fd fm:List BP)(_:vs=[.ref D,.ref M,.int c])(_:Rl H D M st fd fm)(_:st.1≠[])(_:Mj st)(_:∀H' QC RC,Rl H' D M (hh st c) QC RC->(∀b o,b∉fd++fm->H b=wP o->H' b=wP o)->(∀b∈QC++RC,b∈fd++fm\/H b=yP)->Q .Pa H')
inductive zM(K:W.Frag)(vs:List V)(H:Hp)(Q:VK)(E:XK):Prop|mk(a:BP)(cs:List Int)(_:vs=[.ref a])(_:ia K H a (cs.map V.int))(_:cs.length<=63)(_:∀v f H',aa H H'->TF H' v (vd (ye cs)) f->f.Nodup->(∀b∈f,H b=yP)->Q v H')
def AM(c:Int)(ch:List Int):(jj c ch).length=ch.length:=by
 unfold jj;split
 ·next h=>
  have J:=Ph (qa c 4) (show(0:Int)<(ch.length:Int)-1 by lia);have O:(ch.eraseIdx (1+qa c 4%((ch.length:Int)-1)).toNat).length=ch.length-1:=Zu (by omega);rw[Ac,Od,Ae,dg];omega
 ·rfl
def Sx(h:∀m∈ms,m.2.length<=n):(Ia ms k).length<=n:=by
 by_cases J:k∈ms.map (·.1)
 ·exact h _ (yb (lg J))
 ·rw[ij J];exact Tb _
def TC(ms:List kb)(k:Int)(ch:List Int):(kg ms k ch).length=ms.length:=by unfold kg;rw[il]
def UC{st:List Dl×List kb}(h:Mj st)(c:Int):Mj (hh st c):=by
 obtain⟨U,Y,J,O⟩:=h;unfold hh;dsimp only;split
 ·refine⟨U,by rw[TC];exact Y,λm a0=>?_,O⟩;rcases Rx a0 with z|z
  ·exact J m z
  ·rw[z];rw[AM];exact Sx J
 ·split
  ·next e=>
   refine⟨by rw[il];exact U,Y,J,λd c0=>?_⟩;rcases Sj c0 with z|z
   ·exact O d z
   ·rw[z];by_cases hi:(qa c 2%(st.1.length:Int)).toNat<st.1.length
    ·have a0:=yb (df (d:=zD) hi);obtain⟨d0,b0⟩:=O _ a0;refine⟨by rw[il];exact d0,λl e0=>?_⟩;rcases Sj e0 with w|w
     ·exact b0 l w
     ·rw[w];unfold rp;rw[il];by_cases f0:(qa c 3%((st.1.getD (qa c 2%(st.1.length:Int)).toNat zD).2.2.length:Int)).toNat<(st.1.getD (qa c 2%(st.1.length:Int)).toNat zD).2.2.length
      ·exact b0 _ (yb (df f0))
      ·rw[Qj,vj (by simp_all)];exact Tb _
    ·have:st.1.getD (qa c 2%(st.1.length:Int)).toNat zD=zD:=by rw[Qj,vj (by simp_all)];rfl
     rw[this]at e;exact absurd rfl e.1
  ·exact⟨U,Y,J,O⟩
def BM{st:List Dl×List kb}(h:Mj st)(c:Int):Mj (je st c):=by
 unfold je;split
 ·exact UC h _
 ·exact h
def CM(h:ms.length<=B/\∀m∈ms,m.2.length<=B):(Kg ms k n).length<=B+1/\∀m∈Kg ms k n,m.2.length<=B+1:=by
 unfold Kg;split
 ·refine⟨by rw[TC];lia,λm J=>?_⟩;rcases Rx J with z|z
  ·have:=h.2 m z;lia
  ·rw[z];have:=Sx (k:=k) h.2;rw[Ac];show _+1<=_;simp_all
 grind
def Ux(h:ms.length<=B/\∀m∈ms,m.2.length<=B):∀i,(ie ks n made ms i).length<=B+i/\∀m∈ie ks n made ms i,m.2.length<=B+i
 |0=>h
 |i+1=>by
  have J:=Ux (ks:=ks) (n:=n) (made:=made) h i;unfold ie;split
  ·exact CM J
  ·exact⟨by lia,λm O=>by have:=J.2 m O;lia⟩
def Vx(U:ks.length<=3)(J:List Tk):∀i,(de ks (J.take i)).length<=3*i/\∀m∈de ks (J.take i),m.2.length<=3*i
 |0=>⟨xa _,λm O=>by cases O⟩
 |i+1=>by
  have Y:=Vx U J i;cases e:J[i]? with
  |none=>
   rw[qc,e]
   grind
  |some t=>
   have:de ks (J.take (i+1))=ie ks t.2.1 t.2.2 (de ks (J.take i)) ks.length:=by
    unfold de;rw[qc,e,Ds];rfl
   rw[this];have h:=Ux (ks:=ks) (n:=t.2.1) (made:=t.2.2) Y ks.length;exact⟨by lia,λm O=>by have:=h.2 m O;lia⟩
def Wx{J:List Tk}(e:J[i]?=wP t):de ks (J.take (i+1))=ie ks t.2.1 t.2.2 (de ks (J.take i)) ks.length:=by
 unfold de;rw[qc,e,Ds];rfl
def Xx:∀{i:Nat}{m:kb},m∈ie ks n made ms i->x∈m.2->x=n\/∃O∈ms,x∈O.2
 |0,m,h,J=>.inr ⟨m,h,J⟩
 |i+1,m,h,J=>by
  unfold ie at h;split at h
  ·rcases uM h J with z|⟨O,z,w⟩
   ·exact .inl z
   ·exact Xx z w
  ·exact Xx h J
def Yx{J:List Tk}:∀(i:Nat){m:kb},m∈de ks (J.take i)->x∈m.2->∃t∈J.take i,t.2.1=x
 |0,m,h,O=>by cases h
 |i+1,m,h,O=>by
  cases e:J[i]? with
  |none=>
   rw[qc,e]at h⊢;simp only[Option.toList_none,z1m]at h⊢;exact Yx i h O
  |some t=>
   rw[Wx e]at h;have U:J.take (i+1)=J.take i++[t]:=by rw[qc,e];rfl
   rw[U];rcases Xx h O with z|⟨Y,z,w⟩
   ·simp_all
   ·refine ea1 ?_ (Yx i z w);rintro t' a b
    grind
def Zx(h:Ig J j=wP d):d.num=1+(j:Int)/\d.eh.length<=3/\d.fh.length=3/\d.ii∈gc:=by
 unfold Ig at h;split at h
 ·cases h;refine⟨rfl,?_,rfl,?_⟩
  ·show(Dk _ _).length<=3;rw[qM];lia
  ·show Ql _∈gc;generalize qa _ 1=x;exact yb (df (show(x%5).toNat<gc.length by show _<5;lia))
 ·cases h
def vr(J:List Int):((Lb J).map (·.num)).Pairwise (·<·):=by
 rw[Be];refine List.Pairwise.filterMap _ (λa b Y c O d U=>?_) Sn;rw[(Zx O).1,(Zx U).1];simp_all
def VC(J:List Int):((yd (Lb J)).map (·.1)).Nodup:=by
 have fin:∀d∈Lb J,d.fin%100=d.num:=λd O=>by
  obtain⟨j,U,e⟩:=Uk.mp O;have:=Af.mp U;unfold Ig at e;split at e
  ·cases e;show(100*_+(1+(j:Int)))%100=1+(j:Int);lia
  ·cases e
 unfold yd;rw[Hc];exact Be.mpr (Hn (λ{a b}Y a0 h e=>by
  have b0:=fin a Y;have c0:=fin b a0;have e:a.fin=b.fin:=e;rw[e]at b0;simp_all) (Be.mp (vr J)))
def Hu(h:d∈Lb O):(∃j:Nat,j<8/\d.num=1+(j:Int))/\d.eh.length<=3/\d.fh.length=3/\d.ii∈gc:=by
 refine ea1 ?_ (Uk.mp h);rintro j J e;refine ea6 ?_ (Zx e);rintro a b c f;exact⟨⟨j,Af.mp J,a⟩,b,c,f⟩
def Iu(J:List Int):(Lb J).length<=8:=by
 have:=qv (Ig J) (List.range 8);rwa[gf]at this
def ay(c:Int):(Ck c).length<=3:=by
 unfold Ck;rw[(Ff _).length_eq];refine Nb (uw _) ?_;rw[pa,gf];lia
def WC(J:List Int):Mj (Lg J):=by
 unfold Lg;dsimp only;have Y:=ay (ce J 1);have U:(Xe (yd (Lb J))).length<=8:=by
  unfold Xe yd;rw[List.length_mergeSort,pa];exact Iu J
 have O:=Vx Y (Xe (yd (Lb J))) (Xe (yd (Lb J))).length;rw[Ic]at O;refine⟨by rw[pa];exact Iu J,Nb O.1 (by lia),λm h=>by have:=O.2 m h;lia,λd a0=>?_⟩;obtain⟨c0,b0,rfl⟩:=Ya.mp a0;unfold vn;dsimp only;refine ea6 ?_ (Hu b0);rintro _ t3 _ _;refine⟨by simp_all,λl U=>?_⟩;obtain⟨j,_,rfl⟩:=Ya.mp U;unfold rn ur
 grind
def Ju(d:Dw):QP:=.tuple [.int d.num,.str d.ii,.int d.fin,.list (d.eh.map PyData.int),.list (d.fh.map PyData.int),.int d.mn]
def DM(h:Fu Y H v d):Tr H v (Ju d):=by
 obtain⟨p,t,b,rfl,_,_,J,O,U⟩:=h;exact .tup J (.cons (.int _) (.cons (.str _) (.cons (.int _) (.cons (.lst O (ib.ofInts _)) (.cons (.lst U (ib.ofInts _)) (.cons (.int _) .nil))))))
def cy:∀{vs:List V}{J:List Dw},Paired (Fu O H) vs J->ib H vs (J.map Ju)
 |_,_,.nil=>.nil
 |_,_,.cons h r=>.cons (DM h) (cy r)
def XC(h:Tr H v (Ju d)):∃p t b,v=.ref p/\H p=wP (.tup [.int d.num,.str d.ii,.int d.fin,.ref t,.ref b,.int d.mn])/\H t=wP (.lst (d.eh.map V.int))/\H b=wP (.lst (d.fh.map V.int)):=by
 cases h with
 |tup h r=>
  cases r with
  |cons U r=>
   cases U;cases r with
   |cons Y r=>
    cases Y;cases r with
    |cons a0 r=>
     cases a0;cases r with
     |cons b0 r=>
      cases b0 with
      |lst J c0=>
       cases r with
       |cons d0 r=>
        cases d0 with
        |lst O e0=>
         cases r with
         |cons f0 r=>
          cases f0;cases r;rw[ib.ints c0]at J;rw[ib.ints e0]at O;exact nx1 _ _ _ rfl h J O
def wr(t:Tk):QP:=.tuple [.int t.1,.int t.2.1,.int t.2.2]
def EM(h:Tr H v (wr t)):Jl H v t:=by
 cases h with
 |tup h r=>
  cases r with
  |cons J r=>
   cases J;cases r with
   |cons O r=>
    cases O;cases r with
    |cons U r=>
     cases U;cases r;exact⟨_,rfl,h⟩
def YC:∀{vs:List V}{J:List Tk},ib H vs (J.map wr)->Paired (Jl H) vs J
 |_,[],.nil=>.nil
 |_,_::_,.cons h r=>.cons (EM h) (YC r)
def ZC:∀{vs:List V}{ms:List kb}{f:List BP},Ha H vs (ms.map sr) f->vs=f.map V.ref
 |_,[],_,.nil=>rfl
 |_,m::r,_,.cons h t=>by
  cases h with
  |lst a b=>
   obtain⟨_,rfl⟩:=Ha.ints_of b;rw[ZC t];rfl
section
variable{P:HP}{w:KP}{K:W.Frag}{mg:Str->Option xP}{base:NP}
def vp(T:Tx K mg):T.Ol.Ok P w base 1 (iM K):=by
 refine sb T.Ol.F λ_ _ _ _ _ h=>?_
 ·obtain⟨a,J,k,rfl,U,Y,q⟩:=h;refine⟨_,(va (rc (wb Kv (pv 1) (vc Xd (by rfl) T.Kd Cd (La 0)) (rb _))
   (ra (Sa (Ea Ob (pv 0) (pv 1))))
   yc)
   (ra (Sa ka))),?_⟩
  show let a0:TS:=_;ya (Ec _ _ _) a0 _ _ _
  intros;refine⟨_,rfl,_,rfl,_,_,rfl,.inl ⟨_,U,rfl⟩,_,_,rfl,rfl,_,rfl,nc (λe=>?_) (λe=>?_)⟩
  ·have O:=zc e;rw[pa]at O;have b0:(J.map V.int)[k.toNat]?=wP (.int (ce J k)):=by
    unfold ce;rw[fb,Pd (by simp_all)];rfl
   have:=Pf b0;rw[Int.toNat_of_nonneg Y]at this;exact⟨_,rfl,_,rfl,a,_,_,_,rfl,rfl,U,this,q⟩
  ·have O:¬k<((J.map V.int).length:Int):=λz=>e (zb z)
   rw[pa]at O;have:ce J k=0:=by
    unfold ce;rw[vj (by simp_all)];rfl
   rw[this]at q;exact q
def dy(T:Tx K mg):T.jr.Ok P w base 1 jM:=by
 refine sb T.jr.F λ_ _ _ _ _ h=>?_
 ·revert h;refine ea1 ?_;rintro z rfl q;refine⟨_,(ra (Sa (vo (vc Ho (by rfl) T.ip Qn (na (pv 0) (Fa (so (v:=V.ty "int") rfl T.RL boot_int rfl)))) (Vs (SE (vc Ho (by rfl) T.ip Qn (na (pv 0) (Fa (so (v:=V.ty "bool") rfl T.QL boot_bool rfl))))))))),?_⟩;refine⟨_,rfl,_,_,_,_,rfl,Se.int _,NG,_,rfl,cf ?_⟩;exact⟨_,rfl,_,_,_,_,rfl,Se.int _,OG,_,rfl,q⟩
def ey(T:Tx K mg):T.kr.Ok P w base 1 oM:=by
 refine sb T.kr.F λH _ _ _ _ h=>?_
 ·revert h;refine ea0 ?_;rintro c m rfl j0 q;refine⟨_,(va (Ua 2 (kc Ad))
   (va (Ua 3 (Ca ec (pv 0) ka))
   (va (kd Qc rfl (yl rfl T.Bk (La 1)) (Db 4)
   (va (Ua 3 (Ca ec (Ca fg (Ca fg (Ca xo (pv 3) ka) ka) (pv 4)) ka))
   (ra (Qe (Ee Oe tj Aj Fj (pv 2) (La 3))))))
   (ra (Sa (pv 2)))))),?_⟩
  show let c0:TS:=_;let d0:TS:=_;let e0:TS:=ya _ d0;let f0:TS:=ya (qe _ _ e0) c0;let g0:TS:=ya _ f0;ya _ g0 _ _ _
  intros;refine⟨(by decide),λp U=>?_⟩;have h0:=aa.upd (o:=HO.lst []) U;refine⟨_,rfl,_,_,rfl,rfl,(by decide),?_⟩;refine⟨_,rfl,_,rfl,by simp_all,by lia,?_⟩;rw[Kf];refine wo (λi Y J=>∃a0:Option V,Y=[wP (.int c),wP (.int m),wP (.ref p),wP (.int (qa c i)),a0]/\aa H J/\J p=wP (.lst ((Jh c i).map V.int))) ⟨yP,rfl,h0,la⟩ ?_ ?_
  ·rintro i Y J hi;refine ea7 ?_;rintro a0 rfl b0 O;refine⟨_,rfl,_,_,rfl,rfl,.inr ⟨by decide,by decide⟩,_,_,rfl,rfl,_,rfl,_,_,rfl,rfl,_,_,rfl,rfl,(by simp_all),?_⟩;rw[am];refine⟨_,rfl,Or.inl ⟨rfl,_,ia.of O⟩,_,rfl,p,_,_,rfl,rfl,O,(by rw[pa,kM];have:DP=2^24:=rfl;lia),λl0 i0 k5=>?_⟩;refine⟨_,rfl,λb o e=>k5 b o (lb e U) (b0 _ _ e),?_⟩;rw[nM];exact i0
  ·rintro Y J;refine ea7 ?_;rintro a0 rfl b0 O;exact⟨_,rfl,q p J U b0 O⟩
def FM(T:Tx K mg):T.vx.Ok P w base 2 (pM K):=by
 refine sb T.vx.F λH _ _ _ l0 h=>?_
 ·revert h;refine ea1 ?_;rintro c rfl q;refine⟨_,(va (Ua 1 (xb T.kr (ey T) l0 (na (pv 0) (Fa ka))))
   (va (Ua 2 (kc Ad))
   (va (kd Qc rfl (yl rfl T.Bk (Fa (Ca ec (Ea Ob (pv 1) ka) ka))) (Db 3)
   (va (Ua 4 (Ca fk (Ca ec (Ca Sh (Ea Ob (pv 1) (Ca fg ka (pv 3))) ka) ka) ka))
   (Ot (rc (wb re (Ca ec (Ea Ob (pv 1) (Ca fg ka (pv 3))) ka) ka (rb _))
   (ra (Ua 4 (Ca fk (Ca ec (Ca xo (Ca Gv (Ea Ob (pv 1) (Ca fg ka (pv 3))) ka) ka) (Ca fk (Ca xo ka (Ca Gv ka ka)) ka)) (Ca fk (Ca Gv ka ka) ka))))
   yc)
   (ra (Qe (Ee Oe tj Aj Fj (pv 2) (La 4)))))))
   (ra (Sa (HI (K:=K) rfl rfl rfl T.ln rfl T.wC (La 2))))))),?_⟩
  show let m0:TS:=_;let n0:TS:=_;let o0:TS:=Rq (Ec _ _ _) n0;let p0:TS:=ya _ o0;let q0:TS:=ya (qe _ _ p0) m0;let r0:TS:=ya _ q0;ya _ r0 _ _ _
  intros;refine⟨_,rfl,c,4,rfl,by decide,λxs v0 w0 s1 c0=>?_⟩;refine⟨(by decide),λp Y=>?_⟩;have d0:=aa.upd (o:=HO.lst []) Y;refine⟨_,rfl,xs,_,_,_,rfl,rfl,ia.of (d0 _ _ c0),we c 4 0 (by decide) 0 rfl,_,_,rfl,rfl,(by decide),_,rfl,by lia,by lia,?_⟩;have s0:xs≠p:=λz=>by rw[<-z,c0]at Y;cases Y
  refine wo (λi J O=>∃e0 f0:Option V,J=[wP (.int c),wP (.ref xs),wP (.ref p),e0,f0]/\aa H O/\O xs=wP (.lst ((Jh c 4).map V.int))/\O p=wP (.lst (((List.range i).map λj=>rr (qa c (j+2))).map V.int))) (nx3 yP yP rfl (s1.trans d0) (d0 _ _ c0) la) ?_ ?_
  ·rintro i J O hi;refine eaA ?_;rintro e0 f0 rfl a0 U b0;have g0:=we c 4 (i+1) (by lia) (1+(0+(i:Int))) (by lia);have x0:=GC c (i+2);refine⟨_,rfl,_,rfl,_,_,rfl,rfl,xs,_,_,_,rfl,rfl,ia.of U,g0,_,_,rfl,rfl,⟨by decide,by decide⟩,_,_,rfl,rfl,(by decide),_,_,rfl,rfl,?_⟩;refine⟨λJ i0=>J=[wP (.int c),wP (.ref xs),wP (.ref p),wP (.int (0+(i:Int))),wP (.int (rr (qa c (i+2))))]/\i0=O,?_,?_⟩
   ·refine⟨_,rfl,_,rfl,_,_,rfl,rfl,xs,_,_,_,rfl,rfl,ia.of U,g0,_,_,rfl,rfl,(by decide),rfl,_,rfl,nc (λe=>?_) (λe=>?_)⟩
    ·have h0:qa c (i+2)%3=0:=by
      have:=zc e;injection this
     refine⟨_,rfl,_,rfl,_,_,rfl,rfl,xs,_,_,_,rfl,rfl,ia.of U,g0,_,_,rfl,rfl,⟨by decide,by decide,?_⟩,_,_,rfl,rfl,.inr ⟨by decide,by decide⟩,_,_,rfl,rfl,⟨by decide,by decide,by decide⟩,_,_,rfl,rfl,.inl ⟨by decide,by decide⟩,_,_,rfl,rfl,_,_,rfl,rfl,(by show(0:Int)<_;decide),_,_,rfl,rfl,⟨by decide,by decide,by decide⟩,_,_,rfl,rfl,_,_,rfl,rfl,?_,rfl⟩
     ·show(qa c (i+2)).natAbs<2^64;grind
     ·unfold rr;rw[wa h0];rfl
    ·have h0:¬qa c (i+2)%3=0:=λz=>e (zb (by rw[z]))
     refine⟨?_,rfl⟩;unfold rr;rw[ma h0];rfl
   ·rintro J i0⟨rfl,rfl⟩;refine⟨_,rfl,Or.inl ⟨rfl,_,ia.of b0⟩,_,rfl,p,_,_,rfl,rfl,b0,(by rw[pa,pa,gf];have:DP=2^24:=rfl;lia),λy0 t0 k5=>?_⟩;refine nx3 _ _ rfl (λb o e=>k5 b o (lb e (s1.free Y)) (a0 _ _ e)) (k5 _ _ s0 U) ?_;rw[Ei,Le,Le];exact t0
  ·rintro J O;refine eaA ?_;rintro e0 f0 rfl a0 U b0;refine⟨_,rfl,p,_,rfl,ia.of b0,(by rw[pa,gf];lia),?_,λu0 j0=>?_⟩
   ·refine Xn (uw _) ?_;rw[pa,gf];lia
   ·exact q u0 _ (a0.free j0) (a0.trans (aa.upd j0)) la
def HM(T:Tx K mg):T.wx.Ok P w base 1 (rM K):=by
 refine sb T.wx.F λ_ _ _ _ p0 h=>?_
 ·obtain⟨a,c,e,rfl,J,q⟩:=h;have A0:=Ue p0;refine⟨_,(va (Ua 2 (Ca ec (Ea Ob (pv 0) ka) ka))
   (va (rc (wb re (Ca ec (Ea Ob (pv 0) ka) ka) ka (rb _))
   (ra (Sa (Ca vz (kc (La 1)) (pv 2))))
   yc)
   (va (rc (wb re (Ca ec (Ea Ob (pv 0) ka) ka) ka (rb _))
   (ra (Sa (Ca vz (kc (Fa (Ca fk (pv 1) (Ca ec (Ea Ob (pv 0) ka) ka)))) (pv 2))))
   yc)
   (va (rc (wb re (Ca ec (Ea Ob (pv 0) ka) ka) ka (rb _))
   (ra (Sa (vf ["_law_j"] ["_law_xs","_law_end","_law_many"] [0,1,2] (yl rfl T.Bk (La 2)) (Jd 0) Df (Ca fk (pv 2) (Ca xo (Ca fk (pv 3) (pv 0)) (Ca ec (Ea (Lq (K:=K) rfl) (pv 1) ka) ka))))))
   yc)
   (ra (Sa (vf ["_law_j"] ["_law_xs"] [0] (yl rfl T.Bk (La 2)) (Jd 0) Df (Ca ec (Ca Sh (Ea (Lq (K:=K) rfl) (pv 1) (Ca fg ka (pv 0))) ka) ka)))))))),?_⟩
  show let q0:TS:=_;let r0:TS:=ya (Ec _ _ _) q0;let s0:TS:=ya (Ec _ _ _) r0;let t0:TS:=ya (Ec _ _ _) s0;ya _ t0 _ _ _
  intros;have B0:=GC c 3;have u0:=we c 10 2 (by decide) 2 rfl;have b0:=we c 10 3 (by decide) 3 rfl;have n0:=we c 10 7 (by decide) 7 rfl;refine⟨_,rfl,a,_,_,_,rfl,rfl,J,u0,_,_,rfl,rfl,(by show(0:Int)<_;decide),?_⟩;refine⟨_,rfl,a,_,_,_,rfl,rfl,J,b0,_,_,rfl,rfl,(by show(0:Int)<_;decide),rfl,_,rfl,nc (λc0=>?_) (λc0=>?_)⟩
  ·have O:qa c 4%4=0:=by
    have:=zc c0;injection this
   refine⟨_,rfl,Qd,λl d0=>⟨_,rfl,l,_,_,rfl,rfl,la,by grind,by grind,?_,λp U=>?_⟩⟩
   ·show 1*(qa c 3%4).toNat<=DP;have:DP=2^24:=rfl;grind
   ·have s1:=aa.upd (o:=HO.lst [V.int e]) d0;refine q p _ (s1.free U) (s1.trans (aa.upd U)) ?_;rw[la,Ox];unfold Dk;rw[wa O,List.map_replicate]
  have e0:¬qa c 4%4=0:=λz=>c0 (zb (by rw[z]))
  refine⟨_,rfl,a,_,_,_,rfl,rfl,J,b0,_,_,rfl,rfl,(by show(0:Int)<_;decide),rfl,_,rfl,nc (λO=>?_) (λO=>?_)⟩
  ·have Y:qa c 4%4=1:=by
    have:=zc O;injection this
   refine⟨_,rfl,_,rfl,a,_,_,_,rfl,rfl,J,n0,_,_,rfl,rfl,(by show(0:Int)<_;decide),_,_,rfl,rfl,Qd,λl d0=>⟨_,rfl,l,_,_,rfl,rfl,la,by lia,by lia,?_,λp U=>?_⟩⟩
   ·show 1*(qa c 3%4).toNat<=DP;have:DP=2^24:=rfl;lia
   ·have s1:=aa.upd (o:=HO.lst [V.int (e-qa c (7+1)%400)]) d0;refine q p _ (s1.free U) (s1.trans (aa.upd U)) ?_;rw[la,Ox];unfold Dk;rw[ma e0,wa Y,List.map_replicate]
  have o0:¬qa c 4%4=1:=λz=>O (zb (by rw[z]))
  refine⟨_,rfl,a,_,_,_,rfl,rfl,J,b0,_,_,rfl,rfl,(by show(0:Int)<_;decide),rfl,_,rfl,nc (λY=>?_) (λY=>?_)⟩
  ·have v0:qa c 4%4=2:=by
    have:=zc Y;injection this
   refine⟨_,rfl,_,rfl,by grind,by grind,kw (k:=1) (fs:=[wP (.ref a),wP (.int e),wP (.int (qa c 3%4))]) (qa c 3%4).toNat (λj=>wP (.int (e-(qa c 3%4-(0+(j:Int)))*(qa c 8%150)))) rfl (by have:DP=2^24:=rfl;grind) (λj f0 _ a0=>a0) (λf0 _=>xa _) ?_ ?_⟩
   ·rintro j w0 x0 v y0 R g0 a0 h0⟨rfl,rfl⟩cb;obtain⟨t,rfl⟩:=Ke.mp h0;exact⟨_,rfl,_,rfl,_,rfl,_,_,rfl,rfl,_,rfl,a,_,_,_,rfl,rfl,g0.seq J,n0,_,_,rfl,rfl,(by show(0:Int)<_;decide),_,_,rfl,rfl,.inl ⟨by grind,by lia⟩,_,_,rfl,rfl,cb [_] _ rfl (aa.refl _)⟩
   ·intro D i0 j0 l0 m0;refine q D i0 j0 l0 ?_;rw[m0,Ek];unfold Dk;rw[ma e0,ma o0,wa v0,Hc];refine Ub (λx=>wP (HO.lst x)) (Rr λj _=>?_);show V.int _=V.int _;rw[am]
  have z0:¬qa c 4%4=2:=λz=>Y (zb (by rw[z]))
  refine⟨_,rfl,_,rfl,by lia,by lia,kw (k:=1) (fs:=[wP (.ref a)]) (qa c 3%4).toNat (λj=>wP (.int (qa c (4+j+1)/8%1300))) rfl (by have:DP=2^24:=rfl;lia) (λj f0 _ a0=>a0) (λf0 _=>xa _) ?_ ?_⟩
  ·rintro j w0 x0 v y0 R g0 a0 h0⟨rfl,rfl⟩cb;obtain⟨t,rfl⟩:=Ke.mp h0;exact⟨_,rfl,_,rfl,_,_,rfl,rfl,a,_,_,_,rfl,rfl,g0.seq J,we c 10 (4+j) (by grind) _ (by simp_all),_,_,rfl,rfl,⟨by decide,by decide⟩,_,_,rfl,rfl,(by show(0:Int)<_;decide),cb [_] _ rfl (aa.refl _)⟩
  ·intro D i0 j0 l0 m0;refine q D i0 j0 l0 ?_;rw[m0,Ek];unfold Dk;rw[ma e0,ma o0,ma z0,Hc];refine Ub (λx=>wP (HO.lst x)) (Rr λj _=>?_);show V.int _=V.int _;rw[show 4+j+1=j+5 by lia]
def IM(T:Tx K mg):T.xx.Ok P w base 2 (sM K):=by
 refine sb T.xx.F λH _ _ _ d0 h=>?_
 ·revert h;refine ea0 ?_;rintro a J rfl J0 q;refine⟨_,(va (Ua 1 (kc Ad))
   (va (kd Qc rfl (jF rfl T.Bk (na ka (Fa ka))) (Db 2)
   (ra (rc (wb re (Ca Jv (Ca Iv (Ca ec (xb T.Ol (vp T) d0 (na (pv 0) (Fa ka))) ka) (Ca fk (pv 2) ka)) ka) ka (rb _))
   (va (Ua 3 (xb T.kr (ey T) d0 (na (Ca fg (xb T.Ol (vp T) d0 (na (pv 0) (Fa (Ca fg ka (pv 2))))) (Ca xo ka (pv 2))) (Fa ka))))
   (va (Ua 4 (Ca fg (Ca xo ka (Ca ec (Ea Ob (pv 3) ka) ka)) (pv 2)))
   (va (Ua 5 (Ea Ob (kc (na jc (na jc (na jc (na jc (Fa jc)))))) (Ca ec (Ea Ob (pv 3) ka) ka)))
   (ra (Qe (Ee Oe tj Aj Fj (pv 1) (Fa (Tc (na (pv 2) (na (pv 5) (na (pv 4) (na (xb T.wx (HM T) d0 (na (pv 3) (La 4))) (na (kc (na (Ea Ob (pv 3) ka) (na (Ea Ob (pv 3) ka) (Fa (Ea Ob (pv 3) ka))))) (Fa (Ea Ob (pv 3) ka)))))))))))))))
   yc)))
   (ra (Sa (pv 1))))),?_⟩
  show let K0:TS:=_;let L0:TS:=_;let M0:TS:=ya _ L0;let N0:TS:=ya _ M0;let O0:TS:=ya _ N0;let P0:TS:=ya (qe _ _ (Ec _ O0 _)) K0;ya _ P0 _ _ _
  intros;refine⟨nb,λp l0=>?_⟩;have Q0:=aa.upd (o:=HO.lst []) l0;refine nx5 1 9 rfl ⟨by decide,by decide,by decide,by decide⟩ ?_;refine wo (λi m0 Y=>∃(n0 o0 p0 q0:Option V)(O:List V),m0=[wP (.ref a),wP (.ref p),n0,o0,p0,q0]/\aa H Y/\Y p=wP (.lst O)/\Paired (Fu p Y) O ((List.range i).filterMap (Ig J))) (nx21 yP yP yP yP ([]) rfl Q0 ⟨la,.nil⟩) ?_ ?_
  ·rintro i m0 Y hi;refine ebD ?_;rintro n0 o0 p0 q0 O rfl a0 U b0;have f1:i<8:=hi;have v0:=a0.seq J0;have g1:O.length<=i:=by
    have r0:=qb b0;have R0:=qv (Ig J) (List.range i);rw[gf]at R0;simp_all
   have w0:(1+(i:Int)-1).toNat=i:=by lia
   have snoc:(List.range (i+1)).filterMap (Ig J)=(List.range i).filterMap (Ig J)++(Ig J i).toList:=by
    rw[Ei,Op];rw[ri];cases Ig J i<;>rfl
   refine⟨_,rfl,a,J,0,rfl,v0,by decide,_,_,rfl,rfl,(by simp_all),_,rfl,_,_,rfl,rfl,_,_,rfl,rfl,(by lia),_,_,rfl,rfl,rfl,_,rfl,nc (λe=>?_) (λe=>?_)⟩
   ·have s0:xf (ce J 0%256) i=CP:=by
     have r0:=zc e;rw[w0]at r0;unfold xf;exact zb (V.int.inj r0)
    refine⟨_,rfl,_,rfl,_,_,rfl,rfl,a,J,_,rfl,v0,(by lia),_,rfl,_,_,rfl,rfl,.inl ⟨by decide,by decide⟩,_,_,rfl,rfl,_,10,rfl,by decide,λxs h1 i1 S0 e0=>?_⟩;generalize T0:ce J (1+(1+(i:Int)))+7919*(1+(i:Int))=c at e0;have t0:Ig J i=wP (HC c (1+(i:Int))):=by unfold Ig;rw[wa s0,T0]
    refine⟨_,rfl,xs,_,_,_,rfl,rfl,ia.of e0,we c 10 1 (by decide) 1 rfl,_,_,rfl,rfl,(by simp_all),_,_,rfl,rfl,.inl ⟨by decide,by decide⟩,_,rfl,_,_,rfl,rfl,?_⟩;refine⟨Pg,λU0 x0=>⟨_,rfl,xs,_,_,_,rfl,rfl,ia.of (aa.upd x0 _ _ e0),we c 10 0 (by decide) 0 rfl,_,_,rfl,rfl,(by simp_all),U0,_,_,_,rfl,rfl,ia.of la,IC (qa c 1),?_⟩⟩;have y0:=aa.upd (o:=HO.lst [V.str "loose",V.str "kept",V.str "make",V.str "watch",V.str "hold"]) x0;have c0:=S0.trans y0;have z0:=y0 _ _ e0;refine⟨_,rfl,Or.inl ⟨rfl,_,ia.of (c0 _ _ U)⟩,_,rfl,_,rfl,_,rfl,_,rfl,_,rfl,xs,c,_,rfl,ia.of z0,λt j1 V0 f0 W0=>?_⟩;have g0:=f0 _ _ z0;refine⟨_,rfl,xs,_,_,_,rfl,rfl,ia.of g0,we c 10 4 (by decide) 4 rfl,_,rfl,xs,_,_,_,rfl,rfl,ia.of g0,we c 10 5 (by decide) 5 rfl,_,rfl,xs,_,_,_,rfl,rfl,ia.of g0,we c 10 6 (by decide) 6 rfl,Lf,λb A0=>?_⟩;have h0:=aa.upd (o:=HO.lst [V.int (qa c 5),V.int (qa c 6),V.int (qa c 7)]) A0;refine⟨_,rfl,xs,_,_,_,rfl,rfl,ia.of (h0 _ _ g0),we c 10 8 (by decide) 8 rfl,lq,λtp B0=>?_⟩;have u0:=aa.upd (o:=HO.tup [.int (1+(i:Int)),.str (Ql (qa c 1)),.int (100*(qa c 2%12)+(1+(i:Int))),.ref t,.ref b,.int (qa c 9)]) B0;have S:=c0.trans (f0.trans (h0.trans u0));have X0:=S _ _ U;refine⟨p,O,.ref tp,rfl,rfl,X0,(by have:DP=2^24:=rfl;lia),λl1 Y0 i0=>?_⟩;have Z0:tp≠p:=lb B0 (h0 _ _ (f0 _ _ (c0 _ _ U)));have C0:t≠p:=lb V0 (c0 _ _ U);have D0:b≠p:=lb A0 (f0 _ _ (c0 _ _ U));have j0:=λx o n e=>i0 x o n (S _ _ e)
    refine nx21 _ _ _ _ (O++[.ref tp]) rfl (λx o e=>j0 x o (lb e l0) (a0 _ _ e)) ⟨Y0,?_⟩;rw[snoc,t0];refine ef (Paired.Ib b0 (by rintro v d' ⟨a1,t',b1,c1,F0,G0,I0,d1,e1⟩;exact⟨a1,t',b1,c1,F0,G0,j0 _ _ (lb I0 U) I0,j0 _ _ F0 d1,j0 _ _ G0 e1⟩)) (.cons ⟨tp,t,b,rfl,C0,D0,i0 _ _ Z0 la,i0 _ _ C0 (u0 _ _ (h0 _ _ W0)),i0 _ _ D0 (u0 _ _ la)⟩ .nil)
   ·have s0:¬xf (ce J 0%256) i=CP:=λz=>e (by
     rw[w0];exact zb (Ub V.int (zc z)))
    have t0:Ig J i=yP:=by unfold Ig;rw[ma s0]
    refine nx21 _ _ _ _ O rfl a0 ⟨U,?_⟩;rw[snoc,t0];simpa using b0
  ·rintro m0 Y;refine ebD ?_;rintro n0 o0 p0 q0 O rfl a0 U b0;exact⟨_,rfl,q p O Y l0 a0 U b0⟩
--@vb
def JM{E:List (Nk×Nk)}(O:L≠[])(h:∀x∈L,∃y∈L,(y,x)∈E):∃n∈L,∃k,Wk E (k+1) n n:=by
 obtain⟨U,Y⟩:=List.exists_mem_of_ne_nil L O;have J:∀x:{x//x∈L},∃y:{x//x∈L},(y.1,x.1)∈E:=λx=>let⟨y,a,b⟩:=h x.1 x.2;⟨⟨y,a⟩,b⟩
 obtain⟨g,J⟩:=Classical.axiomOfChoice J;let s:Nat->{x//x∈L}:=λi=>Nat.rec ⟨U,Y⟩ (λ_ x=>g x) i
 have a0:∀i d,Wk E d (s (i+d)).1 (s i).1:=λi d=>by
  induction d with
  |zero=>exact .nil _
  |succ d b0=>exact Wk.cons (J (s (i+d))) b0
 refine Oh λc0=>?_
 have inj:∀i j,i<j->(s i).1≠(s j).1:=λi j f0 e=>c0 (nx9 ((s i).1) ((s i).2) (j-i-1) (by
  have:=a0 i (j-i);rw[show i+(j-i)=j by grind]at this;rw[<-e]at this;rw[show j-i-1+1=j-i by grind];exact this))
 have d0:((List.range (L.length+1)).map λi=>(s i).1).Nodup:=Be.mpr (rg (λh=>inj _ _ h) Sn);have:=Bh d0 λx e0=>by
  obtain⟨i,_,rfl⟩:=Ya.mp e0;exact(s i).2
 grind
def LM(h:xs[xs.length-1]?=wP v):Bd xs (-1)=wP v:=by
 have J:=(Zb.mp h).1;unfold Bd hg;rw[ma (by decide),wa (by lia)];have e:(-1+(xs.length:Int)).toNat=xs.length-1:=by grind
 simpa[e]using h
def FD(H:Hp)(O:List (List Key×V))(ns:List Nk)(W:Nk->List Nk):Prop:=Paired (λ(q:List Key×V)(n:Nk)=>q.1=kN n/\∃l J,q.2=.ref l/\H l=wP (.lst J)/\Oc H J (W n)) O ns
def BD.fd{W:Nk->List Nk}(h:BD H0 H J ns W):FD H J ns W:=Paired.Ib h.1 (by rintro _ _⟨e,l,O,U,_,Y,a0⟩;exact⟨e,nx5 l O U Y a0⟩)
def FD.same{W:Nk->List Nk}(h:FD H J ns W)(s:aa H H'):FD H' J ns W:=Paired.Ib h (by rintro _ _;refine ec3 ?_;rintro e l O U Y a0;exact⟨e,nx5 l O U (s _ _ Y) (We (dh s) a0)⟩)
def FD.get{W:Nk->List Nk}(h:FD H O ns W)(U:n∈ns):∃l J,Oa O (kN n)=wP (.ref l)/\H l=wP (.lst J)/\Oc H J (W n):=by
 refine ea7 ?_ (Ix (α:=Nat) (λ_ _ z=>z.1) h U);rintro q _ v;refine ec3 ?_;rintro _ l J e Y a0;exact nx5 l J (by rw[v,e]) Y a0
def wn(c:List Nk):List (Nk×Nk):=c.zip (c.drop 1++c.take 1)
inductive xp(E:List (Nk×Nk))(st:Nk):Nat->List Nk->Nk->Prop
 |one:xp E st 0 [st] st
 |snoc{n:Nat}{c:List Nk}{x o:Nk}:xp E st n c x->(x,o)∈E->xp E st (n+1) (c++[o]) o
def xp.all{E:List (Nk×Nk)}{st x:Nk}{n:Nat}{c:List Nk}(h:xp E st n c x):c.length=n+1/\c[n]?=wP x/\c.take 1=[st]/\∀o,(x,o)∈E->∀k∈c.zip (c.drop 1++[o]),k∈E:=by
 induction h with
 |one=>exact⟨rfl,rfl,rfl,λo h k J=>by simp at J;rw[J];exact h⟩
 |snoc h e O=>
  revert O;refine ea6 ?_;rintro l a b d;refine⟨by simp[l],by rw[<-l];simp,by rw[List.take_append_of_le_length (by simp_all)];exact b,λo U k J=>?_⟩;rw[List.drop_append_of_le_length (by lia),List.zip_append (by simp;simp_all)]at J;rcases Xb.mp J with z|z
  ·exact d _ e k z
  ·simp at z;rw[z];exact U
structure Sr(E:List (Nk×Nk))(U:List Nk)(st:Nk)(old met fr:List Nk):Prop where
 nd:met.Nodup
 aD:∀x∈met,x∈U
 s0:st∈old\/st∈fr
 no:∀x∈old,(x,st)∉E/\∀o,(x,o)∈E->o∈met
 MM:∀x∈met,x∈old\/x∈fr
 NM:∀x∈fr,x∈U
section
variable{E:List (Nk×Nk)}{U old met fr:List Nk}{st:Nk}
def Sr.add{z:Nk}(h:Sr E U st old met fr)(J:z∈U)(hz:z∉met):Sr E U st old (met++[z]) (fr++[z]):=by
 obtain⟨O,Y,a0,b0,c0,d0⟩:=h;constructor<;>grind
def Sr.done{x:Nk}(h:Sr E U st old met (x::fr))(J:(x,st)∉E)(O:∀o,(x,o)∈E->o∈met):Sr E U st (old++[x]) met fr:=by
 obtain⟨Y,a0,b0,c0,d0,e0⟩:=h;constructor<;>grind
def Sr.nil(h:Sr E U st old met []){k:Nat}(w:Wk E (k+1) st st):False:=by
 have all:∀{n a y},Wk E n a y->a=st->y∈old:=λ{n a y}w e=>by
  induction w with
  |nil=>exact h.s0.elim (λz=>e▸z) λz=>by cases z
  |snoc _ q J=>exact(h.MM _ ((h.no _ (J e)).2 _ q)).elim id λz=>by cases z
 cases w with
 |snoc w e=>exact(h.no _ (all w rfl)).1 e
end
abbrev CR(E:List (Nk×Nk))(st:Nk)(n:Nat)(H0 H:Hp)(v:V)(x:Nk):Prop:=∃l J c,v=.ref l/\H0 l=yP/\H l=wP (.lst J)/\Oc H J c/\xp E st n c x
section
variable{E:List (Nk×Nk)}{st:Nk}{n:Nat}{H0 H H':Hp}{vs:List V}{xs:List Nk}
def fy(J:wf H H')(h:Paired (CR E st n H0 H) vs xs)(k:∀l ys,V.ref l∈vs->H l=wP (.lst ys)->H' l=wP (.lst ys)):Paired (CR E st n H0 H') vs xs:=by
 induction h with
 |nil=>exact .nil
 |cons r _ O=>
  revert r;refine eaF ?_;rintro l U c Y a0 b0 c0 d0;exact .cons (nx6 l U c Y a0 (k _ _ (by simp_all) b0) (We J c0) d0) (O λl ys h=>k l ys (rh _ h))
def gy(h:Paired (CR E st n H0 H) vs xs)(s:aa H H'):Paired (CR E st n H0 H') vs xs:=fy (dh s) h λ_ _ _ e=>s _ _ e
def OM(h:Paired (CR E st n H0 H) vs xs)(m:V.ref l∈vs):∃ys,H l=wP (.lst ys):=by
 obtain⟨i,hi⟩:=ze.mp m;refine ea1 ?_ (Wb h hi);rintro _ _;refine ea4 ?_;rintro J O _ e _ U _
 simp_all
end
def ih(J:List Nk):List (List Key×V):=J.map λo=>(kN o,V.bl CP)
def PM(J:List Nk):(ih J).length=J.length:=pa ..
def bD(J:List Nk)(o:Nk):(Oa (ih J) (kN o)).isSome=decide (o∈J):=by
 induction J with
 |nil=>rfl
 |cons m r O=>
  unfold ih Oa at O⊢;rw[ed,sg];by_cases e:m=o
  ·subst e;simp
  ·rw[show decide ((kN m,V.bl CP).1=kN o)=GP from Wd λz=>e (jp z)]
   grind
def QM(h:o∉J):lc (ih J) (kN o) (V.bl CP)=ih (J++[o]):=by
 unfold lc;rw[ma (by rw[Fq,bD,Wd h];decide)];unfold ih
 simp_all
inductive RM(vs:List V)(H:Hp)(Q:VK)(_:XK):Prop|mk(d:BP)(Ra:List (List Key×V))(W:Nk->List Nk)(U:List Nk)(E:List (Nk×Nk))(st:Nk)(v:V)(_:vs=[.ref d,v])(_:H d=wP (.dT Ra))(_:FD H Ra U W)(_:U.length<=40)(_:(∀x y,y∈W x↔(x,y)∈E))(_:(∀k∈E,k.2∈U))(_:Fb H v st)(_:st∈U)(_:((∀k,¬Wk E (k+1) st st)->∀H',aa H H'->Q .Pa H'))(_:∀c p ws H',(∀k∈wn c,k∈E)->c.length<=43->H p=yP->aa H H'->H' p=wP (.lst ws)->Oc H' ws c->Q (.ref p) H')
def SM{α β:Type}{F G:α->β->Prop}{xs:List α}{ys:List β}(h:Paired F xs ys)(k:∀x y,x∈xs->F x y->G x y):Paired G xs ys:=by
 induction h with
 |nil=>exact .nil
 |cons r _ J=>exact .cons (k _ _ (.head _) r) (J λx y O=>k x y (.tail _ O))
abbrev cD(E:List (Nk×Nk))(H0 H:Hp)(v:V):Prop:=∃c l J,(∀k∈wn c,k∈E)/\c.length<=43/\v=.ref l/\H0 l=yP/\H l=wP (.lst J)/\Oc H J c
abbrev OR(E:List (Nk×Nk))(H0 H:Hp)(v:V)(n:Nk):Prop:=((∀k,¬Wk E (k+1) n n)/\v=.Pa)\/cD E H0 H v
def TM{α β:Type}{R:α->β->Prop}{xs:List α}(h:∀x∈xs,∃y,R x y):∃ys,Paired R xs ys:=by
 induction xs with
 |nil=>exact⟨[],.nil⟩
 |cons x r J=>
  obtain⟨y,O⟩:=h x (.head _);obtain⟨ys,U⟩:=J λz hz=>h z (.tail _ hz)
  exact⟨y::ys,.cons O U⟩
def iy{E:List (Nk×Nk)}(O:wf H H'){v:V}{n:Nk}(h:OR E H0 H v n)(k:∀l xs,v=.ref l->H l=wP (.lst xs)->H' l=wP (.lst xs)):OR E H0 H' v n:=h.imp id (by rintro⟨c,l,U,Y,a0,J,b0,c0,d0⟩;exact nx6 c l U Y a0 J b0 ⟨k _ _ J c0,We O d0⟩)
inductive UM(K:W.Frag)(vs:List V)(H:Hp)(Q:VK)(_:XK):Prop|mk(a b:BP)(nv pv:List V)(ns:List Nk)(E:List (Nk×Nk))(_:vs=[.ref a,.ref b])(_:ia K H a nv)(_:Oc H nv ns)(_:ns.Nodup)(_:ns.length<=40)(_:ia K H b pv)(_:Paired (Uc H) pv E)(_:E.length<=1200)(_:(∀k∈E,k.1∈ns/\k.2∈ns))(_:((∀n∈ns,∀k,¬Wk E (k+1) n n)->∀H',aa H H'->Q .Pa H'))(_:∀c p ws H',(∀k∈wn c,k∈E)->c.length<=43->H p=yP->aa H H'->H' p=wP (.lst ws)->Oc H' ws c->Q (.ref p) H')
def dD(T:Tx K mg):T.gu.Ok P w base 1 (ZL K):=by
 refine sb T.gu.F λH _ _ _ y0 h=>?_
 ·obtain⟨a,b,f0,i1,ns,j1,rfl,s0,O0,P0,Kb,l1,Q0,R1,m1,q⟩:=h;have n1:=Ue y0;refine⟨_,(va (Ua 2 (Jm (vB (K:=K) (Jj y0.units) rfl rfl) (by rfl) T.kn FQ (Fa (vf ["node"] [] [] (bc (pv 0)) (Jd 0) Df (Tc (na (pv 0) (Fa (kc Ad))))))))
   (va (kd Qc rfl (bc (lL (K:=K) y0.units rfl rfl rfl T.ln rfl T.wC (La 1))) (Rh rfl (Mc (Db 3) (Mc (Db 4) xh)))
   (ra (Qe (Ee Oe tj Aj Fj (Sf n1 (pv 2) (pv 3)) (La 4)))))
   (ra (Sa (pv 2))))),?_⟩
  show let o1:TS:=_;let p1:TS:=ya (qe _ _ _) o1;ya _ p1 _ _ _
  intros;have r1:=qb O0;refine⟨_,rfl,a,rfl,⟨_,s0⟩,λD z0=>⟨λi m ys R0 b0=>m=f0.length-i/\i<=f0.length/\(∃t,R0=[t])/\aa H b0/\b0 D=wP (.lst ys)/\∃J:List (Nk×BP),CB H b0 D ys J/\J.map (·.1)=ns.take i,⟨_,rfl,Tb _,⟨yP,rfl⟩,aa.upd z0,la,[],⟨.nil,List.nodup_nil⟩,rfl⟩,?_⟩⟩;rintro i m ys R0 b0;refine ea6 ?_;rintro rfl hi⟨t,rfl⟩;refine ebF ?_;rintro c0 U J cb eq;have t1:ys.length=i:=by
   have A0:=qb cb.1;have g0:=Ub List.length eq;rw[pa,Ae]at g0;simp_all
  refine⟨U,?_⟩;by_cases B0:i<f0.length
  ·refine .inr ⟨(Ve (c0.seq s0)).go i B0,by have:DP=2^24:=rfl;lia,?_⟩;rintro v H' ⟨rfl,u1⟩;refine ea1 ?_ (Wb O0 (u1 f0 (c0.seq s0)));rintro n v1 w1;refine ea1 ?_ (Pl (He c0 w1));rintro S0 rfl t0;refine⟨_,rfl,(by decide),λl O=>⟨Za,λh0 d0=>⟨?_,f0.length-(i+1),by grind,rfl,B0,⟨_,rfl⟩,?_,la,J++[(n,l)],?_,?_⟩⟩⟩
   ·rw[oa (λz=>by rw[<-z,oa (λC0=>by rw[<-C0,U]at O;cases O)]at d0;rw[U]at d0;cases d0),oa (λz=>by rw[<-z,U]at O;cases O)];exact U
   ·exact(c0.trans (aa.upd O)).trans (aa.upd d0)|>.again z0
   ·have D0:l≠D:=lb O U;have T0:h0≠D:=λz=>by rw[z,oa (Dc D0),U]at d0;cases d0
    have x1:h0≠l:=lb d0 la;have U0:∀b o,b≠D->H' b=wP o->upd (upd (upd H' l (.lst [])) h0 (.tup [.ref S0,.ref l])) D (.lst (ys++[.ref h0])) b=wP o:=λb o y1 e=>by
     rw[oa y1,oa (λz=>by rw[<-z,oa (λC0=>by rw[<-C0,e]at O;cases O),e]at d0;cases d0),oa (λz=>by rw[<-z,e]at O;cases O)];exact e
    refine⟨ef (cb.keep z0 (λxs z=>by rw[U]at z;cases z) U0).1 (.cons (nx10 h0 S0 rfl T0 D0 ?_ (U0 _ _ (lb t0 U) t0) ⟨c0.free O,?_⟩) .nil),?_⟩
    ·rw[oa T0];exact la
    ·rw[oa D0,oa (Dc x1)];exact la
    ·rw[Le];refine Ai.mpr ⟨cb.2,Vc.mpr ⟨by simp,List.nodup_nil⟩,λx i0 y S1 e=>?_⟩;obtain⟨T1,z1,rfl⟩:=Ya.mp i0;obtain⟨j,F0⟩:=ze.mp z1;obtain⟨_,_,_,_,_,_,_,_,_,_,U1⟩:=Qw cb.1 F0
     simp_all
   ·rw[Le,eq,qc,v1];rfl
  ·have V0:i=f0.length:=by grind
   refine .inl ⟨(Ve (c0.seq s0)).stop _ (by simp_all),?_⟩;have u0:J.map (·.1)=ns:=by rw[eq,V0,r1,Ic]
   have A1:J.length=ns.length:=by rw[<-u0,pa]
   refine nx6 D ys _ rfl U (CB.YL cb.1) (by rw[pa];lia) λd j0=>?_;have W0:((J.map λq=>(kN q.1,V.ref q.2)).map (·.1)).Nodup:=by
    rw[Hc,show((λx:List Key×V=>x.1)∘λq:Nk×BP=>(kN q.1,V.ref q.2))=kN∘(λq:Nk×BP=>q.1)from rfl,<-Hc,u0];exact BC P0
   rw[Jx _ [] W0 (λ_ _ _ z=>by cases z),List.nil_append];have B1:d≠D:=lb j0 U;have v0:aa H (upd b0 d (.dT (J.map λq=>(kN q.1,V.ref q.2)))):=c0.trans (aa.upd j0);have l0:BD H (upd b0 d (.dT (J.map λq=>(kN q.1,V.ref q.2)))) (J.map λq=>(kN q.1,V.ref q.2)) ns (Ma []):=by
    refine⟨?_,?_⟩
    ·have:=CB.bd (H0:=H) (H':=upd b0 d (.dT (J.map λq=>(kN q.1,V.ref q.2)))) (aa.refl H) (λb xs _ e=>aa.upd j0 _ _ e) cb.1;rw[u0]at this;exact this
    ·rw[Hc];exact Be.mpr (rg (λn e=>n (by injection e)) (Be.mp cb.2))
   have C1:H d=yP:=c0.free j0;have G0:upd b0 d (.dT (J.map λq=>(kN q.1,V.ref q.2))) d=wP (.dT (J.map λq=>(kN q.1,V.ref q.2))):=la;generalize upd b0 d (.dT (J.map λq=>(kN q.1,V.ref q.2)))=V1 at v0 l0 G0;generalize(J.map λq=>(kN q.1,V.ref q.2))=m0 at l0 G0;clear cb eq u0 W0 U c0 j0 B1 A1 t1 B0 V0;refine⟨_,rfl,b,i1,j1,rfl,v0.seq l1,Hx v0 Q0,by rw[qb Q0];lia,λl n0 Y O D1 X0 I0=>?_⟩;have o0:=aa.upd (o:=HO.lst n0) O;have E1:V.ref l∉m0.map (·.2):=λz=>by
    obtain⟨F1,G1,W1⟩:=Ya.mp z;obtain⟨j,F0⟩:=ze.mp G1;obtain⟨X1,_,_,Y0,Y1,g0,_,Z0,_⟩:=Wb l0.1 F0
    simp_all
   refine⟨l,rfl,⟨_,ia.of la⟩,bf (K:=K) (a:=l) (xs:=n0) (λi w0 a0=>∃J0 K0:Option V,w0=[wP (.ref a),wP (.ref b),wP (.ref d),J0,K0]/\aa H a0/\a0 d=wP (.dT m0)/\a0 l=wP (.lst n0)/\Paired (Uc a0) n0 Y/\BD H a0 m0 ns (Ma (Y.take i)))
    (nx10 yP yP rfl (v0.trans o0) (o0 _ _ G0) la (Hx o0 D1) ?_) (by rintro i w0 a0 _⟨_,_,_,_,_,h,_⟩;exact ia.of h) ?_ ?_⟩
   ·exact⟨Paired.Ib l0.1 (by rintro _ _⟨A0,Y0,L0,g0,a1,Z0,H1⟩;exact⟨A0,nx3 Y0 L0 g0 a1 (o0 _ _ Z0) (We (dh o0) H1)⟩),l0.2⟩
   ·rintro i x w0 a0 i0;refine eb6 ?_;rintro J0 K0 rfl M0 p0 b1 x0 e0;refine ea1 ?_ (Wb x0 i0);rintro k ek I1;revert I1;refine ea4 ?_;rintro p u c1 rfl ep J1 K1;obtain⟨L1,Z1⟩:=m1 k ((I0 k).mp (yb ek));refine ec0 ?_ (Ix (α:=Nat) (λ_ _ z=>z.1) e0.1 L1);rintro F1 a2 d1 b2 N0 L0 e1 M1 q0 N1;refine ea1 ?_ (Pl J1);rintro f1 rfl O1;refine nx11 p ([V.ref f1,c1]) rfl (Ba.of ep) rfl _ _ rfl _ _ rfl ⟨rfl,?_⟩;refine⟨_,rfl,_,rfl,d,.ref N0,rfl,.inr (nx1 m0 (kN k.1) f1 (.inl p0) rfl O1 (by rw[d1,e1])),Or.inl ⟨rfl,_,ia.of q0⟩,_,rfl,N0,L0,c1,rfl,rfl,q0,?_,λg1 P1 r0=>?_⟩
    ·have A0:=qb N1;have g0:(Ma (Y.take i) k.1).length<=(Y.take i).length:=by unfold Ma;rw[pa];exact Yj _ _
     have a1:=Bh X0 λx i0=>(I0 x).mp i0
     rw[Ae]at g0;have:DP=2^24:=rfl;grind
    have h1:wf a0 g1:=pr q0 (λxs z=>by cases z) r0;have Q1:l≠N0:=λz=>E1 (by grind)
    refine nx10 _ _ rfl (λb o e=>r0 b o (lb e M1) (M0 b o e)) (r0 _ _ (lb p0 q0) p0) (r0 _ _ Q1 b1) (aM h1 x0) ⟨?_,e0.2⟩;have:=cM h1 r0 q0 P1 K1 e0.1 P0 e0.2 (by rw[d1,e1]);refine Paired.Ib this λq n z=>?_
    rw[qc,ek];show BR H g1 (Ma (Y.take i++[k])) q n;have t0:Ma (Y.take i++[k]) n=if k.1=n then Ma (Y.take i) n++[k.2]else Ma (Y.take i) n:=WL _ _ _
    unfold BR;rw[t0];exact z
   ·rintro w0 a0;refine eb6 ?_;rintro J0 K0 rfl M0 p0 b1 x0 e0;rw[show n0.length=Y.length from qb x0,Ic]at e0;exact⟨_,rfl,q d m0 Y a0 C1 M0 p0 X0 I0 e0⟩
def VM(T:Tx K mg):T.jx.Ok P w base 1 (fM K):=by
 refine sb T.jx.F λH _ _ _ F0 h=>?_
 ·obtain⟨d,J,ns,c0,rfl,s0,t0,W0,Kb,X0,q⟩:=h;have Y0:=Ue F0;refine⟨_,(va (Ua 1 (Jm (vB (K:=K) (Jj F0.units) rfl rfl) (by rfl) T.kn FQ (Fa (vf ["node"] [] [] (QJ (pv 0)) (Jd 0) Df (Tc (na (pv 0) (Fa ka)))))))
   (va (kd Qc rfl (SJ (pv 0)) (Db 2)
   (ra (kd Qc rfl (bc (pv 2)) (Db 3)
   (ra (Ez Y0 (pv 1) (pv 3) ka wF (λ_ _ _=>rfl))))))
   (ra (Sa (pv 1))))),?_⟩
  show let Z0:TS:=_;let a1:TS:=ya (qe _ _ (qe _ _ _)) Z0;ya _ a1 _ _ _
  intros;have lk:=qb t0;refine⟨_,rfl,d,J,rfl,s0,λb1 c1 hz G0 d1 D u0=>⟨λi m ys I0 d0=>m=J.length-i/\i<=J.length/\(∃t,I0=[t])/\aa c1 d0/\d0 D=wP (.lst ys)/\Paired (CA d0 D) ys (ns.take i),⟨_,rfl,Tb _,⟨yP,rfl⟩,aa.upd u0,la,.nil⟩,?_⟩⟩;rintro i m ys I0 d0;refine eaD ?_;rintro rfl hi⟨t,rfl⟩a0 g0 h0;have e1:ys.length=i:=by
   have m0:=qb h0;rw[Ae]at m0;simp_all
  refine⟨g0,?_⟩;by_cases v0:i<J.length
  ·refine .inr ⟨⟨a0 _ _ hz,v0⟩,by have:DP=2^24:=rfl;lia,?_⟩;rintro v H' ⟨rfl,k,x,b,ek,rfl,J0⟩;obtain⟨n,n0,m0,_⟩:=Wb t0 ek;cases(m0);refine⟨_,rfl,Za,λo0 p0=>⟨?_,J.length-(i+1),by grind,rfl,v0,⟨_,rfl⟩,(a0.trans (aa.upd p0)).again u0,la,?_⟩⟩
   ·exact aa.upd p0 _ _ g0
   ·have K0:o0≠D:=lb p0 g0;have i0:∀O o,O≠D->H' O=wP o->upd (upd H' o0 (.tup [.ref b,.int 0])) D (.lst (ys++[.ref o0])) O=wP o:=λO o Y e=>by
     rw[oa Y];exact aa.upd p0 _ _ e
    have L0:∀{O:BP}{xs:List V},H' O=wP (.tup xs)->O≠D:=λe z=>by simp_all
    rw[qc,n0];refine ef (Paired.Ib h0 (by rintro _ _;refine eaA ?_;rintro t O e M0 f1 N0;exact nx3 t O e M0 (i0 _ _ M0 f1) (i0 _ _ (L0 N0) N0))) (.cons (nx3 o0 b rfl K0 ?_ (i0 _ _ (L0 J0) J0)) .nil);rw[oa K0];exact la
  ·have w0:i=J.length:=by grind
   refine .inl ⟨⟨a0 _ _ hz,w0⟩,?_⟩;have O0:Paired (CA d0 D) ys ns:=by rw[w0,lk,Ic]at h0;exact h0
   refine nx6 D ys _ rfl g0 (eM O0) (by unfold Ld;rw[pa];lia) λp q0=>?_;rw[Jx _ [] (by rw[dM];exact BC W0) (λ_ _ _ z=>by cases z),List.nil_append];have x0:=a0.trans (aa.upd (o:=HO.dT (Ld ns λ_=>0)) q0);have P0:H p=yP:=by
    have:=a0.free q0;cases e:H p with
    |none=>rfl
    |some o=>
     grind
   have Q0:p≠d:=lb q0 (a0 _ _ hz);have k3:=λb o Y e=>x0 _ _ (G0 b o Y e)
   have g1:=x0 _ _ hz;have h1:upd d0 p (.dT (Ld ns λ_=>0)) p=wP (.dT (Ld ns λ_=>0)):=la;clear x0 h0 O0 g0 a0 G0 d1 hz u0 q0 e1 w0 v0;refine⟨_,rfl,d,J,rfl,.inr ⟨b1,g1⟩,λy0 x1 i1 R0 _=>?_⟩;have i0:=λb o Y e=>R0 b o Y (k3 b o Y e)
   have j1:=R0 _ _ Q0 h1;refine TJ (λi U b0=>∃z0 j0:Option V,U=[wP (.ref d),wP (.ref p),z0,j0]/\(∀b o,b≠d->H b=wP o->b0 b=wP o)/\b0 d=wP (.jd y0 (.dT J))/\b0 p=wP (.dT (Ld ns (eb ((ns.take i).flatMap c0))))) (nx3 yP yP rfl i0 i1 j1) (by rintro i U b0;refine eaA ?_;rintro _ _ _ _ h _;exact h) ?_ ?_
   ·rintro i k x U b0 l1;refine eaA ?_;rintro z0 j0 rfl k5 A0 r0;obtain⟨n,n0,m0,l,m1,n1,_,B0,S0⟩:=Wb t0 l1;cases(n1);have ld:l≠d:=λz=>by rcases s0 with e|⟨_,e⟩<;>(rw[<-z,B0]at e;cases e)
    have o1:n∈ns:=yb n0;refine⟨_,rfl,l,rfl,⟨_,ia.of (k5 _ _ ld B0)⟩,bf (K:=K) (a:=l) (λj U e0=>∃j0:Option V,U=[wP (.ref d),wP (.ref p),wP (.ref l),j0]/\(∀b o,b≠d->H b=wP o->e0 b=wP o)/\e0 d=wP (.jd y0 (.dT J))/\e0 p=wP (.dT (Ld ns (eb ((ns.take i).flatMap c0++(c0 n).take j))))) ⟨_,rfl,k5,A0,by rw[List.take_zero,z1m];exact r0⟩ (by rintro j U e0 _⟨_,_,f0,_⟩;exact ia.of (f0 _ _ ld B0)) ?_ ?_⟩
    ·rintro j y U e0 p1;refine eb2 ?_;rintro r1 rfl f0 C0 l0;refine ea1 ?_ (Wb S0 p1);rintro o T0 t1;refine ea1 ?_ (Pl t1);rintro D0 rfl u1;have v1:D0≠d:=λz=>by rcases s0 with e|⟨_,e⟩<;>(simp_all)
     have U0:o∈ns:=X0 n o1 o (yb T0);have V0:=f0 _ _ v1 u1;refine⟨_,rfl,_,rfl,p,.int (eb ((ns.take i).flatMap c0++(c0 n).take j) o),rfl,.inr (nx1 _ (kN o) D0 (.inl l0) rfl V0 ((qr U0).symm)),_,_,rfl,rfl,_,.inr (nx6 _ (kN o) D0 l0 rfl V0 (by unfold Ld;rw[pa];have:DP=2^24:=rfl;lia) rfl),_,rfl,λb w1 Y e=>?_,?_,?_⟩
     ·rw[oa (lb e P0)];exact f0 b w1 Y e
     ·rw[oa (Dc Q0)];exact C0
     ·rw[DC U0,Lx,ke,qc,T0];exact la
    ·rintro U e0;refine eb2 ?_;rintro r1 rfl f0 C0 l0;refine nx3 _ _ rfl f0 C0 ?_;rw[show m1.length=(c0 n).length from qb S0,Ic]at l0;rw[qc,n0,Xk,l0];simp
   ·rintro U b0;refine eaA ?_;rintro z0 j0 rfl k5 A0 r0;rw[lk,Ic]at r0;exact⟨_,rfl,q p y0 b0 P0 k5 A0 r0⟩
def WM(T:Tx K mg):T.kx.Ok P w base 2 (hM K):=by
 refine sb T.kx.F λH _ _ E y0 h=>?_
 ·obtain⟨a,b,f0,Y1,ns,E1,rfl,r0,j1,N0,Kb,Z1,a2,b2,z0,c2,d2⟩:=h;have O0:=Ue y0;refine⟨_,(va (Ua 2 (xb T.gu (dD T) y0 (na (pv 0) (La 1))))
   (va (Ua 3 (xb T.jx (VM T) y0 (La 2)))
   (va (Qo 4 ["node"] (by show(Tf _).Nodup;decide+kernel) ["ahead"] [3] (bc (pv 0)) (Jd 0) (Um (wb re (Sf O0 (pv 1) (pv 0)) ka (rb _))) (pv 0))
   (va (Ua 5 (kc Ad))
   (va (Ly Qc (wb Mv (vc Xd (by rfl) T.Kd Cd (La 4)) ka (rb _))
   (va (Ua 6 (vc (IJ (K:=K) (Jj y0.units) rfl rfl) (by rfl) T.vC boot_min (La 4)))
   (va (Qe (Ee Oe av F.type_list_remove (KJ (Jj y0.units)) (pv 4) (La 6)))
   (va (Qe (Ee Oe tj Aj Fj (pv 5) (La 6)))
   (ra (kd Qc rfl (bc (Sf O0 (pv 2) (pv 6))) (Db 7)
   (va (Ez O0 (pv 3) (pv 7) ka xF (λ_ _ _=>rfl))
   (ra (rc (wb re (Sf O0 (pv 3) (pv 7)) ka (rb _))
   (ra (Qe (Ee Oe tj Aj Fj (pv 4) (La 7))))
   yc)))))))))
   (ra (Sa (wv (wb re (vc Xd (by rfl) T.Kd Cd (La 5)) (vc Xd (by rfl) T.Kd Cd (La 0)) (rb _)) (pv 5) Pe)))))))),?_⟩
  show let e2:TS:=_;let f2:TS:=ya _ e2;let g2:TS:=ya _ f2;let h2:TS:=ya _ g2;let i2:TS:=ya _ h2;ya _ i2 _ _ _
  intros;refine⟨_,rfl,_,rfl,a,b,f0,Y1,ns,E1,rfl,r0,j1,N0,Kb,Z1,a2,b2,z0,λd P0 J j2 l2 s1 Q0 l1 A0 bd=>?_⟩;have m1:Paired (BR (λ_=>yP) j2 (Ma J)) P0 ns:=Paired.Ib bd.1 λ_ _⟨a0,l,s0,B0,_,R0,n1⟩=>⟨a0,nx3 l s0 B0 rfl R0 n1⟩
  refine⟨_,rfl,d,P0,ns,Ma J,rfl,.inl Q0,m1,N0,Kb,λn _ o g0=>(z0 _ ((A0 _).mp (np.mp g0))).2,λp m2 Y F1 S0 G1 i0=>?_⟩;have n0:aa H Y:=λc o e=>S0 c o (lb e l2) (s1 c o e)
  have n2:H p=yP:=s1.free F1;have o2:Paired (BR (λ_=>yP) Y (Ma J)) P0 ns:=Paired.Ib m1 λ_ _⟨a0,l,s0,B0,p2,R0,n1⟩=>⟨a0,nx3 l s0 B0 p2 (S0 _ _ (lb R0 Q0) R0) (We (pr Q0 (λxs z=>by cases z) S0) n1)⟩
  have H1:Oc Y f0 ns:=We (dh n0) j1;clear m1 bd S0 F1 s1 Q0 j1;have I1:f0.length=ns.length:=qb H1;have r2:∀k∈J,k.1∈ns/\k.2∈ns:=λk s2=>z0 k ((A0 k).mp s2)
  refine⟨_,rfl,a,rfl,⟨_,n0.seq r0⟩,λD C0=>⟨λi m ys J1 o1=>m=f0.length-i/\i<=f0.length/\(∃t,J1=[t,wP (.ref p)])/\aa Y o1/\o1 D=wP (.lst ys)/\Oc Y ys ((ns.take i).filter λy=>decide (eb (ns.flatMap (Ma J)) y=0)),⟨_,rfl,Tb _,⟨yP,rfl⟩,aa.upd C0,la,.nil⟩,?_⟩⟩;rintro i m ys J1 o1;refine eaD ?_;rintro rfl hi⟨t,rfl⟩b0 t0 u0;have t2:ys.length<=40:=by
   have a0:=qb u0;have B0:=Yj (λy=>decide (eb (ns.flatMap (Ma J)) y=0)) (ns.take i);rw[Ae]at B0;lia
  have sz:DP=2^24:=rfl;refine⟨t0,?_⟩;by_cases T0:i<f0.length
  ·refine .inr ⟨(Ve (b0.seq (n0.seq r0))).go i T0,by lia,?_⟩;rintro v H' ⟨rfl,u2⟩;refine ea1 ?_ (Wb H1 (u2 f0 (b0.seq (n0.seq r0))));rintro n K1 v2;refine ea1 ?_ (Pl v2);rintro w2 rfl L1;have x2:n∈ns:=yb K1;refine⟨_,rfl,_,rfl,p,.int (eb (ns.flatMap (Ma J)) n),rfl,.inr (nx1 _ (kN n) w2 (.inl (b0 _ _ i0)) rfl (b0 _ _ L1) ((qr x2).symm)),?_⟩;refine⟨rfl,_,rfl,?_⟩;have v0:(ns.take (i+1))=ns.take i++[n]:=by rw[qc,K1];rfl
   by_cases U0:eb (ns.flatMap (Ma J)) n=0
   ·rw[U0];refine cf ?_;refine⟨_,rfl,t0,f0.length-(i+1),by lia,rfl,T0,⟨_,rfl⟩,b0.again C0,la,?_⟩;rw[v0,Yr,show[n].filter (λy=>decide (eb (ns.flatMap (Ma J)) y=0))=[n]by simp[U0]];exact ef u0 (.cons (yC L1) .nil)
   ·have y2:decide (V.int (eb (ns.flatMap (Ma J)) n)=V.int 0)=GP:=Wd λz=>U0 (by injection z)
    rw[y2];refine ud ?_;refine⟨f0.length-(i+1),by lia,rfl,T0,⟨_,rfl⟩,b0,t0,?_⟩;rw[v0,Yr,show[n].filter (λy=>decide (eb (ns.flatMap (Ma J)) y=0))=[]by simp[U0],z1m];exact u0
  ·refine .inl ⟨(Ve (b0.seq (n0.seq r0))).stop _ (by lia),?_⟩;have M1:i=f0.length:=by lia
   rw[M1,I1,Ic]at u0;refine⟨nb,λo g0=>?_⟩;have oD:o≠D:=lb g0 t0;have N1:Ord J ns ns (ns.filter λy=>decide (eb (ns.flatMap (Ma J)) y=0)) 0:=
    ⟨N0,λx j0=>j0,yj _,N0.filter _,λx=>by rw[im,Jp,pp],λy p1 r1=>absurd p1 r1⟩
   have D0:p≠D:=lb i0 C0;have t1:p≠o:=λz=>by rw[<-z,b0 _ _ i0]at g0;cases g0
   have O1:Y o=yP:=b0.free g0;refine⟨λm o0 h0=>∃(V0 p0:Option V)(c0 l0:List V)(fs U:List Nk),o0=[wP (.ref a),wP (.ref b),wP (.ref d),wP (.ref p),wP (.ref D),wP (.ref o),V0,p0]/\m=U.length/\(∀c u,c≠p->Y c=wP u->h0 c=wP u)/\h0 p=wP (.dT (Ld ns (eb (U.flatMap (Ma J)))))/\h0 D=wP (.lst c0)/\Oc Y c0 fs/\h0 o=wP (.lst l0)/\Ord J ns U fs l0.length,
    nx2 ns.length yP yP (nx4 ys ([]) _ ns rfl rfl (λc u _ e=>aa.upd g0 _ _ (b0 _ _ e)) (aa.upd g0 _ _ (b0 _ _ i0)) (aa.upd g0 _ _ t0) u0 ⟨la,N1⟩),?_⟩
   clear N1 u0 t0 b0 g0 t2 T0 M1;rintro m o0 h0;refine ec4 ?_;rintro V0 p0 c0 l0 fs U rfl rfl W0 P1 F0 G0 I0 d0;refine⟨_,rfl,_,_,rfl,.inl ⟨_,ia.of F0,rfl⟩,_,_,rfl,rfl,_,rfl,?_⟩;have u1:c0.length=fs.length:=qb G0;show if decide ((0:Int)<((c0.length:Nat):Int))=CP then _ else _
   have X0:aa H h0:=λc u e=>W0 c u (lb e n2) (n0 c u e)
   by_cases Y0:fs=[]
   ·rw[ma (by rw[u1,Y0];decide)];have ol:=d0.len;refine⟨_,rfl,_,_,rfl,.inl ⟨_,ia.of I0,rfl⟩,_,rfl,_,_,rfl,.inl ⟨_,X0.seq r0,rfl⟩,rfl,_,rfl,nc (λe=>?_) (λe=>?_)⟩
    ·exact⟨_,rfl,d2 o l0 h0 (n0.free O1) X0 I0⟩
    ·have z2:U≠[]:=λz=>e (zb (by rw[z,Yk]at ol;rw[I1];simp;simp_all))
     obtain⟨n,r1,k,A2⟩:=JM (E:=E1) z2 λx j0=>by
      have B2:x∈U.flatMap (Ma J):=Oh λz=>by
       have:=(d0.fm x).mpr ⟨j0,z⟩;rw[Y0]at this;cases this
      obtain⟨m,C2,D2⟩:=si.mp B2;exact⟨m,C2,(A0 _).mp (np.mp D2)⟩
     exact c2 n (d0.sub n r1) k A2 h0 X0
   ·have g3:0<fs.length:=ag.mpr Y0;rw[wa (zb (by simp_all))];have h3:0<U.length:=by
     obtain⟨x,j0⟩:=List.exists_mem_of_ne_nil _ Y0;exact List.length_pos_of_mem ((d0.fm x).mp j0).1
    refine⟨λQ1 H'=>∃(V0 p0:Option V)(c0 l0:List V)(fs L2:List Nk),Q1=[wP (.ref a),wP (.ref b),wP (.ref d),wP (.ref p),wP (.ref D),wP (.ref o),V0,p0]/\U.length-1=L2.length/\(∀c u,c≠p->Y c=wP u->H' c=wP u)/\H' p=wP (.dT (Ld ns (eb (L2.flatMap (Ma J)))))/\H' D=wP (.lst c0)/\Oc Y c0 fs/\H' o=wP (.lst l0)/\Ord J ns L2 fs l0.length,λQ1 H' h=>⟨U.length-1,by grind,h⟩,?_⟩;have k1:∀{c:BP}{xs:List V},Y c=wP (.tup xs)->h0 c=wP (.tup xs):=λe=>W0 _ _ (lb e i0) e
    have Z0:wf Y h0:=λc xs e=>k1 e
    refine⟨_,rfl,D,c0,fs,rfl,ia.of F0,We Z0 G0,λz=>by rw[z]at u1;simp at u1;simp_all,λv x E2 R1 j0 _=>?_⟩;refine ea7 ?_ (EC j0);rintro a1 F2 G2 H2;obtain⟨i3,I2⟩:=ze.mp E2;refine ea1 ?_ (Wb G0 I2);rintro O j3 S1;have J2:O=x:=JJ (lp Z0 S1) R1;subst J2;refine⟨_,rfl,Or.inl ⟨rfl,_,ia.of F0⟩,_,rfl,D,c0,fs,v,O,a1,rfl,rfl,F0,We Z0 G0,R1,F2,G2,λl3 T1 k3 K2=>?_⟩;have b1:o≠D:=oD;have N2:Oc Y (c0.eraseIdx a1) (fs.erase O):=by rw[<-H2];exact FC G0 a1
    refine⟨_,rfl,Or.inl ⟨rfl,_,ia.of (k3 _ _ b1 I0)⟩,_,rfl,o,l0,v,rfl,rfl,k3 _ _ b1 I0,by have:=d0.len;lia,λv1 O2 c1=>?_⟩;have d1:∀c u,c≠p->Y c=wP u->v1 c=wP u:=λc u m0 e=>c1 c u (lb e O1) (k3 c u (lb e C0) (W0 c u m0 e))
    have P2:v1 p=wP (.dT (Ld ns (eb (U.flatMap (Ma J))))):=c1 _ _ t1 (k3 _ _ D0 P1);have Q2:v1 D=wP (.lst (c0.eraseIdx a1)):=c1 _ _ (Dc b1) T1;clear T1 k3 K2 c1 P1 F0 I0 W0 k1 Z0 X0;obtain⟨w1,m3⟩:=(d0.fm O).mp j0;have S2:=d0.sub _ w1;have st:=d0.step l1 r2 j0;refine ea1 ?_ (Pl S1);rintro e1 rfl U1;have T2:e1≠p:=lb U1 i0;have U2:d≠p:=lb G1 i0;refine ec0 ?_ (Ix (α:=Nat) (λ_ _ z=>z.1) o2 S2);rintro n3 o3 V2 p3 f1 s0 W2 _ x1 V1;have W1:f1≠p:=lb x1 i0;have y1:=Mx l1 O;refine⟨_,rfl,_,rfl,d,.ref f1,rfl,.inr (nx1 P0 (kN O) e1 (.inr ⟨m2,d1 _ _ U2 G1⟩) rfl (d1 _ _ T2 U1) (by rw[V2,W2])),f1,rfl,⟨_,ia.of (d1 _ _ W1 x1)⟩,bf (K:=K) (a:=f1) (xs:=s0) (λi o0 e0=>∃(p0:Option V)(w0:List V),o0=[wP (.ref a),wP (.ref b),wP (.ref d),wP (.ref p),wP (.ref D),wP (.ref o),wP (.ref e1),p0]/\(∀c u,c≠p->Y c=wP u->e0 c=wP u)/\e0 p=wP (.dT (Ld ns (λy=>eb (U.flatMap (Ma J)) y-eb ((Ma J O).take i) y)))/\e0 D=wP (.lst w0)/\Oc Y w0 (fs.erase O++((Ma J O).take i).filter λy=>decide (eb (U.flatMap (Ma J)) y=1))/\e0 o=wP (.lst (l0++[.ref e1])))
     (nx10 p0 _ rfl d1 ?_ Q2 (by rw[List.take_zero,List.filter_nil,z1m];exact N2) O2) (by rintro i o0 e0 _⟨_,_,_,k5,_⟩;exact ia.of (k5 _ _ W1 x1)) ?_ ?_⟩
    ·rw[P2];refine Ub (λz=>wP (HO.dT (Ld ns z))) (funext λy=>?_);rw[List.take_zero];show _=_-((([]:List Nk).count y:Nat):Int);simp
    ·rintro i y o0 e0 p1;refine eb6 ?_;rintro X2 w0 rfl k5 J0 K0 x0 g1;refine ea1 ?_ (Wb V1 p1);rintro on h1 Y2;refine ea1 ?_ (Pl Y2);rintro L0 rfl M0;have z1:L0≠p:=lb M0 i0;have Z2:on∈Ma J O:=yb h1;have A1:on∈ns:=(z0 _ ((A0 _).mp (np.mp Z2))).2;have a3:eb ((Ma J O).take i) on=0:=pp.mpr λz=>by
      obtain⟨r3,B1⟩:=ze.mp z;have b3:=(Zb.mp B1).1;rw[Ae]at b3;rw[List.getElem?_take_of_lt (by lia)]at B1;have:=(Lp (by grind) y1).mp (B1.trans h1.symm);lia
     refine⟨_,rfl,_,rfl,p,.int (eb (U.flatMap (Ma J)) on-eb ((Ma J O).take i) on),rfl,.inr (nx1 _ (kN on) L0 (.inl J0) rfl (k5 _ _ z1 M0) ((qr (c:=λy=>eb (U.flatMap (Ma J)) y-eb ((Ma J O).take i) y) A1).symm)),_,_,rfl,rfl,_,.inr (nx6 _ (kN on) L0 J0 rfl (k5 _ _ z1 M0) (by unfold Ld;rw[pa];lia) rfl),?_⟩;rw[DC A1];have c3:(λm=>if m=on then eb (U.flatMap (Ma J)) on-eb ((Ma J O).take i) on-1 else eb (U.flatMap (Ma J)) m-eb ((Ma J O).take i) m)=λy=>eb (U.flatMap (Ma J)) y-eb ((Ma J O).take (i+1)) y:=by
      have a0:=Lx ((Ma J O).take i) on;rw[show(Ma J O).take i++[on]=(Ma J O).take (i+1)by rw[qc,h1];rfl]at a0;funext y;rw[<-a0];by_cases q:y=on
      ·subst q;simp only[if_true];simp_all
      ·simp only[ma q]
     rw[c3];have q0:∀c u,c≠p->e0 c=wP u->upd e0 p (.dT (Ld ns λy=>eb (U.flatMap (Ma J)) y-eb ((Ma J O).take (i+1)) y)) c=wP u:=λc u m0 e=>by rw[oa m0];exact e
     have i1:upd e0 p (.dT (Ld ns λy=>eb (U.flatMap (Ma J)) y-eb ((Ma J O).take (i+1)) y)) p=wP (.dT (Ld ns λy=>eb (U.flatMap (Ma J)) y-eb ((Ma J O).take (i+1)) y)):=la;generalize upd e0 p (.dT (Ld ns λy=>eb (U.flatMap (Ma J)) y-eb ((Ma J O).take (i+1)) y))=d3 at q0 i1;have C1:∀c u,c≠p->Y c=wP u->d3 c=wP u:=λc u m0 e=>q0 c u m0 (k5 c u m0 e)
     have v0:(Ma J O).take (i+1)=(Ma J O).take i++[on]:=by rw[qc,h1];rfl
     have e3:eb (U.flatMap (Ma J)) on-eb ((Ma J O).take (i+1)) on=eb (U.flatMap (Ma J)) on-1:=by
      have a0:=congrFun (Lx ((Ma J O).take i) on) on;simp only[if_true]at a0;rw[v0,<-a0,a3];lia
     refine⟨_,rfl,_,rfl,p,.int (eb (U.flatMap (Ma J)) on-eb ((Ma J O).take (i+1)) on),rfl,.inr (nx1 _ (kN on) L0 (.inl i1) rfl (C1 _ _ z1 M0) ((qr (c:=λy=>eb (U.flatMap (Ma J)) y-eb ((Ma J O).take (i+1)) y) A1).symm)),rfl,_,rfl,nc (λe=>?_) (λe=>?_)⟩
     ·have a0:eb (U.flatMap (Ma J)) on=1:=by
       have:=zc e;injection this with this;lia
      refine⟨_,rfl,Or.inl ⟨rfl,_,ia.of (q0 _ _ (Dc D0) K0)⟩,_,rfl,D,w0,.ref L0,rfl,rfl,q0 _ _ (Dc D0) K0,?_,λs3 f3 D1=>?_⟩
      ·have q1:=qb x0;rw[Ac]at q1;have q2:=Yj (λy=>decide (eb (U.flatMap (Ma J)) y=1)) ((Ma J O).take i);have q3:=Bh y1 λz hz=>(z0 _ ((A0 _).mp (np.mp hz))).2
       rw[Ae]at q2;have u3:=List.length_erase_le (a:=O) (l:=fs);have v3:=Bh d0.bn λz hz=>d0.sub z ((d0.fm z).mp hz).1
       lia
      ·refine nx10 _ _ rfl (λc u m0 X1=>D1 c u (lb X1 C0) (C1 c u m0 X1)) (D1 _ _ D0 i1) f3 ?_ (D1 _ _ b1 (q0 _ _ (Dc t1) g1));rw[v0,Yr,<-ke,show[on].filter (λy=>decide (eb (U.flatMap (Ma J)) y=1))=[on]by simp[a0]];exact ef x0 (.cons (yC M0) .nil)
     ·have a0:eb (U.flatMap (Ma J)) on≠1:=λq=>e (zb (by rw[e3,q];rfl))
      refine nx10 _ _ rfl C1 i1 (q0 _ _ (Dc D0) K0) ?_ (q0 _ _ (Dc t1) g1);rw[v0,Yr,show[on].filter (λy=>decide (eb (U.flatMap (Ma J)) y=1))=[]by simp[a0],z1m];exact x0
    ·rintro o0 e0;refine eb6 ?_;rintro X2 w0 rfl k5 J0 K0 x0 g1;rw[show s0.length=(Ma J O).length from qb V1,Ic]at J0 x0;refine nx8 _ _ (nx4 w0 _ _ (U.erase O) rfl (by rw[List.length_erase_of_mem w1]) k5 ?_ K0 x0 ⟨g1,by rw[Ac];exact st⟩);rw[J0];refine Ub (λz=>wP (HO.dT (Ld ns z))) (funext λy=>?_);have:=Nx l1 w1 y;have a0:eb (Ma J O) y=if y∈Ma J O then 1 else 0:=by
      unfold eb;by_cases h:y∈Ma J O
      ·rw[wa h,y1.count,wa h];rfl
      ·rw[ma h,List.count_eq_zero.mpr h];rfl
     rw[a0];lia
def XM(T:Tx K mg):T.gx.Ok P w base 1 RM:=by
 refine sb T.gx.F λH _ _ _ v1 h=>?_
 ·obtain⟨d,w1,W,L0,f0,st,v,rfl,x1,T1,U1,M0,V1,y1,S2,W1,ks⟩:=h;have Z0:=Ue v1;refine⟨_,(va (Ua 2 EG)
   (va (Ua 3 (kc (Fa (kc (La 1)))))
   (va (Ly Qc (wb Mv (vc Xd (by rfl) T.Kd Cd (La 3)) ka (rb _))
   (va (Ua 4 (kc Ad))
   (va (kd Qc rfl (bc (pv 3)) (Db 5)
   (va (Ua 6 (ht Z0 (pv 0) (Ea Ob (pv 5) (Em Fm ka)) (kc Ad) ⟨rfl,rfl,rfl,rfl⟩))
   (va (rc (wb (NJ (K:=K) (Jj v1.units) rfl) (pv 1) (pv 6) rfl)
   (ra (Sa (pv 5)))
   yc)
   (ra (kd Qc rfl (bc (pv 6)) (Db 7)
   (ra (rc (HE (zG Z0 (pv 7) (pv 2)))
   (va (Dz Z0 (pv 2) (pv 7) wh rfl)
   (ra (Qe (Ee Oe tj Aj Fj (pv 4) (Fa (Ca Do (pv 5) (kc (La 7))))))))
   yc)))))))
   (ra (Ua 3 (pv 4))))))
   (ra (Sa Pe))))),?_⟩
  show let X1:TS:=_;let Y1:TS:=ya _ X1;let Z1:TS:=ya _ Y1;ya _ Z1 _ _ _
  intros;intro U z1;have s1:=aa.upd (o:=HO.dT []) z1;refine⟨_,rfl,Qd,λa1 b1=>⟨Qd,λa2 A1=>?_⟩⟩;have l0:=aa.upd (o:=HO.lst [v]) b1;have g0:=aa.upd (o:=HO.lst [V.ref a1]) A1;have S:=s1.trans (l0.trans g0);refine⟨λm Y p0=>∃(h0:BP)(B1 x0 y0 m0:Option V)(n:Nat)(old n0 xs:List Nk)(b0:List V),Y=[wP (.ref d),wP v,wP (.ref U),wP (.ref h0),B1,x0,y0,m0]/\aa H p0/\p0 U=wP (.dT (ih n0))/\p0 h0=wP (.lst b0)/\Paired (CR f0 st n H p0) b0 xs/\Sr f0 L0 st old n0 xs/\(xs≠[]->42<=m+n0.length)/\n+m=42,
   nx13 42 a2 yP yP yP yP 0 ([]) ([]) (nx10 ([st]) ([.ref a1]) rfl S ((l0.trans g0) _ _ la) la (.cons (nx6 a1 ([v]) ([st]) rfl (s1.free b1) (g0 _ _ la) (.cons (He S y1) .nil) (.one)) .nil) ⟨⟨.nil,by(intros;simp_all),by simp_all,by(intros;simp_all),by(intros;simp_all),by(intros;simp_all)⟩,λ_=>xa _,rfl⟩),?_⟩
  clear S g0 l0 s1 b1 A1;rintro m Y p0;refine eb9 ?_;rintro h0 B1 x0 y0 m0 n old n0 xs b0 rfl l0 b2 N0 c1 S c2 nm;refine⟨_,rfl,_,_,rfl,.inl ⟨_,ia.of N0,rfl⟩,_,_,rfl,rfl,_,rfl,?_⟩;have C1:b0.length=xs.length:=qb c1;show if decide ((0:Int)<((b0.length:Nat):Int))=CP then _ else _
  by_cases d1:xs=[]
  ·subst d1;rw[ma (by rw[C1];decide)];exact W1 (λk=>S.nil) p0 l0
  have T2:0<xs.length:=ag.mpr d1;rw[wa (zb (by simp_all))];have U2:=Bh S.nd S.aD;have V2:=c2 d1;obtain⟨e1,rfl⟩:∃e1,m=e1+1:=⟨m-1,by lia⟩;refine⟨_,λW2 H' h=>⟨e1,Nat.lt_succ_self _,h⟩,?_⟩;refine⟨nb,λO O0=>?_⟩;have g0:=aa.upd (o:=HO.lst []) O0;have d2:H O=yP:=l0.free O0;have D1:V.ref O∉b0:=λz=>by
   obtain⟨xs,e⟩:=OM c1 z;rw[O0]at e;cases e
  have e2:h0≠O:=lb N0 O0;refine⟨_,rfl,h0,rfl,⟨_,ia.of (g0 _ _ N0)⟩,bf (K:=K) (a:=h0) (xs:=b0) (λi Y i0=>∃(x0 y0 m0:Option V)(c0:List V)(old j0 lo:List Nk),Y=[wP (.ref d),wP v,wP (.ref U),wP (.ref h0),wP (.ref O),x0,y0,m0]/\aa H i0/\i0 U=wP (.dT (ih j0))/\i0 h0=wP (.lst b0)/\Paired (CR f0 st n H i0) b0 xs/\i0 O=wP (.lst c0)/\Paired (CR f0 st (n+1) H i0) c0 lo/\V.ref O∉c0/\Sr f0 L0 st old j0 (xs.drop i++lo)/\j0.length=n0.length+lo.length)
   (nx2 x0 y0 m0 (nx16 ([]) old n0 ([]) rfl (l0.trans g0) (g0 _ _ b2) (g0 _ _ N0) (gy c1 g0) la (.nil) (by simp) ⟨by simpa using S,rfl⟩)) (by rintro i Y i0 _;refine ea5 ?_;rintro _ _ _;refine ea2 ?_;rintro _ _ _ _ _ _ _ h _;exact ia.of h) ?_ ?_⟩
  ·rintro i y Y i0 P0;refine ebE ?_;rintro f2 g2 h2 c0 old f1 lo rfl Q0 g1 E1 h1 i1 j1 F1 q0 G1;refine ebA ?_ (Wb h1 P0);rintro x i2 l R0 c rfl j2 l1 z0 H1;have l2:=P0;have m2:xs.drop i=x::xs.drop (i+1):=by
    obtain⟨n2,o2⟩:=Zb.mp i2;rw[ao n2,o2]
   rw[m2]at q0;have p2:x∈L0:=q0.NM x (by simp);refine ea6 ?_ H1.all;rintro r2 s2 ct t2;refine ea1 ?_ (Qw z0 s2);rintro X2 u2 v2;refine⟨_,rfl,d,rfl,.inr ⟨w1,.inl (Q0 _ _ x1)⟩,_,rfl,_,rfl,l,_,_,_,rfl,rfl,ia.of l1,LM (by rw[qb z0,r2];exact u2),nb,λY2 w2=>?_⟩;have d0:=aa.upd (o:=HO.lst []) w2;have r0:=Q0.trans d0;refine ea0 ?_ (T1.get p2);rintro ol S0 x2 I1 J1;refine ea1 ?_ (Pl v2);rintro y2 rfl z2;refine⟨_,.inr (nx1 w1 (kN x) y2 (.inl (r0 _ _ x1)) rfl (d0 _ _ z2) rfl),?_⟩;rw[x2];have m1:=r0 _ _ I1;have A2:ol≠O:=lb I1 d2;have K1:=We (dh r0) J1;refine⟨_,rfl,_,rfl,ol,S0,W x,st,rfl,ia.of m1,K1,He r0 y1,_,rfl,nc (λe=>?_) (λe=>?_)⟩
   ·exact⟨_,rfl,ks c l R0 _ (by unfold wn;rw[ct];exact t2 st ((M0 _ _).mp (zc e))) (by lia) j2 r0 (d0 _ _ l1) (We (dh d0) z0)⟩
   have B2:(x,st)∉f0:=λz=>e (zb ((M0 _ _).mpr z))
   refine⟨_,rfl,ol,rfl,⟨_,ia.of m1⟩,bf (K:=K) (a:=ol) (xs:=S0) (λj Y J=>∃(m0:Option V)(c0:List V)(j0 lo:List Nk),Y=[wP (.ref d),wP v,wP (.ref U),wP (.ref h0),wP (.ref O),wP (.ref l),wP (.ref ol),m0]/\aa H J/\J ol=wP (.lst S0)/\J U=wP (.dT (ih j0))/\J h0=wP (.lst b0)/\Paired (CR f0 st n H J) b0 xs/\J l=wP (.lst R0)/\Oc J R0 c/\J O=wP (.lst c0)/\Paired (CR f0 st (n+1) H J) c0 lo/\V.ref O∉c0/\Sr f0 L0 st old j0 (x::xs.drop (i+1)++lo)/\j0.length=n0.length+lo.length/\∀o∈(W x).take j,o∈j0)
    (nx16 _ c0 f1 lo rfl r0 m1 (d0 _ _ g1) (d0 _ _ E1) (gy h1 d0) (d0 _ _ l1) (We (dh d0) z0) ⟨d0 _ _ i1,gy j1 d0,F1,q0,G1,by simp⟩) (by rintro j Y J _⟨_,_,_,_,_,_,h,_⟩;exact ia.of h) ?_ ?_⟩
   ·rintro j y Y J P0;refine eb8 ?_;rintro C2 s0 a0 A0 rfl B0 n1 t0 T0 U0 V0 W0;refine eaD ?_;rintro o0 C0 D0 u0 o1 F0;refine ea1 ?_ (Wb (We (dh B0) J1) P0);rintro z L1 M1;have zE:(x,z)∈f0:=(M0 _ _).mp (yb L1);have N1:(W x).take (j+1)=(W x).take j++[z]:=by rw[qc,L1];rfl
    have D2:=Bh u0.nd u0.aD;have E2:=bD a0 z;refine ea1 ?_ (Pl M1);rintro p1 rfl O1;refine⟨_,rfl,_,rfl,U,_,rfl,.inr (nx1 _ (kN z) p1 (.inl t0) rfl O1 rfl),_,rfl,nc (λe=>?_) (λe=>?_)⟩
    ·have P1:z∉a0:=λq=>by
      simp_all
     have F2:(ih a0).length<DP:=by
      rw[PM];exact Xn (Nb D2 U1) (by decide)
     refine⟨_,rfl,_,rfl,U,_,rfl,kk.t (v:=.bl CP) t0 O1 F2,?_⟩;rw[QM P1];have Q1:∀b o,b≠U->J b=wP o->upd J U (.dT (ih (a0++[z]))) b=wP o:=λb o n e0=>by
      rw[oa n];exact e0
     have v0:∀b xs,J b=wP (.lst xs)->upd J U (.dT (ih (a0++[z]))) b=wP (.lst xs):=λb xs e0=>Q1 b _ (λq=>by simp_all) e0
     have G2:wf J (upd J U (.dT (ih (a0++[z])))):=pr t0 (λxs z=>by cases z) Q1;have R1:aa H (upd J U (.dT (ih (a0++[z])))):=B0.again z1;refine⟨_,rfl,.inl ⟨rfl,_,ia.of (v0 _ _ o0)⟩,_,rfl,_,rfl,Qd,λH2 I2=>?_⟩;have X0:=aa.upd (o:=HO.lst [V.ref p1]) I2;refine⟨l,H2,_,_,rfl,rfl,X0 _ _ (v0 _ _ V0),la,?_,λr1 Y0=>?_⟩
     ·rw[qb z0];exact Nb (show c.length+1<=60 by lia) (by decide)
     have sn:=aa.upd (o:=HO.lst (R0++[V.ref p1])) Y0;have w0:=X0.trans sn;have S1:r1≠O:=λq=>by rw[q,X0 _ _ (v0 _ _ o0)]at Y0;cases Y0
     have J2:s0.length<DP:=by
      rw[qb C0];exact Xn (show A0.length<=90 by lia) (by decide)
     refine⟨O,s0,_,rfl,rfl,w0 _ _ (v0 _ _ o0),J2,λt1 K2 G0=>?_⟩;have I0:wf J t1:=(G2.trans (dh w0)).trans (pr (w0 _ _ (v0 _ _ o0)) (λxs z=>by cases z) G0);have J0:∀b xs,b≠O->J b=wP (.lst xs)->t1 b=wP (.lst xs):=λb xs n e0=>G0 _ _ n (w0 _ _ (v0 _ _ e0))
     have N2:U≠O:=λq=>by simp_all
     have O2:aa H t1:=λb o e0=>G0 _ _ (λq=>by grind) (w0 _ _ (R1 _ _ e0))
     refine nx16 _ (s0++[.ref r1]) (a0++[z]) (A0++[z]) rfl O2 (J0 _ _ A2 n1) (G0 _ _ N2 (w0 _ _ la)) (J0 _ _ e2 T0) (fy I0 U0 λb xs u1 e0=>J0 b xs (λq=>D1 (q▸u1)) e0) (J0 _ _ (λq=>D1 (q▸yb l2)) V0) (We I0 W0) ⟨K2,?_,?_,?_,?_,?_⟩
     ·exact ef (fy I0 C0 λb xs u1 e0=>J0 b xs (λq=>D0 (q▸u1)) e0) (.cons (nx6 r1 _ _ rfl (R1.free (X0.free Y0)) (G0 _ _ S1 la) (ef (We I0 W0) (.cons (lp I0 M1) .nil)) (.snoc H1 zE)) .nil)
     ·intro q;rcases Xb.mp q with q|q
      ·exact D0 q
      ·exact S1 (V.ref.inj (Ce.mp q)).symm
     ·rw[<-ke];exact u0.add (V1 _ zE) P1
     ·simp only[Ac,List.length_singleton];lia
     ·rw[N1];exactλo K0=>Xb.mpr ((Xb.mp K0).imp (F0 o) id)
    ·have P2:z∈a0:=Oh λq=>e (by
      rw[E2,Wd q];rfl)
     exact nx16 _ s0 a0 A0 rfl B0 n1 t0 T0 U0 V0 W0 ⟨o0,C0,D0,u0,o1,by rw[N1];exactλo K0=>(Xb.mp K0).elim (F0 o) λq=>by rw[Ce.mp q];exact P2⟩
   ·rintro Y J;refine eb8 ?_;rintro C2 s0 a0 A0 rfl B0 n1 t0 T0 U0 V0 W0;refine eaD ?_;rintro o0 C0 D0 u0 o1 F0;rw[show S0.length=(W x).length from qb K1,Ic]at F0;exact nx2 _ _ _ (nx16 s0 _ a0 A0 rfl B0 t0 T0 U0 o0 C0 D0 ⟨u0.done B2 λo K0=>F0 o ((M0 _ _).mpr K0),o1⟩)
  ·rintro Y i0;refine ebE ?_;rintro f2 g2 h2 c0 old f1 lo rfl Q0 g1 E1 h1 i1 j1 F1 q0 G1;rw[C1,List.drop_length,List.nil_append]at q0;exact⟨_,rfl,O,_,_,_,_,n+1,old,f1,lo,c0,rfl,Q0,g1,i1,j1,q0,λQ2=>by have:=ag.mpr Q2;lia,by lia⟩
def YM(T:Tx K mg):T.lx.Ok P w base 2 (UM K):=by
 refine sb T.lx.F λH _ _ _ l0 h=>?_
 ·obtain⟨a,b,A0,S0,ns,c0,rfl,B0,p0,T0,Kb,U0,V0,W0,C0,X0,Y0⟩:=h;have G1:=Ue l0;refine⟨_,(va (Ua 2 (xb T.gu (dD T) l0 (na (pv 0) (La 1))))
   (va (Qo 3 ["node"] (by show(Tf _).Nodup;decide+kernel) ["behind"] [2] (bc (vc (iL (Jj l0.units)) (by rfl) T.ln cR (La 0))) (Jd 0) Df (xb T.gx (XM T) l0 (na (pv 1) (La 0))))
   (ra (Sa (aK (K:=K) rfl rfl rfl T.vC rfl T.Kd (Fa (vf ["found"] [] [] (bc (pv 3)) (Jd 0) (Um (wb Gm (pv 0) Pe (rb _))) (pv 0)))))))),?_⟩
  show let Z0:TS:=_;let a1:TS:=ya _ Z0;ya _ a1 _ _ _
  intros;refine⟨_,rfl,_,rfl,a,b,A0,S0,ns,c0,rfl,B0,p0,T0,Kb,U0,V0,W0,C0,λd b1 c1 d1 H1 s1 g0 I1 e1 bd=>?_⟩;have sz:DP=2^24:=rfl;refine⟨_,rfl,a,A0,ns,rfl,s1.seq B0,We (dh s1) p0,(by have:=qb p0;lia),λD0 ys L f1 F0 q0=>?_⟩;have G0:=aa.upd (o:=HO.lst ys) f1;have g1:ys.length=L.length:=qb F0;have J1:L.length=ns.length:=q0.length_eq;have m0:=la (H:=d1) (a:=D0) (o:=HO.lst ys);have I0:=s1.trans G0;refine⟨D0,rfl,⟨_,ia.of m0⟩,Vm (k:=1) (fs:=[wP (.ref d)]) ys.length (λD i rs d0=>rs.length=i/\V.ref D∉rs/\Paired (OR c0 H d0) rs (L.take i)) rfl (by lia) (λi d0 J hi=>(Ve (ia.of (J _ _ m0))).go i hi) (λd0 J=>(Ve (ia.of (J _ _ m0))).stop _ (xa _)) (λ_ i rs d0 p=>by simp_all) (λ_ _=>⟨rfl,by simp,.nil⟩) (λD i J0 rs h1 v i1 R e0 U J hi r0 y s0 _=>?_) λD J0 rs K1 J e0 U=>?_⟩
  ·obtain⟨t,rfl⟩:=Ke.mp r0;revert U;refine ea3 ?_;rintro K0 L0 h0;obtain⟨rfl,t0⟩:=y;refine ea1 ?_ (Wb F0 (t0 ys (ia.of (J _ _ m0))));rintro n n0 j1;have u0:=I0.trans J;have v0:=G0.trans J;have next:∀(y:V)(O:Hp),aa i1 O->OR c0 H O y n->y≠.ref D->R (wP y) [wP v,wP (.ref d)] O:=λy O Y l1 m1=>by
    have n1:=Y _ _ e0;have M0:wf O (upd O D (.lst (rs++[y]))):=pr n1 (λxs z=>by cases z) λb o n e=>by rw[oa n];exact e
    have N0:∀l xs,V.ref l≠V.ref D->O l=wP (.lst xs)->upd O D (.lst (rs++[y])) l=wP (.lst xs):=λl xs n e=>by rw[oa λz=>n (by rw[z])];exact e
    refine s0 y [_] O rfl Y ⟨by simp[K0],by grind,?_⟩;rw[qc,n0];refine ef (SM h0 λv n a0 z=>iy M0 (iy (dh Y) z λl xs _ e=>Y _ _ e) λl xs w0 e=>N0 l xs (λz=>L0 (by rw[<-z,<-w0];exact a0)) e) (.cons (iy M0 l1 λl xs w0 e=>N0 l xs (λz=>m1 (by rw[w0,z])) e) .nil)
   refine⟨_,rfl,_,rfl,d,b1,Ma c1,ns,c0,n,v,rfl,v0 _ _ g0,bd.fd.same v0,Kb,(λx y=>by rw[np,e1]),(λk o1=>(C0 k o1).2),He v0 j1,q0.mem_iff.mp (yb n0),λp1 O Y=>next .Pa O Y (.inl ⟨p1,rfl⟩) (λz=>by cases z),λc p b0 O g0 x0 U Y r1 t1=>next (.ref p) O Y (.inr (nx6 c p b0 g0 x0 rfl (u0.free U) ⟨r1,t1⟩)) (λz=>by simp_all)⟩
  ·revert U;refine ea3 ?_;rintro K0 L0 h0;rw[g1,Ic]at h0;have u0:=I0.trans J;refine⟨_,rfl,D,rfl,⟨_,ia.of e0⟩,Vm (k:=1) (fs:=[]) rs.length (λ_ i fs _=>fs.length<=i/\(∀v∈fs,cD c0 H J0 v)/\(fs=[]->∀n∈L.take i,∀k,¬Wk c0 (k+1) n n)) rfl (by lia) (λi d0 J hi=>(Ve (ia.of (J _ _ e0))).go i hi) (λd0 J=>(Ve (ia.of (J _ _ e0))).stop _ (xa _)) (λ_ _ _ _ p=>p.1) (λ_ _=>⟨xa _,by simp,by simp⟩) (λO0 i o0 fs h1 v L1 R P0 U f0 hi r0 y s0 u1=>?_) λO0 o0 fs M1 f0 P0 U=>?_⟩
   ·obtain⟨t,rfl⟩:=Ke.mp r0;revert U;refine ea3 ?_;rintro v1 i0 y0;obtain⟨rfl,t0⟩:=y;refine ea1 ?_ (Wb h0 (t0 rs (ia.of (f0 _ _ e0))));rintro n n0 w1;rcases w1 with⟨j0,rfl⟩|⟨c,l,b0,j0,z0,rfl,x1,y1,z1⟩
    ·refine⟨_,rfl,rfl,_,rfl,ud (u1 [_] _ rfl (aa.refl _) ⟨by lia,i0,λz m Q0=>?_⟩)⟩;rw[qc,n0]at Q0;rcases Xb.mp Q0 with q|q
     ·exact y0 z m q
     ·rw[Ce.mp q];exact j0
    ·exact⟨_,rfl,rfl,_,rfl,cf ⟨_,rfl,s0 _ [_] _ rfl (aa.refl _) ⟨by simp;lia,λv a0=>(Xb.mp a0).elim (i0 v) λz=>by rw[Ce.mp z];exact nx6 c l b0 j0 z0 rfl x1 ⟨y1,z1⟩,by simp⟩⟩⟩
   ·revert U;refine ea3 ?_;rintro v1 i0 y0;have R0:=u0.trans f0;obtain⟨ls,A1⟩:=TM (R:=yB K o0) (xs:=fs) λv a0=>by
     obtain⟨c,l,b0,_,_,e,_,x0,_⟩:=i0 v a0;exact nx7 _ l b0 e (ia.of (f0 _ _ x0)) rfl
    refine⟨O0,fs,ls,rfl,ia.of P0,A1,λv a0=>?_⟩;rcases a0 with⟨j0,rfl⟩|⟨i,n,g0,_⟩
    ·refine X0 (λn B1=>y0 j0 n ?_) o0 R0;rw[qb h0,Ic];exact q0.mem_iff.mpr B1
    ·obtain⟨c,l,b0,z0,C1,rfl,D1,E1,F1⟩:=i0 v (yb g0);exact Y0 c l b0 o0 z0 C1 D1 R0 (f0 _ _ E1) (We (dh f0) F1)
--@vb
def jy(J:Int->Int)(n t:Int)(l:List Int)(m:Int):Lj J n t (l++[m])=if m≠n/\J m<t then m else Lj J n t l:=by
 unfold Lj;rw[Ds];rfl
def ZM(T:Tx K mg):T.yx.Ok P w base 1 tM:=by
 refine sb T.yx.F λH _ _ _ g0 h=>?_
 ·obtain⟨a,e,o0,ms,h0,n,t,rfl,d0,i0,j0,q⟩:=h;have l0:=Ue g0;refine⟨_,(va (Ua 4 ka)
   (va (kd Qc rfl (bc (pv 0)) (Db 5)
   (ra (rc (PW.pt (zm (wb yo (pv 5) (pv 2) (rb _)) (ym (wb Kv (Sf l0 (pv 1) (pv 5)) (pv 3) (rb _)))))
   (ra (Ua 4 (pv 5)))
   yc)))
   (ra (Sa (pv 4))))),?_⟩
  show let m0:TS:=_;let n0:TS:=ya (qe _ _ (Ec _ _ _)) m0;ya _ n0 _ _ _
  intros;refine⟨_,rfl,a,rfl,⟨_,ia.of d0⟩,bf (K:=K) (a:=a) (xs:=ms.map V.int) (λi J O=>O=H/\∃x:Option V,J=[wP (.ref a),wP (.ref e),wP (.int n),wP (.int t),wP (.int (Lj h0 n t (ms.take i))),x]) ⟨rfl,yP,rfl⟩ (by rintro i J O _⟨z,_⟩;rw[z];exact ia.of d0) ?_ ?_⟩
  ·rintro i y J O e0⟨rfl,x,rfl⟩;rw[fb]at e0;refine ea1 ?_ (Jf.mp e0);rintro m em rfl;have Y:ms.take (i+1)=ms.take i++[m]:=by rw[qc,em];rfl
   refine⟨_,rfl,_,rfl,rfl,_,rfl,nc (λU=>?_) (λU=>?_)⟩
   ·have a0:m≠n:=λz=>by rw[z]at U;simp at U
    have f0:=Zd.k (k:=Sum.inl m) i0;rw[j0 m (yb em)]at f0;refine⟨_,rfl,_,rfl,e,_,rfl,f0,_,rfl,_,_,rfl,rfl,_,rfl,nc (λb0=>?_) (λb0=>?_)⟩
    ·have c0:=zc b0;refine⟨_,rfl,rfl,wP (.int m),?_⟩;rw[Y,jy,wa ⟨a0,c0⟩];rfl
    ·have c0:=λz=>b0 (zb z)
     refine⟨rfl,wP (.int m),?_⟩;rw[Y,jy,ma λz=>c0 z.2];rfl
   ·have a0:m=n:=by
     by_cases z:m=n
     ·exact z
     ·exact absurd (by rw[Wd (show¬V.int m=V.int n fromλw=>z (V.Na w))];rfl) U
    refine ud ⟨rfl,wP (.int m),?_⟩;rw[Y,jy,ma λz=>z.1 a0];rfl
  ·rintro J O⟨rfl,x,rfl⟩;rw[pa,Ic];exact⟨_,rfl,q⟩
def ky(n:Int):∀l:List Int,l.filterMap (λm=>if m≠n then wP (V.int m)else yP)=(l.filter λm=>decide (m≠n)).map V.int
 |[]=>rfl
 |x::r=>by
  rw[ri,List.filter_cons];by_cases e:x≠n
  ·rw[wa e,wa (zb e),ed,ky n r]
  ·rw[ma e,ma (by simpa using e),ky n r]
def aN{i:Int}{n:Nat}(J:0<=i)(O:i<n):DR i n=wP i.toNat:=by
 unfold DR;have:¬i<0:=by lia
 simp[this,J,O]
def bN(T:Tx K mg):T.zx.Ok P w base 2 yM:=by
 refine sb T.zx.F λ_ _ Q _ G0 h=>?_
 ·obtain⟨D,M,c,st,fd,a0,rfl,R0,u2,⟨W3,X3,H1,v2⟩,q⟩:=h;have I1:=Ue G0;refine⟨_,(va (Ua 3 (xb T.kr (ey T) G0 (na (pv 2) (Fa ka))))
   (va (Av (Ea Ob (pv 0) (Ca ec (Ea Ob (pv 3) ka) (vc Xd (by rfl) T.Kd Cd (La 0)))) (Rh rfl (Mc (Db 4) (Mc (Db 5) (Mc (Db 6) xh)))))
   (ra (rc (PW.pt (zm (wb re (Ca ec (Ea Ob (pv 3) ka) ka) ka (rb _)) (ym (wb (bK G0.units) (pv 1) Vv (rb _)))))
   (va (Ua 7 (Sf I1 (pv 1) (Ea Ob (vc (lA rfl) (by rfl) T.ln cR (La 1)) (Ca ec (Ea Ob (pv 3) ka) (vc MG (by rfl) T.Kd Cd (La 1))))))
   (ra (rc (wb Mv (vc Xd (by rfl) T.Kd Cd (La 7)) ka (rb _))
   (va (Ua 8 (Ee Oe F.slot_list_pop F.type_list_pop iG (pv 7) (Fa (Ca fg ka (Ca ec (Ea Ob (pv 3) ka) (Ca fk (vc Xd (by rfl) T.Kd Cd (La 7)) ka))))))
   (ra (Qe (Ee Oe F.slot_list_insert F.type_list_insert cK (pv 7) (na (Ca ec (Ea Ob (pv 3) ka) (Ca fg (vc Xd (by rfl) T.Kd Cd (La 7)) ka)) (La 8))))))
   yc)))
   (ra (rc (PW.pt (zm (wb (Ko G0.units) (pv 6) (kc Ad) (rb _)) (ym (wb (Ko G0.units) (Ea Ob (pv 6) (Ca ec (Ea Ob (pv 3) ka) (vc Xd (by rfl) T.Kd Cd (La 6)))) (kc Ad) (rb _)))))
   (va (Ua 9 (Ea Ob (pv 6) (Ca ec (Ea Ob (pv 3) ka) (vc Xd (by rfl) T.Kd Cd (La 6)))))
   (va (Ua 10 (Ea fc (Ea Ob (pv 9) (Ca ec (Ea Ob (pv 3) ka) (vc Xd (by rfl) T.Kd Cd (La 9)))) ka))
   (va (Ua 11 (Ca Do (kc (Fa ka)) (vf ["_law_maker"] ["_law_number"] [4] (bc (ht I1 (pv 1) (pv 10) (kc Ad) ⟨rfl,rfl,rfl,rfl⟩)) (Jd 0) (Um (wb yo (pv 0) (pv 1) (rb _))) (pv 0))))
   (Ot (rc (wb re (Ca ec (Ca Sh (Ea Ob (pv 3) ka) ka) ka) ka (rb _))
   (ra (Ua 11 (kc (Fa (Em Fm ka)))))
   yc)
   (ra (Av (Tc (na (pv 10) (Fa (Ea Ob (pv 11) (Ca ec (Ea Ob (pv 3) ka) (vc Xd (by rfl) T.Kd Cd (La 11))))))) (Ky (pv 9) (Ca ec (Ea Ob (pv 3) ka) (vc Xd (by rfl) T.Kd Cd (La 9))) nA)))))))
   yc)))))),?_⟩
  show let w2:TS:=_;let x2:TS:=ya _ w2;let y2:TS:=Ec _ x2 _;let z2:TS:=ya _ y2;let A2:TS:=_;let B2:TS:=Rq (Ec _ _ _) A2;let C2:TS:=ya _ B2;let D2:TS:=ya _ C2;let E2:TS:=ya _ D2;let F2:TS:=Ec _ z2 (Ec _ E2 _);let G2:TS:=ya _ F2;ya _ G2 _ _ _
  intros;refine⟨_,rfl,c,5,rfl,by decide,λxs n0 J1 s1 g0=>?_⟩;have q1:∀H' S0 T0,Rl H' D M (hh st c) S0 T0->(∀b o,b∉fd++a0->n0 b=wP o->H' b=wP o)->(∀b∈S0++T0,b∈fd++a0\/n0 b=yP)->Q .Pa H':=λH' S0 T0 a b c=>q H' S0 T0 a (λx o nx e=>b x o nx (s1 _ _ e)) λx H2=>(c x H2).imp id λz=>s1.free z
  obtain⟨dl,⟨f0,mk⟩,p0,i1⟩:=R0.same s1;have Y3:xs∉fd:=R0.kj.not J1;have I2:xs∉a0:=let⟨_,m⟩:=R0.makes;m.vals.not J1
  clear q R0;refine ea0 ?_ (JB dl);rintro j1 Z3 J2 l1 K1;have K2:0<st.1.length:=ag.mpr u2;have m1:j1.length=st.1.length:=by rw[K1.len,pa]
  refine eb5 ?_ (Kl (qa c 2) m1 K2);rintro hi a4 n1 N2;generalize O2:(qa c 2%(st.1.length:Int)).toNat=i at hi n1;have o1:st.1[i]?=wP (st.1.getD i zD):=df hi;generalize P2:st.1.getD i zD=d at o1;refine eaE ?_ (K1.focus (i:=i) (d:=Md d) (by rw[fb,o1];rfl));rintro x I0 b4 J0 ex Q2 S2 put;rw[n1]at ex;cases ex;refine ea2 ?_ (MC S2);rintro p L h0 T2 rfl U2 L1 U0 M1;have V2:Bd j1 (qa c (1+1)%(j1.length:Int))=wP (.ref p):=by rw[m1];exact N2
  have p1:h0.length=d.2.2.length:=by rw[M1.len,pa]
  obtain⟨c4,W2⟩:=v2 d (yb o1);refine⟨_,rfl,_,rfl,xs,_,_,_,rfl,rfl,ia.of g0,we c 5 1 (by decide) 1 rfl,_,rfl,_,_,rfl,.inl ⟨_,ia.of l1,rfl⟩,_,_,rfl,rfl,(by rw[m1];simp_all),D,_,_,_,rfl,rfl,ia.of l1,V2,p,_,rfl,Ba.of L1,rfl,_,_,rfl,_,_,rfl,_,_,rfl,rfl,?_⟩;have K0:=mk.len;dsimp only;refine Yq (b:=decide (qa c 1%4=0/\st.2≠[])) (λX2 k2=>?_) (λN1 i0=>nc (λe=>?_) (λe=>?_))
  ·refine⟨_,rfl,xs,_,_,_,rfl,rfl,ia.of g0,we c 5 0 (by decide) 0 rfl,_,_,rfl,rfl,(by show(0:Int)<4;decide),rfl,_,rfl,nc (λe=>?_) (λe=>?_)⟩
   ·have j0:qa c 1%4=0:=V.Na (zc e);refine⟨_,rfl,λr1 w0=>nx6 M r1 f0 rfl rfl (.inl (aa.upd w0 _ _ mk.dict)) (.inl la) ⟨_,rfl,?_⟩⟩;have:(!f0.isEmpty)=decide (qa c 1%4=0/\st.2≠[]):=by
     rw[Fn,Bs];cases f0 with
     |nil=>simp;intro _;exact el.mp K0.symm
     |cons a r=>
      simp[j0];intro z;rw[z]at K0;cases K0
    rw[this];exact k2 _ (aa.upd w0)
   ·have j0:¬qa c 1%4=0:=λz=>e (zb (show V.int (qa c (0+1)%4)=V.int 0 by rw[yj,z]))
    have:decide (qa c 1%4=0/\st.2≠[])=GP:=Wd λz=>j0 z.1
    rw[this]at k2;exact k2 _ (aa.refl _)
  ·obtain⟨j0,O1⟩:=zc e;have V0:=i0 _ _ g0;have q0:=mk.same i0;have Y2:0<st.2.length:=ag.mpr O1;have Z2:(Yc (st.2.map (·.1))).length=st.2.length:=by rw[(Ff _).length_eq,pa]
   obtain⟨P1,Q1⟩:=HB (ns:=Yc (st.2.map (·.1))) (qa c 3) Z2 Y2;have sp:hh st c=(st.1,kg st.2 ((Yc (st.2.map (·.1))).getD (qa c 3%(st.2.length:Int)).toNat 0) (jj c (Ia st.2 ((Yc (st.2.map (·.1))).getD (qa c 3%(st.2.length:Int)).toNat 0)))):=by
    unfold hh;dsimp only;rw[wa ⟨j0,O1⟩]
   rw[sp]at q1;generalize(Yc (st.2.map (·.1))).getD (qa c 3%(st.2.length:Int)).toNat 0=k at P1 Q1 q1;have l0:k∈st.2.map (·.1):=(Ff _).mem_iff.mp Q1;refine ea4 ?_ (q0.has l0);rintro a R1 S1 t1 L0 a3 b3;have u1:a∈a0:=by rw[a3];simp
   have c3:a∉fd:=λz=>(Ai.mp p0).2.2 a z a u1 rfl
   have d4:(Ia st.2 k).length<=30:=H1 _ (yb (lg l0));have d3:∀b∈R1++S1,b≠a:=λb J z=>by
    have v1:=(Ai.mp p0).2.1
    grind
   have e3:M≠a:=λz=>by rw[<-z,q0.dict]at L0;cases L0
   have fin:∀H':Hp,(∀b o,b≠a->N1 b=wP o->H' b=wP o)->H' a=wP (.lst ((jj c (Ia st.2 k)).map V.int))->Q .Pa H':=λH' kp h'=>by
    refine q1 H' fd a0 ⟨dl.fr λb J o O=>kp b o (λz=>c3 (z▸J)) (i0 _ _ O),⟨f0,b3 H' _ (kp _ _ e3 q0.dict) (λb J o O=>kp b o (d3 b J) O) h'⟩,p0,by rw[qp];exact i1⟩ (λb o o0 O=>kp b o (λz=>o0 (Ze _ (z▸u1))) (i0 _ _ O)) λb J=>.inl J
   have f3:xs≠a:=λz=>I2 (z▸u1)
   refine⟨_,rfl,_,rfl,M,f0,st.2.map (·.1),rfl,q0.dict,(by rw[q0.keys,Hc];rfl),(by rw[pa];lia),λT1 g3=>?_⟩;have e0:=aa.upd (o:=HO.lst ((Yc (st.2.map (·.1))).map V.int)) g3;have U1:=Zd.k (k:=Sum.inl k) (e0 _ _ q0.dict);rw[t1]at U1;refine⟨_,rfl,xs,_,_,_,rfl,rfl,ia.of (e0 _ _ V0),we c 5 2 (by decide) 2 rfl,_,rfl,M,f0,rfl,e0 _ _ q0.dict,_,_,rfl,rfl,(by rw[K0];simp_all),T1,_,_,_,rfl,rfl,ia.of la,(by rw[K0];exact P1),M,_,rfl,U1,?_⟩;have x0:=e0 _ _ L0;have y0:=e0 _ _ V0;generalize upd N1 T1 (HO.lst ((Yc (st.2.map (·.1))).map V.int))=W0 at e0 x0 y0;refine⟨_,rfl,_,_,rfl,.inl ⟨_,ia.of x0,rfl⟩,_,_,rfl,rfl,_,rfl,nc (λr0=>?_) (λr0=>?_)⟩
   ·have z0:(1:Int)<(((Ia st.2 k).map V.int).length:Int):=zc r0;rw[pa]at z0;generalize Ia st.2 k=ch at*;have e4:=Qh (qa c 4) (show((ch.length:Int)-1)≠0 by lia);have f4:=Ph (qa c 4) (show(0:Int)<(ch.length:Int)-1 by simp_all);have h3:ch[(1+qa c 4%((ch.length:Int)-1)).toNat]?=wP (ch.getD (1+qa c 4%((ch.length:Int)-1)).toNat 0):=df (by grind);refine⟨_,rfl,Or.inl ⟨rfl,_,ia.of x0⟩,_,rfl,xs,_,_,_,rfl,rfl,ia.of y0,we c 5 3 (by decide) 3 rfl,_,rfl,_,_,rfl,.inl ⟨_,ia.of x0,rfl⟩,_,_,rfl,rfl,_,_,rfl,rfl,(by rw[pa];show(0:Int)<(ch.length:Int)-1;lia),_,_,rfl,rfl,a,_,_,(1+qa c 4%((ch.length:Int)-1)).toNat,.int (ch.getD (1+qa c 4%((ch.length:Int)-1)).toNat 0),rfl,rfl,x0,(by rw[pa];show-(2^63)<=1+qa c 4%((ch.length:Int)-1);lia),(by rw[pa];show 1+qa c 4%((ch.length:Int)-1)<2^63;lia),(by rw[pa];exact aN (by show 0<=1+qa c 4%((ch.length:Int)-1);lia) (by show 1+qa c 4%((ch.length:Int)-1)<_;lia)),(by rw[fb,h3];rfl),?_⟩;rw[IB];have i3:jj c ch=(ch.eraseIdx (1+qa c 4%((ch.length:Int)-1)).toNat).take (qa c 5%(((ch.eraseIdx (1+qa c 4%((ch.length:Int)-1)).toNat).length:Int)+1)).toNat++ch.getD (1+qa c 4%((ch.length:Int)-1)).toNat 0::(ch.eraseIdx (1+qa c 4%((ch.length:Int)-1)).toNat).drop (qa c 5%(((ch.eraseIdx (1+qa c 4%((ch.length:Int)-1)).toNat).length:Int)+1)).toNat:=by
     unfold jj;rw[wa (by lia)]
    have g4:(ch.eraseIdx (1+qa c 4%((ch.length:Int)-1)).toNat).length<=ch.length:=List.length_eraseIdx_le _ _;generalize(1+qa c 4%((ch.length:Int)-1)).toNat=j at*;generalize ch.eraseIdx j=X0 at*;generalize ch.getD j 0=y at*;have j3:=Qh (qa c 5) (show((X0.length:Int)+1)≠0 by lia);have h4:=Ph (qa c 5) (show(0:Int)<(X0.length:Int)+1 by simp_all);refine⟨_,rfl,Or.inl ⟨rfl,_,ia.of la⟩,_,rfl,xs,_,_,_,rfl,rfl,ia.of (by rw[oa f3];exact y0),we c 5 4 (by decide) 4 rfl,_,rfl,_,_,rfl,.inl ⟨_,ia.of la,rfl⟩,_,_,rfl,rfl,_,_,rfl,rfl,(by rw[pa];show(0:Int)<(X0.length:Int)+1;lia),_,rfl,a,_,_,_,rfl,rfl,la,(by rw[pa];exact j3),(by rw[pa];show qa c 5%((X0.length:Int)+1)<=_;lia),(by rw[pa];have:DP=2^24:=rfl;lia),λH' h' Y0=>?_⟩;refine fin H' (λb o o0 O=>Y0 b o o0 (by rw[oa o0];exact e0 _ _ O)) ?_;rw[h',i3,pa,Le,ed,List.map_take,List.map_drop]
   ·have z0:¬(1:Int)<(((Ia st.2 k).map V.int).length:Int):=λz=>r0 (zb z)
    rw[pa]at z0;refine fin W0 (λb o _ O=>e0 _ _ O) ?_;rw[x0];unfold jj;rw[ma (by lia)]
  ·have l3:¬(qa c 1%4=0/\st.2≠[]):=λz=>e (zb z)
   have m3:hh st c=(if d.2.2≠[]/\d.2.2.getD (qa c 3%(d.2.2.length:Int)).toNat []≠[]then(st.1.set i (d.1,d.2.1,d.2.2.set (qa c 3%(d.2.2.length:Int)).toNat (rp st.2 c d.1 (d.2.2.getD (qa c 3%(d.2.2.length:Int)).toNat []))),st.2)else st):=by
    unfold hh;dsimp only;rw[ma l3,O2,P2]
   rw[m3]at q1;have V0:=i0 _ _ g0;have w1:=i0 _ _ U0;generalize n3:(qa c 3%(d.2.2.length:Int)).toNat=j at q1;have V1:d.2.2≠[]->∃U pv b0 A0 c0,h0[j]?=wP (.ref U)/\Bd h0 (qa c (2+1)%(h0.length:Int))=wP (.ref U)/\T2=b0++((U::A0)++c0)/\n0 U=wP (.lst pv)/\Ha n0 pv ((d.2.2.getD j []).map Jg) A0/\d.2.2.getD j []∈d.2.2/\
     ∀H' W1 d' X1,(∀b∈b0++c0,∀o,n0 b=wP o->H' b=wP o)->TF H' W1 d' X1->Ha H' (h0.set j W1) ((d.2.2.map yf).set j d') (b0++(X1++c0)):=λo3=>by
    have B0:0<d.2.2.length:=ag.mpr o3;refine eb5 ?_ (Kl (qa c 3) p1 B0);rintro Y1 v C0 M0;rw[n3]at Y1 C0;have D0:=df (d:=([]:Lk)) Y1;refine eaE ?_ (M1.focus (i:=j) (d:=yf (d.2.2.getD j [])) (by rw[fb,D0];rfl));rintro x b0 i4 c0 ex x1 p3 y1;rw[C0]at ex;cases ex;refine ea4 ?_ (wM p3);rintro U pv A0 rfl r3 m0 s0;exact nx14 U pv b0 A0 c0 C0 (by rw[p1];exact M0) (by rw[x1,r3]) m0 ⟨s0,yb D0,y1⟩
   have z1:d.2.2≠[]↔h0≠[]:=by rw[<-ag,<-ag,p1]
   refine Yq (b:=decide (d.2.2≠[]/\d.2.2.getD j []≠[])) (λX2 k2=>?_) (λW0 e0=>nc (λe=>?_) (λe=>?_))
   ·refine⟨_,rfl,nb,λr1 w0=>nx6 L r1 _ rfl rfl (ia.of (aa.upd w0 _ _ w1)) (ia.of la) ⟨_,rfl,nc (λe=>?_) (λe=>?_)⟩⟩
    ·have B0:h0≠[]:=λz=>by rw[z]at e;simp at e
     refine eb3 ?_ (V1 (z1.mpr B0));rintro U pv b0 A0 c0 C0 M0 _ m0 s0⟨_,_⟩;have N0:=aa.upd (o:=HO.lst []) w0;refine⟨_,rfl,_,rfl,xs,_,_,_,rfl,rfl,ia.of (N0 _ _ V0),we c 5 2 (by decide) 2 rfl,_,rfl,_,_,rfl,.inl ⟨_,ia.of (N0 _ _ w1),rfl⟩,_,_,rfl,rfl,(by have:=ag.mpr B0;simp_all),L,_,_,_,rfl,rfl,ia.of (N0 _ _ w1),M0,nb,λs3 Z1=>nx6 U s3 pv rfl rfl (ia.of (aa.upd Z1 _ _ (N0 _ _ (i0 _ _ m0)))) (ia.of la) ⟨_,rfl,?_⟩⟩;have:(!pv.isEmpty)=decide (d.2.2≠[]/\d.2.2.getD j []≠[]):=by
      have a2:=s0.len;rw[pa]at a2;rw[Fn,Bs];constructor
      ·grind
      ·rintro⟨_,z⟩;cases pv with
       |nil=>exact absurd (el.mp a2.symm) z
       |cons=>rfl
     rw[this];exact k2 _ (N0.trans (aa.upd Z1))
    ·have B0:h0=[]:=by
      cases h0 with
      |nil=>rfl
      |cons=>simp at e
     have:decide (d.2.2≠[]/\d.2.2.getD j []≠[])=GP:=Wd λz=>z1.mp z.1 B0
     rw[this]at k2;exact k2 _ (aa.upd w0)
   ·obtain⟨r0,z0⟩:=zc e;rw[wa ⟨r0,z0⟩]at q1;refine eb3 ?_ (V1 r0);rintro U pv b0 A0 c0 C0 M0 x1 m0 s0⟨u3,y1⟩;have d0:=i0.trans e0;have y0:=d0 _ _ g0;have F0:pv.length=(d.2.2.getD j []).length:=by rw[s0.len,pa]
    have A1:0<(d.2.2.getD j []).length:=ag.mpr z0;have v3:=W2 _ u3;unfold rp at q1;dsimp only at q1;generalize j4:d.2.2.getD j []=l at q1 s0 F0 A1 v3;refine eb5 ?_ (Kl (qa c 4) F0 A1);rintro b2 k4 c2 w3;generalize x3:(qa c 4%(l.length:Int)).toNat=t0 at q1 b2 c2;have d2:l[t0]?=wP (l.getD t0 (0,0)):=df b2;generalize l.getD t0 (0,0)=Y at q1 d2;refine eaE ?_ (s0.focus (i:=t0) (d:=Jg Y) (by rw[fb,d2];rfl));rintro x O0 l4 P0 ex y3 z3 A3;rw[c2]at ex;cases ex;refine ea7 ?_ (xM z3);rintro Q0 rfl B3 C3;have D3:Bd pv (qa c (3+1)%(pv.length:Int))=wP (.ref Q0):=by rw[F0];exact w3
    refine⟨_,rfl,_,rfl,xs,_,_,_,rfl,rfl,ia.of y0,we c 5 2 (by decide) 2 rfl,_,rfl,_,_,rfl,.inl ⟨_,ia.of (d0 _ _ U0),rfl⟩,_,_,rfl,rfl,(by have:=ag.mpr (z1.mp r0);lia),L,_,_,_,rfl,rfl,ia.of (d0 _ _ U0),M0,?_⟩;refine⟨_,rfl,_,rfl,xs,_,_,_,rfl,rfl,ia.of y0,we c 5 3 (by decide) 3 rfl,_,rfl,_,_,rfl,.inl ⟨_,ia.of (d0 _ _ m0),rfl⟩,_,_,rfl,rfl,(by rw[F0];lia),U,_,_,_,rfl,rfl,ia.of (d0 _ _ m0),D3,Q0,_,_,_,rfl,rfl,Ba.of (d0 _ _ C3),rfl,?_⟩;have Z0:=mk.same d0;refine⟨Qd,λe2 E3=>?_⟩;have a1:=aa.upd (o:=HO.lst [V.int 0]) E3;refine⟨_,rfl,M,rfl,.inl ⟨f0,.inl (a1 _ _ Z0.dict)⟩,_,rfl,nb,λD0 F3=>?_⟩;have b1:=aa.upd (o:=HO.lst []) F3;refine⟨_,Zd.k (k:=Sum.inl Y.1) (b1 _ _ (a1 _ _ Z0.dict)),?_⟩;have f2:∀k,(Ia st.2 k).length<=30:=λk=>by
     by_cases l0:k∈st.2.map (·.1)
     ·exact H1 _ (yb (lg l0))
     ·rw[ij l0];exact Tb _
    obtain⟨c1,G3,g2⟩:∃c1,(Oa f0 (Sum.inl Y.1)).getD (.ref D0)=.ref c1/\upd (upd W0 e2 (.lst [V.int 0])) D0 (.lst []) c1=wP (.lst ((Ia st.2 Y.1).map V.int)):=by
     by_cases l0:Y.1∈st.2.map (·.1)
     ·refine eb0 ?_ (Z0.has l0);rintro a R1 S1 t1 L0 _;exact⟨a,by rw[t1];rfl,b1 _ _ (a1 _ _ L0)⟩
     ·exact⟨D0,by rw[Z0.not l0];rfl,by rw[ij l0];exact la⟩
    refine⟨c1,G3,⟨_,ia.of g2⟩,SA (k:=1) (fs:=[wP (.int d.1)]) (Ia st.2 Y.1) PyData.int (λm=>if m≠d.1 then wP (.int m)else yP) rfl g2 (ib.ofInts _) (by have:=f2 Y.1;have:DP=2^24:=rfl;lia) (λm m4 h2 n4 v R B1 H3 tr I3=>?_) (λJ3 h2 o4 B1 i2=>?_)⟩
    ·cases tr;obtain⟨t,rfl⟩:=Ke.mp H3;have j2:=I3 [wP (.int m)] h2 rfl (aa.refl _);refine⟨_,rfl,_,rfl,rfl,_,rfl,nc (λe=>?_) (λe=>?_)⟩
     ·have K3:m≠d.1:=λz=>by rw[z]at e;simp at e
      rw[wa K3]at j2;exact⟨_,rfl,j2⟩
     grind
    rw[ky]at i2;have L3:=d0.trans (a1.trans (b1.trans B1));refine⟨e2,J3,_,_,rfl,rfl,B1 _ _ (b1 _ _ la),i2,(by rw[pa];have g0:=Yj (λm=>decide (m≠d.1)) (Ia st.2 Y.1);have:=f2 Y.1;have:DP=2^24:=rfl;show 1+_<=_;lia),λd1 M3=>?_⟩;have C1:=L3.trans (aa.upd (o:=HO.lst ([V.int 0]++((Ia st.2 Y.1).filter λm=>decide (m≠d.1)).map V.int)) M3);refine⟨λl2 D1=>∃d1,l2=[wP (.ref D),wP (.ref M),wP (.int c),wP (.ref xs),wP (.int d.1),wP (.str d.2.1),wP (.ref L),yP,yP,wP (.ref U),wP (.int Y.1),wP (.ref d1)]/\aa n0 D1/\D1 d1=wP (.lst ((mi st.2 c d.1 Y.1).map V.int)),?_,?_⟩
    ·refine⟨_,rfl,xs,_,_,_,rfl,rfl,ia.of (C1 _ _ g0),we c 5 0 (by decide) 0 rfl,_,_,rfl,rfl,⟨by decide,by decide⟩,_,_,rfl,rfl,(by show(0:Int)<12;decide),rfl,_,rfl,nc (λe=>?_) (λe=>?_)⟩
     ·have j0:qa c 1/4%12=0:=V.Na (zc e);refine⟨1,rfl,Qd,λN3 O3=>⟨N3,rfl,C1.trans (aa.upd O3),?_⟩⟩;rw[la];unfold mi;rw[wa j0];rfl
     ·have j0:¬qa c 1/4%12=0:=λz=>e (zb (show V.int (qa c (0+1)/4%12)=V.int 0 by rw[yj,z]))
      refine⟨d1,rfl,C1,?_⟩;rw[la];unfold mi;rw[ma j0];rfl
    ·rintro l2 D1⟨Q3,rfl,u0,E1⟩;have m2:0<(mi st.2 c d.1 Y.1).length:=by
      unfold mi;split
      ·exact Nat.zero_lt_one
      ·exact pj _
     generalize mi st.2 c d.1 Y.1=F1 at q1 E1 m2;obtain⟨R3,_⟩:=HB (ns:=F1) (qa c 5) rfl m2;refine⟨_,rfl,_,rfl,_,rfl,xs,_,_,_,rfl,rfl,ia.of (u0 _ _ g0),we c 5 4 (by decide) 4 rfl,_,rfl,_,_,rfl,.inl ⟨_,ia.of E1,rfl⟩,_,_,rfl,rfl,(by rw[pa];lia),Q3,_,_,_,rfl,rfl,ia.of E1,(by rw[pa];exact R3),Za,λtp e1=>?_⟩;generalize F1.getD (qa c 5%(F1.length:Int)).toNat 0=f1 at q1;have g1:=aa.upd (o:=HO.tup [V.int Y.1,V.int f1]) e1;refine⟨_,rfl,_,rfl,xs,_,_,_,rfl,rfl,ia.of (g1 _ _ (u0 _ _ g0)),we c 5 3 (by decide) 3 rfl,_,rfl,_,_,rfl,.inl ⟨_,ia.of (g1 _ _ (u0 _ _ m0)),rfl⟩,_,_,rfl,rfl,(by rw[F0];lia),U,pv,_,t0,rfl,rfl,g1 _ _ (u0 _ _ m0),(by rw[F0];have:=fK (n:=l.length) (qa c 4) A1;rw[x3]at this;exact this),λH' h' Y0=>?_⟩;have live:∀b∈fd++a0,∃o,n0 b=wP o:=λb J=>by
      rcases Xb.mp J with w|w
      ·rcases dl.live b w with⟨_,z⟩|⟨_,z⟩<;>exact⟨_,z⟩
      ·rcases mk.vals.live b w with⟨_,z⟩|⟨_,z⟩<;>exact⟨_,z⟩
     have h1:fd++a0=(D::(I0++p::L::(b0++U::O0)))++Q0::(P0++(c0++(J0++a0))):=by
      rw[J2,Q2,U2,x1,y3,B3];simp
     have n2:fd++a0=(D::(I0++p::L::b0))++([U]++(O0++Q0::(P0++(c0++(J0++a0))))):=by
      rw[h1];simp
     have o2:(D::(I0++((p::L::(b0++((U::(O0++([tp]++P0)))++c0)))++J0)))++a0=(D::(I0++p::L::(b0++U::O0)))++tp::(P0++(c0++(J0++a0))):=by simp
     have G1:tp∉fd++a0:=λz=>by
      obtain⟨o,S3⟩:=live tp z;rw[u0 _ _ S3]at e1;cases e1
     have v0:∀b,b∈(D::(I0++p::L::b0))++(O0++Q0::(P0++(c0++(J0++a0))))->b≠U:=λb J z=>by
      have v1:=p0;rw[n2]at v1;have:=(Xq.mp v1).2.2 U (Ce.mpr rfl);rw[z]at J;rcases Xb.mp J with w|w
      ·exact this.1 w
      ·exact this.2 w
     have keep:∀b o,b≠U->n0 b=wP o->H' b=wP o:=λb o o0 O=>Y0 b o o0 (g1 _ _ (u0 _ _ O))
     have p2:U∈fd++a0:=by rw[n2];simp
     have T3:tp≠U:=λz=>G1 (z▸p2)
     have t3:=A3 H' (.ref tp) (Jg (Y.1,f1)) [tp] (λb J o O=>keep b o (v0 b (by rcases Xb.mp J with w|w<;>simp[w])) O) (OC (Y0 tp _ T3 la));have r2:=y1 H' (.ref U) (yf (l.set t0 (Y.1,f1))) _ (λb J o O=>keep b o (v0 b (by rcases Xb.mp J with w|w<;>simp[w])) O) (TF.lst h' (by rw[Fi];exact t3));rw[Ha.bb C0]at r2;have s2:=put H' (.ref p) (Md (d.1,d.2.1,d.2.2.set j (l.set t0 (Y.1,f1)))) _ (λb J o O=>keep b o (v0 b (by rcases Xb.mp J with w|w<;>simp[w])) O) (NC (keep p _ (v0 p (by simp)) L1) (keep L _ (v0 L (by simp)) U0) (by rw[Fi];exact r2));rw[Ha.bb n1]at s2;have U3:=TF.lst (keep D _ (v0 D (by simp)) l1) s2;refine q1 H' _ a0 ⟨by rw[Fi];exact U3,⟨f0,keep M _ (λz=>by have t2:=mk.dict;rw[z,m0]at t2;cases t2) mk.dict,mk.keys,mk.vals.fr λb J o O=>keep b o (v0 b (by simp[J])) O⟩,?_,i1⟩ (λb o o0 O=>keep b o (λz=>o0 (z▸p2)) O) λb J=>?_
     ·rw[o2];rw[h1]at p0 G1;exact gK p0 λz=>G1 ((Xb.mp z).elim (λw=>qh _ w) λw=>Ze _ (rh _ w))
     ·rw[o2]at J;rcases Xb.mp J with w|w
      ·exact .inl (by rw[h1];exact qh _ w)
      ·rcases jb.mp w with w|w
       ·rw[w];exact .inr (u0.free e1)
       ·exact .inl (by rw[h1];exact Ze _ (rh _ w))
   ·have V3:¬(d.2.2≠[]/\d.2.2.getD j []≠[]):=λz=>e (zb z)
    rw[ma V3]at q1;have d0:=i0.trans e0;exact q1 W0 fd a0 ⟨dl.same d0,⟨f0,mk.same d0⟩,p0,i1⟩ (λb o _ O=>d0 _ _ O) λb J=>.inl J
--@vb
def cN(J:List Tk):(Xe J).length=J.length:=by unfold Xe;exact List.length_mergeSort _
def dN(J:List Int):((Xe (yd (Lb J))).map λt=>t.2.1).Nodup:=by
 have p:(Xe (yd (Lb J))).Perm (yd (Lb J)):=Nr _ _;refine((p.map λt=>t.2.1).nodup_iff).mpr ?_;unfold yd;rw[Hc];exact rg (λh=>by lia) (vr J)
def eN(O:(J.map λt=>t.2.1).Nodup)(h:t∈J):nn J t.2.1=t.1:=by
 unfold nn;induction J with
 |nil=>cases h
 |cons x r U=>
  obtain⟨Y,a0⟩:=Vc.mp (O);rw[sg];by_cases e:x.2.1=t.2.1
  ·rw[show(x.2.1==t.2.1)=CP from beq_iff_eq.mpr e];rcases jb.mp h with z|z
   ·rw[z];rfl
   ·exact absurd (Ya.mpr ⟨t,z,e.symm⟩) Y
  ·rw[show(x.2.1==t.2.1)=GP from rm.mpr e];rcases jb.mp h with z|z
   ·exact absurd (by rw[z]) e
   ·exact U a0 z
def fN(J:List Int):xg (J.map V.int) (wP 10) (wP 30)=((J.drop 10).take 20).map V.int:=by
 unfold xg;rw[show(10:Int)=((10:Nat):Int)from rfl,show(30:Int)=((30:Nat):Int)from rfl,HT.qd,HT.qd,pa,List.map_take,List.map_drop];by_cases h:J.length<=10
 ·rw[Mh (by rw[pa];simp_all),Mh (by rw[pa];exact h),List.take_nil,List.take_nil]
 ·rw[show min 10 J.length=10 by lia];by_cases O:J.length<=30
  ·rw[gl (by rw[dg,pa];simp_all),gl (by rw[dg,pa];simp_all)]
  ·rw[show min 30 J.length-10=20 by grind]
def md{α:Type}{l:List α}(h:l.Nodup)(hi:i<l.length)(J:j<l.length)(e:l[i]=l[j]):i=j:=by
 rcases Nat.lt_trichotomy i j with z|z|z
 ·exact absurd e (Tj.mp h i j hi J z)
 ·exact z
 ·exact absurd e.symm (Tj.mp h j i J hi z)
def ly(p:Int->Bool):∀l:List Int,l.filterMap (λk=>if p k=CP then wP (V.int k)else yP)=(l.filter p).map V.int
 |[]=>rfl
 |x::r=>by
  rw[ri,List.filter_cons];by_cases e:p x=CP
  ·rw[wa e,wa e,ed,ly p r]
  ·rw[ma e,ma e,ly p r]
def gN(ks:List Int)(b:Int):ks.filterMap (λk=>if xf b (ks.idxOf k)=CP then wP (V.int k)else yP)=(ur ks b).map V.int:=ly (λk=>xf b (ks.idxOf k)) ks
structure MS(H5 H3:Hp)(E M:BP)(hN:List (Key×V))(ms:List kb):Prop where
 ex:∃Ra fm,ki H3 M Ra ms fm/\fm.Nodup/\∀b∈fm,H5 b=yP
 keys:(ms.map (·.1)).Nodup
 ends:H3 E=wP (.dK hN)
 keep:∀b o,b≠E->b≠M->H5 b=wP o->H3 b=wP o
def MS.same(h:MS J O E M U ms)(s:aa O Y):MS J Y E M U ms:=
 ⟨by refine ea0 ?_ h.ex;rintro a0 b0 a b c;exact nx5 a0 b0 (a.same s) b c,h.keys,s _ _ h.ends,λb o c0 d0 e=>s _ _ (h.keep b o c0 d0 e)⟩
def MS.old(h:MS J O E M Y ms)(e:O b=yP):J b=yP:=by
 obtain⟨a0,b0,mk,_,_⟩:=h.ex;cases U:J b with
 |none=>rfl
 |some o=>
  have:=h.keep b o (lb e h.ends) (lb e mk.dict) U
  grind
def MS.my(h:MS U Y E M e0 ms)(n:M≠E)(J:List (Key×V)):MS U (upd Y E (.dK J)) E M J ms:=by
 obtain⟨a0,b0,mk,b,c⟩:=h.ex;refine⟨nx5 a0 b0 ⟨by rw[oa n];exact mk.dict,mk.keys,mk.vals.fr λx c0 o e=>?_⟩ b c,h.keys,la,λx o O d0 e=>by rw[oa O];exact h.keep x o O d0 e⟩;rw[oa (show x≠E fromλz=>?_)]
 ·exact e
 ·rcases mk.vals.live x c0 with⟨_,w⟩|⟨_,w⟩<;>rw[z,h.ends]at w<;>cases w
def iN(T:Tx K mg):T.Ax.Ok P w base 3 (zM K):=by
 refine sb T.Ax.F λH _ _ E C0 h=>?_
 ·obtain⟨a,U,rfl,A2,q6,q⟩:=h;have B2:=Ue C0;refine⟨_,(va (Ua 1 (xb T.vx (FM T) C0 (Fa (xb T.Ol (vp T) C0 (na (pv 0) (Fa ka))))))
   (va (Ua 2 (xb T.xx (IM T) C0 (La 0)))
   (va (Ua 3 Vv)
   (va (Ua 4 Vv)
   (va (kd Qc rfl (bc (vc (wL (Jj C0.units)) (by rfl) T.ln cR (Fa (vf ["_law_one"] [] [] (bc (pv 2)) (Jd 0) Df (Tc (na (Ea (Ef (K:=K) rfl) (pv 0) ka) (na (Ea (Ef (K:=K) rfl) (pv 0) ka) (Fa (Ea (Ef (K:=K) rfl) (pv 0) ka))))))))) (Rh rfl (Mc (Db 5) (Mc (Db 6) (Mc (Db 7) xh))))
   (va (Dz B2 (pv 3) (pv 6) (pv 5) rfl)
   (ra (kd Qc rfl (yl rfl T.Bk (Fa (vc Xd (by rfl) T.Kd Cd (La 1)))) (Db 8)
   (ra (rc (wb re (Ca Jv (Ca Iv (pv 7) (pv 8)) ka) ka (rb _))
   (ra (Qe (Ee Oe tj Aj Fj (PH (pv 4) (Ea Ob (pv 1) (pv 8)) (kc Ad) ⟨rfl,rfl,rfl,rfl⟩) (La 6))))
   yc))))))
   (va (Ua 9 (kc Ad))
   (va (kd Qc rfl (bc (pv 2)) (Rh rfl (Mc (Db 6) (Mc (Db 10) (Mc (Db 5) (Mc (Db 11) (Mc (Db 12) (Mc (Db 7) xh)))))))
   (va (Ua 13 (kc Ad))
   (va (kd Qc rfl (yl rfl T.Bk (Fa (vc Xd (by rfl) T.Kd Cd (La 11)))) (Db 14)
   (va (Qo 15 ["_law_key"] (by show(Tf _).Nodup;decide+kernel) ["_law_keys_here","_law_bits","_law_j"] [1,12,14] (bc (pv 1)) (Jd 0) (Um (wb re (Ca Jv (Ca Iv (Ea (Lq (K:=K) rfl) (pv 2) (pv 3)) (cJ (K:=K) rfl Oe F.slot_list_index F.type_list_index (BB (K:=K) (Jj C0.units) rfl) (pv 1) (La 0))) ka) ka (rb _))) (pv 0))
   (ra (Qe (Ee Oe tj Aj Fj (pv 13) (Fa (vf ["_law_key"] ["_law_ends","_law_makes","_law_number","_law_times_here","_law_j"] [3,4,6,11,14] (bc (pv 15)) (Jd 0) Df (Tc (na (pv 0) (Fa (xb T.yx (ZM T) C0 (na (ht B2 (pv 2) (pv 0) (kc Ad) ⟨rfl,rfl,rfl,rfl⟩) (na (pv 1) (na (pv 3) (Fa (Ea (Lq (K:=K) rfl) (pv 4) (pv 5)))))))))))))))))
   (ra (Qe (Ee Oe tj Aj Fj (pv 9) (Fa (Tc (na (pv 6) (na (pv 10) (La 13)))))))))))
   (va (kd Qc rfl (bc (zh Ao (pv 0) (Wg ka) (Wg ka))) (Db 16)
   (ra (rc (PW.pt (zm (wb re (Ca ec (pv 16) ka) ka (rb _)) (ym (wb (Ko C0.units) (pv 9) (kc Ad) (rb _)))))
   (ra (Qe (xb T.zx (bN T) C0 (na (pv 9) (na (pv 4) (Fa (Ca Sh (pv 16) ka)))))))
   yc)))
   (ra (Sa (Tc (na (pv 9) (Fa (vf ["_law_key"] ["_law_makes"] [4] (bc (vc (lA rfl) (by rfl) T.ln cR (La 4))) (Jd 0) Df (Tc (na (pv 0) (Fa (Sf B2 (pv 1) (pv 0))))))))))))))))))),?_⟩
  show let q4:TS:=_;let r4:TS:=ya (qe _ _ (Ec _ _ _)) q4;let s4:TS:=_;let t4:TS:=_;let u4:TS:=ya _ t4;let v4:TS:=ya (qe _ _ u4) s4;let w4:TS:=ya _ v4;let x4:TS:=ya (qe _ _ w4) r4;let y4:TS:=ya _ x4;let z4:TS:=qe _ _ (Ec _ _ _);let A4:TS:=ya _ z4;let B4:TS:=ya (qe _ _ A4) y4;let C4:TS:=ya _ B4;let D4:TS:=ya _ C4;let E4:TS:=ya _ D4;ya _ E4 _ _ _
  intros;have sz:DP=2^24:=rfl;refine⟨_,rfl,a,U,1,rfl,A2,by decide,ce U 1,rfl,λkp r6 l3 s1 D0=>?_⟩;have C2:=ay (ce U 1);generalize F4:Ck (ce U 1)=ks at D0 C2;refine⟨_,rfl,a,U,rfl,s1.seq A2,λQ0 m3 Z1 s6 w1 n3 o3=>?_⟩;refineλE D2=>λM a2=>?_
  have R0:=aa.upd (o:=HO.dK []) D2;have x1:=aa.upd (o:=HO.dK []) a2;have E2:M≠E:=lb a2 la;have p3:=s1.trans (w1.trans (R0.trans x1));have y1:upd (upd Z1 E (.dK [])) M (.dK []) E=wP (.dK []):=by rw[oa E2.symm];exact la
  have z1:=la (H:=upd Z1 E (.dK [])) (a:=M) (o:=HO.dK []);have S0:=x1 _ _ (R0 _ _ (w1 _ _ D0));have F2:=x1 _ _ (R0 _ _ n3);have r3:=(cy o3).same (R0.trans x1);have t6:H E=yP:=(s1.trans w1).free D2;have u6:H M=yP:=(s1.trans (w1.trans R0)).free a2;generalize upd (upd Z1 E (.dK [])) M (.dK [])=v6 at R0 x1 p3 y1 z1 S0 F2 r3;have G4:=Iu U;have H4:∀d∈Lb U,_:=λd s3=>Hu s3
  have G2:=dN U;have u3:Lg U=((Lb U).map (vn ks (de ks (Xe (yd (Lb U)))) (nn (Xe (yd (Lb U))))),de ks (Xe (yd (Lb U)))):=by unfold Lg;dsimp only;rw[F4]
  have I4:=WC U;have J4:(Xe (yd (Lb U))).length<=8:=by rw[cN];unfold yd;rw[pa];exact G4
  generalize K4:Xe (yd (Lb U))=w6 at G2 u3 J4;refine⟨_,rfl,Q0,rfl,⟨_,ia.of F2⟩,bJ (k:=1) (fs:=[]) (Lb U) Ju (λd=>wP (wr (d.fin,d.num,d.mn))) rfl F2 r3 (by lia) (λd s3 K1 H2 v R h0 g1 tr A1 _=>?_) (λC K1 ys x6 I2 L4 T0=>?_)⟩
  ·obtain⟨t,rfl⟩:=Ke.mp g1;refine ea4 ?_ (XC tr);rintro p t' b rfl F0 _ _;exact⟨_,rfl,p,_,_,_,rfl,rfl,Ba.of F0,rfl,_,rfl,p,_,_,_,rfl,rfl,Ba.of F0,rfl,_,rfl,p,_,_,_,rfl,rfl,Ba.of F0,rfl,Lf,λn v3=>A1 _ _ [_] _ rfl rfl (aa.upd v3) (Tr.tup (Sq v3 la) (.cons (.int _) (.cons (.int _) (.cons (.int _) .nil))))⟩
  have pt:Paired (Jl K1) ys (yd (Lb U)):=by
   have e:(Lb U).filterMap (λd=>wP (wr (d.fin,d.num,d.mn)))=(yd (Lb U)).map wr:=by
    rw[Ek];unfold yd;rw[Hc];rfl
   rw[e]at T0;exact YC (T0.same λb o O=>(Gj O).2)
  refine nx6 C ys _ rfl (ia.of L4) pt (by rw[qb pt];unfold yd;rw[pa];lia) ⟨VC U,λh1 i1 f0 b2 w3 M4 N4=>?_⟩;have x3:=vM (VC U) M4 N4;rw[K4]at x3;subst x3;have v0:=I2.trans (aa.upd (o:=HO.lst i1) b2);have J2:=la (H:=K1) (a:=h1) (o:=HO.lst i1);have c2:Paired (Jl (upd K1 h1 (.lst i1))) i1 f0:=Paired.Ib w3 λv t⟨p,e,z⟩=>⟨p,e,aa.upd b2 _ _ z⟩
  have O4:h1≠E:=lb b2 (I2 _ _ y1);have P4:h1≠M:=lb b2 (I2 _ _ z1);generalize upd K1 h1 (.lst i1)=K2 at v0 J2 c2;refine⟨h1,rfl,⟨_,ia.of J2⟩,bf (K:=K) (a:=h1) (xs:=i1) (λi Y q0=>∃(r0 s0 t0 e0:Option V)(u0:List (Key×V)),Y=[wP (.ref a),wP (.ref kp),wP (.ref Q0),wP (.ref E),wP (.ref M),r0,s0,t0,e0,yP,yP,yP,yP,yP,yP,yP,yP]/\
   MS K2 q0 E M u0 (de ks (f0.take i))/\u0.length<=i/\∀t∈f0.take i,Oa u0 (Sum.inl t.2.1)=wP (.int t.1)) (nx21 yP yP yP yP ([]) rfl ⟨nx5 ([]) ([]) ⟨v0 _ _ z1,rfl,.nil⟩ (.nil) (λb J=>by cases J),.nil,v0 _ _ y1,λb o _ _ e=>e⟩ ⟨xa _,λt T0=>by cases T0⟩) (by rintro i Y q0 _⟨_,_,_,_,_,_,m,_⟩;exact ia.of (m.keep _ _ O4 P4 J2)) ?_ ?_⟩
  ·rintro i y Y q0 B1;refine ebD ?_;rintro r0 s0 t0 e0 u0 rfl ms Q4 L1;refine ec7 ?_ (Wb c2 B1);rintro t d2 p rfl F0;have R4:p≠E:=lb F0 (v0 _ _ y1);have S4:p≠M:=lb F0 (v0 _ _ z1);have T4:f0.take (i+1)=f0.take i++[t]:=by rw[qc,d2];rfl
   have U4:i<8:=by have:=(Zb.mp d2).1;lia
   refine nx11 p _ rfl (Ba.of (ms.keep _ _ R4 S4 F0)) rfl _ _ rfl _ _ rfl (nx5 _ _ rfl rfl ⟨_,rfl,_,rfl,_,rfl,E,_,rfl,kk.k (k:=Sum.inl t.2.1) ms.ends (by lia),?_⟩);have N2:=ms.my E2 (lc u0 (Sum.inl t.2.1) (.int t.1));have y3:=ms.keep _ _ (lb S0 y1) (lb S0 z1) (v0 _ _ S0);have z3:kp≠E:=lb S0 y1;have A3:kp≠M:=lb S0 z1;generalize upd q0 E (.dK (lc u0 (Sum.inl t.2.1) (.int t.1)))=y6 at N2;have l3:=N2.keep _ _ z3 A3 (v0 _ _ S0);refine⟨_,rfl,_,_,rfl,.inl ⟨_,ia.of l3,rfl⟩,_,rfl,(by rw[pa];simp_all),(by rw[pa];lia),?_⟩;rw[Kf,pa];refine wo (λm Y c0=>∃e0:Option V,Y=[wP (.ref a),wP (.ref kp),wP (.ref Q0),wP (.ref E),wP (.ref M),wP (.int t.1),wP (.int t.2.1),wP (.int t.2.2),e0,yP,yP,yP,yP,yP,yP,yP,yP]/\MS K2 c0 E M (lc u0 (Sum.inl t.2.1) (.int t.1)) (ie ks t.2.1 t.2.2 (de ks (f0.take i)) m)) ⟨e0,rfl,N2⟩ ?_ ?_
   ·rintro m Y c0 e2;refine ea1 ?_;rintro e0 rfl G0;have B3:=Ux (ks:=ks) (n:=t.2.1) (made:=t.2.2) (Vx C2 f0 i) m;have C3:(0+(m:Int)).toNat=m:=by simp_all
    refine⟨_,rfl,_,rfl,_,_,rfl,rfl,(by show(0:Int)<=0+(m:Int);simp_all),_,_,rfl,rfl,rfl,_,rfl,nc (λe=>?_) (λe=>?_)⟩
    ·have O:xf t.2.2 m=CP:=by
      have D0:=zc e;rw[C3]at D0;unfold xf;exact zb (V.Na D0)
     have em:ie ks t.2.1 t.2.2 (de ks (f0.take i)) (m+1)=Kg (ie ks t.2.1 t.2.2 (de ks (f0.take i)) m) (ks.getD m 0) t.2.1:=by
      show(if xf t.2.2 m=CP then _ else _)=_;rw[wa O]
     rw[em];generalize ie ks t.2.1 t.2.2 (de ks (f0.take i)) m=i0 at G0 B3;have D3:Bd (ks.map V.int) (0+(m:Int))=wP (.int (ks.getD m 0)):=by
      rw[am];exact Pf (by rw[fb,My.df (d:=0) e2];rfl)
     generalize ks.getD m 0=C1 at D3;refine ea0 ?_ G0.ex;rintro I0 j0 mk D1 M1;refine⟨_,rfl,M,rfl,.inl ⟨I0,.inl mk.dict⟩,_,rfl,_,rfl,kp,_,_,_,rfl,rfl,ia.of (G0.keep _ _ z3 A3 (v0 _ _ S0)),D3,nb,λm0 N1=>?_⟩;have sn:=aa.upd (o:=HO.lst []) N1;have mk':=mk.same sn;have U0:=G0.same sn;have E3:K2 m0=yP:=G0.old N1;have F3:=la (H:=c0) (a:=m0) (o:=HO.lst []);have V4:m0≠E:=lb N1 G0.ends;have G3:m0≠M:=lb N1 mk.dict;have H3:m0∉j0:=mk.vals.not N1;generalize upd c0 m0 (.lst [])=J0 at sn mk' U0 F3;refine nx19 I0 (Sum.inl C1) mk'.dict rfl (by rw[mk'.len];lia) (λv V0=>?_) λV0=>?_
     ·by_cases n0:C1∈i0.map (·.1)
      ·refine ea4 ?_ (mk'.has n0);rintro d0 O2 w0 K0 W0 f2 W4;rw[K0]at V0;cases V0;have X4:d0≠M:=lb W0 mk'.dict;have Y4:d0≠E:=lb W0 U0.ends;have Z4:d0∈j0:=by rw[f2];simp
       refine⟨Or.inl ⟨rfl,_,ia.of W0⟩,_,rfl,d0,_,_,rfl,rfl,W0,(by rw[pa];have:=Sx (k:=C1) B3.2;lia),λb0 L0 x0=>?_⟩;refine⟨_,rfl,nx5 I0 j0 ?_ D1 M1,Qx _ _ U0.keys,x0 _ _ Y4.symm U0.ends,λb o O1 E1 O=>x0 b o (λz=>by rw[z]at O;rw[M1 d0 Z4]at O;cases O) (U0.keep b o O1 E1 O)⟩;unfold Kg;rw[wa n0];refine W4 b0 _ (x0 _ _ X4.symm mk'.dict) (λb J o O=>x0 b o (λz=>?_) O) (by rw[L0,Le];rfl);rw[f2]at D1;have:=(Xq.mp D1).2.2 d0 (Ce.mpr rfl);rw[z]at J;rcases Xb.mp J with w|w
       ·exact this.1 w
       ·exact this.2 w
      ·rw[mk'.not n0]at V0;cases V0
     ·have n0:C1∉i0.map (·.1):=λn0=>by
       obtain⟨d0,O2,w0,K0,_⟩:=mk'.has n0;rw[K0]at V0;cases V0
      rw[LC V0];have I3:upd J0 M (.dK (I0++[(Sum.inl C1,V.ref m0)])) m0=wP (.lst []):=by rw[oa G3];exact F3
      refine⟨Or.inl ⟨rfl,_,ia.of I3⟩,_,rfl,m0,_,_,rfl,rfl,I3,kq,λb0 L0 x0=>?_⟩;have P2:∀b o,b≠m0->b≠M->J0 b=wP o->b0 b=wP o:=λb o O1 E1 O=>x0 b o O1 (by rw[oa E1];exact O)
      refine⟨_,rfl,nx5 (I0++[(Sum.inl C1,V.ref m0)]) (j0++[m0]) ⟨x0 _ _ G3.symm la,?_,?_⟩ (Hj.mpr ⟨D1,Vc.mpr ⟨(λz=>by cases z),.nil⟩,λx l0=>by rw[Ce.mp l0];exact H3⟩) λb J=>?_,Qx _ _ U0.keys,P2 _ _ V4.symm E2.symm U0.ends,λb o O1 E1 O=>P2 b o (lb O E3) E1 (U0.keep b o O1 E1 O)⟩
      ·unfold Kg;rw[ma n0,Le,Le,mk'.keys];rfl
      ·unfold Kg;rw[ma n0,Le,Le];refine(mk'.vals.fr λb J o O=>P2 b o (λz=>H3 (z▸J)) (λz=>?_) O).app (Ha.one (TF.lst L0 (Ha.ints [t.2.1])));rw[z,mk'.dict]at O;rcases mk'.vals.live b J with⟨_,w⟩|⟨_,w⟩<;>rw[z,mk'.dict]at w<;>cases w
      ·rcases Xb.mp J with w|w
       ·exact M1 b w
       ·rw[Ce.mp w];exact E3
    ·have O:¬xf t.2.2 m=CP:=λz=>e (by
      unfold xf at z;rw[C3];exact zb (Ub V.int (zc z)))
     refine⟨_,rfl,?_⟩;show MS _ _ _ _ _ (if xf t.2.2 m=CP then _ else _);rw[ma O];exact G0
   ·rintro Y c0;refine ea1 ?_;rintro e0 rfl G0;refine nx21 _ _ _ _ (lc u0 (Sum.inl t.2.1) (.int t.1)) rfl ?_ ⟨?_,?_⟩
    ·rw[Wx d2];exact G0
    ·exact Nb (Eo _ _ _) (by simp_all)
    ·intro t' J3;rw[mG];rw[T4]at J3;rcases Xb.mp J3 with w|w
     ·have Q2:¬(Sum.inl t'.2.1:Key)=Sum.inl t.2.1:=λz=>by
       have a5:t'.2.1=t.2.1:=Sum.inl.inj z;obtain⟨b5,c5,K3⟩:=List.mem_iff_getElem.mp w;rw[Ae]at c5;rw[Pp]at K3;have d5:=(Zb.mp d2);obtain⟨S2,T2⟩:=d5;have L3:=Tj.mp G2 b5 i (by rw[pa];grind) (by rw[pa];exact S2) (by grind);rw[List.getElem_map,List.getElem_map,K3,T2]at L3;exact L3 a5
      rw[ma Q2];exact L1 t' w
     ·rw[Ce.mp w,wa rfl]
  ·rintro Y q0;refine ebD ?_;rintro r0 s0 t0 e0 u0 rfl ms Q4 L1;have e5:i1.length=f0.length:=qb c2;rw[e5,Ic]at ms L1;have g2:aa Z1 q0:=λb o O=>ms.keep b o (lb O D2) (lb O (R0.free a2)) (v0 _ _ (x1 _ _ (R0 _ _ O)))
   have U2:aa H q0:=(s1.trans w1).trans g2;have y3:=g2 _ _ (w1 _ _ D0);have M3:=g2 _ _ n3;have N3:=(cy o3).same g2;have f5:∀k,∀x∈Ia (de ks f0) k,Oa u0 (Sum.inl x)=wP (.int (nn f0 x)):=λk x l0=>by
    obtain⟨m,e2,g5⟩:=KC l0;rw[<-Ic (l:=f0)]at e2;obtain⟨t,T0,rfl⟩:=Yx _ e2 g5;rw[Ic]at T0;rw[eN G2 T0];exact L1 t T0
   refine ea0 ?_ ms.ex;rintro I0 j0 mk D1 M1;have h5:=ms.ends;have i5:=ms.keys;have j5:∀b∈j0,H b=yP:=λb J=>p3.free (v0.free (M1 b J))
   clear L1 ms w3 c2 pt;generalize z6:de ks f0=i0 at*;generalize A6:nn f0=M0 at*;refine⟨nb,λD h2=>?_⟩;have O3:=la (H:=q0) (a:=D) (o:=HO.lst []);have V2:=aa.upd (o:=HO.lst []) h2;generalize upd q0 D (.lst [])=B6 at O3 V2;refine⟨_,rfl,Q0,rfl,⟨_,ia.of (V2 _ _ M3)⟩,bf (K:=K) (a:=Q0) (xs:=m3) (λi Y c0=>∃(r0 s0 t0 e0 j1 l1 m1 n1 N0 O0:Option V)(o1:List V)(f:List BP),Y=[wP (.ref a),wP (.ref kp),wP (.ref Q0),wP (.ref E),wP (.ref M),r0,s0,t0,e0,wP (.ref D),j1,l1,m1,n1,N0,O0,yP]/\aa q0 c0/\c0 D=wP (.lst o1)/\o1.length<=i/\Ha c0 o1 (((Lb U).take i).map λd=>Md (vn ks i0 M0 d)) f/\f.Nodup/\(∀b∈f,q0 b=yP)/\D∉f) (nx13 _ _ _ _ _ _ _ _ _ (nx6 _ ([]) ([]) rfl V2 O3 (xa _) ⟨.nil,.nil,(λb J=>by cases J),(λJ=>by cases J)⟩)) (by rintro i Y c0 _;refine ec1 ?_;rintro _ _ _ _ _ _ _ _ _ _ _ _;refine ea3 ?_;rintro _ l5 _;exact ia.of (l5 _ _ M3)) ?_ ?_⟩
   ·rintro i y Y c0 B1;refine eb1 ?_;rintro r0 s0 t0 e0 j1 l1 m1 n1 N0 O0 o1 f rfl y0 X0 m5 Y0 W2⟨i2,j2⟩;refine ea1 ?_ (N3.get B1);rintro dd Q3 n5;rw[fb]at Q3;refine ea1 ?_ (Jf.mp Q3);rintro d X2 rfl;refine ea4 ?_ (XC (n5.same y0));rintro p Y2 Z2 rfl F0 R3 o5;refine ea6 ?_ (H4 d (yb X2));rintro _ C6 D6 _;have U4:i<8:=by have:=(Zb.mp X2).1;lia
    have p5:(Lb U).take (i+1)=(Lb U).take i++[d]:=by rw[qc,X2];rfl
    refine nx11 p _ rfl (Ba.of F0) rfl _ _ rfl _ _ rfl (nx0 _ _ rfl (nx0 _ _ rfl (nx0 _ _ rfl (nx5 _ _ rfl rfl ?_))));refine⟨nb,λL P1=>?_⟩;have S3:=la (H:=c0) (a:=L) (o:=HO.lst []);have a3:=aa.upd (o:=HO.lst []) P1;generalize upd c0 L (.lst [])=E6 at S3 a3;refine⟨_,rfl,_,_,rfl,.inl ⟨_,ia.of (a3 _ _ R3),rfl⟩,_,rfl,(by rw[pa];simp_all),(by rw[pa];lia),?_⟩;rw[Kf,pa];refine wo (λj Y J0=>∃(N0 O0:Option V)(p1:List V)(g:List BP),Y=[wP (.ref a),wP (.ref kp),wP (.ref Q0),wP (.ref E),wP (.ref M),wP (.int d.fin),wP (.int d.num),wP (.int d.mn),e0,wP (.ref D),wP (.str d.ii),wP (.ref Y2),wP (.ref Z2),wP (.ref L),N0,O0,yP]/\aa c0 J0/\J0 L=wP (.lst p1)/\p1.length<=j/\Ha J0 p1 ((List.range j).map λj=>yf (rn ks i0 M0 d.num (d.eh.getD j 0) (d.fh.getD j 0))) g/\g.Nodup/\(∀b∈g,c0 b=yP)/\L∉g) (nx4 _ _ ([]) ([]) rfl a3 S3 (xa _) (.nil) (.nil) ⟨(λb J=>by cases J),(λJ=>by cases J)⟩) ?_ ?_
    ·rintro j Y J0 l2;refine ebH ?_;rintro q5 r5 p1 g rfl g0 r1 s5 F1 b3 Q1 m2;have n2:=g0 _ _ (y0 _ _ y3);have t5:=g0 _ _ o5;have T3:(0+(j:Int))=(j:Int):=am _;have ab:Bd (d.fh.map V.int) (0+(j:Int))=wP (.int (d.fh.getD j 0)):=by
      rw[T3];exact Pf (by rw[fb,My.df (d:=0) (show j<d.fh.length by lia)];rfl)
     have U3:Bd (d.eh.map V.int) (0+(j:Int))=wP (.int (d.eh.getD j 0)):=by
      rw[T3];exact Pf (by rw[fb,My.df (d:=0) l2];rfl)
     have u5:(List.range (j+1)).map (λj=>yf (rn ks i0 M0 d.num (d.eh.getD j 0) (d.fh.getD j 0)))=(List.range j).map (λj=>yf (rn ks i0 M0 d.num (d.eh.getD j 0) (d.fh.getD j 0)))++[yf (rn ks i0 M0 d.num (d.eh.getD j 0) (d.fh.getD j 0))]:=by rw[Ei,Le];rfl
     rw[u5];generalize d.fh.getD j 0=R1 at ab;generalize d.eh.getD j 0=c3 at U3;refine⟨_,rfl,kp,rfl,⟨_,ia.of n2⟩,SA (k:=1) (fs:=[wP (.ref kp),wP (.ref Z2),wP (.int (0+(j:Int)))]) ks PyData.int (λk=>if xf R1 (ks.idxOf k)=CP then wP (.int k)else yP) rfl n2 (ib.ofInts ks) (by lia) (λk z0 b0 H2 v R h0 g1 tr S1=>?_) (λv5 b0 F6 o0 L0=>?_)⟩
     ·cases tr;obtain⟨t,rfl⟩:=Ke.mp g1;have A1:=S1 [wP (.int k)] b0 rfl (aa.refl _);refine⟨_,rfl,_,rfl,Z2,_,_,_,rfl,rfl,ia.of (h0 _ _ t5),ab,_,rfl,Or.inl ⟨rfl,_,ia.of (h0 _ _ n2)⟩,_,rfl,kp,ks,k,rfl,rfl,ia.of (h0 _ _ n2),(by lia),z0,_,_,rfl,rfl,(by show(0:Int)<=_;simp_all),_,_,rfl,rfl,rfl,_,rfl,nc (λe=>?_) (λe=>?_)⟩
      ·have O:xf R1 (ks.idxOf k)=CP:=by
        have D0:=zc e;rw[Kf]at D0;unfold xf;exact zb (V.Na D0)
       rw[wa O]at A1;exact⟨_,rfl,A1⟩
      ·have O:¬xf R1 (ks.idxOf k)=CP:=λz=>e (by
        unfold xf at z;rw[Kf];exact zb (Ub V.int (zc z)))
       rw[ma O]at A1;exact A1
     rw[gN]at L0;have G6:(ur ks R1).length<=3:=Nb (Yj _ _) C2;have A0:=y0.trans (g0.trans o0);have Z0:=mk.same A0;have w5:=A0 _ _ h5;have x5:=o0 _ _ (g0 _ _ R3);refine⟨_,rfl,Or.inl ⟨rfl,_,ia.of (o0 _ _ r1)⟩,_,rfl,v5,rfl,⟨_,ia.of L0⟩,DB (k:=1) (fs:=[wP (.ref E),wP (.ref M),wP (.int d.num),wP (.ref Y2),wP (.int (0+(j:Int)))]) (ur ks R1) (λ_=>[]) PyData.int (λk=>Jg (k,Lj M0 d.num c3 (Ia i0 k))) rfl L0 (ib.ofInts _) (by lia) (Tj.mpr λ_ _ _ _ _ b J=>by cases J) (λ_ _ b J=>by cases J) (λk z0 T1 H2 v R h0 g1 tr S1=>?_) (λt1 T1 ys w0 G1 p0 y5 z5 A5 B5 C5=>?_)⟩
     ·cases tr;obtain⟨t,rfl⟩:=Ke.mp g1;refine⟨_,rfl,_,rfl,M,rfl,.inl ⟨I0,.inl (h0 _ _ Z0.dict)⟩,_,rfl,nb,λd3 D5=>?_⟩;have H1:=aa.upd (o:=HO.lst []) D5;obtain⟨o2,E5,F5⟩:∃o2,(Oa I0 (Sum.inl k)).getD (.ref d3)=.ref o2/\upd T1 d3 (.lst []) o2=wP (.lst ((Ia i0 k).map V.int)):=by
       by_cases n0:k∈i0.map (·.1)
       ·refine eb0 ?_ (Z0.has n0);rintro d0 O2 w0 K0 W0 _;exact⟨d0,by rw[K0];rfl,H1 _ _ (h0 _ _ W0)⟩
       ·exact⟨d3,by rw[Z0.not n0];rfl,by rw[ij n0];exact la⟩
      refine⟨_,Zd.k (k:=Sum.inl k) (H1 _ _ (h0 _ _ Z0.dict)),_,rfl,_,rfl,_,rfl,_,rfl,Y2,_,_,_,rfl,rfl,ia.of (H1 _ _ (h0 _ _ x5)),U3,o2,E,u0,Ia i0 k,M0,d.num,c3,(by rw[E5];rfl),F5,H1 _ _ (h0 _ _ w5),f5 k,Za,λtp a0=>S1 (.ref tp) [tp] [_] _ rfl (H1.trans (aa.upd a0)) (OC (p:=(k,Lj M0 d.num c3 (Ia i0 k))) la) (Vc.mpr ⟨(λz=>by cases z),.nil⟩) λb J=>.inl (by rw[Ce.mp J];exact H1.free a0)⟩
     have a1:∀b∈w0,b0 b=yP:=λb J=>(B5 b J).elim id λ⟨_,_,z⟩=>by cases z
     have G5:=g0.trans (o0.trans p0);refine⟨L,p1,.ref t1,rfl,rfl,p0 _ _ (o0 _ _ r1),(by lia),λe3 p2 r2=>?_⟩;have V3:L∉w0:=λz=>by have:=a1 L z;rw[o0 _ _ r1]at this;cases this
     have W3:t1≠L:=lb G1 (o0 _ _ r1);refine nx4 _ _ (p1++[.ref t1]) (g++(t1::w0)) rfl (λb o O=>r2 b o (lb O P1) (G5 _ _ O)) p2 (by rw[Ac];show _+1<=_;simp_all) ?_ ?_ ⟨?_,?_⟩
     ·refine(F1.fr λb J o O=>r2 b o (λz=>m2 (z▸J)) (p0 _ _ (o0 _ _ O))).app (Ha.one (TF.lst (r2 _ _ W3 y5) ?_));unfold rn;rw[Hc];exact z5.fr λb J o O=>r2 b o (λz=>V3 (z▸J)) O
     ·refine Hj.mpr ⟨b3,Vc.mpr ⟨C5,A5⟩,λx l0 z=>?_⟩;rcases jb.mp l0 with w|w
      ·rw[w]at z;exact(F1.same o0).not G1 z
      ·exact(F1.same o0).not (a1 x w) z
     ·intro b J;rcases Xb.mp J with w|w
      ·exact Q1 b w
      ·rcases jb.mp w with w|w
       ·rw[w];exact g0.free (o0.free G1)
       ·exact g0.free (o0.free (a1 b w))
     ·intro J;rcases Xb.mp J with w|w
      ·exact m2 w
      ·rcases jb.mp w with w|w
       ·exact W3 w.symm
       ·exact V3 w
    ·rintro Y J0;refine ebH ?_;rintro q5 r5 p1 g rfl g0 r1 s5 F1 b3 Q1 m2;refine⟨_,rfl,Or.inl ⟨rfl,_,ia.of (g0 _ _ X0)⟩,_,rfl,_,rfl,_,rfl,Lf,λtp a0=>?_⟩;have X3:=aa.upd (o:=HO.tup [V.int d.num,V.str d.ii,V.ref L]) a0;refine⟨D,o1,.ref tp,rfl,rfl,X3 _ _ (g0 _ _ X0),(by lia),λb0 L0 x0=>?_⟩;have Y3:L≠D:=lb P1 X0;have Z3:tp≠D:=lb a0 (g0 _ _ X0);have a4:D∉g:=λz=>by have:=Q1 D z;rw[X0]at this;cases this
     have s2:∀b o,b≠D->J0 b=wP o->b0 b=wP o:=λb o n e=>x0 b o n (X3 _ _ e)
     refine nx13 _ _ _ _ _ _ _ _ _ (nx6 _ (o1++[.ref tp]) (f++(tp::L::g)) rfl (λb o O=>s2 b o (lb O h2) (g0 _ _ (y0 _ _ O))) L0 (by rw[Ac];show _+1<=_;lia) ⟨?_,?_,?_,?_⟩)
     ·rw[p5,Le];refine(Y0.fr λb J o O=>s2 b o (λz=>j2 (z▸J)) (g0 _ _ O)).app (Ha.one (NC (d:=vn ks i0 M0 d) (x0 _ _ Z3 la) (s2 _ _ Y3 r1) ?_));unfold vn;dsimp only;rw[Hc];exact F1.fr λb J o O=>s2 b o (λz=>a4 (z▸J)) O
     ·refine Hj.mpr ⟨W2,Vc.mpr ⟨?_,Vc.mpr ⟨m2,b3⟩⟩,λx l0 z=>?_⟩
      ·intro z;rcases jb.mp z with w|w
       ·rw[w,r1]at a0;cases a0
       ·exact F1.not a0 w
      ·rcases jb.mp l0 with w|w
       ·rw[w]at z;exact(Y0.same g0).not a0 z
       ·rcases jb.mp w with w|w
        ·rw[w]at z;exact Y0.not P1 z
        ·exact Y0.not (Q1 x w) z
     ·intro b J;rcases Xb.mp J with w|w
      ·exact i2 b w
      ·rcases jb.mp w with w|w
       ·rw[w];exact y0.free (g0.free a0)
       ·rcases jb.mp w with w|w
        ·rw[w];exact y0.free P1
        ·exact y0.free (Q1 b w)
     ·intro J;rcases Xb.mp J with w|w
      ·exact j2 w
      ·rcases jb.mp w with w|w
       ·exact Z3 w.symm
       ·rcases jb.mp w with w|w
        ·exact Y3 w.symm
        ·exact a4 w
   ·rintro Y c0;refine eb1 ?_;rintro r0 s0 t0 e0 j1 l1 m1 n1 N0 O0 o1 f rfl y0 X0 m5 Y0 W2⟨i2,j2⟩;have H5:m3.length=(Lb U).length:=by rw[N3.len,pa]
    rw[H5,Ic]at Y0;have I5:xg (U.map V.int) (wP 10) (wP 30)=((U.drop 10).take 20).map V.int:=fN U;have b4:=U2.trans y0;refine⟨_,rfl,10,rfl,30,rfl,a,_,rfl,b4.seq A2,λb1 U1=>?_⟩;rw[I5];have V1:=aa.upd (o:=HO.lst (((U.drop 10).take 20).map V.int)) U1;have t2:=la (H:=c0) (a:=b1) (o:=HO.lst (((U.drop 10).take 20).map V.int));generalize upd c0 b1 (.lst (((U.drop 10).take 20).map V.int))=J5 at V1 t2;have c4:=mk.same y0;have K5:b1∉(D::f)++j0:=λz=>by
     rcases Xb.mp z with w|w
     ·rcases jb.mp w with w|w
      ·rw[w,X0]at U1;cases U1
      ·exact Y0.not U1 w
     ·exact c4.vals.not U1 w
    have L5:Rl J5 D M (Lg U) (D::f) j0:=by
     rw[u3];refine⟨by rw[Hc];exact TF.lst (V1 _ _ X0) (Y0.same V1),⟨I0,c4.same V1⟩,?_,i5⟩;refine Hj.mpr ⟨Vc.mpr ⟨j2,W2⟩,D1,λx l0 z=>?_⟩;rcases jb.mp z with w|w
     ·rw[w]at l0;exact mk.vals.not h2 l0
     ·exact mk.vals.not (i2 x w) l0
    have M5:∀b∈(D::f)++j0,H b=yP:=λb J=>by
     rcases Xb.mp J with w|w
     ·rcases jb.mp w with w|w
      ·rw[w];exact U2.free h2
      ·exact U2.free (i2 b w)
     ·exact j5 b w
    have N5:((U.drop 10).take 20).length<=20:=List.length_take_le _ _;generalize O5:(U.drop 10).take 20=c1 at t2 N5;refine⟨b1,rfl,⟨_,ia.of t2⟩,bf (K:=K) (a:=b1) (xs:=c1.map V.int) (λi Y b0=>∃(r0 s0 t0 e0 j1 l1 m1 n1 N0 O0 f3:Option V)(fd j0:List BP),Y=[wP (.ref a),wP (.ref kp),wP (.ref Q0),wP (.ref E),wP (.ref M),r0,s0,t0,e0,wP (.ref D),j1,l1,m1,n1,N0,O0,f3]/\aa H b0/\b0 b1=wP (.lst (c1.map V.int))/\Mj ((c1.take i).foldl je (Lg U))/\Rl b0 D M ((c1.take i).foldl je (Lg U)) fd j0/\(∀b∈fd++j0,H b=yP)/\b1∉fd++j0) (nx13 _ _ _ _ _ _ _ _ _ (nx4 _ yP (D::f) j0 rfl (b4.trans V1) t2 I4 L5 M5 K5)) (by rintro i Y b0 _;refine ec1 ?_;rintro _ _ _ _ _ _ _ _ _ _ _ _;refine eb2 ?_;rintro _ _ _ h _;exact ia.of h) ?_ ?_⟩
    ·rintro i y Y b0 B1⟨r0,s0,t0,e0,j1,l1,m1,n1,N0,O0,f3,fd,I1,rfl,A0,u2,P0,d1,J1,v2⟩;rw[fb]at B1;refine ea1 ?_ (Jf.mp B1);rintro c P5 rfl;have Q5:(c1.take (i+1)).foldl je (Lg U)=je ((c1.take i).foldl je (Lg U)) c:=by rw[qc,P5,Ds];rfl
     rw[Q5];generalize(c1.take i).foldl je (Lg U)=st at P0 d1;refine ea0 ?_ (JB d1.kj);rintro w2 H6 I6 R5 S5;have g3:w2.length=st.1.length:=by rw[S5.len,pa]
     refine Yq (b:=decide (c%6=0/\st.1≠[])) (λJ6 k2=>?_) (λT1 p0=>nc (λe=>?_) (λe=>?_))
     ·refine⟨_,rfl,_,_,rfl,rfl,(by show(0:Int)<6;decide),rfl,_,rfl,nc (λe=>?_) (λe=>?_)⟩
      ·have B0:c%6=0:=V.Na (zc e);refine⟨_,rfl,nb,λT5 d4=>nx6 D T5 w2 rfl rfl (ia.of (aa.upd d4 _ _ R5)) (ia.of la) ⟨_,rfl,?_⟩⟩;have:(!w2.isEmpty)=decide (c%6=0/\st.1≠[]):=by
        rw[Fn,Bs];cases w2 with
        |nil=>simp;intro _;exact el.mp g3.symm
        |cons a r=>
         simp[B0];intro z;rw[z]at g3;cases g3
       rw[this];exact k2 _ (aa.upd d4)
      ·have B0:¬c%6=0:=λz=>e (zb (show V.int (c%6)=V.int 0 by rw[z]))
       have:decide (c%6=0/\st.1≠[])=GP:=Wd λz=>B0 z.1
       rw[this]at k2;exact k2 _ (aa.refl _)
     ·have B0:=zc e;have es:je st c=hh st (c/6):=by unfold je;rw[wa B0]
      rw[es];refine⟨_,rfl,_,rfl,_,rfl,_,_,rfl,rfl,⟨by decide,by decide⟩,D,M,c/6,st,fd,I1,rfl,d1.same p0,B0.2,P0,λe3 U5 V5 W5 e4 a1=>?_⟩;refine nx13 _ _ _ _ _ _ _ _ _ (nx4 _ _ U5 V5 rfl (λb o O=>e4 b o (λz=>by rw[J1 b z]at O;cases O) (p0 _ _ (A0 _ _ O))) (e4 _ _ v2 (p0 _ _ u2)) (UC P0 _) W5 (λb J=>?_) λJ=>?_)
      ·rcases a1 b J with z|z
       ·exact J1 b z
       ·exact A0.free (p0.free z)
      ·rcases a1 b1 J with z|z
       ·exact v2 z
       ·rw[p0 _ _ u2]at z;cases z
     ·have B0:¬(c%6=0/\st.1≠[]):=λz=>e (zb z)
      have es:je st c=st:=by unfold je;rw[ma B0]
      rw[es];exact nx13 _ _ _ _ _ _ _ _ _ (nx4 _ _ fd I1 rfl (A0.trans p0) (p0 _ _ u2) P0 (d1.same p0) J1 v2)
    ·rintro Y b0⟨r0,s0,t0,e0,j1,l1,m1,n1,N0,O0,f3,fd,I1,rfl,A0,u2,P0,d1,J1,v2⟩;rw[pa,Ic]at P0 d1;have X5:zf U=c1.foldl je (Lg U):=by unfold zf;rw[O5]
     rw[<-X5]at P0 d1;have Y5:=λv f H' x2 h3 Z5 a6=>q v f H' x2 (by
      unfold vd ye;dsimp only;rw[Hc];exact h3) Z5 a6
     clear q;generalize zf U=st at*;obtain⟨y2,⟨i3,Z0⟩,j3,b6⟩:=d1;refine⟨_,rfl,_,rfl,M,i3,st.2.map (·.1),rfl,Z0.dict,(by rw[Z0.keys,Hc];rfl),(by rw[pa];have:=P0.2.1;lia),λrl c6=>⟨rl,rfl,⟨_,ia.of la⟩,?_⟩⟩;have u1:=aa.upd (o:=HO.lst ((Yc (st.2.map (·.1))).map V.int)) c6;have f4:=la (H:=b0) (a:=rl) (o:=HO.lst ((Yc (st.2.map (·.1))).map V.int));have W1:=Z0.same u1;generalize upd b0 rl (.lst ((Yc (st.2.map (·.1))).map V.int))=T1 at u1 f4 W1;have d6:=ZC W1.vals;have X1:∀k∈st.2.map (·.1),∃d0,Oa i3 (Sum.inl k)=wP (.ref d0)/\T1 d0=wP (.lst ((Ia st.2 k).map V.int))/\d0∈I1/\I1[ff st.2 k]?=wP d0:=λk z0=>by
      refine ea4 ?_ (W1.has z0);rintro d0 O2 w0 K0 W0 f2 _;refine⟨d0,K0,W0,by rw[f2];simp,?_⟩;rw[Gu W1.keys k,<-fb,d6,fb]at K0;obtain⟨x,ex,e6⟩:=Jf.mp K0;rw[ex];cases e6;rfl
     have K6:(Yc (st.2.map (·.1))).length<=30:=by rw[(Ff _).length_eq,pa];exact P0.2.1
     refine DB (k:=1) (fs:=[wP (.ref M)]) (Yc (st.2.map (·.1))) (λk=>match Oa i3 (Sum.inl k)with|some (.ref d0)=>[d0]|_=>[]) PyData.int (λk=>ji (k,Ia st.2 k)) rfl f4 (ib.ofInts _) (by lia) ?_ (λk z0 b J=>?_) (λk z0 e3 H2 v R h0 g1 tr S1=>?_) (λt1 e3 ys w0 G1 g4 p2 h4 f6 a1 g6=>?_)
     ·have h6:(Yc (st.2.map (·.1))).Nodup:=((Ff _).nodup_iff).mpr b6;refine Tj.mpr λi j hi l2 i6 b J i4=>?_
      have Q2:=Tj.mp h6 i j hi l2 i6;have e1:(Yc (st.2.map (·.1)))[i]∈st.2.map (·.1):=(Ff _).mem_iff.mp (List.getElem_mem hi);have j4:(Yc (st.2.map (·.1)))[j]∈st.2.map (·.1):=(Ff _).mem_iff.mp (List.getElem_mem l2);generalize(Yc (st.2.map (·.1)))[i]=k1 at*;generalize(Yc (st.2.map (·.1)))[j]=k2 at*;obtain⟨Y1,f1,_,_,k4⟩:=X1 k1 e1;obtain⟨L6,j6,_,_,l4⟩:=X1 k2 j4;rw[f1]at i4;rw[j6]at J;have B0:=Ce.mp i4;have k6:=Ce.mp J;rw[<-B0]at k4;rw[<-k6]at l4;have l6:=(Ai.mp j3).2.1;obtain⟨m6,n6⟩:=Zb.mp k4;obtain⟨S2,T2⟩:=Zb.mp l4;have o6:=md l6 m6 S2 (n6.trans T2.symm);have x2:=lg e1;have h3:=lg j4;rw[o6,h3]at x2;exact Q2 (Ub Prod.fst (me x2)).symm
     ·have e1:k∈st.2.map (·.1):=(Ff _).mem_iff.mp z0;obtain⟨Y1,f1,z2,_,_⟩:=X1 k e1;rw[f1]at J;rw[Ce.mp J];exact⟨_,z2⟩
     ·cases tr;obtain⟨t,rfl⟩:=Ke.mp g1;have e1:k∈st.2.map (·.1):=(Ff _).mem_iff.mp z0;refine eb2 ?_ (X1 k e1);rintro Y1 f1 z2 _ _;have m4:=Zd.k (k:=Sum.inl k) (h0 _ _ W1.dict);rw[f1]at m4;refine⟨_,rfl,_,rfl,_,rfl,M,_,rfl,m4,Za,λtp a0=>?_⟩;have v1:=aa.upd (o:=HO.tup [V.int k,V.ref Y1]) a0;refine S1 (.ref tp) [tp,Y1] [_] _ rfl v1 (TF.tup la (Ha.cons (f:=[]) (.int k) (Ha.one (TF.lst (v1 _ _ (h0 _ _ z2)) (Ha.ints _))))) ?_ λb J=>?_
      ·refine Vc.mpr ⟨λz=>?_,Vc.mpr ⟨(λz=>by cases z),.nil⟩⟩;rw[Ce.mp z,h0 _ _ z2]at a0;cases a0
      ·rcases jb.mp J with w|w
       ·rw[w];exact .inl a0
       ·rw[f1];exact .inr w
     have n4:=A0.trans (u1.trans g4);refine⟨Za,λtp a0=>?_⟩;have v1:=aa.upd (o:=HO.tup [V.ref D,V.ref t1]) a0;have o4:∀b∈w0,b0 b=yP\/b∈I1:=λb J=>(a1 b J).elim (λz=>.inl (u1.free z)) λ⟨k,z0,z⟩=>by
      have e1:k∈st.2.map (·.1):=(Ff _).mem_iff.mp z0;refine eb2 ?_ (X1 k e1);rintro Y1 f1 _ p6 _;rw[f1]at z;rw[Ce.mp z];exact .inr p6
     have p4:=y2.same (u1.trans g4);have M6:∀b∈fd,∃o,b0 b=wP o:=λb J=>by rcases y2.live b J with⟨_,z⟩|⟨_,z⟩<;>exact⟨_,z⟩
     refine Y5 (.ref tp) (tp::(fd++(t1::w0))) _ (n4.trans v1) (TF.tup la (Ha.cons (p4.same v1) (Ha.one (TF.lst (v1 _ _ p2) (h4.same v1))))) ?_ λb J=>?_
     ·refine Vc.mpr ⟨λz=>?_,Hj.mpr ⟨(Ai.mp j3).1,Vc.mpr ⟨g6,f6⟩,λx l0 z=>?_⟩⟩
      ·rcases Xb.mp z with w|w
       ·exact p4.not a0 w
       ·rcases jb.mp w with w|w
        ·rw[w,p2]at a0;cases a0
        ·exact h4.not a0 w
      ·rcases jb.mp l0 with w|w
       ·rw[w]at z;exact(y2.same u1).not G1 z
       ·rcases o4 x w with y|y
        ·exact y2.not y z
        ·exact(Ai.mp j3).2.2 x z x y rfl
     ·rcases jb.mp J with w|w
      ·rw[w];exact n4.free a0
      ·rcases Xb.mp w with w|w
       ·exact J1 b (qh _ w)
       ·rcases jb.mp w with w|w
        ·rw[w];exact A0.free (u1.free G1)
        ·rcases o4 b w with y|y
         ·exact A0.free y
         ·exact J1 b (Ze _ y)
--@vb
def jN(T:Tx K mg):T.iu.Ok mg P w base 1 (So .loose):=by
 refine sb T.iu.F λ_ _ _ _ _ h=>?_
 ·revert h;refine ea1 ?_;rintro x rfl q;exact⟨_,(ra (Sa jc)),q⟩
def lN(T:Tx K mg):T.nu.Ok mg P w base 1 (So .kept):=by
 refine sb T.nu.F λ_ _ _ _ _ h=>?_
 ·revert h;refine ea1 ?_;rintro x rfl q;exact⟨_,(ra (Sa jc)),q⟩
def nN(T:Tx K mg):T.ru.Ok mg P w base 1 (So .make):=by
 refine sb T.ru.F λ_ _ _ _ _ h=>?_
 ·revert h;refine ea1 ?_;rintro x rfl q;exact⟨_,(ra (Sa jc)),q⟩
def oN(T:Tx K mg):T.tu.Ok mg P w base 1 (So .watch):=by
 refine sb T.tu.F λ_ _ _ _ _ h=>?_
 ·revert h;refine ea1 ?_;rintro x rfl q;exact⟨_,(ra (Sa jc)),q⟩
def pN(T:Tx K mg):T.vu.Ok mg P w base 1 (So .hold):=by
 refine sb T.vu.F λ_ _ _ _ _ h=>?_
 ·revert h;refine ea1 ?_;rintro x rfl q;exact⟨_,(ra (Sa jc)),q⟩
def qN(T:Tx K mg):∀l,∃f fd J,Cls K (cO T l)/\wg K (cO T l) "word" f/\uc P w K mg base Ge 1 f fd J (So l)/\Td K fd J []:=by
 intro l;cases l
 ·exact nx1 _ _ _ T.Yo.cl T.iu.m (jN T) T.iu.b
 ·exact nx1 _ _ _ T.Zo.cl T.nu.m (lN T) T.nu.b
 ·exact nx1 _ _ _ T.bp.cl T.ru.m (nN T) T.ru.b
 ·exact nx1 _ _ _ T.cp.cl T.tu.m (oN T) T.tu.b
 ·exact nx1 _ _ _ T.hp.cl T.vu.m (pN T) T.vu.b
def rN(T:Tx K mg):T.ju.Ok mg P w base 1 (To .loose):=by
 refine sb T.ju.F λ_ _ _ _ _ h=>?_
 ·revert h;refine ea8 ?_;rintro x n rfl q;exact⟨_,(ra (Sa ka)),q⟩
def sN(T:Tx K mg):T.ou.Ok mg P w base 1 (To .kept):=by
 refine sb T.ou.F λ_ _ _ _ _ h=>?_
 ·revert h;refine ea8 ?_;rintro x n rfl q;exact⟨_,(ra (Sa (Ca fg (pv 1) ka))),⟨_,rfl,_,_,rfl,rfl,q⟩⟩
def tN(T:Tx K mg):T.su.Ok mg P w base 1 (To .make):=by
 refine sb T.su.F λ_ _ _ _ _ h=>?_
 ·revert h;refine ea8 ?_;rintro x n rfl q;exact⟨_,(ra (Sa ka)),q⟩
def uN(T:Tx K mg):T.uu.Ok mg P w base 1 (To .watch):=by
 refine sb T.uu.F λ_ _ _ _ _ h=>?_
 ·revert h;refine ea8 ?_;rintro x n rfl q;exact⟨_,(ra (Sa ka)),q⟩
def vN(T:Tx K mg):T.wu.Ok mg P w base 1 (To .hold):=by
 refine sb T.wu.F λ_ _ _ _ _ h=>?_
 ·revert h;refine ea8 ?_;rintro x n rfl q;exact⟨_,(ra (Sa ka)),q⟩
def wN(T:Tx K mg):∀l,∃f fd J,Cls K (cO T l)/\wg K (cO T l) "spots" f/\uc P w K mg base Ge 1 f fd J (To l)/\Td K fd J []:=by
 intro l;cases l
 ·exact nx1 _ _ _ T.Yo.cl T.ju.m (rN T) T.ju.b
 ·exact nx1 _ _ _ T.Zo.cl T.ou.m (sN T) T.ou.b
 ·exact nx1 _ _ _ T.bp.cl T.su.m (tN T) T.su.b
 ·exact nx1 _ _ _ T.cp.cl T.uu.m (uN T) T.uu.b
 ·exact nx1 _ _ _ T.hp.cl T.wu.m (vN T) T.wu.b
def xN(T:Tx K mg):T.ku.Ok mg P w base 1 (gr .loose):=by
 refine sb T.ku.F λ_ _ _ _ _ h=>?_
 ·revert h;refine ea8 ?_;rintro x n rfl q;exact⟨_,(ra (Sa Pe)),q⟩
def yN(T:Tx K mg):T.pu.Ok mg P w base 1 (gr .kept):=by
 refine sb T.pu.F λ_ _ _ _ _ h=>?_
 ·revert h;refine ea8 ?_;rintro x n rfl q;exact⟨_,(ra (Sa (pv 1))),⟨_,rfl,q⟩⟩
def eD(T:Tx K mg):T.Uo.Ok mg P w base 1 (gr .make):=by
 refine sb T.Uo.F λ_ _ _ _ _ h=>?_
 ·revert h;refine ea8 ?_;rintro x n rfl q;exact⟨_,(ra (Sa ka)),q⟩
def zN(T:Tx K mg):T.xu.Ok mg P w base 1 (gr .hold):=by
 refine sb T.xu.F λ_ _ _ _ _ h=>?_
 ·revert h;refine ea8 ?_;rintro x n rfl q;exact⟨_,(ra (Sa ka)),q⟩
def AN(T:Tx K mg):∀l,∃f fd J,Cls K (cO T l)/\wg K (cO T l) "look_spot" f/\uc P w K mg base Ge 1 f fd J (gr l)/\Td K fd J []:=by
 intro l;cases l
 ·exact nx1 _ _ _ T.Yo.cl T.ku.m (xN T) T.ku.b
 ·exact nx1 _ _ _ T.Zo.cl T.pu.m (yN T) T.pu.b
 ·exact nx1 _ _ _ T.bp.cl T.Uo.m (eD T) T.Uo.b
 ·exact nx1 _ _ _ T.cp.cl T.FL (eD T) T.Uo.b
 ·exact nx1 _ _ _ T.hp.cl T.xu.m (zN T) T.xu.b
def BN(T:Tx K mg):T.lu.Ok mg P w base 1 (hr .loose):=by
 refine sb T.lu.F λ_ _ _ _ _ h=>?_
 ·revert h;refine ea8 ?_;rintro x n rfl q;exact⟨_,(ra (Sa ka)),q⟩
def CN(T:Tx K mg):T.qu.Ok mg P w base 1 (hr .kept):=by
 refine sb T.qu.F λ_ _ _ _ _ h=>?_
 ·revert h;refine ea8 ?_;rintro x n rfl q;exact⟨_,(ra (Sa (pv 1))),⟨_,rfl,q⟩⟩
def fD(T:Tx K mg):T.Vo.Ok mg P w base 1 (hr .make):=by
 refine sb T.Vo.F λ_ _ _ _ _ h=>?_
 ·revert h;refine ea8 ?_;rintro x n rfl q;exact⟨_,(ra (Sa ka)),q⟩
def DN(T:Tx K mg):T.yu.Ok mg P w base 1 (hr .hold):=by
 refine sb T.yu.F λ_ _ _ _ _ h=>?_
 ·revert h;refine ea8 ?_;rintro x n rfl q;exact⟨_,(ra (Sa ka)),q⟩
def EN(T:Tx K mg):∀l,∃f fd J,Cls K (cO T l)/\wg K (cO T l) "first_spot" f/\uc P w K mg base Ge 1 f fd J (hr l)/\Td K fd J []:=by
 intro l;cases l
 ·exact nx1 _ _ _ T.Yo.cl T.lu.m (BN T) T.lu.b
 ·exact nx1 _ _ _ T.Zo.cl T.qu.m (CN T) T.qu.b
 ·exact nx1 _ _ _ T.bp.cl T.Vo.m (fD T) T.Vo.b
 ·exact nx1 _ _ _ T.cp.cl T.GL (fD T) T.Vo.b
 ·exact nx1 _ _ _ T.hp.cl T.yu.m (DN T) T.yu.b
def FN(T:Tx K mg):T.mu.Ok mg P w base 1 (fx .loose):=by
 refine sb T.mu.F λ_ _ _ _ _ h=>?_
 ·revert h;refine ea1 ?_;rintro x rfl q;exact⟨_,(ra (Sa wh)),q⟩
def Ku(T:Tx K mg):T.Kj.Ok mg P w base 1 (fx .kept):=by
 refine sb T.Kj.F λ_ _ _ _ _ h=>?_
 ·revert h;refine ea1 ?_;rintro x rfl q;exact⟨_,(ra (Sa wh)),q⟩
def GN(T:Tx K mg):∀l,∃f fd J,Cls K (cO T l)/\wg K (cO T l) "unkept" f/\uc P w K mg base Ge 1 f fd J (fx l)/\Td K fd J []:=by
 intro l;cases l
 ·exact nx1 _ _ _ T.Yo.cl T.mu.m (FN T) T.mu.b
 ·exact nx1 _ _ _ T.Zo.cl T.Kj.m (Ku T) T.Kj.b
 ·exact nx1 _ _ _ T.bp.cl T.EL (Ku T) T.Kj.b
 ·exact nx1 _ _ _ T.cp.cl T.HL (Ku T) T.Kj.b
 ·exact nx1 _ _ _ T.hp.cl T.IL (Ku T) T.Kj.b
def gD(T:Tx K mg):uc P w K mg base (ae P w) 2 T.Ak.f T.Ak.d ["word"] (qC (cO T) T.ah):=by
 refine Rz T.Ak.F (jn (N:=Tf (mc (top 17)))) (λvs H Q E h=>?_) (λh1 A outer s H vs Q E J0 h=>?_)
 ·obtain⟨x,rfl,_⟩:=h;rfl
 ·obtain⟨x,rfl,i1,K0,k,L0⟩:=h;refine⟨_,(va (Oq (kd Qc rfl (bc (kc (na (Nq T.Yo.mo rfl T.yL) (na (Nq T.Zo.mo rfl T.zL) (na (Nq T.bp.mo rfl T.AL) (na (Nq T.cp.mo rfl T.BL) (Fa (Nq T.hp.mo rfl T.CL)))))))) (Db 1)
   (ra (rc (wb re (sA (pv 1) (qN T) (J0.mono (by decide))) (pv 0) (rb _))
   (ra (Sa (pv 1)))
   yc))))
   (ra (nH T.DL rfl (bI (pv 0) (by decide+kernel))))),?_⟩
  show let M0:TS:=_;ya _ M0 _ _ _
  intros;intro O e0 N0 O0 P0;have s1:=aa.cj (C:=T.dj) N0 O0 P0;have f0:=la (H:=upd H e0 (.own O)) (a:=O) (o:=HO.ins T.dj e0 []);generalize upd (upd H e0 (.own O)) O (.ins T.dj e0 [])=A0 at s1 f0⊢;intro U g0 Q0 R0 S0;have u0:=aa.cj (C:=T.ej) Q0 R0 S0;have h0:=la (H:=upd A0 g0 (.own U)) (a:=U) (o:=HO.ins T.ej g0 []);generalize upd (upd A0 g0 (.own U)) U (.ins T.ej g0 [])=B0 at u0 h0⊢;intro Y i0 T0 U0 V0;have q0:=aa.cj (C:=T.fj) T0 U0 V0;have j0:=la (H:=upd B0 i0 (.own Y)) (a:=Y) (o:=HO.ins T.fj i0 []);generalize upd (upd B0 i0 (.own Y)) Y (.ins T.fj i0 [])=C0 at q0 j0⊢;intro a0 l0 W0 X0 Y0;have m0:=aa.cj (C:=T.gj) W0 X0 Y0;have n0:=la (H:=upd C0 l0 (.own a0)) (a:=a0) (o:=HO.ins T.gj l0 []);generalize upd (upd C0 l0 (.own a0)) a0 (.ins T.gj l0 [])=D0 at m0 n0⊢;intro b0 o0 Z0 a1 b1;have c0:=aa.cj (C:=T.hj) Z0 a1 b1;have p0:=la (H:=upd D0 o0 (.own b0)) (a:=b0) (o:=HO.ins T.hj o0 []);generalize upd (upd D0 o0 (.own b0)) b0 (.ins T.hj o0 [])=F0 at c0 p0⊢;refine⟨Pg,λp c1=>?_⟩;have d0:=aa.upd (o:=HO.lst [V.ref O,.ref U,.ref Y,.ref a0,.ref b0]) c1;have v0:=la (H:=F0) (a:=p) (o:=HO.lst [V.ref O,.ref U,.ref Y,.ref a0,.ref b0]);have w0:=s1.trans (u0.trans (q0.trans (m0.trans (c0.trans d0))));replace f0:=d0 _ _ (c0 _ _ (m0 _ _ (q0 _ _ (u0 _ _ f0))));replace h0:=d0 _ _ (c0 _ _ (m0 _ _ (q0 _ _ h0)));replace j0:=d0 _ _ (c0 _ _ (m0 _ _ j0));replace n0:=d0 _ _ (c0 _ _ n0);replace p0:=d0 _ _ p0;generalize upd F0 p (HO.lst [V.ref O,.ref U,.ref Y,.ref a0,.ref b0])=G0 at v0 w0 f0 h0 j0 n0 p0⊢;have d1:∀(i:Nat)y,[V.ref O,.ref U,.ref Y,.ref a0,.ref b0][i]?=wP y->∃l a r0,ix l=i/\y=V.ref a/\G0 a=wP (.ins (cO T l) r0 []):=λi y J=>by
   match i,J with
   |0,J=>exact nx7 (.loose) O e0 rfl ((me J).symm) f0
   |1,J=>exact nx7 (.kept) U g0 rfl ((me J).symm) h0
   |2,J=>exact nx7 (.make) Y i0 rfl ((me J).symm) j0
   |3,J=>exact nx7 (.watch) a0 l0 rfl ((me J).symm) n0
   |4,J=>exact nx7 (.hold) b0 o0 rfl ((me J).symm) p0
   |n+5,J=>simp at J
  refine⟨p,rfl,⟨_,ia.of v0⟩,bf (K:=K)
   (λi s0 t0=>t0=G0/\∃(y:Option V),s0=[wP (.str x),y]/\∀l,ix l<i->x≠wd l)
   ⟨rfl,yP,rfl,λl h=>absurd h (Vp _)⟩ (by rintro i s0 t0 _⟨z,_⟩;exact z▸ia.of v0) ?_ ?_⟩
  ·rintro i y s0 t0 J;refine eb5 ?_;rintro x0 e1 rfl y0;subst x0;refine eb0 ?_ (d1 i y J);rintro l a r0 f1 rfl I0;refine⟨_,rfl,a,l,r0,[],rfl,I0,rfl,_,rfl,_,rfl,rfl,_,rfl,nc (λe=>?_) (λe=>?_)⟩
   ·exact⟨_,rfl,k l (V.str.inj (zc e)).symm a r0 _ w0 I0⟩
   ·refine⟨rfl,_,rfl,λz0 g1=>?_⟩;rcases Gn.mp g1 with z|z
    ·exact y0 z0 z
    ·have:z0=l:=by
      rw[<-f1]at z;cases z0<;>cases l<;>first|rfl|cases z
     grind
  ·rintro s0 t0;refine eb5 ?_;rintro x0 e1 rfl y0;subst x0;exact⟨_,rfl,x,rfl,K0,by lia,λr=>L0 (λl=>y0 l (by show ix l<5;cases l<;>decide)) _ w0⟩
--@vb
def Nj(x:Str):Lv:=if x="kept"then .kept else if x="make"then .make else if x="watch"then .watch else if x="hold"then .hold else .loose
def xr(h:x∈gc):wd (Nj x)=x:=by
 unfold gc at h;simp only[jb,qj,uj]at h;rcases h with rfl|rfl|rfl|rfl|rfl<;>decide+kernel
def HN(l:Lv):wd l∈gc:=by cases l<;>decide+kernel
def Lu(l:Lv):(wd l).length<=5/\∀c∈(wd l).cps.toList,c<128:=by
 cases l<;>decide+kernel
def IN(h:wd l=wd m):m=l:=by
 have key:∀l m:Lv,ix l≠ix m->wd l≠wd m:=by intro l m;cases l<;>cases m<;>decide+kernel
 by_cases e:ix l=ix m
 ·cases l<;>cases m<;>first|rfl|cases e
 simp_all
def wV:Option Str->V
 |none=>.Pa
 |some x=>.str x
def Mb(w:Option Str)(d:Dl):Lv:=Nj (w.getD d.2.1)
def Ie(w:Option Str)(d:Dl):List Nk:=(List.range (Gf (Mb w d) (d.2.2.length:Int)).toNat).map λj:Nat=>(d.1,(j:Int))
def xn(p:Ps):Prop:=p.1.length<=8/\(p.1.map (·.1)).Nodup/\∀d∈p.1,d.2.1∈gc/\d.2.2.length<=40
def Oj(x:Str):Prop:=x.length<=600/\∀c∈x.cps.toList,c<16^8
def Mu(h:x∈gc):Oj x:=by
 rw[<-xr h];exact⟨by have:=(Lu (Nj x)).1;lia,λc J=>Nat.lt_trans ((Lu (Nj x)).2 c J) (by decide)⟩
def yn(cls:Lv->BP)(H:Hp)(e:BP)(w:Option Str)(p:Ps):Prop:=∃J,H e=wP (.dK J)/\∀d∈p.1,∃a O,Oa J (Sum.inl d.1)=wP (.ref a)/\H a=wP (.ins (cls (Mb w d)) O [])
def yn.same{w:Option Str}(s:aa H H')(h:yn cls H e w p):yn cls H' e w p:=by obtain⟨J,a,b⟩:=h;exact⟨J,s _ _ a,λd O=>by refine ea8 ?_ (b d O);rintro x U c f;exact nx0 x U c (s _ _ f)⟩
inductive JN(cls:Lv->BP)(N:BP)(vs:List V)(H:Hp)(Q:VK)(E:XK):Prop|mk(v:V)(p:Ps)(w:Option Str)(_:vs=[v,wV w])(_:Tr H v (vd p))(_:xn p)(_:(∀x,w=wP x->Oj x))(_:((∀x,w=wP x->x∈gc)->∀e H',aa H H'->yn cls H' e w p->Q (.ref e) H'))(_:(∀x,w=wP x->x∉gc->∀H',aa H H'->E (.ref N) yP H'))
inductive LN(cls:Lv->BP)(vs:List V)(H:Hp)(Q:VK)(E:XK):Prop|mk(v:V)(a:BP)(d:Dl)(w:Option Str)(dx:BP)(_:vs=[v,.ref a])(_:Tr H v (Md d))(_:H a=wP (.ins (cls (Mb w d)) dx []))(_:d.2.2.length<=40)(_:∀D H' ys,H D=yP->aa H H'->H' D=wP (.lst ys)->Oc H' ys (Ie w d)->Q (.ref D) H')
inductive MN(cls:Lv->BP)(N:BP)(vs:List V)(H:Hp)(Q:VK)(E:XK):Prop|mk(v:V)(p:Ps)(w:Option Str)(_:vs=[v,wV w])(_:Tr H v (vd p))(_:xn p)(_:(∀x,w=wP x->Oj x))(_:((∀x,w=wP x->x∈gc)->∀D H' ys,H D=yP->aa H H'->H' D=wP (.lst ys)->Oc H' ys (p.1.flatMap (Ie w))->Q (.ref D) H'))(_:(∀x,w=wP x->x∉gc->∀H',aa H H'->E (.ref N) yP H'))
def Fk(h:Tr H v (vd p)):∃a l m J O,v=.ref a/\H a=wP (.tup [.ref l,.ref m])/\H l=wP (.lst J)/\ib H J (p.1.map Md)/\H m=wP (.lst O)/\ib H O (p.2.map ji):=by
 cases h with
 |tup h r=>
  cases r with
  |cons U r=>
   cases U with
   |lst Y a0=>
    cases r with
    |cons b0 r=>
     cases b0 with
     |lst c0 d0=>
      cases r;exact nx14 _ _ _ _ _ rfl h Y a0 ⟨c0,d0⟩
def lj(h:Tr H v (Md d)):∃p L J,v=.ref p/\H p=wP (.tup [.int d.1,.str d.2.1,.ref L])/\H L=wP (.lst J)/\ib H J (d.2.2.map yf):=by
 cases h with
 |tup h r=>
  cases r with
  |cons O r=>
   cases O;cases r with
   |cons U r=>
    cases U;cases r with
    |cons Y r=>
     cases Y with
     |lst a b=>
      cases r;exact nx1 _ _ _ rfl h a b
def Nu(w:Option Str)(d:Dl)(h:d.2.2.length<=40):0<=Gf (Mb w d) (d.2.2.length:Int)/\Gf (Mb w d) (d.2.2.length:Int)<=41:=by
 generalize Mb w d=l;cases l<;>simp only[Gf]<;>lia
def yr:∀(l a:List (Key×V)),((a++l).map (·.1)).Nodup->sk a l=a++l
 |[],a,_=>by simp[sk]
 |q::r,a,h=>by
  have e:lc a q.1 q.2=a++[q]:=LC (by
   unfold Oa
   grind)
  show sk (lc a q.1 q.2) r=_;rw[e,yr r (a++[q]) (by simpa using h)];simp
inductive Ou(cls:Lv->BP)(w:Option Str)(H:Hp)(y:V)(d:Dl):Prop|mk(t x dx)(_:y=.ref t)(_:H t=wP (.tup [.int d.1,.ref x]))(_:H x=wP (.ins (cls (Mb w d)) dx []))
def NN{w:Option Str}:∀H H' y d,KN H H'->Ou cls w H y d->Ou cls w H' y d:=by rintro H H' y d k⟨t,x,J,e,O,U⟩;exact⟨t,x,J,e,k _ _ (λxs z=>by cases z) O,k _ _ (λxs z=>by cases z) U⟩
def ON{cls:Lv->BP}{w:Option Str}{K:W.Frag}{H:Hp}{ys:List V}{O:List Dl}(g:Paired (Ou cls w H) ys O):∃J:List (Key×V),Il K H ys J/\J.map (·.1)=O.map (λd=>(Sum.inl d.1:Key))/\∀d∈O,∃x U,((Sum.inl d.1:Key),V.ref x)∈J/\H x=wP (.ins (cls (Mb w d)) U []):=by
 induction g with
 |nil=>exact⟨[],.nil,rfl,λd Y=>by cases Y⟩
 |@cons _ d _ _ r _ a0=>
  obtain⟨t,x,U,rfl,b0,c0⟩:=r;revert a0;refine ea7 ?_;rintro J a b c;refine⟨(Sum.inl d.1,.ref x)::J,.cons (Ba.of b0) a,by rw[ed,ed,b],λd' d0=>?_⟩
  grind
def hD:∀H H' y(n:Nk),KN H H'->Fb H y n->Fb H' y n:=by rintro H H' y n k⟨p,e,h⟩;exact⟨p,e,k _ _ (λxs z=>by cases z) h⟩
def iD(k:KN H H')(h:Oc H ys ns):Oc H' ys ns:=Paired.Ib h λ_ _ z=>hD _ _ _ _ k z
def jD(h:∀l,x≠wd l):x∉gc:=λz=>h (Nj x) (xr z).symm
def ng:∀{vs:List V}{as:List α},ib H vs (as.map J)->Paired (λv a=>Tr H v (J a)) vs as
 |_,[],.nil=>.nil
 |_,_::_,.cons h r=>.cons h (ng r)
def ny(T:Tx K mg):uc P w K mg base (ae P w) 3 T.fi.f T.fi.d ["past","word"] (JN (cO T) T.ah):=by
 refine Rz T.fi.F (jn (N:=Tf (mc (top 22)))) (λvs H Q E h=>?_) (λM0 A outer s H vs Q E d0 h=>?_)
 ·obtain⟨v,p,J,rfl,_⟩:=h;rfl
 ·obtain⟨v,p,J,rfl,tr,⟨N0,s0,t0⟩,e0,u0,v0⟩:=h;refine⟨_,(Ot (rc (wb Gm (pv 1) Pe (rb _))
   (ra (Qe (yh ((gD T).mono (by decide)) d0 rfl T.Ak.m T.Ak.F.kp T.Ak.b .nil (Qm λ_ _ _ z=>z) (La 1))))
   yc)
   (ra (Sa (Jm (Ht (K:=K) rfl rfl) (by rfl) T.kn FQ (Fa (vf ["deal"] ["word"] [1] (bc (Ea fc (pv 0) ka)) (Jd 0) Df (Tc (na (Ea (Ef (K:=K) rfl) (pv 0) ka) (Fa (yh ((gD T).mono (by decide)) d0 rfl T.Ak.m T.Ak.F.kp T.Ak.b .nil Jq (Fa (wv (wb Nv (pv 1) Pe (rb _)) (Ea (Ef (K:=K) rfl) (pv 0) ka) (pv 1))))))))))))),?_⟩
  show let w0:TS:=_;Rq (Ec _ _ _) w0 _ _ _
  intros;refine⟨λf0 g0=>f0=[wP v,wP (wV J)]/\aa H g0/\(∀x,J=wP x->x∈gc),?_,?_⟩
  ·cases J with
   |none=>exact⟨_,rfl,rfl,_,rfl,ud ⟨rfl,aa.refl _,λx e=>by cases e⟩⟩
   |some x=>exact⟨_,rfl,rfl,_,rfl,cf ⟨_,rfl,x,rfl,(e0 x rfl).1,(e0 x rfl).2,λl e a U H' s' _=>⟨rfl,s',λy x0=>by cases x0;rw[e];exact HN l⟩,λa0 H' s'=>v0 x rfl (jD a0) H' s'⟩⟩
  ·rintro f0 g0⟨rfl,s1,h0⟩;refine eb3 ?_ (Fk tr);rintro a l m O0 P0 rfl y0 i0 z0 _ _;refine⟨_,rfl,a,_,_,_,rfl,rfl,Ba.of (s1 _ _ y0),rfl,l,rfl,⟨_,ia.of (s1 _ _ i0)⟩,aj (fs:=[wP (wV J)]) (Ou (cO T) J) (λH v d=>Tr H v (Md d)) p.1 wP NN (λ_ _ _ _ j0 z=>z.same j0) rfl (s1 _ _ i0) (ng (z0.same s1)) (by have:DP=2^24:=rfl;lia) (λd b0 l0 Q0 v R j0 A0 B0 C0 _=>?_) (λD l0 ys R0 D0 F0 m0=>?_)⟩
   ·obtain⟨t,rfl⟩:=Ke.mp A0;refine ea4 ?_ (lj B0);rintro c0 L S0 rfl n0 _ _;obtain⟨G0,_⟩:=t0 d b0;refine⟨_,rfl,c0,_,_,_,rfl,rfl,Ba.of n0,rfl,?_⟩;have fin:∀(x:Str),x∈gc->Mb J d=Nj x->qC (cO T) T.ah [.str x] l0 (λy o0=>[V.int d.1,y].length<=DP/\∀q,o0 q=yP->R (wP (.ref q)) ([wP (.ref c0)]++[wP (wV J)]) (upd o0 q (.tup [.int d.1,y]))) (λ_ _ _=>False):=λx O I0=>by
     refine⟨x,rfl,(Mu O).1,(Mu O).2,λl e J0 U H' s' h'=>⟨Za,λq p0=>C0 d _ [_] _ rfl rfl (s'.trans (aa.upd p0)) ⟨q,J0,U,rfl,la,aa.upd p0 _ _ ?_⟩⟩,λa0=>absurd O (jD a0)⟩;have:Mb J d=l:=by
      rw[I0];exact IN (e.symm.trans (xr O).symm)
     rw[this];exact h'
    cases J with
    |none=>exact⟨_,rfl,rfl,_,rfl,cf (B:=_) ⟨_,rfl,c0,_,_,_,rfl,rfl,Ba.of n0,rfl,fin d.2.1 G0 rfl⟩⟩
    |some x=>exact⟨_,rfl,rfl,_,rfl,ud (A:=_) ⟨_,rfl,fin x (h0 x rfl) rfl⟩⟩
   ·rw[Js]at m0;obtain⟨Y,K0,pk,pv⟩:=ON m0;have T0:Y.length=p.1.length:=by have:=Ub List.length pk;simpa using this
    have q0:(Y.map (·.1)).Nodup:=by
     rw[pk];exact Be.mpr (rg (λz e=>z (Sum.inl.inj e)) (Be.mp s0))
    refine nx6 D ys Y rfl F0 K0 (by lia) λe r0=>u0 h0 e _ (s1.trans (D0.trans (aa.upd r0))) ⟨_,la,λd b0=>?_⟩;rw[yr Y [] (by simpa using q0)];refine ea8 ?_ (pv d b0);rintro x U L0 O;exact nx0 x U (jt q0 L0) (aa.upd r0 _ _ O)
def oy(T:Tx K mg):T.ir.Ok P w base 2 (LN (cO T)):=by
 refine sb T.ir.F λ_ _ _ _ b0 h=>?_
 ·obtain⟨v,a,d,O,c0,rfl,tr,d0,e0,q⟩:=h;refine⟨_,(ra (Sa (vf ["place"] ["deal"] [0] (yl rfl T.Bk (Fa (qw (pv 1) (wN T) (b0.mono (by decide)) (Fa (vc Xd (by rfl) T.Kd Cd (Fa (Ea fc (pv 0) ka))))))) (Jd 0) Df (Tc (na (Ea (Ef (K:=K) rfl) (pv 1) ka) (La 0)))))),?_⟩;refine ea4 ?_ (lj tr);rintro J L f0 rfl U g0 h0;have i0:f0.length=d.2.2.length:=by rw[h0.len,pa]
  have r0:=Nu O d e0;refine⟨_,rfl,a,Mb O d,c0,[],rfl,d0,rfl,_,rfl,J,_,_,_,rfl,rfl,Ba.of U,rfl,_,_,rfl,.inl ⟨_,ia.of g0,rfl⟩,_,_,rfl,?_⟩;rw[i0];refine⟨_,rfl,(by lia),(by omega),hK (fs:=[wP (.ref J)]) Fb _ (λj=>wP (d.1,(j:Int))) hD rfl (by have:DP=2^24:=rfl;lia) (λj s0 Y t0 R j0 l0 m0 _=>?_) (λD Y ys n0 o0 p0 a0=>q D Y ys n0 o0 p0 ?_)⟩
  ·obtain⟨t,rfl⟩:=Ke.mp l0;refine⟨_,rfl,J,_,_,_,rfl,rfl,Ba.of (j0 _ _ U),rfl,_,rfl,Za,λn q0=>m0 _ _ [_] _ rfl rfl (aa.upd q0) ⟨n,rfl,?_⟩⟩;rw[la,am]
  ·rw[Ek]at a0;exact a0
def PN(T:Tx K mg):uc P w K mg base (ae P w) 4 T.Wo.f T.Wo.d ["history","word"] (MN (cO T) T.ah):=by
 refine Vt T.Wo.F (jn (N:=Tf (mc (top 26)))) (λvs H Q E h=>?_) (λS0 A outer s H vs Q E e0 h=>?_)
 ·obtain⟨v,p,J,rfl,_⟩:=h;rfl
 ·obtain⟨v,p,J,rfl,tr,Y,n0,z0,T0⟩:=h;have A0:=Ue e0;refine⟨_,(va (Ua 2 (yh ((ny T).mono (by decide)) e0 rfl T.fi.m T.fi.F.kp T.fi.b .nil (Qm λ_ _ _ z=>z) (na (pv 0) (La 1))))
   (va (Ua 3 (kc Ad))
   (va (Oq (kd Qc rfl (bc (Ea fc (pv 0) ka)) (Db 4)
   (ra (Qe (Ee Oe bo Yn Co (pv 3) (Fa (xb T.ir (oy T) e0 (na (pv 4) (Fa (Sf A0 (pv 2) (Ea fc (pv 4) ka)))))))))))
   (ra (Sa (pv 3)))))),?_⟩
  show let B0:TS:=_;let C0:TS:=ya _ B0;let D0:TS:=ya _ C0;ya _ D0 _ _ _
  intros;by_cases f0:∀x,J=wP x->x∈gc
  ·refine⟨_,rfl,_,rfl,v,p,J,rfl,tr,Y,n0,λ_ e o0 s1 F0=>?_,λx e n=>absurd (f0 x e) n⟩;refine⟨(by decide),λF g0=>?_⟩;have G0:=la (H:=o0) (a:=F) (o:=HO.lst []);have h0:=aa.upd (o:=HO.lst []) g0;refine eb3 ?_ (Fk (tr.same s1));rintro a l m I0 U0 rfl J0 p0 q0 _ _;refine⟨_,rfl,a,_,_,_,rfl,rfl,Ba.of (h0 _ _ J0),rfl,l,rfl,⟨_,ia.of (h0 _ _ p0)⟩,bf (K:=K) (λi b0 U=>∃(i0:Option V)(ys:List V),b0=[wP (.ref a),wP (wV J),wP (.ref e),wP (.ref F),i0]/\aa o0 U/\U F=wP (.lst ys)/\ys.length<=41*i/\Oc U ys ((p.1.take i).flatMap (Ie J))) (nx19 yP ([]) rfl h0 G0 (xa _) (.nil)) (by rintro i b0 U _⟨_,_,_,O,_⟩;exact ia.of (O _ _ p0)) ?_ ?_⟩
   ·rintro i y b0 U K0;refine eb4 ?_;rintro i0 ys rfl O a0 L0 pn;refine ea1 ?_ (q0.get K0);rintro dd r0 s0;rw[fb]at r0;refine ea1 ?_ (Jf.mp r0);rintro d j0 rfl;have l0:=yb j0;have V0:i<8:=by have:=(Zb.mp j0).1;have:=Y.1;lia
    refine ea1 ?_ (F0.same O);rintro W0 M0 N0;refine ea8 ?_ (N0 d l0);rintro x O0 P0 m0;refine ea4 ?_ (lj (s0.same O));rintro t0 L X0 rfl Q0 _ _;have u0:=Zd.k (k:=Sum.inl d.1) M0;rw[P0]at u0;refine⟨_,rfl,Or.inl ⟨rfl,_,ia.of a0⟩,_,rfl,_,rfl,_,rfl,t0,_,_,_,rfl,rfl,Ba.of Q0,rfl,e,_,rfl,u0,.ref t0,x,d,J,O0,rfl,s0.same O,m0,(Y.2.2 d l0).2,λD Y0 c0 Z0 d0 R0 v0=>?_⟩;have a1:c0.length<=41:=by
     rw[qb v0];unfold Ie;rw[pa,gf];have:=Nu J d (Y.2.2 d l0).2;simp_all
    refine⟨F,D,ys,c0,rfl,rfl,d0 _ _ a0,R0,(by have:DP=2^24:=rfl;lia),?_⟩;have w0:=KN.upd (o:=HO.lst (ys++c0)) (d0 _ _ a0);refine nx19 _ _ rfl (λb o x0=>?_) la (by rw[Ac];lia) ?_
    ·rw[oa (show b≠F from lb x0 g0)];exact d0 _ _ (O _ _ x0)
    ·rw[qc,j0,Xk];refine ef (iD ((KN.of d0).trans w0) pn) ?_;show Oc _ c0 (List.flatMap (Ie J) [d]);rw[Ki,qm,z1m];exact iD w0 v0
   ·rintro b0 U;refine eb4 ?_;rintro i0 ys rfl O a0 L0 pn;have:I0.length=p.1.length:=by rw[q0.len,pa]
    rw[this,Ic]at pn;exact⟨_,rfl,z0 f0 F U ys (s1.free g0) (s1.trans O) a0 pn⟩
  ·cases J with
   |none=>contradiction
   |some x=>
    have m0:=λz=>f0 λy y0=>by cases y0;exact z
    exact⟨_,rfl,_,rfl,v,p,wP x,rfl,tr,Y,n0,λh=>absurd (h x rfl) m0,λy y0 n H' s'=>by simp[*]⟩
--@vb
def zn(w:Option Str)(d:Dl):Nk:=(d.1,Gf (Mb w d) (d.2.2.length:Int)-1)
def zr(w:Option Str)(d:Dl):Nk:=(d.1,er (Mb w d) (d.2.2.length:Int))
def py(H:Hp)(e:BP)(p:Ps)(f:Dl->Nk):Prop:=∃J,H e=wP (.dK J)/\∀d∈p.1,∃v,Oa J (.inl d.1)=wP v/\Fb H v (f d)
inductive kD(cls:Lv->BP)(f:Option Str->Dl->Nk)(vs:List V)(H:Hp)(Q:VK)(E:XK):Prop|mk(v:V)(e:BP)(p:Ps)(w:Option Str)(_:vs=[v,.ref e])(_:Tr H v (vd p))(_:xn p)(_:yn cls H e w p)(_:∀k H',aa H H'->py H' k p (f w)->Q (.ref k) H')
def Ar(p:Ps)(n:Int):Option Dl:=p.1.find? λd=>decide (d.1=n)
def lD(h:xs[xs.length-1]?=wP v):Bd xs (-1)=wP v:=by
 have J:=(Zb.mp h).1;unfold Bd hg;rw[ma (by decide),wa (by lia)];have e:(-1+(xs.length:Int)).toNat=xs.length-1:=by lia
 simpa[e]using h
def Pu(h:Tr H v (Jg p)):∃a,v=.ref a/\H a=wP (.tup [.int p.1,.int p.2]):=by
 cases h with
 |tup h r=>
  cases r with
  |cons J r=>
   cases r with
   |cons O r=>
    cases r;cases J;cases O;exact⟨_,rfl,h⟩
def Qu(h:Tr H v (.list J)):∃a xs,v=.ref a/\H a=wP (.lst xs)/\ib H xs J:=by
 cases h with
 |lst h r=>exact nx5 _ _ rfl h r
def Br(f:Dl->Nk)(H:Hp)(y:V)(d:Dl):Prop:=∃t v,y=.ref t/\H t=wP (.tup [.int d.1,v])/\Fb H v (f d)
def mD(f:Dl->Nk):∀H H' y d,KN H H'->Br f H y d->Br f H' y d:=by rintro H H' y d k⟨t,v,e,J,q,O,U⟩;exact⟨t,nx18 v e (k _ _ (λ_ z=>by cases z) J) q ⟨O,k _ _ (λ_ z=>by cases z) U⟩⟩
def nD{K:W.Frag}{f:Dl->Nk}{H:Hp}{ys:List V}{O:List Dl}(g:Paired (Br f H) ys O):∃J:List (Key×V),Il K H ys J/\J.map (·.1)=O.map (λd=>Sum.inl d.1)/\∀d∈O,∃v,(Sum.inl d.1,v)∈J/\Fb H v (f d):=by
 induction g with
 |nil=>exact⟨[],.nil,rfl,λd U=>by cases U⟩
 |@cons _ Y _ _ h _ a0=>
  revert a0;refine ea7 ?_;rintro J b0 c0 e0;revert h;refine ea0 ?_;rintro t' v rfl d0 f0;refine⟨(.inl Y.1,v)::J,.cons (Ba.of d0) b0,by rw[ed,ed,c0],λd U=>?_⟩
  grind
def pD{J:List Dl}(O:(J.map (·.1)).Nodup):(J.map (λd=>(Sum.inl d.1:Key))).Nodup:=Be.mpr (rg (λz e=>z (Sum.inl.inj e)) (Be.mp O))
def QN{p:Ps}(J:(p.1.map (·.1)).Nodup){d:Dl}(h:d∈p.1):Ar p d.1=wP d:=by
 unfold Ar;generalize p.1=l at*;induction l with
 |nil=>cases h
 |cons x r O=>
  grind
def Fb.sm(s:aa H H')(h:Fb H v q):Fb H' v q:=by obtain⟨p,e,J⟩:=h;exact⟨p,e,s _ _ J⟩
def RN(s:aa H H')(h:Oc H ys ns):Oc H' ys ns:=Paired.imp' (λ_ _ x=>Fb.sm s x) h
def SN(xs:List V):xg xs (wP 1) yP=xs.drop 1:=by
 unfold xg;rw[show(wP (1:Int))=wP ((1:Nat):Int)from rfl,HT.qd,HT.se];by_cases h:1<=xs.length
 ·rw[eo h,gl (by rw[dg];exact xa _)]
 ·rw[Mh (by simp_all),Mh (by simp_all),List.take_nil]
def qD(T:Tx K mg):T.zu.Ok P w base 3 (kD (cO T) zn):=by
 refine sb T.zu.F λH _ _ _ h0 h=>?_
 ·obtain⟨v,e,p,J,rfl,tr,s0,t0,q⟩:=h;have u0:=Ue h0;refine⟨_,(ra (Sa (Jm (Ht (K:=K) rfl rfl) (by rfl) T.kn FQ (Fa (vf ["deal"] ["levels"] [1] (bc (Ea fc (pv 0) ka)) (Jd 0) Df (Tc (na (Ea (Ef (K:=K) rfl) (pv 0) ka) (Fa (Ea (Lq (K:=K) rfl) (xb T.ir (oy T) h0 (na (pv 0) (Fa (Sf u0 (pv 1) (Ea (Ef (K:=K) rfl) (pv 0) ka))))) (Em Fm ka)))))))))),?_⟩;revert s0;refine ea3 ?_;rintro R0 v0 w0;refine eb3 ?_ (Fk tr);rintro a l m S0 T0 rfl x0 i0 y0 _ _;refine⟨_,rfl,a,_,_,_,rfl,rfl,Ba.of x0,rfl,l,rfl,⟨_,ia.of i0⟩,aj (k:=1) (fs:=[wP (.ref e)]) (Br (zn J)) (λH v d=>Tr H v (Md d)) p.1 wP (mD _) (λ_ _ _ _ c0 z=>z.same c0) rfl i0 (ng y0) (by have:DP=2^24:=rfl;lia) (λd U z0 U0 v R c0 A0 j0 B0 _=>?_) λD z0 ys V0 C0 D0 l0=>?_⟩
  ·obtain⟨t,rfl⟩:=Ke.mp A0;refine ea4 ?_ (lj j0);rintro d0 L W0 rfl m0 _ _;refine ea1 ?_ (t0.same c0);rintro X0 Y F0;refine ea8 ?_ (F0 d U);rintro x G0 I0 J0;have n0:=Zd.k (k:=Sum.inl d.1) Y;rw[I0]at n0;refine⟨_,rfl,d0,_,_,_,rfl,rfl,Ba.of m0,rfl,_,rfl,_,rfl,_,rfl,d0,_,_,_,rfl,rfl,Ba.of m0,rfl,e,_,rfl,n0,.ref d0,x,d,J,G0,rfl,j0,J0,(w0 d U).2,λK0 Y0 O Z0 L0 M0 pn=>?_⟩;have a1:1<=Gf (Mb J d) (d.2.2.length:Int):=by
    generalize Mb J d=N0;cases N0<;>simp only[Gf]<;>lia
   have b1:O.length=(Gf (Mb J d) (d.2.2.length:Int)).toNat:=by
    rw[qb pn];unfold Ie
    simp_all
   obtain⟨a0,o0⟩:∃a0,O[O.length-1]?=wP a0:=⟨_,Pd (by grind)⟩;refine ea1 ?_ (Wb pn o0);rintro O0 e0 p0;have ek:O0=zn J d:=by
    unfold Ie at e0;rw[fb,List.getElem?_range (by grind)]at e0;have:=(me e0).symm;rw[this];unfold zn;refine yi rfl ?_;show((O.length-1:Nat):Int)=_;grind
   rw[ek]at p0;refine⟨_,rfl,K0,O,_,a0,rfl,rfl,ia.of M0,lD o0,Za,λt q0=>B0 d _ [_] _ rfl rfl (L0.trans (aa.upd q0)) (nx5 t a0 rfl la ?_)⟩;obtain⟨f0,eq,g0⟩:=p0;exact⟨f0,eq,aa.upd q0 _ _ g0⟩
  ·rw[Js]at l0;obtain⟨b0,P0,pk,pv⟩:=nD l0;have c1:b0.length=p.1.length:=by have:=Ub List.length pk;simpa using this
   have r0:(b0.map (·.1)).Nodup:=by rw[pk];exact pD v0
   refine nx6 D ys b0 rfl D0 P0 (by lia) λk Y=>q k _ (C0.trans (aa.upd Y)) ⟨_,la,λd U=>?_⟩;rw[yr b0 [] (by simpa using r0)];refine ec7 ?_ (pv d U);rintro v Q0 f0 eq g0;exact nx9 v (jt r0 Q0) f0 ⟨eq,aa.upd Y _ _ g0⟩
def TN(T:Tx K mg):T.mx.Ok P w base 2 (kD (cO T) zr):=by
 refine sb T.mx.F λH _ _ _ c0 h=>?_
 ·obtain⟨v,e,p,d0,rfl,tr,j0,l0,q⟩:=h;have m0:=Ue c0;refine⟨_,(ra (Sa (Jm (Ht (K:=K) rfl rfl) (by rfl) T.kn FQ (Fa (vf ["deal"] ["levels"] [1] (bc (Ea fc (pv 0) ka)) (Jd 0) Df (Tc (na (Ea (Ef (K:=K) rfl) (pv 0) ka) (Fa (Tc (na (Ea (Ef (K:=K) rfl) (pv 0) ka) (Fa (qw (Sf m0 (pv 1) (Ea (Ef (K:=K) rfl) (pv 0) ka)) (EN T) (c0.mono (by decide)) (Fa (vc (lK (K:=K) rfl) (by rfl) T.Kd Cd (Fa (Ea (Ef (K:=K) rfl) (pv 0) ka)))))))))))))))),?_⟩;revert j0;refine ea3 ?_;rintro M0 n0 N0;refine eb3 ?_ (Fk tr);rintro a l m O0 P0 rfl o0 e0 p0 _ _;refine⟨_,rfl,a,_,_,_,rfl,rfl,Ba.of o0,rfl,l,rfl,⟨_,ia.of e0⟩,aj (fs:=[wP (.ref e)]) (Br (zr d0)) (λH v d=>Tr H v (Md d)) p.1 wP (mD _) (λ_ _ _ _ a0 z=>z.same a0) rfl e0 (ng p0) (by have:DP=2^24:=rfl;lia) (λd b0 q0 Q0 v R a0 r0 s0 t0 _=>?_) λD q0 ys R0 u0 v0 f0=>?_⟩
  ·obtain⟨t,rfl⟩:=Ke.mp r0;refine ea4 ?_ (lj s0);rintro J L w0 rfl O x0 y0;have z0:w0.length=d.2.2.length:=by rw[y0.len,pa]
   refine ea1 ?_ (l0.same a0);rintro S0 U A0;refine ea8 ?_ (A0 d b0);rintro x B0 C0 D0;have g0:=Zd.k (k:=Sum.inl d.1) U;rw[C0]at g0;refine⟨_,rfl,J,_,_,_,rfl,rfl,Ba.of O,rfl,_,rfl,J,_,_,_,rfl,rfl,Ba.of O,rfl,_,rfl,_,rfl,J,_,_,_,rfl,rfl,Ba.of O,rfl,e,_,rfl,g0,x,Mb d0 d,B0,[],rfl,D0,rfl,_,rfl,J,_,_,_,rfl,rfl,Ba.of O,rfl,_,_,rfl,.inl ⟨_,ia.of x0,rfl⟩,_,_,rfl,?_⟩;rw[z0];refine⟨Za,λt F0=>⟨Za,λG0 h0=>t0 d _ [_] _ rfl rfl ((aa.upd F0).trans (aa.upd h0)) (⟨G0,nx18 (.ref t) rfl la t ⟨rfl,aa.upd h0 _ _ la⟩⟩)⟩⟩
  ·rw[Js]at f0;obtain⟨Y,I0,pk,pv⟩:=nD f0;have T0:Y.length=p.1.length:=by have:=Ub List.length pk;simpa using this
   have i0:(Y.map (·.1)).Nodup:=by rw[pk];exact pD n0
   refine nx6 D ys Y rfl v0 I0 (by lia) λk U=>q k _ (u0.trans (aa.upd U)) ⟨_,la,λd b0=>?_⟩;rw[yr Y [] (by simpa using i0)];refine ec7 ?_ (pv d b0);rintro v J0 K0 eq L0;exact nx9 v (jt i0 J0) K0 ⟨eq,aa.upd U _ _ L0⟩
--@vb
def Nd{α:Type}:List α->List (α×α)
 |[]=>[]
 |x::r=>r.map (λy=>(x,y))++Nd r
def Ru:∀{xs:List α},(a,b)∈Nd xs->a∈xs/\b∈xs
 |x::r,h=>by
  rcases Xb.mp h with z|z
  ·obtain⟨y,J,e⟩:=Ya.mp z;cases e;exact⟨.head _,.tail _ J⟩
  ·exact(Ru z).imp (.tail _) (.tail _)
def jh(w:Option Str)(p:Ps)(m:Int):Nk:=match Ar p m with
 |some d=>zn w d
 |none=>(m,0)
def An(w:Option Str)(p:Ps)(m:Int):Nk:=match Ar p m with
 |some d=>zr w d
 |none=>(m,0)
def Pj(w:Option Str)(d:Dl):List Eg:=(Nd (Ie w d)).map λq=>(q.1,q.2,"own",yP)
def Kh(ms:List Int)(s:Int):Nat:=if s=0 then 0 else ms.idxOf s+1
def ni(w:Option Str)(p:Ps)(n pl:Int)(q:Pr):List Eg:=if q.2=-1 then[]else
 (((Ia p.2 q.1).take (Kh (Ia p.2 q.1) q.2)).filter λm=>decide (m≠n)).map (λm=>((jh w p m,(n,pl),"saw",wP q.1):Eg))++
 (((Ia p.2 q.1).drop (Kh (Ia p.2 q.1) q.2)).filter λm=>decide (m≠n)).map (λm=>(((n,pl),jh w p m,"unseen",wP q.1):Eg))
def oi(w:Option Str)(p:Ps)(d:Dl)(i:Nat):List Eg:=match zk (Mb w d) (i:Int)with
 |none=>[]
 |some pl=>(d.2.2.getD i []).flatMap (ni w p d.1 pl)
def mj(w:Option Str)(p:Ps)(d:Dl):List Eg:=(List.range d.2.2.length).flatMap (oi w p d)
def Gk(w:Option Str)(p:Ps)(m:kb):List Eg:=(Nd m.2).map λq=>(jh w p q.1,An w p q.2,"over",wP m.1)
def Sl(w:Option Str)(p:Ps):List Eg:=p.1.flatMap (Pj w)++p.1.flatMap (mj w p)++p.2.flatMap (Gk w p)
structure GH(p:Ps):Prop where
 gp:xn p
 nums:(p.1.map (·.1)).Pairwise (·<·)
 pos:∀d∈p.1,0<d.1
 keys:(p.2.map (·.1)).Pairwise (·<·)
 Bn:p.2.length<=30
 rD:∀m∈p.2,m.2.Nodup/\∀x∈m.2,x∈p.1.map (·.1)
 qy:∀d∈p.1,∀lk∈d.2.2,lk.length<=3/\∀q∈lk,q.2=-1\/q.2=0\/q.2∈Ia p.2 q.1
def kh(w:Option Str)(p:Ps):List Nk:=p.1.flatMap (Ie w)
def ry{w:Option Str}:n∈kh w p↔∃d∈p.1,d.1=n.1/\0<=n.2/\n.2<Gf (Mb w d) (d.2.2.length:Int):=by
 unfold kh Ie;rw[si];constructor
 ·refine ea1 ?_;rintro d J h;refine ea1 ?_ (Ya.mp h);rintro j O rfl;have:=Af.mp O;exact⟨d,J,rfl,(by simp_all),(by simp_all)⟩
 ·refine eb2 ?_;rintro d J e U Y;exact⟨d,J,Ya.mpr ⟨n.2.toNat,Af.mpr (by lia),yi e (by lia)⟩⟩
def GH.at(g:GH p)(h:d∈p.1):Ar p d.1=wP d:=QN g.gp.2.1 h
def GH.num{p:Ps}(g:GH p){k x:Int}(h:x∈Ia p.2 k):(∃d∈p.1,d.1=x)/\0<x/\k∈p.2.map (·.1)/\(Ia p.2 k).Nodup:=by
 by_cases J:k∈p.2.map (·.1)
 ·have U:=yb (lg J);obtain⟨Y,a0⟩:=g.rD _ U;refine ea1 ?_ (Ya.mp (a0 x h));rintro d O e;exact⟨⟨d,O,e⟩,e▸g.pos d O,J,Y⟩
 ·rw[ij J]at h;cases h
def GH.sy(g:GH p)(k:Int):(Ia p.2 k).Nodup:=by
 by_cases J:k∈p.2.map (·.1)
 ·exact(g.rD _ (yb (lg J))).1
 ·rw[ij J];exact .nil
def uy(g:GH p)(h:m∈p.2):Ia p.2 m.1=m.2:=by
 have U:m.1∈p.2.map (·.1):=Ya.mpr ⟨m,h,rfl⟩;have J:=lg U;obtain⟨i,hi⟩:=ze.mp h;have Y:(p.2.map (·.1)).Nodup:=rg (λz=>by lia) g.keys;have O:(p.2.map (·.1))[i]?=wP m.1:=by rw[fb,hi];rfl
 have a0:(p.2.map (·.1))[ff p.2 m.1]?=wP m.1:=by rw[fb,J];rfl
 have b0:=(Lp (Zb.mp O).1 Y).mp (O.trans a0.symm);rw[<-b0,hi]at J;exact(Ub Prod.snd (me J)).symm
def sD{w:Option Str}(g:GH p)(h:d∈p.1):jh w p d.1=zn w d:=by unfold jh;rw[g.at h]
def tD{w:Option Str}(g:GH p)(h:d∈p.1):An w p d.1=zr w d:=by unfold An;rw[g.at h]
def Su{w:Option Str}(g:GH p)(h:∃d∈p.1,d.1=x):jh w p x∈kh w p/\(jh w p x).1=x/\An w p x∈kh w p/\(An w p x).1=x:=by
 obtain⟨d,J,rfl⟩:=h;rw[sD g J,tD g J];have O:1<=Gf (Mb w d) (d.2.2.length:Int)/\0<=er (Mb w d) (d.2.2.length:Int)/\er (Mb w d) (d.2.2.length:Int)<Gf (Mb w d) (d.2.2.length:Int):=by
  generalize Mb w d=l;cases l<;>simp only[Gf,er]<;>lia
 exact⟨ry.mpr ⟨d,J,rfl,(by show 0<=Gf _ _-1;simp_all),(by show Gf _ _-1<_;lia)⟩,rfl,ry.mpr ⟨d,J,rfl,O.2.1,O.2.2⟩,rfl⟩
def UN{i n:Nat}(h:zk l (i:Int)=wP pl)(hi:i<n):0<=pl/\pl<Gf l (n:Int):=by
 cases l<;>simp only[zk,Gf]at h⊢<;>first|(injection h with h;lia)|(cases h)
def uD(w:Option Str)(p:Ps)(x:Eg):Prop:=(x.1∈kh w p/\x.2.1∈kh w p)/\xk x
def vD{w:Option Str}{p:Ps}(g:GH p){x:Eg}(h:x∈Sl w p):uD w p x:=by
 have U:∀{s:Str}{k:Int}{a b:Nk},s="saw"\/s="unseen"\/s="over"->xk (a,b,s,wP k):=λ{s _ _ _}h=>⟨.inr h,λe=>by have e:s="own":=e;rcases h with rfl|rfl|rfl<;>exact absurd e (by decide+kernel),λe=>by cases e⟩
 rcases Xb.mp h with h|h
 ·rcases Xb.mp h with h|h
  ·obtain⟨d,O,h⟩:=si.mp h;obtain⟨q,Y,rfl⟩:=Ya.mp h;have m:=Ru Y;exact⟨⟨si.mpr ⟨d,O,m.1⟩,si.mpr ⟨d,O,m.2⟩⟩,.inl rfl,by simp⟩
  ·obtain⟨d,O,h⟩:=si.mp h;obtain⟨i,hi,h⟩:=si.mp h;unfold oi at h;split at h
   ·cases h
   ·next pl b0=>
    obtain⟨q,_,h⟩:=si.mp h;have l:=UN b0 (Af.mp hi);have a0:(d.1,pl)∈kh w p:=ry.mpr ⟨d,O,rfl,l.1,l.2⟩;unfold ni at h;split at h
    ·cases h
    ·rcases Xb.mp h with h|h
     ·obtain⟨m,J,rfl⟩:=Ya.mp h;exact⟨⟨(Su g (g.num (List.mem_of_mem_take (im.mp J).1)).1).1,a0⟩,U (.inl rfl)⟩
     ·obtain⟨m,J,rfl⟩:=Ya.mp h;exact⟨⟨a0,(Su g (g.num (List.mem_of_mem_drop (im.mp J).1)).1).1⟩,U (.inr (.inl rfl))⟩
 ·obtain⟨m,J,h⟩:=si.mp h;obtain⟨q,Y,rfl⟩:=Ya.mp h;have z:=Ru Y;rw[<-uy g J]at z;exact⟨⟨(Su g (g.num z.1).1).1,(Su g (g.num z.2).1).2.2.1⟩,U (.inr (.inr rfl))⟩
--@vb
def VN(ms:List kb)(k:Int)(ch:List Int)(J:Int):ff (kg ms k ch) J=ff ms J:=by unfold ff;rw[qp]
def WN{ms:List kb}{k:Int}(h:k∉ms.map (·.1))(ch:List Int):kg ms k ch=ms:=by
 unfold kg;rw[mv];have:=Wn h;unfold ff
 grind
def vy{ms:List kb}{k:Int}(O:k∈ms.map (·.1))(ch:List Int)(J:Int):Ia (kg ms k ch) J=if J=k then ch else Ia ms J:=by
 have a0:=lg O;have Y:=Px O;unfold Ia;rw[VN];unfold kg;rw[List.getElem?_set];by_cases e:J=k
 ·simp_all
 ·split
  ·next z=>
   by_cases U:J∈ms.map (·.1)
   ·have b0:=lg U
    simp_all
   ·have:=Wn U;rw[pa]at this;unfold ff at z Y;simp_all
  ·rfl
def XN{ms:List kb}{k:Int}(O:k∉ms.map (·.1))(n:Int)(J:Int):Ia (ms++[(k,[n])]) J=if J=k then[n]else Ia ms J:=by
 unfold Ia ff;rw[Le];by_cases h:J∈ms.map (·.1)
 ·rw[ma (λ(z:J=k)=>O (z▸h)),List.idxOf_append,wa h,Ms (show List.idxOf J (ms.map (·.1))<ms.length from Px h)]
 ·rw[List.idxOf_append,ma h,pa,iv (Nat.le_add_left _ _)];by_cases e:J=k
  ·subst e;simp
  ·have:ms[List.idxOf J (ms.map (·.1))]?=yP:=vj (by rw[Wn h,pa];exact xa _);rw[ma e,this,vj];have:List.idxOf J [k]=1:=by rw[List.idxOf_cons,show(k==J)=GP from rm.mpr λz=>e z.symm];rfl
   show 1<=List.idxOf J [k]+ms.length-ms.length;lia
def YN(ms:List kb)(k n J:Int):Ia (Kg ms k n) J=if J=k then Ia ms k++[n]else Ia ms J:=by
 unfold Kg;split
 ·next h=>exact vy h _ _
 ·next h=>
  rw[XN h,ij h];rfl
def ZN(l:List Int)(f:Int->List Int)(k:Int):Ia (l.map λx=>(x,f x)) k=if k∈l then f k else[]:=by
 have e:(l.map λx=>(x,f x)).map (·.1)=l:=by rw[Hc];exact List.map_id _
 split
 ·next h=>
  have Y:k∈(l.map λx=>(x,f x)).map (·.1):=by rw[e];exact h
  have J:=lg Y;rw[fb]at J;obtain⟨y,b0,O⟩:=Jf.mp J;have a0:y=k:=Ub Prod.fst O;have U:=Ub Prod.snd O;rw[a0]at U;exact U.symm
 ·next h=>exact ij (by rw[e];exact h)
def aO{ms:List kb}(U:(ms.map (·.1)).Nodup){m:kb}(h:m∈ms):Ia ms m.1=m.2:=by
 have Y:m.1∈ms.map (·.1):=Ya.mpr ⟨m,h,rfl⟩;have J:=lg Y;obtain⟨i,hi⟩:=ze.mp h;have O:(ms.map (·.1))[i]?=wP m.1:=by rw[fb,hi];rfl
 have a0:(ms.map (·.1))[ff ms m.1]?=wP m.1:=by rw[fb,J];rfl
 have b0:=(Lp (Zb.mp O).1 U).mp (O.trans a0.symm);rw[<-b0,hi]at J;exact(Ub Prod.snd (me J)).symm
def wD(c:Int)(ch:List Int):(jj c ch).Perm ch:=by
 unfold jj;split
 ·next h=>
  have O:=Ph (qa c 4) (show(0:Int)<(ch.length:Int)-1 by lia);generalize U:(1+qa c 4%((ch.length:Int)-1)).toNat=j;have J:j<ch.length:=by omega
  refine List.perm_middle.trans ?_;rw[Bi,Qj,Pd J];show(ch[j]::ch.eraseIdx j).Perm ch;rw[List.eraseIdx_eq_take_drop_succ];refine List.perm_middle.symm.trans ?_;rw[<-ao J,Bi]
 ·exact .refl _
structure SG(st:List Dl×List kb):Prop where
 k:(st.2.map (·.1)).Nodup
 c:∀k,(Ia st.2 k).Nodup/\∀x∈Ia st.2 k,x∈st.1.map (·.1)
 s:∀d∈st.1,∀lk∈d.2.2,∀q∈lk,q.2=-1\/q.2=0\/q.2∈Ia st.2 q.1
def bO:(mi ms c n key).getD i 0=-1\/(mi ms c n key).getD i 0=0\/(mi ms c n key).getD i 0∈Ia ms key:=by
 rw[Qj];cases e:(mi ms c n key)[i]? with
 |none=>simp_all
 |some y=>
  have J:=yb e;unfold mi at J
  grind
def SG.Cr{st:List Dl×List kb}(h:SG st)(c:Int):SG (hh st c):=by
 unfold hh;dsimp only;split
 ·generalize(Yc (st.2.map (·.1))).getD (qa c 3%(st.2.length:Int)).toNat 0=k;by_cases a0:k∈st.2.map (·.1)
  ·have d0:∀O x,x∈Ia (kg st.2 k (jj c (Ia st.2 k))) O↔x∈Ia st.2 O:=λO x=>by
    rw[vy a0];split
    ·next e=>rw[e];exact(wD c _).mem_iff
    rfl
   refine⟨by rw[qp];exact h.k,λO=>⟨?_,λx b0=>(h.c O).2 x ((d0 O x).mp b0)⟩,λd Y lk U q J=>?_⟩
   ·rw[vy a0];split
    ·exact(wD c _).nodup_iff.mpr (h.c k).1
    ·exact(h.c O).1
   ·rcases h.s d Y lk U q J with z|z|z
    ·exact .inl z
    ·exact .inr (.inl z)
    ·exact .inr (.inr ((d0 _ _).mpr z))
  ·rw[WN a0];exact h
 ·split
  ·next e=>
   generalize hi:(qa c 2%(st.1.length:Int)).toNat=i at*;by_cases e0:i<st.1.length
   ·have f0:=df (d:=zD) e0;generalize st.1.getD i zD=d at*;have Y:=yb f0;have em:(st.1.set i (d.1,d.2.1,d.2.2.set (qa c 3%(d.2.2.length:Int)).toNat (rp st.2 c d.1 (d.2.2.getD (qa c 3%(d.2.2.length:Int)).toNat [])))).map (·.1)=st.1.map (·.1):=by
     rw[Fi];exact Ha.bb (by simp_all)
    refine⟨h.k,λk=>⟨(h.c k).1,λx b0=>by rw[em];exact(h.c k).2 x b0⟩,λd' g0 lk U q J=>?_⟩;rcases Sj g0 with z|z
    ·exact h.s d' z lk U q J
    ·rw[z]at U;rcases Sj U with z|z
     ·exact h.s d Y lk z q J
     ·rw[z]at J;have old:∀q∈d.2.2.getD (qa c 3%(d.2.2.length:Int)).toNat [],q.2=-1\/q.2=0\/q.2∈Ia st.2 q.1:=λq J=>by
       rw[Qj]at J;cases c0:d.2.2[(qa c 3%(d.2.2.length:Int)).toNat]? with
       |none=>rw[c0]at J;cases J
       |some l=>rw[c0]at J;exact h.s d Y l (yb c0) q J
      unfold rp at J;rcases Sj J with z|z
      ·exact old q z
      ·rw[z];exact bO
   ·exfalso;rw[Qj,vj (by simp_all)]at e;exact e.1 rfl
  ·exact h
def SG.sp{st:List Dl×List kb}(h:SG st)(c:Int):SG (je st c):=by
 unfold je;split
 ·exact h.Cr _
 ·exact h
def xD(Y:ks.Nodup)(U:∀k,(Ia ms k).Nodup/\n∉Ia ms k):∀i,i<=ks.length->∀k,(Ia (ie ks n made ms i) k).Nodup/\(∀x∈Ia (ie ks n made ms i) k,x=n\/x∈Ia ms k)/\(n∈Ia (ie ks n made ms i) k->∃j,j<i/\ks.getD j 0=k)
 |0,_,k=>⟨(U k).1,λx J=>.inr J,λJ=>absurd J (U k).2⟩
 |i+1,hi,k=>by
  have a0:=xD Y (made:=made) U i (by lia);refine ea3 ?_ (a0 k);rintro b0 c0 d0;unfold ie;split
  ·rw[YN];split
   ·next e=>
    have h0:n∉Ia (ie ks n made ms i) (ks.getD i 0):=λz=>by
     obtain⟨j,e0,O⟩:=(a0 (ks.getD i 0)).2.2 z;have f0:ks[j]?=wP (ks.getD j 0):=df (by lia);have g0:ks[i]?=wP (ks.getD i 0):=df (by lia);rw[O]at f0;have:=(Lp (by lia) Y).mp (f0.trans g0.symm);lia
    grind
   ·exact⟨b0,c0,λJ=>by obtain⟨j,e0,O⟩:=d0 J;exact⟨j,by lia,O⟩⟩
  ·exact⟨b0,c0,λJ=>by obtain⟨j,e0,O⟩:=d0 J;exact⟨j,by lia,O⟩⟩
def wy{ks:List Int}{n made:Int}{ms:List kb}(h:(ms.map (·.1)).Nodup):∀i,((ie ks n made ms i).map (·.1)).Nodup
 |0=>h
 |i+1=>by
  unfold ie;split
  ·exact Qx _ _ (wy h i)
  ·exact wy h i
def yD{ks:List Int}(a0:ks.Nodup){J:List Tk}(b0:(J.map (·.2.1)).Nodup):∀i,((de ks (J.take i)).map (·.1)).Nodup/\∀k,(Ia (de ks (J.take i)) k).Nodup/\∀x∈Ia (de ks (J.take i)) k,∃t∈J.take i,t.2.1=x
 |0=>⟨.nil,λk=>⟨.nil,λx Y=>by cases Y⟩⟩
 |i+1=>by
  obtain⟨c0,O⟩:=yD a0 b0 i;cases e:J[i]? with
  |none=>
   rw[qc,e];simp only[Option.toList_none,z1m];exact⟨c0,O⟩
  |some t=>
   rw[Wx e];have e0:J.take (i+1)=J.take i++[t]:=by rw[qc,e];rfl
   have f0:∀k,t.2.1∉Ia (de ks (J.take i)) k:=λk z=>by
    obtain⟨t',g0,h0⟩:=(O k).2 _ z;obtain⟨j,U⟩:=ze.mp g0;rw[List.getElem?_take]at U;split at U
    ·next j0=>
     have d0:(J.map (·.2.1))[j]?=wP t.2.1:=by rw[fb,U];exact Ub wP h0
     have i0:(J.map (·.2.1))[i]?=wP t.2.1:=by rw[fb,e];rfl
     have:=(Lp (Zb.mp d0).1 b0).mp (d0.trans i0.symm);lia
    ·cases U
   have key:=xD a0 (made:=t.2.2) (λk=>⟨(O k).1,f0 k⟩) ks.length (xa _);refine⟨wy c0 _,λk=>⟨(key k).1,λx Y=>?_⟩⟩;rw[e0];rcases(key k).2.1 x Y with z|z
   ·exact⟨t,by simp,z.symm⟩
   ·refine ea1 ?_ ((O k).2 x z);rintro t' a b;exact⟨t',qh _ a,b⟩
def dO(J:Int->Int)(n t:Int)(ms:List Int):Lj J n t ms=0\/Lj J n t ms∈ms:=by
 have key:∀(l:List Int)(a:Int),(a=0\/a∈ms)->(∀x∈l,x∈ms)->(l.foldl (λa m=>if m≠n/\J m<t then m else a) a=0\/l.foldl (λa m=>if m≠n/\J m<t then m else a) a∈ms):=by
  intro l;induction l with
  |nil=>intro a h _;exact h
  |cons x r U=>
   intro a h O;refine U _ ?_ λy Y=>O y (.tail _ Y)
   show(if x≠n/\J x<t then x else a)=0\/(if x≠n/\J x<t then x else a)∈ms;split
   ·exact .inr (O x (.head _))
   ·exact h
 exact key ms 0 (.inl rfl) λx a0=>a0
def eO(ns:List Int):(dd ns).Nodup:=by
 have key:∀(l a:List Int),a.Nodup->(l.foldl iQ a).Nodup:=by
  intro l;induction l with
  |nil=>(intros;simp_all)
  |cons x r J=>
   intro a h;refine J _ ?_;unfold iQ
   grind
 exact key ns [] .nil
def fO(J:List Int):SG (Lg J):=by
 unfold Lg;have O:(Ck (ce J 1)).Nodup:=by unfold Ck;exact(Ff _).nodup_iff.mpr (eO _)
 generalize Ck (ce J 1)=ks at*;have pt:(Xe (yd (Lb J))).Perm (yd (Lb J)):=Nr _ _;have U:(yd (Lb J)).map (·.2.1)=(Lb J).map (·.num):=by unfold yd;rw[Hc];rfl
 have Y:((Xe (yd (Lb J))).map (·.2.1)).Nodup:=by
  refine(pt.map _).nodup_iff.mpr ?_;rw[U];exact rg (λz=>by lia) (vr J)
 have key:=yD O Y (Xe (yd (Lb J))).length;rw[Ic]at key;have em:((Lb J).map (vn ks (de ks (Xe (yd (Lb J)))) (nn (Xe (yd (Lb J)))))).map (·.1)=(Lb J).map (·.num):=by rw[Hc];rfl
 refine⟨key.1,λk=>⟨(key.2 k).1,λx d0=>?_⟩,λd a0 lk b0 q c0=>?_⟩
 ·grind
 ·refine ea1 ?_ (Ya.mp a0);rintro e0 _ rfl;refine ea1 ?_ (Ya.mp b0);rintro j _ rfl;refine ea1 ?_ (Ya.mp c0);rintro k _ rfl;exact .inr (dO _ _ _ _)
def AD(J:List Int):SG (zf J):=by
 unfold zf;generalize(J.drop 10).take 20=O;have key:∀(l:List Int)st,SG st->SG (l.foldl je st):=by
  intro l;induction l with
  |nil=>intro st h;exact h
  |cons c r U=>intro st h;exact U _ (h.sp c)
 exact key O _ (fO J)
def Qb(h:∀d∈J,d.canLay0=CP):PyData.canLayAll0 J=CP:=by
 induction J with
 |nil=>rfl
 |cons d r O=>
  show(d.canLay0&&PyData.canLayAll0 r)=CP
  simp_all
def Dr(h:∀d∈J,d.depth<=n):PyData.depthAll J<=n:=by
 induction J with
 |nil=>exact Tb _
 |cons d r O=>
  have Y:=h d Yf;have a0:=O λe U=>h e (rh _ U)
  show max d.depth (PyData.depthAll r)<=n;lia
def CD(l:Lk):(yf l).canLay0=CP/\(yf l).depth<=2:=by
 refine⟨Qb λd J=>?_,?_⟩
 ·obtain⟨p,_,rfl⟩:=Ya.mp J;rfl
 ·have:PyData.depthAll (l.map Jg)<=1:=Dr λd J=>by
   obtain⟨p,_,rfl⟩:=Ya.mp J;exact xa 1
  show PyData.depthAll (l.map Jg)+1<=2;simp_all
def DD(h:d.2.1∈gc):(Md d).canLay0=CP/\(Md d).depth<=4:=by
 have O:∀x∈gc,(PyData.str x).canLay0=CP:=by decide+kernel
 refine⟨?_,?_⟩
 ·show(CP&&((PyData.str d.2.1).canLay0&&(PyData.canLayAll0 (d.2.2.map yf)&&CP)))=CP;rw[O _ h,Qb λe J=>by obtain⟨l,_,rfl⟩:=Ya.mp J;exact(CD l).1];rfl
 ·have:PyData.depthAll (d.2.2.map yf)<=2:=Dr λe J=>by
   obtain⟨l,_,rfl⟩:=Ya.mp J;exact(CD l).2
  show max 0 (max 0 (max (PyData.depthAll (d.2.2.map yf)+1) 0))+1<=4;simp_all
def ED(m:kb):(ji m).canLay0=CP/\(ji m).depth<=2:=by
 refine⟨?_,?_⟩
 ·show(CP&&(PyData.canLayAll0 (m.2.map PyData.int)&&CP))=CP;rw[Qb λe J=>by obtain⟨l,_,rfl⟩:=Ya.mp J;rfl];rfl
 ·have:PyData.depthAll (m.2.map PyData.int)<=0:=Dr λe J=>by
   obtain⟨l,_,rfl⟩:=Ya.mp J;exact xa 0
  show max 0 (max (PyData.depthAll (m.2.map PyData.int)+1) 0)+1<=2;simp_all
def gO(h:∀d∈p.1,d.2.1∈gc):(vd p).canLay0=CP/\(vd p).depth<7/\SeqAt.shaped (vd p)=CP:=by
 have U:(vd p).canLay0=CP:=by
  show(PyData.canLayAll0 (p.1.map Md)&&(PyData.canLayAll0 (p.2.map ji)&&CP))=CP;rw[Qb λe J=>by obtain⟨d,O,rfl⟩:=Ya.mp J;exact(DD (h d O)).1,Qb λe J=>by obtain⟨d,O,rfl⟩:=Ya.mp J;exact(ED d).1];rfl
 have Y:(vd p).depth<7:=by
  have a0:PyData.depthAll (p.1.map Md)<=4:=Dr λe J=>by
   obtain⟨d,O,rfl⟩:=Ya.mp J;exact(DD (h d O)).2
  have b0:PyData.depthAll (p.2.map ji)<=2:=Dr λe J=>by
   obtain⟨d,O,rfl⟩:=Ya.mp J;exact(ED d).2
  show max (PyData.depthAll (p.1.map Md)+1) (max (PyData.depthAll (p.2.map ji)+1) 0)+1<7;lia
 refine⟨U,Y,?_⟩;unfold SeqAt.shaped;rw[U,zb (by lia)];rfl
def hO(J:List Int):Mj (zf J):=by
 unfold zf;generalize(J.drop 10).take 20=O;have key:∀(l:List Int)st,Mj st->Mj (l.foldl je st):=by
  intro l;induction l with
  |nil=>intro st h;exact h
  |cons c r U=>intro st h;exact U _ (BM h c)
 exact key O _ (WC J)
def iO(st:List Dl×List kb)(c:Int):(je st c).1.map (λd=>(d.1,d.2.1))=st.1.map λd=>(d.1,d.2.1):=by
 unfold je;split
 ·unfold hh;dsimp only;split
  ·rfl
  ·split
   ·rw[Fi];by_cases hi:(qa (c/6) 2%(st.1.length:Int)).toNat<st.1.length
    ·refine Ha.bb ?_;rw[fb,My.df hi];rfl
    ·rw[mv (by rw[pa];simp_all)]
   ·rfl
 ·rfl
def jO(J:List Int):(ye J).1.map (λd=>(d.1,d.2.1))=(Lb J).map λd=>(d.num,d.ii):=by
 unfold ye zf;have key:∀(l:List Int)st,(l.foldl je st).1.map (λd=>(d.1,d.2.1))=st.1.map λd=>(d.1,d.2.1):=by
  intro l;induction l with
  |nil=>intro st;rfl
  |cons c r O=>intro st;exact(O _).trans (iO st c)
 rw[key];unfold Lg;rw[Hc];rfl
def kO{p:Ps}{J:List Int}(h:p.1.map (λd=>(d.1,d.2.1))=(Lb J).map λd=>(d.num,d.ii)):p.1.length<=8/\(p.1.map (·.1)).Nodup/\∀d∈p.1,d.2.1∈gc:=by
 have l:p.1.length=(Lb J).length:=by have:=Ub List.length h;simpa using this
 refine⟨by rw[l];exact Iu J,?_,λd O=>?_⟩
 ·have:=Ub (List.map Prod.fst) h;rw[Hc,Hc]at this;have e:p.1.map (·.1)=(Lb J).map (·.num):=this;rw[e];exact rg (λz=>by lia) (vr J)
 ·have U:(d.1,d.2.1)∈(Lb J).map λd=>(d.num,d.ii):=by rw[<-h];exact Ya.mpr ⟨d,O,rfl⟩
  obtain⟨Y,a0,e⟩:=Ya.mp U;have:d.2.1=Y.ii:=(Ub Prod.snd e).symm;rw[this];exact(Hu a0).2.2.2
def lO(h:TF H v (vd p) f):∃a l m J O U Y,v=.ref a/\f=a::(l::U++(m::Y))/\H a=wP (.tup [.ref l,.ref m])/\H l=wP (.lst J)/\Ha H J (p.1.map Md) U/\H m=wP (.lst O)/\Ha H O (p.2.map ji) Y:=by
 cases h with
 |tup h r=>
  cases r with
  |cons a0 r=>
   cases a0 with
   |lst b0 c0=>
    cases r with
    |cons d0 r=>
     cases d0 with
     |lst e0 f0=>
      cases r;exact nx2 _ _ _ (nx4 _ _ _ _ rfl (by simp) h b0 c0 e0 f0)
def yp(c:Int):Option Str:=([yP,wP "loose",wP "kept",wP "make",wP "watch",wP "hold",yP]:List (Option Str)).getD (c%7).toNat yP
def oO:Sp:=λvs H Q _=>∃c:Int,vs=[.int c]/\∀H',aa H H'->Q (wV (yp c)) H'
def pO(c:Int):∀x,yp c=wP x->x∈gc:=by
 unfold yp;generalize(c%7).toNat=n;intro x h;match n,h with
 |0,h=>cases h
 |1,h=>cases h;decide+kernel
 |2,h=>cases h;decide+kernel
 |3,h=>cases h;decide+kernel
 |4,h=>cases h;decide+kernel
 |5,h=>cases h;decide+kernel
 |6,h=>cases h
 |n+7,h=>cases h
def qO(c:Int):Bd [V.Pa,.str "loose",.str "kept",.str "make",.str "watch",.str "hold",.Pa] (c%7)=wP (wV (yp c)):=by
 have U:=Qh c (show(7:Int)≠0 by decide);have J:=Ph c (show(0:Int)<7 by decide);unfold yp;obtain⟨n,O⟩:∃n:Nat,c%7=(n:Int):=⟨(c%7).toNat,by lia⟩;rw[O]at J⊢;have:n=0\/n=1\/n=2\/n=3\/n=4\/n=5\/n=6:=by lia
 rcases this with rfl|rfl|rfl|rfl|rfl|rfl|rfl<;>exact Pf rfl
def xy(h:zg n x)(J:n<=600):Oj x:=⟨Nb h.1 J,h.2⟩
def rO:Sp:=λvs H Q _=>∃n:Int,vs=[.int n]/\0<=n/\n<1000003/\∀x H',aa H H'->Oj x->Q (.str x) H'
def sO(n:Int):∃c,Bd ("abcdefghijklmnopqrstuvwxyz LK":Str).cps.toList (n%29)=wP c/\c<16^8:=by
 have O:=Qh n (show(29:Int)≠0 by decide);have U:=Ph n (show(0:Int)<29 by decide);obtain⟨v,J⟩:=QG (xs:=("abcdefghijklmnopqrstuvwxyz LK":Str).cps.toList) O (by show n%29<((29:Nat):Int);lia);refine⟨v,J,?_⟩;have key:∀c∈("abcdefghijklmnopqrstuvwxyz LK":Str).cps.toList,c<16^8:=by decide+kernel
 exact key v (RG J)
def GD(x:Str):∀ls:List Str,Lm (V.str x) (ls.map V.str)=decide (x∈ls)
 |[]=>by simp[Lm]
 |l::r=>by
  have J:=GD x r;have e:Lm (V.str x) ((l::r).map V.str)=((l==x)||Lm (V.str x) (r.map V.str)):=rfl
  grind
def tO(x:Str):Lm (V.str x) [V.str "loose",V.str "kept",V.str "make",V.str "watch",V.str "hold"]=decide (x∈gc):=GD x gc
structure GS(p:Ps):Prop where
 gh:GH p
 l3:∀d∈p.1,d.2.2.length<=3
 k3:p.2.length<=3
def HD{ks:List Int}{n made:Int}{ms:List kb}(h:∀x∈ms.map (·.1),x∈ks):∀i,i<=ks.length->∀x∈(ie ks n made ms i).map (·.1),x∈ks
 |0,_=>h
 |i+1,hi=>by
  have J:=HD h (n:=n) (made:=made) i (by lia);unfold ie;split
  ·rw[JC]
   grind
  ·exact J
def ID{ks:List Int}:∀(J:List Tk)(ms:List kb),(∀x∈ms.map (·.1),x∈ks)->∀x∈(J.foldl (λms t=>ie ks t.2.1 t.2.2 ms ks.length) ms).map (·.1),x∈ks
 |[],_,h=>h
 |_::r,_,h=>ID r _ (HD h _ (xa _))
def uO(st:List Dl×List kb)(c:Int):(je st c).2.map (·.1)=st.2.map (·.1):=by
 unfold je;split
 ·unfold hh;dsimp only;split
  ·exact qp _ _ _
  ·split<;>rfl
 ·rfl
def vO(J:List Int):(zf J).2.length<=3:=by
 have sub:∀x∈(zf J).2.map (·.1),x∈Ck (ce J 1):=by
  have key:∀(l:List Int)st,(l.foldl je st).2.map (·.1)=st.2.map (·.1):=by
   intro l;induction l with
   |nil=>intro st;rfl
   |cons c r O=>intro st;exact(O _).trans (uO st c)
  unfold zf;rw[key];exact ID _ [] λ_ h=>by cases h
 have:=Bh (AD J).k sub;rw[pa]at this;exact Nb this (ay _)
def JD(J:List Int):GS (ye J):=by
 have c0:=jO J;have U:=AD J;have Y:=hO J;have ek:(ye J).2.map (·.1)=Yc ((zf J).2.map (·.1)):=by unfold ye;rw[Hc];exact List.map_id _
 have d0:∀k,Ia (ye J).2 k=Ia (zf J).2 k:=λk=>by
  show Ia ((Yc ((zf J).2.map (·.1))).map λx=>(x,Ia (zf J).2 x)) k=_;rw[ZN];split
  ·rfl
  ·next h=>exact(ij λz=>h ((Ff _).mem_iff.mpr z)).symm
 have i0:(ye J).2.length<=30:=by
  have:=Ub List.length ek;rw[pa,(Ff _).length_eq,pa]at this;rw[this];exact Y.2.1
 have kp:((ye J).2.map (·.1)).Pairwise (·<·):=by
  rw[ek];have a0:=iA ((zf J).2.map (·.1));have b0:=(Ff _).nodup_iff.mpr U.k;exact(a0.and b0).imp λz=>by lia
 have j0:((ye J).2.map (·.1)).Nodup:=rg (λz=>by lia) kp;have e0:(ye J).1.map (·.1)=(Lb J).map (·.num):=by
  have:=Ub (List.map Prod.fst) c0;rw[Hc,Hc]at this;exact this
 have l0:((ye J).1.map (·.1)).Pairwise (·<·):=by rw[e0];exact vr J
 have m0:∀x∈(ye J).1.map (·.1),0<x:=λx f0=>by
  rw[e0]at f0;obtain⟨t0,n0,rfl⟩:=Ya.mp f0;obtain⟨⟨j,_,e⟩,_⟩:=Hu n0;lia
 have o0:∀m∈(ye J).2,m.2.Nodup/\∀x∈m.2,x∈(ye J).1.map (·.1):=λm p0=>by
  rw[<-aO j0 p0,d0];exact U.c m.1
 have lk:∀d∈(ye J).1,∀lk∈d.2.2,lk.length<=3/\∀q∈lk,q.2=-1\/q.2=0\/q.2∈Ia (ye J).2 q.1:=λd O lk g0=>⟨(Y.2.2.2 d O).2 lk g0,λq q0=>by rw[d0];exact U.s d O lk g0 q q0⟩
 have h0:=λd O=>(Y.2.2.2 d O).1
 have r0:xn (ye J):=by
  obtain⟨a0,b0,s0⟩:=kO c0;exact⟨a0,b0,λd O=>⟨s0 d O,by have:=h0 d O;lia⟩⟩
 refine⟨⟨r0,l0,λd O=>m0 d.1 (Ya.mpr ⟨d,O,rfl⟩),kp,i0,o0,lk⟩,h0,?_⟩;have:=Ub List.length ek;rw[pa,(Ff _).length_eq,pa]at this;rw[this];exact vO J
def GS.yy(g:GS p)(e:p.1[i]?=wP d)(Y:J.length=d.2.2.length)(ok:∀lk∈J,lk.length<=3/\∀q∈lk,q.2=-1\/q.2=0\/q.2∈Ia p.2 q.1):GS (p.1.set i (d.1,d.2.1,J),p.2):=by
 obtain⟨⟨⟨e0,f0,U⟩,g0,a0,kp,h0,b0,lk⟩,c0,k3⟩:=g;have O:=yb e;have em:(p.1.set i (d.1,d.2.1,J)).map (·.1)=p.1.map (·.1):=by
  rw[Fi];exact Ha.bb (by simp_all)
 have all:∀{P:Dl->Prop},(∀d∈p.1,P d)->P (d.1,d.2.1,J)->∀d'∈p.1.set i (d.1,d.2.1,J),P d':=λi0 j0 d' h=>(Sj h).elim (i0 d') λz=>z▸j0
 refine⟨⟨⟨by rw[il];exact e0,by rw[em];exact f0,all U ⟨(U d O).1,by rw[Y];exact(U d O).2⟩⟩,by rw[em];exact g0,all a0 (a0 d O),kp,h0,λm d0=>⟨(b0 m d0).1,λx l0=>by rw[em];exact(b0 m d0).2 x l0⟩,all lk ok⟩,all c0 (by rw[Y];exact c0 d O),k3⟩
def Tu(lk:Lk):Lk:=lk.set (lk.length-1) ((lk.getD (lk.length-1) (0,0)).1,-1)
def Er(c:Int)(t:Ps):Ps:=
 let d:=t.1.getD (c/21%(t.1.length:Int)).toNat zD
 let lk:=d.2.2.getD (c/168%(d.2.2.length:Int)).toNat []
 if(c/7%3=0/\t.1≠[])/\d.2.2≠[]/\lk≠[]then(t.1.set (c/21%(t.1.length:Int)).toNat (d.1,d.2.1,d.2.2.set (c/168%(d.2.2.length:Int)).toNat (Tu lk)),t.2)else t
def zp(J:List Int):Ps:=Er (ce J 0) (ye J)
def wO(J:List Int):GS (zp J):=by
 have g:=JD J;unfold zp;generalize ce J 0=c;generalize ye J=t at*;unfold Er;dsimp only;split
 ·next e=>
  revert e;refine ea3 ?_;rintro⟨_,U⟩Y d0;have O:=My.df (d:=zD) (Kl (c/21) rfl (ag.mpr U)).1;generalize(c/21%(t.1.length:Int)).toNat=i at*;generalize t.1.getD i zD=d at*;have a0:=My.df (d:=([]:Lk)) (Kl (c/168) rfl (ag.mpr Y)).1;generalize(c/168%(d.2.2.length:Int)).toNat=j at*;generalize d.2.2.getD j []=lk at*;have ok:=g.gh.qy d (yb O);refine g.yy O (il ..) λl b0=>?_
  rcases Sj b0 with z|z
  ·exact ok l z
  ·obtain⟨a,b⟩:=ok lk (yb a0);rw[z];unfold Tu;refine⟨by rw[il];exact a,λq c0=>?_⟩;rcases Sj c0 with z|z
   ·exact b q z
   ·rw[z];exact .inl rfl
 ·exact g
def KD{α β:Type}{f:α->List β}:∀{l:List α},(∀x∈l,(f x).length<=n)->(l.flatMap f).length<=n*l.length
 |[],_=>Tb _
 |x::r,h=>by
  rw[Ki,Ac,Od,Nat.mul_succ];have:=KD λy J=>h y (rh _ J)
  have:=h x Yf;lia
def LD(w:Option Str)(h:d.2.2.length<=3):(Ie w d).length<=4:=by
 unfold Ie;rw[pa,gf];generalize Mb w d=l;cases l<;>simp only[Gf]<;>simp_all
def GS.nodes(g:GS p)(w:Option Str):(kh w p).length<=32:=by
 have:=KD (f:=Ie w) λd J=>LD w (g.l3 d J)
 have:=g.gh.gp.1;unfold kh;lia
--@vb
def Hk(H:Hp)(y:V)(q:V×V):Prop:=∃t,y=.ref t/\H t=wP (.tup [q.1,q.2])
def MD:∀H H' y(q:V×V),KN H H'->Hk H y q->Hk H' y q:=by rintro H H' y q k⟨t,e,h⟩;exact⟨t,e,k _ _ (λxs z=>by cases z) h⟩
def Ik:∀H H' y(k:Eg),KN H H'->Yb H y k->Yb H' y k:=λH H' y q k x=>x.kp λb xs e=>k _ _ (λxs z=>by cases z) e
def Mg(k:KN H H')(h:Paired (Yb H) ys ns):Paired (Yb H') ys ns:=Paired.Ib h λ_ _ z=>Ik _ _ _ _ k z
def ND(k:KN H H')(h:Paired (Hk H) ys ns):Paired (Hk H') ys ns:=Paired.Ib h λ_ _ z=>MD _ _ _ _ k z
inductive xO(K:W.Frag)(vs:List V)(H:Hp)(Q:VK)(E:XK):Prop|mk(a:BP)(xs:List V)(_:vs=[.ref a])(_:H a=wP (.lst xs))(_:xs.length<=100)(_:∀D H' ys,H D=yP->aa H H'->H' D=wP (.lst ys)->Paired (Hk H') ys (Nd xs)->Q (.ref D) H')
inductive yO(cls:Lv->BP)(vs:List V)(H:Hp)(Q:VK)(E:XK):Prop|mk(v:V)(e:BP)(p:Ps)(w:Option Str)(_:vs=[v,.ref e])(_:Tr H v (vd p))(_:GH p)(_:yn cls H e w p)(_:∀D H' ys,H D=yP->aa H H'->H' D=wP (.lst ys)->Paired (Yb H') ys (p.1.flatMap (Pj w))->Q (.ref D) H')
def Jk(H:Hp)(e:BP)(p:Ps)(f:Int->Nk):Prop:=∃J,H e=wP (.dK J)/\∀d∈p.1,∃v,Oa J (.inl d.1)=wP v/\Fb H v (f d.1)
def Jk.same(s:aa H H')(h:Jk H e p f):Jk H' e p f:=by obtain⟨J,a,b⟩:=h;exact⟨J,s _ _ a,λd O=>by refine ec7 ?_ (b d O);rintro v c q e U;exact nx9 v c q ⟨e,s _ _ U⟩⟩
def OD{w:Option Str}(g:GH p)(h:py H e p (zn w)):Jk H e p (jh w p):=by obtain⟨O,a,b⟩:=h;exact⟨O,a,λd J=>by rw[sD g J];exact b d J⟩
def zO{w:Option Str}(g:GH p)(h:py H e p (zr w)):Jk H e p (An w p):=by obtain⟨O,a,b⟩:=h;exact⟨O,a,λd J=>by rw[tD g J];exact b d J⟩
def Jk.get(h:Jk H e p f)(O:∃d∈p.1,d.1=x):∃J v,H e=wP (.dK J)/\Oa J (.inl x)=wP v/\Fb H v (f x):=by
 revert h;refine ea1 ?_;rintro J a b
 grind
inductive AO(vs:List V)(H:Hp)(Q:VK)(E:XK):Prop|mk(sv:V)(m e:BP)(n pl:Int)(q:Pr)(p:Ps)(w:Option Str)(_:vs=[sv,.int q.1,.int q.2,.ref m,.ref e])(_:Fb H sv (n,pl))(_:H m=wP (.lst ((Ia p.2 q.1).map V.int)))(_:GH p)(_:(q.2=-1\/q.2=0\/q.2∈Ia p.2 q.1))(_:Jk H e p (jh w p))(_:∀D H' ys,H D=yP->aa H H'->H' D=wP (.lst ys)->Paired (Yb H') ys (ni w p n pl q)->Q (.ref D) H')
def Gr(H:Hp)(e:BP)(p:Ps):Prop:=∃J,H e=wP (.dK J)/\∀k,(Oa J (.inl k)=yP/\Ia p.2 k=[])\/∃l,Oa J (.inl k)=wP (.ref l)/\H l=wP (.lst ((Ia p.2 k).map V.int))
def Gr.same(s:aa H H')(h:Gr H e p):Gr H' e p:=by obtain⟨J,a,b⟩:=h;exact⟨J,s _ _ a,λk=>(b k).imp id (by refine ea1 ?_;rintro l c d;exact⟨l,c,s _ _ d⟩)⟩
inductive BO(cls:Lv->BP)(vs:List V)(H:Hp)(Q:VK)(E:XK):Prop|mk(v:V)(a m e:BP)(d:Dl)(p:Ps)(w:Option Str)(dx:BP)(_:vs=[v,.ref a,.ref m,.ref e])(_:Tr H v (Md d))(_:H a=wP (.ins (cls (Mb w d)) dx []))(_:GH p)(_:d∈p.1)(_:Gr H m p)(_:Jk H e p (jh w p))(_:∀D H' ys,H D=yP->aa H H'->H' D=wP (.lst ys)->Paired (Yb H') ys (mj w p d)->Q (.ref D) H')
inductive PD(cls:Lv->BP)(f:Option Str->Ps->List Eg)(vs:List V)(H:Hp)(Q:VK)(E:XK):Prop|mk(v:V)(e:BP)(p:Ps)(w:Option Str)(_:vs=[v,.ref e])(_:Tr H v (vd p))(_:GH p)(_:yn cls H e w p)(_:∀D H' ys,H D=yP->aa H H'->H' D=wP (.lst ys)->Paired (Yb H') ys (f w p)->Q (.ref D) H')
inductive QD(K:W.Frag)(vs:List V)(H:Hp)(Q:VK)(E:XK):Prop|mk(b:BP)(e:Eg)(_:vs=[.ref b])(_:Yb H (.ref b) e)(_:xk e)(_:∀p H',(∀c o,H c=wP o->H' c=wP o)->yk H' (.ref p) (Ml e)->Q (.ref p) H')
def CO(T:Tx K mg):Yt (QD K):=λH b e Q E J O U=>⟨b,e,rfl,J,O,U⟩
inductive DO(vs:List V)(H:Hp)(Q:VK)(E:XK):Prop|mk(v:V)(p:Ps)(w:Option Str)(_:vs=[v,wV w])(_:Tr H v (vd p))(_:GH p)(_:(∀x,w=wP x->x∈gc))(_:∀D H' ys js,H D=yP->aa H H'->H' D=wP (.lst ys)->Paired (Yb H') ys js->js.length<=(Sl w p).length->(∀x∈js,uD w p x)->Q (.ref D) H')
def zy(xs:List V)(n:Nat)(z:Int)(e:z=(n:Int)):xg xs (wP z) yP=xs.drop n:=by
 unfold xg;rw[e,HT.qd,HT.se];by_cases h:n<=xs.length
 ·rw[eo h,gl (by rw[dg];exact xa _)]
 ·rw[Mh (by grind),Mh (by lia),List.take_nil]
def RD(xs:List V)(n:Nat)(z:Int)(e:z=(n:Int)):xg xs yP (wP z)=xs.take n:=by
 unfold xg;rw[e,HT.qd,HT.se]
 simp_all
def SD{F:α->α->Prop}(h:∀x,F x x):∀xs:List α,Paired F xs xs
 |[]=>.nil
 |x::r=>.cons (h x) (SD h r)
def EO{xs:List α}{ys:List β}(g:Paired F xs ys):Paired (λ(p:α×α)(q:β×β)=>F p.1 q.1/\F p.2 q.2) (Nd xs) (Nd ys):=by
 induction g with
 |nil=>exact .nil
 |@cons a b _ _ h p J=>
  refine ef ?_ J;have O:∀{r:List α}{t:List β},Paired F r t->Paired (λ(p:α×α)(q:β×β)=>F p.1 q.1/\F p.2 q.2) (r.map λy=>(a,y)) (t.map λy=>(b,y)):=by
   intro r t x;induction x with
   |nil=>exact .nil
   |cons z _ J=>exact .cons ⟨h,z⟩ J
  exact O p
def FO(h:Paired (Hk H) ys (Nd O))(U:Oc H O ns):Paired (Uc H) ys (Nd ns):=by
 have J:=EO U;generalize Nd O=c0 at h J;generalize Nd ns=Y at J;induction h generalizing Y with
 |nil=>cases J;exact .nil
 |cons x _ a0=>
  cases J with
  |cons y t=>
   obtain⟨p,e,b0⟩:=x;exact .cons (nx1 p _ _ e b0 y.1 y.2) (a0 _ t)
def TD(f:α->β):∀xs:List α,Nd (xs.map f)=(Nd xs).map λq=>(f q.1,f q.2)
 |[]=>rfl
 |x::r=>by
  show(r.map f).map (λy=>(f x,y))++Nd (r.map f)=(r.map (λy=>(x,y))++Nd r).map _;rw[TD f r,Le,Hc,Hc];rfl
def Ap:∀xs:List α,(Nd xs).length<=xs.length*xs.length
 |[]=>xa _
 |x::r=>by
  have:=Ap r;unfold Nd;rw[Ac,pa,Od,Nat.add_mul,Nat.mul_add];lia
def UD(H:Hp)(y:V)(q:Int×Int):Prop:=∃t,y=.ref t/\H t=wP (.tup [.int q.1,.int q.2])
def GO(h:Paired (Hk H) ys (Nd (ms.map V.int))):Paired (UD H) ys (Nd ms):=by
 rw[TD]at h;generalize Nd ms=l at h;induction l generalizing ys with
 |nil=>cases h;exact .nil
 |cons q r J=>
  cases h with
  |cons x t=>exact .cons x (J t)
def Uu{β:Type}(n:Int)(g:Int->β):∀l:List Int,l.filterMap (λm=>if m≠n then wP (g m)else yP)=(l.filter λm=>decide (m≠n)).map g
 |[]=>rfl
 |x::r=>by
  rw[ri,List.filter_cons];by_cases h:x≠n
  ·rw[wa h,wa (zb h),ed,Uu n g r]
  ·rw[ma h,ma (by simpa using h),Uu n g r]
def VD(ms:List Int):Paired (λ(v:V)(x:Int)=>v=.int x) (ms.map V.int) ms:=by
 induction ms with
 |nil=>exact .nil
 |cons x r J=>exact .cons rfl J
def WD{w:Option Str}(h:(Ia p.2 q.1).length<=8):(ni w p n pl q).length<=8:=by
 unfold ni;split
 ·exact Tb _
 ·rw[Ac,pa,pa];refine Nb (Nat.add_le_add (Yj _ _) (Yj _ _)) ?_;rw[<-Ac,Bi];exact h
def GH.Kb(J:GH p)(k:Int):(Ia p.2 k).length<=8:=by
 have O:=Bh (J.sy k) λx U=>let⟨⟨d,Y,e⟩,_⟩:=J.num U;Ya.mpr ⟨d,Y,e⟩
 rw[pa]at O;exact Nb O J.gp.1
def XD(h:Tr H v (ji m)):∃a l,v=.ref a/\H a=wP (.tup [.int m.1,.ref l])/\H l=wP (.lst (m.2.map V.int)):=by
 cases h with
 |tup h r=>
  cases r with
  |cons O r=>
   cases r with
   |cons U r=>
    cases r;cases O;refine ea0 ?_ (Qu U);rintro a xs rfl J Y;rw[Y.ints]at J;exact nx5 _ a rfl h J
def YD{K:W.Frag}{H:Hp}:∀{O:List V}{ms:List kb},ib H O (ms.map ji)->∃J:List (Key×V),Il K H O J/\J.map (·.1)=ms.map (λm=>(Sum.inl m.1:Key))/\∀m∈ms,∃l,((Sum.inl m.1:Key),V.ref l)∈J/\H l=wP (.lst (m.2.map V.int))
 |_,[],.nil=>⟨[],.nil,rfl,λm U=>by cases U⟩
 |_,m::r,.cons h t=>by
  obtain⟨J,a,b,c⟩:=YD t;refine ea0 ?_ (XD h);rintro x l rfl Y a0;refine⟨(Sum.inl m.1,.ref l)::J,.cons (Ba.of Y) a,by rw[ed,ed,b],λb0 c0=>?_⟩
  grind
def JO{H:Hp}{e:BP}{p:Ps}(c0:GH p){J:List (Key×V)}(O:H e=wP (.dK (sk [] J)))(U:J.map (·.1)=p.2.map (λm=>(Sum.inl m.1:Key)))(d0:∀m∈p.2,∃l,((Sum.inl m.1:Key),V.ref l)∈J/\H l=wP (.lst (m.2.map V.int))):Gr H e p:=by
 have e0:(p.2.map (·.1)).Nodup:=rg (λz=>by lia) c0.keys;have Y:(J.map (·.1)).Nodup:=by
  rw[U];exact Be.mpr (rg (λz e=>z (Sum.inl.inj e)) (Be.mp e0))
 rw[yr J [] (by simpa using Y)]at O;refine⟨J,O,λk=>?_⟩;by_cases h:k∈p.2.map (·.1)
 ·refine ea1 ?_ (d0 _ (yb (lg h)));rintro l q1 q2;exact .inr ⟨l,jt Y q1,q2⟩
 ·refine .inl ⟨?_,ij h⟩;unfold Oa;rw[Option.map_eq_none_iff,As];intro a0 f0 z;have g0:=zc z;have b0:a0.1∈J.map (·.1):=Ya.mpr ⟨a0,f0,rfl⟩;rw[U,g0]at b0;obtain⟨m,h0,i0⟩:=Ya.mp b0;exact h (Ya.mpr ⟨m,h0,Sum.inl.inj i0⟩)
def ZD{w:Option Str}(J:GH p)(O:d∈p.1)(i:Nat):(oi w p d i).length<=24:=by
 unfold oi;split
 ·exact Tb _
 ·next pl _=>
  have key:∀l:Lk,l.length<=3->(l.flatMap (ni w p d.1 pl)).length<=24:=by
   have k2:∀l:Lk,(l.flatMap (ni w p d.1 pl)).length<=8*l.length:=by
    intro l;induction l with
    |nil=>exact xa _
    |cons q r U=>
     rw[Ki,Ac,Od];have:=WD (w:=w) (n:=d.1) (pl:=pl) (J.Kb q.1);lia
   intro l Y;have:=k2 l;lia
  refine key _ ?_;rw[Qj];cases e:d.2.2[i]? with
  |none=>exact Tb _
  |some l=>exact(J.qy d O l (yb e)).1
def aE{w:Option Str}(J:GH p)(O:d∈p.1):(mj w p d).length<=960:=by
 have U:=(J.gp.2.2 d O).2;have key:∀l:List Nat,(l.flatMap (oi w p d)).length<=24*l.length:=by
  intro l;induction l with
  |nil=>exact xa _
  |cons q r Y=>
   rw[Ki,Ac,Od];have:=ZD (w:=w) J O q;lia
 have:=key (List.range d.2.2.length);rw[gf]at this;unfold mj;lia
def Tl{α β:Type}{f:α->List β}:∀{l:List α},(∀x∈l,(f x).length<=n)->(l.flatMap f).length<=n*l.length
 |[],_=>xa _
 |x::r,h=>by
  rw[Ki,Ac,Od,Nat.mul_add];have O:=h x (.head _);have U:=Tl λy J=>h y (.tail _ J)
  lia
def KO{w:Option Str}(h:d.2.2.length<=40):(Pj w d).length<=1681:=by
 unfold Pj;rw[pa];have O:=Ap (Ie w d);have U:=Nu w d h;have J:(Ie w d).length<=41:=by unfold Ie;rw[pa,gf];simp_all
 have:=Yp J J;lia
def bE{w:Option Str}(J:GH p)(U:m∈p.2):(Gk w p m).length<=64:=by
 unfold Gk;rw[pa];have Y:=Ap m.2;have O:m.2.length<=8:=by rw[<-uy J U];exact J.Kb _
 have:=Yp O O;lia
def LO{w:Option Str}(J:GH p):(p.1.flatMap (Pj w)).length<=14000/\(p.1.flatMap (mj w p)).length<=8000/\(p.2.flatMap (Gk w p)).length<=2000:=by
 have U:=Tl (f:=Pj w) λd O=>KO (J.gp.2.2 d O).2
 have Y:=Tl (f:=mj w p) λd O=>aE J O
 have a0:=Tl (f:=Gk w p) λd O=>bE J O
 have b0:=J.gp.1;have c0:=J.Bn;lia
def Vu(H:Hp)(y:V)(k:Eg):Prop:=∃t b,y=.ref t/\H t=wP (.tup [.ref b,.bl CP])/\Yb H (.ref b) k
def MO:∀H H' y(k:Eg),KN H H'->Vu H y k->Vu H' y k:=by rintro H H' y q k⟨t,b,e,h,g⟩;exact nx5 t b e (k _ _ (λxs z=>by cases z) h) (Ik _ _ _ _ k g)
def cE:∀{ys:List V}{ks:List Eg},Paired (Vu H) ys ks->Oo H ys ks
 |_,_,.nil=>.nil
 |_,_,.cons ⟨t,b,e,h,g⟩ r=>by
  subst e;exact .cons h g (cE r)
def dE(T:Tx K mg):T.Au.Ok P w base 1 (xO K):=by
 refine sb T.Au.F λH _ _ _ _ h=>?_
 ·obtain⟨a,xs,rfl,c0,hz,q⟩:=h;refine⟨_,(va (Ua 1 (kc Ad))
   (va (kd Qc rfl (mw rfl T.Gx (La 0)) (Rh rfl (Mc (Db 2) (Mc (Db 3) xh)))
   (ra (Qe (Ee Oe bo Yn Co (pv 1) (Fa (vf ["later"] ["thing"] [3] (bc (zh Ao (pv 0) (Wg (Ca fg (pv 2) ka)) Th)) (Jd 0) Df (Tc (na (pv 1) (La 0)))))))))
   (ra (Sa (pv 1))))),?_⟩
  show let n0:TS:=_;let o0:TS:=ya (qe _ _ _) n0;ya _ o0 _ _ _
  intros;have sz:DP=2^24:=rfl;refine⟨(by decide),λF d0=>?_⟩;have p0:=la (H:=H) (a:=F) (o:=HO.lst []);have i0:=aa.upd (o:=HO.lst []) d0;refine⟨_,rfl,a,xs,rfl,i0 _ _ c0,pw (λi Y J=>∃(e0 f0:Option V)(ys:List V)(L:List (V×V)),Y=[wP (.ref a),wP (.ref F),e0,f0]/\aa H J/\J F=wP (.lst ys)/\ys.length<=100*i/\Paired (Hk J) ys L/\L++Nd (xs.drop i)=Nd xs) (nx20 yP yP ([]) ([]) rfl i0 p0 (xa _) (.nil) rfl) (by rintro i Y J;refine ebB ?_;rintro _ _ _ _ _ O _;exact ia.of (O _ _ c0)) ?_ ?_⟩
  ·rintro i x Y J p j0;refine ebG ?_;rintro e0 f0 ys L rfl O U q0 pl a0 r0;have hi:=(Zb.mp j0).1;have sp:=aa.upd (o:=HO.tup [.int (i:Int),x]) r0;refine nx11 p _ rfl (Ba.of la) rfl _ _ rfl _ _ rfl ⟨rfl,?_⟩;refine⟨_,rfl,Or.inl ⟨rfl,_,ia.of (sp _ _ U)⟩,_,rfl,_,rfl,_,_,rfl,rfl,_,rfl,a,xs,rfl,ia.of (sp _ _ (O _ _ c0)),λc s0=>⟨c,rfl,⟨_,ia.of la⟩,?_⟩⟩;rw[zy xs (i+1) _ (by simp_all)];have t0:=aa.upd (o:=HO.lst (xs.drop (i+1))) s0;refine aj (fs:=[wP x]) Hk (λ_ v (b:V)=>v=b) (xs.drop (i+1)) (λy=>wP (x,y)) MD (λ_ _ _ _ _ z=>z) rfl la (SD (λ_=>rfl) _) (by rw[dg];grind) (λy B0 C0 D0 v R F0 u0 v0 w0 _=>?_) λD G0 g0 I0 x0 y0 h0=>?_
   ·obtain⟨t,rfl⟩:=Ke.mp u0;subst v0;exact⟨_,rfl,_,rfl,Za,λn z0=>w0 _ _ [_] _ rfl rfl (aa.upd z0) ⟨n,rfl,la⟩⟩
   ·rw[Ek]at h0;have b0:=sp.trans (t0.trans x0);have J0:g0.length<=100:=by rw[qb h0,pa,dg];grind
    refine⟨F,D,ys,g0,rfl,rfl,b0 _ _ U,y0,(by lia),?_⟩;have l0:=KN.upd (o:=HO.lst (ys++g0)) (b0 _ _ U);refine nx20 _ _ _ (L++(xs.drop (i+1)).map (λy=>(x,y))) rfl (λb o m0=>?_) la (by rw[Ac];lia) (ef (ND ((KN.of b0).trans l0) pl) (ND l0 h0)) ?_
    ·rw[oa (show b≠F from lb m0 d0)];exact b0 _ _ (O _ _ m0)
    ·rw[<-a0,ke];have:xs.drop i=x::xs.drop (i+1):=by rw[ao hi,(Zb.mp j0).2]
     rw[this];rfl
  ·rintro Y J;refine ebG ?_;rintro e0 f0 ys L rfl O U q0 pl a0;rw[List.drop_length]at a0;have A0:L=Nd xs:=by rw[<-a0];exact(z1m L).symm
   rw[A0]at pl;exact⟨_,rfl,q F J ys d0 O U pl⟩
def NO(T:Tx K mg):T.ox.Ok P w base 3 (yO (cO T)):=by
 refine sb T.ox.F λH _ _ _ d0 h=>?_
 ·obtain⟨v,e,p,J,rfl,tr,o0,G0,q⟩:=h;have I0:=Ue d0;refine⟨_,(va (Ua 2 (kc Ad))
   (va (kd Qc rfl (bc (Ea fc (pv 0) ka)) (Db 3)
   (va (Ua 4 (xb T.Au (dE T) d0 (Fa (xb T.ir (oy T) d0 (na (pv 3) (Fa (Sf I0 (pv 1) (Ea fc (pv 3) ka))))))))
   (ra (Qe (Ee Oe bo Yn Co (pv 2) (Fa (vf ["spot","later"] [] [] (bc (pv 4)) (dA (K:=K) (n:=2) rfl rfl (Mc (Jd 0) (Mc (Jd 1) xh))) Df (Tc (na (pv 0) (na (pv 1) (na jc (Fa Pe))))))))))))
   (ra (Sa (pv 2))))),?_⟩
  show let J0:TS:=_;let K0:TS:=_;let L0:TS:=ya _ K0;let M0:TS:=ya (qe _ _ L0) J0;ya _ M0 _ _ _
  intros;have sz:DP=2^24:=rfl;refine⟨(by decide),λF e0=>?_⟩;have N0:=la (H:=H) (a:=F) (o:=HO.lst []);have f0:=aa.upd (o:=HO.lst []) e0;refine eb3 ?_ (Fk tr);rintro a l m O0 p1 rfl P0 p0 q0 _ _;refine⟨_,rfl,a,_,_,_,rfl,rfl,Ba.of (f0 _ _ P0),rfl,l,rfl,⟨_,ia.of (f0 _ _ p0)⟩,bf (K:=K) (λi a0 U=>∃(g0 h0:Option V)(ys:List V),a0=[wP (.ref a),wP (.ref e),wP (.ref F),g0,h0]/\aa H U/\U F=wP (.lst ys)/\ys.length<=1681*i/\Paired (Yb U) ys ((p.1.take i).flatMap (Pj J))) (nx6 yP yP ([]) rfl f0 N0 (xa _) (.nil)) (by rintro i a0 U _⟨_,_,_,_,O,_⟩;exact ia.of (O _ _ p0)) ?_ ?_⟩
  ·rintro i y a0 U Q0;refine eaF ?_;rintro g0 h0 ys rfl O Y R0 pn;refine ea1 ?_ (q0.get Q0);rintro dd r0 s0;rw[fb]at r0;refine ea1 ?_ (Jf.mp r0);rintro d i0 rfl;have t0:=yb i0;have r1:i<8:=by have:=(Zb.mp i0).1;have:=o0.gp.1;lia
   refine ea1 ?_ (G0.same O);rintro t1 S0 T0;refine ea8 ?_ (T0 d t0);rintro x U0 V0 W0;refine ea4 ?_ (lj (s0.same O));rintro u0 L u1 rfl X0 _ _;have v0:=Zd.k (k:=Sum.inl d.1) S0;rw[V0]at v0;have w0:=(o0.gp.2.2 d t0).2;have v1:=Nu J d w0;refine⟨_,rfl,_,rfl,_,rfl,u0,_,_,_,rfl,rfl,Ba.of X0,rfl,e,_,rfl,v0,.ref u0,x,d,J,U0,rfl,s0.same O,W0,w0,λY0 w1 x0 x1 y0 Z0 j0=>?_⟩;have a1:x0.length<=41:=by
    rw[qb j0];unfold Ie;rw[pa,gf];simp_all
   refine⟨Y0,x0,rfl,Z0,(by lia),λb1 y1 z1 A1 l0 z0 c1=>?_⟩;have d1:=FO c1 (RN l0 j0);have e1:(Nd (Ie J d)).length<=1681:=by
    have A0:=Ap (Ie J d);have b0:(Ie J d).length<=41:=by rw[<-qb j0];exact a1
    have:=Yp b0 b0;lia
   refine⟨_,rfl,Or.inl ⟨rfl,_,ia.of (l0 _ _ (y0 _ _ Y))⟩,_,rfl,b1,rfl,⟨_,ia.of z0⟩,aj (fs:=[]) Yb Uc (Nd (Ie J d)) (λq=>wP (q.1,q.2,"own",yP)) Ik (λ_ _ _ _ B0 z=>AC B0 z) rfl z0 d1 (by lia) (λB1 C1 f1 C0 v R B0 g1 h1 i1 _=>?_) λj1 f1 es D1 l1 m1 m0=>?_⟩
   ·obtain⟨E1,F1,rfl⟩:∃a b,C0=[a,b]:=by match C0,g1 with|[a,b],_=>grind
    revert h1;refine ea4 ?_;rintro t u n1 rfl o1 A0 b0;refine nx11 t _ rfl (Ba.of o1) rfl _ _ rfl _ _ rfl ⟨rfl,_,rfl,_,rfl,af,λn n0=>i1 _ _ [_,_] _ rfl rfl (aa.upd n0) (nx1 n u n1 rfl la (He (aa.upd n0) A0) (He (aa.upd n0) b0))⟩
   ·rw[Ek]at m0;have c0:=y0.trans (l0.trans l1);have le:es.length<=1681:=by rw[qb m0,pa];exact e1
    refine⟨F,j1,ys,es,rfl,rfl,c0 _ _ Y,m1,(by lia),?_⟩;have D0:=KN.upd (o:=HO.lst (ys++es)) (c0 _ _ Y);refine nx6 _ _ _ rfl (λb o F0=>?_) la (by rw[Ac];lia) ?_
    ·rw[oa (show b≠F from lb F0 e0)];exact c0 _ _ (O _ _ F0)
    ·rw[qc,i0,Xk];refine ef (Mg ((KN.of c0).trans D0) pn) ?_;show Paired _ es (List.flatMap (Pj J) [d]);rw[Ki,qm,z1m];exact Mg D0 m0
  ·rintro a0 U;refine eaF ?_;rintro g0 h0 ys rfl O Y R0 pn;have:O0.length=p.1.length:=by rw[q0.len,pa]
   rw[this,Ic]at pn;exact⟨_,rfl,q F U ys e0 O Y pn⟩
def OO(T:Tx K mg):T.px.Ok P w base 1 AO:=by
 refine sb T.px.F λH _ Q _ B0 h=>?_
 ·obtain⟨f1,m,e,n,pl,J,p,m0,rfl,L0,f0,C0,M0,N0,q⟩:=h;have D0:=Ue B0;refine⟨_,(va (rc (wb re (pv 2) (Ts (v:=V.int (-1)) rfl T.uC ⟨_,rfl⟩) (rb _))
   (ra (Sa (kc Ad)))
   yc)
   (va (Ua 5 (wv (wb re (pv 2) (Ts (v:=V.int (0)) rfl T.LL ⟨_,rfl⟩) (rb _)) ka (Ca fg (Ee Oe PySem.F.slot_list_index PySem.F.type_list_index (BB (Jj B0.units) rfl) (pv 3) (La 2)) ka)))
   (va (Qo 6 ["maker"] (by show(Tf _).Nodup;decide+kernel) ["spot","key","keeps"] [0,1,4] (bc (zh Ao (pv 3) Th (Wg (pv 5)))) (Jd 0) (Um (wb yo (pv 0) (Ea (Ef (K:=K) rfl) (pv 1) ka) (rb _))) (Tc (na (Sf D0 (pv 3) (pv 0)) (na (pv 1) (na jc (La 2))))))
   (va (Qo 7 ["maker"] (by show(Tf _).Nodup;decide+kernel) ["spot","key","keeps"] [0,1,4] (bc (zh Ao (pv 3) (Wg (pv 5)) Th)) (Jd 0) (Um (wb yo (pv 0) (Ea (Ef (K:=K) rfl) (pv 1) ka) (rb _))) (Tc (na (pv 1) (na (Sf D0 (pv 3) (pv 0)) (na jc (La 2))))))
   (ra (Sa (Ca Do (pv 6) (pv 7)))))))),?_⟩
  show let O0:TS:=_;let P0:TS:=ya _ O0;let Q0:TS:=ya _ P0;let R0:TS:=ya _ Q0;ya (Ec _ _ _) R0 _ _ _
  intros;have sz:DP=2^24:=rfl;revert L0;refine ea1 ?_;rintro sp rfl F0;have g1:=C0.Kb J.1;refine⟨_,rfl,rfl,_,rfl,nc (λc=>?_) (λc=>?_)⟩
  ·have g0:J.2=-1:=V.Na (zc c);refine⟨(by decide),λF G0=>q F _ [] G0 (aa.upd G0) la ?_⟩;unfold ni;rw[wa g0];exact .nil
  ·have g0:¬J.2=-1:=λz=>c (zb (Ub V.int z))
   have part:∀(R:VK),R (.int (Kh (Ia p.2 J.1) J.2:Nat)) H->Hy (Vy (Dm Py (ro 2) (tC (V.int 0)))) (tC (V.int 0)) (Dm (zl λi j=>V.int (i+j)) (Sv K "list" (λx xs H Q=>∃(l:BP)(ns:List Int)(k:Int),x=.ref l/\xs=[V.int k]/\ia K H l (ns.map V.int)/\ns.length<=1000/\k∈ns/\Q (.int ((ns.idxOf k:Nat):Int)) H) (ro 3) (Zs (ro 2) xq)) (tC (V.int 1))) [wP (.ref sp),wP (.int J.1),wP (.int J.2),wP (.ref m),wP (.ref e),yP,yP,yP] H R:=λR Y=>by
    refine⟨_,rfl,rfl,_,rfl,nc (λz=>?_) (λz=>?_)⟩
    ·have h0:J.2=0:=V.Na (zc z);unfold Kh at Y;rw[wa h0]at Y;exact Y
    ·have h0:¬J.2=0:=λy=>z (zb (Ub V.int y))
     unfold Kh at Y;rw[ma h0]at Y;have mem:J.2∈Ia p.2 J.1:=by rcases M0 with y|y|y;exact absurd y g0;exact absurd y h0;exact y
     refine⟨_,rfl,Or.inl ⟨rfl,_,ia.of f0⟩,_,rfl,m,_,_,rfl,rfl,ia.of f0,(by lia),mem,_,_,rfl,rfl,?_⟩;exact Y
   refine part _ ?_;have lt:((Ia p.2 J.1).take (Kh (Ia p.2 J.1) J.2)).length<=8/\((Ia p.2 J.1).drop (Kh (Ia p.2 J.1) J.2)).length<=8:=by rw[Ae,dg];omega
   have I0:∀{n0:Hp}(x:Int),aa H n0->x∈Ia p.2 J.1->∃i0 v,n0 e=wP (.dK i0)/\Oa i0 (.inl x)=wP v/\Fb n0 v (jh m0 p x):=λx a0 b0=>(N0.same a0).get (C0.num b0).1
   refine⟨_,rfl,_,rfl,_,rfl,m,_,rfl,ia.of f0,λS0 T0=>⟨S0,rfl,⟨_,ia.of la⟩,?_⟩⟩;rw[RD _ (Kh (Ia p.2 J.1) J.2) _ rfl,<-List.map_take];have s1:=aa.upd (o:=HO.lst (((Ia p.2 J.1).take (Kh (Ia p.2 J.1) J.2)).map V.int)) T0;refine aj (k:=1) (fs:=[wP (.ref sp),wP (.int J.1),wP (.ref e)]) Yb (λ_ v (x:Int)=>v=.int x) ((Ia p.2 J.1).take (Kh (Ia p.2 J.1) J.2)) (λx=>if x≠n then wP (jh m0 p x,(n,pl),"saw",wP J.1)else yP) Ik (λ_ _ _ _ _ z=>z) rfl la (VD _) (by lia) (λx b0 U0 V0 v R a0 o0 p0 q0 r0=>?_) λW0 h1 s0 i1 X0 Y0 t0=>?_
   ·obtain⟨t,rfl⟩:=Ke.mp o0;subst p0;have c0:=a0 _ _ (s1 _ _ F0);refine⟨_,rfl,_,rfl,sp,_,_,_,rfl,rfl,Ba.of c0,Pf (j:=0) rfl,rfl,_,rfl,nc (λy=>?_) (λy=>?_)⟩
    ·have O:x≠n:=λz=>by rw[z]at y;simp at y
     refine ea0 ?_ (I0 x (s1.trans a0) (List.mem_of_mem_take b0));rintro i0 d0 u0 v0 w0;have e0:=Zd.k (k:=Sum.inl x) u0;rw[v0]at e0;exact⟨_,rfl,_,rfl,e,d0,rfl,e0,_,rfl,_,rfl,af,λx0 U=>q0 _ _ [_] _ (wa O) rfl (aa.upd U) (nx1 x0 d0 (.ref sp) rfl la (He (aa.upd U) w0) ⟨sp,rfl,aa.upd U _ _ c0⟩)⟩
    ·have O:¬x≠n:=λz=>y (by simp[show V.int x≠V.int n fromλq=>z (V.Na q)])
     exact r0 (ma O) [_] _ rfl (aa.refl _)
   ·rw[Uu]at t0;have j0:=s1.trans X0;refine⟨_,rfl,_,rfl,_,rfl,m,_,rfl,ia.of (j0 _ _ f0),λZ0 a1=>⟨Z0,rfl,⟨_,ia.of la⟩,?_⟩⟩;rw[zy _ (Kh (Ia p.2 J.1) J.2) _ rfl,<-List.map_drop];have J0:=aa.upd (o:=HO.lst (((Ia p.2 J.1).drop (Kh (Ia p.2 J.1) J.2)).map V.int)) a1;refine aj (k:=1) (fs:=[wP (.ref sp),wP (.int J.1),wP (.ref e)]) Yb (λ_ v (x:Int)=>v=.int x) ((Ia p.2 J.1).drop (Kh (Ia p.2 J.1) J.2)) (λx=>if x≠n then wP ((n,pl),jh m0 p x,"unseen",wP J.1)else yP) Ik (λ_ _ _ _ _ z=>z) rfl la (VD _) (by lia) (λx b0 U0 V0 v R a0 o0 p0 q0 r0=>?_) λb1 j1 y0 l1 c1 d1 z0=>?_
    ·obtain⟨t,rfl⟩:=Ke.mp o0;subst p0;have K0:=j0.trans (J0.trans a0);have c0:=K0 _ _ F0;refine⟨_,rfl,_,rfl,sp,_,_,_,rfl,rfl,Ba.of c0,Pf (j:=0) rfl,rfl,_,rfl,nc (λy=>?_) (λy=>?_)⟩
     ·have O:x≠n:=λz=>by rw[z]at y;simp at y
      refine ea0 ?_ (I0 x K0 (List.mem_of_mem_drop b0));rintro i0 d0 u0 v0 w0;have e0:=Zd.k (k:=Sum.inl x) u0;rw[v0]at e0;exact⟨_,rfl,_,rfl,_,rfl,e,d0,rfl,e0,_,rfl,af,λx0 U=>q0 _ _ [_] _ (wa O) rfl (aa.upd U) (nx1 x0 (.ref sp) d0 rfl la ⟨sp,rfl,aa.upd U _ _ c0⟩ (He (aa.upd U) w0))⟩
     ·have O:¬x≠n:=λz=>y (by simp[show V.int x≠V.int n fromλq=>z (V.Na q)])
      exact r0 (ma O) [_] _ rfl (aa.refl _)
    ·rw[Uu]at z0;have l0:=J0.trans c1;have m1:s0.length<=8:=by rw[qb t0,pa];exact Nb (Yj _ _) lt.1
     have n1:y0.length<=8:=by rw[qb z0,pa];exact Nb (Yj _ _) lt.2
     refine⟨_,rfl,_,rfl,W0,b1,s0,y0,rfl,rfl,l0 _ _ Y0,d1,(by lia),λe1 A0=>q e1 _ (s0++y0) ((j0.trans l0).free A0) ((j0.trans l0).trans (aa.upd A0)) la ?_⟩;unfold ni;rw[ma g0];exact Mg (KN.of (aa.upd A0)) (ef (Mg (KN.of l0) t0) z0)
def QO(T:Tx K mg):T.qx.Ok P w base 2 (BO (cO T)):=by
 refine sb T.qx.F λH _ _ _ u0 h=>?_
 ·obtain⟨v,a,m,e,d,p,J,Z0,rfl,tr,a1,m0,K0,mk,b1,q⟩:=h;have c1:=Ue u0;refine⟨_,(va (Ua 4 (kc Ad))
   (va (kd Qc rfl (mw rfl T.Gx (Fa (Ea fc (pv 0) ka))) (Rh rfl (Mc (Db 5) (Mc (Db 6) xh)))
   (va (Ua 7 (qw (pv 1) (AN T) (u0.mono (by decide)) (La 5)))
   (ra (rc (wb Gm (pv 7) Pe (rb _))
   (ra (kd Qc rfl (bc (pv 6)) (Rh rfl (Mc (Db 8) (Mc (Db 9) xh)))
   (ra (Qe (Ee Oe bo Yn Co (pv 4) (Fa (xb T.px (OO T) u0 (na (Tc (na (Ea fc (pv 0) ka) (La 7))) (na (pv 8) (na (pv 9) (na (ht c1 (pv 2) (pv 8) (kc Ad) ⟨rfl,rfl,rfl,rfl⟩) (La 3))))))))))))
   yc))))
   (ra (Sa (pv 4))))),?_⟩
  show let d1:TS:=_;let f0:TS:=Ec _ (qe _ _ _) _;let g0:TS:=ya _ f0;let e1:TS:=ya (qe _ _ g0) d1;ya _ e1 _ _ _
  intros;have sz:DP=2^24:=rfl;refine ea4 ?_ (lj tr);rintro n0 L v0 rfl L0 M0 N0;have f1:v0.length=d.2.2.length:=by rw[N0.len,pa]
  have B1:=(m0.gp.2.2 d K0).2;refine⟨nb,λF w0=>?_⟩;have g1:=la (H:=H) (a:=F) (o:=HO.lst []);have x0:=aa.upd (o:=HO.lst []) w0;refine⟨_,rfl,n0,_,_,_,rfl,rfl,Ba.of (x0 _ _ L0),rfl,L,v0,rfl,x0 _ _ M0,pw (K:=K) (a:=L) (xs:=v0) (λi O a0=>∃(y0 z0 A0 b0 c0:Option V)(ys:List V),O=[wP (.ref n0),wP (.ref a),wP (.ref m),wP (.ref e),wP (.ref F),y0,z0,A0,b0,c0]/\aa H a0/\a0 F=wP (.lst ys)/\ys.length<=24*i/\Paired (Yb a0) ys ((List.range i).flatMap (oi J p d))) (nx15 yP yP yP yP yP ([]) rfl x0 g1 ⟨xa _,.nil⟩) (by rintro i O a0;refine eaG ?_;rintro _ _ _ _ _ _ _ h0 _;exact ia.of (h0 _ _ M0)) ?_ ?_⟩
  ·rintro i y O a0 tp o0⟨y0,z0,A0,b0,c0,ys,rfl,h0,B0,i0,pn⟩h1;have hi:i<d.2.2.length:=by have:=(Zb.mp o0).1;simp_all
   refine ea1 ?_ (N0.get o0);rintro dl O0 i1;rw[fb]at O0;refine ea1 ?_ (Jf.mp O0);rintro lk P0 rfl;obtain⟨C1,j1⟩:=m0.qy d K0 lk (yb P0);refine ea0 ?_ (Qu i1);rintro p0 pv rfl Q0 R0;have sp:=aa.upd (o:=HO.tup [.int (i:Int),.ref p0]) h1;have q0:=h0.trans sp;have S0:=sp _ _ B0;have pn:=Mg (KN.of sp) pn;refine nx11 tp _ rfl (Ba.of la) rfl _ _ rfl _ _ rfl ⟨rfl,?_⟩;refine⟨_,rfl,a,Mb J d,Z0,[],rfl,q0 _ _ a1,rfl,_,rfl,_,_,rfl,_,rfl,rfl,_,rfl,nc (λc=>?_) (λc=>?_)⟩
   ·obtain⟨pl,r0⟩:∃pl,zk (Mb J d) (i:Int)=wP pl:=by
     cases C0:zk (Mb J d) (i:Int)with
     |none=>rw[C0]at c;exact absurd c (by simp[fu])
     |some k=>grind
    have l1:fu (zk (Mb J d) (i:Int))=V.int pl:=by rw[r0];rfl
    have D0:oi J p d i=lk.flatMap (ni J p d.1 pl):=by
     unfold oi;rw[r0,Qj,P0];rfl
    rw[l1];refine⟨_,rfl,p0,rfl,⟨_,ia.of (q0 _ _ Q0)⟩,bf (K:=K) (a:=p0) (xs:=pv) (λj O d0=>∃(b0 c0:Option V)(ys:List V),O=[wP (.ref n0),wP (.ref a),wP (.ref m),wP (.ref e),wP (.ref F),wP (.int (i:Int)),wP (.ref p0),wP (.int pl),b0,c0]/\aa H d0/\d0 F=wP (.lst ys)/\ys.length<=24*i+8*j/\Paired (Yb d0) ys ((List.range i).flatMap (oi J p d)++(lk.take j).flatMap (ni J p d.1 pl))) (nx6 _ _ ys rfl q0 S0 i0 (by simpa using pn)) (by rintro j O d0 _⟨_,_,_,_,U,_⟩;exact ia.of (U _ _ Q0)) ?_ ?_⟩
    ·rintro j y O d0 o0;refine eaF ?_;rintro b0 c0 ys rfl U j0 i0 pn;refine ea1 ?_ (R0.get o0);rintro D1 T0 m1;rw[fb]at T0;refine ea1 ?_ (Jf.mp T0);rintro Y F0 rfl;refine ea1 ?_ (Pu m1);rintro n1 rfl o1;have p1:=j1 Y (yb F0);have E1:j<3:=by have:=(Zb.mp F0).1;lia
     refine nx11 n1 _ rfl (Ba.of (U _ _ o1)) rfl _ _ rfl _ _ rfl ⟨rfl,?_⟩;refine⟨_,rfl,Or.inl ⟨rfl,_,ia.of j0⟩,_,rfl,n0,_,_,_,rfl,rfl,Ba.of (U _ _ L0),rfl,_,rfl,Za,λG0 r1=>?_⟩;have sn:=aa.upd (o:=HO.tup [.int d.1,.int pl]) r1;refine ea1 ?_ ((mk.same U).same sn);rintro I0 U0 t1;refine⟨_,rfl,_,rfl,_,rfl,m,rfl,.inl ⟨_,.inl U0⟩,_,rfl,nb,λJ0 u1=>?_⟩;have l0:=aa.upd (o:=HO.lst []) u1;have v1:=U.trans (sn.trans l0);refine⟨Oa I0 (.inl Y.1),.inl (nx5 I0 (.inl Y.1) (.inl (l0 _ _ U0)) rfl rfl),_,rfl,?_⟩;obtain⟨e0,w1,x1⟩:∃e0,(Oa I0 (.inl Y.1)).getD (.ref J0)=.ref e0/\upd (upd d0 G0 (.tup [.int d.1,.int pl])) J0 (.lst []) e0=wP (.lst ((Ia p.2 Y.1).map V.int)):=by
      rcases t1 Y.1 with⟨f0,g0⟩|⟨e0,f0,g0⟩
      ·exact⟨J0,by rw[f0];rfl,by rw[g0];exact la⟩
      ·exact⟨e0,by rw[f0];rfl,l0 _ _ g0⟩
     rw[w1];refine⟨.ref G0,e0,e,d.1,pl,Y,p,J,rfl,⟨G0,rfl,l0 _ _ la⟩,x1,m0,p1,b1.same v1,λy1 F1 s0 G1 z1 A1 V0=>?_⟩;have t0:=sn.trans (l0.trans z1);have H1:s0.length<=8:=by rw[qb V0];exact WD (m0.Kb Y.1)
     refine⟨F,y1,ys,s0,rfl,rfl,t0 _ _ j0,A1,(by lia),?_⟩;have W0:=KN.upd (o:=HO.lst (ys++s0)) (t0 _ _ j0);refine nx6 _ _ _ rfl (λb o X0=>?_) la (by rw[Ac];lia) ?_
     ·rw[oa (show b≠F from lb X0 w0)];exact t0 _ _ (U _ _ X0)
     ·rw[qc,F0,Xk,<-ke];refine ef (Mg ((KN.of t0).trans W0) pn) ?_;show Paired _ s0 (List.flatMap (ni J p d.1 pl) [Y]);rw[Ki,qm,z1m];exact Mg W0 V0
    ·rintro O d0;refine eaF ?_;rintro b0 c0 ys rfl U j0 i0 pn;have Y0:pv.length=lk.length:=by rw[R0.len,pa]
     rw[Y0,Ic]at pn;refine nx15 _ _ _ _ _ _ rfl U j0 ⟨(by rw[Y0]at i0;lia),?_⟩;rw[Ei,Xk,Ki,qm,z1m,D0];exact pn
   ·have r0:zk (Mb J d) (i:Int)=yP:=by
     cases C0:zk (Mb J d) (i:Int)with
     |none=>rfl
     |some k=>rw[C0]at c;exact absurd (by simp[fu]) c
    have D0:oi J p d i=[]:=by
     unfold oi;rw[r0]
    refine nx15 _ _ _ _ _ _ rfl q0 S0 ⟨(by lia),?_⟩;rw[Ei,Xk,Ki,qm,z1m,D0,z1m];exact pn
  ·rintro O a0⟨y0,z0,A0,b0,c0,ys,rfl,h0,B0,i0,pn⟩;rw[f1]at pn;exact⟨_,rfl,q F a0 ys w0 h0 B0 pn⟩
def RO(T:Tx K mg):T.rx.Ok P w base 4 (PD (cO T) λw p=>p.1.flatMap (mj w p)):=by
 refine sb T.rx.F λH _ _ _ g0 h=>?_
 ·obtain⟨v,e,p,b0,rfl,tr,O,q0,q⟩:=h;have F0:=Ue g0;refine⟨_,(va (Ua 2 (Jm (Ht (K:=K) rfl rfl) (by rfl) T.kn FQ (Fa (Ea fc (pv 0) ka))))
   (va (Ua 3 (xb T.zu (qD T) g0 (na (pv 0) (La 1))))
   (va (Ua 4 (kc Ad))
   (va (kd Qc rfl (bc (Ea fc (pv 0) ka)) (Db 5)
   (ra (Qe (Ee Oe bo Yn Co (pv 4) (Fa (xb T.qx (QO T) g0 (na (pv 5) (na (Sf F0 (pv 1) (Ea fc (pv 5) ka)) (na (pv 2) (La 3))))))))))
   (ra (Sa (pv 4))))))),?_⟩
  show let G0:TS:=_;let I0:TS:=ya (qe _ _ _) G0;let J0:TS:=ya _ I0;let K0:TS:=ya _ J0;ya _ K0 _ _ _
  intros;have sz:DP=2^24:=rfl;refine eb3 ?_ (Fk tr);rintro a l m L0 M0 rfl r0 s0 t0 N0 O0;obtain⟨h0,P0,pk,pv⟩:=YD O0;have c1:h0.length=p.2.length:=by have:=Ub List.length pk;simpa using this
  have d1:=O.Bn;refine⟨_,rfl,a,_,_,_,rfl,rfl,Ba.of r0,rfl,m,M0,h0,rfl,N0,P0,(by lia),λM Q0=>?_⟩;have c0:=aa.upd (o:=HO.dK (sk [] h0)) Q0;have mk:=JO O la pk λx i0=>let⟨l,q1,q2⟩:=pv x i0;⟨l,q1,c0 _ _ q2⟩
  refine⟨_,rfl,_,rfl,.ref a,e,p,b0,rfl,tr.same c0,O.gp,q0.same c0,λu0 v0 w0 kp=>?_⟩;have R0:=OD O kp;have Y:=c0.trans w0;refine⟨(by decide),λF j0=>?_⟩;have S0:=la (H:=v0) (a:=F) (o:=HO.lst []);have l0:=aa.upd (o:=HO.lst []) j0;refine⟨_,rfl,a,_,_,_,rfl,rfl,Ba.of (l0 _ _ (Y _ _ r0)),rfl,l,rfl,⟨_,ia.of (l0 _ _ (Y _ _ s0))⟩,bf (K:=K) (λi d0 U=>∃(m0:Option V)(ys:List V),d0=[wP (.ref a),wP (.ref e),wP (.ref M),wP (.ref u0),wP (.ref F),m0]/\aa v0 U/\U F=wP (.lst ys)/\ys.length<=960*i/\Paired (Yb U) ys ((p.1.take i).flatMap (mj b0 p))) (nx19 yP ([]) rfl l0 S0 (xa _) (.nil)) (by rintro i d0 U _⟨_,_,_,J,_⟩;exact ia.of (J _ _ (Y _ _ s0))) ?_ ?_⟩
  ·rintro i y d0 U T0;refine eb4 ?_;rintro m0 ys rfl J a0 U0 pn;refine ea1 ?_ (t0.get T0);rintro dd x0 y0;rw[fb]at x0;refine ea1 ?_ (Jf.mp x0);rintro d n0 rfl;have o0:=yb n0;have e1:i<8:=by have:=(Zb.mp n0).1;have:=O.gp.1;lia
   have p0:=Y.trans J;refine ea1 ?_ (q0.same p0);rintro f1 V0 W0;refine ea8 ?_ (W0 d o0);rintro x X0 Y0 i0;refine ea4 ?_ (lj (y0.same p0));rintro z0 L g1 rfl Z0 _ _;have A0:=Zd.k (k:=Sum.inl d.1) V0;rw[Y0]at A0;refine⟨_,rfl,Or.inl ⟨rfl,_,ia.of a0⟩,_,rfl,_,rfl,_,rfl,z0,_,_,_,rfl,rfl,Ba.of Z0,rfl,e,_,rfl,A0,_,rfl,_,rfl,.ref z0,x,M,u0,d,p,b0,X0,rfl,y0.same p0,i0,O,o0,mk.same (w0.trans J),R0.same J,λa1 h1 e0 i1 f0 b1 B0=>?_⟩;have j1:e0.length<=960:=by rw[qb B0];exact aE O o0
   refine⟨F,a1,ys,e0,rfl,rfl,f0 _ _ a0,b1,(by lia),?_⟩;have C0:=KN.upd (o:=HO.lst (ys++e0)) (f0 _ _ a0);refine nx19 _ _ rfl (λb o D0=>?_) la (by rw[Ac];lia) ?_
   ·rw[oa (show b≠F from lb D0 j0)];exact f0 _ _ (J _ _ D0)
   ·rw[qc,n0,Xk];refine ef (Mg ((KN.of f0).trans C0) pn) ?_;show Paired _ e0 (List.flatMap (mj b0 p) [d]);rw[Ki,qm,z1m];exact Mg C0 B0
  ·rintro d0 U;refine eb4 ?_;rintro m0 ys rfl J a0 U0 pn;have:L0.length=p.1.length:=by rw[t0.len,pa]
   rw[this,Ic]at pn;exact⟨_,rfl,q F U ys (Y.free j0) (Y.trans J) a0 pn⟩
def SO(T:Tx K mg):T.sx.Ok P w base 4 (PD (cO T) λw p=>p.2.flatMap (Gk w p)):=by
 refine sb T.sx.F λH _ _ _ e0 h=>?_
 ·obtain⟨v,e,p,a0,rfl,tr,J,r0,q⟩:=h;have s0:=Ue e0;refine⟨_,(va (Ua 2 (xb T.zu (qD T) e0 (na (pv 0) (La 1))))
   (va (Ua 3 (xb T.mx (TN T) e0 (na (pv 0) (La 1))))
   (va (Ua 4 (kc Ad))
   (va (kd Qc rfl (bc (Ea fc (pv 0) ka)) (Db 5)
   (ra (Qe (Ee Oe bo Yn Co (pv 4) (Fa (vf ["maker","later"] ["keeps","firsts","made"] [2,3,5] (bc (xb T.Au (dE T) e0 (Fa (Ea fc (pv 5) ka)))) (dA (K:=K) (n:=2) rfl rfl (Mc (Jd 0) (Mc (Jd 1) xh))) Df (Tc (na (Sf s0 (pv 2) (pv 0)) (na (Sf s0 (pv 3) (pv 1)) (na jc (Fa (Ea (Ef (K:=K) rfl) (pv 4) ka))))))))))))
   (ra (Sa (pv 4))))))),?_⟩
  show let O0:TS:=_;let P0:TS:=ya (qe _ _ _) O0;let Q0:TS:=ya _ P0;let R0:TS:=ya _ Q0;ya _ R0 _ _ _
  intros;have sz:DP=2^24:=rfl;refine eb3 ?_ (Fk tr);rintro a l m C1 t0 rfl S0 D1 E1 u0 v0;have F1:=J.Bn;refine⟨_,rfl,_,rfl,.ref a,e,p,a0,rfl,tr,J.gp,r0,λh0 G1 s1 kp=>?_⟩;refine⟨_,rfl,_,rfl,.ref a,e,p,a0,rfl,tr.same s1,J.gp,r0.same s1,λi0 w0 x0 kf=>?_⟩;have T0:=(OD J kp).same x0;have U0:=zO J kf;have b0:=s1.trans x0;refine⟨nb,λF j0=>?_⟩;have V0:=la (H:=w0) (a:=F) (o:=HO.lst []);have l0:=aa.upd (o:=HO.lst []) j0;refine⟨_,rfl,a,_,_,_,rfl,rfl,Ba.of (l0 _ _ (b0 _ _ S0)),rfl,m,rfl,⟨_,ia.of (l0 _ _ (b0 _ _ u0))⟩,bf (K:=K) (a:=m) (xs:=t0) (λi f0 O=>∃(m0:Option V)(ys:List V),f0=[wP (.ref a),wP (.ref e),wP (.ref h0),wP (.ref i0),wP (.ref F),m0]/\aa w0 O/\O F=wP (.lst ys)/\ys.length<=64*i/\Paired (Yb O) ys ((p.2.take i).flatMap (Gk a0 p))) (nx19 yP ([]) rfl l0 V0 (xa _) (.nil)) (by rintro i f0 O _⟨_,_,_,U,_⟩;exact ia.of (U _ _ (b0 _ _ u0))) ?_ ?_⟩
  ·rintro i y f0 O W0;refine eb4 ?_;rintro m0 ys rfl U d0 X0 pn;refine ea1 ?_ (v0.get W0);rintro dd y0 Y0;rw[fb]at y0;refine ea1 ?_ (Jf.mp y0);rintro c0 n0 rfl;have Z0:=yb n0;have H1:i<30:=by have:=(Zb.mp n0).1;lia
   have a1:=b0.trans U;refine ea0 ?_ (XD (Y0.same a1));rintro t c rfl z0 b1;have A0:=uy J Z0;have B0:c0.2.length<=8:=by rw[<-A0];exact J.Kb _
   have c1:(Nd c0.2).length<=64:=by
    have I1:=Ap c0.2;have:=Yp B0 B0;lia
   refine⟨_,rfl,Or.inl ⟨rfl,_,ia.of d0⟩,_,rfl,t,_,_,_,rfl,rfl,Ba.of z0,rfl,c,_,rfl,b1,(by rw[pa];lia),λd1 J1 K1 L1 o0 C0 e1=>⟨d1,rfl,⟨_,ia.of C0⟩,aj (k:=2) (fs:=[wP (.ref h0),wP (.ref i0),wP (.ref t)]) Yb UD (Nd c0.2) (λq=>wP (jh a0 p q.1,An a0 p q.2,"over",wP c0.1)) Ik (by rintro _ _ _ _ g0⟨x,f1,g1⟩;exact⟨x,f1,g0 _ _ g1⟩) rfl C0 (GO e1) (by lia) (λD0 h1 i1 F0 v R g0 j1 l1 m1 _=>?_) λn1 i1 es M1 o1 p1 p0=>?_⟩⟩
   ·obtain⟨N1,O1,rfl⟩:∃a b,F0=[a,b]:=by match F0,j1 with|[a,b],_=>grind
    revert l1;refine ea1 ?_;rintro r1 rfl t1;have G0:=Ru h1;rw[<-A0]at G0;obtain⟨u1,v1⟩:=G0;have Y:=U.trans (o0.trans g0);refine ea0 ?_ ((T0.same Y).get (J.num u1).1);rintro P1 I0 w1 x1 y1;refine ea0 ?_ ((U0.same Y).get (J.num v1).1);rintro Q1 J0 z1 A1 B1;have K0:=Zd.k (k:=Sum.inl D0.1) w1;rw[x1]at K0;have L0:=Zd.k (k:=Sum.inl D0.2) z1;rw[A1]at L0;exact nx11 r1 _ rfl (Ba.of t1) rfl _ _ rfl _ _ rfl ⟨rfl,_,rfl,_,rfl,h0,I0,rfl,K0,_,rfl,_,rfl,i0,J0,rfl,L0,_,rfl,t,_,_,_,rfl,rfl,Ba.of (g0 _ _ (o0 _ _ z0)),Pf (j:=0) rfl,af,λn q0=>m1 _ _ [_,_] _ rfl rfl (aa.upd q0) (nx1 n I0 J0 rfl la (He (aa.upd q0) y1) (He (aa.upd q0) B1))⟩
   ·rw[Ek]at p0;have Y:=o0.trans o1;have le:es.length<=64:=by rw[qb p0,pa];exact c1
    refine⟨F,n1,ys,es,rfl,rfl,Y _ _ d0,p1,(by lia),?_⟩;have M0:=KN.upd (o:=HO.lst (ys++es)) (Y _ _ d0);refine nx19 _ _ rfl (λb o N0=>?_) la (by rw[Ac];lia) ?_
    ·rw[oa (show b≠F from lb N0 j0)];exact Y _ _ (U _ _ N0)
    ·rw[qc,n0,Xk];refine ef (Mg ((KN.of Y).trans M0) pn) ?_;show Paired _ es (List.flatMap (Gk a0 p) [c0]);rw[Ki,qm,z1m];exact Mg M0 p0
  ·rintro f0 O;refine eb4 ?_;rintro m0 ys rfl U d0 X0 pn;have:t0.length=p.2.length:=by rw[v0.len,pa]
   rw[this,Ic]at pn;exact⟨_,rfl,q F O ys (b0.free j0) (b0.trans U) d0 pn⟩
def UO(T:Tx K mg):T.Bu.Ok P w base 1 (QD K):=by
 refine sb T.Bu.F λH _ _ _ _ h=>?_
 ·obtain⟨b,e,rfl,a0,ok,q⟩:=h;refine⟨_,(ra (Sa (Tc (na (Ea fc (pv 0) ka) (na (Ea fc (pv 0) ka) (na (Ee F.plainAttrs_tuple F.slot_tuple_index F.type_tuple_index (EK rfl) (Ts (v:=V.ref T.nr) rfl T.NL rfl) (Fa (Ea fc (pv 0) ka))) (Fa (Ea fc (pv 0) ka)))))))),?_⟩;revert a0;refine ea4 ?_;rintro h0 O U b0 J c0 d0;cases b0;obtain⟨Y,_⟩:=ok;have e0:e.2.2.1∈(["own","saw","unseen","over"]:List Str):=by
   rcases Y with z|z|z|z<;>rw[z]<;>decide+kernel
  have f0:(((["own","saw","unseen","over"]:List Str).idxOf e.2.2.1:Nat):Int)=cr e.2.2.1:=by
   rcases Y with z|z|z|z<;>rw[z]<;>decide+kernel
  refine⟨_,rfl,b,_,_,_,rfl,rfl,Ba.of J,Pf rfl,_,rfl,b,_,_,_,rfl,rfl,Ba.of J,Pf rfl,Or.inr (Or.inl ⟨rfl,T.PL⟩),_,rfl,b,_,_,_,rfl,rfl,Ba.of J,Pf rfl,T.nr,["own","saw","unseen","over"],e.2.2.1,rfl,rfl,T.OL H,e0,?_⟩;rw[f0];refine⟨_,rfl,b,_,_,_,rfl,rfl,Ba.of J,Pf rfl,af,λn g0=>?_⟩;have sn:=aa.upd (o:=HO.tup [O,U,.int (cr e.2.2.1),oV e.2.2.2]) g0;exact q n _ sn (nx1 n O U rfl la (He sn c0) (He sn d0))
--@vb
def WO{p:Ps}(g:GS p)(w:Option Str):(Sl w p).length<=1000:=by
 have U:=Tl (f:=Pj w) (n:=16) λd J=>by
  unfold Pj;rw[pa];have U:=Ap (Ie w d);have O:=LD w (g.l3 d J);have:=Yp O O;lia
 have O:=Tl (f:=mj w p) (n:=72) λd J=>by
  have:=Tl (f:=oi w p d) (l:=List.range d.2.2.length) λi _=>ZD g.gh J i
  have:=g.l3 d J;rw[gf]at*;unfold mj;lia
 have a0:=Tl (f:=Gk w p) λm Y=>bE g.gh Y
 have:=g.gh.gp.1;have:=g.k3;unfold Sl;rw[Ac,Ac];lia
def nj(T:Tx K mg):uc P w K mg base (ae P w) 5 T.Xo.f T.Xo.d ["history","word"] DO:=by
 refine Vt T.Xo.F (jn (N:=Tf (mc (top 34)))) (λvs H Q E h=>?_) (λr1 A outer s H vs Q E U h=>?_)
 ·obtain⟨v,p,J,rfl,_⟩:=h;rfl
 ·obtain⟨v,p,J,rfl,tr,O,l0,q⟩:=h;refine⟨_,(va (Ua 2 (yh ((ny T).mono (by decide)) U rfl T.fi.m T.fi.F.kp T.fi.b .nil (Qm λ_ _ _ z=>z) (na (pv 0) (La 1))))
   (va (Ua 3 (Ca Do (Ca Do (xb T.ox (NO T) U (na (pv 0) (La 2))) (xb T.rx (RO T) U (na (pv 0) (La 2)))) (xb T.sx (SO T) U (na (pv 0) (La 2)))))
   (ra (Sa (sL rfl rfl T.ln ((UO T).mono (by decide)) U rfl T.Bu.m T.Bu.b (CO T) (Fa (Jm (xK (Jj U.units) rfl) (by rfl) T.kn FQ (Fa (vf ["edge"] [] [] (bc (pv 3)) (Jd 0) Df (Tc (na (pv 0) (Fa wh)))))))))))),?_⟩
  show let A0:TS:=_;let B0:TS:=ya _ A0;ya _ B0 _ _ _
  intros;have sz:DP=2^24:=rfl;refine ea3 ?_ (LO (w:=J) O);rintro t1 u1 v1;refine⟨_,rfl,_,rfl,v,p,J,rfl,tr,O.gp,λx e=>Mu (l0 x e),λ_ e w1 s1 g0=>?_,λx e n=>absurd (l0 x e) n⟩;refine⟨_,rfl,_,rfl,v,e,p,J,rfl,tr.same s1,O,g0,λC0 x1 Y y1 h0 D0 m0=>?_⟩;have n0:=s1.trans h0;refine⟨_,rfl,_,rfl,v,e,p,J,rfl,tr.same n0,O,g0.same h0,λF0 z1 a0 A1 b0 G0 o0=>?_⟩;have I0:=n0.trans b0;have B1:=qb m0;have C1:=qb o0;refine⟨C0,F0,Y,a0,rfl,rfl,b0 _ _ D0,G0,(by lia),λJ0 K0=>?_⟩;have c0:=aa.upd (o:=HO.lst (Y++a0)) K0;have p0:=I0.trans c0;refine⟨_,rfl,_,rfl,v,e,p,J,rfl,tr.same p0,O,g0.same (h0.trans (b0.trans c0)),λL0 D1 q0 E1 d0 M0 r0=>?_⟩;have F1:=qb r0;refine⟨J0,L0,Y++a0,q0,rfl,rfl,d0 _ _ la,M0,(by rw[Ac];lia),λN0 O0=>?_⟩;have e0:=aa.upd (o:=HO.lst (Y++a0++q0)) O0;have s0:=p0.trans (d0.trans e0);have P0:=ef (ef (Mg (KN.of (b0.trans (c0.trans (d0.trans e0)))) m0) (Mg (KN.of (c0.trans (d0.trans e0))) o0)) (Mg (KN.of e0) r0);have G1:(Sl J p).length<=24000:=by
   unfold Sl;rw[Ac,Ac];lia
  refine⟨_,rfl,N0,rfl,⟨_,ia.of la⟩,aj (fs:=[]) Vu Yb (Sl J p) wP MO (λ_ _ _ _ t0 z=>Ik _ _ _ _ (KN.of t0) z) rfl la P0 (by lia) (λk u0 Q0 H1 v R t0 R0 S0 T0 _=>?_) λU0 Q0 V0 I1 v0 W0 w0=>?_⟩
  ·obtain⟨t,rfl⟩:=Ke.mp R0;revert S0;refine ea4 ?_;rintro b X0 Y0 rfl Z0 a1 b1;exact⟨_,rfl,Za,λn f0=>T0 _ _ [_] _ rfl rfl (aa.upd f0) (nx5 n b rfl la (nx1 b X0 Y0 rfl (aa.upd f0 _ _ Z0) (He (aa.upd f0) a1) (He (aa.upd f0) b1)))⟩
  ·rw[Js]at w0;refine nx6 U0 V0 (Sl J p) rfl W0 (cE w0) (by lia) λx0 y0 ep ks c1 d1 e1 mk=>?_;have i0:=aa.upd (o:=HO.ext (uf x0 y0 ep)) c1;refine⟨x0,y0,ep,ks,rfl,la,Paired.imp' (by rintro _ _⟨b,f1,g1⟩;exact⟨b,f1,Ik _ _ _ _ (KN.of i0) g1⟩) d1,(λk u0=>(vD O ((mk k).mp u0)).2),λh1 ys i1 j1 l1 m1 n1 o1 z0=>?_⟩;have p1:=s0.trans (v0.trans (i0.trans m1));exact q h1 j1 ys i1 ((s0.trans (v0.trans i0)).free l1) p1 n1 o1 (by rw[z0.length_eq];exact Bh e1 λx j0=>(mk x).mp j0) λx j0=>vD O ((mk x).mp (z0.mem_iff.mp j0))
--@vb
def Ul:Lk->Option Int
 |[]=>yP
 |q::r=>if q.2=-1 then wP q.1 else Ul r
def Bp(n:Int):Int->List Lk->Option (Int×Int×Int)
 |_,[]=>yP
 |i,lk::r=>((Ul lk).map λk=>(n,i,k)).or (Bp n (i+1) r)
def Kk:List Dl->Option (Int×Int×Int)
 |[]=>yP
 |d::r=>(Bp d.1 0 d.2.2).or (Kk r)
def pi(w:Option Str)(p:Ps):Option (Int×Int×Int):=Kk (p.1.filter λd=>!ei (Mb w d))
def Cp{α:Type}{xs:List α}{x:α}(h:xs[i]?=wP x):xs.drop i=x::xs.drop (i+1):=by
 obtain⟨hi,e⟩:=Zb.mp h;rw[ao hi,e]
def t3(r:Int×Int×Int):List V:=[.int r.1,.int r.2.1,.int r.2.2]
def Ay(Q:VK)(H:Hp)(r:Option (Int×Int×Int)):Prop:=(∀H',aa H H'->r=yP->Q .Pa H')/\∀t H' k,aa H H'->r=wP k->H' t=wP (.tup (t3 k))->Q (.ref t) H'
inductive XO(cls:Lv->BP)(N:BP)(vs:List V)(H:Hp)(Q:VK)(E:XK):Prop|mk(v:V)(p:Ps)(w:Option Str)(_:vs=[v,wV w])(_:Tr H v (vd p))(_:xn p)(_:(∀x,w=wP x->Oj x))(_:((∀x,w=wP x->x∈gc)->Ay Q H (pi w p)))(_:(∀x,w=wP x->x∉gc->∀H',aa H H'->E (.ref N) yP H'))
def eE:∀{vs:List V}{J:List Dl},Paired (λv d=>Tr H v (Md d)) vs J->Paired (λv(q:V×Dl)=>v=q.1/\Tr H v (Md q.2)) vs (vs.zip J)
 |_,_,.nil=>.nil
 |_,_,.cons h t=>.cons ⟨rfl,h⟩ (eE t)
def fE(b:Dl->Bool):∀{O:List V}{J:List Dl},O.length=J.length->((O.zip J).filterMap λq=>if b q.2=CP then yP else wP q).map (·.2)=J.filter λd=>!b d
 |[],[],_=>rfl
 |v::O,d::J,h=>by
  have U:=fE b (by simpa using h);cases e:b d with
  |true=>simpa[e]using U
  |false=>simpa[e]using U
def YO{b:Dl->Bool}{J:List V}(h:q∈(J.zip O).filterMap λq=>if b q.2=CP then yP else wP q):q∈J.zip O:=by
 simp_all
def gE:∀{vs:List V}{J:List Dl}{q:V×Dl},Paired F vs J->q∈vs.zip J->F q.1 q.2
 |_,_,_,.nil,h=>by cases h
 |_,_,_,.cons r t,h=>by
  rcases jb.mp h with z|z
  ·rw[z];exact r
  ·exact gE t z
def Wu(T:Tx K mg):uc P w K mg base (ae P w) 4 T.Hg.f T.Hg.d ["history","word"] (XO (cO T) T.ah):=by
 refine Vt T.Hg.F (jn (N:=Tf (mc (top 36)))) (λvs H Q E h=>?_) (λy1 A outer s H vs Q E o0 h=>?_)
 ·obtain⟨v,p,J,rfl,_⟩:=h;rfl
 ·obtain⟨v,p,J,rfl,tr,p0,D0,R0,S0⟩:=h;have T0:=Ue o0;refine⟨_,(va (Ua 2 (yh ((ny T).mono (by decide)) o0 rfl T.fi.m T.fi.F.kp T.fi.b .nil (Qm λ_ _ _ z=>z) (na (pv 0) (La 1))))
   (va (Oq (kd Qc rfl (bc (vf ["each"] ["levels"] [2] (bc (Ea fc (pv 0) ka)) (Jd 0) (Um (Dj (Mi (sA (Sf T0 (pv 1) (Ea (Ef (K:=K) rfl) (pv 0) ka)) (GN T) (o0.mono (by decide)))))) (pv 0))) (Db 3)
   (ra (Oq (kd Qc rfl (mw rfl T.Gx (Fa (Ea fc (pv 3) ka))) (Rh rfl (Mc (Db 4) (Mc (Db 5) xh)))
   (ra (Oq (kd Qc rfl (bc (pv 5)) (Rh rfl (Mc (Db 6) (Mc (Db 7) xh)))
   (ra (rc (wb re (pv 7) (Ts (v:=V.int (-1)) rfl T.uC ⟨_,rfl⟩) (rb _))
   (ra (Sa (Tc (na (Ea fc (pv 3) ka) (na (pv 4) (La 6))))))
   yc))))))))))
   (ra (Sa Pe)))),?_⟩
  show let U0:TS:=_;let V0:TS:=ya _ U0;ya _ V0 _ _ _
  intros;by_cases q0:∀x,J=wP x->x∈gc
  ·refine⟨_,rfl,_,rfl,v,p,J,rfl,tr,p0,D0,λ_ e z1 s1 W0=>?_,λx e n=>absurd (q0 x e) n⟩;obtain⟨q1,q2⟩:=R0 q0;refine eb3 ?_ (Fk tr);rintro a l m r0 A1 rfl X0 F0 s0 _ _;have Y0:r0.length=p.1.length:=by rw[s0.len,pa]
   have B1:=p0.1;refine⟨_,rfl,a,_,_,_,rfl,rfl,Ba.of (s1 _ _ X0),rfl,l,rfl,⟨_,ia.of (s1 _ _ F0)⟩,aj (k:=1) (fs:=[wP (.ref e)]) (λ_ v (q:V×Dl)=>v=q.1) (λH v (q:V×Dl)=>v=q.1/\Tr H v (Md q.2)) (r0.zip p.1) (λq=>if ei (Mb J q.2)=CP then yP else wP q) (λ_ _ _ _ _ z=>z) (λ_ _ _ _ b0 z=>⟨z.1,z.2.same b0⟩) rfl (s1 _ _ F0) (eE (ng (s0.same s1))) (by have:DP=2^24:=rfl;rw[List.length_zip];lia) (λq t0 G0 C1 v R b0 Z0 a1 b1 c1=>?_) λD G0 ys D1 d1 I0 J0=>?_⟩
   ·obtain⟨t,rfl⟩:=Ke.mp Z0;obtain⟨rfl,u0⟩:=a1;obtain⟨v,d⟩:=q;refine ea4 ?_ (lj u0);rintro e0 L v0 rfl m0 w0 x0;refine ea1 ?_ (W0.same b0);rintro E1 e1 f1;refine ea8 ?_ (f1 d (Zp t0).2);rintro x g1 h1 i1;have K0:=Zd.k (k:=Sum.inl d.1) e1;rw[h1]at K0;refine⟨_,rfl,_,rfl,e0,_,_,_,rfl,rfl,Ba.of m0,rfl,e,_,rfl,K0,x,Mb J d,g1,[],rfl,i1,rfl,_,rfl,_,rfl,?_⟩;cases L0:ei (Mb J d)with
    |true=>exact ud (A:=_) (c1 (wa L0) [_] _ rfl (aa.refl _))
    |false=>exact cf (B:=_) ⟨_,rfl,b1 (.ref e0,d) _ [_] _ (ma (by rw[L0];exact pc)) rfl (aa.refl _) rfl⟩
   ·have y0:=s1.trans d1;have M0:=fE (λd=>ei (Mb J d)) Y0;generalize N0:((r0.zip p.1).filterMap λq=>if ei (Mb J q.2)=CP then yP else wP q).map (·.2)=i0 at M0;have j1:pi J p=Kk i0:=by rw[M0];rfl
    refine⟨D,rfl,⟨_,ia.of I0⟩,bf (xs:=ys) (λi U f0=>∃z0 c0 d0 Y a0:Option V,U=[wP (.ref a),wP (wV J),wP (.ref e),z0,c0,d0,Y,a0]/\aa G0 f0/\pi J p=Kk (i0.drop i)) (nx21 yP yP yP yP yP rfl (aa.refl _) j1) (by rintro i U f0 _⟨_,_,_,_,_,_,b0,_⟩;exact ia.of (b0 _ _ I0)) ?_ ?_⟩
    ·rintro i x U f0 ex⟨z0,c0,d0,Y,a0,rfl,j0,O⟩;refine ea1 ?_ (Wb J0 ex);rintro q eq rfl;have t0:=YO (b:=λd=>ei (Mb J d)) (yb eq);have u0:=(gE (ng s0) t0).same (y0.trans j0);obtain⟨v,d⟩:=q;refine ea4 ?_ (lj u0);rintro e0 L v0 rfl m0 w0 x0;have l1:i0[i]?=wP d:=by rw[<-N0,fb,eq];rfl
     rw[Cp l1]at O;refine⟨_,rfl,e0,_,_,_,rfl,rfl,Ba.of m0,rfl,L,v0,rfl,w0,pw (λj U l0=>∃c0 d0 Y a0:Option V,U=[wP (.ref a),wP (wV J),wP (.ref e),wP (.ref e0),c0,d0,Y,a0]/\aa f0 l0/\pi J p=(Bp d.1 j (d.2.2.drop j)).or (Kk (i0.drop (i+1)))) (nx8 c0 d0 (nx5 Y a0 rfl (aa.refl _) O)) (by rintro j U l0;refine ebB ?_;rintro _ _ _ _ _ b0 _;exact ia.of (b0 _ _ w0)) ?_ ?_⟩
     ·rintro j y U l0 pt m1;refine ebB ?_;rintro c0 d0 Y a0 rfl g0 O n1;have st:=aa.upd (o:=HO.tup [.int j,y]) n1;refine ea1 ?_ (Wb (ng (x0.same (g0.trans st))) m1);rintro lk o1 p1;refine ea0 ?_ (Qu p1);rintro A0 O0 rfl P0 Q0;rw[Cp o1]at O;refine nx11 pt _ rfl (Ba.of la) rfl _ _ rfl _ _ rfl ⟨rfl,_,rfl,A0,rfl,⟨_,ia.of P0⟩,bf (xs:=O0) (λm U n0=>∃Y a0:Option V,U=[wP (.ref a),wP (wV J),wP (.ref e),wP (.ref e0),wP (.int j),wP (.ref A0),Y,a0]/\aa (upd l0 pt (.tup [.int j,.ref A0])) n0/\pi J p=((Ul (lk.drop m)).map λk=>(d.1,(j:Int),k)).or ((Bp d.1 (j+1) (d.2.2.drop (j+1))).or (Kk (i0.drop (i+1))))) (nx5 Y a0 rfl (aa.refl _) (O.trans (Option.or_assoc ..))) (by rintro m U n0 _;refine ea0 ?_;rintro _ _ _ b0 _;exact ia.of (b0 _ _ P0)) ?_ ?_⟩
      ·rintro m z U n0 r1;refine ea0 ?_;rintro Y a0 rfl h0 O;refine ea1 ?_ (Wb (ng (Q0.same h0)) r1);rintro B0 t1 u1;refine ea1 ?_ (Pu u1);rintro v1 rfl w1;rw[Cp t1]at O;refine nx11 v1 _ rfl (Ba.of w1) rfl _ _ rfl _ _ rfl ⟨rfl,_,rfl,rfl,_,rfl,nc (λe=>?_) (λe=>?_)⟩
       ·have C0:B0.2=-1:=V.Na (zc e);refine⟨_,rfl,e0,_,_,_,rfl,rfl,Ba.of (h0 _ _ (st _ _ (g0 _ _ m0))),rfl,_,rfl,_,rfl,Lf,λt x1=>q2 t _ (d.1,(j:Int),B0.1) (y0.trans (j0.trans (g0.trans (st.trans (h0.trans (aa.upd x1)))))) ?_ la⟩;rw[O];unfold Ul;rw[wa C0];rfl
       ·have C0:¬B0.2=-1:=λz=>e (zb (by rw[z]))
        refine nx5 _ _ rfl h0 ?_;rw[O];conv=>lhs;unfold Ul
        rw[ma C0]
      ·rintro U n0;refine ea0 ?_;rintro Y a0 rfl h0 O;rw[show lk.drop O0.length=[]from Mh (Vj (qb (ng Q0)).symm)]at O;exact nx8 _ _ (nx5 _ _ rfl (g0.trans (st.trans h0)) (by rw[O];push_cast;rfl))
     ·rintro U l0;refine ebB ?_;rintro c0 d0 Y a0 rfl g0 O;rw[show d.2.2.drop v0.length=[]from Mh (Vj (qb (ng x0)).symm)]at O;exact nx21 _ _ _ _ _ rfl (j0.trans g0) O
    ·rintro U f0⟨z0,c0,d0,Y,a0,rfl,j0,O⟩;refine q1 f0 (y0.trans j0) ?_;rw[O,Mh]
     ·rfl
     ·rw[<-N0,pa];exact Vj (qb J0).symm
  ·obtain⟨x,ex,nx⟩:∃x,J=wP x/\x∉gc:=Oh λz=>q0 λx e=>Oh λn=>z ⟨x,e,n⟩
   exact⟨_,rfl,_,rfl,v,p,J,rfl,tr,p0,D0,λg=>absurd (g x ex) nx,λx e n=>S0 x e n⟩
--@vb
def Vl(e:Eg):Nk×Nk:=(e.1,e.2.1)
inductive ZO(vs:List V)(H:Hp)(Q:VK)(E:XK):Prop|mk(r t:BP)(rv tv:List V)(c:List Nk)(es:List Eg)(_:vs=[.ref r,.ref t])(_:H r=wP (.lst rv))(_:Oc H rv c)(_:c.length<=43)(_:H t=wP (.lst tv))(_:Paired (Yb H) tv es)(_:es.length<=1200)(_:(∀k∈wn c,∃e∈es,Vl e=k))(_:∀D ys H',H D=yP->aa H H'->H' D=wP (.lst ys)->Q (.ref D) H')
def Fc[DecidableEq O](U:List (O×V))(k J:O)(v:V):Oa (U++[(k,v)]) J=(Oa U J).or (if k=J then wP v else yP):=by
 unfold Oa
 grind
def aP(h:Oc H vs ns):Oc H (vs.drop 1++vs.take 1) (ns.drop 1++ns.take 1):=by
 cases h with
 |nil=>exact .nil
 |cons h t=>exact ef t (.cons h .nil)
def bP(T:Tx K mg):T.ux.Ok P w base 1 ZO:=by
 refine sb T.ux.F λH _ _ _ s0 h=>?_
 ·obtain⟨r,t,J,t1,c,es,rfl,i0,j0,u1,t0,l0,le,L0,q⟩:=h;refine⟨_,(va (Ua 2 YK)
   (va (kd Qc rfl (bc (pv 1)) (Db 3)
   (ra (Qe (aL (P:=P) (w:=w) rfl rfl (u8 s0.units) (pv 2) (Tc (na (Ea fc (pv 3) ka) (Fa (Ea fc (pv 3) ka)))) (pv 3) ⟨rfl,rfl,rfl,rfl⟩))))
   (ra (Sa (vf ["pair"] ["firsts"] [2] (eL (K:=K) rfl rfl T.VL (na (pv 0) (Fa (Ca Do (zh Ao (pv 0) (Wg ka) Th) (zh Ao (pv 0) Th (Wg ka)))))) (Jd 0) Df (ZK (P:=P) (w:=w) rfl rfl (u8 s0.units) (pv 1) (pv 0) (λ_ _=>rfl))))))),?_⟩
  show let M0:TS:=_;let N0:TS:=ya (qe _ _ _) M0;ya _ N0 _ _ _
  intros;intro fd u0;have s1:=aa.upd (o:=HO.ext (uf fd #[] 0)) u0;have lt:=qb l0;refine⟨_,rfl,t,rfl,⟨_,ia.of (s1 _ _ t0)⟩,bf (λi e0 a0=>∃m0:Option V,∃U ep Y,e0=[wP (.ref r),wP (.ref t),wP (.ref fd),m0]/\aa H a0/\a0 fd=wP (.ext (uf fd U ep))/\ci P w a0 U Y/\Y.length<=i/\∀e∈es.take i,∃v,Oa Y (Vl e)=wP v) (nx20 yP (#[]) 0 ([]) rfl s1 la ⟨.nil,.nil⟩ (xa _) (by simp)) (by rintro i e0 a0 _;refine ebB ?_;rintro _ _ _ _ _ O _;exact ia.of (O _ _ t0)) ?_ ?_⟩
  ·rintro i x e0 a0 ex;refine ebG ?_;rintro m0 U ep Y rfl b0 c0 d0 lk n0;refine ea1 ?_ (Wb l0 ex);rintro e O0 P0;revert P0;refine ea4 ?_;rintro b v0 w0 rfl x0 f0 g0;have y0:es.take (i+1)=es.take i++[e]:=by rw[qc,O0];rfl
   have li:=(Zb.mp ex).1;have v1:U.size=Y.length:=by rw[<-Lc];exact qb d0.1
   have sz:DP=2^24:=rfl;refine⟨_,rfl,fd,U,ep,rfl,c0,_,rfl,b,_,_,_,rfl,rfl,Ba.of (b0 _ _ x0),rfl,_,rfl,b,_,_,_,rfl,rfl,Ba.of (b0 _ _ x0),rfl,Za,λQ0 R0=>?_⟩;have st:=aa.upd (o:=HO.tup [v0,w0]) R0;have S:=b0.trans st;refine⟨_,rfl,U,ep,Y,Vl e,st _ _ c0,d0.kp λ_ _ z=>st _ _ z,nx1 Q0 v0 w0 rfl la (He S f0) (He S g0),(by lia),λv z0=>nx20 _ U ep Y rfl S (st _ _ c0) (d0.kp λ_ _ z=>st _ _ z) (Nat.le_succ_of_le lk) ?_,λS0 T0 U0 o0=>nx20 _ T0 U0 _ rfl (MK S (λb u n z=>by rw[oa n];exact z) u0) la o0 (by rw[Ac];exact Nat.succ_le_succ lk) ?_⟩
   ·rw[y0]
    grind
   ·rw[y0];exactλV0 W0=>by
     rw[Fc];rcases Xb.mp W0 with z|z
     ·obtain⟨v,z0⟩:=n0 V0 z;exact⟨v,by rw[z0];rfl⟩
     ·rw[Ce.mp z,S0];exact⟨_,by rw[wa rfl];rfl⟩
  ·rintro e0 a0;refine ebG ?_;rintro m0 U ep Y rfl b0 c0 d0 lk n0;have sz:DP=2^24:=rfl;have w1:=qb j0;refine⟨_,rfl,_,rfl,1,rfl,r,J,rfl,ia.of (b0 _ _ i0),λA0 X0=>?_⟩;have p0:=aa.upd (o:=HO.lst (xg J (wP 1) yP)) X0;refine⟨_,rfl,1,rfl,r,J,rfl,ia.of (p0 _ _ (b0 _ _ i0)),λB0 Y0=>?_⟩;have q0:=aa.upd (o:=HO.lst (xg J yP (wP 1))) Y0;rw[zy J 1 1 rfl]at*;rw[RD J 1 1 rfl]at*;refine⟨A0,B0,J.drop 1,J.take 1,rfl,rfl,q0 _ _ la,la,(by rw[dg,Ae];omega),λZ0 a1=>?_⟩;have t3:=aa.upd (o:=HO.lst (J.drop 1++J.take 1)) a1;have S:=b0.trans (p0.trans (q0.trans t3));have C0:=p0.trans (q0.trans t3);have b1:=C0 _ _ c0;have o0:=d0.kp λ_ _ z=>C0 _ _ z
   have h0:=S _ _ i0;have r0:=la (H:=upd (upd a0 A0 (.lst (J.drop 1))) B0 (.lst (J.take 1))) (a:=Z0) (o:=HO.lst (J.drop 1++J.take 1));have x1:(J.drop 1++J.take 1).length=c.length:=by rw[Ac,dg,Ae];grind
   refine nx17 _ _ _ _ rfl (.list (ia.of h0)) (.list (ia.of r0)) (Vm (k:=1) (fs:=[wP (.ref fd)]) c.length (λ_ i ys _=>ys.length=i) rfl (by lia) (λi H O hi=>⟨(Ve (ia.of (O _ _ h0))).go i (by simp_all),(Ve (ia.of (O _ _ r0))).go i (by simp_all)⟩) (λH O=>.inl ((Ve (ia.of (O _ _ h0))).stop _ (by simp_all))) (λ_ _ _ _ p=>Vj p) (λ_ _=>rfl) (λD i D0 ys y1 v z1 R F0 G0 O hi c1 y a _=>?_) λD D0 ys d1 O F0 G0=>?_)
   ·obtain⟨t,rfl⟩:=Ke.mp c1;revert y;refine eaF ?_;rintro p x y e1 f1 rfl g1 rfl;have ex:=(Ve (ia.of (O _ _ h0))).Nf i x _ e1;have h1:=(Ve (ia.of (O _ _ r0))).Nf i y _ f1;have i1:=S.trans O;have tp:=aa.upd (o:=HO.tup [x,y]) g1;refine ea1 ?_ (Wb j0 ex);rintro f0 j1 l1;refine ea1 ?_ (Wb (aP j0) h1);rintro g0 m1 n1;have o1:(wn c)[i]?=wP (f0,g0):=by unfold wn;rw[Cs];exact⟨j1,m1⟩
    refine ea1 ?_ (L0 _ (yb o1));rintro p1 r1 k0;obtain⟨I0,J0⟩:=n0 p1 (by rw[qb l0,Ic];exact r1);rw[k0]at J0;have K0:=i1.trans tp;refine⟨_,rfl,_,rfl,fd,U,ep,Y,(f0,g0),I0,rfl,tp _ _ (O _ _ b1),o0.kp λ_ _ z=>tp _ _ (O _ _ z),nx1 p x y rfl la (He K0 l1) (He K0 n1),J0,a I0 [_] _ rfl tp (by simp[G0])⟩
   ·exact q D ys D0 (S.free d1) (S.trans O) F0
--@vb
structure hE(Q:VK)(H:Hp)(w:Option Str)(p:Ps):Prop where
 un:∀r t H',pi w p=wP r->aa H H'->H' t=wP (.tup (.str "unkept"::t3 r))->Q (.ref t) H'
 od:pi w p=yP->∀(x:Str)t o ov H',x="order"\/x="ring"->aa H H'->H' t=wP (.tup [.str x,.ref o])->H' o=wP (.lst ov)->Q (.ref t) H'
inductive cP(cls:Lv->BP)(N:BP)(vs:List V)(H:Hp)(Q:VK)(E:XK):Prop|mk(v:V)(p:Ps)(w:Option Str)(_:vs=[v,wV w])(_:Tr H v (vd p))(_:GS p)(_:(∀x,w=wP x->Oj x))(_:((∀x,w=wP x->x∈gc)->hE Q H w p))(_:(∀x,w=wP x->x∉gc->∀H',aa H H'->E (.ref N) yP H'))
def dP{w:Option Str}{p:Ps}(g:GH p):(kh w p).Nodup:=by
 refine List.pairwise_flatMap.mpr ⟨λd _=>Be.mpr (rg (λ{i j:Nat}(z:i<j)e=>?_) Sn),rg (λ{d e}z x J y O q=>?_) (Be.mp g.nums)⟩
 ·have:=Ub Prod.snd e;simp only at this;lia
 ·obtain⟨i,_,rfl⟩:=Ya.mp J;obtain⟨j,_,rfl⟩:=Ya.mp O;have:=Ub Prod.fst q;simp only at this;simp_all
def eP:∀(H H':Hp)(y:V)(k:Nk×Nk),KN H H'->Uc H y k->Uc H' y k:=λ_ _ _ _ k h=>CC (λb xs e=>k b _ (λ_ z=>by cases z) e) h
def By(T:Tx K mg):uc P w K mg base (ae P w) 6 T.gi.f T.gi.d ["history","word"] (cP (cO T) T.ah):=by
 refine Vt T.gi.F (jn (N:=Tf (mc (top 38)))) (λvs H Q E h=>?_) (λu1 A outer s H vs Q E a0 h=>?_)
 ·obtain⟨v,p,J,rfl,_⟩:=h;rfl
 ·obtain⟨v,p,J,rfl,tr,b0,m0,f0,G0⟩:=h;refine⟨_,(va (Ua 2 (yh ((Wu T).mono (by decide)) a0 rfl T.Hg.m T.Hg.F.kp T.Hg.b .nil (Qm λ_ _ _ z=>z) (na (pv 0) (La 1))))
   (va (rc (wb Gm (pv 2) Pe (rb _))
   (ra (Sa (Ca SF (Tc (Fa jc)) (pv 2))))
   yc)
   (va (Ua 3 (yh ((PN T).mono (by decide)) a0 rfl T.Wo.m T.Wo.F.kp T.Wo.b .nil (Qm λ_ _ _ z=>z) (na (pv 0) (La 1))))
   (va (Ua 4 (yh ((nj T).mono (by decide)) a0 rfl T.Xo.m T.Xo.F.kp T.Xo.b .nil (Qm λ_ _ _ z=>z) (na (pv 0) (La 1))))
   (va (Qo 5 ["edge"] (by show(Tf _).Nodup;decide+kernel) [] [] (bc (pv 4)) (Jd 0) Df (Tc (na (Ea (Ef (K:=K) rfl) (pv 0) ka) (Fa (Ea (Ef (K:=K) rfl) (pv 0) ka)))))
   (va (Ua 6 (xb T.kx (WM T) a0 (na (pv 3) (La 5))))
   (va (rc (wb Gm (pv 6) Pe (rb _))
   (ra (Sa (Tc (na jc (La 6)))))
   yc)
   (ra (Sa (Tc (na jc (Fa (xb T.ux (bP T) a0 (na (xb T.lx (YM T) a0 (na (pv 3) (La 5))) (La 4))))))))))))))),?_⟩
  show let I0:TS:=_;let J0:TS:=ya (Ec _ _ _) I0;let K0:TS:=ya _ J0;let L0:TS:=ya _ K0;let M0:TS:=ya _ L0;let N0:TS:=ya _ M0;let O0:TS:=ya (Ec _ _ _) N0;ya _ O0 _ _ _
  intros;have sz:DP=2^24:=rfl;refine⟨_,rfl,_,rfl,v,p,J,rfl,tr,b0.gh.gp,m0,λc0=>⟨λP0 s1 d0=>?_,λt P0 k s1 d0 U=>?_⟩,λx e n=>G0 x e n⟩
  ·have v1:=b0.nodes J;have w1:=WO b0 J;have n0:=dP (w:=J) b0.gh;refine⟨_,rfl,rfl,_,rfl,ud (A:=_) ⟨_,rfl,_,rfl,v,p,J,rfl,tr.same s1,b0.gh.gp,m0,λ_ o0 x1 p0 y1 Q0 q0 r0=>?_,λx e n=>absurd (c0 x e) n⟩⟩;have s0:=s1.trans Q0;refine⟨_,rfl,_,rfl,v,p,J,rfl,tr.same s0,b0.gh,c0,λt0 z1 R0 es A1 u0 g0 v0 le S0=>?_⟩;have w0:(es.map Vl).length<=1200:=by rw[pa];lia
   have x0:∀k∈es.map Vl,k.1∈kh J p/\k.2∈kh J p:=λk h0=>by
    obtain⟨x,T0,rfl⟩:=Ya.mp h0;exact(S0 x T0).1
   refine⟨_,rfl,t0,rfl,⟨_,ia.of g0⟩,aj (k:=1) (fs:=[]) Uc Yb es (λe=>wP (Vl e)) eP (λ_ _ _ _ y0 z=>Ik _ _ _ _ (KN.of y0) z) rfl g0 v0 (by lia) (λe B1 U0 C1 v R y0 V0 W0 X0 _=>?_) λz0 U0 pv D1 e0 A0 i0=>?_⟩
   ·obtain⟨t,rfl⟩:=Ke.mp V0;revert W0;refine ea4 ?_;rintro b Y0 Z0 rfl B0 a1 b1;exact⟨_,rfl,b,_,_,_,rfl,rfl,Ba.of B0,rfl,_,rfl,b,_,_,_,rfl,rfl,Ba.of B0,rfl,Za,λn Y=>X0 _ _ [_] _ rfl rfl (aa.upd Y) (nx1 n Y0 Z0 rfl la (He (aa.upd Y) a1) (He (aa.upd Y) b1))⟩
   ·rw[Ek]at i0;have C0:=s0.trans (u0.trans e0);have j0:=u0.trans e0;refine⟨_,rfl,_,rfl,o0,z0,p0,pv,kh J p,es.map Vl,rfl,ia.of (j0 _ _ q0),We (dh j0) r0,n0,(by lia),ia.of A0,i0,w0,x0,λn Y k c1 d1 O=>?_,λo e1 d1 E1 O f1=>?_⟩
    ·have g1:=C0.trans O;have D0:=j0.trans O;refine⟨_,rfl,rfl,_,rfl,ud (A:=_) ⟨_,rfl,_,rfl,o0,z0,p0,pv,kh J p,es.map Vl,rfl,ia.of (D0 _ _ q0),We (dh D0) r0,n0,(by lia),ia.of (O _ _ A0),Hx O i0,w0,x0,λh1=>absurd c1 (h1 n Y k),λc i1 j1 F1 l1 m1 G1 l0 n1 o1=>?_⟩⟩;exact⟨_,rfl,i1,t0,j1,R0,c,es,rfl,n1,o1,m1,l0 _ _ (O _ _ (e0 _ _ g0)),Mg (KN.of (e0.trans (O.trans l0))) v0,(by lia),(λk h0=>Ya.mp (l1 k h0)),λp1 ys H1 I1 r1 t1=>⟨Za,λt U=>(f0 c0).od d0 "ring" t p1 ys _ (.inr rfl) (g1.trans (l0.trans (r1.trans (aa.upd U)))) la (aa.upd U _ _ t1)⟩⟩
    ·exact⟨_,rfl,rfl,_,rfl,cf (B:=_) ⟨_,rfl,Za,λt U=>(f0 c0).od d0 "order" t o e1 _ (.inl rfl) (C0.trans (O.trans (aa.upd U))) la (aa.upd U _ _ f1)⟩⟩
  ·exact⟨_,rfl,rfl,_,rfl,cf (B:=_) ⟨(by decide),λu F0=>⟨_,rfl,u,t,_,_,rfl,rfl,Ba.of la,Ba.of (aa.upd F0 _ _ U),(λz=>by cases z),af,(λz=>by cases z),λ_ n Y=>(f0 c0).un k n _ d0 (s1.trans ((aa.upd F0).trans (aa.upd Y))) la⟩⟩⟩
--@vb
def fP(T:Tx K mg):T.Bx.Ok P w base 1 oO:=by
 refine sb T.Bx.F λ_ _ _ _ _ h=>?_
 ·revert h;refine ea1 ?_;rintro c rfl q;refine⟨_,(ra (Sa (Ea Ob (kc (na Pe (na jc (na jc (na jc (na jc (na jc (Fa Pe)))))))) (Ca ec (pv 0) ka)))),?_⟩;exact⟨(by decide),λJ O=>⟨_,rfl,_,_,rfl,rfl,(by decide),J,_,_,_,rfl,rfl,ia.of la,qO c,q _ (aa.upd O)⟩⟩
def gP(T:Tx K mg):T.Dx.Ok P w base 1 rO:=by
 refine sb T.Dx.F λ_ _ _ _ c0 h=>?_
 ·revert h;refine eb2 ?_;rintro n rfl r0 s0 q;have t0:=Ue c0;refine⟨_,(va (Ua 1 (Ea Ob (kc (na jc (na jc (na jc (na jc (Fa jc)))))) (Ca ec (pv 0) ka)))
   (va (Ua 2 (Ca ec (Ca Sh (pv 0) ka) (vc Xd (by rfl) T.Kd Cd (La 1))))
   (va (Ua 3 (Ea WF jc (Ca ec (Ca Sh (pv 0) ka) ka)))
   (va (rc (wb re (Ca ec (Ca Sh (pv 0) ka) ka) ka (rb _))
   (ra (Sa (Ca vq (zh Io (pv 1) Th (Wg (pv 2))) (zh Io (pv 1) (Wg (Ca fg (pv 2) ka)) Th))))
   yc)
   (va (rc (wb re (Ca ec (Ca Sh (pv 0) ka) ka) ka (rb _))
   (ra (Sa (Ca vq (Ca vq (zh Io (pv 1) Th (Wg (pv 2))) (pv 3)) (zh Io (pv 1) (Wg (pv 2)) Th))))
   yc)
   (ra (Sa (Ca vq (Ca vq (zh Io (pv 1) Th (Wg (pv 2))) (pv 3)) (zh Io (pv 1) (Wg (Ca fg (pv 2) ka)) Th))))))))),?_⟩
  show let d0:TS:=_;let e0:TS:=ya (Ec _ _ _) d0;let f0:TS:=ya (Ec _ _ _) e0;let g0:TS:=ya _ f0;let h0:TS:=ya _ g0;ya _ h0 _ _ _
  intros;refine⟨Pg,λi0 j0=>?_⟩;have s1:=aa.upd (o:=HO.lst [V.str "loose",V.str "kept",V.str "make",V.str "watch",V.str "hold"]) j0;refine⟨_,rfl,_,_,rfl,rfl,(by grind),i0,_,_,_,rfl,rfl,ia.of la,IC n,?_⟩;have b0:Ql n∈gc:=by
   unfold Ql;have u0:=Qh n (show(5:Int)≠0 by decide);exact yb (My.df (show(n%5).toNat<gc.length by show _<5;lia))
  generalize Ql n=x at b0;have J:zg 5 x:=by
   rw[<-xr b0];exact⟨(Lu _).1,λc l0=>Nat.lt_trans ((Lu _).2 c l0) (by decide)⟩
  have v0:0<x.length:=by
   rw[<-xr b0];generalize Nj x=l;cases l<;>decide+kernel
  have hz:DP=2^24:=rfl;have w0:=J.1;refine⟨_,rfl,_,_,rfl,rfl,⟨by decide,by decide⟩,_,rfl,.str x,x.length,rfl,⟨by lia,rfl⟩,_,_,rfl,rfl,(by simp_all),?_⟩;refine ea1 ?_ (sO (n/25));rintro ch m0 n0;refine⟨_,rfl,_,_,rfl,rfl,⟨by decide,by decide⟩,_,_,rfl,rfl,(by simp_all),_,_,ch,rfl,rfl,(by decide+kernel),m0,?_⟩;have a0:zg 1 ⟨#[ch]⟩:=zg.one n0;refine⟨_,rfl,_,_,rfl,rfl,⟨by decide,by decide⟩,_,_,rfl,rfl,(by show(0:Int)<3;decide),rfl,_,rfl,nc (λe=>?_) (λe=>?_)⟩
  ·have O:=(J.slice yP (wP (n/5%(x.length:Int)))).app (J.slice (wP (n/5%(x.length:Int)+1)) yP);exact⟨_,rfl,_,rfl,_,rfl,x,rfl,by lia,_,rfl,_,rfl,_,_,rfl,rfl,_,rfl,x,rfl,by lia,_,_,rfl,rfl,by have:=(J.slice yP (wP (n/5%(x.length:Int)))).1;have:=(J.slice (wP (n/5%(x.length:Int)+1)) yP).1;lia,q _ _ s1 (xy O (by decide))⟩
  refine⟨_,rfl,_,_,rfl,rfl,⟨by decide,by decide⟩,_,_,rfl,rfl,(by show(0:Int)<3;decide),rfl,_,rfl,nc (λe=>?_) (λe=>?_)⟩
  ·have U:=J.slice yP (wP (n/5%(x.length:Int)));have Y:=J.slice (wP (n/5%(x.length:Int))) yP;have O:=(U.app a0).app Y;have o0:=U.1;have p0:=Y.1;have q0:=a0.1;exact⟨_,rfl,_,rfl,_,rfl,x,rfl,by lia,_,rfl,_,_,rfl,rfl,by lia,_,rfl,_,rfl,_,rfl,x,rfl,by lia,_,_,rfl,rfl,by rw[Nn];lia,q _ _ s1 (xy O (by decide))⟩
  ·have U:=J.slice yP (wP (n/5%(x.length:Int)));have Y:=J.slice (wP (n/5%(x.length:Int)+1)) yP;have O:=(U.app a0).app Y;have o0:=U.1;have p0:=Y.1;have q0:=a0.1;exact⟨_,rfl,_,rfl,_,rfl,x,rfl,by lia,_,rfl,_,_,rfl,rfl,by grind,_,rfl,_,rfl,_,_,rfl,rfl,_,rfl,x,rfl,by lia,_,_,rfl,rfl,by rw[Nn];lia,q _ _ s1 (xy O (by decide))⟩
--@vb
def hP{H H':Hp}{a l m c:BP}{O g0:List V}{U Y a0 h0 b0:List BP}{p:Ps}{i:Nat}{x:V}{d d':Dl}(r0:H a=wP (.tup [.ref l,.ref m]))(s0:H l=wP (.lst O))(t0:H m=wP (.lst g0))(u0:Ha H g0 (p.2.map ji) Y)(v0:(a::(l::U++(m::Y))).Nodup)
  (ex:O[i]?=wP x)(i0:U=a0++(h0++b0))(put:∀H' j0 d' l0,(∀b∈a0++b0,∀o,H b=wP o->H' b=wP o)->TF H' j0 d' l0->Ha H' (O.set i j0) ((p.1.map Md).set i d') (a0++(l0++b0)))(m0:c∈h0)(kp:∀b o,b≠c->H b=wP o->H' b=wP o)(c0:∃d0,TF H' x (Md d') d0):Tr H' (.ref a) (vd (p.1.set i d',p.2)):=by
 obtain⟨d0,c0⟩:=c0;obtain⟨w0,x0⟩:=Vc.mp v0;obtain⟨y0,C0,z0⟩:=Hj.mp x0;obtain⟨A0,n0⟩:=Vc.mp y0;have e0:c∈U:=by rw[i0];exact Ze _ (qh _ m0)
 have ac:a≠c:=λz=>w0 (by rw[z];exact qh _ (.tail _ e0))
 have B0:l≠c:=λz=>A0 (by rw[z];exact e0)
 have o0:∀b∈m::Y,b≠c:=λb J z=>z0 b J (by rw[z];exact .tail _ e0)
 rw[i0]at n0;have p0:=(Xq.mp n0).2.2 c m0;have q0:=put H' x (Md d') d0 (λb J o f0=>kp b o (λz=>by rcases Xb.mp J with y|y;exact p0.1 (z▸y);exact p0.2 (z▸y)) f0) c0;rw[<-Fi,Ha.bb ex]at q0;exact .tup (kp _ _ ac r0) (.cons (.lst (kp _ _ B0 s0) q0.No) (.cons (.lst (kp _ _ (o0 m (.head _)) t0) (u0.fr λb J o f0=>kp b o (o0 b (.tail _ J)) f0).No) .nil))
inductive iP(K:W.Frag)(vs:List V)(H:Hp)(Q:VK)(E:XK):Prop|mk(a:BP)(cs:List Int)(_:vs=[.ref a])(_:ia K H a (cs.map V.int))(_:cs.length<=63)(_:∀v H',aa H H'->Tr H' v (vd (zp cs))->Q v H')
def iE(T:Tx K mg):T.Cu.Ok P w base 4 (iP K):=by
 refine sb T.Cu.F λ{_ A _ _}H _ _ _ h0 h=>?_
 ·obtain⟨a,i0,rfl,M0,v1,q⟩:=h;have t2:=Ue h0;refine⟨_,(va (Ua 1 (xb T.Ax (iN T) h0 (La 0)))
   (va (Ua 2 (xb T.Ol (vp T) h0 (na (pv 0) (Fa ka))))
   (Ot (rc (PW.pt (zm (wb re (Ca ec (Ca Sh (pv 2) ka) ka) ka (rb _)) (ym (wb (Ko h0.units) (Ea fc (pv 1) ka) (kc Ad) (rb _)))))
   (va (Ua 3 (Ea fc (Ea Ob (Ea fc (pv 1) ka) (Ca ec (Ca Sh (pv 2) ka) (vc Xd (by rfl) T.Kd Cd (Fa (Ea fc (pv 1) ka))))) ka))
   (ra (rc (PW.pt (zm (wb (Ko h0.units) (pv 3) (kc Ad) (rb _)) (ym (wb (Ko h0.units) (Ea Ob (pv 3) (Ca ec (Ca Sh (pv 2) ka) (vc Xd (by rfl) T.Kd Cd (La 3)))) (kc Ad) (rb _)))))
   (va (Ua 4 (Ea Ob (pv 3) (Ca ec (Ca Sh (pv 2) ka) (vc Xd (by rfl) T.Kd Cd (La 3)))))
   (ra (Av (Tc (na (Ea fc (Ea Ob (pv 4) (Em Fm ka)) ka) (Fa (Em Fm ka)))) (Ky (pv 4) (Em Fm ka) nA))))
   yc)))
   yc)
   (ra (Sa (pv 1)))))),?_⟩
  show let w1:TS:=_;let x1:TS:=_;let y1:TS:=ya _ x1;let z1:TS:=Ec _ y1 _;let A1:TS:=ya _ z1;let B1:TS:=Rq (Ec _ A1 _) w1;let C1:TS:=ya _ B1;ya _ C1 _ _ _
  intros;refine⟨_,rfl,a,i0,rfl,M0,v1,λv f N0 s1 A0 D1 E1=>?_⟩;refine eaB ?_ (lO A0);rintro j0 l m q0 u2 v2 w2 rfl O0 t0 u0 P0 F1 G1;have l0:q0.length=(ye i0).1.length:=by rw[P0.len,pa]
  have l3:=(JD i0).l3;refine⟨_,rfl,a,i0,0,rfl,s1.seq M0,by decide,?_⟩;unfold zp at q;generalize ce i0 0=J at q⊢;generalize ye i0=t at*;refine⟨λQ0 m0=>∃R0 S0:Option V,Q0=[wP (.ref a),wP (.ref j0),wP (.int J),R0,S0]/\aa H m0/\Tr m0 (.ref j0) (vd (Er J t)),?_,?_⟩
  ·refine Yq (b:=decide (J/7%3=0/\t.1≠[])) (λx2 k2=>?_) (λm0 O=>nc (λe=>?_) (λe=>?_))
   ·refine⟨_,rfl,_,_,rfl,rfl,⟨by decide,by decide⟩,_,_,rfl,rfl,(by show(0:Int)<3;decide),rfl,_,rfl,nc (λe=>?_) (λe=>?_)⟩
    ·have a0:J/7%3=0:=V.Na (zc e);refine⟨_,rfl,j0,_,_,_,rfl,rfl,Ba.of t0,rfl,nb,λn0 Y=>nx6 l n0 q0 rfl rfl (ia.of (aa.upd Y _ _ u0)) (ia.of la) ⟨_,rfl,?_⟩⟩;have:(!q0.isEmpty)=decide (J/7%3=0/\t.1≠[]):=by
      rw[Fn,Bs];cases q0 with
      |nil=>simp;intro _;exact el.mp l0.symm
      |cons a r=>
       simp[a0];intro z;rw[z]at l0;cases l0
     rw[this];exact k2 _ (aa.upd Y)
    ·have a0:¬J/7%3=0:=λz=>e (zb (show V.int (J/7%3)=V.int 0 by rw[z]))
     have:decide (J/7%3=0/\t.1≠[])=GP:=Wd λz=>a0 z.1
     rw[this]at k2;exact k2 _ (aa.refl _)
   ·have a0:=zc e;have H1:0<t.1.length:=ag.mpr a0.2;refine eb5 ?_ (Kl (xs:=q0) (J/21) l0 H1);rintro hi y2 T0 I1;have J1:=My.df (d:=zD) hi;unfold Er;dsimp only;generalize z2:(J/21%(t.1.length:Int)).toNat=i at*;generalize t.1.getD i zD=d at*;refine eaE ?_ (P0.focus (i:=i) (d:=Md d) (by rw[fb,J1];rfl));rintro x A2 U0 B2 ex B0 K1 put;rw[T0]at ex;cases ex;refine ea2 ?_ (MC K1);rintro V0 L b0 L1 rfl W0 X0 c0 Y0;have d0:b0.length=d.2.2.length:=by rw[Y0.len,pa]
    refine⟨_,rfl,j0,_,_,_,rfl,rfl,Ba.of (O _ _ t0),rfl,_,rfl,_,_,rfl,rfl,⟨by decide,by decide⟩,_,rfl,j0,_,_,_,rfl,rfl,Ba.of (O _ _ t0),rfl,_,_,rfl,.inl ⟨_,ia.of (O _ _ u0),rfl⟩,_,_,rfl,rfl,(by rw[l0];simp_all),l,_,_,_,rfl,rfl,ia.of (O _ _ u0),(by rw[l0];exact I1),V0,_,_,_,rfl,rfl,Ba.of (O _ _ X0),rfl,?_⟩;have M1:=s1.trans O;have skip:¬(d.2.2≠[]/\d.2.2.getD (J/168%(d.2.2.length:Int)).toNat []≠[])->∀r0,aa m0 r0->Tr r0 (.ref j0) (vd (if(J/7%3=0/\t.1≠[])/\d.2.2≠[]/\d.2.2.getD (J/168%(d.2.2.length:Int)).toNat []≠[]then(t.1.set i (d.1,d.2.1,d.2.2.set (J/168%(d.2.2.length:Int)).toNat (Tu (d.2.2.getD (J/168%(d.2.2.length:Int)).toNat []))),t.2)else t)):=λn r0 s0=>by
     rw[ma λz=>n z.2];exact A0.tr.same (O.trans s0)
    by_cases v0:d.2.2=[]
    ·have N1:b0=[]:=el.mp (by rw[d0,v0];rfl);refine⟨_,rfl,nb,λn0 Y=>nx6 L n0 b0 rfl rfl (ia.of (aa.upd Y _ _ (O _ _ c0))) (ia.of la) ⟨_,rfl,?_⟩⟩;rw[N1];exact ud (A:=_) (ud (A:=_) (nx5 _ _ rfl (M1.trans (aa.upd Y)) (skip (λz=>z.1 v0) _ (aa.upd Y))))
    have o0:0<d.2.2.length:=ag.mpr v0;refine eb5 ?_ (Kl (xs:=b0) (J/168) d0 o0);rintro O1 C0 Z0 a1;have P1:=My.df (d:=([]:Lk)) O1;generalize C2:(J/168%(d.2.2.length:Int)).toNat=j at*;generalize d.2.2.getD j []=lk at*;refine eaE ?_ (Y0.focus (i:=j) (d:=yf lk) (by rw[fb,P1];rfl));rintro D2 k1 k2 k3 b1 D0 Q1 R1;rw[Z0]at b1;cases b1;obtain⟨b,U,F0,rfl,w0,x0,c1⟩:∃b U F0,C0=.ref b/\k2=b::F0/\N0 b=wP (.lst U)/\Ha N0 U (lk.map Jg) F0:=by
     cases Q1 with
     |lst h r=>exact nx1 _ _ _ rfl rfl h r
    have G0:U.length=lk.length:=by rw[c1.len,pa]
    have S1:(!b0.isEmpty)=CP:=by
     cases b0 with
     |nil=>rw[<-d0]at o0;cases o0
     |cons _ _=>rfl
    refine⟨_,rfl,nb,λn0 Y=>nx6 L n0 b0 rfl rfl (ia.of (aa.upd Y _ _ (O _ _ c0))) (ia.of la) ⟨_,rfl,?_⟩⟩;have s0:=aa.upd (o:=HO.lst []) Y;generalize upd m0 n0 (.lst [])=r0 at s0;rw[S1];refine cf (B:=_) ?_;have y0:=O.trans s0;refine⟨_,rfl,_,rfl,_,_,rfl,rfl,⟨by decide,by decide⟩,_,rfl,_,_,rfl,.inl ⟨_,ia.of (y0 _ _ c0),rfl⟩,_,_,rfl,rfl,(by rw[d0];simp_all),L,_,_,_,rfl,rfl,ia.of (y0 _ _ c0),(by rw[d0];exact a1),nb,λd1 e1=>nx6 b d1 U rfl rfl (ia.of (aa.upd e1 _ _ (y0 _ _ x0))) (ia.of la) ⟨_,rfl,?_⟩⟩;have I0:=aa.upd (o:=HO.lst []) e1;generalize upd r0 d1 (.lst [])=T1 at I0;have e0:=y0.trans I0;by_cases z0:lk=[]
    ·have C0:U=[]:=el.mp (by rw[G0,z0];rfl);rw[C0];exact ud (A:=_) (nx5 _ _ rfl (s1.trans e0) (skip (λz=>z.2 z0) _ (s0.trans I0)))
    have f1:0<lk.length:=ag.mpr z0;have U1:(!U.isEmpty)=CP:=by
     cases U with
     |nil=>rw[<-G0]at f1;cases f1
     |cons _ _=>rfl
    rw[U1];refine cf (B:=_) ?_;rw[wa ⟨a0,v0,z0⟩];have V1:=(show lk[lk.length-1]?=wP (lk.getD (lk.length-1) (0,0))from My.df (by grind));unfold Tu;generalize W1:lk.length-1=n at*;generalize lk.getD n (0,0)=f0 at*;refine eaE ?_ (c1.focus (i:=n) (d:=Jg f0) (by rw[fb,V1];rfl));rintro E2 F2 G2 H2 X1 Y1 Z1 a2;refine ea1 ?_ (Pu Z1.tr);rintro g1 rfl b2;have c2:Bd U (-1)=wP (.ref g1):=lD (by rw[G0,W1];exact X1);have d2:hg U.length (-1)=wP n:=by
     unfold hg;rw[ma (by decide),wa (by lia)];rw[show(-1+(U.length:Int)).toNat=n by lia]
    refine⟨_,rfl,_,rfl,_,_,rfl,rfl,⟨by decide,by decide⟩,_,rfl,_,_,rfl,.inl ⟨_,ia.of (e0 _ _ c0),rfl⟩,_,_,rfl,rfl,(by rw[d0];lia),L,_,_,_,rfl,rfl,ia.of (e0 _ _ c0),(by rw[d0];exact a1),?_⟩;refine⟨_,rfl,1,rfl,b,_,_,_,rfl,rfl,ia.of (e0 _ _ x0),c2,g1,_,_,_,rfl,rfl,Ba.of (e0 _ _ b2),rfl,1,rfl,Za,λg0 J0=>?_⟩;have e2:=aa.upd (o:=HO.tup [.int f0.1,.int (-1)]) J0;have h1:=e0.trans e2;have f2:upd T1 g0 (.tup [.int f0.1,.int (-1)]) g0=wP (.tup [.int f0.1,.int (-1)]):=la;have g2:g0≠b:=λy=>by rw[y,e0 _ _ x0]at J0;cases J0
    refine⟨_,rfl,1,rfl,b,U,_,n,rfl,rfl,h1 _ _ x0,d2,?_⟩;have K0:=D1;rw[O0]at K0;have i1:b∈U0:=by rw[W0,D0,w0];exact .tail _ (.tail _ (Ze _ (qh _ (.head _))))
    have h2:b∈f:=by rw[O0,B0];exact .tail _ (qh _ (.tail _ (Ze _ (qh _ i1))))
    have j1:U0.Nodup:=by
     have o0:=(Vc.mp (Hj.mp (Vc.mp K0).2).1).2;rw[B0]at o0;exact(Xq.mp o0).2.1
    rw[W0]at j1;obtain⟨i2,j2⟩:=Vc.mp j1;obtain⟨l2,l1⟩:=Vc.mp j2;have m1:b∈L1:=by rw[D0,w0];exact Ze _ (qh _ (.head _))
    have m2:V0≠b:=λy=>i2 (by rw[y];exact .tail _ m1)
    have n2:L≠b:=λy=>l2 (by rw[y];exact m1)
    rw[D0]at l1;have n1:=Xq.mp l1;have o1:=n1.2.2 b (by rw[w0];exact .head _);have p1:=n1.2.1;rw[w0]at p1;have o2:=(Vc.mp p1).1;intro H' h' r1;have p0:=λc o p2 z=>r1 c o p2 (h1 _ _ z)
    have r2:TF H' (.ref g0) (Jg (f0.1,-1)) [g0]:=.tup (r1 _ _ g2 f2) (Ha.cons (f:=[]) (g:=[]) (.int _) (Ha.cons (f:=[]) (g:=[]) (.int _) .nil));have t1:=a2 H' (.ref g0) (Jg (f0.1,-1)) [g0] (λc L0 o z=>p0 c o (λy=>o2 (by rw[<-y,Y1];rcases Xb.mp L0 with u|u;exact qh _ u;exact Ze _ (Ze _ u))) z) r2;rw[<-Fi]at t1;have u1:=R1 H' (.ref b) (yf (lk.set n (f0.1,-1))) _ (λc L0 o z=>p0 c o (λy=>by rcases Xb.mp L0 with u|u;exact o1.1 (y▸u);exact o1.2 (y▸u)) z) (.lst h' t1);rw[<-Fi,Ha.bb Z0]at u1;exact nx5 _ _ rfl (λc o z=>p0 c o (λy=>by rw[y,E1 b h2]at z;cases z) (s1 _ _ z)) (hP (d:=d) t0 u0 F1 G1 K0 T0 B0 put i1 p0 ⟨_,.tup (p0 _ _ m2 X0) (Ha.cons (f:=[]) (.int _) (Ha.cons (f:=[]) (.str _) (Ha.one (.lst (p0 _ _ n2 c0) u1))))⟩)
   ·have a0:¬(J/7%3=0/\t.1≠[]):=λz=>e (zb z)
    exact nx5 _ _ rfl (s1.trans O) (by unfold Er;rw[ma (λz=>a0 z.1)];exact A0.tr.same O)
  ·rintro Q0 m0;refine ea0 ?_;rintro R0 S0 rfl O s2;exact⟨_,rfl,q _ _ O s2⟩
--@vb
inductive jP(vs:List V)(H:Hp)(Q:VK)(E:XK):Prop|mk(v:V)(p:Ps)(w:Option Str)(_:vs=[v,wV w])(_:Tr H v (vd p))(_:xn p)(_:(∀x,w=wP x->x∈gc))(_:Ay Q H (pi w p))
def jE{x:Str}(h:x∈gc):ei (Nj x)=decide (x="loose"):=by
 unfold gc at h;simp only[jb,qj,uj]at h;rcases h with rfl|rfl|rfl|rfl|rfl<;>decide+kernel
def kE(x y:Str):decide (V.str x=V.str y)=decide (x=y):=by
 simp_all
def Cy(T:Tx K mg):T.lr.Ok P w base 1 jP:=by
 refine sb T.lr.F λ{_ A _ _}H _ _ _ _ h=>?_
 ·obtain⟨v,p,a0,rfl,tr,s0,C0,q1,q2⟩:=h;refine⟨_,(va (kd Qc rfl (bc (Ea fc (pv 0) ka)) (Rh rfl (Mc (Db 2) (Mc (Db 3) (Mc (Db 4) xh))))
   (ra (rc (PW.pt (zm (wb yo (pv 1) jc (rb _)) (ym (PW.pt (Am (wb Gm (pv 1) Pe (rb _)) (uo (wb yo (pv 3) jc (rb _))))))))
   (ra (kd Qc rfl (yl rfl T.Bk (Fa (vc Xd (by rfl) T.Kd Cd (La 4)))) (Db 5)
   (ra (kd Qc rfl (bc (Ea Ob (pv 4) (pv 5))) (Rh rfl (Mc (Db 6) (Mc (Db 7) xh)))
   (ra (rc (wb re (pv 7) (Em Fm ka) (rb _))
   (ra (Sa (Tc (na (pv 2) (na (pv 5) (La 6))))))
   yc))))))
   yc)))
   (ra (Sa Pe))),?_⟩
  show let D0:TS:=_;ya (qe _ _ (Ec _ (qe _ _ (qe _ _ (Ec _ _ _))) _)) D0 _ _ _
  intros;refine eb3 ?_ (Fk tr);rintro a l m F0 X0 rfl G0 t0 u0 _ _;refine⟨_,rfl,a,_,_,_,rfl,rfl,Ba.of G0,rfl,l,rfl,⟨_,ia.of t0⟩,bf (xs:=F0) (λi O e0=>∃j0 l0 m0 b0 U Y:Option V,O=[wP (.ref a),wP (wV a0),j0,l0,m0,b0,U,Y]/\aa H e0/\pi a0 p=Kk ((p.1.drop i).filter λd=>!ei (Mb a0 d))) (nx2 yP yP yP (nx7 yP yP yP rfl (aa.refl _) rfl)) (by rintro i O e0 _;refine eaG ?_;rintro _ _ _ _ _ _ _ n0 _;exact ia.of (n0 _ _ t0)) ?_ ?_⟩
  ·rintro i x O e0 ex;refine eaG ?_;rintro j0 l0 m0 b0 U Y rfl c0 J;refine ea1 ?_ (Wb (ng (u0.same c0)) ex);rintro d o0 I0;refine ea4 ?_ (lj I0);rintro J0 L p0 rfl K0 L0 v0;rw[Cp o0,List.filter_cons]at J;refine nx11 J0 _ rfl (Ba.of K0) rfl _ _ rfl _ _ rfl (nx5 _ _ rfl rfl ?_);have wd:=(s0.2.2 d (yb o0)).1;refine Yq (b:=!ei (Mb a0 d)) (λY0 k2=>?_) (λM0 f0=>nc (λe=>?_) (λe=>?_))
   ·have k3:=k2 _ (aa.refl _);cases a0 with
    |none=>
     rw[show Mb yP d=Nj d.2.1 from rfl,jE wd,<-kE]at k3;exact⟨_,rfl,rfl,_,rfl,cf (B:=_) ⟨_,rfl,rfl,_,rfl,ud (A:=_) ⟨_,rfl,rfl,_,rfl,k3⟩⟩⟩
    |some x=>
     rw[show Mb (wP x) d=Nj x from rfl,jE (C0 x rfl),<-kE]at k3;refine⟨_,rfl,rfl,_,rfl,nc (λe=>?_) (λe=>?_)⟩
     ·rw[show(!decide (V.str x=V.str "loose"))=CP from e]at k3;exact⟨_,rfl,rfl,_,rfl,cf (B:=_) k3⟩
     ·rw[show(!decide (V.str x=V.str "loose"))=GP from Bool.eq_false_iff.mpr e]at k3;exact k3
   ·rw[e,wa rfl]at J;have w0:=f0 _ _ L0;have N0:=v0.same f0;have Z0:=qb (ng v0);have a1:=(s0.2.2 d (yb o0)).2;refine⟨_,rfl,_,_,rfl,.inl ⟨_,ia.of w0,rfl⟩,_,rfl,(by simp_all),(by lia),wo (λj O h0=>∃b0 U Y:Option V,O=[wP (.ref a),wP (wV a0),wP (.int d.1),wP (.str d.2.1),wP (.ref L),b0,U,Y]/\aa M0 h0/\pi a0 p=(Bp d.1 j (d.2.2.drop j)).or (Kk ((p.1.drop (i+1)).filter λd=>!ei (Mb a0 d)))) (nx7 b0 U Y rfl (aa.refl _) J) ?_ ?_⟩
    ·rintro j O h0 b1;refine eb0 ?_;rintro b0 U Y rfl d0 J;have x0:j<p0.length:=by lia
     refine ea1 ?_ (Wb (ng (N0.same d0)) (Pd x0));rintro lk O0 P0;refine ea0 ?_ (Qu P0);rintro y0 z0 Q0 A0 B0;rw[Cp O0]at J;refine⟨_,rfl,_,rfl,L,p0,_,.ref y0,rfl,rfl,ia.of (d0 _ _ w0),(by rw[am];exact Pf (by rw[Pd x0,Q0])),y0,rfl,⟨_,ia.of A0⟩,bf (xs:=z0) (λm O i0=>∃U Y:Option V,O=[wP (.ref a),wP (wV a0),wP (.int d.1),wP (.str d.2.1),wP (.ref L),wP (.int (0+(j:Int))),U,Y]/\aa h0 i0/\pi a0 p=((Ul (lk.drop m)).map λk=>(d.1,(j:Int),k)).or ((Bp d.1 (j+1) (d.2.2.drop (j+1))).or (Kk ((p.1.drop (i+1)).filter λd=>!ei (Mb a0 d))))) (nx5 U Y rfl (aa.refl _) (J.trans (Option.or_assoc ..))) (by rintro m O i0 _;refine ea0 ?_;rintro _ _ _ n0 _;exact ia.of (n0 _ _ A0)) ?_ ?_⟩
     ·rintro m z O i0 R0;refine ea0 ?_;rintro U Y rfl g0 J;refine ea1 ?_ (Wb (ng (B0.same g0)) R0);rintro q0 S0 T0;refine ea1 ?_ (Pu T0);rintro U0 rfl V0;rw[Cp S0]at J;refine nx11 U0 _ rfl (Ba.of V0) rfl _ _ rfl _ _ rfl ⟨rfl,_,rfl,1,rfl,rfl,_,rfl,nc (λe=>?_) (λe=>?_)⟩
      ·have r0:q0.2=-1:=V.Na (zc e);refine⟨_,rfl,_,rfl,_,rfl,Lf,λt W0=>q2 t _ (d.1,(j:Int),q0.1) (c0.trans (f0.trans (d0.trans (g0.trans (aa.upd W0))))) ?_ (by rw[la,am];rfl)⟩;rw[J];unfold Ul;rw[wa r0];rfl
      ·have r0:¬q0.2=-1:=λz=>e (zb (by rw[z]))
       refine nx5 _ _ rfl g0 ?_;rw[J];conv=>lhs;unfold Ul
       rw[ma r0]
     ·rintro O i0;refine ea0 ?_;rintro U Y rfl g0 J;rw[show lk.drop z0.length=[]from Mh (Vj (qb (ng B0)).symm)]at J;exact nx7 _ _ _ rfl (d0.trans g0) (by rw[J];push_cast;rfl)
    ·rintro O h0;refine eb0 ?_;rintro b0 U Y rfl d0 J;rw[show d.2.2.drop ((p0.length:Int).toNat)=[]from Mh (by simp_all)]at J;exact nx2 _ _ _ (nx7 _ _ _ rfl (c0.trans (f0.trans d0)) J)
   ·rw[Bool.eq_false_iff.mpr e,ma pc]at J;exact nx2 _ _ _ (nx7 _ _ _ rfl (c0.trans f0) J)
  ·rintro O e0;refine eaG ?_;rintro j0 l0 m0 b0 U Y rfl c0 J;refine q1 e0 c0 ?_;rw[J,Mh (Vj (qb (ng u0)).symm)];rfl
--@vb
def Cn(H:Hp)(v:V)(r:Option (Int×Int×Int)):Prop:=(r=yP/\v=.Pa)\/∃t k,r=wP k/\v=.ref t/\H t=wP (.tup (t3 k))
def Cn.same{H H':Hp}{v:V}{r:Option (Int×Int×Int)}(h:Cn H v r)(s:aa H H'):Cn H' v r:=h.imp id (by refine ea0 ?_;rintro t k a b c;exact nx5 t k a b (s _ _ c))
inductive kP(vs:List V)(H:Hp)(Q:VK)(E:XK):Prop|mk(f d:V)(r:Option (Int×Int×Int))(_:vs=[f,d])(_:Cn H f r)(_:Cn H d r)(_:Q (.bl CP) H)
def lE(H:Hp)(f d:V):Prop:=(∃k t u,f=.ref t/\H t=wP (.tup (.str "unkept"::t3 k))/\d=.ref u/\H u=wP (.tup (t3 k)))\/(d=.Pa/\∃t x o J,f=.ref t/\H t=wP (.tup [.str x,.ref o])/\(x="order"\/x="ring")/\H o=wP (.lst J))
def lP:Sp:=λvs H Q _=>∃(f d:V),vs=[f,d]/\lE H f d/\∀H',aa H H'->Q (.bl CP) H'
inductive mP(vs:List V)(H:Hp)(Q:VK)(E:XK):Prop|mk(v:V)(p:Ps)(x:Str)(b:Bool)(_:vs=[v,.str x,.bl b])(_:Tr H v (vd p))(_:GS p)(_:Oj x)(_:x∉gc)(_:∀H',aa H H'->Q (.bl CP) H')
def Xu(k:Int×Int×Int):QP:=.tuple [.int k.1,.int k.2.1,.int k.2.2]
def mE{K:W.Frag}{H:Hp}{t:BP}{k:Int×Int×Int}(h:H t=wP (.tup (t3 k))):Dt K H (.ref t) (Xu k):=.tup (Ba.of h) (.cons (.int _) (.cons (.int _) (.cons (.int _) .nil)))
def Dy(T:Tx K mg):T.mr.Ok P w base 2 kP:=by
 refine sb T.mr.F λH _ _ _ O h=>?_
 ·obtain⟨f,d,r,rfl,U,Y,q⟩:=h;refine⟨_,(va (rc (wb Nv (pv 1) Pe (rb _))
   (ra (Sa (tq Nv (pv 0) Pe (rb _))))
   yc)
   (va (rc (PW.pt (Am (Dj (Mi (vc Ho (by rfl) T.ip Qn (na (pv 0) (Fa (so (v:=V.ty "tuple") rfl T.xC boot_tuple rfl)))))) (uo (wb (Lz O.units) (pv 0) (pv 1) (rb _)))))
   (ra (Sa wh))
   yc)
   (ra (Sa (vo (xb T.jr (dy T) O (Fa (Ea fc (pv 0) ka))) (vo (xb T.jr (dy T) O (Fa (Ea fc (pv 0) ka))) (Vs (xb T.jr (dy T) O (Fa (Ea fc (pv 0) ka)))))))))),?_⟩
  show let a0:TS:=_;let b0:TS:=ya (Ec _ _ _) a0;ya (Ec _ _ _) b0 _ _ _
  intros;rcases Y with⟨rfl,rfl⟩|⟨u,k,rfl,rfl,c0⟩
  ·obtain rfl:f=.Pa:=by
    rcases U with⟨_,e⟩|⟨_,_,e,_⟩
    ·exact e
    ·cases e
   exact⟨_,rfl,rfl,_,rfl,cf ⟨_,rfl,rfl,q⟩⟩
  ·obtain⟨t,rfl,J⟩:∃t,f=.ref t/\H t=wP (.tup (t3 k)):=by
    rcases U with⟨e,_⟩|⟨t,d0,e,e0,h⟩
    ·cases e
    simp_all
   refine⟨_,rfl,rfl,_,rfl,ud ⟨_,rfl,_,_,_,_,rfl,Se.tup J,bw,_,rfl,ud ⟨_,rfl,_,rfl,Xu k,Xu k,mE J,mE c0,rfl,rfl,_,rfl,?_⟩⟩⟩;rw[SeqAt.eqv_refl (Xu k) rfl];exact ud ⟨_,rfl,t,_,_,_,rfl,rfl,Ba.of J,rfl,_,rfl,CP,rfl,cf ⟨_,rfl,t,_,_,_,rfl,rfl,Ba.of J,rfl,_,rfl,CP,rfl,cf (B:=_) ⟨_,rfl,t,_,_,_,rfl,rfl,Ba.of J,rfl,_,rfl,q⟩⟩⟩
def nE(T:Tx K mg):T.Du.Ok P w base 3 lP:=by
 refine sb T.Du.F λ{_ A _ _}_ _ _ _ Y h=>?_
 ·revert h;refine ea0 ?_;rintro f d rfl a0 q;refine⟨_,(va (rc (PW.pt (Am (Dj (Mi (vc Ho (by rfl) T.ip Qn (na (pv 0) (Fa (so (v:=V.ty "tuple") rfl T.xC boot_tuple rfl)))))) (Am (wb Kv (vc Xd (by rfl) T.Kd Cd (La 0)) ka (rb _)) (uo (Dj (Mi (vc Ho (by rfl) T.ip Qn (na (Ea fc (pv 0) ka) (Fa (so (v:=V.ty "str") rfl T.UL boot_str rfl))))))))))
   (ra (Sa wh))
   yc)
   (va (rc (wb Gm (pv 1) Pe (rb _))
   (ra (Sa (vo (tq re (Ea fc (pv 0) ka) jc (rb _)) (Vs (xb T.mr (Dy T) Y (na (zh QF (pv 0) (Wg ka) Th) (La 1)))))))
   yc)
   (ra (Sa (vo (tq re (vc Xd (by rfl) T.Kd Cd (La 0)) ka (rb _)) (vo (tq eG (Ea fc (pv 0) ka) (Tc (na jc (Fa jc))) rfl) (Vs (vc Ho (by rfl) T.ip Qn (na (Ea fc (pv 0) ka) (Fa (so (v:=V.ty "list") rfl T.TL boot_list rfl))))))))))),?_⟩
  show let b0:TS:=_;let c0:TS:=ya (Ec _ _ _) b0;ya (Ec _ _ _) c0 _ _ _
  intros;rcases a0 with⟨k,t,u,rfl,J,rfl,d0⟩|⟨rfl,t,x,o,g0,rfl,J,e0,f0⟩
  ·refine⟨_,rfl,_,_,_,_,rfl,Se.tup J,bw,_,rfl,ud ⟨_,rfl,_,_,rfl,.inr ⟨_,Ba.of J,rfl⟩,_,_,rfl,rfl,_,rfl,?_⟩⟩;refine ud ⟨_,rfl,t,_,_,_,rfl,rfl,Ba.of J,rfl,_,_,_,_,rfl,Se.str _,Iz,_,rfl,ud ⟨_,rfl,rfl,_,rfl,cf ⟨_,rfl,t,_,_,_,rfl,rfl,Ba.of J,rfl,rfl,_,rfl,cf ⟨_,rfl,1,rfl,t,_,rfl,Ba.of J,(λz=>absurd z.1 (by show¬(1:Nat)=0;decide)),λp U=>⟨_,rfl,_,_,wP k,rfl,.inr (nx5 p k rfl rfl (by rw[la,SN];rfl)),.inr (nx5 u k rfl rfl (aa.upd U _ _ d0)),q _ (aa.upd U)⟩⟩⟩⟩⟩
  ·refine⟨_,rfl,_,_,_,_,rfl,Se.tup J,bw,_,rfl,ud ⟨_,rfl,_,_,rfl,.inr ⟨_,Ba.of J,rfl⟩,_,_,rfl,rfl,_,rfl,?_⟩⟩;refine ud (A:=_) ⟨_,rfl,t,_,_,_,rfl,rfl,Ba.of J,rfl,_,_,_,_,rfl,Se.str _,Iz,_,rfl,ud (A:=_) ⟨_,rfl,rfl,_,rfl,ud ⟨_,rfl,_,_,rfl,.inr ⟨_,Ba.of J,rfl⟩,rfl,CP,rfl,cf (B:=_) ⟨_,rfl,t,_,_,_,rfl,rfl,Ba.of J,rfl,(by decide),λtp O=>⟨tp,_,rfl,.inr (Ba.of la),rfl,rfl,CP,?_,cf (B:=_) ⟨_,rfl,t,_,_,_,rfl,rfl,Ba.of (aa.upd O _ _ J),rfl,_,_,_,_,rfl,Se.lst (aa.upd O _ _ f0),SH,q _ (aa.upd O)⟩⟩⟩⟩⟩⟩;rcases e0 with rfl|rfl<;>rfl
def oE(T:Tx K mg):T.Eu.Ok P w base 7 mP:=by
 refine sb T.Eu.F λ_ _ _ _ J h=>?_
 ·obtain⟨v,p,x,b,rfl,tr,O,b0,nx,q⟩:=h;refine⟨_,(va (Ua 3 wh)
   (va (NK (Mi (pv 2)) ((By T).mono (by decide)) J rfl T.gi.m T.gi.F.kp T.gi.b (na (pv 0) (La 1)) ((Wu T).mono (by decide)) J rfl T.Hg.m T.Hg.F.kp T.Hg.b (na (pv 0) (La 1)) T.JL rfl rfl rfl (λc0=>(ra (Ua 3 wh))))
   (ra (Sa (pv 3))))),?_⟩
  show let Y:TS:=_;let a0:TS:=ya _ Y;ya _ a0 _ _ _
  intros;refine⟨_,rfl,b,rfl,?_⟩;have U:∀y,wP x=wP y->Oj y:=λy e=>by simp_all
  cases b with
  |true=>exact cf ⟨_,rfl,_,rfl,v,p,wP x,rfl,tr,O,U,λg=>absurd (g x rfl) nx,λ_ _ _ H' s'=>⟨_,rfl,T.sC.sub,_,rfl,q _ s'⟩⟩
  |false=>exact ud ⟨_,rfl,_,rfl,v,p,wP x,rfl,tr,O.gh.gp,U,λg=>absurd (g x rfl) nx,λ_ _ _ H' s'=>⟨_,rfl,T.sC.sub,_,rfl,q _ s'⟩⟩
--@vb
inductive Yu(K:W.Frag)(vs:List V)(H:Hp)(Q:VK)(E:XK):Prop|mk(a:BP)(ns:List Int)(_:vs=[.ref a])(_:ia K H a (ns.map V.int))(_:ns.length<=63)(_:(∀m∈ns,Builtin.Int.intBits m<=1048576))(_:∀H',Q (.bl CP) H')
def Hr{Q:VK}{H:Hp}{r:Option (Int×Int×Int)}(h:∀f H',aa H H'->Cn H' f r->Q f H'):Ay Q H r:=⟨λH' s e=>h _ _ s (.inl ⟨e,rfl⟩),λt H' k s e J=>h _ _ s (.inr (nx5 t k e rfl J))⟩
def Dp(H:Hp)(f:V)(r:Option (Int×Int×Int)):Prop:=(∃k t,r=wP k/\f=.ref t/\H t=wP (.tup (.str "unkept"::t3 k)))\/(r=yP/\∃t x o J,f=.ref t/\H t=wP (.tup [.str x,.ref o])/\(x="order"\/x="ring")/\H o=wP (.lst J))
def Dp.same{H H':Hp}{f:V}{r:Option (Int×Int×Int)}(h:Dp H f r)(s:aa H H'):Dp H' f r:=h.imp (by refine ea0 ?_;rintro k t a b c;exact nx5 k t a b (s _ _ c)) (by rintro⟨z,t,x,o,J,a,b,c,e⟩;exact⟨z,nx17 t x o J a (s _ _ b) c (s _ _ e)⟩)
def Dp.say{H:Hp}{f d:V}{r:Option (Int×Int×Int)}(h:Dp H f r)(J:Cn H d r):lE H f d:=by
 rcases h with⟨k,t,rfl,a,b⟩|⟨rfl,t,x,o,O,a,b,c,e⟩
 ·rcases J with⟨z,_⟩|⟨u,Y,z,y,U⟩
  ·cases z
  ·cases z;exact .inl (nx1 k t u a b y U)
 ·rcases J with⟨_,y⟩|⟨u,k,z,_⟩
  ·exact .inr (⟨y,nx17 t x o O a b c e⟩)
  ·cases z
def pE{Q:VK}{H:Hp}{w:Option Str}{p:Ps}(h:∀f H',aa H H'->Dp H' f (pi w p)->Q f H'):hE Q H w p:=by
 constructor
 ·intro r t H' e s J;exact h _ _ s (.inl (nx5 r t e rfl J))
 ·intro e x t o O H' U s J Y;exact h _ _ s (.inr (⟨e,nx17 t x o O rfl J U Y⟩))
def nP(T:Tx K mg):T.Fx.Ok P w base 8 (Yu K):=by
 refine sb T.Fx.F λ{_ A _ _}_ _ _ _ J h=>?_
 ·obtain⟨a,O,rfl,c0,h0,l1,q⟩:=h;have m1:=Ue J;refine⟨_,(va (Ua 1 (xb T.Cu (iE T) J (La 0)))
   (va (Ua 2 (xb T.Bx (fP T) J (Fa (xb T.Ol (vp T) J (na (pv 0) (Fa ka))))))
   (va (Ua 3 (xb T.lr (Cy T) J (na (pv 1) (La 2))))
   (va (rc (PW.pt (Am (Dj (Mi (xb T.mr (Dy T) J (na (yh ((Wu T).mono (by decide)) J rfl T.Hg.m T.Hg.F.kp T.Hg.b .nil Jq (na (pv 1) (La 2))) (La 3))))) (uo (Dj (Mi (xb T.Du (nE T) J (na (yh ((By T).mono (by decide)) J rfl T.gi.m T.gi.F.kp T.gi.b .nil Jq (na (pv 1) (La 2))) (La 3))))))))
   (ra (Sa wh))
   yc)
   (va (rc (PW.pt (Am (Dj (Mi (xb T.mr (Dy T) J (na (yh ((Wu T).mono (by decide)) J rfl T.Hg.m T.Hg.F.kp T.Hg.bd (show Qa [V.Pa] [Value.none]from .cons rfl .nil) Jq (La 1)) (Fa (xb T.lr (Cy T) J (na (pv 1) (Fa Pe)))))))) (uo (Dj (Mi (xb T.Du (nE T) J (na (yh ((By T).mono (by decide)) J rfl T.gi.m T.gi.F.kp T.gi.bd (show Qa [V.Pa] [Value.none]from .cons rfl .nil) Jq (La 1)) (Fa (xb T.lr (Cy T) J (na (pv 1) (Fa Pe)))))))))))
   (ra (Sa wh))
   yc)
   (va (Ua 4 (xb T.Dx (gP T) J (Fa (Ca ec (xb T.Ol (vp T) J (na (pv 0) (Fa ka))) ka))))
   (va (rc (wb fG (pv 4) (Tc (na jc (na jc (na jc (na jc (Fa jc)))))) rfl)
   (ra (rc (PW.pt (Am (Dj (Mi (xb T.Eu (oE T) J (na (pv 1) (na (pv 4) (Fa wh)))))) (uo (Dj (Mi (xb T.Eu (oE T) J (na (pv 1) (na (pv 4) (Fa wh)))))))))
   (ra (Sa wh))
   yc))
   yc)
   (ra (Sa (tq (YG J.units) (pv 1) (xb T.Cu (iE T) J (La 0)) (rb _))))))))))),?_⟩
  show let B0:TS:=_;let C0:TS:=ya (Ec _ (Ec _ _ _) _) B0;let D0:TS:=ya _ C0;let F0:TS:=ya (Ec _ _ _) D0;let G0:TS:=ya (Ec _ _ _) F0;let I0:TS:=ya _ G0;let J0:TS:=ya _ I0;ya _ J0 _ _ _
  intros;have a0:=wO O;refine⟨_,rfl,a,O,rfl,c0,h0,λv n1 s1 U=>?_⟩;refine⟨_,rfl,a,O,0,rfl,s1.seq c0,by decide,_,rfl,λo1 l0=>?_⟩;have d0:=pO (ce O 0);generalize yp (ce O 0)=f0 at d0;have b0:=gO (p:=zp O) λd K0=>(a0.gh.gp.2.2 d K0).1
  generalize m0:zp O=p at*;have gp:=a0.gh.gp;have n0:∀x,f0=wP x->Oj x:=λx e=>Mu (d0 x e)
  refine⟨_,rfl,_,rfl,v,p,f0,rfl,U.same l0,gp,d0,Hr λd p1 L0 o0=>?_⟩;have p0:=l0.trans L0;refine⟨_,rfl,_,rfl,v,p,f0,rfl,U.same p0,gp,n0,(λ_=>Hr λf r1 i0 M0=>?_),λx e n=>absurd (d0 x e) n⟩;have q0:=p0.trans i0;refine⟨_,rfl,f,d,_,rfl,M0,o0.same i0,CP,rfl,ud (A:=_) ⟨_,rfl,_,rfl,v,p,f0,rfl,U.same q0,a0,n0,(λ_=>pE λg t1 r0 N0=>?_),λx e n=>absurd (d0 x e) n⟩⟩;have O0:=q0.trans r0;refine⟨_,rfl,g,d,rfl,N0.say (o0.same (i0.trans r0)),λu1 P0=>⟨CP,rfl,ud (A:=_) ?_⟩⟩;have s0:=O0.trans P0;refine⟨_,rfl,v,p,yP,rfl,U.same s0,gp,(λx e=>by cases e),(λ_=>Hr λQ0 v1 R0 S0=>?_),λx e n=>by cases e⟩;have t0:=s0.trans R0;refine⟨_,rfl,v,p,yP,rfl,U.same t0,gp,(λx e=>by cases e),Hr λT0 w1 u0 u8=>?_⟩;have Y:=t0.trans u0;refine⟨Q0,T0,_,rfl,S0.same u0,u8,CP,rfl,ud (A:=_) ⟨_,rfl,v,p,yP,rfl,U.same Y,a0,(λx e=>by cases e),(λ_=>pE λU0 x1 V0 W0=>?_),λx e n=>by cases e⟩⟩;have v0:=Y.trans V0;refine⟨_,rfl,v,p,yP,rfl,U.same v0,gp,(λx e=>by cases e),Hr λX0 y1 w0 Y0=>?_⟩;have Z0:=v0.trans w0;refine nx5 U0 X0 rfl ((W0.same w0).say Y0) λz1 a1=>⟨CP,rfl,ud (A:=_) ?_⟩;have Sb:=Z0.trans a1;have b1:=Qh (ce O 2) (show(1000003:Int)≠0 by decide);have c1:=Ph (ce O 2) (show(0:Int)<1000003 by decide);refine⟨_,rfl,a,O,2,rfl,(s1.trans Sb).seq c0,by decide,_,_,rfl,rfl,(by simp_all),_,rfl,b1,c1,λx A1 d1 x0=>?_⟩;have e1:=Sb.trans d1;refine⟨_,rfl,Pg,λtp f1=>⟨tp,_,rfl,.inr (Ba.of la),rfl,rfl,_,rfl,?_⟩⟩;have g1:=aa.upd (o:=(HO.tup [V.str "loose",V.str "kept",V.str "make",V.str "watch",V.str "hold"])) f1;have g0:=e1.trans g1;refine nc (λe=>?_) (λe=>?_)
  ·have y0:x∉gc:=by
    have z0:=e;rw[tO]at z0;simpa using z0
   refine⟨_,rfl,_,rfl,v,p,x,GP,rfl,U.same g0,a0,x0,y0,λB1 A0=>⟨CP,rfl,ud ?_⟩⟩;refine⟨_,rfl,_,rfl,v,p,x,CP,rfl,U.same (g0.trans A0),a0,x0,y0,λC1 h1=>⟨CP,rfl,ud (A:=_) ?_⟩⟩;have Y:=g0.trans (A0.trans h1);refine⟨_,rfl,_,rfl,a,O,rfl,(s1.trans Y).seq c0,h0,λi1 j1 j0 e0=>?_⟩;rw[m0]at e0;refine⟨vd p,vd p,(U.same (Y.trans j0)).dt,e0.dt,b0.2.2,b0.2.2,?_⟩;rw[SeqAt.eqv_refl (vd p) b0.1];exact q _
  ·have Y:=g0;refine⟨_,rfl,_,rfl,a,O,rfl,(s1.trans Y).seq c0,h0,λi1 j1 j0 e0=>?_⟩;rw[m0]at e0;refine⟨vd p,vd p,(U.same (Y.trans j0)).dt,e0.dt,b0.2.2,b0.2.2,?_⟩;rw[SeqAt.eqv_refl (vd p) b0.1];exact q _
end
open PySem.W in
def all_mk{l:OpenLaw}{w:KP}{K:UR}{mg:Str->Option xP}{J:BP}(O:mg "law"=wP (.ref J))
  (T:Tx K mg)
  :∃fd:aQ,(∀(s:zP)(v:xP),iR s fd ⟨[v],[]⟩ [("_law_script",v)])/\∀base:NP,K.In base->base.Ns VP mg->uc l.prog w K mg base Ge 8 J fd ["_law_script"] (Yu K):=by
 exact T.Fx.LK O (λ_ _ _ _ _ _ _=>rfl) λbase=>nP T
def walk{l:W.OpenLaw}{q:HP}{U:List Str}{Y:(Str->Option xP)->NP->Prop}{J:KP->NP->Prop}{d:DefRec}{K:Params->W.Frag}(a0:l.most=wP 63)(b0:d.params.defaults=[])
  (c0:∀(w:KP)(h:NP),J w h->(K w.params).In h)
  (F:∀(w:KP)(mg:Str->Option xP)(O:BP)(h:NP),(K w.params).In h->h.Ns VP mg->mg d.name=wP (.ref O)->
   ∃fd:aQ,(∀(s:zP)(u:xP),iR s fd ⟨[u],[]⟩ [("_law_script",u)])/\∀base:NP,(K w.params).In base->base.Ns VP mg->uc l.prog w (K w.params) mg base Ge 8 O fd ["_law_script"] (Yu (K w.params))):
  W.WalkO q U Y J l.row.toRowW d [] (λf vs=>PySem.call f vs):=
 My.VG (n:=63) (k:=8) (x:="_law_script") (CX:=λ_=>Ge) (sp:=λw=>Yu (K w.params)) a0 (by decide) b0 ⟨rfl,by decide,by decide⟩ c0 F (λ_ _ a ns d0 e0 _ f0=>⟨a,ns,rfl,f0,d0,e0,λ_=>rfl⟩) λ_ _ _ _ _ z=>z
end Lw
open PySem PySem.W PyProof.Rows
set_option maxRecDepth 100000 in
set_option maxHeartbeats 0 in
theorem PySem.Challenge.cw_skewhouse_k65_reads_of_what_was_not_kept_holds : PySem.Challenge.rw_skewhouse_k65_reads_of_what_was_not_kept.Holds := by
 refine hd ?_
 k_fill
 refine Lw.walk (l:=PySem.Challenge.rw_skewhouse_k65_reads_of_what_was_not_kept) rfl rfl (λw h Y=>PySem.W.kIn_of Y) ?F;case F=>
  intro w mg fa h KX G hmg;refine' Lw.all_mk hmg (Lw.Tx.mk ..);any_goals first|k_is|(apply mg_of KX G;k_is)|(apply mg_none_of KX G;k_is)|(apply My.e7i KX G<;>first|k_is|(intro _ _ _ _ _ _ us hl;first|(obtain⟨_,rfl⟩:=My.us1 hl;rfl)|(obtain⟨_,_,rfl⟩:=My.us2 hl;rfl)|(obtain⟨_,_,_,rfl⟩:=My.us3 hl;rfl)|(obtain⟨_,_,_,_,rfl⟩:=My.us4 hl;rfl)|(obtain⟨_,_,_,_,_,rfl⟩:=My.us5 hl;rfl)))|(apply My.e2g<;>k_is)|(apply My.e8p KX G<;>first|k_is|(first|(intro _ _ _ _ _ _ _ us hl;rw[z1m]at hl⊢;obtain⟨_,_,rfl⟩:=My.us2 hl;exact⟨_,rfl,rfl⟩)|(intro _ _ _ _ _ _ _ us hl;obtain⟨_,rfl⟩:=My.us1 (us:=us) (by simpa using hl);exact⟨_,rfl,rfl⟩)))|(apply My.e7m<;>first|k_is|(intro _ _ _ _ _ _ us hl;first|(obtain⟨_,rfl⟩:=My.us1 hl;rfl)|(obtain⟨_,_,rfl⟩:=My.us2 hl;rfl)|(obtain⟨_,_,_,rfl⟩:=My.us3 hl;rfl)|(obtain⟨_,_,_,_,rfl⟩:=My.us4 hl;rfl)|(obtain⟨_,_,_,_,_,rfl⟩:=My.us5 hl;rfl)))|(apply My.e7l<;>k_is)|(apply L2.Cls.mk<;>k_is)|(apply My.e1e<;>k_is)|(exact⟨mg_of KX G (by k_is),by k_exc⟩)|(apply My.e6z.mk (mg_of KX G (by k_is))<;>k_is)|(apply My.e9s.mk<;>k_is)|(apply My.e8l.mk<;>k_is)|(apply My.e2l;k_is;decide;repeat first|exact .nil|refine .cons ⟨_,rfl⟩ ?_|refine .cons rfl ?_)|(exact⟨_,by k_is,rfl,rfl⟩)|fail
