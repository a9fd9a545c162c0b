import PyProof.Rows.All
import Wide.All
import OpenK.AllK
import Wide.FinOn
import Lean
import PyProof.EqAt
import PyProof.EqKinds
import PyProof.TupleCall
import PySem.Challenge.RW_skewhouse_k77_whole_yes_has_no_ill
theorem nx0{A B:Type}{N O Z:A->B->Prop}(a:A)(b:B)(n:N a b)(o:O a b)(z:Z a b):∃a b,N a b/\O a b/\Z a b:=⟨a,b,n,o,z⟩
theorem nx1{A B:Type}{Z:A->B->Prop}(a:A)(b:B)(z:Z a b):∃a b,Z a b:=⟨a,b,z⟩
theorem nx2{A B C:Type}{N O P Z:A->B->C->Prop}(a:A)(b:B)(c:C)(n:N a b c)(o:O a b c)(p:P a b c)(z:Z a b c):∃a b c,N a b c/\O a b c/\P a b c/\Z a b c:=⟨a,b,c,n,o,p,z⟩
theorem nx3{A B C D:Type}{N O P Q Z:A->B->C->D->Prop}(a:A)(b:B)(c:C)(d:D)(n:N a b c d)(o:O a b c d)(p:P a b c d)(q:Q a b c d)(z:Z a b c d):∃a b c d,N a b c d/\O a b c d/\P a b c d/\Q a b c d/\Z a b c d:=⟨a,b,c,d,n,o,p,q,z⟩
theorem nx4{A B:Type}{N Z:A->B->Prop}(a:A)(b:B)(n:N a b)(z:Z a b):∃a b,N a b/\Z a b:=⟨a,b,n,z⟩
theorem nx5{A B:Type}{N O:A->Prop}{Z:A->B->Prop}(a:A)(n:N a)(o:O a)(b:B)(z:Z a b):∃a,N a/\O a/\∃b,Z a b:=⟨a,n,o,b,z⟩
theorem nx6{A B:Type}{N O P Z:A->B->Prop}(a:A)(b:B)(n:N a b)(o:O a b)(p:P a b)(z:Z a b):∃a b,N a b/\O a b/\P a b/\Z a b:=⟨a,b,n,o,p,z⟩
theorem nx7{A B C:Type}{N Z:A->B->C->Prop}(a:A)(b:B)(c:C)(n:N a b c)(z:Z a b c):∃a b c,N a b c/\Z a b c:=⟨a,b,c,n,z⟩
theorem nx8{A B C:Type}{N O P Q Z:A->B->C->Prop}(a:A)(b:B)(c:C)(n:N a b c)(o:O a b c)(p:P a b c)(q:Q a b c)(z:Z a b c):∃a b c,N a b c/\O a b c/\P a b c/\Q a b c/\Z a b c:=⟨a,b,c,n,o,p,q,z⟩
theorem nx9{A B C D E F:Type}{N O P:A->B->Prop}{Q:A->B->C->D->Prop}{R S Z:A->B->C->D->E->F->Prop}(a:A)(b:B)(n:N a b)(o:O a b)(p:P a b)(c:C)(d:D)(q:Q a b c d)(e:E)(f:F)(r:R a b c d e f)(s:S a b c d e f)(z:Z a b c d e f):∃a b,N a b/\O a b/\P a b/\∃c d,Q a b c d/\∃e f,R a b c d e f/\S a b c d e f/\Z a b c d e f:=⟨a,b,n,o,p,c,d,q,e,f,r,s,z⟩
theorem nx10{A B C D:Type}{Z:A->B->C->D->Prop}(a:A)(b:B)(c:C)(d:D)(z:Z a b c d):∃a b c d,Z a b c d:=⟨a,b,c,d,z⟩
theorem nx11{A B:Type}{N:A->Prop}{Z:A->B->Prop}(a:A)(n:N a)(b:B)(z:Z a b):∃a,N a/\∃b,Z a b:=⟨a,n,b,z⟩
theorem nx12{A B C D:Type}{N O P Q R S T Z:A->B->C->D->Prop}(a:A)(b:B)(c:C)(d:D)(n:N a b c d)(o:O a b c d)(p:P a b c d)(q:Q a b c d)(r:R a b c d)(s:S a b c d)(t:T a b c d)(z:Z a b c d):∃a b c d,N a b c d/\O a b c d/\P a b c d/\Q a b c d/\R a b c d/\S a b c d/\T a b c d/\Z a b c d:=⟨a,b,c,d,n,o,p,q,r,s,t,z⟩
theorem nx13{A B C D E:Type}{N O P Q Z:A->B->C->D->E->Prop}(a:A)(b:B)(c:C)(d:D)(e:E)(n:N a b c d e)(o:O a b c d e)(p:P a b c d e)(q:Q a b c d e)(z:Z a b c d e):∃a b c d e,N a b c d e/\O a b c d e/\P a b c d e/\Q a b c d e/\Z a b c d e:=⟨a,b,c,d,e,n,o,p,q,z⟩
theorem nx14{A B C:Type}{N:A->Prop}{O P Z:A->B->C->Prop}(a:A)(n:N a)(b:B)(c:C)(o:O a b c)(p:P a b c)(z:Z a b c):∃a,N a/\∃b c,O a b c/\P a b c/\Z a b c:=⟨a,n,b,c,o,p,z⟩
theorem nx15{A B:Type}{N O P Q Z:A->B->Prop}(a:A)(b:B)(n:N a b)(o:O a b)(p:P a b)(q:Q a b)(z:Z a b):∃a b,N a b/\O a b/\P a b/\Q a b/\Z a b:=⟨a,b,n,o,p,q,z⟩
theorem nx16{A B C:Type}{N O Z:A->B->C->Prop}(a:A)(b:B)(c:C)(n:N a b c)(o:O a b c)(z:Z a b c):∃a b c,N a b c/\O a b c/\Z a b c:=⟨a,b,c,n,o,z⟩
theorem nx17{A B C D E F G:Type}{N O P Q R S Z:A->B->C->D->E->F->G->Prop}(a:A)(b:B)(c:C)(d:D)(e:E)(f:F)(g:G)(n:N a b c d e f g)(o:O a b c d e f g)(p:P a b c d e f g)(q:Q a b c d e f g)(r:R a b c d e f g)(s:S a b c d e f g)(z:Z a b c d e f g):∃a b c d e f g,N a b c d e f g/\O a b c d e f g/\P a b c d e f g/\Q a b c d e f g/\R a b c d e f g/\S a b c d e f g/\Z a b c d e f g:=⟨a,b,c,d,e,f,g,n,o,p,q,r,s,z⟩
theorem nx18{A B C D:Type}{N O P Z:A->B->C->D->Prop}(a:A)(b:B)(c:C)(d:D)(n:N a b c d)(o:O a b c d)(p:P a b c d)(z:Z a b c d):∃a b c d,N a b c d/\O a b c d/\P a b c d/\Z a b c d:=⟨a,b,c,d,n,o,p,z⟩
theorem nx19{A B C D E F:Type}{N O P Q Z:A->B->C->D->E->F->Prop}(a:A)(b:B)(c:C)(d:D)(e:E)(f:F)(n:N a b c d e f)(o:O a b c d e f)(p:P a b c d e f)(q:Q a b c d e f)(z:Z a b c d e f):∃a b c d e f,N a b c d e f/\O a b c d e f/\P a b c d e f/\Q a b c d e f/\Z a b c d e f:=⟨a,b,c,d,e,f,n,o,p,q,z⟩
theorem nx20{A B C D:Type}{N O P Q R S T U V W X Z:A->B->C->D->Prop}(a:A)(b:B)(c:C)(d:D)(n:N a b c d)(o:O a b c d)(p:P a b c d)(q:Q a b c d)(r:R a b c d)(s:S a b c d)(t:T a b c d)(u:U a b c d)(v:V a b c d)(w:W a b c d)(x:X a b c d)(z:Z a b c d):∃a b c d,N a b c d/\O a b c d/\P a b c d/\Q a b c d/\R a b c d/\S a b c d/\T a b c d/\U a b c d/\V a b c d/\W a b c d/\X a b c d/\Z a b c d:=⟨a,b,c,d,n,o,p,q,r,s,t,u,v,w,x,z⟩
theorem nx21{A B C D E F:Type}{N O Z:A->B->C->D->E->F->Prop}(a:A)(b:B)(c:C)(d:D)(e:E)(f:F)(n:N a b c d e f)(o:O a b c d e f)(z:Z a b c d e f):∃a b c d e f,N a b c d e f/\O a b c d e f/\Z a b c d e f:=⟨a,b,c,d,e,f,n,o,z⟩
theorem nx22{A B:Type}{N O P Q R Z:A->B->Prop}(a:A)(b:B)(n:N a b)(o:O a b)(p:P a b)(q:Q a b)(r:R a b)(z:Z a b):∃a b,N a b/\O a b/\P a b/\Q a b/\R a b/\Z a b:=⟨a,b,n,o,p,q,r,z⟩
open Array renaming length_toList->Dc,getElem?_toList->Kd,toList_append->Tf,getElem?_eq_getElem->Kh,forIn_toList->sj,getElem?_eq_some_iff->xj,toList_push->El,toList_reverse->Jo,perm_iff_toList_perm->qp,getElem?_eq_none->ir,getElem_mem_toList->nu
open Bool renaming false_ne_true->Vc,false_eq_true->Mg,and_eq_true->Vm,true->wN,false->yN
open Classical renaming byContradiction->Og
open Int renaming toNat_natCast->mh
open List renaming length_map->ua,mem_map->Sa,mem_of_getElem?->Xa,length_append->Ya,getElem?_map->lb,getElem?_eq_some_iff->rb,getElem?_eq_getElem->Wb,mem_singleton->cc,mem_append->fc,take_add_one->gc,mem_cons->rc,size_toArray->uc,take_length->vc,map_cons->Sc,length_eq_one_iff->Zc,pairwise_map->Gd,mem_iff_getElem?->Hd,map_append->Qd,length_cons->Vd,forIn_cons->Wd,append_assoc->me,length_take->se,append_nil->z1h,map_map->Ve,mem_append_right->We,mem_flatMap->Xe,mem_range->Ye,mem_filter->Ze,length_range->Ef,length_drop->Kg,take_append_drop->Ng,find?_cons->Pg,nodup_cons->Qg,idxOf_lt_length_of_mem->rh,filterMap_cons->wh,getElem_idxOf->Mh,flatMap_cons->Ph,mem_cons_of_mem->Rh,length_filter_le->Hi,any_eq_true->Qi,mem_cons_self->Vi,length_singleton->uj,range_succ->wj,not_mem_nil->yj,flatMap_append->wk,mem_append_left->xk,length_nil->Ak,lookup_cons->Bk,perm_append_comm->Fk,getD_eq_getElem?_getD->Hk,flatMap_nil->Bl,nodup_append->Hl,zip_cons_cons->Il,pairwise_lt_range->Ll,take_of_length_le->Pl,of_mem_zip->Pm,getElem?_zip_eq_some->Rm,any_cons->Um,mem_filterMap->cn,length_replicate->Go,getElem_of_mem->No,filterMap_append->Qo,nil_append->So,filter_cons->To,getElem?_append_left->Vo,reverse_perm->Wo,find?_eq_none->Yo,getElem?_append_right->cp,getElem?_inj->hp,filterMap_some->jp,drop_eq_getElem_cons->pp,filter_append->Kq,getElem?_set_self->Nq,length_filterMap_le->Uq,exists_cons_of_length_eq_add_one->Vq,getElem?_set_ne->Zq,drop_eq_nil_of_le->cr,flatten_append->dr,getElem?_eq_none_iff->gu,sublist_flatten_of_mem->iu,extract_eq_take_drop->ou,idxOf_lt_length_iff->pu
open List.Pairwise renaming imp->Oi,imp_of_mem->Sq
open Nat renaming le_refl->wa,zero_le->Va,le_trans->gb,ne_of_lt->nb,lt_of_lt_of_le->ed,le_succ->Lg,lt_irrefl->Sh,ne_of_gt->Mi,succ_pos->Si,le_of_lt->vj,le_of_eq->Cj,le_succ_of_le->zl,mod_lt->Jl,zero_add->Nm,le_max_right->Om,lt_succ_iff_lt_or_eq->Qm,le_of_lt_succ->Sm,min_eq_left->Zm,le_max_left->gn,lt_of_le_of_lt->Do,lt_succ_of_le->Ro,succ_le_succ->bp,lt_succ_of_lt->gr
open Nat.succ renaming inj->bn
open Ne renaming symm->lc
open Option renaming map_eq_some_iff->Jd,isSome_iff_exists->jn,map_eq_none_iff->Rq,some->qN,none->sN
open Option.some renaming inj->Ed
open Prod renaming ext->Uh
open PyProof.Rows renaming wpS_bind->Ea,wpS_pure->Oa,size_push'->Hf,wpS_forRange->Vf,wpS_mono->Rg,wpS_get->xh,wpS_modify->Aj,boot_dict->Bj,callWith_type1->yk,listUpdate_at->Fl,get?_update_seq->Xm,entry_list_sort->Xo,slot_list_sort->Zo,callWith_builtin1->ju,Keyed->FN,seqObj->GN,SortSt->JN,arrOf->QN,pendingOf->VN,step_dedup->WN,failedOf->dO,AllBare->pO,wpS_lift->qO,boot_sorted->tO,IntsAre->uO,plain_sorted->AO,listItems_at->BO,envOfC->CO,entry_sorted->DO,seqEpoch_at->NO,kind_sorted->SO,args_list_sort->YO,tuples'->oP,args_sorted1->vP,wpS_reverse->CP,wpS->GP,pairsOf_toList->OP,subscriptTail_builtinR->aQ
open PyProof.Rows.F renaming plain_set_update_loop->mu
open PySem renaming wpAny_bind->ba,wpAny_pure->ga,wpAny_holding->Rc,wpAny_call_entry->vd,wpAny_mono->zd,plainId_quiet->Te,wpAny_rule->Ue,boot_len->mf,wpAny_seqItems->Ff,wpAny_specialOf->Uf,codeAny_builtin->og,wpAny_attempt->qg,wpAny_Call_Name_kw->lh,wpAny_tryCatch->nh,wpAny_typeOf->oh,wpAny_letGo->qh,mem_of_lookup->uh,wpAny_setState_of->Nh,wpAny_newObj_type->Li,sizeLine_eq->Ni,wpAny_setField->Ri,wpAny_callSpecial?_slot->Ui,wpAny_newList->tj,wpAny_updateSeq->zj,wpAny_ite_split->Dk,wpAny_fieldsOf->Ek,wpAny_truthy_bool->Al,codeAny_mono->Kl,wpAny_passesOwn->Ml,wpAny_dictEntries->Ol,wpAny_pyIter_list->Ql,wpAny_isInstance->Wm,wpAny_setField_rec->Ym,wpAny_dictEpoch->dn,typeLookup_type->Eo,wpAny_setEntries_of->Io,wpAny_newTuple->Mo,wpAny_pyIter_slot->Oo,builtinLookup_eq_fast->Uo,wpAny_askSetting->ip,wpAny_typeNameOfWhole_valiter->Mq,wpAny_typeNameOfWhole_keyiter->Oq,wpAny_callSpecialIfBoundUnlessNone?_slot->Pq,wpAny_cRoomFor_or->Tq,wpAny_tupleItemsOf->Wq,wpAny_storeSet_of->Xq,wpAny_notOrdered_dict->br,wpAny_comprehension_free->ku,Value->rN,Shared->tN,Addr->uN,sizeLine->vN,model->xN,Program->zN,World->AN,Around->BN,cLine->CN,starEach->DN,Heap->EN,mainGlobals->HN,Expr->IN,compareOp->LN,PyData->MN,sysModules->NN,DictEntry->ON,rawInt->PN,cellsFrom->RN,eval->SN,Obj->TN,FuncData->UN,backTo->XN,foldedSetIterable->YN,Scope->ZN,Stmt->aO,reduceHash->bO,storedH->eO,intKind->fO,binaryOp->gO,assignEach->hO,pickOrder->iO,NameKind->jO,tupleKind->kO,sliceBounds->lO,bootBuiltins->mO,Pos->oO,wpAny_field->rO,ofAClassStatement->sO,wpAny_standAt->vO,behindInMarks->wO,atKey->xO,pyNext->yO,pyIter->zO,wpAny_ret_mkInt->EO,wpAny_execs_nil->FO,pyHashByItsType->GO,letOwnedTupleGo->JO,wpAny_isOneOf_valiter->KO,wpAny_pyIter_keyiter->LO,wpAny_of_eq->MO,relayAll->OO,recursionLimit->QO,newFunctionEnv->RO,isSubtype_type->WO,codeAny_call_builtin->XO,IsPair->ZO,swapsWith->aP,seqItems?->bP,eqIsQuiet->cP,BindsTo->dP,wpAny_evalAll_cons->eP,wpAny_call->fP,typeLookup->gP,tupleKind_room_in1->hP,entryOfKey->jP,call_meets->kP,Result->lP,wpAny_setEpoch_of->mP,wpAny_Call_method->nP,relabel->pP,holding->rP,getItem->sP,eqIsQuiet_byValue->tP,bindArgs->uP,wpAny_pyHash_int->wP,wpAny_execs_cons->xP,wpAny_Dict_empty->yP,stored->zP,scanBound->BP,subscripted->DP,keywordEach->FP,valueAt->HP,standAt->IP,spliced->JP,callerA->LP,ItemsOf->MP,Env->NP,closureFor->VP,builtinsNs->WP,attributeBase->YP,getMethod->ZP,setAddHashed->bQ,codeAny_compStart_list->cQ,call_meetsIn->dQ,argsOk->eQ,Sem->fQ
open PySem.Around renaming under_plainId->Th
open PySem.Calls renaming spliced_cons->Gi,spliced_nil->Nl,callWith_builtin->Ho,evalArgs_plain->Qq,call_function_entry->ar
open PySem.F renaming plainAttrs_list->jd,slot_tuple_hash->Ig,slot_list_append->ph,plain_min_loop->sh,type_list_append->vh,slot_list_extend->Ii,type_list_extend->Ti,called_set->zk,slot_list_index->Fo,slot_dict_valueiterator_next->Ko,slot_zip_next->Lo,slot_dict_keyiterator_next->Po,type_list_index->Iq,slot_NoneType_hash->Lq,plainAttrs_dict->Yq,slot_dict_setdefault->hr,slot_list_remove->lu,entry_tuple_hash->qu,args_tuple_hash_1->ru,slot_list_getattribute->su
open PySem.Heap renaming lt_size->Na,get?_push_of_some->Pa,get?_push_size->yb,get?_update_other->Jg,size_push->Oh,get?_update_self->Ki,get?_none_of_le->Gk
open PySem.Heap.SameBut renaming update->Gf
open PySem.MeetsSeq renaming plain_remove_loop->er
open PySem.Obj renaming data_mapFields->Lh,cls_mapFields->Co
open PySem.Paired renaming length->Ck
open PySem.PassesOwn renaming never->Db
open PySem.W renaming kia_one->Qh,cellsFrom_some->Mm,kat_cons->UO,keepIn->iP,kat_yes->qP,kat_one->KP,kat_no->PP,kat_go->QP,findIn->RP,codeIn->UP,Frag->XP
open Sum.inl renaming inj->Ji
set_option compiler.extract_closed false
local macro_rules
 |`(tactic|lia)=>`(tactic|first|assumption|exact Nat.le_refl _|exact Nat.le_of_lt (by assumption)|exact Nat.lt_of_lt_of_le (by assumption) (by assumption)|lia(verbose:=false)|omega)
section
open PySem PySem.Spec PySem.W PyProof.Rows PyProof PySem.SeqAt
abbrev na:=@if_neg
abbrev va:=@if_pos
abbrev Vb:=@congrArg
abbrev Xb:=@decide_eq_true
abbrev yd:=@of_decide_eq_true
abbrev he:=@decide_eq_false
abbrev Be:=@if_false
abbrev vk:=@decide_eq_true_eq
abbrev Rl:=@getElem?_pos
abbrev lp:=@beq_eq_false_iff_ne
abbrev Jq:=@bne_self_eq_false
end
set_option genSizeOf false
set_option linter.defProp false
noncomputable section
structure PySem.W.Fast:Prop where(tw305102449195969358 tw861502493610598483 tw11395501226859585952 tw10215653194048460750 tw11233446548474340610 tw6254516694433354733 tw7774113678449685934 tw6677843147175625621 tw4921153656708216350 tw164352185463013549 tw3436668677267843481 tw3136648224631416188 tw8300666452175358407 tw11018145951921344529 tw13287322889184882224 tw1053170938641747357 tw11824586356888161845 tw9368122197164973604 tw6690350156832105676 tw15554417296805563061 tw14329579894275425762 tw463774138113389760 tw18310463660012746435 tw3075201292733833056 tw4512776594637900181 tw14454166528178196959 tw6124413428159637790 tw15702583709834301711 tw5634867526602368427 tw14061609134260724683 tw6162269159774324313 tw16873086082458093902 tw17689344090056996911 tw11481637867367846703 tw1293241653719404408 tw9630203353718772412 tw13394580363473044415 tw16753820520455620202 tw17883462748017686043 tw12314708539913122752 tw14553807712399142462 tw52312688904243638 tw14577027041581768965 tw3953844824629472508 tw16773468814595293053 tw12747814925858328940 tw12020253756985099128 tw16728255500844073214 tw3713540243193553862 tw12528533614272120300 tw1205604411410820431 tw18094105663378112561 tw15240619367488684849 tw354308444213283272 tw14537775516033599862 tw4483904966330829159 tw9592300441314626372 tw9557541446872002656 tw15565715512253457277 tw2340837018749705212 tw8186657734068701312 tw4290864757253303354 tw12798174099139212305 tw14196522196718054806 tw6030501089693204938 tw11513857634932158529 tw7592715696027808041 tw7001957589650049515 tw9433028549170029634 tw14993981098963755598 tw3099597729799864441 tw6408400580700104982 tw5037459499596335280 tw18293242582946804979 tw1998347030407657756 tw784289164321568707 tw7374399212775623666 tw7867829370405329436 tw17267597263503486738 tw9510108024173832781 tw13813618637161013713 tw1937721966566455358 tw8752102160057688731 tw890339118813698166 tw14611616552423853409 tw4971374062829452455 tw18183970276198133131 tw3945831679567021610 tw8331849164307833061 tw694261584828832409 tw819570635367399668 tw8432719020341155521 tw17339309145561079191 tw514280064592716601 tw15925456577456769635 tw8733291241859026926 tw3520257249291928256 tw4309217394794523951 tw14170518179582410385 tw8498532028676091811 tw3238445694619138142 tw13669536469129627823 tw8318101203651539667 tw599730875272715187 tw11429584451438056573 tw5010956058597451964 tw2789304352393801511 tw7933485763601977624 tw7046044490832178742 tw12960429369202013873 tw17963105932079019327 tw2466311954974566718 tw12138319994727072339 tw8222940686941784037 tw9104974531708491489 tw4884199854448574 tw4859391219904099992 tw6278996535519779258 tw12669407529647801677 tw10295913840692754127 tw17916429707943930468 tw6822071536725586909 tw18073898193381586223 tw16654469307462801742 tw14849461344987154502 tw12770481643036789091 tw9387514328989991554 tw11384182702204212275 tw7480016910919988345 tw17435391645217708394 tw17013487888433625170 tw8431482922422412695 tw9116068151291705539 tw11033627544408312984 tw17410218998227585676 tw12147665669636231765 tw2080317491765294665 tw9757595895972200118 tw5000232492035539693 tw7478123994339007903 tw4561898282857576226 tw8919978131948313185 tw5890639436620234070 tw3374319085511977134 tw13674586047789940208 tw4953865588907285216 tw16822532161544500889 tw15254633091992210921 tw12003660372656728261 tw866717566613908145 tw1717767836212652739 tw3592811809046731828 tw14564479935002850509 tw12727641955093265886 tw10879749546641988924 tw18383651708701053236 tw14538725608371270373 tw11317637306720784765 tw14387916025512776202 tw16682895059504647277 tw11401859456886640639 tw247591363613054380 tw9860861378791804195 tw8115137120850386438 tw11962351593759143498 tw8997383693586321770 tw17334828202450815106 tw5002640475654186023 tw16226643914720891334 tw3235425350174046738 tw2827255003249426055 tw4734895289157585001 tw4906484309439969231 tw3300454383303005205 tw9806118890596472461 tw13135312941875745310 tw9461873434466728008 tw14935467056822913822 tw16309811473084048462 tw12954591660760965231 tw14958820412457663293 tw18367749455379333440 tw17760279517084355780 tw3239113980409921550 tw16864618592142003386 tw3543459598558145280 tw4096438862311573950 tw8374155422468719031 tw9536688357841153863 tw4490611911172417597 tw12843764043397292189 tw10741264400317747893 tw11853640710764476214 tw2353497105660221152 tw12903330217458380548 tw11421057715548341654 tw16670775579421159206 tw4493901809537577575 tw9950792792127014553 tw17318462890700432884 tw7050804516273991350 tw11161164713144168021 tw15805137534098808535 tw9848817304349107530 tw17338325484393633139 tw6469784823511061222 tw15433366417846715934 tw17817366049700826239 tw9456574344343218679 tw11066385474520676512 tw4849480874435393781 tw10159399881129095643 tw1825952489489211193 tw8739830900816887780 tw13855379610559885079 tw740290905518256060 tw4547051000311932777 tw5438652380644606353 tw3985964047577975286 tw14800370929953404514 tw7424060955962978353 tw3641951560692057861 tw4323258101793500111 tw1708089923452030704 tw18101783494082082527 tw16279288168775177219 tw5832305185047221409 tw10510019762269167821 tw13547939009206843870 tw14404928986312190071 tw2107523057676978006 tw4321966507151631593 tw3721919958574915784 tw10551173667578312727 tw15042883488752021643 tw3382625519597670723 tw13812277999558781770 tw14647417624928369756 tw12382822922155266910 tw9784134513789038367 tw5667099127317398114 tw4436474186459923750 tw17155049476370652306 tw2455152089536381482 tw443766864951011646 tw1979317910248211280 tw7322748291113730364 tw13757698761724263525 tw9495317472360511255 tw11024694936033576346 tw10519837036962490867 tw539538531456391632 tw615563214671542189 tw11266997524610791606 tw13053770412826190925 tw17351735930882485243 tw15685335758407661847 tw3215387988796971590 tw6356304189028158447 tw10988312798546598065 tw1840220198017710270 tw8995945545434573385 tw12408111787983249662 tw2595618661548880785 tw11076892268299887525 tw16260866306193365299 tw256976265262469064 tw5289818103960998278 tw991626836265849350 tw5404398260228975080 tw12550775161083096063 tw855453113358079251 tw9113380124883318265 tw4946147512530127568 tw6851275008772768644 tw17260811203177919210 tw2084650752826471497 tw5274481202262711730 tw17658959251048325594 tw6828597562223498359 tw8924819469995637033 tw13631397514672939371 tw10539347186207431242 tw16721508838639397229 tw11153475782318119604 tw8171798328758944481 tw12488014758255163090 tw15541240446876304647 tw17659185236578331656 tw1835071406663858368 tw5872530126848033075 tw15895094517606616290 tw11408881796089955267 tw3778530596728393105 tw18095796173783872564 tw6607644564249050058 tw5323657890516693427 tw13813548295540068894 tw18157406047293677543 tw9399754086935153974 tw10611411778653204182 tw7212858340449540239 tw15779231459743154856 tw726351398001015727 tw8002303944043701648 tw1495895850433845275 tw2228412568605170491 tw13953587524928339648 tw6542358382571353910 tw17397653436517662659 tw547895379624588593 tw13567515925198824819 tw3992765435912101610 tw16053306600634468012 tw13343918040275786880 tw16203965252921439515 tw17592209452093105858 tw2400638427578300857 tw1607123104830579860 tw14261769069557060686 tw1956260828630720203 tw13557862171009465336 tw2692750590507578028 tw14226173905949225808 tw17187875760726034783 tw6148498323302512570 tw384561282630992784 tw13462424878891718212 tw2261719852989239553 tw1070438729232803039 tw523537741815420091 tw13421457143807847188 tw17590705303994421779 tw13444670453868202053 tw10341888390210383824 tw11738243743197964597 tw4683681711962371626 tw12188032599808994241 tw16723463757517087524 tw2187251505897268136 tw1142673529048489019 tw4075453323654395381 tw1950803216711332702 tw938635154573522699 tw1207101557538958131 tw14827714588952709054 tw15127105006835628225 tw9320515035125037321 tw6084841979344569690 tw18418582437962087742 tw87601786513091389 tw1725486776273817318 tw3681537716864247207 tw15438627641174518403 tw2869065659524454656 tw14703100239697439463 tw5217270863462422736 tw17292613610259460706 tw17678831435119133177 tw209982475168477708 tw5449601097390414333 tw15752536640612570366 tw447263597446747957 tw12330612334027959195 tw9592521066531166775 tw1467881925912835984 tw9404705873571188630 tw3303267245142563540 tw4684226298888400098 tw9879335643197240621 tw13055953723892786844 tw8899516883271353254 tw15861351967447197489 tw17464319187374939960 tw14903569129155370506 tw12670982853097334264 tw6105849179199505303 tw643336161829623379 tw10374632558016547081 tw8315359398863134197 tw6548459193220583526 tw3308634892276815127 tw16636501806038632012 tw10910644110388302437 tw14664691819916384248 tw14172470266813156586 tw17518593693041627797 tw2403389108928632939 tw5702276774652866934 tw8912161614967838395 tw8972062959192195235 tw17348111734160510231 tw3419001889969749887 tw6953138203311097117 tw6128106870883400570 tw17214186515701724070 tw2295934692909999376 tw4699756791338806529 tw4548300405975405348 tw2646887283097553488 tw3475869608268796686 tw140001813534094272 tw2474200967059427378 tw9919008367099125623 tw11907897558876765624 tw18328257000508772394 tw2950685276103557050 tw4804111812005502284 tw7217548393331319763 tw12459912946257978736 tw6549852094080907030 tw10624116801336726872 tw2244103112122482387 tw1000662321505670351 tw14842496431369740429 tw8535803893964050539 tw12917704675397863716 tw2483420100392427323 tw4171853373547519906 tw8760152093665844161 tw28018229315631829 tw3897268976836264337 tw4903002758410956813 tw16003985067176294414 tw16607193741793207195 tw14904681115217272601 tw15235614512728720 tw10698057553749749337 tw4077048163395320219 tw13913613514976480042 tw17613222154834848340 tw4189273013823423559 tw14284835775768690865 tw8060666987683057360 tw16217903435359918192 tw18031968618487185184 tw561727478393794602 tw2629151800749243262 tw6858818405166986180 tw7007286002206832825 tw13307065042914920193 tw10958628066121416707 tw13769103115541136327 tw10294118229990073760 tw1205274952441263945 tw15499940227032437249 tw4039707410889071942 tw15621415185263527259 tw13034982811429478159 tw3919386906821981792 tw13215348057498601715 tw4334401890000744311 tw12887044766017154078 tw866652123128751154 tw15214748959534726111 tw6056707288978253535 tw3328118118096588273 tw6557801498797044033 tw11564986514327137767 tw15831126876759372255 tw14833712730911297017 tw1342123614928995077 tw1378205811072252300 tw16756451883985382160 tw16766484511958638138 tw6522051377940421278 tw15577281813014381367 tw7164969610272591079 tw3300257896294614128 tw13385558918117058561 tw17483705464198625004 tw2135409205425526673 tw16919654943277366748 tw16902440903046159558 tw7921390202802761869 tw14341141199694864594 tw9689729476882780088 tw8319933024895762948 tw8297923619242306668 tw8737599933303070863 tw5444512763150141072 tw17062427158221528723 tw12099505692703838030 tw13946496683202179788 tw6128145076113358165 tw8565224436197482051 tw18003772858949239459 tw3726453103677007866 tw1532491051758110099 tw9615563845995560447 tw4607425872040536859 tw10861573186032746274 tw10842938092177581297 tw8219003486749837733 tw11823594873375168262 tw12549542988036985293 tw14424681132571578402 tw17170472223608059050 tw6575520176995025181 tw5467331546851215429 tw16409965706819354750 tw16955839230299176341 tw13160504802963445071 tw12773500944031208451 tw14727194681476072466 tw446995266069924076 tw14022695629967993375 tw14963028359598502718 tw6798380500665416597 tw1599053048872161195 tw2144661209622563809 tw1864683662541468164 tw13831308528885131752 tw15402603294489630176 tw9972681490609642005 tw16860917588515726111 tw6046103115902281144 tw211337195705725219 tw140236481695663071 tw6968137755033780318 tw6229817132586351632 tw16108870410212019532 tw2259672571474061568 tw3042748168174471775 tw2314633323536394700 tw5459702643516471331 tw8159993647027272844 tw16298917771340976007 tw896239598344801917 tw11212356425047092601 tw16248296213531012650 tw13622603851894308203 tw6170744672141170255 tw5498123283257192965 tw6420159726195949164 tw2941924889016668590 tw11489344026974618541 tw15401437161963490237 tw14760874974797668852 tw16378183091871739711 tw9796564346219866840 tw6782663255696616371 tw12772213712371865176 tw3110587219445414310 tw16493865465440409018 tw10826640976665885199 tw14520296925931582552 tw1401067106901849026 tw9977182230042388008 tw5725222548895626118 tw5960047855520388891 tw2931988195819169919 tw5622701340561072331 tw1158361714356455011 tw6631347999910079877 tw18146532975450069615 tw2694234056635809718 tw9304451534382375720 tw17852080271459398996 tw5101696844757716304 tw9947508896943372755 tw12768989823518198380 tw8480184845173159842 tw15539815450414544023 tw8212203176049278890 tw3049343062529576306 tw9646623106273453227 tw4015202173357781934 tw1972164579936704799 tw7091221385724896812 tw13437419889732721216 tw16120054744476736488 tw11502921971960690029 tw977512076041815475 tw16615150188913437886 tw6327569006664949090 tw7943549864190904611 tw9197174079833555027 tw8422229294311615681 tw10876078143196172821 tw10016166984437732892 tw10206956779759575209 tw10258873121960336067 tw10282777137419654623 tw10297410513487048360 tw10470340158578859262 tw10510056951384868246 tw10792498714594961201 tw10888863842102328177 tw11151835277377553703 tw11205608169257636508 tw11341313602254236906 tw115167043885905223 tw11525993766095887173 tw11662115353561507501 tw11692469974320434101 tw11766667032028208565 tw11898673842065290130 tw12269216009862288129 tw12297992134047619483 tw12360465386682457377 tw12431713363859531893 tw12468840222048715292 tw12652081859355081885 tw1266070629607400876 tw12740759652641322565 tw12884060626414724322 tw12901003280762261817 tw13114645530532618160 tw13348088958985639553 tw13367274342830030513 tw13484562703626004877 tw13810262117814702294 tw1383625962624193546 tw13861969467909019144 tw13956191218907399338 tw14074196154385387334 tw14154597600763967237 tw14219159868682941630 tw14243238205550065757 tw14334995849660946996 tw14391293386007564604 tw14441679199631801671 tw14560624547652848805 tw14592624751514493413 tw14689541978594310382 tw14736888041290939073 tw14746253646979254834 tw14782954611325821827 tw14831331821628862639 tw14847308668706973960 tw14859695947638507448 tw14961746396406840608 tw15016216816812991519 tw15142666989864626641 tw15166322114958858414 tw15173544498738437827 tw15227483606004533461 tw15254211478433396525 tw15590096980072825465 tw15593559885672580101 tw15758238558559904101 tw16046435833275179198 tw16061730576925561143 tw16132249320637822498 tw16140922888777852060 tw16412085850373738351 tw16626521671886133394 tw16675474607261055093 tw16859961878692490766 tw16925712312323332580 tw17137270108147033825 tw1719895430356276633 tw172746767574481773 tw17382457898008728272 tw17590876675597686902 tw17680797132471856694 tw17980500129456985241 tw17986951261819808105 tw1807303495852506956 tw18081126092374225324 tw18105302477358141223 tw1915925776726481438 tw1922157984580058403 tw1956775160557780875 tw2042730919218753758 tw2358075552688931204 tw2399617604181995578 tw2495115493620250326 tw2527701527901579348 tw2570914705882880060 tw2576523973992343609 tw258204147387103276 tw2595585439558603231 tw2706584449700448635 tw2741014181512449073 tw3079139606121575636 tw3270257207059953099 tw3365755272349913518 tw3671519592330383864 tw4002271763688809667 tw4046790133079468173 tw4096221787609464999 tw4313010194945074917 tw4480162626587320490 tw4605971472053405522 tw4635989785427082552 tw5072417060200589145 tw5285915839522022235 tw5344687154915797982 tw5362036446546632119 tw5395340147747708899 tw542563422162235373 tw5537553045615171315 tw5994696166404524948 tw6060609690816243450 tw6148891448256914594 tw628631919661052299 tw6405511729158686954 tw6702445572142316249 tw6880980288501444468 tw6945566481307383155 tw7086961617601330827 tw7155359931933253843 tw7476452910721959123 tw7485256538410118956 tw7538781388859322016 tw772564365185477556 tw7909973126167129995 tw8047209995159408440 tw8080008513338510535 tw8122695690928665766 tw8157277791214410489 tw8285278889055680438 tw8356303796347215682 tw8359988921792034652 tw8392358500681263680 tw8554566592984996656 tw8949853181751564097 tw896878414759379649 tw9003107776662980439 tw9201617497623189827 tw9381626543082597023 tw9402243437249704421 tw9910136688757260964:True)
set_option maxHeartbeats 0 in
open_top hd for PySem.Challenge.rw_skewhouse_k77_whole_yes_has_no_ill
set_option Elab.async false
set_option linter.all false
set_option maxRecDepth 100000
theorem ea0{A B:Type}{N O Z:A->B->Prop}{Y1:Prop}(Y0:∀(a:A)(b:B),N a b->O a b->Z a b->Y1):(∃a b,N a b/\O a b/\Z a b)->Y1:=by
 rintro⟨a,b,n,o,z⟩;exact Y0 a b n o z
theorem ea1{A:Type}{N Z:A->Prop}{Y1:Prop}(Y0:∀(a:A),N a->Z a->Y1):(∃a,N a/\Z a)->Y1:=by
 rintro⟨a,n,z⟩;exact Y0 a n z
theorem ea2{A B C:Type}{N O P Q Z:A->B->C->Prop}{Y1:Prop}(Y0:∀(a:A)(b:B)(c:C),N a b c->O a b c->P a b c->Q a b c->Z a b c->Y1):(∃a b c,N a b c/\O a b c/\P a b c/\Q a b c/\Z a b c)->Y1:=by
 rintro⟨a,b,c,n,o,p,q,z⟩;exact Y0 a b c n o p q z
theorem ea3{N O Z:Prop}{Y1:Prop}(Y0:N->O->Z->Y1):(N/\O/\Z)->Y1:=by
 rintro⟨n,o,z⟩;exact Y0 n o z
theorem ea4{A B:Type}{Z:A->B->Prop}{Y1:Prop}(Y0:∀(a:A)(b:B),Z a b->Y1):(∃a b,Z a b)->Y1:=by
 rintro⟨a,b,z⟩;exact Y0 a b z
theorem ea5{A B C:Type}{N O P Z:A->B->C->Prop}{Y1:Prop}(Y0:∀(a:A)(b:B)(c:C),N a b c->O a b c->P a b c->Z a b c->Y1):(∃a b c,N a b c/\O a b c/\P a b c/\Z a b c)->Y1:=by
 rintro⟨a,b,c,n,o,p,z⟩;exact Y0 a b c n o p z
theorem ea6{N O P Q R Z:Prop}{Y1:Prop}(Y0:N->O->P->Q->R->Z->Y1):(N/\O/\P/\Q/\R/\Z)->Y1:=by
 rintro⟨n,o,p,q,r,z⟩;exact Y0 n o p q r z
theorem ea7{A B:Type}{N:Prop}{Z:A->B->Prop}{Y1:Prop}(Y0:N->∀(a:A)(b:B),Z a b->Y1):(N/\∃a b,Z a b)->Y1:=by
 rintro⟨n,a,b,z⟩;exact Y0 n a b z
theorem ea8{A:Type}{N O Z:A->Prop}{Y1:Prop}(Y0:∀(a:A),N a->O a->Z a->Y1):(∃a,N a/\O a/\Z a)->Y1:=by
 rintro⟨a,n,o,z⟩;exact Y0 a n o z
theorem ea9{A B C D:Type}{N O P Q Z:A->B->C->D->Prop}{Y1:Prop}(Y0:∀(a:A)(b:B)(c:C)(d:D),N a b c d->O a b c d->P a b c d->Q a b c d->Z a b c d->Y1):(∃a b c d,N a b c d/\O a b c d/\P a b c d/\Q a b c d/\Z a b c d)->Y1:=by
 rintro⟨a,b,c,d,n,o,p,q,z⟩;exact Y0 a b c d n o p q z
theorem eaA{A B:Type}{N Z:A->B->Prop}{Y1:Prop}(Y0:∀(a:A)(b:B),N a b->Z a b->Y1):(∃a b,N a b/\Z a b)->Y1:=by
 rintro⟨a,b,n,z⟩;exact Y0 a b n z
theorem eaB{A B C D E:Type}{N O P Q R Z:A->B->C->D->E->Prop}{Y1:Prop}(Y0:∀(a:A)(b:B)(c:C)(d:D)(e:E),N a b c d e->O a b c d e->P a b c d e->Q a b c d e->R a b c d e->Z a b c d e->Y1):(∃a b c d e,N a b c d e/\O a b c d e/\P a b c d e/\Q a b c d e/\R a b c d e/\Z a b c d e)->Y1:=by
 rintro⟨a,b,c,d,e,n,o,p,q,r,z⟩;exact Y0 a b c d e n o p q r z
theorem eaC{A B:Type}{N O P Z:A->B->Prop}{Y1:Prop}(Y0:∀(a:A)(b:B),N a b->O a b->P a b->Z a b->Y1):(∃a b,N a b/\O a b/\P a b/\Z a b)->Y1:=by
 rintro⟨a,b,n,o,p,z⟩;exact Y0 a b n o p z
theorem eaD{A B C D E F:Type}{N O P Q R S T Z:A->B->C->D->E->F->Prop}{Y1:Prop}(Y0:∀(a:A)(b:B)(c:C)(d:D)(e:E)(f:F),N a b c d e f->O a b c d e f->P a b c d e f->Q a b c d e f->R a b c d e f->S a b c d e f->T a b c d e f->Z a b c d e f->Y1):(∃a b c d e f,N a b c d e f/\O a b c d e f/\P a b c d e f/\Q a b c d e f/\R a b c d e f/\S a b c d e f/\T a b c d e f/\Z a b c d e f)->Y1:=by
 rintro⟨a,b,c,d,e,f,n,o,p,q,r,s,t,z⟩;exact Y0 a b c d e f n o p q r s t z
theorem eaE{A B C D:Type}{N O P Z:A->B->C->D->Prop}{Y1:Prop}(Y0:∀(a:A)(b:B)(c:C)(d:D),N a b c d->O a b c d->P a b c d->Z a b c d->Y1):(∃a b c d,N a b c d/\O a b c d/\P a b c d/\Z a b c d)->Y1:=by
 rintro⟨a,b,c,d,n,o,p,z⟩;exact Y0 a b c d n o p z
theorem eaF{A B C D:Type}{N:Prop}{O P Q R Z:A->B->C->D->Prop}{Y1:Prop}(Y0:N->∀(a:A)(b:B)(c:C)(d:D),O a b c d->P a b c d->Q a b c d->R a b c d->Z a b c d->Y1):(N/\∃a b c d,O a b c d/\P a b c d/\Q a b c d/\R a b c d/\Z a b c d)->Y1:=by
 rintro⟨n,a,b,c,d,o,p,q,r,z⟩;exact Y0 n a b c d o p q r z
theorem eaG{A B C D:Type}{N O Z:A->B->C->D->Prop}{Y1:Prop}(Y0:∀(a:A)(b:B)(c:C)(d:D),N a b c d->O a b c d->Z a b c d->Y1):(∃a b c d,N a b c d/\O a b c d/\Z a b c d)->Y1:=by
 rintro⟨a,b,c,d,n,o,z⟩;exact Y0 a b c d n o z
theorem eaH{A B C D E:Type}{N:Prop}{O P Q R Z:A->B->C->D->E->Prop}{Y1:Prop}(Y0:N->∀(a:A)(b:B)(c:C)(d:D)(e:E),O a b c d e->P a b c d e->Q a b c d e->R a b c d e->Z a b c d e->Y1):(N/\∃a b c d e,O a b c d e/\P a b c d e/\Q a b c d e/\R a b c d e/\Z a b c d e)->Y1:=by
 rintro⟨n,a,b,c,d,e,o,p,q,r,z⟩;exact Y0 n a b c d e o p q r z
theorem eb0{A B:Type}{N O P Q Z:A->B->Prop}{Y1:Prop}(Y0:∀(a:A)(b:B),N a b->O a b->P a b->Q a b->Z a b->Y1):(∃a b,N a b/\O a b/\P a b/\Q a b/\Z a b)->Y1:=by
 rintro⟨a,b,n,o,p,q,z⟩;exact Y0 a b n o p q z
theorem eb1{A:Type}{N O P Z:A->Prop}{Y1:Prop}(Y0:∀(a:A),N a->O a->P a->Z a->Y1):(∃a,N a/\O a/\P a/\Z a)->Y1:=by
 rintro⟨a,n,o,p,z⟩;exact Y0 a n o p z
theorem eb2{A B C D E F G:Type}{N O P Q R S T U V Z:A->B->C->D->E->F->G->Prop}{Y1:Prop}(Y0:∀(a:A)(b:B)(c:C)(d:D)(e:E)(f:F)(g:G),N a b c d e f g->O a b c d e f g->P a b c d e f g->Q a b c d e f g->R a b c d e f g->S a b c d e f g->T a b c d e f g->U a b c d e f g->V a b c d e f g->Z a b c d e f g->Y1):(∃a b c d e f g,N a b c d e f g/\O a b c d e f g/\P a b c d e f g/\Q a b c d e f g/\R a b c d e f g/\S a b c d e f g/\T a b c d e f g/\U a b c d e f g/\V a b c d e f g/\Z a b c d e f g)->Y1:=by
 rintro⟨a,b,c,d,e,f,g,n,o,p,q,r,s,t,u,v,z⟩;exact Y0 a b c d e f g n o p q r s t u v z
theorem eb3{A B:Type}{N:Prop}{O Z:A->B->Prop}{Y1:Prop}(Y0:N->∀(a:A)(b:B),O a b->Z a b->Y1):(N/\∃a b,O a b/\Z a b)->Y1:=by
 rintro⟨n,a,b,o,z⟩;exact Y0 n a b o z
theorem eb4{N O P Z:Prop}{Y1:Prop}(Y0:N->O->P->Z->Y1):(N/\O/\P/\Z)->Y1:=by
 rintro⟨n,o,p,z⟩;exact Y0 n o p z
theorem eb5{A B C D E F:Type}{N:Prop}{O P Q Z:A->B->C->D->E->F->Prop}{Y1:Prop}(Y0:N->∀(a:A)(b:B)(c:C)(d:D)(e:E)(f:F),O a b c d e f->P a b c d e f->Q a b c d e f->Z a b c d e f->Y1):(N/\∃a b c d e f,O a b c d e f/\P a b c d e f/\Q a b c d e f/\Z a b c d e f)->Y1:=by
 rintro⟨n,a,b,c,d,e,f,o,p,q,z⟩;exact Y0 n a b c d e f o p q z
theorem eb6{A B:Type}{N:A->Prop}{O Z:A->B->Prop}{Y1:Prop}(Y0:∀(a:A),N a->∀(b:B),O a b->Z a b->Y1):(∃a,N a/\∃b,O a b/\Z a b)->Y1:=by
 rintro⟨a,n,b,o,z⟩;exact Y0 a n b o z
theorem eb7{A B:Type}{N:Prop}{O P Z:A->B->Prop}{Y1:Prop}(Y0:N->∀(a:A)(b:B),O a b->P a b->Z a b->Y1):(N/\∃a b,O a b/\P a b/\Z a b)->Y1:=by
 rintro⟨n,a,b,o,p,z⟩;exact Y0 n a b o p z
theorem eb8{A B C D:Type}{N O P Q R S T U Z:A->B->C->D->Prop}{Y1:Prop}(Y0:∀(a:A)(b:B)(c:C)(d:D),N a b c d->O a b c d->P a b c d->Q a b c d->R a b c d->S a b c d->T a b c d->U a b c d->Z a b c d->Y1):(∃a b c d,N a b c d/\O a b c d/\P a b c d/\Q a b c d/\R a b c d/\S a b c d/\T a b c d/\U a b c d/\Z a b c d)->Y1:=by
 rintro⟨a,b,c,d,n,o,p,q,r,s,t,u,z⟩;exact Y0 a b c d n o p q r s t u z
theorem eb9{A B C D:Type}{N:A->Prop}{O P Q R Z:A->B->C->D->Prop}{Y1:Prop}(Y0:∀(a:A),N a->∀(b:B)(c:C)(d:D),O a b c d->P a b c d->Q a b c d->R a b c d->Z a b c d->Y1):(∃a,N a/\∃b c d,O a b c d/\P a b c d/\Q a b c d/\R a b c d/\Z a b c d)->Y1:=by
 rintro⟨a,n,b,c,d,o,p,q,r,z⟩;exact Y0 a n b c d o p q r z
theorem ebA{A B C:Type}{N O Z:A->B->C->Prop}{Y1:Prop}(Y0:∀(a:A)(b:B)(c:C),N a b c->O a b c->Z a b c->Y1):(∃a b c,N a b c/\O a b c/\Z a b c)->Y1:=by
 rintro⟨a,b,c,n,o,z⟩;exact Y0 a b c n o z
theorem ebB{A B C D E F G H I J:Type}{N O P Q R S T Z:A->B->C->D->E->F->G->H->I->J->Prop}{Y1:Prop}(Y0:∀(a:A)(b:B)(c:C)(d:D)(e:E)(f:F)(g:G)(h:H)(i:I)(j:J),N a b c d e f g h i j->O a b c d e f g h i j->P a b c d e f g h i j->Q a b c d e f g h i j->R a b c d e f g h i j->S a b c d e f g h i j->T a b c d e f g h i j->Z a b c d e f g h i j->Y1):(∃a b c d e f g h i j,N a b c d e f g h i j/\O a b c d e f g h i j/\P a b c d e f g h i j/\Q a b c d e f g h i j/\R a b c d e f g h i j/\S a b c d e f g h i j/\T a b c d e f g h i j/\Z a b c d e f g h i j)->Y1:=by
 rintro⟨a,b,c,d,e,f,g,h,i,j,n,o,p,q,r,s,t,z⟩;exact Y0 a b c d e f g h i j n o p q r s t z
theorem ebC{A B:Type}{N O P Q R Z:A->B->Prop}{Y1:Prop}(Y0:∀(a:A)(b:B),N a b->O a b->P a b->Q a b->R a b->Z a b->Y1):(∃a b,N a b/\O a b/\P a b/\Q a b/\R a b/\Z a b)->Y1:=by
 rintro⟨a,b,n,o,p,q,r,z⟩;exact Y0 a b n o p q r z
theorem ebD{A B C:Type}{N:Prop}{O Z:A->B->C->Prop}{Y1:Prop}(Y0:N->∀(a:A)(b:B)(c:C),O a b c->Z a b c->Y1):(N/\∃a b c,O a b c/\Z a b c)->Y1:=by
 rintro⟨n,a,b,c,o,z⟩;exact Y0 n a b c o z
theorem ebE{A B C D:Type}{N O:Prop}{P Q R S Z:A->B->C->D->Prop}{Y1:Prop}(Y0:N->O->∀(a:A)(b:B)(c:C)(d:D),P a b c d->Q a b c d->R a b c d->S a b c d->Z a b c d->Y1):(N/\O/\∃a b c d,P a b c d/\Q a b c d/\R a b c d/\S a b c d/\Z a b c d)->Y1:=by
 rintro⟨n,o,a,b,c,d,p,q,r,s,z⟩;exact Y0 n o a b c d p q r s z
theorem ebF{N O P Q Z:Prop}{Y1:Prop}(Y0:N->O->P->Q->Z->Y1):(N/\O/\P/\Q/\Z)->Y1:=by
 rintro⟨n,o,p,q,z⟩;exact Y0 n o p q z
theorem ebG{A B C:Type}{N:Prop}{O P Z:A->B->C->Prop}{Y1:Prop}(Y0:N->∀(a:A)(b:B)(c:C),O a b c->P a b c->Z a b c->Y1):(N/\∃a b c,O a b c/\P a b c/\Z a b c)->Y1:=by
 rintro⟨n,a,b,c,o,p,z⟩;exact Y0 n a b c o p z
theorem ebH{A B C D:Type}{N O P Q R Z:A->B->C->D->Prop}{Y1:Prop}(Y0:∀(a:A)(b:B)(c:C)(d:D),N a b c d->O a b c d->P a b c d->Q a b c d->R a b c d->Z a b c d->Y1):(∃a b c d,N a b c d/\O a b c d/\P a b c d/\Q a b c d/\R a b c d/\Z a b c d)->Y1:=by
 rintro⟨a,b,c,d,n,o,p,q,r,z⟩;exact Y0 a b c d n o p q r z
theorem ec0{A B C:Type}{N O P:A->Prop}{Q R S Z:A->B->C->Prop}{Y1:Prop}(Y0:∀(a:A),N a->O a->P a->∀(b:B)(c:C),Q a b c->R a b c->S a b c->Z a b c->Y1):(∃a,N a/\O a/\P a/\∃b c,Q a b c/\R a b c/\S a b c/\Z a b c)->Y1:=by
 rintro⟨a,n,o,p,b,c,q,r,s,z⟩;exact Y0 a n o p b c q r s z
theorem ec1{A B C D E F:Type}{N O P Q Z:A->B->C->D->E->F->Prop}{Y1:Prop}(Y0:∀(a:A)(b:B)(c:C)(d:D)(e:E)(f:F),N a b c d e f->O a b c d e f->P a b c d e f->Q a b c d e f->Z a b c d e f->Y1):(∃a b c d e f,N a b c d e f/\O a b c d e f/\P a b c d e f/\Q a b c d e f/\Z a b c d e f)->Y1:=by
 rintro⟨a,b,c,d,e,f,n,o,p,q,z⟩;exact Y0 a b c d e f n o p q z
theorem ec2{A B C D:Type}{N:Prop}{O P Q Z:A->B->C->D->Prop}{Y1:Prop}(Y0:N->∀(a:A)(b:B)(c:C)(d:D),O a b c d->P a b c d->Q a b c d->Z a b c d->Y1):(N/\∃a b c d,O a b c d/\P a b c d/\Q a b c d/\Z a b c d)->Y1:=by
 rintro⟨n,a,b,c,d,o,p,q,z⟩;exact Y0 n a b c d o p q z
theorem ec3{A:Type}{N O:Prop}{P Z:A->Prop}{Y1:Prop}(Y0:N->O->∀(a:A),P a->Z a->Y1):(N/\O/\∃a,P a/\Z a)->Y1:=by
 rintro⟨n,o,a,p,z⟩;exact Y0 n o a p z
theorem ec4{A B C D E F:Type}{N:Prop}{O P Q R Z:A->B->C->D->E->F->Prop}{Y1:Prop}(Y0:N->∀(a:A)(b:B)(c:C)(d:D)(e:E)(f:F),O a b c d e f->P a b c d e f->Q a b c d e f->R a b c d e f->Z a b c d e f->Y1):(N/\∃a b c d e f,O a b c d e f/\P a b c d e f/\Q a b c d e f/\R a b c d e f/\Z a b c d e f)->Y1:=by
 rintro⟨n,a,b,c,d,e,f,o,p,q,r,z⟩;exact Y0 n a b c d e f o p q r z
theorem ec5{A B C D E:Type}{N O Z:A->B->C->D->E->Prop}{Y1:Prop}(Y0:∀(a:A)(b:B)(c:C)(d:D)(e:E),N a b c d e->O a b c d e->Z a b c d e->Y1):(∃a b c d e,N a b c d e/\O a b c d e/\Z a b c d e)->Y1:=by
 rintro⟨a,b,c,d,e,n,o,z⟩;exact Y0 a b c d e n o z
theorem ec6{A B C:Type}{N:Prop}{O P Q R Z:A->B->C->Prop}{Y1:Prop}(Y0:N->∀(a:A)(b:B)(c:C),O a b c->P a b c->Q a b c->R a b c->Z a b c->Y1):(N/\∃a b c,O a b c/\P a b c/\Q a b c/\R a b c/\Z a b c)->Y1:=by
 rintro⟨n,a,b,c,o,p,q,r,z⟩;exact Y0 n a b c o p q r z
theorem ec7{A B:Type}{N O:A->Prop}{Z:A->B->Prop}{Y1:Prop}(Y0:∀(a:A),N a->O a->∀(b:B),Z a b->Y1):(∃a,N a/\O a/\∃b,Z a b)->Y1:=by
 rintro⟨a,n,o,b,z⟩;exact Y0 a n o b z
theorem ec8{A B C:Type}{N O P Q R Z:A->B->C->Prop}{Y1:Prop}(Y0:∀(a:A)(b:B)(c:C),N a b c->O a b c->P a b c->Q a b c->R a b c->Z a b c->Y1):(∃a b c,N a b c/\O a b c/\P a b c/\Q a b c/\R a b c/\Z a b c)->Y1:=by
 rintro⟨a,b,c,n,o,p,q,r,z⟩;exact Y0 a b c n o p q r z
def rp:(0:Nat)<PySem.sizeLine:=by decide
def ue:(0:Nat)<=PySem.sizeLine:=by decide
def Xd:(1:Nat)<=PySem.sizeLine:=by decide
def Dj:(2:Nat)<=10:=by decide
def Ha:(2:Nat)<=PySem.sizeLine:=by decide
def Ec:(3:Nat)<=PySem.sizeLine:=by decide
def Ad:(4:Nat)<=PySem.sizeLine:=by decide
def pf:(5:Nat)<=PySem.sizeLine:=by decide
namespace L2
open PySem PySem.Spec PyProof.Rows
abbrev Key:=Sum Int Str
def kn:Key->rN->Bool
 |.inl k,v=>Value.isInt k v
 |.inr x,v=>Value.isStrOf x v
def JC(w:AN):Key->Int
 |.inl k=>hashInt k
 |.inr x=>hashStr w x
def Wi:∀{k:Key}{v:rN},kn k v=wN->(∃i t,k=Sum.inl i/\v=Value.int i t)\/(∃x t,k=Sum.inr x/\v=Value.str x t)
 |.inl i,v,h=>by
  obtain⟨t,e⟩:=Value.isInt_shape h;exact .inl (nx4 i t rfl e)
 |.inr x,v,h=>by
  obtain⟨t,e⟩:=Value.isStrOf_shape h;exact .inr (nx4 x t rfl e)
def KC(i:Int)(t:Tok):kn (.inl i) (.int i t)=wN:=by simp[kn,Value.isInt]
def LC(x:Str)(t:Tok):kn (.inr x) (.str x t)=wN:=by simp[kn,Value.isStrOf]
def MC(a b:Int):decide ((Sum.inl a:Key)=Sum.inl b)=(a==b):=by
 grind
def NC(a b:Str):decide ((Sum.inr a:Key)=Sum.inr b)=decide (a=b):=by
 simp_all
def OC(a:Int)(b:Str):decide ((Sum.inl a:Key)=Sum.inr b)=yN:=by rfl
def QC(a:Str)(b:Int):decide ((Sum.inr a:Key)=Sum.inl b)=yN:=by rfl
def Wc(prog:zN)(w:AN):PySem.KeyKind prog w Key where
 is:=kn
 hash:=JC w
 inj:=λv a b O J=>by
  rcases Wi O with⟨i,t,rfl,rfl⟩|⟨x,t,rfl,rfl⟩
  ·rcases Wi J with⟨j,u,rfl,e⟩|⟨y,u,rfl,e⟩
   ·injection e with g _;rw[g]
   ·exact nomatch e
  ·rcases Wi J with⟨j,u,rfl,e⟩|⟨y,u,rfl,e⟩
   ·exact nomatch e
   ·injection e with g _;rw[g]
 byValue:=λk v h=>by
  rcases Wi h with⟨i,t,rfl,rfl⟩|⟨x,t,rfl,rfl⟩<;>rfl
 pyHash:=λr h=>by
  rcases Wi r with⟨i,t,rfl,rfl⟩|⟨x,t,rfl,rfl⟩
  ·exact wP h
  ·exact wpAny_pyHash_str h
 eqBool:=λU r h=>by
  rcases Wi U with⟨i,t,rfl,rfl⟩|⟨x,t,rfl,rfl⟩
  ·rcases Wi r with⟨j,u,rfl,rfl⟩|⟨y,u,rfl,rfl⟩
   ·rw[MC]at h;exact wpAny_eqBool_int h
   ·rw[OC]at h;exact SeqAt.EqAt.int_str i t y u _ _ _ _ h
  ·rcases Wi r with⟨j,u,rfl,rfl⟩|⟨y,u,rfl,rfl⟩
   ·rw[QC]at h;exact SeqAt.EqAt.str_int x t j u _ _ _ _ h
   ·rw[NC]at h;exact wpAny_eqBool_str h
 «strs»:=λk x t v h=>by
  rcases Wi h with⟨i,u,rfl,e⟩|⟨y,u,rfl,e⟩
  ·exact nomatch e
  ·injection e with g _;subst g;cases v<;>rfl
def RC(prog:zN)(w:AN)(i:Int)(t:Tok):(Wc prog w).is (.inl i) (.int i t)=wN:=KC i t
def TC(prog:zN)(w:AN)(x:Str)(t:Tok):(Wc prog w).is (.inr x) (.str x t)=wN:=LC x t
inductive V where
 |Ra|bl(b:Bool)|int(i:Int)|str(x:Str)|Sg(b:Array UInt8)|mn(b:UInt64)|ref(a:uN)|ty(n:String)
 deriving DecidableEq
def Aa:V->rN->Prop
 |.Ra,u=>u=Value.none
 |.bl b,u=>u=Value.bool b
 |.int i,u=>∃t,u=Value.int i t
 |.str x,u=>∃t,u=Value.str x t
 |.Sg b,u=>∃t,u=Value.bytes b t
 |.mn b,u=>∃t,u=Value.float b t
 |.ref a,u=>u=Value.ref a
 |.ty n,u=>u=Value.type n
abbrev Ia:List V->List rN->Prop:=Paired Aa
def Ia.length(r:Ia xs us):xs.length=us.length:=Ck r
def Ia.get:∀{xs:List V}{us:List rN}{i:Nat}{x:V},Ia xs us->xs[i]?=qN x->∃u,us[i]?=qN u/\Aa x u
 |_,_,_,_,.nil,e=>by simp at e
 |_,_,0,_,.cons g _,e=>by simp_all
 |_,_,i+1,x,.cons _ t,e=>by
  refine ea1 ?_ (Ia.get (i:=i) (x:=x) t (by simpa using e));rintro u r J
  simp_all
def Ia.set(r:Aa x u):∀{xs:List V}{us:List rN}(i:Nat),Ia xs us->Ia (xs.set i x) (us.set i u)
 |_,_,_,.nil=>.nil
 |_,_,0,.cons _ t=>.cons r t
 |_,_,i+1,.cons q t=>.cons q (Ia.set r i t)
def Ia.append:∀{xs ys:List V}{us g:List rN},Ia xs us->Ia ys g->Ia (xs++ys) (us++g):=by
 intro _ _ _ _ h s;induction h with
 |nil=>exact s
 |cons r t J=>exact .cons r J
def Ia.take:∀{xs:List V}{us:List rN}(n:Nat),Ia xs us->Ia (xs.take n) (us.take n)
 |_,_,0,_=>.nil
 |_,_,_+1,.nil=>.nil
 |_,_,n+1,.cons r t=>.cons r (Ia.take n t)
def Ia.drop:∀{xs:List V}{us:List rN}(n:Nat),Ia xs us->Ia (xs.drop n) (us.drop n)
 |_,_,0,r=>r
 |_,_,_+1,.nil=>.nil
 |_,_,n+1,.cons _ t=>Ia.drop n t
def Bd:Option V->Option rN->Prop
 |some v,qN u=>Aa v u
 |none,sN=>True
 |_,_=>False
def KV{g:Type}:List (g×V)->List (g×rN)->Prop:=Paired λ(p:g×V)(q:g×rN)=>p.1=q.1/\Aa p.2 q.2
def kV:Key->V
 |.inl i=>.int i
 |.inr x=>.str x
inductive HO where
  |lst(xs:List V)
  |tup(xs:List V)
  |dK(kvs:List (Key×V))|dT(kvs:List (List Key×V))
  |set(S:Int->Bool)(n:Nat)
  |ins(C dx:uN)(fs:List (Str×V))
  |own(x:uN)
  |xd(fs:List (Str×V))
  |met(f x:uN)
  |jr(lo hi:Int)
  |Hb(o:TN)(u:HO)
  |Ik(ps:Array rN)
  |ext(φ:EN->Prop)
abbrev Hp:=uN->Option HO
def upd(H:Hp)(a:uN)(o:HO):Hp:=λb=>if b=a then qN o else H b
def ia:upd H a o a=qN o:=by unfold upd;rw[va rfl]
def ja(h:b≠a):upd H a o b=H b:=by unfold upd;rw[na h]
def Tc{H:Hp}(h:H a=qN o)(h':H b=sN):a≠b:=by
 lia
section
variable(P:zN)(w:AN)
def xc(H:Hp)(h:EN)(a:uN):HO->Prop
 |.lst xs=>xs.length<=vN/\∃(r:List rN)(n:Nat),Ia xs r/\h.get? a=qN {cls:=.type "list",data:=.seq r.toArray n}
 |.tup xs=>xs.length<=vN/\∃r:List rN,Ia xs r/\IsTup h a r.toArray
 |.dK kvs=>kvs.length<=vN/\(a==NN)=yN/\∃vs,KV kvs vs/\h.DictOf (Wc P w) a vs
 |.dT kvs=>kvs.length<=vN/\(a==NN)=yN/\∃xs:List (List Key×uN×rN),
   Paired (λ(p:List Key×V)(q:List Key×uN×rN)=>p.1=q.1/\H q.2.1=qN (.tup (p.1.map kV))/\Aa p.2 q.2.2) kvs xs/\
   ∃o es ep,h.get? a=qN o/\o.ExactDict/\o.data=.dict es ep/\es.toList=xs.map (jP (kO (Wc P w)))/\(xs.map (·.1)).Nodup
 |.set S n=>h.SetOf (fO P w) a S n
 |.ins C J fs=>H J=qN (.own a)/\fs.length<=1000/\J≠a/\h.get? a=qN (W.instObj C J)/\
   ∃g,h.Ns1 J g/\(∀f,Bd (fs.lookup f) (g f))/\PySem.Within g (fs.map (·.1))
 |.own _=>∃o,h.get? a=qN o
 |.xd fs=>∃g,h.Ns1 a g/\∀f,Bd (fs.lookup f) (g f)
 |.jr lo a0=>∃t u v,h.get? a=qN {cls:=.type "range",data:=.fields #[.int lo t,.int a0 u,.int 1 v]}
 |.Hb o u=>h.get? a=qN o/\xc H h a u
 |.Ik b0=>h.get? a=qN {cls:=.none,data:=.fields b0}
 |.met f x=>h.get? a=qN (W.methodObj (.ref f) (.ref x))
 |.ext O=>O h/\(∃o,h.get? a=qN o)/\∀U Y:EN,O U->(∀o,U.get? a=qN o->Y.get? a=qN o)->O Y
def yc(H:Hp)(h:EN):Prop:=∀a o,H a=qN o->xc P w H h a o
end
section
variable{P:zN}{w:AN}{H H':Hp}{h h':EN}{a:uN}{o:HO}
def xc.lt(x:xc P w H h a o):a<h.objs.size:=by
 cases o with
 |lst xs=>obtain⟨_,_,_,_,e⟩:=x;exact Na e
 |tup xs=>obtain⟨_,_,_,p⟩:=x;exact p.lt
 |dK kvs=>revert x;refine ea3 ?_;rintro _ _⟨_,_,o,_,_,e,_⟩;exact Na e
 |dT kvs=>revert x;refine ea3 ?_;rintro _ _⟨_,_,o,_,_,e,_⟩;exact Na e
 |set S n=>revert x;refine ea4 ?_;rintro o _;refine eaA ?_;rintro _ _ e _;exact Na e
 |ins C g fs=>obtain⟨_,_,_,e,_⟩:=x;exact Na e
 |own y=>obtain⟨_,e⟩:=x;exact Na e
 |xd fs=>obtain⟨_,⟨_,_,_,e,_⟩,_⟩:=x;exact Na e
 |jr lo r=>obtain⟨_,_,_,e⟩:=x;exact Na e
 |Hb ob u=>obtain⟨e,_⟩:=x;exact Na e
 |Ik J=>exact Na (x)
 |met f y=>exact Na (x)
 |ext O=>obtain⟨_,⟨_,e⟩,_⟩:=x;exact Na e
def Paired.Yb:∀{g:List α}{r:List U},Paired F g r->(∀a b,F a b->G a b)->Paired G g r:=by
 intro _ _ h f;induction h with
 |nil=>exact .nil
 |cons J t O=>exact .cons (f _ _ J) O
def Paired.imp'{F G:α->O->Prop}(f:∀a b,F a b->G a b)(g:Paired F r J):Paired G r J:=Paired.Yb g f
def xc.Hc(x:xc P w H h a o)(k:∀b u,(b=a\/H b=qN (.own a))->h.get? b=qN u->h'.get? b=qN u)
  (U:∀b,H b=qN (.own a)->H' b=qN (.own a))(c0:∀b xs,H b=qN (.tup xs)->H' b=qN (.tup xs)):xc P w H' h' a o:=by
 induction o with
 |lst xs=>obtain⟨z,r,n,g,e⟩:=x;exact⟨z,nx4 r n g (k _ _ (.inl rfl) e)⟩
 |tup xs=>obtain⟨z,r,g,ob,e,c⟩:=x;exact⟨z,nx11 r g ob ⟨by simp_all,c⟩⟩
 |dK kvs=>revert x;refine ea3 ?_;rintro z y⟨vs,g,ob,es,ep,e,c⟩;exact⟨z,y,nx11 vs g ob (nx4 es ep (by grind) c)⟩
 |dT kvs=>
  revert x;refine ea3 ?_;rintro z y⟨xs,g,ob,es,ep,e,c⟩;exact⟨z,y,nx11 xs (Paired.Yb g (by(intros;simp_all))) ob (nx4 es ep (by grind) c)⟩
 |set S n=>revert x;refine ea4 ?_;rintro ob es;refine eaA ?_;rintro ep t e c;exact nx10 ob es ep t ⟨k _ _ (.inl rfl) e,c⟩
 |ins C d0 fs=>
  revert x;refine ea3 ?_;rintro d z;refine ec3 ?_;rintro Y e J⟨O,es,ep,a0,c⟩g;exact⟨U _ d,z,Y,by simp_all,J,nx7 O es ep (k _ _ (.inr d) a0) c,g⟩
 |own y=>obtain⟨ob,e⟩:=x;exact⟨ob,k _ _ (.inl rfl) e⟩
 |xd fs=>obtain⟨J,⟨O,es,ep,e,c⟩,g⟩:=x;exact⟨J,nx7 O es ep (k _ _ (.inl rfl) e) c,g⟩
 |jr lo e0=>obtain⟨t,u,v,e⟩:=x;exact⟨t,nx1 u v (k _ _ (.inl rfl) e)⟩
 |Hb ob u b0=>obtain⟨e,q⟩:=x;exact⟨k _ _ (.inl rfl) e,b0 q⟩
 |Ik f0=>
  have e:=x;exact k a _ (.inl rfl) e
 |met f y=>
  have e:=x;exact k a _ (.inl rfl) e
 |ext g0=>obtain⟨p,⟨o,e⟩,st⟩:=x;exact⟨st _ _ p λo q=>k _ _ (.inl rfl) q,⟨o,k _ _ (.inl rfl) e⟩,st⟩
def yc.lt(x:yc P w H h)(e:H a=qN o):a<h.objs.size:=(x a o e).lt
def yc.fresh(x:yc P w H h)(e:h.objs.size<=a):H a=sN:=by
 cases q:H a with
 |none=>rfl
 |some u=>exact absurd (ed (x.lt q) e) (Sh _)
def yc.kept(x:yc P w H h)(k:∀b u,h.get? b=qN u->h'.get? b=qN u):yc P w H h':=λa o e=>
 (x a o e).Hc (by(intros;simp_all)) (λ_ q=>q) λ_ _ q=>q
def yc.laid(x:yc P w H h)(k:∀b u,h.get? b=qN u->h'.get? b=qN u)(J:h.objs.size<=a)(O:xc P w (upd H a o) h' a o):yc P w (upd H a o) h':=λb u e=>by
 have g:=x.fresh J;by_cases r:b=a
 ·subst r;rw[ia]at e;simp_all
 ·rw[ja r]at e;exact(x b u e).Hc (by grind) (λc q=>by rw[ja (Tc q g)];exact q) λc xs q=>by rw[ja (Tc q g)];exact q
end
def Rd(H:Hp)(a:uN)(u:HO):Prop:=H a=qN u\/∃o,H a=qN (.Hb o u)
def Rd.ok(r:Rd H a u)(x:yc P w H h):xc P w H h a u:=by
 rcases r with r|⟨o,r⟩
 ·exact x a u r
 ·obtain⟨_,q⟩:=x a _ r;exact q
def vp:Option HO->Prop
 |some (.lst _)=>True
 |some (.dK _)=>True
 |some (.dT _)=>True
 |some (.set _ _)=>True
 |some (.ins _ _ _)=>True
 |some (.ext _)=>True
 |_=>False
section
variable{P:zN}{w:AN}{H:Hp}{h h':EN}{x e:uN}{o':HO}
def yc.write(ok:yc P w H h)(r:vp (H x))(U:e=x\/H e=qN (.own x))(k:∀b u,b≠e->h.get? b=qN u->h'.get? b=qN u)(b0:∃u,h'.get? e=qN u)
  (c0:xc P w (upd H x o') h' x o'):yc P w (upd H x o') h':=λb u q=>by
 have Y:∀c y,H c=qN (.own y)->c≠x:=λc y g z=>by subst z;rw[g]at r;exact r
 have d0:∀c xs,H c=qN (.tup xs)->c≠x:=λc xs g z=>by subst z;rw[g]at r;exact r
 by_cases J:b=x
 ·subst J;rw[ia]at q;cases q;exact c0
 ·rw[ja J]at q;by_cases O:b=e
  ·have a0:H b=qN (.own x):=by
    rcases U with z|z
    ·exact absurd (O.trans z) J
    ·rw[O];exact z
   rw[q]at a0;cases a0;obtain⟨v,e0⟩:=b0;exact⟨v,by rw[O];exact e0⟩
  ·refine(ok b u q).Hc (λc v hc g=>k c v ?_ g) (λc g=>by rw[ja (Y c b g)];exact g) λc xs g=>by rw[ja (d0 c xs g)];exact g
   rcases hc with rfl|hc
   ·exact O
   ·rintro rfl;rcases U with z|z
    ·exact Y c b hc z
    ·rw[hc]at z;cases z;exact J rfl
end
structure Un(fs ex:List uN)(H H':Hp)(h h':EN):Prop where
 keep:∀b o,h.get? b=qN o->H b=sN->b∉fs->b∉ex->h'.get? b=qN o
 slot:∀b o,h.get? b=qN o->H b=sN->b∈fs->b∉ex->∃sl,h'.get? b=qN {o with slots:=sl}
 free:∀b o,h.get? b=qN o->H b=sN->b∉ex->H' b=sN
 there:∀b o,h.get? b=qN o->b∉ex->∃o',h'.get? b=qN o'
 tups:∀b xs,H b=qN (.tup xs)->H' b=qN (.tup xs)
 frzs:∀b o u,H b=qN (.Hb o u)->H' b=qN (.Hb o u)
 tbls:∀b ps,H b=qN (.Ik ps)->∃more,H' b=qN (.Ik (ps++more))
section
variable{fs UC ex lN:List uN}{H H1 H2:Hp}{h h1 h2 h':EN}{a x e:uN}{o:HO}
def Un.any(u:Un fs ex H H1 h h1)(q:h.get? b=qN ob)(n:H b=sN)(g:b∉ex):∃J,h1.get? b=qN {ob with slots:=J}:=by
 by_cases r:b∈fs
 ·exact u.slot b ob q n r g
 ·exact⟨ob.slots,u.keep b ob q n r g⟩
def Un.kept(k:∀b u,h.get? b=qN u->h'.get? b=qN u):Un fs ex H H h h' :=
 ⟨by(intros;simp_all),λb ob q _ _ _=>⟨ob.slots,k b ob q⟩,λ_ _ _ n _=>n,by(intros;simp_all),λ_ _ q=>q,λ_ _ _ q=>q,λ_ g q=>⟨#[],by rw[q];simp⟩⟩
def Un.refl:Un fs ex H H h h:=Un.kept λ_ _ q=>q
def Un.laid(k:∀b u,h.get? b=qN u->h'.get? b=qN u)(r:h.objs.size<=a)(g:H a=sN):Un fs ex H (upd H a o) h h' where
 keep:=by grind
 slot:=λb u q _ _ _=>⟨u.slots,k b u q⟩
 free:=λb u q n _=>by rw[ja (nb (ed (Na q) r))];exact n
 there:=by grind
 tups:=λb xs q=>by rw[ja (Tc q g)];exact q
 frzs:=λb u xs q=>by rw[ja (Tc q g)];exact q
 tbls:=λb J q=>⟨#[],by rw[ja (Tc q g),q];simp⟩
def Un.write(r:vp (H x))(U:e=x\/H e=qN (.own x))(k:∀b u,b≠e->h.get? b=qN u->h'.get? b=qN u)(Y:∃u,h'.get? e=qN u):Un fs ex H (upd H x o) h h':=by
 have J:∀b,H b=sN->b≠x:=λb n z=>by subst z;rw[n]at r;exact r
 have O:∀b,H b=sN->b≠e:=λb n z=>by
  simp_all
 have g:∀b u,H b=qN u->¬vp (qN u)->b≠x:=λb u q a0 z=>by simp_all
 refine⟨by(intros;simp_all),λb u q n _ _=>⟨u.slots,k b u (O b n) q⟩,λb u q n _=>by rw[ja (J b n)];exact n,λb u q _=>?_,
  λb xs q=>by rw[ja (g b _ q λz=>z)];exact q,λb u xs q=>by rw[ja (g b _ q λz=>z)];exact q,λb b0 q=>⟨#[],by rw[ja (g b _ q λz=>z),q];simp⟩⟩
 grind
end
def kr(h:EN)(H:Hp):List uN:=(List.range h.objs.size).filter λa=>(H a).isSome
def Ej(h:EN)(H:Hp):EN:=W.hideAll h (kr h H)
def VC(h:EN)(H:Hp):(Ej h H).objs.size=h.objs.size:=W.hideAll_size _ _
def WC(e:h.get? b=qN o)(n:H b=sN):(Ej h H).get? b=qN o:=
 W.hideAll_get _ e λg=>by
  have q:=(Ze.mp g).2;rw[n]at q;simp at q
def XC(e:(Ej h H).get? b=qN o):h.get? b=qN o/\H b=sN:=by
 have g:=W.of_hideAll (kr h H) e;refine⟨g,?_⟩;cases q:H b with
 |none=>rfl
 |some x=>
  have r:b∈kr h H:=Ze.mpr ⟨Ye.mpr (Na g),by simp[q]⟩;have z:(Ej h H).get? b=sN:=W.hideAll_none (kr h H) r;rw[z]at e;cases e
structure Mod(K:W.Frag)(mg:Str->Option rN)(base:EN):Prop where
 lr:K.In base
 glob:base.Ns HN mg
 blt:∃mb,base.Ns WP mb/\∀x:Str,x≠"__name__"->mb x=mO x
 nolimit:base.NoLimit
structure Cx where
 prog:zN
 w:AN
 K:W.Frag
 mg:Str->Option rN
 base:EN
 A:BN
 N:List Str
 s₀:tN
 H₀:Hp
 env:NP
 outer:List NP
 stack:List NP
 ex:List uN
 fn:Str->Bool
 calm:Bool
 pn:List (uN×TN)
 xe:rN->tN->Prop
def sg(l:List NP):List uN:=l.filterMap (·.frame)
abbrev Cx.fs(X:Cx):List uN:=sg X.outer
def nn(g:ZN)(x:Str):Prop:=g.names.lookup x=qN .local\/g.names.lookup x=qN .cell\/g.names.lookup x=qN .free
def Loc(g:ZN)(x:Str):Prop:=g.names.lookup x=qN .local\/g.names.lookup x=qN .cell
def YC(env:NP)(h:EN)(m:Str->Option rN)(x:Str)(u:rN):Prop:=
 (env.kindOf x=qN .local/\m x=qN u)\/((env.kindOf x=qN .cell\/env.kindOf x=qN .free)/\∃c,env.cells.lookup x=qN c/\h.IsCell c (qN u))
structure Cx.Ok(X:Cx):Prop where
 mod:Mod X.K X.mg X.base
 kind:X.env.scope.kind=.function
 glob:X.env.globals=HN
 blt:X.env.builtins=WP
 above:X.s₀.heap.objs.size<=X.env.locals
 inj:∀x y c,X.env.cells.lookup x=qN c->X.env.cells.lookup y=qN c->x=y
 has:∀x,(X.env.kindOf x=qN .cell\/X.env.kindOf x=qN .free)->∃c,X.env.cells.lookup x=qN c
 xp:∀x c,X.fn x=wN->X.env.cells.lookup x=qN c->X.s₀.heap.objs.size<=c
 hd:X.calm=wN->X.A.handled=sN
 frames:X.A.frames=qN X.stack
 mr:X.stack=X.outer\/(X.stack=X.env::X.outer/\X.env.frame=qN X.env.locals)
 rn:∀b∈X.ex,b≠X.env.locals/\∀x c,X.env.cells.lookup x=qN c->c≠b
 bs:∀b o,X.base.get? b=qN o->X.s₀.heap.get? b=qN o/\X.H₀ b=sN
 Vh:X.base.objs.size<=X.s₀.heap.objs.size
 Tg:∀b o,X.base.get? b=qN o->b∉X.ex
 Ug:∀b∈X.ex,b∉X.fs
 Ld:X.s₀.heap.FunFrames X.base X.outer
 Sl:∀b∈X.fs,X.H₀ b=sN
structure Inv(X:Cx)(pins:List (uN×TN))(σ:List (Option V))(H:Hp)(s:tN):Prop where
 ok:X.Ok
 os:s.os=X.s₀.os
 bare:pO s.gens
 base:Un X.fs X.ex X.H₀ H X.s₀.heap s.heap
 loc:∃m,s.heap.Ns X.env.locals m/\∀(i:Nat)(x:Str)(v:V),X.N[i]?=qN x->σ[i]?=qN (qN v)->nn X.env.scope x->∃u,Aa v u/\YC X.env s.heap m x u
 cell:∀x c,X.env.cells.lookup x=qN c->∃v,s.heap.IsCell c v
 free:H X.env.locals=sN
 ub:∀x c,X.env.cells.lookup x=qN c->H c=sN
 pin:∀p∈X.pn++pins,s.heap.get? p.1=qN p.2/\H p.1=sN/\p.1≠X.env.locals/\p.1∉X.fs/\∀v,p.2.data≠.cell v
 ya:yc X.prog X.w H s.heap
 len:σ.length=X.N.length
section
variable{X:Cx}{pins:List (uN×TN)}{σ:List (Option V)}{H H':Hp}{s:tN}{h':EN}
def Cx.Ok.tu(ok:X.Ok)(e:X.base.get? b=qN o):b∉X.fs:=λg=>by
 have:=(ok.Ld.mem g).1
 simp_all
def Inv.bs(I:Inv X pins σ H s):∀b o,X.base.get? b=qN o->s.heap.get? b=qN o/\H b=sN:=λb o e=>
 ⟨I.base.keep b o (I.ok.bs b o e).1 (I.ok.bs b o e).2 (I.ok.tu e) (I.ok.Tg b o e),I.base.free b o (I.ok.bs b o e).1 (I.ok.bs b o e).2 (I.ok.Tg b o e)⟩
def Inv.bk(I:Inv X pins σ H s):∀b o,X.base.get? b=qN o->s.heap.get? b=qN o:=λb o e=>(I.bs b o e).1
def Inv.mod(I:Inv X pins σ H s):Mod X.K X.mg X.base:=I.ok.mod
def Inv.Sd(I:Inv X pins σ H s):X.K.In s.heap:=I.ok.mod.lr.keeps I.bk
def Inv.lt(I:Inv X pins σ H s):X.env.locals<s.heap.objs.size:=by obtain⟨_,g,_⟩:=I.loc;exact g.lt
def Inv.sz(I:Inv X pins σ H s):X.s₀.heap.objs.size<=s.heap.objs.size:=gb I.ok.above (vj I.lt)
def Inv.uu(I:Inv X pins σ H s){a:uN}(h:s.heap.objs.size<=a):a∉X.fs:=λg=>by
 obtain⟨_,o,r,_⟩:=I.ok.Ld.mem g;exact absurd (ed (Na r) (gb I.sz h)) (Sh _)
def Inv.vn(I:Inv X pins σ H s):∀x c,X.env.cells.lookup x=qN c->c≠X.env.locals:=λx c e z=>by
 obtain⟨v,o,g,r⟩:=I.cell x c e;obtain⟨m,⟨J,es,ep,O,U,_⟩,_⟩:=I.loc
 simp_all
def Inv.Ld(I:Inv X pins σ H s):s.heap.FunFrames X.base X.outer:=by
 have all:∀(l:List NP),(∀b∈sg l,b∈X.fs)->X.s₀.heap.FunFrames X.base l->s.heap.FunFrames X.base l:=by
  intro l;induction l with
  |nil=>intro _ _;trivial
  |cons env d0 O=>
   intro J U;obtain⟨Y,⟨L,o,a0,e0,b0,f0⟩,c0⟩:=U;have g:L∈X.fs:=J L (by unfold sg;simp_all);obtain⟨g0,e⟩:=I.base.slot L o b0 (I.ok.Sl L g) g λz=>I.ok.Ug L z g
   exact⟨Y,by simp[*],O (λb r=>J b (by unfold sg;rw[wh,a0];exact Rh _ r)) c0⟩
 exact all X.outer (λ_ r=>r) I.ok.Ld
def Inv.stack(I:Inv X pins σ H s):s.heap.FunFrames X.base X.stack:=by
 rcases I.ok.mr with e|⟨e,g⟩
 ·rw[e];exact I.Ld
 ·rw[e];obtain⟨m,r,_⟩:=I.loc;refine .cons (by rw[I.ok.kind];decide) g r ?_ I.Ld;exact Gk (gb I.ok.Vh I.ok.above)
def Inv.Ce(I:Inv X pins σ H s):∀b∈sg X.stack,b∈X.env.locals::X.fs:=λb g=>by
 rcases I.ok.mr with e|⟨e,r⟩
 ·simp_all
 ·rw[e]at g;unfold sg at g;rw[wh,r]at g;exact g
def Inv.De(I:Inv X pins σ H s):∀b∈sg X.stack,H b=sN:=λb hb=>by
 rcases rc.mp (I.Ce b hb)with e|hb
 ·rw[e];exact I.free
 ·obtain⟨_,o,g,_⟩:=I.ok.Ld.mem hb;exact I.base.free b o g (I.ok.Sl b hb) λz=>I.ok.Ug b z hb
def Inv.step{ch:List uN}(I:Inv X pins σ H s)
  (Y:∀b∈ch,(b∈X.ex\/X.s₀.heap.objs.size<=b)/\b≠X.env.locals/\(∀x c,X.env.cells.lookup x=qN c->c≠b)/\∀p∈X.pn++pins,p.1≠b)
  (keep:∀b o,b≠X.env.locals->b∉X.fs->b∉ch->s.heap.get? b=qN o->H b=sN->h'.get? b=qN o)
  (slot:∀b o,b≠X.env.locals->b∈X.fs->b∉ch->s.heap.get? b=qN o->H b=sN->∃c0,h'.get? b=qN {o with slots:=c0})(free:∀b o,b∉ch->s.heap.get? b=qN o->H b=sN->H' b=sN)
  (there:∀b o,b∉ch->s.heap.get? b=qN o->∃U,h'.get? b=qN U)
  (tups:∀b xs,H b=qN (.tup xs)->H' b=qN (.tup xs))(frzs:∀b o u,H b=qN (.Hb o u)->H' b=qN (.Hb o u))(tbls:∀b a0,H b=qN (.Ik a0)->∃more,H' b=qN (.Ik (a0++more)))
  (ns:∀m,s.heap.Ns X.env.locals m->h'.Ns X.env.locals m)(i0:yc X.prog X.w H' h')(j0:pO g'):
  Inv X pins σ H' {s with heap:=h',gens:=g',drawn:=d',toks:=t'}:=by
 have e0:∀b o,X.s₀.heap.get? b=qN o->b≠X.env.locals:=λb o e=>nb (ed (Na e) I.ok.above)
 have b0:∀b o,X.s₀.heap.get? b=qN o->b∉X.ex->b∉ch:=λb o e g J=>by
  rcases(Y b J).1 with z|z
  ·exact g z
  ·exact absurd (ed (Na e) z) (Sh _)
 have k0:∀x c,X.env.cells.lookup x=qN c->∀v,s.heap.IsCell c v->h'.IsCell c v:=λx c e v⟨o,O,d0⟩=>by
  have f0:c∉ch:=λz=>(Y c z).2.2.1 x c e rfl
  by_cases g0:c∈X.fs
  ·obtain⟨c0,q⟩:=slot c o (I.vn x c e) g0 f0 O (I.ub x c e);exact⟨_,q,d0⟩
  ·exact⟨o,keep c o (I.vn x c e) g0 f0 O (I.ub x c e),d0⟩
 refine⟨I.ok,I.os,j0,⟨λb o e n J g=>?_,λb o e n J g=>?_,λb o e n g=>?_,λb o e g=>?_,λb xs e=>tups b xs (I.base.tups b xs e),λb o xs e=>frzs b o xs (I.base.frzs b o xs e),λb a0 e=>?_⟩,?_,λx c e=>?_,?_,λx c e=>?_,λp l0=>?_,i0,I.len⟩
 ·exact keep b o (e0 b o e) J (b0 b o e g) (I.base.keep b o e n J g) (I.base.free b o e n g)
 ·obtain⟨c0,r⟩:=I.base.slot b o e n J g;obtain⟨q0,h0⟩:=slot b _ (e0 b o e) J (b0 b o e g) r (I.base.free b o e n g)
  grind
 ·obtain⟨U,r⟩:=I.base.there b o e g;exact free b U (b0 b o e g) r (I.base.free b o e n g)
 ·obtain⟨U,r⟩:=I.base.there b o e g;exact there b U (b0 b o e g) r
 ·obtain⟨r0,r⟩:=I.base.tbls b a0 e
  grind
 ·refine ea1 ?_ I.loc;rintro m m0 n0;refine⟨m,ns m m0,λi x v r h0 o0=>?_⟩;obtain⟨u,p0,l⟩:=n0 i x v r h0 o0;refine⟨u,p0,?_⟩;rcases l with l|⟨k,c,e,z⟩
  ·exact .inl l
  ·exact .inr ⟨k,c,e,k0 x c e _ z⟩
 ·obtain⟨v,z⟩:=I.cell x c e
  grind
 ·obtain⟨m,⟨o,_,_,O,_⟩,_⟩:=I.loc;exact free _ o (λz=>(Y _ z).2.1 rfl) O I.free
 ·obtain⟨v,o,O,d0⟩:=I.cell x c e;exact free c o (λz=>(Y c z).2.2.1 x c e rfl) O (I.ub x c e)
 ·refine ebF ?_ (I.pin p l0);rintro e n s0 t0 d
  grind
def Inv.un(I:Inv X pins σ H s)(u:Un X.fs [] H H' s.heap h')(O:yc X.prog X.w H' h'):Inv X pins σ H' {s with heap:=h',toks:=t'}:=by
 obtain⟨m,⟨o,es,ep,r,d0⟩,_⟩:=id I.loc;obtain⟨e0,U⟩:=u.any r I.free (by simp);exact I.step (ch:=[]) (λ_ z=>nomatch z) (λb o _ g _ e n=>u.keep b o e n g (by simp)) (λb o _ g _ e n=>u.slot b o e n g (by simp)) (λb o _ e n=>u.free b o e n (by simp)) (λb o _ e=>u.there b o e (by simp)) u.tups u.frzs u.tbls (λf0 Y=>by
  obtain⟨g0,a0,b0,J,c0⟩:=Y;rw[r]at J;cases J;exact nx7 _ a0 b0 U c0) O I.bare
def Inv.call(I:Inv X pins σ H s)(u:Un (sg X.stack) ch H H' s.heap h')(U:yc X.prog X.w H' h')(Y:pO g')
  (a0:∀b∈ch,(b∈X.ex\/X.s₀.heap.objs.size<=b)/\b≠X.env.locals/\(∀x c,X.env.cells.lookup x=qN c->c≠b)/\∀p∈X.pn++pins,p.1≠b):
  Inv X pins σ H' {s with heap:=h',gens:=g',drawn:=d',toks:=t'}:=by
 obtain⟨m,⟨o,es,ep,J,g0⟩,_⟩:=id I.loc;obtain⟨h0,r⟩:=u.any J I.free (by grind);exact I.step a0 (λb o r b0 g e n=>u.keep b o e n (λz=>(rc.mp (I.Ce b z)).elim r b0) g) (λb o _ _ g e n=>u.any e n g) (λb o g e n=>u.free b o e n g) (λb o g e=>u.there b o e g) u.tups u.frzs u.tbls (λi0 c0=>by
  obtain⟨j0,d0,e0,O,f0⟩:=c0;rw[J]at O;cases O;exact nx7 _ d0 e0 r f0) U Y
def Inv.turned(I:Inv X pins σ H s)(k:∀b o,b≠g->s.heap.get? b=qN o->h'.get? b=qN o)(f0:H g=sN)(J:g≠X.env.locals)
  (U:g∈X.ex\/X.s₀.heap.objs.size<=g)(Y:∀x c,X.env.cells.lookup x=qN c->c≠g)(a0:∀p∈X.pn++pins,p.1≠g):Inv X pins σ H {s with heap:=h',toks:=t'}:=by
 have O:∀b u,H b=qN u->b≠g:=by lia
 refine I.step (ch:=[g]) (λb b0=>?_) (by(intros;simp_all)) (λb o _ _ r e _=>⟨o.slots,k b o (λz=>r (by simp[z])) e⟩) (λ_ _ _ _ n=>n)
  (by(intros;simp_all)) (λ_ _ e=>e) (λ_ _ _ e=>e) (λb g0 e=>⟨#[],by rw[e];simp⟩) (λm c0=>?_) (λb u e=>?_) I.bare
 ·have e:b=g:=by simpa using b0
  subst e;exact⟨U,J,Y,a0⟩
 ·obtain⟨o,es,ep,d0,e0⟩:=c0;exact nx7 o es ep (k _ o (lc J) d0) e0
 ·refine(I.ya b u e).Hc (λc v r q=>k c v ?_ q) (λ_ q=>q) λ_ _ q=>q
  rcases r with z|z
  ·rw[z];exact O b u e
  ·exact O c _ z
def Inv.tok(I:Inv X pins σ H s)(t:Nat):Inv X pins σ H {s with toks:=t}:=I.un Un.refl I.ya
def Inv.kept(I:Inv X pins σ H s)(k:∀b u,s.heap.get? b=qN u->h'.get? b=qN u):Inv X pins σ H {s with heap:=h',toks:=t'}:=I.un (Un.kept k) (I.ya.kept k)
def Inv.laid{a:uN}(I:Inv X pins σ H s)(k:∀b u,s.heap.get? b=qN u->h'.get? b=qN u)(g:s.heap.objs.size<=a)(r:xc X.prog X.w (upd H a o) h' a o):
  Inv X pins σ (upd H a o) {s with heap:=h',toks:=t'}:=I.un (Un.laid k g (I.ya.fresh g)) (I.ya.laid k g r)
def Inv.write(I:Inv X pins σ H s)(g:vp (H x))(r:e=x\/H e=qN (.own x))(k:∀b u,b≠e->s.heap.get? b=qN u->h'.get? b=qN u)(J:∃u,h'.get? e=qN u)
  (O:xc X.prog X.w (upd H x o) h' x o):Inv X pins σ (upd H x o) {s with heap:=h',toks:=t'}:=I.un (Un.write g r k J) (I.ya.write g r k J O)
def Inv.ug(I:Inv X pins σ H s)(h:∀p∈g,s.heap.get? p.1=qN p.2/\H p.1=sN/\p.1≠X.env.locals/\p.1∉X.fs/\∀v,p.2.data≠.cell v):Inv X g σ H s:=
 ⟨I.ok,I.os,I.bare,I.base,I.loc,I.cell,I.free,I.ub,λp r=>(fc.mp r).elim (λz=>I.pin p (by simp_all)) (h p),I.ya,I.len⟩
def Gx{N:List Str}(g:N.Nodup){i j:Nat}(a:N[i]?=qN x)(b:N[j]?=qN x):i=j:=by
 obtain⟨O,r⟩:=rb.mp a;obtain⟨U,J⟩:=rb.mp b;exact(List.getElem_inj g).mp (r.trans J.symm)
def Hx(I:Inv X pins σ H s)(p0:X.N.Nodup)(b0:X.N[i]?=qN x)(J:Loc X.env.scope x)(q0:Aa v u)
  (h:∀s',Inv X pins (σ.set i (qN v)) H s'->(∃a,Heap.SameBut a s.heap s'.heap/\(a=X.env.locals\/X.env.cells.lookup x=qN a))->Q () s')(w0:X.fn x=wN\/X.env.scope.names.lookup x=qN .local:=by first|exact .inl rfl|exact .inr rfl|assumption):wpAny M A (storeName X.env x u) Q E s:=by
 obtain⟨m,e0,r0⟩:=id I.loc;have x0:(X.env.scope.kind==.class||(X.env.scope.kind==.module&&X.env.locals !=X.env.globals))=yN:=by rw[I.ok.kind];rfl
 have s0:i<σ.length:=by rw[I.len];exact(rb.mp b0).1
 have vn:=I.vn;have t0:∀{a:uN}{h':EN},(∃o,s.heap.get? a=qN o/\H a=sN)->Heap.SameBut a s.heap h'->yc X.prog X.w H h':=λ{a h'}y0 g b ob e=>by
  obtain⟨_,_,J0⟩:=y0;refine(I.ya b ob e).Hc (λc f0 O q=>(g.2 c ?_).trans q) (λ_ q=>q) λ_ _ q=>q
  lia
 rcases J with hk|hk
 ·refine wpAny_storeName_local hk e0 (λh' z0 g=>?_) x0;obtain⟨A0,_,_,B0,_⟩:=id e0;refine h _ ⟨I.ok,I.os,I.bare,⟨λb o e n Y J=>?_,λb o e n Y J=>?_,I.base.free,λb o e J=>?_,I.base.tups,I.base.frzs,I.base.tbls⟩,⟨_,z0,λj y g0 r U h0=>?_⟩,λy c e=>?_,I.free,I.ub,λp i0=>?_,t0 ⟨A0,B0,I.free⟩ g,by simpa using I.len⟩ (by grind)
  ·exact(g.2 b (nb (ed (Na e) I.ok.above))).trans (I.base.keep b o e n Y J)
  ·obtain⟨j0,r⟩:=I.base.slot b o e n Y J;exact⟨j0,(g.2 b (nb (ed (Na e) I.ok.above))).trans r⟩
  ·obtain⟨k0,r⟩:=I.base.there b o e J;exact⟨k0,(g.2 b (nb (ed (Na e) I.ok.above))).trans r⟩
  ·by_cases a0:j=i
   ·subst a0;rw[b0]at r;cases r;rw[Nq s0]at U;cases U;exact⟨u,q0,.inl ⟨hk,by simp⟩⟩
   ·rw[Zq (lc a0)]at U;refine ea1 ?_ (r0 j y g0 r U h0);rintro l0 m0 q;refine⟨l0,m0,?_⟩;rcases q with⟨k,e⟩|⟨k,c,e,z⟩
    ·refine .inl ⟨k,?_⟩;have:y≠x:=λe=>a0 (Gx p0 r (e▸b0))
     simp[this,e]
    ·exact .inr ⟨k,c,e,z.sameBut g (vn y c e)⟩
  ·obtain⟨f0,z⟩:=I.cell y c e;exact⟨f0,z.sameBut g (vn y c e)⟩
  ·refine ebF ?_ (I.pin p i0);rintro e n c0 n0 d;exact⟨(g.2 p.1 c0).trans e,n,c0,n0,d⟩
 ·have o0:X.fn x=wN:=by
   rcases w0 with z|z
   ·exact z
   ·rw[z]at hk;cases hk
  obtain⟨c,O⟩:=I.ok.has x (.inl hk);obtain⟨f0,z⟩:=I.cell x c O;refine wpAny_storeName_cell I.ok.kind hk O z (λh' u0 g=>?_);obtain⟨C0,D0,K0⟩:=id z;refine h {s with heap:=h'} ⟨I.ok,I.os,I.bare,⟨λb o e n Y J=>?_,λb o e n Y J=>?_,I.base.free,λb o e J=>?_,I.base.tups,I.base.frzs,I.base.tbls⟩,⟨m,e0.sameBut g (by grind),λj y g0 r U h0=>?_⟩,λy d0 e=>?_,I.free,I.ub,λp i0=>?_,t0 ⟨C0,D0,I.ub x c O⟩ g,by simpa using I.len⟩ (by grind)
  ·exact(g.2 b (nb (ed (Na e) (I.ok.xp x c o0 O)))).trans (I.base.keep b o e n Y J)
  ·obtain⟨j0,r⟩:=I.base.slot b o e n Y J;exact⟨j0,(g.2 b (nb (ed (Na e) (I.ok.xp x c o0 O)))).trans r⟩
  ·obtain⟨k0,r⟩:=I.base.there b o e J;exact⟨k0,(g.2 b (nb (ed (Na e) (I.ok.xp x c o0 O)))).trans r⟩
  ·by_cases a0:j=i
   ·subst a0;rw[b0]at r;cases r;rw[Nq s0]at U;cases U;exact⟨u,q0,.inr ⟨.inl hk,c,O,u0⟩⟩
   ·rw[Zq (lc a0)]at U;obtain⟨l0,m0,q⟩:=r0 j y g0 r U h0;refine⟨l0,m0,?_⟩;rcases q with q|⟨k,d0,e,F0⟩
    ·exact .inl q
    ·refine .inr ⟨k,d0,e,F0.sameBut g ?_⟩;rintro rfl;exact a0 (Gx p0 r (I.ok.inj _ _ _ e O▸b0))
  ·by_cases v0:d0=c
   ·subst v0;exact⟨_,u0⟩
   ·obtain⟨G0,I0⟩:=I.cell y d0 e;exact⟨G0,I0.sameBut g v0⟩
  ·refine ebF ?_ (I.pin p i0);rintro e n c0 n0 d;refine⟨(g.2 p.1 ?_).trans e,n,c0,n0,d⟩
   grind
def Ix(I:Inv X pins σ H s)(g:X.N.Nodup)(r:X.N[i]?=qN x)(J:Loc X.env.scope x)(O:Aa v u)
  (h:∀s',Inv X pins (σ.set i (qN v)) H s'->Q () s')(U:X.fn x=wN\/X.env.scope.names.lookup x=qN .local:=by first|exact .inl rfl|exact .inr rfl|assumption):wpAny M A (storeName X.env x u) Q E s:=
 Hx I g r J O (by(intros;simp_all)) U
def Inv.Jk(I:Inv X pins σ H s)(g:s'.os=s.os)(u:Un (sg X.stack) ch H H' s.heap s'.heap)(r:yc X.prog X.w H' s'.heap)(J:pO s'.gens)
  (O:∀b∈ch,(b∈X.ex\/X.s₀.heap.objs.size<=b)/\b≠X.env.locals/\(∀x c,X.env.cells.lookup x=qN c->c≠b)/\∀p∈X.pn++pins,p.1≠b):Inv X pins σ H' s':=by
 obtain⟨h',g',d',t',U⟩:=s';have e:=g;subst e;exact I.call u r J O
end
abbrev XK:=rN->Option uN->Hp->Prop
abbrev St:=List (Option V)
abbrev VK:=V->Hp->Prop
abbrev TE:=St->Hp->VK->Prop
abbrev TT:=St->Hp->(Bool->Hp->Prop)->Prop
abbrev TA:=St->Hp->(List V->Hp->Prop)->Prop
structure Wf where
 nx:St->Hp->Prop
 rt:VK
 bk:St->Hp->Prop:=λ_ _=>False
 ct:St->Hp->Prop:=λ_ _=>False
abbrev TS:=Wf->St->Hp->Prop
inductive EP(X:Cx)(pins:List (uN×TN))(σ:St)(Q:VK)(u:rN)(s':tN):Prop|mk(v H')(_:Inv X pins σ H' s')(_:Aa v u)(_:Q v H')
def TP(X:Cx)(g:List (uN×TN))(r:St)(Q:Bool->Hp->Prop)(b:Bool)(s':tN):Prop:=∃H',Inv X g r H' s'/\Q b H'
inductive AP(X:Cx)(pins:List (uN×TN))(σ:St)(Q:List V->Hp->Prop)(us:List rN)(s':tN):Prop|mk(vs H')(_:Inv X pins σ H' s')(_:Ia vs us)(_:Q vs H')
def SP(X:Cx)(r:List (uN×TN))(D:Wf)(f:Flow)(s':tN):Prop:=
 match f with
 |.next=>∃g H',Inv X r g H' s'/\D.nx g H'
 |.brk=>∃g H',Inv X r g H' s'/\D.bk g H'
 |.cont=>∃g H',Inv X r g H' s'/\D.ct g H'
 |.ret u=>∃v g H',Inv X r g H' s'/\Aa v u/\D.rt v H'
structure PE(X:Cx)(e:IN)(t:TE):Prop where
 run:∀(pins:List (uN×TN))(s:tN)(σ:St)(H:Hp)(Q:VK),Inv X pins σ H s->t σ H Q->wpAny (xN X.prog X.w) X.A (SN e X.env) (EP X pins σ Q) X.xe s
instance{X:Cx}{e:IN}{t:TE}:CoeFun (PE X e t) λ_=>∀(pins:List (uN×TN))(s:tN)(σ:St)(H:Hp)(Q:VK),Inv X pins σ H s->t σ H Q->wpAny (xN X.prog X.w) X.A (SN e X.env) (EP X pins σ Q) X.xe s:=⟨PE.run⟩
structure PT(X:Cx)(e:IN)(t:TT):Prop where
 run:∀(pins:List (uN×TN))(s:tN)(σ:St)(H:Hp)(Q:Bool->Hp->Prop),Inv X pins σ H s->t σ H Q->wpAny (xN X.prog X.w) X.A (isTrue e X.env (SN e X.env)) (TP X pins σ Q) X.xe s
instance{X:Cx}{e:IN}{t:TT}:CoeFun (PT X e t) λ_=>∀(pins:List (uN×TN))(s:tN)(σ:St)(H:Hp)(Q:Bool->Hp->Prop),Inv X pins σ H s->t σ H Q->wpAny (xN X.prog X.w) X.A (isTrue e X.env (SN e X.env)) (TP X pins σ Q) X.xe s:=⟨PT.run⟩
structure PW(X:Cx)(e:IN)(t:TT):Prop where
 run:∀(whole:fQ rN)(pins:List (uN×TN))(s:tN)(σ:St)(H:Hp)(Q:Bool->Hp->Prop),Inv X pins σ H s->t σ H Q->wpAny (xN X.prog X.w) X.A (isTrue e X.env whole) (TP X pins σ Q) X.xe s
instance{X:Cx}{e:IN}{t:TT}:CoeFun (PW X e t) λ_=>∀(whole:fQ rN)(pins:List (uN×TN))(s:tN)(σ:St)(H:Hp)(Q:Bool->Hp->Prop),Inv X pins σ H s->t σ H Q->wpAny (xN X.prog X.w) X.A (isTrue e X.env whole) (TP X pins σ Q) X.xe s:=⟨PW.run⟩
def PW.pt(h:PW X e t):PT X e t:=⟨h.run _⟩
structure PA(X:Cx)(es:List IN)(t:TA):Prop where
 run:∀(pos:oO)(pins:List (uN×TN))(s:tN)(σ:St)(H:Hp)(Q:List V->Hp->Prop),Inv X pins σ H s->t σ H Q->wpAny (xN X.prog X.w) X.A (JP (XN pos (DN es X.env))) (AP X pins σ Q) X.xe s
instance{X:Cx}{es:List IN}{t:TA}:CoeFun (PA X es t) λ_=>∀(pos:oO)(pins:List (uN×TN))(s:tN)(σ:St)(H:Hp)(Q:List V->Hp->Prop),Inv X pins σ H s->t σ H Q->wpAny (xN X.prog X.w) X.A (JP (XN pos (DN es X.env))) (AP X pins σ Q) X.xe s:=⟨PA.run⟩
structure PS(X:Cx)(st:aO)(t:TS):Prop where
 run:∀(pins:List (uN×TN))(s:tN)(σ:St)(H:Hp)(D:Wf),Inv X pins σ H s->t D σ H->wpAny (xN X.prog X.w) X.A (exec st X.env) (SP X pins D) X.xe s
instance{X:Cx}{st:aO}{t:TS}:CoeFun (PS X st t) λ_=>∀(pins:List (uN×TN))(s:tN)(σ:St)(H:Hp)(D:Wf),Inv X pins σ H s->t D σ H->wpAny (xN X.prog X.w) X.A (exec st X.env) (SP X pins D) X.xe s:=⟨PS.run⟩
structure Ee(X:Cx)(st:List aO)(t:TS):Prop where
 run:∀(pins:List (uN×TN))(s:tN)(σ:St)(H:Hp)(D:Wf),Inv X pins σ H s->t D σ H->wpAny (xN X.prog X.w) X.A (execs st X.env) (SP X pins D) X.xe s
instance{X:Cx}{st:List aO}{t:TS}:CoeFun (Ee X st t) λ_=>∀(pins:List (uN×TN))(s:tN)(σ:St)(H:Hp)(D:Wf),Inv X pins σ H s->t D σ H->wpAny (xN X.prog X.w) X.A (execs st X.env) (SP X pins D) X.xe s:=⟨Ee.run⟩
def xa(h:wpAny M A t Q E s)(g:∀a s,Q a s->r a s):wpAny M A t r E s:=zd h g λ_ _ x=>x
section
variable{X:Cx}
inductive Fj(i:Nat)(σ:L2.St)(H:Hp)(Q:VK):Prop|mk(v)(_:σ[i]?=qN (qN v))(_:Q v H)
def tC(v:V):TE:=λ_ H Q=>Q v H
def Jx{pos:oO}(O:X.N[i]?=qN x)(U:nn X.env.scope x)(g:(x==("__debug__":Str))=yN:=by decide)(Y:(x==("__classdict__":Str))=yN:=by decide):PE X (.Name x pos) (Fj i):=by
 constructor;intro a0 s b0 H Q I h;obtain⟨v,e,h⟩:=h;obtain⟨m,c0,d0⟩:=I.loc;obtain⟨u,e0,l⟩:=d0 i x v O e U;have fin:EP X a0 b0 Q u s:=⟨v,H,I,e0,h⟩;rcases l with⟨hk,f0⟩|⟨hk,c,r,J⟩
 ·exact wpAny_Name (wpAny_loadName_local I.ok.kind hk c0 f0 fin) g
 ·rcases hk with hk|hk
  ·exact wpAny_Name (wpAny_loadName_cell I.ok.kind hk r J fin) g
  ·exact wpAny_Name (wpAny_loadName_free I.ok.kind hk r J fin Y) g
def la{i j pos}:PE X (.Constant (.int i) j pos) (tC (.int i)):=⟨λ_ _ _ H _ I h=>wpAny_Constant_int ⟨.int i,H,I.tok _,⟨_,rfl⟩,h⟩⟩
def vg{b j pos}:PE X (.Constant (.bool b) j pos) (tC (.bl b)):=⟨λ_ _ _ H _ I h=>Constant_bool ⟨.bl b,H,I,rfl,h⟩⟩
def yh{j pos}:PE X (.Constant .none j pos) (tC .Ra):=⟨λ_ _ _ H _ I h=>Constant_none ⟨.Ra,H,I,rfl,h⟩⟩
def Ib{x j pos}:PE X (.Constant (.str x) j pos) (tC (.str x)):=⟨λ_ _ _ H _ I h=>Calls.Constant_str ⟨.str x,H,I.tok _,⟨_,rfl⟩,h⟩⟩
def Gl(X:Cx)(x:Str):Prop:=X.env.kindOf x=qN .globalImplicit
def nr{g:St}(I:Inv X U g H s)(r:Gl X x)(J:X.mg x=qN u)(h:Q u s)
  (O:(x==("__debug__":Str))=yN:=by decide):wpAny (xN X.prog X.w) X.A (SN (.Name x pos) X.env) Q E s:=
 Calls.Name_function_global I.ok.kind r (Calls.loadGlobal_global (by rw[I.ok.glob];exact I.mod.glob.keeps I.bk) J h) O
def Xf{E:rN->tN->Prop}{g:St}{pos:oO}(I:Inv X Y g H s)(r:Gl X x)(J:X.mg x=sN)(a0:mO x=qN u)(h:Q u s)
  (b0:x≠"__name__":=by decide)(O:(x==("__debug__":Str))=yN:=by decide):wpAny (xN X.prog X.w) X.A (SN (.Name x pos) X.env) Q E s:=by
 obtain⟨c0,U,d0⟩:=I.mod.blt;exact Calls.Name_function_global I.ok.kind r (Calls.loadGlobal_builtin (by rw[I.ok.glob];exact I.mod.glob.keeps I.bk) J (by rw[I.ok.blt];exact U.keeps I.bk) (by simp[*]) h) O
def Xi(g:Gl X x)(r:X.mg x=qN u)(J:Aa v u)(O:(x==("__debug__":Str))=yN:=by decide):PE X (.Name x pos) (tC v):=
 ⟨λ_ _ _ H _ I h=>nr I g r ⟨v,H,I,J,h⟩ O⟩
def ZC{pos:oO}(g:Gl X x)(r:X.mg x=sN)(J:mO x=qN u)(O:Aa v u)(U:x≠"__name__":=by decide)(Y:(x==("__debug__":Str))=yN:=by decide):PE X (.Name x pos) (tC v):=
 ⟨λ_ _ _ H _ I h=>Xf I g r J ⟨v,H,I,O,h⟩ U Y⟩
variable{a b:IN}{ta tb:TE}{pos:oO}
structure PC(X:Cx)(op:CmpOp)(a b:IN)(t:TE):Prop where
 run:∀(pins:List (uN×TN))(s:tN)(σ:St)(H:Hp)(Q:VK),Inv X pins σ H s->t σ H Q->
  wpAny (xN X.prog X.w) X.A (SN a X.env) (λv Tl=>wpAny (xN X.prog X.w) X.A (SN b X.env) (λu Ul=>wpAny (xN X.prog X.w) X.A (LN op v u) (EP X pins σ Q) X.xe Ul) X.xe Tl) X.xe s
instance{X:Cx}{op:CmpOp}{a b:IN}{t:TE}:CoeFun (PC X op a b t) λ_=>∀(pins:List (uN×TN))(s:tN)(σ:St)(H:Hp)(Q:VK),Inv X pins σ H s->t σ H Q->
  wpAny (xN X.prog X.w) X.A (SN a X.env) (λv Tl=>wpAny (xN X.prog X.w) X.A (SN b X.env) (λu Ul=>wpAny (xN X.prog X.w) X.A (LN op v u) (EP X pins σ Q) X.xe Ul) X.xe Tl) X.xe s:=⟨PC.run⟩
def tB(t:TE):TT:=λg H Q=>t g H λx r=>∃c,x=.bl c/\Q c r
def aD(h:PC X op a b t)(g:wO op b=yN:=by first|exact c0 _ (by decide) (by decide)|rfl):PT X (.Compare a [op] [b] pos) (tB t):=by
 constructor;intro r s J H Q I O;refine wpAny_isTrue_Compare1 (xa (h r s J H _ I O) λv d0 g=>xa g λu e0 U=>xa U ?_) g;rintro c f0⟨x,Y,a0,b0,q1⟩;obtain⟨d,rfl,q⟩:=q1;cases b0;exact Al ⟨Y,a0,q⟩
def Kk{e:IN}{t:TE}(h:PE X e t)(r:∀g,isTrue e X.env g=(do let v<-g;IP e.pos;rP [v] (truthy v)):=by intro _;rfl):PT X e (tB t):=by
 constructor;intro J s O H Q I U;refine isTrue_plain (xa (h J s O H _ I U) ?_) (r _);rintro v c0⟨x,Y,a0,b0,q1⟩;obtain⟨d,rfl,q⟩:=q1;cases b0;exact Al ⟨Y,a0,q⟩
variable{tA pr:TT}{rest:List IN}
def bD(t u:TT):TT:=λg H Q=>t g H λc r=>if c=wN then u g r Q else Q yN r
def cD(t u:TT):TT:=λg H Q=>t g H λc r=>if c=wN then Q wN r else u g r Q
def dD(t:TT):TT:=λg H Q=>t g H λc r=>Q (!c) r
def vu(g:PT X a tA):PW X (.BoolOp .And [a] pos) tA:=by
 constructor;intro O r s J H Q I h;refine isTrue_and (xa (g r s J H Q I h) λc U e=>?_);cases c with
 |true=>exact isTrue_and_nil e
 |false=>exact e
def eD(g:PT X a tA):PW X (.BoolOp .Or [a] pos) tA:=by
 constructor;intro O r s J H Q I h;refine isTrue_or (xa (g r s J H Q I h) λc U e=>?_);cases c with
 |false=>exact isTrue_or_nil e
 |true=>exact e
def wu(U:PT X a tA)(Y:PW X (.BoolOp .And (b::rest) pos) pr):PW X (.BoolOp .And (a::b::rest) pos) (bD tA pr):=by
 constructor;intro a0 g s r H Q I h;refine isTrue_and (xa (U g s r H _ I h) ?_);rintro c b0;refine ea1 ?_;rintro J O q1;cases c with
 |true=>exact Y a0 g b0 r J Q O q1
 |false=>exact⟨J,O,q1⟩
def fD(U:PT X a tA)(Y:PW X (.BoolOp .Or (b::rest) pos) pr):PW X (.BoolOp .Or (a::b::rest) pos) (cD tA pr):=by
 constructor;intro a0 g s r H Q I h;refine isTrue_or (xa (U g s r H _ I h) ?_);rintro c b0;refine ea1 ?_;rintro J O q1;cases c with
 |true=>exact⟨J,O,q1⟩
 |false=>exact Y a0 g b0 r J Q O q1
def wn(g:PT X a tA):PT X (.UnaryOp .Not a pos) (dD tA):=by
 constructor;intro r s J H Q I h;exact isTrue_not (g r s J H (λc O=>Q (!c) O) I h)
inductive gD(tb:TE)(σ:L2.St)(Q:VK)(x:V)(H1:Hp):Prop|mk(c)(_:x=.bl c)(_:if c=wN then Q (.bl wN) H1 else tb σ H1 Q)
def hD(ta tb:TE):TE:=λg H Q=>ta g H (gD tb g Q)
def xu{op}(h:PE X a t):PE X (.BoolOp op [a] pos) t:=⟨λg s r H Q I J=>BoolOp_one (h g s r H Q I J)⟩
def yu(U:PE X a ta)(Y:PE X (.BoolOp .Or (b::rest) pos) tb):PE X (.BoolOp .Or (a::b::rest) pos) (hD ta tb):=by
 constructor;intro g s r H Q I h;refine BoolOp_or (xa (U g s r H _ I h) ?_);rintro v a0⟨x,J,O,b0,q1⟩;obtain⟨c,rfl,q1⟩:=q1;cases b0;refine Al ?_;cases c with
 |false=>exact Y g a0 r J Q O q1
 |true=>exact⟨.bl wN,J,O,rfl,q1⟩
def Kx(t:TT)(ta tb:TE):TE:=λg H Q=>t g H λc r=>if c=wN then ta g r Q else tb g r Q
def qr(Y:PT X c tA)(a0:PE X a ta)(b0:PE X b tb):PE X (.IfExp c a b pos) (Kx tA ta tb):=by
 constructor;intro g s r H Q I h;refine wpAny_IfExp (xa (Y g s r H _ I h) ?_);rintro d J;refine ea1 ?_;rintro O U q1;cases d with
 |true=>exact a0 g J r O Q U q1
 |false=>exact b0 g J r O Q U q1
end
def ca(K:W.Frag)(H:Hp)(a:uN)(xs:List V):Prop:=
 Rd H a (.lst xs)\/
  ∃(o:TN)(g:Array rN)(n:Nat),K.lookup a=qN o/\o.cls=.type "list"/\o.dict=sN/\o.data=.seq g n/\g.size<=vN/\Ia xs g.toList
def oa(K:W.Frag)(H:Hp)(a:uN)(xs:List V):Prop:=
 Rd H a (.tup xs)\/
  ∃(o:TN)(g:Array rN)(n:Nat),K.lookup a=qN o/\o.cls=.type "tuple"/\o.data=.seq g n/\g.size<=vN/\Ia xs g.toList
def iD:rN->Option V
 |.none=>qN .Ra
 |.bool b=>qN (.bl b)
 |.int i _=>qN (.int i)
 |.str x _=>qN (.str x)
 |.bytes b _=>qN (.Sg b)
 |.float b _=>qN (.mn b)
 |.ref a=>qN (.ref a)
 |.type n=>qN (.ty n)
 |_=>sN
def Aa.abs(r:Aa x u):iD u=qN x:=by
 cases x with
 |Ra=>cases r;rfl
 |bl _=>cases r;rfl
 |int _=>obtain⟨t,rfl⟩:=r;rfl
 |str _=>obtain⟨t,rfl⟩:=r;rfl
 |Sg _=>obtain⟨t,rfl⟩:=r;rfl
 |mn _=>obtain⟨t,rfl⟩:=r;rfl
 |ref _=>cases r;rfl
 |ty _=>cases r;rfl
def Aa.inj(r:Aa x u)(q:Aa y u):x=y:=Ed (r.abs.symm.trans q.abs)
def Ia.inj:∀{xs ys:List V}{us:List rN},Ia xs us->Ia ys us->xs=ys:=by
 intro _ ys _ h;induction h generalizing ys with
 |nil=>rintro(_|_);rfl
 |cons g t r=>rintro(_|⟨J,t'⟩);rw[g.inj J,r t']
section
variable{X:Cx}{pins:List (uN×TN)}{σ:St}{H:Hp}{s:tN}{a:uN}{xs ys:List V}
def ca.of{K:W.Frag}(h:H a=qN (.lst xs)):ca K H a xs:=.inl (.inl h)
def oa.of{K:W.Frag}(h:H a=qN (.tup xs)):oa K H a xs:=.inl (.inl h)
def Inv.list(I:Inv X pins σ H s)(h:ca X.K H a xs):∃g:List rN,Ia xs g/\PlainL s.heap a g.toArray/\xs.length<=vN:=by
 rcases h with h|⟨o,g,n,J,O,U,Y,hz,r⟩
 ·refine eb3 ?_ (h.ok I.ya);rintro z g n r e;exact⟨g,r,nx6 _ n e rfl rfl rfl,z⟩
 ·refine⟨g.toList,r,nx6 o n (I.Sd a o J) O U (by simpa using Y),?_⟩;have e:=r.length
  simp[*]
def Inv.tuple(I:Inv X pins σ H s)(h:oa X.K H a xs):∃g:List rN,Ia xs g/\IsTup s.heap a g.toArray/\xs.length<=vN:=by
 rcases h with h|⟨o,g,n,J,O,U,hz,r⟩
 ·obtain⟨z,g,r,p⟩:=h.ok I.ya;exact⟨g,r,p,z⟩
 ·refine⟨g.toList,r,nx5 o (I.Sd a o J) O n (by simpa using U),?_⟩;have e:=r.length
  grind
def Inv.Yd(I:Inv X pins σ H s)(h:ca X.K H a xs)(h':ca X.K H a ys):xs=ys:=by
 obtain⟨r,J,⟨o,n,e,_,_,d⟩,_⟩:=I.list h;obtain⟨its',O,⟨Y,a0,g,_,_,d'⟩,_⟩:=I.list h';rw[e]at g;cases g;rw[d]at d';injection d' with U _;have:r=its':=by simpa using Vb Array.toList U
 subst this;exact J.inj O
end
abbrev Cx.Md(X:Cx)(E:rN->tN->Prop):Cx:={X with xe:=E}
abbrev Cx.Wh(X:Cx):Cx:=X.Md λ_ _=>False
def Cx.Ok.Md{X:Cx}(ok:X.Ok)(E:rN->tN->Prop):(X.Md E).Ok:=
 ⟨ok.mod,ok.kind,ok.glob,ok.blt,ok.above,ok.inj,ok.has,ok.xp,ok.hd,ok.frames,ok.mr,ok.rn,ok.bs,ok.Vh,ok.Tg,ok.Ug,ok.Ld,ok.Sl⟩
def Cx.Ok.Ob{X:Cx}(ok:(X.Md E).Ok):X.Ok:=
 ⟨ok.mod,ok.kind,ok.glob,ok.blt,ok.above,ok.inj,ok.has,ok.xp,ok.hd,ok.frames,ok.mr,ok.rn,ok.bs,ok.Vh,ok.Tg,ok.Ug,ok.Ld,ok.Sl⟩
section
variable{X:Cx}{pins:List (uN×TN)}{σ:St}{H:Hp}{s:tN}{E:rN->tN->Prop}
def Inv.Md(I:Inv X pins σ H s)(E:rN->tN->Prop):Inv (X.Md E) pins σ H s:=⟨I.ok.Md E,I.os,I.bare,I.base,I.loc,I.cell,I.free,I.ub,I.pin,I.ya,I.len⟩
def Inv.Ob(I:Inv (X.Md E) pins σ H s):Inv X pins σ H s:=⟨I.ok.Ob,I.os,I.bare,I.base,I.loc,I.cell,I.free,I.ub,I.pin,I.ya,I.len⟩
def SP.Ob(h:SP (X.Md E) pins D f s'):SP X pins D f s':=by
 cases f with
 |next=>obtain⟨g,H',I,q⟩:=h;exact nx4 g H' I.Ob q
 |brk=>obtain⟨g,H',I,q⟩:=h;exact nx4 g H' I.Ob q
 |cont=>obtain⟨g,H',I,q⟩:=h;exact nx4 g H' I.Ob q
 |ret u=>obtain⟨v,g,H',I,r,q⟩:=h;exact nx16 v g H' I.Ob r q
def PE.Wh(h:PE X.Wh e t):PE X e t:=⟨λpins s σ H Q I g=>
 zd (h pins s σ H Q (I.Md _) g) (by rintro _ _⟨v,H',r,J,q⟩;exact⟨v,H',r.Ob,J,q⟩) (by(intros;simp_all))⟩
def PT.Wh(h:PT X.Wh e t):PT X e t:=⟨λpins s σ H Q I g=>
 zd (h pins s σ H Q (I.Md _) g) (by rintro _ _⟨H',r,q⟩;exact⟨H',r.Ob,q⟩) (by grind)⟩
def Ee.Wh{st:List aO}(h:Ee X.Wh st t):Ee X st t:=⟨λpins s σ H D I g=>
 zd (h pins s σ H D (I.Md _) g) (λ_ _ q=>q.Ob) (by grind)⟩
end
section
variable{X:Cx}{st:aO}{rest:List aO}{t u:TS}{e:IN}{te:TE}{pos:oO}
def jD:TS:=λD g H=>D.nx g H
def qa(t u:TS):TS:=λD g H=>t {D with nx:=u D} g H
def pc:Ee X [] jD:=⟨λ_ _ g H _ I h=>FO (nx4 g H I h)⟩
def pa(r:PS X st t)(J:Ee X rest u):Ee X (st::rest) (qa t u):=by
 constructor;intro g s O H D I h;refine xP (xa (r g s O H {D with nx:=u D} I h) λf U q=>?_);cases f with
 |next=>
  revert q;refine eaA ?_;rintro Y H' a0 q;exact J g U Y H' D a0 q
 |ret v=>exact q
 |brk=>exact q
 |cont=>exact q
def ma(g:PS X st t):Ee X [st] t:=by
 constructor;intro r s J H D I h;refine xP (xa (g r s J H D I h) λf O q=>?_);cases f with
 |next=>exact FO q
 |ret v=>exact q
 |brk=>exact q
 |cont=>exact q
def Inv.quiet{g:St}(I:Inv X r g H s):interactive X.env=yN:=by simp[interactive,I.ok.kind]
def kD(te:TE):TS:=λD g H=>te g H λ_ r=>D.nx g r
def Nd(r:PE X e te)(J:aP e sN pos.line X.env=pure yN:=by rfl):PS X (.Expr e pos) (kD te):=by
 constructor;intro O s g H D I h;exact wpAny_Expr_any (xa (r O s g H _ I h) (by rintro v a0⟨x,U,Y,b0,q1⟩;exact nx4 g U Y q1)) I.quiet J
def lD(te:TE):TS:=λD g H=>te g H D.rt
def Ga(r:PE X e te):PS X (.Return (qN e) pos) (lD te):=by
 constructor;intro J s g H D I h;exact wpAny_Return_some (xa (r J s g H _ I h) (by rintro v a0⟨x,O,U,Y,q1⟩;exact nx16 x g O U Y q1))
def zc(c:TT)(t u:TS):TS:=λD g H=>c g H λb r=>if b=wN then t D g r else u D g r
def qc(Y:PT X c a0)(b0:Ee X a t)(c0:Ee X b u):PS X (.If c a b pos) (zc a0 t u):=by
 constructor;intro g s r H D I h;refine wpAny_If (xa (Y g s r H _ I h) ?_);rintro d J⟨O,U,q1⟩;cases d with
 |true=>exact b0 g J r O D U q1
 |false=>exact c0 g J r O D U q1
def Xh:TS:=λ_ _ _=>False
def mD:PS X st Xh:=⟨λ_ _ _ _ _ _ h=>h.elim⟩
end
abbrev TG:=V->St->Hp->(St->Hp->Prop)->Prop
abbrev Gj:=List V->St->Hp->(St->Hp->Prop)->Prop
structure PG(X:Cx)(target:IN)(t:TG):Prop where
 run:∀(pins:List (uN×TN))(s:tN)(σ:St)(H:Hp)(v:V)(u:rN)(Q:St->Hp->Prop),Inv X pins σ H s->Aa v u->t v σ H Q->
  wpAny (xN X.prog X.w) X.A (assign target X.env u) (λ_ s'=>∃qf H',Inv X pins qf H' s'/\Q qf H') X.xe s
instance{X:Cx}{target:IN}{t:TG}:CoeFun (PG X target t) λ_=>∀(pins:List (uN×TN))(s:tN)(σ:St)(H:Hp)(v:V)(u:rN)(Q:St->Hp->Prop),Inv X pins σ H s->Aa v u->t v σ H Q->
  wpAny (xN X.prog X.w) X.A (assign target X.env u) (λ_ s'=>∃qf H',Inv X pins qf H' s'/\Q qf H') X.xe s:=⟨PG.run⟩
structure Vl(X:Cx)(ts:List IN)(t:Gj):Prop where
 run:∀(pins:List (uN×TN))(s:tN)(σ:St)(H:Hp)(vs:List V)(us:List rN)(Q:St->Hp->Prop),Inv X pins σ H s->Ia vs us->t vs σ H Q->
  wpAny (xN X.prog X.w) X.A (assignInOrder ((hO ts X.env).map (·.2)) us) (λ_ s'=>∃qf H',Inv X pins qf H' s'/\Q qf H') X.xe s
instance{X:Cx}{ts:List IN}{t:Gj}:CoeFun (Vl X ts t) λ_=>∀(pins:List (uN×TN))(s:tN)(σ:St)(H:Hp)(vs:List V)(us:List rN)(Q:St->Hp->Prop),Inv X pins σ H s->Ia vs us->t vs σ H Q->
  wpAny (xN X.prog X.w) X.A (assignInOrder ((hO ts X.env).map (·.2)) us) (λ_ s'=>∃qf H',Inv X pins qf H' s'/\Q qf H') X.xe s:=⟨Vl.run⟩
section
variable{X:Cx}{pos:oO}
def Wl(i:Nat):TG:=λv g H Q=>Q (g.set i (qN v)) H
def Lx(g:X.N.Nodup)(r:X.N[i]?=qN x)(J:Loc X.env.scope x)(O:X.fn x=wN\/X.env.scope.names.lookup x=qN .local:=by first|exact .inl rfl|exact .inr rfl|assumption):PG X (.Name x pos) (Wl i):=by
 constructor;intro a0 s b0 H v u Q I U h;exact wpAny_assign_Name (Ix I g r J U (λs' Y=>nx4 _ H Y h) O)
def nD:Gj:=λvs g H Q=>vs=[]/\Q g H
def pD(t:TG)(u:Gj):Gj:=λvs r H Q=>∃v g,vs=v::g/\t v r H λJ H'=>u g J H' Q
def ve:Vl X [] nD:=by
 constructor;intro r s g H vs us Q I J h;obtain⟨e,h⟩:=h;subst e;exact assignInOrder_nil (nx4 g H I h)
def Ub{e:IN}{es:List IN}{t:TG}{u:Gj}(J:PG X e t)(O:Vl X es u)
  (U:(hO (e::es) X.env).map (·.2)=assign e X.env::(hO es X.env).map (·.2):=by rfl):Vl X (e::es) (pD t u):=by
 constructor;intro r s Y H vs us Q I g h;revert h;refine eaA ?_;rintro v g0 a0 h;subst a0;cases g with
 |cons g b0=>
  rw[U];refine assignInOrder_cons (xa (J r s Y H _ _ _ I g h) ?_);rintro _ c0;refine eaA ?_;rintro d0 e0 f0 q1;exact O r c0 d0 e0 _ _ Q f0 b0 q1
def Mx(K:W.Frag)(n:Nat)(t:Gj):TG:=λv g H Q=>∃a xs,v=.ref a/\oa K H a xs/\xs.length=n/\t xs g H Q
def Jf{es:List IN}{k:Nat}{t:Gj}{n:Nat}(J:X.calm=wN)(h:Vl X es t)
  (O:(hO es X.env).length=n:=by rfl)(U:(hO es X.env).findIdx? (·.1)=sN:=by rfl):PG X (.Tuple es k pos) (Mx X.K n t):=by
 constructor;intro Y s a0 H v u Q I b0 g;revert g;refine eaC ?_;rintro a xs c0 d0 e0 g;subst c0;cases b0;refine ea8 ?_ (I.tuple d0);rintro i0 r f0 hz;refine assign_Tuple_tuple (I.ok.hd J) f0 (by simp[O,<-e0,r.length]) U λh' g0=>?_
 have h0:=I.kept (t':=s.toks) λb o e=>g0 b o (nb (Na e)) e
 exact h Y _ a0 H xs _ Q h0 (by simpa using r) g
def zu(r:TE)(J:TG):TS:=λD g H=>r g H λx O=>J x g O D.nx
def Nx{g e:IN}{r:TE}{J:TG}(Y:PE X e r)(a0:PG X g J)(b0:swapsWithSole [g] e pos.line X.env=pure yN:=by rfl)(c0:swappedStores [g] e X.env=pure sN:=by rfl)
  (d0:(hO [g] X.env).map (·.2)=[assign g X.env]:=by rfl):PS X (.Assign [g] e pos) (zu r J):=by
 constructor;intro O s U H D I h;refine wpAny_Assign_stores (xa (Y O s U H _ I h) ?_) b0 c0;rintro v e0⟨x,f0,g0,h0,q1⟩;rw[d0];exact xa (a0 O e0 U f0 x v _ g0 h0 q1) λ_ i0 q=>q
def qD(g:X.N.Nodup)(r:X.N[i]?=qN x)(J:Loc X.env.scope x)(O:PE X e U)(Y:aP e (qN (.Name x a0)) pos.line X.env=pure yN:=by rfl)(b0:X.fn x=wN\/X.env.scope.names.lookup x=qN .local:=by first|exact .inl rfl|exact .inr rfl|assumption):
  PS X (.Assign [.Name x a0] e pos) (zu U (Wl i)):=by
 constructor;intro c0 s d0 H D I h;refine wpAny_Assign_Name (xa (O c0 s d0 H _ I h) ?_) Y;rintro v i0⟨y,e0,f0,g0,q1⟩;exact Ix f0 g r J g0 (λj0 h0=>nx4 _ e0 h0 q1) b0
inductive rD(c:TT)(tb:TS)(D:Wf)(σ:L2.St)(H:Hp):Prop|mk(W:Nat->St->Hp->Prop)(_:(∃m,W m σ H))(_:∀m σ H,W m σ H->c σ H λb H1=>if b=wN then∃N:St->Hp->Prop,(∀qf H',N qf H'->∃m',m'<m/\W m' qf H')/\tb {D with nx:=N,ct:=N,bk:=D.nx} σ H1 else D.nx σ H1)
def Ox(d0:PassesOwn (xN X.prog X.w) X.A X.env X.xe)(j0:PT X c k0)(l0:Ee X m0 n0):PS X (.While c m0 [] pos) (rD k0 n0):=by
 constructor;intro O s o0 H D I h;obtain⟨W,⟨p0,q0⟩,turn⟩:=h;refine wpAny_While (codeAny_whileLoop (λn s'=>∃e0 H',Inv X O e0 H' s'/\W n e0 H') ?_ p0 (nx4 o0 H I q0));rintro n r0;refine eaA ?_;rintro J f0 s0 t0;refine Ml d0 (xa (j0 O r0 J f0 _ s0 (turn n J f0 t0)) ?_);rintro b u0;refine ea1 ?_;rintro g0 h0 q2;cases b with
 |true=>
  revert q2;refine ea1 ?_;rintro N i0 q2;refine Ml d0 (xa (l0 O u0 J g0 _ h0 q2) λf v0 q3=>?_);cases f with
  |next=>
   revert q3;refine eaA ?_;rintro g r U Y;refine ea1 ?_ (i0 g r Y);rintro a0 b0 c0;exact⟨a0,b0,nx4 g r U c0⟩
  |cont=>
   revert q3;refine eaA ?_;rintro g r U Y;refine ea1 ?_ (i0 g r Y);rintro a0 b0 c0;exact⟨a0,b0,nx4 g r U c0⟩
  |brk=>exact q3
  |ret v=>exact q3
 |false=>
  exact FO (nx4 J g0 h0 q2)
end
structure It where
 go:Nat->Hp->Prop
 af:Nat->Hp->V->Hp->Prop
 stop:Nat->Hp->Prop
def rf(X:Cx)(g:List (uN×TN))(H:Hp)(b:uN):Prop:=
 H b=sN/\b≠X.env.locals/\b∉X.fs/\(b∈X.ex\/X.s₀.heap.objs.size<=b)/\(∀x c,X.env.cells.lookup x=qN c->c≠b)/\∀p∈X.pn++g,p.1≠b
def Inv.sf{r:St}{b:uN}(I:Inv X J r H s)(g:s.heap.objs.size<=b)(O:H' b=sN):rf X J H' b:=by
 refine⟨O,Mi (ed I.lt g),I.uu g,.inr (gb I.sz g),λx c e z=>?_,λp U z=>?_⟩
 ·obtain⟨v,q⟩:=I.cell x c e;exact absurd (ed q.lt (by rw[z];exact g)) (Sh _)
 ·exact absurd (ed (Na (I.pin p U).1) (by rw[z];exact g)) (Sh _)
structure Yi(P:zN)(w:AN)(K:W.Frag)(tg:IN)(J:It)(fp:List uN)(it:uN)(tn:Nat->EN->Prop):Prop where
 mem:it∈fp
 obj:∀i h,tn i h->∀b∈fp,∃o,h.get? b=qN o/\∀v,o.data≠.cell v
 keep:∀i h h',tn i h->(∀b∈fp,∀o,h.get? b=qN o->h'.get? b=qN o)->tn i h'
 item:∀(X:Cx),X.prog=P->X.w=w->X.K=K->X.calm=wN->∀(i:Nat)(pins:List (uN×TN))(s:tN)(σ:St)(H:Hp)(E:rN->tN->Prop),Inv X pins σ H s->(∀b∈fp,rf X pins H b)->tn i s.heap->J.go i H->
  wpAny (xN P w) X.A (yO (.ref it)) (λr s1=>∃u,r=qN u/\
   wpAny (xN P w) X.A (JO tg (.ref it) u) (λ_ s2=>∃x H',Inv X pins σ H' s2/\Aa x u/\J.af i H x H'/\tn (i+1) s2.heap/\∀b∈fp,H' b=sN) E s1) E s
 done:∀(X:Cx),X.prog=P->X.w=w->X.K=K->X.calm=wN->∀(i:Nat)(pins:List (uN×TN))(s:tN)(σ:St)(H:Hp)(E:rN->tN->Prop),Inv X pins σ H s->(∀b∈fp,rf X pins H b)->tn i s.heap->J.stop i H->
  wpAny (xN P w) X.A (yO (.ref it)) (λr s1=>r=sN/\Inv X pins σ H s1) E s
 self:∀(A:BN)(i:Nat)(s:tN)(Q:rN->tN->Prop)(E:rN->tN->Prop),tn i s.heap->Q (.ref it) s->wpAny (xN P w) A (zO (.ref it)) Q E s
abbrev TI:=St->Hp->(It->Hp->Prop)->Prop
inductive Au(X:Cx)(pins:List (uN×TN))(σ:St)(tg:IN)(R:It->Hp->Prop)(sD:rN)(s2:tN):Prop|mk(it:uN)(fp:List uN)(tn:Nat->EN->Prop)(J:It)(H':Hp)(_:sD=.ref it)(_:Inv X pins σ H' s2)(_:Yi X.prog X.w X.K tg J fp it tn)(_:tn 0 s2.heap)(_:(∀b∈fp,rf X pins H' b))(_:R J H')
structure PI(X:Cx)(tg iter:IN)(wi:TI):Prop where
 run:∀(pins:List (uN×TN))(s:tN)(σ:St)(H:Hp)(R:It->Hp->Prop),Inv X pins σ H s->wi σ H R->
  wpAny (xN X.prog X.w) X.A (SN iter X.env) (λv s1=>wpAny (xN X.prog X.w) X.A (zO v) (Au X pins σ tg R) X.xe s1) X.xe s
instance{X:Cx}{tg iter:IN}{wi:TI}:CoeFun (PI X tg iter wi) λ_=>∀(pins:List (uN×TN))(s:tN)(σ:St)(H:Hp)(R:It->Hp->Prop),Inv X pins σ H s->wi σ H R->
  wpAny (xN X.prog X.w) X.A (SN iter X.env) (λv s1=>wpAny (xN X.prog X.w) X.A (zO v) (Au X pins σ tg R) X.xe s1) X.xe s:=⟨PI.run⟩
def yp(r:s.heap.get? J=qN o)(O:o.cls=.type n)(U:o.data=.fields vs)
    (a0:["enumerate","zip","dict_itemiterator","dict_reverseitemiterator","odict_iterator","itertools.zip_longest","itertools.pairwise"].contains n=yN)(g:Q () s):wpAny M A (JO Y (.ref J) u) Q E s:=by
  unfold JO;cases Y<;>first
    |exact ga g
    |(cases u<;>first
        |exact ga g
        | (refine ba (wpAny_load r ?_)
           rw[O,U];show wpAny M A (if(["enumerate","zip","dict_itemiterator","dict_reverseitemiterator","odict_iterator","itertools.zip_longest","itertools.pairwise"].contains n&&vs[0]?==qN (PN _))=wN then _ else _) Q E s;rw[na (by grind)];exact ga g))
def bf(K:W.Frag)(a:uN):It:=
 ⟨λi H=>∃xs x,ca K H a xs/\xs[i]?=qN x,λi H x H'=>H'=H/\∀xs,ca K H a xs->xs[i]?=qN x,λi H=>∃xs,ca K H a xs/\xs.length<=i⟩
def tD(K:W.Frag)(a:uN):It:=
 ⟨λi H=>∃xs x,oa K H a xs/\xs[i]?=qN x,λi H x H'=>H'=H/\∀xs,oa K H a xs->xs[i]?=qN x,λi H=>∃xs,oa K H a xs/\xs.length<=i⟩
def Xl(lo:Int)(n:Nat):It:=⟨λi _=>i<n,λi H x H'=>H'=H/\x=.int (lo+i),λi _=>n<=i⟩
def uD{K:W.Frag}(a g:uN):Yi P w K u0 (bf K a) [g] g (λi h=>h.IsListIter g a i)where
 mem:=by simp
 obj:=λi h st b J=>by
  have e:b=g:=by simpa using J
  subst e;revert st;refine ea8 ?_;rintro o e c d;exact(by simp_all)
 keep:=λi h h' st k=>st.at (by grind)
 item:=by
  intro X O U Y j0 i l0 s m0 H E I a0 st b0;subst O U Y;revert b0;refine eaA ?_;rintro xs x r c0;refine ea8 ?_ (I.list r);rintro n0 d0 p hz;refine ea1 ?_ (d0.get c0);rintro u o0 p0;refine ea6 ?_ (a0 g (by simp));rintro e0 f0 q0 g0 h0 i0;refine wpAny_pyNext_list_item st p.isList (by simpa using o0) λh' k0 r0=>?_
  have s0:=I.turned (t':=s.toks) (λb o J e=>(r0.2 b J).trans e) e0 f0 g0 h0 i0;refine ea8 ?_ (id k0);rintro o e c d;exact⟨u,rfl,yp e c d (by decide) (nx15 x H s0 p0 ⟨rfl,λys t0=>by rw[I.Yd t0 r];exact c0⟩ k0 (by(intros;simp_all)))⟩
 done:=by
  intro X O U Y j0 i l0 s m0 H E I a0 st b0;subst O U Y;obtain⟨xs,r,c0⟩:=b0;refine ea8 ?_ (I.list r);rintro n0 d0 p hz;refine ea6 ?_ (a0 g (by simp));rintro e0 f0 q0 g0 h0 i0;have v0:=d0.length;exact wpAny_pyNext_list_end (I.ok.hd j0) st p.isList (by simp;simp_all) λh' w0=>⟨rfl,I.turned ‹_› e0 f0 g0 h0 i0⟩
 self:=λ_ _ _ _ _ st h=>wpAny_pyIter_listiter st h
def vD{K:PySem.W.Frag}(g:uN)(lo:Int)(n:Nat):Yi P w K p0 (Xl lo n) [g] g (λi h=>IsRangeIter h g (lo+(i:Nat)*1) ((n:Int)-(i:Nat)) 1)where
 mem:=by simp
 obj:=λi h st b k0=>by
  simp_all
 keep:=by simp_all
 item:=by
  intro X r J O U i g0 s h0 H E I Y st a0;subst r J O;refine ea6 ?_ (Y g (by simp));rintro b0 c0 l0 d0 e0 f0;have W:=Walks.range (prog:=X.prog) (w:=X.w) (I.ok.hd U) g lo 1 n;refine W.item i s _ _ a0 st λv h' i0 m0 j0 n0=>?_
  obtain⟨t,rfl⟩:=m0;have o0:Inv X g0 h0 H {s with heap:=h',toks:=i0}:=I.turned (λb o k0 e=>n0 b o (by simp[*]) e) b0 c0 d0 e0 f0;refine⟨_,rfl,yp (s:={s with heap:=h',toks:=i0}) (n:="range_iterator") j0 rfl rfl (by decide) (nx15 (.int (lo+i)) H o0 ⟨t,?_⟩ ⟨rfl,rfl⟩ j0 (by grind))⟩;rw[Int.mul_one]
 done:=by
  intro X r J O U i g0 s h0 H E I Y st a0;subst r J O;refine ea6 ?_ (Y g (by simp));rintro b0 c0 l0 d0 e0 f0;exact wpAny_pyNext_range_end (I.ok.hd U) st (by have:n<=i:=a0;lia) λh' q0=>⟨rfl,I.turned (t':=s.toks) ‹_› b0 c0 d0 e0 f0⟩
 self:=λ_ _ _ _ _ st h=>wpAny_pyIter_rangeiter st h
section
variable{X:Cx}{tg:IN}
def Px(K:W.Frag)(r:TE):TI:=λJ H R=>r J H λx g=>∃a,x=.ref a/\(∃xs,ca K g a xs)/\R (bf K a) g
def Za(J:PE X l O):PI X tg l (Px X.K O):=by
 constructor;intro U s Y H R I h;refine xa (J U s Y H _ I h) ?_;rintro v r⟨x,a0,g,b0,q1⟩;revert q1;refine ea8 ?_;rintro a e⟨xs,c0⟩q;subst e;cases b0;refine ea8 ?_ (g.list c0);rintro e0 f0 p hz;refine Ql p.isList ?_;refine⟨r.heap.objs.size,[r.heap.objs.size],_,_,a0,rfl,g.kept λb o e=>Pa _ e,uD a _,⟨_,yb _ rfl,rfl,rfl⟩,λb d0=>?_,q⟩;have e:b=r.heap.objs.size:=by simpa using d0
 subst e;exact g.sf (wa _) (g.ya.fresh (wa _))
def Yh{r:St}{lo g:Int}(I:Inv X O r H s)(U:-(2^62)<=lo)(Y:lo<2^62)(a0:-(2^62)<=g)(b0:g<2^62)
  (q:R (Xl lo (g-lo).toNat) H):wpAny (xN X.prog X.w) X.A (zO (.ref s.heap.objs.size)) (Au X O r tg R) E {s with heap:=s.heap.push {cls:=.type "range",data:=.fields #[.int lo t,.int g u,.int 1 v]},toks:=c0}:=by
 refine wpAny_pyIter_range (IsRange.new ..) (small_one U Y a0 b0) ?_;have J:Inv X O r H {s with heap:=s.heap.push {cls:=.type "range",data:=.fields #[.int lo t,.int g u,.int 1 v]},toks:=c0}:=I.kept λb o e=>Pa _ e
 refine⟨(s.heap.push {cls:=.type "range",data:=.fields #[.int lo t,.int g u,.int 1 v]}).objs.size,[(s.heap.push {cls:=.type "range",data:=.fields #[.int lo t,.int g u,.int 1 v]}).objs.size],_,_,H,rfl,
  J.kept λb o e=>Pa _ e,vD _ lo (g-lo).toNat,?_,λb d0=>?_,q⟩
 ·have e0:lo+((0:Nat):Int)*1=lo:=by simp
  have f0:(((g-lo).toNat:Nat):Int)-((0:Nat):Int)=Builtin.Range.rangeSize lo g 1:=by rw[rangeSize_one];split<;>grind
  rw[e0,f0];exact yb _ rfl
 ·have e:b=(s.heap.push {cls:=.type "range",data:=.fields #[.int lo t,.int g u,.int 1 v]}).objs.size:=by simpa using d0
  subst e;exact J.sf (wa _) (J.ya.fresh (wa _))
def wD(g:TA):TI:=λr H R=>g r H λvs J=>∃j:Int,vs=[.int j]/\-(2^62)<=j/\j<2^62/\R (Xl 0 j.toNat) J
def Yl(g:Gl X "range")(r:X.mg "range"=sN)(J:PA X [a] O)(U:DN [a] X.env=[(yN,SN a X.env)]:=by rfl):PI X tg (.Call (.Name "range" p) [a] [] pos) (wD O):=by
 constructor;intro Y s a0 H R I h;refine Call_ (Xf I g r boot_range (yk (xa (J pos Y s a0 H _ I h) ?_) U rfl));rintro us f0⟨vs,g0,b0,c0,q1⟩;revert q1;refine eb1 ?_;rintro j e q1 q2 q;subst e;cases c0 with
 |cons d0 e0=>
  cases e0;obtain⟨t,rfl⟩:=d0;exact call_range_1 (Yh b0 (by simp_all) (by simp_all) q1 q2 (by simpa using q))
def Qb(U:TI)(Y:TG)(a0:TS):TS:=λD g H=>U g H λr b0=>∃W:Nat->Nat->St->Hp->Prop,(∃m,W 0 m g b0)/\∀i m g H,W i m g H->
 (r.stop i H/\D.nx g H)\/(r.go i H/\∃N:St->Hp->Prop,(∀J H',N J H'->∃O,O<m/\W (i+1) O J H')/\∀x H',r.af i H x H'->Y x g H' λc0 d0=>a0 {D with nx:=N,ct:=N,bk:=D.nx} c0 d0)
def xn(fp:List uN)(h:EN):List (uN×TN):=fp.filterMap λb=>(h.get? b).map λo=>(b,o)
def yn(g:b∈fp)(e:h.get? b=qN o):(b,o)∈xn fp h:=cn.mpr ⟨b,g,by rw[e];rfl⟩
def xD(g:p∈xn fp h):p.1∈fp/\h.get? p.1=qN p.2:=by
 obtain⟨b,r,e⟩:=cn.mp g;cases q:h.get? b with
 |none=>simp_all
 |some o=>
  grind
def Inv.pinned{g:St}(I:Inv X r g H s)(J:∀b∈fp,rf X r H b)(Y:∀b∈fp,∃o,s.heap.get? b=qN o/\∀v,o.data≠.cell v):Inv X (r++xn fp s.heap) g H s:=
 I.ug λp O=>(fc.mp O).elim (λz=>I.pin p (by simp_all)) λz=>by
  obtain⟨U,e⟩:=xD z;refine eb4 ?_ (J p.1 U);rintro a0 b0 c0 _
  grind
def Inv.Eb{g:St}(I:Inv X (r++pl) g H s):Inv X r g H s:=I.ug λp J=>I.pin p (by simp_all)
def Jb(a0:PassesOwn (xN X.prog X.w) X.A X.env X.xe)(j0:X.calm=wN)(t0:PI X tg iter u0)(v0:PG X tg w0)(g:Ee X x0 y0)
  (z0:∀x,YN iter X.env x=pure x:=by intro _;rfl):PS X (.For tg iter x0 [] pos) (Qb u0 w0 y0):=by
 constructor;intro Y s k0 H D I h;refine wpAny_For (xa (t0 Y s k0 H _ I h) λv g1 A0=>xa A0 λh1 i1 B0=>?_) z0;obtain⟨j1,fp,l0,k1,C0,e,D0,T,F0,m0,W,⟨G0,I0⟩,turn⟩:=B0;subst e;have f0:∀{H':Hp},(∀b∈fp,H' b=sN)->∀b∈fp,rf X Y H' b:=λJ0 b g=>⟨J0 b g,(m0 b g).2⟩
 refine codeAny_forLoop_any (λn s'=>∃i b0 H',Inv X Y b0 H' s'/\l0 i s'.heap/\(∀b∈fp,H' b=sN)/\W i n b0 H') ?_ G0 (nx2 0 k0 C0 D0 F0 (λb g=>(m0 b g).1) I0);rintro n n0;refine ea5 ?_;rintro i c0 e0 o0 p0 q0 K0;rcases turn i n c0 e0 K0 with⟨stop,L0⟩|⟨go,N,M0,step⟩
 ·refine Ml a0 (xa (T.done X rfl rfl rfl j0 i Y n0 c0 e0 X.xe o0 (f0 q0) p0 stop) ?_);rintro N0 O0⟨g0,P0⟩;subst g0;exact FO (nx4 c0 e0 P0 L0)
 ·refine Ml a0 (xa (T.item X rfl rfl rfl j0 i Y n0 c0 e0 X.xe o0 (f0 q0) p0 go) ?_);rintro N0 O0;refine ea1 ?_;rintro u g0 Q0;subst g0;refine Ml a0 (xa Q0 ?_);rintro _ r0;refine eb0 ?_;rintro x s0 R0 S0 T0 h0 U0;have V0:=R0.pinned (f0 U0) (T.obj _ _ h0);refine Ml a0 (xa (v0 _ r0 c0 s0 x u _ V0 S0 (step x s0 T0)) ?_);rintro _ W0;refine eaA ?_;rintro X0 Y0 Z0 a1;refine Ml a0 (xa (g _ W0 X0 Y0 _ Z0 a1) λf i0 U=>?_);have again:∀{r:St}{J:Hp},Inv X (Y++xn fp r0.heap) r J i0->N r J->∃m,m<n/\∃i b0 H',Inv X Y b0 H' i0/\l0 i i0.heap/\(∀b∈fp,H' b=sN)/\W i m b0 H':=λ{r J}O d0=>by
   refine ea1 ?_ (M0 r J d0);rintro b1 c1 d1;refine nx11 b1 c1 (i+1) (nx6 r J O.Eb (T.keep _ _ _ h0 λb g o e=>(O.pin (b,o) (We _ (We _ (yn g e)))).1) (λb g=>?_) d1);obtain⟨o,e,d⟩:=T.obj _ _ h0 b g;exact(O.pin (b,o) (We _ (We _ (yn g e)))).2.1
  cases f with
  |next=>revert U;refine eaA ?_;rintro r J O d0;exact again O d0
  |cont=>revert U;refine eaA ?_;rintro r J O d0;exact again O d0
  |brk=>revert U;refine eaA ?_;rintro r J O U;exact nx4 r J O.Eb U
  |ret v=>revert U;refine ebA ?_;rintro e1 r J O f1 U;exact nx16 e1 r J O.Eb f1 U
end
def nc{K:PySem.W.Frag}{U:TG}{Y:TS}{D:Wf}(Pv:Nat->St->Hp->Prop)(g0:Pv 0 g H)(c0:∀i g H,i<=xs.length->Pv i g H->ca K H a xs)
  (h0:∀i x g H,xs[i]?=qN x->Pv i g H->U x g H λr J=>Y {D with nx:=Pv (i+1),ct:=Pv (i+1),bk:=D.nx} r J)(d0:∀g H,Pv xs.length g H->D.nx g H):
  ∃W:Nat->Nat->St->Hp->Prop,(∃m,W 0 m g H)/\∀i m g H,W i m g H->
   ((bf K a).stop i H/\D.nx g H)\/((bf K a).go i H/\∃N:St->Hp->Prop,(∀O H',N O H'->∃a0,a0<m/\W (i+1) a0 O H')/\∀x H',(bf K a).af i H x H'->U x g H' λr J=>Y {D with nx:=N,ct:=N,bk:=D.nx} r J):=by
 refine⟨λi m g H=>m=xs.length-i/\i<=xs.length/\Pv i g H,by simp_all,?_⟩;rintro i m g H;refine ea3 ?_;rintro rfl e0 p;have q:=c0 i g H e0 p;by_cases b0:i<xs.length
 ·refine .inr ⟨nx4 xs (xs[i]) q (by simp[b0]),Pv (i+1),λO H' f0=>⟨xs.length-(i+1),by grind,rfl,b0,f0⟩,λx H' y=>?_⟩;obtain⟨e,y⟩:=y
  grind
 ·have e:i=xs.length:=by lia
  subst e;exact .inl ⟨⟨xs,q,wa _⟩,d0 g H p⟩
def rr{lo:Int}{Y:TG}{a0:TS}{D:Wf}(Pv:Nat->St->Hp->Prop)(f0:Pv 0 g H)
  (c0:∀i g H,i<n->Pv i g H->Y (.int (lo+i)) g H λr J=>a0 {D with nx:=Pv (i+1),ct:=Pv (i+1),bk:=D.nx} r J)(d0:∀g H,Pv n g H->D.nx g H):
  ∃W:Nat->Nat->St->Hp->Prop,(∃m,W 0 m g H)/\∀i m g H,W i m g H->
   ((Xl lo n).stop i H/\D.nx g H)\/((Xl lo n).go i H/\∃N:St->Hp->Prop,(∀O H',N O H'->∃b0,b0<m/\W (i+1) b0 O H')/\∀x H',(Xl lo n).af i H x H'->Y x g H' λr J=>a0 {D with nx:=N,ct:=N,bk:=D.nx} r J):=by
 refine⟨λi m g H=>m=n-i/\i<=n/\Pv i g H,by simp_all,?_⟩;rintro i m g H;refine ea3 ?_;rintro rfl g0 p;by_cases U:i<n
 ·refine .inr ⟨U,Pv (i+1),λO H' e0=>⟨n-(i+1),by grind,rfl,U,e0⟩,λx H' y=>?_⟩;obtain⟨e,y⟩:=y;subst e y;exact c0 i g _ U p
 ·have e:i=n:=by lia
  subst e;exact .inl ⟨wa _,d0 g H p⟩
abbrev R2:=V->V->Hp->VK->Prop
def Ic(X:Cx)(f:rN->rN->fQ rN)(J:R2):Prop:=
 ∀(g:List (uN×TN))(s:tN)(r:St)(H:Hp)(x y:V)(v u:rN)(Q:VK),Inv X g r H s->Aa x v->Aa y u->J x y H Q->
  wpAny (xN X.prog X.w) X.A (f v u) (EP X g r Q) X.xe s
def Bu(X:Cx)(f:rN->fQ rN)(J:V->Hp->VK->Prop):Prop:=
 ∀(g:List (uN×TN))(s:tN)(r:St)(H:Hp)(x:V)(v:rN)(Q:VK),Inv X g r H s->Aa x v->J x H Q->
  wpAny (xN X.prog X.w) X.A (f v) (EP X g r Q) X.xe s
def Kf(X:Cx)(f:rN)(J:List V->Hp->VK->Prop):Prop:=
 ∀(g:List (uN×TN))(s:tN)(r:St)(H:Hp)(xs:List V)(us:List rN)(Q:VK),Inv X g r H s->Ia xs us->J xs H Q->
  wpAny (xN X.prog X.w) X.A (call f us) (EP X g r Q) X.xe s
def Qk(r:R2)(J O:TE):TE:=λg H Q=>J g H λx U=>O g U λy Y=>r x y Y Q
def yD(g:V->Hp->VK->Prop)(r:TE):TE:=λJ H Q=>r J H λx O=>g x O Q
inductive rI(C:Int->Int->Prop)(g:Int->Int->V)(x y:V)(H:Hp)(Q:VK):Prop|mk(i j)(_:x=.int i)(_:y=.int j)(_:C i j)(_:Q (g i j) H)
inductive Hj(g:Int->Int->V)(x y:V)(H:Hp)(Q:VK):Prop|mk(i j)(_:x=.int i)(_:y=.int j)(_:Q (g i j) H)
inductive rU(g:Int->V)(x:V)(H:Hp)(Q:VK):Prop|mk(i)(_:x=.int i)(_:Q (g i) H)
section
variable{X:Cx}{a b c:IN}{ta tb tc:TE}{pos:oO}
def Cu(Y:PE X a ta)(a0:PE X b tb){g:St}{R:V->V->Hp->Prop}(I:Inv X O g H s)
  (h:ta g H λx U=>tb g U λy r=>R x y r){f:rN->rN->fQ rN}
  (b0:∀v u J x y r,Inv X O g r J->Aa x v->Aa y u->R x y r->wpAny (xN X.prog X.w) X.A (f v u) Q X.xe J):
  wpAny (xN X.prog X.w) X.A (SN a X.env) (λv c0=>wpAny (xN X.prog X.w) X.A (SN b X.env) (λu d0=>wpAny (xN X.prog X.w) X.A (f v u) Q X.xe d0) X.xe c0) X.xe s:=by
 refine xa (Y O s g H _ I h) ?_;rintro v e0⟨x,U,f0,g0,q1⟩;refine xa (a0 O e0 g U _ f0 q1) ?_;rintro u J⟨y,r,h0,i0,q2⟩;exact b0 v u J x y r h0 g0 i0 q2
def eb(g:Ic X (gO op) r)(J:PE X a ta)(O:PE X b tb):PE X (.BinOp a op b pos) (Qk r ta tb):=by
 constructor;intro U s Y H Q I h;exact wpAny_BinOp (Cu J O I h λv u a0 x y b0 c0 d0 e0 q=>g U a0 Y b0 x y v u Q c0 d0 e0 q)
def zp(J:Bu X (unaryOp op) O)(U:PE X a ta):PE X (.UnaryOp op a pos) (yD O ta):=by
 constructor;intro g s r H Q I h;exact UnaryOp_ (xa (U g s r H _ I h) (by rintro v Y⟨x,a0,b0,c0,q1⟩;exact J g Y r a0 x v Q b0 c0 q1))
def Ap{g:Int->Int->Int}
  (rule:∀(i j:Int)(t u:Tok)(s:tN)(Q:rN->tN->Prop)(E:rN->tN->Prop),C i j->Q (.int (g i j) s.toks) {s with toks:=s.toks+1}->wpAny (xN X.prog X.w) X.A (f (.int i t) (.int j u)) Q E s):
  Ic X f (rI C λi j=>.int (g i j)):=by
 intro U s Y H x y v u Q I r J h;obtain⟨i,j,rfl,rfl,O,q⟩:=h;obtain⟨t,rfl⟩:=r;obtain⟨t',rfl⟩:=J;exact rule i j t t' s _ _ O ⟨.int (g i j),H,I.tok _,⟨_,rfl⟩,q⟩
def Du{g:Int->Int->Int}
  (rule:∀(i j:Int)(t u:Tok)(s:tN)(Q:rN->tN->Prop)(E:rN->tN->Prop),Q (.int (g i j) s.toks) {s with toks:=s.toks+1}->wpAny (xN X.prog X.w) X.A (f (.int i t) (.int j u)) Q E s):
  Ic X f (Hj λi j=>.int (g i j)):=by
 intro O s U H x y v u Q I r J h;obtain⟨i,j,rfl,rfl,q⟩:=h;obtain⟨t,rfl⟩:=r;obtain⟨t',rfl⟩:=J;exact rule i j t t' s _ _ ⟨.int (g i j),H,I.tok _,⟨_,rfl⟩,q⟩
def Eu{g:Int->Int->Bool}
  (rule:∀(i j:Int)(t u:Tok)(s:tN)(Q:rN->tN->Prop)(E:rN->tN->Prop),Q (.bool (g i j)) s->wpAny (xN X.prog X.w) X.A (f (.int i t) (.int j u)) Q E s):
  Ic X f (Hj λi j=>.bl (g i j)):=by
 intro O s U H x y v u Q I r J h;obtain⟨i,j,rfl,rfl,q⟩:=h;obtain⟨t,rfl⟩:=r;obtain⟨t',rfl⟩:=J;exact rule i j t t' s _ _ ⟨.bl (g i j),H,I,rfl,q⟩
def AD(i j:Int):Prop:=0<j/\j<1073741824
def CD(i j:Int):Prop:=0<=j/\j<=1000000/\i.natAbs<2^64
def Fu(i j:Int):Prop:=(-(2^64)<i/\i<2^64)\/(-(2^64)<j/\j<2^64)
def Fu.ok(h:Fu i j):IntMulOk i j:=by
 rcases h with⟨g,r⟩|⟨g,r⟩
 ·exact .of_left (intBits_le_64 g r)
 ·exact .of_right (intBits_le_64 g r)
def DD(k:Nat):(0:Int)<=2^k:=by
 grind
def wg:Ic X (gO .Add) (Hj λi j=>.int (i+j)):=Du λ_ _ _ _ _ _ _ q=>add_int q
def Gu:Ic X (gO .Sub) (Hj λi j=>.int (i-j)):=Du λ_ _ _ _ _ _ _ q=>sub_int q
def Bp:Ic X (gO .Mult) (rI Fu λi j=>.int (i*j)):=Ap λ_ _ _ _ _ _ _ g q=>mul_int q g.ok
def Ij:Ic X (gO .FloorDiv) (rI AD λi j=>.int (i/j)):=Ap λi j _ _ _ _ _ g q=>by
 have r:=g.1;have J:=g.2;exact floordiv_int (by lia) (by rw[Int.fdiv_eq_ediv_of_nonneg i (by lia)];exact q) (.inl (PyProof.noPylong_small (by omega)))
def Vg:Ic X (gO .Mod) (rI (λ_ j=>0<j) λi j=>.int (i%j)):=Ap λi j _ _ _ _ _ g q=>by
 exact mod_int' (by lia) (by rw[Int.fmod_eq_emod_of_nonneg i (by lia)];exact q)
def Qx:Ic X (gO .Pow) (rI CD λi j=>.int (i^j.toNat)):=Ap λ_ _ _ _ _ _ _ g q=>pow_int_small g.1 g.2.1 g.2.2 q
def Rx:Ic X (gO .RShift) (rI (λ_ j=>0<=j) λi j=>.int (i/2^j.toNat)):=Ap λi j _ _ _ _ _ g q=>
 rshift_int g (by rw[Int.fdiv_eq_ediv_of_nonneg i (DD _)];exact q)
def Sx:Ic X (gO .BitAnd) (Hj λi j=>.int (Builtin.bitAnd i j)):=Du λ_ _ _ _ _ _ _ q=>and_int q
def ED{g:Int->Int}
  (rule:∀(i:Int)(t:Tok)(s:tN)(Q:rN->tN->Prop)(E:rN->tN->Prop),Q (.int (g i) s.toks) {s with toks:=s.toks+1}->wpAny (xN X.prog X.w) X.A (f (.int i t)) Q E s):
  Bu X f (rU λi=>.int (g i)):=by
 intro J s O H x v Q I r h;obtain⟨i,rfl,q⟩:=h;obtain⟨t,rfl⟩:=r;exact rule i t s _ _ ⟨.int (g i),H,I.tok _,⟨_,rfl⟩,q⟩
def Cp:Bu X (unaryOp .USub) (rU λi=>.int (-i)):=ED λ_ _ _ _ _ q=>neg_int q
end
def Ux:V->V->Bool
 |.Ra,.Ra=>wN|.Ra,.int _=>wN|.int _,.Ra=>wN|.Ra,.bl _=>wN|.bl _,.Ra=>wN|.Ra,.str _=>wN|.str _,.Ra=>wN
 |.int _,.int _=>wN|.bl _,.bl _=>wN|.str _,.str _=>wN|.Sg _,.Sg _=>wN
 |.int _,.str _=>wN|.str _,.int _=>wN|.bl _,.str _=>wN|.str _,.bl _=>wN
 |_,_=>yN
def Vx:R2:=λx y H Q=>Ux x y=wN/\Q (.bl (decide (x=y))) H
def Wx:R2:=λx y H Q=>Ux x y=wN/\Q (.bl (!decide (x=y))) H
def Xx:decide (V.int i=V.int j)=(i==j):=by
 grind
def Yx:decide (V.bl i=V.bl j)=(i==j):=by
 grind
def Zx:decide (V.str i=V.str j)=(i==j):=by
 grind
def ay:decide (V.Sg i=V.Sg j)=(i.toList==j.toList):=by
 rw[Bool.eq_iff_iff];cases i;cases j;simp
section
variable{X:Cx}{a b c:IN}{ta tb tc:TE}{pos:oO}
def Fc{g:St}(I:Inv X r g H s)(q:Q (.bl k) H)(e:k=J):EP X r g Q (.bool J) s:=by
 subst e;exact⟨.bl k,H,I,rfl,q⟩
def Od:Ic X (LN .Eq) Vx:=by
 intro O s U H x y v u Q I r g h;obtain⟨J,q⟩:=h;cases x with
 |Ra=>
  cases r;cases y with
  |Ra=>cases g;exact PySem.EqNone.eq_none_none (Fc I q (by simp))
  |bl j=>cases g;exact PySem.EqNone.eq_none_bool (Fc I q (by simp))
  |int j=>obtain⟨t',rfl⟩:=g;exact PySem.EqNone.eq_none_int (Fc I q (by simp))
  |str j=>obtain⟨t',rfl⟩:=g;exact PySem.EqNone.eq_none_str (Fc I q (by simp))
  |_=>exact absurd (J) Vc
 |bl i=>
  cases r;cases y with
  |Ra=>cases g;exact PySem.EqNone.eq_bool_none (Fc I q (by simp))
  |bl j=>cases g;exact eq_bool (Fc I q Yx)
  |str j=>obtain⟨t',rfl⟩:=g;exact PySem.EqMixed.eq_bool_str (Fc I q (by simp))
  |_=>exact absurd (show yN=wN from J) Vc
 |int i=>
  obtain⟨t,rfl⟩:=r;cases y with
  |Ra=>cases g;exact PySem.EqNone.eq_int_none (Fc I q (by simp))
  |int j=>obtain⟨t',rfl⟩:=g;exact eq_int (Fc I q Xx)
  |str j=>obtain⟨t',rfl⟩:=g;exact PySem.EqMixed.eq_int_str (Fc I q (by simp))
  |_=>exact absurd (show yN=wN from J) Vc
 |str i=>
  obtain⟨t,rfl⟩:=r;cases y with
  |Ra=>cases g;exact PySem.EqNone.eq_str_none (Fc I q (by simp))
  |bl j=>cases g;exact PySem.EqMixed.eq_str_bool (Fc I q (by simp))
  |int j=>obtain⟨t',rfl⟩:=g;exact PySem.EqMixed.eq_str_int (Fc I q (by simp))
  |str j=>obtain⟨t',rfl⟩:=g;exact eq_str (Fc I q Zx)
  |_=>exact absurd ‹_› Vc
 |Sg i=>
  obtain⟨t,rfl⟩:=r;cases y with
  |Sg j=>obtain⟨t',rfl⟩:=g;exact W.eq_bytes (Fc I q ay)
  |_=>exact absurd ‹_› Vc
 |_=>cases y<;>exact absurd ‹_› Vc
def Sk:Ic X (LN .NotEq) Wx:=by
 intro O s U H x y v u Q I r g h;obtain⟨J,q⟩:=h;cases x with
 |Ra=>
  cases r;cases y with
  |Ra=>cases g;exact PySem.EqNone.ne_none_none (Fc I q (by simp))
  |bl j=>cases g;exact PySem.EqNone.ne_none_bool (Fc I q (by simp))
  |int j=>obtain⟨t',rfl⟩:=g;exact PySem.EqNone.ne_none_int (Fc I q (by simp))
  |str j=>obtain⟨t',rfl⟩:=g;exact PySem.EqNone.ne_none_str (Fc I q (by simp))
  |_=>exact absurd (J) Vc
 |bl i=>
  cases r;cases y with
  |Ra=>cases g;exact PySem.EqNone.ne_bool_none (Fc I q (by simp))
  |bl j=>cases g;exact ne_bool (Fc I q (Vb not Yx))
  |str j=>obtain⟨t',rfl⟩:=g;exact PySem.EqMixed.ne_bool_str (Fc I q (by simp))
  |_=>exact absurd (show yN=wN from J) Vc
 |int i=>
  obtain⟨t,rfl⟩:=r;cases y with
  |Ra=>cases g;exact PySem.EqNone.ne_int_none (Fc I q (by simp))
  |int j=>obtain⟨t',rfl⟩:=g;exact ne_int (Fc I q (Vb not Xx))
  |str j=>obtain⟨t',rfl⟩:=g;exact PySem.EqMixed.ne_int_str (Fc I q (by simp))
  |_=>exact absurd (show yN=wN from J) Vc
 |str i=>
  obtain⟨t,rfl⟩:=r;cases y with
  |Ra=>cases g;exact PySem.EqNone.ne_str_none (Fc I q (by simp))
  |bl j=>cases g;exact PySem.EqMixed.ne_str_bool (Fc I q (by simp))
  |int j=>obtain⟨t',rfl⟩:=g;exact PySem.EqMixed.ne_str_int (Fc I q (by simp))
  |str j=>obtain⟨t',rfl⟩:=g;exact ne_str (Fc I q (Vb not Zx))
  |_=>exact absurd ‹_› Vc
 |Sg i=>
  obtain⟨t,rfl⟩:=r;cases y with
  |Sg j=>obtain⟨t',rfl⟩:=g;exact W.ne_bytes (Fc I q (Vb not ay))
  |_=>exact absurd ‹_› Vc
 |_=>cases y<;>exact absurd ‹_› Vc
def Hu:Ic X (LN .Lt) (Hj λi j=>.bl (decide (i<j))):=Eu λ_ _ _ _ _ _ _ q=>lt_int q
def sr:Ic X (LN .Gt) (Hj λi j=>.bl (decide (j<i))):=Eu λ_ _ _ _ _ _ _ q=>gt_int q
def GD:Ic X (LN .GtE) (Hj λi j=>.bl (decide (j<=i))):=Eu λ_ _ _ _ _ _ _ q=>ge_int q
def HD:Ic X (LN .Is) (λx y H Q=>y=.Ra/\Q (.bl (decide (x=.Ra))) H):=by
 intro J s O H x y v u Q I g r h;obtain⟨rfl,q⟩:=h;cases r;refine is_none_gen (Fc I q ?_);cases x<;>first
  |(cases g;rfl)
  |(obtain⟨t,rfl⟩:=g;rfl)
def Dp:Ic X (LN .IsNot) (λx y H Q=>y=.Ra/\Q (.bl (!decide (x=.Ra))) H):=by
 intro J s O H x y v u Q I g r h;obtain⟨rfl,q⟩:=h;cases r;refine isnot_none_gen (Fc I q ?_);cases x<;>first
  |(cases g;rfl)
  |(obtain⟨t,rfl⟩:=g;rfl)
def Bb(b:IN)(h:op≠.In:=by decide)(g:op≠.NotIn:=by decide):wO op b=yN:=by
 have r:(op==CmpOp.In)=yN:=by cases op<;>first|rfl|exact absurd rfl h
 have J:(op==CmpOp.NotIn)=yN:=by cases op<;>first|rfl|exact absurd rfl g
 cases b<;>simp[wO,r,J]
def zh(g:Ic X (LN op) r)(J:PE X a ta)(O:PE X b tb)(U:wO op b=yN):PE X (.Compare a [op] [b] pos) (Qk r ta tb):=by
 constructor;intro Y s a0 H Q I h;exact wpAny_Compare1 (Cu J O I h λv u b0 x y c0 d0 e0 f0 q=>g Y b0 a0 c0 x y v u Q d0 e0 f0 q) U
def cy(t:TE):TT:=λg H Q=>t g H λx H'=>∃k,x=.bl k/\Q k H'
def xb(J:Ic X (LN op) O)(U:PE X a ta)(Y:PE X b tb)(a0:wO op b=yN):PT X (.Compare a [op] [b] pos) (cy (Qk O ta tb)):=by
 constructor;intro g s r H Q I h;refine wpAny_isTrue_Compare1 (xa (U g s r H _ I h) λv b0⟨x,c0,d0,e0,q1⟩=>xa (Y g b0 r c0 _ d0 q1) λu f0⟨y,g0,h0,i0,q2⟩=>
  xa (J g f0 r g0 x y v u _ h0 e0 i0 q2) λc m0⟨z,j0,k0,l0,k,e,q3⟩=>?_) a0
 subst e;cases l0;exact Al ⟨j0,k0,q3⟩
def Iu:(vN:Nat)<2^63:=by rw[Ni];decide
def cf(g:Ia [x] us):∃u,us=[u]/\Aa x u:=by
 cases g with
 |cons J r=>cases r;simp_all
def Zl(r:Ia [x,y] us):∃u g,us=[u,g]/\Aa x u/\Aa y g:=by
 cases r with
 |cons U J=>
  cases J with
  |cons Y O=>cases O;exact(by grind)
def ID(r:X.calm=wN):Kf X (.builtin "max") (λxs H Q=>∃i j,xs=[.int i,.int j]/\Q (.int (if j>i then j else i)) H):=by
 intro O s U H xs us Q I J h;revert h;refine eaA ?_;rintro i j rfl q;refine ea0 ?_ (Zl J);rintro u Y rfl⟨t,rfl⟩⟨t',rfl⟩;refine max_two_ints (I.ok.hd r) λh' a0 k=>⟨_,H,I.kept k,?_,q⟩
 by_cases g:j>i
 ·rw[va g,va g];exact⟨_,rfl⟩
 ·rw[na g,na g];exact⟨_,rfl⟩
def JD(r:X.calm=wN):Kf X (.builtin "min") (λxs H Q=>∃i j,xs=[.int i,.int j]/\Q (.int (if j<i then j else i)) H):=by
 intro O s U H xs us Q I J h;revert h;refine eaA ?_;rintro i j rfl q;refine ea0 ?_ (Zl J);rintro u Y rfl⟨t,rfl⟩⟨t',rfl⟩;refine min_two_ints (I.ok.hd r) λh' a0 k=>⟨_,H,I.kept k,?_,q⟩
 by_cases g:j<i
 ·rw[va g,va g];exact⟨_,rfl⟩
 ·rw[na g,na g];exact⟨_,rfl⟩
def Ju(K:W.Frag)(x:V)(H:Hp)(n:Nat):Prop:=
 match x with
 |.str y=>y.length<=vN/\n=y.length
 |.Sg y=>y.size<=vN/\n=y.size
 |.ref p=>(∃xs,ca K H p xs/\n=xs.length)\/∃xs,oa K H p xs/\n=xs.length
 |_=>False
def Yf:Kf X (.builtin "len") (λxs H Q=>∃x n,xs=[x]/\Ju X.K x H n/\Q (.int n) H):=by
 intro c0 s d0 H xs us Q I Y h;revert h;refine ea0 ?_;rintro x n rfl e q;obtain⟨u,rfl,r⟩:=cf Y;have e0:=Ni;cases x with
 |str y=>
  obtain⟨t,rfl⟩:=r;obtain⟨a0,g⟩:y.length<=vN/\n=y.length:=e;subst g;exact len_str (by lia) ⟨.int _,H,I.tok _,⟨_,rfl⟩,q⟩
 |Sg y=>
  obtain⟨t,rfl⟩:=r;obtain⟨a0,g⟩:y.size<=vN/\n=y.size:=e;subst g;exact W.len_bytes (by lia) ⟨.int _,H,I.tok _,⟨_,rfl⟩,q⟩
 |ref p=>
  cases r;have g:=e;rcases g with⟨xs,J,g⟩|⟨xs,J,g⟩
  ·subst g;refine ea8 ?_ (I.list J);rintro b0 O pl hz;have U:=O.length;exact Calls.call_len_list pl.isList (by simp only[uc];lia) ⟨.int xs.length,H,I.tok _,⟨_,by simp only[uc];rw[U]⟩,q⟩
  ·subst g;refine ea8 ?_ (I.tuple J);rintro b0 O pl hz;have U:=O.length;exact len_tuple pl (by simp only[uc];lia) ⟨.int xs.length,H,I.tok _,⟨_,by simp only[uc];rw[U]⟩,q⟩
 |_=>exact(e).elim
end
structure ur(h:EN)(x dx C:uN)(mA:Str->Option rN):Prop where
 obj:h.get? x=qN (W.instObj C dx)
 ns:h.Ns1 dx mA
 ne:dx≠x
def KD{h:EN}(n:h.Ns1 r J):∃g,h.get? r=qN g/\∀name,W.lookIn name g=qN (J name):=by
 revert n;refine ea2 ?_;rintro o es ep O U Y _ a0;refine⟨o,O,λname=>?_⟩;have e:=a0 name;unfold nsFind findBy at e;rw[<-Array.find?_toList]at e;unfold W.lookIn;rw[U];dsimp only;split
 ·simp_all
 ·rename_i q;rw[q]at e;have a:es.toList.any (·.refKey)=yN:=by
   rw[List.any_eq_false];intro y c0;obtain⟨z,t,b0⟩:=Y y (by simp_all);simp[DictEntry.refKey,b0]
  grind
def ur.look(I:ur h x r C J):∃g,W.InstAt h x (W.instObj C r) C (qN g)/\∀name,W.lookIn name g=qN (J name):=by
 obtain⟨g,O,U⟩:=KD I.ns;exact⟨g,⟨I.obj,rfl,rfl,O⟩,U⟩
section
variable{prog:zN}{w:AN}{A:BN}{E:rN->tN->Prop}{s:tN}{K:W.Frag}{x dx C f:uN}{mA:Str->Option rN}{name:Str}{v:rN}
def LD(X:K.In s.heap)(I:ur s.heap x dx C mA)(g:W.plainGet K C name=wN)
  (r:W.findIn K (.ref C) name=qN (qN (.ref f)))(J:W.isFn K (.ref f)=wN)(Y:mA name=sN)(h:Q (.ref f,[.ref x]) s):
  wpAny (xN prog w) A (ZP (.ref x) name pl) Q E s:=by
 obtain⟨O,U,a0⟩:=I.look;exact W.method_fn X U (W.plainGet_of g).1 (W.plainGet_of g).2 r (beq_iff_eq.mp J) (by show(W.lookIn name O).map (·.isSome)=qN yN;simp_all) h
def MD(X:K.In s.heap)(g:W.makesIn K C=wN)
  (r:W.findIn K (.ref C) "__init__"=qN (qN (.builtin "object.__init__")))
  (J:∀self,W.Looks (xN prog w) s.heap (bindSpecial (.builtin "object.__init__") self) (.builtin "object.__init__",[self]))
  (h:codeAny (xN prog w) (A.under (.builtin "type.__call__" ⟨[.ref C],[]⟩)) (.call (.builtin "object.__init__") ⟨[.ref (s.heap.objs.size+1)],[]⟩) (W.InitBack (s.heap.objs.size+1) R)
   {s with heap:=(s.heap.push W.emptyDict).push (W.instObj C s.heap.objs.size)}):
  codeAny (xN prog w) A (.call (.ref C) ⟨[],[]⟩) R s:=by
 exact W.make_core (W.makes_of X g) (W.looks_findIn X r) J (by simp_all) h
end
def Bd.some_of(r:Bd (qN v) o):∃u,o=qN u/\Aa v u:=by
 cases o with
 |none=>exact(r).elim
 |some u=>exact⟨u,rfl,r⟩
def Bd.none_of(r:Bd sN o):o=sN:=by
 cases o with
 |none=>rfl
 |some u=>exact(r).elim
section
variable{P:zN}{w:AN}{H H':Hp}{h h':EN}{a C dx:uN}{fs UC:List (Str×V)}
def dy(r:yc P w H h)(e:H a=qN (.ins C dx fs)):∃g,ur h a dx C g/\(∀f,Bd (fs.lookup f) (g f))/\PySem.Within g (fs.map (·.1))/\fs.length<=1000/\H dx=qN (.own a):=by
 refine ebF ?_ ((r a _ e));rintro d z J ob;refine ea8 ?_;rintro g n O q;exact⟨g,⟨ob,n,J⟩,O,q,z,d⟩
end
structure Cls(K:W.Frag)(C:uN):Prop where
 pg:W.plainGet K C Str.empty=wN
 hd:W.hasDictIn K C=wN
 po:W.plainOver K C=wN
 sa:W.findIn K (.ref C) "__setattr__"=qN (qN (.builtin "object.__setattr__"))
def Cls.get{K:W.Frag}(c:Cls K C)(f:Str):W.plainGet K C f=wN:=c.pg
structure Zf(K:W.Frag)(C:uN)(m:Str)(f:uN):Prop where
 at_:W.findIn K (.ref C) m=qN (qN (.ref f))
 fn:W.isFn K (.ref f)=wN
 kp:W.keepIn K (.ref f)=wN
section
variable{X:Cx}{pins:List (uN×TN)}{σ:St}{H:Hp}{s:tN}{a C dx:uN}{fs:List (Str×V)}{f:Str}{v:V}{A:BN}{E:rN->tN->Prop}
def ey(I:Inv X pins σ H s)(e:H a=qN (.ins C dx fs))(c:Cls X.K C)(k:Zf X.K C m g)(l:fs.lookup m=sN)
  (h:Q (.ref g,[.ref a]) s):wpAny (xN X.prog X.w) A (ZP (.ref a) m pl) Q E s:=by
 obtain⟨r,J,U,_,_,_⟩:=dy I.ya e;have O:r m=sN:=Bd.none_of (by grind);exact LD I.Sd J (c.get m) k.at_ k.fn O h
def Inv.made(I:Inv X pins σ H s):Inv X pins σ (upd (upd H s.heap.objs.size (.own (s.heap.objs.size+1))) (s.heap.objs.size+1) (.ins C s.heap.objs.size []))
  {s with heap:=(s.heap.push W.emptyDict).push (W.instObj C s.heap.objs.size)}:=by
 have g:(s.heap.push W.emptyDict).get? s.heap.objs.size=qN W.emptyDict:=yb s.heap rfl;have J:((s.heap.push W.emptyDict).push (W.instObj C s.heap.objs.size)).get? (s.heap.objs.size+1)=qN (W.instObj C s.heap.objs.size):=by
  have:=yb (s.heap.push W.emptyDict) (o:=W.instObj C s.heap.objs.size) rfl;rwa[Oh]at this
 have O:(s.heap.push W.emptyDict).Ns s.heap.objs.size (λ_=>sN):=nx2 W.emptyDict (#[]) _ g rfl (λe U=>absurd U (by simp)) λ_=>rfl;have Y:=I.laid (o:=.own (s.heap.objs.size+1)) (t':=s.toks) (λb u q=>Pa _ q) (wa _) ⟨_,g⟩;refine Y.laid (λb u q=>Pa _ q) (Cj (Oh _ _)) ?_;have r:s.heap.objs.size≠s.heap.objs.size+1:=by simp_all
 refine⟨by rw[ja r,ia],Va _,r,J,λ_=>sN,(Heap.Ns1.of_empty O).at λo q=>Pa _ q,λ_=>True.intro,λy a0=>absurd rfl a0⟩
end
def Ku(X:Cx)(op:Operator)(rd:V->V->Hp->VK->Prop):Prop:=
 ∀(g:List (uN×TN))(s:tN)(r:St)(H:Hp)(x y:V)(u v:rN)(Q:VK),Inv X g r H s->Aa x u->Aa y v->rd x y H Q->wpAny (xN X.prog X.w) X.A (inplaceOp op u v) (EP X g r Q) X.xe s
section
variable{X:Cx}{o e value:IN}{f:Str}{pos pos' Ep:oO}{ta tv:TE}
inductive ND(x y:V)(H:Hp)(Q:VK):Prop|mk(i j)(_:x=.int i)(_:y=.int j)(_:Q (.int (i+j)) H)
inductive OD(x y:V)(H:Hp)(Q:VK):Prop|mk(i j)(_:x=.int i)(_:y=.int j)(_:Q (.int (i-j)) H)
def PD:Ku X .Add ND:=by
 rintro J s O H x y u v Q I g r⟨i,j,rfl,rfl,q⟩;obtain⟨t,rfl⟩:=(g);obtain⟨t',rfl⟩:=(r);exact PyProof.Rows.iadd_int ⟨.int (i+j),H,I.tok _,⟨_,rfl⟩,q⟩
def QD:Ku X .Sub OD:=by
 rintro J s O H x y u v Q I g r⟨i,j,rfl,rfl,q⟩;obtain⟨t,rfl⟩:=(g);obtain⟨t',rfl⟩:=(r);exact PyProof.Rows.isub_int ⟨.int (i-j),H,I.tok _,⟨_,rfl⟩,q⟩
end
section
variable{X:Cx}{pins:List (uN×TN)}{σ:St}{H:Hp}{s:tN}{A:BN}{E:rN->tN->Prop}{Q:rN->tN->Prop}{c:rN}{b:Bool}
inductive xg(K:W.Frag)(H:Hp):V->rN->Prop where
 |Ra:xg K H .Ra (.type "NoneType")
 |bl(x:Bool):xg K H (.bl x) (.type "bool")
 |int(i:Int):xg K H (.int i) (.type "int")
 |str(x:Str):xg K H (.str x) (.type "str")
 |mn(x:UInt64):xg K H (.mn x) (.type "float")
 |lst{a:uN}{xs:List V}(e:H a=qN (.lst xs)):xg K H (.ref a) (.type "list")
 |Hb{a:uN}{o:TN}{xs:List V}(e:H a=qN (.Hb o (.lst xs))):xg K H (.ref a) (.type "list")
 |tup{a:uN}{xs:List V}(e:H a=qN (.tup xs)):xg K H (.ref a) (.type "tuple")
 |dK{a:uN}{kvs:List (Key×V)}(e:H a=qN (.dK kvs)):xg K H (.ref a) (.type "dict")
 |dT{a:uN}{kvs:List (List Key×V)}(e:H a=qN (.dT kvs)):xg K H (.ref a) (.type "dict")
 |ins{a C dx:uN}{fs:List (Str×V)}(e:H a=qN (.ins C dx fs))(cl:Cls K C)(ha:W.findIn K (.ref C) "__class__"=qN (qN (.builtin "object.__class__")))
   (hn:W.specialIn K (.builtin "object.__class__") "__get__"=qN (qN (.builtin "getset_descriptor.__get__")))(mN:W.takesIn K (.builtin "object.__class__")=qN wN)
   (hm:W.mroIn K C (.type "object")=qN wN):xg K H (.ref a) (.ref C)
def RD(I:Inv X pins σ H s)(g:Aa x u)(Y:xg X.K H x t)(e:W.kitOne X.K t c=qN b)(h:∀a0,Q (.bool b) {s with toks:=a0}):
  wpAny (xN X.prog X.w) A (call (.builtin "isinstance") [u,c]) Q E s:=by
 cases Y with
 |Ra=>cases(g);exact Qh W.kitx_none I.Sd True.intro e (λz=>nomatch z) h
 |bl y=>cases(g);exact Qh W.kitx_bool I.Sd True.intro e (λz=>nomatch z) h
 |int i=>obtain⟨t,q⟩:=(g);cases q;exact Qh W.kitx_int I.Sd True.intro e (λz=>nomatch z) h
 |str y=>obtain⟨t,q⟩:=(g);cases q;exact Qh W.kitx_str I.Sd True.intro e (λz=>nomatch z) h
 |mn y=>obtain⟨t,q⟩:=(g);cases q;exact Qh W.kitx_float I.Sd True.intro e (λz=>nomatch z) h
 |@lst a xs r=>
  cases(show u=Value.ref a from g);refine eb3 ?_ ((show xc X.prog X.w H s.heap a (.lst xs)from I.ya a _ r));rintro _ _ n _ J;exact Qh W.kitx_list I.Sd ⟨_,J,rfl⟩ e (λz=>nomatch z) h
 |@Hb a ob xs r=>
  cases(g);obtain⟨_,_,_,n,_,J⟩:=(show xc X.prog X.w H s.heap a (.Hb ob (.lst xs))from I.ya a _ r);exact Qh W.kitx_list I.Sd ⟨_,J,rfl⟩ e (λz=>nomatch z) h
 |@tup a xs r=>
  cases(show u=Value.ref a from g);obtain⟨_,_,_,p⟩:=(show xc X.prog X.w H s.heap a (.tup xs)from I.ya a _ r);revert p;refine ea8 ?_;rintro o J O _;exact Qh W.kitx_tuple I.Sd ⟨o,J,O⟩ e (λz=>nomatch z) h
 |@dK a kvs r=>
  cases(show u=Value.ref a from g);refine ec3 ?_ ((show xc X.prog X.w H s.heap a (.dK kvs)from I.ya a _ r));rintro _ _ vs _ p;revert p;refine ebA ?_;rintro o es ep J O _;exact Qh W.kitx_dict I.Sd ⟨o,J,O.1⟩ e (λz=>nomatch z) h
 |@dT a kvs r=>
  cases(show u=Value.ref a from g);refine ec3 ?_ ((show xc X.prog X.w H s.heap a (.dT kvs)from I.ya a _ r));rintro _ _ xs _;refine ebA ?_;rintro o es ep J O _;exact Qh W.kitx_dict I.Sd ⟨o,J,O.1⟩ e (λz=>nomatch z) h
 |@ins a C h0 fs r U b0 c0 d0 e0=>
  cases(g);obtain⟨i0,f0,_⟩:=dy I.ya r;obtain⟨j0,g0,_⟩:=f0.look;exact Qh (W.kitx_own (U.get _) U.hd b0 c0 d0 e0) I.Sd g0 e (λz=>nomatch z) h
end
structure ib(k:Nat)(A:BN):Prop where
 hd:A.handled=sN
 dp:A.depth+3*k+5<QO
 un:A.units+16*k+200<CN
def ib.mono(r:ib k A)(h:j<=k):ib j A:=⟨r.hd,by have:=r.dp;lia,by have:=r.un;lia⟩
def ib.deeper(r:ib (k+1) A)(env:NP):ib k (A.deeper env):=
 ⟨r.hd,by have:=r.dp;show A.depth+1+3*k+5<_;lia,by have:=r.un;show A.units+3+16*k+200<_;lia⟩
def ib.depth(r:ib k A):A.depth<QO:=by have:=r.dp;lia
def ib.units(r:ib k A):A.units+64<CN:=by have:=r.un;lia
def Fp:TA:=λ_ H Q=>Q [] H
def vr(r:TE)(tr:TA):TA:=λg H Q=>r g H λx J=>tr g J λxs O=>Q (x::xs) O
section
variable{X:Cx}{e:IN}{es:List IN}{te:TE}{t:TA}{pos:oO}
def Oc:PA X [] Fp:=⟨λ_ _ _ _ H Q I h=>Nl ⟨[],H,I,.nil,h⟩⟩
def ka(J:PE X e te)(O:PA X es t)(U:DN (e::es) X.env=(yN,SN e X.env)::DN es X.env:=by rfl):PA X (e::es) (vr te t):=by
 constructor;intro pos g s r H Q I h;rw[U];show wpAny _ _ (JP ((yN,SN e X.env)::XN pos (DN es X.env))) _ _ s;refine Gi (xa (J g s r H _ I h) ?_);rintro u Y⟨x,a0,b0,c0,q1⟩;exact xa (O pos g Y r a0 _ b0 q1) (by rintro us g0⟨xs,d0,e0,f0,q2⟩;exact⟨x::xs,d0,e0,.cons c0 f0,q2⟩)
def SD(t:TA):TE:=λr H Q=>t r H λxs g=>xs.length<=vN/\∀p,g p=sN->Q (.ref p) (upd g p (.tup xs))
def TD(t:TA):TE:=λr H Q=>t r H λxs g=>xs.length<=vN/\∀p,g p=sN->Q (.ref p) (upd g p (.lst xs))
def Rb{O}(h:PA X es t):PE X (.Tuple es O pos) (SD t):=by
 constructor;intro U s Y H Q I a0;refine wpAny_Tuple_spliced (xa (h pos U s Y H _ I a0) ?_);rintro us g⟨xs,b0,r,J,z,q⟩;refine⟨by rw[<-J.length];exact z,?_⟩;have c0:=r.ya.fresh (wa _);refine⟨.ref g.heap.objs.size,upd b0 g.heap.objs.size (.tup xs),r.laid (λb u e=>Pa _ e) (wa _) ?_,rfl,q _ c0⟩;exact⟨z,us,J,nx5 _ (yb _ rfl) rfl _ rfl⟩
def jc(h:PA X es t):PE X (.List es pos) (TD t):=by
 constructor;intro O s U H Q I Y;refine wpAny_List_spliced (xa (h pos O s U H _ I Y) ?_);rintro us g⟨xs,a0,r,J,z,q⟩;refine⟨by rw[<-J.length];exact z,?_⟩;have b0:=r.ya.fresh (wa _);refine⟨.ref g.heap.objs.size,upd a0 g.heap.objs.size (.lst xs),r.laid (λb u e=>Pa _ e) (wa _) ?_,rfl,q _ b0⟩;exact⟨z,nx4 us 0 J (yb _ rfl)⟩
end
abbrev Sp:=List V->Hp->VK->XK->Prop
abbrev Zi:=List NP->Hp->tN->XK->rN->tN->Prop
structure Gp(P:zN)(w:AN)(K:W.Frag)(mg:Str->Option rN)(base:EN)(A:BN)(outer:List NP)(s:tN)(H:Hp):Prop where
 frames:A.frames=qN outer
 mod:Mod K mg base
 bs:∀b o,base.get? b=qN o->s.heap.get? b=qN o/\H b=sN
 Vh:base.objs.size<=s.heap.objs.size
 Ld:s.heap.FunFrames base outer
 Sl:∀b∈sg outer,H b=sN
 ya:yc P w H s.heap
 bare:pO s.gens
inductive CE(outer:List NP)(P:zN)(w:AN)(H:Hp)(s:tN)(Q:VK)(u:rN)(s':tN):Prop|mk(v H')(_:s'.os=s.os)(_:pO s'.gens)(_:Un (sg outer) [] H H' s.heap s'.heap)(_:yc P w H' s'.heap)(_:Aa v u)(_:Q v H')
def CR(CX:Zi)(outer:List NP)(P:zN)(w:AN)(H:Hp)(s:tN)(Q:VK)(E:XK)(r:lP)(s':tN):Prop:=
 match r with
 |.ok (.ret u)=>CE outer P w H s Q u s'
 |.ok _=>False
 |.error e=>CX outer H s E e s'
structure kd(P:zN)(w:AN)(K:W.Frag)(mg:Str->Option rN)(base:EN)(CX:Zi)(k:Nat)(f:uN)(fd:UN)(ps:List Str)(sp:Sp):Prop where
 len:∀vs H Q E,sp vs H Q E->vs.length=ps.length
 run:∀(A:BN)(outer:List NP)(s:tN)(H:Hp)(args:Args)(us:List rN)(vs:List V)(Q:VK)(E:XK),ib k A->Gp P w K mg base A outer s H->dP s fd args (ps.zip us)->Ia vs us->sp vs H Q E->
  codeAny (xN P w) A (.call (.ref f) args) (CR CX outer P w H s Q E) s
def kd.mono{K:W.Frag}(F:kd P w K mg base CX j f fd g sp)(h:j<=k):
  kd P w K mg base CX k f fd g sp:=⟨F.len,λA outer s H args us vs Q E r=>F.run A outer s H args us vs Q E (r.mono h)⟩
section
variable{X:Cx}{pins:List (uN×TN)}{σ:St}{H:Hp}{s s':tN}
def Inv.tf(I:Inv X pins σ H s):Gp X.prog X.w X.K X.mg X.base X.A X.stack s H:=
 ⟨I.ok.frames,I.ok.mod,I.bs,gb I.ok.Vh I.sz,I.stack,I.De,I.ya,I.bare⟩
def Inv.after(I:Inv X pins σ H s)(h:CE X.stack X.prog X.w H s Q u s'):EP X pins σ Q u s':=by
 obtain⟨v,H',os,g,un,r,J,q⟩:=h;obtain⟨U,Y,d,t,O⟩:=s';obtain rfl:O=s.os:=os;exact⟨v,H',I.call un r g (by(intros;simp_all)),J,q⟩
end
def fy(sp:Sp)(g:List V)(E:XK)(t:TA):TE:=λr H Q=>t r H λvs J=>sp (vs++g) J Q E
def Zd(K:W.Frag)(fd:UN)(g:List Str)(r:List rN):Prop:=
 ∀(s:tN)(us:List rN),K.In s.heap->(us++r).length=g.length->dP s fd ⟨us,[]⟩ (g.zip (us++r))
def Zd.all{K:W.Frag}(h:∀us:List rN,us.length=g.length->uP fd ⟨us,[]⟩=pure (g.zip us)):Zd K fd g []:=λs us _ r=>by
 rw[z1h]at r⊢;exact .of_eq (h us r)
def Lu(CX:Zi)(X:Cx)(E:XK):Prop:=∀(g:List (uN×TN))(r:St)(H:Hp)(s:tN)(e:rN)(s':tN),Inv X g r H s->CX X.stack H s E e s'->X.xe e s'
section
variable{X:Cx}{CX:Zi}{k:Nat}{f C:uN}{fd:UN}{ps:List Str}{sp:Sp}{Ip:List V}{ds:List rN}{E:XK}{x m:Str}{p pos apos:oO}{e o:IN}{es:List IN}{ta:TE}{t:TA}
def Mu{r:St}(F:kd X.prog X.w X.K X.mg X.base CX k f fd ps sp)(Y:ib k X.A)(a0:Zd X.K fd ps ds)(b0:Ia Ip ds)(c0:Lu CX X E)
  (I:Inv X O r H s)(J:Ia vs us)(h:sp (vs++Ip) H Q E):wpAny (xN X.prog X.w) X.A (call (.ref f) us) (EP X O r Q) X.xe s:=by
 have U:=J.append b0;have d0:(us++ds).length=ps.length:=by rw[<-U.length];exact F.len _ _ _ _ h
 refine fP (Kl (F.run X.A X.stack s H ⟨us,[]⟩ (us++ds) (vs++Ip) Q E Y I.tf (a0 s us I.Sd d0) U h) λJ s' g=>?_);cases J with
 |error e=>exact c0 O r H s e s' I g
 |ok e0=>
  cases e0 with
  |ret u=>exact I.after g
  |next=>exact False.elim g
  |brk=>exact False.elim g
  |cont=>exact False.elim g
def zn(F:kd X.prog X.w X.K X.mg X.base CX k f fd ps sp)(r:ib k X.A)(J:Gl X x)(O:X.mg x=qN (.ref f))(U:W.keepIn X.K (.ref f)=wN)(Y:Zd X.K fd ps ds)(a0:Ia Ip ds)(b0:Lu CX X E)
  (c0:PA X (e::es) t)(d0:(x==("__debug__":Str))=yN:=by decide)(e0:DN (e::es) X.env=(yN,SN e X.env)::DN es X.env:=by rfl)(f0:(XN pos (DN es X.env)).any (·.1)=yN:=by rfl):
  PE X (.Call (.Name x p) (e::es) [] pos) (fy sp Ip E t):=by
 constructor;intro g0 s h0 H Q I h;refine lh (nr I J O ?_ d0);refine W.callWith_K I.ok.mod.lr U (xa (c0 pos g0 s h0 H _ I h) ?_) e0 f0;rintro us j0⟨vs,k0,g,i0,q⟩;refine⟨g.Sd,?_⟩;exact Mu F r Y a0 b0 g i0 q
structure Mk(K:W.Frag)(C f:uN):Prop where
 makes:W.makesIn K C=wN
 init:W.findIn K (.ref C) "__init__"=qN (qN (.ref f))
 fn:W.isFn K (.ref f)=wN
 kp:W.keepIn K (.ref C)=wN
end
structure An(N P:List Str)(sc:ZN):Prop where
 kind:sc.kind=.function
 co:sc.isCoroutine=yN
 gen:sc.isGenerator=yN
 nd:N.Nodup
 pre:N.take P.length=P
 par:∀x∈P,sc.names.lookup x=qN .local\/sc.names.lookup x=qN .cell
 am:∀y∈sc.names,y.2≠.free
def gy{kindOf:Str->Option jO}:∀{binds:List (Str×rN)}{m:Str->Option rN},(∀v,(x,v)∉binds)->bindL kindOf binds m x=m x
 |[],_,_=>rfl
 |(n,v)::g,m,h=>by
  unfold bindL;rw[gy λw r=>h w (by grind)];split
  ·grind
  ·rfl
def iy{kindOf:Str->Option jO}:∀{binds:List (Str×rN)}{m:Str->Option rN},(∀v,(x,v)∉binds)->bindC kindOf binds m x=m x
 |[],_,_=>rfl
 |(n,v)::g,m,h=>by
  unfold bindC;rw[iy λw r=>h w (by grind)];split
  ·rfl
  grind
def jy{kindOf:Str->Option jO}:∀{P:List Str}{vs:List rN}{i:Nat}{m:Str->Option rN},P.Nodup->P[i]?=qN x->vs[i]?=qN v->kindOf x=qN .local->
  bindL kindOf (P.zip vs) m x=qN v
 |[],_,_,_,_,h,_,_=>by simp at h
 |_::_,[],_,_,_,_,h,_=>by simp at h
 |p::P,w::vs,0,m,J,g,r,O=>by
  simp at g r;subst g;subst r;show bindL kindOf ((p,w)::P.zip vs) m p=_;unfold bindL;rw[gy λv U=>(Qg.mp J).1 (Pm U).1,va O];simp
 |p::P,w::vs,i+1,m,J,g,r,O=>by
  unfold bindL;exact jy (Qg.mp J).2 (by simpa using g) (by simpa using r) O
def ky{kindOf:Str->Option jO}:∀{P:List Str}{vs:List rN}{i:Nat}{m:Str->Option rN},P.Nodup->P[i]?=qN x->vs[i]?=qN v->kindOf x≠qN .local->
  bindC kindOf (P.zip vs) m x=qN v
 |[],_,_,_,_,h,_,_=>by simp at h
 |_::_,[],_,_,_,_,h,_=>by simp at h
 |p::P,w::vs,0,m,J,g,r,O=>by
  simp at g r;subst g;subst r;show bindC kindOf ((p,w)::P.zip vs) m p=_;unfold bindC;rw[iy λv U=>(Qg.mp J).1 (Pm U).1,na O];simp
 |p::P,w::vs,i+1,m,J,g,r,O=>by
  unfold bindC;exact ky (Qg.mp J).2 (by simpa using g) (by simpa using r) O
def start(N:List Str)(vs:List V):St:=vs.map qN++List.replicate (N.length-vs.length) sN
def Tk(CX:Zi)(P:zN)(w:AN)(K:W.Frag)(mg:Str->Option rN)(base:EN)(N:List Str)(g:Str)(scope:ZN)(f:uN)(cd:rN)(A:BN)(outer:List NP)(s:tN)(H:Hp)(E:XK):Cx where
 prog:=P
 w:=w
 K:=K
 mg:=mg
 base:=base
 A:=A.deeper (CO g scope s.heap.objs.size f cd)
 N:=N
 s₀:=s
 H₀:=H
 env:=CO g scope s.heap.objs.size f cd
 outer:=outer
 stack:=CO g scope s.heap.objs.size f cd::outer
 ex:=[]
 calm:=wN
 fn:=λ_=>wN
 pn:=[]
 xe:=λe s'=>wpAny (xN P w) (A.deeper (CO g scope s.heap.objs.size f cd)) (leaving (CO g scope s.heap.objs.size f cd) e) (λ_ r=>CX outer H s E e r) (λJ r=>CX outer H s E J r) s'
def ly{g:ZN}(h:g.names.lookup x=qN .cell):∃c,(RN n g.names []).lookup x=qN c:=by
 have q:=Mm g.names n [] (.inl h);exact jn.mp q
def UD{CX:Zi}{P:zN}{w:AN}{K:W.Frag}{mg:Str->Option rN}{base:EN}{N r:List Str}{O:Str}{scope:ZN}{f:uN}{cd:rN}{A:BN}{outer:List NP}{s b0:tN}{H:Hp}{E:XK}{us:List rN}{vs:List V}
  (S:An N r scope)(f0:A.handled=sN)(g:Gp P w K mg base A outer s H)(k0:vs.length=r.length)(g0:Ia vs us)
  (x:InCallC s s.heap.objs.size (bindL (CO O scope s.heap.objs.size f cd).kindOf (r.zip us) λ_=>sN) (RN (s.heap.objs.size+1) scope.names []) (bindC (CO O scope s.heap.objs.size f cd).kindOf (r.zip us) λ_=>sN) b0):
  Inv (Tk CX P w K mg base N O scope f cd A outer s H E) [] (start N vs) H b0:=by
 have l0:r.length<=N.length:=by have:=Vb List.length S.pre;rw[se]at this;lia
 refine eaA ?_ x.done;rintro U m0 rfl c0;have h0:∀b:uN,b∉(Tk CX P w K mg base N O scope f cd A outer s H E).ex:=λb z=>absurd (show b∈([]:List uN)from z) (by simp)
 refine⟨⟨g.mod,S.kind,rfl,rfl,wa _,λy z c U J=>?_,λy hy=>?_,λy c _ h=>?_,λ_=>f0,Around.frames_deeper g.frames,.inr ⟨rfl,rfl⟩,by(intros;simp_all),g.bs,g.Vh,λb _ _=>h0 b,by(intros;simp_all),g.Ld,g.Sl⟩,
  rfl,g.bare,Un.kept c0,⟨_,x.toInCall.ns,λi y v U J n0=>?_⟩,λy c h=>⟨_,x.cell y c h⟩,g.ya.fresh (wa _),λy c h=>?_,λp Y=>absurd (show p∈([]:List (uN×TN))from Y) (by simp),g.ya.kept c0,?_⟩
 ·exact name_of_addr x.apart (uh U) (uh J)
 ·have hy:scope.names.lookup y=qN .cell\/scope.names.lookup y=qN .free:=hy;rcases hy with hy|hy
  ·exact ly hy
  ·exact absurd rfl (S.am _ (uh hy))
 ·exact vj (x.above y c (uh h))
 ·have a0:i<vs.length:=by
   unfold start at J;by_cases a0:i<vs.length
   ·exact a0
   ·grind
  have i0:vs[i]?=qN v:=by
   unfold start at J;rw[Vo (by simpa using a0),lb]at J;cases e:vs[i]? with
   |none=>rw[e]at J;cases J
   |some a=>simp_all
  refine ea1 ?_ (g0.get i0);rintro u d0 j0;have Y:r[i]?=qN y:=by
   rw[<-S.pre,List.getElem?_take_of_lt (by simp_all)];exact U
  have e0:r.Nodup:=by rw[<-S.pre];exact S.nd.sublist (by grind)
  refine⟨u,j0,?_⟩;rcases S.par y (by grind)with k|k
  ·exact .inl ⟨k,jy e0 Y d0 k⟩
  ·obtain⟨c,e⟩:=ly (n:=s.heap.objs.size+1) k;refine .inr ⟨.inl k,c,e,?_⟩;have q:=x.cell y c e;rw[ky e0 Y d0 (by show scope.names.lookup y≠_;grind)]at q;exact q
 ·exact g.ya.fresh (vj (x.above y c (uh h)))
 ·unfold start;show _=N.length
  simp_all
def my{CX:Zi}{P:zN}{w:AN}{K:W.Frag}{mg:Str->Option rN}{base:EN}{k:Nat}{f:uN}{name r:Str}{e0:Arguments}{b0:List aO}{scope:ZN}{f0 kV g0 h0 J ct m0:rN}{i0 n0:Option uN}
  {o0:Array (Option rN)}{N Y:List Str}{sp:Sp}(lk:K.lookup f=qN ⟨m0,n0,.func (W.fnOf name r e0 b0 scope f0 kV g0 h0 i0 J ct),o0⟩)(p0:W.codeIn K J r=wN)(S:An N Y scope)
  (len:∀vs H Q E,sp vs H Q E->vs.length=Y.length)
  (q0:∀(A:BN)(outer:List NP)(s:tN)(H:Hp)(vs:List V)(Q:VK)(E:XK),ib k (A.deeper (CO r scope s.heap.objs.size f J))->sp vs H Q E->
   ∃t,Ee (Tk CX P w K mg base N r scope f J A outer s H E) b0 t/\t {nx:=λ_ H'=>Q .Ra H',rt:=Q} (start N vs) H):
  kd P w K mg base CX (k+1) f (W.fnOf name r e0 b0 scope f0 kV g0 h0 i0 J ct) Y sp:=by
 refine⟨len,λA outer s H args us vs Q E c0 U r0 s0 j0=>?_⟩;have t0:=len _ _ _ _ j0;have k0:=U.mod.lr.keeps λb o e=>(U.bs b o e).1
 have u0:=U.mod.nolimit.keeps λb o e=>(U.bs b o e).1
 have v0:∀y∈Y.zip us,scope.names.lookup y.1=qN .local\/(scope.names.lookup y.1=qN .cell/\((RN (s.heap.objs.size+1) scope.names []).lookup y.1).isSome=wN):=λ⟨n,v⟩w0=>by
  rcases S.par n (Pm w0).1 with q|q
  ·exact .inl q
  ·exact .inr ⟨q,Mm _ _ _ (.inl q)⟩
 refine codeAny_call_function c0.depth (k0 _ _ lk) rfl S.co S.gen rfl (W.codeRec_of k0 p0) (r0 _ _ _ _ ?_);refine wpAny_newFunctionEnv_cells S.kind v0 λenv x0 l0 x=>?_
 subst x0;refine⟨u0.keeps x.toInCall.keep,codeAny_func ?_⟩;refine ea1 ?_ (q0 A outer s H vs Q E (c0.deeper _) j0);rintro t y0 z0;have I:Inv (Tk CX P w K mg base N r scope f J A outer s H E) [] (start N vs) H l0:=UD S c0.hd U t0 s0 x;refine zd (y0 [] l0 (start N vs) H _ I z0) (λA0 s' O=>?_) λe s' O=>O
 have fin:∀{a0:St}{H':Hp}{v:V}{u:rN},Inv (Tk CX P w K mg base N r scope f J A outer s H E) [] a0 H' s'->Aa v u->Q v H'->CE outer P w H s Q u s' :=
  λ{a0 H' v u}g d0 q=>⟨v,H',g.os,g.bare,g.base,g.ya,d0,q⟩
 cases A0 with
 |ret u=>
  revert O;refine ebA ?_;rintro v a0 H' g d0 q;exact fin g d0 q
 |next=>
  revert O;refine eaA ?_;rintro a0 H' g q;exact fin (v:=V.Ra) g rfl q
 |brk=>
  revert O;refine eaA ?_;rintro _ _ _ q;exact False.elim q
 |cont=>
  revert O;refine eaA ?_;rintro _ _ _ q;exact False.elim q
section
variable{X:Cx}{x:Str}{p pos:oO}{e:IN}{es:List IN}{t:TA}{id T:String}{r:List V->Hp->VK->Prop}
def ny(r:List V->Hp->VK->Prop)(t:TA):TE:=λg H Q=>t g H λvs J=>r vs J Q
def Cd(O:Kf X (.builtin id) r)(U:Gl X x)(Y:X.mg x=sN)(a0:mO x=qN (.builtin id))(b0:PA X (e::es) t)(c0:x≠"__name__":=by decide)(d0:(x==("__debug__":Str))=yN:=by decide)
  (e0:DN (e::es) X.env=(yN,SN e X.env)::DN es X.env:=by rfl)(f0:(XN pos (DN es X.env)).any (·.1)=yN:=by rfl):PE X (.Call (.Name x p) (e::es) [] pos) (ny r t):=by
 constructor;intro g s J H Q I h;refine lh (Xf I U Y a0 ?_ c0 d0);exact ju (xa (b0 pos g s J H _ I h) (by rintro us g0⟨vs,h0,i0,j0,q1⟩;exact O g g0 J h0 vs us Q i0 j0 q1)) e0 f0
def aj(O:Kf X (.type T) r)(U:Gl X x)(Y:X.mg x=sN)(a0:mO x=qN (.type T))(b0:PA X (e::es) t)(c0:x≠"__name__":=by decide)(d0:(x==("__debug__":Str))=yN:=by decide)
  (e0:DN (e::es) X.env=(yN,SN e X.env)::DN es X.env:=by rfl)(f0:(XN pos (DN es X.env)).any (·.1)=yN:=by rfl):PE X (.Call (.Name x p) (e::es) [] pos) (ny r t):=by
 constructor;intro g s J H Q I h;refine lh (Xf I U Y a0 ?_ c0 d0);exact yk (xa (b0 pos g s J H _ I h) (by rintro us g0⟨vs,h0,i0,j0,q1⟩;exact O g g0 J h0 vs us Q i0 j0 q1)) e0 f0
end
end L2
namespace HT
open PySem PyProof.Rows
def lexLt:List Int->List Int->Bool
 |[],[]=>yN
 |[],_::_=>wN
 |_::_,[]=>yN
 |x::xs,y::ys=>if x=y then lexLt xs ys else decide (x<y)
def Fb(x y:Int)(xs ys:List Int):lexLt (x::xs) (y::ys)=if x=y then lexLt xs ys else decide (x<y):=rfl
def Tb:lexLt [] []=yN:=rfl
def VD(y:Int)(ys:List Int):lexLt [] (y::ys)=wN:=rfl
def WD(x:Int)(xs:List Int):lexLt (x::xs) []=yN:=rfl
def XD(A:BN)(s:tN)(a:Int)(t:Tok)(c:Int)(u:Tok):∃e,SeqAt.EqAt A s (.int a t) (.int c u) e/\(e=wN↔a=c):=
 ⟨(a==c),SeqAt.EqAt.int_int a t c u,by simp⟩
def YD(A:BN)(s:tN)(a:Int)(t:Tok)(c:Int)(u:Tok)(prog:zN)(w:AN)(E:rN->tN->Prop)(Q:rN->tN->Prop)(h:Q (.bool (decide (a<c))) s):
  wpAny (xN prog w) A (richCompare .Lt (.int a t) (.int c u)) Q E s:=
 (PyProof.Rows.lt_int h:wpAny (xN prog w) A (LN .Lt (.int a t) (.int c u)) Q E s)
section
open PySem.SeqAt
open PySem.AutoSeq1(wpAny_loadPart')
open PySem.MeetsSeq PySem.MeetsSeq2 PySem.MeetsSeq3
def ZD(l b:uN)(items O:Array rN)(n i0:Nat)(dd j0:Option uN)(k0 l0:Array (Option rN))(ns ms:List Int)(m0:uO items.toList ns)(n0:uO O.toList ms):
  Meets (Builtin.«tuple.__lt__» ⟨[.ref l,.ref b],[]⟩)
   (λ_ R s=>s.heap.get? l=qN {cls:=.type "tuple",dict:=dd,data:=.seq items n,slots:=k0}/\s.heap.get? b=qN {cls:=.type "tuple",dict:=j0,data:=.seq O i0,slots:=l0}/\
    R (.ok (.ret (.bool (lexLt ns ms)))) s):=
 .of_wp λprog w A R s h=>by
  obtain⟨Y,a0,d,b0,os⟩:=s;revert h;refine ea3 ?_;rintro o0 p0 h;have x0:=AutoSeq1.sub_tuple_tuple;have y0:items.size=ns.length:=by rw[<-m0.length];simp
  have z0:O.size=ms.length:=by rw[<-n0.length];simp
  wp_walk using wpAny_loadPart' o0,wpAny_loadPart' p0,wpAny_forIn_list _ (λg0 b s'=>b.1=sN/\s'=⟨Y,a0,d,b0,os⟩/\∃(vs c0:List rN)(g r:List Int),g0=vs.zip c0/\
   uO vs g/\uO c0 r/\g.length+O.size=r.length+items.size/\R (.ok (.ret (.bool (lexLt g r)))) ⟨Y,a0,d,b0,os⟩) _
  case turn=>
   rintro⟨y,x⟩g0 b s';refine ebE ?_;rintro e0 rfl vs c0 g r hz f0 d0 U J;cases f0 with
   |nil=>rw[List.zip_nil_left]at hz;cases hz
   |cons a t A0=>
    cases d0 with
    |nil=>rw[List.zip_nil_right]at hz;cases hz
    |cons c u B0=>
     rw[Il]at hz;injection hz with q0 C0;injection q0 with r0 s0;subst r0 s0;rw[Fb]at J;simp only[Vd]at U;refine ea1 ?_ (XD A.in1 ⟨Y,a0,d,b0,os⟩ a t c u);rintro e t0 u0;refine ba (t0 prog w _ _ ?_);cases e with
     |true=>
      rw[va (u0.mp rfl)]at J;wp_walk
      exact(by grind)
     |false=>
      rw[na (by simp_all)]at J;have v0:=YD A.in1 ⟨Y,a0,d,b0,os⟩ a t c u prog w;wp_walk using v0
      exact(by simp_all)
  case fin=>
   rintro⟨D0,F0⟩s';refine ebE ?_;rintro e0 rfl vs c0 g r hz f0 d0 U J;simp only at e0;subst e0;have h0:lexLt g r=decide (items.size<O.size):=by
    cases f0 with
    |nil=>
     cases d0 with
     |nil=>
      simp only[Ak]at U;rw[Tb];exact(he (by simp_all)).symm
     |cons c u w0=>
      simp only[Ak,Vd]at U;rw[VD];exact(Xb (by simp_all)).symm
    |cons a t h0=>
     cases d0 with
     |nil=>
      simp only[Ak,Vd]at U;rw[WD];exact(he (by lia)).symm
     |cons c u w0=>
      rw[Il]at hz;cases hz
   rw[h0]at J;wp_walk
   exact⟨_,rfl,by simpa[Builtin.Tuple.tupleCompareSizes]using J⟩
  case h=>
   exact(by grind)
end
section
variable{prog:zN}{w:AN}{A:BN}{E:rN->tN->Prop}{s:tN}
def Jc(Y:IsTup s.heap l items)(a0:IsTup s.heap b g)(b0:uO items.toList ns)(c0:uO g.toList ms)
  (d0:A.units<CN)(h:Q (.bool (lexLt ns ms)) s):wpAny (xN prog w) A (LN .Lt (.ref l) (.ref b)) Q E s:=by
 refine ec7 ?_ (id Y);rintro⟨cls,dd,data,e0⟩f0 r n J;refine ec7 ?_ (id a0);rintro⟨k0,g0,data2,h0⟩i0 O j0 U;simp only at r J O U;subst r J O U;exact richCompare_meets_room (op:=.Lt) ⟨_,f0,rfl⟩ ⟨_,i0,rfl⟩ F.slot_tuple_lt F.entry_tuple_lt (F.args_tuple_lt_2 _ _) (ZD l b items g n j0 dd g0 e0 h0 ns ms b0 c0)
  (by grind) d0
def Jj(g0:IsTup s.heap t vs.toArray)(h0:IsTup s.heap b g.toArray)(i0:vs≠[])
  (j0:g=[]->Q (.ref t) s)(k0:g≠[]->Q (.ref s.heap.objs.size) {s with heap:=s.heap.push {cls:=.type "tuple",data:=.seq (vs++g).toArray}})
  (hsz:vs.length+g.length<=vN):wpAny (xN prog w) A (gO .Add (.ref t) (.ref b)) Q E s:=by
 refine ec7 ?_ (id g0);rintro⟨cls,dd,data,U⟩r Y n a0;refine ec7 ?_ (id h0);rintro⟨l0,b0,data2,c0⟩J d0 e0 f0;simp only at Y a0 d0 f0;subst Y a0 d0 f0;have e:vs.toArray++g.toArray=(vs++g).toArray:=by simp
 by_cases O:g=[]
 ·exact concat_meets ⟨_,r,rfl⟩ ⟨_,J,rfl⟩ noFill_tuple_add seq_tuple_add F.slot_tuple_add F.entry_tuple_add (F.args_tuple_add_2 _ _)
   (tuple_addW1 t b vs.toArray g.toArray n e0 dd b0 U c0 (by simpa using i0) (by simp[O])) ⟨r,J,j0 O⟩
 ·refine concat_meets ⟨_,r,rfl⟩ ⟨_,J,rfl⟩ noFill_tuple_add seq_tuple_add F.slot_tuple_add F.entry_tuple_add (F.args_tuple_add_2 _ _)
   (tuple_addW2 t b vs.toArray g.toArray n e0 dd b0 U c0 (by simp[*]) (by simp_all) (by omega)) ⟨r,J,?_⟩
  rw[e];exact k0 O
def uf(n d:Nat):Option Int->Nat
 |none=>d
 |some v=>if v<0 then(v+(n:Int)).toNat else min v.toNat n
def ae(n d:Nat):uf n d sN=d:=rfl
def Ge(n d k:Nat):uf n d (qN (k:Int))=min k n:=by
 show(if(k:Int)<0 then((k:Int)+(n:Int)).toNat else min (k:Int).toNat n)=min k n;rw[na (by lia),mh]
end
end HT
namespace L2
open PySem PySem.Spec PyProof.Rows
abbrev TO:=St->Hp->(Option Int->Hp->Prop)->Prop
structure PO(X:Cx)(e:Option IN)(t:TO):Prop where
 run:∀(pins:List (uN×TN))(s:tN)(σ:St)(H:Hp)(Q:Option Int->Hp->Prop),Inv X pins σ H s->t σ H Q->
  wpAny (xN X.prog X.w) X.A (evalPart e X.env) (λu s'=>∃o H',Inv X pins σ H' s'/\IsPart u o/\Q o H') X.xe s
instance{X:Cx}{e:Option IN}{t:TO}:CoeFun (PO X e t) λ_=>∀(pins:List (uN×TN))(s:tN)(σ:St)(H:Hp)(Q:Option Int->Hp->Prop),Inv X pins σ H s->t σ H Q->
  wpAny (xN X.prog X.w) X.A (evalPart e X.env) (λu s'=>∃o H',Inv X pins σ H' s'/\IsPart u o/\Q o H') X.xe s:=⟨PO.run⟩
def aE:TO:=λ_ H Q=>Q sN H
def bE(t:TE):TO:=λg H Q=>t g H λx r=>∃i,x=.int i/\Q (qN i) r
section
variable{X:Cx}{e:IN}{te:TE}{lo hi:Option IN}{tl th:TO}{pos p2:oO}
def Zh:PO X sN aE:=by
 constructor;intro g s r H Q I h;exact ga (nx0 sN H I (.none) h)
def ai(h:PE X e te):PO X (qN e) (bE te):=by
 constructor;intro g s r H Q I J;refine xa (h g s r H _ I J) ?_;rintro u a0⟨x,O,U,Y,q1⟩;obtain⟨i,rfl,q⟩:=q1;obtain⟨t,rfl⟩:=Y;exact nx0 (qN i) O U (.int i t) q
def oy(X:Cx)(Y:V->Option Int->Option Int->Hp->VK->Prop):Prop:=
 ∀(g:List (uN×TN))(s:tN)(r:St)(H:Hp)(x:V)(v J O:rN)(lo hi:Option Int)(U:uN)(Q:VK),Inv X g r H s->Aa x v->s.heap.IsSliceOf U J O .none->IsPart J lo->IsPart O hi->Y x lo hi H Q->
  ∃T id,gP (.type T) "__getitem__"=pure (qN (.builtin id))/\s.TypeIs v T/\wpAny (xN X.prog X.w) X.A (sP v (.ref U)) (EP X g r Q) X.xe s
def cE(r:V->Option Int->Option Int->Hp->VK->Prop)(te:TE)(tl th:TO):TE:=λg H Q=>te g H λx J=>tl g J λl O=>th g O λu U=>r x l u U Q
def bi(a0:oy X b0)(c0:PE X e te)(d0:PO X lo tl)(e0:PO X hi th):PE X (.Subscript e (.Slice lo hi sN p2) pos) (cE b0 te tl th):=by
 constructor;intro g s r H Q I h;refine Subscript_ (xa (c0 g s r H _ I h) ?_);rintro v f0⟨x,g0,h0,i0,q1⟩;refine wpAny_Slice (xa (d0 g f0 r g0 _ h0 q1) ?_);rintro O j0;refine ea0 ?_;rintro l k0 l0 pl q2;refine xa (e0 g j0 r k0 _ l0 q2) ?_;rintro U J;refine ea0 ?_;rintro u Y m0 n0 q3;refine ga ?_;have o0:Inv X g r Y {J with heap:=J.heap.push {cls:=.type "slice",data:=.fields #[O,U,.none]}}:=m0.kept λb ob q=>Pa _ q
 refine ea0 ?_ (a0 g {J with heap:=J.heap.push {cls:=.type "slice",data:=.fields #[O,U,.none]}} r Y x v O U l u J.heap.objs.size Q o0 i0 (Heap.IsSliceOf.new ..) pl n0 q3);rintro T id p0 q0 r0;exact tail_any q0 p0 r0 (by with_unfolding_all rfl)
def ag(xs:List V)(lo hi:Option Int):List V:=(xs.drop (HT.uf xs.length 0 lo)).take (HT.uf xs.length xs.length hi-HT.uf xs.length 0 lo)
def dE(xs:List V)(lo hi:Option Int):(ag xs lo hi).length<=xs.length:=by
 unfold ag;rw[se,Kg];lia
inductive eE(K:W.Frag)(x y:V)(H:Hp)(Q:VK):Prop|mk(a b xs ys)(_:x=.ref a)(_:y=.ref b)(_:oa K H a xs)(_:oa K H b ys)(_:xs≠[])(_:xs.length+ys.length<=vN)(_:(ys=[]->Q (.ref a) H))(_:(ys≠[]->∀p,H p=sN->Q (.ref p) (upd H p (.tup (xs++ys)))))
def Ia.He(r:Ia xs us):us=[]↔xs=[]:=by
 cases r with
 |nil=>simp
 |cons _ _=>simp
def fE:Ic X (gO .Add) (eE X.K):=by
 intro c0 s d0 H x y v u Q I J O h;obtain⟨a,b,xs,ys,rfl,rfl,U,Y,a0,hz,q1,q2⟩:=h;cases J;cases O;refine ea8 ?_ (I.tuple U);rintro e0 r b0 _;refine ea8 ?_ (I.tuple Y);rintro f0 g p2 _;refine HT.Jj b0 p2 (λz=>a0 (r.He.mp z)) (λz=>⟨.ref a,H,I,rfl,q1 (g.He.mp z)⟩) (λz=>?_) (by rw[<-r.length,<-g.length];exact hz);refine⟨.ref s.heap.objs.size,_,I.laid (λb ob q=>Pa _ q) (wa _) ?_,rfl,q2 (λw=>z (g.He.mpr w)) _ (I.ya.fresh (wa _))⟩;exact⟨by rw[Ya];exact hz,_,r.append g,IsTup.new _ _⟩
end
def bj(n:Nat)(i:Int):Option Nat:=if 0<=i then(if i<n then qN i.toNat else sN)else if-(n:Int)<=i then qN (i+n).toNat else sN
def Lf{α:Type}(xs:List α)(i:Int):Option α:=(bj xs.length i).bind λj=>xs[j]?
def gE(h:bj n i=qN j):seqIndex? i n=qN j/\j<n/\-(n:Int)<=i/\i<n:=by
 unfold bj at h;by_cases r:0<=i
 ·rw[va r]at h;by_cases g:i<n
  ·rw[va g]at h;have e:=Ed h;exact⟨by rw[seqIndex_of r g,e],by lia,by lia,g⟩
  ·rw[na g]at h;cases h
 ·rw[na r]at h;by_cases g:-(n:Int)<=i
  ·rw[va g]at h;have e:=Ed h;exact⟨by rw[seqIndex_neg (by simp_all) g,e],by lia,g,by lia⟩
  ·rw[na g]at h;cases h
def Nu(h:Lf xs i=qN v):∃j,seqIndex? i xs.length=qN j/\xs[j]?=qN v/\j<xs.length/\-(xs.length:Int)<=i/\i<xs.length:=by
 unfold Lf at h;cases e:bj xs.length i with
 |none=>rw[e]at h;cases h
 |some j=>
  rw[e]at h;refine eb4 ?_ (gE e);rintro g r J O;exact(by simp_all)
def qb{j:Nat}(h:xs[j]?=qN v):Lf xs (j:Int)=qN v:=by
 have g:=(rb.mp h).1;have e:bj xs.length (j:Int)=qN j:=by
  unfold bj;rw[va (by simp_all),va (by simp_all)];simp
 unfold Lf;rw[e];exact h
def py(b:IN):Prop:=∀o i,DP b yN o i=operate [o,i] (sP o i)
def Bn(X:Cx)(O:R2):Prop:=
 ∀(U g:IN)(r:List (uN×TN))(s:tN)(J:St)(H:Hp)(x y:V)(v u:rN)(Q:VK),Inv X r J H s->Aa x v->Aa y u->O x y H Q->
  DP g yN v u=operate [v,u] (sP v u)->wpAny (xN X.prog X.w) X.A (subscriptTail U g v u) (EP X r J Q) X.xe s
def Ou(X:Cx)(id:String)(J:V->List V->Hp->VK->Prop):Prop:=
 ∀(g:List (uN×TN))(s:tN)(r:St)(H:Hp)(x:V)(xs:List V)(v:rN)(us:List rN)(Q:VK),Inv X g r H s->Aa x v->Ia xs us->J x xs H Q->
  wpAny (xN X.prog X.w) X.A (call (.builtin id) (v::us)) (EP X g r Q) X.xe s
section
variable{X:Cx}{a b:IN}{ta tb:TE}{pos:oO}
def hE(g:Bn X r)(J:PE X a ta)(O:PE X b tb)(U:py b):PE X (.Subscript a b pos) (Qk r ta tb):=by
 constructor;intro Y s a0 H Q I h;exact Subscript_ (Cu J O I h λv u b0 x y c0 d0 e0 f0 q=>g a b Y b0 a0 c0 x y v u Q d0 e0 f0 q (U _ _))
inductive qy(K:W.Frag)(x y:V)(H:Hp)(Q:VK):Prop|mk(p xs i v)(_:x=.ref p)(_:y=.int i)(_:ca K H p xs)(_:Lf xs i=qN v)(_:Q v H)
inductive ry(K:W.Frag)(x y:V)(H:Hp)(Q:VK):Prop|mk(p xs i v)(_:x=.ref p)(_:y=.int i)(_:oa K H p xs)(_:Lf xs i=qN v)(_:Q v H)
def ci:Bn X (qy X.K):=by
 intro m0 n0 a0 s b0 H x y v u Q I c0 d0 h J;obtain⟨p,xs,i,z,rfl,rfl,e0,f0,q⟩:=h;cases c0;obtain⟨t,rfl⟩:=d0;refine ea8 ?_ (I.list e0);rintro g0 O pl hz;obtain⟨j,g,h0,o0,i0,j0⟩:=Nu f0;obtain⟨w,U,k0⟩:=O.get h0;have l0:=O.length;have p0:=Iu;have fin:EP X a0 b0 Q w s:=⟨z,H,I,k0,q⟩;by_cases Y:0<=i
 ·have r:i.toNat=j:=by
   rw[seqIndex_of Y j0]at g;exact Ed g
  exact item_listR pl.isList Y (by lia) (by rw[r];simpa using U) fin J
 ·have r:(i+(g0.toArray.size:Int)).toNat=j:=by
   rw[seqIndex_neg (by lia) i0]at g;rw[uc,<-l0];exact Ed g
  exact aQ (x:=w) pl.isList.typeIs slot_list_getitem.lookup
   (wpAny_getItem_list_neg pl.isList (by lia) (by rw[uc]<;>simp_all) (by lia) (by rw[r];simpa using U) ⟨rfl,fin⟩) J
def zb:Bn X (ry X.K):=by
 intro h0 i0 r s J H x y v u Q I O U h Y;obtain⟨p,xs,i,z,rfl,rfl,a0,b0,q⟩:=h;cases O;obtain⟨t,rfl⟩:=U;refine ea8 ?_ (I.tuple a0);rintro j0 g pl hz;obtain⟨j,c0,d0,k0,l0,m0⟩:=Nu b0;obtain⟨w,e0,f0⟩:=g.get d0;have g0:=g.length;have n0:=Iu;have fin:EP X r J Q w s:=⟨z,H,I,f0,q⟩;exact aQ pl.typeIs slot_tuple_getitem.lookup
  (getItem_tuple pl (by lia) (by lia) (by rw[uc,<-g0];exact c0) (by simpa using e0) ⟨rfl,fin⟩) Y
def Inv.lst{r:List (uN×TN)}{J:St}{H:Hp}{s:tN}{p:uN}{xs:List V}(I:Inv X r J H s)(h:H p=qN (.lst xs)):
  ∃(g:List rN)(n:Nat),Ia xs g/\s.heap.get? p=qN {cls:=.type "list",data:=.seq g.toArray n}/\xs.length<=vN:=by
 refine eb3 ?_ (I.ya p _ h);rintro z g n O e;exact nx0 g n O e z
def iE(lo g:Option Int)(n:Nat):(lO lo g sN n).1=((HT.uf n 0 lo:Nat):Int)/\(lO lo g sN n).2.1=((HT.uf n n g:Nat):Int)/\(lO lo g sN n).2.2=1:=by
 refine⟨?_,?_,rfl⟩
 ·cases lo with
  |none=>simp[lO,HT.uf]
  |some i=>
   simp only[lO,HT.uf,Option.getD_none,show(1:Int)>0 by decide,if_true];by_cases h:i<0
   ·simp only[h,if_true]<;>grind
   ·simp only[h,Be]<;>grind
 ·cases g with
  |none=>simp[lO,HT.uf]
  |some i=>
   simp only[lO,HT.uf,Option.getD_none,show(1:Int)>0 by decide,if_true];by_cases h:i<0
   ·simp only[h,if_true]<;>lia
   ·simp only[h,Be]<;>lia
def jE(g:List rN)(lo r:Option Int):slicePick g.toArray lo r sN=((g.drop (HT.uf g.length 0 lo)).take (HT.uf g.length g.length r-HT.uf g.length 0 lo)).toArray:=by
 obtain⟨J,O,U⟩:=iE lo r g.toArray.size;unfold slicePick;rw[J,O,U];simp only[sliceRange_one,pick_run,uc]<;>rfl
inductive kE(K:W.Frag)(x:V)(lo hi:Option Int)(H:Hp)(Q:VK):Prop|mk(a xs)(_:x=.ref a)(_:ca K H a xs)(_:∀p,H p=sN->Q (.ref p) (upd H p (.lst (ag xs lo hi))))
def di:oy X (kE X.K):=by
 intro c0 s d0 H x v e0 f0 lo g g0 Q I O U pl Y h;obtain⟨a,xs,rfl,a0,q⟩:=h;cases O;refine ea8 ?_ (I.list a0);rintro h0 r J hz;have b0:=r.length;refine nx0 ("list") _ slot_list_getitem.lookup J.isList.typeIs ?_;refine wpAny_getItem_list_slice J.isList U pl Y .none (by simp) ?_ (by rw[uc]<;>simp_all);rw[jE,<-b0];refine⟨.ref s.heap.objs.size,_,I.laid (λb ob q=>Pa _ q) (wa _) ?_,rfl,q _ (I.ya.fresh (wa _))⟩;exact⟨gb (dE xs lo g) hz,nx4 _ 0 ((r.drop (HT.uf xs.length 0 lo)).take (HT.uf xs.length xs.length g-HT.uf xs.length 0 lo)) (yb _ rfl)⟩
def Kj:V->Bool
 |.Ra=>wN
 |.bl _=>wN
 |.int _=>wN
 |.str _=>wN
 |_=>yN
def Uk:V->V->Bool
 |.Ra,.Ra=>wN
 |.bl a,.bl b=>a==b
 |.bl a,.int b=>(if a then 1 else 0)==b
 |.int a,.bl b=>a==(if b then 1 else 0)
 |.int a,.int b=>a==b
 |.str a,.str b=>a==b
 |_,_=>yN
def lE(r:Aa y u)(g:Aa x v)(O:Kj y=wN)(J:Kj x=wN):SeqAt.EqAt A s u v (Uk y x):=by
 cases y with
 |Ra=>
  cases r;cases x with
  |Ra=>cases g;exact SeqAt.EqAt.same _
  |bl b=>cases g;exact SeqAt.EqAt.none_bool b
  |int b=>obtain⟨t,rfl⟩:=g;exact SeqAt.EqAt.none_int b t
  |str b=>obtain⟨t,rfl⟩:=g;exact SeqAt.EqAt.none_str b t
  |_=>exact absurd (J) Vc
 |bl a=>
  cases r;cases x with
  |Ra=>cases g;exact SeqAt.EqAt.bool_none a
  |bl b=>cases g;exact SeqAt.EqAt.bool_bool a b
  |int b=>obtain⟨t,rfl⟩:=g;exact SeqAt.EqAt.bool_int a b t
  |str b=>obtain⟨t,rfl⟩:=g;exact SeqAt.EqAt.bool_str a b t
  |_=>exact absurd ‹_› Vc
 |int a=>
  obtain⟨t',rfl⟩:=r;cases x with
  |Ra=>cases g;exact SeqAt.EqAt.int_none a t'
  |bl b=>cases g;exact SeqAt.EqAt.int_bool a t' b
  |int b=>obtain⟨t,rfl⟩:=g;exact SeqAt.EqAt.int_int a t' b t
  |str b=>obtain⟨t,rfl⟩:=g;exact SeqAt.EqAt.int_str a t' b t
  |_=>exact absurd (show yN=wN from J) Vc
 |str a=>
  obtain⟨t',rfl⟩:=r;cases x with
  |Ra=>cases g;exact SeqAt.EqAt.str_none a t'
  |bl b=>cases g;exact SeqAt.EqAt.str_bool a t' b
  |int b=>obtain⟨t,rfl⟩:=g;exact SeqAt.EqAt.str_int a t' b t
  |str b=>obtain⟨t,rfl⟩:=g;exact SeqAt.EqAt.str_str a t' b t
  |_=>exact absurd (show yN=wN from J) Vc
 |_=>exact absurd (O) Vc
def bg(x:V)(u:rN):Bool:=match u with
 |.none=>Uk .Ra x
 |.bool b=>Uk (.bl b) x
 |.int i _=>Uk (.int i) x
 |.str z _=>Uk (.str z) x
 |_=>yN
def sy(r:Aa y u)(f:Kj y=wN):bg x u=Uk y x:=by
 cases y with
 |Ra=>cases r;rfl
 |bl b=>cases r;rfl
 |int i=>obtain⟨t,rfl⟩:=r;rfl
 |str z=>obtain⟨t,rfl⟩:=r;rfl
 |_=>exact absurd (f) Vc
def Jp:∀{xs:List V}{us:List rN},Ia xs us->xs.all Kj=wN->us.any (bg x)=xs.any λy=>Uk y x
 |_,_,.nil,_=>rfl
 |y::xs,u::us,.cons r t,f=>by
  rw[List.all_cons,Vm]at f;rw[Um,Um,sy r f.1,Jp t f.2]
def Kp(g:Aa x v)(r:Kj x=wN):∀{xs:List V}{us:List rN},Ia xs us->xs.all Kj=wN->∀u∈us,SeqAt.EqAt A s u v (bg x u)
 |_,_,.nil,_=>by(intros;simp_all)
 |y::xs,u::us,.cons J t,f=>λO hu=>by
  rw[List.all_cons,Vm]at f;rcases rc.mp hu with rfl|hu
  ·rw[sy J f.1];exact lE J g f.1 r
  ·exact Kp g r t f.2 O hu
def ei(x:V)(xs:List V):Bool:=xs.any λy=>Uk y x
inductive Pu(K:W.Frag)(neg:Bool)(x y:V)(H:Hp)(Q:VK):Prop|mk(p xs)(_:y=.ref p)(_:(ca K H p xs\/oa K H p xs))(_:Kj x=wN)(_:xs.all Kj=wN)(_:Q (.bl (if neg then !ei x xs else ei x xs)) H)
def cj:Ic X (LN .In) (Pu X.K yN):=by
 intro a0 s b0 H x y v u Q I J U h;obtain⟨p,xs,rfl,hq,O,fs,q⟩:=h;cases U;rcases hq with hq|hq
 ·refine ea8 ?_ (I.list hq);rintro g r pl hz;refine SeqAt.in_listAt (bg x) pl.isList (λw Y=>Kp J O r fs w (by simp_all)) ⟨.bl _,H,I,rfl,?_⟩;rw[show g.toArray.any (bg x)=g.any (bg x)by simp,Jp r fs];exact q
 ·refine ea8 ?_ (I.tuple hq);rintro g r pl hz;refine SeqAt.in_tupleAt (bg x) pl (λw Y=>Kp J O r fs w (by grind)) ⟨.bl _,H,I,rfl,?_⟩;rw[show g.toArray.any (bg x)=g.any (bg x)by simp,Jp r fs];exact q
def uy:Ic X (LN .NotIn) (Pu X.K wN):=by
 intro a0 s b0 H x y v u Q I J U h;obtain⟨p,xs,rfl,hq,O,fs,q⟩:=h;cases U;rcases hq with hq|hq
 ·refine ea8 ?_ (I.list hq);rintro g r pl hz;refine SeqAt.notIn_listAt (bg x) pl.isList (λw Y=>Kp J O r fs w (by grind)) ⟨.bl _,H,I,rfl,?_⟩;rw[show g.toArray.any (bg x)=g.any (bg x)by simp,Jp r fs];exact q
 ·refine ea8 ?_ (I.tuple hq);rintro g r pl hz;refine SeqAt.notIn_tupleAt (bg x) pl (λw Y=>Kp J O r fs w (by grind)) ⟨.bl _,H,I,rfl,?_⟩;rw[show g.toArray.any (bg x)=g.any (bg x)by simp,Jp r fs];exact q
def vy(K:W.Frag)(T:String)(x:V)(H:Hp):Prop:=match x with
 |.str _=>T="str"
 |.int _=>T="int"
 |.ref p=>(T="list"/\∃xs,ca K H p xs)\/(T="tuple"/\∃o,K.lookup p=qN o/\o.cls=.type "tuple"/\o.dict=sN)\/
   (T="dict"/\((∃kvs,H p=qN (.dK kvs))\/∃kvs,H p=qN (.dT kvs)))\/(T="set"/\∃S n,H p=qN (.set S n))
 |_=>False
def mE{Y:St}(I:Inv X c0 Y H s)(J:Aa x v)(r:vy X.K T x H):
  s.TypeIs v T/\∀a,v=.ref a->∃ob,s.heap.get? a=qN ob/\ob.dict=sN:=by
 cases x with
 |str z=>
  obtain⟨t,rfl⟩:=J;cases(r);exact⟨typeIs_str s z t,λ_ e=>nomatch e⟩
 |int i=>
  obtain⟨t,rfl⟩:=J;cases(r);exact⟨typeIs_int s i t,λ_ e=>nomatch e⟩
 |ref p=>
  cases J;rcases r with⟨rfl,xs,a0⟩|⟨rfl,o,g,b0,O⟩|⟨rfl,g⟩|⟨rfl,S,n,g⟩
  ·refine ea8 ?_ (I.list a0);rintro d0 _ pl _;refine⟨pl.isList.typeIs,λa e=>?_⟩;cases e;revert pl;refine eaC ?_;rintro o n e c O _;exact⟨o,e,O⟩
  ·refine⟨⟨o,I.Sd p o g,b0⟩,λa e=>?_⟩;cases e;exact⟨o,I.Sd _ o g,O⟩
  ·have z:∃o,s.heap.get? p=qN o/\o.ExactDict:=by
    rcases g with⟨kvs,g⟩|⟨kvs,g⟩
    ·refine ec3 ?_ (I.ya p _ g);rintro _ _ _ _;refine ebA ?_;rintro o _ _ e ex _;exact⟨o,e,ex⟩
    ·refine ec3 ?_ (I.ya p _ g);rintro _ _ _ _;refine ebA ?_;rintro o _ _ e ex _;exact⟨o,e,ex⟩
   obtain⟨o,e,ex⟩:=z;refine⟨⟨o,e,ex.1⟩,λa U=>?_⟩;cases U;exact⟨o,e,ex.2.1⟩
  ·refine eaG ?_ (I.ya p _ g);rintro o _ _ _ e ex _;refine⟨⟨o,e,ex.1⟩,λa U=>?_⟩;cases U;exact⟨o,e,ex.2.1⟩
 |_=>exact False.elim r
def wy(K:W.Frag)(T:String)(J:V->List V->Hp->VK->Prop)(O:TE)(t:TA):TE:=λg H Q=>O g H λx r=>vy K T x r/\t g r λxs U=>J x xs U Q
variable{o e:IN}{es:List IN}{to:TE}{t:TA}{name:Str}{apos Kb:oO}{T id:String}{r:V->List V->Hp->VK->Prop}
def Xc(a0:PlainAttrs T)(slot:Slot T name id)(b0:typeOf (.builtin id)=pure (.type "method_descriptor"))(c0:Ou X id r)(d0:PE X o to)(e0:PA X (e::es) t)
  (f0:YP o name X.env (SN o X.env)=SN o X.env:=by rfl)
  (g0:((XN Kb (DN (e::es) X.env)).all (λx=>!x.1)&&(backToKw Kb (FP [] X.env)).all (λx=>x.1.isSome)
   &&decide ((e::es).length+([]:List Keyword).length+(if([]:List Keyword).isEmpty then 0 else 1)<30))=wN:=by rfl)
  (h0:(apos.endLine==Kb.line)=wN:=by rfl)(i0:DN (e::es) X.env=(yN,SN e X.env)::DN es X.env:=by rfl)(s0:(XN Kb (DN es X.env)).any (·.1)=yN:=by rfl):
  PE X (.Call (.Attribute o name apos) (e::es) [] Kb) (wy X.K T r to t):=by
 constructor;intro g s J H Q I h;refine wpAny_Call_method_late f0 g0 h0 rfl (xa (d0 g s J H _ I h) ?_);rintro v j0⟨x,k0,O,U,l0,q1⟩;obtain⟨m0,n0⟩:=mE O U l0;refine nx22 T id a0 slot b0 m0 n0 ?_;have Y:=e0 Kb g j0 J k0 _ O q1;rw[i0]at Y⊢;refine Ho (by assumption) (Qq ?_);exact xa Y (by rintro us o0⟨vs,p0,q0,r0,q2⟩;exact c0 g o0 J p0 x vs v us Q q0 U r0 q2)
end
def Lp(X:Cx)(id:String)(J:V->List V->Hp->VK->Prop):Prop:=
 ∀(g:List (uN×TN))(s:tN)(r:St)(H:Hp)(x:V)(xs:List V)(v:rN)(us:List rN)(Q:VK),Inv X g r H s->Aa x v->Ia xs us->J x xs H Q->
  wpAny (xN X.prog X.w) X.A (call (.builtin id) (v::us)) (EP X g r Q) X.xe s
def Ia.one:∀{x:V}{us:List rN},Ia [x] us->∃u,us=[u]/\Aa x u:=by
 rintro _ _(_|⟨r,_|_⟩);exact⟨_,rfl,r⟩
def Ia.eraseIdx:∀{xs:List V}{us:List rN}(i:Nat),Ia xs us->Ia (xs.eraseIdx i) (us.eraseIdx i)
 |_,_,_,.nil=>.nil
 |_,_,0,.cons _ t=>t
 |_,_,i+1,.cons r t=>.cons r (Ia.eraseIdx i t)
section
variable{X:Cx}{pins:List (uN×TN)}{σ:St}{H:Hp}{s:tN}{l b:uN}{xs ys zs:List V}
def Inv.Lj{g its':List rN}(I:Inv X pins σ H s)(r:H l=qN (.lst xs))
  (e:s.heap.get? l=qN {cls:=.type "list",data:=.seq g.toArray n})(J:f g.toArray=its'.toArray)(O:Ia ys its')(hz:ys.length<=vN):
  Inv X pins σ (upd H l (.lst ys)) {s with heap:=s.heap.update l (Obj.mapSeq f),toks:=t'}:=by
 have q:=PySem.IsL.update e f;rw[J]at q;refine I.write (by rw[r];exact trivial) (.inl rfl) (λa0 u U Y=>(Jg s.heap (Obj.mapSeq f) (lc U)).trans Y) ⟨_,q⟩ ?_;exact⟨hz,nx4 its' _ O q⟩
def Inv.Qu(I:Inv X pins σ H s)(r:Ia ys g)(hz:ys.length<=vN):
  Inv X pins σ (upd H s.heap.objs.size (.lst ys)) {s with heap:=s.heap.push {cls:=.type "list",data:=.seq g.toArray},toks:=t'}:=
 I.laid (λ_ _ q=>Pa _ q) (wa _) (⟨hz,nx4 g 0 r (yb _ rfl)⟩)
def Inv.fresh(I:Inv X pins σ H s):H s.heap.objs.size=sN:=I.ya.fresh (wa _)
def Inv.vf(I:Inv X pins σ H s)(J:H l=qN (.lst xs)):xs.length<=vN/\∃(g:List rN)(n:Nat),Ia xs g/\xs.length=g.length/\s.heap.get? l=qN {cls:=.type "list",data:=.seq g.toArray n}:=by
 refine eb3 ?_ (I.ya l _ J);rintro z g n r e;exact⟨z,nx0 g n r r.length e⟩
def nE(h:n<=vN):Builtin.List.listTooLong n=yN:=by
 exact he (by simp_all)
end
section
variable{X:Cx}
inductive Mj(x:V)(vs:List V)(H:Hp)(Q:VK):Prop|mk(l xs y)(_:x=.ref l)(_:vs=[y])(_:H l=qN (.lst xs))(_:xs.length<vN)(_:Q .Ra (upd H l (.lst (xs++[y]))))
def Ru:Lp X "list.append" Mj:=by
 intro a0 s b0 H x vs v us Q I J O h;obtain⟨l,xs,y,rfl,rfl,g,hz,q⟩:=h;cases J;obtain⟨u,rfl,U⟩:=O.one;refine eb7 ?_ (I.vf g);rintro z r n Y c0 e;refine kP F.slot_list_append ⟨_,e,rfl⟩ F.entry_list_append (F.args_list_append_2 _ _) (PySem.list_append l r.toArray n u (by rw[uc];simp_all)) ⟨e,?_⟩;refine⟨.Ra,_,I.Lj (its':=r++[u]) g e (by simp) (Y.append (.cons U .nil)) ?_,rfl,q⟩
 grind
inductive Nj(x:V)(vs:List V)(H:Hp)(Q:VK):Prop|mk(l b xs zs)(_:x=.ref l)(_:vs=[.ref b])(_:H l=qN (.lst xs))(_:H b=qN (.lst zs))(_:xs.length+zs.length<=vN)(_:Q .Ra (upd H l (.lst (xs++zs))))
def Cn:Lp X "list.extend" Nj:=by
 intro g0 s h0 H x vs v us Q I O U h;obtain⟨l,b,xs,i0,rfl,rfl,J,Y,hz,q⟩:=h;cases O;obtain⟨u,rfl,a0⟩:=U.one;cases a0;refine eb7 ?_ (I.vf J);rintro z g n b0 j0 e;refine eb7 ?_ (I.vf Y);rintro k0 r c0 d0 l0 e0;have hsz:g.toArray.size+r.toArray.size<=vN:=by rw[uc,uc];simp_all
 have f0:¬(!g.toArray.isEmpty&&Builtin.List.listTooLong (g.toArray.size+r.toArray.size))=wN:=by
  rw[nE hsz,Bool.and_false];exact Vc
 refine kP F.slot_list_extend ⟨_,e,rfl⟩ F.entry_list_extend (F.args_list_extend_2 _ _)
  (AutoSeq1.list_extend_list_list_0 l g.toArray n b r.toArray c0 f0 (by rw[uc];simp_all) (by lia)) ⟨e,e0,?_⟩
 refine⟨.Ra,_,I.Lj J e (by simp) (b0.append d0) ?_,rfl,q⟩;rw[Ya];lia
inductive oE(x y:V)(H:Hp)(Q:VK):Prop|mk(l b xs zs)(_:x=.ref l)(_:y=.ref b)(_:H l=qN (.lst xs))(_:H b=qN (.lst zs))(_:xs.length+zs.length<=vN)(_:∀p,H p=sN->Q (.ref p) (upd H p (.lst (xs++zs))))
def fi:Ic X (gO .Add) oE:=by
 intro e0 s f0 H x y v u Q I J O h;obtain⟨l,b,xs,g0,rfl,rfl,U,Y,hz,q⟩:=h;cases J;cases O;refine eb7 ?_ (I.vf U);rintro z g n a0 h0 e;refine eb7 ?_ (I.vf Y);rintro i0 r j0 b0 k0 c0;refine PySem.P.add_list e c0 ?_ (by grind);have d0:g.toArray++r.toArray=(g++r).toArray:=by simp
 rw[d0];exact⟨.ref _,_,I.Qu (t':=s.toks) (a0.append b0) (by rw[Ya];lia),rfl,q _ I.fresh⟩
end
section
variable{κ:Type}[DecidableEq κ]
def Ka(kvs:List (κ×V))(k:κ):Option V:=(kvs.find? λg=>decide (g.1=k)).map (·.2)
def Gb(kvs:List (κ×V))(k:κ)(v:V):List (κ×V):=
 if(kvs.any λg=>decide (g.1=k))=wN then kvs.map (λg=>if g.1=k then(g.1,v)else g)else kvs++[(k,v)]
def wr{k:κ}(e:p.1=k):Ka (p::r) k=qN p.2:=by simp[Ka,Pg,e]
def xr{k:κ}(e:¬p.1=k):Ka (p::r) k=Ka r k:=by simp[Ka,Pg,e]
def yr(k:κ):∀kvs:List (κ×V),(kvs.any λg=>decide (g.1=k))=(Ka kvs k).isSome
 |[]=>rfl
 |p::r=>by
  rw[Um];by_cases e:p.1=k
  ·simp only[wr e,Xb e,Bool.true_or,Option.isSome_some]
  ·rw[xr e,he e,Bool.false_or];exact yr k r
def Mp(kvs:List (κ×V))(k:κ)(v:V):(Gb kvs k v).length<=kvs.length+1:=by
 unfold Gb
 grind
def Su{kvs:List (κ×V)}{k:κ}(v:V)(h:Ka kvs k=sN):Gb kvs k v=kvs++[(k,v)]:=by
 unfold Gb;rw[yr,h]
 grind
def Bd.md(r:Bd o u):o.isSome=u.isSome:=by
 cases o with
 |none=>cases u with
  |none=>rfl
  |some _=>exact(r).elim
 |some _=>cases u with
  |none=>exact(r).elim
  |some _=>rfl
def Bd.getD(r:Bd o u)(rd:Aa d d'):Aa (o.getD d) (u.getD d'):=by
 cases o with
 |none=>cases u with
  |none=>exact rd
  |some _=>exact(r).elim
 |some _=>cases u with
  |none=>exact(r).elim
  |some _=>exact r
def KV.val(J:KV kvs vs)(k:κ):Bd (Ka kvs k) (HP vs k):=by
 induction J with
 |nil=>exact True.intro
 |@cons p q a0 g h t O=>
  obtain⟨U,Y⟩:=h;by_cases e:p.1=k
  ·have r:=U.symm.trans e;have b:HP (q::g) k=qN q.2:=by simp[HP,Pg,r]
   rw[wr e,b];exact Y
  ·have r:¬q.1=k:=by simp_all
   have b:HP (q::g) k=HP g k:=by simp[HP,Pg,r]
   rw[xr e,b];exact O
def KV.any(r:KV kvs vs)(k:κ):(kvs.any λg=>decide (g.1=k))=vs.any λg=>decide (g.1=k):=by
 induction r with
 |nil=>rfl
 |cons h t J=>rw[Um,Um,J,h.1]
def KV.bm(r:KV kvs vs)(k:κ)(O:Aa y u):
  KV (kvs.map λg=>if g.1=k then(g.1,y)else g) (vs.map λg=>if g.1=k then(g.1,u)else g):=by
 unfold KV at r⊢;induction r with
 |nil=>exact .nil
 |@cons p q U Y h t J=>
  rw[Sc,Sc];refine .cons ?_ J
  lia
def KV.put(g:KV kvs vs)(k:κ)(r:Aa y u):KV (Gb kvs k y) (zP vs k u):=by
 unfold Gb zP;rw[g.any k];by_cases e:(vs.any λJ=>decide (J.1=k))=wN
 ·rw[va e,va e];exact g.bm k r
 ·rw[na e,na e];exact Paired.snoc g ⟨rfl,r⟩
def KV.length{vs:List (κ×rN)}(r:KV kvs vs):kvs.length=vs.length:=Ck r
end
def Oj(r:Aa (kV k) u):(Wc P w).is k u=wN:=by
 cases k with
 |inl i=>obtain⟨t,e⟩:=(r);subst e;exact RC P w i t
 |inr x=>obtain⟨t,e⟩:=(r);subst e;exact TC P w x t
def Tu:∀{r:List Key}{us:List rN},Ia (r.map kV) us->ItemsAre (Wc P w) r us
 |[],_,g=>by rw[List.map_nil]at g;cases g;exact .nil
 |k::r,_,g=>by
  cases g with
  |cons h t=>exact .cons (Oj h) (Tu t)
abbrev KT(H:Hp):List (List Key×V)->List (List Key×uN×rN)->Prop:=Paired λp q=>p.1=q.1/\H q.2.1=qN (.tup (p.1.map kV))/\Aa p.2 q.2.2
def KT.val{H:Hp}{kvs:List (List Key×V)}{xs:List (List Key×uN×rN)}(J:KT H kvs xs)(k:List Key):Bd (Ka kvs k) ((xO xs k).map (·.2)):=by
 induction J with
 |nil=>exact True.intro
 |@cons p q a0 g h t O=>
  revert h;refine ea3 ?_;rintro U _ Y;by_cases e:p.1=k
  ·have r:=U.symm.trans e;have b:xO (q::g) k=qN q.2:=by simp[xO,Pg,r]
   rw[wr e,b];exact Y
  ·have r:¬q.1=k:=by simp_all
   have b:xO (q::g) k=xO g k:=by simp[xO,Pg,r]
   rw[xr e,b];exact O
def KT.bm(r:KT H kvs xs)(k:List Key)(O:Aa y u):
  KT H (kvs.map λg=>if g.1=k then(g.1,y)else g) (xs.map (putAt k u)):=by
 induction r with
 |nil=>exact .nil
 |@cons p q U Y h t J=>
  rw[Sc,Sc];refine .cons ?_ J;revert h;refine ea3 ?_;rintro a0 b0 c0;unfold putAt
  lia
def KT.put(g:KT H kvs xs)(k:List Key)(J:H b=qN (.tup (k.map kV)))(r:Aa y u):
  KT H (Gb kvs k y) (eO xs k b u):=by
 have e:(kvs.any λO=>decide (O.1=k))=(xO xs k).isSome:=by
  rw[yr,(g.val k).md,Option.isSome_map]
 unfold Gb eO;rw[e];by_cases q:(xO xs k).isSome=wN
 ·rw[va q,va q];exact g.bm k r
 ·rw[na q,na q];exact Paired.snoc g ⟨rfl,J,r⟩
def KT.keeps(g:KT H kvs xs)(r:∀b ys,H b=qN (.tup ys)->H' b=qN (.tup ys)):KT H' kvs xs:=
 Paired.Yb g (by grind)
section
variable{P:zN}{w:AN}{H:Hp}{h:EN}{a:uN}
def Uu(ok:yc P w H h)(e:Rd H a u):xc P w H h a u:=e.ok ok
def Dn(ok:yc P w H h)(e:Rd H a (.dK kvs)):kvs.length<=vN/\(a==NN)=yN/\∃vs,KV kvs vs/\h.DictOf (Wc P w) a vs:=
 show xc P w H h a (.dK kvs)from Uu ok e
def xy(ok:yc P w H h)(e:H a=qN (.dK kvs)):kvs.length<=vN/\(a==NN)=yN/\∃vs,KV kvs vs/\h.DictOf (Wc P w) a vs:=Dn ok (.inl e)
def En(ok:yc P w H h)(e:H a=qN (.tup (g.map kV))):(kO (Wc P w)).is h g a:=by
 obtain⟨_,r,J,o,O,U,n,Y⟩:=(ok a _ e);exact nx2 o r.toArray n O U Y (by simpa using Tu J)
def Fn(ok:yc P w H h)(e:Rd H a (.dT kvs)):kvs.length<=vN/\(a==NN)=yN/\
  ∃xs,KT H kvs xs/\h.DictOfH (kO (Wc P w)) a xs:=by
 refine ea3 ?_ ((show xc P w H h a (.dT kvs)from Uu ok e));rintro z y;refine eb9 ?_;rintro xs g o es ep r J O U Y;refine⟨z,y,nx11 xs g o (nx22 es ep r J O U (λx hx=>?_) Y)⟩;have all:∀{l:List (List Key×V)}{m:List (List Key×uN×rN)},KT H l m->∀x∈m,(kO (Wc P w)).is h x.1 x.2.1:=by
  intro l m q;induction q with
  |nil=>(intros;simp_all)
  |@cons p q b0 c0 d0 t a0=>
   intro x hx;rcases rc.mp hx with e|hx
   ·subst e;exact En ok (by simp_all)
   ·exact a0 x hx
 exact all g x hx
def pE(ok:yc P w H h)(e:H a=qN (.dT kvs)):kvs.length<=vN/\(a==NN)=yN/\
  ∃xs,KT H kvs xs/\h.DictOfH (kO (Wc P w)) a xs:=Fn ok (.inl e)
end
def oe(H:Hp)(a:uN)(y:V)(r:Option V):Prop:=
 (∃kvs k,Rd H a (.dK kvs)/\y=kV k/\r=Ka kvs k)\/∃kvs k b,Rd H a (.dT kvs)/\y=.ref b/\H b=qN (.tup (k.map kV))/\r=Ka kvs k
def eg(H:Hp)(a:uN)(y v:V)(H':Hp):Prop:=
 (∃kvs k,H a=qN (.dK kvs)/\y=kV k/\kvs.length<vN/\H'=upd H a (.dK (Gb kvs k v)))\/
 ∃kvs k b,H a=qN (.dT kvs)/\y=.ref b/\H b=qN (.tup (k.map kV))/\kvs.length<vN/\H'=upd H a (.dT (Gb kvs k v))
def oe.k{k:Key}(e:H a=qN (.dK kvs)):oe H a (kV k) (Ka kvs k):=.inl (nx0 kvs k (.inl e) rfl rfl)
def eg.k{k:Key}(e:H a=qN (.dK kvs))(g:kvs.length<vN):eg H a (kV k) v (upd H a (.dK (Gb kvs k v))):=.inl (nx6 kvs k e rfl g rfl)
def eg.t{k:List Key}(e:H a=qN (.dT kvs))(g:H b=qN (.tup (k.map kV)))(r:kvs.length<vN):
  eg H a (.ref b) v (upd H a (.dT (Gb kvs k v))):=.inr (nx8 kvs k b e rfl g r rfl)
section
variable{X:Cx}{pins:List (uN×TN)}{σ:St}{H:Hp}{s:tN}{a:uN}{y v:V}{u r:rN}{o:Option V}{A:BN}{E:rN->tN->Prop}
def Inv.big(I:Inv X pins σ H s):NN<s.heap.objs.size:=by
 have h:=(I.mod.glob.keeps I.bk).lt;exact Nat.lt_trans (by decide) h
def yy(b0:A.units+1<CN)(I:Inv X pins σ H s)(c0:oe H a y (qN v))(a0:Aa y u)(h:∀g s',Inv X pins σ H s'->Aa v g->Q g s'):
  wpAny (xN X.prog X.w) A (sP (.ref a) u) Q E s:=by
 rcases c0 with⟨kvs,k,e,J,l⟩|⟨kvs,k,b,e,J,d0,l⟩
 ·subst J;refine ec3 ?_ (Dn I.ya e);rintro z e0 vs O dd;obtain⟨g,U,Y⟩:=Bd.some_of (by rw[l];exact O.val k);exact wpAny_getItem_of (Oj a0) dd.mapOf U (h g _ (I.tok _) Y)
 ·subst J;cases(a0);refine ec3 ?_ (Fn I.ya e);rintro z e0 xs O dd;obtain⟨g,U,Y⟩:=Bd.some_of (v:=v) (by rw[l];exact O.val k);obtain⟨p,f0,g0⟩:=Jd.mp U;refine wpAny_getItem_heap (hP b0) (En I.ya d0) dd f0 ?_;rw[g0];exact h g _ (I.tok _) Y
def qE(Y:A.units+1<CN)(I:Inv X pins σ H s)(a0:oe H a y o)(U:Aa y u)(h:∀s',Inv X pins σ H s'->Q (.bool (!o.isSome)) s'):
  wpAny (xN X.prog X.w) A (LN .NotIn u (.ref a)) Q E s:=by
 rcases a0 with⟨kvs,k,e,g,l⟩|⟨kvs,k,b,e,g,b0,l⟩
 ·subst g;refine ec3 ?_ (Dn I.ya e);rintro z J vs O dd;refine wpAny_notIn_of (Oj U) J dd.mapOf ?_;rw[<-(O.val k).md,<-l];exact h _ (I.tok _)
 ·subst g;cases(U);refine ec3 ?_ (Fn I.ya e);rintro z J xs O dd;refine wpAny_notIn_heap (hP Y) (En I.ya b0) J dd ?_;have q:=(O.val k).md;rw[Option.isSome_map]at q;rw[<-q,<-l];exact h _ (I.tok _)
def zr(I:Inv X pins σ H s)(g:vp (H a))(J:Heap.SameBut a s.heap h')(O:∃q,h'.get? a=qN q)(U:xc X.prog X.w (upd H a ob) h' a ob):
  Inv X pins σ (upd H a ob) {s with heap:=h',toks:=t'}:=
 I.write g (.inl rfl) (λb q Y z=>(J.2 b Y).trans z) O U
def Vu(z:kvs.length<=vN)(g:(a==NN)=yN)(J:KV kvs vs)(dd:h'.DictOf (Wc P w) a vs):
  xc P w H' h' a (.dK kvs):=⟨z,g,vs,J,dd⟩
def zy(g0:A.units+1<CN)(I:Inv X pins σ H s)(h0:eg H a y v H')(d0:Aa y u)(e0:Aa v r)(h:∀s',Inv X pins σ H' s'->Q () s'):
  wpAny (xN X.prog X.w) A (setItem (.ref a) u r) Q E s:=by
 rcases h0 with⟨kvs,k,e,U,l,Y⟩|⟨kvs,k,b,e,U,f0,l,Y⟩
 ·subst U Y;refine ec3 ?_ (xy I.ya e);rintro z a0 vs g dd;have hz:vs.length<=vN:=by rw[<-g.length];exact z
  have b0:(Gb kvs k v).length<=vN:=by have:=Mp kvs k v;lia
  refine wpAny_setItem_pairs (Oj d0) dd λh' J c0=>h _ ?_
  have i0:∃q,h'.get? a=qN q:=let⟨q,_,_,O,_⟩:=J;⟨q,O⟩
  exact zr I (by rw[e];exact True.intro) c0 i0 (Vu b0 a0 (g.put k e0) J)
 ·subst U Y;cases(d0);refine ec3 ?_ (pE I.ya e);rintro z a0 xs g dd;have hz:xs.length<=vN:=by rw[<-Ck g];exact z
  have b0:(Gb kvs k v).length<=vN:=by have:=Mp kvs k v;lia
  refine wpAny_setItem_heap (hP g0) (En I.ya f0) dd λh' J c0=>h _ ?_
  revert J;refine ec8 ?_;rintro q es ep O j0 k0 l0 _ m0;refine zr I (by rw[e];exact True.intro) c0 ⟨q,O⟩ (⟨b0,a0,nx11 _ ((g.put k f0 e0).keeps λc ys n0=>?_) q (nx15 es ep O j0 k0 l0 m0)⟩);rw[ja (by grind)];exact n0
end
def Ar(i:IN):Prop:=∀g r,DP i yN g r=operate [g,r] (sP g r)
def Ay{T id:String}
  (b0:gP (.type T) "__getitem__"=pure (qN (.builtin id)))(c0:Ar r)
  (h:wpAny (xN prog w) A (SN U env) (λo Y=>wpAny (xN prog w) A (SN r env) (λi g=>g.TypeIs o T/\wpAny (xN prog w) A (sP o i) Q E g) E Y) E s):
  wpAny (xN prog w) A (SN (.Subscript U r pos) env) Q E s:=by
 refine Subscript_ (zd h (λo Y d0=>zd d0 (λi g J=>?_) λ_ _ x=>x) λ_ _ x=>x);obtain⟨e0,J⟩:=J;refine ba ?_;refine ba (Uf e0 b0 ?_);have fin:wpAny (xN prog w) A (DP r yN o i) (λO a0=>wpAny (xN prog w) A (letTemporaryGo U o O>>=λ_=>pure O) Q E a0) E g:=by
  rw[c0 o i];exact wpAny_operating (zd J (λO a0 f0=>ba (wpAny_letTemporaryGo (ga f0))) λ_ _ x=>x)
 first
  |exact ga (ba fin)
  |exact ba (ga (ba fin))
  |exact ba fin
def rE{g:St}(I:Inv X J g H s)(r:oe H a y o):s.TypeIs (.ref a) "dict":=by
 rcases r with⟨kvs,k,e,_,_⟩|⟨kvs,k,b,e,_,_,_⟩
 ·obtain⟨_,_,vs,_,dd⟩:=Dn I.ya e;exact dd.typeIs
 ·obtain⟨_,_,xs,_,dd⟩:=Fn I.ya e;exact dd.typeIs
inductive sE(Q:VK)(x y:V)(H2:Hp):Prop|mk(a v)(_:x=.ref a)(_:oe H2 a y (qN v))(_:Q v H2)
def By(r J:TE):TE:=λg H Q=>r g H λx O=>J g O (sE Q x)
inductive tE(Q:VK)(y x:V)(H2:Hp):Prop|mk(a o)(_:x=.ref a)(_:oe H2 a y o)(_:Q (.bl (!o.isSome)) H2)
def uE(r J:TE):TE:=λg H Q=>r g H λy O=>J g O (tE Q y)
inductive vE(D:Wf)(σ:L2.St)(v x y:V)(H3:Hp):Prop|mk(a H4)(_:x=.ref a)(_:eg H3 a y v H4)(_:D.nx σ H4)
def wE(r J O:TE):TS:=λD g H=>O g H λv U=>r g U λx Y=>J g Y (vE D g v x)
inductive xE(tv:TE)(rd:V->V->Hp->VK->Prop)(D:Wf)(σ:L2.St)(x y:V)(H2:Hp):Prop|mk(a v)(_:x=.ref a)(_:oe H2 a y (qN v))(_:tv σ H2 λy2 H3=>rd v y2 H3 λz H4=>∃H5,eg H4 a y z H5/\D.nx σ H5)
def yE(r J O:TE)(rd:V->V->Hp->VK->Prop):TS:=λD g H=>r g H λx U=>J g U (xE O rd D g x)
section
variable{X:Cx}{o i e value:IN}{pos pos' Ep:oO}{td ty tv:TE}
def AE(U:X.A.units+1<CN)(Y:PE X o td)(a0:PE X i ty)(b0:Ar i):PE X (.Subscript o i pos) (By td ty):=by
 constructor;intro g s r H Q I h;refine Ay F.slot_dict_getitem.lookup b0 (xa (Y g s r H _ I h) ?_);rintro u c0⟨x,d0,e0,f0,q1⟩;refine xa (a0 g c0 r d0 _ e0 q1) ?_;rintro k0 l0⟨y,g0,J,h0,a,v,ex,O,q2⟩;subst ex;obtain rfl:u=Value.ref a:=f0;exact⟨rE J O,yy U J O h0 λm0 n0 i0 j0=>⟨v,g0,i0,j0,q2⟩⟩
def BE(J:X.A.units+1<CN)(O:PE X i ty)(U:PE X o td):PC X .NotIn i o (uE ty td):=by
 constructor;intro g s r H Q I h;refine xa (O g s r H _ I h) ?_;rintro j0 Y⟨y,a0,b0,c0,q1⟩;refine xa (U g Y r a0 _ b0 q1) ?_;rintro u k0⟨x,d0,e0,f0,a,g0,ex,h0,q2⟩;subst ex;obtain rfl:u=Value.ref a:=f0;exact qE J e0 h0 c0 λl0 i0=>⟨.bl (!g0.isSome),d0,i0,rfl,q2⟩
def dm(J:X.A.units+1<CN)(O:PE X o td)(U:PE X i ty)(Y:PE X value tv)(a0:aP value (qN (.Subscript o i pos')) pos.line X.env=pure yN):
  PS X (.Assign [.Subscript o i pos'] value pos) (wE td ty tv):=by
 constructor;intro r s g H D I h;refine wpAny_Assign_Subscript (xa (Y r s g H _ I h) ?_) a0;rintro o0 b0⟨v,c0,d0,e0,q1⟩;refine xa (O r b0 g c0 _ d0 q1) ?_;rintro u f0⟨x,g0,h0,i0,q2⟩;refine xa (U r f0 g g0 _ h0 q2) ?_;rintro p0 q0⟨y,r0,j0,k0,a,l0,ex,m0,q3⟩;subst ex;obtain rfl:u=Value.ref a:=i0;exact zy J j0 m0 k0 e0 λs0 n0=>nx4 g l0 n0 q3
def Cy{op:Operator}{rd:V->V->Hp->VK->Prop}(Y:X.A.units+1<CN)(b0:PE X o td)(c0:PE X i ty)(d0:PE X value tv)(e0:Ku X op rd)
  (f0:∀J g O,augStore i J g O=(do rP [O,J,g] (setItem J g O);release [O,J,g] [];pure .next)):PS X (.AugAssign (.Subscript o i Ep) op value pos) (yE td ty tv rd):=by
 constructor;intro U s r H D I h;refine wpAny_AugAssign_SubscriptAny (xa (b0 U s r H _ I h) ?_) f0;rintro u g0⟨x,h0,i0,j0,q1⟩;refine xa (c0 U g0 r h0 _ i0 q1) ?_;rintro g D0⟨y,k0,l0,a0,a,v,ex,m0,q2⟩;subst ex;obtain rfl:u=Value.ref a:=j0;refine yy Y l0 m0 a0 λn0 o0 p0 q0=>xa (d0 U o0 r k0 _ p0 q2) ?_
 rintro r0 s0⟨t0,u0,v0,w0,q3⟩;refine xa (e0 U s0 r u0 v t0 n0 r0 _ v0 q0 w0 q3) ?_;rintro F0 G0⟨z,I0,x0,y0,z0,A0,B0⟩;exact zy Y x0 A0 a0 y0 λJ0 C0=>nx4 r z0 C0 B0
end
def DE(h:EN)(g:NN<h.objs.size):xc P w H (h.push {cls:=.type "dict",data:=.dict #[]}) h.objs.size (.dK []):=
 ⟨Va _,by grind,[],.nil,Heap.DictOf.new h⟩
def EE(h:EN)(g:NN<h.objs.size):xc P w H (h.push {cls:=.type "dict",data:=.dict #[]}) h.objs.size (.dT []):=
 ⟨Va _,by grind,nx11 ([]) (.nil) _ (nx15 (#[]) 0 (yb _ rfl) ⟨rfl,rfl,rfl⟩ rfl rfl List.nodup_nil)⟩
def FE:TE:=λ_ H Q=>∀p,H p=sN->Q (.ref p) (upd H p (.dK []))
def HE:TE:=λ_ H Q=>∀p,H p=sN->Q (.ref p) (upd H p (.dT []))
section
variable{X:Cx}{pos:oO}
def Wu:PE X (.Dict [] [] pos) FE:=⟨λg s r H Q I h=>
 yP ⟨.ref s.heap.objs.size,_,I.laid (λ_ _ q=>Pa _ q) (wa _) (DE s.heap I.big),rfl,h _ (I.ya.fresh (wa _))⟩⟩
def Xu:PE X (.Dict [] [] pos) HE:=⟨λg s r H Q I h=>
 yP ⟨.ref s.heap.objs.size,_,I.laid (λ_ _ q=>Pa _ q) (wa _) (EE s.heap I.big),rfl,h _ (I.ya.fresh (wa _))⟩⟩
end
structure M2(X:Cx)(o:IN)(m:Str)(apos:oO)(e f:IN)(Kb:oO):Prop where
 base:YP o m X.env (SN o X.env)=SN o X.env
 Ab:((XN Kb (DN [e,f] X.env)).all (λx=>!x.1)&&(backToKw Kb (FP [] X.env)).all (λx=>x.1.isSome)
  &&decide (([e,f]:List IN).length+([]:List Keyword).length+(if([]:List Keyword).isEmpty then 0 else 1)<30))=wN
 line:(apos.endLine==Kb.line)=wN
 trees:XN Kb (DN [e,f] X.env)=[(yN,SN e X.env),(yN,SN f X.env)]
def Br(H:Hp)(a:uN):Prop:=(∃kvs,Rd H a (.dK kvs))\/∃kvs,Rd H a (.dT kvs)
def Dy{O:St}(I:Inv X U O H s)(d:Br H a):
  s.TypeIs (.ref a) "dict"/\(∀b,Value.ref a=.ref b->∃ob,s.heap.get? b=qN ob/\ob.dict=sN)/\(a==NN)=yN:=by
 rcases d with⟨kvs,e⟩|⟨kvs,e⟩
 ·refine ec3 ?_ (Dn I.ya e);rintro _ g vs _ dd;refine⟨dd.typeIs,λb q=>?_,g⟩;cases q;revert dd;refine ebA ?_;rintro ob _ _ r J _;exact⟨ob,r,J.2.1⟩
 ·refine ec3 ?_ (Fn I.ya e);rintro _ g xs _ dd;refine⟨dd.typeIs,λb q=>?_,g⟩;cases q;revert dd;refine ebA ?_;rintro ob _ _ r J _;exact⟨ob,r,J.2.1⟩
section
variable{X:Cx}{pins:List (uN×TN)}{σ:St}{H:Hp}{s:tN}{a:uN}{y d:V}{u r:rN}{o:Option V}{A:BN}{E:rN->tN->Prop}
def IE(c0:A.units+1<CN)(I:Inv X pins σ H s)(a0:oe H a y o)(U:Aa y u)(rd:Aa d r)(h:∀Y s',Inv X pins σ H s'->Aa (o.getD d) Y->Q Y s'):
  wpAny (xN X.prog X.w) A (call (.builtin "dict.get") [.ref a,u,r]) Q E s:=by
 rcases a0 with⟨kvs,k,e,g,l⟩|⟨kvs,k,b,e,g,b0,l⟩
 ·subst g;refine ec3 ?_ (Dn I.ya e);rintro z J vs O dd;refine dQ F.slot_dict_get dd.typeIs F.entry_dict_get (F.args_dict_get_3 _ _ _) (meets_dict_get_default (Wc X.prog X.w) a (Oj U) J r) ⟨_,dd.mapOf,h _ _ (I.tok _) ?_⟩;rw[l];exact(O.val k).getD rd
 ·subst g;cases(U);refine ec3 ?_ (Fn I.ya e);rintro z J xs O dd;refine dQ F.slot_dict_get dd.typeIs F.entry_dict_get (F.args_dict_get_3 _ _ _) (meetsH_dict_get_default (kO (Wc X.prog X.w)) a b J r) (⟨‹_›,nx0 k xs (En I.ya b0) dd (h _ _ (I.tok _) ?_)⟩);rw[l];exact(O.val k).getD rd
end
inductive JE(ty tx:TE)(σ:L2.St)(Q:VK)(x:V)(H1:Hp):Prop|mk(a)(_:x=.ref a)(_:Br H1 a)(_:ty σ H1 λy H2=>tx σ H2 λz H3=>∃o,oe H3 a y o/\Q (o.getD z) H3)
def KE(r J O:TE):TE:=λg H Q=>r g H (JE J O g Q)
section
variable{X:Cx}{o e f:IN}{apos Kb:oO}{td ty tx:TE}
def Cr(O:X.A.units+1<CN)(U:PE X o td)(Y:PE X e ty)(a0:PE X f tx)(m:M2 X o "get" apos e f Kb):PE X (.Call (.Attribute o "get" apos) [e,f] [] Kb) (KE td ty tx):=by
 constructor;intro g s r H Q I h;refine nP m.base m.Ab m.line Yq F.slot_dict_get F.type_dict_get (xa (U g s r H _ I h) ?_);rintro u b0⟨x,c0,J,d0,a,ex,d,q1⟩;subst ex;obtain rfl:u=Value.ref a:=d0;refine ea3 ?_ (Dy J d);rintro e0 f0 _;refine⟨e0,f0,?_⟩;rw[m.trees];refine Ho rfl (Qq (Gi (xa (Y g b0 r c0 _ J q1) λq0 g0⟨y,h0,i0,j0,q2⟩=>
  Gi (xa (a0 g g0 r h0 _ i0 q2) λfv r0⟨z,k0,l0,m0,s0,n0,q3⟩=>Nl ?_))))
 exact IE O l0 n0 j0 m0 λt0 u0 o0 p0=>⟨_,k0,o0,p0,q3⟩
end
end L2
namespace Att
open PySem PySem.W PySem.Calls PyProof.Rows
def ME:∀(ns:List Int)(vs:List rN),WellAll P h vs (ns.map WData.int)->uO vs ns:=by
 intro ns;induction ns with
 |nil=>
  intro vs w;cases w;exact .nil
 |cons n ns g=>
  intro vs w;cases w with
  |cons a b=>
   cases a;exact .cons _ _ (g _ b)
def NE{l:OpenLaw}(O:l.most=qN n)
  (J:l.row.toRowW.claim.pre args=wN)(U:WellAll P h Y args):
  ∃a vs ns,Y=[Value.ref a]/\args=[WData.list (ns.map WData.int)]/\h.get? a=qN {cls:=.type "list",data:=.seq vs.toArray}/\uO vs ns/\ns.length<=n:=by
 have a0:WShape.hasAll [] args [.list .int]=wN:=(pre_splitW J).1;have b0:l.pre.holds [] {args:=args}=wN:=(pre_splitW J).2;refine ea0 ?_ (hasAllW_cons a0);rintro d k0 rfl c0 d0;obtain rfl:=hasAllW_nil d0;refine ea1 ?_ (hasW_list c0);rintro xs rfl e0;obtain⟨ns,rfl⟩:=items_int e0;have f0:ns.length<=n:=by
  have g:(WTm.not (.lt (.lit (.int (n:Int))) (.len (.arg 0)))).holds [] {args:=[.list (ns.map .int)]}=wN:=by
   have g:=(holds_andW b0).1;rw[O]at g;exact g
  have r:=condW_of g (w_not (w_lt w_lit (w_len_list (w_arg rfl))));first
   |(rw[Xb l0]at r;exact absurd r (by decide))
   |(simp at r;lia)
 cases U with
 |cons g0 h0=>
  cases h0;cases g0 with
  |list i0 j0=>exact nx8 _ _ ns rfl rfl i0 (ME ns _ j0) f0
def OE(l:OpenLaw)(args:List WData):l.row.toRowW.claim.post args (.bool wN) args=wN:=
 postW_of
  (show WShape.has [] (.bool wN) .bool=wN by first|rfl|decide|simp[WShape.has,WShape.arms,WShape.armsAll])
  (show(WTm.eq .res (.lit (.bool wN))).value [] {args:=args,res:=qN (.bool wN),after:=args}=qN (.bool (wN==wN))from w_eq_bool (w_res rfl) w_lit) rfl
end Att
namespace L2
open PySem PySem.Spec PyProof.Rows
def Ey:∀{vs:List rN}{ns:List Int},uO vs ns->Ia (ns.map V.int) vs
 |_,_,.nil=>.nil
 |_,_,.cons n t h=>.cons ⟨t,rfl⟩ (Ey h)
def Yu(H:Hp):Prop:=∀b,H b=sN\/∃o xs,H b=qN (.Hb o (.lst xs))
def QE{P:zN}{w:AN}{K:W.Frag}{mg b0:Str->Option rN}{CX:Zi}{k:Nat}{O a:uN}{fd:UN}{x:Str}{sp:Sp}{g:tN}{vs:List rN}{ns:List Int}
  (c0:K.In g.heap)(d0:g.heap.Ns HN mg)(J:g.heap.Ns WP b0)(G0:∀x:Str,x≠"__name__"->b0 x=mO x)(j0:g.heap.NoLimit)(k0:g.gens=#[])
  (U:g.heap.get? a=qN {cls:=.type "list",data:=.seq vs.toArray})(e0:uO vs ns)(l0:ns.length<=vN)(m0:ib k LP)
  (F:∀base:EN,K.In base->base.Ns HN mg->kd P w K mg base CX k O fd [x] sp)(n0:∀(s:tN)(u:rN),dP s fd ⟨[u],[]⟩ [(x,u)])
  (o0:∀H:Hp,Yu H->ca K H a (ns.map V.int)->sp [.ref a] H (λv _=>v=.bl wN) λ_ _ _=>False)
  (p0:∀H e s',CX [] H g (λ_ _ _=>False) e s'->False):
  codeAny (xN P w) LP (.call (.ref O) ⟨[.ref a],[]⟩) (λr s'=>r=.ok (.ret (.bool wN))/\OldK g.heap s'.heap/\s'.os=g.os/\pO s'.gens) g:=by
 have q0:=Ey e0;have I0:=e0.length;have core:∀H:Hp,Yu H->ca K H a (ns.map V.int)->yc P w H g.heap->(∀b,H b≠sN->b=a)->(H a≠sN->K.lookup a=sN)->
   codeAny (xN P w) LP (.call (.ref O) ⟨[.ref a],[]⟩) (λr s'=>r=.ok (.ret (.bool wN))/\OldK g.heap s'.heap/\s'.os=g.os/\pO s'.gens) g:=by
  intro H f0 r0 g0 J0 K0;have h0:∀{b:uN}{o:TN},g.heap.get? b=qN o->H b=sN->(Ej g.heap H).get? b=qN o:=λe n=>WC e n
  have s0:∀{b:uN}{o:TN}{es:Array ON}{ep:Nat},g.heap.get? b=qN o->o.data=.dict es ep->H b=sN:=λ{b o es ep}e d=>by
   grind
  have Y:∀{b:uN}{m:Str->Option rN},g.heap.Ns b m->(Ej g.heap H).Ns b m:=λ{b m}⟨o,es,ep,e,d,r⟩=>nx16 o es ep (h0 e (s0 e d)) d r
  have i0:K.In (Ej g.heap H):=λb o e=>h0 (c0 b o e) (by
   grind)
  have t0:Mod K mg (Ej g.heap H):=⟨i0,Y d0,by grind,by obtain⟨u0,v0,w0⟩:=j0;exact⟨u0,Y v0,w0⟩⟩;have x0:Gp P w K mg (Ej g.heap H) LP [] g H:=⟨rfl,t0,λb o e=>XC e,Cj (VC _ _),trivial,λb J=>absurd (show b∈([]:List uN)from J) (by simp),g0,.of_eq k0⟩;refine Kl ((F _ i0 (Y d0)).run LP [] g H ⟨[.ref a],[]⟩ [.ref a] [.ref a] _ _ m0 x0 (n0 g (.ref a)) (.cons rfl .nil) (o0 H f0 r0)) λr s' h=>?_
  cases r with
  |error e=>exact(p0 H e s' h).elim
  |ok y0=>
   cases y0 with
   |next=>exact False.elim h
   |brk=>exact False.elim h
   |cont=>exact False.elim h
   |ret u=>
    obtain⟨v,H',os,z0,un,A0,B0,q⟩:=h;have C0:v=.bl wN:=q;subst C0;obtain rfl:u=Value.bool wN:=B0;refine⟨rfl,OldK.of_keep λb o e=>?_,os,z0⟩;cases q:H b with
    |none=>exact un.keep b o e q (by intro z;exact absurd (show b∈([]:List uN)from z) (by simp)) (by simp)
    |some u=>
     rcases f0 b with z|⟨ob,xs,z⟩
     ·simp_all
     ·have D0:=un.frzs b ob _ z;obtain⟨L0,_⟩:=g0 b _ z;obtain⟨M0,_⟩:=A0 b _ D0
      simp_all
 cases a0:K.lookup a with
 |some o=>
  have e:=c0 a o a0;rw[U]at e;cases e;refine core (λ_=>sN) (λ_=>.inl rfl) (.inr (nx8 _ vs.toArray _ a0 rfl rfl rfl ⟨by simp_all,by simp_all⟩)) (λb u z=>by contradiction) (by(intros;simp_all)) λz=>absurd rfl z
 |none=>
  refine core (λb=>if b=a then qN (.Hb {cls:=.type "list",data:=.seq vs.toArray} (.lst (ns.map V.int)))else sN) (λb=>?_) (.inl (.inr ⟨{cls:=.type "list",data:=.seq vs.toArray},va rfl⟩)) (λb u z=>?_) (λb z=>?_) λ_=>a0
  ·grind
  ·by_cases J:b=a
   ·have F0:=(va J).symm.trans z;cases F0;subst J;exact⟨U,by rw[ua];exact l0,nx4 vs _ q0 U⟩
   simp_all
  simp_all
abbrev nN{K:W.Frag}{h:EN}(_:K.In h):W.Frag:=K
def wf(s:aO):Arguments:=match s with
 |.FunctionDef _ a _ _ _ _ _ _ _ _=>a
 |_=>{posonlyargs:=[],args:=[],vararg:=sN,kwonlyargs:=[],kw_defaults:=[],kwarg:=sN,defaults:=[]}
def we(s:aO):List aO:=match s with
 |.FunctionDef _ _ b _ _ _ _ _ _ _=>b
 |_=>[]
def Ac(s:aO):ZN:=match s with
 |.FunctionDef _ _ _ _ _ _ g _ _ _=>g
 |_=>{kind:=.function,names:=[],isGenerator:=yN,isCoroutine:=yN}
abbrev Td:Zi:=λ_ _ _ _ _ _=>False
abbrev E0:XK:=λ_ _ _=>False
def Vk:Lu Td X E0:=λ_ _ _ _ _ _ _ h=>h.elim
structure gi(K:W.Frag)(x qual:Str)(st:aO)(f:uN)(fd:UN):Prop where
 ex:∃(oc:rN)(od:Option uN)(kV doc pm:rN)(an:Option uN)(Np ct:rN)(Zu:Array (Option rN)),
  fd=W.fnOf x qual (wf st) (we st) (Ac st) .none kV doc pm an Np ct/\K.lookup f=qN ⟨oc,od,.func fd,Zu⟩/\W.codeIn K Np qual=wN
 kp:W.keepIn K (.ref f)=wN
section
variable{P:zN}{w:AN}{K:W.Frag}{mg:Str->Option rN}{base:EN}
def gi.ok{x r:Str}{st:aO}{f:uN}{fd:UN}{N J:List Str}{k:Nat}{sp:Sp}(F:gi K x r st f fd)(S:An N J (Ac st))(len:∀vs H Q E,sp vs H Q E->vs.length=J.length)
  (O:∀(g:rN)(A:BN)(outer:List NP)(s:tN)(H:Hp)(vs:List V)(Q:VK)(E:XK),ib k (A.deeper (CO r (Ac st) s.heap.objs.size f g))->sp vs H Q E->
   ∃t,Ee (Tk Td P w K mg base N r (Ac st) f g A outer s H E).Wh (we st) t/\t {nx:=λ_ H'=>Q .Ra H',rt:=Q} (start N vs) H):kd P w K mg base Td (k+1) f fd J sp:=by
 refine ea4 ?_ F.ex;rintro b0 c0;refine ea4 ?_;rintro kV d0;refine ec5 ?_;rintro e0 f0 g ct g0 rfl lk U;refine my lk U S len λA outer s H vs Q E Y a0=>?_
 refine ea1 ?_ (O g A outer s H vs Q E Y a0);rintro t h q;exact⟨t,h.Wh,q⟩
def gi.binds{st:aO}(F:gi K x Y st f fd)
  (h:∀(kV g r:rN)(J:Option uN)(O ct:rN)(us:List rN),us.length=U.length->uP (W.fnOf x Y (wf st) (we st) (Ac st) .none kV g r J O ct) ⟨us,[]⟩=pure (U.zip us)):Zd K fd U []:=by
 refine ea4 ?_ F.ex;rintro a0 b0;refine ea4 ?_;rintro kV g;refine ec5 ?_;rintro r J O ct c0 rfl lk d0;exact .all (by(intros;simp_all))
def Fy{st:aO}{kV J O g ct:rN}(l:K.lookup f=qN ⟨Y,a0,.func (W.fnOf x r (wf st) (we st) (Ac st) .none kV J O U g ct),b0⟩)
  (c:W.codeIn K g r=wN)(k:W.keepIn K (.ref f)=wN):gi K x r st f (W.fnOf x r (wf st) (we st) (Ac st) .none kV J O U g ct):=⟨by grind,k⟩
end
def kc(g:ib k A):A.units+1<CN:=Do (by simp_all) g.units
section
variable{X:Cx}
def pv(i:Nat){pos:oO}(g:X.N[i]?=qN x:=by rfl)(r:nn X.env.scope x:=by first|exact Or.inl rfl|exact Or.inr (Or.inl rfl)|exact Or.inr (Or.inr rfl))(J:(x==("__debug__":Str))=yN:=by decide)
  (O:(x==("__classdict__":Str))=yN:=by decide):PE X (.Name x pos) (Fj i):=Jx g r J O
end
def yg{A B:Prop}(h:B):if yN=wN then A else B:=by
 assumption
def Xk{A B:Prop}(h:A):if wN=wN then A else B:=by
 assumption
def jb{c A B:Prop}[Decidable c](g:c->A)(r:¬c->B):if c then A else B:=by
 simp_all
def aa(H H':Hp):Prop:=∀b o,H b=qN o->H' b=qN o
def aa.refl(H:Hp):aa H H:=λ_ _ h=>h
def aa.trans(a:aa H g)(b:aa g r):aa H r:=λc o h=>b c o (a c o h)
def aa.free(e:aa H H')(h:H' l=Option.none):H l=Option.none:=by
 cases q:H l with
 |none=>rfl
 |some o=>
  rw[e l o q]at h;cases h
def aa.seq{K:W.Frag}(e:aa H H')(h:ca K H a xs):ca K H' a xs:=by
 rcases h with(h|⟨o,h⟩)|h
 ·exact .inl (.inl (e _ _ h))
 ·exact .inl (.inr ⟨o,e _ _ h⟩)
 ·exact .inr h
end L2
namespace My
open PySem PySem.Spec PyProof.Rows L2
section
variable{X:Cx}
def RE:Kf X (.builtin "isinstance") (λxs H Q=>∃x t c b,xs=[x,V.ty c]/\xg X.K H x t/\W.kitOne X.K t (.type c)=qN b/\Q (.bl b) H):=by
 intro U s Y H xs us Q I g h;revert h;refine eaE ?_;rintro x t c b rfl ty e q;refine ea0 ?_ (Zl g);rintro u a0 rfl r J;cases J;exact RD I r ty e λO=>⟨.bl b,H,I.tok O,rfl,q⟩
end
section
variable{K:W.Frag}
def SE:W.kitOne K (.type "tuple") (.type "tuple")=qN wN:=by
 show(if(Value.type "tuple"==Value.type "tuple")=wN then qN wN else if W.kitMeta "tuple"=wN then(fastBuiltinMro "tuple").map (·.contains (Value.type "tuple"))else sN)=qN wN;decide+kernel
end
def gm{g:Type}[DecidableEq g]:∀{kvs:List (g×V)}{k:g}{v:V},(kvs.map (·.1)).Nodup->(k,v)∈kvs->Ka kvs k=qN v:=by
 intro kvs k v J r;induction kvs with
 |nil=>cases r
 |cons p a0 O=>
  obtain⟨b0,U⟩:=Qg.mp J;rcases rc.mp r with e|e
  ·subst e;exact wr rfl
  ·have Y:¬p.1=k:=by grind
   rw[xr Y];exact O U e
def av(g:0<=i)(r:i<xs.length):∃v,Lf xs i=qN v:=by
 have e:bj xs.length i=qN i.toNat:=by
  unfold bj;rw[va g,va r]
 have J:i.toNat<xs.length:=by simp_all
 refine⟨xs[i.toNat],?_⟩;unfold Lf
 simp_all
def bv(h:Lf xs i=qN v):v∈xs:=by
 obtain⟨j,_,e,_⟩:=Nu h;exact Xa e
def Dr(xs:List V)(k:Nat):ag xs sN (qN (k:Int))=xs.take k:=by
 exact(List.take_eq_take_min).symm
def _root_.L2.aa.upd(h:H p=sN):aa H (upd H p o):=λb u e=>by
 rw[ja (Tc e h)];exact e
def _root_.L2.aa.again(s:aa H H')(h:H p=sN):aa H (L2.upd H' p o):=λb u e=>by
 rw[ja (Tc e h)];exact s b u e
open Builtin.Int(intBits)
def Gy:∀{ns:List Int}{m:Int},m∈ns->intBits m<=W.WData.weightAll (ns.map W.WData.int)
 |n::r,m,h=>by
  rcases rc.mp h with e|e
  ·subst e;simp only[Sc,W.WData.weightAll,W.WData.weight,Builtin.Int.intBits];lia
  ·have z:=Gy e;simp only[Sc,W.WData.weightAll];lia
def UE{ns:List Int}(h:W.WData.layableAll [W.WData.list (ns.map .int)]=wN):∀m∈ns,intBits m<=1048576:=λm g=>by
 have r:=(W.layW_cons h).1;have J:=yd (Bool.and_eq_true_iff.mp r).2;have O:=Gy g;have U:W.WData.weight (.list (ns.map .int))=W.WData.weightAll (ns.map .int):=by simp only[W.WData.weight]
 lia
end My
namespace My
open PySem PySem.W PySem.Calls PyProof.Rows L2
def VE{l:W.OpenLaw}{n k:Nat}{q:zN}{U:List Str}{Y:(Str->Option rN)->EN->Prop}{J:AN->EN->Prop}{d:DefRec}{K:Params->W.Frag}{CX:AN->Zi}{sp:AN->Sp}{x:Str}
  (a0:l.most=qN n)(v0:n<=vN)(w0:d.params.defaults=[])(b0:ib k LP)
  (c0:∀(w:AN)(h:EN),J w h->(K w.params).In h)
  (F:∀(w:AN)(mg:Str->Option rN)(r:uN)(h:EN),(K w.params).In h->h.Ns HN mg->mg d.name=qN (.ref r)->
   ∃fd:UN,(∀(s:tN)(u:rN),dP s fd ⟨[u],[]⟩ [(x,u)])/\
    ∀base:EN,(K w.params).In base->base.Ns HN mg->kd l.prog w (K w.params) mg base (CX w) k r fd [x] (sp w))
  (d0:∀(w:AN)(H:Hp)(a:uN)(ns:List Int),ns.length<=n->(∀m∈ns,Builtin.Int.intBits m<=1048576)->Yu H->ca (K w.params) H a (ns.map V.int)->sp w [.ref a] H (λv _=>v=.bl wN) λ_ _ _=>False)
  (x0:∀(w:AN)(H:Hp)(s:tN)(e:rN)(s':tN),CX w [] H s (λ_ _ _=>False) e s'->False):
  W.WalkO q U Y J l.row.toRowW d [] (λf vs=>PySem.call f vs):=by
 intro w s₀ y0 mg z0 G e0 r o A0 cd B0 C0 kV D0 F0 G0 I0 f0 g0 args J0 K0 h0 i0 L0 j0 M0;refine ea2 ?_ (Att.NE a0 h0 j0);rintro a vs ns rfl rfl k0 l0 m0;have O:=c0 w _ e0;refine ea1 ?_ (F w mg r _ O G.T.g f0);rintro fd n0 o0;refine enter_call (Kl (QE O G.T.g G.T.b G.T.builtins G.T.nolimit g0 k0 l0 (by lia) b0 o0 n0 (λH p0 q0=>d0 w H a ns m0 (UE i0) p0 q0) (by(intros;simp_all))) λN0 s' r0=>?_);revert r0;refine eb4 ?_;rintro rfl s0 t0 u0;exact⟨.inl (nx8 (.bool wN) (.bool wN) ([]) rfl (λ_=>rfl) (.bool wN) (Att.OE l _) (by(intros;simp_all))),s0,t0,u0⟩
end My
namespace My
open PySem PySem.Spec PyProof.Rows L2
mutual
inductive Dt(K:W.Frag)(H:Hp):V->MN->Prop where
 |Ra:Dt K H .Ra .none
 |bl(b:Bool):Dt K H (.bl b) (.bool b)
 |int(i:Int):Dt K H (.int i) (.int i)
 |str(x:Str):Dt K H (.str x) (.str x)
 |lst{a:uN}{xs:List V}{ds:List MN}(h:ca K H a xs)(r:ii K H xs ds):Dt K H (.ref a) (.list ds)
 |tup{a:uN}{xs:List V}{ds:List MN}(h:oa K H a xs)(r:ii K H xs ds):Dt K H (.ref a) (.tuple ds)
inductive ii(K:W.Frag)(H:Hp):List V->List MN->Prop where
 |nil:ii K H [] []
 |cons{x:V}{d:MN}{xs:List V}{ds:List MN}(h:Dt K H x d)(r:ii K H xs ds):ii K H (x::xs) (d::ds)
end
section
variable{X:Cx}{pins:List (uN×TN)}{σ:L2.St}{H:Hp}{s:tN}
mutual
def Dt.reads(I:Inv X pins σ H s){v:V}{d:MN}(h:Dt X.K H v d){u:rN}(g:Aa v u):∃r,Reads s.heap u d r:=by
 cases h with
 |Ra=>cases g;exact⟨_,.none⟩
 |bl b=>cases g;exact⟨_,.bool b⟩
 |int i=>obtain⟨t,rfl⟩:=g;exact⟨_,.int i t⟩
 |str x=>obtain⟨t,rfl⟩:=g;exact⟨_,.str x t⟩
 |lst h q=>
  cases g;obtain⟨O,J,⟨o,n,e,c,_,dd⟩,_⟩:=I.list h;obtain⟨r,z⟩:=ii.reads I q J;exact⟨_,.list e c dd (by simpa using z)⟩
 |tup h q=>
  cases g;obtain⟨O,J,⟨o,e,c,n,dd⟩,_⟩:=I.tuple h;obtain⟨r,z⟩:=ii.reads I q J;exact⟨_,.tuple e c dd (by simpa using z)⟩
def ii.reads(I:Inv X pins σ H s){vs:List V}{g:List MN}(h:ii X.K H vs g){us:List rN}(r:Ia vs us):∃J,ReadsAll s.heap us g J:=by
 cases h with
 |nil=>cases r;exact⟨_,.nil⟩
 |cons h q=>
  cases r with
  |cons O U=>
   obtain⟨J,z⟩:=Dt.reads I h O;obtain⟨bs,y⟩:=ii.reads I q U;exact⟨_,.cons z y⟩
end
end
section
variable{X:Cx}
inductive WE(K:W.Frag)(x y:V)(H:Hp)(Q:VK):Prop|mk(da db)(_:Dt K H x da)(_:Dt K H y db)(_:SeqAt.shaped da=wN)(_:SeqAt.shaped db=wN)(_:Q (.bl (PyData.eqv da db)) H)
inductive Hy(K:W.Frag)(x y:V)(H:Hp)(Q:VK):Prop|mk(da db)(_:Dt K H x da)(_:Dt K H y db)(_:SeqAt.shaped da=wN)(_:SeqAt.shaped db=wN)(_:Q (.bl (!PyData.eqv da db)) H)
def XE(g:X.A.units+64<CN):Ic X (LN .Eq) (WE X.K):=by
 intro d0 s e0 H x y v u Q I r J h;obtain⟨f0,g0,O,U,Y,a0,q⟩:=h;obtain⟨h0,b0⟩:=O.reads I r;obtain⟨bs,c0⟩:=U.reads I J;exact SeqAt.compareEq_shaped b0 c0 Y a0 g ⟨.bl _,H,I,rfl,q⟩
def Iy(g:X.A.units+64<CN):Ic X (LN .NotEq) (Hy X.K):=by
 intro d0 s e0 H x y v u Q I r J h;obtain⟨f0,g0,O,U,Y,a0,q⟩:=h;obtain⟨h0,b0⟩:=O.reads I r;obtain⟨bs,c0⟩:=U.reads I J;exact SeqAt.compareNe_shaped b0 c0 Y a0 g ⟨.bl _,H,I,rfl,q⟩
end
def cv(x:xc P w H h a o):∃ob,h.get? a=qN ob:=by
 cases o with
 |lst xs=>revert x;refine eb3 ?_;rintro _ _ _ _ e;simp_all
 |tup xs=>obtain⟨_,_,_,ob,e,_⟩:=x;simp_all
 |dK kvs=>revert x;refine ea3 ?_;rintro _ _⟨_,_,o,_,_,e,_⟩;grind
 |dT kvs=>revert x;refine ea3 ?_;rintro _ _⟨_,_,o,_,_,e,_⟩;grind
 |set S n=>revert x;refine ea4 ?_;rintro o _;refine eaA ?_;rintro _ _ e _;grind
 |ins C g fs=>revert x;refine ebF ?_;rintro _ _ _ e _;simp_all
 |own y=>exact x
 |xd fs=>obtain⟨_,⟨_,_,_,e,_⟩,_⟩:=x;grind
 |jr lo r=>obtain⟨_,_,_,e⟩:=x;simp_all
 |Hb ob u=>obtain⟨e,_⟩:=x;grind
 |Ik J=>exact⟨_,‹_›⟩
 |met f y=>exact⟨_,‹_›⟩
 |ext O=>obtain⟨_,e,_⟩:=x;exact e
section
variable{X:Cx}{pins:List (uN×TN)}{σ:L2.St}{H:Hp}{s:tN}
def dj(I:Inv X pins σ H s)(h:s.heap.get? D=sN):H D=sN:=by
 cases q:H D with
 |none=>rfl
 |some u=>
  obtain⟨ob,e⟩:=cv (I.ya D u q)
  simp_all
end
def xf:∀{xs:List V}{us:List rN}{i:Nat}{u:rN},Ia xs us->us[i]?=qN u->∃x,xs[i]?=qN x/\Aa x u
 |_,_,_,_,.nil,e=>by simp at e
 |_,_,0,_,.cons g _,e=>by grind
 |_,_,i+1,u,.cons _ t,e=>by
  refine ea1 ?_ (xf (i:=i) (u:=u) t (by simpa using e));rintro x r J
  grind
section
variable{P:zN}{w:AN}{K:W.Frag}{mg:Str->Option rN}{base:EN}{N:List Str}{qual:Str}{scope:ZN}{f:uN}{cd:rN}{A:BN}{outer:List NP}{s₀:tN}{H₀:Hp}{E:XK}
 {pins:List (uN×TN)}{σ:L2.St}{H H':Hp}{s:tN}
end
section
variable{X:Cx}
def YE{r:L2.St}(I:Inv X O r H s)(k:∀b u,s.heap.get? b=qN u->h'.get? b=qN u)(U:s.heap.get? D=sN)
  (a0:xc X.prog X.w (upd H D o) h' D o):Inv X O r (upd H D o) {s with heap:=h',toks:=t'}:=by
 have g:=dj I U;have Y:∀b u,s.heap.get? b=qN u->b≠D:=λb u e z=>by grind
 refine I.un ⟨by grind,λb u q _ _ _=>⟨u.slots,k b u q⟩,λb u q n _=>by rw[ja (Y b u q)];exact n,by grind,λb xs q=>by rw[ja (Tc q g)];exact q,
  λb u xs q=>by rw[ja (Tc q g)];exact q,λb b0 q=>⟨#[],by rw[ja (Tc q g),q];simp⟩⟩ λb u e=>?_
 by_cases J:b=D
 ·subst J;rw[ia]at e
  grind
 ·rw[ja J]at e;exact(I.ya b u e).Hc (by grind) (λc q=>by rw[ja (Tc q g)];exact q) λc xs q=>by rw[ja (Tc q g)];exact q
end
section
variable{X:Cx}{pins:List (uN×TN)}{σ:L2.St}{H:Hp}{s:tN}
def ZE(r:Inv X pins σ h0 Y)(I:Inv X pins σ H s)(i0:Y.heap.get? a=sN)(g:H a=sN)(ok:xc X.prog X.w (upd H a o) s.heap a o):Inv X pins σ (upd H a o) s:=by
 have J:∀b u,Y.heap.get? b=qN u->b≠a:=λb u e z=>by grind
 refine⟨I.ok,I.os,I.bare,⟨I.base.keep,I.base.slot,λb u e n a0=>?_,I.base.there,λb xs e=>?_,λb u v e=>?_,λb d0 e=>?_⟩,I.loc,I.cell,?_,λx c e=>?_,λp b0=>?_,λb u e=>?_,I.len⟩
 ·obtain⟨e0,O⟩:=r.base.there b u e a0;rw[ja (J b e0 O)];exact I.base.free b u e n a0
 ·have q:=I.base.tups b xs e;rw[ja (Tc q g)];exact q
 ·have q:=I.base.frzs b u v e;rw[ja (Tc q g)];exact q
 ·obtain⟨more,q⟩:=I.base.tbls b d0 e;exact⟨more,by rw[ja (Tc q g)];exact q⟩
 ·obtain⟨j0,⟨u,_,_,U,_⟩,_⟩:=r.loc;rw[ja (J _ u U)];exact I.free
 ·obtain⟨v,u,U,_⟩:=r.cell x c e;rw[ja (J c u U)];exact I.ub x c e
 ·refine ebF ?_ (I.pin p b0);rintro e n f0 g0 d;obtain⟨O,_⟩:=r.pin p b0;exact⟨e,by rw[ja (J _ _ O)];exact n,f0,g0,d⟩
 ·by_cases c0:b=a
  ·subst c0;rw[ia]at e
   grind
  ·rw[ja c0]at e;refine(I.ya b u e).Hc (λc v k0 q=>q) (λc q=>?_) λc xs q=>?_
   ·rw[ja (Tc q g)];exact q
   ·rw[ja (Tc q g)];exact q
end
def aF(ys:List V):It:=⟨λi _=>i<ys.length,λi H x H'=>H'=H/\ys[i]?=qN x,λi _=>ys.length<=i⟩
abbrev bF(y:Str):List V:=y.cps.toList.map λc=>V.str ⟨#[c]⟩
structure Src(P:zN)(w:AN)(K:W.Frag)(J:It)(it:uN)(st:Nat->EN->Prop):Prop where
 obj:∀i h,st i h->∃o,h.get? it=qN o/\∀v,o.data≠.cell v
 keep:∀i h h',st i h->(∀o,h.get? it=qN o->h'.get? it=qN o)->st i h'
 item:∀(X:Cx),X.prog=P->X.w=w->X.K=K->∀(A:BN)(i:Nat)(pins:List (uN×TN))(s:tN)(σ:L2.St)(H:Hp)(Q:rN->tN->Prop)(E:rN->tN->Prop),Inv X pins σ H s->st i s.heap->J.go i H->
  (∀x u h' tk,Aa x u->J.af i H x H->st (i+1) h'->Heap.SameBut it s.heap h'->Q u {s with heap:=h',toks:=tk})->wpAny (xN P w) A (Builtin.SmallTypes.nextOf (.ref it)) Q E s
 done:∀(X:Cx),X.prog=P->X.w=w->X.K=K->∀(A:BN),A.handled=sN->∀(i:Nat)(pins:List (uN×TN))(s:tN)(σ:L2.St)(H:Hp)(Q:rN->tN->Prop)(E:rN->tN->Prop),Inv X pins σ H s->st i s.heap->J.stop i H->
  (∀h' e,Heap.ExtBut it s.heap h'->(∃o,h'.get? e=qN o/\o.cls=.type "StopIteration")->E (.ref e) {s with heap:=h'})->wpAny (xN P w) A (Builtin.SmallTypes.nextOf (.ref it)) Q E s
section
variable{P:zN}{w:AN}{K:W.Frag}
def cF(a b0:uN):Src P w K (bf K a) b0 (λi h=>h.IsListIter b0 a i)where
 obj:=λi h st=>by
  revert st;refine ea8 ?_;rintro o e c d
  simp_all
 keep:=λi h h' st k=>st.at λo e=>k o e
 item:=by
  intro X r J O A i c0 s d0 H Q E I st U e0;subst r J O;obtain⟨xs,x,g,Y⟩:=U;obtain⟨f0,a0,p,hz⟩:=I.list g;obtain⟨u,m0,g0⟩:=a0.get Y;exact wpAny_nextOf_list_item st p.isList (by grind) λh' h0 i0=>e0 x u h' s.toks g0 ⟨rfl,λys j0=>by rw[I.Yd j0 g];exact Y⟩ h0 i0
 done:=by
  intro X r J O A k0 i c0 s d0 H Q E I st U l0;subst r J O;obtain⟨xs,g,Y⟩:=U;obtain⟨f0,a0,p,hz⟩:=I.list g;have n0:=a0.length;exact wpAny_nextOf_list_end k0 st p.isList (by simp;lia) l0
def dv(g r:It):It:=⟨λi H=>g.go i H/\r.go i H,λi H v H'=>∃p x y,g.af i H x H/\r.af i H y H/\v=.ref p/\H p=sN/\H'=upd H p (.tup [x,y]),λi H=>g.stop i H\/(g.go i H/\r.stop i H)⟩
structure ev(z TI TO i1 i2:uN):Prop where
 TIz:TI≠z
 TOz:TO≠z
 i1z:i1≠z
 i2z:i2≠z
 TITO:TI≠TO
 TIi1:TI≠i1
 TIi2:TI≠i2
 TOi1:TO≠i1
 TOi2:TO≠i2
 i12:i1≠i2
def dF(n:Nat):ev (n+4) (n+2) (n+3) n (n+1):=by
 constructor<;>(simp_all)
abbrev zA(h:EN)(g:TN):EN:=h.push g
abbrev zB(h:EN)(g r:TN):EN:=(zA h g).push r
abbrev zC(h:EN)(g r:TN):EN:=(zB h g r).push {cls:=.type "tuple",data:=.seq #[.ref h.objs.size,.ref (zA h g).objs.size]}
abbrev zD(h:EN)(g r:TN):EN:=(zC h g r).push {cls:=.type "tuple",data:=.seq #[.none,.none]}
abbrev zE(h:EN)(g r:TN):EN:=(zD h g r).push {cls:=.type "zip",data:=.fields #[.none,.bool yN,.bool yN,.ref (zB h g r).objs.size,.ref (zC h g r).objs.size]}
structure Jy(h g:EN)(o1 o2:TN)(z TI TO i1 i2:uN):Prop where
 zip:IsZip g z TI TO .none
 ins:ZO g TI (.ref i1) (.ref i2)
 outs:ZO g TO .none .none
 one:g.get? i1=qN o1
 two:g.get? i2=qN o2
 keep:∀c o,h.get? c=qN o->g.get? c=qN o
 young:∀c∈[z,TI,TO,i1,i2],h.objs.size<=c
 ap:ev z TI TO i1 i2
def Ky(h:EN)(d0:g.isFreed=yN)(e0:r.isFreed=yN):Jy h (zE h g r) g r (zD h g r).objs.size (zB h g r).objs.size (zC h g r).objs.size h.objs.size (zA h g).objs.size:=by
 have O:∀{J:EN}{a:uN}{o u:TN},J.get? a=qN o->(J.push u).get? a=qN o:=λe=>Pa _ e
 have U:∀{J:EN}{o:TN},o.isFreed=yN->(J.push o).get? J.objs.size=qN o:=λe=>yb _ e
 have Y:(zA h g).objs.size=h.objs.size+1:=Oh ..;have a0:(zB h g r).objs.size=h.objs.size+2:=by rw[Oh,Y]
 have b0:(zC h g r).objs.size=h.objs.size+3:=by rw[Oh,a0]
 have c0:(zD h g r).objs.size=h.objs.size+4:=by rw[Oh,b0]
 refine⟨U rfl,O (O (U rfl)),O (U rfl),by grind,by grind,by grind,λc f0=>?_,?_⟩
 ·grind
 ·rw[Y,a0,b0,c0];exact dF _
end
inductive Mb(K:W.Frag)(H:Hp):V->It->Prop where
 |list{a:uN}{xs:List V}(h:ca K H a xs):Mb K H (.ref a) (bf K a)
 |tup{a:uN}{xs:List V}(h:oa K H a xs):Mb K H (.ref a) (tD K a)
 |str(y:Str):Mb K H (.str y) (aF (bF y))
structure eF(J:It)(H:Hp)(xs:List V):Prop where
 go:∀i,i<xs.length->J.go i H
 stop:∀i,xs.length<=i->J.stop i H
 af:∀i x H',J.af i H x H'->xs[i]?=qN x
def Pd{K:W.Frag}(h:ca K H a xs):eF (bf K a) H xs:=⟨λi g=>nx4 xs (xs[i]) h (by simp[g]),λi g=>⟨xs,h,g⟩,λi x H' y=>y.2 xs h⟩
section
variable{X:Cx}{pins:List (uN×TN)}{σ:L2.St}{H:Hp}{s:tN}{scope:ZN}{N:List Str}{target iter elt:IN}{pos:oO}{g:TG}{te:TE}
def gv(I:Inv X pins σ H s)(r:∀b∈fp,rf X pins H b)(os:s'.os=s.os)(J:pO s'.gens)(un:Un (sg X.stack) fp H H' s.heap s'.heap)(O:yc X.prog X.w H' s'.heap)(U:H' C=sN)(Y:s.heap.objs.size<=C):
  Inv X pins σ H' s'/\rf X pins H' C:=
 ⟨I.Jk os un O J λb a0=>by refine ea6 ?_ (r b a0);rintro _ b0 _ c0 d0 e0;exact⟨c0,b0,d0,e0⟩,I.sf Y U⟩
def hv(I:Inv X pins σ H' s)(f:rf X pins H' C)(k:Heap.SameBut C s.heap h'):Inv X pins σ H' {s with heap:=h'}:=by
 revert f;refine ea6 ?_;rintro r J _ O U Y;exact I.turned (t':=s.toks) (λb o a0 e=>(k.2 b a0).trans e) r J O U Y
end
def Op{X:Cx}{K:W.Frag}{es:List IN}{k:Nat}{t:Gj}{n:Nat}{pos:oO}(g:X.K=K)(r:X.calm=wN)(h:Vl X es t)(J:(hO es X.env).length=n:=by rfl)(O:(hO es X.env).findIdx? (·.1)=sN:=by rfl):PG X (.Tuple es k pos) (Mx K n t):=by
 subst g;exact Jf r h J O
section
variable{P:zN}{w:AN}{K:W.Frag}{mg:Str->Option rN}{base:EN}{N:List Str}{qual:Str}{scope:ZN}{f:uN}{cd:rN}{A:BN}{outer:List NP}{s₀:tN}{H₀:Hp}{E:XK}
 {pins:List (uN×TN)}{σ:L2.St}{H H2:Hp}{s s2:tN}{h':EN}{ea C:uN}{d:Option uN}
end
def Dd(cells:List (Str×uN)):List (Str×jO)->List (Str×uN)->List (Str×uN)
 |[],acc=>acc
 |(n,k)::r,acc=>if(k==NameKind.free)=wN then Dd cells r ((n,(cells.lookup n).getD 0)::acc)else Dd cells r acc
def Ly(h:∀q∈scope.names,q.2=.free->∃c,env.cells.lookup q.1=qN c):VP scope env=pure (Dd env.cells scope.names []):=by
 simp only[VP];generalize([]:List (Str×uN))=acc;revert h;generalize scope.names=names;intro h;induction names generalizing acc with
 |nil=>rfl
 |cons q O g=>
  obtain⟨n,k⟩:=q;rw[Wd];by_cases r:(k==NameKind.free)=wN
  ·obtain⟨c,J⟩:=h (n,k) Vi (by simp_all);have e:cellOf env n=pure c:=by simp only[cellOf,J]
   simp only[Dd,r,if_true,e,J,Option.getD_some,pure_bind];exact g _ (by grind)
  ·simp only[Dd,r,Be,pure_bind,Mg];exact g _ (by grind)
def Er:∀{names:List (Str×jO)}{acc:List (Str×uN)},(∀q∈names,q.2=.free->∃c,cells.lookup q.1=qN c)->(∀x c,acc.lookup x=qN c->cells.lookup x=qN c)->∀x c,(Dd cells names acc).lookup x=qN c->cells.lookup x=qN c
 |[],_,_,g=>g
 |(n,k)::J,acc,h,g=>by
  intro x c e;by_cases r:(k==NameKind.free)=wN
  ·obtain⟨d,O⟩:=h (n,k) Vi (by grind);rw[Dd,va r]at e;refine Er (by grind) (λy b q=>?_) x c e
   grind
  ·rw[Dd,na r]at e;exact Er (by grind) g x c e
def Gn:∀{names:List (Str×jO)}{acc:List (Str×uN)}{x:Str},((x,NameKind.free)∈names\/∃c,acc.lookup x=qN c)->∃c,(Dd cells names acc).lookup x=qN c
 |[],_,_,h=>h.elim (by(intros;simp_all)) id
 |(n,k)::J,acc,x,h=>by
  by_cases g:(k==NameKind.free)=wN
  ·rw[Dd,va g];refine Gn ?_;cases r:x==n with
   |true=>exact .inr ⟨_,by rw[Bk,r]⟩
   |false=>
    grind
  ·rw[Dd,na g];refine Gn ?_
   grind
def Pp{env:NP}:∀{names:List (Str×jO)}{x:Str}{J:jO},(names.map λ(n,k)=>if(k==NameKind.free&&env.scope.kind==.function&&env.kindOf n==qN .cell)then(n,NameKind.cell)else(n,k)).lookup x=qN J->
  ∃k,names.lookup x=qN k/\(J=k\/(k=.free/\J=.cell))
 |[],_,_,h=>by simp at h
 |(n,k)::O,x,J,h=>by
  have U:=@Pp env O x J;have h:List.lookup x ((if(k==NameKind.free&&env.scope.kind==.function&&env.kindOf n==qN .cell)=wN then(n,NameKind.cell)else(n,k))::_)=qN J:=h;cases g:x==n with
  |true=>
   by_cases r:(k==NameKind.free&&env.scope.kind==.function&&env.kindOf n==qN .cell)=wN
   ·rw[va r,Bk,g]at h;cases h;have Y:k=.free:=by
     simp only[Vm]at r;simpa using r.1.1
    exact⟨k,by rw[Bk,g],.inr ⟨Y,rfl⟩⟩
   ·rw[na r,Bk,g]at h;cases h;exact⟨k,by rw[Bk,g],.inl rfl⟩
  |false=>
   obtain⟨a0,e,q⟩:=U (by
    by_cases r:(k==NameKind.free&&env.scope.kind==.function&&env.kindOf n==qN .cell)=wN
    ·rw[va r,Bk,g]at h;exact h
    ·rw[na r,Bk,g]at h;exact h)
   exact⟨a0,by rw[Bk,g];exact e,q⟩
def Yc(X:Cx)(scope:ZN)(N:List Str)(g:List (Str×uN))(C:uN)(s₀:tN)(H₀:Hp)(ex:List uN):Cx:=
 {X with N:=N,s₀:=s₀,H₀:=H₀,env:=compEnvC scope g C X.env,outer:=X.stack,stack:=X.stack,ex:=ex,fn:=λ_=>yN,pn:=[],xe:=λ_ _=>False}
def Wg(g:L2.St)(n:Nat)(js:List Nat):L2.St:=List.replicate n sN++js.map λj=>(g[j]?).getD sN
def Ny(r:List IN)(env:NP):fQ Bool:=forIn r wN λc g=>if g=wN then do let ok<-isTrue c env (SN c env);pure (ForInStep.yield ok)else pure (ForInStep.yield g)
structure Pj(X:Cx)(ifs:List IN)(t:TT):Prop where
 run:∀(pins:List (uN×TN))(s:tN)(σ:L2.St)(H:Hp)(Q:Bool->Hp->Prop),Inv X pins σ H s->t σ H Q->wpAny (xN X.prog X.w) X.A (Ny ifs X.env) (TP X pins σ Q) X.xe s
def Oy:TT:=λ_ H Q=>Q wN H
def Ie:Pj X [] Oy:=⟨λg s r H Q I h=>wpAny_tests_nil ⟨H,I,h⟩⟩
def Mf(h:PT X c t):Pj X [c] t:=⟨λg s r H Q I q=>wpAny_tests_one (h g s r H Q I q)⟩
structure Ah(X:Cx)(scope:ZN)(fv:List Str)(js:List Nat):Prop where
 kind:scope.kind=.function
 cell:∀q∈scope.names,q.2≠.cell
 names:∀q∈scope.names,q.2=.local->scope.names.lookup q.1=qN .local
 free:∀q∈scope.names,q.2=.free->q.1∈fv
 out:∀x∈fv,X.env.kindOf x=qN .cell\/X.env.kindOf x=qN .free
 at':js.map (λj=>X.N[j]?)=fv.map qN
 fr:∀x∈fv,scope.names.lookup x=qN .free
section
variable{X:Cx}{pins:List (uN×TN)}{σ:L2.St}{H:Hp}{s:tN}{scope:ZN}{N:List Str}{C:uN}{ex:List uN}{cl:List (Str×uN)}{fv tg:List Str}{js:List Nat}
def Ah.Qj(S:Ah X scope fv js)(ok:X.Ok):VP scope X.env=pure (Dd X.env.cells scope.names []):=Ly λq g e=>ok.has q.1 (S.out q.1 (S.free q g e))
def Ah.sub(S:Ah X scope fv js)(ok:X.Ok):∀x c,(Dd X.env.cells scope.names []).lookup x=qN c->X.env.cells.lookup x=qN c:=
 Er (λq g e=>ok.has q.1 (S.out q.1 (S.free q g e))) (by(intros;simp_all))
def fF(I:Inv X pins σ H s)(S:Ah X scope fv js)(U:s.heap.objs.size<=C)
  (O:∀b∈ex,rf X pins H b)(Y:∀b∈ex,∃o,s.heap.get? b=qN o):(Yc X scope N (Dd X.env.cells scope.names []) C s H ex).Ok:=by
 have sub:=S.sub I.ok;refine⟨I.ok.mod,S.kind,I.ok.glob,I.ok.blt,U,λx y c a0 r=>I.ok.inj x y c (sub x c a0) (sub y c r),λx b0=>?_,λx c z _=>Bool.noConfusion z,I.ok.hd,I.ok.frames,.inl rfl,λb g=>⟨?_,λx c e=>?_⟩,I.bs,gb I.ok.Vh I.sz,λb o e g=>?_,λb g c0=>?_,I.stack,I.De⟩
 ·have e:∃J,(pP scope X.env).names.lookup x=qN J/\(J=.cell\/J=.free):=by
   rcases b0 with z|z
   ·exact⟨_,z,.inl rfl⟩
   ·exact⟨_,z,.inr rfl⟩
  revert e;refine ea1 ?_;rintro J e d0;refine ea1 ?_ (Pp e);rintro k r q;have e0:k=.free:=by
   rcases q with rfl|⟨rfl,_⟩
   ·rcases d0 with rfl|rfl
    ·exact absurd rfl (S.cell _ (uh r))
    ·rfl
   ·rfl
  subst e0;exact Gn (.inl (uh r))
 ·obtain⟨o,e⟩:=Y b g;exact nb (ed (Na e) U)
 ·obtain⟨_,_,_,_,q,_⟩:=O b g;exact q x c (sub x c e)
 ·obtain⟨_,_,_,q,_⟩:=O b g;rcases q with q|q
  ·exact I.ok.Tg b o e q
  ·exact absurd (ed (Na e) (gb I.ok.Vh q)) (Sh _)
 ·obtain⟨_,q1,q2,_⟩:=O b g;rcases rc.mp (I.Ce b c0)with z|z
  ·exact q1 z
  ·exact q2 z
def gF(I:Inv X pins σ H s)(S:Ah X scope fv js)(ok:(Yc X scope (tg++fv) (Dd X.env.cells scope.names []) C s H ex).Ok)(U:∀b o,s.heap.get? b=qN o->h'.get? b=qN o)(f0:s.heap.get? D=sN)(g0:s.heap.get? C=sN)(h0:D≠C)
  (i0:h'.get? D=qN {cls:=.type "list",data:=.seq #[]})(j0:h'.Ns C m):Inv (Yc X scope (tg++fv) (Dd X.env.cells scope.names []) C s H ex) [] (Wg σ tg.length js) (upd H D (.lst [])) {s with heap:=h',toks:=t'}:=by
 have r:=dj I f0;have b0:∀b u,s.heap.get? b=qN u->b≠D:=by grind
 have sub:=S.sub I.ok;have k0:∀c v,s.heap.IsCell c v->h'.IsCell c v:=λc v⟨o,Y,l0⟩=>⟨o,U c o Y,l0⟩
 have m0:js.length=fv.length:=by have:=Vb List.length S.at';simpa using this
 refine⟨ok,rfl,I.bare,⟨λb u q _ _ _=>U b u q,λb u q _ _ _=>⟨u.slots,U b u q⟩,λb u q n _=>by rw[ja (b0 b u q)];exact n,λb u q _=>⟨u,U b u q⟩,λb xs q=>by rw[ja (Tc q r)];exact q,
  λb u xs q=>by rw[ja (Tc q r)];exact q,λb y0(q:H b=_)=>⟨#[],by rw[ja (Tc q r),q];simp⟩⟩,⟨m,j0,λi x v J g n0=>?_⟩,λx c e=>?_,?_,λx c e=>?_,λp o0=>(by cases o0),λb u e=>?_,by simp[Yc,Wg,m0]⟩
 ·have J:(tg++fv)[i]?=qN x:=J;rcases Nat.lt_or_ge i tg.length with hi|hi
  ·rw[Wg,Vo (by simpa using hi),List.getElem?_replicate,va hi]at g;cases g
  ·rw[cp hi]at J;rw[Wg,cp (by simpa using hi),Go,lb]at g;refine ea1 ?_ (Jd.mp g);rintro j p0 g;have q0:σ[j]?=qN (qN v):=by
    cases q:σ[j]? with
    |none=>rw[q]at g;cases g
    |some z=>rw[q]at g;exact Vb qN g
   have r0:X.N[j]?=qN x:=by
    have q:=Vb (λl=>l[i-tg.length]?) S.at';simp only[lb,p0,J,Option.map_some]at q;exact Ed q
   have a0:=Xa J;have c0:=S.out x a0;refine ea1 ?_ I.loc;rintro z0 _ s0;have t0:nn X.env.scope x:=c0.elim (λz=>.inr (.inl z)) λz=>.inr (.inr z)
   refine ea1 ?_ (s0 j x v r0 q0 t0);rintro u u0 lk;obtain⟨c,v0,w0⟩:∃c,X.env.cells.lookup x=qN c/\s.heap.IsCell c (qN u):=by
    rcases lk with⟨z,_⟩|⟨_,q⟩
    ·rcases c0 with y|y<;>(rw[y]at z;cases z)
    ·exact q
   obtain⟨O,d0⟩:∃O,(Dd X.env.cells scope.names []).lookup x=qN O:=Gn (.inl (uh (S.fr x a0)));have x0:O=c:=by have:=sub x O d0;rw[v0]at this;exact(Ed this).symm
   subst x0;refine⟨u,u0,.inr ⟨?_,O,d0,k0 _ _ w0⟩⟩;rcases n0 with z|z|z
   ·refine ea1 ?_ (Pp z);rintro k ek q;rw[S.fr x a0]at ek;cases ek;rcases q with q|⟨_,q⟩<;>cases q
   ·exact .inl z
   ·exact .inr z
 ·obtain⟨v,z⟩:=I.cell x c (sub x c e);exact(by grind)
 ·show upd H D (.lst []) C=sN;rw[ja (lc h0)];exact dj I g0
 ·obtain⟨v,o,Y,_⟩:=I.cell x c (sub x c e);rw[ja (b0 c o Y)];exact I.ub x c (sub x c e)
 ·by_cases e0:b=D
  ·subst e0;rw[ia]at e;cases e;exact⟨Va _,nx4 ([]) _ (.nil) i0⟩
  ·rw[ja e0]at e;exact(I.ya b u e).Hc (by(intros;simp_all)) (λc q=>by rw[ja (Tc q r)];exact q) λc xs q=>by rw[ja (Tc q r)];exact q
end
def Py{prog:zN}{w:AN}{A:BN}{s:tN}{R:lP->tN->Prop}{a0 r iter:IN}{b0:List IN}{scope:ZN}{pos:oO}{J acc:rN}{env:NP}(I:Nat->tN->Prop)
  (turn:∀n s,I n s->wpAny (xN prog w) A (yO J) (λO U=>(O=sN/\R (.ok .next) U)\/∃v,O=qN v/\wpAny (xN prog w) A (JO r J v) (λ_ c0=>wpAny (xN prog w) A (assign r env v) (λ_ d0=>
   wpAny (xN prog w) A (Ny b0 env) (λok Y=>if ok=wN then wpAny (xN prog w) A (SN a0 env) (λx e0=>wpAny (xN prog w) A (call (.builtin "list.append") [acc,x]) (λ_ f0=>∃m,m<n/\I m f0) (λ_ _=>False) e0) (λ_ _=>False) Y
    else∃m,m<n/\I m Y) (λ_ _=>False) d0) (λ_ _=>False) c0) (λ_ _=>False) U) (λ_ _=>False) s)
  (n:Nat)(h:I n s):codeAny (xN prog w) A (.compLoop (.ListComp a0 [⟨r,iter,b0,0⟩] scope pos) 0 J acc env) R s:=by
 have g:∀{α:Type}{E:rN->tN->Prop}{t:fQ α}{Q:α->tN->Prop}{u:tN},wpAny (xN prog w) A t Q (λ_ _=>False) u->wpAny (xN prog w) A t Q E u:=λz=>zd z (λ_ _ q=>q) λ_ _ q=>q.elim
 refine codeAny_loop rfl I (λn s h0=>wpAny_noted ?_) n h;rw[compTurn_list];refine ba (vO (ba (zd (turn n s h0) (λO U q=>?_) λ_ _ z=>z.elim)));rcases q with⟨rfl,q⟩|⟨v,rfl,q⟩
 ·exact ga q
 ·refine ba (g (xa q λ_ c0 q2=>ba (g (xa q2 λ_ d0 q3=>ba (g (xa q3 λok Y g0=>?_))))));cases ok with
  |false=>exact ga ⟨rfl,g0⟩
  |true=>exact ba (ba (g (xa g0 λx e0 i0=>ba (g (xa i0 λ_ f0 j0=>ga (ga ⟨rfl,j0⟩))))))
def Nf(b0:L2.St)(J:It)(c0:TG)(d0:TT)(e0:TE)(Q:VK)(O:Hp):Prop:=∀D,O D=sN->∃W:Nat->Nat->List V->L2.St->Hp->Prop,(∃m,W 0 m [] b0 (upd O D (.lst [])))/\∀i m ys U H,W i m ys U H->H D=qN (.lst ys)/\
 ((J.stop i H/\Q (.ref D) H)\/(J.go i H/\ys.length<vN/\∀v H',J.af i H v H'->c0 v U H' λr f0=>d0 r f0 λok Y=>if ok=wN then e0 r Y λy a0=>a0 D=qN (.lst ys)/\∃g,g<m/\W (i+1) g (ys++[y]) r (upd a0 D (.lst (ys++[y])))
  else∃g,g<m/\W (i+1) g ys r Y))
section
variable{X:Cx}{pins:List (uN×TN)}{σ:L2.St}{H:Hp}{s:tN}{scope:ZN}{fv:List Str}{js:List Nat}{target iter elt:IN}{ifs:List IN}{pos:oO}{g:TG}{tc:TT}{te:TE}
def Qy{E:rN->tN->Prop}{d0:Nat->EN->Prop}{RR:rN->uN->lP->tN->Prop}(O:List Str)(I:Inv X pins σ H s)(v0:X.calm=wN)
  (S:Ah X scope fv js)(T:Yi X.prog X.w X.K target T0 fp w0 d0)(st:d0 0 s.heap)(x0:∀b∈fp,rf X pins H b)
  (U0:∀r C s₀ H₀ ex,PG (Yc X scope (O++fv) r C s₀ H₀ ex) target g)(V0:∀r C s₀ H₀ ex,Pj (Yc X scope (O++fv) r C s₀ H₀ ex) ifs tc)(W0:∀r C s₀ H₀ ex,PE (Yc X scope (O++fv) r C s₀ H₀ ex) elt te)(q:Nf (Wg σ O.length js) T0 g tc te Q H)
  (X0:∀D C H' s' m,s'.os=s.os->pO s'.gens->Un (sg X.stack) fp H H' s.heap s'.heap->yc X.prog X.w H' s'.heap->s'.heap.Ns C m->H' C=sN->s.heap.objs.size<=C->Q (.ref D) H'->RR (.ref D) C (.ok .next) s'):
  wpAny (xN X.prog X.w) X.A (newList []) (λacc e0=>wpAny (xN X.prog X.w) X.A (RO scope X.env.globals (Dd X.env.cells scope.names []) [] X.env.qual sN .none (qN X.env)) (λy0 i0=>
   codeAny (xN X.prog X.w) X.A (.compStart (.ListComp elt [⟨target,iter,ifs,0⟩] scope pos) 0 (.ref w0) acc {y0 with scope:=pP scope X.env}) (RR acc y0.locals) i0) E e0) E s:=by
 refine Li (wpAny_newFunctionEnv S.cell (by intro y Y0;simp at Y0) (λz0 f0 j0=>?_) S.kind);generalize k0:s.heap.push {cls:=.type "list",dict:=sN,data:=.seq ([]:List rN).toArray}=U at f0 j0⊢;have A0:U.objs.size=s.heap.objs.size+1:=by rw[<-k0,Oh]
 have B0:s.heap.objs.size≠U.objs.size:=by rw[A0];exact nb (by simp_all)
 have l0:s.heap.objs.size<=U.objs.size:=by rw[A0];exact Lg _
 have C0:s.heap.get? s.heap.objs.size=sN:=Gk (wa _);have Z0:=Gk l0;have D0:=λb o e=>j0.extBut b o (by grind) (Pa _ (k0▸Pa _ e))
 have a1:=j0.extBut _ _ B0 (Pa _ (k0▸yb _ rfl));have ob:=T.obj 0 s.heap st;generalize F0:Dd X.env.cells scope.names []=r;have ok:(Yc X scope (O++fv) r U.objs.size s H fp).Ok:=F0▸fF I S l0 x0 (by grind);have b1:Inv (Yc X scope (O++fv) r U.objs.size s H fp) [] (Wg σ O.length js) (upd H s.heap.objs.size (.lst [])) {s with heap:=z0,toks:=s.toks+([]:List (Str×rN)).length}:=by
  subst F0;exact gF I S ok D0 C0 Z0 B0 a1 f0
 have G0:=T.keep 0 _ _ st λb _ o e=>D0 b o e
 refine ea1 ?_ (q _ (dj I C0));rintro W⟨c1,d1⟩turn;have m0:∀{H':Hp}{I0:List (uN×TN)},(∀p∈I0,p.1∉fp)->(∀b∈fp,H' b=sN)->∀b∈fp,rf (Yc X scope (O++fv) r U.objs.size s H fp) I0 H' b:=λe1 f0 b J=>⟨f0 b J,(ok.rn b J).1,ok.Ug b J,.inl J,(ok.rn b J).2,λp f1 z=>e1 p f1 (z▸J)⟩
 have J0:codeAny (xN X.prog X.w) X.A (.compLoop (.ListComp elt [⟨target,iter,ifs,0⟩] scope pos) 0 (.ref w0) (.ref s.heap.objs.size) (compEnvC scope r U.objs.size X.env)) (RR (.ref s.heap.objs.size) U.objs.size) {s with heap:=z0,toks:=s.toks+([]:List (Str×rN)).length}:=by
  refine Py (λn s'=>∃i ys Y H',Inv (Yc X scope (O++fv) r U.objs.size s H fp) [] Y H' s'/\d0 i s'.heap/\(∀b∈fp,H' b=sN)/\W i n ys Y H') (λn s' g1=>?_) c1 (nx18 0 ([]) _ _ b1 G0 (λb J=>?_) d1)
  ·revert g1;refine eaE ?_;rintro i ys Y H' K0 L0 M0 n0;obtain⟨B1,n0⟩:=turn i n ys Y H' n0;rcases n0 with⟨stop,h1⟩|⟨go,hz,step⟩
   ·refine xa (T.done (Yc X scope (O++fv) r U.objs.size s H fp) rfl rfl rfl v0 i [] s' Y H' _ K0 (m0 (by simp) M0) L0 stop) ?_;rintro i1 N0⟨o0,b0⟩;refine .inl ⟨o0,?_⟩;obtain⟨m,j1,_⟩:=b0.loc;exact X0 _ _ H' N0 m b0.os b0.bare b0.base b0.ya j1 b0.free l0 h1
   ·refine xa (T.item (Yc X scope (O++fv) r U.objs.size s H fp) rfl rfl rfl v0 i [] s' Y H' _ K0 (m0 (by simp) M0) L0 go) ?_;rintro i1 N0;refine ea1 ?_;rintro u o0 k1;refine .inr ⟨u,o0,xa k1 ?_⟩;rintro _ e0;refine eb0 ?_;rintro x O0 l1 m1 n1 p0 o1;have p1:=l1.pinned (m0 (by simp) o1) (T.obj _ _ p0);have P0:∀{g0:tN}{a0:L2.St}{c0:Hp},Inv (Yc X scope (O++fv) r U.objs.size s H fp) ([]++xn fp e0.heap) a0 c0 g0->d0 (i+1) g0.heap/\∀b∈fp,c0 b=sN:=λh0=>
     ⟨T.keep _ _ _ p0 λb J o e=>(h0.pin (b,o) (We _ (We _ (yn J e)))).1,λb J=>by
      obtain⟨o,e,_⟩:=T.obj _ _ p0 b J;exact(h0.pin (b,o) (We _ (We _ (yn J e)))).2.1⟩
    refine xa ((U0 _ _ _ _ _) _ e0 Y O0 x u _ p1 m1 (step x O0 n1)) ?_;rintro _ i0;refine eaA ?_;rintro a0 r1 s1 t1;refine xa ((V0 _ _ _ _ _).run _ i0 a0 r1 _ s1 t1) ?_;rintro b u1;refine ea1 ?_;rintro v1 q0 Q0;cases b with
    |false=>
     refine ea1 ?_ ((Q0));rintro r0 s0 w1;obtain⟨t0,u0⟩:=P0 q0;exact nx11 r0 s0 (i+1) (nx2 _ a0 _ q0.Eb t0 u0 w1)
    |true=>
     refine xa ((W0 _ _ _ _ _) _ u1 a0 v1 _ q0 Q0) ?_;rintro z g0⟨y,c0,h0,x1,y1,r0,s0,z1⟩;refine xa (Ru _ g0 a0 c0 (.ref s.heap.objs.size) [y] (.ref s.heap.objs.size) [z] (λ_ R0=>R0=upd c0 s.heap.objs.size (.lst (ys++[y]))) h0 rfl (.cons x1 .nil) ⟨_,ys,y,rfl,rfl,y1,hz,rfl⟩) ?_;rintro _ C1⟨D1,R0,S0,_,A1⟩;subst A1;obtain⟨t0,u0⟩:=P0 S0;exact nx11 r0 s0 (i+1) (nx2 _ a0 _ S0.Eb t0 u0 z1)
  ·obtain⟨o,e,_⟩:=ob b J;rw[ja (nb (Na e))];exact(x0 b J).1
 exact cQ J0 (T.self _ 0 _ _ _ G0 J0)
def Qp(n:Nat)(js:List Nat)(r:TI)(g:TG)(tc:TT)(te:TE):TE:=λσ H Q=>r σ H λJ O=>Nf (Wg σ n js) J g tc te Q O
def hF(r:List Str)(Y:X.calm=wN)(S:Ah X scope fv js)(a0:PI X target iter b0)
  (c0:∀J C s₀ H₀ ex,PG (Yc X scope (r++fv) J C s₀ H₀ ex) target g)(d0:∀J C s₀ H₀ ex,Pj (Yc X scope (r++fv) J C s₀ H₀ ex) ifs tc)(e0:∀J C s₀ H₀ ex,PE (Yc X scope (r++fv) J C s₀ H₀ ex) elt te)(f0:∀x,YN iter X.env x=pure x:=by intro _;rfl):
  PE X (.ListComp elt [⟨target,iter,ifs,0⟩] scope pos) (Qp r.length js b0 g tc te):=by
 constructor;intro pins s σ H Q I h;refine ku rfl f0 (S.Qj I.ok) S.kind S.names (xa (a0 pins s σ H _ I h) λv r0 g0=>xa g0 λs0 t0 h0=>?_);obtain⟨u0,fp,v0,w0,x0,rfl,O,T,i0,U,q⟩:=h0;refine Qy r O Y S T i0 U c0 d0 e0 q λD C H' s' m os j0 un k0 l0 m0 n0 o0=>⟨m,l0,λh' k=>?_⟩
 obtain⟨p0,q0⟩:=gv O U os j0 un k0 m0 n0;exact⟨.ref D,H',hv p0 q0 k,rfl,o0⟩
def iF(r:List Str)(b0:X.calm=wN)(c0:X.N.Nodup)(d0:X.N[i]?=qN y)(U:X.env.scope.names.lookup y=qN .local)(S:Ah X scope fv js)(e0:PI X target iter f0)
  (g0:aP (.ListComp elt [⟨target,iter,ifs,0⟩] scope pos) (qN (.Name y h0)) i0.line X.env=pure wN)
  (j0:∀J C s₀ H₀ ex,PG (Yc X scope (r++fv) J C s₀ H₀ ex) target g)(k0:∀J C s₀ H₀ ex,Pj (Yc X scope (r++fv) J C s₀ H₀ ex) ifs tc)(l0:∀J C s₀ H₀ ex,PE (Yc X scope (r++fv) J C s₀ H₀ ex) elt te)(m0:∀x,YN iter X.env x=pure x:=by intro _;rfl):
  PS X (.Assign [.Name y h0] (.ListComp elt [⟨target,iter,ifs,0⟩] scope pos) i0) (λD σ H=>Qp r.length js f0 g tc te σ H λv n0=>D.nx (σ.set i (qN v)) n0):=by
 constructor;intro pins s σ H D I h;rw[exec_Assign_Name_used _ _ _ _ g0];refine ba (vO (ba (ba (zd (ku rfl m0 (S.Qj I.ok) S.kind S.names
  (xa (e0 pins s σ H _ I h) λv D0 o0=>xa o0 λF0 G0 p0=>?_)) (λ_ s' q=>ga (ga q)) λ_ _ z=>z))))
 obtain⟨I0,fp,J0,K0,L0,rfl,Y,T,q0,a0,q⟩:=p0;refine Qy r Y b0 S T q0 a0 j0 k0 l0 q λL C H' s' m os r0 un s0 t0 u0 v0 w0=>?_
 obtain⟨x0,O⟩:=gv Y a0 os r0 un s0 u0 v0;refine wpAny_assign_Name (Hx x0 c0 d0 (.inl U) (v:=.ref L) rfl (?_) (.inr U));rintro M0 y0⟨a,z0,A0⟩;have B0:C≠a:=by
  rcases A0 with z|z
  ·rw[z];exact O.2.1
  ·exactλC0=>O.2.2.2.2.1 y a z C0.symm
 exact⟨m,t0.sameBut z0 B0,λh' k=>nx4 _ H' (hv y0 O k) w0⟩
end
def Ry{α:Type}{P:α->Prop}:∀x∈([]:List α),P x:=by(intros;simp_all)
def iv{α:Type}{P:α->Prop}{a:α}{l:List α}(h:P a)(t:∀x∈l,P x):∀x∈a::l,P x:=by simp_all
def ie{K:W.Frag}(g:X.K=K):Bn X (ry K):=g▸zb
def Sy{K:W.Frag}(g:X.K=K):Bn X (qy K):=g▸ci
def jF{K:W.Frag}(g:X.K=K)(r:PE X l J):PI X O l (Px K J):=by
 subst g;exact Za r
def Hn{i0 fs:L2.St}(n:Nat)(P:uN->Nat->List V->Hp->Prop)(k0:i0=List.replicate k sN++fs)(hz:n<=vN)(l0:∀i H,aa J H->i<n->f0.go i H)(m0:∀H,aa J H->f0.stop n H)
  (n0:∀D i ys H,P D i ys H->ys.length<=i)(o0:∀D,J D=sN->P D 0 [] (upd J D (.lst [])))
  (step:∀D i H ys(r:L2.St)v H' (R:Option V->L2.St->Hp->Prop),H D=qN (.lst ys)->P D i ys H->aa J H->i<n->r.length=k->f0.af i H v H' ->
   (∀y(O:L2.St)g,O.length=k->aa H g->P D (i+1) (ys++[y]) (upd g D (.lst (ys++[y])))->R (qN y) (O++fs) g)->(∀(O:L2.St)g,O.length=k->aa H g->P D (i+1) ys g->R sN (O++fs) g)->
   p0 v (r++fs) H' λU q0=>r0 U q0 λok g=>if ok=wN then s0 U g λy t0=>R (qN y) U t0 else R sN U g)
  (fin:∀D H' ys,J D=sN->aa J H'->H' D=qN (.lst ys)->P D n ys H'->Q (.ref D) H'):Nf i0 f0 p0 r0 s0 Q J:=by
 intro D d0;refine⟨λi m ys j0 H=>m=n-i/\i<=n/\P D i ys H/\(∃r:L2.St,r.length=k/\j0=r++fs)/\aa J H/\H D=qN (.lst ys),⟨n,rfl,Va _,o0 D d0,⟨_,Go,k0⟩,aa.upd d0,ia⟩,?_⟩;rintro i m ys j0 H;refine ea6 ?_;rintro rfl v0 g0⟨r,u0,rfl⟩Y a0;refine⟨a0,?_⟩;have w0:=n0 _ _ _ _ g0;by_cases e0:i<n
 ·exact .inr ⟨l0 i H Y e0,by lia,λv H' y=>step D i H ys r v H' (λo U g=>match o with
   |some y=>g D=qN (.lst ys)/\∃b0,b0<n-i/\b0=n-(i+1)/\i+1<=n/\P D (i+1) (ys++[y]) (upd g D (.lst (ys++[y])))/\(∃r:L2.St,r.length=k/\U=r++fs)/\aa J (upd g D (.lst (ys++[y])))/\upd g D (.lst (ys++[y])) D=qN (.lst (ys++[y]))
   |none=>∃b0,b0<n-i/\b0=n-(i+1)/\i+1<=n/\P D (i+1) ys g/\(∃r:L2.St,r.length=k/\U=r++fs)/\aa J g/\g D=qN (.lst ys)) a0 g0 Y e0 u0 y
   (λy O g h0 c0 p=>⟨c0 _ _ a0,n-(i+1),by lia,rfl,e0,p,⟨O,h0,rfl⟩,(Y.trans c0).again d0,ia⟩) λO g h0 c0 p=>⟨n-(i+1),by lia,rfl,e0,p,⟨O,h0,rfl⟩,Y.trans c0,c0 _ _ a0⟩⟩
 ·obtain rfl:i=n:=by lia
  exact .inl ⟨m0 H Y,fin D H ys d0 Y a0 g0⟩
def Uy{g:Type}(f:Nat->Option g)(i:Nat):((List.range i).filterMap f).length<=i:=by simpa using Uq f (List.range i)
def Rp{b0 fs:L2.St}{c0:L2.TT}(n:Nat)(f:Nat->Option V)(f0:b0=List.replicate k sN++fs)(hz:n<=vN)(g0:∀i H,aa r H->i<n->Y.go i H)(h0:∀H,aa r H->Y.stop n H)
  (step:∀i H(O:L2.St)v H' (R:Option V->L2.St->Hp->Prop),aa r H->i<n->O.length=k->Y.af i H v H'->(∀(J:L2.St)g,J.length=k->aa H g->R (f i) (J++fs) g)->
   i0 v (O++fs) H' λU j0=>c0 U j0 λok g=>if ok=wN then k0 U g λy l0=>R (qN y) U l0 else R sN U g)
  (fin:∀D H',r D=sN->aa r H'->H' D=qN (.lst ((List.range n).filterMap f))->Q (.ref D) H'):Nf b0 Y i0 c0 k0 Q r:=by
 refine Hn n (λ_ i ys _=>ys=(List.range i).filterMap f) f0 hz g0 h0 (λ_ i _ _ e=>e▸Uy f i) (λ_ _=>rfl) (λD i H ys O v H' R _ e a0 m0 n0 y a b=>step i H O v H' R a0 m0 n0 y λJ g d0 e0=>?_) λD H' ys o0 a0 p0 e=>fin D H' o0 a0 (e▸p0)
 cases q:f i with
 |none=>exact b J g d0 e0 (by simp[wj,q,e])
 |some y=>exact a y J g d0 e0 (by simp[wj,q,e])
section
variable{X:Cx}{pins:List (uN×TN)}{σ:L2.St}{H:Hp}{s:tN}{a:uN}{kvs:List (Key×V)}{k:Key}{u r:rN}{d:V}{A:BN}{E:rN->tN->Prop}
def kF(I:Inv X pins σ H s)(e:H a=qN (.dK kvs))(c0:Aa (kV k) u)(rd:Aa d r)(j0:kvs.length<vN)(d0:∀v J s',Ka kvs k=qN v->Inv X pins σ H s'->Aa v J->Q J s')
  (e0:Ka kvs k=sN->∀s',Inv X pins σ (upd H a (.dK (Gb kvs k d))) s'->Q r s'):wpAny (xN X.prog X.w) A (call (.builtin "dict.setdefault") [.ref a,u,r]) Q E s:=by
 refine ec3 ?_ (xy I.ya e);rintro z Y vs O dd;refine dQ hr dd.typeIs F.entry_dict_setdefault (F.args_dict_setdefault_3 _ _ _) (kt_meets_setdefault (Wc X.prog X.w) a (Oj c0) Y r) ⟨vs,dd,by rw[<-O.length];exact z,λv U=>?_,λk0 h' a0 f0=>?_⟩
 ·have q:=O.val k;cases g:Ka kvs k with
  |none=>rw[g]at q;rw[Bd.none_of q]at U;cases U
  |some y=>
   rw[g]at q;obtain⟨J,b0,g0⟩:=Bd.some_of q;rw[b0]at U;cases U;exact d0 y _ _ g (I.tok _) g0
 ·have q:=O.val k;cases g:Ka kvs k with
  |some y=>
   rw[g]at q;obtain⟨J,b0,_⟩:=Bd.some_of q
   simp_all
  |none=>
   refine e0 g _ ?_;have h0:∃q,h'.get? a=qN q:=let⟨q,_,_,i0,_⟩:=a0;⟨q,i0⟩
   have hz:(Gb kvs k d).length<=vN:=by have:=Mp kvs k d;lia
   exact zr I (by rw[e];exact True.intro) f0 h0 (Vu hz Y (O.put k rd) a0)
end
inductive lF(ty tx:TE)(σ:L2.St)(Q:VK)(x:V)(H1:Hp):Prop|mk(a)(_:x=.ref a)(_:Br H1 a)(_:ty σ H1 λy H2=>tx σ H2 λz H3=>∃kvs k,H3 a=qN (.dK kvs)/\y=kV k/\kvs.length<vN/\(∀v,Ka kvs k=qN v->Q v H3)/\(Ka kvs k=sN->Q z (upd H3 a (.dK (Gb kvs k z)))))
def mF(r J O:TE):TE:=λg H Q=>r g H (lF J O g Q)
section
variable{X:Cx}{o e f:IN}{td ty tx:TE}{apos Kb:oO}
def nF(Y:PE X o td)(a0:PE X e ty)(b0:PE X f tx)(m:M2 X o "setdefault" apos e f Kb):PE X (.Call (.Attribute o "setdefault" apos) [e,f] [] Kb) (mF td ty tx):=by
 constructor;intro g s r H Q I h;refine nP m.base m.Ab m.line Yq hr F.type_dict_setdefault (xa (Y g s r H _ I h) ?_);rintro u c0⟨x,d0,O,e0,a,ex,d,q1⟩;subst ex;obtain rfl:u=Value.ref a:=e0;refine ea3 ?_ (Dy O d);rintro f0 g0 _;refine⟨f0,g0,?_⟩;rw[m.trees];refine Ho rfl (Qq (Gi (xa (a0 g c0 r d0 _ O q1) λt0 h0⟨y,i0,j0,k0,q2⟩=>
  Gi (xa (b0 g h0 r i0 _ j0 q2) λfv u0⟨z,l0,m0,U,kvs,k,n0,o0,p0,q3,q0⟩=>Nl ?_))))
 subst o0;exact kF m0 n0 k0 U p0 (λv v0 r0 l J s0=>⟨v,l0,J,s0,q3 v l⟩) λl r0 J=>⟨z,_,J,U,q0 l⟩
def Vy{K:W.Frag}(d0:X.K=K)(e0:X.calm=wN):Kf X (.builtin "any") (λxs H Q=>∃(p:uN)(bs:List Bool),xs=[V.ref p]/\ca K H p (bs.map V.bl)/\Q (.bl (bs.any id)) H):=by
 subst d0;intro t0 s u0 H xs us Q I f0 h;revert h;refine ea0 ?_;rintro p bs rfl g0 q;obtain⟨u,rfl,h0⟩:=cf f0;cases h0;refine ea8 ?_ (I.list g0);rintro J Y pl _;have a0:=Y.length;rw[ua]at a0;refine call_any_walk (Ql pl.isList ?_);have i0:=nb (by obtain⟨o,_,e,_⟩:=pl;exact Na e);refine nx1 s.heap.objs.size ([s.heap.objs.size,p]) (nx13 ([s.heap.objs.size]) J.toArray.size _ _ (λi=>bs.getD i wN) rfl (Walks.list (A:=X.A.in1) (I.ok.hd e0) s.heap.objs.size p i0 J.toArray) ⟨⟨_,yb _ rfl,rfl,rfl⟩,pl.isList.push _⟩ (λi v j0 k0 v0 l0 m0=>?_) λh' w0 n0=>?_)
 ·have o0:J[i]?=qN v:=by simpa using l0
  obtain⟨x0,g,p0⟩:=xf Y o0;rw[lb]at g;cases r:bs[i]? with
  |none=>rw[r]at g;cases g
  |some b=>
   rw[r]at g;have e:=Ed g;subst e;cases p0;have q0:bs.getD i wN=b:=by rw[Hk,r];rfl
   have b0:k0 (bs.getD i wN) j0:=m0;rw[q0]at b0;exact Al b0
 ·have e:(List.range J.toArray.size).any (λi=>bs.getD i wN)=bs.any id:=by
   rw[uc,<-a0,Bool.eq_iff_iff,Qi,Qi];constructor
   ·rintro⟨i,U,O⟩;have r0:=Ye.mp U;rw[Hk,Wb r0]at O;exact⟨_,by grind,O⟩
   ·rintro⟨b,r,O⟩;obtain⟨i,U,e⟩:=List.mem_iff_getElem.mp r;refine⟨i,by grind,?_⟩;rw[Hk,Wb U,e];exact O
  rw[e];refine⟨.bl (bs.any id),H,I.kept λb u c0=>n0 b u (λz=>?_) (Pa _ c0),rfl,q⟩;have s0:b=s.heap.objs.size:=by simpa using z
  exact absurd (Na c0) (by rw[s0];exact Sh _)
end
def Wy{K:W.Frag}:∀ms:List Int,ii K H (ms.map V.int) (ms.map PyData.int)
 |[]=>.nil
 |m::r=>.cons (.int m) (Wy r)
inductive ji(x:V)(vs:List V)(H:Hp)(Q:VK):Prop|mk(l xs y)(_:x=.ref l)(_:vs=[y])(_:H l=qN (.lst xs))(_:xs.length<vN)(_:∀H',H' l=qN (.lst (xs++[y]))->(∀b o,b≠l->H b=qN o->H' b=qN o)->Q .Ra H')
def Bh:Lp X "list.append" ji:=by
 intro g s r H x vs v us Q I J O h;obtain⟨l,xs,y,ex,U,Y,hz,q⟩:=h;exact Ru g s r H x vs v us Q I J O ⟨l,xs,y,ex,U,Y,hz,q _ ia λb o n e=>by rw[ja n];exact e⟩
def oF{ms:List Int}(h:ms≠[]):PyData.eqv (.list (ms.map PyData.int)) (.list [])=yN:=by
 cases ms with
 |nil=>grind
 |cons m r=>rfl
def pF(ms:List Int):SeqAt.shaped (.list (ms.map PyData.int))=wN:=by
 show(PyData.canLayAll0 (ms.map .int)&&decide (PyData.depthAll (ms.map .int)+1<=64))=wN;rw[canLayAll_ints ms,depthAll_ints ms];rfl
def Xy(ms:List Int):PyData.eqv (.list (ms.map PyData.int)) (.list (ms.map PyData.int))=wN:=SeqAt.eqv_refl _ (canLayAll_ints ms)
def Yy(K:W.Frag)(a:uN)(c:Nat->Int):It:=
 ⟨λi H=>∃xs x,ca K H a xs/\xs[i]?=qN x,λi H v H'=>∃p x,(∀xs,ca K H a xs->xs[i]?=qN x)/\v=.ref p/\H p=sN/\H'=upd H p (.tup [.int (c i),x]),λi H=>∃xs,ca K H a xs/\xs.length=i⟩
abbrev Tp(K:W.Frag)(a:uN):It:=Yy K a λi=>i
def qF(d:Nat){P:Nat->rN->Prop}{St:Nat->EN->Prop}(D:Draws prog w A g fp n P St):
  Draws prog w A g fp (n+d) (λi v=>∃j,i=j+d/\P j v) (λi h=>∃j,i=j+d/\St j h)where
 live:=λi h⟨j,_,st⟩=>D.live j h st
 frame:=λi h h' ⟨j,e,st⟩k=>⟨j,e,D.frame j h h' st k⟩
 item:=by
  rintro i s Q E b0⟨j,e,st⟩r;subst e;exact D.item j s Q E (by simp_all) st λx h' J O U Y=>r x h' J ⟨j,rfl,O⟩ ⟨j+1,by lia,U⟩ Y
 done:=by
  rintro s Q E⟨j,e,st⟩a0;obtain rfl:j=n:=by simp_all
  exact D.done s Q E st a0
section
variable{P:zN}{w:AN}{K:W.Frag}
def rF{U:L2.St}(I:Inv X O U H s)(fe:rf X O H e)(g:rf X O H J)(a0:∃o,h'.get? e=qN o)(b0:∃o,h'.get? J=qN o)
  (k:∀b o,b≠e->b≠J->s.heap.get? b=qN o->h'.get? b=qN o):Inv X O U H {s with heap:=h',toks:=t'}:=by
 have c0:∀b o,H b=qN o->b≠e/\b≠J:=λb o q=>⟨λz=>(by rw[z,fe.1]at q;cases q),λz=>(by rw[z,g.1]at q;cases q)⟩
 refine I.Jk (ch:=[e,J]) rfl ⟨λb o q _ _ r=>?_,λb o q _ _ r=>?_,λb o q n _=>n,λb o q r=>?_,λb xs q=>q,λb o u q=>q,λb d0(q:H b=_)=>⟨#[],by rw[q];simp⟩⟩ (λb u q=>?_) I.bare λb Y=>?_
 ·simp_all
 ·simp only[rc,yj,or_false,not_or]at r;exact⟨o.slots,k b o r.1 r.2 q⟩
 ·simp_all
 ·refine(I.ya b u q).Hc (λc v e0 z=>?_) (λc z=>z) λc xs z=>z
  grind
 ·simp only[rc,yj,or_false]at Y;rcases Y with rfl|rfl
  ·exact⟨fe.2.2.2.1,fe.2.1,fe.2.2.2.2.1,fe.2.2.2.2.2⟩
  ·exact⟨g.2.2.2.1,g.2.1,g.2.2.2.2.1,g.2.2.2.2.2⟩
def sF(cd:∀i:Nat,c i=((i+d:Nat):Int))(a e g:uN)(i0:e≠g):Yi P w K (.Tuple a1 b1 c1) (Yy K a c) [e,g] e (λi h=>(∃Y,IsEnum h e g (c i) Y)/\h.IsListIter g a i)where
 mem:=by simp
 obj:=λi h⟨⟨Y,J⟩,r⟩c a0=>by
  simp only[rc,yj,or_false]at a0;rcases a0 with z|z
  ·rw[z];exact(by simp_all)
  ·rw[z];revert r;refine ea8 ?_;rintro o b0 O d1;exact(by grind)
 keep:=λi h h' ⟨⟨Y,J⟩,r⟩k=>⟨by grind,r.at (by grind)⟩
 item:=by
  intro X j0 k0 l0 a0 i m0 s n0 H E I c0 st o0;subst j0 k0 l0;obtain⟨⟨Y,J⟩,r⟩:=st;revert o0;refine eaA ?_;rintro xs x e0 f0;refine ea8 ?_ (I.list e0);rintro d0 p0 p hz;refine ea1 ?_ (p0.get f0);rintro u x0 F0;have e1:i<d0.toArray.size:=by rw[uc];exact(rb.mp x0).1
  have q0:a≠g:=λz=>by
   obtain⟨o,U,O,_⟩:=p.isList;obtain⟨G0,r0,s0,_⟩:=r;rw[z,r0]at U;cases U;rw[s0]at O;exact absurd O (by decide)
  have I0:e≠a:=λz=>by
   obtain⟨o,U,O,_⟩:=p.isList;rw[<-z,J]at U;cases U;exact absurd O (by grind)
  have J0:IsEnum s.heap e g ((i+d:Nat):Int) Y:=cd i▸J;refine wpAny_pyNext_enum_itemD (qF d (Draws.list (A:=X.A.in1) (I.ok.hd a0) g a q0 d0.toArray)) J0 ⟨i,rfl,r,p.isList⟩ (by simp_all) i0 ?_ λg0 h' h0 t0 K0 u0 L0 f1 M0=>?_
  ·simp only[rc,yj,or_false,not_or];exact⟨i0,I0⟩
  revert t0;refine ea1 ?_;rintro j g1 t0;obtain rfl:j=i:=by simp_all
  revert u0;refine ea8 ?_;rintro N0 h1 u0 _;obtain rfl:N0=j+1:=by lia
  have ex:g0=u:=by
   have:d0[j]?=qN g0:=by simpa using t0
   rw[x0]at this;exact(Ed this).symm
  subst ex;refine⟨_,rfl,wpAny_letOwnedTupleGo_enum K0 λv0 y0 w0=>?_⟩;have z0:e<s.heap.objs.size:=Na J;have O0:g<s.heap.objs.size:=let⟨o,b0,_⟩:=r;Na b0
  have A0:s.heap.get? s.heap.objs.size=sN:=Gk (wa _);have P0:v0.get? s.heap.objs.size=qN {cls:=.type "tuple",data:=.seq #[.int ((j+d:Nat):Int) h0,g0]}:=w0.extBut _ _ (Mi z0) L0;have B0:=u0.at λo b0=>w0.extBut _ _ (lc i0) b0
  have Q0:Inv X m0 n0 H {s with heap:=v0,toks:=h0+1}:=rF I (c0 e (by simp)) (c0 g (by simp)) ⟨_,y0⟩ (by obtain⟨o,b0,_⟩:=B0;exact⟨o,b0⟩) λb o C0 R0 q=>w0.extBut _ _ C0 (M0 b o C0 R0 q)
  have HT:H s.heap.objs.size=sN:=dj I A0;have S0:Inv X m0 n0 (upd H s.heap.objs.size (.tup [.int (c j),x])) {s with heap:=v0,toks:=h0+1}:=ZE I Q0 A0 HT (⟨by show 2<=vN;decide,[.int ((j+d:Nat):Int) h0,g0],.cons ⟨_,by rw[cd]⟩ (.cons F0 .nil),nx5 _ P0 rfl _ rfl⟩);refine nx15 (.ref s.heap.objs.size) _ S0 rfl (nx6 s.heap.objs.size x (λys T0=>by rw[I.Yd T0 e0];exact f0) rfl HT rfl) ⟨⟨_,by rw[cd,show j+1+d=j+d+1 by simp_all];exact y0⟩,B0⟩ λc D0=>?_;simp only[rc,yj,or_false]at D0;rcases D0 with z|z
  ·rw[z,ja (nb z0)];exact(c0 e (by simp)).1
  ·rw[z,ja (nb O0)];exact(c0 g (by simp)).1
 done:=by
  intro X j0 k0 l0 a0 i m0 s n0 H E I c0 st o0;subst j0 k0 l0;obtain⟨⟨Y,J⟩,r⟩:=st;obtain⟨xs,e0,f0⟩:=o0;refine ea8 ?_ (I.list e0);rintro d0 p0 p hz;have q0:a≠g:=λz=>by
   obtain⟨o,U,O,_⟩:=p.isList;obtain⟨G0,r0,s0,_⟩:=r;rw[z,r0]at U;cases U;rw[s0]at O;exact absurd O (by decide)
  have U0:d0.toArray.size=i:=by rw[uc,<-p0.length];exact f0
  subst U0;refine wpAny_pyNext_enum_endD (Draws.list (A:=X.A.in1) (I.ok.hd a0) g a q0 d0.toArray) J ⟨r,p.isList⟩ λh' k=>⟨rfl,?_⟩
  refine ea6 ?_ (c0 g (by simp));rintro V0 W0 i1 X0 Y0 Z0;exact I.turned (t':=s.toks) ‹_› V0 W0 X0 Y0 Z0
 self:=λ_ _ _ _ _ st h=>by obtain⟨⟨_,J⟩,_⟩:=st;exact wpAny_pyIter_enum J h
end
section
variable{X:Cx}
def tF(K:W.Frag)(r:TA):TI:=λJ H R=>r J H λvs g=>∃a xs,vs=[.ref a]/\g a=qN (.lst xs)/\R (Tp K a) g
def jv(U:Gl X "enumerate")(Y:X.mg "enumerate"=sN)(a0:PA X [a] b0)(c0:DN [a] X.env=[(yN,SN a X.env)]:=by rfl):
  PI X (.Tuple l0 m0 n0) (.Call (.Name "enumerate" p) [a] [] pos) (tF X.K b0):=by
 constructor;intro d0 s e0 H R I h;refine Call_ (Xf I U Y boot_enumerate (yk (xa (a0 pos d0 s e0 H _ I h) ?_) c0 rfl));rintro us g⟨vs,f0,r,g0,q1⟩;revert q1;refine ea0 ?_;rintro l xs rfl h0 q;refine ea1 ?_ (cf g0);rintro u rfl i0;cases i0;refine eb3 ?_ ((r.ya l _ h0));rintro z o0 n p0 e;refine call_enumerate_1 e λh' j0 q0 hz k=>?_
 have k0:=r.kept (t':=g.toks) k;refine wpAny_pyIter_enum j0 ⟨g.heap.objs.size+1,[g.heap.objs.size+1,g.heap.objs.size],_,Tp X.K l,f0,rfl,k0,sF (d:=0) (λ_=>rfl) l _ _ (by simp_all),by grind,λb J=>?_,q⟩;have O:g.heap.objs.size<=b:=by
  simp only[rc,yj,or_false]at J;rcases J with z|z<;>(rw[z];first|exact Lg _|exact wa _)
 exact r.sf O (r.ya.fresh O)
end
def kv{K:PySem.W.Frag}{U:TG}{Y:TS}{D:Wf}(Pv:Nat->L2.St->Hp->Prop)(h0:Pv 0 g H)(a0:∀i g H,Pv i g H->ca K H a xs)
  (d0:∀i x g H p,xs[i]?=qN x->Pv i g H->H p=sN->U (.ref p) g (upd H p (.tup [.int i,x])) λr J=>Y {D with nx:=Pv (i+1),ct:=Pv (i+1),bk:=D.nx} r J)(e0:∀g H,Pv xs.length g H->D.nx g H):
  ∃W:Nat->Nat->L2.St->Hp->Prop,(∃m,W 0 m g H)/\∀i m g H,W i m g H->
   ((Tp K a).stop i H/\D.nx g H)\/((Tp K a).go i H/\∃N:L2.St->Hp->Prop,(∀O H',N O H'->∃b0,b0<m/\W (i+1) b0 O H')/\∀x H',(Tp K a).af i H x H'->U x g H' λr J=>Y {D with nx:=N,ct:=N,bk:=D.nx} r J):=by
 refine⟨λi m g H=>m=xs.length-i/\i<=xs.length/\Pv i g H,by grind,?_⟩;rintro i m g H;refine ea3 ?_;rintro rfl i0 p;by_cases c0:i<xs.length
 ·refine .inr ⟨nx4 xs (xs[i]) (a0 i g H p) (by simp[c0]),Pv (i+1),λO H' f0=>⟨xs.length-(i+1),by lia,rfl,c0,f0⟩,?_⟩;rintro x H';refine eaC ?_;rintro q y j0 rfl g0 rfl;exact d0 i y g H q (by grind) p g0
 ·have e:i=xs.length:=by lia
  subst e;exact .inl ⟨⟨xs,a0 _ g H p,rfl⟩,e0 g H p⟩
def uF{r:L2.St}(I:Inv X U r H s)(e:H d=qN (.dK kvs))(Y:s.heap.get? d=qN ob):Inv X U r (upd H d (.Hb ob (.dK kvs))) s:=by
 have g:∀b,H b=sN->b≠d:=λb q z=>by grind
 refine⟨I.ok,I.os,I.bare,⟨I.base.keep,I.base.slot,λb o q n a0=>?_,I.base.there,λb xs q=>?_,λb o u q=>?_,λb b0 q=>?_⟩,I.loc,I.cell,?_,λx c q=>?_,λp c0=>?_,λb u q=>?_,I.len⟩
 ·have:=I.base.free b o q n a0;rw[ja (g b this)];exact this
 ·have:=I.base.tups b xs q;rw[ja λz=>by grind];exact this
 ·have:=I.base.frzs b o u q;rw[ja λz=>by grind];exact this
 ·obtain⟨more,q2⟩:=I.base.tbls b b0 q;exact⟨more,by rw[ja λz=>by grind];exact q2⟩
 ·rw[ja (g _ I.free)];exact I.free
 ·rw[ja (g _ (I.ub x c q))];exact I.ub x c q
 ·refine ea3 ?_ (I.pin p c0);rintro d0 J e0;exact⟨d0,by rw[ja (g _ J)];exact J,e0⟩
 ·by_cases O:b=d
  ·subst O;rw[ia]at q;cases q;exact⟨Y,(I.ya b _ e).Hc (λc v _ z=>z) (λc z=>by rw[ja λy=>by grind];exact z) λc xs z=>by rw[ja λy=>by grind];exact z⟩
  ·rw[ja O]at q;exact(I.ya b u q).Hc (λc v _ z=>z) (λc z=>by rw[ja λy=>by grind];exact z) λc xs z=>by rw[ja λy=>by grind];exact z
def Lb:∀{l:List α}{m:List r}{i:Nat}{a:α},Paired F l m->l[i]?=qN a->∃b,m[i]?=qN b/\F a b:=by
 intro _ _ i _ h e;induction h generalizing i with
 |nil=>simp at e
 |cons J t g=>cases i with
  |zero=>grind
  |succ i=>
   refine ea1 ?_ (g (i:=i) (by simpa using e));rintro a O f
   grind
section
variable{P:zN}{w:AN}{K:W.Frag}
def vF(h:(Wc P w).is k key=wN):Aa (kV k) key:=by
 rcases Wi h with⟨i,t,rfl,rfl⟩|⟨y,t,rfl,rfl⟩
 ·exact⟨t,rfl⟩
 ·exact⟨t,rfl⟩
end
open Builtin.Str PySem.StrLaws
def pre(d:Nat):List (List Nat)->List (List Nat)
 |[]=>[]
 |p::r=>p::r.map (d::·)
end My
namespace My
open PySem PySem.Spec PyProof.Rows L2 PyProof
section
variable{prog:zN}{w:AN}{A:BN}
def wF{ns:List Int}(h:ns[j]?=qN n):ns.take (j+1)=ns.take j++[n]:=by rw[gc,h];rfl
end
def Ta{F:α->r->Prop}(p:Paired F xs bs):xs.length=bs.length:=by
 induction p with
 |nil=>rfl
 |cons _ _ g=>simp only[Vd,g]
def Yk(k:Int):∀ms:List Int,ei (.int k) (ms.map V.int)=ms.contains k
 |[]=>rfl
 |m::r=>by
  have g:=Yk k r;unfold ei at g⊢;rw[Sc,Um,g,List.contains_cons];show((m==k)||_)=_;rw[show(m==k)=(k==m)from(by grind)]
def Zy{X:Cx}{K:W.Frag}(g:X.K=K):Ic X (LN .In) (Pu K yN):=g▸cj
def im(ms:List Int):(ms.map V.int).all Kj=wN:=by
 rw[List.all_eq_true];intro v g;obtain⟨m,_,rfl⟩:=Sa.mp g;rfl
def xF:gP (.type "list_reverseiterator") "__len__"=pure sN:=by rw[Eo,Uo];exact(by kernel_rfl)
def yF:gP (.type "list_reverseiterator") "__length_hint__"=pure (qN (.builtin "list_reverseiterator.__length_hint__")):=by rw[Eo,Uo];exact(by kernel_rfl)
section
variable{prog:zN}{w:AN}{A:BN}{s:tN}
def zF{R:lP->tN->Prop}{l I S:uN}{items:Array rN}{res:rN}{b0:Nat}(c0:A.handled=sN)(m0:s.heap.IsList l items)(r:s.heap.IsRevIter I l ((items.size:Int)-1))(d0:l≠I)(e0:S≠I)(n0:S≠l)(f0:items.size<=vN)
  (g0:s.heap.get? S=qN {cls:=.type "list",data:=.seq #[] b0})
  (h0:∀h' i0 J g,(∀b o,b≠S->b≠I->s.heap.get? b=qN o->h'.get? b=qN o)->h'.get? S=qN {cls:=.type "list",dict:=sN,data:=.seq J g,slots:=#[]}->MP (λi v=>items[items.size-1-i]?=qN v) J items.size->R (.ok (.ret res)) {s with heap:=h',toks:=i0}):
  wpAny (xN prog w) A.in1 (Builtin.List.listExtendWith (.ref S) (.ref I) res) (λfin s'=>match fin with|.done f=>R (.ok f) s'|.again g=>g.quiet=wN/\codeAny (xN prog w) A g R s') (λe s'=>R (.error e) s') s:=by
 have W:=(Walks.listRev (prog:=prog) (w:=w) (A:=A.in1) c0 I l d0 items).toS;have Y:0<=items.size/\s.heap.IsRevIter I l ((items.size:Int)-1-((0:Nat):Int))/\s.heap.IsList l items:=(by grind);have j0:S∉[I,l]:=λO=>by
  grind
 unfold Builtin.List.listExtendWith;have sm:Builtin.List.listSameRef (.ref S) (.ref I)=yN:=by simp[Builtin.List.listSameRef,e0]
 refine ba (oh r.typeIs ?_);rw[na (by rw[sm];decide)];refine ba (W.self 0 _ _ _ Y (ba (Rc ?_)));unfold Builtin.List.listLengthHint;refine ba (Uf r.typeIs xF ?_);show wpAny _ A.in1 (specialOf (Value.ref I) (Str.ofString "__length_hint__")>>=_) _ _ _;refine ba (Uf r.typeIs yF ?_);generalize U:("list_reverseiterator.__length_hint__":String)=a0;(fail_if_success(clear U a0));wp_delta;rw[show splitId a0=qN ("list_reverseiterator","__length_hint__")from by subst U;decide+kernel];subst U;refine ba (Wm (b:=wN) r.typeIs (by rw[WO];kernel_rfl) (ga ?_));rw[na (by decide)];refine ga ⟨Te F.plain_extend_loop _,codeAny_extend_loopS W f0 _ j0 _ items.size 0 _ _ _ rfl (Va _) Y g0 (ItemsOf.nil _) λs' J g O k0 l0=>?_⟩;rw[Moved.eq_with O];refine h0 s'.heap s'.toks J g (λb ob o0 p0 e=>O.heap b ob (λq0=>?_) e) k0 l0
 grind
def AF{E:rN->tN->Prop}{Q:rN->tN->Prop}{l I:uN}{items:Array rN}(c0:A.handled=sN)(Y:s.heap.IsList l items)(a0:s.heap.IsRevIter I l ((items.size:Int)-1))(d0:l≠I)(e0:items.size<=vN)
  (f0:∀h' J g O,(∀b o,b≠I->s.heap.get? b=qN o->h'.get? b=qN o)->h'.get? s.heap.objs.size=qN {cls:=.type "list",dict:=sN,data:=.seq g O,slots:=#[]}->MP (λi v=>items[items.size-1-i]?=qN v) g items.size->Q (.ref s.heap.objs.size) {s with heap:=h',toks:=J}):
  wpAny (xN prog w) A (call (.type "list") [.ref I]) Q E s:=by
 refine callType_codes (Q₁:=λobj b0=>obj=.ref s.heap.objs.size/\b0={s with heap:=s.heap.push {cls:=.type "list",data:=.seq #[]}}) F.called_list (F.typeCall_list_1 _) F.entry_list_init (code_list_new _ ⟨rfl,rfl⟩) λobj b0 g0=>?_
 obtain⟨rfl,rfl⟩:=g0;have r:(s.heap.push {cls:=.type "list",data:=.seq #[]}).get? s.heap.objs.size=qN {cls:=.type "list",data:=.seq #[]}:=yb _ rfl;refine ea8 ?_ (id a0);rintro oI h0 r0 s0;refine ec7 ?_ (id Y);rintro ol i0 t0 u0 dl;have j0:I≠s.heap.objs.size:=nb (Na h0);have k0:l≠s.heap.objs.size:=nb (Na i0);refine⟨⟨_,r,rfl⟩,F.args_list_init_2 _ _,?_⟩;show wpAny _ _ (do let l0<-Builtin.List.listItems (.ref s.heap.objs.size);Builtin.List.listUpdate (.ref s.heap.objs.size) (λ_=>#[]);letGo l0.toList.reverse;Builtin.List.listExtendWith (.ref s.heap.objs.size) (.ref I) .none) _ _ _;refine ba ?_;unfold Builtin.List.listItems;refine ba (Ff r rfl (ga ?_));show wpAny _ _ (updateSeq s.heap.objs.size (λ_=>#[])>>=λ_=>letGo (#[]:Array rN).toList.reverse>>=λ_=>Builtin.List.listExtendWith (.ref s.heap.objs.size) (.ref I) .none) _ _ _;have m0:=Ki (Obj.mapSeq (λ_=>(#[]:Array rN))) r rfl;have n0:∀b o,b≠s.heap.objs.size->s.heap.get? b=qN o->((s.heap.push {cls:=.type "list",data:=.seq #[]}).update s.heap.objs.size (Obj.mapSeq (λ_=>(#[]:Array rN)))).get? b=qN o:=
  λb o U e=>(Jg _ _ (lc U)).trans (Pa _ e)
 refine ba (zj r rfl (ba (qh ?_)));refine zF (A:=A.in1) c0 (Y.at (by grind)) (a0.at (by grind)) d0 j0.symm k0.symm e0 m0 λh' J g O o0 p0 q0=>?_
 exact⟨rfl,f0 h' J g O (λb o U e=>o0 b o (nb (Na e)) U (n0 b o (nb (Na e)) e)) p0 q0⟩
end
def BF{xs:List V}{r ys:List rN}(J:Ia xs r)(a0:ys.length=xs.length)(h:∀j v,ys[j]?=qN v->r[r.length-1-j]?=qN v):Ia xs.reverse ys:=by
 have key:∀{g:List V}{us:List rN},g.length=us.length->(∀(j:Nat)v,us[j]?=qN v->∃x,g[j]?=qN x/\Aa x v)->Ia g us:=by
  intro g;induction g with
  |nil=>
   intro us e _;cases us with
   |nil=>exact .nil
   |cons _ _=>simp at e
  |cons z J b0=>
   intro us e Y;cases us with
   |nil=>simp at e
   |cons u q=>
    obtain⟨x,O,U⟩:=Y 0 u rfl;cases O;exact .cons U (b0 (by simpa using e) λj v c0=>by simpa using Y (j+1) v (by simpa using c0))
 have d0:=J.length;refine key (by rw[List.length_reverse,a0]) λj v e=>?_
 have e0:j<ys.length:=(rb.mp e).1;obtain⟨x,O,U⟩:=xf J (h j v e);refine⟨x,?_,U⟩;rw[List.getElem?_reverse (by lia),d0];exact O
inductive CF(Q:VK)(vs:List V)(H1:Hp):Prop|mk(a xs)(_:vs=[V.ref a])(_:H1 a=qN (.lst xs))(_:∀l,H1 l=sN->Q (.ref l) (upd H1 l (.lst xs.reverse)))
def DF(K:W.Frag)(t:TA):TE:=λg H Q=>t g H (CF Q)
def EF{X:Cx}{K:W.Frag}{e:IN}{t:TA}{p J pos r:oO}(e0:X.K=K)(f0:X.calm=wN)(g0:Gl X "list")(h0:X.mg "list"=sN)(i0:Gl X "reversed")(j0:X.mg "reversed"=sN)(k0:PA X [e] t)
  (l0:DN [e] X.env=[(yN,SN e X.env)]:=by rfl)(Y:DN [.Call (.Name "reversed" J) [e] [] r] X.env=[(yN,SN (.Call (.Name "reversed" J) [e] [] r) X.env)]:=by rfl):
  PE X (.Call (.Name "list" p) [.Call (.Name "reversed" J) [e] [] r] [] pos) (DF K t):=by
 constructor;intro m0 s n0 H Q I h;subst e0;refine lh (Xf I g0 h0 PyProof.Rows.boot_list ?_ (by decide) (by decide));refine yk ?_ Y rfl;rw[Y];show wpAny _ _ (JP ((yN,SN (.Call (.Name "reversed" J) [e] [] r) X.env)::XN pos [])) _ _ s;refine Gi ?_;refine lh (Xf I i0 j0 boot_reversed (yk (xa (k0 r m0 s n0 H _ I h) ?_) l0 rfl) (by decide) (by decide));rintro us g⟨vs,B0,O,o0,q1⟩;obtain⟨l,xs,rfl,p0,q⟩:=q1;refine ea1 ?_ (cf o0);rintro u rfl q0;cases q0;refine ea8 ?_ (O.list (ca.of p0));rintro U a0 pl hz;have b0:=a0.length;refine call_reversed_list pl.isList (Nl ?_);have r0:(g.heap.push (revObj l ((U.toArray.size:Int)-1))).IsRevIter g.heap.objs.size l ((U.toArray.size:Int)-1):=⟨_,yb _ rfl,rfl,rfl⟩;have s0:l<g.heap.objs.size:=by obtain⟨_,t0,_⟩:=pl.isList;exact Na t0
 refine AF (s:={g with heap:=g.heap.push (revObj l ((U.toArray.size:Int)-1))}) (O.ok.hd f0) (pl.isList.push _) r0 (nb s0) (by rw[uc,<-b0];exact hz) λh' u0 v0 w0 x0 y0 c0=>?_
 have kp:∀b o,g.heap.get? b=qN o->h'.get? b=qN o:=λb o d0=>x0 b o (nb (Na d0)) (Pa _ d0)
 have z0:=O.laid (a:=(g.heap.push (revObj l ((U.toArray.size:Int)-1))).objs.size) (o:=.lst xs.reverse) (t':=u0) (h':=h') kp (by rw[Hf];exact Lg _)
  (⟨by rw[List.length_reverse];exact hz,nx4 v0.toList w0 (BF a0 (by rw[Dc,c0.1,uc,b0]) (λj v A0=>by
   have:=c0.2 j v (by rw[<-Kd];exact A0);simpa using this)) (by simpa using y0)⟩)
 exact⟨.ref _,_,z0,rfl,q _ (O.ya.fresh (by rw[Hf];exact Lg _))⟩
structure az(K:W.Frag)(C:uN):Prop where
 makes:W.makesIn K C=wN
 init:W.findIn K (.ref C) "__init__"=qN (qN (.builtin "object.__init__"))
 kp:W.keepIn K (.ref C)=wN
section
variable{X:Cx}
def FF(C:uN):TE:=λ_ H Q=>∀x g,H x=sN->H g=sN->g≠x->Q (.ref x) (upd (upd H g (.own x)) x (.ins C g []))
def Up(M:az X.K C)(g:Gl X x)(r:X.mg x=qN (.ref C))(J:(x==("__debug__":Str))=yN:=by decide):PE X (.Call (.Name x p) [] [] pos) (FF C):=by
 constructor;intro d0 s e0 H Q I h;refine lh (nr I g r ?_ J);refine W.callWith_K0 I.Sd M.kp (fP (MD I.Sd M.makes M.init (λself=>W.Looks.of_pure (W.oi_bind self)) ?_));have O:=Inv.made (C:=C) I;have U:=h (s.heap.objs.size+1) s.heap.objs.size (I.ya.fresh (Lg _)) (I.ya.fresh (wa _)) (by grind);have Y:=W.makes_of (M:=xN X.prog X.w) I.Sd M.makes;have a0:((s.heap.push W.emptyDict).push (W.instObj C s.heap.objs.size)).get? (s.heap.objs.size+1)=qN (W.instObj C s.heap.objs.size):=by
  have:=yb (s.heap.push W.emptyDict) (o:=W.instObj C s.heap.objs.size) rfl;rwa[Hf]at this
 have b0:W.Looks (xN X.prog X.w) ((s.heap.push W.emptyDict).push (W.instObj C s.heap.objs.size)) (typeOf (.ref (s.heap.objs.size+1))) (.ref C):=(W.Looks.ld a0).andThen .now;have c0:W.Looks (xN X.prog X.w) ((s.heap.push W.emptyDict).push (W.instObj C s.heap.objs.size)) (isInstance (.ref (s.heap.objs.size+1)) (.type "object")) wN:=b0.andThen (Y.top.keeps λb o e=>Pa _ (Pa _ e));refine XO W.oi_plain W.entry_oi (@W.check_slot (xN X.prog X.w) _ _ _ "object.__init__" "object" "__init__" (.ref (s.heap.objs.size+1)) [] [] _ W.oi_kind W.oi_split c0 (W.oi_args (.ref (s.heap.objs.size+1))) ?_);exact ga (And.intro rfl ⟨V.ref _,_,O,rfl,U⟩)
def bz(X:Cx){g:Type}(cls:g->uN)(m:Str)(sp:g->Sp)(k:Nat):Prop:=∀l,∃f fd r,Cls X.K (cls l)/\Zf X.K (cls l) m f/\kd X.prog X.w X.K X.mg X.base Td k f fd r (sp l)/\Zd X.K fd r []
inductive GF(cls:ι->uN)(m:Str)(sp:ι->Sp)(t:TA)(σ:L2.St)(Q:VK)(x:V)(H1:Hp):Prop|mk(a l dx fs)(_:x=.ref a)(_:H1 a=qN (.ins (cls l) dx fs))(_:fs.lookup m=sN)(_:t σ H1 λvs H2=>sp l (x::vs) H2 Q E0)
def cz{g:Type}(cls:g->uN)(m:Str)(sp:g->Sp)(J:TE)(t:TA):TE:=λr H Q=>J r H (GF cls m sp t r Q)
def lv{r:Type}{cls:r->uN}{m:Str}{sp:r->Sp}{k:Nat}{o e:IN}{es:List IN}{J:TE}{t:TA}{g pos:oO}{pl:fQ Bool}(d0:PE X o J)(M:bz X cls m sp k)(e0:ib k X.A)(f0:PA X (e::es) t)
  (g0:DN (e::es) X.env=(yN,SN e X.env)::DN es X.env:=by rfl)(h0:(XN pos (DN es X.env)).any (·.1)=yN:=by rfl)
  (i0:SN (.Call (.Attribute o m g) (e::es) [] pos) X.env=(do let O<-SN o X.env;IP g.atName;let(f,first)<-rP [O] (ZP O m pl);callWith pos f first (XN pos (DN (e::es) X.env)) (backToKw pos (FP [] X.env))):=by rfl):
  PE X (.Call (.Attribute o m g) (e::es) [] pos) (cz cls m sp J t):=by
 constructor;intro U s Y H Q I h;refine W.methodCall_KW (xa (d0 U s Y H _ I h) ?_) i0;rintro u j0⟨x,k0,a0,l0,a,l,p0,fs,ex,m0,lk,q⟩;subst ex;obtain rfl:u=Value.ref a:=l0;refine ea5 ?_ (M l);rintro f fd q0 c b0 F n0;refine ey a0 m0 c b0 lk ?_;refine W.callWith_K I.ok.mod.lr b0.kp (xa (f0 pos U j0 Y k0 _ a0 q) ?_) g0 h0;rintro us r0⟨vs,s0,c0,o0,q2⟩;refine⟨c0.Sd,?_⟩;exact Mu (vs:=.ref a::vs) F e0 n0 .nil Vk c0 (.cons rfl o0) (by rw[z1h];exact q2)
def dz{J:Type}{cls:J->uN}{m:Str}{sp:J->Sp}{k:Nat}{o:IN}{O:TE}{g pos:oO}{pl:fQ Bool}(a0:PE X o O)(M:bz X cls m sp k)(b0:ib k X.A)
  (c0:SN (.Call (.Attribute o m g) [] [] pos) X.env=(do let U<-SN o X.env;IP g.atName;let(f,first)<-rP [U] (ZP U m pl);callWith pos f first (XN pos (DN [] X.env)) (backToKw pos (FP [] X.env))):=by rfl):
  PE X (.Call (.Attribute o m g) [] [] pos) (cz cls m sp O Fp):=by
 constructor;intro d0 s e0 H Q I h;refine W.methodCall_KW (xa (a0 d0 s e0 H _ I h) ?_) c0;rintro u i0⟨x,j0,r,f0,a,l,k0,fs,ex,g0,lk,q⟩;subst ex;obtain rfl:u=Value.ref a:=f0;refine ea5 ?_ (M l);rintro f fd l0 c Y F h0;refine ey r g0 c Y lk ?_;exact W.callWith_K0 r.Sd Y.kp (Mu (vs:=[.ref a]) F b0 h0 .nil Vk r (.cons rfl .nil) q)
end
def Je(xs:Array Nat):Prop:=xs.toList.Pairwise (·<·)
def Je.lt(h:Je xs){i j x y:Nat}(J:i<j)(g:xs[i]?=qN x)(r:xs[j]?=qN y):x<y:=by
 rw[<-Kd]at g r;obtain⟨O,U⟩:=rb.mp g;obtain⟨Y,a0⟩:=rb.mp r;have:=List.pairwise_iff_getElem.mp h i j O Y J;rw[U,a0]at this;exact this
def mv(h:Je xs)(j:Nat):∀(fuel lo g:Nat),g-lo<=fuel->lo<=g->g<=xs.size->(∀k x,xs[k]?=qN x->k<lo->x<j)->(∀k x,xs[k]?=qN x->g<=k->j<=x)->
  ∀k x,xs[k]?=qN x->(k<SetTable.below.go xs j fuel lo g->x<j)/\(SetTable.below.go xs j fuel lo g<=k->j<=x)
 |0,lo,g,a0,b0,O,r,J=>λk x e=>by
  have:lo=g:=by grind
  subst this;exact⟨r k x e,J k x e⟩
 |fuel+1,lo,g,a0,b0,O,r,J=>λk x e=>by
  unfold SetTable.below.go;by_cases c0:lo<g
  ·rw[va c0];have d0:lo<=(lo+g)/2:=by lia
   have g0:(lo+g)/2<g:=by lia
   have U:(lo+g)/2<xs.size:=by lia
   have em:=Kh U;have e0:xs.getD ((lo+g)/2) j=xs[(lo+g)/2]:=by simp[Array.getD,U]
   dsimp only;rw[e0];by_cases Y:xs[(lo+g)/2]<j
   ·rw[va Y];refine mv h j fuel _ g (by grind) (by lia) O (λk x e f0=>?_) J k x e;by_cases q:k=(lo+g)/2
    ·simp_all
    ·have:=h.lt (by lia) e em;lia
   ·rw[na Y];refine mv h j fuel lo _ (by grind) d0 (by lia) r (λk x e f0=>?_) k x e;by_cases q:k=(lo+g)/2
    ·simp_all
    ·have:=h.lt (by lia) em e;lia
  grind
def jm(h:Je xs)(j:Nat)(e:xs[k]?=qN x):(k<SetTable.below xs j->x<j)/\(SetTable.below xs j<=k->j<=x):=by
 refine mv h j xs.size 0 xs.size (by lia) (Va _) (wa _) (by(intros;simp_all)) (λk x e g=>?_) k x e
 simp_all
def ez(h:Je xs)(e:xs[i]?=qN x):SetTable.below xs x=i:=by
 have r:=jm h x e;by_cases q:SetTable.below xs x<=i
 ·by_cases q2:SetTable.below xs x=i
  ·exact q2
  ·have J:SetTable.below xs x<i:=by lia
   have O:=(xj.mp e).1;have g:xs[SetTable.below xs x]?=qN xs[SetTable.below xs x]:=by simp_all
   have U:=(jm h x g).2 (wa _);have Y:=h.lt J g e;lia
 ·have:=r.1 (by simp_all);simp_all
def HF(h:Je xs)(e:xs[SetTable.below xs j]?≠qN j):j∉xs.toList:=λr=>by
 obtain⟨k,J,ek⟩:=No r;have g:xs[k]?=qN j:=by rw[<-Kd,Wb J,ek]
 rw[ez h g]at e;exact e g
def Je.insert(h:Je xs)(c0:j∉xs.toList):Je (SetTable.insertAt xs (SetTable.below xs j) j):=by
 unfold Je;rw[SetTable.toList_insertAt];refine List.pairwise_append.mpr ⟨h.sublist (by grind),List.pairwise_cons.mpr ⟨λb g=>?_,h.sublist (by grind)⟩,λa U b g=>?_⟩
 ·obtain⟨k,r,ek⟩:=No g;rw[List.getElem_drop]at ek;have J:xs[SetTable.below xs j+k]?=qN b:=by rw[<-Kd,Wb (by rw[Kg]at r;grind),ek]
  have:=(jm h j J).2 (by simp_all);have d0:b≠j:=by grind
  lia
 ·obtain⟨k,r,ek⟩:=No U;rw[List.getElem_take]at ek;rw[se]at r;have J:xs[k]?=qN a:=by rw[<-Kd,Wb (by grind),ek]
  have e0:=(jm h j J).1 (by grind);rcases rc.mp g with z|z
  ·simp_all
  ·obtain⟨Y,a0,O⟩:=No z;rw[List.getElem_drop]at O;have b0:xs[SetTable.below xs j+Y]?=qN b:=by rw[<-Kd,Wb (by rw[Kg]at a0;lia),O]
   have:=(jm h j b0).2 (by lia);lia
structure wc(t:SetTable):Prop where
 up:Je t.place
 nd:t.dummies=#[]
def wc.fresh(f m:Nat)(l:Bool):wc (.fresh f m l):=⟨List.Pairwise.nil,rfl⟩
def wc.Ke(h:wc t)(j:Nat):SetTable.has t.dummies j=yN:=by
 rw[h.nd];unfold SetTable.has;simp
def wc.km(h:wc t):∀(r:Nat)(p:SetTable.Probe){j:Nat}{d:Option Nat},p.dummy=sN->SetTable.probe.go t f z r p=qN (.empty j d)->d=sN/\j∉t.place.toList:=by
 intro l;induction l with
 |zero=>intro p j d J e;unfold SetTable.probe.go at e;cases e
 |succ r O=>
  intro p j d J e;unfold SetTable.probe.go at e;have U:∀q:SetTable.Probe,(t.advance q).dummy=q.dummy:=λq=>by
   unfold SetTable.advance;split<;>rfl
  cases g:t.slot p.j with
  |empty=>
   rw[g]at e;cases e;refine⟨J,HF h.up λz=>?_⟩;unfold SetTable.slot at g
   simp_all
  |dummy=>
   unfold SetTable.slot at g;simp only[h.Ke]at g;split at g<;>cases g
  |live i=>
   rw[g]at e;dsimp only at e;split at e
   ·cases e
   ·exact O _ (by simp_all) e
def wc.free(h:wc t)(e:t.freeSlot z=qN (j,b)):j∉t.place.toList:=by
 unfold SetTable.freeSlot at e;cases g:t.probe (λ_=>z+1) z (t.probeStart z)with
 |none=>rw[g]at e;cases e
 |some m=>
  rw[g]at e;cases m with
  |candidate a b c=>cases e
  |empty r d=>
   obtain⟨J,O⟩:=h.km _ _ rfl g
   grind
def wc.put(h:wc t)(g:j∉t.place.toList):wc (t.put j).1/\(t.put j).1.led=t.led:=by
 refine⟨⟨h.up.insert g,?_⟩,rfl⟩;show(if SetTable.has t.dummies j=wN then _ else t.dummies)=#[];rw[h.Ke,na (by simp)];exact h.nd
def IF(n:Nat):Je (Array.range n):=by
 unfold Je;rw[Array.toList_range];exact Ll
def wc.be(t:SetTable)(n:Nat):wc (t.standIn n)/\(t.standIn n).led=t.led:=⟨⟨IF n,rfl⟩,rfl⟩
def wc.Rj(h:wc t)(n:Nat):wc (t.orStandIn n)/\(t.orStandIn n).led=t.led:=by
 unfold SetTable.orStandIn;split
 ·simp_all
 ·exact wc.be t n
def wc.Sj(h:wc t)(es:Array (Int×rN))(z:Int)(x:rN):wc (layNew t es z x).2.1/\(layNew t es z x).2.1.led=t.led:=by
 unfold layNew;split
 ·rename_i slot wd e;obtain⟨g,r⟩:=h.put (h.free e);obtain⟨J,O⟩:=g.Rj (SetTable.insertAt es (t.put slot).2 (z,x)).size
  simp[*]
 ·exact wc.be t _
def fz(e:SetTable.laid mask b0 c0 led pl J=qN (t,o)):wc t/\t.led=led:=by
 unfold SetTable.laid at e;cases r:SetTable.layClean mask J with
 |none=>rw[r]at e;cases e
 |some g=>
  rw[r]at e;cases e;refine⟨⟨?_,rfl⟩,rfl⟩;have key:∀l:List Nat,l.Pairwise (·<·)->((l.filterMap λj=>(g.getD j sN).map (j,·)).map (·.1)).Pairwise (·<·)/\∀x∈(l.filterMap λj=>(g.getD j sN).map (j,·)).map (·.1),x∈l:=by
   intro l;induction l with
   |nil=>intro _;exact⟨.nil,by(intros;subst_vars;first|rfl|assumption)⟩
   |cons a d0 O=>
    intro U;obtain⟨e0,Y⟩:=List.pairwise_cons.mp U;obtain⟨a0,f0⟩:=O Y;rw[wh];cases g0:g.getD a sN with
    |none=>exact⟨a0,by grind⟩
    |some q=>
     refine⟨List.pairwise_cons.mpr (by grind),λx h0=>?_⟩
     grind
  exact(key _ Ll).1
def wc.Vp(es:Array (Int×rN))(g:Nat):wc (OO t es g).2.1/\(OO t es g).2.1.led=t.led:=by
 unfold OO;split
 ·rename_i t' r e;have:=fz e;dsimp only;split
  ·exact this
  ·exact wc.be t _
 ·exact wc.be t _
def lm(e:Int×rN):Int:=match e.2 with
 |.int n _=>n
 |_=>0
section
variable{prog:zN}{w:AN}{A:BN}{E:rN->tN->Prop}{s:tN}
def Tj(prog:zN)(w:AN)(h:EN)(a:uN)(g:List Int)(led:Bool):Prop:=
 ∃o es ep t,h.get? a=qN o/\o.ExactSet/\o.data=.set es ep t/\ElemsOf (fO prog w) es.toList/\es.size<BP/\t.fits es.size=wN/\wc t/\t.led=led/\(es.toList.map lm).Perm g
def JF{e:Int×rN}(h:(∃k,(fO prog w).is k e.2=wN/\e.1=(fO prog w).hash k)/\e.2.scannable=wN):∃t,e.2=.int (lm e) t:=by
 obtain⟨⟨k,g,_⟩,_⟩:=h;obtain⟨t,r⟩:=Value.isInt_shape g;refine⟨t,?_⟩;unfold lm;rw[r]
def gz(h:(∃k,(fO prog w).is k e.2=wN/\e.1=(fO prog w).hash k)/\e.2.scannable=wN):(fO prog w).is n e.2=wN↔lm e=n:=by
 obtain⟨t,g⟩:=JF h;rw[g];constructor
 ·intro z;obtain⟨t',r⟩:=Value.isInt_shape (show Value.isInt n (Value.int (lm e) t)=wN from z)
  simp_all
 ·intro z;rw[z];exact intKind_is _ _ _ _
def Gr{h:EN}(J:h.get? a=qN o)(r:o.data=.set es ep t)(g:Array (Int×rN))(t':SetTable):(h.update a (Obj.putSet g t')).get? a=qN {o with data:=.set g (ep+1) t'}:=by
 have q:=Ki (Obj.putSet g t') J (by rw[putSet_of g t' r];rfl);rwa[putSet_of g t' r]at q
def LF(G0:Tj prog w s.heap a J led)(I0:J.length+1<BP)
  (h:∀b h',Heap.SameBut a s.heap h'->Tj prog w h' a (WN J n) led->Q b {s with heap:=h'}):wpAny (xN prog w) A (bQ a (.int n U) ((fO prog w).hash n)) Q E s:=by
 revert G0;refine eb8 ?_;rintro o es ep t c0 hex d0 Y p0 h0 q0 i0 e0;have r0:(fO prog w).is n (.int n U)=wN:=intKind_is _ _ _ _;have s0:(Value.int n U).scannable=wN:=rfl;have hsz:es.size=J.length:=by rw[<-Dc,<-ua,e0.length_eq]
 refine Rc (ba (Nh c0 d0 h0 ?_));dsimp only;rw[byScan_of s0 p0 Y];simp only[↓reduceIte];refine ba (ba (Ue (ba (wpAny_setScan_of r0 c0 d0 h0 Y ?_))));cases t0:List.findIdx? (λe=>(fO prog w).is n e.2) es.toList with
 |some j=>
  dsimp only;obtain⟨S0,J0,_⟩:=List.findIdx?_eq_some_iff_getElem.mp t0;have T0:=e0.mem_iff.mp (Sa.mpr ⟨es.toList[j],by simp_all,(gz (Y _ (by grind))).mp J0⟩);have U0:s={s with heap:=s.heap}:=by cases s;rfl
  refine ga (ga ?_);refine h _ s.heap (Heap.SameBut.refl a s.heap) ?_;unfold WN;rw[va (by simp_all)];exact nx12 o es ep t c0 hex d0 Y p0 h0 q0 ⟨i0,e0⟩
 |none=>
  have K0:n∉J:=λz=>by
   obtain⟨e,u0,ek⟩:=Sa.mp (e0.mem_iff.mpr z);have q:=List.findIdx?_eq_none_iff.mp t0 e u0;rw[(gz (Y _ u0)).mpr ek]at q;cases q
  have V0:WN J n=J++[n]:=by
   unfold WN;rw[na λz=>by obtain⟨x,L0,ex⟩:=Qi.mp z;exact K0 (by rw[<-beq_iff_eq.mp ex];exact L0)]
  have v0:∀(b:Bool){j0:tN}{k0:Unit->tN->Prop},k0 () j0->wpAny (xN prog w) A (match b with|true=>rule "set.scan.the-table-gave-way"|false=>pure ()) k0 E j0:=λb j0 k0 w0=>by cases b<;>first|exact ga w0|exact Ue w0
  have a0:=layNew_perm t es ((fO prog w).hash n) (.int n U);have f0:=layNew_fits t es ((fO prog w).hash n) (.int n U);have b0:=q0.Sj es ((fO prog w).hash n) (.int n U);generalize layNew t es ((fO prog w).hash n) (.int n U)=L at a0 f0 b0⊢;obtain⟨g,x0,wd,W0⟩:=L;dsimp only at a0 f0 b0⊢;rw[El]at a0;have y0:=(Y.push r0 s0).perm a0;have M0:(g.toList.map lm).Perm (J++[n]):=(a0.map lm).trans (by rw[Qd];exact e0.append_right [n]);have N0:g.size=J.length+1:=by rw[<-Dc,a0.length_eq,Ya,Dc,hsz];rfl
  have g0:g.size<BP:=by rw[N0];exact I0
  refine ba (v0 _ ?_);have z0:∀(r:SetTable),r.fits g.size=wN->wc r->r.led=led->wpAny (xN prog w) A (do
    storeSet a g r
    if(!wd&&r.tooFull)=wN then do
      (match(OO r g (SetTable.grown g.size)).2.2 with|true=>rule "set.scan.the-table-gave-way"|false=>pure ())
      storeSet a (OO r g (SetTable.grown g.size)).1 (OO r g (SetTable.grown g.size)).2.1
      pure (qN wN)
     else pure (qN wN)) (λO s'=>∃h',s'={s with heap:=h'}/\O=qN wN/\Heap.SameBut a s.heap h'/\Tj prog w h' a (J++[n]) led) E s:=by
   intro r O0 P0 A0;refine ba (Xq c0 d0 ?_ (fits_of_scanBound g0));have l0:=Gr c0 d0 g r;have B0:=Gf s.heap a (Obj.putSet g r);split
   ·have m0:=relayAll_perm r g (SetTable.grown g.size);have C0:=relayAll_fits r g (SetTable.grown g.size);have n0:=wc.Vp (t:=r) g (SetTable.grown g.size);generalize OO r g (SetTable.grown g.size)=Q0 at m0 C0 n0⊢;obtain⟨o0,D0,X0⟩:=Q0;have F0:o0.size=g.size:=by rw[<-Dc,m0.length_eq,Dc]
    refine ba (v0 _ (ba (Xq l0 rfl ?_ (fits_of_scanBound (by rw[F0];exact g0)))));have R0:=Gr l0 rfl o0 D0;exact ga (⟨_,rfl,rfl,B0.trans (Gf _ a _),nx12 _ o0 _ D0 R0 hex rfl (y0.perm m0) (by rw[F0];exact g0) C0 n0.1 ⟨n0.2.trans A0,by grind⟩⟩)
   ·exact ga (⟨_,rfl,rfl,B0,nx12 _ g _ r l0 hex rfl y0 g0 O0 P0 ⟨A0,M0⟩⟩)
  have fin:∀O s',(∃h',s'={s with heap:=h'}/\O=qN wN/\Heap.SameBut a s.heap h'/\Tj prog w h' a (J++[n]) led)->∃b,O=qN b/\Q b s':=by
   rintro O s';refine eb1 ?_;rintro h' rfl rfl Y0 Z0;exact(by simp[*])
  split
  ·refine ba ?_;refine ga ?_;refine zd (z0 x0 f0 b0.1 (b0.2.trans i0)) (λO s' z=>?_) λ_ _ z=>z
   refine ea1 ?_ (fin O s' z);rintro b rfl q;exact ga q
  ·refine ba (ga ?_);refine zd (z0 x0 f0 b0.1 (b0.2.trans i0)) (λO s' z=>?_) λ_ _ z=>z
   refine ea1 ?_ (fin O s' z);rintro b rfl q;exact ga q
end
def dd(ns:List Int):List Int:=ns.foldl WN []
def iz(ns:List Int):(dd ns).length<=ns.length:=by
 have key:∀(ns acc:List Int),(ns.foldl WN acc).length<=acc.length+ns.length:=by
  intro ns;induction ns with
  |nil=>intro acc;exact wa _
  |cons n g r=>
   intro acc;have J:(WN acc n).length<=acc.length+1:=by unfold WN;split<;>simp
   grind
 have:=key ns [];unfold dd;simpa using this
def MF(ns:List Int)(n:Int):dd (ns++[n])=WN (dd ns) n:=by
 unfold dd
 simp_all
section
variable{prog:zN}{w:AN}{A:BN}{E:rN->tN->Prop}{s:tN}
def Tj.keep(x:Tj prog w h a g led)(k:∀o,h.get? a=qN o->h'.get? a=qN o):Tj prog w h' a g led:=by
 obtain⟨o,es,ep,t,r,J⟩:=x;exact nx10 o es ep t ⟨k o r,J⟩
def NF{us:List rN}{G:Nat->EN->Prop}(h0:A.handled=sN)(i0:l≠I)(j0:S≠I)(k0:S≠l)
  (keep:∀i h h',(∀b o,(∀fs,o.data≠.fields fs)->h.get? b=qN o->h'.get? b=qN o)->G i h->G i h')
  (put:∀(i:Nat)u(s:tN),us[i]?=qN u->G i s.heap->∀{Q:Bool->tN->Prop}{E:rN->tN->Prop},(∀a0 h g,(∀b,b≠S->h.get? b=s.heap.get? b)->G (i+1) h->Q a0 {s with heap:=h,toks:=g})->wpAny (xN prog w) A.in1 (setAdd S u) Q E s):
  ∀(k i:Nat)(s:tN),us.length-i=k->i<=us.length->s.heap.IsListIter I l i->s.heap.IsList l us.toArray->G i s.heap->
   (∀h' g,(∀b o,b≠I->b≠S->s.heap.get? b=qN o->h'.get? b=qN o)->G us.length h'->R (.ok (.ret .none)) {s with heap:=h',toks:=g})->
   codeAny (xN prog w) A (.builtin "set.update.loop" ⟨[.ref S,.ref I],[]⟩) R s:=by
 have W:=Walks.list (prog:=prog) (w:=w) (A:=A.in1) h0 I l i0 us.toArray;have l0:us.toArray.size=us.length:=by simp
 have b0:∀{h:EN}{i:Nat},h.IsListIter I l i->∀b o,(∀fs,o.data≠.fields fs)->h.get? b=qN o->b≠I:=by
  rintro h i⟨C0,m0,D0,n0⟩b o n e rfl;rw[m0]at e;cases e;exact n _ n0
 intro k;induction k with
 |zero=>
  intro i s o0 p0 r J O U;obtain rfl:i=us.length:=by grind
  refine og PyProof.Rows.F.entry_set_update_loop ?_;rw[Th mu _];refine ba (W.done s _ _ ⟨by omega,J⟩ λh' g q0=>?_);exact ga (U h' g (by(intros;simp_all)) (keep _ _ _ (λb o n e=>q0 b o (by simpa using b0 r b o n e) e) O))
 |succ k r0=>
  intro i s o0 p0 r J O U;have c0:i<us.length:=by lia
  refine og PyProof.Rows.F.entry_set_update_loop ?_;rw[Th mu _];refine ba (W.item i s _ _ (by rw[l0];exact c0) ⟨r,J⟩ λv s0 t0 u0 d0 e0=>?_);refine ba (Rc (put i v {s with heap:=s0,toks:=t0} (by simpa using u0) (keep _ _ _ (λb o n e=>e0 b o (by simpa using b0 r b o n e) e) O) λa0 v0 w0 Y x0=>?_));exact ga ⟨Te mu _,r0 (i+1) {s with heap:=v0,toks:=w0} (by grind) c0 (d0.1.at λo e=>(Y I j0.symm).trans e) (d0.2.at λo e=>(Y l k0.symm).trans e) x0 λy0 z0 A0 B0=>U y0 z0 (λb o f0 g0 e=>A0 b o f0 g0 ((Y b g0).trans (e0 b o (by simpa using f0) e))) B0⟩
def OF(a:rN)(h:Q₁ (.ref s.heap.objs.size) {s with heap:=s.heap.push {cls:=.type "set",dict:=sN,data:=.set #[] 0 (.fresh 0 0 (!w.params.followText "set-order"))}}):
  codeAny (xN prog w) A (.call (.builtin "set.__new__") ⟨[.type "set",a],[]⟩) (wants Q₁ E) s:=by
 refine codeAny_of_tree ?_;show wpAny _ A.in1 (do checkBuiltinCall "set.__new__" ⟨[.type "set",a],[]⟩;again (.builtin "set.__new__" ⟨[.type "set",a],[]⟩)) _ _ s;refine ba (MO (F.newCall_set_1 a) (ga ⟨Te F.plain_set_new _,og F.entry_set_new ?_⟩));rw[Th F.plain_set_new _];unfold Builtin.«set.__new__»Builtin.Frozenset.newClass;have g:=sub_set_self;obtain⟨r,J,d,O,os⟩:=s;dsimp only;wp_walk;refine ip (ga ?_);simp only[newObj];exact ba (wpAny_alloc (ga (ga h)))
set_option maxHeartbeats 3200000 in
def jz{l:uN}{us:List rN}{Q:rN->tN->Prop}{G:Nat->EN->Prop}(k0:A.handled=sN)(l0:s.heap.IsList l us.toArray)
  (keep:∀i h h',(∀b o,(∀fs,o.data≠.fields fs)->h.get? b=qN o->h'.get? b=qN o)->G i h->G i h')(m0:G 0 (s.heap.push {cls:=.type "set",dict:=sN,data:=.set #[] 0 (.fresh 0 0 (!w.params.followText "set-order"))}))
  (put:∀(i:Nat)u (s':tN),us[i]?=qN u->G i s'.heap->∀{Q:Bool->tN->Prop}{E:rN->tN->Prop},(∀J h r,(∀b,b≠s.heap.objs.size->h.get? b=s'.heap.get? b)->G (i+1) h->Q J {s' with heap:=h,toks:=r})->wpAny (xN prog w) A.in1.in1.in1 (setAdd s.heap.objs.size u) Q E s')
  (h:∀h' r,G us.length h'->(∀b o,s.heap.get? b=qN o->h'.get? b=qN o)->Q (.ref s.heap.objs.size) {s with heap:=h',toks:=r}):
  wpAny (xN prog w) A (call (.type "set") [.ref l]) Q E s:=by
 obtain⟨c,y0,z0⟩:=zk.mro;have A0:=zk.made;have B0:=zk.sub;refine fP (codeAny_of_tree ?_);show wpAny _ _ (callAny (.type "set") _) _ _ _;refine ga ⟨Code.quiet_builtin _ (by decide+kernel),og F.entry_type_call ?_⟩;rw[Around.under_plain (weight_type_call_type "set" [.ref l] []) rfl];have C0:=zk.notType;have D0:=zk.canCreate;have F0:=F.typeCall_set_1 (.ref l);repeat(any_goals(first|assumption|wp_step))
 generalize O:(SetTable.fresh 0 0 (!w.params.followText "set-order"))=g;refine Kl (OF (prog:=prog) (w:=w) (.ref l) (E:=E) (Q₁:=λobj b0=>obj=.ref s.heap.objs.size/\b0={s with heap:=s.heap.push {cls:=.type "set",dict:=sN,data:=.set #[] 0 g}}) ⟨rfl,by rw[O]⟩) λJ b0 U=>?_
 cases J with
 |error e=>exact U
 |ok n0=>
  cases n0 with
  |ret obj=>
   obtain⟨rfl,rfl⟩:=U;have o0:(s.heap.push {cls:=.type "set",dict:=sN,data:=.set #[] 0 g}).get? s.heap.objs.size=qN {cls:=.type "set",dict:=sN,data:=.set #[] 0 g}:=yb _ rfl;have p0:Shared.TypeIs {s with heap:=s.heap.push {cls:=.type "set",dict:=sN,data:=.set #[] 0 g}} (.ref s.heap.objs.size) "set":=⟨_,o0,rfl⟩;have G0:=zk.init.lookup;have I0:=zk.init.bind (.ref s.heap.objs.size);repeat(any_goals(first|assumption|wp_step))
   refine Kl (XO (R:=wants (λJ c0=>J=.none/\∃h' r,c0={s with heap:=h',toks:=r}/\G us.length h'/\∀b o,s.heap.get? b=qN o->h'.get? b=qN o) E) zk.init.plain F.entry_set_init (check_set_init_1 p0 ?_)) λq0 c0 Y=>?_
   ·refine ec7 ?_ (id l0);rintro ol d0 e0 f0 g0;obtain⟨J0,r0,K0,s0⟩:=ol;simp only at e0 g0;subst e0;subst g0;have t0:(s.heap.push {cls:=.type "set",dict:=sN,data:=.set #[] 0 g}).get? l=qN {cls:=.type "list",dict:=r0,data:=.seq us.toArray f0,slots:=s0}:=Pa _ d0;have L0:=F.sub_list_set;have M0:=F.sub_list_frozenset;have N0:(Value.type "list"==Value.type "dict")=yN:=by decide
    have h0:(s.heap.push {cls:=.type "set",dict:=sN,data:=.set #[] 0 g}).IsList l us.toArray:=nx5 _ t0 rfl f0 rfl;have O0:g.fill=0/\g.place.size=0/\g.mask=7:=by rw[<-O];exact⟨rfl,rfl,rfl⟩
    subst O;unfold Builtin.«set.__init__»noKeywords Builtin.Frozenset.updateFrom;generalize u0:zO=PI;wp_walk;subst u0;refine Ql h0 (ba (wpAny_runValue ?_));have i0:l<s.heap.objs.size:=Na d0;have v0:A.in1.in1.handled=sN:=by simp[k0]
    refine NF (prog:=prog) (w:=w) (s:={s with heap:=(s.heap.push {cls:=.type "set",dict:=sN,data:=.set #[] 0 (.fresh 0 0 (!w.params.followText "set-order"))}).push {cls:=.type "list_iterator",data:=.fields #[.ref l,.int 0 0]}}) (I:=(s.heap.push {cls:=.type "set",dict:=sN,data:=.set #[] 0 (.fresh 0 0 (!w.params.followText "set-order"))}).objs.size) v0 ?_ ?_ (Mi i0) keep put us.length 0 (by simp_all) (Va _) ⟨_,yb _ rfl,rfl,rfl⟩ (h0.push _) (keep _ _ _ (λb o _ e=>Pa _ e) m0) λh' r k a0=>?_
    ·rw[Hf];exact nb (gr i0)
    ·rw[Hf];exact nb (Nat.lt_succ_self _)
    ·show wpAny _ _ _ _ _ _;refine ga ?_;show wpAny _ _ (ret Value.none) _ _ _;refine ga (⟨rfl,nx0 h' r rfl a0 λb o e=>?_⟩);have j0:=Na e;exact k b o (by rw[Hf];exact nb (gr j0)) (nb j0) (Pa _ (Pa _ e))
   ·cases q0 with
    |error e=>exact Y
    |ok w0=>
     cases w0 with
     |ret J=>
      revert Y;refine eb7 ?_;rintro rfl h' r rfl a0 x0;repeat(any_goals(first|assumption|wp_step))
      exact h _ _ a0 x0
     |_=>exact Y.elim
  |_=>exact U.elim
def PF{l:uN}{us:List rN}{ns:List Int}{Q:rN->tN->Prop}(J:A.handled=sN)(O:s.heap.IsList l us.toArray)(U:us.length=ns.length)(Y:∀(j:Nat)u,us[j]?=qN u->∃n t,ns[j]?=qN n/\u=Value.int n t)(j0:ns.length+1<BP)
  (h:∀h' g,Tj prog w h' s.heap.objs.size (dd ns) (!w.params.followText "set-order")->(∀b o,s.heap.get? b=qN o->h'.get? b=qN o)->Q (.ref s.heap.objs.size) {s with heap:=h',toks:=g}):
  wpAny (xN prog w) A (call (.type "set") [.ref l]) Q E s:=by
 refine jz (G:=λi h=>Tj prog w h s.heap.objs.size (dd (ns.take i)) (!w.params.followText "set-order")) J O ?_ (nx12 _ (#[]) 0 _ (yb _ rfl) ⟨rfl,rfl,rfl⟩ rfl (λe a0=>by cases a0) (by decide) rfl (wc.fresh _ _ _) ⟨rfl,.nil⟩) (λi u s' b0 r Q E k=>?_) λh' g r=>h h' g (by rwa[U,vc]at r)
 ·rintro i h h' k;refine eaE ?_;rintro o es ep t c0 c d d0;exact nx18 o es ep t (k _ _ (by(intros;simp_all)) c0) c d d0
 ·refine eaA ?_ (Y i u b0);rintro n t e0 rfl;have f0:(dd (ns.take i)).length+1<BP:=by
   have:=iz (ns.take i);rw[se]at this;lia
  exact Rc (ba ((fO prog w).pyHash (intKind_is _ _ _ _) (LF r f0 λb g0 h0 i0=>k b g0 _ h0.2 (by rw[wF e0,MF];exact i0))))
end
def qv(j:Nat):∀(fuel lo g:Nat),lo<=g->SetTable.below.go xs j fuel lo g<=g
 |0,lo,g,h=>by unfold SetTable.below.go;exact h
 |fuel+1,lo,g,h=>by
  unfold SetTable.below.go;split
  ·dsimp only;split
   ·exact qv j fuel _ g (by lia)
   ·exact gb (qv j fuel lo _ (by lia)) (by lia)
  ·exact h
def QF(j:Nat):SetTable.below xs j<=xs.size:=qv j _ _ _ (Va _)
def kz(h:Je xs)(g:∀(k x:Nat),xs[k]?=qN x->k<i->x<j)(r:∀(k x:Nat),xs[k]?=qN x->i<=k->j<=x)(O:i<=xs.size):SetTable.below xs j=i:=by
 have U:=QF (xs:=xs) j;by_cases q:SetTable.below xs j<i
 ·have J:SetTable.below xs j<xs.size:=by lia
  have e:=Kh J;have a:=g _ _ e q;have b:=(jm h j e).2 (wa _);lia
 ·by_cases q2:i<SetTable.below xs j
  ·have e:xs[i]?=qN (xs[i]'(by lia)):=by simp_all
   have a:=r _ _ e (wa _);have b:=(jm h j e).1 q2;lia
  ·lia
def Hr(xs:Array Nat):Nat->Nat
 |0=>0
 |i+1=>xs.getD i 0+1
def lz(h:Je xs)(g:i<=xs.size):SetTable.below xs (Hr xs i)=i:=by
 cases i with
 |zero=>exact kz h (by(intros;simp_all)) (λk x _ _=>Va _) g
 |succ i=>
  have e:xs[i]?=qN (xs[i]'(by lia)):=by simp_all
  have r:xs.getD i 0=xs[i]'(by lia):=by simp[Array.getD,show i<xs.size by lia]
  refine kz h (λk x ek z=>?_) (λk x ek z=>?_) g
  ·show x<xs.getD i 0+1;rw[r];by_cases q:k=i
   ·simp_all
   ·have:=h.lt (by lia) ek e;lia
  ·show xs.getD i 0+1<=x;rw[r];exact h.lt (by lia) e ek
def uv{α:Type}:∀(l:List α)(i:Nat)(h:i<l.length),(l[i]::l.eraseIdx i).Perm l
 |[],i,h=>by contradiction
 |a::g,0,h=>.refl _
 |a::g,i+1,h=>by
  have r:i<g.length:=by simpa using h
  exact(List.Perm.swap _ _ _).trans ((uv g i r).cons a)
def RF(next:Nat->Nat):∀(g k:Nat)(left:List α)(out:Array α),left.length<=g->(pickOrder.go next g k left out).toList.Perm (out.toList++left):=by
 intro l;induction l with
 |zero=>
  intro k left out h;have:left=[]:=by simp_all
  subst this;unfold pickOrder.go;simp
 |succ g O=>
  intro k left out h;unfold pickOrder.go;cases left with
  |nil=>simp
  |cons a J=>
   have r:next k%(a::J).length<(a::J).length:=Jl _ (by simp);rw[Wb r];refine(O (k+1) _ _ (by rw[List.length_eraseIdx_of_lt r];simp at h⊢;lia)).trans ?_;rw[El,me];exact(List.Perm.append_left _ (uv _ _ r))
def vv(next:Nat->Nat)(xs:Array α):(iO next xs).toList.Perm xs.toList:=by
 unfold iO;have:=RF next xs.size 0 xs.toList #[] (by simp);simpa using this
section
variable{M:Model}{A:BN}{E:rN->tN->Prop}
def SF(g:n≠0)(h:∀m d,m<n->Q m {s with drawn:=d}):wpAny M A (choose src n) Q E s:=λr p _=>by
 unfold choose;refine⟨g,?_⟩;exact h _ _ (Jl _ (by grind))
def TF:∀(n:Nat)(xs:List α)(Q:List α->tN->Prop)(s:tN),xs.length=n->(∀ys d,ys.Perm xs->Q ys {s with drawn:=d})->wpAny M A (drawOrder n xs) Q E s:=by
 intro n;induction n with
 |zero=>
  intro xs Q s g h;have:xs=[]:=by simp_all
  subst this;have e:s={s with drawn:=s.drawn}:=by cases s;rfl
  exact ga (h [] _ (.refl _))
 |succ n J=>
  rintro(_|⟨a,U⟩)Q s g h
  ·cases g
  refine ba (SF (by simp) λm d r=>?_);rw[Wb r];refine ba (J _ _ _ (by rw[List.length_eraseIdx_of_lt r,g];rfl) λys d' O=>?_);exact ga (h _ _ ((O.cons _).trans (uv _ _ r)))
end
def Dh:Slot "set_iterator" "__next__" "set_iterator.__next__":=.of (owner:="set_iterator") (n:="__next__") (by rw[Eo,Uo];kernel_rfl) (by decide+kernel) (by decide+kernel) (by decide+kernel) (by first|exact .inl (by decide+kernel)|exact .inr (by decide+kernel)) (by rw[WO];kernel_rfl)
def mz:Slot "set_iterator" "__iter__" "set_iterator.__iter__":=.of (owner:="set_iterator") (n:="__iter__") (by rw[Eo,Uo];kernel_rfl) (by decide+kernel) (by decide+kernel) (by decide+kernel) (by first|exact .inl (by decide+kernel)|exact .inr (by decide+kernel)) (by rw[WO];kernel_rfl)
def Ir:entryFor table "set_iterator.__next__"=qN Builtin.«set_iterator.__next__»:=entryFor_of_tree (by kernel_rfl)
def UF:entryFor table "set_iterator.__iter__"=qN Builtin.«dict_keyiterator.__iter__»:=entryFor_alias (id':="dict_keyiterator.__iter__") (by kernel_rfl) rfl (by decide+kernel) (by kernel_rfl)
def VF:entryFor table "set.__iter__"=qN Builtin.«frozenset.__iter__»:=entryFor_alias (id':="frozenset.__iter__") (by kernel_rfl) rfl (by decide+kernel) (by kernel_rfl)
def nz:Manifest.owners.lookup (String.ofList ['r','o','t','a','r','e','t','i','_','t','e','s'].reverse)=qN Manifest.sig_set_iterator:=by kernel_rfl
def Jr(a:rN):eQ "set_iterator.__next__" ⟨[a],[]⟩:=by unfold eQ;rw[signature?_of (n:=['_','_','t','x','e','n','_','_']) (by kernel_rfl) nz];kernel_rfl
def WF(a:rN):eQ "set_iterator.__iter__" ⟨[a],[]⟩:=by unfold eQ;rw[signature?_of (n:=['_','_','r','e','t','i','_','_']) (by kernel_rfl) nz];kernel_rfl
def fg(h:EN)(I a:uN)(first:rN)(i n ep:Nat):Prop:=∃o,h.get? I=qN o/\o.cls=.type "set_iterator"/\o.data=.fields #[first,.int i 0,.ref a,.int n 0,.int ep 0]
def Xg(h:EN)(a:uN)(es:Array (Int×rN))(ep:Nat)(t:SetTable):Prop:=∃o,h.get? a=qN o/\o.ExactSet/\o.data=.set es ep t
def fg.keep(x:fg h I a v i n ep)(k:∀o,h.get? I=qN o->h'.get? I=qN o):fg h' I a v i n ep:=by obtain⟨o,g,r⟩:=x;exact⟨o,k o g,r⟩
def Xg.keep(x:Xg h a es ep t)(k:∀o,h.get? a=qN o->h'.get? a=qN o):Xg h' a es ep t:=by obtain⟨o,g,r⟩:=x;exact⟨o,k o g,r⟩
section
variable{prog:zN}{w:AN}{A:BN}{E:rN->tN->Prop}{s:tN}{I a:uN}{es:Array (Int×rN)}{ep:Nat}{t:SetTable}
def fg.typeIs(x:fg s.heap I a v i n ep):s.TypeIs (.ref I) "set_iterator":=by obtain⟨o,g,r,_⟩:=x;exact⟨o,g,r⟩
def XF(g:Xg s.heap a es ep t)(r:t.fits es.size=wN)(h:Q (!w.params.followText "set-order"&&(!t.plain&&decide (1<es.size))) s):wpAny (xN prog w) A (setDrawn a) Q E s:=by
 obtain⟨o,J,hex,O⟩:=g;refine ba (Nh J O r ?_);refine ba (ba (ip (ga ?_)));exact ga h
def oz(U:w.params.followText "set-order"=wN)(Y:Xg s.heap a es ep t)(g:t.fits es.size=wN)
  (h:Q (((iO (w.params.setOrder a ep) es)[i]?).map λe=>(e.2,slot)) s):wpAny (xN prog w) A (setNext a slot i ep) Q E s:=by
 revert Y;refine ea8 ?_;rintro o r hex J;refine ba (Nh r J g ?_);have O:∀{Q:Bool->tN->Prop},Q wN s->wpAny (xN prog w) A setsByText Q E s:=λ{Q}h=>by
  refine ba (ip (ga ?_));rw[show(⟨(xN prog w).prog,(xN prog w).w.params⟩:Setting).params.followText "set-order"=wN from U];exact h
 refine ba (O ?_);rw[va rfl,na (by simp)];refine ba (ba (Nh r J g ?_));refine ba (O ?_);exact ba (ip (ga (ga h)))
def pz{Q:Option (rN×Nat)->tN->Prop}{slot i:Nat}(g:w.params.followText "set-order"=yN)(r:(!t.plain&&decide (1<es.size))=yN)(J:t.led=wN)(O:Xg s.heap a es ep t)(U:t.fits es.size=wN)
  (h:Q (match es[SetTable.below t.place slot]?,t.place[SetTable.below t.place slot]? with
   |some (_,x),qN j=>qN (x,j+1)
   |_,_=>sN) s):wpAny (xN prog w) A (setNext a slot i ep) Q E s:=by
 revert O;refine ea8 ?_;rintro o Y hex a0;refine ba (Nh Y a0 U ?_);have b0:∀{Q:Bool->tN->Prop},Q yN s->wpAny (xN prog w) A setsByText Q E s:=λ{Q}h=>by
  refine ba (ip (ga ?_));rw[show(⟨(xN prog w).prog,(xN prog w).w.params⟩:Setting).params.followText "set-order"=yN from g];exact h
 refine ba (b0 ?_);show wpAny _ _ (if(!t.plain&&decide (1<es.size))=wN then _ else _) _ _ _;rw[r,na Vc];refine ba ?_;show wpAny _ _ (if(!t.led&&!es.isEmpty)=wN then _ else _) _ _ _;rw[J,na (by simp)];exact ga (ga h)
def Kr{o:TN}{vs:Array rN}(k:Nat)(x:rN)(g:s.heap.get? I=qN o)(r:o.data=.fields vs):(s.heap.update I (Obj.mapFields (·.setIfInBounds k x))).get? I=qN (Obj.mapFields (·.setIfInBounds k x) o):=Ki _ g (Obj.isFreed_of_fields (Lh r _))
def qz{slot slot' i:Nat}(r:fg s.heap I a (.int slot 0) i es.size ep)(Y:Xg s.heap a es ep t)(a0:t.fits es.size=wN)
  (b0:∀{c0:rN->tN->Prop}{O:Option (rN×Nat)->tN->Prop},O (qN (x,slot')) s->wpAny (xN prog w) A.in1 (setNext a slot i ep) O c0 s)
  (d0:∀h',fg h' I a (.int slot' 0) (i+1) es.size ep->Heap.SameBut I s.heap h'->Q (qN x) {s with heap:=h'}):wpAny (xN prog w) A (yO (.ref I)) Q E s:=by
 obtain⟨o,J,e0,g⟩:=id r;obtain⟨os,f0,hex,g0⟩:=id Y;refine ba (qg (Ui r.typeIs Dh (vd Dh r.typeIs Ir ?_ (Jr _))));refine ba (ga ?_);refine ba (Ek J g ?_);dsimp only;refine ba (Io f0 g0 a0 ?_);rw[na (by simp)];refine ba ?_;refine b0 ?_;refine ba (Ri J g (by simp) ?_);have U:=Kr 0 (PN (slot':Int)) J g;refine ba (Ri U (Lh g _) (by simp) ?_);have h0:=Kr (s:={s with heap:=s.heap.update I (Obj.mapFields (·.setIfInBounds 0 (PN (slot':Int))))}) 1 (PN ((i:Int)+1)) U (Lh g _);refine ga ⟨_,rfl,?_⟩;refine ga (d0 _ ⟨_,h0,(Co ..).trans ((Co ..).trans e0),?_⟩ ((Gf ..).trans (Gf ..)));rw[Lh (Lh g _)];simp[PN]
def Lr{Q:Option rN->tN->Prop}(g:A.handled=sN)(r:∀h',(∀b o,s.heap.get? b=qN o->h'.get? b=qN o)->Q sN {s with heap:=h'}):
  wpAny (xN prog w) A.in1 (newExc (.type "StopIteration") []>>=λe=>raiseNew e) (λ(fin:Fin)s'=>∃v,fin=.done (.ret v)/\wpAny (xN prog w) A (pure (qN v)) Q E s')
   (λe s'=>wpAny (xN prog w) A (do if<-isInstance e (.type "StopIteration")then pure sN else throw e) Q E s') s:=by
 refine ba ?_;refine ba (m:=firstArgMember _ _) (MO (a:=Value.none) (by first|rfl|(simp only[firstArgMember];rfl)) ?_);refine Li ?_ (by size_fits);refine ba (wpAny_handled ?_);rw[show A.in1.handled=sN from g];refine ba (ga (wpAny_throw ?_));refine ba (Wm ⟨_,yb _ rfl,rfl⟩ isSubtype_stop ?_);exact ga (r _ λb o e=>Pa _ (Pa _ e))
def rz{slot i:Nat}(U:A.handled=sN)(g:fg s.heap I a (.int slot 0) i es.size ep)(Y:Xg s.heap a es ep t)(a0:t.fits es.size=wN)
  (b0:∀{c0:rN->tN->Prop}{r:Option (rN×Nat)->tN->Prop},r sN s->wpAny (xN prog w) A.in1 (setNext a slot i ep) r c0 s)
  (d0:∀h',(∀b o,b≠I->s.heap.get? b=qN o->h'.get? b=qN o)->Q sN {s with heap:=h'}):wpAny (xN prog w) A (yO (.ref I)) Q E s:=by
 obtain⟨o,J,h0,O⟩:=id g;obtain⟨os,e0,hex,f0⟩:=id Y;refine ba (qg (Ui g.typeIs Dh (vd Dh g.typeIs Ir ?_ (Jr _))));refine ba (ga ?_);refine ba (Ek J O ?_);dsimp only;refine ba (Io e0 f0 a0 ?_);rw[na (by simp)];refine ba ?_;refine b0 ?_;refine ba (Ri J O (by simp) ?_);exact Lr U λh' k=>d0 h' λb o g0 e=>k b o ((Jg _ _ (lc g0)).trans e)
def YF{r:List Nat}(J:fg s.heap I a (.ref T) i es.size ep)(b0:Xg s.heap a es ep t)(U:t.fits es.size=wN)
 (c0:s.heap.get? T=qN d0)(e0:d0.data=.seq (r.map λ(k:Nat)=>PN k).toArray c)(f0:r[i]?=qN p)(g0:es[p]?=qN e)
    (h0:∀h',fg h' I a (.ref T) (i+1) es.size ep->Heap.SameBut I s.heap h'->Q (qN e.2) {s with heap:=h'}):wpAny (xN prog w) A (yO (.ref I)) Q E s:=by
  obtain⟨o,O,i0,g⟩:=id J;obtain⟨os,Y,hex,a0⟩:=id b0;refine ba (qg (Ui J.typeIs Dh (vd Dh J.typeIs Ir ?_ (Jr _))));refine ba (ga ?_);refine ba (Ek O g ?_);dsimp only;refine ba (Io Y a0 U ?_);rw[na (by simp)];refine ba (Ff c0 e0 ?_);dsimp only;have j0:(r.map λ(k:Nat)=>PN k).toArray[(i:Int).toNat]?=qN (.int p 0):=by
    rw[mh,List.getElem?_toArray,lb,f0];rfl
  rw[j0];refine ba (ba (Nh Y a0 U ?_));dsimp only;rw[mh,mh,na (by simp),g0];refine ga ?_;refine ba (Ri O g (by simp) ?_);have k0:=Kr 1 (PN ((i:Int)+1)) O g;refine ga ⟨_,rfl,?_⟩;refine ga (h0 _ ⟨_,k0,(Co ..).trans i0,?_⟩ (Gf ..));rw[Lh g];simp[PN]
def ZF{r:List Nat}(Y:A.handled=sN)(J:fg s.heap I a (.ref T) i es.size ep)(a0:Xg s.heap a es ep t)(b0:t.fits es.size=wN)
 (c0:s.heap.get? T=qN d0)(e0:d0.data=.seq (r.map λ(k:Nat)=>PN k).toArray c)(f0:r[i]?=sN)
    (g0:∀h',(∀b o,b≠I->s.heap.get? b=qN o->h'.get? b=qN o)->Q sN {s with heap:=h'}):wpAny (xN prog w) A (yO (.ref I)) Q E s:=by
  obtain⟨o,O,l0,g⟩:=id J;obtain⟨os,h0,hex,i0⟩:=id a0;refine ba (qg (Ui J.typeIs Dh (vd Dh J.typeIs Ir ?_ (Jr _))));refine ba (ga ?_);refine ba (Ek O g ?_);dsimp only;refine ba (Io h0 i0 b0 ?_);rw[na (by simp)];refine ba (Ff c0 e0 ?_);dsimp only;have j0:(r.map λ(k:Nat)=>PN k).toArray[(i:Int).toNat]?=sN:=by
    rw[mh,List.getElem?_toArray,lb,f0];rfl
  rw[j0];refine ba (Ri O g (by simp) ?_);have k0:=Kr 0 (PN 0) O g;refine ba (Ri k0 (Lh g _) (by simp) ?_);refine Lr Y λh' k=>g0 h' λb o U e=>k b o ?_
  exact(Jg _ _ (lc U)).trans ((Jg _ _ (lc U)).trans e)
def wv(g:fg s.heap I a v i n ep)(h:Q (.ref I) s):wpAny (xN prog w) A (zO (.ref I)) Q E s:=by
 refine Oo g.typeIs mz (vd mz g.typeIs UF ?_ (WF _));exact ga (nx14 _ rfl ("set_iterator") _ g.typeIs Dh.lookup h)
def Zk(ms:List rN)(i:Nat)(v:rN):Prop:=ms[i]?=qN v
def aG(U:w.params.followText "set-order"=wN)(a0:A.handled=sN)(b0:a≠I)(g:t.fits es.size=wN):
  Walks prog w A I [I,a] [I] es.size (Zk ((iO (w.params.setOrder a ep) es).toList.map Prod.snd)) (λi h=>fg h I a (.int 0 0) i es.size ep/\Xg h a es ep t)where
 sub:=by(intros;simp_all)
 frame:=λ_ _ _ st e0=>⟨st.1.keep (by grind),st.2.keep (by grind)⟩
 item:=λi s Q E f0 st r=>by
  have O:=vv (w.params.setOrder a ep) es;have hsz:(iO (w.params.setOrder a ep) es).size=es.size:=by rw[<-Dc,O.length_eq,Dc]
  have J:(iO (w.params.setOrder a ep) es)[i]?=qN (iO (w.params.setOrder a ep) es)[i]:=by simp
  refine qz (slot':=0) st.1 st.2 g (λh=>oz U st.2 g (by rw[J];exact h)) λh' c0 Y=>r _ h' s.toks (show(_:List rN)[i]?=_ by rw[lb,Kd,J];rfl) ⟨c0,st.2.keep λo e=>(Y.2 _ b0).trans e⟩ λb o d0 e=>(Y.2 b (by simpa using d0)).trans e
 done:=λs Q E st r=>by
  have O:=vv (w.params.setOrder a ep) es;have hsz:(iO (w.params.setOrder a ep) es).size=es.size:=by rw[<-Dc,O.length_eq,Dc]
  have J:(iO (w.params.setOrder a ep) es)[es.size]?=sN:=by simp_all
  exact rz a0 st.1 st.2 g (λh=>oz U st.2 g (by rw[J];exact h)) (by(intros;simp_all))
 self:=λ_ _ _ _ st r=>wv st.1 r
def bG(U:w.params.followText "set-order"=yN)(Y:(!t.plain&&decide (1<es.size))=yN)(a0:t.led=wN)(b0:wc t)(i0:t.place.size=es.size)(d0:A.handled=sN)(e0:a≠I)(r:t.fits es.size=wN):
  Walks prog w A I [I,a] [I] es.size (Zk (es.toList.map Prod.snd)) (λi h=>fg h I a (.int (Hr t.place i) 0) i es.size ep/\Xg h a es ep t)where
 sub:=λb g=>by simp_all
 frame:=λ_ _ _ st j0=>⟨st.1.keep (by grind),st.2.keep (by grind)⟩
 item:=λi s Q E k0 st J=>by
  have g:=lz b0.up (i:=i) (by lia);have O:es[i]?=qN es[i]:=by simp
  have f0:t.place[i]?=qN (t.place[i]'(by simp_all)):=by simp
  have g0:t.place[i]'(by lia)+1=Hr t.place (i+1):=by
   show _=t.place.getD i 0+1;simp[Array.getD,show i<t.place.size by lia]
  refine qz (slot':=Hr t.place (i+1)) st.1 st.2 r (λh=>pz U Y a0 st.2 r (by rw[g,O,f0];dsimp only;rw[g0];exact h)) λh' h0 c0=>J _ h' s.toks (show(_:List rN)[i]?=_ by rw[lb,Kd,O];rfl) ⟨h0,st.2.keep λo e=>(c0.2 _ e0).trans e⟩ λb o g e=>(c0.2 b (by simp_all)).trans e
 done:=λs Q E st J=>by
  have g:=lz b0.up (i:=es.size) (by simp_all);have O:es[es.size]?=sN:=by simp_all
  exact rz d0 st.1 st.2 r (λh=>pz U Y a0 st.2 r (by rw[g,O];exact h)) (by grind)
 self:=λ_ _ _ _ st J=>wv st.1 J
def cG(h:EN)(T:uN)(g:List Nat):Prop:=∃o c,h.get? T=qN o/\o.data=.seq (g.map λ(k:Nat)=>PN k).toArray c
def Wp(es:Array (Int×rN))(g:List Nat):List rN:=g.map λp=>(es.getD p (0,.none)).2
def dG(g:r.Perm (List.range es.size)):(Wp es r).Perm (es.toList.map Prod.snd):=by
 refine(g.map _).trans ?_;have:(List.range es.size).map (λp=>(es.getD p (0,.none)).2)=es.toList.map Prod.snd:=by
  apply List.ext_getElem
  ·simp
  ·intro i J U;have O:i<es.size:=by simpa using J
   simp[Array.getD,O]
 rw[this]
def eG(Y:g.Perm (List.range es.size))(d0:A.handled=sN)(e0:a≠I)(f0:T≠I)(a0:t.fits es.size=wN):
  Walks prog w A I [I,a,T] [I] es.size (Zk (Wp es g)) (λi h=>fg h I a (.ref T) i es.size ep/\Xg h a es ep t/\cG h T g)where
 sub:=by(intros;simp_all)
 frame:=λ_ _ _ st g0=>⟨st.1.keep (by grind),st.2.1.keep (by grind),by obtain⟨o,c,r,J⟩:=st.2.2;exact nx4 o c (g0 T (by simp) o r) J⟩
 item:=λi s Q E l0 st O=>by
  have h0:g.length=es.size:=by rw[Y.length_eq,Ef]
  have b0:g[i]?=qN (g[i]'(by simp_all)):=by simp
  have c0:g[i]'(by lia)<es.size:=Ye.mp (by grind);have i0:es[g[i]'(by lia)]?=qN (es[g[i]'(by lia)]'c0):=by simp
  obtain⟨o,c,r,J⟩:=id st.2.2;refine YF st.1 st.2.1 a0 r J b0 i0 λh' j0 U=>O _ h' s.toks ?_ ⟨j0,st.2.1.keep λo e=>(U.2 _ e0).trans e,nx4 o c ((U.2 _ f0).trans r) J⟩ λb o k0 e=>(U.2 b (by simpa using k0)).trans e
  unfold Zk Wp;rw[lb,b0];simp[Array.getD,c0]
 done:=λs Q E st O=>by
  have h0:g.length=es.size:=by rw[Y.length_eq,Ef]
  obtain⟨o,c,r,J⟩:=id st.2.2;exact ZF d0 st.1 st.2.1 a0 r J (by simp_all) (by grind)
 self:=λ_ _ _ _ st O=>wv st.1 O
def fG(h:t.fits n=wN):t.place.size=n:=by
 unfold SetTable.fits at h
 simp_all
inductive ej(h:EN)(a:uN)(vs:List rN)(led:Bool):Prop|mk(o es ep t)(_:h.get? a=qN o)(_:o.ExactSet)(_:o.data=.set es ep t)(_:t.fits es.size=wN)(_:wc t)(_:t.led=led)(_:es.size<=vN)(_:es.toList.map Prod.snd=vs)
def ej.keep(x:ej h a vs led)(k:∀o,h.get? a=qN o->h'.get? a=qN o):ej h' a vs led:=by
 obtain⟨o,es,ep,t,g,r,J,O,U,Y,a0,b0⟩:=x;exact⟨o,es,ep,t,k o g,r,J,O,U,Y,a0,b0⟩
def gG(b0:A.handled=sN)(m0:ej s.heap a vs led)(n0:led=!w.params.followText "set-order")
  (h:∀(I:uN)(h':EN)(d:Drawn)(fp:List uN)(St:Nat->EN->Prop)(ms:List rN),s.heap.objs.size<=I->(∀b∈fp,b=a\/s.heap.objs.size<=b)->(∀b o,s.heap.get? b=qN o->h'.get? b=qN o)->ms.Perm vs->
   Walks prog w A I fp [I] ms.length (Zk ms) St->St 0 h'->Q (.ref I) {s with heap:=h',drawn:=d}):wpAny (xN prog w) A (zO (.ref a)) Q E s:=by
 obtain⟨o,es,ep,t,r,hex,J,g,o0,p0,q0,rfl⟩:=m0;have e0:s.TypeIs (.ref a) "set":=⟨o,r,hex.1⟩;have f0:a<s.heap.objs.size:=Na r;refine Oo e0 F.slot_set_iter (vd F.slot_set_iter e0 VF ?_ (F.args_set_iter_1 _));unfold Builtin.«frozenset.__iter__»Builtin.Frozenset.slot0 slotArgs;simp only[List.isEmpty_nil,Bool.not_true,Mg,↓reduceIte,bind_assoc,Ak,Jq];unfold Builtin.Frozenset.addrOf Builtin.Frozenset.sizeOf;refine ba (ga ?_);try dsimp only
 refine ba (ga ?_);refine ba (ba (Io r J g (ga ?_)));refine ba (XF ⟨o,r,hex,J⟩ g ?_);have r0:=fG g;have g0:(es.toList.map Prod.snd).length=es.size:=by simp
 have h0:∀oI:TN,∀b Y,s.heap.get? b=qN Y->(s.heap.push oI).get? b=qN Y:=λoI b Y e=>Pa _ e
 have i0:∀b∈[s.heap.objs.size,a],b=a\/s.heap.objs.size<=b:=by simp
 cases c0:w.params.followText "set-order"with
 |true=>
  rw[show(!wN&&(!t.plain&&decide (1<es.size)))=yN from rfl,na Vc];refine ba (ga ?_);refine ba (mP r J g ?_);refine ba (Li ?_);refine ga (nx14 _ rfl ("set_iterator") _ ⟨_,yb _ rfl,rfl⟩ Dh.lookup ?_);have j0:=vv (w.params.setOrder a ep) es;have O:=aG (prog:=prog) (A:=A) (I:=s.heap.objs.size) (a:=a) (ep:=ep) c0 b0 (nb f0) g;have U:((iO (w.params.setOrder a ep) es).toList.map Prod.snd).length=es.size:=by rw[ua,j0.length_eq,Dc]
  rw[<-U]at O;exact h s.heap.objs.size _ s.drawn _ _ _ (wa _) i0 (h0 _) (j0.map Prod.snd) O ⟨⟨_,yb _ rfl,rfl,by rw[U];rfl⟩,⟨o,Pa _ r,hex,J⟩⟩
 |false=>
  have s0:t.led=wN:=by rw[p0,n0,c0];rfl
  cases t0:(!t.plain&&decide (1<es.size))with
  |true=>
   rw[va (by rfl)];refine ba (TF _ _ _ _ (by simp) λa0 d d0=>?_);have k0:a0.length=es.size:=by rw[d0.length_eq,Ef]
   refine ba (Mo ?_ (by rw[ua,k0];exact q0));have l0:(s.heap.push {cls:=.type "tuple",data:=.seq (a0.map λ(k:Nat)=>PN k).toArray}).get? a=qN o:=by simp_all
   refine ba (mP l0 J g ?_);refine ba (Li ?_);refine ga (nx14 _ rfl ("set_iterator") _ ⟨_,yb _ rfl,rfl⟩ Dh.lookup ?_);have O:=eG (prog:=prog) (w:=w) (A:=A) (I:=(s.heap.push {cls:=.type "tuple",data:=.seq (a0.map λ(k:Nat)=>PN k).toArray}).objs.size) (a:=a) (ep:=ep) (T:=s.heap.objs.size) d0 b0 (by rw[Hf];exact nb (by lia)) (by rw[Hf];exact nb (by grind)) g;have U:(Wp es a0).length=es.size:=by rw[Wp,ua,k0]
   rw[<-U]at O;refine h _ _ d _ _ _ (by rw[Hf];exact Lg _) (λb u0=>?_) (λb Y e=>Pa _ (by simp_all)) (dG d0) O ⟨⟨_,yb _ rfl,rfl,by rw[U];rfl⟩,⟨o,Pa _ l0,hex,J⟩,nx4 _ 0 (Pa _ (yb _ rfl)) rfl⟩;rcases rc.mp u0 with z|z
   ·exact .inr (by rw[z,Hf];exact Lg _)
   ·rcases rc.mp z with z|z
    ·exact .inl z
    ·exact .inr (by rw[cc.mp z];exact wa _)
  |false=>
   rw[na (by simp)];refine ba (ga ?_);refine ba (mP r J g ?_);refine ba (Li ?_);refine ga (nx14 _ rfl ("set_iterator") _ ⟨_,yb _ rfl,rfl⟩ Dh.lookup ?_);have O:=bG (prog:=prog) (A:=A) (I:=s.heap.objs.size) (a:=a) (ep:=ep) c0 t0 s0 o0 r0 b0 (nb f0) g;rw[<-g0]at O;exact h s.heap.objs.size _ s.drawn _ _ _ (wa _) i0 (h0 _) (.refl _) O ⟨⟨_,yb _ rfl,rfl,by rw[g0];rfl⟩,⟨o,Pa _ r,hex,J⟩⟩
end
section
variable{prog:zN}{w:AN}{A:BN}{E:rN->tN->Prop}{s:tN}{a:uN}{vs:List rN}{led:Bool}
def ej.typeIs(x:ej s.heap a vs led):s.TypeIs (.ref a) "set":=by obtain⟨o,_,_,_,g,hex,_,_,_,_,_,_⟩:=x;exact⟨o,g,hex.1⟩
def ej.Ab(x:ej h a vs led):vs.length<=vN:=by
 obtain⟨o,es,ep,t,_,_,_,_,_,_,g,rfl⟩:=x;simpa using g
def tz(h:MP (Zk ms) acc ms.length):ms=acc.toList:=by
 apply List.ext_getElem?;intro i;cases g:acc.toList[i]? with
 |none=>
  rw[gu,Dc,h.1]at g;rw[List.getElem?_eq_none g]
 |some v=>
  rw[Kd]at g;exact h.2 i v g
def hG(g:s.TypeIs (.ref a) "set")(h:Q yN s):wpAny (xN prog w) A (Builtin.List.listLengthHint (.ref a)) Q E s:=by
 unfold Builtin.List.listLengthHint;refine ba (Uf g F.slot_set_len.lookup ?_);generalize r:("set.__len__":String)=J;subst r;refine ba (Wm (b:=wN) g (by rw[WO];kernel_rfl) ?_);exact ba (oh g (ga h))
def iG{R:lP->tN->Prop}(h0:A.handled=sN)(J:ej s.heap a vs led)(i0:led=!w.params.followText "set-order"){L:uN}(j0:L≠a){res:rN}{k0:Nat}(b0:s.heap.get? L=qN {cls:=.type "list",data:=.seq #[] k0})
  (l0:∀(h':EN)(O:Nat)(d:Drawn)(acc:Array rN)(c:Nat)(ms:List rN),(∀b o,b≠L->s.heap.get? b=qN o->h'.get? b=qN o)->h'.get? L=qN {cls:=.type "list",dict:=sN,data:=.seq acc c,slots:=#[]}->ms.Perm vs->MP (Zk ms) acc ms.length->R (.ok (.ret res)) {s with heap:=h',toks:=O,drawn:=d}):
  wpAny (xN prog w) A.in1 (Builtin.List.listExtendWith (.ref L) (.ref a) res) (λfin s'=>match fin with
   |.done f=>R (.ok f) s'
   |.again c0=>c0.quiet=wN/\codeAny (xN prog w) A c0 R s') (λe s'=>R (.error e) s') s:=by
 have x0:L<s.heap.objs.size:=Na b0;unfold Builtin.List.listExtendWith;refine ba (oh (T:="set") J.typeIs ?_);have m0:Builtin.List.listSameRef (.ref L) (.ref a)=yN:=by simp[Builtin.List.listSameRef,j0]
 have n0:(Value.type "set"==Value.type "list")=yN:=by decide
 have o0:(Value.type "set"==Value.type "tuple")=yN:=by decide
 simp only[m0,n0,o0,Bool.or_false,Mg,Be];refine ba (gG (A:=A.in1) h0 J i0 λI h' d fp St ms p0 y0 d0 e0 W st=>?_);have q0:ms.length<=vN:=by
  rw[e0.length_eq];exact J.Ab
 have r0:L∉fp:=by grind
 have key:∀(g:EN)(a0 O:Nat),St 0 g->(∀b o,b≠L->s.heap.get? b=qN o->g.get? b=qN o)->g.get? L=qN {cls:=.type "list",data:=.seq #[] a0}->
   codeAny (xN prog w) A (.builtin "list.extend.loop" ⟨[.ref L,.ref I,res],[]⟩) R {s with heap:=g,toks:=O,drawn:=d}:=λg a0 O s0 t0 U=>by
  refine codeAny_extend_loopS W.toS q0 L r0 res ms.length 0 _ #[] a0 rfl (Va _) s0 U (ItemsOf.nil _) λf0 acc u0 g0 Y v0=>?_
  rw[Moved.eq_with g0];refine l0 f0.heap f0.toks d acc u0 ms (λb o r e=>g0.heap b o (λz=>?_) (t0 b o r e)) Y e0 v0;rcases rc.mp z with e'|e'
  ·exact r e'
  ·have:=Na e;rw[cc.mp e']at this;exact absurd p0 (by lia)
 have U:=d0 _ _ b0;refine ba (Rc (hG (J.keep λo e=>d0 _ _ e).typeIs ?_));refine Dk (λ_=>?_) (λ_=>ga ⟨Te F.plain_extend_loop _,by contradiction⟩);refine ba (Ue (ba ?_));show wpAny _ _ (updateSeq L (·.push .none)>>=λ_=>updateSeq L (·.pop)) _ _ _;refine ba (zj U rfl ?_);have Y:=Ki (Obj.mapSeq (·.push Value.none)) U rfl;refine zj (hz:=by seq_fits) Y rfl ?_;have w0:=Ki (Obj.mapSeq (·.pop)) Y rfl;have z0:∀b o,b≠L->h'.get? b=qN o->((h'.update L (Obj.mapSeq (·.push Value.none))).update L (Obj.mapSeq (·.pop))).get? b=qN o:=λb o r e=>(Jg _ _ (lc r)).trans ((Jg _ _ (lc r)).trans e)
 exact ga ⟨Te F.plain_extend_loop _,key _ _ _ (W.frame 0 _ _ st (by grind)) (by(intros;simp_all)) w0⟩
def jG(Y:A.handled=sN)(U:ej s.heap a vs led)(a0:led=!w.params.followText "set-order")
  (h:∀(h':EN)(g:Nat)(d:Drawn)(ms:List rN),(∀b o,s.heap.get? b=qN o->h'.get? b=qN o)->ms.Perm vs->R ms {s with heap:=h',toks:=g,drawn:=d}):
  wpAny (xN prog w) A (collect (.ref a)) R E s:=by
 have b0:a<s.heap.objs.size:=by obtain⟨o,_,_,_,c0,_⟩:=U;exact Na c0
 unfold collect;refine ba (wpAny_runValue (og PyProof.Rows.entry_proto_collect' ?_));rw[Th F.plain_proto_collect _];show wpAny _ A.in1 (newList []>>=λl=>again (.builtin "list.__iadd__" ⟨[l,.ref a],[]⟩)) _ _ s;refine ba (Li (ga ⟨Te F.plain_list_iadd _,og PyProof.Rows.entry_list_iadd' ?_⟩));rw[Th F.plain_list_iadd _];have d0:(s.heap.push {cls:=.type "list",data:=.seq ([]:List rN).toArray}).get? s.heap.objs.size=qN {cls:=.type "list",data:=.seq #[]}:=yb _ rfl;show wpAny _ A.in1 (Builtin.List.listExtendWith (.ref s.heap.objs.size) (.ref a) (.ref s.heap.objs.size)) _ _ _;have key:=iG (prog:=prog) (A:=A) (s:={s with heap:=s.heap.push {cls:=.type "list",data:=.seq ([]:List rN).toArray}}) (L:=s.heap.objs.size) (res:=.ref s.heap.objs.size)
  (R:=λ(q:lP)(s':tN)=>∃(h':EN)(g:Nat)(d:Drawn)(acc:Array rN)(c:Nat)(ms:List rN),q=.ok (.ret (.ref s.heap.objs.size))/\s'={s with heap:=h',toks:=g,drawn:=d}/\(∀b o,s.heap.get? b=qN o->h'.get? b=qN o)/\
   h'.get? s.heap.objs.size=qN {cls:=.type "list",dict:=sN,data:=.seq acc c,slots:=#[]}/\ms.Perm vs/\MP (Zk ms) acc ms.length)
  Y (U.keep λo e=>Pa _ e) a0 (Mi b0) d0
  (λh' g d acc c ms k r J O=>nx19 h' g d acc c ms rfl rfl (λb o e=>k b o (nb (Na e)) (Pa _ e)) r ⟨J,O⟩)
 refine zd key (λfin s' x=>?_) λe s' x=>?_
 ·cases fin with
  |done f=>
   obtain⟨h',g,d,acc,c,ms,e,rfl,k,r,J,O⟩:=x;cases e;show wpAny _ A (load s.heap.objs.size>>=_) _ _ _;exact ba (wpAny_load r (ga (tz O▸h h' g d ms k J)))
  |again f0=>
   refine⟨x.1,Kl x.2 λq g0 y=>?_⟩;obtain⟨h',g,d,acc,c,ms,rfl,rfl,k,r,J,O⟩:=y;show wpAny _ A (load s.heap.objs.size>>=_) _ _ _;exact ba (wpAny_load r (ga (tz O▸h h' g d ms k J)))
 ·revert x;refine ea4 ?_;rintro _ _;refine ea4 ?_;rintro _ _;refine eaA ?_;rintro _ _ e0 _;cases e0
end
def kG{g:L2.St}(d:Drawn)(I:Inv X r g H s):Inv X r g H {s with drawn:=d}:=⟨I.ok,I.os,I.bare,I.base,I.loc,I.cell,I.free,I.ub,I.pin,I.ya,I.len⟩
def lG:gP (.type "list") "keys"=pure sN:=by rw[Eo,Uo];exact(by kernel_rfl)
def uz:entryFor table "dict.update.loop"=qN Builtin.«dict.update.loop»:=entryFor_of_tree (by kernel_rfl)
def vz:plainId "dict.update.loop"=wN:=by decide+kernel
section
variable{prog:zN}{w:AN}{A:BN}{E:rN->tN->Prop}{s:tN}
def mG(c0:PlainL s.heap l d0)(e0:A.handled=sN)(h:∀h' g,(∀b o,s.heap.get? b=qN o->h'.get? b=qN o)->Q sN {s with heap:=h',toks:=g}):wpAny (xN prog w) A (getAttr? (.ref l) "keys") Q E s:=by
 revert c0;refine eaC ?_;rintro o n r J O U;obtain⟨c,j0,k0,f0⟩:=o;simp only at J U O;subst J U O;obtain⟨g0,h0,d,g,os⟩:=s;have Y:∀a0,(⟨g0,h0,d,a0,os⟩:tN).TypeIs (.ref l) "list":=λ_=>⟨_,r,rfl⟩
 have l0:=sub_AttributeError;have m0:=su.lookup;have n0:=su.bind (.ref l);have o0:=am_list_getattr_none;have i0:(["__module__","__name__","__qualname__","__doc__","__annotations__"]:List Str).contains "keys"=yN:=by decide+kernel
 unfold getAttr? getAttrBy? getAttrBy;repeat(any_goals(first|assumption|exact Y _|((with_reducible show wpAny _ _ (call (Value.builtin "list.__getattribute__") _ _) _ _ _);refine kP su (Y _) am_entry_list_getattribute (F.args_list_getattribute_2 _ _) (meets_getattribute_miss_list l d0 n f0 "keys" _ lG i0 (by decide+kernel)) ⟨r,e0,λh' a0 e b0=>?_⟩)|wp_step))
 refine ea4 ?_ b0.there;rintro t' p0 q0;unfold getattributeRaised;repeat(any_goals(first|assumption|wp_step))
 exact h _ _ b0.keeps
def nG{K:Type}[DecidableEq K](vs:List (K×rN))(k:K)(v:rN):(zP vs k v).length<=vs.length+1:=by
 unfold zP;split<;>simp
def mm{K:Type}[DecidableEq K](vs:List (K×rN))(g:List (K×rN)):List (K×rN):=g.foldl (λa q=>zP a q.1 q.2) vs
def oG{us:List rN}{G:Nat->EN->Prop}(j0:A.handled=sN)(k0:l≠I)(l0:D≠I)(m0:D≠l)
  (keep:∀i h h',(∀b o,(∀fs,o.data≠.fields fs)->h.get? b=qN o->h'.get? b=qN o)->G i h->G i h')
  (put:∀(i:Nat)u(s:tN),us[i]?=qN u->G i s.heap->∃t J O,u=.ref t/\s.heap.IsTuple t #[J,O]/\∀{Q:Unit->tN->Prop}{E:rN->tN->Prop},(∀h g,(∀b,b≠D->h.get? b=s.heap.get? b)->G (i+1) h->Q () {s with heap:=h,toks:=g})->wpAny (xN prog w) A.in1 (dictSet D J O) Q E s):
  ∀(k i:Nat)(s:tN),us.length-i=k->i<=us.length->s.heap.IsListIter I l i->s.heap.IsList l us.toArray->G i s.heap->
   (∀h' g,(∀b o,b≠I->b≠D->s.heap.get? b=qN o->h'.get? b=qN o)->G us.length h'->R (.ok (.ret .none)) {s with heap:=h',toks:=g})->
   codeAny (xN prog w) A (.builtin "dict.update.loop" ⟨[.ref D,.ref I,PN i,.none],[]⟩) R s:=by
 have W:=Walks.list (prog:=prog) (w:=w) (A:=A.in1) j0 I l k0 us.toArray;have n0:us.toArray.size=us.length:=by simp
 have b0:∀{h:EN}{i:Nat},h.IsListIter I l i->∀b o,(∀fs,o.data≠.fields fs)->h.get? b=qN o->b≠I:=by
  rintro h i⟨J0,o0,K0,p0⟩b o n e rfl;rw[o0]at e;cases e;exact n _ p0
 intro k;induction k with
 |zero=>
  intro i s q0 r0 r c0 U Y;obtain rfl:i=us.length:=by lia
  refine og uz ?_;refine ba (W.done s _ _ (by simp[*]) λh' g s0=>?_);exact ba (ga (ga (Y h' g (by grind) (keep _ _ _ (λb o n e=>s0 b o (by simpa using b0 r b o n e) e) U))))
 |succ k t0=>
  intro i s q0 r0 r c0 U Y;have d0:i<us.length:=by lia
  refine og uz ?_;refine ba (W.item i s _ _ (by rw[n0];exact d0) ⟨r,c0⟩ λv u0 v0 w0 e0 f0=>?_);refine ebA ?_ (put i v {s with heap:=u0,toks:=v0} (by simpa using w0) (keep _ _ _ (λb o n e=>f0 b o (by simpa using b0 r b o n e) e) U));rintro t J O rfl⟨x0,g0,y0,L0,z0⟩put;refine ba (Rc ?_);refine ba (nh ?_);refine ba (oh ⟨x0,g0,y0⟩ ?_);refine ba (Ff g0 z0 ?_);refine ga ?_;refine Rc (put λA0 B0 a0 C0=>?_);refine ga ⟨Te vz _,?_⟩;have M0:PN ((i:Int)+1)=PN ((i+1:Nat):Int):=by rw[Int.natCast_add];rfl
  exact t0 (i+1) {s with heap:=A0,toks:=B0} (by lia) d0 (e0.1.at λo e=>(a0 I l0.symm).trans e) (e0.2.at λo e=>(a0 l m0.symm).trans e) C0 λD0 F0 G0 I0=>Y D0 F0 (λb o h0 i0 e=>G0 b o h0 i0 ((a0 b i0).trans (f0 b o (by simpa using h0) e))) I0
end
inductive fj(K:W.Frag)(H:Hp):List V->List (Key×V)->Prop where
 |nil:fj K H [] []
 |cons{t:uN}{q:Key×V}{ws:List V}{ps:List (Key×V)}(h:oa K H t [kV q.1,q.2])(r:fj K H ws ps):fj K H (.ref t::ws) (q::ps)
def Uj(kvs g:List (Key×V)):List (Key×V):=g.foldl (λa q=>Gb a q.1 q.2) kvs
def pG:∀{g:List (Key×V)}{r:List (Key×rN)}{kvs:List (Key×V)}{vs:List (Key×rN)},KV g r->KV kvs vs->KV (Uj kvs g) (mm vs r):=by
 intro _ _ kvs vs h q;induction h generalizing kvs vs with
 |nil=>exact q
 |@cons p b _ _ e O J=>
  have:=KV.put q p.1 e.2;rw[show zP _ p.1 b.2=zP _ b.1 b.2 by rw[e.1]]at this;exact J this
def wz:∀(r kvs:List (Key×V)),(Uj kvs r).length<=kvs.length+r.length
 |[],kvs=>wa _
 |q::g,kvs=>by
  have J:=wz g (Gb kvs q.1 q.2);have O:=Mp kvs q.1 q.2;show(Uj (Gb kvs q.1 q.2) g).length<=kvs.length+(g.length+1);lia
def qG{c0:L2.St}(I:Inv X m0 c0 H s):∀{O:List V}{U:List (Key×V)}{g:List rN},fj X.K H O U->Ia O g->
  ∃r:List (Key×rN),KV U r/\g.length=r.length/\∀(j:Nat)u,g[j]?=qN u->∃t J q,u=.ref t/\t<s.heap.objs.size/\r[j]?=qN q/\s.heap.IsTuple t #[J,q.2]/\(Wc X.prog X.w).is q.1 J=wN:=by
 intro O U g h;induction h generalizing g with
 |nil=>rintro(_|_);exact⟨[],.nil,rfl,by(intros;simp_all)⟩
 |cons h n0 d0=>
  rintro(_|⟨e0,f0⟩);refine ea8 ?_ (d0 f0);rintro r g0 h0 i0;refine ea8 ?_ (I.tuple h);rintro g j0⟨o,Y,a0⟩_;refine ea0 ?_ (Zl j0);rintro J b0 rfl k0 l0;cases e0;refine⟨(_,b0)::r,.cons ⟨rfl,l0⟩ g0,by simp[h0],λj u e=>?_⟩;cases j with
  |zero=>
   cases e;exact nx8 _ J (_,b0) rfl (Na Y) rfl ⟨o,Y,a0.1,a0.2⟩ (Oj k0)
  |succ j=>exact i0 j u (by simpa using e)
def xz{r:L2.St}{g:List rN}{G:Nat->EN->Prop}(a0:X.calm=wN)(I:Inv X b0 r H s)(pl:PlainL s.heap a g.toArray)
  (keep:∀i h h',(∀b o,(∀fs,o.data≠.fields fs)->h.get? b=qN o->h'.get? b=qN o)->G i h->G i h')(i0:G 0 (s.heap.push {cls:=.type "dict",data:=.dict #[]}))
  (put:∀(i:Nat)u(s':tN),g[i]?=qN u->G i s'.heap->∃t c0 d0,u=.ref t/\s'.heap.IsTuple t #[c0,d0]/\∀{Q:Unit->tN->Prop}{E:rN->tN->Prop},(∀h J,(∀b,b≠s.heap.objs.size->h.get? b=s'.heap.get? b)->G (i+1) h->Q () {s' with heap:=h,toks:=J})->wpAny (xN X.prog X.w) X.A.in1.in1 (dictSet s.heap.objs.size c0 d0) Q E s')
  (fin:∀h J,(∀b o,s.heap.get? b=qN o->h.get? b=qN o)->G g.length h->EP X b0 r Q (.ref s.heap.objs.size) {s with heap:=h,toks:=J}):
  wpAny (xN X.prog X.w) X.A (call (.type "dict") [.ref a]) (EP X b0 r Q) X.xe s:=by
 have e0:a<s.heap.objs.size:=by obtain⟨_,_,e,_⟩:=pl;exact Na e
 refine callType_codes (Q₁:=λobj f0=>obj=.ref s.heap.objs.size/\f0={s with heap:=s.heap.push {cls:=.type "dict",data:=.dict #[]}}) F.kt_called_dict (F.kt_typeCall_dict_1 _) F.entry_dict_init (PySem.kt_code_dict_new _ ⟨rfl,rfl⟩) ?_;rintro obj f0⟨j0,k0⟩;subst j0 k0;have hd:=yb s.heap (o:={cls:=.type "dict",data:=.dict #[]}) rfl;refine⟨⟨_,hd,rfl⟩,F.args_dict_init_2 _ _,?_⟩;refine ba (ba (br ⟨_,hd,rfl⟩ (ga ?_)));have O:PlainL (s.heap.push {cls:=.type "dict",data:=.dict #[]}) a g.toArray:=pl.keeps λb o e=>Pa _ e
 refine ea0 ?_ (id O);rintro l0 t0 m0 n0 _;refine ba (oh ⟨l0,m0,n0⟩ ?_);refine ba (mG O (I.ok.hd a0) λg0 o0 U=>?_);have h0:=O.keeps U;refine ba (Ue (ba (Ql h0.isList ?_)));have Y:=Na (U _ _ hd);have kp:∀b o,(s.heap.push {cls:=.type "dict",data:=.dict #[]}).get? b=qN o->(g0.push {cls:=.type "list_iterator",data:=.fields #[.ref a,.int 0 0]}).get? b=qN o:=λb o e=>Pa _ (U _ _ e)
 exact ga ⟨Te vz _,oG (A:=X.A.in1) (s:={s with heap:=g0.push {cls:=.type "list_iterator",data:=.fields #[.ref a,.int 0 0]},toks:=o0}) (I.ok.hd a0) (nb (Nat.lt_trans e0 Y)) (nb Y) (Mi e0) keep put g.length 0 rfl (Va _) ⟨_,yb _ rfl,rfl,rfl⟩ (h0.isList.push _) (keep _ _ _ (λb o _ e=>kp b o e) i0) λp0 q0 r0 s0=>⟨rfl,fin p0 q0 (λb o e=>r0 b o (nb (Nat.lt_trans (Na e) Y)) (nb (Na e)) (kp b o (Pa _ e))) s0⟩⟩
def Jn{K:W.Frag}(l0:X.K=K)(m0:X.calm=wN):Kf X (.type "dict") (λxs H Q=>∃(a:uN)(d0:List V)(U:List (Key×V)),xs=[V.ref a]/\H a=qN (.lst d0)/\fj K H d0 U/\U.length<1000000/\∀p,H p=sN->Q (.ref p) (upd H p (.dK (Uj [] U)))):=by
 subst l0;intro J0 s K0 H xs us Q I Y h;revert h;refine ea2 ?_;rintro a d0 U rfl n0 o0 hz q;obtain⟨u,rfl,p0⟩:=cf Y;cases p0;refine ea8 ?_ (I.list (ca.of n0));rintro q0 r0 pl _;refine ea8 ?_ (qG I o0 r0);rintro J i0 s0 t0;have L0:=(Ck i0).symm;refine xz (G:=λi h=>h.DictOf (Wc X.prog X.w) s.heap.objs.size (mm [] (J.take i))/\(mm [] (J.take i)).length<=i/\∀(j:Nat)u,q0[j]?=qN u->∃t g q,u=.ref t/\t<s.heap.objs.size/\J[j]?=qN q/\h.IsTuple t #[g,q.2]/\(Wc X.prog X.w).is q.1 g=wN) m0 I pl ?_ ⟨Heap.DictOf.new s.heap,wa _,λj u r=>?_⟩ ?_ ?_
 ·rintro i h h' k;refine ea3 ?_;rintro⟨o,es,ep,u0,v0,w0,Y⟩e0 c0;refine⟨nx2 o es ep (k _ _ (by grind) u0) v0 w0 Y,e0,λj u r=>?_⟩;refine ea2 ?_ (c0 j u r);rintro t g q a0 O b0⟨f0,g0,c,n,d⟩h0;exact nx8 t g q a0 O b0 (nx5 f0 (k _ _ (by grind) g0) c n d) h0
 ·refine ea2 ?_ (t0 j u r);rintro t g q a0 O b0⟨f0,g0,Y⟩h0;exact nx8 t g q a0 O b0 ⟨f0,Pa _ g0,Y⟩ h0
 ·rintro i u s' r;refine ea3 ?_;rintro dd e0 c0;have M0:=(rb.mp r).1;refine ea2 ?_ (c0 i u r);rintro t g q rfl N0 x0 y0 j0;have e:mm [] (J.take (i+1))=zP (mm [] (J.take i)) q.1 q.2:=by rw[gc,x0];simp[mm]
  refine nx16 t g q.2 rfl y0 λk=>?_;unfold dictSet;try with_reducible refine Rc ?_
  refine ba ((Wc X.prog X.w).pyHash j0 (wpAny_dictSetHashed_pairs (hsz:=gb e0 (gb (show i<=1000000 by lia) (by decide))) j0 dd λz0 A0 k0=>k z0 _ k0.2 ⟨?_,?_,λj u r=>?_⟩))
  ·rw[e];exact A0
  ·have:=nG (mm [] (J.take i)) q.1 q.2;rw[e];lia
  ·refine ea2 ?_ (c0 j u r);rintro t' B0 C0 a0 O b0⟨D0,F0,G0⟩I0;exact nx8 t' B0 C0 a0 O b0 ⟨D0,(k0.2 _ (nb O)).trans F0,G0⟩ I0
 ·rintro h O0 kp⟨dd,-⟩;rw[s0,vc]at dd;exact⟨.ref _,_,I.laid kp (wa _) (Vu (gb (wz U []) (by simp only[Ak,Nm];exact gb (vj hz) (by decide))) (lp.mpr (lc (nb I.big))) (pG i0 .nil) dd),rfl,q _ (I.ya.fresh (wa _))⟩
end My
namespace My
open PySem PySem.Spec PyProof.Rows L2
def Xp(d:uN)(ob:TN)(kvs:List (Key×V)):It:=
 ⟨λi H=>H d=qN (.Hb ob (.dK kvs))/\i<kvs.length,λi H v H'=>H'=H/\∃k x,kvs[i]?=qN (k,x)/\v=kV k,λi H=>H d=qN (.Hb ob (.dK kvs))/\i=kvs.length⟩
section
variable{P:zN}{w:AN}{K:W.Frag}
def rG(d r ep:uN)(ob:TN)(kvs:List (Key×V))(vs:List (Key×rN))(f0:KV kvs vs)(g0:∀h:EN,h.get? d=qN ob->h.DictAt (Wc P w) d vs ep):
  Yi P w K z0 (Xp d ob kvs) [r] r (λi h=>h.IsKeyIter r d i vs.length ep)where
 mem:=by simp
 obj:=λi h g c J=>by
  rw[cc.mp J];revert g;refine ea8 ?_;rintro o h0 _ dd
  grind
 keep:=λi h h' g k=>g.at (by grind)
 item:=by
  intro X i0 j0 k0 J i n0 s o0 H E I O st U;obtain⟨hd,g⟩:=U;obtain⟨Y,_⟩:=(I.ya d _ hd);obtain⟨⟨k,x⟩,l0⟩:∃q,kvs[i]?=qN q:=⟨_,Wb g⟩;obtain⟨⟨A0,u⟩,p0,q0,B0⟩:=Lb f0 l0;cases(q0);refine wpAny_pyNext_dict_item st (g0 _ Y) p0 λkey h' r0 m0 s0=>?_
  refine ea6 ?_ (O r (by simp));rintro a0 b0 t0 c0 d0 e0;refine ea8 ?_ (id m0);rintro C0 u0 v0 w0;exact⟨key,rfl,yp u0 v0 w0 (by decide) (nx15 (kV k) H (I.turned (λb o x0 h0=>(s0.2 b x0).trans h0) a0 b0 c0 d0 e0) (vF r0) ⟨rfl,nx4 k x l0 rfl⟩ m0 λc D0=>by grind)⟩
 done:=by
  intro X i0 j0 k0 J i n0 s o0 H E I O st U;subst i0 j0 k0;obtain⟨hd,g⟩:=U;obtain⟨Y,_⟩:=(show xc X.prog X.w H s.heap d (.Hb ob (.dK kvs))from I.ya d _ hd);have y0:vs[i]?=sN:=gu.mpr (by rw[<-f0.length];lia);refine wpAny_pyNext_dict_end (I.ok.hd J) st (g0 _ Y) y0 λh' k=>⟨rfl,?_⟩
  refine ea6 ?_ (O r (by simp));rintro a0 b0 t0 c0 d0 e0;exact I.turned ‹_› a0 b0 c0 d0 e0
 self:=λ_ _ _ _ _ st h=>LO st h
end
def sG{U:TG}{Y:TS}{D:Wf}(Pv:Nat->L2.St->Hp->Prop)(h0:Pv 0 g H)(a0:∀i g H,Pv i g H->H d=qN (.Hb ob (.dK kvs)))
  (d0:∀i k x g H,kvs[i]?=qN (k,x)->Pv i g H->U (kV k) g H λr J=>Y {D with nx:=Pv (i+1),ct:=Pv (i+1),bk:=D.nx} r J)(e0:∀g H,Pv kvs.length g H->D.nx g H):
  ∃W:Nat->Nat->L2.St->Hp->Prop,(∃m,W 0 m g H)/\∀i m g H,W i m g H->
   ((Xp d ob kvs).stop i H/\D.nx g H)\/((Xp d ob kvs).go i H/\∃N:L2.St->Hp->Prop,(∀O H',N O H'->∃b0,b0<m/\W (i+1) b0 O H')/\∀x H',(Xp d ob kvs).af i H x H'->U x g H' λr J=>Y {D with nx:=N,ct:=N,bk:=D.nx} r J):=by
 refine⟨λi m g H=>m=kvs.length-i/\i<=kvs.length/\Pv i g H,by grind,?_⟩;rintro i m g H;refine ea3 ?_;rintro rfl i0 p;by_cases c0:i<kvs.length
 ·refine .inr ⟨⟨a0 i g H p,c0⟩,Pv (i+1),λO H' f0=>⟨kvs.length-(i+1),by lia,rfl,c0,f0⟩,?_⟩;rintro v H';refine eb3 ?_;rintro rfl k x g0 rfl;exact d0 i k x g _ g0 p
 ·have e:i=kvs.length:=by lia
  subst e;exact .inl ⟨⟨a0 _ g H p,rfl⟩,e0 g H p⟩
open PyProof
def xv{h:EN}(x:h.Ns a m)(y:h.Ns a g):m=g:=by
 obtain⟨o,es,ep,r,J,O⟩:=x;obtain⟨U,Y,a0,b0,c0,d0⟩:=y
 grind
def yz{R:α->k0->Prop}(p:g.Perm J):∀{O:List α},Paired R O J->∃U:List α,U.Perm O/\Paired R U g:=by
 induction p with
 |nil=>exactλ{l}h=>⟨l,.refl _,h⟩
 |cons x _ a0=>
  intro l h;cases h with
  |cons r t=>
   obtain⟨Y,b0,h'⟩:=a0 t;exact⟨_::Y,b0.cons _,.cons r h'⟩
 |swap x y l=>
  intro Y h;cases h with
  |cons r t=>
   cases t with
   |cons c0 d0=>exact⟨_::_::_,.swap _ _ _,.cons c0 (.cons r d0)⟩
 |trans _ _ e0 f0=>
  intro l h;obtain⟨J,g0,h0⟩:=f0 h;obtain⟨g,i0,j0⟩:=e0 h0;exact⟨g,i0.trans g0,j0⟩
def yv{J:L2.St}{D:uN}(I:Inv X U J H s)(keep:∀b o,b≠X.env.locals->s.heap.get? b=qN o->h'.get? b=qN o)
  (ns:∀m,s.heap.Ns X.env.locals m->h'.Ns X.env.locals m)(O:s.heap.objs.size<=D)(c0:xc X.prog X.w (upd H D u) h' D u):Inv X U J (upd H D u) {s with heap:=h',toks:=t'}:=by
 have g:∀b o,H b=qN o->b≠D:=λb o e=>nb (ed (I.ya b o e).lt O)
 have Y:∀b o,s.heap.get? b=qN o->b≠D:=λb o e=>nb (ed (Na e) O)
 refine I.step (g':=s.gens) (d':=s.drawn) (ch:=[]) (λ_ z=>nomatch z) (by(intros;simp_all)) (λb o a0 r _ e n=>⟨o.slots,keep b o a0 e⟩) (λb o _ e n=>by rw[ja (Y b o e)];exact n) (λb o _ e=>?_) (λb _ e=>by rw[ja (g b _ e)];exact e) (λb _ _ e=>by rw[ja (g b _ e)];exact e) (λb d0 e=>⟨#[],by rw[ja (g b _ e)];simpa using e⟩) ns (λb v q=>?_) I.bare
 ·by_cases z:b=X.env.locals
  ·obtain⟨m,b0,_⟩:=I.loc;obtain⟨e0,_,_,f0,_⟩:=ns m b0
   simp_all
  simp[*]
 ·by_cases r:b=D
  ·subst r;rw[ia]at q
   grind
  ·rw[ja r]at q;refine(I.ya b v q).Hc (λc v g0 z=>keep c v (λy=>?_) z) (λc z=>by rw[ja (g c _ z)];exact z) λc _ z=>by rw[ja (g c _ z)];exact z
   have h0:=I.free
   simp_all
end My
namespace My
open PySem PyProof.Rows
def tG:Bool->FN->Array FN->Nat->Nat->Nat->StateT JN fQ (Option Nat):=sortPriv%PySem.Builtin.gallop
def kf(p:FN):Int:=numOf p.1
section
variable{prog:zN}{w:AN}{s:tN}{A:BN}{E:rN->tN->Prop}
def ce{st:JN}(e:xs[i]?=qN p)(h:Q p st):GP (xN prog w) A E s (elem' xs i) Q st:=by
 rw[elem'_eq,e];exact Oa h
end
def uG:Array FN->Array FN->StateT JN fQ (Array FN):=sortPriv%PySem.Builtin.mergeLo
def vG:Array FN->Array FN->StateT JN fQ (Array FN):=sortPriv%PySem.Builtin.mergeHi
def zv{A:List FN}(h:A[i]?=qN x):(A.drop i).take 1=[x]:=by
 have⟨g,e⟩:=rb.mp h;rw[pp g,e];rfl
structure ec(st Mr:JN):Prop where
 kind:kindOf Mr=kindOf st
 arr:QN Mr=QN st
 pend:VN Mr=VN st
 fail:dO Mr=dO st
def ec.refl(st:JN):ec st st:=⟨rfl,rfl,rfl,rfl⟩
def ec.trans(h:ec a b)(k:ec b c):ec a c:=⟨k.kind.trans h.kind,k.arr.trans h.arr,k.pend.trans h.pend,k.fail.trans h.fail⟩
def ec.mk'(st:JN)(g:Nat):ec st (SortSt.mk' (kindOf st) (QN st) (VN st) g (dO st)):=⟨rfl,rfl,rfl,rfl⟩
def Nr(a:Array FN)(i:Nat):(a.extract i).toList=a.toList.drop i:=by
 simp;exact Pl (by simp_all)
def Kn(a:Array FN)(i k:Nat):(a.extract i (i+k)).toList=(a.toList.drop i).take k:=by simp[ou]
section
variable{prog:zN}{w:AN}{s:tN}{A:BN}{E:rN->tN->Prop}
def Cb[Decidable c]{st:J}(O:c->GP (xN prog w) A E s g Q st)(U:¬c->GP (xN prog w) A E s r Q st):GP (xN prog w) A E s (if c then g else r) Q st:=by
 grind
end
def Qr(a:Array FN)(n:Nat):(a.extract 0 n).toList=a.toList.take n:=by simp[ou]
def Rr(a:Array FN)(k n:Nat):(a.extract k n).toList=(a.toList.take n).drop k:=by simp[ou,List.drop_take]
structure Sb(ra:Array FN)(pd:Array (Nat×Nat×Nat))(lo:Nat)(xs:Array FN)(st:JN):Prop where
 perm:(QN st).Perm ra
 kind:kindOf st=oneType'
 fail:dO st=sN
 pend:VN st=pd
 low:∀k,k<lo->(QN st)[k]?=xs[k]?
def yf(xs:Array FN)(lo g:Nat):Prop:=∀i j,lo<=i->i<=j->j<g->K xs i<=K xs j
section
variable{prog:zN}{w:AN}{s:tN}{A:BN}{E:rN->tN->Prop}{ra xs:Array FN}{pd:Array (Nat×Nat×Nat)}{lo:Nat}{st:JN}
def Sb.set(h:Sb ra pd lo xs st)(p:ys.Perm (QN st))(l:∀k,k<lo->ys[k]?=(QN st)[k]?):Sb ra pd lo xs (setArr st ys):=⟨p.trans h.perm,h.kind,h.fail,h.pend,λk g=>(l k g).trans (h.low k g)⟩
end
def zz(g:Nat):∀(r:List FN)(c:Nat)(J:Array FN),g+c+r.length<=J.size->((r.zipIdx c).foldl (λa x=>a.setIfInBounds (g+x.2) x.1) J).toList=J.toList.take (g+c)++r++J.toList.drop (g+c+r.length)
 |[],c,J,_=>by simp
 |p::r,c,J,h=>by
  rw[Vd]at h;have O:=zz g r (c+1) (J.setIfInBounds (g+c) p) (by rw[Array.size_setIfInBounds];lia);refine O.trans ?_;have U:g+c<J.toList.length:=by rw[Dc];lia
  rw[Array.toList_setIfInBounds,show g+(c+1)=g+c+1 by lia,List.take_set,List.drop_set_of_lt (by lia),Vd,show g+c+1+r.length=g+c+(r.length+1)by lia];rw[List.take_succ_eq_append_getElem U,List.set_append_right _ _ (by rw[se];grind),se,Zm (by lia),Nat.sub_self];simp
section
variable{prog:zN}{w:AN}{s:tN}{A:BN}{E:rN->tN->Prop}{ra:Array FN}{st:JN}
def wG{st g:r}(h:Q ⟨⟩ g):GP (xN prog w) A E s (set g:StateT r fQ PUnit) Q st:=by
 exact ga ⟨rfl,h⟩
end
open PySem.Spec L2
section
variable{X:Cx}
def xG(U:X.A.units+64<CN):Ic X (LN .NotEq) (λx y H Q=>∃(a b:uN)(xs:List V),x=.ref a/\y=.ref b/\ca X.K H a xs/\ca X.K H b []/\Q (.bl (!xs.isEmpty)) H):=by
 intro Y s a0 H x y v u Q I g r h;revert h;refine ea2 ?_;rintro a b xs rfl rfl J O q;cases xs with
 |nil=>exact Iy U Y s a0 H (.ref a) (.ref b) v u Q I g r ⟨_,_,.lst J .nil,.lst O .nil,rfl,rfl,q⟩
 |cons w j0=>
  cases g;cases r;refine ea8 ?_ (I.list J);rintro b0 c0⟨o,n,e,c,k0,dd⟩_;refine ea8 ?_ (I.list O);rintro l0 d0⟨m0,e0,f0,g0,n0,h0⟩_;cases d0;have i0:(b0.toArray.size !=(#[]:Array rN).size)=wN:=by
   cases c0;simp
  exact PySem.SeqAt.RcNeAt.lists_lengths (nx5 _ e c n dd) (nx5 _ f0 g0 e0 h0) i0 (by lia) _ _ _ _ ⟨.bl wN,H,I,rfl,q⟩
end
section
variable{X:Cx}{e a b:IN}{es:List IN}{te ta tb:TE}{t:TA}{pos:oO}
inductive Az(t u:TS)(D:Wf)(σ:L2.St)(H:Hp):Prop|mk(W:L2.St->Hp->Prop)(_:t {D with nx:=W} σ H)(_:∀qf H',W qf H'->u D qf H')
def yG{st:aO}{g:List aO}{t u:TS}(O:PS X st t)(U:Ee X g u):Ee X (st::g) (Az t u):=by
 constructor;intro r s Y H D I⟨W,h,k⟩;refine xP (xa (O r s Y H {D with nx:=W} I h) λf a0 q=>?_);cases f with
 |next=>
  revert q;refine eaA ?_;rintro J H' b0 q;exact U r a0 J H' D b0 (k J H' q)
 |ret v=>exact q
 |brk=>exact q
 |cont=>exact q
end
open PyProof
def Xh:TE:=λ_ _ _=>False
inductive zG(K:W.Frag)(Q:VK)(vs:List V)(H1:Hp):Prop|mk(a ns)(_:vs=[V.ref a])(_:ca K H1 a (ns.map V.int))(_:ns.length<4000)(_:Q (.int (dd ns).length) H1)
def AG(K:W.Frag)(t:TA):TE:=λg H Q=>t g H (zG K Q)
def BG{X:Cx}{K:W.Frag}{e:IN}{t:TA}{p J pos g:oO}(c0:X.K=K)(d0:X.calm=wN)(e0:Gl X "len")(f0:X.mg "len"=sN)(g0:Gl X "set")(h0:X.mg "set"=sN)(i0:PA X [e] t)
  (j0:DN [e] X.env=[(yN,SN e X.env)]:=by rfl)(k0:DN [.Call (.Name "set" J) [e] [] g] X.env=[(yN,SN (.Call (.Name "set" J) [e] [] g) X.env)]:=by rfl):
  PE X (.Call (.Name "len" p) [.Call (.Name "set" J) [e] [] g] [] pos) (AG K t):=by
 constructor;intro l0 s m0 H Q I h;subst c0;refine lh (Xf I e0 f0 mf ?_ (by decide) (by decide));refine ju ?_ (by rw[k0];rfl) rfl;show wpAny _ _ (JP ((yN,SN (.Call (.Name "set" J) [e] [] g) X.env)::XN pos [])) _ _ s;refine Gi ?_;refine lh (Xf I g0 h0 PyProof.Rows.boot_set (yk (xa (i0 g l0 s m0 H _ I h) ?_) j0 rfl) (by decide) (by decide));rintro us y0⟨vs,z0,O,n0,q1⟩;obtain⟨l,ns,rfl,o0,A0,q⟩:=q1;refine ea1 ?_ (cf n0);rintro u rfl p0;cases p0;refine ea8 ?_ (O.list o0);rintro B0 U pl hz;have Y:=U.length;rw[ua]at Y;refine PF (O.ok.hd d0) pl.isList Y.symm (λj u q0=>?_) (show ns.length+1<4096 by lia) λh' r0 s0 k=>?_
 ·obtain⟨x,r,t0⟩:=xf U q0;rw[lb]at r;cases a0:ns[j]? with
  |none=>rw[a0]at r;cases r
  |some n=>
   rw[a0]at r;cases r;obtain⟨t,rfl⟩:=t0;exact nx4 n t rfl rfl
 refine Nl ?_;revert s0;refine eb8 ?_;rintro o es ep C0 u0 hex hd _ D0 v0 _ _ w0;have b0:es.size=(dd ns).length:=by
  have:=w0.length_eq;rw[ua,Dc]at this;exact this
 have F0:=iz ns;refine call_len_set u0 hex hd v0 (by rw[b0];lia) ?_;have x0:=O.kept (t':=r0+1+1) ‹_›;exact⟨.int _,_,x0,⟨_,by rw[b0]⟩,q⟩
mutual
inductive Tr(H:Hp):V->MN->Prop where
 |int(i:Int):Tr H (.int i) (.int i)
 |str(x:Str):Tr H (.str x) (.str x)
 |lst{a:uN}{xs:List V}{ds:List MN}(h:H a=qN (.lst xs))(r:Qa H xs ds):Tr H (.ref a) (.list ds)
 |tup{a:uN}{xs:List V}{ds:List MN}(h:H a=qN (.tup xs))(r:Qa H xs ds):Tr H (.ref a) (.tuple ds)
inductive Qa(H:Hp):List V->List MN->Prop where
 |nil:Qa H [] []
 |cons{x:V}{d:MN}{xs:List V}{ds:List MN}(h:Tr H x d)(r:Qa H xs ds):Qa H (x::xs) (d::ds)
end
mutual
def Tr.same{H H':Hp}(s:aa H H'){v:V}{d:MN}(h:Tr H v d):Tr H' v d:=by
 cases h with
 |int i=>exact .int i
 |str x=>exact .str x
 |lst h r=>exact .lst (s _ _ h) (Qa.same s r)
 |tup h r=>exact .tup (s _ _ h) (Qa.same s r)
def Qa.same{H H':Hp}(s:aa H H'){vs:List V}{g:List MN}(h:Qa H vs g):Qa H' vs g:=by
 cases h with
 |nil=>exact .nil
 |cons h r=>exact .cons (Tr.same s h) (Qa.same s r)
end
def Qa.len:∀{vs:List V}{g:List MN},Qa H vs g->vs.length=g.length
 |_,_,.nil=>rfl
 |_,_,.cons _ r=>by simp only[Vd,Qa.len r]
def Qa.get:∀{vs:List V}{g:List MN},Qa H vs g->∀{i:Nat}{v:V},vs[i]?=qN v->∃d,g[i]?=qN d/\Tr H v d
 |_,_,.nil,i,v,e=>by simp at e
 |_,_,.cons h r,0,v,e=>by simp_all
 |_,_,.cons h r,i+1,v,e=>Qa.get r (by simpa using e)
def Qa.at:∀{vs:List V}{g:List MN},Qa H vs g->∀{i:Nat}{d:MN},g[i]?=qN d->∃v,vs[i]?=qN v/\Tr H v d
 |_,_,.nil,i,v,e=>by simp at e
 |_,_,.cons h r,0,v,e=>by simp_all
 |_,_,.cons h r,i+1,v,e=>Qa.at r (by simpa using e)
def Qa.app:∀{vs us:List V}{r es:List MN},Qa H vs r->Qa H us es->Qa H (vs++us) (r++es)
 |_,_,_,_,.nil,g=>g
 |_,_,_,_,.cons h q,g=>.cons h (Qa.app q g)
def Qa.ints:∀{vs:List V}{ns:List Int},Qa H vs (ns.map PyData.int)->vs=ns.map V.int
 |_,[],.nil=>rfl
 |_,n::r,.cons h q=>by cases h;rw[Qa.ints q];rfl
def Qa.ofInts:∀(ns:List Int),Qa H (ns.map V.int) (ns.map PyData.int)
 |[]=>.nil
 |n::r=>.cons (.int n) (Qa.ofInts r)
end My
namespace My
open PySem PySem.Spec PyProof.Rows L2
def off(H H':Hp):Hp:=λb=>if(H b).isSome=wN then sN else H' b
def ye(H:Hp)(D:uN):Hp:=λb=>if b=D then sN else H b
def ze(g H r:Hp):Hp:=λb=>if((g b).isNone&&(H b).isSome)=wN then sN else r b
def CG{H H':Hp}:aa (off H H') H':=λb o e=>by
 unfold off at e
 grind
def Ur:aa (ye H D) H:=λb o e=>by
 unfold ye at e
 simp_all
def ki(h:H b=sN)(e:H' b=qN o):off H H' b=qN o:=by
 unfold off
 simp_all
def om(e:off H H' b=qN o):H b=sN/\H' b=qN o:=by
 unfold off at e;split at e
 ·cases e
 ·next h=>
  refine⟨?_,e⟩;cases q:H b with
  |none=>rfl
  |some z=>simp_all
def DG(s:aa H' g):aa (off H H') (off H g):=λb o e=>ki (om e).1 (s _ _ (om e).2)
def Vr{g H r:Hp}(s:aa g r):aa g (ze g H r):=λb o e=>by
 unfold ze;rw[e];exact s _ _ e
def Bz{r H g:Hp}{b:uN}{o:HO}(h:H b=sN)(e:g b=qN o):ze r H g b=qN o:=by
 unfold ze
 grind
def Ln{α r:Type}(f:α->Option r):∀(g:List α),(List.range g.length).filterMap (λi=>g[i]?.bind f)=g.filterMap f:=by
 intro g;have key:∀n,n<=g.length->(List.range n).filterMap (λi=>g[i]?.bind f)=(g.take n).filterMap f:=by
  intro n;induction n with
  |zero=>intro _;rfl
  |succ n J=>
   intro h;rw[wj,Qo,J (by lia),gc,Qo,Wb (by lia)]
   grind
 rw[key g.length (wa _),vc]
def Wr{α:Type}{c0 fs:L2.St}{K:W.Frag}(r:List α)(d0:α->MN)(f:α->Option V)(h0:c0=List.replicate k sN++fs)(b0:O l=qN (.lst xs))(e0:Qa O xs (r.map d0))(hz:r.length<=vN)
  (step:∀a,a∈r->∀H(Y:L2.St)v(R:Option V->L2.St->Hp->Prop),aa O H->Y.length=k->Tr H v (d0 a)->(∀(f0:L2.St)U,f0.length=k->aa H U->R (f a) (f0++fs) U)->
   i0 v (Y++fs) H λa0 j0=>k0 a0 j0 λok U=>if ok=wN then l0 a0 U λy m0=>R (qN y) a0 m0 else R sN a0 U)
  (fin:∀D H',O D=sN->aa O H'->H' D=qN (.lst (r.filterMap f))->Q (.ref D) H'):Nf c0 (bf K l) i0 k0 l0 Q O:=by
 have r0:xs.length=r.length:=by rw[e0.len,ua]
 refine Rp r.length (λi=>r[i]?.bind f) h0 hz (λi H g n0=>(Pd (ca.of (g _ _ b0))).go i (by simp_all)) (λH g=>(Pd (ca.of (g _ _ b0))).stop _ (by simp_all)) ?_ λD H' o0 g J=>fin D H' o0 g (by rw[J,Ln])
 rintro i H Y v H' R g n0 p0⟨rfl,q0⟩s0;have e:=q0 xs (ca.of (g _ _ b0));refine ea1 ?_ (e0.get e);rintro d J tr;rw[lb]at J;cases g0:r[i]? with
 |none=>rw[g0]at J;cases J
 |some a=>
  rw[g0]at J;cases J;exact step a (by grind) H' Y v R g p0 (tr.same g) (by(intros;simp_all))
def EG{α:Type}{o0 fs:L2.St}{k:Nat}{K:W.Frag}{l:uN}{xs:List V}{p0:TG}{q0:TT}{r0:TE}{Q:VK}{J:Hp}(P:α->Prop)(S:Hp->Hp->Hp)(Z:uN->Hp->Hp)(r:List α)(h0:α->MN)(a0:α->Option MN)(w0:o0=List.replicate k sN++fs)(i0:J l=qN (.lst xs))(s0:Qa J xs (r.map h0))(hz:r.length<=vN)
  (K0:∀D H g o,J D=sN->aa J H->H D=qN o->aa H g->aa (Z D H) (Z D g))(x0:∀D H g o j0,J D=sN->aa J H->H D=qN o->aa H g->aa (S H g) (Z D (upd g D (.lst j0))))
  (y0:∀D H o j0,J D=sN->aa J H->H D=qN o->aa (Z D H) (Z D (upd H D (.lst j0))))
  (step:∀a,a∈r->∀H (d0:L2.St)v (R:Option V->L2.St->Hp->Prop),aa J H->d0.length=k->Tr H v (h0 a)->Tr J v (h0 a)->(∀d y (U:L2.St)g,P a->a0 a=qN d->U.length=k->aa H g->Tr (S H g) y d->R (qN y) (U++fs) g)->(P a->a0 a=sN->∀(U:L2.St)g,U.length=k->aa H g->R sN (U++fs) g)->
   p0 v (d0++fs) H λe0 z0=>q0 e0 z0 λok g=>if ok=wN then r0 e0 g λy A0=>R (qN y) e0 A0 else R sN e0 g)
  (fin:(∀a∈r,P a)->∀D H' ys,J D=sN->aa J H'->H' D=qN (.lst ys)->Qa (Z D H') ys (r.filterMap a0)->Q (.ref D) H'):Nf o0 (bf K l) p0 q0 r0 Q J:=by
 have L0:xs.length=r.length:=by rw[s0.len,ua]
 refine Hn r.length (λD i ys H=>J D=sN/\ys.length<=i/\(∀a∈r.take i,P a)/\Qa (Z D H) ys ((r.take i).filterMap a0)) w0 hz (λi H O M0=>(Pd (ca.of (O _ _ i0))).go i (by simp_all)) (λH O=>(Pd (ca.of (O _ _ i0))).stop _ (by simp_all)) (λ_ _ _ _ h=>h.2.1) (λD Y=>⟨Y,wa _,(by(intros;simp_all)),.nil⟩) ?_ ?_
 ·rintro D i H ys d0 v H' R f0;refine eb4 ?_;rintro Y N0 k0 c0 O t0 B0⟨rfl,C0⟩D0 F0;refine ea1 ?_ (s0.get (C0 xs (ca.of (O _ _ i0))));rintro d u0 tr;have g0:=Wb t0;rw[lb,g0]at u0;cases u0;have v0:P r[i]->∀a∈r.take (i+1),P a:=λh a G0=>by
   rw[gc,g0]at G0
   grind
  refine step r[i] (List.getElem_mem t0) H' d0 v R O B0 (tr.same O) tr (λd y U g l0 m0 n0 b0 I0=>D0 y U g n0 b0 ⟨Y,(by simp_all),v0 l0,?_⟩) λl0 m0 U g n0 b0=>F0 U g n0 b0 ⟨Y,by lia,v0 l0,?_⟩
  ·rw[gc,g0,Qo];refine((c0.same (by simp_all)).same (y0 D g _ _ Y (O.trans b0) (b0 _ _ f0))).app ?_;show Qa _ [y] (List.filterMap a0 [r[i]]);rw[wh,m0];exact .cons (I0.same (x0 D H' g _ _ Y O f0 b0)) .nil
  ·rw[gc,g0,Qo];have J0:List.filterMap a0 (qN r[i]).toList=[]:=by
    show List.filterMap a0 [r[i]]=[];rw[wh,m0];rfl
   rw[J0,z1h];exact c0.same (by grind)
 ·rintro D H' ys Y O f0⟨_,_,k0,c0⟩;rw[vc]at c0 k0;exact fin k0 D H' ys Y O f0 c0
def FG{α:Type}{d0 fs:L2.St}{K:W.Frag}(S:Hp->Hp->Hp)(Z:uN->Hp->Hp)(O:List α)(U:α->MN)(Y:α->Option MN)(e0:d0=List.replicate k sN++fs)(f0:r l=qN (.lst xs))(g0:Qa r xs (O.map U))(hz:O.length<=vN)
  (h0:∀D H g o,r D=sN->aa r H->H D=qN o->aa H g->aa (Z D H) (Z D g))(i0:∀D H g o c0,r D=sN->aa r H->H D=qN o->aa H g->aa (S H g) (Z D (upd g D (.lst c0))))
  (j0:∀D H o c0,r D=sN->aa r H->H D=qN o->aa (Z D H) (Z D (upd H D (.lst c0))))
  (step:∀a,a∈O->∀H(a0:L2.St)v(R:Option V->L2.St->Hp->Prop),aa r H->a0.length=k->Tr H v (U a)->Tr r v (U a)->(∀d y(J:L2.St)g,Y a=qN d->J.length=k->aa H g->Tr (S H g) y d->R (qN y) (J++fs) g)->(Y a=sN->∀(J:L2.St)g,J.length=k->aa H g->R sN (J++fs) g)->
   k0 v (a0++fs) H λb0 l0=>m0 b0 l0 λok g=>if ok=wN then n0 b0 g λy o0=>R (qN y) b0 o0 else R sN b0 g)
  (fin:∀D H' ys,r D=sN->aa r H'->H' D=qN (.lst ys)->Qa (Z D H') ys (O.filterMap Y)->Q (.ref D) H'):Nf d0 (bf K l) k0 m0 n0 Q r:=
 EG (λ_=>True) S Z O U Y e0 f0 g0 hz h0 i0 j0 (λa p0 H a0 v R q0 r0 tr s0 t0 u0=>step a p0 H a0 v R q0 r0 tr s0 (λd y J g=>t0 d y J g trivial) λe J g=>u0 trivial e J g) λ_=>fin
def df(e:ye H D b=qN o):b≠D/\H b=qN o:=by
 unfold ye at e
 simp_all
def ff(h:b≠D)(e:H b=qN o):ye H D b=qN o:=by
 unfold ye
 simp[*]
def Cz{α:Type}{b0 fs:L2.St}{k:Nat}{K:W.Frag}{l:uN}{xs:List V}{c0:TG}{d0:TT}{e0:TE}{Q:VK}{r:Hp}(J:List α)(U:α->MN)(Y:α->Option MN)(l0:b0=List.replicate k sN++fs)(m0:r l=qN (.lst xs))(n0:Qa r xs (J.map U))(hz:J.length<=vN)
  (step:∀a,a∈J->∀H(f0:L2.St)v(R:Option V->L2.St->Hp->Prop),aa r H->f0.length=k->Tr H v (U a)->Tr r v (U a)->(∀d y(O:L2.St)g,Y a=qN d->O.length=k->aa H g->Tr (ze r H g) y d->R (qN y) (O++fs) g)->(Y a=sN->∀(O:L2.St)g,O.length=k->aa H g->R sN (O++fs) g)->
   c0 v (f0++fs) H λa0 o0=>d0 a0 o0 λok g=>if ok=wN then e0 a0 g λy p0=>R (qN y) a0 p0 else R sN a0 g)
  (fin:∀D H' ys,r D=sN->aa r H'->H' D=qN (.lst ys)->Qa (ye H' D) ys (J.filterMap Y)->Q (.ref D) H'):Nf b0 (bf K l) c0 d0 e0 Q r:=
 FG (λH g=>ze r H g) (λD H=>ye H D) J U Y l0 m0 n0 hz (λD H g o g0 h0 i0 j0 b ob e=>ff (df e).1 (j0 _ _ (df e).2))
  (λD H g o q0 g0 h0 i0 j0 b ob e=>by
   have k0:b≠D:=λz=>by
    rw[z]at e;unfold ze at e
    grind
   refine ff k0 ?_;rw[ja k0];unfold ze at e
   grind)
  (λD H o q0 g0 h0 i0 b ob e=>ff (df e).1 (by rw[ja (df e).1];exact(df e).2))
  step fin
def GG{X:Cx}{K:W.Frag}(g:X.K=K)(r:X.A.units+64<CN):Ic X (LN .NotEq) (Hy K):=by
 subst g;exact Iy r
end My
namespace My
open PySem PySem.W PyProof.Rows
def us1{α:Type}{us:List α}(h:us.length=1):∃a,us=[a]:=Zc.mp h
def us2{α:Type}{us:List α}(h:us.length=2):∃a b,us=[a,b]:=by
 obtain⟨a,t,rfl⟩:=Vq h;obtain⟨b,rfl⟩:=us1 (bn h)
 grind
def us3{α:Type}{us:List α}(h:us.length=3):∃a b c,us=[a,b,c]:=by
 obtain⟨a,t,rfl⟩:=Vq h;obtain⟨b,c,rfl⟩:=us2 (bn h)
 grind
def us4{α:Type}{us:List α}(h:us.length=4):∃a b c d,us=[a,b,c,d]:=by
 obtain⟨a,t,rfl⟩:=Vq h;obtain⟨b,c,d,rfl⟩:=us3 (bn h)
 grind
def us5{α:Type}{us:List α}(h:us.length=5):∃a b c d e,us=[a,b,c,d,e]:=by
 obtain⟨a,t,rfl⟩:=Vq h;refine ea4 ?_ (us4 (bn h));rintro b c;refine ea4 ?_;rintro d e rfl
 grind
end My
namespace My
open PySem PySem.SetTable
def zg{α:Type}[DecidableEq α]:∀{l m:List α},l.Nodup->(∀x∈l,x∈m)->l.length<=m.length
 |[],_,_,_=>Va _
 |a::r,m,h,s=>by
  obtain⟨J,g⟩:=Qg.mp h;have O:a∈m:=by simp_all
  have:=zg (m:=m.erase a) g (by grind)
  grind
def LS(mask:Nat)(h:Int):Nat->Nat×Nat
 |0=>(bits h%(mask+1),bits h)
 |r+1=>leap mask (LS mask h r).1 (LS mask h r).2
def rl(mask i:Nat):Nat:=runEnd mask i-i
def Av(mask i:Nat):rl mask i<=9:=by
 unfold rl runEnd;split<;>simp_all
def Bv{mask i k:Nat}(g:i<=mask)(h:k<=rl mask i):i+k<=mask:=by
 unfold rl runEnd at h;split at h<;>lia
def Xr(mask:Nat)(h:Int):∀r,(LS mask h r).1<=mask
 |0=>Sm (Jl _ (Si _))
 |_+1=>Sm (Jl _ (Si _))
def Dz(mask:Nat)(h:Int):∀r,(LS mask h r).2=bits h/32^r
 |0=>by simp[LS]
 |r+1=>by
  show(LS mask h r).2/32=_;rw[Dz mask h r,Nat.div_div_eq_div_mul,Nat.pow_succ]
def HG(h:Int):bits h<2^64:=by
 unfold bits
 lia
def IG(mask:Nat)(h:Int)(n:Nat):(LS mask h (12+n+1)).1=((LS mask h (12+n)).1*5+1)%(mask+1):=by
 show((LS mask h (12+n)).1*5+1+(LS mask h (12+n)).2/32)%(mask+1)=_;have e:(LS mask h (12+n)).2/32=0:=by
  rw[Dz,Nat.div_div_eq_div_mul,<-Nat.pow_succ];refine Nat.div_eq_of_lt (ed (HG h) ?_);exact gb (show 2^64<=32^13 by decide) (by grind)
 rw[e]
def Of(N:Nat):Nat->Nat->Nat
 |0,i=>i
 |n+1,i=>Of N n ((i*5+1)%N)
def Mn(N:Nat):∀a b i,Of N (a+b) i=Of N b (Of N a i)
 |0,b,i=>by rw[Nm];rfl
 |a+1,b,i=>by
  rw[show a+1+b=(a+b)+1 by lia];exact Mn N a b _
def Cv(mask:Nat)(h:Int):∀n,(LS mask h (12+n)).1=Of (mask+1) n (LS mask h 12).1
 |0=>rfl
 |n+1=>by
  rw[show 12+(n+1)=12+n+1 by lia,IG,Cv mask h n,Mn];rfl
def mi(mask:Nat):Prop:=mask=7\/mask=31\/mask=127\/mask=511\/mask=2047
def Yr(N:Nat):Nat->Nat->Bool
 |0,i=>i==0
 |n+1,i=>i !=0&&Yr N n ((i*5+1)%N)
def Ez:∀{n i:Nat},Yr N n i=wN->Of N n i=0/\∀m,m<n->Of N m i≠0
 |0,i,h=>⟨eq_of_beq h,by(intros;simp_all)⟩
 |n+1,i,h=>by
  simp only[Yr,Vm,bne_iff_ne]at h;obtain⟨a,b⟩:=Ez h.2;refine⟨a,λm g=>?_⟩;cases m with
  |zero=>exact h.1
  |succ m=>exact b m (by simp_all)
def Dv(h:0<N):∀n{i:Nat},i<N->Of N n i<N
 |0,_,g=>g
 |n+1,_,_=>Dv h n (Jl _ h)
def Fz{mask:Nat}(r:mi mask):∀(n:Nat){i j:Nat},i<mask+1->j<mask+1->Of (mask+1) n i=Of (mask+1) n j->i=j
 |0,_,_,_,_,e=>e
 |n+1,i,j,g,J,e=>by
  have key:∀{i j:Nat},i<mask+1->(i*5+1)%(mask+1)=(j*5+1)%(mask+1)->i<=j:=λ{i j}g e=>by
   have h:=Nat.dvd_of_mod_eq_zero (Nat.sub_mod_eq_zero_of_mod_eq e);rw[Nat.add_sub_add_right,<-Nat.sub_mul]at h;have c:Nat.Coprime (mask+1) 5:=by rcases r with rfl|rfl|rfl|rfl|rfl<;>rfl
   exact Nat.le_of_sub_eq_zero (Nat.eq_zero_of_dvd_of_lt (c.dvd_of_dvd_mul_right h) (Do (Nat.sub_le _ _) g))
  have:=Fz r n (Jl _ (Si _)) (Jl _ (Si _)) e;exact Nat.le_antisymm (key g this) (key J this.symm)
def JG{mask:Nat}(g:mi mask):(∀j<mask+1,∃n<mask+1,Of (mask+1) n 0=j)/\Of (mask+1) (mask+1) 0=0:=by
 have J:Yr (mask+1) mask 1=wN:=by rcases g with rfl|rfl|rfl|rfl|rfl<;>decide+kernel
 obtain⟨c0,O⟩:=Ez J;have U:1%(mask+1)=1:=by rcases g with rfl|rfl|rfl|rfl|rfl<;>rfl
 have st:∀n,Of (mask+1) (n+1) 0=Of (mask+1) n 1:=λn=>by show Of _ n ((0*5+1)%(mask+1))=_;rw[Nat.zero_mul,Nm,U]
 refine⟨λj Y=>Og λz=>?_,by simp_all⟩;have a0:((List.range (mask+1)).map λn=>Of (mask+1) n 0).Nodup:=by
  refine Gd.mpr (Sq (λ{a b}d0 r e0 e=>?_) Ll);have r:=Ye.mp r;obtain⟨c,rfl⟩:∃c,b=c+1+a:=⟨b-a-1,by grind⟩;rw[Mn]at e;have:=Fz g a (Si _) (Dv (Si _) _ (Si _)) e;rw[st]at this;exact O c (by lia) this.symm
 have:=zg (m:=List.range (mask+1)) (Qg.mpr ⟨λh=>?_,a0⟩:(j::_).Nodup) λx b0=>?_
 ·simp at this;lia
 ·obtain⟨n,f0,e⟩:=Sa.mp h;exact z (by simp_all)
 ·rcases rc.mp b0 with e|h
  ·exact Ye.mpr (e▸Y)
  ·obtain⟨n,_,e⟩:=Sa.mp h;exact Ye.mpr (e▸Dv (Si _) _ (Si _))
def Gz{mask:Nat}(O:mi mask)(h:Int)(U:j<=mask):∃g,g<turns mask/\(LS mask h g).1=j:=by
 obtain⟨all,Y⟩:=JG O;obtain⟨a,a0,r⟩:=all (LS mask h 12).1 (Ro (Xr mask h 12));obtain⟨b,b0,J⟩:=all j (Ro U);by_cases c0:a<=b
 ·refine⟨12+(b-a),by unfold turns;grind,?_⟩;rw[Cv,<-r,<-Mn,show a+(b-a)=b by simp_all,J]
 ·refine⟨12+(b+(mask+1)-a),by unfold turns;lia,?_⟩;rw[Cv,<-r,<-Mn,show a+(b+(mask+1)-a)=(mask+1)+b by lia,Mn,Y,J]
def Ps(mask:Nat)(h:Int)(r k:Nat):Nat:=(LS mask h r).1+k
def Lc(mask:Nat)(h:Int)(ok:Nat->Prop)(J k:Nat):Prop:=(∀r,r<J->∀g,g<=rl mask (LS mask h r).1->ok (Ps mask h r g))/\∀g,g<k->ok (Ps mask h J g)
def Lc.mono{mask:Nat}(b:Lc mask h p r k)(i:∀j,p j->q j):Lc mask h q r k:=⟨λJ a g c=>i _ (b.1 J a g c),λg a=>i _ (b.2 g a)⟩
def Lc.zero(mask:Nat)(h:Int)(ok:Nat->Prop):Lc mask h ok 0 0:=⟨λ_ a=>absurd a (Nat.not_lt_zero _),λ_ a=>absurd a (Nat.not_lt_zero _)⟩
def Lc.more{mask:Nat}{ok:Nat->Prop}(b:Lc mask h ok g k)(o:ok (Ps mask h g k)):Lc mask h ok g (k+1):=
 ⟨b.1,λr a=>by
  rcases Qm.mp a with z|z
  ·exact b.2 r z
  simp_all⟩
def Lc.next{mask:Nat}{ok:Nat->Prop}(b:Lc mask h ok g (rl mask (LS mask h g).1+1)):Lc mask h ok (g+1) 0:=
 ⟨λJ a r c=>by
  rcases Qm.mp a with z|z
  ·exact b.1 J z r c
  ·subst z;exact b.2 r (by lia),by(intros;simp_all)⟩
def KG{mask:Nat}(b:Lc mask h p g k)(O:Lc mask h q r J)(U:k<=rl mask (LS mask h g).1)(Y:J<=rl mask (LS mask h r).1):
  p (Ps mask h r J)\/(g=r/\k=J)\/q (Ps mask h g k):=by
 by_cases z:r<g
 ·exact .inl (b.1 r z J Y)
 ·by_cases a0:g<r
  ·exact .inr (.inr (O.1 g a0 k U))
  ·have e:g=r:=by lia
   subst e;by_cases y:J<k
   ·exact .inl (b.2 J y)
   ·by_cases b0:k<J
    ·exact .inr (.inr (O.2 k b0))
    ·exact .inr (by lia)
def Pb(mask:Nat)(h:Int)(r k:Nat):Probe:={j:=Ps mask h r k,more:=rl mask (LS mask h r).1-k,i:=(LS mask h r).1,perturb:=(LS mask h r).2,dummy:=sN}
def LG(t:SetTable)(h:Int):t.probeStart h=Pb t.mask h 0 0:=rfl
def MG{t:SetTable}(r:k<rl t.mask (LS t.mask h g).1):t.advance (Pb t.mask h g k)=Pb t.mask h g (k+1):=by
 unfold SetTable.advance;rw[va (show(Pb t.mask h g k).more>0 by show rl _ _-k>0;lia)];unfold Pb Ps
 rfl
def NG{t:SetTable}(r:k=rl t.mask (LS t.mask h g).1):t.advance (Pb t.mask h g k)=Pb t.mask h (g+1) 0:=by
 unfold SetTable.advance;rw[na (show¬(Pb t.mask h g k).more>0 by show¬rl _ _-k>0;simp_all)];rfl
def Hz{t:SetTable}{ok:Nat->Prop}(O:k<=rl t.mask (LS t.mask h g).1)(b:Lc t.mask h ok g k)(o:ok (Ps t.mask h g k)):
  ∃r J,t.advance (Pb t.mask h g k)=Pb t.mask h r J/\J<=rl t.mask (LS t.mask h r).1/\Lc t.mask h ok r J/\10*g+k<10*r+J:=by
 by_cases z:k<rl t.mask (LS t.mask h g).1
 ·exact nx6 g (k+1) (MG z) z (b.more o) (by lia)
 ·have e:k=rl t.mask (LS t.mask h g).1:=by lia
  have:=Av t.mask (LS t.mask h g).1;exact nx6 (g+1) 0 (NG e) (Va _) ((e▸b.more o:Lc t.mask h ok g (rl t.mask (LS t.mask h g).1+1)).next) (by lia)
def Iz{t:SetTable}(g:Je t.place)(e:t.place[i]?=qN j):t.slot j=.live i:=by
 unfold SetTable.slot;have:=ez g e
 simp_all
def OG{t:SetTable}(g:Je t.place)(r:t.dummies=#[])(e:j∉t.place.toList):t.slot j=.empty:=by
 unfold SetTable.slot;have n:¬t.place[below t.place j]?=qN j:=by grind
 simp only[beq_iff_eq,n,Be,(wc.mk g r).Ke,Mg]
def QG(c0:Je t.place)(g0:t.dummies=#[]){f:Nat->Int}{ok:Nat->Prop}(live:∀j,ok j->j∈t.place.toList)(h0:∀i j,t.place[i]?=qN j->f i≠h->ok j)
  (room:∃g,g<turns t.mask/\(LS t.mask h g).1∉t.place.toList):∀(O g k:Nat),k<=rl t.mask (LS t.mask h g).1->Lc t.mask h ok g k->10*turns t.mask<=O+(10*g+k)->
  ∃r J,J<=rl t.mask (LS t.mask h r).1/\Lc t.mask h ok r J/\10*g+k<=10*r+J/\((Ps t.mask h r J∉t.place.toList/\probe.go t f h O (Pb t.mask h g k)=qN (.empty (Ps t.mask h r J) sN))\/
   ∃i,t.place[i]?=qN (Ps t.mask h r J)/\f i=h/\probe.go t f h O (Pb t.mask h g k)=qN (.candidate (Ps t.mask h r J) i (t.advance (Pb t.mask h r J)))):=by
 revert room;refine ea1 ?_;rintro a0 s0 i0;have j0:∀{g k:Nat},Lc t.mask h ok g k->g<=a0:=λ{g k}b=>by
  by_cases z:g<=a0
  ·exact z
  ·exact absurd (live _ (b.1 a0 (by simp_all) 0 (Va _))) i0
 intro O;induction O with
 |zero=>
  intro g k U b k0;have:=j0 b;have:=Av t.mask (LS t.mask h g).1;lia
 |succ O l0=>
  intro g k U b k0;by_cases b0:Ps t.mask h g k∈t.place.toList
  ·obtain⟨i,Y⟩:=Hd.mp b0;rw[Kd]at Y;have d0:=Iz c0 Y;by_cases hz:f i=h
   ·refine nx6 g k U b (wa _) (.inr ⟨i,Y,hz,?_⟩);unfold probe.go;rw[show(Pb t.mask h g k).j=Ps t.mask h g k from rfl,d0]
    simp_all
   ·refine eaC ?_ (Hz U b (h0 i _ Y hz));rintro e0 f0 m0 n0 o0 lt;refine eaC ?_ (l0 e0 f0 n0 o0 (by lia));rintro r J p0 q0 t0 r0;have e:probe.go t f h (O+1) (Pb t.mask h g k)=probe.go t f h O (Pb t.mask h e0 f0):=by
     conv=>lhs;unfold probe.go
     rw[show(Pb t.mask h g k).j=Ps t.mask h g k from rfl,d0];simp only[beq_iff_eq,hz,Be,m0]
    rw[e];exact nx6 r J p0 q0 (by lia) r0
  ·refine nx6 g k U b (wa _) (.inl ⟨b0,?_⟩);unfold probe.go;rw[show(Pb t.mask h g k).j=Ps t.mask h g k from rfl,OG c0 g0 b0];rfl
def Yg{α:Type}(p:Nat)(x:α)(l:List α):List α:=l.take p++x::l.drop p
def Jz(xs:Array α)(p:Nat)(x:α):(insertAt xs p x).toList=Yg p x xs.toList:=by
 unfold insertAt Yg;simp;exact Pl (by simp)
def RG(g:l.length=m.length)(p:Nat)(x:α)(y:r):(Yg p x l).zip (Yg p y m)=Yg p (x,y) (l.zip m):=by
 unfold Yg;rw[List.zip_append (by simp[g]),Il];show List.zipWith Prod.mk (l.take p) (m.take p)++(x,y)::List.zipWith Prod.mk (l.drop p) (m.drop p)=(List.zipWith Prod.mk l m).take p++(x,y)::(List.zipWith Prod.mk l m).drop p;rw[List.take_zipWith,List.drop_zipWith]
def Ev:z∈Yg p x l↔z=x\/z∈l:=by
 unfold Yg;rw[fc,rc];constructor
 ·grind
 ·rintro(a|a)
  ·exact .inr (.inl a)
  ·rw[<-Ng p l]at a
   grind
def Fv(p:Nat)(x:α)(l:List α):(Yg p x l).Perm (x::l):=by
 unfold Yg;refine List.perm_middle.trans ?_;rw[Ng]
structure TT(t:SetTable)(es:List (Int×rN)):Prop where
 size:mi t.mask
 up:Je t.place
 nd:t.dummies=#[]
 within:∀j∈t.place.toList,j<=t.mask
 len:t.place.toList.length=es.length
 qm:∀j e,(j,e)∈t.place.toList.zip es->∃r k,k<=rl t.mask (LS t.mask e.1 r).1/\Ps t.mask e.1 r k=j/\Lc t.mask e.1 (·∈t.place.toList) r k
def TT.ok(T:TT t es):wc t:=⟨T.up,T.nd⟩
def TT.fresh(f m:Nat)(l:Bool):TT (.fresh f m l) []:=⟨.inl rfl,List.Pairwise.nil,rfl,(λ_ h=>by cases h),rfl,(λ_ _ h=>by cases h)⟩
def TT.room(T:TT t es)(h:Int)(Ab:es.length<=t.mask):∃g,g<turns t.mask/\(LS t.mask h g).1∉t.place.toList:=by
 have:∃j,j<=t.mask/\j∉t.place.toList:=by
  apply Og;intro z;have:=zg (l:=List.range (t.mask+1)) (m:=t.place.toList) List.nodup_range (by grind);rw[Ef,T.len]at this;lia
 obtain⟨j,r,J⟩:=this;obtain⟨g,O,e⟩:=Gz T.size h r;exact(by grind)
def TT.put{t:SetTable}{es:List (Int×rN)}(T:TT t es){z:Int}{x:rN}{g k:Nat}(O:k<=rl t.mask (LS t.mask z g).1)(b:Lc t.mask z (·∈t.place.toList) g k)(Y:Ps t.mask z g k∉t.place.toList):
  TT (t.put (Ps t.mask z g k)).1 (Yg (t.put (Ps t.mask z g k)).2 (z,x) es)/\(t.put (Ps t.mask z g k)).1.led=t.led:=by
 have J:=T.ok.put Y;have pl:(t.put (Ps t.mask z g k)).1.place.toList=Yg (t.put (Ps t.mask z g k)).2 (Ps t.mask z g k) t.place.toList:=Jz _ _ _;have mk:(t.put (Ps t.mask z g k)).1.mask=t.mask:=rfl;have mem:∀j,j∈t.place.toList->j∈(t.put (Ps t.mask z g k)).1.place.toList:=λj r=>by rw[pl];exact Ev.mpr (.inr r)
 refine⟨⟨T.size,J.1.up,J.1.nd,λj r=>?_,?_,λj e U=>?_⟩,J.2⟩
 ·rw[pl]at r;rcases Ev.mp r with q|q
  ·rw[q];exact Bv (Xr _ _ _) O
  ·exact T.within j q
 ·rw[pl];have a:=(Fv (t.put (Ps t.mask z g k)).2 (Ps t.mask z g k) t.place.toList).length_eq;have c:=(Fv (t.put (Ps t.mask z g k)).2 (z,x) es).length_eq;rw[a,c,Vd,Vd,T.len]
 ·rw[pl,RG T.len]at U;rcases Ev.mp U with q|q
  ·cases q;exact nx0 g k O rfl (b.mono mem)
  ·refine ea0 ?_ (T.qm j e q);rintro a0 b0 c0 d0 e0;exact nx0 a0 b0 c0 d0 (e0.mono mem)
def Kz{α:Type}[DecidableEq α]:∀{l m:List α},l.Nodup->m.Nodup->(∀x,x∈l↔x∈m)->l.Perm m
 |[],m,_,_,h=>by
  cases m with
  |nil=>exact .nil
  |cons a J=>exact absurd ((h a).mpr Vi) (by simp)
 |a::J,m,O,r,h=>by
  obtain⟨U,Y⟩:=Qg.mp O;have a0:a∈m:=(h a).mp Vi;refine List.Perm.trans (.cons a (Kz Y (r.erase a) λx=>?_)) (List.perm_cons_erase a0).symm;constructor
  ·intro g;exact(List.mem_erase_of_ne (λ(e:x=a)=>U (by rw[<-e];exact g))).mpr ((h x).mp (Rh _ g))
  ·intro g;have b0:x≠a:=λe=>(r.not_mem_erase) (e▸g)
   rcases rc.mp ((h x).mpr (List.mem_of_mem_erase g))with z|z
   ·exact absurd z b0
   ·exact z
def Ag(g:Array (Option Nat))(j:Nat):Prop:=∃m,g[j]?=qN (qN m)
def Gv(r:j<g.size):(g.getD j (qN 0)).isNone=wN↔¬Ag g j:=by
 have e:g[j]?=qN g[j]:=Kh r;have J:g.getD j (qN 0)=g[j]:=by simp[Array.getD,r]
 rw[J];unfold Ag;rw[e];cases g[j]with
 |none=>simp
 |some m=>simp
def SG{mask:Nat}(e0:r.size=mask+1)(room:∃g,g<turns mask/\¬Ag r (LS mask h g).1):∀(Y g:Nat),Lc mask h (Ag r) g 0->turns mask<=Y+g->
  ∃O U,U<=rl mask (LS mask h O).1/\Lc mask h (Ag r) O U/\¬Ag r (Ps mask h O U)/\layClean.free mask r Y (LS mask h g).1 (LS mask h g).2=qN (Ps mask h O U):=by
 revert room;refine ea1 ?_;rintro f0 t0 g0;intro Y;induction Y with
 |zero=>
  intro g b h0;exact absurd (b.1 f0 (by lia) 0 (Va _)) g0
 |succ Y i0=>
  intro g b h0;have d0:runEnd mask (LS mask h g).1+1-(LS mask h g).1=rl mask (LS mask h g).1+1:=by
   unfold rl runEnd;split<;>lia
  have b0:∀k,k<=rl mask (LS mask h g).1->(LS mask h g).1+k<r.size:=λk J=>by rw[e0];exact Ro (Bv (Xr _ _ _) J)
  cases a0:(List.range (rl mask (LS mask h g).1+1)).find? (λk=>(r.getD ((LS mask h g).1+k) (qN 0)).isNone)with
  |none=>
   have all:=Yo.mp a0;have j0:∀k,k<=rl mask (LS mask h g).1->Ag r (Ps mask h g k):=λk J=>by
    have:=all k (Ye.mpr (Ro J));rw[Gv (b0 k J)]at this;exact Classical.not_not.mp this
   have k0:Lc mask h (Ag r) g (rl mask (LS mask h g).1+1):=⟨b.1,λk J=>j0 k (Sm J)⟩;refine eaC ?_ (i0 (g+1) k0.next (by lia));rintro O U l0 m0 n0 o0;refine nx6 O U l0 m0 n0 ?_;unfold layClean.free;rw[d0,a0];exact o0
  |some k=>
   refine ea3 ?_ (List.find?_range_eq_some.mp a0);rintro p0 q0 r0;have J:k<=rl mask (LS mask h g).1:=Sm (Ye.mp q0);refine nx6 g k J ⟨b.1,λc0 s0=>?_⟩ ((Gv (b0 k J)).mp p0) ?_
   ·have:=r0 c0 s0;have n:¬(r.getD ((LS mask h g).1+c0) (qN 0)).isNone=wN:=λq=>by rw[q]at this;cases this
    rw[Gv (b0 c0 (by grind))]at n;exact Classical.not_not.mp n
   ·unfold layClean.free;rw[d0,a0];rfl
structure LI(mask:Nat)(hs:List Int)(ow:Array (Option Nat)):Prop where
 sz:ow.size=mask+1
 at_:∀(j m:Nat),ow[j]?=qN (qN m)->∃z,hs[m]?=qN z/\∃r k,k<=rl mask (LS mask z r).1/\Ps mask z r k=j/\Lc mask z (Ag ow) r k
 one:∀(j j' m:Nat),ow[j]?=qN (qN m)->ow[j']?=qN (qN m)->j=j'
 all:∀(m:Nat),m<hs.length->∃(j:Nat),ow[j]?=qN (qN m)
def LI.nil(mask:Nat):LI mask [] (Array.replicate (mask+1) sN):=by
 have g:∀(j m:Nat),(Array.replicate (mask+1) (sN:Option Nat))[j]?=qN (qN m)->False:=λj m e=>by
  rw[Array.getElem?_replicate]at e;split at e<;>cases e
 exact⟨by simp,λj m e=>(g j m e).elim,λj r m e=>(g j m e).elim,λm h=>absurd h (Nat.not_lt_zero _)⟩
def LI.room{mask:Nat}(L:LI mask U r)(b0:mi mask)(Ab:U.length<=mask)(z:Int):∃J,J<turns mask/\¬Ag r (LS mask z J).1:=by
 have:∃j,j<=mask/\¬Ag r j:=by
  apply Og;intro n;have O:∀(j:Nat),j<mask+1->∃m,r[j]?=qN (qN m):=λj g=>Og λy=>n ⟨j,Sm g,y⟩
  have c0:((List.range (mask+1)).map λj=>((r[j]?).join).getD 0).Nodup:=by
   refine Gd.mpr (Sq (λ{a b}d0 e0 f0 e=>?_) (List.nodup_range (n:=mask+1)));obtain⟨m,em⟩:=O a (Ye.mp d0);obtain⟨g0,Y⟩:=O b (Ye.mp e0);rw[em,Y]at e;have h0:m=g0:=by simpa using e
   subst h0;exact f0 (L.one a b m em Y)
  have:=zg (m:=List.range U.length) c0 λx i0=>by
   obtain⟨j,g,a0⟩:=Sa.mp i0;obtain⟨m,em⟩:=O j (Ye.mp g);rw[em]at a0;have:m=x:=by simpa using a0
   subst this;obtain⟨y,l0,_⟩:=L.at_ j m em
   grind
  rw[ua,Ef,Ef]at this;lia
 obtain⟨j,g,j0⟩:=this;obtain⟨J,k0,e⟩:=Gz b0 z g;exact⟨J,k0,e▸j0⟩
def LI.snoc{mask:Nat}(L:LI mask J O)(e0:mi mask)(Ab:J.length<=mask)(z:Int):
  ∃j,layClean.free mask O (turns mask) (bits z%(mask+1)) (bits z)=qN j/\LI mask (J++[z]) (O.setIfInBounds j (qN J.length)):=by
 refine eaC ?_ (SG (h:=z) L.sz (L.room e0 Ab z) (turns mask) 0 (Lc.zero _ _ _) (by lia));rintro g r a0 f0 g0 h0;refine⟨_,h0,?_⟩;have o0:Ps mask z g r<O.size:=by rw[L.sz];exact Ro (Bv (Xr _ _ _) a0)
 have get:∀(j:Nat),(O.setIfInBounds (Ps mask z g r) (qN J.length))[j]?=if Ps mask z g r=j then qN (qN J.length)else O[j]?:=λj=>by
  grind
 have mono:∀j,Ag O j->Ag (O.setIfInBounds (Ps mask z g r) (qN J.length)) j:=λj⟨m,em⟩=>by
  refine⟨m,?_⟩
  grind
 have lt:∀(j m:Nat),O[j]?=qN (qN m)->m<J.length:=λj m em=>by
  obtain⟨y,U,_⟩:=L.at_ j m em;exact(rb.mp U).1
 refine⟨by simp[L.sz],λj m em=>?_,λj b0 m em Y=>?_,λm c0=>?_⟩
 ·rw[get]at em;by_cases e:Ps mask z g r=j
  ·rw[va e]at em;have i0:J.length=m:=by simpa using em
   subst i0;exact nx14 z (by simp) g r a0 e (f0.mono mono)
  ·rw[na e]at em;obtain⟨y,U,j0,k,k0,l0,m0⟩:=L.at_ j m em;exact nx14 y (by rw[Vo (lt j m em)];exact U) j0 k k0 l0 (m0.mono mono)
 ·rw[get]at em Y;by_cases e:Ps mask z g r=j
  ·grind
  ·rw[na e]at em;by_cases n0:Ps mask z g r=b0
   ·grind
   ·rw[na n0]at Y;exact L.one j b0 m em Y
 ·rw[Ya,uj]at c0;rcases Qm.mp c0 with q|q
  ·obtain⟨j,d0⟩:=L.all m q;refine⟨j,?_⟩;rw[get,na (λ(e:Ps mask z g r=j)=>g0 ⟨m,by rw[e];exact d0⟩)];exact d0
  ·exact⟨_,by rw[get,va rfl,q]⟩
def Lz{mask:Nat}(U:mi mask):∀(r g:List Int)(J:Array (Option Nat)),LI mask g J->g.length+r.length<=mask+1->
  ∃O,(r.foldl (λacc z=>do
   let(owner,k)<-acc
   let j<-layClean.free mask owner (turns mask) (bits z%(mask+1)) (bits z)
   pure (owner.setIfInBounds j (qN k),k+1)) (qN (J,g.length))).map (·.1)=qN O/\LI mask (g++r) O
 |[],g,J,L,_=>⟨J,rfl,by simp_all⟩
 |z::r,g,J,L,Ab=>by
  rw[Vd]at Ab;refine ea1 ?_ (L.snoc U (by lia) z);rintro j a0 Y;refine ea1 ?_ (Lz U r (g++[z]) _ Y (by grind));rintro O b0 L2
  grind
def UG{mask:Nat}(J:mi mask)(g:Array Int)(Ab:g.size<=mask+1):∃r,layClean mask g=qN r/\LI mask g.toList r:=by
 obtain⟨r,e,L⟩:=Lz J g.toList [] _ (LI.nil mask) (by simpa using Ab);refine⟨r,?_,L⟩;unfold layClean
 simp_all
def VG{mask:Nat}(f0:mi mask)(es:Array (Int×rN))(Ab:es.size<=mask+1)(c0 d0:Nat)(led pl:Bool):
  ∃t o,laid mask c0 d0 led pl (es.map (·.1))=qN (t,o)/\t.mask=mask/\t.led=led/\TT t (o.filterMap (es[·]?)).toList/\(o.filterMap (es[·]?)).toList.Perm es.toList:=by
 refine ea1 ?_ (UG f0 (es.map (·.1)) (by simpa using Ab));rintro g l0 L;have g0:laid mask c0 d0 led pl (es.map (·.1))=qN ({mask,place:=(((List.range (mask+1)).filterMap λj=>(g.getD j sN).map (j,·)).map (·.1)).toArray,dummies:=#[],finger:=c0,led,moves:=d0,plain:=pl},(((List.range (mask+1)).filterMap λj=>(g.getD j sN).map (j,·)).map (·.2)).toArray):=by
  unfold laid;rw[l0];rfl
 have e0:=(fz g0).1.up;refine nx6 _ _ g0 rfl rfl ?_;have mem:∀(p:Nat×Nat),p∈((List.range (mask+1)).filterMap λj=>(g.getD j sN).map (j,·))↔g[p.1]?=qN (qN p.2):=λp=>by
  rw[cn];constructor
  ·rintro⟨j,O,U⟩;have Y:j<g.size:=by rw[L.sz];exact Ye.mp O
   have a0:g.getD j sN=g[j]:=by simp[Array.getD,Y]
   rw[a0]at U;rw[Jd]at U;obtain⟨m,em,rfl⟩:=U;rw[Kh Y,em]
  ·intro e;have Y:p.1<g.size:=(xj.mp e).1;refine⟨p.1,Ye.mpr (by rw[<-L.sz];exact Y),?_⟩;have a0:g.getD p.1 sN=qN p.2:=by
    have:=(xj.mp e).2;simp[Array.getD,Y,this]
   rw[a0];rfl
 have lt:∀p,p∈((List.range (mask+1)).filterMap λj=>(g.getD j sN).map (j,·))->p.2<es.size:=λp r=>by
  obtain⟨z,hz,_⟩:=L.at_ _ _ ((mem p).mp r);have:=(rb.mp hz).1;simpa using this
 have h0:(((List.range (mask+1)).filterMap λj=>(g.getD j sN).map (j,·)).map (·.1)).Pairwise (·<·):=e0;generalize((List.range (mask+1)).filterMap λj=>(g.getD j sN).map (j,·))=J at mem lt h0 e0⊢;have m0:∀l:List (Nat×Nat),(∀p,p∈l->p.2<es.size)->(l.map (·.2)).filterMap (es[·]?)=l.map λp=>es.getD p.2 (0,.none):=by
  intro l;induction l with
  |nil=>intro _;rfl
  |cons a i0 n0=>
   intro h;have b0:=h a Vi;rw[Sc,wh,Kh b0,Sc,n0 λp r=>h p (Rh _ r)];simp[Array.getD,b0]
 have o0:(((J.map (·.2)).toArray).filterMap (es[·]?)).toList=J.map λp=>es.getD p.2 (0,.none):=by
  rw[Array.toList_filterMap,m0 J lt]
 have p0:∀j,Ag g j↔j∈J.map (·.1):=λj=>by
  constructor
  ·rintro⟨m,em⟩;exact Sa.mpr ⟨(j,m),(mem (j,m)).mpr em,rfl⟩
  ·intro O;obtain⟨p,r,rfl⟩:=Sa.mp O;exact⟨p.2,(mem p).mp r⟩
 rw[o0];refine⟨⟨f0,e0,rfl,λj O=>?_,by simp,λj e q0=>?_⟩,?_⟩
 ·obtain⟨p,r,rfl⟩:=Sa.mp (show j∈J.map (·.1)from O);have:=(xj.mp ((mem p).mp r)).1;rw[L.sz]at this;exact Sm this
 ·have j0:(j,e)∈(J.map (·.1)).zip (J.map λp=>es.getD p.2 (0,.none)):=q0;rw[List.zip_map']at j0;refine ea1 ?_ (Sa.mp j0);rintro p r ep;cases ep;obtain⟨z,hz,i0,k,r0,s0,t0⟩:=L.at_ _ _ ((mem p).mp r);have u0:z=(es.getD p.2 (0,.none)).1:=by
   have k0:=lt p r;rw[Kd,Array.getElem?_map,Kh k0]at hz;have:z=es[p.2].1:=by simpa using hz.symm
   rw[this];simp[Array.getD,k0]
  subst u0;exact nx0 i0 k r0 s0 (t0.mono λj O=>(p0 j).mp O)
 ·have v0:(J.map (·.2)).Nodup:=by
   refine Gd.mpr (Sq (λ{a b}b0 w0 B0 e=>?_) (Gd.mp h0));have:=L.one a.1 b.1 a.2 ((mem a).mp b0) (by rw[e];exact(mem b).mp w0);simp_all
  have x0:(J.map (·.2)).Perm (List.range es.size):=Kz v0 List.nodup_range λm=>by
   rw[Ye];constructor
   ·intro h;obtain⟨p,r,rfl⟩:=Sa.mp h;exact lt p r
   ·intro h;obtain⟨j,U⟩:=L.all m (by simpa using h);exact Sa.mpr ⟨(j,m),(mem (j,m)).mpr U,rfl⟩
  have y0:(J.map λp=>es.getD p.2 (0,.none))=(J.map (·.2)).map λm=>es.getD m (0,.none):=by rw[Ve];rfl
  have a0:es.toList=(List.range es.size).map λm=>es.getD m (0,.none):=by
   apply List.ext_getElem
   ·simp
   ·intro i z0 C0;have A0:i<es.size:=by simpa using z0
    simp[Array.getD,A0]
  rw[y0,a0];exact x0.map _
end My
namespace My
open PySem PySem.Spec PyProof.Rows L2 PyProof PySem.SeqAt
def Zr(h h':EN):Prop:=∀b o xs n,h.get? b=qN o->o.cls=.type "tuple"->o.data=.seq xs n->h'.get? b=qN o
structure HVK(K:Type)[DecidableEq K]where
 is:EN->K->rN->Prop
 hash:K->Int
 d:Nat
 inj:∀{h:EN}{x y:K}{v:rN},is h x v->is h y v->x=y
 keep:∀{h h':EN}{k:K}{v:rN},is h k v->Zr h h'->is h' k v
 pyHash:∀{prog:zN}{w:AN}{A:BN}{E:rN->tN->Prop}{s:tN}{k:K}{v:rN}{Q:Int->tN->Prop},A.units+d<CN->is s.heap k v->(∀tk,Q (hash k) {s with toks:=tk})->wpAny (xN prog w) A (PySem.pyHash v) Q E s
 eq:∀{A:BN}{s:tN}{x y:K}{u v:rN},A.units+d<CN->is s.heap x u->is s.heap y v->EqAt A s u v (decide (x=y))
 quiet:∀{prog:zN}{w:AN}{A:BN}{E:rN->tN->Prop}{s:tN}{k:K}{v:rN}{Q:Bool->tN->Prop}(n:Nat),d<=n->is s.heap k v->Q wN s->wpAny (xN prog w) A (cP n v) Q E s
 cls:∀{prog:zN}{w:AN}{A:BN}{E:rN->tN->Prop}{s:tN}{k:K}{v:rN}{Q:Bool->tN->Prop}(n:Nat),d<=n->is s.heap k v->Q yN s->wpAny (xN prog w) A (sO n v) Q E s
 byv:∀{prog:zN}{w:AN}{A:BN}{E:rN->tN->Prop}{s:tN}{k:K}{v:rN}{Q:Bool->tN->Prop}(n:Nat),d<=n->is s.heap k v->Q wN s->wpAny (xN prog w) A (hashByValue n v) Q E s
def HVK.int:HVK Int where
 is:=λ_ k v=>∃t,v=.int k t
 hash:=hashInt
 d:=0
 inj:=by grind
 keep:=λx _=>x
 pyHash:=λ_⟨t,e⟩h=>by subst e;exact wP (h _)
 eq:=λ_⟨t,e⟩⟨t',g⟩prog w E Q h=>by subst e;subst g;exact wpAny_eqBool_int h
 quiet:=λn _⟨t,e⟩h=>by
  subst e;rw[tP n rfl];exact ga h
 cls:=λn _⟨t,e⟩h=>by
  subst e;unfold sO;exact ga h
 byv:=λn _⟨t,e⟩h=>by
  subst e;unfold hashByValue;exact ga h
section
variable{K L:Type}[DecidableEq K][DecidableEq L]
def rm(h:EN)(v u g:rN):Prop:=∃a o n,v=.ref a/\h.get? a=qN o/\o.cls=.type "tuple"/\o.data=.seq #[u,g] n
def HVK.Zg(V:HVK K)(W:HVK L)(f0:A.units+(max V.d W.d+1)<CN)(T:rm s.heap v u g)(U:V.is s.heap x u)(Y:W.is s.heap y g)
  (h:∀a0,Q (bO (Builtin.Tuple.tupleHashOf [V.hash x,W.hash y])) {s with toks:=a0}):wpAny (xN prog w) A (PySem.pyHash v) Q E s:=by
 revert T;refine ea5 ?_;rintro a o n rfl J b0 c0;have r:s.TypeIs (.ref a) "tuple":=⟨o,J,b0⟩;have d0:A.in1.units+V.d<CN:=by show A.units+1+V.d<CN;have:=gn V.d W.d;lia
 have e0:A.in1.units+W.d<CN:=by show A.units+1+W.d<CN;have:=Om V.d W.d;lia
 unfold PySem.pyHash;unfold GO;refine ba (Tq (.inr (by lia)) (ba (Uf r Ig.lookup ?_)));refine ba (Uf r Ig.lookup ?_);refine ba (Pq r Ig (vd Ig r qu ?_ (ru _)));show wpAny _ _ (Builtin.Tuple.tupleItemsOf (.ref a)>>=λg0=>_) _ _ _;refine ba (Wq J c0 (ba ?_));rw[<-sj,show(#[u,g]:Array rN).toList=[u,g]from rfl,Wd];refine ba (ba (V.pyHash d0 U λh0=>ga ?_));show wpAny _ _ (forIn [g] _ _) _ _ _;rw[Wd];refine ba (ba (W.pyHash e0 Y λi0=>ga ?_));refine ga (show wpAny _ _ (retInt (Builtin.Tuple.tupleHashOf [V.hash x,W.hash y])) _ _ _ from ?_);refine EO (show wpAny _ _ (if(decide (-(2:Int)^63<=Builtin.Tuple.tupleHashOf [V.hash x,W.hash y])&&decide (Builtin.Tuple.tupleHashOf [V.hash x,W.hash y]<2^63))=wN then _ else _) Q E _ from ?_);unfold bO at h;by_cases O:(decide (-(2:Int)^63<=Builtin.Tuple.tupleHashOf [V.hash x,W.hash y])&&decide (Builtin.Tuple.tupleHashOf [V.hash x,W.hash y]<2^63))=wN
 ·rw[va O]at h⊢;exact ga (h _)
 ·rw[na O]at h⊢;exact ba (Ue (ga (h _)))
def HVK.Vj(V:HVK K)(W:HVK L)(v0:A.units+(max V.d W.d+1)<CN)(T:rm s.heap v g r)(i0:rm s.heap j0 J O)(b0:V.is s.heap x g)(c0:W.is s.heap y r)(d0:V.is s.heap U J)(e0:W.is s.heap Y O):
  EqAt A s v j0 (decide ((x,y)=(U,Y))):=by
 revert T;refine ea5 ?_;rintro a o n rfl k0 l0 f0;revert i0;refine ea5 ?_;rintro m0 g0 n0 rfl o0 p0 a0;have q0:A.in1.units+V.d<CN:=by show A.units+1+V.d<CN;have:=gn V.d W.d;lia
 have r0:A.in1.units+W.d<CN:=by show A.units+1+W.d<CN;have:=Om V.d W.d;lia
 by_cases h0:a=m0
 ·subst h0;obtain rfl:o=g0:=by simp_all
  rw[f0]at a0;injection a0 with e _;obtain⟨s0,t0⟩:g=J/\r=O:=by simpa using e
  subst s0;subst t0;rw[V.inj b0 d0,W.inj c0 e0,Xb rfl];exact EqAt.same _
 ·have key:=RcAt.tuples (A:=A) (e:=λj=>if j=0 then decide (x=U)else decide (y=Y)) (nx5 o k0 l0 n f0) (nx5 g0 o0 p0 n0 a0) (by lia) λj u0 w0=>by
   have:j=0\/j=1:=by have:j<2:=u0;lia
   rcases this with rfl|rfl
   ·exact V.eq q0 b0 d0
   ·exact W.eq r0 c0 e0
  have e:((List.range (min (#[g,r]:Array rN).size (#[J,O]:Array rN).size)).all (λj=>if j=0 then decide (x=U)else decide (y=Y))&&((#[g,r]:Array rN).size==(#[J,O]:Array rN).size))=decide ((x,y)=(U,Y)):=by
   show((List.range 2).all _&&wN)=_;rw[show List.range 2=[0,1]from rfl];simp[Bool.decide_and]
  rw[e]at key;exact EqAt.of_refs h0 key
def HVK.gg(V:HVK K)(W:HVK L)(n:Nat)(d0:max V.d W.d+1<=n)(T:rm s.heap v u g)(O:V.is s.heap x u)(U:W.is s.heap y g)(h:Q wN s):wpAny (xN prog w) A (cP n v) Q E s:=by
 revert T;refine ea5 ?_;rintro a o c rfl r Y a0;have J:s.TypeIs (.ref a) "tuple":=⟨o,r,Y⟩;obtain⟨m,rfl⟩:∃m,n=m+1:=⟨n-1,by lia⟩;have b0:V.d<=m:=by have:=gn V.d W.d;lia
 have c0:W.d<=m:=by have:=Om V.d W.d;lia
 unfold cP;refine ba (Uf J F.slot_tuple_eq.lookup (ba (Wm J isSubtype_tuple_tuple ?_)));simp only[Bool.not_true,Mg,Be];refine ba (Ff r a0 (ba ?_));show wpAny _ _ (forIn (#[u,g]:Array rN) _ _) _ _ _;rw[<-sj,show(#[u,g]:Array rN).toList=[u,g]from rfl,Wd];refine ba (ba (V.quiet m b0 O (ga ?_)));show wpAny _ _ (forIn [g] _ _) _ _ _;rw[Wd];exact ba (ba (W.quiet m c0 U (ga (ga (ga h)))))
def HVK.ni(V:HVK K)(W:HVK L)(n:Nat)(d0:max V.d W.d+1<=n)(T:rm s.heap v u g)(J:V.is s.heap x u)(O:W.is s.heap y g)(h:Q yN s):wpAny (xN prog w) A (sO n v) Q E s:=by
 revert T;refine ea5 ?_;rintro a o c rfl r U Y;have a0:s.TypeIs (.ref a) "tuple":=⟨o,r,U⟩;obtain⟨m,rfl⟩:∃m,n=m+1:=⟨n-1,by lia⟩;have b0:V.d<=m:=by have:=gn V.d W.d;lia
 have c0:W.d<=m:=by have:=Om V.d W.d;lia
 unfold sO;refine ba (oh a0 ?_);refine ba (ga (ba (Ff r Y (ba ?_))));rw[<-sj,show(#[u,g]:Array rN).toList=[u,g]from rfl,Wd];refine ba (ba (V.cls m b0 J (ga ?_)));show wpAny _ _ (forIn [g] _ _) _ _ _;rw[Wd];exact ba (ba (W.cls m c0 O (ga (ga (ga h)))))
def HVK.oi(V:HVK K)(W:HVK L)(n:Nat)(d0:max V.d W.d+1<=n)(T:rm s.heap v u g)(J:V.is s.heap x u)(O:W.is s.heap y g)(h:Q wN s):wpAny (xN prog w) A (hashByValue n v) Q E s:=by
 revert T;refine ea5 ?_;rintro a o c rfl r U Y;have a0:s.TypeIs (.ref a) "tuple":=⟨o,r,U⟩;obtain⟨m,rfl⟩:∃m,n=m+1:=⟨n-1,by lia⟩;have b0:V.d<=m:=by have:=gn V.d W.d;lia
 have c0:W.d<=m:=by have:=Om V.d W.d;lia
 refine ba (Uf a0 Ig.lookup (ba (Ff r Y (ba ?_))));show wpAny _ _ (forIn (#[u,g]:Array rN) _ _) _ _ _;rw[<-sj,show(#[u,g]:Array rN).toList=[u,g]from rfl,Wd];refine ba (ba (V.byv m b0 J (ga ?_)));show wpAny _ _ (forIn [g] _ _) _ _ _;rw[Wd];exact ba (ba (W.byv m c0 O (ga (ga (ga h)))))
def HVK.pair(V:HVK K)(W:HVK L):HVK (K×L)where
 is:=λh k v=>∃u J,rm h v u J/\V.is h k.1 u/\W.is h k.2 J
 hash:=λk=>bO (Builtin.Tuple.tupleHashOf [V.hash k.1,W.hash k.2])
 d:=max V.d W.d+1
 inj:=λ{h x y v}⟨u,J,⟨a,o,n,e,d0,Y,U⟩,g,r⟩⟨z,f0,⟨l0,g0,m0,h0,n0,o0,e0⟩,a0,b0⟩=>by
  subst e;cases h0;obtain rfl:o=g0:=by simp_all
  rw[U]at e0;injection e0 with e _;obtain⟨i0,j0⟩:u=z/\J=f0:=by simpa using e
  subst i0;subst j0;exact Uh (V.inj g a0) (W.inj r b0)
 keep:=λ{h h' k v}⟨u,J,⟨a,o,n,e,d0,Y,U⟩,g,r⟩kp=>nx0 u J (nx2 a o n e (kp a o _ _ d0 Y U) Y U) (V.keep g kp) (W.keep r kp)
 pyHash:=λc0⟨_,_,T,g,r⟩h=>V.Zg W c0 T g r h
 eq:=λ{_ _ x y _ _}c0⟨_,_,T,g,r⟩⟨_,_,k0,a0,b0⟩=>V.Vj W c0 T k0 g r a0 b0
 quiet:=λn O⟨_,_,T,g,r⟩h=>V.gg W n O T g r h
 cls:=λn O⟨_,_,T,g,r⟩h=>V.ni W n O T g r h
 byv:=λn O⟨_,_,T,g,r⟩h=>V.oi W n O T g r h
end
open PySem.SetTable
section
variable{K:Type}[DecidableEq K]
def hj(V:HVK K)(kf:rN->K)(us:List rN)(h:EN)(a:uN)(g:List K)(led:Bool):Prop:=
 ∃o es ep t,h.get? a=qN o/\o.ExactSet/\o.data=.set es ep t/\TT t es.toList/\t.led=led/\5*es.size<3*t.mask/\(∀e∈es.toList,e.2∈us/\e.1=V.hash (kf e.2))/\(es.toList.map λe=>kf e.2).Perm g
def TT.fits{es:Array (Int×rN)}(T:TT t es.toList)(Ab:es.size<=t.mask):t.fits es.size=wN:=by
 have e:t.place.size=es.size:=by have:=T.len;simpa using this
 unfold SetTable.fits SetTable.fill;rw[T.nd,e];simp[Ab]
variable{prog:zN}{w:AN}{A:BN}{E:rN->tN->Prop}{s:tN}{V:HVK K}{kf:rN->K}{us:List rN}
def WG(g:V.d<=8)(r:∀u∈us,V.is s.heap (kf u) u)(O:x∈us)(ys:List rN)(b0:∀y∈ys,y∈us)(h:Q yN s):wpAny (xN prog w) A (searchCouldBeSeen x ys) Q E s:=by
 unfold searchCouldBeSeen;refine ba ?_;refine wpAny_forIn_list _ (λU Y s'=>Y.1=sN/\s'=s/\∀y∈U,y∈us) _ ?_ ?_ _ _ ⟨rfl,rfl,b0⟩
 ·rintro y U Y s';refine ea3 ?_;rintro J rfl c0;have a0:=c0 y Vi;have fin:ForInStep.yield ((sN,()):Option Bool×Unit)=.yield (sN,()):=rfl;refine Dk (λ_=>ga (by simp_all)) λ_=>?_
  refine ba (V.quiet 8 g (r x O) ?_);refine Dk (λz=>absurd z (by decide)) λ_=>ba (V.quiet 8 g (r y a0) ?_)
  refine Dk (λz=>absurd z (by decide)) λ_=>ba (V.cls 8 g (r x O) ?_)
  refine Dk (λz=>absurd z (by decide)) λ_=>ba (V.cls 8 g (r y a0) ?_)
  exact Dk (by simp) λ_=>ga (by grind)
 ·rintro⟨d0,e0⟩s' ⟨J,rfl,_⟩;simp only at J;subst J;exact ga h
def XG(t0:V.d<=8)(u0:A.units+V.d<CN)(v0:∀u∈us,∃b,u=.ref b)(a0:∀u∈us,V.is s.heap (kf u) u)(d0:x∈us)
  (e0:s.heap.get? a=qN o)(f0:o.data=.set es ep t)(T:TT t es.toList)(Ab:es.size<=t.mask)(b0:∀e∈es.toList,e.2∈us/\e.1=V.hash (kf e.2))
  (w0:(∃e∈es.toList,kf e.2=kf x)->Q (.there sN) s)
  (x0:∀O U,U<=rl t.mask (LS t.mask (V.hash (kf x)) O).1->Lc t.mask (V.hash (kf x)) (λj=>∃(i:Nat)(e:Int×rN),t.place[i]?=qN j/\es[i]?=qN e/\kf e.2≠kf x) O U->Ps t.mask (V.hash (kf x)) O U∉t.place.toList->Q (.free (Ps t.mask (V.hash (kf x)) O U) yN) s):
  ∀(F g k:Nat)(be:Option Probe),be.getD (t.probeStart (V.hash (kf x)))=Pb t.mask (V.hash (kf x)) g k->k<=rl t.mask (LS t.mask (V.hash (kf x)) g).1->
   Lc t.mask (V.hash (kf x)) (λj=>∃(i:Nat)(e:Int×rN),t.place[i]?=qN j/\es[i]?=qN e/\kf e.2≠kf x) g k->10*turns t.mask<F+(10*g+k)->
   wpAny (xN prog w) A (setSearchFrom a x (V.hash (kf x)) wN F be) Q E s:=by
 have g0:=T.fits Ab;have Q0:t.place.size=es.size:=by have:=T.len;simpa using this
 have live:∀j,(∃(i:Nat)(e:Int×rN),t.place[i]?=qN j/\es[i]?=qN e/\kf e.2≠kf x)->j∈t.place.toList:=by grind
 have room:=T.room (V.hash (kf x)) (by simpa using Ab);have y0:∀{g k:Nat},Lc t.mask (V.hash (kf x)) (λj=>∃(i:Nat)(e:Int×rN),t.place[i]?=qN j/\es[i]?=qN e/\kf e.2≠kf x) g k->k<=rl t.mask (LS t.mask (V.hash (kf x)) g).1->10*g+k<10*turns t.mask:=λ{g k}b a0=>by
  obtain⟨h0,R0,z0⟩:=room;have:=Av t.mask (LS t.mask (V.hash (kf x)) g).1;by_cases z:g<=h0
  ·lia
  ·exact absurd (live _ (b.1 h0 (by simp_all) 0 (Va _))) z0
 intro F;induction F with
 |zero=>
  intro g k st i0 c0 b A0;have:=y0 b c0;lia
 |succ F B0=>
  intro g k st i0 c0 b A0;unfold setSearchFrom;refine ba (Nh e0 f0 g0 ?_);dsimp only;have C0:t.gaveWay=yN:=by
   unfold SetTable.gaveWay;rcases T.size with e|e|e|e|e<;>rw[e]<;>rfl
  rw[C0,na Vc,i0];have j0:∀{i:Nat}{j:Nat},t.place[i]?=qN j->∃e,es[i]?=qN e:=λ{i j}J=>by
   have:=(xj.mp J).1;exact⟨es[i]'(by simp_all),Kh (by lia)⟩
  have key:=λ(k0:Nat->Int)(D0:∀(i:Nat)(e:Int×rN),es[i]?=qN e->k0 i=e.1)=>QG T.up T.nd (f:=k0) (h:=V.hash (kf x)) live (λi j J F0=>by
   obtain⟨e,r⟩:=j0 J;refine nx0 i e J r λz=>F0 ?_;rw[D0 i e r,(b0 e (Xa (by rw[Kd];exact r))).2,z]) room (10*turns t.mask) g k c0 b (by simp_all)
  refine eaC ?_ (key _ (λi e r=>show(es[i]?.map (·.1)).getD 0=e.1 by rw[r];rfl));rintro O U l0 m0 S0 G0;generalize n0:t.probe _ (V.hash (kf x)) (Pb t.mask (V.hash (kf x)) g k)=T0;rcases G0 with⟨I0,em⟩|⟨i,J,U0,em⟩
  ·rw[n0.symm.trans em];exact ga (x0 O U l0 m0 I0)
  ·rw[n0.symm.trans em];obtain⟨e,r⟩:=j0 J;have o0:=Xa (show es.toList[i]?=qN e by rw[Kd];exact r);obtain⟨p0,V0⟩:=b0 e o0;obtain⟨W0,q0⟩:=v0 _ p0;have J0:∀y∈((es.filter (·.1==V.hash (kf x))).toList.map (·.2)),y∈us:=λy K0=>by
    obtain⟨L0,M0,rfl⟩:=Sa.mp K0;exact(b0 L0 (Array.mem_toList_iff.mpr (Array.mem_filter.mp (Array.mem_toList_iff.mp M0)).1)).1
   dsimp only;refine Dk (λ_=>ba (WG t0 a0 d0 _ J0 ?_)) λ_=>?_
   rw[na Vc];all_goals
    rw[r];refine ba (Rc (V.eq u0 (a0 _ p0) (a0 _ d0) prog w E _ ?_));refine ba (Nh e0 f0 g0 ?_);dsimp only;by_cases Y:kf e.2=kf x
    ·rw[va (by simp[Y])];exact ga (w0 ⟨e,o0,Y⟩)
    ·rw[na (by simp[Y])];have sm:t.sameMemory t.moves t.mask=qN wN:=by unfold SetTable.sameMemory;rw[va (by simp)]
     rw[sm];dsimp only;rw[va rfl,Iz T.up J];dsimp only;rw[r];dsimp only;rw[q0];refine ba (wpAny_isSame_ref_self (ba (ga ?_)));rw[va rfl];dsimp only;rw[<-q0,na (by simp[Y])];refine eaC ?_ (Hz l0 m0 ⟨i,e,J,r,Y⟩);rintro r0 s0 N0 O0 P0 lt;rw[N0];exact B0 r0 s0 (qN (Pb t.mask (V.hash (kf x)) r0 s0)) rfl O0 P0 (by lia)
def Pf(g:List K)(n:K):List K:=if n∈g then g else g++[n]
variable{prog:zN}{w:AN}{A:BN}{E:rN->tN->Prop}{s:tN}{V:HVK K}{kf:rN->K}{us:List rN}
def YG(O:s.heap.get? a=qN o)(U:o.data=.set es ep t)(a0:t.fits es.size=wN)(g mask:Nat)(Y:sizeAbove g=mask+1)(hz:mi mask)(Ab:es.size<=mask+1)
  (h:∀r t',t'.mask=mask->t'.led=t.led->TT t' r.toList->r.toList.Perm es.toList->Q () {s with heap:=s.heap.update a (Obj.putSet r t')}):wpAny (xN prog w) A (setRelay a g) Q E s:=by
 unfold setRelay;refine ba (Nh O U a0 ?_);dsimp only;have b0:¬SetTable.sizeAbove g>vN:=by
  rw[Y];rcases hz with e|e|e|e|e<;>rw[e]<;>decide
 rw[na b0];refine eb0 ?_ (VG hz es Ab t.finger (t.movedTo mask) t.led t.plain);rintro t' J c0 f0 g0 h0 d0;have sz:(J.filterMap (es[·]?)).size=es.size:=by have:=d0.length_eq;rwa[Dc,Dc]at this
 have e0:t.relaid (es.map (·.1)) g=qN (t',J):=by
  unfold SetTable.relaid;rw[Y];exact c0
 rw[e0];refine ba (show wpAny _ _ (if((J.filterMap (es[·]?)).size !=es.size)=wN then _ else _) _ _ _ from ?_);rw[sz,na (by simp)];refine ga ?_;dsimp only;exact Xq O U (by simp_all) (by rw[sz];rcases hz with e|e|e|e|e<;>rw[e]at Ab<;>exact gb Ab (by decide))
def ZG{Q:Bool->tN->Prop}{a:uN}{O:List K}{led:Bool}{x:rN}(w0:V.d<=8)(U0:A.units+V.d<CN)(x0:∀u∈us,∃b,u=.ref b)(y0:∀u∈us,V.is s.heap (kf u) u)(m0:x∈us)
  (z0:hj V kf us s.heap a O led)(Ab:O.length<=1200)(h:∀b h',Heap.SameBut a s.heap h'->hj V kf us h' a (Pf O (kf x)) led->Q b {s with heap:=h'}):wpAny (xN prog w) A (bQ a x (V.hash (kf x))) Q E s:=by
 refine ea9 ?_ (id z0);rintro o es ep t a0 hex b0 T;refine eb4 ?_;rintro A0 c0 B0 n0;obtain⟨o1,V0⟩:=x0 x m0;have hsz:es.size=O.length:=by rw[<-Dc,<-ua (f:=λe:Int×rN=>kf e.2),n0.length_eq]
 have C0:es.size<=t.mask:=by lia
 have D0:=T.fits C0;have W0:s={s with heap:=s.heap}:=by cases s;rfl
 unfold bQ setAddHashedIn;refine Rc (ba (Nh a0 b0 D0 ?_));dsimp only;rw[show byScan x es=yN by rw[V0];rfl,na Vc];unfold setSearch;refine ba (XG w0 U0 x0 y0 m0 a0 b0 T C0 B0 ?q1 ?q2 100000 0 0 sN (LG t _) (Va _) (Lc.zero _ _ _) ?q3);case q1=>
  refine ea1 ?_;rintro e o0 ek;have X0:kf x∈O:=by grind
  refine ga ?_;rw[W0];refine h _ s.heap (Heap.SameBut.refl a s.heap) ?_;unfold Pf;rw[va X0];exact z0
 case q2=>
  intro p0 q0 F0 G0 e0;have Y0:kf x∉O:=λz=>by
   obtain⟨e,o0,ek⟩:=Sa.mp (n0.mem_iff.mpr z);obtain⟨i,f0⟩:=Hd.mp o0;have p1:i<t.place.toList.length:=by rw[T.len];exact(rb.mp f0).1
   have g0:t.place.toList[i]?=qN (t.place.toList[i]):=by simp_all
   have hz:(t.place.toList[i],e)∈t.place.toList.zip es.toList:=Xa (i:=i) (by rw[Rm];exact⟨g0,f0⟩);obtain⟨r1,k,I0,r0,J0⟩:=T.qm _ _ hz;rw[(B0 e o0).2,ek]at I0 r0 J0;rcases KG G0 J0 F0 I0 with q|⟨q1,q2⟩|q
   ·obtain⟨h0,s1,i0,K0,Z0⟩:=q;rw[r0]at i0;have t1:h0<t.place.size:=(xj.mp i0).1;have a1:h0=i:=by
     rw[Kd]at g0;by_cases lt:h0<i
     ·have:=T.up.lt lt i0 g0;simp_all
     ·by_cases b1:i<h0
      ·have:=T.up.lt b1 g0 i0;lia
      ·lia
    subst a1;rw[Kd]at f0;rw[f0]at K0;cases K0;exact Z0 ek
   ·subst q1;subst q2;rw[r0]at e0;exact e0 (by simp)
   ·exact e0 q
  have c1:Pf O (kf x)=O++[kf x]:=by unfold Pf;rw[na Y0]
  rw[c1]at h;have d1:Lc t.mask (V.hash (kf x)) (·∈t.place.toList) p0 q0:=G0.mono (by grind);obtain⟨J,j0⟩:=T.put (x:=x) F0 d1 e0;dsimp only;refine ba (Nh a0 b0 D0 ?_);dsimp only;have mk:(t.put (Ps t.mask (V.hash (kf x)) p0 q0)).1.mask=t.mask:=rfl;generalize t.put (Ps t.mask (V.hash (kf x)) p0 q0)=tp at J j0 mk⊢;obtain⟨s0,p⟩:=tp;dsimp only at J j0 mk⊢;have L0:(insertAt es p (V.hash (kf x),x)).toList=Yg p (V.hash (kf x),x) es.toList:=Jz _ _ _;rw[<-L0]at J;have t0:(insertAt es p (V.hash (kf x),x)).toList.Perm ((V.hash (kf x),x)::es.toList):=by rw[L0];exact Fv _ _ _
  have k0:(insertAt es p (V.hash (kf x),x)).size=es.size+1:=by have:=t0.length_eq;simpa using this
  generalize insertAt es p (V.hash (kf x),x)=g at J t0 k0⊢;have e1:∀e∈g.toList,e.2∈us/\e.1=V.hash (kf e.2):=by grind
  have M0:(g.toList.map λe=>kf e.2).Perm (O++[kf x]):=(t0.map _).trans ((List.Perm.cons _ n0).trans (List.perm_append_singleton _ _).symm);have N0:∀(r:SetTable),TT r g.toList->r.led=led->r.mask=t.mask->wpAny (xN prog w) A (do
    storeSet a g r
    if(!yN&&r.tooFull)=wN then do
      setRelay a (SetTable.grown (es.size+1))
      pure wN
     else pure wN) Q E s:=λr l0 O0 P0=>by
   have f1:g.size<=r.mask:=by
    rw[k0,P0];rcases T.size with e|e|e|e|e<;>rw[e]at c0⊢<;>lia
   have Q0:r.fill=g.size:=by
    unfold SetTable.fill;rw[l0.nd];have:=l0.len;simpa using this
   have u0:=Gr a0 b0 g r;have R0:=Gf s.heap a (Obj.putSet g r);refine ba (Xq a0 b0 ?_ (by rw[k0,hsz];exact gb (bp Ab) (by decide)));by_cases U:r.tooFull=wN
   ·rw[va (by simp[U])];have d0:5*(es.size+1)≥3*t.mask:=by
     unfold SetTable.tooFull at U;rw[Q0,k0,P0]at U;have:=yd U;grind
    have go:∀mask,sizeAbove (SetTable.grown (es.size+1))=mask+1->mi mask->g.size<=mask+1->5*g.size<3*mask->wpAny (xN prog w) A (do
      setRelay a (SetTable.grown (es.size+1))
      pure wN) Q E {s with heap:=s.heap.update a (Obj.putSet g r)}:=λmask g1 h1 i1 j1=>by
     refine ba (YG (s:={s with heap:=s.heap.update a (Obj.putSet g r)}) u0 rfl (l0.fits f1) _ mask g1 h1 i1 λv0 S0 k1 l1 m1 T0=>ga ?_);have n1:v0.size=g.size:=by have:=T0.length_eq;simpa using this
     exact h wN _ (R0.trans (Gf _ a _)) (nx12 _ v0 _ S0 (Gr u0 rfl v0 S0) hex rfl m1 (l1.trans O0) (by rw[n1,k1];exact j1) (by grind) ((T0.map _).trans M0))
    rcases T.size with e|e|e|e|e
    ·have Y:es.size=4:=by rw[e]at c0 d0;lia
     exact go 31 (by rw[Y];decide+kernel) (.inr (.inl rfl)) (by lia) (by lia)
    ·have Y:es.size=18:=by rw[e]at c0 d0;lia
     exact go 127 (by rw[Y];decide+kernel) (.inr (.inr (.inl rfl))) (by lia) (by lia)
    ·have Y:es.size=76:=by rw[e]at c0 d0;lia
     exact go 511 (by rw[Y];decide+kernel) (.inr (.inr (.inr (.inl rfl)))) (by lia) (by lia)
    ·have Y:es.size=306:=by rw[e]at c0 d0;lia
     exact go 2047 (by rw[Y];decide+kernel) (.inr (.inr (.inr (.inr rfl)))) (by lia) (by lia)
    ·rw[e]at d0;lia
   ·rw[na (by simp[U])];refine ga (h wN _ R0 (nx12 _ g _ r u0 hex rfl l0 O0 ?_ e1 M0));unfold SetTable.tooFull at U;rw[Q0]at U;have:¬g.size*5≥r.mask*3:=by simp_all
    lia
  have u1:TT {s0 with plain:=yN} g.toList:=⟨J.size,J.up,J.nd,J.within,J.len,J.qm⟩;refine Dk (λ_=>?_) λ_=>?_
  ·refine ba (V.byv 8 w0 (y0 x m0) ?_);rw[va rfl];exact N0 s0 J (j0.trans A0) mk
  ·refine ba (ga ?_);rw[va rfl];exact N0 s0 J (j0.trans A0) mk
 case q3=>rcases T.size with e|e|e|e|e<;>rw[e]<;>decide
end
end My
namespace My
open PySem PySem.Spec PyProof.Rows L2 PyProof PySem.SeqAt
section
variable{K:Type}[DecidableEq K]
def ah(g:List K):List K:=g.foldl Pf []
def Iv(g:List K):(ah g).length<=g.length:=by
 have key:∀(g acc:List K),(g.foldl Pf acc).length<=acc.length+g.length:=by
  intro g;induction g with
  |nil=>intro acc;exact wa _
  |cons n J r=>
   intro acc;have O:=r (Pf acc n);have U:(Pf acc n).length<=acc.length+1:=by unfold Pf;split<;>simp
   rw[List.foldl_cons,Vd];lia
 have:=key g [];unfold ah;simpa using this
def aH(g:List K)(n:K):ah (g++[n])=Pf (ah g) n:=by
 unfold ah
 simp_all
def bH(g:List K):(ah g).Nodup/\∀x,x∈ah g↔x∈g:=by
 have key:∀(g acc:List K),acc.Nodup->(g.foldl Pf acc).Nodup/\∀x,x∈g.foldl Pf acc↔x∈acc\/x∈g:=by
  intro g;induction g with
  |nil=>(intros;simp_all)
  |cons n r J=>
   intro acc h;have O:(Pf acc n).Nodup:=by
    unfold Pf;split
    ·exact h
    ·grind
   have U:∀x,x∈Pf acc n↔x∈acc\/x=n:=λx=>by
    unfold Pf;split
    ·simp_all
    ·simp
   grind
 obtain⟨a,b⟩:=key g [] List.nodup_nil;exact⟨a,λx=>by rw[ah,b];simp⟩
variable{prog:zN}{w:AN}{A:BN}{E:rN->tN->Prop}{s:tN}{V:HVK K}{kf:rN->K}{us:List rN}
def hj.keep(x:hj V kf us h a g led)(k:∀o,h.get? a=qN o->h'.get? a=qN o):hj V kf us h' a g led:=by
 revert x;refine ea4 ?_;rintro o es;refine eaA ?_;rintro ep t r J;exact nx10 o es ep t ⟨k o r,J⟩
def hj.Yp(x:hj V kf us h a r led)(J:h.get? a=qN o):o.cls≠.type "tuple":=by
 obtain⟨g,es,ep,t,O,hex,_⟩:=x;obtain rfl:o=g:=by grind
 rw[hex.1];decide
set_option maxHeartbeats 3200000 in
def cH(b0:V.d<=8)(n0:A.units+8+V.d<CN)(c0:∀u∈us,∃b,u=.ref b)(d0:∀u∈us,V.is s.heap (kf u) u)(e0:A.handled=sN)(f0:s.heap.IsList l us.toArray)(o0:us.length<=1200)
  (h:∀h' O,hj V kf us h' s.heap.objs.size (ah (us.map kf)) (!w.params.followText "set-order")->(∀b o,s.heap.get? b=qN o->h'.get? b=qN o)->Q (.ref s.heap.objs.size) {s with heap:=h',toks:=O}):
  wpAny (xN prog w) A (call (.type "set") [.ref l]) Q E s:=by
 refine jz (G:=λi h=>hj V kf us h s.heap.objs.size (ah ((us.take i).map kf)) (!w.params.followText "set-order")/\∀u∈us,V.is h (kf u) u) e0 f0 ?_ ⟨nx12 _ (#[]) 0 _ (yb _ rfl) ⟨rfl,rfl,rfl⟩ rfl (TT.fresh _ _ _) rfl (show 5*0<3*7 by decide) (λe g0=>by cases g0) (.nil),λu g=>V.keep (d0 u g) λb o _ _ e _ _=>Pa _ e⟩ ?_ λh' O J=>h h' O (by have:=J.1;rwa[vc]at this)
 ·rintro i h h' k⟨⟨o,es,ep,t,h0,c,d,i0⟩,r⟩;exact⟨nx18 o es ep t (k _ _ (by grind) h0) c d i0,λu g=>V.keep (r u g) λb o _ _ e _ d=>k b o (by grind) e⟩
 ·rintro i u s' g⟨J,r⟩Q E k;have U:=Xa g;have Y:A.in1.in1.in1.units+V.d<CN:=show A.units+1+1+1+V.d<CN by lia
  unfold setAdd;refine Rc (ba (V.pyHash Y (r u U) λj0=>?_));have k0:(ah ((us.take i).map kf)).length<=1200:=by
   have:=Iv ((us.take i).map kf);rw[ua,se]at this;lia
  refine ZG (s:={s' with toks:=j0}) b0 Y c0 r U J k0 λb l0 a0 m0=>k b l0 _ a0.2 ⟨?_,λu g=>V.keep (r u g) λb o _ _ e c _=>(a0.2 b λz=>J.Yp (by rw[<-z];exact e) c).trans e⟩
  rw[show(us.take (i+1)).map kf=(us.take i).map kf++[kf u]by rw[gc,g,Qd];rfl,aH];exact m0
end
open PySem.W
structure VO(K:Type)[DecidableEq K]extends HVK K where
 lt:K->K->Bool
 irr:∀x,lt x x=yN
 tr:∀x y z,lt x y=wN->lt y z=wN->lt x z=wN
 tot:∀x y,x≠y->lt x y=yN->lt y x=wN
 T:rN
 rfT:(T==T)=wN
 typ:∀{h:EN}{k:K}{v:rN}(M:Model),is h k v->Looks M h (typeOf v) T
 one:∀{prog:zN}{w:AN}{A:BN}{E:rN->tN->Prop}{s:tN}{x y:K}{u v:rN}{Q:Bool->tN->Prop}(b:Bool),(b=wN->(T !=Value.type "tuple")=wN)->A.units+d<CN->is s.heap x u->is s.heap y v->Q (lt x y) s->wpAny (xN prog w) A (oneLt' b u v) Q E s
def Bg{K L:Type}[DecidableEq K][DecidableEq L](f:K->K->Bool)(g:L->L->Bool)(a b:K×L):Bool:=if a.1=b.1 then g a.2 b.2 else f a.1 b.1
section
variable{K L:Type}[DecidableEq K][DecidableEq L]
def Mz(V:VO K)(W:VO L)(x:K×L):Bg V.lt W.lt x x=yN:=by unfold Bg;rw[va rfl];exact W.irr _
def Nz(V:VO K)(W:VO L)(x y z:K×L)(h:Bg V.lt W.lt x y=wN)(h':Bg V.lt W.lt y z=wN):Bg V.lt W.lt x z=wN:=by
 unfold Bg at*;by_cases e:x.1=y.1
 ·rw[va e]at h;by_cases g:y.1=z.1
  ·rw[va g]at h';rw[va (e.trans g)];exact W.tr _ _ _ h h'
  simp_all
 ·rw[na e]at h;by_cases g:y.1=z.1
  ·simp_all
  ·rw[na g]at h';have t:=V.tr _ _ _ h h';rw[na λq=>?_]
   ·exact t
   ·rw[q,V.irr]at t;cases t
def dH(V:VO K)(W:VO L)(x y:K×L)(n:x≠y)(h:Bg V.lt W.lt x y=yN):Bg V.lt W.lt y x=wN:=by
 unfold Bg at*;by_cases e:x.1=y.1
 ·rw[va e]at h;rw[va e.symm];exact W.tot _ _ (by grind) h
 ·rw[na e]at h;rw[na (λq=>e q.symm)];exact V.tot _ _ e h
def VO.int:VO Int where
 toHVK:=HVK.int
 lt:=λa b=>decide (a<b)
 irr:=λx=>by simp
 tr:=by lia
 tot:=by lia
 T:=.type "int"
 rfT:=by decide
 typ:=λM⟨t,e⟩=>by
  subst e;intro A Q E s _ q;exact oh (T:="int") rfl q
 one:=λb _ _⟨t,e⟩⟨t',g⟩h=>by
  subst e;subst g;cases b with
  |true=>exact oneLt_int h
  |false=>exact KP _ _ (lt_int h)
def VO.node:VO (Int×Int)where
 toHVK:=HVK.int.pair HVK.int
 lt:=Bg VO.int.lt VO.int.lt
 irr:=Mz VO.int VO.int
 tr:=Nz VO.int VO.int
 tot:=dH VO.int VO.int
 T:=.type "tuple"
 rfT:=by decide
 typ:=λM⟨u,j0,⟨a,o,n,e,g,r,J⟩,_⟩=>by
  subst e;intro A Q E s k q;exact oh (T:="tuple") ⟨o,k a o g,r⟩ q
 one:=λ{prog w A E s x y u v Q}b O k0⟨l0,m0,⟨a,o,n,e,g,r,J⟩,⟨n0,U⟩,⟨o0,Y⟩⟩⟨p0,q0,⟨r0,a0,b0,c0,d0,e0,f0⟩,⟨s0,g0⟩,⟨t0,h0⟩⟩h=>by
  subst e;subst c0;subst U;subst Y;subst g0;subst h0;cases b with
  |true=>exact absurd (O rfl) (by decide)
  |false=>
   refine KP _ _ (HT.Jc (ns:=[x.1,x.2]) (ms:=[y.1,y.2]) (nx5 o g r n J) (nx5 a0 d0 e0 b0 f0) (.cons _ _ (.cons _ _ .nil)) (.cons _ _ (.cons _ _ .nil)) (by lia) ?_);have i0:HT.lexLt [x.1,x.2] [y.1,y.2]=Bg VO.int.lt VO.int.lt x y:=by
    unfold Bg;rw[HT.Fb,HT.Fb,HT.Tb];by_cases q:x.1=y.1
    ·rw[va q,va q];by_cases q2:x.2=y.2
     ·rw[va q2,q2];exact(VO.int.irr _).symm
     ·rw[na q2];rfl
    ·rw[na q,na q];rfl
   rw[i0];exact h
end
end My
namespace My
open PySem PySem.Spec PyProof.Rows L2 PyProof PySem.SeqAt
section
variable{K:Type}[DecidableEq K]{V:HVK K}{kf:rN->K}{us:List rN}
variable{prog:zN}{w:AN}{A:BN}{E:rN->tN->Prop}{s:tN}{a:uN}{ks:List K}{led:Bool}
def eH(O:A.handled=sN)(Ab:ks.length<=1200)(U:hj V kf us s.heap a ks led)(Y:led=!w.params.followText "set-order")
  (h:∀(h':EN)(g:Nat)(d:Drawn)(ms:List rN),(∀b o,s.heap.get? b=qN o->h'.get? b=qN o)->(ms.map kf).Perm ks->(∀v∈ms,v∈us)->R ms {s with heap:=h',toks:=g,drawn:=d}):
  wpAny (xN prog w) A (collect (.ref a)) R E s:=by
 revert U;refine ea9 ?_;rintro o es ep t a0 hex b0 T;refine eb4 ?_;rintro c0 h0 d0 r;have e0:es.size<=1200:=by rw[<-Dc,<-ua (f:=λe:Int×rN=>kf e.2),r.length_eq];exact Ab
 refine jG O ⟨o,es,ep,t,a0,hex,b0,T.fits (by lia),T.ok,c0,gb e0 (by decide),rfl⟩ Y λh' g d ms k J=>h h' g d ms k ((J.map kf).trans (by rw[Ve];exact r)) λv f0=>?_
 obtain⟨e,g0,rfl⟩:=Sa.mp (J.mem_iff.mp f0);exact(d0 e g0).1
end
open PySem.W
abbrev Nk:=Int×Int
def ltN(a b:Nk):Bool:=Bg VO.int.lt VO.int.lt a b
def sb(H:Hp)(v:V)(n:Nk):Prop:=∃p,v=.ref p/\H p=qN (.tup [.int n.1,.int n.2])
def Gc(H:Hp)(v:V)(k:Nk×Nk):Prop:=∃p u g,v=.ref p/\H p=qN (.tup [u,g])/\sb H u k.1/\sb H g k.2
section
variable{X:Cx}{pins:List (uN×TN)}{σ:L2.St}{H:Hp}{s:tN}
def Cg(I:Inv X pins σ H s)(h:sb H v n)(g:Aa v u):(VO.int.toHVK.pair VO.int.toHVK).is s.heap n u:=by
 obtain⟨p,rfl,e⟩:=h;obtain rfl:u=Value.ref p:=g;refine ea8 ?_ (I.tuple (oa.of e));rintro c0 r⟨o,J,O,c,U⟩_;cases r with
 |cons Y t=>
  cases t with
  |cons a0 b0=>
   cases b0;exact nx0 _ _ (nx2 p o c rfl J O U) Y a0
def Jv(I:Inv X pins σ H s)(h:Gc H v k)(g:Aa v u):(VO.node.toHVK.pair VO.node.toHVK).is s.heap k u:=by
 revert h;refine ea5 ?_;rintro p a b rfl e r J;obtain rfl:u=Value.ref p:=g;refine ea8 ?_ (I.tuple (oa.of e));rintro e0 O⟨o,U,Y,c,a0⟩_;cases O with
 |cons b0 t=>
  cases t with
  |cons c0 d0=>
   cases d0;exact nx0 _ _ (nx2 p o c rfl U Y a0) (Cg I r b0) (Cg I J c0)
def Zp:∀(js:List α)(out:List rN),js.length=out.length->(∀p∈js.zip out,∃x,Aa x p.2/\R x p.1)->∃ys,Ia ys out/\Paired R ys js
 |[],[],_,_=>⟨[],.nil,.nil⟩
 |[],_::_,h,_=>by cases h
 |_::_,[],h,_=>by cases h
 |j::js,o::out,h,f=>by
  obtain⟨x,g,r⟩:=f (j,o) (by rw[Il];simp_all);obtain⟨ys,a,b⟩:=Zp js out (bn h) λp J=>f p (by rw[Il];simp_all)
  exact⟨x::ys,.cons g a,.cons r b⟩
def Kv:∀{l:List α}{m:List g}{i:Nat}{b:g},Paired F l m->m[i]?=qN b->∃a,l[i]?=qN a/\F a b:=by
 intro _ _ i _ h e;induction h generalizing i with
 |nil=>simp at e
 |cons J t r=>cases i with
  |zero=>simp_all
  |succ i=>
   refine ea1 ?_ (r (i:=i) (by simpa using e));rintro a O f
   simp_all
open Classical in
noncomputable def Mv(K:Type)[DecidableEq K](V:HVK K)(h:EN)(g:K)(u:rN):K:=if x:∃k,V.is h k u then Classical.choose x else g
def Oz{K:Type}[DecidableEq K]{V:HVK K}{g k:K}(x:V.is h k u):Mv K V h g u=k:=by
 unfold Mv;have e:∃k,V.is h k u:=⟨k,x⟩;rw[dif_pos e];exact V.inj (by grind) x
end
end My
namespace My
open PySem PySem.Spec PyProof.Rows L2 PyProof
def Qf(h:EN)(d:uN)(es:Array ON)(ep:Nat):Prop:=∃o,h.get? d=qN o/\o.ExactDict/\o.data=.dict es ep
section
variable{prog:zN}{w:AN}{A:BN}{E:rN->tN->Prop}{s:tN}{it d v:uN}{es:Array ON}{i ep:Nat}
def Qf.typeIs(x:Qf s.heap d es ep):s.TypeIs (.ref d) "dict":=by obtain⟨o,g,r,_⟩:=x;exact⟨o,g,r.1⟩
def Pz(Y:(d==NN)=yN)(r:Qf s.heap d es ep)
  (U:Q (.ref s.heap.objs.size) {s with heap:=s.heap.push {cls:=.type "dict_keyiterator",data:=.fields #[.ref d,.int 0 0,.int es.size 0,.int ep 0]}}):wpAny (xN prog w) A (zO (.ref d)) Q E s:=by
 obtain⟨o,J,a0,O⟩:=id r;have g:=r.typeIs;refine Oo g F.slot_dict_iter (vd F.slot_dict_iter g F.entry_dict_iter ?_ (F.args_dict_iter_1 _));refine ba (ba (br g (ga (show wpAny _ _ (Builtin.Dict.showsAll d>>=_) _ _ s from ?_))));unfold Builtin.Dict.showsAll;rw[na (by simp[*])];exact ba (ga (ba (Ol J O (ba (dn J O (ba (Li (ga (nx14 _ rfl ("dict_keyiterator") _ ⟨_,yb _ rfl,rfl⟩ Po.lookup (by simpa[PN]using U))))))))))
def fH{Q:rN->tN->Prop}(J:(d==NN)=yN)(g:Qf s.heap d es ep)(r:Q (.ref s.heap.objs.size) {s with heap:=s.heap.push {cls:=.type "dict_values",data:=.fields #[.ref d]}}):
  wpAny (xN prog w) A (Builtin.«dict.values» ⟨[.ref d],[]⟩) (λfin s'=>∃v,fin=.done (.ret v)/\Q v s') E s:=by
 refine ba ?_;unfold Builtin.Dict.noArgs;refine ba (br g.typeIs (ga (?_)));unfold Builtin.Dict.showsAll;rw[na (by grind)];exact ba (ga (ba (Li (ga ⟨_,rfl,r⟩))))
def gH(g:s.heap.IsValuesView v d)(O:Qf s.heap d es ep)
  (U:Q (.ref s.heap.objs.size) {s with heap:=s.heap.push {cls:=.type "dict_valueiterator",data:=.fields #[.ref d,.int 0 0,.int es.size 0,.int ep 0]}}):wpAny (xN prog w) A (zO (.ref v)) Q E s:=by
 obtain⟨b0,Y,c0,a0⟩:=id g;obtain⟨o,r,d0,J⟩:=id O;refine Oo g.typeIs F.slot_dict_values_iter (vd F.slot_dict_values_iter g.typeIs F.entry_dict_values_iter ?_ (F.args_dict_values_iter_1 _));refine ba (ga (ba (ba (rO Y a0 rfl (ga (ba (ba (Ol r J (ba (dn r J ?_))))))))));simp only[show Builtin.Dict_items.ownsTuple "dict_valueiterator"=yN by decide,Mg,Be];exact Li (ga (nx14 _ rfl ("dict_valueiterator") _ ⟨_,yb _ rfl,rfl⟩ Ko.lookup (by simpa[PN]using U)))
def Qz(g:s.heap.IsKeyIter it d i es.size ep)(a0:Qf s.heap d es ep)(b0:es[i]?=qN e)
  (c0:∀h',h'.IsKeyIter it d (i+1) es.size ep->Heap.SameBut it s.heap h'->Q (qN e.key) {s with heap:=h'}):wpAny (xN prog w) A (yO (.ref it)) Q E s:=by
 obtain⟨o,J,d0,r⟩:=id g;obtain⟨f0,O,g0,U⟩:=id a0;obtain⟨e0,rfl⟩:=xj.mp b0;refine ba (qg (Ui g.typeIs Po (vd Po g.typeIs F.entry_dict_keyiterator_next ?_ (F.args_dict_keyiterator_next_1 _))));refine ba (ga (ba (ba (ba (Oq g.typeIs (ga (ba (Ek J r ?_))))))));refine ba (ga (ba (Ol O U ?_)));rw[na (by simp)];refine ba (ga (ba (dn O U ?_)));rw[na (by simp)];refine ga ?_;simp only[show¬((i:Int)<0)from by lia,Be,mh,Kh e0];refine ba (ba (Oq g.typeIs (ga (ba (wpAny_isOneOf_keyiter g.typeIs (show wpAny _ _ (setField (.ref it) 1 (PN ((i:Int)+1))>>=_) _ _ s from ba (Ri J r (by simp) ?_)))))));have Y:(s.heap.update it (Obj.mapFields (·.setIfInBounds 1 (PN ((i:Int)+1))))).IsKeyIter it d (i+1) es.size ep:=
  ⟨_,Ki _ J (Obj.isFreed_of_fields (Lh r _)),(Co ..).trans d0,by rw[Lh r];simp[PN]⟩
 refine ba (Rc (ba (wpAny_isOneOf_keyiter Y.typeIs (?_))));exact ga (ga ⟨_,rfl,ga (c0 _ Y (Gf ..))⟩)
def hH(g:s.heap.IsValIter it d i es.size ep)(a0:Qf s.heap d es ep)(b0:es[i]?=qN e)
  (c0:∀h',h'.IsValIter it d (i+1) es.size ep->Heap.SameBut it s.heap h'->Q (qN e.val) {s with heap:=h'}):wpAny (xN prog w) A (yO (.ref it)) Q E s:=by
 obtain⟨o,J,d0,r⟩:=id g;obtain⟨f0,U,g0,Y⟩:=id a0;obtain⟨e0,rfl⟩:=xj.mp b0;refine ba (qg (Ui g.typeIs Ko (vd Ko g.typeIs F.entry_dict_valueiterator_next ?_ (F.args_dict_valueiterator_next_1 _))));refine ba (ga (ba (ba (ba (Mq g.typeIs (ga (ba (Ek J r ?_))))))));refine ba (ga (ba (Ol U Y ?_)));rw[na (by simp)];refine ba (ga (ba (dn U Y ?_)));rw[na (by simp)];refine ga ?_;simp only[show¬((i:Int)<0)from by lia,Be,mh,Kh e0];refine ba (ba (Mq g.typeIs (ga (ba (KO g.typeIs (show wpAny _ _ (setField (.ref it) 1 (PN ((i:Int)+1))>>=_) _ _ s from ba (Ri J r (by simp) ?_)))))));have O:(s.heap.update it (Obj.mapFields (·.setIfInBounds 1 (PN ((i:Int)+1))))).IsValIter it d (i+1) es.size ep:=
  ⟨_,Ki _ J (Obj.isFreed_of_fields (Lh r _)),(Co ..).trans d0,by rw[Lh r];simp[PN]⟩
 refine ba (Rc (ba (KO O.typeIs (ba (KO (s:={s with heap:=s.heap.update it (Obj.mapFields (·.setIfInBounds 1 (PN ((i:Int)+1))))}) O.typeIs (?_))))));exact ga (ga ⟨_,rfl,ga (c0 _ O (Gf ..))⟩)
def Rz(Y:A.handled=sN)(g:s.heap.IsKeyIter it d i es.size ep)(a0:Qf s.heap d es ep)(b0:es.size<=i)
  (c0:∀h',(∀b o,b≠it->s.heap.get? b=qN o->h'.get? b=qN o)->Q sN {s with heap:=h'}):wpAny (xN prog w) A (yO (.ref it)) Q E s:=by
 obtain⟨o,r,e0,J⟩:=id g;obtain⟨f0,O,g0,U⟩:=id a0;refine ba (qg (Ui g.typeIs Po (vd Po g.typeIs F.entry_dict_keyiterator_next ?_ (F.args_dict_keyiterator_next_1 _))));refine ba (ga (ba (ba (ba (Oq g.typeIs (ga (ba (Ek r J ?_))))))));refine ba (ga (ba (Ol O U ?_)));rw[na (by simp)];refine ba (ga (ba (dn O U ?_)));rw[na (by simp)];refine ga ?_;simp only[show¬((i:Int)<0)from by lia,Be,mh,ir b0];refine ba (ba (Oq g.typeIs (ga (show wpAny _ _ (setField (.ref it) 0 .none>>=_) _ _ s from ba (Ri r J (by simp) ?_)))));exact Lr Y λh' k=>c0 h' λb o d0 e=>k b o ((Jg _ _ (lc d0)).trans e)
def iH(Y:A.handled=sN)(g:s.heap.IsValIter it d i es.size ep)(a0:Qf s.heap d es ep)(b0:es.size<=i)
  (c0:∀h',(∀b o,b≠it->s.heap.get? b=qN o->h'.get? b=qN o)->Q sN {s with heap:=h'}):wpAny (xN prog w) A (yO (.ref it)) Q E s:=by
 obtain⟨o,r,e0,J⟩:=id g;obtain⟨f0,O,g0,U⟩:=id a0;refine ba (qg (Ui g.typeIs Ko (vd Ko g.typeIs F.entry_dict_valueiterator_next ?_ (F.args_dict_valueiterator_next_1 _))));refine ba (ga (ba (ba (ba (Mq g.typeIs (ga (ba (Ek r J ?_))))))));refine ba (ga (ba (Ol O U ?_)));rw[na (by simp)];refine ba (ga (ba (dn O U ?_)));rw[na (by simp)];refine ga ?_;simp only[show¬((i:Int)<0)from by lia,Be,mh,ir b0];refine ba (ba (Mq g.typeIs (ga (show wpAny _ _ (setField (.ref it) 0 .none>>=_) _ _ s from ba (Ri r J (by simp) ?_)))));exact Lr Y λh' k=>c0 h' λb o d0 e=>k b o ((Jg _ _ (lc d0)).trans e)
end
def as(ob:TN)(es:Array ON)(ep:Nat):Prop:=ob.ExactDict/\ob.data=.dict es ep
def cs(x:xc P w H h d (.Hb ob (.dT kvs)))(g:as ob es ep):
  Qf h d es ep/\es.size=kvs.length/\∀(i:Nat)k v,kvs[i]?=qN (k,v)->∃e b,es[i]?=qN e/\e.key=.ref b/\H b=qN (.tup (k.map kV))/\Aa v e.val:=by
 revert x;refine eb4 ?_;rintro r _ _;refine eb9 ?_;rintro xs J o b0 c0 O d0 U Y e0;rw[r]at O;cases O;rw[g.2]at U;cases U;refine⟨⟨ob,r,g.1,g.2⟩,?_,λi k v e=>?_⟩
 ·have:=Vb List.length Y;rw[Dc,ua,<-Ck J]at this;exact this
 ·refine eb1 ?_ (Lb J e);rintro q a0 q1 q2 q3;refine nx6 (jP (kO (Wc P w)) q) q.2.1 ?_ rfl q2 q3;rw[<-Kd,Y,lb,a0];rfl
def Sz(d:uN)(ob:TN)(kvs:List (List Key×V)):It:=
 ⟨λi H=>H d=qN (.Hb ob (.dT kvs))/\i<kvs.length,λi H v H'=>H'=H/\∃k x b,kvs[i]?=qN (k,x)/\v=.ref b/\H b=qN (.tup (k.map kV)),λi H=>H d=qN (.Hb ob (.dT kvs))/\i=kvs.length⟩
def aq(d:uN)(ob:TN)(kvs:List (List Key×V)):It:=
 ⟨λi H=>H d=qN (.Hb ob (.dT kvs))/\i<kvs.length,λi H v H'=>H'=H/\∃k,kvs[i]?=qN (k,v),λi H=>H d=qN (.Hb ob (.dT kvs))/\i=kvs.length⟩
section
variable{P:zN}{w:AN}{K:W.Frag}
def jH(d r ep:uN)(ob:TN)(kvs:List (List Key×V))(es:Array ON)(g0:as ob es ep):Yi P w K x0 (Sz d ob kvs) [r] r (λi h=>h.IsKeyIter r d i es.size ep)where
 mem:=by simp
 obj:=λi h g c J=>by
  rw[cc.mp J];revert g;refine ea8 ?_;rintro o h0 _ dd
  simp_all
 keep:=λi h h' g k=>g.at (by grind)
 item:=by
  intro X i0 j0 k0 J i n0 s o0 H E I O st U;obtain⟨hd,g⟩:=U;refine ea3 ?_ (cs (I.ya d _ hd) g0);rintro Y sz p0;obtain⟨⟨k,x⟩,l0⟩:∃q,kvs[i]?=qN q:=⟨_,Wb g⟩;refine eaC ?_ (p0 i k x l0);rintro e b q0 a0 r0 y0;refine Qz st Y q0 λh' m0 s0=>?_
  refine ea6 ?_ (O r (by simp));rintro b0 c0 t0 d0 e0 f0;refine ea8 ?_ (id m0);rintro z0 u0 v0 w0;exact⟨e.key,rfl,yp u0 v0 w0 (by decide) (nx15 (.ref b) H (I.turned (λb o a0 h0=>(s0.2 b a0).trans h0) b0 c0 d0 e0 f0) a0 ⟨rfl,nx16 k x b l0 rfl r0⟩ m0 λc A0=>by simp_all)⟩
 done:=by
  intro X i0 j0 k0 J i n0 s o0 H E I O st U;subst i0 j0 k0;obtain⟨hd,g⟩:=U;obtain⟨Y,sz,_⟩:=cs (I.ya d _ hd) g0;refine Rz (I.ok.hd J) st Y (by simp_all) λh' k=>⟨rfl,?_⟩
  refine ea6 ?_ (O r (by simp));rintro b0 c0 t0 d0 e0 f0;exact I.turned ‹_› b0 c0 d0 e0 f0
 self:=λ_ _ _ _ _ st h=>LO st h
def kH(d g ep:uN)(ob:TN)(kvs:List (List Key×V))(es:Array ON)(f0:as ob es ep):Yi P w K z0 (aq d ob kvs) [g] g (λi h=>h.IsValIter g d i es.size ep)where
 mem:=by simp
 obj:=λi h r c J=>by
  rw[cc.mp J];revert r;refine ea8 ?_;rintro o g0 _ dd
  grind
 keep:=λi h h' ⟨o,n0,o0⟩k=>⟨o,k g (by simp) o n0,o0⟩
 item:=by
  intro X h0 i0 j0 J i p0 s q0 H E I O st U;obtain⟨hd,r⟩:=U;refine ea3 ?_ (cs (I.ya d _ hd) f0);rintro Y sz r0;obtain⟨⟨k,x⟩,k0⟩:∃q,kvs[i]?=qN q:=⟨_,Wb r⟩;refine eaC ?_ (r0 i k x k0);rintro e b s0 l0 A0 t0;refine hH st Y s0 λh' m0 u0=>?_
  refine ea6 ?_ (O g (by simp));rintro a0 b0 v0 c0 d0 e0;refine ea8 ?_ (id m0);rintro B0 w0 x0 y0;exact⟨e.val,rfl,yp w0 x0 y0 (by decide) (nx15 x H (I.turned (λb o l0 g0=>(u0.2 b l0).trans g0) a0 b0 c0 d0 e0) t0 ⟨rfl,k,k0⟩ m0 λc C0=>by grind)⟩
 done:=by
  intro X h0 i0 j0 J i p0 s q0 H E I O st U;subst h0 i0 j0;obtain⟨hd,r⟩:=U;obtain⟨Y,sz,_⟩:=cs (I.ya d _ hd) f0;refine iH (I.ok.hd J) st Y (by lia) λh' k=>⟨rfl,?_⟩
  refine ea6 ?_ (O g (by simp));rintro a0 b0 v0 c0 d0 e0;exact I.turned ‹_› a0 b0 c0 d0 e0
 self:=λ_ _ _ _ _ st h=>wpAny_pyIter_valiter st h
end
open PySem.W PySem.SeqAt
abbrev hg:HVK Nk:=VO.int.toHVK.pair VO.int.toHVK
def lH(g:A.units<CN)(r:hg.is s.heap x u)(J:hg.is s.heap y v)(h:Q (.bool (ltN x y)) s):wpAny (xN prog w) A (LN .Lt u v) Q E s:=by
 revert r;refine ea0 ?_;rintro l0 m0⟨a,o,n,e,O,U,Y⟩⟨n0,a0⟩⟨o0,b0⟩;revert J;refine ea0 ?_;rintro p0 q0⟨r0,c0,d0,e0,f0,g0,h0⟩⟨s0,i0⟩⟨t0,j0⟩;subst e;subst e0;subst a0;subst b0;subst i0;subst j0;refine HT.Jc (ns:=[x.1,x.2]) (ms:=[y.1,y.2]) (nx5 o O U n Y) (nx5 c0 f0 g0 d0 h0) (.cons _ _ (.cons _ _ .nil)) (.cons _ _ (.cons _ _ .nil)) g ?_;have k0:HT.lexLt [x.1,x.2] [y.1,y.2]=ltN x y:=by
  unfold ltN Bg;rw[HT.Fb,HT.Fb,HT.Tb];by_cases q:x.1=y.1
  ·rw[va q,va q];by_cases q2:x.2=y.2
   ·rw[va q2,q2];exact(VO.int.irr _).symm
   ·rw[na q2];rfl
  ·rw[na q,na q];rfl
 rw[k0];exact h
def Tz(x:Nk):ltN x x=yN:=Mz VO.int VO.int x
def mH(a:ltN x y=wN)(b:ltN y z=wN):ltN x z=wN:=Nz VO.int VO.int x y z a b
section
variable{prog:zN}{w:AN}{A:BN}
def Uz(g:List Nk)(us:List rN)(j:Nat)(xs:Array rN):Prop:=(j=0/\xs=#[])\/∃(i:Nat)(u:rN)(k:Nk),i<j/\us[i]?=qN u/\g[i]?=qN k/\xs=#[u,u]/\∀(r:Nat)J,r<j->g[r]?=qN J->ltN J k=yN
def nH(c1:A.units+2<CN)(Q0:A.handled=sN)(d1:us.length=f0.length)(R0:us≠[])(S0:l≠I)(n0:S≠I)(T0:S≠l):
  ∀(k j:Nat)(s:tN)(xs:Array rN)(c:Nat),us.length-j=k->j<=us.length->s.heap.IsListIter I l j->s.heap.IsList l us.toArray->Uz f0 us j xs->(∀(i:Nat)u k,us[i]?=qN u->f0[i]?=qN k->hg.is s.heap k u)->
   s.heap.get? S=qN {cls:=.type "list",dict:=sN,data:=.seq xs c,slots:=#[]}->
   (∀(i:Nat)u k h' g,us[i]?=qN u->f0[i]?=qN k->(∀Y∈f0,ltN Y k=yN)->(∀b o,b≠I->b≠S->s.heap.get? b=qN o->h'.get? b=qN o)->R (.ok (.ret u)) {s with heap:=h',toks:=g})->
   codeAny (xN prog w) A (.builtin "min.loop" ⟨[.ref I,.none,.ref S],[]⟩) R s:=by
 have W:=Walks.list (prog:=prog) (w:=w) (A:=A.in1) Q0 I l S0 us.toArray;have un:(toString "min"++toString ".loop":String)="min.loop":=by decide
 have D0:us.toArray.size=us.length:=by simp
 intro k;induction k with
 |zero=>
  intro j s xs c U0 V0 t0 u0 v0 k0 g0 o0;have e1:j=us.length:=by lia
  refine og F.entry_min_loop ?_;rw[Th sh _];show wpAny _ A.in1 (bP (.ref S)>>=_) _ _ s;refine ba (Ff g0 rfl ?_);rcases v0 with⟨rfl,rfl⟩|⟨i,u,h0,W0,p0,ek,rfl,w0⟩
  ·exact absurd (by grind) R0
  ·refine ba (nh (W.done s _ _ ⟨by simp_all,u0⟩ λh' g U=>?_));have J:=U S _ (by simpa using n0) g0;refine ba (zj J rfl (ba (qh (ga ?_))));refine o0 i u h0 _ g p0 ek (λY X0=>?_) λb o l0 q0 e=>(Jg _ _ (lc q0)).trans (U b o (by simpa using l0) e)
   obtain⟨i0,r⟩:=Hd.mp X0
   grind
 |succ k F0=>
  intro j s xs c U0 V0 t0 u0 v0 k0 g0 o0;have r0:j<us.length:=by lia
  obtain⟨a0,j0⟩:∃a0,f0[j]?=qN a0:=⟨_,Wb (by simp_all)⟩;refine og F.entry_min_loop ?_;rw[Th sh _];show wpAny _ A.in1 (bP (.ref S)>>=_) _ _ s;refine ba (Ff g0 rfl ?_);have x0:∀o,s.heap.get? I=qN o->∀ys n,o.data=.seq ys n->False:=λo Y0 ys n f1=>by
   obtain⟨g1,h1,G0,i1⟩:=t0
   simp_all
  have Z0:∀o,s.heap.get? S=qN o->o.cls≠.type "tuple":=λo Y0=>by
   grind
  have go:∀h',h'.get? S=qN {cls:=.type "list",dict:=sN,data:=.seq xs c,slots:=#[]}->h'.IsListIter I l (j+1)->h'.IsList l us.toArray->(∀b o,b≠I->s.heap.get? b=qN o->h'.get? b=qN o)->∀g:Nat,∀(ys:Array rN)(c0:EN),Uz f0 us (j+1) ys->
    ((c0=h'/\ys=xs)\/c0=h'.update S (Obj.mapSeq λ_=>ys))->codeAny (xN prog w) A (.builtin "min.loop" ⟨[.ref I,.none,.ref S],[]⟩) R {s with heap:=c0,toks:=g}:=by
   intro h' J I0 J0 keep g ys c0 K0 a1;rcases a1 with⟨rfl,rfl⟩|rfl
   ·exact F0 (j+1) {s with heap:=c0,toks:=g} ys c (by grind) r0 I0 J0 K0 (λi u k d0 e0=>hg.keep (k0 i u k d0 e0) λb o _ _ e _ d=>keep b o (λz=>x0 o (by grind) _ _ d) e) J λi u k y0 z0 d0 e0 b0 L0=>o0 i u k y0 z0 d0 e0 b0 λb o l0 q0 e=>L0 b o l0 q0 (keep b o l0 e)
   ·have A0:∀b,b≠S->(h'.update S (Obj.mapSeq λ_=>ys)).get? b=h'.get? b:=λb O=>Jg _ _ (lc O)
    obtain⟨B0,b1⟩:∃B0,(h'.update S (Obj.mapSeq λ_=>ys)).get? S=qN {cls:=.type "list",dict:=sN,data:=.seq ys B0,slots:=#[]}:=⟨_,Ki _ J rfl⟩;refine F0 (j+1) {s with heap:=h'.update S (Obj.mapSeq λ_=>ys),toks:=g} ys B0 (by lia) r0 (I0.at λo e=>(A0 I (lc n0)).trans e) (J0.at λo e=>(A0 l (lc T0)).trans e) K0 (λi u k d0 e0=>hg.keep (k0 i u k d0 e0) λb o _ _ e G0 d=>(A0 b (λz=>Z0 o (by rw[<-z];exact e) G0)).trans (keep b o (λz=>x0 o (by grind) _ _ d) e)) b1 λi u k y0 z0 d0 e0 b0 L0=>o0 i u k y0 z0 d0 e0 b0 λb o l0 q0 e=>?_
    simp[*]
  have M0:s.heap.IsListIter I l j/\s.heap.IsList l us.toArray:=⟨t0,u0⟩;rcases v0 with⟨rfl,rfl⟩|⟨i,u,h0,W0,p0,ek,rfl,w0⟩
  ·refine ba (nh (W.item 0 s _ _ (by rw[D0];exact r0) M0 λv h' g C0 m0 U=>?_));have b0:us[0]?=qN v:=by simpa using C0
   have J:=U S _ (by simpa using n0) g0;refine ba (ga (ba (zj J rfl ?_)));rw[un];refine ga ⟨Te sh _,go h' J m0.1 m0.2 (λb o O e=>U b o (by simpa using O) e) g #[v,v] _ (.inr (nx8 0 v a0 (by lia) b0 j0 rfl λi0 Y s0 r=>?_)) (.inr rfl)⟩;have:i0=0:=by simp_all
   subst this;rw[j0]at r;cases r;exact Tz _
  ·refine ba (nh (W.item j s _ _ (by rw[D0];exact r0) M0 λv h' g C0 m0 U=>?_));have b0:us[j]?=qN v:=by simpa using C0
   have J:=U S _ (by simpa using n0) g0;have N0:Zr s.heap h':=λb o _ _ e _ d=>U b o (λz=>x0 o (by grind) _ _ d) e
   have O0:=go h' J m0.1 m0.2 (λb o O e=>U b o (by simpa using O) e) g;refine ba (ga (ba (nh (Rc (ba (lH (s:={s with heap:=h',toks:=g}) (x:=a0) (y:=h0) (show A.units+1<CN by lia) (hg.keep (k0 j v a0 b0 j0) N0) (hg.keep (k0 i u h0 p0 ek) N0) ?_))))));refine ba (Rc (Al (ba (qh (ga ?_)))));by_cases O:ltN a0 h0=wN
   ·rw[va O];refine ba (zj J rfl (ba (qh ?_)));rw[un];refine ga ⟨Te sh _,O0 #[v,v] _ (.inr (nx8 j v a0 (by lia) b0 j0 rfl λi0 Y s0 r=>?_)) (.inr rfl)⟩;rcases Qm.mp s0 with z|z
    ·have P0:=w0 i0 Y z r;cases c0:ltN Y a0 with
     |false=>rfl
     |true=>rw[mH c0 O]at P0;cases P0
    ·subst z;rw[j0]at r;cases r;exact Tz _
   ·rw[na O];refine ba (qh ?_);rw[un];refine ga ⟨Te sh _,O0 #[u,u] _ (.inr (nx8 i u h0 (by lia) p0 ek rfl λi0 Y s0 r=>?_)) (.inl ⟨rfl,rfl⟩)⟩;rcases Qm.mp s0 with z|z
    ·exact w0 i0 Y z r
    ·subst z;rw[j0]at r;cases r;simpa using O
end
def oH{K:W.Frag}(n0:X.A.units+16<CN)(f0:X.K=K)(g0:X.calm=wN):Kf X (.builtin "min") (λxs H Q=>∃(a:uN)(vs:List V)(g:List Nk),xs=[V.ref a]/\ca K H a vs/\Paired (sb H) vs g/\vs≠[]/\
  ∀v k,v∈vs->sb H v k->k∈g->(∀U∈g,ltN U k=yN)->Q v H):=by
 subst f0;intro o0 s p0 H xs us Q I h0 h;revert h;refine ea2 ?_;rintro l vs g rfl e pk q0 q;obtain⟨u,rfl,i0⟩:=cf h0;cases i0;refine ea8 ?_ (I.list e);rintro O Y pl _;have j0:O.length=vs.length:=Y.length.symm;have k0:O.length=g.length:=j0.trans (Ta pk);have un:(toString "min"++toString ".loop":String)="min.loop":=by decide
 have l0:∀(i:Nat)u k,O[i]?=qN u->g[i]?=qN k->hg.is s.heap k u:=λi u k r J=>by
  obtain⟨x,ex,a0⟩:=xf Y r;obtain⟨U,ek,c0⟩:=Lb pk ex;rw[J]at ek;cases ek;exact Cg I c0 a0
 have b0:=pl.isList;refine kmk_tree F.kind_min F.plain_min F.entry_min (F.args_min1 _) ?_;refine ba (MO (show Builtin.Builtins.bindParams "min" ["key","default"] 0 ⟨[],[]⟩=pure [sN,sN]from rfl) (ba (ga ?_)));have d0:l<s.heap.objs.size:=by obtain⟨_,e,_⟩:=b0;exact Na e
 refine ba (Ql b0 (ba (tj ?_ (Va _))));rw[un];have e0:∀b o,s.heap.get? b=qN o->((s.heap.push {cls:=.type "list_iterator",data:=.fields #[.ref l,.int 0 0]}).push {cls:=.type "list",data:=.seq ([]:List rN).toArray}).get? b=qN o:=λb o e=>Pa _ (Pa _ e)
 refine ga ⟨Te sh _,nH (A:=X.A) (I:=s.heap.objs.size) (l:=l) (by lia) (I.ok.hd g0) k0 (by grind) (nb d0) ?_ ?_ O.length 0 _ #[] 0 (by lia) (Va _) ?_ ?_ (.inl ⟨rfl,rfl⟩) (λi u k r J=>hg.keep (l0 i u k r J) λb o _ _ e _ _=>e0 b o e) (yb _ rfl) λi u k h' m0 r J r0 kp=>?_⟩
 ·exact Mi (show s.heap.objs.size<(s.heap.push _).objs.size by rw[Hf];exact Nat.lt_succ_self _)
 ·exact Mi (show l<(s.heap.push _).objs.size by rw[Hf];exact gr d0)
 ·exact⟨_,Pa _ (yb _ rfl),rfl,rfl⟩
 ·exact(b0.push _).push _
 ·refine ea1 ?_ (xf Y r);rintro x ex a0;refine ea1 ?_ (Lb pk ex);rintro U ek c0;rw[J]at ek;cases ek;refine⟨x,H,I.kept (t':=m0) λb o e=>kp b o (nb (Na e)) (nb (show b<(s.heap.push _).objs.size by rw[Hf];exact gr (Na e))) (e0 b o e),a0,by grind⟩
section
variable{X:Cx}{pins:List (uN×TN)}{σ:L2.St}{H:Hp}{s:tN}
def Nv(I:Inv X pins σ H s)(J:A.units+1<CN)(h:sb H v n)(g:Aa v u)(h':sb H x k)(r:Aa x z):EqAt A s u z (decide (n=k)):=hg.eq ‹_› (Cg I h g) (Cg I h' r)
def pH(h:sb H v n)(h':sb H v k):n=k:=by
 obtain⟨p,rfl,e⟩:=h;obtain⟨J,r,g⟩:=h';cases r;rw[e]at g;have:=Ed g;simp at this;exact Uh this.1 this.2
end
def Vz:∀{xs:List V}{us:List rN},Ia xs us->∀j,Ia (xs.eraseIdx j) (us.eraseIdx j)
 |_,_,.nil,_=>.nil
 |_,_,.cons _ t,0=>t
 |_,_,.cons r t,j+1=>.cons r (Vz t j)
inductive pi(x:V)(vs:List V)(H:Hp)(Q:VK):Prop|mk(l:uN)(xs:List V)(ks:List Nk)(y:V)(k:Nk)(j:Nat)(_:x=.ref l)(_:vs=[y])(_:H l=qN (.lst xs))(_:Paired (sb H) xs ks)(_:sb H y k)(_:ks[j]?=qN k)(_:(∀i,i<j->ks[i]?≠qN k))(_:∀H',H' l=qN (.lst (xs.eraseIdx j))->(∀b o,b≠l->H b=qN o->H' b=qN o)->(∀b,b≠l->H b=sN->H' b=sN)->Q .Ra H')
def qH(v0:X.A.units+16<CN):Lp X "list.remove" pi:=by
 intro w0 s x0 H x vs v us Q I k0 l0 h;obtain⟨l,xs,m0,y,k,j,rfl,rfl,e0,pk,f0,g0,y0,q⟩:=h;cases k0;obtain⟨u,rfl,h0⟩:=l0.one;refine eb7 ?_ (I.vf e0);rintro z g n O z0 e;have n0:g.length=m0.length:=O.length.symm.trans (Ta pk);have i0:j<g.length:=by rw[n0];exact(rb.mp g0).1
 have key:∀(m i:Nat)(R:lP->tN->Prop),j-i=m->i<=j->R (.ok (.ret .none)) {s with heap:=s.heap.update l (Obj.mapSeq (·.eraseIdxIfInBounds j))}->
   codeAny (xN X.prog X.w) X.A (.builtin "list.remove.loop" ⟨[.ref l,u,PN i],[]⟩) R s:=by
  intro m;induction m with
  |zero=>
   intro i R o0 p0 U;have:i=j:=by grind
   subst this;refine og MeetsSeq.entry_remove_loop ?_;rw[Th er _];show wpAny _ _ (Builtin.List.listItems (.ref l)>>=_) _ _ _;refine ba (BO e rfl ?_);obtain⟨r,J⟩:∃r,g[i]?=qN r:=⟨_,Wb i0⟩;refine ea1 ?_ (xf O J);rintro q0 Y a0;refine ea1 ?_ (Lb pk Y);rintro j0 b0 c0;rw[g0]at b0;cases b0;have d0:g.toArray[((i:Nat):Int).toNat]?=qN r:=by rw[mh];simpa using J
   rw[d0];refine ba (Nv I (A:=X.A.in1) (show X.A.units+1+1<CN by lia) c0 a0 f0 h0 X.prog X.w _ _ ?_);rw[va (Xb rfl)];exact ba (Fl e rfl (by rw[mh];exact ga U) (by rw[uc];lia) (by
    have:(g.toArray.eraseIdxIfInBounds ((i:Nat):Int).toNat).size<=g.toArray.size:=by
     unfold Array.eraseIdxIfInBounds;split
     ·rw[Array.size_eraseIdx];simp_all
     ·exact wa _
    have A0:g.toArray.size=g.length:=by simp
    have B0:(g.toArray.eraseIdxIfInBounds ((i:Nat):Int).toNat).size<=g.toArray.size:=this;show(g.toArray.eraseIdxIfInBounds ((i:Nat):Int).toNat).size<=vN+1;lia))
  |succ m r0=>
   intro i R o0 p0 U;have s0:i<g.length:=by lia
   refine og MeetsSeq.entry_remove_loop ?_;rw[Th er _];show wpAny _ _ (Builtin.List.listItems (.ref l)>>=_) _ _ _;refine ba (BO e rfl ?_);obtain⟨r,J⟩:∃r,g[i]?=qN r:=⟨_,Wb s0⟩;refine ea1 ?_ (xf O J);rintro q0 Y a0;refine ea1 ?_ (Lb pk Y);rintro j0 b0 c0;have d0:g.toArray[((i:Nat):Int).toNat]?=qN r:=by rw[mh];simpa using J
   rw[d0];refine ba (Nv I (A:=X.A.in1) (show X.A.units+1+1<CN by lia) c0 a0 f0 h0 X.prog X.w _ _ ?_);have t0:j0≠k:=by grind
   rw[he t0,na Vc];have u0:PN (((i:Nat):Int)+1)=PN ((i+1:Nat):Int):=by rw[Int.natCast_add];rfl
   rw[u0];exact ga ⟨Te er _,r0 (i+1) R (by grind) (by grind) U⟩
 refine fP (XO lu.plain F.entry_list_remove (lu.check _ _ _ _ _ _ _ _ ⟨_,e,rfl⟩ (F.args_list_remove_2 _ _) ?_));refine ba (ga (ga ⟨Te er _,key j 0 _ (by simp_all) (Va _) ?_⟩));refine⟨.Ra,_,I.Lj (t':=s.toks) (its':=g.eraseIdx j) (ys:=xs.eraseIdx j) e0 e (by rw[Array.eraseIdxIfInBounds,dif_pos (by simpa using i0)];simp) ?_ ?_,rfl,q _ ia (λb o n e=>by rw[ja n];exact e) λb n e=>by rw[ja n];exact e⟩
 ·exact Vz O j
 ·have:=List.length_eraseIdx_le xs j;lia
inductive rH(K:W.Frag)(x y:V)(H:Hp)(Q:VK):Prop|mk(l:uN)(xs:List V)(ks:List Nk)(k:Nk)(_:y=.ref l)(_:ca K H l xs)(_:Paired (sb H) xs ks)(_:sb H x k)(_:Q (.bl (decide (k∈ks))) H)
section
variable{X:Cx}{pins:List (uN×TN)}{σ:L2.St}{H:Hp}{s:tN}
def sH(I:Inv X pins σ H s)(c0:A.units+1<CN)(O:Ia xs g)(pk:Paired (sb H) xs d0)(e0:sb H x k)(f0:Aa x u):
  ∃e:rN->Bool,(∀y,y∈g.toArray->EqAt A s y u (e y))/\(g.toArray.any e)=decide (k∈d0):=by
 classical
 refine⟨λy=>decide (∃n,hg.is s.heap n y/\n=k),λy g0=>?_,?_⟩
 ·obtain⟨i,r⟩:=Hd.mp (by simpa using g0);obtain⟨a0,ex,J⟩:=xf O r;obtain⟨n,m0,U⟩:=Lb pk ex;have:=Nv I c0 U J e0 f0;have e:decide (n=k)=decide (∃n,hg.is s.heap n y/\n=k):=by
   by_cases q:n=k
   ·rw[Xb q,Xb ⟨n,Cg I U J,q⟩]
   ·rw[he q,he];rintro⟨m,Y,rfl⟩;exact q (hg.inj (Cg I U J) Y)
  show EqAt A s y u (decide (∃n,hg.is s.heap n y/\n=k));rw[<-e];exact this
 ·rw[Bool.eq_iff_iff,Array.any_eq_true,vk];constructor
  ·rintro⟨i,r,q⟩;obtain⟨n,Y,rfl⟩:=yd q;have h0:g[i]?=qN (g.toArray[i]):=by simp at r⊢
   obtain⟨a0,ex,J⟩:=xf O h0;obtain⟨m,em,i0⟩:=Lb pk ex;rw[hg.inj Y (Cg I i0 J)];exact Xa em
  ·intro q;obtain⟨i,r⟩:=Hd.mp q;refine ea1 ?_ (Kv pk r);rintro a0 ex j0;refine ea1 ?_ (O.get ex);rintro y k0 l0;obtain⟨b0,e⟩:=rb.mp k0;refine⟨i,by simpa using b0,Xb ⟨k,?_,rfl⟩⟩;have:g.toArray[i]'(by simpa using b0)=y:=by simpa using e
   rw[this];exact Cg I j0 l0
end
def tH{K:W.Frag}(c0:X.A.units+16<CN)(g:X.K=K):Ic X (LN .In) (rH K):=by
 subst g;intro d0 s e0 H x y v u Q I r J h;obtain⟨l,xs,f0,k,rfl,O,pk,U,q⟩:=h;cases J;refine ea8 ?_ (I.list O);rintro g0 Y pl _;obtain⟨e,a0,b0⟩:=sH I (A:=X.A.in1) (by lia) Y pk U r;refine in_listAt e pl.isList a0 ?_;rw[b0];exact⟨.bl _,H,I,rfl,q⟩
def uH{r:L2.St}(I:Inv X U r H s)(e:H d=qN (.dT kvs))(Y:s.heap.get? d=qN ob):Inv X U r (upd H d (.Hb ob (.dT kvs))) s:=by
 have g:∀b,H b=sN->b≠d:=by lia
 refine⟨I.ok,I.os,I.bare,⟨I.base.keep,I.base.slot,λb o q n a0=>?_,I.base.there,λb xs q=>?_,λb o u q=>?_,λb b0 q=>?_⟩,I.loc,I.cell,?_,λx c q=>?_,λp c0=>?_,λb u q=>?_,I.len⟩
 ·have:=I.base.free b o q n a0;rw[ja (g b this)];exact this
 ·have:=I.base.tups b xs q;rw[ja λz=>by rw[z,e]at this;cases this];exact this
 ·have:=I.base.frzs b o u q;rw[ja λz=>by rw[z,e]at this;cases this];exact this
 ·obtain⟨more,q2⟩:=I.base.tbls b b0 q;exact⟨more,by rw[ja λz=>by rw[z,e]at q2;cases q2];exact q2⟩
 ·rw[ja (g _ I.free)];exact I.free
 ·rw[ja (g _ (I.ub x c q))];exact I.ub x c q
 ·refine ea3 ?_ (I.pin p c0);rintro d0 J e0;exact⟨d0,by rw[ja (g _ J)];exact J,e0⟩
 ·by_cases O:b=d
  ·subst O;rw[ia]at q;cases q;exact⟨Y,(I.ya b _ e).Hc (λc v _ z=>z) (λc z=>by rw[ja λy=>by rw[y,e]at z;cases z];exact z) λc xs z=>by rw[ja λy=>by rw[y,e]at z;cases z];exact z⟩
  ·rw[ja O]at q;exact(I.ya b u q).Hc (λc v _ z=>z) (λc z=>by rw[ja λy=>by rw[y,e]at z;cases z];exact z) λc xs z=>by rw[ja λy=>by rw[y,e]at z;cases z];exact z
section
variable{X:Cx}
def Wz{O:L2.St}(U:Inv X Y O r J)(g0:Rd r d (.dT kvs)):
  ∃ob g es ep,Inv X Y O g J/\g d=qN (.Hb ob (.dT kvs))/\(∀b o,b≠d->r b=qN o->g b=qN o)/\(∀b,b≠d->r b=sN->g b=sN)/\as ob es ep/\(d==NN)=yN/\Qf J.heap d es ep:=by
 obtain⟨ob,g,a0,b0,h0,i0⟩:∃ob g,Inv X Y O g J/\g d=qN (.Hb ob (.dT kvs))/\(∀b o,b≠d->r b=qN o->g b=qN o)/\∀b,b≠d->r b=sN->g b=sN:=by
  rcases g0 with e|⟨ob,e⟩
  ·obtain⟨ob,j0⟩:=cv (U.ya d _ e);exact nx6 ob _ (uH U e j0) ia (λb o n q=>by rw[ja n];exact q) λb n q=>by rw[ja n];exact q
  ·exact(by grind)
 refine eb4 ?_ ((show xc X.prog X.w g J.heap d (.Hb ob (.dT kvs))from a0.ya d _ b0));rintro c0 _ k0;refine eb9 ?_;rintro xs l0 o es ep d0 e0 f0 m0 n0;rw[c0]at d0;cases d0;exact nx3 ob g es ep a0 b0 h0 i0 ⟨⟨e0,f0⟩,k0,ob,c0,e0,f0⟩
def vH(J:TE):TI:=λO H R=>J O H λx r=>∃d kvs,x=.ref d/\Rd r d (.dT kvs)/\∀ob g,g d=qN (.Hb ob (.dT kvs))->(∀b o,b≠d->r b=qN o->g b=qN o)->(∀b,b≠d->r b=sN->g b=sN)->R (Sz d ob kvs) g
def wH(J:PE X o O):PI X j0 o (vH O):=by
 constructor;intro U s Y H R I h;refine xa (J U s Y H _ I h) ?_;rintro v g⟨x,k0,a0,b0,d,kvs,ex,c0,q⟩;subst ex;cases b0;refine ebH ?_ (Wz a0 c0);rintro ob d0 es ep r l0 m0 n0 e0⟨f0,g0⟩;refine Pz f0 g0 ?_;have h0:=r.kept (t':=g.toks) (h':=g.heap.push {cls:=.type "dict_keyiterator",data:=.fields #[.ref d,.int 0 0,.int es.size 0,.int ep 0]}) λb o e=>Pa _ e
 exact⟨_,[g.heap.objs.size],_,_,d0,rfl,h0,jH d _ ep ob kvs es e0,⟨_,yb _ rfl,rfl,rfl⟩,λb i0=>by
  rw[cc.mp i0];exact r.sf (wa _) (r.ya.fresh (wa _)),by simp_all⟩
def xH(J:TE):TI:=λO H R=>J O H λx r=>∃d kvs,x=.ref d/\Rd r d (.dT kvs)/\∀ob g,g d=qN (.Hb ob (.dT kvs))->(∀b o,b≠d->r b=qN o->g b=qN o)->(∀b,b≠d->r b=sN->g b=sN)->R (aq d ob kvs) g
def yH{d0 o:IN}{U Y:oO}(J:PE X o e0)(f0:YP o "values" X.env (SN o X.env)=SN o X.env:=by rfl)(g0:(U.endLine==Y.line)=wN:=by rfl):
  PI X d0 (.Call (.Attribute o "values" U) [] [] Y) (xH e0):=by
 constructor;intro a0 s b0 H R I h;refine wpAny_Call_method0_late f0 g0 (xa (J a0 s b0 H _ I h) ?_);rintro v g⟨x,v0,h0,i0,d,kvs,ex,j0,q⟩;subst ex;cases i0;refine ebH ?_ (Wz h0 j0);rintro ob c0 es ep k0 w0 x0 y0 l0⟨m0,r⟩;refine nx22 ("dict") ("dict.values") Yq F.slot_dict_values F.type_dict_values r.typeIs (λb q=>?_) (Ho rfl (PySem.evalArgs_none ?_))
 ·cases q;revert r;refine ea8 ?_;rintro n0 o0 p0 _;exact⟨n0,o0,p0.2.1⟩
 refine vd F.slot_dict_values r.typeIs F.entry_dict_values (fH m0 r ?_) (F.args_dict_values_1 _);have q0:(g.heap.push {cls:=.type "dict_values",data:=.fields #[.ref d]}).IsValuesView g.heap.objs.size d:=⟨_,yb _ rfl,rfl,rfl⟩;have O:Inv X a0 b0 c0 {g with heap:=g.heap.push {cls:=.type "dict_values",data:=.fields #[.ref d]}}:=k0.kept (t':=g.toks) λb o e=>Pa _ e
 have r0:Qf (g.heap.push {cls:=.type "dict_values",data:=.fields #[.ref d]}) d es ep:=let⟨o,J,s0⟩:=r;⟨o,Pa _ J,s0⟩
 refine gH (s:={g with heap:=g.heap.push {cls:=.type "dict_values",data:=.fields #[.ref d]}}) q0 r0 ?_;have t0:=O.kept (t':=g.toks) (h':=(g.heap.push {cls:=.type "dict_values",data:=.fields #[.ref d]}).push {cls:=.type "dict_valueiterator",data:=.fields #[.ref d,.int 0 0,.int es.size 0,.int ep 0]}) λb o e=>Pa _ e
 exact⟨_,[(g.heap.push {cls:=.type "dict_values",data:=.fields #[.ref d]}).objs.size],_,_,c0,rfl,t0,kH d _ ep ob kvs es l0,⟨_,yb _ rfl,rfl,rfl⟩,λb u0=>by
  rw[cc.mp u0];exact O.sf (wa _) (O.ya.fresh (wa _)),by simp_all⟩
end
def zH{U:TG}{Y:TS}{D:Wf}(Pv:Nat->L2.St->Hp->Prop)(h0:Pv 0 g H)(a0:∀i g H,Pv i g H->H d=qN (.Hb ob (.dT kvs)))
  (d0:∀i k x g H,kvs[i]?=qN (k,x)->Pv i g H->U x g H λr J=>Y {D with nx:=Pv (i+1),ct:=Pv (i+1),bk:=D.nx} r J)(e0:∀g H,Pv kvs.length g H->D.nx g H):
  ∃W:Nat->Nat->L2.St->Hp->Prop,(∃m,W 0 m g H)/\∀i m g H,W i m g H->
   ((aq d ob kvs).stop i H/\D.nx g H)\/((aq d ob kvs).go i H/\∃N:L2.St->Hp->Prop,(∀O H',N O H'->∃b0,b0<m/\W (i+1) b0 O H')/\∀x H',(aq d ob kvs).af i H x H'->U x g H' λr J=>Y {D with nx:=N,ct:=N,bk:=D.nx} r J):=by
 refine⟨λi m g H=>m=kvs.length-i/\i<=kvs.length/\Pv i g H,by simp_all,?_⟩;rintro i m g H;refine ea3 ?_;rintro rfl i0 p;by_cases c0:i<kvs.length
 ·refine .inr ⟨⟨a0 i g H p,c0⟩,Pv (i+1),λO H' f0=>⟨kvs.length-(i+1),by grind,rfl,c0,f0⟩,?_⟩;rintro v H' ⟨rfl,k,g0⟩;exact d0 i k v g _ g0 p
 ·have e:i=kvs.length:=by lia
  subst e;exact .inl ⟨⟨a0 _ g H p,rfl⟩,e0 g H p⟩
end My
namespace My
open PySem PySem.Spec PyProof.Rows L2 PyProof
def Xz{K:Type}[DecidableEq K](xs:List (K×uN×rN))(k:K)(a:uN)(v:rN):(eO xs k a v).length<=xs.length+1:=by
 unfold eO;split<;>simp
def ig{K:Type}[DecidableEq K](xs:List (K×uN×rN))(g:List (K×uN×rN)):List (K×uN×rN):=g.foldl (λa q=>eO a q.1 q.2.1 q.2.2) xs
def Yz{X:Cx}{Y:List (uN×TN)}{a0:L2.St}{H:Hp}{s:tN}{Q:VK}{a:uN}{r:List rN}{K:Type}[DecidableEq K]{knd:HeapKind X.prog X.w K}{g:List (K×uN×rN)}
  (f0:∀{h h':EN}{k:K}{b:uN},knd.is h k b->(∀b o ys n,h.get? b=qN o->o.data=.seq ys n->h'.get? b=qN o)->knd.is h' k b)(j0:knd.room X.A.in1.in1)(k0:X.calm=wN)(I:Inv X Y a0 H s)(pl:PlainL s.heap a r.toArray)(l0:r.length=g.length)(hz:g.length<1000000)
  (m0:∀(j:Nat)u,r[j]?=qN u->∃t q,u=.ref t/\g[j]?=qN q/\s.heap.IsTuple t #[.ref q.2.1,q.2.2]/\knd.is s.heap q.1 q.2.1)
  (fin:∀h b0,(∀b o,s.heap.get? b=qN o->h.get? b=qN o)->h.DictOfH knd s.heap.objs.size (ig [] g)->EP X Y a0 Q (.ref s.heap.objs.size) {s with heap:=h,toks:=b0}):
  wpAny (xN X.prog X.w) X.A (call (.type "dict") [.ref a]) (EP X Y a0 Q) X.xe s:=by
 have c0:∀{h h':EN},(∀b o ys n,h.get? b=qN o->o.data=.seq ys n->h'.get? b=qN o)->(∀(j:Nat)u,r[j]?=qN u->∃t q,u=.ref t/\g[j]?=qN q/\h.IsTuple t #[.ref q.2.1,q.2.2]/\knd.is h q.1 q.2.1)->∀(j:Nat)u,r[j]?=qN u->∃t q,u=.ref t/\g[j]?=qN q/\h'.IsTuple t #[.ref q.2.1,q.2.2]/\knd.is h' q.1 q.2.1:=λk J j u O=>by
  refine eaC ?_ (J j u O);rintro t q U d0⟨o,n0,c,n,d⟩f;exact nx6 t q U d0 (nx5 o (k _ _ _ _ n0 d) c n d) (f0 f k)
 refine xz (G:=λi h=>h.DictOfH knd s.heap.objs.size (ig [] (g.take i))/\(ig [] (g.take i)).length<=i/\∀(j:Nat)u,r[j]?=qN u->∃t q,u=.ref t/\g[j]?=qN q/\h.IsTuple t #[.ref q.2.1,q.2.2]/\knd.is h q.1 q.2.1) k0 I pl ?_ ⟨Heap.DictOfH.new s.heap,wa _,c0 (λb o _ _ e _=>Pa _ e) m0⟩ ?_ λh b0 kp o0=>fin h b0 kp (by have:=o0.1;rwa[l0,vc]at this)
 ·rintro i h h' k;refine ea3 ?_;rintro⟨o,es,ep,U,d0,g0,p0,q0,r0⟩e0 J;have h0:∀b o ys n,h.get? b=qN o->o.data=.seq ys n->h'.get? b=qN o:=λb o ys n e d=>k b o (by grind) e
  exact⟨nx8 o es ep (k _ _ (by grind) U) d0 g0 p0 ⟨λy s0=>f0 (q0 y s0) h0,r0⟩,e0,c0 h0 J⟩
 ·rintro i u s' O;refine ea3 ?_;rintro dd e0 J;have:=(rb.mp O).1;refine eaC ?_ (J i u O);rintro t q rfl t0 u0 v0;have e:ig [] (g.take (i+1))=eO (ig [] (g.take i)) q.1 q.2.1 q.2.2:=by rw[gc,t0];simp[ig]
  refine nx16 t _ _ rfl u0 λk=>wpAny_dictSet_heap j0 v0 dd (λw0 x0 i0=>k w0 _ i0.2 ⟨by rw[e];exact x0,?_,c0 (λb o ys n y0 d=>(i0.2 b λz=>?_).trans y0) J⟩) (gb e0 (gb (show i<=1000000 by lia) (by decide)))
  ·have:=Xz (ig [] (g.take i)) q.1 q.2.1 q.2.2;rw[e];lia
  ·obtain⟨z0,_,_,U,_,g0,_⟩:=dd
   simp_all
inductive Wj(K:W.Frag)(H:Hp):List V->List (List Key×V)->Prop where
 |nil:Wj K H [] []
 |cons{t b:uN}{q:List Key×V}{ws:List V}{ps:List (List Key×V)}(h:oa K H t [.ref b,q.2])(hb:H b=qN (.tup (q.1.map kV)))(r:Wj K H ws ps):Wj K H (.ref t::ws) (q::ps)
def um(kvs g:List (List Key×V)):List (List Key×V):=g.foldl (λa q=>Gb a q.1 q.2) kvs
def Zz:∀{g:List (List Key×V)}{r:List (List Key×uN×rN)}{kvs:List (List Key×V)}{xs:List (List Key×uN×rN)},KT H g r->KT H kvs xs->KT H (um kvs g) (ig xs r)
 |_,_,_,_,.nil,h=>h
 |_,_,_,_,.cons (a:=p) (b:=q) e J,h=>by
  have:=KT.put h p.1 e.2.1 e.2.2;rw[show eO _ p.1 q.2.1 q.2.2=eO _ q.1 q.2.1 q.2.2 by rw[e.1]]at this;have O:=Zz J this;exact O
def aA:∀(r kvs:List (List Key×V)),(um kvs r).length<=kvs.length+r.length
 |[],kvs=>wa _
 |q::g,kvs=>by
  have J:=aA g (Gb kvs q.1 q.2);have O:=Mp kvs q.1 q.2;show(um (Gb kvs q.1 q.2) g).length<=kvs.length+(g.length+1);lia
def bA{b0:L2.St}(I:Inv X m0 b0 H s):∀{J:List V}{O:List (List Key×V)}{r:List rN},Wj X.K H J O->Ia J r->
  ∃g:List (List Key×uN×rN),KT H O g/\r.length=g.length/\∀(j:Nat)u,r[j]?=qN u->∃t q,u=.ref t/\g[j]?=qN q/\s.heap.IsTuple t #[.ref q.2.1,q.2.2]/\(kO (Wc X.prog X.w)).is s.heap q.1 q.2.1
 |_,_,_,.nil,.nil=>⟨[],.nil,rfl,by(intros;simp_all)⟩
 |_,_,_,.cons (b:=b) (q:=q) h U c0,.cons d0 e0=>by
  refine ea8 ?_ (bA I c0 e0);rintro g f0 g0 h0;refine ea8 ?_ (I.tuple h);rintro r i0⟨o,j0,Y⟩_;refine ea0 ?_ (Zl i0);rintro n0 a0 rfl k0 l0;cases d0;cases k0;refine⟨(q.1,b,a0)::g,.cons ⟨rfl,U,l0⟩ f0,by simp[g0],λj u e=>?_⟩;cases j with
  |zero=>
   cases e;exact nx6 _ (q.1,b,a0) rfl rfl ⟨o,j0,Y.1,Y.2⟩ (En I.ya U)
  |succ j=>exact h0 j u (by simpa using e)
def cA{X:Cx}{K:W.Frag}(r0:X.A.units+16<CN)(Y:X.K=K)(a0:X.calm=wN):Kf X (.type "dict") (λxs H Q=>∃(a:uN)(r:List V)(g:List (List Key×V)),xs=[V.ref a]/\H a=qN (.lst r)/\Wj K H r g/\g.length<1000000/\∀p,H p=sN->Q (.ref p) (upd H p (.dT (um [] g)))):=by
 subst Y;intro s0 s t0 H xs us Q I b0 h;revert h;refine ea2 ?_;rintro a r g rfl c0 d0 hz q;obtain⟨u,rfl,e0⟩:=cf b0;cases e0;refine ea8 ?_ (I.list (ca.of c0));rintro J f0 pl _;refine ea8 ?_ (bA I d0 f0);rintro u0 O g0 h0;refine Yz (knd:=kO (Wc X.prog X.w)) (λf k=>by revert f;refine ea5 ?_;rintro i0 J n j0 k0 U l0;exact nx2 i0 J n (k _ _ _ _ j0 U) k0 U l0) (show X.A.units+2<CN by lia) a0 I pl g0 (by rw[<-Ck O];exact hz) h0 λh v0 kp dd=>?_
 revert dd;refine ec8 ?_;rintro o es ep m0 n0 o0 p0 _ q0;exact⟨.ref _,_,I.laid (o:=.dT (um [] g)) kp (wa _) (⟨gb (aA g []) (by simp only[Ak,Nm];exact gb (vj hz) (by decide)),lp.mpr (lc (nb I.big)),nx11 _ ((Zz O .nil).keeps λb ys e=>by rw[ja (nb (I.ya b _ e).lt)];exact e) o (nx15 es ep m0 n0 o0 p0 q0)⟩),rfl,q _ (I.ya.fresh (wa _))⟩
def qi{A:BN}(h:A.units+64<CN):A.units+16<CN:=by lia
section
variable{prog:zN}{w:AN}{A:BN}
def dA(kf:Nat->Int)(us:List rN)(j:Nat)(xs:Array rN):Prop:=(j=0/\xs=#[])\/∃i v t,xs=#[v,Value.int (kf i) t]/\us[i]?=qN v/\i<j/\∀g,g<j->kf i<=kf g/\(g<i->kf i<kf g)
def eA(kf:Nat->Int)(us:List rN)(v:rN):Prop:=(us=[]/\v=.none)\/∃i,us[i]?=qN v/\∀j,j<us.length->kf i<=kf j/\(j<i->kf i<kf j)
def AH{R:lP->tN->Prop}{I S l:uN}{us:List rN}(kf:Nat->Int)(s₀:tN)(A0:A.handled=sN)(B0:l≠I)(j0:S≠I)(C0:S≠l)(D0:s₀.heap.objs.size<=I)(F0:s₀.heap.objs.size<=S)
  (turn:∀(j:Nat)(u:rN)(h:EN)(Y:Nat)(s0:rN->tN->Prop)(G0:rN->tN->Prop),us[j]?=qN u->(∀b o,s₀.heap.get? b=qN o->h.get? b=qN o)->
   (∀g t,s0 (.int (kf j) t) {s₀ with heap:=h,toks:=g})->wpAny (xN prog w) A.in1 (call (.builtin "len") [u]) s0 G0 {s₀ with heap:=h,toks:=Y})
  (t0:∀v h' Y,eA kf us v->(∀b o,s₀.heap.get? b=qN o->h'.get? b=qN o)->R (.ok (.ret v)) {s₀ with heap:=h',toks:=Y}):
  ∀(k j:Nat)(h:EN)(Y:Nat)(xs:Array rN)(c:Nat),us.length-j=k->j<=us.length->h.IsListIter I l j->h.IsList l us.toArray->dA kf us j xs->
   h.get? S=qN {cls:=.type "list",dict:=sN,data:=.seq xs c,slots:=#[]}->(∀b o,s₀.heap.get? b=qN o->h.get? b=qN o)->
   codeAny (xN prog w) A (.builtin "min.loop" ⟨[.ref I,.builtin "len",.ref S],[("default",.none)]⟩) R {s₀ with heap:=h,toks:=Y}:=by
 have W:=Walks.list (prog:=prog) (w:=w) (A:=A.in1) A0 I l B0 us.toArray;have un:(toString "min"++toString ".loop":String)="min.loop":=by decide
 have u0:us.toArray.size=us.length:=by simp
 have k0:∀b o,s₀.heap.get? b=qN o->b≠I:=λb o e=>nb (ed (Na e) D0)
 have I0:∀b o,s₀.heap.get? b=qN o->b≠S:=λb o e=>nb (ed (Na e) F0)
 intro k;induction k with
 |zero=>
  intro j h Y xs c J0 K0 v0 g0 l0 c0 keep;have V0:j=us.length:=by lia
  refine og F.entry_min_loop ?_;rw[Th sh _];show wpAny _ A.in1 (bP (.ref S)>>=_) _ _ _;refine ba (Ff c0 rfl ?_);rcases l0 with⟨rfl,rfl⟩|⟨i,v,t,rfl,a0,L0,m0⟩
  ·refine ba (nh (W.done _ _ _ ⟨by simp_all,g0⟩ λh' g r=>?_));have M0:us=[]:=by grind
   refine ba (Ue (ga ?_));exact t0 .none h' g (.inl ⟨M0,rfl⟩) (by grind)
  ·refine ba (nh (W.done _ _ _ ⟨by simp_all,g0⟩ λh' g r=>?_));have O:=r S _ (by grind) c0;refine ba (zj O rfl (ba (qh (ga ?_))));exact t0 v _ g (.inr ⟨i,a0,λU n0=>by simp_all⟩) λb o e=>(Jg _ _ (by grind)).trans (r b o (by simpa using k0 b o e) (keep b o e))
 |succ k w0=>
  intro j h Y xs c J0 K0 v0 g0 l0 c0 keep;have h0:j<us.length:=by lia
  refine og F.entry_min_loop ?_;rw[Th sh _];show wpAny _ A.in1 (bP (.ref S)>>=_) _ _ _;refine ba (Ff c0 rfl ?_);have put:∀(J:EN)(d0:Nat)(ys x0:Array rN)(y0:Nat),J.IsListIter I l (j+1)->J.IsList l us.toArray->dA kf us (j+1) ys->J.get? S=qN {cls:=.type "list",dict:=sN,data:=.seq x0 y0,slots:=#[]}->(∀b o,s₀.heap.get? b=qN o->J.get? b=qN o)->
    codeAny (xN prog w) A (.builtin "min.loop" ⟨[.ref I,.builtin "len",.ref S],[("default",.none)]⟩) R {s₀ with heap:=J.update S (Obj.mapSeq λ_=>ys),toks:=d0}:=by
   intro J d0 ys x0 y0 N0 O0 P0 Q0 R0;have o0:∀b,b≠S->(J.update S (Obj.mapSeq λ_=>ys)).get? b=J.get? b:=λb i0=>Jg _ _ (lc i0)
   obtain⟨p0,S0⟩:∃p0,(J.update S (Obj.mapSeq λ_=>ys)).get? S=qN {cls:=.type "list",dict:=sN,data:=.seq ys p0,slots:=#[]}:=⟨_,Ki _ Q0 rfl⟩;exact w0 (j+1) _ d0 ys p0 (by lia) h0 (N0.at λo e=>(o0 I (lc j0)).trans e) (O0.at λo e=>(o0 l (lc C0)).trans e) P0 S0 λb o e=>(o0 b (I0 b o e)).trans (R0 b o e)
  have z0:h.IsListIter I l j/\h.IsList l us.toArray:=⟨v0,g0⟩;rcases l0 with⟨rfl,rfl⟩|⟨i,T0,q0,rfl,U0,L0,m0⟩
  ·refine ba (nh (W.item 0 _ _ _ (by rw[u0];exact h0) z0 λv h' g r0 b0 r=>?_));have a0:us[0]?=qN v:=by simpa using r0
   have O:=r S _ (by simpa using j0) c0;have e0:∀b o,s₀.heap.get? b=qN o->h'.get? b=qN o:=λb o e=>r b o (by simpa using k0 b o e) (keep b o e)
   show wpAny _ A.in1 (tryCatch (rP [v] (call (.builtin "len") [v])) _>>=_) _ _ _;refine ba (nh (Rc (turn 0 v h' g _ _ a0 e0 λd0 f0=>?_)));refine ba (zj O rfl ?_);rw[un];exact ga ⟨Te sh _,put h' d0 _ _ _ b0.1 b0.2 (.inr (nx2 0 v f0 rfl a0 (by lia) λU n0=>by
    have e:U=0:=by lia
    subst e;exact⟨Int.le_refl _,λz=>absurd z (Sh _)⟩)) O e0⟩
  ·refine ba (nh (W.item j _ _ _ (by rw[u0];exact h0) z0 λv h' g r0 b0 r=>?_));have a0:us[j]?=qN v:=by simpa using r0
   have O:=r S _ (by simpa using j0) c0;have e0:∀b o,s₀.heap.get? b=qN o->h'.get? b=qN o:=λb o e=>r b o (by simpa using k0 b o e) (keep b o e)
   show wpAny _ A.in1 (tryCatch (rP [v] (call (.builtin "len") [v])) _>>=_) _ _ _;refine ba (nh (Rc (turn j v h' g _ _ a0 e0 λd0 f0=>?_)));show wpAny _ A.in1 (tryCatch (rP [v,.int (kf j) f0] (richCompare .Lt (.int (kf j) f0) (.int (kf i) q0)>>=_)) _>>=_) _ _ _;refine ba (nh (Rc (ba (CmpOf.ints_lt (prog:=prog) (w:=w) (A:=A.in1) (P:=λi v=>∃t,v=.int (kf i) t) kf (λi v h=>h) j i _ _ _ _ _ ⟨f0,rfl⟩ ⟨q0,rfl⟩ ?_))));refine ba (Rc (Al ?_));refine ba (qh (ga ?_));by_cases i0:kf j<kf i
   ·simp only[i0,decide_true,if_true];refine ba (zj O rfl (ba (qh ?_)));rw[un];refine ga ⟨Te sh _,put h' _ _ _ _ b0.1 b0.2 (.inr (nx2 j v f0 rfl a0 (by lia) λU n0=>?_)) O e0⟩;by_cases e:U=j
    ·subst e;exact⟨Int.le_refl _,λz=>absurd z (Sh _)⟩
    ·have:=(m0 U (by lia)).1;exact⟨by lia,λ_=>by lia⟩
   ·simp only[i0,decide_false,Mg,Be];refine ba (qh ?_);rw[un];refine ga ⟨Te sh _,w0 (j+1) h' _ _ c (by lia) h0 b0.1 b0.2 (.inr (nx2 i T0 q0 rfl U0 (by lia) λU n0=>?_)) O e0⟩;by_cases e:U=j
    ·subst e;exact⟨by simp_all,λz=>by grind⟩
    ·exact m0 U (by lia)
def BH(a f v:rN):eQ "min" ⟨[a],[(Str.ofString "key",f),(Str.ofString "default",v)]⟩:=by unfold eQ;exact(by kernel_rfl)
def CH(kf:Nat->Int)(U:A.handled=sN)(g:s.heap.IsList l us.toArray)
  (turn:∀(j:Nat)(u:rN)(h:EN)(r:Nat)(O:rN->tN->Prop)(Y:rN->tN->Prop),us[j]?=qN u->(∀b o,s.heap.get? b=qN o->h.get? b=qN o)->
   (∀a0 t,O (.int (kf j) t) {s with heap:=h,toks:=a0})->wpAny (xN prog w) A.in1 (call (.builtin "len") [u]) O Y {s with heap:=h,toks:=r})
  (b0:∀v h' r,eA kf us v->(∀b o,s.heap.get? b=qN o->h'.get? b=qN o)->Q v {s with heap:=h',toks:=r}):
  wpAny (xN prog w) A (call (.builtin "min") [.ref l] [(Str.ofString "key",.builtin "len"),(Str.ofString "default",.none)]) Q E s:=by
 have un:(toString "min"++toString ".loop":String)="min.loop":=by decide
 refine kmk_tree F.kind_min F.plain_min F.entry_min (BH _ _ _) ?_;refine ba (MO (show Builtin.Builtins.bindParams "min" ["key","default"] 0 ⟨[],[(Str.ofString "key",Value.builtin "len"),(Str.ofString "default",Value.none)]⟩=pure [qN (.builtin "len"),qN .none]from rfl) (ba (ga ?_)));have c0:l<s.heap.objs.size:=by obtain⟨_,e,_⟩:=g;exact Na e
 refine ba (Ql g (ba (tj ?_ (Va _))));rw[un];have J:(s.heap.push {cls:=.type "list_iterator",data:=.fields #[.ref l,.int 0 0]}).objs.size=s.heap.objs.size+1:=Hf ..;refine ga ⟨Te sh _,AH (I:=s.heap.objs.size) (l:=l) kf s U (nb c0) (by rw[J];exact Mi (by grind)) (by rw[J];exact Mi (by grind)) (wa _) (by rw[J];exact Lg _) turn b0 us.length 0 _ s.toks #[] 0 (by lia) (Va _) ?_ ?_ (.inl ⟨rfl,rfl⟩) (yb _ rfl) λb o e=>Pa _ (Pa _ e)⟩
 ·exact⟨_,Pa _ (yb _ rfl),rfl,rfl⟩
 ·exact(g.push _).push _
end
def fA(K:W.Frag)(H:Hp)(v:V)(n:Nat):Prop:=∃l g,v=.ref l/\ca K H l g/\g.length=n
def DH(xs:List V)(ls:List Nat)(v:V):Prop:=(xs=[]/\v=.Ra)\/∃(i n:Nat),xs[i]?=qN v/\ls[i]?=qN n/\∀(j m:Nat),ls[j]?=qN m->n<=m/\(j<i->n<m)
inductive EH(K:W.Frag)(Q:VK)(vs:List V)(H1:Hp):Prop|mk(p xs ls)(_:vs=[V.ref p])(_:ca K H1 p xs)(_:Paired (fA K H1) xs ls)(_:∀v,DH xs ls v->Q v H1)
def FH(K:W.Frag)(t:TA):TE:=λg H Q=>t g H (EH K Q)
def HH{X:Cx}{K:W.Frag}{e:IN}{t:TA}{p f0 U pos q0 r0:oO}{Y:Nat}(s0:X.K=K)(t0:X.calm=wN)(u0:Gl X "min")(v0:X.mg "min"=sN)(w0:Gl X "len")(x0:X.mg "len"=sN)(y0:PA X [e] t)
  (z0:XN pos (DN [e] X.env)=(yN,SN e X.env)::XN pos (DN [] X.env):=by rfl)(A0:(XN pos (DN [e] X.env)).any (·.1)=yN:=by rfl):
  PE X (.Call (.Name "min" p) [e] [⟨qN "key",.Name "len" f0,q0⟩,⟨qN "default",.Constant .none Y U,r0⟩] pos) (FH K t):=by
 constructor;intro g0 s h0 H Q I h;subst s0;refine lh (Xf I u0 v0 boot_min ?_ (by decide) (by decide));refine callWith_kw (xa (y0 pos g0 s h0 H _ I h) ?_) z0 A0;rintro us B0⟨vs,g,i0,C0,q1⟩;obtain⟨pl,xs,ls,rfl,D0,j0,q⟩:=q1;refine ea1 ?_ (cf C0);rintro u rfl F0;cases F0;show wpAny _ _ (evalAll ((do let v<-SN (.Name "len" f0) X.env;IP pos;pure v)::[do let v<-SN (.Constant .none Y U) X.env;IP pos;pure v])) _ _ B0;refine eP (ba (Xf i0 w0 x0 mf (ba (vO (ga ?_))) (by decide) (by decide)));refine eP (ba (xa (PE.run (yh (j:=Y) (pos:=U)) g0 _ h0 g (λv k0=>v=V.Ra/\g=k0) (i0.tok _) ⟨rfl,rfl⟩) ?_));rintro u V0⟨x,k0,r,a0,ex,G0⟩;refine ba (vO (ga ?_));subst ex G0;cases a0;refine wpAny_evalAll_nil ?_;show wpAny _ _ (call (.builtin "min") [.ref pl] [(Str.ofString "key",.builtin "len"),(Str.ofString "default",.none)]) _ _ _;refine ea8 ?_ (r.list D0);rintro b0 c0 I0 _;have J0:b0.length=ls.length:=by rw[<-c0.length,Ta j0]
 have hint:∀(j:Nat)(u:rN),b0[j]?=qN u->∃l J n,xs[j]?=qN (.ref l)/\u=.ref l/\ca X.K g l J/\J.length=n/\ls[j]?=qN n:=λj u e=>by
  refine ea1 ?_ (xf c0 e);rintro x ex a0;obtain⟨n,W0,l,J,rfl,X0,Y0⟩:=Lb j0 ex;cases a0;exact(by grind)
 have d0:∀{j:Nat}{n:Nat},ls[j]?=qN n->ls.getD j 0=n:=by grind
 refine CH (us:=b0) (λj=>((ls.getD j 0:Nat):Int)) (r.ok.hd t0) I0.isList (λj u h e0 Z0 a1 K0 L0 M0=>?_) λv b1 c1 N0 l0=>?_
 ·refine ea2 ?_ (hint j u K0);rintro l J n m0 rfl n0 o0 O;have O0:=r.kept (h':=h) (t':=e0) L0;refine ea8 ?_ (O0.list n0);rintro d1 P0 Q0 hz;have R0:=P0.length;have e1:=Iu;have f1:vN=16777216:=Ni;refine Calls.call_len_list Q0.isList (by simp only[uc]<;>lia) ?_;have:=M0 (e0+1+1) (e0+1);rw[d0 O,<-o0,R0]at this;rw[uc];exact this
 ·rcases N0 with⟨S0,rfl⟩|⟨i,T0,U0⟩
  ·refine⟨.Ra,g,r.kept l0,rfl,q _ (.inl ⟨?_,rfl⟩)⟩;have:=c0.length;rw[S0]at this;exact List.length_eq_zero_iff.mp this
  ·refine ea2 ?_ (hint i _ T0);rintro l J n m0 rfl n0 o0 O;refine⟨.ref l,g,r.kept l0,rfl,q _ (.inr (nx0 i n m0 O λj m p0=>?_))⟩;have:=U0 j (by rw[J0];exact(rb.mp p0).1);simp only[d0 p0,d0 O]at this;exact(by grind)
open PySem.W PySem.SeqAt
section
variable{X:Cx}{pins:List (uN×TN)}{σ:L2.St}{H:Hp}{s:tN}
def gs{K:W.Frag}(q0:X.A.units+16<CN)(b0:X.K=K):Ou X "list.index" (λx xs H Q=>∃(l:uN)(ns:List Int)(k:Int),x=.ref l/\xs=[V.int k]/\ca K H l (ns.map V.int)/\ns.length<=1000/\k∈ns/\Q (.int ((ns.idxOf k:Nat):Int)) H):=by
 subst b0;intro pins s σ H x xs v us Q I c0 d0 h;revert h;refine ec8 ?_;rintro l ns k rfl rfl e0 Ab f0 q;cases c0;refine ea1 ?_ (cf d0);rintro u rfl⟨t,rfl⟩;refine ea8 ?_ (I.list e0);rintro g O pl _;refine ec7 ?_ pl.isList;rintro⟨cls,dd,data,g0⟩U h0 n i0;subst h0 i0;have j0:g.length=ns.length:=by rw[<-O.length,ua]
 have k0:=pu.mpr f0;have J:∀(i:Nat)(r:i<g.length),∃t',g[i]=Value.int (ns[i]'(by lia)) t':=λi r=>by
  refine ea1 ?_ (xf O (Wb r));rintro y Y l0;rw[lb,Wb (by lia)]at Y;cases Y;exact l0
 refine kP Fo ⟨_,U,rfl⟩ F.entry_list_index (F.args_list_index_2 _ _)
  (list_indexAt l g.toArray n dd g0 (.int k t) (λy=>match y with|.int m _=>decide (m=k)|_=>yN) (ns.idxOf k) (by simpa[j0]using k0) (by lia) ?_ ?_) ⟨U,λy m0=>?_,.int _,H,I.tok _,⟨_,rfl⟩,q⟩
 ·obtain⟨t',e⟩:=J (ns.idxOf k) (by lia);rw[List.getElem_toArray,e];exact Xb (by grind)
 ·intro m n0 a0;have o0:m<g.length:=by simpa using n0
  obtain⟨t',e⟩:=J m o0;rw[List.getElem_toArray,e];refine he λz=>?_
  exact absurd a0 (Nat.not_lt.mpr (by
   have:=List.not_of_lt_findIdx a0;simp[z]at this))
 ·obtain⟨i,r,e⟩:=No (by simpa using m0:y∈g);obtain⟨t',p0⟩:=J i r;rw[p0]at e;subst e;exact HVK.int.eq (by show X.A.units+1+0<CN;lia) ⟨t',rfl⟩ ⟨t,rfl⟩
end
structure bq(K:W.Frag)(x qual:Str)(st:aO)(f:uN)(fd:UN):Prop where
 ex:∃(oc:rN)(od:Option uN)(dV kV doc pm:rN)(an:Option uN)(Np ct:rN)(Zu:Array (Option rN)),
  fd=W.fnOf x qual (wf st) (we st) (Ac st) dV kV doc pm an Np ct/\K.lookup f=qN ⟨oc,od,.func fd,Zu⟩/\W.codeIn K Np qual=wN
 kp:W.keepIn K (.ref f)=wN
section
variable{P:zN}{w:AN}{K:W.Frag}{mg:Str->Option rN}{base:EN}
def bq.ok{x r:Str}{st:aO}{f:uN}{fd:UN}{N J:List Str}{k:Nat}{sp:Sp}(F:bq K x r st f fd)(S:An N J (Ac st))(len:∀vs H Q E,sp vs H Q E->vs.length=J.length)
  (O:∀(g:rN)(A:BN)(outer:List NP)(s:tN)(H:Hp)(vs:List V)(Q:VK)(E:XK),ib k (A.deeper (CO r (Ac st) s.heap.objs.size f g))->sp vs H Q E->
   ∃t,Ee (Tk Td P w K mg base N r (Ac st) f g A outer s H E).Wh (we st) t/\t {nx:=λ_ H'=>Q .Ra H',rt:=Q} (start N vs) H):kd P w K mg base Td (k+1) f fd J sp:=by
 obtain⟨b0,c0,d0,kV,e0,f0,g0,g,ct,h0,rfl,lk,U⟩:=F.ex;refine my lk U S len λA outer s H vs Q E Y a0=>?_
 refine ea1 ?_ (O g A outer s H vs Q E Y a0);rintro t h q;exact⟨t,h.Wh,q⟩
def IH{st:aO}{J kV O U g ct:rN}(l:K.lookup f=qN ⟨a0,b0,.func (W.fnOf x r (wf st) (we st) (Ac st) J kV O U Y g ct),c0⟩)
  (c:W.codeIn K g r=wN)(k:W.keepIn K (.ref f)=wN):bq K x r st f (W.fnOf x r (wf st) (we st) (Ac st) J kV O U Y g ct):=⟨by grind,k⟩
def gA(g:fd.defaults=.ref T)(r:K.lookup T=qN o)(J:o.data=.seq items n)(X:K.In s.heap)
  (h:∃k:Option (Array rN)->fQ (List (Str×rN)),uP fd args=(bP fd.defaults>>=k)/\k (qN items)=pure binds):dP s fd args binds:=by
 obtain⟨k,O,U⟩:=h;exact BindsTo.of_defaults g (X _ _ r) J O U
end
def V.Uc(h:V.int a=V.int b):a=b:=by injection h
def KN(H H':Hp):Prop:=∀b o,(∀xs,o≠HO.lst xs)->H b=qN o->H' b=qN o
def KN.of(s:aa H H'):KN H H':=λb o _ e=>s b o e
def KN.trans(a:KN A B)(b:KN B C):KN A C:=λx o n e=>b x o n (a x o n e)
def KN.but(h:H D=qN (.lst ys))(k:∀b o,b≠D->H b=qN o->H' b=qN o):KN H H':=λb o n e=>k b o (λz=>by grind) e
def KN.upd(h:H D=qN (.lst ys)):KN H (upd H D o):=KN.but h λb o n e=>by rw[ja n];exact e
def hA:∀{xs:List α}{bs:List g}{x:α}{b:g},Paired F xs bs->F x b->Paired F (xs++[x]) (bs++[b]):=by
 intro _ _ _ _ h q;induction h with
 |nil=>exact .cons q .nil
 |cons r t J=>exact .cons r J
def qs{d0 fs:L2.St}(G:Hp->V->j0->Prop)(e0:Nat->Hp->V->Prop)(n:Nat)(f:Nat->Option j0)(a0:∀H H' y b,KN H H'->G H y b->G H' y b)(k0:d0=List.replicate k sN++fs)(hz:n<=vN)
  (l0:∀i H,aa J H->i<n->b0.go i H)(m0:∀H,aa J H->b0.stop n H)(n0:∀i H v H',aa J H->i<n->b0.af i H v H'->H'=H/\e0 i H v)
  (step:∀i,i<n->∀H(U:L2.St)v(R:Option V->L2.St->Hp->Prop),aa J H->U.length=k->e0 i H v->(∀b y(r:L2.St)g,f i=qN b->r.length=k->aa H g->G g y b->R (qN y) (r++fs) g)->(f i=sN->∀(r:L2.St)g,r.length=k->aa H g->R sN (r++fs) g)->
   o0 v (U++fs) H λY p0=>q0 Y p0 λok g=>if ok=wN then r0 Y g λy s0=>R (qN y) Y s0 else R sN Y g)
  (fin:∀D H' ys,J D=sN->aa J H'->H' D=qN (.lst ys)->Paired (G H') ys ((List.range n).filterMap f)->Q (.ref D) H'):Nf d0 b0 o0 q0 r0 Q J:=by
 refine Hn n (λ_ i ys H=>Paired (G H) ys ((List.range i).filterMap f)) k0 hz l0 m0 (λ_ i _ _ p=>Ta p▸Uy f i) (λ_ _=>.nil) (λD i H ys U v H' R t0 f0 g0 h0 u0 y a b=>?_) fin;obtain⟨rfl,v0⟩:=n0 i H v H' g0 h0 y;refine step i h0 H' U v R g0 u0 v0 (λc y r g q c0 O w0=>a y r g c0 O ?_) λq r g c0 O=>b r g c0 O ?_
 ·have i0:KN g (upd g D (.lst (ys++[y]))):=KN.upd (O _ _ t0);rw[show(List.range (i+1)).filterMap f=(List.range i).filterMap f++[c]by simp[wj,q]];exact hA (Paired.Yb f0 λ_ _ z=>a0 _ _ _ _ ((KN.of O).trans i0) z) (a0 _ _ _ _ i0 w0)
 ·rw[show(List.range (i+1)).filterMap f=(List.range i).filterMap f by simp[wj,q]];exact Paired.Yb f0 λ_ _ z=>a0 _ _ _ _ (KN.of O) z
def dh{c0 fs:L2.St}{K:W.Frag}(G:Hp->V->h0->Prop)(F:Hp->V->α->Prop)(J:List α)(f:α->Option h0)(i0:∀H H' y b,KN H H'->G H y b->G H' y b)(u0:∀H H' y b,aa H H'->F H y b->F H' y b)(j0:c0=List.replicate k sN++fs)
  (b0:O l=qN (.lst xs))(d0:Paired (F O) xs J)(hz:J.length<=vN)
  (step:∀a,a∈J->∀H(Y:L2.St)v(R:Option V->L2.St->Hp->Prop),aa O H->Y.length=k->F H v a->(∀b y(U:L2.St)g,f a=qN b->U.length=k->aa H g->G g y b->R (qN y) (U++fs) g)->(f a=sN->∀(U:L2.St)g,U.length=k->aa H g->R sN (U++fs) g)->
   k0 v (Y++fs) H λa0 l0=>m0 a0 l0 λok g=>if ok=wN then n0 a0 g λy o0=>R (qN y) a0 o0 else R sN a0 g)
  (fin:∀D H' ys,O D=sN->aa O H'->H' D=qN (.lst ys)->Paired (G H') ys (J.filterMap f)->Q (.ref D) H'):Nf c0 (bf K l) k0 m0 n0 Q O:=by
 have v0:=Ta d0;refine qs G (λi H v=>∃a,J[i]?=qN a/\F H v a) J.length (λi=>J[i]?.bind f) i0 j0 hz (λi H r e0=>(Pd (ca.of (r _ _ b0))).go i (by lia)) (λH r=>(Pd (ca.of (r _ _ b0))).stop _ (by lia)) ?_ ?_ λD H' ys p0 r q0 f0=>fin D H' ys p0 r q0 (by rw[Ln]at f0;exact f0)
 ·rintro i H v H' r e0⟨rfl,r0⟩;have e:=r0 xs (ca.of (r _ _ b0));obtain⟨a,s0,g0⟩:=Lb d0 e
  grind
 ·rintro i e0 H Y v R r t0;refine ea1 ?_;rintro a s0 g0 w0 x0;refine step a (by grind) H Y v R r t0 g0 (by(intros;simp_all)) (by(intros;simp_all))
def JH{a0 fs:L2.St}{lo:Int}(G:Hp->V->b0->Prop)(n:Nat)(f:Nat->Option b0)(c0:∀H H' y b,KN H H'->G H y b->G H' y b)(d0:a0=List.replicate k sN++fs)(hz:n<=vN)
  (step:∀i,i<n->∀H(J:L2.St)(R:Option V->L2.St->Hp->Prop),aa U H->J.length=k->(∀b y(r:L2.St)g,f i=qN b->r.length=k->aa H g->G g y b->R (qN y) (r++fs) g)->(f i=sN->∀(r:L2.St)g,r.length=k->aa H g->R sN (r++fs) g)->
   e0 (.int (lo+(i:Int))) (J++fs) H λO f0=>g0 O f0 λok g=>if ok=wN then h0 O g λy i0=>R (qN y) O i0 else R sN O g)
  (fin:∀D H' ys,U D=sN->aa U H'->H' D=qN (.lst ys)->Paired (G H') ys ((List.range n).filterMap f)->Q (.ref D) H'):Nf a0 (Xl lo n) e0 g0 h0 Q U:=by
 refine qs G (λi _ v=>v=.int (lo+(i:Int))) n f c0 d0 hz (λi H _ Y=>Y) (λH _=>wa _) ?_ ?_ fin
 ·rintro i H v H' _ _⟨rfl,rfl⟩
  simp_all
 ·rintro i Y H J v R j0 k0 rfl l0 m0;exact step i Y H J R j0 k0 l0 m0
structure al(k:Nat)(A:BN):Prop where
 dp:A.depth+3*k+5<QO
 un:A.units+16*k+200<CN
def _root_.L2.ib.m(r:ib k A):al k (A.mark x):=⟨r.dp,r.un⟩
def al.units(r:al k A):A.units+64<CN:=by have:=r.un;lia
def al.depth(r:al k A):A.depth<QO:=by have:=r.dp;lia
def al.deeper(r:al (k+1) A)(env:NP):al k (A.deeper env):=
 ⟨by have:=r.dp;show A.depth+1+3*k+5<_;lia,by have:=r.un;show A.units+3+16*k+200<_;lia⟩
inductive ri(x:V)(vs:List V)(H:Hp)(Q:VK):Prop|mk(l b:uN)(xs zs:List V)(_:x=.ref l)(_:vs=[.ref b])(_:H l=qN (.lst xs))(_:H b=qN (.lst zs))(_:xs.length+zs.length<=vN)(_:Q .Ra (upd H l (.lst (xs++zs))))
def As{X:Cx}:Lp X "list.extend" ri:=by
 intro g0 s h0 H x vs v us Q I O U h;obtain⟨l,b,xs,Y,rfl,rfl,J,a0,hz,q⟩:=h;cases O;obtain⟨u,rfl,b0⟩:=U.one;cases b0;refine eb7 ?_ (I.vf J);rintro z g n c0 i0 e;refine eb7 ?_ (I.vf a0);rintro j0 r d0 e0 k0 f0;have l0:g.toArray.size+r.toArray.size<=vN:=by rw[uc,uc];lia
 refine kP F.slot_list_extend ⟨_,e,rfl⟩ F.entry_list_extend (F.args_list_extend_2 _ _) (AutoSeq1.list_extend_list_list_0 l g.toArray n b r.toArray d0 (by rw[show Builtin.List.listTooLong (g.toArray.size+r.toArray.size)=yN from he (by lia),Bool.and_false];exact Vc) (by lia) (by lia)) ⟨e,f0,?_⟩;refine⟨.Ra,_,I.Lj (its':=g++r) (ys:=xs++Y) J e (by simp) (c0.append e0) (by rw[Ya];lia),rfl,q⟩
end My
namespace My
open PySem PySem.Spec PyProof.Rows L2 PyProof PySem.W
def vm:∀(names:List (Str×jO))(n:Nat)(acc:List (Str×uN)),RN n names acc=RN n names []++acc
 |[],_,_=>rfl
 |(x,k)::r,n,acc=>by
  unfold RN;by_cases h:(k==NameKind.cell)=wN
  ·rw[va h,va h,vm r (n+1) ((x,n)::acc),vm r (n+1) [(x,n)],me];rfl
  ·rw[na h,na h];exact vm r n acc
def Ov:∀(names:List (Str×jO))(n:Nat){x:Str}{c:uN},(x,c)∈RN n names []->(x,NameKind.cell)∈names
 |[],_,_,_,h=>by cases h
 |(y,k)::g,n,x,c,h=>by
  unfold RN at h;by_cases r:(k==NameKind.cell)=wN
  ·rw[va r,vm]at h;rcases fc.mp h with q|q
   ·exact Rh _ (Ov g _ q)
   grind
  ·rw[na r]at h;exact Rh _ (Ov g _ h)
def KH{M:Model}{A:BN}{E:rN->tN->Prop}{s:tN}{scope:ZN}{globals:uN}{g:List (Str×uN)}{r:Str}{J:Option uN}{code:rN}{outer:NP}{Q:NP->tN->Prop}
  (O:∀h',h'.Ns s.heap.objs.size (λ_=>sN)->(∀b o,s.heap.get? b=qN o->h'.get? b=qN o)->(∀n c,(n,c)∈RN (s.heap.objs.size+1) scope.names []->h'.IsCell c sN/\s.heap.objs.size<c)->
   (RN (s.heap.objs.size+1) scope.names []).Pairwise (λx y=>x.2≠y.2)->
   Q (newEnv scope s.heap.objs.size globals (RN (s.heap.objs.size+1) scope.names []++g) r J code (qN outer) WP) {s with heap:=h'}):
  wpAny M A (RO scope globals g [] r J code (qN outer)) Q E s:=by
 simp only[RO,Option.isSome_some,if_true];refine ba (wpAny_alloc ?_);refine ba (wpAny_layCells _ (by grind) _ _ _ _ ?_);have ok:=cellsFrom_ok scope.names (s.heap.push {cls:=.type "dict",data:=.dict #[]}) (s.heap.objs.size+1) [] ⟨by grind,List.Pairwise.nil⟩ (by rw[Oh];grind);rw[Oh]at ok;rw[show({s with heap:=s.heap.push {cls:=.type "dict",data:=.dict #[]}}:tN).heap.objs.size=s.heap.objs.size+1 from Oh ..,vm];rw[List.forIn_nil];refine ba (ga (ga (O _ ((Heap.Ns.new s.heap (.type "dict")).keeps (pushCells_keeps _ _)) (λb o e=>pushCells_keeps _ _ b o (Pa _ e)) (λn c U=>ok.empty n c U) ok.apart)))
structure ij(X:Cx)(scope:ZN)(fv:List Str)(js:List Nat):Prop where
 kind:scope.kind=.function
 cell:∀q∈scope.names,q.2=.cell->scope.names.lookup q.1=qN .cell
 names:∀q∈scope.names,q.2=.local->scope.names.lookup q.1=qN .local
 free:∀q∈scope.names,q.2=.free->q.1∈fv
 out:∀x∈fv,X.env.kindOf x=qN .cell\/X.env.kindOf x=qN .free
 at':js.map (λj=>X.N[j]?)=fv.map qN
 fr:∀x∈fv,scope.names.lookup x=qN .free
def cq(X:Cx)(scope:ZN)(C:uN):List (Str×uN):=RN (C+1) scope.names []++Dd X.env.cells scope.names []
def zf(X:Cx)(scope:ZN)(N:List Str)(g:List (Str×uN))(C:uN)(s₀:tN)(H₀:Hp)(ex:List uN):Cx:={Yc X scope N g C s₀ H₀ ex with fn:=λx=>scope.names.lookup x==qN NameKind.cell}
structure Bs(scope:ZN)(C:uN)(h:EN):Prop where
 empty:∀n c,(n,c)∈RN (C+1) scope.names []->h.IsCell c sN/\C<c
 apart:(RN (C+1) scope.names []).Pairwise (λx y=>x.2≠y.2)
section
variable{X:Cx}{pins:List (uN×TN)}{σ:L2.St}{H:Hp}{s:tN}{scope:ZN}{N:List Str}{C:uN}{ex:List uN}{cl:List (Str×uN)}{fv tg:List Str}{js:List Nat}
def ij.Qj(S:ij X scope fv js)(ok:X.Ok):VP scope X.env=pure (Dd X.env.cells scope.names []):=Ly λq g e=>ok.has q.1 (S.out q.1 (S.free q g e))
def ij.sub(S:ij X scope fv js)(ok:X.Ok):∀x c,(Dd X.env.cells scope.names []).lookup x=qN c->X.env.cells.lookup x=qN c:=
 Er (λq g e=>ok.has q.1 (S.out q.1 (S.free q g e))) (by grind)
def iA{a b:List (Str×uN)}{x:Str}{c:uN}(h:(a++b).lookup x=qN c):a.lookup x=qN c\/(a.lookup x=sN/\b.lookup x=qN c):=by
 rw[List.lookup_append]at h;cases e:a.lookup x with
 |none=>grind
 |some d=>rw[e]at h;exact .inl h
def Cs{h:EN}(S:ij X scope fv js)(ok:X.Ok)(O:Bs scope C h){x:Str}{c:uN}(e:(cq X scope C).lookup x=qN c):
  ((x,c)∈RN (C+1) scope.names []/\C<c)\/X.env.cells.lookup x=qN c:=by
 rcases iA e with q|⟨_,q⟩
 ·have:=uh q;exact .inl ⟨this,(O.empty x c this).2⟩
 ·exact .inr (S.sub ok x c q)
def LH{h:EN}(I:Inv X pins σ H s)(S:ij X scope fv js)(U:Bs scope C h)(J:s.heap.objs.size<=C)
  (Y:∀b∈ex,rf X pins H b)(b0:∀b∈ex,∃o,s.heap.get? b=qN o):(zf X scope N (cq X scope C) C s H ex).Ok:=by
 have two:=λ{x c}e=>Cs (x:=x) (c:=c) S I.ok U e
 have low:∀x c,X.env.cells.lookup x=qN c->c<s.heap.objs.size:=λx c e=>by
  obtain⟨v,o,r,_⟩:=I.cell x c e;exact Na r
 refine⟨I.ok.mod,S.kind,I.ok.glob,I.ok.blt,J,λx y c c0 r=>?_,λx d0=>?_,λx c z e=>?_,I.ok.hd,I.ok.frames,.inl rfl,λb g=>⟨?_,λx c e=>?_⟩,I.bs,gb I.ok.Vh I.sz,λb o e g=>?_,λb g e0=>?_,I.stack,I.De⟩
 ·rcases two c0 with⟨f0,n0⟩|q1<;>rcases two r with⟨g0,o0⟩|q2
  ·exact name_of_addr U.apart f0 g0
  ·grind
  ·grind
  ·exact I.ok.inj x y c q1 q2
 ·have e:∃O,(pP scope X.env).names.lookup x=qN O/\(O=.cell\/O=.free):=by
   rcases d0 with z|z
   ·exact⟨_,z,.inl rfl⟩
   ·exact⟨_,z,.inr rfl⟩
  obtain⟨O,e,h0⟩:=e;obtain⟨k,r,q⟩:=Pp e;have i0:k=.cell\/k=.free:=by
   rcases q with rfl|⟨rfl,_⟩
   ·exact h0
   ·exact .inr rfl
  show∃c,(RN (C+1) scope.names []++Dd X.env.cells scope.names []).lookup x=qN c;rw[<-vm];rcases i0 with rfl|rfl
  ·exact jn.mp (Mm _ _ _ (.inl r))
  ·obtain⟨c,a0⟩:=Gn (cells:=X.env.cells) (acc:=[]) (.inl (uh r));exact jn.mp (Mm _ _ _ (by grind))
 ·have j0:scope.names.lookup x=qN .cell:=eq_of_beq z;rcases iA e with q|⟨q,_⟩
  ·exact gb J (vj (U.empty x c (uh q)).2)
  ·obtain⟨p0,a0⟩:=jn.mp (Mm scope.names (C+1) [] (.inl j0));rw[q]at a0;cases a0
 ·obtain⟨o,e⟩:=b0 b g;exact nb (ed (Na e) J)
 ·rcases two e with⟨_,k0⟩|q
  ·obtain⟨o,l0⟩:=b0 b g;exact Mi (Nat.lt_trans (ed (Na l0) J) k0)
  ·obtain⟨_,_,_,_,m0,_⟩:=Y b g;exact m0 x c q
 ·obtain⟨_,_,_,q,_⟩:=Y b g;rcases q with q|q
  ·exact I.ok.Tg b o e q
  ·exact absurd (ed (Na e) (gb I.ok.Vh q)) (Sh _)
 ·obtain⟨_,q1,q2,_⟩:=Y b g;rcases rc.mp (I.Ce b e0)with z|z
  ·exact q1 z
  ·exact q2 z
def MH{D:uN}{h':EN}{t':Nat}{m:Str->Option rN}(I:Inv X pins σ H s)(S:ij X scope fv js)(ok:(zf X scope (tg++fv) (cq X scope C) C s H ex).Ok)(O:∀b o,s.heap.get? b=qN o->h'.get? b=qN o)(i0:s.heap.get? D=sN)(j0:s.heap.get? C=sN)(k0:D≠C)
  (U:Bs scope C h')(B0:s.heap.objs.size<=C)(C0:D<=C)(l0:h'.get? D=qN {cls:=.type "list",data:=.seq #[]})(m0:h'.Ns C m):Inv (zf X scope (tg++fv) (cq X scope C) C s H ex) [] (Wg σ tg.length js) (upd H D (.lst [])) {s with heap:=h',toks:=t'}:=by
 have r:=dj I i0;have d0:∀b u,s.heap.get? b=qN u->b≠D:=by grind
 have sub:=S.sub I.ok;have n0:∀c v,s.heap.IsCell c v->h'.IsCell c v:=λc v⟨o,c0,o0⟩=>⟨o,O c o c0,o0⟩
 have p0:js.length=fv.length:=by have:=Vb List.length S.at';simpa using this
 refine⟨ok,rfl,I.bare,⟨λb u q _ _ _=>O b u q,λb u q _ _ _=>⟨u.slots,O b u q⟩,λb u q n _=>by rw[ja (d0 b u q)];exact n,λb u q _=>⟨u,O b u q⟩,λb xs q=>by rw[ja (Tc q r)];exact q,
  λb u xs q=>by rw[ja (Tc q r)];exact q,λb D0(q:H b=_)=>⟨#[],by rw[ja (Tc q r),q];simp⟩⟩,⟨m,m0,λi x v Y g J=>?_⟩,λx c e=>?_,?_,λx c e=>?_,λp q0=>(by cases q0),λb u e=>?_,by simp[zf,Yc,Wg,p0]⟩
 ·have Y:(tg++fv)[i]?=qN x:=Y;rcases Nat.lt_or_ge i tg.length with hi|hi
  ·rw[Wg,Vo (by simpa using hi),List.getElem?_replicate,va hi]at g;cases g
  ·rw[cp hi]at Y;rw[Wg,cp (by simpa using hi),Go,lb]at g;refine ea1 ?_ (Jd.mp g);rintro j r0 g;have s0:σ[j]?=qN (qN v):=by
    cases q:σ[j]? with
    |none=>rw[q]at g;cases g
    |some z=>rw[q]at g;exact Vb qN g
   have t0:X.N[j]?=qN x:=by
    have q:=Vb (λl=>l[i-tg.length]?) S.at';simp only[lb,r0,Y,Option.map_some]at q;exact Ed q
   have a0:x∈fv:=by grind
   have e0:=S.out x a0;refine ea1 ?_ I.loc;rintro F0 _ u0;have v0:nn X.env.scope x:=e0.elim (λz=>.inr (.inl z)) λz=>.inr (.inr z)
   refine ea1 ?_ (u0 j x v t0 s0 v0);rintro u w0 lk;obtain⟨c,x0,y0⟩:∃c,X.env.cells.lookup x=qN c/\s.heap.IsCell c (qN u):=by
    rcases lk with⟨z,_⟩|⟨_,q⟩
    ·rcases e0 with y|y<;>(rw[y]at z;cases z)
    ·exact q
   obtain⟨b0,f0⟩:∃b0,(cq X scope C).lookup x=qN b0:=by
    obtain⟨G0,J⟩:=Gn (cells:=X.env.cells) (acc:=[]) (.inl (uh (S.fr x a0)));show∃c,(RN (C+1) scope.names []++Dd X.env.cells scope.names []).lookup x=qN c;rw[<-vm];exact jn.mp (Mm _ _ _ (.inr (by rw[J];rfl)))
   have z0:b0=c:=by
    rcases Cs S I.ok U f0 with⟨q,_⟩|q
    ·have A0:=S.cell _ (Ov _ _ q) rfl;have g0:=S.fr x a0;rw[A0]at g0;cases g0
    ·rw[x0]at q;exact(Ed q).symm
   subst z0;refine⟨u,w0,.inr ⟨?_,b0,f0,n0 _ _ y0⟩⟩;have J:(pP scope X.env).names.lookup x=qN .local\/(pP scope X.env).names.lookup x=qN .cell\/(pP scope X.env).names.lookup x=qN .free:=J;rcases J with z|z|z
   ·refine ea1 ?_ (Pp z);rintro k ek q;rw[S.fr x a0]at ek;cases ek;rcases q with q|⟨_,q⟩<;>cases q
   ·exact .inl z
   ·exact .inr z
 ·rcases Cs S I.ok U e with⟨q,_⟩|q
  ·exact⟨sN,(U.empty x c q).1⟩
  ·obtain⟨v,z⟩:=I.cell x c q;exact(by grind)
 ·show upd H D (.lst []) C=sN;rw[ja (lc k0)];exact dj I j0
 ·rcases Cs S I.ok U e with⟨_,q⟩|q
  ·rw[ja (by grind)];exact dj I (Gk (by grind))
  ·obtain⟨v,o,c0,_⟩:=I.cell x c q;rw[ja (d0 c o c0)];exact I.ub x c q
 ·by_cases h0:b=D
  ·subst h0;rw[ia]at e;cases e;exact⟨Va _,nx4 ([]) _ (.nil) l0⟩
  ·rw[ja h0]at e;exact(I.ya b u e).Hc (by grind) (λc q=>by rw[ja (Tc q r)];exact q) λc xs q=>by rw[ja (Tc q r)];exact q
end
section
variable{X:Cx}{pins:List (uN×TN)}{σ:L2.St}{H:Hp}{s:tN}{scope:ZN}{fv:List Str}{js:List Nat}{target iter elt:IN}{ifs:List IN}{pos:oO}{g:TG}{tc:L2.TT}{te:TE}
def NH{E:rN->tN->Prop}{y0:It}{fp:List uN}{l0:uN}{d0:Nat->EN->Prop}{Q:VK}{RR:rN->uN->lP->tN->Prop}(U:List Str)(I:Inv X pins σ H s)(z0:X.calm=wN)
  (S:ij X scope fv js)(T:Yi X.prog X.w X.K target y0 fp l0 d0)(st:d0 0 s.heap)(A0:∀b∈fp,rf X pins H b)
  (U0:∀J C s₀ H₀ ex,PG (zf X scope (U++fv) J C s₀ H₀ ex) target g)(V0:∀J C s₀ H₀ ex,Pj (zf X scope (U++fv) J C s₀ H₀ ex) ifs tc)(W0:∀J C s₀ H₀ ex,PE (zf X scope (U++fv) J C s₀ H₀ ex) elt te)(q:Nf (Wg σ U.length js) y0 g tc te Q H)
  (X0:∀D C H' s' m,s'.os=s.os->pO s'.gens->Un (sg X.stack) fp H H' s.heap s'.heap->yc X.prog X.w H' s'.heap->s'.heap.Ns C m->H' C=sN->s.heap.objs.size<=C->Q (.ref D) H'->RR (.ref D) C (.ok .next) s'):
  wpAny (xN X.prog X.w) X.A (newList []) (λacc h0=>wpAny (xN X.prog X.w) X.A (RO scope X.env.globals (Dd X.env.cells scope.names []) [] X.env.qual sN .none (qN X.env)) (λB0 m0=>
   codeAny (xN X.prog X.w) X.A (.compStart (.ListComp elt [⟨target,iter,ifs,0⟩] scope pos) 0 (.ref l0) acc {B0 with scope:=pP scope X.env}) (RR acc B0.locals) m0) E h0) E s:=by
 refine Li (KH λb0 e0 i0 n0 C0=>?_);dsimp only at e0 i0 n0⊢;generalize o0:s.heap.push {cls:=.type "list",dict:=sN,data:=.seq ([]:List rN).toArray}=r at e0 i0 n0 C0⊢;have D0:r.objs.size=s.heap.objs.size+1:=by rw[<-o0,Oh]
 have Y0:s.heap.objs.size≠r.objs.size:=by rw[D0];exact nb (by grind)
 have f0:s.heap.objs.size<=r.objs.size:=by rw[D0];exact Lg _
 have F0:s.heap.get? s.heap.objs.size=sN:=Gk (wa _);have Z0:s.heap.get? r.objs.size=sN:=Gk f0;have G0:Bs scope r.objs.size b0:=⟨n0,C0⟩;have a1:∀b o,s.heap.get? b=qN o->b0.get? b=qN o:=λb o e=>i0 b o (o0▸Pa _ e)
 have b1:b0.get? s.heap.objs.size=qN {cls:=.type "list",data:=.seq #[]}:=i0 _ _ (o0▸yb _ rfl);have ob:=T.obj 0 s.heap st;generalize I0:RN (r.objs.size+1) scope.names []++Dd X.env.cells scope.names []=J;have ok:(zf X scope (U++fv) J r.objs.size s H fp).Ok:=by
  subst I0;exact LH I S G0 f0 A0 (by grind)
 have c1:Inv (zf X scope (U++fv) J r.objs.size s H fp) [] (Wg σ U.length js) (upd H s.heap.objs.size (.lst [])) {s with heap:=b0,toks:=s.toks}:=by
  subst I0;exact MH I S ok a1 F0 Z0 Y0 G0 f0 f0 b1 e0
 have J0:d0 0 b0:=T.keep 0 _ _ st (by grind);refine ea1 ?_ (q _ (dj I F0));rintro W⟨d1,e1⟩turn;have p0:∀{H':Hp}{K0:List (uN×TN)},(∀p∈K0,p.1∉fp)->(∀b∈fp,H' b=sN)->∀b∈fp,rf (zf X scope (U++fv) J r.objs.size s H fp) K0 H' b:=λf1 e0 b O=>⟨e0 b O,(ok.rn b O).1,ok.Ug b O,.inl O,(ok.rn b O).2,λp g1 z=>f1 p g1 (z▸O)⟩
 have L0:codeAny (xN X.prog X.w) X.A (.compLoop (.ListComp elt [⟨target,iter,ifs,0⟩] scope pos) 0 (.ref l0) (.ref s.heap.objs.size) (compEnvC scope J r.objs.size X.env)) (RR (.ref s.heap.objs.size) r.objs.size) {s with heap:=b0,toks:=s.toks}:=by
  refine Py (λn s'=>∃i ys Y H',Inv (zf X scope (U++fv) J r.objs.size s H fp) [] Y H' s'/\d0 i s'.heap/\(∀b∈fp,H' b=sN)/\W i n ys Y H') (λn s' h1=>?_) d1 (nx18 0 ([]) _ _ c1 J0 (λb O=>?_) e1)
  ·revert h1;refine eaE ?_;rintro i ys Y H' M0 N0 O0 q0;obtain⟨D1,q0⟩:=turn i n ys Y H' q0;rcases q0 with⟨stop,i1⟩|⟨go,hz,step⟩
   ·refine xa (T.done (zf X scope (U++fv) J r.objs.size s H fp) rfl rfl rfl z0 i [] s' Y H' _ M0 (p0 (by simp) O0) N0 stop) ?_;rintro j1 P0⟨r0,c0⟩;refine .inl ⟨r0,?_⟩;obtain⟨m,k1,_⟩:=c0.loc;exact X0 _ _ H' P0 m c0.os c0.bare c0.base c0.ya k1 c0.free f0 i1
   ·refine xa (T.item (zf X scope (U++fv) J r.objs.size s H fp) rfl rfl rfl z0 i [] s' Y H' _ M0 (p0 (by simp) O0) N0 go) ?_;rintro j1 P0;refine ea1 ?_;rintro u r0 l1;refine .inr ⟨u,r0,xa l1 ?_⟩;rintro _ h0;refine eb0 ?_;rintro x Q0 m1 n1 o1 s0 p1;have r1:=m1.pinned (p0 (by simp) p1) (T.obj _ _ s0);have R0:∀{j0:tN}{a0:L2.St}{g0:Hp},Inv (zf X scope (U++fv) J r.objs.size s H fp) ([]++xn fp h0.heap) a0 g0 j0->d0 (i+1) j0.heap/\∀b∈fp,g0 b=sN:=λk0=>
     ⟨T.keep _ _ _ s0 λb O o e=>(k0.pin (b,o) (We _ (We _ (yn O e)))).1,λb O=>by
      obtain⟨o,e,_⟩:=T.obj _ _ s0 b O;exact(k0.pin (b,o) (We _ (We _ (yn O e)))).2.1⟩
    refine xa ((U0 _ _ _ _ _) _ h0 Y Q0 x u _ r1 n1 (step x Q0 o1)) ?_;rintro _ m0;refine eaA ?_;rintro a0 s1 t1 u1;refine xa ((V0 _ _ _ _ _).run _ m0 a0 s1 _ t1 u1) ?_;rintro b v1;refine ea1 ?_;rintro w1 t0 x1;cases b with
    |false=>
     obtain⟨u0,v0,y1⟩:=‹_›;obtain⟨w0,x0⟩:=R0 t0;exact nx11 u0 v0 (i+1) (nx2 _ a0 _ t0.Eb w0 x0 y1)
    |true=>
     refine xa ((W0 _ _ _ _ _) _ v1 a0 w1 _ t0 x1) ?_;rintro z j0⟨y,g0,k0,z1,A1,u0,v0,B1⟩;refine xa (Ru _ j0 a0 g0 (.ref s.heap.objs.size) [y] (.ref s.heap.objs.size) [z] (λ_ S0=>S0=upd g0 s.heap.objs.size (.lst (ys++[y]))) k0 rfl (.cons z1 .nil) ⟨_,ys,y,rfl,rfl,A1,hz,rfl⟩) ?_;rintro _ E1⟨F1,S0,T0,_,C1⟩;subst C1;obtain⟨w0,x0⟩:=R0 T0;exact nx11 u0 v0 (i+1) (nx2 _ a0 _ T0.Eb w0 x0 B1)
  ·obtain⟨o,e,_⟩:=ob b O;rw[ja (nb (Na e))];exact(A0 b O).1
 exact cQ L0 (T.self _ 0 _ _ _ J0 L0)
def OH{O:TI}(r:List Str)(a0:X.calm=wN)(S:ij X scope fv js)(b0:PI X target iter O)
  (c0:∀J C s₀ H₀ ex,PG (zf X scope (r++fv) J C s₀ H₀ ex) target g)(d0:∀J C s₀ H₀ ex,Pj (zf X scope (r++fv) J C s₀ H₀ ex) ifs tc)(e0:∀J C s₀ H₀ ex,PE (zf X scope (r++fv) J C s₀ H₀ ex) elt te)(f0:∀x,YN iter X.env x=pure x:=by intro _;rfl):
  PE X (.ListComp elt [⟨target,iter,ifs,0⟩] scope pos) (Qp r.length js O g tc te):=by
 constructor;intro pins s σ H Q I h;rw[eval_ListComp];refine ku (use:=sN) rfl f0 (S.Qj I.ok) S.kind S.names (xa (b0 pins s σ H _ I h) λv r0 g0=>xa g0 λs0 t0 h0=>?_);obtain⟨u0,fp,v0,w0,x0,rfl,U,T,i0,Y,q⟩:=h0;refine NH (RR:=λacc C=>compPost (xN X.prog X.w) X.A X.xe sN (EP X pins σ Q) acc C) r U a0 S T i0 Y c0 d0 e0 q λD C H' s' m os j0 un k0 l0 m0 n0 o0=>⟨m,l0,λh' k=>?_⟩
 obtain⟨p0,q0⟩:=gv U Y os j0 un k0 m0 n0;exact⟨.ref D,H',hv p0 q0 k,rfl,o0⟩
end
end My
namespace My
open PySem PySem.Spec PySem.W PyProof.Rows L2 PyProof PySem.SeqAt
def eh(h:EN)(k:List Key)(v:rN):Prop:=∃(a:uN)(o:TN)(n:Nat)(us:List rN),v=.ref a/\h.get? a=qN o/\o.cls=.type "tuple"/\o.data=.seq us.toArray n/\Ia (k.map kV) us
def PH(h:Aa (kV k) u)(g:Aa (kV l) u):k=l:=by
 match k,l,h,g with
 |.inl i,.inl j,h,g=>
  obtain⟨t,rfl⟩:=(h);obtain⟨t',e⟩:=(g)
  grind
 |.inr x,.inr y,h,g=>
  obtain⟨t,rfl⟩:=(h);obtain⟨t',e⟩:=(g)
  grind
 |.inl i,.inr y,h,g=>
  obtain⟨t,rfl⟩:=(show∃t,u=Value.int i t from h);obtain⟨t',e⟩:=(g);cases e
 |.inr x,.inl j,h,g=>
  obtain⟨t,rfl⟩:=(show∃t,u=Value.str x t from h);obtain⟨t',e⟩:=(g);cases e
def QH:∀{k l:List Key}{us:List rN},Ia (k.map kV) us->Ia (l.map kV) us->k=l:=by
 intro k;induction k with
 |nil=>rintro(_|_)_ h g<;>cases h<;>cases g;rfl
 |cons a a0 r=>
  rintro(_|⟨b,t⟩)_(_|⟨J,O⟩)(_|⟨U,Y⟩);rw[PH J U,r O Y]
def eh.inj(x:eh h k v)(y:eh h l v):k=l:=by
 revert x;refine ea9 ?_;rintro a o n us rfl J _ O U;revert y;refine ea9 ?_;rintro d0 e0 f0 Y e g _ r a0;cases e;rw[J]at g;cases g;rw[O]at r;injection r with b0 _;have c0:us=Y:=by
  have:=Vb Array.toList b0;simpa using this
 subst c0;exact QH U a0
section
variable{prog:zN}{w:AN}{A:BN}{s:tN}
def RH{cd:Key->Int}:∀{vs:List rN}{g:List (List Key)},Paired (λv k=>eh h k v) vs g->(∀k∈g,k≠[])->∃fs,KatTups h vs fs/\fs.length=vs.length/\∀v∈fs,∃k r,k::r∈g/\Aa (kV k) v:=by
 intro vs g h;induction h with
 |nil=>exactλ_=>⟨[],trivial,rfl,by grind⟩
 |@cons v k f0 g0 O t U=>
  intro Y;refine ea8 ?_ (U (by grind));rintro fs a0 b0 h0;revert O;refine ea9 ?_;rintro a o n us rfl c0 d0 e0 J;cases k with
  |nil=>exact absurd rfl (Y _ (.head _))
  |cons i0 r=>
   cases J with
   |@cons x u xs us j0 k0=>
    refine⟨u::fs,KatTups.cons c0 d0 e0 rfl a0,by rw[Vd,Vd,b0],λv J=>?_⟩
    grind
def wm:Key->rN
 |.inl _=>.type "int"
 |.inr _=>.type "str"
def SH(r:Aa (kV k) u):Looks M h (typeOf u) (wm k):=by
 match k with
 |.inl i=>
  obtain⟨t,rfl⟩:=(r);intro A Q E s _ q;exact oh rfl q
 |.inr x=>
  obtain⟨t,rfl⟩:=(r);intro A Q E s _ q;exact oh rfl q
def TH(a:Key):(wm a==wm a)=wN:=by
 grind
def eh.keep(x:eh h k v)(kp:∀b o,o.cls=.type "tuple"->h.get? b=qN o->h'.get? b=qN o):eh h' k v:=by obtain⟨a,o,n,us,e,r,g,J,O⟩:=x;exact nx3 a o n us e (kp a o g r) g J O
end
def ic(H:Hp)(v:V)(k:List Key):Prop:=∃p,v=.ref p/\H p=qN (.tup (k.map kV))
section
variable{X:Cx}{pins:List (uN×TN)}{σ:L2.St}{H:Hp}{s:tN}
def UH(I:Inv X pins σ H s)(h:ic H v k)(g:Aa v u):eh s.heap k u:=by
 obtain⟨p,rfl,e⟩:=h;obtain rfl:u=Value.ref p:=g;obtain⟨r,J,⟨o,O,U,c,Y⟩,_⟩:=I.tuple (oa.of e);exact nx3 p o c r rfl O U Y J
def Qv(lo:(d==NN)=yN):KdlSrc prog w "dict" d d es.size (λi v=>∃e,es[i]?=qN e/\e.key=v) (λh=>Qf h d es ep)where
 type:=λ_ r=>r.typeIs
 there:=λ_⟨_,g,_⟩=>⟨Na g,Na g⟩
 keep:=λ_ _⟨o,g,x⟩O=>⟨o,O d (.inl rfl) o g,x⟩
 notList:=by decide
 notTuple:=by decide
 hint:=λ_ _ _ _ r U=>kdl_hint_dict r.typeIs U
 iter:=λA s b0 r=>nx0 _ (λi h=>h.IsKeyIter s.heap.objs.size d i es.size ep/\Qf h d es ep) (λ_ _ U=>Pz lo r U) ({
  sub:=λb c0=>by grind
  frame:=λ_ _ _ st O=>⟨st.1.at (by grind),by obtain⟨o,g,x⟩:=st.2;exact⟨o,O d (by simp) o g,x⟩⟩
  item:=λi s' Q E d0 st J=>by
   obtain⟨e,Y⟩:∃e,es[i]?=qN e:=⟨es[i],by simp[d0]⟩;have e0:=let⟨_,g,_⟩:=r;nb (Na g)
   refine Qz st.1 st.2 Y λh' f0 a0=>J e.key h' s'.toks ⟨e,Y,rfl⟩ ⟨f0,by obtain⟨o,g,x⟩:=st.2;exact⟨o,(a0.2 d e0).trans g,x⟩⟩ λb o c0 e=>(a0.2 b (by grind)).trans e
  done:=λs' Q E st J=>Rz b0 st.1 st.2 (wa _) (by grind)
  self:=λ_ _ _ _ st J=>LO st.1 J}) ⟨⟨_,yb _ rfl,rfl,rfl⟩,let⟨o,g,x⟩:=r;⟨o,Pa _ g,x⟩⟩
def jA{d:uN}{kvs:List (List Key×V)}(I:Inv X pins σ H s)(e:Rd H d (.dT kvs)):(d==NN)=yN/\∃es ep,Qf s.heap d es ep/\es.size=kvs.length/\kvs.length<=vN/\∀(i:Nat)(e:ON),es[i]?=qN e->∃b k v,kvs[i]?=qN (k,v)/\e.key=.ref b/\H b=qN (.tup (k.map kV)):=by
 refine ea3 ?_ ((Uu I.ya e));rintro z y;refine eb9 ?_;rintro xs r o es ep Y a0 b0 J e0;have O:es.size=kvs.length:=by
  have:=Vb List.length J;rw[Dc,ua,<-Ck r]at this;exact this
 refine⟨y,nx6 es ep ⟨o,Y,a0,b0⟩ O z λi f0 g=>?_⟩;have c0:i<kvs.length:=by
  rw[<-O];exact(xj.mp g).1
 obtain⟨⟨k,v⟩,U⟩:∃p,kvs[i]?=qN p:=⟨_,Wb c0⟩;refine eb1 ?_ (Lb r U);rintro q d0 q1 q2 q3;rw[<-Kd,J,lb,d0]at g;cases g;exact nx16 q.2.1 k v U rfl q2
def kA{kvs:List (List Key×V)}{es:Array ON}{acc:Array rN}(sz:es.size=kvs.length)(J:∀(i:Nat)(e:ON),es[i]?=qN e->∃b k v,kvs[i]?=qN (k,v)/\e.key=.ref b/\H b=qN (.tup (k.map kV)))(g:MP (λi v=>∃e,es[i]?=qN e/\e.key=v) acc es.size):∃xs,Ia xs acc.toList/\Paired (ic H) xs (kvs.map (·.1)):=by
 have O:acc.toList.length=kvs.length:=by rw[Dc,<-sz];exact g.1
 refine Zp (kvs.map (·.1)) acc.toList (by rw[ua,O]) λp U=>?_
 obtain⟨i,r⟩:=Hd.mp U;rw[Rm]at r;obtain⟨Y,e0⟩:=r;obtain⟨e,a0,b0⟩:=g.2 i p.2 (by grind);refine ebA ?_ (J i e a0);rintro b k v c0 d0 f0;rw[lb,c0]at Y;refine nx11 (.ref b) (by rw[<-b0,d0];rfl) b ⟨rfl,?_⟩
 grind
def VH(J:X.calm=wN):Kf X (.type "list") (λxs H Q=>∃(a:uN)(kvs:List (List Key×V)),xs=[V.ref a]/\Rd H a (.dT kvs)/\
  ∀p ys,H p=sN->Paired (ic H) ys (kvs.map (·.1))->Q (.ref p) (upd H p (.lst ys))):=by
 intro pins s σ H xs us Q I O h;revert h;refine ea0 ?_;rintro a kvs rfl e q;obtain⟨u,rfl,U⟩:=cf O;cases U;obtain⟨hd,es,ep,Y,sz,z,a0⟩:=jA I e;refine W.kdl_call (Qv hd) (I.ok.hd J) Y (by rw[sz];exact z) λh' b0 acc c0 d0 e0 g=>?_
 obtain⟨xs,r,pk⟩:=kA sz a0 g;have f0:acc.toList.length=kvs.length:=by rw[Dc,<-sz];exact g.1
 have g0:=I.laid (o:=.lst xs) (t':=b0) d0 (wa _) (⟨by rw[r.length,f0];exact z,nx4 acc.toList c0 r (by simpa using e0)⟩);exact⟨.ref _,_,g0,rfl,q _ xs (I.ya.fresh (wa _)) pk⟩
def KF(H H':Hp):Prop:=∀b o,H b=qN o->H' b=qN o\/∃kvs ob,o=.dK kvs/\H' b=qN (.Hb ob (.dK kvs))
def KF.of(s:aa H H'):KF H H':=λb o e=>.inl (s b o e)
def KF.refl(H:Hp):KF H H:=λ_ _ e=>.inl e
def KF.trans(a:KF H H')(b:KF H' g):KF H g:=λc o e=>by
 rcases a c o e with h|⟨kvs,ob,rfl,h⟩
 ·exact b c o h
 ·rcases b c _ h with r|⟨_,_,z,_⟩
  ·grind
  ·cases z
def KF.lst{H H':Hp}(a:KF H H'){b:uN}{xs:List V}(e:H b=qN (.lst xs)):H' b=qN (.lst xs):=by
 rcases a b _ e with h|⟨_,_,z,_⟩
 ·exact h
 ·cases z
def KF.tup{H H':Hp}(a:KF H H'){b:uN}{xs:List V}(e:H b=qN (.tup xs)):H' b=qN (.tup xs):=by
 rcases a b _ e with h|⟨_,_,z,_⟩
 ·exact h
 ·cases z
def KF.Hb{H H':Hp}(a:KF H H'){b:uN}{ob:TN}{u:HO}(e:H b=qN (.Hb ob u)):H' b=qN (.Hb ob u):=by
 rcases a b _ e with h|⟨_,_,z,_⟩
 ·exact h
 ·cases z
def KF.rd(a:KF H H')(e:Rd H b (.dK kvs)):Rd H' b (.dK kvs):=by
 rcases e with e|⟨ob,e⟩
 ·rcases a b _ e with h|⟨_,ob,z,h⟩
  ·exact .inl h
  ·cases z;exact .inr ⟨ob,h⟩
 ·exact .inr ⟨ob,a.Hb e⟩
mutual
def Tr.kf{H H':Hp}(s:KF H H'){v:V}{d:MN}(h:Tr H v d):Tr H' v d:=by
 cases h with
 |int i=>exact .int i
 |str x=>exact .str x
 |lst h r=>exact .lst (s.lst h) (Qa.kf s r)
 |tup h r=>exact .tup (s.tup h) (Qa.kf s r)
def Qa.kf{H H':Hp}(s:KF H H'){vs:List V}{g:List MN}(h:Qa H vs g):Qa H' vs g:=by
 cases h with
 |nil=>exact .nil
 |cons h r=>exact .cons (Tr.kf s h) (Qa.kf s r)
end
def ic.kf{H H':Hp}(s:KF H H'){v:V}{k:List Key}(h:ic H v k):ic H' v k:=by obtain⟨p,e,g⟩:=h;exact⟨p,e,s.tup g⟩
def Bc.kf{H H':Hp}(s:KF H H'){vs:List V}{g:List (List Key)}(h:Paired (ic H) vs g):Paired (ic H') vs g:=Paired.imp' (λ_ _ x=>ic.kf s x) h
def WH(J:TE):TI:=λO H R=>J O H λx r=>∃d kvs,x=.ref d/\Rd r d (.dK kvs)/\∀ob g,g d=qN (.Hb ob (.dK kvs))->KF r g->(∀b,r b=sN->g b=sN)->R (Xp d ob kvs) g
def Ds{e0 o:IN}{a0:TE}(f0:PE X o a0):PI X e0 o (WH a0):=by
 constructor;intro b0 s c0 H R I h;refine xa (f0 b0 s c0 H _ I h) ?_;rintro v J⟨x,U,Y,g0,d,kvs,ex,h0,q⟩;subst ex;cases g0;obtain⟨ob,g,O,i0,p0,q0⟩:∃ob g,Inv X b0 c0 g J/\g d=qN (.Hb ob (.dK kvs))/\KF U g/\∀b,U b=sN->g b=sN:=by
  rcases h0 with e|⟨ob,e⟩
  ·obtain⟨ob,j0⟩:=cv (Y.ya d _ e);refine nx6 ob _ (uF Y e j0) ia (λb o r=>?_) λb r=>?_
   ·by_cases n:b=d
    ·subst n;rw[e]at r;cases r;exact .inr (nx4 kvs ob rfl ia)
    ·exact .inl (by rw[ja n];exact r)
   ·have n:b≠d:=by grind
    rw[ja n];exact r
  ·exact nx6 ob U Y e (KF.refl _) λ_ q=>q
 obtain⟨r0,z,k0,vs,l0,dd⟩:=(O.ya d _ i0);obtain⟨ep,d0⟩:=dd.dictAt;have m0:∀h:EN,h.get? d=qN ob->h.DictAt (Wc X.prog X.w) d vs ep:=λh e=>d0.at' (by grind)
 refine wpAny_pyIter_dict k0 d0 ?_;have n0:=O.kept (t':=J.toks) (h':=J.heap.push {cls:=.type "dict_keyiterator",data:=.fields #[.ref d,.int 0 0,.int vs.length 0,.int ep 0]}) λb o e=>Pa _ e
 exact⟨_,[J.heap.objs.size],_,_,g,rfl,n0,rG d _ ep ob kvs vs l0 m0,⟨_,yb _ rfl,rfl,rfl⟩,λb o0=>by
  rw[cc.mp o0];exact O.sf (wa _) (O.ya.fresh (wa _)),by grind⟩
end
section
variable{X:Cx}{o e:IN}{td te:TE}{apos Kb:oO}
def XH{K:W.Frag}(g:X.K=K):Kf X (.builtin "len") (λxs H Q=>∃x n,xs=[x]/\Ju K x H n/\Q (.int n) H):=g▸Yf
end
abbrev Eg:=Nk×Nk×Str×Option Int
abbrev NV:HVK Nk:=HVK.int.pair HVK.int
def oI:Option Int->rN->Prop
 |none,u=>u=.none
 |some i,u=>∃t,u=.int i t
def lA(h:oI x u)(r:oI y u):x=y:=by
 match x,y,h,r with
 |none,sN,_,_=>rfl
 |some i,qN j,⟨t,e⟩,⟨t',g⟩=>simp_all
 |none,qN j,e,⟨t',g⟩=>subst g;cases e
 |some i,sN,⟨t,e⟩,g=>subst e;cases g
def nA(h:oI x u)(r:oI y v):EqAt A s u v (decide (x=y)):=by
 match x,y,h,r with
 |none,sN,e,g=>cases e;cases g;exact EqAt.same _
 |some i,qN j,⟨t,e⟩,⟨t',g⟩=>
  subst e;subst g;have:=EqAt.int_int (A:=A) (s:=s) i t j t';rwa[show(i==j)=decide (qN i=qN j)by by_cases q:i=j<;>simp[q]]at this
 |none,qN j,e,⟨t',g⟩=>subst g;cases e;exact EqAt.none_int _ _
 |some i,sN,⟨t,e⟩,g=>subst e;cases g;exact EqAt.int_none _ _
def jg(h:EN)(k:Eg)(a:uN):Prop:=∃o n g r t J,h.get? a=qN o/\o.cls=.type "tuple"/\o.data=.seq #[g,r,.str k.2.2.1 t,J] n/\NV.is h k.1 g/\NV.is h k.2.1 r/\oI k.2.2.2 J
def jg.keep(x:jg h k a)(kp:Zr h h'):jg h' k a:=by
 obtain⟨o,n,J,O,t,U,Y,g,r,a0,b0,c0⟩:=x;exact nx19 o n J O t U (kp a o _ _ Y g r) g r (NV.keep a0 kp) ⟨NV.keep b0 kp,c0⟩
def jg.inj(O:jg h x a)(U:jg h y a):x=y:=by
 obtain⟨o,n,Y,a0,t,b0,c0,o0,d0,e0,f0,g0⟩:=O;obtain⟨p0,q0,h0,i0,t',j0,r,r0,J,k0,l0,m0⟩:=U;rw[c0]at r;cases r;rw[d0]at J;injection J with q _;have g:[Y,a0,Value.str x.2.2.1 t,b0]=[h0,i0,Value.str y.2.2.1 t',j0]:=by simpa using q
 injection g with q1 g;injection g with q2 g;injection g with q3 g;injection g with n0 _;injection q3 with q3 _;subst q1;subst q2;subst n0;exact Uh (NV.inj e0 k0) (Uh (NV.inj f0 l0) (Uh q3 (lA g0 m0)))
section
variable{prog:zN}{w:AN}{A:BN}{E:rN->tN->Prop}{s:tN}
def YH(r:A.units<CN)(h:Q (bO 4238894112) {s with toks:=s.toks+1}):wpAny (xN prog w) A (PySem.pyHash .none) Q E s:=by
 have g:s.TypeIs .none "NoneType":=rfl;unfold PySem.pyHash;unfold GO;refine ba (Tq (.inr r) (ba (Uf g Lq.lookup ?_)));refine ba (Uf g Lq.lookup ?_);refine ba (Pq g Lq (vd Lq g F.entry_NoneType_hash ?_ (F.args_NoneType_hash_1 _)));refine EO (show wpAny _ _ (if(decide (-(2:Int)^63<=4238894112)&&decide ((4238894112:Int)<2^63))=wN then _ else _) Q E _ from ?_);unfold bO at h;by_cases J:(decide (-(2:Int)^63<=4238894112)&&decide ((4238894112:Int)<2^63))=wN
 ·rw[va J]at h⊢;exact ga h
 contradiction
def fh(prog:zN)(w:AN)(k:Nk):Int:=tupleKeyHash (Wc prog w) [.inl k.1,.inl k.2]
def Es(g:A.units<CN)(x:NV.is s.heap k v)(h:Q (fh prog w k) {s with toks:=s.toks+3}):wpAny (xN prog w) A (PySem.pyHash v) Q E s:=by
 revert x;refine ea0 ?_;rintro u r⟨a,o,n,rfl,J,O,U⟩Y a0;refine wpAny_pyHash_tuple g (nx2 o _ n J O U ?_) h;have:Ia ([Sum.inl k.1,Sum.inl k.2].map kV) [u,r]:=.cons Y (.cons a0 .nil);exact Tu this
def Fs:Option Int->Int
 |none=>bO 4238894112
 |some i=>hashInt i
def ZH(g:A.units<CN)(x:oI k v)(h:Q (Fs k) {s with toks:=s.toks+1}):wpAny (xN prog w) A (PySem.pyHash v) Q E s:=by
 match k,x,h with
 |none,e,h=>cases e;exact YH g h
 |some i,⟨t,e⟩,h=>subst e;exact wP h
def Rv(prog:zN)(w:AN)(k:Eg):Int:=bO (Builtin.Tuple.tupleHashOf [fh prog w k.1,fh prog w k.2.1,hashStr w k.2.2.1,Fs k.2.2.2])
def aI(h0:A.units+4<CN)(x:jg s.heap k a)(h:Q (Rv prog w k) {s with toks:=s.toks+9}):wpAny (xN prog w) A (PySem.pyHash (.ref a)) Q E s:=by
 obtain⟨o,n,U,J,t,g,Y,b0,c0,d0,e0,f0⟩:=x;have r:s.TypeIs (.ref a) "tuple":=⟨o,Y,b0⟩;have O:A.in1.units<CN:=by show A.units+1<CN;lia
 unfold PySem.pyHash;unfold GO;refine ba (Tq (.inr (by lia)) (ba (Uf r Ig.lookup ?_)));refine ba (Uf r Ig.lookup ?_);refine ba (Pq r Ig (vd Ig r qu ?_ (ru _)));show wpAny _ _ (Builtin.Tuple.tupleItemsOf (.ref a)>>=λi0=>_) _ _ _;refine ba (Wq Y c0 (ba ?_));rw[<-sj,show(#[U,J,Value.str k.2.2.1 t,g]:Array rN).toList=[U,J,Value.str k.2.2.1 t,g]from rfl,Wd];refine ba (ba (Es O d0 (ga ?_)));show wpAny _ _ (forIn [J,Value.str k.2.2.1 t,g] _ _) _ _ _;rw[Wd];refine ba (ba (Es O e0 (ga ?_)));show wpAny _ _ (forIn [Value.str k.2.2.1 t,g] _ _) _ _ _;rw[Wd];refine ba (ba (wpAny_pyHash_str (ga ?_)));show wpAny _ _ (forIn [g] _ _) _ _ _;rw[Wd];refine ba (ba (ZH O f0 (ga ?_)));refine ga (show wpAny _ _ (retInt (Builtin.Tuple.tupleHashOf [fh prog w k.1,fh prog w k.2.1,hashStr w k.2.2.1,Fs k.2.2.2])) _ _ _ from ?_);generalize g0:Builtin.Tuple.tupleHashOf [fh prog w k.1,fh prog w k.2.1,hashStr w k.2.2.1,Fs k.2.2.2]=z;unfold Rv at h;rw[g0]at h;refine EO (show wpAny _ _ (if(decide (-(2:Int)^63<=z)&&decide (z<2^63))=wN then _ else _) Q E _ from ?_);unfold bO at h;by_cases a0:(decide (-(2:Int)^63<=z)&&decide (z<2^63))=wN
 ·rw[va a0]at h⊢;exact ga h
 ·rw[na a0]at h⊢;exact ba (Ue (ga h))
def bI(t0:A.units+4<CN)(g:jg s.heap x a)(r:jg s.heap y b):EqAt A s (.ref a) (.ref b) (decide (x=y)):=by
 by_cases J:a=b
 ·subst J;rw[g.inj r,Xb rfl];exact EqAt.same _
 ·obtain⟨o,n,O,U,t,Y,e0,f0,g0,h0,i0,j0⟩:=g;obtain⟨k0,l0,a0,b0,t',c0,m0,n0,o0,p0,q0,r0⟩:=r;have d0:A.in1.units+NV.d<CN:=by show A.units+1+1<CN;lia
  have key:=RcAt.tuples (A:=A) (e:=λj=>if j=0 then decide (x.1=y.1)else if j=1 then decide (x.2.1=y.2.1)else if j=2 then decide (x.2.2.1=y.2.2.1)else decide (x.2.2.2=y.2.2.2)) (nx5 o e0 f0 n g0) (nx5 k0 m0 n0 l0 o0) (by lia) λj s0 u0=>by
   have:j=0\/j=1\/j=2\/j=3:=by have:j<4:=s0;lia
   rcases this with rfl|rfl|rfl|rfl
   ·exact NV.eq d0 h0 p0
   ·exact NV.eq d0 i0 q0
   ·have:=EqAt.str_str (A:=A.in1) (s:=s) x.2.2.1 t y.2.2.1 t';rwa[show(x.2.2.1==y.2.2.1)=decide (x.2.2.1=y.2.2.1)by by_cases q:x.2.2.1=y.2.2.1<;>simp[q]]at this
   ·exact nA j0 r0
  have e:((List.range (min (#[O,U,Value.str x.2.2.1 t,Y]:Array rN).size (#[a0,b0,Value.str y.2.2.1 t',c0]:Array rN).size)).all (λj=>if j=0 then decide (x.1=y.1)else if j=1 then decide (x.2.1=y.2.1)else if j=2 then decide (x.2.2.1=y.2.2.1)else decide (x.2.2.2=y.2.2.2))&&((#[O,U,Value.str x.2.2.1 t,Y]:Array rN).size==(#[a0,b0,Value.str y.2.2.1 t',c0]:Array rN).size))=decide (x=y):=by
   show((List.range 4).all _&&wN)=_;rw[show List.range 4=[0,1,2,3]from rfl];obtain⟨v0,w0,x0,y0⟩:=x;obtain⟨z0,A0,B0,C0⟩:=y;simp[Bool.decide_and]
  rw[e]at key;exact EqAt.of_refs J key
def cI(x:jg s.heap k a)(h:Q wN s):wpAny (xN prog w) A (cP 8 (.ref a)) Q E s:=by
 obtain⟨o,n,J,r,t,g,O,Y,a0,b0,c0,d0⟩:=x;have U:s.TypeIs (.ref a) "tuple":=⟨o,O,Y⟩;unfold cP;refine ba (Uf U F.slot_tuple_eq.lookup (ba (Wm U isSubtype_tuple_tuple ?_)));simp only[Bool.not_true,Mg,Be];refine ba (Ff O a0 (ba ?_));show wpAny _ _ (forIn (#[J,r,Value.str k.2.2.1 t,g]:Array rN) _ _) _ _ _;rw[<-sj,show(#[J,r,Value.str k.2.2.1 t,g]:Array rN).toList=[J,r,Value.str k.2.2.1 t,g]from rfl,Wd];refine ba (ba (NV.quiet 7 (by decide) b0 (ga ?_)));show wpAny _ _ (forIn [r,Value.str k.2.2.1 t,g] _ _) _ _ _;rw[Wd];refine ba (ba (NV.quiet 7 (by decide) c0 (ga ?_)));show wpAny _ _ (forIn [Value.str k.2.2.1 t,g] _ _) _ _ _;rw[Wd];refine ba (ba ?_);refine ga (ga ?_);show wpAny _ _ (forIn [g] _ _) _ _ _;rw[Wd];refine ba (ba ?_);have e0:cP 7 g=pure wN:=by
  match k.2.2.2,d0 with
  |none,e=>cases e;exact tP 7 rfl
  |some i,⟨t,e⟩=>subst e;exact tP 7 rfl
 rw[e0];exact ga (ga (ga (ga h)))
end
def ek(prog:zN)(w:AN):HeapKind prog w Eg where
 is:=jg
 hash:=Rv prog w
 draws:=λ_=>9
 room:=λA=>A.units+4<CN
 inj:=jg.inj
 keeps:=λ{h h' k a d o es ep}x U Y r=>x.keep λb ob xs n e c dd=>(r.2 b (by grind)).trans e
 pyHash:=λg x h=>aI g x h
 eqBool:=λg J O h=>bI g J O _ _ _ _ h
 quiet:=λx h=>cI x h
def oV:Option Int->V
 |none=>.Ra
 |some i=>.int i
def Zb(H:Hp)(v:V)(k:Eg):Prop:=∃p g r,v=.ref p/\H p=qN (.tup [g,r,.str k.2.2.1,oV k.2.2.2])/\sb H g k.1/\sb H r k.2.1
def oA(r:Aa (oV k) u):oI k u:=by
 cases k with
 |none=>exact r
 |some i=>exact r
section
variable{X:Cx}{pins:List (uN×TN)}{σ:L2.St}{H:Hp}{s:tN}
def dI(I:Inv X pins σ H s)(h:Zb H (.ref a) k):jg s.heap k a:=by
 obtain⟨p,j0,k0,g,e,r,J⟩:=h;cases g;obtain⟨l0,O,⟨o,U,Y,c,a0⟩,_⟩:=I.tuple (oa.of e);cases O with
 |cons b0 t=>
  cases t with
  |cons c0 d0=>
   cases d0 with
   |cons e0 f0=>
    cases f0 with
    |cons g0 h0=>
     cases h0;obtain⟨i0,rfl⟩:=e0;exact nx19 o c _ _ i0 _ U Y a0 (Cg I r b0) ⟨Cg I J c0,oA g0⟩
inductive Nn(H:Hp):List V->List Eg->Prop where
 |nil:Nn H [] []
 |cons{t b:uN}{v:V}{k:Eg}{ws:List V}{ks:List Eg}(h:H t=qN (.tup [.ref b,v]))(hb:Zb H (.ref b) k)(r:Nn H ws ks):Nn H (.ref t::ws) (k::ks)
def eI(I:Inv X pins σ H s):∀{J:List V}{O:List Eg}{g:List rN},Nn H J O->Ia J g->
  ∃r:List (Eg×uN×rN),Paired (λ(q:Eg×uN×rN)k=>q.1=k/\Zb H (.ref q.2.1) k) r O/\g.length=r.length/\∀(j:Nat)u,g[j]?=qN u->∃t q,u=.ref t/\r[j]?=qN q/\s.heap.IsTuple t #[.ref q.2.1,q.2.2]/\jg s.heap q.1 q.2.1:=by
 intro J O g b0;induction b0 generalizing g with
 |nil=>intro v;cases v;exact⟨[],.nil,rfl,by grind⟩
 |@cons _ b _ k _ _ h U l0 c0=>
  intro v;cases v with
  |cons d0 e0=>
  refine ea8 ?_ (c0 e0);rintro r f0 g0 h0;refine ea8 ?_ (I.tuple (oa.of h));rintro g i0⟨o,j0,Y⟩_;refine ea0 ?_ (Zl i0);rintro m0 a0 rfl k0 n0;cases d0;cases k0;refine⟨(k,b,a0)::r,.cons ⟨rfl,U⟩ f0,by simp[g0],λj u e=>?_⟩;cases j with
  |zero=>
   cases e;exact nx6 _ (k,b,a0) rfl rfl ⟨o,j0,Y.1,Y.2⟩ (dI I U)
  |succ j=>exact h0 j u (by simpa using e)
def fI{K:Type}[DecidableEq K]{xs:List (K×uN×rN)}{k:K}:(xO xs k).isSome=wN↔k∈xs.map (·.1):=by
 unfold xO
 grind
def gI{K:Type}[DecidableEq K]{xs:List (K×uN×rN)}{k:K}{a:uN}{v:rN}{y:K}:y∈(eO xs k a v).map (·.1)↔y=k\/y∈xs.map (·.1):=by
 unfold eO;split
 ·next h=>
  have g:=fI.mp h;rw[Ve,show((λ(x:K×uN×rN)=>x.1)∘putAt k v)=(·.1)from funext λx=>by unfold putAt;lia]
  simp_all
 grind
def hI{K:Type}[DecidableEq K]{xs:List (K×uN×rN)}{k:K}{P:K->uN->Prop}(h:∀x∈xs,P x.1 x.2.1)(J:P k a):∀x∈eO xs k a v,P x.1 x.2.1:=by
 intro x g;unfold eO at g;split at g
 ·obtain⟨y,r,e⟩:=Sa.mp g;subst e;have:=h y r;unfold putAt;split
  ·exact this
  ·exact this
 grind
def pA{K:Type}[DecidableEq K]{y:K}:∀(g xs:List (K×uN×rN)),y∈(ig xs g).map (·.1)↔y∈xs.map (·.1)\/y∈g.map (·.1)
 |[],xs=>by show y∈xs.map (·.1)↔_;simp
 |q::r,xs=>by
  show y∈(ig (eO xs q.1 q.2.1 q.2.2) r).map (·.1)↔_;rw[pA r,gI,Sc,rc]
  grind
def qA{K:Type}[DecidableEq K]{P:K->uN->Prop}:∀(g xs:List (K×uN×rN)),(∀x∈xs,P x.1 x.2.1)->(∀x∈g,P x.1 x.2.1)->∀x∈ig xs g,P x.1 x.2.1
 |[],xs,h,_=>h
 |q::r,xs,h,h'=>qA r _ (hI h (h' q (.head _))) (by grind)
def rA{K:Type}[DecidableEq K]:∀(r xs:List (K×uN×rN)),(ig xs r).length<=xs.length+r.length
 |[],xs=>wa _
 |q::g,xs=>by
  have J:=rA g (eO xs q.1 q.2.1 q.2.2);have O:=Xz xs q.1 q.2.1 q.2.2;show(ig (eO xs q.1 q.2.1 q.2.2) g).length<=xs.length+(g.length+1);lia
def iI{α r:Type}{R:α×r->α->Prop}:∀{g:List (α×r)}{es:List α},Paired (λq k=>q.1=k/\R q k) g es->g.map (·.1)=es:=by
 intro g es h;induction h with
 |nil=>rfl
 |cons h t J=>rw[Sc,J,h.1]
def Le(p:uN)(g:Array ON)(ep:Nat):EN->Prop:=λh=>(p==NN)=yN/\g.size<=vN/\Qf h p g ep
def Sv(H:Hp)(g:Array ON)(r:List Eg):Prop:=Paired (λ(e:ON)k=>∃b,e.key=.ref b/\Zb H (.ref b) k) g.toList r
def Tv(x:Le p g ep h):xc P w H h p (.ext (Le p g ep)):=by
 refine⟨x,?_,by rintro U Y⟨r,J,o,e,O⟩k;exact⟨r,J,o,k _ e,O⟩⟩;revert x;refine ec3 ?_;rintro _ _ o e _
 simp_all
def jI(t0:X.A.units+16<CN)(g0:X.calm=wN):Kf X (.type "dict") (λxs H Q=>∃(a:uN)(O:List V)(es:List Eg),xs=[V.ref a]/\H a=qN (.lst O)/\Nn H O es/\es.length<1000000/\
  ∀p g ep U,H p=sN->Sv H g U->U.Nodup->(∀x,x∈U↔x∈es)->Q (.ref p) (upd H p (.ext (Le p g ep)))):=by
 intro pins s σ H xs us Q I b0 h;revert h;refine ea2 ?_;rintro a O es rfl h0 i0 hz q;obtain⟨u,rfl,j0⟩:=cf b0;cases j0;refine ea8 ?_ (I.list (ca.of h0));rintro u0 k0 pl _;refine ea8 ?_ (eI I i0 k0);rintro J Y l0 m0;have c0:=Ck Y;refine Yz (knd:=ek X.prog X.w) (λf k=>jg.keep f λb o ys n e _ d=>k b o ys n e d) (show X.A.units+2+4<CN by lia) g0 I pl l0 (by rw[c0];exact hz) m0 λh v0 kp dd=>?_
 revert dd;refine ec8 ?_;rintro o g ep d0 e0 n0 f0 _ o0;have p0:g.size<=vN:=by
  rw[<-Dc,f0,ua];exact gb (rA J []) (by simp only[Ak,Nm];rw[c0];exact gb (vj hz) (by decide))
 refine⟨.ref _,_,?_,rfl,q _ g ep ((ig [] J).map (·.1)) (I.ya.fresh (wa _)) ?_ o0 λx=>?_⟩
 ·exact I.laid kp (wa _) (Tv ⟨lp.mpr (lc (nb I.big)),p0,o,d0,e0,n0⟩)
 ·unfold Sv;rw[f0];have a0:=qA (P:=λk b=>Zb H (.ref b) k) J [] (λx r=>by cases r) λx r=>by
   obtain⟨i,q0⟩:=Hd.mp r;obtain⟨k,ek,d0,e0⟩:=Lb Y q0
   simp_all
  generalize ig [] J=r0 at a0;induction r0 with
  |nil=>exact .nil
  |cons z b0 s0=>exact .cons ⟨z.2.1,rfl,a0 z (.head _)⟩ (s0 λx r=>a0 x (.tail _ r))
 ·rw[pA];rw[iI Y];simp
end
abbrev Rk:=Nk×Nk×Int×Option Int
def Eh(h:EN)(k:Rk)(v:rN):Prop:=∃a o n g r t J,v=.ref a/\h.get? a=qN o/\o.cls=.type "tuple"/\o.data=.seq #[g,r,.int k.2.2.1 t,J] n/\NV.is h k.1 g/\NV.is h k.2.1 r/\oI k.2.2.2 J
def Uv(x y:Rk):Prop:=x.2.2.1=y.2.2.1->(x.2.2.2=sN↔y.2.2.2=sN)
section
variable{prog:zN}{w:AN}{A:BN}{s:tN}
def Eh.keep(x:Eh h k v)(kp:Zr h h'):Eh h' k v:=by
 obtain⟨a,o,n,J,O,t,U,Y,a0,g,r,b0,c0,d0⟩:=x;exact nx17 a o n J O t U Y (kp a o _ _ a0 g r) g r (NV.keep b0 kp) (NV.keep c0 kp) d0
def Eh.inj(O:Eh h x v)(U:Eh h y v):x=y:=by
 obtain⟨a,o,n,Y,a0,t,b0,c0,d0,q0,e0,f0,g0,h0⟩:=O;obtain⟨r0,s0,t0,i0,j0,t',k0,l0,r,u0,J,m0,n0,o0⟩:=U;subst c0;cases l0;rw[d0]at r;cases r;rw[e0]at J;injection J with q _;have g:[Y,a0,Value.int x.2.2.1 t,b0]=[i0,j0,Value.int y.2.2.1 t',k0]:=by simpa using q
 injection g with q1 g;injection g with q2 g;injection g with q3 g;injection g with p0 _;injection q3 with q3 _;subst q1;subst q2;subst p0;exact Uh (NV.inj f0 m0) (Uh (NV.inj g0 n0) (Uh q3 (lA h0 o0)))
def sA:∀{us:List rN}{rs:List Rk},Paired (λu g=>Eh h g u) us rs->∃fs,KatTups h us fs/\fs.length=us.length/\∀v∈fs,∃k,NV.is h k v
 |_,_,.nil=>⟨[],trivial,rfl,by(intros;simp_all)⟩
 |_,_,.cons r t=>by
  refine ea8 ?_ (sA t);rintro fs J O c0;obtain⟨a,o,n,U,d0,e0,f0,rfl,Y,a0,b0,g0,h0,i0⟩:=r;refine⟨U::fs,KatTups.cons Y a0 b0 rfl J,by rw[Vd,Vd,O],λv j0=>?_⟩
  grind
end
def Ex(a:uN)(o:TN):EN->Prop:=λh=>h.get? a=qN o
def dq(e:h.get? a=qN o):xc P w H h a (.ext (Ex a o)):=⟨e,⟨o,e⟩,λ_ _ y k=>k _ y⟩
def fq(x:Str):Int:=if x="own"then 0 else if x="saw"then 1 else if x="unseen"then 2 else 3
def Xj(e:Eg):Prop:=(e.2.2.1="own"\/e.2.2.1="saw"\/e.2.2.1="unseen"\/e.2.2.1="over")/\(e.2.2.1="own"↔e.2.2.2=sN)
def fl(e:Eg):Rk:=(e.1,e.2.1,fq e.2.2.1,e.2.2.2)
def kI{x y:Str}(g:x="own"\/x="saw"\/x="unseen"\/x="over")(r:y="own"\/y="saw"\/y="unseen"\/y="over")(h:fq x=fq y):x=y:=by
 rcases g with rfl|rfl|rfl|rfl<;>rcases r with rfl|rfl|rfl|rfl<;>first|rfl|(exact absurd h (by decide))
def lI(g:Xj x)(r:Xj y):Uv (fl x) (fl y):=λh=>by
 have e:=kI g.1 r.1 h;show x.2.2.2=sN↔y.2.2.2=sN;rw[<-g.2,<-r.2,e]
def Yj(H:Hp)(v:V)(k:Rk):Prop:=∃p g r,v=.ref p/\H p=qN (.tup [g,r,.int k.2.2.1,oV k.2.2.2])/\sb H g k.1/\sb H r k.2.1
def sb.kp(x:sb H v n)(k:∀b xs,H b=qN (.tup xs)->H' b=qN (.tup xs)):sb H' v n:=by obtain⟨p,e,h⟩:=x;exact⟨p,e,k _ _ h⟩
def Yj.kp(x:Yj H v n)(k:∀b xs,H b=qN (.tup xs)->H' b=qN (.tup xs)):Yj H' v n:=by obtain⟨p,g,r,e,h,J,O⟩:=x;exact nx2 p g r e (k _ _ h) (J.kp k) (O.kp k)
def Zb.kp(x:Zb H v n)(k:∀b xs,H b=qN (.tup xs)->H' b=qN (.tup xs)):Zb H' v n:=by obtain⟨p,g,r,e,h,J,O⟩:=x;exact nx2 p g r e (k _ _ h) (J.kp k) (O.kp k)
section
variable{X:Cx}{pins:List (uN×TN)}{σ:L2.St}{H:Hp}{s:tN}
def mI(I:Inv X pins σ H s)(h:Yj H (.ref a) k):Eh s.heap k (.ref a):=by
 obtain⟨p,j0,k0,g,e,r,J⟩:=h;cases g;obtain⟨l0,O,⟨o,U,Y,c,a0⟩,_⟩:=I.tuple (oa.of e);cases O with
 |cons b0 t=>
  cases t with
  |cons c0 d0=>
   cases d0 with
   |cons e0 f0=>
    cases f0 with
    |cons g0 h0=>
     cases h0;obtain⟨i0,rfl⟩:=e0;exact nx17 a o c _ _ i0 _ rfl U Y a0 (Cg I r b0) (Cg I J c0) (oA g0)
variable{k:Nat}{f:uN}{fd:UN}{nm:Str}{sp:Sp}{A':BN}
def Hs(sp:Sp):Prop:=∀(H:Hp)(b:uN)(e:Eg)(Q:VK)(E:XK),Zb H (.ref b) e->Xj e->(∀p H',(∀c o,H c=qN o->H' c=qN o)->Yj H' (.ref p) (fl e)->Q (.ref p) H')->sp [.ref b] H Q E
def nI(F:kd X.prog X.w X.K X.mg X.base Td k f fd [nm] sp)(U:Zd X.K fd [nm] [])(r0:A'.frames=qN X.stack)(s0:ib k A')(t0:Hs sp){D KS:uN}{oD:TN}{h0:rN->PUnit->fQ (ForInStep PUnit)}
  (u0:∀x Q E s,wpAny (xN X.prog X.w) A' (call (.ref f) [x]) (λv s'=>wpAny (xN X.prog X.w) A' (Builtin.List.listUpdate (.ref KS) λxs=>xs.push v) (λ_ v0=>Q (.yield PUnit.unit) v0) E s') (λ_ _=>False) s->wpAny (xN X.prog X.w) A' (h0 x PUnit.unit) Q E s){E:rN->tN->Prop}(w0:KS≠D):
  ∀(vs:List rN)(es:List Eg)(us:List rN)(rs:List Rk)(g:Hp)(O:tN)(c:Nat)(Q:PUnit->tN->Prop),Inv X pins σ g O->g D=qN (.ext (Ex D oD))->g KS=qN (.ext (Ex KS (GN "list" us.toArray c)))->us.length+vs.length<=vN->
   Paired (λv e=>∃b,v=Value.ref b/\Zb g (.ref b) e) vs es->(∀e∈es,Xj e)->Paired (λu Y=>∃p,u=Value.ref p/\Yj g (.ref p) Y) us rs->
   (∀a0 r i0 x0,Inv X pins σ r i0->r D=qN (.ext (Ex D oD))->r KS=qN (.ext (Ex KS (GN "list" a0.toArray x0)))->(∀b o,b≠KS->g b=qN o->r b=qN o)->a0.length=us.length+vs.length->Paired (λu Y=>∃p,u=Value.ref p/\Yj r (.ref p) Y) a0 (rs++es.map fl)->Q PUnit.unit i0)->
   wpAny (xN X.prog X.w) A' (forIn vs PUnit.unit h0) Q E O:=by
 intro vs;induction vs with
 |nil=>
  intro es us rs g O c Q J j0 k0 hz pv _ l0 h;cases pv;exact ga (by grind)
 |cons v T0 y0=>
  intro es us rs g O c Q J j0 k0 hz pv ok l0 h;cases pv with
  |@cons _ e _ z0 A0 pv=>
  revert A0;refine ea1 ?_;rintro b b0 B0;subst b0;rw[Wd];refine ba (u0 _ _ _ _ ?_);have env:Gp X.prog X.w X.K X.mg X.base A' X.stack O g:=⟨r0,J.tf.mod,J.tf.bs,J.tf.Vh,J.tf.Ld,J.tf.Sl,J.tf.ya,J.tf.bare⟩;refine fP (Kl (F.run A' X.stack O g ⟨[.ref b],[]⟩ [.ref b] [.ref b] (λv r=>∃p,v=.ref p/\(∀c o,g c=qN o->r c=qN o)/\Yj r (.ref p) (fl e)) (λ_ _ _=>False) s0 env (U O [.ref b] J.Sd rfl) (.cons rfl .nil) (t0 g b e _ _ B0 (ok e (.head _)) λp H' C0 D0=>⟨p,rfl,C0,D0⟩)) λY s' c0=>?_);cases Y with
  |error e=>exact c0.elim
  |ok F0=>
   cases F0 with
   |next=>exact False.elim c0
   |brk=>exact False.elim c0
   |cont=>exact False.elim c0
   |ret u=>
    obtain⟨U0,r,m0,G0,p,I0,e0,J0⟩:=J.after c0;subst I0;obtain rfl:u=Value.ref p:=G0;have K0:=e0 _ _ j0;have n0:=e0 _ _ k0;have o0:=(m0.ya KS _ n0).1;have L0:=Gf s'.heap KS (Obj.mapSeq λxs=>xs.push (Value.ref p));obtain⟨d0,p0⟩:∃d0,(s'.heap.update KS (Obj.mapSeq λxs=>xs.push (Value.ref p))).get? KS=qN (GN "list" (us++[Value.ref p]).toArray d0):=⟨_,by rw[Xm o0 (λxs=>xs.push (Value.ref p))];simp;rfl⟩;refine Fl o0 rfl ?_ (by rw[uc];lia) (by rw[Array.size_push,uc];lia);have g0:=m0.write (t':=s'.toks) (by rw[n0];trivial) (.inl rfl) (λb o f0 e=>(L0.2 b f0).trans e) ⟨_,p0⟩ (dq p0);have q0:∀b xs,g b=qN (.tup xs)->upd r KS (.ext (Ex KS (GN "list" (us++[Value.ref p]).toArray d0))) b=qN (.tup xs):=λb xs e=>by
     rw[ja λz=>by simp_all];exact e0 _ _ e
    have M0:∀b xs,r b=qN (.tup xs)->upd r KS (.ext (Ex KS (GN "list" (us++[Value.ref p]).toArray d0))) b=qN (.tup xs):=λb xs e=>by
     rw[ja λz=>by simp_all];exact e
    refine y0 z0 (us++[Value.ref p]) (rs++[fl e]) _ _ d0 Q g0 (by rw[ja w0.symm];exact K0) ia (by grind) (Paired.imp' (by rintro v e;refine ea1 ?_;rintro b b0 U;exact⟨b,b0,U.kp q0⟩) pv) (λe N0=>ok e (.tail _ N0)) ?_ λa0 O0 P0 Q0 g0 R0 q3 S0 V0 W0=>h a0 O0 P0 Q0 g0 R0 q3 (λb o f0 e=>S0 b o f0 (by rw[ja f0];exact e0 _ _ e)) (by grind) (by simp_all)
    exact hA (Paired.imp' (by rintro v e;refine ea1 ?_;rintro b b0 U;exact⟨b,b0,U.kp q0⟩) l0) ⟨p,rfl,J0.kp M0⟩
end
def u8{A:BN}(h:A.units+64<CN):A.units+8<CN:=by lia
section
variable{X:Cx}{o e f:IN}{td ty tx:TE}{apos Kb:oO}
def pI{items:Array rN}{ls:List Str}
  (J:∀(i:Nat)(y:rN)(s:tN)(Q:ForInStep (Option PySem.Fin×Unit)->tN->Prop),items[i]?=qN y->wpAny (xN prog w) A (eqBool y x) (λc s'=>if c=wN then wpAny (xN prog w) A (retInt (i:Int)) (λf O=>Q (.done (qN f,())) O) E s' else Q (.yield (sN,())) s') E s->wpAny (xN prog w) A (U i (sN,())) Q E s)
  (Y:∃t,x=Value.str k t)(a0:∀(i:Nat)(y:Str),ls[i]?=qN y->∃t,items[i]?=qN (Value.str y t)):
  ∀(m i:Nat)(s:tN)(Q:Option PySem.Fin×Unit->tN->Prop),i+m=ls.length->(∀j,j<i->ls[j]?≠qN k)->k∈ls.drop i->(∀t',Q (qN (.done (.ret (.int (ls.idxOf k:Nat) t'))),()) {s with toks:=s.toks+1})->wpAny (xN prog w) A (forIn (List.range' i m) (sN,()) U) Q E s:=by
 intro m;induction m with
 |zero=>
  (intros;simp_all)
 |succ m b0=>
  intro i s Q h c0 d0 g;obtain⟨y,r⟩:∃y,ls[i]?=qN y:=⟨_,Wb (by lia)⟩;obtain⟨t,e0⟩:=a0 i y r;obtain⟨f0,rfl⟩:=Y;rw[List.range'_succ,Wd];refine ba (J i _ s _ e0 (EqAt.str_str y t k f0 _ _ _ _ ?_));by_cases e:y=k
  ·subst e;rw[va (by simp)];have g0:ls.idxOf y=i:=by
    have h0:=pu.mpr (Xa r);have i0:ls[ls.idxOf y]?=qN y:=by rw[Wb h0];exact Vb qN (by simp_all)
    have j0:¬ls.idxOf y<i:=λz=>c0 _ z i0
    have k0:ls.idxOf y<=i:=by
     refine Og λz=>?_
     have:=List.not_of_lt_findIdx (by show i<ls.idxOf y;simp_all);rw[(rb.mp r).2]at this;simp at this
    lia
   rw[g0]at g;exact ba (wpAny_mkInt (ga (ga (g _))))
  ·rw[na (by simp[e])];refine b0 (i+1) s Q (by grind) (λj l0=>?_) ?_ g
   ·grind
   ·rw[pp (by lia)]at d0
    grind
def qI{K:W.Frag}(Y:X.K=K):Ou X "tuple.index" (λx xs H Q=>∃(l:uN)(ls:List Str)(k:Str),x=.ref l/\xs=[V.str k]/\oa K H l (ls.map V.str)/\k∈ls/\Q (.int ((ls.idxOf k:Nat):Int)) H):=by
 subst Y;intro k0 s l0 H x xs v us Q I a0 b0 h;revert h;refine ea2 ?_;rintro l ls k rfl rfl c0 d0 q;cases a0;refine ea1 ?_ (cf b0);rintro u rfl⟨t,rfl⟩;refine ea8 ?_ (I.tuple c0);rintro g O⟨o,U,r,n,e0⟩_;have f0:g.length=ls.length:=by rw[<-O.length,ua]
 refine vd F.slot_tuple_index ⟨o,U,r⟩ F.entry_tuple_index ?_ (F.args_tuple_index_2 _ _);show wpAny _ _ (Builtin.Tuple.tupleItemsOf (.ref l)>>=λxs=>_) _ _ _;refine ba (Wq U e0 ?_);show wpAny _ _ (forIn [0:min g.toArray.size g.toArray.size] (sN,()) _>>=λ__s=>_) _ _ _;rw[Nat.min_self,Std.Legacy.Range.forIn_eq_forIn_range',show(List.range' ([0:g.toArray.size]:Std.Legacy.Range).start ([0:g.toArray.size]:Std.Legacy.Range).size ([0:g.toArray.size]:Std.Legacy.Range).step)=List.range' 0 g.length by simp[Std.Legacy.Range.size]];refine ba (pI (ls:=ls) (k:=k) (items:=g.toArray) (x:=.str k t) (λi y s Q J g0=>?_) ⟨t,rfl⟩ (λi y J=>?_) g.length 0 s _ (by lia) (by grind) d0 λt'=>?_)
 ·rw[J];refine ba (zd g0 (λc s' r=>?_) λ_ _ z=>z);cases c with
  |true=>exact ba (zd r (λf m0 h0=>ga h0) λ_ _ z=>z)
  |false=>exact ga r
 ·have i0:i<g.length:=by rw[f0];exact(rb.mp J).1
  obtain⟨n0,ex,j0⟩:=xf O (Wb i0);rw[lb,J]at ex;cases ex;obtain⟨t',o0⟩:=j0;exact(by grind)
 ·exact ga ⟨_,rfl,.int _,H,I.tok _,⟨t',rfl⟩,q⟩
end
end My
namespace My
open PySem PySem.Spec PyProof.Rows L2
section
variable{P:zN}{w:AN}
inductive Fh(h:EN):rN->TN->Prop where
 |list{l:uN}{xs:Array rN}(e:h.IsList l xs):Fh h (.ref l) {cls:=.type "list_iterator",data:=.fields #[.ref l,.int 0 0]}
def Fh.keep(x:Fh h u o)(k:∀b o,h.get? b=qN o->h'.get? b=qN o):Fh h' u o:=by
 cases x with
 |list e=>exact .list (e.at λo q=>k _ o q)
def uA(x:Fh s.heap u o)(h:Q (.ref s.heap.objs.size) {s with heap:=s.heap.push o}):wpAny (xN P w) A (zO u) Q E s:=by
 cases x with
 |list e=>exact Ql e h
def sI(J O:rN)(g r:TN):
  Meets (Builtin.«zip.__new__» ⟨[.type "zip",J,O],[]⟩) (λ_ R s=>Fh s.heap J g/\Fh s.heap O r/\R (.ok (.ret (.ref (zD s.heap g r).objs.size))) {s with heap:=zE s.heap g r}):=
 .of_wp λprog w A R s⟨b0,c0,d0⟩=>by
  obtain⟨U,Y,d,a0,os⟩:=s;have f0:=sub_zip;have e0:Fh (Shared.heap ⟨U,Y,d,a0,os⟩) J g:=b0;have L2:Fh (Shared.heap ⟨U.push g,Y,d,a0,os⟩) O r:=c0.keep λb o e=>Pa _ e
  wp_walk using uA e0,uA L2
  exact⟨_,rfl,d0⟩
def tI(b0:Fh s.heap g J)(c0:Fh s.heap r O)(U:J.isFreed=yN)(Y:O.isFreed=yN)
  (k:∀a0 z TI TO d0 e0,Jy s.heap a0 J O z TI TO d0 e0->Q (.ref z) {s with heap:=a0}):wpAny (xN P w) A (call (.type "zip") [g,r]) Q E s:=
 callType_new F.called_zip (by decide) (F.typeCall_zip_2 g r) (F.newCall_zip_2 g r) (λobj=>F.args_object_init_3 obj g r) F.entry_zip_new (sI g r J O) ⟨b0,c0,⟨_,(Ky s.heap U Y).zip,rfl⟩,k _ _ _ _ _ _ (Ky s.heap U Y)⟩
end
inductive Js(K:W.Frag)(H:Hp):V->It->Prop where
 |list{a:uN}{xs:List V}(h:ca K H a xs):Js K H (.ref a) (bf K a)
section
variable{X:Cx}
def vA{r:L2.St}(I:Inv X U r H s)(x:Js X.K H v J)(O:Aa v u):∃o,Fh s.heap u o/\o.isFreed=yN/\∀g h',h'.get? g=qN o->∃st,Src X.prog X.w X.K J g st/\st 0 h':=by
 cases x with
 |list h=>
  cases O;refine ea8 ?_ (I.list h);rintro Y a0 p hz;exact⟨_,.list p.isList,rfl,λg h' e=>⟨_,cF _ g,_,e,rfl,rfl⟩⟩
def uI(K:W.Frag)(O:TA):TI:=λU H R=>O U H λvs g=>∃u v r J,vs=[u,v]/\Js K g u r/\Js K g v J/\R (dv r J) g
end
open PySem.W
section
variable{P:zN}{w:AN}{K:XP}{mg:Str->Option rN}{base h:EN}{x q:Str}{st:aO}{ps:List Str}{fa:uN}
def Ks(K:XP)(x q:Str)(st:aO)(f:uN):Prop:=∃g r J O kV U Y cd ct,K.lookup f=qN ⟨g,r,.func (fnOf x q (wf st) (we st) (Ac st) .none kV U Y J cd ct),O⟩/\UP K cd q=wN/\iP K (.ref f)=wN
def Vv(K:XP)(x:Str)(st:aO):Prop:=∃f,nsIn K HN x=qN (qN (.ref f))/\Ks K x x st f
def vI{g r J O kV U Y cd ct}(a:nsIn K HN x=qN (qN (.ref f)))(l:K.lookup f=qN ⟨g,r,.func (fnOf x x (wf st) (we st) (Ac st) .none kV U Y J cd ct),O⟩)(c:UP K cd x=wN)(k:iP K (.ref f)=wN):Vv K x st:=
 nx11 f a _ (nx1 _ _ (nx21 _ _ _ _ _ _ l c k))
def Ls(x q:Str)(st:aO)(ps:List Str):Prop:=∀(kV g r:rN)(J:Option uN)(O ct:rN)(us:List rN),us.length=ps.length->uP (fnOf x q (wf st) (we st) (Ac st) .none kV g r J O ct) ⟨us,[]⟩=pure (ps.zip us)
def Ks.fn(h:Ks K x q st f)(b:Ls x q st ps):∃d,gi K x q st f d/\Zd K d ps []:=by
 revert h;refine ea4 ?_;rintro _ _;refine ea4 ?_;rintro _ _;refine ec5 ?_;rintro _ _ _ _ _ l c k;exact⟨_,Fy l c k,(Fy l c k).binds b⟩
structure Fe(K:XP)(mg:Str->Option rN)(x:Str)(st:aO)(ps:List Str):Prop where
 e:∃f d,gi K x x st f d/\Zd K d ps []/\mg x=qN (.ref f)
noncomputable def Fe.f(D:Fe K mg x st ps):uN:=D.e.choose
noncomputable def Fe.d(D:Fe K mg x st ps):UN:=D.e.choose_spec.choose
def Fe.F(D:Fe K mg x st ps):gi K x x st D.f D.d:=D.e.choose_spec.choose_spec.1
def Fe.b(D:Fe K mg x st ps):Zd K D.d ps []:=D.e.choose_spec.choose_spec.2.1
def Fe.m(D:Fe K mg x st ps):mg x=qN (.ref D.f):=D.e.choose_spec.choose_spec.2.2
def Vv.fe(D:Vv K x st)(X:K.In h)(G:h.Ns HN mg)(b:Ls x x st ps):Fe K mg x st ps:=by
 obtain⟨f,a,r⟩:=D;obtain⟨d,F,B⟩:=r.fn b;exact⟨f,d,F,B,mg_of X G a⟩
abbrev Fe.Ok(D:Fe K mg x st ps)(P:zN)(w:AN)(base:EN)(k:Nat)(sp:Sp):Prop:=kd P w K mg base Td k D.f D.d ps sp
def Xv(K:XP)(x:Str)(st:aO):Prop:=∃f r J O U kV Y a0 cd ct g b0 c0 d0,nsIn K HN x=qN (qN (.ref f))/\K.lookup f=qN ⟨r,J,.func (fnOf x x (wf st) (we st) (Ac st) (.ref g) kV Y a0 O cd ct),U⟩/\UP K cd x=wN/\iP K (.ref f)=wN/\K.lookup g=qN ⟨.type "tuple",b0,.seq #[.none] c0,d0⟩
def wI{r J O U kV Y a0 cd ct g b0 c0 d0}(a:nsIn K HN x=qN (qN (.ref f)))(l:K.lookup f=qN ⟨r,J,.func (fnOf x x (wf st) (we st) (Ac st) (.ref g) kV Y a0 O cd ct),U⟩)(c:UP K cd x=wN)(k:iP K (.ref f)=wN)(t:K.lookup g=qN ⟨.type "tuple",b0,.seq #[.none] c0,d0⟩):Xv K x st:=
 nx10 f _ _ _ (nx10 _ _ _ _ (nx19 _ _ _ _ _ _ a l c k t))
def Ms(x:Str)(st:aO)(ps:List Str)(g:List rN):Prop:=∀(r kV J O:rN)(U:Option uN)(Y ct:rN)(us:List rN),(us++g).length=ps.length->∃k:Option (Array rN)->fQ (List (Str×rN)),uP (fnOf x x (wf st) (we st) (Ac st) r kV J O U Y ct) ⟨us,[]⟩=(bP r>>=k)/\k (qN #[.none])=pure (ps.zip (us++g))
structure Fd(K:XP)(mg:Str->Option rN)(x:Str)(st:aO)(ps:List Str):Prop where
 e:∃f d,bq K x x st f d/\Zd K d ps []/\Zd K d ps [.none]/\mg x=qN (.ref f)
noncomputable def Fd.f(D:Fd K mg x st ps):uN:=D.e.choose
noncomputable def Fd.d(D:Fd K mg x st ps):UN:=D.e.choose_spec.choose
def Fd.F(D:Fd K mg x st ps):bq K x x st D.f D.d:=D.e.choose_spec.choose_spec.1
def Fd.b(D:Fd K mg x st ps):Zd K D.d ps []:=D.e.choose_spec.choose_spec.2.1
def Fd.bd(D:Fd K mg x st ps):Zd K D.d ps [.none]:=D.e.choose_spec.choose_spec.2.2.1
def Fd.m(D:Fd K mg x st ps):mg x=qN (.ref D.f):=D.e.choose_spec.choose_spec.2.2.2
def Xv.fd(D:Xv K x st)(X:K.In h)(G:h.Ns HN mg)(J:Ms x st ps [])(O:Ms x st ps [.none]):Fd K mg x st ps:=by
 revert D;refine ea4 ?_;rintro f _;refine ea4 ?_;rintro _ _;refine ea4 ?_;rintro _ _;refine ea4 ?_;rintro _ _;refine ec1 ?_;rintro _ _ U _ _ _ a l c k t;exact⟨f,_,IH l c k,λs us g r=>gA rfl t rfl g (J _ _ _ _ _ _ _ us r),λs us g r=>gA rfl t rfl g (O _ _ _ _ _ _ _ us r),mg_of X G a⟩
abbrev Fd.Ok(D:Fd K mg x st ps)(P:zN)(w:AN)(base:EN)(k:Nat)(sp:Sp):Prop:=kd P w K mg base Td k D.f D.d ps sp
structure Pn(K:XP)(C:uN):Prop where
 mo:az K C
 cl:Cls K C
 tc:RP K (.ref C) "__class__"=qN (qN (.builtin "object.__class__"))
 tm:mroIn K C (.type "object")=qN wN
def e0l(a:makesIn K C=wN)(b:RP K (.ref C) "__init__"=qN (qN (.builtin "object.__init__")))(c:iP K (.ref C)=wN)(d:plainGet K C Str.empty=wN)(e:hasDictIn K C=wN)(f:plainOver K C=wN)(g:RP K (.ref C) "__setattr__"=qN (qN (.builtin "object.__setattr__")))(i:RP K (.ref C) "__class__"=qN (qN (.builtin "object.__class__")))(j:mroIn K C (.type "object")=qN wN):Pn K C:=⟨⟨a,b,c⟩,⟨d,e,f,g⟩,i,j⟩
def Fe.xI(D:Fe K mg x st ps)(g:mg x=qN (.ref fa)){sp:EN->Sp}(b:∀kV r J O U ct v,uP (fnOf x x (wf st) (we st) (Ac st) .none kV r J O U ct) ⟨[v],[]⟩=pure [(p,v)])(Y:∀base,D.Ok P w base k (sp base)):
  ∃fd:UN,(∀(s:tN)(v:rN),dP s fd ⟨[v],[]⟩ [(p,v)])/\∀base:EN,K.In base->base.Ns HN mg->kd P w K mg base Td k fa fd ps (sp base):=by
 have e:=g.symm.trans D.m;cases e;refine⟨D.d,λs v=>?_,by(intros;simp_all)⟩;obtain⟨_,_,_,_,_,_,_,_,_,e,_⟩:=D.F.ex;rw[e];exact .of_eq (b ..)
end
def gq{N P:List Str}{g:ZN}(a:g.kind=.function:=by rfl)(b:g.isCoroutine=yN:=by rfl)(c:g.isGenerator=yN:=by rfl)(d:N.Nodup:=by decide+kernel)(e:N.take P.length=P:=by rfl)(f:∀x∈P,g.names.lookup x=qN .local\/g.names.lookup x=qN .cell:=by decide+kernel)(r:∀y∈g.names,y.2≠.free:=by decide+kernel):An N P g:=⟨a,b,c,d,e,f,r⟩
section
variable{X:Cx}
def fb{x:Str}{st:aO}{g:List Str}{k n:Nat}{sp:Sp}{p pos:oO}{e:IN}{es:List IN}{t:TA}(D:Fe X.K X.mg x st g)(F:kd X.prog X.w X.K X.mg X.base Td k D.f D.d g sp)(r:ib n X.A)(J:PA X (e::es) t)(h:k<=n:=by decide)(O:Gl X x:=by rfl)(U:(x==("__debug__":Str))=yN:=by decide)
  (Y:DN (e::es) X.env=(yN,SN e X.env)::DN es X.env:=by rfl)(a0:(XN pos (DN es X.env)).any (·.1)=yN:=by rfl):PE X (.Call (.Name x p) (e::es) [] pos) (fy sp [] E0 t):=zn (F.mono h) r O D.m D.F.kp D.b .nil Vk J U Y a0
def bc(i:Nat){pos:oO}(g:X.N[i]?=qN x:=by rfl)(r:X.N.Nodup:=by first|(show[_].Nodup;decide+kernel)|(show[_,_].Nodup;decide+kernel)|(show[_,_,_].Nodup;decide+kernel)|(show[_,_,_,_].Nodup;decide+kernel)|(show[_,_,_,_,_].Nodup;decide+kernel)|(show[_,_,_,_,_,_].Nodup;decide+kernel)|(show[_,_,_,_,_,_,_].Nodup;decide+kernel))
  (J:Loc X.env.scope x:=by first|exact Or.inl rfl|exact Or.inr rfl)(O:X.fn x=wN\/X.env.scope.names.lookup x=qN .local:=by first|exact .inl rfl|exact .inr rfl|assumption):PG X (.Name x pos) (Wl i):=Lx r g J O
def Ja(g:Bn X r)(J:PE X a O)(U:PE X b Y)(a0:py b:=by exactλ_ _=>rfl):PE X (.Subscript a b pos) (Qk r O Y):=hE g J U a0
section
variable{scope:ZN}{target iter elt:IN}{ifs:List IN}{pos:oO}{g:TG}{tc:L2.TT}{te:TE}{wi:TI}
def wA(fv:List Str)(js:List Nat)(a:scope.kind=.function:=by rfl)(b:∀q∈scope.names,q.2≠.cell:=by decide+kernel)(c:∀q∈scope.names,q.2=.local->scope.names.lookup q.1=qN .local:=by decide+kernel)(d:∀q∈scope.names,q.2=.free->q.1∈fv:=by decide+kernel)
  (e:∀x∈fv,X.env.kindOf x=qN .cell\/X.env.kindOf x=qN .free:=by repeat(first|exact Ry|refine iv (by first|exact Or.inl rfl|exact Or.inr rfl) ?_))(f:js.map (λj=>X.N[j]?)=fv.map qN:=by rfl)(h:∀x∈fv,scope.names.lookup x=qN .free:=by decide+kernel):Ah X scope fv js:=⟨a,b,c,d,e,f,h⟩
def Ud(r fv:List Str)(js:List Nat)(O:PI X target iter wi)(a0:∀{J C s₀ H₀ ex},PG (Yc X scope (r++fv) J C s₀ H₀ ex) target g)(b0:∀{J C s₀ H₀ ex},Pj (Yc X scope (r++fv) J C s₀ H₀ ex) ifs tc)(c0:∀{J C s₀ H₀ ex},PE (Yc X scope (r++fv) J C s₀ H₀ ex) elt te)
  (S:Ah X scope fv js:=by exact wA _ _)(U:X.calm=wN:=by rfl)(Y:∀x,YN iter X.env x=pure x:=by intro _;rfl):PE X (.ListComp elt [⟨target,iter,ifs,0⟩] scope pos) (Qp r.length js wi g tc te):=hF r U S O ‹_› ‹_› ‹_› Y
def jj(i:Nat){y:Str}{O U:oO}(r:List Str)(a0:X.N.Nodup)(fv:List Str)(js:List Nat)(b0:PI X target iter wi)(i0:∀{J C s₀ H₀ ex},PG (Yc X scope (r++fv) J C s₀ H₀ ex) target g)(j0:∀{J C s₀ H₀ ex},Pj (Yc X scope (r++fv) J C s₀ H₀ ex) ifs tc)(k0:∀{J C s₀ H₀ ex},PE (Yc X scope (r++fv) J C s₀ H₀ ex) elt te)
  (S:Ah X scope fv js:=by exact wA _ _)(c0:X.calm=wN:=by rfl)(d0:X.N[i]?=qN y:=by rfl)(e0:X.env.scope.names.lookup y=qN .local:=by rfl)(f0:aP (.ListComp elt [⟨target,iter,ifs,0⟩] scope pos) (qN (.Name y O)) U.line X.env=pure wN:=by rfl)(g0:∀x,YN iter X.env x=pure x:=by intro _;rfl):
  PS X (.Assign [.Name y O] (.ListComp elt [⟨target,iter,ifs,0⟩] scope pos) U) (λD Y H=>Qp r.length js wi g tc te Y H λv h0=>D.nx (Y.set i (qN v)) h0):=iF r c0 a0 d0 e0 S b0 f0 ‹_› ‹_› ‹_› g0
end
end
open PyProof PySem.SeqAt
def Yv{α g:Type}(f:α->g):∀l:List α,(l.map f).zip l=l.map λv=>(f v,v)
 |[]=>rfl
 |a::r=>by rw[Sc,Il,Yv f r,Sc]
def xA{K:Type}[DecidableEq K](V:HVK K)(Y:K){g:List rN}{J:List K}(c0:J.length=g.length)(O:∀(i:Nat)(u:rN),g[i]?=qN u->∃k,J[i]?=qN k/\V.is h k u):∃kf:rN->K,(∀u∈g,V.is h (kf u) u)/\g.map kf=J:=by
 refine⟨Mv _ V h Y,λu a0=>?_,?_⟩
 ·obtain⟨i,b0⟩:=Hd.mp a0;obtain⟨k,_,r⟩:=O i u b0;rw[Oz r];exact r
 ·apply List.ext_getElem?;intro i;rw[lb];cases U:g[i]? with
  |none=>
   rw[gu]at U;rw[Option.map_none,List.getElem?_eq_none (by simp_all)]
  |some u=>
   obtain⟨k,ek,r⟩:=O i u U;rw[ek,Option.map_some,Oz r]
end My
namespace My
open PySem PySem.Spec PyProof.Rows L2 PyProof
def fp(f:Nat->Option HO)(j:Nat)(o:HO):Nat->Option HO:=λi=>if i=j then qN o else f i
def tp(H:Hp):Hp:=λb=>match H b with
 |some (.tup xs)=>qN (.tup xs)
 |_=>sN
end My
namespace My
open PySem PySem.Spec PySem.W PyProof.Rows L2
section
variable{K:XP}{x q:Str}{st:aO}{ps:List Str}{C:uN}
structure Me(K:XP)(C:uN)(x q:Str)(st:aO)(ps:List Str):Prop where
 e:∃f d,Zf K C x f/\gi K x q st f d/\Zd K d ps []
noncomputable def Me.f(D:Me K C x q st ps):uN:=D.e.choose
noncomputable def Me.d(D:Me K C x q st ps):UN:=D.e.choose_spec.choose
def Me.m(D:Me K C x q st ps):Zf K C x D.f:=D.e.choose_spec.choose_spec.1
def Me.F(D:Me K C x q st ps):gi K x q st D.f D.d:=D.e.choose_spec.choose_spec.2.1
def Me.b(D:Me K C x q st ps):Zd K D.d ps []:=D.e.choose_spec.choose_spec.2.2
abbrev Me.Ok(D:Me K C x q st ps)(mg:Str->Option rN)(P:zN)(w:AN)(base:EN)(k:Nat)(sp:Sp):Prop:=kd P w K mg base Td k D.f D.d ps sp
end
section
variable{K:XP}{mg:Str->Option rN}{h:EN}{x q:Str}{st:aO}{ps:List Str}{f C S N:uN}{oc kV dc pm cd ct:rN}{od an dd:Option uN}{sl:Array (Option rN)}
def e6e(X:K.In h)(G:h.Ns HN mg)(a:nsIn K HN x=qN (qN (.ref f)))(l:K.lookup f=qN ⟨oc,od,.func (fnOf x x (wf st) (we st) (Ac st) .none kV dc pm an cd ct),sl⟩)(c:UP K cd x=wN)(k:iP K (.ref f)=wN)(b:Ls x x st ps):Fe K mg x st ps:=(vI a l c k).fe X G b
def e4w(X:K.In h)(G:h.Ns HN mg)(a:nsIn K HN x=qN (qN (.ref f)))(l:K.lookup f=qN ⟨oc,od,.func (fnOf x x (wf st) (we st) (Ac st) (.ref g) kV dc pm an cd ct),sl⟩)(c:UP K cd x=wN)(k:iP K (.ref f)=wN)(t:K.lookup g=qN ⟨.type "tuple",O,.seq #[.none] U,Y⟩)(r:Ms x st ps [])(J:Ms x st ps [.none]):Fd K mg x st ps:=(wI a l c k t).fd X G r J
def e6u(a:RP K (.ref C) x=qN (qN (.ref f)))(l:K.lookup f=qN ⟨oc,od,.func (fnOf x q (wf st) (we st) (Ac st) .none kV dc pm an cd ct),sl⟩)(c:UP K cd q=wN)(k:iP K (.ref f)=wN)(i:isFn K (.ref f)=wN)(b:Ls x q st ps):Me K C x q st ps:=by
 obtain⟨d,F,B⟩:=Ks.fn (nx1 _ _ (nx10 _ _ _ _ (nx16 _ _ _ l c k))) b;exact⟨f,d,⟨a,i,k⟩,F,B⟩
def e6p(D:Me K C "__init__" q st ps)(m:makesIn K C=wN)(k:iP K (.ref C)=wN):Mk K C D.f:=⟨m,D.m.at_,D.m.fn,k⟩
def d6c(D:Me K B x q st ps)(a:RP K (.ref B) x=qN (qN (.ref f)))(b:RP K (.ref C) x=qN (qN (.ref f))):Zf K C x D.f:=by
 have e:=D.m;have z:=e.at_.symm.trans a;cases z;exact⟨b,e.fn,e.kp⟩
def e1r(l:K.lookup f=qN ⟨.type "tuple",od,.seq g n,sl⟩)(z:g.size<=vN)(v:Ia xs g.toList):∀H,oa K H f xs:=λ_=>.inr (nx8 _ _ _ l rfl rfl z v)
variable{nm qn:Str}{bs sub:List rN}{hd ab:Bool}{sn:List Str}{col:Option Bool}{k0 k1 k2 k3 k5:Option rN}
end
section
variable{X:Cx}{e o:IN}{es:List IN}{ta td ty:TE}{t:TA}{C f:uN}{m x:Str}{fd:UN}{ps:List Str}{k n:Nat}{sp:Sp}{apos pos p:oO}
def Ca(g:PE X e ta)(r:DN [e] X.env=(yN,SN e X.env)::DN [] X.env:=by rfl):PA X [e] (vr ta Fp):=ka g Oc r
def za(i:Nat)(g:X.N[i]?=qN x:=by rfl)(r:nn X.env.scope x:=by first|exact Or.inl rfl|exact Or.inr (Or.inl rfl)|exact Or.inr (Or.inr rfl))(J:(x==("__debug__":Str))=yN:=by decide)(O:(x==("__classdict__":Str))=yN:=by decide)(U:DN [.Name x p] X.env=(yN,SN (.Name x p) X.env)::DN [] X.env:=by rfl):
  PA X [.Name x p] (vr (Fj i) Fp):=ka (Jx g r J O) Oc U
def Mc(g:X.A.units+1<CN)(r:PE X o td)(J:PE X i ty)(O:Ar i:=by exactλ_ _=>rfl):PE X (.Subscript o i pos) (By td ty):=AE g r J O
end
@[elab_as_elim]theorem nw{H:Hp}{p:uN}{Q:Hp->Prop}{o:HO}(h:H p=sN)(k:∀H',aa H H'->H' p=qN o->Q H'):Q (upd H p o):=k _ (aa.upd h) ia
@[elab_as_elim]theorem nO{H:Hp}{x dx C:uN}{Q:Hp->Prop}(h:H x=sN)(hd:H dx=sN)(n:dx≠x)(k:∀H',aa H H'->H' x=qN (.ins C dx [])->Q H'):Q (upd (upd H dx (.own x)) x (.ins C dx [])):=
 k _ (λb o e=>by rw[ja (Tc e h),ja (Tc e hd)];exact e) ia
@[elab_as_elim]theorem cg{H:Hp}{p:uN}{Q:Hp->Prop}{o:HO}(k:∀H',(∀b u,b≠p->H b=qN u->H' b=qN u)->H' p=qN o->Q H'):Q (upd H p o):=k _ (λb u n e=>by rw[ja n];exact e) ia
@[elab_as_elim]theorem cb{G H:Hp}{p:uN}{Q:Hp->Prop}{o:HO}(B:∀b u,b≠p->G b=qN u->H b=qN u)(k:∀H',(∀b u,b≠p->G b=qN u->H' b=qN u)->(∀b u,b≠p->H b=qN u->H' b=qN u)->H' p=qN o->Q H'):Q (upd H p o):=cg λ_ B' h=>k _ (λb u n e=>B' b u n (B b u n e)) B' h
def yI(s:aa H G)(B:∀b u,b≠p->G b=qN u->H' b=qN u)(h:H p=sN):aa H H':=λb o e=>B _ _ (λz=>by rw[z,h]at e;cases e) (s _ _ e)
def Oe(g:ZN):List Str:=g.names.filterMap λp=>match p.2 with
 |.local=>qN p.1
 |.cell=>qN p.1
 |_=>sN
def Ua{P:zN}{w:AN}{K:XP}{mg:Str->Option rN}{base:EN}{x q:Str}{st:aO}{g:List Str}{f:uN}{d:UN}{k:Nat}{sp:Sp}(F:gi K x q st f d)(h:∀{r:rN}{A:BN}{outer:List NP}{s:tN}(H:Hp)(vs:List V)(Q:VK)(E:XK),ib k (A.deeper (CO q (Ac st) s.heap.objs.size f r))->sp vs H Q E->
   ∃t,Ee (Tk Td P w K mg base (Oe (Ac st)) q (Ac st) f r A outer s H E).Wh (we st) t/\t {nx:=λ_ H'=>Q .Ra H',rt:=Q} (start (Oe (Ac st)) vs) H)
  (S:An (Oe (Ac st)) g (Ac st):=by exact gq)(l:∀vs H Q E,sp vs H Q E->vs.length=g.length:=by intro vs H Q E h;first|(cases h;subst_vars;rfl)|(repeat(first|(obtain⟨rfl,_⟩:=h;rfl)|(obtain⟨_,h⟩:=h)))):kd P w K mg base Td (k+1) f d g sp:=F.ok S l λ_ _ _ _=>h
section
variable{X:Cx}
def Ma(i:Nat){x:Str}{pos g:oO}(r:PE X e J)(O:X.N.Nodup:=by show(Oe _).Nodup;decide+kernel)(U:X.N[i]?=qN x:=by rfl)(Y:Loc X.env.scope x:=by first|exact Or.inl rfl|exact Or.inr rfl)(a0:aP e (qN (.Name x g)) pos.line X.env=pure yN:=by rfl)
  (b0:X.fn x=wN\/X.env.scope.names.lookup x=qN .local:=by first|exact .inl rfl|exact .inr rfl|assumption):PS X (.Assign [.Name x g] e pos) (zu J (Wl i)):=qD O U Y r a0 b0
def bb(i:Nat){x:Str}{pos:oO}(g:X.N.Nodup:=by show(Oe _).Nodup;decide+kernel)(r:X.N[i]?=qN x:=by rfl)(J:Loc X.env.scope x:=by first|exact Or.inl rfl|exact Or.inr rfl)(O:X.fn x=wN\/X.env.scope.names.lookup x=qN .local:=by first|exact .inl rfl|exact .inr rfl|assumption):PG X (.Name x pos) (Wl i):=Lx g r J O
end
def Pc{H:Hp}(h:H a=x)(g:H b=y)(n:x≠y:=by nofun):a≠b:=λz=>n (by rw[<-h,z,g])
open PyProof PySem.SeqAt
abbrev Pk:=Nk×Nk
def Qs(h:EN)(k:Pk)(a:uN):Prop:=(NV.pair NV).is h k (.ref a)
def iq(prog:zN)(w:AN)(k:Pk):Int:=bO (Builtin.Tuple.tupleHashOf [fh prog w k.1,fh prog w k.2])
section
variable{prog:zN}{w:AN}{A:BN}{E:rN->tN->Prop}{s:tN}
def zI(f0:A.units+4<CN)(x:Qs s.heap k a)(h:Q (iq prog w k) {s with toks:=s.toks+7}):wpAny (xN prog w) A (PySem.pyHash (.ref a)) Q E s:=by
 revert x;refine ea0 ?_;rintro J r⟨g0,o,n,e,O,a0,b0⟩c0 d0;cases e;have g:s.TypeIs (.ref a) "tuple":=⟨o,O,a0⟩;have U:A.in1.units<CN:=by show A.units+1<CN;lia
 unfold PySem.pyHash;unfold GO;refine ba (Tq (.inr (by lia)) (ba (Uf g Ig.lookup ?_)));refine ba (Uf g Ig.lookup ?_);refine ba (Pq g Ig (vd Ig g qu ?_ (ru _)));show wpAny _ _ (Builtin.Tuple.tupleItemsOf (.ref a)>>=λh0=>_) _ _ _;refine ba (Wq O b0 (ba ?_));rw[<-sj,show(#[J,r]:Array rN).toList=[J,r]from rfl,Wd];refine ba (ba (Es U c0 (ga ?_)));show wpAny _ _ (forIn [r] _ _) _ _ _;rw[Wd];refine ba (ba (Es U d0 (ga ?_)));refine ga (show wpAny _ _ (retInt (Builtin.Tuple.tupleHashOf [fh prog w k.1,fh prog w k.2])) _ _ _ from ?_);generalize e0:Builtin.Tuple.tupleHashOf [fh prog w k.1,fh prog w k.2]=z;unfold iq at h;rw[e0]at h;refine EO (show wpAny _ _ (if(decide (-(2:Int)^63<=z)&&decide (z<2^63))=wN then _ else _) Q E _ from ?_);unfold bO at h;by_cases Y:(decide (-(2:Int)^63<=z)&&decide (z<2^63))=wN
 ·rw[va Y]at h⊢;exact ga h
 ·rw[na Y]at h⊢;exact ba (Ue (ga h))
end
def pk(prog:zN)(w:AN):HeapKind prog w Pk where
 is:=Qs
 hash:=iq prog w
 draws:=λ_=>7
 room:=λA=>A.units+4<CN
 inj:=λg r=>(NV.pair NV).inj g r
 keeps:=λ{h h' k a d o es ep}x U Y O=>(NV.pair NV).keep x λb ob xs n e c dd=>(O.2 b (by grind)).trans e
 pyHash:=λJ x h=>zI J x h
 eqBool:=λ{A _ _ _ _ _ _ _}J g r h=>(NV.pair NV).eq (by show A.units+2<CN;lia) g r _ _ _ _ h
 quiet:=λx h=>(NV.pair NV).quiet 8 (by decide) x h
def yA:∀{xs:List α}{bs:List r}{ys:List α}{g:List r},Paired F xs bs->Paired F ys g->Paired F (xs++ys) (bs++g)
 |_,_,_,_,.nil,h=>h
 |_,_,_,_,.cons J t,h=>.cons J (yA t h)
def Gh(P:zN)(w:AN)(H:Hp)(g:Array ON)(kvs:List (Pk×V)):Prop:=
 Paired (λ(e:ON)(q:Pk×V)=>∃b u,e={hash:=iq P w q.1,key:=.ref b,val:=u}/\Gc H (.ref b) q.1/\Aa q.2 u) g.toList kvs/\(kvs.map (·.1)).Nodup
def Gh.kp(d:Gh P w H g kvs)(k:∀b xs,H b=qN (.tup xs)->H' b=qN (.tup xs)):Gh P w H' g kvs:=
 ⟨Paired.Yb d.1 (by rintro _ _;refine ea0 ?_;rintro b u e⟨p,v,r,J,O,U,Y⟩a0;exact nx0 b u e (nx2 p v r J (k _ _ O) (U.kp k) (Y.kp k)) a0),d.2⟩
section
variable{X:Cx}{pins:List (uN×TN)}{σ:L2.St}{H:Hp}{s:tN}{a b:uN}{kvs:List (Pk×V)}{k:Pk}{en:Array ON}{ep:Nat}{r:rN}{d:V}{E:rN->tN->Prop}
def AA:∀{es:List ON}{kvs:List (Pk×V)},Paired (λ(e:ON)(q:Pk×V)=>∃b u,e={hash:=iq P w q.1,key:=.ref b,val:=u}/\Gc H (.ref b) q.1/\Aa q.2 u) es kvs->
  ∃xs:List (Pk×uN×rN),es=xs.map (jP (pk P w))/\Paired (λ(q:Pk×V)(x:Pk×uN×rN)=>q.1=x.1/\Gc H (.ref x.2.1) x.1/\Aa q.2 x.2.2) kvs xs
 |_,_,.nil=>⟨[],rfl,.nil⟩
 |_,_,.cons ⟨b,u,e,g,J⟩ t=>by
  refine ea1 ?_ (AA t);rintro xs O p;exact⟨(_,b,u)::xs,by rw[e,O];rfl,.cons ⟨rfl,g,J⟩ p⟩
def BA(I:Inv X pins σ H s)(h:Gc H v k)(r:Aa v u):∃b,u=.ref b/\v=.ref b/\Qs s.heap k b:=by
 have z:=Jv I h r;obtain⟨p,_,_,rfl,_⟩:=h;obtain rfl:u=Value.ref p:=r;exact⟨p,rfl,rfl,z⟩
def Zv:∀{kvs:List (Pk×V)}{xs:List (Pk×uN×rN)},Paired (λ(q:Pk×V)(x:Pk×uN×rN)=>q.1=x.1/\Gc H (.ref x.2.1) x.1/\Aa q.2 x.2.2) kvs xs->Bd (Ka kvs k) ((xO xs k).map (·.2))
 |_,_,.nil=>by simp[Ka,xO,Bd]
 |_,_,.cons (b:=x) ⟨e,_,J⟩ t=>by
  have g:=Zv t;unfold Ka xO at g⊢;rw[Pg,Pg,e];by_cases z:x.1=k
  ·rw[Xb z];exact J
  ·rw[he z];exact g
def DA(I:Inv X pins σ H s)(e:H a=qN (.ext (Le a en ep)))(x:Gh X.prog X.w H en kvs):(a==NN)=yN/\en.size<=vN/\
  ∃xs,en.toList=xs.map (jP (pk X.prog X.w))/\Paired (λ(q:Pk×V)(x:Pk×uN×rN)=>q.1=x.1/\Gc H (.ref x.2.1) x.1/\Aa q.2 x.2.2) kvs xs/\s.heap.DictOfH (pk X.prog X.w) a xs:=by
 obtain⟨⟨O,hz,o,U,Y,a0⟩,_⟩:=I.ya a _ e;refine ea1 ?_ (AA x.1);rintro xs g p;have ek:∀{kvs:List (Pk×V)}{xs:List (Pk×uN×rN)},Paired (λ(q:Pk×V)(x:Pk×uN×rN)=>q.1=x.1/\Gc H (.ref x.2.1) x.1/\Aa q.2 x.2.2) kvs xs->kvs.map (·.1)=xs.map (·.1)/\∀y∈xs,Qs s.heap y.1 y.2.1:=by
  intro kvs xs p;induction p with
  |nil=>exact⟨rfl,λ_ h=>by cases h⟩
  |cons h t J=>
   refine⟨by rw[Sc,Sc,J.1,h.1],λy b0=>?_⟩;rcases rc.mp b0 with z|z
   ·subst z;exact Jv I h.2.1 rfl
   ·exact J.2 y z
 obtain⟨c0,d0⟩:=ek p;exact⟨O,hz,nx5 xs g p o (nx22 en ep U Y a0 g d0 (c0▸x.2))⟩
def AI(d0:A.units+8<CN)(I:Inv X pins σ H s)(e:H a=qN (.ext (Le a en ep)))(x:Gh X.prog X.w H en kvs)(J:Gc H y k)(O:Aa y u)(U:Ka kvs k=qN v)(h:∀g s',Inv X pins σ H s'->Aa v g->Q g s'):s.TypeIs (.ref a) "dict"/\wpAny (xN X.prog X.w) A (sP (.ref a) u) Q E s:=by
 refine ec3 ?_ (DA I e x);rintro _ _ xs _⟨p,dd⟩;refine ea8 ?_ (BA I J O);rintro b rfl rfl Y;have q:Bd (Ka kvs k) ((xO xs k).map (·.2)):=Zv p;rw[U]at q;obtain⟨g,a0,b0⟩:=Bd.some_of q;obtain⟨z,hz,c0⟩:=Jd.mp a0;refine⟨dd.typeIs,wpAny_getItem_heap (show A.units+1+4<CN by lia) Y dd hz ?_⟩;rw[c0];exact h g _ (I.tok _) b0
def BI(M0:A.units+8<CN)(I:Inv X pins σ H s)(e:H a=qN (.ext (Le a en ep)))(x:Gh X.prog X.w H en kvs)(U:Gc H y k)(o0:Aa y u)(rd:Aa d r)(N0:en.size<vN)
  (p0:∀v Y s',Ka kvs k=qN v->Inv X pins σ H s'->Aa v Y->Q Y s')
  (q0:Ka kvs k=sN->∀O a0 s',Gh X.prog X.w (upd H a (.ext (Le a O a0))) O (kvs++[(k,d)])->Inv X pins σ (upd H a (.ext (Le a O a0))) s'->Q r s'):wpAny (xN X.prog X.w) A (call (.builtin "dict.setdefault") [.ref a,u,r]) Q E s:=by
 refine ec3 ?_ (DA I e x);rintro f0 hz xs ex⟨p,dd⟩;refine ea8 ?_ (BA I U o0);rintro b rfl rfl g0;have h0:=dd.typeIs;refine vd hr h0 F.entry_dict_setdefault ?_ (F.args_dict_setdefault_3 _ _ _);refine ba (ba (br h0 ?_));refine ga ?_;dsimp only;rw[na (by rw[f0];exact Vc)];refine ba ?_;revert dd;refine ec8 ?_;rintro o es r0 b0 s0 J i0 t0 j0;have q:Bd (Ka kvs k) ((xO xs k).map (·.2)):=Zv p;refine Rc (ba ((pk X.prog X.w).pyHash (by show A.units+1+4<CN;lia) g0 (ba (wpAny_dictFind_heap (by show A.units+1+4<CN;lia) g0 b0 J i0 t0 j0 (λu0=>?_) λj z k0=>?_))))
 ·rw[atKey_none_of_get u0]at q;have c0:Ka kvs k=sN:=by
   cases g:Ka kvs k with
   |none=>rfl
   |some y=>rw[g]at q;exact(q).elim
  obtain⟨⟨_,_,v0,O0,_,l0⟩,_⟩:=I.ya a _ e;obtain rfl:v0=o:=by simp_all
  obtain⟨rfl,rfl⟩:es=en/\r0=ep:=by rw[J]at l0;injection l0 with w0 x0;exact⟨w0,x0⟩
  refine ba (Ue (ba (wpAny_updateDictKeys b0 J (ga (ga ⟨r,rfl,?_⟩)) (by lia) (by simp))));have y0:=Gf s.heap a (Obj.mapDictKeys (·.push {hash:=(pk X.prog X.w).hash k,key:=.ref b,val:=r}));have m0:=Ki (Obj.mapDictKeys (·.push {hash:=(pk X.prog X.w).hash k,key:=.ref b,val:=r})) b0 (Obj.isFreed_of_dict (Obj.data_mapDictKeys J _));have d0:∀O a0 c ys,H c=qN (.tup ys)->upd H a (.ext (Le a O a0)) c=qN (.tup ys):=λ_ _ c ys z0=>by rw[ja (by lia)];exact z0
  refine q0 c0 _ _ _ ⟨?_,?_⟩ (zr (I.tok _) (by rw[e];exact True.intro) y0 ⟨_,m0⟩ (Tv ⟨f0,?_,_,m0,s0.mapDictKeys _,Obj.data_mapDictKeys J _⟩))
  ·rw[El];revert U;refine ea5 ?_;rintro A0 B0 C0 e0 g D0 F0;exact yA (Gh.kp x (d0 _ _)).1 (.cons (nx0 b r rfl (nx2 A0 B0 C0 e0 (d0 _ _ _ _ g) (D0.kp (d0 _ _)) (F0.kp (d0 _ _))) rd) .nil)
  ·rw[Qd];refine Hl.mpr ⟨x.2,by simp,λy U w n0 e0=>?_⟩;have g:w=k:=by simpa using n0
   obtain⟨z,G0,I0⟩:=Sa.mp U;unfold Ka at c0;rw[Rq,Yo]at c0;exact c0 z G0 (by rw[I0,e0,g];simp)
  ·rw[Array.size_push];lia
 ·rw[atKey_of_get j0 k0]at q;cases g:Ka kvs k with
  |none=>rw[g]at q;exact absurd (Bd.none_of q) (by simp)
  |some y=>
   rw[g]at q;refine ea1 ?_ (Bd.some_of q);rintro Y n0 J0;have K0:z.2=Y:=by simp_all
   refine ba (Ol b0 J ?_);have L0:es[j]?=qN (jP (pk X.prog X.w) (k,z)):=by rw[<-Kd,i0,lb,k0];rfl
   rw[L0];refine ba (Ue (ga (ga ⟨_,rfl,p0 y _ _ g (I.tok _) ?_⟩)));show Aa y z.2;rw[K0];exact J0
end
def CI:TE:=λ_ H Q=>∀p,H p=sN->Q (.ref p) (upd H p (.ext (Le p #[] 0)))
inductive DI(P:zN)(w:AN)(ty tx:TE)(σ:L2.St)(Q:VK)(x:V)(H1:Hp):Prop|mk(a en ep)(_:x=.ref a)(_:H1 a=qN (.ext (Le a en ep)))(_:ty σ H1 λy H2=>tx σ H2 λz H3=>∃en ep kvs k,H3 a=qN (.ext (Le a en ep))/\Gh P w H3 en kvs/\Gc H3 y k/\en.size<vN/\(∀v,Ka kvs k=qN v->Q v H3)/\(Ka kvs k=sN->∀aw EA,Gh P w (upd H3 a (.ext (Le a aw EA))) aw (kvs++[(k,z)])->Q z (upd H3 a (.ext (Le a aw EA)))))
def EI(P:zN)(w:AN)(r J O:TE):TE:=λg H Q=>r g H (DI P w J O g Q)
inductive FI(P:zN)(w:AN)(Q:VK)(x y:V)(H2:Hp):Prop|mk(a en ep kvs k v)(_:x=.ref a)(_:H2 a=qN (.ext (Le a en ep)))(_:Gh P w H2 en kvs)(_:Gc H2 y k)(_:Ka kvs k=qN v)(_:Q v H2)
def GI(P:zN)(w:AN)(r J:TE):TE:=λg H Q=>r g H λx O=>J g O (FI P w Q x)
section
variable{X:Cx}{P:zN}{w:AN}{o e f:IN}{td ty tx:TE}{apos Kb pos:oO}
def HI:PE X (.Dict [] [] pos) CI:=⟨λg s r H Q I h=>
 yP ⟨.ref s.heap.objs.size,_,I.laid (λ_ _ q=>Pa _ q) (wa _) (Tv ⟨lp.mpr (lc (nb I.big)),Va _,_,yb _ rfl,⟨rfl,rfl,rfl⟩,rfl⟩),rfl,h _ (I.ya.fresh (wa _))⟩⟩
def II(n0:X.prog=P)(o0:X.w=w)(J:X.A.units+8<CN)(O:PE X o td)(U:PE X e ty)(Y:Ar e):PE X (.Subscript o e pos) (GI P w td ty):=by
 constructor;intro g s r H Q I h;refine Ay F.slot_dict_getitem.lookup Y (xa (O g s r H _ I h) ?_);rintro u a0⟨x,b0,c0,d0,q1⟩;refine xa (U g a0 r b0 _ c0 q1) ?_;rintro p0 q0⟨y,e0,f0,g0,a,r0,ep,kvs,k,v,ex,h0,i0,j0,k0,q2⟩;subst ex;obtain rfl:u=Value.ref a:=d0;exact AI J f0 h0 i0 j0 g0 k0 λs0 t0 l0 m0=>⟨v,e0,l0,m0,q2⟩
def JI(z0:X.prog=P)(A0:X.w=w)(c0:X.A.units+8<CN)(d0:PE X o td)(e0:PE X e ty)(f0:PE X f tx)(m:M2 X o "setdefault" apos e f Kb):PE X (.Call (.Attribute o "setdefault" apos) [e,f] [] Kb) (EI P w td ty tx):=by
 constructor;intro g s r H Q I h;refine nP m.base m.Ab m.line Yq hr F.type_dict_setdefault (xa (d0 g s r H _ I h) ?_);rintro u g0⟨x,h0,U,i0,a,j0,ep,ex,J,q1⟩;subst ex;obtain rfl:u=Value.ref a:=i0;obtain⟨⟨_,_,ob,Y,a0,_⟩,_⟩:=U.ya a _ J;refine⟨⟨ob,Y,a0.1⟩,λb q=>by cases q;exact⟨ob,Y,a0.2.1⟩,?_⟩;rw[m.trees];refine Ho rfl (Qq (Gi (xa (e0 g g0 r h0 _ U q1) ?_)));rintro B0 k0⟨y,l0,m0,n0,q2⟩;refine Gi (xa (f0 g k0 r l0 _ m0 q2) ?_);rintro fv C0⟨z,o0,p0,b0,j0,ep,kvs,k,J,q0,r0,s0,q3,t0⟩;refine Nl ?_;exact BI c0 p0 J q0 r0 n0 b0 s0 (λv D0 u0 l O v0=>⟨v,o0,O,v0,q3 v l⟩) λl w0 x0 u0 y0 O=>⟨z,_,O,b0,t0 l w0 x0 y0⟩
end
abbrev Hh(h:EN)(z TI TO:uN)(g r:rN):Prop:=h.get? z=qN {cls:=.type "zip",dict:=sN,data:=.fields #[g,r,.bool yN,.ref TI,.ref TO],slots:=#[]}
section
variable{P:zN}{w:AN}{K:W.Frag}
def KI(h:Q (s.heap.get? a) s):wpAny (xN P w) A (loadIfAlive a) Q E s:=
 λg p _=>by show Sem.wp _ _ (.loadIfAlive a .pure) _ _ _ _;exact h
def FA{A:BN}{E:rN->tN->Prop}{s:tN}{z TI TO i0 f0:uN}{g r a b:rN}{Q:Fin->tN->Prop}(t0:TO≠z)(hz:Hh s.heap z TI TO g r)(u0:g=.none\/∃p:uN,g=PN p)(v0:ZO s.heap TI (.ref i0) (.ref f0))(I0:ZO s.heap TO a b)
  (h:∀g0 g r,Hh g0 z TI TO g r->Heap.SameBut z s.heap g0->
   wpAny (xN P w) A (Builtin.SmallTypes.nextOf (.ref i0)) (λx U=>Hh U.heap z TI TO g r/\ZO U.heap TO a b/\∀Y c d,ZO Y TO c d->Heap.SameBut TO U.heap Y->
    wpAny (xN P w) A (Builtin.SmallTypes.nextOf (.ref f0)) (λy J=>Hh J.heap z TI TO g r/\ZO J.heap TO c d/\∀O j0 h0 c d,ZO O TO c d->Heap.SameBut TO J.heap O->
      Heap.SameBut z (O.push {cls:=.type "tuple",data:=.seq #[x,y]}) j0->Heap.SameBut z j0 h0->(∃g r,Hh h0 z TI TO g r/\(g=.none\/∃p:uN,g=PN p))->Q (.done (.ret (.ref O.objs.size))) {J with heap:=h0})
     (λe J=>Hh J.heap z TI TO g r/\∀O,Heap.SameBut z J.heap O->E e {J with heap:=O}) {U with heap:=Y})
    (λe U=>Hh U.heap z TI TO g r/\∀Y,Heap.SameBut z U.heap Y->E e {U with heap:=Y}) {s with heap:=g0}):
  wpAny (xN P w) A (Builtin.«zip.__next__» ⟨[.ref z],[]⟩) Q E s:=by
 have b0:∀{c:uN}{a0:EN},Heap.SameBut c a0 a0:=⟨rfl,λ_ _=>rfl⟩;have free:wpAny (xN P w) A (Builtin.SmallTypes.ownedTupleIsFree (.ref z)) (λn0 s'=>(n0=wN/\s'=s)\/(n0=yN/\(∃p:uN,g=PN p)/\∃a0 r,s'={s with heap:=a0}/\Hh a0 z TI TO g r/\Heap.SameBut z s.heap a0)) E s:=by
  refine ba (rO hz rfl rfl ?_);rcases u0 with rfl|⟨p,rfl⟩
  ·exact ga (.inl ⟨rfl,rfl⟩)
  ·refine ba (KI ?_);cases s.heap.get? (p:Int).toNat with
   |none=>exact ga (.inl ⟨rfl,rfl⟩)
   |some o=>
    refine ba (rO hz rfl (x:=r) rfl ?_);by_cases e:(r !=.bool wN)=wN
    ·rw[va e];exact ba (Ym hz (by simp) λa0 q k=>ga (.inr (⟨rfl,⟨p,rfl⟩,nx0 a0 (.bool wN) rfl q k⟩)))
    ·rw[na e];exact ga (.inr (⟨rfl,⟨p,rfl⟩,nx0 s.heap r rfl hz b0⟩))
 refine ba (MO rfl ?_);refine ba (rO hz rfl (x:=.bool yN) rfl (ba (rO hz rfl rfl (ba (Ff v0 rfl (ba (xa free λn0 s' w0=>?_)))))));rcases w0 with⟨rfl,rfl⟩|⟨rfl,x0,a0,r0,rfl,y0,k⟩
 ·refine ba (Ue (ba (rO hz rfl rfl (ba (Ym hz (by simp) λg0 q1 z0=>ba ?_)))));refine ba (ba (wpAny_onRaise (ba (zd (h g0 .ellipsis r q1 z0) (λx U c0=>?_) (by rintro e U⟨q2,o0⟩;exact Ym q2 (by simp) λY _ p0=>o0 Y p0)))));revert c0;refine ea3 ?_;rintro q2 k0 c0;refine ga (ba (Ff k0 rfl (ba (wpAny_updateSeq_pair k0 λY A0 p0=>ba (qh (ga (ba (ba (wpAny_onRaise ?_)))))))));refine ba (zd (c0 Y _ _ A0 p0) (λy J d0=>?_) (by rintro e J⟨e0,q0⟩;exact Ym e0 (by simp) λO _ l0=>q0 O l0));revert d0;refine ea3 ?_;rintro e0 m0 d0;refine ga (ba (Ff m0 rfl (ba (wpAny_updateSeq_pair m0 λO s0 l0=>ba (qh (ga (ga (ba (Ff s0 rfl (ba (Mo ?_ Ha)))))))))));have B0:=l0.extBut _ _ t0.symm e0;have out:wpAny (xN P w) A (Builtin.SmallTypes.ownedTupleHandOut (.ref z) (.ref O.objs.size)) (λ_ s'=>Q (.done (.ret (.ref O.objs.size))) s') E {J with heap:=O.push {cls:=.type "tuple",data:=.seq #[x,y]}}:=by
   refine ba (Ym (Pa _ B0) (by simp) λj0 C0 D0=>Ym C0 (by simp) λh0 F0 G0=>d0 O j0 h0 _ _ s0 l0 D0 G0 (nx4 _ _ F0 (.inr ⟨_,rfl⟩)))
  exact ba (xa out λ_ s' q=>ga q)
 ·refine ba ?_;rw[<-sj,show(#[Value.ref i0,Value.ref f0]:Array rN).toList=[Value.ref i0,Value.ref f0]from rfl,Wd];refine ba (ba (Rc (ba (zd (h a0 g r0 y0 k) (λx U c0=>?_) (by rintro e U⟨q2,o0⟩;exact o0 _ b0)))));revert c0;refine ea3 ?_;rintro q2 k0 c0;refine ga (ga ?_);show wpAny _ _ (forIn [Value.ref f0] _ _) _ _ _;rw[Wd];refine ba (ba (Rc (ba (zd (c0 U.heap _ _ k0 b0) (λy J d0=>?_) (by rintro e J⟨e0,q0⟩;exact q0 _ b0)))));revert d0;refine ea3 ?_;rintro e0 m0 d0;refine ga (ga (ga (ba (Mo ?_ Ha))));exact ga (d0 J.heap _ _ _ _ m0 b0 b0 b0 (nx4 g r0 (Pa _ e0) (.inr x0)))
def MI{z TI TO:uN}(hz:Hh s.heap z TI TO g r)(h:Q (.ref z) s):wpAny (xN P w) A (zO (.ref z)) Q E s:=
 have t:=⟨_,hz,rfl⟩
 Oo t F.slot_zip_iter (vd F.slot_zip_iter t F.entry_zip_iter (ga (nx14 _ rfl ("zip") _ t Lo.lookup h)) (F.args_zip_iter_1 _))
def NI{z TI TO e0 f0:uN}(D:ev z TI TO e0 f0)(l0:Src P w K n1 e0 C0)(o0:Src P w K o1 f0 p1):
  Yi P w K (.Name n K1) (dv n1 o1) [z,TI,TO,e0,f0] z (λi h=>(∃Y b0,Hh h z TI TO Y b0/\(Y=.none\/∃p:uN,Y=PN p))/\ZO h TI (.ref e0) (.ref f0)/\(∃a b,ZO h TO a b)/\C0 i h/\p1 i h)where
 mem:=by simp
 obj:=by
  rintro i h;refine ebF ?_;rintro⟨_,_,hz,_⟩q0⟨a,b,r0⟩s0 t0 c c0;simp only[rc,yj,or_false]at c0;rcases c0 with e|e|e|e|e
  ·simp_all
  ·simp_all
  ·simp_all
  ·rw[e];exact l0.obj i h s0
  ·rw[e];exact o0.obj i h t0
 keep:=λi h h' ⟨⟨Y,b0,hz,q⟩,q0,⟨a,b,r0⟩,s0,t0⟩k=>⟨nx4 Y b0 (k _ (by simp) _ hz) q,by grind,by grind,l0.keep i h h' s0 (k e0 (by simp)),o0.keep i h h' t0 (k f0 (by simp))⟩
 item:=by
  intro X J0 K0 L0 c0 i g s r H E I m0 st D0;subst J0 K0 L0;revert st;refine ebF ?_;rintro⟨Y,b0,hz,M0⟩q0⟨a,b,r0⟩s0 t0;have x0:s.TypeIs (.ref z) "zip":=⟨_,hz,rfl⟩;have U:∀{s':tN}{H':Hp}{h':EN}{t':Nat}{a0:uN},a0∈[z,TI,TO,e0,f0]->H' a0=sN->Inv X g r H' s'->Heap.SameBut a0 s'.heap h'->Inv X g r H' {s' with heap:=h',toks:=t'}:=λ{s' H' h' t' a0}N0 r1 y0 z0=>by
   refine ea6 ?_ (m0 a0 N0);rintro Y b0 s1 O0 P0 Q0;exact y0.turned (λb o R0 e=>(z0.2 b R0).trans e) r1 b0 O0 P0 Q0
  have Y0:=(m0 z (by simp)).1;refine ba (qg (Ui x0 Lo (vd Lo x0 F.entry_zip_next (FA D.TOz hz M0 q0 r0 λp0 _ _ q1 g0=>?_) (F.args_zip_next_1 _))));have u0:=U (t':=s.toks) (by simp) Y0 I g0;refine l0.item X rfl rfl rfl _ i g {s with heap:=p0} r H _ _ u0 (l0.keep i _ _ s0 λo e=>g0.extBut _ _ D.i1z e) D0.1 λx F0 w0 d0 Z0 a1 S0 J=>⟨J.extBut _ _ D.i1z.symm q1,J.extBut _ _ D.TOi1 (g0.extBut _ _ D.TOz r0),λv0 _ _ b1 h0=>?_⟩
  have T0:Inv X g r H {s with heap:=w0,toks:=d0}:=U (s':={s with heap:=p0}) (by simp) (m0 e0 (by simp)).1 u0 J;have A0:Inv X g r H {s with heap:=v0,toks:=d0}:=U (s':={s with heap:=w0,toks:=d0}) (by simp) (m0 TO (by simp)).1 T0 h0;have q3:=h0.extBut _ _ D.TOz.symm (J.extBut _ _ D.i1z.symm q1);refine o0.item X rfl rfl rfl _ i g {s with heap:=v0,toks:=d0} r H _ _ A0 (o0.keep i _ _ t0 λo e=>h0.extBut _ _ D.TOi2.symm (J.extBut _ _ D.i12.symm (g0.extBut _ _ D.i2z e))) D0.2 λy U0 V0 n0 t1 u1 c1 i0=>⟨i0.extBut _ _ D.i2z.symm q3,i0.extBut _ _ D.TOi2 b1,λO d1 u8 _ _ e1 j0 f1 g1 v1=>⟨_,rfl,ga ⟨_,rfl,?_⟩⟩⟩
  have w1:Inv X g r H {s with heap:=V0,toks:=n0}:=U (s':={s with heap:=v0,toks:=d0}) (by simp) (m0 f0 (by simp)).1 A0 i0;have h1:Inv X g r H {s with heap:=O,toks:=n0}:=U (s':={s with heap:=V0,toks:=n0}) (by simp) (m0 TO (by simp)).1 w1 j0;have all:∀c o,c≠z->c≠TO->c≠e0->c≠f0->s.heap.get? c=qN o->O.get? c=qN o:=λc o x1 i1 y1 z1 e=>j0.extBut _ _ i1 (i0.extBut _ _ z1 (h0.extBut _ _ i1 (J.extBut _ _ y1 (g0.extBut _ _ x1 e))))
  have lt:∀c∈[z,TI,TO,e0,f0],c<O.objs.size:=λc c0=>by
   simp only[rc,yj,or_false]at c0;rcases c0 with e|e|e|e|e
   ·rw[e];exact Na (j0.extBut _ _ D.TOz.symm (i0.extBut _ _ D.i2z.symm q3))
   ·rw[e];exact Na (all _ _ D.TIz D.TITO D.TIi1 D.TIi2 q0)
   ·rw[e];exact Na e1
   ·rw[e];obtain⟨o,B0,_⟩:=l0.obj _ _ S0;exact Na (j0.extBut _ _ D.TOi1.symm (i0.extBut _ _ D.i12 (h0.extBut _ _ D.TOi1.symm B0)))
   ·rw[e];obtain⟨o,B0,_⟩:=o0.obj _ _ c1;exact Na (j0.extBut _ _ D.TOi2.symm B0)
  have j1:O.get? O.objs.size=sN:=Gk (wa _);have A1:Inv X g r (upd H O.objs.size (.tup [x,y])) {s with heap:=O.push {cls:=.type "tuple",data:=.seq #[F0,U0]},toks:=n0}:=
   YE (s:={s with heap:=O,toks:=n0}) h1 (λb u e=>Pa _ e) j1 (⟨by show 2<=vN;decide,[F0,U0],.cons Z0 (.cons t1 .nil),nx5 _ (yb _ rfl) rfl _ rfl⟩)
  have k1:(upd H O.objs.size (.tup [x,y])) z=sN:=by rw[ja (by grind)];exact Y0
  have B1:Inv X g r (upd H O.objs.size (.tup [x,y])) {s with heap:=d1,toks:=n0}:=U (s':={s with heap:=O.push {cls:=.type "tuple",data:=.seq #[F0,U0]},toks:=n0}) (by simp) k1 A1 f1;have C1:Inv X g r (upd H O.objs.size (.tup [x,y])) {s with heap:=u8,toks:=n0}:=U (s':={s with heap:=d1,toks:=n0}) (by simp) k1 B1 g1;have G0:∀c o,c≠z->O.get? c=qN o->u8.get? c=qN o:=λc o n e=>g1.extBut _ _ n (f1.extBut _ _ n (Pa _ e))
  refine ga (nx15 (.ref O.objs.size) _ C1 rfl (nx8 O.objs.size x y a1 u1 rfl (dj h1 j1) rfl) ⟨v1,G0 _ _ D.TIz (all _ _ D.TIz D.TITO D.TIi1 D.TIi2 q0),nx1 _ _ (G0 _ _ D.TOz e1),
   l0.keep _ _ _ S0 λo e=>G0 _ o D.i1z (j0.extBut _ _ D.TOi1.symm (i0.extBut _ _ D.i12 (h0.extBut _ _ D.TOi1.symm e))),o0.keep _ _ _ c1 λo e=>G0 _ o D.i2z (j0.extBut _ _ D.TOi2.symm e)⟩ λc c0=>?_)
  rw[ja (nb (lt c c0))];exact(m0 c c0).1
 done:=by
  intro X J0 K0 L0 c0 i g s r H E I m0 st D0;subst J0 K0 L0;revert st;refine ebF ?_;rintro⟨Y,b0,hz,M0⟩q0⟨a,b,r0⟩s0 t0;have l1:X.A.in1.handled=sN:=I.ok.hd c0;have x0:s.TypeIs (.ref z) "zip":=⟨_,hz,rfl⟩;have U:∀{s':tN}{h':EN}{t':Nat}{a0:uN},a0∈[z,TI,TO,e0,f0]->Inv X g r H s'->(∀b o,b≠a0->s'.heap.get? b=qN o->h'.get? b=qN o)->Inv X g r H {s' with heap:=h',toks:=t'}:=λ{s' h' t' a0}N0 y0 z0=>by
   refine ea6 ?_ (m0 a0 N0);rintro Y b0 s1 O0 P0 Q0;exact y0.turned z0 Y b0 O0 P0 Q0
  have same:∀{a0:uN}{k0 h:EN},Heap.SameBut a0 k0 h->∀b o,b≠a0->k0.get? b=qN o->h.get? b=qN o:=λz0 b o R0 e=>(z0.2 b R0).trans e
  refine ba (qg (Ui x0 Lo (vd Lo x0 F.entry_zip_next (FA D.TOz hz M0 q0 r0 λp0 Y b0 q1 g0=>?_) (F.args_zip_next_1 _))));have u0:Inv X g r H {s with heap:=p0}:=U (by simp) I (same g0);have C0:=l0.keep i _ _ s0 λo e=>g0.extBut _ _ D.i1z e
  have m1:∀{k0:EN}{I0:Nat}{e:uN},Inv X g r H {s with heap:=k0,toks:=I0}->Hh k0 z TI TO Y b0->(∃o,k0.get? e=qN o/\o.cls=.type "StopIteration")->Hh k0 z TI TO Y b0/\∀W0,Heap.SameBut z k0 W0->
    wpAny (xN X.prog X.w) X.A ((do if<-isInstance (.ref e) (.type "StopIteration")then return sN else throw (.ref e)):fQ (Option rN)) (λD1 E1=>D1=sN/\Inv X g r H E1) E {s with heap:=W0,toks:=I0}:=λ{k0 I0 e}y0 q⟨o,B0,F1⟩=>⟨q,λW0 j0=>by
   have G1:e≠z:=λy=>by grind
   exact ba (Wm ⟨o,j0.extBut _ _ G1 B0,F1⟩ isSubtype_stop (ga ⟨rfl,U (s':={s with heap:=k0,toks:=I0}) (by simp) y0 (same j0)⟩))⟩
  rcases D0 with H1|⟨I1,J1⟩
  ·exact l0.done X rfl rfl rfl _ l1 i g {s with heap:=p0} r H _ _ u0 C0 H1 λw0 e J X0=>m1 (U (s':={s with heap:=p0}) (by simp) u0 J) (J _ _ D.i1z.symm q1) X0
  ·refine l0.item X rfl rfl rfl _ i g {s with heap:=p0} r H _ _ u0 C0 I1 λx F0 w0 d0 Z0 a1 S0 J=>⟨J.extBut _ _ D.i1z.symm q1,J.extBut _ _ D.TOi1 (g0.extBut _ _ D.TOz r0),λv0 _ _ b1 h0=>?_⟩
   have T0:Inv X g r H {s with heap:=w0,toks:=d0}:=U (s':={s with heap:=p0}) (by simp) u0 (same J);have A0:Inv X g r H {s with heap:=v0,toks:=d0}:=U (s':={s with heap:=w0,toks:=d0}) (by simp) T0 (same h0);refine o0.done X rfl rfl rfl _ l1 i g {s with heap:=v0,toks:=d0} r H _ _ A0 (o0.keep i _ _ t0 λo e=>h0.extBut _ _ D.TOi2.symm (J.extBut _ _ D.i12.symm (g0.extBut _ _ D.i2z e))) J1 λV0 e i0 X0=>?_
   exact m1 (U (s':={s with heap:=v0,toks:=d0}) (by simp) A0 i0) (i0 _ _ D.i2z.symm (h0.extBut _ _ D.TOz.symm (J.extBut _ _ D.i1z.symm q1))) X0
 self:=by rintro _ _ _ _ _⟨⟨_,_,hz,_⟩,_⟩h;exact MI hz h
end
section
variable{X:Cx}
def OI{K:W.Frag}{p pos:oO}{n:Str}{O:oO}(U:X.K=K)(Y:Gl X "zip")(a0:X.mg "zip"=sN)(b0:PA X [a,b] c0)(d0:DN [a,b] X.env=[(yN,SN a X.env),(yN,SN b X.env)]:=by rfl)(r:DN [b] X.env=[(yN,SN b X.env)]:=by rfl):
  PI X (.Name n O) (.Call (.Name "zip" p) [a,b] [] pos) (uI K c0):=by
 constructor;intro e0 s f0 H R I h;subst U;refine Call_ (Xf I Y a0 boot_zip (yk (xa (b0 pos e0 s f0 H _ I h) ?_) (by rw[d0,r]) (by rw[r];rfl)));rintro us g0⟨vs,h0,g,i0,q1⟩;revert q1;refine eaE ?_;rintro x y j0 k0 rfl l0 m0 q;refine ea0 ?_ (Zl i0);rintro u C0 rfl n0 o0;refine ea8 ?_ (vA g l0 n0);rintro D0 p0 q0 r0;refine ea8 ?_ (vA g m0 o0);rintro F0 s0 t0 u0;refine tI p0 s0 q0 t0 λG0 z TI TO v0 w0 Z=>?_
 obtain⟨I0,x0,y0⟩:=r0 _ _ Z.one;obtain⟨J0,z0,A0⟩:=u0 _ _ Z.two;have B0:=g.kept (t':=g0.toks) Z.keep;exact wpAny_pyIter_zip Z.zip ⟨z,[z,TI,TO,v0,w0],_,dv j0 k0,h0,rfl,B0,NI Z.ap x0 z0,⟨nx4 _ _ Z.zip (.inl rfl),Z.ins,nx1 _ _ Z.outs,y0,A0⟩,λb J=>g.sf (Z.young b J) (g.ya.fresh (Z.young b J)),q⟩
end
end My
namespace My
namespace Ps
open PySem PyProof.Rows
structure Cm(prog:zN)(w:AN)(A:BN)(E:rN->tN->Prop)(s:tN)where
 κ:SortKind
 gd:FN->Prop
 lt:∀{st:JN}{p q:FN}{Q:Option Bool->JN->Prop},kindOf st=κ->gd p->gd q->(∀b,Q (qN b) st)->GP (xN prog w) A E s (lt' p q) Q st
section
variable{prog:zN}{w:AN}{s:tN}{A:BN}{E:rN->tN->Prop}{C:Cm prog w A E s}
def xm{g α γ:Type}(R:γ->g->Prop)(j:γ->StateT g fQ α){m:StateT g fQ α}{Q:α->g->Prop}{st:g}(a:∀x st,R x st->GP (xN prog w) A E s (j x) Q st)(h:(∀x st,R x st->GP (xN prog w) A E s (j x) Q st)->GP (xN prog w) A E s m Q st):GP (xN prog w) A E s m Q st:=h a
def Qn{left:Bool}{key:FN}{J:Array FN}{b n hint:Nat}{Q:Option Nat->JN->Prop}{st:JN}(c0:kindOf st=C.κ)(d0:C.gd key)(m0:b+n<=J.size)(O:∀x∈J.toList,C.gd x)(h0:hint<n)(h:∀m,m<=n->Q (qN m) st):
  GP (xN prog w) A E s (tG left key J b n hint) Q st:=by
 have ask:∀{R:Option Bool->JN->Prop}{i:Nat},i<n->(∀b,R (qN b) st)->GP (xN prog w) A E s (do
   let x<-elem' J (b+i)
   if left=wN then lt' x key else do
    let y<-lt' key x
    pure (Option.map (λz=>!z) y)) R st:=λ{R i}n0 U=>by
  refine Ea (ce (Rl J (b+i) (by lia)) ?_);have e0:=O _ (nu (xs:=J) (i:=b+i) (by lia));cases left
  ·exact Ea (C.lt c0 d0 e0 λb=>Oa (U _))
  ·exact C.lt c0 e0 d0 U
 have bin:∀(f:Nat->Option (Option Nat)×Nat×Nat->StateT JN fQ (ForInStep (Option (Option Nat)×Nat×Nat)))(R:Option (Option Nat)×Nat×Nat->JN->Prop)(lo O:Nat),(∀x l g (R:ForInStep (Option (Option Nat)×Nat×Nat)->JN->Prop),g<=n->(∀l Y,Y<=g->R (ForInStep.done (sN,l,Y)) st/\R (ForInStep.yield (sN,l,Y)) st)->GP (xN prog w) A E s (f x (sN,l,g)) R st)->
   O<=n->(∀l m,m<=n->R (sN,l,m) st)->GP (xN prog w) A E s (forIn [:n] (sN,lo,O) f) R st:=λf R lo O i0 U f0=>by
  refine Vf (I:=λx c r=>r=st/\∃l g,c=(sN,l,g)/\g<=n) ?_ ?_ (⟨rfl,nx4 lo O rfl U⟩)
  ·rintro x c r _ j0;refine eb3 ?_;rintro rfl l g rfl q;exact i0 x l g _ q λl Y h=>⟨f0 _ _ (gb h q),rfl,nx4 _ _ rfl (gb h q)⟩
  ·rintro c r⟨rfl,l,g,rfl,q⟩;exact f0 _ _ q
 refine Ea (ask h0 λk0=>?_);cases k0;all_goals
  refine Ea (Rg (Vf (I:=λx c r=>r=st/\∃l o,c=(sN,l,o)) (Q:=λc r=>r=st/\∃l o,c=(sN,l,o)) ?_ (λ_ _ z=>z) (⟨rfl,nx1 0 1 rfl⟩)) ?_)
  ·rintro x c r _ j0;refine ea7 ?_;rintro rfl l o rfl;refine Cb (λ_=>Oa (⟨rfl,nx1 _ _ rfl⟩)) λa0=>Ea (ask (by dsimp only at a0⊢;grind) λb0=>?_)
   cases b0<;>exact Oa (⟨rfl,nx1 _ _ rfl⟩)
  ·rintro c r;refine ea7 ?_;rintro rfl l o rfl;refine Ea (bin _ _ _ _ (λx l g R o0 g0=>Cb (λ_=>Oa (g0 _ _ (wa _)).1) λa0=>Ea (ask (by dsimp only at a0⊢;lia) λb0=>?_)) (by dsimp only;lia) λl m l0=>Oa (h m l0));dsimp only at a0;cases b0<;>exact Oa (g0 _ _ (by dsimp only;lia)).2
def Wv(a b:Array FN)(out:Array FN)(g r:Nat):Prop:=(out.toList++(a.toList.drop g++b.toList.drop r)).Perm (a.toList++b.toList)
def Wv.Af{a b out:Array FN}{g r:Nat}(h:Wv a b out g r)(k:Nat):Wv a b (out++a.extract g (g+k)) (g+k) r:=by
 unfold Wv at h⊢;rw[Tf,Kn,<-List.drop_drop,me,<-me (List.take k _),Ng];exact h
def Wv.Bf{a b out:Array FN}{r g:Nat}(h:Wv a b out r g)(k:Nat):Wv a b (out++b.extract g (g+k)) r (g+k):=by
 unfold Wv at h⊢;refine .trans ?_ h;rw[Tf,Kn,me];refine .append_left _ ?_;conv=>rhs;rw[<-Ng k (b.toList.drop g),List.drop_drop]
 rw[<-me,<-me];exact Fk.append_right _
def Wv.Nb{a b out:Array FN}{g r:Nat}(h:Wv a b out g r){x:FN}(e:a[g]?=qN x):Wv a b (out.push x) (g+1) r:=by
 have q:=h.Af 1;unfold Wv at q⊢;rw[Tf,Kn,zv (by rw[Kd];exact e),<-El]at q;exact q
def Wv.vb{a b out:Array FN}{r g:Nat}(h:Wv a b out r g){x:FN}(e:b[g]?=qN x):Wv a b (out.push x) r (g+1):=by
 have q:=h.Bf 1;unfold Wv at q⊢;rw[Tf,Kn,zv (by rw[Kd];exact e),<-El]at q;exact q
def QI{a b:Array FN}{Q:Array FN->JN->Prop}{st:JN}(i0:kindOf st=C.κ)(s0:∀x∈a.toList,C.gd x)(t0:∀x∈b.toList,C.gd x)(T0:0<a.size)(M0:0<b.size)
  (h:∀(a0:Array FN)g,ec st g->a0.toList.Perm (a.toList++b.toList)->Q a0 g):GP (xN prog w) A E s (uG a b) Q st:=by
 refine Ea (qO (Ue (And.intro rfl ?_)));have m0:∀{xs:Array FN}{i:Nat},i<xs.size->∃x,xs[i]?=qN x/\x∈xs.toList:=λ{xs i}U0=>⟨xs[i],by simp,by simp_all⟩
 have n0:∀{out:Array FN}{b0 c0:Nat}{g},ec st g->Wv a b out b0 c0->Q (out++a.extract b0++b.extract c0) g:=λr L=>h _ _ r (by
  rw[Tf,Tf,Nr,Nr,me];exact L)
 have dl:∀{out:Array FN}{b0 c0:Nat}{g},ec st g->Wv a b out b0 c0->Q (out++b.extract c0++a.extract b0) g:=λr L=>h _ _ r (by
  rw[Tf,Tf,Nr,Nr,me];exact(Fk.append_left _).trans L)
 have u0:∀{g},ec st g->kindOf g=C.κ:=λr=>r.kind.trans i0
 refine ea1 ?_ (m0 M0);rintro C0 D0 V0;refine Ea (ce D0 ?_);have v0:Wv a b #[C0] 0 1:=Wv.vb (out:=#[]) (show Wv a b #[] 0 0 from .refl _) D0;refine Cb (λF0=>Oa (n0 (ec.refl _) v0)) λF0=>Cb (λG0=>Oa (dl (ec.refl _) v0)) λG0=>?_
 have W0:1≠b.size:=by simpa using F0
 have X0:0+1≠a.size:=by simpa using G0
 refine Ea (xh ?_);refine Ea (Rg (Vf (I:=λx c g=>ec st g/\∃out b0 c0 mg,c=(sN,out,b0,c0,mg)/\Wv a b out b0 c0/\b0+1<a.size/\c0<b.size/\x+1<=b0+c0) (Q:=λc g=>∃a0 o,c=(qN a0,o)/\Q a0 g) ?step ?fin (⟨ec.refl _,nx3 (#[C0]) 0 1 _ rfl v0 (by lia) (by lia) (by lia)⟩)) ?post);case post=>
  rintro c g;refine eaA ?_;rintro a0 o rfl q;exact Oa q
 case fin=>
  rintro c g;refine eaF ?_;rintro r out b0 c0 mg rfl L f0 d0 w0;lia
 case step=>
  rintro x c g _ Y0;refine eaF ?_;rintro r out b0 c0 mg rfl L f0 d0 w0;refine Ea (Rg (Vf (I:=λy c g=>ec st g/\∃j0 O U ac e0,c=(sN,j0,O,U,ac,e0)/\Wv a b j0 O U/\O+1<a.size/\U<b.size/\b0+c0+y<=O+U) (Q:=λc g=>(∃a0 o,c=(qN a0,o)/\Q a0 g)\/(ec st g/\∃j0 O U ac e0,c=(sN,j0,O,U,ac,e0)/\Wv a b j0 O U/\O+1<a.size/\U<b.size/\b0+c0+1<=O+U)) ?step1 ?fin1 (⟨r,nx13 out b0 c0 0 0 rfl L f0 d0 (by lia)⟩)) ?post1);case fin1=>
   rintro c g;refine eaH ?_;rintro r j0 O U ac e0 rfl L f0 d0 w0;exact .inr (⟨r,nx13 j0 O U ac e0 rfl L f0 d0 (by lia)⟩)
  case step1=>
   rintro y c g _ N0;refine eaH ?_;rintro r j0 O U ac e0 rfl L f0 d0 w0;refine ea1 ?_ (m0 d0);rintro O0 g0 x0;refine ea1 ?_ (m0 (xs:=a) (i:=O) (by lia));rintro P0 h0 y0;refine Ea (ce g0 (Ea (ce h0 (Ea (C.lt (u0 r) (t0 _ x0) (s0 _ y0) λq=>?_)))));cases q
   ·refine Ea (ce h0 (Cb (λc=>Oa (.inl (nx4 _ _ rfl (dl r (L.Nb h0))))) λc=>?_));have z0:O+1+1≠a.size:=by simpa using c
    exact Cb (λ_=>Oa (.inr (⟨r,nx13 _ (O+1) U _ _ rfl (L.Nb h0) (by lia) d0 (by lia)⟩))) λ_=>Oa (⟨r,nx13 _ (O+1) U _ _ rfl (L.Nb h0) (by lia) d0 (by lia)⟩)
   ·refine Ea (ce g0 (Cb (λc=>Oa (.inl (nx4 _ _ rfl (n0 r (L.vb g0))))) λc=>?_));have z0:U+1≠b.size:=by simpa using c
    exact Cb (λ_=>Oa (.inr (⟨r,nx13 _ O (U+1) _ _ rfl (L.vb g0) f0 (by lia) (by lia)⟩))) λ_=>Oa (⟨r,nx13 _ O (U+1) _ _ rfl (L.vb g0) f0 (by lia) (by lia)⟩)
  case post1=>
   rintro c g (⟨a0,o,rfl,q⟩|⟨r,j0,O,U,ac,e0,rfl,L,f0,d0,Z0⟩)
   ·exact Oa (nx4 a0 _ rfl q)
   refine Ea (qO (Ue (And.intro rfl ?_)));refine Ea (Rg (Vf (I:=λ_ c g=>ec st g/\∃k0 Y J mg ac e0,c=(sN,k0,Y,J,mg,ac,e0)/\Wv a b k0 Y J/\Y+1<a.size/\J<b.size/\O+U<=Y+J) (Q:=λc g=>(∃a0 o,c=(qN a0,o)/\Q a0 g)\/(ec st g/\∃k0 Y J mg ac e0,c=(sN,k0,Y,J,mg,ac,e0)/\Wv a b k0 Y J/\Y+1<a.size/\J<b.size/\O+U<=Y+J)) ?step2 (λc g z=>.inr z) (⟨r,nx19 j0 O U _ ac e0 rfl L f0 d0 (wa _)⟩)) ?post2);case post2=>
    rintro c g (⟨a0,o,rfl,q⟩|⟨r,k0,Y,J,mg,ac,e0,rfl,L,f0,d0,I0⟩)
    ·exact Oa (nx4 a0 _ rfl q)
    ·exact Ea (Aj (Oa (⟨r.trans ⟨rfl,rfl,rfl,rfl⟩,nx3 k0 Y J _ rfl L f0 d0 (by lia)⟩)))
   case step2=>
    rintro y c g _ N0;refine ec4 ?_;rintro r k0 Y J mg ac e0 rfl L f0 d0 I0;refine ea1 ?_ (m0 d0);rintro O0 g0 x0
    extract_lets+onlyGivenNames a1 b1 c1 d1 e1 f1 g1 h1 i1 j1 k1 l1 o0
    obtain⟨j,l0⟩:∃j,j=o0:=⟨_,rfl⟩;rw[<-l0];refine xm (λ_ r0=>r0=g) (j ()) (λJ0 r0 z=>?_) λi0=>Cb (λ_=>i0 _ _ rfl) λ_=>i0 _ _ rfl
    subst l0 z;refine Ea (Aj (Ea (ce g0 (Ea (Qn (C:=C) (u0 (r.trans (ec.mk' r0 _))) (t0 _ x0) (by show Y+(a.size-Y)<=a.size;grind) s0 (by show 0<a.size-Y;grind) λk p0=>?_)))));replace p0:k<=a.size-Y:=p0;have sm:=λJ0=>r.trans (ec.mk' r0 J0)
    dsimp-zeta+zetaDelta only
    extract_lets+onlyGivenNames ac o0
    obtain⟨j,l0⟩:∃j,j=o0:=⟨_,rfl⟩;rw[<-l0];refine xm (γ:=Array FN×Nat) (λx K0=>ec st K0/\Wv a b x.1 x.2 J/\x.2+1<a.size/\O+U<=x.2+J) (λx=>j () x.1 x.2) (λ⟨m1,q0⟩K0⟨r,Lk,n1,o1⟩=>?_) λi0=>Cb (λA0=>Cb (λc=>Oa (.inl (nx4 _ _ rfl (dl (sm _) (L.Af k))))) λc=>Cb (λc=>Oa (.inl (nx4 _ _ rfl (n0 (sm _) (L.Af k))))) λQ0=>?_) λA0=>i0 (k0,Y) _ ⟨sm _,L,f0,I0⟩
    ·subst l0;refine Ea (ce g0 (Cb (λc=>Oa (.inl (nx4 _ _ rfl (n0 r (Lk.vb g0))))) λR0=>?_));have p1:J+1≠b.size:=by simpa using R0
     refine ea1 ?_ (m0 (xs:=a) (i:=q0) (by lia));rintro P0 h0 y0;refine Ea (ce h0 (Ea (Qn (C:=C) (u0 r) (s0 _ y0) (by show J+1+(b.size-(J+1))<=b.size;grind) t0 (by show 0<b.size-(J+1);grind) λk p0=>?_)));replace p0:k<=b.size-(J+1):=p0;dsimp-zeta+zetaDelta only
     extract_lets+onlyGivenNames ac r1 o0
     obtain⟨j,l0⟩:∃j,j=o0:=⟨_,rfl⟩;rw[<-l0];refine xm (γ:=Array FN×Nat) (λx st4=>ec st st4/\Wv a b x.1 q0 x.2/\x.2<b.size/\J<x.2) (λx=>j () x.1 x.2) (λ⟨s1,L0⟩st4⟨r,B0,t1,u1⟩=>?_) λi0=>Cb (λA0=>Cb (λc=>Oa (.inl (nx4 _ _ rfl (n0 r ((Lk.vb g0).Bf k))))) λc=>?_) λA0=>i0 (_,J+1) _ ⟨r,Lk.vb g0,by show J+1<_;lia,Nat.lt_succ_self _⟩
     ·subst l0;refine Ea (ce h0 (Cb (λc=>Oa (.inl (nx4 _ _ rfl (dl r (B0.Nb h0))))) λS0=>?_));have v1:q0+1+1≠a.size:=by simpa using S0
      exact Cb (λ_=>Oa (.inr (⟨r,nx19 _ (q0+1) L0 _ _ _ rfl (B0.Nb h0) (by lia) (by lia) (by lia)⟩))) λ_=>Oa (⟨r,nx19 _ (q0+1) L0 _ _ _ rfl (B0.Nb h0) (by lia) (by lia) (by lia)⟩)
     ·have z0:J+1+k≠b.size:=by simpa using c
      exact i0 (_,J+1+k) _ ⟨r,(Lk.vb g0).Bf k,by show J+1+k<_;grind,by show J<J+1+k;lia⟩
    ·have z0:Y+k+1≠a.size:=by simpa using c
     have w1:Y+k≠a.size:=by simpa using Q0
     exact i0 (_,Y+k) _ ⟨sm _,L.Af k,by show Y+k+1<_;grind,by show _<=Y+k+J;lia⟩
def Hv(a b:Array FN)(out:Array FN)(g r:Nat):Prop:=(out.toList++(a.toList.take g++b.toList.take r)).Perm (a.toList++b.toList)
def Hv.Af{a b out:Array FN}{g r:Nat}(h:Hv a b out g r){k:Nat}(J:k<=g):Hv a b (out++(a.extract k g).reverse) k r:=by
 unfold Hv at h⊢;refine .trans ?_ h;rw[Tf,Jo,Rr,me];refine .append_left _ ?_;conv=>rhs;rw[<-Ng k (a.toList.take g),List.take_take,Zm J]
 rw[<-me];exact((Fk.trans ((Wo _).append_left _))).append_right _
def Hv.Bf{a b out:Array FN}{r g:Nat}(h:Hv a b out r g){k:Nat}(J:k<=g):Hv a b (out++(b.extract k g).reverse) r k:=by
 unfold Hv at h⊢;refine .trans ?_ h;rw[Tf,Jo,Rr,me];refine .append_left _ ?_;conv=>rhs;rw[<-Ng k (b.toList.take g),List.take_take,Zm J,<-me]
 exact Fk.trans ((Wo _).append_left _)
def GA{xs out:Array FN}{n:Nat}{x:FN}(e:xs[n]?=qN x):(out++(xs.extract n (n+1)).reverse)=out.push x:=by
 refine Array.toList_inj.mp ?_;rw[Tf,Jo,Kn,zv (by rw[Kd];exact e),El];rfl
def Hv.Nb{a b out:Array FN}{g r:Nat}(h:Hv a b out (g+1) r){x:FN}(e:a[g]?=qN x):Hv a b (out.push x) g r:=by
 have q:=h.Af (Lg g);rw[GA e]at q;exact q
def Hv.vb{a b out:Array FN}{r g:Nat}(h:Hv a b out r (g+1)){x:FN}(e:b[g]?=qN x):Hv a b (out.push x) r g:=by
 have q:=h.Bf (Lg g);rw[GA e]at q;exact q
def RI{a b:Array FN}{Q:Array FN->JN->Prop}{st:JN}(f0:kindOf st=C.κ)(v0:∀x∈a.toList,C.gd x)(w0:∀x∈b.toList,C.gd x)(b1:0<a.size)(c1:0<b.size)
  (h:∀(a0:Array FN)J,ec st J->a0.toList.Perm (a.toList++b.toList)->Q a0 J):GP (xN prog w) A E s (vG a b) Q st:=by
 refine Ea (qO (Ue (And.intro rfl ?_)));have k0:∀{xs:Array FN}{i:Nat},i<xs.size->∃x,xs[i]?=qN x/\x∈xs.toList:=λ{xs i}d1=>⟨xs[i],by grind,by grind⟩
 have l0:∀{out:Array FN}{b0 m0:Nat}{J},ec st J->Hv a b out b0 m0->Q (a.extract 0 b0++b.extract 0 m0++out.reverse) J:=λr L=>h _ _ r (by
  rw[Tf,Tf,Qr,Qr,Jo];exact((Wo _).append_left _).trans (Fk.trans L))
 have q0:∀{out:Array FN}{b0 m0:Nat}{J},ec st J->Hv a b out b0 m0->Q (b.extract 0 m0++a.extract 0 b0++out.reverse) J:=λr L=>h _ _ r (by
  rw[Tf,Tf,Qr,Qr,Jo];exact((Wo _).append_left _).trans (Fk.trans ((Fk.append_left _).trans L)))
 have x0:∀{J},ec st J->kindOf J=C.κ:=λr=>r.kind.trans f0
 obtain⟨b0,F0⟩:∃n,a.size=n+1:=⟨a.size-1,by lia⟩;refine ea1 ?_ (k0 (xs:=a) (i:=b0) (by simp_all));rintro G0 I0 e1;rw[F0];refine Ea (ce I0 ?_);have y0:Hv a b #[G0] b0 b.size:=Hv.Nb (out:=#[]) (by
  unfold Hv;rw[<-F0,<-Dc,<-Dc,vc,vc];exact .refl _) I0
 refine Cb (λJ0=>Oa (l0 (ec.refl _) y0)) λJ0=>Cb (λr0=>Oa (q0 (ec.refl _) y0)) λr0=>?_
 have f1:b0≠0:=by simpa using J0
 have Q0:b.size≠1:=by simpa using r0
 refine Ea (xh ?_);refine Ea (Rg (Vf (I:=λx c J=>ec st J/\∃n m out mg,c=(sN,n+1,m+2,out,mg)/\Hv a b out (n+1) (m+2)/\n<=b0/\m+2<=b.size/\n+m+3+x<=b0+b.size) (Q:=λc J=>∃a0 o,c=(qN a0,o)/\Q a0 J) ?step ?fin (⟨ec.refl _,nx3 (b0-1) (b.size-2) (#[G0]) _ (by rw[show b0-1+1=b0 by lia,show b.size-2+2=b.size by lia];rfl) (by rw[show b0-1+1=b0 by lia,show b.size-2+2=b.size by lia];exact y0) (by simp_all) (by lia) (by lia)⟩)) ?post);case post=>
  rintro c J;refine eaA ?_;rintro a0 o rfl q;exact Oa q
 case fin=>
  rintro c J;refine eaF ?_;rintro r n m out mg rfl L R0 S0 s0;lia
 case step=>
  rintro x c J _ g1;refine eaF ?_;rintro r n m out mg rfl L R0 S0 s0;refine Ea (Rg (Vf (I:=λy c J=>ec st J/\∃O g g0 ac c0,c=(sN,O+1,g+2,g0,ac,c0)/\Hv a b g0 (O+1) (g+2)/\O<=n/\g<=m/\O+g+y<=n+m) (Q:=λc J=>(∃a0 o,c=(qN a0,o)/\Q a0 J)\/(ec st J/\∃O g g0 ac c0,c=(sN,O+1,g+2,g0,ac,c0)/\Hv a b g0 (O+1) (g+2)/\O<=n/\g<=m/\O+g+1<=n+m)) ?step1 ?fin1 (⟨r,nx13 n m out 0 0 rfl L (by lia) (by lia) (by lia)⟩)) ?post1);case fin1=>
   rintro c J;refine eaH ?_;rintro r O g g0 ac c0 rfl L s0 K0 T0;exact .inr (⟨r,nx13 O g g0 ac c0 rfl L s0 K0 (by lia)⟩)
  case step1=>
   rintro y c J _ U0;refine eaH ?_;rintro r O g g0 ac c0 rfl L s0 K0 T0;refine ea1 ?_ (k0 (xs:=b) (i:=g+1) (by lia));rintro V0 d0 z0;refine ea1 ?_ (k0 (xs:=a) (i:=O) (by lia));rintro W0 e0 A0;refine Ea (ce d0 (Ea (ce e0 (Ea (C.lt (x0 r) (w0 _ z0) (v0 _ A0) λq=>?_)))));cases q
   ·refine Ea (ce d0 (Cb (λc=>Oa (.inl (nx4 _ _ rfl (q0 r (L.vb d0))))) λc=>?_));have B0:g≠0:=by simpa using c
    obtain⟨U,rfl⟩:∃U,g=U+1:=⟨g-1,by lia⟩;exact Cb (λ_=>Oa (.inr (⟨r,nx13 O U _ _ _ rfl (L.vb d0) (by lia) (by lia) (by lia)⟩))) λ_=>Oa (⟨r,nx13 O U _ _ _ rfl (L.vb d0) (by lia) (by lia) (by lia)⟩)
   ·refine Ea (ce e0 (Cb (λc=>Oa (.inl (nx4 _ _ rfl (l0 r (L.Nb e0))))) λc=>?_));have B0:O≠0:=by simpa using c
    obtain⟨Y,rfl⟩:∃Y,O=Y+1:=⟨O-1,by lia⟩;exact Cb (λ_=>Oa (.inr (⟨r,nx13 Y g _ _ _ rfl (L.Nb e0) (by lia) (by lia) (by lia)⟩))) λ_=>Oa (⟨r,nx13 Y g _ _ _ rfl (L.Nb e0) (by lia) (by lia) (by lia)⟩)
  case post1=>
   rintro c J (⟨a0,o,rfl,q⟩|⟨r,n0,o0,g0,ac,c0,rfl,L,h1,i1,j1⟩)
   ·exact Oa (nx4 a0 _ rfl q)
   refine Ea (qO (Ue (And.intro rfl ?_)));refine Ea (Rg (Vf (I:=λ_ c J=>ec st J/\∃O g i0 mg ac c0,c=(sN,O+1,g+2,i0,mg,ac,c0)/\Hv a b i0 (O+1) (g+2)/\O<=n0/\g<=o0) (Q:=λc J=>(∃a0 o,c=(qN a0,o)/\Q a0 J)\/(ec st J/\∃O g i0 mg ac c0,c=(sN,O+1,g+2,i0,mg,ac,c0)/\Hv a b i0 (O+1) (g+2)/\O<=n0/\g<=o0)) ?step2 (λc J z=>.inr z) (⟨r,nx21 n0 o0 g0 _ ac c0 rfl L ⟨wa _,wa _⟩⟩)) ?post2);case post2=>
    rintro c J (⟨a0,o,rfl,q⟩|⟨r,O,g,i0,mg,ac,c0,rfl,L,L0,X0⟩)
    ·exact Oa (nx4 a0 _ rfl q)
    ·exact Ea (Aj (Oa (⟨r.trans ⟨rfl,rfl,rfl,rfl⟩,nx3 O g i0 _ rfl L (by lia) (by lia) (by lia)⟩)))
   case step2=>
    rintro y c J _ U0;refine eb5 ?_;rintro r O g i0 mg ac c0 rfl L L0 X0;refine ea1 ?_ (k0 (xs:=b) (i:=g+1) (by lia));rintro V0 d0 z0
    extract_lets+onlyGivenNames k1 l1 m1 n1 o1 p1 r1 s1 t1 u1 v1 w1 p0
    obtain⟨j,j0⟩:∃j,j=p0:=⟨_,rfl⟩;rw[<-j0];refine xm (λ_ t0=>t0=J) (j ()) (λM0 t0 z=>?_) λf0=>Cb (λ_=>f0 _ _ rfl) λ_=>f0 _ _ rfl
    subst j0 z;refine Ea (Aj (Ea (ce d0 (Ea (Qn (C:=C) (x0 (r.trans (ec.mk' t0 _))) (w0 _ z0) (by show 0+(O+1)<=a.size;lia) v0 (by show O+1-1<O+1;lia) λk h0=>?_)))));replace h0:k<=O+1:=h0;have sm:=λM0=>r.trans (ec.mk' t0 M0)
    dsimp-zeta+zetaDelta only
    extract_lets+onlyGivenNames Y0 ac p0
    obtain⟨j,j0⟩:∃j,j=p0:=⟨_,rfl⟩;rw[<-j0];refine xm (γ:=Nat×Array FN) (λx N0=>ec st N0/\Hv a b x.2 (x.1+1) (g+2)/\x.1<=n0) (λx=>j () (x.1+1) x.2) (λ⟨Y,x1⟩N0⟨r,Lk,O0⟩=>?_) λf0=>Cb (λC0=>Cb (λc=>Oa (.inl (nx4 _ _ rfl (l0 (sm _) (L.Af h0))))) λc=>?_) λC0=>f0 (O,i0) _ ⟨sm _,L,L0⟩
    ·subst j0;refine Ea (ce d0 (Cb (λc=>Oa (.inl (nx4 _ _ rfl (q0 r (Lk.vb d0))))) λZ0=>?_));have y1:g≠0:=by simpa using Z0
     replace O0:Y<=n0:=O0;refine ea1 ?_ (k0 (xs:=a) (i:=Y) (by lia));rintro W0 e0 A0;refine Ea (ce e0 (Ea (Qn (C:=C) (x0 r) (v0 _ A0) (by show 0+(g+1)<=b.size;lia) w0 (by show g+1-1<g+1;lia) λk h0=>?_)));replace h0:k<=g+1:=h0;dsimp-zeta+zetaDelta only
     extract_lets+onlyGivenNames Y0 ac z1 p0
     obtain⟨j,j0⟩:∃j,j=p0:=⟨_,rfl⟩;rw[<-j0];refine xm (γ:=Nat×Array FN) (λx st4=>ec st st4/\Hv a b x.2 (Y+1) (x.1+2)/\x.1<=o0) (λx=>j () (x.1+2) x.2) (λ⟨U,A1⟩st4⟨r,D0,P0⟩=>?_) λf0=>Cb (λC0=>Cb (λc=>Oa (.inl (nx4 _ _ rfl (q0 r ((Lk.vb d0).Bf h0))))) λc=>Cb (λc=>Oa (.inl (nx4 _ _ rfl (l0 r ((Lk.vb d0).Bf h0))))) λr0=>?_) λC0=>?_
     ·subst j0;replace P0:U<=o0:=P0;refine Ea (ce e0 (Cb (λc=>Oa (.inl (nx4 _ _ rfl (l0 r (D0.Nb e0))))) λa1=>?_));have B1:Y≠0:=by simpa using(show¬(Y==0)=wN from a1)
      obtain⟨u0,rfl⟩:∃u0,Y=u0+1:=⟨Y-1,by omega⟩;exact Cb (λ_=>Oa (.inr (⟨r,nx21 u0 U _ _ _ _ rfl (D0.Nb e0) ⟨by lia,by lia⟩⟩))) λ_=>Oa (⟨r,nx21 u0 U _ _ _ _ rfl (D0.Nb e0) ⟨by lia,by lia⟩⟩)
     ·have B0:k≠1:=by simpa using c
      have Q0:k≠0:=by simpa using r0
      obtain⟨U,rfl⟩:∃U,k=U+2:=⟨k-2,by omega⟩;exact f0 (U,_) _ ⟨r,(Lk.vb d0).Bf h0,by show U<=_;lia⟩
     ·obtain⟨U,rfl⟩:∃U,g=U+1:=⟨g-1,by omega⟩;exact f0 (U,_) _ ⟨r,Lk.vb d0,by show U<=_;lia⟩
    ·have B0:k≠0:=by simpa using c
     obtain⟨Y,rfl⟩:∃Y,k=Y+1:=⟨k-1,by omega⟩;exact f0 (Y,_) _ ⟨sm _,L.Af h0,by show Y<=_;lia⟩
structure Sb(C:Cm prog w A E s)(ra:Array FN)(pd:Array (Nat×Nat×Nat))(st:JN):Prop where
 perm:(QN st).Perm ra
 kind:kindOf st=C.κ
 fail:dO st=sN
 pend:VN st=pd
section
variable{ra:Array FN}{pd:Array (Nat×Nat×Nat)}{lo:Nat}{st:JN}
def Sb.set(h:Sb C ra pd st){ys:Array FN}(p:ys.Perm (QN st)):Sb C ra pd (setArr st ys):=⟨p.trans h.perm,h.kind,h.fail,h.pend⟩
def Sb.Rs(h:Sb C ra pd st)(i j:Nat):Sb C ra pd (setArr st (mirror (QN st) i j ((j-i)/2))):=h.set (mirror_perm _ _ _ _)
def Rn(h:Sb C ra pd st)(r:∀x∈ra.toList,C.gd x){i j:Nat}(O:i<ra.size)(U:j<ra.size){Q:Option Bool->JN->Prop}(q:∀b,Q (qN b) st):GP (xN prog w) A E s (ltAt' i j) Q st:=by
 have hz:=h.perm.size_eq;have g:=λk J=>r _ ((qp.mp h.perm).mem_iff.mp (nu (xs:=QN st) (i:=k) J))
 exact Ea (xh (Ea (ce (Rl (QN st) i (by simp_all)) (Ea (ce (Rl (QN st) j (by lia)) (C.lt h.kind (g _ _) (g _ _) q))))))
def HA{a g:Nat}{f:Nat->Option (Option Nat)×Nat->StateT JN fQ (ForInStep (Option (Option Nat)×Nat))}{Q:Option (Option Nat)×Nat->JN->Prop}
  (J:∀x n(R:ForInStep (Option (Option Nat)×Nat)->JN->Prop),1<=n->n<g->R (ForInStep.done (sN,n)) st->R (ForInStep.yield (sN,n+1)) st->GP (xN prog w) A E s (f x (sN,n)) R st)
  (U:1<=a)(Y:a<=g)(h:∀n,1<=n->n<=g->Q (sN,n) st):GP (xN prog w) A E s (forIn [a:g] (sN,a) f) Q st:=by
 refine Vf (I:=λx c r=>r=st/\c=(sN,x)) ?_ ?_ ⟨rfl,rfl⟩
 ·rintro x c r a0 O⟨rfl,rfl⟩;exact J x x _ (by lia) O (h x (by lia) (by lia)) ⟨rfl,rfl⟩
 ·rintro c r⟨rfl,rfl⟩;exact h _ (by lia) (by simp_all)
def SI{O:Nat}{Q:Option Nat->JN->Prop}(Y:∀x∈ra.toList,C.gd x)(k0:lo+O<=ra.size)(h0:1<=O)(g:Sb C ra pd st)(h:∀m r,Sb C ra pd r->1<=m->m<=O->Q (qN m) r):GP (xN prog w) A E s (countRun' lo O) Q st:=by
 refine Ea (HA (λx n R b0 g0 e0 f0=>Ea (Rn g Y (by show lo+n<_;lia) (by show lo+n-1<_;omega) λb=>by cases b;exact Oa f0;exact Oa e0)) (wa 1) h0 λn c0 d0=>?_);refine Cb (λc=>Oa (h _ _ g c0 d0)) λc=>?_
 have l0:n≠O:=by simpa using c
 refine(λ(a0:∀J,Sb C ra pd J->GP (xN prog w) A E s _ Q J)=>Cb (λm0=>Ea (Rn g Y (by lia) (by show lo+n-1<_;omega) (Bool.rec (Ea (CP (a0 _ (g.Rs _ _)))) (Oa (h _ _ g c0 d0))))) λ_=>a0 _ g) λJ g=>?_
 ·refine Ea (qO (Ue (And.intro rfl ?_)));refine Ea (Rg (Vf (I:=λx c r=>∃U,c=(sN,x,U)/\Sb C ra pd r) (Q:=λc r=>∃m U,c=(sN,m,U)/\1<=m/\m<=O/\Sb C ra pd r) ?_ ?_ ⟨0,rfl,g⟩) ?_)
  ·rintro x c r b0 g0;refine ea1 ?_;rintro U rfl g;replace b0:n+1<=x:=b0;refine Ea (Rn g Y (by show lo+x<_;lia) (by show lo+x-1<_;omega) λb=>?_);cases b
   ·refine Ea (Rn g Y (by show lo+x-1<_;lia) (by show lo+x<_;lia) λb=>?_);cases b
    ·exact Oa ⟨_,rfl,g⟩
    ·exact Oa (nx6 x _ rfl (by lia) (by lia) g)
   ·refine Cb (λ_=>Cb (λ_=>Ea (CP (Oa ?_))) λ_=>Oa ?_) λn=>absurd rfl n
    ·exact⟨_,rfl,g.Rs _ _⟩
    ·exact⟨_,rfl,g⟩
  ·rintro c r;refine ea1 ?_;rintro U rfl g;exact nx6 _ _ rfl (by grind) (by lia) g
  ·rintro c r;refine eaC ?_;rintro m U rfl i0 j0 g;refine(λ(a0:∀J,Sb C ra pd J->GP (xN prog w) A E s _ Q J)=>Cb (λ_=>Ea (CP (a0 _ (g.Rs _ _)))) λ_=>a0 _ g) λJ g=>Ea (CP ?_)
   replace g:=g.Rs lo (lo+m);exact Ea (HA (λx n R b0 g0 e0 f0=>Ea (Rn g Y (by show lo+n<_;lia) (by show lo+n-1<_;lia) λb=>by cases b;exact Oa f0;exact Oa e0)) i0 j0 λn c0 d0=>Oa (h _ _ g c0 d0))
def UI{n ok:Nat}{Q:Bool->JN->Prop}(U:∀x∈ra.toList,C.gd x)(Y:lo+n<=ra.size)(J:Sb C ra pd st)(h:∀r,Sb C ra pd r->Q wN r):GP (xN prog w) A E s (binarySort' lo n ok) Q st:=by
 refine Ea (Rg (Vf (I:=λk c r=>c=(sN,())/\Sb C ra pd r) (Q:=λc r=>c=(sN,())/\Sb C ra pd r) ?_ (λ_ _ z=>z) ⟨rfl,J⟩) ?_)
 ·rintro k c r a0 b0⟨rfl,J⟩;refine Ea (Rg (Vf (I:=λx c O=>O=r/\∃l g,c=(sN,l,g)/\g<=k) (Q:=λc O=>O=r/\∃l g,c=(sN,l,g)) ?_ ?_ (⟨rfl,nx4 0 k rfl (by lia)⟩)) ?_)
  ·rintro x c O _ c0;refine eb3 ?_;rintro rfl l g rfl q;refine Cb (λz=>Oa (⟨rfl,nx1 _ _ rfl⟩)) λz=>Ea (Rn J U (by show lo+k<ra.size;lia) (by show lo+(l+g)/2<ra.size;replace z:¬l≥g:=z;lia) λb=>?_)
   replace z:¬l≥g:=z;cases b
   ·exact Oa (⟨rfl,nx4 ((l+g)/2+1) g rfl q⟩)
   ·exact Oa (⟨rfl,nx4 l ((l+g)/2) rfl (by lia)⟩)
  ·rintro c O;refine eb3 ?_;rintro rfl l g rfl q;exact⟨rfl,nx1 _ _ rfl⟩
  ·rintro c O;refine ea7 ?_;rintro rfl l g rfl;exact Ea (Aj (Oa ⟨rfl,J.set (bubble_perm _ _ _)⟩))
 ·rintro c r⟨rfl,J⟩;exact Oa (h r J)
end
def Ba:List (Nat×Nat×Nat)->Nat->Nat->Prop
 |[],a,b=>a=b
 |x::r,a,b=>x.1=a/\1<=x.2.1/\Ba r (a+x.2.1) b
def Ba.le{l:List (Nat×Nat×Nat)}:∀{a b:Nat},Ba l a b->a<=b:=by
 induction l with
 |nil=>exactλh=>Cj h
 |cons x r g=>
  intro a b⟨_,_,h⟩;have:=g h;lia
def Ba.snoc{l:List (Nat×Nat×Nat)}{b n p:Nat}(g:1<=n):∀{a:Nat},Ba l a b->Ba (l++[(b,n,p)]) a (b+n):=by
 induction l with
 |nil=>exactλe=>⟨e.symm,g,by rw[show _=b from e];rfl⟩
 |cons x U r=>
  intro a⟨e,J,O⟩;exact⟨e,J,r O⟩
def Ba.bw{c:Nat}{l:List (Nat×Nat×Nat)}{b:Nat}:∀{i a:Nat},Ba l a b->Ba (l.modify i λx=>(x.1,x.2.1,c)) a b:=by
 induction l with
 |nil=>intro i a h;cases i<;>exact h
 |cons x O J=>
  intro i a⟨e,g,r⟩;cases i with
  |zero=>exact⟨e,g,r⟩
  |succ i=>exact⟨e,g,J r⟩
def Ba.at{l:List (Nat×Nat×Nat)}{b:Nat}{x y:Nat×Nat×Nat}:∀{i a:Nat},Ba l a b->l[i]?=qN x->l[i+1]?=qN y->y.1=x.1+x.2.1/\1<=x.2.1/\1<=y.2.1/\x.1+x.2.1+y.2.1<=b/\Ba ((l.set i (x.1,x.2.1+y.2.1,x.2.2)).eraseIdx (i+1)) a b:=by
 induction l with
 |nil=>intro i a _ e;cases e
 |cons z O a0=>
  intro i a⟨U,g,Y⟩ex r;cases i with
  |succ i=>
   refine ebF ?_ (a0 Y (by simpa using ex) (by simpa using r));rintro b0 c0 d0 e0 f0;exact⟨b0,c0,d0,e0,U,g,f0⟩
  |zero=>
   cases O with
   |nil=>cases r
   |cons u O=>
    cases ex;cases r;revert Y;refine ea3 ?_;rintro g0 h0 J;have i0:=J.le;rw[U];exact⟨g0,g,h0,i0,rfl,gb g (Nat.le_add_right _ _),by rw[Nat.add_assoc]at J;exact J⟩
structure GB(C:Cm prog w A E s)(ra:Array FN)(st:JN)(lo:Nat):Prop where
 perm:(QN st).Perm ra
 kind:kindOf st=C.κ
 fail:dO st=sN
 runs:Ba (VN st).toList 0 lo
section
variable{ra:Array FN}{st:JN}
def IA{i lo:Nat}{Q:Bool->JN->Prop}(I0:∀x∈ra.toList,C.gd x)(d0:GB C ra st lo)(W0:lo<=ra.size)(h0:i+1<(VN st).size)(h:∀a0,GB C ra a0 lo->Q wN a0):GP (xN prog w) A E s (mergeAt' i) Q st:=by
 obtain⟨J0,J,O,mg,K0⟩:=st;obtain⟨Y,i0,j0,k0⟩:=d0;replace h0:i+1<O.size:=h0;obtain⟨⟨g,r,l0⟩,t0⟩:∃m0,O[i]?=qN m0:=⟨_,Rl O i (by lia)⟩;obtain⟨⟨L0,b0,X0⟩,u0⟩:∃M0,O[i+1]?=qN M0:=⟨_,Rl O (i+1) h0⟩;refine ebF ?_ (k0.at (i:=i) (by rw[Kd];exact t0) (by rw[Kd];exact u0));rintro n0 v0 w0 x0 k0;replace j0:K0=sN:=j0;replace i0:J0=C.κ:=i0;replace Y:J.Perm ra:=Y;replace n0:L0=g+r:=n0;replace x0:g+r+b0<=lo:=x0;replace v0:1<=r:=v0;replace w0:1<=b0:=w0;have hz:=Y.size_eq;subst j0 i0 n0;refine Ea (xh ?_);dsimp only;rw[t0,u0];refine Ea (wG ?_);have o0:Ba ((O.setIfInBounds i (g,r+b0,l0)).eraseIdxIfInBounds (i+1)).toList 0 lo:=by
  rw[Array.toList_eraseIdxIfInBounds,Array.toList_setIfInBounds];exact k0
 have e0:∀x∈J.toList,C.gd x:=λx f0=>I0 x ((qp.mp Y).mem_iff.mp f0)
 have y0:∀j,j<J.size->∃x,J[j]?=qN x/\C.gd x:=λj z0=>⟨J[j],Rl J j z0,e0 _ (nu z0)⟩
 refine ea1 ?_ (y0 (g+r) (by lia));rintro Y0 N0 O0;refine Ea (ce N0 (Ea (Qn (C:=C) rfl O0 (by lia) e0 (by lia) λk Z0=>?_)));refine Cb (λc=>Oa (h _ ⟨Y,rfl,rfl,o0⟩)) λc=>?_
 have a1:r-k≠0:=by simpa using c
 refine ea1 ?_ (y0 (g+k+(r-k)-1) (by grind));rintro b1 P0 Q0;refine Ea (ce P0 (Ea (Qn (C:=C) rfl Q0 (by lia) e0 (by omega) λm c1=>?_)));refine Cb (λc=>Oa (h _ ⟨Y,rfl,rfl,o0⟩)) λR0=>?_
 have d1:m≠0:=by simpa using R0
 have A0:(J.extract (g+k) (g+r)).toList.length=r-k:=by rw[Dc,Array.size_extract];lia
 have B0:(J.extract (g+r) (g+r+m)).toList.length=m:=by rw[Dc,Array.size_extract];lia
 have fin:∀(U:Array FN)(d0:Nat),U.toList.Perm ((J.extract (g+k) (g+r)).toList++(J.extract (g+r) (g+r+m)).toList)->Q wN (SortSt.mk' C.κ (U.toList.zipIdx.foldl (λa x=>a.setIfInBounds (g+k+x.2) x.1) J) ((O.setIfInBounds i (g,r+b0,l0)).eraseIdxIfInBounds (i+1)) d0 sN):=λU d0 c0=>by
  refine h _ ⟨(qp.mpr ?_).trans Y,rfl,rfl,o0⟩;have C0:U.toList.length=r-k+m:=by rw[c0.length_eq,Ya,A0,B0]
  refine(List.Perm.of_eq (zz (g+k) U.toList 0 J (by rw[C0];grind))).trans ?_;have e:J.toList=J.toList.take (g+k)++((J.extract (g+k) (g+r)).toList++(J.extract (g+r) (g+r+m)).toList)++J.toList.drop (g+r+m):=by
   rw[Rr,Kn];conv=>lhs;rw[<-Ng (g+r+m) J.toList,List.take_add,<-Ng (g+k) (J.toList.take (g+r)),List.take_take,Zm (by simp_all)]
   simp only[me]
  conv=>rhs;rw[e]
  rw[C0,show g+k+0+(r-k+m)=g+r+m by grind];exact(c0.append_left _).append_right _
 have g0:∀{p q:Nat},∀x∈(J.extract p q).toList,C.gd x:=λ{p q}x f0=>e0 x (by rw[Rr]at f0;exact List.mem_of_mem_take (List.mem_of_mem_drop f0))
 have D0:0<(J.extract (g+k) (g+r)).size:=by rw[<-Dc,A0];lia
 have F0:0<(J.extract (g+r) (g+r+m)).size:=by rw[<-Dc,B0];lia
 refine Cb (λ_=>Ea (QI (C:=C) rfl g0 g0 D0 F0 λU a0 G0 c0=>?_)) λ_=>Ea (RI (C:=C) rfl g0 g0 D0 F0 λU a0 G0 c0=>?_)
 all_goals
  obtain⟨S0,T0,U0,m0,V0⟩:=a0;obtain⟨p0,q0,r0,s0⟩:=G0;replace p0:S0=C.κ:=p0;replace q0:T0=J:=q0;replace r0:U0=(O.setIfInBounds i (g,r+b0,l0)).eraseIdxIfInBounds (i+1):=r0;replace s0:V0=sN:=s0;subst p0 q0 r0 s0;exact Ea (Aj (Ea (xh (Oa (fin U m0 c0)))))
def de{Q:Unit->JN->Prop}(Y:∀x∈ra.toList,C.gd x)(g0:(QN st).Perm ra)(a0:kindOf st=C.κ)(s0:dO st=sN)(t0:VN st=#[])(fin:∀r,(QN r).Perm ra->dO r=sN->Q () r):GP (xN prog w) A E s sortRuns' Q st:=by
 refine Ea (xh ?_);have hz:=g0.size_eq;refine Ea (Rg (Vf (I:=λx c r=>∃lo,c=(sN,lo)/\lo<=ra.size/\GB C ra r lo) (Q:=λc r=>∃lo,c=(sN,lo)/\lo<=ra.size/\GB C ra r lo) ?_ (λ_ _ z=>z) ⟨0,rfl,Va _,g0,a0,s0,by rw[t0];rfl⟩) ?_)
 ·rintro x c r _ u0;refine ea8 ?_;rintro lo rfl b0 J;refine Cb (λz=>Oa ⟨lo,rfl,b0,J⟩) λz=>?_
  replace z:¬lo≥(QN st).size:=z;refine Ea (SI (C:=C) (lo:=lo) Y (by show lo+((QN st).size-lo)<=ra.size;simp_all) (by show 1<=(QN st).size-lo;lia) ⟨J.perm,J.kind,J.fail,rfl⟩ λm d0 h0 v0 i0=>?_);replace i0:m<=(QN st).size-lo:=i0;dsimp-zeta+zetaDelta only
  extract_lets+onlyGivenNames D0 w0
  obtain⟨j,j0⟩:∃j,j=w0:=⟨_,rfl⟩;rw[<-j0];refine xm (γ:=Nat) (λn d0=>Sb C ra (VN r) d0/\1<=n/\lo+n<=ra.size) (λn=>j () n) ?_ λa0=>Cb (λc=>Ea (qO (Ue ⟨rfl,Ea (UI (C:=C) (lo:=lo) Y ?_ h0 λF0 x0=>Cb (λn=>by cases n) λ_=>a0 _ _ ⟨x0,?_,?_⟩)⟩))) λc=>a0 m d0 ⟨h0,v0,by grind⟩
  ·subst j0;rintro n⟨k0,l0,c0,m0,n0⟩;refine ea3 ?_;rintro⟨y0,z0,A0,e0⟩B0 o0;replace e0:c0=VN r:=e0;have p0:GB C ra (SortSt.mk' k0 l0 c0 m0 n0) lo:=⟨y0,z0,A0,by rw[show VN (SortSt.mk' k0 l0 c0 m0 n0)=_ from e0];exact J.runs⟩;refine Ea (xh ?_);have q0:∀{st4},GB C ra st4 lo->GB C ra (setPending st4 ((VN st4).push (lo,n,0))) (lo+n):=λg=>⟨g.perm,g.kind,g.fail,by
    show Ba ((VN _).push (lo,n,0)).toList 0 (lo+n);rw[El];exact Ba.snoc B0 g.runs⟩
   cases G0:c0.back? with
   |none=>
    dsimp only;exact Ea (Aj (Oa ⟨lo+n,rfl,o0,q0 p0⟩))
   |some I0=>
    dsimp only;refine Ea (Rg (Vf (I:=λ_ c O=>c=(sN,())/\GB C ra O lo) ?_ (λc O z=>z) ⟨rfl,p0⟩) ?_)
    ·rintro y c⟨J0,K0,U,L0,M0⟩_ _⟨rfl,g⟩;refine Ea (xh ?_);dsimp only;by_cases r0:U.size>1
     ·rw[va r0,Rl U (U.size-2) (by grind)];exact Cb (λ_=>Oa ⟨rfl,g⟩) λ_=>Ea (IA (C:=C) Y g b0 (by show U.size-2+1<U.size;lia) λC0 f0=>Cb (λn=>by cases n) λ_=>Oa ⟨rfl,f0⟩)
     ·rw[na r0];exact Oa ⟨rfl,g⟩
    ·rintro c st4⟨rfl,g⟩;refine Ea (Aj (Ea (Aj (Oa ⟨lo+n,rfl,o0,q0 (st4:=setPending st4 _) ⟨g.perm,g.kind,g.fail,?_⟩⟩))));show Ba (Array.modify _ _ _).toList 0 lo;rw[Array.toList_modify];exact g.runs.bw
  all_goals
   try replace c:m<minRun' (QN st).size (QN st).size 0:=c
   show _<=_;first
   |exact Nat.le_min.mpr ⟨by show 1<=(QN st).size-lo;lia,by show 1<=minRun' (QN st).size (QN st).size 0;lia⟩
   |exact gb (Nat.add_le_add_left (Nat.min_le_left _ _) _) (by show lo+((QN st).size-lo)<=_;grind)
 ·rintro c r;refine ea8 ?_;rintro lo rfl b0 J;refine Ea (Rg (Vf (I:=λx c O=>c=(sN,())/\GB C ra O lo) (Q:=λc O=>c=(sN,())/\GB C ra O lo) ?_ (λ_ _ z=>z) ⟨rfl,J⟩) ?_)
  ·rintro x c st4 _ u0⟨rfl,g⟩;refine Ea (xh (Cb (λz=>Oa ⟨rfl,g⟩) λz=>Ea (IA (C:=C) Y g b0 ?_ λC0 f0=>Cb (λn=>by cases n) λ_=>Oa ⟨rfl,f0⟩)));replace z:¬(VN st4).size<=1:=z;refine Do (Nat.add_le_add_right (m:=(VN st4).size-2) ?_ 1) (by lia);split<;>split<;>first|exact Nat.sub_le _ _|exact wa _
  ·rintro c st4⟨rfl,g⟩;exact Oa (fin st4 g.perm g.fail)
end
end
end Ps
open PySem PySem.Spec PySem.W PyProof.Rows L2 PyProof PySem.SeqAt
def JA{prog:zN}{w:AN}{A:BN}{E:rN->tN->Prop}{s:tN}{vs:List rN}{a F:uN}{m:Str->Option rN}{n:Nat}{P:PySem.Fin->tN->Prop}(h0:SortKind)(S:List rN->Prop)(hz:vs.length<=vN)
  (Y:s.heap.get? a=qN (GN "list" vs.toArray n))(i0:s.heap.Ns F m)
  (l0:2<=vs.length->∀h',(∀b o,b≠a->s.heap.get? b=qN o->h'.get? b=qN o)->∀(R:SortKind->tN->Prop),R h0 {s with heap:=h'}->wpAny (xN prog w) A (keyKind' vs.toArray) R E {s with heap:=h'})
  (m0:2<=vs.length->∀h',(∀b o,b≠a->s.heap.get? b=qN o->h'.get? b=qN o)->GP (xN prog w) A E {s with heap:=h'} sortRuns' (λ_ g=>(QN g).Perm (pairsOf vs)/\dO g=sN/\S ((QN g).toList.map (·.2))) (SortSt.mk' h0 (pairsOf vs) #[] 7 sN))(n0:vs.length<2->S vs)
  (h:∀out h' c,(∀b o,b≠F->b≠a->s.heap.get? b=qN o->h'.get? b=qN o)->h'.Ns F m->h'.get? a=qN (GN "list" (List.toArray out) c)->out.Perm vs->S out->P (.done (.ret .none)) {s with heap:=h'}):
  wpAny (xN prog w) A (Builtin.«list.sort» ⟨[.ref a],[]⟩) P E s:=by
 have o0:a≠F:=λe=>by
  obtain⟨o,es,ep,r,c0,_⟩:=i0;rw[<-e,Y]at r;cases r;cases c0
 rw[list_sort_plain];refine ba (BO Y rfl (ba (Fl Y rfl ?_ (by rw[uc];exact hz) (Va _))));obtain⟨r,j0⟩:∃r,(s.heap.update a (Obj.mapSeq λ_=>(#[]:Array rN))).get? a=qN (GN "list" #[] r):=⟨_,Xm Y (λ_=>#[])⟩;refine ba (NO j0 rfl (ba (Mo (ba (tj (Rc ?_) (Va _))) (by exact hz))));have p0:=Gf s.heap a (Obj.mapSeq λ_=>(#[]:Array rN));have a0:∀b o,b≠a->s.heap.get? b=qN o->(((s.heap.update a (Obj.mapSeq λ_=>(#[]:Array rN))).push (GN "tuple" vs.toArray 0)).push (GN "list" #[] 0)).get? b=qN o:=λb o y e=>Pa _ (Pa _ ((p0.2 b y).trans e))
 have J:(((s.heap.update a (Obj.mapSeq λ_=>(#[]:Array rN))).push (GN "tuple" vs.toArray 0)).push (GN "list" #[] 0)).get? a=qN (GN "list" #[] r):=Pa _ (Pa _ j0);generalize((s.heap.update a (Obj.mapSeq λ_=>(#[]:Array rN))).push (GN "tuple" vs.toArray 0)).push (GN "list" #[] 0)=O at a0 J;have fin:∀(out:List rN),out.length<=vN->out.Perm vs->S out->wpAny (xN prog w) A (Builtin.List.listUpdate (.ref a) λ_=>out.toArray) (λ_ s'=>P (.done (.ret .none)) s') E {s with heap:=O}:=λout lo b0 d0=>by
  have k0:=Gf O a (Obj.mapSeq λ_=>out.toArray);obtain⟨e0,q0⟩:∃e0,(O.update a (Obj.mapSeq λ_=>out.toArray)).get? a=qN (GN "list" out.toArray e0):=⟨_,Xm J λ_=>out.toArray⟩;refine Fl J rfl (h out _ e0 (λb o _ y e=>(k0.2 b y).trans (a0 b o y e)) ?_ q0 b0 d0) (Va _) (by rw[uc];exact zl lo);revert i0;refine ebA ?_;rintro o es ep r c0 r0;exact nx16 o es ep ((k0.2 F o0.symm).trans (by grind)) c0 r0
 by_cases f0:2<=vs.length
 ·have U:¬vs.toArray.size<2:=by rw[uc];simp_all
  rw[na U,na U];refine ba (l0 f0 O a0 _ ?_);refine ba (zd (m0 f0 O a0) ?_ λ_ _ e=>e);rintro⟨⟨⟩,g⟩s';refine eb4 ?_;rintro rfl s0 t0 d0;refine ba (NO J rfl ?_);rw[t0];have pl:(QN g).toList.Perm (vs.zip vs):=by rw[<-OP];exact qp.mp s0
  have b0:((QN g).toList.map (·.2)).Perm vs:=by
   have:=pl.map (·.2);rwa[List.map_snd_zip (wa _)]at this
  have g0:(QN g).map (·.2)=((QN g).toList.map (·.2)).toArray:=by
   apply Array.toList_inj.mp;simp
  rw[g0];refine ba (zd (fin _ (by rw[b0.length_eq];exact hz) b0 d0) (λ_ u0 q=>?_) λ_ _ e=>e);simp only[Jq,Mg,Be];exact ga q
 ·have U:vs.toArray.size<2:=by rw[uc];simp_all
  rw[va U,va U];refine ba (ga ?_);refine ba (ga (ba (NO J rfl ?_)));have g0:(QN (SortSt.mk' general' (vs.toArray.zip vs.toArray) #[] 7 sN)).map (·.2)=vs.toArray:=by
   show(vs.toArray.zip vs.toArray).map (·.2)=_;apply Array.ext
   ·simp
   ·intro i v0 f0;simp
  dsimp only;rw[g0];refine ba (zd (fin vs hz (.refl _) (n0 (by lia))) (λ_ u0 q=>?_) λ_ _ e=>e);simp only[Jq,Mg,Be];exact ga q
structure VA(K:Type)[DecidableEq K]extends HVK K where
 T:rN
 rfT:(T==T)=wN
 typ:∀{h:EN}{k:K}{v:rN}(M:Model),is h k v->Looks M h (typeOf v) T
 one:∀{prog:zN}{w:AN}{A:BN}{E:rN->tN->Prop}{s:tN}{x y:K}{u v:rN}{Q:Bool->tN->Prop}(b:Bool),(b=wN->(T !=Value.type "tuple")=wN)->A.units+d<CN->is s.heap x u->is s.heap y v->(∀c,Q c s)->wpAny (xN prog w) A (oneLt' b u v) Q E s
def VA.int:VA Int where
 toHVK:=HVK.int
 T:=.type "int"
 rfT:=by decide
 typ:=λM h=>by
  obtain⟨t,e⟩:=h;subst e;intro A Q E s _ q;exact oh (T:="int") rfl q
 one:=λb _ _ g r h=>by
  obtain⟨t,e⟩:=g;obtain⟨t',J⟩:=r;subst e;subst J;cases b with
  |true=>exact oneLt_int (h _)
  |false=>exact KP _ _ (lt_int (h _))
def VA.node:VA (Int×Int)where
 toHVK:=HVK.int.pair HVK.int
 T:=.type "tuple"
 rfT:=by decide
 typ:=λM h=>by
  obtain⟨u,k0,⟨a,o,n,e,g,r,J⟩,_⟩:=h;subst e;intro A Q E s k q;exact oh (T:="tuple") ⟨o,k a o g,r⟩ q
 one:=λ{prog w A E s x y u v Q}b O l0 U Y h=>by
  revert U;refine ea0 ?_;rintro m0 n0⟨a,o,n,e,g,r,J⟩⟨o0,a0⟩⟨p0,b0⟩;revert Y;refine ea0 ?_;rintro q0 r0⟨s0,c0,d0,e0,f0,g0,h0⟩⟨t0,i0⟩⟨u0,j0⟩;subst e;subst e0;subst a0;subst b0;subst i0;subst j0;cases b with
  |true=>exact absurd (O rfl) (by decide)
  |false=>exact KP _ _ (HT.Jc (ns:=[x.1,x.2]) (ms:=[y.1,y.2]) (nx5 o g r n J) (nx5 c0 f0 g0 d0 h0) (.cons _ _ (.cons _ _ .nil)) (.cons _ _ (.cons _ _ .nil)) (by lia) (h _))
def KA{K L:Type}[DecidableEq K][DecidableEq L](V:VA K)(W:VA L){prog:zN}{w:AN}{A:BN}{E:rN->tN->Prop}{s:tN}{vs:List rN}{a F:uN}{m:Str->Option rN}{n:Nat}{P:PySem.Fin->tN->Prop}(hz:vs.length<=vN)(z0:A.units+(max V.d W.d+1)<CN)
  (g:∀u∈vs,∃k,(V.toHVK.pair W.toHVK).is s.heap k u)(J:s.heap.get? a=qN (GN "list" vs.toArray n))(h0:s.heap.Ns F m)
  (h:∀out h' c,(∀b o,b≠F->b≠a->s.heap.get? b=qN o->h'.get? b=qN o)->h'.Ns F m->h'.get? a=qN (GN "list" (List.toArray out) c)->out.Perm vs->P (.done (.ret .none)) {s with heap:=h'}):
  wpAny (xN prog w) A (Builtin.«list.sort» ⟨[.ref a],[]⟩) P E s:=by
 have c0:A.units+V.d<CN:=by have:=gn V.d W.d;lia
 have d0:A.units+W.d<CN:=by have:=Om V.d W.d;lia
 have kp:∀h':EN,(∀b o,b≠a->s.heap.get? b=qN o->h'.get? b=qN o)->∀u∈vs,∃k,(V.toHVK.pair W.toHVK).is h' k u:=λh' k u i0=>(g u i0).imp λ_ x=>(V.toHVK.pair W.toHVK).keep x λb o _ _ e O _=>k b o (λz=>by
  rw[z,J]at e;cases e;exact absurd (show Value.type "list"=Value.type "tuple"from O) (by decide)) e
 have tups:∀(h':EN)(l:List rN),(∀u∈l,∃k,(V.toHVK.pair W.toHVK).is h' k u)->∃fs,KatTups h' l fs/\fs.length=l.length/\∀v∈fs,∃k,V.is h' k v:=λh' l=>by
  induction l with
  |nil=>exactλ_=>⟨[],trivial,rfl,by(intros;simp_all)⟩
  |cons v A0 j0=>
   intro g;refine ea8 ?_ (j0 (by(intros;simp_all)));rintro fs t l a;refine ebA ?_ (g v (.head _));rintro _ u k0⟨ad,o,n,e,J,O,U⟩r Y;have a0:=e;subst a0;refine⟨u::fs,KatTups.cons J O U rfl t,by simp_all,λv b0=>?_⟩;rcases rc.mp b0 with z|z
   ·exact⟨_,z▸r⟩
   ·exact a v z
 refine JA (oP (V.T !=Value.type "tuple")) (λ_=>True) hz J h0 (λl0 h' k R q=>?_) (λl0 h' k=>?_) (λ_=>trivial) λout h' c m0 n0 o0 p0 _=>h out h' c m0 n0 o0 p0
 ·refine ea8 ?_ (tups h' vs (kp h' k));rintro fs t l a;exact kat_kind t (by lia) (λv b0=>by obtain⟨k,g⟩:=a v b0;exact V.typ _ g) V.rfT q
 ·have lt:∀x∈vs,∀y∈vs,∀(R:Bool->tN->Prop)(e0:rN->tN->Prop),(∀b,R b {s with heap:=h'})->wpAny (xN prog w) A (keyLt' (oP (V.T !=Value.type "tuple")) x y) R e0 {s with heap:=h'}:=λx q0 y r0 R e0 q=>by
   refine ebA ?_ (kp h' k x q0);rintro B0 u k0⟨ad,o,n,e,J,O,U⟩r Y;refine ebA ?_ (kp h' k y r0);rintro C0 z D0⟨F0,G0,I0,a0,s0,J0,t0⟩f0 g0;rw[e,a0];exact kat_lt J U s0 t0 (UO (V.eq c0 r f0 prog w _ _ (QP (λc=>qP (UO (W.eq d0 Y g0 prog w _ _ (QP (λy=>qP (kat_nil (q _))) λy=>PP (W.one _ (by(intros;simp_all)) d0 Y g0 q))))) λc=>PP (V.one _ (by simp) c0 r f0 q))))
  refine Ps.de (C:=⟨oP (V.T !=Value.type "tuple"),λp=>p.1∈vs,λ{st p q Q}g u0 v0 w0=>?_⟩) (λx r=>?_) (Array.Perm.refl _) rfl rfl rfl λK0 x0 y0=>⟨x0,y0,trivial⟩
  ·rw[lt'_eq];refine Ea (xh (Ea (qO (qg ?_))));rw[g];exact lt _ u0 _ v0 _ _ λb=>⟨rfl,Oa (w0 b)⟩
  ·rw[OP]at r;exact(mem_zip_self r).2
section
variable{X:Cx}{pins:List (uN×TN)}{σ:L2.St}{H:Hp}{s:tN}
def VI(A0:X.A.units+16<CN):Kf X (.builtin "sorted") (λxs H Q=>∃(a:uN)(vs:List V)(J:List Nk),xs=[V.ref a]/\ca X.K H a vs/\Paired (sb H) vs J/\vs.length<=1200/\
  ∀p ys js,H p=sN->Paired (sb H) ys js->js.Perm J->Q (.ref p) (upd H p (.lst ys))):=by
 intro pins s σ H xs us Q I j0 h;revert h;refine ea2 ?_;rintro a vs J rfl e pk B0 q;obtain⟨u,rfl,k0⟩:=cf j0;cases k0;obtain⟨m,c0,_⟩:=id I.loc;refine ea8 ?_ (I.list e);rintro g U l0 _;have m0:g.length=vs.length:=U.length.symm;have n0:J.length=g.length:=(Ta pk).symm.trans m0.symm;obtain⟨kf,o0,p0⟩:=xA (VA.int.toHVK.pair VA.int.toHVK) (0,0) n0 λi u q0=>by
  refine ea1 ?_ (xf U q0);rintro x ex Y;refine ea1 ?_ (Lb pk ex);rintro k ek a0;exact⟨k,ek,Cg I a0 Y⟩
 refine ar SO AO DO (vP _) ?_;unfold Builtin.«sorted»;refine ba (m:=checkCount "sorted" 1 1 _) (ga (ba (collect_list l0.isList (ba (tj ?_ (by rw[Ni];lia))) (by rw[Ni];lia))));have d0:∀b o,s.heap.get? b=qN o->((s.heap.push (GN "list" #[] 0)).update s.heap.objs.size (Obj.mapSeq (·++g.toArray))).get? b=qN o:=λb o e=>by
  rw[Heap.get?_update_ne _ _ _ _ (nb (Na e))];exact Pa _ e
 have hsz:((s.heap.push (GN "list" #[] 0)).update s.heap.objs.size (Obj.mapSeq (·++g.toArray))).objs.size=s.heap.objs.size+1:=by rw[Heap.size_update,Hf]
 generalize(s.heap.push (GN "list" #[] 0)).update s.heap.objs.size (Obj.mapSeq (·++g.toArray))=r at d0 hsz;have O:∀b o,s.heap.get? b=qN o->(r.push {cls:=.type "list",data:=.seq g.toArray}).get? b=qN o:=λb o e=>Pa _ (d0 b o e)
 have e0:(r.push {cls:=.type "list",data:=.seq g.toArray}).get? r.objs.size=qN (GN "list" g.toArray 0):=yb _ rfl;have C0:Inv X pins σ H {s with heap:=r.push {cls:=.type "list",data:=.seq g.toArray}}:=I.kept (t':=s.toks) O;refine ba (Rc (vd Zo ⟨_,e0,rfl⟩ Xo (KA VA.int VA.int (s:={s with heap:=r.push {cls:=.type "list",data:=.seq g.toArray}}) (by rw[Ni];lia) (show X.A.in1.in1.units+1<CN by show X.A.units+1+1+1<CN;lia) (λu r0=>⟨_,(HVK.int.pair HVK.int).keep (o0 u r0) λb o _ _ e _ _=>O b o e⟩) e0 (c0.keeps O) λout h' c kp s0 t0 f0=>⟨_,rfl,?_⟩) (YO _)));obtain⟨ys,g0,u0⟩:=Zp (R:=sb H) (out.map kf) out (by rw[ua]) λp v0=>by
  obtain⟨v,w0,rfl⟩:=Sa.mp (Yv kf out▸v0);obtain⟨i,h0⟩:=Hd.mp (f0.mem_iff.mp w0);obtain⟨x,ex,Y⟩:=xf U h0;obtain⟨D0,ek,a0⟩:=Lb pk ex;rw[<-p0,lb,h0]at ek;cases ek;exact⟨x,Y,a0⟩
 have b0:s.heap.objs.size<=r.objs.size:=by rw[hsz];exact Lg _
 have lo:=f0.length_eq;have x0:=yv (t':=s.toks) (D:=r.objs.size) (u:=.lst ys) (h':=h') I (λb o y0 i0=>kp b o y0 (nb (ed (Na i0) b0)) (O b o i0)) (λF0 z0=>xv c0 z0▸s0) b0 (⟨by rw[g0.length,lo,Ni];lia,nx4 out c g0 t0⟩);exact ga ⟨_,rfl,.ref _,_,x0,rfl,q _ ys _ (I.ya.fresh b0) u0 (by grind)⟩
inductive WI(K:W.Frag)(Q:VK)(vs:List V)(H1:Hp):Prop|mk(a:uN)(xs:List V)(ks:List (Nk×Nk))(_:vs=[V.ref a])(_:ca K H1 a xs)(_:Paired (Gc H1) xs ks)(_:xs.length<=1200)(_:∀l ys js,H1 l=sN->Paired (Gc H1) ys js->js.Nodup->(∀k,k∈js↔k∈ks)->Q (.ref l) (upd H1 l (.lst ys)))
def XI(K:W.Frag)(t:TA):TE:=λσ H Q=>t σ H (WI K Q)
def YI{X:Cx}{K:W.Frag}{e:IN}{t:TA}{p Y pos O:oO}(c1:X.A.units+64<CN)(z0:X.K=K)(k0:X.calm=wN)(A0:Gl X "sorted")(B0:X.mg "sorted"=sN)(C0:Gl X "set")(c0:X.mg "set"=sN)(D0:PA X [e] t)
  (F0:DN [e] X.env=[(yN,SN e X.env)]:=by rfl)(l0:DN [.Call (.Name "set" Y) [e] [] O] X.env=[(yN,SN (.Call (.Name "set" Y) [e] [] O) X.env)]:=by rfl):
  PE X (.Call (.Name "sorted" p) [.Call (.Name "set" Y) [e] [] O] [] pos) (XI K t):=by
 constructor;intro pins s σ H Q I h;subst z0;refine lh (Xf I A0 B0 PyProof.Rows.boot_sorted ?_ (by decide) (by decide));refine ju ?_ (by rw[l0];rfl) rfl;rw[l0];show wpAny _ _ (JP ((yN,SN (.Call (.Name "set" Y) [e] [] O) X.env)::XN pos [])) _ _ s;refine Gi ?_;refine lh (Xf I C0 c0 PyProof.Rows.boot_set (yk (xa (D0 O pins s σ H _ I h) ?_) F0 rfl) (by decide) (by decide));rintro us U⟨vs,G0,r,I0,q1⟩;obtain⟨l,xs,m0,rfl,J0,pk,d1,q⟩:=q1;refine ea1 ?_ (cf I0);rintro u rfl K0;cases K0;refine ea8 ?_ (r.list J0);rintro g d0 pl hz;have L0:g.length=xs.length:=d0.length.symm;have M0:m0.length=g.length:=(Ta pk).symm.trans L0.symm;refine ea1 ?_ (id r.loc);rintro m n0 _;have o0:(VA.node.toHVK.pair VA.node.toHVK).d=2:=rfl;have p0:∀(i:Nat)(u:rN),g[i]?=qN u->∃k,m0[i]?=qN k/\(VA.node.toHVK.pair VA.node.toHVK).is U.heap k u:=λi u N0=>by
  refine ea1 ?_ (xf d0 N0);rintro x ex e0;refine ea1 ?_ (Lb pk ex);rintro k ek f0;exact⟨k,ek,Jv r f0 e0⟩
 refine ea1 ?_ (xA (VA.node.toHVK.pair VA.node.toHVK) ((0,0),(0,0)) M0 p0);rintro kf q0 r0;have O0:∀u∈g,∃b,u=.ref b:=λu g0=>by
  obtain⟨i,a0⟩:=Hd.mp g0;obtain⟨k,_,⟨_,_,⟨ad,_,_,e,_⟩,_⟩⟩:=p0 i u a0;exact⟨ad,e⟩
 refine cH (V:=VA.node.toHVK.pair VA.node.toHVK) (kf:=kf) (us:=g) (by rw[o0];decide) (by rw[o0];lia) O0 q0 (r.ok.hd k0) pl.isList (by simp_all) λh' P0 s0 k=>?_
 refine Nl ?_;have Ab:(ah (g.map kf)).length<=1200:=by have:=Iv (g.map kf);rw[ua]at this;lia
 refine ar SO AO DO (vP _) ?_;unfold Builtin.«sorted»;refine ba (m:=checkCount "sorted" 1 1 _) (ga (ba ?_));refine eH (s:={U with heap:=h',toks:=P0}) (r.ok.hd k0) Ab s0 rfl λJ t0 d ms Q0 b0 u0=>?_
 have R0:ms.length=(ah (g.map kf)).length:=by have:=b0.length_eq;rwa[ua]at this
 have e1:ms.length<=1200:=by rw[R0];have:=Iv (g.map kf);rw[ua]at this;lia
 refine ba (tj ?_ (by rw[Ni];lia));have h0:∀b o,U.heap.get? b=qN o->(J.push {cls:=.type "list",data:=.seq ms.toArray}).get? b=qN o:=λb o e=>Pa _ (by simp_all)
 have v0:(J.push {cls:=.type "list",data:=.seq ms.toArray}).get? J.objs.size=qN (GN "list" ms.toArray 0):=yb _ rfl;have i0:U.heap.objs.size<=J.objs.size:=by
  revert s0;refine ea4 ?_;rintro o _;refine eaA ?_;rintro _ _ S0 _;exact vj (Na (Q0 _ _ S0))
 refine ba (Rc (vd Zo ⟨_,v0,rfl⟩ Xo (KA VA.node VA.node (s:={U with heap:=J.push {cls:=.type "list",data:=.seq ms.toArray},toks:=t0,drawn:=d}) (by rw[Ni];lia) (show X.A.in1.in1.units+2<CN by show X.A.units+1+1+2<CN;lia) (λu g0=>⟨_,(VA.node.toHVK.pair VA.node.toHVK).keep (q0 u (u0 u g0)) λb o _ _ e _ _=>h0 b o e⟩) v0 (n0.keeps h0) λout T0 c kp U0 V0 j0=>⟨_,rfl,?_⟩) (YO _)));have lo:=j0.length_eq;obtain⟨ys,w0,W0⟩:=Zp (R:=Gc G0) (out.map kf) out (by rw[ua]) λp b0=>by
  obtain⟨v,X0,rfl⟩:=Sa.mp (Yv kf out▸b0);obtain⟨i,a0⟩:=Hd.mp (u0 v (j0.mem_iff.mp X0));obtain⟨x,ex,e0⟩:=xf d0 a0;obtain⟨Y0,ek,f0⟩:=Lb pk ex;rw[<-r0,lb,a0]at ek;cases ek;exact⟨x,e0,f0⟩
 have Z0:=yv (t':=t0) (D:=J.objs.size) (u:=.lst ys) (h':=T0) (kG d r) (λb o a1 x0=>kp b o a1 (nb (ed (Na x0) i0)) (h0 b o x0)) (λf1 c0=>xv n0 c0▸U0) i0 (⟨by rw[w0.length,lo,Ni];lia,nx4 out c w0 V0⟩);have y0:=(j0.map kf).trans b0;obtain⟨b1,mem⟩:=bH (g.map kf);refine ga ⟨_,rfl,.ref _,_,Z0,rfl,q _ ys _ (r.ya.fresh i0) W0 (y0.nodup_iff.mpr b1) (λY0=>by rw[y0.mem_iff,mem,r0])⟩
end
section
variable{prog:zN}{w:AN}{A:BN}{s:tN}
def ZI{x y:Rk}{u v:rN}{R:Bool->tN->Prop}{E:rN->tN->Prop}(o0:A.units+4<CN)(b0:Eh s.heap x u)(c0:Eh s.heap y v)(d0:Uv x y)(q:∀b,R b s):wpAny (xN prog w) A (keyLt' (oP (Value.type "tuple"!=Value.type "tuple")) u v) R E s:=by
 obtain⟨a,o,n,p0,q0,t,r0,rfl,e0,s0,f0,r,J,O⟩:=b0;obtain⟨t0,u0,v0,w0,x0,t',y0,rfl,g0,z0,h0,U,Y,a0⟩:=c0;have g:A.units+NV.d<CN:=by show A.units+1<CN;lia
 refine kat_lt e0 f0 g0 h0 (UO (NV.eq g r U prog w _ _ (QP (λc=>qP (UO (NV.eq g J Y prog w _ _ (QP (λc=>qP (UO (EqAt.int_int x.2.2.1 t y.2.2.1 t' prog w _ _ (QP (λc=>qP (UO (nA O a0 prog w _ _ (QP (λc=>qP (kat_nil (q _))) λd=>PP ?_)))) λc=>PP (VA.int.one _ (by(intros;subst_vars;first|rfl|assumption)) (by show A.units+0<CN;lia) ⟨t,rfl⟩ ⟨t',rfl⟩ q))))) λc=>PP (VA.node.one _ (by(intros;subst_vars;first|rfl|assumption)) g J Y q))))) λc=>PP (VA.node.one _ (by(intros;subst_vars;first|rfl|assumption)) g r U q))));have A0:=d0 (by simpa using c);have B0:=of_decide_eq_false d;generalize x.2.2.2=i0 at*;generalize y.2.2.2=j0 at*;cases i0 with
 |none=>simp_all
 |some i=>
  cases j0 with
  |none=>simp_all
  |some j=>
   obtain⟨k0,l0⟩:=O;obtain⟨m0,n0⟩:=a0;subst l0;subst n0;exact VA.int.one _ (by(intros;subst_vars;first|rfl|assumption)) (by show A.units+0<CN;lia) ⟨k0,rfl⟩ ⟨m0,rfl⟩ q
def aJ{E:rN->tN->Prop}{us vs:List rN}{rs:List Rk}{P:PySem.Fin->tN->Prop}{a:uN}{a0:Nat}{b0:rN}(f0:A.units+4<CN)(u0:us.length=vs.length)(c0:Paired (λu J=>Eh s.heap J u) us rs)(g0:∀x∈rs,∀y∈rs,Uv x y)
  (h:∀g:JN,dO g=sN->((QN g).toList.map (·.2)).Perm vs->wpAny (xN prog w) A (ksk_tail a yN a0 b0 g) P E s):
  wpAny (xN prog w) A (ksk_end a yN vs.toArray a0 b0 us.toArray) P E s:=by
 have d0:∀u∈us,∃J∈rs,Eh s.heap J u:=λu h0=>by
  obtain⟨i,i0⟩:=Hd.mp h0;obtain⟨J,v0,w0⟩:=Lb c0 i0;exact(by grind)
 unfold ksk_end;simp only[Mg,Be];have O:(us.toArray.zip vs.toArray).toList=us.zip vs:=by simp
 by_cases x0:2<=vs.length
 ·have r:¬vs.toArray.size<2:=by rw[uc];lia
  rw[na r];refine ea8 ?_ (sA c0);rintro fs t l j0;refine ba (kat_kind (T:=Value.type "tuple") t (by lia) (λv k0=>?_) (by decide) ?_)
  ·obtain⟨k,U⟩:=j0 v k0;exact VA.node.typ _ U
  rw[na r];let C:Ps.Cm prog w A E s:=⟨oP (Value.type "tuple"!=Value.type "tuple"),λp=>p.1∈us,λ{st p q Q}U Y l0 m0=>by
   rw[lt'_eq];refine Ea (xh (Ea (qO (qg ?_))));rw[U];refine ea1 ?_ (d0 _ Y);rintro y0 mp n0;refine ea1 ?_ (d0 _ l0);rintro z0 o0 p0;exact ZI f0 n0 p0 (g0 _ mp _ o0) λb=>⟨rfl,Oa (m0 b)⟩⟩
  have q0:∀x∈(us.toArray.zip vs.toArray).toList,C.gd x:=λx e0=>by
   rw[O]at e0;exact(Pm e0).1
  refine ba (zd (Ps.de (C:=C) (Q:=λ_ g=>(QN g).Perm (us.toArray.zip vs.toArray)/\dO g=sN) q0 (Array.Perm.refl _) rfl rfl rfl λg r0 s0=>⟨r0,s0⟩) ?_ λ_ _ e=>e);rintro⟨⟨⟩,g⟩s' ⟨rfl,Y,t0⟩;have pl:=(qp.mp Y).map (·.2);rw[O,List.map_snd_zip (by simp_all)]at pl;exact h g t0 pl
 ·have r:vs.toArray.size<2:=by rw[uc];lia
  rw[va r];refine ba (ga ?_);rw[va r,StateT.run_pure];refine h _ rfl (.of_eq ?_);rw[O,List.map_snd_zip (by lia)]
end
def bJ{α g:Type}{R:α->g->Prop}{l:List α}{m:List g}(h:Paired R l m):Paired (λb a=>R a b) m l:=by
 induction h with
 |nil=>exact .nil
 |cons r _ J=>exact .cons r J
section
variable{X:Cx}{pins:List (uN×TN)}{σ:L2.St}{H:Hp}{s:tN}
variable{k:Nat}{f:uN}{fd:UN}{nm:Str}{sp:Sp}{A':BN}
def cJ(F:kd X.prog X.w X.K X.mg X.base Td k f fd [nm] sp)(g0:Zd X.K fd [nm] [])(L0:A'.frames=qN X.stack)(q0:ib k A')(M0:Hs sp){D:uN}{g:List rN}{es:List Eg}{n:Nat}{P:PySem.Fin->tN->Prop}{E:rN->tN->Prop}(I:Inv X pins σ H s)(r0:H D=qN (.ext (Ex D (GN "list" g.toArray n))))(hz:g.length<=vN)
  (pv:Paired (λv e=>∃b,v=Value.ref b/\Zb H (.ref b) e) g es)(ok:∀e∈es,Xj e)
  (h:∀H' s' ys js,Inv X pins σ (upd H' D (.lst ys)) s'->(∀b o,b≠D->H b=qN o->H' b=qN o)->Paired (Zb (upd H' D (.lst ys))) ys js->js.Perm es->P (.done (.ret .none)) s'):
  wpAny (xN X.prog X.w) A' (Builtin.«list.sort» ⟨[.ref D],[(Str.ofString "key",.ref f)]⟩) P E s:=by
 have N0:A'.units+4<CN:=by have:=q0.un;lia
 rw[ksk_t1];unfold ksk_tree;have h0:s.heap.get? D=qN (GN "list" g.toArray n):=(I.ya D _ r0).1;refine ba (BO h0 rfl (ba (Fl h0 rfl ?_ (by rw[uc];exact hz) (Va _))));obtain⟨J,e0⟩:∃J,(s.heap.update D (Obj.mapSeq λ_=>(#[]:Array rN))).get? D=qN (GN "list" #[] J):=⟨_,Xm h0 (λ_=>#[])⟩;have O0:=Gf s.heap D (Obj.mapSeq λ_=>(#[]:Array rN));have s0:=I.write (x:=D) (e:=D) (t':=s.toks) (o:=.ext (Ex D (GN "list" #[] J))) (by rw[r0];trivial) (.inl rfl) (λb o r e=>(O0.2 b r).trans e) ⟨_,e0⟩ (dq e0);refine ba (NO e0 rfl (ba (Mo (ba (tj (Rc ?_) (Va _))) (by show g.length<=_;exact hz))));generalize s.heap.update D (Obj.mapSeq λ_=>(#[]:Array rN))=O at s0 e0⊢;have i0:=s0.kept (t':=s.toks) (h':=O.push (GN "tuple" g.toArray 0)) λb o e=>Pa _ e
 have t0:=i0.laid (t':=s.toks) (h':=(O.push (GN "tuple" g.toArray 0)).push (GN "list" #[] 0)) (a:=(O.push (GN "tuple" g.toArray 0)).objs.size) (o:=.ext (Ex (O.push (GN "tuple" g.toArray 0)).objs.size (GN "list" #[] 0))) (λb o e=>Pa _ e) (wa _) (dq (yb _ rfl));have a0:=i0.fresh;have b0:(O.push (GN "tuple" g.toArray 0)).objs.size≠D:=λz=>by rw[z,ia]at a0;cases a0
 have u0:H (O.push (GN "tuple" g.toArray 0)).objs.size=sN:=by rw[ja b0]at a0;exact a0
 have j0:=t0;clear t0 i0 a0;generalize(O.push (GN "tuple" g.toArray 0)).push (GN "list" #[] 0)=l1 at j0⊢;generalize(O.push (GN "tuple" g.toArray 0)).objs.size=KS at j0 b0 u0⊢;unfold ksk_rest;refine ba (Ue ?_);rw[<-sj];have c0:∀b xs,H b=qN (.tup xs)->b≠D/\b≠KS:=by lia
 refine ba (nI F g0 L0 q0 M0 (D:=D) (KS:=KS) (oD:=GN "list" #[] J) (λx Q E s P0=>ba (qg (zd P0 (λv s' Q0=>ba (zd Q0 (λ_ _ q=>ga q) λ_ _ z=>z)) λ_ _ z=>z.elim))) b0 g es [] [] _ _ 0 _ j0 (by rw[ja b0.symm,ia]) ia (by simpa using hz) (Paired.imp' (by rintro v e;refine ea1 ?_;rintro b R0 g0;exact⟨b,R0,g0.kp λc xs U=>by rw[ja (c0 c xs U).2,ja (c0 c xs U).1];exact U⟩) pv) ok .nil λS0 v0 d0 m1 f0 T0 q2 U0 V0 W0=>?_);have w0:S0.length=g.length:=by rw[V0];simp
 refine ba (BO (f0.ya KS _ q2).1 rfl ?_);have x0:∀b o,b≠D->H b=qN o->v0 b=qN o:=λb o r e=>by
  have y0:b≠KS:=by lia
  exact U0 b o y0 (by rw[ja y0,ja r];exact e)
 refine aJ N0 w0 (rs:=es.map fl) (by simpa using Paired.imp' (by rintro u n1⟨p,ep,k0⟩;exact ep▸mI f0 k0) W0) (λx X0 y Y0=>?_) λz0 Z0 l0=>?_
 ·obtain⟨a,a1,rfl⟩:=Sa.mp X0;obtain⟨b,b1,rfl⟩:=Sa.mp Y0;exact lI (ok a a1) (ok b b1)
 ·generalize c1:(QN z0).toList.map (·.2)=Y at l0;obtain⟨js,d1,A0⟩:=yz (R:=λe v=>∃b,v=Value.ref b/\Zb H (.ref b) e) l0 (bJ pv);obtain⟨ys,B0,e1⟩:=Zp (R:=Zb H) js Y (Ta A0) λp k0=>by
   obtain⟨i,m0⟩:=Hd.mp k0;rw[Rm]at m0;refine eb6 ?_ (Lb A0 m0.1);rintro v C0 b J f1;rw[m0.2]at C0;cases C0;exact⟨.ref b,J,f1⟩
  have D0:Y.length=g.length:=l0.length_eq;unfold ksk_tail;dsimp only;have F0:=(f0.ya KS _ q2).1;have g1:=Gf d0.heap KS (Obj.mapSeq λ_=>(#[]:Array rN));obtain⟨G0,I0⟩:∃e,(d0.heap.update KS (Obj.mapSeq λ_=>(#[]:Array rN))).get? KS=qN (GN "list" #[] e):=⟨_,Xm F0 (λ_=>#[])⟩;have n0:=f0.write (x:=KS) (e:=KS) (t':=d0.toks) (o:=.ext (Ex KS (GN "list" #[] G0))) (by rw[q2];trivial) (.inl rfl) (λb o r e=>(g1.2 b r).trans e) ⟨_,I0⟩ (dq I0);refine ba (Fl F0 rfl (ba (qh ?_)) (by rw[uc,w0];exact hz) (Va _));generalize d0.heap.update KS (Obj.mapSeq λ_=>(#[]:Array rN))=o0 at n0⊢;have J0:upd v0 KS (.ext (Ex KS (GN "list" #[] G0))) D=qN (.ext (Ex D (GN "list" #[] J))):=by rw[ja b0.symm];exact T0
  have p0:o0.get? D=qN (GN "list" #[] J):=(n0.ya D _ J0).1;refine ba (NO p0 rfl ?_);simp only[Mg,Be];have h1:(QN z0).map (·.2)=Y.toArray:=by
   apply Array.toList_inj.mp;rw[Array.toList_map,c1]
  rw[h1];have i1:=Gf o0 D (Obj.mapSeq λ_=>Y.toArray);obtain⟨j1,K0⟩:∃e,(o0.update D (Obj.mapSeq λ_=>Y.toArray)).get? D=qN (GN "list" Y.toArray e):=⟨_,Xm p0 (λ_=>Y.toArray)⟩;refine ba (Fl p0 rfl ?_ (Va _) (by rw[uc,D0];exact zl hz));have k1:=n0.write (x:=D) (e:=D) (t':=d0.toks) (o:=.lst ys) (by rw[J0];trivial) (.inl rfl) (λb o r e=>(i1.2 b r).trans e) ⟨_,K0⟩ (⟨by rw[B0.length,D0];exact hz,nx4 _ j1 B0 K0⟩);rw[Z0];simp only[Jq,Mg,Be];refine ga (h _ _ ys js k1 (λb o r e=>?_) (Paired.imp' (λv e x=>x.kp λc xs U=>?_) e1) d1)
  ·rw[ja λz=>by rw[z,u0]at e;cases e];exact x0 b o r e
  ·rw[ja (c0 c xs U).1,ja (c0 c xs U).2];exact x0 c _ (c0 c xs U).1 U
end
inductive dJ(Q:VK)(vs:List V)(H1:Hp):Prop|mk(p:uN)(en:Array ON)(ep:Nat)(ks:List Eg)(_:vs=[V.ref p])(_:H1 p=qN (.ext (Le p en ep)))(_:Sv H1 en ks)(_:(∀e∈ks,Xj e))(_:∀D ys js H',H1 D=sN->(∀b o,H1 b=qN o->H' b=qN o)->H' D=qN (.lst ys)->Paired (Zb H') ys js->js.Perm ks->Q (.ref D) H')
def eJ(t:TA):TE:=λg H Q=>t g H (dJ Q)
def fJ{X:Cx}{k:Nat}{f:uN}{fd:UN}{d0 x:Str}{sp:Sp}{e:IN}{t:TA}{p kp k0 pos:oO}(l0:X.calm=wN)(m0:Gl X "sorted")(n0:X.mg "sorted"=sN)(F:kd X.prog X.w X.K X.mg X.base Td k f fd [d0] sp)(U:ib (k+1) X.A)(o0:Gl X x)(p0:X.mg x=qN (.ref f))(q0:Zd X.K fd [d0] [])(r0:Hs sp)(s0:PA X [e] t)
  (t0:(x==("__debug__":Str))=yN:=by decide)(u0:XN pos (DN [e] X.env)=(yN,SN e X.env)::XN pos (DN [] X.env):=by rfl)(v0:(XN pos (DN [e] X.env)).any (·.1)=yN:=by rfl):
  PE X (.Call (.Name "sorted" p) [e] [⟨qN "key",.Name x kp,k0⟩] pos) (eJ t):=by
 constructor;intro w0 s x0 H Q I h;refine lh (Xf I m0 n0 tO ?_ (by decide) (by decide));refine callWith_kw (xa (s0 pos w0 s x0 H _ I h) ?_) u0 v0;rintro us y0⟨vs,J,g,z0,q1⟩;obtain⟨d,Y,ep,r,rfl,hd,A0,ok,q⟩:=q1;refine ea1 ?_ (cf z0);rintro u rfl B0;cases B0;show wpAny _ _ (evalAll ((do let v<-SN (.Name x kp) X.env;IP pos;pure v)::[])) _ _ y0;refine eP (ba (nr g o0 p0 (ba (vO (ga (wpAny_evalAll_nil ?_)))) t0));show wpAny _ _ (call (.builtin "sorted") [.ref d] [(Str.ofString "key",.ref f)]) _ _ _;refine call_function_entry_kw SO AO DO (ksk_s1 _ _) ?_;unfold Builtin.«sorted»;refine ba (m:=checkCount "sorted" 1 1 _) (ga ?_);refine ea3 ?_ ((g.ya d _ hd).1);rintro lo hz C0;refine ba (W.kdu_collect (Qv (es:=Y) (ep:=ep) lo) (g.ok.hd l0) C0 hz λh' e0 acc D0 O=>?_);have F0:acc.toList.length=Y.size:=by rw[Dc];exact O.1
 have f0:acc.toList.length<=vN:=by rw[F0];exact hz
 refine ba (tj ?_ f0);have g0:(h'.push {cls:=.type "list",data:=.seq acc.toList.toArray}).get? h'.objs.size=qN (GN "list" acc.toList.toArray 0):=yb _ rfl;have h0:=g.kept (t':=e0) D0;have G0:=h0.laid (t':=e0) (a:=h'.objs.size) (λb o e=>Pa _ e) (wa _) (dq g0);have i0:J h'.objs.size=sN:=h0.fresh;have pv:Paired (λv e=>∃b,v=Value.ref b/\Zb (upd J h'.objs.size (.ext (Ex h'.objs.size (GN "list" acc.toList.toArray 0)))) (.ref b) e) acc.toList r:=by
  have go:∀{l:List rN}{a0:List ON}{r:List Eg},Paired (λ(e:ON)k=>∃b,e.key=.ref b/\Zb J (.ref b) k) a0 r->l=a0.map (·.key)->Paired (λv e=>∃b,v=Value.ref b/\Zb (upd J h'.objs.size (.ext (Ex h'.objs.size (GN "list" acc.toList.toArray 0)))) (.ref b) e) l r:=by
   intro l a0 r I0;induction I0 generalizing l with
   |nil=>intro e;subst e;exact .nil
   |cons x t J0=>
    intro e;subst e;revert x;refine ea1 ?_;rintro b K0 L0;exact .cons ⟨b,K0,L0.kp λc xs b0=>by rw[ja λz=>by rw[z,i0]at b0;cases b0];exact b0⟩ (J0 rfl)
  refine go A0 ?_;apply List.ext_getElem?;intro i;rw[lb,Kd,Kd];by_cases M0:i<Y.size
  ·have j0:i<acc.size:=by rw[O.1];exact M0
   refine ea1 ?_ (O.2 i acc[i] (by rw[Kh j0]));rintro U0 N0 O0;rw[Kh j0,N0];exact Vb qN O0.symm
  ·rw[ir (by rw[O.1];lia),ir (by lia)];rfl
 have P0:ib k X.A.in1.in1:=⟨U.hd,by have:=U.dp;show X.A.depth+3*k+5<_;lia,by have:=U.un;show X.A.units+1+1+16*k+200<_;lia⟩;refine ba (Rc (wpAny_call_entry_kw Zo ⟨_,g0,rfl⟩ Xo (cJ (A':=X.A.in1.in1) F q0 g.ok.frames P0 r0 G0 ia f0 pv ok λH' s' ys js Q0 R0 S0 T0=>?_) (ksk_l1 _ _)));refine⟨_,rfl,ga ⟨_,rfl,.ref h'.objs.size,_,Q0,rfl,q _ ys js _ i0 (λb o e=>?_) ia S0 T0⟩⟩;have c0:b≠h'.objs.size:=by grind
 rw[ja c0];exact R0 b o c0 (by rw[ja c0];exact e)
def KK:Key->Key->Prop
 |.inl _,.inl _=>True
 |.inr _,.inr _=>True
 |_,_=>False
def Ss:List Key->List Key->Prop
 |a::r,b::t=>KK a b/\Ss r t
 |_,_=>True
def Sn(g:List (List Key)):Prop:=(∀k∈g,∀l∈g,Ss k l)/\∀k∈g,k≠[]
section
variable{prog:zN}{w:AN}{A:BN}{s:tN}
def gJ{a b:Key}{u v:rN}{c:Bool}{R:Bool->tN->Prop}{E:rN->tN->Prop}(h:KK a b)(g:Aa (kV a) u)(r:Aa (kV b) v)(q:∀b,R b s):wpAny (xN prog w) A (oneLt' c u v) R E s:=by
 match a,b,h with
 |.inl i,.inl j,_=>
  obtain⟨t,rfl⟩:=(show∃t,u=Value.int i t from g);obtain⟨t',rfl⟩:=(show∃t,v=Value.int j t from r);cases c with
  |true=>exact oneLt_int (q _)
  |false=>exact KP _ _ (lt_int (q _))
 |.inr x,.inr y,_=>
  obtain⟨t,rfl⟩:=(show∃t,u=Value.str x t from g);obtain⟨t',rfl⟩:=(show∃t,v=Value.str y t from r);cases c with
  |true=>exact oneLt_str (q _)
  |false=>exact KP _ _ (PyProof.Rows.lt_str (q _))
def hJ{b fin:Bool}{R:Bool->tN->Prop}(q:∀b,R b s):∀{k l:List Key}{us vs:List rN}{i:Nat},Ia (k.map kV) us->Ia (l.map kV) vs->Ss k l->KatLex prog w A b fin R (us.zip vs) i s:=by
 intro k;induction k with
 |nil=>rintro(_|_)_ _ _(_|_)(_|_)_<;>exact kat_nil (q _)
 |cons x a0 O=>
  rintro(_|⟨y,t⟩)_ _ i(_|⟨g,U⟩)(_|⟨r,Y⟩)J
  ·exact kat_nil (q _)
  exact UO ((Wc prog w).eqBool (Oj g) (Oj r) (QP (λe=>qP (O U Y J.2)) λe=>PP (gJ J.1 g r q)))
def iJ{a b:Key}(h:KK a b):wm a=wm b:=by
 match a,b,h with
 |.inl _,.inl _,_=>rfl
 |.inr _,.inr _,_=>rfl
def jJ{E:rN->tN->Prop}{vs:List rN}{r:List (List Key)}{a F:uN}{m:Str->Option rN}{n:Nat}{P:PySem.Fin->tN->Prop}(hz:vs.length<=vN)
  (J:Paired (λv k=>eh s.heap k v) vs r)(g:Sn r)(d0:s.heap.get? a=qN (GN "list" vs.toArray n))(e0:s.heap.Ns F m)
  (h:∀out h' c,(∀b o,b≠F->b≠a->s.heap.get? b=qN o->h'.get? b=qN o)->h'.Ns F m->h'.get? a=qN (GN "list" (List.toArray out) c)->out.Perm vs->P (.done (.ret .none)) {s with heap:=h'}):
  wpAny (xN prog w) A (Builtin.«list.sort» ⟨[.ref a],[]⟩) P E s:=by
 have b0:∀x∈vs,∃k∈r,eh s.heap k x:=λx O=>by
  obtain⟨i,f0⟩:=Hd.mp O;obtain⟨k,ek,D0⟩:=Lb J f0;exact(by grind)
 have kp:∀h':EN,(∀b o,b≠a->s.heap.get? b=qN o->h'.get? b=qN o)->∀b o,o.cls=.type "tuple"->s.heap.get? b=qN o->h'.get? b=qN o:=by grind
 obtain⟨T,c0⟩:∃T:rN,(T==T)=wN/\∀k U,k::U∈r->wm k=T:=by
  match r,g with
  |[],_=>exact⟨.type "int",by decide,by grind⟩
  |[]::_,g=>exact absurd rfl (g.2 _ (.head _))
  |(Y::F0)::G0,g=>exact⟨wm Y,TH _,λk U a0=>iJ (g.1 _ a0 _ (.head _)).1⟩
 refine JA (oP (T !=Value.type "tuple")) (λ_=>True) hz d0 e0 (λg0 h' k R q=>?_) (λg0 h' k=>?_) (λ_=>trivial) λout h' c h0 i0 j0 k0 _=>h out h' c h0 i0 j0 k0
 ·refine ea8 ?_ (RH (cd:=λ_=>0) (Paired.imp' (λv I0 x=>eh.keep x (kp h' k)) J) g.2);rintro fs t l l0;refine kat_kind t (by lia) (λv m0=>?_) c0.1 q;refine eaA ?_ (l0 v m0);rintro Y U a0 n0;rw[<-c0.2 Y U a0];exact SH n0
 ·refine Ps.de (C:=⟨oP (T !=Value.type "tuple"),λp=>p.1∈vs,λ{st p q Q}J o0 p0 q0=>?_⟩) (λx O=>?_) (Array.Perm.refl _) rfl rfl rfl λJ0 r0 s0=>⟨r0,s0,trivial⟩
  ·rw[lt'_eq];refine Ea (xh (Ea (qO (qg ?_))));rw[J];refine ea1 ?_ (b0 _ o0);rintro K0 t0 ix;refine ea1 ?_ (b0 _ p0);rintro L0 u0 v0;refine ea9 ?_ (ix.keep (kp h' k));rintro M0 N0 nx O0 ex w0 _ x0 y0;refine ea9 ?_ (v0.keep (kp h' k));rintro P0 Q0 R0 S0 z0 A0 _ B0 C0;rw[ex,z0];exact kat_lt w0 x0 A0 B0 (hJ (λb=>⟨rfl,Oa (q0 b)⟩) y0 C0 (g.1 _ t0 _ u0))
  ·rw[OP]at O;exact(mem_zip_self O).2
end
section
variable{X:Cx}{pins:List (uN×TN)}{σ:L2.St}{H:Hp}{s:tN}
def LA{A:BN}{E:rN->tN->Prop}(I:Inv X pins σ H s){g:EN}{J:Nat}{xs:List V}{r:List rN}{O:List (List Key)}{P:PySem.Fin->tN->Prop}(k0:∀b o,s.heap.get? b=qN o->g.get? b=qN o)(Y:s.heap.objs.size<=g.objs.size)(d0:Ia xs r)(pk:Paired (ic H) xs O)(hz:r.length<=vN)(l0:Sn O)
  (q:∀(ys:List V)(js:List (List Key))(h':EN),Paired (ic H) ys js->js.Perm O->Inv X pins σ (upd H g.objs.size (.lst ys)) {s with heap:=h',toks:=J}->H g.objs.size=sN->P (.done (.ret .none)) {s with heap:=h',toks:=J}):
  wpAny (xN X.prog X.w) A (Builtin.«list.sort» ⟨[.ref g.objs.size],[]⟩) P E {s with heap:=g.push {cls:=.type "list",data:=.seq r.toArray},toks:=J}:=by
 have a0:∀b o,s.heap.get? b=qN o->(g.push {cls:=.type "list",data:=.seq r.toArray}).get? b=qN o:=λb o e=>Pa _ (k0 b o e)
 have m0:(g.push {cls:=.type "list",data:=.seq r.toArray}).get? g.objs.size=qN (GN "list" r.toArray 0):=yb _ rfl;have n0:=I.kept (t':=J) a0;refine ea1 ?_ (id I.loc);rintro m e0 _;have f0:Paired (λv k=>eh (g.push {cls:=.type "list",data:=.seq r.toArray}) k v) r O:=by
  have go:∀{ys:List V}{us:List rN}{ls:List (List Key)},Ia ys us->Paired (ic H) ys ls->Paired (λv k=>eh (g.push {cls:=.type "list",data:=.seq r.toArray}) k v) us ls:=by
   intro ys us ls v p;induction v generalizing ls with
   |nil=>cases p;exact .nil
   |cons b0 t U=>
    cases p with
    |cons a b=>exact .cons (UH n0 a b0) (U b)
  exact go d0 pk
 have lk:O.length=r.length:=(Ta f0).symm;refine jJ hz f0 l0 m0 (e0.keeps a0) λout h' c kp o0 g0 c0=>?_
 have p0:Paired (λk u=>∃x,Aa x u/\ic H x k) O r:=by
  have go:∀{vs:List V}{us:List rN}{ls:List (List Key)},Ia vs us->Paired (ic H) vs ls->Paired (λk u=>∃x,Aa x u/\ic H x k) ls us:=by
   intro vs us ls v p;induction v generalizing ls with
   |nil=>cases p;exact .nil
   |cons b0 t U=>
    cases p with
    |cons a b=>exact .cons ⟨_,b0,a⟩ (U b)
  exact go d0 pk
 have lo:=c0.length_eq;refine ea1 ?_ (yz c0 p0);rintro js h0 q0;obtain⟨ys,i0,r0⟩:∃ys,Ia ys out/\Paired (ic H) ys js:=by
  clear c0 g0 lo h0 q;induction q0 with
  |nil=>exact⟨[],.nil,.nil⟩
  |cons h t U=>
   obtain⟨ys,a,b⟩:=U;obtain⟨x,s0,J⟩:=h;exact⟨x::ys,.cons s0 a,.cons J b⟩
 have t0:=yv (t':=J) (u:=.lst ys) I (λb o u0 j0=>kp b o u0 (nb (ed (Na j0) Y)) (a0 b o j0)) (λw0 v0=>xv e0 v0▸o0) Y (⟨by rw[i0.length,lo];exact hz,nx4 out c i0 g0⟩);exact q ys js h' r0 h0 t0 (I.ya.fresh Y)
def cw:Kf X (.builtin "sorted") (λxs H Q=>∃(a:uN)(vs:List V)(r:List (List Key)),xs=[V.ref a]/\ca X.K H a vs/\Paired (ic H) vs r/\Sn r/\
  ∀p ys js,H p=sN->Paired (ic H) ys js->js.Perm r->Q (.ref p) (upd H p (.lst ys))):=by
 intro pins s σ H xs us Q I Y h;revert h;refine ea2 ?_;rintro a vs r rfl e pk a0 q;obtain⟨u,rfl,b0⟩:=cf Y;cases b0;refine ea8 ?_ (I.list e);rintro g J c0 d0;have e0:=J.length.symm;have hz:g.length<=vN:=by rw[e0];exact d0
 refine ar SO AO DO (vP _) ?_;refine ba (ga (ba (collect_list c0.isList (ba (tj ?_ (by simpa using hz))) (by simpa using hz))));have O:∀b o,s.heap.get? b=qN o->((s.heap.push (GN "list" #[] 0)).update s.heap.objs.size (Obj.mapSeq (·++g.toArray))).get? b=qN o:=λb o e=>by
  rw[Heap.get?_update_ne _ _ _ _ (nb (Na e))];exact Pa _ e
 have hsz:((s.heap.push (GN "list" #[] 0)).update s.heap.objs.size (Obj.mapSeq (·++g.toArray))).objs.size=s.heap.objs.size+1:=by rw[Heap.size_update,Hf]
 generalize(s.heap.push (GN "list" #[] 0)).update s.heap.objs.size (Obj.mapSeq (·++g.toArray))=U at O hsz;have f0:(U.push {cls:=.type "list",data:=.seq g.toArray}).get? U.objs.size=qN (GN "list" g.toArray 0):=yb _ rfl;refine ba (Rc (vd Zo ⟨_,f0,rfl⟩ Xo (LA I O (by rw[hsz];exact Lg _) J pk hz a0 λys js h' g0 h0 i0 j0=>?_) (YO _)));exact⟨_,rfl,ga ⟨_,rfl,.ref _,_,i0,rfl,q _ ys js j0 g0 h0⟩⟩
def kJ(J:X.calm=wN):Kf X (.builtin "sorted") (λxs H Q=>∃(a:uN)(kvs:List (List Key×V)),xs=[V.ref a]/\Rd H a (.dT kvs)/\Sn (kvs.map (·.1))/\
  ∀p ys js,H p=sN->Paired (ic H) ys js->js.Perm (kvs.map (·.1))->Q (.ref p) (upd H p (.lst ys))):=by
 intro pins s σ H xs us Q I O h;revert h;refine eaC ?_;rintro a kvs rfl e U q;obtain⟨u,rfl,Y⟩:=cf O;cases Y;obtain⟨hd,es,ep,a0,sz,z,b0⟩:=jA I e;refine(ar SO AO DO (vP _) ?_);refine(ba (ga ?_));refine ba (W.kdu_collect (Qv hd) (I.ok.hd J) a0 (by rw[sz];exact z) λh' c0 acc d0 g=>?_);refine ea1 ?_ (kA sz b0 g);rintro xs e0 pk;have f0:acc.toList.length=kvs.length:=by rw[Dc,<-sz];exact g.1
 have hz:acc.toList.length<=vN:=by rw[f0];exact z
 refine ba (tj ?_ hz);have g0:(h'.push {cls:=.type "list",data:=.seq acc.toList.toArray}).get? h'.objs.size=qN (GN "list" acc.toList.toArray 0):=yb _ rfl;have r:=I.kept (t':=c0) d0;refine ba (Rc (vd Zo ⟨_,g0,rfl⟩ Xo (LA r (λb o e=>e) (wa _) e0 pk hz U λys js k0 h0 i0 j0 l0=>?_) (YO _)));exact⟨_,rfl,ga ⟨_,rfl,.ref _,_,j0,rfl,q _ ys js (r.ya.fresh (wa _)) h0 i0⟩⟩
end
end My
namespace Lw
open PySem PySem.Spec PyProof.Rows L2 My
set_option maxHeartbeats 4000000
inductive Lv where
 |loose|kept|make|watch|hold
def wd:Lv->Str
 |.loose=>"loose"
 |.kept=>"kept"
 |.make=>"make"
 |.watch=>"watch"
 |.hold=>"hold"
def ix:Lv->Nat
 |.loose=>0
 |.kept=>1
 |.make=>2
 |.watch=>3
 |.hold=>4
def si:Lv->Bool
 |.loose=>wN
 |_=>yN
def Pe:Lv->Int->Int
 |.kept,n=>n+1
 |.make,_=>2
 |_,_=>1
def Ts:Option Int->V
 |none=>.Ra
 |some k=>.int k
def hh:Lv->Int->Option Int
 |.loose,_=>sN
 |.kept,p=>qN p
 |_,_=>qN 0
def Tn:Lv->Int->Int
 |.kept,n=>n
 |_,_=>0
def Vn(l:Lv):Sp:=λvs H Q _=>∃x,vs=[x]/\Q (.str (wd l)) H
def dw(l:Lv):Sp:=λvs H Q _=>∃x,vs=[x]/\Q (.bl (si l)) H
def Wn(l:Lv):Sp:=λvs H Q _=>∃(x:V)(n:Int),vs=[x,.int n]/\Q (.int (Pe l n)) H
def jq(l:Lv):Sp:=λvs H Q _=>∃(x:V)(n:Int),vs=[x,.int n]/\Q (Ts (hh l n)) H
def kq(l:Lv):Sp:=λvs H Q _=>∃(x:V)(n:Int),vs=[x,.int n]/\Q (.int (Tn l n)) H
def aa.ti(O:H x=sN)(U:H g=sN)(n:g≠x):aa H (upd (upd H g (.own x)) x (.ins C g [])):=λb o e=>by
 have r:b≠x:=λz=>by simp_all
 have J:b≠g:=λz=>by grind
 rw[ja r,ja J];exact e
def top(i:Nat):aO:=PySem.Challenge.pw_skewhouse_k77_whole_yes_has_no_ill.main.body.getD i (.Pass ⟨0,0,0,0⟩)
def lJ(s:aO):List aO:=match s with
 |.ClassDef _ _ _ b _ _ _ _ _ _ _=>b
 |_=>[]
def cm(i j:Nat):aO:=(lJ (top i)).getD j (.Pass ⟨0,0,0,0⟩)
set_option genInjectivity false in
set_option genSizeOf false in
open PySem.W in
structure Tx(K:XP)(mg:Str->Option rN)where
 ui:uN
 vi:uN
 xi:uN
 yi:uN
 zi:uN
 mJ:mg "Loose"=qN (.ref ui)
 nJ:mg "Kept"=qN (.ref vi)
 oJ:mg "Make"=qN (.ref xi)
 pJ:mg "Watch"=qN (.ref yi)
 qJ:mg "Hold"=qN (.ref zi)
 ew:Fe K mg "ring" (top 12) ["waits","start"]
 Us:Fe K mg "followers" (top 30) ["nodes","pairs"]
 fw:Fe K mg "how_many_ahead" (top 31) ["behind"]
 gw:Fe K mg "order_of" (top 32) ["nodes","pairs"]
 hw:Fe K mg "least_ring" (top 33) ["nodes","pairs"]
 Vs:Me K ui "word" "Loose.word" (cm 5 0) ["self"]
 Ws:Me K ui "spots" "Loose.spots" (cm 5 6) ["self","looks"]
 Xs:Me K ui "look_spot" "Loose.look_spot" (cm 5 7) ["self","place"]
 Ys:Me K ui "first_spot" "Loose.first_spot" (cm 5 8) ["self","looks"]
 Zs:Me K ui "unkept" "Loose.unkept" (cm 5 3) ["self"]
 bt:Me K vi "word" "Kept.word" (cm 6 0) ["self"]
 dt:Me K vi "spots" "Kept.spots" (cm 6 2) ["self","looks"]
 et:Me K vi "look_spot" "Kept.look_spot" (cm 6 3) ["self","place"]
 ft:Me K vi "first_spot" "Kept.first_spot" (cm 6 4) ["self","looks"]
 kj:Me K vi "unkept" "Kept.unkept" (cm 6 1) ["self"]
 gt:Me K xi "word" "Make.word" (cm 7 0) ["self"]
 ht:Me K xi "spots" "Make.spots" (cm 7 3) ["self","looks"]
 Xn:Me K xi "look_spot" "Make.look_spot" (cm 7 4) ["self","place"]
 Yn:Me K xi "first_spot" "Make.first_spot" (cm 7 5) ["self","looks"]
 jt:Me K yi "word" "Watch.word" (cm 8 0) ["self"]
 kt:Me K yi "spots" "Watch.spots" (cm 8 2) ["self","looks"]
 nt:Me K zi "word" "Hold.word" (cm 9 0) ["self"]
 ot:Me K zi "spots" "Hold.spots" (cm 9 2) ["self","looks"]
 qt:Me K zi "look_spot" "Hold.look_spot" (cm 9 3) ["self","place"]
 ut:Me K zi "first_spot" "Hold.first_spot" (cm 9 4) ["self","looks"]
 vt:Fe K mg "level_of" (top 10) ["word"]
 lq:Fe K mg "levels_of" (top 36) ["past","word"]
 mq:Fe K mg "spots_of" (top 37) ["deal","level"]
 nq:Fd K mg "spots" (top 40) ["history","word"]
 wt:Fe K mg "keeps_of" (top 38) ["past","levels"]
 iw:Fe K mg "firsts_of" (top 39) ["past","levels"]
 xt:Fe K mg "with_later" (top 41) ["things"]
 jw:Fe K mg "own_edges" (top 42) ["past","levels"]
 kw:Fe K mg "pair_edges" (top 43) ["spot","key","source","makers","keeps"]
 lw:Fe K mg "deal_edges" (top 44) ["deal","level","makers","keeps"]
 mw:Fe K mg "look_edges" (top 45) ["past","levels"]
 pw:Fe K mg "over_edges" (top 46) ["past","levels"]
 yt:Fe K mg "rank" (top 47) ["edge"]
 oq:Fd K mg "edges" (top 48) ["history","word"]
 pq:Fd K mg "unkept" (top 50) ["history","word"]
 qw:Fe K mg "ring_edges" (top 51) ["ring","told"]
 gl:Fd K mg "judge" (top 52) ["history","word"]
 sw:Fe K mg "sources_of" (top 18) ["deal"]
 tw:Fe K mg "right_of" (top 19) ["number","makers"]
 uw:Fe K mg "lost_of" (top 20) ["number","sources","makes"]
 vw:Fe K mg "midway_of" (top 21) ["number","sources"]
 ww:Fe K mg "unkept_of" (top 22) ["number","sources"]
 xw:Fe K mg "is_ahead" (top 23) ["source","maker","makers"]
 zt:Fe K mg "missed" (top 24) ["sources","other","makes"]
 yw:Fe K mg "skewed_of" (top 25) ["one","other","sources","makes"]
 zw:Fe K mg "ills" (top 26) ["past"]
 Aw:Fe K mg "is_let" (top 27) ["ill","words"]
 Bw:Fe K mg "unlet" (top 28) ["past"]
 Zj:Fe K mg "_law_cell" (top 54) ["_law_script","_law_k"]
 Bt:Fe K mg "_law_mixed" (top 55) ["_law_cell_here","_law_k"]
 Cw:Fe K mg "_law_numbers" (top 56) ["_law_script"]
 Dw:Fe K mg "_law_keys" (top 57) ["_law_script","_law_numbers_here"]
 Ew:Fe K mg "_law_ahead" (top 58) ["_law_order","_law_makers","_law_looker"]
 Fw:Fe K mg "_law_look" (top 59) ["_law_number","_law_looker","_law_order","_law_rows"]
 Gw:Fe K mg "_law_deals" (top 60) ["_law_script","_law_numbers_here","_law_order","_law_rows"]
 Ct:Fe K mg "_law_pairs" (top 61) ["_law_looks"]
 Hw:Fe K mg "_law_right" (top 62) ["_law_makers","_law_looker"]
 Iw:Fe K mg "_law_alone" (top 63) ["_law_looker","_law_looks","_law_makes"]
 Et:Fe K mg "_law_behind" (top 64) ["_law_looks","_law_makes","_law_maker"]
 Jw:Fe K mg "_law_skewed" (top 65) ["_law_one","_law_other","_law_makes"]
 Kw:Fe K mg "_law_ills" (top 66) ["_law_deals_here","_law_makes"]
 Mw:Fe K mg "_law_let" (top 67) ["_law_ill","_law_words"]
 Ft:Fe K mg "_law_fine" (top 68) ["_law_answer","_law_deals_here","_law_makes"]
 Nw:Fe K mg "law" (top 69) ["_law_script"]
 Zn:Pn K ui
 ao:Pn K vi
 bo:Pn K xi
 rJ:Zf K xi "unkept" kj.f
 eo:Pn K yi
 sJ:Zf K yi "look_spot" Xn.f
 tJ:Zf K yi "first_spot" Yn.f
 uJ:Zf K yi "unkept" kj.f
 fo:Pn K zi
 vJ:Zf K zi "unkept" kj.f
 tg:specialIn K (.builtin "object.__class__") "__get__"=qN (qN (.builtin "getset_descriptor.__get__"))
 tt:takesIn K (.builtin "object.__class__")=qN wN
 wJ:Tok
 Ow:mg "START"=qN (.int (0) wJ)
 xJ:Tok
 Pw:mg "UNKEPT"=qN (.int (-1) xJ)
 qq:uN
 yJ:mg "KINDS"=qN (.ref qq)
 zJ:∀H:Hp,oa K H qq [V.str "own",V.str "saw",V.str "unseen",V.str "over"]
 ho:uN
 AJ:mg "LOW_WORDS"=qN (.ref ho)
 MA:∀H:Hp,oa K H ho [V.str "loose",V.str "kept"]
 ym:uN
 NA:mg "WHOLE_WORDS"=qN (.ref ym)
 OA:∀H:Hp,oa K H ym [V.str "watch",V.str "hold"]
 BJ:∃o:TN,K.lookup qq=qN o/\o.cls=.type "tuple"/\o.dict=sN
 oN:∃o:TN,K.lookup ho=qN o/\o.cls=.type "tuple"/\o.dict=sN
 pN:∃o:TN,K.lookup ym=qN o/\o.cls=.type "tuple"/\o.dict=sN
 QA:mg "any"=sN
 ak:mg "dict"=sN
 Qw:mg "enumerate"=sN
 CJ:mg "isinstance"=sN
 Cf:mg "len"=sN
 RA:mg "list"=sN
 DJ:mg "max"=sN
 Rw:mg "min"=sN
 zm:mg "range"=sN
 EJ:mg "reversed"=sN
 SA:mg "set"=sN
 Am:mg "sorted"=sN
 FJ:mg "tuple"=sN
 HJ:mg "zip"=sN
def cO{K:W.Frag}{mg:Str->Option rN}(T:Tx K mg):Lv->uN
 |.loose=>T.ui
 |.kept=>T.vi
 |.make=>T.xi
 |.watch=>T.yi
 |.hold=>T.zi
def kN(n:Nk):List Key:=[Sum.inl n.1,Sum.inl n.2]
def io(h:kN a=kN b):a=b:=by
 unfold kN at h
 grind
def jl(h:sb H v n):∃p,v=.ref p/\H p=qN (.tup ((kN n).map kV)):=h
def UA(h:H p=qN (.tup ((kN n).map kV))):sb H (.ref p) n:=⟨p,rfl,h⟩
def je(s:aa H H')(h:sb H v n):sb H' v n:=by obtain⟨p,e,q⟩:=h;exact⟨p,e,s _ _ q⟩
def WA(s:aa H H')(h:Gc H v k):Gc H' v k:=by obtain⟨p,u,g,e,q,a,b⟩:=h;exact nx2 p u g e (s _ _ q) (je s a) (je s b)
def Qe(H H':Hp):Prop:=∀b xs,H b=qN (.tup xs)->H' b=qN (.tup xs)
def jo(s:Qe H H')(h:sb H v n):sb H' v n:=by obtain⟨p,e,q⟩:=h;exact⟨p,e,s _ _ q⟩
def Dg(s:aa H H'):Qe H H':=λb xs e=>s b _ e
def rq(e:H l=qN o)(n:∀xs,o≠.tup xs)(k:∀b u,b≠l->H b=qN u->H' b=qN u):Qe H H':=λb xs q=>k b _ (λz=>by rw[z,e]at q;exact n xs (Ed q)) q
def Qe.trans(a:Qe A B)(b:Qe B C):Qe A C:=λx xs e=>b x xs (a x xs e)
abbrev Cc(H:Hp):List V->List Nk->Prop:=Paired (sb H)
def pe(s:Qe H H')(h:Cc H vs ns):Cc H' vs ns:=Paired.Yb h λ_ _ z=>jo s z
def Sw(s:aa H H')(h:Paired (Gc H) vs g):Paired (Gc H') vs g:=Paired.Yb h λ_ _ z=>WA s z
def BD(H0 H:Hp)(kvs:List (List Key×V))(ns:List Nk)(r:Nk->List Nk):Prop:=
 Paired (λ(q:List Key×V)(n:Nk)=>q.1=kN n/\∃l g,q.2=.ref l/\H0 l=sN/\H l=qN (.lst g)/\Cc H g (r n)) kvs ns/\(kvs.map (·.2)).Nodup
def Se{xs:List α}{bs:List r}{ys:List α}{g:List r}(J:Paired F xs bs)(h:Paired F ys g):Paired F (xs++ys) (bs++g):=by
 induction J with
 |nil=>exact h
 |cons O _ U=>exact .cons O U
def Tw{α:Type}[DecidableEq α](r:∀q n,F q n->q.1=kN n){kvs:List (List Key×V)}{ns:List Nk}{n:Nk}(J:Paired F kvs ns)(h:n∈ns):∃q,q∈kvs/\Ka kvs (kN n)=qN q.2/\F q n:=by
 induction J with
 |nil=>cases h
 |@cons q m _ _ g t O=>
  by_cases e:n=m
  ·subst e;exact⟨q,Vi,by unfold Ka;simp[r _ _ g],g⟩
  ·refine ea8 ?_ (O (by rcases rc.mp h with z|z;exact absurd z e;exact z));rintro U a b c;refine⟨U,Rh _ a,?_,c⟩;unfold Ka at b⊢;rw[Pg,show decide (q.1=kN n)=yN from he λz=>e (io ((r _ _ g).symm.trans z)).symm];exact b
def Uw:∀(g kvs:List (List Key×V)),(g.map (·.1)).Nodup->(∀p∈g,∀q∈kvs,q.1≠p.1)->um kvs g=kvs++g
 |[],kvs,_,_=>(z1h _).symm
 |p::r,kvs,O,U=>by
  obtain⟨a0,Y⟩:=Qg.mp (show(p.1::r.map (·.1)).Nodup from O);have e:Gb kvs p.1 p.2=kvs++[p]:=by
   unfold Gb;rw[na];simp only[Qi,vk,not_exists,not_and];exactλq J=>U p Vi q J
  show um (Gb kvs p.1 p.2) r=_;rw[e,Uw r (kvs++[p]) Y λx b0 q J=>?_,me]
  ·rfl
  grind
def Fa(js:List (Nk×Nk))(n:Nk):List Nk:=(js.filter λp=>decide (p.1=n)).map (·.2)
def IJ(js:List (Nk×Nk))(k:Nk×Nk)(n:Nk):Fa (js++[k]) n=if k.1=n then Fa js n++[k.2]else Fa js n:=by
 unfold Fa
 grind
abbrev Vw(g H:Hp)(D:uN)(y:V)(q:Nk×uN):Prop:=∃t b,y=.ref t/\t≠D/\q.2≠D/\H t=qN (.tup [.ref b,.ref q.2])/\H b=qN (.tup ((kN q.1).map kV))/\g q.2=sN/\H q.2=qN (.lst [])
def CB(r H:Hp)(D:uN)(ys:List V)(g:List (Nk×uN)):Prop:=Paired (Vw r H D) ys g/\(g.map (·.2)).Nodup
def CB.keep(c:CB g H D ys U)(d0:g D=sN)(Y:∀xs,H D≠qN (.tup xs))(k:∀b o,b≠D->H b=qN o->H' b=qN o):CB g H' D ys U:=
 ⟨Paired.Yb c.1 (by rintro _ _;refine ebC ?_;rintro t b e r J a0 O⟨b0,c0⟩;exact nx22 t b e r J (k _ _ r a0) (k _ _ (λz=>Y _ (z▸O)) O) ⟨b0,k _ _ J c0⟩),c.2⟩
def CB.gf{K:W.Frag}{r H:Hp}{ys:List V}{g:List (Nk×uN)}(h:Paired (Vw r H D) ys g):Wj K H ys (g.map λq=>(kN q.1,V.ref q.2)):=by
 induction h with
 |nil=>exact .nil
 |cons J _ O=>
  revert J;refine ebC ?_;rintro t b rfl _ _ U Y⟨_,_⟩;exact Wj.cons (oa.of U) Y O
def XA{ns:List Nk}(h:ns.Nodup):(ns.map kN).Nodup:=Gd.mpr (Oi (λn e=>n (io e)) h)
def CB.bd{H0 r H H':Hp}{D:uN}(s:aa H0 r)(O:∀b xs,b≠D->H b=qN (.lst xs)->H' b=qN (.lst xs)){ys:List V}{g:List (Nk×uN)}(h:Paired (Vw r H D) ys g):Paired (λ(q:List Key×V)(n:Nk)=>q.1=kN n/\∃l J,q.2=.ref l/\H0 l=sN/\H' l=qN (.lst J)/\Cc H' J []) (g.map λq=>(kN q.1,V.ref q.2)) (g.map (·.1)):=by
 induction h with
 |nil=>exact .nil
 |cons U _ Y=>
  revert U;refine ebC ?_;rintro _ _ _ _ a0 _ _⟨b0,c0⟩;exact .cons (⟨rfl,nx6 _ ([]) rfl (s.free b0) (O _ _ a0 c0) (.nil)⟩) Y
inductive JJ(K:W.Frag)(vs:List V)(H:Hp)(Q:VK)(_:XK):Prop|mk(a b:uN)(nv pv:List V)(ns:List Nk)(E:List (Nk×Nk))(_:vs=[.ref a,.ref b])(_:ca K H a nv)(_:Cc H nv ns)(_:ns.Nodup)(_:ns.length<=40)(_:ca K H b pv)(_:Paired (Gc H) pv E)(_:E.length<=1200)(_:(∀k∈E,k.1∈ns/\k.2∈ns))(_:∀d kvs js H',H d=sN->aa H H'->H' d=qN (.dT kvs)->js.Nodup->(∀k,k∈js↔k∈E)->BD H H' kvs ns (Fa js)->Q (.ref d) H')
def YA(s:Qe H H')(h:Gc H v k):Gc H' v k:=by obtain⟨p,u,g,e,q,a,b⟩:=h;exact nx2 p u g e (s _ _ q) (jo s a) (jo s b)
def KJ(s:Qe H H')(h:Paired (Gc H) vs g):Paired (Gc H') vs g:=Paired.Yb h λ_ _ z=>YA s z
abbrev BR(H0 H:Hp)(r:Nk->List Nk)(q:List Key×V)(n:Nk):Prop:=q.1=kN n/\∃l g,q.2=.ref l/\H0 l=sN/\H l=qN (.lst g)/\Cc H g (r n)
def LJ(O:Qe H H')(U:∀b o,b≠Y->H b=qN o->H' b=qN o){kvs:List (List Key×V)}{ns:List Nk}(h:Paired (BR H0 H a0) kvs ns)(g:∀q∈kvs,q.2≠.ref Y)(r:∀n∈ns,b0 n=a0 n):Paired (BR H0 H' b0) kvs ns:=by
 induction h with
 |nil=>exact .nil
 |@cons q n _ _ c0 t d0=>
  obtain⟨e0,l,f0,J,g0,h0,i0⟩:=c0;exact .cons (⟨e0,nx6 l f0 J g0 (U _ _ (λz=>g q Vi (by rw[J,z])) h0) (by rw[r n Vi];exact pe O i0)⟩) (d0 (λq j0=>g q (Rh _ j0)) λn k0=>r n (Rh _ k0))
def MJ{H0 H H':Hp}{g:uN}{O:Nk->List Nk}{k o:Nk}{u:V}{U:List V}(r:Qe H H')(b0:∀b o,b≠g->H b=qN o->H' b=qN o)(h0:H g=qN (.lst U))(i0:H' g=qN (.lst (U++[u])))(j0:sb H u o)
  {kvs:List (List Key×V)}{ns:List Nk}(k0:Paired (BR H0 H O) kvs ns)(l0:ns.Nodup)(m0:(kvs.map (·.2)).Nodup)(v:Ka kvs (kN k)=qN (.ref g)):Paired (BR H0 H' (λn=>if k=n then O n++[o]else O n)) kvs ns:=by
 induction k0 with
 |nil=>exact .nil
 |@cons q n c0 _ n0 t o0=>
  obtain⟨J,l,p0,Y,d0,a0,e0⟩:=n0;obtain⟨q0,r0⟩:=Qg.mp l0;obtain⟨s0,t0⟩:=Qg.mp (show(q.2::c0.map (·.2)).Nodup from m0);by_cases e:k=n
  ·subst e;have f0:q.2=.ref g:=by
    unfold Ka at v;rw[Pg,show decide (q.1=kN k)=wN from Xb J]at v;exact Ed v
   rw[Y]at f0;cases f0;rw[h0]at a0;cases a0;refine .cons (⟨J,nx6 g (U++[u]) Y d0 i0 ?_⟩) (LJ r b0 t (λu0 v0 z=>s0 (by grind)) λm x0=>na λz=>q0 (by simp[*]));dsimp only;rw[va rfl];exact Se (pe r e0) (.cons (jo r j0) .nil)
  ·have g0:Ka c0 (kN k)=qN (.ref g):=by
    unfold Ka at v⊢;rw[Pg,show decide (q.1=kN k)=yN from he λz=>e (io (z.symm.trans J))]at v;exact v
   have w0:l≠g:=λz=>by
    obtain⟨u0,v0,y0⟩:=Jd.mp g0
    grind
   refine .cons (⟨J,nx6 l p0 Y d0 (b0 _ _ w0 a0) ?_⟩) (o0 r0 t0 g0);dsimp only;rw[na e];exact pe r e0
def qd(ns:List Nk)(c:Nk->Int):List (List Key×V):=ns.map λn=>(kN n,V.int (c n))
def NJ(ns:List Nk)(c:Nk->Int):(qd ns c).map (·.1)=ns.map kN:=by unfold qd;rw[Ve];rfl
def sq:∀{ns:List Nk}{n:Nk},n∈ns->Ka (qd ns c) (kN n)=qN (.int (c n))
 |[],n,h=>by cases h
 |m::r,n,h=>by
  unfold qd Ka;rw[Sc,Pg];by_cases e:m=n
  ·simp_all
  ·rw[show decide ((kN m,V.int (c m)).1=kN n)=yN from he λz=>e (io z)];exact sq (by grind)
def ZA(h:n∈ns):Gb (qd ns c) (kN n) (.int z)=qd ns (λm=>if m=n then z else c m):=by
 unfold Gb;rw[va]
 ·unfold qd;rw[Ve];refine List.map_congr_left λm _=>?_
  show(if kN m=kN n then(kN m,V.int z)else(kN m,V.int (c m)))=(kN m,V.int (if m=n then z else c m));by_cases e:m=n
  ·rw[va (by rw[e]),va e]
  ·rw[na λq=>e (io q),na e]
 ·rw[Qi];exact⟨(kN n,.int (c n)),Sa.mpr ⟨n,h,rfl⟩,Xb rfl⟩
abbrev CA(H:Hp)(D:uN)(y:V)(n:Nk):Prop:=∃t b,y=.ref t/\t≠D/\H t=qN (.tup [.ref b,.int 0])/\H b=qN (.tup ((kN n).map kV))
def OJ{K:W.Frag}{H:Hp}{D:uN}{ys:List V}{ns:List Nk}(h:Paired (CA H D) ys ns):Wj K H ys (qd ns λ_=>0):=by
 induction h with
 |nil=>exact .nil
 |cons g _ r=>
  revert g;refine eaC ?_;rintro t b rfl _ J O;exact Wj.cons (oa.of J) O r
def Wa(os:List Nk)(n:Nk):Int:=((os.count n:Nat):Int)
def Ww(os:List Nk)(o:Nk):(λm=>if m=o then Wa os o+1 else Wa os m)=Wa (os++[o]):=by
 funext m;unfold Wa
 grind
inductive PJ(K:W.Frag)(vs:List V)(H:Hp)(Q:VK)(E:XK):Prop|mk(d:uN)(kvs:List (List Key×V))(ns:List Nk)(bh:Nk->List Nk)(_:vs=[.ref d])(_:Rd H d (.dT kvs))(_:Paired (BR (λ_=>sN) H bh) kvs ns)(_:ns.Nodup)(_:ns.length<=40)(_:(∀n∈ns,∀o∈bh n,o∈ns))(_:∀p ob H',H p=sN->(∀b o,b≠d->H b=qN o->H' b=qN o)->H' d=qN (.Hb ob (.dT kvs))->H' p=qN (.dT (qd ns (Wa (ns.flatMap bh))))->Q (.ref p) H')
structure Ord(js:List (Nk×Nk))(ns L fs:List Nk)(n:Nat):Prop where
 nd:L.Nodup
 sub:∀x∈L,x∈ns
 len:n+L.length=ns.length
 qm:fs.Nodup
 fm:∀x,x∈fs↔x∈L/\x∉L.flatMap (Fa js)
 past:∀y∈ns,y∉L->y∉L.flatMap (Fa js)
 up:∃f:Nk->Nat,(∀y∈ns,y∉L->f y<n)/\∀k∈js,k.2∉L->f k.1<f k.2
def ml:y∈Fa js m↔(m,y)∈js:=by
 unfold Fa;rw[Sa];constructor
 ·(intros;simp_all)
 ·intro h;exact⟨(m,y),Ze.mpr ⟨h,Xb rfl⟩,rfl⟩
def ko{os:List Nk}:Wa os y=0↔y∉os:=by
 unfold Wa;rw[Int.natCast_eq_zero,List.count_eq_zero]
def Xw(g:js.Nodup)(m:Nk):(Fa js m).Nodup:=by
 refine Gd.mpr (Sq (λ{a b}r J n e=>n ?_) (g.filter _))
 grind
def Yw{L:List Nk}(g:js.Nodup)(r:x∈L)(y:Nk):Wa (L.flatMap (Fa js)) y=(if y∈Fa js x then 1 else 0)+Wa ((L.erase x).flatMap (Fa js)) y:=by
 have p:(L.flatMap (Fa js)).Perm (Fa js x++(L.erase x).flatMap (Fa js)):=by
  have:=(List.perm_cons_erase r).flatMap_right (Fa js);exact this
 unfold Wa;rw[p.count_eq,List.count_append];by_cases h:y∈Fa js x
 ·rw[va h,(Xw g x).count,va h];simp_all
 grind
def QJ{os:List Nk}:0<Wa os y↔y∈os:=by
 have:=ko (os:=os) (y:=y);have g:0<=Wa os y:=Int.natCast_nonneg _
 lia
def Ord.step{js:List (Nk×Nk)}{ns L fs:List Nk}{n:Nat}(o:Ord js ns L fs n)(U:js.Nodup)(Y:∀k∈js,k.1∈ns/\k.2∈ns)(e0:x∈fs):
  Ord js ns (L.erase x) (fs.erase x++(Fa js x).filter λy=>decide (Wa (L.flatMap (Fa js)) y=1)) (n+1):=by
 obtain⟨r,a0⟩:=(o.fm x).mp e0;have i0:=λz=>a0 (Xe.mpr ⟨x,r,z⟩)
 have j0:∀os y,0<=Wa os y:=λos y=>Int.natCast_nonneg _
 have k0:=λy g=>Og λz=>o.past y (Y _ (ml.mp g)).2 z (Xe.mpr ⟨x,r,g⟩)
 refine⟨o.nd.erase x,λy g=>o.sub y (List.mem_of_mem_erase g),?_,?_,λy=>?_,λy g l0 z=>?_,?_⟩
 ·have:=o.len
  grind
 ·refine Hl.mpr ⟨o.qm.erase x,(Xw U x).filter _,λy g z hz e=>?_⟩;subst e;have f0:=((o.fm y).mp (List.mem_of_mem_erase g)).2
  grind
 ·have ct:=Yw U r y;rw[fc,Ze,vk,List.Nodup.mem_erase_iff o.qm,o.fm,List.Nodup.mem_erase_iff o.nd,<-ko,<-ko]
  grind
 ·have ct:=Yw U r y;have m0:=QJ.mpr z;by_cases g0:y∈L
  ·grind
  ·have f0:=ko.mpr (o.past y g g0);lia
 ·refine ea1 ?_ o.up;rintro f b0 h0;have c0:=λ{y:Nk}(h:y∉L.erase x)(e:y≠x)(z:y∈L)=>h ((List.mem_erase_of_ne e).mpr z)
  refine⟨λy=>if y=x then n else f y,λy g h=>?_,λk J h=>?_⟩
  ·by_cases e:y=x
   ·simp[e]
   ·have:=b0 y g (c0 h e);simp only[na e];lia
  ·by_cases e:k.2=x
   ·have O:k.1∉L:=λz=>a0 (Xe.mpr ⟨k.1,z,ml.mpr (by rw[<-e];exact J)⟩)
    have:=b0 _ (Y k J).1 O;simp only[va e,na (show k.1≠x fromλz=>O (z▸r))];exact this
   ·have d0:=c0 h e;have O:k.1≠x:=λz=>o.past _ (Y k J).2 d0 (Xe.mpr ⟨x,r,ml.mpr (by rw[<-z];exact J)⟩)
    simp only[na e,na O];exact h0 k J d0
def aB:∀{fs:List Nk},k∈fs->∃j,fs[j]?=qN k/\(∀i,i<j->fs[i]?≠qN k)/\fs.eraseIdx j=fs.erase k
 |[],h=>by cases h
 |x::r,h=>by
  by_cases e:x=k
  ·exact⟨0,by rw[e];rfl,λi g=>absurd g (Nat.not_lt_zero _),by rw[e];simp⟩
  ·refine ea8 ?_ (aB (by rcases rc.mp h with z|z;exact absurd z.symm e;exact z));rintro j a b c;refine⟨j+1,by simpa using a,λi g=>?_,?_⟩
   ·cases i with
    |zero=>simpa using e
    |succ i=>simpa using b i (by lia)
   simp_all
def bB:∀{xs:List α}{bs:List r},Paired F xs bs->∀j,Paired F (xs.eraseIdx j) (bs.eraseIdx j)
 |_,_,.nil,_=>.nil
 |_,_,.cons _ t,0=>t
 |_,_,.cons g t,j+1=>.cons g (bB t j)
inductive Wk(E:List (Nk×Nk)):Nat->Nk->Nk->Prop
 |nil(n:Nk):Wk E 0 n n
 |snoc{k:Nat}{n m y:Nk}:Wk E k n m->(m,y)∈E->Wk E (k+1) n y
def Wk.cons{E:List (Nk×Nk)}{k:Nat}{a n y:Nk}(h:(a,n)∈E)(w:Wk E k n y):Wk E (k+1) a y:=by
 induction w with
 |nil=>exact .snoc (.nil _) h
 |snoc _ e g=>exact .snoc (g h) e
inductive RJ(K:W.Frag)(vs:List V)(H:Hp)(Q:VK)(_:XK):Prop|mk(a b:uN)(nv pv:List V)(ns:List Nk)(E:List (Nk×Nk))(_:vs=[.ref a,.ref b])(_:ca K H a nv)(_:Cc H nv ns)(_:ns.Nodup)(_:ns.length<=40)(_:ca K H b pv)(_:Paired (Gc H) pv E)(_:E.length<=1200)(_:(∀k∈E,k.1∈ns/\k.2∈ns))(_:(∀n∈ns,∀k,Wk E (k+1) n n->∀H',aa H H'->Q .Ra H'))(_:∀o ov H' (f:Nk->Nat),(∀k∈E,f k.1<f k.2)->H o=sN->aa H H'->H' o=qN (.lst ov)->Q (.ref o) H')
abbrev Pr:=Int×Int
abbrev Lk:=List Pr
abbrev Dl:=Int×Str×List Lk
abbrev pb:=Int×List Int
abbrev Ps:=List Dl×List pb
def Zw(p:Pr):MN:=.tuple [.int p.1,.int p.2]
def oo(l:Lk):MN:=.list (l.map Zw)
def ee(d:Dl):MN:=.tuple [.int d.1,.str d.2.1,.list (d.2.2.map oo)]
def qe(m:pb):MN:=.tuple [.int m.1,.list (m.2.map PyData.int)]
def Ih(p:Ps):MN:=.tuple [.list (p.1.map ee),.list (p.2.map qe)]
def qo{α g:Type}(f:α->g):∀l:List α,l.filterMap (λj=>qN (f j))=l.map f
 |[]=>rfl
 |x::r=>by
  rw[wh,qo f r];rfl
def Rf:List Str:=["loose","kept","make","watch","hold"]
def nl(ms:List pb)(k:Int):Nat:=(ms.map (·.1)).idxOf k
def kb(ms:List pb)(k:Int):List Int:=((ms[nl ms k]?).map (·.2)).getD []
def SJ{ms:List pb}{k:Int}(h:k∈ms.map (·.1)):nl ms k<ms.length:=by
 have:=pu.mpr h;rwa[ua]at this
def ro{ms:List pb}{k:Int}(h:k∈ms.map (·.1)):ms[nl ms k]?=qN (k,kb ms k):=by
 have g:=SJ h;unfold kb;rw[Wb g];have r:(ms.map (·.1))[nl ms k]'(by rw[ua];exact g)=k:=Mh _
 grind
def ax{ms:List pb}{k:Int}(h:k∉ms.map (·.1)):kb ms k=[]:=by
 unfold kb;rw[List.getElem?_eq_none (by have:=List.idxOf_eq_length h;unfold nl;grind)];rfl
section
variable{P:zN}{w:AN}{K:W.Frag}{mg:Str->Option rN}{base:EN}
--@La
def TJ{E:List (Nk×Nk)}(r:L≠[])(h:∀x∈L,∃y∈L,(y,x)∈E):∃n∈L,∃k,Wk E (k+1) n n:=by
 obtain⟨J,O⟩:=List.exists_mem_of_ne_nil L r;have g:∀x:{x//x∈L},∃y:{x//x∈L},(y.1,x.1)∈E:=λx=>let⟨y,a,b⟩:=h x.1 x.2;⟨⟨y,a⟩,b⟩
 obtain⟨U,g⟩:=Classical.axiomOfChoice g;let s:Nat->{x//x∈L}:=λi=>Nat.rec ⟨J,O⟩ (λ_ x=>U x) i
 have Y:∀i d,Wk E d (s (i+d)).1 (s i).1:=λi d=>by
  induction d with
  |zero=>exact .nil _
  |succ d a0=>exact Wk.cons (g (s (i+d))) a0
 refine Og λb0=>?_
 have inj:∀i j,i<j->(s i).1≠(s j).1:=λi j e0 e=>b0 (nx11 ((s i).1) ((s i).2) (j-i-1) (by
  have:=Y i (j-i);rw[show i+(j-i)=j by grind]at this;rw[<-e]at this;rw[show j-i-1+1=j-i by grind];exact this))
 have c0:((List.range (L.length+1)).map λi=>(s i).1).Nodup:=Gd.mpr (Oi (λh=>inj _ _ h) Ll);have:=zg c0 λx d0=>by
  obtain⟨i,_,rfl⟩:=Sa.mp d0;exact(s i).2
 grind
def UJ(h:xs[xs.length-1]?=qN v):Lf xs (-1)=qN v:=by
 have g:=(rb.mp h).1;unfold Lf bj;rw[na (by decide),va (by lia)];have e:(-1+(xs.length:Int)).toNat=xs.length-1:=by grind
 simpa[e]using h
def FD(H:Hp)(kvs:List (List Key×V))(ns:List Nk)(W:Nk->List Nk):Prop:=Paired (λ(q:List Key×V)(n:Nk)=>q.1=kN n/\∃l g,q.2=.ref l/\H l=qN (.lst g)/\Cc H g (W n)) kvs ns
def BD.fd{W:Nk->List Nk}(h:BD H0 H kvs ns W):FD H kvs ns W:=Paired.Yb h.1 (by rintro _ _⟨e,l,g,r,_,J,O⟩;exact⟨e,nx0 l g r J O⟩)
def FD.same{W:Nk->List Nk}(h:FD H kvs ns W)(s:aa H H'):FD H' kvs ns W:=Paired.Yb h (by rintro _ _;refine eb7 ?_;rintro e l g r J O;exact⟨e,nx0 l g r (s _ _ J) (pe (Dg s) O)⟩)
def FD.get{W:Nk->List Nk}(h:FD H kvs ns W)(r:n∈ns):∃l g,Ka kvs (kN n)=qN (.ref l)/\H l=qN (.lst g)/\Cc H g (W n):=by
 refine ea8 ?_ (Tw (α:=Nat) (λ_ _ z=>z.1) h r);rintro q _ v;refine eb7 ?_;rintro _ l g e J O;exact nx0 l g (by rw[v,e]) J O
def Bm(c:List Nk):List (Nk×Nk):=c.zip (c.drop 1++c.take 1)
inductive so(E:List (Nk×Nk))(st:Nk):Nat->List Nk->Nk->Prop
 |one:so E st 0 [st] st
 |snoc{n:Nat}{c:List Nk}{x o:Nk}:so E st n c x->(x,o)∈E->so E st (n+1) (c++[o]) o
def so.all{E:List (Nk×Nk)}{st x:Nk}{n:Nat}{c:List Nk}(h:so E st n c x):c.length=n+1/\c[n]?=qN x/\c.take 1=[st]/\∀o,(x,o)∈E->∀k∈c.zip (c.drop 1++[o]),k∈E:=by
 induction h with
 |one=>exact⟨rfl,rfl,rfl,λo h k g=>by simp at g;rw[g];exact h⟩
 |snoc h e r=>
  revert r;refine eb4 ?_;rintro l a b d;refine⟨by simp[l],by rw[<-l];simp,by rw[List.take_append_of_le_length (by simp_all)];exact b,λo J k g=>?_⟩;rw[List.drop_append_of_le_length (by lia),List.zip_append (by simp;simp_all)]at g;rcases fc.mp g with z|z
  ·exact d _ e k z
  ·simp at z;rw[z];exact J
structure Sr(E:List (Nk×Nk))(U:List Nk)(st:Nk)(old met fr:List Nk):Prop where
 nd:met.Nodup
 cB:∀x∈met,x∈U
 s0:st∈old\/st∈fr
 no:∀x∈old,(x,st)∉E/\∀o,(x,o)∈E->o∈met
 VJ:∀x∈met,x∈old\/x∈fr
 WJ:∀x∈fr,x∈U
section
variable{E:List (Nk×Nk)}{U old met fr:List Nk}{st:Nk}
def Sr.add{z:Nk}(h:Sr E U st old met fr)(g:z∈U)(hz:z∉met):Sr E U st old (met++[z]) (fr++[z]):=by
 obtain⟨r,J,O,Y,a0,b0⟩:=h;constructor<;>grind
def Sr.done{x:Nk}(h:Sr E U st old met (x::fr))(g:(x,st)∉E)(r:∀o,(x,o)∈E->o∈met):Sr E U st (old++[x]) met fr:=by
 obtain⟨J,O,Y,a0,b0,c0⟩:=h;constructor<;>grind
def Sr.nil(h:Sr E U st old met []){k:Nat}(w:Wk E (k+1) st st):False:=by
 have all:∀{n a y},Wk E n a y->a=st->y∈old:=λ{n a y}w e=>by
  induction w with
  |nil=>exact h.s0.elim (λz=>e▸z) λz=>by cases z
  |snoc _ q g=>exact(h.VJ _ ((h.no _ (g e)).2 _ q)).elim id λz=>by cases z
 cases w with
 |snoc w e=>exact(h.no _ (all w rfl)).1 e
end
abbrev CR(E:List (Nk×Nk))(st:Nk)(n:Nat)(H0 H:Hp)(v:V)(x:Nk):Prop:=∃l g c,v=.ref l/\H0 l=sN/\H l=qN (.lst g)/\Cc H g c/\so E st n c x
section
variable{E:List (Nk×Nk)}{st:Nk}{n:Nat}{H0 H H':Hp}{vs:List V}{xs:List Nk}
def bx(g:Qe H H')(h:Paired (CR E st n H0 H) vs xs)(k:∀l ys,V.ref l∈vs->H l=qN (.lst ys)->H' l=qN (.lst ys)):Paired (CR E st n H0 H') vs xs:=by
 induction h with
 |nil=>exact .nil
 |cons r _ J=>
  revert r;refine ea2 ?_;rintro l O c U Y a0 b0 c0;exact .cons (nx8 l O c U Y (k _ _ (by simp_all) a0) (pe g b0) c0) (J λl ys h=>k l ys (Rh _ h))
def cx(h:Paired (CR E st n H0 H) vs xs)(s:aa H H'):Paired (CR E st n H0 H') vs xs:=bx (Dg s) h λ_ _ _ e=>s _ _ e
def XJ(h:Paired (CR E st n H0 H) vs xs)(m:V.ref l∈vs):∃ys,H l=qN (.lst ys):=by
 obtain⟨i,g⟩:=Hd.mp m;refine ea1 ?_ (Lb h g);rintro _ _;refine ea5 ?_;rintro r J _ e _ O _
 simp_all
end
def Fg(g:List Nk):List (List Key×V):=g.map λo=>(kN o,V.bl wN)
def YJ(g:List Nk):(Fg g).length=g.length:=ua ..
def dB(g:List Nk)(o:Nk):(Ka (Fg g) (kN o)).isSome=decide (o∈g):=by
 induction g with
 |nil=>rfl
 |cons m J r=>
  unfold Fg Ka at r⊢;rw[Sc,Pg];by_cases e:m=o
  ·subst e;simp
  ·rw[show decide ((kN m,V.bl wN).1=kN o)=yN from he λz=>e (io z)]
   grind
def ZJ(h:o∉g):Gb (Fg g) (kN o) (V.bl wN)=Fg (g++[o]):=by
 unfold Gb;rw[na (by rw[yr,dB,he h];decide)];unfold Fg
 simp_all
inductive aK(vs:List V)(H:Hp)(Q:VK)(_:XK):Prop|mk(d:uN)(kvs:List (List Key×V))(W:Nk->List Nk)(U:List Nk)(E:List (Nk×Nk))(st:Nk)(v:V)(_:vs=[.ref d,v])(_:H d=qN (.dT kvs))(_:FD H kvs U W)(_:U.length<=40)(_:(∀x y,y∈W x↔(x,y)∈E))(_:(∀k∈E,k.2∈U))(_:sb H v st)(_:st∈U)(_:((∀k,¬Wk E (k+1) st st)->∀H',aa H H'->Q .Ra H'))(_:∀c p ws H',(∀k∈Bm c,k∈E)->c.length<=43->H p=sN->aa H H'->H' p=qN (.lst ws)->Cc H' ws c->Q (.ref p) H')
def bK{α g:Type}{F G:α->g->Prop}{xs:List α}{ys:List g}(h:Paired F xs ys)(k:∀x y,x∈xs->F x y->G x y):Paired G xs ys:=by
 induction h with
 |nil=>exact .nil
 |cons r _ J=>exact .cons (k _ _ (.head _) r) (J λx y O=>k x y (.tail _ O))
abbrev eB(E:List (Nk×Nk))(H0 H:Hp)(v:V):Prop:=∃c l g,(∀k∈Bm c,k∈E)/\c.length<=43/\v=.ref l/\H0 l=sN/\H l=qN (.lst g)/\Cc H g c
abbrev OR(E:List (Nk×Nk))(H0 H:Hp)(v:V)(n:Nk):Prop:=((∀k,¬Wk E (k+1) n n)/\v=.Ra)\/eB E H0 H v
def cK{α g:Type}{R:α->g->Prop}{xs:List α}(h:∀x∈xs,∃y,R x y):∃ys,Paired R xs ys:=by
 induction xs with
 |nil=>exact⟨[],.nil⟩
 |cons x U r=>
  obtain⟨y,J⟩:=h x (.head _);obtain⟨ys,O⟩:=r λz hz=>h z (.tail _ hz)
  exact⟨y::ys,.cons J O⟩
def fx{E:List (Nk×Nk)}(r:Qe H H'){v:V}{n:Nk}(h:OR E H0 H v n)(k:∀l xs,v=.ref l->H l=qN (.lst xs)->H' l=qN (.lst xs)):OR E H0 H' v n:=h.imp id (by refine ec8 ?_;rintro c l J O U g Y a0 b0;exact nx8 c l J O U g Y ⟨k _ _ g a0,pe r b0⟩)
inductive eK(K:W.Frag)(vs:List V)(H:Hp)(Q:VK)(_:XK):Prop|mk(a b:uN)(nv pv:List V)(ns:List Nk)(E:List (Nk×Nk))(_:vs=[.ref a,.ref b])(_:ca K H a nv)(_:Cc H nv ns)(_:ns.Nodup)(_:ns.length<=40)(_:ca K H b pv)(_:Paired (Gc H) pv E)(_:E.length<=1200)(_:(∀k∈E,k.1∈ns/\k.2∈ns))(_:((∀n∈ns,∀k,¬Wk E (k+1) n n)->∀H',aa H H'->Q .Ra H'))(_:∀c p ws H',(∀k∈Bm c,k∈E)->c.length<=43->H p=sN->aa H H'->H' p=qN (.lst ws)->Cc H' ws c->Q (.ref p) H')
def fB(T:Tx K mg):T.Us.Ok P w base 1 (JJ K):=by
 refine Ua T.Us.F λH _ _ _ t0 h=>?_
 ·obtain⟨a,b,c0,d1,ns,e1,rfl,n0,J0,K0,Ab,f1,L0,K1,g1,q⟩:=h;have h1:=kc t0;refine⟨_,(pa (Ma 2 (aj (cA (K:=K) (qi t0.units) rfl rfl) (by rfl) T.ak Bj (Ca (Ud ["node"] [] [] (Za (pv 0)) (bc 0) Ie (Rb (ka (pv 0) (Ca (jc Oc))))))))
   (pa (Jb Db rfl (Za (YI (K:=K) t0.units rfl rfl rfl T.Am rfl T.SA (za 1))) (Jf rfl (Ub (bb 3) (Ub (bb 4) ve)))
   (ma (Nd (Xc jd ph vh Bh (Mc h1 (pv 2) (pv 3)) (za 4)))))
   (ma (Ga (pv 2))))),?_⟩
  show let i1:TS:=_;let j1:TS:=qa (Qb _ _ _) i1;qa _ j1 _ _ _
  intros;have k1:=Ta J0;refine⟨_,rfl,a,rfl,⟨_,n0⟩,λD u0=>⟨λi m ys M0 U=>m=c0.length-i/\i<=c0.length/\(∃t,M0=[t])/\aa H U/\U D=qN (.lst ys)/\∃g:List (Nk×uN),CB H U D ys g/\g.map (·.1)=ns.take i,⟨_,rfl,Va _,⟨sN,rfl⟩,aa.upd u0,ia,[],⟨.nil,List.nodup_nil⟩,rfl⟩,?_⟩⟩;rintro i m ys M0 U;refine ea6 ?_;rintro rfl L1⟨t,rfl⟩Y J;refine ea1 ?_;rintro g cb eq;have l1:ys.length=i:=by
   have v0:=Ta cb.1;have d0:=Vb List.length eq;rw[ua,se]at d0;simp_all
  refine⟨J,?_⟩;by_cases w0:i<c0.length
  ·refine .inr ⟨(Pd (Y.seq n0)).go i w0,by have:vN=2^24:=rfl;lia,?_⟩;rintro v H' ⟨rfl,m1⟩;refine ea1 ?_ (Lb J0 (m1 c0 (Y.seq n0)));rintro n n1 o1;refine ea1 ?_ (jl (je Y o1));rintro N0 rfl o0;refine⟨_,rfl,(by decide),λl r=>⟨Ha,λe0 a0=>⟨?_,c0.length-(i+1),by grind,rfl,w0,⟨_,rfl⟩,?_,ia,g++[(n,l)],?_,?_⟩⟩⟩
   ·rw[ja (λz=>by rw[<-z,ja (λx0=>by rw[<-x0,J]at r;cases r)]at a0;rw[J]at a0;cases a0),ja (λz=>by rw[<-z,J]at r;cases r)];exact J
   ·exact(Y.trans (aa.upd r)).trans (aa.upd a0)|>.again u0
   ·have y0:l≠D:=Pc r J;have O0:e0≠D:=λz=>by rw[z,ja (lc y0),J]at a0;cases a0
    have p1:e0≠l:=Pc a0 ia;have P0:∀b o,b≠D->H' b=qN o->upd (upd (upd H' l (.lst [])) e0 (.tup [.ref N0,.ref l])) D (.lst (ys++[.ref e0])) b=qN o:=λb o r1 e=>by
     rw[ja r1,ja (λz=>by rw[<-z,ja (λx0=>by rw[<-x0,e]at r;cases r),e]at a0;cases a0),ja (λz=>by rw[<-z,e]at r;cases r)];exact e
    refine⟨Se (cb.keep u0 (λxs z=>by rw[J]at z;cases z) P0).1 (.cons (nx22 e0 N0 rfl O0 y0 ?_ (P0 _ _ (Pc o0 J) o0) ⟨Y.free r,?_⟩) .nil),?_⟩
    ·rw[ja O0];exact ia
    ·rw[ja y0,ja (lc p1)];exact ia
    ·rw[Qd];refine Hl.mpr ⟨cb.2,Qg.mpr ⟨by simp,List.nodup_nil⟩,λx f0 y M1 e=>?_⟩;obtain⟨N1,s1,rfl⟩:=Sa.mp f0;obtain⟨j,z0⟩:=Hd.mp s1;obtain⟨_,_,_,_,_,_,_,_,_,_,O1⟩:=Kv cb.1 z0
     simp_all
   ·rw[Qd,eq,gc,n1];rfl
  ·have Q0:i=c0.length:=by grind
   refine .inl ⟨(Pd (Y.seq n0)).stop _ (by simp_all),?_⟩;have p0:g.map (·.1)=ns:=by rw[eq,Q0,k1,vc]
   have t1:g.length=ns.length:=by rw[<-p0,ua]
   refine nx8 D ys _ rfl J (CB.gf cb.1) (by rw[ua];lia) λd g0=>?_;have R0:((g.map λq=>(kN q.1,V.ref q.2)).map (·.1)).Nodup:=by
    rw[Ve,show((λx:List Key×V=>x.1)∘λq:Nk×uN=>(kN q.1,V.ref q.2))=kN∘(λq:Nk×uN=>q.1)from rfl,<-Ve,p0];exact XA K0
   rw[Uw _ [] R0 (λ_ _ _ z=>by cases z),So];have u1:d≠D:=Pc g0 J;have q0:aa H (upd U d (.dT (g.map λq=>(kN q.1,V.ref q.2)))):=Y.trans (aa.upd g0);have h0:BD H (upd U d (.dT (g.map λq=>(kN q.1,V.ref q.2)))) (g.map λq=>(kN q.1,V.ref q.2)) ns (Fa []):=by
    refine⟨?_,?_⟩
    ·have:=CB.bd (H0:=H) (H':=upd U d (.dT (g.map λq=>(kN q.1,V.ref q.2)))) (aa.refl H) (λb xs _ e=>aa.upd g0 _ _ e) cb.1;rw[p0]at this;exact this
    ·rw[Ve];exact Gd.mpr (Oi (λn e=>n (by injection e)) (Gd.mp cb.2))
   have v1:H d=sN:=Y.free g0;have A0:upd U d (.dT (g.map λq=>(kN q.1,V.ref q.2))) d=qN (.dT (g.map λq=>(kN q.1,V.ref q.2))):=ia;generalize upd U d (.dT (g.map λq=>(kN q.1,V.ref q.2)))=P1 at q0 h0 A0;generalize(g.map λq=>(kN q.1,V.ref q.2))=kvs at h0 A0;clear cb eq p0 R0 J Y g0 u1 t1 l1 w0 Q0;refine⟨_,rfl,b,d1,e1,rfl,q0.seq f1,Sw q0 L0,by rw[Ta L0];lia,λl i0 js r w1 S0 B0=>?_⟩;have j0:=aa.upd (o:=HO.lst i0) r;have x1:V.ref l∉kvs.map (·.2):=λz=>by
    obtain⟨y1,z1,Q1⟩:=Sa.mp z;obtain⟨j,z0⟩:=Hd.mp z1;obtain⟨R1,_,_,T0,S1,d0,_,U0,_⟩:=Lb h0.1 z0
    simp_all
   refine⟨l,rfl,⟨_,ca.of ia⟩,nc (K:=K) (a:=l) (xs:=i0) (λi r0 O=>∃C0 D0:Option V,r0=[qN (.ref a),qN (.ref b),qN (.ref d),C0,D0]/\aa H O/\O d=qN (.dT kvs)/\O l=qN (.lst i0)/\Paired (Gc O) i0 js/\BD H O kvs ns (Fa (js.take i)))
    (nx22 sN sN rfl (q0.trans j0) (j0 _ _ A0) ia (Sw j0 w1) ?_) (by rintro i r0 O _⟨_,_,_,_,_,h,_⟩;exact ca.of h) ?_ ?_⟩
   ·exact⟨Paired.Yb h0.1 (by rintro _ _⟨v0,T0,F0,d0,V0,U0,A1⟩;exact⟨v0,nx6 T0 F0 d0 V0 (j0 _ _ U0) (pe (Dg j0) A1)⟩),h0.2⟩
   ·rintro i x r0 O f0;refine ebC ?_;rintro C0 D0 rfl G0 k0 W0 s0 b0;refine ea1 ?_ (Lb s0 f0);rintro k ek B1;revert B1;refine ea5 ?_;rintro p u X0 rfl ep C1 D1;obtain⟨E1,T1⟩:=g1 k ((B0 k).mp (Xa ek));refine ec0 ?_ (Tw (α:=Nat) (λ_ _ z=>z.1) b0.1 E1);rintro y1 U1 Y0 V1 I0 F0 Z0 F1 l0 G1;refine ea1 ?_ (jl C1);rintro a1 rfl H1;refine nx9 p ([V.ref a1,X0]) rfl (oa.of ep) rfl _ _ rfl _ _ rfl rfl ?_;refine⟨_,rfl,_,rfl,d,.ref I0,rfl,.inr (nx2 kvs (kN k.1) a1 (.inl k0) rfl H1 (by rw[Y0,Z0])),Or.inl ⟨rfl,_,ca.of l0⟩,_,rfl,I0,F0,X0,rfl,rfl,l0,?_,λb1 I1 m0=>?_⟩
    ·have v0:=Ta G1;have d0:(Fa (js.take i) k.1).length<=(js.take i).length:=by unfold Fa;rw[ua];exact Hi _ _
     have V0:=zg S0 λx f0=>(B0 x).mp f0
     rw[se]at d0;have:vN=2^24:=rfl;grind
    have c1:Qe O b1:=rq l0 (λxs z=>by cases z) m0;have J1:l≠I0:=λz=>x1 (by grind)
    refine nx22 _ _ rfl (λb o e=>m0 b o (Pc e F1) (G0 b o e)) (m0 _ _ (Pc k0 l0) k0) (m0 _ _ J1 W0) (KJ c1 s0) ⟨?_,b0.2⟩;have:=MJ c1 m0 l0 I1 D1 b0.1 K0 b0.2 (by rw[Y0,Z0]);refine Paired.Yb this λq n z=>?_
    rw[gc,ek];show BR H b1 (Fa (js.take i++[k])) q n;have o0:Fa (js.take i++[k]) n=if k.1=n then Fa (js.take i) n++[k.2]else Fa (js.take i) n:=IJ _ _ _
    unfold BR;rw[o0];exact z
   ·rintro r0 O;refine ebC ?_;rintro C0 D0 rfl G0 k0 W0 s0 b0;rw[show i0.length=js.length from Ta s0,vc]at b0;exact⟨_,rfl,q d kvs js O v1 G0 k0 S0 B0 b0⟩
def fK(T:Tx K mg):T.fw.Ok P w base 1 (PJ K):=by
 refine Ua T.fw.F λH _ _ _ B0 h=>?_
 ·obtain⟨d,kvs,ns,Y,rfl,p0,q0,T0,Ab,U0,q⟩:=h;have V0:=kc B0;refine⟨_,(pa (Ma 1 (aj (cA (K:=K) (qi B0.units) rfl rfl) (by rfl) T.ak Bj (Ca (Ud ["node"] [] [] (wH (pv 0)) (bc 0) Ie (Rb (ka (pv 0) (Ca la)))))))
   (pa (Jb Db rfl (yH (pv 0)) (bb 2)
   (ma (Jb Db rfl (Za (pv 2)) (bb 3)
   (ma (Cy V0 (pv 1) (pv 3) la PD (λ_ _ _=>rfl))))))
   (ma (Ga (pv 1))))),?_⟩
  show let W0:TS:=_;let X0:TS:=qa (Qb _ _ (Qb _ _ _)) W0;qa _ X0 _ _ _
  intros;have lk:=Ta q0;refine⟨_,rfl,d,kvs,rfl,p0,λob Y0 hz C0 Z0 D r0=>⟨λi m ys D0 a0=>m=kvs.length-i/\i<=kvs.length/\(∃t,D0=[t])/\aa Y0 a0/\a0 D=qN (.lst ys)/\Paired (CA a0 D) ys (ns.take i),⟨_,rfl,Va _,⟨sN,rfl⟩,aa.upd r0,ia,.nil⟩,?_⟩⟩;rintro i m ys D0 a0;refine ea6 ?_;rintro rfl s1⟨t,rfl⟩O d0 e0;have a1:ys.length=i:=by
   have i0:=Ta e0;rw[se]at i0;simp_all
  refine⟨d0,?_⟩;by_cases s0:i<kvs.length
  ·refine .inr ⟨⟨O _ _ hz,s0⟩,by have:vN=2^24:=rfl;lia,?_⟩;rintro v H';refine ebG ?_;rintro rfl k x b ek rfl F0;obtain⟨n,j0,i0,_⟩:=Lb q0 ek;cases(i0);refine⟨_,rfl,Ha,λk0 l0=>⟨?_,kvs.length-(i+1),by grind,rfl,s0,⟨_,rfl⟩,(O.trans (aa.upd l0)).again r0,ia,?_⟩⟩
   ·exact aa.upd l0 _ _ d0
   ·have G0:k0≠D:=Pc l0 d0;have f0:∀g o,g≠D->H' g=qN o->upd (upd H' k0 (.tup [.ref b,.int 0])) D (.lst (ys++[.ref k0])) g=qN o:=λg o J e=>by
     rw[ja J];exact aa.upd l0 _ _ e
    have I0:∀{g:uN}{xs:List V},H' g=qN (.tup xs)->g≠D:=λe z=>by simp_all
    rw[gc,j0];refine Se (Paired.Yb e0 (by rintro _ _;refine eaC ?_;rintro t g e J0 b1 K0;exact nx6 t g e J0 (f0 _ _ J0 b1) (f0 _ _ (I0 K0) K0))) (.cons (nx6 k0 b rfl G0 ?_ (f0 _ _ (I0 F0) F0)) .nil);rw[ja G0];exact ia
  ·have t0:i=kvs.length:=by grind
   refine .inl ⟨⟨O _ _ hz,t0⟩,?_⟩;have L0:Paired (CA a0 D) ys ns:=by rw[t0,lk,vc]at e0;exact e0
   refine nx8 D ys _ rfl d0 (OJ L0) (by unfold qd;rw[ua];lia) λp m0=>?_;rw[Uw _ [] (by rw[NJ];exact XA T0) (λ_ _ _ z=>by cases z),So];have u0:=O.trans (aa.upd (o:=HO.dT (qd ns λ_=>0)) m0);have M0:H p=sN:=by
    have:=O.free m0;cases e:H p with
    |none=>rfl
    |some o=>
     grind
   have N0:p≠d:=Pc m0 (O _ _ hz);have c1:=λb o J e=>u0 _ _ (C0 b o J e)
   have d1:=u0 _ _ hz;have e1:upd a0 p (.dT (qd ns λ_=>0)) p=qN (.dT (qd ns λ_=>0)):=ia;clear u0 e0 L0 d0 O C0 Z0 hz r0 m0 a1 t0 s0;refine⟨_,rfl,d,kvs,rfl,.inr ⟨ob,d1⟩,λv0 t1 f1 O0 _=>?_⟩;have f0:=λb o J e=>O0 b o J (c1 b o J e)
   have g1:=O0 _ _ N0 e1;refine zH (λi r U=>∃w0 g0:Option V,r=[qN (.ref d),qN (.ref p),w0,g0]/\(∀b o,b≠d->H b=qN o->U b=qN o)/\U d=qN (.Hb v0 (.dT kvs))/\U p=qN (.dT (qd ns (Wa ((ns.take i).flatMap Y))))) (nx6 sN sN rfl f0 f1 g1) (by rintro i r U;refine eaC ?_;rintro _ _ _ _ h _;exact h) ?_ ?_
   ·rintro i k x r U h1;refine eaC ?_;rintro w0 g0 rfl n0 x0 o0;obtain⟨n,j0,i0,l,i1,j1,_,y0,P0⟩:=Lb q0 h1;cases(j1);have ld:l≠d:=λz=>by rcases p0 with e|⟨_,e⟩<;>(rw[<-z,y0]at e;cases e)
    have k1:n∈ns:=Xa j0;refine⟨_,rfl,l,rfl,⟨_,ca.of (n0 _ _ ld y0)⟩,nc (K:=K) (a:=l) (λj r b0=>∃g0:Option V,r=[qN (.ref d),qN (.ref p),qN (.ref l),g0]/\(∀b o,b≠d->H b=qN o->b0 b=qN o)/\b0 d=qN (.Hb v0 (.dT kvs))/\b0 p=qN (.dT (qd ns (Wa ((ns.take i).flatMap Y++(Y n).take j))))) ⟨_,rfl,n0,x0,by rw[List.take_zero,z1h];exact o0⟩ (by rintro j r b0 _⟨_,_,c0,_⟩;exact ca.of (c0 _ _ ld y0)) ?_ ?_⟩
    ·rintro j y r b0 l1;refine eb1 ?_;rintro m1 rfl c0 z0 h0;refine ea1 ?_ (Lb P0 l1);rintro o Q0 n1;refine ea1 ?_ (jl n1);rintro A0 rfl o1;have p1:A0≠d:=λz=>by rcases p0 with e|⟨_,e⟩<;>(simp_all)
     have R0:o∈ns:=U0 n k1 o (Xa Q0);have S0:=c0 _ _ p1 o1;refine⟨_,rfl,_,rfl,p,.int (Wa ((ns.take i).flatMap Y++(Y n).take j) o),rfl,.inr (nx2 _ (kN o) A0 (.inl h0) rfl S0 ((sq R0).symm)),_,_,rfl,rfl,_,.inr (nx8 _ (kN o) A0 h0 rfl S0 (by unfold qd;rw[ua];have:vN=2^24:=rfl;lia) rfl),_,rfl,λb r1 J e=>?_,?_,?_⟩
     ·rw[ja (Pc e M0)];exact c0 b r1 J e
     ·rw[ja (lc N0)];exact z0
     ·rw[ZA R0,Ww,me,gc,Q0];exact ia
    ·rintro r b0;refine eb1 ?_;rintro m1 rfl c0 z0 h0;refine nx6 _ _ rfl c0 z0 ?_;rw[show i1.length=(Y n).length from Ta P0,vc]at h0;rw[gc,j0,wk,h0];simp
   ·rintro r U;refine eaC ?_;rintro w0 g0 rfl n0 x0 o0;rw[lk,vc]at o0;exact⟨_,rfl,q p v0 U M0 n0 x0 o0⟩
def gK(T:Tx K mg):T.gw.Ok P w base 2 (RJ K):=by
 refine Ua T.gw.F λH _ _ E w0 h=>?_
 ·obtain⟨a,b,b0,X1,ns,B1,rfl,o0,i1,N0,Ab,Y1,Z1,a2,x0,b2,c2⟩:=h;have O0:=kc w0;refine⟨_,(pa (Ma 2 (fb T.Us (fB T) w0 (ka (pv 0) (za 1))))
   (pa (Ma 3 (fb T.fw (fK T) w0 (za 2)))
   (pa (jj 4 ["node"] (by show(Oe _).Nodup;decide+kernel) ["ahead"] [3] (Za (pv 0)) (bc 0) (Mf (xb Od (Mc O0 (pv 1) (pv 0)) la (Bb _))) (pv 0))
   (pa (Ma 5 (jc Oc))
   (pa (Ox Db (xb sr (Cd Yf (by rfl) T.Cf mf (za 4)) la (Bb _))
   (pa (Ma 6 (Cd (oH (K:=K) (qi w0.units) rfl rfl) (by rfl) T.Rw boot_min (za 4)))
   (pa (Nd (Xc jd lu F.type_list_remove (qH (qi w0.units)) (pv 4) (za 6)))
   (pa (Nd (Xc jd ph vh Bh (pv 5) (za 6)))
   (ma (Jb Db rfl (Za (Mc O0 (pv 2) (pv 6))) (bb 7)
   (pa (Cy O0 (pv 3) (pv 7) la QD (λ_ _ _=>rfl))
   (ma (qc (xb Od (Mc O0 (pv 3) (pv 7)) la (Bb _))
   (ma (Nd (Xc jd ph vh Bh (pv 4) (za 7))))
   pc)))))))))
   (ma (Ga (qr (xb Od (Cd Yf (by rfl) T.Cf mf (za 5)) (Cd Yf (by rfl) T.Cf mf (za 0)) (Bb _)) (pv 5) yh)))))))),?_⟩
  show let d2:TS:=_;let e2:TS:=qa _ d2;let f2:TS:=qa _ e2;let g2:TS:=qa _ f2;let h2:TS:=qa _ g2;qa _ h2 _ _ _
  intros;refine⟨_,rfl,_,rfl,a,b,b0,X1,ns,B1,rfl,o0,i1,N0,Ab,Y1,Z1,a2,x0,λd kvs js i2 j2 j1 P0 k1 p0 bd=>?_⟩;have l1:Paired (BR (λ_=>sN) i2 (Fa js)) kvs ns:=Paired.Yb bd.1 λ_ _⟨O,l,q0,y0,_,Q0,m1⟩=>⟨O,nx6 l q0 y0 rfl Q0 m1⟩
  refine⟨_,rfl,d,kvs,ns,Fa js,rfl,.inl P0,l1,N0,Ab,λn _ o c0=>(x0 _ ((p0 _).mp (ml.mp c0))).2,λp ob J C1 R0 D1 e0=>?_⟩;have i0:aa H J:=λc o e=>R0 c o (Pc e j2) (j1 c o e)
  have k2:H p=sN:=j1.free C1;have l2:Paired (BR (λ_=>sN) J (Fa js)) kvs ns:=Paired.Yb l1 λ_ _⟨O,l,q0,y0,m2,Q0,m1⟩=>⟨O,nx6 l q0 y0 m2 (R0 _ _ (Pc Q0 P0) Q0) (pe (rq P0 (λxs z=>by cases z) R0) m1)⟩
  have E1:Cc J b0 ns:=pe (Dg i0) i1;clear l1 bd R0 C1 j1 P0 i1;have F1:b0.length=ns.length:=Ta E1;have G1:∀k∈js,k.1∈ns/\k.2∈ns:=λk z0=>x0 k ((p0 k).mp z0)
  refine⟨_,rfl,a,rfl,⟨_,i0.seq o0⟩,λD A0=>⟨λi m ys H1 n1=>m=b0.length-i/\i<=b0.length/\(∃t,H1=[t,qN (.ref p)])/\aa J n1/\n1 D=qN (.lst ys)/\Cc J ys ((ns.take i).filter λy=>decide (Wa (ns.flatMap (Fa js)) y=0)),⟨_,rfl,Va _,⟨sN,rfl⟩,aa.upd A0,ia,.nil⟩,?_⟩⟩;rintro i m ys H1 n1;refine ea6 ?_;rintro rfl b3⟨t,rfl⟩U r0 s0;have n2:ys.length<=40:=by
   have O:=Ta s0;have y0:=Hi (λy=>decide (Wa (ns.flatMap (Fa js)) y=0)) (ns.take i);rw[se]at y0;lia
  have sz:vN=2^24:=rfl;refine⟨r0,?_⟩;by_cases S0:i<b0.length
  ·refine .inr ⟨(Pd (U.seq (i0.seq o0))).go i S0,by lia,?_⟩;rintro v H' ⟨rfl,o2⟩;refine ea1 ?_ (Lb E1 (o2 b0 (U.seq (i0.seq o0))));rintro n I1 p2;refine ea1 ?_ (jl p2);rintro r2 rfl J1;have s2:n∈ns:=Xa I1;refine⟨_,rfl,_,rfl,p,.int (Wa (ns.flatMap (Fa js)) n),rfl,.inr (nx2 _ (kN n) r2 (.inl (U _ _ e0)) rfl (U _ _ J1) ((sq s2).symm)),?_⟩;refine⟨rfl,_,rfl,?_⟩;have t0:(ns.take (i+1))=ns.take i++[n]:=by rw[gc,I1];rfl
   by_cases T0:Wa (ns.flatMap (Fa js)) n=0
   ·rw[T0];refine Xk ?_;refine⟨_,rfl,r0,b0.length-(i+1),by lia,rfl,S0,⟨_,rfl⟩,U.again A0,ia,?_⟩;rw[t0,Kq,show[n].filter (λy=>decide (Wa (ns.flatMap (Fa js)) y=0))=[n]by simp[T0]];exact Se s0 (.cons (UA J1) .nil)
   ·have t2:decide (V.int (Wa (ns.flatMap (Fa js)) n)=V.int 0)=yN:=he λz=>T0 (by injection z)
    rw[t2];refine yg ?_;refine⟨b0.length-(i+1),by lia,rfl,S0,⟨_,rfl⟩,U,r0,?_⟩;rw[t0,Kq,show[n].filter (λy=>decide (Wa (ns.flatMap (Fa js)) y=0))=[]by simp[T0],z1h];exact s0
  ·refine .inl ⟨(Pd (U.seq (i0.seq o0))).stop _ (by lia),?_⟩;have K1:i=b0.length:=by lia
   rw[K1,F1,vc]at s0;refine⟨ue,λo c0=>?_⟩;have oD:o≠D:=Pc c0 r0;have L1:Ord js ns ns (ns.filter λy=>decide (Wa (ns.flatMap (Fa js)) y=0)) 0:=
    ⟨N0,λx f0=>f0,Nm _,N0.filter _,λx=>by rw[Ze,vk,ko],λy B0 j0=>absurd B0 j0,λ_=>0,λy B0 j0=>absurd B0 j0,λk z0 j0=>absurd (G1 k z0).2 j0⟩
   have C0:p≠D:=Pc e0 A0;have o1:p≠o:=λz=>by rw[<-z,U _ _ e0]at c0;cases c0
   have M1:J o=sN:=U.free c0;refine⟨λm k0 d0=>∃(U0 l0:Option V)(fv g0:List V)(fs r:List Nk),k0=[qN (.ref a),qN (.ref b),qN (.ref d),qN (.ref p),qN (.ref D),qN (.ref o),U0,l0]/\m=r.length/\(∀c u,c≠p->J c=qN u->d0 c=qN u)/\d0 p=qN (.dT (qd ns (Wa (r.flatMap (Fa js)))))/\d0 D=qN (.lst fv)/\Cc J fv fs/\d0 o=qN (.lst g0)/\Ord js ns r fs g0.length,
    nx17 ns.length sN sN ys ([]) _ ns rfl rfl (λc u _ e=>aa.upd c0 _ _ (U _ _ e)) (aa.upd c0 _ _ (U _ _ e0)) (aa.upd c0 _ _ r0) s0 ⟨ia,L1⟩,?_⟩
   clear L1 s0 r0 U c0 n2 S0 K1;rintro m k0 d0;refine eaD ?_;rintro U0 l0 fv g0 fs r rfl rfl V0 N1 D0 F0 G0 Y;refine⟨_,rfl,_,_,rfl,.inl ⟨_,ca.of D0,rfl⟩,_,_,rfl,rfl,_,rfl,?_⟩;have p1:fv.length=fs.length:=Ta F0;show if decide ((0:Int)<((fv.length:Nat):Int))=wN then _ else _
   have W0:aa H d0:=λc u e=>V0 c u (Pc e k2) (i0 c u e)
   by_cases X0:fs=[]
   ·rw[na (by rw[p1,X0];decide)];have ol:=Y.len;refine⟨_,rfl,_,_,rfl,.inl ⟨_,ca.of G0,rfl⟩,_,rfl,_,_,rfl,.inl ⟨_,W0.seq o0,rfl⟩,rfl,_,rfl,jb (λe=>?_) (λe=>?_)⟩
    ·refine ea1 ?_ Y.up;rintro f _ u2;have r1:r=[]:=List.length_eq_zero_iff.mp (by
      have:=yd e;injection this with this;lia)
     exact⟨_,rfl,c2 o g0 d0 f (λk z0=>u2 k ((p0 k).mpr z0) (by rw[r1];simp)) (i0.free M1) W0 G0⟩
    ·have r1:r≠[]:=λz=>e (Xb (by rw[z,Ak]at ol;rw[F1];simp;lia))
     obtain⟨n,j0,k,v2⟩:=TJ (E:=B1) r1 λx f0=>by
      have w2:x∈r.flatMap (Fa js):=Og λz=>by
       have:=(Y.fm x).mpr ⟨f0,z⟩;rw[X0]at this;cases this
      obtain⟨m,x2,y2⟩:=Xe.mp w2;exact⟨m,x2,(p0 _).mp (ml.mp y2)⟩
     exact b2 n (Y.sub n j0) k v2 d0 W0
   ·have c3:0<fs.length:=List.length_pos_iff.mpr X0;rw[va (Xb (by lia))];have d3:0<r.length:=by
     obtain⟨x,f0⟩:=List.exists_mem_of_ne_nil _ X0;exact List.length_pos_of_mem ((Y.fm x).mp f0).1
    refine⟨λO1 H'=>∃(U0 l0:Option V)(fv g0:List V)(fs L2:List Nk),O1=[qN (.ref a),qN (.ref b),qN (.ref d),qN (.ref p),qN (.ref D),qN (.ref o),U0,l0]/\r.length-1=L2.length/\(∀c u,c≠p->J c=qN u->H' c=qN u)/\H' p=qN (.dT (qd ns (Wa (L2.flatMap (Fa js)))))/\H' D=qN (.lst fv)/\Cc J fv fs/\H' o=qN (.lst g0)/\Ord js ns L2 fs g0.length,λO1 H' h=>⟨r.length-1,by lia,h⟩,?_⟩;have P1:∀{c:uN}{xs:List V},J c=qN (.tup xs)->d0 c=qN (.tup xs):=λe=>V0 _ _ (Pc e e0) e
    have Y0:Qe J d0:=λc xs e=>P1 e
    refine⟨_,rfl,D,fv,fs,rfl,ca.of D0,pe Y0 F0,λz=>by rw[z]at p1;simp at p1;lia,λv x z2 Q1 f0 _=>?_⟩;refine ea8 ?_ (aB f0);rintro Z0 A2 B2 C2;obtain⟨e3,D2⟩:=Hd.mp z2;refine ea1 ?_ (Lb F0 D2);rintro g f3 R1;have E2:g=x:=pH (jo Y0 R1) Q1;subst E2;refine⟨_,rfl,Or.inl ⟨rfl,_,ca.of D0⟩,_,rfl,D,fv,fs,v,g,Z0,rfl,rfl,D0,pe Y0 F0,Q1,A2,B2,λg3 S1 I0 F2=>?_⟩;have a1:o≠D:=oD;have G2:Cc J (fv.eraseIdx Z0) (fs.erase g):=by rw[<-C2];exact bB F0 Z0
    refine⟨_,rfl,Or.inl ⟨rfl,_,ca.of (I0 _ _ a1 G0)⟩,_,rfl,o,g0,v,rfl,rfl,I0 _ _ a1 G0,by have:=Y.len;lia,λs1 H2 b1=>?_⟩;have c1:∀c u,c≠p->J c=qN u->s1 c=qN u:=λc u h0 e=>b1 c u (Pc e M1) (I0 c u (Pc e A0) (V0 c u h0 e))
    have I2:s1 p=qN (.dT (qd ns (Wa (r.flatMap (Fa js))))):=b1 _ _ o1 (I0 _ _ C0 N1);have J2:s1 D=qN (.lst (fv.eraseIdx Z0)):=b1 _ _ (lc a1) S1;clear S1 I0 F2 b1 N1 D0 G0 V0 P1 Y0 W0;obtain⟨t1,h3⟩:=(Y.fm g).mp f0;have K2:=Y.sub _ t1;have st:=Y.step k1 G1 f0;refine ea1 ?_ (jl R1);rintro d1 rfl T1;have N2:d1≠p:=Pc T1 e0;have O2:d≠p:=Pc D1 e0;refine ec0 ?_ (Tw (α:=Nat) (λ_ _ z=>z.1) l2 K2);rintro i3 j3 P2 k3 e1 q0 Q2 _ u1 U1;have V1:e1≠p:=Pc u1 e0;have v1:=Xw k1 g;refine⟨_,rfl,_,rfl,d,.ref e1,rfl,.inr (nx2 kvs (kN g) d1 (.inr ⟨ob,c1 _ _ O2 D1⟩) rfl (c1 _ _ N2 T1) (by rw[P2,Q2])),e1,rfl,⟨_,ca.of (c1 _ _ V1 u1)⟩,nc (K:=K) (a:=e1) (xs:=q0) (λi k0 a0=>∃(l0:Option V)(u0:List V),k0=[qN (.ref a),qN (.ref b),qN (.ref d),qN (.ref p),qN (.ref D),qN (.ref o),qN (.ref d1),l0]/\(∀c u,c≠p->J c=qN u->a0 c=qN u)/\a0 p=qN (.dT (qd ns (λy=>Wa (r.flatMap (Fa js)) y-Wa ((Fa js g).take i) y)))/\a0 D=qN (.lst u0)/\Cc J u0 (fs.erase g++((Fa js g).take i).filter λy=>decide (Wa (r.flatMap (Fa js)) y=1))/\a0 o=qN (.lst (g0++[.ref d1])))
     (nx22 l0 _ rfl c1 ?_ J2 (by rw[List.take_zero,List.filter_nil,z1h];exact G2) H2) (by rintro i k0 a0 _⟨_,_,_,m0,_⟩;exact ca.of (m0 _ _ V1 u1)) ?_ ?_⟩
    ·rw[I2];refine Vb (λz=>qN (HO.dT (qd ns z))) (funext λy=>?_);rw[List.take_zero];show _=_-((([]:List Nk).count y:Nat):Int);simp
    ·rintro i y k0 a0 B0;refine ebC ?_;rintro S2 u0 rfl m0 J0 K0 v0 f1;refine ea1 ?_ (Lb U1 B0);rintro on g1 T2;refine ea1 ?_ (jl T2);rintro L0 rfl M0;have w1:L0≠p:=Pc M0 e0;have U2:on∈Fa js g:=Xa g1;have x1:on∈ns:=(x0 _ ((p0 _).mp (ml.mp U2))).2;have V2:Wa ((Fa js g).take i) on=0:=ko.mpr λz=>by
      obtain⟨l3,y1⟩:=Hd.mp z;have W2:=(rb.mp y1).1;rw[se]at W2;rw[List.getElem?_take_of_lt (by lia)]at y1;have:=(hp (by lia) v1).mp (y1.trans g1.symm);lia
     refine⟨_,rfl,_,rfl,p,.int (Wa (r.flatMap (Fa js)) on-Wa ((Fa js g).take i) on),rfl,.inr (nx2 _ (kN on) L0 (.inl J0) rfl (m0 _ _ w1 M0) ((sq (c:=λy=>Wa (r.flatMap (Fa js)) y-Wa ((Fa js g).take i) y) x1).symm)),_,_,rfl,rfl,_,.inr (nx8 _ (kN on) L0 J0 rfl (m0 _ _ w1 M0) (by unfold qd;rw[ua];lia) rfl),?_⟩;rw[ZA x1];have X2:(λm=>if m=on then Wa (r.flatMap (Fa js)) on-Wa ((Fa js g).take i) on-1 else Wa (r.flatMap (Fa js)) m-Wa ((Fa js g).take i) m)=λy=>Wa (r.flatMap (Fa js)) y-Wa ((Fa js g).take (i+1)) y:=by
      have O:=Ww ((Fa js g).take i) on;rw[show(Fa js g).take i++[on]=(Fa js g).take (i+1)by rw[gc,g1];rfl]at O;funext y;rw[<-O];by_cases q:y=on
      ·subst q;simp only[if_true];lia
      ·simp only[na q]
     rw[X2];have n0:∀c u,c≠p->a0 c=qN u->upd a0 p (.dT (qd ns λy=>Wa (r.flatMap (Fa js)) y-Wa ((Fa js g).take (i+1)) y)) c=qN u:=λc u h0 e=>by rw[ja h0];exact e
     have h1:upd a0 p (.dT (qd ns λy=>Wa (r.flatMap (Fa js)) y-Wa ((Fa js g).take (i+1)) y)) p=qN (.dT (qd ns λy=>Wa (r.flatMap (Fa js)) y-Wa ((Fa js g).take (i+1)) y)):=ia;generalize upd a0 p (.dT (qd ns λy=>Wa (r.flatMap (Fa js)) y-Wa ((Fa js g).take (i+1)) y))=Y2 at n0 h1;have z1:∀c u,c≠p->J c=qN u->Y2 c=qN u:=λc u h0 e=>n0 c u h0 (m0 c u h0 e)
     have t0:(Fa js g).take (i+1)=(Fa js g).take i++[on]:=by rw[gc,g1];rfl
     have Z2:Wa (r.flatMap (Fa js)) on-Wa ((Fa js g).take (i+1)) on=Wa (r.flatMap (Fa js)) on-1:=by
      have O:=congrFun (Ww ((Fa js g).take i) on) on;simp only[if_true]at O;rw[t0,<-O,V2];lia
     refine⟨_,rfl,_,rfl,p,.int (Wa (r.flatMap (Fa js)) on-Wa ((Fa js g).take (i+1)) on),rfl,.inr (nx2 _ (kN on) L0 (.inl h1) rfl (z1 _ _ w1 M0) ((sq (c:=λy=>Wa (r.flatMap (Fa js)) y-Wa ((Fa js g).take (i+1)) y) x1).symm)),rfl,_,rfl,jb (λe=>?_) (λe=>?_)⟩
     ·have O:Wa (r.flatMap (Fa js)) on=1:=by
       have:=yd e;injection this with this;lia
      refine⟨_,rfl,Or.inl ⟨rfl,_,ca.of (n0 _ _ (lc C0) K0)⟩,_,rfl,D,u0,.ref L0,rfl,rfl,n0 _ _ (lc C0) K0,?_,λm3 a3 A1=>?_⟩
      ·have q1:=Ta v0;rw[Ya]at q1;have q2:=Hi (λy=>decide (Wa (r.flatMap (Fa js)) y=1)) ((Fa js g).take i);have q3:=zg v1 λz hz=>(x0 _ ((p0 _).mp (ml.mp hz))).2
       rw[se]at q2;have n3:=List.length_erase_le (a:=g) (l:=fs);have o3:=zg Y.qm λz hz=>Y.sub z ((Y.fm z).mp hz).1
       lia
      ·refine nx22 _ _ rfl (λc u h0 W1=>A1 c u (Pc W1 A0) (z1 c u h0 W1)) (A1 _ _ C0 h1) a3 ?_ (A1 _ _ a1 (n0 _ _ (lc o1) f1));rw[t0,Kq,<-me,show[on].filter (λy=>decide (Wa (r.flatMap (Fa js)) y=1))=[on]by simp[O]];exact Se v0 (.cons (UA M0) .nil)
     ·have O:Wa (r.flatMap (Fa js)) on≠1:=λq=>e (Xb (by rw[Z2,q];rfl))
      refine nx22 _ _ rfl z1 h1 (n0 _ _ (lc C0) K0) ?_ (n0 _ _ (lc o1) f1);rw[t0,Kq,show[on].filter (λy=>decide (Wa (r.flatMap (Fa js)) y=1))=[]by simp[O],z1h];exact v0
    ·rintro k0 a0;refine ebC ?_;rintro S2 u0 rfl m0 J0 K0 v0 f1;rw[show q0.length=(Fa js g).length from Ta U1,vc]at J0 v0;refine nx1 _ _ (nx12 u0 _ _ (r.erase g) rfl (by rw[List.length_erase_of_mem t1]) m0 ?_ K0 v0 f1 (by rw[Ya];exact st));rw[J0];refine Vb (λz=>qN (HO.dT (qd ns z))) (funext λy=>?_);have:=Yw k1 t1 y;have O:Wa (Fa js g) y=if y∈Fa js g then 1 else 0:=by
      unfold Wa;by_cases h:y∈Fa js g
      ·rw[va h,v1.count,va h];rfl
      ·rw[na h,List.count_eq_zero.mpr h];rfl
     rw[O];lia
def hK(T:Tx K mg):T.ew.Ok P w base 1 aK:=by
 refine Ua T.ew.F λH _ _ _ s1 h=>?_
 ·obtain⟨d,kvs,W,J0,d0,st,v,rfl,t1,P1,Q1,K0,R1,u1,O2,S1,T1⟩:=h;have X0:=kc s1;refine⟨_,(pa (Ma 2 Xu)
   (pa (Ma 3 (jc (Ca (jc (za 1)))))
   (pa (Ox Db (xb sr (Cd Yf (by rfl) T.Cf mf (za 3)) la (Bb _))
   (pa (Ma 4 (jc Oc))
   (pa (Jb Db rfl (Za (pv 3)) (bb 5)
   (pa (Ma 6 (Cr X0 (pv 0) (Ja ci (pv 5) (zp Cp la)) (jc Oc) ⟨rfl,rfl,rfl,rfl⟩))
   (pa (qc (xb (tH (K:=K) (qi s1.units) rfl) (pv 1) (pv 6) rfl)
   (ma (Ga (pv 5)))
   pc)
   (ma (Jb Db rfl (Za (pv 6)) (bb 7)
   (ma (qc (aD (BE X0 (pv 7) (pv 2)))
   (pa (dm X0 (pv 2) (pv 7) vg rfl)
   (ma (Nd (Xc jd ph vh Bh (pv 4) (Ca (eb fi (pv 5) (jc (za 7))))))))
   pc)))))))
   (ma (Ma 3 (pv 4))))))
   (ma (Ga yh))))),?_⟩
  show let U1:TS:=_;let V1:TS:=qa _ U1;let W1:TS:=qa _ V1;qa _ W1 _ _ _
  intros;intro J v1;have Y0:=aa.upd (o:=HO.dT []) v1;refine⟨_,rfl,Xd,λZ0 a1=>⟨Xd,λX1 w1=>?_⟩⟩;have j0:=aa.upd (o:=HO.lst [v]) a1;have e0:=aa.upd (o:=HO.lst [V.ref Z0]) w1;have S:=Y0.trans (j0.trans e0);refine⟨λm O n0=>∃(f0:uN)(x1 v0 w0 k0:Option V)(n:Nat)(g0 l0 xs:List Nk)(Y:List V),O=[qN (.ref d),qN v,qN (.ref J),qN (.ref f0),x1,v0,w0,k0]/\aa H n0/\n0 J=qN (.dT (Fg l0))/\n0 f0=qN (.lst Y)/\Paired (CR d0 st n H n0) Y xs/\Sr d0 J0 st g0 l0 xs/\(xs≠[]->42<=m+l0.length)/\n+m=42,
   nx10 42 X1 sN sN (nx17 sN sN 0 ([]) ([]) ([st]) ([.ref Z0]) rfl S ((j0.trans e0) _ _ ia) ia (.cons (nx8 Z0 ([v]) ([st]) rfl (Y0.free a1) (e0 _ _ ia) (.cons (je S u1) .nil) (.one)) .nil) ⟨.nil,by(intros;simp_all),by simp_all,by(intros;simp_all),by(intros;simp_all),by(intros;simp_all)⟩ ⟨λ_=>wa _,rfl⟩),?_⟩
  clear S e0 j0 Y0 a1 w1;rintro m O n0;refine ebB ?_;rintro f0 x1 v0 w0 k0 n g0 l0 xs Y rfl j0 Y1 L0 b1 S Z1 P2;refine⟨_,rfl,_,_,rfl,.inl ⟨_,ca.of L0,rfl⟩,_,_,rfl,rfl,_,rfl,?_⟩;have y1:Y.length=xs.length:=Ta b1;show if decide ((0:Int)<((Y.length:Nat):Int))=wN then _ else _
  by_cases c1:xs=[]
  ·subst c1;rw[na (by rw[y1];decide)];exact S1 (λk=>S.nil) n0 j0
  have Q2:0<xs.length:=List.length_pos_iff.mpr c1;rw[va (Xb (by simp_all))];have S2:=zg S.nd S.cB;have T2:=Z1 c1;obtain⟨d1,rfl⟩:∃d1,m=d1+1:=⟨m-1,by lia⟩;refine⟨_,λU2 H' h=>⟨d1,Nat.lt_succ_self _,h⟩,?_⟩;refine⟨ue,λr M0=>?_⟩;have e0:=aa.upd (o:=HO.lst []) M0;have a2:H r=sN:=j0.free M0;have z1:V.ref r∉Y:=λz=>by
   obtain⟨xs,e⟩:=XJ b1 z;rw[M0]at e;cases e
  have b2:f0≠r:=Pc L0 M0;refine⟨_,rfl,f0,rfl,⟨_,ca.of (e0 _ _ L0)⟩,nc (K:=K) (a:=f0) (xs:=Y) (λi O h0=>∃(v0 w0 k0:Option V)(a0:List V)(g0 i0 lo:List Nk),O=[qN (.ref d),qN v,qN (.ref J),qN (.ref f0),qN (.ref r),v0,w0,k0]/\aa H h0/\h0 J=qN (.dT (Fg i0))/\h0 f0=qN (.lst Y)/\Paired (CR d0 st n H h0) Y xs/\h0 r=qN (.lst a0)/\Paired (CR d0 st (n+1) H h0) a0 lo/\V.ref r∉a0/\Sr d0 J0 st g0 i0 (xs.drop i++lo)/\i0.length=l0.length+lo.length)
   (nx17 v0 w0 k0 ([]) g0 l0 ([]) rfl (j0.trans e0) (e0 _ _ Y1) (e0 _ _ L0) (cx b1 e0) ia ⟨.nil,by simp,by simpa using S,rfl⟩) (by rintro i O h0 _⟨_,_,_,_,_,_,_,_,_,_,h,_⟩;exact ca.of h) ?_ ?_⟩
  ·rintro i y O h0 N0;refine eb2 ?_;rintro c2 d2 e2 a0 g0 e1 lo rfl O0 f1 A1 g1 h1 i1 B1 o0 C1;refine eb9 ?_ (Lb g1 N0);rintro x f2 l P0 c rfl g2 j1 x0 D1;have h2:=N0;have i2:xs.drop i=x::xs.drop (i+1):=by
    obtain⟨j2,k2⟩:=rb.mp f2;rw[pp j2,k2]
   rw[i2]at o0;have l2:x∈J0:=o0.WJ x (by simp);refine eb4 ?_ D1.all;rintro m2 n2 ct o2;refine ea1 ?_ (Kv x0 n2);rintro V2 p2 r2;refine⟨_,rfl,d,rfl,.inr ⟨kvs,.inl (O0 _ _ t1)⟩,_,rfl,_,rfl,l,_,_,_,rfl,rfl,ca.of j1,UJ (by rw[Ta x0,m2];exact p2),ue,λW2 s2=>?_⟩;have b0:=aa.upd (o:=HO.lst []) s2;have p0:=O0.trans b0;refine ea0 ?_ (P1.get l2);rintro ol Q0 t2 E1 F1;refine ea1 ?_ (jl r2);rintro u2 rfl v2;refine⟨_,.inr (nx2 kvs (kN x) u2 (.inl (p0 _ _ t1)) rfl (b0 _ _ v2) rfl),?_⟩;rw[t2];have k1:=p0 _ _ E1;have w2:ol≠r:=Pc E1 a2;have G1:=pe (Dg p0) F1;refine⟨_,rfl,_,rfl,ol,Q0,W x,st,rfl,ca.of k1,G1,je p0 u1,_,rfl,jb (λe=>?_) (λe=>?_)⟩
   ·exact⟨_,rfl,T1 c l P0 _ (by unfold Bm;rw[ct];exact o2 st ((K0 _ _).mp (yd e))) (by lia) g2 p0 (b0 _ _ j1) (pe (Dg b0) x0)⟩
   have x2:(x,st)∉d0:=λz=>e (Xb ((K0 _ _).mpr z))
   refine⟨_,rfl,ol,rfl,⟨_,ca.of k1⟩,nc (K:=K) (a:=ol) (xs:=Q0) (λj O g=>∃(k0:Option V)(a0:List V)(i0 lo:List Nk),O=[qN (.ref d),qN v,qN (.ref J),qN (.ref f0),qN (.ref r),qN (.ref l),qN (.ref ol),k0]/\aa H g/\g ol=qN (.lst Q0)/\g J=qN (.dT (Fg i0))/\g f0=qN (.lst Y)/\Paired (CR d0 st n H g) Y xs/\g l=qN (.lst P0)/\Cc g P0 c/\g r=qN (.lst a0)/\Paired (CR d0 st (n+1) H g) a0 lo/\V.ref r∉a0/\Sr d0 J0 st g0 i0 (x::xs.drop (i+1)++lo)/\i0.length=l0.length+lo.length/\∀o∈(W x).take j,o∈i0)
    (nx20 _ a0 e1 lo rfl p0 k1 (b0 _ _ f1) (b0 _ _ A1) (cx g1 b0) (b0 _ _ j1) (pe (Dg b0) x0) (b0 _ _ h1) (cx i1 b0) B1 ⟨o0,C1,by simp⟩) (by rintro j O g _⟨_,_,_,_,_,_,h,_⟩;exact ca.of h) ?_ ?_⟩
   ·rintro j y O g N0;refine eb8 ?_;rintro y2 q0 U y0 rfl z0 l1 r0 R0 S0 T0 U0;refine ea6 ?_;rintro m0 A0 B0 s0 m1 C0;refine ea1 ?_ (Lb (pe (Dg z0) F1) N0);rintro z H1 I1;have zE:(x,z)∈d0:=(K0 _ _).mp (Xa H1);have J1:(W x).take (j+1)=(W x).take j++[z]:=by rw[gc,H1];rfl
    have z2:=zg s0.nd s0.cB;have A2:=dB U z;refine ea1 ?_ (jl I1);rintro n1 rfl K1;refine⟨_,rfl,_,rfl,J,_,rfl,.inr (nx2 _ (kN z) n1 (.inl r0) rfl K1 rfl),_,rfl,jb (λe=>?_) (λe=>?_)⟩
    ·have L1:z∉U:=λq=>by
      simp_all
     have B2:(Fg U).length<vN:=by
      rw[YJ];exact Do (gb z2 Q1) (by decide)
     refine⟨_,rfl,_,rfl,J,_,rfl,eg.t (v:=.bl wN) r0 K1 B2,?_⟩;rw[ZJ L1];have M1:∀b o,b≠J->g b=qN o->upd g J (.dT (Fg (U++[z]))) b=qN o:=λb o n c0=>by
      rw[ja n];exact c0
     have t0:∀b xs,g b=qN (.lst xs)->upd g J (.dT (Fg (U++[z]))) b=qN (.lst xs):=λb xs c0=>M1 b _ (λq=>by simp_all) c0
     have C2:Qe g (upd g J (.dT (Fg (U++[z])))):=rq r0 (λxs z=>by cases z) M1;have N1:aa H (upd g J (.dT (Fg (U++[z])))):=z0.again v1;refine⟨_,rfl,.inl ⟨rfl,_,ca.of (t0 _ _ m0)⟩,_,rfl,_,rfl,Xd,λD2 E2=>?_⟩;have V0:=aa.upd (o:=HO.lst [V.ref n1]) E2;refine⟨l,D2,_,_,rfl,rfl,V0 _ _ (t0 _ _ T0),ia,?_,λo1 W0=>?_⟩
     ·rw[Ta x0];exact gb (show c.length+1<=60 by lia) (by decide)
     have F2:=aa.upd (o:=HO.lst (P0++[V.ref n1])) W0;have u0:=V0.trans F2;have O1:o1≠r:=λq=>by rw[q,V0 _ _ (t0 _ _ m0)]at W0;cases W0
     have G2:q0.length<vN:=by
      rw[Ta A0];exact Do (show y0.length<=90 by lia) (by decide)
     refine⟨r,q0,_,rfl,rfl,u0 _ _ (t0 _ _ m0),G2,λp1 H2 D0=>?_⟩;have F0:Qe g p1:=(C2.trans (Dg u0)).trans (rq (u0 _ _ (t0 _ _ m0)) (λxs z=>by cases z) D0);have G0:∀b xs,b≠r->g b=qN (.lst xs)->p1 b=qN (.lst xs):=λb xs n c0=>D0 _ _ n (u0 _ _ (t0 _ _ c0))
     have I2:J≠r:=λq=>by simp_all
     have J2:aa H p1:=λb o c0=>D0 _ _ (λq=>by grind) (u0 _ _ (N1 _ _ c0))
     refine nx20 _ (q0++[.ref o1]) (U++[z]) (y0++[z]) rfl J2 (G0 _ _ w2 l1) (D0 _ _ I2 (u0 _ _ ia)) (G0 _ _ b2 R0) (bx F0 S0 λb xs r1 c0=>G0 b xs (λq=>z1 (q▸r1)) c0) (G0 _ _ (λq=>z1 (q▸Xa h2)) T0) (pe F0 U0) H2 ?_ ?_ ⟨?_,?_,?_⟩
     ·exact Se (bx F0 A0 λb xs r1 c0=>G0 b xs (λq=>B0 (q▸r1)) c0) (.cons (nx8 o1 _ _ rfl (N1.free (V0.free W0)) (D0 _ _ O1 ia) (Se (pe F0 U0) (.cons (jo F0 I1) .nil)) (.snoc D1 zE)) .nil)
     ·intro q;rcases fc.mp q with q|q
      ·exact B0 q
      ·exact O1 (V.ref.inj (cc.mp q)).symm
     ·rw[<-me];exact s0.add (R1 _ zE) L1
     ·simp only[Ya,uj];lia
     ·rw[J1];exactλo I0=>fc.mpr ((fc.mp I0).imp (C0 o) id)
    ·have K2:z∈U:=Og λq=>e (by
      rw[A2,he q];rfl)
     exact nx20 _ q0 U y0 rfl z0 l1 r0 R0 S0 T0 U0 m0 A0 B0 ⟨s0,m1,by rw[J1];exactλo I0=>(fc.mp I0).elim (C0 o) λq=>by rw[cc.mp q];exact K2⟩
   ·rintro O g;refine eb8 ?_;rintro y2 q0 U y0 rfl z0 l1 r0 R0 S0 T0 U0;refine ea6 ?_;rintro m0 A0 B0 s0 m1 C0;rw[show Q0.length=(W x).length from Ta G1,vc]at C0;exact nx17 _ _ _ q0 _ U y0 rfl z0 r0 R0 S0 m0 ⟨A0,B0,s0.done x2 λo I0=>C0 o ((K0 _ _).mpr I0),m1⟩
  ·rintro O h0;refine eb2 ?_;rintro c2 d2 e2 a0 g0 e1 lo rfl O0 f1 A1 g1 h1 i1 B1 o0 C1;rw[y1,List.drop_length,So]at o0;exact⟨_,rfl,r,_,_,_,_,n+1,g0,e1,lo,a0,rfl,O0,f1,h1,i1,o0,λN2=>by have:=List.length_pos_iff.mpr N2;lia,by lia⟩
def iK(T:Tx K mg):T.hw.Ok P w base 2 (eK K):=by
 refine Ua T.hw.F λH _ _ _ j0 h=>?_
 ·obtain⟨a,b,z0,R0,ns,a0,rfl,A0,n0,S0,Ab,T0,U0,V0,B0,W0,X0⟩:=h;have B1:=kc j0;refine⟨_,(pa (Ma 2 (fb T.Us (fB T) j0 (ka (pv 0) (za 1))))
   (pa (jj 3 ["node"] (by show(Oe _).Nodup;decide+kernel) ["behind"] [2] (Za (Cd (VI (qi j0.units)) (by rfl) T.Am tO (za 0))) (bc 0) Ie (fb T.ew (hK T) j0 (ka (pv 1) (za 0))))
   (ma (Ga (HH (K:=K) rfl rfl rfl T.Rw rfl T.Cf (Ca (Ud ["found"] [] [] (Za (pv 3)) (bc 0) (Mf (xb Dp (pv 0) yh (Bb _))) (pv 0)))))))),?_⟩
  show let Y0:TS:=_;let Z0:TS:=qa _ Y0;qa _ Z0 _ _ _
  intros;refine⟨_,rfl,_,rfl,a,b,z0,R0,ns,a0,rfl,A0,n0,S0,Ab,T0,U0,V0,B0,λd kvs js a1 C1 o0 e0 D1 b1 bd=>?_⟩;have sz:vN=2^24:=rfl;refine⟨_,rfl,a,z0,ns,rfl,o0.seq A0,pe (Dg o0) n0,(by have:=Ta n0;lia),λC0 ys L c1 D0 p0=>?_⟩;have F0:=aa.upd (o:=HO.lst ys) c1;have d1:ys.length=L.length:=Ta D0;have E1:L.length=ns.length:=p0.length_eq;have k0:=ia (H:=a1) (a:=C0) (o:=HO.lst ys);have G0:=o0.trans F0;refine⟨C0,rfl,⟨_,ca.of k0⟩,Hn (k:=1) (fs:=[qN (.ref d)]) ys.length (λD i rs b0=>rs.length=i/\V.ref D∉rs/\Paired (OR a0 H b0) rs (L.take i)) rfl (by lia) (λi b0 g f0=>(Pd (ca.of (g _ _ k0))).go i f0) (λb0 g=>(Pd (ca.of (g _ _ k0))).stop _ (wa _)) (λ_ i rs b0 p=>by simp_all) (λ_ _=>⟨rfl,by simp,.nil⟩) (λD i I0 rs e1 v f1 R c0 J g f0 q0 y r0 _=>?_) λD I0 rs F1 g c0 J=>?_⟩
  ·obtain⟨t,rfl⟩:=Zc.mp q0;revert J;refine ea3 ?_;rintro J0 K0 g0;obtain⟨rfl,s0⟩:=y;refine ea1 ?_ (Lb D0 (s0 ys (ca.of (g _ _ k0))));rintro n l0 g1;have t0:=G0.trans g;have u0:=F0.trans g;have next:∀(y:V)(r:Hp),aa f1 r->OR a0 H r y n->y≠.ref D->R (qN y) [qN v,qN (.ref d)] r:=λy r O h1 i1=>by
    have j1:=O _ _ c0;have L0:Qe r (upd r D (.lst (rs++[y]))):=rq j1 (λxs z=>by cases z) λb o n e=>by rw[ja n];exact e
    have M0:∀l xs,V.ref l≠V.ref D->r l=qN (.lst xs)->upd r D (.lst (rs++[y])) l=qN (.lst xs):=λl xs n e=>by rw[ja λz=>n (by rw[z])];exact e
    refine r0 y [_] r rfl O ⟨by simp[J0],by grind,?_⟩;rw[gc,l0];refine Se (bK g0 λv n U z=>fx L0 (fx (Dg O) z λl xs _ e=>O _ _ e) λl xs v0 e=>M0 l xs (λz=>K0 (by rw[<-z,<-v0];exact U)) e) (.cons (fx L0 h1 λl xs v0 e=>M0 l xs (λz=>i1 (by rw[v0,z])) e) .nil)
   refine⟨_,rfl,_,rfl,d,kvs,Fa js,ns,a0,n,v,rfl,u0 _ _ e0,bd.fd.same u0,Ab,(λx y=>by rw[ml,b1]),(λk k1=>(B0 k k1).2),je u0 g1,p0.mem_iff.mp (Xa l0),λl1 r O=>next .Ra r O (.inl ⟨l1,rfl⟩) (λz=>by cases z),λc p Y r e0 w0 J O m1 n1=>next (.ref p) r O (.inr (nx8 c p Y e0 w0 rfl (t0.free J) ⟨m1,n1⟩)) (λz=>by simp_all)⟩
  ·revert J;refine ea3 ?_;rintro J0 K0 g0;rw[d1,vc]at g0;have t0:=G0.trans g;refine⟨_,rfl,D,rfl,⟨_,ca.of c0⟩,Hn (k:=1) (fs:=[]) rs.length (λ_ i fs _=>fs.length<=i/\(∀v∈fs,eB a0 H I0 v)/\(fs=[]->∀n∈L.take i,∀k,¬Wk a0 (k+1) n n)) rfl (by lia) (λi b0 g f0=>(Pd (ca.of (g _ _ c0))).go i f0) (λb0 g=>(Pd (ca.of (g _ _ c0))).stop _ (wa _)) (λ_ _ _ _ p=>p.1) (λ_ _=>⟨wa _,by simp,by simp⟩) (λN0 i m0 fs e1 v G1 R O0 J d0 f0 q0 y r0 o1=>?_) λN0 m0 fs H1 d0 O0 J=>?_⟩
   ·obtain⟨t,rfl⟩:=Zc.mp q0;revert J;refine ea3 ?_;rintro p1 h0 x0;obtain⟨rfl,s0⟩:=y;refine ea1 ?_ (Lb g0 (s0 rs (ca.of (d0 _ _ c0))));rintro n l0 r1;rcases r1 with⟨i0,rfl⟩|⟨c,l,Y,i0,y0,rfl,s1,t1,u1⟩
    ·refine⟨_,rfl,rfl,_,rfl,yg (o1 [_] _ rfl (aa.refl _) ⟨by lia,h0,λz m P0=>?_⟩)⟩;rw[gc,l0]at P0;rcases fc.mp P0 with q|q
     ·exact x0 z m q
     ·rw[cc.mp q];exact i0
    ·exact⟨_,rfl,rfl,_,rfl,Xk ⟨_,rfl,r0 _ [_] _ rfl (aa.refl _) ⟨by simp;lia,λv U=>(fc.mp U).elim (h0 v) λz=>by rw[cc.mp z];exact nx8 c l Y i0 y0 rfl s1 ⟨t1,u1⟩,by simp⟩⟩⟩
   ·revert J;refine ea3 ?_;rintro p1 h0 x0;have Q0:=t0.trans d0;obtain⟨ls,v1⟩:=cK (R:=fA K m0) (xs:=fs) λv U=>by
     refine ec8 ?_ (h0 v U);rintro c l Y _ _ e _ w0 _;exact nx16 _ l Y e (ca.of (d0 _ _ w0)) rfl
    refine⟨N0,fs,ls,rfl,ca.of O0,v1,λv U=>?_⟩;rcases U with⟨i0,rfl⟩|⟨i,n,e0,_⟩
    ·refine W0 (λn w1=>x0 i0 n ?_) m0 Q0;rw[Ta g0,vc];exact p0.mem_iff.mpr w1
    ·refine ec8 ?_ (h0 v (Xa e0));rintro c l Y y0 x1 rfl y1 z1 A1;exact X0 c l Y m0 y0 x1 y1 Q0 (d0 _ _ z1) (pe (Dg d0) A1)
--@La
def jK(T:Tx K mg):T.Vs.Ok mg P w base 1 (Vn .loose):=by
 refine Ua T.Vs.F λ_ _ _ _ _ h=>?_
 ·revert h;refine ea1 ?_;rintro x rfl q;exact⟨_,(ma (Ga Ib)),q⟩
def kK(T:Tx K mg):T.bt.Ok mg P w base 1 (Vn .kept):=by
 refine Ua T.bt.F λ_ _ _ _ _ h=>?_
 ·revert h;refine ea1 ?_;rintro x rfl q;exact⟨_,(ma (Ga Ib)),q⟩
def lK(T:Tx K mg):T.gt.Ok mg P w base 1 (Vn .make):=by
 refine Ua T.gt.F λ_ _ _ _ _ h=>?_
 ·revert h;refine ea1 ?_;rintro x rfl q;exact⟨_,(ma (Ga Ib)),q⟩
def mK(T:Tx K mg):T.jt.Ok mg P w base 1 (Vn .watch):=by
 refine Ua T.jt.F λ_ _ _ _ _ h=>?_
 ·revert h;refine ea1 ?_;rintro x rfl q;exact⟨_,(ma (Ga Ib)),q⟩
def nK(T:Tx K mg):T.nt.Ok mg P w base 1 (Vn .hold):=by
 refine Ua T.nt.F λ_ _ _ _ _ h=>?_
 ·revert h;refine ea1 ?_;rintro x rfl q;exact⟨_,(ma (Ga Ib)),q⟩
def oK(T:Tx K mg):∀l,∃f fd g,Cls K (cO T l)/\Zf K (cO T l) "word" f/\kd P w K mg base Td 1 f fd g (Vn l)/\Zd K fd g []:=by
 intro l;cases l
 ·exact nx2 _ _ _ T.Zn.cl T.Vs.m (jK T) T.Vs.b
 ·exact nx2 _ _ _ T.ao.cl T.bt.m (kK T) T.bt.b
 ·exact nx2 _ _ _ T.bo.cl T.gt.m (lK T) T.gt.b
 ·exact nx2 _ _ _ T.eo.cl T.jt.m (mK T) T.jt.b
 ·exact nx2 _ _ _ T.fo.cl T.nt.m (nK T) T.nt.b
def pK(T:Tx K mg):T.Ws.Ok mg P w base 1 (Wn .loose):=by
 refine Ua T.Ws.F λ_ _ _ _ _ h=>?_
 ·revert h;refine eaA ?_;rintro x n rfl q;exact⟨_,(ma (Ga la)),q⟩
def qK(T:Tx K mg):T.dt.Ok mg P w base 1 (Wn .kept):=by
 refine Ua T.dt.F λ_ _ _ _ _ h=>?_
 ·revert h;refine eaA ?_;rintro x n rfl q;exact⟨_,(ma (Ga (eb wg (pv 1) la))),⟨_,rfl,_,_,rfl,rfl,q⟩⟩
def rK(T:Tx K mg):T.ht.Ok mg P w base 1 (Wn .make):=by
 refine Ua T.ht.F λ_ _ _ _ _ h=>?_
 ·revert h;refine eaA ?_;rintro x n rfl q;exact⟨_,(ma (Ga la)),q⟩
def sK(T:Tx K mg):T.kt.Ok mg P w base 1 (Wn .watch):=by
 refine Ua T.kt.F λ_ _ _ _ _ h=>?_
 ·revert h;refine eaA ?_;rintro x n rfl q;exact⟨_,(ma (Ga la)),q⟩
def tK(T:Tx K mg):T.ot.Ok mg P w base 1 (Wn .hold):=by
 refine Ua T.ot.F λ_ _ _ _ _ h=>?_
 ·revert h;refine eaA ?_;rintro x n rfl q;exact⟨_,(ma (Ga la)),q⟩
def uK(T:Tx K mg):∀l,∃f fd g,Cls K (cO T l)/\Zf K (cO T l) "spots" f/\kd P w K mg base Td 1 f fd g (Wn l)/\Zd K fd g []:=by
 intro l;cases l
 ·exact nx2 _ _ _ T.Zn.cl T.Ws.m (pK T) T.Ws.b
 ·exact nx2 _ _ _ T.ao.cl T.dt.m (qK T) T.dt.b
 ·exact nx2 _ _ _ T.bo.cl T.ht.m (rK T) T.ht.b
 ·exact nx2 _ _ _ T.eo.cl T.kt.m (sK T) T.kt.b
 ·exact nx2 _ _ _ T.fo.cl T.ot.m (tK T) T.ot.b
def vK(T:Tx K mg):T.Xs.Ok mg P w base 1 (jq .loose):=by
 refine Ua T.Xs.F λ_ _ _ _ _ h=>?_
 ·revert h;refine eaA ?_;rintro x n rfl q;exact⟨_,(ma (Ga yh)),q⟩
def wK(T:Tx K mg):T.et.Ok mg P w base 1 (jq .kept):=by
 refine Ua T.et.F λ_ _ _ _ _ h=>?_
 ·revert h;refine eaA ?_;rintro x n rfl q;exact⟨_,(ma (Ga (pv 1))),⟨_,rfl,q⟩⟩
def gB(T:Tx K mg):T.Xn.Ok mg P w base 1 (jq .make):=by
 refine Ua T.Xn.F λ_ _ _ _ _ h=>?_
 ·revert h;refine eaA ?_;rintro x n rfl q;exact⟨_,(ma (Ga la)),q⟩
def xK(T:Tx K mg):T.qt.Ok mg P w base 1 (jq .hold):=by
 refine Ua T.qt.F λ_ _ _ _ _ h=>?_
 ·revert h;refine eaA ?_;rintro x n rfl q;exact⟨_,(ma (Ga la)),q⟩
def yK(T:Tx K mg):∀l,∃f fd g,Cls K (cO T l)/\Zf K (cO T l) "look_spot" f/\kd P w K mg base Td 1 f fd g (jq l)/\Zd K fd g []:=by
 intro l;cases l
 ·exact nx2 _ _ _ T.Zn.cl T.Xs.m (vK T) T.Xs.b
 ·exact nx2 _ _ _ T.ao.cl T.et.m (wK T) T.et.b
 ·exact nx2 _ _ _ T.bo.cl T.Xn.m (gB T) T.Xn.b
 ·exact nx2 _ _ _ T.eo.cl T.sJ (gB T) T.Xn.b
 ·exact nx2 _ _ _ T.fo.cl T.qt.m (xK T) T.qt.b
def zK(T:Tx K mg):T.Ys.Ok mg P w base 1 (kq .loose):=by
 refine Ua T.Ys.F λ_ _ _ _ _ h=>?_
 ·revert h;refine eaA ?_;rintro x n rfl q;exact⟨_,(ma (Ga la)),q⟩
def AK(T:Tx K mg):T.ft.Ok mg P w base 1 (kq .kept):=by
 refine Ua T.ft.F λ_ _ _ _ _ h=>?_
 ·revert h;refine eaA ?_;rintro x n rfl q;exact⟨_,(ma (Ga (pv 1))),⟨_,rfl,q⟩⟩
def hB(T:Tx K mg):T.Yn.Ok mg P w base 1 (kq .make):=by
 refine Ua T.Yn.F λ_ _ _ _ _ h=>?_
 ·revert h;refine eaA ?_;rintro x n rfl q;exact⟨_,(ma (Ga la)),q⟩
def BK(T:Tx K mg):T.ut.Ok mg P w base 1 (kq .hold):=by
 refine Ua T.ut.F λ_ _ _ _ _ h=>?_
 ·revert h;refine eaA ?_;rintro x n rfl q;exact⟨_,(ma (Ga la)),q⟩
def CK(T:Tx K mg):∀l,∃f fd g,Cls K (cO T l)/\Zf K (cO T l) "first_spot" f/\kd P w K mg base Td 1 f fd g (kq l)/\Zd K fd g []:=by
 intro l;cases l
 ·exact nx2 _ _ _ T.Zn.cl T.Ys.m (zK T) T.Ys.b
 ·exact nx2 _ _ _ T.ao.cl T.ft.m (AK T) T.ft.b
 ·exact nx2 _ _ _ T.bo.cl T.Yn.m (hB T) T.Yn.b
 ·exact nx2 _ _ _ T.eo.cl T.tJ (hB T) T.Yn.b
 ·exact nx2 _ _ _ T.fo.cl T.ut.m (BK T) T.ut.b
def DK(T:Tx K mg):T.Zs.Ok mg P w base 1 (dw .loose):=by
 refine Ua T.Zs.F λ_ _ _ _ _ h=>?_
 ·revert h;refine ea1 ?_;rintro x rfl q;exact⟨_,(ma (Ga vg)),q⟩
def Ht(T:Tx K mg):T.kj.Ok mg P w base 1 (dw .kept):=by
 refine Ua T.kj.F λ_ _ _ _ _ h=>?_
 ·revert h;refine ea1 ?_;rintro x rfl q;exact⟨_,(ma (Ga vg)),q⟩
def EK(T:Tx K mg):∀l,∃f fd g,Cls K (cO T l)/\Zf K (cO T l) "unkept" f/\kd P w K mg base Td 1 f fd g (dw l)/\Zd K fd g []:=by
 intro l;cases l
 ·exact nx2 _ _ _ T.Zn.cl T.Zs.m (DK T) T.Zs.b
 ·exact nx2 _ _ _ T.ao.cl T.kj.m (Ht T) T.kj.b
 ·exact nx2 _ _ _ T.bo.cl T.rJ (Ht T) T.kj.b
 ·exact nx2 _ _ _ T.eo.cl T.uJ (Ht T) T.kj.b
 ·exact nx2 _ _ _ T.fo.cl T.vJ (Ht T) T.kj.b
def iB(cls:Lv->uN):Sp:=λvs H Q _=>∃x:Str,vs=[.str x]/\(∃l,x=wd l)/\∀l,x=wd l->∀a g H',aa H H'->H' a=qN (.ins (cls l) g [])->Q (.ref a) H'
def jB(T:Tx K mg):T.vt.Ok P w base 2 (iB (cO T)):=by
 refine Ua T.vt.F λH _ _ _ F0 h=>?_
 ·revert h;refine ea8 ?_;rintro x rfl⟨q0,G0⟩k;refine⟨_,(pa (Jb Db rfl (Za (jc (ka (Up T.Zn.mo rfl T.mJ) (ka (Up T.ao.mo rfl T.nJ) (ka (Up T.bo.mo rfl T.oJ) (ka (Up T.eo.mo rfl T.pJ) (Ca (Up T.fo.mo rfl T.qJ)))))))) (bb 1)
   (ma (qc (xb Od (dz (pv 1) (oK T) (F0.mono (by decide))) (pv 0) (Bb _))
   (ma (Ga (pv 1)))
   pc)))
   (ma mD)),?_⟩
  show let I0:TS:=_;qa (Qb _ _ (zc _ _ _)) I0 _ _ _
  intros;intro r c0 J0 K0 L0;have x0:=aa.ti (C:=T.ui) J0 K0 L0;have d0:=ia (H:=upd H c0 (.own r)) (a:=r) (o:=HO.ins T.ui c0 []);generalize upd (upd H c0 (.own r)) r (.ins T.ui c0 [])=y0 at x0 d0⊢;intro J e0 M0 N0 O0;have r0:=aa.ti (C:=T.vi) M0 N0 O0;have f0:=ia (H:=upd y0 e0 (.own J)) (a:=J) (o:=HO.ins T.vi e0 []);generalize upd (upd y0 e0 (.own J)) J (.ins T.vi e0 [])=z0 at r0 f0⊢;intro O g0 P0 Q0 R0;have n0:=aa.ti (C:=T.xi) P0 Q0 R0;have h0:=ia (H:=upd z0 g0 (.own O)) (a:=O) (o:=HO.ins T.xi g0 []);generalize upd (upd z0 g0 (.own O)) O (.ins T.xi g0 [])=A0 at n0 h0⊢;intro U i0 S0 T0 U0;have j0:=aa.ti (C:=T.yi) S0 T0 U0;have k0:=ia (H:=upd A0 i0 (.own U)) (a:=U) (o:=HO.ins T.yi i0 []);generalize upd (upd A0 i0 (.own U)) U (.ins T.yi i0 [])=B0 at j0 k0⊢;intro Y l0 V0 W0 X0;have a0:=aa.ti (C:=T.zi) V0 W0 X0;have m0:=ia (H:=upd B0 l0 (.own Y)) (a:=Y) (o:=HO.ins T.zi l0 []);generalize upd (upd B0 l0 (.own Y)) Y (.ins T.zi l0 [])=C0 at a0 m0⊢;refine⟨pf,λp Y0=>?_⟩;have b0:=aa.upd (o:=HO.lst [V.ref r,.ref J,.ref O,.ref U,.ref Y]) Y0;have s0:=ia (H:=C0) (a:=p) (o:=HO.lst [V.ref r,.ref J,.ref O,.ref U,.ref Y]);have Z0:=x0.trans (r0.trans (n0.trans (j0.trans (a0.trans b0))));replace d0:=b0 _ _ (a0 _ _ (j0 _ _ (n0 _ _ (r0 _ _ d0))));replace f0:=b0 _ _ (a0 _ _ (j0 _ _ (n0 _ _ f0)));replace h0:=b0 _ _ (a0 _ _ (j0 _ _ h0));replace k0:=b0 _ _ (a0 _ _ k0);replace m0:=b0 _ _ m0;generalize upd C0 p (HO.lst [V.ref r,.ref J,.ref O,.ref U,.ref Y])=D0 at s0 Z0 d0 f0 h0 k0 m0⊢;have a1:∀(i:Nat)y,[V.ref r,.ref J,.ref O,.ref U,.ref Y][i]?=qN y->∃l a t0,ix l=i/\y=V.ref a/\D0 a=qN (.ins (cO T l) t0 []):=λi y g=>by
   match i,g with
   |0,g=>exact nx16 (.loose) r c0 rfl ((Ed g).symm) d0
   |1,g=>exact nx16 (.kept) J e0 rfl ((Ed g).symm) f0
   |2,g=>exact nx16 (.make) O g0 rfl ((Ed g).symm) h0
   |3,g=>exact nx16 (.watch) U i0 rfl ((Ed g).symm) k0
   |4,g=>exact nx16 (.hold) Y l0 rfl ((Ed g).symm) m0
   |n+5,g=>simp at g
  refine⟨p,rfl,⟨_,ca.of s0⟩,nc (K:=K)
   (λi o0 p0=>p0=D0/\∃(y:Option V),o0=[qN (.str x),y]/\∀l,ix l<i->x≠wd l)
   ⟨rfl,sN,rfl,by grind⟩ (by rintro i o0 p0 _⟨z,_⟩;exact z▸ca.of s0) ?_ ?_⟩
  ·rintro i y o0 p0 g⟨u0,b1,rfl,v0⟩;subst u0;refine ebA ?_ (a1 i y g);rintro l a t0 c1 rfl d1;refine⟨_,rfl,a,l,t0,[],rfl,d1,rfl,_,rfl,_,rfl,rfl,_,rfl,jb (λe=>?_) (λe=>?_)⟩
   ·exact⟨_,rfl,by grind⟩
   ·refine⟨rfl,_,rfl,λw0 e1=>?_⟩;rcases Qm.mp e1 with z|z
    ·exact v0 w0 z
    ·have:w0=l:=by
      rw[<-c1]at z;cases w0<;>cases l<;>first|rfl|cases z
     grind
  ·rintro o0 p0⟨u0,b1,rfl,v0⟩;subst u0;exact absurd G0 (v0 q0 (by show ix q0<5;cases q0<;>decide))
--@La
def tq(x:Str):Lv:=if x="kept"then .kept else if x="make"then .make else if x="watch"then .watch else if x="hold"then .hold else .loose
def Jt(h:x∈Rf):wd (tq x)=x:=by
 unfold Rf at h;simp only[rc,yj,or_false]at h;rcases h with rfl|rfl|rfl|rfl|rfl<;>decide+kernel
def FK(h:wd l=wd m):m=l:=by
 have key:∀l m:Lv,ix l≠ix m->wd l≠wd m:=by intro l m;cases l<;>cases m<;>decide+kernel
 by_cases e:ix l=ix m
 ·cases l<;>cases m<;>first|rfl|cases e
 simp_all
def wV:Option Str->V
 |none=>.Ra
 |some x=>.str x
def wb(w:Option Str)(d:Dl):Lv:=tq (w.getD d.2.1)
def Qc(w:Option Str)(d:Dl):List Nk:=(List.range (Pe (wb w d) (d.2.2.length:Int)).toNat).map λj:Nat=>(d.1,(j:Int))
def uq(p:Ps):Prop:=p.1.length<=8/\(p.1.map (·.1)).Nodup/\∀d∈p.1,d.2.1∈Rf/\d.2.2.length<=40
def Dm(cls:Lv->uN)(H:Hp)(e:uN)(w:Option Str)(p:Ps):Prop:=∃kvs,H e=qN (.dK kvs)/\∀d∈p.1,∃a g,Ka kvs (Sum.inl d.1)=qN (.ref a)/\H a=qN (.ins (cls (wb w d)) g [])
def Dm.same{w:Option Str}(s:aa H H')(h:Dm cls H e w p):Dm cls H' e w p:=by obtain⟨kvs,a,b⟩:=h;exact⟨kvs,s _ _ a,λd g=>by refine eaA ?_ (b d g);rintro x r c f;exact nx4 x r c (s _ _ f)⟩
inductive GK(cls:Lv->uN)(vs:List V)(H:Hp)(Q:VK)(E:XK):Prop|mk(v:V)(p:Ps)(w:Option Str)(_:vs=[v,wV w])(_:Tr H v (Ih p))(_:uq p)(_:(∀x,w=qN x->x∈Rf))(_:∀e H',aa H H'->Dm cls H' e w p->Q (.ref e) H')
inductive HK(cls:Lv->uN)(vs:List V)(H:Hp)(Q:VK)(E:XK):Prop|mk(v:V)(a:uN)(d:Dl)(w:Option Str)(dx:uN)(_:vs=[v,.ref a])(_:Tr H v (ee d))(_:H a=qN (.ins (cls (wb w d)) dx []))(_:d.2.2.length<=40)(_:∀D H' ys,H D=sN->aa H H'->H' D=qN (.lst ys)->Cc H' ys (Qc w d)->Q (.ref D) H')
inductive IK(cls:Lv->uN)(vs:List V)(H:Hp)(Q:VK)(E:XK):Prop|mk(v:V)(p:Ps)(w:Option Str)(_:vs=[v,wV w])(_:Tr H v (Ih p))(_:uq p)(_:(∀x,w=qN x->x∈Rf))(_:∀D H' ys,H D=sN->aa H H'->H' D=qN (.lst ys)->Cc H' ys (p.1.flatMap (Qc w))->Q (.ref D) H')
def lj(h:Tr H v (Ih p)):∃a l m r J,v=.ref a/\H a=qN (.tup [.ref l,.ref m])/\H l=qN (.lst r)/\Qa H r (p.1.map ee)/\H m=qN (.lst J)/\Qa H J (p.2.map qe):=by
 cases h with
 |tup h g=>
  cases g with
  |cons O g=>
   cases O with
   |lst U Y=>
    cases g with
    |cons a0 g=>
     cases a0 with
     |lst b0 c0=>
      cases g;exact nx13 _ _ _ _ _ rfl h U Y ⟨b0,c0⟩
def hf(h:Tr H v (ee d)):∃p L r,v=.ref p/\H p=qN (.tup [.int d.1,.str d.2.1,.ref L])/\H L=qN (.lst r)/\Qa H r (d.2.2.map oo):=by
 cases h with
 |tup h g=>
  cases g with
  |cons J g=>
   cases J;cases g with
   |cons O g=>
    cases O;cases g with
    |cons U g=>
     cases U with
     |lst a b=>
      cases g;exact nx2 _ _ _ rfl h a b
def Kt(w:Option Str)(d:Dl)(h:d.2.2.length<=40):0<=Pe (wb w d) (d.2.2.length:Int)/\Pe (wb w d) (d.2.2.length:Int)<=41:=by
 generalize wb w d=l;cases l<;>simp only[Pe]<;>lia
def JK{k:Key}(h:Ka kvs k=sN):Gb kvs k v=kvs++[(k,v)]:=by
 unfold Gb;rw[na];intro z;obtain⟨q,g,e⟩:=Qi.mp z;unfold Ka at h;rw[Rq,Yo]at h;exact h q g e
def Em:∀(l a:List (Key×V)),((a++l).map (·.1)).Nodup->Uj a l=a++l
 |[],a,_=>by simp[Uj]
 |q::r,a,h=>by
  have e:Gb a q.1 q.2=a++[q]:=JK (by
   unfold Ka
   grind)
  show Uj (Gb a q.1 q.2) r=_;rw[e,Em r (a++[q]) (by simpa using h)];simp
inductive Mt(cls:Lv->uN)(w:Option Str)(H:Hp)(y:V)(d:Dl):Prop|mk(t x dx)(_:y=.ref t)(_:H t=qN (.tup [.int d.1,.ref x]))(_:H x=qN (.ins (cls (wb w d)) dx []))
def LK{w:Option Str}:∀H H' y d,KN H H'->Mt cls w H y d->Mt cls w H' y d:=by rintro H H' y d k⟨t,x,g,e,r,J⟩;exact⟨t,x,g,e,k _ _ (λxs z=>by cases z) r,k _ _ (λxs z=>by cases z) J⟩
def MK{cls:Lv->uN}{w:Option Str}{K:W.Frag}{H:Hp}{ys:List V}{r:List Dl}(O:Paired (Mt cls w H) ys r):∃g:List (Key×V),fj K H ys g/\g.map (·.1)=r.map (λd=>(Sum.inl d.1:Key))/\∀d∈r,∃x J,((Sum.inl d.1:Key),V.ref x)∈g/\H x=qN (.ins (cls (wb w d)) J []):=by
 induction O with
 |nil=>exact⟨[],.nil,rfl,λd U=>by cases U⟩
 |@cons _ d _ _ Y _ a0=>
  obtain⟨t,x,J,rfl,b0,c0⟩:=Y;revert a0;refine ea8 ?_;rintro g a b c;refine⟨(Sum.inl d.1,.ref x)::g,.cons (oa.of b0) a,by rw[Sc,Sc,b],λd' d0=>?_⟩
  grind
def kB:∀H H' y(n:Nk),KN H H'->sb H y n->sb H' y n:=by rintro H H' y n k⟨p,e,h⟩;exact⟨p,e,k _ _ (λxs z=>by cases z) h⟩
def lB(k:KN H H')(h:Cc H ys ns):Cc H' ys ns:=Paired.Yb h λ_ _ z=>kB _ _ _ _ k z
def Ai:∀{vs:List V}{g:List α},Qa H vs (g.map r)->Paired (λv a=>Tr H v (r a)) vs g
 |_,[],.nil=>.nil
 |_,_::_,.cons h J=>.cons h (Ai J)
def gx(T:Tx K mg):T.lq.Ok P w base 3 (GK (cO T)):=by
 refine Ua T.lq.F λ{_ A _ _}H _ _ _ a0 h=>?_
 ·obtain⟨v,p,wo,rfl,tr,⟨D0,n0,o0⟩,b0,p0⟩:=h;refine⟨_,(yG (qc (xb Dp (pv 1) yh (Bb _))
   (ma (Nd (fb T.vt (jB T) a0 (za 1))))
   pc)
   (ma (Ga (aj (Jn (K:=K) rfl rfl) (by rfl) T.ak Bj (Ca (Ud ["deal"] ["word"] [1] (Za (Ja zb (pv 0) la)) (bc 0) Ie (Rb (ka (Ja (ie (K:=K) rfl) (pv 0) la) (Ca (fb T.vt (jB T) a0 (Ca (qr (xb HD (pv 1) yh (Bb _)) (Ja (ie (K:=K) rfl) (pv 0) la) (pv 1))))))))))))),?_⟩
  show let q0:TS:=_;Az (zc _ _ _) q0 _ _ _
  intros;refine⟨λc0 d0=>c0=[qN v,qN (wV wo)]/\aa H d0,?_,?_⟩
  ·cases wo with
   |none=>exact⟨_,rfl,rfl,_,rfl,yg (A:=_) ⟨rfl,aa.refl _⟩⟩
   |some x=>exact⟨_,rfl,rfl,_,rfl,Xk (B:=_) ⟨_,rfl,x,rfl,⟨tq x,(Jt (b0 x rfl)).symm⟩,λl e a r H' s' _=>⟨rfl,s'⟩⟩⟩
  ·rintro c0 d0⟨rfl,g⟩;refine eaB ?_ (lj tr);rintro a l m F0 G0 rfl r0 e0 s0 _ _;refine⟨_,rfl,a,_,_,_,rfl,rfl,oa.of (g _ _ r0),rfl,l,rfl,⟨_,ca.of (g _ _ e0)⟩,dh (k:=1) (fs:=[qN (wV wo)]) (Mt (cO T) wo) (λH v d=>Tr H v (ee d)) p.1 qN LK (λ_ _ _ _ f0 z=>z.same f0) rfl (g _ _ e0) (Ai (s0.same g)) (by have:vN=2^24:=rfl;lia) (λd U g0 I0 v R f0 t0 u0 v0 _=>?_) (λD g0 ys J0 w0 x0 h0=>?_)⟩
   ·obtain⟨t,rfl⟩:=Zc.mp t0;refine ea5 ?_ (hf u0);rintro Y L K0 rfl i0 _ _;obtain⟨y0,_⟩:=o0 d U;refine⟨_,rfl,Y,_,_,_,rfl,rfl,oa.of i0,rfl,?_⟩;have fin:∀(x:Str),x∈Rf->wb wo d=tq x->iB (cO T) [.str x] g0 (λy j0=>[V.int d.1,y].length<=vN/\∀q,j0 q=sN->R (qN (.ref q)) ([qN (.ref Y)]++[qN (wV wo)]) (upd j0 q (.tup [.int d.1,y]))) (λ_ _ _=>False):=λx J z0=>by
     refine⟨x,rfl,⟨tq x,(Jt J).symm⟩,λl e A0 r H' s' h'=>⟨Ha,λq k0=>v0 d _ [_] _ rfl rfl (s'.trans (aa.upd k0)) ⟨q,A0,r,rfl,ia,aa.upd k0 _ _ ?_⟩⟩⟩;have:wb wo d=l:=by
      rw[z0];exact FK (e.symm.trans (Jt J).symm)
     rw[this];exact h'
    cases wo with
    |none=>exact⟨_,rfl,rfl,_,rfl,Xk (B:=_) ⟨_,rfl,Y,_,_,_,rfl,rfl,oa.of i0,rfl,fin d.2.1 y0 rfl⟩⟩
    |some x=>exact⟨_,rfl,rfl,_,rfl,yg (A:=_) ⟨_,rfl,fin x (b0 x rfl) rfl⟩⟩
   ·rw[jp]at h0;obtain⟨O,B0,pk,pv⟩:=MK (K:=K) h0;have L0:O.length=p.1.length:=by have:=Vb List.length pk;simpa using this
    have l0:(O.map (·.1)).Nodup:=by
     rw[pk];exact Gd.mpr (Oi (λz e=>z (Ji e)) (Gd.mp n0))
    refine nx8 D ys O rfl x0 B0 (by lia) λe m0=>p0 e _ (g.trans (w0.trans (aa.upd m0))) ⟨_,ia,λd U=>?_⟩;rw[Em O [] (by simpa using l0)];refine eaA ?_ (pv d U);rintro x r C0 J;exact nx4 x r (gm l0 C0) (aa.upd m0 _ _ J)
def jx(T:Tx K mg):T.mq.Ok P w base 2 (HK (cO T)):=by
 refine Ua T.mq.F λ_ _ _ _ U h=>?_
 ·obtain⟨v,a,d,wo,Y,rfl,tr,a0,b0,q⟩:=h;refine⟨_,(ma (Ga (Ud ["place"] ["deal"] [0] (Yl rfl T.zm (Ca (lv (pv 1) (uK T) (U.mono (by decide)) (Ca (Cd Yf (by rfl) T.Cf mf (Ca (Ja zb (pv 0) la))))))) (bc 0) Ie (Rb (ka (Ja (ie (K:=K) rfl) (pv 1) la) (za 0)))))),?_⟩;refine ea5 ?_ (hf tr);rintro g L c0 rfl r d0 e0;have f0:c0.length=d.2.2.length:=by rw[e0.len,ua]
  have n0:=Kt wo d b0;refine⟨_,rfl,a,wb wo d,Y,[],rfl,a0,rfl,_,rfl,g,_,_,_,rfl,rfl,oa.of r,rfl,_,_,rfl,.inl ⟨_,ca.of d0,rfl⟩,_,_,rfl,?_⟩;rw[f0];refine⟨_,rfl,(by lia),(by lia),JH (k:=1) (fs:=[qN (.ref g)]) sb _ (λj=>qN (d.1,(j:Int))) kB rfl (by have:vN=2^24:=rfl;lia) (λj o0 J p0 R g0 h0 i0 _=>?_) (λD J ys j0 k0 l0 O=>q D J ys j0 k0 l0 ?_)⟩
  ·obtain⟨t,rfl⟩:=Zc.mp h0;refine⟨_,rfl,g,_,_,_,rfl,rfl,oa.of (g0 _ _ r),rfl,_,rfl,Ha,λn m0=>i0 _ _ [_] _ rfl rfl (aa.upd m0) ⟨n,rfl,?_⟩⟩;rw[ia,Int.zero_add]
  ·unfold Qc;rw[qo]at O;exact O
def NK(T:Tx K mg):T.nq.Ok P w base 4 (IK (cO T)):=by
 refine T.nq.F.ok (gq (N:=Oe (Ac (top 40)))) (λvs H Q E h=>?_) (λN0 A outer s H vs Q E b0 h=>?_)
 ·obtain⟨v,p,wo,rfl,_⟩:=h;rfl
 ·obtain⟨v,p,wo,rfl,tr,O,s0,t0⟩:=h;have u0:=kc b0;refine⟨_,(pa (Ma 2 (fb T.lq (gx T) b0 (ka (pv 0) (za 1))))
   (pa (Ma 3 (jc Oc))
   (pa (Jb Db rfl (Za (Ja zb (pv 0) la)) (bb 4)
   (ma (Nd (Xc jd Ii Ti Cn (pv 3) (Ca (fb T.mq (jx T) b0 (ka (pv 4) (Ca (Mc u0 (pv 2) (Ja zb (pv 4) la))))))))))
   (ma (Ga (pv 3)))))),?_⟩
  show let v0:TS:=_;let w0:TS:=qa (Qb _ _ _) v0;let x0:TS:=qa _ w0;qa _ x0 _ _ _
  intros;refine⟨_,rfl,_,rfl,v,p,wo,rfl,tr,O,s0,λe i0 c0 y0=>?_⟩;refine⟨(by decide),λF d0=>?_⟩;have z0:=ia (H:=i0) (a:=F) (o:=HO.lst []);have e0:=aa.upd (o:=HO.lst []) d0;refine eaB ?_ (lj (tr.same c0));rintro a l m A0 O0 rfl B0 j0 k0 _ _;refine⟨_,rfl,a,_,_,_,rfl,rfl,oa.of (e0 _ _ B0),rfl,l,rfl,⟨_,ca.of (e0 _ _ j0)⟩,nc (K:=K) (λi U r=>∃(f0:Option V)(ys:List V),U=[qN (.ref a),qN (wV wo),qN (.ref e),qN (.ref F),f0]/\aa i0 r/\r F=qN (.lst ys)/\ys.length<=41*i/\Cc r ys ((p.1.take i).flatMap (Qc wo))) (nx15 sN ([]) rfl e0 z0 (wa _) (.nil)) (by rintro i U r _⟨_,_,_,g,_⟩;exact ca.of (g _ _ j0)) ?_ ?_⟩
  ·rintro i y U r C0;refine eb0 ?_;rintro f0 ys rfl g J D0 pn;refine ea1 ?_ (k0.get C0);rintro dd l0 m0;rw[lb]at l0;refine ea1 ?_ (Jd.mp l0);rintro d g0 rfl;have h0:=Xa g0;have P0:i<8:=by have:=(rb.mp g0).1;have:=O.1;lia
   refine ea1 ?_ (y0.same g);rintro kvs F0 G0;refine eaA ?_ (G0 d h0);rintro x I0 J0 K0;refine ea5 ?_ (hf (m0.same g));rintro n0 L Q0 rfl L0 _ _;have o0:=oe.k (k:=Sum.inl d.1) F0;rw[J0]at o0;refine⟨_,rfl,Or.inl ⟨rfl,_,ca.of J⟩,_,rfl,_,rfl,_,rfl,n0,_,_,_,rfl,rfl,oa.of L0,rfl,e,_,rfl,o0,.ref n0,x,d,wo,I0,rfl,m0.same g,K0,(O.2.2 d h0).2,λD R0 Y S0 a0 M0 p0=>?_⟩;have T0:Y.length<=41:=by
    rw[Ta p0];unfold Qc;rw[ua,Ef];have:=Kt wo d (O.2.2 d h0).2;lia
   refine⟨F,D,ys,Y,rfl,rfl,a0 _ _ J,M0,(by have:vN=2^24:=rfl;lia),?_⟩;have q0:=KN.upd (o:=HO.lst (ys++Y)) (a0 _ _ J);refine nx15 _ _ rfl (λb o r0=>?_) ia (by rw[Ya];lia) ?_
   ·rw[ja (show b≠F from Pc r0 d0)];exact a0 _ _ (g _ _ r0)
   ·rw[gc,g0,wk];refine Se (lB ((KN.of a0).trans q0) pn) ?_;show Cc _ Y (List.flatMap (Qc wo) [d]);rw[Ph,Bl,z1h];exact lB q0 p0
  ·rintro U r;refine eb0 ?_;rintro f0 ys rfl g J D0 pn;have:A0.length=p.1.length:=by rw[k0.len,ua]
   rw[this,vc]at pn;exact⟨_,rfl,t0 F r ys (c0.free d0) (c0.trans g) J pn⟩
--@La
def ck(w:Option Str)(d:Dl):Nk:=(d.1,Pe (wb w d) (d.2.2.length:Int)-1)
def Fm(w:Option Str)(d:Dl):Nk:=(d.1,Tn (wb w d) (d.2.2.length:Int))
def kx(H:Hp)(e:uN)(p:Ps)(f:Dl->Nk):Prop:=∃kvs,H e=qN (.dK kvs)/\∀d∈p.1,∃v,Ka kvs (.inl d.1)=qN v/\sb H v (f d)
inductive mB(cls:Lv->uN)(f:Option Str->Dl->Nk)(vs:List V)(H:Hp)(Q:VK)(E:XK):Prop|mk(v:V)(e:uN)(p:Ps)(w:Option Str)(_:vs=[v,.ref e])(_:Tr H v (Ih p))(_:uq p)(_:Dm cls H e w p)(_:∀k H',aa H H'->kx H' k p (f w)->Q (.ref k) H')
def vq(p:Ps)(n:Int):Option Dl:=p.1.find? λd=>decide (d.1=n)
def OK(h:xs[xs.length-1]?=qN v):Lf xs (-1)=qN v:=by
 have g:=(rb.mp h).1;unfold Lf bj;rw[na (by decide),va (by lia)];have e:(-1+(xs.length:Int)).toNat=xs.length-1:=by lia
 simpa[e]using h
def Nt(h:Tr H v (Zw p)):∃a,v=.ref a/\H a=qN (.tup [.int p.1,.int p.2]):=by
 cases h with
 |tup h g=>
  cases g with
  |cons r g=>
   cases g with
   |cons J g=>
    cases g;cases r;cases J;exact⟨_,rfl,h⟩
def Sf(h:Tr H v (.list g)):∃a xs,v=.ref a/\H a=qN (.lst xs)/\Qa H xs g:=by
 cases h with
 |lst h r=>exact nx0 _ _ rfl h r
def wq(f:Dl->Nk)(H:Hp)(y:V)(d:Dl):Prop:=∃t v,y=.ref t/\H t=qN (.tup [.int d.1,v])/\sb H v (f d)
def nB(f:Dl->Nk):∀H H' y d,KN H H'->wq f H y d->wq f H' y d:=by rintro H H' y d k⟨t,v,e,g,q,r,J⟩;exact⟨t,nx5 v e (k _ _ (λ_ z=>by cases z) g) q ⟨r,k _ _ (λ_ z=>by cases z) J⟩⟩
def oB{K:W.Frag}{f:Dl->Nk}{H:Hp}{ys:List V}{r:List Dl}(O:Paired (wq f H) ys r):∃g:List (Key×V),fj K H ys g/\g.map (·.1)=r.map (λd=>Sum.inl d.1)/\∀d∈r,∃v,(Sum.inl d.1,v)∈g/\sb H v (f d):=by
 induction O with
 |nil=>exact⟨[],.nil,rfl,λd J=>by cases J⟩
 |@cons _ U _ _ h _ Y=>
  revert Y;refine ea8 ?_;rintro g a0 b0 d0;revert h;refine ea0 ?_;rintro t' v rfl c0 e0;refine⟨(.inl U.1,v)::g,.cons (oa.of c0) a0,by rw[Sc,Sc,b0],λd J=>?_⟩
  grind
def pB{g:List Dl}(r:(g.map (·.1)).Nodup):(g.map (λd=>(Sum.inl d.1:Key))).Nodup:=Gd.mpr (Oi (λz e=>z (Ji e)) (Gd.mp r))
def PK{p:Ps}(g:(p.1.map (·.1)).Nodup){d:Dl}(h:d∈p.1):vq p d.1=qN d:=by
 unfold vq;generalize p.1=l at*;induction l with
 |nil=>cases h
 |cons x r J=>
  grind
def sb.sm(s:aa H H')(h:sb H v q):sb H' v q:=by obtain⟨p,e,g⟩:=h;exact⟨p,e,s _ _ g⟩
def QK(s:aa H H')(h:Cc H ys ns):Cc H' ys ns:=Paired.imp' (λ_ _ x=>sb.sm s x) h
def qB(T:Tx K mg):T.wt.Ok P w base 3 (mB (cO T) ck):=by
 refine Ua T.wt.F λH _ _ _ e0 h=>?_
 ·obtain⟨v,e,p,wo,rfl,tr,o0,p0,q⟩:=h;have q0:=kc e0;refine⟨_,(ma (Ga (aj (Jn (K:=K) rfl rfl) (by rfl) T.ak Bj (Ca (Ud ["deal"] ["levels"] [1] (Za (Ja zb (pv 0) la)) (bc 0) Ie (Rb (ka (Ja (ie (K:=K) rfl) (pv 0) la) (Ca (Ja (Sy (K:=K) rfl) (fb T.mq (jx T) e0 (ka (pv 0) (Ca (Mc q0 (pv 1) (Ja (ie (K:=K) rfl) (pv 0) la))))) (zp Cp la)))))))))),?_⟩;revert o0;refine ea3 ?_;rintro N0 r0 s0;refine eaB ?_ (lj tr);rintro a l m O0 P0 rfl t0 f0 u0 _ _;refine⟨_,rfl,a,_,_,_,rfl,rfl,oa.of t0,rfl,l,rfl,⟨_,ca.of f0⟩,dh (k:=1) (fs:=[qN (.ref e)]) (wq (ck wo)) (λH v d=>Tr H v (ee d)) p.1 qN (nB _) (λ_ _ _ _ Y z=>z.same Y) rfl f0 (Ai u0) (by have:vN=2^24:=rfl;lia) (λd r v0 Q0 v R Y w0 g0 x0 _=>?_) λD v0 ys R0 y0 z0 h0=>?_⟩
  ·obtain⟨t,rfl⟩:=Zc.mp w0;refine ea5 ?_ (hf g0);rintro a0 L S0 rfl i0 _ _;refine ea1 ?_ (p0.same Y);rintro kvs J A0;refine eaA ?_ (A0 d r);rintro x B0 C0 D0;have j0:=oe.k (k:=Sum.inl d.1) J;rw[C0]at j0;refine⟨_,rfl,a0,_,_,_,rfl,rfl,oa.of i0,rfl,_,rfl,_,rfl,_,rfl,a0,_,_,_,rfl,rfl,oa.of i0,rfl,e,_,rfl,j0,.ref a0,x,d,wo,B0,rfl,g0,D0,(s0 d r).2,λF0 T0 g U0 G0 I0 pn=>?_⟩;have V0:1<=Pe (wb wo d) (d.2.2.length:Int):=by
    generalize wb wo d=J0;cases J0<;>simp only[Pe]<;>lia
   have W0:g.length=(Pe (wb wo d) (d.2.2.length:Int)).toNat:=by
    rw[Ta pn];unfold Qc
    simp_all
   obtain⟨O,k0⟩:∃O,g[g.length-1]?=qN O:=⟨_,Wb (by grind)⟩;refine ea1 ?_ (Lb pn k0);rintro K0 b0 l0;have ek:K0=ck wo d:=by
    unfold Qc at b0;rw[lb,List.getElem?_range (by grind)]at b0;have:=(Ed b0).symm;rw[this];unfold ck;refine Uh rfl ?_;show((g.length-1:Nat):Int)=_;grind
   rw[ek]at l0;refine⟨_,rfl,F0,g,_,O,rfl,rfl,ca.of I0,OK k0,Ha,λt m0=>x0 d _ [_] _ rfl rfl (G0.trans (aa.upd m0)) (nx0 t O rfl ia ?_)⟩;obtain⟨c0,eq,d0⟩:=l0;exact⟨c0,eq,aa.upd m0 _ _ d0⟩
  ·rw[jp]at h0;obtain⟨U,L0,pk,pv⟩:=oB h0;have X0:U.length=p.1.length:=by have:=Vb List.length pk;simpa using this
   have n0:(U.map (·.1)).Nodup:=by rw[pk];exact pB r0
   refine nx8 D ys U rfl z0 L0 (by lia) λk J=>q k _ (y0.trans (aa.upd J)) ⟨_,ia,λd r=>?_⟩;rw[Em U [] (by simpa using n0)];refine eb6 ?_ (pv d r);rintro v M0 c0 eq d0;exact nx11 v (gm n0 M0) c0 ⟨eq,aa.upd J _ _ d0⟩
def RK(T:Tx K mg):T.iw.Ok P w base 2 (mB (cO T) Fm):=by
 refine Ua T.iw.F λH _ _ _ a0 h=>?_
 ·obtain⟨v,e,p,wo,rfl,tr,g0,h0,q⟩:=h;have i0:=kc a0;refine⟨_,(ma (Ga (aj (Jn (K:=K) rfl rfl) (by rfl) T.ak Bj (Ca (Ud ["deal"] ["levels"] [1] (Za (Ja zb (pv 0) la)) (bc 0) Ie (Rb (ka (Ja (ie (K:=K) rfl) (pv 0) la) (Ca (Rb (ka (Ja (ie (K:=K) rfl) (pv 0) la) (Ca (lv (Mc i0 (pv 1) (Ja (ie (K:=K) rfl) (pv 0) la)) (CK T) (a0.mono (by decide)) (Ca (Cd (XH (K:=K) rfl) (by rfl) T.Cf mf (Ca (Ja (ie (K:=K) rfl) (pv 0) la)))))))))))))))),?_⟩;revert g0;refine ea3 ?_;rintro I0 j0 J0;refine eaB ?_ (lj tr);rintro a l m K0 L0 rfl k0 b0 l0 _ _;refine⟨_,rfl,a,_,_,_,rfl,rfl,oa.of k0,rfl,l,rfl,⟨_,ca.of b0⟩,dh (fs:=[qN (.ref e)]) (wq (Fm wo)) (λH v d=>Tr H v (ee d)) p.1 qN (nB _) (λ_ _ _ _ U z=>z.same U) rfl b0 (Ai l0) (by have:vN=2^24:=rfl;lia) (λd Y m0 M0 v R U n0 o0 p0 _=>?_) λD m0 ys N0 q0 r0 c0=>?_⟩
  ·obtain⟨t,rfl⟩:=Zc.mp n0;refine ea5 ?_ (hf o0);rintro g L s0 rfl r t0 u0;have v0:s0.length=d.2.2.length:=by rw[u0.len,ua]
   refine ea1 ?_ (h0.same U);rintro kvs J w0;refine eaA ?_ (w0 d Y);rintro x x0 y0 z0;have d0:=oe.k (k:=Sum.inl d.1) J;rw[y0]at d0;refine⟨_,rfl,g,_,_,_,rfl,rfl,oa.of r,rfl,_,rfl,g,_,_,_,rfl,rfl,oa.of r,rfl,_,rfl,_,rfl,g,_,_,_,rfl,rfl,oa.of r,rfl,e,_,rfl,d0,x,wb wo d,x0,[],rfl,z0,rfl,_,rfl,g,_,_,_,rfl,rfl,oa.of r,rfl,_,_,rfl,.inl ⟨_,ca.of t0,rfl⟩,_,_,rfl,?_⟩;rw[v0];refine⟨Ha,λt A0=>⟨Ha,λB0 e0=>p0 d _ [_] _ rfl rfl ((aa.upd A0).trans (aa.upd e0)) (⟨B0,nx5 (.ref t) rfl ia t ⟨rfl,aa.upd e0 _ _ ia⟩⟩)⟩⟩
  ·rw[jp]at c0;obtain⟨O,C0,pk,pv⟩:=oB c0;have O0:O.length=p.1.length:=by have:=Vb List.length pk;simpa using this
   have f0:(O.map (·.1)).Nodup:=by rw[pk];exact pB j0
   refine nx8 D ys O rfl r0 C0 (by lia) λk J=>q k _ (q0.trans (aa.upd J)) ⟨_,ia,λd Y=>?_⟩;rw[Em O [] (by simpa using f0)];refine eb6 ?_ (pv d Y);rintro v D0 F0 eq G0;exact nx11 v (gm f0 D0) F0 ⟨eq,aa.upd J _ _ G0⟩
--@La
def Nc{α:Type}:List α->List (α×α)
 |[]=>[]
 |x::r=>r.map (λy=>(x,y))++Nc r
def Ot:∀{xs:List α},(a,b)∈Nc xs->a∈xs/\b∈xs
 |x::r,h=>by
  rcases fc.mp h with z|z
  ·obtain⟨y,g,e⟩:=Sa.mp z;cases e;exact⟨.head _,.tail _ g⟩
  ·exact(Ot z).imp (.tail _) (.tail _)
def ke(w:Option Str)(p:Ps)(m:Int):Nk:=match vq p m with
 |some d=>ck w d
 |none=>(m,0)
def Bi(w:Option Str)(p:Ps)(m:Int):Nk:=match vq p m with
 |some d=>Fm w d
 |none=>(m,0)
def Jh(w:Option Str)(d:Dl):List Eg:=(Nc (Qc w d)).map λq=>(q.1,q.2,"own",sN)
def mc(ms:List Int)(s:Int):Nat:=if s=0 then 0 else ms.idxOf s+1
def Gg(w:Option Str)(p:Ps)(n pl:Int)(q:Pr):List Eg:=if q.2=-1 then[]else
 (((kb p.2 q.1).take (mc (kb p.2 q.1) q.2)).filter λm=>decide (m≠n)).map (λm=>((ke w p m,(n,pl),"saw",qN q.1):Eg))++
 (((kb p.2 q.1).drop (mc (kb p.2 q.1) q.2)).filter λm=>decide (m≠n)).map (λm=>(((n,pl),ke w p m,"unseen",qN q.1):Eg))
def ih(w:Option Str)(p:Ps)(d:Dl)(i:Nat):List Eg:=match hh (wb w d) (i:Int)with
 |none=>[]
 |some pl=>(d.2.2.getD i []).flatMap (Gg w p d.1 pl)
def jh(w:Option Str)(p:Ps)(d:Dl):List Eg:=(List.range d.2.2.length).flatMap (ih w p d)
def Ci(w:Option Str)(p:Ps)(m:pb):List Eg:=(Nc m.2).map λq=>(ke w p q.1,Bi w p q.2,"over",qN m.1)
def Di(w:Option Str)(p:Ps):List Eg:=p.1.flatMap (Jh w)++p.1.flatMap (jh w p)++p.2.flatMap (Ci w p)
structure GH(p:Ps):Prop where
 gp:uq p
 nums:(p.1.map (·.1)).Pairwise (·<·)
 pos:∀d∈p.1,0<d.1
 keys:(p.2.map (·.1)).Pairwise (·<·)
 Gm:p.2.length<=30
 rB:∀m∈p.2,m.2.Nodup/\∀x∈m.2,x∈p.1.map (·.1)
 Hg:∀d∈p.1,∀lk∈d.2.2,lk.length<=4/\∀q∈lk,q.2=-1\/q.2=0\/q.2∈kb p.2 q.1
def kh(w:Option Str)(p:Ps):List Nk:=p.1.flatMap (Qc w)
def lx{w:Option Str}:n∈kh w p↔∃d∈p.1,d.1=n.1/\0<=n.2/\n.2<Pe (wb w d) (d.2.2.length:Int):=by
 unfold kh Qc;rw[Xe];constructor
 ·refine ea1 ?_;rintro d g h;refine ea1 ?_ (Sa.mp h);rintro j r rfl;have:=Ye.mp r;exact⟨d,g,rfl,(by simp_all),(by simp_all)⟩
 ·refine eb1 ?_;rintro d g e J O;exact⟨d,g,Sa.mpr ⟨n.2.toNat,Ye.mpr (by lia),Uh e (by lia)⟩⟩
def GH.at(g:GH p)(h:d∈p.1):vq p d.1=qN d:=PK g.gp.2.1 h
def GH.num{p:Ps}(r:GH p){k x:Int}(h:x∈kb p.2 k):(∃d∈p.1,d.1=x)/\0<x/\k∈p.2.map (·.1)/\(kb p.2 k).Nodup:=by
 by_cases g:k∈p.2.map (·.1)
 ·have O:=Xa (ro g);obtain⟨U,Y⟩:=r.rB _ O;refine ea1 ?_ (Sa.mp (Y x h));rintro d J e;exact⟨⟨d,J,e⟩,e▸r.pos d J,g,U⟩
 ·rw[ax g]at h;cases h
def GH.xq(r:GH p)(k:Int):(kb p.2 k).Nodup:=by
 by_cases g:k∈p.2.map (·.1)
 ·exact(r.rB _ (Xa (ro g))).1
 ·rw[ax g];exact .nil
def uo(O:GH p)(h:m∈p.2):kb p.2 m.1=m.2:=by
 have U:m.1∈p.2.map (·.1):=Sa.mpr ⟨m,h,rfl⟩;have g:=ro U;obtain⟨i,r⟩:=Hd.mp h;have Y:(p.2.map (·.1)).Nodup:=Oi (λz=>by lia) O.keys;have J:(p.2.map (·.1))[i]?=qN m.1:=by rw[lb,r];rfl
 have a0:(p.2.map (·.1))[nl p.2 m.1]?=qN m.1:=by rw[lb,g];rfl
 have b0:=(hp (rb.mp J).1 Y).mp (J.trans a0.symm);rw[<-b0,r]at g;exact(Vb Prod.snd (Ed g)).symm
def Pt{w:Option Str}(g:GH p)(h:d∈p.1):ke w p d.1=ck w d:=by unfold ke;rw[g.at h]
def Qt{w:Option Str}(g:GH p)(h:d∈p.1):Bi w p d.1=Fm w d:=by unfold Bi;rw[g.at h]
def Rt{w:Option Str}(r:GH p)(h:∃d∈p.1,d.1=x):ke w p x∈kh w p/\(ke w p x).1=x/\Bi w p x∈kh w p/\(Bi w p x).1=x:=by
 obtain⟨d,g,rfl⟩:=h;rw[Pt r g,Qt r g];have J:1<=Pe (wb w d) (d.2.2.length:Int)/\0<=Tn (wb w d) (d.2.2.length:Int)/\Tn (wb w d) (d.2.2.length:Int)<Pe (wb w d) (d.2.2.length:Int):=by
  generalize wb w d=l;cases l<;>simp only[Pe,Tn]<;>lia
 exact⟨lx.mpr ⟨d,g,rfl,(by show 0<=Pe _ _-1;simp_all),(by show Pe _ _-1<_;lia)⟩,rfl,lx.mpr ⟨d,g,rfl,J.2.1,J.2.2⟩,rfl⟩
def SK{i n:Nat}(h:hh l (i:Int)=qN pl)(g:i<n):0<=pl/\pl<Pe l (n:Int):=by
 cases l<;>simp only[hh,Pe]at h⊢<;>first|(injection h with h;lia)|(cases h)
def sB(w:Option Str)(p:Ps)(x:Eg):Prop:=(x.1∈kh w p/\x.2.1∈kh w p)/\Xj x
def uB{w:Option Str}{p:Ps}(g:GH p){x:Eg}(h:x∈Di w p):sB w p x:=by
 have O:∀{s:Str}{k:Int}{a b:Nk},s="saw"\/s="unseen"\/s="over"->Xj (a,b,s,qN k):=λ{s _ _ _}h=>⟨.inr h,λe=>by have e:s="own":=e;rcases h with rfl|rfl|rfl<;>exact absurd e (by decide+kernel),λe=>by cases e⟩
 rcases fc.mp h with h|h
 ·rcases fc.mp h with h|h
  ·obtain⟨d,J,h⟩:=Xe.mp h;obtain⟨q,U,rfl⟩:=Sa.mp h;have m:=Ot U;exact⟨⟨Xe.mpr ⟨d,J,m.1⟩,Xe.mpr ⟨d,J,m.2⟩⟩,.inl rfl,by simp⟩
  ·obtain⟨d,J,h⟩:=Xe.mp h;obtain⟨i,a0,h⟩:=Xe.mp h;unfold ih at h;split at h
   ·cases h
   ·next pl b0=>
    obtain⟨q,_,h⟩:=Xe.mp h;have l:=SK b0 (Ye.mp a0);have Y:(d.1,pl)∈kh w p:=lx.mpr ⟨d,J,rfl,l.1,l.2⟩;unfold Gg at h;split at h
    ·cases h
    ·rcases fc.mp h with h|h
     ·obtain⟨m,r,rfl⟩:=Sa.mp h;exact⟨⟨(Rt g (g.num (List.mem_of_mem_take (Ze.mp r).1)).1).1,Y⟩,O (.inl rfl)⟩
     ·obtain⟨m,r,rfl⟩:=Sa.mp h;exact⟨⟨Y,(Rt g (g.num (List.mem_of_mem_drop (Ze.mp r).1)).1).1⟩,O (.inr (.inl rfl))⟩
 ·obtain⟨m,r,h⟩:=Xe.mp h;obtain⟨q,U,rfl⟩:=Sa.mp h;have z:=Ot U;rw[<-uo g r]at z;exact⟨⟨(Rt g (g.num z.1).1).1,(Rt g (g.num z.2).1).2.2.1⟩,O (.inr (.inr rfl))⟩
--@La
def dk(H:Hp)(y:V)(q:V×V):Prop:=∃t,y=.ref t/\H t=qN (.tup [q.1,q.2])
def vB:∀H H' y(q:V×V),KN H H'->dk H y q->dk H' y q:=by rintro H H' y q k⟨t,e,h⟩;exact⟨t,e,k _ _ (λxs z=>by cases z) h⟩
def fk:∀H H' y(k:Eg),KN H H'->Zb H y k->Zb H' y k:=λH H' y q k x=>x.kp λb xs e=>k _ _ (λxs z=>by cases z) e
def kg(k:KN H H')(h:Paired (Zb H) ys ns):Paired (Zb H') ys ns:=Paired.Yb h λ_ _ z=>fk _ _ _ _ k z
def wB(k:KN H H')(h:Paired (dk H) ys ns):Paired (dk H') ys ns:=Paired.Yb h λ_ _ z=>vB _ _ _ _ k z
inductive TK(K:W.Frag)(vs:List V)(H:Hp)(Q:VK)(E:XK):Prop|mk(a:uN)(xs:List V)(_:vs=[.ref a])(_:H a=qN (.lst xs))(_:xs.length<=100)(_:∀D H' ys,H D=sN->aa H H'->H' D=qN (.lst ys)->Paired (dk H') ys (Nc xs)->Q (.ref D) H')
inductive UK(cls:Lv->uN)(vs:List V)(H:Hp)(Q:VK)(E:XK):Prop|mk(v:V)(e:uN)(p:Ps)(w:Option Str)(_:vs=[v,.ref e])(_:Tr H v (Ih p))(_:GH p)(_:Dm cls H e w p)(_:∀D H' ys,H D=sN->aa H H'->H' D=qN (.lst ys)->Paired (Zb H') ys (p.1.flatMap (Jh w))->Q (.ref D) H')
def gk(H:Hp)(e:uN)(p:Ps)(f:Int->Nk):Prop:=∃kvs,H e=qN (.dK kvs)/\∀d∈p.1,∃v,Ka kvs (.inl d.1)=qN v/\sb H v (f d.1)
def gk.same(s:aa H H')(h:gk H e p f):gk H' e p f:=by obtain⟨kvs,a,b⟩:=h;exact⟨kvs,s _ _ a,λd g=>by refine eb6 ?_ (b d g);rintro v c q e r;exact nx11 v c q ⟨e,s _ _ r⟩⟩
def xB{w:Option Str}(r:GH p)(h:kx H e p (ck w)):gk H e p (ke w p):=by obtain⟨kvs,a,b⟩:=h;exact⟨kvs,a,λd g=>by rw[Pt r g];exact b d g⟩
def WK{w:Option Str}(r:GH p)(h:kx H e p (Fm w)):gk H e p (Bi w p):=by obtain⟨kvs,a,b⟩:=h;exact⟨kvs,a,λd g=>by rw[Qt r g];exact b d g⟩
def gk.get(h:gk H e p f)(g:∃d∈p.1,d.1=x):∃kvs v,H e=qN (.dK kvs)/\Ka kvs (.inl x)=qN v/\sb H v (f x):=by
 revert h;refine ea1 ?_;rintro kvs a b
 grind
inductive YK(vs:List V)(H:Hp)(Q:VK)(E:XK):Prop|mk(sv:V)(m e:uN)(n pl:Int)(q:Pr)(p:Ps)(w:Option Str)(_:vs=[sv,.int q.1,.int q.2,.ref m,.ref e])(_:sb H sv (n,pl))(_:H m=qN (.lst ((kb p.2 q.1).map V.int)))(_:GH p)(_:(q.2=-1\/q.2=0\/q.2∈kb p.2 q.1))(_:gk H e p (ke w p))(_:∀D H' ys,H D=sN->aa H H'->H' D=qN (.lst ys)->Paired (Zb H') ys (Gg w p n pl q)->Q (.ref D) H')
def yq(H:Hp)(e:uN)(p:Ps):Prop:=∃kvs,H e=qN (.dK kvs)/\∀k,(Ka kvs (.inl k)=sN/\kb p.2 k=[])\/∃l,Ka kvs (.inl k)=qN (.ref l)/\H l=qN (.lst ((kb p.2 k).map V.int))
def yq.same(s:aa H H')(h:yq H e p):yq H' e p:=by obtain⟨kvs,a,b⟩:=h;exact⟨kvs,s _ _ a,λk=>(b k).imp id (by refine ea1 ?_;rintro l c d;exact⟨l,c,s _ _ d⟩)⟩
inductive ZK(cls:Lv->uN)(vs:List V)(H:Hp)(Q:VK)(E:XK):Prop|mk(v:V)(a m e:uN)(d:Dl)(p:Ps)(w:Option Str)(dx:uN)(_:vs=[v,.ref a,.ref m,.ref e])(_:Tr H v (ee d))(_:H a=qN (.ins (cls (wb w d)) dx []))(_:GH p)(_:d∈p.1)(_:yq H m p)(_:gk H e p (ke w p))(_:∀D H' ys,H D=sN->aa H H'->H' D=qN (.lst ys)->Paired (Zb H') ys (jh w p d)->Q (.ref D) H')
inductive yB(cls:Lv->uN)(f:Option Str->Ps->List Eg)(vs:List V)(H:Hp)(Q:VK)(E:XK):Prop|mk(v:V)(e:uN)(p:Ps)(w:Option Str)(_:vs=[v,.ref e])(_:Tr H v (Ih p))(_:GH p)(_:Dm cls H e w p)(_:∀D H' ys,H D=sN->aa H H'->H' D=qN (.lst ys)->Paired (Zb H') ys (f w p)->Q (.ref D) H')
inductive AB(K:W.Frag)(vs:List V)(H:Hp)(Q:VK)(E:XK):Prop|mk(b:uN)(e:Eg)(_:vs=[.ref b])(_:Zb H (.ref b) e)(_:Xj e)(_:∀p H',(∀c o,H c=qN o->H' c=qN o)->Yj H' (.ref p) (fl e)->Q (.ref p) H')
def aL(T:Tx K mg):Hs (AB K):=λH b e Q E g r J=>⟨b,e,rfl,g,r,J⟩
inductive bL(vs:List V)(H:Hp)(Q:VK)(E:XK):Prop|mk(v:V)(p:Ps)(w:Option Str)(_:vs=[v,wV w])(_:Tr H v (Ih p))(_:GH p)(_:(∀x,w=qN x->x∈Rf))(_:∀D H' ys js,H D=sN->aa H H'->H' D=qN (.lst ys)->Paired (Zb H') ys js->js.length<=(Di w p).length->(∀x∈js,sB w p x)->(∀x∈Di w p,x∈js)->Q (.ref D) H')
def mx(xs:List V)(n:Nat)(z:Int)(e:z=(n:Int)):ag xs (qN z) sN=xs.drop n:=by
 unfold ag;rw[e,HT.Ge,HT.ae];by_cases h:n<=xs.length
 ·rw[Zm h,Pl (by rw[Kg];exact wa _)]
 ·rw[cr (by grind),cr (by lia),List.take_nil]
def BB(xs:List V)(n:Nat)(z:Int)(e:z=(n:Int)):ag xs sN (qN z)=xs.take n:=by
 unfold ag;rw[e,HT.Ge,HT.ae]
 simp_all
def DB{F:α->α->Prop}(h:∀x,F x x):∀xs:List α,Paired F xs xs
 |[]=>.nil
 |x::r=>.cons (h x) (DB h r)
def cL{xs:List α}{ys:List g}(O:Paired F xs ys):Paired (λ(p:α×α)(q:g×g)=>F p.1 q.1/\F p.2 q.2) (Nc xs) (Nc ys):=by
 induction O with
 |nil=>exact .nil
 |@cons a b _ _ h p r=>
  refine Se ?_ r;have go:∀{J:List α}{t:List g},Paired F J t->Paired (λ(p:α×α)(q:g×g)=>F p.1 q.1/\F p.2 q.2) (J.map λy=>(a,y)) (t.map λy=>(b,y)):=by
   intro J t x;induction x with
   |nil=>exact .nil
   |cons z _ r=>exact .cons ⟨h,z⟩ r
  exact go p
def dL(h:Paired (dk H) ys (Nc r))(J:Cc H r ns):Paired (Gc H) ys (Nc ns):=by
 have g:=cL J;generalize Nc r=a0 at h g;generalize Nc ns=O at g;induction h generalizing O with
 |nil=>cases g;exact .nil
 |cons x _ U=>
  cases g with
  |cons y t=>
   obtain⟨p,e,Y⟩:=x;exact .cons (nx2 p _ _ e Y y.1 y.2) (U _ t)
def EB(f:α->r):∀xs:List α,Nc (xs.map f)=(Nc xs).map λq=>(f q.1,f q.2)
 |[]=>rfl
 |x::g=>by
  show(g.map f).map (λy=>(f x,y))++Nc (g.map f)=(g.map (λy=>(x,y))++Nc g).map _;rw[EB f g,Qd,Ve,Ve];rfl
def zq:∀xs:List α,(Nc xs).length<=xs.length*xs.length
 |[]=>wa _
 |x::r=>by
  have:=zq r;unfold Nc;rw[Ya,ua,Vd,Nat.add_mul,Nat.mul_add];lia
def HB(H:Hp)(y:V)(q:Int×Int):Prop:=∃t,y=.ref t/\H t=qN (.tup [.int q.1,.int q.2])
def eL(h:Paired (dk H) ys (Nc (ms.map V.int))):Paired (HB H) ys (Nc ms):=by
 rw[EB]at h;generalize Nc ms=l at h;induction l generalizing ys with
 |nil=>cases h;exact .nil
 |cons q r g=>
  cases h with
  |cons x t=>exact .cons x (g t)
def Tt{J:Type}(n:Int)(g:Int->J):∀l:List Int,l.filterMap (λm=>if m≠n then qN (g m)else sN)=(l.filter λm=>decide (m≠n)).map g
 |[]=>rfl
 |x::r=>by
  rw[wh,To];by_cases h:x≠n
  ·rw[va h,va (Xb h),Sc,Tt n g r]
  ·rw[na h,na (by simpa using h),Tt n g r]
def IB(ms:List Int):Paired (λ(v:V)(x:Int)=>v=.int x) (ms.map V.int) ms:=by
 induction ms with
 |nil=>exact .nil
 |cons x r g=>exact .cons rfl g
def JB{w:Option Str}(h:(kb p.2 q.1).length<=8):(Gg w p n pl q).length<=8:=by
 unfold Gg;split
 ·exact Va _
 ·rw[Ya,ua,ua];refine gb (Nat.add_le_add (Hi _ _) (Hi _ _)) ?_;rw[<-Ya,Ng];exact h
def GH.Ab(g:GH p)(k:Int):(kb p.2 k).length<=8:=by
 have r:=zg (g.xq k) λx J=>let⟨⟨d,O,e⟩,_⟩:=g.num J;Sa.mpr ⟨d,O,e⟩
 rw[ua]at r;exact gb r g.gp.1
def LB(h:Tr H v (qe m)):∃a l,v=.ref a/\H a=qN (.tup [.int m.1,.ref l])/\H l=qN (.lst (m.2.map V.int)):=by
 cases h with
 |tup h g=>
  cases g with
  |cons J g=>
   cases g with
   |cons O g=>
    cases g;cases J;refine ea0 ?_ (Sf O);rintro a xs rfl r U;rw[U.ints]at r;exact nx0 _ a rfl h r
def MB{K:W.Frag}{H:Hp}:∀{r:List V}{ms:List pb},Qa H r (ms.map qe)->∃g:List (Key×V),fj K H r g/\g.map (·.1)=ms.map (λm=>(Sum.inl m.1:Key))/\∀m∈ms,∃l,((Sum.inl m.1:Key),V.ref l)∈g/\H l=qN (.lst (m.2.map V.int))
 |_,[],.nil=>⟨[],.nil,rfl,λm J=>by cases J⟩
 |_,m::U,.cons h t=>by
  obtain⟨g,a,b,c⟩:=MB t;refine ea0 ?_ (LB h);rintro x l rfl O Y;refine⟨(Sum.inl m.1,.ref l)::g,.cons (oa.of O) a,by rw[Sc,Sc,b],λa0 b0=>?_⟩
  grind
def fL{H:Hp}{e:uN}{p:Ps}(a0:GH p){g:List (Key×V)}(r:H e=qN (.dK (Uj [] g)))(J:g.map (·.1)=p.2.map (λm=>(Sum.inl m.1:Key)))(b0:∀m∈p.2,∃l,((Sum.inl m.1:Key),V.ref l)∈g/\H l=qN (.lst (m.2.map V.int))):yq H e p:=by
 have c0:(p.2.map (·.1)).Nodup:=Oi (λz=>by lia) a0.keys;have O:(g.map (·.1)).Nodup:=by
  rw[J];exact Gd.mpr (Oi (λz e=>z (Ji e)) (Gd.mp c0))
 rw[Em g [] (by simpa using O)]at r;refine⟨g,r,λk=>?_⟩;by_cases h:k∈p.2.map (·.1)
 ·refine ea1 ?_ (b0 _ (Xa (ro h)));rintro l q1 q2;exact .inr ⟨l,gm O q1,q2⟩
 ·refine .inl ⟨?_,ax h⟩;unfold Ka;rw[Rq,Yo];intro U d0 z;have e0:=yd z;have Y:U.1∈g.map (·.1):=Sa.mpr ⟨U,d0,rfl⟩;rw[J,e0]at Y;obtain⟨m,f0,g0⟩:=Sa.mp Y;exact h (Sa.mpr ⟨m,f0,Ji g0⟩)
def NB{w:Option Str}(g:GH p)(r:d∈p.1)(i:Nat):(ih w p d i).length<=32:=by
 unfold ih;split
 ·exact Va _
 ·next pl _=>
  have key:∀l:Lk,l.length<=4->(l.flatMap (Gg w p d.1 pl)).length<=32:=by
   have J:∀l:Lk,(l.flatMap (Gg w p d.1 pl)).length<=8*l.length:=by
    intro l;induction l with
    |nil=>exact wa _
    |cons q O U=>
     rw[Ph,Ya,Vd];have:=JB (w:=w) (n:=d.1) (pl:=pl) (g.Ab q.1);lia
   intro l Y;have:=J l;lia
  refine key _ ?_;rw[Hk];cases e:d.2.2[i]? with
  |none=>exact Va _
  |some l=>exact(g.Hg d r l (Xa e)).1
def OB{w:Option Str}(g:GH p)(r:d∈p.1):(jh w p d).length<=1280:=by
 have J:=(g.gp.2.2 d r).2;have key:∀l:List Nat,(l.flatMap (ih w p d)).length<=32*l.length:=by
  intro l;induction l with
  |nil=>exact wa _
  |cons q O U=>
   rw[Ph,Ya,Vd];have:=NB (w:=w) g r q;lia
 have:=key (List.range d.2.2.length);rw[Ef]at this;unfold jh;lia
def vo{α g:Type}{f:α->List g}:∀{l:List α},(∀x∈l,(f x).length<=n)->(l.flatMap f).length<=n*l.length
 |[],_=>wa _
 |x::J,h=>by
  rw[Ph,Ya,Vd,Nat.mul_add];have O:=h x (.head _);have U:=vo λy r=>h y (.tail _ r)
  lia
def gL{w:Option Str}(h:d.2.2.length<=40):(Jh w d).length<=1681:=by
 unfold Jh;rw[ua];have r:=zq (Qc w d);have J:=Kt w d h;have g:(Qc w d).length<=41:=by unfold Qc;rw[ua,Ef];simp_all
 have:=Nat.mul_le_mul g g;lia
def hL{w:Option Str}(g:GH p)(J:m∈p.2):(Ci w p m).length<=64:=by
 unfold Ci;rw[ua];have O:=zq m.2;have r:m.2.length<=8:=by rw[<-uo g J];exact g.Ab _
 have:=Nat.mul_le_mul r r;lia
def iL{w:Option Str}(g:GH p):(p.1.flatMap (Jh w)).length<=14000/\(p.1.flatMap (jh w p)).length<=10240/\(p.2.flatMap (Ci w p)).length<=2000:=by
 have J:=vo (f:=Jh w) λd r=>gL (g.gp.2.2 d r).2
 have O:=vo (f:=jh w p) λd r=>OB g r
 have U:=vo (f:=Ci w p) λd r=>hL g r
 have Y:=g.gp.1;have a0:=g.Gm;lia
def Ut(H:Hp)(y:V)(k:Eg):Prop:=∃t b,y=.ref t/\H t=qN (.tup [.ref b,.bl wN])/\Zb H (.ref b) k
def jL:∀H H' y(k:Eg),KN H H'->Ut H y k->Ut H' y k:=by rintro H H' y q k⟨t,b,e,h,g⟩;exact nx0 t b e (k _ _ (λxs z=>by cases z) h) (fk _ _ _ _ k g)
def PB:∀{ys:List V}{g:List Eg},Paired (Ut H) ys g->Nn H ys g
 |_,_,.nil=>.nil
 |_,_,.cons ⟨t,b,e,h,r⟩ J=>by
  subst e;exact .cons h r (PB J)
def QB(T:Tx K mg):T.xt.Ok P w base 1 (TK K):=by
 refine Ua T.xt.F λH _ _ _ _ h=>?_
 ·obtain⟨a,xs,rfl,a0,hz,q⟩:=h;refine⟨_,(pa (Ma 1 (jc Oc))
   (pa (Jb Db rfl (jv rfl T.Qw (za 0)) (Jf rfl (Ub (bb 2) (Ub (bb 3) ve)))
   (ma (Nd (Xc jd Ii Ti Cn (pv 1) (Ca (Ud ["later"] ["thing"] [3] (Za (bi di (pv 0) (ai (eb wg (pv 2) la)) Zh)) (bc 0) Ie (Rb (ka (pv 1) (za 0)))))))))
   (ma (Ga (pv 1))))),?_⟩
  show let k0:TS:=_;let l0:TS:=qa (Qb _ _ _) k0;qa _ l0 _ _ _
  intros;have sz:vN=2^24:=rfl;refine⟨(by decide),λF b0=>?_⟩;have m0:=ia (H:=H) (a:=F) (o:=HO.lst []);have g0:=aa.upd (o:=HO.lst []) b0;refine⟨_,rfl,a,xs,rfl,g0 _ _ a0,kv (λi O g=>∃(c0 d0:Option V)(ys:List V)(L:List (V×V)),O=[qN (.ref a),qN (.ref F),c0,d0]/\aa H g/\g F=qN (.lst ys)/\ys.length<=100*i/\Paired (dk g) ys L/\L++Nc (xs.drop i)=Nc xs) (nx3 sN sN ([]) ([]) rfl g0 m0 (wa _) ⟨.nil,rfl⟩) (by rintro i O g;refine eaG ?_;rintro _ _ _ _ _ r _;exact ca.of (r _ _ a0)) ?_ ?_⟩
  ·rintro i x O g p h0;refine ebH ?_;rintro c0 d0 ys L rfl r J n0 pl U o0;have p0:=(rb.mp h0).1;have sp:=aa.upd (o:=HO.tup [.int (i:Int),x]) o0;refine nx9 p _ rfl (oa.of ia) rfl _ _ rfl _ _ rfl rfl ?_;refine⟨_,rfl,Or.inl ⟨rfl,_,ca.of (sp _ _ J)⟩,_,rfl,_,rfl,_,_,rfl,rfl,_,rfl,a,xs,rfl,ca.of (sp _ _ (r _ _ a0)),λc q0=>⟨c,rfl,⟨_,ca.of ia⟩,?_⟩⟩;rw[mx xs (i+1) _ (by simp_all)];have r0:=aa.upd (o:=HO.lst (xs.drop (i+1))) q0;refine dh (fs:=[qN x]) dk (λ_ v (b:V)=>v=b) (xs.drop (i+1)) (λy=>qN (x,y)) vB (λ_ _ _ _ _ z=>z) rfl ia (DB (λ_=>rfl) _) (by rw[Kg];grind) (λy z0 A0 B0 v R C0 s0 t0 u0 _=>?_) λD D0 e0 F0 v0 w0 f0=>?_
   ·obtain⟨t,rfl⟩:=Zc.mp s0;subst t0;exact⟨_,rfl,_,rfl,Ha,λn x0=>u0 _ _ [_] _ rfl rfl (aa.upd x0) ⟨n,rfl,ia⟩⟩
   ·rw[qo]at f0;have Y:=sp.trans (r0.trans v0);have G0:e0.length<=100:=by rw[Ta f0,ua,Kg];grind
    refine⟨F,D,ys,e0,rfl,rfl,Y _ _ J,w0,(by lia),?_⟩;have i0:=KN.upd (o:=HO.lst (ys++e0)) (Y _ _ J);refine nx3 _ _ _ (L++(xs.drop (i+1)).map (λy=>(x,y))) rfl (λb o j0=>?_) ia (by rw[Ya];lia) ⟨Se (wB ((KN.of Y).trans i0) pl) (wB i0 f0),?_⟩
    ·rw[ja (show b≠F from Pc j0 b0)];exact Y _ _ (r _ _ j0)
    ·rw[<-U,me];have:xs.drop i=x::xs.drop (i+1):=by rw[pp p0,(rb.mp h0).2]
     rw[this];rfl
  ·rintro O g;refine ebH ?_;rintro c0 d0 ys L rfl r J n0 pl U;rw[List.drop_length]at U;have y0:L=Nc xs:=by rw[<-U];exact(z1h L).symm
   rw[y0]at pl;exact⟨_,rfl,q F g ys b0 r J pl⟩
def kL(T:Tx K mg):T.jw.Ok P w base 3 (UK (cO T)):=by
 refine Ua T.jw.F λH _ _ _ a0 h=>?_
 ·obtain⟨v,e,p,wo,rfl,tr,k0,B0,q⟩:=h;have C0:=kc a0;refine⟨_,(pa (Ma 2 (jc Oc))
   (pa (Jb Db rfl (Za (Ja zb (pv 0) la)) (bb 3)
   (pa (Ma 4 (fb T.xt (QB T) a0 (Ca (fb T.mq (jx T) a0 (ka (pv 3) (Ca (Mc C0 (pv 1) (Ja zb (pv 3) la))))))))
   (ma (Nd (Xc jd Ii Ti Cn (pv 2) (Ca (Ud ["spot","later"] [] [] (Za (pv 4)) (Op (K:=K) (n:=2) rfl rfl (Ub (bc 0) (Ub (bc 1) ve))) Ie (Rb (ka (pv 0) (ka (pv 1) (ka Ib (Ca yh))))))))))))
   (ma (Ga (pv 2))))),?_⟩
  show let D0:TS:=_;let F0:TS:=_;let G0:TS:=qa _ F0;let I0:TS:=qa (Qb _ _ G0) D0;qa _ I0 _ _ _
  intros;have sz:vN=2^24:=rfl;refine⟨(by decide),λF b0=>?_⟩;have J0:=ia (H:=H) (a:=F) (o:=HO.lst []);have c0:=aa.upd (o:=HO.lst []) b0;refine eaB ?_ (lj tr);rintro a l m K0 k1 rfl L0 l0 m0 _ _;refine⟨_,rfl,a,_,_,_,rfl,rfl,oa.of (c0 _ _ L0),rfl,l,rfl,⟨_,ca.of (c0 _ _ l0)⟩,nc (K:=K) (λi O r=>∃(d0 e0:Option V)(ys:List V),O=[qN (.ref a),qN (.ref e),qN (.ref F),d0,e0]/\aa H r/\r F=qN (.lst ys)/\ys.length<=1681*i/\Paired (Zb r) ys ((p.1.take i).flatMap (Jh wo))) (nx8 sN sN ([]) rfl c0 J0 (wa _) (.nil)) (by rintro i O r _⟨_,_,_,_,g,_⟩;exact ca.of (g _ _ l0)) ?_ ?_⟩
  ·rintro i y O r M0;refine ea2 ?_;rintro d0 e0 ys rfl g J N0 pn;refine ea1 ?_ (m0.get M0);rintro dd n0 o0;rw[lb]at n0;refine ea1 ?_ (Jd.mp n0);rintro d f0 rfl;have p0:=Xa f0;have l1:i<8:=by have:=(rb.mp f0).1;have:=k0.gp.1;lia
   refine ea1 ?_ (B0.same g);rintro kvs O0 P0;refine eaA ?_ (P0 d p0);rintro x Q0 R0 S0;refine ea5 ?_ (hf (o0.same g));rintro q0 L m1 rfl T0 _ _;have r0:=oe.k (k:=Sum.inl d.1) O0;rw[R0]at r0;have s0:=(k0.gp.2.2 d p0).2;have n1:=Kt wo d s0;refine⟨_,rfl,_,rfl,_,rfl,q0,_,_,_,rfl,rfl,oa.of T0,rfl,e,_,rfl,r0,.ref q0,x,d,wo,Q0,rfl,o0.same g,S0,s0,λU0 o1 t0 p1 u0 V0 g0=>?_⟩;have W0:t0.length<=41:=by
    rw[Ta g0];unfold Qc;rw[ua,Ef];simp_all
   refine⟨U0,t0,rfl,V0,(by lia),λX0 r1 s1 t1 h0 v0 Y0=>?_⟩;have Z0:=dL Y0 (QK h0 g0);have a1:(Nc (Qc wo d)).length<=1681:=by
    have w0:=zq (Qc wo d);have U:(Qc wo d).length<=41:=by rw[<-Ta g0];exact W0
    have:=Nat.mul_le_mul U U;lia
   refine⟨_,rfl,Or.inl ⟨rfl,_,ca.of (h0 _ _ (u0 _ _ J))⟩,_,rfl,X0,rfl,⟨_,ca.of v0⟩,dh (fs:=[]) Zb Gc (Nc (Qc wo d)) (λq=>qN (q.1,q.2,"own",sN)) fk (λ_ _ _ _ x0 z=>WA x0 z) rfl v0 Z0 (by lia) (λu1 v1 b1 y0 v R x0 c1 d1 e1 _=>?_) λf1 b1 es w1 g1 h1 i0=>?_⟩
   ·obtain⟨x1,y1,rfl⟩:∃a b,y0=[a,b]:=by match y0,c1 with|[a,b],_=>grind
    revert d1;refine ea5 ?_;rintro t u i1 rfl j1 w0 U;refine nx9 t _ rfl (oa.of j1) rfl _ _ rfl _ _ rfl rfl ⟨_,rfl,_,rfl,Ad,λn j0=>e1 _ _ [_,_] _ rfl rfl (aa.upd j0) (nx2 n u i1 rfl ia (je (aa.upd j0) w0) (je (aa.upd j0) U))⟩
   ·rw[qo]at i0;have Y:=u0.trans (h0.trans g1);have le:es.length<=1681:=by rw[Ta i0,ua];exact a1
    refine⟨F,f1,ys,es,rfl,rfl,Y _ _ J,h1,(by lia),?_⟩;have z0:=KN.upd (o:=HO.lst (ys++es)) (Y _ _ J);refine nx8 _ _ _ rfl (λb o A0=>?_) ia (by rw[Ya];lia) ?_
    ·rw[ja (show b≠F from Pc A0 b0)];exact Y _ _ (g _ _ A0)
    ·rw[gc,f0,wk];refine Se (kg ((KN.of Y).trans z0) pn) ?_;show Paired _ es (List.flatMap (Jh wo) [d]);rw[Ph,Bl,z1h];exact kg z0 i0
  ·rintro O r;refine ea2 ?_;rintro d0 e0 ys rfl g J N0 pn;have:K0.length=p.1.length:=by rw[m0.len,ua]
   rw[this,vc]at pn;exact⟨_,rfl,q F r ys b0 g J pn⟩
def lL(T:Tx K mg):T.kw.Ok P w base 1 YK:=by
 refine Ua T.kw.F λH _ Q _ x0 h=>?_
 ·obtain⟨b1,m,e,n,pl,g,p,wo,rfl,G0,d0,y0,I0,J0,q⟩:=h;have z0:=kc x0;refine⟨_,(pa (qc (xb Od (pv 2) (Xi (v:=V.int (-1)) rfl T.Pw ⟨_,rfl⟩) (Bb _))
   (ma (Ga (jc Oc)))
   pc)
   (pa (Ma 5 (qr (xb Od (pv 2) (Xi (v:=V.int (0)) rfl T.Ow ⟨_,rfl⟩) (Bb _)) la (eb wg (Xc jd Fo Iq (gs (qi x0.units) rfl) (pv 3) (za 2)) la)))
   (pa (jj 6 ["maker"] (by show(Oe _).Nodup;decide+kernel) ["spot","key","keeps"] [0,1,4] (Za (bi di (pv 3) Zh (ai (pv 5)))) (bc 0) (Mf (xb Sk (pv 0) (Ja (ie (K:=K) rfl) (pv 1) la) (Bb _))) (Rb (ka (Mc z0 (pv 3) (pv 0)) (ka (pv 1) (ka Ib (za 2))))))
   (pa (jj 7 ["maker"] (by show(Oe _).Nodup;decide+kernel) ["spot","key","keeps"] [0,1,4] (Za (bi di (pv 3) (ai (pv 5)) Zh)) (bc 0) (Mf (xb Sk (pv 0) (Ja (ie (K:=K) rfl) (pv 1) la) (Bb _))) (Rb (ka (pv 1) (ka (Mc z0 (pv 3) (pv 0)) (ka Ib (za 2))))))
   (ma (Ga (eb fi (pv 6) (pv 7)))))))),?_⟩
  show let K0:TS:=_;let L0:TS:=qa _ K0;let M0:TS:=qa _ L0;let N0:TS:=qa _ M0;qa (zc _ _ _) N0 _ _ _
  intros;have sz:vN=2^24:=rfl;revert G0;refine ea1 ?_;rintro sp rfl A0;have c1:=y0.Ab g.1;refine⟨_,rfl,rfl,_,rfl,jb (λc=>?_) (λc=>?_)⟩
  ·have e0:g.2=-1:=V.Uc (yd c);refine⟨(by decide),λF B0=>q F _ [] B0 (aa.upd B0) ia ?_⟩;unfold Gg;rw[va e0];exact .nil
  ·have e0:¬g.2=-1:=λz=>c (Xb (Vb V.int z))
   have part:∀(R:VK),R (.int (mc (kb p.2 g.1) g.2:Nat)) H->Kx (cy (Qk Vx (Fj 2) (tC (V.int 0)))) (tC (V.int 0)) (Qk (Hj λi j=>V.int (i+j)) (wy K "list" (λx xs H Q=>∃(l:uN)(ns:List Int)(k:Int),x=.ref l/\xs=[V.int k]/\ca K H l (ns.map V.int)/\ns.length<=1000/\k∈ns/\Q (.int ((ns.idxOf k:Nat):Int)) H) (Fj 3) (vr (Fj 2) Fp)) (tC (V.int 1))) [qN (.ref sp),qN (.int g.1),qN (.int g.2),qN (.ref m),qN (.ref e),sN,sN,sN] H R:=λR O=>by
    refine⟨_,rfl,rfl,_,rfl,jb (λz=>?_) (λz=>?_)⟩
    ·have f0:g.2=0:=V.Uc (yd z);unfold mc at O;rw[va f0]at O;exact O
    ·have f0:¬g.2=0:=λy=>z (Xb (Vb V.int y))
     unfold mc at O;rw[na f0]at O;have mem:g.2∈kb p.2 g.1:=by rcases I0 with y|y|y;exact absurd y e0;exact absurd y f0;exact y
     refine⟨_,rfl,Or.inl ⟨rfl,_,ca.of d0⟩,_,rfl,m,_,_,rfl,rfl,ca.of d0,(by lia),mem,_,_,rfl,rfl,?_⟩;exact O
   refine part _ ?_;have lt:((kb p.2 g.1).take (mc (kb p.2 g.1) g.2)).length<=8/\((kb p.2 g.1).drop (mc (kb p.2 g.1) g.2)).length<=8:=by rw[se,Kg];omega
   have C0:∀{i0:Hp}(x:Int),aa H i0->x∈kb p.2 g.1->∃kvs v,i0 e=qN (.dK kvs)/\Ka kvs (.inl x)=qN v/\sb i0 v (ke wo p x):=λx U Y=>(J0.same U).get (y0.num Y).1
   refine⟨_,rfl,_,rfl,_,rfl,m,_,rfl,ca.of d0,λO0 P0=>⟨O0,rfl,⟨_,ca.of ia⟩,?_⟩⟩;rw[BB _ (mc (kb p.2 g.1) g.2) _ rfl,<-List.map_take];have j0:=aa.upd (o:=HO.lst (((kb p.2 g.1).take (mc (kb p.2 g.1) g.2)).map V.int)) P0;refine dh (k:=1) (fs:=[qN (.ref sp),qN (.int g.1),qN (.ref e)]) Zb (λ_ v (x:Int)=>v=.int x) ((kb p.2 g.1).take (mc (kb p.2 g.1) g.2)) (λx=>if x≠n then qN (ke wo p x,(n,pl),"saw",qN g.1)else sN) fk (λ_ _ _ _ _ z=>z) rfl ia (IB _) (by lia) (λx Y Q0 R0 v R U k0 l0 m0 n0=>?_) λS0 d1 o0 e1 T0 U0 p0=>?_
   ·obtain⟨t,rfl⟩:=Zc.mp k0;subst l0;have a0:=U _ _ (j0 _ _ A0);refine⟨_,rfl,_,rfl,sp,_,_,_,rfl,rfl,oa.of a0,qb (j:=0) rfl,rfl,_,rfl,jb (λy=>?_) (λy=>?_)⟩
    ·have r:x≠n:=λz=>by rw[z]at y;simp at y
     refine ea0 ?_ (C0 x (j0.trans U) (List.mem_of_mem_take Y));rintro kvs b0 q0 r0 s0;have c0:=oe.k (k:=Sum.inl x) q0;rw[r0]at c0;exact⟨_,rfl,_,rfl,e,b0,rfl,c0,_,rfl,_,rfl,Ad,λt0 J=>m0 _ _ [_] _ (va r) rfl (aa.upd J) (nx2 t0 b0 (.ref sp) rfl ia (je (aa.upd J) s0) ⟨sp,rfl,aa.upd J _ _ a0⟩)⟩
    ·have r:¬x≠n:=λz=>y (by simp[show V.int x≠V.int n fromλq=>z (V.Uc q)])
     exact n0 (na r) [_] _ rfl (aa.refl _)
   ·rw[Tt]at p0;have g0:=j0.trans T0;refine⟨_,rfl,_,rfl,_,rfl,m,_,rfl,ca.of (g0 _ _ d0),λV0 W0=>⟨V0,rfl,⟨_,ca.of ia⟩,?_⟩⟩;rw[mx _ (mc (kb p.2 g.1) g.2) _ rfl,<-List.map_drop];have D0:=aa.upd (o:=HO.lst (((kb p.2 g.1).drop (mc (kb p.2 g.1) g.2)).map V.int)) W0;refine dh (k:=1) (fs:=[qN (.ref sp),qN (.int g.1),qN (.ref e)]) Zb (λ_ v (x:Int)=>v=.int x) ((kb p.2 g.1).drop (mc (kb p.2 g.1) g.2)) (λx=>if x≠n then qN ((n,pl),ke wo p x,"unseen",qN g.1)else sN) fk (λ_ _ _ _ _ z=>z) rfl ia (IB _) (by lia) (λx Y Q0 R0 v R U k0 l0 m0 n0=>?_) λX0 f1 u0 g1 Y0 Z0 v0=>?_
    ·obtain⟨t,rfl⟩:=Zc.mp k0;subst l0;have F0:=g0.trans (D0.trans U);have a0:=F0 _ _ A0;refine⟨_,rfl,_,rfl,sp,_,_,_,rfl,rfl,oa.of a0,qb (j:=0) rfl,rfl,_,rfl,jb (λy=>?_) (λy=>?_)⟩
     ·have r:x≠n:=λz=>by rw[z]at y;simp at y
      refine ea0 ?_ (C0 x F0 (List.mem_of_mem_drop Y));rintro kvs b0 q0 r0 s0;have c0:=oe.k (k:=Sum.inl x) q0;rw[r0]at c0;exact⟨_,rfl,_,rfl,_,rfl,e,b0,rfl,c0,_,rfl,Ad,λt0 J=>m0 _ _ [_] _ (va r) rfl (aa.upd J) (nx2 t0 (.ref sp) b0 rfl ia ⟨sp,rfl,aa.upd J _ _ a0⟩ (je (aa.upd J) s0))⟩
     ·have r:¬x≠n:=λz=>y (by simp[show V.int x≠V.int n fromλq=>z (V.Uc q)])
      exact n0 (na r) [_] _ rfl (aa.refl _)
    ·rw[Tt]at v0;have h0:=D0.trans Y0;have h1:o0.length<=8:=by rw[Ta p0,ua];exact gb (Hi _ _) lt.1
     have i1:u0.length<=8:=by rw[Ta v0,ua];exact gb (Hi _ _) lt.2
     refine⟨_,rfl,_,rfl,S0,X0,o0,u0,rfl,rfl,h0 _ _ U0,Z0,(by lia),λa1 w0=>q a1 _ (o0++u0) ((g0.trans h0).free w0) ((g0.trans h0).trans (aa.upd w0)) ia ?_⟩;unfold Gg;rw[na e0];exact kg (KN.of (aa.upd w0)) (Se (kg (KN.of h0) p0) v0)
def mL(T:Tx K mg):T.lw.Ok P w base 2 (ZK (cO T)):=by
 refine Ua T.lw.F λH _ _ _ q0 h=>?_
 ·obtain⟨v,a,m,e,d,p,wo,V0,rfl,tr,W0,i0,F0,mk,X0,q⟩:=h;have Y0:=kc q0;refine⟨_,(pa (Ma 4 (jc Oc))
   (pa (Jb Db rfl (jv rfl T.Qw (Ca (Ja zb (pv 0) la))) (Jf rfl (Ub (bb 5) (Ub (bb 6) ve)))
   (pa (Ma 7 (lv (pv 1) (yK T) (q0.mono (by decide)) (za 5)))
   (ma (qc (xb Dp (pv 7) yh (Bb _))
   (ma (Jb Db rfl (Za (pv 6)) (Jf rfl (Ub (bb 8) (Ub (bb 9) ve)))
   (ma (Nd (Xc jd Ii Ti Cn (pv 4) (Ca (fb T.kw (lL T) q0 (ka (Rb (ka (Ja zb (pv 0) la) (za 7))) (ka (pv 8) (ka (pv 9) (ka (Cr Y0 (pv 2) (pv 8) (jc Oc) ⟨rfl,rfl,rfl,rfl⟩) (za 3))))))))))))
   pc))))
   (ma (Ga (pv 4))))),?_⟩
  show let Z0:TS:=_;let c0:TS:=zc _ (Qb _ _ _) _;let d0:TS:=qa _ c0;let a1:TS:=qa (Qb _ _ d0) Z0;qa _ a1 _ _ _
  intros;have sz:vN=2^24:=rfl;refine ea5 ?_ (hf tr);rintro j0 L r0 rfl G0 I0 J0;have b1:r0.length=d.2.2.length:=by rw[J0.len,ua]
  have v1:=(i0.gp.2.2 d F0).2;refine⟨ue,λF s0=>?_⟩;have c1:=ia (H:=H) (a:=F) (o:=HO.lst []);have t0:=aa.upd (o:=HO.lst []) s0;refine⟨_,rfl,j0,_,_,_,rfl,rfl,oa.of (t0 _ _ G0),rfl,L,r0,rfl,t0 _ _ I0,kv (K:=K) (a:=L) (xs:=r0) (λi g O=>∃(u0 v0 w0 U Y:Option V)(ys:List V),g=[qN (.ref j0),qN (.ref a),qN (.ref m),qN (.ref e),qN (.ref F),u0,v0,w0,U,Y]/\aa H O/\O F=qN (.lst ys)/\ys.length<=32*i/\Paired (Zb O) ys ((List.range i).flatMap (ih wo p d))) (nx19 sN sN sN sN sN ([]) rfl t0 c1 (wa _) (.nil)) (by rintro i g O⟨_,_,_,_,_,_,_,e0,_⟩;exact ca.of (e0 _ _ I0)) ?_ ?_⟩
  ·rintro i y g O tp k0;refine ec1 ?_;rintro u0 v0 w0 U Y ys rfl e0 x0 f0 pn d1;have w1:i<d.2.2.length:=by have:=(rb.mp k0).1;lia
   refine ea1 ?_ (J0.get k0);rintro dl K0 e1;rw[lb]at K0;refine ea1 ?_ (Jd.mp K0);rintro lk L0 rfl;obtain⟨x1,f1⟩:=i0.Hg d F0 lk (Xa L0);refine ea0 ?_ (Sf e1);rintro l0 pv rfl M0 N0;have sp:=aa.upd (o:=HO.tup [.int (i:Int),.ref l0]) d1;have m0:=e0.trans sp;have O0:=sp _ _ x0;have pn:=kg (KN.of sp) pn;refine nx9 tp _ rfl (oa.of ia) rfl _ _ rfl _ _ rfl rfl ?_;refine⟨_,rfl,a,wb wo d,V0,[],rfl,m0 _ _ W0,rfl,_,rfl,_,_,rfl,_,rfl,rfl,_,rfl,jb (λc=>?_) (λc=>?_)⟩
   ·obtain⟨pl,n0⟩:∃pl,hh (wb wo d) (i:Int)=qN pl:=by
     cases y0:hh (wb wo d) (i:Int)with
     |none=>rw[y0]at c;exact absurd c (by simp[Ts])
     |some k=>grind
    have g1:Ts (hh (wb wo d) (i:Int))=V.int pl:=by rw[n0];rfl
    have z0:ih wo p d i=lk.flatMap (Gg wo p d.1 pl):=by
     unfold ih;rw[n0,Hk,L0];rfl
    rw[g1];refine⟨_,rfl,l0,rfl,⟨_,ca.of (m0 _ _ M0)⟩,nc (K:=K) (a:=l0) (xs:=pv) (λj g a0=>∃(U Y:Option V)(ys:List V),g=[qN (.ref j0),qN (.ref a),qN (.ref m),qN (.ref e),qN (.ref F),qN (.int (i:Int)),qN (.ref l0),qN (.int pl),U,Y]/\aa H a0/\a0 F=qN (.lst ys)/\ys.length<=32*i+8*j/\Paired (Zb a0) ys ((List.range i).flatMap (ih wo p d)++(lk.take j).flatMap (Gg wo p d.1 pl))) (nx8 _ _ ys rfl m0 O0 f0 (by simpa using pn)) (by rintro j g a0 _⟨_,_,_,_,r,_⟩;exact ca.of (r _ _ M0)) ?_ ?_⟩
    ·rintro j y g a0 k0;refine ea2 ?_;rintro U Y ys rfl r g0 f0 pn;refine ea1 ?_ (N0.get k0);rintro y1 P0 h1;rw[lb]at P0;refine ea1 ?_ (Jd.mp P0);rintro J A0 rfl;refine ea1 ?_ (Nt h1);rintro i1 rfl j1;have k1:=f1 J (Xa A0);have z1:j<4:=by have:=(rb.mp A0).1;lia
     refine nx9 i1 _ rfl (oa.of (r _ _ j1)) rfl _ _ rfl _ _ rfl rfl ?_;refine⟨_,rfl,Or.inl ⟨rfl,_,ca.of g0⟩,_,rfl,j0,_,_,_,rfl,rfl,oa.of (r _ _ G0),rfl,_,rfl,Ha,λB0 l1=>?_⟩;have C0:=aa.upd (o:=HO.tup [.int d.1,.int pl]) l1;refine ea1 ?_ ((mk.same r).same C0);rintro kvs Q0 m1;refine⟨_,rfl,_,rfl,_,rfl,m,rfl,.inl ⟨_,.inl Q0⟩,_,rfl,ue,λD0 n1=>?_⟩;have h0:=aa.upd (o:=HO.lst []) n1;have o1:=r.trans (C0.trans h0);refine⟨Ka kvs (.inl J.1),.inl (nx0 kvs (.inl J.1) (.inl (h0 _ _ Q0)) rfl rfl),_,rfl,?_⟩;obtain⟨b0,p1,r1⟩:∃b0,(Ka kvs (.inl J.1)).getD (.ref D0)=.ref b0/\upd (upd a0 B0 (.tup [.int d.1,.int pl])) D0 (.lst []) b0=qN (.lst ((kb p.2 J.1).map V.int)):=by
      rcases m1 J.1 with⟨c0,d0⟩|⟨b0,c0,d0⟩
      ·exact⟨D0,by rw[c0];rfl,by rw[d0];exact ia⟩
      ·exact⟨b0,by rw[c0];rfl,h0 _ _ d0⟩
     rw[p1];refine⟨.ref B0,b0,e,d.1,pl,J,p,wo,rfl,⟨B0,rfl,h0 _ _ ia⟩,r1,i0,k1,X0.same o1,λs1 A1 o0 B1 t1 u1 R0=>?_⟩;have p0:=C0.trans (h0.trans t1);have C1:o0.length<=8:=by rw[Ta R0];exact JB (i0.Ab J.1)
     refine⟨F,s1,ys,o0,rfl,rfl,p0 _ _ g0,u1,(by lia),?_⟩;have S0:=KN.upd (o:=HO.lst (ys++o0)) (p0 _ _ g0);refine nx8 _ _ _ rfl (λb o T0=>?_) ia (by rw[Ya];lia) ?_
     ·rw[ja (show b≠F from Pc T0 s0)];exact p0 _ _ (r _ _ T0)
     ·rw[gc,A0,wk,<-me];refine Se (kg ((KN.of p0).trans S0) pn) ?_;show Paired _ o0 (List.flatMap (Gg wo p d.1 pl) [J]);rw[Ph,Bl,z1h];exact kg S0 R0
    ·rintro g a0;refine ea2 ?_;rintro U Y ys rfl r g0 f0 pn;have U0:pv.length=lk.length:=by rw[N0.len,ua]
     rw[U0,vc]at pn;refine nx19 _ _ _ _ _ _ rfl r g0 (by rw[U0]at f0;lia) ?_;rw[wj,wk,Ph,Bl,z1h,z0];exact pn
   ·have n0:hh (wb wo d) (i:Int)=sN:=by
     cases y0:hh (wb wo d) (i:Int)with
     |none=>rfl
     |some k=>rw[y0]at c;exact absurd (by simp[Ts]) c
    have z0:ih wo p d i=[]:=by
     unfold ih;rw[n0]
    refine nx19 _ _ _ _ _ _ rfl m0 O0 (by lia) ?_;rw[wj,wk,Ph,Bl,z1h,z0,z1h];exact pn
  ·rintro g O;refine ec1 ?_;rintro u0 v0 w0 U Y ys rfl e0 x0 f0 pn;rw[b1]at pn;exact⟨_,rfl,q F O ys s0 e0 x0 pn⟩
def nL(T:Tx K mg):T.mw.Ok P w base 4 (yB (cO T) λw p=>p.1.flatMap (jh w p)):=by
 refine Ua T.mw.F λH _ _ _ d0 h=>?_
 ·obtain⟨v,e,p,wo,rfl,tr,r,m0,q⟩:=h;have A0:=kc d0;refine⟨_,(pa (Ma 2 (aj (Jn (K:=K) rfl rfl) (by rfl) T.ak Bj (Ca (Ja zb (pv 0) la))))
   (pa (Ma 3 (fb T.wt (qB T) d0 (ka (pv 0) (za 1))))
   (pa (Ma 4 (jc Oc))
   (pa (Jb Db rfl (Za (Ja zb (pv 0) la)) (bb 5)
   (ma (Nd (Xc jd Ii Ti Cn (pv 4) (Ca (fb T.lw (mL T) d0 (ka (pv 5) (ka (Mc A0 (pv 1) (Ja zb (pv 5) la)) (ka (pv 2) (za 3))))))))))
   (ma (Ga (pv 4))))))),?_⟩
  show let B0:TS:=_;let C0:TS:=qa (Qb _ _ _) B0;let D0:TS:=qa _ C0;let F0:TS:=qa _ D0;qa _ F0 _ _ _
  intros;have sz:vN=2^24:=rfl;refine eaB ?_ (lj tr);rintro a l m G0 I0 rfl n0 o0 p0 J0 K0;obtain⟨e0,L0,pk,pv⟩:=MB K0;have Y0:e0.length=p.2.length:=by have:=Vb List.length pk;simpa using this
  have Z0:=r.Gm;refine⟨_,rfl,a,_,_,_,rfl,rfl,oa.of n0,rfl,m,I0,e0,rfl,J0,L0,(by lia),λM M0=>?_⟩;have Y:=aa.upd (o:=HO.dK (Uj [] e0)) M0;have mk:=fL r ia pk λx f0=>let⟨l,q1,q2⟩:=pv x f0;⟨l,q1,Y _ _ q2⟩
  refine⟨_,rfl,_,rfl,.ref a,e,p,wo,rfl,tr.same Y,r.gp,m0.same Y,λq0 r0 s0 kp=>?_⟩;have N0:=xB r kp;have O:=Y.trans s0;refine⟨(by decide),λF g0=>?_⟩;have O0:=ia (H:=r0) (a:=F) (o:=HO.lst []);have h0:=aa.upd (o:=HO.lst []) g0;refine⟨_,rfl,a,_,_,_,rfl,rfl,oa.of (h0 _ _ (O _ _ n0)),rfl,l,rfl,⟨_,ca.of (h0 _ _ (O _ _ o0))⟩,nc (K:=K) (λi a0 J=>∃(i0:Option V)(ys:List V),a0=[qN (.ref a),qN (.ref e),qN (.ref M),qN (.ref q0),qN (.ref F),i0]/\aa r0 J/\J F=qN (.lst ys)/\ys.length<=1280*i/\Paired (Zb J) ys ((p.1.take i).flatMap (jh wo p))) (nx15 sN ([]) rfl h0 O0 (wa _) (.nil)) (by rintro i a0 J _⟨_,_,_,g,_⟩;exact ca.of (g _ _ (O _ _ o0))) ?_ ?_⟩
  ·rintro i y a0 J P0;refine eb0 ?_;rintro i0 ys rfl g U Q0 pn;refine ea1 ?_ (p0.get P0);rintro dd t0 u0;rw[lb]at t0;refine ea1 ?_ (Jd.mp t0);rintro d j0 rfl;have k0:=Xa j0;have a1:i<8:=by have:=(rb.mp j0).1;have:=r.gp.1;lia
   have l0:=O.trans g;refine ea1 ?_ (m0.same l0);rintro kvs R0 S0;refine eaA ?_ (S0 d k0);rintro x T0 U0 f0;refine ea5 ?_ (hf (u0.same l0));rintro v0 L b1 rfl V0 _ _;have w0:=oe.k (k:=Sum.inl d.1) R0;rw[U0]at w0;refine⟨_,rfl,Or.inl ⟨rfl,_,ca.of U⟩,_,rfl,_,rfl,_,rfl,v0,_,_,_,rfl,rfl,oa.of V0,rfl,e,_,rfl,w0,_,rfl,_,rfl,.ref v0,x,M,q0,d,p,wo,T0,rfl,u0.same l0,f0,r,k0,mk.same (s0.trans g),N0.same g,λW0 c1 b0 d1 c0 X0 x0=>?_⟩;have e1:b0.length<=1280:=by rw[Ta x0];exact OB r k0
   refine⟨F,W0,ys,b0,rfl,rfl,c0 _ _ U,X0,(by lia),?_⟩;have y0:=KN.upd (o:=HO.lst (ys++b0)) (c0 _ _ U);refine nx15 _ _ rfl (λb o z0=>?_) ia (by rw[Ya];lia) ?_
   ·rw[ja (show b≠F from Pc z0 g0)];exact c0 _ _ (g _ _ z0)
   ·rw[gc,j0,wk];refine Se (kg ((KN.of c0).trans y0) pn) ?_;show Paired _ b0 (List.flatMap (jh wo p) [d]);rw[Ph,Bl,z1h];exact kg y0 x0
  ·rintro a0 J;refine eb0 ?_;rintro i0 ys rfl g U Q0 pn;have:G0.length=p.1.length:=by rw[p0.len,ua]
   rw[this,vc]at pn;exact⟨_,rfl,q F J ys (O.free g0) (O.trans g) U pn⟩
def oL(T:Tx K mg):T.pw.Ok P w base 4 (yB (cO T) λw p=>p.2.flatMap (Ci w p)):=by
 refine Ua T.pw.F λH _ _ _ b0 h=>?_
 ·obtain⟨v,e,p,wo,rfl,tr,g,o0,q⟩:=h;have p0:=kc b0;refine⟨_,(pa (Ma 2 (fb T.wt (qB T) b0 (ka (pv 0) (za 1))))
   (pa (Ma 3 (fb T.iw (RK T) b0 (ka (pv 0) (za 1))))
   (pa (Ma 4 (jc Oc))
   (pa (Jb Db rfl (Za (Ja zb (pv 0) la)) (bb 5)
   (ma (Nd (Xc jd Ii Ti Cn (pv 4) (Ca (Ud ["maker","later"] ["keeps","firsts","made"] [2,3,5] (Za (fb T.xt (QB T) b0 (Ca (Ja zb (pv 5) la)))) (Op (K:=K) (n:=2) rfl rfl (Ub (bc 0) (Ub (bc 1) ve))) Ie (Rb (ka (Mc p0 (pv 2) (pv 0)) (ka (Mc p0 (pv 3) (pv 1)) (ka Ib (Ca (Ja (ie (K:=K) rfl) (pv 4) la))))))))))))
   (ma (Ga (pv 4))))))),?_⟩
  show let L0:TS:=_;let M0:TS:=qa (Qb _ _ _) L0;let N0:TS:=qa _ M0;let O0:TS:=qa _ N0;qa _ O0 _ _ _
  intros;have sz:vN=2^24:=rfl;refine eaB ?_ (lj tr);rintro a l m x1 q0 rfl P0 y1 z1 r0 s0;have A1:=g.Gm;refine⟨_,rfl,_,rfl,.ref a,e,p,wo,rfl,tr,g.gp,o0,λe0 B1 f0 kp=>?_⟩;refine⟨_,rfl,_,rfl,.ref a,e,p,wo,rfl,tr.same f0,g.gp,o0.same f0,λg0 t0 u0 kf=>?_⟩;have Q0:=(xB g kp).same u0;have R0:=WK g kf;have U:=f0.trans u0;refine⟨ue,λF h0=>?_⟩;have S0:=ia (H:=t0) (a:=F) (o:=HO.lst []);have i0:=aa.upd (o:=HO.lst []) h0;refine⟨_,rfl,a,_,_,_,rfl,rfl,oa.of (i0 _ _ (U _ _ P0)),rfl,m,rfl,⟨_,ca.of (i0 _ _ (U _ _ r0))⟩,nc (K:=K) (a:=m) (xs:=q0) (λi c0 r=>∃(j0:Option V)(ys:List V),c0=[qN (.ref a),qN (.ref e),qN (.ref e0),qN (.ref g0),qN (.ref F),j0]/\aa t0 r/\r F=qN (.lst ys)/\ys.length<=64*i/\Paired (Zb r) ys ((p.2.take i).flatMap (Ci wo p))) (nx15 sN ([]) rfl i0 S0 (wa _) (.nil)) (by rintro i c0 r _⟨_,_,_,J,_⟩;exact ca.of (J _ _ (U _ _ r0))) ?_ ?_⟩
  ·rintro i y c0 r T0;refine eb0 ?_;rintro j0 ys rfl J a0 U0 pn;refine ea1 ?_ (s0.get T0);rintro dd v0 V0;rw[lb]at v0;refine ea1 ?_ (Jd.mp v0);rintro Y k0 rfl;have W0:=Xa k0;have C1:i<30:=by have:=(rb.mp k0).1;lia
   have X0:=U.trans J;refine ea0 ?_ (LB (V0.same X0));rintro t c rfl w0 Y0;have x0:=uo g W0;have y0:Y.2.length<=8:=by rw[<-x0];exact g.Ab _
   have Z0:(Nc Y.2).length<=64:=by
    have D1:=zq Y.2;have:=Nat.mul_le_mul y0 y0;lia
   refine⟨_,rfl,Or.inl ⟨rfl,_,ca.of a0⟩,_,rfl,t,_,_,_,rfl,rfl,oa.of w0,rfl,c,_,rfl,Y0,(by rw[ua];lia),λa1 E1 F1 G1 l0 z0 b1=>⟨a1,rfl,⟨_,ca.of z0⟩,dh (k:=2) (fs:=[qN (.ref e0),qN (.ref g0),qN (.ref t)]) Zb HB (Nc Y.2) (λq=>qN (ke wo p q.1,Bi wo p q.2,"over",qN Y.1)) fk (by rintro _ _ _ _ d0⟨x,c1,d1⟩;exact⟨x,c1,d0 _ _ d1⟩) rfl z0 (eL b1) (by lia) (λA0 e1 f1 B0 v R d0 g1 h1 i1 _=>?_) λj1 f1 es H1 k1 l1 m0=>?_⟩⟩
   ·obtain⟨I1,J1,rfl⟩:∃a b,B0=[a,b]:=by match B0,g1 with|[a,b],_=>grind
    revert h1;refine ea1 ?_;rintro m1 rfl n1;have C0:=Ot e1;rw[<-x0]at C0;obtain⟨o1,p1⟩:=C0;have O:=J.trans (l0.trans d0);refine ea0 ?_ ((Q0.same O).get (g.num o1).1);rintro K1 D0 r1 s1 t1;refine ea0 ?_ ((R0.same O).get (g.num p1).1);rintro L1 F0 u1 v1 w1;have G0:=oe.k (k:=Sum.inl A0.1) r1;rw[s1]at G0;have I0:=oe.k (k:=Sum.inl A0.2) u1;rw[v1]at I0;exact nx9 m1 _ rfl (oa.of n1) rfl _ _ rfl _ _ rfl rfl ⟨_,rfl,_,rfl,e0,D0,rfl,G0,_,rfl,_,rfl,g0,F0,rfl,I0,_,rfl,t,_,_,_,rfl,rfl,oa.of (d0 _ _ (l0 _ _ w0)),qb (j:=0) rfl,Ad,λn n0=>i1 _ _ [_,_] _ rfl rfl (aa.upd n0) (nx2 n D0 F0 rfl ia (je (aa.upd n0) t1) (je (aa.upd n0) w1))⟩
   ·rw[qo]at m0;have O:=l0.trans k1;have le:es.length<=64:=by rw[Ta m0,ua];exact Z0
    refine⟨F,j1,ys,es,rfl,rfl,O _ _ a0,l1,(by lia),?_⟩;have J0:=KN.upd (o:=HO.lst (ys++es)) (O _ _ a0);refine nx15 _ _ rfl (λb o K0=>?_) ia (by rw[Ya];lia) ?_
    ·rw[ja (show b≠F from Pc K0 h0)];exact O _ _ (J _ _ K0)
    ·rw[gc,k0,wk];refine Se (kg ((KN.of O).trans J0) pn) ?_;show Paired _ es (List.flatMap (Ci wo p) [Y]);rw[Ph,Bl,z1h];exact kg J0 m0
  ·rintro c0 r;refine eb0 ?_;rintro j0 ys rfl J a0 U0 pn;have:q0.length=p.2.length:=by rw[s0.len,ua]
   rw[this,vc]at pn;exact⟨_,rfl,q F r ys (U.free h0) (U.trans J) a0 pn⟩
def pL(T:Tx K mg):T.yt.Ok P w base 1 (AB K):=by
 refine Ua T.yt.F λH _ _ _ _ h=>?_
 ·obtain⟨b,e,rfl,Y,ok,q⟩:=h;refine⟨_,(ma (Ga (Rb (ka (Ja zb (pv 0) la) (ka (Ja zb (pv 0) la) (ka (Xc F.plainAttrs_tuple F.slot_tuple_index F.type_tuple_index (qI rfl) (Xi (v:=V.ref T.qq) rfl T.yJ rfl) (Ca (Ja zb (pv 0) la))) (Ca (Ja zb (pv 0) la)))))))),?_⟩;revert Y;refine ea5 ?_;rintro g0 J O a0 g b0 c0;cases a0;obtain⟨U,_⟩:=ok;have d0:e.2.2.1∈(["own","saw","unseen","over"]:List Str):=by
   rcases U with z|z|z|z<;>rw[z]<;>decide+kernel
  have e0:(((["own","saw","unseen","over"]:List Str).idxOf e.2.2.1:Nat):Int)=fq e.2.2.1:=by
   rcases U with z|z|z|z<;>rw[z]<;>decide+kernel
  refine⟨_,rfl,b,_,_,_,rfl,rfl,oa.of g,qb rfl,_,rfl,b,_,_,_,rfl,rfl,oa.of g,qb rfl,Or.inr (Or.inl ⟨rfl,T.BJ⟩),_,rfl,b,_,_,_,rfl,rfl,oa.of g,qb rfl,T.qq,["own","saw","unseen","over"],e.2.2.1,rfl,rfl,T.zJ H,d0,?_⟩;rw[e0];refine⟨_,rfl,b,_,_,_,rfl,rfl,oa.of g,qb rfl,Ad,λn f0=>?_⟩;have r:=aa.upd (o:=HO.tup [J,O,.int (fq e.2.2.1),oV e.2.2.2]) f0;exact q n _ r (nx2 n J O rfl ia (je r b0) (je r c0))
--@La
def Ei(T:Tx K mg):T.oq.Ok P w base 5 bL:=by
 refine T.oq.F.ok (gq (N:=Oe (Ac (top 48)))) (λvs H Q E h=>?_) (λm1 A outer s H vs Q E r h=>?_)
 ·obtain⟨v,p,wo,rfl,_⟩:=h;rfl
 ·obtain⟨v,p,wo,rfl,tr,g,w0,q⟩:=h;refine⟨_,(pa (Ma 2 (fb T.lq (gx T) r (ka (pv 0) (za 1))))
   (pa (Ma 3 (eb fi (eb fi (fb T.jw (kL T) r (ka (pv 0) (za 2))) (fb T.mw (nL T) r (ka (pv 0) (za 2)))) (fb T.pw (oL T) r (ka (pv 0) (za 2)))))
   (ma (Ga (fJ rfl rfl T.Am ((pL T).mono (by decide)) r rfl T.yt.m T.yt.b (aL T) (Ca (aj (jI (qi r.units) rfl) (by rfl) T.ak Bj (Ca (Ud ["edge"] [] [] (Za (pv 3)) (bc 0) Ie (Rb (ka (pv 0) (Ca vg)))))))))))),?_⟩
  show let x0:TS:=_;let y0:TS:=qa _ x0;qa _ y0 _ _ _
  intros;have sz:vN=2^24:=rfl;refine ea3 ?_ (iL (w:=wo) g);rintro n1 o1 p1;refine⟨_,rfl,_,rfl,v,p,wo,rfl,tr,g.gp,w0,λe r1 i0 e0=>?_⟩;refine⟨_,rfl,_,rfl,v,e,p,wo,rfl,tr.same i0,g,e0,λz0 s1 O t1 f0 A0 j0=>?_⟩;have k0:=i0.trans f0;refine⟨_,rfl,_,rfl,v,e,p,wo,rfl,tr.same k0,g,e0.same f0,λB0 u1 U v1 Y C0 l0=>?_⟩;have D0:=k0.trans Y;have w1:=Ta j0;have x1:=Ta l0;refine⟨z0,B0,O,U,rfl,rfl,Y _ _ A0,C0,(by lia),λF0 G0=>?_⟩;have a0:=aa.upd (o:=HO.lst (O++U)) G0;have m0:=D0.trans a0;refine⟨_,rfl,_,rfl,v,e,p,wo,rfl,tr.same m0,g,e0.same (f0.trans (Y.trans a0)),λI0 y1 n0 z1 b0 J0 o0=>?_⟩;have A1:=Ta o0;refine⟨F0,I0,O++U,n0,rfl,rfl,b0 _ _ ia,J0,(by rw[Ya];lia),λK0 L0=>?_⟩;have c0:=aa.upd (o:=HO.lst (O++U++n0)) L0;have p0:=m0.trans (b0.trans c0);have M0:=Se (Se (kg (KN.of (Y.trans (a0.trans (b0.trans c0)))) j0) (kg (KN.of (a0.trans (b0.trans c0))) l0)) (kg (KN.of c0) o0);have B1:(Di wo p).length<=27000:=by
   unfold Di;rw[Ya,Ya];lia
  refine⟨_,rfl,K0,rfl,⟨_,ca.of ia⟩,dh (fs:=[]) Ut Zb (Di wo p) qN jL (λ_ _ _ _ q0 z=>fk _ _ _ _ (KN.of q0) z) rfl ia M0 (by lia) (λk r0 N0 C1 v R q0 O0 P0 Q0 _=>?_) λR0 N0 S0 D1 s0 T0 t0=>?_⟩
  ·obtain⟨t,rfl⟩:=Zc.mp O0;revert P0;refine ea5 ?_;rintro b U0 V0 rfl W0 X0 Y0;exact⟨_,rfl,Ha,λn d0=>Q0 _ _ [_] _ rfl rfl (aa.upd d0) (nx0 n b rfl ia (nx2 b U0 V0 rfl (aa.upd d0 _ _ W0) (je (aa.upd d0) X0) (je (aa.upd d0) Y0)))⟩
  ·rw[jp]at t0;refine nx8 R0 S0 (Di wo p) rfl T0 (PB t0) (by lia) λu0 v0 ep Z0 a1 b1 c1 mk=>?_;have g0:=aa.upd (o:=HO.ext (Le u0 v0 ep)) a1;refine⟨u0,v0,ep,Z0,rfl,ia,Paired.imp' (by rintro _ _⟨b,d1,e1⟩;exact⟨b,d1,fk _ _ _ _ (KN.of g0) e1⟩) b1,(λk r0=>(uB g ((mk k).mp r0)).2),λf1 ys js g1 h1 i1 j1 k1 h0=>?_⟩;have l1:=p0.trans (s0.trans (g0.trans i1));exact q f1 g1 ys js ((p0.trans (s0.trans g0)).free h1) l1 j1 k1 (by rw[h0.length_eq];exact zg c1 λx J=>(mk x).mp J) (λx J=>uB g ((mk x).mp (h0.mem_iff.mp J))) λx J=>h0.mem_iff.mpr ((mk x).mpr J)
--@La
def xo(ls:List Lk):Prop:=∀lk∈ls,∀q∈lk,q.2≠-1
def Vt(w:Option Str)(p:Ps):Prop:=∀d∈p.1,si (wb w d)=yN->xo d.2.2
def qL{ls:List Lk}{i:Nat}{lk:Lk}(h:xo (ls.take i))(e:ls[i]?=qN lk)(n:∀q∈lk,q.2≠-1):xo (ls.take (i+1)):=by
 rw[gc,e];intro l g;rcases fc.mp g with z|z
 ·exact h l z
 ·rw[cc.mp z];exact n
inductive rL(vs:List V)(H:Hp)(Q:VK)(E:XK):Prop|mk(v:V)(p:Ps)(w:Option Str)(_:vs=[v,wV w])(_:Tr H v (Ih p))(_:uq p)(_:(∀x,w=qN x->x∈Rf))(_:(∀H',aa H H'->Vt w p->Q .Ra H'))(_:∀t H' (a b c:Int),aa H H'->H' t=qN (.tup [.int a,.int b,.int c])->Q (.ref t) H')
def RB:∀{vs:List V}{g:List Dl},Paired (λv d=>Tr H v (ee d)) vs g->Paired (λv(q:V×Dl)=>v=q.1/\Tr H v (ee q.2)) vs (vs.zip g)
 |_,_,.nil=>.nil
 |_,_,.cons h t=>.cons ⟨rfl,h⟩ (RB t)
def TB(b:Dl->Bool):∀{r:List V}{g:List Dl},r.length=g.length->((r.zip g).filterMap λq=>if b q.2=wN then sN else qN q).map (·.2)=g.filter λd=>!b d
 |[],[],_=>rfl
 |v::r,d::g,h=>by
  have J:=TB b (by simpa using h);cases e:b d with
  |true=>simpa[e]using J
  |false=>simpa[e]using J
def sL{b:Dl->Bool}{g:List V}(h:q∈(g.zip r).filterMap λq=>if b q.2=wN then sN else qN q):q∈g.zip r:=by
 simp_all
def UB:∀{vs:List V}{g:List Dl}{q:V×Dl},Paired F vs g->q∈vs.zip g->F q.1 q.2
 |_,_,_,.nil,h=>by cases h
 |_,_,_,.cons r t,h=>by
  rcases rc.mp h with z|z
  ·rw[z];exact r
  ·exact UB t z
def tL(T:Tx K mg):T.pq.Ok P w base 4 rL:=by
 refine T.pq.F.ok (gq (N:=Oe (Ac (top 50)))) (λvs H Q E h=>?_) (λt1 A outer s H vs Q E m0 h=>?_)
 ·obtain⟨v,p,wo,rfl,_⟩:=h;rfl
 ·obtain⟨v,p,wo,rfl,tr,w0,K0,q1,q2⟩:=h;have L0:=kc m0;refine⟨_,(pa (Ma 2 (fb T.lq (gx T) m0 (ka (pv 0) (za 1))))
   (pa (Jb Db rfl (Za (Ud ["each"] ["levels"] [2] (Za (Ja zb (pv 0) la)) (bc 0) (Mf (wn (Kk (dz (Mc L0 (pv 1) (Ja (ie (K:=K) rfl) (pv 0) la)) (EK T) (m0.mono (by decide)))))) (pv 0))) (bb 3)
   (ma (Jb Db rfl (jv rfl T.Qw (Ca (Ja zb (pv 3) la))) (Jf rfl (Ub (bb 4) (Ub (bb 5) ve)))
   (ma (Jb Db rfl (Za (pv 5)) (Jf rfl (Ub (bb 6) (Ub (bb 7) ve)))
   (ma (qc (xb Od (pv 7) (Xi (v:=V.int (-1)) rfl T.Pw ⟨_,rfl⟩) (Bb _))
   (ma (Ga (Rb (ka (Ja zb (pv 3) la) (ka (pv 4) (za 6))))))
   pc)))))))
   (ma (Ga yh)))),?_⟩
  show let M0:TS:=_;let N0:TS:=qa (Qb _ _ (Qb _ _ (Qb _ _ (zc _ _ _)))) M0;qa _ N0 _ _ _
  intros
  ·refine⟨_,rfl,_,rfl,v,p,wo,rfl,tr,w0,K0,λe u1 e0 O0=>?_⟩;refine eaB ?_ (lj tr);rintro a l m n0 v1 rfl P0 x0 o0 _ _;have Q0:n0.length=p.1.length:=by rw[o0.len,ua]
   have w1:=w0.1;refine⟨_,rfl,a,_,_,_,rfl,rfl,oa.of (e0 _ _ P0),rfl,l,rfl,⟨_,ca.of (e0 _ _ x0)⟩,dh (k:=1) (fs:=[qN (.ref e)]) (λ_ v (q:V×Dl)=>v=q.1) (λH v (q:V×Dl)=>v=q.1/\Tr H v (ee q.2)) (n0.zip p.1) (λq=>if si (wb wo q.2)=wN then sN else qN q) (λ_ _ _ _ _ z=>z) (λ_ _ _ _ O z=>⟨z.1,z.2.same O⟩) rfl (e0 _ _ x0) (RB (Ai (o0.same e0))) (by have:vN=2^24:=rfl;rw[List.length_zip];lia) (λq f0 y0 x1 v R O R0 S0 T0 U0=>?_) λD y0 ys y1 V0 z0 A0=>?_⟩
   ·obtain⟨t,rfl⟩:=Zc.mp R0;obtain⟨rfl,p0⟩:=S0;obtain⟨v,d⟩:=q;refine ea5 ?_ (hf p0);rintro a0 L B0 rfl i0 q0 r0;refine ea1 ?_ (O0.same O);rintro kvs W0 X0;refine eaA ?_ (X0 d (Pm f0).2);rintro x Y0 Z0 a1;have C0:=oe.k (k:=Sum.inl d.1) W0;rw[Z0]at C0;refine⟨_,rfl,_,rfl,a0,_,_,_,rfl,rfl,oa.of i0,rfl,e,_,rfl,C0,x,wb wo d,Y0,[],rfl,a1,rfl,_,rfl,_,rfl,?_⟩;cases D0:si (wb wo d)with
    |true=>exact yg (A:=_) (U0 (va D0) [_] _ rfl (aa.refl _))
    |false=>exact Xk (B:=_) ⟨_,rfl,T0 (.ref a0,d) _ [_] _ (na (by rw[D0];exact Vc)) rfl (aa.refl _) rfl⟩
   ·have s0:=e0.trans V0;have F0:=TB (λd=>si (wb wo d)) Q0;generalize G0:((n0.zip p.1).filterMap λq=>if si (wb wo q.2)=wN then sN else qN q).map (·.2)=t0 at F0;have b1:(∀d∈t0,xo d.2.2)->Vt wo p:=λh d c1 e=>h d (by rw[F0];exact Ze.mpr ⟨c1,by rw[e];rfl⟩)
    refine⟨D,rfl,⟨_,ca.of z0⟩,nc (xs:=ys) (λi g b0=>∃u0 U Y r J:Option V,g=[qN (.ref a),qN (wV wo),qN (.ref e),u0,U,Y,r,J]/\aa y0 b0/\∀d∈t0.take i,xo d.2.2) (nx1 sN sN (nx16 sN sN sN rfl (aa.refl _) λ_ h=>by cases h)) (by rintro i g b0 _;refine ec5 ?_;rintro _ _ _ _ _ _ O _;exact ca.of (O _ _ z0)) ?_ ?_⟩
    ·rintro i x g b0 ex;refine ec5 ?_;rintro u0 U Y r J rfl g0 j0;refine ea1 ?_ (Lb A0 ex);rintro q eq rfl;have f0:=sL (b:=λd=>si (wb wo d)) (Xa eq);have p0:=(UB (Ai o0) f0).same (s0.trans g0);obtain⟨v,d⟩:=q;refine ea5 ?_ (hf p0);rintro a0 L B0 rfl i0 q0 r0;have d1:t0[i]?=qN d:=by rw[<-G0,lb,eq];rfl
     refine⟨_,rfl,a0,_,_,_,rfl,rfl,oa.of i0,rfl,L,B0,rfl,q0,kv (λj g h0=>∃U Y r J:Option V,g=[qN (.ref a),qN (wV wo),qN (.ref e),qN (.ref a0),U,Y,r,J]/\aa b0 h0/\xo (d.2.2.take j)) (nx1 U Y (nx0 r J rfl (aa.refl _) λ_ h=>by cases h)) (by rintro j g h0;refine eaG ?_;rintro _ _ _ _ _ O _;exact ca.of (O _ _ q0)) ?_ ?_⟩
     ·rintro j y g h0 pt e1;refine eaG ?_;rintro U Y r J rfl c0 k0 f1;have st:=aa.upd (o:=HO.tup [.int j,y]) f1;refine ea1 ?_ (Lb (Ai (r0.same (c0.trans st))) e1);rintro lk g1 h1;refine ea0 ?_ (Sf h1);rintro v0 i1 rfl I0 J0;refine nx9 pt _ rfl (oa.of ia) rfl _ _ rfl _ _ rfl rfl ⟨_,rfl,v0,rfl,⟨_,ca.of I0⟩,nc (xs:=i1) (λm g l0=>∃r J:Option V,g=[qN (.ref a),qN (wV wo),qN (.ref e),qN (.ref a0),qN (.int j),qN (.ref v0),r,J]/\aa (upd h0 pt (.tup [.int j,.ref v0])) l0/\∀q∈lk.take m,q.2≠-1) (nx0 r J rfl (aa.refl _) λ_ h=>by cases h) (by rintro m g l0 _;refine ea0 ?_;rintro _ _ _ O _;exact ca.of (O _ _ I0)) ?_ ?_⟩
      ·rintro m z g l0 j1;refine ea0 ?_;rintro r J rfl d0 em;refine ea1 ?_ (Lb (Ai (J0.same d0)) j1);rintro k1 l1 m1;refine ea1 ?_ (Nt m1);rintro n1 rfl o1;refine nx9 n1 _ rfl (oa.of o1) rfl _ _ rfl _ _ rfl rfl ⟨_,rfl,rfl,_,rfl,jb (λe=>?_) (λe=>?_)⟩
       ·exact⟨_,rfl,a0,_,_,_,rfl,rfl,oa.of (d0 _ _ (st _ _ (c0 _ _ i0))),rfl,_,rfl,_,rfl,Ec,λt p1=>q2 t _ _ _ _ (s0.trans (g0.trans (c0.trans (st.trans (d0.trans (aa.upd p1)))))) ia⟩
       ·have r1:k1.2≠-1:=λz=>e (Xb (by rw[z]))
        refine nx0 _ _ rfl d0 ?_;rw[gc,l1];intro q f0;rcases fc.mp f0 with z|z
        ·exact em q z
        ·rw[cc.mp z];exact r1
      ·rintro g l0;refine ea0 ?_;rintro r J rfl d0 em;rw[Pl (Cj (Ta (Ai J0)).symm)]at em;exact nx1 _ _ (nx0 _ _ rfl (c0.trans (st.trans d0)) (qL k0 g1 em))
     ·rintro g h0;refine eaG ?_;rintro U Y r J rfl c0 k0;rw[Pl (Cj (Ta (Ai r0)).symm)]at k0;refine nx1 _ _ (nx16 _ _ _ rfl (g0.trans c0) ?_);rw[gc,d1];intro d' s1;rcases fc.mp s1 with z|z
      ·exact j0 d' z
      ·rw[cc.mp z];exact k0
    ·rintro g b0;refine ec5 ?_;rintro u0 U Y r J rfl g0 j0;refine q1 b0 (s0.trans g0) (b1 ?_);rw[Pl]at j0
     ·exact j0
     ·rw[<-G0,ua];exact Cj (Ta A0).symm
--@La
def ql(e:Eg):Nk×Nk:=(e.1,e.2.1)
inductive uL(vs:List V)(H:Hp)(Q:VK)(E:XK):Prop|mk(r t:uN)(rv tv:List V)(c:List Nk)(es:List Eg)(_:vs=[.ref r,.ref t])(_:H r=qN (.lst rv))(_:Cc H rv c)(_:c.length<=43)(_:H t=qN (.lst tv))(_:Paired (Zb H) tv es)(_:es.length<=1200)(_:(∀k∈Bm c,∃e∈es,ql e=k))(_:∀D ys H',H D=sN->aa H H'->H' D=qN (.lst ys)->Q (.ref D) H')
def vL[DecidableEq r](kvs:List (r×V))(k g:r)(v:V):Ka (kvs++[(k,v)]) g=(Ka kvs g).or (if k=g then qN v else sN):=by
 unfold Ka
 grind
def wL(h:Cc H vs ns):Cc H (vs.drop 1++vs.take 1) (ns.drop 1++ns.take 1):=by
 cases h with
 |nil=>exact .nil
 |cons h t=>exact Se t (.cons h .nil)
def xL(T:Tx K mg):T.qw.Ok P w base 1 uL:=by
 refine Ua T.qw.F λH _ _ _ p0 h=>?_
 ·obtain⟨f0,t,g,s1,c,es,rfl,g0,h0,t1,q0,i0,le,K0,q⟩:=h;refine⟨_,(pa (Ma 2 HI)
   (pa (Jb Db rfl (Za (pv 1)) (bb 3)
   (ma (Nd (JI (P:=P) (w:=w) rfl rfl (u8 p0.units) (pv 2) (Rb (ka (Ja zb (pv 3) la) (Ca (Ja zb (pv 3) la)))) (pv 3) ⟨rfl,rfl,rfl,rfl⟩))))
   (ma (Ga (Ud ["pair"] ["firsts"] [2] (OI (K:=K) rfl rfl T.HJ (ka (pv 0) (Ca (eb fi (bi di (pv 0) (ai la) Zh) (bi di (pv 0) Zh (ai la)))))) (bc 0) Ie (II (P:=P) (w:=w) rfl rfl (u8 p0.units) (pv 1) (pv 0) (λ_ _=>rfl))))))),?_⟩
  show let L0:TS:=_;let M0:TS:=qa (Qb _ _ _) L0;qa _ M0 _ _ _
  intros;intro fd r0;have s0:=aa.upd (o:=HO.ext (Le fd #[] 0)) r0;have lt:=Ta i0;refine⟨_,rfl,t,rfl,⟨_,ca.of (s0 _ _ q0)⟩,nc (λi b0 O=>∃j0:Option V,∃J ep kvs,b0=[qN (.ref f0),qN (.ref t),qN (.ref fd),j0]/\aa H O/\O fd=qN (.ext (Le fd J ep))/\Gh P w O J kvs/\kvs.length<=i/\∀e∈es.take i,∃v,Ka kvs (ql e)=qN v) (nx3 sN (#[]) 0 ([]) rfl s0 ia ⟨.nil,.nil⟩ ⟨wa _,by simp⟩) (by rintro i b0 O _;refine eaG ?_;rintro _ _ _ _ _ r _;exact ca.of (r _ _ q0)) ?_ ?_⟩
  ·rintro i x b0 O ex;refine ebH ?_;rintro j0 J ep kvs rfl U Y a0 lk k0;refine ea1 ?_ (Lb i0 ex);rintro e N0 O0;revert O0;refine ea5 ?_;rintro b t0 u0 rfl v0 c0 d0;have w0:es.take (i+1)=es.take i++[e]:=by rw[gc,N0];rfl
   have li:=(rb.mp ex).1;have u1:J.size=kvs.length:=by rw[<-Dc];exact Ta a0.1
   have sz:vN=2^24:=rfl;refine⟨_,rfl,fd,J,ep,rfl,Y,_,rfl,b,_,_,_,rfl,rfl,oa.of (U _ _ v0),rfl,_,rfl,b,_,_,_,rfl,rfl,oa.of (U _ _ v0),rfl,Ha,λP0 Q0=>?_⟩;have st:=aa.upd (o:=HO.tup [t0,u0]) Q0;have S:=U.trans st;refine⟨_,rfl,J,ep,kvs,ql e,st _ _ Y,a0.kp λ_ _ z=>st _ _ z,nx2 P0 t0 u0 rfl ia (je S c0) (je S d0),(by lia),λv x0=>nx3 _ J ep kvs rfl S (st _ _ Y) (a0.kp λ_ _ z=>st _ _ z) ⟨zl lk,?_⟩,λR0 S0 T0 l0=>nx3 _ S0 T0 _ rfl (yI S (λb u n z=>by rw[ja n];exact z) r0) ia l0 ⟨by rw[Ya];exact bp lk,?_⟩⟩
   ·rw[w0]
    grind
   ·rw[w0];exactλU0 V0=>by
     rw[vL];rcases fc.mp V0 with z|z
     ·obtain⟨v,x0⟩:=k0 U0 z;exact⟨v,by rw[x0];rfl⟩
     ·rw[cc.mp z,R0];exact⟨_,by rw[va rfl];rfl⟩
  ·rintro b0 O;refine ebH ?_;rintro j0 J ep kvs rfl U Y a0 lk k0;have sz:vN=2^24:=rfl;have v1:=Ta h0;refine⟨_,rfl,_,rfl,1,rfl,f0,g,rfl,ca.of (U _ _ g0),λy0 W0=>?_⟩;have m0:=aa.upd (o:=HO.lst (ag g (qN 1) sN)) W0;refine⟨_,rfl,1,rfl,f0,g,rfl,ca.of (m0 _ _ (U _ _ g0)),λz0 X0=>?_⟩;have n0:=aa.upd (o:=HO.lst (ag g sN (qN 1))) X0;rw[mx g 1 1 rfl]at*;rw[BB g 1 1 rfl]at*;refine⟨y0,z0,g.drop 1,g.take 1,rfl,rfl,n0 _ _ ia,ia,(by rw[Kg,se];omega),λY0 Z0=>?_⟩;have A0:=aa.upd (o:=HO.lst (g.drop 1++g.take 1)) Z0;have S:=U.trans (m0.trans (n0.trans A0));have B0:=m0.trans (n0.trans A0);have a1:=B0 _ _ Y;have l0:=a0.kp λ_ _ z=>B0 _ _ z
   have e0:=S _ _ g0;have o0:=ia (H:=upd (upd O y0 (.lst (g.drop 1))) z0 (.lst (g.take 1))) (a:=Y0) (o:=HO.lst (g.drop 1++g.take 1));have w1:(g.drop 1++g.take 1).length=c.length:=by rw[Ya,Kg,se];grind
   refine nx18 _ _ _ _ rfl (.list (ca.of e0)) (.list (ca.of o0)) (Hn (k:=1) (fs:=[qN (.ref fd)]) c.length (λ_ i ys _=>ys.length=i) rfl (by lia) (λi H r b1=>⟨(Pd (ca.of (r _ _ e0))).go i (by simp_all),(Pd (ca.of (r _ _ o0))).go i (by simp_all)⟩) (λH r=>.inl ((Pd (ca.of (r _ _ e0))).stop _ (by simp_all))) (λ_ _ _ _ p=>Cj p) (λ_ _=>rfl) (λD i C0 ys x1 v y1 R D0 F0 r b1 c1 y a _=>?_) λD C0 ys d1 r D0 F0=>?_)
   ·obtain⟨t,rfl⟩:=Zc.mp c1;revert y;refine ea2 ?_;rintro p x y e1 f1 rfl g1 rfl;have ex:=(Pd (ca.of (r _ _ e0))).af i x _ e1;have h1:=(Pd (ca.of (r _ _ o0))).af i y _ f1;have i1:=S.trans r;have tp:=aa.upd (o:=HO.tup [x,y]) g1;refine ea1 ?_ (Lb h0 ex);rintro c0 j1 k1;refine ea1 ?_ (Lb (wL h0) h1);rintro d0 l1 m1;have n1:(Bm c)[i]?=qN (c0,d0):=by unfold Bm;rw[Rm];exact⟨j1,l1⟩
    refine ea1 ?_ (K0 _ (Xa n1));rintro o1 p1 r1;obtain⟨G0,I0⟩:=k0 o1 (by rw[Ta i0,vc];exact p1);rw[r1]at I0;have J0:=i1.trans tp;refine⟨_,rfl,_,rfl,fd,J,ep,kvs,(c0,d0),G0,rfl,tp _ _ (r _ _ a1),l0.kp λ_ _ z=>tp _ _ (r _ _ z),nx2 p x y rfl ia (je J0 k1) (je J0 m1),I0,a G0 [_] _ rfl tp (by simp[F0])⟩
   ·exact q D ys C0 (S.free d1) (S.trans r) D0
--@La
structure VB(Q:VK)(H:Hp)(w:Option Str)(p:Ps):Prop where
 un:∀(a b c:Int)t H',aa H H'->H' t=qN (.tup [.str "unkept",.int a,.int b,.int c])->Q (.ref t) H'
 rg:∀t o ov H',aa H H'->H' t=qN (.tup [.str "ring",.ref o])->H' o=qN (.lst ov)->Q (.ref t) H'
 od:Vt w p->∀f:Nk->Nat,(∀x∈Di w p,f x.1<f x.2.1)->∀t o ov H',aa H H'->H' t=qN (.tup [.str "order",.ref o])->H' o=qN (.lst ov)->Q (.ref t) H'
structure GJ(p:Ps):Prop where
 gh:GH p
 nf:∀w,(kh w p).length<=40
 ef:∀w,(Di w p).length<=1200
inductive yL(vs:List V)(H:Hp)(Q:VK)(E:XK):Prop|mk(v:V)(p:Ps)(w:Option Str)(_:vs=[v,wV w])(_:Tr H v (Ih p))(_:GJ p)(_:(∀x,w=qN x->x∈Rf))(_:VB Q H w p)
def zL{w:Option Str}{p:Ps}(g:GH p):(kh w p).Nodup:=by
 refine List.pairwise_flatMap.mpr ⟨λd _=>Gd.mpr (Oi (λ{i j:Nat}(z:i<j)e=>?_) Ll),Oi (λ{d e}z x r y J q=>?_) (Gd.mp g.nums)⟩
 ·have:=Vb Prod.snd e;simp only at this;lia
 ·obtain⟨i,_,rfl⟩:=Sa.mp r;obtain⟨j,_,rfl⟩:=Sa.mp J;have:=Vb Prod.fst q;simp only at this;simp_all
def AL:∀(H H':Hp)(y:V)(k:Nk×Nk),KN H H'->Gc H y k->Gc H' y k:=λ_ _ _ _ k h=>YA (λb xs e=>k b _ (λ_ z=>by cases z) e) h
def WB(T:Tx K mg):T.gl.Ok P w base 6 yL:=by
 refine T.gl.F.ok (gq (N:=Oe (Ac (top 52)))) (λvs H Q E h=>?_) (λs1 A outer s H vs Q E O h=>?_)
 ·obtain⟨v,p,wo,rfl,_⟩:=h;rfl
 ·obtain⟨v,p,wo,rfl,tr,U,b0,c0⟩:=h;refine⟨_,(pa (Ma 2 (zn ((tL T).mono (by decide)) O rfl T.pq.m T.pq.F.kp T.pq.b .nil Vk (ka (pv 0) (za 1))))
   (pa (qc (xb Dp (pv 2) yh (Bb _))
   (ma (Ga (eb fE (Rb (Ca Ib)) (pv 2))))
   pc)
   (pa (Ma 3 (zn ((NK T).mono (by decide)) O rfl T.nq.m T.nq.F.kp T.nq.b .nil Vk (ka (pv 0) (za 1))))
   (pa (Ma 4 (zn ((Ei T).mono (by decide)) O rfl T.oq.m T.oq.F.kp T.oq.b .nil Vk (ka (pv 0) (za 1))))
   (pa (jj 5 ["edge"] (by show(Oe _).Nodup;decide+kernel) [] [] (Za (pv 4)) (bc 0) Ie (Rb (ka (Ja (ie (K:=K) rfl) (pv 0) la) (Ca (Ja (ie (K:=K) rfl) (pv 0) la)))))
   (pa (Ma 6 (fb T.gw (gK T) O (ka (pv 3) (za 5))))
   (pa (qc (xb Dp (pv 6) yh (Bb _))
   (ma (Ga (Rb (ka Ib (za 6)))))
   pc)
   (ma (Ga (Rb (ka Ib (Ca (fb T.qw (xL T) O (ka (fb T.hw (iK T) O (ka (pv 3) (za 5))) (za 4))))))))))))))),?_⟩
  show let B0:TS:=_;let C0:TS:=qa (zc _ _ _) B0;let D0:TS:=qa _ C0;let F0:TS:=qa _ D0;let G0:TS:=qa _ F0;let I0:TS:=qa _ G0;let J0:TS:=qa (zc _ _ _) I0;qa _ J0 _ _ _
  intros;have sz:vN=2^24:=rfl;refine⟨_,rfl,_,rfl,v,p,wo,rfl,tr,U.gh.gp,b0,λK0 Y L0=>?_,λt K0 M0 N0 O0 Y r=>?_⟩
  ·have t1:=U.nf wo;have u1:=U.ef wo;have j0:=zL (w:=wo) U.gh;refine⟨_,rfl,rfl,_,rfl,yg (A:=_) ⟨_,rfl,_,rfl,v,p,wo,rfl,tr.same Y,U.gh.gp,b0,λk0 v1 l0 w1 P0 m0 n0=>?_⟩⟩;have o0:=Y.trans P0;refine⟨_,rfl,_,rfl,v,p,wo,rfl,tr.same o0,U.gh,b0,λp0 x1 Q0 es y1 q0 d0 r0 le R0 S0=>?_⟩;have s0:(es.map ql).length<=1200:=by rw[ua];lia
   have t0:∀k∈es.map ql,k.1∈kh wo p/\k.2∈kh wo p:=λk e0=>by
    obtain⟨x,f0,rfl⟩:=Sa.mp e0;exact(R0 x f0).1
   refine⟨_,rfl,p0,rfl,⟨_,ca.of d0⟩,dh (k:=1) (fs:=[]) Gc Zb es (λe=>qN (ql e)) AL (λ_ _ _ _ u0 z=>fk _ _ _ _ (KN.of u0) z) rfl d0 r0 (by lia) (λe z1 T0 A1 v R u0 U0 V0 W0 _=>?_) λv0 T0 pv B1 a0 w0 g0=>?_⟩
   ·obtain⟨t,rfl⟩:=Zc.mp U0;revert V0;refine ea5 ?_;rintro b X0 Y0 rfl x0 Z0 a1;exact⟨_,rfl,b,_,_,_,rfl,rfl,oa.of x0,rfl,_,rfl,b,_,_,_,rfl,rfl,oa.of x0,rfl,Ha,λn J=>W0 _ _ [_] _ rfl rfl (aa.upd J) (nx2 n X0 Y0 rfl ia (je (aa.upd J) Z0) (je (aa.upd J) a1))⟩
   ·rw[qo]at g0;have y0:=o0.trans (q0.trans a0);have h0:=q0.trans a0;refine⟨_,rfl,_,rfl,k0,v0,l0,pv,kh wo p,es.map ql,rfl,ca.of (h0 _ _ m0),pe (Dg h0) n0,j0,(by lia),ca.of w0,g0,s0,t0,λn J k b1 c1 g=>?_,λo d1 c1 f e1 C1 g f1=>?_⟩
    ·have g1:=y0.trans g;have z0:=h0.trans g;refine⟨_,rfl,rfl,_,rfl,yg (A:=_) ⟨_,rfl,_,rfl,k0,v0,l0,pv,kh wo p,es.map ql,rfl,ca.of (z0 _ _ m0),pe (Dg z0) n0,j0,(by lia),ca.of (g _ _ w0),Sw g g0,s0,t0,λh1=>absurd b1 (h1 n J k),λc i1 j1 D1 k1 l1 E1 i0 m1 n1=>?_⟩⟩;exact⟨_,rfl,i1,p0,j1,Q0,c,es,rfl,m1,n1,l1,i0 _ _ (g _ _ (a0 _ _ d0)),kg (KN.of (a0.trans (g.trans i0))) r0,(by lia),(λk e0=>Sa.mp (k1 k e0)),λo1 ys F1 G1 p1 r1=>⟨Ha,λt r=>c0.rg t o1 ys _ (g1.trans (i0.trans (p1.trans (aa.upd r)))) ia (aa.upd r _ _ r1)⟩⟩
    ·exact⟨_,rfl,rfl,_,rfl,Xk (B:=_) ⟨_,rfl,Ha,λt r=>c0.od L0 f (λx f0=>e1 _ (Sa.mpr ⟨x,S0 x f0,rfl⟩)) t o d1 _ (y0.trans (g.trans (aa.upd r))) ia (aa.upd r _ _ f1)⟩⟩
  ·exact⟨_,rfl,rfl,_,rfl,Xk (B:=_) ⟨(by decide),λu A0=>⟨_,rfl,u,t,_,_,rfl,rfl,oa.of ia,oa.of (aa.upd A0 _ _ r),(λz=>by cases z),Ad,(λz=>by cases z),λ_ n J=>c0.un M0 N0 O0 n _ (Y.trans ((aa.upd A0).trans (aa.upd J))) ia⟩⟩⟩
--@La
def gf(d:Dl):List Pr:=d.2.2.flatten
def Df(n:Int):Int->List Int->Option Int
 |_,[]=>sN
 |p,m::r=>if m=n then qN p else Df n m r
def ox{n:Int}{ms:List Int}:∀{p:Int},n∈ms->Df n p ms=qN (if ms.idxOf n=0 then p else ms.getD (ms.idxOf n-1) 0):=by
 induction ms with
 |nil=>intro _ h;cases h
 |cons m g r=>
  intro p h;show(if m=n then qN p else Df n m g)=_;by_cases e:m=n
  ·have:(m::g).idxOf n=0:=by subst e;exact List.idxOf_cons_self
   rw[va e,va this]
  ·have J:n∈g:=(rc.mp h).resolve_left λq=>e q.symm
   have O:(m::g).idxOf n=g.idxOf n+1:=by
    rw[List.idxOf_cons,show(m==n)=yN from lp.mpr e];rfl
   rw[na e,r (p:=m) J,O];refine Vb qN ?_;rw[na (show¬(g.idxOf n+1=0)from Nat.succ_ne_zero _),Nat.add_sub_cancel];cases g.idxOf n with
   |zero=>rfl
   |succ k=>rfl
def BL{n:Int}{ms:List Int}:∀{p:Int},n∉ms->Df n p ms=sN:=by
 induction ms with
 |nil=>intro _ _;rfl
 |cons m g r=>
  intro p h;show(if m=n then qN p else Df n m g)=sN;rw[na λe=>h (by rw[e];exact .head _)];exact r λq=>h (.tail _ q)
def Wt(n r k:Int):List Key:=[.inr "lost",.inl n,.inl r,.inl k]
def yo(n k:Int):List Key:=[.inr "midway",.inl n,.inl k]
def ik(n k:Int):List Key:=[.inr "unkept",.inl n,.inl k]
def Xt(n o k l:Int):List Key:=[.inr "skewed",.inl n,.inl o,.inl k,.inl l]
def Mb(g:List Dl)(n k s:Int):Prop:=∃d∈g,d.1=n/\(k,s)∈gf d
inductive Aq(ds:List Dl)(mk:List pb)(n k o:Int):Prop|mk(ms s)(_:(k,ms)∈mk)(_:o∈ms)(_:Mb ds n k s)(_:(s=0\/s∈ms.take (ms.idxOf o)))
inductive ud(ds:List Dl)(mk:List pb):List Key->Prop
 |mj{n k:Int}:Mb ds n k (-1)->ud ds mk (ik n k)
 |mid{n k s s':Int}:Mb ds n k s->Mb ds n k s'->s≠s'->ud ds mk (yo n k)
 |re{n k r s:Int}{ms:List Int}:(k,ms)∈mk->Df n 0 ms=qN r->Mb ds n k s->s≠r->ud ds mk (Wt n r k)
 |ge{n o k l:Int}:n≠o->Aq ds mk n k o->Aq ds mk o l n->ud ds mk (Xt n o k l)
def Yt(x:Str):Prop:=x="loose"\/x="kept"
def Bq(x:Str):Prop:=x="loose"\/x="kept"\/x="make"
inductive jk(ds:List Dl):List Key->Prop
 |mj{d:Dl}{k:Int}:d∈ds->d.2.1="loose"->jk ds (ik d.1 k)
 |mid{d:Dl}{k:Int}:d∈ds->Yt d.2.1->jk ds (yo d.1 k)
 |re{d:Dl}{r k:Int}:d∈ds->Yt d.2.1->jk ds (Wt d.1 r k)
 |ge{d e:Dl}{k l:Int}:d∈ds->e∈ds->(Bq d.2.1\/Bq e.2.1)->jk ds (Xt d.1 e.1 k l)
def px{g:List Dl}{mk:List pb}{j:List Key}(h:ud g mk j):∃(x:Str)(ns:List Int),j=.inr x::ns.map Sum.inl:=by
 cases h with
 |@mj n k _=>exact nx1 ("unkept") ([n,k]) rfl
 |@mid n k _ _ _ _ _=>exact nx1 ("midway") ([n,k]) rfl
 |@re n k r _ _ _ _ _ _=>exact nx1 ("lost") ([n,r,k]) rfl
 |@ge n o k l _ _ _=>exact nx1 ("skewed") ([n,o,k,l]) rfl
def qx:∀a b:List Int,Ss (a.map Sum.inl) (b.map Sum.inl)
 |[],_=>trivial
 |_::_,[]=>trivial
 |_::a,_::b=>⟨trivial,qx a b⟩
def rx{r:List Dl}{mk:List pb}{js:List (List Key)}(h:∀j∈js,ud r mk j):Sn js:=by
 refine⟨λk g l J=>?_,λk g e=>?_⟩
 ·obtain⟨x,a,rfl⟩:=px (h k g);obtain⟨y,b,rfl⟩:=px (h l J);exact⟨trivial,qx a b⟩
 ·obtain⟨x,a,rfl⟩:=px (h k g);cases e
structure nj(w:Option Str)(p:Ps)(f:Nk->Nat):Prop where
 gh:GH p
 no:Vt w p
 own:∀d∈p.1,∀lk∈d.2.2,∀q∈lk,q.2≠d.1
 up:∀x∈Di w p,f x.1<f x.2.1
def XB{d:Dl}{k s:Int}(h:(k,s)∈gf d):∃(i:Nat)(lk:Lk),d.2.2[i]?=qN lk/\(k,s)∈lk:=by
 refine ea1 ?_ (List.mem_flatten.mp h);rintro lk g r;obtain⟨i,J⟩:=Hd.mp g;exact nx4 i lk J r
def nj.look{w:Option Str}{p:Ps}{f:Nk->Nat}(g:nj w p f){d:Dl}(r:d∈p.1){k s:Int}(h:(k,s)∈gf d)(d0:∀i:Int,hh (wb w d) i=qN 0)(e0:si (wb w d)=yN):
  s≠-1/\s≠d.1/\(s=0\/s∈kb p.2 k)/\(∀m∈(kb p.2 k).take (mc (kb p.2 k) s),m≠d.1->f (ke w p m)<f (d.1,0))/\∀m∈(kb p.2 k).drop (mc (kb p.2 k) s),m≠d.1->f (d.1,0)<f (ke w p m):=by
 refine eaA ?_ (XB h);rintro i lk O J;have U:=Xa O;have Y:s≠-1:=g.no d r e0 lk U _ J;have a0:∀x∈Gg w p d.1 0 (k,s),x∈Di w p:=λx f0=>by
  refine xk _ (We _ (Xe.mpr ⟨d,r,Xe.mpr ⟨i,Ye.mpr (rb.mp O).1,?_⟩⟩));unfold ih;rw[d0];refine Xe.mpr ⟨(k,s),?_,f0⟩;rw[Hk,O];exact J
 have e:Gg w p d.1 0 (k,s)=(((kb p.2 k).take (mc (kb p.2 k) s)).filter λm=>decide (m≠d.1)).map (λm=>((ke w p m,(d.1,0),"saw",qN k):Eg))++(((kb p.2 k).drop (mc (kb p.2 k) s)).filter λm=>decide (m≠d.1)).map (λm=>(((d.1,0),ke w p m,"unseen",qN k):Eg)):=na Y;rw[e]at a0;refine⟨Y,g.own d r lk U _ J,((g.gh.Hg d r lk U).2 _ J).resolve_left Y,λm b0 c0=>?_,λm b0 c0=>?_⟩
 ·exact g.up _ (a0 _ (xk _ (Sa.mpr ⟨m,Ze.mpr ⟨b0,Xb c0⟩,rfl⟩)))
 ·exact g.up _ (a0 _ (We _ (Sa.mpr ⟨m,Ze.mpr ⟨b0,Xb c0⟩,rfl⟩)))
def YB{ms:List Int}{x:Int}(h:x∈ms)(g:x≠0):x∈ms.take (mc ms x):=by
 unfold mc;rw[na g,List.mem_take_iff_getElem];have:=rh h;exact⟨ms.idxOf x,by lia,Mh _⟩
def Zt{ms:List Int}{x:Int}(h:x∈ms){n:Nat}(g:n<=ms.idxOf x):x∈ms.drop n:=by
 have:=rh h;rw[List.mem_drop_iff_getElem];refine⟨ms.idxOf x-n,by simp_all,?_⟩;have e:n+(ms.idxOf x-n)=ms.idxOf x:=by simp_all
 simp only[e];exact Mh _
def CL{ms:List Int}{i j:Nat}{a b:Int}(g:ms[i]?=qN a)(r:ms[j]?=qN b)(h:i<j):(a,b)∈Nc ms:=by
 induction ms generalizing i j with
 |nil=>cases g
 |cons x O J=>
  cases j with
  |zero=>simp_all
  |succ j=>
   cases i with
   |zero=>
    cases g;exact xk _ (Sa.mpr ⟨b,Xa r,rfl⟩)
   |succ i=>exact We _ (J g r (by lia))
def nj.over{w:Option Str}{p:Ps}{f:Nk->Nat}(g:nj w p f){k a b:Int}(r:a∈kb p.2 k)(J:b∈kb p.2 k)(h:(kb p.2 k).idxOf a<(kb p.2 k).idxOf b):f (ke w p a)<f (Bi w p b):=by
 obtain⟨_,_,O,_⟩:=g.gh.num r;have U:=Xa (ro O);refine g.up (ke w p a,Bi w p b,"over",qN k) (We _ (Xe.mpr ⟨_,U,Sa.mpr ⟨(a,b),CL (i:=(kb p.2 k).idxOf a) (j:=(kb p.2 k).idxOf b) ?_ ?_ h,rfl⟩⟩))
 ·rw[Wb (rh r)];exact Vb qN (Mh _)
 ·rw[Wb (rh J)];exact Vb qN (Mh _)
def ZB{w:Option Str}{p:Ps}{f:Nk->Nat}(g:nj w p f){d:Dl}(r:d∈p.1):f (Bi w p d.1)<=f (ke w p d.1):=by
 rw[Qt g.gh r,Pt g.gh r];have J:∀{l:Lv},wb w d=l->l=.make->f (d.1,0)<f (d.1,1):=λ{l}O U=>by
  refine g.up ((d.1,0),(d.1,1),"own",sN) (xk _ (xk _ (Xe.mpr ⟨d,r,Sa.mpr ⟨((d.1,0),(d.1,1)),?_,rfl⟩⟩)));unfold Qc;rw[O,U];exact .head _
 unfold Fm ck;cases e:wb w d with
 |make=>exact vj (J e rfl)
 |kept=>simp[Tn,Pe]
 |loose=>exact wa _
 |watch=>exact wa _
 |hold=>exact wa _
def DL{ms:List Int}{n:Nat}{s:Int}(h:s∈ms.take n):ms.idxOf s+1<=n:=by
 have g:=rh h;have r:ms.idxOf s=(ms.take n).idxOf s:=by
  conv=>lhs;rw[<-Ng n ms]
  rw[List.idxOf_append,va h]
 have:=List.length_take_le n ms;lia
def EL{c:List Int}{a b:Int}(J:a=0\/a∈c)(O:b=0\/b∈c)(h:a≠b):mc c a<mc c b\/mc c b<mc c a:=by
 unfold mc;by_cases r:a=0
 ·by_cases g:b=0
  ·exact absurd (r.trans g.symm) h
  ·rw[va r,na g];simp_all
 ·by_cases g:b=0
  ·rw[na r,va g];simp_all
  ·rw[na r,na g];have U:=rh (J.resolve_left r);have Y:=rh (O.resolve_left g);have:c.idxOf a≠c.idxOf b:=λe=>h (by
    have a0:c[c.idxOf a]=a:=Mh U;have b0:c[c.idxOf b]=b:=Mh Y;rw[<-a0,<-b0];simp only[e])
   lia
def nj.two{w:Option Str}{p:Ps}{f:Nk->Nat}(r:nj w p f){d:Dl}(J:d∈p.1)(O:∀i:Int,hh (wb w d) i=qN 0)(U:si (wb w d)=yN){k a b:Int}(b0:(k,a)∈gf d)(c0:(k,b)∈gf d)(lt:mc (kb p.2 k) a<mc (kb p.2 k) b):False:=by
 obtain⟨_,_,_,_,d0⟩:=r.look J b0 O U;obtain⟨_,Y,e0,f0,_⟩:=r.look J c0 O U;have g:b≠0:=λz=>by unfold mc at lt;rw[va z]at lt;simp_all
 have a0:=e0.resolve_left g;have g0:=f0 b (YB a0 g) Y;have h0:=d0 b (Zt a0 (by unfold mc at lt;rw[na g]at lt;unfold mc;lia)) Y;lia
def lg(w:Option Str)(g:List Dl):List Dl:=g.map λd=>(d.1,w.getD d.2.1,d.2.2)
def Hm{w:Option Str}{g:List Dl}{d:Dl}(h:d∈g):(d.1,w.getD d.2.1,d.2.2)∈lg w g:=Sa.mpr ⟨d,h,rfl⟩
def nj.lets{w:Option Str}{p:Ps}{f:Nk->Nat}(r:nj w p f)(y0:∀x,w=qN x->x∈Rf){j:List Key}(h:ud p.1 p.2 j):jk (lg w p.1) j:=by
 have ex:∀d∈p.1,w.getD d.2.1=wd (wb w d):=λd g=>by
  refine(Jt ?_).symm;cases w with
  |none=>exact(r.gh.gp.2.2 d g).1
  |some x=>exact y0 x rfl
 have f0:∀{d:Dl},d∈p.1->(Yt (w.getD d.2.1))\/((∀i:Int,hh (wb w d) i=qN 0)/\si (wb w d)=yN/\Bi w p d.1=(d.1,0)):=λ{d}g=>by
  rw[ex d g,Qt r.gh g];unfold Fm;cases wb w d with
  |loose=>exact .inl (.inl rfl)
  |kept=>exact .inl (.inr rfl)
  |make=>exact .inr ⟨λ_=>rfl,rfl,rfl⟩
  |watch=>exact .inr ⟨λ_=>rfl,rfl,rfl⟩
  |hold=>exact .inr ⟨λ_=>rfl,rfl,rfl⟩
 cases h with
 |mj s=>
  obtain⟨d,g,rfl,h⟩:=s;refine .mj (d:=(d.1,w.getD d.2.1,d.2.2)) (Hm g) ?_;show w.getD d.2.1="loose";rw[ex d g];obtain⟨i,lk,f0,z0⟩:=XB h;cases e:wb w d with
  |loose=>rfl
  |kept|make|watch|hold=>exact absurd rfl (r.no d g (by rw[e];rfl) lk (Xa f0) _ z0)
 |mid s s' g0=>
  obtain⟨d,g,rfl,h⟩:=s;revert s';refine ea8 ?_;rintro d' h0 e h';have:d'=d:=by
   have:=r.gh.at h0;rw[e,r.gh.at g]at this;exact(Ed this).symm
  subst this;rcases f0 g with z|⟨Y,a0,_⟩
  ·exact .mid (d:=(d'.1,w.getD d'.2.1,d'.2.2)) (Hm g) z
  ·rcases EL (r.look g h Y a0).2.2.1 (r.look g h' Y a0).2.2.1 g0 with z|z
   ·exact(r.two g Y a0 h h' z).elim
   ·exact(r.two g Y a0 h' h z).elim
 |@re n k U s ms l0 i0 A0 g0=>
  obtain⟨d,g,rfl,h⟩:=A0;rcases f0 g with z|⟨Y,a0,s0⟩
  ·exact .re (d:=(d.1,w.getD d.2.1,d.2.2)) (Hm g) z
  ·exfalso;obtain⟨_,t0,u0,B0,e0⟩:=r.look g h Y a0;have O:kb p.2 k=ms:=uo r.gh l0;have c0:d.1∈ms:=Og λz=>by rw[BL z]at i0;cases i0
   rw[ox c0]at i0;have j0:=Ed i0;have C0:=ZB r g;rw[s0]at C0;have D0:ms.Nodup:=O▸r.gh.xq k;by_cases lt:mc ms s<=ms.idxOf d.1
   ·by_cases m0:ms.idxOf d.1=0
    ·rw[va m0]at j0;rw[m0]at lt;unfold mc at lt;by_cases J:s=0
     ·exact g0 (J.trans j0)
     ·rw[na J]at lt;simp_all
    ·rw[na m0]at j0;have R0:=rh c0;have v0:ms[ms.idxOf d.1-1]'(by omega)=U:=by
      rw[<-j0,Hk,Wb (by lia)];rfl
     have w0:U∈ms:=v0▸List.getElem_mem _;have F0:ms.idxOf U=ms.idxOf d.1-1:=by rw[<-v0];exact D0.idxOf_getElem _ _
     have G0:U≠d.1:=λz=>by rw[z]at F0;lia
     have I0:mc ms s<=ms.idxOf U:=by
      unfold mc at lt⊢;by_cases J:s=0
      ·rw[va J];exact Va _
      ·rw[na J]at lt⊢;have b0:=u0.resolve_left J;rw[O]at b0;have n0:=rh b0;have:ms.idxOf s≠ms.idxOf U:=λz=>g0 (by
        have o0:ms[ms.idxOf s]=s:=Mh n0;have p0:ms[ms.idxOf U]'(by simp_all)=U:=Mh _;rw[<-o0,<-p0];simp only[z])
       lia
     rw[O]at e0;have q0:=e0 U (Zt w0 I0) G0;have k0:=r.over (k:=k) (a:=U) (b:=d.1) (by rw[O];exact w0) (by rw[O];exact c0) (by rw[O];lia);rw[s0]at k0;lia
   ·have J:s≠0:=λz=>lt (by unfold mc;rw[va z];exact Va _)
    have b0:=u0.resolve_left J;unfold mc at lt;rw[na J]at lt;have q0:=B0 s (YB b0 J) t0;obtain⟨⟨e,d0,rfl⟩,_⟩:=r.gh.num b0;have S0:ms.idxOf e.1≠ms.idxOf d.1:=λz=>t0 (by
     rw[O]at b0;have o0:ms[ms.idxOf e.1]'(rh b0)=e.1:=Mh _;have p0:ms[ms.idxOf d.1]'(rh c0)=d.1:=Mh _;rw[<-o0,<-p0];simp only[z])
    have k0:=r.over (k:=k) (a:=d.1) (b:=e.1) (by rw[O];exact c0) b0 (by rw[O];lia);have T0:=ZB r d0;lia
 |@ge n o k l no J0 K0=>
  obtain⟨ms,s,l0,r0,⟨d,g,rfl,h⟩,n0⟩:=J0;obtain⟨ns,t,c0,h0,⟨e,d0,rfl,h'⟩,L0⟩:=K0;have key:∀{d:Dl},d∈p.1->Bq (w.getD d.2.1)\/((∀i:Int,hh (wb w d) i=qN 0)/\si (wb w d)=yN/\ke w p d.1=(d.1,0)):=λ{d}g=>by
   rw[ex d g,Pt r.gh g];unfold ck;cases wb w d with
   |loose=>exact .inl (.inl rfl)
   |kept=>exact .inl (.inr (.inl rfl))
   |make=>exact .inl (.inr (.inr rfl))
   |watch=>exact .inr ⟨λ_=>rfl,rfl,rfl⟩
   |hold=>exact .inr ⟨λ_=>rfl,rfl,rfl⟩
  have part:∀{ms:List Int}{s o:Int},o∈ms->(s=0\/s∈ms.take (ms.idxOf o))->mc ms s<=ms.idxOf o:=λ{ms s o}r0 h=>by
   unfold mc;by_cases J:s=0
   ·rw[va J];exact Va _
   ·rw[na J];exact DL (h.resolve_left J)
  rcases key g with z|⟨Y,a0,M0⟩
  ·exact .ge (d:=(d.1,w.getD d.2.1,d.2.2)) (e:=(e.1,w.getD e.2.1,e.2.2)) (Hm g) (Hm d0) (.inl z)
  ·rcases key d0 with z|⟨N0,O0,P0⟩
   ·exact .ge (d:=(d.1,w.getD d.2.1,d.2.2)) (e:=(e.1,w.getD e.2.1,e.2.2)) (Hm g) (Hm d0) (.inr z)
   ·exfalso;have O:kb p.2 k=ms:=uo r.gh l0;have Q0:kb p.2 l=ns:=uo r.gh c0;obtain⟨_,_,_,_,e0⟩:=r.look g h Y a0;obtain⟨_,_,_,_,x0⟩:=r.look d0 h' N0 O0;rw[O]at e0;rw[Q0]at x0;have q0:=e0 e.1 (Zt r0 (part r0 n0)) (lc no);have k0:=x0 d.1 (Zt h0 (part h0 L0)) no;rw[P0]at q0;rw[M0]at k0;lia
--@La
def zo(H:Hp)(m:uN)(mk:List pb):Prop:=Tr H (.ref m) (.list (mk.map qe))/\mk.length<=1000/\∀r∈mk,r.2.length<=1000
def Ae(H:Hp)(p:uN)(F:Int->List Int):Prop:=∃kvs,Rd H p (.dK kvs)/\kvs.length<=1000/\(∀q∈kvs,∃k,q.1=.inl k)/\∀k,(F k).length<=1000/\((Ka kvs (.inl k)=sN/\F k=[])\/∃l,Ka kvs (.inl k)=qN (.ref l)/\H l=qN (.lst ((F k).map V.int)))
def Ae.kf{H H':Hp}(s:KF H H'){p:uN}{F:Int->List Int}(h:Ae H p F):Ae H' p F:=by
 obtain⟨kvs,r,J,O,g⟩:=h;exact⟨kvs,s.rd r,J,O,λk=>⟨(g k).1,(g k).2.imp id (by refine ea1 ?_;rintro l a b;exact⟨l,a,s.lst b⟩)⟩⟩
def Ae.aC{H:Hp}{p:uN}{F:Int->List Int}(h:Ae H p F):Br H p:=by
 obtain⟨kvs,g,_⟩:=h;exact .inl ⟨_,g⟩
def kk(g:List Dl)(n:Int)(F:Int->List Int):Prop:=∀k,∀s∈F k,Mb g n k s
def Im(g:List Dl)(mk:List pb)(R:Hp->Hp->Prop)(b:Nat)(H:Hp)(Q:VK):Prop:=∀p ys js H',H p=sN->R H H'->H' p=qN (.lst ys)->Paired (ic H') ys js->(∀j∈js,ud g mk j)->js.length<=b->Q (.ref p) H'
inductive FL(vs:List V)(H:Hp)(Q:VK)(E:XK):Prop|mk(v:V)(d:Dl)(_:vs=[v])(_:Tr H v (ee d))(_:(gf d).length<=1000)(_:∀p H' F,aa H H'->H p=sN->Ae (off H H') p F->(∀k,∀s∈F k,(k,s)∈gf d)->Q (.ref p) H')
inductive GL(K:W.Frag)(vs:List V)(H:Hp)(Q:VK)(E:XK):Prop|mk(p:uN)(ms:List Int)(n r:Int)(_:vs=[.int n,.ref p])(_:ca K H p (ms.map V.int))(_:ms.length<=1000)(_:Df n 0 ms=qN r)(_:n∈ms)(_:Q (.int r) H)
inductive HL(vs:List V)(H:Hp)(Q:VK)(E:XK):Prop|mk(n:Int)(sp m:uN)(ds:List Dl)(mk:List pb)(F:Int->List Int)(_:vs=[.int n,.ref sp,.ref m])(_:Ae H sp F)(_:kk ds n F)(_:zo H m mk)(_:Im ds mk aa 1000 H Q)
inductive bC(vs:List V)(H:Hp)(Q:VK)(E:XK):Prop|mk(n:Int)(sp:uN)(ds:List Dl)(mk:List pb)(F:Int->List Int)(_:vs=[.int n,.ref sp])(_:Ae H sp F)(_:kk ds n F)(_:Im ds mk KF 1000 H Q)
def nk(s o:Int)(ms:List Int):Bool:=decide (s=0)||decide (s∈ms.take (ms.idxOf o))
inductive IL(K:W.Frag)(vs:List V)(H:Hp)(Q:VK)(E:XK):Prop|mk(s o:Int)(m:uN)(ms:List Int)(_:vs=[.int s,.int o,.ref m])(_:H m=qN (.lst (ms.map V.int)))(_:o∈ms)(_:ms.length<=1000)(_:∀H',aa H H'->Q (.bl (nk s o ms)) H')
inductive sx(mk:List pb)(F:Int->List Int)(o k:Int):Prop|mk(ms s)(_:(k,ms)∈mk)(_:o∈ms)(_:s∈F k)(_:(s=0\/s∈ms.take (ms.idxOf o)))
inductive JL(vs:List V)(H:Hp)(Q:VK)(E:XK):Prop|mk(sp m:uN)(o:Int)(F:Int->List Int)(mk:List pb)(_:vs=[.ref sp,.int o,.ref m])(_:Ae H sp F)(_:zo H m mk)(_:∀p H' (ks:List Int),H p=sN->aa H H'->H' p=qN (.lst (ks.map V.int))->(∀k∈ks,sx mk F o k)->Q (.ref p) H')
inductive KL(vs:List V)(H:Hp)(Q:VK)(E:XK):Prop|mk(n o:Int)(sd m p1 p2:uN)(kvs:List (Key×V))(F G:Int->List Int)(ds:List Dl)(mk:List pb)(_:vs=[.int n,.int o,.ref sd,.ref m])(_:n≠o)(_:Rd H sd (.dK kvs))(_:Ka kvs (.inl n)=qN (.ref p1))(_:Ka kvs (.inl o)=qN (.ref p2))(_:Ae H p1 F)(_:Ae H p2 G)(_:kk ds n F)(_:kk ds o G)(_:zo H m mk)(_:Im ds mk aa 1 H Q)
def ux(g:List Dl)(mk:List pb):Prop:=g.length<=100/\(g.map (·.1)).Nodup/\(∀d∈g,(gf d).length<=1000)/\mk.length<=1000/\∀r∈mk,r.2.length<=1000
inductive LL(vs:List V)(H:Hp)(Q:VK)(E:XK):Prop|mk(v:V)(ds:List Dl)(mk:List pb)(_:vs=[v])(_:Tr H v (Ih (ds,mk)))(_:ux ds mk)(_:Im ds mk KF 400000 H Q)
def Jm{H:Hp}{v:V}{m:pb}(h:Tr H v (qe m)):∃a l,v=.ref a/\H a=qN (.tup [.int m.1,.ref l])/\H l=qN (.lst (m.2.map V.int)):=by
 cases h with
 |tup h g=>
  cases g with
  |cons J g=>
   cases g with
   |cons O g=>
    cases g;cases J;refine ea0 ?_ (Sf O);rintro a xs rfl r U;rw[U.ints]at r;exact nx0 _ a rfl h r
def Fi{H:Hp}{α:Type}{f:α->MN}{xs:List V}{g:List α}(h:Qa H xs (g.map f)){i:Nat}{v:V}(e:xs[i]?=qN v):∃a,g[i]?=qN a/\Tr H v (f a):=by
 obtain⟨d,r,tr⟩:=h.get e;rw[lb]at r;obtain⟨a,J,rfl⟩:=Jd.mp r;exact⟨a,J,tr⟩
def au{kvs:List (Key×V)}{k:Key}{v:V}(h:Ka kvs k=qN v):(k,v)∈kvs:=by
 unfold Ka at h;obtain⟨q,g,rfl⟩:=Jd.mp h;have e:q.1=k:=yd (List.find?_some (p:=λq:Key×V=>decide (q.1=k)) g);exact e▸List.mem_of_find?_eq_some g
structure oj(U H:Hp)(p:uN)(ps:List Pr)(kvs:List (Key×V)):Prop where
 dict:H p=qN (.dK kvs)
 len:kvs.length<=ps.length
 at_:∀q∈kvs,∃n l ss,q=((.inl n,.ref l):Key×V)/\U l=sN/\H l=qN (.lst ((ss:List Int).map V.int))/\ss.length<=ps.length/\∀s∈ss,(n,s)∈ps
 inj:∀q∈kvs,∀r∈kvs,q.2=r.2->q.1=r.1
def oj.more{O H H':Hp}{p:uN}{U:List Pr}{kvs:List (Key×V)}{k s:Int}{l:uN}{Y:List Int}(h:oj O H p U kvs)(f0:((.inl k,.ref l):Key×V)∈kvs)(g:H l=qN (.lst (Y.map V.int)))(e:H' l=qN (.lst (Y.map V.int++[.int s])))(kp:∀b o,b≠l->H b=qN o->H' b=qN o):oj O H' p (U++[(k,s)]) kvs:=by
 refine⟨kp p _ (λz=>by rw[<-z,h.dict]at g;cases g) h.dict,by rw[Ya];exact Nat.le_add_right_of_le h.len,λq a0=>?_,h.inj⟩;refine ea2 ?_ (h.at_ q a0);rintro n r b0 rfl u c0 d0 e0;by_cases z:r=l
 ·subst z;obtain rfl:n=k:=Ji (h.inj _ a0 _ f0 rfl);rw[c0]at g;injection g with g;injection g with g;refine nx8 n r (b0++[s]) rfl u (by rw[Qd,g];exact e) (by rw[Ya,Ya];exact Nat.add_le_add_right d0 _) λx J=>?_;rcases fc.mp J with y|y
  ·exact xk _ (e0 x y)
  ·rw[cc.mp y];exact We _ (.head _)
 ·exact nx8 n r b0 rfl u (kp r _ z c0) (by rw[Ya];exact Nat.le_add_right_of_le d0) λx J=>xk _ (e0 x J)
def oj.put{J H H':Hp}{p:uN}{U:List Pr}{kvs:List (Key×V)}{k s:Int}{z:uN}(h:oj J H p U kvs)(hz:J z=sN)(c0:H z=sN)(d0:H' p=qN (.dK (kvs++[(.inl k,.ref z)])))(e:H' z=qN (.lst [.int s]))(kp:∀b o,b≠p->H b=qN o->H' b=qN o):oj J H' p (U++[(k,s)]) (kvs++[(.inl k,.ref z)]):=by
 have Y:∀q∈kvs,q.2≠.ref z:=λq r y=>by
  obtain⟨n,l,a0,rfl,u,g,_⟩:=h.at_ q r;cases y;rw[c0]at g;cases g
 refine⟨d0,by rw[Ya,Ya];exact Nat.add_le_add_right h.len _,λq r=>?_,λq r b0 e0 e=>?_⟩
 ·rcases fc.mp r with y|y
  ·refine ea2 ?_ (h.at_ q y);rintro n l a0 rfl u g f0 g0;exact nx8 n l a0 rfl u (kp l _ (λy=>by rw[y,h.dict]at g;cases g) g) (by rw[Ya];exact Nat.le_add_right_of_le f0) λx O=>xk _ (g0 x O)
  ·rw[cc.mp y];exact nx8 k z ([s]) rfl hz e (by rw[Ya];exact Nat.le_add_left _ _) λx O=>by rw[cc.mp O];exact We _ (.head _)
 ·rcases fc.mp r with y|y<;>rcases fc.mp e0 with y'|y'
  ·exact h.inj q y b0 y' e
  ·rw[cc.mp y']at e;exact absurd e (Y q y)
  ·rw[cc.mp y]at e;exact absurd e.symm (Y b0 y')
  ·rw[cc.mp y,cc.mp y']
def oj.src{r H:Hp}{p:uN}{J:List Pr}{kvs:List (Key×V)}(h:oj r H p J kvs)(U:r p=sN)(hz:J.length<=1000):∃F,Ae (off r H) p F/\∀k,∀s∈F k,(k,s)∈J:=by
 have ex:∀k:Int,∃g:List Int,(g.length<=1000/\((Ka kvs (.inl k)=sN/\g=[])\/∃l,Ka kvs (.inl k)=qN (.ref l)/\off r H l=qN (.lst (g.map V.int))))/\∀s∈g,(k,s)∈J:=λk=>by
  cases e:Ka kvs (.inl k)with
  |none=>exact⟨[],⟨Va _,.inl ⟨rfl,rfl⟩⟩,λs Y=>by cases Y⟩
  |some v=>
   refine ea2 ?_ (h.at_ _ (au e));rintro n l g eq u a0 b0 c0;cases eq;exact⟨g,⟨gb b0 hz,.inr ⟨l,rfl,ki u a0⟩⟩,c0⟩
 obtain⟨F,O⟩:=Classical.axiomOfChoice ex;exact⟨F,⟨kvs,.inl (ki U h.dict),gb h.len hz,λq d0=>by obtain⟨n,_,_,e,_⟩:=h.at_ q d0;exact⟨n,by rw[e]⟩,λk=>(O k).1⟩,λk=>(O k).2⟩
def vx{α:Type}{l:List α}(h:l.length=2):∃a b,l=[a,b]:=by
 rcases l with _|⟨a,_|⟨b,_|⟨_,_⟩⟩⟩
 ·cases h
 ·cases h
 ·exact⟨a,b,rfl⟩
 ·cases h
def ML{α:Type}{l:List α}(h:l.length=3):∃a b c,l=[a,b,c]:=by
 cases l with
 |nil=>cases h
 |cons a r=>
  obtain⟨b,c,rfl⟩:=vx (bn h);exact⟨a,b,c,rfl⟩
def wx{α g:Type}{F:α->g->Prop}{xs:List α}{bs:List g}{x:α}{b:g}(h:Paired F xs bs)(y:F x b):Paired F (xs++[x]) (bs++[b]):=by
 induction h with
 |nil=>exact .cons y .nil
 |cons r t J=>exact .cons r J
def cC{α:Type}(g:List α)(f:α->Bool):g.filterMap (λa=>qN (V.bl (f a)))=(g.map f).map V.bl:=by rw[Ve,<-List.filterMap_eq_map];rfl
def dC{α:Type}(g:List α)(f:α->Bool):(g.map f).any id=g.any f:=by rw[List.any_map];rfl
def xx{H H':Hp}{p:uN}{xs:List V}(e:H p=qN (.lst xs))(kp:∀b o,b≠p->H b=qN o->H' b=qN o){vs:List V}{r:List (List Key)}(h:Paired (ic H) vs r):Paired (ic H') vs r:=Paired.imp' (by rintro v k⟨q,J,g⟩;exact⟨q,J,kp q _ (λz=>by rw[z,e]at g;cases g) g⟩) h
def Km{g H H':Hp}{p:uN}(r:g p=sN)(s:aa g H)(kp:∀b o,b≠p->H b=qN o->H' b=qN o):aa g H':=λb o e=>kp b o (λz=>by rw[z,r]at e;cases e) (s b o e)
def eC{H:Hp}{sp z:uN}{F:Int->List Int}(r:Ae H sp F)(k:Int)(hz:H z=sN):∃(a:uN)(o:Option V),o.getD (.ref z)=V.ref a/\oe (upd H z (.lst [])) sp (.int k) o/\upd H z (.lst []) a=qN (.lst ((F k).map V.int)):=by
 have sz:=aa.upd (o:=HO.lst []) hz;revert r;refine eb1 ?_;rintro kvs J _ _ O;have g:=(KF.of sz).rd J;rcases(O k).2 with⟨e,U⟩|⟨l,e,Y⟩
 ·exact nx0 z sN rfl (.inl (nx0 kvs (.inl k) g rfl e.symm)) (by rw[U];exact ia)
 ·exact nx0 l (qN (.ref l)) rfl (.inl (nx0 kvs (.inl k) g rfl e.symm)) (sz _ _ Y)
def NL{K:W.Frag}{O:List Int}{g:Int}{U:Hp}{a:uN}{Q:VK}(b0:U a=qN (.lst (O.map V.int)))(hz:O.length<=vN)(fin:∀D r,U D=sN->aa U r->r D=qN (.lst ((O.map λs=>decide (s≠g)).map V.bl))->Q (.ref D) r):Nf [sN,qN (.int g)] (bf K a) (Wl 0) Oy (Qk Wx (Fj 0) (Fj 1)) Q U:=by
 refine Wr (k:=1) (fs:=[qN (.int g)]) O PyData.int (λs=>qN (.bl (decide (s≠g)))) rfl b0 (Qa.ofInts _) hz (λJ g0 r h0 v R Y c0 tr d0=>?_) (λD r e0 Y a0=>?_)
 ·obtain⟨t,rfl⟩:=Zc.mp c0;cases tr;refine⟨_,rfl,_,rfl,rfl,?_⟩;have:=d0 [qN (.int J)] _ rfl (aa.refl _);have f0:(!decide (V.int J=V.int g))=decide (J≠g):=by
   by_cases z:J=g
   ·rw[z];simp
   ·have:V.int J≠V.int g:=λy=>z (by injection y)
    rw[he this,Xb z];rfl
  show R (qN (V.bl (!decide (V.int J=V.int g)))) _ _;rw[f0];exact this
 ·rw[cC]at a0;exact fin D r e0 Y a0
def OL{a:Int}{l:List Int}(h:∀x∈l,x=a):(dd l).length<=1:=by
 have key:∀l:List Int,(∀x∈l,x=a)->∀acc,acc=[]\/acc=[a]->l.foldl WN acc=[]\/l.foldl WN acc=[a]:=by
  intro l;induction l with
  |nil=>exactλ_ acc h=>h
  |cons x U r=>
   intro g acc J;refine r (λy O=>g y (.tail _ O)) _ (.inr ?_);rw[g x (.head _)];rcases J with rfl|rfl<;>simp[WN]
 rcases key l h [] (.inl rfl)with e|e<;>(unfold dd;rw[e];simp)
def PL{l:List Int}(h:1<(dd l).length):∃s s',s∈l/\s'∈l/\s≠s':=by
 refine Og λz=>?_
 cases l with
 |nil=>simp[dd]at h
 |cons a g=>
  have:=OL (a:=a) (l:=a::g) λx r=>Og λy=>z (nx0 x a r (.head _) y)
  lia
def vl(n:Int)(F:Int->List Int)(k:Int):Option (List Key):=if 1<(dd (F k)).length then qN (yo n k)else sN
def wl(n:Int)(F:Int->List Int)(k:Int):Option (List Key):=if(-1:Int)∈F k then qN (ik n k)else sN
def ng:Key->Int
 |.inl i=>i
 |.inr _=>0
def fC{g:List Dl}{mk:List pb}{kvs:List (Key×V)}{f:Int->Option (List Key)}(h:∀k j,f k=qN j->ud g mk j):∀j∈kvs.filterMap (λq=>f (ng q.1)),ud g mk j:=λj r=>by
 obtain⟨q,_,e⟩:=cn.mp r;exact h _ _ e
def QL{g:List Dl}{mk:List pb}{n:Int}{F:Int->List Int}(r:kk g n F)(k:Int)(j:List Key)(e:vl n F k=qN j):ud g mk j:=by
 unfold vl at e;split at e
 ·next z=>
  cases e;obtain⟨s,s',J,O,U⟩:=PL z;exact .mid (r k s J) (r k s' O) U
 ·cases e
def RL{g:List Dl}{mk:List pb}{n:Int}{F:Int->List Int}(r:kk g n F)(k:Int)(j:List Key)(e:wl n F k=qN j):ud g mk j:=by
 unfold wl at e;split at e
 ·next z=>cases e;exact .mj (r k _ z)
 ·cases e
--@La
def TL(T:Tx K mg):T.sw.Ok P w base 1 FL:=by
 refine Ua T.sw.F λH _ _ _ w0 h=>?_
 ·obtain⟨v,d,rfl,x0,hz,q⟩:=h;have V0:=kc w0;refine⟨_,(pa (Ma 1 Wu)
   (pa (Jb Db rfl (Za (Ja zb (pv 0) la)) (bb 2)
   (ma (Jb Db rfl (Za (pv 2)) (Jf rfl (Ub (bb 3) (Ub (bb 4) ve)))
   (ma (Nd (Xc jd ph vh Bh (nF (pv 1) (pv 3) (jc Oc) ⟨rfl,rfl,rfl,rfl⟩) (za 4)))))))
   (ma (Ga (pv 1))))),?_⟩
  show let y0:TS:=_;let z0:TS:=qa (Qb _ _ (Qb _ _ _)) y0;qa _ z0 _ _ _
  intros;refine ea5 ?_ (hf x0);rintro a l xs rfl A0 Y n0;intro p g0;have i0:=aa.upd (o:=HO.dK []) g0;refine⟨_,rfl,a,_,_,_,rfl,rfl,oa.of (i0 _ _ A0),qb (j:=2) rfl,l,rfl,⟨_,ca.of (i0 _ _ Y)⟩,nc (K:=K) (a:=l) (xs:=xs) (λi r a0=>aa H a0/\∃(kvs:List (Key×V))(j0 J O:Option V),r=[qN (.ref a),qN (.ref p),j0,J,O]/\oj H a0 p ((d.2.2.take i).flatten) kvs) (⟨i0,nx10 ([]) sN sN sN ⟨rfl,ia,wa _,(λl Y=>by cases Y),(λl Y=>by cases Y)⟩⟩) (by rintro i r a0 _⟨b0,_⟩;exact ca.of (b0 _ _ Y)) ?_ ?_⟩
  ·rintro i y r a0 k0;refine ea7 ?_;rintro b0 kvs j0;refine eaA ?_;rintro J O rfl h0;refine ea1 ?_ (Fi n0 k0);rintro lk B0 C0;refine ea0 ?_ (Sf C0);rintro b o0 rfl c0 p0;have q0:(d.2.2.take (i+1)).flatten=(d.2.2.take i).flatten++lk:=by
    rw[gc,B0,dr];show _++[lk].flatten=_;simp
   have D0:((d.2.2.take i).flatten++lk).length<=1000:=by
    rw[<-q0];refine gb ?_ hz;unfold gf;conv=>rhs;rw[<-Ng (i+1) d.2.2,dr,Ya]
    exact Nat.le_add_right _ _
   have F0:o0.length=lk.length:=by rw[p0.len,ua]
   refine⟨_,rfl,b,rfl,⟨_,ca.of (b0 _ _ c0)⟩,nc (K:=K) (a:=b) (xs:=o0) (λj r d0=>aa H d0/\∃(kvs:List (Key×V))(J O:Option V),r=[qN (.ref a),qN (.ref p),qN (.ref b),J,O]/\oj H d0 p ((d.2.2.take i).flatten++lk.take j) kvs) (⟨b0,nx7 kvs J O rfl (by rw[List.take_zero,z1h];exact h0)⟩) (by rintro j r d0 _⟨U,_⟩;exact ca.of (U _ _ c0)) ?_ ?_⟩
   ·rintro j y r d0 k0;refine ebD ?_;rintro U kvs J O rfl g;refine ea1 ?_ (Fi p0 k0);rintro⟨k,G0⟩I0 tp;refine ea1 ?_ (Nt tp);rintro c rfl J0;have r0:(d.2.2.take i).flatten++lk.take (j+1)=((d.2.2.take i).flatten++lk.take j)++[(k,G0)]:=by
     rw[gc,I0,me];rfl
    have W0:((d.2.2.take i).flatten++lk.take j).length<=1000:=by
     rw[Ya]at D0⊢;have:=List.length_take_le' j lk;lia
    generalize(d.2.2.take i).flatten++lk.take j=X0 at*;have Y0:=g.len;have Z0:(2000:Nat)<=vN:=by decide
    refine nx9 c _ rfl (oa.of (U _ _ J0)) rfl _ _ rfl _ _ rfl rfl ?_;refine⟨_,rfl,p,rfl,.inl ⟨_,.inl g.dict⟩,_,rfl,(by show 0<=vN;exact Va _),λz e0=>?_⟩;have sz:=aa.upd (o:=HO.lst []) e0;have s0:p≠z:=λq=>by rw[<-q,g.dict]at e0;cases e0
    refine nx15 _ (.inl k) (sz _ _ g.dict) rfl (by lia) (λu K0=>?_) λL0=>?_
    ·have t0:=au K0;refine ea2 ?_ (g.at_ _ t0);rintro n M0 N0 eq O0 l0 a1 _;cases eq;have P0:(N0.map V.int).length<vN:=by rw[ua];lia
     refine⟨.inl ⟨rfl,_,ca.of (sz _ _ l0)⟩,_,rfl,M0,_,_,rfl,rfl,sz _ _ l0,P0,λQ0 m0 f0=>?_⟩;refine⟨Km O0 (U.trans sz) f0,nx7 kvs _ _ rfl ?_⟩;rw[r0];exact g.more t0 l0 m0 λb o c0 e=>f0 b o c0 (sz _ _ e)
    ·have u0:H z=sN:=U.free e0;have v0:upd (upd d0 z (.lst [])) p (.dK (Gb kvs (.inl k) (.ref z))) z=qN (.lst []):=by rw[ja (lc s0),ia]
     refine⟨.inl ⟨rfl,_,ca.of v0⟩,_,rfl,z,_,_,rfl,rfl,v0,rp,λQ0 m0 f0=>?_⟩;refine⟨λb o e=>f0 b o (λy=>by rw[y,u0]at e;cases e) ?_,nx7 (kvs++[(.inl k,.ref z)]) _ _ rfl ?_⟩
     ·rw[ja (λy=>by rw[y,g0]at e;cases e)];exact sz _ _ (U _ _ e)
     ·rw[r0];refine g.put u0 e0 ?_ m0 λb o c0 e=>f0 b o (λy=>by rw[y,e0]at e;cases e) (by rw[ja c0];exact sz _ _ e)
      rw[<-Su _ L0];exact f0 p _ s0 ia
   ·rintro r d0;refine ebD ?_;rintro U R0 J O rfl g;rw[F0,vc,<-q0]at g;exact⟨U,nx10 R0 _ J O ⟨rfl,g⟩⟩
  ·rintro r a0;refine ea7 ?_;rintro b0 kvs j0;refine eaA ?_;rintro J O rfl h0;have S0:xs.length=d.2.2.length:=by rw[n0.len,ua]
   rw[S0,vc]at h0;refine ea1 ?_ (h0.src g0 hz);rintro F T0 U0;exact⟨_,rfl,q p a0 F b0 g0 T0 U0⟩
def UL(T:Tx K mg):T.tw.Ok P w base 1 (GL K):=by
 refine Ua T.tw.F λ_ _ _ _ O h=>?_
 ·obtain⟨p,ms,n,U,rfl,r,a0,Y,J,q⟩:=h;have d0:=kc O;refine⟨_,(pa (Ma 2 (Xc jd Fo Iq (gs (qi O.units) rfl) (pv 1) (za 0)))
   (ma (Ga (qr (xb Od (pv 2) la (Bb _)) (Xi (v:=V.int (0)) rfl T.Ow ⟨_,rfl⟩) (Ja ci (pv 1) (eb Gu (pv 2) la)))))),?_⟩
  show let b0:TS:=_;qa _ b0 _ _ _
  intros;refine⟨_,rfl,.inl ⟨rfl,_,r⟩,_,rfl,p,ms,n,rfl,rfl,r,a0,J,?_⟩;rw[ox J]at Y;have g:=Ed Y;have e0:ms.idxOf n<ms.length:=rh J;refine⟨_,rfl,rfl,_,rfl,jb (λe=>?_) (λe=>?_)⟩
  ·have z:ms.idxOf n=0:=by
    have:=yd e;injection this with f0;simp_all
   rw[va z]at g;rw[<-g]at q;exact q
  ·have z:ms.idxOf n≠0:=λz=>e (Xb (by rw[z];rfl))
   rw[na z]at g;have ex:((ms.idxOf n:Nat):Int)-1=((ms.idxOf n-1:Nat):Int):=by lia
   have c0:ms[ms.idxOf n-1]?=qN U:=by
    rw[Wb (by lia),<-g,Hk,Wb (by lia)];rfl
   exact⟨_,rfl,_,rfl,_,_,rfl,rfl,p,_,((ms.idxOf n-1:Nat):Int),V.int U,rfl,Vb V.int ex,r,qb (by rw[lb,c0];rfl),q⟩
def VL(T:Tx K mg):T.xw.Ok P w base 1 (IL K):=by
 refine Ua T.xw.F λH _ _ _ J h=>?_
 ·obtain⟨g,o,m,ms,rfl,r,O,hz,q⟩:=h;have b0:=kc J;refine⟨_,(ma (Ga (yu (zh Od (pv 0) (Xi (v:=V.int (0)) rfl T.Ow ⟨_,rfl⟩) (Bb _)) (xu (zh cj (pv 0) (bi di (pv 2) Zh (ai (Xc jd Fo Iq (gs (qi J.units) rfl) (pv 2) (za 1)))) rfl))))),?_⟩;refine⟨_,rfl,rfl,_,rfl,jb (λe=>?_) (λe=>?_)⟩
  ·have es:g=0:=by have:=yd e;injection this
   have:=q H (aa.refl H);rw[show nk g o ms=wN from Bool.or_eq_true_iff.mpr (.inl (Xb es))]at this;exact this
  ·have es:g≠0:=λz=>e (Xb (by rw[z]))
   refine⟨_,rfl,_,rfl,_,rfl,.inl ⟨rfl,_,ca.of r⟩,_,rfl,m,ms,o,rfl,rfl,ca.of r,hz,O,_,rfl,m,_,rfl,ca.of r,λp U=>?_⟩;have Y:ag (ms.map V.int) sN (qN ((ms.idxOf o:Nat):Int))=(ms.take (ms.idxOf o)).map V.int:=by
    rw[Dr,List.map_take]
   rw[Y];refine⟨p,_,rfl,.inl (ca.of ia),rfl,im _,?_⟩;have:=q _ (aa.upd (o:=HO.lst ((ms.take (ms.idxOf o)).map V.int)) U);have a0:nk g o ms=(ms.take (ms.idxOf o)).contains g:=by
    unfold nk;rw[he es,Bool.false_or];simp
   rw[a0,<-Yk]at this;exact this
def WL(T:Tx K mg):T.uw.Ok P w base 2 HL:=by
 refine Ua T.uw.F λ{_ _ _ s}H _ _ _ k0 h=>?_
 ·obtain⟨n,sp,m,w0,mk,F,rfl,d0,x0,y0,q⟩:=h;have z0:=kc k0;refine⟨_,(pa (Ma 3 (jc Oc))
   (pa (Jb Db rfl (Za (pv 2)) (Jf rfl (Ub (bb 4) (Ub (bb 5) ve)))
   (ma (qc (xb cj (pv 0) (pv 5) rfl)
   (pa (Ma 6 (fb T.tw (UL T) k0 (ka (pv 0) (za 5))))
   (ma (qc (Kk (Cd (Vy (K:=K) rfl rfl) (by rfl) T.QA boot_any (Ca (Ud ["source"] ["right"] [6] (Za (Cr z0 (pv 1) (pv 4) (jc Oc) ⟨rfl,rfl,rfl,rfl⟩)) (bc 0) Ie (zh Sk (pv 0) (pv 1) (Bb _))))))
   (ma (Nd (Xc jd ph vh Bh (pv 3) (Ca (Rb (ka Ib (ka (pv 0) (ka (pv 6) (za 4)))))))))
   pc)))
   pc)))
   (ma (Ga (pv 3))))),?_⟩
  show let A0:TS:=_;let B0:TS:=zc _ _ _;let C0:TS:=qa _ B0;let D0:TS:=qa (Qb _ _ (zc _ C0 _)) A0;qa _ D0 _ _ _
  intros;revert y0;refine ea3 ?_;rintro F0 V0 G0;refine ea0 ?_ (Sf F0);rintro W0 xs e l0 m0;cases e;have X0:xs.length=mk.length:=by rw[m0.len,ua]
  have Y0:(2000:Nat)<=vN:=by decide
  refine⟨(by show 0<=vN;exact Va _),λp e0=>?_⟩;have n0:=aa.upd (o:=HO.lst []) e0;refine⟨_,rfl,m,rfl,⟨_,ca.of (n0 _ _ l0)⟩,nc (K:=K) (a:=m) (xs:=xs) (λi b0 J=>aa H J/\∃(ys:List V)(js:List (List Key))(f0 g0 h0:Option V),b0=[qN (.int n),qN (.ref sp),qN (.ref m),qN (.ref p),f0,g0,h0]/\J p=qN (.lst ys)/\ys.length<=i/\Paired (ic J) ys js/\∀j∈js,ud w0 mk j) (⟨n0,nx13 ([]) ([]) sN sN sN rfl ia (wa _) (.nil) λ_ h=>by cases h⟩) (by rintro i b0 J _⟨g,_⟩;exact ca.of (g _ _ l0)) ?_ ?_⟩
  ·rintro i y b0 J o0;refine eaH ?_;rintro g ys js f0 g0 h0 rfl r I0 O Y;have Z0:i<xs.length:=(rb.mp o0).1;refine ea1 ?_ (Fi m0 o0);rintro⟨k,ms⟩J0 K0;have p0:=Xa J0;refine ea0 ?_ (Jm K0);rintro c l rfl L0 q0;have M0:=G0 _ p0;refine nx9 c _ rfl (oa.of (g _ _ L0)) rfl _ _ rfl _ _ rfl rfl ?_;refine⟨_,rfl,_,rfl,l,_,rfl,.inl (ca.of (g _ _ q0)),rfl,im _,_,rfl,?_⟩;rw[Yk];refine jb (λe=>?_) (λe=>?_)
   ·have r0:n∈ms:=by simpa using e
    obtain⟨a0,s0⟩:∃a0,Df n 0 ms=qN a0:=⟨_,ox r0⟩;refine⟨_,rfl,_,rfl,l,ms,n,a0,rfl,ca.of (g _ _ q0),M0,s0,r0,?_⟩;refine⟨_,rfl,sp,rfl,(d0.kf (KF.of g)).aC,_,rfl,(by show 0<=vN;exact Va _),λz t0=>?_⟩;have sz:=aa.upd (o:=HO.lst []) t0;refine ea0 ?_ (eC (d0.kf (KF.of g)) k t0);rintro a o N0 O0 u0;have a1:(F k).length<=1000:=by revert d0;refine eb1 ?_;rintro _ _ _ _ h;exact(h k).1
    refine⟨o,O0,?_⟩;rw[N0];refine⟨a,rfl,⟨_,ca.of u0⟩,NL u0 (by lia) λD b1 c1 P0 Q0=>⟨D,nx5 _ rfl (ca.of Q0) _ ⟨rfl,?_⟩⟩⟩;rw[dC];have U:=sz.trans P0;refine jb (λv0=>?_) (λv0=>?_)
    ·refine ea1 ?_ (Qi.mp v0);rintro s R0 S0;refine⟨_,rfl,.inl ⟨rfl,_,ca.of (U _ _ r)⟩,_,rfl,_,rfl,_,rfl,Ad,λt i0=>?_⟩;have st:=aa.upd (o:=HO.tup [.str "lost",.int n,.int a0,.int k]) i0;have c0:=U.trans st;refine⟨p,ys,_,rfl,rfl,c0 _ _ r,(by lia),λd1 T0 j0=>?_⟩;refine⟨Km e0 (g.trans c0) j0,nx13 _ (js++[Wt n a0 k]) _ _ _ rfl T0 (by rw[Ya,uj];simp_all) (wx (xx (c0 _ _ r) j0 (Bc.kf (KF.of c0) O)) ⟨t,rfl,j0 t _ (λy=>?_) ia⟩) λj U0=>?_⟩
     ·rw[y,U _ _ r]at i0;cases i0
     ·rcases fc.mp U0 with y|y
      ·exact Y j y
      ·rw[cc.mp y];exact .re p0 s0 (x0 k s R0) (yd S0)
    ·exact⟨g.trans U,nx13 ys js _ _ _ rfl (U _ _ r) (by lia) (Bc.kf (KF.of U) O) Y⟩
   ·exact⟨g,nx13 ys js _ _ _ rfl r (by lia) O Y⟩
  ·rintro b0 J;refine eaH ?_;rintro g ys js f0 g0 h0 rfl r I0 O Y;exact⟨_,rfl,q p ys js J e0 g r O Y (by rw[<-Ta O];lia)⟩
def gC{kvs:List (Key×V)}{k:Key}(h:Ka kvs k=sN):∀q∈kvs,q.1≠k:=λq g e=>by
 unfold Ka at h;rw[Rq,Yo]at h;exact h q g (Xb e)
def YL(T:Tx K mg):T.vw.Ok P w base 1 bC:=by
 refine Ua T.vw.F λH _ _ _ h0 h=>?_
 ·obtain⟨n,sp,B0,mk,F,rfl,i0,j0,q⟩:=h;have k0:=kc h0;refine⟨_,(ma (Ga (Ud ["key"] ["number","sources"] [0,1] (Ds (pv 1)) (bc 0) (Mf (xb sr (BG (K:=K) rfl rfl rfl T.Cf rfl T.SA (Ca (Mc k0 (pv 2) (pv 0)))) la (Bb _))) (Rb (ka Ib (ka (pv 1) (za 0))))))),?_⟩;revert i0;refine eb1 ?_;rintro kvs d0 l0 m0 n0;refine⟨_,rfl,sp,_,rfl,d0,λob C0 e0 kf D0=>?_⟩;have F0:(2000:Nat)<=vN:=by decide
  refine qs (k:=1) (fs:=[qN (.int n),qN (.ref sp)]) ic (λi _ v=>∃k x,kvs[i]?=qN (.inl k,x)/\v=.int k) kvs.length (λi=>kvs[i]?.bind λq=>vl n F (ng q.1)) (by rintro H H' y b o0⟨p,e,U⟩;exact⟨p,e,o0 _ _ (λ_ z=>by cases z) U⟩) rfl (by lia) (λi H g a0=>⟨g _ _ e0,a0⟩) (λH g=>⟨g _ _ e0,rfl⟩) ?_ (λi a0 O G0 v R g p0 b0 q0 r0=>?_) λD O ys s0 g t0 U=>?_
  ·rintro i O v r g a0;refine eb3 ?_;rintro rfl k x Y rfl;obtain⟨u0,rfl⟩:=m0 _ (Xa Y);exact⟨rfl,nx4 u0 x Y rfl⟩
  rotate_left
  ·rw[Ln]at U;refine q D ys _ O ?_ (kf.trans (KF.of g)) t0 U (fC (QL j0)) (gb (Uq _ _) l0);cases e:H D with
   |none=>rfl
   |some o=>
    rcases kf D o e with y|⟨_,_,_,y⟩<;>(rw[s0]at y;cases y)
  obtain⟨t,rfl⟩:=Zc.mp p0;revert b0;refine eaA ?_;rintro k x f0 rfl;obtain⟨I0,v0⟩:=n0 k;obtain⟨l,b0,w0⟩:∃l,Ka kvs (.inl k)=qN (.ref l)/\O l=qN (.lst ((F k).map V.int)):=by
   rcases v0 with⟨y,_⟩|⟨l,a,b⟩
   ·have:=gC y _ (Xa f0);exact absurd rfl this
   ·exact⟨l,a,(kf.trans (KF.of g)).lst b⟩
  have x0:=(kf.trans (KF.of g)).rd d0;have g0:(kvs[i]?.bind λq=>vl n F (ng q.1))=vl n F k:=by rw[f0];rfl
  have y0:∀b y (J:L2.St)r,vl n F k=qN b->J.length=1->aa O r->ic r y b->R (qN y) (J++[qN (.int n),qN (.ref sp)]) r:=λb y J r c0=>q0 b y J r (g0.trans c0)
  have z0:vl n F k=sN->∀(J:L2.St)r,J.length=1->aa O r->R sN (J++[qN (.int n),qN (.ref sp)]) r:=λc0=>r0 (g0.trans c0)
  ·refine⟨_,rfl,_,rfl,_,_,rfl,.inl (nx0 _ (.inl k) x0 rfl b0.symm),l,_,rfl,ca.of w0,(by lia),_,_,rfl,rfl,_,rfl,jb (λe=>?_) (λe=>?_)⟩
   ·have Y:vl n F k=qN (yo n k):=va (by have:=yd e;lia);exact⟨_,rfl,_,rfl,Ec,λt A0=>y0 _ _ [_] _ Y rfl (aa.upd A0) ⟨t,rfl,ia⟩⟩
   ·exact z0 (na (λz=>e (Xb (by grind)))) [_] _ rfl (aa.refl _)
def ZL(T:Tx K mg):T.ww.Ok P w base 1 bC:=by
 refine Ua T.ww.F λH _ _ _ h0 h=>?_
 ·obtain⟨n,sp,B0,mk,F,rfl,i0,j0,q⟩:=h;have k0:=kc h0;refine⟨_,(ma (Ga (Ud ["key"] ["number","sources"] [0,1] (Ds (pv 1)) (bc 0) (Mf (xb (Zy (K:=K) rfl) (Xi (v:=V.int (-1)) rfl T.Pw ⟨_,rfl⟩) (Mc k0 (pv 2) (pv 0)) rfl)) (Rb (ka Ib (ka (pv 1) (za 0))))))),?_⟩;revert i0;refine eb1 ?_;rintro kvs d0 l0 m0 n0;refine⟨_,rfl,sp,_,rfl,d0,λob C0 e0 kf D0=>?_⟩;have F0:(2000:Nat)<=vN:=by decide
  refine qs (k:=1) (fs:=[qN (.int n),qN (.ref sp)]) ic (λi _ v=>∃k x,kvs[i]?=qN (.inl k,x)/\v=.int k) kvs.length (λi=>kvs[i]?.bind λq=>wl n F (ng q.1)) (by rintro H H' y b o0⟨p,e,U⟩;exact⟨p,e,o0 _ _ (λ_ z=>by cases z) U⟩) rfl (by lia) (λi H g a0=>⟨g _ _ e0,a0⟩) (λH g=>⟨g _ _ e0,rfl⟩) ?_ (λi a0 O G0 v R g p0 b0 q0 r0=>?_) λD O ys s0 g t0 U=>?_
  ·rintro i O v r g a0;refine eb3 ?_;rintro rfl k x Y rfl;obtain⟨u0,rfl⟩:=m0 _ (Xa Y);exact⟨rfl,nx4 u0 x Y rfl⟩
  rotate_left
  ·rw[Ln]at U;refine q D ys _ O ?_ (kf.trans (KF.of g)) t0 U (fC (RL j0)) (gb (Uq _ _) l0);cases e:H D with
   |none=>rfl
   |some o=>
    rcases kf D o e with y|⟨_,_,_,y⟩<;>(rw[s0]at y;cases y)
  obtain⟨t,rfl⟩:=Zc.mp p0;revert b0;refine eaA ?_;rintro k x f0 rfl;obtain⟨I0,v0⟩:=n0 k;obtain⟨l,b0,w0⟩:∃l,Ka kvs (.inl k)=qN (.ref l)/\O l=qN (.lst ((F k).map V.int)):=by
   rcases v0 with⟨y,_⟩|⟨l,a,b⟩
   ·have:=gC y _ (Xa f0);exact absurd rfl this
   ·exact⟨l,a,(kf.trans (KF.of g)).lst b⟩
  have x0:=(kf.trans (KF.of g)).rd d0;have g0:(kvs[i]?.bind λq=>wl n F (ng q.1))=wl n F k:=by rw[f0];rfl
  have y0:∀b y (J:L2.St)r,wl n F k=qN b->J.length=1->aa O r->ic r y b->R (qN y) (J++[qN (.int n),qN (.ref sp)]) r:=λb y J r c0=>q0 b y J r (g0.trans c0)
  have z0:wl n F k=sN->∀(J:L2.St)r,J.length=1->aa O r->R sN (J++[qN (.int n),qN (.ref sp)]) r:=λc0=>r0 (g0.trans c0)
  ·refine⟨_,rfl,_,rfl,_,_,rfl,.inl (nx0 _ (.inl k) x0 rfl b0.symm),l,_,rfl,.inl (ca.of w0),rfl,im _,_,rfl,?_⟩;rw[Yk];refine jb (λe=>?_) (λe=>?_)
   ·have Y:wl n F k=qN (ik n k):=va (by simpa using e);exact⟨_,rfl,_,rfl,Ec,λt A0=>y0 _ _ [_] _ Y rfl (aa.upd A0) ⟨t,rfl,ia⟩⟩
   ·exact z0 (na (λz=>e (by simpa using z))) [_] _ rfl (aa.refl _)
--@La
def yx(F:Int->List Int)(o:Int)(mk:List pb):List Int:=(mk.filter λm=>decide (o∈m.2)).filterMap λm=>if(F m.1).any (λs=>nk s o m.2)=wN then qN m.1 else sN
def aM{F:Int->List Int}{o:Int}{mk:List pb}:∀k∈yx F o mk,sx mk F o k:=λk r=>by
 obtain⟨m,g,e⟩:=cn.mp r;obtain⟨g,J⟩:=Ze.mp g;split at e
 ·next z=>
  cases e;obtain⟨s,O,a⟩:=Qi.mp z;refine⟨m.2,s,g,yd J,O,?_⟩;unfold nk at a;simpa using a
 ·cases e
def hC(T:Tx K mg):T.zt.Ok P w base 2 JL:=by
 refine Ua T.zt.F λ{_ _ _ s}_ _ _ _ e0 h=>?_
 ·obtain⟨sp,m,o,F,mk,rfl,f0,v0,q⟩:=h;have w0:=kc e0;refine⟨_,(pa (jj 3 ["key","makers"] (by show(Oe _).Nodup;decide+kernel) ["other"] [1] (Za (pv 2)) (Op (K:=K) (n:=2) rfl rfl (Ub (bc 0) (Ub (bc 1) ve))) (Mf (xb (Zy (K:=K) rfl) (pv 2) (pv 1) rfl)) (Rb (ka (pv 0) (za 1))))
   (ma (Ga (OH ["key","makers"] rfl (ij.mk (fv:=["sources","other"]) (js:=[0,1]) rfl (by decide+kernel) (by decide+kernel) (by decide+kernel) (iv (Or.inl rfl) (iv (Or.inl rfl) Ry)) rfl (by decide+kernel)) (Za (pv 3)) (λ_ _ _ _ _=>(Op (K:=K) (n:=2) rfl rfl (Ub (bc 0) (Ub (bc 1) ve)))) (λ_ _ _ _ _=>(Mf (Kk (Cd (Vy (K:=K) rfl rfl) (by rfl) T.QA boot_any (Ca (Ud ["each"] ["makers","other"] [1,3] (jF (K:=K) rfl (Cr w0 (pv 2) (pv 0) (jc Oc) ⟨rfl,rfl,rfl,rfl⟩)) (bc 0) Ie (fb T.xw (VL T) e0 (ka (pv 0) (ka (pv 2) (za 1)))))))))) (λ_ _ _ _ _=>(pv 0)))))),?_⟩
  show let x0:TS:=_;qa _ x0 _ _ _
  intros;obtain⟨g0,h0,i0⟩:=v0;obtain⟨Y0,xs,e,Y,j0⟩:=Sf g0;cases e;have Z0:(2000:Nat)<=vN:=by decide
  have y0:∀k,(F k).length<=1000:=λk=>by obtain⟨_,_,_,_,h⟩:=f0;exact(h k).1
  refine⟨_,rfl,m,rfl,⟨_,ca.of Y⟩,Cz (k:=2) (fs:=[qN (.int o)]) mk qe (λg=>if o∈g.2 then qN (qe g)else sN) rfl Y j0 (by lia) (λg k0 z0 l0 v R r O tr A0 B0 C0=>?_) λD z0 ys a1 r m0 J=>?_⟩
  ·obtain⟨D0,F0,rfl⟩:=vx O;obtain⟨c,l,rfl,a0,U⟩:=Jm A0;refine⟨c,_,rfl,oa.of (r _ _ a0),rfl,_,_,rfl,_,_,rfl,rfl,_,rfl,_,rfl,l,_,rfl,.inl (ca.of (r _ _ U)),rfl,im _,_,rfl,?_⟩;rw[Yk];refine jb (λe=>?_) (λe=>?_)
   ·have b0:o∈g.2:=by simpa using e
    exact⟨_,rfl,_,rfl,Ha,λt J=>B0 _ _ [_,_] _ (va b0) rfl (aa.upd J) (.tup (Bz J ia) (.cons (.int _) (.cons (.lst (Vr (r.trans (aa.upd J)) _ _ U) (Qa.ofInts _)) .nil)))⟩
   ·exact C0 (na (λz=>e (by simpa using z))) [_,_] _ rfl (aa.refl _)
  have G0:mk.filterMap (λg=>if o∈g.2 then qN (qe g)else sN)=(mk.filter λg=>decide (o∈g.2)).map qe:=by
   clear j0 g0 h0 i0 Y J q;induction mk with
   |nil=>rfl
   |cons g t n0=>
    rw[wh,To];by_cases z:o∈g.2
    ·rw[va z,va (Xb z),Sc,n0]
    ·rw[na z,na (by rw[vk];exact z),n0]
  rw[G0]at J;have I0:=J.same Ur;have b1:(mk.filter λg=>decide (o∈g.2)).length<=1000:=gb (Hi _ _) h0;refine⟨_,rfl,D,rfl,⟨_,ca.of m0⟩,Wr (k:=2) (fs:=[qN (.ref sp),qN (.int o)]) (mk.filter λg=>decide (o∈g.2)) qe (λg=>if(F g.1).any (λs=>nk s o g.2)=wN then qN (.int g.1)else sN) rfl m0 I0 (by lia) (λg k0 o0 l0 v R c0 O tr J0=>?_) (λK0 o0 L0 c0 p0=>?_)⟩
  ·obtain⟨D0,F0,rfl⟩:=vx O;obtain⟨c,l,rfl,a0,U⟩:=Jm tr;obtain⟨M0,N0⟩:=Ze.mp k0;have b0:o∈g.2:=yd N0;have O0:=i0 g M0;have q0:=f0.kf (KF.of (r.trans c0));refine⟨c,_,rfl,oa.of a0,rfl,_,_,rfl,_,_,rfl,rfl,_,rfl,sp,rfl,q0.aC,_,rfl,(by show 0<=vN;exact Va _),λz r0=>?_⟩;have sz:=aa.upd (o:=HO.lst []) r0;obtain⟨a,P0,Q0,R0,s0⟩:=eC q0 g.1 r0;refine⟨P0,R0,?_⟩;rw[Q0];have c1:=y0 g.1;refine⟨a,rfl,⟨_,ca.of s0⟩,Wr (k:=1) (fs:=[qN (.ref l),qN (.int o)]) (F g.1) PyData.int (λs=>qN (.bl (nk s o g.2))) rfl s0 (Qa.ofInts _) (by lia) (λS0 d1 t0 l0 v e1 d0 O T0 U0=>?_) (λV0 t0 f1 d0 u0=>?_)⟩
   ·obtain⟨t,rfl⟩:=Zc.mp O;cases T0;exact⟨_,rfl,_,rfl,_,rfl,S0,o,l,g.2,rfl,(sz.trans d0) _ _ U,b0,O0,λW0 X0=>U0 [_] W0 rfl X0⟩
   ·rw[cC]at u0;refine⟨V0,_,rfl,ca.of u0,_,rfl,?_⟩;rw[dC];have:=J0 [qN (.int g.1),qN (.ref l)] t0 rfl (sz.trans d0);refine jb (λe=>?_) (λe=>?_)
    ·rw[va e]at this;exact⟨_,rfl,this⟩
    ·rw[na e]at this;exact this
  ·have e:(mk.filter λg=>decide (o∈g.2)).filterMap (λg=>if(F g.1).any (λs=>nk s o g.2)=wN then qN (V.int g.1)else sN)=(yx F o mk).map V.int:=by
    unfold yx;rw[List.map_filterMap];congr 1;funext g;split<;>rfl
   rw[e]at p0;exact q K0 o0 _ (r.free L0) (r.trans c0) p0 aM
def iC{g:List Dl}{mk:List pb}{F:Int->List Int}{n o k:Int}(f:kk g n F)(h:sx mk F o k):Aq g mk n k o:=by
 obtain⟨ms,s,r,J,O,U⟩:=h;exact⟨ms,s,r,J,f k s O,U⟩
def bM(T:Tx K mg):T.yw.Ok P w base 3 KL:=by
 refine Ua T.yw.F λ_ _ _ _ d0 h=>?_
 ·obtain⟨n,o,Y,m,l0,m0,kvs,F,G,K0,mk,rfl,n0,g0,o0,p0,q0,r0,s0,t0,e0,q⟩:=h;have h0:=kc d0;refine⟨_,(pa (Ma 4 (fb T.zt (hC T) d0 (ka (Mc h0 (pv 2) (pv 0)) (ka (pv 1) (za 3)))))
   (pa (Ma 5 (fb T.zt (hC T) d0 (ka (Mc h0 (pv 2) (pv 1)) (ka (pv 0) (za 3)))))
   (pa (Jb Db rfl (Za (pv 4)) (bb 6)
   (ma (Jb Db rfl (Za (pv 5)) (bb 7)
   (ma (qc (xb Sk (pv 6) (pv 7) (Bb _))
   (ma (Ga (jc (Ca (Rb (ka Ib (ka (pv 0) (ka (pv 1) (ka (pv 6) (za 7))))))))))
   pc)))))
   (ma (Ga (jc Oc)))))),?_⟩
  show let u0:TS:=_;let v0:TS:=qa (Qb _ _ (Qb _ _ (zc _ _ _))) u0;let w0:TS:=qa _ v0;qa _ w0 _ _ _
  intros;refine⟨_,rfl,_,rfl,Y,_,rfl,.inl (nx0 kvs (.inl n) g0 rfl o0.symm),_,rfl,_,rfl,l0,m,o,F,mk,rfl,q0,e0,λa x0 y0 L0 a0 z0 A0=>?_⟩;have B0:zo x0 m mk:=⟨e0.1.same a0,e0.2⟩;refine⟨_,rfl,_,rfl,Y,_,rfl,.inl (nx0 kvs (.inl o) ((KF.of a0).rd g0) rfl p0.symm),_,rfl,_,rfl,m0,m,n,G,mk,rfl,r0.kf (KF.of a0),B0,λb C0 ls M0 i0 j0 D0=>?_⟩;have b0:=a0.trans i0;have k0:=i0 _ _ z0;refine⟨_,rfl,a,rfl,⟨_,ca.of k0⟩,nc (K:=K) (a:=a) (xs:=y0.map V.int) (λi g J=>J=C0/\∃(f0 r:Option V),g=[qN (.int n),qN (.int o),qN (.ref Y),qN (.ref m),qN (.ref a),qN (.ref b),f0,r]) (⟨rfl,nx1 sN sN rfl⟩) (by rintro i g J _⟨e,_⟩;exact e▸ca.of k0) ?_ ?_⟩
  ·rintro i y g J O;refine ea7 ?_;rintro rfl f0 r rfl;rw[lb]at O;refine ea1 ?_ (Jd.mp O);rintro k F0 rfl;refine⟨_,rfl,b,rfl,⟨_,ca.of j0⟩,nc (K:=K) (a:=b) (xs:=ls.map V.int) (λj g c0=>c0=J/\∃(r:Option V),g=[qN (.int n),qN (.int o),qN (.ref Y),qN (.ref m),qN (.ref a),qN (.ref b),qN (.int k),r]) ⟨rfl,r,rfl⟩ (by rintro j g c0 _⟨e,_⟩;exact e▸ca.of j0) ?_ ?_⟩
   ·rintro j y g c0 O⟨rfl,r,rfl⟩;rw[lb]at O;refine ea1 ?_ (Jd.mp O);rintro l G0 rfl;refine⟨_,rfl,_,rfl,rfl,_,rfl,jb (λe=>?_) (λe=>?_)⟩
    ·refine⟨_,rfl,_,rfl,_,rfl,_,rfl,pf,λt I0=>⟨Xd,λp U=>?_⟩⟩;have st:=aa.upd (o:=HO.tup [.str "skewed",.int n,.int o,.int k,.int l]) I0;have sp:=aa.upd (o:=HO.lst [.ref t]) U;refine q p [.ref t] [Xt n o k l] _ ((b0.trans st).free U) ((b0.trans st).trans sp) ia (.cons ⟨t,rfl,sp _ _ ia⟩ .nil) (λj J0=>?_) (wa _);rw[cc.mp J0];exact .ge n0 (iC s0 (A0 k (Xa F0))) (iC t0 (D0 l (Xa G0)))
    ·exact⟨rfl,_,rfl⟩
   ·rintro g c0⟨rfl,r,rfl⟩;exact⟨rfl,nx1 _ _ rfl⟩
  ·rintro g J;refine ea7 ?_;rintro rfl f0 r rfl;refine⟨(by show 0<=vN;exact Va _),λp U=>?_⟩;exact q p [] [] _ (b0.free U) (b0.trans (aa.upd U)) ia .nil (λ_ h=>by cases h) (Va _)
--@La
def cM{α:Type}{l0 fs:L2.St}{k:Nat}{K:W.Frag}{l:uN}{xs:List V}{m0:TG}{n0:TT}{o0:TE}{Q:VK}{J:Hp}(G:Hp->V->α->Prop)(mono:∀{H H':Hp}{v:V}{a:α},aa H H'->G H v a->G H' v a)(g:List α)(p0:α->MN)(u0:l0=List.replicate k sN++fs)(f0:J l=qN (.lst xs))(q0:Qa J xs (g.map p0))(hz:g.length<=vN)
  (step:∀a,a∈g->∀H (O:L2.St)v (R:Option V->L2.St->Hp->Prop),aa J H->O.length=k->Tr H v (p0 a)->(∀y (d0:L2.St)r,d0.length=k->aa H r->G (off H r) y a->R (qN y) (d0++fs) r)->
   m0 v (O++fs) H λY v0=>n0 Y v0 λok r=>if ok=wN then o0 Y r λy w0=>R (qN y) Y w0 else R sN Y r)
  (fin:∀D H' ys,J D=sN->aa J H'->H' D=qN (.lst ys)->Paired (G (ye (off J H') D)) ys g->Q (.ref D) H'):Nf l0 (bf K l) m0 n0 o0 Q J:=by
 have C0:xs.length=g.length:=by rw[q0.len,ua]
 intro D g0;refine⟨λi m ys r0 H=>m=g.length-i/\i<=g.length/\ys.length=i/\Paired (G (ye (off J H) D)) ys (g.take i)/\(∃O:L2.St,O.length=k/\r0=O++fs)/\aa J H/\H D=qN (.lst ys),⟨g.length,rfl,Va _,rfl,.nil,⟨_,Go,u0⟩,aa.upd g0,ia⟩,?_⟩;rintro i m ys r0 H⟨rfl,D0,F0,h0,⟨O,x0,rfl⟩,U,e0⟩;refine⟨e0,?_⟩;by_cases i0:i<g.length
 ·refine .inr ⟨(Pd (ca.of (U _ _ f0))).go i (by simp_all),by lia,?_⟩;rintro v H' ⟨rfl,y0⟩;have e:=y0 xs (ca.of (U _ _ f0));refine ea1 ?_ (q0.get e);rintro d s0 tr;have t0:g[i]?=qN g[i]:=Wb i0;rw[lb,t0]at s0;cases s0;refine step g[i] (List.getElem_mem i0) H' O v (λo Y r=>match o with
   |some y=>r D=qN (.lst ys)/\∃a0,a0<g.length-i/\a0=g.length-(i+1)/\i+1<=g.length/\(ys++[y]).length=i+1/\Paired (G (ye (off J (upd r D (.lst (ys++[y])))) D)) (ys++[y]) (g.take (i+1))/\(∃O:L2.St,O.length=k/\Y=O++fs)/\aa J (upd r D (.lst (ys++[y])))/\upd r D (.lst (ys++[y])) D=qN (.lst (ys++[y]))
   |none=>∃a0,a0<g.length-i/\a0=g.length-(i+1)/\i+1<=g.length/\ys.length=i+1/\Paired (G (ye (off J r) D)) ys (g.take (i+1))/\(∃O:L2.St,O.length=k/\Y=O++fs)/\aa J r/\r D=qN (.lst ys)) U x0 (tr.same U) λy d0 r z0 j0 A0=>?_
  refine⟨j0 _ _ e0,g.length-(i+1),by grind,rfl,i0,(by rw[Ya,uj];simp_all),?_,⟨d0,z0,rfl⟩,(U.trans j0).again g0,ia⟩;rw[gc,t0];refine wx (Paired.imp' (λv a x=>mono (λb o e=>?_) x) h0) (mono (λb o e=>?_) A0)
  ·obtain⟨b0,B0⟩:=df e;obtain⟨c0,k0⟩:=om B0;exact ff b0 (ki c0 (by rw[ja b0];exact j0 _ _ k0))
  ·obtain⟨c0,k0⟩:=om e;have b0:b≠D:=λz=>by rw[z,e0]at c0;cases c0
   exact ff b0 (ki (U.free c0) (by rw[ja b0];exact k0))
 ·have e:i=g.length:=by lia
  subst e;rw[vc]at h0;exact .inl ⟨(Pd (ca.of (U _ _ f0))).stop _ (by lia),fin D H ys g0 U e0 h0⟩
def Ae.same{H H':Hp}(s:aa H H'){p:uN}{F:Int->List Int}(h:Ae H p F):Ae H' p F:=h.kf (KF.of s)
def jC(H:Hp)(q:Key×V)(d:Dl):Prop:=∃p F,q=(.inl d.1,.ref p)/\Ae H p F/\∀k,∀s∈F k,(k,s)∈gf d
inductive Ao(H:Hp)(v:V)(d:Dl):Prop|mk(a p F)(_:v=.ref a)(_:H a=qN (.tup [.int d.1,.ref p]))(_:Ae H p F)(_:∀k,∀s∈F k,(k,s)∈gf d)
def Ao.same{H H':Hp}(s:aa H H'){v:V}{d:Dl}(h:Ao H v d):Ao H' v d:=by
 obtain⟨a,p,F,e,g,r,J⟩:=h;exact⟨a,p,F,e,s _ _ g,r.same s,J⟩
def dM{H:Hp}{ys:List V}{g:List Dl}(h:Paired (Ao H) ys g):∃kvs,(∀K:W.Frag,fj K H ys kvs)/\Paired (jC H) kvs g:=by
 induction h with
 |nil=>exact⟨[],λK=>.nil,.nil⟩
 |@cons v d _ _ h t r=>
  obtain⟨kvs,J,O⟩:=r;obtain⟨a,p,F,rfl,U,Y,a0⟩:=h;exact⟨(.inl d.1,.ref p)::kvs,λK=>.cons (oa.of U) (J K),.cons (nx0 p F rfl Y a0) O⟩
def eM{H:Hp}{kvs:List (Key×V)}{g:List Dl}(h:Paired (jC H) kvs g):kvs.map (·.1)=g.map λd=>Sum.inl d.1:=by
 induction h with
 |nil=>rfl
 |cons h t r=>revert h;refine eaA ?_;rintro p F rfl _;rw[Sc,Sc,r]
def fM{g H:Hp}{b:uN}{o:HO}(k:KF g H)(n:g b=sN):KF g (upd H b o):=λc x e=>by
 have r:c≠b:=λz=>by rw[z,n]at e;cases e
 rw[ja r];exact k c x e
def zx{α g:Type}{F:α->g->Prop}{xs ys:List α}{bs r:List g}(h:Paired F xs bs)(J:Paired F ys r):Paired F (xs++ys) (bs++r):=by
 induction h with
 |nil=>exact J
 |cons O t U=>exact .cons O U
structure qk(U:Hp)(sd fp:uN)(ob:TN)(kvs:List (Key×V))(ds:List Dl)(mk:List pb)(H:Hp)(n:Nat)(ys:List V):Prop where
 kf:KF U H
 nf:U fp=sN
 sd:H sd=qN (.Hb ob (.dK kvs))
 fd:H fp=qN (.lst ys)
 tk:∃js,Paired (ic H) ys js/\∀j∈js,ud ds mk j
 ln:ys.length<=n
def qk.ext{b0 H g:Hp}{sd fp:uN}{ob:TN}{kvs:List (Key×V)}{U:List Dl}{mk:List pb}{n b:Nat}{ys r:List V}{J:List (List Key)}(h:qk b0 sd fp ob kvs U mk H n ys)(O:KF H g)(c0:Paired (ic g) r J)(d0:∀j∈J,ud U mk j)(e0:J.length<=b):g fp=qN (.lst ys)/\qk b0 sd fp ob kvs U mk (upd g fp (.lst (ys++r))) (n+b) (ys++r):=by
 have Y:=O.lst h.fd;have a0:=O.Hb h.sd;have f0:sd≠fp:=λz=>by rw[z,Y]at a0;cases a0
 have kp:∀b o,b≠fp->g b=qN o->upd g fp (.lst (ys++r)) b=qN o:=λb o g0 e=>by rw[ja g0];exact e
 refine ea1 ?_ h.tk;rintro js t i;refine⟨Y,fM (h.kf.trans O) h.nf,h.nf,kp _ _ f0 a0,ia,⟨js++J,xx Y kp (zx (Bc.kf O t) c0),λj h0=>(fc.mp h0).elim (i j) (d0 j)⟩,?_⟩;rw[Ya,Ta c0];exact Nat.add_le_add h.ln e0
def qk.go{r H J:Hp}{sd fp:uN}{ob:TN}{kvs:List (Key×V)}{O:List Dl}{mk:List pb}{n:Nat}{ys:List V}(h:qk r sd fp ob kvs O mk H n ys)(g:KF H J):qk r sd fp ob kvs O mk J n ys:=by
 obtain⟨js,t,i⟩:=h.tk;exact⟨h.kf.trans g,h.nf,g.Hb h.sd,g.lst h.fd,⟨js,Bc.kf g t,i⟩,h.ln⟩
def gM(T:Tx K mg):T.zw.Ok P w base 4 LL:=by
 refine Ua T.zw.F λ{_ _ _ s}H _ _ _ b0 h=>?_
 ·obtain⟨v,r,mk,rfl,F1,o0,q⟩:=h;have v0:=kc b0;refine⟨_,(pa (Ma 1 (aj (Jn (K:=K) rfl rfl) (by rfl) T.ak Bj (Ca (Ud ["deal"] [] [] (Za (Ja zb (pv 0) la)) (bc 0) Ie (Rb (ka (Ja (ie (K:=K) rfl) (pv 0) la) (Ca (fb T.sw (TL T) b0 (za 0)))))))))
   (pa (Ma 2 (jc Oc))
   (pa (Jb Db rfl (Ds (pv 1)) (bb 3)
   (pa (Nd (Xc jd Ii Ti As (pv 2) (Ca (fb T.uw (WL T) b0 (ka (pv 3) (ka (Mc v0 (pv 1) (pv 3)) (Ca (Ja zb (pv 0) la))))))))
   (pa (Nd (Xc jd Ii Ti As (pv 2) (Ca (fb T.vw (YL T) b0 (ka (pv 3) (Ca (Mc v0 (pv 1) (pv 3))))))))
   (pa (Nd (Xc jd Ii Ti As (pv 2) (Ca (fb T.ww (ZL T) b0 (ka (pv 3) (Ca (Mc v0 (pv 1) (pv 3))))))))
   (ma (Jb Db rfl (Za (Ud ["each"] ["number"] [3] (Ds (pv 1)) (bc 0) (Mf (xb Hu (pv 1) (pv 0) (Bb _))) (pv 0))) (bb 4)
   (ma (Nd (Xc jd Ii Ti As (pv 2) (Ca (fb T.yw (bM T) b0 (ka (pv 3) (ka (pv 4) (ka (pv 1) (Ca (Ja zb (pv 0) la))))))))))))))))
   (ma (Ga (Cd cw (by rfl) T.Am tO (za 2))))))),?_⟩
  show let G1:TS:=_;let H1:TS:=Qb _ _ _;let I1:TS:=qa _ H1;let J1:TS:=qa _ I1;let K1:TS:=qa _ J1;let L1:TS:=qa (Qb _ _ K1) G1;let M1:TS:=qa _ L1;qa _ M1 _ _ _
  intros;refine eaB ?_ (lj F1);rintro a l m xs ms rfl U0 V0 N1 O1 P1;have Q1:Tr H (.ref m) (.list (mk.map qe)):=.lst O1 P1;have K2:(1000000:Nat)<=vN:=by decide
  have N2:=o0.1;refine⟨_,rfl,a,_,_,_,rfl,rfl,oa.of U0,qb (j:=0) rfl,l,rfl,⟨_,ca.of V0⟩,cM (k:=1) (fs:=[]) Ao (λs x=>x.same s) r ee rfl V0 N1 (by lia) (λd k0 c0 R1 v R d0 w0 tr x0=>?_) λD c0 S1 O2 d0 T1 e0=>?_⟩
  ·obtain⟨t,rfl⟩:=Zc.mp w0;refine ea5 ?_ (hf tr);rintro b P2 Q2 rfl U1 _ _;refine⟨_,rfl,b,_,_,_,rfl,rfl,oa.of U1,qb (j:=0) rfl,_,rfl,.ref b,d,rfl,tr,o0.2.2.1 d k0,λp W0 F X0 e0 y0 f0=>⟨Ha,λt z0=>x0 _ [_] _ rfl (X0.trans (aa.upd z0)) ⟨t,p,F,rfl,ki (X0.free z0) ia,y0.same (DG (aa.upd z0)),f0⟩⟩⟩
  refine ea1 ?_ (dM (Paired.imp' (λv d (x:Ao (ye (off H c0) D) v d)=>x.same (λb o e=>CG _ _ (df e).2)) e0));rintro kvs Y0 p0;have V1:=eM p0;have Z0:kvs.length=r.length:=Ta p0;have a1:(kvs.map (·.1)).Nodup:=by
   rw[V1];exact Gd.mpr ((Gd.mp o0.2.1).imp λn e=>n (Ji e))
  refine nx8 D S1 kvs rfl T1 (Y0 K) (by rw[Z0];lia) λsd W1=>?_;rw[Em kvs [] a1,So];have b1:=aa.upd (o:=HO.dK kvs) W1;have X1:upd c0 sd (.dK kvs) sd=qN (.dK kvs):=ia;have q0:aa H (upd c0 sd (.dK kvs)):=d0.trans b1;have A0:∀(i:Nat) q,kvs[i]?=qN q->∃d p F,r[i]?=qN d/\d∈r/\q.1=.inl d.1/\Ka kvs (.inl d.1)=qN (.ref p)/\Ae (upd c0 sd (.dK kvs)) p F/\kk r d.1 F:=λi q e=>by
   obtain⟨d,l0,p,F,rfl,Y1,B0⟩:=Lb p0 e;have k0:=Xa l0;exact nx8 d p F l0 k0 rfl (gm a1 (Xa e)) ⟨Y1.same b1,λk s y0=>⟨d,k0,rfl,B0 k s y0⟩⟩
  clear Y0 p0 e0;generalize upd c0 sd (.dK kvs)=g0 at*;refine⟨(by show 0<=vN;exact Va _),λfp c1=>?_⟩;have d1:=aa.upd (o:=HO.lst []) c1;refine⟨_,rfl,sd,kvs,rfl,.inl (d1 _ _ X1),λob W0 B0 e1 S2=>?_⟩;have Z1:qk g0 sd fp ob kvs r mk W0 0 []:=⟨(KF.of d1).trans e1,c1,B0,e1.lst ia,⟨[],.nil,λ_ h=>by cases h⟩,wa _⟩;have f1:∀{J:Hp},KF g0 J->zo J m mk:=λ{J}k=>⟨(Q1.same q0).kf k,o0.2.2.2⟩
  have g1:∀{J:Hp},KF g0 J->J a=qN (.tup [.ref l,.ref m]):=λ{J}k=>k.tup (q0 _ _ U0)
  refine sG (d:=sd) (ob:=ob) (kvs:=kvs) (λi O J=>∃(ys:List V)(C0 h0:Option V),O=[qN (.ref a),qN (.ref sd),qN (.ref fp),C0,h0]/\qk g0 sd fp ob kvs r mk J (3200*i) ys) (nx7 ([]) sN sN rfl Z1) (by rintro i O J⟨_,_,_,_,f⟩;exact f.sd) ?_ ?_
  ·rintro i a2 x O J h1⟨ys,C0,h0,rfl,F⟩;have i1:i<r.length:=by rw[<-Z0];exact(rb.mp h1).1
   refine ec8 ?_ (A0 i _ h1);rintro d p S k0 T2 rfl r0 s0 f0;have U2:=F.ln;refine⟨_,rfl,.inl ⟨rfl,_,ca.of F.fd⟩,_,rfl,_,rfl,_,rfl,sd,_,rfl,.inl (nx0 kvs (.inl d.1) (.inr ⟨_,F.sd⟩) rfl r0.symm),_,rfl,a,_,_,_,rfl,rfl,oa.of (g1 F.kf),qb (j:=1) rfl,d.1,p,m,r,mk,S,rfl,s0.kf F.kf,f0,f1 F.kf,λq1 D0 V2 b2 c2 j1 k1 F0 d2 e2=>?_⟩;have f2:=Ta F0;obtain⟨l1,i0⟩:=F.ext (KF.of j1) F0 d2 e2;refine⟨fp,q1,ys,D0,rfl,rfl,l1,k1,(by lia),?_⟩;have W2:=i0.ln;generalize upd b2 fp (.lst (ys++D0))=X2 at*;generalize ys++D0=m1 at*;refine⟨_,rfl,.inl ⟨rfl,_,ca.of i0.fd⟩,_,rfl,_,rfl,_,rfl,sd,_,rfl,.inl (nx0 kvs (.inl d.1) (.inr ⟨_,i0.sd⟩) rfl r0.symm),d.1,p,r,mk,S,rfl,s0.kf i0.kf,f0,λq2 G0 Y2 g2 h2 n1 o1 I0 i2 j2=>?_⟩;have k2:=Ta I0;obtain⟨p1,j0⟩:=i0.ext n1 I0 i2 j2;refine⟨fp,q2,_,G0,rfl,rfl,p1,o1,(by lia),?_⟩;have Z2:=j0.ln;generalize upd g2 fp (.lst (m1++G0))=a3 at*;generalize m1++G0=r1 at*;refine⟨_,rfl,.inl ⟨rfl,_,ca.of j0.fd⟩,_,rfl,_,rfl,_,rfl,sd,_,rfl,.inl (nx0 kvs (.inl d.1) (.inr ⟨_,j0.sd⟩) rfl r0.symm),d.1,p,r,mk,S,rfl,s0.kf j0.kf,f0,λq3 J0 b3 l2 m2 s1 t1 K0 n2 o2=>?_⟩;have p2:=Ta K0;obtain⟨u1,m0⟩:=j0.ext s1 K0 n2 o2;refine⟨fp,q3,_,J0,rfl,rfl,u1,t1,(by lia),?_⟩;have c3:=m0.ln;generalize upd l2 fp (.lst (r1++J0))=d3 at*;generalize r1++J0=r2 at*;clear F i0 j0 F0 I0 K0 l1 p1 u1 n1 s1 j1 c2 h2 m2 k1 o1 t1 f2 k2 p2;refine⟨_,rfl,sd,kvs,rfl,.inr ⟨_,m0.sd⟩,λv1 e3 L0 M0 f3=>?_⟩;obtain rfl:v1=ob:=by
    have:=M0.Hb m0.sd;rw[L0]at this;injection this with y;injection y
   refine Rp (k:=1) (fs:=[qN (.int d.1)]) kvs.length (λj=>kvs[j]?.bind λe=>if d.1<ng e.1 then qN (.int (ng e.1))else sN) rfl (by lia) (λj H d0 i1=>⟨d0 _ _ L0,i1⟩) (λH d0=>⟨d0 _ _ L0,rfl⟩) ?_ λt0 s2 t2 w1 N0=>?_
   ·rintro j s2 R1 v U R w1 O0 w0;refine eb3 ?_;rintro rfl a2 x l0 rfl x0;refine ea5 ?_ (A0 j _ l0);rintro e Y a0 g3 _ rfl _;obtain⟨t,rfl⟩:=Zc.mp w0;have n0:=x0 [qN (.int e.1)] U rfl (aa.refl _);have u2:(kvs[j]?.bind λe=>if d.1<ng e.1 then qN (V.int (ng e.1))else sN)=if d.1<e.1 then qN (V.int e.1)else sN:=by rw[l0];rfl
    rw[u2]at n0;refine⟨_,rfl,_,rfl,_,_,rfl,rfl,_,rfl,jb (λz=>?_) (λz=>?_)⟩
    ·rw[va (yd z)]at n0;exact⟨_,rfl,n0⟩
    ·rw[na λy=>z (Xb y)]at n0;exact n0
   rw[Ln]at N0;have v2:∀v∈kvs.filterMap (λe=>if d.1<ng e.1 then qN (V.int (ng e.1))else sN),∃e Y a0,v=.int e/\d.1<e/\Ka kvs (.inl e)=qN (.ref Y)/\Ae g0 Y a0/\kk r e a0:=λv w2=>by
    refine ea1 ?_ (cn.mp w2);rintro h3 x2 u0;obtain⟨y2,z2⟩:=Hd.mp x2;refine ec8 ?_ (A0 y2 _ z2);rintro e Y a0 _ _ ek P0 Q0 R0;rw[ek]at u0;split at u0
    ·next z=>cases u0;exact nx8 e.1 Y a0 rfl z P0 Q0 R0
    ·cases u0
   have i3:=Uq (λe:Key×V=>if d.1<ng e.1 then qN (V.int (ng e.1))else sN) kvs;generalize kvs.filterMap (λe=>if d.1<ng e.1 then qN (V.int (ng e.1))else sN)=S0 at*;have A2:t0≠fp:=λz=>by
    have:=(m0.go M0).fd;rw[<-z,t2]at this;cases this
   refine⟨t0,rfl,⟨_,ca.of N0⟩,nc (K:=K) (a:=t0) (xs:=S0) (λj O U=>U t0=qN (.lst S0)/\∃(ys:List V)(h0:Option V),O=[qN (.ref a),qN (.ref sd),qN (.ref fp),qN (.int d.1),h0]/\qk g0 sd fp v1 kvs r mk U (3200*i+1000+1000+1000+j) ys) (⟨N0,nx4 r2 h0 rfl (m0.go (M0.trans (KF.of w1)))⟩) (by rintro j O U _⟨h,_⟩;exact ca.of h) ?_ ?_⟩
   ·rintro j y O U x1;refine eb3 ?_;rintro B2 T0 C2 rfl g;have O0:j<S0.length:=(rb.mp x1).1;refine ea2 ?_ (v2 _ (Xa x1));rintro e Y a0 rfl lt P0 Q0 R0;refine⟨_,rfl,.inl ⟨rfl,_,ca.of g.fd⟩,_,rfl,_,rfl,_,rfl,_,rfl,a,_,_,_,rfl,rfl,oa.of (g1 g.kf),qb (j:=1) rfl,d.1,e,sd,m,p,Y,kvs,S,a0,r,mk,rfl,Int.ne_of_lt lt,.inr ⟨_,g.sd⟩,r0,P0,s0.kf g.kf,Q0.kf g.kf,f0,R0,f1 g.kf,λD2 y1 j3 k3 l3 z1 E2 A1 F2 G2=>?_⟩;have m3:=Ta A1;have n3:=g.ln;obtain⟨H2,I2⟩:=g.ext (KF.of z1) A1 F2 G2;exact⟨fp,D2,_,y1,rfl,rfl,H2,E2,(by lia),(by rw[ja A2];exact z1 _ _ B2),T0++y1,_,rfl,I2⟩
   ·rintro O U;refine eb3 ?_;rintro _ T0 C2 rfl g;exact nx7 T0 _ _ rfl ⟨g.kf,g.nf,g.sd,g.fd,g.tk,gb g.ln (by lia)⟩
  ·rintro O J⟨ys,C0,h0,rfl,F⟩;refine ea1 ?_ F.tk;rintro js tk B1;have ln:=F.ln;have o3:=Ta tk;refine⟨_,rfl,fp,ys,_,rfl,ca.of F.fd,tk,rx B1,λp C1 J2 e0 tp D1=>?_⟩;have E1:=aa.upd (o:=HO.lst C1) e0;refine q p C1 J2 _ ?_ (((KF.of q0).trans F.kf).trans (KF.of E1)) ia (Bc.kf (KF.of E1) tp) (λj O0=>B1 j (D1.mem_iff.mp O0)) (by rw[D1.length_eq];lia);cases e:H p with
   |none=>rfl
   |some o=>rcases((KF.of q0).trans F.kf) p o e with y|⟨_,_,_,y⟩<;>(rw[e0]at y;cases y)
--@La
def jf(g:List Dl):List (Key×V):=g.map λd=>(.inl d.1,.str d.2.1)
def kC{g:List Dl}(r:(g.map (·.1)).Nodup):((jf g).map (·.1)).Nodup:=by
 unfold jf;rw[Ve];exact Gd.mpr ((Gd.mp r).imp λn e=>n (Ji e))
def pj{g:List Dl}{d:Dl}(r:(g.map (·.1)).Nodup)(h:d∈g):Ka (jf g) (.inl d.1)=qN (.str d.2.1):=gm (kC r) (Sa.mpr ⟨d,h,rfl⟩)
inductive lC(vs:List V)(H:Hp)(Q:VK)(E:XK):Prop|mk(v:V)(wp:uN)(k:List Key)(ds:List Dl)(_:vs=[v,.ref wp])(_:ic H v k)(_:Rd H wp (.dK (jf ds)))(_:(ds.map (·.1)).Nodup)(_:jk ds k)(_:∀H',aa H H'->Q (.bl wN) H')
inductive hM(vs:List V)(H:Hp)(Q:VK)(E:XK):Prop|mk(v:V)(ds:List Dl)(mk:List pb)(_:vs=[v])(_:Tr H v (Ih (ds,mk)))(_:ux ds mk)(_:(∀j,ud ds mk j->jk ds j))(_:∀p H',H p=sN->KF H H'->H' p=qN (.lst [])->Q (.ref p) H')
def bu{x:Str}(h:Yt x):ei (.str x) [.str "loose",.str "kept"]=wN:=by rcases h with rfl|rfl<;>decide+kernel
def mC{x:Str}(h:Bq x):ei (.str x) [.str "loose",.str "kept",.str "make"]=wN:=by rcases h with rfl|rfl|rfl<;>decide+kernel
def nC{x:Str}(h:Bq x):ei (.str x) [.str "watch",.str "hold"]=yN:=by rcases h with rfl|rfl|rfl<;>decide+kernel
def iM{K:W.Frag}{H:Hp}{g:List V}{r:List Dl}(h:Paired (λv(d:Dl)=>∃b,v=.ref b/\H b=qN (.tup [.int d.1,.str d.2.1])) g r):fj K H g (jf r):=by
 induction h with
 |nil=>exact .nil
 |@cons v d _ _ h t J=>
  obtain⟨b,rfl,O⟩:=h;exact .cons (q:=(.inl d.1,.str d.2.1)) (oa.of O) J
def jM(T:Tx K mg):T.Aw.Ok P w base 1 lC:=by
 refine Ua T.Aw.F λH _ Q _ Y h=>?_
 ·obtain⟨v,wp,k,f0,rfl,a0,J,O,b0,q⟩:=h;have U:=kc Y;refine⟨_,(pa (qc (xb Od (Ja zb (pv 0) la) Ib (Bb _))
   (ma (Ga (yu (zh uy (Mc U (pv 1) (Ja zb (pv 0) la)) (Xi (v:=V.ref T.ym) rfl T.NA rfl) rfl) (xu (zh uy (Mc U (pv 1) (Ja zb (pv 0) la)) (Xi (v:=V.ref T.ym) rfl T.NA rfl) rfl)))))
   pc)
   (pa (qc (xb Od (Ja zb (pv 0) la) Ib (Bb _))
   (ma (Ga (zh Od (Mc U (pv 1) (Ja zb (pv 0) la)) Ib (Bb _))))
   pc)
   (ma (Ga (zh cj (Mc U (pv 1) (Ja zb (pv 0) la)) (Xi (v:=V.ref T.ho) rfl T.AJ rfl) rfl))))),?_⟩
  show let c0:TS:=_;let d0:TS:=qa (zc _ _ _) c0;qa (zc _ _ _) d0 _ _ _
  intros;have q:=q H (aa.refl H);revert a0;refine ea1 ?_;rintro p rfl g;cases b0 with
  |@re d g0 l r z=>
   refine⟨_,rfl,p,_,_,_,rfl,rfl,oa.of g,qb (j:=0) rfl,rfl,_,rfl,jb (λz=>absurd z (by decide+kernel)) (λ_=>?_)⟩;refine⟨_,rfl,p,_,_,_,rfl,rfl,oa.of g,qb (j:=0) rfl,rfl,_,rfl,jb (λz=>absurd z (by decide+kernel)) (λ_=>?_)⟩;refine⟨_,rfl,_,rfl,p,_,_,_,rfl,rfl,oa.of g,qb (j:=1) rfl,wp,_,rfl,.inl (nx0 _ (.inl d.1) J rfl ((pj O r).symm)),T.ho,_,rfl,.inr (T.MA _),rfl,rfl,?_⟩;rw[<-bu z]at q;exact q
  |@mid d l r z=>
   refine⟨_,rfl,p,_,_,_,rfl,rfl,oa.of g,qb (j:=0) rfl,rfl,_,rfl,jb (λz=>absurd z (by decide+kernel)) (λ_=>?_)⟩;refine⟨_,rfl,p,_,_,_,rfl,rfl,oa.of g,qb (j:=0) rfl,rfl,_,rfl,jb (λz=>absurd z (by decide+kernel)) (λ_=>?_)⟩;refine⟨_,rfl,_,rfl,p,_,_,_,rfl,rfl,oa.of g,qb (j:=1) rfl,wp,_,rfl,.inl (nx0 _ (.inl d.1) J rfl ((pj O r).symm)),T.ho,_,rfl,.inr (T.MA _),rfl,rfl,?_⟩;rw[<-bu z]at q;exact q
  |@mj d l r z=>
   refine⟨_,rfl,p,_,_,_,rfl,rfl,oa.of g,qb (j:=0) rfl,rfl,_,rfl,jb (λz=>absurd z (by decide+kernel)) (λ_=>?_)⟩;refine⟨_,rfl,p,_,_,_,rfl,rfl,oa.of g,qb (j:=0) rfl,rfl,_,rfl,jb (λ_=>?_) (λz=>absurd (by decide+kernel) z)⟩;refine⟨_,rfl,_,rfl,p,_,_,_,rfl,rfl,oa.of g,qb (j:=1) rfl,wp,_,rfl,.inl (nx0 _ (.inl d.1) J rfl ((pj O r).symm)),rfl,?_⟩;rw[<-show decide (V.str d.2.1=V.str "loose")=wN from Xb (by rw[z])]at q;exact q
  |@ge d e l m r e0 z=>
   refine⟨_,rfl,p,_,_,_,rfl,rfl,oa.of g,qb (j:=0) rfl,rfl,_,rfl,jb (λ_=>?_) (λz=>absurd (by decide+kernel) z)⟩;refine⟨_,rfl,_,rfl,p,_,_,_,rfl,rfl,oa.of g,qb (j:=1) rfl,wp,_,rfl,.inl (nx0 _ (.inl d.1) J rfl ((pj O r).symm)),T.ym,_,rfl,.inr (T.OA _),rfl,rfl,_,rfl,?_⟩;show if(!ei (.str d.2.1) [.str "watch",.str "hold"])=wN then _ else _
   refine jb (λy=>?_) (λy=>?_)
   ·exact q
   ·have z:=z.resolve_left λz=>y (by rw[nC z];rfl)
    refine⟨_,rfl,_,rfl,p,_,_,_,rfl,rfl,oa.of g,qb (j:=2) rfl,wp,_,rfl,.inl (nx0 _ (.inl e.1) J rfl ((pj O e0).symm)),T.ym,_,rfl,.inr (T.OA _),rfl,rfl,?_⟩;show Q (.bl (!ei (.str e.2.1) [.str "watch",.str "hold"])) _;rw[nC z];exact q
def kM(T:Tx K mg):T.Mw.Ok P w base 1 lC:=by
 refine Ua T.Mw.F λ_ _ Q _ a0 h=>?_
 ·obtain⟨v,wp,k,i0,rfl,b0,J,O,c0,q⟩:=h;have Y:=kc a0;refine⟨_,(pa (qc (xb Od (Ja zb (pv 0) la) Ib (Bb _))
   (ma (Ga (yu (zh cj (Mc Y (pv 1) (Ja zb (pv 0) la)) (Rb (ka Ib (ka Ib (Ca Ib)))) rfl) (xu (zh cj (Mc Y (pv 1) (Ja zb (pv 0) la)) (Rb (ka Ib (ka Ib (Ca Ib)))) rfl)))))
   pc)
   (pa (qc (xb Od (Ja zb (pv 0) la) Ib (Bb _))
   (ma (Ga (zh Od (Mc Y (pv 1) (Ja zb (pv 0) la)) Ib (Bb _))))
   pc)
   (ma (Ga (zh cj (Mc Y (pv 1) (Ja zb (pv 0) la)) (Rb (ka Ib (Ca Ib))) rfl))))),?_⟩
  show let d0:TS:=_;let e0:TS:=qa (zc _ _ _) d0;qa (zc _ _ _) e0 _ _ _
  intros;revert b0;refine ea1 ?_;rintro p rfl g;cases c0 with
  |@re d j0 l r z=>
   refine⟨_,rfl,p,_,_,_,rfl,rfl,oa.of g,qb (j:=0) rfl,rfl,_,rfl,jb (λz=>absurd z (by decide+kernel)) (λ_=>?_)⟩;refine⟨_,rfl,p,_,_,_,rfl,rfl,oa.of g,qb (j:=0) rfl,rfl,_,rfl,jb (λz=>absurd z (by decide+kernel)) (λ_=>?_)⟩;refine⟨_,rfl,_,rfl,p,_,_,_,rfl,rfl,oa.of g,qb (j:=1) rfl,wp,_,rfl,.inl (nx0 _ (.inl d.1) J rfl ((pj O r).symm)),Ha,λt U=>⟨t,_,rfl,.inr (oa.of ia),rfl,rfl,?_⟩⟩;have q:=q _ (aa.upd (o:=HO.tup [.str "loose",.str "kept"]) U);rw[<-bu z]at q;exact q
  |@mid d l r z=>
   refine⟨_,rfl,p,_,_,_,rfl,rfl,oa.of g,qb (j:=0) rfl,rfl,_,rfl,jb (λz=>absurd z (by decide+kernel)) (λ_=>?_)⟩;refine⟨_,rfl,p,_,_,_,rfl,rfl,oa.of g,qb (j:=0) rfl,rfl,_,rfl,jb (λz=>absurd z (by decide+kernel)) (λ_=>?_)⟩;refine⟨_,rfl,_,rfl,p,_,_,_,rfl,rfl,oa.of g,qb (j:=1) rfl,wp,_,rfl,.inl (nx0 _ (.inl d.1) J rfl ((pj O r).symm)),Ha,λt U=>⟨t,_,rfl,.inr (oa.of ia),rfl,rfl,?_⟩⟩;have q:=q _ (aa.upd (o:=HO.tup [.str "loose",.str "kept"]) U);rw[<-bu z]at q;exact q
  |@mj d l r z=>
   refine⟨_,rfl,p,_,_,_,rfl,rfl,oa.of g,qb (j:=0) rfl,rfl,_,rfl,jb (λz=>absurd z (by decide+kernel)) (λ_=>?_)⟩;refine⟨_,rfl,p,_,_,_,rfl,rfl,oa.of g,qb (j:=0) rfl,rfl,_,rfl,jb (λ_=>?_) (λz=>absurd (by decide+kernel) z)⟩;refine⟨_,rfl,_,rfl,p,_,_,_,rfl,rfl,oa.of g,qb (j:=1) rfl,wp,_,rfl,.inl (nx0 _ (.inl d.1) J rfl ((pj O r).symm)),rfl,?_⟩;have q:=q _ (aa.refl _);rw[<-show decide (V.str d.2.1=V.str "loose")=wN from Xb (by rw[z])]at q;exact q
  |@ge d e l m r f0 z=>
   refine⟨_,rfl,p,_,_,_,rfl,rfl,oa.of g,qb (j:=0) rfl,rfl,_,rfl,jb (λ_=>?_) (λz=>absurd (by decide+kernel) z)⟩;refine⟨_,rfl,_,rfl,p,_,_,_,rfl,rfl,oa.of g,qb (j:=1) rfl,wp,_,rfl,.inl (nx0 _ (.inl d.1) J rfl ((pj O r).symm)),Ec,λt U=>⟨t,_,rfl,.inr (oa.of ia),rfl,rfl,_,rfl,?_⟩⟩;have st:=aa.upd (o:=HO.tup [.str "loose",.str "kept",.str "make"]) U;show if ei (.str d.2.1) [.str "loose",.str "kept",.str "make"]=wN then _ else _
   refine jb (λy=>?_) (λy=>?_)
   ·exact q _ st
   ·have z:=z.resolve_left λz=>y (mC z)
    refine⟨_,rfl,_,rfl,p,_,_,_,rfl,rfl,oa.of (st _ _ g),qb (j:=2) rfl,wp,_,rfl,.inl (nx0 _ (.inl e.1) ((KF.of st).rd J) rfl ((pj O f0).symm)),Ec,λg0 h0=>⟨g0,_,rfl,.inr (oa.of ia),rfl,rfl,?_⟩⟩;have q:=q _ (st.trans (aa.upd (o:=HO.tup [.str "loose",.str "kept",.str "make"]) h0));show Q (.bl (ei (.str e.2.1) [.str "loose",.str "kept",.str "make"])) _;rw[mC z];exact q
def lM(T:Tx K mg):T.Bw.Ok P w base 5 hM:=by
 refine Ua T.Bw.F λ{_ _ _ s}H _ _ _ J h=>?_
 ·obtain⟨v,g,mk,rfl,d0,O,q0,q⟩:=h;have L0:=kc J;refine⟨_,(pa (Ma 1 (aj (Jn (K:=K) rfl rfl) (by rfl) T.ak Bj (Ca (Ud ["deal"] [] [] (Za (Ja zb (pv 0) la)) (bc 0) Ie (Rb (ka (Ja (ie (K:=K) rfl) (pv 0) la) (Ca (Ja (ie (K:=K) rfl) (pv 0) la))))))))
   (ma (Ga (Ud ["ill"] ["words"] [1] (Za (fb T.zw (gM T) J (za 0))) (bc 0) (Mf (wn (Kk (fb T.Aw (jM T) J (ka (pv 0) (za 1)))))) (pv 0))))),?_⟩
  show let r0:TS:=_;qa _ r0 _ _ _
  intros;refine eaB ?_ (lj d0);rintro a l m xs ms rfl s0 e0 t0 _ _;have M0:(1000000:Nat)<=vN:=by decide
  have N0:=O.1;have f0:=O.2.1;refine⟨_,rfl,a,_,_,_,rfl,rfl,oa.of s0,qb (j:=0) rfl,l,rfl,⟨_,ca.of e0⟩,dh (k:=1) (fs:=[]) (λH v (d:Dl)=>∃b,v=.ref b/\H b=qN (.tup [.int d.1,.str d.2.1])) (λH v d=>Tr H v (ee d)) g (λd=>qN d) (by rintro H H' y b U;refine ea1 ?_;rintro p e r;exact⟨p,e,U _ _ (λ_ z=>by cases z) r⟩) (λH H' y b s t=>t.same s) rfl e0 (Ai t0) (by lia) (λd O0 g0 u0 v R Y a0 tr h0 i0=>?_) λD g0 v0 P0 Y w0 r=>?_⟩
  ·obtain⟨t,rfl⟩:=Zc.mp a0;refine ea5 ?_ (hf tr);rintro b Q0 R0 rfl j0 _ _;exact⟨_,rfl,b,_,_,_,rfl,rfl,oa.of j0,qb (j:=0) rfl,_,rfl,b,_,_,_,rfl,rfl,oa.of j0,qb (j:=1) rfl,Ha,λt x0=>h0 _ _ [_] _ rfl rfl (aa.upd x0) ⟨t,rfl,ia⟩⟩
  rw[jp]at r;have y0:(jf g).length=g.length:=ua _;refine nx8 D v0 _ rfl w0 (iM r) (by rw[y0];lia) λwp z0=>?_;rw[Em (jf g) [] (kC f0),So];have k0:=aa.upd (o:=HO.dK (jf g)) z0;have A0:upd g0 wp (.dK (jf g)) wp=qN (.dK (jf g)):=ia;refine⟨_,rfl,.ref a,g,mk,rfl,d0.same (Y.trans k0),O,λfp ys js S0 T0 l0 m0 B0 C0 U0=>?_⟩;have n0:=(KF.of (Y.trans k0)).trans l0;refine⟨fp,rfl,⟨_,ca.of m0⟩,dh (k:=1) (fs:=[qN (.ref wp)]) ic ic js (λ_=>(sN:Option (List Key))) (by rintro H H' y b U⟨p,e,r⟩;exact⟨p,e,U _ _ (λ_ z=>by cases z) r⟩) (λH H' y b s t=>ic.kf (KF.of s) t) rfl m0 B0 (by lia) (λk D0 o0 u0 v R b0 a0 F0 h0 i0=>?_) λc0 o0 V0 G0 b0 I0 p0=>?_⟩
  ·obtain⟨t,rfl⟩:=Zc.mp a0;refine⟨_,rfl,_,rfl,v,wp,k,g,rfl,F0,(l0.trans (KF.of b0)).rd (.inl A0),f0,q0 k (C0 k D0),λJ0 K0=>⟨_,rfl,i0 rfl [_] J0 rfl K0⟩⟩
  ·rw[List.filterMap_eq_nil_iff.mpr λ_ _=>rfl]at p0;cases p0;refine q c0 o0 ?_ (n0.trans (KF.of b0)) I0;cases e:H c0 with
   |none=>rfl
   |some o=>rcases n0 c0 o e with y|⟨_,_,_,y⟩<;>(rw[G0]at y;cases y)
--@La
def sk(H:Hp)(v:V)(g:List Lk):Prop:=Tr H v (.list (g.map oo))/\g.flatten.length<=120
def qj(H:Hp)(m:uN)(mk:List pb):Prop:=zo H m mk/\mk.length<=4
inductive mM(K:W.Frag)(vs:List V)(H:Hp)(Q:VK)(E:XK):Prop|mk(p:uN)(ms:List Int)(n:Int)(_:vs=[.ref p,.int n])(_:ca K H p (ms.map V.int))(_:Q (.int ((Df n 0 ms).getD (-2))) H)
def nM:Sp:=λvs H Q _=>∃(v:V)(g:List Lk),vs=[v]/\sk H v g/\∀p ys js H',H p=sN->aa H H'->H' p=qN (.lst ys)->Paired (sb H') ys js->js.Nodup->(∀q∈js,q∈g.flatten)->js.length<=120->Q (.ref p) H'
inductive oM(vs:List V)(H:Hp)(Q:VK)(E:XK):Prop|mk(n:Int)(v:V)(m:uN)(Hg:List Lk)(ds:List Dl)(mk:List pb)(_:vs=[.int n,v,.ref m])(_:sk H v Hg)(_:qj H m mk)(_:(∀q∈Hg.flatten,Mb ds n q.1 q.2))(_:Im ds mk aa 244 H Q)
inductive pM(vs:List V)(H:Hp)(Q:VK)(E:XK):Prop|mk(v:V)(m:uN)(o:Int)(Hg:List Lk)(mk:List pb)(_:vs=[v,.ref m,.int o])(_:sk H v Hg)(_:qj H m mk)(_:∀p(ks:List Int)H',H p=sN->aa H H'->H' p=qN (.lst (ks.map V.int))->(∀k∈ks,∃ms s,(k,ms)∈mk/\o∈ms/\(k,s)∈Hg.flatten/\(s=0\/s∈ms.take (ms.idxOf o)))->ks.length<=480->Q (.ref p) H')
inductive qM(vs:List V)(H:Hp)(Q:VK)(E:XK):Prop|mk(v1 v2:V)(m:uN)(d e:Dl)(ds:List Dl)(mk:List pb)(_:vs=[v1,v2,.ref m])(_:Tr H v1 (ee d))(_:Tr H v2 (ee e))(_:d∈ds)(_:e∈ds)(_:d.1≠e.1)(_:(gf d).length<=120)(_:(gf e).length<=120)(_:qj H m mk)(_:Im ds mk aa 1 H Q)
inductive rM(vs:List V)(H:Hp)(Q:VK)(E:XK):Prop|mk(v:V)(m:uN)(ds:List Dl)(mk:List pb)(_:vs=[v,.ref m])(_:Tr H v (.list (ds.map ee)))(_:ds.length<=6)(_:(ds.map (·.1)).Nodup)(_:(∀d∈ds,(gf d).length<=120))(_:qj H m mk)(_:Im ds mk aa 2000 H Q)
def Ax{g:Type}[DecidableEq g](kvs:List (g×V))(k:g)(v:V):(Gb kvs k v).map (·.1)=if k∈kvs.map (·.1)then kvs.map (·.1)else kvs.map (·.1)++[k]:=by
 unfold Gb;by_cases h:k∈kvs.map (·.1)
 ·rw[va h,va]
  ·rw[Ve];refine List.map_congr_left λa _=>?_
   show(if a.1=k then(a.1,v)else a).1=a.1;split<;>rfl
  ·obtain⟨a,r,e⟩:=Sa.mp h;exact Qi.mpr ⟨a,r,Xb e⟩
 ·rw[na h,na,Qd]
  ·rfl
  ·intro z;obtain⟨a,r,e⟩:=Qi.mp z;exact h (Sa.mpr ⟨a,r,yd e⟩)
def oC{g:Type}[DecidableEq g]{kvs:List (g×V)}{k:g}{v:V}{j:g}(h:j∈(Gb kvs k v).map (·.1)):j∈kvs.map (·.1)\/j=k:=by
 rw[Ax]at h;split at h
 ·exact .inl h
 ·rwa[fc,cc]at h
def sM{g:Type}[DecidableEq g]{kvs:List (g×V)}{k:g}{v:V}(h:(kvs.map (·.1)).Nodup):((Gb kvs k v).map (·.1)).Nodup:=by
 rw[Ax];split
 ·exact h
 ·next q=>exact Hl.mpr ⟨h,by simp,λa r b J e=>q (by rw[cc.mp J]at e;exact e▸r)⟩
def pC{g:Type}[DecidableEq g]{kvs:List (g×V)}{k:g}{v:V}:(Gb kvs k v).length<=kvs.length+1:=by
 have:=Vb List.length (Ax kvs k v);rw[ua]at this;rw[this];split
 ·rw[ua];simp_all
 ·rw[Ya,ua];exact wa _
def xl(q:Pr):List Key:=[.inl q.1,.inl q.2]
def Bx:List Key->Pr
 |[.inl a,.inl b]=>(a,b)
 |_=>(0,0)
def qC(q:Pr):Bx (xl q)=q:=rfl
def tM{H:Hp}{ys:List V}{js:List (List Key)}(h:Paired (ic H) ys js)(a:∀j∈js,∃q,j=xl q):Paired (sb H) ys (js.map Bx):=by
 induction h with
 |nil=>exact .nil
 |cons h t g=>
  obtain⟨q,rfl⟩:=a _ (.head _);obtain⟨p,e,r⟩:=h;exact .cons ⟨p,e,r⟩ (g λj J=>a j (.tail _ J))
def Cq(js:List Pr)(ys:List V)(p:Pr->Bool):List V:=(js.zip ys).filterMap λa=>if p a.1=wN then qN a.2 else sN
def Dx{H:Hp}{p:Pr->Bool}{ys:List V}{js:List Pr}(h:Paired (sb H) ys js):(Cq js ys p).length=(js.filter p).length:=by
 induction h with
 |nil=>rfl
 |@cons y q ys js h t g=>
  unfold Cq at*;rw[Il,wh,To];by_cases z:p q=wN
  ·rw[va z,va z,Vd,Vd,g]
  ·rw[na z,na z,g]
def Fx{U fs:L2.St}{K:W.Frag}{l:uN}{ys:List V}{js:List Pr}{Y:TT}{Q:VK}{r:Hp}(p:Pr->Bool)(b0:U=List.replicate 1 sN++fs)(O:r l=qN (.lst ys))(a0:Paired (sb r) ys js)(hz:js.length<=vN)
  (c0:∀(a:uN)q(R:Bool->Hp->Prop)H,H a=qN (.tup [.int q.1,.int q.2])->R (p q) H->Y (qN (.ref a)::fs) H R)
  (fin:∀D H',r D=sN->aa r H'->H' D=qN (.lst (Cq js ys p))->Q (.ref D) H'):Nf U (bf K l) (Wl 0) Y (Fj 0) Q r:=by
 have d0:ys.length=js.length:=Ta a0;have o0:(js.zip ys).length=js.length:=by rw[List.length_zip,d0,Nat.min_self]
 refine Rp (k:=1) (fs:=fs) (js.zip ys).length (λi=>(js.zip ys)[i]?.bind λa=>if p a.1=wN then qN a.2 else sN) b0 (by simp_all) (λi H g e0=>(Pd (ca.of (g _ _ O))).go i (by simp_all)) (λH g=>(Pd (ca.of (g _ _ O))).stop _ (by simp_all)) ?_ λD H' f0 g g0=>fin D H' f0 g (by rw[g0,Ln];rfl)
 rintro i H p0 v H' R g e0 h0⟨rfl,i0⟩j0;have e:=i0 ys (ca.of (g _ _ O));refine eb6 ?_ (Lb a0 e);rintro q k0 a rfl l0;obtain⟨t,rfl⟩:=Zc.mp h0;have m0:(js.zip ys)[i]?=qN (q,.ref a):=Rm.mpr ⟨k0,e⟩;have J:=j0 [qN (.ref a)] H' rfl (aa.refl _);have n0:((js.zip ys)[i]?.bind λa=>if p a.1=wN then qN a.2 else sN)=if p q=wN then qN (V.ref a)else sN:=by rw[m0];rfl
 rw[n0]at J;refine c0 a q _ H' (g _ _ l0) (jb (λy=>?_) (λy=>?_))
 ·rw[va y]at J;exact⟨_,rfl,J⟩
 ·rw[na y]at J;exact J
def rC(xs:List V)(k:Nat):ag xs (qN (k:Int)) sN=xs.drop k:=by
 unfold ag;rw[HT.Ge,HT.ae];by_cases h:k<=xs.length
 ·rw[Zm h,Pl (by rw[Kg];exact wa _)]
 ·rw[cr (show xs.length<=min k xs.length by lia),cr (show xs.length<=k by lia),List.take_nil]
def Dq{xs:List V}{i:Nat}{v:V}(h:xs[i]?=qN v):Lf xs (0+(i:Int))=qN v:=by
 rw[Int.zero_add];exact qb h
def cu(a b:Int):decide (V.int a=V.int b)=decide (a=b):=by
 by_cases h:a=b
 ·rw[h];simp
 ·rw[he h,he (λe=>h (by injection e))]
def sk.same{H H':Hp}(s:aa H H'){v:V}{g:List Lk}(h:sk H v g):sk H' v g:=⟨h.1.same s,h.2⟩
def qj.same{H H':Hp}(s:aa H H'){m:uN}{mk:List pb}(h:qj H m mk):qj H' m mk:=⟨⟨h.1.1.same s,h.1.2⟩,h.2⟩
def uM{H:Hp}{p:Pr->Bool}{ys:List V}{js:List Pr}(h:Paired (sb H) ys js)(e:(!(Cq js ys p).isEmpty)=wN):∃q∈js,p q=wN:=by
 have l:=Dx (p:=p) h;cases g:Cq js ys p with
 |nil=>rw[g]at e;cases e
 |cons a J=>
  rw[g]at l;obtain⟨q,r⟩:=List.exists_mem_of_length_pos (l:=js.filter p) (by rw[<-l];exact Si _);exact⟨q,(Ze.mp r).1,(Ze.mp r).2⟩
def sC{js:List Pr}(Y:js.Nodup)(k:Int)(h:1<(js.filter λg=>decide (g.1=k)).length):∃s s',(k,s)∈js/\(k,s')∈js/\s≠s':=by
 have J:(js.filter λg=>decide (g.1=k)).Nodup:=Y.filter _;have r:∀q:Pr,q∈(js.filter λg=>decide (g.1=k))->q∈js/\q.1=k:=λq h=>by rwa[Ze,vk]at h
 generalize js.filter (λg=>decide (g.1=k))=a0 at J r h;rcases a0 with _|⟨a,_|⟨b,g⟩⟩
 ·cases h
 ·exact absurd h (Sh _)
 ·obtain⟨b0,O⟩:=r a (.head _);obtain⟨c0,U⟩:=r b (.tail _ (.head _));refine nx0 a.2 b.2 (by rw[<-O];exact b0) (by rw[<-U];exact c0) λz=>?_;exact(Qg.mp J).1 (by rw[show a=b from Uh (O.trans U.symm) z];exact .head _)
structure Fq(Hg:List Lk)(kvs:List (List Key×V))(n:Nat):Prop where
 nd:(kvs.map (·.1)).Nodup
 mem:∀k∈kvs.map (·.1),∃q∈Hg.flatten,k=xl q
 len:kvs.length<=n
def Fq.put{g:List Lk}{kvs:List (List Key×V)}{n:Nat}{q:Pr}{v:V}(h:Fq g kvs n)(r:q∈g.flatten):Fq g (Gb kvs (xl q) v) (n+1):=
 ⟨sM h.nd,λk J=>(oC J).elim (h.mem k) λe=>⟨q,r,e⟩,gb pC (bp h.len)⟩
structure yl(ds:List Dl)(mk:List pb)(kvs:List (List Key×V))(n:Nat):Prop where
 il:∀k∈kvs.map (·.1),ud ds mk k
 len:kvs.length<=n
def yl.put{g:List Dl}{mk:List pb}{kvs:List (List Key×V)}{n:Nat}{k:List Key}{v:V}(h:yl g mk kvs n)(i:ud g mk k):yl g mk (Gb kvs k v) (n+1):=
 ⟨λj r=>(oC r).elim (h.il j) λe=>e▸i,gb pC (bp h.len)⟩
def vM{r:List (List Key)}(h:∀k∈r,∃q:Pr,k=xl q):Sn r:=by
 refine⟨λk g l J=>?_,λk g e=>?_⟩
 ·obtain⟨x,rfl⟩:=h k g;obtain⟨y,rfl⟩:=h l J;exact qx [x.1,x.2] [y.1,y.2]
 ·obtain⟨x,rfl⟩:=h k g;cases e
--@La
def wM(T:Tx K mg):T.Hw.Ok P w base 1 (mM K):=by
 refine Ua T.Hw.F λH _ _ _ _ h=>?_
 ·obtain⟨p,ms,n,rfl,U,q⟩:=h;refine⟨_,(pa (Ma 2 la)
   (pa (Jb Db rfl (Za (pv 0)) (bb 3)
   (pa (qc (xb Od (pv 3) (pv 1) (Bb _))
   (ma (Ga (pv 2)))
   pc)
   (ma (Ma 2 (pv 3)))))
   (ma (Ga (zp Cp la))))),?_⟩
  show let b0:TS:=_;let c0:TS:=_;let d0:TS:=qa (zc _ _ _) c0;let e0:TS:=qa (Qb _ _ d0) b0;qa _ e0 _ _ _
  intros;refine⟨_,rfl,p,rfl,⟨_,U⟩,nc (K:=K) (a:=p) (xs:=ms.map V.int) (λi r J=>J=H/\∃(f:Int)(O:Option V),r=[qN (.ref p),qN (.int n),qN (.int f),O]/\Df n 0 ms=Df n f (ms.drop i)) (⟨rfl,nx4 0 sN rfl rfl⟩) (by rintro i r J _⟨e,_⟩;exact e▸U) ?_ ?_⟩
  ·rintro i y r J Y;refine eb3 ?_;rintro rfl f O rfl g;rw[lb]at Y;refine ea1 ?_ (Jd.mp Y);rintro m a0 rfl;have f0:ms.drop i=m::ms.drop (i+1):=by rw[pp (rb.mp a0).1,(rb.mp a0).2]
   rw[f0]at g;refine⟨_,rfl,_,rfl,rfl,_,rfl,jb (λe=>?_) (λe=>?_)⟩
   ·have em:m=n:=by have:=yd e;injection this
    have:Df n f (m::ms.drop (i+1))=qN f:=va em;rw[g,this]at q;exact⟨_,rfl,q⟩
   ·have em:m≠n:=λz=>e (Xb (by rw[z]))
    have:Df n f (m::ms.drop (i+1))=Df n m (ms.drop (i+1)):=na em;exact⟨_,rfl,rfl,m,_,rfl,g.trans this⟩
  ·rintro r J;refine eb3 ?_;rintro rfl f O rfl g;rw[ua,List.drop_length]at g;rw[g]at q;exact⟨2,rfl,q⟩
def uC(T:Tx K mg):T.Ct.Ok P w base 1 nM:=by
 refine Ua T.Ct.F λH _ _ _ x0 h=>?_
 ·revert h;refine ea0 ?_;rintro v g rfl y0 q;have z0:=kc x0;refine⟨_,(pa (Ma 1 Xu)
   (pa (Jb Db rfl (Za (pv 0)) (bb 2)
   (ma (Jb Db rfl (Za (pv 2)) (bb 3)
   (ma (dm z0 (pv 1) (pv 3) vg rfl)))))
   (ma (Ga (Cd (kJ rfl) (by rfl) T.Am tO (za 1)))))),?_⟩
  show let A0:TS:=_;let B0:TS:=qa (Qb _ _ (Qb _ _ _)) A0;qa _ B0 _ _ _
  intros;obtain⟨C0,hz⟩:=y0;refine ea0 ?_ (Sf C0);rintro l xs rfl n0 e0;have O0:(2000:Nat)<=vN:=by decide
  intro d o0;have p0:=aa.upd (o:=HO.dT []) o0;refine⟨_,rfl,l,rfl,⟨_,ca.of (p0 _ _ n0)⟩,nc (K:=K) (a:=l) (xs:=xs) (λi r b0=>aa H b0/\∃(i0 J:Option V)(kvs:List (List Key×V)),r=[qN (.ref l),qN (.ref d),i0,J]/\b0 d=qN (.dT kvs)/\Fq g kvs (g.take i).flatten.length) (⟨p0,nx16 sN sN ([]) rfl ia ⟨.nil,(λk h=>by cases h),wa _⟩⟩) (by rintro i r b0 _⟨O,_⟩;exact ca.of (O _ _ n0)) ?_ ?_⟩
  ·rintro i y r b0 Y;refine ebG ?_;rintro O i0 J kvs rfl j0 U;refine ea1 ?_ (Fi e0 Y);rintro lk q0 D0;refine ea0 ?_ (Sf D0);rintro b k0 rfl f0 r0;have s0:(g.take (i+1)).flatten=(g.take i).flatten++lk:=by
    rw[gc,q0,dr];show _++[lk].flatten=_;simp
   have P0:(g.take i).flatten.length+lk.length<=120:=by
    rw[<-Ya,<-s0];refine gb ?_ hz;conv=>rhs;rw[<-Ng (i+1) g,dr,Ya]
    exact Nat.le_add_right _ _
   have F0:k0.length=lk.length:=by rw[r0.len,ua]
   refine⟨_,rfl,b,rfl,⟨_,ca.of (O _ _ f0)⟩,nc (K:=K) (a:=b) (xs:=k0) (λj r c0=>aa H c0/\∃(J:Option V)(kvs:List (List Key×V)),r=[qN (.ref l),qN (.ref d),qN (.ref b),J]/\c0 d=qN (.dT kvs)/\Fq g kvs ((g.take i).flatten.length+j)) (⟨O,nx0 J kvs rfl j0 U⟩) (by rintro j r c0 _⟨a0,_⟩;exact ca.of (a0 _ _ f0)) ?_ ?_⟩
   ·rintro j y r c0 Y;refine eb7 ?_;rintro a0 J t0 rfl l0 d0;have g0:j<k0.length:=(rb.mp Y).1;refine ea1 ?_ (Fi r0 Y);rintro G0 I0 tp;refine ea1 ?_ (Nt tp);rintro c rfl J0;have Q0:=d0.len;refine⟨_,rfl,_,rfl,d,_,rfl,eg.t (k:=xl G0) l0 (a0 _ _ J0) (by lia),?_⟩;exact⟨λb o e=>by rw[ja (λz=>by rw[z,o0]at e;cases e)];exact a0 _ _ e,nx0 _ _ rfl ia (d0.put (List.mem_flatten.mpr ⟨lk,Xa q0,Xa I0⟩))⟩
   ·rintro r c0;refine eb7 ?_;rintro a0 J t0 rfl l0 d0;rw[F0,<-Ya,<-s0]at d0;exact⟨a0,nx16 _ J t0 rfl l0 d0⟩
  ·rintro r b0;refine ebG ?_;rintro O i0 J kvs rfl j0 U;have K0:xs.length=g.length:=by rw[e0.len,ua]
   rw[K0,vc]at U;have u0:∀k∈kvs.map (·.1),∃q:Pr,k=xl q:=λk L0=>let⟨q,_,e⟩:=U.mem k L0;⟨q,e⟩
   refine⟨_,rfl,d,kvs,rfl,.inl j0,vM u0,λp ys js v0 tp h0=>?_⟩;have w0:=aa.upd (o:=HO.lst ys) v0;have m0:∀j∈js,∃q,j=xl q:=λj g0=>u0 j (h0.mem_iff.mp g0)
   refine q p ys (js.map Bx) _ (O.free v0) (O.trans w0) ia (tM (Bc.kf (KF.of w0) tp) m0) ?_ (λx e0=>?_) ?_
   ·have M0:js.Nodup:=h0.nodup_iff.mpr U.nd;refine Gd.mpr (M0.imp_of_mem λ{a b}N0 f0 n e=>n ?_);obtain⟨x,rfl⟩:=m0 a N0;obtain⟨y,rfl⟩:=m0 b f0;rw[qC,qC]at e;rw[e]
   ·obtain⟨j,g0,rfl⟩:=Sa.mp e0;obtain⟨y,Y,rfl⟩:=U.mem j (h0.mem_iff.mp g0);exact Y
   ·rw[ua,h0.length_eq,ua];exact gb U.len hz
def xM(T:Tx K mg):T.Iw.Ok P w base 2 oM:=by
 refine Ua T.Iw.F λ{_ _ _ s}H _ _ _ D0 h=>?_
 ·obtain⟨n,v,m,g1,r0,mk,rfl,h1,i1,j1,q⟩:=h;have L0:=kc D0;refine⟨_,(pa (Ma 3 Xu)
   (pa (Ma 4 (fb T.Ct (uC T) D0 (za 1)))
   (pa (Jb Db rfl (Za (pv 4)) (Jf rfl (Ub (bb 5) (Ub (bb 6) ve)))
   (pa (qc (xb Od (pv 6) (zp Cp la) (Bb _))
   (ma (dm L0 (pv 3) (Rb (ka Ib (ka (pv 0) (za 5)))) vg rfl))
   pc)
   (ma (qc (xb sr (Cd Yf (by rfl) T.Cf mf (Ca (Ud ["_law_pair"] ["_law_key"] [5] (Za (pv 4)) (bc 0) (Mf (xb Od (Ja (ie (K:=K) rfl) (pv 0) la) (pv 1) (Bb _))) (pv 0)))) la (Bb _))
   (ma (dm L0 (pv 3) (Rb (ka Ib (ka (pv 0) (za 5)))) vg rfl))
   pc))))
   (pa (Jb Db rfl (Za (pv 2)) (Jf rfl (Ub (bb 5) (Ub (bb 7) ve)))
   (pa (Ma 8 (fb T.Hw (wM T) D0 (ka (pv 7) (za 0))))
   (pa (jj 9 ["_law_pair"] (by show(Oe _).Nodup;decide+kernel) ["_law_key","_law_right_here"] [5,8] (Za (pv 4)) (bc 0) (Mf (PW.pt (wu (xb Od (Ja (ie (K:=K) rfl) (pv 0) la) (pv 1) (Bb _)) (vu (xb Sk (Ja (ie (K:=K) rfl) (pv 0) la) (pv 2) (Bb _)))))) (pv 0))
   (ma (qc (PW.pt (wu (xb GD (pv 8) la (Bb _)) (vu (xb (xG D0.units) (pv 9) (jc Oc) (Bb _)))))
   (ma (dm L0 (pv 3) (Rb (ka Ib (ka (pv 0) (ka (pv 8) (za 5))))) vg rfl))
   pc)))))
   (ma (Ga (aj (VH rfl) (by rfl) T.RA boot_list (za 3)))))))),?_⟩
  show let k1:TS:=_;let l1:TS:=zc _ _ _;let m1:TS:=qa _ l1;let n1:TS:=qa _ m1;let o1:TS:=qa (Qb _ _ n1) k1;let p1:TS:=zc _ _ _;let r1:TS:=qa (zc _ _ _) p1;let s1:TS:=qa (Qb _ _ r1) o1;let t1:TS:=qa _ s1;qa _ t1 _ _ _
  intros;have L1:(2000:Nat)<=vN:=by decide
  intro d U0;have V0:=aa.upd (o:=HO.dT []) U0;refine⟨_,rfl,v,g1,rfl,h1.same V0,λj0 ys js f0 M1 W0 b0 y0 X0 u1 N1=>?_⟩;have s0:∀q∈js,Mb r0 n q.1 q.2:=λq v1=>j1 q (u1 q v1)
  have w1:ys.length=js.length:=Ta y0;have M0:f0 d=qN (.dT []):=W0 _ _ ia;have x1:aa H f0:=V0.trans W0;have p0:j0≠d:=λz=>by rw[z,M0]at b0;cases b0
  have t0:∀{U:Hp},(∀b o,b≠d->f0 b=qN o->U b=qN o)->aa H U:=λ{U}k b o e=>k b o (λz=>by rw[z,U0]at e;cases e) (x1 _ _ e)
  have F0:∀{U:Hp},(∀b o,b≠d->f0 b=qN o->U b=qN o)->Paired (sb U) ys js:=λ{U}k=>Paired.imp' (by rintro _ _⟨p,e,u0⟩;exact⟨p,e,k p _ (λz=>by rw[z,M0]at u0;cases u0) u0⟩) y0
  refine⟨_,rfl,j0,rfl,⟨_,ca.of b0⟩,nc (K:=K) (a:=j0) (xs:=ys) (λi g0 U=>(∀b o,b≠d->f0 b=qN o->U b=qN o)/\∃(k0 l0:Option V)(kvs:List (List Key×V)),g0=[qN (.int n),qN v,qN (.ref m),qN (.ref d),qN (.ref j0),k0,l0,sN,sN,sN]/\U d=qN (.dT kvs)/\yl r0 mk kvs (2*i)) (⟨(λb o _ e=>e),nx16 sN sN ([]) rfl M0 ⟨(λk h=>by cases h),wa _⟩⟩) (by rintro i g0 U _⟨kp,_⟩;exact ca.of (kp _ _ p0 b0)) ?_ ?_⟩
  ·rintro i y g0 U z0;refine ebG ?_;rintro kp k0 l0 kvs rfl G0 c0;have y1:i<ys.length:=(rb.mp z0).1;have z1:=c0.len;refine eb6 ?_ (Lb (F0 kp) z0);rintro g A1 c rfl N0;refine nx9 c _ rfl (oa.of N0) rfl _ _ rfl _ _ rfl rfl ?_;refine⟨_,rfl,_,rfl,rfl,_,rfl,jb (λy=>?_) (λy=>?_)⟩
   ·have B1:g.2=-1:=by
     have:V.int g.2=V.int (-1):=yd y;injection this
    refine⟨_,rfl,_,rfl,_,rfl,Ec,λt q0=>?_⟩;have st:=aa.upd (o:=HO.tup [.str "unkept",.int n,.int g.1]) q0;refine⟨d,_,rfl,eg.t (k:=ik n g.1) (st _ _ G0) ia (by lia),?_⟩;have O:∀b o,b≠d->f0 b=qN o->upd (upd U t (.tup [.str "unkept",.int n,.int g.1])) d (.dT (Gb kvs (ik n g.1) (.bl wN))) b=qN o:=λb o J e=>by rw[ja J];exact st _ _ (kp b o J e)
    have A0:=ia (H:=upd U t (.tup [.str "unkept",.int n,.int g.1])) (a:=d) (o:=HO.dT (Gb kvs (ik n g.1) (.bl wN)));have Y:yl r0 mk (Gb kvs (ik n g.1) (V.bl wN)) (2*i+1):=c0.put (.mj (B1▸s0 _ (Xa A1)));generalize Gb kvs (ik n g.1) (V.bl wN)=a0 at*;generalize upd (upd U t (.tup [.str "unkept",.int n,.int g.1])) d (.dT a0)=v0 at*;refine⟨_,rfl,j0,rfl,⟨_,ca.of (O _ _ p0 b0)⟩,Fx (fs:=[qN (.int g.1)]) (λr=>decide (V.int r.1=V.int g.1)) rfl (O _ _ p0 b0) (F0 O) (by lia) (λa q R H w0 m0=>⟨_,rfl,a,_,_,_,rfl,rfl,oa.of w0,qb (j:=0) rfl,_,rfl,rfl,_,rfl,m0⟩) λD I0 c0 d0 B0=>nx0 _ _ rfl (.inl ⟨_,ca.of B0,rfl⟩) ⟨_,_,rfl,rfl,_,rfl,?_⟩⟩;rw[Dx y0,show(λr:Pr=>decide (V.int r.1=V.int g.1))=λr=>decide (r.1=g.1)from funext λr=>cu _ _];have h0:=d0 _ _ A0;have x0:=(Y).len;refine jb (λn0=>?_) (λn0=>?_)
    ·have o0:1<(js.filter λr=>decide (r.1=g.1)).length:=by
      have:(1:Int)<(((js.filter λr=>decide (r.1=g.1)).length:Nat):Int):=yd n0;lia
     refine ea0 ?_ (sC X0 g.1 o0);rintro s s' O0 P0 C0;refine⟨_,rfl,_,rfl,_,rfl,Ec,λt q0=>?_⟩;have st:=aa.upd (o:=HO.tup [.str "midway",.int n,.int g.1]) q0;exact⟨d,_,rfl,eg.t (k:=yo n g.1) (st _ _ h0) ia (by lia),(λb o J e=>by rw[ja J];exact st _ _ (d0 _ _ (O b o J e))),_,_,_,rfl,ia,(Y).put (.mid (s0 (g.1,s) O0) (s0 (g.1,s') P0) C0)⟩
    ·exact⟨(λb o J e=>d0 _ _ (O b o J e)),nx16 _ _ a0 rfl h0 ⟨(Y).il,zl x0⟩⟩
   ·have Y:yl r0 mk kvs (2*i+1):=⟨c0.il,zl z1⟩;refine⟨_,rfl,j0,rfl,⟨_,ca.of (kp _ _ p0 b0)⟩,Fx (fs:=[qN (.int g.1)]) (λr=>decide (V.int r.1=V.int g.1)) rfl (kp _ _ p0 b0) (F0 kp) (by lia) (λa q R H w0 m0=>⟨_,rfl,a,_,_,_,rfl,rfl,oa.of w0,qb (j:=0) rfl,_,rfl,rfl,_,rfl,m0⟩) λD I0 c0 d0 B0=>nx0 _ _ rfl (.inl ⟨_,ca.of B0,rfl⟩) ⟨_,_,rfl,rfl,_,rfl,?_⟩⟩;rw[Dx y0,show(λr:Pr=>decide (V.int r.1=V.int g.1))=λr=>decide (r.1=g.1)from funext λr=>cu _ _];have h0:=d0 _ _ G0;have x0:=(Y).len;refine jb (λn0=>?_) (λn0=>?_)
    ·have o0:1<(js.filter λr=>decide (r.1=g.1)).length:=by
      have:(1:Int)<(((js.filter λr=>decide (r.1=g.1)).length:Nat):Int):=yd n0;lia
     refine ea0 ?_ (sC X0 g.1 o0);rintro s s' O0 P0 C0;refine⟨_,rfl,_,rfl,_,rfl,Ec,λt q0=>?_⟩;have st:=aa.upd (o:=HO.tup [.str "midway",.int n,.int g.1]) q0;exact⟨d,_,rfl,eg.t (k:=yo n g.1) (st _ _ h0) ia (by lia),(λb o J e=>by rw[ja J];exact st _ _ (d0 _ _ (kp b o J e))),_,_,_,rfl,ia,(Y).put (.mid (s0 (g.1,s) O0) (s0 (g.1,s') P0) C0)⟩
    ·exact⟨(λb o J e=>d0 _ _ (kp b o J e)),nx16 _ _ kvs rfl h0 ⟨(Y).il,zl x0⟩⟩
  rintro g0 U;refine ebG ?_;rintro kp k0 l0 kvs rfl G0 c0;rw[w1]at c0;have O1:=c0.len;obtain⟨⟨C1,_,P1⟩,Q1⟩:=i1;refine ea0 ?_ (Sf C1);rintro R1 xs e Y0 Z0;cases e;have S1:xs.length=mk.length:=by rw[Z0.len,ua]
  refine⟨_,rfl,m,rfl,⟨_,ca.of (t0 kp _ _ Y0)⟩,nc (K:=K) (a:=m) (xs:=xs) (λi g0 v0=>(∀b o,b≠d->f0 b=qN o->v0 b=qN o)/\∃(k0 l0 Q0 R0 S0:Option V)(a0:List (List Key×V)),g0=[qN (.int n),qN v,qN (.ref m),qN (.ref d),qN (.ref j0),k0,l0,Q0,R0,S0]/\v0 d=qN (.dT a0)/\yl r0 mk a0 (240+i)) (⟨kp,nx21 k0 l0 sN sN sN kvs rfl G0 ⟨c0.il,by lia⟩⟩) (by rintro i g0 v0 _⟨O,_⟩;exact ca.of (t0 O _ _ Y0)) ?_ ?_⟩
  ·rintro i y g0 v0 z0;refine ea7 ?_;rintro O k0 l0;refine eaG ?_;rintro Q0 R0 S0 a0 rfl A0 Y;have y1:i<xs.length:=(rb.mp z0).1;have x0:=Y.len;refine ea1 ?_ (Fi Z0 z0);rintro e0 D1 tr;refine ea0 ?_ (Jm tr);rintro c l rfl N0 E1;have F1:=Xa D1;have G1:=t0 O _ _ E1;refine nx9 c _ rfl (oa.of (t0 O _ _ N0)) rfl _ _ rfl _ _ rfl rfl ⟨_,rfl,_,rfl,l,e0.2,n,rfl,ca.of G1,?_⟩;generalize J0:(Df n 0 e0.2).getD (-2)=i0;refine⟨_,rfl,j0,rfl,⟨_,ca.of (O _ _ p0 b0)⟩,Fx (fs:=[qN (.int e0.1),qN (.int i0)]) (λr=>decide (V.int r.1=V.int e0.1)&&!decide (V.int r.2=V.int i0)) rfl (O _ _ p0 b0) (F0 O) (by lia) (λa q R H w0 m0=>⟨_,rfl,a,_,_,_,rfl,rfl,oa.of w0,qb (j:=0) rfl,_,rfl,rfl,_,rfl,jb (λy=>⟨_,rfl,a,_,_,_,rfl,rfl,oa.of w0,qb (j:=1) rfl,_,rfl,rfl,_,rfl,?_⟩) (λy=>?_)⟩) λD I0 c0 d0 B0=>?_⟩
   ·have T0:decide (V.int q.1=V.int e0.1)=wN:=y;rw[T0,Bool.true_and]at m0;exact m0
   ·have T0:decide (V.int q.1=V.int e0.1)=yN:=Bool.eq_false_iff.mpr y;rw[T0,Bool.false_and]at m0;exact m0
   have a1:∀b o,b≠d->f0 b=qN o->I0 b=qN o:=λb o J e=>d0 _ _ (O b o J e)
   have h0:=d0 _ _ A0;have b1:yl r0 mk a0 (240+(i+1)):=⟨Y.il,zl x0⟩;refine⟨_,rfl,_,_,rfl,rfl,_,rfl,jb (λy=>?_) (λy=>yg (⟨a1,nx21 _ _ _ _ _ a0 rfl h0 b1⟩))⟩;have T1:(0:Int)<=i0:=yd y;have H1:Df n 0 e0.2=qN i0:=by
    cases e:Df n 0 e0.2 with
    |none=>rw[e]at J0;have:(-2:Int)=i0:=J0;lia
    |some I1=>rw[e]at J0;have:I1=i0:=J0;rw[this]
   refine⟨_,rfl,(by show 0<=vN;exact Va _),λe J1=>?_⟩;have K0:=aa.upd (o:=HO.lst []) J1;refine nx8 D e _ rfl rfl (ca.of (K0 _ _ B0)) (ca.of ia) ⟨_,rfl,?_⟩;have c1:∀b o,b≠d->f0 b=qN o->upd I0 e (.lst []) b=qN o:=λb o J x=>K0 _ _ (a1 b o J x)
   refine jb (λn0=>?_) (λn0=>⟨c1,nx21 _ _ _ _ _ a0 rfl (K0 _ _ h0) b1⟩);refine ea1 ?_ (uM y0 n0);rintro x K1 o0;rw[cu,cu,Vm,vk]at o0;have d1:=s0 x K1;rw[o0.1]at d1;have C0:x.2≠i0:=λz=>by rw[Xb z]at o0;cases o0.2
   refine⟨_,rfl,_,rfl,_,rfl,_,rfl,Ad,λt q0=>?_⟩;have st:=aa.upd (o:=HO.tup [.str "lost",.int n,.int i0,.int e0.1]) q0;exact⟨d,_,rfl,eg.t (k:=Wt n i0 e0.1) (st _ _ (K0 _ _ h0)) ia (by lia),(λb o J x=>by rw[ja J];exact st _ _ (c1 b o J x)),_,_,_,_,_,_,rfl,ia,Y.put (.re F1 H1 d1 C0)⟩
  ·rintro g0 v0;refine ea7 ?_;rintro O k0 l0;refine eaG ?_;rintro Q0 R0 S0 a0 rfl A0 Y;have x0:=Y.len;refine⟨_,rfl,d,a0,rfl,.inl A0,λp e1 u0 tp=>?_⟩;have f1:=aa.upd (o:=HO.lst e1) u0;exact q p e1 _ _ ((t0 O).free u0) ((t0 O).trans f1) ia (Bc.kf (KF.of f1) tp) Y.il (by rw[ua];lia)
--@La
def vC(T:Tx K mg):T.Et.Ok P w base 2 pM:=by
 refine Ua T.Et.F λ{_ _ _ s}H _ _ _ n0 h=>?_
 ·obtain⟨v,m,o,o0,mk,rfl,Q0,R0,q⟩:=h;have w1:=kc n0;refine⟨_,(pa (Ma 3 (jc Oc))
   (pa (Jb Db rfl (Za (fb T.Ct (uC T) n0 (za 0))) (Jf rfl (Ub (bb 4) (Ub (bb 5) ve)))
   (ma (Jb Db rfl (Za (pv 1)) (Jf rfl (Ub (bb 6) (Ub (bb 7) ve)))
   (ma (qc (PW.pt (wu (xb Od (pv 6) (pv 4) (Bb _)) (vu (xb cj (pv 2) (pv 7) rfl))))
   (pa (Ma 8 (eb fi (jc (Ca la)) (bi di (pv 7) Zh (ai (Xc jd Fo Iq (gs (qi n0.units) rfl) (pv 7) (za 2))))))
   (ma (qc (xb cj (pv 5) (pv 8) rfl)
   (ma (Nd (Xc jd ph vh Bh (pv 3) (za 4))))
   pc)))
   pc)))))
   (ma (Ga (pv 3))))),?_⟩
  show let S0:TS:=_;let T0:TS:=zc _ _ _;let U0:TS:=qa _ T0;let V0:TS:=qa (Qb _ _ (Qb _ _ (zc _ U0 _))) S0;qa _ V0 _ _ _
  intros;have x1:(3000:Nat)<=vN:=by decide
  refine⟨(by show 0<=vN;exact Va _),λp p0=>?_⟩;have y0:=aa.upd (o:=HO.lst []) p0;refine⟨_,rfl,v,o0,rfl,Q0.same y0,λq0 ys js f0 z0 A0 B0 C0 y1 W0 z1=>?_⟩;have A1:ys.length=js.length:=Ta C0;have D0:f0 p=qN (.lst []):=A0 _ _ ia;have X0:q0≠p:=λz=>by rw[z,ia]at z0;cases z0
  have Y0:aa H f0:=y0.trans A0;obtain⟨⟨Z0,_,a1⟩,B1⟩:=R0;refine ea0 ?_ (Sf Z0);rintro C1 xs e F0 G0;cases e;have D1:xs.length=mk.length:=by rw[G0.len,ua]
  have h0:∀{r:Hp},(∀b o,b≠p->f0 b=qN o->r b=qN o)->aa H r:=λ{r}k b o e=>k b o (λz=>by rw[z,p0]at e;cases e) (Y0 _ _ e)
  have b1:∀{r:Hp},(∀b o,b≠p->f0 b=qN o->r b=qN o)->Paired (sb r) ys js:=λ{r}k=>Paired.imp' (by rintro _ _⟨a,e,r0⟩;exact⟨a,e,k a _ (λz=>by rw[z,D0]at r0;cases r0) r0⟩) C0
  refine⟨q0,rfl,⟨_,ca.of B0⟩,nc (K:=K) (a:=q0) (xs:=ys) (λi U r=>(∀b o,b≠p->f0 b=qN o->r b=qN o)/\∃(s0 t0 Y a0 b0:Option V)(d0:List Int),U=[qN v,qN (.ref m),qN (.int o),qN (.ref p),s0,t0,Y,a0,b0]/\r p=qN (.lst (d0.map V.int))/\(∀k∈d0,∃ms s,(k,ms)∈mk/\o∈ms/\(k,s)∈o0.flatten/\(s=0\/s∈ms.take (ms.idxOf o)))/\d0.length<=4*i) (⟨(λb o _ e=>e),nx21 sN sN sN sN sN ([]) rfl D0 ⟨(λk h=>by cases h),wa _⟩⟩) (by rintro i U r _⟨kp,_⟩;exact ca.of (kp _ _ X0 B0)) ?_ ?_⟩
  ·rintro i y U r i0;refine eb5 ?_;rintro kp s0 t0 Y a0 b0 d0 rfl u0 v0 I0;have E1:i<ys.length:=(rb.mp i0).1;refine eb6 ?_ (Lb (b1 kp) i0);rintro c0 c1 c rfl d1;have e1:=W0 c0 (Xa c1);refine nx9 c _ rfl (oa.of d1) rfl _ _ rfl _ _ rfl rfl ?_;refine⟨_,rfl,m,rfl,⟨_,ca.of (h0 kp _ _ F0)⟩,nc (K:=K) (a:=m) (xs:=xs) (λj U e0=>(∀b o,b≠p->f0 b=qN o->e0 b=qN o)/\∃(Y a0 b0:Option V)(J:List Int),U=[qN v,qN (.ref m),qN (.int o),qN (.ref p),qN (.int c0.1),qN (.int c0.2),Y,a0,b0]/\e0 p=qN (.lst (J.map V.int))/\(∀k∈J,∃ms s,(k,ms)∈mk/\o∈ms/\(k,s)∈o0.flatten/\(s=0\/s∈ms.take (ms.idxOf o)))/\J.length<=4*i+j) (⟨kp,nx18 Y a0 b0 d0 rfl u0 v0 I0⟩) (by rintro j U e0 _⟨O,_⟩;exact ca.of (h0 O _ _ F0)) ?_ ?_⟩
   ·rintro j y U e0 i0;refine ec2 ?_;rintro O Y a0 b0 J rfl j0 g0 f1;have F1:j<xs.length:=(rb.mp i0).1;refine ea1 ?_ (Fi G0 i0);rintro g g1 tr;have J0:=Xa g1;refine ea0 ?_ (Jm tr);rintro h1 l rfl i1 j1;have k1:=a1 g J0;have k0:=h0 O _ _ j1;refine nx9 h1 _ rfl (oa.of (h0 O _ _ i1)) rfl _ _ rfl _ _ rfl rfl ?_;refine⟨_,rfl,_,rfl,rfl,_,rfl,jb (λK0=>?_) (λK0=>yg (⟨O,nx18 _ _ _ J rfl j0 g0 (by lia)⟩))⟩;have l1:g.1=c0.1:=by
     have:V.int g.1=V.int c0.1:=yd K0;injection this
    refine⟨_,rfl,_,rfl,l,_,rfl,.inl (ca.of k0),rfl,im _,_,rfl,?_⟩;rw[Yk];refine jb (λL0=>?_) (λL0=>⟨O,nx18 _ _ _ J rfl j0 g0 (by lia)⟩);have M0:o∈g.2:=by simpa using L0
    refine⟨Xd,λq1 m1=>?_⟩;have l0:=aa.upd (o:=HO.lst [.int 0]) m1;refine⟨_,rfl,_,rfl,.inl ⟨rfl,_,ca.of (l0 _ _ k0)⟩,_,rfl,l,g.2,o,rfl,rfl,ca.of (l0 _ _ k0),k1,M0,_,rfl,l,_,rfl,ca.of (l0 _ _ k0),λq2 n1=>?_⟩;rw[Dr,<-List.map_take];have N0:=aa.upd (o:=HO.lst ((g.2.take (g.2.idxOf o)).map V.int)) n1;have G1:=List.length_take_le' (g.2.idxOf o) g.2;refine⟨q1,q2,_,_,rfl,rfl,N0 _ _ ia,ia,(by rw[ua];show 1+_<=vN;lia),λq3 o1=>?_⟩;have p1:=aa.upd (o:=HO.lst ([.int 0]++(g.2.take (g.2.idxOf o)).map V.int)) o1;have r1:[V.int 0]++(g.2.take (g.2.idxOf o)).map V.int=(0::g.2.take (g.2.idxOf o)).map V.int:=rfl;have w0:=(l0.trans N0).trans p1;have O0:=ia (H:=upd (upd e0 q1 (.lst [.int 0])) q2 (.lst ((g.2.take (g.2.idxOf o)).map V.int))) (a:=q3) (o:=HO.lst ([.int 0]++(g.2.take (g.2.idxOf o)).map V.int));generalize upd (upd (upd e0 q1 (.lst [.int 0])) q2 (.lst ((g.2.take (g.2.idxOf o)).map V.int))) q3 (.lst ([.int 0]++(g.2.take (g.2.idxOf o)).map V.int))=H1 at*;rw[r1]at O0;have x0:=w0 _ _ j0;refine⟨_,rfl,_,rfl,q3,_,rfl,.inl (ca.of O0),rfl,im _,_,rfl,?_⟩;rw[Yk];refine jb (λP0=>?_) (λP0=>⟨(λb o m0 e=>w0 _ _ (O b o m0 e)),nx18 _ _ _ J rfl x0 g0 (by lia)⟩);have s1:c0.2∈0::g.2.take (g.2.idxOf o):=by simpa using P0
    refine⟨_,rfl,.inl ⟨rfl,_,ca.of x0⟩,_,rfl,p,_,_,rfl,rfl,x0,(by rw[ua];lia),λI1 t1 u1=>?_⟩;refine⟨(λb o m0 e=>u1 b o m0 (w0 _ _ (O b o m0 e))),nx18 _ _ _ (J++[c0.1]) rfl (by rw[Qd];exact t1) (λk v1=>?_) (by rw[Ya,uj];lia)⟩;rcases fc.mp v1 with z|z
    ·exact g0 k z
    ·rw[cc.mp z];exact nx6 g.2 c0.2 (l1▸J0) M0 e1 (rc.mp s1)
   ·rintro U e0;refine ec2 ?_;rintro O Y a0 b0 J rfl j0 g0 f1;exact⟨O,nx21 _ _ _ _ _ J rfl j0 ⟨g0,by lia⟩⟩
  ·rintro U r;refine eb5 ?_;rintro kp s0 t0 Y a0 b0 d0 rfl u0 v0 I0;exact⟨_,rfl,q p d0 r p0 (h0 kp) u0 v0 (by lia)⟩
def yM(T:Tx K mg):T.Jw.Ok P w base 3 qM:=by
 refine Ua T.Jw.F λH _ _ _ p0 h=>?_
 ·obtain⟨L1,M1,m,d,e,F0,mk,rfl,W0,X0,Y0,Z0,a1,b1,c1,G0,q⟩:=h;have N1:=kc p0;refine⟨_,(pa (Ma 3 (jc Oc))
   (pa (Jb Db rfl (Za (fb T.Et (vC T) p0 (ka (Ja zb (pv 0) la) (ka (pv 2) (Ca (Ja zb (pv 1) la)))))) (bb 4)
   (ma (Jb Db rfl (Za (fb T.Et (vC T) p0 (ka (Ja zb (pv 1) la) (ka (pv 2) (Ca (Ja zb (pv 0) la)))))) (bb 5)
   (ma (qc (xb Sk (pv 4) (pv 5) (Bb _))
   (ma (Nd (Xc jd ph vh Bh (pv 3) (Ca (Rb (ka Ib (ka (Ja zb (pv 0) la) (ka (Ja zb (pv 1) la) (ka (pv 4) (za 5))))))))))
   pc)))))
   (ma (Ga (bi di (Cd cw (by rfl) T.Am tO (za 3)) Zh (ai la)))))),?_⟩
  show let d1:TS:=_;let e1:TS:=qa (Qb _ _ (Qb _ _ (zc _ _ _))) d1;qa _ e1 _ _ _
  intros;have O1:(1000000:Nat)<=vN:=by decide
  refine ea5 ?_ (hf W0);rintro g0 I0 P1 rfl q0 f1 g1;refine ea5 ?_ (hf X0);rintro h0 J0 Q1 rfl r0 h1 i1;refine⟨(by show 0<=vN;exact Va _),λp s0=>?_⟩;have i0:=aa.upd (o:=HO.lst []) s0;have j1:sk H (.ref I0) d.2.2:=⟨.lst f1 g1,b1⟩;have L2:sk H (.ref J0) e.2.2:=⟨.lst h1 i1,c1⟩;refine⟨_,rfl,g0,_,_,_,rfl,rfl,oa.of (i0 _ _ q0),qb (j:=2) rfl,_,rfl,_,rfl,h0,_,_,_,rfl,rfl,oa.of (i0 _ _ r0),qb (j:=0) rfl,.ref I0,m,e.1,d.2.2,mk,rfl,j1.same i0,G0.same i0,λt0 K0 j0 L0 M0 N0 k1 R1=>?_⟩;have l1:j0 p=qN (.lst []):=M0 _ _ ia;have m1:t0≠p:=λz=>by rw[z,ia]at L0;cases L0
  have n1:aa H j0:=i0.trans M0;have u0:∀{g:Hp},(∀b o,b≠p->j0 b=qN o->g b=qN o)->aa H g:=λ{g}k b o e=>k b o (λz=>by rw[z,s0]at e;cases e) (n1 _ _ e)
  refine⟨t0,rfl,⟨_,ca.of N0⟩,nc (K:=K) (a:=t0) (xs:=K0.map V.int) (λi r g=>(∀b o,b≠p->j0 b=qN o->g b=qN o)/\∃(v0 O:Option V)(ys:List V)(fs:List (List Key)),r=[qN (.ref g0),qN (.ref h0),qN (.ref m),qN (.ref p),v0,O]/\g p=qN (.lst ys)/\Paired (ic g) ys fs/\(∀j∈fs,ud F0 mk j)/\fs.length<=480*i) (⟨(λb o _ e=>e),nx3 sN sN ([]) ([]) rfl l1 (.nil) (λj h=>by cases h) (wa _)⟩) (by rintro i r g _⟨kp,_⟩;exact ca.of (kp _ _ m1 N0)) ?_ ?_⟩
  ·rintro i y r g Y;refine eaF ?_;rintro kp v0 O ys fs rfl m0 w0 n0 O0;have o1:i<(K0.map V.int).length:=(rb.mp Y).1;rw[ua]at o1;rw[lb]at Y;refine ea1 ?_ (Jd.mp Y);rintro k p1 rfl;have J:=u0 kp;refine⟨_,rfl,h0,_,_,_,rfl,rfl,oa.of (J _ _ r0),qb (j:=2) rfl,_,rfl,_,rfl,g0,_,_,_,rfl,rfl,oa.of (J _ _ q0),qb (j:=0) rfl,.ref J0,m,d.1,e.2.2,mk,rfl,L2.same J,G0.same J,λx0 ls P0 Q0 y0 R0 r1 S1=>?_⟩;have s1:=y0 _ _ m0;have t1:x0≠p:=λz=>by rw[z,m0]at Q0;cases Q0
   have S0:∀b o,b≠p->j0 b=qN o->P0 b=qN o:=λb o a0 x=>y0 _ _ (kp b o a0 x)
   refine⟨x0,rfl,⟨_,ca.of R0⟩,nc (K:=K) (a:=x0) (xs:=ls.map V.int) (λj r b0=>(∀b o,b≠p->P0 b=qN o->b0 b=qN o)/\∃(O:Option V)(c0:List V)(U:List (List Key)),r=[qN (.ref g0),qN (.ref h0),qN (.ref m),qN (.ref p),qN (.int k),O]/\b0 p=qN (.lst c0)/\Paired (ic b0) c0 U/\(∀x∈U,ud F0 mk x)/\U.length<=480*i+j) (⟨(λb o _ e=>e),nx8 O ys fs rfl s1 (Bc.kf (KF.of y0) w0) n0 O0⟩) (by rintro j r b0 _⟨d0,_⟩;exact ca.of (d0 _ _ t1 R0)) ?_ ?_⟩
   ·rintro j y r b0 Y;refine ec6 ?_;rintro d0 O c0 U rfl e0 k0 o0 T0;have z0:j<(ls.map V.int).length:=(rb.mp Y).1;rw[ua]at z0;rw[lb]at Y;refine ea1 ?_ (Jd.mp Y);rintro l u1 rfl;have T1:=Ta k0;have U0:aa H b0:=λb o x=>d0 b o (λz=>by rw[z,s0]at x;cases x) (u0 S0 _ _ x)
    refine⟨_,rfl,_,rfl,rfl,_,rfl,jb (λy=>?_) (λy=>⟨d0,nx8 _ c0 U rfl e0 k0 o0 (by lia)⟩)⟩;refine⟨_,rfl,.inl ⟨rfl,_,ca.of e0⟩,_,rfl,g0,_,_,_,rfl,rfl,oa.of (U0 _ _ q0),qb (j:=0) rfl,_,rfl,h0,_,_,_,rfl,rfl,oa.of (U0 _ _ r0),qb (j:=0) rfl,_,rfl,_,rfl,pf,λt A0=>?_⟩;have st:=aa.upd (o:=HO.tup [.str "skewed",.int d.1,.int e.1,.int k,.int l]) A0;have pt:t≠p:=λz=>by rw[z,e0]at A0;cases A0
    refine⟨p,c0,_,rfl,rfl,st _ _ e0,(by lia),λU1 v1 B0=>?_⟩;refine⟨(λb o a0 x=>B0 b o a0 (st _ _ (d0 b o a0 x))),nx8 _ _ (U++[Xt d.1 e.1 k l]) rfl v1 (wx (xx (st _ _ e0) B0 (Bc.kf (KF.of st) k0)) ⟨t,rfl,B0 t _ pt ia⟩) (λx w1=>?_) (by rw[Ya,uj];lia)⟩;rcases fc.mp w1 with z|z
    ·exact o0 x z
    ·rw[cc.mp z];refine eaC ?_ (k1 k (Xa p1));rintro ms x1 y1 z1 A1 B1;refine eaC ?_ (r1 l (Xa u1));rintro ns t C1 D1 E1 F1;exact .ge a1 ⟨ms,x1,y1,z1,⟨d,Y0,rfl,A1⟩,B1⟩ ⟨ns,t,C1,D1,⟨e,Z0,rfl,E1⟩,F1⟩
   ·rintro r b0;refine ec6 ?_;rintro d0 O c0 U rfl e0 k0 o0 T0;rw[ua]at T0;exact⟨(λb o a0 x=>d0 b o a0 (S0 b o a0 x)),nx3 _ _ c0 U rfl e0 k0 o0 (by lia)⟩
  ·rintro r g;refine eaF ?_;rintro kp v0 O ys fs rfl m0 w0 n0 O0;have J:=u0 kp;refine⟨_,rfl,p,ys,fs,rfl,ca.of m0,w0,rx n0,λG1 f0 js H1 tp I1=>⟨1,rfl,G1,f0,rfl,ca.of ia,λV0 C0=>?_⟩⟩;have l0:=aa.upd (o:=HO.lst f0) H1;have D0:=aa.upd (o:=HO.lst (f0.take 1)) C0;have J1:ag f0 sN (qN 1)=f0.take 1:=Dr f0 1;rw[J1];have K1:=Bc.kf (KF.of (l0.trans D0)) tp;cases K1 with
   |nil=>exact q V0 [] [] _ ((J.trans l0).free C0) ((J.trans l0).trans D0) ia .nil (λ_ h=>by cases h) (Va _)
   |cons a b=>exact q V0 [_] [_] _ ((J.trans l0).free C0) ((J.trans l0).trans D0) ia (.cons a .nil) (λj z0=>n0 j (I1.mem_iff.mp (cc.mp z0▸.head _))) (wa _)
def zM(T:Tx K mg):T.Kw.Ok P w base 4 rM:=by
 refine Ua T.Kw.F λH _ _ _ p0 h=>?_
 ·obtain⟨v,m,g,mk,rfl,Y0,J1,Z0,hz,G0,q⟩:=h;have K1:=kc p0;refine⟨_,(pa (Ma 2 (jc Oc))
   (pa (Jb Db rfl (Yl rfl T.zm (Ca (Cd Yf (by rfl) T.Cf mf (za 0)))) (bb 3)
   (pa (Ma 2 (eb fi (pv 2) (fb T.Iw (xM T) p0 (ka (Ja zb (Ja ci (pv 0) (pv 3)) la) (ka (Ja zb (Ja ci (pv 0) (pv 3)) la) (za 1))))))
   (ma (Jb Db rfl (Za (bi di (pv 0) (ai (eb wg (pv 3) la)) Zh)) (bb 4)
   (ma (Ma 2 (eb fi (pv 2) (fb T.Jw (yM T) p0 (ka (Ja ci (pv 0) (pv 3)) (ka (pv 4) (za 1)))))))))))
   (ma (Ga (Cd cw (by rfl) T.Am tO (za 2)))))),?_⟩
  show let a1:TS:=_;let b1:TS:=Qb _ _ _;let c1:TS:=qa _ b1;let d1:TS:=qa (Qb _ _ c1) a1;qa _ d1 _ _ _
  intros;have L1:(1000000:Nat)<=vN:=by decide
  refine ea0 ?_ (Sf Y0);rintro c0 xs rfl d0 q0;have M1:xs.length=g.length:=by rw[q0.len,ua]
  refine⟨(by show 0<=vN;exact Va _),λp e1=>?_⟩;have I0:=aa.upd (o:=HO.lst []) e1;refine⟨_,rfl,_,_,rfl,.inl ⟨_,ca.of (I0 _ _ d0),rfl⟩,_,rfl,(by simp_all),(by lia),rr (n:=((xs.length:Nat):Int).toNat) (λi O e0=>aa H e0/\∃(J:uN)(r0 Y:Option V)(ys:List V)(js:List (List Key)),O=[qN (.ref c0),qN (.ref m),qN (.ref J),r0,Y]/\e0 J=qN (.lst ys)/\Paired (ic e0) ys js/\(∀j∈js,ud g mk j)/\js.length<=300*i) (⟨I0,nx13 p sN sN ([]) ([]) rfl ia (.nil) (λj h=>by cases h) (wa _)⟩) ?_ ?_⟩
  ·rintro i O e0 N1;refine eaH ?_;rintro r J r0 Y ys js rfl s0 g0 h0 f1;have g1:i<xs.length:=by lia
   obtain⟨J0,i0⟩:∃J0,xs[i]?=qN J0:=⟨_,Wb g1⟩;refine ea1 ?_ (Fi q0 i0);rintro d K0 L0;refine ea5 ?_ (hf L0);rintro a l O1 rfl M0 h1 i1;have j0:d∈g:=Xa K0;have j1:sk H (.ref l) d.2.2:=⟨.lst h1 i1,hz d j0⟩;have P1:=Ta g0;refine⟨_,rfl,_,rfl,_,rfl,c0,_,_,.ref a,rfl,rfl,ca.of (r _ _ d0),Dq i0,a,_,_,_,rfl,rfl,oa.of (r _ _ M0),qb (j:=0) rfl,_,rfl,_,rfl,c0,_,_,.ref a,rfl,rfl,ca.of (r _ _ d0),Dq i0,a,_,_,_,rfl,rfl,oa.of (r _ _ M0),qb (j:=2) rfl,_,rfl,d.1,.ref l,m,d.2.2,g,mk,rfl,j1.same r,G0.same r,(λq k1=>⟨d,j0,rfl,k1⟩),λl1 U t0 N0 Q1 u0 m1 O0 n1 R1=>?_⟩;have S1:=Ta O0;refine⟨J,l1,ys,U,rfl,rfl,u0 _ _ s0,m1,(by lia),λv0 o1=>?_⟩;have w0:=aa.upd (o:=HO.lst (ys++U)) o1;have p1:=zx (Bc.kf (KF.of (u0.trans w0)) g0) (Bc.kf (KF.of w0) O0);have x0:=r.trans (u0.trans w0);have r1:=ia (H:=N0) (a:=v0) (o:=HO.lst (ys++U));have s1:∀j∈js++t0,ud g mk j:=λj a0=>(fc.mp a0).elim (h0 j) (n1 j)
   have t1:(js++t0).length<=300*i+244:=by rw[Ya];lia
   generalize upd N0 v0 (.lst (ys++U))=u1 at*;generalize ys++U=v1 at*;generalize js++t0=w1 at*;refine⟨_,rfl,_,rfl,_,_,rfl,rfl,_,rfl,c0,xs,rfl,ca.of (x0 _ _ d0),λsp x1=>?_⟩;have y1:ag xs (qN (0+(i:Int)+1)) sN=xs.drop (i+1):=by
    rw[show(0:Int)+(i:Int)+1=((i+1:Nat):Int)by simp_all];exact rC xs (i+1)
   rw[y1];have y0:=aa.upd (o:=HO.lst (xs.drop (i+1))) x1;refine⟨sp,rfl,⟨_,ca.of ia⟩,nc (K:=K) (a:=sp) (xs:=xs.drop (i+1)) (λj O b0=>aa u1 b0/\b0 sp=qN (.lst (xs.drop (i+1)))/\∃(J:uN)(Y:Option V)(ys:List V)(js:List (List Key)),O=[qN (.ref c0),qN (.ref m),qN (.ref J),qN (.int (0+(i:Int))),Y]/\b0 J=qN (.lst ys)/\Paired (ic b0) ys js/\(∀j∈js,ud g mk j)/\js.length<=300*i+244+j) (⟨y0,ia,nx3 v0 _ v1 w1 rfl (y0 _ _ r1) (Bc.kf (KF.of y0) p1) s1 t1⟩) (by rintro j O b0 _⟨_,h,_⟩;exact ca.of h) ?_ ?_⟩
   ·rintro j y O b0 z0;refine ebE ?_;rintro k0 P0 A0 Y f0 B0 rfl C0 l0 D0 Q0;have a0:j<(xs.drop (i+1)).length:=(rb.mp z0).1;rw[Kg]at a0;rw[List.getElem?_drop]at z0;refine ea1 ?_ (Fi q0 z0);rintro e R0 z1;have S0:e∈g:=Xa R0;have m0:=x0.trans k0;have T1:=Ta l0;have A1:d.1≠e.1:=λz=>by
     have T0:(g.map (·.1))[i]?=qN d.1:=by rw[lb,K0];rfl
     have B1:(g.map (·.1))[i+1+j]?=qN d.1:=by rw[lb,R0,z];rfl
     have:=(hp (rb.mp T0).1 Z0).mp (T0.trans B1.symm);lia
    refine⟨_,rfl,_,rfl,_,rfl,c0,_,_,.ref a,rfl,rfl,ca.of (m0 _ _ d0),Dq i0,_,rfl,_,rfl,.ref a,y,m,d,e,g,mk,rfl,L0.same m0,z1.same m0,j0,S0,A1,hz d j0,hz e S0,G0.same m0,λkp F0 C1 U1 V1 n0 D1 U0 E1 W1=>?_⟩;have X1:=Ta U0;refine⟨A0,kp,f0,F0,rfl,rfl,n0 _ _ C0,D1,(by grind),λF1 G1=>?_⟩;have o0:=aa.upd (o:=HO.lst (f0++F0)) G1;exact⟨k0.trans (n0.trans o0),(n0.trans o0) _ _ P0,nx3 F1 _ (f0++F0) (B0++C1) rfl ia (zx (Bc.kf (KF.of (n0.trans o0)) l0) (Bc.kf (KF.of o0) U0)) (λj a0=>(fc.mp a0).elim (D0 j) (E1 j)) (by rw[Ya];lia)⟩
   ·rintro O b0;refine ebE ?_;rintro k0 P0 A0 Y f0 B0 rfl C0 l0 D0 Q0;rw[Kg]at Q0;exact⟨x0.trans k0,nx13 A0 _ _ f0 B0 rfl C0 l0 D0 (by grind)⟩
  ·rintro O e0;refine eaH ?_;rintro r J r0 Y ys js rfl s0 g0 h0 f1;refine⟨_,rfl,J,ys,js,rfl,ca.of s0,g0,rx h0,λH1 U I1 V0 tp W0=>?_⟩;have X0:=aa.upd (o:=HO.lst U) V0;exact q H1 U I1 _ (r.free V0) (r.trans X0) ia (Bc.kf (KF.of X0) tp) (λj a0=>h0 j (W0.mem_iff.mp a0)) (by rw[W0.length_eq];lia)
--@La
inductive AM(K:W.Frag)(vs:List V)(H:Hp)(Q:VK)(E:XK):Prop|mk(a:uN)(ns:List Int)(k:Nat)(_:vs=[.ref a,.int (k:Int)])(_:ca K H a (ns.map V.int))(_:ns.length<=63)(_:k<=1000)(_:∀v:Int,Q (.int v) H)
def BM:Sp:=λvs H Q _=>∃(c:Int)(k:Nat),vs=[.int c,.int (k:Int)]/\k<=1000/\∀z:Int,0<=z->z<2147483629->Q (.int z) H
inductive CM(K:W.Frag)(vs:List V)(H:Hp)(Q:VK)(E:XK):Prop|mk(a:uN)(ns:List Int)(_:vs=[.ref a])(_:ca K H a (ns.map V.int))(_:ns.length<=63)(_:∀p(ms:List Int)H',H p=sN->aa H H'->H' p=qN (.lst (ms.map V.int))->ms.Pairwise (·<·)->(∀n∈ms,(1:Int)<=n)->2<=ms.length->ms.length<=4->Q (.ref p) H')
structure du(ms:List Int)(rows:List pb):Prop where
 len:rows.length=4
 up:(rows.map (·.1)).Pairwise (·<·)
 Bo:∀r∈rows,r.2.Nodup/\∀x∈r.2,x∈ms
inductive DM(K:W.Frag)(vs:List V)(H:Hp)(Q:VK)(E:XK):Prop|mk(a np:uN)(ns ms:List Int)(_:vs=[.ref a,.ref np])(_:ca K H a (ns.map V.int))(_:ns.length<=63)(_:H np=qN (.lst (ms.map V.int)))(_:ms.Nodup)(_:2<=ms.length)(_:ms.length<=4)(_:∀t o r(os:List Int)(rows:List pb)H',aa H H'->H' t=qN (.tup [.ref o,.ref r])->H' o=qN (.lst (os.map V.int))->(∀x∈ms,x∈os)->Tr H' (.ref r) (.list (rows.map qe))->du ms rows->Q (.ref t) H')
inductive EM(vs:List V)(H:Hp)(Q:VK)(E:XK):Prop|mk(o l:uN)(os ms:List Int)(lo:Int)(_:vs=[.ref o,.ref l,.int lo])(_:H o=qN (.lst (os.map V.int)))(_:H l=qN (.lst (ms.map V.int)))(_:lo∈os)(_:∀r:Int,(r=0\/r∈ms/\r≠lo)->Q (.int r) H)
def eu(r:List pb)(lo:Int)(q:Pr):Prop:=∃g∈r,g.1=q.1/\(q.2=-1\/q.2=0\/q.2∈g.2/\q.2≠lo)
inductive FM(vs:List V)(H:Hp)(Q:VK)(E:XK):Prop|mk(z lo:Int)(o r:uN)(os ms:List Int)(rows:List pb)(_:vs=[.int z,.int lo,.ref o,.ref r])(_:0<=z)(_:H o=qN (.lst (os.map V.int)))(_:lo∈os)(_:ms.length<=4)(_:Tr H (.ref r) (.list (rows.map qe)))(_:du ms rows)(_:∀p(lk:Lk)H',H p=sN->aa H H'->Tr (off H H') (.ref p) (oo lk)->lk.length<=4->(∀q∈lk,eu rows lo q)->Q (.ref p) H')
structure wC(ms:List Int)(rows:List pb)(ds:List Dl):Prop where
 nums:ds.map (·.1)=ms
 wd:∀d∈ds,d.2.1∈Rf
 lk:∀d∈ds,∀lk∈d.2.2,lk.length<=4/\∀q∈lk,eu rows d.1 q
 Ab:(ds.flatMap (·.2.2)).length<=24
inductive HM(K:W.Frag)(vs:List V)(H:Hp)(Q:VK)(E:XK):Prop|mk(a np o r:uN)(ns ms os:List Int)(rows:List pb)(_:vs=[.ref a,.ref np,.ref o,.ref r])(_:ca K H a (ns.map V.int))(_:ns.length<=63)(_:H np=qN (.lst (ms.map V.int)))(_:ms.Nodup)(_:2<=ms.length)(_:ms.length<=4)(_:H o=qN (.lst (os.map V.int)))(_:(∀x∈ms,x∈os))(_:Tr H (.ref r) (.list (rows.map qe)))(_:du ms rows)(_:∀p(ds:List Dl)H',H p=sN->aa H H'->Tr H' (.ref p) (.list (ds.map ee))->wC ms rows ds->Q (.ref p) H')
inductive fu(K:W.Frag)(vs:List V)(H:Hp)(Q:VK)(E:XK):Prop|mk(a:uN)(ns:List Int)(_:vs=[.ref a])(_:ca K H a (ns.map V.int))(_:ns.length<=63)(_:(∀m∈ns,Builtin.Int.intBits m<=1048576))(_:∀H',Q (.bl wN) H')
def IM{os:List Int}{f:Nat->Option V}(h:∀i,f i=sN\/f i=os[i]?.map V.int)(n:Nat):∃ms:List Int,(List.range n).filterMap f=ms.map V.int/\ms.Sublist (os.take n):=by
 induction n with
 |zero=>exact⟨[],rfl,List.nil_sublist _⟩
 |succ n r=>
  obtain⟨ms,J,g⟩:=r;rw[wj,Qo,J,gc];rcases h n with e|e
  ·refine⟨ms,by simp[e],g.trans (List.sublist_append_left _ _)⟩
  ·cases x:os[n]? with
   |none=>rw[x]at e;refine⟨ms,by simp[e],g.trans (List.sublist_append_left _ _)⟩
   |some y=>
    rw[x]at e;exact⟨ms++[y],by simp[e],g.append (List.Sublist.refl _)⟩
def JM{ns:List Int}{i:Int}(r:0<=i)(J:i<ns.length):∃x∈ns,Lf (ns.map V.int) i=qN (.int x):=by
 obtain⟨v,g⟩:=av (xs:=ns.map V.int) r (by rw[ua];exact J);obtain⟨x,O,rfl⟩:=Sa.mp (bv g);exact⟨x,O,g⟩
def LM(p:Int->Bool)(ms:List Int):ms.filterMap (λx=>if p x=wN then qN (V.int x)else sN)=(ms.filter p).map V.int:=by
 induction ms with
 |nil=>rfl
 |cons x t g=>
  rw[wh,To];by_cases y:p x=wN
  ·rw[va y,va y,Sc,g]
  ·rw[na y,na y,g]
def rj(g:List Int)(ls:List uN):List (Key×V):=(g.zip ls).map λq=>(.inl q.1,.ref q.2)
def MM{g:List Int}{ls:List uN}(h:ls.length=g.length):(rj g ls).length=g.length:=by
 unfold rj;rw[ua,List.length_zip,h,Nat.min_self]
def NM{g:List Int}{ls:List uN}(h:ls.length=g.length):(rj g ls).map (·.1)=g.map Sum.inl:=by
 unfold rj;rw[Ve];have:(g.zip ls).map Prod.fst=g:=by rw[List.map_fst_zip];simp_all
 conv=>rhs;rw[<-this,Ve]
 rfl
def OM{g:List Int}{ls:List uN}(h:ls.length=g.length)(r:g.Nodup):((rj g ls).map (·.1)).Nodup:=by
 rw[NM h];exact Gd.mpr (r.imp λn e=>n (Ji e))
def xC{g:List Int}{ls:List uN}(h:ls.length=g.length)(r:g.Nodup){i:Nat}{k:Int}{l:uN}(J:g[i]?=qN k)(O:ls[i]?=qN l):Ka (rj g ls) (.inl k)=qN (.ref l):=by
 refine gm (OM h r) (Sa.mpr ⟨(k,l),?_,rfl⟩);exact Xa (Rm.mpr ⟨J,O⟩)
def wo(B:List uN)(H:Hp):Hp:=λb=>if b∈B then sN else H b
def yC{B:List uN}{H:Hp}{b:uN}{o:HO}(n:b∉B)(e:H b=qN o):wo B H b=qN o:=by
 unfold wo;rw[na n];exact e
def AC{B:List uN}{H:Hp}{b:uN}{o:HO}(e:wo B H b=qN o):b∉B/\H b=qN o:=by
 unfold wo at e;split at e
 ·cases e
 ·next h=>exact⟨h,e⟩
structure uk(H:Hp)(d:uN)(ms:List Int)(ls:List uN)(Hg:List (List Lk)):Prop where
 dict:H d=qN (.dK (rj ms ls))
 ll:ls.length=ms.length
 kl:Hg.length=ms.length
 nd:ls.Nodup
 at_:∀(i:Nat)l lk,ls[i]?=qN l->Hg[i]?=qN lk->∃ys,H l=qN (.lst ys)/\Qa (wo (d::ls) H) ys (lk.map oo)
def uk.lst{H:Hp}{d:uN}{ms:List Int}{ls:List uN}{g:List (List Lk)}(h:uk H d ms ls g){l:uN}(J:l∈ls):∃ys,H l=qN (.lst ys):=by
 obtain⟨i,r⟩:=Hd.mp J;obtain⟨k,O⟩:∃k,g[i]?=qN k:=⟨_,Wb (by rw[h.kl,<-h.ll];exact(rb.mp r).1)⟩;obtain⟨ys,e,_⟩:=h.at_ i l k r O;exact⟨ys,e⟩
def uk.there{H:Hp}{d:uN}{ms:List Int}{ls:List uN}{g:List (List Lk)}(h:uk H d ms ls g){b:uN}(r:b∈d::ls):∃o,H b=qN o:=by
 rcases rc.mp r with e|e
 ·rw[e];exact⟨_,h.dict⟩
 ·obtain⟨ys,e⟩:=h.lst e;exact⟨_,e⟩
def uk.grow{H b0 J:Hp}{d:uN}{ms:List Int}{ls:List uN}{c0:List (List Lk)}(h:uk H d ms ls c0){g:Nat}{l:uN}{d0:List Lk}{f0:Lk}{g0:List V}{v:V}(r:ls[g]?=qN l)(h0:c0[g]?=qN d0)(i0:H l=qN (.lst g0))(e0:aa H b0)(n0:Tr (off H b0) v (oo f0))(o0:J l=qN (.lst (g0++[v])))(O:∀b o,b≠l->b0 b=qN o->J b=qN o):uk J d ms ls (c0.set g (d0++[f0])):=by
 have j0:l∈ls:=Xa r;have nd:d≠l:=λz=>by have:=h.dict;rw[z,i0]at this;cases this
 have k0:aa (wo (d::ls) H) (wo (d::ls) J):=λb o x=>by
  obtain⟨n,e⟩:=AC x;exact yC n (O b o (λz=>n (by rw[z];exact Rh _ j0)) (e0 _ _ e))
 refine⟨O d _ nd (e0 _ _ h.dict),h.ll,by rw[List.length_set];exact h.kl,h.nd,λi l0 lk U Y=>?_⟩;by_cases z:g=i
 ·subst z;rw[r]at U;cases U;rw[Nq (rb.mp h0).1]at Y;cases Y;refine ea1 ?_ (h.at_ g l d0 r h0);rintro ys a0 t;rw[i0]at a0;cases a0;refine⟨_,o0,?_⟩;rw[Qd];refine(t.same k0).app (.cons (n0.same λb o x=>?_) .nil);obtain⟨p0,q0⟩:=om x;have m0:b∉d::ls:=λq=>by obtain⟨r0,e⟩:=h.there q;rw[p0]at e;cases e
  exact yC m0 (O b o (λq=>m0 (by rw[q];exact Rh _ j0)) q0)
 ·rw[Zq z]at Y;obtain⟨ys,a0,t⟩:=h.at_ i l0 lk U Y;refine⟨ys,O l0 _ (λq=>z ?_) (e0 _ _ a0),t.same k0⟩;subst q;exact(hp (rb.mp r).1 h.nd).mp (r.trans U.symm)
def PM{α:Type}{x:α}{lk:List α}{g:List (List α)}:∀{i:Nat},g[i]?=qN lk->(g.set i (lk++[x])).flatten.length=g.flatten.length+1:=by
 induction g with
 |nil=>intro i h;cases h
 |cons a J r=>
  intro i h;cases i with
  |zero=>cases h;simp;lia
  |succ i=>
   rw[List.set_cons_succ,List.flatten_cons,List.flatten_cons,Ya,Ya,r h];rfl
--@La
def Lm(T:Tx K mg):T.Zj.Ok P w base 1 (AM K):=by
 refine Ua T.Zj.F λ_ _ _ _ _ h=>?_
 ·obtain⟨a,ns,k,rfl,g,U,Y,q⟩:=h;refine⟨_,(pa (qc (xb Hu (pv 1) (Cd Yf (by rfl) T.Cf mf (za 0)) (Bb _))
   (ma (Ga (Ja ci (pv 0) (pv 1))))
   pc)
   (ma (Ga (eb Vg (eb Bp (eb wg (pv 1) la) la) la)))),?_⟩
  show let J:TS:=_;qa (zc _ _ _) J _ _ _
  intros;refine⟨_,rfl,_,rfl,_,_,rfl,.inl ⟨_,g,rfl⟩,_,_,rfl,rfl,_,rfl,jb (λe=>?_) (λe=>?_)⟩
  ·have O:(k:Int)<((ns.map V.int).length:Int):=yd e;obtain⟨v,r⟩:∃v,Lf (ns.map V.int) (k:Int)=qN v:=av (by lia) O;refine ea1 ?_ (Sa.mp (bv r));rintro z hz rfl;exact⟨_,rfl,_,rfl,a,_,_,_,rfl,rfl,g,r,q z⟩
  ·exact⟨_,rfl,_,_,rfl,rfl,_,_,rfl,rfl,.inr ⟨by decide,by decide⟩,_,_,rfl,rfl,(by show(0:Int)<65537;decide),q _⟩
def BC(T:Tx K mg):T.Bt.Ok P w base 1 BM:=by
 refine Ua T.Bt.F λ_ _ _ _ _ h=>?_
 ·revert h;refine ea0 ?_;rintro c k rfl g q;refine⟨_,(ma (Ga (eb Vg (eb wg (eb wg (eb Bp (eb Vg (pv 0) la) la) (eb Bp la (pv 1))) la) la))),?_⟩;exact⟨_,rfl,_,_,rfl,rfl,(by show(0:Int)<2147483647;decide),_,_,rfl,rfl,.inr ⟨by decide,by decide⟩,_,rfl,_,_,rfl,rfl,.inl ⟨by decide,by decide⟩,_,_,rfl,rfl,_,_,rfl,rfl,_,_,rfl,rfl,(by show(0:Int)<2147483629;decide),q _ (Int.emod_nonneg _ (by decide)) (Int.emod_lt_of_pos _ (by decide))⟩
def QM(T:Tx K mg):T.Cw.Ok P w base 2 (CM K):=by
 refine Ua T.Cw.F λH _ _ _ r h=>?_
 ·obtain⟨a,ns,rfl,Y,a0,q⟩:=h;have g0:=kc r;refine⟨_,(pa (Ma 1 (fb T.Zj (Lm T) r (ka (pv 0) (Ca la))))
   (ma (Ga (Ud ["_law_k"] ["_law_cell_here"] [1] (Yl rfl T.zm (Ca (eb wg la (eb Vg (pv 1) la)))) (bc 0) Ie (eb wg (eb wg la (eb Vg (eb Ij (pv 1) la) la)) (eb Bp (pv 0) (eb wg la (eb Vg (eb Ij (pv 1) la) la)))))))),?_⟩
  show let b0:TS:=_;qa _ b0 _ _ _
  intros;have h0:(1000:Nat)<=vN:=by decide
  refine⟨_,rfl,a,ns,0,rfl,Y,a0,by simp_all,λc=>?_⟩;refine⟨_,rfl,_,_,rfl,rfl,(by show(0:Int)<3;decide),_,_,rfl,rfl,_,rfl,(by lia),(by lia),Rp (k:=1) (fs:=[qN (.int c)]) (2+c%3).toNat (λi=>qN (.int (1+c/3%2+(0+(i:Int))*(1+c/6%2)))) rfl (by lia) (λi H g J=>J) (λH g=>wa _) ?_ λD O c0 g U=>?_⟩
  ·rintro i O i0 v j0 R g J d0⟨rfl,rfl⟩e0;obtain⟨t,rfl⟩:=Zc.mp d0;exact⟨_,rfl,_,_,rfl,rfl,⟨by decide,by decide⟩,_,_,rfl,rfl,(by show(0:Int)<2;decide),_,_,rfl,rfl,_,rfl,_,rfl,_,_,rfl,rfl,⟨by decide,by decide⟩,_,_,rfl,rfl,(by show(0:Int)<2;decide),_,_,rfl,rfl,_,_,rfl,rfl,.inr ⟨by lia,by lia⟩,_,_,rfl,rfl,e0 [_] _ rfl (aa.refl _)⟩
  ·have e:(List.range (2+c%3).toNat).filterMap (λ(i:Nat)=>qN (V.int (1+c/3%2+(0+(i:Int))*(1+c/6%2))))=((List.range (2+c%3).toNat).map λ(i:Nat)=>1+c/3%2+(0+(i:Int))*(1+c/6%2)).map V.int:=by
    rw[Ve,<-List.filterMap_eq_map];rfl
   rw[e]at U;refine q D _ O c0 g U ?_ ?_ (by rw[ua,Ef];lia) (by rw[ua,Ef];lia)
   ·refine Gd.mpr (Ll.imp λ{i j}k0=>?_);rcases(show 1+c/6%2=1\/1+c/6%2=2 by lia)with z|z<;>rw[z]<;>simp_all
   ·intro n f0;obtain⟨i,_,rfl⟩:=Sa.mp f0;rcases(show 1+c/6%2=1\/1+c/6%2=2 by lia)with z|z<;>rw[z]<;>lia
def RM(T:Tx K mg):T.Ew.Ok P w base 1 EM:=by
 refine Ua T.Ew.F λH _ _ _ e0 h=>?_
 ·obtain⟨o,l,os,ms,lo,rfl,Y,f0,g0,q⟩:=h;have m0:=kc e0;refine⟨_,(pa (Ma 3 la)
   (pa (Jb Db rfl (Za (pv 0)) (bb 4)
   (pa (qc (xb Od (pv 4) (pv 2) (Bb _))
   (ma (Ga (pv 3)))
   pc)
   (ma (qc (xb cj (pv 4) (pv 1) rfl)
   (ma (Ma 3 (pv 4)))
   pc))))
   (ma (Ga (pv 3))))),?_⟩
  show let h0:TS:=_;let i0:TS:=zc _ _ _;let j0:TS:=qa (zc _ _ _) i0;let k0:TS:=qa (Qb _ _ j0) h0;qa _ k0 _ _ _
  intros;refine⟨_,rfl,o,rfl,⟨_,ca.of Y⟩,nc (K:=K) (a:=o) (xs:=os.map V.int) (λi g r=>r=H/\∃(f:Int)(O:Option V),g=[qN (.ref o),qN (.ref l),qN (.int lo),qN (.int f),O]/\(f=0\/f∈ms/\f≠lo)/\∀x∈os.take i,x≠lo) (⟨rfl,nx0 0 sN rfl (.inl rfl) λx h=>by cases h⟩) (by rintro i g r _⟨e,_⟩;exact e▸ca.of Y) ?_ ?_⟩
  ·rintro i y g r a0;refine eb7 ?_;rintro rfl f O rfl U J;rw[lb]at a0;refine ea1 ?_ (Jd.mp a0);rintro m l0 rfl;refine⟨_,rfl,_,rfl,rfl,_,rfl,jb (λe=>?_) (λe=>?_)⟩
   ·exact⟨_,rfl,q f U⟩
   ·have em:m≠lo:=λz=>e (Xb (by rw[z]))
    have b0:∀x∈os.take (i+1),x≠lo:=λx c0=>by
     rw[gc,l0]at c0;rcases fc.mp c0 with z|z
     ·exact J x z
     ·rw[cc.mp z];exact em
    refine⟨_,rfl,_,rfl,l,_,rfl,.inl (ca.of f0),rfl,im _,_,rfl,?_⟩;rw[Yk];refine jb (λd0=>?_) (λd0=>?_)
    ·exact⟨_,rfl,rfl,m,_,rfl,.inr ⟨by simpa using d0,em⟩,b0⟩
    ·exact⟨rfl,nx0 f _ rfl U b0⟩
  ·rintro g r;refine eb7 ?_;rintro rfl f O rfl U J;rw[ua,vc]at J;exact absurd rfl (J lo g0)
--@La
def SM(T:Tx K mg):T.Fw.Ok P w base 2 FM:=by
 refine Ua T.Fw.F λH _ _ _ K0 h=>?_
 ·obtain⟨z,lo,o,L0,os,ms,R0,rfl,hz,S0,T0,U0,V0,m0,q⟩:=h;have B1:=kc K0;refine⟨_,(pa (Ma 4 (jc Oc))
   (pa (Ma 5 (eb Vg (eb Ij (pv 0) la) la))
   (pa (Jb Db rfl (Yl rfl T.zm (Ca la)) (bb 6)
   (pa (Nx (Ja ci (pv 3) (pv 6)) (Jf rfl (Ub (bb 7) (Ub (bb 8) ve))))
   (ma (qc (xb Od (eb Sx (eb Rx (eb Ij (pv 0) la) (pv 6)) la) la (Bb _))
   (pa (Ma 9 (fb T.Ew (RM T) K0 (ka (pv 2) (ka (pv 8) (za 1)))))
   (pa (qc (xb Od (pv 5) (pv 6) (Bb _))
   (pa (Ma 10 (eb fi (eb fi (jc (Ca la)) (Ud ["_law_maker"] ["_law_looker"] [1] (Za (pv 8)) (bc 0) (Mf (xb Sk (pv 0) (pv 1) (Bb _))) (pv 0))) (jc (Ca (zp Cp la)))))
   (ma (Ma 9 (Ja ci (pv 10) (eb Vg (eb Ij (pv 0) la) (Cd Yf (by rfl) T.Cf mf (za 10)))))))
   pc)
   (ma (Nd (Xc jd ph vh Bh (pv 4) (Ca (Rb (ka (pv 7) (za 9)))))))))
   pc))))
   (ma (Ga (pv 4)))))),?_⟩
  show let W0:TS:=_;let X0:TS:=_;let Y0:TS:=_;let Z0:TS:=qa _ Y0;let a1:TS:=qa (zc _ Z0 _) X0;let b1:TS:=qa _ a1;let c1:TS:=zc _ b1 _;let d1:TS:=qa _ c1;let e1:TS:=qa (Qb _ _ d1) W0;let M0:TS:=qa _ e1;qa _ M0 _ _ _
  intros;refine ea0 ?_ (Sf V0);rintro C1 xs e f1 h0;cases e;have D1:xs.length=4:=by rw[h0.len,ua,m0.len]
  have M0:(1000:Nat)<=vN:=by decide
  refine⟨(by show 0<=vN;exact Va _),λp b0=>?_⟩;have g1:=aa.upd (o:=HO.lst []) b0;refine⟨_,rfl,_,_,rfl,rfl,⟨by decide,by decide⟩,_,_,rfl,rfl,(by show(0:Int)<24;decide),?_⟩;refine⟨_,rfl,(by decide),(by decide),rr (n:=4) (λi n0 J=>aa H J/\∃(o0:Int)(p0 q0 r0 s0 t0:Option V)(ys:List V)(lk:Lk),n0=[qN (.int z),qN (.int lo),qN (.ref o),qN (.ref L0),qN (.ref p),qN (.int o0),p0,q0,r0,s0,t0]/\J p=qN (.lst ys)/\Qa (ye (off H J) p) ys (lk.map Zw)/\lk.length<=i/\∀q∈lk,eu R0 lo q) (⟨g1,nx1 _ sN (nx19 sN sN sN sN ([]) ([]) rfl ia (.nil) (wa _) λq h=>by cases h)⟩) ?_ ?_⟩
  ·rintro i n0 J E1;refine ea7 ?_;rintro g o0 p0;refine ec1 ?_;rintro q0 r0 s0 t0 ys lk rfl O a0 u0 c0;have F1:ys.length<=i:=by rw[a0.len,ua];exact u0
   obtain⟨v,N0⟩:∃v,xs[i]?=qN v:=⟨_,Wb (by simp_all)⟩;refine ea1 ?_ (Fi h0 N0);rintro⟨k,mk⟩h1 tr;have i0:=Xa h1;refine ea0 ?_ (Jm tr);rintro c l rfl i1 j1;have v0:=g _ _ j1;have k1:mk.length<=4:=gb (zg (m0.Bo _ i0).1 (m0.Bo _ i0).2) U0;refine⟨_,rfl,_,rfl,L0,_,_,_,rfl,rfl,ca.of (g _ _ f1),Dq N0,c,_,rfl,oa.of (g _ _ i1),rfl,_,_,rfl,_,_,rfl,rfl,?_⟩;refine⟨_,rfl,_,_,rfl,rfl,⟨by decide,by decide⟩,_,rfl,_,_,rfl,rfl,(by show(0:Int)<=0+(i:Int);simp_all),_,_,rfl,rfl,rfl,_,rfl,jb (λy=>?_) (λy=>⟨g,nx1 _ _ (nx19 _ _ _ _ ys lk rfl O a0 (by lia) c0)⟩)⟩;refine⟨_,rfl,_,rfl,_,rfl,o,l,os,mk,lo,rfl,g _ _ S0,v0,T0,λw0 l1=>?_⟩;refine⟨_,rfl,_,rfl,rfl,_,rfl,jb (λm1=>?_) (λm1=>?_)⟩
   ·refine⟨Xd,λq1 x0=>?_⟩;have y0:=aa.upd (o:=HO.lst [.int 0]) x0;refine⟨_,rfl,l,rfl,⟨_,ca.of (y0 _ _ v0)⟩,Wr (k:=1) (fs:=[qN (.int lo)]) mk PyData.int (λx=>if(!decide (V.int x=V.int lo))=wN then qN (.int x)else sN) rfl (y0 _ _ v0) (Qa.ofInts _) (by lia) (λx G1 z0 H1 v R A0 n1 o1 p1=>?_) (λD z0 I1 A0 O0=>?_)⟩
    ·obtain⟨t,rfl⟩:=Zc.mp n1;cases o1;have j0:=p1 [qN (.int x)] _ rfl (aa.refl _);refine⟨_,rfl,_,rfl,rfl,_,rfl,jb (λy=>?_) (λy=>?_)⟩
     ·rw[va y]at j0;exact⟨_,rfl,j0⟩
     ·rw[na y]at j0;exact j0
    rw[LM (λx=>!decide (V.int x=V.int lo)) mk]at O0;have r1:∀x∈mk.filter (λx=>!decide (V.int x=V.int lo)),x∈mk/\x≠lo:=λx h0=>by
     obtain⟨x0,k0⟩:=Ze.mp h0;refine⟨x0,λz=>?_⟩;rw[z]at k0;simp at k0
    have J1:(mk.filter λx=>!decide (V.int x=V.int lo)).length<=4:=gb (Hi _ _) k1;generalize mk.filter (λx=>!decide (V.int x=V.int lo))=fs at*;have s1:=y0.trans A0;refine⟨q1,D,_,_,rfl,rfl,A0 _ _ ia,O0,(by rw[ua];show 1+fs.length<=vN;lia),λq2 k0=>⟨_,rfl,Xd,λq3 t1=>?_⟩⟩;have u1:=aa.upd (o:=HO.lst ([.int 0]++fs.map V.int)) k0;have P0:=aa.upd (o:=HO.lst [.int (-1)]) t1;refine⟨q2,q3,_,_,rfl,rfl,P0 _ _ ia,ia,(by rw[Ya,ua];show 1+fs.length+1<=vN;lia),λl0 v1=>?_⟩;have w1:[V.int 0]++fs.map V.int++[V.int (-1)]=(0::fs++[-1]).map V.int:=by rw[Qd];rfl
    rw[w1];have x1:=aa.upd (o:=HO.lst ((0::fs++[-1]).map V.int)) v1;have d0:=(s1.trans u1).trans (P0.trans x1);have Q0:upd (upd (upd z0 q2 (.lst ([.int 0]++fs.map V.int))) q3 (.lst [.int (-1)])) l0 (.lst ((0::fs++[-1]).map V.int)) l0=qN (.lst ((0::fs++[-1]).map V.int)):=ia;generalize upd (upd (upd z0 q2 (.lst ([.int 0]++fs.map V.int))) q3 (.lst [.int (-1)])) l0 (.lst ((0::fs++[-1]).map V.int))=K1 at*;have B0:((0::fs++[-1]:List Int).length)=fs.length+2:=by simp
    refine ea1 ?_ (JM (ns:=0::fs++[-1]) (i:=z/1536%((((0::fs++[-1]).map V.int).length:Nat):Int)) (Int.emod_nonneg _ (by rw[ua,B0];lia)) (by rw[ua];exact Int.emod_lt_of_pos _ (by rw[B0];lia)));rintro U y1 z1;have C0:U=-1\/U=0\/U∈mk/\U≠lo:=by
     rcases fc.mp y1 with y|y
     ·rcases rc.mp y with y|y
      ·exact .inr (.inl y)
      ·exact .inr (.inr (r1 U y))
     ·exact .inl (cc.mp y)
    refine⟨_,rfl,_,rfl,_,_,rfl,rfl,⟨by decide,by decide⟩,_,rfl,_,_,rfl,.inl ⟨_,ca.of Q0,rfl⟩,_,_,rfl,rfl,(by rw[ua,B0];lia),l0,_,_,_,rfl,rfl,ca.of Q0,z1,?_⟩;refine⟨_,rfl,.inl ⟨rfl,_,ca.of (d0 _ _ O)⟩,_,rfl,_,rfl,Ha,λt r=>?_⟩;have st:=aa.upd (o:=HO.tup [.int k,.int U]) r;have e0:=d0 _ _ O;refine⟨p,ys,_,rfl,rfl,st _ _ e0,(by lia),λA1 D0 Y=>?_⟩;have pt:t≠p:=λy=>by rw[y,e0]at r;cases r
    refine⟨Km b0 ((g.trans d0).trans st) Y,nx1 _ _ (nx19 _ _ _ _ (ys++[.ref t]) (lk++[(k,U)]) rfl D0 ?_ (by rw[Ya,uj];simp_all) λq F0=>?_)⟩
    ·rw[Qd];refine Qa.app (a0.same λb o e=>?_) (.cons (.tup (ff pt (ki ((g.trans d0).free r) (Y t _ pt ia))) (.cons (.int _) (.cons (.int _) .nil))) .nil);obtain⟨f0,G0⟩:=df e;obtain⟨I0,J0⟩:=om G0;exact ff f0 (ki I0 (Y b o f0 (st _ _ (d0 _ _ J0))))
    ·rcases fc.mp F0 with y|y
     ·exact c0 q y
     ·rw[cc.mp y];exact⟨_,i0,rfl,C0⟩
   ·have g0:=aa.refl J;have C0:=Or.inr (a:=w0=-1) l1;refine⟨_,rfl,.inl ⟨rfl,_,ca.of (g0 _ _ O)⟩,_,rfl,_,rfl,Ha,λt r=>?_⟩;have st:=aa.upd (o:=HO.tup [.int k,.int w0]) r;have e0:=g0 _ _ O;refine⟨p,ys,_,rfl,rfl,st _ _ e0,(by lia),λA1 D0 Y=>?_⟩;have pt:t≠p:=λy=>by rw[y,e0]at r;cases r
    refine⟨Km b0 ((g.trans g0).trans st) Y,nx1 _ _ (nx19 _ _ _ _ (ys++[.ref t]) (lk++[(k,w0)]) rfl D0 ?_ (by rw[Ya,uj];lia) λq F0=>?_)⟩
    ·rw[Qd];refine Qa.app (a0.same λb o e=>?_) (.cons (.tup (ff pt (ki ((g.trans g0).free r) (Y t _ pt ia))) (.cons (.int _) (.cons (.int _) .nil))) .nil);obtain⟨f0,G0⟩:=df e;obtain⟨I0,J0⟩:=om G0;exact ff f0 (ki I0 (Y b o f0 (st _ _ (g0 _ _ J0))))
    ·rcases fc.mp F0 with y|y
     ·exact c0 q y
     ·rw[cc.mp y];exact⟨_,i0,rfl,C0⟩
  ·rintro n0 J;refine ea7 ?_;rintro g o0 p0;refine ec1 ?_;rintro q0 r0 s0 t0 ys lk rfl O a0 u0 c0;exact⟨_,rfl,q p lk J b0 g (.lst (ki b0 O) (a0.same Ur)) u0 c0⟩
--@La
def TM(T:Tx K mg):T.Dw.Ok P w base 2 (DM K):=by
 refine Ua T.Dw.F λH _ Q _ J h=>?_
 ·obtain⟨a,l0,ns,ms,rfl,m0,n0,t0,J0,y1,z1,q⟩:=h;have A1:=kc J;refine⟨_,(pa (Ma 2 (eb Gu (eb Vg (fb T.Zj (Lm T) J (ka (pv 0) (Ca la))) (eb wg (eb Bp la (eb Qx la la)) la)) (eb Qx la la)))
   (pa (Ma 3 (eb Vg (eb Ij (fb T.Zj (Lm T) J (ka (pv 0) (Ca la))) la) (Cd Yf (by rfl) T.Cf mf (za 1))))
   (pa (Ma 4 (eb fi (bi di (pv 1) (ai (pv 3)) Zh) (bi di (pv 1) Zh (ai (pv 3)))))
   (pa (qc (xb Od (eb Vg (eb Ij (fb T.Zj (Lm T) J (ka (pv 0) (Ca la))) la) la) la (Bb _))
   (ma (Ma 4 (EF (K:=K) rfl rfl rfl T.RA rfl T.EJ (za 4))))
   pc)
   (pa (Ma 5 (jc Oc))
   (pa (Jb Db rfl (Yl rfl T.zm (Ca la)) (bb 6)
   (pa (Ma 7 (fb T.Bt (BC T) J (ka (fb T.Zj (Lm T) J (ka (pv 0) (Ca la))) (za 6))))
   (pa (jj 8 ["_law_k"] (by show(Oe _).Nodup;decide+kernel) ["_law_order","_law_number"] [4,7] (Yl rfl T.zm (Ca (Cd Yf (by rfl) T.Cf mf (za 4)))) (bc 0) (Mf (xb Od (eb Sx (eb Rx (eb Ij (pv 2) la) (pv 0)) la) la (Bb _))) (Ja (Sy (K:=K) rfl) (pv 1) (pv 0)))
   (ma (Nd (Xc jd ph vh Bh (pv 5) (Ca (Rb (ka (eb wg (pv 2) (pv 6)) (za 8))))))))))
   (ma (Ga (Rb (ka (pv 4) (za 5))))))))))),?_⟩
  show let K0:TS:=_;let L0:TS:=_;let M0:TS:=qa _ L0;let N0:TS:=qa _ M0;let O0:TS:=qa (Qb _ _ N0) K0;let u0:TS:=qa _ O0;let P0:TS:=qa (zc _ _ _) u0;let Q0:TS:=qa _ P0;let R0:TS:=qa _ Q0;qa _ R0 _ _ _
  intros;rename_i K0 L0 M0 N0 O0 u0 P0 Q0 R0;have B1:(1000:Nat)<=vN:=by decide
  have S0:(ms.map V.int).length=ms.length:=ua _;have T0:∀(O v0:Int)(g:uN)(os:List Int)(U:Hp),aa H U->U g=qN (.lst (os.map V.int))->os.Nodup->os.length=ms.length->(∀x,x∈os↔x∈ms)->u0 {nx:=λ_ H'=>Q .Ra H',rt:=Q} [qN (.ref a),qN (.ref l0),qN (.int O),qN (.int v0),qN (.ref g),sN,sN,sN,sN] U:=λO v0 g os U Y a0 e1 C1 U0=>by
   refine⟨(by show 0<=vN;exact Va _),λp f0=>?_⟩;have f1:H p=sN:=Y.free f0;have g1:=Y.trans (aa.upd (o:=HO.lst []) f0);refine⟨_,rfl,(by decide),(by decide),rr (n:=4) (λi w0 b0=>aa H b0/\b0 g=qN (.lst (os.map V.int))/\∃(x0 y0 z0:Option V)(ys:List V)(r:List pb),w0=[qN (.ref a),qN (.ref l0),qN (.int O),qN (.int v0),qN (.ref g),qN (.ref p),x0,y0,z0]/\b0 p=qN (.lst ys)/\Qa (ye b0 p) ys (r.map qe)/\r.map (·.1)=(List.range i).map (λ(j:Nat)=>O+(0+(j:Int)))/\∀g0∈r,g0.2.Nodup/\∀x∈g0.2,x∈ms) ⟨g1,aa.upd f0 _ _ a0,sN,sN,sN,[],[],rfl,ia,.nil,rfl,(λg0 A0=>by cases A0)⟩ ?_ ?_⟩
   ·rintro i w0 b0 V0⟨c0,h0,x0,y0,z0,ys,r,rfl,o0,p0,i0,B0⟩;have D1:ys.length=i:=by
     have:=Vb List.length i0;rw[ua,ua,Ef]at this;rw[p0.len,ua];exact this
    refine⟨_,rfl,a,ns,3,rfl,c0.seq m0,n0,by lia,λc=>⟨_,rfl,c,i,(by rw[Int.zero_add];rfl),by lia,λz E1 F1=>?_⟩⟩;clear E1 F1;refine⟨_,rfl,_,_,rfl,.inl ⟨_,ca.of h0,rfl⟩,_,rfl,(by rw[ua];lia),(by rw[ua];lia),Rp (k:=1) (fs:=[qN (.ref g),qN (.int z)]) (((os.map V.int).length:Int).toNat) (λi=>if decide (V.int (Builtin.bitAnd (z/24/2^(0+(i:Int)).toNat) 1)=V.int 1)=wN then os[i]?.map V.int else sN) rfl (by rw[ua];lia) (λi H c0 V0=>V0) (λH c0=>wa _) ?_ λD h1 W0 d0 X0=>?_⟩
    ·rintro q0 h1 G1 v i1 R d0 j1 k1⟨rfl,rfl⟩l1;obtain⟨t,rfl⟩:=Zc.mp k1;rw[ua]at j1;obtain⟨x,e0⟩:∃x,os[q0]?=qN x:=⟨_,Wb (by lia)⟩;have Y0:=l1 [qN (.int (0+(q0:Int)))] i1 rfl (aa.refl _);refine⟨_,rfl,_,_,rfl,rfl,⟨by decide,by decide⟩,_,rfl,_,_,rfl,rfl,(by show(0:Int)<=0+(q0:Int);lia),_,_,rfl,rfl,rfl,_,rfl,jb (λy=>?_) (λy=>?_)⟩
     ·have r0:R (os[q0]?.map V.int) _ _:=(va (α:=Option V) y)▸Y0;rw[e0]at r0;exact⟨_,rfl,_,rfl,g,_,_,_,rfl,rfl,ca.of (d0 _ _ h0),Dq (by rw[lb,e0];rfl),r0⟩
     ·have r0:R sN _ _:=(na (α:=Option V) y)▸Y0;exact r0
    ·obtain⟨mk',m1,n1⟩:=IM (os:=os) (f:=λi=>if decide (V.int (Builtin.bitAnd (z/24/2^(0+(i:Int)).toNat) 1)=V.int 1)=wN then os[i]?.map V.int else sN) (λi=>by
      split
      ·exact .inr rfl
      ·exact .inl rfl) (((os.map V.int).length:Int).toNat)
     rw[m1]at X0;have Z0:mk'.Sublist os:=n1.trans (List.take_sublist _ _);have C0:=d0 _ _ o0;refine⟨_,rfl,.inl ⟨rfl,_,ca.of C0⟩,_,rfl,_,rfl,_,_,rfl,rfl,_,rfl,Ha,λt j0=>?_⟩;have st:=aa.upd (o:=HO.tup [.int (O+(0+(i:Int))),.ref D]) j0;refine⟨p,ys,_,rfl,rfl,st _ _ C0,(by lia),λH1 o1 k0=>?_⟩;have pt:t≠p:=λy=>by rw[y,C0]at j0;cases j0
     have a1:D≠p:=λy=>by rw[y,o0]at W0;cases W0
     have p1:g≠p:=λy=>by rw[y]at a0;rw[a0]at f0;cases f0
     refine⟨Km f1 ((c0.trans d0).trans st) k0,k0 _ _ p1 (st _ _ (d0 _ _ h0)),_,_,_,ys++[.ref t],r++[(O+(0+(i:Int)),mk')],rfl,o1,?_,?_,?_⟩
     ·rw[Qd];refine Qa.app (p0.same λb o e=>ff (df e).1 (k0 b o (df e).1 (st _ _ (d0 _ _ (df e).2)))) (.cons (.tup (ff pt (k0 t _ pt ia)) (.cons (.int _) (.cons (.lst (ff a1 (k0 D _ a1 (st _ _ X0))) (Qa.ofInts _)) .nil))) .nil)
     ·rw[Qd,i0,wj,Qd];rfl
     ·intro g0 A0;rcases fc.mp A0 with y|y
      ·exact B0 g0 y
      ·rw[cc.mp y];exact⟨e1.sublist Z0,λx e0=>(U0 x).mp (Z0.subset e0)⟩
   ·rintro w0 b0⟨c0,h0,x0,y0,z0,ys,r,rfl,o0,p0,i0,B0⟩;have r1:r.length=4:=by
     have:=Vb List.length i0;rw[ua,ua,Ef]at this;exact this
    refine⟨_,rfl,_,rfl,Ha,λt j0=>?_⟩;have st:=aa.upd (o:=HO.tup [.ref g,.ref p]) j0;refine q t g p os r _ (c0.trans st) ia (st _ _ h0) (λx e0=>(U0 x).mpr e0) (.lst (st _ _ o0) (p0.same λb o e=>st _ _ (df e).2)) ⟨r1,?_,B0⟩;rw[i0];exact Gd.mpr (Ll.imp λ{i j}I1=>by lia)
  refine⟨_,rfl,a,ns,1,rfl,m0,n0,by lia,λJ1=>?_⟩;refine⟨_,_,rfl,rfl,⟨by decide,by decide,by decide⟩,_,_,rfl,rfl,.inl ⟨by decide,by decide⟩,_,_,rfl,rfl,_,_,rfl,rfl,(by show(0:Int)<2*10^Int.toNat 28+1;decide),_,_,rfl,rfl,⟨by decide,by decide,by decide⟩,_,_,rfl,rfl,?_⟩;refine⟨_,rfl,a,ns,2,rfl,m0,n0,by lia,λb1=>?_⟩;refine⟨_,_,rfl,rfl,⟨by decide,by decide⟩,_,rfl,_,_,rfl,.inl ⟨_,ca.of t0,rfl⟩,_,_,rfl,rfl,(by rw[S0];lia),?_⟩;obtain⟨n,s1⟩:∃n:Nat,b1/625%(((ms.map V.int).length:Nat):Int)=(n:Int):=by
   have D0:=Int.emod_nonneg (b1/625) (b:=(((ms.map V.int).length:Nat):Int)) (by rw[S0];lia);exact⟨_,(Int.toNat_of_nonneg D0).symm⟩
  have F0:=rC (ms.map V.int) n;have G0:=Dr (ms.map V.int) n;rw[<-s1]at F0 G0;rw[<-List.map_drop]at F0;rw[<-List.map_take]at G0;refine⟨_,rfl,_,rfl,_,rfl,l0,_,rfl,ca.of t0,λq1 D0=>?_⟩;rw[F0];have c1:=aa.upd (o:=HO.lst ((ms.drop n).map V.int)) D0;refine⟨_,rfl,_,rfl,_,rfl,l0,_,rfl,ca.of (c1 _ _ t0),λq2 t1=>?_⟩;rw[G0];have d1:=aa.upd (o:=HO.lst ((ms.take n).map V.int)) t1;have I0:(ms.drop n++ms.take n).length=ms.length:=by rw[Ya,Kg,se];lia
  refine⟨q1,q2,_,_,rfl,rfl,d1 _ _ ia,ia,(by rw[ua,ua,<-Ya,I0];lia),λq3 u1=>?_⟩;rw[<-Qd];have v1:=aa.upd (o:=HO.lst ((ms.drop n++ms.take n).map V.int)) u1;have Y:=(c1.trans d1).trans v1;have a0:=ia (H:=upd (upd H q1 (.lst ((ms.drop n).map V.int))) q2 (.lst ((ms.take n).map V.int))) (a:=q3) (o:=HO.lst ((ms.drop n++ms.take n).map V.int));generalize upd (upd (upd H q1 (.lst ((ms.drop n).map V.int))) q2 (.lst ((ms.take n).map V.int))) q3 (.lst ((ms.drop n++ms.take n).map V.int))=U at*;have s0:(ms.drop n++ms.take n).Perm ms:=Fk.trans (by rw[Ng]);generalize ms.drop n++ms.take n=os at*;refine⟨_,rfl,a,ns,2,rfl,Y.seq m0,n0,by lia,λK1=>?_⟩;refine⟨_,_,rfl,rfl,⟨by decide,by decide⟩,_,_,rfl,rfl,(by show(0:Int)<2;decide),rfl,_,rfl,jb (λy=>?_) (λy=>T0 _ _ q3 os U Y a0 (s0.nodup_iff.mpr J0) I0 λx=>s0.mem_iff)⟩;refine⟨_,rfl,q3,_,rfl,a0,λw1 x1=>?_⟩;rw[<-List.map_reverse];exact T0 _ _ w1 os.reverse _ (Y.trans (aa.upd x1)) ia ((Wo os).nodup_iff.mpr (s0.nodup_iff.mpr J0)) (by rw[List.length_reverse,I0]) λx=>List.mem_reverse.trans s0.mem_iff
--@La
def UM(T:Tx K mg):T.Gw.Ok P w base 3 (HM K):=by
 refine Ua T.Gw.F λH _ _ _ r0 h=>?_
 ·obtain⟨a,e0,o,A0,ns,ms,os,Y0,rfl,I0,n0,s0,J0,Y1,o1,p1,r1,s1,t1,q⟩:=h;have K0:=kc r0;refine⟨_,(pa (Ma 4 Wu)
   (pa (Jb Db rfl (Za (pv 1)) (bb 5)
   (ma (dm K0 (pv 4) (pv 5) (jc Oc) rfl)))
   (pa (Jb Db rfl (Yl rfl T.zm (Ca (Cd (ID rfl) (by rfl) T.DJ boot_max (ka la (Ca (Cd (JD rfl) (by rfl) T.Rw boot_min (ka la (Ca (eb Gu (Cd Yf (by rfl) T.Cf mf (za 0)) la))))))))) (bb 6)
   (pa (Ma 5 (fb T.Bt (BC T) r0 (ka (fb T.Zj (Lm T) r0 (ka (pv 0) (Ca (eb wg la (pv 6))))) (za 6))))
   (pa (Ma 7 (Ja ci (pv 1) (eb Vg (pv 5) (Cd Yf (by rfl) T.Cf mf (za 1)))))
   (ma (Nd (Xc jd ph vh Bh (Mc K0 (pv 4) (pv 7)) (Ca (fb T.Fw (SM T) r0 (ka (pv 5) (ka (pv 7) (ka (pv 2) (za 3))))))))))))
   (pa (Ma 8 (jc Oc))
   (pa (Ma 9 (fb T.Zj (Lm T) r0 (ka (pv 0) (Ca la))))
   (pa (Jb Db rfl (Za (pv 1)) (bb 5)
   (pa (Nd (Xc jd ph vh Bh (pv 8) (Ca (Rb (ka (pv 5) (ka (Ja ci (jc (ka Ib (ka Ib (ka Ib (ka Ib (Ca Ib)))))) (eb Vg (pv 9) la)) (Ca (Mc K0 (pv 4) (pv 5)))))))))
   (ma (Ma 9 (eb Ij (pv 9) la)))))
   (ma (Ga (pv 8))))))))),?_⟩
  show let u1:TS:=_;let v1:TS:=_;let w1:TS:=qa _ v1;let x1:TS:=qa (Qb _ _ w1) u1;let y1:TS:=qa _ x1;let z1:TS:=qa _ y1;let A1:TS:=_;let B1:TS:=qa _ A1;let C1:TS:=qa _ B1;let Z0:TS:=qa (Qb _ _ C1) z1;let D1:TS:=qa (Qb _ _ _) Z0;qa _ D1 _ _ _
  intros;have Z0:(2000:Nat)<=vN:=by decide
  have t0:(ms.map V.int).length=ms.length:=ua _;intro d a1;have b1:=aa.upd (o:=HO.dK []) a1;refine⟨_,rfl,e0,rfl,⟨_,ca.of (b1 _ _ s0)⟩,nc (K:=K) (a:=e0) (xs:=ms.map V.int) (λi J o0=>aa H o0/\∃(O:Option V)(ls:List uN),J=[qN (.ref a),qN (.ref e0),qN (.ref o),qN (.ref A0),qN (.ref d),O,sN,sN,sN,sN]/\(∀l∈ls,H l=sN)/\uk o0 d (ms.take i) ls ((ms.take i).map λ_=>[])) ⟨b1,sN,[],rfl,(λl n0=>by cases n0),⟨ia,rfl,rfl,.nil,λi l lk e=>by cases e⟩⟩ (by rintro i J o0 _⟨j0,_⟩;exact ca.of (j0 _ _ s0)) ?_ ?_⟩
  ·rintro i y J o0 k0⟨j0,O,ls,rfl,L0,U⟩;rw[lb]at k0;obtain⟨n,a0,rfl⟩:=Jd.mp k0;have c1:ms.take (i+1)=ms.take i++[n]:=by rw[gc,a0];rfl
   have E1:n∉ms.take i:=λz=>by
    have:(ms.take (i+1)).Nodup:=J0.sublist (List.take_sublist _ _);rw[c1]at this;exact(Hl.mp this).2.2 n z n (.head _) rfl
   refine⟨(by show 0<=vN;exact Va _),λl p0=>⟨_,rfl,_,rfl,d,_,rfl,eg.k (k:=.inl n) (aa.upd (o:=HO.lst []) p0 _ _ U.dict) ?_,?_⟩⟩
   ·rw[MM U.ll,se];lia
   have d1:=aa.upd (o:=HO.lst []) p0;have ld:l≠d:=λz=>by rw[z,U.dict]at p0;cases p0
   have F1:Ka (rj (ms.take i) ls) (.inl n)=sN:=by
    cases e:Ka (rj (ms.take i) ls) (.inl n)with
    |none=>rfl
    |some v=>
     obtain⟨q,G1,g⟩:=Sa.mp (au e);have:q.1=n:=Ji (Vb Prod.fst g);exact absurd (this▸(Pm G1).1) E1
   have H1:l∉ls:=λz=>by obtain⟨ys,e⟩:=U.lst z;rw[p0]at e;cases e
   refine⟨λb o e=>?_,_,ls++[l],rfl,λx l0=>?_,?_⟩
   ·rw[ja (λz=>by rw[z,a1]at e;cases e)];exact d1 _ _ (j0 _ _ e)
   ·rcases fc.mp l0 with z|z
    ·exact L0 x z
    ·rw[cc.mp z];exact j0.free p0
   ·rw[c1,Su _ F1];refine⟨?_,by rw[Ya,Ya,U.ll];rfl,by rw[ua],Hl.mpr ⟨U.nd,by simp,λx l0 y k0 e=>H1 (by rw[cc.mp k0]at e;exact e▸l0)⟩,λM0 e1 lk r g=>?_⟩
    ·rw[ia];unfold rj;rw[List.zip_append U.ll.symm,Qd];rfl
    ·have B0:lk=[]:=by
      rw[lb]at g;obtain⟨_,_,u0⟩:=Jd.mp g;exact u0.symm
     subst B0;by_cases z:M0<ls.length
     ·rw[Vo z]at r;have:M0<(ms.take i).length:=by rw[<-U.ll];exact z
      obtain⟨ys,N0,t⟩:=U.at_ M0 e1 [] r (by rw[lb,Wb this];rfl);have I1:ys=[]:=by cases t;rfl
      subst I1;refine⟨[],?_,.nil⟩;rw[ja (λq=>by rw[q,U.dict]at N0;cases N0)];exact d1 _ _ N0
     ·rw[cp (by simp_all)]at r;have:e1=l:=by
       have:=Xa r;exact cc.mp this
      subst this;refine⟨[],?_,.nil⟩;rw[ja ld,ia]
  rintro J o0⟨j0,O,ls,rfl,L0,U⟩;rw[t0,vc]at U;have J1:Ju K (V.ref a) o0 (ns.map V.int).length:=.inl ⟨_,j0.seq I0,rfl⟩;have K1:(if(if(((ns.map V.int).length:Nat):Int)-4<24 then(((ns.map V.int).length:Nat):Int)-4 else 24)>4 then(if(((ns.map V.int).length:Nat):Int)-4<24 then(((ns.map V.int).length:Nat):Int)-4 else 24)else 4)<=(24:Int)/\(4:Int)<=(if(if(((ns.map V.int).length:Nat):Int)-4<24 then(((ns.map V.int).length:Nat):Int)-4 else 24)>4 then(if(((ns.map V.int).length:Nat):Int)-4<24 then(((ns.map V.int).length:Nat):Int)-4 else 24)else 4):=by
   split<;>(try split)<;>lia
  refine⟨_,rfl,_,_,rfl,J1,_,_,rfl,rfl,_,_,rfl,_,_,rfl,_,rfl,?_⟩;generalize(if(if(((ns.map V.int).length:Nat):Int)-4<24 then(((ns.map V.int).length:Nat):Int)-4 else 24)>4 then(if(((ns.map V.int).length:Nat):Int)-4<24 then(((ns.map V.int).length:Nat):Int)-4 else 24)else 4)=B at K1⊢;refine⟨by lia,by lia,rr (n:=B.toNat) (λj J v0=>aa H v0/\∃(O C0 D0:Option V)(d0:List (List Lk)),J=[qN (.ref a),qN (.ref e0),qN (.ref o),qN (.ref A0),qN (.ref d),O,C0,D0,sN,sN]/\uk v0 d ms ls d0/\d0.flatten.length<=j/\∀(i:Nat)n lk,ms[i]?=qN n->d0[i]?=qN lk->∀x∈lk,x.length<=4/\∀q∈x,eu Y0 n q) ⟨j0,O,sN,sN,_,rfl,U,?_,λi n lk _ e=>?_⟩ ?_ ?_⟩
  ·refine Cj (List.length_eq_zero_iff.mpr (List.flatten_eq_nil_iff.mpr λl n0=>?_));obtain⟨_,_,rfl⟩:=Sa.mp n0;rfl
  ·rw[lb]at e;obtain⟨_,_,rfl⟩:=Jd.mp e;exactλx l0=>by cases l0
  ·rintro j J v0 Z1⟨b0,O,C0,D0,d0,rfl,Y,f1,F0⟩;refine⟨_,rfl,_,rfl,_,_,rfl,rfl,a,ns,4+j,(by show[V.ref a,V.int (4+(0+(j:Int)))]=_;rw[show(4:Int)+(0+(j:Int))=((4+j:Nat):Int)by simp_all]),b0.seq I0,n0,by grind,λc=>⟨_,rfl,c,j,(by rw[Int.zero_add];rfl),by grind,λz L1 a2=>?_⟩⟩;have g1:=b0 _ _ s0;obtain⟨c0,M1,O0⟩:∃c0:Nat,z%(((ms.map V.int).length:Nat):Int)=(c0:Int)/\c0<ms.length:=by
    rw[t0];have P0:=Int.emod_nonneg z (b:=(ms.length:Int)) (by lia);have b2:=Int.emod_lt_of_pos z (b:=(ms.length:Int)) (by lia);exact⟨(z%(ms.length:Int)).toNat,(Int.toNat_of_nonneg P0).symm,by simp_all⟩
   obtain⟨n,a0⟩:∃n,ms[c0]?=qN n:=⟨_,Wb O0⟩;obtain⟨l,m0⟩:∃l,ls[c0]?=qN l:=⟨_,Wb (by rw[Y.ll];exact O0)⟩;obtain⟨Q0,q0⟩:∃lk,d0[c0]?=qN lk:=⟨_,Wb (by rw[Y.kl];exact O0)⟩;obtain⟨ys,R0,S0⟩:=Y.at_ c0 l Q0 m0 q0;have c2:ys.length<=1000:=by
    rw[S0.len,ua];have:=(iu (Xa q0)).length_le;lia
   refine⟨_,rfl,_,rfl,_,rfl,_,_,rfl,.inl ⟨_,ca.of g1,rfl⟩,_,_,rfl,rfl,(by rw[t0];lia),e0,_,_,.int n,rfl,rfl,ca.of g1,?_,?_⟩
   ·rw[M1];exact qb (by rw[lb,a0];rfl)
   refine⟨_,rfl,_,rfl,d,.ref l,rfl,.inl ⟨_,.inl n,.inl Y.dict,rfl,(xC Y.ll J0 a0 m0).symm⟩,.inl ⟨rfl,_,ca.of R0⟩,_,rfl,_,rfl,_,rfl,_,rfl,z,n,o,A0,os,ms,Y0,rfl,L1,b0 _ _ p1,r1 n (Xa a0),o1,s1.same b0,t1,λd2 N1 O1 e2 T0 P1 Q1 R1=>?_⟩;refine⟨l,ys,_,rfl,rfl,T0 _ _ R0,(by lia),λf2 S1 h1=>?_⟩;refine⟨Km (L0 l (Xa m0)) (b0.trans T0) h1,_,_,_,d0.set c0 (Q0++[N1]),rfl,Y.grow m0 q0 R0 T0 P1 S1 h1,?_,λi T1 lk r g=>?_⟩
   ·rw[PM q0];exact bp f1
   ·by_cases z:c0=i
    ·subst z;rw[Nq (rb.mp q0).1]at g;cases g;rw[a0]at r;cases r;intro x l0;rcases fc.mp l0 with y|y
     ·exact F0 c0 n Q0 a0 q0 x y
     ·rw[cc.mp y];exact⟨Q1,R1⟩
    ·rw[Zq z]at g;exact F0 i T1 lk r g
  rintro J v0⟨b0,O,C0,D0,d0,rfl,Y,f1,F0⟩;refine⟨(by show 0<=vN;exact Va _),λf0 w0=>?_⟩;have sp:=aa.upd (o:=HO.lst []) w0;refine⟨_,rfl,a,ns,2,rfl,(b0.trans sp).seq I0,n0,by lia,λU1=>?_⟩;refine⟨_,rfl,e0,rfl,⟨_,ca.of (sp _ _ (b0 _ _ s0))⟩,nc (K:=K) (a:=e0) (xs:=ms.map V.int) (λi J g0=>aa v0 g0/\∃(O:Option V)(c:Int)(ys:List V)(h0:List Dl),J=[qN (.ref a),qN (.ref e0),qN (.ref o),qN (.ref A0),qN (.ref d),O,C0,D0,qN (.ref f0),qN (.int c)]/\g0 f0=qN (.lst ys)/\Qa (ye g0 f0) ys (h0.map ee)/\h0.map (·.1)=ms.take i/\h0.map (·.2.2)=d0.take i/\∀d∈h0,d.2.1∈Rf) ⟨sp,O,U1,[],[],rfl,ia,.nil,rfl,rfl,λd h=>by cases h⟩ (by rintro i J g0 _⟨i0,_⟩;exact ca.of (i0 _ _ (b0 _ _ s0))) ?_ ?_⟩
  ·rintro i y J g0 k0⟨i0,O,c,ys,h0,rfl,x0,G0,r,g,U0⟩;rw[lb]at k0;obtain⟨n,a0,rfl⟩:=Jd.mp k0;have i1:=(rb.mp a0).1;obtain⟨l,m0⟩:∃l,ls[i]?=qN l:=⟨_,Wb (by rw[Y.ll];exact i1)⟩;obtain⟨lk,B0⟩:∃lk,d0[i]?=qN lk:=⟨_,Wb (by rw[Y.kl];exact i1)⟩;obtain⟨g2,V0,S0⟩:=Y.at_ i l lk m0 B0;have h2:ys.length<=4:=by
    have:=Vb List.length r;rw[ua,se]at this;rw[G0.len,ua];grind
   refine⟨_,rfl,.inl ⟨rfl,_,ca.of x0⟩,_,rfl,pf,λq1 P0=>?_⟩;have W0:=aa.upd (o:=HO.lst ((["loose","kept","make","watch","hold"]:List Str).map V.str)) P0;obtain⟨v,j1⟩:=av (xs:=(["loose","kept","make","watch","hold"]:List Str).map V.str) (i:=c%5) (by lia) (by show c%5<5;lia);obtain⟨y0,V1,rfl⟩:=Sa.mp (bv j1);refine⟨_,rfl,_,_,rfl,rfl,(by show(0:Int)<5;decide),q1,_,_,_,rfl,rfl,ca.of ia,j1,_,rfl,_,rfl,d,.ref l,rfl,.inl ⟨_,.inl n,.inl (W0 _ _ (i0 _ _ Y.dict)),rfl,(xC Y.ll J0 a0 m0).symm⟩,Ec,λt k1=>?_⟩;have st:=W0.trans (aa.upd (o:=HO.tup [.int n,.str y0,.ref l]) k1);have l1:=W0.free k1;have W1:upd (upd g0 q1 (.lst ((["loose","kept","make","watch","hold"]:List Str).map V.str))) t (.tup [.int n,.str y0,.ref l]) t=qN (.tup [.int n,.str y0,.ref l]):=ia;refine⟨f0,ys,_,rfl,rfl,st _ _ x0,(by lia),λO1 X1 z0=>?_⟩;have pt:t≠f0:=λy=>by rw[y,x0]at l1;cases l1
   have pl:l≠f0:=λy=>by rw[y,w0]at V0;cases V0
   refine⟨_,rfl,_,_,rfl,rfl,⟨by decide,by decide⟩,Km w0 (i0.trans st) z0,_,_,ys++[.ref t],h0++[(n,y0,lk)],rfl,X1,?_,?_,?_,λd' X0=>?_⟩
   ·rw[Qd];refine Qa.app (G0.same λb o e=>ff (df e).1 (z0 b o (df e).1 (st _ _ (df e).2))) (.cons (.tup (ff pt (z0 t _ pt W1)) (.cons (.int n) (.cons (.str y0) (.cons (.lst (ff pl (z0 l _ pl (st _ _ (i0 _ _ V0)))) (S0.same λb o e=>?_)) .nil)))) .nil);obtain⟨_,u0⟩:=AC e;have m1:b≠f0:=λy=>by rw[y,w0]at u0;cases u0
    exact ff m1 (z0 b o m1 (st _ _ (i0 _ _ u0)))
   ·rw[Qd,r,gc,a0];rfl
   ·rw[Qd,g,gc,B0];rfl
   ·rcases fc.mp X0 with y|y
    ·exact U0 d' y
    ·rw[cc.mp y];exact V1
  ·rintro J g0⟨i0,O,c,ys,h0,rfl,x0,G0,r,g,U0⟩;rw[t0,vc]at r;rw[t0,<-Y.kl,vc]at g;refine⟨_,rfl,q f0 h0 g0 (b0.free w0) (b0.trans i0) (.lst x0 (G0.same Ur)) ⟨r,U0,λd' X0=>?_,?_⟩⟩
   ·obtain⟨i,n1⟩:=Hd.mp X0;exact F0 i d'.1 d'.2.2 (by rw[<-r,lb,n1];rfl) (by rw[<-g,lb,n1];rfl)
   ·rw[List.flatMap_def,g];lia
--@La
def Gq(g:List Dl):Prop:=g.length<=6/\(g.map (·.1)).Nodup/\∀d∈g,(gf d).length<=120
inductive VM(vs:List V)(H:Hp)(Q:VK)(E:XK):Prop|mk(t:uN)(s:Str)(x1:V)(r:List V)(d:V)(m:uN)(ds:List Dl)(mk:List pb)(_:vs=[.ref t,d,.ref m])(_:H t=qN (.tup (.str s::x1::r)))(_:r.length<=10)(_:(s="order"->∀j,ud ds mk j->jk ds j))(_:Tr H d (.list (ds.map ee)))(_:Gq ds)(_:qj H m mk)(_:∀H',KF H H'->Q (.bl wN) H')
def WM{H:Hp}{m:uN}{r:List Dl}{mk:List pb}(g:Gq r)(h:qj H m mk):ux r mk:=⟨gb g.1 (by decide),g.2.1,λd J=>gb (g.2.2 d J) (by decide),h.1.2⟩
def XM{g:List Dl}(J:(g.map (·.1)).Nodup){i:Nat}{d:Dl}(h:g[i]?=qN d):Gb (jf (g.take i)) (.inl d.1) (.str d.2.1)=jf (g.take (i+1)):=by
 have r:g.take (i+1)=g.take i++[d]:=by rw[gc,h];rfl
 have O:jf (g.take i++[d])=jf (g.take i)++[(.inl d.1,.str d.2.1)]:=Qd ..;rw[r,O];refine Su _ ?_;cases e:Ka (jf (g.take i)) (.inl d.1)with
 |none=>rfl
 |some v=>
  obtain⟨x,U,Y⟩:=Sa.mp (au e);have a0:x.1=d.1:=Ji (Vb Prod.fst Y);have:((g.take (i+1)).map (·.1)).Nodup:=J.sublist ((List.take_sublist _ _).map _);rw[r,Qd]at this;exact absurd rfl ((Hl.mp this).2.2 x.1 (Sa.mpr ⟨x,U,rfl⟩) d.1 (.head _)|>λn=>a0▸n)
def CC(T:Tx K mg):T.Ft.Ok P w base 6 VM:=by
 refine Ua T.Ft.F λH _ _ _ Y h=>?_
 ·obtain⟨t,p0,Y0,x0,d,m,J,mk,rfl,j0,Z0,c0,k0,a0,l0,q⟩:=h;have y0:=kc Y;refine⟨_,(pa (qc (PW.pt (fD (wn (Kk (Cd RE (by rfl) T.CJ boot_isinstance (ka (pv 0) (Ca (ZC (v:=V.ty "tuple") rfl T.FJ boot_tuple rfl)))))) (eD (xb Hu (Cd Yf (by rfl) T.Cf mf (za 0)) la (Bb _)))))
   (ma (Ga vg))
   pc)
   (pa (qc (xb Sk (Ja zb (pv 0) la) Ib (Bb _))
   (ma (Ga vg))
   pc)
   (pa (Ma 3 Wu)
   (pa (Jb Db rfl (Za (pv 1)) (Jf rfl (Ub (bb 4) (Ub (bb 5) (Ub (bb 6) ve))))
   (ma (dm y0 (pv 3) (pv 4) (pv 5) rfl)))
   (pa (Jb Db rfl (Za (fb T.Kw (zM T) Y (ka (pv 1) (za 2)))) (bb 7)
   (ma (qc (wn (Kk (fb T.Mw (kM T) Y (ka (pv 7) (za 3)))))
   (ma (Ga vg))
   pc)))
   (ma (Ga (zh (XE Y.units) (fb T.Bw (lM T) Y (Ca (Rb (ka (pv 1) (za 2))))) (jc Oc) (Bb _))))))))),?_⟩
  show let z0:TS:=_;let A0:TS:=qa (Qb _ _ (zc _ _ _)) z0;let B0:TS:=qa (Qb _ _ _) A0;let C0:TS:=qa _ B0;let D0:TS:=qa (zc _ _ _) C0;qa (zc _ _ _) D0 _ _ _
  intros;have a1:(2000:Nat)<=vN:=by decide
  refine⟨_,rfl,_,_,_,_,rfl,xg.tup j0,SE,_,rfl,yg ?_⟩;refine⟨_,rfl,_,_,rfl,.inr ⟨_,oa.of j0,rfl⟩,_,_,rfl,rfl,_,rfl,jb (λy=>absurd (yd y) (by show¬((((x0.length+1+1:Nat)):Int)<2);lia)) (λ_=>?_)⟩;refine⟨_,rfl,t,_,_,_,rfl,rfl,oa.of j0,qb (j:=0) rfl,rfl,_,rfl,jb (λy=>q _ (KF.of (aa.refl _))) (λy=>?_)⟩;have es:p0="order":=by
   refine Og λz=>y ?_
   have:V.str p0≠V.str "order":=λe=>z (by injection e)
   rw[he this];rfl
  have c0:=c0 es;refine ea0 ?_ (Sf k0);rintro U xs rfl q0 r0;have F0:xs.length=J.length:=by rw[r0.len,ua]
  have m0:=a0.2.1;have b1:=a0.1;intro wp s0;have t0:=aa.upd (o:=HO.dK []) s0;refine⟨_,rfl,U,rfl,⟨_,ca.of (t0 _ _ q0)⟩,nc (K:=K) (a:=U) (xs:=xs) (λi g b0=>aa H b0/\∃(d0 e0 f0:Option V),g=[qN (.ref t),qN (.ref U),qN (.ref m),qN (.ref wp),d0,e0,f0,sN]/\b0 wp=qN (.dK (jf (J.take i)))) (⟨t0,nx7 sN sN sN rfl ia⟩) (by rintro i g b0 _⟨r,_⟩;exact ca.of (r _ _ q0)) ?_ ?_⟩
  ·rintro i y g b0 g0;refine ebD ?_;rintro r d0 e0 f0 rfl h0;have c1:=(rb.mp g0).1;refine ea1 ?_ (Fi r0 g0);rintro d G0 I0;refine ea5 ?_ (hf I0);rintro a l d1 rfl J0 _ _;refine nx6 a _ rfl (oa.of (r _ _ J0)) rfl (nx4 _ _ rfl (nx4 _ _ rfl (nx0 _ _ rfl rfl ⟨_,rfl,_,rfl,_,rfl,wp,_,rfl,eg.k (k:=.inl d.1) h0 ?_,?_⟩)))
   ·show(jf (J.take i)).length<_;rw[show(jf (J.take i)).length=_ from ua _,se];grind
   ·refine⟨λb o e=>?_,nx7 _ _ _ rfl ?_⟩
    ·rw[ja (λz=>by rw[z,s0]at e;cases e)];exact r _ _ e
    ·rw[ia,XM m0 G0]
  rintro g b0;refine ebD ?_;rintro r d0 e0 f0 rfl h0;rw[F0,vc]at h0;refine⟨_,rfl,_,rfl,.ref U,m,J,mk,rfl,k0.same r,a0.1,m0,a0.2.2,l0.same r,λp ys js K0 e1 u0 v0 L0 M0 f1=>?_⟩;have N0:=u0 _ _ h0;have O0:=r.trans u0;refine⟨p,rfl,⟨_,ca.of v0⟩,nc (K:=K) (a:=p) (xs:=ys) (λi g i0=>aa K0 i0/\∃(n0:Option V),g=[qN (.ref t),qN (.ref U),qN (.ref m),qN (.ref wp),d0,e0,f0,n0]) ⟨aa.refl _,sN,rfl⟩ (by rintro i g i0 _⟨O,_⟩;exact ca.of (O _ _ v0)) ?_ ?_⟩
  ·rintro i y g i0 g0⟨O,n0,rfl⟩;refine ea1 ?_ (Lb L0 g0);rintro k P0 Q0;exact⟨_,rfl,_,rfl,y,wp,k,J,rfl,ic.kf (KF.of O) Q0,.inl (O _ _ N0),m0,c0 k (M0 k (Xa P0)),λR0 S0=>⟨_,rfl,yg ⟨O.trans S0,_,rfl⟩⟩⟩
  ·rintro g i0⟨O,n0,rfl⟩;have o0:=O0.trans O;refine⟨_,rfl,_,rfl,Ha,λT0 U0=>?_⟩;have st:=aa.upd (o:=HO.tup [.ref U,.ref m]) U0;refine⟨.ref T0,J,mk,rfl,.tup ia (.cons (k0.same (o0.trans st)) (.cons (l0.1.1.same (o0.trans st)) .nil)),WM a0 l0,c0,λg1 R0 h1 V0 W0=>⟨(by show 0<=vN;exact Va _),λe X0=>?_⟩⟩;have w0:=aa.upd (o:=HO.lst []) X0;refine⟨.list [],.list [],.lst (ca.of (w0 _ _ W0)) .nil,.lst (ca.of ia) .nil,rfl,rfl,?_⟩;rw[show PyData.eqv (.list []) (.list [])=wN from Xy []];exact q _ (((KF.of (o0.trans st)).trans V0).trans (KF.of w0))
--@La
def YM{α:Type}{l0 fs:L2.St}{k:Nat}{K:PySem.W.Frag}{l:uN}{xs:List V}{m0:TG}{n0:TT}{o0:TE}{Q:VK}{J:Hp}(W:Hp)(u0:aa W J)(g:List α)(p0 a0:α->MN)(v0:l0=List.replicate k sN++fs)(h0:J l=qN (.lst xs))(q0:Qa W xs (g.map p0))(hz:g.length<=vN)
  (step:∀a,a∈g->∀H (O:L2.St)v (R:Option V->L2.St->Hp->Prop),aa J H->O.length=k->Tr W v (p0 a)->(∀y (d0:L2.St)r,d0.length=k->aa H r->Tr (ze W H r) y (a0 a)->R (qN y) (d0++fs) r)->
   m0 v (O++fs) H λU w0=>n0 U w0 λok r=>if ok=wN then o0 U r λy x0=>R (qN y) U x0 else R sN U r)
  (fin:∀D H' ys,J D=sN->aa J H'->H' D=qN (.lst ys)->Qa (ye (ze W J H') D) ys (g.map a0)->Q (.ref D) H'):Nf l0 (bf K l) m0 n0 o0 Q J:=by
 have F0:xs.length=g.length:=by rw[q0.len,ua]
 have G0:∀{r:Hp}{b:uN}{o:HO},ze W J r b=qN o->r b=qN o:=λ{r b o}e=>by
  unfold ze at e;split at e
  ·cases e
  ·exact e
 intro D e0;have y0:W D=sN:=u0.free e0;refine⟨λi m ys r0 H=>m=g.length-i/\i<=g.length/\ys.length=i/\Qa (ye (ze W J H) D) ys ((g.take i).map a0)/\(∃O:L2.St,O.length=k/\r0=O++fs)/\aa J H/\H D=qN (.lst ys),⟨g.length,rfl,Va _,rfl,.nil,⟨_,Go,v0⟩,aa.upd e0,ia⟩,?_⟩;rintro i m ys r0 H⟨rfl,I0,J0,i0,⟨O,z0,rfl⟩,Y,f0⟩;refine⟨f0,?_⟩;by_cases j0:i<g.length
 ·refine .inr ⟨(Pd (ca.of (Y _ _ h0))).go i (by lia),by lia,?_⟩;rintro v H' ⟨rfl,A0⟩;have e:=A0 xs (ca.of (Y _ _ h0));refine ea1 ?_ (q0.get e);rintro d s0 tr;have t0:g[i]?=qN g[i]:=Wb j0;rw[lb,t0]at s0;cases s0;refine step g[i] (List.getElem_mem j0) H' O v (λo U r=>match o with
   |some y=>r D=qN (.lst ys)/\∃b0,b0<g.length-i/\b0=g.length-(i+1)/\i+1<=g.length/\(ys++[y]).length=i+1/\Qa (ye (ze W J (upd r D (.lst (ys++[y])))) D) (ys++[y]) ((g.take (i+1)).map a0)/\(∃O:L2.St,O.length=k/\U=O++fs)/\aa J (upd r D (.lst (ys++[y])))/\upd r D (.lst (ys++[y])) D=qN (.lst (ys++[y]))
   |none=>∃b0,b0<g.length-i/\b0=g.length-(i+1)/\i+1<=g.length/\ys.length=i+1/\Qa (ye (ze W J r) D) ys ((g.take (i+1)).map a0)/\(∃O:L2.St,O.length=k/\U=O++fs)/\aa J r/\r D=qN (.lst ys)) Y z0 tr λy d0 r B0 k0 C0=>?_
  refine⟨k0 _ _ f0,g.length-(i+1),by lia,rfl,j0,(by rw[Ya,uj];lia),?_,⟨d0,B0,rfl⟩,(Y.trans k0).again e0,ia⟩;rw[gc,t0,Qd];refine Qa.app (i0.same λb o e=>?_) (.cons (C0.same λb o e=>?_) .nil)
  ·obtain⟨c0,g0⟩:=df e;refine ff c0 ?_;unfold ze at g0⊢;split at g0
   ·cases g0
   ·next h=>
    rw[na h,ja c0];exact k0 _ _ g0
  ·unfold ze at e;split at e
   ·cases e
   ·next h=>
    have c0:b≠D:=λz=>by rw[z,y0,f0]at h;simp at h
    refine ff c0 ?_;unfold ze;rw[ja c0,na]
    ·exact e
    ·intro z;rw[Vm]at z;refine h ?_;rw[z.1,Bool.true_and];obtain⟨K0,D0⟩:=jn.mp z.2;rw[Y _ _ D0];rfl
 ·have e:i=g.length:=by lia
  subst e;rw[vc]at i0;exact .inl ⟨(Pd (ca.of (Y _ _ h0))).stop _ (by lia),fin D H ys e0 Y f0 i0⟩
def ZM{W H g:Hp}:aa (ze W H g) g:=λb o e=>by
 unfold ze at e;split at e
 ·cases e
 ·exact e
def lf(g:List pb):List pb:=g.filter λr=>decide (r.2≠[])
def aN(r:List pb):r.filterMap (λg=>if g.2≠[]then qN (qe g)else sN)=(lf r).map qe:=by
 unfold lf;induction r with
 |nil=>rfl
 |cons g t J=>
  rw[wh,To];by_cases z:g.2≠[]
  ·rw[va z,va (Xb z),Sc,J]
  ·rw[na z,na (by rw[vk];exact z),J]
def bN{ms:List pb}(U:(ms.map (·.1)).Nodup){m:pb}(h:m∈ms):kb ms m.1=m.2:=by
 obtain⟨i,r⟩:=Hd.mp h;have J:(ms.map (·.1))[i]?=qN m.1:=by rw[lb,r];rfl
 have g:=ro (ms:=ms) (k:=m.1) (Xa J);have O:(ms.map (·.1))[nl ms m.1]?=qN m.1:=by rw[lb,g];rfl
 have:nl ms m.1=i:=(hp (rb.mp O).1 U).mp (O.trans J.symm);rw[this,r]at g;exact(Vb Prod.snd (Ed g)).symm
def DC{α:Type}(xs:List α):(Nc xs).length*2+xs.length=xs.length*xs.length:=by
 induction xs with
 |nil=>rfl
 |cons x g r=>
  show(g.map (λy=>(x,y))++Nc g).length*2+(g.length+1)=(g.length+1)*(g.length+1);have e:(g.length+1)*(g.length+1)=g.length*g.length+2*g.length+1:=by rw[Nat.mul_add,Nat.add_mul];lia
  rw[Ya,ua,e];lia
def cN(w:Option Str)(d:Dl):(Qc w d).length<=d.2.2.length+2:=by
 unfold Qc;rw[ua,Ef];cases wb w d<;>simp only[Pe]<;>simp_all
def EC{w:Option Str}{p:Ps}(r:GH p)(J:(p.1.flatMap (·.2.2)).length<=24)  (l:List Dl):(∀d∈l,d∈p.1)->(l.flatMap (Qc w)).length<=(l.flatMap (·.2.2)).length+2*l.length/\(l.flatMap (Jh w)).length*2<=25*(l.flatMap (Qc w)).length/\(l.flatMap (jh w p)).length<=32*(l.flatMap (·.2.2)).length:=by
 induction l with
 |nil=>exactλ_=>⟨wa _,wa _,wa _⟩
 |cons d Y O=>
  intro h;obtain⟨a0,b0,c0⟩:=O λx U=>h x (.tail _ U)
  have g:=h d (.head _);have d0:=cN w d;have dl:d.2.2.length<=24:=by
   refine gb ?_ J;rw[List.flatMap_def];exact(iu (Sa.mpr ⟨d,g,(rfl:(λx:Dl=>x.2.2) d=d.2.2)⟩)).length_le
  have e0:=DC (Qc w d);have f0:(Jh w d).length=(Nc (Qc w d)).length:=by unfold Jh;rw[ua]
  have g0:(Qc w d).length*(Qc w d).length<=26*(Qc w d).length:=Nat.mul_le_mul_right _ (by lia);have h0:(jh w p d).length<=32*d.2.2.length:=by
   unfold jh;have:=vo (f:=ih w p d) (n:=32) (l:=List.range d.2.2.length) λi _=>NB r g i
   rwa[Ef]at this
  simp only[Ph,Ya,Vd];lia
def dN{n b:Nat}:∀{lk:List Lk},lk.length<=n->(∀x∈lk,x.length<=b)->lk.flatten.length<=n*b:=by
 intro lk;induction lk generalizing n with
 |nil=>intro _ _;exact Va _
 |cons x U J=>
  intro g r;rw[List.flatten_cons,Ya];match n,g with
  |n+1,g=>
   have:=J (n:=n) (Nat.le_of_succ_le_succ g) λy O=>r y (.tail _ O)
   have Y:=r x (.head _);have:(n+1)*b=n*b+b:=by rw[Nat.add_mul,Nat.one_mul]
   lia
structure FC(ms:List Int)(p:Ps):Prop where
 gj:GJ p
 own:∀d∈p.1,∀lk∈d.2.2,∀q∈lk,q.2≠d.1
 dg:Gq p.1
 GC:p.2.length<=4
 eN:∀r∈p.2,r.2.length<=1000
def fN{ms:List Int}{g:List pb}{O:List Dl}(up:ms.Pairwise (·<·))(pos:∀n∈ms,(1:Int)<=n)(m0:ms.length<=4)(U:du ms g)(J:wC ms g O):FC ms (O,lf g):=by
 have g0:ms.Nodup:=up.imp λl e=>by simp_all
 have h0:O.length<=4:=by have:=Vb List.length J.nums;rw[ua]at this;simp_all
 have mem:∀d∈O,d.1∈ms:=λd r=>J.nums▸Sa.mpr ⟨d,r,rfl⟩
 have dl:∀d∈O,d.2.2.length<=24:=λd r=>by
  refine gb ?_ J.Ab;rw[List.flatMap_def];exact(iu (Sa.mpr ⟨d,r,(rfl:(λx:Dl=>x.2.2) d=d.2.2)⟩)).length_le
 have i0:((lf g).map (·.1)).Pairwise (·<·):=U.up.sublist (List.filter_sublist.map _);have knd:((lf g).map (·.1)).Nodup:=i0.imp λl e=>by lia
 have j0:(lf g).length<=4:=gb (Hi _ _) (Cj U.len);have Y:∀m∈lf g,m∈g:=λm h=>(Ze.mp h).1
 have k0:∀m∈lf g,m.2.length<=4:=λm h=>gb (zg (U.Bo m (Y m h)).1 (U.Bo m (Y m h)).2) m0
 have d0:GH (O,lf g):=by
  refine⟨⟨gb h0 (by decide),J.nums▸g0,λd r=>⟨J.wd d r,gb (dl d r) (by decide)⟩⟩,J.nums▸up,λd r=>by have:=pos _ (mem d r);lia,i0,gb j0 (by decide),λm a0=>⟨(U.Bo m (Y m a0)).1,λx e0=>?_⟩,λd r lk b0=>⟨(J.lk d r lk b0).1,λq f0=>?_⟩⟩
  ·show x∈O.map (·.1);rw[J.nums];exact(U.Bo m (Y m a0)).2 x e0
  ·refine ea8 ?_ ((J.lk d r lk b0).2 q f0);rintro l0 c0 e(h|h|⟨h,_⟩)
   ·exact .inl h
   ·exact .inr (.inl h)
   ·refine .inr (.inr ?_);have:l0∈lf g:=Ze.mpr ⟨c0,Xb λz=>by rw[z]at h;cases h⟩;show q.2∈kb (lf g) q.1;rw[<-e,bN knd this];exact h
 refine⟨⟨d0,λw=>?_,λw=>?_⟩,λd r lk b0 q f0=>?_,⟨gb h0 (by decide),J.nums▸g0,λd r=>?_⟩,j0,λn0 c0=>gb (k0 n0 c0) (by decide)⟩
 ·obtain⟨o0,_⟩:=EC (w:=w) d0 J.Ab O λd h=>h
  have:=J.Ab;show(O.flatMap (Qc w)).length<=40;lia
 ·obtain⟨o0,q0,r0⟩:=EC (w:=w) d0 J.Ab O λd h=>h
  have s0:=vo (f:=Ci w (O,lf g)) (n:=6) (l:=lf g) λm a0=>by
   unfold Ci;rw[ua];have t0:=DC m.2;have p0:=k0 m a0;have u0:m.2.length*m.2.length<=4*m.2.length:=Nat.mul_le_mul_right _ p0;lia
  have:=J.Ab;show(O.flatMap (Jh w)++O.flatMap (jh w (O,lf g))++(lf g).flatMap (Ci w (O,lf g))).length<=1200;rw[Ya,Ya];lia
 ·have v0:=pos _ (mem d r);obtain⟨l0,c0,e,h|h|⟨_,h⟩⟩:=(J.lk d r lk b0).2 q f0
  ·rw[h];lia
  ·rw[h];lia
  ·exact h
 ·have:=dN (n:=24) (b:=4) (lk:=d.2.2) (dl d r) λx e0=>(J.lk d r x e0).1
  unfold gf;lia
def Hq{w:Option Str}{g:List Dl}{n k s:Int}(h:Mb (lg w g) n k s):Mb g n k s:=by
 obtain⟨d,r,e,h⟩:=h;obtain⟨J,O,rfl⟩:=Sa.mp r;exact⟨J,O,e,h⟩
def HC{w:Option Str}{g:List Dl}{mk:List pb}{n k o:Int}(h:Aq (lg w g) mk n k o):Aq g mk n k o:=by
 obtain⟨ms,s,r,J,O,U⟩:=h;exact⟨ms,s,r,J,Hq O,U⟩
def gN{w:Option Str}{r:List Dl}{mk:List pb}{j:List Key}(h:ud (lg w r) mk j):ud r mk j:=by
 cases h with
 |mj s=>exact .mj (Hq s)
 |mid s s' g=>exact .mid (Hq s) (Hq s') g
 |re J O s g=>exact .re J O (Hq s) g
 |ge U Y a0=>exact .ge U (HC Y) (HC a0)
def hN{w:Option Str}{g:List Dl}(h:Gq g):Gq (lg w g):=by
 refine⟨by unfold lg;rw[ua];exact h.1,?_,λd r=>?_⟩
 ·unfold lg;rw[Ve];exact h.2.1
 ·obtain⟨J,O,rfl⟩:=Sa.mp r;exact h.2.2 J O
def iN(g:List Dl):lg sN g=g:=by
 unfold lg;exact List.map_id' g
def IC{ms:List Int}{p:Ps}{w:Option Str}{Q:VK}{H:Hp}(g:FC ms p)(J:∀x,w=qN x->x∈Rf)(q:∀t s O r H',aa H H'->H' t=qN (.tup (.str s::O::r))->r.length<=10->(s="order"->∀j,ud (lg w p.1) p.2 j->jk (lg w p.1) j)->Q (.ref t) H'):VB Q H w p:=
  ⟨λa b c t H' s h=>q t _ _ _ H' s h Dj λe=>absurd e (by decide+kernel),λt o U H' s h _=>q t _ _ _ H' s h (by decide) λe=>absurd e (by decide+kernel),
   λY f a0 t o U H' s h _=>q t _ _ _ H' s h (by decide) λ_ j b0=>(nj.lets ⟨g.gj.gh,Y,g.own,a0⟩ J (gN b0))⟩
--@La
def jN(T:Tx K mg):T.Nw.Ok P w base 9 (fu K):=by
 refine Ua T.Nw.F λ{_ _ _ s}_ _ _ _ J h=>?_
 ·obtain⟨a,ns,rfl,i0,j0,R1,q⟩:=h;have S1:=kc J;refine⟨_,(pa (Ma 1 (fb T.Cw (QM T) J (za 0)))
   (pa (Nx (fb T.Dw (TM T) J (ka (pv 0) (za 1))) (Jf rfl (Ub (bb 2) (Ub (bb 3) ve))))
   (pa (jj 4 ["_law_row"] (by show(Oe _).Nodup;decide+kernel) [] [] (Za (pv 3)) (bc 0) (Mf (xb (GG (K:=K) rfl J.units) (Ja (ie (K:=K) rfl) (pv 0) la) (jc Oc) (Bb _))) (pv 0))
   (pa (Ma 5 (fb T.Gw (UM T) J (ka (pv 0) (ka (pv 1) (ka (pv 2) (za 3))))))
   (pa (qc (wn (Kk (fb T.Ft (CC T) J (ka (zn ((WB T).mono (by decide)) J rfl T.gl.m T.gl.F.kp T.gl.bd (show Ia [V.Ra] [Value.none]from .cons rfl .nil) Vk (Ca (Rb (ka (pv 5) (za 4))))) (ka (pv 5) (za 4))))))
   (ma (Ga vg))
   pc)
   (pa (Jb Db rfl (Za (jc (ka Ib (ka Ib (ka Ib (ka Ib (Ca Ib))))))) (bb 6)
   (pa (jj 7 ["_law_number","_law_own","_law_looks"] (by show(Oe _).Nodup;decide+kernel) ["_law_word"] [6] (Za (pv 5)) (Op (K:=K) (n:=3) rfl rfl (Ub (bc 0) (Ub (bc 1) (Ub (bc 2) ve)))) Ie (Rb (ka (pv 0) (ka (pv 3) (za 2)))))
   (ma (qc (wn (Kk (fb T.Ft (CC T) J (ka (zn ((WB T).mono (by decide)) J rfl T.gl.m T.gl.F.kp T.gl.b .nil Vk (ka (Rb (ka (pv 5) (za 4))) (za 6))) (ka (pv 7) (za 4))))))
   (ma (Ga vg))
   pc))))
   (ma (Ga vg)))))))),?_⟩
  show let c1:TS:=_;let d1:TS:=zc _ _ _;let e1:TS:=qa _ d1;let f1:TS:=qa (Qb _ _ e1) c1;let g1:TS:=qa (zc _ _ _) f1;let h1:TS:=qa _ g1;let i1:TS:=qa _ h1;let j1:TS:=qa _ i1;qa _ j1 _ _ _
  intros;have T1:(2000:Nat)<=vN:=by decide
  refine⟨_,rfl,a,ns,rfl,i0,j0,λk0 ms U1 V1 C0 D0 F0 k1 G0 l0=>?_⟩;have I0:ms.Nodup:=F0.imp λl e=>by lia
  refine⟨_,rfl,_,rfl,a,k0,ns,ms,rfl,C0.seq i0,j0,D0,I0,G0,l0,λl1 o m0 os d0 W1 m1 n1 o1 p1 J0 n0=>?_⟩;refine⟨l1,_,rfl,oa.of n1,rfl,_,_,rfl,_,_,rfl,rfl,?_⟩;obtain⟨X1,xs,e,K0,r1⟩:=Sf J0;cases e;have Y1:=n0.len;refine⟨_,rfl,m0,rfl,⟨_,ca.of K0⟩,Cz (k:=1) (fs:=[]) d0 qe (λr=>if r.2≠[]then qN (qe r)else sN) rfl K0 r1 (by lia) (λr Z1 L0 s1 v R a0 o0 tr M0 p0 t1=>?_) λmp L0 ys a2 q0 u1 N0=>?_⟩
  ·obtain⟨t,rfl⟩:=Zc.mp o0;obtain⟨c,l,rfl,r0,s0⟩:=Jm M0;refine⟨_,rfl,c,_,_,_,rfl,rfl,oa.of (a0 _ _ r0),qb (j:=1) rfl,(by show 0<=vN;exact Va _),λe v1=>?_⟩;have e0:=aa.upd (o:=HO.lst []) v1;refine⟨.list (r.2.map PyData.int),.list [],.lst (ca.of (e0 _ _ (a0 _ _ s0))) (Wy _),.lst (ca.of ia) .nil,pF _,rfl,_,rfl,?_⟩;by_cases f0:r.2=[]
   ·have t0:(!PyData.eqv (.list (r.2.map PyData.int)) (.list []))=yN:=by
     rw[f0,show PyData.eqv (.list (([]:List Int).map PyData.int)) (.list [])=wN from Xy []];rfl
    rw[t0];exact yg (t1 (na (λz=>z f0)) [_] _ rfl e0)
   ·have t0:(!PyData.eqv (.list (r.2.map PyData.int)) (.list []))=wN:=by
     rw[oF f0];rfl
    rw[t0];exact Xk ⟨_,rfl,p0 _ _ [_] _ (va f0) rfl e0 (M0.same (Vr (a0.trans e0)))⟩
  rw[aN]at N0;have w1:Tr L0 (.ref mp) (.list ((lf d0).map qe)):=.lst u1 (N0.same Ur);have O0:=m1.trans q0;refine⟨_,rfl,_,rfl,_,rfl,_,rfl,a,k0,o,m0,ns,ms,os,d0,rfl,(C0.trans O0).seq i0,j0,O0 _ _ D0,I0,G0,l0,q0 _ _ o1,p1,J0.same q0,n0,λb0 U u0 b2 x1 v0 y1=>?_⟩;have G:=fN F0 k1 l0 n0 y1;generalize lf d0=mk at*;have P0:=w1.same x1;have Q0:∀{O:Hp}{t:uN},KF u0 O->O t=sN->Tr (upd O t (.tup [.ref b0,.ref mp])) (.ref t) (Ih (U,mk)):=λ{O t}k g=>.tup ia (.cons ((v0.kf k).same (aa.upd g)) (.cons ((P0.kf k).same (aa.upd g)) .nil))
  have R0:∀{O:Hp},KF u0 O->qj O mp mk:=λ{O}k=>⟨⟨P0.kf k,gb G.GC (by decide),G.eN⟩,G.GC⟩
  refine⟨_,rfl,_,rfl,Ha,λt g=>?_⟩;have st:=aa.upd (o:=HO.tup [.ref b0,.ref mp]) g;refine⟨.ref t,(U,mk),sN,rfl,Q0 (KF.of (aa.refl _)) g,G.gj,(λx e=>by cases e),IC G (λx e=>by cases e) λt s w0 r O z1 A1 B1 g0=>?_⟩;have x0:=KF.of (st.trans z1);rw[iN]at g0;refine⟨_,rfl,_,rfl,t,s,w0,r,.ref b0,mp,U,mk,rfl,A1,B1,g0,v0.kf x0,G.dg,R0 x0,λc2 C1=>⟨_,rfl,yg ?_⟩⟩;refine⟨pf,λy0 D1=>?_⟩;have E1:=aa.upd (o:=HO.lst (Rf.map V.str)) D1;have F1:=(x0.trans C1).trans (KF.of E1);refine⟨y0,rfl,⟨_,ca.of ia⟩,nc (K:=K) (a:=y0) (xs:=Rf.map V.str) (λi h0 Y=>KF u0 Y/\Y y0=qN (.lst (Rf.map V.str))/\∃(z0 A0:Option V),h0=[qN (.ref a),qN (.ref k0),qN (.ref o),qN (.ref m0),qN (.ref mp),qN (.ref b0),z0,A0]) ⟨F1,ia,sN,sN,rfl⟩ (by rintro i h0 Y _⟨_,h,_⟩;exact ca.of h) ?_ ?_⟩
  ·rintro i y h0 Y S0⟨T0,G1,z0,A0,rfl⟩;rw[lb]at S0;obtain⟨c0,H1,rfl⟩:=Jd.mp S0;have U0:=Xa H1;obtain⟨d2,e2,e,V0,I1⟩:=Sf (v0.kf T0);cases e;have J1:=G.dg.1;refine⟨_,rfl,b0,rfl,⟨_,ca.of V0⟩,YM (k:=3) (fs:=[qN (.str c0)]) Y (aa.refl _) U ee (λd=>ee (d.1,c0,d.2.2)) rfl V0 I1 (by have:U.length<=6:=J1;lia) (λd f2 W0 s1 v R a0 o0 tr p0=>?_) λX0 W0 g2 h2 Y0 K1 L1=>?_⟩
   ·obtain⟨i2,j2,k2,rfl⟩:=ML o0;obtain⟨c,l,l2,rfl,r0,s0,M1⟩:=hf tr;refine⟨c,_,rfl,oa.of (a0 _ _ r0),rfl,_,_,rfl,_,_,rfl,_,_,rfl,rfl,_,rfl,_,rfl,_,rfl,Ec,λt g=>?_⟩;have st:=a0.trans (aa.upd (o:=HO.tup [.int d.1,.str c0,.ref l]) g);exact p0 _ [_,_,_] _ rfl (aa.upd g) (.tup (Bz g ia) (.cons (.int _) (.cons (.str _) (.cons (.lst (Vr st _ _ s0) (M1.same (Vr st))) .nil))))
   have N1:Tr W0 (.ref X0) (.list ((lg (qN c0) U).map ee)):=by
    unfold lg;rw[Ve];exact .lst K1 (L1.same λb o e=>ZM _ _ (df e).2)
   have Z0:=T0.trans (KF.of Y0);refine⟨_,rfl,_,rfl,Ha,λt g=>?_⟩;have st:=aa.upd (o:=HO.tup [.ref b0,.ref mp]) g;refine⟨_,rfl,.ref t,(U,mk),qN c0,rfl,Q0 Z0 g,G.gj,(λx e=>by cases e;exact U0),IC G (λx e=>by cases e;exact U0) λt s w0 r m2 O1 P1 Q1 g0=>?_⟩;have B0:=st.trans O1;have a1:=Z0.trans (KF.of B0);exact⟨_,rfl,_,rfl,t,s,w0,r,.ref X0,mp,lg (qN c0) U,mk,rfl,P1,Q1,g0,N1.same B0,hN G.dg,R0 a1,λn2 b1=>⟨_,rfl,yg ⟨a1.trans b1,b1.lst (B0 _ _ (Y0 _ _ G1)),_,_,rfl⟩⟩⟩
  ·rintro h0 Y⟨_,_,z0,A0,rfl⟩;exact q Y
end
open PySem.W in
def all_mk{l:OpenLaw}{w:AN}{K:XP}{mg:Str->Option rN}{g:uN}(r:mg "law"=qN (.ref g))
  (T:Tx K mg)
  :∃fd:UN,(∀(s:tN)(v:rN),dP s fd ⟨[v],[]⟩ [("_law_script",v)])/\∀base:EN,K.In base->base.Ns HN mg->kd l.prog w K mg base Td 9 g fd ["_law_script"] (fu K):=by
 exact T.Nw.xI r (λ_ _ _ _ _ _ _=>rfl) λbase=>jN T
def walk{l:W.OpenLaw}{q:zN}{J:List Str}{O:(Str->Option rN)->EN->Prop}{g:AN->EN->Prop}{d:DefRec}{K:Params->W.Frag}(U:l.most=qN 63)(Y:d.params.defaults=[])
  (a0:∀(w:AN)(h:EN),g w h->(K w.params).In h)
  (F:∀(w:AN)(mg:Str->Option rN)(r:uN)(h:EN),(K w.params).In h->h.Ns HN mg->mg d.name=qN (.ref r)->
   ∃fd:UN,(∀(s:tN)(u:rN),dP s fd ⟨[u],[]⟩ [("_law_script",u)])/\∀base:EN,(K w.params).In base->base.Ns HN mg->kd l.prog w (K w.params) mg base Td 9 r fd ["_law_script"] (fu (K w.params))):
  W.WalkO q J O g l.row.toRowW d [] (λf vs=>PySem.call f vs):=
 My.VE (n:=63) (k:=9) (x:="_law_script") (CX:=λ_=>Td) (sp:=λw=>fu (K w.params)) U (by decide) Y ⟨rfl,by decide,by decide⟩ a0 F (λ_ _ a ns b0 c0 _ d0=>⟨a,ns,rfl,d0,b0,c0,λ_=>rfl⟩) λ_ _ _ _ _ z=>z
end Lw
open PySem PySem.W PyProof.Rows
set_option maxRecDepth 100000 in
set_option maxHeartbeats 0 in
theorem PySem.Challenge.cw_skewhouse_k77_whole_yes_has_no_ill_holds : PySem.Challenge.rw_skewhouse_k77_whole_yes_has_no_ill.Holds := by
 refine hd ?_
 k_fill
 refine Lw.walk (l:=PySem.Challenge.rw_skewhouse_k77_whole_yes_has_no_ill) rfl rfl (λw h Y=>PySem.W.kIn_of Y) ?F;case F=>
  intro w mg fa h KX G hmg;refine' Lw.all_mk hmg (Lw.Tx.mk ..);any_goals first|k_is|(apply mg_of KX G;k_is)|(apply mg_none_of KX G;k_is)|(apply My.e6e KX G<;>first|k_is|(intro _ _ _ _ _ _ us hl;first|(obtain⟨_,rfl⟩:=My.us1 hl;rfl)|(obtain⟨_,_,rfl⟩:=My.us2 hl;rfl)|(obtain⟨_,_,_,rfl⟩:=My.us3 hl;rfl)|(obtain⟨_,_,_,_,rfl⟩:=My.us4 hl;rfl)|(obtain⟨_,_,_,_,_,rfl⟩:=My.us5 hl;rfl)))|(apply My.e0l<;>k_is)|(apply My.e4w KX G<;>first|k_is|(first|(intro _ _ _ _ _ _ _ us hl;rw[z1h]at hl⊢;obtain⟨_,_,rfl⟩:=My.us2 hl;exact⟨_,rfl,rfl⟩)|(intro _ _ _ _ _ _ _ us hl;obtain⟨_,rfl⟩:=My.us1 (us:=us) (by simpa using hl);exact⟨_,rfl,rfl⟩)))|(apply My.e6u<;>first|k_is|(intro _ _ _ _ _ _ us hl;first|(obtain⟨_,rfl⟩:=My.us1 hl;rfl)|(obtain⟨_,_,rfl⟩:=My.us2 hl;rfl)|(obtain⟨_,_,_,rfl⟩:=My.us3 hl;rfl)|(obtain⟨_,_,_,_,rfl⟩:=My.us4 hl;rfl)|(obtain⟨_,_,_,_,_,rfl⟩:=My.us5 hl;rfl)))|(apply My.e6p<;>k_is)|(apply L2.Cls.mk<;>k_is)|(apply My.d6c<;>k_is)|(apply My.e1r;k_is;decide;repeat first|exact .nil|refine .cons ⟨_,rfl⟩ ?_|refine .cons rfl ?_)|(exact⟨_,by k_is,rfl,rfl⟩)|fail
