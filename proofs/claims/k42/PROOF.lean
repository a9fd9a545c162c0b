import PyProof.Rows.All
import KE.KDictOf
import KE.KDictSum
import KE.KEqDict
import KE.KFromBytes
import KE.KIntText
import KE.KIsAll
import KE.KLam
import KE.KMinKey
import KE.KNestM
import KE.KPairComp
import KE.KRevIter
import KE.KSortTup
import ObjForm.ListNI
import Wide.FinOn
import PySem.Challenge.RW_skewhouse_k42_one_dealing_by_itself
theorem nx0{A B:Type}{N O Z:A->B->Prop}(a:A)(b:B)(n:N a b)(o:O a b)(z:Z a b):∃a b,N a b/\O a b/\Z a b:=⟨a,b,n,o,z⟩
theorem nx1{A B:Type}{Z:A->B->Prop}(a:A)(b:B)(z:Z a b):∃a b,Z a b:=⟨a,b,z⟩
theorem nx2{A B C:Type}{N O P Z:A->B->C->Prop}(a:A)(b:B)(c:C)(n:N a b c)(o:O a b c)(p:P a b c)(z:Z a b c):∃a b c,N a b c/\O a b c/\P a b c/\Z a b c:=⟨a,b,c,n,o,p,z⟩
theorem nx3{A B C D E F G:Type}{Z:A->B->C->D->E->F->G->Prop}(a:A)(b:B)(c:C)(d:D)(e:E)(f:F)(g:G)(z:Z a b c d e f g):∃a b c d e f g,Z a b c d e f g:=⟨a,b,c,d,e,f,g,z⟩
theorem nx4{A B:Type}{N O P Q Z:A->B->Prop}(a:A)(b:B)(n:N a b)(o:O a b)(p:P a b)(q:Q a b)(z:Z a b):∃a b,N a b/\O a b/\P a b/\Q a b/\Z a b:=⟨a,b,n,o,p,q,z⟩
theorem nx5{A B:Type}{N Z:A->B->Prop}(a:A)(b:B)(n:N a b)(z:Z a b):∃a b,N a b/\Z a b:=⟨a,b,n,z⟩
theorem nx6{A B C:Type}{N O P Q R S T U Z:A->B->C->Prop}(a:A)(b:B)(c:C)(n:N a b c)(o:O a b c)(p:P a b c)(q:Q a b c)(r:R a b c)(s:S a b c)(t:T a b c)(u:U a b c)(z:Z a b c):∃a b c,N a b c/\O a b c/\P a b c/\Q a b c/\R a b c/\S a b c/\T a b c/\U a b c/\Z a b c:=⟨a,b,c,n,o,p,q,r,s,t,u,z⟩
theorem nx7{A B C D E F:Type}{N O P:A->B->Prop}{Q:A->B->C->D->Prop}{R S Z:A->B->C->D->E->F->Prop}(a:A)(b:B)(n:N a b)(o:O a b)(p:P a b)(c:C)(d:D)(q:Q a b c d)(e:E)(f:F)(r:R a b c d e f)(s:S a b c d e f)(z:Z a b c d e f):∃a b,N a b/\O a b/\P a b/\∃c d,Q a b c d/\∃e f,R a b c d e f/\S a b c d e f/\Z a b c d e f:=⟨a,b,n,o,p,c,d,q,e,f,r,s,z⟩
theorem nx8{A B C:Type}{N O P Q Z:A->B->C->Prop}(a:A)(b:B)(c:C)(n:N a b c)(o:O a b c)(p:P a b c)(q:Q a b c)(z:Z a b c):∃a b c,N a b c/\O a b c/\P a b c/\Q a b c/\Z a b c:=⟨a,b,c,n,o,p,q,z⟩
theorem nx9{A B C:Type}{N O Z:A->B->C->Prop}(a:A)(b:B)(c:C)(n:N a b c)(o:O a b c)(z:Z a b c):∃a b c,N a b c/\O a b c/\Z a b c:=⟨a,b,c,n,o,z⟩
theorem nx10{A B C D:Type}{N O P Z:A->B->C->D->Prop}(a:A)(b:B)(c:C)(d:D)(n:N a b c d)(o:O a b c d)(p:P a b c d)(z:Z a b c d):∃a b c d,N a b c d/\O a b c d/\P a b c d/\Z a b c d:=⟨a,b,c,d,n,o,p,z⟩
theorem nx11{A B:Type}{N O P Z:A->B->Prop}(a:A)(b:B)(n:N a b)(o:O a b)(p:P a b)(z:Z a b):∃a b,N a b/\O a b/\P a b/\Z a b:=⟨a,b,n,o,p,z⟩
theorem nx12{A B:Type}{N O P Q R Z:A->B->Prop}(a:A)(b:B)(n:N a b)(o:O a b)(p:P a b)(q:Q a b)(r:R a b)(z:Z a b):∃a b,N a b/\O a b/\P a b/\Q a b/\R a b/\Z a b:=⟨a,b,n,o,p,q,r,z⟩
theorem nx13{A B C D E F:Type}{N O P Q:A->B->C->D->E->Prop}{R Z:A->B->C->D->E->F->Prop}(a:A)(b:B)(c:C)(d:D)(e:E)(n:N a b c d e)(o:O a b c d e)(p:P a b c d e)(q:Q a b c d e)(f:F)(r:R a b c d e f)(z:Z a b c d e f):∃a b c d e,N a b c d e/\O a b c d e/\P a b c d e/\Q a b c d e/\∃f,R a b c d e f/\Z a b c d e f:=⟨a,b,c,d,e,n,o,p,q,f,r,z⟩
theorem nx14{A B C:Type}{Z:A->B->C->Prop}(a:A)(b:B)(c:C)(z:Z a b c):∃a b c,Z a b c:=⟨a,b,c,z⟩
theorem nx15{A B C:Type}{N:A->Prop}{O P Z:A->B->C->Prop}(a:A)(n:N a)(b:B)(c:C)(o:O a b c)(p:P a b c)(z:Z a b c):∃a,N a/\∃b c,O a b c/\P a b c/\Z a b c:=⟨a,n,b,c,o,p,z⟩
theorem nx16{A B C:Type}{N O P:A->Prop}{Z:A->B->C->Prop}(a:A)(n:N a)(o:O a)(p:P a)(b:B)(c:C)(z:Z a b c):∃a,N a/\O a/\P a/\∃b c,Z a b c:=⟨a,n,o,p,b,c,z⟩
theorem nx17{A B:Type}{N O P Q R S T Z:A->B->Prop}(a:A)(b:B)(n:N a b)(o:O a b)(p:P a b)(q:Q a b)(r:R a b)(s:S a b)(t:T a b)(z:Z a b):∃a b,N a b/\O a b/\P a b/\Q a b/\R a b/\S a b/\T a b/\Z a b:=⟨a,b,n,o,p,q,r,s,t,z⟩
theorem nx18{A B:Type}{N:A->Prop}{Z:A->B->Prop}(a:A)(n:N a)(b:B)(z:Z a b):∃a,N a/\∃b,Z a b:=⟨a,n,b,z⟩
theorem nx19{A B C D:Type}{N Z:A->B->C->D->Prop}(a:A)(b:B)(c:C)(d:D)(n:N a b c d)(z:Z a b c d):∃a b c d,N a b c d/\Z a b c d:=⟨a,b,c,d,n,z⟩
open Array renaming length_toList->Ag,getElem?_toList->Aj,getElem?_eq_getElem->xv
open Bool renaming false_ne_true->be,and_eq_true->jm,false_eq_true->Qn,true->HQ,false->IQ
open Classical renaming byContradiction->Mi
open Int renaming emod_nonneg->Ni,toNat_natCast->rj,emod_lt_of_pos->zj
open List renaming length_map->Na,mem_cons->Mb,getElem?_eq_getElem->Dc,size_toArray->Zc,map_cons->qd,mem_map->Fd,find?_cons->ce,getElem?_eq_some_iff->ee,getElem?_map->ge,length_eq_one_iff->Be,mem_cons_self->bf,getD_eq_getElem?_getD->Af,map_map->ag,mem_singleton->yg,mem_of_getElem?->Cg,map_append->Dg,not_mem_nil->Tg,mem_append->Ah,filter_sublist->Dh,pairwise_cons->Eh,mem_filter->Gh,nodup_cons->ei,length_append->gi,take_add_one->Oi,take_length->sj,length_take->vj,mem_cons_of_mem->xj,mem_append_right->Dj,mem_filterMap->xk,length_cons->Hk,any_eq_true->Ik,range_succ->Nk,mem_map_of_mem->Zl,length_range->fm,filterMap_eq_map'->sm,length_filter_le->um,map_congr_left->Dn,nodup_append->En,filter_cons->Fn,length_drop->Kn,exists_cons_of_length_eq_add_one->Mn,filterMap_cons->Sn,append_nil->Vn,any_cons->Xn,filter_eq_self->Yn,pairwise_iff_getElem->Cp,replicate_succ->Gp,getElem_of_mem->Np,find?_append->Ar,getElem?_eq_none_iff->zv
open Nat renaming le_refl->Ra,ne_of_lt->Ob,le_trans->qc,zero_le->wc,lt_of_lt_of_le->pd,le_of_lt->yh,le_succ->wj,le_of_eq->vk,lt_of_le_of_lt->Dk,lt_irrefl->Pk,ne_of_gt->Wn,lt_succ_of_lt->Kr
open Nat.succ renaming inj->Nn
open Ne renaming symm->ud
open Option renaming map_eq_some_iff->xh
open Option.some renaming inj->Yd
open PyProof.Rows renaming boot_sorted->Bg,size_push'->zh,boot_isinstance->Hh,boot_list->Cj,boot_tuple->Jk,callWith_type1->im,callWith_builtin1->rv,slot_tuple_getitem->yv,step_dedup->aR,envOfC->cR,seqObj->hR,AllBare->oR,IntsAre->UR,entry_list_sort->xS,slot_list_sort->FS,args_list_sort->JS,boot_dict->QS,subscriptTail_builtinR->XS,plain_sorted->ZS,entry_sorted->bT,args_sorted1->fT
open PyProof.Rows.F renaming plain_set_update_loop->wv
open PySem renaming wpAny_bind->ba,wpAny_pure->Aa,wpAny_mono->Kc,boot_len->Pe,wpAny_newObj_type->dg,wpAny_holding->eg,codeAny_mono->zg,wpAny_call_entry->Ug,codeAny_builtin->Bh,sizeLine_eq->Fh,wpAny_Call_Name_kw->bi,wpAny_field->ci,wpAny_call->fi,wpAny_truthy_bool->Qi,wpAny_setField->tj,plainId_quiet->Bj,mem_of_lookup->wk,wpAny_standAt->yk,wpAny_callSpecial?_slot->Ak,wpAny_seqItems->Bk,wpAny_loadPart_at->Kk,wpAny_typeOf->Lk,call_meetsIn->gm,codeAny_call_builtin->km,wpAny_of_eq->om,wpAny_pyIter_list->rm,wpAny_attempt->Jn,wpAny_setState_of->Ln,wpAny_setEntries_of->Dp,wpAny_setField_rec->Ep,wpAny_passesOwn->Jp,codeAny_of_tree->Lp,wpAny_askSetting->Op,wpAny_execs_nil->Pp,plainObj_wpAny_Assign_Attribute->qv,Value->EQ,Addr->FQ,Shared->GQ,sizeLine->JQ,model->KQ,starEach->LQ,Program->MQ,Heap->NQ,Around->OQ,World->PQ,PyData->QQ,eval->RQ,Expr->SQ,keywordEach->TQ,fastBuiltinMro->UQ,backTo->VQ,mainGlobals->WQ,FuncData->XQ,attributeBase->YQ,compareOp->ZQ,Obj->bR,backToKw->dR,rawInt->eR,sysModules->fR,Stmt->gR,recursionLimit->iR,Pos->jR,swapsWith->kR,intKind->lR,getMethod->mR,Scope->nR,pickOrder->pR,standAt->qR,foldedSetIterable->rR,callWith->sR,binaryOp->tR,checkBuiltinCall->uR,assignEach->vR,sliceBounds->wR,excClassObj->xR,cLine->yR,holding->zR,bootBuiltins->AR,isInstance->BR,NameKind->DR,behindInMarks->ER,wpAny_Call_method0_late->FR,wpAny_rule->GR,call_meets->HR,letOwnedTupleGo->IR,codeAny_handlers_test->JR,builtinLookup_eq_fast->KR,wpAny_loadPart->LR,wpAny_fieldsOf->MR,relayAll->NR,bindArgs->PR,tupleKind->QR,scanBound->RR,getItem->SR,Keyword->TR,Env->VR,BindsTo->WR,wpAny_handleBy_cons->XR,wpAny_newList->YR,wpAny_evalAll_cons->ZR,typeLookup->aS,tupleKind_room_in1->bS,pyIter->cS,IsPart->dS,IsPair->eS,wpAny_setEpoch_of->fS,wpAny_pyIter_enum->gS,wpAny_evalAll_nil->hS,wpAny_Call_method->iS,valueAt->jS,getAttr->kS,ItemsOf->lS,wpAny_lookBehind->mS,wpAny_isInstance->nS,wpAny_execs_cons->oS,stored->pS,pastItsLine_dict->qS,cellsFrom->sS,subscripted->tS,IsZip->uS,wpAny_loadPart'->vS,typeLookup_type->wS,wpAny_runValue->zS,wpAny_newTuple->AS,wpAny_newFunctionEnv_cells->BS,wpAny_load->DS,wpAny_Name->ES,pyNext->GS,isSubtype_type->HS,closureFor->IS,argsOk->KS,Drawn->MS,wpAny_comprehension_free->NS,signature?_of->OS,bindL->RS,bindC->SS,atKey->US,Arguments->VS,wpAny_nsSet1->WS,spliced->YS,evalAll->aT,entryPlaceOf->cT,callerA->eT,Result->gT,OwnTail->hT
open PySem.Around renaming under_plainId->yj
open PySem.Calls renaming spliced_cons->Ck,callWith_builtin->Yl,spliced_nil->Mp,evalArgs_plain->Br,call_function_entry->vv
open PySem.Code renaming quiet_builtin->Ir
open PySem.F renaming plainAttrs_list->Fg,called_set->Fk,type_list_append->mm,slot_list_append->qm,plainAttrs_dict->Ap,slot_list_clear->Bp,type_list_clear->Fp,plain_list_iadd->Lr,excBase_ValueError->sv,slot_list_getattribute->uv
open PySem.Heap renaming get?_push_of_some->Xa,lt_size->pb,get?_push_size->ec,get?_none_of_le->uj,get?_update_self->zk,size_push->Gk,get?_update_other->Pn,get?_update_ne->Jr
open PySem.Heap.SameBut renaming update->Qk
open PySem.Obj renaming data_mapFields->Yh,cls_mapFields->Ip
open PySem.Paired renaming length->dm
open PySem.PassesOwn renaming never->me
open PySem.SeqAt.EqAt renaming of_refs->Cr
open PySem.W renaming kia_tup->Zh,kia_one->di,callWith_K->lm,methodCall_KW->vm,looks_findIn->Gn,callWith_K0->Er,kitx_list->Gr,looks_clsIn->Hr,kitx_dict->Mr,findIn->OR,keepIn->rS,Frag->yS
local macro_rules
 |`(tactic|lia)=>`(tactic|first|assumption|exact Nat.le_refl _|exact Nat.le_of_lt (by assumption)|exact Nat.lt_of_lt_of_le (by assumption) (by assumption)|lia(verbose:=false)|omega)
section
open PySem PySem.Spec PySem.W PyProof.Rows PyProof PySem.SeqAt
abbrev Ba:=@if_neg
abbrev Ca:=@if_pos
abbrev Ec:=@decide_eq_true
abbrev Ed:=@of_decide_eq_true
abbrev Td:=@congrArg
abbrev Eg:=@decide_eq_false
abbrev Vg:=@or_false
abbrev am:=@W.Looks.at
end
set_option genSizeOf false
set_option linter.defProp false
noncomputable section
structure PySem.W.Fast:Prop where(tw3949797012915742247 tw7042598157549973487 tw2590194646649148930 tw7272719576512703147 tw11730204918107410174 tw861502493610598483 tw11181806343567009437 tw2125002105524471075 tw8562973070931587703 tw6074109392868812374 tw8345182588942859713 tw7147032986841463339 tw5119592772111757363 tw12765443698636745519 tw15254211478433396525 tw355104817263740851 tw5375795454780890445 tw1711978525486605378 tw5771433454967703170 tw416199725167544944 tw11834536606714469616 tw8622699402854469366 tw2343285291557775378 tw10840643649285111252 tw9808759606310862108 tw3615178456390077923 tw13255938527306859382 tw10206286209542907786 tw17431205604353252913 tw3208522521903949160 tw18402417329435992164 tw14257035121206530791 tw5629267563008310243 tw12567650564001988402 tw5128061309963564778 tw8300666452175358407 tw7231845647793152400 tw8996207646774452837 tw13628181090677844186 tw7837367980739423823 tw3391230904512655938 tw7873786274422454737 tw11657350159256941575 tw10161179621583223854 tw3817596123196066256 tw12669407529647801677 tw9992116715903482975 tw12315944733273679750 tw10851082721055443051 tw3592811809046731828 tw10284273198859499032 tw3538781236444307513 tw3604082896382514872 tw6094820017090691545 tw4991487270385306882 tw12176265147828701554 tw3665444673518743966 tw9679390387850249182 tw5805800948307579973 tw13127508451798649013 tw16422413458241162112 tw8646635810480103244 tw13851971633180934007 tw6248682570935725439 tw18375999264515656923 tw8413399678365625193 tw8412748745612879247 tw15540911362017771936 tw6932675284326534982 tw17713387462200973399 tw8622715204490130888 tw17658959251048325594 tw11911167908941700269 tw12041797014711123256 tw8840235324560252208 tw12773500944031208451 tw11272164335830466941 tw2983494736656345032 tw5711038861398032994 tw2132705950376112619 tw5725222548895626118 tw506581581156960101 tw17348111734160510231 tw10164718903369591474 tw7520747337044880989 tw12960429369202013873 tw16229202489276428455 tw5233118043267047457 tw615563214671542189 tw13831308528885131752 tw7350462372000428638 tw10085292869130188298 tw11317637306720784765 tw4693966885379303072 tw3997487885647526937 tw10910644110388302437 tw14546174082565282566 tw11368310244458860372 tw16202735626409321261 tw15733337929971156237 tw13697893789764255929 tw4734895289157585001 tw12750670339961964742 tw2813801546833155447 tw16766484511958638138 tw13225434792419705060 tw8150244357695641675 tw5994696166404524948 tw9461912720999461741 tw6651725471809605288 tw8730367617459091693 tw10576836333797772347 tw9316815775250114193 tw8185220541750880888 tw5661595848482461739 tw15415318616479256277 tw10395332584310045583 tw13348088958985639553 tw10859743581388371069 tw11566098044289413073 tw6733606326906232124 tw5665240888008139550 tw7787813539459594420 tw9969077435446430640 tw9496581404884138560 tw4993863958327201973 tw15861351967447197489 tw4327107012436481372 tw6338894885288841830 tw7509565986652818475 tw6259241058660970061 tw17558320327384617127 tw154272780991502253 tw8185545411690514434 tw16792556548410726896 tw6188973233030003785 tw1537541725227008683 tw16802631365582062104 tw3198059409981156222 tw14785633479632635281 tw7607420049574824106 tw11863963456291920697 tw1442379640649564109 tw429539710256275620 tw12528533614272120300 tw7403982271040965895 tw11153126096140912846 tw10886659093417053267 tw15251835097244881130 tw6356382464329069768 tw2925816871977632210 tw13349420017058727143 tw247591363613054380 tw17016834523296244275 tw5240077947681225987 tw4547051000311932777 tw3436067635600285980 tw13114645530532618160 tw14135006944967825841 tw6508132753307246276 tw4684226298888400098 tw12393862125047025020 tw5845002605336314091 tw7873748247521183178 tw424408320835691240 tw11859619671507778021 tw11076892268299887525 tw9003107776662980439 tw17852080271459398996 tw14334995849660946996 tw16005714805435085966 tw10624116801336726872 tw7921390202802761869 tw13465540834166320765 tw14172470266813156586 tw15495752065017430504 tw699815216081779126 tw646091604453992162 tw6714880395473160397 tw6356304189028158447 tw16583815154217966991 tw376983999666122830 tw786537726763496527 tw9959121941294770655 tw5376530373609499990 tw1129948795310169627 tw12250869413391326473 tw13215348057498601715 tw16902440903046159558 tw12876709506271813870 tw13037224057902187189 tw16108870410212019532 tw211337195705725219 tw14341141199694864594 tw8428246938381088814 tw9678289623588505577 tw2894314189432023629 tw8272569733616993153 tw5610444585433571239 tw1932759071263863916 tw11898673842065290130 tw15969335453137586327 tw12125097214300078407 tw2754868194923854518 tw14321067358777074657 tw17464319187374939960 tw4766597723019941021 tw5338801713223979382 tw13053394406489344094 tw12091442091272426231 tw7053471978191194526 tw640624198105042115 tw9162645422354645296 tw18352723725473834589 tw7476452910721959123 tw6522051377940421278 tw11215392098479208961 tw87601786513091389 tw10611411778653204182 tw9869809959619462935 tw12396662096508845406 tw13571862603940711859 tw16378183091871739711 tw11793702604926673555 tw2046362190076281809 tw14569604634059749682 tw10095894221667365369 tw4026147355466621588 tw15402603294489630176 tw12552146883818387842 tw4512776594637900181 tw3419001889969749887 tw7007286002206832825 tw11489344026974618541 tw4704452742865826424 tw14522782377427387804 tw1205604411410820431 tw11161164713144168021 tw16681507383918705554 tw14520296925931582552 tw14441679199631801671 tw1383625962624193546 tw7424060955962978353 tw15621116118777243554 tw256182404569192445 tw6851275008772768644 tw6194202620331982285 tw6557801498797044033 tw10538165733446703262 tw11263768400469242888 tw8565224436197482051 tw16615150188913437886 tw7943549864190904611 tw16101134707931498060 tw2869065659524454656 tw15326580083554890809 tw12369848792361866835 tw8899516883271353254 tw13567515925198824819 tw4015202173357781934 tw15499940227032437249 tw16232239604740543338 tw991626836265849350 tw11824586356888161845 tw17267597263503486738 tw13936439389310444312 tw12461081396071149458 tw13142635158332540280 tw13547939009206843870 tw1915925776726481438 tw4334401890000744311 tw8432719020341155521 tw555815775780349263 tw17271881437230615512 tw1062514266329012355 tw8359988921792034652 tw1630143524128594353 tw11220919329744738794 tw8274446707539698164 tw2187251505897268136 tw16723463757517087524 tw8212203176049278890 tw447263597446747957 tw3726453103677007866 tw6278996535519779258 tw16309811473084048462 tw14847308668706973960 tw2810200551564342888 tw2392593158011319353 tw5920806927976990809 tw16035376269474964883 tw7372170664606466022 tw14391293386007564604 tw14963028359598502718 tw8392358500681263680 tw7764699552788554220 tw2483321941437592071 tw5694767641087392711 tw1402340071739887797 tw10228342955482612591 tw11408881796089955267 tw11907897558876765624 tw1401067106901849026 tw11429584451438056573 tw14940998509354871970 tw4938610541543285704 tw17170472223608059050 tw8293125293789966914 tw16260866306193365299 tw14904681115217272601 tw17155049476370652306 tw7050804516273991350 tw16773468814595293053 tw10510019762269167821 tw2084650752826471497 tw17435391645217708394 tw14760874974797668852 tw12408111787983249662 tw10297410513487048360 tw8737599933303070863 tw5002640475654186023 tw15752536640612570366 tw12768989823518198380 tw11837218909656210887 tw8374155422468719031 tw18418582437962087742 tw4413860948169739490 tw17890440400047909864 tw7792700002687035005 tw13437419889732721216 tw10958628066121416707 tw5341297951324810720 tw15171223727094530161 tw17577329170770402720 tw18220031379085947620 tw3350206127114907401 tw9768259533172459722 tw1181674027530198351 tw17694573340227235524 tw446995266069924076 tw8006371003960147343 tw17082689572870858151 tw9399754086935153974 tw11823594873375168262 tw17590876675597686902 tw18328257000508772394 tw8554566592984996656 tw1956260828630720203 tw13669536469129627823 tw15267169705364848929 tw17510684818845775701 tw11095110211248682772 tw10842938092177581297 tw2827255003249426055 tw6162269159774324313 tw3328118118096588273 tw7091221385724896812 tw4490611911172417597 tw9919008367099125623 tw3110587219445414310 tw5217270863462422736 tw3641951560692057861 tw13674586047789940208 tw2694234056635809718 tw3235425350174046738 tw8972062959192195235 tw13956191218907399338 tw8318101203651539667 tw11207431853666184334 tw13861322856664149509 tw17318462890700432884 tw5323657890516693427 tw3475869608268796686 tw2956708394376553000 tw2741014181512449073 tw17817366049700826239 tw17613222154834848340 tw740290905518256060 tw11024694936033576346 tw11738243743197964597 tw16860917588515726111 tw1922157984580058403 tw15227483606004533461 tw13996866031312336078 tw866717566613908145 tw9495317472360511255 tw2295934692909999376 tw561727478393794602 tw599730875272715187 tw14958820412457663293 tw5890639436620234070 tw14564479935002850509 tw354308444213283272 tw12715800853834201459 tw1070438729232803039 tw651700358538967526 tw14746253646979254834 tw17079817176256170043 tw180266875558373844 tw12138319994727072339 tw855453113358079251 tw17338325484393633139 tw8739830900816887780 tw8297923619242306668 tw18073898193381586223 tw12727641955093265886 tw3042748168174471775 tw13343918040275786880 tw6105849179199505303 tw14404928986312190071 tw14703100239697439463 tw17360015989920007124 tw2597523674469684444 tw11078473246598507814 tw17062427158221528723 tw15925456577456769635 tw12053924596057091436 tw2789304352393801511 tw1663524305781585820 tw11481637867367846703 tw1840220198017710270 tw16132249320637822498 tw8219003486749837733 tw4859391219904099992 tw6900931685637148767 tw4884199854448574 tw7322748291113730364 tw16636501806038632012 tw14592624751514493413 tw14074196154385387334 tw7484994123860896570 tw7828442866392281868 tw896239598344801917 tw16925712312323332580 tw8916268530333523031 tw5306753302271460952 tw1708089923452030704 tw13069393092227542028 tw2386784164831690217 tw15214748959534726111 tw14537775516033599862 tw11151835277377553703 tw908480701973217441 tw14594842627406614536 tw5992840812097835891 tw14617222483516278133 tw8431482922422412695 tw8122695690928665766 tw443766864951011646 tw2135409205425526673 tw3851428956369438258 tw13298828918039433023 tw15173544498738437827 tw9223045988441327695 tw757356599333046425 tw4313010194945074917 tw15685335758407661847 tw10741264400317747893 tw9676783613728631035 tw10479991185640055810 tw10186303709888756887 tw5388589039460942527 tw17334828202450815106 tw16746677531222629524 tw2041926188850086339 tw360634875079729221 tw13160504802963445071 tw2015444344454546412 tw5171440476677080432 tw14022695629967993375 tw9768418358887946270 tw16947231599799070506 tw13257414776242894994 tw5263133172445716209 tw4971374062829452455 tw13459084325293418506 tw2781441929908095834 tw6942634455013318504 tw14611616552423853409 tw4321966507151631593 tw17691633702590694504 tw18335596039185421423 tw13931877327420345601 tw7942791058656714990 tw9757595895972200118 tw9619071485814978506 tw6782663255696616371 tw1293241653719404408 tw14782954611325821827 tw8422229294311615681 tw17680797132471856694 tw6148498323302512570 tw8834805137890396735 tw9818998656811842119 tw4449297822257671152 tw1804834754348979943 tw4211115844707057057 tw3303267245142563540 tw16859961878692490766 tw28018229315631829 tw6542358382571353910 tw4517560463748656503 tw8833860146974802555 tw3300454383303005205 tw6548459193220583526 tw8356303796347215682 tw14801369171006070438 tw16839002366802243188 tw16103829930404553856 tw1887573119177674980 tw9387514328989991554 tw17980500129456985241 tw1692201390411429781 tw10388488172074580225 tw15699961213505342161 tw5342471268416680606 tw5515903443438498500 tw14260533273033392520 tw593343749668468936 tw18048741565030583774 tw12930229547647579594 tw577049184839899653 tw2708214617527550399 tw1941844328875101383 tw4858918184162951299 tw9784134513789038367 tw18127189064453720709 tw12627051441459223148 tw17508347553164502932 tw15036080040530398195 tw10312438410070409164 tw296083027919845158 tw5322009542560784348 tw6172094611929405055 tw11512705759438076691 tw5239429619861171699 tw13205091638197436094 tw14934011241717051027 tw2238811745713579835 tw13367274342830030513 tw2595585439558603231 tw5395340147747708899 tw15917658305576242666 tw694261584828832409 tw375148617187948888 tw6329614223026926184 tw7397212543588705075 tw9530734954097333506 tw8546256303203405941 tw5537553045615171315 tw14387916025512776202 tw2576523973992343609 tw8733291241859026926 tw937210970483165301 tw12858089460409395330 tw7407744344239389898 tw1517009173149250642 tw1158361714356455011 tw261171577418715137 tw1719895430356276633 tw182723221234572337 tw15138174406397646402 tw3270257207059953099 tw12681666616541194006 tw1825952489489211193 tw8115137120850386438 tw2570914705882880060 tw5634867526602368427 tw2261719852989239553 tw1303901927050219478 tw13394580363473044415 tw15593559885672580101 tw8047209995159408440 tw16682895059504647277 tw10911716485165742097 tw5285915839522022235 tw726351398001015727 tw7188602182371822397 tw12435058653956393420 tw14961746396406840608 tw12843764043397292189 tw13444670453868202053 tw9331231397406362311 tw7212858340449540239 tw463774138113389760 tw14849461344987154502 tw6060609690816243450 tw3543459598558145280 tw7287071566680170395 tw10151330197121100416 tw18101783494082082527 tw4449799235075362730 tw3721919958574915784 tw10373885705245885314 tw15539815450414544023 tw15127105006835628225 tw14560624547652848805 tw1010972086116683374 tw13622603851894308203 tw643336161829623379 tw10198052994689861382 tw17963105932079019327 tw3297117884562324255 tw2172276787581067923 tw7480016910919988345 tw13366278800048369731 tw18124618509676941091 tw256976265262469064 tw16226643914720891334 tw11421057715548341654 tw3049343062529576306 tw9689729476882780088 tw4607425872040536859 tw17916429707943930468 tw18183970276198133131 tw17214186515701724070 tw2868442198168577507 tw14170518179582410385 tw609457278022895560 tw6284410105664486691 tw7374399212775623666 tw10519837036962490867 tw10988764466652934233 tw172746767574481773 tw17823556299335049440 tw9252304221032618942 tw16217903435359918192 tw11662115353561507501 tw12099505692703838030 tw8995945545434573385 tw2275282789119773048 tw9806118890596472461 tw13384656265869573321 tw14859695947638507448 tw13855379610559885079 tw1891733041441978011 tw3233987462203235646 tw86012387029904805 tw14995258362815363992 tw4699756791338806529 tw16675474607261055093 tw13307065042914920193 tw17986951261819808105 tw17397653436517662659 tw5101696844757716304 tw3308634892276815127 tw8535803893964050539 tw2941924889016668590 tw16061730576925561143 tw7909973126167129995 tw13439652990877377571 tw6822071536725586909 tw1599053048872161195 tw5371794888043636658 tw12441744018607269044 tw2997492091776894028 tw11205608169257636508 tw9116068151291705539 tw5462360663327728810 tw578191462805490351 tw14811107726043686439 tw17499849576073844966 tw6945566481307383155 tw5832146486336120021 tw5289818103960998278 tw18095796173783872564 tw16626521671886133394 tw12064304430848566033 tw2333105410213810865 tw4091352561680426876 tw7985883749528016586 tw14154597600763967237 tw8833496514701923757 tw15060872555676474952 tw14201004317487731011 tw5369961537445033690 tw14474530201714352570 tw542563422162235373 tw6327569006664949090 tw16140922888777852060 tw7485256538410118956 tw15433366417846715934 tw140236481695663071 tw8331849164307833061 tw2931988195819169919 tw7151132215420815488 tw4860023922305330110 tw13810262117814702294 tw10294118229990073760 tw5449601097390414333 tw9456574344343218679 tw6229817132586351632 tw16145670418848962200 tw1474264761786122189 tw15254633091992210921 tw3438699932752214802 tw13032259773685033708 tw2107523057676978006 tw7220529860990300233 tw12468840222048715292 tw12132732476715806282 tw8760152093665844161 tw4341293187932698999 tw11180800956215176064 tw9045458381397004210 tw17614877247268290040 tw3344036261162260069 tw2773992215795510196 tw3971525946579005399 tw15504105790966721872 tw6701911527682315725 tw8151759404152838978 tw15743010393045028110 tw13813548295540068894 tw206757683497733573 tw6828597562223498359 tw4598271963242535575 tw8752102160057688731 tw10149570385669482864 tw10016166984437732892 tw6880980288501444468 tw18146532975450069615 tw14036186469904095446 tw13055953723892786844 tw8222940686941784037 tw2259672571474061568 tw17590705303994421779 tw9317495090193701157 tw11153475782318119604 tw14284835775768690865 tw2358075552688931204 tw9592521066531166775 tw14993981098963755598 tw8002303944043701648 tw5467331546851215429 tw14727194681476072466 tw3681537716864247207 tw890339118813698166 tw16248296213531012650 tw11266997524610791606 tw2333531293284704758 tw11308061921803828041 tw6405511729158686954 tw6148891448256914594 tw727553628536289456 tw11434409910335936926 tw8232614014015475128 tw13757698761724263525 tw10539347186207431242 tw9879335643197240621 tw15240619367488684849 tw3277229846650655979 tw16756451883985382160 tw12917704675397863716 tw1950803216711332702 tw1532491051758110099 tw4333590680753393835 tw5649666937502919571 tw4483904966330829159 tw15910123707662034135 tw5000232492035539693 tw6420159726195949164 tw306047672372848657 tw12550775161083096063 tw14827714588952709054 tw3676754643040562684 tw3846801734645722302 tw2595618661548880785 tw9630203353718772412 tw13631397514672939371 tw3985964047577975286 tw1266070629607400876 tw14219159868682941630 tw18383651708701053236 tw2353497105660221152 tw13812277999558781770 tw2400638427578300857 tw1198783387198779033 tw15627779663793561183 tw5008593111378822452 tw4096438862311573950 tw9404705873571188630 tw3099597729799864441 tw13953587524928339648 tw2480015634913765671 tw17760279517084355780 tw8912161614967838395 tw17592209452093105858 tw3581434408401558974 tw13462424878891718212 tw2399617604181995578 tw18384110700954362821 tw13872120688422071045 tw15166322114958858414 tw11766667032028208565 tw16203965252921439515 tw6549852094080907030 tw1495895850433845275 tw1998347030407657756 tw7001957589650049515 tw5362036446546632119 tw3382625519597670723 tw9388066449989048879 tw14819390147424179368 tw10792498714594961201 tw15235614512728720 tw11692469974320434101 tw14424681132571578402 tw14243238205550065757 tw16279288168775177219 tw17351735930882485243 tw17659185236578331656 tw4436474186459923750 tw6216382948874008006 tw11564986514327137767 tw6469784823511061222 tw4382473104129494423 tw12901003280762261817 tw10510056951384868246 tw5072417060200589145 tw8521684928402303493 tw8159993647027272844 tw6170744672141170255 tw5274481202262711730 tw9584292182412213727 tw5438652380644606353 tw9646623106273453227 tw16728255500844073214 tw4290864757253303354 tw9553971096990549364 tw140001813534094272 tw10698057553749749337 tw3520257249291928256 tw14715273107921467267 tw8950108695139179302 tw8908233856664302321 tw1835071406663858368 tw4189273013823423559 tw13861969467909019144 tw4903002758410956813 tw7631320640757110747 tw12528221419883600679 tw16822532161544500889 tw2638924239945547994 tw12188032599808994241 tw14842496431369740429 tw15125770126966510544 tw14332157829676619468 tw6858818405166986180 tw11063759124802658401 tw14556482736207283325 tw12147665669636231765 tw14577027041581768965 tw11468729153070441980 tw4323258101793500111 tw12884060626414724322 tw4340673293219707767 tw14689541978594310382 tw15042883488752021643 tw16151628708876355199 tw17188069144378779261 tw3374319085511977134 tw13769103115541136327 tw11707130962622978684 tw2474200967059427378 tw9381626543082597023 tw1848955828906020544 tw6921103065077540406 tw1205274952441263945 tw17951090304560329564:True)
set_option maxHeartbeats 0 in
open_top hd for PySem.Challenge.rw_skewhouse_k42_one_dealing_by_itself
set_option Elab.async false
set_option linter.all false
set_option maxRecDepth 100000
def Ld:(0:Nat)<1000:=by decide
def ii:(0:Nat)<7:=by decide
def Oc:(0:Nat)<=PySem.sizeLine:=by decide
def Md:(1:Nat)<1000:=by decide
def Ej:(1:Nat)<60:=by decide
def Fj:(1:Nat)<64:=by decide
def Qp:(1:Nat)<PySem.sizeLine:=by decide
def jb:(1:Nat)<=PySem.sizeLine:=by decide
def fg:(10:Nat)<1000:=by decide
def gg:(11:Nat)<1000:=by decide
def wb:(12:Nat)<1000:=by decide
def Fc:(2:Nat)<1000:=by decide
def Wg:(2:Nat)<=1000:=by decide
def Ma:(2:Nat)<=PySem.sizeLine:=by decide
def Xb:(3:Nat)<1000:=by decide
def Eb:(3:Nat)<=PySem.sizeLine:=by decide
def Gc:(4:Nat)<1000:=by decide
def Qe:(4:Nat)<=PySem.sizeLine:=by decide
def Nd:(5:Nat)<1000:=by decide
def Gg:(5:Nat)<PySem.sizeLine:=by decide
def Hg:(5:Nat)<=15:=by decide
def Bf:(5:Nat)<=PySem.sizeLine:=by decide
def Hc:(6:Nat)<1000:=by decide
def Rk:(6:Nat)<PySem.sizeLine:=by decide
def Gj:(6:Nat)<=15:=by decide
def Xg:(7:Nat)<1000:=by decide
def Yg:(8:Nat)<1000:=by decide
def Zg:(9:Nat)<1000:=by decide
namespace L2
open PySem PySem.Spec PyProof.Rows
abbrev Key:=Sum Int Str
def Sk:Key->EQ->Bool
 |.inl k,v=>Value.isInt k v
 |.inr x,v=>Value.isStrOf x v
def aE(w:PQ):Key->Int
 |.inl k=>hashInt k
 |.inr x=>hashStr w x
def ji:∀{k:Key}{v:EQ},Sk k v=HQ->(∃i t,k=Sum.inl i/\v=Value.int i t)\/(∃x t,k=Sum.inr x/\v=Value.str x t)
 |.inl i,v,h=>by
  obtain⟨t,e⟩:=Value.isInt_shape h;exact .inl ⟨i,t,rfl,e⟩
 |.inr x,v,h=>by
  obtain⟨t,e⟩:=Value.isStrOf_shape h;exact .inr ⟨x,t,rfl,e⟩
def bE(i:Int)(t:Tok):Sk (.inl i) (.int i t)=HQ:=by simp[Sk,Value.isInt]
def cE(x:Str)(t:Tok):Sk (.inr x) (.str x t)=HQ:=by simp[Sk,Value.isStrOf]
def dE(a b:Int):decide ((Sum.inl a:Key)=Sum.inl b)=(a==b):=by
 grind
def eE(a b:Str):decide ((Sum.inr a:Key)=Sum.inr b)=decide (a=b):=by
 grind
def gE(a:Int)(b:Str):decide ((Sum.inl a:Key)=Sum.inr b)=IQ:=by grind
def hE(a:Str)(b:Int):decide ((Sum.inr a:Key)=Sum.inl b)=IQ:=by grind
def Qb(prog:MQ)(w:PQ):PySem.KeyKind prog w Key where
 is:=Sk
 hash:=aE w
 inj:=λv a b O J=>by
  rcases ji O with⟨i,t,rfl,rfl⟩|⟨x,t,rfl,rfl⟩
  ·rcases ji J with⟨j,u,rfl,e⟩|⟨y,u,rfl,e⟩
   ·injection e with q _;rw[q]
   ·exact nomatch e
  ·rcases ji J with⟨j,u,rfl,e⟩|⟨y,u,rfl,e⟩
   ·exact nomatch e
   ·injection e with q _;rw[q]
 byValue:=λk v h=>by
  rcases ji h with⟨i,t,rfl,rfl⟩|⟨x,t,rfl,rfl⟩<;>rfl
 pyHash:=λhv h=>by
  rcases ji hv with⟨i,t,rfl,rfl⟩|⟨x,t,rfl,rfl⟩
  ·exact wpAny_pyHash_int h
  ·exact wpAny_pyHash_str h
 eqBool:=λY hv h=>by
  rcases ji Y with⟨i,t,rfl,rfl⟩|⟨x,t,rfl,rfl⟩
  ·rcases ji hv with⟨j,u,rfl,rfl⟩|⟨y,u,rfl,rfl⟩
   ·rw[dE]at h;exact wpAny_eqBool_int h
   ·rw[gE]at h;exact SeqAt.EqAt.int_str i t y u _ _ _ _ h
  ·rcases ji hv with⟨j,u,rfl,rfl⟩|⟨y,u,rfl,rfl⟩
   ·rw[hE]at h;exact SeqAt.EqAt.str_int x t j u _ _ _ _ h
   ·rw[eE]at h;exact wpAny_eqBool_str h
 «strs»:=λk x t v h=>by
  rcases ji h with⟨i,u,rfl,e⟩|⟨y,u,rfl,e⟩
  ·exact nomatch e
  ·injection e with q _;subst q;cases v<;>rfl
def iE(prog:MQ)(w:PQ)(i:Int)(t:Tok):(Qb prog w).is (.inl i) (.int i t)=HQ:=bE i t
def jE(prog:MQ)(w:PQ)(x:Str)(t:Tok):(Qb prog w).is (.inr x) (.str x t)=HQ:=cE x t
inductive V where
 |ya|bl(b:Bool)|int(i:Int)|str(x:Str)|Nf(b:Array UInt8)|Uk(b:UInt64)|ref(a:FQ)|ty(n:String)
 deriving DecidableEq
def Sa:V->EQ->Prop
 |.ya,u=>u=Value.none
 |.bl b,u=>u=Value.bool b
 |.int i,u=>∃t,u=Value.int i t
 |.str x,u=>∃t,u=Value.str x t
 |.Nf b,u=>∃t,u=Value.bytes b t
 |.Uk b,u=>∃t,u=Value.float b t
 |.ref a,u=>u=Value.ref a
 |.ty n,u=>u=Value.type n
abbrev Oa:List V->List EQ->Prop:=Paired Sa
def Oa.length(r:Oa xs us):xs.length=us.length:=dm r
def Oa.get:∀{xs:List V}{us:List EQ}{i:Nat}{x:V},Oa xs us->xs[i]?=some x->∃u,us[i]?=some u/\Sa x u
 |_,_,_,_,.nil,e=>by simp at e
 |_,_,0,_,.cons r _,e=>by grind
 |_,_,i+1,x,.cons _ t,e=>by
  obtain⟨u,q,J⟩:=Oa.get (i:=i) (x:=x) t (by simpa using e)
  grind
def Oa.set(r:Sa x u):∀{xs:List V}{us:List EQ}(i:Nat),Oa xs us->Oa (xs.set i x) (us.set i u)
 |_,_,_,.nil=>.nil
 |_,_,0,.cons _ t=>.cons r t
 |_,_,i+1,.cons q t=>.cons q (Oa.set r i t)
def Oa.append:∀{xs ys:List V}{us q:List EQ},Oa xs us->Oa ys q->Oa (xs++ys) (us++q):=by
 intro _ _ _ _ h s;induction h with
 |nil=>exact s
 |cons r t J=>exact .cons r J
def Oa.take:∀{xs:List V}{us:List EQ}(n:Nat),Oa xs us->Oa (xs.take n) (us.take n)
 |_,_,0,_=>.nil
 |_,_,_+1,.nil=>.nil
 |_,_,n+1,.cons r t=>.cons r (Oa.take n t)
def Oa.drop:∀{xs:List V}{us:List EQ}(n:Nat),Oa xs us->Oa (xs.drop n) (us.drop n)
 |_,_,0,r=>r
 |_,_,_+1,.nil=>.nil
 |_,_,n+1,.cons _ t=>Oa.drop n t
def bd:Option V->Option EQ->Prop
 |some v,some u=>Sa v u
 |none,none=>True
 |_,_=>False
def KV{q:Type}:List (q×V)->List (q×EQ)->Prop:=Paired λ(p:q×V)(J:q×EQ)=>p.1=J.1/\Sa p.2 J.2
def kV:Key->V
 |.inl i=>.int i
 |.inr x=>.str x
inductive HO where
  |lst(xs:List V)
  |tup(xs:List V)
  |dK(kvs:List (Key×V))|dT(kvs:List (List Key×V))
  |set(S:Int->Bool)(n:Nat)
  |ins(C dx:FQ)(fs:List (Str×V))
  |own(x:FQ)
  |xd(fs:List (Str×V))
  |met(f x:FQ)
  |Nr(lo hi:Int)
  |Rb(o:bR)(u:HO)
  |Wb(ps:Array EQ)
  |ext(φ:NQ->Prop)
abbrev Hp:=FQ->Option HO
def upd(H:Hp)(a:FQ)(o:HO):Hp:=λb=>if b=a then some o else H b
def ia:upd H a o a=some o:=by unfold upd;rw[Ca rfl]
def ka(h:b≠a):upd H a o b=H b:=by unfold upd;rw[Ba h]
def ie{H:Hp}(h:H a=some o)(h':H b=none):a≠b:=by
 grind
section
variable(P:MQ)(w:PQ)
def Fb(H:Hp)(h:NQ)(a:FQ):HO->Prop
 |.lst xs=>xs.length<=JQ/\∃(J:List EQ)(n:Nat),Oa xs J/\h.get? a=some {cls:=.type "list",data:=.seq J.toArray n}
 |.tup xs=>xs.length<=JQ/\∃J:List EQ,Oa xs J/\IsTup h a J.toArray
 |.dK kvs=>kvs.length<=JQ/\(a==fR)=IQ/\∃vs,KV kvs vs/\h.DictOf (Qb P w) a vs
 |.dT kvs=>kvs.length<=JQ/\(a==fR)=IQ/\∃xs:List (List Key×FQ×EQ),
   Paired (λ(p:List Key×V)(Y:List Key×FQ×EQ)=>p.1=Y.1/\H Y.2.1=some (.tup (p.1.map kV))/\Sa p.2 Y.2.2) kvs xs/\
   ∃o b0 ep,h.get? a=some o/\o.ExactDict/\o.data=.dict b0 ep/\b0.toList=xs.map (entryOfKey (QR (Qb P w)))/\(xs.map (·.1)).Nodup
 |.set S n=>h.SetOf (lR P w) a S n
 |.ins C O fs=>H O=some (.own a)/\fs.length<=1000/\O≠a/\h.get? a=some (W.instObj C O)/\
   ∃q,h.Ns1 O q/\(∀f,bd (fs.lookup f) (q f))/\PySem.Within q (fs.map (·.1))
 |.own _=>∃o,h.get? a=some o
 |.xd fs=>∃q,h.Ns1 a q/\∀f,bd (fs.lookup f) (q f)
 |.Nr lo hi=>∃t u v,h.get? a=some {cls:=.type "range",data:=.fields #[.int lo t,.int hi u,.int 1 v]}
 |.Rb o u=>h.get? a=some o/\Fb H h a u
 |.Wb ps=>h.get? a=some {cls:=.none,data:=.fields ps}
 |.met f x=>h.get? a=some (W.methodObj (.ref f) (.ref x))
 |.ext a0=>a0 h/\(∃o,h.get? a=some o)/\∀c0 d0:NQ,a0 c0->(∀o,c0.get? a=some o->d0.get? a=some o)->a0 d0
def fc(H:Hp)(h:NQ):Prop:=∀a o,H a=some o->Fb P w H h a o
end
section
variable{P:MQ}{w:PQ}{H H':Hp}{h h':NQ}{a:FQ}{o:HO}
def Fb.lt(x:Fb P w H h a o):a<h.objs.size:=by
 cases o with
 |lst xs=>obtain⟨_,_,_,_,e⟩:=x;exact pb e
 |tup xs=>obtain⟨_,_,_,p⟩:=x;exact p.lt
 |dK kvs=>obtain⟨_,_,_,_,o,_,_,e,_⟩:=x;exact pb e
 |dT kvs=>obtain⟨_,_,_,_,o,_,_,e,_⟩:=x;exact pb e
 |set S n=>obtain⟨o,_,_,_,e,_⟩:=x;exact pb e
 |ins C q fs=>obtain⟨_,_,_,e,_⟩:=x;exact pb e
 |own y=>obtain⟨_,e⟩:=x;exact pb e
 |xd fs=>obtain⟨_,⟨_,_,_,e,_⟩,_⟩:=x;exact pb e
 |Nr lo hi=>obtain⟨_,_,_,e⟩:=x;exact pb e
 |Rb ob u=>obtain⟨e,_⟩:=x;exact pb e
 |Wb ps=>exact pb (x)
 |met f y=>exact pb (x)
 |ext J=>obtain⟨_,⟨_,e⟩,_⟩:=x;exact pb e
def Paired.ib:∀{q:List Y}{J:List a0},Paired F q J->(∀a b,F a b->G a b)->Paired G q J:=by
 intro _ _ h f;induction h with
 |nil=>exact .nil
 |cons r t O=>exact .cons (f _ _ r) O
def Paired.imp'{F G:O->Y->Prop}(f:∀a b,F a b->G a b)(r:Paired F q J):Paired G q J:=Paired.ib r f
def Fb.kc(x:Fb P w H h a o)(k:∀b u,(b=a\/H b=some (.own a))->h.get? b=some u->h'.get? b=some u)
  (ho:∀b,H b=some (.own a)->H' b=some (.own a))(c0:∀b xs,H b=some (.tup xs)->H' b=some (.tup xs)):Fb P w H' h' a o:=by
 induction o with
 |lst xs=>obtain⟨z,J,n,r,e⟩:=x;exact⟨z,J,n,r,k _ _ (.inl rfl) e⟩
 |tup xs=>obtain⟨z,J,r,ob,e,c⟩:=x;exact⟨z,J,r,ob,by grind,c⟩
 |dK kvs=>obtain⟨z,y,vs,r,ob,q,ep,e,c⟩:=x;exact⟨z,y,nx18 vs r ob (nx5 q ep (by grind) c)⟩
 |dT kvs=>
  obtain⟨z,y,xs,r,ob,q,ep,e,c⟩:=x;exact⟨z,y,nx18 xs (Paired.ib r (by grind)) ob (nx5 q ep (by grind) c)⟩
 |set S n=>obtain⟨ob,q,ep,t,e,c⟩:=x;exact nx19 ob q ep t (k _ _ (.inl rfl) e) c
 |ins C d0 fs=>
  obtain⟨d,z,ne,e,O,⟨od,q,ep,a0,c⟩,r⟩:=x;exact⟨ho _ d,z,ne,by grind,O,⟨od,q,ep,k _ _ (.inr d) a0,c⟩,r⟩
 |own y=>obtain⟨ob,e⟩:=x;exact⟨ob,k _ _ (.inl rfl) e⟩
 |xd fs=>obtain⟨O,⟨od,q,ep,e,c⟩,r⟩:=x;exact⟨O,⟨od,q,ep,k _ _ (.inl rfl) e,c⟩,r⟩
 |Nr lo hi=>obtain⟨t,u,v,e⟩:=x;exact⟨t,u,v,k _ _ (.inl rfl) e⟩
 |Rb ob u b0=>obtain⟨e,Y⟩:=x;exact⟨k _ _ (.inl rfl) e,b0 Y⟩
 |Wb ps=>
  have e:=x;exact k a _ (.inl rfl) e
 |met f y=>
  have e:=x;exact k a _ (.inl rfl) e
 |ext e0=>obtain⟨p,⟨o,e⟩,st⟩:=x;exact⟨st _ _ p λo Y=>k _ _ (.inl rfl) Y,⟨o,k _ _ (.inl rfl) e⟩,st⟩
def fc.lt(x:fc P w H h)(e:H a=some o):a<h.objs.size:=(x a o e).lt
def fc.fresh(x:fc P w H h)(e:h.objs.size<=a):H a=none:=by
 cases q:H a with
 |none=>rfl
 |some u=>exact absurd (pd (x.lt q) e) (Pk _)
def fc.kept(x:fc P w H h)(k:∀b u,h.get? b=some u->h'.get? b=some u):fc P w H h':=λa o e=>
 (x a o e).kc (by grind) (λ_ q=>q) λ_ _ q=>q
def fc.laid(x:fc P w H h)(k:∀b u,h.get? b=some u->h'.get? b=some u)(Y:h.objs.size<=a)(new:Fb P w (upd H a o) h' a o):fc P w (upd H a o) h':=λb u e=>by
 have J:=x.fresh Y;by_cases O:b=a
 ·subst O;rw[ia]at e;grind
 ·rw[ka O]at e;exact(x b u e).kc (by grind) (λc q=>by rw[ka (ie q J)];exact q) λc xs q=>by rw[ka (ie q J)];exact q
end
def Rd(H:Hp)(a:FQ)(u:HO):Prop:=H a=some u\/∃o,H a=some (.Rb o u)
def Rd.of(h:H a=some u):Rd H a u:=.inl h
def Rd.ok(r:Rd H a u)(x:fc P w H h):Fb P w H h a u:=by
 rcases r with r|⟨o,r⟩
 ·exact x a u r
 ·obtain⟨_,q⟩:=x a _ r;exact q
def Rp:Option HO->Prop
 |some (.lst _)=>True
 |some (.dK _)=>True
 |some (.dT _)=>True
 |some (.set _ _)=>True
 |some (.ins _ _ _)=>True
 |some (.ext _)=>True
 |_=>False
section
variable{P:MQ}{w:PQ}{H:Hp}{h h':NQ}{x e:FQ}{o':HO}
def fc.write(ok:fc P w H h)(J:Rp (H x))(a0:e=x\/H e=some (.own x))(k:∀b u,b≠e->h.get? b=some u->h'.get? b=some u)(d0:∃u,h'.get? e=some u)
  (new:Fb P w (upd H x o') h' x o'):fc P w (upd H x o') h':=λb u q=>by
 have b0:∀c y,H c=some (.own y)->c≠x:=λc y r z=>by subst z;rw[r]at J;exact J
 have e0:∀c xs,H c=some (.tup xs)->c≠x:=λc xs r z=>by subst z;rw[r]at J;exact J
 by_cases O:b=x
 ·subst O;rw[ia]at q;cases q;exact new
 ·rw[ka O]at q;by_cases Y:b=e
  ·have c0:H b=some (.own x):=by
    rcases a0 with z|z
    ·exact absurd (Y.trans z) O
    ·rw[Y];exact z
   rw[q]at c0;cases c0;obtain⟨v,hv⟩:=d0;exact⟨v,by rw[Y];exact hv⟩
  ·refine(ok b u q).kc (λc v hc r=>k c v ?_ r) (λc r=>by rw[ka (b0 c b r)];exact r) λc xs r=>by rw[ka (e0 c xs r)];exact r
   rcases hc with rfl|hc
   ·exact Y
   ·rintro rfl;rcases a0 with z|z
    ·exact b0 c b hc z
    ·rw[hc]at z;cases z;exact O rfl
end
structure Un(fs ex:List FQ)(H H':Hp)(h h':NQ):Prop where
 keep:∀b o,h.get? b=some o->H b=none->b∉fs->b∉ex->h'.get? b=some o
 slot:∀b o,h.get? b=some o->H b=none->b∈fs->b∉ex->∃sl,h'.get? b=some {o with slots:=sl}
 free:∀b o,h.get? b=some o->H b=none->b∉ex->H' b=none
 there:∀b o,h.get? b=some o->b∉ex->∃o',h'.get? b=some o'
 tups:∀b xs,H b=some (.tup xs)->H' b=some (.tup xs)
 frzs:∀b o u,H b=some (.Rb o u)->H' b=some (.Rb o u)
 tbls:∀b ps,H b=some (.Wb ps)->∃more,H' b=some (.Wb (ps++more))
section
variable{fs Tp ex tQ:List FQ}{H H1 H2:Hp}{h h1 h2 h':NQ}{a x e:FQ}{o:HO}
def Un.any(u:Un fs ex H H1 h h1)(q:h.get? b=some ob)(n:H b=none)(J:b∉ex):∃Y,h1.get? b=some {ob with slots:=Y}:=by
 by_cases O:b∈fs
 ·exact u.slot b ob q n O J
 ·exact⟨ob.slots,u.keep b ob q n O J⟩
def Un.kept(k:∀b u,h.get? b=some u->h'.get? b=some u):Un fs ex H H h h' :=
 ⟨by grind,λb ob q _ _ _=>⟨ob.slots,k b ob q⟩,λ_ _ _ n _=>n,by grind,λ_ _ q=>q,λ_ _ _ q=>q,λ_ ps q=>⟨#[],by rw[q];simp⟩⟩
def Un.refl:Un fs ex H H h h:=Un.kept λ_ _ q=>q
def Un.laid(k:∀b u,h.get? b=some u->h'.get? b=some u)(O:h.objs.size<=a)(J:H a=none):Un fs ex H (upd H a o) h h' where
 keep:=by grind
 slot:=λb u q _ _ _=>⟨u.slots,k b u q⟩
 free:=λb u q n _=>by rw[ka (Ob (pd (pb q) O))];exact n
 there:=by grind
 tups:=λb xs q=>by rw[ka (ie q J)];exact q
 frzs:=λb u xs q=>by rw[ka (ie q J)];exact q
 tbls:=λb ps q=>⟨#[],by rw[ka (ie q J),q];simp⟩
def Un.write(O:Rp (H x))(b0:e=x\/H e=some (.own x))(k:∀b u,b≠e->h.get? b=some u->h'.get? b=some u)(c0:∃u,h'.get? e=some u):Un fs ex H (upd H x o) h h':=by
 have Y:∀b,H b=none->b≠x:=λb n z=>by subst z;rw[n]at O;exact O
 have a0:∀b,H b=none->b≠e:=λb n z=>by
  grind
 have J:∀b u,H b=some u->¬Rp (some u)->b≠x:=λb u q d0 z=>by grind
 refine⟨by grind,λb u q n _ _=>⟨u.slots,k b u (a0 b n) q⟩,λb u q n _=>by rw[ka (Y b n)];exact n,λb u q _=>?_,
  λb xs q=>by rw[ka (J b _ q λz=>z)];exact q,λb u xs q=>by rw[ka (J b _ q λz=>z)];exact q,λb ps q=>⟨#[],by rw[ka (J b _ q λz=>z),q];simp⟩⟩
 grind
end
def Pr(h:NQ)(H:Hp):List FQ:=(List.range h.objs.size).filter λa=>(H a).isSome
def Hj(h:NQ)(H:Hp):NQ:=W.hideAll h (Pr h H)
def kE(h:NQ)(H:Hp):(Hj h H).objs.size=h.objs.size:=W.hideAll_size _ _
def Av(e:h.get? b=some o)(n:H b=none):(Hj h H).get? b=some o:=
 W.hideAll_get _ e λJ=>by
  have q:=(Gh.mp J).2;rw[n]at q;simp at q
def lE(e:(Hj h H).get? b=some o):h.get? b=some o/\H b=none:=by
 have q:=W.of_hideAll (Pr h H) e;refine⟨q,?_⟩;cases J:H b with
 |none=>rfl
 |some x=>
  have O:b∈Pr h H:=Gh.mpr ⟨List.mem_range.mpr (pb q),by simp[J]⟩;have z:(Hj h H).get? b=none:=W.hideAll_none (Pr h H) O;rw[z]at e;cases e
structure Mod(K:W.Frag)(mg:Str->Option EQ)(base:NQ):Prop where
 ki:K.In base
 glob:base.Ns WQ mg
 blt:∃mb,base.Ns builtinsNs mb/\∀x:Str,x≠"__name__"->mb x=AR x
 nolimit:base.NoLimit
structure Cx where
 prog:MQ
 w:PQ
 K:W.Frag
 mg:Str->Option EQ
 base:NQ
 A:OQ
 N:List Str
 s₀:GQ
 H₀:Hp
 env:VR
 outer:List VR
 stack:List VR
 ex:List FQ
 fn:Str->Bool
 calm:Bool
 pn:List (FQ×bR)
 xe:EQ->GQ->Prop
def gc(l:List VR):List FQ:=l.filterMap (·.frame)
abbrev Cx.fs(X:Cx):List FQ:=gc X.outer
def Zn(q:nR)(x:Str):Prop:=q.names.lookup x=some .local\/q.names.lookup x=some .cell\/q.names.lookup x=some .free
def Loc(q:nR)(x:Str):Prop:=q.names.lookup x=some .local\/q.names.lookup x=some .cell
def Look(env:VR)(h:NQ)(m:Str->Option EQ)(x:Str)(u:EQ):Prop:=
 (env.kindOf x=some .local/\m x=some u)\/((env.kindOf x=some .cell\/env.kindOf x=some .free)/\∃c,env.cells.lookup x=some c/\h.IsCell c (some u))
structure Cx.Ok(X:Cx):Prop where
 mod:Mod X.K X.mg X.base
 kind:X.env.scope.kind=.function
 glob:X.env.globals=WQ
 blt:X.env.builtins=builtinsNs
 above:X.s₀.heap.objs.size<=X.env.locals
 inj:∀x y c,X.env.cells.lookup x=some c->X.env.cells.lookup y=some c->x=y
 has:∀x,(X.env.kindOf x=some .cell\/X.env.kindOf x=some .free)->∃c,X.env.cells.lookup x=some c
 wm:∀x c,X.fn x=HQ->X.env.cells.lookup x=some c->X.s₀.heap.objs.size<=c
 hd:X.calm=HQ->X.A.handled=none
 frames:X.A.frames=some X.stack
 ao:X.stack=X.outer\/(X.stack=X.env::X.outer/\X.env.frame=some X.env.locals)
 bo:∀b∈X.ex,b≠X.env.locals/\∀x c,X.env.cells.lookup x=some c->c≠b
 bs:∀b o,X.base.get? b=some o->X.s₀.heap.get? b=some o/\X.H₀ b=none
 Ih:X.base.objs.size<=X.s₀.heap.objs.size
 hg:∀b o,X.base.get? b=some o->b∉X.ex
 ig:∀b∈X.ex,b∉X.fs
 Uc:X.s₀.heap.FunFrames X.base X.outer
 Ri:∀b∈X.fs,X.H₀ b=none
structure Inv(X:Cx)(pins:List (FQ×bR))(σ:List (Option V))(H:Hp)(s:GQ):Prop where
 ok:X.Ok
 os:s.os=X.s₀.os
 bare:oR s.gens
 base:Un X.fs X.ex X.H₀ H X.s₀.heap s.heap
 loc:∃m,s.heap.Ns X.env.locals m/\∀(i:Nat)(x:Str)(v:V),X.N[i]?=some x->σ[i]?=some (some v)->Zn X.env.scope x->∃u,Sa v u/\Look X.env s.heap m x u
 cell:∀x c,X.env.cells.lookup x=some c->∃v,s.heap.IsCell c v
 free:H X.env.locals=none
 yb:∀x c,X.env.cells.lookup x=some c->H c=none
 pin:∀p∈X.pn++pins,s.heap.get? p.1=some p.2/\H p.1=none/\p.1≠X.env.locals/\p.1∉X.fs/\∀v,p.2.data≠.cell v
 za:fc X.prog X.w H s.heap
 len:σ.length=X.N.length
section
variable{X:Cx}{pins:List (FQ×bR)}{σ:List (Option V)}{H H':Hp}{s:GQ}{h':NQ}
def Cx.Ok.Bv(ok:X.Ok)(e:X.base.get? b=some o):b∉X.fs:=λq=>by
 have:=(ok.Uc.mem q).1
 grind
def Inv.bs(I:Inv X pins σ H s):∀b o,X.base.get? b=some o->s.heap.get? b=some o/\H b=none:=λb o e=>
 ⟨I.base.keep b o (I.ok.bs b o e).1 (I.ok.bs b o e).2 (I.ok.Bv e) (I.ok.hg b o e),I.base.free b o (I.ok.bs b o e).1 (I.ok.bs b o e).2 (I.ok.hg b o e)⟩
def Inv.bk(I:Inv X pins σ H s):∀b o,X.base.get? b=some o->s.heap.get? b=some o:=λb o e=>(I.bs b o e).1
def Inv.mod(I:Inv X pins σ H s):Mod X.K X.mg X.base:=I.ok.mod
def Inv.rb(I:Inv X pins σ H s):X.K.In s.heap:=I.ok.mod.ki.keeps I.bk
def Inv.nolimit(I:Inv X pins σ H s):s.heap.NoLimit:=I.ok.mod.nolimit.keeps I.bk
def Inv.lt(I:Inv X pins σ H s):X.env.locals<s.heap.objs.size:=by obtain⟨_,q,_⟩:=I.loc;exact q.lt
def Inv.sz(I:Inv X pins σ H s):X.s₀.heap.objs.size<=s.heap.objs.size:=qc I.ok.above (yh I.lt)
def Inv.Cv(I:Inv X pins σ H s){a:FQ}(h:s.heap.objs.size<=a):a∉X.fs:=λq=>by
 obtain⟨_,o,ho,_⟩:=I.ok.Uc.mem q;exact absurd (pd (pb ho) (qc I.sz h)) (Pk _)
def Inv.Si(I:Inv X pins σ H s):∀x c,X.env.cells.lookup x=some c->c≠X.env.locals:=λx c e z=>by
 obtain⟨v,o,ho,q⟩:=I.cell x c e;obtain⟨m,⟨J,O,ep,Y,a0,_⟩,_⟩:=I.loc
 grind
def Inv.Uc(I:Inv X pins σ H s):s.heap.FunFrames X.base X.outer:=by
 have all:∀(l:List VR),(∀b∈gc l,b∈X.fs)->X.s₀.heap.FunFrames X.base l->s.heap.FunFrames X.base l:=by
  intro l;induction l with
  |nil=>intro _ _;trivial
  |cons env r Y=>
   intro O a0;obtain⟨hk,⟨L,o,b0,d0,ho,e0⟩,c0⟩:=a0;have q:L∈X.fs:=O L (by unfold gc;grind);obtain⟨f0,e⟩:=I.base.slot L o ho (I.ok.Ri L q) q λz=>I.ok.ig L z q
   exact⟨hk,by grind,Y (λb J=>O b (by unfold gc;rw[Sn,b0];exact xj _ J)) c0⟩
 exact all X.outer (λ_ J=>J) I.ok.Uc
def Inv.stack(I:Inv X pins σ H s):s.heap.FunFrames X.base X.stack:=by
 rcases I.ok.ao with e|⟨e,q⟩
 ·rw[e];exact I.Uc
 ·rw[e];obtain⟨m,J,_⟩:=I.loc;refine .cons (by rw[I.ok.kind];decide) q J ?_ I.Uc;exact uj (qc I.ok.Ih I.ok.above)
def Inv.ef(I:Inv X pins σ H s):∀b∈gc X.stack,b∈X.env.locals::X.fs:=λb q=>by
 rcases I.ok.ao with e|⟨e,J⟩
 ·grind
 ·rw[e]at q;unfold gc at q;rw[Sn,J]at q;exact q
def Inv.ff(I:Inv X pins σ H s):∀b∈gc X.stack,H b=none:=λb hb=>by
 rcases Mb.mp (I.ef b hb)with e|hb
 ·rw[e];exact I.free
 ·obtain⟨_,o,ho,_⟩:=I.ok.Uc.mem hb;exact I.base.free b o ho (I.ok.Ri b hb) λz=>I.ok.ig b z hb
def Inv.step{ch:List FQ}(I:Inv X pins σ H s)
  (a0:∀b∈ch,(b∈X.ex\/X.s₀.heap.objs.size<=b)/\b≠X.env.locals/\(∀x c,X.env.cells.lookup x=some c->c≠b)/\∀p∈X.pn++pins,p.1≠b)
  (keep:∀b o,b≠X.env.locals->b∉X.fs->b∉ch->s.heap.get? b=some o->H b=none->h'.get? b=some o)
  (slot:∀b o,b≠X.env.locals->b∈X.fs->b∉ch->s.heap.get? b=some o->H b=none->∃c0,h'.get? b=some {o with slots:=c0})(free:∀b o,b∉ch->s.heap.get? b=some o->H b=none->H' b=none)
  (there:∀b o,b∉ch->s.heap.get? b=some o->∃Y,h'.get? b=some Y)
  (tups:∀b xs,H b=some (.tup xs)->H' b=some (.tup xs))(frzs:∀b o u,H b=some (.Rb o u)->H' b=some (.Rb o u))(tbls:∀b ps,H b=some (.Wb ps)->∃more,H' b=some (.Wb (ps++more)))
  (i0:∀m,s.heap.Ns X.env.locals m->h'.Ns X.env.locals m)(j0:fc X.prog X.w H' h')(k0:oR g'):
  Inv X pins σ H' {s with heap:=h',gens:=g',drawn:=d',toks:=t'}:=by
 have e0:∀b o,X.s₀.heap.get? b=some o->b≠X.env.locals:=λb o e=>Ob (pd (pb e) I.ok.above)
 have b0:∀b o,X.s₀.heap.get? b=some o->b∉X.ex->b∉ch:=λb o e q O=>by
  rcases(a0 b O).1 with z|z
  ·exact q z
  ·exact absurd (pd (pb e) z) (Pk _)
 have l0:∀x c,X.env.cells.lookup x=some c->∀v,s.heap.IsCell c v->h'.IsCell c v:=λx c e v⟨o,ho,d0⟩=>by
  have f0:c∉ch:=λz=>(a0 c z).2.2.1 x c e rfl
  by_cases g0:c∈X.fs
  ·obtain⟨c0,n0⟩:=slot c o (I.Si x c e) g0 f0 ho (I.yb x c e);exact⟨_,n0,d0⟩
  ·exact⟨o,keep c o (I.Si x c e) g0 f0 ho (I.yb x c e),d0⟩
 refine⟨I.ok,I.os,k0,⟨λb o e n O q=>?_,λb o e n O q=>?_,λb o e n q=>?_,λb o e q=>?_,λb xs e=>tups b xs (I.base.tups b xs e),λb o xs e=>frzs b o xs (I.base.frzs b o xs e),λb ps e=>?_⟩,?_,λx c e=>?_,?_,λx c e=>?_,λp o0=>?_,j0,I.len⟩
 ·exact keep b o (e0 b o e) O (b0 b o e q) (I.base.keep b o e n O q) (I.base.free b o e n q)
 ·obtain⟨c0,J⟩:=I.base.slot b o e n O q;obtain⟨s0,h0⟩:=slot b _ (e0 b o e) O (b0 b o e q) J (I.base.free b o e n q)
  grind
 ·obtain⟨Y,J⟩:=I.base.there b o e q;exact free b Y (b0 b o e q) J (I.base.free b o e n q)
 ·obtain⟨Y,J⟩:=I.base.there b o e q;exact there b Y (b0 b o e q) J
 ·obtain⟨t0,J⟩:=I.base.tbls b ps e
  grind
 ·obtain⟨m,p0,q0⟩:=I.loc;refine⟨m,i0 m p0,λi x v J h0 r0=>?_⟩;obtain⟨u,r,l⟩:=q0 i x v J h0 r0;refine⟨u,r,?_⟩;rcases l with l|⟨k,c,e,z⟩
  ·exact .inl l
  ·exact .inr ⟨k,c,e,l0 x c e _ z⟩
 ·obtain⟨v,z⟩:=I.cell x c e
  grind
 ·obtain⟨m,⟨o,_,_,ho,_⟩,_⟩:=I.loc;exact free _ o (λz=>(a0 _ z).2.1 rfl) ho I.free
 ·obtain⟨v,o,ho,d0⟩:=I.cell x c e;exact free c o (λz=>(a0 c z).2.2.1 x c e rfl) ho (I.yb x c e)
 ·obtain⟨e,n,ne,u0,d⟩:=I.pin p o0
  grind
def Inv.un(I:Inv X pins σ H s)(u:Un X.fs [] H H' s.heap h')(O:fc X.prog X.w H' h'):Inv X pins σ H' {s with heap:=h',toks:=t'}:=by
 obtain⟨m,⟨o,e0,ep,ho,r⟩,_⟩:=id I.loc;obtain⟨f0,Y⟩:=u.any ho I.free (by simp);exact I.step (ch:=[]) (λ_ z=>nomatch z) (λb o _ q _ e n=>u.keep b o e n q (by simp)) (λb o _ q _ e n=>u.slot b o e n q (by simp)) (λb o _ e n=>u.free b o e n (by simp)) (λb o _ e=>u.there b o e (by simp)) u.tups u.frzs u.tbls (λg0 a0=>by
  obtain⟨h0,b0,c0,J,d0⟩:=a0;rw[ho]at J;cases J;exact⟨_,b0,c0,Y,d0⟩) O I.bare
def Inv.call(I:Inv X pins σ H s)(u:Un (gc X.stack) ch H H' s.heap h')(Y:fc X.prog X.w H' h')(a0:oR g')
  (b0:∀b∈ch,(b∈X.ex\/X.s₀.heap.objs.size<=b)/\b≠X.env.locals/\(∀x c,X.env.cells.lookup x=some c->c≠b)/\∀p∈X.pn++pins,p.1≠b):
  Inv X pins σ H' {s with heap:=h',gens:=g',drawn:=d',toks:=t'}:=by
 obtain⟨m,⟨o,h0,ep,ho,r⟩,_⟩:=id I.loc;obtain⟨i0,J⟩:=u.any ho I.free (by grind);exact I.step b0 (λb o J c0 q e n=>u.keep b o e n (λz=>(Mb.mp (I.ef b z)).elim J c0) q) (λb o _ _ q e n=>u.any e n q) (λb o q e n=>u.free b o e n q) (λb o q e=>u.there b o e q) u.tups u.frzs u.tbls (λj0 d0=>by
  obtain⟨k0,e0,f0,O,g0⟩:=d0;rw[ho]at O;cases O;exact⟨_,e0,f0,J,g0⟩) Y a0
def Inv.turned(I:Inv X pins σ H s)(k:∀b o,b≠it->s.heap.get? b=some o->h'.get? b=some o)(g0:H it=none)(O:it≠X.env.locals)
  (a0:it∈X.ex\/X.s₀.heap.objs.size<=it)(b0:∀x c,X.env.cells.lookup x=some c->c≠it)(c0:∀p∈X.pn++pins,p.1≠it):Inv X pins σ H {s with heap:=h',toks:=t'}:=by
 have Y:∀b u,H b=some u->b≠it:=by grind
 refine I.step (ch:=[it]) (λb d0=>?_) (by grind) (λb o _ _ J e _=>⟨o.slots,k b o (λz=>J (by simp[z])) e⟩) (λ_ _ _ _ n=>n)
  (by grind) (λ_ _ e=>e) (λ_ _ _ e=>e) (λb ps e=>⟨#[],by rw[e];simp⟩) (λm e0=>?_) (λb u e=>?_) I.bare
 ·have e:b=it:=by simpa using d0
  subst e;exact⟨a0,O,b0,c0⟩
 ·obtain⟨o,f0,ep,ho,r⟩:=e0;exact⟨o,f0,ep,k _ o (ud O) ho,r⟩
 ·refine(I.za b u e).kc (λc v J q=>k c v ?_ q) (λ_ q=>q) λ_ _ q=>q
  rcases J with z|z
  ·rw[z];exact Y b u e
  ·exact Y c _ z
def Inv.tok(I:Inv X pins σ H s)(t:Nat):Inv X pins σ H {s with toks:=t}:=I.un Un.refl I.za
def Inv.kept(I:Inv X pins σ H s)(k:∀b u,s.heap.get? b=some u->h'.get? b=some u):Inv X pins σ H {s with heap:=h',toks:=t'}:=I.un (Un.kept k) (I.za.kept k)
def Inv.laid{a:FQ}(I:Inv X pins σ H s)(k:∀b u,s.heap.get? b=some u->h'.get? b=some u)(q:s.heap.objs.size<=a)(new:Fb X.prog X.w (upd H a o) h' a o):
  Inv X pins σ (upd H a o) {s with heap:=h',toks:=t'}:=I.un (Un.laid k q (I.za.fresh q)) (I.za.laid k q new)
def Inv.write(I:Inv X pins σ H s)(q:Rp (H x))(J:e=x\/H e=some (.own x))(k:∀b u,b≠e->s.heap.get? b=some u->h'.get? b=some u)(O:∃u,h'.get? e=some u)
  (new:Fb X.prog X.w (upd H x o) h' x o):Inv X pins σ (upd H x o) {s with heap:=h',toks:=t'}:=I.un (Un.write q J k O) (I.za.write q J k O new)
def Inv.Ig(I:Inv X pins σ H s)(h:∀p∈q,s.heap.get? p.1=some p.2/\H p.1=none/\p.1≠X.env.locals/\p.1∉X.fs/\∀v,p.2.data≠.cell v):Inv X q σ H s:=
 ⟨I.ok,I.os,I.bare,I.base,I.loc,I.cell,I.free,I.yb,λp J=>(Ah.mp J).elim (λz=>I.pin p (by grind)) (h p),I.za,I.len⟩
def Dv{N:List Str}(q:N.Nodup){i j:Nat}(a:N[i]?=some x)(b:N[j]?=some x):i=j:=by
 obtain⟨Y,J⟩:=ee.mp a;obtain⟨a0,O⟩:=ee.mp b;exact(List.getElem_inj q).mp (J.trans O.symm)
def Uy(I:Inv X pins σ H s)(r0:X.N.Nodup)(hi:X.N[i]?=some x)(O:Loc X.env.scope x)(r:Sa v u)
  (h:∀s',Inv X pins (σ.set i (some v)) H s'->(∃a,Heap.SameBut a s.heap s'.heap/\(a=X.env.locals\/X.env.cells.lookup x=some a))->Q () s')(w0:X.fn x=HQ\/X.env.scope.names.lookup x=some .local:=by first|exact .inl rfl|exact .inr rfl|assumption):wpAny M A (storeName X.env x u) Q E s:=by
 obtain⟨m,f0,s0⟩:=id I.loc;have x0:(X.env.scope.kind==.class||(X.env.scope.kind==.module&&X.env.locals !=X.env.globals))=IQ:=by rw[I.ok.kind];rfl
 have t0:i<σ.length:=by rw[I.len];exact(ee.mp hi).1
 have Si:=I.Si;have tracked:∀{a:FQ}{h':NQ},(∃o,s.heap.get? a=some o/\H a=none)->Heap.SameBut a s.heap h'->fc X.prog X.w H h':=λ{a h'}y0 q b ob e=>by
  obtain⟨_,_,I0⟩:=y0;refine(I.za b ob e).kc (λc g0 a0 Y=>(q.2 c ?_).trans Y) (λ_ Y=>Y) λ_ _ Y=>Y
  grind
 rcases O with hk|hk
 ·refine wpAny_storeName_local hk f0 (λh' z0 q=>?_) x0;obtain⟨A0,_,_,B0,_⟩:=id f0;refine h _ ⟨I.ok,I.os,I.bare,⟨λb o e n c0 O=>?_,λb o e n c0 O=>?_,I.base.free,λb o e O=>?_,I.base.tups,I.base.frzs,I.base.tbls⟩,⟨_,z0,λj y h0 J b0 i0=>?_⟩,λy c e=>?_,I.free,I.yb,λp j0=>?_,tracked ⟨A0,B0,I.free⟩ q,by simpa using I.len⟩ (by grind)
  ·exact(q.2 b (Ob (pd (pb e) I.ok.above))).trans (I.base.keep b o e n c0 O)
  ·obtain⟨k0,J⟩:=I.base.slot b o e n c0 O;exact⟨k0,(q.2 b (Ob (pd (pb e) I.ok.above))).trans J⟩
  ·obtain⟨l0,J⟩:=I.base.there b o e O;exact⟨l0,(q.2 b (Ob (pd (pb e) I.ok.above))).trans J⟩
  ·by_cases d0:j=i
   ·subst d0;rw[hi]at J;cases J;rw[List.getElem?_set_self t0]at b0;cases b0;exact⟨u,r,.inl ⟨hk,by simp⟩⟩
   ·rw[List.getElem?_set_ne (ud d0)]at b0;obtain⟨n0,o0,Y⟩:=s0 j y h0 J b0 i0;refine⟨n0,o0,?_⟩;rcases Y with⟨k,e⟩|⟨k,c,e,z⟩
    ·refine .inl ⟨k,?_⟩;have:y≠x:=λe=>d0 (Dv r0 J (e▸hi))
     simp[this,e]
    ·exact .inr ⟨k,c,e,z.sameBut q (Si y c e)⟩
  ·obtain⟨g0,z⟩:=I.cell y c e;exact⟨g0,z.sameBut q (Si y c e)⟩
  ·obtain⟨e,n,ne,p0,d⟩:=I.pin p j0;exact⟨(q.2 p.1 ne).trans e,n,ne,p0,d⟩
 ·have q0:X.fn x=HQ:=by
   rcases w0 with z|z
   ·exact z
   ·rw[z]at hk;cases hk
  obtain⟨c,a0⟩:=I.ok.has x (.inl hk);obtain⟨g0,z⟩:=I.cell x c a0;refine wpAny_storeName_cell I.ok.kind hk a0 z (λh' u0 q=>?_);obtain⟨C0,D0,J0⟩:=id z;refine h {s with heap:=h'} ⟨I.ok,I.os,I.bare,⟨λb o e n c0 O=>?_,λb o e n c0 O=>?_,I.base.free,λb o e O=>?_,I.base.tups,I.base.frzs,I.base.tbls⟩,⟨m,f0.sameBut q (by grind),λj y h0 J b0 i0=>?_⟩,λy e0 e=>?_,I.free,I.yb,λp j0=>?_,tracked ⟨C0,D0,I.yb x c a0⟩ q,by simpa using I.len⟩ (by grind)
  ·exact(q.2 b (Ob (pd (pb e) (I.ok.wm x c q0 a0)))).trans (I.base.keep b o e n c0 O)
  ·obtain⟨k0,J⟩:=I.base.slot b o e n c0 O;exact⟨k0,(q.2 b (Ob (pd (pb e) (I.ok.wm x c q0 a0)))).trans J⟩
  ·obtain⟨l0,J⟩:=I.base.there b o e O;exact⟨l0,(q.2 b (Ob (pd (pb e) (I.ok.wm x c q0 a0)))).trans J⟩
  ·by_cases d0:j=i
   ·subst d0;rw[hi]at J;cases J;rw[List.getElem?_set_self t0]at b0;cases b0;exact⟨u,r,.inr ⟨.inl hk,c,a0,u0⟩⟩
   ·rw[List.getElem?_set_ne (ud d0)]at b0;obtain⟨n0,o0,Y⟩:=s0 j y h0 J b0 i0;refine⟨n0,o0,?_⟩;rcases Y with Y|⟨k,e0,e,F0⟩
    ·exact .inl Y
    ·refine .inr ⟨k,e0,e,F0.sameBut q ?_⟩;rintro rfl;exact d0 (Dv r0 J (I.ok.inj _ _ _ e a0▸hi))
  ·by_cases v0:e0=c
   ·subst v0;exact⟨_,u0⟩
   ·obtain⟨G0,H0⟩:=I.cell y e0 e;exact⟨G0,H0.sameBut q v0⟩
  ·obtain⟨e,n,ne,p0,d⟩:=I.pin p j0;refine⟨(q.2 p.1 ?_).trans e,n,ne,p0,d⟩
   grind
def Ev(I:Inv X pins σ H s)(q:X.N.Nodup)(hi:X.N[i]?=some x)(J:Loc X.env.scope x)(r:Sa v u)
  (h:∀s',Inv X pins (σ.set i (some v)) H s'->Q () s')(O:X.fn x=HQ\/X.env.scope.names.lookup x=some .local:=by first|exact .inl rfl|exact .inr rfl|assumption):wpAny M A (storeName X.env x u) Q E s:=
 Uy I q hi J r (by grind) O
def Inv.Df(I:Inv X pins σ H s)(ho:s'.os=s.os)(u:Un (gc X.stack) ch H H' s.heap s'.heap)(q:fc X.prog X.w H' s'.heap)(J:oR s'.gens)
  (O:∀b∈ch,(b∈X.ex\/X.s₀.heap.objs.size<=b)/\b≠X.env.locals/\(∀x c,X.env.cells.lookup x=some c->c≠b)/\∀p∈X.pn++pins,p.1≠b):Inv X pins σ H' s':=by
 obtain⟨h',g',d',t',Y⟩:=s';have e:=ho;subst e;exact I.call u q J O
end
abbrev XK:=EQ->Option FQ->Hp->Prop
abbrev St:=List (Option V)
abbrev VK:=V->Hp->Prop
abbrev TE:=St->Hp->VK->Prop
abbrev TT:=St->Hp->(Bool->Hp->Prop)->Prop
abbrev TA:=St->Hp->(List V->Hp->Prop)->Prop
structure Se where
 nx:St->Hp->Prop
 rt:VK
 bk:St->Hp->Prop:=λ_ _=>False
 ct:St->Hp->Prop:=λ_ _=>False
abbrev TS:=Se->St->Hp->Prop
inductive EP(X:Cx)(pins:List (FQ×bR))(σ:St)(Q:VK)(u:EQ)(s':GQ):Prop|mk(v H')(_:Inv X pins σ H' s')(_:Sa v u)(_:Q v H')
def TP(X:Cx)(q:List (FQ×bR))(J:St)(Q:Bool->Hp->Prop)(b:Bool)(s':GQ):Prop:=∃H',Inv X q J H' s'/\Q b H'
inductive AP(X:Cx)(pins:List (FQ×bR))(σ:St)(Q:List V->Hp->Prop)(us:List EQ)(s':GQ):Prop|mk(vs H')(_:Inv X pins σ H' s')(_:Oa vs us)(_:Q vs H')
def SP(X:Cx)(J:List (FQ×bR))(D:Se)(f:Flow)(s':GQ):Prop:=
 match f with
 |.next=>∃q H',Inv X J q H' s'/\D.nx q H'
 |.brk=>∃q H',Inv X J q H' s'/\D.bk q H'
 |.cont=>∃q H',Inv X J q H' s'/\D.ct q H'
 |.ret u=>∃v q H',Inv X J q H' s'/\Sa v u/\D.rt v H'
structure PE(X:Cx)(e:SQ)(t:TE):Prop where
 run:∀(pins:List (FQ×bR))(s:GQ)(σ:St)(H:Hp)(Q:VK),Inv X pins σ H s->t σ H Q->wpAny (KQ X.prog X.w) X.A (RQ e X.env) (EP X pins σ Q) X.xe s
instance{X:Cx}{e:SQ}{t:TE}:CoeFun (PE X e t) λ_=>∀(pins:List (FQ×bR))(s:GQ)(σ:St)(H:Hp)(Q:VK),Inv X pins σ H s->t σ H Q->wpAny (KQ X.prog X.w) X.A (RQ e X.env) (EP X pins σ Q) X.xe s:=⟨PE.run⟩
structure PT(X:Cx)(e:SQ)(t:TT):Prop where
 run:∀(pins:List (FQ×bR))(s:GQ)(σ:St)(H:Hp)(Q:Bool->Hp->Prop),Inv X pins σ H s->t σ H Q->wpAny (KQ X.prog X.w) X.A (isTrue e X.env (RQ e X.env)) (TP X pins σ Q) X.xe s
instance{X:Cx}{e:SQ}{t:TT}:CoeFun (PT X e t) λ_=>∀(pins:List (FQ×bR))(s:GQ)(σ:St)(H:Hp)(Q:Bool->Hp->Prop),Inv X pins σ H s->t σ H Q->wpAny (KQ X.prog X.w) X.A (isTrue e X.env (RQ e X.env)) (TP X pins σ Q) X.xe s:=⟨PT.run⟩
structure PW(X:Cx)(e:SQ)(t:TT):Prop where
 run:∀(whole:Sem EQ)(pins:List (FQ×bR))(s:GQ)(σ:St)(H:Hp)(Q:Bool->Hp->Prop),Inv X pins σ H s->t σ H Q->wpAny (KQ X.prog X.w) X.A (isTrue e X.env whole) (TP X pins σ Q) X.xe s
instance{X:Cx}{e:SQ}{t:TT}:CoeFun (PW X e t) λ_=>∀(whole:Sem EQ)(pins:List (FQ×bR))(s:GQ)(σ:St)(H:Hp)(Q:Bool->Hp->Prop),Inv X pins σ H s->t σ H Q->wpAny (KQ X.prog X.w) X.A (isTrue e X.env whole) (TP X pins σ Q) X.xe s:=⟨PW.run⟩
def PW.pt(h:PW X e t):PT X e t:=⟨h.run _⟩
structure PA(X:Cx)(es:List SQ)(t:TA):Prop where
 run:∀(pos:jR)(pins:List (FQ×bR))(s:GQ)(σ:St)(H:Hp)(Q:List V->Hp->Prop),Inv X pins σ H s->t σ H Q->wpAny (KQ X.prog X.w) X.A (YS (VQ pos (LQ es X.env))) (AP X pins σ Q) X.xe s
instance{X:Cx}{es:List SQ}{t:TA}:CoeFun (PA X es t) λ_=>∀(pos:jR)(pins:List (FQ×bR))(s:GQ)(σ:St)(H:Hp)(Q:List V->Hp->Prop),Inv X pins σ H s->t σ H Q->wpAny (KQ X.prog X.w) X.A (YS (VQ pos (LQ es X.env))) (AP X pins σ Q) X.xe s:=⟨PA.run⟩
structure PS(X:Cx)(st:gR)(t:TS):Prop where
 run:∀(pins:List (FQ×bR))(s:GQ)(σ:St)(H:Hp)(D:Se),Inv X pins σ H s->t D σ H->wpAny (KQ X.prog X.w) X.A (exec st X.env) (SP X pins D) X.xe s
instance{X:Cx}{st:gR}{t:TS}:CoeFun (PS X st t) λ_=>∀(pins:List (FQ×bR))(s:GQ)(σ:St)(H:Hp)(D:Se),Inv X pins σ H s->t D σ H->wpAny (KQ X.prog X.w) X.A (exec st X.env) (SP X pins D) X.xe s:=⟨PS.run⟩
structure oe(X:Cx)(st:List gR)(t:TS):Prop where
 run:∀(pins:List (FQ×bR))(s:GQ)(σ:St)(H:Hp)(D:Se),Inv X pins σ H s->t D σ H->wpAny (KQ X.prog X.w) X.A (execs st X.env) (SP X pins D) X.xe s
instance{X:Cx}{st:List gR}{t:TS}:CoeFun (oe X st t) λ_=>∀(pins:List (FQ×bR))(s:GQ)(σ:St)(H:Hp)(D:Se),Inv X pins σ H s->t D σ H->wpAny (KQ X.prog X.w) X.A (execs st X.env) (SP X pins D) X.xe s:=⟨oe.run⟩
def Fa(h:wpAny M A t Q E s)(q:∀a s,Q a s->J a s):wpAny M A t J E s:=Kc h q λ_ _ x=>x
section
variable{X:Cx}
inductive eo(i:Nat)(σ:L2.St)(H:Hp)(Q:VK):Prop|mk(v)(_:σ[i]?=some (some v))(_:Q v H)
def tC(v:V):TE:=λ_ H Q=>Q v H
def Fv{Y:jR}(a0:X.N[i]?=some x)(hv:Zn X.env.scope x)(q:(x==("__debug__":Str))=IQ:=by decide)(b0:(x==("__classdict__":Str))=IQ:=by decide):PE X (.Name x Y) (eo i):=by
 constructor;intro c0 s d0 H Q I h;obtain⟨v,e,h⟩:=h;obtain⟨m,e0,f0⟩:=I.loc;obtain⟨u,r,l⟩:=f0 i x v a0 e hv;have fin:EP X c0 d0 Q u s:=⟨v,H,I,r,h⟩;rcases l with⟨hk,g0⟩|⟨hk,c,J,O⟩
 ·exact ES (wpAny_loadName_local I.ok.kind hk e0 g0 fin) q
 ·rcases hk with hk|hk
  ·exact ES (wpAny_loadName_cell I.ok.kind hk J O fin) q
  ·exact ES (wpAny_loadName_free I.ok.kind hk J O fin b0) q
def ra{i j q}:PE X (.Constant (.int i) j q) (tC (.int i)):=⟨λ_ _ _ H _ I h=>wpAny_Constant_int ⟨.int i,H,I.tok _,⟨_,rfl⟩,h⟩⟩
def we{b j q}:PE X (.Constant (.bool b) j q) (tC (.bl b)):=⟨λ_ _ _ H _ I h=>Constant_bool ⟨.bl b,H,I,rfl,h⟩⟩
def Hd{j q}:PE X (.Constant .none j q) (tC .ya):=⟨λ_ _ _ H _ I h=>Constant_none ⟨.ya,H,I,rfl,h⟩⟩
def La{x j q}:PE X (.Constant (.str x) j q) (tC (.str x)):=⟨λ_ _ _ H _ I h=>Calls.Constant_str ⟨.str x,H,I.tok _,⟨_,rfl⟩,h⟩⟩
def Gl(X:Cx)(x:Str):Prop:=X.env.kindOf x=some .globalImplicit
def Ti{q:St}(I:Inv X a0 q H s)(J:Gl X x)(O:X.mg x=some u)(h:Q u s)
  (Y:(x==("__debug__":Str))=IQ:=by decide):wpAny (KQ X.prog X.w) X.A (RQ (.Name x b0) X.env) Q E s:=
 Calls.Name_function_global I.ok.kind J (Calls.loadGlobal_global (by rw[I.ok.glob];exact I.mod.glob.keeps I.bk) O h) Y
def Jh{E:EQ->GQ->Prop}{q:St}{J:jR}(I:Inv X c0 q H s)(O:Gl X x)(Y:X.mg x=none)(hv:AR x=some u)(h:Q u s)
  (d0:x≠"__name__":=by decide)(a0:(x==("__debug__":Str))=IQ:=by decide):wpAny (KQ X.prog X.w) X.A (RQ (.Name x J) X.env) Q E s:=by
 obtain⟨e0,b0,f0⟩:=I.mod.blt;exact Calls.Name_function_global I.ok.kind O (Calls.loadGlobal_builtin (by rw[I.ok.glob];exact I.mod.glob.keeps I.bk) Y (by rw[I.ok.blt];exact b0.keeps I.bk) (by grind) h) a0
def Ui(q:Gl X x)(J:X.mg x=some u)(r:Sa v u)(O:(x==("__debug__":Str))=IQ:=by decide):PE X (.Name x Y) (tC v):=
 ⟨λ_ _ _ H _ I h=>Ti I q J ⟨v,H,I,r,h⟩ O⟩
def ah{q:jR}(J:Gl X x)(O:X.mg x=none)(hv:AR x=some u)(r:Sa v u)(Y:x≠"__name__":=by decide)(a0:(x==("__debug__":Str))=IQ:=by decide):PE X (.Name x q) (tC v):=
 ⟨λ_ _ _ H _ I h=>Jh I J O hv ⟨v,H,I,r,h⟩ Y a0⟩
variable{a b:SQ}{ta tb:TE}{pos:jR}
structure PC(X:Cx)(op:CmpOp)(a b:SQ)(t:TE):Prop where
 run:∀(pins:List (FQ×bR))(s:GQ)(σ:St)(H:Hp)(Q:VK),Inv X pins σ H s->t σ H Q->
  wpAny (KQ X.prog X.w) X.A (RQ a X.env) (λv Db=>wpAny (KQ X.prog X.w) X.A (RQ b X.env) (λu xm=>wpAny (KQ X.prog X.w) X.A (ZQ op v u) (EP X pins σ Q) X.xe xm) X.xe Db) X.xe s
instance{X:Cx}{op:CmpOp}{a b:SQ}{t:TE}:CoeFun (PC X op a b t) λ_=>∀(pins:List (FQ×bR))(s:GQ)(σ:St)(H:Hp)(Q:VK),Inv X pins σ H s->t σ H Q->
  wpAny (KQ X.prog X.w) X.A (RQ a X.env) (λv Db=>wpAny (KQ X.prog X.w) X.A (RQ b X.env) (λu xm=>wpAny (KQ X.prog X.w) X.A (ZQ op v u) (EP X pins σ Q) X.xe xm) X.xe Db) X.xe s:=⟨PC.run⟩
def tB(t:TE):TT:=λq H Q=>t q H λx J=>∃c,x=.bl c/\Q c J
def mE(h:PC X J a b t)(q:ER J b=IQ:=by first|exact h0 _ (by decide) (by decide)|rfl):PT X (.Compare a [J] [b] pos) (tB t):=by
 constructor;intro O s Y H Q I a0;refine wpAny_isTrue_Compare1 (Fa (h O s Y H _ I a0) λv s1 q=>Fa q λu i0 b0=>Fa b0 ?_) q;rintro c j0⟨x,c0,d0,e0,f0⟩;obtain⟨d,rfl,g0⟩:=f0;cases e0;exact Qi ⟨c0,d0,g0⟩
def rc{e:SQ}{t:TE}(h:PE X e t)(J:∀q,isTrue e X.env q=(do let v<-q;qR e.pos;zR [v] (truthy v)):=by intro _;rfl):PT X e (tB t):=by
 constructor;intro O s Y H Q I a0;refine isTrue_plain (Fa (h O s Y H _ I a0) ?_) (J _);rintro v s1⟨x,b0,c0,d0,e0⟩;obtain⟨d,rfl,f0⟩:=e0;cases d0;exact Qi ⟨b0,c0,f0⟩
variable{tA Qr:TT}{rest:List SQ}
def nE(t u:TT):TT:=λq H Q=>t q H λc J=>if c=HQ then u q J Q else Q IQ J
def oE(t u:TT):TT:=λq H Q=>t q H λc J=>if c=HQ then Q HQ J else u q J Q
def pE(t:TT):TT:=λq H Q=>t q H λc J=>Q (!c) J
def mi(q:PT X a tA):PW X (.BoolOp .And [a] pos) tA:=by
 constructor;intro Y J s O H Q I h;refine isTrue_and (Fa (q J s O H Q I h) λc s1 e=>?_);cases c with
 |true=>exact isTrue_and_nil e
 |false=>exact e
def fo(q:PT X a tA):PW X (.BoolOp .Or [a] pos) tA:=by
 constructor;intro Y J s O H Q I h;refine isTrue_or (Fa (q J s O H Q I h) λc s1 e=>?_);cases c with
 |false=>exact isTrue_or_nil e
 |true=>exact e
def ni(b0:PT X a tA)(c0:PW X (.BoolOp .And (b::rest) pos) Qr):PW X (.BoolOp .And (a::b::rest) pos) (nE tA Qr):=by
 constructor;intro d0 q s J H Q I h;refine isTrue_and (Fa (b0 q s J H _ I h) ?_);rintro c s1⟨O,Y,a0⟩;cases c with
 |true=>exact c0 d0 q s1 J O Q Y a0
 |false=>exact⟨O,Y,a0⟩
def ym(b0:PT X a tA)(c0:PW X (.BoolOp .Or (b::rest) pos) Qr):PW X (.BoolOp .Or (a::b::rest) pos) (oE tA Qr):=by
 constructor;intro d0 q s J H Q I h;refine isTrue_or (Fa (b0 q s J H _ I h) ?_);rintro c s1⟨O,Y,a0⟩;cases c with
 |true=>exact⟨O,Y,a0⟩
 |false=>exact c0 d0 q s1 J O Q Y a0
def bh(q:PT X a tA):PT X (.UnaryOp .Not a pos) (pE tA):=by
 constructor;intro J s O H Q I h;exact isTrue_not (q J s O H (λc Y=>Q (!c) Y) I h)
inductive qE(tb:TE)(σ:L2.St)(Q:VK)(x:V)(H1:Hp):Prop|mk(c)(_:x=.bl c)(_:if c=HQ then tb σ H1 Q else Q (.bl IQ) H1)
def rE(ta tb:TE):TE:=λq H Q=>ta q H (qE tb q Q)
inductive sE(Q:VK)(x:V)(H1:Hp):Prop|mk(c)(_:x=.bl c)(_:Q (.bl (!c)) H1)
def tE(ta:TE):TE:=λq H Q=>ta q H (sE Q)
def Rr{q}(h:PE X a t):PE X (.BoolOp q [a] pos) t:=⟨λJ s O H Q I Y=>BoolOp_one (h J s O H Q I Y)⟩
def Up(b0:PE X a ta)(c0:PE X (.BoolOp .And (b::rest) pos) tb):PE X (.BoolOp .And (a::b::rest) pos) (rE ta tb):=by
 constructor;intro J s O H Q I h;refine BoolOp_and (Fa (b0 J s O H _ I h) ?_);rintro v s1⟨x,Y,a0,d0,q⟩;obtain⟨c,rfl,q⟩:=q;cases d0;refine Qi ?_;cases c with
 |true=>exact c0 J s1 O Y Q a0 q
 |false=>exact⟨.bl IQ,Y,a0,rfl,q⟩
def Vy(J:PE X a ta):PE X (.UnaryOp .Not a pos) (tE ta):=by
 constructor;intro O s Y H Q I h;refine UnaryOp_ (Fa (J O s Y H _ I h) ?_);rintro v s1⟨x,a0,b0,c0,q⟩;obtain⟨c,rfl,q⟩:=q;cases c0;exact not_of (Qi ⟨.bl (!c),a0,b0,rfl,q⟩)
def uE(t:TT)(ta tb:TE):TE:=λq H Q=>t q H λc J=>if c=HQ then ta q J Q else tb q J Q
def zm(b0:PT X c tA)(c0:PE X a ta)(d0:PE X b tb):PE X (.IfExp c a b pos) (uE tA ta tb):=by
 constructor;intro q s J H Q I h;refine wpAny_IfExp (Fa (b0 q s J H _ I h) ?_);rintro d s1⟨O,Y,a0⟩;cases d with
 |true=>exact c0 q s1 J O Q Y a0
 |false=>exact d0 q s1 J O Q Y a0
end
def ja(K:W.Frag)(H:Hp)(a:FQ)(xs:List V):Prop:=
 Rd H a (.lst xs)\/
  ∃(o:bR)(q:Array EQ)(n:Nat),K.lookup a=some o/\o.cls=.type "list"/\o.dict=none/\o.data=.seq q n/\q.size<=JQ/\Oa xs q.toList
def xa(K:W.Frag)(H:Hp)(a:FQ)(xs:List V):Prop:=
 Rd H a (.tup xs)\/
  ∃(o:bR)(q:Array EQ)(n:Nat),K.lookup a=some o/\o.cls=.type "tuple"/\o.data=.seq q n/\q.size<=JQ/\Oa xs q.toList
def vE:EQ->Option V
 |.none=>some .ya
 |.bool b=>some (.bl b)
 |.int i _=>some (.int i)
 |.str x _=>some (.str x)
 |.bytes b _=>some (.Nf b)
 |.float b _=>some (.Uk b)
 |.ref a=>some (.ref a)
 |.type n=>some (.ty n)
 |_=>none
def Sa.abs(r:Sa x u):vE u=some x:=by
 cases x with
 |ya=>cases r;rfl
 |bl _=>cases r;rfl
 |int _=>obtain⟨t,rfl⟩:=r;rfl
 |str _=>obtain⟨t,rfl⟩:=r;rfl
 |Nf _=>obtain⟨t,rfl⟩:=r;rfl
 |Uk _=>obtain⟨t,rfl⟩:=r;rfl
 |ref _=>cases r;rfl
 |ty _=>cases r;rfl
def Sa.inj(r:Sa x u)(q:Sa y u):x=y:=Yd (r.abs.symm.trans q.abs)
def Oa.inj:∀{xs ys:List V}{us:List EQ},Oa xs us->Oa ys us->xs=ys:=by
 intro _ ys _ h;induction h generalizing ys with
 |nil=>rintro(_|_);rfl
 |cons r t q=>rintro(_|⟨J,t'⟩);rw[r.inj J,q t']
section
variable{X:Cx}{pins:List (FQ×bR)}{σ:St}{H:Hp}{s:GQ}{a:FQ}{xs ys:List V}
def ja.of{K:W.Frag}(h:H a=some (.lst xs)):ja K H a xs:=.inl (.inl h)
def xa.of{K:W.Frag}(h:H a=some (.tup xs)):xa K H a xs:=.inl (.inl h)
def Inv.list(I:Inv X pins σ H s)(h:ja X.K H a xs):∃q:List EQ,Oa xs q/\PlainL s.heap a q.toArray/\xs.length<=JQ:=by
 rcases h with h|⟨o,q,n,hk,J,O,Y,hz,r⟩
 ·obtain⟨z,q,n,r,e⟩:=h.ok I.za;exact⟨q,r,nx11 _ n e rfl rfl rfl,z⟩
 ·refine⟨q.toList,r,nx11 o n (I.rb a o hk) J O (by simpa using Y),?_⟩;have e:=r.length
  grind
def Inv.tuple(I:Inv X pins σ H s)(h:xa X.K H a xs):∃q:List EQ,Oa xs q/\IsTup s.heap a q.toArray/\xs.length<=JQ:=by
 rcases h with h|⟨o,q,n,hk,J,O,hz,r⟩
 ·obtain⟨z,q,r,p⟩:=h.ok I.za;exact⟨q,r,p,z⟩
 ·refine⟨q.toList,r,⟨o,I.rb a o hk,J,n,by simpa using O⟩,?_⟩;have e:=r.length
  grind
def Inv.vd(I:Inv X pins σ H s)(h:ja X.K H a xs)(h':ja X.K H a ys):xs=ys:=by
 obtain⟨J,r,⟨o,n,e,_,_,d⟩,_⟩:=I.list h;obtain⟨its',O,⟨a0,b0,q,_,_,d'⟩,_⟩:=I.list h';rw[e]at q;cases q;rw[d]at d';injection d' with Y _;have:J=its':=by simpa using Td Array.toList Y
 subst this;exact r.inj O
def Inv.Te(I:Inv X pins σ H s)(h:xa X.K H a xs)(h':xa X.K H a ys):xs=ys:=by
 obtain⟨J,r,⟨o,e,_,n,d⟩,_⟩:=I.tuple h;obtain⟨its',O,⟨a0,q,_,b0,d'⟩,_⟩:=I.tuple h';rw[e]at q;cases q;rw[d]at d';injection d' with Y _;have:J=its':=by simpa using Td Array.toList Y
 subst this;exact r.inj O
end
abbrev Cx.yd(X:Cx)(E:EQ->GQ->Prop):Cx:={X with xe:=E}
abbrev Cx.dh(X:Cx):Cx:=X.yd λ_ _=>False
def Cx.Ok.yd{X:Cx}(ok:X.Ok)(E:EQ->GQ->Prop):(X.yd E).Ok:=
 ⟨ok.mod,ok.kind,ok.glob,ok.blt,ok.above,ok.inj,ok.has,ok.wm,ok.hd,ok.frames,ok.ao,ok.bo,ok.bs,ok.Ih,ok.hg,ok.ig,ok.Uc,ok.Ri⟩
def Cx.Ok.Jb{X:Cx}(ok:(X.yd E).Ok):X.Ok:=
 ⟨ok.mod,ok.kind,ok.glob,ok.blt,ok.above,ok.inj,ok.has,ok.wm,ok.hd,ok.frames,ok.ao,ok.bo,ok.bs,ok.Ih,ok.hg,ok.ig,ok.Uc,ok.Ri⟩
section
variable{X:Cx}{pins:List (FQ×bR)}{σ:St}{H:Hp}{s:GQ}{E:EQ->GQ->Prop}
def Inv.yd(I:Inv X pins σ H s)(E:EQ->GQ->Prop):Inv (X.yd E) pins σ H s:=⟨I.ok.yd E,I.os,I.bare,I.base,I.loc,I.cell,I.free,I.yb,I.pin,I.za,I.len⟩
def Inv.Jb(I:Inv (X.yd E) pins σ H s):Inv X pins σ H s:=⟨I.ok.Jb,I.os,I.bare,I.base,I.loc,I.cell,I.free,I.yb,I.pin,I.za,I.len⟩
def SP.Jb(h:SP (X.yd E) pins D f s'):SP X pins D f s':=by
 cases f with
 |next=>obtain⟨q,H',I,J⟩:=h;exact⟨q,H',I.Jb,J⟩
 |brk=>obtain⟨q,H',I,J⟩:=h;exact⟨q,H',I.Jb,J⟩
 |cont=>obtain⟨q,H',I,J⟩:=h;exact⟨q,H',I.Jb,J⟩
 |ret u=>obtain⟨v,q,H',I,r,J⟩:=h;exact⟨v,q,H',I.Jb,r,J⟩
def PE.dh(h:PE X.dh e t):PE X e t:=⟨λpins s σ H Q I q=>
 Kc (h pins s σ H Q (I.yd _) q) (by rintro _ _⟨v,H',J,r,O⟩;exact⟨v,H',J.Jb,r,O⟩) (by grind)⟩
def PT.dh(h:PT X.dh e t):PT X e t:=⟨λpins s σ H Q I q=>
 Kc (h pins s σ H Q (I.yd _) q) (by rintro _ _⟨H',J,O⟩;exact⟨H',J.Jb,O⟩) (by grind)⟩
def oe.dh{st:List gR}(h:oe X.dh st t):oe X st t:=⟨λpins s σ H D I q=>
 Kc (h pins s σ H D (I.yd _) q) (λ_ _ J=>J.Jb) (by grind)⟩
end
section
variable{X:Cx}{st:gR}{rest:List gR}{t u:TS}{e:SQ}{te:TE}{pos:jR}
def wE:TS:=λD q H=>D.nx q H
def ma(t u:TS):TS:=λD q H=>t {D with nx:=u D} q H
def Bb:oe X [] wE:=⟨λ_ _ q H _ I h=>Pp ⟨q,H,I,h⟩⟩
def oa(O:PS X st t)(Y:oe X rest u):oe X (st::rest) (ma t u):=by
 constructor;intro J s a0 H D I h;refine oS (Fa (O J s a0 H {D with nx:=u D} I h) λf s1 q=>?_);cases f with
 |next=>
  obtain⟨b0,H',c0,q⟩:=q;exact Y J s1 b0 H' D c0 q
 |ret v=>exact q
 |brk=>exact q
 |cont=>exact q
def qa(J:PS X st t):oe X [st] t:=by
 constructor;intro O s Y H D I h;refine oS (Fa (J O s Y H D I h) λf s1 q=>?_);cases f with
 |next=>exact Pp q
 |ret v=>exact q
 |brk=>exact q
 |cont=>exact q
def Inv.quiet{q:St}(I:Inv X J q H s):interactive X.env=IQ:=by simp[interactive,I.ok.kind]
def xE(te:TE):TS:=λD q H=>te q H λ_ J=>D.nx q J
def Ub(J:PE X e te)(O:kR e none pos.line X.env=pure IQ:=by rfl):PS X (.Expr e pos) (xE te):=by
 constructor;intro Y s q H D I h;exact wpAny_Expr_any (Fa (J Y s q H _ I h) (by rintro v s1⟨x,a0,b0,d0,c0⟩;exact⟨q,a0,b0,c0⟩)) I.quiet O
def Wy(te:TE):TS:=λD q H=>te q H D.rt
def Ha(J:PE X e te):PS X (.Return (some e) pos) (Wy te):=by
 constructor;intro O s q H D I h;exact wpAny_Return_some (Fa (J O s q H _ I h) (by rintro v s1⟨x,Y,a0,b0,c0⟩;exact⟨x,q,Y,a0,b0,c0⟩))
def yE:TS:=λD _ H=>D.rt .ya H
def AE:PS X (.Return none pos) yE:=⟨λ_ _ q H _ I h=>wpAny_Return_none ⟨.ya,q,H,I,rfl,h⟩⟩
def lb(c:TT)(t u:TS):TS:=λD q H=>c q H λb J=>if b=HQ then t D q J else u D q J
def qb(b0:PT X c c0)(d0:oe X a t)(e0:oe X b u):PS X (.If c a b pos) (lb c0 t u):=by
 constructor;intro q s J H D I h;refine wpAny_If (Fa (b0 q s J H _ I h) ?_);rintro d s1⟨O,Y,a0⟩;cases d with
 |true=>exact d0 q s1 J O D Y a0
 |false=>exact e0 q s1 J O D Y a0
def oi:TS:=λ_ _ _=>False
def io:PS X st oi:=⟨λ_ _ _ _ _ _ h=>h.elim⟩
end
abbrev TG:=V->St->Hp->(St->Hp->Prop)->Prop
abbrev Ij:=List V->St->Hp->(St->Hp->Prop)->Prop
structure PG(X:Cx)(target:SQ)(t:TG):Prop where
 run:∀(pins:List (FQ×bR))(s:GQ)(σ:St)(H:Hp)(v:V)(u:EQ)(Q:St->Hp->Prop),Inv X pins σ H s->Sa v u->t v σ H Q->
  wpAny (KQ X.prog X.w) X.A (assign target X.env u) (λ_ s'=>∃pi H',Inv X pins pi H' s'/\Q pi H') X.xe s
instance{X:Cx}{target:SQ}{t:TG}:CoeFun (PG X target t) λ_=>∀(pins:List (FQ×bR))(s:GQ)(σ:St)(H:Hp)(v:V)(u:EQ)(Q:St->Hp->Prop),Inv X pins σ H s->Sa v u->t v σ H Q->
  wpAny (KQ X.prog X.w) X.A (assign target X.env u) (λ_ s'=>∃pi H',Inv X pins pi H' s'/\Q pi H') X.xe s:=⟨PG.run⟩
structure Am(X:Cx)(ts:List SQ)(t:Ij):Prop where
 run:∀(pins:List (FQ×bR))(s:GQ)(σ:St)(H:Hp)(vs:List V)(us:List EQ)(Q:St->Hp->Prop),Inv X pins σ H s->Oa vs us->t vs σ H Q->
  wpAny (KQ X.prog X.w) X.A (assignInOrder ((vR ts X.env).map (·.2)) us) (λ_ s'=>∃pi H',Inv X pins pi H' s'/\Q pi H') X.xe s
instance{X:Cx}{ts:List SQ}{t:Ij}:CoeFun (Am X ts t) λ_=>∀(pins:List (FQ×bR))(s:GQ)(σ:St)(H:Hp)(vs:List V)(us:List EQ)(Q:St->Hp->Prop),Inv X pins σ H s->Oa vs us->t vs σ H Q->
  wpAny (KQ X.prog X.w) X.A (assignInOrder ((vR ts X.env).map (·.2)) us) (λ_ s'=>∃pi H',Inv X pins pi H' s'/\Q pi H') X.xe s:=⟨Am.run⟩
section
variable{X:Cx}{pos:jR}
def Bm(i:Nat):TG:=λv q H Q=>Q (q.set i (some v)) H
def Gv(q:X.N.Nodup)(hi:X.N[i]?=some x)(J:Loc X.env.scope x)(O:X.fn x=HQ\/X.env.scope.names.lookup x=some .local:=by first|exact .inl rfl|exact .inr rfl|assumption):PG X (.Name x pos) (Bm i):=by
 constructor;intro a0 s b0 H v u Q I r h;exact wpAny_assign_Name (Ev I q hi J r (λs' Y=>⟨_,H,Y,h⟩) O)
def BE:Ij:=λvs q H Q=>vs=[]/\Q q H
def DE(t:TG)(u:Ij):Ij:=λvs q H Q=>∃v r,vs=v::r/\t v q H λJ H'=>u r J H' Q
def Vk:Am X [] BE:=by
 constructor;intro J s q H vs us Q I r h;obtain⟨e,h⟩:=h;subst e;exact assignInOrder_nil ⟨q,H,I,h⟩
def Ef{e:SQ}{q:List SQ}{t:TG}{u:Ij}(O:PG X e t)(Y:Am X q u)
  (a0:(vR (e::q) X.env).map (·.2)=assign e X.env::(vR q X.env).map (·.2):=by rfl):Am X (e::q) (DE t u):=by
 constructor;intro J s b0 H vs us Q I r h;obtain⟨v,i0,c0,h⟩:=h;subst c0;cases r with
 |cons r d0=>
  rw[a0];refine assignInOrder_cons (Fa (O J s b0 H _ _ _ I r h) ?_);rintro _ s1⟨e0,f0,g0,h0⟩;exact Y J s1 e0 f0 _ _ Q g0 d0 h0
def Xy(K:W.Frag)(n:Nat)(t:Ij):TG:=λv q H Q=>∃a xs,v=.ref a/\xa K H a xs/\xs.length=n/\t xs q H Q
def jo{q:List SQ}{k:Nat}{t:Ij}{n:Nat}(Y:X.calm=HQ)(h:Am X q t)
  (a0:(vR q X.env).length=n:=by rfl)(b0:(vR q X.env).findIdx? (·.1)=none:=by rfl):PG X (.Tuple q k pos) (Xy X.K n t):=by
 constructor;intro c0 s d0 H v u Q I r J;obtain⟨a,xs,e0,f0,g0,J⟩:=J;subst e0;cases r;obtain⟨k0,O,h0,hz⟩:=I.tuple f0;refine assign_Tuple_tuple (I.ok.hd Y) h0 (by simp[a0,<-g0,O.length]) b0 λh' i0=>?_
 have j0:=I.kept (t':=s.toks) λb o e=>i0 b o (Ob (pb e)) e
 exact h c0 _ d0 H xs _ Q j0 (by simpa using O) J
def Hv(J:TE)(g:TG):TS:=λD q H=>J q H λx O=>g x q O D.nx
def Yy(q:X.N.Nodup)(hi:X.N[i]?=some x)(J:Loc X.env.scope x)(O:PE X e Y)(a0:kR e (some (.Name x b0)) pos.line X.env=pure IQ:=by rfl)(c0:X.fn x=HQ\/X.env.scope.names.lookup x=some .local:=by first|exact .inl rfl|exact .inr rfl|assumption):
  PS X (.Assign [.Name x b0] e pos) (Hv Y (Bm i)):=by
 constructor;intro d0 s e0 H D I h;refine wpAny_Assign_Name (Fa (O d0 s e0 H _ I h) ?_) a0;rintro v s1⟨y,f0,g0,h0,i0⟩;exact Ev g0 q hi J h0 (λk0 j0=>⟨_,f0,j0,i0⟩) c0
end
structure It where
 go:Nat->Hp->Prop
 pe:Nat->Hp->V->Hp->Prop
 stop:Nat->Hp->Prop
def Jg(X:Cx)(q:List (FQ×bR))(H:Hp)(b:FQ):Prop:=
 H b=none/\b≠X.env.locals/\b∉X.fs/\(b∈X.ex\/X.s₀.heap.objs.size<=b)/\(∀x c,X.env.cells.lookup x=some c->c≠b)/\∀p∈X.pn++q,p.1≠b
def Inv.Ce{J:St}{b:FQ}(I:Inv X O J H s)(q:s.heap.objs.size<=b)(Y:H' b=none):Jg X O H' b:=by
 refine⟨Y,Wn (pd I.lt q),I.Cv q,.inr (qc I.sz q),λx c e z=>?_,λp a0 z=>?_⟩
 ·obtain⟨v,b0⟩:=I.cell x c e;exact absurd (pd b0.lt (by rw[z];exact q)) (Pk _)
 ·exact absurd (pd (pb (I.pin p a0).1) (by rw[z];exact q)) (Pk _)
structure Vi(P:MQ)(w:PQ)(K:W.Frag)(tg:SQ)(J:It)(fp:List FQ)(it:FQ)(tn:Nat->NQ->Prop):Prop where
 mem:it∈fp
 obj:∀i h,tn i h->∀b∈fp,∃o,h.get? b=some o/\∀v,o.data≠.cell v
 keep:∀i h h',tn i h->(∀b∈fp,∀o,h.get? b=some o->h'.get? b=some o)->tn i h'
 item:∀(X:Cx),X.prog=P->X.w=w->X.K=K->X.calm=HQ->∀(i:Nat)(pins:List (FQ×bR))(s:GQ)(σ:St)(H:Hp)(E:EQ->GQ->Prop),Inv X pins σ H s->(∀b∈fp,Jg X pins H b)->tn i s.heap->J.go i H->
  wpAny (KQ P w) X.A (GS (.ref it)) (λr s1=>∃u,r=some u/\
   wpAny (KQ P w) X.A (IR tg (.ref it) u) (λ_ s2=>∃x H',Inv X pins σ H' s2/\Sa x u/\J.pe i H x H'/\tn (i+1) s2.heap/\∀b∈fp,H' b=none) E s1) E s
 done:∀(X:Cx),X.prog=P->X.w=w->X.K=K->X.calm=HQ->∀(i:Nat)(pins:List (FQ×bR))(s:GQ)(σ:St)(H:Hp)(E:EQ->GQ->Prop),Inv X pins σ H s->(∀b∈fp,Jg X pins H b)->tn i s.heap->J.stop i H->
  wpAny (KQ P w) X.A (GS (.ref it)) (λr s1=>r=none/\Inv X pins σ H s1) E s
 self:∀(A:OQ)(i:Nat)(s:GQ)(Q:EQ->GQ->Prop)(E:EQ->GQ->Prop),tn i s.heap->Q (.ref it) s->wpAny (KQ P w) A (cS (.ref it)) Q E s
abbrev TI:=St->Hp->(It->Hp->Prop)->Prop
inductive Iv(X:Cx)(pins:List (FQ×bR))(σ:St)(tg:SQ)(R:It->Hp->Prop)(EE:EQ)(s2:GQ):Prop|mk(it:FQ)(fp:List FQ)(tn:Nat->NQ->Prop)(J:It)(H':Hp)(_:EE=.ref it)(_:Inv X pins σ H' s2)(_:Vi X.prog X.w X.K tg J fp it tn)(_:tn 0 s2.heap)(_:(∀b∈fp,Jg X pins H' b))(_:R J H')
structure PI(X:Cx)(tg iter:SQ)(wi:TI):Prop where
 run:∀(pins:List (FQ×bR))(s:GQ)(σ:St)(H:Hp)(R:It->Hp->Prop),Inv X pins σ H s->wi σ H R->
  wpAny (KQ X.prog X.w) X.A (RQ iter X.env) (λv s1=>wpAny (KQ X.prog X.w) X.A (cS v) (Iv X pins σ tg R) X.xe s1) X.xe s
instance{X:Cx}{tg iter:SQ}{wi:TI}:CoeFun (PI X tg iter wi) λ_=>∀(pins:List (FQ×bR))(s:GQ)(σ:St)(H:Hp)(R:It->Hp->Prop),Inv X pins σ H s->wi σ H R->
  wpAny (KQ X.prog X.w) X.A (RQ iter X.env) (λv s1=>wpAny (KQ X.prog X.w) X.A (cS v) (Iv X pins σ tg R) X.xe s1) X.xe s:=⟨PI.run⟩
def Vp(ho:s.heap.get? it=some o)(J:o.cls=.type n)(O:o.data=.fields vs)
    (a0:["enumerate","zip","dict_itemiterator","dict_reverseitemiterator","odict_iterator","itertools.zip_longest","itertools.pairwise"].contains n=IQ)(q:Q () s):wpAny M A (IR Y (.ref it) u) Q E s:=by
  unfold IR;cases Y<;>first
    |exact Aa q
    |(cases u<;>first
        |exact Aa q
        | (refine ba (DS ho ?_)
           rw[J,O];show wpAny M A (if(["enumerate","zip","dict_itemiterator","dict_reverseitemiterator","odict_iterator","itertools.zip_longest","itertools.pairwise"].contains n&&vs[0]?==some (eR _))=HQ then _ else _) Q E s;rw[Ba (by grind)];exact Aa q))
def Wi(K:W.Frag)(a:FQ):It:=
 ⟨λi H=>∃xs x,ja K H a xs/\xs[i]?=some x,λi H x H'=>H'=H/\∀xs,ja K H a xs->xs[i]?=some x,λi H=>∃xs,ja K H a xs/\xs.length<=i⟩
def Wp(K:W.Frag)(a:FQ):It:=
 ⟨λi H=>∃xs x,xa K H a xs/\xs[i]?=some x,λi H x H'=>H'=H/\∀xs,xa K H a xs->xs[i]?=some x,λi H=>∃xs,xa K H a xs/\xs.length<=i⟩
def Cm(lo:Int)(n:Nat):It:=⟨λi _=>i<n,λi H x H'=>H'=H/\x=.int (lo+i),λi _=>n<=i⟩
def FE{K:W.Frag}(a it:FQ):Vi P w K w0 (Wi K a) [it] it (λi h=>h.IsListIter it a i)where
 mem:=by simp
 obj:=λi h st b J=>by
  have e:b=it:=by simpa using J
  subst e;obtain⟨o,e,c,d⟩:=st;exact(by grind)
 keep:=λi h h' st k=>st.at (by grind)
 item:=by
  intro X O Y a0 k0 i n0 s o0 H E I b0 st c0;subst O Y a0;obtain⟨xs,x,q,d0⟩:=c0;obtain⟨p0,e0,p,hz⟩:=I.list q;obtain⟨u,q0,r0⟩:=e0.get d0;obtain⟨f0,g0,s0,h0,i0,j0⟩:=b0 it (by simp);refine wpAny_pyNext_list_item st p.isList (by simpa using q0) λh' l0 t0=>?_
  have u0:=I.turned (t':=s.toks) (λb o J e=>(t0.2 b J).trans e) f0 g0 h0 i0 j0;obtain⟨o,e,c,d⟩:=id l0;exact⟨u,rfl,Vp e c d (by decide) (nx4 x H u0 r0 ⟨rfl,λys v0=>by rw[I.vd v0 q];exact d0⟩ l0 (by grind))⟩
 done:=by
  intro X O Y a0 k0 i n0 s o0 H E I b0 st c0;subst O Y a0;obtain⟨xs,q,d0⟩:=c0;obtain⟨p0,e0,p,hz⟩:=I.list q;obtain⟨f0,g0,s0,h0,i0,j0⟩:=b0 it (by simp);have x0:=e0.length;exact wpAny_pyNext_list_end (I.ok.hd k0) st p.isList (by simp;lia) λh' y0=>⟨rfl,I.turned ‹_› f0 g0 h0 i0 j0⟩
 self:=λ_ _ _ _ _ st h=>wpAny_pyIter_listiter st h
def HE{K:W.Frag}(a it:FQ):Vi P w K w0 (Wp K a) [it] it (λi h=>h.IsTupleIter it a i)where
 mem:=by simp
 obj:=λi h st b J=>by
  have e:b=it:=by simpa using J
  subst e;obtain⟨o,e,c,d⟩:=st;exact(by grind)
 keep:=λi h h' st k=>st.at (by grind)
 item:=by
  intro X O Y a0 k0 i n0 s o0 H E I b0 st c0;subst O Y a0;obtain⟨xs,x,q,d0⟩:=c0;obtain⟨p0,e0,p,hz⟩:=I.tuple q;obtain⟨u,q0,r0⟩:=e0.get d0;obtain⟨f0,g0,s0,h0,i0,j0⟩:=b0 it (by simp);refine wpAny_pyNext_tuple_item st (p) (by simpa using q0) λh' l0 t0=>?_
  have u0:=I.turned (t':=s.toks) (λb o J e=>(t0.2 b J).trans e) f0 g0 h0 i0 j0;obtain⟨o,e,c,d⟩:=id l0;exact⟨u,rfl,Vp e c d (by decide) (nx4 x H u0 r0 ⟨rfl,λys v0=>by rw[I.Te v0 q];exact d0⟩ l0 (by grind))⟩
 done:=by
  intro X O Y a0 k0 i n0 s o0 H E I b0 st c0;subst O Y a0;obtain⟨xs,q,d0⟩:=c0;obtain⟨p0,e0,p,hz⟩:=I.tuple q;obtain⟨f0,g0,s0,h0,i0,j0⟩:=b0 it (by simp);have x0:=e0.length;exact wpAny_pyNext_tuple_end (I.ok.hd k0) st (p) (by simp;lia) λh' y0=>⟨rfl,I.turned ‹_› f0 g0 h0 i0 j0⟩
 self:=λ_ _ _ _ _ st h=>wpAny_pyIter_tupleiter st h
def IE{K:PySem.W.Frag}(it:FQ)(lo:Int)(n:Nat):Vi P w K q0 (Cm lo n) [it] it (λi h=>IsRangeIter h it (lo+(i:Nat)*1) ((n:Int)-(i:Nat)) 1)where
 mem:=by simp
 obj:=λi h st b l0=>by
  grind
 keep:=by grind
 item:=by
  intro X q J O Y i h0 s i0 H E I a0 st b0;subst q J O;obtain⟨c0,d0,n0,e0,f0,g0⟩:=a0 it (by simp);have W:=Walks.range (prog:=X.prog) (w:=X.w) (I.ok.hd Y) it lo 1 n;refine W.item i s _ _ b0 st λv h' j0 hv k0 o0=>?_
  obtain⟨t,rfl⟩:=hv;have p0:Inv X h0 i0 H {s with heap:=h',toks:=j0}:=I.turned (λb o l0 e=>o0 b o (by grind) e) c0 d0 e0 f0 g0;refine⟨_,rfl,Vp (s:={s with heap:=h',toks:=j0}) (n:="range_iterator") k0 rfl rfl (by decide) (nx4 (.int (lo+i)) H p0 ⟨t,?_⟩ ⟨rfl,rfl⟩ k0 (by grind))⟩;rw[Int.mul_one]
 done:=by
  intro X q J O Y i h0 s i0 H E I a0 st b0;subst q J O;obtain⟨c0,d0,n0,e0,f0,g0⟩:=a0 it (by simp);exact wpAny_pyNext_range_end (I.ok.hd Y) st (by have:n<=i:=b0;lia) λh' r0=>⟨rfl,I.turned (t':=s.toks) ‹_› c0 d0 e0 f0 g0⟩
 self:=λ_ _ _ _ _ st h=>wpAny_pyIter_rangeiter st h
section
variable{X:Cx}{tg:SQ}
def Zy(K:W.Frag)(J:TE):TI:=λO H R=>J O H λx q=>∃a,x=.ref a/\(∃xs,ja K q a xs)/\R (Wi K a) q
def JE(K:W.Frag)(J:TE):TI:=λO H R=>J O H λx q=>∃a,x=.ref a/\(∃xs,xa K q a xs)/\R (Wp K a) q
def Yb(J:PE X l O):PI X tg l (Zy X.K O):=by
 constructor;intro Y s a0 H R I h;refine Fa (J Y s a0 H _ I h) ?_;rintro v s1⟨x,b0,q,c0,d0⟩;obtain⟨a,e,⟨xs,e0⟩,f0⟩:=d0;subst e;cases c0;obtain⟨h0,i0,p,hz⟩:=q.list e0;refine rm p.isList ?_;refine⟨s1.heap.objs.size,[s1.heap.objs.size],_,_,b0,rfl,q.kept λb o e=>Xa _ e,FE a _,⟨_,ec _ rfl,rfl,rfl⟩,λb g0=>?_,f0⟩;have e:b=s1.heap.objs.size:=by simpa using g0
 subst e;exact q.Ce (Ra _) (q.za.fresh (Ra _))
def ME(J:PE X l O):PI X tg l (JE X.K O):=by
 constructor;intro Y s a0 H R I h;refine Fa (J Y s a0 H _ I h) ?_;rintro v s1⟨x,b0,q,c0,d0⟩;obtain⟨a,e,⟨xs,e0⟩,f0⟩:=d0;subst e;cases c0;obtain⟨h0,i0,p,hz⟩:=q.tuple e0;refine wpAny_pyIter_tuple (p) ?_;refine⟨s1.heap.objs.size,[s1.heap.objs.size],_,_,b0,rfl,q.kept λb o e=>Xa _ e,HE a _,⟨_,ec _ rfl,rfl,rfl⟩,λb g0=>?_,f0⟩;have e:b=s1.heap.objs.size:=by simpa using g0
 subst e;exact q.Ce (Ra _) (q.za.fresh (Ra _))
def Ff{q:St}{lo hi:Int}(I:Inv X O q H s)(Y:-(2^62)<=lo)(a0:lo<2^62)(b0:-(2^62)<=hi)(c0:hi<2^62)
  (d0:R (Cm lo (hi-lo).toNat) H):wpAny (KQ X.prog X.w) X.A (cS (.ref s.heap.objs.size)) (Iv X O q tg R) E {s with heap:=s.heap.push {cls:=.type "range",data:=.fields #[.int lo t,.int hi u,.int 1 v]},toks:=e0}:=by
 refine wpAny_pyIter_range (IsRange.new ..) (small_one Y a0 b0 c0) ?_;have J:Inv X O q H {s with heap:=s.heap.push {cls:=.type "range",data:=.fields #[.int lo t,.int hi u,.int 1 v]},toks:=e0}:=I.kept λb o e=>Xa _ e
 refine⟨(s.heap.push {cls:=.type "range",data:=.fields #[.int lo t,.int hi u,.int 1 v]}).objs.size,[(s.heap.push {cls:=.type "range",data:=.fields #[.int lo t,.int hi u,.int 1 v]}).objs.size],_,_,H,rfl,
  J.kept λb o e=>Xa _ e,IE _ lo (hi-lo).toNat,?_,λb f0=>?_,d0⟩
 ·have g0:lo+((0:Nat):Int)*1=lo:=by simp
  have h0:(((hi-lo).toNat:Nat):Int)-((0:Nat):Int)=Builtin.Range.rangeSize lo hi 1:=by rw[rangeSize_one];split<;>lia
  rw[g0,h0];exact ec _ rfl
 ·have e:b=(s.heap.push {cls:=.type "range",data:=.fields #[.int lo t,.int hi u,.int 1 v]}).objs.size:=by simpa using f0
  subst e;exact J.Ce (Ra _) (J.za.fresh (Ra _))
def NE(q:TA):TI:=λJ H R=>q J H λvs O=>∃j:Int,vs=[.int j]/\-(2^62)<=j/\j<2^62/\R (Cm 0 j.toNat) O
def OE(q:TA):TI:=λJ H R=>q J H λvs O=>∃i j:Int,vs=[.int i,.int j]/\(-(2^62)<=i/\i<2^62/\-(2^62)<=j/\j<2^62)/\R (Cm i (j-i).toNat) O
def Jv(J:Gl X "range")(O:X.mg "range"=none)(Y:PA X [a] a0)(b0:LQ [a] X.env=[(IQ,RQ a X.env)]:=by rfl):PI X tg (.Call (.Name "range" p) [a] [] c0) (NE a0):=by
 constructor;intro d0 s e0 H R I h;refine Call_ (Jh I J O boot_range (im (Fa (Y c0 d0 s e0 H _ I h) ?_) b0 rfl));rintro us s1⟨vs,k0,f0,g0,q⟩;obtain⟨j,e,q,h0,i0⟩:=q;subst e;cases g0 with
 |cons r j0=>
  cases j0;obtain⟨t,rfl⟩:=r;exact call_range_1 (Ff f0 (by lia) (by lia) q h0 (by simpa using i0))
def QE{p O:jR}(a0:Gl X "range")(b0:X.mg "range"=none)(c0:PA X [a,b] d0)(e0:LQ [a,b] X.env=[(IQ,RQ a X.env),(IQ,RQ b X.env)]:=by rfl)(Y:LQ [b] X.env=[(IQ,RQ b X.env)]:=by rfl):
  PI X tg (.Call (.Name "range" p) [a,b] [] O) (OE d0):=by
 constructor;intro f0 s g0 H R I h;refine Call_ (Jh I a0 b0 boot_range (im (Fa (c0 O f0 s g0 H _ I h) ?_) (by rw[e0,Y]) (by rw[Y];rfl)));rintro us s1⟨vs,p0,h0,i0,q⟩;obtain⟨i,j,e,⟨q,j0,k0,l0⟩,n0⟩:=q;subst e;cases i0 with
 |cons r J=>
  cases J with
  |cons o0 J=>
   cases J;obtain⟨t,rfl⟩:=r;obtain⟨t',rfl⟩:=o0;exact call_range_2 (Ff h0 q j0 k0 l0 n0)
def qe(a0:TI)(g:TG)(b0:TS):TS:=λD q H=>a0 q H λJ c0=>∃W:Nat->Nat->St->Hp->Prop,(∃m,W 0 m q c0)/\∀i m q H,W i m q H->
 (J.stop i H/\D.nx q H)\/(J.go i H/\∃N:St->Hp->Prop,(∀O H',N O H'->∃Y,Y<m/\W (i+1) Y O H')/\∀x H',J.pe i H x H'->g x q H' λd0 e0=>b0 {D with nx:=N,ct:=N,bk:=D.nx} d0 e0)
def Xp(fp:List FQ)(h:NQ):List (FQ×bR):=fp.filterMap λb=>(h.get? b).map λo=>(b,o)
def Sr(q:b∈fp)(e:h.get? b=some o):(b,o)∈Xp fp h:=xk.mpr ⟨b,q,by rw[e];rfl⟩
def RE(q:p∈Xp fp h):p.1∈fp/\h.get? p.1=some p.2:=by
 obtain⟨b,J,e⟩:=xk.mp q;cases O:h.get? b with
 |none=>grind
 |some o=>
  grind
def Inv.pinned{q:St}(I:Inv X J q H s)(O:∀b∈fp,Jg X J H b)(ho:∀b∈fp,∃o,s.heap.get? b=some o/\∀v,o.data≠.cell v):Inv X (J++Xp fp s.heap) q H s:=
 I.Ig λp Y=>(Ah.mp Y).elim (λz=>I.pin p (by grind)) λz=>by
  obtain⟨a0,e⟩:=RE z;obtain⟨b0,c0,d0,_⟩:=O p.1 a0
  grind
def Inv.xc{q:St}(I:Inv X (J++pl) q H s):Inv X J q H s:=I.Ig λp O=>I.pin p (by grind)
def re(c0:PassesOwn (KQ X.prog X.w) X.A X.env X.xe)(l0:X.calm=HQ)(hi:PI X tg iter w0)(x0:PG X tg g)(q:oe X y0 z0)
  (A0:∀x,rR iter X.env x=pure x:=by intro _;rfl):PS X (.For tg iter y0 [] j1) (qe w0 g z0):=by
 constructor;intro b0 s n0 H D I h;refine wpAny_For (Fa (hi b0 s n0 H _ I h) λv s1 B0=>Fa B0 λk1 l1 C0=>?_) A0;obtain⟨it,fp,o0,m1,D0,e,F0,T,G0,p0,W,⟨m0,H0⟩,I0⟩:=C0;subst e;have h0:∀{H':Hp},(∀b∈fp,H' b=none)->∀b∈fp,Jg X b0 H' b:=λJ0 b q=>⟨J0 b q,(p0 b q).2⟩
 refine codeAny_forLoop_any (λn s'=>∃i d0 H',Inv X b0 d0 H' s'/\o0 i s'.heap/\(∀b∈fp,H' b=none)/\W i n d0 H') ?_ m0 (nx2 0 n0 D0 F0 G0 (λb q=>(p0 b q).1) H0);rintro n q0⟨i,e0,g0,r0,s0,t0,K0⟩;rcases I0 i n e0 g0 K0 with⟨stop,L0⟩|⟨M0,N,N0,step⟩
 ·refine Jp c0 (Fa (T.done X rfl rfl rfl l0 i b0 q0 e0 g0 X.xe r0 (h0 t0) s0 stop) ?_);rintro r O0⟨i0,Q0⟩;subst i0;exact Pp ⟨e0,g0,Q0,L0⟩
 ·refine Jp c0 (Fa (T.item X rfl rfl rfl l0 i b0 q0 e0 g0 X.xe r0 (h0 t0) s0 M0) ?_);rintro r O0⟨u,i0,R0⟩;subst i0;refine Jp c0 (Fa R0 ?_);rintro _ u0⟨x,v0,S0,U0,V0,j0,W0⟩;have X0:=S0.pinned (h0 W0) (T.obj _ _ j0);refine Jp c0 (Fa (x0 _ u0 e0 v0 x u _ X0 U0 (step x v0 V0)) ?_);rintro _ Y0⟨Z0,a1,b1,d1⟩;refine Jp c0 (Fa (q _ Y0 Z0 a1 _ b1 d1) λf k0 a0=>?_);have again:∀{J:St}{O:Hp},Inv X (b0++Xp fp u0.heap) J O k0->N J O->∃m,m<n/\∃i d0 H',Inv X b0 d0 H' k0/\o0 i k0.heap/\(∀b∈fp,H' b=none)/\W i m d0 H':=λ{J O}Y f0=>by
   obtain⟨e1,f1,g1⟩:=N0 J O f0;refine nx18 e1 f1 (i+1) (nx11 J O Y.xc (T.keep _ _ _ j0 λb q o e=>(Y.pin (b,o) (Dj _ (Dj _ (Sr q e)))).1) (λb q=>?_) g1);obtain⟨o,e,d⟩:=T.obj _ _ j0 b q;exact(Y.pin (b,o) (Dj _ (Dj _ (Sr q e)))).2.1
  cases f with
  |next=>obtain⟨J,O,Y,f0⟩:=a0;exact again Y f0
  |cont=>obtain⟨J,O,Y,f0⟩:=a0;exact again Y f0
  |brk=>obtain⟨J,O,Y,a0⟩:=a0;exact nx5 J O Y.xc a0
  |ret v=>obtain⟨h1,J,O,Y,i1,a0⟩:=a0;exact nx9 h1 J O Y.xc i1 a0
end
def eh{K:PySem.W.Frag}{g:TG}{a0:TS}{D:Se}(Pv:Nat->St->Hp->Prop)(h0:Pv 0 q H)(e0:∀i q H,i<=xs.length->Pv i q H->ja K H a xs)
  (i0:∀i x q H,xs[i]?=some x->Pv i q H->g x q H λJ O=>a0 {D with nx:=Pv (i+1),ct:=Pv (i+1),bk:=D.nx} J O)(f0:∀q H,Pv xs.length q H->D.nx q H):
  ∃W:Nat->Nat->St->Hp->Prop,(∃m,W 0 m q H)/\∀i m q H,W i m q H->
   ((Wi K a).stop i H/\D.nx q H)\/((Wi K a).go i H/\∃N:St->Hp->Prop,(∀Y H',N Y H'->∃b0,b0<m/\W (i+1) b0 Y H')/\∀x H',(Wi K a).pe i H x H'->g x q H' λJ O=>a0 {D with nx:=N,ct:=N,bk:=D.nx} J O):=by
 refine⟨λi m q H=>m=xs.length-i/\i<=xs.length/\Pv i q H,by grind,?_⟩;rintro i m q H⟨rfl,hi,p⟩;have c0:=e0 i q H hi p;by_cases d0:i<xs.length
 ·refine .inr ⟨⟨xs,xs[i],c0,by simp[d0]⟩,Pv (i+1),λY H' g0=>⟨xs.length-(i+1),by lia,rfl,d0,g0⟩,λx H' y=>?_⟩;obtain⟨e,y⟩:=y
  grind
 ·have e:i=xs.length:=by lia
  subst e;exact .inl ⟨⟨xs,c0,Ra _⟩,f0 q H p⟩
def Kv{lo:Int}{g:TG}{b0:TS}{D:Se}(Pv:Nat->St->Hp->Prop)(g0:Pv 0 q H)
  (d0:∀i q H,i<n->Pv i q H->g (.int (lo+i)) q H λJ O=>b0 {D with nx:=Pv (i+1),ct:=Pv (i+1),bk:=D.nx} J O)(e0:∀q H,Pv n q H->D.nx q H):
  ∃W:Nat->Nat->St->Hp->Prop,(∃m,W 0 m q H)/\∀i m q H,W i m q H->
   ((Cm lo n).stop i H/\D.nx q H)\/((Cm lo n).go i H/\∃N:St->Hp->Prop,(∀Y H',N Y H'->∃c0,c0<m/\W (i+1) c0 Y H')/\∀x H',(Cm lo n).pe i H x H'->g x q H' λJ O=>b0 {D with nx:=N,ct:=N,bk:=D.nx} J O):=by
 refine⟨λi m q H=>m=n-i/\i<=n/\Pv i q H,by grind,?_⟩;rintro i m q H⟨rfl,hi,p⟩;by_cases a0:i<n
 ·refine .inr ⟨a0,Pv (i+1),λY H' f0=>⟨n-(i+1),by lia,rfl,a0,f0⟩,λx H' y=>?_⟩;obtain⟨e,y⟩:=y;subst e y;exact d0 i q _ a0 p
 ·have e:i=n:=by lia
  subst e;exact .inl ⟨Ra _,e0 q H p⟩
abbrev R2:=V->V->Hp->VK->Prop
def Vc(X:Cx)(f:EQ->EQ->Sem EQ)(r:R2):Prop:=
 ∀(q:List (FQ×bR))(s:GQ)(J:St)(H:Hp)(x y:V)(v u:EQ)(Q:VK),Inv X q J H s->Sa x v->Sa y u->r x y H Q->
  wpAny (KQ X.prog X.w) X.A (f v u) (EP X q J Q) X.xe s
def Mv(X:Cx)(f:EQ->Sem EQ)(r:V->Hp->VK->Prop):Prop:=
 ∀(q:List (FQ×bR))(s:GQ)(J:St)(H:Hp)(x:V)(v:EQ)(Q:VK),Inv X q J H s->Sa x v->r x H Q->
  wpAny (KQ X.prog X.w) X.A (f v) (EP X q J Q) X.xe s
def gf(X:Cx)(f:EQ)(r:List V->Hp->VK->Prop):Prop:=
 ∀(q:List (FQ×bR))(s:GQ)(J:St)(H:Hp)(xs:List V)(us:List EQ)(Q:VK),Inv X q J H s->Oa xs us->r xs H Q->
  wpAny (KQ X.prog X.w) X.A (call f us) (EP X q J Q) X.xe s
def SE(X:Cx)(r:V->Hp->(Bool->Hp->Prop)->Prop):Prop:=
 ∀(q:List (FQ×bR))(s:GQ)(J:St)(H:Hp)(x:V)(v:EQ)(Q:Bool->Hp->Prop),Inv X q J H s->Sa x v->r x H Q->
  wpAny (KQ X.prog X.w) X.A (truthy v) (TP X q J Q) X.xe s
def Dm(r:R2)(J O:TE):TE:=λq H Q=>J q H λx Y=>O q Y λy a0=>r x y a0 Q
def UE(r:V->Hp->VK->Prop)(q:TE):TE:=λJ H Q=>q J H λx O=>r x O Q
inductive rI(C:Int->Int->Prop)(g:Int->Int->V)(x y:V)(H:Hp)(Q:VK):Prop|mk(i j)(_:x=.int i)(_:y=.int j)(_:C i j)(_:Q (g i j) H)
inductive Em(g:Int->Int->V)(x y:V)(H:Hp)(Q:VK):Prop|mk(i j)(_:x=.int i)(_:y=.int j)(_:Q (g i j) H)
inductive rU(g:Int->V)(x:V)(H:Hp)(Q:VK):Prop|mk(i)(_:x=.int i)(_:Q (g i) H)
section
variable{X:Cx}{a b c:SQ}{ta tb tc:TE}{pos:jR}
def Nv(b0:PE X a ta)(c0:PE X b tb){q:St}{R:V->V->Hp->Prop}(I:Inv X Y q H s)
  (h:ta q H λx a0=>tb q a0 λy J=>R x y J){f:EQ->EQ->Sem EQ}
  (d0:∀v u O x y J,Inv X Y q J O->Sa x v->Sa y u->R x y J->wpAny (KQ X.prog X.w) X.A (f v u) Q X.xe O):
  wpAny (KQ X.prog X.w) X.A (RQ a X.env) (λv e0=>wpAny (KQ X.prog X.w) X.A (RQ b X.env) (λu f0=>wpAny (KQ X.prog X.w) X.A (f v u) Q X.xe f0) X.xe e0) X.xe s:=by
 refine Fa (b0 Y s q H _ I h) ?_;rintro v s1⟨x,a0,g0,h0,i0⟩;refine Fa (c0 Y s1 q a0 _ g0 i0) ?_;rintro u O⟨y,J,j0,k0,l0⟩;exact d0 v u O x y J j0 h0 k0 l0
def Ta(ho:Vc X (tR q) r)(J:PE X a ta)(O:PE X b tb):PE X (.BinOp a q b pos) (Dm r ta tb):=by
 constructor;intro Y s a0 H Q I h;exact wpAny_BinOp (Nv J O I h λv u b0 x y c0 d0 e0 f0 g0=>ho Y b0 a0 c0 x y v u Q d0 e0 f0 g0)
def az(ho:Mv X (unaryOp O) r)(Y:PE X a ta):PE X (.UnaryOp O a pos) (UE r ta):=by
 constructor;intro q s J H Q I h;exact UnaryOp_ (Fa (Y q s J H _ I h) (by rintro v s1⟨x,a0,b0,c0,d0⟩;exact ho q s1 J a0 x v Q b0 c0 d0))
def Tr{g:Int->Int->Int}
  (rule:∀(i j:Int)(t u:Tok)(s:GQ)(Q:EQ->GQ->Prop)(E:EQ->GQ->Prop),C i j->Q (.int (g i j) s.toks) {s with toks:=s.toks+1}->wpAny (KQ X.prog X.w) X.A (f (.int i t) (.int j u)) Q E s):
  Vc X f (rI C λi j=>.int (g i j)):=by
 intro a0 s b0 H x y v u Q I q J h;obtain⟨i,j,rfl,rfl,O,Y⟩:=h;obtain⟨t,rfl⟩:=q;obtain⟨t',rfl⟩:=J;exact rule i j t t' s _ _ O ⟨.int (g i j),H,I.tok _,⟨_,rfl⟩,Y⟩
def bz{g:Int->Int->Int}
  (rule:∀(i j:Int)(t u:Tok)(s:GQ)(Q:EQ->GQ->Prop)(E:EQ->GQ->Prop),Q (.int (g i j) s.toks) {s with toks:=s.toks+1}->wpAny (KQ X.prog X.w) X.A (f (.int i t) (.int j u)) Q E s):
  Vc X f (Em λi j=>.int (g i j)):=by
 intro Y s a0 H x y v u Q I q J h;obtain⟨i,j,rfl,rfl,O⟩:=h;obtain⟨t,rfl⟩:=q;obtain⟨t',rfl⟩:=J;exact rule i j t t' s _ _ ⟨.int (g i j),H,I.tok _,⟨_,rfl⟩,O⟩
def Ov{g:Int->Int->Bool}
  (rule:∀(i j:Int)(t u:Tok)(s:GQ)(Q:EQ->GQ->Prop)(E:EQ->GQ->Prop),Q (.bool (g i j)) s->wpAny (KQ X.prog X.w) X.A (f (.int i t) (.int j u)) Q E s):
  Vc X f (Em λi j=>.bl (g i j)):=by
 intro Y s a0 H x y v u Q I q J h;obtain⟨i,j,rfl,rfl,O⟩:=h;obtain⟨t,rfl⟩:=q;obtain⟨t',rfl⟩:=J;exact rule i j t t' s _ _ ⟨.bl (g i j),H,I,rfl,O⟩
def VE(i j:Int):Prop:=0<j/\j<1073741824
def WE(i j:Int):Prop:=0<=j/\j<=1000000/\i.natAbs<2^64
def Vr(i j:Int):Prop:=(-(2^64)<i/\i<2^64)\/(-(2^64)<j/\j<2^64)
def Vr.ok(h:Vr i j):IntMulOk i j:=by
 rcases h with⟨q,J⟩|⟨q,J⟩
 ·exact .of_left (intBits_le_64 q J)
 ·exact .of_right (intBits_le_64 q J)
def Ee:Vc X (tR .Add) (Em λi j=>.int (i+j)):=bz λ_ _ _ _ _ _ _ q=>add_int q
def Wk:Vc X (tR .Sub) (Em λi j=>.int (i-j)):=bz λ_ _ _ _ _ _ _ q=>sub_int q
def qi:Vc X (tR .Mult) (rI Vr λi j=>.int (i*j)):=Tr λ_ _ _ _ _ _ _ q J=>mul_int J q.ok
def jg:Vc X (tR .FloorDiv) (rI VE λi j=>.int (i/j)):=Tr λi j _ _ _ _ _ q J=>by
 have O:=q.1;have Y:=q.2;exact floordiv_int (by lia) (by rw[Int.fdiv_eq_ediv_of_nonneg i (by lia)];exact J) (.inl (PyProof.noPylong_small (by lia)))
def se:Vc X (tR .Mod) (rI (λ_ j=>0<j) λi j=>.int (i%j)):=Tr λi j _ _ _ _ _ J q=>by
 exact mod_int' (by lia) (by rw[Int.fmod_eq_emod_of_nonneg i (by lia)];exact q)
def Qv:Vc X (tR .Pow) (rI WE λi j=>.int (i^j.toNat)):=Tr λ_ _ _ _ _ _ _ q J=>pow_int_small q.1 q.2.1 q.2.2 J
def XE{g:Int->Int}
  (rule:∀(i:Int)(t:Tok)(s:GQ)(Q:EQ->GQ->Prop)(E:EQ->GQ->Prop),Q (.int (g i) s.toks) {s with toks:=s.toks+1}->wpAny (KQ X.prog X.w) X.A (f (.int i t)) Q E s):
  Mv X f (rU λi=>.int (g i)):=by
 intro O s Y H x v Q I q h;obtain⟨i,rfl,J⟩:=h;obtain⟨t,rfl⟩:=q;exact rule i t s _ _ ⟨.int (g i),H,I.tok _,⟨_,rfl⟩,J⟩
def cz:Mv X (unaryOp .USub) (rU λi=>.int (-i)):=XE λ_ _ _ _ _ q=>neg_int q
end
def dz:V->V->Bool
 |.ya,.ya=>HQ|.ya,.int _=>HQ|.int _,.ya=>HQ|.ya,.bl _=>HQ|.bl _,.ya=>HQ|.ya,.str _=>HQ|.str _,.ya=>HQ
 |.int _,.int _=>HQ|.bl _,.bl _=>HQ|.str _,.str _=>HQ|.Nf _,.Nf _=>HQ
 |.int _,.str _=>HQ|.str _,.int _=>HQ|.bl _,.str _=>HQ|.str _,.bl _=>HQ
 |_,_=>IQ
def YE:R2:=λx y H Q=>dz x y=HQ/\Q (.bl (decide (x=y))) H
def ZE:R2:=λx y H Q=>dz x y=HQ/\Q (.bl (!decide (x=y))) H
def ez:decide (V.int i=V.int j)=(i==j):=by
 grind
def fz:decide (V.bl i=V.bl j)=(i==j):=by
 grind
def gz:decide (V.str i=V.str j)=(i==j):=by
 grind
def iz:decide (V.Nf i=V.Nf j)=(i.toList==j.toList):=by
 rw[Bool.eq_iff_iff];cases i;cases j;simp
section
variable{X:Cx}{a b c:SQ}{ta tb tc:TE}{pos:jR}
def Pc{q:St}(I:Inv X J q H s)(O:Q (.bl k) H)(e:k=Y):EP X J q Q (.bool Y) s:=by
 subst e;exact⟨.bl k,H,I,rfl,O⟩
def Od:Vc X (ZQ .Eq) YE:=by
 intro a0 s b0 H x y v u Q I O q h;obtain⟨Y,J⟩:=h;cases x with
 |ya=>
  cases O;cases y with
  |ya=>cases q;exact PySem.EqNone.eq_none_none (Pc I J (by simp))
  |bl j=>cases q;exact PySem.EqNone.eq_none_bool (Pc I J (by simp))
  |int j=>obtain⟨t',rfl⟩:=q;exact PySem.EqNone.eq_none_int (Pc I J (by simp))
  |str j=>obtain⟨t',rfl⟩:=q;exact PySem.EqNone.eq_none_str (Pc I J (by simp))
  |_=>exact absurd (Y) be
 |bl i=>
  cases O;cases y with
  |ya=>cases q;exact PySem.EqNone.eq_bool_none (Pc I J (by simp))
  |bl j=>cases q;exact eq_bool (Pc I J fz)
  |str j=>obtain⟨t',rfl⟩:=q;exact PySem.EqMixed.eq_bool_str (Pc I J (by simp))
  |_=>exact absurd (show IQ=HQ from Y) be
 |int i=>
  obtain⟨t,rfl⟩:=O;cases y with
  |ya=>cases q;exact PySem.EqNone.eq_int_none (Pc I J (by simp))
  |int j=>obtain⟨t',rfl⟩:=q;exact eq_int (Pc I J ez)
  |str j=>obtain⟨t',rfl⟩:=q;exact PySem.EqMixed.eq_int_str (Pc I J (by simp))
  |_=>exact absurd (show IQ=HQ from Y) be
 |str i=>
  obtain⟨t,rfl⟩:=O;cases y with
  |ya=>cases q;exact PySem.EqNone.eq_str_none (Pc I J (by simp))
  |bl j=>cases q;exact PySem.EqMixed.eq_str_bool (Pc I J (by simp))
  |int j=>obtain⟨t',rfl⟩:=q;exact PySem.EqMixed.eq_str_int (Pc I J (by simp))
  |str j=>obtain⟨t',rfl⟩:=q;exact eq_str (Pc I J gz)
  |_=>exact absurd ‹_› be
 |Nf i=>
  obtain⟨t,rfl⟩:=O;cases y with
  |Nf j=>obtain⟨t',rfl⟩:=q;exact W.eq_bytes (Pc I J iz)
  |_=>exact absurd ‹_› be
 |_=>cases y<;>exact absurd ‹_› be
def Fm:Vc X (ZQ .NotEq) ZE:=by
 intro a0 s b0 H x y v u Q I O q h;obtain⟨Y,J⟩:=h;cases x with
 |ya=>
  cases O;cases y with
  |ya=>cases q;exact PySem.EqNone.ne_none_none (Pc I J (by simp))
  |bl j=>cases q;exact PySem.EqNone.ne_none_bool (Pc I J (by simp))
  |int j=>obtain⟨t',rfl⟩:=q;exact PySem.EqNone.ne_none_int (Pc I J (by simp))
  |str j=>obtain⟨t',rfl⟩:=q;exact PySem.EqNone.ne_none_str (Pc I J (by simp))
  |_=>exact absurd (Y) be
 |bl i=>
  cases O;cases y with
  |ya=>cases q;exact PySem.EqNone.ne_bool_none (Pc I J (by simp))
  |bl j=>cases q;exact ne_bool (Pc I J (Td not fz))
  |str j=>obtain⟨t',rfl⟩:=q;exact PySem.EqMixed.ne_bool_str (Pc I J (by simp))
  |_=>exact absurd (show IQ=HQ from Y) be
 |int i=>
  obtain⟨t,rfl⟩:=O;cases y with
  |ya=>cases q;exact PySem.EqNone.ne_int_none (Pc I J (by simp))
  |int j=>obtain⟨t',rfl⟩:=q;exact ne_int (Pc I J (Td not ez))
  |str j=>obtain⟨t',rfl⟩:=q;exact PySem.EqMixed.ne_int_str (Pc I J (by simp))
  |_=>exact absurd (show IQ=HQ from Y) be
 |str i=>
  obtain⟨t,rfl⟩:=O;cases y with
  |ya=>cases q;exact PySem.EqNone.ne_str_none (Pc I J (by simp))
  |bl j=>cases q;exact PySem.EqMixed.ne_str_bool (Pc I J (by simp))
  |int j=>obtain⟨t',rfl⟩:=q;exact PySem.EqMixed.ne_str_int (Pc I J (by simp))
  |str j=>obtain⟨t',rfl⟩:=q;exact ne_str (Pc I J (Td not gz))
  |_=>exact absurd ‹_› be
 |Nf i=>
  obtain⟨t,rfl⟩:=O;cases y with
  |Nf j=>obtain⟨t',rfl⟩:=q;exact W.ne_bytes (Pc I J (Td not iz))
  |_=>exact absurd ‹_› be
 |_=>cases y<;>exact absurd ‹_› be
def Xi:Vc X (ZQ .Lt) (Em λi j=>.bl (decide (i<j))):=Ov λ_ _ _ _ _ _ _ q=>lt_int q
def Hm:Vc X (ZQ .LtE) (Em λi j=>.bl (decide (i<=j))):=Ov λ_ _ _ _ _ _ _ q=>le_int q
def Yp:Vc X (ZQ .Gt) (Em λi j=>.bl (decide (j<i))):=Ov λ_ _ _ _ _ _ _ q=>gt_int q
def Zp:Vc X (ZQ .Is) (λx y H Q=>y=.ya/\Q (.bl (decide (x=.ya))) H):=by
 intro Y s a0 H x y v u Q I q J h;obtain⟨rfl,O⟩:=h;cases J;refine is_none_gen (Pc I O ?_);cases x<;>first
  |(cases q;rfl)
  |(obtain⟨t,rfl⟩:=q;rfl)
def Im:Vc X (ZQ .IsNot) (λx y H Q=>y=.ya/\Q (.bl (!decide (x=.ya))) H):=by
 intro Y s a0 H x y v u Q I q J h;obtain⟨rfl,O⟩:=h;cases J;refine isnot_none_gen (Pc I O ?_);cases x<;>first
  |(cases q;rfl)
  |(obtain⟨t,rfl⟩:=q;rfl)
def sb(b:SQ)(h:q≠.In:=by decide)(J:q≠.NotIn:=by decide):ER q b=IQ:=by
 have O:(q==CmpOp.In)=IQ:=by cases q<;>first|rfl|exact absurd rfl h
 have Y:(q==CmpOp.NotIn)=IQ:=by cases q<;>first|rfl|exact absurd rfl J
 cases b<;>simp[ER,O,Y]
def ri(ho:Vc X (ZQ q) r)(J:PE X a ta)(O:PE X b tb)(Y:ER q b=IQ):PE X (.Compare a [q] [b] pos) (Dm r ta tb):=by
 constructor;intro a0 s b0 H Q I h;exact wpAny_Compare1 (Nv J O I h λv u c0 x y d0 e0 f0 g0 h0=>ho a0 c0 b0 d0 x y v u Q e0 f0 g0 h0) Y
def jz(t:TE):TT:=λq H Q=>t q H λx H'=>∃k,x=.bl k/\Q k H'
def zb(ho:Vc X (ZQ O) r)(Y:PE X a ta)(a0:PE X b tb)(b0:ER O b=IQ):PT X (.Compare a [O] [b] pos) (jz (Dm r ta tb)):=by
 constructor;intro q s J H Q I h;refine wpAny_isTrue_Compare1 (Fa (Y q s J H _ I h) λv s1⟨x,c0,d0,e0,f0⟩=>Fa (a0 q s1 J c0 _ d0 f0) λu g0⟨y,h0,i0,j0,k0⟩=>
  Fa (ho q g0 J h0 x y v u _ i0 e0 j0 k0) λc q0⟨z,l0,n0,o0,k,e,p0⟩=>?_) b0
 subst e;cases o0;exact Qi ⟨l0,n0,p0⟩
def lz(r O:R2)(ta tb tc:TE):TE:=λq H Q=>ta q H λx Y=>tb q Y λy a0=>r x y a0 λz J=>∃k,z=.bl k/\
 (if k=HQ then tc q J λb0 H4=>O y b0 H4 Q else Q (.bl IQ) J)
def aF(ho:Vc X (ZQ O) r)(e0:Vc X (ZQ Y) f0)(g0:PE X a ta)(h0:PE X b tb)(i0:PE X c tc)
  (j0:lastMarks [O,Y] [b,c]=IQ:=by with_unfolding_all rfl):PE X (.Compare a [O,Y] [b,c] pos) (lz r f0 ta tb tc):=by
 constructor;intro q s J H Q I h;refine Compare_chain (Fa (g0 q s J H _ I h) λv s1⟨x,k0,l0,n0,o0⟩=>chain_link (Fa (h0 q s1 J k0 _ l0 o0) λu p0⟨y,q0,r0,a0,s0⟩=>
  Fa (ho q p0 J q0 x y v u _ r0 n0 a0 s0) λd t0⟨z,b0,c0,u0,k,e,d0⟩=>?_)) j0
 subst e;cases u0;refine Qi ?_;cases k with
 |false=>exact ite_ff ⟨.bl IQ,b0,c0,rfl,d0⟩
 |true=>exact ite_tt (chain_last (Fa (i0 q t0 J b0 _ c0 d0) (by rintro v0 w0⟨x0,H4,y0,z0,A0⟩;exact e0 q w0 J H4 y x0 u v0 Q y0 a0 z0 A0)))
def mz(ho:Vc X (ZQ O) r)(e0:Vc X (ZQ Y) f0)(g0:PE X a ta)(h0:PE X b tb)(i0:PE X c tc)
  (j0:lastMarks [O,Y] [b,c]=IQ:=by with_unfolding_all rfl):PT X (.Compare a [O,Y] [b,c] pos) (jz (lz r f0 ta tb tc)):=by
 constructor;intro q s J H Q I h;refine isTrue_chain (Fa (g0 q s J H _ I h) λv s1⟨x,k0,l0,n0,o0⟩=>test_link (Fa (h0 q s1 J k0 _ l0 o0) λu p0⟨y,q0,r0,a0,s0⟩=>
  Fa (ho q p0 J q0 x y v u _ r0 n0 a0 s0) λd t0⟨z,b0,c0,u0,k,e,d0⟩=>?_)) j0
 subst e;cases u0;refine Qi ?_;cases k with
 |false=>
  obtain⟨J0,v0,w0⟩:=d0;cases v0;exact ite_ff ⟨b0,c0,w0⟩
 |true=>
  refine ite_tt (test_last (Fa (i0 q t0 J b0 _ c0 d0) ?_));rintro x0 y0⟨z0,H4,A0,B0,C0⟩;refine Fa (e0 q y0 J H4 y z0 u x0 _ A0 a0 B0 C0) ?_;rintro d' K0⟨L0,D0,F0,G0,M0,H0,I0⟩;subst H0;cases G0;exact Qi ⟨D0,F0,I0⟩
def nz(K:W.Frag)(x:V)(H:Hp)(k:Bool):Prop:=
 match x with
 |.ya=>k=IQ
 |.bl b=>k=b
 |.int i=>k=(i !=0)
 |.str y=>y.length<=JQ/\k=((y.length:Int)!=0)
 |.Nf y=>y.size<=JQ/\k=((y.size:Int)!=0)
 |.ref p=>(∃xs,ja K H p xs/\k=!xs.isEmpty)\/(∃xs,xa K H p xs/\k=!xs.isEmpty)\/∃kvs,H p=some (.dK kvs)/\k=!kvs.isEmpty
 |_=>False
def bF{vs:List (q×EQ)}(r:KV kvs vs):(!vs.isEmpty)=!kvs.isEmpty:=by
 cases r<;>rfl
def oz(r:Oa xs q):(!q.toArray.isEmpty)=!xs.isEmpty:=by
 cases r<;>simp
def Wr:(JQ:Nat)<2^63:=by rw[Fh];decide
def cF:SE X (λx H Q=>∃k,nz X.K x H k/\Q k H):=by
 intro e0 s f0 H x v Q I O h;obtain⟨k,e,J⟩:=h;have g0:=Wr;have h0:JQ=16777216:=Fh;cases x with
 |ya=>
  cases O;have q:k=IQ:=e;subst q;exact truthy_none ⟨H,I,J⟩
 |bl b=>
  cases O;have q:k=b:=e;subst q;exact Qi ⟨H,I,J⟩
 |int i=>
  obtain⟨t,rfl⟩:=O;have q:k=(i !=0):=e;subst q;exact PySem.P.truthy_int ⟨H,I,J⟩
 |str y=>
  obtain⟨t,rfl⟩:=O;obtain⟨b0,q⟩:y.length<=JQ/\k=((y.length:Int)!=0):=e;subst q;exact PySem.P.truthy_str (by lia) ⟨H,I.tok _,J⟩
 |Nf y=>
  obtain⟨t,rfl⟩:=O;obtain⟨b0,q⟩:y.size<=JQ/\k=((y.size:Int)!=0):=e;subst q;exact W.truthy_bytes (by lia) ⟨H,I.tok _,J⟩
 |ref p=>
  cases O;have q:=e;rcases q with⟨xs,Y,q⟩|⟨xs,Y,q⟩|⟨kvs,Y,q⟩
  ·subst q;obtain⟨c0,r,pl,hz⟩:=I.list Y;have a0:=r.length;exact wpAny_truthy_list pl.isList (by simp only[Zc];lia) ⟨H,I.tok _,by rw[oz r];exact J⟩
  ·subst q;obtain⟨c0,r,pl,hz⟩:=I.tuple Y;have a0:=r.length;exact truthy_tuple pl (by simp only[Zc];lia) ⟨H,I.tok _,by rw[oz r];exact J⟩
  ·subst q;obtain⟨hz,d0,vs,r,m⟩:kvs.length<=JQ/\(p==fR)=IQ/\∃vs,KV kvs vs/\s.heap.DictOf (Qb X.prog X.w) p vs:=I.za p _ Y;have a0:kvs.length=vs.length:=dm r;exact wpAny_truthy_dict d0 m (by lia) ⟨H,I.tok _,by rw[bF r];exact J⟩
 |_=>exact(show False from e).elim
def dF(Y:PE X a ta)(a0:∀J,isTrue a X.env J=(do let v<-J;qR a.pos;zR [v] (truthy v))):
  PT X a (λq H Q=>ta q H λx H'=>∃k,nz X.K x H' k/\Q k H'):=by
 constructor;intro O s q H Q I h;exact isTrue_plain (Fa (Y O s q H _ I h) (by rintro v s1⟨x,b0,c0,d0,e0⟩;exact cF O s1 q b0 x v Q c0 d0 e0)) (a0 _)
def Gf(r:Oa [x] us):∃u,us=[u]/\Sa x u:=by
 cases r with
 |cons J q=>cases q;grind
def aq(r:Oa [x,y] us):∃u q,us=[u,q]/\Sa x u/\Sa y q:=by
 cases r with
 |cons Y J=>
  cases J with
  |cons a0 O=>cases O;exact(by grind)
def pz(J:X.calm=HQ):gf X (.builtin "min") (λxs H Q=>∃i j,xs=[.int i,.int j]/\Q (.int (if j<i then j else i)) H):=by
 intro Y s a0 H xs us Q I r h;obtain⟨i,j,rfl,O⟩:=h;obtain⟨u,b0,rfl,⟨t,rfl⟩,⟨t',rfl⟩⟩:=aq r;refine min_two_ints (I.ok.hd J) λh' c0 k=>⟨_,H,I.kept k,?_,O⟩
 by_cases q:j<i
 ·rw[Ca q,Ca q];exact⟨_,rfl⟩
 ·rw[Ba q,Ba q];exact⟨_,rfl⟩
def eF(K:W.Frag)(x:V)(H:Hp)(n:Nat):Prop:=
 match x with
 |.str y=>y.length<=JQ/\n=y.length
 |.Nf y=>y.size<=JQ/\n=y.size
 |.ref p=>(∃xs,ja K H p xs/\n=xs.length)\/∃xs,xa K H p xs/\n=xs.length
 |_=>False
def Ue:gf X (.builtin "len") (λxs H Q=>∃x n,xs=[x]/\eF X.K x H n/\Q (.int n) H):=by
 intro e0 s f0 H xs us Q I r h;obtain⟨x,n,rfl,e,J⟩:=h;obtain⟨u,rfl,O⟩:=Gf r;have g0:=Fh;cases x with
 |str y=>
  obtain⟨t,rfl⟩:=O;obtain⟨c0,q⟩:y.length<=JQ/\n=y.length:=e;subst q;exact len_str (by lia) ⟨.int _,H,I.tok _,⟨_,rfl⟩,J⟩
 |Nf y=>
  obtain⟨t,rfl⟩:=O;obtain⟨c0,q⟩:y.size<=JQ/\n=y.size:=e;subst q;exact W.len_bytes (by lia) ⟨.int _,H,I.tok _,⟨_,rfl⟩,J⟩
 |ref p=>
  cases O;have q:=e;rcases q with⟨xs,Y,q⟩|⟨xs,Y,q⟩
  ·subst q;obtain⟨d0,a0,pl,hz⟩:=I.list Y;have b0:=a0.length;exact Calls.call_len_list pl.isList (by simp only[Zc];lia) ⟨.int xs.length,H,I.tok _,⟨_,by simp only[Zc];rw[b0]⟩,J⟩
  ·subst q;obtain⟨d0,a0,pl,hz⟩:=I.tuple Y;have b0:=a0.length;exact len_tuple pl (by simp only[Zc];lia) ⟨.int xs.length,H,I.tok _,⟨_,by simp only[Zc];rw[b0]⟩,J⟩
 |_=>exact(e).elim
end
structure Jm(h:NQ)(x dx C:FQ)(mA:Str->Option EQ):Prop where
 obj:h.get? x=some (W.instObj C dx)
 ns:h.Ns1 dx mA
 ne:dx≠x
def Rv{h:NQ}(n:h.Ns1 q J):∃od,h.get? q=some od/\∀name,W.lookIn name od=some (J name):=by
 obtain⟨o,O,ep,ho,Y,hk,_,a0⟩:=n;refine⟨o,ho,λname=>?_⟩;have e:=a0 name;unfold nsFind findBy at e;rw[<-Array.find?_toList]at e;unfold W.lookIn;rw[Y];dsimp only;split
 ·grind
 ·rename_i b0;rw[b0]at e;have a:O.toList.any (·.refKey)=IQ:=by
   rw[List.any_eq_false];intro y d0;obtain⟨z,t,c0⟩:=hk y (by grind);simp[DictEntry.refKey,c0]
  grind
def Jm.look(I:Jm h x q C J):∃od,W.InstAt h x (W.instObj C q) C (some od)/\∀name,W.lookIn name od=some (J name):=by
 obtain⟨od,ho,O⟩:=Rv I.ns;exact⟨od,⟨I.obj,rfl,rfl,ho⟩,O⟩
section
variable{prog:MQ}{w:PQ}{A:OQ}{E:EQ->GQ->Prop}{s:GQ}{K:W.Frag}{x dx C f:FQ}{mA:Str->Option EQ}{name:Str}{v:EQ}
def qz(X:K.In s.heap)(I:Jm s.heap x dx C mA)(q:W.plainGet K C name=HQ)(J:W.hasDictIn K C=HQ)
  (O:W.findIn K (.ref C) name=some none)(hv:mA name=some v)(Y:W.handedIn v=HQ)(h:Q v {s with toks:=s.toks+1}):
  wpAny (KQ prog w) A (kS (.ref x) name c0) Q E s:=by
 obtain⟨od,a0,b0⟩:=I.look;exact W.get_value X a0 (W.plainGet_of q).1 (W.findObj_own J O rfl (by rw[b0,hv])) Y h
def fF(X:K.In s.heap)(I:Jm s.heap x dx C mA)(q:W.plainGet K C name=HQ)
  (J:W.findIn K (.ref C) name=some (some (.ref f)))(O:W.isFn K (.ref f)=HQ)(hv:mA name=none)(h:Q (.ref f,[.ref x]) s):
  wpAny (KQ prog w) A (mR (.ref x) name pl) Q E s:=by
 obtain⟨od,Y,a0⟩:=I.look;exact W.method_fn X Y (W.plainGet_of q).1 (W.plainGet_of q).2 J (beq_iff_eq.mp O) (by show(W.lookIn name od).map (·.isSome)=some IQ;grind) h
def gF(X:K.In s.heap)(I:Jm s.heap x dx C mA)
  (Y:W.findIn K (.ref C) "__setattr__"=some (some (.builtin "object.__setattr__")))(a0:W.plainOver K C=HQ)(b0:W.takerIn K C name=some none)(c0:W.hasDictIn K C=HQ)
  (d0:PySem.Within mA ns)(hsz:ns.length<=JQ)
  (h:∀h',Jm h' x dx C (λy=>if y=name then some v else mA y)->Heap.SameBut dx s.heap h'->Q () {s with heap:=h',toks:=s.toks+2}):
  wpAny (KQ prog w) A (setAttr (.ref x) name v) Q E s:=by
 obtain⟨od,q,j0⟩:=I.look;refine W.set_plain X q Y (W.osa_open X q a0 b0 λb=>?_);obtain⟨cd,e0,f0⟩:=W.any_some c0;have g0:=I.obj;refine ba (Aa (ba (ba (LR g0 (ba (W.Looks.here (Hr X e0) ?_))))));rw[f0];refine Aa (ba (Aa (ba ?_)));refine WS I.ns λh' J O=>?_
 obtain⟨oD,k0,l0,h0,i0,n0⟩:=J.count (PySem.Within.cons name v d0);refine ba (mS h0 (by rw[i0];exact qS (by grind)) ?_);exact Aa (h _ ⟨(O.2 _ (ud I.ne)).trans I.obj,J,I.ne⟩ O)
def hF(X:K.In s.heap)(q:W.makesIn K C=HQ)
  (hi:W.findIn K (.ref C) "__init__"=some (some (.ref f)))(J:W.typeIn K (.ref f)=some (.type "function"))
  (h:codeAny (KQ prog w) (A.under (.builtin "type.__call__" ⟨.ref C::vs,kw⟩)) (.call (.ref f) ⟨.ref (s.heap.objs.size+1)::vs,kw⟩) (W.InitBack (s.heap.objs.size+1) R)
   {s with heap:=(s.heap.push W.emptyDict).push (W.instObj C s.heap.objs.size)}):
  codeAny (KQ prog w) A (.call (.ref C) ⟨vs,kw⟩) R s:=by
 exact W.make_core (W.makes_of X q) (Gn X hi) (λself=>W.bind_fn X self J) (.inl rfl) h
def iF(X:K.In s.heap)(q:W.makesIn K C=HQ)
  (hi:W.findIn K (.ref C) "__init__"=some (some (.builtin "object.__init__")))
  (J:∀self,W.Looks (KQ prog w) s.heap (bindSpecial (.builtin "object.__init__") self) (.builtin "object.__init__",[self]))
  (h:codeAny (KQ prog w) (A.under (.builtin "type.__call__" ⟨[.ref C],[]⟩)) (.call (.builtin "object.__init__") ⟨[.ref (s.heap.objs.size+1)],[]⟩) (W.InitBack (s.heap.objs.size+1) R)
   {s with heap:=(s.heap.push W.emptyDict).push (W.instObj C s.heap.objs.size)}):
  codeAny (KQ prog w) A (.call (.ref C) ⟨[],[]⟩) R s:=by
 exact W.make_core (W.makes_of X q) (Gn X hi) J (by grind) h
end
def Jd(f:Str)(v:V):List (Str×V)->List (Str×V)
 |[]=>[(f,v)]
 |(g,x)::r=>if g=f then(g,v)::r else(g,x)::Jd f v r
def Sv(f g:Str)(v:V):∀fs:List (Str×V),(Jd f v fs).lookup g=if g=f then some v else fs.lookup g
 |[]=>by
  show List.lookup g [(f,v)]=_
  grind
 |(k,x)::r=>by
  have q:=Sv f g v r;rw[show Jd f v ((k,x)::r)=(if k=f then(k,v)::r else(k,x)::Jd f v r)from rfl]
  grind
def Tv(f:Str)(v:V):∀fs:List (Str×V),f∈(Jd f v fs).map (·.1)/\∀g,g∈fs.map (·.1)->g∈(Jd f v fs).map (·.1)
 |[]=>⟨by simp[Jd],by grind⟩
 |(k,x)::r=>by
  obtain⟨q,J⟩:=Tv f v r;rw[show Jd f v ((k,x)::r)=(if k=f then(k,v)::r else(k,x)::Jd f v r)from rfl]
  grind
def Uv(f:Str)(v:V):∀fs:List (Str×V),(Jd f v fs).length<=fs.length+1
 |[]=>by simp[Jd]
 |(k,x)::r=>by
  have q:=Uv f v r;rw[show Jd f v ((k,x)::r)=(if k=f then(k,v)::r else(k,x)::Jd f v r)from rfl]
  grind
def bd.some_of(r:bd (some v) o):∃u,o=some u/\Sa v u:=by
 cases o with
 |none=>exact(r).elim
 |some u=>exact⟨u,rfl,r⟩
def bd.none_of(r:bd none o):o=none:=by
 cases o with
 |none=>rfl
 |some u=>exact(r).elim
def Vv(r:Sa v u):W.handedIn u=HQ:=by
 cases v with
 |ya=>cases(r);rfl
 |bl b=>cases(r);rfl
 |int i=>obtain⟨t,e⟩:=(r);cases e;rfl
 |str x=>obtain⟨t,e⟩:=(r);cases e;rfl
 |Nf b=>obtain⟨t,e⟩:=(r);cases e;rfl
 |Uk b=>obtain⟨t,e⟩:=(r);cases e;rfl
 |ref a=>cases(r);rfl
 |ty n=>cases(r);rfl
section
variable{P:MQ}{w:PQ}{H H':Hp}{h h':NQ}{a C dx:FQ}{fs Tp:List (Str×V)}
def ko(J:fc P w H h)(e:H a=some (.ins C dx fs)):∃q,Jm h a dx C q/\(∀f,bd (fs.lookup f) (q f))/\PySem.Within q (fs.map (·.1))/\fs.length<=1000/\H dx=some (.own a):=by
 obtain⟨d,z,ne,ob,q,n,r,O⟩:=(J a _ e);exact⟨q,⟨ob,n,ne⟩,r,O,z,d⟩
end
structure Cls(K:W.Frag)(C:FQ):Prop where
 pg:W.plainGet K C Str.empty=HQ
 hd:W.hasDictIn K C=HQ
 po:W.plainOver K C=HQ
 sa:W.findIn K (.ref C) "__setattr__"=some (some (.builtin "object.__setattr__"))
def Cls.get{K:W.Frag}(c:Cls K C)(f:Str):W.plainGet K C f=HQ:=c.pg
def Ic(K:W.Frag)(C:FQ)(f:Str):Prop:=W.findIn K (.ref C) f=some none
def Ic.bq{K:W.Frag}(n:Ic K C f):W.takerIn K C f=some none:=by
 unfold W.takerIn;rw[show W.findIn K (.ref C) f=some none from n];rfl
structure Lc(K:W.Frag)(C:FQ)(m:Str)(f:FQ):Prop where
 at_:W.findIn K (.ref C) m=some (some (.ref f))
 fn:W.isFn K (.ref f)=HQ
 kp:W.keepIn K (.ref f)=HQ
section
variable{X:Cx}{pins:List (FQ×bR)}{σ:St}{H:Hp}{s:GQ}{a C dx:FQ}{fs:List (Str×V)}{f:Str}{v:V}{A:OQ}{E:EQ->GQ->Prop}
def rz(I:Inv X pins σ H s)(e:H a=some (.ins C dx fs))(c:Cls X.K C)(n:Ic X.K C f)(l:fs.lookup f=some v)
  (h:∀u s',Inv X pins σ H s'->Sa v u->Q u s'):wpAny (KQ X.prog X.w) A (kS (.ref a) f b) Q E s:=by
 obtain⟨Y,J,r,_,_,_⟩:=ko I.za e;obtain⟨u,O,q⟩:=bd.some_of (by rw[<-l];exact r f);exact qz I.rb J (c.get f) c.hd n O (Vv q) (h u _ (I.tok _) q)
def no(I:Inv X pins σ H s)(e:H a=some (.ins C dx fs))(c:Cls X.K C)(k:Lc X.K C m g)(l:fs.lookup m=none)
  (h:Q (.ref g,[.ref a]) s):wpAny (KQ X.prog X.w) A (mR (.ref a) m pl) Q E s:=by
 obtain⟨q,J,r,_,_,_⟩:=ko I.za e;have O:q m=none:=bd.none_of (by grind);exact fF I.rb J (c.get m) k.at_ k.fn O h
def tz(I:Inv X pins σ H s)(e:H a=some (.ins C dx fs))(c:Cls X.K C)(n:Ic X.K C f)(g0:fs.length<1000)(a0:Sa y u)
  (h:∀s',Inv X pins σ (upd H a (.ins C dx (Jd f y fs))) s'->Q () s'):wpAny (KQ X.prog X.w) A (setAttr (.ref a) f u) Q E s:=by
 obtain⟨b0,J,r,Y,_,ho⟩:=ko I.za e;have hz:(fs.map (·.1)).length<=JQ:=by rw[Na,Fh];lia
 refine gF I.rb J c.sa c.po n.bq c.hd Y hz λh' O c0=>h _ ?_
 have hd:∃o,h'.get? dx=some o:=let⟨o,_,_,d0,_⟩:=O.ns;⟨o,d0⟩
 refine I.write (x:=a) (e:=dx) (by rw[e];exact True.intro) (.inr ho) (λb q e0 z=>(c0.2 b e0).trans z) hd ?_;refine⟨by rw[ka J.ne];exact ho,?_,J.ne,O.obj,_,O.ns,λg=>?_,λg f0=>?_⟩
 ·have:=Uv f y fs;lia
 ·show bd ((Jd f y fs).lookup g) (if g=f then some u else b0 g);rw[Sv];by_cases q:g=f
  ·rw[Ca q,Ca q];exact a0
  grind
 ·by_cases q:g=f
  ·rw[q];exact(Tv f y fs).1
  ·refine(Tv f y fs).2 g (Y g λz=>f0 ?_)
   grind
def Inv.made(I:Inv X pins σ H s):Inv X pins σ (upd (upd H s.heap.objs.size (.own (s.heap.objs.size+1))) (s.heap.objs.size+1) (.ins C s.heap.objs.size []))
  {s with heap:=(s.heap.push W.emptyDict).push (W.instObj C s.heap.objs.size)}:=by
 have J:(s.heap.push W.emptyDict).get? s.heap.objs.size=some W.emptyDict:=ec s.heap rfl;have O:((s.heap.push W.emptyDict).push (W.instObj C s.heap.objs.size)).get? (s.heap.objs.size+1)=some (W.instObj C s.heap.objs.size):=by
  have:=ec (s.heap.push W.emptyDict) (o:=W.instObj C s.heap.objs.size) rfl;rwa[Gk]at this
 have Y:(s.heap.push W.emptyDict).Ns s.heap.objs.size (λ_=>none):=nx2 W.emptyDict (#[]) _ J rfl (λe a0=>absurd a0 (by simp)) λ_=>rfl;have b0:=I.laid (o:=.own (s.heap.objs.size+1)) (t':=s.toks) (λb u q=>Xa _ q) (Ra _) ⟨_,J⟩;refine b0.laid (λb u q=>Xa _ q) (vk (Gk _ _)) ?_;have ne:s.heap.objs.size≠s.heap.objs.size+1:=by grind
 refine⟨by rw[ka ne,ia],wc _,ne,O,λ_=>none,(Heap.Ns1.of_empty Y).at λo q=>Xa _ q,λ_=>True.intro,λy c0=>absurd rfl c0⟩
def Wv(q:YQ e f env (RQ e env)=RQ e env)
  (h:wpAny (KQ prog w) A (RQ e env) (λo J=>wpAny (KQ prog w) A (kS o f HQ) Q E J) E s):wpAny (KQ prog w) A (RQ (.Attribute e f O) env) Q E s:=
 Attribute_any_ h (by rw[arm_eval_Attribute,q])
end
inductive jF(K:W.Frag)(f:Str)(Q:VK)(x:V)(H1:Hp):Prop|mk(a C dx fs v)(_:x=.ref a)(_:H1 a=some (.ins C dx fs))(_:Cls K C)(_:Ic K C f)(_:fs.lookup f=some v)(_:Q v H1)
def Xr(K:W.Frag)(q:TE)(f:Str):TE:=λJ H Q=>q J H (jF K f Q)
inductive kF(K:W.Frag)(f:Str)(D:Se)(σ:L2.St)(y x:V)(H2:Hp):Prop|mk(a C dx fs)(_:x=.ref a)(_:H2 a=some (.ins C dx fs))(_:Cls K C)(_:Ic K C f)(_:fs.length<1000)(_:D.nx σ (upd H2 a (.ins C dx (Jd f y fs))))
def lF(K:W.Frag)(J tv:TE)(f:Str):TS:=λD q H=>tv q H λy O=>J q O (kF K f D q y)
def uz(X:Cx)(O:Operator)(Y:V->V->Hp->VK->Prop):Prop:=
 ∀(q:List (FQ×bR))(s:GQ)(J:St)(H:Hp)(x y:V)(u v:EQ)(Q:VK),Inv X q J H s->Sa x u->Sa y v->Y x y H Q->wpAny (KQ X.prog X.w) X.A (inplaceOp O u v) (EP X q J Q) X.xe s
inductive mF(K:W.Frag)(tv:TE)(rd:V->V->Hp->VK->Prop)(f:Str)(D:Se)(σ:L2.St)(x:V)(H1:Hp):Prop|mk(a C dx fs v)(_:x=.ref a)(_:H1 a=some (.ins C dx fs))(_:Cls K C)(_:Ic K C f)(_:fs.lookup f=some v)(_:tv σ H1 λy H2=>rd v y H2 λz H3=>∃vz Tp,H3 a=some (.ins C vz Tp)/\Tp.length<1000/\D.nx σ (upd H3 a (.ins C vz (Jd f z Tp))))
def nF(K:W.Frag)(J tv:TE)(O:V->V->Hp->VK->Prop)(f:Str):TS:=λD q H=>J q H (mF K tv O f D q)
section
variable{X:Cx}{o e value:SQ}{f:Str}{pos pos' cq:jR}{ta tv:TE}
def oF(q:PE X e ta)(J:YQ e f X.env (RQ e X.env)=RQ e X.env):PE X (.Attribute e f pos) (Xr X.K ta f):=by
 constructor;intro O s Y H Q I h;refine Wv J (Fa (q O s Y H _ I h) ?_);rintro u s1⟨x,a0,b0,c0,a,C,h0,fs,v,ex,d0,c,n,l,e0⟩;subst ex;obtain rfl:u=Value.ref a:=c0;exact rz b0 d0 c n l λi0 j0 f0 g0=>⟨v,a0,f0,g0,e0⟩
def Mc(O:PE X o ta)(hv:PE X value tv)(Y:kR value (some (.Attribute o f pos')) pos.line X.env=pure IQ):PS X (.Assign [.Attribute o f pos'] value pos) (lF X.K ta tv f):=by
 constructor;intro J s q H D I h;refine qv (Fa (hv J s q H _ I h) ?_) Y;rintro u s1⟨y,a0,b0,c0,d0⟩;refine Fa (O J s1 q a0 _ b0 d0) ?_;rintro ov j0⟨x,k0,e0,f0,a,C,l0,fs,ex,g0,c,n,l,h0⟩;subst ex;obtain rfl:ov=Value.ref a:=f0;exact tz e0 g0 c n l c0 λn0 i0=>⟨q,_,i0,h0⟩
def pF(O:PE X o ta)(hv:PE X value tv)(Y:uz X a0 b0):PS X (.AugAssign (.Attribute o f cq) a0 value pos) (nF X.K ta tv b0 f):=by
 constructor;intro J s q H D I h;refine wpAny_AugAssign_AttributeAny (Fa (O J s q H _ I h) ?_);rintro ov s1⟨x,c0,d0,e0,a,C,x0,fs,v,ex,f0,c,n,l,g0⟩;subst ex;obtain rfl:ov=Value.ref a:=e0;refine rz d0 f0 c n l λu h0 i0 j0=>Fa (hv J h0 q c0 _ i0 g0) ?_
 rintro k0 l0⟨y,n0,o0,p0,q0⟩;refine Fa (Y J l0 q n0 v y u k0 _ o0 j0 p0 q0) ?_;rintro y0 z0⟨z,A0,r0,s0,B0,C0,t0,u0,v0⟩;exact tz r0 t0 c n u0 s0 λD0 w0=>⟨q,_,w0,v0⟩
inductive qF(x y:V)(H:Hp)(Q:VK):Prop|mk(i j)(_:x=.int i)(_:y=.int j)(_:Q (.int (i+j)) H)
def rF:uz X .Add qF:=by
 rintro Y s a0 H x y u v Q I q J⟨i,j,rfl,rfl,O⟩;obtain⟨t,rfl⟩:=(q);obtain⟨t',rfl⟩:=(J);exact PyProof.Rows.iadd_int ⟨.int (i+j),H,I.tok _,⟨_,rfl⟩,O⟩
end
section
variable{X:Cx}{pins:List (FQ×bR)}{σ:St}{H:Hp}{s:GQ}{A:OQ}{E:EQ->GQ->Prop}{Q:EQ->GQ->Prop}{c:EQ}{b:Bool}
inductive hf(K:W.Frag)(H:Hp):V->EQ->Prop where
 |ya:hf K H .ya (.type "NoneType")
 |bl(x:Bool):hf K H (.bl x) (.type "bool")
 |int(i:Int):hf K H (.int i) (.type "int")
 |str(x:Str):hf K H (.str x) (.type "str")
 |Uk(x:UInt64):hf K H (.Uk x) (.type "float")
 |lst{a:FQ}{xs:List V}(e:H a=some (.lst xs)):hf K H (.ref a) (.type "list")
 |Rb{a:FQ}{o:bR}{xs:List V}(e:H a=some (.Rb o (.lst xs))):hf K H (.ref a) (.type "list")
 |tup{a:FQ}{xs:List V}(e:H a=some (.tup xs)):hf K H (.ref a) (.type "tuple")
 |dK{a:FQ}{kvs:List (Key×V)}(e:H a=some (.dK kvs)):hf K H (.ref a) (.type "dict")
 |dT{a:FQ}{kvs:List (List Key×V)}(e:H a=some (.dT kvs)):hf K H (.ref a) (.type "dict")
 |ins{a C dx:FQ}{fs:List (Str×V)}(e:H a=some (.ins C dx fs))(cl:Cls K C)(ha:W.findIn K (.ref C) "__class__"=some (some (.builtin "object.__class__")))
   (hn:W.specialIn K (.builtin "object.__class__") "__get__"=some (some (.builtin "getset_descriptor.__get__")))(uQ:W.takesIn K (.builtin "object.__class__")=some HQ)
   (hm:W.mroIn K C (.type "object")=some HQ):hf K H (.ref a) (.ref C)
def sF(I:Inv X pins σ H s)(q:Sa x u)(c0:hf X.K H x t)(e:W.kitOne X.K t c=some b)(h:∀d0,Q (.bool b) {s with toks:=d0}):
  wpAny (KQ X.prog X.w) A (call (.builtin "isinstance") [u,c]) Q E s:=by
 cases c0 with
 |ya=>cases(q);exact di W.kitx_none I.rb True.intro e (λz=>nomatch z) h
 |bl y=>cases(q);exact di W.kitx_bool I.rb True.intro e (λz=>nomatch z) h
 |int i=>obtain⟨t,Y⟩:=(q);cases Y;exact di W.kitx_int I.rb True.intro e (λz=>nomatch z) h
 |str y=>obtain⟨t,Y⟩:=(q);cases Y;exact di W.kitx_str I.rb True.intro e (λz=>nomatch z) h
 |Uk y=>obtain⟨t,Y⟩:=(q);cases Y;exact di W.kitx_float I.rb True.intro e (λz=>nomatch z) h
 |@lst a xs J=>
  cases(show u=Value.ref a from q);obtain⟨_,_,n,_,O⟩:=(show Fb X.prog X.w H s.heap a (.lst xs)from I.za a _ J);exact di Gr I.rb ⟨_,O,rfl⟩ e (λz=>nomatch z) h
 |@Rb a ob xs J=>
  cases(q);obtain⟨_,_,_,n,_,O⟩:=(show Fb X.prog X.w H s.heap a (.Rb ob (.lst xs))from I.za a _ J);exact di Gr I.rb ⟨_,O,rfl⟩ e (λz=>nomatch z) h
 |@tup a xs J=>
  cases(show u=Value.ref a from q);obtain⟨_,_,_,p⟩:=(show Fb X.prog X.w H s.heap a (.tup xs)from I.za a _ J);obtain⟨o,O,a0,_⟩:=p;exact di W.kitx_tuple I.rb ⟨o,O,a0⟩ e (λz=>nomatch z) h
 |@dK a kvs J=>
  cases(show u=Value.ref a from q);obtain⟨_,_,vs,_,p⟩:=(show Fb X.prog X.w H s.heap a (.dK kvs)from I.za a _ J);obtain⟨o,e0,ep,O,a0,_⟩:=p;exact di Mr I.rb ⟨o,O,a0.1⟩ e (λz=>nomatch z) h
 |@dT a kvs J=>
  cases(show u=Value.ref a from q);obtain⟨_,_,xs,_,o,e0,ep,O,a0,_⟩:=(show Fb X.prog X.w H s.heap a (.dT kvs)from I.za a _ J);exact di Mr I.rb ⟨o,O,a0.1⟩ e (λz=>nomatch z) h
 |@ins a C l0 fs J b0 f0 g0 h0 i0=>
  cases(q);obtain⟨n0,j0,_⟩:=ko I.za J;obtain⟨od,k0,_⟩:=j0.look;exact di (W.kitx_own (b0.get _) b0.hd f0 g0 h0 i0) I.rb k0 e (λz=>nomatch z) h
end
structure Wa(k:Nat)(A:OQ):Prop where
 hd:A.handled=none
 dp:A.depth+3*k+5<iR
 un:A.units+16*k+200<yR
def Wa.mono(r:Wa k A)(h:j<=k):Wa j A:=⟨r.hd,by have:=r.dp;lia,by have:=r.un;lia⟩
def Wa.deeper(r:Wa (k+1) A)(env:VR):Wa k (A.deeper env):=
 ⟨r.hd,by have:=r.dp;show A.depth+1+3*k+5<_;lia,by have:=r.un;show A.units+3+16*k+200<_;lia⟩
def Wa.in1(r:Wa (k+1) A):Wa k A.in1:=
 ⟨r.hd,by have:=r.dp;show A.depth+3*k+5<_;lia,by have:=r.un;show A.units+1+16*k+200<_;lia⟩
def tF{A:OQ}:(A.under (.builtin "type.__call__" ⟨.ref C::us,kw⟩)).depth=A.depth+1:=by
 first|rfl|simp[Around.under,Code.weight,Code.isCreation,Code.isGuard,Code.isCaller,Code.frames,Code.isFrame,guardIds]
def uF{A:OQ}:(A.under (.builtin "type.__call__" ⟨.ref C::us,kw⟩)).units=A.units+1:=by
 first|rfl|simp[Around.under,Code.cUnits,Code.frames,Code.isFrame]
def Wa.make(r:Wa (k+1) A)(C:FQ)(us:List EQ)(kw:List (Str×EQ)):Wa k (A.under (.builtin "type.__call__" ⟨.ref C::us,kw⟩)):=
 ⟨r.hd,by have:=r.dp;rw[tF];lia,by have:=r.un;rw[uF];lia⟩
def Wa.depth(r:Wa k A):A.depth<iR:=by have:=r.dp;lia
def Wa.units(r:Wa k A):A.units+64<yR:=by have:=r.un;lia
def Xk:TA:=λ_ H Q=>Q [] H
def Yr(J:TE)(O:TA):TA:=λq H Q=>J q H λx Y=>O q Y λxs a0=>Q (x::xs) a0
section
variable{X:Cx}{e:SQ}{es:List SQ}{te:TE}{t:TA}{pos:jR}
def jf:PA X [] Xk:=⟨λ_ _ _ _ H Q I h=>Mp ⟨[],H,I,.nil,h⟩⟩
def ca(O:PE X e te)(Y:PA X es t)(a0:LQ (e::es) X.env=(IQ,RQ e X.env)::LQ es X.env:=by rfl):PA X (e::es) (Yr te t):=by
 constructor;intro pos q s J H Q I h;rw[a0];show wpAny _ _ (YS ((IQ,RQ e X.env)::VQ pos (LQ es X.env))) _ _ s;refine Ck (Fa (O q s J H _ I h) ?_);rintro u s1⟨x,b0,c0,d0,e0⟩;exact Fa (Y pos q s1 J b0 _ c0 e0) (by rintro us j0⟨xs,f0,g0,h0,i0⟩;exact⟨x::xs,f0,g0,.cons d0 h0,i0⟩)
def vF(t:TA):TE:=λJ H Q=>t J H λxs q=>xs.length<=JQ/\∀p,q p=none->Q (.ref p) (upd q p (.tup xs))
def wF(t:TA):TE:=λJ H Q=>t J H λxs q=>xs.length<=JQ/\∀p,q p=none->Q (.ref p) (upd q p (.lst xs))
def Hb{J}(h:PA X es t):PE X (.Tuple es J pos) (vF t):=by
 constructor;intro O s Y H Q I a0;refine wpAny_Tuple_spliced (Fa (h pos O s Y H _ I a0) ?_);rintro us s1⟨xs,b0,q,r,z,c0⟩;refine⟨by rw[<-r.length];exact z,?_⟩;have d0:=q.za.fresh (Ra _);refine⟨.ref s1.heap.objs.size,upd b0 s1.heap.objs.size (.tup xs),q.laid (λb u e=>Xa _ e) (Ra _) ?_,rfl,c0 _ d0⟩;exact⟨z,us,r,⟨_,ec _ rfl,rfl,_,rfl⟩⟩
def Zb(h:PA X es t):PE X (.List es pos) (wF t):=by
 constructor;intro J s O H Q I Y;refine wpAny_List_spliced (Fa (h pos J s O H _ I Y) ?_);rintro us s1⟨xs,a0,q,r,z,b0⟩;refine⟨by rw[<-r.length];exact z,?_⟩;have c0:=q.za.fresh (Ra _);refine⟨.ref s1.heap.objs.size,upd a0 s1.heap.objs.size (.lst xs),q.laid (λb u e=>Xa _ e) (Ra _) ?_,rfl,b0 _ c0⟩;exact⟨z,nx5 us 0 r (ec _ rfl)⟩
end
abbrev Sp:=List V->Hp->VK->XK->Prop
abbrev Kg:=List VR->Hp->GQ->XK->EQ->GQ->Prop
structure Yi(P:MQ)(w:PQ)(K:W.Frag)(mg:Str->Option EQ)(base:NQ)(A:OQ)(outer:List VR)(s:GQ)(H:Hp):Prop where
 frames:A.frames=some outer
 mod:Mod K mg base
 bs:∀b o,base.get? b=some o->s.heap.get? b=some o/\H b=none
 Ih:base.objs.size<=s.heap.objs.size
 Uc:s.heap.FunFrames base outer
 Ri:∀b∈gc outer,H b=none
 za:fc P w H s.heap
 bare:oR s.gens
inductive CE(outer:List VR)(P:MQ)(w:PQ)(H:Hp)(s:GQ)(Q:VK)(u:EQ)(s':GQ):Prop|mk(v H')(_:s'.os=s.os)(_:oR s'.gens)(_:Un (gc outer) [] H H' s.heap s'.heap)(_:fc P w H' s'.heap)(_:Sa v u)(_:Q v H')
def CR(CX:Kg)(outer:List VR)(P:MQ)(w:PQ)(H:Hp)(s:GQ)(Q:VK)(E:XK)(r:gT)(s':GQ):Prop:=
 match r with
 |.ok (.ret u)=>CE outer P w H s Q u s'
 |.ok _=>False
 |.error e=>CX outer H s E e s'
structure Kb(P:MQ)(w:PQ)(K:W.Frag)(mg:Str->Option EQ)(base:NQ)(CX:Kg)(k:Nat)(f:FQ)(fd:XQ)(ps:List Str)(sp:Sp):Prop where
 len:∀vs H Q E,sp vs H Q E->vs.length=ps.length
 run:∀(A:OQ)(outer:List VR)(s:GQ)(H:Hp)(args:Args)(us:List EQ)(vs:List V)(Q:VK)(E:XK),Wa k A->Yi P w K mg base A outer s H->WR s fd args (ps.zip us)->Oa vs us->sp vs H Q E->
  codeAny (KQ P w) A (.call (.ref f) args) (CR CX outer P w H s Q E) s
def Kb.mono{K:W.Frag}(F:Kb P w K mg base CX j f q ps sp)(h:j<=k):
  Kb P w K mg base CX k f q ps sp:=⟨F.len,λA outer s H args us vs Q E J=>F.run A outer s H args us vs Q E (J.mono h)⟩
def Yi.make{K:W.Frag}(e:Yi P w K mg base A outer s H)(C:FQ)(us:List EQ)(kw:List (Str×EQ)):
  Yi P w K mg base (A.under (.builtin "type.__call__" ⟨.ref C::us,kw⟩)) outer s H:=⟨by first|exact e.frames|(simpa[Around.under,Code.envs,Code.isFrame,pushEnvs]using e.frames),e.mod,e.bs,e.Ih,e.Uc,e.Ri,e.za,e.bare⟩
section
variable{X:Cx}{pins:List (FQ×bR)}{σ:St}{H:Hp}{s s':GQ}
def Inv.si(I:Inv X pins σ H s):Yi X.prog X.w X.K X.mg X.base X.A X.stack s H:=
 ⟨I.ok.frames,I.ok.mod,I.bs,qc I.ok.Ih I.sz,I.stack,I.ff,I.za,I.bare⟩
def Inv.after(I:Inv X pins σ H s)(h:CE X.stack X.prog X.w H s Q u s'):EP X pins σ Q u s':=by
 obtain⟨v,H',os,q,un,J,r,O⟩:=h;obtain⟨a0,g,d,t,Y⟩:=s';obtain rfl:Y=s.os:=os;exact⟨v,H',I.call un J q (by grind),r,O⟩
end
def wz(sp:Sp)(dvs:List V)(E:XK)(t:TA):TE:=λq H Q=>t q H λvs J=>sp (vs++dvs) J Q E
inductive xF(C:FQ)(m:Str)(sp:Sp)(dvs:List V)(E:XK)(t:TA)(σ:L2.St)(Q:VK)(x:V)(H1:Hp):Prop|mk(a dx fs)(_:x=.ref a)(_:H1 a=some (.ins C dx fs))(_:fs.lookup m=none)(_:t σ H1 λvs H2=>sp (x::(vs++dvs)) H2 Q E)
def Zr(C:FQ)(m:Str)(sp:Sp)(dvs:List V)(E:XK)(J:TE)(t:TA):TE:=λq H Q=>J q H (xF C m sp dvs E t q Q)
def xz(C:FQ)(sp:Sp)(dvs:List V)(E:XK)(t:TA):TE:=λO H Q=>t O H λvs J=>∀x q,J x=none->J q=none->q≠x->
 sp (.ref x::(vs++dvs)) (upd (upd J q (.own x)) x (.ins C q [])) (λv Y=>v=.ya/\Q (.ref x) Y) E
def Wc(K:W.Frag)(q:XQ)(ps:List Str)(ds:List EQ):Prop:=
 ∀(s:GQ)(us:List EQ),K.In s.heap->(us++ds).length=ps.length->WR s q ⟨us,[]⟩ (ps.zip (us++ds))
def Wc.all{K:W.Frag}(h:∀us:List EQ,us.length=ps.length->PR J ⟨us,[]⟩=pure (ps.zip us)):Wc K J ps []:=λs us _ q=>by
 rw[Vn]at q⊢;exact .of_eq (h us q)
def ti(CX:Kg)(X:Cx)(E:XK):Prop:=∀(q:List (FQ×bR))(J:St)(H:Hp)(s:GQ)(e:EQ)(s':GQ),Inv X q J H s->CX X.stack H s E e s'->X.xe e s'
section
variable{X:Cx}{CX:Kg}{k:Nat}{f C:FQ}{fd:XQ}{ps:List Str}{sp:Sp}{dvs:List V}{ds:List EQ}{E:XK}{x m:Str}{p pos apos:jR}{e o:SQ}{es:List SQ}{ta:TE}{t:TA}
def dq{J:St}(F:Kb X.prog X.w X.K X.mg X.base CX k f fd ps sp)(a0:Wa k X.A)(b0:Wc X.K fd ps ds)(c0:Oa dvs ds)(d0:ti CX X E)
  (I:Inv X O J H s)(r:Oa vs us)(h:sp (vs++dvs) H Q E):wpAny (KQ X.prog X.w) X.A (call (.ref f) us) (EP X O J Q) X.xe s:=by
 have Y:=r.append c0;have e0:(us++ds).length=ps.length:=by rw[<-Y.length];exact F.len _ _ _ _ h
 refine fi (zg (F.run X.A X.stack s H ⟨us,[]⟩ (us++ds) (vs++dvs) Q E a0 I.si (b0 s us I.rb e0) Y h) λr s' q=>?_);cases r with
 |error e=>exact d0 O J H s e s' I q
 |ok f0=>
  cases f0 with
  |ret u=>exact I.after q
  |next=>exact False.elim q
  |brk=>exact False.elim q
  |cont=>exact False.elim q
def Xv(F:Kb X.prog X.w X.K X.mg X.base CX k f fd ps sp)(J:Wa k X.A)(O:Gl X x)(Y:X.mg x=some (.ref f))(hk:W.keepIn X.K (.ref f)=HQ)(a0:Wc X.K fd ps ds)(b0:Oa dvs ds)(c0:ti CX X E)
  (d0:PA X (e::es) t)(e0:(x==("__debug__":Str))=IQ:=by decide)(f0:LQ (e::es) X.env=(IQ,RQ e X.env)::LQ es X.env:=by rfl)(g0:(VQ pos (LQ es X.env)).any (·.1)=IQ:=by rfl):
  PE X (.Call (.Name x p) (e::es) [] pos) (wz sp dvs E t):=by
 constructor;intro h0 s i0 H Q I h;refine bi (Ti I O Y ?_ e0);refine lm I.ok.mod.ki hk (Fa (d0 pos h0 s i0 H _ I h) ?_) f0 g0;rintro us s1⟨vs,k0,q,r,j0⟩;refine⟨q.rb,?_⟩;exact dq F J a0 b0 c0 q r j0
def yz{pl:Sem Bool}(b0:PE X o ta)(c:Cls X.K C)(q:Lc X.K C m f)(F:Kb X.prog X.w X.K X.mg X.base CX k f fd ps sp)(c0:Wa k X.A)(d0:Wc X.K fd ps ds)(e0:Oa dvs ds)(f0:ti CX X E)(g0:PA X (e::es) t)
  (h0:LQ (e::es) X.env=(IQ,RQ e X.env)::LQ es X.env:=by rfl)(i0:(VQ pos (LQ es X.env)).any (·.1)=IQ:=by rfl)
  (j0:RQ (.Call (.Attribute o m apos) (e::es) [] pos) X.env=(do
   let ov<-RQ o X.env
   qR apos.atName
   let(f,first)<-zR [ov] (mR ov m pl)
   sR pos f first (VQ pos (LQ (e::es) X.env)) (dR pos (TQ [] X.env))):=by rfl):
  PE X (.Call (.Attribute o m apos) (e::es) [] pos) (Zr C m sp dvs E ta t):=by
 constructor;intro J s O H Q I h;refine vm (Fa (b0 J s O H _ I h) ?_) j0;rintro u s1⟨x,k0,Y,l0,a,q0,fs,ex,n0,l,o0⟩;subst ex;obtain rfl:u=Value.ref a:=l0;refine no Y n0 c q l ?_;refine lm I.ok.mod.ki q.kp (Fa (g0 pos J s1 O k0 _ Y o0) ?_) h0 i0;rintro us r0⟨vs,s0,a0,r,p0⟩;refine⟨a0.rb,?_⟩;exact dq (vs:=.ref a::vs) F c0 d0 e0 f0 a0 (.cons rfl r) p0
def yF{pl:Sem Bool}(O:PE X o ta)(c:Cls X.K C)(J:Lc X.K C m f)(F:Kb X.prog X.w X.K X.mg X.base CX k f fd ps sp)(Y:Wa k X.A)(a0:Wc X.K fd ps ds)(b0:Oa dvs ds)(c0:ti CX X E)
  (d0:RQ (.Call (.Attribute o m apos) [] [] pos) X.env=(do
   let ov<-RQ o X.env
   qR apos.atName
   let(f,first)<-zR [ov] (mR ov m pl)
   sR pos f first (VQ pos (LQ [] X.env)) (dR pos (TQ [] X.env))):=by rfl):
  PE X (.Call (.Attribute o m apos) [] [] pos) (Zr C m sp dvs E ta Xk):=by
 constructor;intro e0 s f0 H Q I h;refine vm (Fa (O e0 s f0 H _ I h) ?_) d0;rintro u s1⟨x,j0,q,g0,a,k0,fs,ex,h0,l,i0⟩;subst ex;obtain rfl:u=Value.ref a:=g0;refine no q h0 c J l ?_;exact Er q.rb J.kp (dq (vs:=[.ref a]) F Y a0 b0 c0 q (.cons rfl .nil) i0)
structure Mk(K:W.Frag)(C f:FQ):Prop where
 makes:W.makesIn K C=HQ
 init:W.findIn K (.ref C) "__init__"=some (some (.ref f))
 fn:W.isFn K (.ref f)=HQ
 kp:W.keepIn K (.ref C)=HQ
def zz{Y:St}(M:Mk X.K C f)(F:Kb X.prog X.w X.K X.mg X.base CX k f fd ps sp)(d0:Wa (k+1) X.A)(e0:Wc X.K fd ps ds)(f0:Oa dvs ds)
  (g0:ti CX X E)(I:Inv X a0 Y H s)(r:Oa vs us)
  (h:∀x J,H x=none->H J=none->J≠x->sp (.ref x::(vs++dvs)) (upd (upd H J (.own x)) x (.ins C J [])) (λv h0=>v=.ya/\Q (.ref x) h0) E):
  wpAny (KQ X.prog X.w) X.A (call (.ref C) us) (EP X a0 Y Q) X.xe s:=by
 have b0:=h (s.heap.objs.size+1) s.heap.objs.size (I.za.fresh (wj _)) (I.za.fresh (Ra _)) (by grind);have O:=Inv.made (C:=C) I;have c0:Oa (V.ref (s.heap.objs.size+1)::(vs++dvs)) (Value.ref (s.heap.objs.size+1)::(us++ds)):=.cons rfl (r.append f0);have i0:(Value.ref (s.heap.objs.size+1)::us++ds).length=ps.length:=by
  have e:=c0.length;rw[F.len _ _ _ _ b0]at e;exact e.symm
 refine fi (hF I.rb M.makes M.init (beq_iff_eq.mp M.fn) (zg (F.run _ X.stack _ _ ⟨Value.ref (s.heap.objs.size+1)::us,[]⟩ (Value.ref (s.heap.objs.size+1)::(us++ds)) _ _ E (d0.make C us [])
  (O.si.make C us []) (e0 _ (Value.ref (s.heap.objs.size+1)::us) O.rb i0) c0 b0) λr s' q=>?_))
 cases r with
 |error e=>exact g0 a0 Y _ _ e s' O q
 |ok j0=>
  cases j0 with
  |ret u=>
   obtain⟨v,H',k0,l0,n0,o0⟩:=O.after q;subst n0;exact⟨l0,⟨V.ref (s.heap.objs.size+1),H',k0,rfl,o0⟩⟩
  |next=>exact False.elim q
  |brk=>exact False.elim q
  |cont=>exact False.elim q
def cs(M:Mk X.K C f)(F:Kb X.prog X.w X.K X.mg X.base CX k f fd ps sp)(J:Wa (k+1) X.A)(O:Gl X x)(Y:X.mg x=some (.ref C))(a0:Wc X.K fd ps ds)(b0:Oa dvs ds)(c0:ti CX X E)
  (d0:PA X (e::es) t)(e0:(x==("__debug__":Str))=IQ:=by decide)(f0:LQ (e::es) X.env=(IQ,RQ e X.env)::LQ es X.env:=by rfl)(g0:(VQ pos (LQ es X.env)).any (·.1)=IQ:=by rfl):
  PE X (.Call (.Name x p) (e::es) [] pos) (xz C sp dvs E t):=by
 constructor;intro h0 s i0 H Q I h;refine bi (Ti I O Y ?_ e0);refine lm I.ok.mod.ki M.kp (Fa (d0 pos h0 s i0 H _ I h) ?_) f0 g0;rintro us s1⟨vs,k0,q,r,j0⟩;refine⟨q.rb,?_⟩;exact zz M F J a0 b0 c0 q r j0
def zF(M:Mk X.K C f)(F:Kb X.prog X.w X.K X.mg X.base CX k f fd ps sp)(q:Wa (k+1) X.A)(J:Gl X x)(O:X.mg x=some (.ref C))(Y:Wc X.K fd ps ds)(a0:Oa dvs ds)(b0:ti CX X E)
  (c0:(x==("__debug__":Str))=IQ:=by decide):PE X (.Call (.Name x p) [] [] pos) (xz C sp dvs E Xk):=by
 constructor;intro d0 s e0 H Q I h;refine bi (Ti I J O ?_ c0);exact Er I.rb M.kp (zz M F q Y a0 b0 I .nil h)
end
structure PK(X:Cx)(Yk:List TR)(t:TA):Prop where
 run:∀(pos:jR)(pins:List (FQ×bR))(s:GQ)(σ:St)(H:Hp)(Q:List V->Hp->Prop),Inv X pins σ H s->t σ H Q->wpAny (KQ X.prog X.w) X.A (aT ((dR pos (TQ Yk X.env)).map (·.2))) (AP X pins σ Q) X.xe s
instance{X:Cx}{Yk:List TR}{t:TA}:CoeFun (PK X Yk t) λ_=>∀(pos:jR)(pins:List (FQ×bR))(s:GQ)(σ:St)(H:Hp)(Q:List V->Hp->Prop),Inv X pins σ H s->t σ H Q->wpAny (KQ X.prog X.w) X.A (aT ((dR pos (TQ Yk X.env)).map (·.2))) (AP X pins σ Q) X.xe s:=⟨PK.run⟩
section
variable{X:Cx}{CX:Kg}{k:Nat}{f C:FQ}{fd:XQ}{ps ks:List Str}{sp:Sp}{E:XK}{x m:Str}{p pos apos Yv:jR}{e o:SQ}{es:List SQ}{Yk:List TR}{te ta:TE}{t tk:TA}{nm:Option Str}
def AF:PK X [] Xk:=⟨λ_ _ _ _ H Q I h=>hS ⟨[],H,I,.nil,h⟩⟩
def BF(O:PE X e te)(Y:PK X Yk t):PK X (⟨nm,e,Yv⟩::Yk) (Yr te t):=by
 constructor;intro pos q s J H Q I h;show wpAny _ _ (aT ((do let v<-RQ e X.env;qR pos;pure v)::(dR pos (TQ Yk X.env)).map (·.2))) _ _ s;refine ZR (ba (Fa (O q s J H _ I h) ?_));rintro u s1⟨x,a0,b0,c0,d0⟩;refine ba (yk (Aa ?_));exact Fa (Y pos q s1 J a0 _ b0 d0) (by rintro us i0⟨xs,e0,f0,g0,h0⟩;exact⟨x::xs,e0,f0,.cons c0 g0,h0⟩)
variable{g:List EQ->List EQ->List EQ}{gV:List V->List V->List V}
end
structure Zi(N P:List Str)(sc:nR):Prop where
 kind:sc.kind=.function
 co:sc.isCoroutine=IQ
 gen:sc.isGenerator=IQ
 nd:N.Nodup
 pre:N.take P.length=P
 par:∀x∈P,sc.names.lookup x=some .local\/sc.names.lookup x=some .cell
 Km:∀y∈sc.names,y.2≠.free
def Az{kindOf:Str->Option DR}:∀{binds:List (Str×EQ)}{m:Str->Option EQ},(∀v,(x,v)∉binds)->RS kindOf binds m x=m x
 |[],_,_=>rfl
 |(n,v)::r,m,h=>by
  unfold RS;rw[Az λw q=>h w (by grind)];split
  ·grind
  ·rfl
def Bz{kindOf:Str->Option DR}:∀{binds:List (Str×EQ)}{m:Str->Option EQ},(∀v,(x,v)∉binds)->SS kindOf binds m x=m x
 |[],_,_=>rfl
 |(n,v)::r,m,h=>by
  unfold SS;rw[Bz λw q=>h w (by grind)];split
  ·rfl
  grind
def Cz{kindOf:Str->Option DR}:∀{P:List Str}{vs:List EQ}{i:Nat}{m:Str->Option EQ},P.Nodup->P[i]?=some x->vs[i]?=some v->kindOf x=some .local->
  RS kindOf (P.zip vs) m x=some v
 |[],_,_,_,_,h,_,_=>by simp at h
 |_::_,[],_,_,_,_,h,_=>by simp at h
 |p::P,w::vs,0,m,O,q,J,hk=>by
  simp at q J;subst q;subst J;show RS kindOf ((p,w)::P.zip vs) m p=_;unfold RS;rw[Az λv hv=>(ei.mp O).1 (List.of_mem_zip hv).1,Ca hk];simp
 |p::P,w::vs,i+1,m,O,q,J,hk=>by
  unfold RS;exact Cz (ei.mp O).2 (by simpa using q) (by simpa using J) hk
def Dz{kindOf:Str->Option DR}:∀{P:List Str}{vs:List EQ}{i:Nat}{m:Str->Option EQ},P.Nodup->P[i]?=some x->vs[i]?=some v->kindOf x≠some .local->
  SS kindOf (P.zip vs) m x=some v
 |[],_,_,_,_,h,_,_=>by simp at h
 |_::_,[],_,_,_,_,h,_=>by simp at h
 |p::P,w::vs,0,m,O,q,J,hk=>by
  simp at q J;subst q;subst J;show SS kindOf ((p,w)::P.zip vs) m p=_;unfold SS;rw[Bz λv hv=>(ei.mp O).1 (List.of_mem_zip hv).1,Ba hk];simp
 |p::P,w::vs,i+1,m,O,q,J,hk=>by
  unfold SS;exact Dz (ei.mp O).2 (by simpa using q) (by simpa using J) hk
def start(N:List Str)(vs:List V):St:=vs.map some++List.replicate (N.length-vs.length) none
def Pd(CX:Kg)(P:MQ)(w:PQ)(K:W.Frag)(mg:Str->Option EQ)(base:NQ)(N:List Str)(qual:Str)(scope:nR)(f:FQ)(cd:EQ)(A:OQ)(outer:List VR)(s:GQ)(H:Hp)(E:XK):Cx where
 prog:=P
 w:=w
 K:=K
 mg:=mg
 base:=base
 A:=A.deeper (cR qual scope s.heap.objs.size f cd)
 N:=N
 s₀:=s
 H₀:=H
 env:=cR qual scope s.heap.objs.size f cd
 outer:=outer
 stack:=cR qual scope s.heap.objs.size f cd::outer
 ex:=[]
 calm:=HQ
 fn:=λ_=>HQ
 pn:=[]
 xe:=λe s'=>wpAny (KQ P w) (A.deeper (cR qual scope s.heap.objs.size f cd)) (leaving (cR qual scope s.heap.objs.size f cd) e) (λ_ q=>CX outer H s E e q) (λJ q=>CX outer H s E J q) s'
def Ez{q:nR}(h:q.names.lookup x=some .cell):∃c,(sS n q.names []).lookup x=some c:=by
 have J:=W.cellsFrom_some q.names n [] (.inl h);exact Option.isSome_iff_exists.mp J
def Fz{CX:Kg}{P:MQ}{w:PQ}{K:W.Frag}{mg:Str->Option EQ}{base:NQ}{N ps:List Str}{qual:Str}{scope:nR}{f:FQ}{cd:EQ}{A:OQ}{outer:List VR}{s s1:GQ}{H:Hp}{E:XK}{us:List EQ}{vs:List V}
  (S:Zi N ps scope)(d0:A.handled=none)(q:Yi P w K mg base A outer s H)(h0:vs.length=ps.length)(r:Oa vs us)
  (x:InCallC s s.heap.objs.size (RS (cR qual scope s.heap.objs.size f cd).kindOf (ps.zip us) λ_=>none) (sS (s.heap.objs.size+1) scope.names []) (SS (cR qual scope s.heap.objs.size f cd).kindOf (ps.zip us) λ_=>none) s1):
  Inv (Pd CX P w K mg base N qual scope f cd A outer s H E) [] (start N vs) H s1:=by
 have i0:ps.length<=N.length:=by have:=Td List.length S.pre;rw[vj]at this;lia
 obtain⟨O,j0,rfl,hk⟩:=x.done;have e0:∀b:FQ,b∉(Pd CX P w K mg base N qual scope f cd A outer s H E).ex:=λb z=>absurd (show b∈([]:List FQ)from z) (by simp)
 refine⟨⟨q.mod,S.kind,rfl,rfl,Ra _,λy z c O J=>?_,λy hy=>?_,λy c _ h=>?_,λ_=>d0,Around.frames_deeper q.frames,.inr ⟨rfl,rfl⟩,by grind,q.bs,q.Ih,λb _ _=>e0 b,by grind,q.Uc,q.Ri⟩,
  rfl,q.bare,Un.kept hk,⟨_,x.toInCall.ns,λi y v O J k0=>?_⟩,λy c h=>⟨_,x.cell y c h⟩,q.za.fresh (Ra _),λy c h=>?_,λp Y=>absurd (show p∈([]:List (FQ×bR))from Y) (by simp),q.za.kept hk,?_⟩
 ·exact name_of_addr x.apart (wk O) (wk J)
 ·have hy:scope.names.lookup y=some .cell\/scope.names.lookup y=some .free:=hy;rcases hy with hy|hy
  ·exact Ez hy
  ·exact absurd rfl (S.Km _ (wk hy))
 ·exact yh (x.above y c (wk h))
 ·have hi:i<vs.length:=by
   unfold start at J;by_cases hi:i<vs.length
   ·exact hi
   ·grind
  have f0:vs[i]?=some v:=by
   unfold start at J;rw[List.getElem?_append_left (by simpa using hi),ge]at J;cases e:vs[i]? with
   |none=>rw[e]at J;cases J
   |some a=>grind
  obtain⟨u,a0,g0⟩:=r.get f0;have Y:ps[i]?=some y:=by
   rw[<-S.pre,List.getElem?_take_of_lt (by lia)];exact O
  have b0:ps.Nodup:=by rw[<-S.pre];exact S.nd.sublist (by grind)
  refine⟨u,g0,?_⟩;rcases S.par y (by grind)with k|k
  ·exact .inl ⟨k,Cz b0 Y a0 k⟩
  ·obtain⟨c,e⟩:=Ez (n:=s.heap.objs.size+1) k;refine .inr ⟨.inl k,c,e,?_⟩;have c0:=x.cell y c e;rw[Dz b0 Y a0 (by show scope.names.lookup y≠_;grind)]at c0;exact c0
 ·exact q.za.fresh (yh (x.above y c (wk h)))
 ·unfold start;show _=N.length
  grind
def Zv{CX:Kg}{P:MQ}{w:PQ}{K:W.Frag}{mg:Str->Option EQ}{base:NQ}{k:Nat}{f:FQ}{name qual:Str}{f0:VS}{c0:List gR}{scope:nR}{g0 kV h0 i0 O ct n0:EQ}{j0 od:Option FQ}
  {o0:Array (Option EQ)}{N ps:List Str}{sp:Sp}(lk:K.lookup f=some ⟨n0,od,.func (W.fnOf name qual f0 c0 scope g0 kV h0 i0 j0 O ct),o0⟩)(p0:W.codeIn K O qual=HQ)(S:Zi N ps scope)
  (len:∀vs H Q E,sp vs H Q E->vs.length=ps.length)
  (q0:∀(A:OQ)(outer:List VR)(s:GQ)(H:Hp)(vs:List V)(Q:VK)(E:XK),Wa k (A.deeper (cR qual scope s.heap.objs.size f O))->sp vs H Q E->
   ∃t,oe (Pd CX P w K mg base N qual scope f O A outer s H E) c0 t/\t {nx:=λ_ H'=>Q .ya H',rt:=Q} (start N vs) H):
  Kb P w K mg base CX (k+1) f (W.fnOf name qual f0 c0 scope g0 kV h0 i0 j0 O ct) ps sp:=by
 refine⟨len,λA outer s H args us vs Q E d0 a0 r0 r k0=>?_⟩;have s0:=len _ _ _ _ k0;have l0:=a0.mod.ki.keeps λb o e=>(a0.bs b o e).1
 have t0:=a0.mod.nolimit.keeps λb o e=>(a0.bs b o e).1
 have u0:∀y∈ps.zip us,scope.names.lookup y.1=some .local\/(scope.names.lookup y.1=some .cell/\((sS (s.heap.objs.size+1) scope.names []).lookup y.1).isSome=HQ):=λ⟨n,v⟩v0=>by
  rcases S.par n (List.of_mem_zip v0).1 with q|q
  ·exact .inl q
  ·exact .inr ⟨q,W.cellsFrom_some _ _ _ (.inl q)⟩
 refine codeAny_call_function d0.depth (l0 _ _ lk) rfl S.co S.gen rfl (W.codeRec_of l0 p0) (r0 _ _ _ _ ?_);refine BS S.kind u0 λenv w0 s1 x=>?_
 subst w0;refine⟨t0.keeps x.toInCall.keep,codeAny_func ?_⟩;obtain⟨t,x0,y0⟩:=q0 A outer s H vs Q E (d0.deeper _) k0;have I:Inv (Pd CX P w K mg base N qual scope f O A outer s H E) [] (start N vs) H s1:=Fz S d0.hd a0 s0 r x;refine Kc (x0 [] s1 (start N vs) H _ I y0) (λz0 s' Y=>?_) λe s' Y=>Y
 have fin:∀{b0:St}{H':Hp}{v:V}{u:EQ},Inv (Pd CX P w K mg base N qual scope f O A outer s H E) [] b0 H' s'->Sa v u->Q v H'->CE outer P w H s Q u s' :=
  λ{b0 H' v u}J e0 q=>⟨v,H',J.os,J.bare,J.base,J.za,e0,q⟩
 cases z0 with
 |ret u=>
  obtain⟨v,b0,H',J,e0,q⟩:=Y;exact fin J e0 q
 |next=>
  obtain⟨b0,H',J,q⟩:=Y;exact fin (v:=V.ya) J rfl q
 |brk=>
  obtain⟨_,_,_,q⟩:=Y;exact False.elim q
 |cont=>
  obtain⟨_,_,_,q⟩:=Y;exact False.elim q
section
variable{X:Cx}{x:Str}{p pos:jR}{e:SQ}{es:List SQ}{t:TA}{id T:String}{r:List V->Hp->VK->Prop}
def aw(r:List V->Hp->VK->Prop)(t:TA):TE:=λq H Q=>t q H λvs J=>r vs J Q
def Nb(O:gf X (.builtin id) r)(Y:Gl X x)(a0:X.mg x=none)(hv:AR x=some (.builtin id))(b0:PA X (e::es) t)(c0:x≠"__name__":=by decide)(d0:(x==("__debug__":Str))=IQ:=by decide)
  (e0:LQ (e::es) X.env=(IQ,RQ e X.env)::LQ es X.env:=by rfl)(f0:(VQ pos (LQ es X.env)).any (·.1)=IQ:=by rfl):PE X (.Call (.Name x p) (e::es) [] pos) (aw r t):=by
 constructor;intro q s J H Q I h;refine bi (Jh I Y a0 hv ?_ c0 d0);exact rv (Fa (b0 pos q s J H _ I h) (by rintro us s1⟨vs,g0,h0,i0,j0⟩;exact O q s1 J g0 vs us Q h0 i0 j0)) e0 f0
def kg(O:gf X (.type T) r)(Y:Gl X x)(a0:X.mg x=none)(hv:AR x=some (.type T))(b0:PA X (e::es) t)(c0:x≠"__name__":=by decide)(d0:(x==("__debug__":Str))=IQ:=by decide)
  (e0:LQ (e::es) X.env=(IQ,RQ e X.env)::LQ es X.env:=by rfl)(f0:(VQ pos (LQ es X.env)).any (·.1)=IQ:=by rfl):PE X (.Call (.Name x p) (e::es) [] pos) (aw r t):=by
 constructor;intro q s J H Q I h;refine bi (Jh I Y a0 hv ?_ c0 d0);exact im (Fa (b0 pos q s J H _ I h) (by rintro us s1⟨vs,g0,h0,i0,j0⟩;exact O q s1 J g0 vs us Q h0 i0 j0)) e0 f0
end
end L2
namespace HT
open PySem PyProof.Rows
section
variable{prog:MQ}{w:PQ}{A:OQ}{E:EQ->GQ->Prop}{s:GQ}
def Jj(g0:IsTup s.heap t vs.toArray)(h0:IsTup s.heap b q.toArray)(hv:vs≠[])
  (i0:q=[]->Q (.ref t) s)(j0:q≠[]->Q (.ref s.heap.objs.size) {s with heap:=s.heap.push {cls:=.type "tuple",data:=.seq (vs++q).toArray}})
  (hsz:vs.length+q.length<=JQ):wpAny (KQ prog w) A (tR .Add (.ref t) (.ref b)) Q E s:=by
 obtain⟨⟨cls,dd,data,O⟩,ho,Y,n,a0⟩:=id g0;obtain⟨⟨k0,b0,data2,c0⟩,ho2,d0,e0,f0⟩:=id h0;simp only at Y a0 d0 f0;subst Y a0 d0 f0;have e:vs.toArray++q.toArray=(vs++q).toArray:=by simp
 by_cases J:q=[]
 ·exact concat_meets ⟨_,ho,rfl⟩ ⟨_,ho2,rfl⟩ noFill_tuple_add seq_tuple_add F.slot_tuple_add F.entry_tuple_add (F.args_tuple_add_2 _ _)
   (tuple_addW1 t b vs.toArray q.toArray n e0 dd b0 O c0 (by simpa using hv) (by simp[J])) ⟨ho,ho2,i0 J⟩
 ·refine concat_meets ⟨_,ho,rfl⟩ ⟨_,ho2,rfl⟩ noFill_tuple_add seq_tuple_add F.slot_tuple_add F.entry_tuple_add (F.args_tuple_add_2 _ _)
   (tuple_addW2 t b vs.toArray q.toArray n e0 dd b0 O c0 (by grind) (by grind) (by grind)) ⟨ho,ho2,?_⟩
  rw[e];exact j0 J
def Lb(n d:Nat):Option Int->Nat
 |none=>d
 |some v=>if v<0 then(v+(n:Int)).toNat else min v.toNat n
def ui(n d:Nat):Lb n d none=d:=rfl
def Kj(n d k:Nat):Lb n d (some (k:Int))=min k n:=by
 show(if(k:Int)<0 then((k:Int)+(n:Int)).toNat else min (k:Int).toNat n)=min k n;rw[Ba (by lia),rj]
def Gz(v:Int)(n d:Nat):(if v<0 then max (v+(n:Int)) 0 else min v (n:Int))=((Lb n d (some v):Nat):Int):=by
 show(if v<0 then max (v+(n:Int)) 0 else min v (n:Int))=(((if v<0 then(v+(n:Int)).toNat else min v.toNat n):Nat):Int);by_cases hv:v<0
 ·grind
 ·simp only[Ba hv];lia
def CF(lo hi:Option Int)(n:Nat):Builtin.Slice.sliceAdjust lo hi 1 (n:Int)=(((Lb n 0 lo:Nat):Int),((Lb n n hi:Nat):Int)):=by
 have q:¬((1:Int)<0):=by lia
 unfold Builtin.Slice.sliceAdjust;refine Prod.ext ?_ ?_
 ·cases lo with
  |none=>rfl
  |some v=>exact Gz v n 0
 ·cases hi with
  |none=>rfl
  |some v=>exact Gz v n n
def EF(i j:Nat):Builtin.Slice.slicePlaces (i:Int) (j:Int) 1=j-i:=by
 unfold Builtin.Slice.slicePlaces;have q:(1:Int)>0:=by lia
 simp only[q,if_true,Int.ediv_one];split<;>lia
def Iz(p:dS v o)(h:Q o s):wpAny (KQ prog w) A (Builtin.Slice.slicePartIndex v) Q E s:=by
 cases p with
 |none=>exact slicePart_none h
 |int i t=>exact slicePart_int h
def FF{lo hi:Option Int}{Q:Int×Int×Nat->GQ->Prop}(a0:s.heap.IsSliceOf b0 O Y .none)(pl:dS O lo)(c0:dS Y hi)
  (h:Q (((Lb n 0 lo:Nat):Int),1,Lb n n hi-Lb n 0 lo) s):wpAny (KQ prog w) A (Builtin.Slice.sliceApplied (.ref b0) (pure (n:Int))) Q E s:=by
 obtain⟨os,q,d0,J⟩:=id a0;refine ba (ba (ci q J (x:=O) rfl (ba (ci q J (x:=Y) rfl (ba (ci q J rfl (Aa ?_)))))));refine ba (slicePart_none ?_);refine ba (Iz pl (ba (Iz c0 (ba (Aa ?_)))));show wpAny _ _ (match Builtin.Slice.sliceAdjust lo hi 1 (n:Int)with|(lo,hi)=>pure (lo,(1:Int),Builtin.Slice.slicePlaces lo hi 1)) _ _ s;rw[CF lo hi n];show wpAny _ _ (pure (((Lb n 0 lo:Nat):Int),(1:Int),Builtin.Slice.slicePlaces ((Lb n 0 lo:Nat):Int) ((Lb n n hi:Nat):Int) 1)) _ _ s;rw[EF];exact Aa h
def GF(xs:Array EQ)(i k:Nat):((List.range k).filterMap λ(m:Nat)=>xs[((i:Int)+(m:Int)*1).toNat]?).toArray=((xs.toList.drop i).take k).toArray:=by
 have e:(λ(m:Nat)=>xs[((i:Int)+(m:Int)*1).toNat]?)=λm=>xs[i+m]?:=by
  funext m;have:((i:Int)+(m:Int)*1).toNat=i+m:=by lia
  rw[this]
 rw[e];have:=pick_run xs i k;rw[List.filterMap_map]at this;have q:((λx=>xs[x]?)∘λx=>i+x)=λm=>xs[i+m]?:=rfl
 rw[q]at this;rw[this]
def zd{lo hi:Option Int}(J:IsTup s.heap t q)(a0:s.heap.IsSliceOf b0 c0 d0 .none)(pl:dS c0 lo)(e0:dS d0 hi)
  (f0:¬(Lb q.size 0 lo=0/\Lb q.size q.size hi=q.size))
  (h:Q (.ref s.heap.objs.size) {s with heap:=s.heap.push {cls:=.type "tuple",data:=.seq ((q.toList.drop (Lb q.size 0 lo)).take (Lb q.size q.size hi-Lb q.size 0 lo)).toArray}})
  (hsz:q.size<=JQ):wpAny (KQ prog w) A (SR (.ref t) (.ref b0)) Q E s:=by
 have O:sizeOk (.seq ((q.toList.drop (Lb q.size 0 lo)).take (Lb q.size q.size hi-Lb q.size 0 lo)).toArray):=by
  show((q.toList.drop (Lb q.size 0 lo)).take (Lb q.size q.size hi-Lb q.size 0 lo)).toArray.size<=JQ;rw[Zc,vj,Kn,Ag];lia
 obtain⟨os,g0,h0,k0⟩:=id a0;have i0:s.TypeIs (.ref b0) "slice":=⟨os,g0,h0⟩;unfold SR;try with_reducible refine eg ?_
 refine ba (wpAny_sequenceKey J.typeIs (by decide) ?_);refine ba (Ak J.typeIs yv
  (Ug yv J.typeIs entry_tuple_getitem ?_ (args_tuple_getitem _ _)))
 show wpAny _ _ (Builtin.Tuple.tupleItemsOf (.ref t)>>=_) _ _ s;refine ba (tupleItemsOf_ J ?_);refine ba (Lk i0 ?_);refine ba (FF a0 pl e0 ?_);have j0:¬((((Lb q.size 0 lo:Nat):Int)==0&&(1:Int)==1&&(Lb q.size q.size hi-Lb q.size 0 lo)==q.size)=HQ):=by
  intro Y;rw[jm,jm]at Y;have l0:=eq_of_beq Y.1.1;have n0:=eq_of_beq Y.2;exact f0 (by grind)
 show wpAny _ _ (if(((Lb q.size 0 lo:Nat):Int)==0&&(1:Int)==1&&(Lb q.size q.size hi-Lb q.size 0 lo)==q.size)=HQ then _ else _) _ _ s;rw[Ba j0,GF];first
  |exact ba (dg (Aa ⟨_,rfl,Aa h⟩) O)
  |exact ba (dg (ba (Aa (Aa ⟨_,rfl,Aa h⟩))) O)
  |exact ba (ba (dg (Aa (Aa ⟨_,rfl,Aa h⟩)) O))
  |exact ba (ba (m:=Builtin.Tuple.tupleExact _) (dg (Aa ⟨_,rfl,Aa h⟩) O))
end
end HT
namespace L2
open PySem PySem.Spec PyProof.Rows
abbrev TO:=St->Hp->(Option Int->Hp->Prop)->Prop
structure PO(X:Cx)(e:Option SQ)(t:TO):Prop where
 run:∀(pins:List (FQ×bR))(s:GQ)(σ:St)(H:Hp)(Q:Option Int->Hp->Prop),Inv X pins σ H s->t σ H Q->
  wpAny (KQ X.prog X.w) X.A (evalPart e X.env) (λu s'=>∃o H',Inv X pins σ H' s'/\dS u o/\Q o H') X.xe s
instance{X:Cx}{e:Option SQ}{t:TO}:CoeFun (PO X e t) λ_=>∀(pins:List (FQ×bR))(s:GQ)(σ:St)(H:Hp)(Q:Option Int->Hp->Prop),Inv X pins σ H s->t σ H Q->
  wpAny (KQ X.prog X.w) X.A (evalPart e X.env) (λu s'=>∃o H',Inv X pins σ H' s'/\dS u o/\Q o H') X.xe s:=⟨PO.run⟩
def IF:TO:=λ_ H Q=>Q none H
def JF(t:TE):TO:=λq H Q=>t q H λx J=>∃i,x=.int i/\Q (some i) J
def intsAre_of:∀{us:List EQ},Oa (q.map V.int) us->UR us q:=by
 induction q with
 |nil=>intro us r;cases r;exact .nil
 |cons n q J=>
  intro us r;cases r with
  |cons O Y=>
   obtain⟨t,e⟩:=O;subst e;exact .cons n t (J Y)
section
variable{X:Cx}{e:SQ}{te:TE}{lo hi:Option SQ}{tl th:TO}{pos p2:jR}
def fq:PO X none IF:=by
 constructor;intro q s J H Q I h;exact Aa ⟨none,H,I,.none,h⟩
def Lm(h:PE X e te):PO X (some e) (JF te):=by
 constructor;intro q s J H Q I O;refine Fa (h q s J H _ I O) ?_;rintro u s1⟨x,Y,a0,b0,c0⟩;obtain⟨i,rfl,d0⟩:=c0;obtain⟨t,rfl⟩:=b0;exact⟨some i,Y,a0,.int i t,d0⟩
def gs(X:Cx)(r:V->Option Int->Option Int->Hp->VK->Prop):Prop:=
 ∀(q:List (FQ×bR))(s:GQ)(J:St)(H:Hp)(x:V)(v O Y:EQ)(lo hi:Option Int)(a0:FQ)(Q:VK),Inv X q J H s->Sa x v->s.heap.IsSliceOf a0 O Y .none->dS O lo->dS Y hi->r x lo hi H Q->
  ∃T id,aS (.type T) "__getitem__"=pure (some (.builtin id))/\s.TypeIs v T/\wpAny (KQ X.prog X.w) X.A (SR v (.ref a0)) (EP X q J Q) X.xe s
def LF(r:V->Option Int->Option Int->Hp->VK->Prop)(te:TE)(tl th:TO):TE:=λq H Q=>te q H λx J=>tl q J λl O=>th q O λu Y=>r x l u Y Q
def oo(c0:gs X r)(d0:PE X e te)(e0:PO X lo tl)(f0:PO X hi th):PE X (.Subscript e (.Slice lo hi none p2) pos) (LF r te tl th):=by
 constructor;intro q s J H Q I h;refine Subscript_ (Fa (d0 q s J H _ I h) ?_);rintro v s1⟨x,g0,h0,i0,j0⟩;refine wpAny_Slice (Fa (e0 q s1 J g0 _ h0 j0) ?_);rintro Y k0⟨l,l0,n0,pl,o0⟩;refine Fa (f0 q k0 J l0 _ n0 o0) ?_;rintro a0 O⟨u,b0,p0,q0,r0⟩;refine Aa ?_;have s0:Inv X q J b0 {O with heap:=O.heap.push {cls:=.type "slice",data:=.fields #[Y,a0,.none]}}:=p0.kept λb ob t0=>Xa _ t0
 obtain⟨T,id,u0,v0,w0⟩:=c0 q {O with heap:=O.heap.push {cls:=.type "slice",data:=.fields #[Y,a0,.none]}} J b0 x v Y a0 l u O.heap.objs.size Q s0 i0 (Heap.IsSliceOf.new ..) pl q0 r0;exact tail_any v0 u0 w0 (by with_unfolding_all rfl)
def vi(xs:List V)(lo hi:Option Int):List V:=(xs.drop (HT.Lb xs.length 0 lo)).take (HT.Lb xs.length xs.length hi-HT.Lb xs.length 0 lo)
def Jz(xs:List V)(lo hi:Option Int):(vi xs lo hi).length<=xs.length:=by
 unfold vi;rw[vj,Kn];lia
inductive Kz(K:W.Frag)(x:V)(lo hi:Option Int)(H:Hp)(Q:VK):Prop|mk(a xs)(_:x=.ref a)(_:xa K H a xs)(_:¬(HT.Lb xs.length 0 lo=0/\HT.Lb xs.length xs.length hi=xs.length))(_:∀p,H p=none->Q (.ref p) (upd H p (.tup (vi xs lo hi))))
def MF:gs X (Kz X.K):=by
 intro f0 s g0 H x v h0 i0 lo hi j0 Q I Y a0 pl b0 h;obtain⟨a,xs,rfl,c0,d0,q⟩:=h;cases Y;obtain⟨e0,r,O,hz⟩:=I.tuple c0;have J:e0.toArray.size=xs.length:=by rw[Zc];exact r.length.symm
 refine nx0 ("tuple") _ yv.lookup O.typeIs ?_;refine HT.zd O a0 pl b0 (by rw[J];exact d0) ?_ (by rw[J];exact hz);rw[J];refine⟨.ref s.heap.objs.size,_,I.laid (λb ob q=>Xa _ q) (Ra _) ?_,rfl,q _ (I.za.fresh (Ra _))⟩;exact⟨qc (Jz xs lo hi) hz,_,(r.drop (HT.Lb xs.length 0 lo)).take (HT.Lb xs.length xs.length hi-HT.Lb xs.length 0 lo),IsTup.new _ _⟩
inductive NF(K:W.Frag)(x y:V)(H:Hp)(Q:VK):Prop|mk(a b xs ys)(_:x=.ref a)(_:y=.ref b)(_:xa K H a xs)(_:xa K H b ys)(_:xs≠[])(_:xs.length+ys.length<=JQ)(_:(ys=[]->Q (.ref a) H))(_:(ys≠[]->∀p,H p=none->Q (.ref p) (upd H p (.tup (xs++ys)))))
def Oa.lf(r:Oa xs us):us=[]↔xs=[]:=by
 cases r with
 |nil=>simp
 |cons _ _=>simp
def Lz:Vc X (tR .Add) (NF X.K):=by
 intro h0 s i0 H x y v u Q I O Y h;obtain⟨a,b,xs,ys,rfl,rfl,a0,b0,c0,hz,d0,e0⟩:=h;cases O;cases Y;obtain⟨j0,J,f0,_⟩:=I.tuple a0;obtain⟨k0,q,p2,_⟩:=I.tuple b0;refine HT.Jj f0 p2 (λz=>c0 (J.lf.mp z)) (λz=>⟨.ref a,H,I,rfl,d0 (q.lf.mp z)⟩) (λz=>?_) (by rw[<-J.length,<-q.length];exact hz);refine⟨.ref s.heap.objs.size,_,I.laid (λb ob g0=>Xa _ g0) (Ra _) ?_,rfl,e0 (λw=>z (q.lf.mpr w)) _ (I.za.fresh (Ra _))⟩;exact⟨by rw[gi];exact hz,_,J.append q,IsTup.new _ _⟩
end
def Lj(n:Nat)(i:Int):Option Nat:=if 0<=i then(if i<n then some i.toNat else none)else if-(n:Int)<=i then some (i+n).toNat else none
def Ve{q:Type}(xs:List q)(i:Int):Option q:=(Lj xs.length i).bind λj=>xs[j]?
def OF(h:Lj n i=some j):seqIndex? i n=some j/\j<n/\-(n:Int)<=i/\i<n:=by
 unfold Lj at h;by_cases J:0<=i
 ·rw[Ca J]at h;by_cases q:i<n
  ·rw[Ca q]at h;have e:=Yd h;exact⟨by rw[seqIndex_of J q,e],by lia,by lia,q⟩
  ·rw[Ba q]at h;cases h
 ·rw[Ba J]at h;by_cases q:-(n:Int)<=i
  ·rw[Ca q]at h;have e:=Yd h;exact⟨by rw[seqIndex_neg (by lia) q,e],by lia,q,by lia⟩
  ·rw[Ba q]at h;cases h
def hs(h:Ve xs i=some v):∃j,seqIndex? i xs.length=some j/\xs[j]?=some v/\j<xs.length/\-(xs.length:Int)<=i/\i<xs.length:=by
 unfold Ve at h;cases e:Lj xs.length i with
 |none=>rw[e]at h;cases h
 |some j=>
  rw[e]at h;obtain⟨q,J,O,Y⟩:=OF e;exact(by grind)
def Ja{j:Nat}(h:xs[j]?=some v):Ve xs (j:Int)=some v:=by
 have q:=(ee.mp h).1;have e:Lj xs.length (j:Int)=some j:=by
  unfold Lj;rw[Ca (by lia),Ca (by lia)];simp
 unfold Ve;rw[e];exact h
def Mz(b:SQ):Prop:=∀o i,tS b IQ o i=operate [o,i] (SR o i)
def qo(X:Cx)(r:R2):Prop:=
 ∀(Y q:SQ)(J:List (FQ×bR))(s:GQ)(O:St)(H:Hp)(x y:V)(v u:EQ)(Q:VK),Inv X J O H s->Sa x v->Sa y u->r x y H Q->
  tS q IQ v u=operate [v,u] (SR v u)->wpAny (KQ X.prog X.w) X.A (subscriptTail Y q v u) (EP X J O Q) X.xe s
def Nz(X:Cx)(id:String)(r:V->List V->Hp->VK->Prop):Prop:=
 ∀(q:List (FQ×bR))(s:GQ)(J:St)(H:Hp)(x:V)(xs:List V)(v:EQ)(us:List EQ)(Q:VK),Inv X q J H s->Sa x v->Oa xs us->r x xs H Q->
  wpAny (KQ X.prog X.w) X.A (call (.builtin id) (v::us)) (EP X q J Q) X.xe s
section
variable{X:Cx}{a b:SQ}{ta tb:TE}{pos:jR}
def PF(q:qo X r)(J:PE X a ta)(O:PE X b tb)(Y:Mz b):PE X (.Subscript a b pos) (Dm r ta tb):=by
 constructor;intro a0 s b0 H Q I h;exact Subscript_ (Nv J O I h λv u c0 x y d0 e0 f0 g0 h0=>q a b a0 c0 b0 d0 x y v u Q e0 f0 g0 h0 (Y _ _))
inductive QF(K:W.Frag)(x y:V)(H:Hp)(Q:VK):Prop|mk(p xs i v)(_:x=.ref p)(_:y=.int i)(_:ja K H p xs)(_:Ve xs i=some v)(_:Q v H)
inductive Oz(K:W.Frag)(x y:V)(H:Hp)(Q:VK):Prop|mk(p xs i v)(_:x=.ref p)(_:y=.int i)(_:xa K H p xs)(_:Ve xs i=some v)(_:Q v H)
inductive RF(x y:V)(H:Hp)(Q:VK):Prop|mk(z i c)(_:x=.str z)(_:y=.int i)(_:z.length<=JQ)(_:Ve z.cps.toList i=some c)(_:Q (.str ⟨#[c]⟩) H)
def ye:qo X (QF X.K):=by
 intro p0 q0 b0 s c0 H x y v u Q I d0 e0 h O;obtain⟨p,xs,i,z,rfl,rfl,f0,g0,h0⟩:=h;cases d0;obtain⟨t,rfl⟩:=e0;obtain⟨i0,r,pl,hz⟩:=I.list f0;obtain⟨j,q,j0,r0,k0,l0⟩:=hs g0;obtain⟨w,Y,n0⟩:=r.get j0;have o0:=r.length;have s0:=Wr;have fin:EP X b0 c0 Q w s:=⟨z,H,I,n0,h0⟩;by_cases a0:0<=i
 ·have J:i.toNat=j:=by
   rw[seqIndex_of a0 l0]at q;exact Yd q
  exact item_listR pl.isList a0 (by lia) (by rw[J];simpa using Y) fin O
 ·have J:(i+(i0.toArray.size:Int)).toNat=j:=by
   rw[seqIndex_neg (by lia) k0]at q;rw[Zc,<-o0];exact Yd q
  exact XS (x:=w) pl.isList.typeIs slot_list_getitem.lookup
   (wpAny_getItem_list_neg pl.isList (by lia) (by rw[Zc]<;>lia) (by lia) (by rw[J];simpa using Y) ⟨rfl,fin⟩) O
def Ab:qo X (Oz X.K):=by
 intro j0 k0 q s J H x y v u Q I O Y h a0;obtain⟨p,xs,i,z,rfl,rfl,b0,c0,d0⟩:=h;cases O;obtain⟨t,rfl⟩:=Y;obtain⟨l0,r,pl,hz⟩:=I.tuple b0;obtain⟨j,e0,f0,n0,o0,p0⟩:=hs c0;obtain⟨w,g0,h0⟩:=r.get f0;have i0:=r.length;have q0:=Wr;have fin:EP X q J Q w s:=⟨z,H,I,h0,d0⟩;exact XS pl.typeIs slot_tuple_getitem.lookup
  (getItem_tuple pl (by lia) (by lia) (by rw[Zc,<-i0];exact e0) (by simpa using g0) ⟨rfl,fin⟩) a0
def bw:qo X RF:=by
 intro f0 g0 h0 s i0 H x y v u Q I q J h O;obtain⟨z,i,c,rfl,rfl,hz,Y,a0⟩:=h;obtain⟨t,rfl⟩:=q;obtain⟨t',rfl⟩:=J;obtain⟨j,b0,j0,k0,c0,d0⟩:=hs Y;have e0:z.cps.toList.length=z.length:=by simp[Str.length]
 rw[e0]at b0 c0 d0;have l0:=Wr;exact tail_any (typeIs_str s z t) slot_str_getitem.lookup (getItem_str (c:=c) (by
  grind) (by grind) ⟨.str ⟨#[c]⟩,H,I.tok _,⟨_,rfl⟩,a0⟩) O
def Inv.lst{J:List (FQ×bR)}{O:St}{H:Hp}{s:GQ}{p:FQ}{xs:List V}(I:Inv X J O H s)(h:H p=some (.lst xs)):
  ∃(q:List EQ)(n:Nat),Oa xs q/\s.heap.get? p=some {cls:=.type "list",data:=.seq q.toArray n}/\xs.length<=JQ:=by
 obtain⟨z,q,n,r,e⟩:=I.za p _ h;exact nx0 q n r e z
def SF(lo hi:Option Int)(n:Nat):(wR lo hi none n).1=((HT.Lb n 0 lo:Nat):Int)/\(wR lo hi none n).2.1=((HT.Lb n n hi:Nat):Int)/\(wR lo hi none n).2.2=1:=by
 refine⟨?_,?_,rfl⟩
 ·cases lo with
  |none=>simp[wR,HT.Lb]
  |some i=>
   simp only[wR,HT.Lb,Option.getD_none,show(1:Int)>0 by decide,if_true];by_cases h:i<0
   ·simp only[h,if_true]<;>lia
   ·simp only[h,if_false]<;>lia
 ·cases hi with
  |none=>simp[wR,HT.Lb]
  |some i=>
   simp only[wR,HT.Lb,Option.getD_none,show(1:Int)>0 by decide,if_true];by_cases h:i<0
   ·simp only[h,if_true]<;>lia
   ·simp only[h,if_false]<;>lia
def TF(q:List EQ)(lo hi:Option Int):slicePick q.toArray lo hi none=((q.drop (HT.Lb q.length 0 lo)).take (HT.Lb q.length q.length hi-HT.Lb q.length 0 lo)).toArray:=by
 obtain⟨J,O,Y⟩:=SF lo hi q.toArray.size;unfold slicePick;rw[J,O,Y];simp only[sliceRange_one,pick_run,Zc]<;>rfl
inductive UF(K:W.Frag)(x:V)(lo hi:Option Int)(H:Hp)(Q:VK):Prop|mk(a xs)(_:x=.ref a)(_:ja K H a xs)(_:∀p,H p=none->Q (.ref p) (upd H p (.lst (vi xs lo hi))))
def ls:gs X (UF X.K):=by
 intro d0 s e0 H x v f0 g0 lo hi h0 Q I O Y pl a0 h;obtain⟨a,xs,rfl,b0,q⟩:=h;cases O;obtain⟨i0,r,J,hz⟩:=I.list b0;have c0:=r.length;refine nx0 ("list") _ slot_list_getitem.lookup J.isList.typeIs ?_;refine wpAny_getItem_list_slice J.isList Y pl a0 .none (by simp) ?_ (by rw[Zc]<;>lia);rw[TF,<-c0];refine⟨.ref s.heap.objs.size,_,I.laid (λb ob q=>Xa _ q) (Ra _) ?_,rfl,q _ (I.za.fresh (Ra _))⟩;exact⟨qc (Jz xs lo hi) hz,nx5 _ 0 ((r.drop (HT.Lb xs.length 0 lo)).take (HT.Lb xs.length xs.length hi-HT.Lb xs.length 0 lo)) (ec _ rfl)⟩
def Mj:V->Bool
 |.ya=>HQ
 |.bl _=>HQ
 |.int _=>HQ
 |.str _=>HQ
 |_=>IQ
def Nj:V->V->Bool
 |.ya,.ya=>HQ
 |.bl a,.bl b=>a==b
 |.bl a,.int b=>(if a then 1 else 0)==b
 |.int a,.bl b=>a==(if b then 1 else 0)
 |.int a,.int b=>a==b
 |.str a,.str b=>a==b
 |_,_=>IQ
def VF(J:Sa y u)(q:Sa x v)(Y:Mj y=HQ)(O:Mj x=HQ):SeqAt.EqAt A s u v (Nj y x):=by
 cases y with
 |ya=>
  cases J;cases x with
  |ya=>cases q;exact SeqAt.EqAt.same _
  |bl b=>cases q;exact SeqAt.EqAt.none_bool b
  |int b=>obtain⟨t,rfl⟩:=q;exact SeqAt.EqAt.none_int b t
  |str b=>obtain⟨t,rfl⟩:=q;exact SeqAt.EqAt.none_str b t
  |_=>exact absurd (O) be
 |bl a=>
  cases J;cases x with
  |ya=>cases q;exact SeqAt.EqAt.bool_none a
  |bl b=>cases q;exact SeqAt.EqAt.bool_bool a b
  |int b=>obtain⟨t,rfl⟩:=q;exact SeqAt.EqAt.bool_int a b t
  |str b=>obtain⟨t,rfl⟩:=q;exact SeqAt.EqAt.bool_str a b t
  |_=>exact absurd ‹_› be
 |int a=>
  obtain⟨t',rfl⟩:=J;cases x with
  |ya=>cases q;exact SeqAt.EqAt.int_none a t'
  |bl b=>cases q;exact SeqAt.EqAt.int_bool a t' b
  |int b=>obtain⟨t,rfl⟩:=q;exact SeqAt.EqAt.int_int a t' b t
  |str b=>obtain⟨t,rfl⟩:=q;exact SeqAt.EqAt.int_str a t' b t
  |_=>exact absurd (show IQ=HQ from O) be
 |str a=>
  obtain⟨t',rfl⟩:=J;cases x with
  |ya=>cases q;exact SeqAt.EqAt.str_none a t'
  |bl b=>cases q;exact SeqAt.EqAt.str_bool a t' b
  |int b=>obtain⟨t,rfl⟩:=q;exact SeqAt.EqAt.str_int a t' b t
  |str b=>obtain⟨t,rfl⟩:=q;exact SeqAt.EqAt.str_str a t' b t
  |_=>exact absurd (show IQ=HQ from O) be
 |_=>exact absurd (Y) be
def lg(x:V)(u:EQ):Bool:=match u with
 |.none=>Nj .ya x
 |.bool b=>Nj (.bl b) x
 |.int i _=>Nj (.int i) x
 |.str z _=>Nj (.str z) x
 |_=>IQ
def Pz(r:Sa y u)(f:Mj y=HQ):lg x u=Nj y x:=by
 cases y with
 |ya=>cases r;rfl
 |bl b=>cases r;rfl
 |int i=>obtain⟨t,rfl⟩:=r;rfl
 |str z=>obtain⟨t,rfl⟩:=r;rfl
 |_=>exact absurd (f) be
def gq:∀{xs:List V}{us:List EQ},Oa xs us->xs.all Mj=HQ->us.any (lg x)=xs.any λy=>Nj y x
 |_,_,.nil,_=>rfl
 |y::xs,u::us,.cons r t,f=>by
  rw[List.all_cons,jm]at f;rw[Xn,Xn,Pz r f.1,gq t f.2]
def iq(q:Sa x v)(J:Mj x=HQ):∀{xs:List V}{us:List EQ},Oa xs us->xs.all Mj=HQ->∀u∈us,SeqAt.EqAt A s u v (lg x u)
 |_,_,.nil,_=>by grind
 |y::xs,u::us,.cons r t,f=>λO hu=>by
  rw[List.all_cons,jm]at f;rcases Mb.mp hu with rfl|hu
  ·rw[Pz r f.1];exact VF r q f.1 J
  ·exact iq q J t f.2 O hu
def Kh(x:V)(xs:List V):Bool:=xs.any λy=>Nj y x
inductive cw(K:W.Frag)(neg:Bool)(x y:V)(H:Hp)(Q:VK):Prop|mk(p xs)(_:y=.ref p)(_:(ja K H p xs\/xa K H p xs))(_:Mj x=HQ)(_:xs.all Mj=HQ)(_:Q (.bl (if neg then !Kh x xs else Kh x xs)) H)
def jq:Vc X (ZQ .In) (cw X.K IQ):=by
 intro c0 s d0 H x y v u Q I J a0 h;obtain⟨p,xs,rfl,hq,O,fs,Y⟩:=h;cases a0;rcases hq with hq|hq
 ·obtain⟨q,r,pl,hz⟩:=I.list hq;refine SeqAt.in_listAt (lg x) pl.isList (λw b0=>iq J O r fs w (by grind)) ⟨.bl _,H,I,rfl,?_⟩;rw[show q.toArray.any (lg x)=q.any (lg x)by simp,gq r fs];exact Y
 ·obtain⟨q,r,pl,hz⟩:=I.tuple hq;refine SeqAt.in_tupleAt (lg x) pl (λw b0=>iq J O r fs w (by grind)) ⟨.bl _,H,I,rfl,?_⟩;rw[show q.toArray.any (lg x)=q.any (lg x)by simp,gq r fs];exact Y
def Qz:Vc X (ZQ .NotIn) (cw X.K HQ):=by
 intro c0 s d0 H x y v u Q I J a0 h;obtain⟨p,xs,rfl,hq,O,fs,Y⟩:=h;cases a0;rcases hq with hq|hq
 ·obtain⟨q,r,pl,hz⟩:=I.list hq;refine SeqAt.notIn_listAt (lg x) pl.isList (λw b0=>iq J O r fs w (by grind)) ⟨.bl _,H,I,rfl,?_⟩;rw[show q.toArray.any (lg x)=q.any (lg x)by simp,gq r fs];exact Y
 ·obtain⟨q,r,pl,hz⟩:=I.tuple hq;refine SeqAt.notIn_tupleAt (lg x) pl (λw b0=>iq J O r fs w (by grind)) ⟨.bl _,H,I,rfl,?_⟩;rw[show q.toArray.any (lg x)=q.any (lg x)by simp,gq r fs];exact Y
def kq:gf X (.type "list") (λxs H Q=>∃p ys,xs=[.ref p]/\(ja X.K H p ys\/xa X.K H p ys)/\∀l,H l=none->Q (.ref l) (upd H l (.lst ys))):=by
 intro c0 s d0 H xs us Q I r h;obtain⟨p,ys,rfl,hq,e0⟩:=h;obtain⟨u,rfl,f0⟩:=Gf r;cases f0;have fin:∀(q:List EQ),Oa ys q->ys.length<=JQ->∀(h':NQ)(O:Nat),(∀b b0,s.heap.get? b=some b0->h'.get? b=some b0)->
   h'.get? s.heap.objs.size=some {cls:=.type "list",dict:=none,data:=.seq q.toArray O,slots:=#[]}->EP X c0 d0 Q (.ref s.heap.objs.size) {s with heap:=h'}:=λq J hz h' O g0 e=>
  ⟨.ref s.heap.objs.size,_,I.laid g0 (Ra _) (show Fb X.prog X.w _ h' _ (.lst ys)from⟨hz,q,O,J,e⟩),rfl,e0 _ (I.za.fresh (Ra _))⟩
 rcases hq with hq|hq
 ·obtain⟨q,J,pl,hz⟩:=I.list hq;have h0:=J.length;obtain⟨o,ho,Y,n,a0⟩:=pl.isList;exact call_list_seq p (.inl rfl) ho Y a0 (by grind) (by simp only[Zc]<;>lia)
 ·obtain⟨q,J,pl,hz⟩:=I.tuple hq;have h0:=J.length;obtain⟨o,ho,Y,n,a0⟩:=pl;exact call_list_seq p (.inr rfl) ho Y a0 (by grind) (by simp only[Zc]<;>lia)
def ss:gf X (.type "tuple") (λxs H Q=>∃p ys,xs=[.ref p]/\((ja X.K H p ys/\∀l,H l=none->Q (.ref l) (upd H l (.tup ys)))\/(xa X.K H p ys/\Q (.ref p) H))):=by
 intro e0 s f0 H xs us Q I r h;obtain⟨p,ys,rfl,h⟩:=h;obtain⟨u,rfl,b0⟩:=Gf r;cases b0;rcases h with⟨q,J⟩|⟨q,J⟩
 ·obtain⟨Y,O,pl,hz⟩:=I.list q;have g0:=O.length;refine call_tuple_list pl.isList (λh' c0=>?_) (by simp only[Zc]<;>lia);have a0:=I.kept (t':=s.toks) c0;have d0:=
   a0.laid (t':=s.toks) (λb o e=>Xa _ e) (Ra _) (show Fb X.prog X.w _ _ _ (.tup ys)from⟨hz,Y,O,IsTup.new _ _⟩)
  exact⟨.ref h'.objs.size,_,d0,rfl,J _ (a0.za.fresh (Ra _))⟩
 ·obtain⟨Y,O,pl,hz⟩:=I.tuple q;exact call_tuple_same pl ⟨.ref p,H,I,rfl,J⟩
def dw(K:W.Frag)(T:String)(x:V)(H:Hp):Prop:=match x with
 |.str _=>T="str"
 |.int _=>T="int"
 |.ref p=>(T="list"/\∃xs,ja K H p xs)\/(T="tuple"/\∃o,K.lookup p=some o/\o.cls=.type "tuple"/\o.dict=none)\/
   (T="dict"/\((∃kvs,H p=some (.dK kvs))\/∃kvs,H p=some (.dT kvs)))\/(T="set"/\∃S n,H p=some (.set S n))
 |_=>False
def Rz{Y:St}(I:Inv X c0 Y H s)(r:Sa x v)(q:dw X.K T x H):
  s.TypeIs v T/\∀a,v=.ref a->∃ob,s.heap.get? a=some ob/\ob.dict=none:=by
 cases x with
 |str z=>
  obtain⟨t,rfl⟩:=r;cases(q);exact⟨typeIs_str s z t,λ_ e=>nomatch e⟩
 |int i=>
  obtain⟨t,rfl⟩:=r;cases(q);exact⟨typeIs_int s i t,λ_ e=>nomatch e⟩
 |ref p=>
  cases r;rcases q with⟨rfl,xs,a0⟩|⟨rfl,o,hk,b0,J⟩|⟨rfl,hk⟩|⟨rfl,S,n,hk⟩
  ·obtain⟨d0,_,pl,_⟩:=I.list a0;refine⟨pl.isList.typeIs,λa e=>?_⟩;cases e;obtain⟨o,n,e,c,J,_⟩:=pl;exact⟨o,e,J⟩
  ·refine⟨⟨o,I.rb p o hk,b0⟩,λa e=>?_⟩;cases e;exact⟨o,I.rb _ o hk,J⟩
  ·have z:∃o,s.heap.get? p=some o/\o.ExactDict:=by
    rcases hk with⟨kvs,hk⟩|⟨kvs,hk⟩
    ·obtain⟨_,_,_,_,o,_,_,e,ex,_⟩:=I.za p _ hk;exact⟨o,e,ex⟩
    ·obtain⟨_,_,_,_,o,_,_,e,ex,_⟩:=I.za p _ hk;exact⟨o,e,ex⟩
   obtain⟨o,e,ex⟩:=z;refine⟨⟨o,e,ex.1⟩,λa O=>?_⟩;cases O;exact⟨o,e,ex.2.1⟩
  ·obtain⟨o,_,_,_,e,ex,_⟩:=I.za p _ hk;refine⟨⟨o,e,ex.1⟩,λa O=>?_⟩;cases O;exact⟨o,e,ex.2.1⟩
 |_=>exact False.elim q
def WF(K:W.Frag)(T:String)(r:V->List V->Hp->VK->Prop)(to:TE):TE:=λJ H Q=>to J H λx q=>dw K T x q/\r x [] q Q
def XF(K:W.Frag)(T:String)(r:V->List V->Hp->VK->Prop)(to:TE)(t:TA):TE:=λq H Q=>to q H λx J=>dw K T x J/\t q J λxs O=>r x xs O Q
variable{o e:SQ}{es:List SQ}{to:TE}{t:TA}{name:Str}{apos Pb:jR}{T id:String}{r:V->List V->Hp->VK->Prop}
def lq(a0:PlainAttrs T)(slot:Slot T name id)(b0:typeOf (.builtin id)=pure (.type "method_descriptor"))(c0:Nz X id r)(ho:PE X o to)
  (d0:YQ o name X.env (RQ o X.env)=RQ o X.env:=by rfl)(e0:(apos.endLine==Pb.line)=HQ:=by rfl):PE X (.Call (.Attribute o name apos) [] [] Pb) (WF X.K T r to):=by
 constructor;intro q s J H Q I h;refine FR d0 e0 (Fa (ho q s J H _ I h) ?_);rintro v s1⟨x,f0,O,Y,g0,h0⟩;obtain⟨i0,j0⟩:=Rz O Y g0;exact nx12 T id a0 slot b0 i0 j0 (Yl rfl (PySem.evalArgs_none (c0 q s1 J f0 x [] v [] Q O Y .nil h0)))
def Oj(b0:PlainAttrs T)(slot:Slot T name id)(c0:typeOf (.builtin id)=pure (.type "method_descriptor"))(d0:Nz X id r)(ho:PE X o to)(e0:PA X (e::es) t)
  (f0:YQ o name X.env (RQ o X.env)=RQ o X.env:=by rfl)
  (g0:((VQ Pb (LQ (e::es) X.env)).all (λx=>!x.1)&&(dR Pb (TQ [] X.env)).all (λx=>x.1.isSome)
   &&decide ((e::es).length+([]:List TR).length+(if([]:List TR).isEmpty then 0 else 1)<30))=HQ:=by rfl)
  (h0:(apos.endLine==Pb.line)=HQ:=by rfl)(i0:LQ (e::es) X.env=(IQ,RQ e X.env)::LQ es X.env:=by rfl)(u0:(VQ Pb (LQ es X.env)).any (·.1)=IQ:=by rfl):
  PE X (.Call (.Attribute o name apos) (e::es) [] Pb) (XF X.K T r to t):=by
 constructor;intro q s J H Q I h;refine wpAny_Call_method_late f0 g0 h0 rfl (Fa (ho q s J H _ I h) ?_);rintro v s1⟨x,j0,O,Y,k0,l0⟩;obtain⟨n0,o0⟩:=Rz O Y k0;refine nx12 T id b0 slot c0 n0 o0 ?_;have a0:=e0 Pb q s1 J j0 _ O l0;rw[i0]at a0⊢;refine Yl (by grind) (Br ?_);exact Fa a0 (by rintro us p0⟨vs,q0,r0,s0,t0⟩;exact d0 q p0 J q0 x vs v us Q r0 Y s0 t0)
end
def mq(X:Cx)(id:String)(r:V->List V->Hp->VK->Prop):Prop:=
 ∀(q:List (FQ×bR))(s:GQ)(J:St)(H:Hp)(x:V)(xs:List V)(v:EQ)(us:List EQ)(Q:VK),Inv X q J H s->Sa x v->Oa xs us->r x xs H Q->
  wpAny (KQ X.prog X.w) X.A (call (.builtin id) (v::us)) (EP X q J Q) X.xe s
def Oa.one:∀{x:V}{us:List EQ},Oa [x] us->∃u,us=[u]/\Sa x u:=by
 rintro _ _(_|⟨r,_|_⟩);exact⟨_,rfl,r⟩
def Oa.zero:∀{us:List EQ},Oa [] us->us=[]
 |_,.nil=>rfl
def Oa.eraseIdx:∀{xs:List V}{us:List EQ}(i:Nat),Oa xs us->Oa (xs.eraseIdx i) (us.eraseIdx i)
 |_,_,_,.nil=>.nil
 |_,_,0,.cons _ t=>t
 |_,_,i+1,.cons r t=>.cons r (Oa.eraseIdx i t)
def Oa.rep(h:Oa xs us):∀k:Nat,Oa (List.replicate k xs).flatten (List.replicate k us).flatten
 |0=>.nil
 |k+1=>by
  exact Oa.append h (Oa.rep h k)
def Sz(q:List EQ):∀(k:Nat)(J:List EQ),
  List.foldl (λO Y=>O++Y) J.toArray (List.replicate k q.toArray)=(J++(List.replicate k q).flatten).toArray
 |0,J=>by simp
 |k+1,J=>by
  have e:J.toArray++q.toArray=(J++q).toArray:=by simp
  have a0:(J++q)++(List.replicate k q).flatten=J++(List.replicate (k+1) q).flatten:=by
   rw[Gp,List.flatten_cons,List.append_assoc]
  rw[<-a0,<-Sz q k (J++q),<-e,Gp,List.foldl_cons]
section
variable{X:Cx}{pins:List (FQ×bR)}{σ:St}{H:Hp}{s:GQ}{l b:FQ}{xs ys zs:List V}
def Inv.Mm{J its':List EQ}(I:Inv X pins σ H s)(O:H l=some (.lst xs))
  (e:s.heap.get? l=some {cls:=.type "list",data:=.seq J.toArray n})(Y:f J.toArray=its'.toArray)(hv:Oa ys its')(hz:ys.length<=JQ):
  Inv X pins σ (upd H l (.lst ys)) {s with heap:=s.heap.update l (Obj.mapSeq f),toks:=t'}:=by
 have q:=PySem.IsL.update e f;rw[Y]at q;refine I.write (by rw[O];exact trivial) (.inl rfl) (λc0 u a0 b0=>(Pn s.heap (Obj.mapSeq f) (ud a0)).trans b0) ⟨_,q⟩ ?_;exact⟨hz,its',_,hv,q⟩
def Inv.nq(I:Inv X pins σ H s)(hv:Oa ys q)(hz:ys.length<=JQ):
  Inv X pins σ (upd H s.heap.objs.size (.lst ys)) {s with heap:=s.heap.push {cls:=.type "list",data:=.seq q.toArray},toks:=t'}:=
 I.laid (λ_ _ J=>Xa _ J) (Ra _) (⟨hz,nx5 q 0 hv (ec _ rfl)⟩)
def Inv.fresh(I:Inv X pins σ H s):H s.heap.objs.size=none:=I.za.fresh (Ra _)
def Inv.ng(I:Inv X pins σ H s)(J:H l=some (.lst xs)):xs.length<=JQ/\∃(q:List EQ)(n:Nat),Oa xs q/\xs.length=q.length/\s.heap.get? l=some {cls:=.type "list",data:=.seq q.toArray n}:=by
 obtain⟨z,q,n,r,e⟩:=I.za l _ J;exact⟨z,nx0 q n r r.length e⟩
def Tz(h:n<=JQ):Builtin.List.listTooLong n=IQ:=by
 exact Eg (by lia)
end
section
variable{X:Cx}
inductive Pj(x:V)(vs:List V)(H:Hp)(Q:VK):Prop|mk(l xs y)(_:x=.ref l)(_:vs=[y])(_:H l=some (.lst xs))(_:xs.length<JQ)(_:Q .ya (upd H l (.lst (xs++[y]))))
def ew:mq X "list.append" Pj:=by
 intro c0 s d0 H x vs v us Q I O Y h;obtain⟨l,xs,y,rfl,rfl,q,hz,a0⟩:=h;cases O;obtain⟨u,rfl,b0⟩:=Y.one;obtain⟨z,J,n,r,e0,e⟩:=I.ng q;refine HR F.slot_list_append ⟨_,e,rfl⟩ F.entry_list_append (F.args_list_append_2 _ _) (PySem.list_append l J.toArray n u (by rw[Zc];lia)) ⟨e,?_⟩;refine⟨.ya,_,I.Mm (its':=J++[u]) q e (by simp) (r.append (.cons b0 .nil)) ?_,rfl,a0⟩
 grind
inductive Qj(x:V)(vs:List V)(H:Hp)(Q:VK):Prop|mk(l b xs zs)(_:x=.ref l)(_:vs=[.ref b])(_:H l=some (.lst xs))(_:H b=some (.lst zs))(_:xs.length+zs.length<=JQ)(_:Q .ya (upd H l (.lst (xs++zs))))
def Uz:mq X "list.extend" Qj:=by
 intro i0 s j0 H x vs v us Q I Y a0 h;obtain⟨l,b,xs,k0,rfl,rfl,O,b0,hz,c0⟩:=h;cases Y;obtain⟨u,rfl,d0⟩:=a0.one;cases d0;obtain⟨z,q,n,r,l0,e⟩:=I.ng O;obtain⟨n0,J,e0,f0,o0,g0⟩:=I.ng b0;have hsz:q.toArray.size+J.toArray.size<=JQ:=by rw[Zc,Zc];lia
 have h0:¬(!q.toArray.isEmpty&&Builtin.List.listTooLong (q.toArray.size+J.toArray.size))=HQ:=by
  rw[Tz hsz,Bool.and_false];exact be
 refine HR F.slot_list_extend ⟨_,e,rfl⟩ F.entry_list_extend (F.args_list_extend_2 _ _)
  (AutoSeq1.list_extend_list_list_0 l q.toArray n b J.toArray e0 h0 (by rw[Zc];lia) (by lia)) ⟨e,g0,?_⟩
 refine⟨.ya,_,I.Mm O e (by simp) (r.append f0) ?_,rfl,c0⟩;rw[gi];lia
inductive Nm(x:V)(vs:List V)(H:Hp)(Q:VK):Prop|mk(l xs)(_:x=.ref l)(_:vs=[])(_:H l=some (.lst xs))(_:Q .ya (upd H l (.lst [])))
def Vz:mq X "list.clear" Nm:=by
 intro c0 s d0 H x vs v us Q I J O h;obtain⟨l,xs,rfl,rfl,q,Y⟩:=h;cases J;have a0:=O.zero;subst a0;obtain⟨z,b0,n,r,e0,e⟩:=I.ng q;refine HR F.slot_list_clear ⟨_,e,rfl⟩ F.entry_list_clear (F.args_list_clear_1 _) (AutoSeq1.list_clear_list_0 l b0.toArray n (by rw[Zc];lia)) ⟨e,?_⟩;exact⟨.ya,_,I.Mm q e rfl .nil (wc _),rfl,Y⟩
inductive YF(x y:V)(H:Hp)(Q:VK):Prop|mk(l b xs zs)(_:x=.ref l)(_:y=.ref b)(_:H l=some (.lst xs))(_:H b=some (.lst zs))(_:xs.length+zs.length<=JQ)(_:∀p,H p=none->Q (.ref p) (upd H p (.lst (xs++zs))))
def ro:Vc X (tR .Add) YF:=by
 intro g0 s h0 H x y v u Q I O Y h;obtain⟨l,b,xs,i0,rfl,rfl,a0,b0,hz,c0⟩:=h;cases O;cases Y;obtain⟨z,q,n,r,j0,e⟩:=I.ng a0;obtain⟨k0,J,l0,d0,n0,e0⟩:=I.ng b0;refine PySem.P.add_list e e0 ?_ (by grind);have f0:q.toArray++J.toArray=(q++J).toArray:=by simp
 rw[f0];exact⟨.ref _,_,I.nq (t':=s.toks) (r.append d0) (by rw[gi];lia),rfl,c0 _ I.fresh⟩
inductive ZF(x y:V)(H:Hp)(Q:VK):Prop|mk(l k xs)(_:x=.ref l)(_:y=.int k)(_:H l=some (.lst xs))(_:-(2^63)<=k)(_:k<2^63)(_:xs.length*k.toNat<=JQ)(_:∀p,H p=none->Q (.ref p) (upd H p (.lst (List.replicate k.toNat xs).flatten)))
def aG{q:Type}(xs:List q)(k:Nat):(List.replicate k xs).flatten.length=k*xs.length:=by
 induction k with
 |zero=>simp
 |succ k J=>rw[Gp,List.flatten_cons,gi,J,Nat.succ_mul,Nat.add_comm]
def Wz:Vc X (tR .Mult) ZF:=by
 intro n0 s o0 H x y v u Q I J O h;obtain⟨l,k,xs,rfl,rfl,Y,a0,b0,hz,c0⟩:=h;cases J;obtain⟨t,rfl⟩:=O;obtain⟨z,q,n,r,d0,e⟩:=I.ng Y;have e0:q.toArray.size*k.toNat<=JQ:=by rw[Zc,<-d0];exact hz
 have f0:¬q.toArray.size*k.toNat>(2^63-1)/8:=by
  have:(JQ:Nat)<=(2^63-1)/8:=by decide
  lia
 have g0:¬(!Builtin.List.listFitsIndex k)=HQ:=by
  rw[fitsIndex_both a0 b0];exact be
 have h0:¬Builtin.List.listTooLong (q.toArray.size*k.toNat)=HQ:=by
  rw[Tz e0];exact be
 have i0:List.foldl (λj0 k0=>j0++k0) #[] (List.replicate (if q.toArray.isEmpty=HQ then 0 else k.toNat) q.toArray)=(List.replicate k.toNat q).flatten.toArray:=by
  have l0:=λm=>by
   have:=Sz q m [];rw[List.nil_append]at this;exact this
  rw[l0];cases q with
  |nil=>simp
  |cons a p0=>rw[Ba (by simp)]
 refine wpAny_binaryOp_repeat_ref (by decide) ⟨_,e,rfl⟩ (λs'=>typeIs_int s' k t) noFill_list_mul F.fills_int_mul F.slot_int_rmul repeat_list F.slot_int_index.lookup
  (HR F.slot_int_rmul (typeIs_int s k t) F.entry_int_rmul (F.args_int_rmul_2 _ _) (int___rmul___int_list k t l q.toArray n)
   ⟨e,rfl,⟨_,e,rfl⟩,HR F.slot_list_mul ⟨_,e,rfl⟩ F.entry_list_mul (F.args_list_mul_2 _ _) (AutoListH.list___mul___list_int_3 l q.toArray n k t g0 f0 h0) ⟨e,?_⟩⟩)
 rw[i0];exact⟨.ref _,_,I.nq (r.rep k.toNat) (by rw[aG,Nat.mul_comm];exact hz),rfl,c0 _ I.fresh⟩
end
section
variable{κ:Type}[DecidableEq κ]
def kb(kvs:List (κ×V))(k:κ):Option V:=(kvs.find? λq=>decide (q.1=k)).map (·.2)
def nb(kvs:List (κ×V))(k:κ)(v:V):List (κ×V):=
 if(kvs.any λq=>decide (q.1=k))=HQ then kvs.map (λq=>if q.1=k then(q.1,v)else q)else kvs++[(k,v)]
def Om(kvs:List (κ×V))(k:κ):List (κ×V):=kvs.filter λq=>decide (q.1≠k)
def og{k:κ}(e:p.1=k):kb (p::r) k=some p.2:=by simp[kb,ce,e]
def Of{k:κ}(e:¬p.1=k):kb (p::r) k=kb r k:=by simp[kb,ce,e]
def oq(k:κ):∀kvs:List (κ×V),(kvs.any λq=>decide (q.1=k))=(kb kvs k).isSome
 |[]=>rfl
 |p::r=>by
  rw[Xn];by_cases e:p.1=k
  ·simp only[og e,Ec e,Bool.true_or,Option.isSome_some]
  ·rw[Of e,Eg e,Bool.false_or];exact oq k r
def Xz(k j:κ)(y:V):∀kvs:List (κ×V),kb (kvs.map λq=>if q.1=k then(q.1,y)else q) j=(kb kvs j).map λx=>if j=k then y else x
 |[]=>rfl
 |p::r=>by
  have J:=Xz k j y r;rw[qd];by_cases h:p.1=k
  ·rw[Ca h];by_cases e:p.1=j
   ·rw[og (p:=(p.1,y)) e,og e,Option.map_some,Ca (e.symm.trans h)]
   ·rw[Of (p:=(p.1,y)) e,Of e,J]
  ·rw[Ba h];by_cases e:p.1=j
   ·rw[og e,og e,Option.map_some,Ba (by grind)]
   ·rw[Of e,Of e,J]
def Yz(k j:κ)(y:V):∀kvs:List (κ×V),kb kvs k=none->kb (kvs++[(k,y)]) j=if j=k then some y else kb kvs j
 |[],_=>by
  by_cases e:k=j
  ·rw[Ca e.symm];exact og e
  ·rw[Ba (λz=>e z.symm)];exact Of e
 |p::r,q=>by
  rw[List.cons_append];have hk:¬p.1=k:=λz=>by rw[og z]at q;cases q
  rw[Of hk]at q;have J:=Yz k j y r q;by_cases e:p.1=j
  ·rw[og e,og e,Ba (by grind)]
  ·rw[Of e,Of e,J]
def bG(kvs:List (κ×V))(k j:κ)(y:V):kb (nb kvs k y) j=if j=k then some y else kb kvs j:=by
 unfold nb;by_cases a:(kvs.any λq=>decide (q.1=k))=HQ
 ·rw[Ca a,Xz];rw[oq]at a;by_cases e:j=k
  ·obtain⟨x,J⟩:=Option.isSome_iff_exists.mp a
   grind
  ·rw[Ba e];cases kb kvs j with
   |none=>rfl
   |some x=>rw[Option.map_some,Ba e]
 ·rw[Ba a];refine Yz k j y kvs ?_;rw[oq]at a;cases O:kb kvs k with
  |none=>rfl
  |some x=>grind
def pq(kvs:List (κ×V))(k:κ)(v:V):(nb kvs k v).length<=kvs.length+1:=by
 unfold nb
 grind
def bd.Qd(r:bd o u):o.isSome=u.isSome:=by
 cases o with
 |none=>cases u with
  |none=>rfl
  |some _=>exact(r).elim
 |some _=>cases u with
  |none=>exact(r).elim
  |some _=>rfl
def bd.getD(r:bd o u)(q:Sa d d'):Sa (o.getD d) (u.getD d'):=by
 cases o with
 |none=>cases u with
  |none=>exact q
  |some _=>exact(r).elim
 |some _=>cases u with
  |none=>exact(r).elim
  |some _=>exact r
def KV.val(r:KV kvs vs)(k:κ):bd (kb kvs k) (jS vs k):=by
 induction r with
 |nil=>exact True.intro
 |@cons p q ps J h t Y=>
  obtain⟨a0,b0⟩:=h;by_cases e:p.1=k
  ·have O:=a0.symm.trans e;have b:jS (q::J) k=some q.2:=by simp[jS,ce,O]
   rw[og e,b];exact b0
  ·have O:¬q.1=k:=by grind
   have b:jS (q::J) k=jS J k:=by simp[jS,ce,O]
   rw[Of e,b];exact Y
def KV.any(r:KV kvs vs)(k:κ):(kvs.any λq=>decide (q.1=k))=vs.any λq=>decide (q.1=k):=by
 induction r with
 |nil=>rfl
 |cons h t J=>rw[Xn,Xn,J,h.1]
def KV.Pm(r:KV kvs vs)(k:κ)(O:Sa y u):
  KV (kvs.map λq=>if q.1=k then(q.1,y)else q) (vs.map λq=>if q.1=k then(q.1,u)else q):=by
 unfold KV at r⊢;induction r with
 |nil=>exact .nil
 |@cons p Y ps a0 h t J=>
  rw[qd,qd];refine .cons ?_ J
  grind
def KV.put(r:KV kvs vs)(k:κ)(q:Sa y u):KV (nb kvs k y) (pS vs k u):=by
 unfold nb pS;rw[r.any k];by_cases e:(vs.any λJ=>decide (J.1=k))=HQ
 ·rw[Ca e,Ca e];exact r.Pm k q
 ·rw[Ba e,Ba e];exact Paired.snoc r ⟨rfl,q⟩
def KV.drop(r:KV kvs vs)(k:κ):KV (Om kvs k) (without vs k):=by
 unfold KV at r⊢;unfold Om without;induction r with
 |nil=>exact .nil
 |@cons p q ps b0 h t J=>
  obtain⟨O,Y⟩:=h;rw[Fn,Fn];by_cases e:p.1=k
  ·grind
  ·have a0:¬q.1=k:=by grind
   have a:decide (p.1≠k)=HQ:=by simp[e]
   have b:decide (q.1≠k)=HQ:=by simp[a0]
   rw[Ca a,Ca b];exact .cons ⟨O,Y⟩ J
def KV.keys{kvs:List (κ×V)}{vs:List (κ×EQ)}(r:KV kvs vs):kvs.map (·.1)=vs.map (·.1):=by
 induction r with
 |nil=>rfl
 |cons h t q=>rw[qd,qd,q,h.1]
def KV.length{vs:List (κ×EQ)}(r:KV kvs vs):kvs.length=vs.length:=dm r
def cG(kvs:List (κ×V))(k:κ):(Om kvs k).length<=kvs.length:=um _ _
end
def Lh(r:Sa (kV k) u):(Qb P w).is k u=HQ:=by
 cases k with
 |inl i=>obtain⟨t,e⟩:=(r);subst e;exact iE P w i t
 |inr x=>obtain⟨t,e⟩:=(r);subst e;exact jE P w x t
def Zz:∀{ks:List Key}{us:List EQ},Oa (ks.map kV) us->ItemsAre (Qb P w) ks us
 |[],_,r=>by rw[List.map_nil]at r;cases r;exact .nil
 |k::ks,_,r=>by
  cases r with
  |cons h t=>exact .cons (Lh h) (Zz t)
abbrev KT(H:Hp):List (List Key×V)->List (List Key×FQ×EQ)->Prop:=Paired λp q=>p.1=q.1/\H q.2.1=some (.tup (p.1.map kV))/\Sa p.2 q.2.2
def KT.val{H:Hp}{kvs:List (List Key×V)}{xs:List (List Key×FQ×EQ)}(r:KT H kvs xs)(k:List Key):bd (kb kvs k) ((US xs k).map (·.2)):=by
 induction r with
 |nil=>exact True.intro
 |@cons p q ps J h t Y=>
  obtain⟨a0,_,b0⟩:=h;by_cases e:p.1=k
  ·have O:=a0.symm.trans e;have b:US (q::J) k=some q.2:=by simp[US,ce,O]
   rw[og e,b];exact b0
  ·have O:¬q.1=k:=by grind
   have b:US (q::J) k=US J k:=by simp[US,ce,O]
   rw[Of e,b];exact Y
def KT.Pm(r:KT H kvs xs)(k:List Key)(O:Sa y u):
  KT H (kvs.map λq=>if q.1=k then(q.1,y)else q) (xs.map (putAt k u)):=by
 induction r with
 |nil=>exact .nil
 |@cons p Y ps a0 h t J=>
  rw[qd,qd];refine .cons ?_ J;obtain⟨b0,c0,d0⟩:=h;unfold putAt
  grind
def KT.put(r:KT H kvs xs)(k:List Key)(O:H b=some (.tup (k.map kV)))(J:Sa y u):
  KT H (nb kvs k y) (storedH xs k b u):=by
 have e:(kvs.any λY=>decide (Y.1=k))=(US xs k).isSome:=by
  rw[oq,(r.val k).Qd,Option.isSome_map]
 unfold nb storedH;rw[e];by_cases q:(US xs k).isSome=HQ
 ·rw[Ca q,Ca q];exact r.Pm k J
 ·rw[Ba q,Ba q];exact Paired.snoc r ⟨rfl,O,J⟩
def KT.keeps(r:KT H kvs xs)(q:∀b ys,H b=some (.tup ys)->H' b=some (.tup ys)):KT H' kvs xs:=
 Paired.ib r (by grind)
section
variable{P:MQ}{w:PQ}{H:Hp}{h:NQ}{a:FQ}
def aA(ok:fc P w H h)(e:Rd H a u):Fb P w H h a u:=e.ok ok
def aj(ok:fc P w H h)(e:Rd H a (.dK kvs)):kvs.length<=JQ/\(a==fR)=IQ/\∃vs,KV kvs vs/\h.DictOf (Qb P w) a vs:=
 show Fb P w H h a (.dK kvs)from aA ok e
def Zk(ok:fc P w H h)(e:H a=some (.dK kvs)):kvs.length<=JQ/\(a==fR)=IQ/\∃vs,KV kvs vs/\h.DictOf (Qb P w) a vs:=aj ok (.inl e)
def qq(ok:fc P w H h)(e:H a=some (.tup (ks.map kV))):(QR (Qb P w)).is h ks a:=by
 obtain⟨_,q,r,o,J,O,n,Y⟩:=(ok a _ e);exact nx2 o q.toArray n J O Y (by simpa using Zz r)
def so(ok:fc P w H h)(e:Rd H a (.dT kvs)):kvs.length<=JQ/\(a==fR)=IQ/\
  ∃xs,KT H kvs xs/\h.DictOfH (QR (Qb P w)) a xs:=by
 obtain⟨z,y,xs,r,o,J,ep,O,Y,a0,b0,c0⟩:=(show Fb P w H h a (.dT kvs)from aA ok e);refine⟨z,y,nx18 xs r o (nx12 J ep O Y a0 b0 (λx hx=>?_) c0)⟩;have all:∀{l:List (List Key×V)}{m:List (List Key×FQ×EQ)},KT H l m->∀x∈m,(QR (Qb P w)).is h x.1 x.2.1:=by
  intro l m q;induction q with
  |nil=>grind
  |@cons p q ps e0 f0 t d0=>
   intro x hx;rcases Mb.mp hx with e|hx
   ·subst e;exact qq ok (by grind)
   ·exact d0 x hx
 exact all r x hx
def dG(ok:fc P w H h)(e:H a=some (.dT kvs)):kvs.length<=JQ/\(a==fR)=IQ/\
  ∃xs,KT H kvs xs/\h.DictOfH (QR (Qb P w)) a xs:=so ok (.inl e)
end
def uf(H:Hp)(a:FQ)(y:V)(r:Option V):Prop:=
 (∃kvs k,Rd H a (.dK kvs)/\y=kV k/\r=kb kvs k)\/∃kvs k b,Rd H a (.dT kvs)/\y=.ref b/\H b=some (.tup (k.map kV))/\r=kb kvs k
def ue(H:Hp)(a:FQ)(y v:V)(H':Hp):Prop:=
 (∃kvs k,H a=some (.dK kvs)/\y=kV k/\kvs.length<JQ/\H'=upd H a (.dK (nb kvs k v)))\/
 ∃kvs k b,H a=some (.dT kvs)/\y=.ref b/\H b=some (.tup (k.map kV))/\kvs.length<JQ/\H'=upd H a (.dT (nb kvs k v))
def uf.k{k:Key}(e:H a=some (.dK kvs)):uf H a (kV k) (kb kvs k):=.inl ⟨kvs,k,.inl e,rfl,rfl⟩
def ue.k{k:Key}(e:H a=some (.dK kvs))(q:kvs.length<JQ):ue H a (kV k) v (upd H a (.dK (nb kvs k v))):=.inl (nx11 kvs k e rfl q rfl)
section
variable{X:Cx}{pins:List (FQ×bR)}{σ:St}{H:Hp}{s:GQ}{a:FQ}{y v:V}{u r:EQ}{o:Option V}{A:OQ}{E:EQ->GQ->Prop}
def Inv.big(I:Inv X pins σ H s):fR<s.heap.objs.size:=by
 have h:=(I.mod.glob.keeps I.bk).lt;exact Nat.lt_trans (by decide) h
def eG(c0:A.units+1<yR)(I:Inv X pins σ H s)(g:uf H a y (some v))(b0:Sa y u)(h:∀q s',Inv X pins σ H s'->Sa v q->Q q s'):
  wpAny (KQ X.prog X.w) A (SR (.ref a) u) Q E s:=by
 rcases g with⟨kvs,k,e,J,l⟩|⟨kvs,k,b,e,J,d0,l⟩
 ·subst J;obtain⟨z,e0,vs,O,dd⟩:=aj I.za e;obtain⟨q,Y,a0⟩:=bd.some_of (by rw[l];exact O.val k);exact wpAny_getItem_of (Lh b0) dd.mapOf Y (h q _ (I.tok _) a0)
 ·subst J;cases(b0);obtain⟨z,e0,xs,O,dd⟩:=so I.za e;obtain⟨q,Y,a0⟩:=bd.some_of (v:=v) (by rw[l];exact O.val k);obtain⟨p,f0,g0⟩:=xh.mp Y;refine wpAny_getItem_heap (bS c0) (qq I.za d0) dd f0 ?_;rw[g0];exact h q _ (I.tok _) a0
def fG(b0:A.units+1<yR)(I:Inv X pins σ H s)(g:uf H a y o)(Y:Sa y u)(h:∀s',Inv X pins σ H s'->Q (.bool (!o.isSome)) s'):
  wpAny (KQ X.prog X.w) A (ZQ .NotIn u (.ref a)) Q E s:=by
 rcases g with⟨kvs,k,e,q,l⟩|⟨kvs,k,b,e,q,c0,l⟩
 ·subst q;obtain⟨z,J,vs,O,dd⟩:=aj I.za e;refine wpAny_notIn_of (Lh Y) J dd.mapOf ?_;rw[<-(O.val k).Qd,<-l];exact h _ (I.tok _)
 ·subst q;cases(Y);obtain⟨z,J,xs,O,dd⟩:=so I.za e;refine wpAny_notIn_heap (bS b0) (qq I.za c0) J dd ?_;have a0:=(O.val k).Qd;rw[Option.isSome_map]at a0;rw[<-a0,<-l];exact h _ (I.tok _)
def uo(I:Inv X pins σ H s)(J:Rp (H a))(O:Heap.SameBut a s.heap h')(Y:∃q,h'.get? a=some q)(new:Fb X.prog X.w (upd H a ob) h' a ob):
  Inv X pins σ (upd H a ob) {s with heap:=h',toks:=t'}:=
 I.write J (.inl rfl) (λb q a0 z=>(O.2 b a0).trans z) Y new
def Qm(z:kvs.length<=JQ)(q:(a==fR)=IQ)(J:KV kvs vs)(dd:h'.DictOf (Qb P w) a vs):
  Fb P w H' h' a (.dK kvs):=⟨z,q,vs,J,dd⟩
def gG(i0:A.units+1<yR)(I:Inv X pins σ H s)(g:ue H a y v H')(f0:Sa y u)(g0:Sa v r)(h:∀s',Inv X pins σ H' s'->Q () s'):
  wpAny (KQ X.prog X.w) A (setItem (.ref a) u r) Q E s:=by
 rcases g with⟨kvs,k,e,a0,l,b0⟩|⟨kvs,k,b,e,a0,h0,l,b0⟩
 ·subst a0 b0;obtain⟨z,c0,vs,J,dd⟩:=Zk I.za e;have hz:vs.length<=JQ:=by rw[<-J.length];exact z
  have d0:(nb kvs k v).length<=JQ:=by have:=pq kvs k v;lia
  refine wpAny_setItem_pairs (Lh f0) dd λh' O e0=>h _ ?_
  have j0:∃q,h'.get? a=some q:=let⟨q,_,_,Y,_⟩:=O;⟨q,Y⟩
  exact uo I (by rw[e];exact True.intro) e0 j0 (Qm d0 c0 (J.put k g0) O)
 ·subst a0 b0;cases(f0);obtain⟨z,c0,xs,J,dd⟩:=dG I.za e;have hz:xs.length<=JQ:=by rw[<-dm J];exact z
  have d0:(nb kvs k v).length<=JQ:=by have:=pq kvs k v;lia
  refine wpAny_setItem_heap (bS i0) (qq I.za h0) dd λh' O e0=>h _ ?_
  obtain⟨q,k0,ep,Y,l0,n0,o0,_,p0⟩:=O;refine uo I (by rw[e];exact True.intro) e0 ⟨q,Y⟩ (⟨d0,c0,nx18 _ ((J.put k h0 g0).keeps λc ys q0=>?_) q (nx4 k0 ep Y l0 n0 o0 p0)⟩);rw[ka (by grind)];exact q0
end
section
variable{X:Cx}{pins:List (FQ×bR)}{σ:St}{H:Hp}{s:GQ}{a:FQ}{kvs:List (Key×V)}{k:Key}{u:EQ}{A:OQ}{E:EQ->GQ->Prop}
def hG(I:Inv X pins σ H s)(e:H a=some (.dK kvs))(O:Sa (kV k) u)(l:kb kvs k=some v)(a0:more=[]\/∃x,more=[x])
  (h:∀J s',Inv X pins σ (upd H a (.dK (Om kvs k))) s'->Sa v J->Q J s'):wpAny (KQ X.prog X.w) A (call (.builtin "dict.pop") (.ref a::u::more)) Q E s:=by
 obtain⟨z,c0,vs,Y,dd⟩:=Zk I.za e;obtain⟨J,d0,e0⟩:=bd.some_of (by rw[<-l];exact Y.val k);have f0:(keyPart u).isSome=HQ:=by
  cases k with
  |inl i=>obtain⟨t,q⟩:=(O);subst q;rfl
  |inr x=>obtain⟨t,q⟩:=(O);subst q;rfl
 have g0:KS "dict.pop" ⟨.ref a::u::more,[]⟩:=by
  rcases a0 with q|⟨x,q⟩
  ·subst q;exact F.args_dict_pop_2 _ _
  ·subst q;exact F.args_dict_pop_3 _ _ _
 refine gm F.slot_dict_pop dd.typeIs F.entry_dict_pop g0 (meets_dict_pop_there (Qb X.prog X.w) a (Lh O) more a0 f0)
  (nx11 vs J dd (by rw[<-Y.length];exact z) d0 λh' b0 h0=>h J _ ?_ e0)
 have i0:∃q,h'.get? a=some q:=let⟨q,_,_,j0,_⟩:=b0;⟨q,j0⟩
 exact uo I (by rw[e];exact True.intro) h0 i0 (Qm (qc (cG kvs k) z) c0 (Y.drop k) b0)
def iG(I:Inv X pins σ H s)(e:H a=some (.dK kvs))(q:Sa (kV k) u)(l:kb kvs k=none)(h:∀s',Inv X pins σ H s'->Q r s'):
  wpAny (KQ X.prog X.w) A (call (.builtin "dict.pop") [.ref a,u,r]) Q E s:=by
 obtain⟨z,O,vs,Y,dd⟩:=Zk I.za e;have a0:=bd.none_of (by rw[<-l];exact Y.val k);have b0:(keyPart u).isSome=HQ:=by
  cases k with
  |inl i=>obtain⟨t,J⟩:=(q);subst J;rfl
  |inr x=>obtain⟨t,J⟩:=(q);subst J;rfl
 exact gm F.slot_dict_pop dd.typeIs F.entry_dict_pop (F.args_dict_pop_3 _ _ _) (meets_dict_pop_default (Qb X.prog X.w) a (Lh q) O b0 r) ⟨vs,dd,a0,h _ (I.tok _)⟩
end
def fw(i:SQ):Prop:=∀ov q,tS i IQ ov q=operate [ov,q] (SR ov q)
def jG{T id:String}
  (c0:aS (.type T) "__getitem__"=pure (some (.builtin id)))(d0:fw J)
  (h:wpAny (KQ prog w) A (RQ Y env) (λo a0=>wpAny (KQ prog w) A (RQ J env) (λi q=>q.TypeIs o T/\wpAny (KQ prog w) A (SR o i) Q E q) E a0) E s):
  wpAny (KQ prog w) A (RQ (.Subscript Y J h0) env) Q E s:=by
 refine Subscript_ (Kc h (λo a0 e0=>Kc e0 (λi q O=>?_) λ_ _ x=>x) λ_ _ x=>x);obtain⟨f0,O⟩:=O;refine ba ?_;refine ba (wpAny_specialOf f0 c0 ?_);have fin:wpAny (KQ prog w) A (tS J IQ o i) (λr b0=>wpAny (KQ prog w) A (letTemporaryGo Y o r>>=λ_=>pure r) Q E b0) E q:=by
  rw[d0 o i];exact wpAny_operating (Kc O (λr b0 g0=>ba (wpAny_letTemporaryGo (Aa g0))) λ_ _ x=>x)
 first
  |exact Aa (ba fin)
  |exact ba (Aa (ba fin))
  |exact ba fin
def kG{q:St}(I:Inv X J q H s)(g:uf H a y o):s.TypeIs (.ref a) "dict":=by
 rcases g with⟨kvs,k,e,_,_⟩|⟨kvs,k,b,e,_,_,_⟩
 ·obtain⟨_,_,vs,_,dd⟩:=aj I.za e;exact dd.typeIs
 ·obtain⟨_,_,xs,_,dd⟩:=so I.za e;exact dd.typeIs
inductive lG(Q:VK)(x y:V)(H2:Hp):Prop|mk(a v)(_:x=.ref a)(_:uf H2 a y (some v))(_:Q v H2)
def bA(td J:TE):TE:=λq H Q=>td q H λx O=>J q O (lG Q x)
inductive mG(Q:VK)(y x:V)(H2:Hp):Prop|mk(a o)(_:x=.ref a)(_:uf H2 a y o)(_:Q (.bl (!o.isSome)) H2)
def nG(J td:TE):TE:=λq H Q=>J q H λy O=>td q O (mG Q y)
inductive oG(D:Se)(σ:L2.St)(v x y:V)(H3:Hp):Prop|mk(a H4)(_:x=.ref a)(_:ue H3 a y v H4)(_:D.nx σ H4)
def pG(td J tv:TE):TS:=λD q H=>tv q H λv O=>td q O λx Y=>J q Y (oG D q v x)
section
variable{X:Cx}{o i e value:SQ}{pos pos' cq:jR}{td ty tv:TE}
def qG(Y:X.A.units+1<yR)(ho:PE X o td)(hi:PE X i ty)(a0:fw i):PE X (.Subscript o i pos) (bA td ty):=by
 constructor;intro q s J H Q I h;refine jG F.slot_dict_getitem.lookup a0 (Fa (ho q s J H _ I h) ?_);rintro u s1⟨x,b0,c0,d0,e0⟩;refine Fa (hi q s1 J b0 _ c0 e0) ?_;rintro k0 l0⟨y,f0,O,g0,a,v,ex,g,h0⟩;subst ex;obtain rfl:u=Value.ref a:=d0;exact⟨kG O g,eG Y O g g0 λn0 o0 i0 j0=>⟨v,f0,i0,j0,h0⟩⟩
def rG(O:X.A.units+1<yR)(hi:PE X i ty)(ho:PE X o td):PC X .NotIn i o (nG ty td):=by
 constructor;intro q s J H Q I h;refine Fa (hi q s J H _ I h) ?_;rintro i0 s1⟨y,Y,a0,b0,c0⟩;refine Fa (ho q s1 J Y _ a0 c0) ?_;rintro u j0⟨x,d0,e0,f0,a,ov,ex,g,g0⟩;subst ex;obtain rfl:u=Value.ref a:=f0;exact fG O e0 g b0 λk0 h0=>⟨.bl (!ov.isSome),d0,h0,rfl,g0⟩
def We(O:X.A.units+1<yR)(ho:PE X o td)(hi:PE X i ty)(hv:PE X value tv)(Y:kR value (some (.Subscript o i pos')) pos.line X.env=pure IQ):
  PS X (.Assign [.Subscript o i pos'] value pos) (pG td ty tv):=by
 constructor;intro J s q H D I h;refine wpAny_Assign_Subscript (Fa (hv J s q H _ I h) ?_) Y;rintro r s1⟨v,a0,b0,c0,d0⟩;refine Fa (ho J s1 q a0 _ b0 d0) ?_;rintro u e0⟨x,f0,g0,h0,i0⟩;refine Fa (hi J e0 q f0 _ g0 i0) ?_;rintro o0 p0⟨y,q0,j0,k0,a,H4,ex,g,l0⟩;subst ex;obtain rfl:u=Value.ref a:=h0;exact gG O j0 g k0 c0 λr0 n0=>⟨q,H4,n0,l0⟩
end
def cA(h:NQ)(q:fR<h.objs.size):Fb P w H (h.push {cls:=.type "dict",data:=.dict #[]}) h.objs.size (.dK []):=
 ⟨wc _,by grind,[],.nil,Heap.DictOf.new h⟩
def sG:TE:=λ_ H Q=>∀p,H p=none->Q (.ref p) (upd H p (.dK []))
section
variable{X:Cx}{pos:jR}
def Rj:PE X (.Dict [] [] pos) sG:=⟨λJ s O H Q I h=>
 wpAny_Dict_empty ⟨.ref s.heap.objs.size,_,I.laid (λ_ _ q=>Xa _ q) (Ra _) (cA s.heap I.big),rfl,h _ (I.za.fresh (Ra _))⟩⟩
end
def gw:List (TE×TE)->St->Hp->(List (V×V)->Hp->Prop)->Prop
 |[],_,H,Q=>Q [] H
 |(J,tv)::r,q,H,Q=>J q H λx O=>tv q O λy Y=>gw r q Y λps a0=>Q ((x,y)::ps) a0
abbrev VV:List (V×V)->List (EQ×EQ)->Prop:=Paired λp q=>Sa p.1 q.1/\Sa p.2 q.2
def As(X:Cx)(O:jR)(keys:List (Option SQ))(Y:List SQ)(a0:List (TE×TE)):Prop:=
 ∀(J:List (FQ×bR))(s:GQ)(q:St)(H:Hp)(Q:List (V×V)->Hp->Prop),Inv X J q H s->gw a0 q H Q->
  wpAny (KQ X.prog X.w) X.A (evalPairs (pairTrees keys Y X.env O)) (λvs s'=>∃ps H',Inv X J q H' s'/\VV ps vs/\Q ps H') X.xe s
def hw:As X q [] [] []:=λJ s O H Q I h=>pairTrees_nil_walk ⟨[],H,I,.nil,h⟩
def Pf(hk:PE X k O)(hv:PE X v tv)(Y:As X a0 ks vs b0):
  As X a0 (some k::ks) (v::vs) ((O,tv)::b0):=λq s J H Q I h=>
 pairTrees_cons_walk (Fa (hk q s J H _ I h) λu s1⟨x,c0,d0,e0,f0⟩=>Fa (hv q s1 J c0 _ d0 f0) λq0 g0⟨y,h0,i0,j0,k0⟩=>
  Fa (Y q g0 J h0 _ i0 k0) (by rintro r0 s0⟨ps,l0,n0,o0,p0⟩;exact⟨(x,y)::ps,l0,n0,.cons ⟨e0,j0⟩ o0,p0⟩))
def bj(kvs more:List (Key×V)):List (Key×V):=more.foldl (λJ q=>nb J q.1 q.2) kvs
def KV.merge:∀{more:List (Key×V)}{J:List (Key×EQ)}{kvs:List (Key×V)}{vs:List (Key×EQ)},KV more J->KV kvs vs->KV (bj kvs more) (merged vs J):=by
 intro more J kvs vs r;induction r generalizing kvs vs with
 |nil=>intro q;exact q
 |@cons p q ps a0 h t O=>
  intro Y;have e:KV (nb kvs p.1 p.2) (pS vs q.1 q.2):=by
   have:=Y.put p.1 h.2;rw[<-h.1];exact this
  exact O e
def dA:∀(more kvs:List (Key×V)),(bj kvs more).length<=kvs.length+more.length
 |[],kvs=>by show kvs.length<=kvs.length+0;lia
 |p::r,kvs=>by
  have q:=dA r (nb kvs p.1 p.2);have J:=pq kvs p.1 p.2;show(bj (nb kvs p.1 p.2) r).length<=_;rw[Hk];lia
def eA:∀{kvs:List (Key×V)}{J:List (EQ×EQ)},VV (kvs.map λO=>(kV O.1,O.2)) J->∃q,Carries (Qb P w) J q/\KV kvs q
 |[],_,r=>by rw[List.map_nil]at r;cases r;exact⟨[],True.intro,.nil⟩
 |p::kvs,_,r=>by
  cases r with
  |@cons a b as bs h t=>
   obtain⟨q,c,Y⟩:=eA t;obtain⟨b0,a0⟩:=b;exact⟨(p.1,a0)::q,⟨Lh h.1,rfl,c⟩,.cons ⟨rfl,h.2⟩ Y⟩
def tG(O:List (TE×TE)):TE:=λY H Q=>∀p,H p=none->gw O Y (upd H p (.dK [])) λps q=>q p=some (.dK [])/\∃kvs:List (Key×V),ps=kvs.map (λJ=>(kV J.1,J.2))/\kvs.length<=15/\Q (.ref p) (upd q p (.dK (bj [] kvs)))
def iw{X:Cx}{O:jR}{keys:List (Option SQ)}{J:List SQ}{Y:List (TE×TE)}(h:As X O keys J Y)(c0:keys.all (·.isSome)=HQ)(d0:keys.length=J.length)(e0:keys≠[])
  (f0:keys.length<=15):PE X (.Dict keys J O) (tG Y):=by
 constructor;intro g0 s h0 H Q I q;have i0:=I.za.fresh (Ra s.heap.objs.size);have j0:=I.laid (t':=s.toks) (λ_ _ q=>Xa _ q) (Ra _) (cA s.heap I.big);refine wpAny_Dict_walk (knd:=Qb X.prog X.w) c0 d0 e0 f0 (Fa (h g0 _ h0 _ _ j0 (q _ i0)) ?_);rintro v0 w0⟨ps,x0,a0,k0,e,kvs,ep,lk,l0⟩;subst ep;obtain⟨n0,c,o0⟩:=eA k0;obtain⟨z,p0,y0,q0,dd⟩:=Zk a0.za e;cases q0;refine⟨n0,c,dd,λh' b0 r0=>⟨.ref s.heap.objs.size,_,?_,rfl,l0⟩⟩;have hz:(bj [] kvs).length<=JQ:=by
  have s0:=dA kvs [];rw[List.length_nil]at s0;rw[Fh];lia
 have t0:∃q,h'.get? s.heap.objs.size=some q:=let⟨q,_,_,u0,_⟩:=b0;⟨q,u0⟩
 exact uo a0 (by rw[e];exact True.intro) r0 t0 (Qm hz p0 (o0.merge .nil) b0)
structure M2(X:Cx)(o:SQ)(m:Str)(apos:jR)(e f:SQ)(Pb:jR):Prop where
 base:YQ o m X.env (RQ o X.env)=RQ o X.env
 Ad:((VQ Pb (LQ [e,f] X.env)).all (λx=>!x.1)&&(dR Pb (TQ [] X.env)).all (λx=>x.1.isSome)
  &&decide (([e,f]:List SQ).length+([]:List TR).length+(if([]:List TR).isEmpty then 0 else 1)<30))=HQ
 line:(apos.endLine==Pb.line)=HQ
 trees:VQ Pb (LQ [e,f] X.env)=[(IQ,RQ e X.env),(IQ,RQ f X.env)]
def Bs(H:Hp)(a:FQ):Prop:=(∃kvs,Rd H a (.dK kvs))\/∃kvs,Rd H a (.dT kvs)
def Cs{a0:St}(I:Inv X b0 a0 H s)(d:Bs H a):
  s.TypeIs (.ref a) "dict"/\(∀b,Value.ref a=.ref b->∃ob,s.heap.get? b=some ob/\ob.dict=none)/\(a==fR)=IQ:=by
 rcases d with⟨kvs,e⟩|⟨kvs,e⟩
 ·obtain⟨_,q,vs,_,dd⟩:=aj I.za e;refine⟨dd.typeIs,λb J=>?_,q⟩;cases J;obtain⟨ob,_,_,O,Y,_⟩:=dd;exact⟨ob,O,Y.2.1⟩
 ·obtain⟨_,q,xs,_,dd⟩:=so I.za e;refine⟨dd.typeIs,λb J=>?_,q⟩;cases J;obtain⟨ob,_,_,O,Y,_⟩:=dd;exact⟨ob,O,Y.2.1⟩
section
variable{X:Cx}{pins:List (FQ×bR)}{σ:St}{H:Hp}{s:GQ}{a:FQ}{y d:V}{u r:EQ}{o:Option V}{A:OQ}{E:EQ->GQ->Prop}
def uG(d0:A.units+1<yR)(I:Inv X pins σ H s)(g:uf H a y o)(Y:Sa y u)(a0:Sa d r)(h:∀b0 s',Inv X pins σ H s'->Sa (o.getD d) b0->Q b0 s'):
  wpAny (KQ X.prog X.w) A (call (.builtin "dict.get") [.ref a,u,r]) Q E s:=by
 rcases g with⟨kvs,k,e,q,l⟩|⟨kvs,k,b,e,q,c0,l⟩
 ·subst q;obtain⟨z,J,vs,O,dd⟩:=aj I.za e;refine gm F.slot_dict_get dd.typeIs F.entry_dict_get (F.args_dict_get_3 _ _ _) (meets_dict_get_default (Qb X.prog X.w) a (Lh Y) J r) ⟨_,dd.mapOf,h _ _ (I.tok _) ?_⟩;rw[l];exact(O.val k).getD a0
 ·subst q;cases(Y);obtain⟨z,J,xs,O,dd⟩:=so I.za e;refine gm F.slot_dict_get dd.typeIs F.entry_dict_get (F.args_dict_get_3 _ _ _) (meetsH_dict_get_default (QR (Qb X.prog X.w)) a b J r) (⟨‹_›,nx0 k xs (qq I.za c0) dd (h _ _ (I.tok _) ?_)⟩);rw[l];exact(O.val k).getD a0
end
inductive vG(ty tx:TE)(σ:L2.St)(Q:VK)(x:V)(H1:Hp):Prop|mk(a)(_:x=.ref a)(_:Bs H1 a)(_:ty σ H1 λy H2=>tx σ H2 λz H3=>∃o,uf H3 a y o/\Q (o.getD z) H3)
def wG(td J O:TE):TE:=λq H Q=>td q H (vG J O q Q)
inductive xG(ty tx:TE)(σ:L2.St)(Q:VK)(x:V)(H1:Hp):Prop|mk(a)(_:x=.ref a)(_:Bs H1 a)(_:ty σ H1 λy H2=>tx σ H2 λz H3=>∃kvs k,H3 a=some (.dK kvs)/\y=kV k/\(∀v,kb kvs k=some v->Q v (upd H3 a (.dK (Om kvs k))))/\(kb kvs k=none->Q z H3))
def yG(td J O:TE):TE:=λq H Q=>td q H (xG J O q Q)
section
variable{X:Cx}{o e f:SQ}{apos Pb:jR}{td ty tx:TE}
def rq(Y:X.A.units+1<yR)(ho:PE X o td)(a0:PE X e ty)(b0:PE X f tx)(m:M2 X o "get" apos e f Pb):PE X (.Call (.Attribute o "get" apos) [e,f] [] Pb) (wG td ty tx):=by
 constructor;intro q s J H Q I h;refine iS m.base m.Ad m.line Ap F.slot_dict_get F.type_dict_get (Fa (ho q s J H _ I h) ?_);rintro u s1⟨x,c0,O,d0,a,ex,d,e0⟩;subst ex;obtain rfl:u=Value.ref a:=d0;obtain⟨f0,g0,_⟩:=Cs O d;refine⟨f0,g0,?_⟩;rw[m.trees];refine Yl rfl (Br (Ck (Fa (a0 q s1 J c0 _ O e0) λt0 h0⟨y,i0,j0,k0,l0⟩=>
  Ck (Fa (b0 q h0 J i0 _ j0 l0) λu0 v0⟨z,n0,o0,p0,ov,g,q0⟩=>Mp ?_))))
 exact uG Y o0 g k0 p0 λw0 x0 r0 s0=>⟨_,n0,r0,s0,q0⟩
def fA(ho:PE X o td)(d0:PE X e ty)(e0:PE X f tx)(m:M2 X o "pop" apos e f Pb):PE X (.Call (.Attribute o "pop" apos) [e,f] [] Pb) (yG td ty tx):=by
 constructor;intro q s J H Q I h;refine iS m.base m.Ad m.line Ap F.slot_dict_pop F.type_dict_pop (Fa (ho q s J H _ I h) ?_);rintro u s1⟨x,f0,Y,g0,a,ex,d,h0⟩;subst ex;obtain rfl:u=Value.ref a:=g0;obtain⟨i0,j0,_⟩:=Cs Y d;refine⟨i0,j0,?_⟩;rw[m.trees];refine Yl rfl (Br (Ck (Fa (d0 q s1 J f0 _ Y h0) λw0 k0⟨y,l0,n0,a0,o0⟩=>
  Ck (Fa (e0 q k0 J l0 _ n0 o0) λx0 y0⟨z,p0,b0,q0,kvs,k,c0,r0,s0,t0⟩=>Mp ?_))))
 subst r0;cases l:kb kvs k with
 |some v=>exact hG b0 c0 a0 l (by grind) λz0 u0 O v0=>⟨v,_,O,v0,s0 v l⟩
 |none=>exact iG b0 c0 a0 l λu0 O=>⟨z,p0,O,q0,t0 l⟩
end
section
variable{X:Cx}{pins:List (FQ×bR)}{σ:St}{H:Hp}{s:GQ}{a:FQ}{kvs:List (Key×V)}{A:OQ}{E:EQ->GQ->Prop}
def zG(I:Inv X pins σ H s)(e:Rd H a (.dK kvs))(h:∀p s',H p=none->Inv X pins σ (upd H p (.dK kvs)) s'->Q (.ref p) s'):wpAny (KQ X.prog X.w) A (call (.type "dict") [.ref a]) Q E s:=by
 obtain⟨z,O,vs,q,dd⟩:=aj I.za e;refine kt_call_dict O dd (by rw[<-q.length];exact z) λh' Y a0=>?_
 refine h _ _ (I.za.fresh (Ra _)) (I.laid (λb b0 J=>?_) (Ra _) (Qm z (beq_eq_false_iff_ne.mpr (ud (Ob I.big))) q Y));exact(a0.2 b (Ob (pb J))).trans (Xa _ J)
end
end L2
namespace Att
open PySem PySem.W PySem.Calls PyProof.Rows
def AG:∀(q:List Int)(vs:List EQ),WellAll P h vs (q.map WData.int)->UR vs q:=by
 intro q;induction q with
 |nil=>
  intro vs w;cases w;exact .nil
 |cons n q J=>
  intro vs w;cases w with
  |cons a b=>
   cases a;exact .cons _ _ (J _ b)
def BG{l:OpenLaw}(a0:l.most=some n)
  (Y:l.row.toRowW.claim.pre args=HQ)(b0:WellAll P h c0 args):
  ∃a vs q,c0=[Value.ref a]/\args=[WData.list (q.map WData.int)]/\h.get? a=some {cls:=.type "list",data:=.seq vs.toArray}/\UR vs q/\q.length<=n:=by
 have d0:WShape.hasAll [] args [.list .int]=HQ:=(pre_splitW Y).1;have e0:l.pre.holds [] {args:=args}=HQ:=(pre_splitW Y).2;obtain⟨d,r,rfl,f0,g0⟩:=hasAllW_cons d0;obtain rfl:=hasAllW_nil g0;obtain⟨xs,rfl,h0⟩:=hasW_list f0;obtain⟨q,rfl⟩:=items_int h0;have i0:q.length<=n:=by
  have J:(WTm.not (.lt (.lit (.int (n:Int))) (.len (.arg 0)))).holds [] {args:=[.list (q.map .int)]}=HQ:=by
   have J:=(holds_andW e0).1;rw[a0]at J;exact J
  have O:=condW_of J (w_not (w_lt w_lit (w_len_list (w_arg rfl))));first
   |(rw[Ec n0]at O;exact absurd O (by decide))
   |(simp at O;lia)
 cases b0 with
 |cons j0 k0=>
  cases k0;cases j0 with
  |list ho l0=>exact nx8 _ _ q rfl rfl ho (AG q _ l0) i0
def CG(l:OpenLaw)(args:List WData):l.row.toRowW.claim.post args (.bool HQ) args=HQ:=
 postW_of
  (show WShape.has [] (.bool HQ) .bool=HQ by first|rfl|decide|simp[WShape.has,WShape.arms,WShape.armsAll])
  (show(WTm.eq .res (.lit (.bool HQ))).value [] {args:=args,res:=some (.bool HQ),after:=args}=some (.bool (HQ==HQ))from w_eq_bool (w_res rfl) w_lit) rfl
end Att
namespace L2
open PySem PySem.Spec PyProof.Rows
def gA:∀{vs:List EQ}{q:List Int},UR vs q->Oa (q.map V.int) vs
 |_,_,.nil=>.nil
 |_,_,.cons n t h=>.cons ⟨t,rfl⟩ (gA h)
abbrev vQ{K:W.Frag}{h:NQ}(_:K.In h):W.Frag:=K
def xi(s:gR):VS:=match s with
 |.FunctionDef _ a _ _ _ _ _ _ _ _=>a
 |_=>{posonlyargs:=[],args:=[],vararg:=none,kwonlyargs:=[],kw_defaults:=[],kwarg:=none,defaults:=[]}
def Qf(s:gR):List gR:=match s with
 |.FunctionDef _ _ b _ _ _ _ _ _ _=>b
 |_=>[]
def ic(s:gR):nR:=match s with
 |.FunctionDef _ _ _ _ _ _ q _ _ _=>q
 |_=>{kind:=.function,names:=[],isGenerator:=IQ,isCoroutine:=IQ}
abbrev Qc:Kg:=λ_ _ _ _ _ _=>False
abbrev E0:XK:=λ_ _ _=>False
def Mh:ti Qc X E0:=λ_ _ _ _ _ _ _ h=>h.elim
structure qg(K:W.Frag)(x qual:Str)(st:gR)(f:FQ)(fd:XQ):Prop where
 ex:∃(oc:EQ)(od:Option FQ)(kV doc pm:EQ)(an:Option FQ)(hA ct:EQ)(DG:Array (Option EQ)),
  fd=W.fnOf x qual (xi st) (Qf st) (ic st) .none kV doc pm an hA ct/\K.lookup f=some ⟨oc,od,.func fd,DG⟩/\W.codeIn K hA qual=HQ
 kp:W.keepIn K (.ref f)=HQ
section
variable{P:MQ}{w:PQ}{K:W.Frag}{mg:Str->Option EQ}{base:NQ}
def qg.ok{x qual:Str}{st:gR}{f:FQ}{J:XQ}{N ps:List Str}{k:Nat}{sp:Sp}(F:qg K x qual st f J)(S:Zi N ps (ic st))(len:∀vs H Q E,sp vs H Q E->vs.length=ps.length)
  (O:∀(q:EQ)(A:OQ)(outer:List VR)(s:GQ)(H:Hp)(vs:List V)(Q:VK)(E:XK),Wa k (A.deeper (cR qual (ic st) s.heap.objs.size f q))->sp vs H Q E->
   ∃t,oe (Pd Qc P w K mg base N qual (ic st) f q A outer s H E).dh (Qf st) t/\t {nx:=λ_ H'=>Q .ya H',rt:=Q} (start N vs) H):Kb P w K mg base Qc (k+1) f J ps sp:=by
 obtain⟨d0,od,kV,e0,f0,g0,q,ct,h0,rfl,lk,Y⟩:=F.ex;refine Zv lk Y S len λA outer s H vs Q E a0 b0=>?_
 obtain⟨t,h,c0⟩:=O q A outer s H vs Q E a0 b0;exact⟨t,h.dh,c0⟩
def qg.binds{st:gR}(F:qg K x qual st f a0)
  (h:∀(kV q J:EQ)(O:Option FQ)(Y ct:EQ)(us:List EQ),us.length=ps.length->PR (W.fnOf x qual (xi st) (Qf st) (ic st) .none kV q J O Y ct) ⟨us,[]⟩=pure (ps.zip us)):Wc K a0 ps []:=by
 obtain⟨b0,od,kV,q,J,O,Y,ct,c0,rfl,lk,d0⟩:=F.ex;exact .all (by grind)
def Ds{st:gR}{kV J O q ct:EQ}(l:K.lookup f=some ⟨a0,od,.func (W.fnOf x qual (xi st) (Qf st) (ic st) .none kV J O Y q ct),b0⟩)
  (c:W.codeIn K q qual=HQ)(k:W.keepIn K (.ref f)=HQ):qg K x qual st f (W.fnOf x qual (xi st) (Qf st) (ic st) .none kV J O Y q ct):=⟨by grind,k⟩
end
def yc(q:Wa k A):A.units+1<yR:=Dk (by grind) q.units
section
variable{X:Cx}
def pv(i:Nat){q:jR}(J:X.N[i]?=some x:=by rfl)(hv:Zn X.env.scope x:=by first|exact Or.inl rfl|exact Or.inr (Or.inl rfl)|exact Or.inr (Or.inr rfl))(O:(x==("__debug__":Str))=IQ:=by decide)
  (Y:(x==("__classdict__":Str))=IQ:=by decide):PE X (.Name x q) (eo i):=Fv J hv O Y
end
def zc{A B:Prop}(h:B):if IQ=HQ then A else B:=by
 grind
def jd{A B:Prop}(h:A):if HQ=HQ then A else B:=by
 grind
def bb{c A B:Prop}[Decidable c](q:c->A)(J:¬c->B):if c then A else B:=by
 grind
def aa(H H':Hp):Prop:=∀b o,H b=some o->H' b=some o
def aa.refl(H:Hp):aa H H:=λ_ _ h=>h
def aa.trans(a:aa H q)(b:aa q J):aa H J:=λc o h=>b c o (a c o h)
def aa.free(e:aa H H')(h:H' l=Option.none):H l=Option.none:=by
 cases q:H l with
 |none=>rfl
 |some o=>
  rw[e l o q]at h;cases h
def aa.seq{K:W.Frag}(e:aa H H')(h:ja K H a xs):ja K H' a xs:=by
 rcases h with(h|⟨o,h⟩)|h
 ·exact .inl (.inl (e _ _ h))
 ·exact .inl (.inr ⟨o,e _ _ h⟩)
 ·exact .inr h
end L2
namespace My
open PySem PySem.Spec PyProof.Rows L2
section
variable{X:Cx}
def yi:gf X (.builtin "isinstance") (λxs H Q=>∃x t c b,xs=[x,V.ty c]/\hf X.K H x t/\W.kitOne X.K t (.type c)=some b/\Q (.bl b) H):=by
 intro a0 s b0 H xs us Q I r h;obtain⟨x,t,c,b,rfl,ty,e,q⟩:=h;obtain⟨u,c0,rfl,J,O⟩:=aq r;cases O;exact sF I J ty e λY=>⟨.bl b,H,I.tok Y,rfl,q⟩
def jw:gf X (.type "dict") (λxs H Q=>∃a kvs,xs=[V.ref a]/\H a=some (.dK kvs)/\∀p,H p=none->Q (.ref p) (upd H p (.dK kvs))):=by
 intro b0 s c0 H xs us Q I r h;obtain⟨a,kvs,rfl,q,J⟩:=h;obtain⟨u,rfl,O⟩:=Gf r;cases O;exact zG I (.inl q) λp s' Y a0=>⟨.ref p,_,a0,rfl,J p Y⟩
end
section
variable{K:W.Frag}
def iA:W.kitOne K (.type "int") (.type "int")=some HQ:=by
 show(if(Value.type "int"==Value.type "int")=HQ then some HQ else if W.kitMeta "int"=HQ then(UQ "int").map (·.contains (Value.type "int"))else none)=some HQ;decide+kernel
def jA:W.kitOne K (.type "int") (.type "bool")=some IQ:=by
 show(if(Value.type "int"==Value.type "bool")=HQ then some HQ else if W.kitMeta "bool"=HQ then(UQ "int").map (·.contains (Value.type "bool"))else none)=some IQ;decide+kernel
def kA:W.kitOne K (.type "int") (.type "str")=some IQ:=by
 show(if(Value.type "int"==Value.type "str")=HQ then some HQ else if W.kitMeta "str"=HQ then(UQ "int").map (·.contains (Value.type "str"))else none)=some IQ;decide+kernel
def EG:W.kitOne K (.type "str") (.type "int")=some IQ:=by
 show(if(Value.type "str"==Value.type "int")=HQ then some HQ else if W.kitMeta "int"=HQ then(UQ "str").map (·.contains (Value.type "int"))else none)=some IQ;decide+kernel
def lw:W.kitOne K (.type "str") (.type "str")=some HQ:=by
 show(if(Value.type "str"==Value.type "str")=HQ then some HQ else if W.kitMeta "str"=HQ then(UQ "str").map (·.contains (Value.type "str"))else none)=some HQ;decide+kernel
def mw:W.kitOne K (.type "tuple") (.type "tuple")=some HQ:=by
 show(if(Value.type "tuple"==Value.type "tuple")=HQ then some HQ else if W.kitMeta "tuple"=HQ then(UQ "tuple").map (·.contains (Value.type "tuple"))else none)=some HQ;decide+kernel
end
def lA[DecidableEq O]:∀{J:List (O×EQ)},(∀q∈J,∃y,jS Y q.1=some y/\SeqAt.EqAt A s q.2 y HQ)->W.KeqHits A s Y J HQ
 |[],_=>.nil
 |(k,v)::r,h=>by
  obtain⟨y,e,a0⟩:=h (k,v) (by grind);have t:=lA λq m=>h q (Mb.mpr (Or.inr m))
  exact W.KeqHits.hit e a0 t
def FG{q:Type}[DecidableEq q]:∀{kvs:List (q×V)}{k:q}{v:V},(kvs.map (·.1)).Nodup->(k,v)∈kvs->kb kvs k=some v:=by
 intro kvs k v O J;induction kvs with
 |nil=>cases J
 |cons p r Y=>
  obtain⟨b0,a0⟩:=ei.mp O;rcases Mb.mp J with e|e
  ·subst e;exact og rfl
  ·have ne:¬p.1=k:=by grind
   rw[Of ne];exact Y a0 e
def nA[DecidableEq J]{k:J}(h:kb kvs k=some v):∃q∈kvs,q.2=v:=by
 obtain⟨q,e,rfl⟩:=xh.mp h
 grind
def GG:∀{kvs:List (J×V)}{vs:List (J×EQ)},KV kvs vs->∀q∈vs,∃p∈kvs,p.1=q.1/\Sa p.2 q.2:=by
 intro kvs vs r;induction r with
 |nil=>intro q h;cases h
 |@cons p q ps O h t Y=>
  grind
def ze(kvs:List (Key×V)):Prop:=∀q∈kvs,∃n,q.2=V.int n
def ze.nil:ze []:=λ_ h=>nomatch h
def ze.put(h:ze kvs)(k:Key)(n:Int):ze (nb kvs k (.int n)):=by
 intro J m;unfold nb at m;split at m
 ·obtain⟨p,O,e⟩:=Fd.mp m;split at e
  ·grind
  ·subst e;exact h p O
 ·rcases Ah.mp m with q|q
  ·exact h J q
  grind
def al(q:0<=i)(J:i<xs.length):∃v,Ve xs i=some v:=by
 have e:Lj xs.length i=some i.toNat:=by
  unfold Lj;rw[Ca q,Ca J]
 have O:i.toNat<xs.length:=by lia
 refine⟨xs[i.toNat],?_⟩;unfold Ve
 grind
def vo(h:Ve xs i=some v):v∈xs:=by
 obtain⟨j,_,e,_⟩:=hs h;exact Cg e
def Nh{c A B:Prop}[Decidable c](q:c)(h:A):if decide c=HQ then A else B:=by
 grind
def vf{c A B:Prop}[Decidable c](q:¬c)(h:B):if decide c=HQ then A else B:=by
 grind
def _root_.L2.aa.upd(h:H p=none):aa H (upd H p o):=λb u e=>by
 rw[ka (ie e h)];exact e
def _root_.L2.aa.again(s:aa H H')(h:H p=none):aa H (L2.upd H' p o):=λb u e=>by
 rw[ka (ie e h)];exact s b u e
open Builtin.Int(intBits)
def oA:∀{q:List Int}{m:Int},m∈q->intBits m<=W.WData.weightAll (q.map W.WData.int)
 |n::r,m,h=>by
  rcases Mb.mp h with e|e
  ·subst e;simp only[qd,W.WData.weightAll,W.WData.weight,Builtin.Int.intBits];lia
  ·have z:=oA e;simp only[qd,W.WData.weightAll];lia
def HG{q:List Int}(h:W.WData.layableAll [W.WData.list (q.map .int)]=HQ):∀m∈q,intBits m<=1048576:=λm J=>by
 have O:=(W.layW_cons h).1;have Y:=Ed (Bool.and_eq_true_iff.mp O).2;have a0:=oA J;have b0:W.WData.weight (.list (q.map .int))=W.WData.weightAll (q.map .int):=by simp only[W.WData.weight]
 lia
mutual
inductive Dt(K:W.Frag)(H:Hp):V->QQ->Prop where
 |ya:Dt K H .ya .none
 |bl(b:Bool):Dt K H (.bl b) (.bool b)
 |int(i:Int):Dt K H (.int i) (.int i)
 |str(x:Str):Dt K H (.str x) (.str x)
 |lst{a:FQ}{xs:List V}{ds:List QQ}(h:ja K H a xs)(r:zi K H xs ds):Dt K H (.ref a) (.list ds)
 |tup{a:FQ}{xs:List V}{ds:List QQ}(h:xa K H a xs)(r:zi K H xs ds):Dt K H (.ref a) (.tuple ds)
inductive zi(K:W.Frag)(H:Hp):List V->List QQ->Prop where
 |nil:zi K H [] []
 |cons{x:V}{d:QQ}{xs:List V}{ds:List QQ}(h:Dt K H x d)(r:zi K H xs ds):zi K H (x::xs) (d::ds)
end
section
variable{X:Cx}{pins:List (FQ×bR)}{σ:L2.St}{H:Hp}{s:GQ}
mutual
def Dt.reads(I:Inv X pins σ H s){v:V}{d:QQ}(h:Dt X.K H v d){u:EQ}(r:Sa v u):∃as,Reads s.heap u d as:=by
 cases h with
 |ya=>cases r;exact⟨_,.none⟩
 |bl b=>cases r;exact⟨_,.bool b⟩
 |int i=>obtain⟨t,rfl⟩:=r;exact⟨_,.int i t⟩
 |str x=>obtain⟨t,rfl⟩:=r;exact⟨_,.str x t⟩
 |lst h q=>
  cases r;obtain⟨O,J,⟨o,n,e,c,_,dd⟩,_⟩:=I.list h;obtain⟨as,z⟩:=zi.reads I q J;exact⟨_,.list e c dd (by simpa using z)⟩
 |tup h q=>
  cases r;obtain⟨O,J,⟨o,e,c,n,dd⟩,_⟩:=I.tuple h;obtain⟨as,z⟩:=zi.reads I q J;exact⟨_,.tuple e c dd (by simpa using z)⟩
def zi.reads(I:Inv X pins σ H s){vs:List V}{ds:List QQ}(h:zi X.K H vs ds){us:List EQ}(r:Oa vs us):∃as,ReadsAll s.heap us ds as:=by
 cases h with
 |nil=>cases r;exact⟨_,.nil⟩
 |cons h q=>
  cases r with
  |cons J O=>
   obtain⟨as,z⟩:=Dt.reads I h J;obtain⟨bs,y⟩:=zi.reads I q O;exact⟨_,.cons z y⟩
end
end
section
variable{X:Cx}
inductive IG(K:W.Frag)(x y:V)(H:Hp)(Q:VK):Prop|mk(da db)(_:Dt K H x da)(_:Dt K H y db)(_:SeqAt.shaped da=HQ)(_:SeqAt.shaped db=HQ)(_:Q (.bl (!PyData.eqv da db)) H)
def pA(q:X.A.units+64<yR):Vc X (ZQ .NotEq) (IG X.K):=by
 intro g0 s h0 H x y v u Q I J O h;obtain⟨i0,j0,Y,a0,b0,c0,d0⟩:=h;obtain⟨as,e0⟩:=Y.reads I J;obtain⟨bs,f0⟩:=a0.reads I O;exact SeqAt.compareNe_shaped e0 f0 b0 c0 q ⟨.bl _,H,I,rfl,d0⟩
def qA(Y:X.calm=HQ):gf X (.builtin "sum") (λxs H Q=>∃(p:FQ)(q:List Int),xs=[V.ref p]/\ja X.K H p (q.map V.int)/\Q (.int q.sum) H):=by
 intro g0 s h0 H xs us Q I r h;obtain⟨p,q,rfl,a0,b0⟩:=h;obtain⟨u,rfl,c0⟩:=Gf r;cases c0;obtain⟨i0,d0,pl,_⟩:=I.list a0;have hi:=intsAre_of d0;obtain⟨ys,J⟩:=hi.allInts.items;have e0:=hi.numsOf;have f0:s.heap.IsList p (intItems ys):=by rw[<-J];exact pl.isList
 refine sum_intListG (I.ok.hd Y) f0 λh' j0 t' hk=>⟨.int q.sum,H,I.kept hk,⟨t',?_⟩,b0⟩
 have O:numsOf (intItems ys).toList=q:=by rw[<-J];exact e0
 rw[nums_intItems]at O;rw[preSum_eq,List.take_of_length_le (by simp),O]
end
def Es(x:Fb P w H h a o):∃ob,h.get? a=some ob:=by
 cases o with
 |lst xs=>obtain⟨_,_,_,_,e⟩:=x;grind
 |tup xs=>obtain⟨_,_,_,ob,e,_⟩:=x;grind
 |dK kvs=>obtain⟨_,_,_,_,o,_,_,e,_⟩:=x;grind
 |dT kvs=>obtain⟨_,_,_,_,o,_,_,e,_⟩:=x;grind
 |set S n=>obtain⟨o,_,_,_,e,_⟩:=x;grind
 |ins C q fs=>obtain⟨_,_,_,e,_⟩:=x;grind
 |own y=>exact x
 |xd fs=>obtain⟨_,⟨_,_,_,e,_⟩,_⟩:=x;grind
 |Nr lo hi=>obtain⟨_,_,_,e⟩:=x;grind
 |Rb ob u=>obtain⟨e,_⟩:=x;grind
 |Wb ps=>exact⟨_,‹_›⟩
 |met f y=>exact⟨_,‹_›⟩
 |ext J=>obtain⟨_,e,_⟩:=x;exact e
section
variable{X:Cx}{pins:List (FQ×bR)}{σ:L2.St}{H:Hp}{s:GQ}
def Sj(I:Inv X pins σ H s)(h:s.heap.get? D=none):H D=none:=by
 cases q:H D with
 |none=>rfl
 |some u=>
  obtain⟨ob,e⟩:=Es (I.za D u q)
  grind
end
def Fs:∀{xs:List V}{us:List EQ}{i:Nat}{u:EQ},Oa xs us->us[i]?=some u->∃x,xs[i]?=some x/\Sa x u
 |_,_,_,_,.nil,e=>by simp at e
 |_,_,0,_,.cons r _,e=>by grind
 |_,_,i+1,u,.cons _ t,e=>by
  obtain⟨x,q,J⟩:=Fs (i:=i) (u:=u) t (by simpa using e)
  grind
def sq(o:bR):Option EQ:=match o.data with
 |.fields vs=>vs[2]?
 |_=>none
abbrev Js(a b:bR):Prop:=a.dict=b.dict/\sq a=sq b
inductive xb{α:Type}:Sem α->Prop
 |pure(a:α):xb (.pure a)
 |raise(e:EQ):xb (.raise e)
 |stop(x:String):xb (.unsupported x)
 |rule{t k}:(∀u,xb (k u))->xb (.rule t k)
 |at{p k}:(∀u,xb (k u))->xb (.at p k)
 |load{a p k}:(∀o,xb (k o))->xb (.load a p k)
 |update{a p f k}:(∀o:bR,Js (f o) o/\(o.isFreed=IQ->(f o).isFreed=IQ))->(∀u,xb (k u))->xb (.update a p f k)
 |alloc{o k}:(∀a,xb (k a))->xb (.alloc o k)
 |point{l k}:(∀u,xb (k u))->xb (.point l k)
 |fresh{k}:(∀u,xb (k u))->xb (.fresh k)
 |stack{k}:(∀u,xb (k u))->xb (.stack k)
def xb.bind{f:O->Sem Y}(h:xb t)(J:∀a,xb (f a)):xb (t>>=f):=by
 induction h with
 |pure a=>exact J a
 |raise e=>exact .raise e
 |stop x=>exact .stop x
 |rule _ q=>exact .rule q
 |«at»_ q=>exact .at q
 |load _ q=>exact .load q
 |update h _ q=>exact .update h q
 |alloc _ q=>exact .alloc q
 |point _ q=>exact .point q
 |fresh _ q=>exact .fresh q
 |stack _ q=>exact .stack q
def DK(h h':NQ):Prop:=∀b o,h.get? b=some o->∃q,h'.get? b=some q/\Js q o
def DK.refl(h:NQ):DK h h:=λ_ o e=>⟨o,e,rfl,rfl⟩
def DK.trans(x:DK q J)(y:DK J O):DK q O:=λb o e=>by obtain⟨Y,a0,b0⟩:=x b o e;obtain⟨c0,d0,e0⟩:=y b Y a0;grind
def DK.upd(q:∀o:bR,Js (f o) o/\(o.isFreed=IQ->(f o).isFreed=IQ)):DK h (h.update a f):=λb o e=>by
 by_cases J:b=a
 ·subst J;exact⟨f o,zk _ e ((q o).2 (Heap.get?_some_iff.mp e).2),(q o).1⟩
 ·exact⟨o,(Jr _ _ _ _ J).trans e,rfl,rfl⟩
def JG{t:Sem b0}(c:xb t):∀{Q:b0->jR->GQ->Prop}{E:EQ->jR->GQ->Prop}{p:jR}{s:GQ},
  Sem.wp M Y t Q E p s->Sem.wp M Y t (λa J s'=>Q a J s'/\DK s.heap s'.heap) (λe J s'=>E e J s'/\DK s.heap s'.heap) p s:=by
 induction c with
 |pure a=>intro Q E p s h;exact⟨h,.refl _⟩
 |raise e=>intro Q E p s h;exact⟨h,.refl _⟩
 |stop x=>intro Q E p s h;exact h
 |rule _ q=>intro Q E p s h;exact q () h
 |«at»_ q=>intro Q E p s h;exact q () h
 |load _ q=>intro Q E p s h;obtain⟨o,e,h⟩:=h;exact⟨o,e,q o h⟩
 |update a0 _ q=>
  intro Q E p s h;obtain⟨e,h⟩:=h;refine⟨e,?_⟩;exact Sem.wp_mono M Y _ (by rintro a J s' ⟨O,d⟩;exact⟨O,DK.trans (DK.upd a0) d⟩) (by rintro e J s' ⟨O,d⟩;exact⟨O,DK.trans (DK.upd a0) d⟩) _ _ (q () h)
 |alloc _ q=>intro Q E p s h;exact Sem.wp_mono M Y _ (λa J s' ⟨O,d⟩=>⟨O,DK.trans (λb o e=>⟨o,Xa _ e,rfl,rfl⟩) d⟩) (λe J s' ⟨O,d⟩=>⟨O,DK.trans (λb o e=>⟨o,Xa _ e,rfl,rfl⟩) d⟩) _ _ (q _ h)
 |point _ q=>intro Q E p s h;exact q () h
 |fresh _ q=>intro Q E p s h;exact q _ h
 |stack _ q=>intro Q E p s h;exact q _ h
def tq(c:xb t)(h:wpAny M A t Q E s):
  wpAny M A t (λa s'=>Q a s'/\DK s.heap s'.heap) (λe s'=>E e s'/\DK s.heap s'.heap) s:=λq p J=>JG c (h q p J)
def ow(a:FQ):xb (load a):=.load λ_=>.pure _
def KG(v:EQ):xb (fieldsOf v):=by
 unfold fieldsOf;cases v<;>first|exact .stop _|skip
 refine xb.bind (ow _) λo=>?_
 split<;>first|exact .stop _|exact .pure _
def Ks(v:EQ)(i:Nat):xb (field v i):=by
 unfold field;refine xb.bind (KG _) λvs=>?_
 split<;>first|exact .stop _|exact .pure _
def LG{i:Nat}(x:EQ)(hi:i≠2)(o:bR):Js (Obj.mapFields (·.setIfInBounds i x) o) o/\(o.isFreed=IQ->(Obj.mapFields (·.setIfInBounds i x) o).isFreed=IQ):=by
 obtain⟨c,d,q,J⟩:=o;cases q<;>first|exact⟨⟨rfl,rfl⟩,λh=>h⟩|exact⟨⟨rfl,Array.getElem?_setIfInBounds_ne hi⟩,λh=>h⟩
def pw(v:EQ)(i:Nat)(x:EQ)(hi:i≠2:=by decide):xb (setField v i x):=by
 unfold setField;cases v<;>first|exact .stop _|skip
 show xb (updateField _ _ _);unfold updateField;refine xb.bind (ow _) λo=>?_
 split
 ·split
  ·exact .update (LG _ hi) λ_=>.pure _
  ·exact .stop _
 ·exact .stop _
def qw(e:EQ)(f:Option FQ):xb (setFlight e f):=by
 unfold setFlight;refine xb.bind (Ks _ _) λq=>?_
 split
 ·exact pw _ _ _
 ·exact .pure _
def MG:xb underTheClaimsCaller:=.stack λ_=>.pure _
def rA:∀l:List VR,xb (readyFrames l)
 |[]=>.pure _
 |env::outer=>by
  unfold readyFrames;split
  ·refine xb.bind (ow _) λo=>?_
   split
   ·exact .pure _
   ·refine xb.bind ?_ λimp=>xb.bind ?_ λJ=>xb.bind ?_ λ_=>rA outer
    ·unfold behindIsImport;split
     ·exact .pure _
     ·split
      ·exact .pure _
      ·exact xb.bind (Ks _ _) λ_=>.pure _
    ·unfold keptBack;split
     ·split
      ·exact .pure _
      ·exact xb.bind MG λ_=>.pure _
     ·exact .pure _
    ·refine .update (λo=>⟨⟨rfl,rfl⟩,λh=>?_⟩) λ_=>.pure _
     obtain⟨c,d,q,O⟩:=o;cases q<;>exact h
  ·exact .stop _
def NG(env:VR):xb (PySem.frameOf env):=by
 unfold PySem.frameOf;refine xb.bind (.stack λ_=>.pure _) λl=>xb.bind ?_ λr=>?_
 ·unfold frameObject;split
  ·exact .pure _
  ·exact xb.bind (rA _) λ_=>.pure _
 ·split
  ·exact .pure _
  ·exact .stop _
def sA(q:String)(J:Data):xb (newObjAsIs (.type q) J):=.alloc λ_=>.pure _
def OG(q:String)(vs:List EQ):xb (newFields q vs):=by
 unfold newFields newObj;dsimp only;split
 ·exact xb.bind (.stop _) λ_=>sA _ _
 ·exact sA _ _
def QG(a b c d e:EQ)(pl:List EQ):xb (EntryCells.newEntry a b c d e pl):=OG _ _
def RG(f:FQ)(b:Bool):xb (cT f b):=by
 unfold cT;refine xb.bind (.stack λ_=>.pure _) λq=>?_
 split<;>exact .pure _
def uA(e:EQ)(env:VR):xb (noteFrame e env):=by
 unfold noteFrame;have last:∀(f:FQ)(head:EQ),xb (do setField e 1 (<-EntryCells.newEntry head (<-PySem.frameOf env) .none (eR f) .none (<-cT f (head !=.none)))):=λf head=>
  xb.bind (NG _) λa=>xb.bind (RG _ _) λpl=>xb.bind (QG _ _ _ _ _ _) λb=>pw _ _ _
 split
 ·refine xb.bind (Ks _ _) λhead=>?_
  split
  ·refine xb.bind (Ks _ _) λx=>?_
   split
   ·exact .pure _
   ·exact xb.bind (pw _ _ _) λ_=>last _ _
  ·exact last _ _
 ·exact .stop _
def vA(e:EQ)(env:VR):xb (leaving env e):=xb.bind (uA _ _) λ_=>qw _ _
def Xe(P:MQ)(w:PQ):Kg:=λouter H s E e s' =>
 ∃(q:FQ)(cls J:EQ)(B:NQ)(H':Hp)(d:Option FQ),e=.ref q/\s'.os=s.os/\oR s'.gens/\Un (gc outer) [] H H' s.heap s'.heap/\fc P w H' s'.heap/\Heap.FlyingW B outer q cls J s'.heap/\
  (∀b o,s'.heap.get? b=some o->(s.heap.get? b≠none\/H' b≠none)->b∉gc outer->B.get? b=some o)/\H' q=none/\s.heap.get? q=none/\(∃o,s'.heap.get? q=some o/\o.dict=d/\(sq o=some .none\/∀d',E cls d' H'))/\E cls d H'
section
variable{X:Cx}{pins:List (FQ×bR)}{σ:L2.St}{H H':Hp}{s:GQ}{h1 h2 B:NQ}
def SG(I:Inv X pins σ H s):∀b∈gc X.stack,∃o,s.heap.get? b=some o:=λb q=>by obtain⟨_,o,e,_⟩:=I.stack.mem q;exact⟨o,e⟩
def sw(I:Inv X pins σ H s)(un:Un (gc X.stack) [] H H' s.heap h1)(c0:fc X.prog X.w H' h1)(bk:∀b o,h1.get? b=some o->(s.heap.get? b≠none\/H' b≠none)->b∉gc X.stack->B.get? b=some o)
  (j0:∀b o,B.get? b=some o->h2.get? b=some o)(d0:h1.UpToSlots h2)(e0:∀b∈gc X.stack,∃o,h1.get? b=some o/\∀vs,o.data≠.fields vs):
  Un (gc X.stack) [] H H' s.heap h2/\fc X.prog X.w H' h2/\(∀b o,h2.get? b=some o->(s.heap.get? b≠none\/H' b≠none)->b∉gc X.stack->B.get? b=some o)/\∀b∈gc X.stack,H' b=none:=by
 have f0:∀b∈gc X.stack,H' b=none:=λb q=>by
  obtain⟨o,e⟩:=SG I b q;exact un.free b o e (I.ff b q) (by simp)
 have keep:∀b o,h1.get? b=some o->(s.heap.get? b≠none\/H' b≠none)->b∉gc X.stack->h2.get? b=some o:=by grind
 refine⟨⟨λb o e n q _=>?_,λb o e n q _=>?_,un.free,λb o e _=>?_,un.tups,un.frzs,un.tbls⟩,λa o e=>?_,λb o e k n=>?_,f0⟩
 ·exact keep b o (un.keep b o e n q (by simp)) (by grind) q
 ·obtain⟨k0,Y⟩:=un.slot b o e n q (by simp);obtain⟨a0,O,b0⟩:=e0 b q;rw[Y]at O;cases O;obtain⟨g0,h0⟩:=d0 b _ Y b0
  grind
 ·obtain⟨a0,Y⟩:=un.there b o e (by simp);by_cases q:b∈gc X.stack
  ·obtain⟨l0,O,b0⟩:=e0 b q;obtain⟨g0,h0⟩:=d0 b _ O b0
   grind
  grind
 ·refine(c0 a o e).kc (λb u q J=>keep b u J (.inr ?_) (λz=>?_)) (λ_ J=>J) λ_ _ J=>J
  ·grind
  grind
 ·have n0:∃a0,h1.get? b=some a0:=by
   rcases k with k|k
   ·cases J:s.heap.get? b with
    |none=>grind
    |some i0=>exact un.there b i0 J (by simp)
   ·cases J:H' b with
    |none=>grind
    |some u=>exact Es (c0 b u J)
  grind
end
section
variable{P:MQ}{w:PQ}{K:W.Frag}{mg:Str->Option EQ}{base:NQ}{N:List Str}{qual:Str}{scope:nR}{f:FQ}{cd:EQ}{A:OQ}{outer:List VR}{s₀:GQ}{H₀:Hp}{E:XK}
 {pins:List (FQ×bR)}{σ:L2.St}{H H':Hp}{s:GQ}
def wA{s1:GQ}(I:Inv (Pd (Xe P w) P w K mg base N qual scope f cd A outer s₀ H₀ E) pins σ H s)(h0:s1.os=s.os)(q:oR s1.gens)
  (un:Un (gc (cR qual scope s₀.heap.objs.size f cd::outer)) [] H H' s.heap b0)(i0:fc P w H' b0)
  (bk:∀b o,b0.get? b=some o->(s.heap.get? b≠none\/H' b≠none)->b∉gc (cR qual scope s₀.heap.objs.size f cd::outer)->B.get? b=some o)
  (f0:Heap.FlyingW B outer O cls j0 e0)(k0:b0.UpToSlots e0)(l0:∀b∈gc (cR qual scope s₀.heap.objs.size f cd::outer),∃o,b0.get? b=some o/\∀vs,o.data≠.fields vs)
  (n0:H' O=none)(t0:s.heap.get? O=none)(dd:∃o,e0.get? O=some o/\o.dict=d/\(sq o=some .none\/∀d',E cls d' H'))(o0:E cls d H'):Xe P w outer H₀ s₀ E (.ref O) {s1 with heap:=e0}:=by
 obtain⟨Y,p0,q0,u0⟩:=sw I un i0 bk f0.1 k0 l0;have sub:∀b∈gc outer,b∈gc (cR qual scope s₀.heap.objs.size f cd::outer):=λb q=>by
  obtain⟨env,v0,w0⟩:=xk.mp q;exact xk.mpr (by grind)
 have g0:∀b o,s₀.heap.get? b=some o->b∉gc outer->b∉gc (cR qual scope s₀.heap.objs.size f cd::outer):=λb o e q r0=>by
  rcases Mb.mp (I.ef b r0)with z|z
  ·exact absurd (pd (pb e) (z▸I.ok.above)) (Pk _)
  ·exact q z
 refine nx14 O cls j0 (nx6 B H' d rfl (h0.trans I.os) q ⟨λb o e n q _=>?_,λb o e n q _=>?_,λb o e n _=>?_,λb o e _=>?_,λb xs e=>Y.tups b xs (I.base.tups b xs e),λb o u e=>Y.frzs b o u (I.base.frzs b o u e),λb ps e=>?_⟩ p0 f0 (λb o e k q=>?_) n0 ⟨?_,dd,o0⟩)
 ·exact Y.keep b o (I.base.keep b o e n q (by simp[Pd])) (I.base.free b o e n (by simp[Pd])) (g0 b o e q) (by simp)
 ·obtain⟨x0,J⟩:=I.base.slot b o e n q (by simp[Pd]);obtain⟨y0,s0⟩:=Y.slot b _ J (I.base.free b o e n (by simp[Pd])) (sub b q) (by simp)
  grind
 ·obtain⟨a0,J⟩:=I.base.there b o e (by simp[Pd]);exact Y.free b a0 J (I.base.free b o e n (by simp[Pd])) (by simp)
 ·obtain⟨a0,J⟩:=I.base.there b o e (by simp[Pd]);exact Y.there b a0 J (by simp)
 ·obtain⟨z0,J⟩:=I.base.tbls b ps e;obtain⟨A0,s0⟩:=Y.tbls b _ J
  grind
 ·rcases k with k|k
  ·cases c0:s₀.heap.get? b with
   |none=>grind
   |some d0=>
    obtain⟨a0,J⟩:=I.base.there b d0 c0 (by simp[Pd]);exact q0 b o e (by grind) (g0 b d0 c0 q)
  grind
 ·cases c0:s₀.heap.get? O with
  |none=>rfl
  |some d0=>
   obtain⟨a0,J⟩:=I.base.there O d0 c0 (by simp[Pd])
   grind
def UG(a0:∀cls d H',b0 cls d H'->E cls d H'):ti (Xe P w) (Pd (Xe P w) P w K mg base N qual scope f cd A outer s₀ H₀ E) b0:=by
 intro pins σ H s e s' I h;obtain⟨J,cls,c0,B,H',d,rfl,os,d0,un,e0,O,bk,f0,g0,⟨o,ho,n0⟩,h0⟩:=h;refine Kc (tq (vA _ _) (wpAny_leaves_onW (Q:=λ_ Y=>∃q,Y={s' with heap:=q}/\Heap.FlyingW B outer J cls c0 q/\s'.heap.UpToSlots q) I.ok.frames rfl O (by grind))) (?_) λ_ _ z=>z.1
 rintro _ Y⟨⟨q,e,i0,j0⟩,k0⟩;subst e;obtain⟨o0,ho2,p0⟩:=k0 J o ho;exact wA (s1:=s') I os d0 un e0 bk i0 j0 (λb l0=>(O.2.2.1.mem l0).2) f0 g0 (by grind) (a0 _ _ _ h0)
def tw{x qual:Str}{st:gR}{f:FQ}{J:XQ}{N ps:List Str}{k:Nat}{sp:Sp}(F:qg K x qual st f J)(S:Zi N ps (ic st))(len:∀vs H Q E,sp vs H Q E->vs.length=ps.length)
  (O:∀(q:EQ)(A:OQ)(outer:List VR)(s:GQ)(H:Hp)(vs:List V)(Q:VK)(E:XK),Wa k (A.deeper (cR qual (ic st) s.heap.objs.size f q))->sp vs H Q E->
   ∃t,oe (Pd (Xe P w) P w K mg base N qual (ic st) f q A outer s H E) (Qf st) t/\t {nx:=λ_ H'=>Q .ya H',rt:=Q} (start N vs) H):Kb P w K mg base (Xe P w) (k+1) f J ps sp:=by
 obtain⟨c0,od,kV,d0,e0,f0,q,ct,g0,rfl,lk,Y⟩:=F.ex;exact Zv lk Y S len λA outer s H vs Q E a0 b0=>O q A outer s H vs Q E a0 b0
structure VG(K:W.Frag)(mg:Str->Option EQ)(x:Str)(C:FQ):Prop where
 bound:mg x=some (.ref C)
 ok:W.excIn K C [.type "ValueError",.type "Exception",.type "BaseException",.type "object"] "ValueError.__new__"=HQ
end
def WG{K:W.Frag}(X:K.In h)(q:W.excIn K C h0 i0=HQ):
  ∃O N j0 k0 bs l0 n0 sub o0 p0 dd q0 r0 s0 t0 u0,∃Y:Str->Option EQ,h.get? C=some (xR j0 k0 C N bs O l0 n0 sub o0 p0 dd q0 r0 s0 t0 u0 i0)/\h.Ns N Y/\Y "__init__"=none/\hT h h0 O:=by
 unfold W.excIn at q;split at q
 ·next dd v0 slots lk=>
  split at q
  ·next C0 rest a0 b0 c0 d0 n e0 em w0=>
   simp only[jm,beq_iff_eq,Bool.not_eq_true']at q;obtain⟨⟨⟨⟨⟨x0,y0⟩,f0⟩,z0⟩,J⟩,g0⟩:=q;subst x0 y0;obtain⟨c1,D0,F0,A0,G0,H0,I0,J0,K0,L0,M0⟩:=v0;dsimp only at em f0 J g0;subst em f0;obtain⟨lst⟩:=slots;have B0:lst=[a0,b0,c0,d0,some (.builtin n),e0]:=w0;subst B0;refine nx3 rest _ _ _ _ _ _ (nx3 _ _ _ dd a0 b0 c0 (nx2 d0 e0 (h.nsMap A0) (X _ _ lk) ?_ ?_ (W.tail_of_in X z0)))
   ·exact .of_isNs (W.isNs_of_in X J)
   ·exact W.nsMap_none_of_in X J g0
  ·cases q
 ·cases q
section
variable{X:Cx}
abbrev Oh(X:Cx)(q:FQ):Cx:={X with A:=X.A.mark (some (.ref q)),calm:=IQ,xe:=λ_ _=>False}
def Ls{q:L2.St}(I:Inv X J q H s)(O:FQ):Inv (Oh X O) J q H s:=
 ⟨⟨I.ok.mod,I.ok.kind,I.ok.glob,I.ok.blt,I.ok.above,I.ok.inj,I.ok.has,I.ok.wm,(λz=>nomatch z),I.ok.frames,I.ok.ao,I.ok.bo,I.ok.bs,I.ok.Ih,I.ok.hg,I.ok.ig,I.ok.Uc,I.ok.Ri⟩,I.os,I.bare,I.base,I.loc,I.cell,I.free,I.yb,I.pin,I.za,I.len⟩
def Qs{q:L2.St}(ok:X.Ok)(I:Inv (Oh X O) J q H s):Inv X J q H s:=
 ⟨ok,I.os,I.bare,I.base,I.loc,I.cell,I.free,I.yb,I.pin,I.za,I.len⟩
def XG(ok:X.Ok)(h:SP (Oh X a0) Y D O s):SP X Y D O s:=by
 cases O with
 |next=>obtain⟨q,H',I,J⟩:=h;exact⟨q,H',Qs ok I,J⟩
 |brk=>obtain⟨q,H',I,J⟩:=h;exact⟨q,H',Qs ok I,J⟩
 |cont=>obtain⟨q,H',I,J⟩:=h;exact⟨q,H',Qs ok I,J⟩
 |ret u=>obtain⟨v,q,H',I,r,J⟩:=h;exact⟨v,q,H',Qs ok I,r,J⟩
def YG{O:L2.St}(I:Inv X a0 O H s)(k:∀b u,s.heap.get? b=some u->h'.get? b=some u)(b0:s.heap.get? D=none)
  (new:Fb X.prog X.w (upd H D o) h' D o):Inv X a0 O (upd H D o) {s with heap:=h',toks:=t'}:=by
 have J:=Sj I b0;have c0:∀b u,s.heap.get? b=some u->b≠D:=λb u e z=>by grind
 refine I.un ⟨by grind,λb u q _ _ _=>⟨u.slots,k b u q⟩,λb u q n _=>by rw[ka (c0 b u q)];exact n,by grind,λb xs q=>by rw[ka (ie q J)];exact q,
  λb u xs q=>by rw[ka (ie q J)];exact q,λb ps q=>⟨#[],by rw[ka (ie q J),q];simp⟩⟩ λb u e=>?_
 by_cases Y:b=D
 ·subst Y;rw[ia]at e
  grind
 ·rw[ka Y]at e;exact(I.za b u e).kc (by grind) (λc q=>by rw[ka (ie q J)];exact q) λc xs q=>by rw[ka (ie q J)];exact q
end
open Builtin Builtin.ObjectAttr Builtin.Getset_descriptor
structure e3a(K:W.Frag)(C:FQ):Prop where
 it:W.isClsIn K C=HQ
 ga:W.findIn K (.ref C) "__getattribute__"=some (some (.builtin "BaseException.__getattribute__"))
 gt:W.findIn K (.ref C) "__getattr__"=some none
 cl:W.findIn K (.ref C) "__class__"=some (some (.builtin "object.__class__"))
 mB:W.mroIn K C (.type "BaseException")=some HQ
 mO:W.mroIn K C (.type "object")=some HQ
def ZG(a C:FQ)(h:NQ):Prop:=∃o,h.get? a=some o/\o.cls=.ref C
section
variable{prog:MQ}{w:PQ}{A:OQ}{E:EQ->GQ->Prop}{h:NQ}{g:Array GenState}{d:MS}{t:Nat}{os:OsState}{a C:FQ}{o:bR}{K:W.Frag}
def aH(X:K.In h)(T:e3a K C)(q:h.get? a=some o)(J:o.cls=.ref C)(O:Q () ⟨h,g,d,t,os⟩):wpAny M A (uR "BaseException.__getattribute__" ⟨[.ref a,Y],[]⟩) Q E ⟨h,g,d,t,os⟩:=by
 have hk:builtinKind "BaseException.__getattribute__"=some .slot:=by decide+kernel
 have a0:splitId "BaseException.__getattribute__"=some ("BaseException","__getattribute__"):=by decide+kernel
 have b0:=W.looks_mroIn (M:=M) X T.mB;have c0:=F.args_bexc_ga (.ref a) Y;simp only[uR,hk,a0];refine ba ?_;unfold BR;repeat(first|(with_reducible refine Kk q ?_;rw[J])|with_reducible refine am b0 ?_|wp_step)
 exact O
end
end My
namespace My
open PySem PySem.Spec PyProof.Rows L2
section
variable{X:Cx}
def uw{M:Model}{A:OQ}{E:EQ->GQ->Prop}{K:W.Frag}{h:NQ}{g:Array GenState}{d:MS}{t:Nat}{os:OsState}{e C S:FQ}{J:bR}{b:Bool}{Q:Bool->GQ->Prop}(X:K.In h)(O:h.get? e=some J)(Y:J.cls=.ref C)
  (a0:W.typeIn K (.ref S)=some (.type "type"))(q:W.isClsIn K S=HQ)(b0:W.mroIn K S (.type "BaseException")=some HQ)(c0:W.subIn K (.ref C) (.ref S)=some b)(d0:Q b ⟨h,g,d,t,os⟩):wpAny M A (excMatches (.ref e) (.ref S)) Q E ⟨h,g,d,t,os⟩:=by
 have f:=tc_notTuple;have e0:=W.looks_typeIn (M:=M) X a0;have f0:=W.looks_mroIn (M:=M) X b0;have L2:=W.looks_subIn (M:=M) X c0;have g0:W.Looks M h (isType (.ref S)) HQ:=by
  unfold W.isClsIn W.clsIn at q;split at q
  ·rename_i i0 d' j0 k0 ho;intro l0 n0 o0 s' k h0;unfold isType loadHead;exact ba (LR (k _ _ (X _ _ ho)) (Aa h0))
  ·cases q
 unfold excMatches BR;repeat(first|(with_reducible refine Kk O ?_;rw[Y])|with_reducible refine am e0 ?_|with_reducible refine am f0 ?_|with_reducible refine am L2 ?_|with_reducible refine am g0 ?_|wp_step)
 cases b<;>(wp_walk;exact d0)
end
section
variable{X:Cx}{pins:List (FQ×bR)}{σ:L2.St}{H:Hp}{s:GQ}
def Rs{M:Model}{A:OQ}{E:EQ->GQ->Prop}{j:Nat}{n:Str}{f0:jR}{Q:Unit->GQ->Prop}(I:Inv X pins σ H s)(g0:X.N.Nodup)(c0:X.N[j]?=some n)(hk:X.env.scope.names.lookup n=some .local)
  (h:∀s',Inv X pins (σ.set j none) H s'->Q () s'):wpAny M A (do bindName X.env n .none;unbindBehindTheSuite X.env n f0) Q E s:=by
 obtain⟨m,d0,h0⟩:=id I.loc;have i0:(X.env.scope.kind==.class||(X.env.scope.kind==.module&&X.env.locals !=X.env.globals))=IQ:=by rw[I.ok.kind];rfl
 have j0:j<σ.length:=by rw[I.len];exact(ee.mp c0).1
 have Si:=I.Si;refine wpAny_nameGoes_keeps hk d0 i0 λh' v k0 q=>?_
 obtain⟨u0,_,_,v0,_⟩:=id d0;refine h _ ⟨I.ok,I.os,I.bare,⟨λb o e n b0 Y=>?_,λb o e n b0 Y=>?_,I.base.free,λb o e Y=>?_,I.base.tups,I.base.frzs,I.base.tbls⟩,⟨_,k0,λi y l0 O a0 n0=>?_⟩,λy c e=>?_,I.free,I.yb,λp o0=>?_,λb ob e=>?_,by simpa using I.len⟩
 ·exact(q.2 b (Ob (pd (pb e) I.ok.above))).trans (I.base.keep b o e n b0 Y)
 ·obtain⟨p0,O⟩:=I.base.slot b o e n b0 Y;exact⟨p0,(q.2 b (Ob (pd (pb e) I.ok.above))).trans O⟩
 ·obtain⟨q0,O⟩:=I.base.there b o e Y;exact⟨q0,(q.2 b (Ob (pd (pb e) I.ok.above))).trans O⟩
 ·by_cases hi:i=j
  ·subst hi;rw[List.getElem?_set_self j0]at a0;cases a0
  ·rw[List.getElem?_set_ne (ud hi)]at a0;obtain⟨r0,s0,J⟩:=h0 i y l0 O a0 n0;refine⟨r0,s0,?_⟩;rcases J with⟨k,e⟩|⟨k,c,e,z⟩
   ·refine .inl ⟨k,?_⟩;have:y≠n:=λe=>hi (Dv g0 O (e▸c0))
    grind
   ·exact .inr ⟨k,c,e,z.sameBut q (Si y c e)⟩
 ·obtain⟨e0,z⟩:=I.cell y c e;exact⟨e0,z.sameBut q (Si y c e)⟩
 ·obtain⟨e,n,ne,t0,d⟩:=I.pin p o0;exact⟨(q.2 p.1 ne).trans e,n,ne,t0,d⟩
 ·refine(I.za b ob e).kc (λc e0 hc J=>(q.2 c ?_).trans J) (λ_ J=>J) λ_ _ J=>J
  rintro rfl;rcases hc with rfl|hc
  ·rw[I.free]at e;cases e
  ·rw[I.free]at hc;cases hc
def Ss(O:Inv X pins σ h0 s1)(I:Inv X pins σ H s)(i0:s1.heap.get? a=none)(J:H a=none)(ok:Fb X.prog X.w (upd H a o) s.heap a o):Inv X pins σ (upd H a o) s:=by
 have ne:∀b u,s1.heap.get? b=some u->b≠a:=λb u e z=>by grind
 refine⟨I.ok,I.os,I.bare,⟨I.base.keep,I.base.slot,λb u e n b0=>?_,I.base.there,λb xs e=>?_,λb u v e=>?_,λb ps e=>?_⟩,I.loc,I.cell,?_,λx c e=>?_,λp c0=>?_,λb u e=>?_,I.len⟩
 ·obtain⟨e0,Y⟩:=O.base.there b u e b0;rw[ka (ne b e0 Y)];exact I.base.free b u e n b0
 ·have q:=I.base.tups b xs e;rw[ka (ie q J)];exact q
 ·have q:=I.base.frzs b u v e;rw[ka (ie q J)];exact q
 ·obtain⟨more,q⟩:=I.base.tbls b ps e;exact⟨more,by rw[ka (ie q J)];exact q⟩
 ·obtain⟨m0,⟨u,_,_,a0,_⟩,_⟩:=O.loc;rw[ka (ne _ u a0)];exact I.free
 ·obtain⟨v,u,a0,_⟩:=O.cell x c e;rw[ka (ne c u a0)];exact I.yb x c e
 ·obtain⟨e,n,f0,g0,d⟩:=I.pin p c0;obtain⟨Y,_⟩:=O.pin p c0;exact⟨e,by rw[ka (ne _ _ Y)];exact n,f0,g0,d⟩
 ·by_cases d0:b=a
  ·subst d0;rw[ia]at e
   grind
  ·rw[ka d0]at e;refine(I.za b u e).kc (λc v j0 q=>q) (λc q=>?_) λc xs q=>?_
   ·rw[ka (ie q J)];exact q
   ·rw[ka (ie q J)];exact q
structure e4r(K:W.Frag)(mg:Str->Option EQ)(x:Str)(S:FQ):Prop where
 bound:mg x=some (.ref S)
 ty:W.typeIn K (.ref S)=some (.type "type")
 it:W.isClsIn K S=HQ
 mB:W.mroIn K S (.type "BaseException")=some HQ
def wo(j:Nat)(D:Se):Se:={nx:=λσ H=>D.nx (σ.set j none) H,rt:=D.rt,bk:=λσ H=>D.bk (σ.set j none) H,ct:=λσ H=>D.ct (σ.set j none) H}
def Tj(a C:FQ)(d:Option FQ)(h:NQ):Prop:=∃o,h.get? a=some o/\o.cls=.ref C/\W.notCls o=HQ/\o.dict=d
abbrev Ts(a C:FQ)(d:Option FQ):HO:=.ext (Tj a C d)
def xA(e:Tj a C d h):Fb P w H h a (Ts a C d):=⟨e,by obtain⟨o,q,_⟩:=e;exact⟨o,q⟩,by rintro _ _⟨o,q,r⟩k;exact⟨o,k o q,r⟩⟩
end
def vw(ys:List V):It:=⟨λi _=>i<ys.length,λi H x H'=>H'=H/\ys[i]?=some x,λi _=>ys.length<=i⟩
abbrev el(y:Str):List V:=y.cps.toList.map λc=>V.str ⟨#[c]⟩
def yA(y:Str):(el y).length=y.length:=by simp[el,Str.length]
def bH{i:Nat}:(el y)[i]?=(y.cps[i]?).map λc=>V.str ⟨#[c]⟩:=by
 grind
abbrev fl(y:Str):String:=if y.cps.all (·<128)then"str_ascii_iterator"else"str_iterator"
abbrev Us(y:Str)(t:Tok):bR:={cls:=.type (fl y),data:=.fields #[.str y t,.int 0 0]}
def cH(q:Q (.ref s.heap.objs.size) {s with heap:=s.heap.push (Us x t)}):wpAny (KQ prog w) A (cS (.str x t)) Q E s:=by
 cases J:x.cps.all (·<128)with
 |true=>
  have e:fl x="str_ascii_iterator":=Ca J;unfold Us at q;rw[e]at q;exact wpAny_pyIter_ascii J q
 |false=>
  have e:fl x="str_iterator":=by grind
  unfold Us at q;rw[e]at q;exact wpAny_pyIter_wide J q
structure Src(P:MQ)(w:PQ)(K:W.Frag)(J:It)(it:FQ)(st:Nat->NQ->Prop):Prop where
 obj:∀i h,st i h->∃o,h.get? it=some o/\∀v,o.data≠.cell v
 keep:∀i h h',st i h->(∀o,h.get? it=some o->h'.get? it=some o)->st i h'
 item:∀(X:Cx),X.prog=P->X.w=w->X.K=K->∀(A:OQ)(i:Nat)(pins:List (FQ×bR))(s:GQ)(σ:L2.St)(H:Hp)(Q:EQ->GQ->Prop)(E:EQ->GQ->Prop),Inv X pins σ H s->st i s.heap->J.go i H->
  (∀x u h' tk,Sa x u->J.pe i H x H->st (i+1) h'->Heap.SameBut it s.heap h'->Q u {s with heap:=h',toks:=tk})->wpAny (KQ P w) A (Builtin.SmallTypes.nextOf (.ref it)) Q E s
 done:∀(X:Cx),X.prog=P->X.w=w->X.K=K->∀(A:OQ),A.handled=none->∀(i:Nat)(pins:List (FQ×bR))(s:GQ)(σ:L2.St)(H:Hp)(Q:EQ->GQ->Prop)(E:EQ->GQ->Prop),Inv X pins σ H s->st i s.heap->J.stop i H->
  (∀h' e,Heap.ExtBut it s.heap h'->(∃o,h'.get? e=some o/\o.cls=.type "StopIteration")->E (.ref e) {s with heap:=h'})->wpAny (KQ P w) A (Builtin.SmallTypes.nextOf (.ref it)) Q E s
section
variable{P:MQ}{w:PQ}{K:W.Frag}
def dH(a it:FQ):Src P w K (Wi K a) it (λi h=>h.IsListIter it a i)where
 obj:=λi h st=>by
  obtain⟨o,e,c,d⟩:=st
  grind
 keep:=λi h h' st k=>st.at λo e=>k o e
 item:=by
  intro X J O Y A i d0 s e0 H Q E I st a0 f0;subst J O Y;obtain⟨xs,x,q,b0⟩:=a0;obtain⟨g0,c0,p,hz⟩:=I.list q;obtain⟨u,o0,h0⟩:=c0.get b0;exact wpAny_nextOf_list_item st p.isList (by grind) λh' i0 j0=>f0 x u h' s.toks h0 ⟨rfl,λys k0=>by rw[I.vd k0 q];exact b0⟩ i0 j0
 done:=by
  intro X J O Y A l0 i d0 s e0 H Q E I st a0 n0;subst J O Y;obtain⟨xs,q,b0⟩:=a0;obtain⟨g0,c0,p,hz⟩:=I.list q;have p0:=c0.length;exact wpAny_nextOf_list_end l0 st p.isList (by simp;lia) n0
def eH(y:Str)(t:Tok)(it:FQ):Src P w K (vw (el y)) it (λi h=>h.IsStrIter it (fl y) y t i)where
 obj:=λi h st=>by
  obtain⟨o,e,c,d⟩:=st
  grind
 keep:=λi h h' st k=>let⟨o,ho,r⟩:=st;⟨o,k o ho,r⟩
 item:=by
  intro X e0 f0 g0 A i h0 s i0 H Q E I st O J;have hi:i<y.cps.size:=by have:i<(el y).length:=O;rw[yA]at this;exact this
  have b0:(vw (el y)).pe i H (.str ⟨#[y.cps[i]]⟩) H:=⟨rfl,by rw[bH,xv hi];rfl⟩;cases q:y.cps.all (·<128)with
  |true=>
   have e:fl y="str_ascii_iterator":=Ca q;rw[e]at st J;exact wpAny_nextOf_ascii_item st (c:=y.cps[i]) (by simp[hi]) λh' Y a0=>J (.str ⟨#[y.cps[i]]⟩) _ h' _ ⟨_,rfl⟩ b0 Y a0
  |false=>
   have e:fl y="str_iterator":=Ba (by rw[q];decide);rw[e]at st J;exact wpAny_nextOf_wide_item st (c:=y.cps[i]) (by simp[hi]) λh' Y a0=>J (.str ⟨#[y.cps[i]]⟩) _ h' _ ⟨_,rfl⟩ b0 Y a0
 done:=by
  intro X e0 f0 g0 A c0 i h0 s i0 H Q E I st O d0;have hi:y.cps[i]?=none:=by have:(el y).length<=i:=O;rw[yA]at this;exact Array.getElem?_eq_none this
  cases q:y.cps.all (·<128)with
  |true=>
   have e:fl y="str_ascii_iterator":=Ca q;rw[e]at st;exact wpAny_nextOf_ascii_end c0 st hi d0
  |false=>
   have e:fl y="str_iterator":=Ba (by rw[q];decide);rw[e]at st;exact wpAny_nextOf_wide_end c0 st hi d0
def AA(st:s.heap.IsTupleIter it l i)(tp:s.heap.IsTuple l O)
  (a0:∀x g,O[i]?=some x->g.IsTupleIter it l (i+1)->Heap.SameBut it s.heap g->Q x {s with heap:=g})
  (b0:O[i]?=none->A.handled=none/\∀g e,Heap.ExtBut it s.heap g->(∃o,g.get? e=some o/\o.cls=.type "StopIteration")->E (.ref e) {s with heap:=g}):
  wpAny (KQ P w) A (Builtin.SmallTypes.nextOf (.ref it)) Q E s:=by
 obtain⟨g0,J,c0,q⟩:=id st;obtain⟨h0,d0,_,i0,e0⟩:=id tp;have new:∀k v,Heap.SameBut it s.heap (s.heap.update it (Obj.mapFields (·.setIfInBounds k v))):=λ_ _=>Qk ..
 refine ba (Ak st.typeIs F.slot_tuple_iterator_next (Ug F.slot_tuple_iterator_next st.typeIs F.entry_tuple_iterator_next ?_ (F.args_tuple_iterator_next_1 _)));refine ba (om rfl (ba (ci J q rfl ?_)));refine ba (ci J q rfl (ba (Bk d0 e0 ?_)));dsimp only;rw[rj];cases Y:O[i]? with
 |some x=>
  refine ba (tj J q (by simp) (Aa ⟨x,rfl,Aa (a0 x _ Y ?_ (new 1 _))⟩));refine⟨_,zk _ J (Obj.isFreed_of_fields (Yh q _)),?_,?_⟩
  ·rw[Ip];exact c0
  ·rw[Yh q];simp[eR]
 |none=>
  obtain⟨f0,f⟩:=b0 Y;refine ba (GR (ba (tj J q (by simp) (ba ?_))));refine ba (dg (ba (om rfl (dg (wpAny_raiseNew_none f0 (f _ _ (((new 0 _).extBut.push _).push _) ⟨_,ec _ rfl,rfl⟩)) (by size_fits)))) (by size_fits))
def fH(a it:FQ):Src P w K (Wp K a) it (λi h=>h.IsTupleIter it a i)where
 obj:=λi h st=>by
  obtain⟨o,e,c,d⟩:=st
  grind
 keep:=λi h h' st k=>st.at λo e=>k o e
 item:=by
  intro X O Y a0 A i f0 s g0 H Q E I st b0 h0;subst O Y a0;obtain⟨xs,x,q,c0⟩:=b0;obtain⟨d0,e0,p,hz⟩:=I.tuple q;obtain⟨u,i0,j0⟩:=e0.get c0;have k0:d0.toArray[i]?=some u:=by simpa using i0
  refine AA st (p) (λy g J l0 n0=>?_) (by grind);have e:=Yd (k0.symm.trans J);subst e;exact h0 x u g s.toks j0 ⟨rfl,λys J=>by rw[I.Te J q];exact c0⟩ l0 n0
 done:=by
  intro X O Y a0 A o0 i f0 s g0 H Q E I st b0 p0;subst O Y a0;obtain⟨xs,q,c0⟩:=b0;obtain⟨d0,e0,p,hz⟩:=I.tuple q;have q0:=e0.length;have r0:d0.toArray[i]?=none:=by simp;lia
  exact AA st (p) (λy g J _ _=>by grind) λ_=>⟨o0,p0⟩
def BA{z TI TO h0 i0:FQ}(hz:uS s.heap z TI TO .none)(n0:eS s.heap TI (.ref h0) (.ref i0))
  (h:∀a0,uS a0 z TI TO .ellipsis->Heap.SameBut z s.heap a0->
   wpAny (KQ P w) A (Builtin.SmallTypes.nextOf (.ref h0)) (λx Y=>∃a b,eS Y.heap TO a b/\∀J,eS J TO x b->Heap.SameBut TO Y.heap J->
    wpAny (KQ P w) A (Builtin.SmallTypes.nextOf (.ref i0)) (λy O=>eS O.heap TO x b/\∀q,eS q TO x y->Heap.SameBut TO O.heap q->uS q z TI TO .ellipsis/\
      ∀d0 b0,Heap.SameBut z (q.push {cls:=.type "tuple",data:=.seq #[x,y]}) d0->Heap.SameBut z d0 b0->uS b0 z TI TO (eR q.objs.size)->Q (.done (.ret (.ref q.objs.size))) {O with heap:=b0})
     (λe O=>uS O.heap z TI TO .ellipsis/\∀q,Heap.SameBut z O.heap q->E e {O with heap:=q}) {Y with heap:=J})
    (λe Y=>uS Y.heap z TI TO .ellipsis/\∀J,Heap.SameBut z Y.heap J->E e {Y with heap:=J}) {s with heap:=a0}):
  wpAny (KQ P w) A (Builtin.«zip.__next__» ⟨[.ref z],[]⟩) Q E s:=by
 have free:wpAny (KQ P w) A (Builtin.SmallTypes.ownedTupleIsFree (.ref z)) (λb s'=>b=HQ/\s'=s) E s:=by
  exact ba (ci hz rfl rfl (Aa ⟨rfl,rfl⟩))
 refine ba (om rfl ?_);refine ba (ci hz rfl (x:=.bool IQ) rfl (ba (ci hz rfl rfl (ba (Bk n0 rfl (ba (Fa free λb s' o0=>?_)))))));obtain⟨rfl,rfl⟩:=o0;refine ba (GR (ba (ci hz rfl rfl (ba (Ep hz (by simp) λa0 p0 q0=>ba ?_)))));refine ba (ba (wpAny_onRaise (ba (Kc (h a0 p0 q0) (λx Y e0=>?_) (by rintro e Y⟨r0,s0⟩;exact Ep r0 (by simp) λJ _ f0=>s0 J f0)))));obtain⟨a,b,j0,e0⟩:=e0;refine Aa (ba (Bk j0 rfl (ba (wpAny_updateSeq_pair j0 λJ t0 f0=>ba (wpAny_letGo (Aa (ba (ba (wpAny_onRaise ?_)))))))));refine ba (Kc (e0 J t0 f0) (λy O c0=>?_) (by rintro e O⟨u0,v0⟩;exact Ep u0 (by simp) λq _ g0=>v0 q g0));obtain⟨k0,c0⟩:=c0;refine Aa (ba (Bk k0 rfl (ba (wpAny_updateSeq_pair k0 λq l0 g0=>ba (wpAny_letGo (Aa (Aa (ba (Bk l0 rfl (ba (AS ?_ Ma)))))))))));obtain⟨w0,c0⟩:=c0 q l0 g0;have out:wpAny (KQ P w) A (Builtin.SmallTypes.ownedTupleHandOut (.ref z) (.ref q.objs.size)) (λ_ s'=>Q (.done (.ret (.ref q.objs.size))) s') E {O with heap:=q.push {cls:=.type "tuple",data:=.seq #[x,y]}}:=by
  refine ba (Ep (Xa _ w0) (by simp) λd0 x0 y0=>Ep x0 (by simp) λb0 z0 A0=>c0 d0 b0 y0 A0 ?_);exact z0
 exact ba (Fa out λ_ s' B0=>Aa B0)
def xo(q J:It):It:=⟨λi H=>q.go i H/\J.go i H,λi H v H'=>∃p x y,q.pe i H x H/\J.pe i H y H/\v=.ref p/\H p=none/\H'=upd H p (.tup [x,y]),λi H=>q.stop i H\/(q.go i H/\J.stop i H)⟩
structure ww(z TI TO i1 i2:FQ):Prop where
 TIz:TI≠z
 TOz:TO≠z
 i1z:i1≠z
 i2z:i2≠z
 TITO:TI≠TO
 TIi1:TI≠i1
 TIi2:TI≠i2
 TOi1:TO≠i1
 TOi2:TO≠i2
 i12:i1≠i2
def gH(n:Nat):ww (n+4) (n+2) (n+3) n (n+1):=by
 constructor<;>(grind)
def hH{z TI TO b0 f0:FQ}(D:ww z TI TO b0 f0)(j0:Src P w K v1 b0 B0)(n0:Src P w K w1 f0 x1):
  Vi P w K (.Tuple R1 S1 T1) (xo v1 w1) [z,TI,TO,b0,f0] z (λi h=>uS h z TI TO .none/\eS h TI (.ref b0) (.ref f0)/\(∃a b,eS h TO a b)/\B0 i h/\x1 i h)where
 mem:=by simp
 obj:=by
  rintro i h⟨hz,p0,⟨a,b,v0⟩,q0,r0⟩c c0;simp only[Mb,Tg,Vg]at c0;rcases c0 with e|e|e|e|e
  ·grind
  ·grind
  ·grind
  ·rw[e];exact j0.obj i h q0
  ·rw[e];exact n0.obj i h r0
 keep:=λi h h' ⟨hz,p0,⟨a,b,v0⟩,q0,r0⟩k=>⟨by grind,by grind,by grind,j0.keep i h h' q0 (k b0 (by simp)),n0.keep i h h' r0 (k f0 (by simp))⟩
 item:=by
  intro X I0 J0 K0 c0 i q s J H E I k0 st C0;subst I0 J0 K0;obtain⟨hz,p0,⟨a,b,v0⟩,q0,r0⟩:=st;have w0:s.TypeIs (.ref z) "zip":=⟨_,hz,rfl⟩;have Y:∀{s':GQ}{H':Hp}{h':NQ}{t':Nat}{it:FQ},it∈[z,TI,TO,b0,f0]->H' it=none->Inv X q J H' s'->Heap.SameBut it s'.heap h'->Inv X q J H' {s' with heap:=h',toks:=t'}:=λ{s' H' h' t' it}L0 y1 x0 y0=>by
   obtain⟨a1,M0,z1,N0,O0,Q0⟩:=k0 it L0;exact x0.turned (λb o R0 e=>(y0.2 b R0).trans e) y1 M0 N0 O0 Q0
  have b1:=(k0 z (by simp)).1;refine ba (Jn (Ak w0 F.slot_zip_next (Ug F.slot_zip_next w0 F.entry_zip_next (BA hz p0 λo0 D0 g0=>?_) (F.args_zip_next_1 _))));have s0:=Y (t':=s.toks) (by simp) b1 I g0;refine j0.item X rfl rfl rfl _ i q {s with heap:=o0} J H _ _ s0 (j0.keep i _ _ q0 λo e=>g0.extBut _ _ D.i1z e) C0.1 λx F0 u0 d0 d1 e1 S0 a0=>nx5 a b (a0.extBut _ _ D.TOi1 (g0.extBut _ _ D.TOz v0)) λt0 f1 h0=>?_
  have U0:Inv X q J H {s with heap:=u0,toks:=d0}:=Y (s':={s with heap:=o0}) (by simp) (k0 b0 (by simp)).1 s0 a0;have z0:Inv X q J H {s with heap:=t0,toks:=d0}:=Y (s':={s with heap:=u0,toks:=d0}) (by simp) (k0 TO (by simp)).1 U0 h0;refine n0.item X rfl rfl rfl _ i q {s with heap:=t0,toks:=d0} J H _ _ z0 (n0.keep i _ _ r0 λo e=>h0.extBut _ _ D.TOi2.symm (a0.extBut _ _ D.i12.symm (g0.extBut _ _ D.i2z e))) C0.2 λy V0 W0 e0 A1 B1 g1 l0=>⟨l0.extBut _ _ D.TOi2 f1,λO h1 i0=>?_⟩
  have C1:Inv X q J H {s with heap:=W0,toks:=e0}:=Y (s':={s with heap:=t0,toks:=d0}) (by simp) (k0 f0 (by simp)).1 z0 l0;have i1:Inv X q J H {s with heap:=O,toks:=e0}:=Y (s':={s with heap:=W0,toks:=e0}) (by simp) (k0 TO (by simp)).1 C1 i0;have all:∀c o,c≠z->c≠TO->c≠b0->c≠f0->s.heap.get? c=some o->O.get? c=some o:=λc o D1 j1 E1 F1 e=>i0.extBut _ _ j1 (l0.extBut _ _ F1 (h0.extBut _ _ j1 (a0.extBut _ _ E1 (g0.extBut _ _ D1 e))))
  have k1:=i0.extBut _ _ D.TOz.symm (l0.extBut _ _ D.i2z.symm (h0.extBut _ _ D.TOz.symm (a0.extBut _ _ D.i1z.symm D0)));refine⟨k1,λl1 m1 n1 o1 G1=>⟨_,rfl,Aa ⟨_,rfl,wpAny_letOwnedTupleGo_zip G1 λp1 H1 q1=>?_⟩⟩⟩;have lt:∀c∈[z,TI,TO,b0,f0],c<O.objs.size:=λc c0=>by
   simp only[Mb,Tg,Vg]at c0;rcases c0 with e|e|e|e|e
   ·rw[e];exact pb k1
   ·rw[e];exact pb (all _ _ D.TIz D.TITO D.TIi1 D.TIi2 p0)
   ·rw[e];exact pb h1
   ·rw[e];obtain⟨o,A0,_⟩:=j0.obj _ _ S0;exact pb (i0.extBut _ _ D.TOi1.symm (l0.extBut _ _ D.i12 (h0.extBut _ _ D.TOi1.symm A0)))
   ·rw[e];obtain⟨o,A0,_⟩:=n0.obj _ _ g1;exact pb (i0.extBut _ _ D.TOi2.symm A0)
  have r1:O.get? O.objs.size=none:=uj (Ra _);have I1:Inv X q J (upd H O.objs.size (.tup [x,y])) {s with heap:=O.push {cls:=.type "tuple",data:=.seq #[F0,V0]},toks:=e0}:=
   YG (s:={s with heap:=O,toks:=e0}) i1 (λb u e=>Xa _ e) r1 (⟨by show 2<=JQ;decide,nx18 ([F0,V0]) (.cons d1 (.cons A1 .nil)) _ ⟨ec _ rfl,rfl,_,rfl⟩⟩)
  have X0:(upd H O.objs.size (.tup [x,y])) z=none:=by rw[ka (by grind)];exact b1
  have J1:Inv X q J (upd H O.objs.size (.tup [x,y])) {s with heap:=l1,toks:=e0}:=Y (s':={s with heap:=O.push {cls:=.type "tuple",data:=.seq #[F0,V0]},toks:=e0}) (by simp) X0 I1 n1;have K1:Inv X q J (upd H O.objs.size (.tup [x,y])) {s with heap:=m1,toks:=e0}:=Y (s':={s with heap:=l1,toks:=e0}) (by simp) X0 J1 o1;have L1:Inv X q J (upd H O.objs.size (.tup [x,y])) {s with heap:=p1,toks:=e0}:=Y (s':={s with heap:=m1,toks:=e0}) (by simp) X0 K1 q1;have G0:∀c o,c≠z->O.get? c=some o->p1.get? c=some o:=λc o n e=>q1.extBut _ _ n (o1.extBut _ _ n (n1.extBut _ _ n (Xa _ e)))
  refine nx4 (.ref O.objs.size) _ L1 rfl (nx8 O.objs.size x y e1 B1 rfl (Sj i1 r1) rfl) ⟨H1,G0 _ _ D.TIz (all _ _ D.TIz D.TITO D.TIi1 D.TIi2 p0),⟨_,_,G0 _ _ D.TOz h1⟩,
   j0.keep _ _ _ S0 λo e=>G0 _ o D.i1z (i0.extBut _ _ D.TOi1.symm (l0.extBut _ _ D.i12 (h0.extBut _ _ D.TOi1.symm e))),n0.keep _ _ _ g1 λo e=>G0 _ o D.i2z (i0.extBut _ _ D.TOi2.symm e)⟩ λc c0=>?_
  rw[ka (Ob (lt c c0))];exact(k0 c c0).1
 done:=by
  intro X I0 J0 K0 c0 i q s J H E I k0 st C0;subst I0 J0 K0;obtain⟨hz,p0,⟨a,b,v0⟩,q0,r0⟩:=st;have t1:X.A.in1.handled=none:=I.ok.hd c0;have w0:s.TypeIs (.ref z) "zip":=⟨_,hz,rfl⟩;have Y:∀{s':GQ}{h':NQ}{t':Nat}{it:FQ},it∈[z,TI,TO,b0,f0]->Inv X q J H s'->(∀b o,b≠it->s'.heap.get? b=some o->h'.get? b=some o)->Inv X q J H {s' with heap:=h',toks:=t'}:=λ{s' h' t' it}L0 x0 y0=>by
   obtain⟨a1,M0,z1,N0,O0,Q0⟩:=k0 it L0;exact x0.turned y0 a1 M0 N0 O0 Q0
  have same:∀{it:FQ}{g h:NQ},Heap.SameBut it g h->∀b o,b≠it->g.get? b=some o->h.get? b=some o:=λy0 b o R0 e=>(y0.2 b R0).trans e
  refine ba (Jn (Ak (name:=Str.ofString "__next__") w0 F.slot_zip_next (Ug F.slot_zip_next w0 F.entry_zip_next (BA hz p0 λo0 D0 g0=>?_) (F.args_zip_next_1 _))));have s0:Inv X q J H {s with heap:=o0}:=Y (by simp) I (same g0);have B0:=j0.keep i _ _ q0 λo e=>g0.extBut _ _ D.i1z e
  have u1:∀{g:NQ}{H0:Nat}{e:FQ},Inv X q J H {s with heap:=g,toks:=H0}->uS g z TI TO .ellipsis->(∃o,g.get? e=some o/\o.cls=.type "StopIteration")->uS g z TI TO .ellipsis/\∀Y0,Heap.SameBut z g Y0->
    wpAny (KQ X.prog X.w) X.A ((do if<-BR (.ref e) (.type "StopIteration")then return none else throw (.ref e)):Sem (Option EQ)) (λr s1=>r=none/\Inv X q J H s1) E {s with heap:=Y0,toks:=H0}:=λ{g H0 e}x0 M1⟨o,A0,N1⟩=>⟨M1,λY0 i0=>by
   have ne:e≠z:=λy=>by grind
   exact ba (nS ⟨o,i0.extBut _ _ ne A0,N1⟩ isSubtype_stop (Aa ⟨rfl,Y (s':={s with heap:=g,toks:=H0}) (by simp) x0 (same i0)⟩))⟩
  rcases C0 with O1|⟨P1,Q1⟩
  ·exact j0.done X rfl rfl rfl _ t1 i q {s with heap:=o0} J H _ _ s0 B0 O1 λu0 e a0 Z0=>u1 (Y (s':={s with heap:=o0}) (by simp) s0 a0) (a0 _ _ D.i1z.symm D0) Z0
  ·refine j0.item X rfl rfl rfl _ i q {s with heap:=o0} J H _ _ s0 B0 P1 λx F0 u0 d0 d1 e1 S0 a0=>nx5 a b (a0.extBut _ _ D.TOi1 (g0.extBut _ _ D.TOz v0)) λt0 f1 h0=>?_
   have U0:Inv X q J H {s with heap:=u0,toks:=d0}:=Y (it:=b0) (s':={s with heap:=o0}) (by simp) s0 (same a0);have z0:Inv X q J H {s with heap:=t0,toks:=d0}:=Y (it:=TO) (s':={s with heap:=u0,toks:=d0}) (by simp) U0 (same h0);refine n0.done X rfl rfl rfl _ t1 i q {s with heap:=t0,toks:=d0} J H _ _ z0 (n0.keep i _ _ r0 λo e=>h0.extBut _ _ D.TOi2.symm (a0.extBut _ _ D.i12.symm (g0.extBut _ _ D.i2z e))) Q1 λW0 e l0 Z0=>?_
   exact u1 (Y (s':={s with heap:=t0,toks:=d0}) (by simp) z0 l0) (l0 _ _ D.i2z.symm (h0.extBut _ _ D.TOz.symm (a0.extBut _ _ D.i1z.symm D0))) Z0
 self:=λ_ _ _ _ _ st h=>wpAny_pyIter_zip st.1 h
inductive fh(h:NQ):EQ->bR->Prop where
 |list{l:FQ}{xs:Array EQ}(e:h.IsList l xs):fh h (.ref l) {cls:=.type "list_iterator",data:=.fields #[.ref l,.int 0 0]}
 |tup{l:FQ}{xs:Array EQ}(e:h.IsTuple l xs):fh h (.ref l) {cls:=.type "tuple_iterator",data:=.fields #[.ref l,.int 0 0]}
 |str(y:Str)(t:Tok):fh h (.str y t) (Us y t)
def fh.keep(x:fh h u o)(k:∀b o,h.get? b=some o->h'.get? b=some o):fh h' u o:=by
 cases x with
 |list e=>exact .list (e.at λo q=>k _ o q)
 |tup e=>obtain⟨o,e,r⟩:=e;exact .tup ⟨o,k _ _ e,r⟩
 |str y t=>exact .str y t
def CA(x:fh s.heap u o)(h:Q (.ref s.heap.objs.size) {s with heap:=s.heap.push o}):wpAny (KQ P w) A (cS u) Q E s:=by
 cases x with
 |list e=>exact rm e h
 |tup e=>exact wpAny_pyIter_tuple e h
 |str y t=>exact cH h
abbrev zA(h:NQ)(q:bR):NQ:=h.push q
abbrev zB(h:NQ)(q J:bR):NQ:=(zA h q).push J
abbrev zC(h:NQ)(q J:bR):NQ:=(zB h q J).push {cls:=.type "tuple",data:=.seq #[.ref h.objs.size,.ref (zA h q).objs.size]}
abbrev zD(h:NQ)(q J:bR):NQ:=(zC h q J).push {cls:=.type "tuple",data:=.seq #[.none,.none]}
abbrev zE(h:NQ)(q J:bR):NQ:=(zD h q J).push {cls:=.type "zip",data:=.fields #[.none,.bool IQ,.bool IQ,.ref (zB h q J).objs.size,.ref (zC h q J).objs.size]}
structure DA(h g:NQ)(o1 o2:bR)(z TI TO i1 i2:FQ):Prop where
 zip:uS g z TI TO .none
 ins:eS g TI (.ref i1) (.ref i2)
 outs:eS g TO .none .none
 one:g.get? i1=some o1
 two:g.get? i2=some o2
 keep:∀c o,h.get? c=some o->g.get? c=some o
 young:∀c∈[z,TI,TO,i1,i2],h.objs.size<=c
 ap:ww z TI TO i1 i2
def EA(h:NQ)(d0:q.isFreed=IQ)(e0:J.isFreed=IQ):DA h (zE h q J) q J (zD h q J).objs.size (zB h q J).objs.size (zC h q J).objs.size h.objs.size (zA h q).objs.size:=by
 have O:∀{g:NQ}{a:FQ}{o u:bR},g.get? a=some o->(g.push u).get? a=some o:=λe=>Xa _ e
 have at_:∀{g:NQ}{o:bR},o.isFreed=IQ->(g.push o).get? g.objs.size=some o:=λe=>ec _ e
 have Y:(zA h q).objs.size=h.objs.size+1:=Gk ..;have a0:(zB h q J).objs.size=h.objs.size+2:=by rw[Gk,Y]
 have b0:(zC h q J).objs.size=h.objs.size+3:=by rw[Gk,a0]
 have c0:(zD h q J).objs.size=h.objs.size+4:=by rw[Gk,b0]
 refine⟨at_ rfl,O (O (at_ rfl)),O (at_ rfl),by grind,by grind,by grind,λc f0=>?_,?_⟩
 ·grind
 ·rw[Y,a0,b0,c0];exact gH _
def iH(Y O:EQ)(q J:bR):
  Meets (Builtin.«zip.__new__» ⟨[.type "zip",Y,O],[]⟩) (λ_ R s=>fh s.heap Y q/\fh s.heap O J/\R (.ok (.ret (.ref (zD s.heap q J).objs.size))) {s with heap:=zE s.heap q J}):=
 .of_wp λprog w A R s⟨a0,b0,r⟩=>by
  obtain⟨c0,g,d,d0,os⟩:=s;have f0:=sub_zip;have e0:=a0;have L2:fh (Shared.heap ⟨c0.push q,g,d,d0,os⟩) O J:=b0.keep λb o e=>Xa _ e
  wp_walk using CA e0,CA L2
  exact⟨_,rfl,r⟩
def jH(c0:fh s.heap q O)(d0:fh s.heap J Y)(a0:O.isFreed=IQ)(b0:Y.isFreed=IQ)
  (k:∀g z TI TO e0 f0,DA s.heap g O Y z TI TO e0 f0->Q (.ref z) {s with heap:=g}):wpAny (KQ P w) A (call (.type "zip") [q,J]) Q E s:=
 callType_new F.called_zip (by decide) (F.typeCall_zip_2 q J) (F.newCall_zip_2 q J) (λobj=>F.args_object_init_3 obj q J) F.entry_zip_new (iH q J O Y) ⟨c0,d0,⟨_,(EA s.heap a0 b0).zip,rfl⟩,k _ _ _ _ _ _ (EA s.heap a0 b0)⟩
end
inductive yo(K:W.Frag)(H:Hp):V->It->Prop where
 |list{a:FQ}{xs:List V}(h:ja K H a xs):yo K H (.ref a) (Wi K a)
 |tup{a:FQ}{xs:List V}(h:xa K H a xs):yo K H (.ref a) (Wp K a)
 |str(y:Str):yo K H (.str y) (vw (el y))
section
variable{X:Cx}
def FA{q:L2.St}(I:Inv X a0 q H s)(x:yo X.K H v J)(r:Sa v u):∃o,fh s.heap u o/\o.isFreed=IQ/\∀it h',h'.get? it=some o->∃st,Src X.prog X.w X.K J it st/\st 0 h':=by
 cases x with
 |list h=>
  cases r;obtain⟨O,Y,p,hz⟩:=I.list h;exact⟨_,.list p.isList,rfl,λit h' e=>⟨_,dH _ it,_,e,rfl,rfl⟩⟩
 |tup h=>
  cases r;obtain⟨O,Y,p,hz⟩:=I.tuple h;exact⟨_,.tup (p),rfl,λit h' e=>⟨_,fH _ it,_,e,rfl,rfl⟩⟩
 |str y=>
  obtain⟨t,rfl⟩:=r;exact⟨_,.str y t,rfl,λit h' e=>⟨_,eH y t it,_,e,rfl,rfl⟩⟩
def kH(K:W.Frag)(Y:TA):TI:=λa0 H R=>Y a0 H λvs q=>∃u v J O,vs=[u,v]/\yo K q u J/\yo K q v O/\R (xo J O) q
def lH{p J:jR}{a0:List SQ}{b0:Nat}{c0:jR}(d0:Gl X "zip")(e0:X.mg "zip"=none)(f0:PA X [a,b] g0)(h0:LQ [a,b] X.env=[(IQ,RQ a X.env),(IQ,RQ b X.env)]:=by rfl)(O:LQ [b] X.env=[(IQ,RQ b X.env)]:=by rfl):
  PI X (.Tuple a0 b0 c0) (.Call (.Name "zip" p) [a,b] [] J) (kH X.K g0):=by
 constructor;intro i0 s j0 H R I h;refine Call_ (Jh I d0 e0 boot_zip (im (Fa (f0 J i0 s j0 H _ I h) ?_) (by rw[h0,O]) (by rw[O];rfl)));rintro us s1⟨vs,k0,q,l0,n0⟩;obtain⟨x,y,o0,p0,rfl,q0,r0,s0⟩:=n0;obtain⟨u,J0,rfl,t0,u0⟩:=aq l0;obtain⟨K0,v0,w0,x0⟩:=FA q q0 t0;obtain⟨L0,y0,z0,A0⟩:=FA q r0 u0;refine jH v0 y0 w0 z0 λg z TI TO B0 C0 Z=>?_
 obtain⟨M0,D0,F0⟩:=x0 _ _ Z.one;obtain⟨N0,G0,H0⟩:=A0 _ _ Z.two;have I0:=q.kept (t':=s1.toks) Z.keep;exact wpAny_pyIter_zip Z.zip ⟨z,[z,TI,TO,B0,C0],_,xo o0 p0,k0,rfl,I0,hH Z.ap D0 G0,⟨Z.zip,Z.ins,⟨_,_,Z.outs⟩,F0,H0⟩,λb Y=>q.Ce (Z.young b Y) (q.za.fresh (Z.young b Y)),s0⟩
end
structure Vs(J:It)(H:Hp)(xs:List V):Prop where
 go:∀i,i<xs.length->J.go i H
 stop:∀i,xs.length<=i->J.stop i H
 pe:∀i x H',J.pe i H x H'->xs[i]?=some x
def zo{K:W.Frag}(h:ja K H a xs):Vs (Wi K a) H xs:=⟨λi hi=>⟨xs,xs[i],h,by simp[hi]⟩,λi hi=>⟨xs,h,hi⟩,λi x H' y=>y.2 xs h⟩
def GA{K:W.Frag}(h:xa K H a xs):Vs (Wp K a) H xs:=⟨λi hi=>⟨xs,xs[i],h,by simp[hi]⟩,λi hi=>⟨xs,h,hi⟩,λi x H' y=>y.2 xs h⟩
def HA{g:TG}{e0:TS}{D:Se}(Pv:Nat->L2.St->Hp->Prop)(q0:Pv 0 q H)(g0:∀i q H,Pv i q H->Vs O H xs/\Vs Y H ys)
  (h0:∀i x y q H p,xs[i]?=some x->ys[i]?=some y->Pv i q H->H p=none->g (.ref p) q (upd H p (.tup [x,y])) λa0 b0=>e0 {D with nx:=Pv (i+1),ct:=Pv (i+1),bk:=D.nx} a0 b0)(i0:∀q H,Pv (min xs.length ys.length) q H->D.nx q H):
  ∃W:Nat->Nat->L2.St->Hp->Prop,(∃m,W 0 m q H)/\∀i m q H,W i m q H->
   ((xo O Y).stop i H/\D.nx q H)\/((xo O Y).go i H/\∃N:L2.St->Hp->Prop,(∀c0 H',N c0 H'->∃f0,f0<m/\W (i+1) f0 c0 H')/\∀x H',(xo O Y).pe i H x H'->g x q H' λa0 b0=>e0 {D with nx:=N,ct:=N,bk:=D.nx} a0 b0):=by
 refine⟨λi m q H=>m=min xs.length ys.length-i/\i<=min xs.length ys.length/\Pv i q H,by grind,?_⟩;rintro i m q H⟨rfl,hi,p⟩;obtain⟨J,d0⟩:=g0 i q H p;by_cases j0:i<min xs.length ys.length
 ·refine .inr ⟨⟨J.go i (by lia),d0.go i (by lia)⟩,Pv (i+1),λc0 H' k0=>⟨min xs.length ys.length-(i+1),by lia,rfl,j0,k0⟩,λv H' y=>?_⟩;obtain⟨l0,x,y,n0,o0,rfl,p0,rfl⟩:=y;exact h0 i x y q H l0 (J.pe i x _ n0) (d0.pe i y _ o0) p p0
 ·have e:i=min xs.length ys.length:=by lia
  subst e;refine .inl ⟨?_,i0 q H p⟩;by_cases h:xs.length<=ys.length
  ·exact .inl (J.stop _ (by lia))
  ·exact .inr ⟨J.go _ (by lia),d0.stop _ (by lia)⟩
section
variable{X:Cx}{pins:List (FQ×bR)}{σ:L2.St}{H:Hp}{s:GQ}{scope:nR}{N:List Str}{target iter elt:SQ}{pos:jR}{g:TG}{te:TE}
def IA(I:Inv X pins σ H s)(q:∀b∈fp,Jg X pins H b)(os:s'.os=s.os)(J:oR s'.gens)(un:Un (gc X.stack) fp H H' s.heap s'.heap)(O:fc X.prog X.w H' s'.heap)(Y:H' C=none)(a0:s.heap.objs.size<=C):
  Inv X pins σ H' s'/\Jg X pins H' C:=
 ⟨I.Df os un O J λb b0=>by obtain⟨_,c0,_,d0,e0,f0⟩:=q b b0;exact⟨d0,c0,e0,f0⟩,I.Ce a0 Y⟩
def JA(I:Inv X pins σ H' s)(f:Jg X pins H' C)(k:Heap.SameBut C s.heap h'):Inv X pins σ H' {s with heap:=h'}:=by
 obtain⟨q,J,_,O,Y,a0⟩:=f;exact I.turned (t':=s.toks) (λb o b0 e=>(k.2 b b0).trans e) q J O Y a0
end
open PySem.Builtin.Str
def mH{P:MQ}{w:PQ}{X:Cx}:ti (Xe P w) X (λ_ _ _=>False):=λ_ _ _ _ _ _ _ h=>by
 obtain⟨_,_,_,_,_,_,_,_,_,_,_,_,_,_,_,_,z⟩:=h;exact z.elim
end My
namespace My
open PySem PySem.Spec PyProof.Rows L2
def xw{X:Cx}{K:W.Frag}{q:List SQ}{k:Nat}{t:Ij}{n:Nat}{J:jR}(O:X.K=K)(Y:X.calm=HQ)(h:Am X q t)(a0:(vR q X.env).length=n:=by rfl)(b0:(vR q X.env).findIdx? (·.1)=none:=by rfl):PG X (.Tuple q k J) (Xy K n t):=by
 subst O;exact jo Y h a0 b0
end My
namespace My
open PySem
section
variable{prog:MQ}{w:PQ}{A:OQ}{E:EQ->GQ->Prop}{h:NQ}{g:Array GenState}{d:MS}{t:Nat}{os:OsState}
variable{nm q:Str}{C N:FQ}{bs bm KA:List EQ}{yw:Bool}{sn:List Str}{sub:List EQ}{ab:Bool}{col:Option Bool}{dd:Option FQ}{k0 k1 k2 k3 k5:Option EQ}{B newId Rm:String}
def LA(rest:List EQ):bR:={cls:=.type "tuple",data:=.seq rest.toArray}
def zw(h:NQ)(C:FQ):bR:={cls:=.ref C,data:=.fields #[.ref h.objs.size,.none,.none,.none,.bool IQ,.none]}
def Sm(h:NQ)(C:FQ)(rest:List EQ):NQ:=(h.push (LA rest)).push (zw h C)
def Aw(J:h.get? b=some o):(Sm h C rest).get? b=some o:=Xa _ (Xa _ J)
def MA:(Sm h C rest).get? (h.objs.size+1)=some (zw h C):=by unfold Sm zw LA;heap_get
def nH:Heap.MadeExcOf h (Sm h C rest) (h.objs.size+1) (.ref C) rest:=
 ⟨λ_ _ J=>Aw J,uj (wj _),h.objs.size,MA,uj (Ra _),Xa _ (Heap.get?_push_at rfl rfl)⟩
def oH(F:ExcBaseFacts B newId Rm KA)(T:hT h KA bm)
 (X:K.In h)(J:h.get? C=some (xR nm q C N bs bm yw sn sub ab col dd k0 k1 k2 k3 k5 newId))(hi:W.findIn K (.ref C) "__init__"=some (some (.ref O)))(a0:W.typeIn K (.ref O)=some (.type "function"))
    (b0:∀h' e,Heap.MadeExcOf h h' e (.ref C) rest->wpAny (KQ prog w) (A.under (.builtin "type.__call__" ⟨.ref C::rest,[]⟩)) (call (.ref O) (.ref e::rest)) (λr s'=>r=.none/\Q (.ref e) s') E ⟨h',g,d,t,os⟩)
    (c0:rest.length<=JQ:=by size_fits):wpAny (KQ prog w) A (call (.ref C) rest) Q E ⟨h,g,d,t,os⟩:=by
  have i0:=tc_lookup;have j0:=tc_bind (.ref C);have l0:(⟨h,g,d,t,os⟩:GQ).TypeIs (.ref C) "type":=⟨_,J,rfl⟩;refine fi (Lp ?_);show wpAny _ _ (callAny (.ref C) _) _ _ _;repeat(any_goals(first|assumption|with_reducible refine Kk J ?_|wp_step))
  refine⟨rfl,codeAny_call_builtin_at (Ir _ (by decide+kernel)) entry_typeCall (wpAny_check_type_call_sub J ?_)⟩;repeat(first|with_reducible refine Kk J ?_|with_reducible refine wpAny_madeBy_exc J ?_|wp_step)
  refine codeAny_call_builtin_code (Ir _ F.quiet) (wpAny_check_new_subT F T J (codeAny_exc_new_subT F T J ?_ c0));show wpAny _ _ _ _ _ ⟨Sm h C rest,g,d,t,os⟩;have d0:(Sm h C rest).get? (h.objs.size+1)=some {cls:=.ref C,data:=.fields #[.ref h.objs.size,.none,.none,.none,.bool IQ,.none]}:=MA;have e0:=Aw (C:=C) (rest:=rest) J;have f0:(Value.ref C::bm).contains (.ref C)=HQ:=by simp
  unfold BR;repeat(first|with_reducible refine Kk d0 ?_|(with_reducible refine wpAny_isSubtype_exc e0 ?_;rw[f0])|wp_step)
  show wpAny _ _ (aS (.ref C) _) _ _ _;have Y:K.In (Sm h C rest):=X.keeps λ_ _=>Aw
  refine(Gn Y hi).at ?_;refine eg (ba ?_);unfold bindSpecial;refine ba ((W.looks_typeIn Y a0).at ?_);rw[Ca (by decide)];refine Aa (ba (Kc (b0 _ _ nH) (?_) λ_ _ x=>x));rintro r s' ⟨g0,h0⟩;subst g0;wp_walk
  exact h0
end
open PySem.Spec PyProof.Rows L2
abbrev gl:List EQ:=[.type "ValueError",.type "Exception",.type "BaseException",.type "object"]
def Ao(K:W.Frag)(C:FQ):Prop:=∃q N J O bs Y a0 sub b0 c0 dd d0 e0 f0 g0 h0,K.lookup C=some (xR J O C N bs q Y a0 sub b0 c0 dd d0 e0 f0 g0 h0 "ValueError.__new__")/\∀h,K.In h->hT h gl q
def NA{K:W.Frag}
  (lk:K.lookup C=some (xR a0 b0 C N bs (.ref S::gl) c0 d0 sub e0 f0 dd g0 h0 i0 j0 k0 "ValueError.__new__"))(q:W.excIn K S gl "ValueError.__new__"=HQ):Ao K C:=
 nx3 _ _ _ _ _ _ _ (nx3 _ _ _ _ _ _ _ (nx5 _ _ lk λ_ X=>by obtain⟨_,_,_,_,_,_,_,_,_,_,_,_,_,_,_,_,_,J,O,Y,_⟩:=WG X q;exact .own J O Y .base))
def Bw{K:W.Frag}(X:K.In h)(i0:Ao K C):
  ∃q N J O bs Y a0 sub b0 c0 dd d0 e0 f0 g0 h0,h.get? C=some (xR J O C N bs q Y a0 sub b0 c0 dd d0 e0 f0 g0 h0 "ValueError.__new__")/\hT h gl q:=by
 obtain⟨q,N,J,O,bs,Y,a0,sub,b0,c0,dd,d0,e0,f0,g0,h0,lk,j0⟩:=i0;exact nx3 q N J O bs Y a0 (nx3 sub b0 c0 dd d0 e0 f0 (nx5 g0 h0 (X _ _ lk) (j0 h X)))
section
variable{prog:MQ}{w:PQ}{A:OQ}{E:EQ->GQ->Prop}{h:NQ}{g:Array GenState}{d:MS}{t:Nat}{os:OsState}{a C:FQ}{ox:bR}{od:Option bR}{K:W.Frag}{name:Str}{v:EQ}
def pH(X:K.In h)(I:W.InstAt h a ox C od)(q:W.findObj K C od name=some (.value v))(J:Q (.done (.ret v)) ⟨h,g,d,t,os⟩):
  wpAny (KQ prog w) A (Builtin.«object.__getattribute__» ⟨[.ref a,.str name a0],[]⟩) Q E ⟨h,g,d,t,os⟩:=by
 have O:=I.type (M:=KQ prog w);have Y:=W.looks_find (M:=KQ prog w) X I q;unfold Builtin.«object.__getattribute__»;refine ba (Aa (ba (Aa (ba (O.at (ba (Y.at ?_)))))));exact Aa J
def qH{Y:Tok}{fill q:Bool}{Q:EQ->GQ->Prop}(X:K.In h)(T:e3a K C)(I:W.InstAt h a ox C od)(a0:W.findObj K C od name=some (.value v))(b0:W.handedIn v=HQ)(c0:Q v ⟨h,g,d,t,os⟩):
  wpAny (KQ prog w) A (getAttrBy (.ref a) (.str name Y) fill q) Q E ⟨h,g,d,t,os⟩:=by
 have f0:=F.attr_ValueError.ga.bind (.ref a);have J:=I.at_;have O:=I.cls;have g0:(q&&onTheHeap (Value.builtin "BaseException.__getattribute__"))=IQ:=by cases q<;>rfl
 have d0:(Value.builtin "BaseException.__getattribute__"==Value.builtin "object.__getattribute__")=IQ:=by decide+kernel
 have h0:(onTheHeap (Value.ref C)&&Value.builtin "BaseException.__getattribute__"==Value.builtin "object.__getattribute__")=IQ:=by rw[d0];rfl
 have e0:=Gn (M:=KQ prog w) X T.ga;have L2:=Gn (M:=KQ prog w) X T.gt;repeat(any_goals(first|assumption|(with_reducible refine Kk J ?_;rw[O])|with_reducible refine am e0 ?_|with_reducible refine am L2 ?_|wp_step))
 refine km F.attr_ValueError.ga.plain F.entry_bexc_ga (aH X T J O (pH X I a0 ?_));dsimp only;repeat(any_goals(first|assumption|wp_step))
 show wpAny _ _ (handedOut v) _ _ _;rw[W.handedOut_of b0];exact Aa c0
def rH(X:K.In s.heap)(T:e3a K C)(I:W.InstAt s.heap a ox C od)(q:W.findObj K C od name=some (.value v))(J:W.handedIn v=HQ)
  (O:Q v {s with toks:=s.toks+1}):wpAny (KQ prog w) A (kS (.ref a) name Y) Q E s:=by
 unfold kS;exact ba (wpAny_mkText (qH X T I q J O))
structure Uj(K:W.Frag)(C:FQ):Prop where
 sa:W.findIn K (.ref C) "__setattr__"=some (some (.builtin "object.__setattr__"))
 hd:W.hasDictIn K C=HQ
 mO:W.mroIn K C (.type "object")=some HQ
 tl:Ao K C
def sH(q:refuseLoop self J O=pure ()):∀{l:List EQ},hT h O l->refuseLoop self J l=pure ():=by
 intro _ h;induction h with
 |base=>exact q
 |own _ _ _ T Y=>exact(refuseLoop_ref _ _ _ _).trans Y
def OA{s:GQ}{R:gT->GQ->Prop}{J:Tok}(X:K.In s.heap)(T:Uj K C)(I:W.InstAt s.heap a ox C od)(Y:W.findIn K (.ref C) name=some none)
  (a0:wpAny (KQ prog w) A.in1 (Builtin.ObjectAttr.storeInOwnDict (.ref a) (.ref C) (.str name J) name v IQ)
   (λfin s'=>match fin with|.done f=>R (.ok f) s'|.again O=>O.quiet=HQ/\codeAny (KQ prog w) A O R s') (λe s'=>R (.error e) s') s):
  codeAny (KQ prog w) A (.call (.builtin "object.__setattr__") ⟨[.ref a,.str name J,v],[]⟩) R s:=by
 have q:=F.store_ValueError;obtain⟨b0,d0,e0,f0,bs,g0,h0,i0,j0,k0,dd,l0,n0,o0,p0,q0,lk,tl⟩:=T.tl;have sub:W.Looks (KQ prog w) s.heap (BR (.ref a) (.type "object")) HQ:=I.type.andThen (W.looks_mroIn X T.mO);refine km q.slot.plain q.entry (@W.check_slot (KQ prog w) _ _ s "object.__setattr__" "object" "__setattr__" (.ref a) [.str name J,v] [] _ q.kind q.split sub (q.args (.ref a) (.str name J) v) ?_);have c0:W.Looks (KQ prog w) s.heap (mroOf (.ref C)) (.ref C::b0):=(Hr X (by unfold W.clsIn;rw[lk])).andThen .now;rw[W.osa_eq,refuse_eq];refine ba (ba (I.type.here (ba (c0.here ?_))));rw[refuseLoop_ref,sH (q.passes _) (tl _ X)];exact Aa (ba (I.type.here (ba ((Gn X Y).here (ba (Aa a0))))))
end
def Vj(a C:FQ)(d:Option FQ)(h:NQ):Prop:=∃o,h.get? a=some o/\o.cls=.ref C/\o.dict=d/\∃vs q,o.data=.fields vs/\vs[0]?=some (.ref q)/\vs[1]?=some .none/\vs[2]?=some .none
abbrev uq(a C q:FQ)(h:NQ):Prop:=Tj a C (some q) h
def QA(J:FQ)(fs:List (Str×V))(h:NQ):Prop:=fs.length<=1000/\∃q,h.Ns1 J q/\∀f,bd (fs.lookup f) (q f)
abbrev Zd(a C:FQ)(d:Option FQ):HO:=.ext (Vj a C d)
abbrev Ge(q:FQ)(fs:List (Str×V)):HO:=.ext (QA q fs)
section
variable{P:MQ}{w:PQ}{H:Hp}{h:NQ}{a C dx:FQ}{fs:List (Str×V)}
def Cw(e:Vj a C d h):Fb P w H h a (Zd a C d):=⟨e,by obtain⟨o,q,_⟩:=e;exact⟨o,q⟩,by rintro _ _⟨o,q,r⟩k;exact⟨o,k o q,r⟩⟩
def Vj.any(e:Vj a C (some dx) h):uq a C dx h:=by obtain⟨o,q,c,d,vs,J,x,_⟩:=e;exact⟨o,q,c,by unfold W.notCls;rw[x],d⟩
def Dw(e:QA dx fs h):Fb P w H h dx (Ge dx fs):=⟨e,by obtain⟨_,_,⟨o,_,_,q,_⟩,_⟩:=e;exact⟨o,q⟩,by rintro _ _⟨l,m,n,r⟩k;exact⟨l,m,n.at k,r⟩⟩
def tH{q:Str->Option EQ}(r:∀f,bd (fs.lookup f) (q f)):PySem.Within q (fs.map (·.1)):=by
 intro f O;have J:=r f;cases e:fs.lookup f with
 |none=>rw[e]at J;exact absurd (bd.none_of J) O
 |some v=>
  grind
end
section
variable{X:Cx}{pins:List (FQ×bR)}{σ:L2.St}{H:Hp}{s:GQ}{a C dx:FQ}{fs:List (Str×V)}{A:OQ}{E:EQ->GQ->Prop}{f:Str}{y v:V}{u:EQ}
def uH(I:Inv X pins σ H s)(e:H a=some (.ext q))(O:∀h,q h->uq a C dx h)(Y:H dx=some (Ge dx fs))(T:e3a X.K C)(c:Uj X.K C)(n:W.findIn X.K (.ref C) f=some none)(l:fs.lookup f=some v)
  (h:∀u s',Inv X pins σ H s'->Sa v u->Q u s'):wpAny (KQ X.prog X.w) A (kS (.ref a) f b) Q E s:=by
 obtain⟨o,ho,a0,b0,hd⟩:=O _ (show Fb X.prog X.w H s.heap a (.ext q)from I.za a _ e).1;obtain⟨_,c0,d0,r⟩:=(show Fb X.prog X.w H s.heap dx (Ge dx fs)from I.za dx _ Y).1;obtain⟨od,e0,f0⟩:=Rv d0;obtain⟨u,g0,J⟩:=bd.some_of (v:=v) (o:=c0 f) (by grind);exact rH I.rb T (od:=some od) ⟨ho,a0,b0,by rw[hd];exact e0⟩ (W.findObj_own c.hd n rfl (by rw[f0,g0])) (Vv J) (h u _ (I.tok _) J)
def vH(I:Inv X pins σ H s)(e:H a=some (.ext O))(e0:∀h,O h->uq a C dx h)(Y:H dx=some (Ge dx fs))(c:Uj X.K C)(n:W.findIn X.K (.ref C) f=some none)(q0:fs.length<1000)(f0:Sa y u)
  (h:∀s',Inv X pins σ (upd H dx (Ge dx (Jd f y fs))) s'->Q () s'):wpAny (KQ X.prog X.w) A (setAttr (.ref a) f u) Q E s:=by
 obtain⟨o,ho,q,g0,hd⟩:=e0 _ (show Fb X.prog X.w H s.heap a (.ext O)from I.za a _ e).1;obtain⟨_,h0,a0,r⟩:=(show Fb X.prog X.w H s.heap dx (Ge dx fs)from I.za dx _ Y).1;obtain⟨od,i0,_⟩:=Rv a0;have b0:W.InstAt s.heap a o C (some od):=⟨ho,q,g0,by rw[hd];exact i0⟩;refine W.set_plain I.rb b0 c.sa (OA (s:={s with toks:=s.toks+1}) I.rb c b0 n ?_);obtain⟨cd,j0,k0⟩:=W.any_some c.hd;obtain⟨r0,s0,t0,u0⟩:=o;dsimp only at q hd;subst q hd;refine ba (Aa (ba (ba (LR ho (ba (W.Looks.here (s:={s with toks:=s.toks+1}) (Hr I.rb j0) ?_))))));rw[k0];refine Aa (a:=some dx) (ba (Aa (ba ?_)));refine WS (s:={s with toks:=s.toks+1}) a0 λh' c0 l0=>?_
 obtain⟨oD,v0,w0,d0,n0,o0⟩:=c0.count (PySem.Within.cons f u (tH r));refine ba (mS d0 (by rw[n0];exact qS (qc o0 (by rw[Hk,Na,Fh];lia))) ?_);refine Aa (h _ (I.write (x:=dx) (e:=dx) (by rw[Y];exact True.intro) (.inl rfl) (λb J p0 z=>(l0.2 b p0).trans z) ⟨_,d0⟩ (Dw ⟨?_,_,c0,λg=>?_⟩)))
 ·have:=Uv f y fs;lia
 ·show bd ((Jd f y fs).lookup g) (if g=f then some u else h0 g);rw[Sv];by_cases J:g=f
  ·rw[Ca J,Ca J];exact f0
  grind
def wH(I:Inv X pins σ H s)(e:H a=some (Zd a C none))(c:Uj X.K C)(n:W.findIn X.K (.ref C) f=some none)(l0:Sa y u)
  (h:∀dx s',H dx=none->Inv X pins σ (upd (upd H a (Zd a C (some dx))) dx (Ge dx [(f,y)])) s'->Q () s'):wpAny (KQ X.prog X.w) A (setAttr (.ref a) f u) Q E s:=by
 obtain⟨o,ho,O,hd,vs,n0,b0,o0,p0⟩:=(show Fb X.prog X.w H s.heap a (Zd a C none)from I.za a _ e).1;have c0:W.notCls o=HQ:=by unfold W.notCls;rw[b0]
 have d0:W.InstAt s.heap a o C none:=⟨ho,O,c0,by rw[hd];exact True.intro⟩;refine W.set_plain I.rb d0 c.sa (OA (s:={s with toks:=s.toks+1}) I.rb c d0 n ?_);obtain⟨cd,q0,r0⟩:=W.any_some c.hd;obtain⟨G0,H0,Y,e0⟩:=o;dsimp only at O hd;subst O hd;refine ba (Aa (ba (ba (LR ho (ba (W.Looks.here (s:={s with toks:=s.toks+1}) (Hr I.rb q0) ?_))))));rw[r0];generalize J:s.heap.objs.size=dx;have new:H dx=none:=Sj I (uj (vk J));have ne:a≠dx:=λz=>by grind
 have f0:∀b q,s.heap.get? b=some q->(s.heap.push W.emptyDict).get? b=some q:=λb q z=>Xa _ z
 have s0:(s.heap.push W.emptyDict).get? dx=some W.emptyDict:=J▸ec s.heap rfl;have g0:(s.heap.push W.emptyDict).Ns1 dx (λ_=>none):=Heap.Ns1.of_empty (nx2 _ (#[]) _ s0 rfl (λe t0=>absurd t0 (by simp)) λ_=>rfl);have u0:Inv X pins σ (upd H dx (Ge dx [])) {s with heap:=s.heap.push W.emptyDict,toks:=s.toks+1}:=
  I.laid (a:=dx) f0 (vk J) (Dw ⟨wc _,_,g0,λ_=>True.intro⟩)
 let fD:bR->bR:=λo=>{o with dict:=some dx}
 have h0:=f0 _ _ ho;have i0:((s.heap.push W.emptyDict).update a fD).get? a=some ⟨.ref C,some dx,Y,e0⟩:=by
  refine zk _ h0 ?_;have v0:=(Heap.get?_some_iff.mp ho).2;cases Y<;>first|rfl|exact v0
 have w0:∀b q,b≠a->(s.heap.push W.emptyDict).get? b=some q->((s.heap.push W.emptyDict).update a fD).get? b=some q:=λb q a0 z=>(Jr _ _ _ _ a0).trans z
 have x0:Inv X pins σ (upd (upd H dx (Ge dx [])) a (Zd a C (some dx))) {s with heap:=(s.heap.push W.emptyDict).update a fD,toks:=s.toks+1}:=
  u0.write (x:=a) (e:=a) (by rw[ka ne,e];exact True.intro) (.inl rfl) w0 ⟨_,i0⟩ (Cw (nx16 _ i0 rfl rfl vs n0 ⟨b0,o0,p0⟩))
 have y0:((s.heap.push W.emptyDict).update a fD).Ns1 dx (λ_=>none):=g0.at (by grind);have z0:wpAny (KQ X.prog X.w) A.in1 (Builtin.ObjectAttr.storeInDict dx (.str f s.toks) f u) (λfin s'=>match fin with|.done (.ret _)=>Q () s'|_=>False) (λe s'=>E e s') {s with heap:=(s.heap.push W.emptyDict).update a fD,toks:=s.toks+1}:=by
  refine ba (Aa (ba ?_));refine WS (s:={s with heap:=(s.heap.push W.emptyDict).update a fD,toks:=s.toks+1}) y0 λh' j0 A0=>?_
  obtain⟨oD,I0,J0,k0,B0,C0⟩:=j0.count (PySem.Within.cons f u PySem.Within.nil);refine ba (mS k0 (by rw[B0];exact qS (qc C0 (by grind))) ?_);have D0:=x0.write (x:=dx) (e:=dx) (o:=Ge dx [(f,y)]) (t':=s.toks+2) (by rw[ka ne.symm,ia];exact True.intro) (.inl rfl) (λb q a0 z=>(A0.2 b a0).trans z) ⟨_,k0⟩ (Dw ⟨by grind,_,j0,λg=>?_⟩)
  ·refine Aa (h dx _ new ?_);have F0:upd (upd (upd H dx (Ge dx [])) a (Zd a C (some dx))) dx (Ge dx [(f,y)])=upd (upd H a (Zd a C (some dx))) dx (Ge dx [(f,y)]):=by
    funext b;by_cases q:b=dx
    ·rw[q,ia,ia]
    ·rw[ka q,ka q];by_cases r:b=a
     ·rw[r,ia,ia]
     ·rw[ka r,ka r,ka q]
   rw[<-F0];exact D0
  ·show bd (List.lookup g [(f,y)]) (if g=f then some u else none);by_cases q:g=f
   ·rw[Ca q,q,List.lookup_cons,beq_self_eq_true];exact l0
   ·rw[Ba q,List.lookup_cons,beq_false_of_ne q];exact True.intro
 rw[Ba (by decide)];dsimp only;rw[Ba (by simp[typeHasDict])];split
 ·cases c0
 ·refine ba (wpAny_alloc (ba (wpAny_update (o:=⟨.ref C,none,Y,e0⟩) h0 (Aa ?_))));rw[J];refine Kc z0 (λfin s' z=>?_) λ_ _ z=>z
  rcases fin with(_|_|_|_)|_<;>first|exact z|exact z.elim
end
section
variable{X:Cx}{o e value:SQ}{f:Str}{pos pos':jR}{ta tv:TE}
def xH(K:W.Frag)(a0:X.K=K)(b0:PE X e ta)(c0:YQ e f X.env (RQ e X.env)=RQ e X.env):PE X (.Attribute e f pos)
  (λO H Q=>ta O H λx q=>∃a C J fs v Y,x=.ref a/\q a=some (.ext Y)/\(∀h,Y h->uq a C J h)/\q J=some (Ge J fs)/\e3a K C/\Uj K C/\W.findIn K (.ref C) f=some none/\fs.lookup f=some v/\Q v q):=by
 constructor;intro d0 s O H Q I h;subst a0;refine Wv c0 (Fa (b0 d0 s O H _ I h) ?_);rintro u s1⟨x,q,e0,f0,a,C,J,fs,v,Y,ex,g0,h0,i0,T,c,n,l,j0⟩;subst ex;obtain rfl:u=Value.ref a:=f0;exact uH e0 g0 h0 i0 T c n l λn0 o0 k0 l0=>⟨v,q,k0,l0,j0⟩
def yH(K:W.Frag)(b0:X.K=K)(c0:PE X o ta)(hv:PE X value tv)(d0:kR value (some (.Attribute o f pos')) pos.line X.env=pure IQ):PS X (.Assign [.Attribute o f pos'] value pos)
  (λD q H=>tv q H λy Y=>ta q Y λx O=>∃a C,x=.ref a/\O a=some (Zd a C none)/\Uj K C/\W.findIn K (.ref C) f=some none/\∀J,O J=none->D.nx q (upd (upd O a (Zd a C (some J))) J (Ge J [(f,y)]))):=by
 constructor;intro a0 s q H D I h;subst b0;refine qv (Fa (hv a0 s q H _ I h) ?_) d0;rintro u s1⟨y,Y,e0,f0,g0⟩;refine Fa (c0 a0 s1 q Y _ e0 g0) ?_;rintro ov n0⟨x,O,h0,i0,a,C,ex,j0,c,n,k0⟩;subst ex;obtain rfl:ov=Value.ref a:=i0;exact wH h0 j0 c n f0 λJ o0 new l0=>⟨q,_,l0,k0 J new⟩
def zH(K:W.Frag)(c0:X.K=K)(d0:PE X o ta)(hv:PE X value tv)(e0:kR value (some (.Attribute o f pos')) pos.line X.env=pure IQ):PS X (.Assign [.Attribute o f pos'] value pos)
  (λD q H=>tv q H λy Y=>ta q Y λx O=>∃a C J fs a0,x=.ref a/\O a=some (.ext a0)/\(∀h,a0 h->uq a C J h)/\O J=some (Ge J fs)/\Uj K C/\W.findIn K (.ref C) f=some none/\fs.length<1000/\D.nx q (upd O J (Ge J (Jd f y fs)))):=by
 constructor;intro b0 s q H D I h;subst c0;refine qv (Fa (hv b0 s q H _ I h) ?_) e0;rintro u s1⟨y,Y,f0,g0,h0⟩;refine Fa (d0 b0 s1 q Y _ f0 h0) ?_;rintro ov q0⟨x,O,i0,j0,a,C,J,fs,a0,ex,k0,l0,n0,c,n,l,o0⟩;subst ex;obtain rfl:ov=Value.ref a:=j0;exact vH i0 k0 l0 n0 c n l g0 λr0 p0=>⟨q,_,p0,o0⟩
end
structure Ws(K:W.Frag)(C f:FQ):Prop where
 cls:Ao K C
 init:W.findIn K (.ref C) "__init__"=some (some (.ref f))
 fn:W.isFn K (.ref f)=HQ
 kp:W.keepIn K (.ref C)=HQ
section
variable{X:Cx}{CX:Kg}{k:Nat}{f C:FQ}{fd:XQ}{ps:List Str}{sp:Sp}{dvs:List V}{ds:List EQ}{E:XK}{x m:Str}{p pos apos:jR}{e o:SQ}{es:List SQ}{ta:TE}{t:TA}
def AH{o:HO}(e:H a=some o):upd H a o=H:=by
 funext b;by_cases q:b=a
 ·rw[q,ia,e]
 ·rw[ka q]
def BH(K:W.Frag)(e0:X.K=K):gf X (.builtin "ValueError.__init__") (λxs H Q=>∃a C d rest,xs=.ref a::rest/\rest.length<=1000/\H a=some (Zd a C d)/\Ao K C/\Q .ya H):=by
 intro f0 s g0 H xs us Q I r⟨a,C,d,rest,ex,r0,J,h0,i0⟩;subst e0 ex;cases r with
 |cons j0 k0=>
  obtain rfl:_=Value.ref a:=j0;rename_i O;obtain⟨ob,ho,a0,l0,vs,s0,q,b0,t0⟩:=(show Fb X.prog X.w H s.heap a (Zd a C d)from I.za a _ J).1;obtain⟨u0,v0,w0,x0,bs,y0,z0,sub,A0,B0,dd,C0,D0,F0,G0,H0,n0,o0⟩:=Bw I.rb h0;have FB:=sv;refine fi (km FB.init.plain FB.initEntry (wpAny_check_init_subT (h:=s.heap) (g:=s.gens) (d:=s.drawn) (t:=s.toks) (os:=s.os) FB o0 n0 ho a0 ?_));unfold Builtin.«BaseException.__init__»;dsimp only;rw[Ba (by simp)];unfold newTuple Builtin.BaseException.bexcPut;have hsz:0<vs.size:=(Array.getElem?_eq_some_iff.mp b0).1;have Y:=Xa (h:=s.heap) {cls:=.type "tuple",data:=.seq O.toArray} ho;refine ba (dg (ba (ba (ci Y q b0 (ba (tj Y q hsz ?_))))) (by show O.toArray.size<=JQ;rw[Zc,<-k0.length,Fh];lia));refine wpAny_letGo (Aa ⟨.ya,H,?_,rfl,i0⟩);have p0:Inv X f0 g0 H {s with heap:=s.heap.push {cls:=.type "tuple",data:=.seq O.toArray},toks:=s.toks}:=I.kept λb u z=>Xa _ z
  have c0:=zk (Obj.mapFields (·.setIfInBounds 0 (.ref s.heap.objs.size))) Y (Obj.isFreed_of_fields (Yh q _));have d0:=p0.write (x:=a) (e:=a) (o:=Zd a C d) (t':=s.toks) (by rw[J];exact True.intro) (.inl rfl) (λb u q0 z=>(Jr _ _ _ _ q0).trans z) ⟨_,c0⟩
   (Cw (nx16 _ c0 (by rw[Ip];exact a0) (by obtain⟨_,_,_,_⟩:=ob;dsimp only at q;subst q;exact l0) _ s.heap.objs.size ⟨Yh q _,by simp[hsz],(by grind),by grind⟩))
  rw[AH J]at d0;exact d0
structure f3k(K:W.Frag)(S:FQ)(m:Str)(id:String):Prop where
 sp:W.specialIn K (.ref S) "__getattribute__"=some (some (.builtin "type.__getattribute__"))
 rd:W.readsIn K S (.type "type")=HQ
 fd:W.findCls K (.ref S) (.type "type") m=some (.val (.builtin id))
 ha:W.handedIn (.builtin id)=HQ
def CH{S:FQ}{id:String}{r:List V->Hp->VK->Prop}{pl:Sem Bool}(O:gf X (.builtin id) r)(B:f3k X.K S m id)(Y:Gl X x)(a0:X.mg x=some (.ref S))(ha:PA X (e::es) t)(b0:(x==("__debug__":Str))=IQ:=by decide)
  (c0:LQ (e::es) X.env=(IQ,RQ e X.env)::LQ es X.env:=by rfl)(d0:(VQ pos (LQ es X.env)).any (·.1)=IQ:=by rfl)
  (e0:RQ (.Call (.Attribute (.Name x p) m apos) (e::es) [] pos) X.env=(do
   let ov<-RQ (.Name x p) X.env
   qR apos.atName
   let(f,first)<-zR [ov] (mR ov m pl)
   sR pos f first (VQ pos (LQ (e::es) X.env)) (dR pos (TQ [] X.env))):=by rfl):
  PE X (.Call (.Attribute (.Name x p) m apos) (e::es) [] pos) (aw r t):=by
 constructor;intro q s J H Q I h;refine vm (pl:=pl) (Ti I Y a0 ?_ b0) e0;refine W.method_cls I.rb B.sp (W.cls_value I.rb B.rd B.fd B.ha ?_);exact rv (Fa (ha pos q _ J H _ (I.tok _) h) (by rintro us s1⟨vs,f0,g0,h0,i0⟩;exact O q s1 J f0 vs us Q g0 h0 i0)) c0 d0
end
section
variable{M:Model}{A:OQ}{E:EQ->GQ->Prop}{s:GQ}{env:VR}{K:W.Frag}{C:FQ}
def DH(a0:A.handled=none)(b0:Ao K C)
  (h:wpAny M A x (λv s1=>∃q d,v=.ref q/\K.In s1.heap/\Vj q C d s1.heap/\E (.ref q) s1) E s):wpAny M A (raiseStmt env (some x) none) Q E s:=by
 unfold raiseStmt;refine ba (Kc h (?_) λ_ _ z=>z);rintro v s1⟨q,d,c0,X,⟨o,ho,O,d0,vs,j0,Y,k0,e0⟩,f0⟩;subst c0;obtain⟨g0,l0,n0,o0,bs,p0,q0,sub,r0,s0,dd,t0,u0,v0,w0,x0,J,h0⟩:=Bw X b0;have i0:(Value.ref C::g0).contains (.type "BaseException")=HQ:=by rw[List.contains_cons,h0.hasType sv.hasBase,Bool.or_true]
 obtain⟨y0,g,z0,t,os⟩:=s1;obtain⟨A0,od,B0,C0⟩:=o;dsimp only at O Y d0 ho J;subst O Y;repeat(first|with_reducible refine Kk ho ?_|with_reducible refine Kk J ?_|(with_reducible refine wpAny_isSubtype_exc J ?_;rw[i0])|with_reducible refine ci ho rfl e0.1 ?_|wp_step)
 exact wpAny_raiseNew_none a0 f0
end
def del(H:Hp)(a:FQ):Hp:=λb=>if b=a then none else H b
def cj:del H a a=none:=Ca rfl
def Rc(h:b≠a):del H a b=H b:=Ba h
section
variable{X:Cx}{CX:Kg}{k:Nat}{f C:FQ}{fd:XQ}{ps:List Str}{sp:Sp}{dvs:List V}{ds:List EQ}{E:XK}
def EH{a0:L2.St}{Q:FQ->Hp->Prop}(M:Ws X.K C f)(F:Kb X.prog X.w X.K X.mg X.base CX k f fd ps sp)(h0:Wa (k+1) X.A)(i0:Wc X.K fd ps ds)(j0:Oa dvs ds)
  (k0:ti CX X E)(I:Inv X c0 a0 H s)(r:Oa vs us)(x0:vs.length<=1000)(h:∀x,H x=none->sp (.ref x::(vs++dvs)) (upd H x (Zd x C none)) (λv J=>v=.ya/\Q x J) E)
  (l0:∀q h' J O,s.heap.get? q=none->H q=none->(∀b o,s.heap.get? b=some o->h'.get? b=some o)->O.os=s.os->oR O.gens->Un (gc X.stack) [] (upd H q (Zd q C none)) J h' O.heap->fc X.prog X.w J O.heap->Inv X c0 a0 J O->Q q J->R (.ref q) O):
  wpAny (KQ X.prog X.w) X.A (call (.ref C) us) R X.xe s:=by
 obtain⟨y0,z0,A0,B0,bs,C0,D0,sub,F0,G0,dd,H0,I0,J0,K0,L0,n0,o0⟩:=Bw I.rb M.cls;refine oH (h:=s.heap) (g:=s.gens) (d:=s.drawn) (t:=s.toks) (os:=s.os) sv o0 I.rb n0 M.init (beq_iff_eq.mp M.fn) (λh' q Y=>?_) (by rw[<-r.length,Fh];lia);have new:H q=none:=Sj I Y.new;obtain⟨_,p0,_⟩:=Y.there;have q0:Inv X c0 a0 H {s with heap:=h',toks:=s.toks}:=I.kept Y.keeps;have d0:Inv X c0 a0 (upd H q (Zd q C none)) {s with heap:=h',toks:=s.toks}:=Ss I q0 Y.new new (Cw (nx16 _ p0 rfl rfl _ _ ⟨rfl,rfl,rfl,rfl⟩));have e0:Oa (V.ref q::(vs++dvs)) (Value.ref q::(us++ds)):=.cons rfl (r.append j0);have r0:(Value.ref q::us++ds).length=ps.length:=by
  have e:=e0.length;rw[F.len _ _ _ _ (h q new)]at e;exact e.symm
 refine fi (zg (F.run _ X.stack _ _ ⟨Value.ref q::us,[]⟩ (Value.ref q::(us++ds)) _ _ E (h0.make C us []) (d0.si.make C us []) (i0 _ (Value.ref q::us) d0.rb r0) e0 (h q new)) λr s' b0=>?_);cases r with
 |error e=>exact k0 c0 a0 _ _ e s' d0 b0
 |ok s0=>
  cases s0 with
  |ret u=>
   have t0:=b0;obtain⟨v,J,os,f0,un,g0,u0,v0,w0⟩:=t0;subst v0;exact⟨u0,l0 q h' J s' Y.new new Y.keeps os f0 un g0 (d0.Df os un g0 f0 (by grind)) w0⟩
  |next=>exact False.elim b0
  |brk=>exact False.elim b0
  |cont=>exact False.elim b0
end
section
variable{P:MQ}{w:PQ}{H H2:Hp}{fs:List FQ}{h h' h2:NQ}{ea:FQ}{o:HO}
def FH(new:h.get? ea=none)(n:H ea=none)(k:∀b u,h.get? b=some u->h'.get? b=some u)(u:Un fs [] (upd H ea o) H2 h' h2):Un fs [] H (del H2 ea) h h2:=by
 have ne:∀b v,h.get? b=some v->b≠ea:=λb v e z=>by grind
 have O:∀b v,H b=some v->b≠ea:=λb v e z=>by grind
 have eq:∀b,b≠ea->upd H ea o b=H b:=λb z=>ka z
 refine⟨λb v e J Y q=>u.keep b v (k b v e) (by grind) Y q,λb v e J Y q=>u.slot b v (k b v e) (by grind) Y q,λb v e J q=>?_,λb v e q=>u.there b v (k b v e) q,λb xs e=>?_,λb v z e=>?_,λb ps e=>?_⟩
 ·rw[Rc (ne b v e)];exact u.free b v (k b v e) (by grind) q
 ·rw[Rc (O b _ e)];exact u.tups b xs (by grind)
 ·rw[Rc (O b _ e)];exact u.frzs b v z (by grind)
 ·obtain⟨m,J⟩:=u.tbls b ps (by grind);exact⟨m,by rw[Rc (O b _ e)];exact J⟩
def GH(e:H2 ea=some (.ext J))(x:fc P w H2 h2):fc P w (del H2 ea) h2:=λb v q=>by
 have ne:b≠ea:=λz=>by rw[z,cj]at q;cases q
 rw[Rc ne]at q;refine(x b v q).kc (λc v O q=>q) (λc z=>?_) λc xs z=>?_
 ·rw[Rc λy=>by grind];exact z
 ·rw[Rc λy=>by grind];exact z
end
section
variable{P:MQ}{w:PQ}{K:W.Frag}{mg:Str->Option EQ}{base:NQ}{N:List Str}{qual:Str}{scope:nR}{f:FQ}{cd:EQ}{A:OQ}{outer:List VR}{s₀:GQ}{H₀:Hp}{E:XK}
 {pins:List (FQ×bR)}{σ:L2.St}{H H2:Hp}{s s2:GQ}{h':NQ}{ea C:FQ}{d:Option FQ}
def HH(I:Inv (Pd (Xe P w) P w K mg base N qual scope f cd A outer s₀ H₀ E) pins σ H s)(J:Inv (Pd (Xe P w) P w K mg base N qual scope f cd A outer s₀ H₀ E) pins σ H2 s2)(new:s.heap.get? ea=none)(n:H ea=none)
  (k:∀b o,s.heap.get? b=some o->h'.get? b=some o)(os:s2.os=s.os)(f0:oR s2.gens)(un:Un (gc (cR qual scope s₀.heap.objs.size f cd::outer)) [] (upd H ea (Zd ea C none)) H2 h' s2.heap)(b0:H2 ea=some (Zd ea C d))(g0:E (.ref C) d (del H2 ea)):
  (Pd (Xe P w) P w K mg base N qual scope f cd A outer s₀ H₀ E).xe (.ref ea) s2:=by
 obtain⟨o,ho,h0,O,vs,i0,j0,k0,l0⟩:=(show Fb P w H2 s2.heap ea (Zd ea C d)from J.za ea _ b0).1;let l:=ea::gc (cR qual scope s₀.heap.objs.size f cd::outer)
 have n0:∀env∈(cR qual scope s₀.heap.objs.size f cd::outer),∀b,env.frame=some b->b∈l:=λenv o0 b Y=>xj _ (xk.mpr ⟨env,o0,Y⟩)
 have p0:=W.funFrames_hide J.stack n0;have c0:(W.hideAll s2.heap l).get? ea=none:=W.hideAll_none _ (by grind);have q0:∀b∈gc (cR qual scope s₀.heap.objs.size f cd::outer),∃o,s2.heap.get? b=some o/\∀vs,o.data≠.fields vs:=λb Y=>let⟨_,o,e,O⟩:=J.stack.mem Y;⟨o,e,O⟩
 refine Kc (tq (vA _ _) (wpAny_leaving_firstW (Q:=λ_ s'=>∃a0,s'={s2 with heap:=a0}/\Heap.LeftW (W.hideAll s2.heap l) (cR qual scope s₀.heap.objs.size f cd::outer) ea o.cls (.ref i0) s2.heap a0)
  J.ok.frames p0 rfl ho (λb o q=>W.of_hideAll _ q) c0 j0 l0.1 k0 (by grind))) (λ_ s' ⟨⟨a0,r0,s0,⟨_,_,t0⟩,d0,u0⟩,v0⟩=>?_) λ_ _ z=>z.1
 subst r0;rw[h0]at d0;obtain⟨w0,x0,e0⟩:=v0 ea o ho;refine wA (s1:=s2) I os f0 (FH new n k un) (GH b0 J.za) (λb u e q y0=>?_) ⟨s0,c0,t0,d0⟩ u0 q0 cj new ⟨w0,x0,e0.1.trans O,.inl (e0.2.trans (by unfold sq;grind))⟩ g0;refine W.hideAll_get _ e λz=>?_
 rcases Mb.mp z with z|z
 ·rcases q with q|q
  ·grind
  ·rw[z]at q;exact q cj
 ·exact y0 z
end
section
variable{P:MQ}{w:PQ}{K:W.Frag}{mg:Str->Option EQ}{base:NQ}{N:List Str}{qual:Str}{scope:nR}{f fI:FQ}{cd:EQ}{A:OQ}{outer:List VR}{s₀:GQ}{H₀:Hp}{E:XK}
def IH{k:Nat}{C:FQ}{e0:XQ}{ps:List Str}{sp:Sp}{x:Str}{e:SQ}{O:List SQ}{t:TA}{g0 Y h0:jR}(M:Ws K C fI)(F:Kb P w K mg base (Xe P w) k fI e0 ps sp)(i0:Wa (k+1) (A.deeper (cR qual scope s₀.heap.objs.size f cd)))
  (j0:Gl (Pd (Xe P w) P w K mg base N qual scope f cd A outer s₀ H₀ E) x)(k0:mg x=some (.ref C))(l0:Wc K e0 ps [])(n0:PA (Pd (Xe P w) P w K mg base N qual scope f cd A outer s₀ H₀ E) (e::O) t)(o0:(x==("__debug__":Str))=IQ:=by decide)
  (p0:LQ (e::O) (cR qual scope s₀.heap.objs.size f cd)=(IQ,RQ e (cR qual scope s₀.heap.objs.size f cd))::LQ O (cR qual scope s₀.heap.objs.size f cd):=by rfl)(q0:(VQ Y (LQ O (cR qual scope s₀.heap.objs.size f cd))).any (·.1)=IQ:=by rfl):
  PS (Pd (Xe P w) P w K mg base N qual scope f cd A outer s₀ H₀ E) (.Raise (some (.Call (.Name x g0) (e::O) [] Y)) none h0)
   (λ_ a0 H=>t a0 H λvs b0=>vs.length<=1000/\∀q,b0 q=none->sp (.ref q::(vs++[])) (upd b0 q (Zd q C none)) (λv J=>v=.ya/\∃d,J q=some (Zd q C d)/\E (.ref C) d (del J q)) (λ_ _ _=>False)):=by
 constructor;intro r0 s a0 H D I h;rw[arm_exec_Raise];simp only[evalOpt,Option.map];refine ba (yk (DH (K:=K) (C:=C) (I.ok.hd rfl) M.cls (ba (Kc (bi (Ti I j0 k0 ?_ o0)) (λv y0 s0=>ba (yk (Aa s0))) λ_ _ z=>z))));refine lm (h₀:=base) I.ok.mod.ki M.kp (Fa (n0 Y r0 s a0 H _ I h) ?_) p0 q0;rintro us s1⟨vs,b0,c0,r,t0,u0⟩;refine⟨c0.rb,?_⟩;refine EH (Q:=λq J=>∃d,J q=some (Zd q C d)/\E (.ref C) d (del J q)) M F i0 l0 (ds:=[]) (dvs:=[]) .nil mH c0 r t0 u0 ?_;rintro q h' J v0 new n k os w0 un za d0⟨d,f0,x0⟩;exact nx11 q d rfl d0.rb ((show Fb P w J v0.heap q (Zd q C d)from d0.za q _ f0).1) (HH c0 d0 new n k os w0 un f0 x0)
end
section
variable{X:Cx}{K:W.Frag}
def Vj.is(x:Vj a C d h):ZG a C h:=by obtain⟨o,e,c,_⟩:=x;exact⟨o,e,c⟩
end
def mf(J:List (Str×FQ)):List (Str×DR)->List (Str×FQ)->List (Str×FQ)
 |[],q=>q
 |(n,k)::r,q=>if(k==NameKind.free)=HQ then mf J r ((n,(J.lookup n).getD 0)::q)else mf J r q
def JH(h:∀q∈scope.names,q.2=.free->∃c,env.cells.lookup q.1=some c):IS scope env=pure (mf env.cells scope.names []):=by
 simp only[IS];generalize([]:List (Str×FQ))=Y;revert h;generalize scope.names=names;intro h;induction names generalizing Y with
 |nil=>rfl
 |cons q r J=>
  obtain⟨n,k⟩:=q;rw[List.forIn_cons];by_cases hk:(k==NameKind.free)=HQ
  ·obtain⟨c,O⟩:=h (n,k) bf (by grind);have e:cellOf env n=pure c:=by simp only[cellOf,O]
   simp only[mf,hk,if_true,e,O,Option.getD_some,pure_bind];exact J _ (by grind)
  ·simp only[mf,hk,if_false,pure_bind,Qn];exact J _ (by grind)
def Ew:∀{names:List (Str×DR)}{q:List (Str×FQ)},(∀J∈names,J.2=.free->∃c,O.lookup J.1=some c)->(∀x c,q.lookup x=some c->O.lookup x=some c)->∀x c,(mf O names q).lookup x=some c->O.lookup x=some c
 |[],_,_,Y=>Y
 |(n,k)::r,q,h,Y=>by
  intro x c e;by_cases hk:(k==NameKind.free)=HQ
  ·obtain⟨d,a0⟩:=h (n,k) bf (by grind);rw[mf,Ca hk]at e;refine Ew (by grind) (λy b J=>?_) x c e
   grind
  ·rw[mf,Ba hk]at e;exact Ew (by grind) Y x c e
def Xs:∀{names:List (Str×DR)}{q:List (Str×FQ)}{x:Str},((x,NameKind.free)∈names\/∃c,q.lookup x=some c)->∃c,(mf O names q).lookup x=some c
 |[],_,_,h=>h.elim (by grind) id
 |(n,k)::r,q,x,h=>by
  by_cases hk:(k==NameKind.free)=HQ
  ·rw[mf,Ca hk];refine Xs ?_;cases J:x==n with
   |true=>exact .inr ⟨_,by rw[List.lookup_cons,J]⟩
   |false=>
    grind
  ·rw[mf,Ba hk];refine Xs ?_
   grind
def Fw{env:VR}:∀{names:List (Str×DR)}{x:Str}{q:DR},(names.map λ(n,k)=>if(k==NameKind.free&&env.scope.kind==.function&&env.kindOf n==some .cell)then(n,NameKind.cell)else(n,k)).lookup x=some q->
  ∃k,names.lookup x=some k/\(q=k\/(k=.free/\q=.cell))
 |[],_,_,h=>by simp at h
 |(n,k)::r,x,q,h=>by
  have J:=@Fw env r x q
  grind
def Ud(X:Cx)(scope:nR)(N:List Str)(q:List (Str×FQ))(C:FQ)(s₀:GQ)(H₀:Hp)(ex:List FQ):Cx:=
 {X with N:=N,s₀:=s₀,H₀:=H₀,env:=compEnvC scope q C X.env,outer:=X.stack,stack:=X.stack,ex:=ex,fn:=λ_=>IQ,pn:=[],xe:=λ_ _=>False}
def Um(q:L2.St)(n:Nat)(J:List Nat):L2.St:=List.replicate n none++J.map λj=>(q[j]?).getD none
def RA(q:List SQ)(env:VR):Sem Bool:=forIn q HQ λc r=>if r=HQ then do let ok<-isTrue c env (RQ c env);pure (ForInStep.yield ok)else pure (ForInStep.yield r)
structure Vm(X:Cx)(ifs:List SQ)(t:TT):Prop where
 run:∀(pins:List (FQ×bR))(s:GQ)(σ:L2.St)(H:Hp)(Q:Bool->Hp->Prop),Inv X pins σ H s->t σ H Q->wpAny (KQ X.prog X.w) X.A (RA ifs X.env) (TP X pins σ Q) X.xe s
def SA:TT:=λ_ H Q=>Q HQ H
def nf:Vm X [] SA:=⟨λq s J H Q I h=>wpAny_tests_nil ⟨H,I,h⟩⟩
def gh(h:PT X c t):Vm X [c] t:=⟨λq s J H Q I O=>wpAny_tests_one (h q s J H Q I O)⟩
structure Ph(X:Cx)(scope:nR)(fv:List Str)(js:List Nat):Prop where
 kind:scope.kind=.function
 cell:∀q∈scope.names,q.2≠.cell
 names:∀q∈scope.names,q.2=.local->scope.names.lookup q.1=some .local
 free:∀q∈scope.names,q.2=.free->q.1∈fv
 out:∀x∈fv,X.env.kindOf x=some .cell\/X.env.kindOf x=some .free
 at':js.map (λj=>X.N[j]?)=fv.map some
 fr:∀x∈fv,scope.names.lookup x=some .free
section
variable{X:Cx}{pins:List (FQ×bR)}{σ:L2.St}{H:Hp}{s:GQ}{scope:nR}{N:List Str}{C:FQ}{ex:List FQ}{cl:List (Str×FQ)}{fv tg:List Str}{js:List Nat}
def Ph.vq(S:Ph X scope fv js)(ok:X.Ok):IS scope X.env=pure (mf X.env.cells scope.names []):=JH λq J e=>ok.has q.1 (S.out q.1 (S.free q J e))
def Ph.sub(S:Ph X scope fv js)(ok:X.Ok):∀x c,(mf X.env.cells scope.names []).lookup x=some c->X.env.cells.lookup x=some c:=
 Ew (λq J e=>ok.has q.1 (S.out q.1 (S.free q J e))) (by grind)
def KH(I:Inv X pins σ H s)(S:Ph X scope fv js)(b0:s.heap.objs.size<=C)
  (a0:∀b∈ex,Jg X pins H b)(ho:∀b∈ex,∃o,s.heap.get? b=some o):(Ud X scope N (mf X.env.cells scope.names []) C s H ex).Ok:=by
 have sub:=S.sub I.ok;refine⟨I.ok.mod,S.kind,I.ok.glob,I.ok.blt,b0,λx y c c0 O=>I.ok.inj x y c (sub x c c0) (sub y c O),λx d0=>?_,λx c z _=>Bool.noConfusion z,I.ok.hd,I.ok.frames,.inl rfl,λb J=>⟨?_,λx c e=>?_⟩,I.bs,qc I.ok.Ih I.sz,λb o e J=>?_,λb J e0=>?_,I.stack,I.ff⟩
 ·have e:∃Y,(relabel scope X.env).names.lookup x=some Y/\(Y=.cell\/Y=.free):=by
   rcases d0 with z|z
   ·exact⟨_,z,.inl rfl⟩
   ·exact⟨_,z,.inr rfl⟩
  obtain⟨Y,e,hk⟩:=e;obtain⟨k,O,q⟩:=Fw e;have f0:k=.free:=by
   rcases q with rfl|⟨rfl,_⟩
   ·rcases hk with rfl|rfl
    ·exact absurd rfl (S.cell _ (wk O))
    ·rfl
   ·rfl
  subst f0;exact Xs (.inl (wk O))
 ·obtain⟨o,e⟩:=ho b J;exact Ob (pd (pb e) b0)
 ·obtain⟨_,_,_,_,q,_⟩:=a0 b J;exact q x c (sub x c e)
 ·obtain⟨_,_,_,q,_⟩:=a0 b J;rcases q with q|q
  ·exact I.ok.hg b o e q
  ·exact absurd (pd (pb e) (qc I.ok.Ih q)) (Pk _)
 ·obtain⟨_,g0,h0,_⟩:=a0 b J;rcases Mb.mp (I.ef b e0)with z|z
  ·exact g0 z
  ·exact h0 z
def LH(I:Inv X pins σ H s)(S:Ph X scope fv js)(ok:(Ud X scope (tg++fv) (mf X.env.cells scope.names []) C s H ex).Ok)(hk:∀b o,s.heap.get? b=some o->h'.get? b=some o)(h0:s.heap.get? D=none)(i0:s.heap.get? C=none)(j0:D≠C)
  (k0:h'.get? D=some {cls:=.type "list",data:=.seq #[]})(l0:h'.Ns C m):Inv (Ud X scope (tg++fv) (mf X.env.cells scope.names []) C s H ex) [] (Um σ tg.length js) (upd H D (.lst [])) {s with heap:=h',toks:=t'}:=by
 have O:=Sj I h0;have c0:∀b u,s.heap.get? b=some u->b≠D:=by grind
 have sub:=S.sub I.ok;have n0:∀c v,s.heap.IsCell c v->h'.IsCell c v:=λc v⟨o,ho,o0⟩=>⟨o,hk c o ho,o0⟩
 have p0:js.length=fv.length:=by have:=Td List.length S.at';simpa using this
 refine⟨ok,rfl,I.bare,⟨λb u q _ _ _=>hk b u q,λb u q _ _ _=>⟨u.slots,hk b u q⟩,λb u q n _=>by rw[ka (c0 b u q)];exact n,λb u q _=>⟨u,hk b u q⟩,λb xs q=>by rw[ka (ie q O)];exact q,
  λb u xs q=>by rw[ka (ie q O)];exact q,λb ps(q:H b=_)=>⟨#[],by rw[ka (ie q O),q];simp⟩⟩,⟨m,l0,λi x v Y J q0=>?_⟩,λx c e=>?_,?_,λx c e=>?_,λp r0=>(by cases r0),λb u e=>?_,by simp[Ud,Um,p0]⟩
 ·have Y:(tg++fv)[i]?=some x:=Y;rcases Nat.lt_or_ge i tg.length with hi|hi
  ·rw[Um,List.getElem?_append_left (by simpa using hi),List.getElem?_replicate,Ca hi]at J;cases J
  ·rw[List.getElem?_append_right hi]at Y;rw[Um,List.getElem?_append_right (by simpa using hi),List.length_replicate,ge]at J;obtain⟨j,s0,J⟩:=xh.mp J;have t0:σ[j]?=some (some v):=by
    cases q:σ[j]? with
    |none=>rw[q]at J;cases J
    |some z=>rw[q]at J;exact Td some J
   have u0:X.N[j]?=some x:=by
    have q:=Td (λl=>l[i-tg.length]?) S.at';simp only[ge,s0,Y,Option.map_some]at q;exact Yd q
   have b0:=Cg Y;have d0:=S.out x b0;obtain⟨m0,_,v0⟩:=I.loc;have w0:Zn X.env.scope x:=d0.elim (λz=>.inr (.inl z)) λz=>.inr (.inr z)
   obtain⟨u,x0,lk⟩:=v0 j x v u0 t0 w0;obtain⟨c,y0,z0⟩:∃c,X.env.cells.lookup x=some c/\s.heap.IsCell c (some u):=by
    rcases lk with⟨z,_⟩|⟨_,q⟩
    ·rcases d0 with y|y<;>(rw[y]at z;cases z)
    ·exact q
   obtain⟨a0,e0⟩:∃a0,(mf X.env.cells scope.names []).lookup x=some a0:=Xs (.inl (wk (S.fr x b0)));have A0:a0=c:=by have:=sub x a0 e0;rw[y0]at this;exact(Yd this).symm
   subst A0;refine⟨u,x0,.inr ⟨?_,a0,e0,n0 _ _ z0⟩⟩;rcases q0 with z|z|z
   ·obtain⟨k,f0,q⟩:=Fw z;rw[S.fr x b0]at f0;cases f0;rcases q with q|⟨_,q⟩<;>cases q
   ·exact .inl z
   ·exact .inr z
 ·obtain⟨v,z⟩:=I.cell x c (sub x c e);exact(by grind)
 ·show upd H D (.lst []) C=none;rw[ka (ud j0)];exact Sj I i0
 ·obtain⟨v,o,ho,_⟩:=I.cell x c (sub x c e);rw[ka (c0 c o ho)];exact I.yb x c (sub x c e)
 ·by_cases g0:b=D
  ·subst g0;rw[ia]at e;cases e;exact⟨wc _,nx5 ([]) _ (.nil) k0⟩
  ·rw[ka g0]at e;exact(I.za b u e).kc (by grind) (λc q=>by rw[ka (ie q O)];exact q) λc xs q=>by rw[ka (ie q O)];exact q
end
def MH{prog:MQ}{w:PQ}{A:OQ}{s:GQ}{R:gT->GQ->Prop}{a0 O iter:SQ}{b0:List SQ}{scope:nR}{j0:jR}{it c0:EQ}{env:VR}(I:Nat->GQ->Prop)
  (k0:∀n s,I n s->wpAny (KQ prog w) A (GS it) (λr s1=>(r=none/\R (.ok .next) s1)\/∃v,r=some v/\wpAny (KQ prog w) A (IR O it v) (λ_ d0=>wpAny (KQ prog w) A (assign O env v) (λ_ e0=>
   wpAny (KQ prog w) A (RA b0 env) (λok Y=>if ok=HQ then wpAny (KQ prog w) A (RQ a0 env) (λx f0=>wpAny (KQ prog w) A (call (.builtin "list.append") [c0,x]) (λ_ g0=>∃m,m<n/\I m g0) (λ_ _=>False) f0) (λ_ _=>False) Y
    else∃m,m<n/\I m Y) (λ_ _=>False) e0) (λ_ _=>False) d0) (λ_ _=>False) s1) (λ_ _=>False) s)
  (n:Nat)(h:I n s):codeAny (KQ prog w) A (.compLoop (.ListComp a0 [⟨O,iter,b0,0⟩] scope j0) 0 it c0 env) R s:=by
 have J:∀{h0:Type}{E:EQ->GQ->Prop}{t:Sem h0}{Q:h0->GQ->Prop}{u:GQ},wpAny (KQ prog w) A t Q (λ_ _=>False) u->wpAny (KQ prog w) A t Q E u:=λz=>Kc z (λ_ _ q=>q) λ_ _ q=>q.elim
 refine codeAny_loop rfl I (λn s l0=>wpAny_noted ?_) n h;rw[compTurn_list];refine ba (yk (ba (Kc (k0 n s l0) (λr s1 q=>?_) λ_ _ z=>z.elim)));rcases q with⟨rfl,q⟩|⟨v,rfl,q⟩
 ·exact Aa q
 ·refine ba (J (Fa q λ_ d0 n0=>ba (J (Fa n0 λ_ e0 o0=>ba (J (Fa o0 λok Y i0=>?_))))));cases ok with
  |false=>exact Aa ⟨rfl,i0⟩
  |true=>exact ba (ba (J (Fa i0 λx f0 p0=>ba (J (Fa p0 λ_ g0 q0=>Aa (Aa ⟨rfl,q0⟩))))))
def dj(c0:L2.St)(O:It)(g:TG)(d0:TT)(e0:TE)(Q:VK)(Y:Hp):Prop:=∀D,Y D=none->∃W:Nat->Nat->List V->L2.St->Hp->Prop,(∃m,W 0 m [] c0 (upd Y D (.lst [])))/\∀i m ys a0 H,W i m ys a0 H->H D=some (.lst ys)/\
 ((O.stop i H/\Q (.ref D) H)\/(O.go i H/\ys.length<JQ/\∀v H',O.pe i H v H'->g v a0 H' λJ f0=>d0 J f0 λok b0=>if ok=HQ then e0 J b0 λy H4=>H4 D=some (.lst ys)/\∃q,q<m/\W (i+1) q (ys++[y]) J (upd H4 D (.lst (ys++[y])))
  else∃q,q<m/\W (i+1) q ys J b0))
section
variable{X:Cx}{pins:List (FQ×bR)}{σ:L2.St}{H:Hp}{s:GQ}{scope:nR}{fv:List Str}{js:List Nat}{target iter elt:SQ}{ifs:List SQ}{pos:jR}{g:TG}{tc:TT}{te:TE}
def UA{E:EQ->GQ->Prop}{e0:Nat->NQ->Prop}{j0:EQ->FQ->gT->GQ->Prop}(O:List Str)(I:Inv X pins σ H s)(y0:X.calm=HQ)
  (S:Ph X scope fv js)(T:Vi X.prog X.w X.K target W0 fp it e0)(st:e0 0 s.heap)(z0:∀b∈fp,Jg X pins H b)
  (X0:∀q C s₀ H₀ ex,PG (Ud X scope (O++fv) q C s₀ H₀ ex) target g)(hi:∀q C s₀ H₀ ex,Vm (Ud X scope (O++fv) q C s₀ H₀ ex) ifs tc)(Y0:∀q C s₀ H₀ ex,PE (Ud X scope (O++fv) q C s₀ H₀ ex) elt te)(Z0:dj (Um σ O.length js) W0 g tc te Q H)
  (a1:∀D C H' s' m,s'.os=s.os->oR s'.gens->Un (gc X.stack) fp H H' s.heap s'.heap->fc X.prog X.w H' s'.heap->s'.heap.Ns C m->H' C=none->s.heap.objs.size<=C->Q (.ref D) H'->j0 (.ref D) C (.ok .next) s'):
  wpAny (KQ X.prog X.w) X.A (newList []) (λA0 f0=>wpAny (KQ X.prog X.w) X.A (newFunctionEnv scope X.env.globals (mf X.env.cells scope.names []) [] X.env.qual none .none (some X.env)) (λB0 k0=>
   codeAny (KQ X.prog X.w) X.A (.compStart (.ListComp elt [⟨target,iter,ifs,0⟩] scope pos) 0 (.ref it) A0 {B0 with scope:=relabel scope X.env}) (j0 A0 B0.locals) k0) E f0) E s:=by
 refine dg (wpAny_newFunctionEnv S.cell (by intro y b1;simp at b1) (λC0 g0 l0=>?_) S.kind);generalize n0:s.heap.push {cls:=.type "list",dict:=none,data:=.seq ([]:List EQ).toArray}=Y at g0 l0⊢;have D0:Y.objs.size=s.heap.objs.size+1:=by rw[<-n0,Gk]
 have F0:s.heap.objs.size≠Y.objs.size:=by rw[D0];exact Ob (by grind)
 have o0:s.heap.objs.size<=Y.objs.size:=by rw[D0];exact wj _
 have G0:s.heap.get? s.heap.objs.size=none:=uj (Ra _);have d1:=uj o0;have H0:=λb o e=>l0.extBut b o (by grind) (Xa _ (n0▸Xa _ e))
 have e1:=l0.extBut _ _ F0 (Xa _ (n0▸ec _ rfl));have ob:=T.obj 0 s.heap st;generalize I0:mf X.env.cells scope.names []=q;have ok:(Ud X scope (O++fv) q Y.objs.size s H fp).Ok:=I0▸KH I S o0 z0 (by grind);have f1:Inv (Ud X scope (O++fv) q Y.objs.size s H fp) [] (Um σ O.length js) (upd H s.heap.objs.size (.lst [])) {s with heap:=C0,toks:=s.toks+([]:List (Str×EQ)).length}:=by
  subst I0;exact LH I S ok H0 G0 d1 F0 e1 g0
 have J0:=T.keep 0 _ _ st λb _ o e=>H0 b o e
 obtain⟨W,⟨m0,g1⟩,h1⟩:=Z0 _ (Sj I G0);have p0:∀{H':Hp}{ps:List (FQ×bR)},(∀p∈ps,p.1∉fp)->(∀b∈fp,H' b=none)->∀b∈fp,Jg (Ud X scope (O++fv) q Y.objs.size s H fp) ps H' b:=λi1 g0 b J=>⟨g0 b J,(ok.bo b J).1,ok.ig b J,.inl J,(ok.bo b J).2,λp j1 z=>i1 p j1 (z▸J)⟩
 have K0:codeAny (KQ X.prog X.w) X.A (.compLoop (.ListComp elt [⟨target,iter,ifs,0⟩] scope pos) 0 (.ref it) (.ref s.heap.objs.size) (compEnvC scope q Y.objs.size X.env)) (j0 (.ref s.heap.objs.size) Y.objs.size) {s with heap:=C0,toks:=s.toks+([]:List (Str×EQ)).length}:=by
  refine MH (λn s'=>∃i ys a0 H',Inv (Ud X scope (O++fv) q Y.objs.size s H fp) [] a0 H' s'/\e0 i s'.heap/\(∀b∈fp,H' b=none)/\W i n ys a0 H') (λn s' k1=>?_) m0 (nx10 0 ([]) _ _ f1 J0 (λb J=>?_) g1)
  ·obtain⟨i,ys,a0,H',L0,M0,N0,q0⟩:=k1;obtain⟨E1,q0⟩:=h1 i n ys a0 H' q0;rcases q0 with⟨stop,l1⟩|⟨m1,hz,step⟩
   ·refine Fa (T.done (Ud X scope (O++fv) q Y.objs.size s H fp) rfl rfl rfl y0 i [] s' a0 H' _ L0 (p0 (by simp) N0) M0 stop) ?_;rintro r O0⟨r0,c0⟩;refine .inl ⟨r0,?_⟩;obtain⟨m,n1,_⟩:=c0.loc;exact a1 _ _ H' O0 m c0.os c0.bare c0.base c0.za n1 c0.free o0 l1
   ·refine Fa (T.item (Ud X scope (O++fv) q Y.objs.size s H fp) rfl rfl rfl y0 i [] s' a0 H' _ L0 (p0 (by simp) N0) M0 m1) ?_;rintro r O0⟨u,r0,o1⟩;refine .inr ⟨u,r0,Fa o1 ?_⟩;rintro _ f0⟨x,Q0,p1,q1,r1,s0,t1⟩;have u1:=p1.pinned (p0 (by simp) t1) (T.obj _ _ s0);have R0:∀{h0:GQ}{b0:L2.St}{d0:Hp},Inv (Ud X scope (O++fv) q Y.objs.size s H fp) ([]++Xp fp f0.heap) b0 d0 h0->e0 (i+1) h0.heap/\∀b∈fp,d0 b=none:=λi0=>
     ⟨T.keep _ _ _ s0 λb J o e=>(i0.pin (b,o) (Dj _ (Dj _ (Sr J e)))).1,λb J=>by
      obtain⟨o,e,_⟩:=T.obj _ _ s0 b J;exact(i0.pin (b,o) (Dj _ (Dj _ (Sr J e)))).2.1⟩
    refine Fa ((X0 _ _ _ _ _) _ f0 a0 Q0 x u _ u1 q1 (step x Q0 r1)) ?_;rintro _ k0⟨b0,H4,v1,w1⟩;refine Fa ((hi _ _ _ _ _).run _ k0 b0 H4 _ v1 w1) ?_;rintro b x1⟨y1,t0,S0⟩;cases b with
    |false=>
     obtain⟨u0,v0,z1⟩:=(S0);obtain⟨w0,x0⟩:=R0 t0;exact nx18 u0 v0 (i+1) (nx2 _ b0 _ t0.xc w0 x0 z1)
    |true=>
     refine Fa ((Y0 _ _ _ _ _) _ x1 b0 y1 _ t0 S0) ?_;rintro z h0⟨y,d0,i0,A1,B1,u0,v0,C1⟩;refine Fa (ew _ h0 b0 d0 (.ref s.heap.objs.size) [y] (.ref s.heap.objs.size) [z] (λ_ U0=>U0=upd d0 s.heap.objs.size (.lst (ys++[y]))) i0 rfl (.cons A1 .nil) ⟨_,ys,y,rfl,rfl,B1,hz,rfl⟩) ?_;rintro _ F1⟨G1,U0,V0,_,D1⟩;subst D1;obtain⟨w0,x0⟩:=R0 V0;exact nx18 u0 v0 (i+1) (nx2 _ b0 _ V0.xc w0 x0 C1)
  ·obtain⟨o,e,_⟩:=ob b J;rw[ka (Ob (pb e))];exact(z0 b J).1
 exact codeAny_compStart_list K0 (T.self _ 0 _ _ _ J0 K0)
def Ys(n:Nat)(js:List Nat)(q:TI)(g:TG)(tc:TT)(te:TE):TE:=λσ H Q=>q σ H λJ O=>dj (Um σ n js) J g tc te Q O
def NH(q:List Str)(a0:X.calm=HQ)(S:Ph X scope fv js)(hi:PI X target iter b0)
  (c0:∀J C s₀ H₀ ex,PG (Ud X scope (q++fv) J C s₀ H₀ ex) target g)(d0:∀J C s₀ H₀ ex,Vm (Ud X scope (q++fv) J C s₀ H₀ ex) ifs tc)(e0:∀J C s₀ H₀ ex,PE (Ud X scope (q++fv) J C s₀ H₀ ex) elt te)(f0:∀x,rR iter X.env x=pure x:=by intro _;rfl):
  PE X (.ListComp elt [⟨target,iter,ifs,0⟩] scope pos) (Ys q.length js b0 g tc te):=by
 constructor;intro pins s σ H Q I h;refine NS rfl f0 (S.vq I.ok) S.kind S.names (Fa (hi pins s σ H _ I h) λv s1 g0=>Fa g0 λt0 u0 h0=>?_);obtain⟨it,fp,v0,w0,x0,rfl,O,T,i0,Y,j0⟩:=h0;refine UA q O a0 S T i0 Y c0 d0 e0 j0 λD C H' s' m os k0 un l0 n0 o0 p0 q0=>⟨m,n0,λh' k=>?_⟩
 obtain⟨r0,s0⟩:=IA O Y os k0 un l0 o0 p0;exact⟨.ref D,H',JA r0 s0 k,rfl,q0⟩
def OH(q:List Str)(c0:X.calm=HQ)(d0:X.N.Nodup)(e0:X.N[i]?=some y)(hk:X.env.scope.names.lookup y=some .local)(S:Ph X scope fv js)(hi:PI X target iter f0)
  (g0:kR (.ListComp elt [⟨target,iter,ifs,0⟩] scope pos) (some (.Name y h0)) i0.line X.env=pure HQ)
  (j0:∀J C s₀ H₀ ex,PG (Ud X scope (q++fv) J C s₀ H₀ ex) target g)(k0:∀J C s₀ H₀ ex,Vm (Ud X scope (q++fv) J C s₀ H₀ ex) ifs tc)(l0:∀J C s₀ H₀ ex,PE (Ud X scope (q++fv) J C s₀ H₀ ex) elt te)(n0:∀x,rR iter X.env x=pure x:=by intro _;rfl):
  PS X (.Assign [.Name y h0] (.ListComp elt [⟨target,iter,ifs,0⟩] scope pos) i0) (λD σ H=>Ys q.length js f0 g tc te σ H λv o0=>D.nx (σ.set i (some v)) o0):=by
 constructor;intro pins s σ H D I h;rw[exec_Assign_Name_used _ _ _ _ g0];refine ba (yk (ba (ba (Kc (NS rfl n0 (S.vq I.ok) S.kind S.names
  (Fa (hi pins s σ H _ I h) λv s1 p0=>Fa p0 λD0 F0 q0=>?_)) (λ_ s' O=>Aa (Aa O)) λ_ _ z=>z))))
 obtain⟨it,fp,G0,H0,I0,rfl,a0,T,r0,b0,O⟩:=q0;refine UA q a0 c0 S T r0 b0 j0 k0 l0 O λL C H' s' m os s0 un t0 u0 v0 w0 x0=>?_
 obtain⟨y0,Y⟩:=IA a0 b0 os s0 un t0 v0 w0;refine wpAny_assign_Name (Uy y0 d0 e0 (.inl hk) (v:=.ref L) rfl (?_) (.inr hk));rintro J0 z0⟨a,A0,B0⟩;have ne:C≠a:=by
  rcases B0 with z|z
  ·rw[z];exact Y.2.1
  ·exactλC0=>Y.2.2.2.2.1 y a z C0.symm
 exact⟨m,u0.sameBut A0 ne,λh' k=>⟨_,H',JA z0 Y k,x0⟩⟩
end
def PH{q:Type}{P:q->Prop}:∀x∈([]:List q),P x:=by grind
def QH{q:Type}{P:q->Prop}{a:q}{l:List q}(h:P a)(t:∀x∈l,P x):∀x∈a::l,P x:=by grind
def ej{K:W.Frag}(q:X.K=K):qo X (Oz K):=q▸Ab
def RH{K:W.Frag}(q:X.K=K)(J:PE X l O):PI X Y l (Zy K O):=by
 subst q;exact Yb J
def wq{k0 fs:L2.St}(n:Nat)(P:FQ->Nat->List V->Hp->Prop)(n0:k0=List.replicate k none++fs)(hz:n<=JQ)(o0:∀i H,aa O H->i<n->h0.go i H)(p0:∀H,aa O H->h0.stop n H)
  (q0:∀D i ys H,P D i ys H->ys.length<=i)(r0:∀D,O D=none->P D 0 [] (upd O D (.lst [])))
  (step:∀D i H ys(J:L2.St)v H' (R:Option V->L2.St->Hp->Prop),H D=some (.lst ys)->P D i ys H->aa O H->i<n->J.length=k->h0.pe i H v H' ->
   (∀y(Y:L2.St)q,Y.length=k->aa H q->P D (i+1) (ys++[y]) (upd q D (.lst (ys++[y])))->R (some y) (Y++fs) q)->(∀(Y:L2.St)q,Y.length=k->aa H q->P D (i+1) ys q->R none (Y++fs) q)->
   g v (J++fs) H' λa0 s0=>t0 a0 s0 λok q=>if ok=HQ then u0 a0 q λy H4=>R (some y) a0 H4 else R none a0 q)
  (fin:∀D H' ys,O D=none->aa O H'->H' D=some (.lst ys)->P D n ys H'->Q (.ref D) H'):dj k0 h0 g t0 u0 Q O:=by
 intro D f0;refine⟨λi m ys l0 H=>m=n-i/\i<=n/\P D i ys H/\(∃J:L2.St,J.length=k/\l0=J++fs)/\aa O H/\H D=some (.lst ys),⟨n,rfl,wc _,r0 D f0,⟨_,List.length_replicate,n0⟩,aa.upd f0,ia⟩,?_⟩;rintro i m ys l0 H⟨rfl,hi,i0,⟨J,v0,rfl⟩,b0,c0⟩;refine⟨c0,?_⟩;have w0:=q0 _ _ _ _ i0;by_cases g0:i<n
 ·exact .inr ⟨o0 i H b0 g0,by lia,λv H' y=>step D i H ys J v H' (λo a0 q=>match o with
   |some y=>q D=some (.lst ys)/\∃d0,d0<n-i/\d0=n-(i+1)/\i+1<=n/\P D (i+1) (ys++[y]) (upd q D (.lst (ys++[y])))/\(∃J:L2.St,J.length=k/\a0=J++fs)/\aa O (upd q D (.lst (ys++[y])))/\upd q D (.lst (ys++[y])) D=some (.lst (ys++[y]))
   |none=>∃d0,d0<n-i/\d0=n-(i+1)/\i+1<=n/\P D (i+1) ys q/\(∃J:L2.St,J.length=k/\a0=J++fs)/\aa O q/\q D=some (.lst ys)) c0 i0 b0 g0 v0 y
   (λy Y q j0 e0 p=>⟨e0 _ _ c0,n-(i+1),by lia,rfl,g0,p,⟨Y,j0,rfl⟩,(b0.trans e0).again f0,ia⟩) λY q j0 e0 p=>⟨n-(i+1),by lia,rfl,g0,p,⟨Y,j0,rfl⟩,b0.trans e0,e0 _ _ c0⟩⟩
 ·obtain rfl:i=n:=by lia
  exact .inl ⟨p0 H b0,fin D H ys f0 b0 c0 i0⟩
def Gw{q:Type}(f:Nat->Option q)(i:Nat):((List.range i).filterMap f).length<=i:=by simpa using List.length_filterMap_le f (List.range i)
def Zs{d0 fs:L2.St}{e0:L2.TT}(n:Nat)(f:Nat->Option V)(i0:d0=List.replicate k none++fs)(hz:n<=JQ)(j0:∀i H,aa J H->i<n->b0.go i H)(k0:∀H,aa J H->b0.stop n H)
  (step:∀i H(Y:L2.St)v H' (R:Option V->L2.St->Hp->Prop),aa J H->i<n->Y.length=k->b0.pe i H v H'->(∀(O:L2.St)q,O.length=k->aa H q->R (f i) (O++fs) q)->
   g v (Y++fs) H' λa0 l0=>e0 a0 l0 λok q=>if ok=HQ then n0 a0 q λy H4=>R (some y) a0 H4 else R none a0 q)
  (fin:∀D H',J D=none->aa J H'->H' D=some (.lst ((List.range n).filterMap f))->Q (.ref D) H'):dj d0 b0 g e0 n0 Q J:=by
 refine wq n (λ_ i ys _=>ys=(List.range i).filterMap f) i0 hz j0 k0 (λ_ i _ _ e=>e▸Gw f i) (λ_ _=>rfl) (λD i H ys Y v H' R _ e c0 hi o0 y a b=>step i H Y v H' R c0 hi o0 y λO q f0 g0=>?_) λD H' ys p0 c0 q0 e=>fin D H' p0 c0 (e▸q0)
 cases h0:f i with
 |none=>exact b O q f0 g0 (by simp[Nk,h0,e])
 |some y=>exact a y O q f0 g0 (by simp[Nk,h0,e])
section
variable{X:Cx}{pins:List (FQ×bR)}{σ:L2.St}{H:Hp}{s:GQ}{a:FQ}{kvs:List (Key×V)}{k:Key}{u r:EQ}{d:V}{A:OQ}{E:EQ->GQ->Prop}
def SH(I:Inv X pins σ H s)(e:H a=some (.dK kvs))(d0:Sa (kV k) u)(e0:Sa d r)(l0:kvs.length<JQ)(f0:∀v O s',kb kvs k=some v->Inv X pins σ H s'->Sa v O->Q O s')
  (g0:kb kvs k=none->∀s',Inv X pins σ (upd H a (.dK (nb kvs k d))) s'->Q r s'):wpAny (KQ X.prog X.w) A (call (.builtin "dict.setdefault") [.ref a,u,r]) Q E s:=by
 obtain⟨z,a0,vs,Y,dd⟩:=Zk I.za e;refine gm F.slot_dict_setdefault dd.typeIs F.entry_dict_setdefault (F.args_dict_setdefault_3 _ _ _) (kt_meets_setdefault (Qb X.prog X.w) a (Lh d0) a0 r) ⟨vs,dd,by rw[<-Y.length];exact z,λv hv=>?_,λn0 h' b0 h0=>?_⟩
 ·have q:=Y.val k;cases J:kb kvs k with
  |none=>rw[J]at q;rw[bd.none_of q]at hv;cases hv
  |some y=>
   rw[J]at q;obtain⟨O,c0,i0⟩:=bd.some_of q;rw[c0]at hv;cases hv;exact f0 y _ _ J (I.tok _) i0
 ·have q:=Y.val k;cases J:kb kvs k with
  |some y=>
   rw[J]at q;obtain⟨O,c0,_⟩:=bd.some_of q
   grind
  |none=>
   refine g0 J _ ?_;have j0:∃q,h'.get? a=some q:=let⟨q,_,_,k0,_⟩:=b0;⟨q,k0⟩
   have hz:(nb kvs k d).length<=JQ:=by have:=pq kvs k d;lia
   exact uo I (by rw[e];exact True.intro) h0 j0 (Qm hz a0 (Y.put k e0) b0)
end
inductive TH(ty tx:TE)(σ:L2.St)(Q:VK)(x:V)(H1:Hp):Prop|mk(a)(_:x=.ref a)(_:Bs H1 a)(_:ty σ H1 λy H2=>tx σ H2 λz H3=>∃kvs k,H3 a=some (.dK kvs)/\y=kV k/\kvs.length<JQ/\(∀v,kb kvs k=some v->Q v H3)/\(kb kvs k=none->Q z (upd H3 a (.dK (nb kvs k z)))))
def UH(td J O:TE):TE:=λq H Q=>td q H (TH J O q Q)
section
variable{X:Cx}{o e f:SQ}{td ty tx:TE}{apos Pb:jR}
def VA(ho:PE X o td)(b0:PE X e ty)(c0:PE X f tx)(m:M2 X o "setdefault" apos e f Pb):PE X (.Call (.Attribute o "setdefault" apos) [e,f] [] Pb) (UH td ty tx):=by
 constructor;intro q s J H Q I h;refine iS m.base m.Ad m.line Ap F.slot_dict_setdefault F.type_dict_setdefault (Fa (ho q s J H _ I h) ?_);rintro u s1⟨x,d0,Y,e0,a,ex,d,f0⟩;subst ex;obtain rfl:u=Value.ref a:=e0;obtain⟨g0,h0,_⟩:=Cs Y d;refine⟨g0,h0,?_⟩;rw[m.trees];refine Yl rfl (Br (Ck (Fa (b0 q s1 J d0 _ Y f0) λx0 i0⟨y,j0,k0,l0,n0⟩=>
  Ck (Fa (c0 q i0 J j0 _ k0 n0) λy0 z0⟨z,o0,p0,a0,kvs,k,q0,r0,s0,t0,u0⟩=>Mp ?_))))
 subst r0;exact SH p0 q0 l0 a0 s0 (λv A0 v0 l O w0=>⟨v,o0,O,w0,t0 v l⟩) λl v0 O=>⟨z,_,O,a0,u0 l⟩
def WA:∀{a b:List Int},a.Perm b->a.Pairwise (·<=·)->b.Pairwise (·<=·)->a=b
 |[],_,p,_,_=>(List.nil_perm.mp p).symm
 |x::r,b,p,q,J=>by
  cases b with
  |nil=>exact absurd (List.perm_nil.mp p) (by simp)
  |cons y t=>
   rw[Eh]at q J;have O:x<=y:=by
    rcases Mb.mp (p.symm.subset bf)with e|e
    ·lia
    ·exact q.1 y e
   have Y:y<=x:=by
    rcases Mb.mp (p.subset bf)with e|e
    ·lia
    ·exact J.1 x e
   have e:x=y:=by lia
   subst e;rw[WA ((List.perm_cons x).mp p) q.2 J.2]
def eb(ks:List Int):List Int:=ks.mergeSort (·<=·)
def mc(ks:List Int):(eb ks).Perm ks:=List.mergeSort_perm ks _
def XA(ks:List Int):(eb ks).Pairwise (·<=·):=by
 have:=List.pairwise_mergeSort (le:=λa b:Int=>decide (a<=b)) (by grind) (λa b=>by grind) ks;exact this.imp (by grind)
def YA{ks q:List Int}(p:q.Perm ks)(h:q.Pairwise (·<=·)):q=eb ks:=WA (p.trans (mc ks).symm) h (XA ks)
def bt:∀{us:List EQ}{q:List Int},UR us q->Oa (q.map V.int) us:=by
 intro _ _ h;induction h with
 |nil=>exact .nil
 |cons _ _ t J=>exact .cons ⟨_,rfl⟩ J
def intsAre_of:∀{us:List EQ}{q:List Int},us.length=q.length->(∀(j:Nat)(v:EQ),us[j]?=some v->∃n t,q[j]?=some n/\v=Value.int n t)->UR us q
 |[],[],_,_=>.nil
 |[],_::_,h,_=>by simp at h
 |_::_,[],h,_=>by simp at h
 |u::us,n::q,h,hv=>by
  obtain⟨m,t,e,rfl⟩:=hv 0 u rfl;cases(e);exact .cons _ _ (intsAre_of (by simpa using h) λj v e=>hv (j+1) v (by simpa using e))
def Hw{kvs:List (Key×V)}{vs:List (Key×EQ)}{ks:List Int}{q:Array EQ}(J:KV kvs vs)(O:kvs.map (·.1)=ks.map Sum.inl)(h:q.size=vs.length/\∀(j:Nat)(v:EQ),q[j]?=some v->∃(k:Key)(x:EQ),vs[j]?=some (k,x)/\Sk k v=HQ):vs.length=ks.length/\UR q.toList ks:=by
 have hk:vs.length=ks.length:=by rw[<-J.length,<-Na (f:=(·.1)) (as:=kvs),O,Na]
 refine⟨hk,intsAre_of (by rw[Ag,<-hk];exact h.1) λj v c0=>?_⟩;obtain⟨k,x,d0,e0⟩:=h.2 j v (by rw[<-Aj];exact c0);have Y:(vs.map (·.1))[j]?=some k:=by rw[ge,d0];rfl
 rw[<-J.keys,O,ge]at Y;obtain⟨n,f0,rfl⟩:=xh.mp Y;rcases ji e0 with⟨i,t,a0,b0⟩|⟨y,t,a0,b0⟩<;>cases a0
 exact⟨n,t,f0,b0⟩
def ZA(g0:X.calm=HQ):gf X (.builtin "sorted") (λxs H Q=>∃(a:FQ)(kvs:List (Key×V))(ks:List Int),xs=[V.ref a]/\Rd H a (.dK kvs)/\kvs.map (·.1)=ks.map Sum.inl/\ks.length<64/\∀p,H p=none->Q (.ref p) (upd H p (.lst ((eb ks).map V.int)))):=by
 intro v0 s w0 H xs us Q I r h;obtain⟨a,kvs,ks,rfl,e,h0,i0,j0⟩:=h;obtain⟨u,rfl,k0⟩:=Gf r;cases k0;obtain⟨z,hd,vs,O,dd⟩:=aj I.za e;obtain⟨ep,l0⟩:=dd.dictAt;have hsz:vs.length<=JQ:=by rw[<-O.length];exact z
 refine vv kind_sorted ZS bT (fT _) ?_;refine ba (Aa ?_);refine ba (W.kdu_collect (W.kdl_dict hd) (I.ok.hd g0) l0 hsz λh' Y q hk a0=>?_);have b0:q.toList.length=vs.length:=by rw[Ag];exact a0.1
 obtain⟨c0,n0⟩:=Hw O h0 a0;refine ba (YR ?_ (by rw[b0];exact hsz));have J:(h'.push {cls:=.type "list",data:=.seq q.toList.toArray}).get? h'.objs.size=some (hR "list" q.toList.toArray 0):=ec _ rfl;refine ba (eg (Ug FS ⟨_,J,rfl⟩ xS (list_sort_tree J n0 (by rw[b0,c0];exact i0) λout x0 o0 p0 q0=>⟨_,rfl,?_⟩) (JS _)));obtain⟨r0,s0⟩:=sortedHeap_at J;have d0:=I.kept (t':=Y) hk;have t0:=YA p0 q0;subst t0;have u0:=d0.laid (o:=.lst ((eb ks).map V.int)) (t':=Y) (h':=sortedHeap (h'.push {cls:=.type "list",data:=.seq q.toList.toArray}) h'.objs.size q.toList out)
  (λb v e0=>by
   have f0:=pb e0;rw[sortedHeap_old (Ob f0) (by rw[zh];exact Kr f0)];exact Xa _ e0) (Ra _)
  (⟨by rw[Na,(mc ks).length_eq,<-c0];exact hsz,nx5 out.toList r0 (bt o0) (by simpa[hR]using s0)⟩)
 exact Aa ⟨_,rfl,.ref _,_,u0,rfl,j0 _ (d0.za.fresh (Ra _))⟩
def Ai(q:X.calm=HQ):gf X (.builtin "sorted") (λxs H Q=>∃(a:FQ)(kvs:List (Key×V))(ks:List Int),xs=[V.ref a]/\H a=some (.dK kvs)/\kvs.map (·.1)=ks.map Sum.inl/\ks.length<64/\∀p,H p=none->Q (.ref p) (upd H p (.lst ((eb ks).map V.int)))):=
 (by rintro _ _ _ _ _ _ _ I r⟨a,kvs,ks,e,h,J⟩;exact ZA q _ _ _ _ _ _ _ I r (nx9 a kvs ks e (.inl h) J))
def VH{K:W.Frag}(d0:X.K=K)(e0:X.calm=HQ):gf X (.builtin "any") (λxs H Q=>∃(p:FQ)(bs:List Bool),xs=[V.ref p]/\ja K H p (bs.map V.bl)/\Q (.bl (bs.any id)) H):=by
 subst d0;intro t0 s u0 H xs us Q I r h;obtain⟨p,bs,rfl,f0,g0⟩:=h;obtain⟨u,rfl,h0⟩:=Gf r;cases h0;obtain⟨O,Y,pl,_⟩:=I.list f0;have a0:=Y.length;rw[Na]at a0;refine call_any_walk (rm pl.isList ?_);have i0:=Ob (by obtain⟨o,_,e,_⟩:=pl;exact pb e);refine nx14 s.heap.objs.size ([s.heap.objs.size,p]) ([s.heap.objs.size]) (nx10 O.toArray.size _ _ (λi=>bs.getD i HQ) rfl (Walks.list (A:=X.A.in1) (I.ok.hd e0) s.heap.objs.size p i0 O.toArray) ⟨⟨_,ec _ rfl,rfl,rfl⟩,pl.isList.push _⟩ ⟨λi v j0 k0 v0 l0 n0=>?_,λh' w0 hk=>?_⟩)
 ·have o0:O[i]?=some v:=by simpa using l0
  obtain⟨x0,q,p0⟩:=Fs Y o0;rw[ge]at q;cases J:bs[i]? with
  |none=>rw[J]at q;cases q
  |some b=>
   rw[J]at q;have e:=Yd q;subst e;cases p0;have q0:bs.getD i HQ=b:=by rw[Af,J];rfl
   have b0:k0 (bs.getD i HQ) j0:=n0;rw[q0]at b0;exact Qi b0
 ·have e:(List.range O.toArray.size).any (λi=>bs.getD i HQ)=bs.any id:=by
   rw[Zc,<-a0,Bool.eq_iff_iff,Ik,Ik];constructor
   ·rintro⟨i,hi,g⟩;have r0:=List.mem_range.mp hi;rw[Af,Dc r0]at g;exact⟨_,by grind,g⟩
   ·rintro⟨b,J,g⟩;obtain⟨i,hi,e⟩:=List.mem_iff_getElem.mp J;refine⟨i,by grind,?_⟩;rw[Af,Dc hi,e];exact g
  rw[e];refine⟨.bl (bs.any id),H,I.kept λb u c0=>hk b u (λz=>?_) (Xa _ c0),rfl,g0⟩;have s0:b=s.heap.objs.size:=by simpa using z
  exact absurd (pb c0) (by rw[s0];exact Pk _)
def aB{K:W.Frag}{f:Str}(q:X.K=K)(J:PE X e O)(Y:YQ e f X.env (RQ e X.env)=RQ e X.env):PE X (.Attribute e f a0) (Xr K O f):=by
 subst q;exact oF J Y
end
def Iw{K:W.Frag}:∀ms:List Int,zi K H (ms.map V.int) (ms.map PyData.int)
 |[]=>.nil
 |m::r=>.cons (.int m) (Iw r)
inductive Bi(x:V)(vs:List V)(H:Hp)(Q:VK):Prop|mk(l xs y)(_:x=.ref l)(_:vs=[y])(_:H l=some (.lst xs))(_:xs.length<JQ)(_:∀H',H' l=some (.lst (xs++[y]))->(∀b o,b≠l->H b=some o->H' b=some o)->Q .ya H')
def Bo:mq X "list.append" Bi:=by
 intro q s J H x vs v us Q I O Y h;obtain⟨l,xs,y,ex,a0,b0,hz,c0⟩:=h;exact ew q s J H x vs v us Q I O Y ⟨l,xs,y,ex,a0,b0,hz,c0 _ ia λb o n e=>by rw[ka n];exact e⟩
inductive Wj(x:V)(vs:List V)(H:Hp)(Q:VK):Prop|mk(l xs)(_:x=.ref l)(_:vs=[])(_:H l=some (.lst xs))(_:∀H',(∀b o,b≠l->H b=some o->H' b=some o)->Q .ya H')
def dt:mq X "list.clear" Wj:=by
 intro q s J H x vs v us Q I O Y h;obtain⟨l,xs,ex,a0,b0,c0⟩:=h;exact Vz q s J H x vs v us Q I O Y ⟨l,xs,ex,a0,b0,c0 _ λb o n e=>by rw[ka n];exact e⟩
def bB(ms:List Int):SeqAt.shaped (.list (ms.map PyData.int))=HQ:=by
 show(PyData.canLayAll0 (ms.map .int)&&decide (PyData.depthAll (ms.map .int)+1<=64))=HQ;rw[canLayAll_ints ms,depthAll_ints ms];rfl
def WH(ms:List Int):PyData.eqv (.list (ms.map PyData.int)) (.list (ms.map PyData.int))=HQ:=SeqAt.eqv_refl _ (canLayAll_ints ms)
def Jw(K:W.Frag)(a:FQ)(c:Nat->Int):It:=
 ⟨λi H=>∃xs x,ja K H a xs/\xs[i]?=some x,λi H v H'=>∃p x,(∀xs,ja K H a xs->xs[i]?=some x)/\v=.ref p/\H p=none/\H'=upd H p (.tup [.int (c i),x]),λi H=>∃xs,ja K H a xs/\xs.length=i⟩
abbrev cB(K:W.Frag)(a:FQ):It:=Jw K a λi=>i
def XH(d:Nat){P:Nat->EQ->Prop}{St:Nat->NQ->Prop}(D:Draws prog w A it fp n P St):
  Draws prog w A it fp (n+d) (λi v=>∃j,i=j+d/\P j v) (λi h=>∃j,i=j+d/\St j h)where
 live:=λi h⟨j,_,st⟩=>D.live j h st
 frame:=λi h h' ⟨j,e,st⟩k=>⟨j,e,D.frame j h h' st k⟩
 item:=by
  rintro i s Q E hi⟨j,e,st⟩q;subst e;exact D.item j s Q E (by lia) st λx h' J O Y a0=>q x h' J ⟨j,rfl,O⟩ ⟨j+1,by lia,Y⟩ a0
 done:=by
  rintro s Q E⟨j,e,st⟩b0;obtain rfl:j=n:=by lia
  exact D.done s Q E st b0
section
variable{P:MQ}{w:PQ}{K:W.Frag}
def YH{a0:L2.St}(I:Inv X Y a0 H s)(fe:Jg X Y H e)(J:Jg X Y H it)(c0:∃o,h'.get? e=some o)(d0:∃o,h'.get? it=some o)
  (k:∀b o,b≠e->b≠it->s.heap.get? b=some o->h'.get? b=some o):Inv X Y a0 H {s with heap:=h',toks:=t'}:=by
 have e0:∀b o,H b=some o->b≠e/\b≠it:=λb o q=>⟨λz=>(by rw[z,fe.1]at q;cases q),λz=>(by rw[z,J.1]at q;cases q)⟩
 refine I.Df (ch:=[e,it]) rfl ⟨λb o q _ _ O=>?_,λb o q _ _ O=>?_,λb o q n _=>n,λb o q O=>?_,λb xs q=>q,λb o u q=>q,λb ps(q:H b=_)=>⟨#[],by rw[q];simp⟩⟩ (λb u q=>?_) I.bare λb b0=>?_
 ·grind
 ·simp only[Mb,Tg,Vg,not_or]at O;exact⟨o.slots,k b o O.1 O.2 q⟩
 ·grind
 ·refine(I.za b u q).kc (λc v f0 z=>?_) (λc z=>z) λc xs z=>z
  grind
 ·simp only[Mb,Tg,Vg]at b0;rcases b0 with rfl|rfl
  ·exact⟨fe.2.2.2.1,fe.2.1,fe.2.2.2.2.1,fe.2.2.2.2.2⟩
  ·exact⟨J.2.2.2.1,J.2.1,J.2.2.2.2.1,J.2.2.2.2.2⟩
def dB(cd:∀i:Nat,c i=((i+d:Nat):Int))(a e it:FQ)(h0:e≠it):Vi P w K (.Tuple d1 e1 f1) (Jw K a c) [e,it] e (λi h=>(∃O,IsEnum h e it (c i) O)/\h.IsListIter it a i)where
 mem:=by simp
 obj:=λi h⟨⟨O,q⟩,hi⟩c Y=>by
  simp only[Mb,Tg,Vg]at Y;rcases Y with z|z
  ·rw[z];exact(by grind)
  ·rw[z];obtain⟨o,a0,c1,g1⟩:=hi;exact(by grind)
 keep:=λi h h' ⟨⟨O,q⟩,hi⟩k=>⟨by grind,hi.at (by grind)⟩
 item:=by
  intro X i0 j0 k0 Y i l0 s n0 H E I b0 st o0;subst i0 j0 k0;obtain⟨⟨O,q⟩,hi⟩:=st;obtain⟨xs,x,d0,e0⟩:=o0;obtain⟨c0,p0,p,hz⟩:=I.list d0;obtain⟨u,x0,F0⟩:=p0.get e0;have h1:i<c0.toArray.size:=by rw[Zc];exact(ee.mp x0).1
  have q0:a≠it:=λz=>by
   obtain⟨o,J,c1,_⟩:=p.isList;obtain⟨G0,r0,s0,_⟩:=hi;rw[z,r0]at J;cases J;rw[s0]at c1;exact absurd c1 (by decide)
  have H0:e≠a:=λz=>by
   obtain⟨o,J,c1,_⟩:=p.isList;rw[<-z,q]at J;cases J;exact absurd c1 (by grind)
  have I0:IsEnum s.heap e it ((i+d:Nat):Int) O:=cd i▸q;refine wpAny_pyNext_enum_itemD (XH d (Draws.list (A:=X.A.in1) (I.ok.hd Y) it a q0 c0.toArray)) I0 ⟨i,rfl,hi,p.isList⟩ (by lia) h0 ?_ λf0 h' g0 t0 J0 u0 K0 i1 L0=>?_
  ·simp only[Mb,Tg,Vg,not_or];exact⟨h0,H0⟩
  obtain⟨j,j1,t0⟩:=t0;obtain rfl:j=i:=by lia
  obtain⟨M0,k1,u0,_⟩:=u0;obtain rfl:M0=j+1:=by lia
  have ex:f0=u:=by
   have:c0[j]?=some f0:=by simpa using t0
   rw[x0]at this;exact(Yd this).symm
  subst ex;refine⟨_,rfl,wpAny_letOwnedTupleGo_enum J0 λv0 y0 w0=>?_⟩;have z0:e<s.heap.objs.size:=pb q;have N0:it<s.heap.objs.size:=let⟨o,a0,_⟩:=hi;pb a0
  have A0:s.heap.get? s.heap.objs.size=none:=uj (Ra _);have O0:v0.get? s.heap.objs.size=some {cls:=.type "tuple",data:=.seq #[.int ((j+d:Nat):Int) g0,f0]}:=w0.extBut _ _ (Wn z0) K0;have B0:=u0.at λo a0=>w0.extBut _ _ (ud h0) a0
  have Q0:Inv X l0 n0 H {s with heap:=v0,toks:=g0+1}:=YH I (b0 e (by simp)) (b0 it (by simp)) ⟨_,y0⟩ (by obtain⟨o,a0,_⟩:=B0;exact⟨o,a0⟩) λb o C0 R0 S0=>w0.extBut _ _ C0 (L0 b o C0 R0 S0)
  have HT:H s.heap.objs.size=none:=Sj I A0;have U0:Inv X l0 n0 (upd H s.heap.objs.size (.tup [.int (c j),x])) {s with heap:=v0,toks:=g0+1}:=Ss I Q0 A0 HT (⟨by show 2<=JQ;decide,nx18 ([.int ((j+d:Nat):Int) g0,f0]) (.cons ⟨_,by rw[cd]⟩ (.cons F0 .nil)) _ ⟨O0,rfl,_,rfl⟩⟩);refine nx4 (.ref s.heap.objs.size) _ U0 rfl (nx11 s.heap.objs.size x (λys V0=>by rw[I.vd V0 d0];exact e0) rfl HT rfl) ⟨⟨_,by rw[cd,show j+1+d=j+d+1 by lia];exact y0⟩,B0⟩ λc D0=>?_;simp only[Mb,Tg,Vg]at D0;rcases D0 with z|z
  ·rw[z,ka (Ob z0)];exact(b0 e (by simp)).1
  ·rw[z,ka (Ob N0)];exact(b0 it (by simp)).1
 done:=by
  intro X i0 j0 k0 Y i l0 s n0 H E I b0 st o0;subst i0 j0 k0;obtain⟨⟨O,q⟩,hi⟩:=st;obtain⟨xs,d0,e0⟩:=o0;obtain⟨c0,p0,p,hz⟩:=I.list d0;have q0:a≠it:=λz=>by
   obtain⟨o,J,c1,_⟩:=p.isList;obtain⟨G0,r0,s0,_⟩:=hi;rw[z,r0]at J;cases J;rw[s0]at c1;exact absurd c1 (by decide)
  have W0:c0.toArray.size=i:=by rw[Zc,<-p0.length];exact e0
  subst W0;refine wpAny_pyNext_enum_endD (Draws.list (A:=X.A.in1) (I.ok.hd Y) it a q0 c0.toArray) q ⟨hi,p.isList⟩ λh' k=>⟨rfl,?_⟩
  obtain⟨X0,Y0,l1,Z0,a1,b1⟩:=b0 it (by simp);exact I.turned (t':=s.toks) ‹_› X0 Y0 Z0 a1 b1
 self:=λ_ _ _ _ _ st h=>by obtain⟨⟨_,q⟩,_⟩:=st;exact gS q h
end
section
variable{X:Cx}
def ZH(K:W.Frag)(J:TA):TI:=λO H R=>J O H λvs q=>∃a xs,vs=[.ref a]/\q a=some (.lst xs)/\R (cB K a) q
def aI(Y:Gl X "enumerate")(a0:X.mg "enumerate"=none)(b0:PA X [a] c0)(d0:LQ [a] X.env=[(IQ,RQ a X.env)]:=by rfl):
  PI X (.Tuple q0 r0 s0) (.Call (.Name "enumerate" p) [a] [] e0) (ZH X.K c0):=by
 constructor;intro f0 s g0 H R I h;refine Call_ (Jh I Y a0 boot_enumerate (im (Fa (b0 e0 f0 s g0 H _ I h) ?_) d0 rfl));rintro us s1⟨vs,h0,q,i0,j0⟩;obtain⟨l,xs,rfl,k0,l0⟩:=j0;obtain⟨u,rfl,n0⟩:=Gf i0;cases n0;obtain⟨z,t0,n,u0,e⟩:=(q.za l _ k0);refine call_enumerate_1 e λh' o0 hi hz k=>?_
 have p0:=q.kept (t':=s1.toks) k;refine gS o0 ⟨s1.heap.objs.size+1,[s1.heap.objs.size+1,s1.heap.objs.size],_,cB X.K l,h0,rfl,p0,dB (d:=0) (λ_=>rfl) l _ _ (by grind),by grind,λb J=>?_,l0⟩;have O:s1.heap.objs.size<=b:=by
  simp only[Mb,Tg,Vg]at J;rcases J with z|z<;>(rw[z];first|exact wj _|exact Ra _)
 exact q.Ce O (q.za.fresh O)
end
def eB{J:L2.St}(I:Inv X a0 J H s)(e:H d=some (.dK kvs))(ho:s.heap.get? d=some ob):Inv X a0 J (upd H d (.Rb ob (.dK kvs))) s:=by
 have ne:∀b,H b=none->b≠d:=λb q z=>by grind
 refine⟨I.ok,I.os,I.bare,⟨I.base.keep,I.base.slot,λb o q n b0=>?_,I.base.there,λb xs q=>?_,λb o u q=>?_,λb ps q=>?_⟩,I.loc,I.cell,?_,λx c q=>?_,λp c0=>?_,λb u q=>?_,I.len⟩
 ·have:=I.base.free b o q n b0;rw[ka (ne b this)];exact this
 ·have:=I.base.tups b xs q;rw[ka λz=>by grind];exact this
 ·have:=I.base.frzs b o u q;rw[ka λz=>by grind];exact this
 ·obtain⟨more,d0⟩:=I.base.tbls b ps q;exact⟨more,by rw[ka λz=>by grind];exact d0⟩
 ·rw[ka (ne _ I.free)];exact I.free
 ·rw[ka (ne _ (I.yb x c q))];exact I.yb x c q
 ·obtain⟨e0,O,f0⟩:=I.pin p c0;exact⟨e0,by rw[ka (ne _ O)];exact O,f0⟩
 ·by_cases Y:b=d
  ·subst Y;rw[ia]at q;cases q;exact⟨ho,(I.za b _ e).kc (λc v _ z=>z) (λc z=>by rw[ka λy=>by grind];exact z) λc xs z=>by rw[ka λy=>by grind];exact z⟩
  ·rw[ka Y]at q;exact(I.za b u q).kc (λc v _ z=>z) (λc z=>by rw[ka λy=>by grind];exact z) λc xs z=>by rw[ka λy=>by grind];exact z
def xq(d:FQ)(ob:bR)(kvs:List (Key×V)):It:=
 ⟨λi H=>H d=some (.Rb ob (.dK kvs))/\i<kvs.length,λi H v H'=>∃p k x,kvs[i]?=some (k,x)/\v=.ref p/\H p=none/\H'=upd H p (.tup [kV k,x]),λi H=>H d=some (.Rb ob (.dK kvs))/\i=kvs.length⟩
def Xj:∀{l:List q}{m:List O}{i:Nat}{a:q},Paired F l m->l[i]?=some a->∃b,m[i]?=some b/\F a b:=by
 intro _ _ i _ h e;induction h generalizing i with
 |nil=>simp at e
 |cons r t J=>cases i with
  |zero=>grind
  |succ i=>
   obtain⟨a,Y,f⟩:=J (i:=i) (by simpa using e)
   grind
section
variable{P:MQ}{w:PQ}{K:W.Frag}
def fB(h:(Qb P w).is k q=HQ):Sa (kV k) q:=by
 rcases ji h with⟨i,t,rfl,rfl⟩|⟨y,t,rfl,rfl⟩
 ·exact⟨t,rfl⟩
 ·exact⟨t,rfl⟩
def bI(d it ep:FQ)(ob:bR)(kvs:List (Key×V))(vs:List (Key×EQ))(l0:KV kvs vs)(n0:∀h:NQ,h.get? d=some ob->h.DictAt (Qb P w) d vs ep):
  Vi P w K (.Tuple M0 N0 O0) (xq d ob kvs) [it] it (λi h=>∃ok ov,IsItemIter h it d i vs.length ep ok ov)where
 mem:=by simp
 obj:=by grind
 keep:=by grind
 item:=by
  intro X O Y a0 o0 i b0 s c0 H E I d0 st e0;subst O Y a0;obtain⟨ok,ov,q⟩:=st;obtain⟨hd,hi⟩:=e0;obtain⟨ho,_⟩:=(show Fb X.prog X.w H s.heap d (.Rb ob (.dK kvs))from I.za d _ hd);obtain⟨f0,p0⟩:∃f0,kvs[i]?=some f0:=⟨_,Dc hi⟩;obtain⟨k,x⟩:=f0;obtain⟨⟨v0,u⟩,w0,x0,y0⟩:=Xj l0 p0;cases(show k=v0 from x0);refine wpAny_pyNext_items_item q (n0 _ ho) w0 λq0 h' z0 A0 B0 Q0 C0=>?_
  refine⟨_,rfl,wpAny_letOwnedTupleGo_items A0 λg0 D0 r0=>?_⟩;have s0:it<s.heap.objs.size:=pb q;have t0:s.heap.get? s.heap.objs.size=none:=uj (Ra _);have F0:g0.get? s.heap.objs.size=some {cls:=.type "tuple",data:=.seq #[q0,u]}:=r0.extBut _ _ (Wn s0) B0;obtain⟨J,h0,G0,i0,j0,k0⟩:=d0 it (by simp);have H0:Inv X b0 c0 H {s with heap:=g0}:=I.turned (t':=s.toks) (λb o u0 I0=>r0.extBut _ _ u0 (C0 b o u0 I0)) J h0 i0 j0 k0;have HT:H s.heap.objs.size=none:=Sj I t0;have J0:Inv X b0 c0 (upd H s.heap.objs.size (.tup [kV k,x])) {s with heap:=g0}:=Ss I H0 t0 HT (⟨by show 2<=JQ;decide,nx18 ([q0,u]) (.cons (fB z0) (.cons y0 .nil)) _ ⟨F0,rfl,_,rfl⟩⟩);refine nx4 (.ref s.heap.objs.size) _ J0 rfl (nx2 s.heap.objs.size k x p0 rfl HT rfl) ⟨_,_,D0⟩ λc K0=>?_;rw[yg.mp K0,ka (Ob s0)];exact J
 done:=by
  intro X O Y a0 o0 i b0 s c0 H E I d0 st e0;subst O Y a0;obtain⟨ok,ov,q⟩:=st;obtain⟨hd,hi⟩:=e0;obtain⟨ho,_⟩:=(show Fb X.prog X.w H s.heap d (.Rb ob (.dK kvs))from I.za d _ hd);have L0:vs[i]?=none:=zv.mpr (by rw[<-l0.length];lia);refine wpAny_pyNext_items_end (I.ok.hd o0) q (n0 _ ho) L0 λh' k=>⟨rfl,?_⟩
  obtain⟨J,h0,G0,i0,j0,k0⟩:=d0 it (by simp);exact I.turned (t':=s.toks) ‹_› J h0 i0 j0 k0
 self:=λ_ _ _ _ _ st h=>by obtain⟨_,_,q⟩:=st;exact W.kcp_self q h
end
section
variable{X:Cx}
def cI(td:TE):TI:=λO H R=>td O H λx q=>∃d kvs,x=.ref d/\(q d=some (.dK kvs)\/∃ob,q d=some (.Rb ob (.dK kvs)))/\∀ob J,J d=some (.Rb ob (.dK kvs))->(∀b o,b≠d->q b=some o->J b=some o)->(∀b,b≠d->q b=none->J b=none)->R (xq d ob kvs) J
def Kw{o:SQ}{td:TE}{b0 c0:jR}{h0:List SQ}{i0:Nat}{j0:jR}(ho:PE X o td)(k0:YQ o "items" X.env (RQ o X.env)=RQ o X.env:=by rfl)(l0:(b0.endLine==c0.line)=HQ:=by rfl):
  PI X (.Tuple h0 i0 j0) (.Call (.Attribute o "items" b0) [] [] c0) (cI td):=by
 constructor;intro O s Y H R I h;refine FR k0 l0 (Fa (ho O s Y H _ I h) ?_);rintro v s1⟨x,d0,e0,n0,d,kvs,ex,o0,J⟩;subst ex;cases n0;obtain⟨ob,q,f0,p0,y0,z0⟩:∃ob q,Inv X O Y q s1/\q d=some (.Rb ob (.dK kvs))/\(∀b o,b≠d->d0 b=some o->q b=some o)/\∀b,b≠d->d0 b=none->q b=none:=by
  rcases o0 with e|⟨ob,e⟩
  ·obtain⟨ob,q0⟩:=Es (e0.za d _ e);exact nx11 ob _ (eB e0 e q0) ia (λb o n J=>by rw[ka n];exact J) λb n J=>by rw[ka n];exact J
  ·exact(by grind)
 obtain⟨ho2,z,r0,vs,s0,dd⟩:=(show Fb X.prog X.w q s1.heap d (.Rb ob (.dK kvs))from f0.za d _ p0);obtain⟨ep,t0⟩:=dd.dictAt;have g0:∀h:NQ,h.get? d=some ob->h.DictAt (Qb X.prog X.w) d vs ep:=λh e=>t0.at' (by grind)
 refine nx12 ("dict") ("dict.items") Ap F.slot_dict_items F.type_dict_items dd.typeIs (λb J=>?_) (Yl rfl (PySem.evalArgs_none ?_))
 ·cases J;obtain⟨u0,_,_,v0,c1,_⟩:=dd;exact⟨u0,v0,c1.2.1⟩
 refine gm F.slot_dict_items dd.typeIs F.entry_dict_items (F.args_dict_items_1 _) (meets_dict_items (Qb X.prog X.w) d r0) ⟨⟨vs,dd⟩,?_⟩;have hv:(s1.heap.push {cls:=.type "dict_items",data:=.fields #[.ref d]}).IsItemsView s1.heap.objs.size d:=⟨_,ec _ rfl,rfl,rfl⟩;have a0:Inv X O Y q {s1 with heap:=s1.heap.push {cls:=.type "dict_items",data:=.fields #[.ref d]}}:=f0.kept (t':=s1.toks) λb o e=>Xa _ e
 refine wpAny_pyIter_items (s:={s1 with heap:=s1.heap.push {cls:=.type "dict_items",data:=.fields #[.ref d]}}) hv (g0 _ (Xa _ ho2)) ?_;have w0:=a0.kept (t':=s1.toks) (h':=(s1.heap.push {cls:=.type "dict_items",data:=.fields #[.ref d]}).push {cls:=.type "dict_itemiterator",data:=.fields #[.none,.bool IQ,.ref d,.int 0 0,.int vs.length 0,.int ep 0,.none,.none]}) λb o e=>Xa _ e
 exact⟨_,[(s1.heap.push {cls:=.type "dict_items",data:=.fields #[.ref d]}).objs.size],_,_,q,rfl,w0,bI d _ ep ob kvs vs s0 g0,⟨_,_,ec _ rfl⟩,λb x0=>by
  rw[yg.mp x0];exact a0.Ce (Ra _) (a0.za.fresh (Ra _)),by grind⟩
end
def Mw{g:TG}{a0:TS}{D:Se}(Pv:Nat->L2.St->Hp->Prop)(k0:Pv 0 q H)(b0:∀i q H,Pv i q H->H d=some (.Rb ob (.dK kvs)))
  (e0:∀i k x q H p,kvs[i]?=some (k,x)->Pv i q H->H p=none->g (.ref p) q (upd H p (.tup [kV k,x])) λJ O=>a0 {D with nx:=Pv (i+1),ct:=Pv (i+1),bk:=D.nx} J O)(f0:∀q H,Pv kvs.length q H->D.nx q H):
  ∃W:Nat->Nat->L2.St->Hp->Prop,(∃m,W 0 m q H)/\∀i m q H,W i m q H->
   ((xq d ob kvs).stop i H/\D.nx q H)\/((xq d ob kvs).go i H/\∃N:L2.St->Hp->Prop,(∀Y H',N Y H'->∃c0,c0<m/\W (i+1) c0 Y H')/\∀x H',(xq d ob kvs).pe i H x H'->g x q H' λJ O=>a0 {D with nx:=N,ct:=N,bk:=D.nx} J O):=by
 refine⟨λi m q H=>m=kvs.length-i/\i<=kvs.length/\Pv i q H,by grind,?_⟩;rintro i m q H⟨rfl,hi,p⟩;by_cases d0:i<kvs.length
 ·refine .inr ⟨⟨b0 i q H p,d0⟩,Pv (i+1),λY H' g0=>⟨kvs.length-(i+1),by lia,rfl,d0,g0⟩,?_⟩;rintro v H' ⟨h0,k,x,i0,rfl,j0,rfl⟩;exact e0 i k x q H h0 i0 p j0
 ·have e:i=kvs.length:=by lia
  subst e;exact .inl ⟨⟨b0 _ q H p,rfl⟩,f0 q H p⟩
def Co(K:W.Frag)(a:FQ)(n:Nat):It:=
 ⟨λi H=>∃xs x,ja K H a xs/\xs.length=n/\i<n/\xs[n-1-i]?=some x,λi H v H'=>H'=H/\∀xs,ja K H a xs->xs[n-1-i]?=some v,λi _=>i=n⟩
def dI{K:W.Frag}(a it:FQ)(n:Nat):Vi P w K B0 (Co K a n) [it] it (λi h=>i<=n/\h.IsRevIter it a ((n:Int)-1-(i:Int)))where
 mem:=by simp
 obj:=λi h⟨_,hi⟩c q=>by
  rw[yg.mp q];obtain⟨o,i0,_,d⟩:=hi
  grind
 keep:=λi h h' ⟨l,hi⟩k=>⟨l,hi.at (by grind)⟩
 item:=by
  intro X J O Y q i l0 s n0 H E I a0 st b0;subst J O Y;obtain⟨_,hi⟩:=st;obtain⟨xs,x,j0,C0,o0,k0⟩:=b0;obtain⟨D0,p0,p,hz⟩:=I.list j0;obtain⟨u,q0,r0⟩:=p0.get k0;have c0:(n:Int)-1-(i:Int)=((n-1-i:Nat):Int):=by lia
  rw[c0]at hi;refine wpAny_pyNext_rev_item hi p.isList (x:=u) (by simpa using q0) λh' s0 t0=>?_
  obtain⟨d0,e0,u0,f0,g0,h0⟩:=a0 it (by simp);obtain⟨F0,v0,w0,x0⟩:=id s0;refine⟨u,rfl,Vp v0 w0 x0 (by decide) (nx4 x H (I.turned (t':=s.toks) (λb o y0 i0=>(t0.2 b y0).trans i0) d0 e0 f0 g0 h0) r0 ⟨rfl,λys z0=>by rw[I.vd z0 j0];exact k0⟩ ⟨o0,?_⟩ λc G0=>by grind)⟩
  grind
 done:=by
  intro X J O Y q i l0 s n0 H E I a0 st b0;subst J O Y;obtain⟨_,hi⟩:=st;have A0:i=n:=b0;subst A0;have c0:(i:Int)-1-(i:Int)=-1:=by lia
  rw[c0]at hi;refine wpAny_pyNext_rev_end (I.ok.hd q) hi λh' k=>⟨rfl,?_⟩
  obtain⟨d0,e0,u0,f0,g0,h0⟩:=a0 it (by simp);exact I.turned (t':=s.toks) ‹_› d0 e0 f0 g0 h0
 self:=λ_ _ _ _ _ st h=>wpAny_pyIter_revIter st.2 h
section
variable{X:Cx}
def eI(K:W.Frag)(J:TA):TI:=λO H R=>J O H λvs q=>∃a xs,vs=[.ref a]/\q a=some (.lst xs)/\R (Co K a xs.length) q
def gI(a0:Gl X "reversed")(b0:X.mg "reversed"=none)(c0:PA X [a] d0)(e0:LQ [a] X.env=[(IQ,RQ a X.env)]:=by rfl):PI X r0 (.Call (.Name "reversed" p) [a] [] f0) (eI X.K d0):=by
 constructor;intro J s O H R I h;refine Call_ (Jh I a0 b0 boot_reversed (im (Fa (c0 f0 J s O H _ I h) ?_) e0 rfl));rintro us s1⟨vs,Y,q,g0,h0⟩;obtain⟨l,xs,rfl,i0,j0⟩:=h0;obtain⟨u,rfl,k0⟩:=Gf g0;cases k0;obtain⟨l0,n0,pl,hz⟩:=q.list (ja.of i0);have o0:=n0.length;refine call_reversed_list pl.isList ?_;have e:((l0.toArray.size:Nat):Int)-1=(xs.length:Int)-1-((0:Nat):Int):=by rw[Zc,<-o0];lia
 rw[e];have hi:(s1.heap.push (revObj l ((xs.length:Int)-1-((0:Nat):Int)))).IsRevIter s1.heap.objs.size l ((xs.length:Int)-1-((0:Nat):Int)):=⟨_,ec _ rfl,rfl,rfl⟩;have p0:Inv X J O Y {s1 with heap:=s1.heap.push (revObj l ((xs.length:Int)-1-((0:Nat):Int)))}:=q.kept (t':=s1.toks) λb o e=>Xa _ e
 refine wpAny_pyIter_revIter (s:={s1 with heap:=s1.heap.push (revObj l ((xs.length:Int)-1-((0:Nat):Int)))}) hi ⟨s1.heap.objs.size,[s1.heap.objs.size],_,Co X.K l xs.length,Y,rfl,p0,dI l _ _,by grind,λb q0=>?_,j0⟩;rw[yg.mp q0];exact q.Ce (Ra _) (q.za.fresh (Ra _))
end
def hI{K:PySem.W.Frag}{g:TG}{b0:TS}{D:Se}(Pv:Nat->L2.St->Hp->Prop)(j0:Pv 0 q H)(e0:∀i q H,Pv i q H->ja K H a xs)
  (f0:∀i x q H,xs[xs.length-1-i]?=some x->i<xs.length->Pv i q H->g x q H λJ O=>b0 {D with nx:=Pv (i+1),ct:=Pv (i+1),bk:=D.nx} J O)(g0:∀q H,Pv xs.length q H->D.nx q H):
  ∃W:Nat->Nat->L2.St->Hp->Prop,(∃m,W 0 m q H)/\∀i m q H,W i m q H->
   ((Co K a xs.length).stop i H/\D.nx q H)\/((Co K a xs.length).go i H/\∃N:L2.St->Hp->Prop,(∀Y H',N Y H'->∃c0,c0<m/\W (i+1) c0 Y H')/\∀x H',(Co K a xs.length).pe i H x H'->g x q H' λJ O=>b0 {D with nx:=N,ct:=N,bk:=D.nx} J O):=by
 refine⟨λi m q H=>m=xs.length-i/\i<=xs.length/\Pv i q H,by grind,?_⟩;rintro i m q H⟨rfl,hi,p⟩;have d0:=e0 i q H p;by_cases a0:i<xs.length
 ·refine .inr ⟨nx11 xs _ d0 rfl a0 (Dc (by lia)),Pv (i+1),λY H' h0=>⟨xs.length-(i+1),by lia,rfl,a0,h0⟩,?_⟩;rintro x H' ⟨rfl,i0⟩;exact f0 i x q _ (i0 xs d0) a0 p
 ·have e:i=xs.length:=by lia
  subst e;exact .inl ⟨rfl,g0 q H p⟩
open Builtin.Str PySem.StrLaws
def pre(d:Nat):List (List Nat)->List (List Nat)
 |[]=>[]
 |p::r=>p::r.map (d::·)
end My
namespace My
open PySem PySem.Spec PyProof.Rows L2 PyProof
section
variable{prog:MQ}{w:PQ}{A:OQ}
def iI{q:List Int}(h:q[j]?=some n):q.take (j+1)=q.take j++[n]:=by rw[Oi,h];rfl
end
def pf{F:J->O->Prop}(p:Paired F xs bs):xs.length=bs.length:=by
 induction p with
 |nil=>rfl
 |cons _ _ q=>simp only[Hk,q]
def jI{F G:J->O->Prop}(f:∀v a,F v a->G v a)(p:Paired F xs bs):Paired G xs bs:=by
 induction p with
 |nil=>exact .nil
 |cons h _ q=>exact .cons (f _ _ h) q
def Nw(k:Int):∀ms:List Int,Kh (.int k) (ms.map V.int)=ms.contains k
 |[]=>rfl
 |m::r=>by
  have q:=Nw k r;unfold Kh at q⊢;rw[qd,Xn,q,List.contains_cons];show((m==k)||_)=_;rw[show(m==k)=(k==m)from(by grind)]
def gB{K:W.Frag}(q:X.K=K):Vc X (ZQ .NotIn) (cw K HQ):=q▸Qz
def hB(ms:List Int):(ms.map V.int).all Mj=HQ:=by
 rw[List.all_eq_true];intro v hv;obtain⟨m,_,rfl⟩:=Fd.mp hv;rfl
structure iB(K:W.Frag)(C:FQ):Prop where
 makes:W.makesIn K C=HQ
 init:W.findIn K (.ref C) "__init__"=some (some (.builtin "object.__init__"))
 kp:W.keepIn K (.ref C)=HQ
section
variable{X:Cx}
def kI(C:FQ):TE:=λ_ H Q=>∀x q,H x=none->H q=none->q≠x->Q (.ref x) (upd (upd H q (.own x)) x (.ins C q []))
def yq(M:iB X.K C)(q:Gl X x)(J:X.mg x=some (.ref C))(O:(x==("__debug__":Str))=IQ:=by decide):PE X (.Call (.Name x p) [] [] f0) (kI C):=by
 constructor;intro g0 s h0 H Q I h;refine bi (Ti I q J ?_ O);refine Er I.rb M.kp (fi (iF I.rb M.makes M.init (λself=>W.Looks.of_pure (W.oi_bind self)) ?_));have Y:=Inv.made (C:=C) I;have a0:=h (s.heap.objs.size+1) s.heap.objs.size (I.za.fresh (wj _)) (I.za.fresh (Ra _)) (by grind);have b0:=W.makes_of (M:=KQ X.prog X.w) I.rb M.makes;have c0:((s.heap.push W.emptyDict).push (W.instObj C s.heap.objs.size)).get? (s.heap.objs.size+1)=some (W.instObj C s.heap.objs.size):=by
  have:=ec (s.heap.push W.emptyDict) (o:=W.instObj C s.heap.objs.size) rfl;rwa[zh]at this
 have d0:W.Looks (KQ X.prog X.w) ((s.heap.push W.emptyDict).push (W.instObj C s.heap.objs.size)) (typeOf (.ref (s.heap.objs.size+1))) (.ref C):=(W.Looks.ld c0).andThen .now;have e0:W.Looks (KQ X.prog X.w) ((s.heap.push W.emptyDict).push (W.instObj C s.heap.objs.size)) (BR (.ref (s.heap.objs.size+1)) (.type "object")) HQ:=d0.andThen (b0.top.keeps λb o e=>Xa _ (Xa _ e));refine km W.oi_plain W.entry_oi (@W.check_slot (KQ X.prog X.w) _ _ _ "object.__init__" "object" "__init__" (.ref (s.heap.objs.size+1)) [] [] _ W.oi_kind W.oi_split e0 (W.oi_args (.ref (s.heap.objs.size+1))) ?_);exact Aa (And.intro rfl ⟨V.ref _,_,Y,rfl,a0⟩)
def jB(X:Cx){q:Type}(cls:q->FQ)(m:Str)(sp:q->Sp)(k:Nat):Prop:=∀l,∃f J ps,Cls X.K (cls l)/\Lc X.K (cls l) m f/\Kb X.prog X.w X.K X.mg X.base Qc k f J ps (sp l)/\Wc X.K J ps []
inductive lI(cls:ι->FQ)(m:Str)(sp:ι->Sp)(t:TA)(σ:L2.St)(Q:VK)(x:V)(H1:Hp):Prop|mk(a l dx fs)(_:x=.ref a)(_:H1 a=some (.ins (cls l) dx fs))(_:fs.lookup m=none)(_:t σ H1 λvs H2=>sp l (x::vs) H2 Q E0)
def kB{q:Type}(cls:q->FQ)(m:Str)(sp:q->Sp)(O:TE)(t:TA):TE:=λJ H Q=>O J H (lI cls m sp t J Q)
def Ow{Y:Type}{cls:Y->FQ}{m:Str}{sp:Y->Sp}{k:Nat}{o e:SQ}{q:List SQ}{a0:TE}{t:TA}{O J:jR}{pl:Sem Bool}(g0:PE X o a0)(M:jB X cls m sp k)(h0:Wa k X.A)(i0:PA X (e::q) t)
  (j0:LQ (e::q) X.env=(IQ,RQ e X.env)::LQ q X.env:=by rfl)(k0:(VQ J (LQ q X.env)).any (·.1)=IQ:=by rfl)
  (l0:RQ (.Call (.Attribute o m O) (e::q) [] J) X.env=(do let ov<-RQ o X.env;qR O.atName;let(f,first)<-zR [ov] (mR ov m pl);sR J f first (VQ J (LQ (e::q) X.env)) (dR J (TQ [] X.env))):=by rfl):
  PE X (.Call (.Attribute o m O) (e::q) [] J) (kB cls m sp a0 t):=by
 constructor;intro b0 s c0 H Q I h;refine vm (Fa (g0 b0 s c0 H _ I h) ?_) l0;rintro u s1⟨x,n0,d0,o0,a,l,t0,fs,ex,p0,lk,q0⟩;subst ex;obtain rfl:u=Value.ref a:=o0;obtain⟨f,u0,ps,c,e0,F,r0⟩:=M l;refine no d0 p0 c e0 lk ?_;refine lm I.ok.mod.ki e0.kp (Fa (i0 J b0 s1 c0 n0 _ d0 q0) ?_) j0 k0;rintro us v0⟨vs,w0,f0,r,s0⟩;refine⟨f0.rb,?_⟩;exact dq (vs:=.ref a::vs) F h0 r0 .nil Mh f0 (.cons rfl r) (by rw[Vn];exact s0)
def Do{Y:Type}{cls:Y->FQ}{m:Str}{sp:Y->Sp}{k:Nat}{o:SQ}{a0:TE}{J q:jR}{pl:Sem Bool}(c0:PE X o a0)(M:jB X cls m sp k)(d0:Wa k X.A)
  (e0:RQ (.Call (.Attribute o m J) [] [] q) X.env=(do let ov<-RQ o X.env;qR J.atName;let(f,first)<-zR [ov] (mR ov m pl);sR q f first (VQ q (LQ [] X.env)) (dR q (TQ [] X.env))):=by rfl):
  PE X (.Call (.Attribute o m J) [] [] q) (kB cls m sp a0 Xk):=by
 constructor;intro f0 s g0 H Q I h;refine vm (Fa (c0 f0 s g0 H _ I h) ?_) e0;rintro u s1⟨x,l0,O,h0,a,l,n0,fs,ex,i0,lk,j0⟩;subst ex;obtain rfl:u=Value.ref a:=h0;obtain⟨f,o0,ps,c,b0,F,k0⟩:=M l;refine no O i0 c b0 lk ?_;exact Er O.rb b0.kp (dq (vs:=[.ref a]) F d0 k0 .nil Mh O (.cons rfl .nil) j0)
end
def Rf(xs:Array Nat):Prop:=xs.toList.Pairwise (·<·)
def Rf.lt(h:Rf xs){i j x y:Nat}(J:i<j)(hi:xs[i]?=some x)(q:xs[j]?=some y):x<y:=by
 rw[<-Aj]at hi q;obtain⟨O,Y⟩:=ee.mp hi;obtain⟨a0,b0⟩:=ee.mp q;have:=Cp.mp h i j O a0 J;rw[Y,b0]at this;exact this
def Pw(h:Rf xs)(j:Nat):∀(fuel lo hi:Nat),hi-lo<=fuel->lo<=hi->hi<=xs.size->(∀k x,xs[k]?=some x->k<lo->x<j)->(∀k x,xs[k]?=some x->hi<=k->j<=x)->
  ∀k x,xs[k]?=some x->(k<SetTable.below.go xs j fuel lo hi->x<j)/\(SetTable.below.go xs j fuel lo hi<=k->j<=x)
 |0,lo,hi,b0,c0,O,q,J=>λk x e=>by
  have:lo=hi:=by lia
  subst this;exact⟨q k x e,J k x e⟩
 |fuel+1,lo,hi,b0,c0,O,q,J=>λk x e=>by
  unfold SetTable.below.go;by_cases d0:lo<hi
  ·rw[Ca d0];have e0:lo<=(lo+hi)/2:=by lia
   have h0:(lo+hi)/2<hi:=by lia
   have Y:(lo+hi)/2<xs.size:=by lia
   have em:=xv Y;have f0:xs.getD ((lo+hi)/2) j=xs[(lo+hi)/2]:=by simp[Array.getD,Y]
   dsimp only;rw[f0];by_cases a0:xs[(lo+hi)/2]<j
   ·rw[Ca a0];refine Pw h j fuel _ hi (by lia) (by lia) O (λk x e hk=>?_) J k x e;by_cases g0:k=(lo+hi)/2
    ·grind
    ·have:=h.lt (by lia) e em;lia
   ·rw[Ba a0];refine Pw h j fuel lo _ (by lia) e0 (by lia) q (λk x e hk=>?_) k x e;by_cases g0:k=(lo+hi)/2
    ·grind
    ·have:=h.lt (by lia) em e;lia
  grind
def Wm(h:Rf xs)(j:Nat)(e:xs[k]?=some x):(k<SetTable.below xs j->x<j)/\(SetTable.below xs j<=k->j<=x):=by
 refine Pw h j xs.size 0 xs.size (by lia) (wc _) (Ra _) (by grind) (λk x e hk=>?_) k x e
 grind
def mI(h:Rf xs)(e:xs[i]?=some x):SetTable.below xs x=i:=by
 have J:=Wm h x e;by_cases a0:SetTable.below xs x<=i
 ·by_cases O:SetTable.below xs x=i
  ·exact O
  ·have Y:SetTable.below xs x<i:=by lia
   have hi:=(Array.getElem?_eq_some_iff.mp e).1;have q:xs[SetTable.below xs x]?=some xs[SetTable.below xs x]:=by grind
   have b0:=(Wm h x q).2 (Ra _);have c0:=h.lt Y q e;lia
 ·have:=J.1 (by lia);lia
def nI(h:Rf xs)(e:xs[SetTable.below xs j]?≠some j):j∉xs.toList:=λJ=>by
 obtain⟨k,hk,O⟩:=Np J;have q:xs[k]?=some j:=by rw[<-Aj,Dc hk,O]
 rw[mI h q]at e;exact e q
def Rf.insert(h:Rf xs)(e0:j∉xs.toList):Rf (SetTable.insertAt xs (SetTable.below xs j) j):=by
 unfold Rf;rw[SetTable.toList_insertAt];refine List.pairwise_append.mpr ⟨h.sublist (by grind),Eh.mpr ⟨λb J=>?_,h.sublist (by grind)⟩,λa a0 b J=>?_⟩
 ·obtain⟨k,hk,q⟩:=Np J;rw[List.getElem_drop]at q;have O:xs[SetTable.below xs j+k]?=some b:=by rw[<-Aj,Dc (by rw[Kn]at hk;lia),q]
  have:=(Wm h j O).2 (by lia);have ne:b≠j:=by grind
  lia
 ·obtain⟨k,hk,q⟩:=Np a0;rw[List.getElem_take]at q;rw[vj]at hk;have O:xs[k]?=some a:=by rw[<-Aj,Dc (by lia),q]
  have f0:=(Wm h j O).1 (by lia);rcases Mb.mp J with z|z
  ·lia
  ·obtain⟨b0,c0,Y⟩:=Np z;rw[List.getElem_drop]at Y;have d0:xs[SetTable.below xs j+b0]?=some b:=by rw[<-Aj,Dc (by rw[Kn]at c0;lia),Y]
   have:=(Wm h j d0).2 (by lia);lia
structure Nc(t:SetTable):Prop where
 up:Rf t.place
 nd:t.dummies=#[]
def Nc.fresh(f m:Nat)(l:Bool):Nc (.fresh f m l):=⟨List.Pairwise.nil,rfl⟩
def Nc.Lg(h:Nc t)(j:Nat):SetTable.has t.dummies j=IQ:=by
 rw[h.nd];unfold SetTable.has;simp
def Nc.Xm(h:Nc t):∀(O:Nat)(p:SetTable.Probe){j:Nat}{d:Option Nat},p.dummy=none->SetTable.probe.go t f z O p=some (.empty j d)->d=none/\j∉t.place.toList:=by
 intro l;induction l with
 |zero=>intro p j d Y e;unfold SetTable.probe.go at e;cases e
 |succ O a0=>
  intro p j d Y e;unfold SetTable.probe.go at e;have b0:∀J:SetTable.Probe,(t.advance J).dummy=J.dummy:=λJ=>by
   unfold SetTable.advance;split<;>rfl
  cases q:t.slot p.j with
  |empty=>
   rw[q]at e;cases e;refine⟨Y,nI h.up λz=>?_⟩;unfold SetTable.slot at q
   grind
  |dummy=>
   unfold SetTable.slot at q;simp only[h.Lg]at q;split at q<;>cases q
  |live i=>
   rw[q]at e;dsimp only at e;split at e
   ·cases e
   ·exact a0 _ (by grind) e
def Nc.free(h:Nc t)(e:t.freeSlot z=some (j,b)):j∉t.place.toList:=by
 unfold SetTable.freeSlot at e;cases q:t.probe (λ_=>z+1) z (t.probeStart z)with
 |none=>rw[q]at e;cases e
 |some m=>
  rw[q]at e;cases m with
  |candidate a b c=>cases e
  |empty J d=>
   obtain⟨O,Y⟩:=h.Xm _ _ rfl q
   grind
def Nc.put(h:Nc t)(q:j∉t.place.toList):Nc (t.put j).1/\(t.put j).1.led=t.led:=by
 refine⟨⟨h.up.insert q,?_⟩,rfl⟩;show(if SetTable.has t.dummies j=HQ then _ else t.dummies)=#[];rw[h.Lg,Ba (by simp)];exact h.nd
def pI(n:Nat):Rf (Array.range n):=by
 unfold Rf;rw[Array.toList_range];exact List.pairwise_lt_range
def Nc.Mg(t:SetTable)(n:Nat):Nc (t.standIn n)/\(t.standIn n).led=t.led:=⟨⟨pI n,rfl⟩,rfl⟩
def Nc.Yj(h:Nc t)(n:Nat):Nc (t.orStandIn n)/\(t.orStandIn n).led=t.led:=by
 unfold SetTable.orStandIn;split
 ·grind
 ·exact Nc.Mg t n
def Nc.Zj(h:Nc t)(q:Array (Int×EQ))(z:Int)(x:EQ):Nc (layNew t q z x).2.1/\(layNew t q z x).2.1.led=t.led:=by
 unfold layNew;split
 ·rename_i slot wd e;obtain⟨J,O⟩:=h.put (h.free e);obtain⟨Y,a0⟩:=J.Yj (SetTable.insertAt q (t.put slot).2 (z,x)).size
  grind
 ·exact Nc.Mg t _
def qI(e:SetTable.laid mask e0 f0 led pl O=some (t,o)):Nc t/\t.led=led:=by
 unfold SetTable.laid at e;cases J:SetTable.layClean mask O with
 |none=>rw[J]at e;cases e
 |some q=>
  rw[J]at e;cases e;refine⟨⟨?_,rfl⟩,rfl⟩;have Y:∀l:List Nat,l.Pairwise (·<·)->((l.filterMap λj=>(q.getD j none).map (j,·)).map (·.1)).Pairwise (·<·)/\∀x∈(l.filterMap λj=>(q.getD j none).map (j,·)).map (·.1),x∈l:=by
   intro l;induction l with
   |nil=>intro _;exact⟨.nil,by grind⟩
   |cons a r a0=>
    intro b0;obtain⟨g0,c0⟩:=Eh.mp b0;obtain⟨d0,h0⟩:=a0 c0;rw[Sn];cases ho:q.getD a none with
    |none=>exact⟨d0,by grind⟩
    |some i0=>
     refine⟨Eh.mpr (by grind),λx j0=>?_⟩
     grind
  exact(Y _ List.pairwise_lt_range).1
def Nc.zq(q:Array (Int×EQ))(J:Nat):Nc (NR t q J).2.1/\(NR t q J).2.1.led=t.led:=by
 unfold NR;split
 ·rename_i t' O e;have:=qI e;dsimp only;split
  ·exact this
  ·exact Nc.Mg t _
 ·exact Nc.Mg t _
def Ci(e:Int×EQ):Int:=match e.2 with
 |.int n _=>n
 |_=>0
section
variable{prog:MQ}{w:PQ}{A:OQ}{E:EQ->GQ->Prop}{s:GQ}
def hh(prog:MQ)(w:PQ)(h:NQ)(a:FQ)(ks:List Int)(led:Bool):Prop:=
 ∃o q ep t,h.get? a=some o/\o.ExactSet/\o.data=.set q ep t/\ElemsOf (lR prog w) q.toList/\q.size<RR/\t.fits q.size=HQ/\Nc t/\t.led=led/\(q.toList.map Ci).Perm ks
def Qw{e:Int×EQ}(h:(∃k,(lR prog w).is k e.2=HQ/\e.1=(lR prog w).hash k)/\e.2.scannable=HQ):∃t,e.2=.int (Ci e) t:=by
 obtain⟨⟨k,hk,_⟩,_⟩:=h;obtain⟨t,q⟩:=Value.isInt_shape hk;refine⟨t,?_⟩;unfold Ci;rw[q]
def lB(h:(∃k,(lR prog w).is k e.2=HQ/\e.1=(lR prog w).hash k)/\e.2.scannable=HQ):(lR prog w).is n e.2=HQ↔Ci e=n:=by
 obtain⟨t,q⟩:=Qw h;rw[q];constructor
 ·intro z;obtain⟨t',J⟩:=Value.isInt_shape (show Value.isInt n (Value.int (Ci e) t)=HQ from z)
  grind
 ·intro z;rw[z];exact intKind_is _ _ _ _
def nB{h:NQ}(ho:h.get? a=some o)(J:o.data=.set Y ep t)(q:Array (Int×EQ))(t':SetTable):(h.update a (Obj.putSet q t')).get? a=some {o with data:=.set q (ep+1) t'}:=by
 have O:=zk (Obj.putSet q t') ho (by rw[putSet_of q t' J];rfl);rwa[putSet_of q t' J]at O
def sI(I0:hh prog w s.heap a ks led)(J0:ks.length+1<RR)
  (h:∀b h',Heap.SameBut a s.heap h'->hh prog w h' a (aR ks n) led->Q b {s with heap:=h'}):wpAny (KQ prog w) A (setAddHashed a (.int n Y) ((lR prog w).hash n)) Q E s:=by
 obtain⟨o,O,ep,t,ho,hex,e0,a0,r0,i0,s0,j0,f0⟩:=I0;have t0:(lR prog w).is n (.int n Y)=HQ:=intKind_is _ _ _ _;have u0:(Value.int n Y).scannable=HQ:=rfl;have hsz:O.size=ks.length:=by rw[<-Ag,<-Na,f0.length_eq]
 refine eg (ba (Ln ho e0 i0 ?_));dsimp only;rw[byScan_of u0 r0 a0];simp only[↓reduceIte];refine ba (ba (GR (ba (wpAny_setScan_of t0 ho e0 i0 a0 ?_))));cases v0:List.findIdx? (λe=>(lR prog w).is n e.2) O.toList with
 |some j=>
  dsimp only;obtain⟨W0,K0,_⟩:=List.findIdx?_eq_some_iff_getElem.mp v0;have X0:=f0.mem_iff.mp (Fd.mpr ⟨O.toList[j],by grind,(lB (a0 _ (by grind))).mp K0⟩);have Y0:s={s with heap:=s.heap}:=by cases s;rfl
  refine Aa (Aa ?_);refine h _ s.heap (Heap.SameBut.refl a s.heap) ?_;unfold aR;rw[Ca (by grind)];exact⟨o,nx6 O ep t ho hex e0 a0 r0 i0 s0 j0 f0⟩
 |none=>
  have L0:n∉ks:=λz=>by
   obtain⟨e,w0,M0⟩:=Fd.mp (f0.mem_iff.mpr z);have b0:=List.findIdx?_eq_none_iff.mp v0 e w0;rw[(lB (a0 _ w0)).mpr M0]at b0;cases b0
  have Z0:aR ks n=ks++[n]:=by
   unfold aR;rw[Ba λz=>by obtain⟨x,N0,ex⟩:=Ik.mp z;exact L0 (by rw[<-beq_iff_eq.mp ex];exact N0)]
  have x0:∀(b:Bool){k0:GQ}{l0:Unit->GQ->Prop},l0 () k0->wpAny (KQ prog w) A (match b with|true=>rule "set.scan.the-table-gave-way"|false=>pure ()) l0 E k0:=λb k0 l0 y0=>by cases b<;>first|exact Aa y0|exact GR y0
  have c0:=layNew_perm t O ((lR prog w).hash n) (.int n Y);have g0:=layNew_fits t O ((lR prog w).hash n) (.int n Y);have d0:=s0.Zj O ((lR prog w).hash n) (.int n Y);generalize layNew t O ((lR prog w).hash n) (.int n Y)=L at c0 g0 d0⊢;obtain⟨q,z0,wd,a1⟩:=L;dsimp only at c0 g0 d0⊢;rw[Array.toList_push]at c0;have A0:=(a0.push t0 u0).perm c0;have O0:(q.toList.map Ci).Perm (ks++[n]):=(c0.map Ci).trans (by rw[Dg];exact f0.append_right [n]);have Q0:q.size=ks.length+1:=by rw[<-Ag,c0.length_eq,gi,Ag,hsz];rfl
  have h0:q.size<RR:=by rw[Q0];exact J0
  refine ba (x0 _ ?_);have B0:∀(J:SetTable),J.fits q.size=HQ->Nc J->J.led=led->wpAny (KQ prog w) A (do
    storeSet a q J
    if(!wd&&J.tooFull)=HQ then do
      (match(NR J q (SetTable.grown q.size)).2.2 with|true=>rule "set.scan.the-table-gave-way"|false=>pure ())
      storeSet a (NR J q (SetTable.grown q.size)).1 (NR J q (SetTable.grown q.size)).2.1
      pure (some HQ)
     else pure (some HQ)) (λr s'=>∃h',s'={s with heap:=h'}/\r=some HQ/\Heap.SameBut a s.heap h'/\hh prog w h' a (ks++[n]) led) E s:=by
   intro J R0 S0 C0;refine ba (wpAny_storeSet_of ho e0 ?_ (fits_of_scanBound h0));have n0:=nB ho e0 q J;have D0:=Qk s.heap a (Obj.putSet q J);split
   ·have o0:=relayAll_perm J q (SetTable.grown q.size);have F0:=relayAll_fits J q (SetTable.grown q.size);have p0:=Nc.zq (t:=J) q (SetTable.grown q.size);generalize NR J q (SetTable.grown q.size)=U0 at o0 F0 p0⊢;obtain⟨q0,G0,b1⟩:=U0;have H0:q0.size=q.size:=by rw[<-Ag,o0.length_eq,Ag]
    refine ba (x0 _ (ba (wpAny_storeSet_of n0 rfl ?_ (fits_of_scanBound (by rw[H0];exact h0)))));have V0:=nB n0 rfl q0 G0;exact Aa (nx16 _ rfl rfl (D0.trans (Qk _ a _)) _ q0 (nx17 _ G0 V0 hex rfl (A0.perm o0) (by rw[H0];exact h0) F0 p0.1 ⟨p0.2.trans C0,by grind⟩))
   ·exact Aa (nx16 _ rfl rfl D0 _ q (nx17 _ J n0 hex rfl A0 h0 R0 S0 ⟨C0,O0⟩))
  have fin:∀r s',(∃h',s'={s with heap:=h'}/\r=some HQ/\Heap.SameBut a s.heap h'/\hh prog w h' a (ks++[n]) led)->∃b,r=some b/\Q b s':=by
   rintro r s' ⟨h',rfl,rfl,d1,e1⟩;exact(by grind)
  split
  ·refine ba ?_;refine Aa ?_;refine Kc (B0 z0 g0 d0.1 (d0.2.trans j0)) (λr s' z=>?_) λ_ _ z=>z
   obtain⟨b,rfl,b0⟩:=fin r s' z;exact Aa b0
  ·refine ba (Aa ?_);refine Kc (B0 z0 g0 d0.1 (d0.2.trans j0)) (λr s' z=>?_) λ_ _ z=>z
   obtain⟨b,rfl,b0⟩:=fin r s' z;exact Aa b0
end
def dd(q:List Int):List Int:=q.foldl aR []
def qf(q:List Int):(dd q).length<=q.length:=by
 have O:∀(q J:List Int),(q.foldl aR J).length<=J.length+q.length:=by
  intro q;induction q with
  |nil=>intro J;exact Ra _
  |cons n r Y=>
   intro J;have a0:=Y (aR J n);have b0:(aR J n).length<=J.length+1:=by unfold aR;split<;>simp
   grind
 have:=O q [];unfold dd;simpa using this
def tI(q:List Int)(n:Int):dd (q++[n])=aR (dd q) n:=by
 unfold dd
 grind
section
variable{prog:MQ}{w:PQ}{A:OQ}{E:EQ->GQ->Prop}{s:GQ}
def hh.keep(x:hh prog w h a ks led)(k:∀o,h.get? a=some o->h'.get? a=some o):hh prog w h' a ks led:=by
 obtain⟨o,q,ep,t,ho,r⟩:=x;exact nx19 o q ep t (k o ho) r
def uI{us:List EQ}(h0:A.handled=none)(i0:us.length=q.length)(j0:∀(j:Nat)u,us[j]?=some u->∃n t,q[j]?=some n/\u=Value.int n t)(k0:l≠I)(l0:S≠I)(n0:S≠l)(a0:q.length+1<RR):
  ∀(k i:Nat)(s:GQ),us.length-i=k->i<=us.length->s.heap.IsListIter I l i->s.heap.IsList l us.toArray->hh prog w s.heap S (dd (q.take i)) led->
   (∀h' O,(∀b o,b≠I->b≠S->s.heap.get? b=some o->h'.get? b=some o)->hh prog w h' S (dd q) led->R (.ok (.ret .none)) {s with heap:=h',toks:=O})->
   codeAny (KQ prog w) A (.builtin "set.update.loop" ⟨[.ref S,.ref I],[]⟩) R s:=by
 have W:=Walks.list (prog:=prog) (w:=w) (A:=A.in1) h0 I l k0 us.toArray;have o0:us.toArray.size=us.length:=by simp
 intro k;induction k with
 |zero=>
  intro i s hk hi b0 Y J c0;have p0:i=us.length:=by lia
  refine Bh PyProof.Rows.F.entry_set_update_loop ?_;rw[yj wv _];refine ba (W.done s _ _ ⟨by grind,Y⟩ λh' O z0=>?_);rw[p0,i0,sj]at J;exact Aa (c0 h' O (by grind) (J.keep (by grind)))
 |succ k q0=>
  intro i s hk hi b0 Y J c0;have d0:i<us.length:=by lia
  refine Bh PyProof.Rows.F.entry_set_update_loop ?_;rw[yj wv _];refine ba (W.item i s _ _ (by rw[o0];exact d0) ⟨b0,Y⟩ λv r0 e0 A0 f0 s0=>?_);obtain⟨n,t,t0,rfl⟩:=j0 i v (by grind);refine ba (eg ?_);refine eg (ba ((lR prog w).pyHash (intKind_is _ _ _ _) ?_));have u0:=J.keep λo e=>s0 S o (by grind) e
  have v0:(dd (q.take i)).length+1<RR:=by
   have:=qf (q.take i);rw[vj]at this;lia
  refine sI (s:={s with heap:=r0,toks:=e0+1}) u0 v0 λb w0 x0 y0=>?_
  have g0:=λb a0=>x0.2 b a0
  refine Aa ⟨Bj wv _,q0 (i+1) {s with heap:=w0,toks:=e0+1} (by lia) d0 (f0.1.at λo e=>(g0 I l0.symm).trans e) (f0.2.at λo e=>(g0 l n0.symm).trans e) (by rw[iI t0,tI];exact y0) λB0 C0 D0 F0=>?_⟩
  grind
def vI(a:EQ)(h:Q₁ (.ref s.heap.objs.size) {s with heap:=s.heap.push {cls:=.type "set",dict:=none,data:=.set #[] 0 (.fresh 0 0 (!w.params.followText "set-order"))}}):
  codeAny (KQ prog w) A (.call (.builtin "set.__new__") ⟨[.type "set",a],[]⟩) (wants Q₁ E) s:=by
 refine Lp ?_;show wpAny _ A.in1 (do uR "set.__new__" ⟨[.type "set",a],[]⟩;again (.builtin "set.__new__" ⟨[.type "set",a],[]⟩)) _ _ s;refine ba (om (F.newCall_set_1 a) (Aa ⟨Bj F.plain_set_new _,Bh F.entry_set_new ?_⟩));rw[yj F.plain_set_new _];unfold Builtin.«set.__new__»Builtin.Frozenset.newClass;have q:=sub_set_self;obtain⟨J,g,d,O,os⟩:=s;dsimp only;wp_walk;refine Op (Aa ?_);simp only[newObj];exact ba (wpAny_alloc (Aa (Aa h)))
set_option maxHeartbeats 3200000 in
def xI{l:FQ}{us:List EQ}{O:List Int}{Q:EQ->GQ->Prop}(o0:A.handled=none)(p0:s.heap.IsList l us.toArray)(q0:us.length=O.length)(r0:∀(j:Nat)u,us[j]?=some u->∃n t,O[j]?=some n/\u=Value.int n t)(s0:O.length+1<RR)
  (h:∀h' J,hh prog w h' s.heap.objs.size (dd O) (!w.params.followText "set-order")->(∀b o,s.heap.get? b=some o->h'.get? b=some o)->Q (.ref s.heap.objs.size) {s with heap:=h',toks:=J}):
  wpAny (KQ prog w) A (call (.type "set") [.ref l]) Q E s:=by
 obtain⟨c,F0,G0⟩:=Fk.mro;have H0:=Fk.made;have I0:=Fk.sub;refine fi (Lp ?_);show wpAny _ _ (callAny (.type "set") _) _ _ _;refine Aa ⟨Ir _ (by decide+kernel),Bh F.entry_type_call ?_⟩;rw[Around.under_plain (weight_type_call_type "set" [.ref l] []) rfl];have J0:=Fk.notType;have K0:=Fk.canCreate;have L0:=F.typeCall_set_1 (.ref l);repeat(any_goals(first|assumption|wp_step))
 generalize Y:(SetTable.fresh 0 0 (!w.params.followText "set-order"))=q;refine zg (vI (prog:=prog) (w:=w) (.ref l) (E:=E) (Q₁:=λobj d0=>obj=.ref s.heap.objs.size/\d0={s with heap:=s.heap.push {cls:=.type "set",dict:=none,data:=.set #[] 0 q}}) ⟨rfl,by rw[Y]⟩) λr d0 a0=>?_
 cases r with
 |error e=>exact a0
 |ok t0=>
  cases t0 with
  |ret obj=>
   obtain⟨rfl,rfl⟩:=a0;have e0:(s.heap.push {cls:=.type "set",dict:=none,data:=.set #[] 0 q}).get? s.heap.objs.size=some {cls:=.type "set",dict:=none,data:=.set #[] 0 q}:=ec _ rfl;have u0:Shared.TypeIs {s with heap:=s.heap.push {cls:=.type "set",dict:=none,data:=.set #[] 0 q}} (.ref s.heap.objs.size) "set":=⟨_,e0,rfl⟩;have M0:=Fk.init.lookup;have N0:=Fk.init.bind (.ref s.heap.objs.size);repeat(any_goals(first|assumption|wp_step))
   refine zg (km (R:=wants (λr f0=>r=.none/\∃h' J,f0={s with heap:=h',toks:=J}/\hh prog w h' s.heap.objs.size (dd O) (!w.params.followText "set-order")/\∀b o,s.heap.get? b=some o->h'.get? b=some o) E) Fk.init.plain F.entry_set_init (check_set_init_1 u0 ?_)) λv0 f0 b0=>?_
   ·obtain⟨ol,g0,h0,i0,j0⟩:=id p0;obtain⟨O0,w0,Q0,x0⟩:=ol;simp only at h0 j0;subst h0;subst j0;have y0:(s.heap.push {cls:=.type "set",dict:=none,data:=.set #[] 0 q}).get? l=some {cls:=.type "list",dict:=w0,data:=.seq us.toArray i0,slots:=x0}:=Xa _ g0;have R0:=F.sub_list_set;have S0:=F.sub_list_frozenset;have U0:(Value.type "list"==Value.type "dict")=IQ:=by decide
    have k0:(s.heap.push {cls:=.type "set",dict:=none,data:=.set #[] 0 q}).IsList l us.toArray:=⟨_,y0,rfl,i0,rfl⟩;have V0:q.fill=0/\q.place.size=0/\q.mask=7:=by rw[<-Y];exact⟨rfl,rfl,rfl⟩
    subst Y;unfold Builtin.«set.__init__»noKeywords Builtin.Frozenset.updateFrom;generalize z0:cS=PI;wp_walk;subst z0;refine rm k0 (ba (zS ?_));have l0:l<s.heap.objs.size:=pb g0;have A0:A.in1.in1.handled=none:=by simp[o0]
    refine uI (prog:=prog) (w:=w) (s:={s with heap:=(s.heap.push {cls:=.type "set",dict:=none,data:=.set #[] 0 (.fresh 0 0 (!w.params.followText "set-order"))}).push {cls:=.type "list_iterator",data:=.fields #[.ref l,.int 0 0]}}) (I:=(s.heap.push {cls:=.type "set",dict:=none,data:=.set #[] 0 (.fresh 0 0 (!w.params.followText "set-order"))}).objs.size) (led:=!w.params.followText "set-order") A0 q0 r0 ?_ ?_ (Wn l0) s0 us.length 0 (by lia) (wc _) ⟨_,ec _ rfl,rfl,rfl⟩ (k0.push _) ?_ λh' J k c0=>?_
    ·rw[zh];exact Ob (Kr l0)
    ·rw[zh];exact Ob (Nat.lt_succ_self _)
    ·exact⟨_,nx6 (#[]) 0 _ (Xa _ e0) ⟨rfl,rfl,rfl⟩ rfl (λe B0=>by cases B0) (by decide) rfl (Nc.fresh _ _ _) rfl (.nil)⟩
    ·show wpAny _ _ _ _ _ _;refine Aa ?_;show wpAny _ _ (ret Value.none) _ _ _;refine Aa (⟨rfl,nx0 h' J rfl c0 λb o e=>?_⟩);have n0:=pb e;exact k b o (by rw[zh];exact Ob (Kr n0)) (Ob n0) (Xa _ (Xa _ e))
   ·cases v0 with
    |error e=>exact b0
    |ok C0=>
     cases C0 with
     |ret r=>
      obtain⟨rfl,h',J,rfl,c0,D0⟩:=b0;repeat(any_goals(first|assumption|wp_step))
      exact h _ _ c0 D0
     |_=>exact b0.elim
  |_=>exact a0.elim
end
def Rw(j:Nat):∀(fuel lo hi:Nat),lo<=hi->SetTable.below.go xs j fuel lo hi<=hi
 |0,lo,hi,h=>by unfold SetTable.below.go;exact h
 |fuel+1,lo,hi,h=>by
  unfold SetTable.below.go;split
  ·dsimp only;split
   ·exact Rw j fuel _ hi (by lia)
   ·exact qc (Rw j fuel lo _ (by lia)) (by lia)
  ·exact h
def yI(j:Nat):SetTable.below xs j<=xs.size:=Rw j _ _ _ (wc _)
def oB(h:Rf xs)(q:∀(k x:Nat),xs[k]?=some x->k<i->x<j)(J:∀(k x:Nat),xs[k]?=some x->i<=k->j<=x)(hi:i<=xs.size):SetTable.below xs j=i:=by
 have b0:=yI (xs:=xs) j;by_cases O:SetTable.below xs j<i
 ·have Y:SetTable.below xs j<xs.size:=by lia
  have e:=xv Y;have a:=q _ _ e O;have b:=(Wm h j e).2 (Ra _);lia
 ·by_cases a0:i<SetTable.below xs j
  ·have e:xs[i]?=some (xs[i]'(by lia)):=by grind
   have a:=J _ _ e (Ra _);have b:=(Wm h j e).1 a0;lia
  ·lia
def et(xs:Array Nat):Nat->Nat
 |0=>0
 |i+1=>xs.getD i 0+1
def pB(h:Rf xs)(hi:i<=xs.size):SetTable.below xs (et xs i)=i:=by
 cases i with
 |zero=>exact oB h (by grind) (λk x _ _=>wc _) hi
 |succ i=>
  have e:xs[i]?=some (xs[i]'(by lia)):=by grind
  have J:xs.getD i 0=xs[i]'(by lia):=by simp[Array.getD,show i<xs.size by lia]
  refine oB h (λk x q z=>?_) (λk x q z=>?_) hi
  ·show x<xs.getD i 0+1;rw[J];by_cases O:k=i
   ·grind
   ·have:=h.lt (by lia) q e;lia
  ·show xs.getD i 0+1<=x;rw[J];exact h.lt (by lia) e q
def Sw{q:Type}:∀(l:List q)(i:Nat)(h:i<l.length),(l[i]::l.eraseIdx i).Perm l
 |[],i,h=>by grind
 |a::r,0,h=>.refl _
 |a::r,i+1,h=>by
  have hi:i<r.length:=by simpa using h
  exact(List.Perm.swap _ _ _).trans ((Sw r i hi).cons a)
def zI(next:Nat->Nat):∀(q k:Nat)(left:List O)(out:Array O),left.length<=q->(pickOrder.go next q k left out).toList.Perm (out.toList++left):=by
 intro l;induction l with
 |zero=>
  intro k left out h;have:left=[]:=by grind
  subst this;unfold pickOrder.go;simp
 |succ q Y=>
  intro k left out h;unfold pickOrder.go;cases left with
  |nil=>simp
  |cons a r=>
   have J:next k%(a::r).length<(a::r).length:=Nat.mod_lt _ (by simp);rw[Dc J];refine(Y (k+1) _ _ (by rw[List.length_eraseIdx_of_lt J];simp at h⊢;lia)).trans ?_;rw[Array.toList_push,List.append_assoc];exact(List.Perm.append_left _ (Sw _ _ J))
def Tw(next:Nat->Nat)(xs:Array q):(pR next xs).toList.Perm xs.toList:=by
 unfold pR;have:=zI next xs.size 0 xs.toList #[] (by simp);simpa using this
section
variable{M:Model}{A:OQ}{E:EQ->GQ->Prop}
def AI(q:n≠0)(h:∀m d,m<n->Q m {s with drawn:=d}):wpAny M A (choose J n) Q E s:=λO p _=>by
 unfold choose;refine⟨q,?_⟩;exact h _ _ (Nat.mod_lt _ (by grind))
def BI:∀(n:Nat)(xs:List O)(Q:List O->GQ->Prop)(s:GQ),xs.length=n->(∀ys d,ys.Perm xs->Q ys {s with drawn:=d})->wpAny M A (drawOrder n xs) Q E s:=by
 intro n;induction n with
 |zero=>
  intro xs Q s q h;have:xs=[]:=by grind
  subst this;have e:s={s with drawn:=s.drawn}:=by cases s;rfl
  exact Aa (h [] _ (.refl _))
 |succ n Y=>
  rintro(_|⟨a,r⟩)Q s q h
  ·cases q
  refine ba (AI (by simp) λm d J=>?_);rw[Dc J];refine ba (Y _ _ _ (by rw[List.length_eraseIdx_of_lt J,q];rfl) λys d' a0=>?_);exact Aa (h _ _ ((a0.cons _).trans (Sw _ _ J)))
end
def Qh:Slot "set_iterator" "__next__" "set_iterator.__next__":=.of (owner:="set_iterator") (n:="__next__") (by rw[wS,KR];kernel_rfl) (by decide+kernel) (by decide+kernel) (by decide+kernel) (by first|exact .inl (by decide+kernel)|exact .inr (by decide+kernel)) (by rw[HS];kernel_rfl)
def qB:Slot "set_iterator" "__iter__" "set_iterator.__iter__":=.of (owner:="set_iterator") (n:="__iter__") (by rw[wS,KR];kernel_rfl) (by decide+kernel) (by decide+kernel) (by decide+kernel) (by first|exact .inl (by decide+kernel)|exact .inr (by decide+kernel)) (by rw[HS];kernel_rfl)
def ft:entryFor table "set_iterator.__next__"=some Builtin.«set_iterator.__next__»:=entryFor_of_tree (by kernel_rfl)
def CI:entryFor table "set_iterator.__iter__"=some Builtin.«dict_keyiterator.__iter__»:=entryFor_alias (id':="dict_keyiterator.__iter__") (by kernel_rfl) rfl (by decide+kernel) (by kernel_rfl)
def DI:entryFor table "set.__iter__"=some Builtin.«frozenset.__iter__»:=entryFor_alias (id':="frozenset.__iter__") (by kernel_rfl) rfl (by decide+kernel) (by kernel_rfl)
def rB:Manifest.owners.lookup (String.ofList ['r','o','t','a','r','e','t','i','_','t','e','s'].reverse)=some Manifest.sig_set_iterator:=by kernel_rfl
def ht(a:EQ):KS "set_iterator.__next__" ⟨[a],[]⟩:=by unfold KS;rw[OS (n:=['_','_','t','x','e','n','_','_']) (by kernel_rfl) rB];kernel_rfl
def EI(a:EQ):KS "set_iterator.__iter__" ⟨[a],[]⟩:=by unfold KS;rw[OS (n:=['_','_','r','e','t','i','_','_']) (by kernel_rfl) rB];kernel_rfl
def rg(h:NQ)(I a:FQ)(first:EQ)(i n ep:Nat):Prop:=∃o,h.get? I=some o/\o.cls=.type "set_iterator"/\o.data=.fields #[first,.int i 0,.ref a,.int n 0,.int ep 0]
def ih(h:NQ)(a:FQ)(q:Array (Int×EQ))(ep:Nat)(t:SetTable):Prop:=∃o,h.get? a=some o/\o.ExactSet/\o.data=.set q ep t
def rg.keep(x:rg h I a v i n ep)(k:∀o,h.get? I=some o->h'.get? I=some o):rg h' I a v i n ep:=by obtain⟨o,ho,r⟩:=x;exact⟨o,k o ho,r⟩
def ih.keep(x:ih h a q ep t)(k:∀o,h.get? a=some o->h'.get? a=some o):ih h' a q ep t:=by obtain⟨o,ho,r⟩:=x;exact⟨o,k o ho,r⟩
section
variable{prog:MQ}{w:PQ}{A:OQ}{E:EQ->GQ->Prop}{s:GQ}{I a:FQ}{es:Array (Int×EQ)}{ep:Nat}{t:SetTable}
def rg.typeIs(x:rg s.heap I a v i n ep):s.TypeIs (.ref I) "set_iterator":=by obtain⟨o,ho,q,_⟩:=x;exact⟨o,ho,q⟩
def FI(q:ih s.heap a es ep t)(J:t.fits es.size=HQ)(h:Q (!w.params.followText "set-order"&&(!t.plain&&decide (1<es.size))) s):wpAny (KQ prog w) A (setDrawn a) Q E s:=by
 obtain⟨o,ho,hex,O⟩:=q;refine ba (Ln ho O J ?_);refine ba (ba (Op (Aa ?_)));exact Aa h
def sB(Y:w.params.followText "set-order"=HQ)(a0:ih s.heap a es ep t)(q:t.fits es.size=HQ)
  (h:Q (((pR (w.params.setOrder a ep) es)[i]?).map λe=>(e.2,slot)) s):wpAny (KQ prog w) A (setNext a slot i ep) Q E s:=by
 obtain⟨o,ho,hex,J⟩:=a0;refine ba (Ln ho J q ?_);have O:∀{Q:Bool->GQ->Prop},Q HQ s->wpAny (KQ prog w) A setsByText Q E s:=λ{Q}h=>by
  refine ba (Op (Aa ?_));rw[show(⟨(KQ prog w).prog,(KQ prog w).w.params⟩:Setting).params.followText "set-order"=HQ from Y];exact h
 refine ba (O ?_);rw[Ca rfl,Ba (by simp)];refine ba (ba (Ln ho J q ?_));refine ba (O ?_);exact ba (Op (Aa (Aa h)))
def uB{Q:Option (EQ×Nat)->GQ->Prop}{slot i:Nat}(q:w.params.followText "set-order"=IQ)(J:(!t.plain&&decide (1<es.size))=IQ)(O:t.led=HQ)(Y:ih s.heap a es ep t)(a0:t.fits es.size=HQ)
  (h:Q (match es[SetTable.below t.place slot]?,t.place[SetTable.below t.place slot]? with
   |some (_,x),some j=>some (x,j+1)
   |_,_=>none) s):wpAny (KQ prog w) A (setNext a slot i ep) Q E s:=by
 obtain⟨o,ho,hex,b0⟩:=Y;refine ba (Ln ho b0 a0 ?_);have c0:∀{Q:Bool->GQ->Prop},Q IQ s->wpAny (KQ prog w) A setsByText Q E s:=λ{Q}h=>by
  refine ba (Op (Aa ?_));rw[show(⟨(KQ prog w).prog,(KQ prog w).w.params⟩:Setting).params.followText "set-order"=IQ from q];exact h
 refine ba (c0 ?_);show wpAny _ _ (if(!t.plain&&decide (1<es.size))=HQ then _ else _) _ _ _;rw[J,Ba be];refine ba ?_;show wpAny _ _ (if(!t.led&&!es.isEmpty)=HQ then _ else _) _ _ _;rw[O,Ba (by simp)];exact Aa (Aa h)
def jt{o:bR}{vs:Array EQ}(k:Nat)(x:EQ)(ho:s.heap.get? I=some o)(q:o.data=.fields vs):(s.heap.update I (Obj.mapFields (·.setIfInBounds k x))).get? I=some (Obj.mapFields (·.setIfInBounds k x) o):=zk _ ho (Obj.isFreed_of_fields (Yh q _))
def vB{slot slot' i:Nat}(J:rg s.heap I a (.int slot 0) i es.size ep)(a0:ih s.heap a es ep t)(b0:t.fits es.size=HQ)
  (c0:∀{d0:EQ->GQ->Prop}{O:Option (EQ×Nat)->GQ->Prop},O (some (x,slot')) s->wpAny (KQ prog w) A.in1 (setNext a slot i ep) O d0 s)
  (e0:∀h',rg h' I a (.int slot' 0) (i+1) es.size ep->Heap.SameBut I s.heap h'->Q (some x) {s with heap:=h'}):wpAny (KQ prog w) A (GS (.ref I)) Q E s:=by
 obtain⟨o,ho,f0,q⟩:=id J;obtain⟨os,g0,hex,h0⟩:=id a0;refine ba (Jn (Ak J.typeIs Qh (Ug Qh J.typeIs ft ?_ (ht _))));refine ba (Aa ?_);refine ba (MR ho q ?_);dsimp only;refine ba (Dp g0 h0 b0 ?_);rw[Ba (by simp)];refine ba ?_;refine c0 ?_;refine ba (tj ho q (by simp) ?_);have Y:=jt 0 (eR (slot':Int)) ho q;refine ba (tj Y (Yh q _) (by simp) ?_);have i0:=jt (s:={s with heap:=s.heap.update I (Obj.mapFields (·.setIfInBounds 0 (eR (slot':Int))))}) 1 (eR ((i:Int)+1)) Y (Yh q _);refine Aa ⟨_,rfl,?_⟩;refine Aa (e0 _ ⟨_,i0,(Ip ..).trans ((Ip ..).trans f0),?_⟩ ((Qk ..).trans (Qk ..)));rw[Yh (Yh q _)];simp[eR]
def wB{Q:Option EQ->GQ->Prop}(q:A.handled=none)(J:∀h',(∀b o,s.heap.get? b=some o->h'.get? b=some o)->Q none {s with heap:=h'}):
  wpAny (KQ prog w) A.in1 (newExc (.type "StopIteration") []>>=λe=>raiseNew e) (λ(fin:Fin)s'=>∃v,fin=.done (.ret v)/\wpAny (KQ prog w) A (pure (some v)) Q E s')
   (λe s'=>wpAny (KQ prog w) A (do if<-BR e (.type "StopIteration")then pure none else throw e) Q E s') s:=by
 refine ba ?_;refine ba (m:=firstArgMember _ _) (om (a:=Value.none) (by first|rfl|(simp only[firstArgMember];rfl)) ?_);refine dg ?_ (by size_fits);refine ba (wpAny_handled ?_);rw[show A.in1.handled=none from q];refine ba (Aa (wpAny_throw ?_));refine ba (nS ⟨_,ec _ rfl,rfl⟩ isSubtype_stop ?_);exact Aa (J _ λb o e=>Xa _ (Xa _ e))
def xB{slot i:Nat}(Y:A.handled=none)(q:rg s.heap I a (.int slot 0) i es.size ep)(a0:ih s.heap a es ep t)(b0:t.fits es.size=HQ)
  (c0:∀{d0:EQ->GQ->Prop}{J:Option (EQ×Nat)->GQ->Prop},J none s->wpAny (KQ prog w) A.in1 (setNext a slot i ep) J d0 s)
  (e0:∀h',(∀b o,b≠I->s.heap.get? b=some o->h'.get? b=some o)->Q none {s with heap:=h'}):wpAny (KQ prog w) A (GS (.ref I)) Q E s:=by
 obtain⟨o,ho,i0,O⟩:=id q;obtain⟨os,f0,hex,g0⟩:=id a0;refine ba (Jn (Ak q.typeIs Qh (Ug Qh q.typeIs ft ?_ (ht _))));refine ba (Aa ?_);refine ba (MR ho O ?_);dsimp only;refine ba (Dp f0 g0 b0 ?_);rw[Ba (by simp)];refine ba ?_;refine c0 ?_;refine ba (tj ho O (by simp) ?_);exact wB Y λh' k=>e0 h' λb o h0 e=>k b o ((Pn _ _ (ud h0)).trans e)
def GI{ps:List Nat}(J:rg s.heap I a (.ref T) i es.size ep)(b0:ih s.heap a es ep t)(O:t.fits es.size=HQ)
 (c0:s.heap.get? T=some d0)(e0:d0.data=.seq (ps.map λ(k:Nat)=>eR k).toArray c)(f0:ps[i]?=some p)(g0:es[p]?=some e)
    (h0:∀h',rg h' I a (.ref T) (i+1) es.size ep->Heap.SameBut I s.heap h'->Q (some e.2) {s with heap:=h'}):wpAny (KQ prog w) A (GS (.ref I)) Q E s:=by
  obtain⟨o,ho,i0,q⟩:=id J;obtain⟨os,Y,hex,a0⟩:=id b0;refine ba (Jn (Ak J.typeIs Qh (Ug Qh J.typeIs ft ?_ (ht _))));refine ba (Aa ?_);refine ba (MR ho q ?_);dsimp only;refine ba (Dp Y a0 O ?_);rw[Ba (by simp)];refine ba (Bk c0 e0 ?_);dsimp only;have j0:(ps.map λ(k:Nat)=>eR k).toArray[(i:Int).toNat]?=some (.int p 0):=by
    rw[rj,List.getElem?_toArray,ge,f0];rfl
  rw[j0];refine ba (ba (Ln Y a0 O ?_));dsimp only;rw[rj,rj,Ba (by simp),g0];refine Aa ?_;refine ba (tj ho q (by simp) ?_);have k0:=jt 1 (eR ((i:Int)+1)) ho q;refine Aa ⟨_,rfl,?_⟩;refine Aa (h0 _ ⟨_,k0,(Ip ..).trans i0,?_⟩ (Qk ..));rw[Yh q];simp[eR]
def HI{ps:List Nat}(Y:A.handled=none)(J:rg s.heap I a (.ref T) i es.size ep)(a0:ih s.heap a es ep t)(b0:t.fits es.size=HQ)
 (c0:s.heap.get? T=some d0)(e0:d0.data=.seq (ps.map λ(k:Nat)=>eR k).toArray c)(f0:ps[i]?=none)
    (g0:∀h',(∀b o,b≠I->s.heap.get? b=some o->h'.get? b=some o)->Q none {s with heap:=h'}):wpAny (KQ prog w) A (GS (.ref I)) Q E s:=by
  obtain⟨o,ho,l0,q⟩:=id J;obtain⟨os,h0,hex,i0⟩:=id a0;refine ba (Jn (Ak J.typeIs Qh (Ug Qh J.typeIs ft ?_ (ht _))));refine ba (Aa ?_);refine ba (MR ho q ?_);dsimp only;refine ba (Dp h0 i0 b0 ?_);rw[Ba (by simp)];refine ba (Bk c0 e0 ?_);dsimp only;have j0:(ps.map λ(k:Nat)=>eR k).toArray[(i:Int).toNat]?=none:=by
    rw[rj,List.getElem?_toArray,ge,f0];rfl
  rw[j0];refine ba (tj ho q (by simp) ?_);have k0:=jt 0 (eR 0) ho q;refine ba (tj k0 (Yh q _) (by simp) ?_);refine wB Y λh' k=>g0 h' λb o O e=>k b o ?_
  exact(Pn _ _ (ud O)).trans ((Pn _ _ (ud O)).trans e)
def Uw(q:rg s.heap I a v i n ep)(h:Q (.ref I) s):wpAny (KQ prog w) A (cS (.ref I)) Q E s:=by
 refine wpAny_pyIter_slot q.typeIs qB (Ug qB q.typeIs CI ?_ (EI _));exact Aa (nx15 _ rfl ("set_iterator") _ q.typeIs Qh.lookup h)
def il(ms:List EQ)(i:Nat)(v:EQ):Prop:=ms[i]?=some v
def II(a0:w.params.followText "set-order"=HQ)(c0:A.handled=none)(d0:a≠I)(q:t.fits es.size=HQ):
  Walks prog w A I [I,a] [I] es.size (il ((pR (w.params.setOrder a ep) es).toList.map Prod.snd)) (λi h=>rg h I a (.int 0 0) i es.size ep/\ih h a es ep t)where
 sub:=by grind
 frame:=λ_ _ _ st hk=>⟨st.1.keep (by grind),st.2.keep (by grind)⟩
 item:=λi s Q E hi st J=>by
  have Y:=Tw (w.params.setOrder a ep) es;have hsz:(pR (w.params.setOrder a ep) es).size=es.size:=by rw[<-Ag,Y.length_eq,Ag]
  have O:(pR (w.params.setOrder a ep) es)[i]?=some (pR (w.params.setOrder a ep) es)[i]:=by grind
  refine vB (slot':=0) st.1 st.2 q (λh=>sB a0 st.2 q (by rw[O];exact h)) λh' it b0=>J _ h' s.toks (show(_:List EQ)[i]?=_ by rw[ge,Aj,O];rfl) ⟨it,st.2.keep λo e=>(b0.2 _ d0).trans e⟩ λb o e0 e=>(b0.2 b (by simpa using e0)).trans e
 done:=λs Q E st J=>by
  have Y:=Tw (w.params.setOrder a ep) es;have hsz:(pR (w.params.setOrder a ep) es).size=es.size:=by rw[<-Ag,Y.length_eq,Ag]
  have O:(pR (w.params.setOrder a ep) es)[es.size]?=none:=by grind
  exact xB c0 st.1 st.2 q (λh=>sB a0 st.2 q (by rw[O];exact h)) (by grind)
 self:=λ_ _ _ _ st J=>Uw st.1 J
def JI(a0:w.params.followText "set-order"=IQ)(b0:(!t.plain&&decide (1<es.size))=IQ)(c0:t.led=HQ)(d0:Nc t)(j0:t.place.size=es.size)(f0:A.handled=none)(g0:a≠I)(J:t.fits es.size=HQ):
  Walks prog w A I [I,a] [I] es.size (il (es.toList.map Prod.snd)) (λi h=>rg h I a (.int (et t.place i) 0) i es.size ep/\ih h a es ep t)where
 sub:=λb q=>by grind
 frame:=λ_ _ _ st hk=>⟨st.1.keep (by grind),st.2.keep (by grind)⟩
 item:=λi s Q E hi st O=>by
  have q:=pB d0.up (i:=i) (by lia);have Y:es[i]?=some es[i]:=by grind
  have h0:t.place[i]?=some (t.place[i]'(by lia)):=by grind
  have i0:t.place[i]'(by lia)+1=et t.place (i+1):=by
   show _=t.place.getD i 0+1;simp[Array.getD,show i<t.place.size by lia]
  refine vB (slot':=et t.place (i+1)) st.1 st.2 J (λh=>uB a0 b0 c0 st.2 J (by rw[q,Y,h0];dsimp only;rw[i0];exact h)) λh' it e0=>O _ h' s.toks (show(_:List EQ)[i]?=_ by rw[ge,Aj,Y];rfl) ⟨it,st.2.keep λo e=>(e0.2 _ g0).trans e⟩ λb o q e=>(e0.2 b (by grind)).trans e
 done:=λs Q E st O=>by
  have q:=pB d0.up (i:=es.size) (by lia);have Y:es[es.size]?=none:=by grind
  exact xB f0 st.1 st.2 J (λh=>uB a0 b0 c0 st.2 J (by rw[q,Y];exact h)) (by grind)
 self:=λ_ _ _ _ st O=>Uw st.1 O
def KI(h:NQ)(T:FQ)(ps:List Nat):Prop:=∃o c,h.get? T=some o/\o.data=.seq (ps.map λ(k:Nat)=>eR k).toArray c
def Aq(es:Array (Int×EQ))(ps:List Nat):List EQ:=ps.map λp=>(es.getD p (0,.none)).2
def LI{ps:List Nat}(q:ps.Perm (List.range es.size)):(Aq es ps).Perm (es.toList.map Prod.snd):=by
 refine(q.map _).trans ?_;have:(List.range es.size).map (λp=>(es.getD p (0,.none)).2)=es.toList.map Prod.snd:=by
  apply List.ext_getElem
  ·simp
  ·intro i J O;have hi:i<es.size:=by simpa using J
   simp[Array.getD,hi]
 rw[this]
def MI{T:FQ}{ps:List Nat}(Y:ps.Perm (List.range es.size))(d0:A.handled=none)(e0:a≠I)(f0:T≠I)(a0:t.fits es.size=HQ):
  Walks prog w A I [I,a,T] [I] es.size (il (Aq es ps)) (λi h=>rg h I a (.ref T) i es.size ep/\ih h a es ep t/\KI h T ps)where
 sub:=by grind
 frame:=λ_ _ _ st hk=>⟨st.1.keep (by grind),st.2.1.keep (by grind),by obtain⟨o,c,ho,q⟩:=st.2.2;exact⟨o,c,hk T (by simp) o ho,q⟩⟩
 item:=λi s Q E hi st J=>by
  have g0:ps.length=es.size:=by rw[Y.length_eq,fm]
  have b0:ps[i]?=some (ps[i]'(by lia)):=by grind
  have c0:ps[i]'(by lia)<es.size:=List.mem_range.mp (by grind);have h0:es[ps[i]'(by lia)]?=some (es[ps[i]'(by lia)]'c0):=by grind
  obtain⟨o,c,ho,q⟩:=id st.2.2;refine GI st.1 st.2.1 a0 ho q b0 h0 λh' it O=>J _ h' s.toks ?_ ⟨it,st.2.1.keep λo e=>(O.2 _ e0).trans e,⟨o,c,(O.2 _ f0).trans ho,q⟩⟩ λb o i0 e=>(O.2 b (by simpa using i0)).trans e
  unfold il Aq;rw[ge,b0];simp[Array.getD,c0]
 done:=λs Q E st J=>by
  have g0:ps.length=es.size:=by rw[Y.length_eq,fm]
  obtain⟨o,c,ho,q⟩:=id st.2.2;exact HI d0 st.1 st.2.1 a0 ho q (by grind) (by grind)
 self:=λ_ _ _ _ st J=>Uw st.1 J
def NI(h:t.fits n=HQ):t.place.size=n:=by
 unfold SetTable.fits at h
 grind
inductive Di(h:NQ)(a:FQ)(vs:List EQ)(led:Bool):Prop|mk(o es ep t)(_:h.get? a=some o)(_:o.ExactSet)(_:o.data=.set es ep t)(_:t.fits es.size=HQ)(_:Nc t)(_:t.led=led)(_:es.size<=JQ)(_:es.toList.map Prod.snd=vs)
def Di.keep{h h':NQ}{vs:List EQ}{led:Bool}(x:Di h a vs led)(k:∀o,h.get? a=some o->h'.get? a=some o):Di h' a vs led:=by
 obtain⟨o,es,ep,t,ho,q,J,O,Y,a0,b0,c0⟩:=x;exact⟨o,es,ep,t,k o ho,q,J,O,Y,a0,b0,c0⟩
def hh.OI{h:NQ}{ks:List Int}{led:Bool}(x:hh prog w h a ks led):∃vs:List EQ,Di h a vs led/\vs.length=ks.length/\∀ms:List EQ,ms.Perm vs->∃J:List Int,J.Perm ks/\ms.length=J.length/\∀(j:Nat)v,ms[j]?=some v->∃n t,J[j]?=some n/\v=Value.int n t:=by
 obtain⟨o,es,ep,t,ho,hex,c0,Y,d0,e0,q,f0,a0⟩:=x;refine⟨_,⟨o,es,ep,t,ho,hex,c0,e0,q,f0,qc (yh d0) (by decide),rfl⟩,?_,λms b0=>?_⟩
 ·rw[<-a0.length_eq,Na,Na]
 ·refine⟨ms.map λv=>Ci (0,v),((b0.map _).trans ?_).trans a0,by simp,λj v hv=>?_⟩
  ·rw[ag];exact .of_eq (Dn λe O=>by
    obtain⟨t,q⟩:=Qw (Y e O);simp[Ci])
  ·obtain⟨e,O,rfl⟩:=Fd.mp (b0.mem_iff.mp (Cg hv));obtain⟨t,q⟩:=Qw (Y e O);exact⟨Ci e,t,by rw[ge,hv];simp[Ci],q⟩
def QI{vs:List EQ}{led:Bool}{Q:EQ->GQ->Prop}(b0:A.handled=none)(n0:Di s.heap a vs led)(o0:led=!w.params.followText "set-order")
  (h:∀(I:FQ)(h':NQ)(d:MS)(fp:List FQ)(St:Nat->NQ->Prop)(ms:List EQ),s.heap.objs.size<=I->(∀b∈fp,b=a\/s.heap.objs.size<=b)->(∀b o,s.heap.get? b=some o->h'.get? b=some o)->ms.Perm vs->
   Walks prog w A I fp [I] ms.length (il ms) St->St 0 h'->Q (.ref I) {s with heap:=h',drawn:=d}):wpAny (KQ prog w) A (cS (.ref a)) Q E s:=by
 obtain⟨o,es,ep,t,ho,hex,J,q,p0,q0,r0,rfl⟩:=n0;have e0:s.TypeIs (.ref a) "set":=⟨o,ho,hex.1⟩;have f0:a<s.heap.objs.size:=pb ho;refine wpAny_pyIter_slot e0 F.slot_set_iter (Ug F.slot_set_iter e0 DI ?_ (F.args_set_iter_1 _));unfold Builtin.«frozenset.__iter__»Builtin.Frozenset.slot0 slotArgs;simp only[List.isEmpty_nil,Bool.not_true,Qn,↓reduceIte,bind_assoc,List.length_nil,bne_self_eq_false];unfold Builtin.Frozenset.addrOf Builtin.Frozenset.sizeOf;refine ba (Aa ?_);try dsimp only
 refine ba (Aa ?_);refine ba (ba (Dp ho J q (Aa ?_)));refine ba (FI ⟨o,ho,hex,J⟩ q ?_);have s0:=NI q;have g0:(es.toList.map Prod.snd).length=es.size:=by simp
 have h0:∀oI:bR,∀b a0,s.heap.get? b=some a0->(s.heap.push oI).get? b=some a0:=λoI b a0 e=>Xa _ e
 have i0:∀b∈[s.heap.objs.size,a],b=a\/s.heap.objs.size<=b:=by grind
 cases c0:w.params.followText "set-order"with
 |true=>
  rw[show(!HQ&&(!t.plain&&decide (1<es.size)))=IQ from rfl,Ba be];refine ba (Aa ?_);refine ba (fS ho J q ?_);refine ba (dg ?_);refine Aa (nx15 _ rfl ("set_iterator") _ ⟨_,ec _ rfl,rfl⟩ Qh.lookup ?_);have j0:=Tw (w.params.setOrder a ep) es;have O:=II (prog:=prog) (A:=A) (I:=s.heap.objs.size) (a:=a) (ep:=ep) c0 b0 (Ob f0) q;have Y:((pR (w.params.setOrder a ep) es).toList.map Prod.snd).length=es.size:=by rw[Na,j0.length_eq,Ag]
  rw[<-Y]at O;exact h s.heap.objs.size _ s.drawn _ _ _ (Ra _) i0 (h0 _) (j0.map Prod.snd) O ⟨⟨_,ec _ rfl,rfl,by rw[Y];rfl⟩,⟨o,Xa _ ho,hex,J⟩⟩
 |false=>
  have t0:t.led=HQ:=by rw[q0,o0,c0];rfl
  cases u0:(!t.plain&&decide (1<es.size))with
  |true=>
   rw[Ca (by grind)];refine ba (BI _ _ _ _ (by simp) λps d d0=>?_);have k0:ps.length=es.size:=by rw[d0.length_eq,fm]
   refine ba (AS ?_ (by rw[Na,k0];exact r0));have l0:(s.heap.push {cls:=.type "tuple",data:=.seq (ps.map λ(k:Nat)=>eR k).toArray}).get? a=some o:=by grind
   refine ba (fS l0 J q ?_);refine ba (dg ?_);refine Aa (nx15 _ rfl ("set_iterator") _ ⟨_,ec _ rfl,rfl⟩ Qh.lookup ?_);have O:=MI (prog:=prog) (w:=w) (A:=A) (I:=(s.heap.push {cls:=.type "tuple",data:=.seq (ps.map λ(k:Nat)=>eR k).toArray}).objs.size) (a:=a) (ep:=ep) (T:=s.heap.objs.size) d0 b0 (by rw[zh];exact Ob (by grind)) (by rw[zh];exact Ob (by grind)) q;have Y:(Aq es ps).length=es.size:=by rw[Aq,Na,k0]
   rw[<-Y]at O;refine h _ _ d _ _ _ (by rw[zh];exact wj _) (λb v0=>?_) (λb a0 e=>Xa _ (by grind)) (LI d0) O ⟨⟨_,ec _ rfl,rfl,by rw[Y];rfl⟩,⟨o,Xa _ l0,hex,J⟩,nx5 _ 0 (Xa _ (ec _ rfl)) rfl⟩;rcases Mb.mp v0 with z|z
   ·exact .inr (by rw[z,zh];exact wj _)
   ·rcases Mb.mp z with z|z
    ·exact .inl z
    ·exact .inr (by rw[yg.mp z];exact Ra _)
  |false=>
   rw[Ba (by simp)];refine ba (Aa ?_);refine ba (fS ho J q ?_);refine ba (dg ?_);refine Aa (nx15 _ rfl ("set_iterator") _ ⟨_,ec _ rfl,rfl⟩ Qh.lookup ?_);have O:=JI (prog:=prog) (A:=A) (I:=s.heap.objs.size) (a:=a) (ep:=ep) c0 u0 t0 p0 s0 b0 (Ob f0) q;rw[<-g0]at O;exact h s.heap.objs.size _ s.drawn _ _ _ (Ra _) i0 (h0 _) (.refl _) O ⟨⟨_,ec _ rfl,rfl,by rw[g0];rfl⟩,⟨o,Xa _ ho,hex,J⟩⟩
end
section
variable{prog:MQ}{w:PQ}{A:OQ}{E:EQ->GQ->Prop}{s:GQ}{a:FQ}{vs:List EQ}{led:Bool}
def Di.typeIs(x:Di s.heap a vs led):s.TypeIs (.ref a) "set":=by obtain⟨o,_,_,_,ho,hex,_,_,_,_,_,_⟩:=x;exact⟨o,ho,hex.1⟩
def Di.Ad{h:NQ}(x:Di h a vs led):vs.length<=JQ:=by
 obtain⟨o,J,ep,t,_,_,_,_,_,_,q,rfl⟩:=x;simpa using q
def yB{ms:List EQ}{J:Array EQ}(h:lS (il ms) J ms.length):ms=J.toList:=by
 apply List.ext_getElem?;intro i;cases q:J.toList[i]? with
 |none=>
  rw[zv,Ag,h.1]at q;rw[List.getElem?_eq_none q]
 |some v=>
  rw[Aj]at q;exact h.2 i v q
def RI(q:s.TypeIs (.ref a) "set")(h:Q IQ s):wpAny (KQ prog w) A (Builtin.List.listLengthHint (.ref a)) Q E s:=by
 unfold Builtin.List.listLengthHint;refine ba (wpAny_specialOf q F.slot_set_len.lookup ?_);generalize J:("set.__len__":String)=O;subst J;refine ba (nS (b:=HQ) q (by rw[HS];kernel_rfl) ?_);exact ba (Lk q (Aa h))
def SI{R:gT->GQ->Prop}(j0:A.handled=none)(O:Di s.heap a vs led)(k0:led=!w.params.followText "set-order"){L:FQ}(l0:L≠a){res:EQ}{n0:Nat}(e0:s.heap.get? L=some {cls:=.type "list",data:=.seq #[] n0})
  (o0:∀(h':NQ)(Y:Nat)(d:MS)(a0:Array EQ)(c:Nat)(ms:List EQ),(∀b o,b≠L->s.heap.get? b=some o->h'.get? b=some o)->h'.get? L=some {cls:=.type "list",dict:=none,data:=.seq a0 c,slots:=#[]}->ms.Perm vs->lS (il ms) a0 ms.length->R (.ok (.ret res)) {s with heap:=h',toks:=Y,drawn:=d}):
  wpAny (KQ prog w) A.in1 (Builtin.List.listExtendWith (.ref L) (.ref a) res) (λfin s'=>match fin with
   |.done f=>R (.ok f) s'
   |.again f0=>f0.quiet=HQ/\codeAny (KQ prog w) A f0 R s') (λe s'=>R (.error e) s') s:=by
 have B0:L<s.heap.objs.size:=pb e0;unfold Builtin.List.listExtendWith;refine ba (Lk (T:="set") O.typeIs ?_);have p0:Builtin.List.listSameRef (.ref L) (.ref a)=IQ:=by simp[Builtin.List.listSameRef,l0]
 have q0:(Value.type "set"==Value.type "list")=IQ:=by decide
 have r0:(Value.type "set"==Value.type "tuple")=IQ:=by decide
 simp only[p0,q0,r0,Bool.or_false,Qn,if_false];refine ba (QI (A:=A.in1) j0 O k0 λI h' d fp St ms s0 C0 hk g0 W st=>?_);have t0:ms.length<=JQ:=by
  rw[g0.length_eq];exact O.Ad
 have u0:L∉fp:=by grind
 have v0:∀(q:NQ)(d0 Y:Nat),St 0 q->(∀b o,b≠L->s.heap.get? b=some o->q.get? b=some o)->q.get? L=some {cls:=.type "list",data:=.seq #[] d0}->
   codeAny (KQ prog w) A (.builtin "list.extend.loop" ⟨[.ref L,.ref I,res],[]⟩) R {s with heap:=q,toks:=Y,drawn:=d}:=λq d0 Y w0 x0 b0=>by
  refine codeAny_extend_loopS W.toS t0 L u0 res ms.length 0 _ #[] d0 rfl (wc _) w0 b0 (ItemsOf.nil _) λh0 a0 y0 i0 c0 z0=>?_
  rw[Moved.eq_with i0];refine o0 h0.heap h0.toks d a0 y0 ms (λb o J e=>i0.heap b o (λz=>?_) (x0 b o J e)) c0 g0 z0;rcases Mb.mp z with e'|e'
  ·exact J e'
  ·have:=pb e;rw[yg.mp e']at this;exact absurd s0 (by grind)
 have b0:=hk _ _ e0;refine ba (eg (RI (O.keep λo e=>hk _ _ e).typeIs ?_));refine wpAny_ite_split (λ_=>?_) (λ_=>Aa ⟨Bj F.plain_extend_loop _,by grind⟩);refine ba (GR (ba ?_));show wpAny _ _ (updateSeq L (·.push .none)>>=λ_=>updateSeq L (·.pop)) _ _ _;refine ba (wpAny_updateSeq b0 rfl ?_);have c0:=zk (Obj.mapSeq (·.push Value.none)) b0 rfl;refine wpAny_updateSeq (hz:=by seq_fits) c0 rfl ?_;have A0:=zk (Obj.mapSeq (·.pop)) c0 rfl;have D0:∀b o,b≠L->h'.get? b=some o->((h'.update L (Obj.mapSeq (·.push Value.none))).update L (Obj.mapSeq (·.pop))).get? b=some o:=λb o J e=>(Pn _ _ (ud J)).trans ((Pn _ _ (ud J)).trans e)
 exact Aa ⟨Bj F.plain_extend_loop _,v0 _ _ _ (W.frame 0 _ _ st (by grind)) (by grind) A0⟩
def UI{R:List EQ->GQ->Prop}(d0:A.handled=none)(b0:Di s.heap a vs led)(e0:led=!w.params.followText "set-order")
  (h:∀(h':NQ)(q:Nat)(d:MS)(ms:List EQ),(∀b o,s.heap.get? b=some o->h'.get? b=some o)->ms.Perm vs->R ms {s with heap:=h',toks:=q,drawn:=d}):
  wpAny (KQ prog w) A (collect (.ref a)) R E s:=by
 have f0:a<s.heap.objs.size:=by obtain⟨o,_,_,_,ho,_⟩:=b0;exact pb ho
 unfold collect;refine ba (zS (Bh PyProof.Rows.entry_proto_collect' ?_));rw[yj F.plain_proto_collect _];show wpAny _ A.in1 (newList []>>=λl=>again (.builtin "list.__iadd__" ⟨[l,.ref a],[]⟩)) _ _ s;refine ba (dg (Aa ⟨Bj Lr _,Bh PyProof.Rows.entry_list_iadd' ?_⟩));rw[yj Lr _];have g0:(s.heap.push {cls:=.type "list",data:=.seq ([]:List EQ).toArray}).get? s.heap.objs.size=some {cls:=.type "list",data:=.seq #[]}:=ec _ rfl;show wpAny _ A.in1 (Builtin.List.listExtendWith (.ref s.heap.objs.size) (.ref a) (.ref s.heap.objs.size)) _ _ _;have h0:=SI (prog:=prog) (A:=A) (s:={s with heap:=s.heap.push {cls:=.type "list",data:=.seq ([]:List EQ).toArray}}) (L:=s.heap.objs.size) (res:=.ref s.heap.objs.size)
  (R:=λ(c0:gT)(s':GQ)=>∃(h':NQ)(q:Nat)(d:MS)(J:Array EQ)(c:Nat)(ms:List EQ),c0=.ok (.ret (.ref s.heap.objs.size))/\s'={s with heap:=h',toks:=q,drawn:=d}/\(∀b o,s.heap.get? b=some o->h'.get? b=some o)/\
   h'.get? s.heap.objs.size=some {cls:=.type "list",dict:=none,data:=.seq J c,slots:=#[]}/\ms.Perm vs/\lS (il ms) J ms.length)
  d0 (b0.keep λo e=>Xa _ e) e0 (Wn f0) g0
  (λh' q d J c ms k O Y a0=>nx14 h' q d (nx8 J c ms rfl rfl (λb o e=>k b o (Ob (pb e)) (Xa _ e)) O ⟨Y,a0⟩))
 refine Kc h0 (λfin s' x=>?_) λe s' x=>?_
 ·cases fin with
  |done f=>
   obtain⟨h',q,d,J,c,ms,e,rfl,k,O,Y,a0⟩:=x;cases e;show wpAny _ A (load s.heap.objs.size>>=_) _ _ _;exact ba (DS O (Aa (yB a0▸h h' q d ms k Y)))
  |again j0=>
   refine⟨x.1,zg x.2 λc0 k0 y=>?_⟩;obtain⟨h',q,d,J,c,ms,rfl,rfl,k,O,Y,a0⟩:=y;show wpAny _ A (load s.heap.objs.size>>=_) _ _ _;exact ba (DS O (Aa (yB a0▸h h' q d ms k Y)))
 ·obtain⟨_,_,_,_,_,_,i0,_⟩:=x;cases i0
end
def VI{q:L2.St}(d:MS)(I:Inv X J q H s):Inv X J q H {s with drawn:=d}:=⟨I.ok,I.os,I.bare,I.base,I.loc,I.cell,I.free,I.yb,I.pin,I.za,I.len⟩
inductive WI(K:W.Frag)(Q:VK)(vs:List V)(H1:Hp):Prop|mk(a ns)(_:vs=[V.ref a])(_:ja K H1 a (ns.map V.int))(_:ns.length<4000)(_:(dd ns).length<64)(_:∀l,H1 l=none->Q (.ref l) (upd H1 l (.lst ((eb (dd ns)).map V.int))))
def XI(K:W.Frag)(t:TA):TE:=λq H Q=>t q H (WI K Q)
def AB{K:W.Frag}{p b0 g0 q:jR}(t0:X.K=K)(h0:X.calm=HQ)(u0:Gl X "sorted")(v0:X.mg "sorted"=none)(w0:Gl X "set")(x0:X.mg "set"=none)(y0:PA X [e] t)
  (z0:LQ [e] X.env=[(IQ,RQ e X.env)]:=by rfl)(i0:LQ [.Call (.Name "set" b0) [e] [] q] X.env=[(IQ,RQ (.Call (.Name "set" b0) [e] [] q) X.env)]:=by rfl):
  PE X (.Call (.Name "sorted" p) [.Call (.Name "set" b0) [e] [] q] [] g0) (XI K t):=by
 constructor;intro A0 s B0 H Q I h;subst t0;refine bi (Jh I u0 v0 PyProof.Rows.boot_sorted ?_ (by decide) (by decide));refine rv ?_ (by rw[i0];rfl) rfl;rw[i0];show wpAny _ _ (YS ((IQ,RQ (.Call (.Name "set" b0) [e] [] q) X.env)::VQ g0 [])) _ _ s;refine Ck ?_;refine bi (Jh I w0 x0 PyProof.Rows.boot_set (im (Fa (y0 q A0 s B0 H _ I h) ?_) z0 rfl) (by decide) (by decide));rintro us s1⟨vs,X0,c0,C0,D0⟩;obtain⟨l,J,rfl,F0,Y0,j0,G0⟩:=D0;obtain⟨u,rfl,H0⟩:=Gf C0;cases H0;obtain⟨Z0,k0,pl,hz⟩:=c0.list F0;have l0:=k0.length;rw[Na]at l0;refine xI (c0.ok.hd h0) pl.isList l0.symm (λj u I0=>?_) (show J.length+1<4096 by lia) λh' a1 J0 k=>?_
 ·obtain⟨x,O,K0⟩:=Fs k0 I0;rw[ge]at O;cases d0:J[j]? with
  |none=>rw[d0]at O;cases O
  |some n=>
   rw[d0]at O;cases O;obtain⟨t,rfl⟩:=K0;exact⟨n,t,rfl,rfl⟩
 refine Mp ?_;have hsz:(dd J).length<=JQ:=qc (yh j0) (by decide);refine vv kind_sorted ZS bT (fT _) ?_;refine ba (Aa (ba ?_));obtain⟨vs,L0,b1,hv⟩:=J0.OI;refine UI (c0.ok.hd h0) L0 rfl λY n0 d a0 d1 M0=>?_
 obtain⟨ms,o0,e0,N0⟩:=hv a0 M0;have p0:=o0.length_eq;have O0:=intsAre_of e0 N0;refine ba (YR ?_ (by rw[e0,p0];exact hsz));have f0:(Y.push {cls:=.type "list",data:=.seq a0.toArray}).get? Y.objs.size=some (hR "list" a0.toArray 0):=ec _ rfl;refine ba (eg (Ug FS ⟨_,f0,rfl⟩ xS (list_sort_tree f0 O0 (by rw[e0,p0];exact j0) λout e1 Q0 R0 S0=>⟨_,rfl,?_⟩) (JS _)));obtain⟨U0,V0⟩:=sortedHeap_at (out:=out) f0;have d0:=YA (R0.trans o0) S0;subst d0;have q0:=VI d (c0.kept (t':=n0) (h':=Y) (by grind));have W0:=q0.laid (o:=.lst ((eb (dd J)).map V.int)) (t':=n0) (h':=sortedHeap (Y.push {cls:=.type "list",data:=.seq a0.toArray}) Y.objs.size a0 out)
  (λb v r0=>by
   have s0:=pb r0;rw[sortedHeap_old (Ob s0) (by rw[zh];exact Kr s0)];exact Xa _ r0) (Ra _)
  (⟨by rw[Na,(mc (dd J)).length_eq];exact hsz,nx5 out.toList U0 (bt Q0) (by simpa[hR]using V0)⟩)
 exact Aa ⟨_,rfl,.ref _,_,W0,rfl,G0 _ (q0.za.fresh (Ra _))⟩
def YI:aS (.type "list") "keys"=pure none:=by rw[wS,KR];exact(by kernel_rfl)
def BB:entryFor table "dict.update.loop"=some Builtin.«dict.update.loop»:=entryFor_of_tree (by kernel_rfl)
def Vw:plainId "dict.update.loop"=HQ:=by decide+kernel
section
variable{prog:MQ}{w:PQ}{A:OQ}{E:EQ->GQ->Prop}{s:GQ}
def ZI(d0:PlainL s.heap l e0)(f0:A.handled=none)(h:∀h' q,(∀b o,s.heap.get? b=some o->h'.get? b=some o)->Q none {s with heap:=h',toks:=q}):wpAny (KQ prog w) A (getAttr? (.ref l) "keys") Q E s:=by
 obtain⟨o,n,ho,J,O,Y⟩:=d0;obtain⟨c,j0,k0,g0⟩:=o;simp only at J Y O;subst J Y O;obtain⟨h0,g,d,q,os⟩:=s;have a0:∀b0,(⟨h0,g,d,b0,os⟩:GQ).TypeIs (.ref l) "list":=λ_=>⟨_,ho,rfl⟩
 have l0:=sub_AttributeError;have n0:=uv.lookup;have o0:=uv.bind (.ref l);have p0:=am_list_getattr_none;have i0:(["__module__","__name__","__qualname__","__doc__","__annotations__"]:List Str).contains "keys"=IQ:=by decide+kernel
 unfold getAttr? getAttrBy? getAttrBy;repeat(any_goals(first|assumption|exact a0 _|((with_reducible show wpAny _ _ (call (Value.builtin "list.__getattribute__") _ _) _ _ _);refine HR uv (a0 _) am_entry_list_getattribute (F.args_list_getattribute_2 _ _) (meets_getattribute_miss_list l e0 n g0 "keys" _ YI i0 (by decide+kernel)) ⟨ho,f0,λh' b0 e c0=>?_⟩)|wp_step))
 obtain⟨t',q0,r0⟩:=c0.there;unfold getattributeRaised;repeat(any_goals(first|assumption|wp_step))
 exact h _ _ c0.keeps
def aJ{K:Type}[DecidableEq K](vs:List (K×EQ))(k:K)(v:EQ):(pS vs k v).length<=vs.length+1:=by
 unfold pS;split<;>simp
def kt{K:Type}[DecidableEq K](vs:List (K×EQ))(ps:List (K×EQ)):List (K×EQ):=ps.foldl (λa q=>pS a q.1 q.2) vs
def bJ{us:List EQ}(t0:A.handled=none)(u0:l≠I)(e0:D≠I)(v0:D≠l)(f0:us.length=ks.length)(hsz:ks.length<1000000):
  ∀(k i:Nat)(s:GQ),us.length-i=k->i<=us.length->s.heap.IsListIter I l i->s.heap.IsList l us.toArray->(∀(j:Nat)u,us[j]?=some u->∃t J q,u=.ref t/\t≠I/\t≠D/\ks[j]?=some q/\s.heap.IsTuple t #[J,q.2]/\(Qb prog w).is q.1 J=HQ)->
   (∃vs,s.heap.DictOf (Qb prog w) D vs/\vs=kt [] (ks.take i)/\vs.length<=i)->
   (∀h' O,(∀b o,b≠I->b≠D->s.heap.get? b=some o->h'.get? b=some o)->h'.DictOf (Qb prog w) D (kt [] ks)->R (.ok (.ret .none)) {s with heap:=h',toks:=O})->
   codeAny (KQ prog w) A (.builtin "dict.update.loop" ⟨[.ref D,.ref I,eR i,.none],[]⟩) R s:=by
 have W:=Walks.list (prog:=prog) (w:=w) (A:=A.in1) t0 I l u0 us.toArray;have w0:us.toArray.size=us.length:=by simp
 intro k;induction k with
 |zero=>
  intro i s hk hi g0 h0 Y a0 i0;have x0:i=us.length:=by lia
  refine Bh BB ?_;refine ba (W.done s _ _ (by grind) λh' O a1=>?_);obtain⟨vs,dd,rfl,_⟩:=a0;rw[x0,f0,sj]at dd;refine ba (Aa (Aa (i0 h' O (by grind) ?_)));obtain⟨o,b0,ep,ho,r⟩:=dd;exact nx14 o b0 ep ⟨by grind,r⟩
 |succ k y0=>
  intro i s hk hi g0 h0 Y a0 i0;have j0:i<us.length:=by lia
  refine Bh BB ?_;rw[yj Vw _];refine ba (W.item i s _ _ (by rw[w0];exact j0) ⟨g0,h0⟩ λv k0 l0 z0 n0 c0=>?_);obtain⟨t,J,q,rfl,A0,b1,B0,C0,o0⟩:=Y i v (by simpa using z0);obtain⟨vs,dd,D0,F0⟩:=a0;obtain⟨p0,G0,H0,d1,I0⟩:=id C0;have q0:=c0 t p0 (by simpa using A0) G0;refine ba (eg ?_);refine ba (wpAny_tryCatch ?_);refine ba (Lk ⟨p0,q0,H0⟩ ?_);refine ba (Bk q0 I0 ?_);refine Aa ?_;refine eg ?_;unfold dictSet;try with_reducible refine eg ?_
  refine ba ((Qb prog w).pyHash o0 ?_);have J0:k0.DictOf (Qb prog w) D vs:=by
   obtain⟨o,b0,ep,ho,r⟩:=dd;exact nx14 o b0 ep ⟨c0 D o (by simpa using e0) ho,r⟩
  have K0:vs.length<=JQ:=qc F0 (qc hi (by rw[f0];exact qc (yh hsz) (by decide)));refine wpAny_dictSetHashed_pairs (s:={s with heap:=k0,toks:=l0+1}) (hsz:=K0) o0 J0 λL0 M0 N0=>?_
  have d0:=λb O0=>N0.2 b O0
  refine Aa ⟨Bj Vw _,?_⟩;have e1:eR ((i:Int)+1)=eR ((i+1:Nat):Int):=by rw[Int.natCast_add];rfl
  refine y0 (i+1) {s with heap:=L0,toks:=l0+1} (by lia) j0 (n0.1.at λo e=>(d0 I e0.symm).trans e) (n0.2.at λo e=>(d0 l v0.symm).trans e) (λj u Q0=>?_) ⟨_,M0,?_,?_⟩ λf1 g1 h1 i1=>?_
  ·obtain⟨t',R0,S0,U0,r0,s0,V0,⟨W0,X0,Y0⟩,Z0⟩:=Y j u Q0;exact nx8 t' R0 S0 U0 r0 s0 V0 ⟨⟨W0,(d0 _ s0).trans (c0 _ _ (by simpa using r0) X0),Y0⟩,Z0⟩
  ·rw[Oi,B0,D0];unfold kt
   grind
  ·have:=aJ vs q.1 q.2;lia
  grind
end
inductive Eo(K:W.Frag)(H:Hp):List V->List (Key×V)->Prop where
 |nil:Eo K H [] []
 |cons{t:FQ}{q:Key×V}{ws:List V}{ps:List (Key×V)}(h:xa K H t [kV q.1,q.2])(r:Eo K H ws ps):Eo K H (.ref t::ws) (q::ps)
def Ym(kvs ps:List (Key×V)):List (Key×V):=ps.foldl (λa q=>nb a q.1 q.2) kvs
def cJ:∀{ps:List (Key×V)}{ks:List (Key×EQ)}{kvs:List (Key×V)}{vs:List (Key×EQ)},KV ps ks->KV kvs vs->KV (Ym kvs ps) (kt vs ks):=by
 intro _ _ kvs vs h q;induction h generalizing kvs vs with
 |nil=>exact q
 |@cons p b _ _ e r J=>
  have:=KV.put q p.1 e.2;rw[show pS _ p.1 b.2=pS _ b.1 b.2 by rw[e.1]]at this;exact J this
def CB:∀(ps kvs:List (Key×V)),(Ym kvs ps).length<=kvs.length+ps.length
 |[],kvs=>Ra _
 |q::r,kvs=>by
  have J:=CB r (nb kvs q.1 q.2);have O:=pq kvs q.1 q.2;show(Ym (nb kvs q.1 q.2) r).length<=kvs.length+(r.length+1);lia
def dJ{c0:L2.St}(I:Inv X n0 c0 H s):∀{O:List V}{ps:List (Key×V)}{q:List EQ},Eo X.K H O ps->Oa O q->
  ∃ks:List (Key×EQ),KV ps ks/\q.length=ks.length/\∀(j:Nat)u,q[j]?=some u->∃t J Y,u=.ref t/\t<s.heap.objs.size/\ks[j]?=some Y/\s.heap.IsTuple t #[J,Y.2]/\(Qb X.prog X.w).is Y.1 J=HQ:=by
 intro O ps q h;induction h generalizing q with
 |nil=>rintro(_|_);exact⟨[],.nil,rfl,by grind⟩
 |cons h r d0=>
  rintro(_|⟨e0,f0⟩);obtain⟨ks,g0,h0,i0⟩:=d0 f0;obtain⟨q,j0,⟨o,ho,a0⟩,_⟩:=I.tuple h;obtain⟨J,b0,rfl,k0,l0⟩:=aq j0;cases e0;refine⟨(_,b0)::ks,.cons ⟨rfl,l0⟩ g0,by simp[h0],λj u e=>?_⟩;cases j with
  |zero=>
   cases e;exact nx8 _ J (_,b0) rfl (pb ho) rfl ⟨o,ho,a0.1,a0.2⟩ (Lh k0)
  |succ j=>exact i0 j u (by simpa using e)
def eJ{K:W.Frag}(n0:X.K=K)(e0:X.calm=HQ):gf X (.type "dict") (λxs H Q=>∃(a:FQ)(Y:List V)(ps:List (Key×V)),xs=[V.ref a]/\H a=some (.lst Y)/\Eo K H Y ps/\ps.length<1000000/\∀p,H p=none->Q (.ref p) (upd H p (.dK (Ym [] ps)))):=by
 subst n0;intro N0 s O0 H xs us Q I r h;obtain⟨a,Y,ps,rfl,o0,p0,hz,q0⟩:=h;obtain⟨u,rfl,r0⟩:=Gf r;cases r0;obtain⟨f0,s0,pl,_⟩:=I.list (ja.of o0);obtain⟨ks,g0,t0,u0⟩:=dJ I p0 s0;have v0:=(dm g0).symm;have h0:a<s.heap.objs.size:=by obtain⟨_,_,e,_⟩:=pl;exact pb e
 refine callType_codes (Q₁:=λobj i0=>obj=.ref s.heap.objs.size/\i0={s with heap:=s.heap.push {cls:=.type "dict",data:=.dict #[]}}) F.kt_called_dict (F.kt_typeCall_dict_1 _) F.entry_dict_init (PySem.kt_code_dict_new _ ⟨rfl,rfl⟩) ?_;rintro obj i0⟨a0,b0⟩;subst a0 b0;have q:(s.heap.push {cls:=.type "dict",data:=.dict #[]}).DictOf (Qb X.prog X.w) s.heap.objs.size []:=Heap.DictOf.new s.heap;refine⟨q.typeIs,F.args_dict_init_2 _ _,?_⟩;refine ba ?_;refine ba (wpAny_notOrdered_dict q.typeIs ?_);refine Aa ?_;show wpAny _ _ (Builtin.Dict.updateFrom "dict.__init__" s.heap.objs.size (.ref a) [] .none) _ _ _;have c0:PlainL (s.heap.push {cls:=.type "dict",data:=.dict #[]}) a f0.toArray:=pl.keeps λb o e=>Xa _ e
 obtain⟨w0,na,x0,y0,_⟩:=id c0;refine ba (Lk ⟨w0,x0,y0⟩ ?_);refine ba (ZI c0 (I.ok.hd e0) λJ z0 O=>?_);refine ba (GR ?_);have j0:=c0.keeps O;refine ba (rm j0.isList ?_);have A0:(J.push {cls:=.type "list_iterator",data:=.fields #[.ref a,.int 0 0]}).DictOf (Qb X.prog X.w) s.heap.objs.size []:=by
  obtain⟨o,k0,ep,ho,r⟩:=q;exact nx14 o k0 ep ⟨Xa _ (O _ _ ho),r⟩
 have d0:s.heap.objs.size<J.objs.size:=by obtain⟨o,k0,ep,ho,r⟩:=q;exact pb (O _ _ ho)
 have B0:=Nat.lt_trans h0 d0;have l0:∀b o,s.heap.get? b=some o->(J.push {cls:=.type "list_iterator",data:=.fields #[.ref a,.int 0 0]}).get? b=some o:=λb o e=>Xa _ (O _ _ (Xa _ e))
 refine Aa ⟨Bj Vw _,bJ (A:=X.A.in1) (s:={s with heap:=J.push {cls:=.type "list_iterator",data:=.fields #[.ref a,.int 0 0]},toks:=z0}) (I.ok.hd e0) (Ob B0) (Ob d0) (Wn h0) t0 (by rw[v0];exact hz) f0.length 0 rfl (wc _) ⟨_,ec _ rfl,rfl,rfl⟩ (j0.isList.push _) (λj u C0=>?_) ⟨[],A0,rfl,Ra _⟩ λQ0 R0 D0 F0=>?_⟩
 ·obtain⟨t,G0,H0,a0,b0,I0,⟨J0,K0,L0⟩,M0⟩:=u0 j u C0;exact nx8 t G0 H0 a0 (by grind) (Ob b0) I0 ⟨⟨J0,l0 _ _ K0,L0⟩,M0⟩
 ·refine⟨rfl,.ref _,_,?_,rfl,q0 _ (I.za.fresh (Ra _))⟩;refine I.laid (λb o e=>D0 b o (Ob (Nat.lt_trans (pb e) d0)) (Ob (pb e)) (l0 b o e)) (Ra _) ?_;exact Qm (qc (CB ps []) (by simp only[List.length_nil,Nat.zero_add];exact qc (yh hz) (by decide))) (beq_eq_false_iff_ne.mpr (ud (Ob I.big))) (cJ g0 .nil) F0
section
variable{X:Cx}{pos:jR}
def fJ(J:X.calm=HQ):gf X (.type "list") (λxs H Q=>∃(a:FQ)(kvs:List (Key×V))(ks:List Int),xs=[V.ref a]/\H a=some (.dK kvs)/\kvs.map (·.1)=ks.map Sum.inl/\∀p,H p=none->Q (.ref p) (upd H p (.lst (ks.map V.int)))):=by
 intro k0 s l0 H xs us Q I r h;obtain⟨a,kvs,ks,rfl,e,O,Y⟩:=h;obtain⟨u,rfl,a0⟩:=Gf r;cases a0;obtain⟨z,hd,vs,q,dd⟩:=Zk I.za e;obtain⟨ep,b0⟩:=dd.dictAt;have hsz:vs.length<=JQ:=by rw[<-q.length];exact z
 refine W.kdl_call (W.kdl_dict (knd:=Qb X.prog X.w) (kvs:=vs) (ep:=ep) hd) (I.ok.hd J) b0 hsz λh' c0 d0 e0 hk f0 g0=>?_
 obtain⟨h0,i0⟩:=Hw q O g0;have j0:=I.laid (a:=s.heap.objs.size) (o:=.lst (ks.map V.int)) (t':=c0) (h':=h') hk (Ra _) (⟨by rw[Na,<-h0];exact hsz,nx5 d0.toList e0 (bt i0) (by simpa using f0)⟩);exact⟨.ref _,_,j0,rfl,Y _ (I.za.fresh (Ra _))⟩
end
end My
namespace My
open PySem PySem.Spec PyProof.Rows L2
def Bq(d:FQ)(ob:bR)(kvs:List (Key×V)):It:=
 ⟨λi H=>H d=some (.Rb ob (.dK kvs))/\i<kvs.length,λi H v H'=>H'=H/\∃k x,kvs[i]?=some (k,x)/\v=kV k,λi H=>H d=some (.Rb ob (.dK kvs))/\i=kvs.length⟩
section
variable{P:MQ}{w:PQ}{K:W.Frag}
def gJ(d it ep:FQ)(ob:bR)(kvs:List (Key×V))(vs:List (Key×EQ))(e0:KV kvs vs)(f0:∀h:NQ,h.get? d=some ob->h.DictAt (Qb P w) d vs ep):
  Vi P w K B0 (Bq d ob kvs) [it] it (λi h=>h.IsKeyIter it d i vs.length ep)where
 mem:=by simp
 obj:=λi h hi c q=>by
  rw[yg.mp q];obtain⟨o,g0,_,dd⟩:=hi
  grind
 keep:=λi h h' hi k=>hi.at (by grind)
 item:=by
  intro X h0 i0 j0 q i n0 s o0 H E I J st O;obtain⟨hd,hi⟩:=O;obtain⟨ho,_⟩:=(I.za d _ hd);obtain⟨⟨k,x⟩,k0⟩:∃p0,kvs[i]?=some p0:=⟨_,Dc hi⟩;obtain⟨⟨C0,u⟩,q0,r0,D0⟩:=Xj e0 k0;cases(r0);refine wpAny_pyNext_dict_item st (f0 _ ho) q0 λs0 h' t0 l0 u0=>?_
  obtain⟨Y,a0,v0,b0,c0,d0⟩:=J it (by simp);obtain⟨F0,w0,x0,y0⟩:=id l0;exact⟨s0,rfl,Vp w0 x0 y0 (by decide) (nx4 (kV k) H (I.turned (λb o z0 g0=>(u0.2 b z0).trans g0) Y a0 b0 c0 d0) (fB t0) ⟨rfl,k,x,k0,rfl⟩ l0 λc G0=>by grind)⟩
 done:=by
  intro X h0 i0 j0 q i n0 s o0 H E I J st O;subst h0 i0 j0;obtain⟨hd,hi⟩:=O;obtain⟨ho,_⟩:=(show Fb X.prog X.w H s.heap d (.Rb ob (.dK kvs))from I.za d _ hd);have A0:vs[i]?=none:=zv.mpr (by rw[<-e0.length];lia);refine wpAny_pyNext_dict_end (I.ok.hd q) st (f0 _ ho) A0 λh' k=>⟨rfl,?_⟩
  obtain⟨Y,a0,v0,b0,c0,d0⟩:=J it (by simp);exact I.turned ‹_› Y a0 b0 c0 d0
 self:=λ_ _ _ _ _ st h=>wpAny_pyIter_keyiter st h
end
section
variable{X:Cx}
def hJ(td:TE):TI:=λO H R=>td O H λx J=>∃d kvs,x=.ref d/\Rd J d (.dK kvs)/\∀ob q,q d=some (.Rb ob (.dK kvs))->(∀b o,b≠d->J b=some o->q b=some o)->(∀b,b≠d->J b=none->q b=none)->R (Bq d ob kvs) q
def DB(ho:PE X o td):PI X o0 o (hJ td):=by
 constructor;intro Y s a0 H R I h;refine Fa (ho Y s a0 H _ I h) ?_;rintro v s1⟨x,b0,c0,e0,d,kvs,ex,f0,J⟩;subst ex;cases e0;obtain⟨ob,q,O,g0,p0,q0⟩:∃ob q,Inv X Y a0 q s1/\q d=some (.Rb ob (.dK kvs))/\(∀b o,b≠d->b0 b=some o->q b=some o)/\∀b,b≠d->b0 b=none->q b=none:=by
  rcases f0 with e|⟨ob,e⟩
  ·obtain⟨ob,h0⟩:=Es (c0.za d _ e);exact nx11 ob _ (eB c0 e h0) ia (λb o n J=>by rw[ka n];exact J) λb n J=>by rw[ka n];exact J
  ·exact(by grind)
 obtain⟨ho2,z,i0,vs,j0,dd⟩:=(O.za d _ g0);obtain⟨ep,d0⟩:=dd.dictAt;have k0:∀h:NQ,h.get? d=some ob->h.DictAt (Qb X.prog X.w) d vs ep:=λh e=>d0.at' (by grind)
 refine wpAny_pyIter_dict i0 d0 ?_;have l0:=O.kept (t':=s1.toks) (h':=s1.heap.push {cls:=.type "dict_keyiterator",data:=.fields #[.ref d,.int 0 0,.int vs.length 0,.int ep 0]}) λb o e=>Xa _ e
 exact⟨_,[s1.heap.objs.size],_,_,q,rfl,l0,gJ d _ ep ob kvs vs j0 k0,⟨_,ec _ rfl,rfl,rfl⟩,λb n0=>by
  rw[yg.mp n0];exact O.Ce (Ra _) (O.za.fresh (Ra _)),by grind⟩
end
def iJ{g:TG}{a0:TS}{D:Se}(Pv:Nat->L2.St->Hp->Prop)(i0:Pv 0 q H)(b0:∀i q H,Pv i q H->H d=some (.Rb ob (.dK kvs)))
  (e0:∀i k x q H,kvs[i]?=some (k,x)->Pv i q H->g (kV k) q H λJ O=>a0 {D with nx:=Pv (i+1),ct:=Pv (i+1),bk:=D.nx} J O)(f0:∀q H,Pv kvs.length q H->D.nx q H):
  ∃W:Nat->Nat->L2.St->Hp->Prop,(∃m,W 0 m q H)/\∀i m q H,W i m q H->
   ((Bq d ob kvs).stop i H/\D.nx q H)\/((Bq d ob kvs).go i H/\∃N:L2.St->Hp->Prop,(∀Y H',N Y H'->∃c0,c0<m/\W (i+1) c0 Y H')/\∀x H',(Bq d ob kvs).pe i H x H'->g x q H' λJ O=>a0 {D with nx:=N,ct:=N,bk:=D.nx} J O):=by
 refine⟨λi m q H=>m=kvs.length-i/\i<=kvs.length/\Pv i q H,by grind,?_⟩;rintro i m q H⟨rfl,hi,p⟩;by_cases d0:i<kvs.length
 ·refine .inr ⟨⟨b0 i q H p,d0⟩,Pv (i+1),λY H' g0=>⟨kvs.length-(i+1),by lia,rfl,d0,g0⟩,?_⟩;rintro v H' ⟨rfl,k,x,h0,rfl⟩;exact e0 i k x q _ h0 p
 ·have e:i=kvs.length:=by lia
  subst e;exact .inl ⟨⟨b0 _ q H p,rfl⟩,f0 q H p⟩
open PyProof
def Bd:upd (upd H a o) a u=upd H a u:=by
 funext b;by_cases e:b=a
 ·subst e;rw[ia,ia]
 ·rw[ka e,ka e,ka e]
def jJ{J:L2.St}(I:Inv X a0 J H s)(e:H d=some (.Rb ob (.dK kvs)))(h0:∀o u,X.H₀ d≠some (.Rb o u)):Inv X a0 J (upd H d (.dK kvs)) s:=by
 have ne:∀b,H b=none->b≠d:=λb q z=>by grind
 refine⟨I.ok,I.os,I.bare,⟨I.base.keep,I.base.slot,λb o q n b0=>?_,I.base.there,λb xs q=>?_,λb o u q=>?_,λb ps q=>?_⟩,I.loc,I.cell,?_,λx c q=>?_,λp c0=>?_,λb u q=>?_,I.len⟩
 ·have:=I.base.free b o q n b0;rw[ka (ne b this)];exact this
 ·have:=I.base.tups b xs q;rw[ka λz=>by grind];exact this
 ·have:=I.base.frzs b o u q;rw[ka λz=>by grind];exact this
 ·obtain⟨more,d0⟩:=I.base.tbls b ps q;exact⟨more,by rw[ka λz=>by grind];exact d0⟩
 ·rw[ka (ne _ I.free)];exact I.free
 ·rw[ka (ne _ (I.yb x c q))];exact I.yb x c q
 ·obtain⟨e0,O,f0⟩:=I.pin p c0;exact⟨e0,by rw[ka (ne _ O)];exact O,f0⟩
 ·by_cases Y:b=d
  ·subst Y;rw[ia]at q;cases q;obtain⟨_,g0⟩:=(show Fb X.prog X.w H s.heap b (.Rb ob (.dK kvs))from I.za b _ e);exact g0
  ·rw[ka Y]at q;exact(I.za b u q).kc (λc v _ z=>z) (λc z=>by rw[ka λy=>by grind];exact z) λc xs z=>by rw[ka λy=>by grind];exact z
def kJ{q:L2.St}(I:Inv X J q H s)(e:Rd H d (.dK kvs))(O:∀o u,X.H₀ d≠some (.Rb o u)):Inv X J q (upd H d (.dK kvs)) s:=by
 rcases e with e|⟨ob,e⟩
 ·rw[show upd H d (.dK kvs)=H from funext λb=>by by_cases z:b=d;subst z;rw[ia,e];rw[ka z]];exact I
 ·exact jJ I e O
inductive lJ(H0:Hp)(Q:VK)(x:V)(H1:Hp):Prop|mk(a kvs)(_:x=.ref a)(_:Rd H1 a (.dK kvs))(_:(∀o u,H0 a≠some (.Rb o u)))(_:Q .ya (upd H1 a (.dK [])))
def mJ(q:Hp)(td:TE):TE:=λJ H Q=>td J H (lJ q Q)
section
variable{X:Cx}{o e:SQ}{td te:TE}{apos Pb:jR}
def nJ(ho:PE X o td)(d0:YQ o "clear" X.env (RQ o X.env)=RQ o X.env:=by rfl)(e0:(apos.endLine==Pb.line)=HQ:=by rfl):PE X (.Call (.Attribute o "clear" apos) [] [] Pb) (mJ X.H₀ td):=by
 constructor;intro f0 s g0 H Q I h;refine FR d0 e0 (Fa (ho f0 s g0 H _ I h) ?_);rintro v s1⟨x,r0,J,h0,a,kvs,ex,O,i0,j0⟩;subst ex;obtain rfl:v=Value.ref a:=h0;obtain⟨Y,k0,_⟩:=Cs J (.inl ⟨kvs,O⟩);refine nx12 ("dict") ("dict.clear") Ap F.slot_dict_clear F.type_dict_clear Y k0 (Yl rfl (PySem.evalArgs_none ?_));have a0:=kJ J O i0;obtain⟨z,l0,vs,n0,dd⟩:=Zk a0.za ia;refine gm F.slot_dict_clear Y F.entry_dict_clear (F.args_dict_clear_1 _) (meets_dict_clear (knd:=Qb X.prog X.w) (d:=a)) ⟨vs,dd,by rw[<-n0.length];exact z,λh' b0 o0=>?_⟩;have p0:∃q,h'.get? a=some q:=let⟨q,_,_,q0,_⟩:=b0;⟨q,q0⟩
 have c0:=uo (t':=s1.toks) (ob:=.dK []) a0 (by rw[ia];exact True.intro) o0 p0 (Qm (wc _) l0 .nil b0);rw[Bd]at c0;exact⟨.ya,_,c0,rfl,j0⟩
end
end My
namespace My
open PySem PySem.Spec PyProof.Rows L2
def KD(K:W.Frag)(H:Hp)(kvs:List (Key×V))(ds:List (Key×QQ)):Prop:=Paired (λp q=>p.1=q.1/\Dt K H p.2 q.2) kvs ds
def jl:∀{l:List q}{m:List J}{a:q},Paired F l m->a∈l->∃b,b∈m/\F a b:=by
 intro _ _ a h e;induction h with
 |nil=>cases e
 |cons h t O=>grind
def oJ:∀{l:List J}{m:List q}{b:q},Paired F l m->b∈m->∃a,a∈l/\F a b:=by
 intro _ _ b h e;induction h with
 |nil=>cases e
 |cons h t O=>grind
section
variable{P:MQ}{w:PQ}{K:W.Frag}{mg:Str->Option EQ}{base:NQ}
def pJ{x qual:Str}{st:gR}{f:FQ}{q:XQ}{N ps:List Str}{k:Nat}{sp:Sp}(F:qg K x qual st f q)(S:Zi N ps (ic st))(len:∀vs H Q E,sp vs H Q E->vs.length=ps.length)
  (J:∀(A:OQ)(outer:List VR)(s:GQ)(H:Hp)(vs:List V)(Q:VK)(E:XK),Wa k (A.deeper (cR qual (ic st) s.heap.objs.size f q.code))->sp vs H Q E->
   ∃t,oe (Pd Qc P w K mg base N qual (ic st) f q.code A outer s H E).dh (Qf st) t/\t {nx:=λ_ H'=>Q .ya H',rt:=Q} (start N vs) H):Kb P w K mg base Qc (k+1) f q ps sp:=by
 obtain⟨_,_,_,_,_,_,_,_,_,e,lk,O⟩:=F.ex;subst e;exact Zv lk O S len λA outer s H vs Q E Y a0=>by obtain⟨t,h,b0⟩:=J A outer s H vs Q E Y a0;exact⟨t,h.dh,b0⟩
end
section
variable{P:MQ}{w:PQ}{K:W.Frag}{mg mb:Str->Option EQ}{CX:Kg}{k:Nat}{fa a c0 P0:FQ}{fd:XQ}{x:Str}{sp:NQ->Sp}{Db:GQ}{vs:List EQ}{ns:List Int}
def Cq(K:W.Frag)(a P0:FQ)(o:bR)(u:HO):Hp:=λb=>if b=P0 then some (.Wb #[])else if b=a then(match K.lookup a with
 |some _=>none
 |none=>some (.Rb o u))else none
def Dq(e:Cq K a P0 o u b=some v):(b=P0/\v=.Wb #[])\/(b≠P0/\b=a/\v=.Rb o u/\K.lookup a=none):=by
 unfold Cq at e
 grind
def qJ(Y:K.In Db.heap)(d0:Db.heap.Ns WQ mg)(e0:Db.heap.Ns builtinsNs mb)(b1:∀x:Str,x≠"__name__"->mb x=AR x)(l0:Db.heap.NoLimit)(n0:Db.gens=#[])
  (a0:Db.heap.get? a=some {cls:=.type "list",data:=.seq vs.toArray})(hi:UR vs ns)(o0:ns.length<=JQ)(p0:Wa k eT)
  (f0:Db.heap.get? P0=some (W.tabObj #[]))(q0:W.codeHdIn K c0 P0=HQ)(d1:K.lookup P0=none)(r0:Db.heap.BuiltinsAt mg P0)
  (F:∀base:NQ,K.In base->base.Ns WQ mg->Kb P w K mg base CX k fa fd [x] (sp base))(s0:∀(s:GQ)(u:EQ),WR s fd ⟨[u],[]⟩ [(x,u)])
  (t0:∀(base:NQ)(H:Hp),base.BuiltinsAt mg P0->H P0=some (.Wb #[])->ja K H a (ns.map V.int)->sp base [.ref a] H (λv _=>v=.bl HQ) λ_ _ _=>False)
  (u0:∀H e s',CX [] H Db (λ_ _ _=>False) e s'->False):
  codeAny (KQ P w) eT (.call (.ref fa) ⟨[.ref a],[]⟩) (λr s'=>r=.ok (.ret (.bool HQ))/\OldK Db.heap s'.heap/\s'.os=Db.os/\oR s'.gens) Db:=by
 have v0:=L2.gA hi;have e1:=hi.length;have w0:a≠P0:=λz=>by grind
 let o:bR:={cls:=.type "list",data:=.seq vs.toArray}
 let H:Hp:=Cq K a P0 o (.lst (ns.map V.int))
 have g0:H P0=some (.Wb #[]):=Ca rfl;have none_of:∀{b:FQ}{ob:bR},Db.heap.get? b=some ob->ob.cls≠.none->ob.cls≠.type "list"->H b=none:=λ{b ob}e f1 g1=>by
  cases q:H b with
  |none=>rfl
  |some v=>
   exfalso;rcases Dq q with⟨z,_⟩|⟨_,z,_,_⟩
   ·grind
   grind
 have x0:∀{b:FQ}{ob:bR}{O:Array DictEntry}{ep:Nat},Db.heap.get? b=some ob->ob.data=.dict O ep->H b=none:=λ{b ob O ep}e d=>by
  cases q:H b with
  |none=>rfl
  |some v=>
   exfalso;rcases Dq q with⟨z,_⟩|⟨_,z,_,_⟩
   ·grind
   grind
 have b0:∀{b:FQ}{m:Str->Option EQ},Db.heap.Ns b m->(Hj Db.heap H).Ns b m:=λ{b m}⟨ob,O,ep,e,d,r⟩=>nx9 ob O ep (Av e (x0 e d)) d r
 have h0:K.In (Hj Db.heap H):=λb ob e=>Av (Y b ob e) (by
  cases q:H b with
  |none=>rfl
  |some v=>
   exfalso;rcases Dq q with⟨z,_⟩|⟨_,z,_,J⟩
   ·grind
   grind)
 have y0:Mod K mg (Hj Db.heap H):=⟨h0,b0 d0,by grind,by obtain⟨z0,A0,B0⟩:=l0;exact⟨z0,b0 A0,B0⟩⟩;have i0:fc P w H Db.heap:=λb v q=>by
  rcases Dq q with⟨z,J⟩|⟨_,z,J,_⟩
  ·rw[z,J];exact f0
  ·rw[z,J];exact⟨a0,by rw[Na];exact o0,nx5 vs _ v0 a0⟩
 have C0:ja K H a (ns.map V.int):=by
  cases hk:K.lookup a with
  |some ob=>
   have e:=Y a ob hk;rw[a0]at e;cases e;exact .inr (nx8 _ vs.toArray _ hk rfl rfl rfl ⟨by grind,by grind⟩)
  |none=>
   refine .inl (.inr ⟨o,?_⟩);show Cq K a P0 o (.lst (ns.map V.int)) a=_;unfold Cq;rw[Ba w0,Ca rfl,hk]
 have D0:(Hj Db.heap H).BuiltinsAt mg P0:=by
  obtain⟨F0,ob,G0,H0,I0,J0,K0,L0,M0⟩:=r0;exact nx12 F0 ob G0 H0 I0 J0 (Av K0 (by grind)) ⟨L0,M0⟩
 have N0:Yi P w K mg (Hj Db.heap H) eT [] Db H:=⟨rfl,y0,λb ob e=>lE e,vk (kE _ _),trivial,λb e0=>absurd (show b∈([]:List FQ)from e0) (by simp),i0,.of_eq n0⟩;refine zg ((F _ h0 (b0 d0)).run eT [] Db H ⟨[.ref a],[]⟩ [.ref a] [.ref a] _ _ p0 N0 (s0 Db (.ref a)) (.cons rfl .nil) (t0 _ H D0 g0 C0)) λr s' h=>?_
 match r,h with
 |.error e,h=>exact(u0 H e s' h).elim
 |.ok (.ret u),h=>
  obtain⟨v,H',os,O0,un,j0,Q0,q⟩:=h;obtain rfl:v=.bl HQ:=q;obtain rfl:u=Value.bool HQ:=Q0;refine⟨rfl,⟨λb ob e=>?_,λb ob e=>un.there b ob e (by simp)⟩,os,O0⟩;cases q:H b with
  |none=>exact .inl (un.keep b ob e q (λz=>absurd (show b∈([]:List FQ)from z) (by simp)) (by simp))
  |some v=>
   rcases Dq q with⟨z,J⟩|⟨_,z,J,_⟩
   ·subst z;obtain⟨more,R0⟩:=un.tbls b #[] g0;have S0:s'.heap.get? b=some {cls:=.none,data:=.fields (#[]++more)}:=j0 b _ R0;rw[f0]at e;cases e;obtain⟨U0,V0,_,_,_,_,_,_,_,c1,W0,X0,Y0,_⟩:=W.codeHd_of_K Y q0;exact .inr (.inl (⟨nx2 c0 U0 V0 c1 W0 X0 Y0,rfl,nx5 (#[]) more rfl S0⟩))
   ·subst J;have Z0:=un.frzs b _ _ q;obtain⟨k0,_⟩:=i0 b _ q;obtain⟨a1,_⟩:=j0 b _ Z0;rw[e]at k0;cases k0;exact .inl a1
end
end My
namespace My
open PySem PySem.W PySem.Calls PyProof.Rows L2
def rJ{l:W.OpenLaw}{n k:Nat}{g0:MQ}{h0:List Str}{i0:(Str->Option EQ)->NQ->Prop}{b0:PQ->NQ->Prop}{d:DefRec}{K:Params->W.Frag}{c0:List FQ}{CX:PQ->Kg}{sp:PQ->(Str->Option EQ)->FQ->NQ->Sp}{x:Str}
  (j0:l.most=some n)(V0:n<=JQ)(k0:d.params.defaults=[])(l0:Wa k eT)
  (n0:∀(w:PQ)(h:NQ),b0 w h->(K w.params).In h/\∀P∈c0,h.get? P=some (W.tabObj #[]))
  (F:∀(w:PQ)(mg:Str->Option EQ)(J:FQ)(h:NQ),(K w.params).In h->h.Ns WQ mg->mg d.name=some (.ref J)->
   ∃(O:XQ)(d0 P0:FQ),(∀(s:GQ)(u:EQ),WR s O ⟨[u],[]⟩ [(x,u)])/\P0∈c0/\(K w.params).lookup P0=none/\W.codeHdIn (K w.params) d0 P0=HQ/\
    ∀base:NQ,(K w.params).In base->base.Ns WQ mg->Kb l.prog w (K w.params) mg base (CX w) k J O [x] (sp w mg P0 base))
  (o0:∀(w:PQ)(mg:Str->Option EQ)(P0:FQ)(base:NQ)(H:Hp)(a:FQ)(q:List Int),q.length<=n->(∀m∈q,Builtin.Int.intBits m<=1048576)->base.BuiltinsAt mg P0->H P0=some (.Wb #[])->ja (K w.params) H a (q.map V.int)->sp w mg P0 base [.ref a] H (λv _=>v=.bl HQ) λ_ _ _=>False)
  (W0:∀(w:PQ)(H:Hp)(s:GQ)(e:EQ)(s':GQ),CX w [] H s (λ_ _ _=>False) e s'->False):
  W.WalkO g0 h0 i0 b0 l.row.toRowW d [] (λf vs=>PySem.call f vs):=by
 intro w s₀ p0 mg X0 G q0 J o Y0 cd Z0 r0 kV ho a1 b1 e0 s0 t0 args d1 as u0 v0 e1 w0 f1;obtain rfl:r0=.none:=Dflts.none e0 k0;obtain rfl:kV=.none:=Dflts.noKw e0;obtain⟨a,vs,q,rfl,rfl,x0,y0,z0⟩:=Att.BG j0 u0 w0;obtain⟨f0,A0⟩:=n0 w _ q0;obtain⟨O,d0,P0,B0,C0,D0,F0,G0⟩:=F w mg J _ f0 G.T.g s0;have H0:p0.heap.BuiltinsAt mg P0:=by
  obtain⟨I0,ob,J0,K0,L0,M0,N0,O0⟩:=G.T.bmain;refine nx17 I0 ob J0 K0 (λz=>?_) (λz=>?_) L0 M0 N0 O0
  ·obtain⟨g1,h1,ep,e,i1,_⟩:=G.T.g
   grind
  ·grind
 refine enter_call (zg (qJ f0 G.T.g G.T.b G.T.builtins G.T.nolimit t0 x0 y0 (by grind) l0 (A0 P0 C0) F0 D0 H0 G0 B0 (λbase H Q0 Y a0=>o0 w mg P0 base H a q z0 (HG v0) Q0 Y a0) (by grind)) λr s' R0=>?_);obtain⟨rfl,Y,a0,S0⟩:=R0;exact⟨.inl (nx8 (.bool HQ) (.bool HQ) ([]) rfl (λ_=>rfl) (.bool HQ) (Att.CG l _) λ_=>⟨List.Pairwise.nil,λ_ U0=>(nomatch U0)⟩),Y,a0,S0⟩
end My
namespace My
open PySem PySem.Spec PyProof.Rows L2 PyProof
def Fo(L:FQ)(h:NQ):List (FQ×bR):=(List.range h.objs.size).filterMap λb=>if b=L then none else(h.get? b).map λo=>(b,o)
def nt(n:b≠L)(e:h.get? b=some o):(b,o)∈Fo L h:=
 xk.mpr ⟨b,List.mem_range.mpr (pb e),by grind⟩
def EB(m:p∈Fo L h):p.1≠L/\h.get? p.1=some p.2:=by
 obtain⟨b,_,e⟩:=xk.mp m;by_cases n:b=L
 ·grind
 ·rw[Ba n]at e;obtain⟨o,q,J⟩:=xh.mp e
  grind
def Go(b:FQ):(Heap.get? ({}:NQ) b)=none:=by
 cases e:Heap.get? ({}:NQ) b with
 |none=>rfl
 |some o=>exact absurd (pb e) (by grind)
def sJ{q:L2.St}(I:Inv X O q H s)(keep:∀b o,b≠X.env.locals->s.heap.get? b=some o->h'.get? b=some o)
  (J:∀m,s.heap.Ns X.env.locals m->h'.Ns X.env.locals m):Inv X O q H {s with heap:=h',toks:=t'}:=by
 refine I.step (g':=s.gens) (d':=s.drawn) (ch:=[]) (λ_ z=>nomatch z) (by grind) (λb o Y c0 _ e n=>⟨o.slots,keep b o Y e⟩) (λb o _ e n=>n) (λb o _ e=>?_) (λ_ _ e=>e) (λ_ _ _ e=>e) (λb ps e=>⟨#[],by simpa using e⟩) J (λb u a0=>?_) I.bare
 ·by_cases z:b=X.env.locals
  ·obtain⟨m,b0,_⟩:=I.loc;obtain⟨d0,_,_,e0,_⟩:=J m b0
   grind
  grind
 ·refine(I.za b u a0).kc (λc v f0 z=>keep c v (λy=>?_) z) (λ_ z=>z) λ_ _ z=>z
  have g0:=I.free
  grind
def Ww{h:NQ}(x:h.Ns a m)(y:h.Ns a q):m=q:=by
 obtain⟨o,J,ep,O,Y,a0⟩:=x;obtain⟨b0,c0,d0,e0,f0,g0⟩:=y
 grind
def tJ(c0:A.depth<iR)(d0:s.heap.NoLimit)
  (e0:s.heap.get? f=some {cls:=.type "function",data:=.func (W.kla_fn name qual f0 (.Attribute (.Name z q) fld sp) scope [] g0 O h0)})(i0:s.heap.CodeRec O qual)
  (j0:scope.isCoroutine=IQ)(k0:scope.isGenerator=IQ)(hk:scope.kind=.function)(l0:∀x∈scope.names,x.2≠.cell)(hz:scope.names.lookup z=some .local)
  (n0:PR (W.kla_fn name qual f0 (.Attribute (.Name z q) fld sp) scope [] g0 O h0) ⟨[u],[]⟩=pure [(z,u)])
  (o0:(z==("__debug__":Str))=IQ)(p0:∀env,YQ (.Name z q) fld env (RQ (.Name z q) env)=RQ (.Name z q) env)
  (item:∀(h':NQ)(q0:Nat)(r0:OQ)(s0:EQ->GQ->Prop)(Y:EQ->GQ->Prop),(∀b o,s.heap.get? b=some o->h'.get? b=some o)->(∀v J,Q v {s with heap:=h',toks:=J}->Y v {s with heap:=h',toks:=J})->wpAny (KQ prog w) r0 (kS u fld HQ) Y s0 {s with heap:=h',toks:=q0}):wpAny (KQ prog w) A (call (.ref f) [u]) Q E s:=by
 refine fi (W.kla_callFunE c0 e0 rfl j0 k0 rfl i0 ?_);rw[n0];refine Aa (wpAny_newFunctionEnv l0 (by grind) (λa0 t0 b0=>⟨d0.fresh _ b0,?_⟩) hk);have u0:∀b o,s.heap.get? b=some o->a0.get? b=some o:=λb o e=>b0.extBut b o (Ob (pb e)) (Xa _ e)
 refine W.kla_codeExpr ?_;refine Wv (p0 _) ?_;refine ES (wpAny_loadName_local hk hz t0 (v:=u) (by show List.lookup z [(z,u)]=some u;simp) ?_) o0;exact item a0 _ _ _ _ u0 λv J v0=>v0
def GB(ks:List Int)(xs ys:List V):Prop:=∃ps:List (Int×V),ps.Perm (ks.zip xs)/\ys=ps.map Prod.snd/\ps.Pairwise λp q=>p.1<=q.1
def uJ{R:J->n0->Prop}(p:q.Perm O):∀{Y:List J},Paired R Y O->∃a0:List J,a0.Perm Y/\Paired R a0 q:=by
 induction p with
 |nil=>exactλ{l}h=>⟨l,.refl _,h⟩
 |cons x _ c0=>
  intro l h;cases h with
  |cons r t=>
   obtain⟨b0,d0,h'⟩:=c0 t;exact⟨_::b0,d0.cons _,.cons r h'⟩
 |swap x y l=>
  intro b0 h;cases h with
  |cons r t=>
   cases t with
   |cons e0 f0=>exact⟨_::_::_,.swap _ _ _,.cons e0 (.cons r f0)⟩
 |trans _ _ g0 h0=>
  intro l h;obtain⟨O,i0,j0⟩:=h0 h;obtain⟨q,k0,l0⟩:=g0 j0;exact⟨q,k0.trans i0,l0⟩
def HB:∀{ks:List Int}{xs:List V}{us:List EQ},Oa xs us->Paired (λ(p:Int×V)(q:Int×EQ)=>p.1=q.1/\Sa p.2 q.2) (ks.zip xs) (ks.zip us)
 |[],_,_,_=>.nil
 |_::_,_,_,.nil=>.nil
 |_::_,_,_,.cons r t=>.cons ⟨rfl,r⟩ (HB t)
def vJ:∀{ps:List (Int×V)}{J:List (Int×EQ)},Paired (λ(p:Int×V)(q:Int×EQ)=>p.1=q.1/\Sa p.2 q.2) ps J->Oa (ps.map Prod.snd) (J.map Prod.snd)/\(J.Pairwise (λp q=>p.1<=q.1)->ps.Pairwise λp q=>p.1<=q.1):=by
 intro _ _ h;induction h with
 |nil=>exact⟨.nil,λ_=>.nil⟩
 |cons r t O=>
  obtain⟨a,b⟩:=O;refine⟨.cons r.2 a,λh=>?_⟩;obtain⟨Y,a0⟩:=Eh.mp h;refine Eh.mpr ⟨λq b0=>?_,b a0⟩;obtain⟨j,c0,e⟩:=Np b0;obtain⟨y,d0,e0⟩:=Xj t (ee.mpr ⟨c0,e⟩);have:=Y y (Cg d0);rw[r.1,e0.1];exact this
def IB{Y:L2.St}{D:FQ}(I:Inv X c0 Y H s)(keep:∀b o,b≠X.env.locals->s.heap.get? b=some o->h'.get? b=some o)
  (a0:∀m,s.heap.Ns X.env.locals m->h'.Ns X.env.locals m)(b0:s.heap.objs.size<=D)(new:Fb X.prog X.w (upd H D u) h' D u):Inv X c0 Y (upd H D u) {s with heap:=h',toks:=t'}:=by
 have q:∀b o,H b=some o->b≠D:=λb o e=>Ob (pd (I.za b o e).lt b0)
 have d0:∀b o,s.heap.get? b=some o->b≠D:=λb o e=>Ob (pd (pb e) b0)
 refine I.step (g':=s.gens) (d':=s.drawn) (ch:=[]) (λ_ z=>nomatch z) (by grind) (λb o e0 J _ e n=>⟨o.slots,keep b o e0 e⟩) (λb o _ e n=>by rw[ka (d0 b o e)];exact n) (λb o _ e=>?_) (λb _ e=>by rw[ka (q b _ e)];exact e) (λb _ _ e=>by rw[ka (q b _ e)];exact e) (λb ps e=>⟨#[],by rw[ka (q b _ e)];simpa using e⟩) a0 (λb v O=>?_) I.bare
 ·by_cases z:b=X.env.locals
  ·obtain⟨m,f0,_⟩:=I.loc;obtain⟨g0,_,_,h0,_⟩:=a0 m f0
   grind
  grind
 ·by_cases J:b=D
  ·subst J;rw[ia]at O
   grind
  ·rw[ka J]at O;refine(I.za b v O).kc (λc v i0 z=>keep c v (λy=>?_) z) (λc z=>by rw[ka (q c _ z)];exact z) λc _ z=>by rw[ka (q c _ z)];exact z
   have j0:=I.free
   grind
def JB(K:W.Frag)(H:Hp)(f:Str)(v:V)(k:Int):Prop:=∃a C q fs,v=.ref a/\H a=some (.ins C q fs)/\Cls K C/\Ic K C f/\fs.lookup f=some (.int k)
def wJ{X:Cx}{j0:List (FQ×bR)}{k0:L2.St}{H:Hp}{s:GQ}{E:EQ->GQ->Prop}{Q:EQ->GQ->Prop}{l J:FQ}{xs:List V}{ks:List Int}{d0:EQ}{name qual fld:Str}{l0:VS}{scope:nR}{z:Str}{a0 sp:jR}{n0 o0:EQ}(I:Inv X j0 k0 H s)
  (O:H l=some (.lst xs))(u1:xs.length<64)(p0:Paired (JB X.K H fld) xs ks)(D0:X.A.in1.in1.depth<iR)
  (q0:s.heap.get? J=some {cls:=.type "function",data:=.func (W.kla_fn name qual l0 (.Attribute (.Name z a0) fld sp) scope [] n0 d0 o0)})(hsz:J+1=s.heap.objs.size)(F0:s.heap.CodeRec d0 qual)
  (G0:scope.isCoroutine=IQ)(H0:scope.isGenerator=IQ)(hk:scope.kind=.function)(I0:∀x∈scope.names,x.2≠.cell)(hz:scope.names.lookup z=some .local)
  (J0:∀u,PR (W.kla_fn name qual l0 (.Attribute (.Name z a0) fld sp) scope [] n0 d0 o0) ⟨[u],[]⟩=pure [(z,u)])
  (K0:(z==("__debug__":Str))=IQ)(L0:∀env,YQ (.Name z a0) fld env (RQ (.Name z a0) env)=RQ (.Name z a0) env)
  (h:∀D ys h' q,H D=none->GB ks xs ys->Inv X j0 k0 (upd H D (.lst ys)) {s with heap:=h',toks:=q}->Q (.ref D) {s with heap:=h',toks:=q}):
  wpAny (KQ X.prog X.w) X.A (call (.builtin "sorted") [.ref l] [(Str.ofString "key",.ref J)]) Q E s:=by
 obtain⟨m,b0,_⟩:=id I.loc;obtain⟨M0,f0,N0,_⟩:=I.list (ja.of O);have v1:M0.length=xs.length:=f0.length.symm;have O0:ks.length=xs.length:=(pf p0).symm;have r0:J≠X.env.locals:=λy=>by
  obtain⟨o,Q0,ep,s0,g0,_⟩:=id b0
  grind
 refine ksk_sorted (h₀:={}) (L:=X.env.locals) (m:=m) (news:=Fo X.env.locals s.heap) (kz:=ks) (b:=IQ) (f:=.ref J) ⟨b0,(λb o e=>by rw[Go]at e;cases e),wc _⟩ (λp O=>by obtain⟨a,b⟩:=EB O;exact⟨b,a,Go _⟩) N0.isList (by lia) (by lia) (ksk_s1 _ _) (λx=>ksk_l1 _ _) (λx=>ksk_t1 _ _) ?_ ?_
 ·intro i v k hv R0 h q w1 e0 Y;have c0:∀b o,b≠X.env.locals->s.heap.get? b=some o->h.get? b=some o:=λb o n e=>(Y (b,o) (List.mem_append_left _ (nt n e))).1
  have t0:=sJ (t':=q) I c0 (λS0 h0=>Ww b0 h0▸e0.ns);obtain⟨x,ex,U0⟩:=Fs f0 hv;obtain⟨x1,u0,a,C,y1,fs,rfl,V0,c,n,lk⟩:=Xj p0 ex;rw[R0]at u0;cases u0;obtain rfl:v=Value.ref a:=U0;have W0:h.CodeRec d0 qual:=by
   obtain⟨X0,Y0,Z0,a1,s0,g0,v0,b1⟩:=F0;refine nx10 X0 Y0 Z0 a1 s0 (c0 _ _ (λy=>?_) g0) v0 b1;obtain⟨o,Q0,ep,w0,x0,_⟩:=id b0;rw[<-y,g0]at w0;cases w0;rw[v0]at x0;cases x0
  refine tJ D0 t0.nolimit (c0 J _ r0 q0) W0 G0 H0 hk I0 hz (J0 _) K0 L0 (λy0 d1 z1 A1 B1 i0 e1=>?_);have z0:=t0.kept (h':=y0) (t':=d1) i0;obtain⟨f1,g1,r,_,_,_⟩:=ko z0.za V0;obtain⟨u,h1,A0⟩:=bd.some_of (v:=.int k) (o:=f1 fld) (by grind);refine qz z0.rb g1 (c.get fld) c.hd n h1 (Vv A0) (e1 _ _ ?_);obtain⟨t,rfl⟩:=A0;exact nx2 y0 _ t rfl rfl ⟨e0.ns.keeps i0,(λb o e=>by rw[Go]at e;cases e),wc _⟩ λp O=>⟨i0 _ _ (Y p O).1,(Y p O).2⟩
 ·intro D h' q out c e0 Y i1 j1;have c0:∀b o,b≠X.env.locals->s.heap.get? b=some o->h'.get? b=some o:=λb o n e=>(Y (b,o) (.tail _ (nt n e))).1
  have k1:s.heap.objs.size<=D:=by
   rw[<-hsz];exact Nat.succ_le_of_lt (i1 _ (nt r0 q0))
  have l1:=(Y _ (.head _)).1;have m1:H D=none:=by
   cases e:H D with
   |none=>rfl
   |some o=>exact absurd (I.za D o e).lt (by grind)
  obtain⟨ps,n1,o1,p1⟩:=j1;obtain⟨B0,C0,q1⟩:=uJ n1 (HB (ks:=ks) f0);obtain⟨r1,t1⟩:=vJ q1;refine h D (B0.map Prod.snd) h' q m1 ⟨B0,C0,rfl,t1 (by simpa using p1)⟩ (IB (t':=q) I c0 (λS0 h0=>Ww b0 h0▸e0.ns) k1 (⟨?_,nx5 out.toList c (o1▸r1) ?_⟩))
  ·rw[Na,C0.length_eq,List.length_zip,O0,Nat.min_self,Fh];lia
  ·rw[Array.toArray_toList];exact l1
def LB(q:FQ)(qual:Str):NQ->Prop:=λh=>h.CodeRec (.ref q) qual
def Tb(P0:FQ)(J:jR)(qual:Str)(H:Hp):Prop:=H P0=some (.Wb #[])\/∃q,H P0=some (.Wb #[eR J.line,eR J.col,.ref q])/\H q=some (.ext (LB q qual))
def xJ(x:h.CodeRec (.ref q) qual):Fb P w H h q (.ext (LB q qual)):=by
 refine⟨x,?_,λf0 g0 y k=>?_⟩
 ·obtain⟨e0,J,O,Y,a0,b0,c0,d0⟩:=x
  grind
 ·obtain⟨e0,J,O,Y,a0,b0,c0,d0⟩:=y;cases a0;exact nx10 q J O Y rfl (k _ b0) c0 d0
def yJ{c0:L2.St}{P J:FQ}(I:Inv X e0 c0 H s)(e:H P=some (.Wb ps))(a0:Heap.ExtBut P s.heap h')(f0:h'.get? P=some {cls:=.none,data:=.fields (ps++more)})
  (b0:s.heap.objs.size<=J)(new:Fb X.prog X.w (upd (upd H P (.Wb (ps++more))) J u) h' J u):
  Inv X e0 c0 (upd (upd H P (.Wb (ps++more))) J u) {s with heap:=h',toks:=t'}:=by
 have ne:∀b,H b=none->b≠P:=λb q z=>by grind
 have Y:∀b o,H b=some o->b≠J:=λb o e=>Ob (pd (I.za b o e).lt b0)
 have g0:∀b o,s.heap.get? b=some o->b≠J:=λb o e=>Ob (pd (pb e) b0)
 refine I.un ⟨λb o q n _ _=>a0 b o (ne b n) q,λb o q n _ _=>⟨o.slots,a0 b o (ne b n) q⟩,λb o q n _=>by rw[ka (g0 b o q),ka (ne b n)];exact n,λb o q _=>?_,λb xs q=>?_,λb o u q=>?_,λb h0 q=>?_⟩ λb u q=>?_
 ·by_cases O:b=P
  ·grind
  ·exact⟨o,a0 b o O q⟩
 ·rw[ka (Y b _ q),ka λz=>by grind];exact q
 ·rw[ka (Y b _ q),ka λz=>by grind];exact q
 ·rw[ka (Y b _ q)];by_cases O:b=P
  ·subst O;rw[e]at q;cases q;exact⟨more,ia⟩
  ·exact⟨#[],by rw[ka O,q];simp⟩
 ·by_cases d0:b=J
  ·subst d0;rw[ia]at q
   grind
  ·rw[ka d0]at q;by_cases O:b=P
   ·subst O;rw[ia]at q;cases q;exact f0
   ·rw[ka O]at q;refine(I.za b u q).kc (λc v b0 z=>a0 c v (λy=>?_) z) (λc z=>by rw[ka (Y c _ z),ka λy=>by grind];exact z) λc xs z=>by rw[ka (Y c _ z),ka λy=>by grind];exact z
    grind
inductive zJ(K:W.Frag)(P0:FQ)(Fq:jR)(qual fld:Str)(Q:VK)(vs:List V)(H1:Hp):Prop|mk(p:FQ)(xs:List V)(ks:List Int)(_:vs=[V.ref p])(_:H1 p=some (.lst xs))(_:xs.length<64)(_:Paired (JB K H1 fld) xs ks)(_:Tb P0 Fq qual H1)(_:∀D ys H',H1 D=none->(∀b o,b≠P0->H1 b=some o->H' b=some o)->Tb P0 Fq qual H'->H' D=some (.lst ys)->GB ks xs ys->Q (.ref D) H')
def AJ(K:W.Frag)(P0:FQ)(q:jR)(qual fld:Str)(t:TA):TE:=λJ H Q=>t J H (zJ K P0 q qual fld Q)
def BJ{X:Cx}{e:SQ}{t:TA}{e0:VS}{scope:nR}{z fld:Str}{c P0:FQ}{p d0 sp f0 g0 N0:jR}(O0:Gl X "sorted")(Q0:X.mg "sorted"=none)(R0:PA X [e] t)
  (D0:X.env.code=.ref c)(S0:W.codeHdIn X.K c P0=HQ)(U0:X.base.BuiltinsAt X.mg P0)(V0:X.A.in1.in1.depth<iR)
  (F0:IS scope X.env=pure [])(G0:defaultsOf e0 X.env=([],[]))
  (W0:scope.isCoroutine=IQ)(X0:scope.isGenerator=IQ)(hk:scope.kind=.function)(Y0:∀x∈scope.names,x.2≠.cell)(hz:scope.names.lookup z=some .local)
  (D1:∀(name qual:Str)(Z0:SQ)(a1:List (Str×FQ))(j0 b1 a0 u:EQ),PR (W.kla_fn name qual e0 Z0 scope a1 j0 b1 a0) ⟨[u],[]⟩=pure [(z,u)])
  (d1:(z==("__debug__":Str))=IQ)(e1:∀env,YQ (.Name z d0) fld env (RQ (.Name z d0) env)=RQ (.Name z d0) env)
  (f1:VQ g0 (LQ [e] X.env)=(IQ,RQ e X.env)::VQ g0 (LQ [] X.env):=by rfl)(g1:(VQ g0 (LQ [e] X.env)).any (·.1)=IQ:=by rfl):
  PE X (.Call (.Name "sorted" p) [e] [⟨some "key",.Lambda e0 (.Attribute (.Name z d0) fld sp) scope f0,N0⟩] g0) (AJ X.K P0 f0 (X.env.qual++"<lambda>") fld t):=by
 constructor;intro s0 s t0 H Q I h;refine bi (Jh I O0 Q0 Bg ?_ (by decide) (by decide));refine callWith_kw (Fa (R0 g0 s0 s t0 H _ I h) ?_) f1 g1;rintro us s1⟨vs,u0,J,h1,i1⟩;obtain⟨pl,xs,ks,rfl,H0,j1,k1,b0,v0⟩:=i1;obtain⟨u,rfl,l1⟩:=Gf h1;cases l1;show wpAny _ _ (aT ((do let v<-RQ (.Lambda e0 (.Attribute (.Name z d0) fld sp) scope f0) X.env;qR g0;pure v)::[])) _ _ s1;have I0:=W.codeHd_of_K J.mod.ki S0;have w0:=J.mod.glob.keeps J.bk;have J0:s1.heap.BuiltinsAt X.mg P0:=by
  obtain⟨m1,o,n1,o1,p1,q1,r1,t1⟩:=U0;exact nx12 m1 o n1 o1 p1 q1 (J.bk _ _ r1) t1
 have rest:∀(K0:EQ->GQ->Prop)(h':NQ)(c0:Nat)(h0:Hp)(q:FQ)(j0 a0:EQ),Inv X s0 t0 h0 {s1 with heap:=h',toks:=c0}->h'.CodeRec (.ref q) (X.env.qual++"<lambda>")->(∀b o,b≠P0->u0 b=some o->h0 b=some o)->Tb P0 f0 (X.env.qual++"<lambda>") h0->
   wpAny (KQ X.prog X.w) X.A (call (.builtin "sorted") [.ref pl] [(Str.ofString "key",.ref h'.objs.size)]) (EP X s0 t0 Q) K0 {s1 with heap:=h'.push {cls:=.type "function",data:=.func (W.kla_fn "<lambda>" (X.env.qual++"<lambda>") e0 (.Attribute (.Name z d0) fld sp) scope [] j0 (.ref q) a0)},toks:=c0}:=by
  intro K0 h' c0 h0 q j0 a0 x0 i0 n0 L0;have u1:=x0.kept (t':=c0) (h':=h'.push {cls:=.type "function",data:=.func (W.kla_fn "<lambda>" (X.env.qual++"<lambda>") e0 (.Attribute (.Name z d0) fld sp) scope [] j0 (.ref q) a0)}) λb o v0=>Xa _ v0
  have v1:pl≠P0:=λy=>by rcases b0 with e|⟨_,e,_⟩<;>(rw[<-y,H0]at e;cases e)
  refine wJ (ks:=ks) u1 (n0 _ _ v1 H0) j1 (jI (by rintro v k⟨a,C,w1,fs,O,Y,k0⟩;exact nx19 a C w1 fs O ⟨n0 _ _ (λy=>by rcases b0 with e|⟨_,e,_⟩<;>(rw[<-y,Y]at e;cases e)) Y,k0⟩) k1) V0 (ec _ rfl) (by rw[zh]) ?_ W0 X0 hk Y0 hz (by grind) d1 e1 λD ys E1 F1 o0 bk x1=>?_
  ·obtain⟨y0,z0,A0,B0,O,Y,k0,C0⟩:=i0;exact nx10 y0 z0 A0 B0 O (Xa _ Y) k0 C0
  ·have y1:D≠P0:=λy=>by rcases L0 with e|⟨_,e,_⟩<;>(rw[<-y,o0]at e;cases e)
   have p0:∀b o,h0 b=some o->upd h0 D (.lst ys) b=some o:=λb o e=>by rw[ka λy=>by rw[y,o0]at e;cases e];exact e
   refine⟨.ref D,_,x1,rfl,v0 D ys _ ?_ (λb o n e=>p0 _ _ (n0 _ _ n e)) (L0.imp (p0 _ _) (by rintro⟨z1,O,Y⟩;exact⟨z1,p0 _ _ O,p0 _ _ Y⟩)) ia bk⟩;cases e:u0 D with
   |none=>rfl
   |some o=>rw[n0 _ _ y1 e]at o0;cases o0
 rcases b0 with b0|⟨q,b0,M0⟩
 ·have l0:s1.heap.get? P0=some (W.tabObj #[]):=J.za P0 _ b0;have A1:WQ≠P0:=λz=>by
   obtain⟨o,G1,ep,O,Y,_⟩:=w0;rw[z,l0]at O;cases O;cases Y
  refine ZR (ba (W.kla_eval G0 (W.kla_makeFunction (mg:=X.mg) F0 J.ok.glob w0 D0 (I0.keeps J.bk) l0 trivial rfl A1 J0 λq a0 h' c0 q0 r0 H1 i0 B1=>ba (yk (Aa ?_)))));refine hS ?_;show wpAny _ _ (call (.builtin "sorted") [.ref pl] [(Str.ofString "key",.ref h'.objs.size)]) _ _ _;have x0:=yJ (t':=c0) J b0 q0 B1 r0 (xJ i0);have C1:P0≠q:=Ob (pd (pb l0) r0);refine rest _ h' c0 _ q _ a0 x0 i0 (λb o n e=>?_) (.inr ⟨q,?_,ia⟩)
  ·rw[ka (Ob (pd (J.za b o e).lt r0)),ka n];exact e
  ·rw[ka C1,ia];simp
 ·have l0:s1.heap.get? P0=some (W.tabObj #[eR f0.line,eR f0.col,.ref q]):=J.za P0 _ b0;have i0:s1.heap.CodeRec (.ref q) (X.env.qual++"<lambda>"):=(J.za q _ M0).1;refine ZR (ba (W.kla_eval G0 (W.kla_makeFunctionHit (mg:=X.mg) (cv:=.ref q) F0 J.ok.glob w0 D0 (I0.keeps J.bk) l0 trivial (by simp[codeAmong,eR]) J0 λa0 h' c0 q0 r0=>ba (yk (Aa ?_)))));refine hS ?_;show wpAny _ _ (call (.builtin "sorted") [.ref pl] [(Str.ofString "key",.ref h'.objs.size)]) _ _ _;refine rest _ h' c0 u0 q _ a0 (J.kept q0) ?_ (λ_ _ _ e=>e) (.inr ⟨q,b0,M0⟩);obtain⟨y0,z0,A0,B0,O,Y,k0,C0⟩:=i0;exact nx10 y0 z0 A0 B0 O (q0 _ _ Y) k0 C0
end My
namespace My
open PySem PyProof.Rows
def kf(p:Keyed):Int:=numOf p.1
open PySem.Spec L2 PyProof
def oi:TE:=λ_ _ _=>False
def MB:∀{q:List String}{us:List EQ},Oa (q.map V.ty) us->us=q.map Value.type
 |[],_,.nil=>rfl
 |c::r,_,.cons e J=>by rw[MB J,show _=Value.type c from e];rfl
def CJ{K:W.Frag}(f0:X.K=K):gf X (.builtin "isinstance") (λxs H Q=>∃(x:V)(tp:FQ)(c0:List String)(t:EQ)(b:Bool),xs=[x,V.ref tp]/\H tp=some (.tup (c0.map V.ty))/\hf K H x t/\W.kitAny K t (c0.map Value.type)=some b/\Q (.bl b) H):=by
 subst f0;intro g0 s h0 H xs us Q I r h;obtain⟨x,tp,c0,t,b,rfl,i0,ty,e,a0⟩:=h;obtain⟨u,v0,rfl,q,j0⟩:=aq r;cases j0;obtain⟨_,w0,k0,o,J,l0,n,hd⟩:=(I.za tp _ i0);have n0:=MB k0;subst n0;obtain⟨x0,y0,z0,A0⟩:=o;subst l0 hd;have h:∀d0,EP X g0 h0 Q (.bool b) {s with toks:=d0}:=λd0=>⟨.bl b,H,I.tok d0,rfl,a0⟩
 cases ty with
 |ya=>cases(q);exact Zh W.kitx_none I.rb True.intro J e (λz=>nomatch z) h
 |bl y=>cases(q);exact Zh W.kitx_bool I.rb True.intro J e (λz=>nomatch z) h
 |int i=>obtain⟨t,a0⟩:=(q);cases a0;exact Zh W.kitx_int I.rb True.intro J e (λz=>nomatch z) h
 |str y=>obtain⟨t,a0⟩:=(q);cases a0;exact Zh W.kitx_str I.rb True.intro J e (λz=>nomatch z) h
 |Uk y=>obtain⟨t,a0⟩:=(q);cases a0;exact Zh W.kitx_float I.rb True.intro J e (λz=>nomatch z) h
 |@lst a xs O=>
  cases(show u=Value.ref a from q);obtain⟨_,_,n,_,Y⟩:=(I.za a _ O);exact Zh Gr I.rb ⟨_,Y,rfl⟩ J e (λz=>nomatch z) h
 |@Rb a ob xs O=>
  cases(q);obtain⟨_,_,_,n,_,Y⟩:=(I.za a _ O);exact Zh Gr I.rb ⟨_,Y,rfl⟩ J e (λz=>nomatch z) h
 |@tup a xs O=>
  cases(show u=Value.ref a from q);obtain⟨_,_,_,p⟩:=(I.za a _ O);obtain⟨o,Y,b0,_⟩:=p;exact Zh W.kitx_tuple I.rb ⟨o,Y,b0⟩ J e (λz=>nomatch z) h
 |@dK a kvs O=>
  cases(show u=Value.ref a from q);obtain⟨_,_,vs,_,p⟩:=(I.za a _ O);obtain⟨o,o0,ep,Y,b0,_⟩:=p;exact Zh Mr I.rb ⟨o,Y,b0.1⟩ J e (λz=>nomatch z) h
 |@dT a kvs O=>
  cases(show u=Value.ref a from q);obtain⟨_,_,xs,_,o,o0,ep,Y,b0,_⟩:=(I.za a _ O);exact Zh Mr I.rb ⟨o,Y,b0.1⟩ J e (λz=>nomatch z) h
 |@ins a C B0 fs O e0 p0 q0 r0 s0=>
  cases(q);obtain⟨C0,t0,_⟩:=ko I.za O;obtain⟨od,u0,_⟩:=t0.look;exact Zh (W.kitx_own (e0.get _) e0.hd p0 q0 r0 s0) I.rb u0 J e (λz=>nomatch z) h
end My
namespace My
open PySem PySem.Spec PyProof.Rows L2
def off(H H':Hp):Hp:=λb=>if(H b).isSome=HQ then none else H' b
def Zm(H:Hp)(D:FQ):Hp:=λb=>if b=D then none else H b
def Ng(h:H b=none)(e:H' b=some o):off H H' b=some o:=by
 unfold off
 grind
def Rh(e:off H H' b=some o):H b=none/\H' b=some o:=by
 unfold off at e;split at e
 ·cases e
 ·next h=>
  refine⟨?_,e⟩;cases q:H b with
  |none=>rfl
  |some z=>grind
def NB(s:aa H q):aa (off q H') (off H H'):=λb o e=>Ng (by
 cases J:H b with
 |none=>rfl
 |some z=>have:=s _ _ J;rw[(Rh e).1]at this;cases this) (Rh e).2
def DJ{q J:Type}(f:q->Option J):∀(as:List q),(List.range as.length).filterMap (λi=>as[i]?.bind f)=as.filterMap f:=by
 intro as;have O:∀n,n<=as.length->(List.range n).filterMap (λi=>as[i]?.bind f)=(as.take n).filterMap f:=by
  intro n;induction n with
  |zero=>intro _;rfl
  |succ n Y=>
   intro h;rw[Nk,List.filterMap_append,Y (by lia),Oi,List.filterMap_append,Dc (by lia)]
   grind
 rw[O as.length (Ra _),sj]
def kl(e:Zm H D b=some o):b≠D/\H b=some o:=by
 unfold Zm at e
 grind
def OB(h:b≠D)(e:H b=some o):Zm H D b=some o:=by
 unfold Zm
 grind
end My
namespace My
open PySem PySem.W PyProof.Rows
def us1{q:Type}{us:List q}(h:us.length=1):∃a,us=[a]:=Be.mp h
def us2{q:Type}{us:List q}(h:us.length=2):∃a b,us=[a,b]:=by
 obtain⟨a,t,rfl⟩:=Mn h;obtain⟨b,rfl⟩:=us1 (Nn h)
 grind
def us3{q:Type}{us:List q}(h:us.length=3):∃a b c,us=[a,b,c]:=by
 obtain⟨a,t,rfl⟩:=Mn h;obtain⟨b,c,rfl⟩:=us2 (Nn h)
 grind
def us4{q:Type}{us:List q}(h:us.length=4):∃a b c d,us=[a,b,c,d]:=by
 obtain⟨a,t,rfl⟩:=Mn h;obtain⟨b,c,d,rfl⟩:=us3 (Nn h)
 grind
def us5{q:Type}{us:List q}(h:us.length=5):∃a b c d e,us=[a,b,c,d,e]:=by
 obtain⟨a,t,rfl⟩:=Mn h;obtain⟨b,c,d,e,rfl⟩:=us4 (Nn h)
 grind
def EJ{q:Type}{us:List q}(h:us.length=6):∃a b c d e f,us=[a,b,c,d,e,f]:=by
 obtain⟨a,t,rfl⟩:=Mn h;obtain⟨b,c,d,e,f,rfl⟩:=us5 (Nn h)
 grind
end My
namespace My
open PySem PySem.SetTable
def LS(mask:Nat)(h:Int):Nat->Nat×Nat
 |0=>(bits h%(mask+1),bits h)
 |r+1=>leap mask (LS mask h r).1 (LS mask h r).2
def rl(mask i:Nat):Nat:=runEnd mask i-i
def FJ(mask:Nat):Prop:=mask=7\/mask=31\/mask=127\/mask=511\/mask=2047
def Ps(mask:Nat)(h:Int)(r k:Nat):Nat:=(LS mask h r).1+k
def GJ(mask:Nat)(h:Int)(ok:Nat->Prop)(r k:Nat):Prop:=(∀J,J<r->∀q,q<=rl mask (LS mask h J).1->ok (Ps mask h J q))/\∀q,q<k->ok (Ps mask h r q)
structure TT(t:SetTable)(es:List (Int×EQ)):Prop where
 size:FJ t.mask
 up:Rf t.place
 nd:t.dummies=#[]
 within:∀j∈t.place.toList,j<=t.mask
 len:t.place.toList.length=es.length
 wQ:∀j e,(j,e)∈t.place.toList.zip es->∃r k,k<=rl t.mask (LS t.mask e.1 r).1/\Ps t.mask e.1 r k=j/\GJ t.mask e.1 (·∈t.place.toList) r k
def TT.ok(T:TT t q):Nc t:=⟨T.up,T.nd⟩
end My
namespace My
open PySem PySem.Spec PyProof.Rows L2 PyProof PySem.SeqAt
def Gq(h h':NQ):Prop:=∀b o xs n,h.get? b=some o->o.cls=.type "tuple"->o.data=.seq xs n->h'.get? b=some o
structure QB(K:Type)[DecidableEq K]where
 is:NQ->K->EQ->Prop
 hash:K->Int
 d:Nat
 inj:∀{h:NQ}{x y:K}{v:EQ},is h x v->is h y v->x=y
 keep:∀{h h':NQ}{k:K}{v:EQ},is h k v->Gq h h'->is h' k v
 pyHash:∀{prog:MQ}{w:PQ}{A:OQ}{E:EQ->GQ->Prop}{s:GQ}{k:K}{v:EQ}{Q:Int->GQ->Prop},A.units+d<yR->is s.heap k v->(∀tk,Q (hash k) {s with toks:=tk})->wpAny (KQ prog w) A (PySem.pyHash v) Q E s
 eq:∀{A:OQ}{s:GQ}{x y:K}{u v:EQ},A.units+d<yR->is s.heap x u->is s.heap y v->EqAt A s u v (decide (x=y))
 quiet:∀{prog:MQ}{w:PQ}{A:OQ}{E:EQ->GQ->Prop}{s:GQ}{k:K}{v:EQ}{Q:Bool->GQ->Prop}(n:Nat),d<=n->is s.heap k v->Q HQ s->wpAny (KQ prog w) A (eqIsQuiet n v) Q E s
 cls:∀{prog:MQ}{w:PQ}{A:OQ}{E:EQ->GQ->Prop}{s:GQ}{k:K}{v:EQ}{Q:Bool->GQ->Prop}(n:Nat),d<=n->is s.heap k v->Q IQ s->wpAny (KQ prog w) A (ofAClassStatement n v) Q E s
 byv:∀{prog:MQ}{w:PQ}{A:OQ}{E:EQ->GQ->Prop}{s:GQ}{k:K}{v:EQ}{Q:Bool->GQ->Prop}(n:Nat),d<=n->is s.heap k v->Q HQ s->wpAny (KQ prog w) A (hashByValue n v) Q E s
def QB.int:QB Int where
 is:=λ_ k v=>∃t,v=.int k t
 hash:=hashInt
 d:=0
 inj:=by grind
 keep:=λx _=>x
 pyHash:=λ_⟨t,e⟩h=>by subst e;exact wpAny_pyHash_int (h _)
 eq:=λ_⟨t,e⟩⟨t',q⟩prog w E Q h=>by subst e;subst q;exact wpAny_eqBool_int h
 quiet:=λn _⟨t,e⟩h=>by
  subst e;rw[eqIsQuiet_byValue n rfl];exact Aa h
 cls:=λn _⟨t,e⟩h=>by
  subst e;unfold ofAClassStatement;exact Aa h
 byv:=λn _⟨t,e⟩h=>by
  subst e;unfold hashByValue;exact Aa h
open PySem.W
section
variable{X:Cx}{pins:List (FQ×bR)}{σ:L2.St}{H:Hp}{s:GQ}
def RB:∀{l:List O}{m:List q}{i:Nat}{b:q},Paired F l m->m[i]?=some b->∃a,l[i]?=some a/\F a b:=by
 intro _ _ i _ h e;induction h generalizing i with
 |nil=>simp at e
 |cons r t J=>cases i with
  |zero=>grind
  |succ i=>
   obtain⟨a,Y,f⟩:=J (i:=i) (by simpa using e)
   grind
end
abbrev Tk:=Int×Int×Int
def KN(H H':Hp):Prop:=∀b o,(∀xs,o≠HO.lst xs)->H b=some o->H' b=some o
def KN.of(s:aa H H'):KN H H':=λb o _ e=>s b o e
def KN.trans(a:KN A B)(b:KN B C):KN A C:=λx o n e=>b x o n (a x o n e)
def KN.but(h:H D=some (.lst ys))(k:∀b o,b≠D->H b=some o->H' b=some o):KN H H':=λb o n e=>k b o (λz=>by grind) e
def KN.upd(h:H D=some (.lst ys)):KN H (upd H D o):=KN.but h λb o n e=>by rw[ka n];exact e
def Hq:∀{xs:List q}{bs:List J}{x:q}{b:J},Paired F xs bs->F x b->Paired F (xs++[x]) (bs++[b]):=by
 intro _ _ _ _ h O;induction h with
 |nil=>exact .cons O .nil
 |cons r t Y=>exact .cons r Y
def UB{g0 fs:L2.St}(G:Hp->V->l0->Prop)(h0:Nat->Hp->V->Prop)(n:Nat)(f:Nat->Option l0)(c0:∀H H' y b,KN H H'->G H y b->G H' y b)(n0:g0=List.replicate k none++fs)(hz:n<=JQ)
  (o0:∀i H,aa O H->i<n->d0.go i H)(p0:∀H,aa O H->d0.stop n H)(q0:∀i H v H',aa O H->i<n->d0.pe i H v H'->H'=H/\h0 i H v)
  (step:∀i,i<n->∀H(a0:L2.St)v(R:Option V->L2.St->Hp->Prop),aa O H->a0.length=k->h0 i H v->(∀b y(J:L2.St)q,f i=some b->J.length=k->aa H q->G q y b->R (some y) (J++fs) q)->(f i=none->∀(J:L2.St)q,J.length=k->aa H q->R none (J++fs) q)->
   g v (a0++fs) H λb0 r0=>s0 b0 r0 λok q=>if ok=HQ then t0 b0 q λy H4=>R (some y) b0 H4 else R none b0 q)
  (fin:∀D H' ys,O D=none->aa O H'->H' D=some (.lst ys)->Paired (G H') ys ((List.range n).filterMap f)->Q (.ref D) H'):dj g0 d0 g s0 t0 Q O:=by
 refine wq n (λ_ i ys H=>Paired (G H) ys ((List.range i).filterMap f)) n0 hz o0 p0 (λ_ i _ _ p=>pf p▸Gw f i) (λ_ _=>.nil) (λD i H ys a0 v H' R u0 i0 j0 hi v0 y a b=>?_) fin;obtain⟨rfl,hv⟩:=q0 i H v H' j0 hi y;refine step i hi H' a0 v R j0 v0 hv (λc y J q e0 f0 Y w0=>a y J q f0 Y ?_) λe0 J q f0 Y=>b J q f0 Y ?_
 ·have k0:KN q (upd q D (.lst (ys++[y]))):=KN.upd (Y _ _ u0);rw[show(List.range (i+1)).filterMap f=(List.range i).filterMap f++[c]by simp[Nk,e0]];exact Hq (Paired.ib i0 λ_ _ z=>c0 _ _ _ _ ((KN.of Y).trans k0) z) (c0 _ _ _ _ k0 w0)
 ·rw[show(List.range (i+1)).filterMap f=(List.range i).filterMap f by simp[Nk,e0]];exact Paired.ib i0 λ_ _ z=>c0 _ _ _ _ (KN.of Y) z
def sg{d0 fs:L2.St}{K:W.Frag}(G:Hp->V->i0->Prop)(F:Hp->V->e0->Prop)(as:List e0)(f:e0->Option i0)(j0:∀H H' y b,KN H H'->G H y b->G H' y b)(u0:∀H H' y b,aa H H'->F H y b->F H' y b)(k0:d0=List.replicate k none++fs)
  (c0:O l=some (.lst xs))(f0:Paired (F O) xs as)(hz:as.length<=JQ)
  (step:∀a,a∈as->∀H(a0:L2.St)v(R:Option V->L2.St->Hp->Prop),aa O H->a0.length=k->F H v a->(∀b y(Y:L2.St)q,f a=some b->Y.length=k->aa H q->G q y b->R (some y) (Y++fs) q)->(f a=none->∀(Y:L2.St)q,Y.length=k->aa H q->R none (Y++fs) q)->
   g v (a0++fs) H λb0 l0=>n0 b0 l0 λok q=>if ok=HQ then o0 b0 q λy H4=>R (some y) b0 H4 else R none b0 q)
  (fin:∀D H' ys,O D=none->aa O H'->H' D=some (.lst ys)->Paired (G H') ys (as.filterMap f)->Q (.ref D) H'):dj d0 (Wi K l) g n0 o0 Q O:=by
 have v0:=pf f0;refine UB G (λi H v=>∃a,as[i]?=some a/\F H v a) as.length (λi=>as[i]?.bind f) j0 k0 hz (λi H J hi=>(zo (ja.of (J _ _ c0))).go i (by lia)) (λH J=>(zo (ja.of (J _ _ c0))).stop _ (by lia)) ?_ ?_ λD H' ys p0 J q0 g0=>fin D H' ys p0 J q0 (by rw[DJ]at g0;exact g0)
 ·rintro i H v H' J hi⟨rfl,r0⟩;have e:=r0 xs (ja.of (J _ _ c0));obtain⟨a,s0,h0⟩:=Xj f0 e
  grind
 ·rintro i hi H a0 v R J t0⟨a,s0,h0⟩w0 x0;refine step a (by grind) H a0 v R J t0 h0 (by grind) (by grind)
abbrev TB:=L2.St->Hp->(Hp->Prop)->XK->Prop
structure PB(X:Cx)(body:List gR)(t:TB):Prop where
 run:∀(pins:List (FQ×bR))(s:GQ)(σ:L2.St)(H:Hp)(Q:Hp->Prop)(E:XK),Inv X pins σ H s->t σ H Q E->wpAny (KQ X.prog X.w) X.A (execs body X.env) (λf s'=>f=.next/\∃H',Inv X pins σ H' s'/\Q H') (λe s'=>∃H1 s1,Inv X pins σ H1 s1/\Xe X.prog X.w X.stack H1 s1 E e s') s
section
variable{X:Cx}
def HJ{k:Nat}{h0 g0:FQ}{i0:XQ}{ps:List Str}{sp:Sp}{m:Str}{o J:SQ}{as:List SQ}{j0:TE}{t:TA}{c0 q k0:jR}{pl:Sem Bool}
  (u0:PE X.dh o j0)(v0:Cls X.K g0)(l0:Lc X.K g0 m h0)(F:Kb X.prog X.w X.K X.mg X.base (Xe X.prog X.w) k h0 i0 ps sp)(w0:Wa k X.A)(x0:Wc X.K i0 ps [])(y0:PA X.dh (J::as) t)
  (z0:LQ (J::as) X.env=(IQ,RQ J X.env)::LQ as X.env:=by rfl)(A0:(VQ q (LQ as X.env)).any (·.1)=IQ:=by rfl)
  (B0:RQ (.Call (.Attribute o m c0) (J::as) [] q) X.env=(do
   let ov<-RQ o X.env
   qR c0.atName
   let(f,first)<-zR [ov] (mR ov m pl)
   sR q f first (VQ q (LQ (J::as) X.env)) (dR q (TQ [] X.env))):=by rfl)
  (C0:kR (.Call (.Attribute o m c0) (J::as) [] q) none k0.line X.env=pure IQ:=by rfl):
  PB X [.Expr (.Call (.Attribute o m c0) (J::as) [] q) k0] (λO H Q E=>j0 O H λx Y=>∃a n0 fs,x=.ref a/\Y a=some (.ins g0 n0 fs)/\fs.lookup m=none/\t O Y λvs a0=>sp (x::vs) a0 (λ_ o0=>Q o0) E):=by
 refine⟨λd0 s O H Q E I h=>?_⟩;refine oS (wpAny_Expr_any ?_ I.quiet C0);refine vm (pl:=pl) (Kc (u0 d0 s O H _ (I.yd _) h) (?_) λ_ _ z=>z.elim) B0;rintro u s1⟨x,Y,D0,F0,a,n0,fs,ex,G0,l,H0⟩;have p0:Inv X d0 O Y s1:=D0.Jb;subst ex;obtain rfl:u=Value.ref a:=F0;refine no p0 G0 v0 l0 l ?_;refine lm (first:=[.ref a]) (h₀:=X.base) I.ok.mod.ki l0.kp (Kc (y0 q d0 s1 O Y _ (p0.yd _) H0) (?_) λ_ _ z=>z.elim) z0 A0;rintro us e0⟨vs,a0,q0,r,r0⟩;refine⟨q0.rb,?_⟩;have f0:Inv X d0 O a0 e0:=q0.Jb;have s0:Oa (V.ref a::vs) (Value.ref a::us):=.cons rfl r;have J0:(Value.ref a::us).length=ps.length:=by rw[<-s0.length];exact F.len _ _ _ _ r0
 have t0:=x0 e0 (.ref a::us) f0.rb (by grind);rw[Vn]at t0;refine fi (zg (F.run X.A X.stack e0 a0 ⟨.ref a::us,[]⟩ (.ref a::us) (.ref a::vs) _ _ w0 f0.si t0 s0 r0) λres s' b0=>?_);cases res with
 |ok I0=>
  cases I0 with
  |ret u=>
   obtain⟨v,o0,K0,L0,M0⟩:=f0.after b0;exact Pp (by grind)
  |next=>exact False.elim b0
  |brk=>exact False.elim b0
  |cont=>exact False.elim b0
 |error e=>exact nx5 a0 e0 f0 b0
def VB{ho:FQ->FQ->Option FQ->HO}{n:Str}{j:Nat}{p0:gR}{q0:List gR}{r0:TS}{s0:jR}{d0:List (FQ×bR)}{h0:L2.St}{t0 H':Hp}{s1 s':GQ}{D:Se}{q C:FQ}{d:Option FQ}{u0:EQ}{B i0 e0:NQ}{k0:bR}
  (l0:Inv X d0 h0 t0 s1)(os:s'.os=s1.os)(C0:oR s'.gens)(un:Un (gc X.stack) [] t0 H' s1.heap s'.heap)(D0:fc X.prog X.w H' s'.heap)
  (bk:∀b o,s'.heap.get? b=some o->(s1.heap.get? b≠none\/H' b≠none)->b∉gc X.stack->B.get? b=some o)(v0:H' q=none)(F0:s1.heap.get? q=none)(G0:s'.heap.get? q=some k0)(m1:k0.dict=d)
  (H0:∀b∈gc X.stack,∃o,s'.heap.get? b=some o/\∀vs,o.data≠.fields vs)(I0:s'.heap.UpToSlots i0)(J0:DK s'.heap i0)(K0:Heap.FlyingW B (X.env::X.outer) q (.ref C) u0 e0)(L0:i0.UpToSlots e0)(M0:DK i0 e0)
  (N0:∀q,H' q=none->r0 (wo j D) (h0.set j (some (.ref q))) (upd H' q (ho q C d)))
  (f0:X.N.Nodup)(g0:X.N[j]?=some n)(c0:X.env.scope.names.lookup n=some .local)
  (O0:∀q,oe (Oh X q) (p0::q0) r0)(Q0:∀(H:Hp)(h:NQ)(q C:FQ)(d:Option FQ),Tj q C d h->Fb X.prog X.w H h q (ho q C d)):
  codeAny (KQ X.prog X.w) (X.A.mark (some (.ref q))) (.handlers (.ref q) [.ExceptHandler none (some n) (p0::q0) s0] X.env) (λr w0=>match r with
     |.ok f=>wpAny (KQ X.prog X.w) X.A (do bindName X.env n .none;unbindBehindTheSuite X.env n s0) (λ_ R0=>SP X d0 D f R0) X.xe w0
     |.error x=>cameBackBy (KQ X.prog X.w) X.A X.env X.xe x w0) {s' with heap:=e0}:=by
 refine codeAny_handlers_suite_as ?_;refine Kc (tq (qw _ _) (lands_againW (Q:=λ_ x0=>∃J,x0={s' with heap:=J}/\Heap.FlyingW B (X.env::X.outer) q (.ref C) u0 J/\e0.UpToSlots J) K0 (by grind))) (?_) λ_ _ z=>z.1
 rintro _ x0⟨⟨J,S0,y0,U0⟩,V0⟩;subst S0;obtain⟨W0,n1,z0,X0,Y0,_⟩:=y0.first;have Z0:Tj q C d J:=by
  obtain⟨a1,b1,o1⟩:=J0 q k0 G0;obtain⟨d1,e1,p1⟩:=M0 q a1 b1;obtain⟨f1,g1,q1⟩:=V0 q d1 e1;have A0:J.get? q=some f1:=g1;rw[z0]at A0;cases A0;exact⟨W0,z0,X0,by unfold W.notCls;rw[Y0],by grind⟩
 obtain⟨h1,i1,_,_⟩:=sw l0 un D0 bk y0.1 ((I0.trans L0).trans U0) H0;have B0:Inv X d0 h0 H' {s' with heap:=J}:=l0.Df (s':={s' with heap:=J}) os h1 i1 C0 (by grind);have j1:Inv X d0 h0 (upd H' q (ho q C d)) {s' with heap:=J}:=Ss l0 B0 F0 v0 (Q0 _ _ _ _ _ Z0);refine Ev (X:=Oh X q) (i:=j) (v:=.ref q) (Ls j1 q) f0 g0 (.inl c0) rfl (λr1 k1=>?_) (.inr c0);refine Kc (O0 q d0 _ _ _ (wo j D) k1 (N0 q v0)) (λl1 t1 z=>?_) λ_ _ z=>z.elim
 have j0:=XG B0.ok z;cases l1 with
 |next=>obtain⟨n0,O,Y,a0⟩:=j0;exact Rs Y f0 g0 c0 λo0 b0=>⟨_,O,b0,a0⟩
 |brk=>obtain⟨n0,O,Y,a0⟩:=j0;exact Rs Y f0 g0 c0 λo0 b0=>⟨_,O,b0,a0⟩
 |cont=>obtain⟨n0,O,Y,a0⟩:=j0;exact Rs Y f0 g0 c0 λo0 b0=>⟨_,O,b0,a0⟩
 |ret u=>obtain⟨v,n0,O,Y,r,a0⟩:=j0;exact Rs Y f0 g0 c0 λo0 b0=>⟨v,_,O,b0,r,a0⟩
def IJ{ho ho2:FQ->FQ->Option FQ->HO}{S s0:FQ}{c c0 n:Str}{j:Nat}{t0 u0:gR}{v0 w0:List gR}{x0 y0:TS}{R0 S0 U0 V0:jR}{h0:List (FQ×bR)}{d0:L2.St}{z0:Hp}{s1 s':GQ}{D:Se}{e:EQ}
  (Y:Inv X h0 d0 z0 s1)(W0:Xe X.prog X.w X.stack z0 s1 (λcls d e0=>∃C,cls=.ref C/\((W.subIn X.K (.ref C) (.ref S)=some HQ/\∀q,e0 q=none->x0 (wo j D) (d0.set j (some (.ref q))) (upd e0 q (ho q C d)))\/
   (W.subIn X.K (.ref C) (.ref S)=some IQ/\W.subIn X.K (.ref C) (.ref s0)=some HQ/\∀q,e0 q=none->y0 (wo j D) (d0.set j (some (.ref q))) (upd e0 q (ho2 q C d))))) e s')
  (T:e4r X.K X.mg c S)(A0:Gl X c)(f0:e4r X.K X.mg c0 s0)(X0:Gl X c0)(B0:X.N.Nodup)(C0:X.N[j]?=some n)(D0:X.env.scope.names.lookup n=some .local)(F0:X.stack=X.env::X.outer)(Y0:X.env.frame=some X.env.locals)
  (Z0:∀q,oe (Oh X q) (t0::v0) x0)(a1:∀q,oe (Oh X q) (u0::w0) y0)(b1:∀(H:Hp)(h:NQ)(q C:FQ)(d:Option FQ),Tj q C d h->Fb X.prog X.w H h q (ho q C d))(d1:∀(H:Hp)(h:NQ)(q C:FQ)(d:Option FQ),Tj q C d h->Fb X.prog X.w H h q (ho2 q C d))
  (G0:(c==("__debug__":Str))=IQ)(e1:(c0==("__debug__":Str))=IQ):
  wpAny (KQ X.prog X.w) X.A (noteFrame e X.env) (λ_ f1=>wpAny (KQ X.prog X.w) X.A (setFlight e none) (λ_ g1=>wpAny (KQ X.prog X.w) X.A (handleBy e X.env [.ExceptHandler (some (.Name c R0)) (some n) (t0::v0) U0,.ExceptHandler (some (.Name c0 S0)) (some n) (u0::w0) V0]) (SP X h0 D) X.xe g1) X.xe f1) X.xe s':=by
 obtain⟨q,cls,H0,B,H',d,rfl,os,i0,un,j0,I0,bk,J0,K0,⟨q1,L0,M0⟩,C,h1,i1⟩:=W0;subst h1;have N0:=I0;rw[F0]at N0;have k0:∀b∈gc X.stack,∃o,s'.heap.get? b=some o/\∀vs,o.data≠.fields vs:=λb j1=>(I0.2.2.1.mem j1).2
 refine Kc (tq (uA _ _) (wpAny_looks_onW (Q:=λ_ a0=>∃b0,a0={s' with heap:=b0}/\Heap.HeldW B (X.env::X.outer) q (.ref C) H0 X.env.locals b0/\s'.heap.UpToSlots b0) (by rw[Y.ok.frames,F0]) Y0 N0 (by grind))) (?_) λ_ _ z=>z.1
 rintro _ a0⟨⟨b0,k1,l1,l0⟩,O0⟩;subst k1;refine Kc (tq (qw _ _) (wpAny_landsW (Q:=λ_ a0=>∃J,a0={s' with heap:=J}/\Heap.FlyingW B (X.env::X.outer) q (.ref C) H0 J/\b0.UpToSlots J) l1 (by grind))) (?_) λ_ _ z=>z.1
 rintro _ a0⟨⟨J,m1,g0,n0⟩,Q0⟩;subst m1;obtain⟨ob,o0,p0⟩:=g0.there;obtain⟨n1,o1,_,_⟩:=sw Y un j0 bk g0.1 (l0.trans n0) k0;have O:Inv X h0 d0 H' {s' with heap:=J}:=Y.Df (s':={s' with heap:=J}) os n1 o1 i0 (by grind);rcases i1 with⟨q0,r0⟩|⟨q0,p1,r0⟩
 ·refine XR (JR (Ti (X:=Oh X q) (Ls O q) A0 T.bound ?_ G0)) (by intro z;cases z);refine uw (K:=X.K) O.rb o0 p0 T.ty T.it T.mB q0 ?_;exact VB (ho:=ho) Y os i0 un j0 bk J0 K0 L0 M0.1 k0 l0 O0 g0 n0 Q0 r0 B0 C0 D0 Z0 b1
 ·refine XR (JR (Ti (X:=Oh X q) (Ls O q) A0 T.bound ?_ G0)) (by intro z;cases z);refine uw (K:=X.K) O.rb o0 p0 T.ty T.it T.mB q0 ?_;refine XR (JR (Ti (X:=Oh X q) (Ls O q) X0 f0.bound ?_ e1)) (by intro z;cases z);refine uw (K:=X.K) O.rb o0 p0 f0.ty f0.it f0.mB p1 ?_;exact VB (ho:=ho2) Y os i0 un j0 bk J0 K0 L0 M0.1 k0 l0 O0 g0 n0 Q0 r0 B0 C0 D0 a1 d1
def JJ{ho ho2:FQ->FQ->Option FQ->HO}{a0 b0 c0 d0 e0:jR}
  (f0:PB X g0 h0)(T:e4r X.K X.mg c S)(i0:Gl X c)(j0:e4r X.K X.mg Y k0)(l0:Gl X Y)(n0:X.N.Nodup)(o0:X.N[j]?=some n)(p0:X.env.scope.names.lookup n=some .local)(q0:X.stack=X.env::X.outer)(r0:X.env.frame=some X.env.locals)
  (s0:∀q,oe (Oh X q) (t0::u0) v0)(w0:∀q,oe (Oh X q) (x0::y0) z0)(A0:∀(H:Hp)(h:NQ)(q C:FQ)(d:Option FQ),Tj q C d h->Fb X.prog X.w H h q (ho q C d))(B0:∀(H:Hp)(h:NQ)(q C:FQ)(d:Option FQ),Tj q C d h->Fb X.prog X.w H h q (ho2 q C d))
  (C0:(c==("__debug__":Str))=IQ:=by decide)(D0:(Y==("__debug__":Str))=IQ:=by decide):
  PS X (.Try g0 [.ExceptHandler (some (.Name c a0)) (some n) (t0::u0) c0,.ExceptHandler (some (.Name Y b0)) (some n) (x0::y0) d0] [] [] e0)
   (λD O H=>h0 O H (λJ=>D.nx O J) (λcls d J=>∃C,cls=.ref C/\((W.subIn X.K (.ref C) (.ref S)=some HQ/\∀q,J q=none->v0 (wo j D) (O.set j (some (.ref q))) (upd J q (ho q C d)))\/
    (W.subIn X.K (.ref C) (.ref S)=some IQ/\W.subIn X.K (.ref C) (.ref k0)=some HQ/\∀q,J q=none->z0 (wo j D) (O.set j (some (.ref q))) (upd J q (ho2 q C d)))))):=by
 constructor;intro F0 s O H D I h;refine wpAny_Try_except (Kc (f0.run F0 s O H _ _ I h) (λf s' ⟨e,J,G0,H0⟩=>?_) λe s' ⟨K0,s1,I0,J0⟩=>?_)
 ·subst e;exact Pp ⟨_,J,G0,H0⟩
 ·exact IJ (ho:=ho) (ho2:=ho2) I0 J0 T i0 j0 l0 n0 o0 p0 q0 r0 s0 w0 A0 B0 C0 D0
end
end My
namespace My
open PySem PySem.Spec PyProof.Rows L2 PyProof
open Sem(wp)
set_option maxRecDepth 100000
def KJ(l:FQ)(J:Array EQ)(n:Nat)(t:Tok):
  Meets (Builtin.«enumerate.__new__» ⟨[.type "enumerate",.ref l],[("start",.int 1 t)]⟩) (λ_ R s=>s.heap.get? l=some {cls:=.type "list",dict:=none,data:=.seq J n,slots:=#[]}/\
   R (.ok (.ret (.ref (s.heap.push {cls:=.type "list_iterator",data:=.fields #[.ref l,.int 0 0]}).objs.size)))
    {s with heap:=(s.heap.push {cls:=.type "list_iterator",data:=.fields #[.ref l,.int 0 0]}).push {cls:=.type "enumerate",data:=.fields #[.none,.bool IQ,.ref s.heap.objs.size,eR 1,.none,.none]}}):=
 .of_wp λprog w A R s h=>by
  obtain⟨Y,g,d,a0,os⟩:=s;obtain⟨q,h⟩:=h;have b0:=sub_enumerate;have O:Heap.IsList (Shared.heap ⟨Y,g,d,a0,os⟩) l J:=⟨_,q,rfl,n,rfl⟩;wp_walk using vS q
  refine wpAny_stack_any λst=>Aa ?_
  split
  ·rename_i c _ _ _ _ _;cases(c==Value.type "enumerate")<;>(wp_walk using vS q,rm O;exact⟨_,rfl,h⟩)
  ·wp_walk using vS q,rm O
   exact⟨_,rfl,h⟩
def LJ{T q:String}{self a:EQ}{rest:List EQ}{kw:List (Str×EQ)}(Y:aS (.type T) "__init__"=pure (some (.builtin "object.__init__")))
  (a0:Bind.madeBy (.type T)=pure (some q))(b0:(some q !=some "object.__new__")=HQ):
  Meets (Builtin.«object.__init__» ⟨self::a::rest,kw⟩) (λ_ R s=>s.TypeIs self T/\R (.ok (.ret .none)) s):=by
 refine Meets.of_wp λprog w A R s J=>?_
 obtain⟨c0,O⟩:=J;repeat(any_goals(first|assumption|wp_step))
 exact⟨_,rfl,O⟩
def MJ(a b:EQ):checkTypeCall "enumerate" ⟨[a],[("start",b)]⟩=pure ():=by kernel_rfl
def NJ(a b:EQ):uR "enumerate.__new__" ⟨[.type "enumerate",a],[("start",b)]⟩=pure ():=by kernel_rfl
def OJ(o a b:EQ):KS "object.__init__" ⟨[o,a],[("start",b)]⟩:=by
 unfold KS;rw[OS (id:="object.__init__") (n:=['_','_','t','i','n','i','_','_']) (o:=['t','c','e','j','b','o']) (by kernel_rfl) F.owner_object];kernel_rfl
section
variable{prog:MQ}{w:PQ}{A:OQ}{E:EQ->GQ->Prop}{s:GQ}
def PJ
  (e0:s.heap.get? l=some {cls:=.type "list",dict:=none,data:=.seq f0 n,slots:=#[]})
  (h:∀h',IsEnum h' (s.heap.objs.size+1) s.heap.objs.size 1 .none->h'.IsListIter s.heap.objs.size l 0->(∀b o,s.heap.get? b=some o->h'.get? b=some o)->Q (.ref (s.heap.objs.size+1)) {s with heap:=h'}):
  wpAny (KQ prog w) A (call (.type "enumerate") [.ref l] [("start",.int 1 t)]) Q E s:=by
 have q:=F.called_enumerate;obtain⟨c,j0,k0⟩:=q.mro;have l0:=q.made;have n0:=q.sub;refine fi (Lp ?_);show wpAny _ _ (callAny (.type "enumerate") _) _ _ _;refine Aa ⟨Ir _ (by decide+kernel),Bh F.entry_type_call ?_⟩;rw[Around.under_plain (weight_type_call_type "enumerate" _ _) (units_type_call_type "enumerate" _ _)];have o0:=q.notType;have p0:=q.canCreate;have q0:=MJ (.ref l) (.int 1 t);repeat(any_goals(first|assumption|wp_step))
 have hz:(s.heap.push {cls:=.type "list_iterator",data:=.fields #[.ref l,.int 0 0]}).objs.size=s.heap.objs.size+1:=Gk ..;refine zg (km q.plain F.entry_enumerate_new (om (NJ (.ref l) (.int 1 t)) (KJ l f0 n t prog w A.in1 (wants (λobj J=>obj=.ref (s.heap.objs.size+1)/\IsEnum J.heap (s.heap.objs.size+1) s.heap.objs.size 1 .none/\Q obj J) E) s ⟨e0,?_⟩))) λr J Y=>?_
 ·show _/\_/\_;rw[hz];have O:IsEnum ((s.heap.push {cls:=.type "list_iterator",data:=.fields #[.ref l,.int 0 0]}).push
    {cls:=.type "enumerate",data:=.fields #[.none,.bool IQ,.ref s.heap.objs.size,eR 1,.none,.none]}) (s.heap.objs.size+1) s.heap.objs.size 1 .none:=by
   have:=ec (s.heap.push {cls:=.type "list_iterator",data:=.fields #[.ref l,.int 0 0]})
    (o:={cls:=.type "enumerate",data:=.fields #[.none,.bool IQ,.ref s.heap.objs.size,eR 1,.none,.none]}) rfl
   rw[hz]at this;exact this
  exact⟨rfl,O,h _ O ⟨_,Xa _ (ec _ rfl),rfl,rfl⟩ λb o x=>Xa _ (Xa _ x)⟩
 cases r with
 |error e=>exact Y
 |ok g0=>
  cases g0 with
  |ret obj=>
   obtain⟨rfl,O,b0⟩:=Y;have c0:J.TypeIs (.ref (s.heap.objs.size+1)) "enumerate":=⟨_,O,rfl⟩;have r0:=q.init.lookup;have s0:=q.init.bind (.ref (s.heap.objs.size+1));repeat(any_goals(first|assumption|wp_step))
   refine zg (km q.init.plain F.entry_object_init (q.init.check _ _ _ _ _ _ _ _ c0 (OJ _ _ _) ((LJ q.init.lookup q.made (by decide)) prog w A.in1 (wants (λr d0=>r=.none/\Q (.ref (s.heap.objs.size+1)) d0) E) J ⟨c0,rfl,b0⟩))) λh0 d0 a0=>?_
   cases h0 with
   |error e=>exact a0
   |ok i0=>
    cases i0 with
    |ret r=>
     obtain⟨rfl,b0⟩:=a0;repeat(any_goals(first|assumption|wp_step))
    |_=>exact a0.elim
  |_=>exact Y.elim
end
abbrev WB(K:W.Frag)(a:FQ):It:=Jw K a λi=>(i:Int)+1
section
variable{M:Model}{A:OQ}{E:EQ->GQ->Prop}{s:GQ}{env:VR}
def QJ{pos:jR}{T:String}{e:SQ}{rest:List SQ}{q:List TR}{Q:EQ->GQ->Prop}
  (h:wpAny M A (YS (VQ pos (LQ (e::rest) env))) (λvs J=>wpAny M A (aT ((dR pos (TQ q env)).map (·.2)))
   (λkvs O=>wpAny M A (call (.type T) vs (((dR pos (TQ q env)).filterMap (·.1)).zip kvs)) Q E O) E J) E s)
  (Y:VQ pos (LQ (e::rest) env)=(IQ,RQ e env)::VQ pos (LQ rest env):=by rfl)
  (a0:(VQ pos (LQ (e::rest) env)).any (·.1)=IQ:=by rfl)(b0:(dR pos (TQ q env)).all (·.1.isSome)=HQ:=by rfl)(c0:(dR pos (TQ q env)).any (·.1.isNone)=IQ:=by rfl):
  wpAny M A (sR pos (.type T) [] (VQ pos (LQ (e::rest) env)) (dR pos (TQ q env))) Q E s:=by
 have d0:wpAny M A (evalArgs (.type T) HQ (VQ pos (LQ (e::rest) env)) (dR pos (TQ q env))) (λa J=>wpAny M A (call (.type T) ([]++a.pos) a.kw) Q E J) E s:=by
  rw[Y]at h⊢;exact evalArgs_kwB b0 h
 unfold sR;refine ba (eg (Kc d0 (λa J e0=>ba (yk ?_)) λ_ _ x=>x));simp only[a0,c0,Bool.or_false];refine ba (Aa ?_);exact ba (Kc e0 (λr O f0=>ba (eg (wpAny_point (Aa f0)))) λ_ _ x=>x)
end
section
variable{X:Cx}
def RJ(K:W.Frag)(O Y:TA):TI:=λq H R=>O q H λvs a0=>Y q a0 λb0 J=>∃a xs,vs=[.ref a]/\b0=[.int 1]/\J a=some (.lst xs)/\R (WB K a) J
def SJ{a d:SQ}{d0 e0:TA}{p J f0:jR}{i0:List SQ}{j0:Nat}{k0:jR}(l0:Gl X "enumerate")(n0:X.mg "enumerate"=none)(o0:PA X [a] d0)(p0:PK X [⟨some "start",d,f0⟩] e0)
  (Y:VQ J (LQ [a] X.env)=(IQ,RQ a X.env)::VQ J (LQ [] X.env):=by rfl)(q0:(VQ J (LQ [a] X.env)).any (·.1)=IQ:=by rfl):
  PI X (.Tuple i0 j0 k0) (.Call (.Name "enumerate" p) [a] [⟨some "start",d,f0⟩] J) (RJ X.K d0 e0):=by
 constructor;intro a0 s b0 H R I h;refine bi (Jh I l0 n0 boot_enumerate ?_ (by decide) (by decide));refine QJ (Fa (o0 J a0 s b0 H _ I h) ?_) Y q0;rintro us s1⟨vs,r0,s0,t0,u0⟩;refine Fa (p0 J a0 s1 b0 r0 _ s0 u0) ?_;rintro C0 q⟨D0,c0,O,v0,w0⟩;obtain⟨l,xs,rfl,rfl,x0,y0⟩:=w0;obtain⟨u,rfl,z0⟩:=Gf t0;obtain⟨z,rfl,A0⟩:=Gf v0;cases z0;obtain⟨t,rfl⟩:=A0;obtain⟨z,F0,n,G0,e⟩:=(show Fb X.prog X.w c0 q.heap l (.lst xs)from O.za l _ x0);refine PJ e λh' Y hi k=>?_
 have B0:Inv X a0 b0 c0 {q with heap:=h'}:=O.kept (t':=q.toks) k;refine gS (s:={q with heap:=h'}) Y ⟨q.heap.objs.size+1,[q.heap.objs.size+1,q.heap.objs.size],_,WB X.K l,c0,rfl,B0,dB (d:=1) (λ_=>by lia) l _ _ (by grind),by grind,λb g0=>?_,y0⟩;have h0:q.heap.objs.size<=b:=by
  simp only[Mb,Tg,Vg]at g0;rcases g0 with z|z<;>(rw[z];first|exact wj _|exact Ra _)
 exact O.Ce h0 (O.za.fresh h0)
end
open PySem.W PySem.SeqAt
structure ug(k:Nat)(A:OQ):Prop where
 dp:A.depth+3*k+5<iR
 un:A.units+16*k+200<yR
def _root_.L2.Wa.m(r:Wa k A):ug k (A.mark x):=⟨r.dp,r.un⟩
def ug.mono(r:ug k A)(h:j<=k):ug j A:=⟨by have:=r.dp;lia,by have:=r.un;lia⟩
def ug.units(r:ug k A):A.units+64<yR:=by have:=r.un;lia
def ug.depth(r:ug k A):A.depth<iR:=by have:=r.dp;lia
def ug.deeper(r:ug (k+1) A)(env:VR):ug k (A.deeper env):=
 ⟨by have:=r.dp;show A.depth+1+3*k+5<_;lia,by have:=r.un;show A.units+3+16*k+200<_;lia⟩
structure Sh(P:MQ)(w:PQ)(K:W.Frag)(mg:Str->Option EQ)(base:NQ)(k:Nat)(f:FQ)(fd:XQ)(ps:List Str)(sp:Sp):Prop where
 len:∀vs H Q E,sp vs H Q E->vs.length=ps.length
 run:∀(A:OQ)(outer:List VR)(s:GQ)(H:Hp)(args:Args)(us:List EQ)(vs:List V)(Q:VK)(E:XK),ug k A->Yi P w K mg base A outer s H->WR s fd args (ps.zip us)->Oa vs us->sp vs H Q E->
  codeAny (KQ P w) A (.call (.ref f) args) (CR Qc outer P w H s Q E) s
section
variable{P:MQ}{w:PQ}{K:W.Frag}{mg:Str->Option EQ}{base:NQ}
def Sh.mono(F:Sh P w K mg base j f q ps sp)(h:j<=k):Sh P w K mg base k f q ps sp:=⟨F.len,λA outer s H args us vs Q E J=>F.run A outer s H args us vs Q E (J.mono h)⟩
def Sh.ok(F:Sh P w K mg base k f J ps sp):Kb P w K mg base Qc k f J ps sp:=⟨F.len,λA outer s H args us vs Q E q=>F.run A outer s H args us vs Q E ⟨q.dp,q.un⟩⟩
def XB(P:MQ)(w:PQ)(K:W.Frag)(mg:Str->Option EQ)(base:NQ)(N:List Str)(qual:Str)(scope:nR)(f:FQ)(cd:EQ)(A:OQ)(outer:List VR)(s:GQ)(H:Hp)(E:XK):Cx:=
 {(Pd Qc P w K mg base N qual scope f cd A outer s H E)with calm:=IQ,xe:=λ_ _=>False}
def TJ{N ps:List Str}{qual:Str}{scope:nR}{f:FQ}{cd:EQ}{A:OQ}{outer:List VR}{s s1:GQ}{H:Hp}{E:XK}{us:List EQ}{vs:List V}
  (S:Zi N ps scope)(q:Yi P w K mg base A outer s H)(J:vs.length=ps.length)(r:Oa vs us)
  (x:InCallC s s.heap.objs.size (RS (cR qual scope s.heap.objs.size f cd).kindOf (ps.zip us) λ_=>none) (sS (s.heap.objs.size+1) scope.names []) (SS (cR qual scope s.heap.objs.size f cd).kindOf (ps.zip us) λ_=>none) s1):
  Inv (XB P w K mg base N qual scope f cd A outer s H E) [] (start N vs) H s1:=by
 have O:Yi P w K mg base {A with handled:=none} outer s H:=⟨q.frames,q.mod,q.bs,q.Ih,q.Uc,q.Ri,q.za,q.bare⟩;have I:=Fz (CX:=Qc) (E:=E) S rfl O J r x;have ok:=I.ok;exact⟨⟨ok.mod,ok.kind,ok.glob,ok.blt,ok.above,ok.inj,ok.has,ok.wm,λz=>Bool.noConfusion z,Around.frames_deeper q.frames,ok.ao,ok.bo,ok.bs,ok.Ih,ok.hg,ok.ig,ok.Uc,ok.Ri⟩,I.os,I.bare,I.base,I.loc,I.cell,I.free,I.yb,I.pin,I.za,I.len⟩
def ot{x qual:Str}{st:gR}{f:FQ}{b0:XQ}{N ps:List Str}{k:Nat}{sp:Sp}(F:qg K x qual st f b0)(S:Zi N ps (ic st))(len:∀vs H Q E,sp vs H Q E->vs.length=ps.length)
  (f0:∀(Y:EQ)(A:OQ)(outer:List VR)(s:GQ)(H:Hp)(vs:List V)(Q:VK)(E:XK),ug k (A.deeper (cR qual (ic st) s.heap.objs.size f Y))->sp vs H Q E->
   ∃t,oe (XB P w K mg base N qual (ic st) f Y A outer s H E) (Qf st) t/\t {nx:=λ_ H'=>Q .ya H',rt:=Q} (start N vs) H):Sh P w K mg base (k+1) f b0 ps sp:=by
 obtain⟨t0,od,kV,u0,v0,w0,Y,ct,x0,rfl,lk,g0⟩:=F.ex;refine⟨len,λA outer s H args us vs Q E c0 a0 h0 r d0=>?_⟩;have i0:=len _ _ _ _ d0;have e0:K.In s.heap:=a0.mod.ki.keeps λb o e=>(a0.bs b o e).1
 have j0:s.heap.NoLimit:=a0.mod.nolimit.keeps λb o e=>(a0.bs b o e).1
 have k0:∀y∈ps.zip us,(ic st).names.lookup y.1=some .local\/((ic st).names.lookup y.1=some .cell/\((sS (s.heap.objs.size+1) (ic st).names []).lookup y.1).isSome=HQ):=λ⟨n,v⟩l0=>
  (S.par n (List.of_mem_zip l0).1).imp id λJ=>⟨J,W.cellsFrom_some _ _ _ (.inl J)⟩
 refine codeAny_call_function c0.depth (e0 _ _ lk) rfl S.co S.gen rfl (W.codeRec_of e0 g0) (h0 _ _ _ _ (BS S.kind k0 λenv n0 s1 x=>?_));subst n0;refine⟨j0.keeps x.toInCall.keep,codeAny_func ?_⟩;obtain⟨t,o0,p0⟩:=f0 Y A outer s H vs Q E (c0.deeper _) d0;have I:=TJ (qual:=qual) (f:=f) (cd:=Y) (E:=E) S a0 i0 r x;refine Kc (o0 [] s1 (start N vs) H _ I p0) (λq0 s' O=>?_) λe s' O=>O.elim
 cases q0 with
 |ret u=>obtain⟨v,r0,H',q,s0,J⟩:=O;exact⟨v,H',q.os,q.bare,q.base,q.za,s0,J⟩
 |next=>obtain⟨r0,H',q,J⟩:=O;exact⟨V.ya,H',q.os,q.bare,q.base,q.za,rfl,J⟩
 |brk=>obtain⟨_,_,_,J⟩:=O;grind
 |cont=>obtain⟨_,_,_,J⟩:=O;grind
end
section
variable{X:Cx}{k:Nat}{f C:FQ}{fd:XQ}{ps:List Str}{sp:Sp}{x m:Str}{p pos apos:jR}{e o:SQ}{es:List SQ}{ta:TE}{t:TA}
def UJ{J:L2.St}(F:Sh X.prog X.w X.K X.mg X.base k f fd ps sp)(Y:ug k X.A)(a0:Wc X.K fd ps [])
  (I:Inv X b0 J H s)(r:Oa vs us)(h:sp vs H Q E0):wpAny (KQ X.prog X.w) X.A (call (.ref f) us) (EP X b0 J Q) X.xe s:=by
 have d0:us.length=ps.length:=by rw[<-r.length];exact F.len _ _ _ _ h
 have O:=a0 s us I.rb (by grind);rw[Vn]at O;refine fi (zg (F.run X.A X.stack s H ⟨us,[]⟩ us vs Q E0 Y I.si O r h) λr s' q=>?_);cases r with
 |error e=>exact False.elim q
 |ok c0=>
  cases c0 with
  |ret u=>exact I.after q
  |next=>exact False.elim q
  |brk=>exact False.elim q
  |cont=>exact False.elim q
def qt{pl:Sem Bool}(e0:PE X o ta)(c:Cls X.K C)(O:Lc X.K C m f)(F:Sh X.prog X.w X.K X.mg X.base k f fd ps sp)(f0:ug k X.A)(g0:Wc X.K fd ps [])(h0:PA X (e::es) t)
  (i0:LQ (e::es) X.env=(IQ,RQ e X.env)::LQ es X.env:=by rfl)(j0:(VQ pos (LQ es X.env)).any (·.1)=IQ:=by rfl)
  (k0:RQ (.Call (.Attribute o m apos) (e::es) [] pos) X.env=(do
   let ov<-RQ o X.env
   qR apos.atName
   let(f,first)<-zR [ov] (mR ov m pl)
   sR pos f first (VQ pos (LQ (e::es) X.env)) (dR pos (TQ [] X.env))):=by rfl):
  PE X (.Call (.Attribute o m apos) (e::es) [] pos) (λq H Q=>ta q H λx J=>∃a Y fs,x=.ref a/\J a=some (.ins C Y fs)/\fs.lookup m=none/\t q J λvs a0=>sp (x::vs) a0 Q E0):=by
 constructor;intro b0 s q H Q I h;refine vm (pl:=pl) (Fa (e0 b0 s q H _ I h) ?_) k0;rintro u s1⟨x,J,c0,l0,a,Y,fs,ex,n0,l,o0⟩;subst ex;obtain rfl:u=Value.ref a:=l0;refine no c0 n0 c O l ?_;exact lm (first:=[.ref a]) (h₀:=X.base) I.ok.mod.ki O.kp (Fa (h0 pos b0 s1 q J _ c0 o0) (by rintro us q0⟨vs,a0,d0,r,p0⟩;exact⟨d0.rb,UJ (us:=.ref a::us) (vs:=.ref a::vs) F f0 g0 d0 (.cons rfl r) p0⟩)) i0 j0
end
end My
namespace My
open PySem PySem.Spec PyProof.Rows L2
def YB:del (upd H a o) a=del H a:=by
 funext b;by_cases z:b=a
 ·rw[z];simp[del]
 ·rw[Rc z,Rc z,ka z]
def ZB:del H a a=none:=by simp[del]
def VJ(n:Nat)(I:Nat->List V->Hp->Prop)(hz:n<=JQ)(r0:I 0 [] q)(j0:∀i H,aa q H->i<n->d0.go i H)(k0:∀H,aa q H->d0.stop n H)
  (step:∀i D ys H J v H' (R:V->L2.St->Hp->Prop),q D=none->I i ys (del H D)->H D=some (.lst ys)->aa q H->i<n->J.length=e0.length->d0.pe i H v H'->(∀y O Y,I (i+1) (ys++[y]) (del Y D)->O.length=e0.length->aa H Y->R y O Y)->g v J H' λO l0=>n0 O l0 λy Y=>R y O Y)
  (fin:∀D ys H',I n ys (del H' D)->ys.length=n->q D=none->aa q H'->H' D=some (.lst ys)->Q (.ref D) H'):dj e0 d0 g SA n0 Q q:=by
 intro D a0;have s0:del (upd q D (.lst [])) D=q:=by
  rw[YB];funext b;by_cases z:b=D
  ·rw[z,ZB,a0]
  ·rw[Rc z]
 refine⟨λi m ys J H=>m=n-i/\i<=n/\ys.length=i/\I i ys (del H D)/\J.length=e0.length/\aa q H/\H D=some (.lst ys),⟨n,rfl,wc _,rfl,by grind,rfl,aa.upd a0,ia⟩,?_⟩;rintro i m ys J H⟨rfl,hi,g0,h0,o0,b0,c0⟩;refine⟨c0,?_⟩;by_cases f0:i<n
 ·exact .inr ⟨j0 i H b0 f0,by lia,λv H' y=>step i D ys H J v H' _ a0 h0 c0 b0 f0 o0 y λy O Y p0 q0 i0=>⟨i0 _ _ c0,n-(i+1),by lia,rfl,f0,by simp[g0],by rw[YB];exact p0,q0,(b0.trans i0).again a0,ia⟩⟩
 ·have e:i=n:=by lia
  subst e;exact .inl ⟨k0 H b0,fin D ys H h0 g0 a0 b0 c0⟩
open PyProof PySem.W
def us7{q:Type}{us:List q}(h:us.length=7):∃a b c d e f g,us=[a,b,c,d,e,f,g]:=by
 obtain⟨a,t,rfl⟩:=Mn h;obtain⟨b,c,d,e,f,g,rfl⟩:=EJ (Nn h)
 grind
end My
namespace My
namespace Gs
open PySem PyProof.Rows
structure xQ(prog:MQ)(w:PQ)(A:OQ)(E:EQ->GQ->Prop)(s:GQ)where
 κ:SortKind
 gd:Keyed->Prop
 rk:Keyed->Int
 lt:∀{st:SortSt}{p q:Keyed}{Q:Option Bool->SortSt->Prop},kindOf st=κ->gd p->gd q->Q (some (decide (rk p<rk q))) st->wpS (KQ prog w) A E s (lt' p q) Q st
end Gs
open PySem PySem.Spec PySem.W PyProof.Rows L2 PyProof PySem.SeqAt
def ll:List Int->List Int->Bool
 |[],[]=>IQ
 |[],_::_=>HQ
 |_::_,[]=>IQ
 |x::r,y::t=>if x=y then ll r t else decide (x<y)
def ut(cd:Key->Int):Key->Key->Prop
 |.inl i,.inl j=>cd (.inl i)=i/\cd (.inl j)=j
 |.inr x,.inr y=>(x=y↔cd (.inr x)=cd (.inr y))/\decide (x.cps.toList<y.cps.toList)=decide (cd (.inr x)<cd (.inr y))
 |_,_=>False
def Xw(cd:Key->Int):List Key->List Key->Prop
 |a::r,b::t=>ut cd a b/\Xw cd r t
 |_,_=>True
def WJ(cd:Key->Int)(ks:List (List Key)):Prop:=(∀k∈ks,∀l∈ks,Xw cd k l)/\∀k∈ks,k≠[]
def XJ(h:ut cd a b):(a=b)↔(cd a=cd b):=by
 match a,b,h with
 |.inl i,.inl j,h=>
  rw[h.1,h.2]
  grind
 |.inr x,.inr y,h=>exact⟨by grind,λe=>Td _ (h.1.mpr e)⟩
 |.inl _,.inr _,h=>exact h.elim
 |.inr _,.inl _,h=>exact h.elim
def Og(h:NQ)(k:List Key)(v:EQ):Prop:=∃(a:FQ)(o:bR)(n:Nat)(us:List EQ),v=.ref a/\h.get? a=some o/\o.cls=.type "tuple"/\o.data=.seq us.toArray n/\Oa (k.map kV) us
def YJ(h:Sa (kV k) u)(g:Sa (kV l) u):k=l:=by
 match k,l,h,g with
 |.inl i,.inl j,h,g=>
  obtain⟨t,rfl⟩:=(h);obtain⟨t',e⟩:=(g)
  grind
 |.inr x,.inr y,h,g=>
  obtain⟨t,rfl⟩:=(h);obtain⟨t',e⟩:=(g)
  grind
 |.inl i,.inr y,h,g=>
  obtain⟨t,rfl⟩:=(show∃t,u=Value.int i t from h);obtain⟨t',e⟩:=(g);cases e
 |.inr x,.inl j,h,g=>
  obtain⟨t,rfl⟩:=(show∃t,u=Value.str x t from h);obtain⟨t',e⟩:=(g);cases e
def ZJ:∀{k l:List Key}{us:List EQ},Oa (k.map kV) us->Oa (l.map kV) us->k=l:=by
 intro k;induction k with
 |nil=>rintro(_|_)_ h g<;>cases h<;>cases g;rfl
 |cons a r q=>
  rintro(_|⟨b,t⟩)_(_|⟨J,O⟩)(_|⟨Y,a0⟩);rw[YJ J Y,q O a0]
def Og.inj(x:Og h k v)(y:Og h l v):k=l:=by
 obtain⟨a,o,n,us,rfl,ho,_,O,hv⟩:=x;obtain⟨d0,e0,f0,Y,e,q,_,J,a0⟩:=y;cases e;rw[ho]at q;cases q;rw[O]at J;injection J with b0 _;have c0:us=Y:=by
  have:=Td Array.toList b0;simpa using this
 subst c0;exact ZJ hv a0
section
variable{prog:MQ}{w:PQ}{A:OQ}{s:GQ}
def aK(h:ut cd a b)(J:Sa (kV a) u)(O:Sa (kV b) v)(q:R (decide (cd a<cd b)) s):wpAny (KQ prog w) A (oneLt' c u v) R E s:=by
 match a,b,h with
 |.inl i,.inl j,h=>
  obtain⟨t,rfl⟩:=(show∃t,u=Value.int i t from J);obtain⟨t',rfl⟩:=(show∃t,v=Value.int j t from O);rw[h.1,h.2]at q;cases c with
  |true=>exact oneLt_int q
  |false=>exact kat_one _ _ (lt_int q)
 |.inr x,.inr y,h=>
  obtain⟨t,rfl⟩:=(show∃t,u=Value.str x t from J);obtain⟨t',rfl⟩:=(show∃t,v=Value.str y t from O);rw[<-h.2]at q;cases c with
  |true=>exact oneLt_str q
  |false=>exact kat_one _ _ (PyProof.Rows.lt_str q)
 |.inl _,.inr _,h=>exact h.elim
 |.inr _,.inl _,h=>exact h.elim
def bK:∀{k l:List Key}{us vs:List EQ}{i:Nat},Oa (k.map kV) us->Oa (l.map kV) vs->Xw cd k l->fin=decide (us.length<vs.length)->R (ll (k.map cd) (l.map cd)) s->KatLex prog w A b fin R (us.zip vs) i s:=by
 intro k;induction k with
 |nil=>rintro(_|_)_ _ _(_|_)(_|_)_ f q<;>subst f<;>exact kat_nil (by simpa[ll]using q)
 |cons x r b0=>
  rintro(_|⟨y,t⟩)_ _ i(_|⟨Y,c0⟩)(_|⟨a0,d0⟩)O f q
  ·subst f;exact kat_nil (by simpa[ll]using q)
  have J:R (if cd x=cd y then ll (r.map cd) (t.map cd)else decide (cd x<cd y)) s:=q;refine kat_cons ((Qb prog w).eqBool (Lh Y) (Lh a0) (kat_go (λe=>kat_yes ?_) λe=>kat_no ?_))
  ·rw[Ca (by grind)]at J;exact b0 c0 d0 O.2 (by rw[f];simp) J
  ·rw[Ba λz=>of_decide_eq_false e ((XJ O.1).mpr z)]at J;exact aK O.1 Y a0 J
def cK{cd:Key->Int}:∀{vs:List EQ}{ks:List (List Key)},Paired (λv k=>Og h k v) vs ks->(∀k∈ks,k≠[])->∃fs,KatTups h vs fs/\fs.length=vs.length/\∀v∈fs,∃k r,k::r∈ks/\Sa (kV k) v:=by
 intro vs ks h;induction h with
 |nil=>exactλ_=>⟨[],trivial,rfl,by grind⟩
 |@cons v k c0 d0 q t J=>
  intro ne;obtain⟨fs,O,Y,e0⟩:=J (by grind);obtain⟨a,o,n,us,rfl,ho,a0,b0,hv⟩:=q;cases k with
  |nil=>exact absurd rfl (ne _ (.head _))
  |cons f0 r=>
   cases hv with
   |@cons x u xs us g0 h0=>
    refine⟨u::fs,KatTups.cons ho a0 b0 rfl O,by rw[Hk,Hk,Y],λv hv=>?_⟩
    grind
def bn:Key->EQ
 |.inl _=>.type "int"
 |.inr _=>.type "str"
def eK(r:Sa (kV k) u):Looks M h (typeOf u) (bn k):=by
 match k with
 |.inl i=>
  obtain⟨t,rfl⟩:=(r);intro A Q E s _ q;exact Lk rfl q
 |.inr x=>
  obtain⟨t,rfl⟩:=(r);intro A Q E s _ q;exact Lk rfl q
def fK(h:ut cd a b):bn a=bn b:=by
 match a,b,h with
 |.inl _,.inl _,_=>rfl
 |.inr _,.inr _,_=>rfl
 |.inl _,.inr _,h=>exact h.elim
 |.inr _,.inl _,h=>exact h.elim
def gK(a:Key):(bn a==bn a)=HQ:=by
 grind
def Og.keep(x:Og h k v)(J:∀b o,o.cls=.type "tuple"->h.get? b=some o->h'.get? b=some o):Og h' k v:=by obtain⟨a,o,n,us,e,ho,q,O,hv⟩:=x;exact nx10 a o n us e (J a o q ho) q ⟨O,hv⟩
end
def Ei(H:Hp)(v:V)(k:List Key):Prop:=∃p,v=.ref p/\H p=some (.tup (k.map kV))
section
variable{X:Cx}{pins:List (FQ×bR)}{σ:L2.St}{H:Hp}{s:GQ}
def hK(I:Inv X pins σ H s)(h:Ei H v k)(r:Sa v u):Og s.heap k u:=by
 obtain⟨p,rfl,e⟩:=h;obtain rfl:u=Value.ref p:=r;obtain⟨q,J,⟨o,O,Y,c,a0⟩,_⟩:=I.tuple (xa.of e);exact nx10 p o c q rfl O Y ⟨a0,J⟩
end
section
variable{prog:MQ}{w:PQ}{A:OQ}{s:GQ}
def Og.Fi(x:Og h k v)(O:Gq h h'):Og h' k v:=by obtain⟨a,o,n,us,e,ho,q,J,hv⟩:=x;exact nx10 a o n us e (O a o _ n ho q J) q ⟨J,hv⟩
end
end My
namespace My
open PySem PySem.Spec PySem.W PyProof.Rows L2
section
variable{P:MQ}{w:PQ}{K:yS}{mg:Str->Option EQ}{base h:NQ}{x q:Str}{st:gR}{ps:List Str}{fa:FQ}
def vt(K:yS)(x q:Str)(st:gR)(f:FQ):Prop:=∃J od O Y kV a0 b0 cd ct,K.lookup f=some ⟨J,od,.func (fnOf x q (xi st) (Qf st) (ic st) .none kV a0 b0 O cd ct),Y⟩/\codeIn K cd q=HQ/\rS K (.ref f)=HQ
def Yw(K:yS)(x:Str)(st:gR):Prop:=∃f,nsIn K WQ x=some (some (.ref f))/\vt K x x st f
def iK{J od O Y kV a0 b0 cd ct}(a:nsIn K WQ x=some (some (.ref f)))(l:K.lookup f=some ⟨J,od,.func (fnOf x x (xi st) (Qf st) (ic st) .none kV a0 b0 O cd ct),Y⟩)(c:codeIn K cd x=HQ)(k:rS K (.ref f)=HQ):Yw K x st:=
 ⟨f,a,nx3 _ _ _ _ _ _ _ (nx0 _ _ l c k)⟩
def wt(x q:Str)(st:gR)(ps:List Str):Prop:=∀(kV J O:EQ)(Y:Option FQ)(a0 ct:EQ)(us:List EQ),us.length=ps.length->PR (fnOf x q (xi st) (Qf st) (ic st) .none kV J O Y a0 ct) ⟨us,[]⟩=pure (ps.zip us)
def vt.fn(h:vt K x q st f)(b:wt x q st ps):∃d,qg K x q st f d/\Wc K d ps []:=by
 obtain⟨_,_,_,_,_,_,_,_,_,l,c,k⟩:=h;exact⟨_,Ds l c k,(Ds l c k).binds b⟩
structure Fe(K:yS)(mg:Str->Option EQ)(x:Str)(st:gR)(ps:List Str):Prop where
 e:∃f d,qg K x x st f d/\Wc K d ps []/\mg x=some (.ref f)
noncomputable def Fe.f(D:Fe K mg x st ps):FQ:=D.e.choose
noncomputable def Fe.d(D:Fe K mg x st ps):XQ:=D.e.choose_spec.choose
def Fe.F(D:Fe K mg x st ps):qg K x x st D.f D.d:=D.e.choose_spec.choose_spec.1
def Fe.b(D:Fe K mg x st ps):Wc K D.d ps []:=D.e.choose_spec.choose_spec.2.1
def Fe.m(D:Fe K mg x st ps):mg x=some (.ref D.f):=D.e.choose_spec.choose_spec.2.2
def Yw.fe(D:Yw K x st)(X:K.In h)(G:h.Ns WQ mg)(b:wt x x st ps):Fe K mg x st ps:=by
 obtain⟨f,a,r⟩:=D;obtain⟨d,F,B⟩:=r.fn b;exact⟨f,d,F,B,mg_of X G a⟩
abbrev Fe.Ok(D:Fe K mg x st ps)(P:MQ)(w:PQ)(base:NQ)(k:Nat)(sp:Sp):Prop:=Kb P w K mg base Qc k D.f D.d ps sp
structure Ho(K:yS)(C:FQ):Prop where
 mo:iB K C
 cl:Cls K C
 tc:OR K (.ref C) "__class__"=some (some (.builtin "object.__class__"))
 tm:mroIn K C (.type "object")=some HQ
def e7r(a:makesIn K C=HQ)(b:OR K (.ref C) "__init__"=some (some (.builtin "object.__init__")))(c:rS K (.ref C)=HQ)(d:plainGet K C Str.empty=HQ)(e:hasDictIn K C=HQ)(f:plainOver K C=HQ)(g:OR K (.ref C) "__setattr__"=some (some (.builtin "object.__setattr__")))(i:OR K (.ref C) "__class__"=some (some (.builtin "object.__class__")))(j:mroIn K C (.type "object")=some HQ):Ho K C:=⟨⟨a,b,c⟩,⟨d,e,f,g⟩,i,j⟩
def Fe.jK(D:Fe K mg x st ps)(O:mg x=some (.ref fa)){sp:NQ->Sp}(b:∀kV Y a0 b0 c0 ct v,PR (fnOf x x (xi st) (Qf st) (ic st) .none kV Y a0 b0 c0 ct) ⟨[v],[]⟩=pure [(p,v)])(r:∀base,D.Ok P w base k (sp base)):
  ∃J:XQ,(∀(s:GQ)(v:EQ),WR s J ⟨[v],[]⟩ [(p,v)])/\∀base:NQ,K.In base->base.Ns WQ mg->Kb P w K mg base Qc k fa J ps (sp base):=by
 have e:=O.symm.trans D.m;cases e;refine⟨D.d,λs v=>?_,by grind⟩;obtain⟨_,_,_,_,_,_,_,_,_,e,_⟩:=D.F.ex;rw[e];exact .of_eq (b ..)
end
def ml{N P:List Str}{q:nR}(a:q.kind=.function:=by rfl)(b:q.isCoroutine=IQ:=by rfl)(c:q.isGenerator=IQ:=by rfl)(d:N.Nodup:=by decide+kernel)(e:N.take P.length=P:=by rfl)(f:∀x∈P,q.names.lookup x=some .local\/q.names.lookup x=some .cell:=by decide+kernel)(g:∀y∈q.names,y.2≠.free:=by decide+kernel):Zi N P q:=⟨a,b,c,d,e,f,g⟩
section
variable{X:Cx}
def fb{x:Str}{st:gR}{ps:List Str}{k n:Nat}{sp:Sp}{p J:jR}{e:SQ}{q:List SQ}{t:TA}(D:Fe X.K X.mg x st ps)(F:Kb X.prog X.w X.K X.mg X.base Qc k D.f D.d ps sp)(O:Wa n X.A)(Y:PA X (e::q) t)(h:k<=n:=by decide)(a0:Gl X x:=by rfl)(b0:(x==("__debug__":Str))=IQ:=by decide)
  (c0:LQ (e::q) X.env=(IQ,RQ e X.env)::LQ q X.env:=by rfl)(d0:(VQ J (LQ q X.env)).any (·.1)=IQ:=by rfl):PE X (.Call (.Name x p) (e::q) [] J) (wz sp [] E0 t):=Xv (F.mono h) O a0 D.m D.F.kp D.b .nil Mh Y b0 c0 d0
def Zw(i:Nat){q J:jR}(O:X.N.Nodup)(Y:PE X e a0)(hi:X.N[i]?=some x:=by rfl)(b0:Loc X.env.scope x:=by first|exact Or.inl rfl|exact Or.inr rfl)(c0:kR e (some (.Name x J)) q.line X.env=pure IQ:=by rfl)
  (d0:X.fn x=HQ\/X.env.scope.names.lookup x=some .local:=by first|exact .inl rfl|exact .inr rfl|assumption):PS X (.Assign [.Name x J] e q) (Hv a0 (Bm i)):=Yy O hi b0 Y c0 d0
def kK(i:Nat){q:jR}(J:X.N.Nodup)(hi:X.N[i]?=some x:=by rfl)(O:Loc X.env.scope x:=by first|exact Or.inl rfl|exact Or.inr rfl)(Y:X.fn x=HQ\/X.env.scope.names.lookup x=some .local:=by first|exact .inl rfl|exact .inr rfl|assumption):PG X (.Name x q) (Bm i):=Gv J hi O Y
def Ac(i:Nat){q:jR}(hi:X.N[i]?=some x:=by rfl)(J:X.N.Nodup:=by first|(show[_].Nodup;decide+kernel)|(show[_,_].Nodup;decide+kernel)|(show[_,_,_].Nodup;decide+kernel)|(show[_,_,_,_].Nodup;decide+kernel)|(show[_,_,_,_,_].Nodup;decide+kernel)|(show[_,_,_,_,_,_].Nodup;decide+kernel)|(show[_,_,_,_,_,_,_].Nodup;decide+kernel))
  (O:Loc X.env.scope x:=by first|exact Or.inl rfl|exact Or.inr rfl)(Y:X.fn x=HQ\/X.env.scope.names.lookup x=some .local:=by first|exact .inl rfl|exact .inr rfl|assumption):PG X (.Name x q) (Bm i):=Gv J hi O Y
def Pa(q:qo X r)(J:PE X a O)(Y:PE X b a0)(b0:Mz b:=by exactλ_ _=>rfl):PE X (.Subscript a b c0) (Dm r O a0):=PF q J Y b0
section
variable{scope:nR}{target iter elt:SQ}{ifs:List SQ}{pos:jR}{g:TG}{tc:L2.TT}{te:TE}{wi:TI}
def aC(J:List Str)(O:List Nat)(a:scope.kind=.function:=by rfl)(b:∀q∈scope.names,q.2≠.cell:=by decide+kernel)(c:∀q∈scope.names,q.2=.local->scope.names.lookup q.1=some .local:=by decide+kernel)(d:∀q∈scope.names,q.2=.free->q.1∈J:=by decide+kernel)
  (e:∀x∈J,X.env.kindOf x=some .cell\/X.env.kindOf x=some .free:=by repeat(first|exact PH|refine QH (by first|exact Or.inl rfl|exact Or.inr rfl) ?_))(f:O.map (λj=>X.N[j]?)=J.map some:=by rfl)(h:∀x∈J,scope.names.lookup x=some .free:=by decide+kernel):Ph X scope J O:=⟨a,b,c,d,e,f,h⟩
def Vd(q O:List Str)(Y:List Nat)(hi:PI X target iter wi)(c0:∀{J C s₀ H₀ ex},PG (Ud X scope (q++O) J C s₀ H₀ ex) target g)(d0:∀{J C s₀ H₀ ex},Vm (Ud X scope (q++O) J C s₀ H₀ ex) ifs tc)(e0:∀{J C s₀ H₀ ex},PE (Ud X scope (q++O) J C s₀ H₀ ex) elt te)
  (S:Ph X scope O Y:=by exact aC _ _)(a0:X.calm=HQ:=by rfl)(b0:∀x,rR iter X.env x=pure x:=by intro _;rfl):PE X (.ListComp elt [⟨target,iter,ifs,0⟩] scope pos) (Ys q.length Y wi g tc te):=NH q a0 S hi ‹_› ‹_› ‹_› b0
def Io(i:Nat){y:Str}{Y a0:jR}(q:List Str)(d0:X.N.Nodup)(O:List Str)(b0:List Nat)(hi:PI X target iter wi)(j0:∀{J C s₀ H₀ ex},PG (Ud X scope (q++O) J C s₀ H₀ ex) target g)(k0:∀{J C s₀ H₀ ex},Vm (Ud X scope (q++O) J C s₀ H₀ ex) ifs tc)(l0:∀{J C s₀ H₀ ex},PE (Ud X scope (q++O) J C s₀ H₀ ex) elt te)
  (S:Ph X scope O b0:=by exact aC _ _)(e0:X.calm=HQ:=by rfl)(f0:X.N[i]?=some y:=by rfl)(hk:X.env.scope.names.lookup y=some .local:=by rfl)(g0:kR (.ListComp elt [⟨target,iter,ifs,0⟩] scope pos) (some (.Name y Y)) a0.line X.env=pure HQ:=by rfl)(h0:∀x,rR iter X.env x=pure x:=by intro _;rfl):
  PS X (.Assign [.Name y Y] (.ListComp elt [⟨target,iter,ifs,0⟩] scope pos) a0) (λD c0 H=>Ys q.length b0 wi g tc te c0 H λv i0=>D.nx (c0.set i (some v)) i0):=OH q e0 d0 f0 hk S hi g0 ‹_› ‹_› ‹_› h0
end
end
open PyProof PySem.SeqAt
def bC{K:W.Frag}(h:X.K=K):gs X (Kz K):=h▸MF
end My
namespace My
open PySem PySem.Spec PyProof.Rows L2 PyProof
def Sf(H H':Hp):Hp:=λb=>match H' b with
 |some (.Rb o u)=>(match H b with
  |some (.Rb _ _)=>some (.Rb o u)
  |_=>some u)
 |z=>z
def fj(e:H' b=some o)(n:∀ob u,o≠.Rb ob u):Sf H H' b=some o:=by
 unfold Sf;rw[e];cases o<;>first|rfl|exact absurd rfl (n _ _)
def lK(e:H' b=none):Sf H H' b=none:=by
 unfold Sf;rw[e]
def mK(e:Sf H H' b=some u):H' b=some u\/∃o,H' b=some (.Rb o u):=by
 unfold Sf at e;cases z:H' b with
 |none=>rw[z]at e;cases e
 |some v=>
  rw[z]at e;cases v with
  |Rb o v=>
   simp only at e;split at e
   ·exact .inl e
   ·cases e;exact .inr ⟨o,rfl⟩
  |_=>exact .inl e
def cx(e:H b=some o)(q:H' b=some o):Sf H H' b=some o:=by
 unfold Sf;rw[q];cases o<;>first|rfl|(simp only;rw[e])
def fx(e:H b=some (.dK kvs))(r:Rd H' b (.dK kvs)):Sf H H' b=some (.dK kvs):=by
 rcases r with r|⟨ob,r⟩<;>(unfold Sf;rw[r])
 simp only;rw[e]
def cC(k:∀b o,b≠d->H b=some o->H' b=some o)(e:H d=some (.dK kvs))(r:Rd H' d (.dK kvs)):aa H (Sf H H'):=λb o q=>by
 by_cases z:b=d
 ·subst z;rw[e]at q;cases q;exact fx e r
 ·exact cx q (k b o z q)
def Kb.ak{K:W.Frag}(F:Kb P w K mg base CX k f Y ps sp)
  (h:∀vs H Q E,a0 vs H Q E->sp vs H (λv H'=>Q v (Sf H H')) E):Kb P w K mg base CX k f Y ps a0:=by
 refine⟨λvs H Q E q=>F.len _ _ _ _ (h _ _ _ _ q),λA outer s H args us vs Q E J b0 c0 hv d0=>zg (F.run A outer s H args us vs _ E J b0 c0 hv (h _ _ _ _ d0)) λr s' q=>?_⟩;unfold CR at q⊢;split at q
 ·obtain⟨v,H',e0,f0,un,O,J,g0⟩:=q;refine⟨v,Sf H H',e0,f0,⟨un.keep,un.slot,λb o q n h0=>lK (un.free b o q n h0),un.there,λb xs q=>fj (un.tups b xs q) (by grind),λb o u q=>?_,λb ps q=>?_⟩,λb u q=>?_,J,g0⟩
  ·unfold Sf;rw[un.frzs b o u q,q]
  ·obtain⟨more,e⟩:=un.tbls b ps q;exact⟨more,fj e (by grind)⟩
  ·have st:∀{u:HO},Fb P w H' s'.heap b u->Fb P w (Sf H H') s'.heap b u:=λx=>x.kc (λc v _ z=>z) (λc z=>fj z (by grind)) λc xs z=>fj z (by grind)
   rcases mK q with e|⟨o,e⟩
   ·exact st (O b u e)
   ·exact st (O b _ e).2
 ·exact q
 ·exact q
structure Bx(U H:Hp)(x:Nat->FQ)(f:Nat->Option HO):Prop where
 at_:∀i<9,∀o,f i=some o->H (x i)=some o
 inj:∀i<9,∀j<9,∀o o',f i=some o->f j=some o'->x i=x j->i=j
 sub:aa U H
 off:∀i<9,∀o,f i=some o->U (x i)=none
def fp(f:Nat->Option HO)(j:Nat)(o:HO):Nat->Option HO:=λi=>if i=j then some o else f i
def Sc{P:Nat->Prop}(q:P 0)(J:P 1)(O:P 2)(Y:P 3)(a0:P 4)(b0:P 5)(c0:P 6)(d0:P 7)(e0:P 8):∀i<9,P i:=by
 rintro(_|_|_|_|_|_|_|_|_|i)h<;>first|assumption|lia
section
variable{U U' H H':Hp}{x:Nat->FQ}{f g:Nat->Option HO}{o o':HO}{i j:Nat}
def Bx.get(b:Bx U H x f)(i:Nat)(e:f i=some o)(h:i<9:=by decide):H (x i)=some o:=b.at_ i h o e
def Bx.ne(b:Bx U H x f)(i j:Nat)(e:f i=some o)(q:f j=some o')(h:i≠j:=by decide)(hi:i<9:=by decide)(J:j<9:=by decide):x i≠x j:=λz=>h (b.inj i hi j J _ _ e q z)
def Bx.same(b:Bx U H x f)(s:aa H H'):Bx U H' x f:=⟨λi h o e=>s _ _ (b.at_ i h o e),b.inj,b.sub.trans s,b.off⟩
def Bx.nc(b:Bx U H x f)(h:∀i<9,g i=f i):Bx U H x g:=⟨λi hi o e=>b.at_ i hi o (h i hi▸e),λi hi j q o o' e J=>b.inj i hi j q o o' (h i hi▸e) (h j q▸J),b.sub,λi hi o e=>b.off i hi o (h i hi▸e)⟩
def Bx.less(b:Bx U H x f)(s:aa U' U):Bx U' H x f:=⟨b.at_,b.inj,s.trans b.sub,λi h o e=>by
 cases z:U' (x i)with
 |none=>rfl
 |some u=>have:=s _ _ z;rw[b.off i h o e]at this;cases this⟩
def Bx.but(b:Bx U H x f)(j:Nat)(e:f j=some o)(Y:H' (x j)=some o')(k:∀c u,c≠x j->H c=some u->H' c=some u)(h:j<9:=by decide):Bx U H' x (fp f j o'):=by
 have q:∀i u,fp f j o' i=some u->∃v,f i=some v:=λi u z=>by
  unfold fp at z;split at z
  ·next y=>rw[y];exact⟨o,e⟩
  ·exact⟨u,z⟩
 refine⟨λi hi u z=>?_,λi hi l a0 u v z y J=>?_,λc u z=>k c u (λy=>by rw[y,b.off j h o e]at z;cases z) (b.sub _ _ z),λi hi u z=>?_⟩
 ·unfold fp at z;split at z
  ·next y=>rw[y,Y];exact z
  ·next y=>exact k _ _ (λJ=>y (b.inj i hi j h _ _ z e J)) (b.at_ i hi u z)
 ·obtain⟨b0,O⟩:=q i u z;obtain⟨d0,c0⟩:=q l v y;exact b.inj i hi l a0 _ _ O c0 J
 ·obtain⟨b0,O⟩:=q i u z;exact b.off i hi _ O
def Bx.put(b:Bx U H x f)(j:Nat)(o':HO)(e:f j=some o)(h:j<9:=by decide):Bx U (upd H (x j) o') x (fp f j o'):=b.but j e ia (λc u n z=>by rw[ka n];exact z) h
noncomputable def Xc(H:Hp)(x:Nat->FQ)(f:Nat->Option HO):Hp:=λb=>open Classical in if∃i<9,(∃o,f i=some o)/\x i=b then none else H b
def nl(e:H b=some o)(n:∀i<9,∀u,f i=some u->x i≠b):Xc H x f b=some o:=by
 unfold Xc;rw[Ba (by rintro⟨i,hi,⟨u,z⟩,y⟩;exact n i hi u z y)];exact e
def Bx.grow(b:Bx U H x f):aa U (Xc H x f)/\Bx (Xc H x f) H x f:=by
 refine⟨λc u z=>nl (b.sub _ _ z) λi hi v e y=>(by rw[<-y,b.off i hi v e]at z;cases z),b.at_,b.inj,λc u z=>?_,λi hi u e=>?_⟩
 ·unfold Xc at z;split at z
  ·cases z
  ·exact z
 ·unfold Xc;rw[Ca (by grind)]
def Bx.new(b:Bx U H x f)(n:H c=none):∀i<9,∀u,f i=some u->x i≠c:=λi hi u e z=>by rw[<-z,b.at_ i hi u e]at n;cases n
def Bx.gx(b:Bx U H x f)(n:H c=none)(e:f j=some o):∀i<9,∀u,fp f j o' i=some u->x i≠c:=λi hi u z=>by
 unfold fp at z;split at z
 ·next y=>exact b.new n i hi o (y▸e)
 ·exact b.new n i hi u z
def Bx.free(b:Bx U H x f)(n:H c=none):U c=none:=by
 cases z:U c with
 |none=>rfl
 |some u=>rw[b.sub _ _ z]at n;cases n
def nK(b:Bx U H x f)(e:f j=some o)(k:∀c u,c≠x j->H c=some u->H' c=some u)(q:∀i<9,(∃u,g i=some u)↔∃u,f i=some u)(h:j<9:=by decide):aa (Xc H x f) (Xc H' x g):=λc u z=>by
 unfold Xc at z;split at z
 ·cases z
 ·next y=>exact nl (by grind) (by grind)
def Bx.to(b:Bx U H x f)(k:∀r o,(U r=some o\/∃i<9,x i=r/\f i=some o)->H r=some o->H' r=some o):Bx U H' x f:=
 ⟨λi hi o e=>k _ _ (by grind) (b.at_ i hi o e),b.inj,λr o e=>k r o (.inl e) (b.sub _ _ e),b.off⟩
def Bx.drop(b:Bx U H x f)(h:∀i<9,∀o,J i=some o->f i=some o):Bx U H x J:=
 ⟨λi hi o e=>b.at_ i hi o (h i hi o e),λi hi j q o o' e O=>b.inj i hi j q o o' (h i hi o e) (h j q o' O),b.sub,λi hi o e=>b.off i hi o (h i hi o e)⟩
def Bx.more(b:Bx U H x f)(n:H D=none)(h:H' D=some o)(s:aa H H'):Bx (upd U D o) H' x f:=
 ⟨λi hi u e=>s _ _ (b.at_ i hi u e),b.inj,λc u e=>by
  by_cases z:c=D
  ·rw[z,ia]at e;cases e;rw[z];exact h
  ·rw[ka z]at e;exact s _ _ (b.sub _ _ e),λi hi u e=>by rw[ka (b.new n i hi u e)];exact b.off i hi u e⟩
def Iq(x:Nat->FQ)(a:FQ):Nat->FQ:=λi=>if i=8 then a else x i
def Bx.add(b:Bx U H x f)(h:H a=some o)(u:U a=none)(k:∀i<9,∀u,f i=some u->x i≠a):Bx U H (Iq x a) (fp f 8 o):=by
 have J:∀i<9,∀u,fp f 8 o i=some u->(i=8/\u=o/\Iq x a i=a)\/(i≠8/\f i=some u/\Iq x a i=x i):=λi _ u z=>by
  unfold fp at z;unfold Iq;split at z
  ·next y=>cases z;exact .inl ⟨y,rfl,Ca y⟩
  ·next y=>exact .inr ⟨y,z,Ba y⟩
 refine⟨λi hi u z=>?_,λi hi j Y u v z y O=>?_,b.sub,λi hi u z=>?_⟩
 ·rcases J i hi u z with⟨_,rfl,e⟩|⟨_,q,e⟩<;>rw[e]
  ·exact h
  ·exact b.at_ i hi u q
 ·rcases J i hi u z with⟨p,_,e⟩|⟨_,q,e⟩<;>rcases J j Y v y with⟨c0,_,a0⟩|⟨_,b0,a0⟩<;>rw[e,a0]at O
  ·rw[p,c0]
  ·exact absurd O.symm (k j Y v b0)
  ·exact absurd O (k i hi u q)
  ·exact b.inj i hi j Y _ _ q b0 O
 ·rcases J i hi u z with⟨_,_,e⟩|⟨_,q,e⟩<;>rw[e]
  ·assumption
  ·exact b.off i hi u q
end
def tp(H:Hp):Hp:=λb=>match H b with
 |some (.tup xs)=>some (.tup xs)
 |_=>none
def Tf(e:H b=some (.tup xs)):tp H b=some (.tup xs):=by
 unfold tp;rw[e]
def Jq(e:tp H b=some o):∃xs,o=.tup xs/\H b=some (.tup xs):=by
 unfold tp at e;split at e
 ·next xs z=>cases e;exact⟨xs,rfl,z⟩
 ·cases e
def He(k:∀b xs,H b=some (.tup xs)->H' b=some (.tup xs)):aa (tp H) (tp H'):=λb o e=>by
 obtain⟨xs,rfl,z⟩:=Jq e;exact Tf (k b xs z)
def ql:aa (tp H) H:=λb o e=>by
 obtain⟨xs,rfl,z⟩:=Jq e;exact z
section
open PySem.W
variable{prog:MQ}{w:PQ}{A:OQ}{E:EQ->GQ->Prop}{s:GQ}{T:String}{r d:FQ}{n:Nat}{P:Nat->EQ->Prop}{OK:NQ->Prop}
def oK(K:KdlSrc prog w T r d n P OK)(c0:A.handled=none)(b0:OK s.heap)(d0:n<=JQ)
  (e0:∀(h':NQ)(J:Nat)(q:Array EQ),(∀b o,s.heap.get? b=some o->h'.get? b=some o)->lS P q n->Q q.toList {s with heap:=h',toks:=J}):wpAny (KQ prog w) A (collect (.ref r)) Q E s:=by
 have lt:=K.there _ b0;have new:(s.heap.push {cls:=.type "list",data:=.seq ([]:List EQ).toArray}).get? s.heap.objs.size=some {cls:=.type "list",data:=.seq #[] 0}:=ec _ rfl;unfold collect;refine ba (zS (Bh F.entry_proto_collect ?_));rw[yj F.plain_proto_collect _];show wpAny _ A.in1 (newList []>>=λl=>again (.builtin "list.__iadd__" ⟨[l,.ref r],[]⟩)) _ _ s;refine ba (dg ?_);refine Aa ⟨Bj Lr _,Bh F.entry_list_iadd ?_⟩;rw[yj Lr _];show wpAny _ A.in1 (Builtin.List.listExtendWith (.ref s.heap.objs.size) (.ref r) (.ref s.heap.objs.size)) _ _ {s with heap:=s.heap.push {cls:=.type "list",data:=.seq ([]:List EQ).toArray}};have fin:∀(h':NQ)(J:Nat)(q:Array EQ)(c:Nat),(∀b o,b≠s.heap.objs.size->(s.heap.push {cls:=.type "list",data:=.seq ([]:List EQ).toArray}).get? b=some o->h'.get? b=some o)->h'.get? s.heap.objs.size=some {cls:=.type "list",dict:=none,data:=.seq q c,slots:=#[]}->lS P q n->wpAny (KQ prog w) A (match Value.ref s.heap.objs.size with
   |Value.ref a=>do
    match(<-load a).data with
     |Data.seq xs _=>pure xs.toList
     |_=>unsupported "internal:collect"
   |_=>unsupported "internal:collect") Q E {s with heap:=h',toks:=J}:=λh' J q c O Y a0=>by
  show wpAny _ A (load s.heap.objs.size>>=_) _ _ _;exact ba (DS Y (Aa (e0 h' J q (λb o e=>O b o (Ob (pb e)) (Xa _ e)) a0)))
 refine Kc (kdl_extend (A:=A) (s:={s with heap:=s.heap.push {cls:=.type "list",data:=.seq ([]:List EQ).toArray}}) (R:=λx s'=>∃(h':NQ)(J:Nat)(q:Array EQ)(c:Nat),x=.ok (.ret (.ref s.heap.objs.size))/\s'={s with heap:=h',toks:=J}/\(∀b o,b≠s.heap.objs.size->(s.heap.push {cls:=.type "list",data:=.seq ([]:List EQ).toArray}).get? b=some o->h'.get? b=some o)/\h'.get? s.heap.objs.size=some {cls:=.type "list",dict:=none,data:=.seq q c,slots:=#[]}/\lS P q n)
  K c0 (K.keep _ _ b0 λb _ o e=>Xa _ e) s.heap.objs.size (by grind) (by grind) _ 0 new (by grind) d0) (λf s' h=>?_) (by grind)
 cases f with
 |done f=>obtain⟨h',J,q,c,e,rfl,O,Y,a0⟩:=h;cases e;exact fin h' J q c O Y a0
 |again g0=>exact⟨h.1,zg h.2 (by rintro x h0⟨h',J,q,c,e,f0,O,Y,a0⟩;subst e f0;exact fin h' J q c O Y a0)⟩
def pK(K:KdlSrc prog w "dict" r d n P OK)(b0:A.handled=none)(O:OK s.heap)(Y:n<=JQ)
  (e0:∀(h':NQ)(a0:Nat)(q:Array EQ),(∀b o,s.heap.get? b=some o->h'.get? b=some o)->lS P q n->Q (.ref h'.objs.size) {s with heap:=h'.push {cls:=.type "tuple",data:=.seq q},toks:=a0}):wpAny (KQ prog w) A (call (.type "tuple") [.ref r]) Q E s:=by
 refine callType_codes (Q₁:=λobj J=>J.TypeIs obj "tuple"/\Q obj J) F.called_tuple (F.typeCall_tuple_1 _) F.entry_object_init (Lp ?_) λobj J h=>⟨h.1,F.args_object_init_2 obj _,object_init_meets F.called_tuple.init.lookup F.called_tuple.made (by decide) prog w A.in1 _ J ⟨h.1,rfl,h.2⟩⟩
 show wpAny _ A.in1.in1 (do uR "tuple.__new__" ⟨[.type "tuple",.ref r],[]⟩;again (.builtin "tuple.__new__" ⟨[.type "tuple",.ref r],[]⟩)) _ _ s;refine ba (om (F.newCall_tuple_1 _) (Aa ⟨Bj F.plain_tuple_new _,Bh F.entry_tuple_new ?_⟩));rw[yj F.plain_tuple_new _];have f0:=sub_tuple_self;have g0:=init_tuple_lookup;have h0:=madeHere_tuple;have c0:=K.type s O;wp_walk using Lk c0,oK (A:=A.in1.in1) K b0 O Y
 intro h' a0 q i0 d0;show wpAny _ _ (Builtin.Tuple.tupleExact q.toList.toArray>>=λv=>ret v) _ _ _;unfold Builtin.Tuple.tupleExact;refine ba (dg ?_ (by show q.toList.toArray.size<=JQ;simp only[Array.toArray_toList];rw[d0.1];exact Y));refine Aa ?_;rw[show q.toList.toArray=q by simp];exact⟨⟨_,ec _ rfl,rfl⟩,by grind⟩
end
section
variable{X:Cx}
def qK(Y:X.calm=HQ):gf X (.type "tuple") (λxs H Q=>∃(a:FQ)(kvs:List (Key×V))(ks:List Int),xs=[V.ref a]/\H a=some (.dK kvs)/\kvs.map (·.1)=ks.map Sum.inl/\∀p,H p=none->Q (.ref p) (upd H p (.tup (ks.map V.int)))):=by
 intro a0 s b0 H xs us Q I r h;obtain⟨a,kvs,ks,rfl,e,c0,d0⟩:=h;obtain⟨u,rfl,e0⟩:=Gf r;cases e0;obtain⟨z,hd,vs,J,dd⟩:=Zk I.za e;obtain⟨ep,f0⟩:=dd.dictAt;have hsz:vs.length<=JQ:=by rw[<-J.length];exact z
 refine pK (W.kdl_dict (knd:=Qb X.prog X.w) (kvs:=vs) (ep:=ep) hd) (I.ok.hd Y) f0 hsz λh' q g0 hk h0=>?_
 obtain⟨i0,j0⟩:=Hw J c0 h0;have O:Inv X a0 b0 H {s with heap:=h',toks:=q}:=I.kept (t':=q) hk;exact⟨.ref _,_,O.laid (t':=q) (λb o e=>Xa _ e) (Ra _) (show Fb X.prog X.w _ _ _ (.tup (ks.map V.int))from⟨by rw[Na,<-i0];exact hsz,g0.toList,bt j0,by simpa using IsTup.new _ _⟩),rfl,d0 _ (O.za.fresh (Ra _))⟩
end
section
variable{X:Cx}{pins:List (FQ×bR)}{σ:L2.St}{H:Hp}{s:GQ}{a b:FQ}{kvs bc:List (Key×V)}{ds:List (Key×QQ)}
def rK{A:OQ}(B0:A.units+61<yR)(I:Inv X pins σ H s)(i0:Rd H a (.dK kvs))(j0:Rd H b (.dK bc))(c0:KD X.K H kvs ds)(d0:KD X.K H bc ds)(k0:∀e0∈ds,e0.2.canLay0=HQ/\e0.2.depth<=60):∃q J,q.map (·.1)=kvs.map (·.1)/\J.map (·.1)=bc.map (·.1)/\(a==fR)=IQ/\(b==fR)=IQ/\s.heap.DictOf (Qb X.prog X.w) a q/\s.heap.DictOf (Qb X.prog X.w) b J/\q.length=J.length/\W.KeqHits A s J q HQ:=by
 obtain⟨_,l0,q,Y,n0⟩:=aj I.za i0;obtain⟨_,o0,J,O,f0⟩:=aj I.za j0;have p0:(bc.map (·.1)).Nodup:=by
  obtain⟨o,C0,ep,_,_,_,_,_,n⟩:=id f0;rw[O.keys];exact n
 refine nx17 q J Y.keys.symm O.keys.symm l0 o0 n0 f0 (by rw[<-Y.length,<-O.length,dm c0,dm d0]) (lA λa0 m=>?_);obtain⟨p,q0,r0,s0⟩:=GG Y a0 m;obtain⟨d,g0,t0,u0⟩:=jl c0 q0;obtain⟨D0,v0,w0,x0⟩:=oJ d0 g0;have h0:=O.val a0.1;rw[<-r0,t0,<-w0,FG p0 v0]at h0;obtain⟨y,F0,y0⟩:=h0.some_of;refine⟨y,by grind,?_⟩;obtain⟨as,z0⟩:=u0.reads I s0;obtain⟨bs,A0⟩:=x0.reads I y0;have b0:=k0 d g0;have z:=SeqAt.eqAt_reads d.2 d.2 A s a0.2 y as bs z0 A0 b0.1 b0.1 (by grind);rw[SeqAt.eqv_refl _ b0.1]at z;exact z
end
def sK(h:Pairs (Qb P w) q kvs):Pairs (Qb O Y) q kvs:=by
 induction h with
 |nil=>exact .nil
 |cons a b _ J=>exact .cons a b J
def tK(h:Pairs (Qb P w) J kvs):∀e∈J,∃q∈kvs,Sk q.1 e.key=HQ:=by
 induction h with
 |nil=>exact(by grind)
 |cons a b _ O=>
  intro e m;rcases Mb.mp m with rfl|m
  ·exact⟨_,.head _,a⟩
  ·obtain⟨q,Y,a0⟩:=O e m;exact(by grind)
def dC{P Y:MQ}{w a0:PQ}{h:NQ}{a:FQ}{kvs:List (Key×EQ)}(b0:∀k∈kvs.map (·.1),∃i,k=Sum.inl i)(d:h.DictOf (Qb P w) a kvs):h.DictOf (Qb Y a0) a kvs:=by
 obtain⟨o,c0,ep,d0,e0,f0,g0,q,h0⟩:=d;refine nx8 o c0 ep d0 e0 f0 (λe m=>?_) ⟨sK q,h0⟩;obtain⟨k,J,i0⟩:=g0 e m;obtain⟨O,n0,j0⟩:=tK q e (by simpa using m);obtain⟨i,k0⟩:=b0 O.1 (by grind);have l0:k=Sum.inl i:=k0▸(Qb P w).inj e.key k O.1 J j0;subst l0;exact⟨Sum.inl i,J,i0⟩
section
variable{X:Cx}
inductive uK(K:W.Frag)(x y:V)(H:Hp)(Q:VK):Prop|mk(l m a b p p' t t' c c' kvs bc ds w qs)(_:x=.ref l)(_:y=.ref m)(_:ja K H l [.ref a,.ref p])(_:ja K H m [.ref b,.ref p'])(_:ja K H p [.ref t])(_:ja K H p' [.ref t'])(_:xa K H t [.str w,.ref c])(_:xa K H t' [.str w,.ref c'])(_:ja K H c qs)(_:ja K H c' qs)(_:(∀v∈qs,∃q,v=.ref q))(_:a≠b)(_:p≠p')(_:t≠t')(_:c≠c')(_:Rd H a (.dK kvs))(_:Rd H b (.dK bc))(_:(∀k∈kvs.map (·.1),∃i:Int,k=Sum.inl i))(_:(∀k∈bc.map (·.1),∃i:Int,k=Sum.inl i))(_:KD K H kvs ds)(_:KD K H bc ds)(_:(∀q∈ds,q.2.canLay0=HQ/\q.2.depth<=60))(_:Q (.bl IQ) H)
def vK:∀{vs:List V}{us q:List EQ},(∀v∈vs,∃J,v=V.ref J)->Oa vs us->Oa vs q->us=q:=by
 intro vs us q h k;induction k generalizing q with
 |nil=>rintro(_|_);rfl
 |cons O c0 Y=>
  rintro(_|⟨a0,b0⟩);obtain⟨J,rfl⟩:=h _ (.head _);cases O;cases a0;rw[Y (by grind) b0]
def wK(n1:X.A.units+64<yR):Vc X (ZQ .NotEq) (uK X.K):=by
 intro o1 s p1 H x y v u Q I g0 h0 h;obtain⟨l,m,a,b,p,i0,t,t',c,j0,kvs,q1,ds,w,r1,rfl,rfl,k0,l0,n0,o0,p0,q0,r0,s0,t0,u0,v0,w0,x0,y0,z0,A0,B0,C0,D0,F0,G0⟩:=h;cases g0;cases h0;have t1:X.A.in1.units=X.A.units+1:=rfl;have u1:X.A.in1.in1.units=X.A.units+2:=rfl;have v1:X.A.in1.in1.in1.units=X.A.units+3:=rfl;have w1:X.A.in1.in1.in1.in1.units=X.A.units+4:=rfl;obtain⟨x1,y1,H0,I0,J0,K0,L0,M0,N0,O0⟩:=rK (A:=X.A.in1.in1) (by lia) I y0 z0 C0 D0 F0;obtain⟨z1,Q0,R0,_⟩:=I.list k0;obtain⟨A1,S0,U0,_⟩:=I.list l0;obtain⟨B1,V0,W0,_⟩:=I.list n0;obtain⟨C1,X0,Y0,_⟩:=I.list o0;obtain⟨D1,Z0,a1,_⟩:=I.tuple p0;obtain⟨E1,b1,d1,_⟩:=I.tuple q0;obtain⟨F1,e1,f1,_⟩:=I.list r0;obtain⟨G1,g1,h1,_⟩:=I.list s0;obtain rfl:=vK t0 e1 g1;have i1:SeqAt.EqAt X.A.in1.in1.in1 s (.ref c) (.ref j0) HQ:=by
  have:=SeqAt.RcAt.lists (A:=X.A.in1.in1.in1) (e:=λ_=>HQ) f1.isList h1.isList rfl (by lia) (λj a0 f0=>SeqAt.EqAt.same _);rw[show((List.range _).all λ_=>HQ)=HQ from List.all_eq_true.mpr λ_ _=>rfl]at this;exact Cr x0 this
 have H1:SeqAt.EqAt X.A.in1.in1 s (.ref t) (.ref t') HQ:=by
  cases Z0 with
  |cons q J=>
   cases J with
   |cons b0 c0=>
    cases c0;cases b1 with
    |cons O Y=>
     cases Y with
     |cons d0 e0=>
      cases e0;obtain⟨j1,rfl⟩:=q;obtain⟨k1,rfl⟩:=O;cases b0;cases d0;have:=SeqAt.RcAt.tuples (A:=X.A.in1.in1) (e:=λ_=>HQ) a1 d1 (by lia) (λj a0 f0=>by
       match j,a0 with
       |0,_=>
        have z:=SeqAt.EqAt.str_str (A:=X.A.in1.in1.in1) (s:=s) w j1 w k1;simpa using z
       |1,_=>exact i1)
      exact Cr w0 this
 have l1:SeqAt.EqAt X.A.in1 s (.ref p) (.ref i0) HQ:=by
  cases V0 with
  |cons q J=>
   cases J;cases X0 with
   |cons O Y=>
    cases Y;cases q;cases O;have:=SeqAt.RcAt.lists (A:=X.A.in1) (e:=λ_=>HQ) W0.isList Y0.isList rfl (by lia) (by grind);exact Cr v0 this
 cases Q0 with
 |cons q J=>
  cases J with
  |cons b0 c0=>
   cases c0;cases S0 with
   |cons O Y=>
    cases Y with
    |cons d0 e0=>
     cases e0;cases q;cases O;cases b0;cases d0;have N:=SeqAt.RcNeAt.lists (A:=X.A) (e:=λ_=>HQ) R0.isList U0.isList rfl (by lia) (λj a0 f0=>by
      match j,a0 with
      |0,_=>
       refine Cr u0 λprog w E I1 m1=>?_
       exact W.keq_eq (knd:=Qb prog w) (r:=HQ) J0 K0 (dC (H0▸A0) L0) (dC (I0▸B0) M0) (by lia) (λ_=>O0) (by rw[N0,beq_self_eq_true];exact m1)
      |1,_=>exact l1)
     exact N X.prog X.w X.xe _ ⟨.bl IQ,H,I,rfl,G0⟩
end
end My
namespace My
open PySem PySem.Spec PySem.W PyProof.Rows L2
section
variable{K:yS}{x q:Str}{st:gR}{ps:List Str}{C:FQ}
structure Me(K:yS)(C:FQ)(x q:Str)(st:gR)(ps:List Str):Prop where
 e:∃f d,Lc K C x f/\qg K x q st f d/\Wc K d ps []
noncomputable def Me.f(D:Me K C x q st ps):FQ:=D.e.choose
noncomputable def Me.d(D:Me K C x q st ps):XQ:=D.e.choose_spec.choose
def Me.m(D:Me K C x q st ps):Lc K C x D.f:=D.e.choose_spec.choose_spec.1
def Me.F(D:Me K C x q st ps):qg K x q st D.f D.d:=D.e.choose_spec.choose_spec.2.1
def Me.b(D:Me K C x q st ps):Wc K D.d ps []:=D.e.choose_spec.choose_spec.2.2
abbrev Me.Ok(D:Me K C x q st ps)(mg:Str->Option EQ)(P:MQ)(w:PQ)(base:NQ)(k:Nat)(sp:Sp):Prop:=Kb P w K mg base Qc k D.f D.d ps sp
end
section
variable{K:yS}{mg:Str->Option EQ}{h:NQ}{x q:Str}{st:gR}{ps:List Str}{f C S N:FQ}{oc kV dc pm cd ct:EQ}{od an dd:Option FQ}{sl:Array (Option EQ)}
def f2q(X:K.In h)(G:h.Ns WQ mg)(a:nsIn K WQ x=some (some (.ref f)))(l:K.lookup f=some ⟨oc,od,.func (fnOf x x (xi st) (Qf st) (ic st) .none kV dc pm an cd ct),sl⟩)(c:codeIn K cd x=HQ)(k:rS K (.ref f)=HQ)(b:wt x x st ps):Fe K mg x st ps:=(iK a l c k).fe X G b
def f1t(a:OR K (.ref C) x=some (some (.ref f)))(l:K.lookup f=some ⟨oc,od,.func (fnOf x q (xi st) (Qf st) (ic st) .none kV dc pm an cd ct),sl⟩)(c:codeIn K cd q=HQ)(k:rS K (.ref f)=HQ)(i:isFn K (.ref f)=HQ)(b:wt x q st ps):Me K C x q st ps:=by
 obtain⟨d,F,B⟩:=vt.fn (nx3 _ _ _ _ _ _ _ (nx0 _ _ l c k)) b;exact⟨f,d,⟨a,i,k⟩,F,B⟩
def f2n(D:Me K C "__init__" q st ps)(m:makesIn K C=HQ)(k:rS K (.ref C)=HQ):Mk K C D.f:=⟨m,D.m.at_,D.m.fn,k⟩
def e5x{B:FQ}(D:Me K B x q st ps)(a:OR K (.ref B) x=some (some (.ref f)))(b:OR K (.ref C) x=some (some (.ref f))):Lc K C x D.f:=by
 have e:=D.m;have z:=e.at_.symm.trans a;cases z;exact⟨b,e.fn,e.kp⟩
def e7n(l:K.lookup f=some ⟨.type "tuple",od,.seq J n,sl⟩)(z:J.size<=JQ)(v:Oa xs J.toList):∀H,xa K H f xs:=λ_=>.inr (nx8 _ _ _ l rfl rfl z v)
variable{nm qn:Str}{bs sub:List EQ}{hd ab:Bool}{sn:List Str}{col:Option Bool}{k0 k1 k2 k3 k5:Option EQ}
def f0m(D:Me K C "__init__" q st ps)(l:K.lookup C=some (xR nm qn C N bs (.ref S::gl) hd sn sub ab col dd k0 k1 k2 k3 k5 "ValueError.__new__"))(e:excIn K S gl "ValueError.__new__"=HQ)(k:rS K (.ref C)=HQ):Ws K C D.f:=⟨NA l e,D.m.at_,D.m.fn,k⟩
def e3s(l:K.lookup C=some (xR nm qn C N bs (.ref S::gl) hd sn sub ab col dd k0 k1 k2 k3 k5 "ValueError.__new__"))(e:excIn K S gl "ValueError.__new__"=HQ)(a:OR K (.ref C) "__setattr__"=some (some (.builtin "object.__setattr__")))(d:hasDictIn K C=HQ)(o:mroIn K C (.type "object")=some HQ):Uj K C:=⟨a,d,o,NA l e⟩
end
section
variable{X:Cx}{e o:SQ}{es:List SQ}{ta td ty:TE}{t:TA}{C f:FQ}{m x:Str}{fd:XQ}{ps:List Str}{k n:Nat}{sp:Sp}{apos pos p:jR}
def jx(K:yS){y:Str}(q:PE X e ta)(J:X.K=K:=by rfl)(O:YQ e y X.env (RQ e X.env)=RQ e X.env:=by rfl):PE X (.Attribute e y pos) (Xr K ta y):=aB J q O
def Ia(K:yS)(i:Nat){y:Str}(q:X.N[i]?=some x:=by rfl)(hv:Zn X.env.scope x:=by first|exact Or.inl rfl|exact Or.inr (Or.inl rfl)|exact Or.inr (Or.inr rfl))(J:(x==("__debug__":Str))=IQ:=by decide)(O:(x==("__classdict__":Str))=IQ:=by decide)(Y:X.K=K:=by rfl)(a0:YQ (.Name x p) y X.env (RQ (.Name x p) X.env)=RQ (.Name x p) X.env:=by rfl):
  PE X (.Attribute (.Name x p) y pos) (Xr K (eo i) y):=aB Y (Fv q hv J O) a0
def Ib{pl:Sem Bool}(q:PE X o ta)(c:Cls X.K C)(J:Lc X.K C m f)(F:Kb X.prog X.w X.K X.mg X.base Qc k f fd ps sp)(O:Wa n X.A)(Y:Wc X.K fd ps [])(a0:PA X (e::es) t)(h:k<=n:=by decide)
  (b0:LQ (e::es) X.env=(IQ,RQ e X.env)::LQ es X.env:=by rfl)(c0:(VQ pos (LQ es X.env)).any (·.1)=IQ:=by rfl)
  (d0:RQ (.Call (.Attribute o m apos) (e::es) [] pos) X.env=(do let ov<-RQ o X.env;qR apos.atName;let(f,first)<-zR [ov] (mR ov m pl);sR pos f first (VQ pos (LQ (e::es) X.env)) (dR pos (TQ [] X.env))):=by rfl):
  PE X (.Call (.Attribute o m apos) (e::es) [] pos) (Zr C m sp [] E0 ta t):=yz q c J (F.mono h) O Y .nil Mh a0 b0 c0 d0
def Pg{pl:Sem Bool}(q:PE X o ta)(c:Cls X.K C)(J:Lc X.K C m f)(F:Kb X.prog X.w X.K X.mg X.base Qc k f fd ps sp)(O:Wa n X.A)(Y:Wc X.K fd ps [])(h:k<=n:=by decide)
  (a0:RQ (.Call (.Attribute o m apos) [] [] pos) X.env=(do let ov<-RQ o X.env;qR apos.atName;let(f,first)<-zR [ov] (mR ov m pl);sR pos f first (VQ pos (LQ [] X.env)) (dR pos (TQ [] X.env))):=by rfl):
  PE X (.Call (.Attribute o m apos) [] [] pos) (Zr C m sp [] E0 ta Xk):=yF q c J (F.mono h) O Y .nil Mh a0
def va(q:PE X e ta)(J:LQ [e] X.env=(IQ,RQ e X.env)::LQ [] X.env:=by rfl):PA X [e] (Yr ta Xk):=ca q jf J
def Ea(i:Nat)(q:X.N[i]?=some x:=by rfl)(hv:Zn X.env.scope x:=by first|exact Or.inl rfl|exact Or.inr (Or.inl rfl)|exact Or.inr (Or.inr rfl))(J:(x==("__debug__":Str))=IQ:=by decide)(O:(x==("__classdict__":Str))=IQ:=by decide)(Y:LQ [.Name x p] X.env=(IQ,RQ (.Name x p) X.env)::LQ [] X.env:=by rfl):
  PA X [.Name x p] (Yr (eo i) Xk):=ca (Fv q hv J O) jf Y
def jc(q:X.A.units+1<yR)(ho:PE X o td)(hi:PE X i ty)(J:fw i:=by exactλ_ _=>rfl):PE X (.Subscript o i pos) (bA td ty):=qG q ho hi J
end
@[elab_as_elim]theorem nw{H:Hp}{p:FQ}{Q:Hp->Prop}{o:HO}(h:H p=none)(k:∀H',aa H H'->H' p=some o->Q H'):Q (upd H p o):=k _ (aa.upd h) ia
@[elab_as_elim]theorem nO{H:Hp}{x dx C:FQ}{Q:Hp->Prop}(h:H x=none)(hd:H dx=none)(n:dx≠x)(k:∀H',aa H H'->H' x=some (.ins C dx [])->Q H'):Q (upd (upd H dx (.own x)) x (.ins C dx [])):=
 k _ (λb o e=>by rw[ka (ie e h),ka (ie e hd)];exact e) ia
@[elab_as_elim]theorem cg{H:Hp}{p:FQ}{Q:Hp->Prop}{o:HO}(k:∀H',(∀b u,b≠p->H b=some u->H' b=some u)->H' p=some o->Q H'):Q (upd H p o):=k _ (λb u n e=>by rw[ka n];exact e) ia
@[elab_as_elim]theorem cb{G H:Hp}{p:FQ}{Q:Hp->Prop}{o:HO}(B:∀b u,b≠p->G b=some u->H b=some u)(k:∀H',(∀b u,b≠p->G b=some u->H' b=some u)->(∀b u,b≠p->H b=some u->H' b=some u)->H' p=some o->Q H'):Q (upd H p o):=cg λ_ B' h=>k _ (λb u n e=>B' b u n (B b u n e)) B' h
def xt(s:aa H G)(B:∀b u,b≠p->G b=some u->H' b=some u)(h:H p=none):aa H H':=λb o e=>B _ _ (λz=>by rw[z,h]at e;cases e) (s _ _ e)
def rf(q:nR):List Str:=q.names.filterMap λp=>match p.2 with
 |.local=>some p.1
 |.cell=>some p.1
 |_=>none
def Qa{P:MQ}{w:PQ}{K:yS}{mg:Str->Option EQ}{base:NQ}{x q:Str}{st:gR}{ps:List Str}{f:FQ}{d:XQ}{k:Nat}{sp:Sp}(F:qg K x q st f d)(h:∀{J:EQ}{A:OQ}{outer:List VR}{s:GQ}(H:Hp)(vs:List V)(Q:VK)(E:XK),Wa k (A.deeper (cR q (ic st) s.heap.objs.size f J))->sp vs H Q E->
   ∃t,oe (Pd Qc P w K mg base (rf (ic st)) q (ic st) f J A outer s H E).dh (Qf st) t/\t {nx:=λ_ H'=>Q .ya H',rt:=Q} (start (rf (ic st)) vs) H)
  (S:Zi (rf (ic st)) ps (ic st):=by exact ml)(l:∀vs H Q E,sp vs H Q E->vs.length=ps.length:=by intro vs H Q E h;first|(cases h;subst_vars;rfl)|(repeat(first|(obtain⟨rfl,_⟩:=h;rfl)|(obtain⟨_,h⟩:=h)))):Kb P w K mg base Qc (k+1) f d ps sp:=F.ok S l λ_ _ _ _=>h
section
variable{X:Cx}
def Ya(i:Nat){x:Str}{q J:jR}(O:PE X e Y)(a0:X.N.Nodup:=by show(rf _).Nodup;decide+kernel)(hi:X.N[i]?=some x:=by rfl)(b0:Loc X.env.scope x:=by first|exact Or.inl rfl|exact Or.inr rfl)(c0:kR e (some (.Name x J)) q.line X.env=pure IQ:=by rfl)
  (d0:X.fn x=HQ\/X.env.scope.names.lookup x=some .local:=by first|exact .inl rfl|exact .inr rfl|assumption):PS X (.Assign [.Name x J] e q) (Hv Y (Bm i)):=Yy a0 hi b0 O c0 d0
def Kd(i:Nat){x:Str}{q:jR}(J:X.N.Nodup:=by show(rf _).Nodup;decide+kernel)(hi:X.N[i]?=some x:=by rfl)(O:Loc X.env.scope x:=by first|exact Or.inl rfl|exact Or.inr rfl)(Y:X.fn x=HQ\/X.env.scope.names.lookup x=some .local:=by first|exact .inl rfl|exact .inr rfl|assumption):PG X (.Name x q) (Bm i):=Gv J hi O Y
end
open PyProof PySem.SeqAt
def xK{q:Nat->Nat->(Bool->GQ->Prop)->GQ->Prop}{Q:Array Nat->GQ->Prop}{s:GQ}{n:Nat}(c0:1<=n)(ask:∀k,k+1<n->∀C:Bool->GQ->Prop,C IQ s->q (k+1) k C s)(J:Q (List.toArray (List.range n)) s):(kas_sort n).kasWp q Q s:=by
 have O:∀(G:Nat->GQ->Prop)(f k:Nat),k+1+f=n->G n s->(kas_asc (List.toArray (List.range n)) f (k+1)).kasWp q G s:=by
  intro G f;induction f with
  |zero=>rintro k rfl g;exact g
  |succ f Y=>
   intro k e g;have a0:(List.toArray (List.range n)).getD (k+1) 0=k+1:=by simp[Array.getD];lia
   have b0:(List.toArray (List.range n)).getD (k+1-1) 0=k:=by simp[Array.getD];lia
   show q _ _ _ s;rw[a0,b0];exact ask k (by lia) _ (Y (k+1) (by lia) g)
 unfold kas_sort kas_count;rw[KasT.kasWp_bind,KasT.kasWp_bind];refine O _ (n-1) 0 (by lia) ?_;simpa[KasT.kasWp]using J
def yK{prog:MQ}{w:PQ}{A:OQ}{E:EQ->GQ->Prop}{s:GQ}{vs:List EQ}{a F:FQ}{m:Str->Option EQ}{n:Nat}{P:PySem.Fin->GQ->Prop}(b0:SortKind)(s0:vs.length<64)
  (ho:s.heap.get? a=some (hR "list" vs.toArray n))(Y:s.heap.Ns F m)
  (t0:2<=vs.length->∀h',Gq s.heap h'->∀(R:SortKind->GQ->Prop)(c0:EQ->GQ->Prop),R b0 {s with heap:=h'}->wpAny (KQ prog w) A (keyKind' vs.toArray) R c0 {s with heap:=h'})
  (u0:∀h',Gq s.heap h'->∀k x y,vs[k]?=some x->vs[k+1]?=some y->∀(R:Bool->GQ->Prop)(c0:EQ->GQ->Prop),R IQ {s with heap:=h'}->wpAny (KQ prog w) A (keyLt' b0 y x) R c0 {s with heap:=h'})
  (h:∀h' c,(∀b o,b≠F->b≠a->s.heap.get? b=some o->h'.get? b=some o)->h'.Ns F m->h'.get? a=some (hR "list" vs.toArray c)->P (.done (.ret .none)) {s with heap:=h'}):
  wpAny (KQ prog w) A (Builtin.«list.sort» ⟨[.ref a],[]⟩) P E s:=by
 have d0:a≠F:=λe=>by
  obtain⟨o,e0,ep,q,J,_⟩:=Y;rw[<-e,ho]at q;cases q;cases J
 by_cases O:2<=vs.length
 ·have v0:Fr {} F s.heap m:=⟨Y,(λb o e=>by rw[Go]at e;cases e),wc _⟩;have w0:News {} F s.heap ((Fo F s.heap).filter λp=>decide (p.1≠a)):=λp f0=>by
   obtain⟨x,y⟩:=EB (Gh.mp f0).1;exact⟨y,x,Go _⟩
  have j0:∀p∈(Fo F s.heap).filter (λp=>decide (p.1≠a)),p.1≠a:=λp f0=>Ed (Gh.mp f0).2
  have k0:∀{b:FQ}{o:bR},b≠F->b≠a->s.heap.get? b=some o->(b,o)∈(Fo F s.heap).filter λp=>decide (p.1≠a):=λ{b o}x y e=>Gh.mpr ⟨nt x e,Ec y⟩
  refine kat_list_sort v0 w0 ho d0 (Go _) j0 O s0 λq h' x0 l0=>?_
  have n0:Gq s.heap h':=λb o xs c e y0 z0=>(l0 (b,o) (.tail _ (k0 (λz=>by
   obtain⟨K0,e0,ep,q,J,_⟩:=Y;rw[<-z,e]at q;cases q;rw[z0]at J;cases J) (λz=>by
   rw[z,ho]at e;cases e;exact absurd (show Value.type "list"=Value.type "tuple"from y0) (by decide)) e))).1
  refine t0 O h' n0 _ _ (xK (by lia) (λk hk C A0=>?_) ?_)
  ·have B0:vs.getD (k+1) .none=vs[k+1]:=by simp[List.getD,hk]
   have C0:vs.getD k .none=vs[k]:=by simp[List.getD,Nat.lt_of_succ_lt hk]
   show wpAny _ _ (keyLt' b0 (vs.getD (k+1) .none) (vs.getD k .none)) _ _ _;rw[C0,B0];exact u0 h' n0 k _ _ (by simp) (by simp[hk]) _ _ A0
  refine KasFin.intro x0 l0 (.head j0) λD0 c F0 o0=>h D0 c (λb o x y e=>(o0 (b,o) (.tail _ (k0 x y e))).1) F0.ns ?_
  have e:(List.range vs.length).map (λi=>vs.getD i .none)=vs:=by
   apply List.ext_getElem
   ·simp
   ·intro i G0 O;simp[List.getD,O]
  have:=(o0 _ (.head _)).1;rw[List.toList_toArray,e]at this;exact this
 ·rw[list_sort_plain];refine ba (listItems_at ho rfl (ba (listUpdate_at ho rfl ?_ (by rw[Zc,Fh];lia) (wc _))));obtain⟨q,p0⟩:∃q,(s.heap.update a (Obj.mapSeq λ_=>(#[]:Array EQ))).get? a=some (hR "list" #[] q):=⟨_,get?_update_seq ho (λ_=>#[])⟩;refine ba (seqEpoch_at p0 rfl (ba (AS (ba (YR (eg ?_) (wc _))) (by show vs.length<=_;rw[Fh];lia))));have s1:=Qk s.heap a (Obj.mapSeq λ_=>(#[]:Array EQ));have g0:∀b o,b≠a->s.heap.get? b=some o->(((s.heap.update a (Obj.mapSeq λ_=>(#[]:Array EQ))).push (hR "tuple" vs.toArray 0)).push (hR "list" #[] 0)).get? b=some o:=λb o y e=>Xa _ (Xa _ ((s1.2 b y).trans e))
  have a0:=Xa (hR "list" #[] 0) (Xa (hR "tuple" vs.toArray 0) p0);show wpAny (KQ prog w) A _ P E {s with heap:=((s.heap.update a (Obj.mapSeq λ_=>(#[]:Array EQ))).push (hR "tuple" vs.toArray 0)).push (hR "list" #[] 0)};generalize((s.heap.update a (Obj.mapSeq λ_=>(#[]:Array EQ))).push (hR "tuple" vs.toArray 0)).push (hR "list" #[] 0)=h0 at g0 a0;dsimp only;have q0:vs.toArray.size<2:=by rw[Zc];lia
  rw[Ca q0,Ca q0];refine ba (Aa ?_);rw[StateT.run_pure];refine ba (Aa (show wpAny _ _ (seqEpoch a>>=_) _ _ {s with heap:=h0}from ba (seqEpoch_at a0 rfl ?_)));have H0:(arrOf (SortSt.mk' general' (vs.toArray.zip vs.toArray) #[] 7 none)).map (·.2)=vs.toArray:=by
   show(vs.toArray.zip vs.toArray).map (·.2)=_;apply Array.ext
   ·simp
   ·intro i G0 O;simp
  dsimp only;rw[H0];refine ba (listUpdate_at a0 rfl ?_ (wc _) (by rw[Zc,Fh];lia));simp only[bne_self_eq_false,Qn,if_false];have r0:=Qk h0 a (Obj.mapSeq λ_=>vs.toArray);obtain⟨i0,I0⟩:∃i0,(h0.update a (Obj.mapSeq λ_=>vs.toArray)).get? a=some (hR "list" vs.toArray i0):=⟨_,get?_update_seq a0 λ_=>vs.toArray⟩;refine Aa (h _ i0 (λb o _ y e=>(r0.2 b y).trans (g0 b o y e)) ?_ I0);obtain⟨o,e0,ep,q,J,J0⟩:=Y;exact nx9 o e0 ep ((r0.2 F d0.symm).trans (g0 F o d0.symm q)) J J0
section
variable{X:Cx}{pins:List (FQ×bR)}{σ:L2.St}{H:Hp}{s:GQ}
def zK:gf X (.builtin "sorted") (λxs H Q=>∃(a:FQ)(vs:List V)(ks:List (List Key))(cd:Key->Int),xs=[V.ref a]/\ja X.K H a vs/\Paired (Ei H) vs ks/\WJ cd ks/\vs.length<64/\ks.Pairwise (λa b=>ll (b.map cd) (a.map cd)=IQ)/\
  ∀p,H p=none->Q (.ref p) (upd H p (.lst vs))):=by
 intro pins s σ H xs us Q I r h;obtain⟨a,vs,ks,cd,rfl,e,p0,O,q0,r0,b0⟩:=h;obtain⟨u,rfl,s0⟩:=Gf r;cases s0;obtain⟨q,d0,t0,g0⟩:=I.list e;have h0:q.length=vs.length:=d0.length.symm;have hz:q.length<=JQ:=by rw[h0];exact g0
 refine vv kind_sorted ZS bT (fT _) ?_;unfold Builtin.«sorted»;refine ba (m:=checkCount "sorted" 1 1 _) (Aa (ba (collect_list t0.isList (ba (YR ?_ (by simpa using hz))) (by simpa using hz))));have a0:∀b o,s.heap.get? b=some o->((s.heap.push (hR "list" #[] 0)).update s.heap.objs.size (Obj.mapSeq (·++q.toArray))).get? b=some o:=λb o e=>by
  rw[Jr _ _ _ _ (Ob (pb e))];exact Xa _ e
 have hsz:((s.heap.push (hR "list" #[] 0)).update s.heap.objs.size (Obj.mapSeq (·++q.toArray))).objs.size=s.heap.objs.size+1:=by rw[Heap.size_update,zh]
 generalize(s.heap.push (hR "list" #[] 0)).update s.heap.objs.size (Obj.mapSeq (·++q.toArray))=J at a0 hsz;have e0:s.heap.objs.size<=J.objs.size:=by rw[hsz];exact wj _
 have f0:∀b o,s.heap.get? b=some o->(J.push {cls:=.type "list",data:=.seq q.toArray}).get? b=some o:=λb o e=>Xa _ (a0 b o e)
 have i0:(J.push {cls:=.type "list",data:=.seq q.toArray}).get? J.objs.size=some (hR "list" q.toArray 0):=ec _ rfl;obtain⟨m,j0,_⟩:=id I.loc;have hk:Paired (λv k=>Og (J.push {cls:=.type "list",data:=.seq q.toArray}) k v) q ks:=by
  have u0:∀{ys:List V}{us:List EQ}{c0:List (List Key)},Oa ys us->Paired (Ei H) ys c0->Paired (λv k=>Og (J.push {cls:=.type "list",data:=.seq q.toArray}) k v) us c0:=by
   intro ys us c0 v p;induction v generalizing c0 with
   |nil=>cases p;exact .nil
   |cons r t v0=>
    cases p with
    |cons a b=>exact .cons (hK (I.kept (t':=s.toks) f0) a r) (v0 b)
  exact u0 d0 p0
 obtain⟨T,k0⟩:∃T:EQ,(T==T)=HQ/\∀k r,k::r∈ks->bn k=T:=by
  match ks,O with
  |[],_=>exact⟨.type "int",by decide,λk r Y=>by cases Y⟩
  |[]::_,O=>exact absurd rfl (O.2 _ (.head _))
  |(a0::U0)::V0,O=>exact⟨bn a0,gK _,λk r Y=>fK (O.1 _ Y _ (.head _)).1⟩
 refine ba (eg (Ug FS ⟨_,i0,rfl⟩ xS (yK (s:={s with heap:=J.push {cls:=.type "list",data:=.seq q.toArray}}) (tuples' (T !=Value.type "tuple")) (by rw[h0];exact q0) i0 (j0.keeps f0) (λW0 h' k R w0 b0=>?_) (λh' k i x y ex x0 R w0 b0=>?_) λh' c y0 z0 A0=>?_) (JS _)))
 ·obtain⟨fs,t,l,B0⟩:=cK (cd:=cd) (Paired.imp' (λv X0 x=>Og.Fi x k) hk) O.2;refine kat_kind (s:={s with heap:=h'}) t (by lia) (λv hv=>?_) k0.1 b0;obtain⟨a0,r,Y,C0⟩:=B0 v hv;rw[<-k0.2 a0 r Y];exact eK C0
 ·obtain⟨D0,l0,ix⟩:=Xj hk ex;obtain⟨F0,n0,G0⟩:=Xj hk x0;obtain⟨Y0,Z0,nx,a1,rfl,H0,_,I0,J0⟩:=ix.Fi k;obtain⟨b1,d1,e1,f1,rfl,K0,_,L0,M0⟩:=G0.Fi k;refine kat_lt (s:={s with heap:=h'}) K0 L0 H0 I0 (bK (s:={s with heap:=h'}) M0 J0 (O.1 _ (Cg n0) _ (Cg l0)) (by simp) ?_);obtain⟨li,N0⟩:=ee.mp l0;obtain⟨O0,Q0⟩:=ee.mp n0;rw[show ll (F0.map cd) (D0.map cd)=IQ by rw[<-N0,<-Q0];exact Cp.mp r0 i (i+1) li O0 (Nat.lt_succ_self _)];exact b0
 have R0:=IB (t':=s.toks) (D:=J.objs.size) (u:=.lst vs) (h':=h') I (λb o S0 o0=>y0 b o S0 (Ob (pd (pb o0) e0)) (f0 b o o0)) (λg1 Y=>Ww j0 Y▸z0) e0 ⟨g0,q,c,d0,A0⟩;exact⟨_,rfl,Aa ⟨_,rfl,.ref _,_,R0,rfl,b0 _ (I.za.fresh e0)⟩⟩
end
end My
namespace Lw
open PySem PySem.Spec PyProof.Rows L2 My
set_option maxHeartbeats 4000000
inductive Lv where
 |loose|kept|make|watch|hold
def wd:Lv->Str
 |.loose=>"loose"
 |.kept=>"kept"
 |.make=>"make"
 |.watch=>"watch"
 |.hold=>"hold"
def ix:Lv->Nat
 |.loose=>0
 |.kept=>1
 |.make=>2
 |.watch=>3
 |.hold=>4
def yt:Lv->Bool
 |.make=>HQ
 |.watch=>HQ
 |_=>IQ
def AK:Lv->Bool
 |.loose=>HQ
 |_=>IQ
def BK:Lv->Bool
 |.hold=>HQ
 |_=>IQ
def Jo:Lv->Bool
 |.watch=>HQ
 |_=>IQ
def Qg:Lv->Int->Int->Int
 |.make,b,_=>b
 |.watch,b,_=>b
 |_,_,n=>n
def eC:Lv->Int->Int->Bool
 |.make,b,n=>decide (n>b)
 |.watch,b,n=>decide (n>b)
 |_,_,_=>IQ
def vl:Option Int->V
 |none=>.ya
 |some k=>.int k
def cn:Lv->Int->List Int->Int->Bool->List Int
 |.kept,_,q,e,_=>q++[e]
 |.make,b,_,e,_=>[b,e]
 |.watch,b,_,e,J=>[if J then b else e]
 |_,_,_,e,_=>[e]
def Ko(l:Lv):Sp:=λvs H Q _=>∃x,vs=[x]/\Q (.str (wd l)) H
def kx(l:Lv):Sp:=λvs H Q _=>∃(x:V)(b n:Int),vs=[x,.int b,.int n]/\Q (.int (Qg l b n)) H
def mx(l:Lv):Sp:=λvs H Q _=>∃(x:V)(b n:Int),vs=[x,.int b,.int n]/\Q (.bl (eC l b n)) H
def px(l:Lv):Sp:=λvs H Q _=>∃x,vs=[x]/\Q (.bl (AK l)) H
def qx(l:Lv):Sp:=λvs H Q _=>∃x,vs=[x]/\Q (.bl (BK l)) H
def rx(l:Lv):Sp:=λvs H Q _=>∃x,vs=[x]/\Q (.bl (Jo l)) H
inductive Lo(l:Lv)(vs:List V)(H:Hp)(Q:VK)(E:XK):Prop|mk(x:V)(b:Int)(st:FQ)(e:Int)(Kq:Bool)(ns:List Int)(_:vs=[x,.int b,.ref st,.int e,.bl Kq])(_:H st=some (.lst (ns.map V.int)))(_:ns.length<=41)(_:∀p H',H p=none->aa H H'->H' p=some (.lst ((cn l b ns e Kq).map V.int))->Q (.ref p) H')
def aa.Hf(Y:H x=none)(a0:H q=none)(n:q≠x):aa H (upd (upd H q (.own x)) x (.ins C q [])):=λb o e=>by
 have J:b≠x:=λz=>by grind
 have O:b≠q:=λz=>by grind
 rw[ka J,ka O];exact e
def top(i:Nat):gR:=PySem.Challenge.pw_skewhouse_k42_one_dealing_by_itself.main.body.getD i (.Pass ⟨0,0,0,0⟩)
def CK(s:gR):List gR:=match s with
 |.ClassDef _ _ _ b _ _ _ _ _ _ _=>b
 |_=>[]
def cm(i j:Nat):gR:=(CK (top i)).getD j (.Pass ⟨0,0,0,0⟩)
abbrev Lq:gR:=top 33
set_option genInjectivity false in
set_option genSizeOf false in
open PySem.W in
structure Ty(K:yS)(mg:Str->Option EQ)where
 ux:FQ
 EK:FQ
 FK:FQ
 sf:FQ
 fC:FQ
 jh:FQ
 kh:FQ
 lh:FQ
 mh:FQ
 nh:FQ
 Ie:FQ
 Cb:FQ
 wf:FQ
 Jc:FQ
 ub:FQ
 GK:mg "SkewError"=some (.ref ux)
 yQ:mg "NoLevel"=some (.ref EK)
 zQ:mg "NoDealing"=some (.ref FK)
 HK:mg "Broken"=some (.ref sf)
 AQ:mg "Waits"=some (.ref fC)
 IK:mg "Loose"=some (.ref jh)
 JK:mg "Kept"=some (.ref kh)
 LK:mg "Make"=some (.ref lh)
 MK:mg "Watch"=some (.ref mh)
 NK:mg "Hold"=some (.ref nh)
 QK:mg "Span"=some (.ref Ie)
 RK:mg "Deal"=some (.ref Cb)
 SK:mg "Holds"=some (.ref wf)
 TK:mg "Shelf"=some (.ref Jc)
 UK:mg "House"=some (.ref ub)
 BQ:VG K mg "SkewError" ux
 vx:Fe K mg "is_whole" (top 8) ["thing"]
 gj:Fe K mg "worth" (top 9) ["operand","names"]
 wx:Fe K mg "asked" (top 11) ["deed","names"]
 xx:Fe K mg "told" (top 12) ["deed","rows"]
 yx:Fe K mg "let_of" (top 13) ["deed","names"]
 zt:Fe K mg "under" (top 14) ["deed","names"]
 zx:Fe K mg "following" (top 15) ["deed","place","names","many"]
 Bt:Me K jh "word" "Loose.word" (cm 17 0) ["self"]
 wl:Me K jh "stand" "Loose.stand" (cm 17 1) ["self","begin","now"]
 xl:Me K jh "late" "Loose.late" (cm 17 2) ["self","begin","stamp"]
 Ct:Me K jh "unkept" "Loose.unkept" (cm 17 3) ["self"]
 hj:Me K jh "holds_asks" "Loose.holds_asks" (cm 17 4) ["self"]
 ij:Me K jh "watches" "Loose.watches" (cm 17 5) ["self"]
 Et:Me K jh "stamps" "Loose.stamps" (cm 17 9) ["self","begin","stands","end","early"]
 Ft:Me K kh "word" "Kept.word" (cm 18 0) ["self"]
 jj:Me K kh "unkept" "Kept.unkept" (cm 18 1) ["self"]
 Ht:Me K kh "stamps" "Kept.stamps" (cm 18 5) ["self","begin","stands","end","early"]
 Jt:Me K lh "word" "Make.word" (cm 19 0) ["self"]
 Mo:Me K lh "stand" "Make.stand" (cm 19 1) ["self","begin","now"]
 No:Me K lh "late" "Make.late" (cm 19 2) ["self","begin","stamp"]
 Kt:Me K lh "stamps" "Make.stamps" (cm 19 6) ["self","begin","stands","end","early"]
 Mt:Me K mh "word" "Watch.word" (cm 20 0) ["self"]
 Nt:Me K mh "watches" "Watch.watches" (cm 20 1) ["self"]
 Ot:Me K mh "stamps" "Watch.stamps" (cm 20 3) ["self","begin","stands","end","early"]
 Pt:Me K nh "word" "Hold.word" (cm 21 0) ["self"]
 Qt:Me K nh "holds_asks" "Hold.holds_asks" (cm 21 1) ["self"]
 Rt:Me K nh "stamps" "Hold.stamps" (cm 21 5) ["self","begin","stands","end","early"]
 Ax:Fe K mg "level_of" (top 22) ["word"]
 Oo:Fe K mg "inside" (top 24) ["key","low","high"]
 CQ:Fe K mg "meet" (top 25) ["low","high","other_low","other_high"]
 Mq:Fe K mg "laid" (top 26) ["rows","drafts","low","high"]
 Nq:Me K sf "__init__" "Broken.__init__" (cm 6 0) ["self","dealing","why"]
 Tt:Me K Ie "__init__" "Span.__init__" (cm 28 0) ["self","number","watched","begin","end","looks","puts"]
 gC:Fe K mg "passes_by" (top 29) ["look","key","end"]
 Po:Fe K mg "older" (top 30) ["one","other"]
 Dx:Fe K mg "first_one" (top 31) ["spans","mid"]
 Ut:Fe K mg "first_other" (top 32) ["spans","mid"]
 Ex:Fe K mg "let_in" (top 34) ["kept","new"]
 Fx:Fe K mg "early" (top 35) ["span","kept"]
 Vt:Me K Cb "__init__" "Deal.__init__" (cm 39 0) ["self","number","program"]
 Wt:Me K Cb "has_ended" "Deal.has_ended" (cm 39 1) ["self"]
 Xt:Me K Cb "is_open" "Deal.is_open" (cm 39 2) ["self"]
 Yt:Me K Cb "wake" "Deal.wake" (cm 39 3) ["self","stamp"]
 Zt:Me K Cb "is_through" "Deal.is_through" (cm 39 4) ["self"]
 Qo:Me K Cb "next_place" "Deal.next_place" (cm 39 5) ["self"]
 au:Me K Cb "write" "Deal.write" (cm 39 6) ["self","key","value","stamp"]
 bu:Me K Cb "note_look" "Deal.note_look" (cm 39 7) ["self","stand","low","high","drafters"]
 cu:Me K Cb "span" "Deal.span" (cm 39 8) ["self","end"]
 gn:Me K Cb "finish" "Deal.finish" (cm 39 9) ["self","phase","why"]
 hC:Fe K mg "clashes" (top 41) ["hold","low","high","own"]
 du:Me K wf "__init__" "Holds.__init__" (cm 42 0) ["self"]
 eu:Me K wf "against" "Holds.against" (cm 42 1) ["self","dealing","low","high","own"]
 fu:Me K wf "take" "Holds.take" (cm 42 2) ["self","dealing","low","high","own"]
 jn:Me K wf "free" "Holds.free" (cm 42 3) ["self","dealing"]
 Oq:Me K Jc "__init__" "Shelf.__init__" (cm 49 0) ["self","rows"]
 Pq:Me K Jc "put" "Shelf.put" (cm 49 1) ["self","stamp","dealing","drafts"]
 Ro:Me K Jc "make" "Shelf.make" (cm 49 2) ["self","key","stamp"]
 So:Me K Jc "newest" "Shelf.newest" (cm 49 3) ["self","key"]
 gu:Me K Jc "rows" "Shelf.rows" (cm 49 4) ["self","low","high","stamp"]
 iu:Me K Jc "there" "Shelf.there" (cm 49 5) ["self","stamp"]
 ju:Me K Jc "touched" "Shelf.touched" (cm 49 6) ["self","low","high"]
 ku:Me K Jc "makers" "Shelf.makers" (cm 49 7) ["self","key"]
 To:Me K Jc "known" "Shelf.known" (cm 49 8) ["self","low","high"]
 Uo:Me K Jc "rows_of" "Shelf.rows_of" (cm 49 9) ["self","keys","stamp"]
 Gx:Fe K mg "drafters_of" (top 54) ["others","low","high"]
 lu:Me K ub "__init__" "House.__init__" (cm 55 0) ["self","rows","programs"]
 mu:Me K ub "step" "House.step" (cm 55 1) ["self","number"]
 nu:Me K ub "weave" "House.weave" (cm 55 2) ["self","numbers"]
 Vo:Me K ub "log" "House.log" (cm 55 4) ["self"]
 Wo:Me K ub "rows" "House.rows" (cm 55 5) ["self"]
 Xo:Me K ub "state" "House.state" (cm 55 6) ["self","number"]
 ou:Me K ub "reason" "House.reason" (cm 55 7) ["self","number"]
 qu:Me K ub "level_word" "House.level_word" (cm 55 8) ["self","number"]
 yl:Me K ub "looked" "House.looked" (cm 55 9) ["self","number"]
 zl:Me K ub "made" "House.made" (cm 55 10) ["self"]
 Yo:Me K ub "order" "House.order" (cm 55 11) ["self"]
 xf:Me K ub "deal_of" "House.deal_of" (cm 55 12) ["self","number"]
 Jf:Me K ub "tell" "House.tell" (cm 55 13) ["self","deal","parts"]
 ru:Me K ub "attempt" "House.attempt" (cm 55 14) ["self","deal"]
 Qq:Me K ub "act" "House.act" (cm 55 15) ["self","deal"]
 su:Me K ub "look" "House.look" (cm 55 16) ["self","deal","deed"]
 tu:Me K ub "seen_unkept" "House.seen_unkept" (cm 55 17) ["self","deal"]
 uu:Me K ub "write" "House.write" (cm 55 18) ["self","deal","deed"]
 vu:Me K ub "let" "House.let" (cm 55 19) ["self","deal","deed"]
 Rq:Me K ub "go" "House.go" (cm 55 20) ["self","deal","deed"]
 wu:Me K ub "keep" "House.keep" (cm 55 21) ["self","deal"]
 Sq:Me K ub "break_off" "House.break_off" (cm 55 22) ["self","deal","why"]
 Zo:Me K ub "take" "House.take" (cm 55 23) ["self","deal","low","high","own"]
 xu:Me K ub "pairs_of" "House.pairs_of" (cm 55 28) ["self","look"]
 yu:Me K ub "source_of" "House.source_of" (cm 55 29) ["self","key","look"]
 bp:Fe K mg "_law_cell" (top 57) ["_law_script","_law_k"]
 Tq:Fe K mg "_law_mix" (top 58) ["_law_cell_here","_law_k"]
 Je:Fe K mg "_law_same" (top 59) ["_law_found","_law_due"]
 Hx:Fe K mg "_law_base" (top 60) ["_law_cell_here"]
 Uq:Fe K mg "_law_operand" (top 61) ["_law_number","_law_plain"]
 Ix:Fe K mg "_law_deed" (top 62) ["_law_cell_here","_law_base_here"]
 ck:Fe K mg "_law_worth" (top 63) ["_law_operand_here","_law_names"]
 Vq:Fe K mg "_law_over" (top 64) ["_law_rows","_law_drafts"]
 Jx:Fe K mg "_law_stretch" (top 65) ["_law_rows","_law_low","_law_high"]
 Kx:Fe K mg "_law_look" (top 66) ["_law_deed_here","_law_deal"]
 Lx:Fe K mg "_law_turn" (top 67) ["_law_deed_here","_law_deal"]
 Mx:Fe K mg "_law_play" (top 68) ["_law_deal","_law_deeds"]
 Ox:Fe K mg "_law_new" (top 69) ["_law_rows","_law_many"]
 Px:Fe K mg "_law_rows_by" (top 70) ["_law_script","_law_base_here"]
 Qx:Fe K mg "_law_asked" (top 71) ["_law_house","_law_deal","_law_word","_law_ended","_law_rows"]
 Rx:Fe K mg "law" (top 72) ["_law_script"]
 WK:e3a K sf
 iC:Ws K sf Nq.f
 Ux:Uj K sf
 YK:Mk K Ie Tt.f
 Ae:Cls K Ie
 Al:Ic K Ie "number"
 Vx:Ic K Ie "watched"
 Wx:Ic K Ie "begin"
 Wq:Ic K Ie "end"
 ZK:Ic K Ie "looks"
 jC:Ic K Ie "puts"
 aL:Mk K Cb Vt.f
 Ua:Cls K Cb
 Gi:Ic K Cb "number"
 dk:Ic K Cb "level"
 Xq:Ic K Cb "deeds"
 cp:Ic K Cb "place"
 Hi:Ic K Cb "names"
 Bl:Ic K Cb "phase"
 gp:Ic K Cb "begin"
 Xx:Ic K Cb "why"
 kC:Ic K Cb "wanted"
 Dl:Ic K Cb "drafts"
 lC:Ic K Cb "wrote"
 Yq:Ic K Cb "looks"
 bL:Mk K wf du.f
 El:Cls K wf
 zu:Ic K wf "taken"
 cL:Mk K Jc Oq.f
 Ke:Cls K Jc
 Fl:Ic K Jc "makes"
 dL:Mk K ub lu.f
 Va:Cls K ub
 Hl:Ic K ub "shelf"
 Au:Ic K ub "holds"
 Bu:Ic K ub "deals"
 hp:Ic K ub "spans"
 kj:Ic K ub "stamp"
 Il:Ic K ub "told_rows"
 Jl:Ho K jh
 Kl:Ho K kh
 eL:Lc K kh "stand" wl.f
 gL:Lc K kh "late" xl.f
 hL:Lc K kh "holds_asks" hj.f
 iL:Lc K kh "watches" ij.f
 Ll:Ho K lh
 jL:Lc K lh "unkept" jj.f
 kL:Lc K lh "holds_asks" hj.f
 lL:Lc K lh "watches" ij.f
 Ml:Ho K mh
 mL:Lc K mh "stand" Mo.f
 nL:Lc K mh "late" No.f
 oL:Lc K mh "unkept" jj.f
 pL:Lc K mh "holds_asks" hj.f
 Nl:Ho K nh
 qL:Lc K nh "unkept" jj.f
 rL:Lc K nh "stand" wl.f
 sL:Lc K nh "late" xl.f
 tL:Lc K nh "watches" ij.f
 tg:specialIn K (.builtin "object.__class__") "__get__"=some (some (.builtin "getset_descriptor.__get__"))
 tt:takesIn K (.builtin "object.__class__")=some HQ
 uL:OR K (.ref sf) "dealing"=some none
 mC:OR K (.ref sf) "why"=some none
 vL:f3k K ux "__init__" "ValueError.__init__"
 wL:subIn K (.ref sf) (.ref sf)=some HQ
 xL:e4r K mg "Broken" sf
 yL:e4r K mg "Waits" fC
 Cu:FQ
 zL:mg "END_PHASES"=some (.ref Cu)
 AL:∀H:Hp,xa K H Cu [V.str "kept",V.str "broken"]
 ek:FQ
 BL:mg "LOOKS"=some (.ref ek)
 ip:∀H:Hp,xa K H ek [V.str "read",V.str "sum",V.str "count"]
 Ol:FQ
 CL:mg "WRITES"=some (.ref Ol)
 Zq:∀H:Hp,xa K H Ol [V.str "put",V.str "take"]
 Pl:FQ
 nC:mg "NO_MAKE"=some (.ref Pl)
 oC:∀H:Hp,xa K H Pl [V.int 0,V.int 0,V.ya]
 DL:Tok
 Yx:mg "START"=some (.int (0) DL)
 Du:FQ
 EL:mg "OPEN_PHASES"=some (.ref Du)
 FL:∀H:Hp,xa K H Du [V.str "going",V.str "waiting"]
 GL:Tok
 HL:mg "UNKEPT"=some (.int (-1) GL)
 IL:mg "any"=none
 pC:mg "bool"=none
 Eu:mg "dict"=none
 qC:mg "enumerate"=none
 rC:mg "int"=none
 Th:mg "isinstance"=none
 Ye:mg "len"=none
 gk:mg "list"=none
 DQ:mg "max"=none
 sC:mg "min"=none
 Fu:mg "range"=none
 JL:mg "reversed"=none
 uC:mg "set"=none
 Uf:mg "sorted"=none
 Zx:mg "str"=none
 vC:mg "sum"=none
 Ql:mg "tuple"=none
 KL:mg "zip"=none
set_option genInjectivity false in
set_option genSizeOf false in
open PySem.W in
structure Tx(K:yS)(mg:Str->Option EQ)extends Ty K mg where
 ay:FQ
 Gu:XQ
 wC:qg K "closing" "closing" Lq ay Gu
 LL:Wc K Gu ["kept","new"] []
 ML:mg "closing"=some (.ref ay)
 lc:FQ
 lp:FQ
 NL:Gu.code=.ref lc
 OL:codeHdIn K lc lp=HQ
def ar:Zi ["kept","new","spans","mid","one","other"] ["kept","new"] (ic Lq):=⟨rfl,rfl,rfl,by decide+kernel,rfl,by decide+kernel,by decide+kernel⟩
def cO{K:W.Frag}{mg:Str->Option EQ}(T:Tx K mg):Lv->FQ
 |.loose=>T.jh
 |.kept=>T.kh
 |.make=>T.lh
 |.watch=>T.mh
 |.hold=>T.nh
def Uh(v:V):Prop:=(∃n,v=.int n)\/∃x:Str,v=.str x
def PL:V->Bool
 |.int _=>HQ
 |_=>IQ
def xC:V->Int
 |.int n=>n
 |_=>0
def wI(v:V)(kvs:List (Key×V)):Int:=match v with
 |.int n=>n
 |.str x=>xC ((kb kvs (Sum.inr x)).getD (.int 0))
 |_=>0
def yC(q:ze kvs)(x:Str):(kb kvs (Sum.inr x:Key)).getD (.int 0)=.int (wI (.str x) kvs):=by
 show _=V.int (xC ((kb kvs (Sum.inr x)).getD (.int 0)));cases e:kb kvs (Sum.inr x:Key)with
 |none=>rfl
 |some v=>
  obtain⟨J,O,hv⟩:=nA e;obtain⟨n,Y⟩:=q J O;rw[<-hv,Y];rfl
def br(w:Str)(r:List V)(kvs:List (Key×V))(more:Int):Prop:=
 (¬w="skip"/\more=0)\/∃q J n,w="skip"/\r=[q,J,.int n]/\Uh q/\Uh J/\more=if wI q kvs<wI J kvs then n else 0
def QL:Sp:=λvs H Q _=>∃v,vs=[v]/\Uh v/\Q (.bl (PL v)) H
inductive RL(vs:List V)(H:Hp)(Q:VK)(E:XK):Prop|mk(v d kvs)(_:vs=[v,.ref d])(_:Uh v)(_:H d=some (.dK kvs))(_:ze kvs)(_:Q (.int (wI v kvs)) H)
inductive TL(vs:List V)(H:Hp)(Q:VK)(E:XK):Prop|mk(q d kvs w c o1 z o2)(_:vs=[.ref q,.ref d])(_:H q=some (.tup [.str w,.str c,o1,.str z,o2]))(_:Uh o1)(_:Uh o2)(_:H d=some (.dK kvs))(_:ze kvs)(_:Q (.int (if z="+"then wI o1 kvs+wI o2 kvs else wI o1 kvs-wI o2 kvs)) H)
inductive UL(vs:List V)(H:Hp)(Q:VK)(E:XK):Prop|mk(q d kvs w o1 o2 r)(_:vs=[.ref q,.ref d])(_:H q=some (.tup (.str w::o1::o2::r)))(_:Uh o1)(_:Uh o2)(_:H d=some (.dK kvs))(_:ze kvs)(_:Q (.bl (decide (wI o1 kvs<wI o2 kvs))) H)
inductive VL(vs:List V)(H:Hp)(Q:VK)(E:XK):Prop|mk(q pl d many kvs w r more)(_:vs=[.ref q,.int pl,.ref d,.int many])(_:H q=some (.tup (.str w::r)))(_:br w r kvs more)(_:H d=some (.dK kvs))(_:ze kvs)(_:Q (.int (if many<pl+1+more then many else pl+1+more)) H)
inductive Look:Str->List V->V->V->Prop where
 |rd{l:Str}{o:V}:Look "read" [.str "read",.str l,o] o o
 |two{w l:Str}{o1 o2:V}(h:w="sum"\/w="count"):Look w [.str w,.str l,o1,o2] o1 o2
inductive WL(vs:List V)(H:Hp)(Q:VK)(E:XK):Prop|mk(q d kvs w xs o1 o2)(_:vs=[.ref q,.ref d])(_:H q=some (.tup xs))(_:Look w xs o1 o2)(_:Uh o1)(_:Uh o2)(_:H d=some (.dK kvs))(_:ze kvs)(_:∀p,H p=none->Q (.ref p) (upd H p (.tup [.int (wI o1 kvs),.int (wI o2 kvs)])))
section
variable{P:MQ}{w:PQ}{K:W.Frag}{mg:Str->Option EQ}{base:NQ}
def YL(T:Tx K mg):T.vx.Ok P w base 1 QL:=by
 refine Qa T.vx.F λ_ _ _ _ _ h=>?_
 ·obtain⟨v,rfl,ho,k⟩:=h;refine⟨_,(qa (Ha (Up (Nb yi (by rfl) T.Th Hh (ca (pv 0) (va (ah (v:=V.ty "int") rfl T.rC boot_int rfl)))) (Rr (Vy (Nb yi (by rfl) T.Th Hh (ca (pv 0) (va (ah (v:=V.ty "bool") rfl T.pC boot_bool rfl))))))))),?_⟩;rcases ho with⟨n,rfl⟩|⟨x,rfl⟩
  ·refine⟨_,rfl,_,_,_,_,rfl,hf.int _,iA,_,rfl,jd ?_⟩;exact⟨_,rfl,_,_,_,_,rfl,hf.int _,jA,_,rfl,k⟩
  ·exact⟨_,rfl,_,_,_,_,rfl,hf.str _,EG,_,rfl,zc k⟩
def Rl(T:Tx K mg):T.gj.Ok P w base 2 RL:=by
 refine Qa T.gj.F λ_ _ _ _ q h=>?_
 ·obtain⟨v,d,kvs,rfl,ho,J,O,k⟩:=h;have Y:=yc q;refine⟨_,(oa (qb (rc (fb T.vx (YL T) q (Ea 0)))
   (qa (Ha (pv 0)))
   Bb)
   (qa (Ha (rq Y (pv 1) (pv 0) ra ⟨rfl,rfl,rfl,rfl⟩)))),?_⟩
  show let a0:TS:=_;ma (lb _ _ _) a0 _ _ _
  intros;rcases ho with⟨n,rfl⟩|⟨x,rfl⟩
  ·refine⟨_,rfl,_,rfl,.inl ⟨n,rfl⟩,_,rfl,jd ?_⟩;exact⟨_,rfl,k⟩
  ·refine⟨_,rfl,_,rfl,.inr ⟨x,rfl⟩,_,rfl,zc ?_⟩;refine⟨_,rfl,d,rfl,.inl ⟨kvs,.inl J⟩,_,rfl,_,uf.k (k:=Sum.inr x) J,?_⟩;rw[yC O x];exact k
def ZL(T:Tx K mg):T.yx.Ok P w base 3 TL:=by
 refine Qa T.yx.F λ_ _ _ _ Y h=>?_
 ·obtain⟨q,d,kvs,w,c,c0,z,d0,rfl,J,e0,f0,a0,b0,k⟩:=h;refine⟨_,(oa (Ya 2 (fb T.gj (Rl T) Y (ca (Pa Ab (pv 0) ra) (Ea 1))))
   (oa (Ya 3 (fb T.gj (Rl T) Y (ca (Pa Ab (pv 0) ra) (Ea 1))))
   (qa (Ha (zm (zb Od (Pa Ab (pv 0) ra) La (sb _)) (Ta Ee (pv 2) (pv 3)) (Ta Wk (pv 2) (pv 3))))))),?_⟩
  show let g0:TS:=_;let h0:TS:=ma _ g0;ma _ h0 _ _ _
  intros;refine⟨_,rfl,q,_,_,_,rfl,rfl,xa.of J,Ja rfl,_,rfl,c0,d,kvs,rfl,e0,a0,b0,?_⟩;refine⟨_,rfl,q,_,_,_,rfl,rfl,xa.of J,Ja rfl,_,rfl,d0,d,kvs,rfl,f0,a0,b0,?_⟩;refine⟨_,rfl,q,_,_,_,rfl,rfl,xa.of J,Ja rfl,rfl,_,rfl,?_⟩;refine bb (λe=>?_) (λe=>?_)
  ·have O:=V.str.inj (Ed e);refine⟨_,rfl,_,rfl,_,_,rfl,rfl,?_⟩;rw[Ca O]at k;exact k
  ·have O:=λy=>e (Ec (Td V.str y))
   refine⟨_,rfl,_,rfl,_,_,rfl,rfl,?_⟩;rw[Ba O]at k;exact k
def aM(T:Tx K mg):T.wx.Ok P w base 3 WL:=by
 refine Qa T.wx.F λ_ _ _ _ a0 h=>?_
 ·obtain⟨q,d,kvs,w,xs,g0,h0,rfl,J,L,b0,c0,O,Y,k⟩:=h;refine⟨_,(oa (Ya 2 (fb T.gj (Rl T) a0 (ca (Pa Ab (pv 0) ra) (Ea 1))))
   (oa (qb (zb Od (Pa Ab (pv 0) ra) La (sb _))
   (qa (Ha (Hb (ca (pv 2) (Ea 2)))))
   Bb)
   (qa (Ha (Hb (ca (pv 2) (va (fb T.gj (Rl T) a0 (ca (Pa Ab (pv 0) ra) (Ea 1)))))))))),?_⟩
  show let d0:TS:=_;let e0:TS:=ma (lb _ _ _) d0;ma _ e0 _ _ _
  intros;cases L with
  |rd=>
   refine⟨_,rfl,q,_,_,_,rfl,rfl,xa.of J,Ja rfl,_,rfl,_,d,kvs,rfl,b0,O,Y,?_⟩;refine⟨_,rfl,q,_,_,_,rfl,rfl,xa.of J,Ja rfl,rfl,_,rfl,Nh rfl ?_⟩;exact⟨_,rfl,_,rfl,Ma,k⟩
  |two f0=>
   have i0:¬w="read":=by rcases f0 with z|z<;>(rw[z];decide+kernel)
   refine⟨_,rfl,q,_,_,_,rfl,rfl,xa.of J,Ja (j:=2) rfl,_,rfl,_,d,kvs,rfl,b0,O,Y,?_⟩;refine⟨_,rfl,q,_,_,_,rfl,rfl,xa.of J,Ja (j:=0) rfl,rfl,_,rfl,vf (by grind) ?_⟩;refine⟨_,rfl,_,rfl,q,_,_,_,rfl,rfl,xa.of J,Ja rfl,_,rfl,_,d,kvs,rfl,c0,O,Y,Ma,k⟩
def AC(T:Tx K mg):T.zt.Ok P w base 3 UL:=by
 refine Qa T.zt.F λ_ _ _ _ q h=>?_
 ·obtain⟨J,d,kvs,w,b0,c0,r,rfl,O,d0,e0,Y,a0,k⟩:=h;refine⟨_,(qa (Ha (ri Xi (fb T.gj (Rl T) q (ca (Pa Ab (pv 0) ra) (Ea 1))) (fb T.gj (Rl T) q (ca (Pa Ab (pv 0) ra) (Ea 1))) (sb _)))),?_⟩;refine⟨_,rfl,J,_,_,_,rfl,rfl,xa.of O,Ja rfl,_,rfl,b0,d,kvs,rfl,d0,Y,a0,?_⟩;refine⟨_,rfl,J,_,_,_,rfl,rfl,xa.of O,Ja rfl,_,rfl,c0,d,kvs,rfl,e0,Y,a0,?_⟩;exact⟨_,_,rfl,rfl,k⟩
def bM(T:Tx K mg):T.zx.Ok P w base 4 VL:=by
 refine Qa T.zx.F λ_ _ _ _ Y h=>?_
 ·obtain⟨q,pl,d,j0,kvs,w,r,more,rfl,J,a0,b0,c0,k⟩:=h;refine⟨_,(oa (Ya 4 ra)
   (oa (qb (PW.pt (ni (zb Od (Pa Ab (pv 0) ra) La (sb _)) (mi (rc (fb T.zt (AC T) Y (ca (pv 0) (Ea 2)))))))
   (qa (Ya 4 (Pa Ab (pv 0) ra)))
   Bb)
   (qa (Ha (Nb (pz rfl) (by rfl) T.sC boot_min (ca (Ta Ee (Ta Ee (pv 1) ra) (pv 4)) (Ea 3))))))),?_⟩
  show let d0:TS:=_;let e0:TS:=ma (lb _ _ _) d0;ma _ e0 _ _ _
  intros;rcases a0 with⟨k0,rfl⟩|⟨f0,g0,n,rfl,rfl,h0,i0,rfl⟩
  ·refine⟨_,rfl,q,_,_,_,rfl,rfl,xa.of J,Ja rfl,rfl,_,rfl,vf (by grind) (zc ?_)⟩;exact⟨_,rfl,_,_,rfl,rfl,_,rfl,_,_,rfl,rfl,_,rfl,_,_,rfl,k⟩
  ·refine⟨_,rfl,q,_,_,_,rfl,rfl,xa.of J,Ja (j:=0) rfl,rfl,_,rfl,Nh rfl ?_⟩;refine⟨_,rfl,_,rfl,q,d,kvs,_,f0,g0,_,rfl,J,h0,i0,b0,c0,_,rfl,?_⟩;refine bb (λe=>?_) (λe=>?_)
   ·have O:=Ed e;rw[Ca O]at k;refine⟨_,rfl,q,_,_,_,rfl,rfl,xa.of J,Ja rfl,?_⟩;exact⟨_,rfl,_,_,rfl,rfl,_,rfl,_,_,rfl,rfl,_,rfl,_,_,rfl,k⟩
   ·have O:=λy=>e (Ec y)
    rw[Ba O]at k;exact⟨_,rfl,_,_,rfl,rfl,_,rfl,_,_,rfl,rfl,_,rfl,_,_,rfl,k⟩
def cM(T:Tx K mg):T.Bt.Ok mg P w base 1 (Ko .loose):=by
 refine Qa T.Bt.F λ_ _ _ _ _ h=>?_
 ·obtain⟨x,rfl,q⟩:=h;exact⟨_,(qa (Ha La)),q⟩
def dM(T:Tx K mg):T.Ft.Ok mg P w base 1 (Ko .kept):=by
 refine Qa T.Ft.F λ_ _ _ _ _ h=>?_
 ·obtain⟨x,rfl,q⟩:=h;exact⟨_,(qa (Ha La)),q⟩
def eM(T:Tx K mg):T.Jt.Ok mg P w base 1 (Ko .make):=by
 refine Qa T.Jt.F λ_ _ _ _ _ h=>?_
 ·obtain⟨x,rfl,q⟩:=h;exact⟨_,(qa (Ha La)),q⟩
def fM(T:Tx K mg):T.Mt.Ok mg P w base 1 (Ko .watch):=by
 refine Qa T.Mt.F λ_ _ _ _ _ h=>?_
 ·obtain⟨x,rfl,q⟩:=h;exact⟨_,(qa (Ha La)),q⟩
def gM(T:Tx K mg):T.Pt.Ok mg P w base 1 (Ko .hold):=by
 refine Qa T.Pt.F λ_ _ _ _ _ h=>?_
 ·obtain⟨x,rfl,q⟩:=h;exact⟨_,(qa (Ha La)),q⟩
def BC(T:Tx K mg):∀l,∃f q ps,Cls K (cO T l)/\Lc K (cO T l) "word" f/\Kb P w K mg base Qc 1 f q ps (Ko l)/\Wc K q ps []:=by
 intro l;cases l
 ·exact nx2 _ _ _ T.Jl.cl T.Bt.m (cM T) T.Bt.b
 ·exact nx2 _ _ _ T.Kl.cl T.Ft.m (dM T) T.Ft.b
 ·exact nx2 _ _ _ T.Ll.cl T.Jt.m (eM T) T.Jt.b
 ·exact nx2 _ _ _ T.Ml.cl T.Mt.m (fM T) T.Mt.b
 ·exact nx2 _ _ _ T.Nl.cl T.Pt.m (gM T) T.Pt.b
def cy(T:Tx K mg):T.wl.Ok mg P w base 1 (kx .loose):=by
 refine Qa T.wl.F λ_ _ _ _ _ h=>?_
 ·obtain⟨x,b,n,rfl,q⟩:=h;exact⟨_,(qa (Ha (pv 2))),⟨_,rfl,q⟩⟩
def CC(T:Tx K mg):T.Mo.Ok mg P w base 1 (kx .make):=by
 refine Qa T.Mo.F λ_ _ _ _ _ h=>?_
 ·obtain⟨x,b,n,rfl,q⟩:=h;exact⟨_,(qa (Ha (pv 1))),⟨_,rfl,q⟩⟩
def hM(T:Tx K mg):∀l,∃f q ps,Cls K (cO T l)/\Lc K (cO T l) "stand" f/\Kb P w K mg base Qc 1 f q ps (kx l)/\Wc K q ps []:=by
 intro l;cases l
 ·exact nx2 _ _ _ T.Jl.cl T.wl.m (cy T) T.wl.b
 ·exact nx2 _ _ _ T.Kl.cl T.eL (cy T) T.wl.b
 ·exact nx2 _ _ _ T.Ll.cl T.Mo.m (CC T) T.Mo.b
 ·exact nx2 _ _ _ T.Ml.cl T.mL (CC T) T.Mo.b
 ·exact nx2 _ _ _ T.Nl.cl T.rL (cy T) T.wl.b
def dy(T:Tx K mg):T.xl.Ok mg P w base 1 (mx .loose):=by
 refine Qa T.xl.F λ_ _ _ _ _ h=>?_
 ·obtain⟨x,b,n,rfl,q⟩:=h;exact⟨_,(qa (Ha we)),q⟩
def DC(T:Tx K mg):T.No.Ok mg P w base 1 (mx .make):=by
 refine Qa T.No.F λ_ _ _ _ _ h=>?_
 ·obtain⟨x,b,n,rfl,q⟩:=h;exact⟨_,(qa (Ha (ri Yp (pv 2) (pv 1) (sb _)))),⟨_,rfl,_,rfl,_,_,rfl,rfl,q⟩⟩
def iM(T:Tx K mg):∀l,∃f q ps,Cls K (cO T l)/\Lc K (cO T l) "late" f/\Kb P w K mg base Qc 1 f q ps (mx l)/\Wc K q ps []:=by
 intro l;cases l
 ·exact nx2 _ _ _ T.Jl.cl T.xl.m (dy T) T.xl.b
 ·exact nx2 _ _ _ T.Kl.cl T.gL (dy T) T.xl.b
 ·exact nx2 _ _ _ T.Ll.cl T.No.m (DC T) T.No.b
 ·exact nx2 _ _ _ T.Ml.cl T.nL (DC T) T.No.b
 ·exact nx2 _ _ _ T.Nl.cl T.sL (dy T) T.xl.b
def jM(T:Tx K mg):T.Ct.Ok mg P w base 1 (px .loose):=by
 refine Qa T.Ct.F λ_ _ _ _ _ h=>?_
 ·obtain⟨x,rfl,q⟩:=h;exact⟨_,(qa (Ha we)),q⟩
def Hu(T:Tx K mg):T.jj.Ok mg P w base 1 (px .kept):=by
 refine Qa T.jj.F λ_ _ _ _ _ h=>?_
 ·obtain⟨x,rfl,q⟩:=h;exact⟨_,(qa (Ha we)),q⟩
def EC(T:Tx K mg):∀l,∃f q ps,Cls K (cO T l)/\Lc K (cO T l) "unkept" f/\Kb P w K mg base Qc 1 f q ps (px l)/\Wc K q ps []:=by
 intro l;cases l
 ·exact nx2 _ _ _ T.Jl.cl T.Ct.m (jM T) T.Ct.b
 ·exact nx2 _ _ _ T.Kl.cl T.jj.m (Hu T) T.jj.b
 ·exact nx2 _ _ _ T.Ll.cl T.jL (Hu T) T.jj.b
 ·exact nx2 _ _ _ T.Ml.cl T.oL (Hu T) T.jj.b
 ·exact nx2 _ _ _ T.Nl.cl T.qL (Hu T) T.jj.b
def Iu(T:Tx K mg):T.hj.Ok mg P w base 1 (qx .loose):=by
 refine Qa T.hj.F λ_ _ _ _ _ h=>?_
 ·obtain⟨x,rfl,q⟩:=h;exact⟨_,(qa (Ha we)),q⟩
def kM(T:Tx K mg):T.Qt.Ok mg P w base 1 (qx .hold):=by
 refine Qa T.Qt.F λ_ _ _ _ _ h=>?_
 ·obtain⟨x,rfl,q⟩:=h;exact⟨_,(qa (Ha we)),q⟩
def lM(T:Tx K mg):∀l,∃f q ps,Cls K (cO T l)/\Lc K (cO T l) "holds_asks" f/\Kb P w K mg base Qc 1 f q ps (qx l)/\Wc K q ps []:=by
 intro l;cases l
 ·exact nx2 _ _ _ T.Jl.cl T.hj.m (Iu T) T.hj.b
 ·exact nx2 _ _ _ T.Kl.cl T.hL (Iu T) T.hj.b
 ·exact nx2 _ _ _ T.Ll.cl T.kL (Iu T) T.hj.b
 ·exact nx2 _ _ _ T.Ml.cl T.pL (Iu T) T.hj.b
 ·exact nx2 _ _ _ T.Nl.cl T.Qt.m (kM T) T.Qt.b
def Ju(T:Tx K mg):T.ij.Ok mg P w base 1 (rx .loose):=by
 refine Qa T.ij.F λ_ _ _ _ _ h=>?_
 ·obtain⟨x,rfl,q⟩:=h;exact⟨_,(qa (Ha we)),q⟩
def mM(T:Tx K mg):T.Nt.Ok mg P w base 1 (rx .watch):=by
 refine Qa T.Nt.F λ_ _ _ _ _ h=>?_
 ·obtain⟨x,rfl,q⟩:=h;exact⟨_,(qa (Ha we)),q⟩
def nM(T:Tx K mg):∀l,∃f q ps,Cls K (cO T l)/\Lc K (cO T l) "watches" f/\Kb P w K mg base Qc 1 f q ps (rx l)/\Wc K q ps []:=by
 intro l;cases l
 ·exact nx2 _ _ _ T.Jl.cl T.ij.m (Ju T) T.ij.b
 ·exact nx2 _ _ _ T.Kl.cl T.iL (Ju T) T.ij.b
 ·exact nx2 _ _ _ T.Ll.cl T.lL (Ju T) T.ij.b
 ·exact nx2 _ _ _ T.Ml.cl T.Nt.m (mM T) T.Nt.b
 ·exact nx2 _ _ _ T.Nl.cl T.tL (Ju T) T.ij.b
def oM(T:Tx K mg):T.Et.Ok mg P w base 1 (Lo .loose):=by
 refine Qa T.Et.F λ_ _ _ _ _ h=>?_
 ·obtain⟨x,b,st,e,O,Y,rfl,a0,hz,J⟩:=h;exact⟨_,(qa (Ha (Zb (Ea 3)))),⟨_,rfl,jb,λp q=>J p _ q (aa.upd q) ia⟩⟩
def pM(T:Tx K mg):T.Ht.Ok mg P w base 1 (Lo .kept):=by
 refine Qa T.Ht.F λ_ _ _ _ _ h=>?_
 ·obtain⟨x,b,st,e,d0,J,rfl,O,hz,Y⟩:=h;refine⟨_,(qa (Ha (Ta ro (pv 2) (Zb (Ea 3))))),?_⟩;refine⟨_,rfl,_,rfl,jb,λa0 b0=>?_⟩;have s1:=aa.upd (o:=HO.lst [V.int e]) b0;have e0:(50:Nat)<=JQ:=by decide
  refine⟨st,a0,_,_,rfl,rfl,s1 _ _ O,ia,(by rw[Na];show _+1<=_;lia),λc0 q=>?_⟩;refine Y c0 _ (s1.free q) (s1.trans (aa.upd q)) ?_;rw[ia];show _=some (HO.lst ((J++[e]).map V.int))
  grind
def qM(T:Tx K mg):T.Kt.Ok mg P w base 1 (Lo .make):=by
 refine Qa T.Kt.F λ_ _ _ _ _ h=>?_
 ·obtain⟨x,b,st,e,O,Y,rfl,a0,hz,J⟩:=h;exact⟨_,(qa (Ha (Zb (ca (pv 1) (Ea 3))))),⟨_,rfl,_,rfl,Ma,λp q=>J p _ q (aa.upd q) ia⟩⟩
def rM(T:Tx K mg):T.Ot.Ok mg P w base 1 (Lo .watch):=by
 refine Qa T.Ot.F λ_ _ _ _ _ h=>?_
 ·obtain⟨x,b,st,e,O,Y,rfl,a0,hz,J⟩:=h;refine⟨_,(qa (Ha (Zb (va (zm (rc (pv 4)) (pv 1) (pv 3)))))),?_⟩;cases O with
  |true=>exact⟨_,rfl,_,rfl,jd ⟨_,rfl,jb,λp q=>J p _ q (aa.upd q) ia⟩⟩
  |false=>exact⟨_,rfl,_,rfl,zc ⟨_,rfl,jb,λp q=>J p _ q (aa.upd q) ia⟩⟩
def sM(T:Tx K mg):T.Rt.Ok mg P w base 1 (Lo .hold):=by
 refine Qa T.Rt.F λ_ _ _ _ _ h=>?_
 ·obtain⟨x,b,st,e,O,Y,rfl,a0,hz,J⟩:=h;exact⟨_,(qa (Ha (Zb (Ea 3)))),⟨_,rfl,jb,λp q=>J p _ q (aa.upd q) ia⟩⟩
def tM(T:Tx K mg):∀l,∃f q ps,Cls K (cO T l)/\Lc K (cO T l) "stamps" f/\Kb P w K mg base Qc 1 f q ps (Lo l)/\Wc K q ps []:=by
 intro l;cases l
 ·exact nx2 _ _ _ T.Jl.cl T.Et.m (oM T) T.Et.b
 ·exact nx2 _ _ _ T.Kl.cl T.Ht.m (pM T) T.Ht.b
 ·exact nx2 _ _ _ T.Ll.cl T.Kt.m (qM T) T.Kt.b
 ·exact nx2 _ _ _ T.Ml.cl T.Ot.m (rM T) T.Ot.b
 ·exact nx2 _ _ _ T.Nl.cl T.Rt.m (sM T) T.Rt.b
def uM(cls:Lv->FQ):Sp:=λvs H Q _=>∃x:Str,vs=[.str x]/\(∃l,x=wd l)/\∀l,x=wd l->∀a q H',aa H H'->H' a=some (.ins (cls l) q [])->Q (.ref a) H'
def vM(T:Tx K mg):T.Ax.Ok P w base 2 (uM (cO T)):=by
 refine Qa T.Ax.F λH _ _ _ G0 h=>?_
 ·obtain⟨x,rfl,⟨t0,H0⟩,k⟩:=h;refine⟨_,(oa (re me rfl (Yb (Zb (ca (yq T.Jl.mo rfl T.IK) (ca (yq T.Kl.mo rfl T.JK) (ca (yq T.Ll.mo rfl T.LK) (ca (yq T.Ml.mo rfl T.MK) (va (yq T.Nl.mo rfl T.NK)))))))) (Kd 1)
   (qa (qb (zb Od (Do (pv 1) (BC T) (G0.mono (by decide))) (pv 0) (sb _))
   (qa (Ha (pv 1)))
   Bb)))
   (qa io)),?_⟩
  show let I0:TS:=_;ma (qe _ _ (lb _ _ _)) I0 _ _ _
  intros;intro J e0 J0 K0 L0;have s1:=aa.Hf (C:=T.jh) J0 K0 L0;have f0:=ia (H:=upd H e0 (.own J)) (a:=J) (o:=HO.ins T.jh e0 []);generalize upd (upd H e0 (.own J)) J (.ins T.jh e0 [])=A0 at s1 f0⊢;intro O g0 M0 N0 O0;have u0:=aa.Hf (C:=T.kh) M0 N0 O0;have h0:=ia (H:=upd A0 g0 (.own O)) (a:=O) (o:=HO.ins T.kh g0 []);generalize upd (upd A0 g0 (.own O)) O (.ins T.kh g0 [])=B0 at u0 h0⊢;intro Y i0 Q0 R0 S0;have q0:=aa.Hf (C:=T.lh) Q0 R0 S0;have j0:=ia (H:=upd B0 i0 (.own Y)) (a:=Y) (o:=HO.ins T.lh i0 []);generalize upd (upd B0 i0 (.own Y)) Y (.ins T.lh i0 [])=C0 at q0 j0⊢;intro a0 k0 U0 V0 W0;have l0:=aa.Hf (C:=T.mh) U0 V0 W0;have n0:=ia (H:=upd C0 k0 (.own a0)) (a:=a0) (o:=HO.ins T.mh k0 []);generalize upd (upd C0 k0 (.own a0)) a0 (.ins T.mh k0 [])=H4 at l0 n0⊢;intro b0 o0 X0 Y0 Z0;have c0:=aa.Hf (C:=T.nh) X0 Y0 Z0;have p0:=ia (H:=upd H4 o0 (.own b0)) (a:=b0) (o:=HO.ins T.nh o0 []);generalize upd (upd H4 o0 (.own b0)) b0 (.ins T.nh o0 [])=D0 at c0 p0⊢;refine⟨Bf,λp a1=>?_⟩;have d0:=aa.upd (o:=HO.lst [V.ref J,.ref O,.ref Y,.ref a0,.ref b0]) a1;have v0:=ia (H:=D0) (a:=p) (o:=HO.lst [V.ref J,.ref O,.ref Y,.ref a0,.ref b0]);have b1:=s1.trans (u0.trans (q0.trans (l0.trans (c0.trans d0))));replace f0:=d0 _ _ (c0 _ _ (l0 _ _ (q0 _ _ (u0 _ _ f0))));replace h0:=d0 _ _ (c0 _ _ (l0 _ _ (q0 _ _ h0)));replace j0:=d0 _ _ (c0 _ _ (l0 _ _ j0));replace n0:=d0 _ _ (c0 _ _ n0);replace p0:=d0 _ _ p0;generalize upd D0 p (HO.lst [V.ref J,.ref O,.ref Y,.ref a0,.ref b0])=F0 at v0 b1 f0 h0 j0 n0 p0⊢;have at_:∀(i:Nat)y,[V.ref J,.ref O,.ref Y,.ref a0,.ref b0][i]?=some y->∃l a w0,ix l=i/\y=V.ref a/\F0 a=some (.ins (cO T l) w0 []):=λi y q=>by
   match i,q with
   |0,q=>exact nx9 (.loose) J e0 rfl ((Yd q).symm) f0
   |1,q=>exact nx9 (.kept) O g0 rfl ((Yd q).symm) h0
   |2,q=>exact nx9 (.make) Y i0 rfl ((Yd q).symm) j0
   |3,q=>exact nx9 (.watch) a0 k0 rfl ((Yd q).symm) n0
   |4,q=>exact nx9 (.hold) b0 o0 rfl ((Yd q).symm) p0
   |n+5,q=>simp at q
  refine⟨p,rfl,⟨_,ja.of v0⟩,eh (K:=K)
   (λi r0 s0=>s0=F0/\∃(y:Option V),r0=[some (.str x),y]/\∀l,ix l<i->x≠wd l)
   ⟨rfl,none,rfl,by grind⟩ (by rintro i r0 s0 _⟨z,_⟩;exact z▸ja.of v0) ?_ ?_⟩
  ·rintro i y r0 s0 q⟨x0,d1,rfl,y0⟩;subst x0;obtain⟨l,a,w0,e1,rfl,f1⟩:=at_ i y q;refine⟨_,rfl,a,l,w0,[],rfl,f1,rfl,_,rfl,_,rfl,rfl,_,rfl,bb (λe=>?_) (λe=>?_)⟩
   ·exact⟨_,rfl,by grind⟩
   ·refine⟨rfl,_,rfl,λz0 g1=>?_⟩;rcases Nat.lt_succ_iff_lt_or_eq.mp g1 with z|z
    ·exact y0 z0 z
    ·have:z0=l:=by
      rw[<-e1]at z;cases z0<;>cases l<;>first|rfl|cases z
     grind
  ·rintro r0 s0⟨x0,d1,rfl,y0⟩;subst x0;exact absurd H0 (y0 t0 (by show ix t0<5;cases t0<;>decide))
--@cc
namespace Shf
abbrev Ga:=Int×Int×Option Int
def ov:Option Int->V
 |some v=>.int v
 |none=>.ya
inductive tf(H:Hp):List V->List Ga->Prop where
 |nil:tf H [] []
 |cons{t:FQ}{a b:Int}{o:Option Int}{vs:List V}{rs:List Ga}(h:H t=some (.tup [.int a,.int b,ov o]))(r:tf H vs rs):tf H (.ref t::vs) ((a,b,o)::rs)
inductive Ent(H:Hp):List (Key×V)->List (Int×List Ga)->Prop where
 |nil:Ent H [] []
 |cons{l:FQ}{k:Int}{vs:List V}{rs:List Ga}{kvs:List (Key×V)}{m:List (Int×List Ga)}(h:H l=some (.lst vs))(q:tf H vs rs)(r:Ent H kvs m):Ent H ((Sum.inl k,.ref l)::kvs) ((k,rs)::m)
def hk(m:List (Int×List Ga))(k:Int):List Ga:=((m.find? λq=>decide (q.1=k)).map (·.2)).getD []
def Vf(m:List (Int×List Ga))(k:Int)(r:Ga):List (Int×List Ga):=if(m.any λq=>decide (q.1=k))=HQ then m.map (λq=>if q.1=k then(q.1,q.2++[r])else q)else m++[(k,[r])]
structure Hs(K:W.Frag)(C:FQ)(H:Hp)(a dx d:FQ)(kvs:List (Key×V))(m:List (Int×List Ga)):Prop where
 obj:H a=some (.ins C dx [("makes",.ref d)])
 dict:H d=some (.dK kvs)
 ent:Ent H kvs m
 Ad:m.length<1000
 short:∀q∈m,q.2.length<1000
 full:∀q∈m,q.2≠[]
 keys:(m.map (·.1)).Nodup
 vals:(kvs.map (·.2)).Nodup
def tf.same(s:∀t xs,H t=some (.tup xs)->H' t=some (.tup xs))(r:tf H vs q):tf H' vs q:=by
 induction r with
 |nil=>exact .nil
 |cons h _ J=>exact .cons (s _ _ h) J
def Ent.same(s:aa H H')(r:Ent H kvs m):Ent H' kvs m:=by
 induction r with
 |nil=>exact .nil
 |cons h q _ J=>exact .cons (s _ _ h) (q.same λ_ _ e=>s _ _ e) J
def Hs.same(h:Hs K C H a q d kvs m)(s:aa H H'):Hs K C H' a q d kvs m:=
 ⟨s _ _ h.obj,s _ _ h.dict,h.ent.same s,h.Ad,h.short,h.full,h.keys,h.vals⟩
def Ent.keys{H:Hp}{kvs:List (Key×V)}{m:List (Int×List Ga)}(r:Ent H kvs m):kvs.map (·.1)=(m.map (·.1)).map Sum.inl:=by
 induction r with
 |nil=>rfl
 |cons _ _ _ q=>simp only[qd,q]
def Ent.len(r:Ent H kvs m):kvs.length=m.length:=by
 induction r with
 |nil=>rfl
 |cons _ _ _ q=>simp only[Hk,q]
def tf.len(r:tf H vs q):vs.length=q.length:=by
 induction r with
 |nil=>rfl
 |cons _ _ J=>simp only[Hk,J]
def tf.get(r:tf H vs q)(hi:i<q.length):∃t a b o,vs[i]?=some (.ref t)/\q[i]?=some (a,b,o)/\H t=some (.tup [.int a,.int b,ov o]):=by
 induction r generalizing i with
 |nil=>simp at hi
 |@cons t a b o vs q h _ J=>
  cases i with
  |zero=>exact(by grind)
  |succ i=>
   obtain⟨t',O,Y,a0,b0,c0,d0⟩:=J (by simpa using hi);exact nx19 t' O Y a0 (by simpa using b0) ⟨by simpa using c0,d0⟩
def Ent.at_{H:Hp}{kvs:List (Key×V)}{m:List (Int×List Ga)}(r:Ent H kvs m){k:Int}(q:k∈m.map (·.1)):∃l vs,kb kvs (Sum.inl k:Key)=some (.ref l)/\H l=some (.lst vs)/\tf H vs (hk m k):=by
 induction r with
 |nil=>simp at q
 |@cons l J vs g0 kvs m h O _ Y=>
  by_cases e:J=k
  ·subst e;exact nx0 l vs (og rfl) h (by simpa[hk,ce]using O)
  ·have a0:k∈m.map (·.1):=by
    rcases Mb.mp q with z|z
    ·exact absurd z.symm e
    ·exact z
   obtain⟨b0,c0,d0,e0,f0⟩:=Y a0;refine nx0 b0 c0 ?_ e0 ?_
   ·rw[Of (by grind)];exact d0
   ·simpa[hk,ce,e]using f0
def Ent.Vb{H:Hp}{kvs:List (Key×V)}{m:List (Int×List Ga)}(r:Ent H kvs m){k:Int}(q:k∉m.map (·.1)):kb kvs (Sum.inl k:Key)=none:=by
 induction r with
 |nil=>rfl
 |@cons l O vs Y kvs m h a0 _ J=>
  simp only[qd,Mb,not_or]at q;rw[Of (by grind)];exact J q.2
def Ent.Rg{H:Hp}{kvs:List (Key×V)}{m:List (Int×List Ga)}(r:Ent H kvs m){k:Key}{v:V}(h:kb kvs k=some v):v∈kvs.map (·.2):=by
 obtain⟨J,q,hv⟩:=nA h;exact hv▸Zl q
def Ent.push{H H':Hp}{kvs:List (Key×V)}{m:List (Int×List Ga)}{k a b:Int}{o:Option Int}{l t:FQ}{vs:List V}(r:Ent H kvs m)(J:(kvs.map (·.2)).Nodup)(b0:(m.map (·.1)).Nodup)(hv:kb kvs (Sum.inl k:Key)=some (.ref l))(i0:H l=some (.lst vs))
  (j0:H' l=some (.lst (vs++[.ref t])))(k0:H' t=some (.tup [.int a,.int b,ov o]))(keep:∀c u,c≠l->H c=some u->H' c=some u):Ent H' kvs (m.map λq=>if q.1=k then(q.1,q.2++[(a,b,o)])else q):=by
 have tups:∀t xs,H t=some (.tup xs)->H' t=some (.tup xs):=by grind
 induction r with
 |nil=>cases hv
 |@cons l0 c0 q0 r0 s0 m0 h q d0 n0=>
  simp only[qd,ei]at J b0;by_cases e:c0=k
  ·subst e;rw[og rfl]at hv;cases hv;rw[i0]at h;cases h;have o0:m0.map (λq=>if q.1=c0 then(q.1,q.2++[(a,b,o)])else q)=m0:=by
    refine(Dn λq t0=>?_).trans (List.map_id _);rw[Ba (by grind)];rfl
   rw[qd,Ca rfl,o0];refine .cons j0 ?_ ?_
   ·have O:∀{us:List V}{e0:List Ga},tf H us e0->tf H' (us++[.ref t]) (e0++[(a,b,o)]):=λx=>by
     induction x with
     |nil=>exact .cons k0 .nil
     |cons f0 _ Y=>exact .cons (tups _ _ f0) Y
    exact O q
   ·have O:∀{a0:List (Key×V)}{g0:List (Int×List Ga)},Ent H a0 g0->V.ref l∉a0.map (·.2)->Ent H' a0 g0:=λx=>by
     induction x with
     |nil=>intro _;exact .nil
     |cons f0 p0 _ Y=>
      intro h0;simp only[qd,Mb,not_or]at h0;exact .cons (by grind) (p0.same tups) (Y h0.2)
    exact O d0 J.1
  ·rw[Of (by grind)]at hv;have u0:=d0.Rg hv;have ne:l0≠l:=by grind
   rw[qd,Ba e];exact .cons (keep _ _ ne h) (q.same tups) (n0 J.2 b0.2 hv)
def Ent.snoc(r:Ent H kvs m)(q:H l=some (.lst vs))(J:tf H vs O):Ent H (kvs++[(Sum.inl k,.ref l)]) (m++[(k,O)]):=by
 induction r with
 |nil=>exact .cons q J .nil
 |cons Y a0 _ b0=>exact .cons Y a0 b0
def Ent.tracked{H:Hp}{kvs:List (Key×V)}{m:List (Int×List Ga)}(r:Ent H kvs m){l:FQ}(h:V.ref l∈kvs.map (·.2)):∃vs,H l=some (.lst vs):=by
 induction r with
 |nil=>simp at h
 |cons q _ _ J=>
  simp only[qd,Mb]at h;rcases h with z|z
  ·cases z;exact⟨_,q⟩
  ·exact J z
def FC(h:∀q∈m,q.2.length<1000)(k:Int):(hk m k).length<1000:=by
 unfold hk;cases e:m.find? λq=>decide (q.1=k)with
 |none=>exact Nat.zero_lt_succ _
 |some q=>exact h q (by grind)
def kn{m:List (Int×List Ga)}{k:Int}{r:Ga}(h:k∈m.map (·.1)):Vf m k r=m.map λq=>if q.1=k then(q.1,q.2++[r])else q:=by
 unfold Vf;rw[Ca];obtain⟨q,J,rfl⟩:=Fd.mp h;exact Ik.mpr ⟨q,J,by grind⟩
def Sl{m:List (Int×List Ga)}{k:Int}{r:Ga}(h:k∉m.map (·.1)):Vf m k r=m++[(k,[r])]:=by
 unfold Vf;rw[Ba];intro z;obtain⟨q,J,e⟩:=Ik.mp z;exact h (by grind)
def wM{m:List (Int×List Ga)}{k:Int}{r:Ga}:(m.map λq=>if q.1=k then(q.1,q.2++[r])else q).map (·.1)=m.map (·.1):=by
 rw[ag];refine Dn λq _=>?_
 show(if q.1=k then(q.1,q.2++[r])else q).1=q.1;split<;>rfl
abbrev Dr:=List (Int×Option Int)
def Ka(J:Dr):List (Key×V):=J.map λq=>(Sum.inl q.1,ov q.2)
def ae(m:List (Int×List Ga))(st dl:Int)(J:Dr):List (Int×List Ga):=J.foldl (λm q=>Vf m q.1 (st,dl,q.2)) m
def Ku(q:Ga):List V:=[.int q.1,.int q.2.1,ov q.2.2]
def mn:Ga:=(0,0,none)
def Cd(q:List Ga)(s:Int):Ga:=(q.reverse.find? λJ=>decide (J.1<=s)).getD mn
def Wf(q:List Ga):Ga:=q.getLast?.getD mn
def xM(H H':Hp)(d r:FQ)(kvs:List (Key×V)):Prop:=∀b o,H b=some o->b≠d->b≠r->V.ref b∉kvs.map (·.2)->H' b=some o
def GC(H:Hp)(kvs q:List (Key×V)):Prop:=∀l,V.ref l∈q.map (·.2)->V.ref l∈kvs.map (·.2)\/H l=none
def Lu:(Vf m k r).length<=m.length+1:=by
 by_cases h:k∈m.map (·.1)
 ·rw[kn h,Na];lia
 ·rw[Sl h];simp
def ey(O:∀q∈m,q.2.length<=i):∀q∈Vf m k r,q.2.length<=i+1:=by
 intro q J;by_cases h:k∈m.map (·.1)
 ·rw[kn h]at J;obtain⟨p,Y,rfl⟩:=Fd.mp J;have:=O p Y;split
  ·rw[gi];simp;lia
  ·lia
 ·rw[Sl h]at J;rcases Ah.mp J with z|z
  ·have:=O q z;lia
  ·rw[yg.mp z];simp
def Ent.nn(r:Ent H kvs m)(keep:∀b o,H b=some o->((∃xs,o=.lst xs)\/∃xs,o=.tup xs)->H' b=some o):Ent H' kvs m:=by
 induction r with
 |nil=>exact .nil
 |cons h q _ J=>exact .cons (by grind) (q.same (by grind)) J
def HC(O:∀q∈m,q.2≠[]):∀q∈Vf m k r,q.2≠[]:=by
 intro q J;by_cases h:k∈m.map (·.1)
 ·rw[kn h]at J;obtain⟨p,Y,rfl⟩:=Fd.mp J;split
  ·simp
  ·exact O p Y
 ·rw[Sl h]at J;rcases Ah.mp J with z|z
  ·exact O q z
  ·rw[yg.mp z];simp
def IC{m:List (Int×List Ga)}{k:Int}{r:Ga}(q:(m.map (·.1)).Nodup):((Vf m k r).map (·.1)).Nodup:=by
 by_cases h:k∈m.map (·.1)
 ·rw[kn h,wM];exact q
 ·rw[Sl h,Dg];refine En.mpr ⟨q,by simp,λx J y O z=>h ?_⟩;have e:y=k:=by simpa using O
  rw[<-e,<-z];exact J
def yM(h:xs[xs.length-1]?=some v):Ve xs (-1)=some v:=by
 have q:=(ee.mp h).1;unfold Ve Lj;rw[Ba (by decide),Ca (by lia)];have e:(-1+(xs.length:Int)).toNat=xs.length-1:=by lia
 simpa[e]using h
def tf.last(r:tf H vs q)(h:q≠[]):∃t,Ve vs (-1)=some (.ref t)/\H t=some (.tup (Ku (Wf q))):=by
 have J:q.length-1<q.length:=by
  cases q with
  |nil=>exact absurd rfl h
  |cons x r=>simp
 obtain⟨t,a,b,o,O,Y,a0⟩:=r.get J;refine⟨t,yM (by rw[r.len];exact O),?_⟩;have e:q.getLast?=some (a,b,o):=by rw[List.getLast?_eq_getElem?];exact Y
 unfold Wf;rw[e];exact a0
def zM{m:List (Int×List Ga)}{k:Int}(h:∀q∈m,q.2≠[])(J:k∈m.map (·.1)):hk m k≠[]:=by
 obtain⟨q,O,e⟩:=Fd.mp J;cases f:m.find? λq=>decide (q.1=k)with
 |none=>exact absurd (Ec e) (by grind)
 |some p=>unfold hk;rw[f];exact h p (by grind)
def uc(s:aa H H')(h:H' l=none):H l=none:=by
 cases e:H l with
 |none=>rfl
 |some o=>rw[s _ _ e]at h;cases h
def cr{k:Key}(h:kb kvs k=none):nb kvs k (.ref l)=kvs++[(k,.ref l)]:=by
 unfold nb;rw[Ba];rw[oq,h];exact be
def Hs.snoc{K:W.Frag}{C:FQ}{H H4:Hp}{a O d l t:FQ}{kvs:List (Key×V)}{m:List (Int×List Ga)}{k x y:Int}{o:Option Int}(q:Hs K C H a O d kvs m)(J:k∉m.map (·.1))(c0:H l=none)
  (Y:H4 d=some (.dK (nb kvs (Sum.inl k:Key) (.ref l))))(d0:H4 l=some (.lst [.ref t]))(e0:H4 t=some (.tup [.int x,.int y,ov o]))(keep:∀b u,b≠d->H b=some u->H4 b=some u)(Ad:m.length<999):
  Hs K C H4 a O d (kvs++[(Sum.inl k,.ref l)]) (Vf m k (x,y,o)):=by
 rw[cr (q.ent.Vb J)]at Y;have ad:a≠d:=λz=>by have e:=q.obj;rw[z,q.dict]at e;cases e
 refine⟨keep _ _ ad q.obj,Y,?_,Dk Lu (by lia),?_,HC q.full,IC q.keys,?_⟩
 ·rw[Sl J];exact(q.ent.nn λb u e f0=>keep b u (λz=>by rw[z,q.dict]at e;cases e;rcases f0 with⟨_,z⟩|⟨_,z⟩<;>cases z) e).snoc d0 (.cons e0 .nil)
 ·intro g0 a0;rw[Sl J]at a0;rcases Ah.mp a0 with z|z
  ·exact q.short g0 z
  ·rw[yg.mp z];show 1<1000;decide
 ·rw[Dg];refine En.mpr ⟨q.vals,by simp,λv hv u h0 e=>?_⟩;have i0:u=.ref l:=by simpa using h0
  rw[e,i0]at hv;obtain⟨us,b0⟩:=q.ent.tracked hv;rw[c0]at b0;cases b0
def Hs.push{K:W.Frag}{C:FQ}{H H4:Hp}{a Y d l t:FQ}{kvs:List (Key×V)}{m:List (Int×List Ga)}{k x y:Int}{o:Option Int}{us:List V}(q:Hs K C H a Y d kvs m)(a0:k∈m.map (·.1))(hv:kb kvs (Sum.inl k:Key)=some (.ref l))(J:H l=some (.lst us))
  (b0:H4 l=some (.lst (us++[.ref t])))(c0:H4 t=some (.tup [.int x,.int y,ov o]))(keep:∀b u,b≠l->H b=some u->H4 b=some u)(d0:∀O∈m,O.2.length<=950):
  Hs K C H4 a Y d kvs (Vf m k (x,y,o)):=by
 have e0:a≠l:=λz=>by have e:=q.obj;rw[z,J]at e;cases e
 have dl:d≠l:=λz=>by have e:=q.dict;rw[z,J]at e;cases e
 refine⟨keep _ _ e0 q.obj,keep _ _ dl q.dict,?_,?_,λO f0=>?_,HC q.full,IC q.keys,q.vals⟩
 ·rw[kn a0];exact q.ent.push q.vals q.keys hv J b0 c0 keep
 ·rw[kn a0,Na];exact q.Ad
 ·have:=ey d0 O f0;lia
inductive AM(K:W.Frag)(C:FQ)(vs:List V)(H:Hp)(Q:VK)(E:XK):Prop|mk(a dx r:FQ)(fs:Dr)(_:vs=[.ref a,.ref r])(_:H a=some (.ins C dx []))(_:Rd H r (.dK (Ka fs)))(_:(fs.map (·.1)).Nodup)(_:fs.length<=100)(_:∀H' d bc ob,Hs K C H' a dx d bc (fs.map λq=>(q.1,[(0,0,q.2)]))->(∀b o,H b=some o->b≠a->b≠r->H' b=some o)->(∀l,V.ref l∈bc.map (·.2)->H l=none)->H d=none->H' r=some (.Rb ob (.dK (Ka fs)))->Q .ya H')
inductive BM(K:W.Frag)(C:FQ)(vs:List V)(H:Hp)(Q:VK)(E:XK):Prop|mk(a dx d r:FQ)(kvs:List (Key×V))(m:List (Int×List Ga))(st dl:Int)(dr:Dr)(_:vs=[.ref a,.int st,.int dl,.ref r])(_:Hs K C H a dx d kvs m)(_:Rd H r (.dK (Ka dr)))(_:r≠d)(_:dr.length<=45)(_:m.length<900)(_:(∀q∈m,q.2.length<=900))(_:∀H' bc ob,Hs K C H' a dx d bc (ae m st dl dr)->xM H H' d r kvs->GC H kvs bc->H' r=some (.Rb ob (.dK (Ka dr)))->Q .ya H')
inductive CM(K:W.Frag)(C:FQ)(vs:List V)(H:Hp)(Q:VK)(E:XK):Prop|mk(a dx d:FQ)(kvs:List (Key×V))(m:List (Int×List Ga))(k s:Int)(_:vs=[.ref a,.int k,.int s])(_:Hs K C H a dx d kvs m)(_:∀t H',aa H H'->xa K H' t (Ku (Cd (hk m k) s))->Q (.ref t) H')
inductive DM(K:W.Frag)(C:FQ)(vs:List V)(H:Hp)(Q:VK)(E:XK):Prop|mk(a dx d:FQ)(kvs:List (Key×V))(m:List (Int×List Ga))(k:Int)(_:vs=[.ref a,.int k])(_:Hs K C H a dx d kvs m)(_:∀t H',aa H H'->xa K H' t (Ku (Wf (hk m k)))->Q (.ref t) H')
def er{m:List (Int×List Ga)}{k:Int}(h:k∉m.map (·.1)):hk m k=[]:=by
 have e:m.find? (λq=>decide (q.1=k))=none:=by grind
 unfold hk;rw[e];rfl
def Yc(fs:Dr)(k:Int)(o:Option Int):Dr:=if k∈fs.map (·.1)then fs.map (λq=>if q.1=k then(q.1,o)else q)else fs++[(k,o)]
def gr(fs:Dr)(k:Int)(o:Option Int):(Yc fs k o).length<=fs.length+1:=by
 unfold Yc;split
 ·rw[Na];lia
 ·simp
def jp{fs:Dr}(k:Int)(o:Option Int)(J:(fs.map (·.1)).Nodup):((Yc fs k o).map (·.1)).Nodup:=by
 unfold Yc;split
 ·rw[ag];rw[show fs.map ((·.1)∘λq=>if q.1=k then(q.1,o)else q)=fs.map (·.1)from Dn λq _=>by
   show(if q.1=k then(q.1,o)else q).1=q.1;split<;>rfl]
  exact J
 ·rename_i h;rw[Dg];refine En.mpr ⟨J,by simp,λx O y Y z=>h ?_⟩;have e:y=k:=by simpa using Y
  rw[<-e,<-z];exact O
def EM(fs:Dr)(k:Int):kb (Ka fs) (Sum.inl k:Key)=(fs.find? λq=>decide (q.1=k)).map λq=>ov q.2:=by
 induction fs with
 |nil=>rfl
 |cons q r J=>
  by_cases e:q.1=k
  ·show kb ((Sum.inl q.1,ov q.2)::Ka r) _=_;rw[og (Td Sum.inl e),ce,Ec e];rfl
  ·show kb ((Sum.inl q.1,ov q.2)::Ka r) _=_;rw[Of (by grind),J,ce,Eg e]
def vn(fs:Dr)(k:Int)(o:Option Int):nb (Ka fs) (Sum.inl k:Key) (ov o)=Ka (Yc fs k o):=by
 unfold nb Yc;by_cases h:k∈fs.map (·.1)
 ·have J:((Ka fs).any λO=>decide (O.1=(Sum.inl k:Key)))=HQ:=by
   obtain⟨q,Y,e⟩:=Fd.mp h;exact Ik.mpr ⟨(Sum.inl q.1,ov q.2),Zl Y,by grind⟩
  rw[Ca J,Ca h];unfold Ka;rw[ag,ag];refine Dn λq _=>?_
  by_cases e:q.1=k
  ·simp[e]
  ·simp[e]
 ·have J:¬((Ka fs).any λO=>decide (O.1=(Sum.inl k:Key)))=HQ:=λz=>by
   obtain⟨x,a0,e⟩:=Ik.mp z;obtain⟨q,Y,rfl⟩:=Fd.mp a0;exact h (by grind)
  rw[Ba J,Ba h];unfold Ka;rw[Dg];rfl
def fk(fs:Dr)(k:Int):Option (Option Int):=(fs.find? λq=>decide (q.1=k)).map (·.2)
def m0(fs:Dr):List (Int×List Ga):=fs.map λq=>(q.1,[(0,0,q.2)])
def Tl(fs:Dr)(k:Int):kb (Ka fs) (Sum.inl k:Key)=(fk fs k).map ov:=by
 rw[EM];unfold fk;cases fs.find? λq=>decide (q.1=k)<;>rfl
def FM(m:List (Int×List Ga))(j k:Int)(r:Ga):hk (Vf m j r) k=if j=k then hk m k++[r]else hk m k:=by
 by_cases O:j∈m.map (·.1)
 ·rw[kn O];induction m with
  |nil=>simp at O
  |cons q m Y=>
   by_cases e:q.1=k
   ·by_cases J:q.1=j
    ·have:j=k:=J▸e;simp[hk,ce,e,this]
    ·have:¬j=k:=by grind
     have d0:¬k=j:=by grind
     simp[hk,ce,e,this,d0]
   ·by_cases J:q.1=j
    ·have a0:=λz=>e (J.trans z)
     rw[Ba a0];have e0:(List.find? (λq=>decide (q.1=k)) (m.map λq=>if q.1=j then(q.1,q.2++[r])else q))=(m.find? λq=>decide (q.1=k)).map id:=by
      clear Y O;induction m with
      |nil=>rfl
      |cons x m b0=>
       by_cases ex:x.1=k
       ·have:¬k=j:=λz=>a0 z.symm
        simp[ce,ex,this]
       ·by_cases c0:x.1=j
        ·simp only[qd,ce,Ca c0,Eg ex];exact b0
        ·simp only[qd,ce,Ba c0,Eg ex];exact b0
     simp only[hk,qd,ce,Ca J,Eg e,e0];simp
    ·have f0:j∈m.map (·.1):=by
      rcases Mb.mp O with z|z
      ·exact absurd z.symm J
      ·exact z
     have:=Y f0;simp only[hk,qd,ce,Ba J,Eg e]at this⊢;exact this
 ·rw[Sl O];by_cases e:j=k
  ·subst e;have:m.find? (λq=>decide (q.1=j))=none:=by grind
   simp[hk,Ar,this]
  ·rw[Ba e];unfold hk;rw[Ar];cases m.find? λq=>decide (q.1=k)with
   |none=>simp[e]
   |some q=>rfl
def Mu(st dl k:Int):∀(J:Dr)(m:List (Int×List Ga)),(J.map (·.1)).Nodup->hk (ae m st dl J) k=match fk J k with
  |some o=>hk m k++[(st,dl,o)]
  |none=>hk m k
 |[],_,_=>rfl
 |q::r,m,Y=>by
  have O:=ei.mp Y;show hk (ae (Vf m q.1 (st,dl,q.2)) st dl r) k=_;rw[Mu st dl k r _ O.2,FM];by_cases e:q.1=k
  ·have:fk r k=none:=by
    unfold fk;rw[List.find?_eq_none.mpr λx a0 z=>O.1 (by show q.1∈_;rw[e,<-Ed z];exact Zl a0)];rfl
   rw[this,Ca e];simp[fk,ce,e]
  ·rw[Ba e];simp[fk,ce,e]
def hr(k:Int):∀fs:Dr,hk (m0 fs) k=match fk fs k with
  |some o=>[(0,0,o)]
  |none=>[]
 |[]=>rfl
 |q::r=>by
  have J:=hr k r;by_cases e:q.1=k
  ·simp[hk,m0,fk,ce,e]
  ·simp only[hk,m0,fk,qd,ce,Eg e]at J⊢;exact J
def fy(st dl:Int):∀(J:Dr)(m:List (Int×List Ga)),(ae m st dl J).length<=m.length+J.length
 |[],_=>Ra _
 |q::r,m=>by
  have O:=fy st dl r (Vf m q.1 (st,dl,q.2));have Y:=Lu (m:=m) (k:=q.1) (r:=(st,dl,q.2));show(ae (Vf m q.1 (st,dl,q.2)) st dl r).length<=m.length+(r.length+1);lia
def vc(e:H a=some (.dK kvs))(h:kb kvs k=o):uf H a (kV k) o:=h▸uf.k e
def Ul{q J:Type}(l:List q)(d:q)(g:q->Option J):(List.range l.length).filterMap (λi=>g (l.getD i d))=l.filterMap g:=by
 have e:(List.range l.length).map (λi=>l.getD i d)=l:=by
  refine List.ext_getElem (by simp) λi Y O=>?_
  simp only[List.getElem_map,List.getElem_range];rw[Af,Dc O];rfl
 conv=>rhs;rw[<-e]
 rw[List.filterMap_map];rfl
def gy{q:Type}(l:List q)(p:q->Bool)(f:q->V):l.filterMap (λx=>if p x=HQ then some (f x)else none)=(l.filter p).map f:=by
 induction l with
 |nil=>rfl
 |cons x r J=>
  rw[Sn,Fn];by_cases h:p x=HQ
  ·simp only[h,if_true,qd,J]
  ·simp only[h,if_false,J,Qn]
def ir:∀{l U:List Int},l.Nodup->(∀x∈l,x∈U)->l.length<=U.length
 |[],U,_,_=>wc _
 |x::r,U,Y,q=>by
  obtain⟨a0,b0⟩:=ei.mp Y;have J:=q x bf;have:=ir b0 λy O=>(List.mem_erase_of_ne (show y≠x fromλz=>a0 (z▸O))).mpr (q y (xj _ O))
  rw[List.length_erase_of_mem J]at this;have:=List.length_pos_of_mem J;show r.length+1<=U.length;lia
def Le{fs:Dr}{k:Int}:fk fs k=none↔k∉fs.map (·.1):=by
 unfold fk;rw[Option.map_eq_none_iff,List.find?_eq_none];constructor
 ·intro h z;obtain⟨q,J,e⟩:=Fd.mp z;exact h q J (Ec e)
 ·intro h q J z;exact h (by grind)
def oh(q:Int×Option Int)(r:Dr)(k:Int):fk (q::r) k=if q.1=k then some q.2 else fk r k:=by
 unfold fk;by_cases e:q.1=k
 ·simp[e]
 ·simp[e]
def JC:∀{fs:Dr}{k:Int}{o:Option Int},(fs.map (·.1)).Nodup->(fk fs k=some o↔(k,o)∈fs)
 |[],k,o,_=>by simp[fk]
 |q::r,k,o,J=>by
  obtain⟨O,Y⟩:=ei.mp J;rw[oh];by_cases e:q.1=k
  ·rw[Ca e];constructor
   ·intro z;have:q=(k,o):=by grind
    rw[this];exact bf
   ·intro z;rcases Mb.mp z with y|y
    ·rw[<-y]
    ·exact absurd (by show q.1∈_;rw[e];exact Zl y) O
  ·rw[Ba e,JC Y];constructor
   ·exact xj _
   ·intro z;rcases Mb.mp z with y|y
    ·exact absurd (by rw[<-y]) e
    ·exact y
def HM(a b:Dr)(k:Int):fk (a++b) k=match fk a k with
  |some o=>some o
  |none=>fk b k:=by
 induction a with
 |nil=>rfl
 |cons q r J=>
  rw[List.cons_append,oh,oh];by_cases e:q.1=k
  ·rw[Ca e,Ca e]
  ·rw[Ba e,Ba e];exact J
def np(fs:Dr)(k:Int)(o:Option Int)(j:Int):fk (Yc fs k o) j=if k=j then some o else fk fs j:=by
 unfold Yc;by_cases h:k∈fs.map (·.1)
 ·rw[Ca h];have Y:∀r:Dr,fk (r.map λq=>if q.1=k then(q.1,o)else q) j=if k=j then(if k∈r.map (·.1)then some o else fk r j)else fk r j:=by
   intro r;induction r with
   |nil=>simp[fk]
   |cons q r a0=>
    rw[qd,oh,oh,a0];by_cases e:q.1=k
    ·by_cases J:k=j
     ·simp[e,J]
     ·simp[e,J]
    ·by_cases J:k=j
     ·subst J;have b0:¬k=q.1:=λz=>e z.symm
      rw[Ba e,Ca rfl,Ca rfl,Ba e,Ba e,qd];by_cases O:k∈r.map (·.1)
      ·rw[Ca O,Ca (by grind)]
      ·rw[Ba O,Ba λz=>(Mb.mp z).elim b0 O]
     ·simp[e,J]
  rw[Y fs];by_cases e:k=j
  ·rw[Ca e,Ca h,Ca e]
  ·rw[Ba e,Ba e]
 ·rw[Ba h,HM,oh];by_cases e:k=j
  ·subst e;rw[Le.mpr h,Ca rfl];simp
  ·cases fk fs j<;>simp[fk,e]
def IM{fs:Dr}{k:Int}{o:Option Int}{x:Int}(h:x∈(Yc fs k o).map (·.1)):x=k\/x∈fs.map (·.1):=by
 by_cases e:k=x
 ·exact .inl e.symm
 ·right;apply Mi;intro z;have:fk (Yc fs k o) x=none:=by rw[np,Ba e];exact Le.mpr z
  exact Le.mp this h
def wn(q ds:Dr)(k:Int):Option (Option Int):=match fk ds k with
 |some o=>some o
 |none=>fk q k
def ik(q ds:Dr)(lo hi:Int)(L:Dr):Prop:=(L.map (·.1)).Pairwise (·<·)/\∀k o,(k,o)∈L↔(lo<=k/\k<=hi)/\wn q ds k=some o/\o≠none
def KC:∀{a b:Dr},(a.map (·.1)).Pairwise (·<·)->(b.map (·.1)).Pairwise (·<·)->(∀x,x∈a↔x∈b)->a=b
 |[],[],_,_,_=>rfl
 |[],y::r,_,_,h=>absurd ((h y).mpr bf) (by simp)
 |x::r,[],_,_,h=>absurd ((h x).mp bf) (by simp)
 |x::r,y::d0,Y,a0,h=>by
  obtain⟨J,b0⟩:=Eh.mp Y;obtain⟨O,c0⟩:=Eh.mp a0;have e:x=y:=by
   rcases Mb.mp ((h x).mp bf)with z|z
   ·exact z
   ·rcases Mb.mp ((h y).mpr bf)with z2|z2
    ·exact z2.symm
    ·have q:y.1<x.1:=O x.1 (Zl z);have e0:x.1<y.1:=J y.1 (Zl z2);lia
  subst e;rw[KC b0 c0 λz=>?_];constructor
  ·intro hz;rcases Mb.mp ((h z).mp (xj _ hz))with w|w
   ·have q:x.1<z.1:=J z.1 (Zl hz);rw[w]at q;lia
   ·exact w
  ·intro hz;rcases Mb.mp ((h z).mpr (xj _ hz))with w|w
   ·have q:x.1<z.1:=O z.1 (by grind);rw[w]at q;lia
   ·exact w
def JM{lo hi:Int}(a:ik q ds lo hi L)(b:ik q ds lo hi J):L=J:=KC a.1 b.1 λx=>(a.2 x.1 x.2).trans (b.2 x.1 x.2).symm
def LC{l:List Int}(h:l.Pairwise (·<·)):l.Nodup:=h.imp λh z=>by lia
def lj(x:Option (Option Int))(k:Int):Option (Int×Option Int):=match x with
 |some (some v)=>some (k,some v)
 |_=>none
def iy:lj x k=some q↔q.1=k/\x=some q.2/\q.2≠none:=by
 cases x with
 |none=>simp[lj]
 |some y=>
  cases y with
  |none=>
   simp only[lj];constructor
   ·intro z;cases z
   ·rintro⟨O,J,Y⟩;exact absurd (Yd J).symm Y
  |some v=>
   simp only[lj];constructor
   ·intro z;cases z;exact(by grind)
   ·rintro⟨O,J,Y⟩;rw[<-O,Yd J]
def jy(g:Int->Option (Option Int)):∀q:List Int,((q.filterMap λk=>lj (g k) k).map (·.1)).Sublist q
 |[]=>.slnil
 |k::r=>by
  rw[Sn];cases e:lj (g k) k with
  |none=>exact(jy g r).cons _
  |some J=>
   have:=(iy.mp e).1;rw[qd,this];exact(jy g r).cons_cons k
def LM{J ds:Dr}{lo hi:Int}{q:List Int}(g:Int->Option (Option Int))(d0:q.Pairwise (·<·))(O:∀k v,(k∈q/\g k=some (some v))↔((lo<=k/\k<=hi)/\wn J ds k=some (some v))):ik J ds lo hi (q.filterMap λk=>lj (g k) k):=by
 refine⟨d0.sublist (jy g q),λk o=>?_⟩;rw[xk];constructor
 ·rintro⟨j,e0,e⟩;obtain⟨Y,a0,b0⟩:=iy.mp e;dsimp only at Y a0 b0;subst Y;cases o with
  |none=>exact absurd rfl b0
  |some v=>
   have:=(O k v).mp ⟨e0,a0⟩;exact(by grind)
 ·rintro⟨f0,g0,c0⟩;cases o with
  |none=>exact absurd rfl c0
  |some v=>
   obtain⟨h0,i0⟩:=(O k v).mpr ⟨f0,g0⟩;exact⟨k,h0,iy.mpr ⟨rfl,i0,c0⟩⟩
def mj{ks:List Int}(q:ks.Nodup):(eb ks).Pairwise (·<·):=by
 have J:=XA ks;have O:=(mc ks).nodup_iff.mpr q;have Y:=J.and O;exact Y.imp λh=>by lia
def Nu(J:List Int):(dd J).Nodup/\∀k,k∈dd J↔k∈J:=by
 have a0:∀(J q:List Int),q.Nodup->(J.foldl aR q).Nodup/\∀k,k∈J.foldl aR q↔k∈q\/k∈J:=by
  intro J;induction J with
  |nil=>intro q Y;exact(by grind)
  |cons n r O=>
   intro q Y;rw[List.foldl_cons];by_cases h:n∈q
   ·have e:aR q n=q:=by unfold aR;rw[Ca (by grind)]
    rw[e];refine⟨(O q Y).1,λk=>?_⟩;rw[(O q Y).2 k,Mb];constructor
    ·rintro(z|z)
     ·exact .inl z
     ·exact .inr (.inr z)
    ·rintro(z|z|z)
     ·exact .inl z
     ·exact .inl (z▸h)
     ·exact .inr z
   ·have e:aR q n=q++[n]:=by
     unfold aR;rw[Ba λz=>by obtain⟨x,c0,ex⟩:=Ik.mp z;exact h (by rw[<-beq_iff_eq.mp ex];exact c0)]
    have b0:(q++[n]).Nodup:=En.mpr (by grind);rw[e];refine⟨(O _ b0).1,λk=>?_⟩;rw[(O _ b0).2 k,Ah,yg,Mb,or_assoc]
 exact⟨(a0 J [] .nil).1,λk=>by rw[show dd J=J.foldl aR []from rfl,(a0 J [] .nil).2 k];simp⟩
def gb(lo hi:Int)(k:Int):Bool:=decide (lo<=k/\k<=hi)
def ve(lo hi:Int)(m:Dr)(q:Int×Option Int):Dr:=if gb lo hi q.1=HQ then Yc m q.1 q.2 else m
def ky(lo hi:Int)(k:Int):∀O:Dr,fk (O.filter λq=>gb lo hi q.1) k=if gb lo hi k=HQ then fk O k else none
 |[]=>by simp[fk]
 |q::r=>by
  rw[Fn,oh];by_cases e:gb lo hi q.1=HQ
  ·rw[Ca e,oh,ky lo hi k r];by_cases J:q.1=k
   ·subst J;rw[Ca rfl,Ca e,Ca rfl]
   ·rw[Ba J,Ba J]
  ·rw[Ba e,ky lo hi k r];by_cases J:q.1=k
   ·subst J;rw[Ba e,Ba e]
   ·rw[Ba J]
def MC(lo hi:Int)(k:Int):∀(ds m:Dr),(ds.map (·.1)).Nodup->fk (ds.foldl (ve lo hi) m) k=if gb lo hi k=HQ then(match fk ds k with
  |some o=>some o
  |none=>fk m k)else fk m k
 |[],m,_=>by
  split<;>rfl
 |q::r,m,O=>by
  obtain⟨Y,a0⟩:=ei.mp O;rw[List.foldl_cons,MC lo hi k r _ a0,oh];by_cases e:q.1=k
  ·subst e;have b0:=Le.mpr Y;rw[Ca rfl,b0];by_cases J:gb lo hi q.1=HQ
   ·rw[Ca J,Ca J];unfold ve;rw[Ca J];rw[np,Ca rfl]
   ·rw[Ba J,Ba J];unfold ve;rw[Ba J]
  ·rw[Ba e];have h:fk (ve lo hi m q) k=fk m k:=by
    unfold ve;split
    ·rw[np,Ba e]
    ·rfl
   rw[h]
def Ou(lo hi:Int):∀(ds m:Dr),(m.map (·.1)).Nodup->((ds.foldl (ve lo hi) m).map (·.1)).Nodup
 |[],m,J=>J
 |q::r,m,J=>by
  refine Ou lo hi r _ ?_;unfold ve;split
  ·exact jp _ _ J
  ·exact J
def ly(lo hi:Int){U:List Int}:∀(ds m:Dr),(∀x∈ds.map (·.1),x∈U)->(∀x∈m.map (·.1),x∈U)->∀x∈(ds.foldl (ve lo hi) m).map (·.1),x∈U
 |[],m,_,J=>J
 |q::r,m,Y,J=>by
  refine ly lo hi r _ (by grind) λx O=>?_
  unfold ve at O;split at O
  ·rcases IM O with z|z
   ·rw[z];exact Y q.1 bf
   ·exact J x z
  ·exact J x O
def MM(q ds:Dr)(lo hi k:Int)(J:(ds.map (·.1)).Nodup):fk (ds.foldl (ve lo hi) (q.filter λO=>gb lo hi O.1)) k=if gb lo hi k=HQ then wn q ds k else none:=by
 rw[MC lo hi k ds _ J,ky];unfold wn;by_cases e:gb lo hi k=HQ
 ·rw[Ca e,Ca e,Ca e]
 ·rw[Ba e,Ba e,Ba e]
def NM{J ds:Dr}{lo hi:Int}(c0:(J.map (·.1)).Nodup)(a0:(ds.map (·.1)).Nodup):ik J ds lo hi ((eb ((ds.foldl (ve lo hi) (J.filter λO=>gb lo hi O.1)).map (·.1))).filterMap λk=>lj (fk (ds.foldl (ve lo hi) (J.filter λO=>gb lo hi O.1)) k) k):=by
 have b0:((J.filter λO=>gb lo hi O.1).map (·.1)).Nodup:=by grind
 refine LM _ (mj (Ou lo hi ds _ b0)) λk v=>?_
 have hk:=MM J ds lo hi k a0;constructor
 ·rintro⟨Y,q⟩;rw[hk]at q;by_cases e:gb lo hi k=HQ
  ·rw[Ca e]at q;exact⟨Ed e,q⟩
  ·rw[Ba e]at q;cases q
 ·rintro⟨Y,q⟩;have e:gb lo hi k=HQ:=Ec Y;rw[Ca e,q]at hk;refine⟨(mc _).mem_iff.mpr ?_,hk⟩;apply Mi;intro z;rw[Le.mpr z]at hk;cases hk
def Qu:∀{a b:List Int},a.Pairwise (·<·)->b.Pairwise (·<·)->(∀x,x∈a↔x∈b)->a=b
 |[],[],_,_,_=>rfl
 |[],y::r,_,_,h=>absurd ((h y).mpr bf) (by simp)
 |x::r,[],_,_,h=>absurd ((h x).mp bf) (by simp)
 |x::r,y::d0,Y,a0,h=>by
  obtain⟨q,b0⟩:=Eh.mp Y;obtain⟨J,c0⟩:=Eh.mp a0;have e:x=y:=by
   rcases Mb.mp ((h x).mp bf)with z|z
   ·exact z
   ·rcases Mb.mp ((h y).mpr bf)with z2|z2
    ·exact z2.symm
    ·have O:=J x z;have e0:=q y z2;lia
  subst e;rw[Qu b0 c0 λz=>?_];constructor
  ·intro hz;rcases Mb.mp ((h z).mp (xj _ hz))with w|w
   ·have O:=q z hz;lia
   ·exact w
  ·intro hz;rcases Mb.mp ((h z).mpr (xj _ hz))with w|w
   ·have O:=J z hz;lia
   ·exact w
inductive OM(K:W.Frag)(C:FQ)(vs:List V)(H:Hp)(Q:VK)(E:XK):Prop|mk(a dx d:FQ)(kvs:List (Key×V))(m:List (Int×List Ga))(lo hi:Int)(_:vs=[.ref a,.int lo,.int hi])(_:Hs K C H a dx d kvs m)(_:m.length<64)(_:∀p H',H p=none->aa H H'->H' p=some (.lst (((eb (m.map (·.1))).filter (gb lo hi)).map V.int))->Q (.ref p) H')
inductive PM(K:W.Frag)(C:FQ)(vs:List V)(H:Hp)(Q:VK)(E:XK):Prop|mk(a dx d:FQ)(kvs:List (Key×V))(m:List (Int×List Ga))(lo hi:Int)(_:vs=[.ref a,.int lo,.int hi])(_:Hs K C H a dx d kvs m)(_:m.length<64)(_:∀p H',H p=none->aa H H'->H' p=some (.lst ((((eb (m.map (·.1))).filter (gb lo hi)).filter λk=>!decide ((Wf (hk m k)).2.1=0)).map V.int))->Q (.ref p) H')
inductive QM(K:W.Frag)(C:FQ)(vs:List V)(H:Hp)(Q:VK)(E:XK):Prop|mk(a dx d:FQ)(kvs:List (Key×V))(m:List (Int×List Ga))(k:Int)(_:vs=[.ref a,.int k])(_:Hs K C H a dx d kvs m)(_:∀p H',H p=none->aa H H'->H' p=some (.lst ((((hk m k).filter λq=>!decide (q.2.1=0)).map (·.2.1)).map V.int))->Q (.ref p) H')
def RM:Sp:=λvs H Q _=>∃k l h:Int,vs=[.int k,.int l,.int h]/\Q (.bl (decide (l<=k/\k<=h))) H
inductive Bc(H:Hp):List V->Dr->Prop where
 |nil:Bc H [] []
 |cons{t:FQ}{k:Int}{o:Option Int}{ws:List V}{L:Dr}(h:H t=some (.tup [.int k,ov o]))(r:Bc H ws L):Bc H (.ref t::ws) ((k,o)::L)
def Bc.keep(r:Bc H q L)(k:∀b xs,H b=some (.tup xs)->H' b=some (.tup xs)):Bc H' q L:=by
 induction r with
 |nil=>exact .nil
 |cons h _ J=>exact .cons (k _ _ h) J
def Bc.same(r:Bc H q L)(s:aa H H'):Bc H' q L:=r.keep λ_ _ e=>s _ _ e
def Bc.len(r:Bc H q L):q.length=L.length:=by
 induction r with
 |nil=>rfl
 |cons _ _ J=>simp only[Hk,J]
def Bc.get(r:Bc H q L){i:Nat}(hi:q[i]?=some v):∃t k o,v=.ref t/\L[i]?=some (k,o)/\H t=some (.tup [.int k,ov o]):=by
 induction r generalizing i with
 |nil=>simp at hi
 |@cons t k o q L h _ J=>
  cases i with
  |zero=>cases hi;exact(by grind)
  |succ i=>simpa using J (by simpa using hi)
def Bc.snoc(r:Bc H q L)(h:H t=some (.tup [.int k,ov o])):Bc H (q++[.ref t]) (L++[(k,o)]):=by
 induction r with
 |nil=>exact .cons h .nil
 |cons J _ O=>exact .cons J O
def Bc.SM(r:Bc H q L):Eo K H q (Ka L):=by
 induction r with
 |nil=>exact .nil
 |cons h _ J=>exact .cons (xa.of h) J
def Bc.sel(p:Int->Bool)(r:Bc H q L):Bc H ((q.zip L).filterMap λx=>if p x.2.1=HQ then some x.1 else none) (L.filter λO=>p O.1):=by
 induction r with
 |nil=>exact .nil
 |@cons t k o q L h _ J=>
  rw[List.zip_cons_cons,Sn,Fn];by_cases e:p k=HQ
  ·rw[Ca e,Ca e];exact .cons h J
  ·rw[Ba e,Ba e];exact J
def Sg(q:Int×Option Int):QQ:=.tuple [.int q.1,match q.2 with
 |some v=>.int v
 |none=>.none]
def my(L:Dr):PyData.canLayAll0 (L.map Sg)=HQ/\PyData.depthAll (L.map Sg)<=1:=by
 induction L with
 |nil=>exact⟨rfl,wc _⟩
 |cons q r J=>
  obtain⟨k,o⟩:=q;have e:PyData.canLay0 (Sg (k,o))=HQ/\PyData.depth (Sg (k,o))=1:=by cases o<;>exact⟨rfl,rfl⟩
  refine⟨?_,?_⟩
  ·show(PyData.canLay0 (Sg (k,o))&&PyData.canLayAll0 (r.map Sg))=HQ;rw[e.1,J.1];rfl
  ·show max (PyData.depth (Sg (k,o))) (PyData.depthAll (r.map Sg))<=1;rw[e.2];exact Nat.max_le.mpr (by grind)
def TM{fs:Dr}{k:Int}{o:Option Int}(h:k∉fs.map (·.1)):Yc fs k o=fs++[(k,o)]:=by
 unfold Yc;rw[Ba h]
def NC:∀(b a:Dr),((a++b).map (·.1)).Nodup->Ym (Ka a) (Ka b)=Ka (a++b)
 |[],a,_=>by rw[Vn];rfl
 |q::r,a,J=>by
  have O:=λz=>by
   rw[Dg,En]at J;exact J.2.2 q.1 z q.1 bf rfl
  show Ym (nb (Ka a) (Sum.inl q.1:Key) (ov q.2)) (Ka r)=_;rw[vn,TM O,NC r (a++[(q.1,q.2)]) (by simpa using J)];simp
def nj(fs:Dr):(Ka fs).map (·.1)=(fs.map (·.1)).map Sum.inl:=by
 unfold Ka;rw[ag,ag];rfl
def ny{f0 fs:L2.St}(n:Nat)(f:Nat->Option (Int×Option Int))(i0:f0=List.replicate k none++fs)(hz:n<=JQ)(j0:∀i H,aa Y H->i<n->c0.go i H)(k0:∀H,aa Y H->c0.stop n H)
  (step:∀i H(a0:L2.St)v H' (R:Option V->L2.St->Hp->Prop),aa Y H->i<n->a0.length=k->c0.pe i H v H'->(f i=none->∀(J:L2.St)q,J.length=k->aa H q->R none (J++fs) q)->
   (∀a b,f i=some (a,b)->∀t(J:L2.St)q,q t=some (.tup [.int a,ov b])->J.length=k->aa H q->R (some (.ref t)) (J++fs) q)->
   g v (a0++fs) H' λb0 l0=>n0 b0 l0 λok q=>if ok=HQ then o0 b0 q λy H4=>R (some y) b0 H4 else R none b0 q)
  (fin:∀D H' ys,Y D=none->aa Y H'->H' D=some (.lst ys)->Bc H' ys ((List.range n).filterMap f)->Q (.ref D) H'):dj f0 c0 g n0 o0 Q Y:=by
 refine wq n (λ_ i ys H=>Bc H ys ((List.range i).filterMap f)) i0 hz j0 k0 (λ_ i _ _ p=>p.len▸Gw f i) (λ_ _=>.nil) (λD i H ys a0 v H' R p0 g0 q0 hi r0 y a b=>step i H a0 v H' R q0 hi r0 y (λe J q d0 O=>b J q d0 O ?_) λc d e t J q s0 d0 O=>a _ J q d0 O ?_) fin
 ·rw[show(List.range (i+1)).filterMap f=(List.range i).filterMap f by simp[Nk,e]];exact g0.same O
 ·have h0:∀c xs,q c=some (.tup xs)->upd q D (.lst (ys++[.ref t])) c=some (.tup xs):=λc xs e0=>by
   rw[ka λz=>by rw[z,O _ _ p0]at e0;cases e0];exact e0
  rw[show(List.range (i+1)).filterMap f=(List.range i).filterMap f++[(c,d)]by simp[Nk,e]];exact((g0.same O).keep h0).snoc (h0 _ _ s0)
def OC(g:Int->Option Int)(k:Int):∀J:List Int,fk (J.map λk=>(k,g k)) k=if k∈J then some (g k)else none
 |[]=>by simp[fk]
 |x::r=>by
  rw[qd,oh,OC g k r];by_cases e:x=k
  ·subst e;rw[Ca rfl,Ca bf]
  ·rw[Ba e];by_cases q:k∈r
   ·rw[Ca q,Ca (by grind)]
   ·rw[Ba q,Ba λz=>(Mb.mp z).elim (λy=>e y.symm) q]
def Ze(l:List Int)(g:Int->Option Int):Dr:=(l.filter λk=>(g k).isSome).map λk=>(k,g k)
def UM(l:List Int)(g:Int->Option Int):((l.map λk=>(k,g k)).filter λq=>q.2.isSome)=Ze l g:=by
 rw[List.filter_map];rfl
def VM{q J:List Int}{g:Int->Option Int}(O:q.Pairwise (·<·))(Y:J.Pairwise (·<·))(h:∀k,(g k).isSome=HQ->(k∈q↔k∈J)):Ze q g=Ze J g:=by
 unfold Ze;rw[Qu (O.sublist Dh) (Y.sublist Dh) λx=>?_];rw[Gh,Gh];constructor
 ·rintro⟨a,b⟩;exact(by grind)
 ·rintro⟨a,b⟩;exact(by grind)
def WM(h:∀k∈l,g k=g' k):Ze l g=Ze l g':=by
 unfold Ze;rw[List.filter_congr λk hk=>by rw[h k hk]];exact Dn (by grind)
inductive XM(K:W.Frag)(C:FQ)(vs:List V)(H:Hp)(Q:VK)(E:XK):Prop|mk(a dx d:FQ)(kvs:List (Key×V))(m:List (Int×List Ga))(l:FQ)(sk:List Int)(s:Int)(_:vs=[.ref a,.ref l,.int s])(_:Hs K C H a dx d kvs m)(_:H l=some (.lst (sk.map V.int)))(_:sk.length<64)(_:∀p H' ys,H p=none->aa H H'->H' p=some (.lst ys)->Bc H' ys (Ze sk λk=>(Cd (hk m k) s).2.2)->Q (.ref p) H')
inductive YM(K:W.Frag)(C:FQ)(vs:List V)(H:Hp)(Q:VK)(E:XK):Prop|mk(a dx d:FQ)(kvs:List (Key×V))(m:List (Int×List Ga))(s:Int)(_:vs=[.ref a,.int s])(_:Hs K C H a dx d kvs m)(_:m.length<64)(_:∀p H' ys,H p=none->aa H H'->H' p=some (.lst ys)->Bc H' ys (Ze (eb (m.map (·.1))) λk=>(Cd (hk m k) s).2.2)->Q (.ref p) H')
inductive ZM(K:W.Frag)(C:FQ)(vs:List V)(H:Hp)(Q:VK)(E:XK):Prop|mk(a dx d:FQ)(kvs:List (Key×V))(m:List (Int×List Ga))(lo hi s:Int)(_:vs=[.ref a,.int lo,.int hi,.int s])(_:Hs K C H a dx d kvs m)(_:m.length<64)(_:∀p H' ys,H p=none->aa H H'->H' p=some (.lst ys)->Bc H' ys (Ze ((eb (m.map (·.1))).filter (gb lo hi)) λk=>(Cd (hk m k) s).2.2)->Q (.ref p) H')
inductive aN(vs:List V)(H:Hp)(Q:VK)(E:XK):Prop|mk(r d:FQ)(ws:List V)(rs ds:Dr)(lo hi:Int)(U:List Int)(_:vs=[.ref r,.ref d,.int lo,.int hi])(_:H r=some (.lst ws))(_:Bc H ws rs)(_:(rs.map (·.1)).Nodup)(_:Rd H d (.dK (Ka ds)))(_:(ds.map (·.1)).Nodup)(_:U.length<=60)(_:(∀x∈rs.map (·.1),x∈U))(_:(∀x∈ds.map (·.1),x∈U))(_:∀p jr L H',H p=none->(∀b o,b≠d->H b=some o->H' b=some o)->Rd H' d (.dK (Ka ds))->H' p=some (.lst jr)->Bc H' jr L->ik rs ds lo hi L->Q (.ref p) H')
def Ru(T:Tx K mg):T.Oo.Ok P w base 1 RM:=by
 refine Qa T.Oo.F λ_ _ _ _ _ h=>?_
 ·obtain⟨k,l,h,rfl,q⟩:=h;refine⟨_,(qa (Ha (aF Hm Hm (pv 1) (pv 0) (pv 2)))),?_⟩;refine⟨_,rfl,_,rfl,_,_,rfl,rfl,_,rfl,bb (λe=>⟨_,rfl,_,_,rfl,rfl,?_⟩) (λe=>?_)⟩
  ·have J:=Ed e;rw[show decide (l<=k/\k<=h)=decide (k<=h)from decide_eq_decide.mpr (by lia)]at q;exact q
  ·have J:=λz=>e (Ec z)
   rw[show decide (l<=k/\k<=h)=IQ from Eg λz=>J z.1]at q;exact q
def pc(T:Tx K mg):T.Oq.Ok mg P w base 1 (AM K T.Jc):=by
 refine Qa T.Oq.F λH _ _ _ J0 h=>?_
 ·obtain⟨a,e0,r,fs,rfl,z0,k0,A0,W0,k⟩:=h;have K0:=yc J0;refine⟨_,(oa (Mc (pv 0) Rj rfl)
   (qa (re me rfl (Kw (pv 1)) (jo rfl (Ef (Kd 2) (Ef (Kd 3) Vk)))
   (qa (We K0 (Ia K 0) (pv 2) (Zb (va (Hb (ca ra (ca (Ui (v:=V.int (0)) rfl T.Yx ⟨_,rfl⟩) (Ea 3)))))) rfl))))),?_⟩
  show let L0:TS:=qe _ _ _;ma _ L0 _ _ _
  intros;intro d l0;have ad:a≠d:=by grind
  refine⟨_,rfl,a,_,e0,[],rfl,(by rw[ka ad];exact z0),T.Ke,T.Fl,(by decide),?_⟩;have n0:r≠d:=λz=>by rcases k0 with e|⟨o,e⟩<;>(rw[z,l0]at e;cases e)
  have B0:r≠a:=λz=>by rcases k0 with e|⟨o,e⟩<;>(rw[z,z0]at e;cases e)
  have C0:∀b o,H b=some o->b≠a->upd (upd H d (.dK [])) a (.ins T.Jc e0 (Jd "makes" (.ref d) [])) b=some o:=λb o e n=>by rw[ka n,ka λz=>by rw[z,l0]at e;cases e];exact e
  refine⟨_,rfl,r,Ka fs,rfl,?_,λob f0 o0 p0 X0=>?_⟩
  ·rcases k0 with e|⟨o,e⟩
   ·exact .inl (C0 _ _ e B0)
   ·exact .inr (by grind)
  have D0:=p0 a _ (ud B0) ia;have M0:=p0 d (.dK []) (ud n0) (by rw[ka (ud ad),ia]);have F0:=λb o e n q0=>p0 _ _ q0 (C0 b o e n)
  have N0:∀l,f0 l=none->H l=none:=λl z=>by
   cases e:H l with
   |none=>rfl
   |some o=>
    by_cases c0:l=a
    ·rw[c0,D0]at z;cases z
    ·by_cases G0:l=r
     ·rw[G0,o0]at z;cases z
     ·rw[F0 l o e c0 G0]at z;cases z
  refine Mw (λi g0 O=>∃Y r0 s0,g0=[some (.ref a),some (.ref r),r0,s0]/\Hs K T.Jc O a e0 d Y ((fs.take i).map λq=>(q.1,[(0,0,q.2)]))/\(∀b o,f0 b=some o->b≠d->O b=some o)/\∀l,V.ref l∈Y.map (·.2)->f0 l=none)
   (nx2 ([]) none none rfl ⟨D0,M0,.nil,Ld,(λq h0=>by cases h0),(λq h0=>by cases h0),.nil,.nil⟩ (λb o e _=>e) λl z=>by cases z) (by rintro i g0 O⟨_,_,_,_,_,a0,_⟩;exact a0 _ _ o0 n0) ?_ ?_
  ·rintro i Y0 x g0 O p t0⟨Y,r0,s0,rfl,J,a0,nw⟩O0;have hi:i<fs.length:=by
    have:=(ee.mp t0).1;unfold Ka at this;rwa[Na]at this
   obtain⟨⟨fk,b0⟩,u0⟩:∃q,fs[i]?=some q:=⟨_,Dc hi⟩;have ex:(Ka fs)[i]?=some (Sum.inl fk,ov b0):=by unfold Ka;rw[ge,u0];rfl
   rw[ex]at t0;cases t0;have Q0:fs.take (i+1)=fs.take i++[(fk,b0)]:=by rw[Oi,u0];rfl
   have i0:fk∉((fs.take i).map λq=>(q.1,[((0:Int),(0:Int),q.2)])).map (·.1):=by
    intro z;rw[ag]at z;obtain⟨q,h0,e⟩:=Fd.mp z;have R0:fs=fs.take i++(fk,b0)::fs.drop (i+1):=by
     have H0:=(ee.mp u0);conv=>lhs;rw[<-List.take_append_drop i fs]
     rw[List.drop_eq_getElem_cons H0.1,H0.2]
    rw[R0,Dg,qd]at A0;exact(En.mp A0).2.2 fk ‹_› fk bf rfl
   refine nx7 p _ rfl (xa.of ia) rfl _ _ rfl _ _ rfl rfl ?_;have sp:=aa.upd (o:=HO.tup [kV (Sum.inl fk:Key),ov b0]) O0;refine⟨_,rfl,Eb,λt v0=>⟨jb,λl j0=>?_⟩⟩;have w0:=(sp.trans (aa.upd v0)).trans (aa.upd (o:=HO.lst [.ref t]) j0);have x0:=J.same w0;have d0:=uc (sp.trans (aa.upd v0)) j0;have I0:=uc sp v0;have ld:l≠d:=λz=>by rw[z,J.dict]at d0;cases d0
   have td:t≠d:=λz=>by rw[z,J.dict]at I0;cases I0
   have S0:t≠l:=λz=>by rw[<-z,ia]at j0;cases j0
   have y0:((fs.take i).map λq=>(q.1,[((0:Int),(0:Int),q.2)])).length<=100:=by rw[Na,vj];lia
   refine⟨_,rfl,a,_,e0,_,_,rfl,x0.obj,T.Ke,T.Fl,rfl,_,rfl,d,_,rfl,ue.k x0.dict (by rw[x0.ent.len];exact Dk y0 (by decide)),nb Y (Sum.inl fk:Key) (.ref l),_,_,rfl,?_,?_,?_⟩
   ·rw[Q0,Dg];have:=J.snoc i0 d0 (H4:=upd (upd (upd (upd O p (.tup [kV (Sum.inl fk:Key),ov b0])) t (.tup [.int 0,.int 0,ov b0])) l (.lst [.ref t])) d (.dK (nb Y (Sum.inl fk) (.ref l)))) ia (by rw[ka ld,ia]) (by rw[ka td,ka S0,ia]) (λb u n e=>by rw[ka n];exact w0 _ _ e) (by lia);rw[Sl i0,<-cr (J.ent.Vb i0)]at this;exact this
   ·intro b o e n;rw[ka n];exact w0 _ _ (a0 b o e n)
   ·intro c0 z;have U0:=cr (l:=l) (J.ent.Vb i0);rw[U0,Dg]at z;rcases Ah.mp z with z|z
    ·exact nw c0 z
    ·have V0:c0=l:=by simpa using z
     rw[V0];cases e:f0 l with
     |none=>rfl
     |some o=>rw[a0 l o e ld]at d0;cases d0
  ·rintro g0 O⟨Y,r0,s0,rfl,J,a0,nw⟩;have y0:(Ka fs).length=fs.length:=Na _;rw[y0,sj]at J;exact k O d Y ob J (λb o e n q0=>a0 _ _ (F0 b o e n q0) (by grind)) (λl z=>N0 l (nw l z)) l0 (a0 _ _ o0 n0)
def Cc(T:Tx K mg):T.Pq.Ok mg P w base 1 (BM K T.Jc):=by
 refine Qa T.Pq.F λH vs _ _ _ h=>?_
 ·obtain⟨a,r0,d,r,kvs,m,st,dl,q,rfl,a0,n0,A0,b1,d1,L0,k⟩:=h;refine⟨_,(qa (re me rfl (Kw (pv 3)) (jo rfl (Ef (Kd 4) (Ef (Kd 5) Vk)))
   (qa (Ub (Oj Fg qm mm ew (VA (Ia K 0) (pv 4) (Zb jf) ⟨rfl,rfl,rfl,rfl⟩) (va (Hb (ca (pv 1) (ca (pv 2) (Ea 5)))))))))),?_⟩
  have M0:r≠a:=λz=>by rcases n0 with e|⟨o,e⟩<;>(rw[z,a0.obj]at e;cases e)
  have rl:V.ref r∉kvs.map (·.2):=λz=>by
   obtain⟨vs,N0⟩:=a0.ent.tracked z;rcases n0 with e|⟨o,e⟩<;>(rw[N0]at e;cases e)
  refine⟨_,rfl,r,Ka q,rfl,n0,λob i0 B0 j0 e1=>?_⟩;have O0:Hs K T.Jc i0 a r0 d kvs m:=⟨j0 _ _ (ud M0) a0.obj,j0 _ _ (ud A0) a0.dict,a0.ent.nn λb o e Q0=>j0 b o (λz=>by
   rw[z]at e;rcases n0 with o0|⟨f1,o0⟩<;>(rw[o0]at e;cases e;rcases Q0 with⟨_,z⟩|⟨_,z⟩<;>cases z)) e,a0.Ad,a0.short,a0.full,a0.keys,a0.vals⟩
  have R0:∀l,i0 l=none->H l=none:=λl z=>by
   cases e:H l with
   |none=>rfl
   |some o=>
    by_cases d0:l=r
    ·rw[d0,B0]at z;cases z
    ·rw[j0 l o d0 e]at z;cases z
  refine Mw (d:=r) (ob:=ob) (kvs:=Ka q) (λi s0 c0=>∃Y t0 u0,s0=[some (.ref a),some (.int st),some (.int dl),some (.ref r),t0,u0]/\Hs K T.Jc c0 a r0 d Y (ae m st dl (q.take i))/\(∀b o,i0 b=some o->b≠d->V.ref b∉kvs.map (·.2)->c0 b=some o)/\(∀l,V.ref l∈Y.map (·.2)->V.ref l∈kvs.map (·.2)\/i0 l=none)/\(ae m st dl (q.take i)).length<=m.length+i/\∀v0∈ae m st dl (q.take i),v0.2.length<=900+i)
   (nx8 kvs none none rfl O0 (λb o e _ _=>e) (λl z=>.inl z) ⟨Ra _,L0⟩) (by grind) ?_ ?_
  ·rintro i g1 x s0 c0 p w0⟨Y,t0,u0,rfl,J,f0,nw,h1,C0⟩S0;have hi:i<q.length:=by
    have:=(ee.mp w0).1;unfold Ka at this;rwa[Na]at this
   obtain⟨⟨fk,b0⟩,D0⟩:∃v0,q[i]?=some v0:=⟨_,Dc hi⟩;have ex:(Ka q)[i]?=some (Sum.inl fk,ov b0):=by unfold Ka;rw[ge,D0];rfl
   rw[ex]at w0;cases w0;have U0:q.take (i+1)=q.take i++[(fk,b0)]:=by rw[Oi,D0];rfl
   have g0:ae m st dl (q.take (i+1))=Vf (ae m st dl (q.take i)) fk (st,dl,b0):=by unfold ae;rw[U0,List.foldl_append];rfl
   refine nx7 p _ rfl (xa.of ia) rfl _ _ rfl _ _ rfl rfl ?_;have sp:=aa.upd (o:=HO.tup [kV (Sum.inl fk:Key),ov b0]) S0;have F0:=J.same sp;refine⟨_,rfl,a,_,r0,_,_,rfl,F0.obj,T.Ke,T.Fl,rfl,d,rfl,.inl ⟨Y,.inl F0.dict⟩,_,rfl,(by decide),λO G0=>?_⟩;have H0:=sp.trans (aa.upd (o:=HO.lst []) G0);have p0:=J.same H0;have V0:Y.length<JQ:=by rw[J.ent.len];exact Nat.lt_trans J.Ad (by decide)
   refine nx4 Y (Sum.inl fk) p0.dict rfl V0 (λv hv=>?_) λhv=>?_
   ·have k0:=Mi λz=>by rw[p0.ent.Vb z]at hv;cases hv
    obtain⟨l,us,q0,x0,W0⟩:=p0.ent.at_ k0;rw[hv]at q0;cases q0;refine⟨.inl ⟨rfl,_,ja.of x0⟩,_,rfl,_,rfl,_,rfl,Eb,λt e0=>?_⟩;have I0:=H0.trans (aa.upd (o:=HO.tup [.int st,.int dl,ov b0]) e0);have X0:=J.same I0;have ul:us.length<JQ:=by rw[W0.len];exact Nat.lt_trans (FC J.short fk) (by decide)
    have lt:t≠l:=by grind
    refine⟨l,us,.ref t,rfl,rfl,(by rw[ka (ud lt)];exact x0),ul,Y,_,_,rfl,?_,?_,nw,?_,?_⟩
    ·rw[g0];exact X0.push k0 hv (by rw[ka (ud lt)];exact x0) ia (by rw[ka lt,ia]) (λb u n e=>by rw[ka n];exact e) (by grind)
    ·intro b o e n h0;by_cases y0:b=l
     ·rcases nw l (J.ent.Rg hv)with z|z
      ·exact absurd (y0▸z) h0
      ·rw[<-y0,e]at z;cases z
     ·rw[ka y0];exact I0 _ _ (f0 b o e n h0)
    ·rw[g0];have:=Lu (m:=ae m st dl (q.take i)) (k:=fk) (r:=(st,dl,b0));lia
    ·rw[g0];exact ey C0
   ·have k0:fk∉(ae m st dl (q.take i)).map (·.1):=λz=>by
     obtain⟨l,us,q0,_,_⟩:=p0.ent.at_ z;rw[q0]at hv;cases hv
    have d0:c0 O=none:=uc sp G0;have l0:O≠d:=λz=>by rw[z,J.dict]at d0;cases d0
    refine⟨.inl ⟨rfl,[],ja.of (by rw[ka l0,ia])⟩,_,rfl,_,rfl,_,rfl,Eb,λt e0=>?_⟩;have z0:t≠O:=λz=>by rw[z,ka l0,ia]at e0;cases e0
    have td:t≠d:=λz=>by rw[z,ia]at e0;cases e0
    have i1:c0 t=none:=by rw[ka td,ka z0]at e0;exact uc sp e0
    have keep:∀b u,b≠d->c0 b=some u->upd (upd (upd (upd (upd c0 p (.tup [kV (Sum.inl fk:Key),ov b0])) O (.lst [])) d (.dK (nb Y (Sum.inl fk:Key) (.ref O)))) t (.tup [.int st,.int dl,ov b0])) O (.lst ([]++[.ref t])) b=some u:=λb u n e=>by
     have c1:b≠O:=by grind
     have Y0:b≠t:=by grind
     rw[ka c1,ka Y0,ka n,ka c1];exact sp _ _ e
    refine⟨O,[],.ref t,rfl,rfl,(by rw[ka (ud z0),ka l0,ia]),(by decide),nb Y (Sum.inl fk:Key) (.ref O),_,_,rfl,?_,(λb o e n h0=>keep _ _ n (f0 b o e n h0)),?_,?_,?_⟩
    ·rw[g0];have e:=J.snoc (x:=st) (y:=dl) (o:=b0) (t:=t) k0 d0 (by rw[ka (ud l0),ka (ud td),ia]) ia (by rw[ka z0,ia]) keep (by lia);rw[<-cr (J.ent.Vb k0)]at e;exact e
    ·intro J0 z;rw[cr hv,Dg]at z;rcases Ah.mp z with z|z
     ·exact nw J0 z
     ·have o0:J0=O:=by simpa using z
      rw[o0];by_cases K0:V.ref O∈kvs.map (·.2)
      ·exact .inl K0
      ·refine .inr ?_;cases e:i0 O with
       |none=>rfl
       |some o=>rw[f0 O o e l0 K0]at d0;cases d0
    ·rw[g0];have:=Lu (m:=ae m st dl (q.take i)) (k:=fk) (r:=(st,dl,b0));lia
    ·rw[g0];exact ey C0
  ·rintro s0 c0⟨Y,t0,u0,rfl,J,f0,nw,_,_⟩;have Z0:(Ka q).length=q.length:=Na _;rw[Z0,sj]at J;exact k c0 Y ob J (λb o e n h0 a1=>f0 _ _ (j0 b o h0 e) n a1) (λl z=>(nw l z).imp_right (R0 l)) (f0 _ _ B0 A0 rl)
def QC(T:Tx K mg):T.Ro.Ok mg P w base 1 (CM K T.Jc):=by
 refine Qa T.Ro.F λH _ _ _ o0 h=>?_
 ·obtain⟨a,p0,d,kvs,m,O,st,rfl,e0,k⟩:=h;have q0:=yc o0;refine⟨_,(oa (re me rfl (gI rfl T.JL (va (rq q0 (Ia K 0) (pv 1) (Zb jf) ⟨rfl,rfl,rfl,rfl⟩))) (Kd 3)
   (qa (qb (zb Hm (Pa Ab (pv 3) ra) (pv 2) (sb _))
   (qa (Ha (pv 3)))
   Bb)))
   (qa (Ha (Ui (v:=V.ref T.Pl) rfl T.nC rfl)))),?_⟩
  show let r0:TS:=_;ma (qe _ _ (lb _ _ _)) r0 _ _ _
  intros;refine⟨_,rfl,a,_,p0,_,_,rfl,e0.obj,T.Ke,T.Fl,rfl,d,rfl,.inl ⟨kvs,.inl e0.dict⟩,_,rfl,(by decide),λa0 s0=>?_⟩;have s1:=aa.upd (o:=HO.lst []) s0;have f0:=e0.same s1;refine⟨_,uf.k (k:=Sum.inl O) f0.dict,?_⟩;have got:∃l us,(kb kvs (Sum.inl O:Key)).getD (.ref a0)=.ref l/\upd H a0 (.lst []) l=some (.lst us)/\tf (upd H a0 (.lst [])) us (hk m O):=by
   by_cases J:O∈m.map (·.1)
   ·obtain⟨l,us,z0,A0,B0⟩:=f0.ent.at_ J;exact(by grind)
   ·rw[f0.ent.Vb J,er J];exact⟨a0,[],rfl,ia,.nil⟩
  obtain⟨l,us,t0,i0,Y⟩:=got;rw[t0];generalize C0:hk m O=q at Y k;refine nx0 l us rfl i0 (hI (λi c0 d0=>∃g0,c0=[some (.ref a),some (.int O),some (.int st),g0]/\d0=upd H a0 (.lst [])/\(q.reverse.take i).find? (λu0=>decide (u0.1<=st))=none) ⟨none,rfl,rfl,rfl⟩ (by rintro i c0 d0⟨_,_,e,_⟩;rw[e];exact ja.of i0) ?_ ?_)
  ·rintro i y c0 d0 j0 hi⟨g0,rfl,rfl,b0⟩;have v0:us.length-1-i<q.length:=by rw[<-Y.len];lia
   obtain⟨t,x,z,o,w0,x0,k0⟩:=Y.get v0;rw[w0]at j0;cases j0;have l0:q.reverse[i]?=some (x,z,o):=by
    rw[List.getElem?_reverse (by rw[<-Y.len];exact hi),<-Y.len];exact x0
   refine⟨_,rfl,t,_,_,_,rfl,rfl,xa.of k0,Ja rfl,_,rfl,_,_,rfl,rfl,_,rfl,bb (λe=>?_) (λe=>?_)⟩
   ·refine⟨_,rfl,k t _ s1 ?_⟩;have J:Cd q st=(x,z,o):=by
     unfold Cd;have y0:q.reverse=q.reverse.take i++(x,z,o)::q.reverse.drop (i+1):=by
      have n0:=(ee.mp l0);conv=>lhs;rw[<-List.take_append_drop i q.reverse]
      rw[List.drop_eq_getElem_cons n0.1,n0.2]
     rw[y0,Ar,b0,ce];have h0:=e;rw[h0];rfl
    rw[J];exact xa.of k0
   ·refine⟨_,rfl,rfl,?_⟩;rw[Oi,l0,Ar,b0];have h0:=(Bool.not_eq_true _).mp e;simp[h0]
  ·rintro c0 d0⟨g0,rfl,rfl,b0⟩;rw[Y.len,<-List.length_reverse,sj]at b0;have J:Cd q st=mn:=by unfold Cd;rw[b0];rfl
   rw[J]at k;exact k _ _ s1 (T.oC _)
def RC(T:Tx K mg):T.So.Ok mg P w base 1 (DM K T.Jc):=by
 refine Qa T.So.F λH _ _ _ b0 h=>?_
 ·obtain⟨a,c0,d,kvs,m,q,rfl,J,k⟩:=h;have d0:=yc b0;refine⟨_,(oa (Ya 2 (rq d0 (Ia K 0) (pv 1) (Zb (va (Ui (v:=V.ref T.Pl) rfl T.nC rfl))) ⟨rfl,rfl,rfl,rfl⟩))
   (qa (Ha (Pa ye (pv 2) (az cz ra))))),?_⟩
  show let e0:TS:=_;ma _ e0 _ _ _
  intros;refine⟨_,rfl,a,_,c0,_,_,rfl,J.obj,T.Ke,T.Fl,rfl,d,rfl,.inl ⟨kvs,.inl J.dict⟩,_,rfl,jb,λO f0=>?_⟩;have s1:=aa.upd (o:=HO.lst [.ref T.Pl]) f0;have a0:=J.same s1;refine⟨_,uf.k (k:=Sum.inl q) a0.dict,?_⟩;have got:∃l us t,(kb kvs (Sum.inl q:Key)).getD (.ref O)=.ref l/\upd H O (.lst [.ref T.Pl]) l=some (.lst us)/\Ve us (-1)=some (.ref t)/\xa K (upd H O (.lst [.ref T.Pl])) t (Ku (Wf (hk m q))):=by
   by_cases Y:q∈m.map (·.1)
   ·obtain⟨l,us,g0,h0,i0⟩:=a0.ent.at_ Y;obtain⟨t,j0,k0⟩:=i0.last (zM J.full Y);exact nx2 l us t (by rw[g0];rfl) h0 j0 (xa.of k0)
   ·rw[a0.ent.Vb Y,er Y];exact nx2 O _ T.Pl rfl ia rfl (T.oC _)
  obtain⟨l,us,t,l0,n0,o0,p0⟩:=got;rw[l0];exact⟨_,rfl,_,rfl,l,us,_,_,rfl,rfl,ja.of n0,o0,k t _ s1 p0⟩
def TC(T:Tx K mg):T.To.Ok mg P w base 2 (OM K T.Jc):=by
 refine Qa T.To.F λ_ _ _ _ h0 h=>?_
 ·obtain⟨a,i0,d,kvs,m,lo,hi,rfl,a0,b0,k⟩:=h;refine⟨_,(qa (Ha (Vd ["key"] ["low","high"] [1,2] (Yb (Nb (Ai rfl) (by rfl) T.Uf Bg (va (Ia K 0)))) (Ac 0) (gh (rc (fb T.Oo (Ru T) h0 (ca (pv 0) (ca (pv 1) (Ea 2)))))) (pv 0)))),?_⟩;refine⟨_,rfl,a,_,i0,_,_,rfl,a0.obj,T.Ke,T.Fl,rfl,d,kvs,m.map (·.1),rfl,a0.dict,a0.ent.keys,(by rw[Na];exact b0),λl j0=>⟨l,rfl,⟨_,ja.of ia⟩,?_⟩⟩;have s1:=aa.upd (o:=HO.lst ((eb (m.map (·.1))).map V.int)) j0;have c0:(eb (m.map (·.1))).length<64:=by rw[(mc _).length_eq,Na];exact b0
  generalize eb (m.map (·.1))=q at s1 c0 k⊢;refine Zs (fs:=[some (.int lo),some (.int hi)]) q.length (λi=>(λk=>if gb lo hi k=HQ then some (V.int k)else none) (q.getD i 0)) rfl (qc (yh c0) (by decide)) (λi d0 J e0=>nx5 (q.map V.int) _ (ja.of (J _ _ ia)) (Dc (by rw[Na];exact e0))) (λd0 J=>⟨q.map V.int,ja.of (J _ _ ia),by rw[Na];exact Ra _⟩) ?_ ?_
  ·rintro i d0 k0 v H' R J e0 l0⟨rfl,hv⟩cb;have f0:=hv (q.map V.int) (ja.of (J _ _ ia));rw[ge]at f0;obtain⟨O,n0,rfl⟩:=xh.mp f0;have o0:q.getD i 0=O:=by rw[Af,n0];rfl
   rw[o0]at cb;match k0,l0 with
   |[t0],_=>
    have Y:=cb [some (.int O)] _ rfl (aa.refl _);refine⟨_,rfl,_,rfl,_,rfl,O,lo,hi,rfl,_,rfl,?_⟩;show if gb lo hi O=HQ then _ else _
    dsimp only at Y;by_cases e:gb lo hi O=HQ
    ·rw[Ca e]at Y⊢;exact⟨_,rfl,Y⟩
    ·rw[Ba e]at Y⊢;exact Y
  ·intro D p0 q0 r0 g0;have s0:=Ul q 0 (λk=>if gb lo hi k=HQ then some (V.int k)else none);rw[s0,gy]at g0;exact k D p0 (uc s1 q0) (s1.trans r0) g0
def bN(T:Tx K mg):T.ju.Ok mg P w base 3 (PM K T.Jc):=by
 refine Qa T.ju.F λ_ _ _ _ c0 h=>?_
 ·obtain⟨a,b0,d,kvs,m,lo,hi,rfl,d0,f0,k⟩:=h;have w0:=yc c0;refine⟨_,(qa (Ha (Vd ["key"] ["self"] [0] (Yb (Ib (pv 0) T.Ke T.To.m (TC T) c0 T.To.b (ca (pv 1) (Ea 2)))) (Ac 0) (gh (zb Fm (Pa (ej (K:=K) rfl) (Ib (pv 1) T.Ke T.So.m (RC T) c0 T.So.b (Ea 0)) ra) (Ui (v:=V.int (0)) rfl T.Yx ⟨_,rfl⟩) (sb _))) (pv 0)))),?_⟩;refine⟨_,rfl,a,b0,_,rfl,d0.obj,rfl,_,rfl,_,rfl,a,b0,d,kvs,m,lo,hi,rfl,d0,f0,λl x0 y0 s1 Y=>⟨l,rfl,⟨_,ja.of Y⟩,?_⟩⟩;have g0:((eb (m.map (·.1))).filter (gb lo hi)).length<64:=Dk (um _ _) (by rw[(mc _).length_eq,Na];exact f0);generalize(eb (m.map (·.1))).filter (gb lo hi)=q at Y g0 k⊢;refine Zs (fs:=[some (.ref a)]) q.length (λi=>(λk=>if(!decide ((Wf (hk m k)).2.1=0))=HQ then some (V.int k)else none) (q.getD i 0)) rfl (qc (yh g0) (by decide)) (λi h0 O i0=>nx5 (q.map V.int) _ (ja.of (O _ _ Y)) (Dc (by rw[Na];exact i0))) (λh0 O=>⟨q.map V.int,ja.of (O _ _ Y),by rw[Na];exact Ra _⟩) ?_ ?_
  ·rintro i h0 n0 v H' R O i0 e0⟨rfl,hv⟩cb;have j0:=hv (q.map V.int) (ja.of (O _ _ Y));rw[ge]at j0;obtain⟨J,o0,rfl⟩:=xh.mp j0;have p0:q.getD i 0=J:=by rw[Af,o0];rfl
   rw[p0]at cb;have k0:=d0.same (s1.trans O);match n0,e0 with
   |[z0],_=>
    refine⟨_,rfl,a,b0,_,rfl,k0.obj,rfl,_,rfl,a,b0,d,kvs,m,J,rfl,k0,λt q0 r0 e0=>⟨t,_,_,_,rfl,rfl,e0,Ja rfl,rfl,_,rfl,?_⟩⟩;have a0:=cb [some (.int J)] q0 rfl r0;show if(!decide (V.int (Wf (hk m J)).2.1=V.int 0))=HQ then _ else _
    rw[show decide (V.int (Wf (hk m J)).2.1=V.int 0)=decide ((Wf (hk m J)).2.1=0)from decide_eq_decide.mpr (by grind)];dsimp only at a0;by_cases e:(!decide ((Wf (hk m J)).2.1=0))=HQ
    ·rw[Ca e]at a0⊢;exact⟨_,rfl,a0⟩
    ·rw[Ba e]at a0⊢;exact a0
  ·intro D s0 t0 u0 l0;have v0:=Ul q 0 (λk=>if(!decide ((Wf (hk m k)).2.1=0))=HQ then some (V.int k)else none);rw[v0,gy]at l0;exact k D s0 (uc s1 t0) (s1.trans u0) l0
def cN(T:Tx K mg):T.ku.Ok mg P w base 1 (QM K T.Jc):=by
 refine Qa T.ku.F λH _ _ _ o0 h=>?_
 ·obtain⟨a,p0,d,kvs,m,q,rfl,a0,k⟩:=h;have q0:=yc o0;refine⟨_,(qa (Ha (Vd ["found"] [] [] (Yb (rq q0 (Ia K 0) (pv 1) (Zb jf) ⟨rfl,rfl,rfl,rfl⟩)) (Ac 0) (gh (zb Fm (Pa (ej (K:=K) rfl) (pv 0) ra) (Ui (v:=V.int (0)) rfl T.Yx ⟨_,rfl⟩) (sb _))) (Pa (ej (K:=K) rfl) (pv 0) ra)))),?_⟩;refine⟨_,rfl,a,_,p0,_,_,rfl,a0.obj,T.Ke,T.Fl,rfl,d,rfl,.inl ⟨kvs,.inl a0.dict⟩,_,rfl,Oc,λb0 r0=>?_⟩;have s1:=aa.upd (o:=HO.lst []) r0;have f0:=a0.same s1;refine⟨_,uf.k (k:=Sum.inl q) f0.dict,?_⟩;have got:∃l us,(kb kvs (Sum.inl q:Key)).getD (.ref b0)=.ref l/\upd H b0 (.lst []) l=some (.lst us)/\tf (upd H b0 (.lst [])) us (hk m q):=by
   by_cases g0:q∈m.map (·.1)
   ·obtain⟨l,us,G0,H0,I0⟩:=f0.ent.at_ g0;exact(by grind)
   ·rw[f0.ent.Vb g0,er g0];exact⟨b0,_,rfl,ia,.nil⟩
  obtain⟨l,us,s0,c0,h0⟩:=got;rw[s0];refine⟨l,rfl,⟨_,ja.of c0⟩,?_⟩;have t0:=h0.len;have hz:(hk m q).length<=JQ:=qc (yh (FC a0.short q)) (by decide);generalize hk m q=d0 at h0 t0 hz k⊢;refine Zs (fs:=[]) d0.length (λi=>(λO:Ga=>if(!decide (O.2.1=0))=HQ then some (V.int O.2.1)else none) (d0.getD i mn)) rfl hz (λi i0 J j0=>nx5 us _ (ja.of (J _ _ c0)) (Dc (by lia))) (λi0 J=>⟨us,ja.of (J _ _ c0),by lia⟩) ?_ ?_
  ·rintro i i0 u0 v H' R J j0 v0⟨rfl,hv⟩cb;have k0:=hv us (ja.of (J _ _ c0));obtain⟨t,w0,e0,x0,y0,z0,l0⟩:=h0.get j0;rw[y0]at k0;cases k0;have A0:d0.getD i mn=(w0,e0,x0):=by rw[Af,z0];rfl
   rw[A0]at cb;match u0,v0 with
   |[J0],_=>
    have Y:=cb [some (.ref t)] _ rfl (aa.refl _);refine⟨_,rfl,t,_,_,_,rfl,rfl,xa.of (J _ _ l0),Ja rfl,rfl,_,rfl,?_⟩;rw[show decide (V.int e0=V.int 0)=decide (e0=0)from decide_eq_decide.mpr (by grind)];dsimp only at Y;by_cases e:(!decide (e0=0))=HQ
    ·rw[Ca e]at Y⊢;exact⟨_,rfl,t,_,_,_,rfl,rfl,xa.of (J _ _ l0),Ja (j:=1) rfl,Y⟩
    ·rw[Ba e]at Y⊢;exact Y
  ·intro D B0 C0 D0 n0;have F0:=Ul d0 mn (λO:Ga=>if(!decide (O.2.1=0))=HQ then some (V.int O.2.1)else none);rw[F0,gy]at n0;refine k D B0 (uc s1 C0) (s1.trans D0) ?_;rw[ag];exact n0
def UC(T:Tx K mg):T.Uo.Ok mg P w base 2 (XM K T.Jc):=by
 refine Qa T.Uo.F λ_ _ _ _ n0 h=>?_
 ·obtain⟨a,o0,d,kvs,m,l,J,st,rfl,u0,d0,v0,k⟩:=h;have O0:=yc n0;refine⟨_,(oa (Io 3 ["key"] (by show(rf _).Nodup;decide+kernel) ["self","stamp"] [0,2] (Yb (pv 1)) (Ac 0) nf (Hb (ca (pv 0) (va (Pa (ej (K:=K) rfl) (Ib (pv 1) T.Ke T.Ro.m (QC T) n0 T.Ro.b (ca (pv 0) (Ea 2))) ra)))))
   (qa (Ha (Vd ["row"] [] [] (Yb (pv 3)) (Ac 0) (gh (zb Im (Pa (ej (K:=K) rfl) (pv 0) ra) Hd (sb _))) (pv 0))))),?_⟩
  show let w0:TS:=_;ma _ w0 _ _ _
  intros;refine⟨_,rfl,l,rfl,⟨_,ja.of d0⟩,?_⟩;have hz:J.length<=JQ:=qc (yh v0) (by decide);refine ny (fs:=[some (.ref a),some (.int st)]) J.length (λi=>(λk=>some (k,(Cd (hk m k) st).2.2)) (J.getD i 0)) rfl hz (λi b0 q e0=>nx5 (J.map V.int) _ (ja.of (q _ _ d0)) (Dc (by rw[Na];exact e0))) (λb0 q=>⟨J.map V.int,ja.of (q _ _ d0),by rw[Na];exact Ra _⟩) ?_ ?_
  ·rintro i b0 i0 v H' R q e0 j0⟨rfl,hv⟩k0 c0;have f0:=hv (J.map V.int) (ja.of (q _ _ d0));rw[ge]at f0;obtain⟨Y,x0,rfl⟩:=xh.mp f0;have l0:J.getD i 0=Y:=by rw[Af,x0];rfl
   rw[l0]at c0;have p0:=u0.same q;match i0,j0 with
   |[y0],_=>
    refine⟨_,rfl,_,rfl,a,o0,_,rfl,p0.obj,rfl,_,rfl,_,rfl,a,o0,d,kvs,m,Y,st,rfl,p0,λt Q0 z0 A0=>⟨t,_,_,_,rfl,rfl,A0,Ja (j:=2) rfl,Ma,λB0 C0=>?_⟩⟩;exact c0 Y _ rfl B0 [some (.int Y)] _ ia rfl (z0.trans (aa.upd C0))
  ·intro D R0 ys S0 s1 g0 h0;have D0:=Ul J 0 (λk=>some (k,(Cd (hk m k) st).2.2));rw[D0,sm]at h0;refine⟨_,rfl,D,rfl,⟨_,ja.of g0⟩,?_⟩;have F0:=h0.len;have q0:(J.map λk=>(k,(Cd (hk m k) st).2.2)).length<=JQ:=by rw[Na];exact hz
   have r0:=UM J λk=>(Cd (hk m k) st).2.2
   generalize(J.map λk=>(k,(Cd (hk m k) st).2.2))=a0 at h0 F0 q0 r0;refine ny (k:=1) (fs:=[]) a0.length (λi=>(λO:Int×Option Int=>if O.2.isSome=HQ then some O else none) (a0.getD i (0,none))) rfl q0 (λi b0 q e0=>nx5 ys _ (ja.of (q _ _ g0)) (Dc (by lia))) (λb0 q=>⟨ys,ja.of (q _ _ g0),by lia⟩) ?_ ?_
   ·rintro i b0 i0 v H' R q e0 j0⟨rfl,hv⟩k0 c0;have f0:=hv ys (ja.of (q _ _ g0));obtain⟨t,Y,o,rfl,G0,s0⟩:=h0.get f0;have l0:a0.getD i (0,none)=(Y,o):=by rw[Af,G0];rfl
    rw[l0]at k0 c0;match i0,j0 with
    |[y0],_=>
     refine⟨_,rfl,t,_,_,_,rfl,rfl,xa.of (q _ _ s0),Ja (j:=1) rfl,rfl,_,rfl,?_⟩;cases o with
     |none=>
      exact k0 rfl [some (.ref t)] _ rfl (aa.refl _)
     |some x=>
      exact⟨_,rfl,c0 Y (some x) rfl t [some (.ref t)] _ (q _ _ s0) rfl (aa.refl _)⟩
   ·intro H0 I0 J0 K0 L0 M0 t0;have N0:=Ul a0 (0,none) (λO:Int×Option Int=>if O.2.isSome=HQ then some O else none);rw[N0,show a0.filterMap (λO:Int×Option Int=>if O.2.isSome=HQ then some O else none)=a0.filter λO=>O.2.isSome from by rw[<-List.filterMap_eq_filter];rfl,r0]at t0;exact k H0 I0 J0 (uc s1 K0) (s1.trans L0) M0 t0
def dN(T:Tx K mg):T.iu.Ok mg P w base 3 (YM K T.Jc):=by
 refine Qa T.iu.F λ_ _ _ _ Y h=>?_
 ·obtain⟨a,J,d,kvs,m,st,rfl,q,O,k⟩:=h;refine⟨_,(qa (Ha (Ib (pv 0) T.Ke T.Uo.m (UC T) Y T.Uo.b (ca (Nb (Ai rfl) (by rfl) T.Uf Bg (va (Ia K 0))) (Ea 1))))),?_⟩;refine⟨_,rfl,a,J,_,rfl,q.obj,rfl,_,rfl,a,_,J,_,_,rfl,q.obj,T.Ke,T.Fl,rfl,d,kvs,m.map (·.1),rfl,q.dict,q.ent.keys,(by rw[Na];exact O),λl a0=>?_⟩;have s1:=aa.upd (o:=HO.lst ((eb (m.map (·.1))).map V.int)) a0;exact⟨_,rfl,a,J,d,kvs,m,l,_,st,rfl,q.same s1,ia,(by rw[(mc _).length_eq,Na];exact O),λp H' ys b0 c0 d0 e0=>k p H' ys (uc s1 b0) (s1.trans c0) d0 e0⟩
def eN(T:Tx K mg):T.gu.Ok mg P w base 3 (ZM K T.Jc):=by
 refine Qa T.gu.F λ_ _ _ _ O h=>?_
 ·obtain⟨a,q,d,kvs,m,lo,hi,st,rfl,J,Y,k⟩:=h;refine⟨_,(qa (Ha (Ib (pv 0) T.Ke T.Uo.m (UC T) O T.Uo.b (ca (Ib (pv 0) T.Ke T.To.m (TC T) O T.To.b (ca (pv 1) (Ea 2))) (Ea 3))))),?_⟩;refine⟨_,rfl,a,q,_,rfl,J.obj,rfl,_,rfl,a,q,_,rfl,J.obj,rfl,_,rfl,_,rfl,a,q,d,kvs,m,lo,hi,rfl,J,Y,λl f0 g0 s1 a0=>?_⟩;exact⟨_,rfl,a,q,d,kvs,m,l,_,st,rfl,J.same s1,a0,Dk (um _ _) (by rw[(mc _).length_eq,Na];exact Y),λp H' ys b0 c0 d0 e0=>k p H' ys (uc s1 b0) (s1.trans c0) d0 e0⟩
def je(T:Tx K mg):T.Mq.Ok P w base 2 aN:=by
 refine Qa T.Mq.F λH _ _ _ u0 h=>?_
 ·obtain⟨r,d,Y,J,ds,lo,hi,U,rfl,o0,v0,J0,K0,h1,i1,w0,L0,q⟩:=h;have x0:=yc u0;refine⟨_,(oa (Ya 4 (kg (eJ (K:=K) rfl rfl) (by rfl) T.Eu QS (va (Vd ["row"] ["low","high"] [2,3] (Yb (pv 0)) (Ac 0) (gh (rc (fb T.Oo (Ru T) u0 (ca (Pa (ej (K:=K) rfl) (pv 0) ra) (ca (pv 1) (Ea 2)))))) (pv 0)))))
   (oa (re me rfl (Kw (pv 1)) (jo rfl (Ef (Kd 5) (Ef (Kd 6) Vk)))
   (qa (qb (rc (fb T.Oo (Ru T) u0 (ca (pv 5) (ca (pv 2) (Ea 3)))))
   (qa (We x0 (pv 4) (pv 5) (pv 6) rfl))
   Bb)))
   (qa (Ha (Vd ["key"] ["values"] [4] (Yb (Nb (Ai rfl) (by rfl) T.Uf Bg (Ea 4))) (Ac 0) (gh (zb Im (jc x0 (pv 1) (pv 0)) Hd (sb _))) (Hb (ca (pv 0) (va (jc x0 (pv 1) (pv 0)))))))))),?_⟩
  show let j1:TS:=_;let k1:TS:=ma (qe _ _ (lb _ _ _)) j1;ma _ k1 _ _ _
  intros;have y0:((J.filter λq=>gb lo hi q.1).map (·.1)).Nodup:=by grind
  have M0:Y.length=J.length:=v0.len;have rl:J.length<=60:=by
   have:=ir J0 w0;rw[Na]at this;lia
  have l1:(Y.zip J).length=Y.length:=by rw[List.length_zip,M0,Nat.min_self]
  refine⟨_,rfl,r,rfl,⟨_,ja.of o0⟩,?_⟩;refine Zs (k:=1) (fs:=[some (.int lo),some (.int hi)]) (Y.zip J).length (λi=>(λx:V×Int×Option Int=>if gb lo hi x.2.1=HQ then some x.1 else none) ((Y.zip J).getD i (.ya,(0,none)))) rfl (by rw[l1,M0];exact qc rl (by decide)) (λi p0 O j0=>nx5 Y _ (ja.of (O _ _ o0)) (Dc (by lia))) (λp0 O=>⟨Y,ja.of (O _ _ o0),by lia⟩) ?_ ?_
  ·rintro i p0 z0 v H' R O j0 d0⟨rfl,hv⟩cb;have n0:=hv Y (ja.of (O _ _ o0));obtain⟨t,k,o,rfl,m1,n1⟩:=v0.get n0;have o1:(Y.zip J).getD i (.ya,(0,none))=(.ref t,(k,o)):=by
    rw[Af,List.getElem?_zip_eq_some (z:=(V.ref t,(k,o)))|>.mpr ⟨n0,m1⟩];rfl
   match z0,d0 with
   |[p1],_=>
    refine⟨_,rfl,t,_,_,_,rfl,rfl,xa.of (O _ _ n1),Ja (j:=0) rfl,_,rfl,_,rfl,k,lo,hi,rfl,_,rfl,?_⟩;have e0:=cb [some (.ref t)] _ rfl (aa.refl _);rw[o1]at e0;show if gb lo hi k=HQ then _ else _
    by_cases e:gb lo hi k=HQ
    ·rw[Ca e];dsimp only at e0;rw[Ca e]at e0;exact⟨_,rfl,e0⟩
    ·rw[Ba e];dsimp only at e0;rw[Ba e]at e0;exact e0
  ·intro D p0 N0 O O0;have A0:=Ul (Y.zip J) (V.ya,((0:Int),(none:Option Int))) (λx:V×Int×Option Int=>if gb lo hi x.2.1=HQ then some x.1 else none);rw[show _=_ from Td (λz=>some (HO.lst z)) A0]at O0;have q1:=(v0.same O).sel (gb lo hi);refine nx8 D _ (Ka (J.filter λq=>gb lo hi q.1)) rfl O0 q1.SM ?_ λp B0=>?_
   ·unfold Ka;rw[Na];exact Dk (um _ _) (by grind)
   have r1:Ym [] (Ka (J.filter λq=>gb lo hi q.1))=Ka (J.filter λq=>gb lo hi q.1):=NC _ [] y0;rw[r1];have C0:=O.trans (aa.upd (o:=HO.dK (Ka (J.filter λq=>gb lo hi q.1))) B0);have D0:p≠d:=λz=>by
    have F0:=uc O B0;rcases K0 with e|⟨ob,e⟩<;>(rw[z,e]at F0;cases F0)
   have t1:Rd (upd p0 p (.dK (Ka (J.filter λq=>gb lo hi q.1)))) d (.dK (Ka ds)):=K0.imp (C0 _ _) λ⟨ob,e⟩=>⟨ob,C0 _ _ e⟩
   refine⟨_,rfl,d,Ka ds,rfl,t1,λob H4 Q0 R0 E1=>?_⟩;have u1:=R0 _ _ D0 ia;have F0:H p=none:=uc O B0;refine Mw (d:=d) (ob:=ob) (kvs:=Ka ds) (λi q0 k0=>∃G0 H0,q0=[some (.ref r),some (.ref d),some (.int lo),some (.int hi),some (.ref p),G0,H0]/\k0 p=some (.dK (Ka ((ds.take i).foldl (ve lo hi) (J.filter λq=>gb lo hi q.1))))/\(∀b o,b≠p->H4 b=some o->k0 b=some o))
    (nx0 none none rfl u1 λb o _ e=>e) (by rintro i q0 k0⟨_,_,_,_,f0⟩;exact f0 _ _ (ud D0) Q0) ?_ ?_
   ·rintro i F1 x q0 k0 t b0⟨G0,H0,rfl,g0,f0⟩d0;have j0:i<ds.length:=by
     have:=(ee.mp b0).1;unfold Ka at this;rwa[Na]at this
    obtain⟨⟨a0,h0⟩,S0⟩:∃q,ds[i]?=some q:=⟨_,Dc j0⟩;have ex:(Ka ds)[i]?=some (Sum.inl a0,ov h0):=by unfold Ka;rw[ge,S0];rfl
    rw[ex]at b0;cases b0;have v1:(ds.take (i+1)).foldl (ve lo hi) (J.filter λq=>gb lo hi q.1)=ve lo hi ((ds.take i).foldl (ve lo hi) (J.filter λq=>gb lo hi q.1)) (a0,h0):=by
     rw[Oi,S0,List.foldl_append];rfl
    have sp:=aa.upd (o:=HO.tup [kV (Sum.inl a0:Key),ov h0]) d0;refine nx7 t _ rfl (xa.of ia) rfl _ _ rfl _ _ rfl rfl ?_;refine⟨_,rfl,_,rfl,_,rfl,a0,lo,hi,rfl,_,rfl,?_⟩;rw[v1];show if gb lo hi a0=HQ then _ else _
    by_cases e:gb lo hi a0=HQ
    ·rw[Ca e,show ve lo hi ((ds.take i).foldl (ve lo hi) (J.filter λq=>gb lo hi q.1)) (a0,h0)=Yc ((ds.take i).foldl (ve lo hi) (J.filter λq=>gb lo hi q.1)) a0 h0 from Ca e];refine⟨_,rfl,_,rfl,_,rfl,p,_,rfl,ue.k (k:=Sum.inl a0) (v:=ov h0) (sp _ _ g0) ?_,_,_,rfl,?_,?_⟩
     ·unfold Ka;rw[Na,<-Na (f:=(·.1))];refine Dk (ir (Ou lo hi _ _ y0) (U:=U) (ly lo hi _ _ (λx b0=>L0 x (Fd.mpr ?_)) λx b0=>w0 x ((List.Sublist.map _ Dh).subset b0))) (Dk i1 (by decide));obtain⟨q,w1,x1⟩:=Fd.mp b0;exact⟨q,List.mem_of_mem_take w1,x1⟩
     ·rw[vn];exact ia
     ·intro b o c0 I0;rw[ka c0];exact sp _ _ (f0 b o c0 I0)
    ·rw[Ba e,show ve lo hi ((ds.take i).foldl (ve lo hi) (J.filter λq=>gb lo hi q.1)) (a0,h0)=(ds.take i).foldl (ve lo hi) (J.filter λq=>gb lo hi q.1)from Ba e];exact nx0 _ _ rfl (sp _ _ g0) λb o c0 I0=>sp _ _ (f0 b o c0 I0)
   ·rintro q0 k0⟨G0,H0,rfl,g0,f0⟩;rw[show(Ka ds).length=ds.length from Na _,sj]at g0;have U0:=Ou lo hi ds _ y0;have y1:=ir U0 (U:=U) (ly lo hi _ _ L0 λx b0=>w0 x ((List.Sublist.map _ Dh).subset b0));have res:=NM (lo:=lo) (hi:=hi) J0 h1;generalize ds.foldl (ve lo hi) (J.filter λq=>gb lo hi q.1)=M at g0 U0 y1 res;have V0:=λb o c0 e=>f0 b o (by grind) (R0 b o c0 (C0 _ _ e))
    have W0:k0 d=some (.Rb ob (.dK (Ka ds))):=f0 _ _ (ud D0) Q0;refine⟨_,rfl,p,Ka M,M.map (·.1),rfl,g0,nj M,by lia,λl z1=>⟨l,rfl,⟨_,ja.of ia⟩,?_⟩⟩;have r0:=aa.upd (o:=HO.lst ((eb (M.map (·.1))).map V.int)) z1;have X0:(eb (M.map (·.1))).length<=60:=by rw[(mc _).length_eq];lia
    have Y0:∀k∈eb (M.map (·.1)),k∈M.map (·.1):=λk hk=>(mc _).mem_iff.mp hk
    generalize eb (M.map (·.1))=i0 at r0 X0 Y0 res;refine ny (k:=1) (fs:=[some (.ref p)]) i0.length (λi=>(λk=>lj (fk M k) k) (i0.getD i 0)) rfl (qc X0 (by decide)) (λi Z0 l0 j0=>nx5 (i0.map V.int) _ (ja.of (l0 _ _ ia)) (Dc (by rw[Na];exact j0))) (λZ0 l0=>⟨i0.map V.int,ja.of (l0 _ _ ia),by rw[Na];exact Ra _⟩) ?_ ?_
    ·rintro i Z0 z0 v H' R l0 j0 d0⟨rfl,hv⟩s0 c1;have n0:=hv (i0.map V.int) (ja.of (l0 _ _ ia));rw[ge]at n0;obtain⟨k,a1,rfl⟩:=xh.mp n0;have A1:i0.getD i 0=k:=by rw[Af,a1];rfl
     rw[A1]at s0 c1;dsimp only at s0 c1;have b1:=l0 _ _ (r0 _ _ g0);obtain⟨o,d1⟩:∃o,fk M k=some o:=by
      cases e:fk M k with
      |some o=>exact⟨o,rfl⟩
      |none=>exact absurd (Y0 k (Cg a1)) (Le.mp e)
     have e1:kb (Ka M) (Sum.inl k:Key)=some (ov o):=by rw[Tl,d1];rfl
     rw[d1]at s0 c1;match z0,d0 with
     |[p1],_=>
      refine⟨_,rfl,_,rfl,p,_,rfl,vc b1 e1,rfl,_,rfl,?_⟩;cases o with
      |none=>
       rw[Ba (by simp[ov])];exact s0 rfl [some (.int k)] _ rfl (aa.refl _)
      |some x=>
       rw[Ca (by simp[ov])];refine⟨_,rfl,_,rfl,_,rfl,p,_,rfl,vc b1 e1,Ma,λt d0=>?_⟩;exact c1 k (some x) rfl t [some (.int k)] _ ia rfl (aa.upd d0)
    ·intro D B1 ys N0 C1 D1 f1;have A0:=Ul i0 0 (λk=>lj (fk M k) k);rw[A0]at f1;have g1:=r0.trans C1;refine q D ys _ B1 ?_ (λb o c0 e=>g1 _ _ (V0 b o c0 e)) (.inr ⟨ob,g1 _ _ W0⟩) D1 f1 res;have t0:=uc r0 N0;cases e:H D with
     |none=>rfl
     |some o=>
      by_cases z:D=d
      ·rw[z,W0]at t0;cases t0
      ·rw[V0 D o z e]at t0;cases t0
end Shf
--@cc
open Shf
mutual
inductive Tn(H:Hp):V->QQ->Prop where
 |ya:Tn H .ya .none
 |int(i:Int):Tn H (.int i) (.int i)
 |str(x:Str):Tn H (.str x) (.str x)
 |lst{a:FQ}{xs:List V}{ds:List QQ}(h:H a=some (.lst xs))(r:Gb H xs ds):Tn H (.ref a) (.list ds)
 |tup{a:FQ}{xs:List V}{ds:List QQ}(h:H a=some (.tup xs))(r:Gb H xs ds):Tn H (.ref a) (.tuple ds)
inductive Gb(H:Hp):List V->List QQ->Prop where
 |nil:Gb H [] []
 |cons{x:V}{d:QQ}{xs:List V}{ds:List QQ}(h:Tn H x d)(r:Gb H xs ds):Gb H (x::xs) (d::ds)
end
mutual
def Tn.same{H H':Hp}(s:aa H H'){v:V}{d:QQ}(h:Tn H v d):Tn H' v d:=by
 cases h with
 |ya=>exact .ya
 |int i=>exact .int i
 |str x=>exact .str x
 |lst h r=>exact .lst (s _ _ h) (Gb.same s r)
 |tup h r=>exact .tup (s _ _ h) (Gb.same s r)
def Gb.same{H H':Hp}(s:aa H H'){vs:List V}{ds:List QQ}(h:Gb H vs ds):Gb H' vs ds:=by
 cases h with
 |nil=>exact .nil
 |cons h r=>exact .cons (Tn.same s h) (Gb.same s r)
end
def Gb.len:∀{vs:List V}{ds:List QQ},Gb H vs ds->vs.length=ds.length:=by
 intro vs;induction vs with
 |nil=>rintro _(_|_);rfl
 |cons a l q=>rintro _(_|⟨_,r⟩);exact Td (·+1) (q r)
def Gb.get:∀{vs:List V}{ds:List QQ},Gb H vs ds->∀{i:Nat}{v:V},vs[i]?=some v->∃d,ds[i]?=some d/\Tn H v d:=by
 intro vs ds h i v e;induction vs generalizing ds i with
 |nil=>simp at e
 |cons a l q=>
  cases h with
  |cons h r=>cases i with
   |zero=>exact⟨_,rfl,by grind⟩
   |succ i=>exact q r (by simpa using e)
def Gb.app:∀{vs us:List V}{ds q:List QQ},Gb H vs ds->Gb H us q->Gb H (vs++us) (ds++q):=by
 intro vs us ds q h J;induction vs generalizing ds with
 |nil=>cases h;exact J
 |cons a l O=>cases h with|cons h r=>exact .cons h (O r)
def pp:∀{q:List V}{L:Dr},Bc H q L->Gb (tp H) q (L.map Sg):=by
 intro _ _ h;induction h with
 |nil=>exact .nil
 |@cons _ _ o _ _ h r J=>exact .cons (.tup (Tf h) (.cons (.int _) (.cons (by cases o<;>constructor) .nil))) J
inductive De where
 |look(w c:Str)(o1 o2:Key)
 |put(o1 o2:Key)
 |take(o:Key)
 |lt(c:Str)(o1:Key)(z:Str)(o2:Key)
 |skip(o1 o2:Key)(n:Int)
 |stop(o1 o2:Key)
def De.vs:De->List V
 |.look w c q J=>if w="read"then[.str w,.str c,kV q]else[.str w,.str c,kV q,kV J]
 |.put q J=>[.str "put",kV q,kV J]
 |.take o=>[.str "take",kV o]
 |.lt c q z J=>[.str "let",.str c,kV q,.str z,kV J]
 |.skip q J n=>[.str "skip",kV q,kV J,.int n]
 |.stop q J=>[.str "stop",kV q,kV J]
def De.ok:De->Prop
 |.look w _ q J=>(w="read"/\q=J)\/w="sum"\/w="count"
 |.lt _ _ z _=>z="+"\/z="-"
 |.skip _ _ n=>1<=n
 |_=>True
def ke(k:Key):Uh (kV k):=by
 cases k with
 |inl n=>exact .inl ⟨n,rfl⟩
 |inr x=>exact .inr ⟨x,rfl⟩
def De.jk{w c:Str}(h:(De.look w c q J).ok):Look w (De.look w c q J).vs (kV q) (kV J):=by
 rcases h with⟨rfl,rfl⟩|h
 ·exact .rd
 ·have:¬w="read":=by rcases h with z|z<;>(rw[z];decide+kernel)
  show Look w (if w="read"then _ else _) _ _;rw[Ba this];exact .two h
structure Ms where
 na:List (Key×V)
 ds:Dr
 pl:Nat
 lk:List (Int×Int×List Int)
def oI(k:Key)(na:List (Key×V)):Int:=wI (kV k) na
def Vh(m:Dr)(q:Int×Option Int):Dr:=match q.2 with
 |none=>m.filter λz=>!decide (z.1=q.1)
 |some v=>Yc m q.1 (some v)
def vg(fs ds:Dr):Dr:=ds.foldl Vh fs
def yf(M:Dr)(p:Int->Bool):Dr:=((eb (M.map (·.1))).filter p).map λk=>(k,(fk M k).getD none)
def md(fs ds:Dr)(lo hi:Int):Dr:=yf (vg fs ds) (gb lo hi)
def Kf(w:Str)(L:Dr):Int:=if w="count"then(L.length:Int)else(L.map λq=>q.2.getD 0).sum
def Sd(fs:Dr)(O:Nat)(s:Ms):De->Ms×List QQ
 |.look w c q J=>({s with na:=nb s.na (Sum.inr c) (.int (Kf w (md fs s.ds (oI q s.na) (oI J s.na)))),lk:=s.lk++[(oI q s.na,oI J s.na,s.ds.map (·.1))],pl:=s.pl+1},[.str "look",.int (oI q s.na),.int (oI J s.na),.tuple ((md fs s.ds (oI q s.na) (oI J s.na)).map Sg)])
 |.put q J=>({s with ds:=Yc s.ds (oI q s.na) (some (oI J s.na)),pl:=s.pl+1},[.str "put",.int (oI q s.na),.int (oI J s.na)])
 |.take o=>({s with ds:=Yc s.ds (oI o s.na) none,pl:=s.pl+1},[.str "put",.int (oI o s.na),.none])
 |.lt c q z J=>({s with na:=nb s.na (Sum.inr c) (.int (if z="+"then oI q s.na+oI J s.na else oI q s.na-oI J s.na)),pl:=s.pl+1},[.str "let",.str c,.int (if z="+"then oI q s.na+oI J s.na else oI q s.na-oI J s.na)])
 |.skip q J n=>({s with pl:=if oI q s.na<oI J s.na then min O (s.pl+1+n.toNat)else s.pl+1},[.str "go",.int ((if oI q s.na<oI J s.na then min O (s.pl+1+n.toNat)else s.pl+1:Nat):Int)])
 |.stop q J=>({s with pl:=s.pl+1},if oI q s.na<oI J s.na then[.str "broken",.tuple [.str "own"]]else[.str "go",.int ((s.pl+1:Nat):Int)])
def Lf(ds:Dr):List QQ:=(yf ds λ_=>HQ).map Sg
def Sb(fs:Dr)(q:List De)(s:Ms):Ms×List QQ:=match q[s.pl]? with
 |some d=>Sd fs q.length s d
 |none=>(s,[.str "kept",.tuple (Lf s.ds)])
def Tc:List QQ->Bool
 |.str x::_=>decide (x="kept")||decide (x="broken")
 |_=>IQ
structure Rn where
 ms:Ms
 en:List QQ
 td:List QQ
def vb(fs:Dr)(q:List De):Nat->Rn
 |0=>⟨⟨[],[],0,[]⟩,[.str "new"],[]⟩
 |n+1=>if Tc (vb fs q n).en=HQ then{vb fs q n with td:=(vb fs q n).td++[.tuple [.int ((n+1:Nat):Int),.int 1,.str "idle"]]}
  else⟨(Sb fs q (vb fs q n).ms).1,(Sb fs q (vb fs q n).ms).2,(vb fs q n).td++[.tuple (.int ((n+1:Nat):Int)::.int 1::(Sb fs q (vb fs q n).ms).2)]⟩
def VC:jR:=⟨206,37,206,61⟩
def WC:Str:=("closing":Str)++".<locals>."++"<lambda>"
structure DF where
 n:V
 lv:V
 de:V
 p:V
 na:V
 ph:V
 b:V
 w:V
 wa:V
 dr:V
 wr:V
 lo:V
def DF.fs(d:DF):List (Str×V):=[("number",d.n),("level",d.lv),("deeds",d.de),("place",d.p),("names",d.na),("phase",d.ph),("begin",d.b),("why",d.w),("wanted",d.wa),("drafts",d.dr),("wrote",d.wr),("looks",d.lo)]
def fN(x:Str):Bool:=Kh (.str x) [.str "kept",.str "broken"]
def xn(b:V)(st:Int):V:=if b=.ya then .int st else b
inductive gN(C:FQ)(vs:List V)(H:Hp)(Q:VK)(E:XK):Prop|mk(a dx:FQ)(d:DF)(x:Str)(_:vs=[.ref a])(_:H a=some (.ins C dx d.fs))(_:d.ph=.str x)(_:Q (.bl (fN x)) H)
inductive hN(C:FQ)(vs:List V)(H:Hp)(Q:VK)(E:XK):Prop|mk(a dx:FQ)(d:DF)(st:Int)(_:vs=[.ref a,.int st])(_:H a=some (.ins C dx d.fs))(_:(d.b=.ya\/∃i:Int,d.b=.int i))(_:Q .ya (upd H a (.ins C dx {d with b:=xn d.b st,ph:=.str "going"}.fs)))
inductive iN(C:FQ)(vs:List V)(H:Hp)(Q:VK)(E:XK):Prop|mk(a dx de:FQ)(d:DF)(p:Int)(xs:List V)(_:vs=[.ref a])(_:H a=some (.ins C dx d.fs))(_:d.p=.int p)(_:d.de=.ref de)(_:H de=some (.lst xs))(_:Q (.bl (decide (p=xs.length))) H)
inductive jN(C:FQ)(vs:List V)(H:Hp)(Q:VK)(E:XK):Prop|mk(a dx de na q:FQ)(d:DF)(p:Nat)(xs r:List V)(kvs:List (Key×V))(w:Str)(more:Int)(_:vs=[.ref a])(_:H a=some (.ins C dx d.fs))(_:d.p=.int p)(_:d.de=.ref de)(_:H de=some (.lst xs))(_:xs[p]?=some (.ref q))(_:H q=some (.tup (.str w::r)))(_:br w r kvs more)(_:d.na=.ref na)(_:H na=some (.dK kvs))(_:ze kvs)(_:Q (.int (if(xs.length:Int)<p+1+more then xs.length else p+1+more)) H)
inductive kN(C:FQ)(vs:List V)(H:Hp)(Q:VK)(E:XK):Prop|mk(a dx dr wr:FQ)(d:DF)(k st:Int)(v:V)(kd kw:List (Key×V))(_:vs=[.ref a,.int k,v,.int st])(_:H a=some (.ins C dx d.fs))(_:d.dr=.ref dr)(_:d.wr=.ref wr)(_:H dr=some (.dK kd))(_:H wr=some (.dK kw))(_:dr≠wr)(_:kd.length<1000)(_:kw.length<1000)(_:Q .ya (upd (upd H dr (.dK (nb kd (Sum.inl k:Key) v))) wr (.dK (nb kw (Sum.inl k:Key) (.int st)))))
inductive lN(C:FQ)(vs:List V)(H:Hp)(Q:VK)(E:XK):Prop|mk(a dx:FQ)(d:DF)(x:Str)(y:V)(_:vs=[.ref a,.str x,y])(_:H a=some (.ins C dx d.fs))(_:Q .ya (upd H a (.ins C dx {d with ph:=.str x,w:=y}.fs)))
def Za(a:FQ)(H H':Hp):Prop:=∀b o,b≠a->H b=some o->H' b=some o
def Za.of(s:aa H H'):Za a H H':=λb o _ e=>s b o e
def Za.trans(x:Za a H q)(y:Za a q J):Za a H J:=λb o n e=>y b o n (x b o n e)
def Za.upd:Za a H (upd H a o):=λb u n e=>by rw[ka n];exact e
def Za.new(x:Za a H q)(J:q a=some o)(h:q c=none):H c=none:=by
 cases e:H c with
 |none=>rfl
 |some u=>
  by_cases z:c=a
  ·rw[z,J]at h;cases h
  ·rw[x c u z e]at h;cases h
def Bd:upd (upd H a x) a y=upd H a y:=by
 funext b;by_cases z:b=a
 ·rw[z,ia,ia]
 ·rw[ka z,ka z,ka z]
def XC(n:Int)(lv q na J O lo:FQ):DF:=⟨.int n,.ref lv,.ref q,.int 0,.ref na,.str "new",.ya,.ya,.ya,.ref J,.ref O,.ref lo⟩
abbrev YC:Sp:=λ_ _ _ _=>False
inductive mN(vs:List V)(H:Hp)(Q:VK)(E:XK):Prop|mk(q a:FQ)(w:Str)(xs:List V)(o1 o2:V)(ys:List V)(L:Dr)(_:vs=[.ref q,.ref a])(_:H q=some (.tup xs))(_:Look w xs o1 o2)(_:H a=some (.lst ys))(_:Bc H ys L)(_:(∀q∈L,q.2≠none))(_:(w="read"->L.length<=1))(_:L.length<=1000)(_:∀H',aa H H'->Q (.int (Kf w L)) H')
inductive nN(C:FQ)(vs:List V)(H:Hp)(Q:VK)(E:XK):Prop|mk(a dx:FQ)(d:DF)(x:Str)(_:vs=[.ref a])(_:H a=some (.ins C dx d.fs))(_:d.ph=.str x)(_:Q (.bl (Kh (.str x) [.str "going",.str "waiting"])) H)
inductive oN(C:FQ)(vs:List V)(H:Hp)(Q:VK)(E:XK):Prop|mk(a dx dr lo g:FQ)(d:DF)(st l h:Int)(ds:Dr)(us:List V)(_:vs=[.ref a,.int st,.int l,.int h,.ref g])(_:H a=some (.ins C dx d.fs))(_:d.dr=.ref dr)(_:H dr=some (.dK (Ka ds)))(_:ds.length<1000)(_:d.lo=.ref lo)(_:H lo=some (.lst us))(_:us.length<1000)(_:∀t p H',H' t=some (.tup [.int st,.int l,.int h,.ref p,.ref g])->H' p=some (.tup ((ds.map (·.1)).map V.int))->H' lo=some (.lst (us++[.ref t]))->Za lo H H'->Q .ya H')
def Vl(n:Int)(w:Bool)(b e:Int)(q J:FQ):List (Str×V):=[("number",.int n),("watched",.bl w),("begin",.int b),("end",.int e),("looks",.ref q),("puts",.ref J)]
inductive pN(C:FQ)(vs:List V)(H:Hp)(Q:VK)(E:XK):Prop|mk(a dx l0 p0:FQ)(n:Int)(w:Bool)(b e:Int)(xs us:List V)(_:vs=[.ref a,.int n,.bl w,.int b,.int e,.ref l0,.ref p0])(_:H a=some (.ins C dx []))(_:H l0=some (.lst xs))(_:H p0=some (.lst us))(_:∀la pa H',Za a H H'->H pa=none->H' a=some (.ins C dx (Vl n w b e la pa))->H' la=some (.lst xs)->H' pa=some (.lst us)->Q .ya H')
inductive qN(C CS:FQ)(cls:Lv->FQ)(vs:List V)(H:Hp)(Q:VK)(E:XK):Prop|mk(a ax lv lx lo dr:FQ)(d:DF)(l:Lv)(bg en:Int)(ds:Dr)(us:List V)(_:vs=[.ref a,.int en])(_:H a=some (.ins C ax d.fs))(_:d.n=.int 1)(_:d.lv=.ref lv)(_:H lv=some (.ins (cls l) lx []))(_:d.b=.int bg)(_:d.lo=.ref lo)(_:H lo=some (.lst us))(_:(∀v∈us,∃t xs,v=.ref t/\H t=some (.tup xs)/\xs.length=5))(_:us.length<=1000)(_:d.dr=.ref dr)(_:H dr=some (.dK (Ka ds)))(_:ds.length<64)(_:∀s sx la pa H',aa H H'->H pa=none->H' s=some (.ins CS sx (Vl 1 (Jo l) bg en la pa))->H' pa=some (.lst ((eb (ds.map (·.1))).map V.int))->Q (.ref s) H')
def Tk(q:List (Key×V)):Prop:=q=[]\/∃v,q=[(Sum.inl 1,v)]
inductive rN(C:FQ)(vs:List V)(H:Hp)(Q:VK)(E:XK):Prop|mk(a dx d:FQ)(tk:List (Key×V))(lo hi:Int)(own:Bool)(_:vs=[.ref a,.int 1,.int lo,.int hi,.bl own])(_:H a=some (.ins C dx [("taken",.ref d)]))(_:H d=some (.dK tk))(_:Tk tk)(_:∀p H',aa H H'->H' p=some (.lst [])->Q (.ref p) H')
inductive sN(C:FQ)(vs:List V)(H:Hp)(Q:VK)(E:XK):Prop|mk(a dx d:FQ)(hv:Option (FQ×List V))(lo hi:Int)(own:Bool)(_:vs=[.ref a,.int 1,.int lo,.int hi,.bl own])(_:H a=some (.ins C dx [("taken",.ref d)]))(_:(match hv with|none=>H d=some (.dK [])/\∀l t H',H l=none->H' d=some (.dK [(Sum.inl 1,.ref l)])->H' l=some (.lst [.ref t])->Za d H H'->Q .ya H'|some (l,us)=>H d=some (.dK [(Sum.inl 1,.ref l)])/\H l=some (.lst us)/\us.length<1000/\∀t H',H' l=some (.lst (us++[.ref t]))->Za l H H'->Q .ya H'))
inductive tN(C:FQ)(vs:List V)(H:Hp)(Q:VK)(E:XK):Prop|mk(a dx d:FQ)(tk:List (Key×V))(_:vs=[.ref a,.int 1])(_:H a=some (.ins C dx [("taken",.ref d)]))(_:H d=some (.dK tk))(_:Tk tk)(_:Q .ya (upd H d (.dK [])))
def uN(C:FQ):Sp:=λvs H Q _=>∃a q,vs=[.ref a]/\H a=some (.ins C q [])/\∀d,H d=none->d≠a->Q .ya (upd (upd H d (.dK [])) a (.ins C q [("taken",.ref d)]))
inductive vN(C:FQ)(vs:List V)(H:Hp)(Q:VK)(E:XK):Prop|mk(s sx:FQ)(w:Bool)(b e:Int)(la pa:FQ)(_:vs=[.ref s,.ref s])(_:H s=some (.ins C sx (Vl 1 w b e la pa)))(_:Q .ya H)
inductive ZC(C:FQ)(vs:List V)(H:Hp)(Q:VK)(E:XK):Prop|mk(l s sx:FQ)(w:Bool)(b e:Int)(la pa:FQ)(_:vs=[.ref l,.ref s])(_:H l=some (.lst [.ref s]))(_:H s=some (.ins C sx (Vl 1 w b e la pa)))(_:Q .ya H)
inductive wN(C:FQ)(vs:List V)(H:Hp)(Q:VK)(E:XK):Prop|mk(l s sx:FQ)(w:Bool)(b e:Int)(la pa:FQ)(_:vs=[.ref s,.ref l])(_:H l=some (.lst [.ref s]))(_:H s=some (.ins C sx (Vl 1 w b e la pa)))(_:Q (.bl IQ) H)
def Kp(H H':Hp):Prop:=∀b o,(∀ps,o≠HO.Wb ps)->H b=some o->H' b=some o
def Kp.of(s:aa H H'):Kp H H':=λb o _ e=>s b o e
def Kp.trans(a:Kp A B)(b:Kp B C):Kp A C:=λx o n e=>b x o n (a x o n e)
def oy(h:Tb P0 q J H)(s:aa H H'):Tb P0 q J H':=h.imp (s _ _) (by rintro⟨c,a,b⟩;exact⟨c,s _ _ a,s _ _ b⟩)
inductive xN(C P0:FQ)(mg:Str->Option EQ)(base:NQ)(vs:List V)(H:Hp)(Q:VK)(E:XK):Prop|mk(k s sx:FQ)(w:Bool)(b e:Int)(la pa:FQ)(_:vs=[.ref k,.ref s])(_:base.BuiltinsAt mg P0)(_:H k=some (.lst []))(_:H s=some (.ins C sx (Vl 1 w b e la pa)))(_:Tb P0 VC WC H)(_:∀H',Kp H H'->Q .ya H')
inductive yN(C P0:FQ)(mg:Str->Option EQ)(base:NQ)(vs:List V)(H:Hp)(Q:VK)(E:XK):Prop|mk(k s sx:FQ)(w:Bool)(b e:Int)(la pa:FQ)(_:vs=[.ref k,.ref s])(_:base.BuiltinsAt mg P0)(_:H k=some (.lst []))(_:H s=some (.ins C sx (Vl 1 w b e la pa)))(_:Tb P0 VC WC H)(_:∀p H',Kp H H'->(∀b xs,H b=some (.lst xs)->b≠p)->H' p=some (.lst [.ref s])->Q (.ref p) H')
inductive zN(vs:List V)(H:Hp)(Q:VK)(E:XK):Prop|mk(l:FQ)(lo hi:Int)(_:vs=[.ref l,.int lo,.int hi])(_:H l=some (.lst []))(_:∀g,H g=none->Q (.ref g) (upd H g (.dK [])))
inductive AN(C:FQ)(cls:Lv->FQ)(vs:List V)(H:Hp)(Q:VK)(E:XK):Prop|mk(a dx pt dl:FQ)(n:Int)(l:Lv)(xs:List V)(_:vs=[.ref a,.int n,.ref pt])(_:H a=some (.ins C dx []))(_:H pt=some (.tup [.str (wd l),.ref dl]))(_:H dl=some (.lst xs))(_:∀H' lv BN de na dr wr lo,Za a H H'->H' a=some (.ins C dx (XC n lv de na dr wr lo).fs)->H' lv=some (.ins (cls l) BN [])->H' de=some (.lst xs)->H' na=some (.dK [])->H' dr=some (.dK [])->H' wr=some (.dK [])->H' lo=some (.lst [])->H de=none->H na=none->H dr=none->H wr=none->H lo=none->[na,dr,wr].Nodup->de≠lo->Q .ya H')
def CN(T:Tx K mg):T.Wt.Ok mg P w base 1 (gN T.Cb):=by
 refine Qa T.Wt.F λ_ _ _ _ _ h=>?_
 ·obtain⟨a,q,d,x,rfl,J,O,Y⟩:=h;refine⟨_,(qa (Ha (ri jq (Ia K 0) (Ui (v:=V.ref T.Cu) rfl T.zL rfl) rfl))),?_⟩;refine⟨_,rfl,a,_,q,_,_,rfl,J,T.Ua,T.Bl,rfl,?_⟩;rw[O];exact⟨T.Cu,[.str "kept",.str "broken"],rfl,.inr (T.AL _),rfl,rfl,Y⟩
def DN(T:Tx K mg):T.Yt.Ok mg P w base 1 (hN T.Cb):=by
 refine Qa T.Yt.F λ_ _ _ _ _ h=>?_
 ·obtain⟨a,q,d,st,rfl,O,c0,J⟩:=h;refine⟨_,(oa (qb (zb Zp (Ia K 0) Hd (sb _))
   (qa (Mc (pv 0) (pv 1) rfl))
   Bb)
   (qa (Mc (pv 0) La rfl))),?_⟩
  show let b0:TS:=_;ma (lb _ _ _) b0 _ _ _
  intros;refine⟨_,rfl,a,_,q,_,_,rfl,O,T.Ua,T.gp,rfl,rfl,_,rfl,bb (λe=>?_) (λe=>?_)⟩
  ·have Y:=Ed e;refine⟨_,rfl,_,rfl,a,_,q,_,rfl,O,T.Ua,T.gp,wb,?_⟩;refine⟨_,rfl,a,_,q,_,rfl,ia,T.Ua,T.Bl,wb,?_⟩;rw[Bd];have a0:xn d.b st=.int st:=Ca Y;rw[a0]at J;exact J
  ·have Y:=λz=>e (Ec z)
   refine⟨_,rfl,a,_,q,_,rfl,O,T.Ua,T.Bl,wb,?_⟩;have a0:xn d.b st=d.b:=Ba Y;rw[a0]at J;exact J
def EN(T:Tx K mg):T.Zt.Ok mg P w base 1 (iN T.Cb):=by
 refine Qa T.Zt.F λ_ _ _ _ _ h=>?_
 ·obtain⟨a,q,c0,d,p,xs,rfl,J,O,Y,a0,b0⟩:=h;refine⟨_,(qa (Ha (ri Od (Ia K 0) (Nb Ue (by rfl) T.Ye Pe (va (Ia K 0))) (sb _)))),?_⟩;refine⟨_,rfl,a,_,q,_,_,rfl,J,T.Ua,T.cp,rfl,?_⟩;refine⟨_,rfl,a,_,q,_,_,rfl,J,T.Ua,T.Xq,rfl,?_⟩;rw[O,Y];refine nx11 _ _ rfl (.inl ⟨_,ja.of a0,rfl⟩) rfl ?_;have e:decide (V.int p=V.int (xs.length:Int))=decide (p=(xs.length:Int)):=by
   by_cases z:p=(xs.length:Int)
   ·rw[Ec z,Ec (Td V.int z)]
   ·rw[Eg z,Eg (by grind)]
  rw[e];exact b0
def aD(T:Tx K mg):T.Qo.Ok mg P w base 5 (jN T.Cb):=by
 refine Qa T.Qo.F λ_ _ _ _ b0 h=>?_
 ·obtain⟨a,q,c0,na,d0,d,p,xs,r,kvs,w,more,rfl,J,O,Y,a0,e0,f0,g0,h0,i0,j0,k⟩:=h;refine⟨_,(qa (Ha (fb T.zx (bM T) b0 (ca (Pa ye (Ia K 0) (Ia K 0)) (ca (Ia K 0) (ca (Ia K 0) (va (Nb Ue (by rfl) T.Ye Pe (va (Ia K 0)))))))))),?_⟩;refine⟨_,rfl,a,_,q,_,_,rfl,J,T.Ua,T.Xq,rfl,?_⟩;refine⟨_,rfl,a,_,q,_,_,rfl,J,T.Ua,T.cp,rfl,?_⟩;rw[O,Y];refine⟨c0,_,_,_,rfl,rfl,ja.of a0,Ja e0,?_⟩;refine⟨_,rfl,a,_,q,_,_,rfl,J,T.Ua,T.cp,rfl,?_⟩;refine⟨_,rfl,a,_,q,_,_,rfl,J,T.Ua,T.Hi,rfl,?_⟩;refine⟨_,rfl,a,_,q,_,_,rfl,J,T.Ua,T.Xq,rfl,?_⟩;rw[O,h0,Y];refine nx0 _ _ rfl (.inl ⟨_,ja.of a0,rfl⟩) ?_;exact⟨d0,p,na,_,kvs,w,r,more,rfl,f0,g0,i0,j0,k⟩
def FN(T:Tx K mg):T.au.Ok mg P w base 1 (kN T.Cb):=by
 refine Qa T.au.F λ_ _ _ _ a0 h=>?_
 ·obtain⟨a,q,J,b0,d,k,st,v,i0,kw,rfl,O,c0,d0,e0,f0,ne,j0,k0,g0⟩:=h;have Y:=yc a0;have l0:(1000:Nat)<JQ:=by decide
  refine⟨_,(oa (We Y (Ia K 0) (pv 1) (pv 2) rfl)
   (qa (We Y (Ia K 0) (pv 1) (pv 3) rfl))),?_⟩
  show let h0:TS:=_;ma _ h0 _ _ _
  intros;refine⟨_,rfl,_,rfl,a,_,q,_,_,rfl,O,T.Ua,T.Dl,rfl,_,rfl,J,_,c0,ue.k (k:=Sum.inl k) e0 (by lia),?_⟩;have ad:a≠J:=λz=>by grind
  refine⟨_,rfl,_,rfl,a,_,q,_,_,rfl,(by rw[ka ad];exact O),T.Ua,T.lC,rfl,_,rfl,b0,_,d0,ue.k (k:=Sum.inl k) (by rw[ka ne.symm];exact f0) (by lia),g0⟩
def bD(T:Tx K mg):Sh P w K mg base 1 T.gn.f T.gn.d ["self","phase","why"] (lN T.Cb):=by
 refine ot T.gn.F (ml (N:=rf (ic (cm 39 9)))) (λvs H Q E h=>?_) (λa0 A outer s H vs Q E b0 h=>?_)
 ·obtain⟨a,q,d,x,y,rfl,_⟩:=h;rfl
 ·obtain⟨a,q,d,x,y,rfl,J,O⟩:=h;refine⟨_,(oa (Mc (pv 0) (pv 1) rfl)
   (qa (Mc (pv 0) (pv 2) rfl))),?_⟩
  show let Y:TS:=_;ma _ Y _ _ _
  intros;refine⟨_,rfl,_,rfl,a,_,q,_,rfl,J,T.Ua,T.Bl,wb,?_⟩;refine⟨_,rfl,_,rfl,a,_,q,_,rfl,ia,T.Ua,T.Xx,wb,?_⟩;rw[Bd];exact O
def GN(T:Tx K mg):T.Vt.Ok mg P w base 3 (AN T.Cb (cO T)):=by
 refine Qa T.Vt.F λH _ _ _ R0 h=>?_
 ·obtain⟨a,q,pt,dl,n,l,xs,rfl,S0,u0,U0,V0⟩:=h;refine⟨_,(oa (Mc (pv 0) (pv 1) rfl)
   (oa (Mc (pv 0) (fb T.Ax (vM T) R0 (va (Pa Ab (pv 2) ra))) rfl)
   (oa (Mc (pv 0) (kg kq (by rfl) T.gk Cj (va (Pa Ab (pv 2) ra))) rfl)
   (oa (Mc (pv 0) ra rfl)
   (oa (Mc (pv 0) Rj rfl)
   (oa (Mc (pv 0) La rfl)
   (oa (Mc (pv 0) Hd rfl)
   (oa (Mc (pv 0) Hd rfl)
   (oa (Mc (pv 0) Hd rfl)
   (oa (Mc (pv 0) Rj rfl)
   (oa (Mc (pv 0) Rj rfl)
   (qa (Mc (pv 0) (Zb jf) rfl))))))))))))),?_⟩
  show let W0:TS:=_;let X0:TS:=ma _ W0;let Y0:TS:=ma _ X0;let Z0:TS:=ma _ Y0;let a1:TS:=ma _ Z0;let b1:TS:=ma _ a1;let d1:TS:=ma _ b1;let e1:TS:=ma _ d1;let f1:TS:=ma _ e1;let g1:TS:=ma _ f1;let h1:TS:=ma _ g1;ma _ h1 _ _ _
  intros;have v0:pt≠a:=λz=>by grind
  have i1:dl≠a:=λz=>by grind
  refine⟨_,rfl,_,rfl,a,_,q,_,rfl,S0,T.Ua,T.Gi,Ld,cg λP1 w0 j1=>?_⟩;refine⟨_,rfl,pt,_,_,_,rfl,rfl,xa.of (w0 _ _ v0 u0),Ja (j:=0) rfl,wd l,rfl,⟨l,rfl⟩,λx0 k1 lv l1 Q1 y0 c0=>?_⟩;have m1:l=x0:=by cases l<;>cases x0<;>first|rfl|exact absurd k1 (by decide+kernel)
  subst m1;have z0:=y0 _ _ j1;have Y:lv≠a:=λz=>by
   rw[z,z0]at c0;exact absurd (HO.ins.inj (Yd c0)).2.2 (show¬([(("number":Str),V.int n)]:List (Str×V))=[]from List.cons_ne_nil _ _)
  refine⟨_,rfl,a,_,q,_,rfl,z0,T.Ua,T.dk,Md,cb (G:=H) (Za.trans w0 (Za.of y0)) λR1 h0 n1 A0=>?_⟩;replace c0:=n1 _ _ Y c0;refine⟨_,rfl,pt,_,_,_,rfl,rfl,xa.of (h0 _ _ v0 u0),Ja (j:=1) rfl,dl,xs,rfl,.inl (ja.of (h0 _ _ i1 U0)),λp0 B0=>nw B0 λH4 q0 o1=>?_⟩;have p1:=Za.new h0 A0 B0;have d0:p0≠a:=λz=>by grind
  refine⟨_,rfl,a,_,q,_,rfl,q0 _ _ A0,T.Ua,T.Xq,Fc,cb (G:=H4) (Za.of (aa.refl _)) λq1 e0 _ i0=>?_⟩;refine⟨_,rfl,a,_,q,_,rfl,i0,T.Ua,T.cp,Xb,cb e0 λq1 e0 _ i0=>λna C0=>nw C0 λr1 j0 t1=>?_⟩;have D0:=Za.trans h0 (Za.trans (Za.of q0) e0);have u1:=Za.new D0 i0 C0;have f0:na≠a:=λz=>by grind
  refine⟨_,rfl,a,_,q,_,rfl,j0 _ _ i0,T.Ua,T.Hi,Gc,cb (G:=r1) (Za.of (aa.refl _)) λr0 J _ O=>?_⟩;refine⟨_,rfl,a,_,q,_,rfl,O,T.Ua,T.Bl,Nd,cb J λr0 J _ O=>?_⟩;refine⟨_,rfl,a,_,q,_,rfl,O,T.Ua,T.gp,Hc,cb J λr0 J _ O=>?_⟩;refine⟨_,rfl,a,_,q,_,rfl,O,T.Ua,T.Xx,Xg,cb J λr0 J _ O=>?_⟩;refine⟨_,rfl,a,_,q,_,rfl,O,T.Ua,T.kC,Yg,cb J λv1 k0 _ F0=>λl0 G0=>nw G0 λS1 H0 w1=>?_⟩;have s0:=Za.trans D0 (Za.trans (Za.of j0) k0);have I0:=k0 _ _ f0 t1;have x1:=Za.new s0 F0 G0;have t0:l0≠a:=λz=>by grind
  have y1:na≠l0:=λz=>by grind
  refine⟨_,rfl,a,_,q,_,rfl,H0 _ _ F0,T.Ua,T.Dl,Zg,cb (G:=v1) (Za.of H0) λz1 a0 A1 J0=>λn0 o0=>nw o0 λT1 K0 B1=>?_⟩;have C1:=A1 _ _ t0 w1;have D1:=Za.new (Za.trans s0 a0) J0 o0;have L0:n0≠a:=λz=>by grind
  have E1:l0≠n0:=λz=>by grind
  have F1:na≠n0:=λz=>by rw[<-z,a0 _ _ f0 I0]at o0;cases o0
  refine⟨_,rfl,a,_,q,_,rfl,K0 _ _ J0,T.Ua,T.lC,fg,cb (G:=z1) (Za.of K0) λG1 g0 H1 M0=>⟨Oc,λlo N0=>nw N0 λU1 O0 I1=>?_⟩⟩;have Q0:=Za.trans (Za.trans s0 a0) g0;have J1:=Za.new Q0 M0 N0;have K1:lo≠a:=λz=>by grind
  have L1:=g0 _ _ d0 (a0 _ _ d0 (k0 _ _ d0 (j0 _ _ (e0 _ _ d0 o1))));have M1:p0≠lo:=λz=>by grind
  refine⟨_,rfl,a,_,q,_,rfl,O0 _ _ M0,T.Ua,T.Yq,gg,cb (G:=G1) (Za.of O0) λV1 b0 N1 O1=>?_⟩;refine V0 _ lv l1 p0 na l0 n0 lo (Za.trans Q0 b0) O1 (b0 _ _ Y (g0 _ _ Y (a0 _ _ Y (k0 _ _ Y (j0 _ _ (e0 _ _ Y (q0 _ _ c0))))))) (b0 _ _ d0 L1) (b0 _ _ f0 (g0 _ _ f0 (a0 _ _ f0 I0))) (b0 _ _ t0 (g0 _ _ t0 C1)) (b0 _ _ L0 (H1 _ _ L0 B1)) (N1 _ _ K1 I1) p1 u1 x1 D1 J1 ?_ M1;simp[y1,E1,F1]
def HN(T:Tx K mg):T.Tt.Ok mg P w base 1 (pN T.Ie):=by
 refine Qa T.Tt.F λ_ _ _ _ _ h=>?_
 ·obtain⟨a,O,c0,d0,n,wa,b,e,xs,us,rfl,k0,l0,n0,k⟩:=h;refine⟨_,(oa (Mc (pv 0) (pv 1) rfl)
   (oa (Mc (pv 0) (pv 2) rfl)
   (oa (Mc (pv 0) (pv 3) rfl)
   (oa (Mc (pv 0) (pv 4) rfl)
   (oa (Mc (pv 0) (kg kq (by rfl) T.gk Cj (Ea 5)) rfl)
   (qa (Mc (pv 0) (kg kq (by rfl) T.gk Cj (Ea 6)) rfl))))))),?_⟩
  show let o0:TS:=_;let p0:TS:=ma _ o0;let q0:TS:=ma _ p0;let r0:TS:=ma _ q0;let s0:TS:=ma _ r0;ma _ s0 _ _ _
  intros;have t0:c0≠a:=λz=>by grind
  have u0:d0≠a:=λz=>by grind
  refine⟨_,rfl,_,rfl,a,_,O,_,rfl,k0,T.Ae,T.Al,(by decide),cg λY q J=>?_⟩;refine⟨_,rfl,_,rfl,a,_,O,_,rfl,J,T.Ae,T.Vx,Md,cb q λY q _ J=>?_⟩;refine⟨_,rfl,_,rfl,a,_,O,_,rfl,J,T.Ae,T.Wx,Fc,cb q λY q _ J=>?_⟩;refine⟨_,rfl,_,rfl,a,_,O,_,rfl,J,T.Ae,T.Wq,Xb,cb q λY q _ J=>?_⟩;refine⟨_,rfl,c0,xs,rfl,.inl (ja.of (q _ _ t0 l0)),λe0 v0=>nw v0 λC0 f0 w0=>?_⟩;have na:e0≠a:=λz=>by grind
  refine⟨_,rfl,a,_,O,_,rfl,f0 _ _ J,T.Ae,T.ZK,Gc,cb (Za.trans q (Za.of f0)) λD0 a0 x0 g0=>?_⟩;refine⟨_,rfl,d0,us,rfl,.inl (ja.of (a0 _ _ u0 n0)),λh0 i0=>nw i0 λH4 b0 y0=>?_⟩;have z0:h0≠a:=λz=>by grind
  exact⟨_,rfl,a,_,O,_,rfl,b0 _ _ g0,T.Ae,T.jC,Nd,cb (Za.trans a0 (Za.of b0)) λF0 A0 j0 B0=>k e0 h0 _ A0 (Za.new a0 g0 i0) B0 (j0 _ _ na (b0 _ _ (x0 _ _ na w0))) (j0 _ _ z0 y0)⟩
--@cc
open Shf
def IN:∀{q:List V}{L:Dr},Bc H q L->Paired (λ(v:V)(J:Int×Option Int)=>∃t,v=.ref t/\H t=some (.tup [.int J.1,ov J.2])) q L:=by
 intro _ _ h;induction h with
 |nil=>exact .nil
 |cons h r O=>exact .cons ⟨_,rfl,h⟩ O
def Su:∀{ys:List V}{q:List Int},Paired (λy(n:Int)=>y=.int n) ys q->ys=q.map V.int
 |_,_,.nil=>rfl
 |_,_,.cons h r=>by rw[h,Su r];rfl
def Ii:∀q:List Int,Paired (λ(v:V)(n:Int)=>v=.int n) (q.map V.int) q
 |[]=>.nil
 |_::r=>.cons rfl (Ii r)
def cD{F:V->Prop}:∀{us:List V},(∀v∈us,F v)->Paired (λv(_:V)=>F v) us us
 |[],_=>.nil
 |u::r,h=>.cons (h u bf) (cD λv hv=>h v (xj _ hv))
def JN(h:H a=some o):upd H a o=H:=by
 funext b;by_cases z:b=a
 ·rw[z,ia,h]
 ·rw[ka z]
def LN(T:Tx K mg):T.xx.Ok P w base 1 (mN):=by
 refine Qa T.xx.F λ{_ _ _ s}H _ _ _ h0 h=>?_
 ·obtain⟨q,a,w,xs,x0,y0,ys,L,rfl,Y,i0,b0,j0,k0,l0,n0,k⟩:=h;have z0:=yc h0;refine⟨_,(oa (Io 2 ["row"] (by show(rf _).Nodup;decide+kernel) [] [] (Yb (pv 1)) (Ac 0) nf (Pa (ej (K:=K) rfl) (pv 0) ra))
   (oa (qb (zb Od (Pa Ab (pv 0) ra) La (sb _))
   (qa (Ha (Nb Ue (by rfl) T.Ye Pe (Ea 2))))
   Bb)
   (oa (qb (zb Od (Pa Ab (pv 0) ra) La (sb _))
   (qa (Ha (Nb (qA rfl) (by rfl) T.vC boot_sum (Ea 2))))
   Bb)
   (qa (Ha (zm (dF (pv 2) (λ_=>rfl)) (Pa ye (pv 2) ra) ra)))))),?_⟩
  show let o0:TS:=_;let p0:TS:=ma (lb _ _ _) o0;let q0:TS:=ma (lb _ _ _) p0;ma _ q0 _ _ _
  intros;refine⟨_,rfl,a,rfl,⟨_,ja.of b0⟩,sg (fs:=[]) (λ_ y (n:Int)=>y=.int n) (λH v (q:Int×Option Int)=>∃t,v=.ref t/\H t=some (.tup [.int q.1,ov q.2])) L (λq=>some (q.2.getD 0)) (λ_ _ _ _ _ e=>e) (by rintro _ _ _ _ s⟨t,e,z⟩;exact⟨t,e,s _ _ z⟩) rfl b0 (IN j0) (qc n0 (by decide)) ?_ ?_⟩
  ·rintro q Y r0 A0 v R B0 s0⟨t,rfl,c0⟩d0 _;obtain⟨C0,rfl⟩:=Be.mp s0;obtain⟨n,t0⟩:=Option.ne_none_iff_exists'.mp (k0 q Y);rw[t0]at c0 d0;exact jd (B:=False) ⟨_,rfl,t,_,_,_,rfl,rfl,xa.of c0,Ja rfl,d0 _ _ [_] _ rfl rfl (aa.refl _) rfl⟩
  ·intro p r0 D0 F0 s1 O e0;rw[sm]at e0;rw[Su e0]at O;have f0:=s1 _ _ Y;have J:=k _ s1;have u0:(L.map λq=>q.2.getD 0).length=L.length:=Na _;have v0:∃r,xs=.str w::r/\(w="read"\/w="sum"\/w="count"):=by
    cases i0 with
    |rd=>exact⟨_,rfl,.inl rfl⟩
    |two a0=>exact⟨_,rfl,.inr a0⟩
   obtain⟨r,rfl,a0⟩:=v0;unfold Kf at J;refine⟨_,rfl,q,_,_,_,rfl,rfl,xa.of f0,Ja rfl,rfl,_,rfl,bb (λe=>?_) (λe=>?_)⟩
   ·rw[Ca (V.str.inj (Ed e)),<-u0,<-Na]at J;exact⟨_,rfl,_,_,rfl,.inl ⟨_,ja.of O,rfl⟩,J⟩
   ·rw[Ba λz=>e (Ec (Td V.str z))]at J;refine⟨_,rfl,q,_,_,_,rfl,rfl,xa.of f0,Ja (j:=0) rfl,rfl,_,rfl,bb (λg0=>?_) (λg0=>?_)⟩
    ·exact⟨_,rfl,_,_,rfl,ja.of O,J⟩
    ·refine⟨_,rfl,_,.inl ⟨_,ja.of O,rfl⟩,?_⟩;have w0:w="read":=by
      rcases a0 with z|z|z
      ·exact z
      ·exact absurd (Ec (Td V.str z)) g0
      ·exact absurd (Ec (Td V.str z)) e
     match L,l0 w0,O,J with
     |[],_,_,J=>exact zc J
     |[x],_,O,J=>exact jd ⟨_,rfl,p,_,_,_,rfl,rfl,ja.of O,Ja rfl,by simpa using J⟩
def MN(T:Tx K mg):T.Xt.Ok mg P w base 1 (nN T.Cb):=by
 refine Qa T.Xt.F λ_ _ _ _ _ h=>?_
 ·obtain⟨a,q,d,x,rfl,J,O,Y⟩:=h;refine⟨_,(qa (Ha (ri jq (Ia K 0) (Ui (v:=V.ref T.Du) rfl T.EL rfl) rfl))),?_⟩;refine⟨_,rfl,a,_,q,_,_,rfl,J,T.Ua,T.Bl,rfl,?_⟩;rw[O];exact⟨T.Du,[.str "going",.str "waiting"],rfl,.inr (T.FL _),rfl,rfl,Y⟩
def NN(T:Tx K mg):T.bu.Ok mg P w base 1 (oN T.Cb):=by
 refine Qa T.bu.F λ_ _ _ _ _ h=>?_
 ·obtain⟨a,Y,c0,lo,g,d,st,l,h,ds,us,rfl,a0,d0,e0,j0,f0,J,g0,k⟩:=h;refine⟨_,(qa (Ub (Oj Fg qm mm Bo (Ia K 0) (va (Hb (ca (pv 1) (ca (pv 2) (ca (pv 3) (ca (kg (qK rfl) (by rfl) T.Ql Jk (va (Ia K 0))) (Ea 4)))))))))),?_⟩;refine⟨_,rfl,a,_,Y,_,_,rfl,a0,T.Ua,T.Yq,rfl,?_⟩;rw[f0];refine⟨.inl ⟨rfl,_,ja.of J⟩,_,rfl,_,rfl,_,rfl,_,rfl,a,_,Y,_,_,rfl,a0,T.Ua,T.Dl,rfl,?_⟩;rw[d0];refine nx2 c0 _ (ds.map (·.1)) rfl e0 (nj ds) λp b0=>⟨_,rfl,Bf,λt q=>?_⟩;have s1:=(aa.upd b0).trans (aa.upd (o:=HO.tup [.int st,.int l,.int h,.ref p,.ref g]) q);have tp:t≠p:=λz=>by rw[z,ia]at q;cases q
  have h0:t≠lo:=λz=>by rw[z,aa.upd b0 _ _ J]at q;cases q
  have pl:p≠lo:=λz=>by grind
  exact⟨lo,us,.ref t,rfl,rfl,s1 _ _ J,pd g0 (by decide),λH' i0 O=>k t p H' (O _ _ h0 ia) (O _ _ pl (by rw[ka tp.symm,ia])) i0 λb o n e=>O b o n (s1 _ _ e)⟩
def ON(T:Tx K mg):T.cu.Ok mg P w base 3 (qN T.Cb T.Ie (cO T)):=by
 refine Qa T.cu.F λ{_ _ _ s}H _ Q _ b0 h=>?_
 ·obtain⟨a,q,lv,g0,lo,o0,d,l,bg,h0,ds,us,rfl,J,D0,i0,j0,F0,p0,k0,q0,r0,s0,t0,u0,k⟩:=h;refine⟨_,(oa (Ya 2 (zm (rc (Do (Ia K 0) (EC T) (b0.mono (by decide)))) (Zb jf) (Vd ["look"] [] [] (Yb (Ia K 0)) (Ac 0) nf (oo (bC rfl) (pv 0) fq (Lm ra)))))
   (qa (Ha (cs T.YK ((HN T).mono (by decide)) b0 rfl T.QK T.Tt.b .nil Mh (ca (Ia K 0) (ca (Do (Ia K 0) (nM T) (b0.mono (by decide))) (ca (Ia K 0) (ca (pv 1) (ca (pv 2) (va (Nb (Ai rfl) (by rfl) T.Uf Bg (va (Ia K 0))))))))))))),?_⟩
  show let c0:TS:=_;ma _ c0 _ _ _
  intros;refine⟨_,rfl,a,_,q,_,_,rfl,J,T.Ua,T.dk,rfl,?_⟩;rename_i c0;have fin:∀L O xs,aa H O->O L=some (.lst xs)->c0 {nx:=λ_ H'=>Q .ya H',rt:=Q} [some (.ref a),some (.int h0),some (.ref L)] O:=λL O xs s1 d0=>by
   refine⟨_,rfl,a,_,q,_,_,rfl,s1 _ _ J,T.Ua,T.Gi,rfl,_,rfl,a,_,q,_,_,rfl,s1 _ _ J,T.Ua,T.dk,rfl,lv,l,g0,_,i0,s1 _ _ j0,rfl,_,rfl,_,rfl,a,_,q,_,_,rfl,s1 _ _ J,T.Ua,T.gp,rfl,_,rfl,_,rfl,_,rfl,a,_,q,_,_,rfl,s1 _ _ J,T.Ua,T.Dl,rfl,o0,_,ds.map (·.1),by rw[s0],s1 _ _ t0,nj ds,by rw[Na];exact u0,λp Y x l0 a0 n0 nx=>?_⟩;have e0:=s1.trans ((aa.upd Y).trans (aa.Hf (C:=T.Ie) a0 n0 nx));have nw:=aa.Hf (C:=T.Ie) a0 n0 nx;refine⟨x,l0,L,p,1,Jo l,bg,h0,xs,_,by grind,ia,nw _ _ (aa.upd Y _ _ d0),nw _ _ ia,λv0 w0 H' B x0 f0 G0 y0=>⟨rfl,k x l0 v0 w0 H' (λb o e=>B b o (λz=>?_) (e0 _ _ e)) (uc e0 x0) f0 y0⟩⟩;rw[z]at e;rw[(s1.trans (aa.upd Y)) _ _ e]at a0;cases a0
  refine⟨lv,l,g0,_,i0,j0,rfl,_,rfl,_,rfl,bb (λ_=>?_) (λ_=>?_)⟩
  ·exact⟨(by decide),λL d0=>fin L _ _ (aa.upd d0) ia⟩
  ·refine⟨_,rfl,a,_,q,_,_,rfl,J,T.Ua,T.Yq,rfl,?_⟩;rw[p0];refine⟨lo,rfl,⟨_,ja.of k0⟩,sg (fs:=[]) (λ_ _ (_:V)=>True) (λH v (_:V)=>∃t xs,v=.ref t/\H t=some (.tup xs)/\xs.length=5) us some (λ_ _ _ _ _ e=>e) (by rintro _ _ _ _ s⟨t,xs,e,z,y⟩;exact⟨t,xs,e,s _ _ z,y⟩) rfl k0 (cD q0) (qc r0 (by decide)) ?_ λD O ys H0 s1 f0 _=>fin D O ys s1 f0⟩;rintro I0 J0 K0 L0 v R e0 z0⟨t,xs,rfl,A0,B0⟩C0 _;obtain⟨M0,rfl⟩:=Be.mp z0;exact jd (B:=False) ⟨_,rfl,_,rfl,t,_,rfl,xa.of A0,by rw[B0];decide,λp Y=>C0 _ _ [_] _ rfl rfl (aa.upd Y) trivial⟩
def PN(T:Tx K mg):T.du.Ok mg P w base 1 (uN T.wf):=by
 refine Qa T.du.F λ_ _ _ _ _ h=>?_
 ·obtain⟨a,J,rfl,O,k⟩:=h;refine⟨_,(qa (Mc (pv 0) Rj rfl)),?_⟩;exactλd q=>⟨_,rfl,a,_,J,_,rfl,aa.upd q _ _ O,T.El,T.zu,(by decide),k d q λz=>by grind⟩
def QN(T:Tx K mg):T.hC.Ok P w base 2 YC:=⟨λ_ _ _ _ h=>h.elim,λ_ _ _ _ _ _ _ _ _ _ _ _ _ h=>h.elim⟩
def RN(T:Tx K mg):T.eu.Ok mg P w base 3 (rN T.wf):=by
 refine Qa T.eu.F λ_ _ _ _ q h=>?_
 ·obtain⟨a,c0,d,d0,lo,hi,e0,rfl,f0,g0,h0,k⟩:=h;have i0:=yc q;refine⟨_,(oa (Io 5 ["other"] (by show(rf _).Nodup;decide+kernel) ["dealing"] [1] (Yb (Nb (Ai rfl) (by rfl) T.Uf Bg (va (Ia K 0)))) (Ac 0) (gh (zb Fm (pv 0) (pv 1) (sb _))) (pv 0))
   (qa (Ha (Vd ["other"] ["self","low","high","own"] [0,2,3,4] (Yb (pv 5)) (Ac 0) (gh (rc (Nb (VH (K:=K) rfl rfl) (by rfl) T.IL boot_any (va (Vd ["hold"] ["low","high","own"] [2,3,4] (RH (K:=K) rfl (jc i0 (Ia K 1) (pv 0))) (Ac 0) nf (fb T.hC (QN T) q (ca (pv 0) (ca (pv 1) (ca (pv 2) (Ea 3)))))))))) (pv 0))))),?_⟩
  show let j0:TS:=_;ma _ j0 _ _ _
  intros;obtain⟨ks,k0,l0,J⟩:∃ks:List Int,d0.map (·.1)=ks.map Sum.inl/\(∀k∈ks,k=1)/\ks.length<64:=by
   rcases h0 with rfl|⟨u,rfl⟩
   ·exact⟨[],rfl,(λ_ h=>by cases h),by decide⟩
   ·exact⟨[1],rfl,(λ_ h=>yg.mp h),by decide⟩
  refine⟨_,rfl,a,_,c0,_,_,rfl,f0,T.El,T.zu,rfl,d,_,ks,rfl,g0,k0,J,λp n0=>⟨p,rfl,⟨_,ja.of ia⟩,sg (fs:=[some (.int 1)]) (λ_ _ (_:Int)=>True) (λ_ v (n:Int)=>v=.int n) (eb ks) (λ_=>none) (λ_ _ _ _ _ e=>e) (λ_ _ _ _ _ e=>e) rfl ia (Ii _) (by rw[(mc _).length_eq];exact qc (yh J) (by decide)) ?_ λD u0 ys v0 s1 O Y=>?_⟩⟩
  ·rintro n o0 a0 w0 v R b0 p0 rfl _ q0;obtain⟨x0,rfl⟩:=Be.mp p0;obtain rfl:=l0 n ((mc _).mem_iff.mp o0);refine⟨_,rfl,_,rfl,rfl,_,rfl,?_⟩;show if(!decide (V.int 1=V.int 1))=HQ then _ else _
   exact q0 rfl [_] _ rfl (aa.refl _)
  ·rw[List.filterMap_eq_nil_iff.mpr λ_ _=>rfl]at Y;cases Y;exact⟨_,rfl,D,rfl,⟨_,ja.of O⟩,sg (k:=1) (fs:=[some (.ref a),some (.int lo),some (.int hi),some (.bl e0)]) (λ_ _ (_:Int)=>True) (λ_ v (n:Int)=>v=.int n) [] (λ_=>none) (λ_ _ _ _ _ e=>e) (λ_ _ _ _ _ e=>e) rfl O .nil (by decide) (λ_ h=>by cases h) λr0 a0 y0 _ b0 s0 t0=>by
    cases t0;exact k r0 a0 ((aa.upd n0).trans (s1.trans b0)) s0⟩
def SN(T:Tx K mg):T.fu.Ok mg P w base 4 (sN T.wf):=by
 refine Qa T.fu.F λH _ _ _ n0 h=>?_
 ·obtain⟨a,e0,d,hv,lo,hi,f0,rfl,g0,k⟩:=h;refine⟨_,(oa (Ya 5 (Ib (pv 0) T.El T.eu.m (RN T) n0 T.eu.b (ca (pv 1) (ca (pv 2) (ca (pv 3) (Ea 4))))))
   (oa (qb (zb Yp (Nb Ue (by rfl) T.Ye Pe (Ea 5)) ra (sb _))
   (qa io)
   Bb)
   (qa (Ub (Oj Fg qm mm Bo (VA (Ia K 0) (pv 1) (Zb jf) ⟨rfl,rfl,rfl,rfl⟩) (va (Hb (ca (pv 2) (ca (pv 3) (Ea 4)))))))))),?_⟩
  show let o0:TS:=_;let p0:TS:=ma (lb _ _ _) o0;ma _ p0 _ _ _
  intros;obtain⟨Y,q,q0⟩:∃Y,H d=some (.dK Y)/\Tk Y:=by
   match hv,k with
   |none,k=>exact⟨_,k.1,.inl rfl⟩
   |some (l,us),k=>exact⟨_,k.1,.inr ⟨_,rfl⟩⟩
  refine⟨_,rfl,a,e0,_,rfl,g0,rfl,_,rfl,_,rfl,_,rfl,_,rfl,a,e0,d,Y,lo,hi,f0,rfl,g0,q,q0,λp r0 s1 s0=>?_⟩;refine⟨_,rfl,_,_,rfl,.inl ⟨_,ja.of s0,rfl⟩,_,_,rfl,rfl,_,rfl,bb (λe=>absurd e (by decide)) (λ_=>?_)⟩;refine⟨_,rfl,a,_,e0,_,_,rfl,s1 _ _ g0,T.El,T.zu,rfl,d,rfl,.inl ⟨Y,.inl (s1 _ _ q)⟩,_,rfl,(by decide),λJ a0=>?_⟩;have b0:=s1.trans (aa.upd (o:=HO.lst []) a0);match hv,k with
  |none,⟨c0,k⟩=>
   rw[q]at c0;cases c0;refine nx4 ([]) (Sum.inl 1) (b0 _ _ q) rfl (by decide) (λt0 hv=>by cases hv) λ_=>?_;have ld:J≠d:=λz=>by rw[z,s1 _ _ q]at a0;cases a0
   have k0:upd (upd r0 J (.lst [])) d (.dK (nb [] (Sum.inl 1:Key) (.ref J))) J=some (.lst []):=by rw[ka ld,ia]
   refine⟨.inl ⟨rfl,[],ja.of k0⟩,_,rfl,_,rfl,_,rfl,Eb,λt h0=>?_⟩;have O:=aa.upd (o:=HO.tup [.int lo,.int hi,.bl f0]) h0;refine⟨J,[],.ref t,rfl,rfl,O _ _ k0,(by decide),λi0 j0 d0=>k J t i0 (uc s1 a0) (d0 _ _ ld.symm (O _ _ ia)) j0 λb o n e=>d0 b o (λz=>?_) (O _ _ (by rw[ka n];exact b0 _ _ e))⟩;rw[z,uc s1 a0]at e;cases e
  |some (l,us),⟨c0,l0,u0,k⟩=>
   rw[q]at c0;cases c0;refine nx4 _ (Sum.inl 1) (b0 _ _ q) rfl Qp (λt0 hv=>?_) (λhv=>by cases hv);cases hv;refine⟨.inl ⟨rfl,us,ja.of (b0 _ _ l0)⟩,_,rfl,_,rfl,_,rfl,Eb,λt h0=>?_⟩;have O:=b0.trans (aa.upd (o:=HO.tup [.int lo,.int hi,.bl f0]) h0);exact⟨l,us,.ref t,rfl,rfl,O _ _ l0,pd u0 (by decide),λi0 j0 d0=>k t i0 j0 λb o n e=>d0 b o n (O _ _ e)⟩
def dD(T:Tx K mg):Sh P w K mg base 1 T.jn.f T.jn.d ["self","dealing"] (tN T.wf):=by
 refine ot T.jn.F (ml (N:=rf (ic (cm 42 3)))) (λvs H Q E h=>?_) (λb0 A outer s H vs Q E c0 h=>?_)
 ·obtain⟨a,O,d,q,rfl,_⟩:=h;rfl
 ·obtain⟨a,O,d,q,rfl,a0,J,Y,k⟩:=h;refine⟨_,(qa (Ub (fA (Ia K 0) (pv 1) Hd ⟨rfl,rfl,rfl,rfl⟩))),?_⟩;refine⟨_,rfl,a,_,O,_,_,rfl,a0,T.El,T.zu,rfl,d,rfl,.inl ⟨q,.inl J⟩,_,rfl,q,Sum.inl 1,J,rfl,λv hv=>?_,λhv=>?_⟩
  ·rcases Y with rfl|⟨u,rfl⟩
   ·cases hv
   ·exact k
  ·rcases Y with rfl|⟨u,rfl⟩
   ·rw[JN J]at k;exact k
   ·cases hv
def TN(T:Tx K mg):T.gC.Ok P w base 2 YC:=⟨λ_ _ _ _ h=>h.elim,λ_ _ _ _ _ _ _ _ _ _ _ _ _ h=>h.elim⟩
def Tu(T:Tx K mg):T.Po.Ok P w base 3 (vN T.Ie):=by
 refine Qa T.Po.F λ{_ _ _ s}_ _ _ _ O h=>?_
 ·obtain⟨s,q,w,b,e,c0,d0,rfl,J,k⟩:=h;refine⟨_,(oa (qb (zb Od (Ia K 0) (Ia K 1) (sb _))
   (qa (Ha Hd))
   Bb)
   (oa (re me rfl (Yb (Ia K 1)) (Kd 2)
   (qa (re me rfl (Yb (Ia K 0)) (Kd 3)
   (qa (qb (rc (fb T.gC (TN T) O (ca (pv 3) (ca (pv 2) (va (Ia K 1))))))
   (qa (Ha (pv 2)))
   Bb)))))
   (qa (Ha Hd)))),?_⟩
  show let Y:TS:=_;let a0:TS:=ma (qe _ _ (qe _ _ (lb _ _ _))) Y;ma (lb _ _ _) a0 _ _ _
  intros;refine⟨_,rfl,s,_,q,_,_,rfl,J,T.Ae,T.Al,rfl,_,rfl,s,_,q,_,_,rfl,J,T.Ae,T.Al,rfl,rfl,_,rfl,bb (λ_=>k) (λb0=>absurd (Ec rfl) b0)⟩
def UN(T:Tx K mg):T.Dx.Ok P w base 4 (ZC T.Ie):=by
 refine Qa T.Dx.F λ{_ _ _ s}H _ _ _ c0 h=>?_
 ·obtain⟨l,s,O,w,b,e,d0,e0,rfl,b0,Y,k⟩:=h;refine⟨_,(oa (re me rfl (Yb (pv 0)) (Kd 2)
   (qa (qb (PW.pt (ni (zb Yp (Ia K 2) (Ia K 1) (sb _)) (mi (zb Im (fb T.Po (Tu T) c0 (ca (pv 2) (Ea 1))) Hd (sb _)))))
   (qa (Ha (pv 2)))
   Bb)))
   (qa (Ha Hd))),?_⟩
  show let f0:TS:=_;ma (qe _ _ (lb _ _ _)) f0 _ _ _
  intros;refine⟨_,rfl,l,rfl,⟨_,ja.of b0⟩,eh (K:=K) (a:=l) (xs:=[.ref s]) (λi q J=>J=H/\∃a0:Option V,q=[some (.ref l),some (.ref s),a0]) ⟨rfl,none,rfl⟩ (by rintro i q J _⟨z,_⟩;exact z▸ja.of b0) ?_ ?_⟩
  ·rintro i y q J g0⟨rfl,a0,rfl⟩;obtain rfl:y=.ref s:=by
    have:=Cg g0;simpa using this
   refine⟨_,rfl,s,_,O,_,_,rfl,Y,T.Ae,T.Wq,rfl,_,rfl,s,_,O,_,_,rfl,Y,T.Ae,T.Wx,rfl,_,_,rfl,rfl,_,rfl,bb (λh0=>?_) (λh0=>?_)⟩
   ·exact⟨_,rfl,_,rfl,s,O,w,b,e,d0,e0,rfl,Y,rfl,_,rfl,bb (λi0=>by simp at i0) (λ_=>⟨rfl,_,rfl⟩)⟩
   ·exact⟨rfl,_,rfl⟩
  ·rintro q J⟨rfl,a0,rfl⟩;exact k
def eD(T:Tx K mg):T.Ut.Ok P w base 4 (ZC T.Ie):=by
 refine Qa T.Ut.F λ{_ _ _ s}H _ _ _ c0 h=>?_
 ·obtain⟨l,s,Y,w,b,e,g0,h0,rfl,a0,b0,k⟩:=h;refine⟨_,(oa (re me rfl (Yb (pv 0)) (Kd 2)
   (qa (qb (PW.pt (ni (zb Xi (Ia K 2) (Ia K 1) (sb _)) (mi (zb Im (fb T.Po (Tu T) c0 (ca (pv 1) (Ea 2))) Hd (sb _)))))
   (qa (Ha (pv 2)))
   Bb)))
   (qa (Ha Hd))),?_⟩
  show let d0:TS:=_;ma (qe _ _ (lb _ _ _)) d0 _ _ _
  intros;refine⟨_,rfl,l,rfl,⟨_,ja.of a0⟩,eh (K:=K) (a:=l) (xs:=[.ref s]) (λi q J=>J=H/\∃O:Option V,q=[some (.ref l),some (.ref s),O]) ⟨rfl,none,rfl⟩ (by rintro i q J _⟨z,_⟩;exact z▸ja.of a0) ?_ ?_⟩
  ·rintro i y q J e0⟨rfl,O,rfl⟩;obtain rfl:y=.ref s:=by
    have:=Cg e0;simpa using this
   refine⟨_,rfl,s,_,Y,_,_,rfl,b0,T.Ae,T.Wq,rfl,_,rfl,s,_,Y,_,_,rfl,b0,T.Ae,T.Wq,rfl,_,_,rfl,rfl,_,rfl,bb (λf0=>?_) (λf0=>?_)⟩
   ·grind
   ·exact⟨rfl,_,rfl⟩
  ·rintro q J⟨rfl,O,rfl⟩;exact k
def VN(T:Tx K mg):T.Fx.Ok P w base 5 (wN T.Ie):=by
 refine Qa T.Fx.F λ{_ _ _ s}_ _ _ _ O h=>?_
 ·obtain⟨l,s,q,w,b,e,Y,a0,rfl,b0,J,k⟩:=h;refine⟨_,(qa (Ha (Up (Ia K 0) (Rr (ri Im (fb T.Ut (eD T) O (ca (pv 1) (Ea 0))) Hd (sb _)))))),?_⟩;refine⟨_,rfl,s,_,q,_,_,rfl,J,T.Ae,T.Vx,rfl,?_⟩;exact⟨w,rfl,bb (λ_=>⟨_,rfl,_,rfl,l,s,q,w,b,e,Y,a0,rfl,b0,J,rfl,by simpa using k⟩) (λ_=>k)⟩
def WN(T:Tx K mg):Kb P w K mg base Qc 5 T.ay T.Gu ["kept","new"] (xN T.Ie T.lp mg base):=by
 refine My.pJ T.wC ar (λvs H Q E h=>?_) (λA outer s H vs Q E J h=>?_)
 ·obtain⟨c0,s,O,w,b,e,k0,l0,rfl,_⟩:=h;rfl
 ·obtain⟨c0,s,O,w,b,e,k0,l0,rfl,t0,hk,d0,e0,u0⟩:=h;have O0:=yc J;refine⟨_,(oa (Zw 2 ar.nd (BJ (c:=T.lc) (P0:=T.lp) rfl T.Uf (va (Ta ro (pv 0) (Zb (Ea 1)))) T.NL T.OL t0 J.depth rfl rfl rfl rfl rfl (by decide) rfl (λ_ _ _ _ _ _ _ _=>rfl) (by decide) (λ_=>rfl)))
   (oa (re me rfl (Yb (Vd ["span"] [] [] (Yb (pv 2)) (Ac 0) (gh (rc (Ia K 0))) (pv 0))) (kK 3 ar.nd)
   (oa (Zw 4 ar.nd (fb T.Dx (UN T) J (ca (zm (zb Od (Ia K 3) (Ia K 1) (sb _)) (pv 2) (Zb (Ea 1))) (Ea 3))))
   (oa (Zw 5 ar.nd (zm (zb Zp (pv 4) Hd (sb _)) Hd (fb T.Ut (eD T) J (ca (pv 2) (Ea 3)))))
   (qa (qb (zb Im (pv 5) Hd (sb _))
   (qa (Ha (Hb (ca (Ia K 4) (ca (fb T.Po (Tu T) J (ca (pv 4) (Ea 3))) (ca (Ia K 3) (ca (fb T.Po (Tu T) J (ca (pv 3) (Ea 5))) (va (Ia K 5)))))))))
   Bb)))))
   (qa (Ha Hd)))),?_⟩
  show let v0:TS:=_;let w0:TS:=lb _ _ _;let x0:TS:=ma _ w0;let y0:TS:=ma _ x0;let z0:TS:=ma (qe _ _ y0) v0;ma _ z0 _ _ _
  intros;refine⟨_,rfl,_,rfl,jb,λn0 A0=>?_⟩;have s1:=aa.upd (o:=HO.lst [V.ref s]) A0;refine⟨c0,n0,[],[.ref s],rfl,rfl,s1 _ _ hk,ia,jb,λo0 B0=>?_⟩;have q:=s1.trans (aa.upd (o:=HO.lst ([]++[V.ref s])) B0);have C0:=ia (H:=upd H n0 (HO.lst [V.ref s])) (a:=o0) (o:=HO.lst ([]++[V.ref s]));refine⟨o0,[.ref s],[1],rfl,C0,Fj,.cons (nx10 s _ O _ rfl (q _ _ d0) T.Ae ⟨T.Al,rfl⟩) .nil,oy e0 q,λD ys D0 Q0 p0 R0 f0 F0=>?_⟩;obtain⟨ps,G0,rfl,_⟩:=F0;obtain rfl:ps=[((1:Int),V.ref s)]:=List.perm_singleton.mp G0;have q0:=p0 _ _ (λz=>by rcases oy e0 q with y|⟨_,y,_⟩<;>(rw[<-z,q _ _ d0]at y;cases y)) (q _ _ d0);have H0:Kp H D0:=(Kp.of q).trans λc o n y=>p0 c o (λz=>by rcases oy e0 q with I0|⟨_,I0,_⟩<;>(grind)) y
  refine⟨_,rfl,D,rfl,⟨_,ja.of f0⟩,sg (k:=1) (fs:=[]) (λ_ v (_:Unit)=>v=.ref s) (λ_ v (_:Unit)=>v=.ref s) [()] (λ_=>if w=HQ then some ()else none) (λ_ _ _ _ _ e=>e) (λ_ _ _ _ _ e=>e) rfl f0 (.cons rfl .nil) (by decide) ?_ λr0 H4 ms S0 Y s0 J0=>?_⟩
  ·rintro _ _ H4 U0 v R Y K0 rfl L0 M0;obtain⟨V0,rfl⟩:=Be.mp K0;refine⟨_,rfl,s,_,O,_,_,rfl,Y _ _ q0,T.Ae,T.Vx,rfl,w,rfl,bb (λe=>⟨_,rfl,L0 () _ [_] _ (Ca e) rfl (aa.refl _) rfl⟩) (λe=>M0 (Ba e) [_] _ rfl (aa.refl _))⟩
  ·refine⟨r0,rfl,⟨_,ja.of s0⟩,eh (K:=K) (a:=r0) (λi a0 b0=>b0=H4/\∃(g0 h0 i0:Option V),a0=[some (.ref c0),some (.ref s),some (.ref D),g0,h0,i0]) (⟨rfl,nx14 none none none rfl⟩) (by rintro i a0 b0 _⟨z,_⟩;exact z▸ja.of s0) ?_ ?_⟩
   ·rintro i y a0 b0 N0⟨rfl,g0,h0,i0,rfl⟩;obtain⟨_,_,rfl⟩:=jl J0 (Cg N0);have j0:=Y _ _ q0;refine⟨_,rfl,s,_,O,_,_,rfl,j0,T.Ae,T.Al,rfl,_,rfl,s,_,O,_,_,rfl,j0,T.Ae,T.Al,rfl,rfl,_,rfl,bb (λ_=>?_) (λe=>absurd (Ec rfl) e)⟩;refine⟨_,rfl,_,rfl,D,s,O,w,b,e,k0,l0,rfl,Y _ _ f0,j0,?_⟩;refine⟨_,rfl,rfl,_,rfl,bb (λ_=>?_) (λe=>absurd (Ec rfl) e)⟩;exact⟨_,rfl,rfl,_,rfl,bb (λe=>by simp at e) (λ_=>⟨rfl,nx14 _ _ _ rfl⟩)⟩
   ·rintro a0 b0⟨rfl,g0,h0,i0,rfl⟩;exact u0 _ (H0.trans (Kp.of Y))
def XN(T:Tx K mg):T.Ex.Ok P w base 6 (yN T.Ie T.lp mg base):=by
 refine Qa T.Ex.F λ{_ _ _ s}_ _ _ _ a0 h=>?_
 ·obtain⟨O,s,b0,w,b,e,c0,d0,rfl,e0,hk,f0,g0,h0⟩:=h;refine⟨_,(oa (Ya 2 (Xv ((WN T).mono (by decide)) a0 rfl T.ML T.wC.kp T.LL .nil Mh (ca (pv 0) (Ea 1))))
   (oa (qb (zb Im (pv 2) Hd (sb _))
   (qa io)
   Bb)
   (qa (Ha (Ta ro (pv 0) (Zb (Ea 1))))))),?_⟩
  show let i0:TS:=_;let j0:TS:=ma (lb _ _ _) i0;ma _ j0 _ _ _
  intros;refine⟨_,rfl,_,rfl,O,s,b0,w,b,e,c0,d0,rfl,e0,hk,f0,g0,λp0 q=>?_⟩;refine⟨_,rfl,rfl,_,rfl,bb (λk0=>by simp at k0) (λ_=>?_)⟩;refine⟨_,rfl,_,rfl,jb,λl0 n0=>?_⟩;have s1:=aa.upd (o:=HO.lst [V.ref s]) n0;refine⟨O,l0,[],[.ref s],rfl,rfl,s1 _ _ (q _ _ (λ_ z=>by cases z) hk),ia,jb,λo0 J=>?_⟩;refine h0 o0 _ (q.trans (Kp.of (s1.trans (aa.upd J)))) (λb xs Y z=>?_) ia;rw[z]at Y;rw[s1 _ _ (q _ _ (λ_ z=>by cases z) Y)]at J;cases J
def YN(T:Tx K mg):T.Gx.Ok P w base 2 (zN):=by
 refine Qa T.Gx.F λH _ _ _ Y h=>?_
 ·obtain⟨l,lo,hi,rfl,a0,k⟩:=h;have b0:=yc Y;refine⟨_,(oa (Ya 3 Rj)
   (oa (re me rfl (Yb (pv 0)) (Kd 4)
   (qa (re me rfl (DB (Ia K 4)) (Kd 5)
   (qa (qb (rc (fb T.Oo (Ru T) Y (ca (pv 5) (ca (pv 1) (Ea 2)))))
   (qa (We b0 (pv 3) (pv 5) (Ia K 4) rfl))
   Bb)))))
   (qa (Ha (pv 3))))),?_⟩
  show let c0:TS:=_;let d0:TS:=ma (qe _ _ (qe _ _ (lb _ _ _))) c0;ma _ d0 _ _ _
  intros;refineλg O=>⟨_,rfl,l,rfl,⟨_,ja.of (aa.upd O _ _ a0)⟩,eh (K:=K) (a:=l) (xs:=[]) (λi q J=>J=upd H g (.dK [])/\q=[some (.ref l),some (.int lo),some (.int hi),some (.ref g),none,none]) ⟨rfl,rfl⟩ (by rintro i q J _⟨z,_⟩;exact z▸ja.of (aa.upd O _ _ a0)) (λi y q J e0=>by simp at e0) ?_⟩
  rintro q J⟨rfl,rfl⟩;exact⟨_,rfl,k g O⟩
--@cc
open Shf
def kr(kvs:List (Key×V))(k:Key)(v:V):(nb kvs k v).length<=kvs.length+1:=by
 unfold nb;split
 ·rw[Na];lia
 ·simp
def Uu(j k:Int):∀m:Dr,fk (m.filter λz=>!decide (z.1=j)) k=if j=k then none else fk m k
 |[]=>by simp[fk]
 |q::r=>by
  rw[Fn,oh];by_cases e:q.1=j
  ·simp only[e,decide_true,Bool.not_true,Qn,if_false];rw[Uu j k r];by_cases z:j=k<;>simp[z]
  ·simp only[e,decide_false,Bool.not_false,if_true];rw[oh,Uu j k r]
   grind
def py(k:Int):∀(ds fs:Dr),(ds.map (·.1)).Nodup->fk (vg fs ds) k=match fk ds k with
  |some (some v)=>some (some v)
  |some none=>none
  |none=>fk fs k
 |[],_,_=>rfl
 |q::r,fs,J=>by
  obtain⟨O,Y⟩:=ei.mp J;show fk (vg (Vh fs q) r) k=_;rw[py k r _ Y,oh];obtain⟨a,o⟩:=q;by_cases e:a=k
  ·subst e;rw[Ca rfl,Le.mpr O];cases o with
   |none=>show fk (fs.filter _) a=none;rw[Uu,Ca rfl]
   |some v=>show fk (Yc fs a (some v)) a=_;rw[np,Ca rfl]
  ·rw[Ba e];cases fk r k with
   |some a0=>cases a0<;>rfl
   |none=>
    cases o with
    |none=>show fk (fs.filter _) k=_;rw[Uu,Ba e]
    |some v=>show fk (Yc fs a (some v)) k=_;rw[np,Ba e]
def qy:∀(ds fs:Dr),(fs.map (·.1)).Nodup->((vg fs ds).map (·.1)).Nodup
 |[],_,h=>h
 |(a,o)::r,fs,h=>qy r (Vh fs (a,o)) (by
  cases o with
  |none=>exact h.sublist (Dh.map _)
  |some v=>exact jp _ _ h)
def lr:∀(ds fs:Dr),(vg fs ds).length<=fs.length+ds.length
 |[],_=>Ra _
 |(a,o)::r,fs=>by
  have h:=lr r (Vh fs (a,o));have q:(Vh fs (a,o)).length<=fs.length+1:=by
   cases o with
   |none=>exact Nat.le_succ_of_le (um _ _)
   |some v=>exact gr _ _ _
  show(vg (Vh fs (a,o)) r).length<=fs.length+(r.length+1);lia
def ry(h:∀q∈fs,q.2≠none)(k:Int):fk fs k≠some none:=λz=>by
 obtain⟨q,J,e⟩:=xh.mp z
 grind
def gD{fs ds:Dr}(q:(ds.map (·.1)).Nodup)(J:∀O∈fs,O.2≠none)(k:Int)(o:Option Int):fk (vg fs ds) k=some o↔wn fs ds k=some o/\o≠none:=by
 rw[py k ds fs q];unfold wn;cases e:fk ds k with
 |none=>
  refine⟨λz=>⟨z,λy=>?_⟩,λz=>z.1⟩;rw[y]at z;exact ry J k z
 |some Y=>cases Y<;>simp<;>grind
def sy{fs ds:Dr}{lo hi:Int}(O:(fs.map (·.1)).Nodup)(Y:(ds.map (·.1)).Nodup)(a0:∀b0∈fs,b0.2≠none):ik fs ds lo hi (md fs ds lo hi):=by
 unfold md yf;refine⟨?_,λk o=>?_⟩
 ·rw[ag,show((·.1)∘λk=>(k,(fk (vg fs ds) k).getD none))=(id:Int->Int)from rfl,List.map_id];exact(mj (qy ds fs O)).sublist Dh
 ·rw[<-gD Y a0];simp only[Fd,Gh,Prod.mk.injEq];constructor
  ·rintro⟨j,⟨J,q⟩,rfl,rfl⟩;refine⟨Ed q,?_⟩;cases e:fk (vg fs ds) j with
   |none=>exact absurd ((mc _).mem_iff.mp J) (Le.mp e)
   |some o=>rfl
  ·rintro⟨J,q⟩;refine⟨k,⟨(mc _).mem_iff.mpr (Mi λz=>?_),Ec J⟩,rfl,by rw[q];rfl⟩;rw[Le.mpr z]at q;cases q
def mr(k:Int)(q:0<=s):Cd (hk (m0 fs) k) s=(0,0,(fk fs k).getD none):=by
 rw[hr];cases fk fs k with
 |none=>rfl
 |some o=>show(([(0,0,o)]:List Ga).reverse.find? _).getD mn=_;simp[ce,q]
def uy(fs:Dr):(m0 fs).map (·.1)=fs.map (·.1):=by
 unfold m0;rw[ag];rfl
def ZN{fs ds L:Dr}{lo hi s:Int}(O:(fs.map (·.1)).Nodup)(Y:(ds.map (·.1)).Nodup)(q:∀a0∈fs,a0.2≠none)(J:0<=s)(h:ik (Ze ((eb ((m0 fs).map (·.1))).filter (gb lo hi)) λk=>(Cd (hk (m0 fs) k) s).2.2) ds lo hi L):L=md fs ds lo hi:=by
 refine JM (a:=⟨h.1,λk o=>?_⟩) (sy O Y q);rw[h.2 k o];refine and_congr_right λb0=>?_
 have e:fk (Ze ((eb ((m0 fs).map (·.1))).filter (gb lo hi)) λk=>(Cd (hk (m0 fs) k) s).2.2) k=fk fs k:=by
  unfold Ze;rw[OC (λk=>(Cd (hk (m0 fs) k) s).2.2),mr k J,uy];simp only[Gh,(mc _).mem_iff,mr k J,show gb lo hi k=HQ from Ec b0,and_true];cases z:fk fs k with
  |none=>grind
  |some o=>
   have c0:=Mi λy=>by rw[Le.mpr y]at z;cases z
   cases o with
   |none=>exact absurd z (ry q k)
   |some v=>simp[c0]
 unfold wn;rw[e]
def aO{lo:Int}(h:ik fs ds lo lo L):L.length<=1:=by
 match L,h with
 |[],_=>exact wc _
 |[_],_=>exact Ra _
 |a::b::r,h=>
  have q:a.1<b.1:=(Eh.mp h.1).1 b.1 (by simp);have J:=((h.2 a.1 a.2).mp (by simp)).1;have O:=((h.2 b.1 b.2).mp (by simp)).1;lia
def iD(M:Dr)(p:Int->Bool):(yf M p).length<=M.length:=by
 unfold yf;rw[Na];refine qc (um _ _) ?_;rw[(mc _).length_eq,Na]
 grind
open Shf
structure HF where
 sh:V
 ho:V
 dl:V
 sp:V
 st:V
 tl:V
def HF.fs(d:HF):List (Str×V):=[("shelf",d.sh),("holds",d.ho),("deals",d.dl),("spans",d.sp),("stamp",d.st),("told_rows",d.tl)]
structure Gm where
 l:Lv
 fs:Dr
 ua:List De
structure Sx where
 ms:Ms
 st:Int
 bg:Option Int
 wa:V
 kw:List (Key×V)
 lv:List V
 lks:List (Int×Int×Int×List Int)
 tv:List V
 td:List QQ
 hv:Option (List V)
structure Cn where
 hx:FQ
 sh:FQ
 sx:FQ
 sd:FQ
 ho:FQ
 oj:FQ
 dl:FQ
 sp:FQ
 ax:FQ
 lv:FQ
 lx:FQ
 de:FQ
 kvs:List (Key×V)
 qs:List V
def Oe(c:Cn)(x:Nat->FQ)(sp:FQ)(st:Int):HF:=⟨.ref c.sh,.ref c.ho,.ref c.dl,.ref sp,.int st,.ref (x 2)⟩
def Wd(c:Cn)(x:Nat->FQ)(S:Sx):DF:=⟨.int 1,.ref c.lv,.ref c.de,.int S.ms.pl,.ref (x 4),.str (if S.bg.isSome=HQ then"going"else"new"),vl S.bg,.ya,S.wa,.ref (x 5),.ref (x 6),.ref (x 7)⟩
def Ji(x:Nat->FQ)(S:Sx):List (Key×V):=match S.hv with
 |none=>[]
 |some _=>[(Sum.inl 1,.ref (x 8))]
def fL{K:W.Frag}{mg:Str->Option EQ}(T:Tx K mg)(c:Cn)(x:Nat->FQ)(S:Sx):Nat->Option HO
 |0=>some (.ins T.ub c.hx (Oe c x c.sp S.st).fs)
 |1=>some (.dK (Ji x S))
 |2=>some (.lst S.tv)
 |3=>some (.ins T.Cb c.ax (Wd c x S).fs)
 |4=>some (.dK S.ms.na)
 |5=>some (.dK (Ka S.ms.ds))
 |6=>some (.dK S.kw)
 |7=>some (.lst S.lv)
 |8=>S.hv.map .lst
 |_=>none
structure Cf{K:W.Frag}{mg:Str->Option EQ}(T:Tx K mg)(g:Gm)(U:Hp)(x:Nat->FQ)(c:Cn):Prop where
 shl:Hs K T.Jc U c.sh c.sx c.sd c.kvs (m0 g.fs)
 kk:U c.ho=some (.ins T.wf c.oj [("taken",.ref (x 1))])
 dls:U c.dl=some (.lst [.ref (x 3)])
 sps:U c.sp=some (.lst [])
 lev:U c.lv=some (.ins (cO T g.l) c.lx [])
 Wh:U c.de=some (.lst c.qs)
 nr:Paired (λv d=>∃q,v=.ref q/\U q=some (.tup (De.vs d))) c.qs g.ua
 tab:U T.lp=some (.Wb #[])
 sep:V.ref c.dl∉c.kvs.map (·.2)
structure Gd(g:Gm):Prop where
 nd:(g.fs.map (·.1)).Nodup
 Ad:g.fs.length<=4
 qr:∀q∈g.fs,q.2≠none
 vy:∀d∈g.ua,d.ok
 bO:g.ua.length<=40
inductive Ki(c:Cn)(U:Hp)(v:V)(q:Int×Int×Int×List Int):Prop|mk(t p g)(_:v=.ref t)(_:U t=some (.tup [.int q.1,.int q.2.1,.int q.2.2.1,.ref p,.ref g]))(_:U p=some (.tup (q.2.2.2.map V.int)))(_:U g=some (.dK []))(_:g≠c.sd)
structure Pu(g:Gm)(S:Sx):Prop where
 qh:S.ms.lk=S.lks.map (·.2)
 ai:ze S.ms.na
 nd:(S.ms.ds.map (·.1)).Nodup
 ln:S.ms.ds.length<=S.td.length/\S.kw.length<=S.td.length/\S.lv.length<=S.td.length/\S.ms.na.length<=S.td.length/\(S.hv.getD []).length<=S.td.length/\S.td.length<=50/\S.ms.pl<=g.ua.length
 zf:(∀q∈S.lks,0<=q.1/\q.1<=(S.td.length:Int))/\(yt g.l=IQ->(S.lks.map (·.1)).Pairwise (·<=·))
 nk:∀b,S.bg=some b->1<=b/\b<=(S.td.length:Int)+1
def Pu.more{g:Gm}{S q:Sx}{d:QQ}(h:Pu g S)(Y:q.ms.lk=S.ms.lk)(J:q.lks=S.lks)(e0:q.bg=S.bg)(a0:ze q.ms.na)(b0:(q.ms.ds.map (·.1)).Nodup)(c0:q.td=S.td)
  (f0:q.ms.ds.length<=S.td.length+1/\q.kw.length<=S.td.length+1/\q.lv.length<=S.td.length+1/\q.ms.na.length<=S.td.length+1/\(q.hv.getD []).length<=S.td.length+1/\S.td.length<50/\q.ms.pl<=g.ua.length):Pu g {q with td:=q.td++[d]}:=by
 have O:(q.td++[d]).length=S.td.length+1:=by rw[c0];simp
 refine⟨by rw[Y,J];exact h.qh,a0,b0,?_,⟨λd0 g0=>?_,?_⟩,λb e=>?_⟩
 ·grind
 ·have:=h.zf.1 d0 (by grind);rw[O];lia
 ·rw[J];exact h.zf.2
 ·have:=h.nk b (by grind);rw[O];lia
structure Xd{K:W.Frag}{mg:Str->Option EQ}(T:Tx K mg)(g:Gm)(U H:Hp)(x:Nat->FQ)(c:Cn)(S:Sx):Prop where
 bx:Bx U H x (fL T c x S)
 cf:Cf T g U x c
 tld:Gb (tp U) S.tv S.td
 lks:Paired (Ki c U) S.lv S.lks
 pu:Pu g S
def jD(C J:FQ):Sp:=λvs H Q _=>∃(h O a Y t tl:FQ)(d:HF)(e:DF)(ps q:List V),vs=[.ref h,.ref a,.ref t]/\H h=some (.ins C O d.fs)/\H a=some (.ins J Y e.fs)/\H t=some (.tup ps)/\ps≠[]/\ps.length<1000/\d.tl=.ref tl/\H tl=some (.lst q)/\q.length<100000/\
 ∀r H',H' r=some (.tup (d.st::e.n::ps))->H' tl=some (.lst (q++[.ref r]))->Za tl H H'->Q .ya H'
section
variable{K:W.Frag}{mg:Str->Option EQ}{T:Tx K mg}{g:Gm}{U U' H H':Hp}{x x':Nat->FQ}{c:Cn}{S S':Sx}
def Cf.same(h:Cf T g U x c)(s:aa U U')(q:x' 1=x 1:=by rfl)(J:x' 3=x 3:=by rfl):Cf T g U' x' c:=
 ⟨h.shl.same s,by rw[q];exact s _ _ h.kk,by rw[J];exact s _ _ h.dls,s _ _ h.sps,s _ _ h.lev,s _ _ h.Wh,Paired.ib h.nr (by rintro _ _⟨O,e,z⟩;exact⟨O,e,s _ _ z⟩),s _ _ h.tab,h.sep⟩
def Ki.same(h:Ki c U v q)(s:aa U U'):Ki c U' v q:=by
 obtain⟨t,p,g,e,a,b,d,n⟩:=h;exact⟨t,p,g,e,s _ _ a,s _ _ b,s _ _ d,n⟩
def dO(i:Nat)(h:i<9)(o:HO)(e:fL T c x S i=some o)(xs:List V):o≠.tup xs:=λz=>by
 subst z;revert h e;refineλh=>Sc (P:=λi=>fL T c x S i≠some (.tup xs)) ?_ ?_ ?_ ?_ ?_ ?_ ?_ ?_ ?_ i h<;>intro z<;>first|cases z|(obtain⟨_,_,z⟩:=xh.mp z;cases z)
def Vu(b:Bx U H x (fL T c x S))(e:H r=some (.tup xs)):Xc H x (fL T c x S) r=some (.tup xs):=
 nl e λi hi o z y=>by
  have:=b.at_ i hi o z;rw[y,e]at this;exact dO i hi o z xs (Yd this).symm
def Xd.next(L:Xd T g U H x c S)(b:Bx U H' x' (fL T c x' S'))(q:x' 1=x 1)(J:x' 3=x 3)(O:S'.tv=S.tv++[.ref r])(Y:S'.td=S.td++[.tuple ds])(a0:H' r=some (.tup ps))(b0:Gb (tp H') ps ds)
  (lk:Paired (Ki c (Xc H' x' (fL T c x' S'))) S'.lv S'.lks)(c0:Pu g S'):aa U (Xc H' x' (fL T c x' S'))/\Xd T g (Xc H' x' (fL T c x' S')) H' x' c S':=by
 obtain⟨s,bg⟩:=b.grow;have st:aa (tp H') (tp (Xc H' x' (fL T c x' S'))):=He λ_ _ e=>Vu b e
 refine⟨s,bg,L.cf.same s q J,?_,lk,c0⟩;rw[O,Y];exact(L.tld.same (He λ_ _ e=>s _ _ e)).app (.cons (.tup (Tf (Vu b a0)) (b0.same st)) .nil)
def Xd.tell(L:Xd T g U H x c S)(b:Bx U J x' (fL T c x' q))(hx:∀i,i≠8->x' i=x i)(Y:q.tv=S.tv)(a0:q.td=S.td)(b0:J t=some (.tup ps))(c0:ps≠[])(d0:ps.length<1000)(e0:Gb (tp J) ps ds)
  (lk:Paired (Ki c (Xc J x' (fL T c x' q))) q.lv q.lks)(pu:Pu g {q with td:=q.td++[.tuple (.int q.st::.int 1::ds)]})
  (k:∀U' H' S',aa U U'->Xd T g U' H' x' c S'->S'.ms=q.ms/\S'.td=S.td++[.tuple (.int q.st::.int 1::ds)]/\S'.st=q.st/\S'.bg=q.bg->Q .ya H'):jD T.ub T.Cb [.ref (x' 0),.ref (x' 3),.ref t] J Q E:=by
 have l0:=L.tld.len;have n0:=L.pu.ln.2.2.2.2.2.1;refine nx3 (x' 0) c.hx (x' 3) c.ax t (x' 2) _ (nx6 _ ps q.tv rfl (b.get 0 rfl) (b.get 3 rfl) b0 c0 d0 rfl (b.get 2 rfl) ⟨by rw[Y];lia,λr H' f0 g0 B=>?_⟩);have h0:Bx U H' x' (fL T c x' {q with tv:=q.tv++[.ref r],td:=q.td++[.tuple (.int q.st::.int 1::ds)]}):=(b.but 2 rfl g0 B).nc (Sc rfl rfl rfl rfl rfl rfl rfl rfl rfl);have i0:=nK (g:=fL T c x' {q with tv:=q.tv++[.ref r],td:=q.td++[.tuple (.int q.st::.int 1::ds)]}) b rfl B (Sc ⟨λ_=>⟨_,rfl⟩,λ_=>⟨_,rfl⟩⟩ ⟨λ_=>⟨_,rfl⟩,λ_=>⟨_,rfl⟩⟩ ⟨λ_=>⟨_,rfl⟩,λ_=>⟨_,rfl⟩⟩ ⟨λ_=>⟨_,rfl⟩,λ_=>⟨_,rfl⟩⟩ ⟨λ_=>⟨_,rfl⟩,λ_=>⟨_,rfl⟩⟩ ⟨λ_=>⟨_,rfl⟩,λ_=>⟨_,rfl⟩⟩ ⟨λ_=>⟨_,rfl⟩,λ_=>⟨_,rfl⟩⟩ ⟨λ_=>⟨_,rfl⟩,λ_=>⟨_,rfl⟩⟩ Iff.rfl);have j0:∀O xs,J O=some (.tup xs)->H' O=some (.tup xs):=λO xs e=>B O _ (λz=>by rw[z,b.get 2 rfl]at e;cases e) e
 obtain⟨s,k0⟩:=L.next h0 (hx 1 (by decide)) (hx 3 (by decide)) (by rw[Y]) (by rw[a0]) f0 (.cons (.int _) (.cons (.int _) (e0.same (He j0)))) (Paired.ib lk λ_ _ z=>z.same i0) ⟨pu.qh,pu.ai,pu.nd,pu.ln,pu.zf,pu.nk⟩;exact k _ H' _ s k0 ⟨rfl,by rw[a0],rfl,rfl⟩
def Xd.same(L:Xd T g U H x c S)(s:aa H H'):Xd T g U H' x c S:=⟨L.bx.same s,L.cf,L.tld,L.lks,L.pu⟩
end
def Nx(S q:Sx)(m:Ms)(ds:List QQ):Prop:=q.ms=m/\q.td=S.td++[.tuple (.int S.st::.int 1::ds)]/\q.st=S.st/\q.bg=S.bg
inductive Wu{K:W.Frag}{mg:Str->Option EQ}(T:Tx K mg)(p:De->Prop)(vs:List V)(H:Hp)(Q:VK)(E:XK):Prop|mk(g:Gm)(U:Hp)(x:Nat->FQ)(c:Cn)(S:Sx)(b:Int)(q:FQ)(d:De)(_:vs=[.ref (x 0),.ref (x 3),.ref q])(_:Gd g)(_:Xd T g U H x c S)(_:S.st=(S.td.length:Int)+1)(_:S.td.length<50)(_:S.bg=some b)(_:c.qs[S.ms.pl]?=some (.ref q))(_:U q=some (.tup d.vs))(_:g.ua[S.ms.pl]?=some d)(_:d.ok)(_:p d)(_:(∀U' H' x' S',aa U U'->Xd T g U' H' x' c S'->(∀i,i≠8->x' i=x i)->Nx S S' {(Sd g.fs g.ua.length S.ms d).1 with pl:=S.ms.pl} (Sd g.fs g.ua.length S.ms d).2->¬Tc (Sd g.fs g.ua.length S.ms d).2=HQ->Q .ya H'))(_:(Tc (Sd g.fs g.ua.length S.ms d).2=HQ->(∃o1 o2,d=.stop o1 o2/\oI o1 S.ms.na<oI o2 S.ms.na)->∀ex w H',aa H H'->H' ex=some (Ge ex [("dealing",.int 1),("why",.ref w)])->H' w=some (.tup [.str "own"])->E (.ref T.sf) (some ex) H'))
def qp:De->Prop
 |.look ..=>True
 |_=>False
def eO:De->Prop
 |.put ..=>True
 |.take ..=>True
 |_=>False
def fO:De->Prop
 |.lt ..=>True
 |_=>False
def gO:De->Prop
 |.skip ..=>True
 |.stop ..=>True
 |_=>False
inductive hO(C:FQ)(vs:List V)(H:Hp)(Q:VK)(E:XK):Prop|mk(h hx dl a:FQ)(d:HF)(_:vs=[.ref h,.int 1])(_:H h=some (.ins C hx d.fs))(_:d.dl=.ref dl)(_:H dl=some (.lst [.ref a]))(_:Q (.ref a) H)
inductive iO(C:FQ)(vs:List V)(H:Hp)(Q:VK)(E:XK):Prop|mk(h dx tl:FQ)(d:HF)(rs:List V)(_:vs=[.ref h])(_:H h=some (.ins C dx d.fs))(_:d.tl=.ref tl)(_:H tl=some (.lst rs))(_:∀p,H p=none->Q (.ref p) (upd H p (.lst rs)))
inductive kD(C CD:FQ)(f:DF->V)(vs:List V)(H:Hp)(Q:VK)(E:XK):Prop|mk(h hx dl a ax:FQ)(d:HF)(e:DF)(_:vs=[.ref h,.int 1])(_:H h=some (.ins C hx d.fs))(_:d.dl=.ref dl)(_:H dl=some (.lst [.ref a]))(_:H a=some (.ins CD ax e.fs))(_:Q (f e) H)
inductive jO(C CD:FQ)(cls:Lv->FQ)(vs:List V)(H:Hp)(Q:VK)(E:XK):Prop|mk(h hx dl a ax lv lx:FQ)(d:HF)(e:DF)(l:Lv)(_:vs=[.ref h,.int 1])(_:H h=some (.ins C hx d.fs))(_:d.dl=.ref dl)(_:H dl=some (.lst [.ref a]))(_:H a=some (.ins CD ax e.fs))(_:e.lv=.ref lv)(_:H lv=some (.ins (cls l) lx []))(_:Q (.str (wd l)) H)
inductive kO{K:W.Frag}{mg:Str->Option EQ}(T:Tx K mg)(vs:List V)(H:Hp)(Q:VK)(E:XK):Prop|mk(U:Hp)(x:Nat->FQ)(c:Cn)(S:Sx)(lo hi:Int)(own:Bool)(_:vs=[.ref (x 0),.ref (x 3),.int lo,.int hi,.bl own])(_:U c.ho=some (.ins T.wf c.oj [("taken",.ref (x 1))]))(_:Bx U H x (fL T c x S))(_:(S.hv.getD []).length<=50)(_:∀H' x' wa v,Bx U H' x' (fL T c x' {S with wa:=wa,hv:=some (S.hv.getD []++[v])})->(∀i,i≠8->x' i=x i)->Q .ya H')
inductive lO{K:W.Frag}{mg:Str->Option EQ}(T:Tx K mg)(vs:List V)(H:Hp)(Q:VK)(E:XK):Prop|mk(g:Gm)(U:Hp)(x:Nat->FQ)(c:Cn)(S:Sx)(_:vs=[.ref (x 0),.ref (x 3)])(_:Cf T g U x c)(_:Bx U H x (fL T c x S))(_:S.bg≠none)(_:∀p H',aa H H'->H' p=some (.lst [])->Q (.ref p) H')
--@cc
open Shf
abbrev oO(C:FQ):Sp:=λvs H Q _=>∃(a:FQ)(i:Int)(y:V),vs=[.ref a,.int i,y]/\H a=some (Zd a C none)/\
 ∀q,H q=none->Q .ya (upd (upd (upd H a (Zd a C (some q))) q (Ge q [("dealing",.int i)])) q (Ge q (Jd "why" y [("dealing",.int i)])))
def lD:Option Int->QQ
 |some v=>.int v
 |none=>.none
def pO(o:Option Int):Tn H (ov o) (lD o):=by cases o<;>constructor
def Xu{x:Str}(h:¬x="kept"/\¬x="broken"):¬Tc (.str x::r)=HQ:=by simp[Tc,h.1,h.2]
def qO(T:Tx K mg):Kb P w K mg base (Xe P w) 1 T.Nq.f T.Nq.d ["self","dealing","why"] (oO T.sf):=by
 refine tw T.Nq.F (ml (N:=rf (ic (cm 6 0)))) (λvs H Q E h=>?_) (λb0 A outer s H vs Q E c0 h=>?_)
 ·obtain⟨a,n,v,rfl,_⟩:=h;rfl
 ·obtain⟨a,n,v,rfl,J,k⟩:=h;refine⟨_,(oa (Ub (CH (BH K rfl) T.vL rfl T.GK (ca (pv 0) (va La))))
   (oa (yH K rfl (pv 0) (pv 1) rfl)
   (qa (zH K rfl (pv 0) (pv 2) rfl)))),?_⟩
  show let O:TS:=_;let Y:TS:=ma _ O;ma _ Y _ _ _
  intros;refine⟨_,rfl,a,_,none,[.str _],rfl,by grind,J,T.iC.cls,?_⟩;refine⟨_,rfl,_,rfl,a,_,rfl,J,T.Ux,T.uL,λq a0=>?_⟩;have ne:a≠q:=λz=>by grind
  exact⟨_,rfl,_,rfl,a,T.sf,q,_,Vj a T.sf (some q),rfl,by rw[ka ne,ia],λh z=>Vj.any z,by rw[ia],T.Ux,T.mC,by grind,k q a0⟩
def Wl(T:Tx K mg):T.xf.Ok mg P w base 1 (hO T.ub):=by
 refine Qa T.xf.F λ_ _ _ _ _ h=>?_
 ·obtain⟨h,q,dl,a,d,rfl,J,O,Y,k⟩:=h;refine⟨_,(oa (qb (PW.pt (ym (zb Xi (pv 1) ra (sb _)) (fo (zb Yp (pv 1) (Nb Ue (by rfl) T.Ye Pe (va (Ia K 0))) (sb _)))))
   (qa io)
   Bb)
   (qa (Ha (Pa ye (Ia K 0) (Ta Wk (pv 1) ra))))),?_⟩
  show let a0:TS:=_;ma (lb _ _ _) a0 _ _ _
  intros;refine⟨_,rfl,_,_,rfl,rfl,_,rfl,bb (by grind) (λ_=>?_)⟩;refine⟨_,rfl,_,rfl,h,_,q,_,_,rfl,J,T.Va,T.Bu,rfl,?_⟩;rw[O];refine nx0 _ _ rfl (.inl ⟨_,ja.of Y,rfl⟩) ⟨_,_,rfl,rfl,_,rfl,bb ‹_› (λ_=>?_)⟩;refine⟨_,rfl,h,_,q,_,_,rfl,J,T.Va,T.Bu,rfl,_,rfl,_,_,rfl,rfl,?_⟩;rw[O];exact⟨dl,_,_,_,rfl,rfl,ja.of Y,Ja rfl,k⟩
def yn(T:Tx K mg):Sh P w K mg base 1 T.Jf.f T.Jf.d ["self","deal","parts"] (jD T.ub T.Cb):=by
 refine ot T.Jf.F (ml (N:=rf (ic (cm 55 13)))) (λvs H Q E h=>?_) (λn0 A outer s H vs Q E o0 h=>?_)
 ·obtain⟨h,q,a,a0,t,J,d,e,ps,b0,rfl,_⟩:=h;rfl
 ·obtain⟨h,q,a,a0,t,J,d,e,ps,b0,rfl,c0,g0,h0,i0,d0,j0,O,p0,k⟩:=h;refine⟨_,(qa (Ub (Oj Fg qm mm Bo (Ia K 0) (va (Ta Lz (Hb (ca (Ia K 0) (va (Ia K 1)))) (pv 2)))))),?_⟩;refine⟨_,rfl,h,_,q,_,_,rfl,c0,T.Va,T.Il,rfl,?_⟩;rw[j0];refine⟨.inl ⟨rfl,_,ja.of O⟩,?_⟩;refine⟨_,rfl,h,_,q,_,_,rfl,c0,T.Va,T.kj,rfl,?_⟩;refine⟨_,rfl,a,_,a0,_,_,rfl,g0,T.Ua,T.Gi,rfl,?_⟩;refine⟨Ma,λp d0=>?_⟩;have s1:=aa.upd (o:=HO.tup [d.st,e.n]) d0;have q0:(100000:Nat)<=JQ:=by decide
  refine⟨_,rfl,p,t,_,ps,rfl,rfl,xa.of ia,xa.of (s1 _ _ h0),(by simp),(by simp;lia),λz=>absurd z i0,λ_ r Y=>?_⟩;have e0:=s1.trans (aa.upd (o:=HO.tup ([d.st,e.n]++ps)) Y);have k0:=e0 _ _ O;refine⟨J,b0,.ref r,rfl,rfl,k0,by lia,λH' l0 f0=>?_⟩;have rt:r≠J:=λz=>by rw[z,s1 _ _ O]at Y;cases Y
  exact k r H' (f0 _ _ rt ia) l0 λb o n e=>f0 b o n (e0 _ _ e)
def mD(T:Tx K mg):T.Vo.Ok mg P w base 1 (iO T.ub):=by
 refine Qa T.Vo.F λ_ _ _ _ _ h=>?_
 ·obtain⟨h,q,J,d,O,rfl,Y,a0,b0,k⟩:=h;refine⟨_,(qa (Ha (kg kq (by rfl) T.gk Cj (va (Ia K 0))))),?_⟩;refine⟨_,rfl,h,_,q,_,_,rfl,Y,T.Va,T.Il,rfl,?_⟩;rw[a0];exact nx0 J O rfl (.inl (ja.of b0)) k
def nD(T:Tx K mg):T.Xo.Ok mg P w base 2 (kD T.ub T.Cb DF.ph):=by
 refine Qa T.Xo.F λ_ _ _ _ O h=>?_
 ·obtain⟨h,q,dl,a,Y,d,e,rfl,J,a0,b0,c0,d0⟩:=h;refine⟨_,(qa (Ha (jx K (Ib (pv 0) T.Va T.xf.m (Wl T) O T.xf.b (Ea 1))))),?_⟩;exact⟨_,rfl,h,q,_,rfl,J,rfl,_,rfl,h,q,dl,a,d,rfl,J,a0,b0,a,_,Y,_,_,rfl,c0,T.Ua,T.Bl,rfl,d0⟩
def rO(T:Tx K mg):T.ou.Ok mg P w base 2 (kD T.ub T.Cb DF.w):=by
 refine Qa T.ou.F λ_ _ _ _ O h=>?_
 ·obtain⟨h,q,dl,a,Y,d,e,rfl,J,a0,b0,c0,d0⟩:=h;refine⟨_,(qa (Ha (jx K (Ib (pv 0) T.Va T.xf.m (Wl T) O T.xf.b (Ea 1))))),?_⟩;exact⟨_,rfl,h,q,_,rfl,J,rfl,_,rfl,h,q,dl,a,d,rfl,J,a0,b0,a,_,Y,_,_,rfl,c0,T.Ua,T.Xx,rfl,d0⟩
def sO(T:Tx K mg):T.qu.Ok mg P w base 2 (jO T.ub T.Cb (cO T)):=by
 refine Qa T.qu.F λ_ _ _ _ q h=>?_
 ·obtain⟨h,J,dl,a,Y,lv,a0,d,e,l,rfl,O,b0,c0,d0,e0,f0,g0⟩:=h;refine⟨_,(qa (Ha (Do (jx K (Ib (pv 0) T.Va T.xf.m (Wl T) q T.xf.b (Ea 1))) (BC T) (q.mono (by decide))))),?_⟩;exact⟨_,rfl,h,J,_,rfl,O,rfl,_,rfl,h,J,dl,a,d,rfl,O,b0,c0,a,_,Y,_,_,rfl,d0,T.Ua,T.dk,rfl,lv,l,a0,_,e0,f0,rfl,_,rfl,g0⟩
def pD(T:Tx K mg):T.Zo.Ok mg P w base 5 (kO T):=by
 refine Qa T.Zo.F λH _ _ _ d0 h=>?_
 ·obtain⟨U,x,c,S,lo,hi,J,rfl,Y,bx,O,k⟩:=h;refine⟨_,(oa (Mc (pv 1) (Hb (ca (pv 2) (ca (pv 3) (Ea 4)))) rfl)
   (qa (Ub (Ib (Ia K 0) T.El T.fu.m (SN T) d0 T.fu.b (ca (Ia K 1) (ca (pv 2) (ca (pv 3) (Ea 4)))))))),?_⟩
  show let e0:TS:=_;ma _ e0 _ _ _
  intros;refine⟨_,rfl,_,rfl,_,rfl,Eb,λt f0=>?_⟩;have b0:=bx.same (aa.upd (o:=HO.tup [.int lo,.int hi,.bl J]) f0);refine⟨_,rfl,x 3,_,c.ax,_,rfl,b0.get 3 rfl,T.Ua,T.kC,wb,?_⟩;have q:=(b0.put 3 (.ins T.Cb c.ax (Wd c x {S with wa:=.ref t}).fs) rfl).nc (Sc rfl rfl rfl rfl rfl rfl rfl rfl rfl);rw[show Jd "wanted" (V.ref t) (Wd c x S).fs=(Wd c x {S with wa:=.ref t}).fs from rfl];generalize upd (upd H t (.tup [.int lo,.int hi,.bl J])) (x 3) (.ins T.Cb c.ax (Wd c x {S with wa:=.ref t}).fs)=h0 at q⊢;refine⟨_,rfl,x 0,_,c.hx,_,_,rfl,q.get 0 rfl,T.Va,T.Au,rfl,?_⟩;refine⟨c.ho,c.oj,_,rfl,q.sub _ _ Y,rfl,_,rfl,x 3,_,c.ax,_,_,rfl,q.get 3 rfl,T.Ua,T.Gi,rfl,_,rfl,_,rfl,_,rfl,?_⟩;cases hv:S.hv with
  |none=>
   refine⟨c.ho,c.oj,x 1,none,lo,hi,J,rfl,q.sub _ _ Y,q.get 1 (by show some (HO.dK (Ji x _))=_;unfold Ji;rw[hv]),λl u H' O g0 a0 B=>?_⟩;refine k H' (Iq x l) (.ref t) (.ref u) (((q.but 1 rfl g0 B).add a0 (q.free O) (q.gx O rfl)).nc (Sc rfl rfl rfl rfl rfl rfl rfl rfl ?_)) λi n=>Ba n
   rw[hv];rfl
  |some us=>
   rw[hv]at O;have c0:fL T c x {S with wa:=.ref t} 8=some (.lst us):=by rw[hv];rfl
   refine⟨c.ho,c.oj,x 1,some (x 8,us),lo,hi,J,rfl,q.sub _ _ Y,q.get 1 (by show some (HO.dK (Ji x _))=_;unfold Ji;rw[hv]),q.get 8 c0,by grind,λu H' a0 B=>?_⟩;refine k H' x (.ref t) (.ref u) ((q.but 8 c0 a0 B).nc (Sc rfl ?_ rfl rfl rfl rfl rfl rfl ?_)) λ_ _=>rfl
   ·show some (HO.dK [(Sum.inl 1,.ref (x 8))])=some (HO.dK (Ji x _));unfold Ji;rw[hv]
   ·rw[hv];rfl
def tO(T:Tx K mg):T.tu.Ok mg P w base 2 (lO T):=by
 refine Qa T.tu.F λ_ _ _ _ O h=>?_
 ·obtain⟨g,U,x,c,S,rfl,J,bx,i0,k⟩:=h;refine⟨_,(oa (qb (bh (rc (Do (Ia K 1) (EC T) (O.mono (by decide)))))
   (qa (Ha (Zb jf)))
   Bb)
   (qa (Ha (Vd ["other"] ["deal"] [1] (Yb (Ia K 0)) (Ac 0) (gh (PW.pt (ni (rc (Pg (pv 0) T.Ua T.Xt.m (MN T) O T.Xt.b)) (mi (zb Fm (Ia K 0) (Ia K 1) (sb _)))))) (pv 0))))),?_⟩
  show let b0:TS:=_;ma (lb _ _ _) b0 _ _ _
  intros;have Y:=bx.get 3 rfl;refine⟨_,rfl,x 3,_,c.ax,_,_,rfl,Y,T.Ua,T.dk,rfl,c.lv,g.l,c.lx,_,rfl,bx.sub _ _ J.lev,rfl,_,rfl,_,rfl,bb (λ_=>?_) (λ_=>?_)⟩
  ·exact⟨(by decide),λp c0=>k p _ (aa.upd c0) ia⟩
  ·refine⟨_,rfl,x 0,_,c.hx,_,_,rfl,bx.get 0 rfl,T.Va,T.Bu,rfl,c.dl,rfl,⟨_,ja.of (bx.sub _ _ J.dls)⟩,sg (fs:=[some (.ref (x 3))]) (λ_ _(_:Unit)=>True) (λ_ v(_:Unit)=>v=.ref (x 3)) [()] (λ_=>none) (by grind) (by grind) rfl (bx.sub _ _ J.dls) (.cons rfl .nil) (by decide) ?_ λD d0 ys j0 s1 e0 f0=>by cases f0;exact k D d0 s1 e0⟩;rintro _ _ k0 l0 v R g0 h0 rfl _ a0;obtain⟨n0,rfl⟩:=Be.mp h0;have q:=g0 _ _ Y;refine⟨_,rfl,x 3,c.ax,_,rfl,q,rfl,x 3,c.ax,_,_,rfl,q,rfl,_,rfl,bb (λ_=>?_) (λ_=>?_)⟩
   ·refine⟨_,rfl,x 3,_,c.ax,_,_,rfl,q,T.Ua,T.Gi,rfl,_,rfl,x 3,_,c.ax,_,_,rfl,q,T.Ua,T.Gi,rfl,rfl,_,rfl,?_⟩;show if(!decide (V.int 1=V.int 1))=HQ then _ else _
    exact a0 rfl [_] _ rfl (aa.refl _)
   ·exact a0 rfl [_] _ rfl (aa.refl _)
def uO(T:Tx K mg):T.vu.Ok mg P w base 4 (Wu T fO):=by
 refine Qa T.vu.F λ{_ _ _ s}_ _ _ E b0 h=>?_
 ·obtain⟨g,U,x,c,S,b,a0,d,rfl,G,L,p0,q0,r0,s0,c0,t0,ok,h0,i0,u0⟩:=h;have d0:=yc b0;refine⟨_,(oa (We d0 (Ia K 1) (Pa Ab (pv 2) ra) (fb T.yx (ZL T) b0 (ca (pv 2) (va (Ia K 1)))) rfl)
   (qa (Ub (Ib (pv 0) T.Va T.Jf.m (yn T).ok b0 T.Jf.b (ca (pv 1) (va (Hb (ca La (ca (Pa Ab (pv 2) ra) (va (jc d0 (Ia K 1) (Pa Ab (pv 2) ra)))))))))))),?_⟩
  show let j0:TS:=_;ma _ j0 _ _ _
  intros;obtain⟨O,q,z,J,rfl⟩:∃O q z J,d=.lt O q z J:=by cases d<;>first|exact h0.elim|grind
  have bx:=L.bx;have e0:=bx.get 3 rfl;have f0:=bx.sub _ _ c0;have v0:(60:Nat)<=JQ:=by decide
  have ln:=L.pu.ln;refine⟨_,rfl,_,rfl,x 3,_,c.ax,_,_,rfl,e0,T.Ua,T.Hi,rfl,a0,x 4,S.ms.na,"let",O,kV q,z,kV J,rfl,f0,ke _,ke _,bx.get 4 rfl,L.pu.ai,?_⟩;refine⟨_,rfl,x 3,_,c.ax,_,_,rfl,e0,T.Ua,T.Hi,rfl,_,rfl,a0,_,_,_,rfl,rfl,xa.of f0,Ja rfl,x 4,_,rfl,ue.k (k:=Sum.inr O) (bx.get 4 rfl) (by lia),?_⟩;have Y:Bx U _ x (fL T c x {S with ms:={S.ms with na:=nb S.ms.na (Sum.inr O) (.int (if z="+"then oI q S.ms.na+oI J S.ms.na else oI q S.ms.na-oI J S.ms.na))}}):=(bx.put 4 _ rfl).nc (Sc rfl rfl rfl rfl rfl rfl rfl rfl rfl);refine⟨_,rfl,x 0,c.hx,_,rfl,Y.get 0 rfl,rfl,_,rfl,_,rfl,a0,_,_,_,rfl,rfl,xa.of (Y.sub _ _ c0),Ja rfl,_,rfl,x 3,_,c.ax,_,_,rfl,Y.get 3 rfl,T.Ua,T.Hi,rfl,_,rfl,a0,_,_,_,rfl,rfl,xa.of (Y.sub _ _ c0),Ja (j:=1) rfl,x 4,_,rfl,vc (Y.get 4 rfl) ((bG _ _ _ _).trans (Ca rfl)),Eb,λt k0=>?_⟩;have g0:=Y.same (aa.upd (o:=HO.tup [.str "let",.str O,.int (if z="+"then oI q S.ms.na+oI J S.ms.na else oI q S.ms.na-oI J S.ms.na)]) k0);have pl:=kr S.ms.na (Sum.inr O) (.int (if z="+"then oI q S.ms.na+oI J S.ms.na else oI q S.ms.na-oI J S.ms.na));refine L.tell (E:=E0) g0 (λ_ _=>rfl) rfl rfl ia (by simp) Xb (.cons (.str _) (.cons (.str _) (.cons (.int _) .nil))) (Paired.ib L.lks λ_ _ y=>y.same g0.grow.1) (L.pu.more rfl rfl rfl (L.pu.ai.put _ _) L.pu.nd rfl ?_) λl0 H' n0 s o0 e=>i0 l0 H' x n0 s o0 (λ_ _=>rfl) e (Xu (by decide+kernel))
  grind
def vO(T:Tx K mg):T.uu.Ok mg P w base 6 (Wu T eO):=by
 refine Qa T.uu.F λ{_ _ _ s}H _ Q E J h=>?_
 ·obtain⟨g,U,x,c,S,b,O,d,rfl,G,L,G0,t0,i0,H0,u0,I0,ok,v0,w0,J0⟩:=h;have K0:=yc J;refine⟨_,(oa (Ya 3 (fb T.gj (Rl T) J (ca (Pa Ab (pv 2) ra) (va (Ia K 1)))))
   (oa (Ya 4 (zm (zb Od (Pa Ab (pv 2) ra) La (sb _)) (fb T.gj (Rl T) J (ca (Pa Ab (pv 2) ra) (va (Ia K 1)))) Hd))
   (oa (Ya 5 (Ib (Ia K 0) T.Ke T.So.m (RC T) J T.So.b (Ea 3)))
   (oa (qb (rc (Ow (Ia K 1) (iM T) (J.mono (by decide)) (ca (Ia K 1) (va (Pa Ab (pv 5) ra)))))
   (qa io)
   Bb)
   (oa (Ub (Ib (pv 0) T.Va T.Zo.m (pD T) J T.Zo.b (ca (pv 1) (ca (pv 3) (ca (pv 3) (va we))))))
   (oa (Ub (Ib (pv 1) T.Ua T.au.m (FN T) J T.au.b (ca (pv 3) (ca (pv 4) (va (Ia K 0))))))
   (qa (Ub (Ib (pv 0) T.Va T.Jf.m (yn T).ok J T.Jf.b (ca (pv 1) (va (Hb (ca La (ca (pv 3) (Ea 4))))))))))))))),?_⟩
  show let j0:TS:=_;let k0:TS:=ma _ j0;let l0:TS:=ma _ k0;let n0:TS:=ma (lb _ _ _) l0;let f0:TS:=ma _ n0;let o0:TS:=ma _ f0;ma _ o0 _ _ _
  intros;obtain⟨q,x0⟩:∃q:Key,(∃e0,d=.put q e0)\/d=.take q:=by
   cases d<;>first|exact v0.elim|exact(by grind)|grind
  have bx:=L.bx;have g0:=bx.get 3 rfl;have a0:=bx.sub _ _ u0;have L0:(60:Nat)<=JQ:=by decide
  obtain⟨M0,N0,O0,Q0,R0,S0,y0⟩:=L.pu.ln;rename_i j0 k0 l0 n0 f0 o0;have rest:∀o:Option Int,Sd g.fs g.ua.length S.ms d=({S.ms with ds:=Yc S.ms.ds (oI q S.ms.na) o,pl:=S.ms.pl+1},[.str "put",.int (oI q S.ms.na),lD o])->f0 {nx:=λ_ H'=>Q .ya H',rt:=Q} [some (.ref (x 0)),some (.ref (x 3)),some (.ref O),some (.int (oI q S.ms.na)),some (ov o),none] H:=λo p0=>by
   have q0:=L.cf.shl.same bx.sub;refine⟨_,rfl,x 0,_,c.hx,_,_,rfl,bx.get 0 rfl,T.Va,T.Hl,rfl,c.sh,c.sx,_,rfl,q0.obj,rfl,_,rfl,c.sh,c.sx,c.sd,c.kvs,m0 g.fs,_,rfl,q0,λt U0 s1 z0=>?_⟩;have b0:=bx.same s1;have A0:(Wf (hk (m0 g.fs) (oI q S.ms.na))).1=0:=by
    rw[hr];cases fk g.fs (oI q S.ms.na)<;>rfl
   have V0:=(L.pu.nk b i0).1;refine⟨_,rfl,x 3,_,c.ax,_,_,rfl,b0.get 3 rfl,T.Ua,T.dk,rfl,c.lv,g.l,c.lx,_,rfl,b0.sub _ _ L.cf.lev,rfl,_,rfl,x 3,_,c.ax,_,_,rfl,b0.get 3 rfl,T.Ua,T.gp,rfl,_,rfl,t,_,_,_,rfl,rfl,z0,Ja (j:=0) rfl,.ref c.lv,b,0,?_,_,rfl,bb (λe=>?_) (λ_=>?_)⟩
   ·show[_,vl S.bg,V.int (Wf (hk (m0 g.fs) (oI q S.ms.na))).1]=_;rw[i0,A0];rfl
   ·exact absurd e (by cases g.l<;>simp[eC]<;>lia)
   refine⟨_,rfl,x 0,c.hx,_,rfl,b0.get 0 rfl,rfl,_,rfl,_,rfl,_,rfl,U,x,c,S,_,_,HQ,rfl,L.cf.kk,b0,by lia,λW0 c0 wa v Y hx=>?_⟩;have h0:=Y.get 3 rfl;have d0:=Y.get 0 rfl;rw[hx 3 (by decide)]at h0;rw[hx 0 (by decide)]at d0;refine⟨_,rfl,x 3,c.ax,_,rfl,h0,rfl,_,rfl,_,rfl,_,rfl,x 0,_,c.hx,_,_,rfl,d0,T.Va,T.kj,rfl,?_⟩;refine⟨x 3,c.ax,c0 5,c0 6,_,_,S.st,ov o,_,_,rfl,h0,rfl,rfl,Y.get 5 rfl,Y.get 6 rfl,Y.ne 5 6 rfl rfl,by show(Ka S.ms.ds).length<1000;unfold Ka;rw[Na];lia,by show S.kw.length<1000;lia,?_⟩;have r0:Bx U _ c0 (fL T c c0 {S with wa:=wa,hv:=some (S.hv.getD []++[v]),ms:={S.ms with ds:=Yc S.ms.ds (oI q S.ms.na) o},kw:=nb S.kw (Sum.inl (oI q S.ms.na)) (.int S.st)}):=((Y.put 5 (.dK (nb (Ka S.ms.ds) (Sum.inl (oI q S.ms.na)) (ov o))) rfl).put 6 (.dK (nb S.kw (Sum.inl (oI q S.ms.na)) (.int S.st))) rfl).nc (Sc rfl rfl rfl rfl rfl (by show some (HO.dK (Ka (Yc _ _ _)))=some (HO.dK (nb _ _ _));rw[vn]) rfl rfl rfl);have d0:=r0.get 0 rfl;rw[hx 0 (by decide)]at d0;refine⟨_,rfl,x 0,c.hx,_,rfl,d0,rfl,_,rfl,_,rfl,_,rfl,Eb,λX0 B0=>?_⟩;have s0:=r0.same (aa.upd (o:=HO.tup [.str "put",.int (oI q S.ms.na),ov o]) B0);have pl:=kr S.kw (Sum.inl (oI q S.ms.na)) (.int S.st);have Y0:=gr S.ms.ds (oI q S.ms.na) o;have fin:=L.tell (Q:=Q) (E:=E0) s0 hx rfl rfl ia (by simp) Xb (.cons (.str _) (.cons (.int _) (.cons (pO o) .nil))) (Paired.ib L.lks λ_ _ y=>y.same s0.grow.1) (L.pu.more rfl rfl rfl L.pu.ai (jp _ _ L.pu.nd) rfl ⟨by show(Yc _ _ _).length<=_;lia,by show(nb _ _ _).length<=_;lia,by show S.lv.length<=_;lia,by show S.ms.na.length<=_;lia,by show(S.hv.getD []++[v]).length<=_;simp;lia,t0,y0⟩) λC0 H' D0 s F0 e=>w0 C0 H' c0 D0 s F0 hx (by rw[p0];exact e) (by rw[p0];exact Xu (by decide+kernel))
   rw[hx 0 (by decide),hx 3 (by decide)]at fin;exact fin
  rcases x0 with⟨e0,rfl⟩|rfl
  ·refine⟨_,rfl,O,_,_,_,rfl,rfl,xa.of a0,Ja (j:=1) rfl,_,rfl,x 3,_,c.ax,_,_,rfl,g0,T.Ua,T.Hi,rfl,kV q,x 4,S.ms.na,rfl,ke _,bx.get 4 rfl,L.pu.ai,?_⟩;refine⟨_,rfl,O,_,_,_,rfl,rfl,xa.of a0,Ja (j:=0) rfl,rfl,_,rfl,Nh rfl ?_⟩;refine⟨_,rfl,O,_,_,_,rfl,rfl,xa.of a0,Ja (j:=2) rfl,_,rfl,x 3,_,c.ax,_,_,rfl,g0,T.Ua,T.Hi,rfl,kV e0,x 4,S.ms.na,rfl,ke _,bx.get 4 rfl,L.pu.ai,?_⟩;exact rest (some (oI e0 S.ms.na)) rfl
  ·refine⟨_,rfl,O,_,_,_,rfl,rfl,xa.of a0,Ja (j:=1) rfl,_,rfl,x 3,_,c.ax,_,_,rfl,g0,T.Ua,T.Hi,rfl,kV q,x 4,S.ms.na,rfl,ke _,bx.get 4 rfl,L.pu.ai,?_⟩;refine⟨_,rfl,O,_,_,_,rfl,rfl,xa.of a0,Ja (j:=0) rfl,rfl,_,rfl,vf (λe=>absurd (V.str.inj e) (by decide+kernel)) ?_⟩;exact rest none rfl
inductive wO(vs:List V)(H:Hp)(Q:VK)(E:XK):Prop|mk(r d:FQ)(ws:List V)(rs ds:Dr)(lo hi:Int)(U:List Int)(_:vs=[.ref r,.ref d,.int lo,.int hi])(_:H r=some (.lst ws))(_:Bc H ws rs)(_:(rs.map (·.1)).Nodup)(_:H d=some (.dK (Ka ds)))(_:(ds.map (·.1)).Nodup)(_:U.length<=60)(_:(∀x∈rs.map (·.1),x∈U))(_:(∀x∈ds.map (·.1),x∈U))(_:∀p jr L H',H p=none->aa H H'->H' p=some (.lst jr)->Bc H' jr L->ik rs ds lo hi L->Q (.ref p) H')
def je(T:Tx K mg):T.Mq.Ok P w base 2 wO:=
 My.Kb.ak (Shf.je T) (by rintro vs H Q E⟨r,d,J,O,ds,lo,hi,U,e,Y,a0,b0,q,c0,d0,e0,f0,k⟩;exact⟨r,d,J,O,ds,lo,hi,U,e,Y,a0,b0,.inl q,c0,d0,e0,f0,λp g0 L H' h0 i0 j0 k0 l0 n0=>k p g0 L _ h0 (cC i0 q j0) (fj k0 (by grind)) (l0.keep λ_ _ z=>fj z (by grind)) n0⟩)
def xO(T:Tx K mg):T.su.Ok mg P w base 6 (Wu T qp):=by
 refine Qa T.su.F λ{_ _ _ s}_ _ Q E b0 h=>?_
 ·obtain⟨g,U,x,c,S,b,l0,d,rfl,G,L,a2,b2,Q0,c2,A0,d2,ok,u1,v1,e2⟩:=h;have w1:=yc b0;refine⟨_,(oa (Ya 3 (fb T.wx (aM T) b0 (ca (pv 2) (va (Ia K 1)))))
   (oa (Ya 4 (Pa Ab (pv 3) ra))
   (oa (Ya 5 (Pa Ab (pv 3) ra))
   (oa (qb (rc (Do (Ia K 1) (lM T) (b0.mono (by decide))))
   (qa (Ub (Ib (pv 0) T.Va T.Zo.m (pD T) b0 T.Zo.b (ca (pv 1) (ca (pv 4) (ca (pv 5) (va we)))))))
   Bb)
   (oa (Ya 6 (Ow (Ia K 1) (hM T) (b0.mono (by decide)) (ca (Ia K 1) (va (Ia K 0)))))
   (oa (Ya 7 (Ib (pv 0) T.Va T.tu.m (tO T) b0 T.tu.b (Ea 1)))
   (oa (Ya 8 (Ib (Ia K 0) T.Ke T.gu.m (eN T) b0 T.gu.b (ca (pv 4) (ca (pv 5) (Ea 6)))))
   (oa (re me rfl (Yb (pv 7)) (Kd 9)
   (qa (Ya 8 (fb T.Mq (je T) b0 (ca (pv 8) (ca (Ia K 9) (ca (pv 4) (Ea 5))))))))
   (oa (Ya 8 (fb T.Mq (je T) b0 (ca (pv 8) (ca (Ia K 1) (ca (pv 4) (Ea 5))))))
   (oa (Ub (Ib (pv 1) T.Ua T.bu.m (NN T) b0 T.bu.b (ca (pv 6) (ca (pv 4) (ca (pv 5) (va (fb T.Gx (YN T) b0 (ca (pv 7) (ca (pv 4) (Ea 5))))))))))
   (oa (We w1 (Ia K 1) (Pa Ab (pv 2) ra) (fb T.xx (LN T) b0 (ca (pv 2) (Ea 8))) rfl)
   (qa (Ub (Ib (pv 0) T.Va T.Jf.m (yn T).ok b0 T.Jf.b (ca (pv 1) (va (Hb (ca La (ca (pv 4) (ca (pv 5) (va (kg ss (by rfl) T.Ql Jk (Ea 8))))))))))))))))))))))),?_⟩
  show let R0:TS:=_;let S0:TS:=ma _ R0;let U0:TS:=ma _ S0;let V0:TS:=ma _ U0;let W0:TS:=ma (qe _ _ _) V0;let X0:TS:=ma _ W0;let Y0:TS:=ma _ X0;let B0:TS:=ma _ Y0;let Z0:TS:=ma (lb _ _ _) B0;let a1:TS:=ma _ Z0;let b1:TS:=ma _ a1;ma _ b1 _ _ _
  intros;obtain⟨Y,c0,q,J,rfl⟩:∃Y c0 q J,d=.look Y c0 q J:=by cases d<;>first|exact u1.elim|grind
  have bx:=L.bx;have x1:=bx.get 3 rfl;have y1:=bx.sub _ _ A0;have f2:(60:Nat)<=JQ:=by decide
  obtain⟨g2,h2,i2,j2,k2,l2,m2⟩:=L.pu.ln;have lk:=De.jk ok;obtain⟨n2,z1⟩:∃r,(De.look Y c0 q J).vs=.str Y::.str c0::r:=⟨if Y="read"then[kV q]else[kV q,kV J],by show(if Y="read"then _ else _)=_;split<;>rfl⟩;rename_i R0 S0 U0 V0 W0 X0 Y0 B0 Z0 a1 b1;have rest:∀n0 O wa hv p,Bx U n0 O (fL T c O {S with wa:=wa,hv:=hv})->(∀i,i≠8->O i=x i)->(hv.getD []).length<=S.td.length+1->B0 {nx:=λ_ H'=>Q .ya H',rt:=Q} [some (.ref (x 0)),some (.ref (x 3)),some (.ref l0),some (.ref p),some (.int (oI q S.ms.na)),some (.int (oI J S.ms.na)),none,none,none,none] n0:=λn0 O wa hv p f0 hx o2=>by
   have a0:=f0.get 3 rfl;have d0:=f0.get 0 rfl;rw[hx 3 (by decide)]at a0;rw[hx 0 (by decide)]at d0;have p2:=L.pu.nk b Q0;have A1:0<=Qg g.l b S.st/\Qg g.l b S.st<=(S.td.length:Int)+1:=by cases g.l<;>(simp only[Qg];lia)
   refine⟨_,rfl,x 3,_,c.ax,_,_,rfl,a0,T.Ua,T.dk,rfl,c.lv,g.l,c.lx,_,rfl,f0.sub _ _ L.cf.lev,rfl,_,rfl,x 3,_,c.ax,_,_,rfl,a0,T.Ua,T.gp,rfl,_,rfl,x 0,_,c.hx,_,_,rfl,d0,T.Va,T.kj,rfl,.ref c.lv,b,S.st,?_,?_⟩
   ·show[_,vl S.bg,V.int S.st]=_;rw[Q0];rfl
   refine⟨_,rfl,x 0,c.hx,_,rfl,d0,rfl,_,rfl,g,U,O,c,_,by grind,L.cf.same (λ_ _ e=>e) (hx 1 (by decide)) (hx 3 (by decide)),f0,(by grind),λt0 q2 C0 D0=>?_⟩;have d1:=f0.same C0;have d0:=C0 _ _ d0;have a0:=C0 _ _ a0;have e1:=L.cf.shl.same d1.sub;have Ad:=G.Ad;refine⟨_,rfl,x 0,_,c.hx,_,_,rfl,d0,T.Va,T.Hl,rfl,c.sh,c.sx,_,rfl,e1.obj,rfl,_,rfl,_,rfl,_,rfl,c.sh,c.sx,c.sd,c.kvs,m0 g.fs,_,_,_,rfl,e1,by unfold m0;rw[Na];lia,λf1 H4 ys r2 j0 B1 C1=>?_⟩;have F0:=d1.same j0;have d0:=j0 _ _ d0;have a0:=j0 _ _ a0;refine⟨_,rfl,t0,rfl,⟨_,ja.of (j0 _ _ D0)⟩,eh (K:=K) (a:=t0) (xs:=[]) (λi u0 v0=>v0=H4/\u0=[some (.ref (x 0)),some (.ref (x 3)),some (.ref l0),some (.ref p),some (.int (oI q S.ms.na)),some (.int (oI J S.ms.na)),some (.int (Qg g.l b S.st)),some (.ref t0),some (.ref f1),none]) ⟨rfl,rfl⟩ (by rintro i u0 v0 _⟨z,_⟩;exact z▸ja.of (j0 _ _ D0)) (λi y u0 v0 D1=>by simp at D1) ?_⟩;rintro u0 v0⟨rfl,rfl⟩;have ks:∀k∈(Ze ((eb ((m0 g.fs).map (·.1))).filter (gb (oI q S.ms.na) (oI J S.ms.na))) λk=>(Cd (hk (m0 g.fs) k) (Qg g.l b S.st)).2.2).map (·.1),k∈g.fs.map (·.1):=λk g0=>by
    rw[<-uy];unfold Ze at g0;rw[ag,show((·.1)∘λk=>(k,(Cd (hk (m0 g.fs) k) (Qg g.l b S.st)).2.2))=(id:Int->Int)from rfl,List.map_id]at g0;exact(mc _).mem_iff.mp (Gh.mp (Gh.mp g0).1).1
   have E1:((Ze ((eb ((m0 g.fs).map (·.1))).filter (gb (oI q S.ms.na) (oI J S.ms.na))) λk=>(Cd (hk (m0 g.fs) k) (Qg g.l b S.st)).2.2).map (·.1)).Nodup:=by
    unfold Ze;rw[ag,show((·.1)∘λk=>(k,(Cd (hk (m0 g.fs) k) (Qg g.l b S.st)).2.2))=(id:Int->Int)from rfl,List.map_id];exact((mc _).nodup_iff.mpr (by rw[uy];exact G.nd)).sublist (Dh.trans Dh)
   refine⟨_,rfl,_,rfl,x 3,_,c.ax,_,_,rfl,a0,T.Ua,T.Dl,rfl,_,rfl,_,rfl,f1,O 5,ys,_,S.ms.ds,_,_,g.fs.map (·.1)++S.ms.ds.map (·.1),rfl,B1,C1,E1,F0.get 5 rfl,L.pu.nd,by grind,λk g0=>List.mem_append_left _ (ks k g0),λk g0=>Dj _ g0,λG0 h0 s2 g1 t2 w0 F1 G1 H1=>?_⟩;have I1:=ZN G.nd L.pu.nd G.qr A1.1 H1;subst I1;have x0:=F0.same w0;have d0:=w0 _ _ d0;have a0:=w0 _ _ a0;refine⟨_,rfl,x 3,c.ax,_,rfl,a0,rfl,_,rfl,_,rfl,_,rfl,_,rfl,_,rfl,_,rfl,t0,_,_,rfl,w0 _ _ (j0 _ _ D0),λo0 h1=>?_⟩;have H0:=aa.upd (o:=HO.dK []) h1;have I0:=x0.same H0;refine⟨x 3,c.ax,O 5,O 7,o0,_,_,_,_,S.ms.ds,S.lv,rfl,H0 _ _ a0,rfl,I0.get 5 rfl,by lia,rfl,I0.get 7 rfl,by lia,λt pt k0 J1 K1 L1 B=>?_⟩;have i1:=(I0.but 7 rfl L1 B).nc (Sc rfl rfl rfl rfl rfl rfl rfl rfl rfl);have e0:=x0.new h1;have M1:k0 o0=some (.dK []):=B _ _ (λz=>e0 7 (by decide) _ rfl z.symm) ia;have j1:∀r u,g1 r=some u->r≠O 7->k0 r=some u:=λr u e n=>B r u n (H0 _ _ e)
   have k1:k0 G0=some (.lst h0):=j1 _ _ F1 λz=>by
    have:=F0.get 7 rfl
    grind
   have N1:∀r us,g1 r=some (.tup us)->k0 r=some (.tup us):=λr us e=>j1 r _ e λz=>by
    have:=x0.get 7 rfl
    grind
   have l1:=G1.keep N1;have O1:=i1.sub _ _ A0;have m1:=sy (lo:=oI q S.ms.na) (hi:=oI J S.ms.na) G.nd L.pu.nd G.qr;have u2:(md g.fs S.ms.ds (oI q S.ms.na) (oI J S.ms.na)).length<=60:=by
    have:=iD (vg g.fs S.ms.ds) (gb (oI q S.ms.na) (oI J S.ms.na));have:=lr S.ms.ds g.fs;unfold md;lia
   refine⟨_,rfl,_,rfl,l0,G0,Y,_,kV q,kV J,h0,_,rfl,O1,lk,k1,l1,λr p0=>((m1.2 r.1 r.2).mp p0).2.2,λn1=>?_,by lia,λq0 y0=>?_⟩
   ·rcases ok with⟨_,e⟩|e|e
    ·subst e;exact aO m1
    ·exact absurd (n1.symm.trans e) (by decide+kernel)
    ·exact absurd (n1.symm.trans e) (by decide+kernel)
   have r0:=i1.same y0;have a0:=r0.get 3 rfl;rw[hx 3 (by decide)]at a0;have o1:=r0.sub _ _ A0;rw[z1]at o1;refine⟨_,rfl,x 3,_,c.ax,_,_,rfl,a0,T.Ua,T.Hi,rfl,_,rfl,l0,_,_,_,rfl,rfl,xa.of o1,Ja (j:=1) rfl,O 4,_,rfl,ue.k (k:=Sum.inr c0) (r0.get 4 rfl) (by show S.ms.na.length<_;lia),?_⟩;have J0:Bx U _ O (fL T c O {S with wa:=wa,hv:=hv,lv:=S.lv++[.ref t],lks:=S.lks++[(Qg g.l b S.st,oI q S.ms.na,oI J S.ms.na,S.ms.ds.map (·.1))],ms:={S.ms with na:=nb S.ms.na (Sum.inr c0) (.int (Kf Y (md g.fs S.ms.ds (oI q S.ms.na) (oI J S.ms.na)))),lk:=S.ms.lk++[(oI q S.ms.na,oI J S.ms.na,S.ms.ds.map (·.1))]}}):=(r0.put 4 (.dK (nb S.ms.na (Sum.inr c0) (.int (Kf Y (md g.fs S.ms.ds (oI q S.ms.na) (oI J S.ms.na)))))) rfl).nc (Sc rfl rfl rfl rfl rfl rfl rfl rfl rfl);have p1:Za (O 4) q0 (upd q0 (O 4) (.dK (nb S.ms.na (Sum.inr c0) (.int (Kf Y (md g.fs S.ms.ds (oI q S.ms.na) (oI J S.ms.na))))))):=Za.upd;have P1:=r0.get 4 rfl;have K0:∀r u,k0 r=some u->(∀Q1,u≠.dK Q1)->upd q0 (O 4) (.dK (nb S.ms.na (Sum.inr c0) (.int (Kf Y (md g.fs S.ms.ds (oI q S.ms.na) (oI J S.ms.na)))))) r=some u:=λr u e n=>p1 r u (λz=>by rw[<-z,y0 _ _ e]at P1;grind) (y0 _ _ e)
   have q1:upd q0 (O 4) (.dK (nb S.ms.na (Sum.inr c0) (.int (Kf Y (md g.fs S.ms.ds (oI q S.ms.na) (oI J S.ms.na)))))) o0=some (.dK []):=p1 _ _ (λz=>e0 4 (by decide) _ rfl z.symm) (y0 _ _ M1);generalize upd q0 (O 4) (.dK (nb S.ms.na (Sum.inr c0) (.int (Kf Y (md g.fs S.ms.ds (oI q S.ms.na) (oI J S.ms.na))))))=r1 at J0 K0 q1⊢;have d0:=J0.get 0 rfl;rw[hx 0 (by decide)]at d0;refine⟨_,rfl,x 0,c.hx,_,rfl,d0,rfl,_,rfl,_,rfl,_,rfl,_,rfl,G0,h0,rfl,.inl ⟨ja.of (K0 _ _ k1 λ_ z=>HO.noConfusion z),λi0 R1=>⟨Qe,λL0 M0=>?_⟩⟩⟩;have N0:=(aa.upd (o:=HO.tup h0) R1).trans (aa.upd (o:=HO.tup [.str "look",.int (oI q S.ms.na),.int (oI J S.ms.na),.ref i0]) M0);have z0:=J0.same N0;have S1:i0≠L0:=λz=>by rw[<-z,ia]at M0;cases M0
   have T1:upd (upd r1 i0 (.tup h0)) L0 (.tup [.str "look",.int (oI q S.ms.na),.int (oI J S.ms.na),.ref i0]) i0=some (.tup h0):=by rw[ka S1,ia]
   have O0:∀r us,k0 r=some (.tup us)->upd (upd r1 i0 (.tup h0)) L0 (.tup [.str "look",.int (oI q S.ms.na),.int (oI J S.ms.na),.ref i0]) r=some (.tup us):=λr us e=>N0 _ _ (K0 r _ e λ_ z=>HO.noConfusion z)
   have U1:=pp (l1.keep O0);have pl:=kr S.ms.na (Sum.inr c0) (.int (Kf Y (md g.fs S.ms.ds (oI q S.ms.na) (oI J S.ms.na))));have fin:=L.tell (Q:=Q) (E:=E0) z0 hx rfl rfl ia (by simp) Gc (.cons (.str _) (.cons (.int _) (.cons (.int _) (.cons (.tup (Tf T1) U1) .nil))))
    (Hq (Paired.ib L.lks λ_ _ y=>y.same z0.grow.1) ⟨t,pt,o0,rfl,Vu z0 (O0 _ _ J1),Vu z0 (O0 _ _ K1),nl (N0 _ _ q1) λi hi u e z=>?_,λz=>by have:=x0.sub _ _ L.cf.shl.dict;grind⟩) ⟨?_,L.pu.ai.put _ _,L.pu.nd,?_,⟨λr p0=>?_,λt1=>?_⟩,λv2 e=>?_⟩ λV1 H' W1 s X1 e=>v1 V1 H' O W1 s X1 hx e (Xu (by decide+kernel))
   ·rw[hx 0 (by decide),hx 3 (by decide)]at fin;exact fin
   ·exact Sc (P:=λi=>∀u,fL T c O {S with wa:=wa,hv:=hv,lv:=S.lv++[.ref t],lks:=S.lks++[(Qg g.l b S.st,oI q S.ms.na,oI J S.ms.na,S.ms.ds.map (·.1))],ms:={S.ms with na:=nb S.ms.na (Sum.inr c0) (.int (Kf Y (md g.fs S.ms.ds (oI q S.ms.na) (oI J S.ms.na)))),lk:=S.ms.lk++[(oI q S.ms.na,oI J S.ms.na,S.ms.ds.map (·.1))]}} i=some u->O i≠o0) (λ_ _=>e0 0 (by decide) _ rfl) (λ_ _=>e0 1 (by decide) _ rfl) (λ_ _=>e0 2 (by decide) _ rfl) (λ_ _=>e0 3 (by decide) _ rfl) (λ_ _=>e0 4 (by decide) _ rfl) (λ_ _=>e0 5 (by decide) _ rfl) (λ_ _=>e0 6 (by decide) _ rfl) (λ_ _=>e0 7 (by decide) _ rfl) (λu e=>e0 8 (by decide) u e) i hi u e z
   ·show S.ms.lk++_=(S.lks++_).map _;rw[Dg,<-L.pu.qh];rfl
   ·have w2:(S.td++[PyData.tuple (.int S.st::.int 1::[.str "look",.int (oI q S.ms.na),.int (oI J S.ms.na),.tuple ((md g.fs S.ms.ds (oI q S.ms.na) (oI J S.ms.na)).map Sg)])]).length=S.td.length+1:=by simp
    grind
   ·show 0<=r.1/\r.1<=((S.td++[_]).length:Int);rw[gi];rcases Ah.mp p0 with y|y
    ·have:=L.pu.zf.1 r y;simp;lia
    ·rw[yg.mp y];simp;lia
   ·show((S.lks++[(Qg g.l b S.st,oI q S.ms.na,oI J S.ms.na,S.ms.ds.map (·.1))]).map (·.1)).Pairwise _;rw[Dg,List.pairwise_append];refine⟨L.pu.zf.2 t1,by simp,λa Y1 x2 y2=>?_⟩;obtain⟨r,p0,rfl⟩:=Fd.mp Y1;have:=(L.pu.zf.1 r p0).2;have z2:Qg g.l b S.st=S.st:=by
     revert t1;cases g.l<;>simp[yt,Qg]
    grind
   grind
  refine⟨_,rfl,_,rfl,x 3,_,c.ax,_,_,rfl,x1,T.Ua,T.Hi,rfl,l0,x 4,S.ms.na,Y,_,kV q,kV J,rfl,y1,lk,ke _,ke _,bx.get 4 rfl,L.pu.ai,λp Z1=>?_⟩;have s1:=aa.upd (o:=HO.tup [.int (oI q S.ms.na),.int (oI J S.ms.na)]) Z1;have s0:=bx.same s1;refine⟨_,rfl,p,_,_,_,rfl,rfl,xa.of ia,Ja (j:=0) rfl,?_⟩;refine⟨_,rfl,p,_,_,_,rfl,rfl,xa.of ia,Ja (j:=1) rfl,?_⟩;refine⟨_,rfl,x 3,_,c.ax,_,_,rfl,s0.get 3 rfl,T.Ua,T.dk,rfl,c.lv,g.l,c.lx,_,rfl,s0.sub _ _ L.cf.lev,rfl,_,rfl,_,rfl,bb (λ_=>?_) (λ_=>?_)⟩
  ·refine⟨_,rfl,x 0,c.hx,_,rfl,s0.get 0 rfl,rfl,_,rfl,_,rfl,_,rfl,U,x,c,S,_,_,IQ,rfl,L.cf.kk,s0,by lia,λn0 O wa v f0 hx=>?_⟩;exact rest n0 O wa _ p f0 hx (by show(S.hv.getD []++[v]).length<=_;simp;lia)
  ·exact rest _ x S.wa S.hv p s0 (λ_ _=>rfl) (by lia)
def yO(T:Tx K mg):Kb P w K mg base (Xe P w) 6 T.Rq.f T.Rq.d ["self","deal","deed"] (Wu T gO):=by
 refine tw T.Rq.F (ml (N:=rf (ic (cm 55 20)))) (λvs H Q E h=>?_) (λF0 A outer s H vs Q E d0 h=>?_)
 ·obtain⟨g,U,x,c,S,b,a0,d,rfl,_⟩:=h;rfl
 ·obtain⟨g,U,x,c,S,b,a0,d,rfl,G,L,G0,H0,I0,q0,r0,s0,ok,t0,u0,v0⟩:=h;refine⟨_,(oa (qb (PW.pt (ni (zb Od (Pa Ab (pv 2) ra) La (sb _)) (mi (rc (fb T.zt (AC T) d0 (ca (pv 2) (va (Ia K 1))))))))
   (qa (IH T.iC ((qO T).mono (by decide)) d0 rfl T.HK T.Nq.b (ca (Ia K 1) (va (Hb (va La))))))
   Bb)
   (qa (Ub (Ib (pv 0) T.Va T.Jf.m (yn T).ok d0 T.Jf.b (ca (pv 1) (va (Hb (ca La (va (Pg (pv 1) T.Ua T.Qo.m (aD T) d0 T.Qo.b)))))))))),?_⟩
  show let i0:TS:=_;ma (lb _ _ _) i0 _ _ _
  intros;have bx:=L.bx;have e0:=bx.get 3 rfl;have c0:=bx.sub _ _ r0;obtain⟨J0,K0,L0,M0,N0,O0,Q0⟩:=L.pu.ln;have k0:=pf L.cf.nr;have R0:=(ee.mp s0).1;rename_i i0;have rest:∀(f0:Str)(r:List V)(more:Int)(p:Nat),d.vs=.str f0::r->br f0 r S.ms.na more->Sd g.fs g.ua.length S.ms d=({S.ms with pl:=p},[.str "go",.int (p:Int)])->(if(c.qs.length:Int)<(S.ms.pl:Int)+1+more then(c.qs.length:Int)else(S.ms.pl:Int)+1+more)=(p:Int)->i0 {nx:=λ_ H'=>Q .ya H',rt:=Q} [some (.ref (x 0)),some (.ref (x 3)),some (.ref a0)] H:=λf0 r more p w0 x0 q ep=>by
   rw[w0]at c0;refine⟨_,rfl,x 0,c.hx,_,rfl,bx.get 0 rfl,rfl,_,rfl,_,rfl,x 3,c.ax,_,rfl,e0,rfl,x 3,c.ax,c.de,x 4,a0,_,S.ms.pl,c.qs,r,S.ms.na,f0,more,rfl,e0,rfl,rfl,bx.sub _ _ L.cf.Wh,q0,c0,x0,rfl,bx.get 4 rfl,L.pu.ai,Ma,λt y0=>?_⟩;rw[ep];have l0:=bx.same (aa.upd (o:=HO.tup [.str "go",.int (p:Int)]) y0);exact L.tell (E:=λ_ _ _=>False) l0 (λ_ _=>rfl) rfl rfl ia (by simp) Fc (.cons (.str _) (.cons (.int _) .nil)) (Paired.ib L.lks λ_ _ y=>y.same l0.grow.1) (L.pu.more rfl rfl rfl L.pu.ai L.pu.nd rfl (by grind)) λz0 H' A0 s B0 e=>u0 z0 H' x A0 s B0 (λ_ _=>rfl) (by rw[q];exact e) (by rw[q];exact Xu (by decide+kernel))
  obtain⟨J,O,C0⟩:∃J O:Key,(∃n,d=.skip J O n)\/d=.stop J O:=by
   cases d<;>first|exact t0.elim|exact(by grind)|grind
  rcases C0 with⟨n,rfl⟩|rfl
  ·refine⟨_,rfl,a0,_,_,_,rfl,rfl,xa.of c0,Ja (j:=0) rfl,rfl,_,rfl,vf (λe=>absurd (V.str.inj e) (by decide+kernel)) (zc ?_)⟩;have j0:1<=n:=ok;refine rest "skip" [kV J,kV O,.int n] (if oI J S.ms.na<oI O S.ms.na then n else 0) _ rfl (.inr (nx8 _ _ n rfl rfl (ke _) (ke _) rfl)) rfl ?_;rw[k0];split<;>split<;>lia
  ·refine⟨_,rfl,a0,_,_,_,rfl,rfl,xa.of c0,Ja (j:=0) rfl,rfl,_,rfl,Nh rfl ?_⟩;refine⟨_,rfl,_,rfl,x 3,_,c.ax,_,_,rfl,e0,T.Ua,T.Hi,rfl,a0,x 4,S.ms.na,"stop",kV J,kV O,[],rfl,c0,ke _,ke _,bx.get 4 rfl,L.pu.ai,_,rfl,bb (λe=>?_) (λe=>?_)⟩
   ·have lt:oI J S.ms.na<oI O S.ms.na:=Ed e;refine⟨_,rfl,x 3,_,c.ax,_,_,rfl,e0,T.Ua,T.Gi,rfl,(by decide),λg0 n0=>⟨Wg,λq h0=>nx9 q 1 (.ref g0) rfl ia λb0 Y=>⟨rfl,some b0,?_,?_⟩⟩⟩
    ·have ne:q≠b0:=λz=>by rw[<-z,ia]at Y;cases Y
     rw[ka ne,ka ne,ia]
    ·have s1:=(aa.upd n0).trans (aa.upd (o:=Zd q T.sf none) h0);have nw:g0≠q:=λz=>by rw[<-z,ia]at h0;cases h0
     have nd:b0≠q:=λz=>by rw[z,ia]at Y;cases Y
     have o0:g0≠b0:=λz=>by rw[<-z,ka nw,ia]at Y;cases Y
     have S0:H q=none:=(aa.upd n0).free h0;refine v0 (by show Tc (if _ then _ else _)=HQ;rw[Ca lt];decide+kernel) ⟨J,O,rfl,lt⟩ b0 g0 _ (λr u e=>?_) ?_ ?_
     ·have j0:r≠q:=λz=>by grind
      have p0:r≠b0:=λz=>by rw[<-z,s1 _ _ e]at Y;cases Y
      rw[Rc j0,ka p0,ka p0,ka j0];exact s1 _ _ e
     ·rw[Rc nd,ia];rfl
     ·rw[Rc nw,ka o0,ka o0,ka nw,ka nw,ia]
   ·have D0:¬oI J S.ms.na<oI O S.ms.na:=λy=>e (Ec y)
    refine rest "stop" [kV J,kV O] 0 (S.ms.pl+1) rfl (.inl ⟨by decide+kernel,rfl⟩) (by show(_,if _ then _ else _)=_;rw[Ba D0]) ?_;rw[k0,Ba (by lia)];lia
--@cc
open Shf
structure Ek where
 kp:Bool
 st:Int
 ms:Ms
 lks:List (Int×Int×Int×List Int)
 lv:List V
 tv:List V
 td:List QQ
 sp:FQ
 df:DF
 kvs:List (Key×V)
 e:Int
 b:Int
def fE{K:W.Frag}{mg:Str->Option EQ}(T:Tx K mg)(c:Cn)(x:Nat->FQ)(E:Ek):Nat->Option HO
 |0=>some (.ins T.ub c.hx (Oe c x E.sp E.st).fs)
 |2=>some (.lst E.tv)
 |_=>none
def wg(g:Gm)(E:Ek):List (Int×List Ga):=if E.kp=HQ then ae (m0 g.fs) E.e 1 E.ms.ds else m0 g.fs
structure Xf{K:W.Frag}{mg:Str->Option EQ}(T:Tx K mg)(g:Gm)(U H:Hp)(x:Nat->FQ)(c:Cn)(E:Ek):Prop where
 bx:Bx U H x (fE T c x E)
 tld:Gb (tp U) E.tv E.td
 dls:U c.dl=some (.lst [.ref (x 3)])
 obj:U (x 3)=some (.ins T.Cb c.ax E.df.fs)
 dn:E.df.n=.int 1
 wy:E.df.lv=.ref c.lv
 xy:E.df.lo=.ref (x 7)
 rr:E.df.ph=.str (if E.kp=HQ then"kept"else"broken")
 why:(E.kp=HQ/\E.df.w=.ya)\/(E.kp=IQ/\∃w,E.df.w=.ref w/\U w=some (.tup [.str "own"]))
 lev:U c.lv=some (.ins (cO T g.l) c.lx [])
 shl:Hs K T.Jc U c.sh c.sx c.sd E.kvs (wg g E)
 sps:(E.kp=HQ/\∃s sx la pa,U E.sp=some (.lst [.ref s])/\U s=some (.ins T.Ie sx (Vl 1 (Jo g.l) E.b E.e la pa))/\U pa=some (.lst ((eb (E.ms.ds.map (·.1))).map V.int)))\/(E.kp=IQ/\U E.sp=some (.lst []))
 lok:U (x 7)=some (.lst E.lv)
 lks:Paired (Ki c U) E.lv E.lks
 qh:E.ms.lk=E.lks.map (·.2)
 nd:(E.ms.ds.map (·.1)).Nodup
 ln:E.ms.ds.length<=50/\E.lv.length<=40/\E.td.length<=60
 zf:(∀q∈E.lks,0<=q.1/\q.1<E.e)/\(yt g.l=IQ->(E.lks.map (·.1)).Pairwise (·<=·))
 rp:1<=E.b/\E.b<=E.e/\E.e<=E.st
structure Old(U0 U:Hp)(c:Cn):Prop where
 sub:aa U0 U
 Wb:∀b ps,U0 b≠some (.Wb ps)
 sd:U0 c.sd=none
 kv:∀l,V.ref l∈c.kvs.map (·.2)->U0 l=none
def vp(H:Hp):Hp:=λb=>match H b with
 |some (.Wb _)=>none
 |o=>o
def qD(e:H b=some o)(n:∀ps,o≠.Wb ps):vp H b=some o:=by
 unfold vp;rw[e];cases o<;>first|rfl|grind
def yy(e:vp H b=some o):H b=some o/\∀ps,o≠.Wb ps:=by
 unfold vp at e;split at e
 ·cases e
 ·next h=>exact⟨e,λps z=>h ps (z▸e)⟩
section
variable{K:W.Frag}{mg:Str->Option EQ}{T:Tx K mg}{g:Gm}{U U' H H':Hp}{x x':Nat->FQ}{c:Cn}{S S':Sx}{E:Ek}
def Old.same(h:Old q U c)(s:aa U U'):Old q U' c:=⟨h.sub.trans s,h.Wb,h.sd,h.kv⟩
def Xf.same(h:Xf T g U H x c E)(s:aa H H'):Xf T g U H' x c E:={h with bx:=h.bx.same s}
def zO(i:Nat)(h:i<9)(o:HO)(e:fL T c x S i=some o)(ps):o≠.Wb ps:=λz=>by
 subst z;revert h e;refineλh=>Sc (P:=λi=>fL T c x S i≠some (.Wb ps)) ?_ ?_ ?_ ?_ ?_ ?_ ?_ ?_ ?_ i h<;>intro z<;>first|cases z|(obtain⟨_,_,z⟩:=xh.mp z;cases z)
noncomputable def Ur(U:Hp)(c:Cn):Hp:=λr=>open Classical in if r=c.sd\/V.ref r∈c.kvs.map (·.2)then none else vp U r
def Yu{r:FQ}{o:HO}(e:U r=some o)(J:r≠c.sd)(O:V.ref r∉c.kvs.map (·.2))(q:∀ps,o≠.Wb ps):Ur U c r=some o:=by
 unfold Ur;rw[Ba (by grind)];exact qD e q
def Zu{r:FQ}{o:HO}(e:Ur U c r=some o):U r=some o/\(∀ps,o≠.Wb ps)/\r≠c.sd/\V.ref r∉c.kvs.map (·.2):=by
 unfold Ur at e;split at e
 ·cases e
 ·next n=>exact⟨(yy e).1,(yy e).2,not_or.mp n⟩
def Old.ur(h:Old q U c):aa q (Ur U c):=λr o e=>Yu (h.sub _ _ e) (λz=>by rw[z,h.sd]at e;cases e) (λz=>by rw[h.kv r z]at e;cases e) λps z=>h.Wb r ps (z▸e)
def AO{kvs:List (Key×V)}{m:List (Int×List Ga)}(r:Ent H kvs m):(∀b xs,H b=some (.tup xs)->H' b=some (.tup xs))->(∀b vs,H b=some (.lst vs)->V.ref b∈kvs.map (·.2)->H' b=some (.lst vs))->Ent H' kvs m:=by
 induction r with
 |nil=>intro _ _;exact .nil
 |cons h q _ J=>intro s1 O;exact .cons (by grind) (q.same s1) (by grind)
def xp{C a q d:FQ}{kvs:List (Key×V)}{m:List (Int×List Ga)}(h:Hs K C H a q d kvs m)(O:H' a=some (.ins C q [("makes",.ref d)]))(Y:∀J,H d=some (.dK J)->H' d=some (.dK J))(a0:∀b xs,H b=some (.tup xs)->H' b=some (.tup xs))(b0:∀b vs,H b=some (.lst vs)->V.ref b∈kvs.map (·.2)->H' b=some (.lst vs)):Hs K C H' a q d kvs m:=
 ⟨O,Y _ h.dict,AO h.ent a0 b0,h.Ad,h.short,h.full,h.keys,h.vals⟩
def zy(b:Bx U H x f)(O:f 0=some (.ins T.ub c.hx (Oe c x E.sp E.st).fs))(Y:f 2=some (.lst E.tv)):Bx (Xc H x (fE T c x E)) H x (fE T c x E)/\aa U (Xc H x (fE T c x E))/\(∀r o,H r=some o->r≠x 0->r≠x 2->Xc H x (fE T c x E) r=some o)/\∀r us,H r=some (.tup us)->Xc H x (fE T c x E) r=some (.tup us):=by
 have q:Bx U H x (fE T c x E):=b.drop (Sc (λo e=>O.trans e) (λo e=>by cases e) (λo e=>Y.trans e) (λo e=>by cases e) (λo e=>by cases e) (λo e=>by cases e) (λo e=>by cases e) (λo e=>by cases e) (λo e=>by cases e));obtain⟨s,a0⟩:=q.grow;have J:∀r o,H r=some o->r≠x 0->r≠x 2->Xc H x (fE T c x E) r=some o:=λr o e b0 c0=>nl e (Sc (λ_ _=>b0.symm) (λ_ z=>by cases z) (λ_ _=>c0.symm) (λ_ z=>by cases z) (λ_ z=>by cases z) (λ_ z=>by cases z) (λ_ z=>by cases z) (λ_ z=>by cases z) (λ_ z=>by cases z))
 exact⟨a0,s,J,λr us e=>J r _ e (λz=>by rw[z,q.get 0 rfl]at e;cases e) λz=>by rw[z,q.get 2 rfl]at e;cases e⟩
def rD:Tk (Ji x S):=by
 unfold Ji;cases S.hv with
 |none=>exact .inl rfl
 |some _=>exact .inr ⟨_,rfl⟩
end
inductive BO(K:W.Frag)(C:FQ)(vs:List V)(H:Hp)(Q:VK)(E:XK):Prop|mk(a dx d r:FQ)(kvs:List (Key×V))(m:List (Int×List Ga))(st dl:Int)(dr:Dr)(_:vs=[.ref a,.int st,.int dl,.ref r])(_:Hs K C H a dx d kvs m)(_:H r=some (.dK (Ka dr)))(_:r≠d)(_:dr.length<=45)(_:m.length<900)(_:(∀q∈m,q.2.length<=900))(_:∀H' bc,Hs K C H' a dx d bc (ae m st dl dr)->(∀b o,H b=some o->b≠d->V.ref b∉kvs.map (·.2)->H' b=some o)->GC H kvs bc->Q .ya H')
inductive CO(K:W.Frag)(C:FQ)(vs:List V)(H:Hp)(Q:VK)(E:XK):Prop|mk(a dx r:FQ)(fs:Dr)(_:vs=[.ref a,.ref r])(_:H a=some (.ins C dx []))(_:H r=some (.dK (Ka fs)))(_:(fs.map (·.1)).Nodup)(_:fs.length<=100)(_:∀H' d bc,Hs K C H' a dx d bc (m0 fs)->(∀b o,H b=some o->b≠a->H' b=some o)->(∀l,V.ref l∈bc.map (·.2)->H l=none)->H d=none->Q .ya H')
def sD(h:Hs K C H' a q d kvs m):Hs K C (Sf H H') a q d kvs m:=
 ⟨fj h.obj (by grind),fj h.dict (by grind),h.ent.nn λb o e J=>fj e λ_ _ z=>(by grind),h.Ad,h.short,h.full,h.keys,h.vals⟩
inductive DO{K:W.Frag}{mg:Str->Option EQ}(T:Tx K mg)(base:NQ)(vs:List V)(H:Hp)(Q:VK)(_:XK):Prop|mk(g:Gm)(U:Hp)(x:Nat->FQ)(c:Cn)(S:Sx)(b:Int)(_:vs=[.ref (x 0),.ref (x 3)])(_:base.BuiltinsAt mg T.lp)(_:Gd g)(_:Xd T g U H x c S)(_:S.st=(S.td.length:Int)+1)(_:S.td.length<41)(_:S.bg=some b)(_:∀U' H' E,Xf T g U' H' x c E->E.kp=HQ->E.ms=S.ms->E.td=S.td++[.tuple (.int S.st::.int 1::[.str "kept",.tuple (Lf S.ms.ds)])]->E.st=S.st->(∀U0,Old U0 U c->aa U0 U')->Q .ya H')
inductive EO{K:W.Frag}{mg:Str->Option EQ}(T:Tx K mg)(vs:List V)(H:Hp)(Q:VK)(_:XK):Prop|mk(g:Gm)(U:Hp)(x:Nat->FQ)(c:Cn)(S:Sx)(b:Int)(w:FQ)(_:vs=[.ref (x 0),.ref (x 3),.ref w])(_:H w=some (.tup [.str "own"]))(_:Xd T g U H x c S)(_:S.st=(S.td.length:Int)+1)(_:S.td.length<41)(_:S.bg=some b)(_:∀U' H' E,Xf T g U' H' x c E->E.kp=IQ->E.td=S.td++[.tuple (.int S.st::.int 1::[.str "broken",.tuple [.str "own"]])]->E.st=S.st->aa U U'->Q .ya H')
def av(st:Int)(ds:List QQ):QQ:=.tuple (.int st::.int 1::ds)
inductive FO{K:W.Frag}{mg:Str->Option EQ}(T:Tx K mg)(base:NQ)(vs:List V)(H:Hp)(Q:VK)(X:XK):Prop|mk(g:Gm)(U:Hp)(x:Nat->FQ)(c:Cn)(S:Sx)(b:Int)(_:vs=[.ref (x 0),.ref (x 3)])(_:base.BuiltinsAt mg T.lp)(_:Gd g)(_:Xd T g U H x c S)(_:S.st=(S.td.length:Int)+1)(_:S.td.length<41)(_:S.bg=some b)(_:(∀U' H' x' S',aa U U'->Xd T g U' H' x' c S'->(∀i,i≠8->x' i=x i)->Nx S S' (Sb g.fs g.ua S.ms).1 (Sb g.fs g.ua S.ms).2->¬Tc (Sb g.fs g.ua S.ms).2=HQ->Q .ya H'))(_:(∀U' H' E,Xf T g U' H' x c E->E.kp=HQ->E.ms=(Sb g.fs g.ua S.ms).1->(Sb g.fs g.ua S.ms).2=[.str "kept",.tuple (Lf E.ms.ds)]->E.td=S.td++[av S.st (Sb g.fs g.ua S.ms).2]->E.st=S.st->(∀U0,Old U0 U c->aa U0 U')->Q .ya H'))(_:((Sb g.fs g.ua S.ms).2=[.str "broken",.tuple [.str "own"]]->∀ex w H',aa H H'->H' ex=some (Ge ex [("dealing",.int 1),("why",.ref w)])->H' w=some (.tup [.str "own"])->X (.ref T.sf) (some ex) H'))
def Hz{K:W.Frag}{mg:Str->Option EQ}(T:Tx K mg)(g:Gm)(q H:Hp)(x:Nat->FQ)(c:Cn)(r:Rn)(n:Nat):Prop:=
 (Tc r.en=IQ/\∃U S,Old q U c/\Xd T g U H x c S/\S.ms=r.ms/\S.td=r.td/\S.st=(n:Int)/\S.td.length=n)\/
 (Tc r.en=HQ/\∃U E,aa q U/\Xf T g U H x c E/\E.td=r.td/\E.st=(n:Int)/\E.td.length=n/\((E.kp=HQ/\E.ms=r.ms/\r.en=[.str "kept",.tuple (Lf E.ms.ds)])\/(E.kp=IQ/\r.en=[.str "broken",.tuple [.str "own"]])))
inductive GO{K:W.Frag}{mg:Str->Option EQ}(T:Tx K mg)(base:NQ)(vs:List V)(H:Hp)(Q:VK)(_:XK):Prop|mk(g:Gm)(U:Hp)(x:Nat->FQ)(c:Cn)(S:Sx)(_:vs=[.ref (x 0),.ref (x 3)])(_:base.BuiltinsAt mg T.lp)(_:Gd g)(_:Xd T g U H x c S)(_:S.st=(S.td.length:Int)+1)(_:S.td.length<41)(_:(∀U' H' x' S',aa U U'->Xd T g U' H' x' c S'->(∀i,i≠8->x' i=x i)->S'.ms=(Sb g.fs g.ua S.ms).1->S'.td=S.td++[av S.st (Sb g.fs g.ua S.ms).2]->S'.st=S.st->¬Tc (Sb g.fs g.ua S.ms).2=HQ->Q .ya H'))(_:(∀U' H' E,Xf T g U' H' x c E->((E.kp=HQ/\E.ms=(Sb g.fs g.ua S.ms).1/\(Sb g.fs g.ua S.ms).2=[.str "kept",.tuple (Lf E.ms.ds)])\/(E.kp=IQ/\(Sb g.fs g.ua S.ms).2=[.str "broken",.tuple [.str "own"]]))->E.td=S.td++[av S.st (Sb g.fs g.ua S.ms).2]->E.st=S.st->(∀U0,Old U0 U c->aa U0 U')->Q .ya H'))
inductive JO{K:W.Frag}{mg:Str->Option EQ}(T:Tx K mg)(base:NQ)(vs:List V)(H:Hp)(Q:VK)(E:XK):Prop|mk(g:Gm)(U0:Hp)(x:Nat->FQ)(c:Cn)(n:Nat)(_:vs=[.ref (x 0),.int 1])(_:base.BuiltinsAt mg T.lp)(_:Gd g)(_:n<45)(_:Hz T g U0 H x c (vb g.fs g.ua n) n)(_:∀p H' x',Hz T g U0 H' x' c (vb g.fs g.ua (n+1)) (n+1)->(∀i,i≠8->x' i=x i)->Q (.ref p) H')
inductive KO{K:W.Frag}{mg:Str->Option EQ}(T:Tx K mg)(base:NQ)(vs:List V)(H:Hp)(Q:VK)(E:XK):Prop|mk(g:Gm)(U0:Hp)(x:Nat->FQ)(c:Cn)(k:Nat)(l:FQ)(_:vs=[.ref (x 0),.ref l])(_:base.BuiltinsAt mg T.lp)(_:Gd g)(_:k<45)(_:U0 l=some (.lst (List.replicate k (.int 1))))(_:Hz T g U0 H x c (vb g.fs g.ua 0) 0)(_:∀p tv H' x',(∀H2,(∀b o,b≠p->H' b=some o->H2 b=some o)->Hz T g U0 H2 x' c (vb g.fs g.ua k) k)->(∀i,i≠8->x' i=x i)->H' p=some (.lst tv)->Gb (tp H') tv (vb g.fs g.ua k).td->U0 p=none->Q (.ref p) H')
section
variable{K:W.Frag}{mg:Str->Option EQ}{T:Tx K mg}{g:Gm}{U U' H H' U0 U1:Hp}{x x':Nat->FQ}{c:Cn}{S S':Sx}{E:Ek}{r:Rn}{n:Nat}
def Hz.same(h:Hz T g U0 H x c r n)(s:aa H H'):Hz T g U0 H' x c r n:=by
 rcases h with⟨e,U,S,q,J,O⟩|⟨e,U,E,q,J,O⟩
 ·exact .inl (⟨e,nx0 U S q (J.same s) O⟩)
 ·exact .inr (⟨e,nx0 U E q (J.same s) O⟩)
def Hz.less(h:Hz T g U1 H x c r n)(s:aa U0 U1):Hz T g U0 H x c r n:=by
 rcases h with⟨e,U,S,q,J,O⟩|⟨e,U,E,q,J,O⟩
 ·exact .inl (⟨e,nx0 U S ⟨s.trans q.sub,λb ps z=>q.Wb b ps (s _ _ z),s.free q.sd,λl z=>s.free (q.kv l z)⟩ J O⟩)
 ·exact .inr (⟨e,nx0 U E (s.trans q) J O⟩)
end
def tD(fs:Dr)(q:Nat)(s:Ms)(d:De)(ok:d.ok)(h:s.pl<q):∃w r more,d.vs=.str w::r/\br w r (Sd fs q s d).1.na more/\(if(q:Int)<(s.pl:Int)+1+more then(q:Int)else(s.pl:Int)+1+more)=((Sd fs q s d).1.pl:Int)/\(Sd fs q s d).1.pl<=q/\s.pl<(Sd fs q s d).1.pl:=by
 have one:∀(w:Str)(r:List V)(na:List (Key×V))(p:Nat),¬w="skip"->p=s.pl+1->∃Y a0 more,V.str w::r=.str Y::a0/\br Y a0 na more/\(if(q:Int)<(s.pl:Int)+1+more then(q:Int)else(s.pl:Int)+1+more)=(p:Int)/\p<=q/\s.pl<p:=λw r na p b0 c0=>nx8 w r 0 rfl (.inl ⟨b0,rfl⟩) (by rw[Ba (by lia)];lia) (by lia) (by lia)
 cases d with
 |look w c J O=>
  obtain⟨r,e⟩:∃r,(De.look w c J O).vs=.str w::r:=⟨if w="read"then[.str c,kV J]else[.str c,kV J,kV O],by show(if w="read"then _ else _)=_;split<;>rfl⟩;rw[e];exact one w r _ _ (by rcases ok with⟨z,_⟩|z|z<;>(rw[z];decide+kernel)) rfl
 |put J O=>exact one _ _ _ _ (by decide+kernel) rfl
 |take o=>exact one _ _ _ _ (by decide+kernel) rfl
 |lt c J z O=>exact one _ _ _ _ (by decide+kernel) rfl
 |stop J O=>exact one _ _ _ _ (by decide+kernel) rfl
 |skip J O k=>
  have d0:1<=k:=ok;refine nx9 _ _ (if oI J s.na<oI O s.na then k else 0) rfl (.inr (nx8 _ _ k rfl rfl (ke _) (ke _) rfl)) ?_;show _=((if oI J s.na<oI O s.na then min q (s.pl+1+k.toNat)else s.pl+1:Nat):Int)/\(if oI J s.na<oI O s.na then min q (s.pl+1+k.toNat)else s.pl+1)<=q/\s.pl<(if oI J s.na<oI O s.na then min q (s.pl+1+k.toNat)else s.pl+1);split<;>(refine⟨?_,by lia,by lia⟩;split<;>lia)
def vD:Tc [.str "kept",.tuple ds]=HQ:=by simp[Tc]
def LO:Tc [.str "broken",.tuple [.str "own"]]=HQ:=by simp[Tc]
def MO:Tc [.str "new"]=IQ:=(Bool.not_eq_true _).mp (by simp[Tc];decide+kernel)
def Ay(ok:∀d∈q,d.ok):∀n:Nat,Tc (vb fs q n).en=IQ->n<=(vb fs q n).ms.pl/\(vb fs q n).ms.pl<=q.length
 |0,_=>⟨Ra _,wc _⟩
 |n+1,h=>by
  unfold vb at h⊢;by_cases e:Tc (vb fs q n).en=HQ
  ·grind
  ·rw[Ba e]at h⊢;have J:=Ay ok n ((Bool.not_eq_true _).mp e);show n+1<=(Sb fs q (vb fs q n).ms).1.pl/\(Sb fs q (vb fs q n).ms).1.pl<=q.length;have h:Tc (Sb fs q (vb fs q n).ms).2=IQ:=h;unfold Sb at h⊢;cases z:q[(vb fs q n).ms.pl]? with
   |none=>
    rw[z]at h;exact absurd (vD) (by rw[h];grind)
   |some d=>
    obtain⟨_,_,_,_,_,_,O,Y⟩:=tD fs q.length (vb fs q n).ms d (by grind) (ee.mp z).1;exact(by grind)
--@cc
open Shf
def Cc(T:Tx K mg):T.Pq.Ok mg P w base 1 (BO K T.Jc):=
 My.Kb.ak (Shf.Cc T) λvs H Q E⟨a,O,d,r,kvs,m,st,dl,Y,e,a0,J,b0,c0,d0,e0,k⟩=>⟨a,O,d,r,kvs,m,st,dl,Y,e,a0,.inl J,b0,c0,d0,e0,λH' f0 ob g0 h0 i0 j0=>k _ f0 (sD g0) (λb o q k0 l0=>by
  by_cases z:b=r
  ·subst z;rw[J]at q;cases q;exact fx J (.inr ⟨ob,j0⟩)
  ·exact cx q (h0 b o q k0 z l0)) i0⟩
def pc(T:Tx K mg):T.Oq.Ok mg P w base 1 (CO K T.Jc):=
 My.Kb.ak (Shf.pc T) λvs H Q E⟨a,O,r,fs,e,Y,J,a0,b0,k⟩=>⟨a,O,r,fs,e,Y,.inl J,a0,b0,λH' d c0 ob d0 e0 f0 g0 h0=>k _ d c0 (sD d0) (λb o q i0=>by
  by_cases z:b=r
  ·subst z;rw[J]at q;cases q;exact fx J (.inr ⟨ob,h0⟩)
  ·exact cx q (e0 b o q i0 z)) f0 g0⟩
def bv:∀{q:List V}{L:Dr},Paired (λ(v:V)(J:Int×Option Int)=>∃t,v=.ref t/\H t=some (.tup [.int J.1,ov J.2])) q L->Bc H q L:=by
 intro _ _ h;induction h with
 |nil=>exact .nil
 |cons h r O=>
  obtain⟨_,e,h⟩:=h;subst e;exact .cons h O
def NO(T:Tx K mg):T.wu.Ok mg P w base 8 (DO T base):=by
 refine Qa T.wu.F λ{_ _ _ s}H _ _ E b0 h=>?_
 ·obtain⟨g,U,x,c,S,b,rfl,t1,G,L,j2,k2,S0,k⟩:=h;have u1:=yc b0;refine⟨_,(oa (Mc (pv 0) (fb T.Ex (XN T) b0 (ca (Ia K 0) (va (Ib (pv 1) T.Ua T.cu.m (ON T) b0 T.cu.b (va (Ia K 0)))))) rfl)
   (oa (Ub (Ib (Ia K 0) T.Ke T.Pq.m (Cc T) b0 T.Pq.b (ca (Ia K 0) (ca (Ia K 1) (va (Ia K 1))))))
   (oa (Ub (Ib (Ia K 0) T.El T.jn.m (dD T).ok b0 T.jn.b (va (Ia K 1))))
   (oa (Ub (Ib (pv 1) T.Ua T.gn.m (bD T).ok b0 T.gn.b (ca La (va Hd))))
   (qa (Ub (Ib (pv 0) T.Va T.Jf.m (yn T).ok b0 T.Jf.b (ca (pv 1) (va (Hb (ca La (va (kg ss (by rfl) T.Ql Jk (va (Vd ["key"] ["deal"] [1] (Yb (Nb (ZA rfl) (by rfl) T.Uf Bg (va (Ia K 1)))) (Ac 0) nf (Hb (ca (pv 0) (va (jc u1 (Ia K 1) (pv 0)))))))))))))))))))),?_⟩
  show let v1:TS:=_;let w1:TS:=ma _ v1;let x1:TS:=ma _ w1;let y1:TS:=ma _ x1;ma _ y1 _ _ _
  intros;have bx:Bx (Ur U c) H x (fL T c x S):=L.bx.less λr o e=>(Zu e).1
  obtain⟨z1,l2,m2,n2,o2,A1,p2⟩:=L.pu.ln;have q2:=L.tld.len;have U0:=L.cf.shl.same L.bx.sub;have r2:=L.pu.nk b S0;have Ad:=G.Ad;have V0:∀i<9,∀o,fL T c x S i=some o->V.ref (x i)∉c.kvs.map (·.2):=λi hi o e z=>by
   obtain⟨us,y⟩:=L.cf.shl.ent.tracked z;rw[L.bx.off i hi o e]at y;cases y
  have x0:∀i<9,∀o,fL T c x S i=some o->x i≠c.sd:=λi hi o e z=>by
   have:=L.cf.shl.dict;rw[<-z,L.bx.off i hi o e]at this;cases this
  refine⟨_,rfl,x 0,_,c.hx,_,_,rfl,bx.get 0 rfl,T.Va,T.hp,rfl,_,rfl,x 3,c.ax,_,rfl,bx.get 3 rfl,rfl,_,rfl,x 0,_,c.hx,_,_,rfl,bx.get 0 rfl,T.Va,T.kj,rfl,x 3,c.ax,c.lv,c.lx,x 7,x 5,Wd c x S,g.l,b,S.st,S.ms.ds,S.lv,rfl,bx.get 3 rfl,rfl,rfl,L.bx.sub _ _ L.cf.lev,by show vl S.bg=_;rw[S0];rfl,rfl,bx.get 7 rfl,λv hv=>?_,by lia,rfl,bx.get 5 rfl,by lia,λs sx W0 X0 s2 s1 Y0 y0 Z0=>?_⟩
  ·obtain⟨q,_,t,p,g',rfl,z0,_⟩:=jl L.lks hv;exact⟨t,_,rfl,L.bx.sub _ _ z0,rfl⟩
  refine⟨c.sp,s,sx,Jo g.l,b,S.st,W0,X0,rfl,t1,s1 _ _ (L.bx.sub _ _ L.cf.sps),y0,.inl (s1 _ _ (L.bx.sub _ _ L.cf.tab)),λp i0 J B1 a1=>?_⟩;have A0:Bx (Ur U c) i0 x (fL T c x S):=(bx.same s1).to λr o h e=>J r o (by
   rcases h with h|⟨i,hi,_,h⟩
   ·exact(Zu h).2.1
   ·exact zO i hi o h) e
  have B0:Hs K T.Jc i0 c.sh c.sx c.sd c.kvs (m0 g.fs):=xp (U0.same s1) (J _ _ (by grind) (s1 _ _ U0.obj)) (λ_ e=>J _ _ (by grind) e) (λ_ _ e=>J _ _ (by grind) e) λ_ _ e _=>J _ _ (by grind) e
  refine⟨_,rfl,x 0,_,c.hx,_,rfl,A0.get 0 rfl,T.Va,T.hp,Hc,?_⟩;rw[show Jd "spans" (V.ref p) (Oe c x c.sp S.st).fs=(Oe c x p S.st).fs from rfl];have d0:=A0.put 0 (.ins T.ub c.hx (Oe c x p S.st).fs) rfl;have Y:Za (x 0) i0 (upd i0 (x 0) (.ins T.ub c.hx (Oe c x p S.st).fs)):=Za.upd;have b1:=A0.get 0 rfl;have C0:∀r o,i0 r=some o->(∀C y fs,o≠.ins C y fs)->r≠x 0:=λr o e n z=>by grind
  have C1:c.sh≠x 0:=λz=>by
   have:=B0.obj;rw[z,b1]at this;exact absurd (Td List.length (HO.ins.inj (Yd this)).2.2) (by show¬6=1;decide)
  have d1:s≠x 0:=λz=>by
   have:=J _ _ (by grind) y0;rw[z,b1]at this;have:=Td (λl=>(l.head?.map Prod.fst)) (HO.ins.inj (Yd this)).2.2;exact absurd (Yd this) (by show¬(("shelf":Str)="number");decide+kernel)
  have c0:=xp B0 (Y _ _ C1 B0.obj) (λ_ e=>Y _ _ (by grind) e) (λ_ _ e=>Y _ _ (by grind) e) λ_ _ e _=>Y _ _ (by grind) e
  have s0:=Y _ _ (C0 _ _ a1 λ_ _ _ z=>HO.noConfusion z) a1;have t0:=Y _ _ (C0 _ _ (J _ _ (by grind) Z0) (by grind)) (J _ _ (λ_ z=>HO.noConfusion z) Z0);have u0:=Y _ _ d1 (J _ _ (by grind) y0);have pn:∀r xs,H r=some (.lst xs)->r≠p:=λr xs e=>B1 r xs (s1 _ _ e)
  generalize upd i0 (x 0) (.ins T.ub c.hx (Oe c x p S.st).fs)=t2 at d0 Y c0 s0 t0 u0⊢;refine⟨_,rfl,x 0,_,c.hx,_,_,rfl,d0.get 0 rfl,T.Va,T.Hl,rfl,c.sh,c.sx,_,rfl,c0.obj,rfl,_,rfl,x 0,_,c.hx,_,_,rfl,d0.get 0 rfl,T.Va,T.kj,rfl,_,rfl,x 3,_,c.ax,_,_,rfl,d0.get 3 rfl,T.Ua,T.Gi,rfl,_,rfl,x 3,_,c.ax,_,_,rfl,d0.get 3 rfl,T.Ua,T.Dl,rfl,c.sh,c.sx,c.sd,x 5,c.kvs,m0 g.fs,S.st,1,S.ms.ds,rfl,c0,d0.get 5 rfl,x0 5 (by decide) _ rfl,by lia,by unfold m0;rw[Na];lia,λq D0=>?_,λH4 F0 e1 e0 D1=>?_⟩
  ·obtain⟨y,_,rfl⟩:=Fd.mp D0;show 1<=900;decide
  have E1:∀i<9,∀o,fp (fL T c x S) 0 (.ins T.ub c.hx (Oe c x p S.st).fs) i=some o->∃u,fL T c x S i=some u:=λi hi o e=>by
   unfold fp at e;split at e
   ·next z=>rw[z];exact⟨_,rfl⟩
   grind
  have a0:Bx (Ur U c) H4 x _:=d0.to λr o h e=>by
   rcases h with h|⟨i,hi,rfl,h⟩
   ·exact e0 r o e (Zu h).2.2.1 (Zu h).2.2.2
   ·obtain⟨u,h'⟩:=E1 i hi o h;exact e0 _ o e (x0 i hi u h') (V0 i hi u h')
  have f1:Ur U c c.ho=some (.ins T.wf c.oj [("taken",.ref (x 1))]):=Yu L.cf.kk (λz=>by have:=L.cf.kk;rw[z,L.cf.shl.dict]at this;cases this) (λz=>by obtain⟨us,y⟩:=L.cf.shl.ent.tracked z;rw[L.cf.kk]at y;cases y) (by grind);have F1:Ur U c c.dl=some (.lst [.ref (x 3)]):=Yu L.cf.dls (λz=>by have:=L.cf.dls;rw[z,L.cf.shl.dict]at this;cases this) L.cf.sep (by grind);have G1:Ur U c c.lv=some (.ins (cO T g.l) c.lx []):=Yu L.cf.lev (λz=>by have:=L.cf.lev;rw[z,L.cf.shl.dict]at this;cases this) (λz=>by obtain⟨us,y⟩:=L.cf.shl.ent.tracked z;rw[L.cf.lev]at y;cases y) (by grind);refine⟨_,rfl,x 0,_,c.hx,_,_,rfl,a0.get 0 rfl,T.Va,T.Au,rfl,c.ho,c.oj,_,rfl,a0.sub _ _ f1,rfl,_,rfl,x 3,_,c.ax,_,_,rfl,a0.get 3 rfl,T.Ua,T.Gi,rfl,c.ho,c.oj,x 1,Ji x S,rfl,a0.sub _ _ f1,a0.get 1 rfl,rD,?_⟩;have G0:=a0.put 1 (.dK []) rfl;refine⟨_,rfl,x 3,c.ax,_,rfl,G0.get 3 rfl,rfl,x 3,c.ax,_,"kept",.ya,rfl,G0.get 3 rfl,?_⟩;have j0:=G0.put 3 (.ins T.Cb c.ax {Wd c x S with ph:=.str "kept",w:=.ya}.fs) rfl;have H0:∀r o,H4 r=some o->r≠x 1->r≠x 3->upd (upd H4 (x 1) (.dK [])) (x 3) (.ins T.Cb c.ax {Wd c x S with ph:=.str "kept",w:=.ya}.fs) r=some o:=λr o e k0 n0=>by rw[ka n0,ka k0];exact e
  have u2:=a0.get 1 rfl;have g1:=a0.get 3 rfl;generalize upd (upd H4 (x 1) (.dK [])) (x 3) (.ins T.Cb c.ax {Wd c x S with ph:=.str "kept",w:=.ya}.fs)=H1 at j0 H0⊢;have I1:∀r o,H4 r=some o->(∀h1,o≠.dK h1)->(∀C y fs,o≠.ins C y fs)->H1 r=some o:=λr o e k0 f0=>H0 r o e (λz=>by grind) λz=>by grind
  have J1:(Ka S.ms.ds).map (·.1)=(S.ms.ds.map (·.1)).map Sum.inl:=nj _;refine⟨_,rfl,x 0,c.hx,_,rfl,j0.get 0 rfl,rfl,_,rfl,_,rfl,x 3,_,c.ax,_,_,rfl,j0.get 3 rfl,T.Ua,T.Dl,rfl,x 5,_,S.ms.ds.map (·.1),rfl,.inl (j0.get 5 rfl),J1,by rw[Na];lia,λK1 i1=>⟨K1,rfl,⟨_,ja.of ia⟩,sg (k:=1) (fs:=[some (.ref (x 3))]) (λH v (q:Int×Option Int)=>∃t,v=.ref t/\H t=some (.tup [.int q.1,ov q.2])) (λ_ v (n:Int)=>v=.int n) (eb (S.ms.ds.map (·.1))) (λk=>some (k,(fk S.ms.ds k).getD none)) (by rintro _ _ _ _ L1⟨t,e,z⟩;exact⟨t,e,L1 _ _ (λ_ y=>HO.noConfusion y) z⟩) (λ_ _ _ _ _ e=>e) rfl ia (Ii _) (by rw[(mc _).length_eq,Na];exact qc (qc z1 A1) (by decide)) ?_ λD o0 ys v2 I0 M1 j1=>?_⟩⟩
  ·rintro n N1 o0 w2 v R I0 O1 rfl P1 _;obtain⟨x2,rfl⟩:=Be.mp O1;have k1:=(j0.same (aa.upd i1)).same I0;obtain⟨o,l1⟩:∃o,fk S.ms.ds n=some o:=by
    cases e:fk S.ms.ds n with
    |some o=>grind
    |none=>exact absurd ((mc _).mem_iff.mp N1) (Le.mp e)
   have Q1:kb (Ka S.ms.ds) (Sum.inl n:Key)=some (ov o):=by rw[Tl,l1];rfl
   exact jd (B:=False) ⟨_,rfl,_,rfl,x 3,_,c.ax,_,_,rfl,k1.get 3 rfl,T.Ua,T.Dl,rfl,_,rfl,x 5,_,rfl,vc (k:=Sum.inl n) (k1.get 5 rfl) Q1,Ma,λt z0=>P1 _ _ [_] _ rfl rfl (aa.upd z0) ⟨t,rfl,by rw[l1];exact ia⟩⟩
  rw[sm]at j1;have R1:=(aa.upd (o:=HO.lst ((eb (S.ms.ds.map (·.1))).map V.int)) i1).trans I0;refine nx5 D ys rfl (.inl ⟨ja.of M1,λO S1=>⟨Ma,λl0 J0=>?_⟩⟩);have m1:=(aa.upd (o:=HO.tup ys) S1).trans (aa.upd (o:=HO.tup [.str "kept",.ref O]) J0);have n1:upd (upd o0 O (.tup ys)) l0 (.tup [.str "kept",.ref O]) O=some (.tup ys):=by
   have:O≠l0:=λz=>by rw[<-z,ia]at J0;cases J0
   rw[ka this,ia]
  have o1:=ia (H:=upd o0 O (.tup ys)) (a:=l0) (o:=HO.tup [.str "kept",.ref O]);have v0:=R1.trans m1;have p1:Gb (tp (upd (upd o0 O (.tup ys)) l0 (.tup [.str "kept",.ref O]))) ys (Lf S.ms.ds):=by
   unfold Lf yf;rw[Yn.mpr λ_ _=>rfl];exact pp ((bv j1).same m1)
  generalize upd (upd o0 O (.tup ys)) l0 (.tup [.str "kept",.ref O])=T1 at v0 n1 o1 p1⊢;have p0:=j0.same v0;refine nx3 (x 0) c.hx (x 3) c.ax l0 (x 2) _ (nx6 _ _ S.tv rfl (p0.get 0 rfl) (p0.get 3 rfl) o1 (by simp) (by show 2<1000;decide) rfl (p0.get 2 rfl) ⟨by lia,λr H' b0 U1 B=>?_⟩);have g0:=p0.but 2 rfl U1 B;have y2:=p0.get 2 rfl;have V1:∀q o,H4 q=some o->q≠x 1->q≠x 3->q≠x 2->H' q=some o:=λq o e k0 n0 f0=>B q o f0 (v0 _ _ (H0 q o e k0 n0))
  have K0:∀q us,T1 q=some (.tup us)->H' q=some (.tup us):=λq us e=>B q _ (λz=>by grind) e
  obtain⟨W1,L0,M0,h0⟩:=zy (E:=⟨HQ,S.st,S.ms,S.lks,S.lv,S.tv++[.ref r],S.td++[.tuple (.int S.st::.int 1::[.str "kept",.tuple (Lf S.ms.ds)])],p,{Wd c x S with ph:=.str "kept",w:=.ya},F0,S.st,b⟩) g0 rfl rfl;have X1:=a0.get 0 rfl;have z2:=a0.get 2 rfl;have A2:=d0.get 2 rfl;have q0:=λq o e Y1 k0 f0 n0=>M0 q o (V1 q o e k0 n0 f0) Y1 f0
  have ul:∀q us,H4 q=some (.lst us)->q≠x 2->Xc H' x (fE T c x ⟨HQ,S.st,S.ms,S.lks,S.lv,S.tv++[.ref r],S.td++[.tuple (.int S.st::.int 1::[.str "kept",.tuple (Lf S.ms.ds)])],p,{Wd c x S with ph:=.str "kept",w:=.ya},F0,S.st,b⟩) q=some (.lst us):=λq us e f0=>q0 q _ e (λz=>by grind) (λz=>by grind) f0 λz=>by grind
  have w0:∀q us,H4 q=some (.tup us)->H' q=some (.tup us):=λq us e=>K0 _ _ (v0 _ _ (I1 _ _ e (λ_ z=>HO.noConfusion z) λ_ _ _ z=>HO.noConfusion z))
  have N0:∀q us,H q=some (.tup us)->H4 q=some (.tup us):=λq us e=>by
   have q1:=J _ _ (λ_ z=>HO.noConfusion z) (s1 _ _ e);have O0:=Y _ _ (C0 _ _ q1 λ_ _ _ z=>HO.noConfusion z) q1;exact e0 _ _ O0 (λz=>by rw[z,c0.dict]at O0;cases O0) λz=>by
    obtain⟨us,y⟩:=c0.ent.tracked z
    grind
  have Z1:H4 p=some (.lst [.ref s]):=e0 _ _ s0 (λz=>by rw[z,c0.dict]at s0;cases s0) λz=>by
   obtain⟨us,y⟩:=L.cf.shl.ent.tracked z;exact pn _ _ (L.bx.sub _ _ y) rfl
  have a2:=e0 _ _ t0 (λz=>by rw[z,c0.dict]at t0;cases t0) λz=>by
   obtain⟨us,y⟩:=L.cf.shl.ent.tracked z;rw[L.bx.sub _ _ y]at Y0;cases Y0
  have Q0:=e0 _ _ u0 (λz=>by rw[z,c0.dict]at u0;cases u0) λz=>by
   obtain⟨us,y⟩:=c0.ent.tracked z
   grind
  have inl:∀{C y:FQ}{f:List (Str×V)}{q:FQ},H4 q=some (.ins C y f)->f.length≠6->f.length≠12->Xc H' x (fE T c x ⟨HQ,S.st,S.ms,S.lks,S.lv,S.tv++[.ref r],S.td++[.tuple (.int S.st::.int 1::[.str "kept",.tuple (Lf S.ms.ds)])],p,{Wd c x S with ph:=.str "kept",w:=.ya},F0,S.st,b⟩) q=some (.ins C y f):=λe b2 c2=>q0 _ _ e (λz=>by rw[z,X1]at e;cases e;exact b2 rfl) (λz=>by grind) (λz=>by grind) λz=>by rw[z,g1]at e;cases e;exact c2 rfl
  refine k _ H' _ ⟨W1,?_,L0 _ _ F1,M0 _ _ (g0.get 3 rfl) (g0.ne 3 0 rfl rfl) (g0.ne 3 2 rfl rfl),rfl,rfl,rfl,rfl,.inl ⟨rfl,rfl⟩,L0 _ _ G1,?_,.inl (⟨rfl,nx19 s sx W0 X0 (ul _ _ Z1 (λz=>pn _ _ (bx.get 2 rfl) z.symm)) ⟨?_,ul _ _ a2 λz=>?_⟩⟩),M0 _ _ (g0.get 7 rfl) (g0.ne 7 0 rfl rfl) (g0.ne 7 2 rfl rfl),Paired.ib L.lks λv q y=>?_,L.pu.qh,L.pu.nd,⟨by show S.ms.ds.length<=_;lia,by show S.lv.length<=_;lia,by show(S.td++[_]).length<=_;simp;lia⟩,⟨λq D0=>?_,L.pu.zf.2⟩,by show 1<=b/\b<=S.st/\S.st<=S.st;lia⟩ rfl rfl rfl rfl λB2 h=>h.ur.trans L0
  ·exact(L.tld.same (He λ_ _ e=>h0 _ _ (w0 _ _ (N0 _ _ (L.bx.sub _ _ e))))).app (.cons (.tup (Tf (h0 _ _ b0)) (.cons (.int _) (.cons (.int _) (.cons (.str _) (.cons (.tup (Tf (h0 _ _ (K0 _ _ n1))) (p1.same (He λ_ _ e=>h0 _ _ (K0 _ _ e)))) .nil))))) .nil)
  ·refine xp (H:=H4) e1 (inl e1.obj (by show¬1=6;decide) (by show¬1=12;decide)) (λh1 e=>q0 _ _ e (λz=>by grind) (λz=>x0 1 (by decide) _ rfl z.symm) (λz=>by grind) λz=>by grind) (λ_ _ e=>h0 _ _ (w0 _ _ e)) λl us e d2=>ul _ _ e λz=>?_
   rcases D1 l d2 with y|y
   ·exact V0 2 (by decide) _ rfl (z▸y)
   grind
  ·exact q0 _ _ Q0 d1 (λz=>by grind) (λz=>by grind) λz=>by
    rw[z,g1]at Q0;exact absurd (Td List.length (HO.ins.inj (Yd Q0)).2.2) (by show¬12=6;decide)
  ·have:=bx.get 2 rfl
   grind
  ·obtain⟨t,e2,g',e,f2,g2,R0,r1⟩:=y;have r0:∀i<9,∀o,fL T c x S i=some o->g'≠x i:=λi hi o e z=>by rw[z,L.bx.off i hi o e]at R0;cases R0
   have h2:=J _ _ (λ_ z=>HO.noConfusion z) (s1 _ _ (L.bx.sub _ _ R0));have i2:=e0 _ _ (Y _ _ (r0 0 (by decide) _ rfl) h2) r1 λz=>by
    obtain⟨us,y⟩:=L.cf.shl.ent.tracked z
    grind
   exact⟨t,e2,g',e,h0 _ _ (w0 _ _ (N0 _ _ (L.bx.sub _ _ f2))),h0 _ _ (w0 _ _ (N0 _ _ (L.bx.sub _ _ g2))),q0 _ _ i2 (r0 0 (by decide) _ rfl) (r0 1 (by decide) _ rfl) (r0 2 (by decide) _ rfl) (r0 3 (by decide) _ rfl),r1⟩
  ·have:=L.pu.zf.1 q D0;show 0<=q.1/\q.1<S.st;lia
def OO(T:Tx K mg):Sh P w K mg base 2 T.Sq.f T.Sq.d ["self","deal","why"] (EO T):=by
 refine ot T.Sq.F (ml (N:=rf (ic (cm 55 22)))) (λvs H Q E h=>?_) (λq0 A outer s H vs Q E Y h=>?_)
 ·obtain⟨g,U,x,c,S,b,w,rfl,_⟩:=h;rfl
 ·obtain⟨g,U,x,c,S,b,w,rfl,f0,L,r0,s0,g0,k⟩:=h;refine⟨_,(oa (Ub (qt (Ia K 0) T.El T.jn.m ((dD T).mono (by decide)) Y T.jn.b (va (Ia K 1))))
   (oa (Ub (qt (pv 1) T.Ua T.gn.m ((bD T).mono (by decide)) Y T.gn.b (ca La (Ea 2))))
   (qa (Ub (qt (pv 0) T.Va T.Jf.m ((yn T).mono (by decide)) Y T.Jf.b (ca (pv 1) (va (Hb (ca La (Ea 2)))))))))),?_⟩
  show let h0:TS:=_;let i0:TS:=ma _ h0;ma _ i0 _ _ _
  intros;have bx:=L.bx;obtain⟨t0,u0,v0,w0,x0,y0,z0⟩:=L.pu.ln;have A0:=L.tld.len;refine⟨_,rfl,x 0,_,c.hx,_,_,rfl,bx.get 0 rfl,T.Va,T.Au,rfl,c.ho,c.oj,_,rfl,bx.sub _ _ L.cf.kk,rfl,_,rfl,x 3,_,c.ax,_,_,rfl,bx.get 3 rfl,T.Ua,T.Gi,rfl,c.ho,c.oj,x 1,Ji x S,rfl,bx.sub _ _ L.cf.kk,bx.get 1 rfl,rD,?_⟩;have b0:=bx.put 1 (.dK []) rfl;refine⟨_,rfl,x 3,c.ax,_,rfl,b0.get 3 rfl,rfl,_,rfl,x 3,c.ax,_,"broken",.ref w,rfl,b0.get 3 rfl,?_⟩;have c0:=b0.put 3 (.ins T.Cb c.ax {Wd c x S with ph:=.str "broken",w:=.ref w}.fs) rfl;refine⟨_,rfl,x 0,c.hx,_,rfl,c0.get 0 rfl,rfl,_,rfl,_,rfl,Ma,λt d0=>?_⟩;have a0:=c0.same (aa.upd (o:=HO.tup [.str "broken",.ref w]) d0);have B0:upd (upd (upd H (x 1) (.dK [])) (x 3) (.ins T.Cb c.ax {Wd c x S with ph:=.str "broken",w:=.ref w}.fs)) t (.tup [.str "broken",.ref w]) w=some (.tup [.str "own"]):=aa.upd d0 _ _ (by
   have j0:w≠x 1:=λz=>by have:=bx.get 1 rfl;grind
   have k0:w≠x 3:=λz=>by have:=bx.get 3 rfl;grind
   rw[ka k0,ka j0];exact f0)
  refine nx3 (x 0) c.hx (x 3) c.ax t (x 2) _ (nx6 _ _ S.tv rfl (a0.get 0 rfl) (a0.get 3 rfl) ia (by simp) (by show 2<1000;decide) rfl (a0.get 2 rfl) ⟨by lia,λr H' Y l0 B=>?_⟩);have J:=a0.but 2 rfl l0 B;have C0:∀q us,upd (upd (upd H (x 1) (.dK [])) (x 3) (.ins T.Cb c.ax {Wd c x S with ph:=.str "broken",w:=.ref w}.fs)) t (.tup [.str "broken",.ref w]) q=some (.tup us)->H' q=some (.tup us):=λq us e=>B q _ (λz=>by rw[z,a0.get 2 rfl]at e;cases e) e
  obtain⟨n0,O,e0,o0⟩:=zy (E:=⟨IQ,S.st,S.ms,S.lks,S.lv,S.tv++[.ref r],S.td++[.tuple (.int S.st::.int 1::[.str "broken",.tuple [.str "own"]])],c.sp,{Wd c x S with ph:=.str "broken",w:=.ref w},c.kvs,S.st,b⟩) J rfl rfl;have D0:=L.pu.nk b g0;refine k _ H' _ ⟨n0,(L.tld.same (He λ_ _ e=>O _ _ e)).app (.cons (.tup (Tf (o0 _ _ Y)) (.cons (.int _) (.cons (.int _) (.cons (.str _) (.cons (.tup (Tf (by grind)) (.cons (.str _) .nil)) .nil))))) .nil),O _ _ L.cf.dls,e0 _ _ (J.get 3 rfl) (J.ne 3 0 rfl rfl) (J.ne 3 2 rfl rfl),rfl,rfl,rfl,rfl,.inr ⟨rfl,w,rfl,by grind⟩,O _ _ L.cf.lev,L.cf.shl.same O,.inr ⟨rfl,O _ _ L.cf.sps⟩,e0 _ _ (J.get 7 rfl) (J.ne 7 0 rfl rfl) (J.ne 7 2 rfl rfl),Paired.ib L.lks λ_ _ y=>y.same O,L.pu.qh,L.pu.nd,⟨by show S.ms.ds.length<=_;lia,by show S.lv.length<=_;lia,by simp;lia⟩,⟨λq p0=>?_,L.pu.zf.2⟩,by show 1<=b/\b<=S.st/\S.st<=S.st;lia⟩ rfl rfl rfl O;have:=L.pu.zf.1 q p0;show 0<=q.1/\q.1<S.st;lia
def QO(T:Tx K mg):Kb P w K mg base (Xe P w) 9 T.Qq.f T.Qq.d ["self","deal"] (FO T base):=by
 refine tw T.Qq.F (ml (N:=rf (ic (cm 55 15)))) (λvs H Q E h=>?_) (λZ0 A outer s H vs Q E c0 h=>?_)
 ·obtain⟨g,U,x,c,S,b,rfl,_⟩:=h;rfl
 ·obtain⟨g,U,x,c,S,b,rfl,C0,G,L,h0,D0,i0,r0,s0,t0⟩:=h;have a1:=yc c0;refine⟨_,(oa (qb (rc (Pg (pv 1) T.Ua T.Zt.m (EN T) c0 T.Zt.b))
   (oa (Ub (Ib (pv 0) T.Va T.wu.m (NO T) c0 T.wu.b (Ea 1)))
   (qa AE))
   Bb)
   (oa (Ya 2 (Pa ye (Ia K 1) (Ia K 1)))
   (oa (qb (zb jq (Pa Ab (pv 2) ra) (Ui (v:=V.ref T.ek) rfl T.BL rfl) rfl)
   (qa (Ub (Ib (pv 0) T.Va T.su.m (xO T) c0 T.su.b (ca (pv 1) (Ea 2)))))
   (qa (qb (zb jq (Pa Ab (pv 2) ra) (Ui (v:=V.ref T.Ol) rfl T.CL rfl) rfl)
   (qa (Ub (Ib (pv 0) T.Va T.uu.m (vO T) c0 T.uu.b (ca (pv 1) (Ea 2)))))
   (qa (qb (zb Od (Pa Ab (pv 2) ra) La (sb _))
   (qa (Ub (Ib (pv 0) T.Va T.vu.m (uO T) c0 T.vu.b (ca (pv 1) (Ea 2)))))
   (qa (Ub (yz (pv 0) T.Va T.Rq.m ((yO T).mono (by decide)) c0 T.Rq.b .nil (UG λ_ _ _ z=>z) (ca (pv 1) (Ea 2))))))))))
   (qa (Mc (pv 1) (Pg (pv 1) T.Ua T.Qo.m (aD T) c0 T.Qo.b) rfl))))),?_⟩
  show let q0:TS:=_;let u0:TS:=ma (lb _ _ (lb _ _ (lb _ _ _))) q0;let v0:TS:=ma _ u0;let w0:TS:=_;let x0:TS:=ma _ w0;ma (lb _ x0 _) v0 _ _ _
  intros;have bx:=L.bx;have F0:=pf L.cf.nr;obtain⟨b1,d1,e1,f1,g1,h1,i1⟩:=L.pu.ln;have Wh:=bx.sub _ _ L.cf.Wh;refine⟨_,rfl,x 3,c.ax,_,rfl,bx.get 3 rfl,rfl,x 3,c.ax,c.de,Wd c x S,(S.ms.pl:Int),c.qs,rfl,bx.get 3 rfl,rfl,rfl,Wh,_,rfl,bb (λe=>?_) (λe=>?_)⟩
  ·have ep:S.ms.pl=g.ua.length:=by have:=Ed e;lia
   have l0:Sb g.fs g.ua S.ms=(S.ms,[.str "kept",.tuple (Lf S.ms.ds)]):=by
    unfold Sb;rw[ep,List.getElem?_eq_none (Ra _)]
   refine⟨_,rfl,x 0,c.hx,_,rfl,bx.get 0 rfl,rfl,_,rfl,g,U,x,c,S,b,rfl,C0,G,L,h0,D0,i0,λj0 H' E G0 H0 y0 I0 J0 K0=>?_⟩;exact s0 j0 H' E G0 H0 (by rw[l0];exact y0) (by rw[l0,y0]) (by rw[l0];exact I0) J0 K0
  ·have lt:S.ms.pl<g.ua.length:=by
    have:¬(S.ms.pl:Int)=(c.qs.length:Int):=λz=>e (Ec z)
    lia
   obtain⟨d,d0⟩:∃d,g.ua[S.ms.pl]?=some d:=⟨_,Dc lt⟩;obtain⟨v,hv,q,rfl,e0⟩:=RB L.cf.nr d0;have l0:Sb g.fs g.ua S.ms=Sd g.fs g.ua.length S.ms d:=by
    unfold Sb;rw[d0]
   have ok:=G.vy d (by grind);have Y:=bx.sub _ _ e0;rw[l0]at r0 s0 t0;refine⟨_,rfl,x 3,_,c.ax,_,_,rfl,bx.get 3 rfl,T.Ua,T.Xq,rfl,_,rfl,x 3,_,c.ax,_,_,rfl,bx.get 3 rfl,T.Ua,T.cp,rfl,c.de,_,_,_,rfl,rfl,ja.of Wh,Ja (j:=S.ms.pl) hv,?_⟩;rename_i q0 u0 v0 w0 x0;have fin:∀j0 H' f0 b0,aa U j0->Xd T g j0 H' f0 c b0->(∀i,i≠8->f0 i=x i)->Nx S b0 {(Sd g.fs g.ua.length S.ms d).1 with pl:=S.ms.pl} (Sd g.fs g.ua.length S.ms d).2->¬Tc (Sd g.fs g.ua.length S.ms d).2=HQ->q0 {nx:=λ_ H'=>Q .ya H',rt:=Q} [some (.ref (x 0)),some (.ref (x 3)),some (.ref q)] H':=λj0 H' f0 b0 s J hx n ne=>by
    obtain⟨g0,r,more,L0,M0,ep,N0,_⟩:=tD g.fs g.ua.length S.ms d ok lt;have o0:=J.bx.get 3 rfl;rw[hx 3 (by decide)]at o0;have z0:=J.bx.sub _ _ (s _ _ e0);rw[L0]at z0;have na:b0.ms.na=(Sd g.fs g.ua.length S.ms d).1.na:=by rw[n.1]
    have pl:b0.ms.pl=S.ms.pl:=by rw[n.1]
    refine⟨_,rfl,x 3,c.ax,_,rfl,o0,rfl,x 3,c.ax,c.de,f0 4,q,_,S.ms.pl,c.qs,r,b0.ms.na,g0,more,rfl,o0,by show V.int _=_;rw[pl],rfl,J.bx.sub _ _ J.cf.Wh,hv,z0,by rw[na];exact M0,rfl,J.bx.get 4 rfl,J.pu.ai,?_⟩;rw[F0,ep];refine⟨_,rfl,x 3,_,c.ax,_,rfl,o0,T.Ua,T.cp,wb,?_⟩;have A0:Bx j0 _ f0 (fL T c f0 {b0 with ms:=(Sd g.fs g.ua.length S.ms d).1}):=(J.bx.put 3 (.ins T.Cb c.ax (Wd c f0 {b0 with ms:=(Sd g.fs g.ua.length S.ms d).1}).fs) rfl).nc (Sc rfl rfl rfl rfl (by show some (HO.dK _)=some (HO.dK b0.ms.na);rw[na]) (by show some (HO.dK (Ka _))=some (HO.dK (Ka b0.ms.ds));rw[n.1]) rfl rfl rfl);rw[hx 3 (by decide)]at A0;obtain⟨O0,Q0,R0,S0,U0,V0,j1⟩:=J.pu.ln;refine r0 j0 _ f0 _ s ⟨A0,J.cf,J.tld,J.lks,⟨?_,by show ze (Sd _ _ _ _).1.na;rw[<-na];exact J.pu.ai,?_,⟨?_,Q0,R0,by show(Sd _ _ _ _).1.na.length<=_;rw[<-na];exact S0,U0,V0,N0⟩,J.pu.zf,J.pu.nk⟩⟩ hx ⟨rfl,n.2.1,n.2.2.1,n.2.2.2⟩ ne
    ·have:=J.pu.qh;rw[n.1]at this;exact this
    ·have:=J.pu.nd;rw[n.1]at this;exact this
    ·have:=O0;rw[n.1]at this;exact this
   have n0:∀{A:Prop},(∀O a0,d≠.stop O a0)->(∃O a0,d=.stop O a0/\oI O S.ms.na<oI a0 S.ms.na)->A:=λh⟨O,a0,e,_⟩=>absurd e (h O a0)
   have k0:S.td.length<50:=by lia
   cases d with
   |look g0 p0 O a0=>
    obtain⟨r,W0⟩:∃r,(De.look g0 p0 O a0).vs=.str g0::r:=⟨if g0="read"then[.str p0,kV O]else[.str p0,kV O,kV a0],by show(if g0="read"then _ else _)=_;split<;>rfl⟩;have B0:=Y;rw[W0]at B0;refine⟨_,rfl,q,_,_,_,rfl,rfl,xa.of B0,Ja (j:=0) rfl,T.ek,[.str "read",.str "sum",.str "count"],rfl,.inr (T.ip _),rfl,rfl,_,rfl,bb (λ_=>?_) (λz=>absurd (by rcases ok with⟨y,_⟩|y|y<;>(rw[y];decide+kernel)) z)⟩;exact⟨_,rfl,x 0,c.hx,_,rfl,bx.get 0 rfl,rfl,_,rfl,_,rfl,g,U,x,c,S,b,q,_,rfl,G,L,h0,k0,i0,hv,e0,d0,ok,trivial,fin,λ_=>n0 (λ_ _ z=>by cases z)⟩
   |put O a0=>
    refine⟨_,rfl,q,_,_,_,rfl,rfl,xa.of Y,Ja (j:=0) rfl,T.ek,[.str "read",.str "sum",.str "count"],rfl,.inr (T.ip _),rfl,rfl,_,rfl,bb (λz=>absurd z (by decide+kernel)) (λ_=>?_)⟩;refine⟨_,rfl,q,_,_,_,rfl,rfl,xa.of Y,Ja (j:=0) rfl,T.Ol,[.str "put",.str "take"],rfl,.inr (T.Zq _),rfl,rfl,_,rfl,bb (λ_=>?_) (λz=>absurd (by decide+kernel) z)⟩;exact⟨_,rfl,x 0,c.hx,_,rfl,bx.get 0 rfl,rfl,_,rfl,_,rfl,g,U,x,c,S,b,q,_,rfl,G,L,h0,k0,i0,hv,e0,d0,ok,trivial,fin,λ_=>n0 (λ_ _ z=>by cases z)⟩
   |take O=>
    refine⟨_,rfl,q,_,_,_,rfl,rfl,xa.of Y,Ja (j:=0) rfl,T.ek,[.str "read",.str "sum",.str "count"],rfl,.inr (T.ip _),rfl,rfl,_,rfl,bb (λz=>absurd z (by decide+kernel)) (λ_=>?_)⟩;refine⟨_,rfl,q,_,_,_,rfl,rfl,xa.of Y,Ja (j:=0) rfl,T.Ol,[.str "put",.str "take"],rfl,.inr (T.Zq _),rfl,rfl,_,rfl,bb (λ_=>?_) (λz=>absurd (by decide+kernel) z)⟩;exact⟨_,rfl,x 0,c.hx,_,rfl,bx.get 0 rfl,rfl,_,rfl,_,rfl,g,U,x,c,S,b,q,_,rfl,G,L,h0,k0,i0,hv,e0,d0,ok,trivial,fin,λ_=>n0 (λ_ _ z=>by cases z)⟩
   |lt p0 O z a0=>
    refine⟨_,rfl,q,_,_,_,rfl,rfl,xa.of Y,Ja (j:=0) rfl,T.ek,[.str "read",.str "sum",.str "count"],rfl,.inr (T.ip _),rfl,rfl,_,rfl,bb (λz=>absurd z (by decide+kernel)) (λ_=>?_)⟩;refine⟨_,rfl,q,_,_,_,rfl,rfl,xa.of Y,Ja (j:=0) rfl,T.Ol,[.str "put",.str "take"],rfl,.inr (T.Zq _),rfl,rfl,_,rfl,bb (λz=>absurd z (by decide+kernel)) (λ_=>?_)⟩;refine⟨_,rfl,q,_,_,_,rfl,rfl,xa.of Y,Ja (j:=0) rfl,rfl,_,rfl,Nh rfl ?_⟩;exact⟨_,rfl,x 0,c.hx,_,rfl,bx.get 0 rfl,rfl,_,rfl,_,rfl,g,U,x,c,S,b,q,_,rfl,G,L,h0,k0,i0,hv,e0,d0,ok,trivial,fin,λ_=>n0 (λ_ _ z=>by cases z)⟩
   |skip O a0 k=>
    refine⟨_,rfl,q,_,_,_,rfl,rfl,xa.of Y,Ja (j:=0) rfl,T.ek,[.str "read",.str "sum",.str "count"],rfl,.inr (T.ip _),rfl,rfl,_,rfl,bb (λz=>absurd z (by decide+kernel)) (λ_=>?_)⟩;refine⟨_,rfl,q,_,_,_,rfl,rfl,xa.of Y,Ja (j:=0) rfl,T.Ol,[.str "put",.str "take"],rfl,.inr (T.Zq _),rfl,rfl,_,rfl,bb (λz=>absurd z (by decide+kernel)) (λ_=>?_)⟩;refine⟨_,rfl,q,_,_,_,rfl,rfl,xa.of Y,Ja (j:=0) rfl,rfl,_,rfl,vf (λe=>absurd (V.str.inj e) (by decide+kernel)) ?_⟩;exact⟨_,rfl,x 0,c.hx,_,rfl,bx.get 0 rfl,rfl,_,rfl,_,rfl,g,U,x,c,S,b,q,_,rfl,G,L,h0,k0,i0,hv,e0,d0,ok,trivial,fin,λ_=>n0 (λ_ _ z=>by cases z)⟩
   |stop O a0=>
    refine⟨_,rfl,q,_,_,_,rfl,rfl,xa.of Y,Ja (j:=0) rfl,T.ek,[.str "read",.str "sum",.str "count"],rfl,.inr (T.ip _),rfl,rfl,_,rfl,bb (λz=>absurd z (by decide+kernel)) (λ_=>?_)⟩;refine⟨_,rfl,q,_,_,_,rfl,rfl,xa.of Y,Ja (j:=0) rfl,T.Ol,[.str "put",.str "take"],rfl,.inr (T.Zq _),rfl,rfl,_,rfl,bb (λz=>absurd z (by decide+kernel)) (λ_=>?_)⟩;refine⟨_,rfl,q,_,_,_,rfl,rfl,xa.of Y,Ja (j:=0) rfl,rfl,_,rfl,vf (λe=>absurd (V.str.inj e) (by decide+kernel)) ?_⟩;refine⟨_,rfl,x 0,c.hx,_,rfl,bx.get 0 rfl,rfl,_,rfl,_,rfl,g,U,x,c,S,b,q,_,rfl,G,L,h0,k0,i0,hv,e0,d0,ok,trivial,fin,λk1 X0 ex g0 H' s hx Y0=>t0 ?_ ex g0 H' s hx Y0⟩;obtain⟨_,_,e,lt'⟩:=X0;cases e;show(if _ then _ else _)=_;rw[Ca lt']
def RO(T:Tx K mg):T.ru.Ok mg P w base 10 (GO T base):=by
 refine Qa T.ru.F λ{_ _ _ s}H _ _ E O h=>?_
 ·obtain⟨g,U,x,c,S,rfl,f0,G,L,c0,d0,g0,h0⟩:=h;refine⟨_,(oa (Ub (Ib (pv 1) T.Ua T.Yt.m (DN T) O T.Yt.b (va (Ia K 0))))
   (qa (JJ (j:=2) (ho:=λq C d=>Ts q C d) (ho2:=λq C d=>Ts q C d) (HJ (pv 0) T.Va T.Qq.m ((QO T).mono (by decide)) O T.Qq.b (Ea 1)) T.xL rfl T.yL rfl (by show(rf _).Nodup;decide+kernel) rfl rfl rfl rfl (λq=>(qa (Ub (qt (pv 0) T.Va T.Sq.m ((OO T).mono (by decide)) O.m T.Sq.b (ca (pv 1) (va (xH K rfl (pv 2) rfl))))))) (λq=>(qa io)) (λ_ _ _ _ _ Y=>xA Y) (λ_ _ _ _ _ Y=>xA Y)))),?_⟩
  show let i0:TS:=_;ma _ i0 _ _ _
  intros;have bx:=L.bx;refine⟨_,rfl,x 3,c.ax,_,rfl,bx.get 3 rfl,rfl,_,rfl,x 0,_,c.hx,_,_,rfl,bx.get 0 rfl,T.Va,T.kj,rfl,x 3,c.ax,Wd c x S,S.st,rfl,bx.get 3 rfl,?_,?_⟩
  ·show vl S.bg=.ya\/∃i:Int,vl S.bg=.int i;cases S.bg with
   |none=>exact .inl rfl
   |some b=>exact .inr ⟨b,rfl⟩
  have J:Xd T g U _ x c {S with bg:=some (S.bg.getD S.st)}:=⟨(bx.put 3 (.ins T.Cb c.ax {Wd c x S with b:=xn (Wd c x S).b S.st,ph:=.str "going"}.fs) rfl).nc (Sc rfl rfl rfl ?_ rfl rfl rfl rfl rfl),L.cf,L.tld,L.lks,⟨L.pu.qh,L.pu.ai,L.pu.nd,L.pu.ln,L.pu.zf,λb e=>?_⟩⟩
  ·generalize upd H (x 3) (.ins T.Cb c.ax {Wd c x S with b:=xn (Wd c x S).b S.st,ph:=.str "going"}.fs)=x0 at J⊢;refine⟨_,rfl,x 0,c.hx,_,rfl,J.bx.get 0 rfl,rfl,_,rfl,g,U,x,c,_,_,rfl,f0,G,J,c0,d0,rfl,λa0 H' j0 k0 s l0 hx n ne=>g0 a0 H' j0 k0 s l0 hx n.1 n.2.1 n.2.2.1 ne,by grind,λn0 ex o0 H' s hx p0=>⟨T.sf,rfl,.inl ⟨T.wL,λq q0=>?_⟩⟩⟩;have b0:=aa.upd (o:=Ts q T.sf (some ex)) q0;have L2:=J.same (s.trans b0);exact⟨_,rfl,x 0,c.hx,_,rfl,L2.bx.get 0 rfl,rfl,_,rfl,_,rfl,q,T.sf,ex,_,_,_,rfl,ia,λh z=>z,b0 _ _ hx,T.WK,T.Ux,T.mC,rfl,g,U,x,c,_,_,o0,rfl,b0 _ _ p0,L2,c0,d0,rfl,λa0 r0 E s0 y0 t0 u0 v0=>h0 a0 r0 E s0 (by grind) (by rw[n0];exact t0) u0 λz0 h=>h.sub.trans v0⟩
  ·show some (HO.ins _ _ (DF.fs _))=some (HO.ins _ _ (DF.fs _));cases e:S.bg with
   |none=>simp[Wd,e,xn,vl]
   |some b=>simp[Wd,e,xn,vl]
  ·cases e0:S.bg with
   |none=>
    grind
   |some w0=>
    rw[e0]at e;cases e;exact L.pu.nk w0 e0
def SO(T:Tx K mg):T.mu.Ok mg P w base 11 (JO T base):=by
 refine Qa T.mu.F λ{_ _ _ s}_ _ Q E Y h=>?_
 ·obtain⟨g,q0,x,c,n,rfl,A0,G,R0,hz,k⟩:=h;have S0:=yc Y;refine⟨_,(oa (Ya 2 (Ib (pv 0) T.Va T.xf.m (Wl T) Y T.xf.b (Ea 1)))
   (oa (Ya 3 (Nb Ue (by rfl) T.Ye Pe (va (Ia K 0))))
   (oa (pF (pv 0) ra rF)
   (oa (qb (rc (Pg (pv 2) T.Ua T.Wt.m (CN T) Y T.Wt.b))
   (qa (Ub (Ib (pv 0) T.Va T.Jf.m (yn T).ok Y T.Jf.b (ca (pv 2) (va (Hb (va La)))))))
   (qa (Ub (Ib (pv 0) T.Va T.ru.m (RO T) Y T.ru.b (Ea 2)))))
   (qa (Ha (oo ls (Ia K 0) (Lm (pv 3)) fq))))))),?_⟩
  show let j0:TS:=_;let r0:TS:=ma (lb _ _ _) j0;let s0:TS:=ma _ r0;let t0:TS:=ma _ s0;ma _ t0 _ _ _
  intros;rename_i j0 r0 s0 t0;have fin:∀H' J tv,(∀i,i≠8->J i=x i)->Hz T g q0 H' J c (vb g.fs g.ua (n+1)) (n+1)->(∃sp st,H' (x 0)=some (.ins T.ub c.hx (Oe c J sp st).fs))->H' (J 2)=some (.lst tv)->∀(m:Nat),j0 {nx:=λ_ H'=>Q .ya H',rt:=Q} [some (.ref (x 0)),some (.int 1),some (.ref (x 3)),some (.int m)] H':=λH' J tv hx B0⟨sp,st,e0⟩C0 m=>by
   refine⟨_,rfl,x 0,_,c.hx,_,_,rfl,e0,T.Va,T.Il,rfl,_,rfl,_,rfl,J 2,_,rfl,ja.of C0,λp D0=>k p _ J (B0.same (aa.upd D0)) hx⟩
  rcases hz with⟨en,U,S,f0,L,F0,k0,b0,g0⟩|⟨en,U,E,f0,D,k0,b0,g0,G0⟩
  ·have bx:=L.bx;refine⟨_,rfl,x 0,c.hx,_,rfl,bx.get 0 rfl,rfl,_,rfl,x 0,c.hx,c.dl,x 3,_,rfl,bx.get 0 rfl,rfl,bx.sub _ _ L.cf.dls,?_⟩;refine⟨_,rfl,x 0,_,c.hx,_,_,rfl,bx.get 0 rfl,T.Va,T.Il,rfl,_,_,rfl,.inl ⟨_,ja.of (bx.get 2 rfl),rfl⟩,?_⟩;refine⟨_,rfl,x 0,_,c.hx,_,_,rfl,bx.get 0 rfl,T.Va,T.kj,rfl,S.st,1,rfl,rfl,c.hx,_,bx.get 0 rfl,Hc,?_⟩;have u0:Xd T g U _ x c {S with st:=S.st+1}:=⟨(bx.put 0 (.ins T.ub c.hx (Oe c x c.sp (S.st+1)).fs) rfl).nc (Sc rfl rfl rfl rfl rfl rfl rfl rfl rfl),L.cf,L.tld,L.lks,⟨L.pu.qh,L.pu.ai,L.pu.nd,L.pu.ln,L.pu.zf,L.pu.nk⟩⟩;have a0:=u0.bx;refine⟨_,rfl,x 3,c.ax,_,rfl,a0.get 3 rfl,rfl,x 3,c.ax,_,_,rfl,a0.get 3 rfl,rfl,_,rfl,bb (λz=>absurd z ?_) (λ_=>?_)⟩
   ·split<;>decide+kernel
   have O:vb g.fs g.ua (n+1)=⟨(Sb g.fs g.ua S.ms).1,(Sb g.fs g.ua S.ms).2,S.td++[av (S.st+1) (Sb g.fs g.ua S.ms).2]⟩:=by
    show(if Tc (vb g.fs g.ua n).en=HQ then _ else _)=_;rw[Ba (by grind),F0,k0,b0];rfl
   refine⟨_,rfl,x 0,c.hx,_,rfl,a0.get 0 rfl,rfl,_,rfl,g,U,x,c,_,rfl,A0,G,u0,by grind,by show S.td.length<41;have:=Ay (fs:=g.fs) G.vy n en;have:=G.bO;lia,λl0 H' J v0 s n0 hx h0 c0 o0 ne=>?_,λl0 H' E D h0 c0 o0 H0=>?_⟩
   ·have e0:=n0.bx.get 0 rfl;rw[hx 0 (by decide)]at e0;refine fin H' J v0.tv hx (.inl (⟨?_,nx12 l0 v0 (f0.same s) n0 ?_ ?_ ?_ ?_⟩)) ⟨_,_,e0⟩ (n0.bx.get 2 rfl) _
    ·grind
    ·rw[O];exact h0
    ·rw[O];exact c0
    ·rw[o0];show S.st+1=_;rw[b0];rfl
    ·rw[c0,gi,g0];rfl
   ·refine fin H' x E.tv (λ_ _=>rfl) (.inr (⟨?_,nx12 l0 E (H0 q0 f0) D ?_ ?_ ?_ ?_⟩)) ⟨_,_,D.bx.get 0 rfl⟩ (D.bx.get 2 rfl) _
    ·rw[O];rcases h0 with⟨_,_,z⟩|⟨_,z⟩
     ·show Tc (Sb _ _ _).2=HQ;rw[z];exact vD
     ·show Tc (Sb _ _ _).2=HQ;rw[z];exact LO
    ·rw[O];exact c0
    ·rw[o0];show S.st+1=_;rw[b0];rfl
    ·rw[c0,gi,g0];rfl
    ·rw[O];exact h0
  ·have bx:=D.bx;refine⟨_,rfl,x 0,c.hx,_,rfl,bx.get 0 rfl,rfl,_,rfl,x 0,c.hx,c.dl,x 3,_,rfl,bx.get 0 rfl,rfl,bx.sub _ _ D.dls,?_⟩;refine⟨_,rfl,x 0,_,c.hx,_,_,rfl,bx.get 0 rfl,T.Va,T.Il,rfl,_,_,rfl,.inl ⟨_,ja.of (bx.get 2 rfl),rfl⟩,?_⟩;refine⟨_,rfl,x 0,_,c.hx,_,_,rfl,bx.get 0 rfl,T.Va,T.kj,rfl,E.st,1,rfl,rfl,c.hx,_,bx.get 0 rfl,Hc,?_⟩;rw[show Jd "stamp" (V.int (E.st+1)) (Oe c x E.sp E.st).fs=(Oe c x E.sp (E.st+1)).fs from rfl];have a0:=bx.put 0 (.ins T.ub c.hx (Oe c x E.sp (E.st+1)).fs) rfl;have w0:=a0.sub _ _ D.obj;refine⟨_,rfl,x 3,c.ax,_,rfl,w0,rfl,x 3,c.ax,_,_,rfl,w0,D.rr,_,rfl,bb (λ_=>?_) (λz=>absurd ?_ z)⟩
   ·refine⟨_,rfl,x 0,c.hx,_,rfl,a0.get 0 rfl,rfl,_,rfl,jb,λt I0=>?_⟩;have i0:=a0.same (aa.upd (o:=HO.tup [.str "idle"]) I0);have U0:=D.tld.len;have V0:=D.ln.2.2;refine nx3 (x 0) c.hx (x 3) c.ax t (x 2) _ (nx6 _ _ E.tv rfl (i0.get 0 rfl) (i0.sub _ _ D.obj) ia (by simp) (by show 1<1000;decide) rfl (i0.get 2 rfl) ⟨by lia,λr H' Y x0 B=>?_⟩);have y0:=i0.but 2 rfl x0 B;rw[D.dn]at Y;obtain⟨J0,q,W0,K0⟩:=zy (E:={E with st:=E.st+1,tv:=E.tv++[.ref r],td:=E.td++[.tuple [.int ((n+1:Nat):Int),.int 1,.str "idle"]]}) y0 rfl rfl;have z0:E.st+1=((n+1:Nat):Int):=by rw[b0];rfl
    have O:vb g.fs g.ua (n+1)={vb g.fs g.ua n with td:=E.td++[.tuple [.int ((n+1:Nat):Int),.int 1,.str "idle"]]}:=by
     show(if Tc (vb g.fs g.ua n).en=HQ then _ else _)=_;rw[Ca en,k0]
    refine fin H' x (E.tv++[.ref r]) (λ_ _=>rfl) (.inr (⟨by rw[O];exact en,nx12 _ ({E with st:=E.st+1,tv:=E.tv++[.ref r],td:=E.td++[.tuple [.int ((n+1:Nat):Int),.int 1,.str "idle"]]}) (f0.trans q) ⟨J0,(D.tld.same (He λ_ _ e=>q _ _ e)).app (.cons (.tup (Tf (K0 _ _ Y)) (.cons (by rw[z0];exact .int _) (.cons (.int _) (.cons (.str _) .nil)))) .nil),q _ _ D.dls,q _ _ D.obj,D.dn,D.wy,D.xy,D.rr,D.why.imp id (by rintro⟨y,L0,d0,p0⟩;exact⟨y,L0,d0,q _ _ p0⟩),q _ _ D.lev,D.shl.same q,D.sps.imp (by rintro⟨y,s',M0,N0,O0,d0,p0,Q0⟩;exact⟨y,nx19 s' M0 N0 O0 (q _ _ d0) ⟨q _ _ p0,q _ _ Q0⟩⟩) (by rintro⟨y,d0⟩;exact⟨y,q _ _ d0⟩),q _ _ D.lok,Paired.ib D.lks λ_ _ y=>y.same q,D.qh,D.nd,⟨D.ln.1,D.ln.2.1,by simp;lia⟩,D.zf,⟨D.rp.1,D.rp.2.1,by show E.e<=E.st+1;have:=D.rp.2.2;lia⟩⟩ (by rw[O]) z0 (by simp;exact g0) (by rw[O];exact G0)⟩)) ⟨_,_,y0.get 0 rfl⟩ x0 _
   ·split<;>decide+kernel
def wD:∀k:Nat,Paired (λ(v:V)(_:Int)=>v=.int 1) (List.replicate k (.int 1)) (List.replicate k (1:Int))
 |0=>.nil
 |k+1=>.cons rfl (wD k)
def xD(xs:List V)(k:Nat):vi xs (some (k:Int)) none=xs.drop k:=by
 unfold vi;rw[HT.Kj,HT.ui];by_cases h:k<=xs.length
 ·rw[Nat.min_eq_left h,List.take_of_length_le (by rw[Kn];exact Ra _)]
 ·rw[List.drop_eq_nil_of_le (by lia),List.drop_eq_nil_of_le (by lia),List.take_nil]
def UO(T:Tx K mg):T.nu.Ok mg P w base 12 (KO T base):=by
 refine Qa T.nu.F λ_ _ _ _ q0 h=>?_
 ·obtain⟨g,a0,x,c,c0,l,rfl,C0,G,hk,D0,hz,k⟩:=h;refine⟨_,(oa (Io 2 ["number"] (by show(rf _).Nodup;decide+kernel) ["self"] [0] (Yb (pv 1)) (Ac 0) nf (Ib (pv 1) T.Va T.xf.m (Wl T) q0 T.xf.b (Ea 0)))
   (oa (Ya 3 (Nb Ue (by rfl) T.Ye Pe (va (Ia K 0))))
   (oa (re me rfl (Yb (pv 2)) (Kd 4)
   (qa (Ub (Ib (pv 0) T.Va T.mu.m (SO T) q0 T.mu.b (va (Ia K 4))))))
   (qa (Ha (oo ls (Ia K 0) (Lm (pv 3)) fq)))))),?_⟩
  show let e0:TS:=_;let F0:TS:=ma (qe _ _ _) e0;let G0:TS:=ma _ F0;ma _ G0 _ _ _
  intros;obtain⟨f1,U,S,b0,L,H0,I0,J0,r0⟩:=hz.resolve_right λh=>absurd h.1 (by show¬Tc [.str "new"]=HQ;simp[Tc];decide+kernel)
  have bx:=L.bx;have s0:=bx.sub _ _ (b0.sub _ _ D0);have g1:(45:Nat)<=JQ:=by decide
  refine⟨_,rfl,l,rfl,⟨_,ja.of s0⟩,sg (k:=1) (fs:=[some (.ref (x 0))]) (λ_ v (_:Int)=>v=.ref (x 3)) (λ_ v (n:Int)=>v=.int 1) (List.replicate c0 1) some (by grind) (by grind) rfl s0 (wD c0) (by rw[List.length_replicate];lia) ?_ λD K0 ys t0 s1 u0 v0=>?_⟩
  ·rintro n h1 J i1 v R L0 M0 rfl N0 _;obtain⟨w0,rfl⟩:=Be.mp M0;have h0:=bx.same L0;exact jd (B:=False) ⟨_,rfl,x 0,c.hx,_,rfl,h0.get 0 rfl,rfl,_,rfl,x 0,c.hx,c.dl,x 3,_,rfl,h0.get 0 rfl,rfl,h0.sub _ _ L.cf.dls,N0 _ _ [_] _ rfl rfl (aa.refl _) rfl⟩
  have O0:ys.length=c0:=by rw[pf v0];simp
  have Q0:=bx.more t0 u0 s1;have x0:U D=none:=bx.free t0;have i0:aa U (upd U D (.lst ys)):=aa.upd x0;have R0:aa a0 (upd a0 D (.lst ys)):=aa.upd (b0.sub.free x0);have S0:Hz T g (upd a0 D (.lst ys)) K0 x c (vb g.fs g.ua 0) 0:=.inl (⟨rfl,nx12 _ S ⟨λb o e=>?_,λb ps e=>?_,?_,λU0 z=>?_⟩ ⟨Q0,L.cf.same i0,L.tld.same (He λ_ _ e=>i0 _ _ e),Paired.ib L.lks λ_ _ y=>y.same i0,L.pu⟩ H0 I0 J0 r0⟩)
  ·have w0:S.tv=[]:=by
    have:=L.tld.len;rw[r0]at this;exact List.eq_nil_of_length_eq_zero this
   have y0:=(bx.same s1).get 2 rfl;rw[w0]at y0;refine⟨_,rfl,x 0,_,c.hx,_,_,rfl,(bx.same s1).get 0 rfl,T.Va,T.Il,rfl,_,_,rfl,.inl ⟨_,ja.of y0,rfl⟩,?_⟩;have j0:∀{J q r n},Hz T g (upd a0 D (.lst ys)) J q c r n->J D=some (.lst ys)/\∃sp st tv,J (q 0)=some (.ins T.ub c.hx (Oe c q sp st).fs)/\J (q 2)=some (.lst tv)/\Gb (tp J) tv r.td/\∃k0 l0,J (q 3)=some (.ins T.Cb k0 (DF.fs l0))/\l0.n=.int 1:=λh=>by
    rcases h with⟨_,n0,V0,Y,L2,_,o0,_⟩|⟨_,n0,W0,Y,O,o0,_⟩
    ·exact⟨L2.bx.sub _ _ (Y.sub _ _ ia),nx2 _ _ _ (L2.bx.get 0 rfl) (L2.bx.get 2 rfl) (by rw[<-o0];exact L2.tld.same (He λ_ _ e=>L2.bx.sub _ _ e)) (nx5 _ _ (L2.bx.get 3 rfl) rfl)⟩
    ·exact⟨O.bx.sub _ _ (Y _ _ ia),nx2 _ _ _ (O.bx.get 0 rfl) (O.bx.get 2 rfl) (by rw[<-o0];exact O.tld.same (He λ_ _ e=>O.bx.sub _ _ e)) (nx5 _ _ (O.bx.sub _ _ O.obj) O.dn)⟩
   refine⟨_,rfl,D,rfl,⟨_,ja.of u0⟩,eh (K:=K) (a:=D) (xs:=ys) (λi f0 J=>∃q p0,f0=[some (.ref (x 0)),some (.ref l),some (.ref D),some (.int 0),p0]/\Hz T g (upd a0 D (.lst ys)) J q c (vb g.fs g.ua i) i/\∀i,i≠8->q i=x i) (nx0 x none rfl S0 λ_ _=>rfl) (by rintro i f0 J _⟨_,_,_,z,_⟩;exact ja.of (j0 z).1) ?_ ?_⟩
   ·rintro i y f0 J z0⟨q,p0,rfl,z,hx⟩;obtain⟨_,_,rfl⟩:=jl v0 (Cg z0);obtain⟨_,sp,st,tv,d0,_,_,k0,l0,A0,dn⟩:=j0 z;rw[hx 0 (by decide)]at d0;rw[hx 3 (by decide)]at A0;have hi:=(ee.mp z0).1;refine⟨_,rfl,x 0,c.hx,_,rfl,d0,rfl,_,rfl,x 3,_,k0,_,_,rfl,A0,T.Ua,T.Gi,rfl,g,upd a0 D (.lst ys),q,c,i,by grind,C0,G,by lia,z,λp X0 Y0 Z0 a1=>nx0 Y0 _ rfl Z0 λj B0=>(a1 j B0).trans (hx j B0)⟩
   ·rintro f0 J⟨q,p0,rfl,z,hx⟩;rw[O0]at z;obtain⟨_,sp,st,tv,d0,b1,d1,_⟩:=j0 z;rw[hx 0 (by decide)]at d0;refine⟨_,rfl,x 0,_,c.hx,_,_,rfl,d0,T.Va,T.Il,rfl,_,rfl,_,rfl,q 2,_,rfl,ja.of b1,λp g0=>?_⟩;have e1:vi tv (some 0) none=tv:=by
     have:=xD tv 0;simpa using this
    rw[e1];have e0:=z.less R0;refine k p tv _ q (λX0 c0=>e0.same λb o e=>have n:b≠p:=λy=>by{rw[y,g0]at e;cases e};c0 b o n (by rw[ka n];exact e)) hx ia (d1.same (He λ_ _ e=>aa.upd g0 _ _ e)) ?_;rcases e0 with⟨_,n0,V0,Y,L2,_⟩|⟨_,n0,W0,Y,O,_⟩
    ·exact Y.sub.free (L2.bx.free g0)
    ·exact Y.free (O.bx.free g0)
  ·by_cases z:b=D
   ·rw[z,ia]at e⊢;exact e
   ·rw[ka z]at e⊢;exact b0.sub _ _ e
  ·by_cases z:b=D
   ·rw[z,ia]at e;cases e
   ·rw[ka z]at e;exact b0.Wb b ps e
  ·rw[ka λz=>by have:=L.cf.shl.dict;grind];exact b0.sd
  ·rw[ka λy=>by obtain⟨us,j1⟩:=L.cf.shl.ent.tracked z;grind];exact b0.kv U0 z
--@cc
open Shf
def pk(o:HO):Prop:=(∃us,o=.lst us)\/∃q,o=.dK q
noncomputable def yp(U:Hp)(P:FQ->Prop):Hp:=λb=>open Classical in if P b\/∀o,U b=some o->¬pk o then U b else none
def rh{P:FQ->Prop}(e:U b=some o)(h:P b\/¬pk o):yp U P b=some o:=by
 unfold yp
 grind
def By{P:FQ->Prop}(e:yp U P b=some o):U b=some o/\(P b\/¬pk o):=by
 unfold yp at e
 grind
def Cy:¬pk (.tup xs):=by rintro(⟨_,z⟩|⟨_,z⟩)<;>cases z
def dv:¬pk (.ins C x fs):=by rintro(⟨_,z⟩|⟨_,z⟩)<;>cases z
def VO{ps}:¬pk (.Wb ps):=by rintro(⟨_,z⟩|⟨_,z⟩)<;>cases z
def Xd.cut{K:W.Frag}{mg:Str->Option EQ}{T:Tx K mg}{g:Gm}{U H q:Hp}{x:Nat->FQ}{c:Cn}{S:Sx}(L:Xd T g U H x c S)(e:S.lks=[])(P:FQ->Prop)(J:P c.sd)(O:P c.dl)(Y:P c.sp)(a0:P c.de)(b0:∀l,V.ref l∈c.kvs.map (·.2)->P l)(c0:∀i<9,∀o,fL T c x S i=some o->P (x i)\/¬pk o)
  (k:∀b o,P b\/¬pk o->H b=some o->q b=some o):Xd T g (yp U P) q x c S:=by
 refine⟨⟨λi hi o z=>k _ _ (c0 i hi o z) (L.bx.at_ i hi o z),L.bx.inj,λb o z=>k b o (By z).2 (L.bx.sub _ _ (By z).1),λi hi o z=>?_⟩,⟨xp L.cf.shl (rh L.cf.shl.obj (.inr dv)) (λe0 z=>rh z (.inl J)) (λb us z=>rh z (.inr Cy)) (λb us z y=>rh z (.inl (b0 b y))),rh L.cf.kk (.inr dv),rh L.cf.dls (.inl O),rh L.cf.sps (.inl Y),rh L.cf.lev (.inr dv),rh L.cf.Wh (.inl a0),Paired.ib L.cf.nr (by rintro _ _⟨d0,y,z⟩;exact⟨d0,y,rh z (.inr Cy)⟩),rh L.cf.tab (.inr VO),L.cf.sep⟩,L.tld.same (He λb us z=>rh z (.inr Cy)),?_,L.pu⟩
 ·cases y:yp U P (x i)with
  |none=>rfl
  |some u=>have:=(By y).1;rw[L.bx.off i hi o z]at this;cases this
 ·have:=L.lks;rw[e]at this⊢;cases h:S.lv with
  |nil=>exact .nil
  |cons a r=>rw[h]at this;cases this
def yD:Sx:=⟨⟨[],[],0,[]⟩,0,none,.ya,[],[],[],[],[],none⟩
inductive WO{K:W.Frag}{mg:Str->Option EQ}(T:Tx K mg)(vs:List V)(H:Hp)(Q:VK)(E:XK):Prop|mk(g:Gm)(h hx r pr pt dl:FQ)(qs:List V)(_:vs=[.ref h,.ref r,.ref pr])(_:Gd g)(_:H h=some (.ins T.ub hx []))(_:H r=some (.dK (Ka g.fs)))(_:H pr=some (.lst [.ref pt]))(_:H pt=some (.tup [.str (wd g.l),.ref dl]))(_:H dl=some (.lst qs))(_:Paired (λv d=>∃q,v=.ref q/\H q=some (.tup (De.vs d))) qs g.ua)(_:H T.lp=some (.Wb #[]))(_:∀H' x c,x 0=h->(∃U,Xd T g U H' x c yD)->(∀U0,aa U0 H->U0 h=none->(∀b ps,U0 b≠some (.Wb ps))->∀H2,(∀b o,H b=none\/(∃u,U0 b=some u)\/¬pk o->H' b=some o->H2 b=some o)->Hz T g U0 H2 x c (vb g.fs g.ua 0) 0)->Za h H H'->Q .ya H')
structure XO{K:W.Frag}{mg:Str->Option EQ}(T:Tx K mg)(l:Lv)(qs:List V)(H0 H:Hp)(a ax lv lx de na dr wr lo:FQ):Prop where
 obj:H a=some (.ins T.Cb ax (XC 1 lv de na dr wr lo).fs)
 lev:H lv=some (.ins (cO T l) lx [])
 Wh:H de=some (.lst qs)
 YO:H na=some (.dK [])
 ZO:H dr=some (.dK [])
 aP:H wr=some (.dK [])
 lok:H lo=some (.lst [])
 f1:H0 a=none
 f2:H0 de=none
 f3:H0 na=none
 f4:H0 dr=none
 f5:H0 wr=none
 f6:H0 lo=none
 nd:[na,dr,wr].Nodup
 ne:de≠lo
def bP(T:Tx K mg):T.lu.Ok mg P w base 5 (WO T):=by
 refine Qa T.lu.F λH _ _ _ S0 h=>?_
 ·obtain⟨g,h,a0,r,B2,pt,dl,q1,rfl,G,r1,C2,D2,E2,F2,G2,Y1,k⟩:=h;have i4:=yc S0;refine⟨_,(oa (Mc (pv 0) (cs T.cL ((pc T).mono (by decide)) S0 rfl T.TK T.Oq.b .nil Mh (Ea 1)) rfl)
   (oa (Mc (pv 0) (zF T.bL ((PN T).mono (by decide)) S0 rfl T.SK T.du.b .nil Mh) rfl)
   (oa (Mc (pv 0) (Vd ["number","program"] [] [] (SJ rfl T.qC (Ea 2) (BF ra AF)) (xw (K:=K) (n:=2) rfl rfl (Ef (Ac 0) (Ef (Ac 1) Vk))) nf (cs T.aL ((GN T).mono (by decide)) S0 rfl T.RK T.Vt.b .nil Mh (ca (pv 0) (Ea 1)))) rfl)
   (oa (Mc (pv 0) (Zb jf) rfl)
   (oa (Mc (pv 0) ra rfl)
   (qa (Mc (pv 0) (Zb jf) rfl))))))),?_⟩
  show let s0:TS:=_;let H2:TS:=ma _ s0;let I2:TS:=ma _ H2;let J2:TS:=ma _ I2;let K2:TS:=ma _ J2;ma _ K2 _ _ _
  intros;refine⟨_,rfl,λO t1 N2 O2 P2=>?_⟩;refine nO N2 O2 P2 λj4 s1 Q2=>?_
  refine⟨O,t1,r,g.fs,rfl,Q2,s1 _ _ C2,G.nd,qc G.Ad (by decide),λU0 F0 kvs z0 S2 T2 U2=>⟨rfl,?_⟩⟩;have Z1:∀b o,H b=some o->b≠O:=λb o e z=>by grind
  have G0:aa H U0:=λb o e=>S2 b o (s1 _ _ e) (Z1 b o e)
  have a2:H F0=none:=s1.free U2;have b2:∀r0,V.ref r0∈kvs.map (·.2)->H r0=none:=λr0 z=>s1.free (T2 r0 z)
  refine⟨_,rfl,h,_,a0,_,rfl,G0 _ _ r1,T.Va,T.Hl,Ld,?_⟩;refine cg λV0 W0 (c2:V0 h=some (.ins T.ub a0 [("shelf",.ref O)]))=>?_
  intro ho H0 V2 W2 X2;refine nO V2 W2 X2 λH4 u1 Y2=>?_
  refine nx0 ho H0 rfl Y2 λb0 v1 Z2=>⟨rfl,?_⟩;have a3:∀b o,V0 b=some o->b≠ho:=λb o e z=>by grind
  have w1:aa V0 (upd (upd H4 b0 (.dK [])) ho (.ins T.wf H0 [("taken",.ref b0)])):=λb o e=>by rw[ka (a3 b o e),ka λz=>by rw[z]at e;rw[u1 _ _ e]at v1;cases v1];exact u1 _ _ e
  have b3:=ia (H:=upd H4 b0 (.dK [])) (a:=ho) (o:=HO.ins T.wf H0 [("taken",.ref b0)]);have d2:upd (upd H4 b0 (.dK [])) ho (.ins T.wf H0 [("taken",.ref b0)]) b0=some (.dK []):=by rw[ka Z2,ia]
  have c3:V0 b0=none:=u1.free v1;refine⟨_,rfl,h,_,a0,_,rfl,w1 _ _ c2,T.Va,T.Au,Md,?_⟩;refine cg λh0 x1 (e2:h0 h=some (.ins T.ub a0 [("shelf",.ref O),("holds",.ref ho)]))=>?_
  have y1:Za h U0 h0:=Za.trans (Za.trans W0 (Za.of w1)) x1;have g0:Za h H h0:=(Za.of G0).trans y1;have g2:∀b o,H b=some o->(∀C y fs,o≠.ins C y fs)->b≠h:=λb o e n z=>by grind
  have X0:=g0 _ _ (by grind) D2;have d3:=g0 _ _ (by grind) E2;have e3:=g0 _ _ (by grind) F2;refine⟨_,rfl,B2,[.ref pt],rfl,rfl,X0,?_⟩;refine VJ 1 (λi ys g3=>(i=0/\ys=[])\/∃a j0 lv z1 A0 na e0 f0 lo,i=1/\ys=[.ref a]/\XO T g.l q1 h0 g3 a j0 lv z1 A0 na e0 f0 lo) jb (by grind) (λi c0 d0 hi=>nx5 ([.ref pt]) (.ref pt) (ja.of (d0 _ _ X0)) (by grind)) (λc0 d0=>⟨[.ref pt],ja.of (d0 _ _ X0),rfl⟩) ?_ ?_
  ·rintro i D ys c0 h2 v k4 R Y0 l4 B0 d0 hi h3⟨p,u,i3,rfl,j3,rfl⟩cb;obtain⟨i2,j2,rfl⟩:∃i2 j2,h2=[i2,j2]:=by
    match h2,h3 with
    |[a,b],_=>grind
   obtain rfl:i=0:=by lia
   have k3:=i3 [.ref pt] (ja.of (d0 _ _ X0));cases k3;refine nx7 p _ rfl (xa.of ia) rfl _ _ rfl _ _ rfl rfl ?_;have sp:=aa.upd (o:=HO.tup [.int (((0:Nat):Int)+1),.ref pt]) j3;refine⟨_,rfl,_,rfl,λa j0 k2 l3 m3=>?_⟩;have l2:=aa.Hf (C:=T.Cb) k2 l3 m3;have on:=ia (H:=upd (upd c0 p (.tup [.int (((0:Nat):Int)+1),.ref pt])) j0 (.own a)) (a:=a) (o:=HO.ins T.Cb j0 []);have n3:c0 a=none:=sp.free k2;have Da:D≠a:=λz=>by grind
   generalize upd (upd (upd c0 p (.tup [.int (((0:Nat):Int)+1),.ref pt])) j0 (.own a)) a (.ins T.Cb j0 [])=m2 at l2 on⊢;have I0:=sp.trans l2;refine⟨a,j0,pt,dl,1,g.l,q1,rfl,on,I0 _ _ (d0 _ _ d3),I0 _ _ (d0 _ _ e3),λl0 lv o3 A0 na e0 f0 lo p3 q3 Z0 A1 B1 C1 D1 E1 f2 f3 f4 f5 f6 r3 s3=>⟨rfl,?_⟩⟩;have n2:aa c0 l0:=λb o e=>p3 b o (λz=>by grind) (I0 _ _ e)
   have t3:∀b o,l0 b=some o->(∀u3,o≠.lst u3)->b≠D:=λb o e n z=>by rw[z,n2 _ _ B0]at e;cases e;exact n _ rfl
   have J0:∀b,m2 b=none->b≠D:=λb e z=>by rw[z,I0 _ _ B0]at e;cases e
   refine cb (.ref a) _ l0 (.inr (nx3 a j0 lv o3 A0 na e0 (nx0 f0 lo rfl ?_ ?_))) rfl n2
   ·grind
   ·have s0:∀b,m2 b=none->h0 b=none:=λb e=>d0.free (I0.free e)
    exact⟨by rw[Rc Da.symm];exact q3,by rw[Rc (t3 _ _ Z0 λ_ z=>HO.noConfusion z)];exact Z0,by rw[Rc (J0 _ f2)];exact A1,by rw[Rc (J0 _ f3)];exact B1,by rw[Rc (J0 _ f4)];exact C1,by rw[Rc (J0 _ f5)];exact D1,by rw[Rc (J0 _ f6)];exact E1,d0.free n3,s0 _ f2,s0 _ f3,s0 _ f4,s0 _ f5,s0 _ f6,r3,s3⟩
  ·intro D ys c0 v3 m4 Y0 d0 B0;obtain⟨a,j0,lv,z1,A0,na,e0,f0,lo,_,rfl,N⟩:=v3.resolve_left (by grind);have un:∀{b:FQ}{o:HO},del c0 D b=some o->c0 b=some o/\b≠D:=λ{b o}e=>by
    by_cases z:b=D
    ·rw[z,ZB]at e;cases e
    ·rw[Rc z]at e;exact⟨e,z⟩
   refine⟨_,rfl,h,_,a0,_,rfl,d0 _ _ e2,T.Va,T.Bu,Fc,?_⟩;have a1:Za h c0 (upd c0 h (.ins T.ub a0 [("shelf",.ref O),("holds",.ref ho),("deals",.ref D)])):=Za.upd;have K0:=ia (H:=c0) (a:=h) (o:=HO.ins T.ub a0 [("shelf",.ref O),("holds",.ref ho),("deals",.ref D)]);show ma _ _ _ _ (upd c0 h (.ins T.ub a0 [("shelf",.ref O),("holds",.ref ho),("deals",.ref D)]));refine⟨Oc,λsp o2=>?_⟩;refine nw o2 λl0 F1 p2=>?_
   refine⟨_,rfl,h,_,a0,_,rfl,F1 _ _ K0,T.Va,T.hp,Xb,?_⟩;refine⟨_,rfl,h,_,a0,_,rfl,ia,T.Va,T.kj,Gc,?_⟩;rw[Bd];have b1:Za h l0 (upd l0 h (.ins T.ub a0 [("shelf",.ref O),("holds",.ref ho),("deals",.ref D),("spans",.ref sp),("stamp",.int 0)])):=Za.upd;have q2:=ia (H:=l0) (a:=h) (o:=HO.ins T.ub a0 [("shelf",.ref O),("holds",.ref ho),("deals",.ref D),("spans",.ref sp),("stamp",.int 0)]);rw[show Jd "stamp" (V.int 0) (Jd "spans" (V.ref sp) [("shelf",.ref O),("holds",.ref ho),("deals",.ref D)])=([("shelf",.ref O),("holds",.ref ho),("deals",.ref D),("spans",.ref sp),("stamp",.int 0)]:List (Str×V))from rfl];generalize upd l0 h (.ins T.ub a0 [("shelf",.ref O),("holds",.ref ho),("deals",.ref D),("spans",.ref sp),("stamp",.int 0)])=w3 at b1 q2⊢;refine⟨Oc,λY d1=>?_⟩;refine nw d1 λe1 r2 x3=>?_
   refine⟨_,rfl,h,_,a0,_,rfl,r2 _ _ q2,T.Va,T.Il,Nd,?_⟩;have G1:Za h e1 (upd e1 h (.ins T.ub a0 (HF.fs ⟨.ref O,.ref ho,.ref D,.ref sp,.int 0,.ref Y⟩))):=Za.upd;have L0:=ia (H:=e1) (a:=h) (o:=HO.ins T.ub a0 (HF.fs ⟨.ref O,.ref ho,.ref D,.ref sp,.int 0,.ref Y⟩));rw[show Jd "told_rows" (V.ref Y) [("shelf",.ref O),("holds",.ref ho),("deals",.ref D),("spans",.ref sp),("stamp",.int 0)]=HF.fs ⟨.ref O,.ref ho,.ref D,.ref sp,.int 0,.ref Y⟩from rfl];generalize upd e1 h (.ins T.ub a0 (HF.fs ⟨.ref O,.ref ho,.ref D,.ref sp,.int 0,.ref Y⟩))=J at G1 L0⊢;have s2:Za h l0 J:=(b1.trans (Za.of r2)).trans G1;have n0:Za h c0 J:=(a1.trans (Za.of F1)).trans s2;have M0:Za h h0 J:=(Za.of d0).trans n0;have g1:Za h U0 J:=y1.trans M0;have t2:Za h c0 w3:=(a1.trans (Za.of F1)).trans b1;have t0:∀{C0:Hp}{fs:List (Str×V)}{b:FQ}{o:HO},C0 h=some (.ins T.ub a0 fs)->C0 b=some o->(∀C y fs,o≠.ins C y fs)->b≠h:=λy3 e n z=>by rw[z,y3]at e;cases e;grind
   have u2:=d0 _ _ e2;have h1:=G0 _ _ r1;have i1:b0≠h:=t0 (w1 _ _ c2) d2 λ_ _ _ z=>HO.noConfusion z
   have z3:h0 b0=some (.dK []):=x1 _ _ i1 d2;have H1:a≠h:=λz=>by have:=N.f1;grind
   have I1:na≠h:=λz=>by have:=N.f3;grind
   have J1:e0≠h:=λz=>by have:=N.f4;grind
   have K1:f0≠h:=λz=>by have:=N.f5;grind
   have N0:lo≠h:=λz=>by have:=N.f6;grind
   have L1:Y≠h:=λz=>by grind
   have o0:J Y=some (.lst []):=G1 _ _ L1 x3;have i0:=n0 _ _ H1 (un N.obj).1;have u0:=n0 _ _ I1 (un N.YO).1;have v0:=n0 _ _ J1 (un N.ZO).1;have w0:=n0 _ _ K1 (un N.aP).1;have p0:=n0 _ _ N0 (un N.lok).1;have x0:=M0 _ _ i1 z3;have O0:∀b o,b≠h->c0 b=some o->b≠Y:=λb o n e z=>by rw[<-z,t2 _ _ n e]at d1;cases d1
   have A3:Y≠lo:=(O0 _ _ N0 (un N.lok).1).symm;have dd:na≠e0/\na≠f0/\e0≠f0:=by have:=N.nd;simp at this;exact⟨this.1.1,this.1.2,this.2⟩
   have hk:∀b,h0 b=none->b0≠b:=λb e z=>by grind
   have q:∀{b Q0:FQ}{o j1:HO},J b=some o->J Q0=some j1->o≠j1->b≠Q0:=λe M1 n z=>n (by grind)
   have B3:[h,b0,Y,a,na,e0,f0,lo].Nodup:=by
    have Z0:b0≠Y:=q x0 o0 λz=>HO.noConfusion z
    have A1:b0≠a:=q x0 i0 λz=>HO.noConfusion z
    have B1:b0≠lo:=q x0 p0 λz=>HO.noConfusion z
    have C1:Y≠a:=q o0 i0 λz=>HO.noConfusion z
    have D1:Y≠na:=q o0 u0 λz=>HO.noConfusion z
    have E1:Y≠e0:=q o0 v0 λz=>HO.noConfusion z
    have C3:Y≠f0:=q o0 w0 λz=>HO.noConfusion z
    have D3:a≠na:=q i0 u0 λz=>HO.noConfusion z
    have E3:a≠e0:=q i0 v0 λz=>HO.noConfusion z
    have F3:a≠f0:=q i0 w0 λz=>HO.noConfusion z
    have G3:a≠lo:=q i0 p0 λz=>HO.noConfusion z
    have H3:na≠lo:=q u0 p0 λz=>HO.noConfusion z
    have I3:e0≠lo:=q v0 p0 λz=>HO.noConfusion z
    have J3:f0≠lo:=q w0 p0 λz=>HO.noConfusion z
    simp[i1.symm,L1.symm,H1.symm,I1.symm,J1.symm,K1.symm,N0.symm,Z0,A1,hk _ N.f3,hk _ N.f4,hk _ N.f5,B1,C1,D1,E1,C3,A3,D3,E3,F3,G3,dd,H3,I3,J3]
   have N1:sp≠h:=λz=>by grind
   have K3:sp≠Y:=λz=>by have:=b1 _ _ N1 p2;grind
   have L3:sp≠lo:=λz=>by have:=a1 _ _ N0 (un N.lok).1;grind
   have M3:∀{k1:Hp},k1 h=none->∀b o,k1 b=some o->b≠h:=λu b o e z=>by grind
   let x:Nat->FQ:=λi=>[h,b0,Y,a,na,e0,f0,lo].getD i h
   let c:Cn:=⟨a0,O,t1,F0,ho,H0,D,sp,j0,lv,z1,A0,kvs,q1⟩
   let S:Sx:=⟨⟨[],[],0,[]⟩,0,none,.ya,[],[],[],[],[],none⟩
   have N3:Bx (λ_=>none) J x (fL T c x S):=by
    refine⟨Sc (λo e=>by cases e;exact L0) (λo e=>by cases e;exact x0) (λo e=>by cases e;exact o0) (λo e=>by cases e;exact i0) (λo e=>by cases e;exact u0) (λo e=>by cases e;exact v0) (λo e=>by cases e;exact w0) (λo e=>by cases e;exact p0) (λo e=>by cases e),λi hi j O3 o j1 e M1 z=>?_,λ_ _ e=>(by cases e),λ_ _ _ _=>rfl⟩;have lt:∀i<9,∀o,fL T c x S i=some o->i<8:=λi hi o e=>by
     rcases Nat.lt_or_ge i 8 with y|y
     ·exact y
     ·obtain rfl:i=8:=by lia
      cases e
    have O1:=lt i hi o e;have P1:=lt j O3 j1 M1;have ex:∀i (K0:i<8),x i=[h,b0,Y,a,na,e0,f0,lo][i]'K0:=λi K0=>by show List.getD _ _ _=_;rw[Af,Dc K0];rfl
    rw[ex i O1,ex j P1]at z;have nd:=Cp.mp B3;rcases Nat.lt_trichotomy i j with y|y|y
    ·exact absurd z (nd i j O1 P1 y)
    ·exact y
    ·exact absurd z.symm (nd j i P1 O1 y)
   obtain⟨_,Q3⟩:=N3.grow;have R0:∀b o,J b=some o->b≠h->b≠b0->b≠Y->b≠a->b≠na->b≠e0->b≠f0->b≠lo->Xc J x (fL T c x S) b=some o:=λb o e m0 R3 Q1 S3 T3 U3 V3 R1=>nl e (Sc (λ_ _=>m0.symm) (λ_ _=>R3.symm) (λ_ _=>Q1.symm) (λ_ _=>S3.symm) (λ_ _=>T3.symm) (λ_ _=>U3.symm) (λ_ _=>V3.symm) (λ_ _=>R1.symm) (λ_ z=>by cases z))
   have W3:∀b o,J b=some o->(∀C y fs,o≠.ins C y fs)->(∀v2,o≠.dK v2)->(∀us,o≠.lst us)->Xc J x (fL T c x S) b=some o:=λb o e w2 l1 x2=>R0 b o e (q e L0 (w2 _ _ _)) (q e x0 (l1 _)) (q e o0 (x2 _)) (q e i0 (w2 _ _ _)) (q e u0 (l1 _)) (q e v0 (l1 _)) (q e w0 (l1 _)) (q e p0 (x2 _))
   have S1:∀b C y fs,J b=some (.ins C y fs)->fs.length≠6->fs.length≠12->Xc J x (fL T c x S) b=some (.ins C y fs):=λb C y fs e X3 Y3=>R0 b _ e (q e L0 λz=>X3 (by cases z;rfl)) (q e x0 λz=>HO.noConfusion z) (q e o0 λz=>HO.noConfusion z) (q e i0 λz=>Y3 (by cases z;rfl)) (q e u0 λz=>HO.noConfusion z) (q e v0 λz=>HO.noConfusion z) (q e w0 λz=>HO.noConfusion z) (q e p0 λz=>HO.noConfusion z)
   have m1:∀b us,J b=some (.lst us)->b≠Y->b≠lo->Xc J x (fL T c x S) b=some (.lst us):=λb us e Q1 R1=>R0 b _ e (q e L0 λz=>HO.noConfusion z) (q e x0 λz=>HO.noConfusion z) Q1 (q e i0 λz=>HO.noConfusion z) (q e u0 λz=>HO.noConfusion z) (q e v0 λz=>HO.noConfusion z) (q e w0 λz=>HO.noConfusion z) R1
   have Z3:O≠h:=(Z1 _ _ r1).symm;have n1:∀{b:FQ}{o:HO},U0 b=some o->b≠h->h0 b=some o:=λe n=>y1 _ _ n e
   have o1:F0≠h:=t0 h1 z0.dict λ_ _ _ z=>HO.noConfusion z
   have T1:=n1 z0.dict o1;have a4:F0≠b0:=λz=>by have:=W0 _ _ o1 z0.dict;grind
   have q0:∀{b Q0:FQ}{o:HO},h0 b=some o->h0 Q0=none->b≠Q0:=λe M1 z=>by grind
   have b4:Hs K T.Jc (Xc J x (fL T c x S)) O t1 F0 kvs (m0 g.fs):=xp z0 (S1 _ _ _ _ (g1 _ _ Z3 z0.obj) (by show¬1=6;decide) (by show¬1=12;decide)) (λv2 e=>by
     have p1:=g1 _ _ o1 e;exact R0 _ _ p1 o1 a4 (q p1 o0 λz=>HO.noConfusion z) (q p1 i0 λz=>HO.noConfusion z) (q0 T1 N.f3) (q0 T1 N.f4) (q0 T1 N.f5) (q p1 p0 λz=>HO.noConfusion z))
    (λb us e=>W3 _ _ (g1 _ _ (t0 h1 e λ_ _ _ z=>HO.noConfusion z) e) (λ_ _ _ z=>HO.noConfusion z) (λ_ z=>HO.noConfusion z) λ_ z=>HO.noConfusion z)
    λb us e _=>by
     have D0:=t0 h1 e λ_ _ _ z=>HO.noConfusion z
     exact m1 _ _ (g1 _ _ D0 e) (O0 _ _ D0 (d0 _ _ (n1 e D0))) (q0 (n1 e D0) N.f6)
   have U1:D≠h:=t0 u2 B0 λ_ _ _ z=>HO.noConfusion z
   have y2:ho≠h:=λz=>by grind
   have c4:lv≠h:=λz=>by
    have:=(un N.lev).1
    grind
   have V1:A0≠h:=t0 u2 (un N.Wh).1 λ_ _ _ z=>HO.noConfusion z
   have W1:∀b o,H b=some o->b≠h->Xc J x (fL T c x S) b=some o:=λb o e n=>by
    have y0:=g0 _ _ n e;exact R0 b o (M0 _ _ n y0) n (λz=>by have:=W0 _ _ n (G0 _ _ e);grind) (O0 _ _ n (d0 _ _ y0)) (q0 y0 N.f1) (q0 y0 N.f3) (q0 y0 N.f4) (q0 y0 N.f5) (q0 y0 N.f6)
   have z2:Xd T g (Xc J x (fL T c x S)) J x c S:=by
    refine⟨Q3,⟨b4,S1 _ _ _ _ (M0 _ _ y2 (x1 _ _ y2 b3)) (by show¬1=6;decide) (by show¬1=12;decide),m1 _ _ (n0 _ _ U1 B0) (O0 _ _ U1 B0) (λz=>(un N.lok).2 z.symm),m1 _ _ (s2 _ _ N1 p2) K3 L3,S1 _ _ _ _ (n0 _ _ c4 (un N.lev).1) (by show¬0=6;decide) (by show¬0=12;decide),m1 _ _ (n0 _ _ V1 (un N.Wh).1) (O0 _ _ V1 (un N.Wh).1) N.ne,Paired.ib G2 (by rintro _ _⟨d4,e,z⟩;exact⟨d4,e,W1 _ _ z (g2 _ _ z λ_ _ _ z=>HO.noConfusion z)⟩),W1 _ _ Y1 (g2 _ _ Y1 λ_ _ _ z=>HO.noConfusion z),λz=>?_⟩,.nil,.nil,⟨rfl,ze.nil,List.nodup_nil,⟨Ra _,Ra _,Ra _,Ra _,Ra _,wc _,wc _⟩,⟨λ_ z=>(by cases z),λ_=>List.Pairwise.nil⟩,λ_ z=>(by cases z)⟩⟩;obtain⟨us,y⟩:=z0.ent.tracked z;have D0:=t0 h1 y λ_ _ _ z=>HO.noConfusion z
    rw[n1 y D0]at Y0;cases Y0
   have k0:∀{C0:Hp}{b:FQ},Za h H C0->b≠h->C0 b=none->H b=none:=λ{C0 b}B n e=>by
    cases z:H b with
    |none=>rfl
    |some o=>rw[B _ _ n z]at e;cases e
   have A2:Za h H c0:=g0.trans (Za.of d0);refine k J x c rfl ⟨_,z2⟩ (λk1 X1 e4 g4 n4 h4=>.inl (⟨MO,nx12 _ S ⟨λb o e=>rh (W1 b o (X1 _ _ e) (M3 e4 b o e)) (.inl (.inr ⟨o,e⟩)),g4,X1.free a2,λr0 z=>X1.free (b2 r0 z)⟩ (z2.cut rfl (λb=>H b=none\/∃u,k1 b=some u) (.inl a2) (.inl (k0 g0 U1 Y0)) (.inl (k0 (A2.trans a1) N1 o2)) (.inl (k0 g0 V1 N.f2)) (λr0 z=>.inl (b2 r0 z)) (Sc (λo e=>by cases e;exact .inr dv) (λo e=>.inl (.inl (k0 ((Za.of G0).trans W0) i1 c3))) (λo e=>.inl (.inl (k0 (A2.trans t2) L1 d1))) (λo e=>.inl (.inl (k0 g0 H1 N.f1))) (λo e=>.inl (.inl (k0 g0 I1 N.f3))) (λo e=>.inl (.inl (k0 g0 J1 N.f4))) (λo e=>.inl (.inl (k0 g0 K1 N.f5))) (λo e=>.inl (.inl (k0 g0 N0 N.f6))) (λo e=>by cases e)) λb o h e=>h4 b o (by rcases h with(h|h)|h;exact .inl h;exact .inr (.inl h);exact .inr (.inr h)) e) rfl rfl rfl rfl⟩)) ?_
   ·exactλb o n e=>g0.trans M0 b o n e
--@cc
open Shf
def af(g:Gm)(E:Ek):Dr:=if E.kp=HQ then vg g.fs E.ms.ds else g.fs
def pj(ds:Dr)(lo hi:Int)(q:List Int):List Int:=(eb (ds.map (·.1))).filter λk=>gb lo hi k&&!q.contains k
def qj(k:Int):QQ:=.tuple [.int k,.int 0]
def xg(E:Ek):QQ:=.list (if E.kp=HQ then E.ms.lk.map λq=>.list ((pj E.ms.ds q.1 q.2.1 q.2.2).map qj)else[])
def uh(E:Ek):QQ:=.list (if E.kp=HQ then(eb (E.ms.ds.map (·.1))).map λk=>.tuple [.int k,.list [.int 1]]else[])
def Yf(l:Lv)(n:Nat):Nat:=match l with
 |.kept=>n+1
 |.make=>2
 |_=>1
def sr(g:Gm)(E:Ek):QQ:=.list ((List.range (if E.kp=HQ then Yf g.l E.lks.length else 0)).map λ(i:Nat)=>.tuple [.int 1,.int (i:Int)])
inductive ev{K:W.Frag}{mg:Str->Option EQ}(T:Tx K mg)(us:List V)(f:Gm->Ek->QQ)(N:Hp->V->Prop)(vs:List V)(H:Hp)(Q:VK)(_:XK):Prop|mk(g:Gm)(U:Hp)(x:Nat->FQ)(c:Cn)(E:Ek)(_:vs=.ref (x 0)::us)(_:Gd g)(_:Xf T g U H x c E)(_:∀p ys H',H p=none->aa H H'->H' p=some (.lst ys)->Tn H' (.ref p) (f g E)->(∀v∈ys,N (off H H') v)->Q (.ref p) H')
def zn(H:Hp)(v:V):Prop:=∃l us,v=.ref l/\H l=some (.lst us)
inductive cP(H:Hp)(v:V):Prop|mk(t y v')(_:v=.ref t)(_:H t=some (.tup [y,v']))(_:zn H v')
inductive dP{K:W.Frag}{mg:Str->Option EQ}(T:Tx K mg)(vs:List V)(H:Hp)(Q:VK)(_:XK):Prop|mk(g:Gm)(U:Hp)(x:Nat->FQ)(c:Cn)(E:Ek)(v:V)(q:Int×Int×Int×List Int)(_:vs=[.ref (x 0),v])(_:Gd g)(_:Xf T g U H x c E)(_:E.kp=HQ)(_:Ki c U v q)(_:0<=q.1)(_:q.1<E.e)(_:∀p ys H',H p=none->aa H H'->H' p=some (.lst ys)->Gb (tp H') ys ((pj E.ms.ds q.2.1 q.2.2.1 q.2.2.2).map qj)->Q (.ref p) H')
inductive eP{K:W.Frag}{mg:Str->Option EQ}(T:Tx K mg)(vs:List V)(H:Hp)(Q:VK)(_:XK):Prop|mk(g:Gm)(U:Hp)(x:Nat->FQ)(c:Cn)(E:Ek)(k:Int)(v:V)(q:Int×Int×Int×List Int)(_:vs=[.ref (x 0),.int k,v])(_:Gd g)(_:Xf T g U H x c E)(_:E.kp=HQ)(_:Ki c U v q)(_:0<=q.1)(_:q.1<E.e)(_:∀H',aa H H'->Q (.int 0) H')
def fP(q:List Ga)(r:Ga)(s:Int):Cd (q++[r]) s=if r.1<=s then r else Cd q s:=by
 unfold Cd;by_cases e:r.1<=s<;>simp[ce,e]
def AD{m:List (Int×List Ga)}{M:Dr}{st:Int}(O:(m.map (·.1)).Nodup)(Y:(M.map (·.1)).Nodup)(J:∀k,(Cd (hk m k) st).2.2=(fk M k).getD none)(a0:∀k,fk M k≠some none):Ze (eb (m.map (·.1))) (λk=>(Cd (hk m k) st).2.2)=yf M λ_=>HQ:=by
 rw[WM λk _=>J k,VM (mj O) (mj Y) λk q=>?_]
 ·unfold Ze yf;rw[Yn.mpr λk q=>?_,Yn.mpr λ_ _=>rfl];cases e:fk M k with
  |none=>exact absurd ((mc _).mem_iff.mp q) (Le.mp e)
  |some o=>
   cases o with
   |none=>grind
   |some v=>grind
 ·rw[(mc _).mem_iff,(mc _).mem_iff];refine⟨λ_=>Mi λz=>?_,λ_=>Mi λz=>?_⟩
  ·rw[Le.mpr z]at q;cases q
  ·rw[<-J k,er z]at q;cases q
def BD{fs ds:Dr}{e st k:Int}(J:(ds.map (·.1)).Nodup)(q:0<=st):Cd (hk (ae (m0 fs) e 1 ds) k) st=match fk ds k with
  |some o=>if e<=st then(e,1,o)else(0,0,(fk fs k).getD none)
  |none=>(0,0,(fk fs k).getD none):=by
 rw[Mu e 1 k ds _ J];cases fk ds k with
 |none=>exact mr k q
 |some o=>rw[fP,mr k q]
def DD{fs ds:Dr}{e k:Int}(q:(ds.map (·.1)).Nodup):(Wf (hk (ae (m0 fs) e 1 ds) k)).2.1=if(fk ds k).isSome=HQ then 1 else 0:=by
 rw[Mu e 1 k ds _ q];cases fk ds k with
 |none=>
  simp only;rw[hr];cases fk fs k<;>rfl
 |some o=>unfold Wf;grind
def gP{fs ds:Dr}{e k:Int}(q:(ds.map (·.1)).Nodup)(h:k∈ds.map (·.1)):k∈(ae (m0 fs) e 1 ds).map (·.1):=Mi λz=>by
 have:=DD (fs:=fs) (e:=e) (k:=k) q;rw[er z,Ca]at this
 ·cases this
 ·cases y:fk ds k with
  |none=>exact absurd h (Le.mp y)
  |some _=>rfl
def ED{ds:Dr}{k:Int}:(fk ds k).isSome=HQ↔k∈ds.map (·.1):=by
 cases y:fk ds k with
 |none=>exact⟨by grind,λz=>absurd z (Le.mp y)⟩
 |some _=>exact⟨λ_=>Mi λz=>(by rw[Le.mpr z]at y;cases y),λ_=>rfl⟩
def hP{fs ds:Dr}{e lo hi:Int}(q:(ds.map (·.1)).Nodup)(Y:((ae (m0 fs) e 1 ds).map (·.1)).Nodup):(((eb ((ae (m0 fs) e 1 ds).map (·.1))).filter (gb lo hi)).filter λk=>!decide ((Wf (hk (ae (m0 fs) e 1 ds) k)).2.1=0))=(eb (ds.map (·.1))).filter (gb lo hi):=by
 refine Qu (((mj Y).sublist Dh).sublist Dh) ((mj q).sublist Dh) λk=>?_
 simp only[Gh,(mc _).mem_iff,DD q];constructor
 ·rintro⟨⟨J,O⟩,a0⟩;refine⟨ED.mp (Mi λz=>?_),O⟩
  grind
 ·rintro⟨J,O⟩;exact⟨⟨gP q J,O⟩,by rw[Ca (ED.mpr J)];decide⟩
def iP{fs ds:Dr}{e k:Int}(q:(ds.map (·.1)).Nodup)(h:k∈ds.map (·.1)):((hk (ae (m0 fs) e 1 ds) k).filter λJ=>!decide (J.2.1=0)).map (·.2.1)=[1]:=by
 rw[Mu e 1 k ds _ q];cases y:fk ds k with
 |none=>exact absurd h (Le.mp y)
 |some o=>
  rw[hr];cases fk fs k<;>rfl
def FD{q:List Int}(h:q.Pairwise (·<·)):eb (dd q)=q:=Qu (mj (Nu q).1) h λk=>by rw[(mc _).mem_iff,(Nu q).2]
def qf(h:q.Nodup):(dd q).length<=q.length:=ir (Nu q).1 λk J=>((Nu q).2 k).mp J
def tr{j0 fs:L2.St}(G:Hp->Hp->V->a0->Prop)(F:Hp->V->a0->Prop)(mono:∀{A k0 B l0:Hp}{v:V}{a:a0},aa A k0->aa B l0->G A B v a->G k0 l0 v a)(q0:∀{H H':Hp}{v:V}{a:a0},aa H H'->F H v a->F H' v a)(as:List a0)(r0:j0=List.replicate k none++fs)(f0:O l=some (.lst xs))(n0:Paired (F O) xs as)(hz:as.length<=JQ)
  (step:∀a,a∈as->∀H (b0:L2.St)v (R:Option V->L2.St->Hp->Prop),aa O H->b0.length=k->F H v a->(∀y (c0:L2.St)q,c0.length=k->aa H q->G (off H q) (tp q) y a->R (some y) (c0++fs) q)->
   g v (b0++fs) H λd0 s0=>t0 d0 s0 λok q=>if ok=HQ then u0 d0 q λy H4=>R (some y) d0 H4 else R none d0 q)
  (fin:∀D H' ys,O D=none->aa O H'->H' D=some (.lst ys)->Paired (G (Zm (off O H') D) (tp H')) ys as->Q (.ref D) H'):dj j0 (Wi K l) g t0 u0 Q O:=by
 have F0:=pf n0;refine wq as.length (λD i ys H=>Paired (G (Zm (off O H) D) (tp H)) ys (as.take i)) r0 hz (λi H J hi=>(zo (ja.of (J _ _ f0))).go i (by lia)) (λH J=>(zo (ja.of (J _ _ f0))).stop _ (by lia)) (λ_ i _ _ p=>by rw[pf p,vj];exact Nat.min_le_left ..) (λ_ _=>.nil) ?_ λD H' ys v0 J g0 o0=>fin D H' ys v0 J g0 (by grind)
 rintro D i H' ys b0 v H R g0 o0 J hi w0⟨rfl,x0⟩y0-;obtain⟨a,z0,A0⟩:=Xj n0 (x0 xs (ja.of (J _ _ f0)));refine step a (by grind) H b0 v R J w0 (q0 J A0) λy c0 q B0 e0 C0=>y0 y c0 q B0 e0 ?_
 rw[Oi,z0];have G0:=e0 _ _ g0;have p0:aa (tp q) (tp (upd q D (.lst (ys++[y])))):=He λb us e=>by rw[ka λz=>by grind];exact e
 refine Hq (Paired.imp' (λv a x=>mono (λb o e=>?_) ((He λ_ _ e=>e0 _ _ e).trans p0) x) o0) (mono (λb o e=>?_) p0 C0)
 ·obtain⟨Y,D0⟩:=kl e;obtain⟨h0,i0⟩:=Rh D0;exact OB Y (Ng h0 (by rw[ka Y];exact e0 _ _ i0))
 ·obtain⟨h0,i0⟩:=Rh e;have Y:b≠D:=λz=>by grind
  exact OB Y (Ng (J.free h0) (by rw[ka Y];exact i0))
def Dy:Key->Int
 |.inl i=>i
 |.inr _=>0
def Xh(q:List Int)(i:Nat):List Key:=[.inl (q.getD i 0),.inl 1,.inl (i:Int)]
def jP{q:List Int}(h:q.Pairwise (·<=·)):((List.range q.length).map (Xh q)).Pairwise λa b=>ll (b.map Dy) (a.map Dy)=IQ:=by
 rw[List.pairwise_map];refine Cp.mpr λi j hi J O=>?_
 rw[fm]at hi J;rw[List.getElem_range,List.getElem_range];have:=Cp.mp h i j hi J O;have Y:q.getD i 0=q[i]:=by rw[Af,Dc hi];rfl
 have a0:q.getD j 0=q[j]:=by rw[Af,Dc J];rfl
 show(if q.getD j 0=q.getD i 0 then(if(1:Int)=1 then(if(j:Int)=(i:Int)then IQ else decide ((j:Int)<(i:Int)))else _)else decide (q.getD j 0<q.getD i 0))=IQ;rw[Y,a0,Ca rfl,Ba (show¬(j:Int)=(i:Int)by lia)];split<;>exact Eg (by lia)
def GD{e0 fs:L2.St}(n:Nat)(f:Nat->List V)(f0:e0=List.replicate k none++fs)(hz:n<=JQ)(g0:∀i H,aa J H->i<n->b0.go i H)(h0:∀H,aa J H->b0.stop n H)
  (step:∀i H(O:L2.St)v H' (R:Option V->L2.St->Hp->Prop),aa J H->i<n->O.length=k->b0.pe i H v H'->(∀t(Y:L2.St)q,q t=some (.tup (f i))->Y.length=k->aa H q->R (some (.ref t)) (Y++fs) q)->
   g v (O++fs) H' λa0 i0=>j0 a0 i0 λok q=>if ok=HQ then k0 a0 q λy H4=>R (some y) a0 H4 else R none a0 q)
  (fin:∀D H' ys,J D=none->aa J H'->H' D=some (.lst ys)->Paired (λv xs=>∃t,v=.ref t/\H' t=some (.tup xs)) ys ((List.range n).map f)->Q (.ref D) H'):dj e0 b0 g j0 k0 Q J:=by
 refine wq n (λ_ i ys H=>Paired (λv xs=>∃t,v=.ref t/\H t=some (.tup xs)) ys ((List.range i).map f)) f0 hz g0 h0 (λ_ i _ _ p=>by simpa using vk (pf p)) (λ_ _=>.nil) (λD i H ys O v H' R l0 n0 o0 hi p0 y a b=>step i H O v H' R o0 hi p0 y λt Y q s0 q0 c0=>a _ Y q q0 c0 ?_) fin;have r0:∀c xs,q c=some (.tup xs)->upd q D (.lst (ys++[.ref t])) c=some (.tup xs):=λc xs d0=>by
  rw[ka λz=>by rw[z,c0 _ _ l0]at d0;cases d0];exact d0
 rw[Nk,Dg];exact Hq (Paired.ib n0 (by rintro _ _⟨t,e,z⟩;exact⟨t,e,r0 _ _ (c0 _ _ z)⟩)) (by grind)
def Ey(l:Lv)(b:Int)(q:List Int)(e:Int):(cn l b q e IQ).length=Yf l q.length:=by
 cases l<;>simp[cn,Yf]
def kP{l:Lv}{b e:Int}{q:List Int}(h:b<=e)(O:∀n∈q,n<e)(J:yt l=IQ->q.Pairwise (·<=·)):(cn l b q e IQ).Pairwise (·<=·):=by
 cases l with
 |kept=>
  show(q++[e]).Pairwise _;rw[List.pairwise_append];exact⟨J rfl,by simp,λa Y a0 b0=>by grind⟩
 |make=>show[b,e].Pairwise _;simp[h]
 |_=>exact List.pairwise_singleton _ _
open Shf
def HD(T:Tx K mg):T.Wo.Ok mg P w base 4 (ev T [] (λg E=>.list ((yf (af g E) λ_=>HQ).map Sg)) λ_ _=>True):=by
 refine Qa T.Wo.F λ{_ _ _ s}_ _ _ E a0 h=>?_
 ·obtain⟨g,U,x,c,E,rfl,G,D,k⟩:=h;refine⟨_,(qa (Ha (Ib (Ia K 0) T.Ke T.iu.m (dN T) a0 T.iu.b (va (Ia K 0))))),?_⟩;have bx:=D.bx;have J:=D.shl.same bx.sub;have Ad:=G.Ad;have b0:(wg g E).length<64:=by
   unfold wg;split
   ·have:=fy E.e 1 E.ms.ds (m0 g.fs);have:=D.ln.1;have e:(m0 g.fs).length=g.fs.length:=Na _;lia
   ·unfold m0;rw[Na];lia
  refine⟨_,rfl,x 0,_,c.hx,_,_,rfl,bx.get 0 rfl,T.Va,T.Hl,rfl,c.sh,c.sx,_,rfl,J.obj,rfl,_,rfl,x 0,_,c.hx,_,_,rfl,bx.get 0 rfl,T.Va,T.kj,rfl,c.sh,c.sx,c.sd,E.kvs,wg g E,E.st,rfl,J,b0,λp H' ys c0 s h O=>?_⟩;have Y:0<=E.st:=by have:=D.rp;lia
  have eq:Ze (eb ((wg g E).map (·.1))) (λk=>(Cd (hk (wg g E) k) E.st).2.2)=yf (af g E) λ_=>HQ:=by
   have q:=J.keys;unfold wg af at*;cases kp:E.kp with
   |true=>
    rw[kp,Ca rfl]at q;rw[Ca rfl,Ca rfl];refine AD q (qy _ _ G.nd) (λk=>?_) λk z=>(gD D.nd G.qr k none).mp z|>.2 rfl
    rw[BD D.nd Y,py k _ _ D.nd];cases fk E.ms.ds k with
    |none=>rfl
    |some o=>simp only;rw[Ca D.rp.2.2];cases o<;>rfl
   |false=>
    rw[kp,Ba (by decide)]at q;rw[Ba (by decide),Ba (by decide)];exact AD q G.nd (λk=>by rw[mr k Y]) (ry G.qr)
  rw[eq]at O;exact k p ys H' c0 s h (.lst h ((pp O).same ql)) λ_ _=>trivial
def lP(T:Tx K mg):T.yu.Ok mg P w base 2 (eP T):=by
 refine Qa T.yu.F λ{_ _ _ s}_ _ _ E J h=>?_
 ·obtain⟨g,U,x,c,E,q,v,Y,rfl,G,D,c0,lk,d0,l0,k⟩:=h;have O:=yc J;refine⟨_,(oa (qb (mE (rG O (pv 1) (Pa Ab (pv 2) ra)))
   (qa (Ha (Pa Ab (Ib (Ia K 0) T.Ke T.Ro.m (QC T) J T.Ro.b (ca (pv 1) (va (Pa Ab (pv 2) ra)))) ra)))
   Bb)
   (oa (Ya 3 (Ib (pv 0) T.Va T.xf.m (Wl T) J T.xf.b (va (jc O (Pa Ab (pv 2) ra) (pv 1)))))
   (oa (qb (PW.pt (ni (zb Od (Ia K 3) La (sb _)) (mi (zb Xi (jc O (Ia K 3) (pv 1)) (Pa Ab (pv 2) ra) (sb _)))))
   (qa (Ha (Ia K 3)))
   Bb)
   (qa (Ha (Ui (v:=V.int (-1)) rfl T.HL ⟨_,rfl⟩)))))),?_⟩
  show let e0:TS:=_;let f0:TS:=ma (lb _ _ _) e0;let g0:TS:=ma _ f0;ma (lb _ _ _) g0 _ _ _
  intros;have bx:=D.bx;obtain⟨t,pt,h0,rfl,i0,n0,j0,_⟩:=lk;have a0:=bx.sub _ _ i0;have b0:=D.shl.same bx.sub;refine⟨_,rfl,_,rfl,t,_,_,_,rfl,rfl,xa.of a0,Ja (j:=4) rfl,h0,none,rfl,uf.k (k:=Sum.inl q) (bx.sub _ _ j0),_,rfl,jd ?_⟩;refine⟨_,rfl,x 0,_,c.hx,_,_,rfl,bx.get 0 rfl,T.Va,T.Hl,rfl,c.sh,c.sx,_,rfl,b0.obj,rfl,_,rfl,_,rfl,t,_,_,_,rfl,rfl,xa.of a0,Ja (j:=0) rfl,c.sh,c.sx,c.sd,E.kvs,wg g E,q,Y.1,rfl,b0,λk0 H' s h=>⟨k0,_,_,_,rfl,rfl,h,Ja (j:=1) rfl,?_⟩⟩;have e:(Cd (hk (wg g E) q) Y.1).2.1=0:=by
   unfold wg;rw[Ca c0,BD D.nd d0];cases fk E.ms.ds q with
   |none=>rfl
   |some o=>simp only;rw[Ba (by lia)]
  rw[e];exact k H' s
def ID{q:Type}(l:List q)(p:q->Bool):l.filterMap (λx=>if p x=HQ then some x else none)=l.filter p:=by
 rw[<-List.filterMap_eq_filter];rfl
def JD:∀{ys:List V}{q:List Int},Paired (λv(n:Int)=>∃t,v=.ref t/\H t=some (.tup [.int n,.int 0])) ys q->Gb (tp H) ys (q.map qj):=by
 intro _ _ h;induction h with
 |nil=>exact .nil
 |cons h r J=>
  obtain⟨_,e,h⟩:=h;subst e;exact .cons (.tup (Tf h) (.cons (.int _) (.cons (.int _) .nil))) J
def mP(T:Tx K mg):T.xu.Ok mg P w base 4 (dP T):=by
 refine Qa T.xu.F λH _ _ E d0 h=>?_
 ·obtain⟨g,U,x,c,E,v,q,rfl,G,D,e0,lk,p0,q0,k⟩:=h;refine⟨_,(oa (Ya 2 (AB (K:=K) rfl rfl rfl T.Uf rfl T.uC (va (Ta ro (Ib (Ia K 0) T.Ke T.ju.m (bN T) d0 T.ju.b (ca (Pa Ab (pv 1) ra) (va (Pa Ab (pv 1) ra)))) (kg (fJ rfl) (by rfl) T.gk Cj (va (Pa Ab (pv 1) ra)))))))
   (qa (Ha (Vd ["key"] ["self","look"] [0,1] (Yb (pv 2)) (Ac 0) (gh (zb (gB (K:=K) rfl) (pv 0) (Pa (ej (K:=K) rfl) (pv 2) ra) rfl)) (Hb (ca (pv 0) (va (Ib (pv 1) T.Va T.yu.m (lP T) d0 T.yu.b (ca (pv 0) (Ea 2)))))))))),?_⟩
  show let r0:TS:=_;ma _ r0 _ _ _
  intros;have bx:=D.bx;have s0:=lk;obtain⟨t,pt,t0,rfl,u0,v0,w0,_⟩:=lk;have J:=bx.sub _ _ u0;have Y:=D.shl.same bx.sub;have f0:=Y.keys;have Ad:=G.Ad;have x0:=D.ln.1;have em:wg g E=ae (m0 g.fs) E.e 1 E.ms.ds:=Ca e0;have y0:(wg g E).length<64:=by
   have:=fy E.e 1 E.ms.ds (m0 g.fs);have e:(m0 g.fs).length=g.fs.length:=Na _;rw[em];lia
  refine⟨_,rfl,x 0,_,c.hx,_,_,rfl,bx.get 0 rfl,T.Va,T.Hl,rfl,c.sh,c.sx,_,rfl,Y.obj,rfl,_,rfl,t,_,_,_,rfl,rfl,xa.of J,Ja (j:=1) rfl,_,rfl,t,_,_,_,rfl,rfl,xa.of J,Ja (j:=2) rfl,c.sh,c.sx,c.sd,E.kvs,wg g E,q.2.1,q.2.2.1,rfl,Y,y0,λz0 A0 Q0 s1 a0=>?_⟩;rw[em]at f0 a0;rw[hP D.nd f0]at a0;refine⟨_,rfl,t,_,_,_,rfl,rfl,xa.of (s1 _ _ J),Ja (j:=4) rfl,t0,[],[],rfl,s1 _ _ (bx.sub _ _ w0),rfl,λg0 h0=>?_⟩;have R0:((eb (E.ms.ds.map (·.1))).filter (gb q.2.1 q.2.2.1)).length<=50:=qc (um _ _) (by rw[(mc _).length_eq,Na];exact x0);have S0:(60:Nat)<=JQ:=by decide
  refine⟨z0,g0,_,[],rfl,rfl,aa.upd h0 _ _ a0,ia,by rw[Na];show _+0<=_;lia,λi0 B0=>?_⟩;rw[Vn];have j0:((eb (E.ms.ds.map (·.1))).filter (gb q.2.1 q.2.2.1)).Pairwise (·<·):=(mj D.nd).sublist Dh;have U0:=qf (LC j0);refine⟨i0,(eb (E.ms.ds.map (·.1))).filter (gb q.2.1 q.2.2.1),rfl,ja.of ia,by lia,by lia,λk0 C0=>?_⟩;rw[FD j0];have b0:=s1.trans ((aa.upd h0).trans ((aa.upd B0).trans (aa.upd (o:=HO.lst (((eb (E.ms.ds.map (·.1))).filter (gb q.2.1 q.2.2.1)).map V.int)) C0)));have l0:=ia (H:=upd (upd A0 g0 (HO.lst ([].map V.int))) i0 (HO.lst (((eb (E.ms.ds.map (·.1))).filter (gb q.2.1 q.2.2.1)).map V.int))) (a:=k0) (o:=HO.lst (((eb (E.ms.ds.map (·.1))).filter (gb q.2.1 q.2.2.1)).map V.int));refine⟨_,rfl,k0,rfl,⟨_,ja.of l0⟩,sg (k:=1) (fs:=[some (.ref (x 0)),some (.ref t)]) (λH v (n:Int)=>∃t,v=.ref t/\H t=some (.tup [.int n,.int 0])) (λ_ v (n:Int)=>v=.int n) ((eb (E.ms.ds.map (·.1))).filter (gb q.2.1 q.2.2.1)) (λk=>if(!q.2.2.2.contains k)=HQ then some k else none) (by rintro _ _ _ _ D0⟨t,e,z⟩;exact⟨t,e,D0 _ _ (by grind) z⟩) (by grind) rfl l0 (Ii _) (by lia) ?_ λF0 n0 ys G0 c0 H0 o0=>?_⟩
  ·rintro n V0 n0 W0 v R c0 I0 rfl J0 K0;obtain⟨X0,rfl⟩:=Be.mp I0;have O:=b0.trans c0;refine⟨_,rfl,_,rfl,t,_,_,_,rfl,rfl,xa.of (O _ _ J),Ja (j:=3) rfl,pt,_,rfl,.inr (xa.of (O _ _ (bx.sub _ _ v0))),rfl,hB _,_,rfl,?_⟩;rw[Nw];refine bb (λe=>?_) (λe=>K0 (Ba e) [_] _ rfl (aa.refl _));refine⟨_,rfl,_,rfl,x 0,c.hx,_,rfl,(bx.same O).get 0 rfl,rfl,_,rfl,_,rfl,g,U,x,c,E,n,.ref t,q,rfl,G,D.same O,e0,s0,p0,q0,λY0 L0=>⟨Ma,λM0 N0=>J0 _ _ [_] _ (Ca e) rfl (L0.trans (aa.upd N0)) ⟨M0,rfl,ia⟩⟩⟩
  ·refine k F0 ys n0 (uc b0 G0) (b0.trans c0) H0 ?_;have O0:((eb (E.ms.ds.map (·.1))).filter (gb q.2.1 q.2.2.1)).filterMap (λk=>if(!q.2.2.2.contains k)=HQ then some k else none)=pj E.ms.ds q.2.1 q.2.2.1 q.2.2.2:=by
    rw[ID,List.filter_filter];exact List.filter_congr (by grind)
   rw[O0]at o0;exact JD o0
def nP:∀{ys:List V}{J:List (Int×Int×Int×List Int)},Paired (λv(q:Int×Int×Int×List Int)=>∃l us,v=.ref l/\Zm (off A H) D l=some (.lst us)/\Gb (tp H) us ((pj ds q.2.1 q.2.2.1 q.2.2.2).map qj)) ys J->Gb H ys (J.map λq=>.list ((pj ds q.2.1 q.2.2.1 q.2.2.2).map qj)):=by
 intro _ _ h;induction h with
 |nil=>exact .nil
 |cons h r O=>
  obtain⟨_,_,e,h,Y⟩:=h;subst e;exact .cons (.lst (Rh (kl h).2).2 (Y.same ql)) O
def Fy(T:Tx K mg):T.yl.Ok mg P w base 5 (ev T [.int 1] (λ_ E=>xg E) zn):=by
 refine Qa T.yl.F λ{_ A _ _}_ _ _ E c0 h=>?_
 ·obtain⟨g,U,x,c,E,rfl,G,D,k⟩:=h;refine⟨_,(oa (Ya 2 (Ib (pv 0) T.Va T.xf.m (Wl T) c0 T.xf.b (Ea 1)))
   (oa (qb (zb Fm (Ia K 2) La (sb _))
   (qa (Ha (Zb jf)))
   Bb)
   (qa (Ha (Vd ["look"] ["self"] [0] (Yb (Ia K 2)) (Ac 0) nf (Ib (pv 1) T.Va T.xu.m (mP T) c0 T.xu.b (Ea 0))))))),?_⟩
  show let e0:TS:=_;let f0:TS:=ma (lb _ _ _) e0;ma _ f0 _ _ _
  intros;have bx:=D.bx;have J:=bx.sub _ _ D.obj;refine⟨_,rfl,x 0,c.hx,_,rfl,bx.get 0 rfl,rfl,_,rfl,x 0,c.hx,c.dl,x 3,_,rfl,bx.get 0 rfl,rfl,bx.sub _ _ D.dls,?_⟩;refine⟨_,rfl,x 3,_,c.ax,_,_,rfl,J,T.Ua,T.Bl,rfl,?_⟩;rw[D.rr];refine⟨rfl,_,rfl,bb (λe=>?_) (λe=>?_)⟩
  ·have kp:E.kp=IQ:=by
    cases kp:E.kp with
    |false=>rfl
    |true=>rw[kp]at e;exact absurd e (by decide+kernel)
   have b0:xg E=.list []:=by unfold xg;rw[kp];rfl
   refine⟨(by decide),λp O=>k p [] _ O (aa.upd O) ia (by show Tn _ _ (xg E);rw[b0];exact .lst ia .nil) (by grind)⟩
  ·have kp:E.kp=HQ:=by
    cases kp:E.kp with
    |true=>rfl
    |false=>rw[kp]at e;exact absurd (by decide+kernel) e
   refine⟨_,rfl,x 3,_,c.ax,_,_,rfl,J,T.Ua,T.Yq,rfl,?_⟩;rw[D.xy];have g0:E.lks.length<=JQ:=by rw[<-pf D.lks];exact qc D.ln.2.1 (by decide)
   refine⟨x 7,rfl,⟨_,ja.of (bx.sub _ _ D.lok)⟩,tr (fs:=[some (.ref (x 0))]) (λA B v (q:Int×Int×Int×List Int)=>∃l us,v=.ref l/\A l=some (.lst us)/\Gb B us ((pj E.ms.ds q.2.1 q.2.2.1 q.2.2.2).map qj)) (λ_ v q=>Ki c U v q) (λs1 Y⟨l,us,e,a0,h0⟩=>nx0 l us e (s1 _ _ a0) (h0.same Y)) (λ_ h=>h) E.lks rfl (bx.sub _ _ D.lok) D.lks g0 ?_ λi0 j0 ys k0 s1 a0 d0=>?_⟩
   ·rintro q l0 t0 u0 v R Y n0 lk o0;obtain⟨v0,rfl⟩:=Be.mp n0;have p0:=bx.same Y;have st:=D.zf.1 q l0;exact jd (B:=False) ⟨_,rfl,x 0,c.hx,_,rfl,p0.get 0 rfl,rfl,_,rfl,g,U,x,c,E,v,q,rfl,G,D.same Y,kp,lk,st.1,st.2,λp us q0 O r0 J s0=>o0 (.ref p) [_] q0 rfl r0 (nx0 p us rfl (Ng O J) s0)⟩
   ·refine k i0 ys j0 k0 s1 a0 ?_ λv hv=>?_
    ·have b0:xg E=.list (E.lks.map λq=>.list ((pj E.ms.ds q.2.1 q.2.2.1 q.2.2.2).map qj)):=by
      unfold xg;rw[Ca kp,D.qh,ag];rfl
     show Tn _ _ (xg E);rw[b0];exact .lst a0 (nP d0)
    ·obtain⟨q,_,l,us,e,h,_⟩:=jl d0 hv;exact⟨l,us,e,(kl h).2⟩
def LD:∀{ys:List V}{q:List Int},Paired (λv(n:Int)=>∃t l,v=.ref t/\H t=some (.tup [.int n,.ref l])/\H l=some (.lst [.int 1])) ys q->Gb H ys (q.map λn=>.tuple [.int n,.list [.int 1]]):=by
 intro _ _ h;induction h with
 |nil=>exact .nil
 |cons h r J=>
  obtain⟨_,_,e,O,Y⟩:=h;subst e;exact .cons (.tup O (.cons (.int _) (.cons (.lst Y (.cons (.int _) .nil)) .nil))) J
def Gy(T:Tx K mg):T.zl.Ok mg P w base 3 (ev T [] (λ_ E=>uh E) cP):=by
 refine Qa T.zl.F λ{_ A _ _}H _ Q E A0 h=>?_
 ·obtain⟨g,U,x,c,E,rfl,G,D,k⟩:=h;refine⟨_,(oa (Ya 1 (Zb jf))
   (oa (re me rfl (Yb (Ia K 0)) (Kd 2)
   (qa (Ub (Oj Fg F.slot_list_extend F.type_list_extend Uz (pv 1) (va (Ia K 2))))))
   (qa (Ha (Vd ["key"] ["self"] [0] (Yb (AB (K:=K) rfl rfl rfl T.Uf rfl T.uC (Ea 1))) (Ac 0) nf (Hb (ca (pv 0) (va (Ib (Ia K 1) T.Ke T.ku.m (cN T) A0 T.ku.b (Ea 0)))))))))),?_⟩
  show let k0:TS:=_;let p0:TS:=ma (qe _ _ _) k0;ma _ p0 _ _ _
  intros;have bx:=D.bx;refine⟨(by decide),λO f0=>?_⟩;have s1:=aa.upd (o:=HO.lst []) f0;have g0:=bx.same s1;have W0:(60:Nat)<=JQ:=by decide
  refine⟨_,rfl,x 0,_,c.hx,_,_,rfl,g0.get 0 rfl,T.Va,T.hp,rfl,?_⟩;rename_i k0 p0;have fin:∀(Y:List Int)(q:Hp)(b0:Option V),Y.Pairwise (·<·)->Y.length<=50->q O=some (.lst (Y.map V.int))->aa H q->(∀n∈Y,E.kp=HQ/\n∈E.ms.ds.map (·.1))->uh E=.list (Y.map λn=>.tuple [.int n,.list [.int 1]])->k0 {nx:=λ_ H'=>Q .ya H',rt:=Q} [some (.ref (x 0)),some (.ref O),b0] q:=λY q c0 q0 ln J b0 l0 B0=>by
   have X0:=qf (LC q0);refine⟨_,rfl,O,Y,rfl,ja.of J,by lia,by lia,λC0 D0=>?_⟩;rw[FD q0];refine nw D0 λH4 F0 r0=>?_
   have d0:=b0.trans F0;refine⟨C0,rfl,⟨_,ja.of r0⟩,tr (fs:=[some (.ref (x 0))]) (λA _ v (n:Int)=>∃t l,v=.ref t/\A t=some (.tup [.int n,.ref l])/\A l=some (.lst [.int 1])) (λ_ v (n:Int)=>v=.int n) (λs1 _⟨t,l,e,e0,J⟩=>⟨t,l,e,s1 _ _ e0,s1 _ _ J⟩) (λ_ h=>h) Y rfl r0 (Ii _) (by lia) ?_ λG0 s0 ys H0 n0 t0 u0=>?_⟩
   ·rintro n I0 s0 Y0 v R n0 J0 rfl K0;obtain⟨Z0,rfl⟩:=Be.mp J0;have L0:=d0.trans n0;have v0:=bx.same L0;have w0:=D.shl.same v0.sub;refine jd (B:=False) ⟨_,rfl,_,rfl,x 0,_,c.hx,_,_,rfl,v0.get 0 rfl,T.Va,T.Hl,rfl,c.sh,c.sx,_,rfl,w0.obj,rfl,_,rfl,c.sh,c.sx,c.sd,E.kvs,wg g E,n,rfl,w0,λl a1 M0 x0 y0=>⟨Ma,λt o0=>K0 _ [_] _ rfl (x0.trans (aa.upd o0)) (nx0 t l rfl (Ng (uc x0 o0) ia) (Ng M0 (aa.upd o0 _ _ ?_)))⟩⟩;obtain⟨kp,N0⟩:=l0 n I0;have em:wg g E=ae (m0 g.fs) E.e 1 E.ms.ds:=Ca kp;rw[em,iP D.nd N0]at y0;exact y0
   ·refine k G0 ys s0 (uc d0 H0) (d0.trans n0) t0 ?_ λv hv=>?_
    ·show Tn _ _ (uh E);rw[B0];exact .lst t0 (LD (Paired.ib u0 (by rintro _ _⟨t,l,e,e0,J⟩;exact⟨t,l,e,(Rh (kl e0).2).2,(Rh (kl J).2).2⟩)))
    ·obtain⟨n,_,t,l,e,e0,J⟩:=jl u0 hv;exact⟨t,_,_,e,NB d0 _ _ (kl e0).2,l,_,rfl,NB d0 _ _ (kl J).2⟩
  rcases D.sps with⟨kp,s',sx,b1,O0,h0,Q0,R0⟩|⟨kp,h0⟩
  ·have i0:=g0.sub _ _ h0;have S0:∀b o,U b=some o->b≠O:=λb o e z=>by rw[z,bx.free f0]at e;cases e
   refine⟨E.sp,rfl,⟨_,ja.of i0⟩,eh (λi a0 q=>∃c0,a0=[some (.ref (x 0)),some (.ref O),c0]/\Bx U q x (fE T c x E)/\aa H q/\q O=some (.lst (if i=0 then[]else(eb (E.ms.ds.map (·.1))).map V.int))) ⟨none,rfl,g0,s1,ia⟩ (by rintro i a0 q _⟨_,_,z,_⟩;exact ja.of (z.sub _ _ h0)) ?_ ?_⟩
   ·rintro i y a0 q z0⟨c0,rfl,j0,b0,J⟩;have U0:i=0:=by have:=(ee.mp z0).1;simpa using this
    subst U0;cases z0;refine⟨_,rfl,.inl ⟨rfl,_,ja.of J⟩,_,rfl,s',_,sx,_,_,rfl,j0.sub _ _ Q0,T.Ae,T.jC,rfl,O,O0,[],_,rfl,rfl,J,j0.sub _ _ R0,by rw[Na,(mc _).length_eq,Na];have:=D.ln.1;show 0+_<=_;lia,_,rfl,?_,λb o e=>?_,ia⟩
    ·exact j0.to λr o h e=>by
      rw[ka]
      ·exact e
      ·rcases h with h|⟨j,V0,rfl,h⟩
       ·exact S0 r o h
       ·exact bx.new f0 j V0 o h
    ·rw[ka λz=>by rw[z,f0]at e;cases e];exact b0 _ _ e
   ·rintro a0 q⟨c0,rfl,j0,b0,J⟩;exact fin _ q c0 (mj D.nd) (by rw[(mc _).length_eq,Na];exact D.ln.1) J b0 (λn l0=>⟨kp,(mc _).mem_iff.mp l0⟩) (by unfold uh;rw[Ca kp])
  ·have i0:=g0.sub _ _ h0;refine⟨E.sp,rfl,⟨_,ja.of i0⟩,eh (K:=K) (a:=E.sp) (λi a0 q=>a0=[some (.ref (x 0)),some (.ref O),none]/\q=upd H O (.lst [])) ⟨rfl,rfl⟩ (by rintro i a0 q _⟨_,z⟩;exact z▸ja.of i0) (by grind) ?_⟩;rintro a0 q⟨rfl,rfl⟩;exact fin [] _ none .nil (wc _) ia s1 (by grind) (by unfold uh;rw[kp];rfl)
def oP(h:Paired (Ei H) ys ((List.range q.length).map (Xh q))):Paired (λv k=>Ei H v k/\k.length=3) ys ((List.range q.length).map (Xh q)):=by
 have:∀{ys:List V}{l:List Nat},Paired (Ei H) ys (l.map (Xh q))->Paired (λv k=>Ei H v k/\k.length=3) ys (l.map (Xh q)):=λ{ys l}=>by
  induction l generalizing ys with
  |nil=>intro h;cases h;exact .nil
  |cons i r J=>intro h;cases h with|cons a b=>exact .cons ⟨a,rfl⟩ (J b)
 exact this h
def MD:∀(l:List Nat){ys:List V},Paired (λv(k:List Key)=>∃t,v=.ref t/\H t=some (.tup (k.drop 1|>.map kV))) ys (l.map (Xh q))->Gb H ys (l.map λ(i:Nat)=>.tuple [.int 1,.int (i:Int)])
 |[],_,h=>by cases h;exact .nil
 |i::r,_,h=>by
  cases h with
  |cons a b=>
   obtain⟨t,rfl,h⟩:=a;exact .cons (.tup h (.cons (.int _) (.cons (.int _) .nil))) (MD r b)
def ND:∀(l:List Nat){ys:List V},Paired (λv xs=>∃t,v=.ref t/\H t=some (.tup xs)) ys (l.map λi=>(Xh q i).map kV)->Paired (Ei H) ys (l.map (Xh q))
 |[],_,h=>by cases h;exact .nil
 |i::r,_,h=>by
  cases h with
  |cons a b=>exact .cons a (ND r b)
def OD(T:Tx K mg):T.Yo.Ok mg P w base 6 (ev T [] sr λ_ _=>True):=by
 refine Qa T.Yo.F λ{_ _ _ s}H vs Q E w0 h=>?_
 ·obtain⟨g,U,x,c,E,rfl,G,D,k⟩:=h;have z1:=yc w0;refine⟨_,(oa (Ya 1 (Zb jf))
   (oa (re me rfl (Yb (Ia K 0)) (Kd 2)
   (oa (Ya 3 (Ib (pv 0) T.Va T.xf.m (Wl T) w0 T.xf.b (va (Ia K 2))))
   (oa (Io 4 ["look"] (by show(rf _).Nodup;decide+kernel) [] [] (Yb (Ia K 3)) (Ac 0) nf (Pa (ej (K:=K) rfl) (pv 0) ra))
   (oa (Ya 5 (Ow (Ia K 3) (tM T) (w0.mono (by decide)) (ca (Ia K 2) (ca (pv 4) (ca (Ia K 2) (va (fb T.Fx (VN T) w0 (ca (pv 2) (va (Ia K 0))))))))))
   (qa (Ub (Oj Fg F.slot_list_extend F.type_list_extend Uz (pv 1) (va (Vd ["place","stamp"] ["span"] [2] (aI rfl T.qC (Ea 5)) (xw (K:=K) (n:=2) rfl rfl (Ef (Ac 0) (Ef (Ac 1) Vk))) nf (Hb (ca (pv 1) (ca (Ia K 2) (Ea 0)))))))))))))
   (qa (Ha (Vd ["spot"] [] [] (Yb (Nb zK (by rfl) T.Uf Bg (Ea 1))) (Ac 0) nf (oo (bC rfl) (pv 0) (Lm ra) fq)))))),?_⟩
  show let H0:TS:=_;let L0:TS:=_;let M0:TS:=ma _ L0;let N0:TS:=ma _ M0;let O0:TS:=ma _ N0;let Q0:TS:=ma (qe _ _ O0) H0;ma _ Q0 _ _ _
  intros;have bx:=D.bx;refine⟨Oc,λa0 x0=>?_⟩;have s1:=aa.upd (o:=HO.lst []) x0;have y0:=bx.same s1;have A1:(60:Nat)<=JQ:=by decide
  refine⟨_,rfl,x 0,_,c.hx,_,_,rfl,y0.get 0 rfl,T.Va,T.hp,rfl,?_⟩;rename_i H0 L0 M0 N0 O0 Q0;have fin:∀(J:List Int)(vs:List V)(q:Hp)(e0 f0 g0 h0:Option V),J.Pairwise (·<=·)->J.length<=42->q a0=some (.lst vs)->Paired (Ei q) vs ((List.range J.length).map (Xh J))->aa H q->J.length=(if E.kp=HQ then Yf g.l E.lks.length else 0)->H0 {nx:=λ_ H'=>Q .ya H',rt:=Q} [some (.ref (x 0)),some (.ref a0),e0,f0,g0,h0] q:=λJ vs q e0 f0 g0 h0 d1 ln j0 I0 k0 e1=>by
   have lv:=pf I0;rw[Na,fm]at lv;refine⟨_,rfl,a0,vs,_,Dy,rfl,ja.of j0,I0,⟨λa z0 b f1=>?_,λa z0=>?_⟩,by lia,jP d1,λp R0=>?_⟩
   ·obtain⟨i,_,rfl⟩:=Fd.mp z0;obtain⟨j,_,rfl⟩:=Fd.mp f1;exact⟨⟨rfl,rfl⟩,⟨rfl,rfl⟩,⟨rfl,rfl⟩,trivial⟩
   ·obtain⟨i,_,rfl⟩:=Fd.mp z0;exact List.cons_ne_nil _ _
   have i0:=aa.upd (o:=HO.lst vs) R0;have S0:=ia (H:=q) (a:=p) (o:=HO.lst vs);refine⟨p,rfl,⟨_,ja.of S0⟩,sg (k:=1) (fs:=[]) (λH v (k:List Key)=>∃t,v=.ref t/\H t=some (.tup (k.drop 1|>.map kV))) (λH v k=>Ei H v k/\k.length=3) ((List.range J.length).map (Xh J)) some (by rintro _ _ _ _ J0⟨t,e,z⟩;exact⟨t,e,J0 _ _ (by grind) z⟩) (by rintro _ _ _ _ s⟨⟨t,e,z⟩,y⟩;exact⟨⟨t,e,s _ _ z⟩,y⟩) rfl S0 (oP (Paired.ib I0 (by rintro _ _⟨t,e,z⟩;exact⟨t,e,i0 _ _ z⟩))) (by rw[Na,fm];lia) ?_ λg1 l0 A0 U0 O n0 o0=>?_⟩
   ·rintro a z0 l0 B0 v R O p0⟨⟨t,rfl,q0⟩,C0⟩r0 _;obtain⟨h1,rfl⟩:=Be.mp p0;refine jd (B:=False) ⟨_,rfl,_,rfl,t,_,rfl,xa.of q0,by rw[Na,C0];decide,λc0 D0=>r0 _ _ [_] _ rfl rfl (aa.upd D0) ⟨c0,rfl,?_⟩⟩;rw[ia,show vi (a.map kV) (some 1) none=_ from xD _ 1,List.map_drop]
   ·rw[List.filterMap_some]at o0;refine k g1 A0 l0 (uc k0 (uc i0 U0)) (k0.trans (i0.trans O)) n0 ?_ λ_ _=>trivial
    unfold sr;rw[<-e1];exact .lst n0 (MD (List.range J.length) o0)
  rcases D.sps with⟨kp,s',s0,i1,j1,t0,k1,B1⟩|⟨kp,t0⟩
  ·have J0:∀b o,U b=some o->b≠a0:=λb o e z=>by rw[z,bx.free x0]at e;cases e
   have C1:=pf D.lks;refine⟨E.sp,rfl,⟨_,ja.of (y0.sub _ _ t0)⟩,eh (K:=K) (a:=E.sp) (xs:=[.ref s']) (λi b0 q=>(∃e0 f0 g0 h0,b0=[some (.ref (x 0)),some (.ref a0),e0,f0,g0,h0])/\Bx U q x (fE T c x E)/\aa H q/\∃vs,q a0=some (.lst vs)/\((i=0/\vs=[])\/i=1/\Paired (Ei q) vs ((List.range (cn g.l E.b (E.lks.map (·.1)) E.e IQ).length).map (Xh (cn g.l E.b (E.lks.map (·.1)) E.e IQ))))) ⟨nx1 none none (nx1 none none rfl),y0,s1,[],ia,.inl ⟨rfl,rfl⟩⟩ (by rintro i b0 q _⟨_,z,_⟩;exact ja.of (z.sub _ _ t0)) ?_ ?_⟩
   ·rintro i y b0 q F0⟨⟨e0,f0,g0,h0,rfl⟩,Y,k0,vs,j0,hv⟩;have l1:i=0:=by have:=(ee.mp F0).1;simpa using this
    subst l1;cases F0;have m1:vs=[]:=by
     rcases hv with⟨_,rfl⟩|z
     ·rfl
     ·exact absurd z.1 (by decide)
    subst m1;have C0:=Y.sub _ _ D.obj;have u0:=Y.sub _ _ k1;refine⟨_,rfl,x 0,c.hx,_,rfl,Y.get 0 rfl,rfl,_,rfl,s',_,s0,_,_,rfl,u0,T.Ae,T.Al,rfl,x 0,c.hx,c.dl,x 3,_,rfl,Y.get 0 rfl,rfl,Y.sub _ _ D.dls,?_⟩;refine⟨_,rfl,x 3,_,c.ax,_,_,rfl,C0,T.Ua,T.Yq,rfl,?_⟩;rw[D.xy];refine⟨x 7,rfl,⟨_,ja.of (Y.sub _ _ D.lok)⟩,sg (k:=1) (fs:=[]) (λ_ y (n:Int)=>y=.int n) (λH v c0=>Ki c H v c0) E.lks (λc0=>some c0.1) (λ_ _ _ _ _ e=>e) (λ_ _ _ _ s h=>h.same s) rfl (Y.sub _ _ D.lok) (Paired.ib D.lks λ_ _ h=>h.same Y.sub) (by have:=D.ln.2.1;lia) ?_ λn1 o1 ys U0 d0 V0 o0=>?_⟩
    ·rintro c0 D0 o1 B0 v R d0 p0⟨t,_,_,rfl,q0,_⟩r0 _;obtain⟨h1,rfl⟩:=Be.mp p0;exact jd (B:=False) ⟨_,rfl,t,_,_,_,rfl,rfl,xa.of q0,Ja (j:=0) rfl,r0 _ _ [_] _ rfl rfl (aa.refl _) rfl⟩
    rw[sm]at o0;rw[Su o0]at V0;have G0:=Y.same d0;refine⟨_,rfl,x 3,_,c.ax,_,_,rfl,d0 _ _ C0,T.Ua,T.dk,rfl,c.lv,g.l,c.lx,_,D.wy,G0.sub _ _ D.lev,rfl,_,rfl,s',_,s0,_,_,rfl,d0 _ _ u0,T.Ae,T.Wx,rfl,_,rfl,_,rfl,s',_,s0,_,_,rfl,d0 _ _ u0,T.Ae,T.Wq,rfl,_,rfl,_,rfl,x 0,_,c.hx,_,_,rfl,G0.get 0 rfl,T.Va,T.hp,rfl,E.sp,s',s0,Jo g.l,E.b,E.e,i1,j1,rfl,G0.sub _ _ t0,d0 _ _ u0,E.df.lv,E.b,n1,E.e,IQ,E.lks.map (·.1),rfl,V0,by rw[Na];have:=D.ln.2.1;lia,λp H4 R0 i0 v0=>?_⟩;have p1:=Ey g.l E.b (E.lks.map (·.1)) E.e;have D1:Yf g.l (E.lks.map (·.1)).length<=42:=by
     rw[Na];have:=D.ln.2.1;cases g.l<;>simp only[Yf]<;>lia
    generalize cn g.l E.b (E.lks.map (·.1)) E.e IQ=J at v0 p1⊢;have E1:=G0.same i0;have W0:=d0.trans i0;refine⟨_,rfl,.inl ⟨rfl,_,ja.of (W0 _ _ j0)⟩,_,rfl,p,_,rfl,v0,?_⟩;refine GD (k:=2) (fs:=[some (.ref s')]) J.length (λi=>(Xh J i).map kV) rfl (by lia) (λi l0 O hi=>nx5 _ (.int (J.getD i 0)) (ja.of (O _ _ v0)) (by rw[ge,Dc hi,Af,Dc hi];rfl)) (λl0 O=>⟨_,ja.of (O _ _ v0),Na _⟩) ?_ λq1 l0 A0 F1 O r1 X0=>?_
    ·rintro i l0 B0 v G1 R O hi p0⟨t1,u,u1,rfl,v1,rfl⟩r0;obtain⟨Y0,Z0,rfl⟩:∃Y0 Z0,B0=[Y0,Z0]:=by
      match B0,p0 with
      |[a,b],_=>exact⟨a,b,rfl⟩
     have a1:=u1 _ (ja.of (O _ _ v0));rw[ge,Dc hi]at a1;cases a1;have sp:=aa.upd (o:=HO.tup [.int (i:Int),.int J[i]]) v1;refine nx7 t1 _ rfl (xa.of ia) rfl _ _ rfl _ _ rfl rfl (jd (B:=False) ⟨_,rfl,_,rfl,s',_,s0,_,_,rfl,sp _ _ (O _ _ (i0 _ _ (d0 _ _ u0))),T.Ae,T.Al,rfl,_,rfl,Eb,λt q0=>r0 t [_,_] _ ?_ rfl (sp.trans (aa.upd q0))⟩);rw[ia];show some (HO.tup [_,_,_])=some (HO.tup [.int (J.getD i 0),_,_]);rw[Af,Dc hi];rfl
    ·have K0:=W0.trans O;have n0:=K0 _ _ j0;have w1:=pf X0;rw[Na,fm]at w1;refine⟨a0,q1,[],A0,rfl,rfl,n0,r1,by show 0+_<=_;lia,nx1 _ _ (nx1 _ _ rfl),?_,λb o e=>?_,A0,ia,.inr ⟨rfl,?_⟩⟩
     ·exact(Y.same K0).to λr o h e=>by
       rw[ka]
       ·exact e
       ·rcases h with h|⟨j,x1,rfl,h⟩
        ·exact J0 r o h
        ·exact bx.new x0 j x1 o h
     ·rw[ka λz=>by rw[z,x0]at e;cases e];exact K0 _ _ (k0 _ _ e)
     ·exact ND (List.range J.length) (Paired.ib X0 (by rintro _ _⟨t,e,z⟩;exact⟨t,e,by rw[ka λy=>by rw[y,n0]at z;cases z];exact z⟩))
   ·rintro b0 q⟨⟨e0,f0,g0,h0,rfl⟩,Y,k0,vs,j0,hv⟩;refine fin _ vs q e0 f0 g0 h0 (kP D.rp.2.1 (λn y1=>?_) D.zf.2) ?_ j0 (hv.resolve_left λz=>absurd z.1 (by show¬1=0;decide)).2 k0 ?_
    ·obtain⟨c0,D0,rfl⟩:=Fd.mp y1;exact(D.zf.1 c0 D0).2
    ·rw[Ey,Na];have:=D.ln.2.1;cases g.l<;>simp only[Yf]<;>lia
    ·rw[Ey,Na,Ca kp]
  ·have b1:=y0.sub _ _ t0;refine⟨E.sp,rfl,⟨_,ja.of b1⟩,eh (K:=K) (a:=E.sp) (xs:=[]) (λi b0 q=>b0=[some (.ref (x 0)),some (.ref a0),none,none,none,none]/\q=upd H a0 (.lst [])) ⟨rfl,rfl⟩ (by rintro i b0 q _⟨_,z⟩;exact z▸ja.of b1) (λi y b0 q F0=>by simp at F0) ?_⟩;rintro b0 q⟨rfl,rfl⟩;exact fin [] [] _ none none none none .nil (wc _) ia .nil s1 (by rw[kp];rfl)
--@cc
open Shf
def pP:Sp:=λvs H Q _=>∃c:Int,vs=[.int c]/\∀(z:Int)H',aa H H'->Q (.int z) H'
def qP:Sp:=λvs H Q _=>∃n p:Int,vs=[.int n,.int p]/\∀k:Key,Q (kV k) H
def rP:Sp:=λvs H Q _=>∃c b:Int,vs=[.int c,.int b]/\∀p d H',H p=none->aa H H'->H' p=some (.tup (De.vs d))->d.ok->Q (.ref p) H'
inductive sP(vs:List V)(H:Hp)(Q:VK)(E:XK):Prop|mk(v d kvs)(_:vs=[v,.ref d])(_:Uh v)(_:H d=some (.dK kvs))(_:ze kvs)(_:Q (.int (wI v kvs)) H)
inductive tP(vs:List V)(H:Hp)(Q:VK)(E:XK):Prop|mk(r d:FQ)(fs ds:Dr)(_:vs=[.ref r,.ref d])(_:H r=some (.dK (Ka fs)))(_:H d=some (.dK (Ka ds)))(_:(ds.map (·.1)).Nodup)(_:fs.length+ds.length<=60)(_:∀p H',H p=none->aa H H'->H' p=some (.dK (Ka (vg fs ds)))->Q (.ref p) H')
inductive uP(vs:List V)(H:Hp)(Q:VK)(E:XK):Prop|mk(r d:FQ)(fs ds:Dr)(_:vs=[.ref r,.ref d])(_:H r=some (.dK (Ka fs)))(_:H d=some (.dK (Ka ds)))(_:(ds.map (·.1)).Nodup)(_:fs.length+ds.length<=60)(_:∀p H',H p=none->(∀b o,b≠d->H b=some o->H' b=some o)->Rd H' d (.dK (Ka ds))->H' p=some (.dK (Ka (vg fs ds)))->Q (.ref p) H')
inductive vP(vs:List V)(H:Hp)(Q:VK)(E:XK):Prop|mk(r:FQ)(M:Dr)(lo hi:Int)(_:vs=[.ref r,.int lo,.int hi])(_:H r=some (.dK (Ka M)))(_:M.length<64)(_:∀p ys H',H p=none->aa H H'->H' p=some (.tup ys)->Bc H' ys (yf M (gb lo hi))->Q (.ref p) H')
def Mf(y:Nat->FQ)(r:FQ)(pl q:Nat):List (Key×V):=[(.inr "names",.ref (y 1)),(.inr "drafts",.ref (y 2)),(.inr "looks",.ref (y 3)),(.inr "place",.int pl),(.inr "many",.int q),(.inr "rows",.ref r)]
def fD(y:Nat->FQ)(r:FQ)(q:Nat)(s:Ms)(lv:List V):Nat->Option HO
 |0=>some (.dK (Mf y r s.pl q))
 |1=>some (.dK s.na)
 |2=>some (.dK (Ka s.ds))
 |3=>some (.lst lv)
 |_=>none
inductive vr(Z:FQ)(U:Hp)(v:V)(q:Int×Int×List Int):Prop|mk(t l)(_:v=.ref t)(_:U t=some (.tup [.int q.1,.int q.2.1,.ref l]))(_:U l=some (.lst ((eb q.2.2).map V.int)))(_:l≠Z)
structure Li(g:Gm)(U H:Hp)(y:Nat->FQ)(r:FQ)(s:Ms)(lv:List V)(n:Nat):Prop where
 bx:Bx U H y (fD y r g.ua.length s lv)
 row:U r=some (.dK (Ka g.fs))
 lks:Paired (vr (y 9) U) lv s.lk
 xr:∃o,U (y 9)=some o
 ai:ze s.na
 nd:(s.ds.map (·.1)).Nodup
 ln:s.na.length<=n/\s.ds.length<=n/\lv.length<=n
inductive PD(look:Bool)(vs:List V)(H:Hp)(Q:VK)(E:XK):Prop|mk(g:Gm)(U:Hp)(y:Nat->FQ)(r:FQ)(s:Ms)(lv:List V)(n:Nat)(q:FQ)(d:De)(_:vs=[.ref q,.ref (y 0)])(_:Gd g)(_:Li g U H y r (if look=HQ then{s with pl:=s.pl+1}else s) lv n)(_:n<50)(_:U q=some (.tup d.vs))(_:d.ok)(_:(look=HQ->qp d))(_:∀p ps U' H' qk,aa U U'->Li g U' H' y r (Sd g.fs g.ua.length s d).1 qk (n+1)->U' p=some (.tup ps)->Gb (tp U') ps (Sd g.fs g.ua.length s d).2->Q (.ref p) H')
inductive wP(vs:List V)(H:Hp)(Q:VK)(E:XK):Prop|mk(g:Gm)(U:Hp)(y:Nat->FQ)(r:FQ)(s:Ms)(lv:List V)(n:Nat)(dl:FQ)(qs:List V)(_:vs=[.ref (y 0),.ref dl])(_:Gd g)(_:Li g U H y r s lv n)(_:n<50)(_:U dl=some (.lst qs))(_:Paired (λv d=>∃q,v=.ref q/\U q=some (.tup (De.vs d))) qs g.ua)(_:∀p ps U' H' qk,aa U U'->Li g U' H' y r (Sb g.fs g.ua s).1 qk (n+1)->U' p=some (.tup ps)->Gb (tp U') ps (Sb g.fs g.ua s).2->Q (.ref p) H')
def xP:Sp:=λvs H Q _=>∃(g:Gm)(r:FQ),vs=[.ref r,.int (g.ua.length:Int)]/\H r=some (.dK (Ka g.fs))/\∀y H',aa H H'->H (y 0)=none->H (y 1)=none->H (y 2)=none->H (y 3)=none->Bx H H' y (fD y r g.ua.length ⟨[],[],0,[]⟩ [])->Q (.ref (y 0)) H'
inductive yP(K:W.Frag)(vs:List V)(H:Hp)(Q:VK)(E:XK):Prop|mk(a:FQ)(ns:List Int)(b:Int)(_:vs=[.ref a,.int b])(_:ja K H a (ns.map V.int))(_:ns.length<=63)(_:∀p(fs:Dr)H',H p=none->aa H H'->H' p=some (.dK (Ka fs))->(fs.map (·.1)).Nodup->fs.length<=4->(∀q∈fs,q.2≠none)->Q (.ref p) H')
def Xl(y:Nat->FQ)(r:FQ)(pl q:Nat):kb (Mf y r pl q) (.inr "names")=some (.ref (y 1))/\kb (Mf y r pl q) (.inr "drafts")=some (.ref (y 2))/\kb (Mf y r pl q) (.inr "looks")=some (.ref (y 3))/\kb (Mf y r pl q) (.inr "place")=some (.int pl)/\kb (Mf y r pl q) (.inr "many")=some (.int q)/\kb (Mf y r pl q) (.inr "rows")=some (.ref r):=⟨rfl,rfl,rfl,rfl,rfl,rfl⟩
def zP(M:Dr)(k:Int):Om (Ka M) (Sum.inl k:Key)=Ka (M.filter λz=>!decide (z.1=k)):=by
 unfold Om Ka;rw[List.filter_map];congr 1;refine List.filter_congr λq _=>?_
 grind
section
variable{g:Gm}{U H H':Hp}{y:Nat->FQ}{r:FQ}{s s':Ms}{lv qk:List V}{n many:Nat}
def Hy(b:Bx U H y (fD y r many s lv)){p:FQ}{xs:List V}(e:H p=some (.tup xs)):Xc H y (fD y r many s lv) p=some (.tup xs):=
 nl e (Sc (λ_ _ z=>by rw[<-z,b.get 0 rfl]at e;cases e) (λ_ _ z=>by rw[<-z,b.get 1 rfl]at e;cases e) (λ_ _ z=>by rw[<-z,b.get 2 rfl]at e;cases e) (λ_ _ z=>by rw[<-z,b.get 3 rfl]at e;cases e) (λ_ z=>by cases z) (λ_ z=>by cases z) (λ_ z=>by cases z) (λ_ z=>by cases z) (λ_ z=>by cases z))
def Li.fin(D:Li g U H y r s lv n){p:FQ}{ps:List V}{ds:List QQ}(b:Bx U H' y (fD y r g.ua.length s' qk))(lk:Paired (vr (y 9) (Xc H' y (fD y r g.ua.length s' qk))) qk s'.lk)(J:ze s'.na)(O:(s'.ds.map (·.1)).Nodup)(Y:s'.na.length<=n+1/\s'.ds.length<=n+1/\qk.length<=n+1)(a0:H' p=some (.tup ps))(b0:Gb (tp H') ps ds):
  ∃q,aa U q/\Li g q H' y r s' qk (n+1)/\q p=some (.tup ps)/\Gb (tp q) ps ds:=
 ⟨_,b.grow.1,⟨b.grow.2,b.grow.1 _ _ D.row,lk,(by obtain⟨o,e⟩:=D.xr;exact⟨o,b.grow.1 _ _ e⟩),J,O,Y⟩,Hy b a0,b0.same (He λ_ _ e=>Hy b e)⟩
end
open Shf
inductive BP(K:W.Frag)(vs:List V)(H:Hp)(Q:VK)(E:XK):Prop|mk(a:FQ)(ns:List Int)(k:Int)(_:vs=[.ref a,.int k])(_:ja K H a (ns.map V.int))(_:ns.length<=63)(_:0<=k)(_:k<=100)(_:∀z:Int,Q (.int z) H)
inductive CP(vs:List V)(H:Hp)(Q:VK)(E:XK):Prop|mk(c k:Int)(_:vs=[.int c,.int k])(_:0<=k)(_:k<=100)(_:∀z:Int,0<=z->z<2147483587->Q (.int z) H)
def gv(T:Tx K mg):T.bp.Ok P w base 1 (BP K):=by
 refine Qa T.bp.F λH _ Q _ _ h=>?_
 ·obtain⟨a,q,k,rfl,J,g0,a0,h0,O⟩:=h;refine⟨_,(oa (qb (zb Xi (pv 1) (Nb Ue (by rfl) T.Ye Pe (Ea 0)) (sb _))
   (qa (Ha (Pa ye (pv 0) (pv 1))))
   Bb)
   (oa (Ya 2 (Ta Ee (Ta qi ra (pv 1)) ra))
   (oa (qb (zb Yp (Nb Ue (by rfl) T.Ye Pe (Ea 0)) ra (sb _))
   (qa (Ya 2 (Ta se (Ta Ee (Pa ye (pv 0) (Ta se (Ta qi ra (pv 1)) (Nb Ue (by rfl) T.Ye Pe (Ea 0)))) (Ta qi ra (pv 1))) ra)))
   Bb)
   (qa (Ha (Ta se (Ta qi (pv 2) (pv 2)) ra)))))),?_⟩
  show let b0:TS:=_;let c0:TS:=ma (lb _ _ _) b0;let d0:TS:=ma _ c0;ma (lb _ _ _) d0 _ _ _
  intros;refine⟨_,rfl,_,rfl,_,_,rfl,.inl ⟨_,J,rfl⟩,_,_,rfl,rfl,_,rfl,bb (λe=>?_) (λe=>?_)⟩
  ·have e0:k<((q.map V.int).length:Int):=Ed e;obtain⟨v,hv⟩:∃v,Ve (q.map V.int) k=some v:=al a0 e0;obtain⟨z,hz,rfl⟩:=Fd.mp (vo hv);exact⟨_,rfl,_,rfl,a,_,_,_,rfl,rfl,J,hv,O z⟩
  ·refine⟨_,rfl,_,_,rfl,rfl,.inl ⟨by lia,by lia⟩,_,_,rfl,rfl,?_⟩;have fin:∀m:Int,0<=m->m<2147483647+800000->Wy (Dm (rI (λx j=>0<j) λi j=>V.int (i%j)) (Dm (rI Vr λi j=>V.int (i*j)) (eo 2) (eo 2)) (tC (V.int 2147483629))) {nx:=λx H'=>Q V.ya H',rt:=Q} [some (.ref a),some (.int k),some (.int m)] H:=λm m0 i0=>⟨_,rfl,_,rfl,_,_,rfl,rfl,.inl ⟨by lia,by lia⟩,_,_,rfl,rfl,(by show(0:Int)<2147483629;decide),O _⟩
   refine⟨_,rfl,_,_,rfl,.inl ⟨_,J,rfl⟩,_,_,rfl,rfl,_,rfl,bb (λf0=>?_) (λ_=>?_)⟩
   ·have j0:0<q.length:=by
     have:=Ed f0;rw[Na]at this;lia
    have hi:(7*k%((q.map V.int).length:Int)).toNat<(q.map V.int).length:=by
     rw[Na];have k0:=zj (7*k) (show(0:Int)<(q.length:Int)by lia);have Y:=Ni (7*k) (show((q.length:Int))≠0 by lia);lia
    have Y:=Ni (7*k) (show(((q.map V.int).length:Int))≠0 by rw[Na];lia);obtain⟨v,hv⟩:∃v,Ve (q.map V.int) (7*k%((q.map V.int).length:Int))=some v:=al Y (zj _ (by rw[Na];lia));obtain⟨z,hz,rfl⟩:=Fd.mp (vo hv);refine⟨_,rfl,_,rfl,_,_,rfl,rfl,.inl ⟨by lia,by lia⟩,_,rfl,_,_,rfl,.inl ⟨_,J,rfl⟩,_,_,rfl,rfl,(by rw[Na];lia),a,_,_,_,rfl,rfl,J,hv,?_⟩;refine⟨_,rfl,_,_,rfl,rfl,.inl ⟨by lia,by lia⟩,_,_,rfl,rfl,_,_,rfl,rfl,(by show(0:Int)<2147483647;decide),?_⟩;exact fin _ (Ni _ (by decide)) (Int.lt_trans (zj _ (by decide)) (by decide))
   ·exact fin _ (by lia) (by lia)
def Iy(T:Tx K mg):T.Tq.Ok P w base 1 CP:=by
 refine Qa T.Tq.F λ_ _ _ _ _ h=>?_
 ·obtain⟨c,k,rfl,c0,d0,Y⟩:=h;refine⟨_,(oa (Ya 2 (Ta se (Ta Ee (Ta Ee (pv 0) (Ta qi ra (pv 1))) ra) ra))
   (oa (Ya 2 (Ta se (Ta Ee (Ta qi (pv 2) (pv 2)) (Ta qi ra (pv 1))) ra))
   (qa (Ha (Ta se (Ta Ee (Ta Ee (Ta qi (pv 2) (pv 2)) (Ta qi ra (pv 2))) (pv 1)) ra))))),?_⟩
  show let a0:TS:=_;let b0:TS:=ma _ a0;ma _ b0 _ _ _
  intros;refine⟨_,rfl,_,rfl,_,_,rfl,rfl,.inl ⟨by lia,by lia⟩,_,_,rfl,rfl,_,_,rfl,rfl,_,_,rfl,rfl,(by show(0:Int)<2147483647;decide),?_⟩;generalize q:(c+7919*k+11)%2147483647=m;have m0:0<=m:=q▸Ni _ (by decide);have e0:m<2147483647:=q▸zj _ (by decide);refine⟨_,rfl,_,rfl,_,_,rfl,rfl,.inl ⟨by lia,by lia⟩,_,rfl,_,_,rfl,rfl,.inl ⟨by lia,by lia⟩,_,_,rfl,rfl,_,_,rfl,rfl,(by show(0:Int)<2147483629;decide),?_⟩;generalize J:(m*m+48271*k)%2147483629=O;have f0:0<=O:=J▸Ni _ (by decide);have g0:O<2147483629:=J▸zj _ (by decide);exact⟨_,rfl,_,rfl,_,_,rfl,rfl,.inl ⟨by lia,by lia⟩,_,rfl,_,_,rfl,rfl,.inl ⟨by lia,by lia⟩,_,_,rfl,rfl,_,rfl,_,_,rfl,rfl,_,_,rfl,rfl,(by show(0:Int)<2147483587;decide),Y _ (Ni _ (by decide)) (zj _ (by decide))⟩
def DP(T:Tx K mg):T.Hx.Ok P w base 1 (pP):=by
 refine Qa T.Hx.F λ_ _ _ _ q h=>?_
 ·obtain⟨c,rfl,k⟩:=h;have Y:=yc q;refine⟨_,(oa (Ya 1 (Ta se (Ta jg (pv 0) ra) (Ta Qv ra ra)))
   (qa (Ha (Pa ye (Zb (ca ra (ca (az cz ra) (ca (pv 1) (va (Ta Wk ra (pv 1))))))) (Ta se (pv 0) ra))))),?_⟩
  show let J:TS:=_;ma _ J _ _ _
  intros;refine⟨_,rfl,_,_,rfl,rfl,⟨by decide,by decide⟩,_,_,rfl,rfl,⟨by decide,by decide,by decide⟩,_,_,rfl,rfl,(by grind),?_⟩;refine⟨_,rfl,_,rfl,_,rfl,_,_,rfl,rfl,Qe,λp O=>?_⟩;obtain⟨v,hv⟩:=al (xs:=[V.int 0,V.int (-2),V.int (c/4%10^(28:Int).toNat),V.int (0-c/4%10^(28:Int).toNat)]) (Ni c (show(4:Int)≠0 by decide)) (by grind);have:=vo hv;simp only[Mb,Tg,Vg]at this;refine⟨_,rfl,_,_,rfl,rfl,(by grind),p,_,_,_,rfl,rfl,ja.of ia,hv,?_⟩;rcases this with rfl|rfl|rfl|rfl<;>exact k _ _ (aa.upd O)
def Jy(T:Tx K mg):T.Uq.Ok P w base 1 (qP):=by
 refine Qa T.Uq.F λ_ _ _ _ q h=>?_
 ·obtain⟨n,p,rfl,k⟩:=h;have Y:=yc q;refine⟨_,(oa (qb (zb Od (Ta se (pv 0) ra) ra (sb _))
   (qa (Ha (Pa bw La (Ta se (Ta jg (pv 0) ra) ra))))
   Bb)
   (qa (Ha (pv 1)))),?_⟩
  show let J:TS:=_;ma (lb _ _ _) J _ _ _
  intros;refine⟨_,rfl,_,_,rfl,rfl,(by grind),rfl,_,rfl,bb (λ_=>?_) (λ_=>⟨_,rfl,k (.inl p)⟩)⟩;have a0:((("abz":Str).cps.toList.length:Nat):Int)=3:=by decide+kernel
  obtain⟨c,O⟩:∃c,Ve ("abz":Str).cps.toList (n/6%3)=some c:=al (by lia) (by lia);exact⟨_,rfl,_,_,rfl,rfl,⟨by decide,by decide⟩,_,_,rfl,rfl,(by grind),_,_,c,rfl,rfl,(by decide+kernel),O,k (.inr _)⟩
def FP(T:Tx K mg):T.Ix.Ok P w base 2 (rP):=by
 refine Qa T.Ix.F λH _ Q _ J h=>?_
 ·obtain⟨d0,b,rfl,k⟩:=h;have I0:=yc J;refine⟨_,(oa (Ya 2 (fb T.Tq (Iy T) J (ca (pv 0) (va ra))))
   (oa (Ya 3 (fb T.Tq (Iy T) J (ca (pv 0) (va ra))))
   (oa (Ya 4 (Pa bw La (Ta se (pv 3) ra)))
   (oa (Ya 5 (fb T.Uq (Jy T) J (ca (Ta jg (pv 2) ra) (va (Ta Ee (pv 1) (Ta se (Ta jg (pv 2) ra) ra))))))
   (oa (Ya 6 (fb T.Uq (Jy T) J (ca (Ta jg (pv 3) ra) (va (Ta Ee (pv 1) (Ta se (Ta jg (pv 3) ra) ra))))))
   (oa (Ya 7 (fb T.Uq (Jy T) J (ca (Ta jg (pv 3) ra) (va (Pa ye (Zb (ca (Ta se (Ta jg (pv 3) ra) ra) (va (Ta Ee (Ta qi (pv 3) (Ta Qv ra ra)) (pv 2))))) (Ta jg (Ta se (Ta jg (pv 2) ra) ra) ra))))))
   (oa (Ya 8 (Ta se (pv 2) ra))
   (oa (qb (zb Xi (pv 8) ra (sb _))
   (qa (Ha (Hb (ca La (ca (pv 4) (Ea 5))))))
   Bb)
   (oa (qb (zb Xi (pv 8) ra (sb _))
   (qa (Ha (Hb (ca (Pa ye (Zb (ca La (va La))) (Ta Wk (pv 8) ra)) (ca (pv 4) (ca (pv 5) (Ea 6)))))))
   Bb)
   (oa (qb (zb Xi (pv 8) ra (sb _))
   (qa (Ha (Hb (ca La (ca (pv 5) (Ea 7))))))
   Bb)
   (oa (qb (zb Od (pv 8) ra (sb _))
   (qa (Ha (Hb (ca La (Ea 5)))))
   Bb)
   (oa (qb (zb Od (pv 8) ra (sb _))
   (qa (Ha (Hb (ca La (ca (pv 4) (ca (pv 5) (ca (Pa bw La (Ta se (Ta jg (pv 3) ra) ra)) (Ea 7))))))))
   Bb)
   (oa (qb (zb Od (pv 8) ra (sb _))
   (qa (Ha (Hb (ca La (ca (pv 7) (ca (pv 6) (va (Ta Ee ra (Ta se (Ta jg (pv 3) ra) ra)))))))))
   Bb)
   (qa (Ha (Hb (ca La (ca (pv 5) (Ea 7))))))))))))))))))),?_⟩
  show let k0:TS:=_;let l0:TS:=ma (lb _ _ _) k0;let n0:TS:=ma (lb _ _ _) l0;let o0:TS:=ma (lb _ _ _) n0;let p0:TS:=ma (lb _ _ _) o0;let q0:TS:=ma (lb _ _ _) p0;let r0:TS:=ma (lb _ _ _) q0;let s0:TS:=ma _ r0;let t0:TS:=ma _ s0;let u0:TS:=ma _ t0;let v0:TS:=ma _ u0;let w0:TS:=ma _ v0;let x0:TS:=ma _ w0;ma _ x0 _ _ _
  intros;refine⟨_,rfl,d0,1,rfl,by decide,by decide,λone J0 K0=>⟨_,rfl,d0,2,rfl,by decide,by decide,λtwo L0 M0=>?_⟩⟩;have N0:((("abz":Str).cps.toList.length:Nat):Int)=3:=by decide+kernel
  obtain⟨c,y0⟩:∃c,Ve ("abz":Str).cps.toList (two%3)=some c:=al (by lia) (by lia);refine⟨_,rfl,_,_,rfl,rfl,(by grind),_,_,c,rfl,rfl,(by decide+kernel),y0,?_⟩;refine⟨_,rfl,_,_,rfl,rfl,⟨by decide,by decide⟩,_,rfl,_,rfl,_,_,rfl,rfl,⟨by decide,by decide⟩,_,_,rfl,rfl,(by grind),_,_,rfl,rfl,_,_,rfl,λok=>?_⟩;refine⟨_,rfl,_,_,rfl,rfl,⟨by decide,by decide⟩,_,rfl,_,rfl,_,_,rfl,rfl,⟨by decide,by decide⟩,_,_,rfl,rfl,(by grind),_,_,rfl,rfl,_,_,rfl,λa0=>?_⟩;refine⟨_,rfl,_,_,rfl,rfl,⟨by decide,by decide⟩,_,rfl,_,_,rfl,rfl,⟨by decide,by decide⟩,_,_,rfl,rfl,(by grind),_,rfl,_,_,rfl,rfl,⟨by decide,by decide,by decide⟩,_,_,rfl,rfl,.inl ⟨by lia,by lia⟩,_,rfl,_,_,rfl,rfl,Ma,λf0 z0=>?_⟩;have s1:=aa.upd (o:=HO.lst [V.int (two/90%7),V.int (two*10^(18:Int).toNat+one)]) z0;obtain⟨v,hv⟩:=al (xs:=[V.int (two/90%7),V.int (two*10^(18:Int).toNat+one)]) (i:=one/864%5/4) (by lia) (by show one/864%5/4<2;lia);have g0:=vo hv;simp only[Mb,Tg,Vg]at g0;obtain⟨z,rfl⟩:∃z,v=.int z:=by rcases g0 with rfl|rfl<;>exact⟨_,rfl⟩
  refine⟨_,rfl,_,_,rfl,rfl,⟨by decide,by decide⟩,_,_,rfl,rfl,(by grind),_,_,rfl,rfl,⟨by decide,by decide⟩,f0,_,_,_,rfl,rfl,ja.of ia,hv,_,_,rfl,λY=>?_⟩;generalize upd H f0 (.lst [V.int (two/90%7),V.int (two*10^(18:Int).toNat+one)])=h0 at s1⊢;have fin:∀d:De,d.ok->∀b0 p,aa h0 b0->b0 p=none->Q (.ref p) (upd b0 p (.tup d.vs)):=λd A0 b0 p i0 q=>k p d _ (uc s1 (uc i0 q)) (s1.trans (i0.trans (aa.upd q))) ia A0
  have B0:=Ni one (show(12:Int)≠0 by decide);have C0:=zj one (show(0:Int)<12 by decide);refine⟨_,rfl,_,_,rfl,rfl,(by grind),?_⟩;show ma _ _ _ ([some (.int d0),some (.int b),some (.int one),some (.int two),some (.str ⟨#[c]⟩),some (kV ok),some (kV a0),some (kV Y),some (.int (one%12))]:L2.St) h0;generalize one%12=c0 at B0 C0⊢;refine⟨_,rfl,_,_,rfl,rfl,_,rfl,bb (λ_=>?_) (λO0=>?_)⟩
  ·exact⟨_,rfl,_,rfl,Eb,λp q=>fin (.look "read" ⟨#[c]⟩ ok ok) (.inl ⟨rfl,rfl⟩) _ p (aa.refl _) q⟩
  have Q0:¬c0<3:=by grind
  refine⟨_,rfl,_,_,rfl,rfl,_,rfl,bb (λD0=>?_) (λD0=>?_)⟩
  ·have R0:c0<5:=by grind
   refine⟨Ma,λe0 j0=>?_⟩;have F0:c0=3\/c0=4:=by lia
   rcases F0 with rfl|rfl
   ·exact⟨_,rfl,_,_,rfl,rfl,e0,_,_,_,rfl,rfl,ja.of ia,Ja (j:=0) rfl,_,rfl,_,rfl,_,rfl,Qe,λp q=>fin (.look "sum" ⟨#[c]⟩ ok a0) (.inr (.inl rfl)) _ p (aa.upd j0) q⟩
   ·exact⟨_,rfl,_,_,rfl,rfl,e0,_,_,_,rfl,rfl,ja.of ia,Ja (j:=1) rfl,_,rfl,_,rfl,_,rfl,Qe,λp q=>fin (.look "count" ⟨#[c]⟩ ok a0) (.inr (.inr rfl)) _ p (aa.upd j0) q⟩
  refine⟨_,rfl,_,_,rfl,rfl,_,rfl,bb (λ_=>?_) (λ_=>?_)⟩
  ·exact⟨_,rfl,_,rfl,Eb,λp q=>fin (.put ok Y) trivial _ p (aa.refl _) q⟩
  refine⟨_,rfl,rfl,_,rfl,bb (λ_=>?_) (λ_=>?_)⟩
  ·exact⟨_,rfl,Ma,λp q=>fin (.take ok) trivial _ p (aa.refl _) q⟩
  refine⟨_,rfl,rfl,_,rfl,bb (λ_=>?_) (λ_=>?_)⟩
  ·have e0:((("+-":Str).cps.toList.length:Nat):Int)=2:=by decide+kernel
   have G0:two/11%2=0\/two/11%2=1:=by lia
   obtain⟨O,H0,hz⟩:∃O,Ve ("+-":Str).cps.toList (two/11%2)=some O/\((⟨#[O]⟩:Str)="+"\/(⟨#[O]⟩:Str)="-"):=by
    rcases G0 with e|e<;>rw[e]
    ·exact⟨43,by decide+kernel,.inl (by decide+kernel)⟩
    ·exact⟨45,by decide+kernel,.inr (by decide+kernel)⟩
   exact⟨_,rfl,_,rfl,_,rfl,_,_,rfl,rfl,⟨by decide,by decide⟩,_,_,rfl,rfl,(by grind),_,_,O,rfl,rfl,(by decide+kernel),H0,_,rfl,Bf,λp q=>fin (.lt ⟨#[c]⟩ ok ⟨#[O]⟩ Y) hz _ p (aa.refl _) q⟩
  refine⟨_,rfl,rfl,_,rfl,bb (λ_=>?_) (λ_=>?_)⟩
  ·exact⟨_,rfl,_,rfl,_,rfl,_,_,rfl,rfl,⟨by decide,by decide⟩,_,_,rfl,rfl,(by grind),_,_,rfl,rfl,Qe,λp q=>fin (.skip Y a0 (1+two/11%3)) (by show 1<=1+two/11%3;lia) _ p (aa.refl _) q⟩
  ·exact⟨_,rfl,_,rfl,Eb,λp q=>fin (.stop ok Y) trivial _ p (aa.refl _) q⟩
def An(T:Tx K mg):T.ck.Ok P w base 1 (sP):=by
 refine Qa T.ck.F λ_ _ _ _ J h=>?_
 ·obtain⟨v,d,kvs,rfl,ho,q,O,k⟩:=h;have Y:=yc J;refine⟨_,(oa (qb (rc (Nb yi (by rfl) T.Th Hh (ca (pv 0) (va (ah (v:=V.ty "str") rfl T.Zx boot_str rfl)))))
   (qa (Ha (rq Y (pv 1) (pv 0) ra ⟨rfl,rfl,rfl,rfl⟩)))
   Bb)
   (qa (Ha (pv 0)))),?_⟩
  show let a0:TS:=_;ma (lb _ _ _) a0 _ _ _
  intros;rcases ho with⟨n,rfl⟩|⟨x,rfl⟩
  ·exact⟨_,rfl,_,_,_,_,rfl,hf.int _,kA,_,rfl,zc ⟨_,rfl,k⟩⟩
  ·refine⟨_,rfl,_,_,_,_,rfl,hf.str _,lw,_,rfl,jd ⟨_,rfl,d,rfl,.inl ⟨kvs,.inl q⟩,_,rfl,_,uf.k (k:=Sum.inr x) q,?_⟩⟩;rw[yC O x];exact k
namespace Raw
def Dd(T:Tx K mg):T.Vq.Ok P w base 1 (uP):=by
 refine Qa T.Vq.F λ_ _ _ _ n0 h=>?_
 ·obtain⟨r,d,fs,ds,rfl,o0,p0,q0,w0,k⟩:=h;have b0:=yc n0;refine⟨_,(oa (Ya 2 (kg jw (by rfl) T.Eu QS (Ea 0)))
   (oa (re me rfl (DB (pv 1)) (Kd 3)
   (qa (qb (zb Zp (jc b0 (pv 1) (pv 3)) Hd (sb _))
   (qa (Ub (fA (pv 2) (pv 3) Hd ⟨rfl,rfl,rfl,rfl⟩)))
   (qa (We b0 (pv 2) (pv 3) (jc b0 (pv 1) (pv 3)) rfl)))))
   (qa (Ha (pv 2))))),?_⟩
  show let r0:TS:=_;let s0:TS:=ma (qe _ _ (lb _ _ _)) r0;ma _ s0 _ _ _
  intros;refine⟨_,rfl,r,_,rfl,o0,λp h0=>?_⟩;have s1:=aa.upd (o:=HO.dK (Ka fs)) h0;have c0:p≠d:=λz=>by grind
  have x0:(60:Nat)<JQ:=by decide
  refine⟨_,rfl,d,Ka ds,rfl,.inl (s1 _ _ p0),λob t0 i0 j0 _=>?_⟩;refine iJ (d:=d) (ob:=ob) (kvs:=Ka ds) (λi d0 Y=>∃e0,d0=[some (.ref r),some (.ref d),some (.ref p),e0]/\Y p=some (.dK (Ka ((ds.take i).foldl Vh fs)))/\∀b o,b≠p->t0 b=some o->Y b=some o) ⟨none,rfl,j0 _ _ c0 ia,λb o _ e=>e⟩ (by grind) ?_ ?_
  ·rintro i y0 x d0 Y f0⟨e0,rfl,q,J⟩;have u0:i<ds.length:=by
    have:=(ee.mp f0).1;unfold Ka at this;rwa[Na]at this
   obtain⟨⟨O,a0⟩,g0⟩:∃k0,ds[i]?=some k0:=⟨_,Dc u0⟩;have ex:(Ka ds)[i]?=some (Sum.inl O,ov a0):=by unfold Ka;rw[ge,g0];rfl
   rw[ex]at f0;cases f0;have v0:(ds.take (i+1)).foldl Vh fs=Vh ((ds.take i).foldl Vh fs) (O,a0):=by
    rw[Oi,g0,List.foldl_append];rfl
   have l0:uf Y d (kV (Sum.inl O:Key)) (some (ov a0)):=.inl (nx0 (Ka ds) (Sum.inl O) (.inr ⟨ob,J _ _ c0.symm i0⟩) rfl (by rw[Tl,(JC q0).mpr (Cg g0)];rfl));have ol:=lr (ds.take i) fs;have z0:(ds.take i).length<=ds.length:=by rw[vj];lia
   refine⟨_,rfl,_,rfl,d,_,rfl,l0,rfl,_,rfl,?_⟩;rw[v0];cases a0 with
   |none=>
    refine bb (λ_=>?_) (λe=>absurd (Ec rfl) e);refine⟨_,rfl,p,rfl,.inl ⟨_,.inl q⟩,_,rfl,_,Sum.inl O,q,rfl,λv hv=>⟨_,rfl,?_,λb o n e=>by rw[ka n];exact J b o n e⟩,λhv=>⟨_,rfl,?_,J⟩⟩
    ·rw[zP,ia];rfl
    ·rw[q];show some (HO.dK (Ka _))=some (HO.dK (Ka (List.filter _ _)));rw[Yn.mpr λk0 A0=>?_];have B0:O∉((ds.take i).foldl Vh fs).map (·.1):=Le.mp (by rw[Tl]at hv;exact Option.map_eq_none_iff.mp hv)
     grind
   |some v=>
    refine bb (λe=>by cases Ed e) (λ_=>?_);refine⟨_,rfl,_,rfl,d,_,rfl,l0,_,rfl,_,rfl,p,_,rfl,ue.k (k:=Sum.inl O) q (by unfold Ka;rw[Na];have:(vg fs (ds.take i)).length=((ds.take i).foldl Vh fs).length:=rfl;lia),_,rfl,?_,λb o n e=>by rw[ka n];exact J b o n e⟩;rw[ia];exact Td (λz=>some (HO.dK z)) (vn _ _ _)
  ·rintro d0 Y⟨e0,rfl,q,J⟩;rw[show(Ka ds).length=ds.length from Na _,sj]at q;exact⟨_,rfl,k p Y h0 (λb o n e=>J b o (λz=>by grind) (j0 b o n (s1 _ _ e))) (.inr ⟨ob,J _ _ c0.symm i0⟩) q⟩
end Raw
def Dd(T:Tx K mg):T.Vq.Ok P w base 1 tP:=
 My.Kb.ak (Raw.Dd T) (by rintro vs H Q E⟨r,d,fs,ds,e,J,q,O,Y,k⟩;exact⟨r,d,fs,ds,e,J,q,O,Y,λp H' a0 b0 c0 d0=>k p _ a0 (cC b0 q c0) (fj d0 (by grind))⟩)
def GP{q J:Type}(l:List q)(p:q->Bool)(f:q->J):l.filterMap (λx=>if p x=HQ then some (f x)else none)=(l.filter p).map f:=by
 induction l with
 |nil=>rfl
 |cons x r O=>
  grind
def HP(T:Tx K mg):T.Jx.Ok P w base 1 (vP):=by
 refine Qa T.Jx.F λ{_ _ _ s}H _ _ _ f0 h=>?_
 ·obtain⟨r,M,lo,hi,rfl,O,g0,k⟩:=h;have h0:=yc f0;refine⟨_,(qa (Ha (kg ss (by rfl) T.Ql Jk (va (Vd ["_law_key"] ["_law_rows","_law_low","_law_high"] [0,1,2] (Yb (Nb (Ai rfl) (by rfl) T.Uf Bg (Ea 0))) (Ac 0) (gh (mz Hm Hm (pv 2) (pv 0) (pv 3))) (Hb (ca (pv 0) (va (jc h0 (pv 1) (pv 0)))))))))),?_⟩;have w0:(64:Nat)<=JQ:=by decide
  refine⟨_,rfl,r,_,M.map (·.1),rfl,O,nj M,by rw[Na];exact g0,λi0 Y=>⟨i0,rfl,⟨_,ja.of ia⟩,sg (k:=1) (fs:=[some (.ref r),some (.int lo),some (.int hi)]) (λH v (a0:Int×Option Int)=>∃t,v=.ref t/\H t=some (.tup [.int a0.1,ov a0.2])) (λ_ v (n:Int)=>v=.int n) (eb (M.map (·.1))) (λk=>if gb lo hi k=HQ then some (k,(fk M k).getD none)else none) (by rintro _ _ _ _ j0⟨t,e,z⟩;exact⟨t,e,j0 _ _ (by grind) z⟩) (by grind) rfl ia (Ii _) (by rw[(mc _).length_eq,Na];lia) ?_ λD b0 ys x0 q k0 c0=>?_⟩⟩
  ·rintro n l0 b0 y0 v R q n0 rfl o0 p0;obtain⟨z0,rfl⟩:=Be.mp n0;have q0:=(aa.upd (o:=HO.lst ((eb (M.map (·.1))).map V.int)) Y).trans q;obtain⟨o,d0⟩:∃o,fk M n=some o:=by
    cases e:fk M n with
    |some o=>grind
    |none=>exact absurd ((mc _).mem_iff.mp l0) (Le.mp e)
   have r0:kb (Ka M) (Sum.inl n:Key)=some (ov o):=by rw[Tl,d0];rfl
   refine⟨_,rfl,_,rfl,_,_,rfl,rfl,_,rfl,?_⟩;have A0:¬(lo<=n/\n<=hi)->R none ([some (.int n),some (.ref r),some (.int lo),some (.int hi)]) b0:=λz=>p0 (Ba λy=>z (Ed y)) [_] _ rfl (aa.refl _)
   refine bb (λe0=>?_) (λe0=>?_)
   ·refine⟨_,rfl,_,_,rfl,rfl,_,rfl,bb (λs0=>?_) (by grind)⟩;exact⟨_,rfl,_,rfl,_,rfl,r,_,rfl,vc (k:=Sum.inl n) (q0 _ _ O) r0,Ma,λt t0=>o0 _ _ [_] _ (Ca (Ec ⟨Ed e0,Ed s0⟩)) rfl (aa.upd t0) ⟨t,rfl,by rw[d0];exact ia⟩⟩
   ·exact(by grind)
  ·refine nx5 D ys rfl (.inl ⟨ja.of k0,λu0 J=>?_⟩);have s:=(aa.upd (o:=HO.lst ((eb (M.map (·.1))).map V.int)) Y).trans q;refine k u0 ys _ (uc s J) (s.trans (aa.upd J)) ia ?_;have v0:(eb (M.map (·.1))).filterMap (λk=>if gb lo hi k=HQ then some (k,(fk M k).getD none)else none)=yf M (gb lo hi):=by
    unfold yf;exact GP _ _ _
   rw[v0]at c0;exact(bv c0).same (aa.upd J)
def IP{q J:Type}(l:List q)(f:q->J):(List.range l.length).filterMap (λi=>(l[i]?).map f)=l.map f:=by
 refine(List.ext_getElem? λi=>?_);rw[show(List.range l.length).filterMap (λi=>(l[i]?).map f)=l.map f from ?_];have:=Ul (l.map some) none (λo:Option q=>o.map f);rw[Na]at this;rw[show(λi=>(l[i]?).map f)=λi=>((l.map some).getD i none).map f by funext i;rw[Af,ge];cases l[i]?<;>rfl,this,List.filterMap_map];show List.filterMap (λx=>some (f x)) l=_;rw[sm]
def JP(T:Tx K mg):T.Kx.Ok P w base 2 (PD HQ):=by
 refine Qa T.Kx.F λ{_ _ _ s}H _ Q _ l0 h=>?_
 ·obtain⟨g,U,y,r,s,lv,n,Y,d,rfl,G,D,M1,K0,ok,f1,k⟩:=h;have e0:=yc l0;refine⟨_,(oa (Ya 2 (jc e0 (pv 1) La))
   (oa (Ya 3 (fb T.ck (An T) l0 (ca (Pa Ab (pv 0) ra) (Ea 2))))
   (oa (Ya 4 (fb T.ck (An T) l0 (ca (Pa Ab (pv 0) (Ta Wk (Nb Ue (by rfl) T.Ye Pe (Ea 0)) ra)) (Ea 2))))
   (oa (Ya 5 (fb T.Jx (HP T) l0 (ca (fb T.Vq (Dd T) l0 (ca (jc e0 (pv 1) La) (va (jc e0 (pv 1) La)))) (ca (pv 3) (Ea 4)))))
   (oa (Ub (Oj Fg qm mm Bo (jc e0 (pv 1) La) (va (Hb (ca (pv 3) (ca (pv 4) (va (Nb (Ai rfl) (by rfl) T.Uf Bg (va (jc e0 (pv 1) La))))))))))
   (oa (qb (zb Od (Pa Ab (pv 0) ra) La (sb _))
   (qa (We e0 (pv 2) (Pa Ab (pv 0) ra) (Nb Ue (by rfl) T.Ye Pe (Ea 5)) rfl))
   (qa (We e0 (pv 2) (Pa Ab (pv 0) ra) (Nb (qA rfl) (by rfl) T.vC boot_sum (va (Vd ["_law_key","_law_value"] [] [] (ME (pv 5)) (xw (K:=K) (n:=2) rfl rfl (Ef (Ac 0) (Ef (Ac 1) Vk))) nf (pv 1)))) rfl)))
   (qa (Ha (Hb (ca La (ca (pv 3) (ca (pv 4) (Ea 5))))))))))))),?_⟩
  show let v0:TS:=_;let L0:TS:=ma (lb _ _ _) v0;let M0:TS:=ma _ L0;let N0:TS:=ma _ M0;let O0:TS:=ma _ N0;let Q0:TS:=ma _ O0;ma _ Q0 _ _ _
  intros;rename_i v0 L0 M0 N0 O0 Q0;obtain⟨O,a0,q,J,rfl⟩:∃O a0 q J,d=.look O a0 q J:=by cases d<;>first|exact(f1 rfl).elim|exact⟨_,_,_,_,rfl⟩
  obtain⟨rest,h0,g1⟩:∃rest,(De.look O a0 q J).vs=.str O::.str a0::kV q::rest/\Ve (De.look O a0 q J).vs (((De.look O a0 q J).vs.length:Int)-1)=some (kV J):=by
   by_cases e:O="read"
   ·have i0:q=J:=by
     rcases ok with⟨_,z⟩|z|z
     ·exact z
     ·exact absurd (e.symm.trans z) (by decide+kernel)
     ·exact absurd (e.symm.trans z) (by decide+kernel)
    have h0:(De.look O a0 q J).vs=[.str O,.str a0,kV q]:=Ca e;rw[h0];exact⟨[],rfl,by rw[<-i0];exact Ja (j:=2) rfl⟩
   ·have h0:(De.look O a0 q J).vs=[.str O,.str a0,kV q,kV J]:=Ba e;rw[h0];exact⟨[kV J],rfl,Ja (j:=3) rfl⟩
  have D:Li g U H y r {s with pl:=s.pl+1} lv n:=D;have bx:=D.bx;have w0:=bx.sub _ _ K0;have R0:=w0;rw[h0]at R0;have N1:(64:Nat)<=JQ:=by decide
  obtain⟨h1,S0,i1,O1,P1,j1⟩:=Xl y r (s.pl+1) g.ua.length;obtain⟨U0,V0,Q1⟩:=D.ln;have U0:s.na.length<=n:=U0;have V0:s.ds.length<=n:=V0;have Ad:=G.Ad;refine⟨_,rfl,y 0,_,rfl,vc (k:=Sum.inr "names") (bx.get 0 rfl) h1,?_⟩;refine⟨_,rfl,Y,_,_,_,rfl,rfl,xa.of R0,Ja (j:=2) rfl,_,rfl,kV q,y 1,s.na,rfl,ke _,bx.get 1 rfl,D.ai,?_⟩;refine⟨_,rfl,_,rfl,_,_,rfl,.inr ⟨_,xa.of w0,rfl⟩,_,_,rfl,rfl,Y,_,_,_,rfl,rfl,xa.of w0,g1,_,rfl,kV J,y 1,s.na,rfl,ke _,bx.get 1 rfl,D.ai,?_⟩;have ol:=lr s.ds g.fs;refine⟨_,rfl,y 0,_,rfl,vc (k:=Sum.inr "rows") (bx.get 0 rfl) j1,_,rfl,y 0,_,rfl,vc (k:=Sum.inr "drafts") (bx.get 0 rfl) S0,r,y 2,g.fs,s.ds,rfl,bx.sub _ _ D.row,bx.get 2 rfl,D.nd,by lia,λp R1 S1 s1 k1=>⟨_,rfl,_,rfl,p,_,_,_,rfl,k1,by lia,λo0 ys x0 T1 l1 j0 p0=>?_⟩⟩;have d0:=bx.same (s1.trans l1);refine⟨_,rfl,y 0,_,rfl,vc (k:=Sum.inr "looks") (d0.get 0 rfl) i1,.inl ⟨rfl,_,ja.of (d0.get 3 rfl)⟩,_,rfl,_,rfl,_,rfl,y 0,_,rfl,vc (k:=Sum.inr "drafts") (d0.get 0 rfl) S0,y 2,_,s.ds.map (·.1),rfl,d0.get 2 rfl,nj _,by rw[Na];lia,λl k0=>⟨Eb,λt y0=>?_⟩⟩;have z0:=(aa.upd (o:=HO.lst ((eb (s.ds.map (·.1))).map V.int)) k0).trans (aa.upd (o:=HO.tup [.int (oI q s.na),.int (oI J s.na),.ref l]) y0);have A0:=d0.same z0;have m1:l≠t:=λz=>by rw[<-z,ia]at y0;cases y0
  have n1:upd (upd x0 l (.lst ((eb (s.ds.map (·.1))).map V.int))) t (.tup [.int (oI q s.na),.int (oI J s.na),.ref l]) l=some (.lst ((eb (s.ds.map (·.1))).map V.int)):=by rw[ka m1,ia]
  refine⟨y 3,lv,.ref t,rfl,rfl,A0.get 3 rfl,by lia,λn0 o1 q0=>?_⟩;have f0:Bx U n0 y (fD y r g.ua.length {s with pl:=s.pl+1,lk:=s.lk++[(oI q s.na,oI J s.na,s.ds.map (·.1))]} (lv++[.ref t])):=(A0.but 3 rfl o1 q0).nc (Sc rfl rfl rfl rfl rfl rfl rfl rfl rfl);have p1:l≠y 3:=λz=>d0.new k0 3 (by decide) _ rfl z.symm
  have r0:=A0.get 3 rfl;have g0:∀a us,x0 a=some (.tup us)->n0 a=some (.tup us):=λa us e=>q0 a _ (λz=>by rw[<-z,z0 _ _ e]at r0;cases r0) (z0 _ _ e)
  have q1:n0 t=some (.tup [.int (oI q s.na),.int (oI J s.na),.ref l]):=q0 t _ (λz=>by rw[<-z,ia]at r0;cases r0) ia;have r1:=q0 l _ p1 n1;have rest:∀B0,aa n0 B0->∀b0,b0=upd B0 (y 1) (.dK (nb s.na (Sum.inr a0) (.int (Kf O (md g.fs s.ds (oI q s.na) (oI J s.na))))))->v0 {nx:=λ_ H'=>Q .ya H',rt:=Q} [some (.ref Y),some (.ref (y 0)),some (.ref (y 1)),some (.int (oI q s.na)),some (.int (oI J s.na)),some (.ref o0)] b0:=λB0 W0 b0 X0=>by
   have f0:=f0.same W0;have C0:Bx U b0 y (fD y r g.ua.length (Sd g.fs g.ua.length s (.look O a0 q J)).1 (lv++[.ref t])):=by
    rw[X0];exact(f0.put 1 (.dK (nb s.na (Sum.inr a0) (.int (Kf O (md g.fs s.ds (oI q s.na) (oI J s.na)))))) rfl).nc (Sc rfl rfl rfl rfl rfl rfl rfl rfl rfl)
   have t1:=f0.get 1 rfl;have D0:∀a o,n0 a=some o->(∀u1,o≠.dK u1)->b0 a=some o:=λa o v1 w1=>by
    have e:=W0 _ _ v1;rw[X0,ka λz=>by rw[z,t1]at e;cases e;exact w1 _ rfl];exact e
   refine⟨_,rfl,_,rfl,_,rfl,Qe,λF0 x1=>?_⟩;have s0:=aa.upd (o:=HO.tup [.str "look",.int (oI q s.na),.int (oI J s.na),.ref o0]) x1;have t0:=C0.same s0;have Y0:∀a us,x0 a=some (.tup us)->upd b0 F0 (.tup [.str "look",.int (oI q s.na),.int (oI J s.na),.ref o0]) a=some (.tup us):=λa us e=>s0 _ _ (D0 a _ (g0 a us e) (by grind))
   have pl:=kr s.na (Sum.inr a0) (.int (Kf O (md g.fs s.ds (oI q s.na) (oI J s.na))));obtain⟨y1,z1,A1,B1,C1⟩:=D.fin (p:=F0) (ds:=(Sd g.fs g.ua.length s (.look O a0 q J)).2) t0 (Hq (Paired.ib D.lks (by rintro _ _⟨a,b,e,D1,E1,F1⟩;exact⟨a,b,e,t0.grow.1 _ _ D1,t0.grow.1 _ _ E1,F1⟩)) ⟨t,l,rfl,Hy t0 (s0 _ _ (D0 _ _ q1 (by grind))),nl (s0 _ _ (D0 _ _ r1 (by grind))) (Sc (λ_ _=>d0.new k0 0 (by decide) _ rfl) (λ_ _=>d0.new k0 1 (by decide) _ rfl) (λ_ _=>d0.new k0 2 (by decide) _ rfl) (by grind) (λ_ z=>by cases z) (λ_ z=>by cases z) (λ_ z=>by cases z) (λ_ z=>by cases z) (λ_ z=>by cases z)),λz=>by obtain⟨o,e⟩:=D.xr;have:=d0.sub _ _ e;rw[<-z,k0]at this;cases this⟩) (D.ai.put _ _) D.nd ⟨by show(nb _ _ _).length<=_;lia,by show s.ds.length<=_;lia,by simp;lia⟩ ia (.cons (.str _) (.cons (.int _) (.cons (.int _) (.cons (.tup (Tf (Y0 _ _ j0)) (pp (p0.keep Y0))) .nil))));exact k F0 _ y1 _ _ z1 A1 B1 C1
  have u0:=f0.sub _ _ K0;rw[h0]at u0;have G1:=p0.keep g0;have sel:=p0.len;refine⟨_,rfl,Y,_,_,_,rfl,rfl,xa.of u0,Ja (j:=0) rfl,rfl,_,rfl,bb (λe=>?_) (λe=>?_)⟩
  ·have H1:=V.str.inj (Ed e);refine⟨_,rfl,_,_,rfl,.inr ⟨_,xa.of (g0 _ _ j0),rfl⟩,_,rfl,_,rfl,Y,_,_,_,rfl,rfl,xa.of u0,Ja (j:=1) rfl,y 1,_,rfl,ue.k (k:=Sum.inr a0) (f0.get 1 rfl) (by show s.na.length<_;lia),rest _ (aa.refl _) _ ?_⟩;rw[show Kf O (md g.fs s.ds (oI q s.na) (oI J s.na))=(ys.length:Int)by unfold Kf;rw[Ca H1,p0.len];rfl]
  ·have nw:¬O="count":=by grind
   refine⟨_,rfl,o0,rfl,⟨_,xa.of (g0 _ _ j0)⟩,UB (k:=2) (fs:=[]) (λ_ v (m:Int)=>v=.int m) (λi H v=>∃t Y,(md g.fs s.ds (oI q s.na) (oI J s.na))[i]?=some Y/\v=.ref t/\H t=some (.tup [.int Y.1,ov Y.2])) ys.length (λi=>((md g.fs s.ds (oI q s.na) (oI J s.na))[i]?).map λY=>Y.2.getD 0) (by grind) rfl ?_ (λi b0 c0 hi=>nx5 _ _ (xa.of (c0 _ _ (g0 _ _ j0))) (Dc hi)) (λb0 c0=>⟨_,xa.of (c0 _ _ (g0 _ _ j0)),Ra _⟩) ?_ ?_ λU1 b0 V1 W1 c0 Z0 a1=>?_⟩
   ·have:=iD (vg g.fs s.ds) (gb (oI q s.na) (oI J s.na));have G0:ys.length=(md g.fs s.ds (oI q s.na) (oI J s.na)).length:=sel;unfold md at G0;lia
   ·rintro i b0 v X1 c0 hi⟨rfl,hv⟩;obtain⟨t',H0,I0,G0,i0,J0⟩:=G1.get (hv _ (xa.of (c0 _ _ (g0 _ _ j0))));exact⟨rfl,nx0 t' (H0,I0) i0 G0 (c0 _ _ J0)⟩
   ·rintro i hi b0 b1 v R c0 I1⟨t',⟨H0,I0⟩,i0,rfl,J0⟩J1 _;obtain⟨d1,e1,rfl⟩:∃d1 e1,b1=[d1,e1]:=by
     match b1,I1 with
     |[a,b],_=>exact⟨a,b,rfl⟩
    have K1:=sy (lo:=oI q s.na) (hi:=oI J s.na) G.nd D.nd G.qr;obtain⟨m,rfl⟩:=Option.ne_none_iff_exists'.mp ((K1.2 H0 I0).mp (Cg i0)).2.2;refine nx7 t' _ rfl (xa.of J0) rfl _ _ rfl _ _ rfl rfl (jd (B:=False) ⟨_,rfl,J1 m _ [_,_] _ ?_ rfl (aa.refl _) rfl⟩);rw[i0];rfl
   ·have L1:(List.range ys.length).filterMap (λi=>((md g.fs s.ds (oI q s.na) (oI J s.na))[i]?).map λY=>Y.2.getD 0)=(md g.fs s.ds (oI q s.na) (oI J s.na)).map λY=>Y.2.getD 0:=by
     rw[show ys.length=(md g.fs s.ds (oI q s.na) (oI J s.na)).length from sel];exact IP _ _
    rw[L1]at a1;rw[Su a1]at Z0;have C0:=f0.same c0;refine nx0 _ _ rfl (ja.of Z0) ⟨_,rfl,_,rfl,Y,_,_,_,rfl,rfl,xa.of (c0 _ _ u0),Ja (j:=1) rfl,y 1,_,rfl,ue.k (k:=Sum.inr a0) (C0.get 1 rfl) (by show s.na.length<_;lia),rest _ c0 _ ?_⟩;rw[show Kf O (md g.fs s.ds (oI q s.na) (oI J s.na))=((md g.fs s.ds (oI q s.na) (oI J s.na)).map λY=>Y.2.getD 0).sum from Ba nw]
def KP(T:Tx K mg):T.Lx.Ok P w base 3 (PD IQ):=by
 refine Qa T.Lx.F λ{_ _ _ s}H _ Q _ g0 h=>?_
 ·obtain⟨g,U,y,r,s,lv,n,J,d,rfl,G,D,S0,j0,ok,_,k⟩:=h;have c0:=yc g0;refine⟨_,(oa (Ya 2 (jc c0 (pv 1) La))
   (oa (We c0 (pv 1) La (Ta Ee (jc c0 (pv 1) La) ra) rfl)
   (oa (qb (zb jq (Pa Ab (pv 0) ra) (Hb (ca La (ca La (va La)))) rfl)
   (qa (Ha (fb T.Kx (JP T) g0 (ca (pv 0) (Ea 1)))))
   Bb)
   (oa (Ya 3 (fb T.ck (An T) g0 (ca (Pa Ab (pv 0) ra) (Ea 2))))
   (oa (qb (zb Od (Pa Ab (pv 0) ra) La (sb _))
   (oa (We c0 (jc c0 (pv 1) La) (pv 3) (fb T.ck (An T) g0 (ca (Pa Ab (pv 0) ra) (Ea 2))) rfl)
   (qa (Ha (Hb (ca La (ca (pv 3) (va (jc c0 (jc c0 (pv 1) La) (pv 3)))))))))
   Bb)
   (oa (qb (zb Od (Pa Ab (pv 0) ra) La (sb _))
   (oa (We c0 (jc c0 (pv 1) La) (pv 3) Hd rfl)
   (qa (Ha (Hb (ca La (ca (pv 3) (va Hd)))))))
   Bb)
   (oa (qb (zb Od (Pa Ab (pv 0) ra) La (sb _))
   (oa (Ya 3 (fb T.ck (An T) g0 (ca (Pa Ab (pv 0) ra) (Ea 2))))
   (oa (Ya 4 (fb T.ck (An T) g0 (ca (Pa Ab (pv 0) ra) (Ea 2))))
   (oa (qb (zb Od (Pa Ab (pv 0) ra) La (sb _))
   (qa (Ya 4 (Ta Wk ra (pv 4))))
   Bb)
   (oa (We c0 (pv 2) (Pa Ab (pv 0) ra) (Ta Ee (pv 3) (pv 4)) rfl)
   (qa (Ha (Hb (ca La (ca (Pa Ab (pv 0) ra) (va (Ta Ee (pv 3) (pv 4))))))))))))
   Bb)
   (oa (Ya 5 (ri Xi (pv 3) (fb T.ck (An T) g0 (ca (Pa Ab (pv 0) ra) (Ea 2))) (sb _)))
   (oa (qb (PW.pt (ni (zb Od (Pa Ab (pv 0) ra) La (sb _)) (mi (rc (pv 5)))))
   (qa (Ha (Hb (ca La (va (Hb (va La)))))))
   Bb)
   (oa (qb (PW.pt (ni (zb Od (Pa Ab (pv 0) ra) La (sb _)) (mi (rc (pv 5)))))
   (qa (We c0 (pv 1) La (Nb (pz rfl) (by rfl) T.sC boot_min (ca (jc c0 (pv 1) La) (va (Ta Ee (jc c0 (pv 1) La) (Pa Ab (pv 0) ra))))) rfl))
   Bb)
   (qa (Ha (Hb (ca La (va (jc c0 (pv 1) La)))))))))))))))),?_⟩
  show let t0:TS:=_;let u0:TS:=ma (lb _ _ _) t0;let v0:TS:=ma (lb _ _ _) u0;let w0:TS:=ma _ v0;let x0:TS:=_;let l0:TS:=ma _ x0;let y0:TS:=ma (lb _ _ _) l0;let z0:TS:=ma _ y0;let A0:TS:=ma _ z0;let B0:TS:=ma (lb _ A0 _) w0;let C0:TS:=_;let D0:TS:=ma _ C0;let F0:TS:=ma (lb _ D0 _) B0;let G0:TS:=_;let H0:TS:=ma _ G0;let I0:TS:=ma (lb _ H0 _) F0;let J0:TS:=ma _ I0;let K0:TS:=ma (lb _ _ _) J0;let L0:TS:=ma _ K0;ma _ L0 _ _ _
  intros;rename_i t0 u0 v0 w0 x0 l0 y0 z0 A0 B0 C0 D0 F0 G0 H0 I0 J0 K0 L0;have D:Li g U H y r s lv n:=D;have bx:=D.bx;obtain⟨U0,v1,w1,V0,x1,y1⟩:=Xl y r s.pl g.ua.length;obtain⟨z1,n0,A1,o0,W0,B1⟩:=Xl y r (s.pl+1) g.ua.length;obtain⟨C1,D1,E1⟩:=D.ln;have F1:(64:Nat)<=JQ:=by decide
  refine⟨_,rfl,y 0,_,rfl,vc (k:=Sum.inr "names") (bx.get 0 rfl) U0,?_⟩;refine⟨_,rfl,y 0,_,rfl,vc (k:=Sum.inr "place") (bx.get 0 rfl) V0,_,_,rfl,rfl,_,rfl,y 0,_,rfl,ue.k (k:=Sum.inr "place") (bx.get 0 rfl) Rk,?_⟩;have d0:Li g U _ y r {s with pl:=s.pl+1} lv n:=⟨(bx.put 0 (.dK (Mf y r (s.pl+1) g.ua.length)) rfl).nc (Sc rfl rfl rfl rfl rfl rfl rfl rfl rfl),D.row,D.lks,D.xr,D.ai,D.nd,D.ln⟩;rw[show nb (Mf y r s.pl g.ua.length) (Sum.inr "place":Key) (V.int ((s.pl:Int)+1))=Mf y r (s.pl+1) g.ua.length from rfl];generalize upd H (y 0) (.dK (Mf y r (s.pl+1) g.ua.length))=X0 at d0⊢;have p0:=d0.bx;obtain⟨f0,rest,Y0,M0⟩:∃f0 rest,d.vs=.str f0::rest/\((qp d/\Kh (.str f0) [.str "read",.str "sum",.str "count"]=HQ)\/(¬qp d/\Kh (.str f0) [.str "read",.str "sum",.str "count"]=IQ)):=by
   cases d with
   |look f0 q0 q a0=>exact⟨f0,if f0="read"then[.str q0,kV q]else[.str q0,kV q,kV a0],by show(if f0="read"then _ else _)=_;split<;>rfl,.inl ⟨trivial,by rcases ok with⟨z,_⟩|z|z<;>(rw[z];decide+kernel)⟩⟩
   |_=>exact⟨_,_,rfl,.inr ⟨λz=>z,by decide+kernel⟩⟩
  have N0:=p0.sub _ _ j0;rw[Y0]at N0;refine⟨_,rfl,J,_,_,_,rfl,rfl,xa.of N0,Ja (j:=0) rfl,Eb,λO0 Q0=>⟨O0,[.str "read",.str "sum",.str "count"],rfl,.inr (xa.of ia),rfl,rfl,_,rfl,bb (λe=>?_) (λe=>?_)⟩⟩
  ·have Z0:qp d:=by
    rcases M0 with z|z
    ·exact z.1
    ·rw[z.2]at e;cases e
   exact⟨_,rfl,_,rfl,g,U,y,r,s,lv,n,J,d,rfl,G,⟨p0.same (aa.upd Q0),d0.row,d0.lks,d0.xr,d0.ai,d0.nd,d0.ln⟩,S0,j0,ok,λ_=>Z0,k⟩
  have a1:¬qp d:=by
   rcases M0 with z|z
   ·exact absurd z.2 e
   ·exact z.1
  have O:=p0.same (aa.upd (o:=HO.tup [.str "read",.str "sum",.str "count"]) Q0);have b1:Li g U _ y r {s with pl:=s.pl+1} lv n:=⟨O,d0.row,d0.lks,d0.xr,d0.ai,d0.nd,d0.ln⟩;generalize upd X0 O0 (.tup [.str "read",.str "sum",.str "count"])=d1 at O b1⊢;have Y:=O.sub _ _ j0;have fin:∀{k0:Hp}{s':Ms}{p:FQ}{ps:List V}{ds:List QQ},Bx U k0 y (fD y r g.ua.length s' lv)->Sd g.fs g.ua.length s d=(s',ds)->s'.lk=s.lk->ze s'.na->(s'.ds.map (·.1)).Nodup->s'.na.length<=n+1->s'.ds.length<=n+1->k0 p=some (.tup ps)->Gb (tp k0) ps ds->Q (.ref p) k0:=λb e1 lk ai nd f1 G1 b0 g1=>by
   obtain⟨h1,i1,j1,k1,l1⟩:=D.fin (p:=_) (ds:=_) b (by rw[lk];exact Paired.ib D.lks (by rintro _ _⟨a,m1,e,n1,o1,p1⟩;exact⟨a,m1,e,b.grow.1 _ _ n1,b.grow.1 _ _ o1,p1⟩)) ai nd (by grind) b0 g1;refine k _ _ h1 _ lv i1 ?_ k1 ?_<;>rw[e1]
   ·exact j1
   ·exact l1
  cases d with
  |look f0 q0 q a0=>exact absurd trivial a1
  |put q a0=>
   refine⟨_,rfl,J,_,_,_,rfl,rfl,xa.of Y,Ja (j:=1) rfl,_,rfl,kV q,y 1,s.na,rfl,ke _,O.get 1 rfl,D.ai,?_⟩;refine⟨_,rfl,J,_,_,_,rfl,rfl,xa.of Y,Ja (j:=0) rfl,rfl,_,rfl,Nh rfl ?_⟩;refine⟨_,rfl,J,_,_,_,rfl,rfl,xa.of Y,Ja (j:=2) rfl,_,rfl,kV a0,y 1,s.na,rfl,ke _,O.get 1 rfl,D.ai,_,rfl,y 0,_,rfl,vc (k:=Sum.inr "drafts") (O.get 0 rfl) n0,_,rfl,y 2,_,rfl,ue.k (k:=Sum.inl (oI q s.na)) (O.get 2 rfl) (by show(Ka s.ds).length<_;unfold Ka;rw[Na];lia),?_⟩;have e0:Bx U _ y (fD y r g.ua.length {s with ds:=Yc s.ds (oI q s.na) (some (oI a0 s.na)),pl:=s.pl+1} lv):=(O.put 2 (.dK (nb (Ka s.ds) (Sum.inl (oI q s.na)) (ov (some (oI a0 s.na))))) rfl).nc (Sc rfl rfl (by show some (HO.dK (Ka (Yc _ _ _)))=some (HO.dK (nb _ _ _));rw[vn]) rfl rfl rfl rfl rfl rfl);have q1:=gr s.ds (oI q s.na) (some (oI a0 s.na));refine⟨_,rfl,_,rfl,y 0,_,rfl,vc (k:=Sum.inr "drafts") (e0.get 0 rfl) n0,_,rfl,y 2,.int (oI a0 s.na),rfl,vc (k:=Sum.inl (oI q s.na)) (e0.get 2 rfl) (by rw[Tl,np,Ca rfl];rfl),Eb,λp b0=>?_⟩;exact fin (e0.same (aa.upd b0)) rfl rfl D.ai (jp _ _ D.nd) (by show s.na.length<=_;lia) (by show(Yc _ _ _).length<=_;lia) ia (.cons (.str _) (.cons (.int _) (.cons (.int _) .nil)))
  |take q=>
   refine⟨_,rfl,J,_,_,_,rfl,rfl,xa.of Y,Ja (j:=1) rfl,_,rfl,kV q,y 1,s.na,rfl,ke _,O.get 1 rfl,D.ai,?_⟩;refine⟨_,rfl,J,_,_,_,rfl,rfl,xa.of Y,Ja (j:=0) rfl,rfl,_,rfl,vf (λe=>absurd (V.str.inj e) (by decide+kernel)) ?_⟩;refine⟨_,rfl,J,_,_,_,rfl,rfl,xa.of Y,Ja (j:=0) rfl,rfl,_,rfl,Nh rfl ?_⟩;refine⟨_,rfl,y 0,_,rfl,vc (k:=Sum.inr "drafts") (O.get 0 rfl) n0,_,rfl,y 2,_,rfl,ue.k (k:=Sum.inl (oI q s.na)) (O.get 2 rfl) (by show(Ka s.ds).length<_;unfold Ka;rw[Na];lia),?_⟩;have e0:Bx U _ y (fD y r g.ua.length {s with ds:=Yc s.ds (oI q s.na) none,pl:=s.pl+1} lv):=(O.put 2 (.dK (nb (Ka s.ds) (Sum.inl (oI q s.na)) (ov none))) rfl).nc (Sc rfl rfl (by show some (HO.dK (Ka (Yc _ _ _)))=some (HO.dK (nb _ _ _));rw[vn]) rfl rfl rfl rfl rfl rfl);have q1:=gr s.ds (oI q s.na) none;exact⟨_,rfl,Eb,λp b0=>fin (e0.same (aa.upd b0)) rfl rfl D.ai (jp _ _ D.nd) (by show s.na.length<=_;lia) (by show(Yc _ _ _).length<=_;lia) ia (.cons (.str _) (.cons (.int _) (.cons .ya .nil)))⟩
  |lt h0 q z a0=>
   refine⟨_,rfl,J,_,_,_,rfl,rfl,xa.of Y,Ja (j:=1) rfl,_,rfl,.str h0,y 1,s.na,rfl,.inr ⟨h0,rfl⟩,O.get 1 rfl,D.ai,?_⟩;refine⟨_,rfl,J,_,_,_,rfl,rfl,xa.of Y,Ja (j:=0) rfl,rfl,_,rfl,vf (λe=>absurd (V.str.inj e) (by decide+kernel)) ?_⟩;refine⟨_,rfl,J,_,_,_,rfl,rfl,xa.of Y,Ja (j:=0) rfl,rfl,_,rfl,vf (λe=>absurd (V.str.inj e) (by decide+kernel)) ?_⟩;refine⟨_,rfl,J,_,_,_,rfl,rfl,xa.of Y,Ja (j:=0) rfl,rfl,_,rfl,Nh rfl ?_⟩;refine⟨_,rfl,J,_,_,_,rfl,rfl,xa.of Y,Ja (j:=2) rfl,_,rfl,kV q,y 1,s.na,rfl,ke _,O.get 1 rfl,D.ai,?_⟩;refine⟨_,rfl,J,_,_,_,rfl,rfl,xa.of Y,Ja (j:=4) rfl,_,rfl,kV a0,y 1,s.na,rfl,ke _,O.get 1 rfl,D.ai,?_⟩;have R0:∀i0:Int,oI q s.na+i0=(if z="+"then oI q s.na+oI a0 s.na else oI q s.na-oI a0 s.na)->l0 {nx:=λ_ H'=>Q .ya H',rt:=Q} [some (.ref J),some (.ref (y 0)),some (.ref (y 1)),some (.int (oI q s.na)),some (.int i0),none] d1:=λi0 r1=>by
    refine⟨_,rfl,_,rfl,_,_,rfl,rfl,_,rfl,_,rfl,J,_,_,_,rfl,rfl,xa.of Y,Ja (j:=1) rfl,y 1,_,rfl,ue.k (k:=Sum.inr h0) (O.get 1 rfl) (by show s.na.length<_;lia),?_⟩;have e0:Bx U _ y (fD y r g.ua.length {s with na:=nb s.na (Sum.inr h0) (.int (oI q s.na+i0)),pl:=s.pl+1} lv):=(O.put 1 (.dK (nb s.na (Sum.inr h0) (.int (oI q s.na+i0)))) rfl).nc (Sc rfl rfl rfl rfl rfl rfl rfl rfl rfl);have pl:=kr s.na (Sum.inr h0) (.int (oI q s.na+i0));exact⟨_,rfl,J,_,_,_,rfl,rfl,xa.of (e0.sub _ _ j0),Ja (j:=1) rfl,_,rfl,_,rfl,_,_,rfl,rfl,Eb,λp b0=>fin (e0.same (aa.upd b0)) (by rw[r1];rfl) rfl (D.ai.put _ _) D.nd (by show(nb _ _ _).length<=_;lia) (by show s.ds.length<=_;lia) ia (.cons (.str _) (.cons (.str _) (.cons (.int _) .nil)))⟩
   refine⟨_,rfl,J,_,_,_,rfl,rfl,xa.of Y,Ja (j:=3) rfl,rfl,_,rfl,bb (λe=>?_) (λe=>?_)⟩
   ·have r0:z="-":=V.str.inj (Ed e);refine⟨_,rfl,_,_,rfl,rfl,R0 _ ?_⟩;rw[Ba (by rw[r0];decide+kernel)];show oI q s.na+(0-oI a0 s.na)=_;lia
   ·have r0:z="+":=(show z="+"\/z="-"from ok).resolve_right λy=>e (Ec (Td V.str y))
    exact R0 _ (by rw[Ca r0];rfl)
  |skip q a0 m=>
   have f1:1<=m:=ok;refine⟨_,rfl,J,_,_,_,rfl,rfl,xa.of Y,Ja (j:=1) rfl,_,rfl,kV q,y 1,s.na,rfl,ke _,O.get 1 rfl,D.ai,?_⟩;refine⟨_,rfl,J,_,_,_,rfl,rfl,xa.of Y,Ja (j:=0) rfl,rfl,_,rfl,vf (λe=>absurd (V.str.inj e) (by decide+kernel)) ?_⟩;refine⟨_,rfl,J,_,_,_,rfl,rfl,xa.of Y,Ja (j:=0) rfl,rfl,_,rfl,vf (λe=>absurd (V.str.inj e) (by decide+kernel)) ?_⟩;refine⟨_,rfl,J,_,_,_,rfl,rfl,xa.of Y,Ja (j:=0) rfl,rfl,_,rfl,vf (λe=>absurd (V.str.inj e) (by decide+kernel)) ?_⟩;refine⟨_,rfl,_,rfl,J,_,_,_,rfl,rfl,xa.of Y,Ja (j:=2) rfl,_,rfl,kV a0,y 1,s.na,rfl,ke _,O.get 1 rfl,D.ai,_,_,rfl,rfl,?_⟩;refine⟨_,rfl,J,_,_,_,rfl,rfl,xa.of Y,Ja (j:=0) rfl,rfl,_,rfl,vf (λe=>absurd (V.str.inj e) (by decide+kernel)) (zc ?_)⟩;refine⟨_,rfl,J,_,_,_,rfl,rfl,xa.of Y,Ja (j:=0) rfl,rfl,_,rfl,Nh rfl ⟨_,rfl,_,rfl,bb (λe=>?_) (λe=>?_)⟩⟩
   ·have lt:oI q s.na<oI a0 s.na:=Ed e;refine⟨_,rfl,y 0,_,rfl,vc (k:=Sum.inr "many") (O.get 0 rfl) W0,_,rfl,y 0,_,rfl,vc (k:=Sum.inr "place") (O.get 0 rfl) o0,_,rfl,J,_,_,_,rfl,rfl,xa.of Y,Ja (j:=3) rfl,_,_,rfl,rfl,_,_,rfl,_,rfl,y 0,_,rfl,ue.k (k:=Sum.inr "place") (O.get 0 rfl) Rk,?_⟩;have em:(if((s.pl+1:Nat):Int)+m<(g.ua.length:Int)then((s.pl+1:Nat):Int)+m else(g.ua.length:Int))=((min g.ua.length (s.pl+1+m.toNat):Nat):Int):=by
     split<;>lia
    rw[em];have e0:Bx U _ y (fD y r g.ua.length {s with pl:=min g.ua.length (s.pl+1+m.toNat)} lv):=(O.put 0 (.dK (nb (Mf y r (s.pl+1) g.ua.length) (Sum.inr "place") (.int ((min g.ua.length (s.pl+1+m.toNat):Nat):Int)))) rfl).nc (Sc rfl rfl rfl rfl rfl rfl rfl rfl rfl);exact⟨_,rfl,y 0,_,rfl,vc (k:=Sum.inr "place") (e0.get 0 rfl) (Xl ..).2.2.2.1,Ma,λp b0=>fin (e0.same (aa.upd b0)) (by show(_,_)=_;rw[Ca lt]) rfl D.ai D.nd (by show s.na.length<=_;lia) (by show s.ds.length<=_;lia) ia (.cons (.str _) (.cons (.int _) .nil))⟩
   ·have s0:¬oI q s.na<oI a0 s.na:=λy=>e (Ec y)
    exact⟨_,rfl,y 0,_,rfl,vc (k:=Sum.inr "place") (O.get 0 rfl) o0,Ma,λp b0=>fin (O.same (aa.upd b0)) (by show(_,_)=_;rw[Ba s0]) rfl D.ai D.nd (by show s.na.length<=_;lia) (by show s.ds.length<=_;lia) ia (.cons (.str _) (.cons (.int _) .nil))⟩
  |stop q a0=>
   refine⟨_,rfl,J,_,_,_,rfl,rfl,xa.of Y,Ja (j:=1) rfl,_,rfl,kV q,y 1,s.na,rfl,ke _,O.get 1 rfl,D.ai,?_⟩;refine⟨_,rfl,J,_,_,_,rfl,rfl,xa.of Y,Ja (j:=0) rfl,rfl,_,rfl,vf (λe=>absurd (V.str.inj e) (by decide+kernel)) ?_⟩;refine⟨_,rfl,J,_,_,_,rfl,rfl,xa.of Y,Ja (j:=0) rfl,rfl,_,rfl,vf (λe=>absurd (V.str.inj e) (by decide+kernel)) ?_⟩;refine⟨_,rfl,J,_,_,_,rfl,rfl,xa.of Y,Ja (j:=0) rfl,rfl,_,rfl,vf (λe=>absurd (V.str.inj e) (by decide+kernel)) ?_⟩;refine⟨_,rfl,_,rfl,J,_,_,_,rfl,rfl,xa.of Y,Ja (j:=2) rfl,_,rfl,kV a0,y 1,s.na,rfl,ke _,O.get 1 rfl,D.ai,_,_,rfl,rfl,?_⟩;refine⟨_,rfl,J,_,_,_,rfl,rfl,xa.of Y,Ja (j:=0) rfl,rfl,_,rfl,Nh rfl ⟨_,rfl,_,rfl,bb (λe=>?_) (λe=>?_)⟩⟩
   ·have lt:oI q s.na<oI a0 s.na:=Ed e;refine⟨jb,λw t1=>⟨Ma,λp b0=>?_⟩⟩;have u1:=aa.upd (o:=HO.tup [.str "own"]) t1;exact fin (O.same (u1.trans (aa.upd b0))) (by show(_,if _ then _ else _)=_;rw[Ca lt]) rfl D.ai D.nd (by show s.na.length<=_;lia) (by show s.ds.length<=_;lia) ia (.cons (.str _) (.cons (.tup (Tf (aa.upd b0 _ _ ia)) (.cons (.str _) .nil)) .nil))
   ·have s0:¬oI q s.na<oI a0 s.na:=λy=>e (Ec y)
    refine⟨_,rfl,J,_,_,_,rfl,rfl,xa.of Y,Ja (j:=0) rfl,rfl,_,rfl,vf (λe=>absurd (V.str.inj e) (by decide+kernel)) (zc ?_)⟩;exact⟨_,rfl,y 0,_,rfl,vc (k:=Sum.inr "place") (O.get 0 rfl) o0,Ma,λp b0=>fin (O.same (aa.upd b0)) (by show(_,if _ then _ else _)=_;rw[Ba s0]) rfl D.ai D.nd (by show s.na.length<=_;lia) (by show s.ds.length<=_;lia) ia (.cons (.str _) (.cons (.int _) .nil))⟩
def LP(T:Tx K mg):T.Mx.Ok P w base 4 (wP):=by
 refine Qa T.Mx.F λ{_ _ _ s}H _ _ _ d0 h=>?_
 ·obtain⟨g,U,y,r,s,lv,n,dl,S0,rfl,G,D,o0,p0,e0,k⟩:=h;have J:=yc d0;refine⟨_,(oa (qb (zb Xi (jc J (pv 0) La) (Nb Ue (by rfl) T.Ye Pe (Ea 1)) (sb _))
   (qa (Ha (fb T.Lx (KP T) d0 (ca (Pa ye (pv 1) (jc J (pv 0) La)) (Ea 0)))))
   Bb)
   (oa (Ya 2 (jc J (pv 0) La))
   (qa (Ha (Hb (ca La (va (kg ss (by rfl) T.Ql Jk (va (Vd ["_law_key"] ["_law_drafts"] [2] (Yb (Nb (Ai rfl) (by rfl) T.Uf Bg (Ea 2))) (Ac 0) nf (Hb (ca (pv 0) (va (jc J (pv 1) (pv 0))))))))))))))),?_⟩
  show let q0:TS:=_;let r0:TS:=ma _ q0;ma (lb _ _ _) r0 _ _ _
  intros;have bx:=D.bx;obtain⟨U0,s0,V0,f0,W0,X0⟩:=Xl y r s.pl g.ua.length;obtain⟨Y0,Z0,a1⟩:=D.ln;have b1:=pf e0;have d1:(64:Nat)<=JQ:=by decide
  have g0:=bx.sub _ _ p0;refine⟨_,rfl,y 0,_,rfl,vc (k:=Sum.inr "place") (bx.get 0 rfl) f0,_,rfl,_,_,rfl,.inl ⟨_,ja.of g0,rfl⟩,_,_,rfl,rfl,_,rfl,bb (λe=>?_) (λe=>?_)⟩
  ·have lt:s.pl<g.ua.length:=by have:=Ed e;lia
   obtain⟨d,h0⟩:∃d,g.ua[s.pl]?=some d:=⟨_,Dc lt⟩;obtain⟨v,hv,O,rfl,t0⟩:=RB e0 h0;have Y:Sb g.fs g.ua s=Sd g.fs g.ua.length s d:=by
    unfold Sb;rw[h0]
   rw[Y]at k;exact⟨_,rfl,_,rfl,y 0,_,rfl,vc (k:=Sum.inr "place") (bx.get 0 rfl) f0,dl,_,_,_,rfl,rfl,ja.of g0,Ja (j:=s.pl) hv,_,rfl,g,U,y,r,s,lv,n,O,d,rfl,G,D,o0,t0,G.vy d (by grind),by grind,k⟩
  ·have e1:¬s.pl<g.ua.length:=by grind
   have Y:Sb g.fs g.ua s=(s,[.str "kept",.tuple (Lf s.ds)]):=by
    unfold Sb;rw[List.getElem?_eq_none (by lia)]
   rw[Y]at k;refine⟨_,rfl,y 0,_,rfl,vc (k:=Sum.inr "drafts") (bx.get 0 rfl) s0,?_⟩;refine⟨_,rfl,y 2,_,s.ds.map (·.1),rfl,bx.get 2 rfl,nj _,by rw[Na];lia,λu0 i0=>⟨u0,rfl,⟨_,ja.of ia⟩,sg (k:=1) (fs:=[some (.ref (y 2))]) (λH v (O:Int×Option Int)=>∃t,v=.ref t/\H t=some (.tup [.int O.1,ov O.2])) (λ_ v (n:Int)=>v=.int n) (eb (s.ds.map (·.1))) (λk=>some (k,(fk s.ds k).getD none)) (by rintro _ _ _ _ v0⟨t,e,z⟩;exact⟨t,e,v0 _ _ (by grind) z⟩) (by grind) rfl ia (Ii _) (by rw[(mc _).length_eq,Na];lia) ?_ λw0 a0 ys f1 b0 x0 j0=>?_⟩⟩
   ·rintro m y0 a0 g1 v R b0 z0 rfl A0 _;obtain⟨h1,rfl⟩:=Be.mp z0;have B0:=(bx.same (aa.upd i0)).same b0;obtain⟨o,k0⟩:∃o,fk s.ds m=some o:=by
     cases e:fk s.ds m with
     |some o=>grind
     |none=>exact absurd ((mc _).mem_iff.mp y0) (Le.mp e)
    have C0:kb (Ka s.ds) (Sum.inl m:Key)=some (ov o):=by rw[Tl,k0];rfl
    exact jd (B:=False) ⟨_,rfl,_,rfl,_,rfl,y 2,_,rfl,vc (k:=Sum.inl m) (B0.get 2 rfl) C0,Ma,λt D0=>A0 _ _ [_] _ rfl rfl (aa.upd D0) ⟨t,rfl,by rw[k0];exact ia⟩⟩
   ·rw[sm]at j0;refine nx5 w0 ys rfl (.inl ⟨ja.of x0,λq F0=>⟨Ma,λp l0=>?_⟩⟩);have n0:=(aa.upd (o:=HO.tup ys) F0).trans (aa.upd (o:=HO.tup [.str "kept",.ref q]) l0);have G0:upd (upd a0 q (.tup ys)) p (.tup [.str "kept",.ref q]) q=some (.tup ys):=aa.upd l0 _ _ ia;have c0:=bx.same ((aa.upd (o:=HO.lst ((eb (s.ds.map (·.1))).map V.int)) i0).trans (b0.trans n0));have H0:Gb (tp (upd (upd a0 q (.tup ys)) p (.tup [.str "kept",.ref q]))) ys (Lf s.ds):=by
     unfold Lf yf;rw[Yn.mpr λ_ _=>rfl];exact pp ((bv j0).same n0)
    obtain⟨I0,J0,K0,L0,M0⟩:=D.fin (p:=p) (ds:=[.str "kept",.tuple (Lf s.ds)]) c0 (Paired.ib D.lks (by rintro _ _⟨a,N0,e,O0,Q0,R0⟩;exact⟨a,N0,e,c0.grow.1 _ _ O0,c0.grow.1 _ _ Q0,R0⟩)) D.ai D.nd (by grind) ia (.cons (.str _) (.cons (.tup (Tf G0) H0) .nil));exact k p _ I0 _ lv J0 K0 L0 M0
def MP(T:Tx K mg):T.Ox.Ok P w base 1 (xP):=by
 refine Qa T.Ox.F λH _ _ _ o0 h=>?_
 ·obtain⟨g,r,rfl,A0,k⟩:=h;have B0:=yc o0;refine⟨_,(qa (Ha (iw (Pf La Rj (Pf La Rj (Pf La (Zb jf) (Pf La ra (Pf La (pv 1) (Pf La (pv 0) hw)))))) rfl rfl (by simp) (by decide)))),?_⟩;have ne:∀{j0:Hp}{a b:FQ}{o:HO},j0 a=none->j0 b=some o->a≠b:=λC0 D0 z=>by grind
  refineλp g0=>nw g0 λF0 b0 c0 q h0=>nw h0 λG0 s1 i0 J d0=>nw d0 λH0 Y k0=>⟨Oc,λO a0=>nw a0 λe0 f0 p0=>?_⟩
  have q0:=(s1.trans (Y.trans f0)) _ _ c0;have r0:=(Y.trans f0) _ _ i0;have s0:=f0 _ _ k0;have t0:=ne h0 c0;have u0:=ne d0 (s1 _ _ c0);have v0:=ne a0 ((s1.trans Y) _ _ c0);have I0:=ne d0 i0;have J0:=ne a0 (Y _ _ i0);have K0:=ne a0 k0;have w0:=uc b0 h0;have x0:=uc b0 (uc s1 d0);have y0:=uc b0 (uc s1 (uc Y a0));have l0:aa H (upd e0 p (.dK (Mf (λi=>if i=1 then q else if i=2 then J else if i=3 then O else p) r 0 g.ua.length))):=(b0.trans (s1.trans (Y.trans f0))).again g0;refine⟨_,rfl,_,rfl,q0,Mf (λi=>if i=1 then q else if i=2 then J else if i=3 then O else p) r 0 g.ua.length,rfl,Gj,?_⟩;rw[show bj [] (Mf (λi=>if i=1 then q else if i=2 then J else if i=3 then O else p) r 0 g.ua.length)=Mf (λi=>if i=1 then q else if i=2 then J else if i=3 then O else p) r 0 g.ua.length from rfl];refine k (λi=>if i=1 then q else if i=2 then J else if i=3 then O else p) _ l0 g0 w0 x0 y0 ⟨Sc (λo e=>?_) (λo e=>?_) (λo e=>?_) (λo e=>?_) (λo e=>by cases e) (λo e=>by cases e) (λo e=>by cases e) (λo e=>by cases e) (λo e=>by cases e),?_,l0,by grind⟩
  ·cases e;exact ia
  ·cases e;show upd e0 p _ q=_;rw[ka t0];exact r0
  ·cases e;show upd e0 p _ J=_;rw[ka u0];exact s0
  ·cases e;show upd e0 p _ O=_;rw[ka v0];exact p0
  ·have n0:∀{P:Prop}{i:Nat}{o:HO},fD (λi=>if i=1 then q else if i=2 then J else if i=3 then O else p) r g.ua.length ⟨[],[],0,[]⟩ [] (i+4)=some o->P:=λe=>by cases e
   intro i _ j _ o L0 e z0 M0;rcases i with _|_|_|_|i<;>rcases j with _|_|_|_|j<;>first|rfl|exact n0 e|exact n0 z0|grind
def NP(T:Tx K mg):T.Px.Ok P w base 2 (yP K):=by
 refine Qa T.Px.F λH _ _ _ J h=>?_
 ·obtain⟨a,e0,b,rfl,f0,g0,k⟩:=h;have p0:=yc J;refine⟨_,(oa (Ya 2 Rj)
   (oa (re me rfl (Jv rfl T.Fu (va (Ta se (fb T.bp (gv T) J (ca (pv 0) (va ra))) ra))) (Kd 3)
   (oa (Ya 4 (fb T.Tq (Iy T) J (ca (fb T.bp (gv T) J (ca (pv 0) (va ra))) (Ea 3))))
   (qa (We p0 (pv 2) (Ta Ee (pv 1) (Ta se (pv 4) ra)) (Pa ye (Zb (ca (Ta Wk (Ta se (Ta jg (pv 4) ra) ra) ra) (va (Ta Wk ra (Ta qi (pv 4) (Ta Qv ra ra)))))) (Ta jg (Ta se (Ta jg (pv 4) ra) ra) ra)) rfl))))
   (qa (Ha (pv 2))))),?_⟩
  show let q0:TS:=_;let r0:TS:=_;let s0:TS:=ma _ r0;let t0:TS:=ma (qe _ _ s0) q0;ma _ t0 _ _ _
  intros;have B0:(64:Nat)<JQ:=by decide
  refineλp h0=>?_
  have s1:=aa.upd (o:=HO.dK []) h0;refine⟨_,rfl,a,e0,1,rfl,s1.seq f0,g0,by decide,by decide,λc1=>⟨_,_,rfl,rfl,(by grind),c1%5,rfl,by grind,by grind,?_⟩⟩;have C0:=Ni c1 (show(5:Int)≠0 by decide);have D0:=zj c1 (show(0:Int)<5 by decide);refine Kv (lo:=0) (n:=(c1%5).toNat) (λi O q=>∃Y a0,∃fs:Dr,O=[some (.ref a),some (.int b),some (.ref p),Y,a0]/\q p=some (.dK (Ka fs))/\(fs.map (·.1)).Nodup/\fs.length<=i/\(∀i0∈fs,i0.2≠none)/\aa H q) (nx8 none none ([]) rfl ia List.nodup_nil (Ra _) ⟨(by grind),s1⟩) ?_ ?_
  ·rintro i O q hi⟨Y,a0,fs,rfl,j0,k0,u0,l0,b0⟩;refine⟨_,rfl,a,e0,1,rfl,b0.seq f0,g0,by decide,by decide,λv0=>⟨_,rfl,v0,0+(i:Int),rfl,by lia,by lia,λm m0 F0=>?_⟩⟩;refine⟨_,rfl,_,_,rfl,rfl,⟨by decide,by decide⟩,_,_,rfl,rfl,(by grind),_,_,rfl,rfl,_,rfl,_,_,rfl,rfl,⟨by decide,by decide,by decide⟩,_,_,rfl,rfl,.inl ⟨by lia,by lia⟩,_,_,rfl,rfl,Ma,λc0 w0=>?_⟩;have n0:=aa.upd (o:=HO.lst [V.int (m/5%9-2),V.int (0-m*10^(19:Int).toNat)]) w0;obtain⟨v,hv⟩:=al (xs:=[V.int (m/5%9-2),V.int (0-m*10^(19:Int).toNat)]) (i:=m/45%4/3) (by lia) (by show m/45%4/3<2;lia);have o0:=vo hv;simp only[Mb,Tg,Vg]at o0;obtain⟨z,rfl⟩:∃z,v=.int z:=by rcases o0 with rfl|rfl<;>exact⟨_,rfl⟩
   have pl:=gr fs (b+m%5) (some z);have x0:=n0 _ _ j0;have y0:=b0.trans n0;have z0:(upd q c0 (.lst [V.int (m/5%9-2),V.int (0-m*10^(19:Int).toNat)])) c0=some (.lst [V.int (m/5%9-2),V.int (0-m*10^(19:Int).toNat)]):=ia;refine⟨_,rfl,_,_,rfl,rfl,⟨by decide,by decide⟩,_,_,rfl,rfl,(by grind),_,_,rfl,rfl,⟨by decide,by decide⟩,c0,_,_,_,rfl,rfl,ja.of z0,hv,?_⟩;refine⟨_,rfl,_,rfl,_,rfl,_,_,rfl,rfl,(by grind),_,_,rfl,rfl,p,_,rfl,ue.k (k:=Sum.inl (b+m%5)) x0 (by unfold Ka;rw[Na];lia),?_⟩;refine nx8 _ _ (Yc fs (b+m%5) (some z)) rfl ?_ (jp _ _ k0) (by lia) ⟨λi0 d0=>?_,y0.again h0⟩
   ·rw[ia];exact Td (λz=>some (HO.dK z)) (vn fs (b+m%5) (some z))
   ·unfold Yc at d0;split at d0
    ·obtain⟨G0,A0,rfl⟩:=Fd.mp d0;split
     ·grind
     ·exact l0 _ A0
    ·grind
  ·rintro O q⟨Y,a0,fs,rfl,j0,k0,u0,l0,b0⟩;exact⟨_,rfl,by grind⟩
--@cc
open Shf
def Ky:W.kitOne K (.type "list") (.type "list")=some HQ:=by
 show(if(Value.type "list"==Value.type "list")=HQ then some HQ else if W.kitMeta "list"=HQ then(UQ "list").map (·.contains (Value.type "list"))else none)=some HQ;decide+kernel
def OP:W.kitOne K (.type "list") (.type "tuple")=some IQ:=by
 show(if(Value.type "list"==Value.type "tuple")=HQ then some HQ else if W.kitMeta "tuple"=HQ then(UQ "list").map (·.contains (Value.type "tuple"))else none)=some IQ;decide+kernel
def QD:W.kitOne K (.type "tuple") (.type "list")=some IQ:=by
 show(if(Value.type "tuple"==Value.type "list")=HQ then some HQ else if W.kitMeta "list"=HQ then(UQ "tuple").map (·.contains (Value.type "list"))else none)=some IQ;decide+kernel
def PP:W.kitOne K (.type "int") (.type "list")=some IQ:=by
 show(if(Value.type "int"==Value.type "list")=HQ then some HQ else if W.kitMeta "list"=HQ then(UQ "int").map (·.contains (Value.type "list"))else none)=some IQ;decide+kernel
def QP:W.kitOne K (.type "int") (.type "tuple")=some IQ:=by
 show(if(Value.type "int"==Value.type "tuple")=HQ then some HQ else if W.kitMeta "tuple"=HQ then(UQ "int").map (·.contains (Value.type "tuple"))else none)=some IQ;decide+kernel
def RP:W.kitOne K (.type "str") (.type "list")=some IQ:=by
 show(if(Value.type "str"==Value.type "list")=HQ then some HQ else if W.kitMeta "list"=HQ then(UQ "str").map (·.contains (Value.type "list"))else none)=some IQ;decide+kernel
def UP:W.kitOne K (.type "str") (.type "tuple")=some IQ:=by
 show(if(Value.type "str"==Value.type "tuple")=HQ then some HQ else if W.kitMeta "tuple"=HQ then(UQ "str").map (·.contains (Value.type "tuple"))else none)=some IQ;decide+kernel
def VP:W.kitAny K (.type "int") (["list","tuple"].map Value.type)=some IQ:=by
 show W.kitAny K (.type "int") [.type "list",.type "tuple"]=_;simp only[W.kitAny,PP,QP]
def WP:W.kitAny K (.type "str") (["list","tuple"].map Value.type)=some IQ:=by
 show W.kitAny K (.type "str") [.type "list",.type "tuple"]=_;simp only[W.kitAny,RP,UP]
def XP:W.kitAny K (.type "list") (["list","tuple"].map Value.type)=some HQ:=by
 show W.kitAny K (.type "list") [.type "list",.type "tuple"]=_;simp only[W.kitAny,Ky]
def YP:W.kitAny K (.type "tuple") (["list","tuple"].map Value.type)=some HQ:=by
 show W.kitAny K (.type "tuple") [.type "list",.type "tuple"]=_;simp only[W.kitAny,QD,mw]
def ZP:W.kitAny K (.type "NoneType") (["list","tuple"].map Value.type)=some IQ:=by
 have a:W.kitOne K (.type "NoneType") (.type "list")=some IQ:=by
  show(if(Value.type "NoneType"==Value.type "list")=HQ then some HQ else if W.kitMeta "list"=HQ then(UQ "NoneType").map (·.contains (Value.type "list"))else none)=some IQ;decide+kernel
 have b:W.kitOne K (.type "NoneType") (.type "tuple")=some IQ:=by
  show(if(Value.type "NoneType"==Value.type "tuple")=HQ then some HQ else if W.kitMeta "tuple"=HQ then(UQ "NoneType").map (·.contains (Value.type "tuple"))else none)=some IQ;decide+kernel
 show W.kitAny K (.type "NoneType") [.type "list",.type "tuple"]=_;simp only[W.kitAny,a,b]
def Ly:∀{ds:List QQ}{i:Nat}{d:QQ},ds[i]?=some d->d.depth<=PyData.depthAll ds
 |[],i,d,e=>by simp at e
 |x::r,0,d,e=>by
  cases e;show x.depth<=max x.depth (PyData.depthAll r);lia
 |x::r,i+1,d,e=>by
  have:=Ly (by simpa using e);show d.depth<=max x.depth (PyData.depthAll r);lia
inductive yr(n:Nat)(vs:List V)(H:Hp)(Q:VK)(E:XK):Prop|mk(v u:V)(d:QQ)(_:vs=[v,u])(_:Tn H v d)(_:Tn H u d)(_:d.depth<n)(_:∀H',aa H H'->Q (.bl HQ) H')
def aQ(T:Tx K mg):T.Je.Ok P w base 0 (yr 0):=
 ⟨λvs H Q E h=>by obtain⟨v,u,d,rfl,_⟩:=h;rfl,λA outer s H args us vs Q E _ _ _ _ h=>by obtain⟨v,u,d,_,_,_,q,_⟩:=h;grind⟩
def bQ(T:Tx K mg){n:Nat}(y0:Kb P w K mg base Qc n T.Je.f T.Je.d ["_law_found","_law_due"] (yr n)):Kb P w K mg base Qc (n+1) T.Je.f T.Je.d ["_law_found","_law_due"] (yr (n+1)):=by
 refine Qa T.Je.F λH _ _ _ z0 h=>?_
 ·obtain⟨v,u,d,rfl,hv,g0,x0,h0⟩:=h;refine⟨_,(oa (qb (rc (Nb (CJ (K:=K) rfl) (by rfl) T.Th Hh (ca (pv 1) (va (Hb (ca (ah (v:=V.ty "list") rfl T.gk Cj rfl) (va (ah (v:=V.ty "tuple") rfl T.Ql Jk rfl))))))))
   (oa (qb (PW.pt (ni (rc (Nb yi (by rfl) T.Th Hh (ca (pv 1) (va (ah (v:=V.ty "list") rfl T.gk Cj rfl))))) (mi (bh (rc (Nb yi (by rfl) T.Th Hh (ca (pv 0) (va (ah (v:=V.ty "list") rfl T.gk Cj rfl)))))))))
   (qa (Ha we))
   Bb)
   (oa (qb (PW.pt (ni (rc (Nb yi (by rfl) T.Th Hh (ca (pv 1) (va (ah (v:=V.ty "tuple") rfl T.Ql Jk rfl))))) (mi (bh (rc (Nb yi (by rfl) T.Th Hh (ca (pv 0) (va (ah (v:=V.ty "tuple") rfl T.Ql Jk rfl)))))))))
   (qa (Ha we))
   Bb)
   (oa (qb (zb Fm (Nb Ue (by rfl) T.Ye Pe (Ea 0)) (Nb Ue (by rfl) T.Ye Pe (Ea 1)) (sb _))
   (qa (Ha we))
   Bb)
   (oa (re me rfl (lH rfl T.KL (ca (pv 0) (Ea 1))) (jo rfl (Ef (Kd 2) (Ef (Kd 3) Vk)))
   (qa (qb (bh (rc (Xv y0 z0 rfl T.Je.m T.Je.F.kp T.Je.b .nil Mh (ca (pv 2) (Ea 3)))))
   (qa (Ha we))
   Bb)))
   (qa (Ha we))))))
   Bb)
   (oa (qb (zb Zp (pv 1) Hd (sb _))
   (qa (Ha (ri Zp (pv 0) Hd (sb _))))
   Bb)
   (oa (qb (rc (Nb yi (by rfl) T.Th Hh (ca (pv 1) (va (ah (v:=V.ty "str") rfl T.Zx boot_str rfl)))))
   (qa (Ha (Up (Nb yi (by rfl) T.Th Hh (ca (pv 0) (va (ah (v:=V.ty "str") rfl T.Zx boot_str rfl)))) (Rr (ri Od (pv 0) (pv 1) (sb _))))))
   Bb)
   (qa (Ha (Up (Nb yi (by rfl) T.Th Hh (ca (pv 0) (va (ah (v:=V.ty "int") rfl T.rC boot_int rfl)))) (Up (Vy (Nb yi (by rfl) T.Th Hh (ca (pv 0) (va (ah (v:=V.ty "bool") rfl T.pC boot_bool rfl))))) (Rr (ri Od (pv 0) (pv 1) (sb _)))))))))),?_⟩
  show let A0:TS:=_;let B0:TS:=ma (lb _ _ _) A0;let C0:TS:=ma (lb _ _ _) B0;let D0:TS:=_;let F0:TS:=ma (qe _ _ (lb _ _ _)) D0;let G0:TS:=ma (lb _ _ _) F0;let H0:TS:=ma (lb _ _ _) G0;let I0:TS:=ma (lb _ _ _) H0;ma (lb _ I0 _) C0 _ _ _
  intros;cases hv with
  |ya=>
   cases g0;refine⟨_,rfl,Ma,λtp J=>nx13 _ tp (["list","tuple"]) _ _ rfl ia (.ya) ZP _ rfl (zc ?_)⟩;refine⟨_,rfl,rfl,_,rfl,Nh rfl ⟨_,rfl,rfl,?_⟩⟩;rw[Ec rfl];exact h0 _ (aa.upd J)
  |int i=>
   cases g0;refine⟨_,rfl,Ma,λtp J=>nx13 _ tp (["list","tuple"]) _ _ rfl ia (.int i) VP _ rfl (zc ?_)⟩;refine⟨_,rfl,rfl,_,rfl,bb (λz=>by cases Ed z) (λ_=>?_)⟩;refine⟨_,rfl,_,_,_,_,rfl,.int i,kA,_,rfl,zc ?_⟩;refine⟨_,rfl,_,_,_,_,rfl,.int i,iA,_,rfl,jd ⟨_,rfl,_,_,_,_,rfl,.int i,jA,_,rfl,_,rfl,jd ⟨_,rfl,_,rfl,rfl,?_⟩⟩⟩;rw[Ec rfl];exact h0 _ (aa.upd J)
  |str x=>
   cases g0;refine⟨_,rfl,Ma,λtp J=>nx13 _ tp (["list","tuple"]) _ _ rfl ia (.str x) WP _ rfl (zc ?_)⟩;refine⟨_,rfl,rfl,_,rfl,bb (λz=>by cases Ed z) (λ_=>?_)⟩;refine⟨_,rfl,_,_,_,_,rfl,.str x,lw,_,rfl,jd ?_⟩;refine⟨_,rfl,_,_,_,_,rfl,.str x,lw,_,rfl,jd ⟨_,rfl,_,rfl,rfl,?_⟩⟩;rw[Ec rfl];exact h0 _ (aa.upd J)
  |@lst a xs ds o0 i0=>
   cases g0 with
   |@lst b ys _ j0 k0=>
    have J0:xs.length=ds.length:=i0.len;have K0:ys.length=ds.length:=k0.len;refine⟨_,rfl,Ma,λtp J=>nx13 _ tp (["list","tuple"]) _ _ rfl ia (.lst ((aa.upd J) _ _ j0)) XP _ rfl (jd ?_)⟩;have s1:=aa.upd (o:=HO.tup [.ty "list",.ty "tuple"]) J;have a0:=s1 _ _ o0;have O:=s1 _ _ j0;have c0:aa H (upd H tp (.tup [.ty "list",.ty "tuple"])):=s1;generalize upd H tp (.tup [.ty "list",.ty "tuple"])=p0 at*;refine⟨_,rfl,_,_,_,_,rfl,.lst O,Ky,_,rfl,jd ⟨_,rfl,_,_,_,_,rfl,.lst a0,Ky,_,rfl,zc ?_⟩⟩;refine⟨_,rfl,_,_,_,_,rfl,.lst O,OP,_,rfl,zc (zc ?_)⟩;refine⟨_,rfl,_,_,rfl,.inl ⟨_,ja.of a0,rfl⟩,_,rfl,_,_,rfl,.inl ⟨_,ja.of O,rfl⟩,rfl,_,rfl,bb (λz=>absurd z (by grind)) (λ_=>?_)⟩;refine⟨_,rfl,_,rfl,_,_,_,_,rfl,.list (ja.of a0),.list (ja.of O),HA (xs:=xs) (ys:=ys) (λi b0 Y=>∃d0 e0:Option V,b0=[some (.ref a),some (.ref b),d0,e0]/\aa p0 Y) ⟨none,none,rfl,aa.refl _⟩ (by rintro i b0 Y⟨_,_,_,q⟩;exact⟨zo (ja.of (q _ _ a0)),zo (ja.of (q _ _ O))⟩) ?_ ?_⟩
    ·rintro i x y b0 Y p q0 r0⟨d0,e0,rfl,q⟩s0;obtain⟨d,l0,t0⟩:=i0.get q0;obtain⟨d',n0,u0⟩:=k0.get r0;rw[l0]at n0;cases n0;have f0:=q.trans (aa.upd (o:=HO.tup [x,y]) s0);have v0:d.depth<n:=by
      have:=Ly l0;have L0:PyData.depthAll ds+1<n+1:=x0;lia
     refine nx7 p _ rfl (xa.of ia) rfl _ _ rfl _ _ rfl rfl ⟨_,rfl,_,rfl,x,y,d,rfl,t0.same (c0.trans f0),u0.same (c0.trans f0),v0,λM0 w0=>⟨_,rfl,zc (nx5 _ _ rfl (f0.trans w0))⟩⟩
    ·rintro b0 Y⟨d0,e0,rfl,q⟩;exact h0 Y (c0.trans q)
  |@tup a xs ds o0 i0=>
   cases g0 with
   |@tup b ys _ j0 k0=>
    have J0:xs.length=ds.length:=i0.len;have K0:ys.length=ds.length:=k0.len;refine⟨_,rfl,Ma,λtp J=>nx13 _ tp (["list","tuple"]) _ _ rfl ia (.tup ((aa.upd J) _ _ j0)) YP _ rfl (jd ?_)⟩;have s1:=aa.upd (o:=HO.tup [.ty "list",.ty "tuple"]) J;have a0:=s1 _ _ o0;have O:=s1 _ _ j0;have c0:aa H (upd H tp (.tup [.ty "list",.ty "tuple"])):=s1;generalize upd H tp (.tup [.ty "list",.ty "tuple"])=p0 at*;refine⟨_,rfl,_,_,_,_,rfl,.tup O,QD,_,rfl,zc (zc ?_)⟩;refine⟨_,rfl,_,_,_,_,rfl,.tup O,mw,_,rfl,jd ⟨_,rfl,_,_,_,_,rfl,.tup a0,mw,_,rfl,zc ?_⟩⟩;refine⟨_,rfl,_,_,rfl,.inr ⟨_,xa.of a0,rfl⟩,_,rfl,_,_,rfl,.inr ⟨_,xa.of O,rfl⟩,rfl,_,rfl,bb (λz=>absurd z (by grind)) (λ_=>?_)⟩;refine⟨_,rfl,_,rfl,_,_,_,_,rfl,.tup (xa.of a0),.tup (xa.of O),HA (xs:=xs) (ys:=ys) (λi b0 Y=>∃d0 e0:Option V,b0=[some (.ref a),some (.ref b),d0,e0]/\aa p0 Y) ⟨none,none,rfl,aa.refl _⟩ (by rintro i b0 Y⟨_,_,_,q⟩;exact⟨GA (xa.of (q _ _ a0)),GA (xa.of (q _ _ O))⟩) ?_ ?_⟩
    ·rintro i x y b0 Y p q0 r0⟨d0,e0,rfl,q⟩s0;obtain⟨d,l0,t0⟩:=i0.get q0;obtain⟨d',n0,u0⟩:=k0.get r0;rw[l0]at n0;cases n0;have f0:=q.trans (aa.upd (o:=HO.tup [x,y]) s0);have v0:d.depth<n:=by
      have:=Ly l0;have L0:PyData.depthAll ds+1<n+1:=x0;lia
     refine nx7 p _ rfl (xa.of ia) rfl _ _ rfl _ _ rfl rfl ⟨_,rfl,_,rfl,x,y,d,rfl,t0.same (c0.trans f0),u0.same (c0.trans f0),v0,λM0 w0=>⟨_,rfl,zc (nx5 _ _ rfl (f0.trans w0))⟩⟩
    ·rintro b0 Y⟨d0,e0,rfl,q⟩;exact h0 Y (c0.trans q)
def RD(T:Tx K mg):∀n:Nat,Kb P w K mg base Qc n T.Je.f T.Je.d ["_law_found","_law_due"] (yr n)
 |0=>aQ T
 |n+1=>bQ T (RD T n)
def uk(T:Tx K mg):T.Je.Ok P w base 7 (yr 7):=RD T 7
--@cc
open Shf
inductive cQ{K:W.Frag}{mg:Str->Option EQ}(T:Tx K mg)(vs:List V)(H:Hp)(Q:VK)(_:XK):Prop|mk(g:Gm)(U:Hp)(x y:Nat->FQ)(c:Cn)(E:Ek)(s:Ms)(lv es:List V)(r ed:FQ)(pl:Nat)(_:vs=[.ref (x 0),.ref (y 0),.str (wd g.l),.ref ed,.ref r])(_:Gd g)(_:Xf T g U H x c E)(_:H (y 0)=some (.dK (Mf y r pl g.ua.length)))(_:H (y 2)=some (.dK (Ka s.ds)))(_:H (y 3)=some (.lst lv))(_:Paired (vr (y 9) H) lv s.lk)(_:(s.ds.map (·.1)).Nodup)(_:s.ds.length<=50)(_:lv.length<=50)(_:H r=some (.dK (Ka g.fs)))(_:H ed=some (.tup es))(_:((E.kp=HQ/\E.ms=s/\∃v,es=[.str "kept",v])\/(E.kp=IQ/\∃v,es=[.str "broken",v])))(_:∀H',aa H H'->Q (.bl HQ) H')
def Zf(L:FQ)(M:V)(n:Int)(R:FQ)(W:V):List (Key×V):=[(.inr "looks",.ref L),(.inr "made",M),(.inr "spots",.int n),(.inr "rows",.ref R),(.inr "reason",W)]
def SD(L:FQ)(M:V)(n:Int)(R:FQ)(W:V):kb (Zf L M n R W) (.inr "looks")=some (.ref L)/\kb (Zf L M n R W) (.inr "made")=some M/\kb (Zf L M n R W) (.inr "spots")=some (.int n)/\kb (Zf L M n R W) (.inr "rows")=some (.ref R)/\kb (Zf L M n R W) (.inr "reason")=some W:=⟨rfl,rfl,rfl,rfl,rfl⟩
def zp(n:Int):List (Key×V):=[(.inr "loose",.int 1),(.inr "kept",.int n),(.inr "make",.int 2),(.inr "watch",.int 1),(.inr "hold",.int 1)]
def dQ(l:Lv)(n:Nat):kb (zp ((n:Int)+1)) (.inr (wd l))=some (.int ((Yf l n:Nat):Int)):=by
 cases l<;>rfl
def TD{H:Hp}:∀(l:List Nat){ys:List V},Paired (λv xs=>∃t,v=.ref t/\H t=some (.tup xs)) ys (l.map λ(i:Nat)=>[V.int 1,V.int (0+(i:Int))])->Gb H ys (l.map λ(i:Nat)=>.tuple [.int 1,.int (i:Int)])
 |[],_,h=>by cases h;exact .nil
 |i::r,_,h=>by
  cases h with
  |cons a b=>
   obtain⟨t,rfl,h⟩:=a;have h:H t=some (.tup [V.int 1,V.int (0+(i:Int))]):=h;rw[Int.zero_add]at h;exact .cons (.tup h (.cons (.int _) (.cons (.int _) .nil))) (TD r b)
def zr{q:Type}(f:q->QQ)(m:Nat)(h:∀a,(f a).depth<=m):∀l:List q,PyData.depthAll (l.map f)<=m
 |[]=>wc _
 |a::r=>by
  have J:=h a;have O:=zr f m h r;show max (f a).depth (PyData.depthAll (r.map f))<=m;lia
def eQ(E:Ek):(xg E).depth<7:=by
 have J:∀q:Int×Int×List Int,PyData.depth (.list ((pj E.ms.ds q.1 q.2.1 q.2.2).map qj))<=2:=λq=>by
  have:=zr qj 1 (λ_=>Ra _) (pj E.ms.ds q.1 q.2.1 q.2.2);show PyData.depthAll _+1<=2;lia
 have O:=zr _ 2 J E.ms.lk;unfold xg;show PyData.depthAll (if _ then _ else _)+1<7;split
 ·lia
 ·decide
def fQ(E:Ek):(uh E).depth<7:=by
 have q:=zr (λk:Int=>PyData.tuple [.int k,.list [.int 1]]) 2 (λ_=>Ra _) (eb (E.ms.ds.map (·.1)));unfold uh;show PyData.depthAll (if _ then _ else _)+1<7;split
 ·lia
 ·decide
def gQ(g:Gm)(E:Ek):(sr g E).depth<7:=by
 have q:=zr (λi:Nat=>PyData.tuple [.int 1,.int (i:Int)]) 1 (λ_=>Ra _) (List.range (if E.kp=HQ then Yf g.l E.lks.length else 0));unfold sr;show PyData.depthAll _+1<7;lia
def vh(H:Hp)(a b:FQ):Hp:=del (del H a) b
def Bn{H:Hp}{a b r:FQ}{o:HO}(q:r≠a)(J:r≠b)(e:H r=some o):vh H a b r=some o:=by
 unfold vh;rw[Rc J,Rc q];exact e
def Ny{H:Hp}{a b r:FQ}{o:HO}(e:vh H a b r=some o):r≠a/\r≠b/\H r=some o:=by
 unfold vh at e;by_cases q:r=b
 ·rw[q,cj]at e;cases e
 ·rw[Rc q]at e;by_cases J:r=a
  ·rw[J,cj]at e;cases e
  ·rw[Rc J]at e;exact⟨J,q,e⟩
def hQ(T:Tx K mg):T.Qx.Ok P w base 8 (cQ T):=by
 refine Qa T.Qx.F λ{_ A _ s}H _ Q E J h=>?_
 ·obtain⟨g,U,x,y,c,E,s,lv,A2,r,w0,pl,rfl,G,D,o1,p1,q1,N1,B2,C2,L3,O1,P1,Q1,k⟩:=h;have O:=yc J;refine⟨_,(oa (Ya 5 (ri Od (Pa Ab (pv 3) ra) La (sb _)))
   (oa (Ya 6 (jc O (pv 1) La))
   (oa (Ya 7 (iw (Pf La (Zb jf) (Pf La (Zb jf) (Pf La ra (Pf La (kg jw (by rfl) T.Eu QS (Ea 4)) (Pf La (Hb (va La)) hw))))) rfl rfl (by simp) (by decide)))
   (oa (qb (rc (pv 5))
   (oa (We O (pv 7) La (fb T.Vq (Dd T) J (ca (pv 4) (Ea 6))) rfl)
   (oa (We O (pv 7) La Hd rfl)
   (oa (We O (pv 7) La (Vd ["_law_key"] [] [] (Yb (Nb (Ai rfl) (by rfl) T.Uf Bg (Ea 6))) (Ac 0) nf (Hb (ca (pv 0) (va (Zb (va ra)))))) rfl)
   (oa (re me rfl (Yb (jc O (pv 1) La)) (jo rfl (Ef (Kd 8) (Ef (Kd 9) (Ef (Kd 10) Vk))))
   (qa (Ub (Oj Fg qm mm Bo (jc O (pv 7) La) (va (Vd ["_law_key"] ["_law_low","_law_high","_law_own"] [8,9,10] (Yb (Nb (Ai rfl) (by rfl) T.Uf Bg (Ea 6))) (Ac 0) (gh (PW.pt (ni (mz Hm Hm (pv 1) (pv 0) (pv 2)) (mi (zb (gB (K:=K) rfl) (pv 0) (pv 3) rfl))))) (Hb (ca (pv 0) (va ra)))))))))
   (qa (We O (pv 7) La (jc O (iw (Pf La ra (Pf La (Ta Ee (Nb Ue (by rfl) T.Ye Pe (va (jc O (pv 1) La))) ra) (Pf La ra (Pf La ra (Pf La ra hw))))) rfl rfl (by simp) (by decide)) (pv 2)) rfl))))))
   Bb)
   (oa (qb (PW.pt (ym (bh (rc (fb T.Je (uk T) J (ca (Ib (pv 0) T.Va T.Xo.m (nD T) J T.Xo.b (va ra)) (va (Pa Ab (pv 3) ra)))))) (fo (bh (rc (fb T.Je (uk T) J (ca (Ib (pv 0) T.Va T.ou.m (rO T) J T.ou.b (va ra)) (va (jc O (pv 7) La)))))))))
   (qa (Ha we))
   Bb)
   (oa (qb (PW.pt (ym (bh (rc (fb T.Je (uk T) J (ca (Ib (pv 0) T.Va T.qu.m (sO T) J T.qu.b (va ra)) (Ea 2))))) (fo (bh (rc (fb T.Je (uk T) J (ca (Ib (pv 0) T.Va T.yl.m (Fy T) J T.yl.b (va ra)) (va (jc O (pv 7) La)))))))))
   (qa (Ha we))
   Bb)
   (oa (qb (bh (rc (fb T.Je (uk T) J (ca (Pg (pv 0) T.Va T.Wo.m (HD T) J T.Wo.b) (va (Vd ["_law_key"] ["_law_due"] [7] (Yb (Nb (Ai rfl) (by rfl) T.Uf Bg (va (jc O (pv 7) La)))) (Ac 0) nf (Hb (ca (pv 0) (va (jc O (jc O (pv 1) La) (pv 0)))))))))))
   (qa (Ha we))
   Bb)
   (oa (qb (bh (rc (fb T.Je (uk T) J (ca (Pg (pv 0) T.Va T.zl.m (Gy T) J T.zl.b) (va (jc O (pv 7) La))))))
   (qa (Ha we))
   Bb)
   (qa (Ha (fb T.Je (uk T) J (ca (Pg (pv 0) T.Va T.Yo.m (OD T) J T.Yo.b) (va (Vd ["_law_place"] [] [] (Jv rfl T.Fu (va (jc O (pv 7) La))) (Ac 0) nf (Hb (ca ra (Ea 0))))))))))))))))),?_⟩
  show let R1:TS:=_;let S1:TS:=ma (lb _ _ _) R1;let T1:TS:=ma (lb _ _ _) S1;let U1:TS:=ma (lb _ _ _) T1;let r1:TS:=ma (lb _ _ _) U1;let V1:TS:=_;let t1:TS:=ma (qe _ _ _) V1;let u1:TS:=ma _ t1;let W1:TS:=ma _ u1;let X1:TS:=ma _ W1;let Y1:TS:=ma (lb _ X1 _) r1;let Z1:TS:=ma _ Y1;let a2:TS:=ma _ Z1;ma _ a2 _ _ _
  intros;rename_i R1 S1 T1 U1 r1 V1 t1 u1 W1 X1 Y1 Z1 a2;have M3:(64:Nat)<=JQ:=by decide
  have Ad:=G.Ad;have D2:=pf N1;have E2:E.kp=HQ->E.ms=s->E.lks.length=lv.length:=λkp em=>by
   have:E.ms.lk.length=(E.lks.map (·.2)).length:=by rw[D.qh]
   grind
  have F2:(af g E).length<64:=by
   unfold af;have:=lr E.ms.ds g.fs;have:=D.ln.1;split<;>lia
  obtain⟨Z0,p0,G2,⟨N3,x0⟩,H2,I2,J2,K2⟩:∃(Z0:Str)(p0:QQ),E.df.ph=.str Z0/\(∃v,A2=[.str Z0,v])/\Tn U E.df.w p0/\p0.depth<7/\(E.kp=HQ->p0=.none)/\(E.kp=IQ->p0=.tuple [.str "own"]):=by
   rcases Q1 with⟨kp,_,v,rfl⟩|⟨kp,v,rfl⟩
   ·rcases D.why with⟨_,z⟩|⟨z,_⟩
    ·exact nx12 ("kept") (.none) (by rw[D.rr,Ca kp]) ⟨v,rfl⟩ (by rw[z];exact .ya) (by decide) (λ_=>rfl) λz=>by grind
    grind
   ·rcases D.why with⟨z,_⟩|⟨_,O3,z,h⟩
    ·grind
    ·exact nx12 ("broken") (.tuple [.str "own"]) (by rw[D.rr,kp];rfl) ⟨v,rfl⟩ (by rw[z];exact .tup h (.cons (.str _) .nil)) (by decide) (λz=>(by grind)) λ_=>rfl
  have Q3:(if E.kp=HQ then Yf g.l E.lks.length else 0:Nat)<=60:=by
   have:=D.ln.2.1;have:=pf D.lks;split
   ·have:Yf g.l E.lks.length<=E.lks.length+2:=by cases g.l<;>simp[Yf]
    lia
   ·lia
  have rest:∀(g0:Hp)(dd L R:FQ)(M W:V)(n:Int)(b2 y0 z0 A0:Option V),aa H g0->g0 dd=some (.dK (Zf L M n R W))->Tn g0 (.ref L) (xg E)->Tn g0 M (uh E)->n=((if E.kp=HQ then Yf g.l E.lks.length else 0:Nat):Int)->g0 R=some (.dK (Ka (af g E)))->Tn g0 W p0->
    r1 {nx:=λ_ H'=>Q .ya H',rt:=Q} [some (.ref (x 0)),some (.ref (y 0)),some (.str (wd g.l)),some (.ref w0),some (.ref r),b2,some (.ref (y 2)),some (.ref dd),y0,z0,A0] g0:=by
   intro g0 dd L R M W n b2 y0 z0 A0 s1 c0 N2 M0 O2 a1 P2;obtain⟨l0,B0,N0,c2,Q2⟩:=SD L M n R W;have n0:=D.same s1;refine⟨_,rfl,x 0,c.hx,_,rfl,n0.bx.get 0 rfl,rfl,x 0,c.hx,c.dl,x 3,c.ax,Oe c x E.sp E.st,E.df,rfl,n0.bx.get 0 rfl,rfl,n0.bx.sub _ _ D.dls,n0.bx.sub _ _ D.obj,?_⟩;refine⟨_,rfl,w0,_,_,_,rfl,rfl,xa.of (s1 _ _ P1),Ja (j:=0) (by rw[x0];rfl),_,_,.str Z0,rfl,by rw[G2];exact .str _,.str _,ii,λS2 Y=>⟨_,rfl,zc ?_⟩⟩;have C0:=n0.same Y;have b1:=s1.trans Y;refine⟨_,rfl,x 0,c.hx,_,rfl,C0.bx.get 0 rfl,rfl,x 0,c.hx,c.dl,x 3,c.ax,Oe c x E.sp E.st,E.df,rfl,C0.bx.get 0 rfl,rfl,C0.bx.sub _ _ D.dls,C0.bx.sub _ _ D.obj,?_⟩;refine⟨_,rfl,dd,_,rfl,vc (k:=Sum.inr "reason") (Y _ _ c0) Q2,_,_,p0,rfl,H2.same C0.bx.sub,P2.same Y,I2,λd1 o0=>⟨_,rfl,zc ?_⟩⟩;have D0:=C0.same o0;have T2:=Y.trans o0;refine⟨_,rfl,x 0,c.hx,_,rfl,D0.bx.get 0 rfl,rfl,x 0,c.hx,c.dl,x 3,c.ax,c.lv,c.lx,Oe c x E.sp E.st,E.df,g.l,rfl,D0.bx.get 0 rfl,rfl,D0.bx.sub _ _ D.dls,D0.bx.sub _ _ D.obj,D.wy,D0.bx.sub _ _ D.lev,_,rfl,_,_,.str (wd g.l),rfl,.str _,.str _,ii,λH4 q0=>⟨_,rfl,zc ?_⟩⟩;have d2:=D0.same q0;have v1:=T2.trans q0;refine⟨_,rfl,x 0,c.hx,_,rfl,d2.bx.get 0 rfl,rfl,g,U,x,c,E,rfl,G,d2,λp ys h0 R3 q S3 U2 _=>⟨_,rfl,dd,_,rfl,vc (k:=Sum.inr "looks") (q _ _ (v1 _ _ c0)) l0,_,_,xg E,rfl,U2,N2.same (v1.trans q),?_,λV2 W2=>⟨_,rfl,zc ?_⟩⟩⟩
   ·exact eQ E
   have e2:=v1.trans (q.trans W2);have f2:=n0.same e2;refine⟨_,rfl,x 0,c.hx,_,rfl,f2.bx.get 0 rfl,rfl,g,U,x,c,E,rfl,G,f2,λT3 U3 g2 V3 d0 W3 X2 _=>?_⟩;have w1:=e2.trans d0;have h2:=w1 _ _ a1;have i2:=w1 _ _ c0;refine⟨_,rfl,dd,_,rfl,vc (k:=Sum.inr "rows") i2 c2,R,_,(af g E).map (·.1),rfl,h2,nj _,by rw[Na];exact F2,λO0 r0=>⟨O0,rfl,⟨_,ja.of ia⟩,sg (k:=1) (fs:=[some (.ref dd)]) (λH v (F0:Int×Option Int)=>∃t,v=.ref t/\H t=some (.tup [.int F0.1,ov F0.2])) (λ_ v (n:Int)=>v=.int n) (eb ((af g E).map (·.1))) (λk=>some (k,(fk (af g E) k).getD none)) (by rintro _ _ _ _ x1⟨t,e,z⟩;exact⟨t,e,x1 _ _ (λ_ y=>HO.noConfusion y) z⟩) (λ_ _ _ _ _ e=>e) rfl ia (Ii _) (by rw[(mc _).length_eq,Na];lia) ?_ λe0 i0 Y2 G0 f0 Q0 s0=>?_⟩⟩
   ·rintro m y1 i0 z1 v e1 f0 t0 rfl u0 _;obtain⟨A1,rfl⟩:=Be.mp t0;have a0:=(aa.upd (o:=HO.lst ((eb ((af g E).map (·.1))).map V.int)) r0).trans f0;obtain⟨o,j2⟩:∃o,fk (af g E) m=some o:=by
     cases e:fk (af g E) m with
     |some o=>grind
     |none=>exact absurd ((mc _).mem_iff.mp y1) (Le.mp e)
    have Z2:kb (Ka (af g E)) (Sum.inl m:Key)=some (ov o):=by rw[Tl,j2];rfl
    exact jd (B:=False) ⟨_,rfl,_,rfl,dd,_,rfl,vc (k:=Sum.inr "rows") (a0 _ _ i2) c2,_,rfl,R,_,rfl,vc (k:=Sum.inl m) (a0 _ _ h2) Z2,Ma,λt j0=>u0 _ _ [_] _ rfl rfl (aa.upd j0) ⟨t,rfl,by rw[j2];exact ia⟩⟩
   ·rw[sm]at s0;have a0:=(aa.upd (o:=HO.lst ((eb ((af g E).map (·.1))).map V.int)) r0).trans f0;have a3:Gb (tp i0) Y2 ((yf (af g E) λ_=>HQ).map Sg):=by
     unfold yf;rw[Yn.mpr λ_ _=>rfl];exact pp (bv s0)
    refine⟨_,_,_,rfl,X2.same a0,.lst Q0 (a3.same ql),?_,λv0 H0=>⟨_,rfl,zc ?_⟩⟩
    ·have:=(my (yf (af g E) λ_=>HQ)).2;show PyData.depthAll _+1<7;lia
    have f1:=w1.trans (a0.trans H0);have k2:=n0.same f1;refine⟨_,rfl,x 0,c.hx,_,rfl,k2.bx.get 0 rfl,rfl,g,U,x,c,E,rfl,G,k2,λX3 Y3 Z3 a4 b1 b4 b3 _=>⟨_,rfl,dd,_,rfl,vc (k:=Sum.inr "made") (b1 _ _ (f1 _ _ c0)) B0,_,_,uh E,rfl,b3,M0.same (f1.trans b1),?_,λc4 c3=>⟨_,rfl,zc ?_⟩⟩⟩
    ·exact fQ E
    have B1:=f1.trans (b1.trans c3);have l2:=n0.same B1;refine⟨_,rfl,x 0,c.hx,_,rfl,l2.bx.get 0 rfl,rfl,g,U,x,c,E,rfl,G,l2,λd4 e4 f4 g4 m2 h4 d3 _=>⟨_,rfl,dd,_,rfl,vc (k:=Sum.inr "spots") (m2 _ _ (B1 _ _ c0)) N0,n,rfl,?_,?_,?_⟩⟩
    ·lia
    ·lia
    ·rw[O2,rj];refine GD (k:=1) (fs:=[]) _ (λ(i:Nat)=>[V.int 1,V.int (0+(i:Int))]) rfl ?_ (λi h0 q hi=>hi) (λh0 q=>Ra _) ?_ λi4 h0 j4 k4 q e3 f3=>?_
     ·lia
     ·rintro i h0 z1 v V2 e1 q hi t0⟨rfl,rfl⟩u0;obtain⟨A1,rfl⟩:=Be.mp t0;exact jd (B:=False) ⟨_,rfl,Ma,λt j0=>u0 t [_] _ ia rfl (aa.upd j0)⟩
     ·exact⟨_,_,sr g E,rfl,d3.same q,.lst e3 (TD _ f3),gQ g E,λg2 d0=>k g2 (s1.trans (B1.trans (m2.trans (q.trans d0))))⟩
  refine⟨_,rfl,w0,_,_,_,rfl,rfl,xa.of P1,Ja (j:=0) (by rw[x0];rfl),rfl,?_⟩;refine⟨_,rfl,y 0,_,rfl,vc (k:=Sum.inr "drafts") o1 (Xl ..).2.1,?_⟩;refineλdd c0=>nw c0 λl4 n2 R0=>⟨Oc,λL C1=>nw C1 λm4 s1 g3=>⟨Oc,λM o2=>nw o2 λn4 Y h3=>?_⟩⟩
  have p2:=n2.trans (s1.trans Y);refine⟨_,rfl,r,_,rfl,p2 _ _ O1,λR a1=>nw a1 λo4 o0 i3=>⟨jb,λW q2=>nw q2 λp4 q0 j3=>?_⟩⟩;have g1:=o0.trans q0;refine⟨g1 _ _ (Y _ _ (s1 _ _ R0)),Zf L (.ref M) 0 R (.ref W),rfl,Hg,?_⟩;rw[show bj [] (Zf L (.ref M) 0 R (.ref W))=Zf L (.ref M) 0 R (.ref W)from rfl];have ne:∀{r2:Hp}{a b:FQ}{o:HO},r2 a=none->r2 b=some o->a≠b:=λl0 B0 z=>by grind
  have I0:L≠dd:=ne C1 R0;have k3:M≠dd:=ne o2 (s1 _ _ R0);have l3:R≠dd:=ne a1 (Y _ _ (s1 _ _ R0));have m3:W≠dd:=ne q2 (o0 _ _ (Y _ _ (s1 _ _ R0)));have q4:H L=none:=uc n2 C1;refine cg λg0 B D1=>?_
  have E1:=B _ _ I0 (g1 _ _ (Y _ _ g3));have n3:=B _ _ k3 (g1 _ _ h3);have o3:=B _ _ l3 (q0 _ _ i3);have p3:=B _ _ m3 j3;have q:=xt (p2.trans g1) B c0;rcases Q1 with⟨kp,em,v,hv⟩|⟨kp,v,hv⟩
  ·rw[hv]at x0;cases x0;subst em;refine⟨_,rfl,_,rfl,Nh rfl ?_⟩;refine⟨_,rfl,_,rfl,r,y 2,g.fs,E.ms.ds,rfl,q _ _ O1,q _ _ p1,B2,by lia,λR2 S2 s2 Y q3=>⟨_,rfl,dd,_,rfl,ue.k (k:=Sum.inr "rows") (Y _ _ D1) Gg,cg λr3 F1 (y1:r3 dd=some (.dK (Zf L (.ref M) 0 R2 (.ref W))))=>?_⟩⟩;refine⟨_,rfl,dd,_,rfl,ue.k (k:=Sum.inr "reason") y1 Gg,cg λd1 G1 (H1:d1 dd=some (.dK (Zf L (.ref M) 0 R2 .ya)))=>?_⟩;have h1:R2≠dd:=ne s2 D1;have s3:R2≠L:=ne s2 E1;have i1:=G1 _ _ I0 (F1 _ _ I0 (Y _ _ E1));have t3:d1 R2=some (.dK (Ka (af g E))):=G1 _ _ h1 (F1 _ _ h1 (by rw[q3];unfold af;rw[Ca kp]));have o0:=xt (xt (q.trans Y) F1 c0) G1 c0;show u1 _ [some (.ref (x 0)),some (.ref (y 0)),some (.str (wd g.l)),some (.ref w0),some (.ref r),some (.bl (decide (V.str "kept"=V.str "kept"))),some (.ref (y 2)),some (.ref dd),none,none,none] d1;have r4:(eb (E.ms.ds.map (·.1))).length<=50:=by rw[(mc _).length_eq,Na];exact C2
   refine⟨_,rfl,y 2,_,E.ms.ds.map (·.1),rfl,o0 _ _ p1,nj _,by rw[Na];lia,λO0 r0=>⟨O0,rfl,⟨_,ja.of ia⟩,tr (k:=1) (fs:=[]) (λA B v (n:Int)=>∃t l,v=.ref t/\B t=some (.tup [.int n,.ref l])/\A l=some (.lst [.int 1])) (λ_ v (n:Int)=>v=.int n) (λu3 v3⟨t,l,e,J0,k0⟩=>⟨t,l,e,v3 _ _ J0,u3 _ _ k0⟩) (λ_ e=>e) (eb (E.ms.ds.map (·.1))) rfl ia (Ii _) (by lia) ?_ λe0 H4 ys G0 q0 w3 s0=>?_⟩⟩
   ·rintro n x3 h0 z1 v e1 s4 t0 rfl u0;obtain⟨A1,rfl⟩:=Be.mp t0;exact jd (B:=False) ⟨_,rfl,jb,λl j1=>⟨Ma,λt j0=>u0 _ [_] _ rfl ((aa.upd j1).trans (aa.upd j0)) (nx0 t l rfl (Tf ia) (Ng j1 (aa.upd j0 _ _ ia)))⟩⟩
   have S0:=aa.upd (o:=HO.lst ((eb (E.ms.ds.map (·.1))).map V.int)) r0;have U0:=S0.trans q0;have y3:=U0 _ _ H1;have z3:e0≠dd:=ne G0 (S0 _ _ H1);have A3:e0≠L:=ne G0 (S0 _ _ i1);have M0:Tn (vh H4 dd L) (.ref e0) (uh E):=by
    unfold uh;rw[Ca kp];refine .lst (Bn z3 A3 w3) (LD (Paired.ib s0 λ_ _⟨t,l,e,J0,k0⟩=>nx0 t l e ?_ ?_))
    ·obtain⟨_,_,z⟩:=Jq J0;cases(Yd (ql _ _ J0▸z:some _=some _));exact Bn (λe=>by grind) (λe=>by rw[e,U0 _ _ i1]at z;cases z) z
    ·obtain⟨V0,I1⟩:=Rh (kl k0).2;exact Bn (ne V0 (S0 _ _ H1)) (ne V0 (S0 _ _ i1)) I1
   refine⟨_,rfl,dd,_,rfl,ue.k (k:=Sum.inr "made") y3 Gg,cg λh0 k1 (B3:h0 dd=some (.dK (Zf L (.ref e0) 0 R2 .ya)))=>?_⟩;have C3:=k1 _ _ I0 (U0 _ _ i1);have D3:=k1 _ _ h1 (U0 _ _ t3);have q:=xt (o0.trans U0) k1 c0;have M0:=M0.same (H':=vh h0 dd L) λb o e=>by
    obtain⟨V0,I1,E3⟩:=Ny e;exact Bn V0 I1 (k1 _ _ V0 E3)
   show t1 _ [some (.ref (x 0)),some (.ref (y 0)),some (.str (wd g.l)),some (.ref w0),some (.ref r),some (.bl (decide (V.str "kept"=V.str "kept"))),some (.ref (y 2)),some (.ref dd),none,none,none] h0;generalize t4:(some (V.bl (decide (V.str "kept"=V.str "kept"))):Option V)=F3;obtain⟨l0,_,_,_,_⟩:=SD L (.ref e0) 0 R2 .ya;refine⟨_,rfl,y 0,_,rfl,vc (k:=Sum.inr "looks") (q _ _ o1) (Xl ..).2.2.1,y 3,rfl,⟨_,ja.of (q _ _ q1)⟩,eh (K:=K) (a:=y 3) (xs:=lv) (λi l1 b0=>∃y0 z0 A0 lks,l1=[some (.ref (x 0)),some (.ref (y 0)),some (.str (wd g.l)),some (.ref w0),some (.ref r),F3,some (.ref (y 2)),some (.ref dd),y0,z0,A0]/\aa H b0/\b0 dd=some (.dK (Zf L (.ref e0) 0 R2 .ya))/\b0 L=some (.lst lks)/\lks.length=i/\aa (vh h0 dd L) (vh b0 dd L)/\b0 R2=some (.dK (Ka (af g E)))/\Gb (vh b0 dd L) lks ((E.ms.lk.take i).map λF0=>.list ((pj E.ms.ds F0.1 F0.2.1 F0.2.2).map qj))) (nx1 none none (nx17 none ([]) rfl q B3 C3 rfl (aa.refl _) D3 (.nil))) (by rintro i l1 b0 _⟨_,_,_,_,_,z,_⟩;exact ja.of (z _ _ q1)) ?_ ?_⟩
   ·rintro i v l1 b0 t2⟨y0,z0,A0,lks,rfl,d0,K0,L0,u2,J1,K1,m1⟩;obtain⟨⟨lo,hi,W0⟩,G3,t,l,rfl,j0,j1,_⟩:=Xj N1 t2;have u4:=(ee.mp t2).1;refine nx11 t _ rfl (xa.of (d0 _ _ j0)) rfl (nx5 _ _ rfl (nx5 _ _ rfl (nx0 _ _ rfl rfl ?_)));refine⟨_,rfl,dd,_,rfl,vc (k:=Sum.inr "looks") K0 l0,.inl ⟨rfl,_,ja.of L0⟩,?_⟩;refine⟨_,rfl,y 2,_,E.ms.ds.map (·.1),rfl,d0 _ _ p1,nj _,by rw[Na];lia,λO0 r0=>⟨O0,rfl,⟨_,ja.of ia⟩,sg (k:=1) (fs:=[some (.int lo),some (.int hi),some (.ref l)]) (λH v (n:Int)=>∃t,v=.ref t/\H t=some (.tup [.int n,.int 0])) (λ_ v (n:Int)=>v=.int n) (eb (E.ms.ds.map (·.1))) (λk=>if(gb lo hi k&&!W0.contains k)=HQ then some k else none) (by rintro _ _ _ _ x1⟨t,e,z⟩;exact⟨t,e,x1 _ _ (λ_ y=>HO.noConfusion y) z⟩) (λ_ _ _ _ _ e=>e) rfl ia (Ii _) (by lia) ?_ λn1 i0 ys G0 f0 Q0 s0=>?_⟩⟩
    ·rintro n x3 i0 z1 v e1 f0 t0 rfl u0 H3;obtain⟨A1,rfl⟩:=Be.mp t0;have a0:=d0.trans ((aa.upd (o:=HO.lst ((eb (E.ms.ds.map (·.1))).map V.int)) r0).trans f0);have L1:¬(gb lo hi n&&!W0.contains n)=HQ->e1 none [some (.int n),some (.int lo),some (.int hi),some (.ref l)] i0:=λz=>H3 (Ba z) [_] _ rfl (aa.refl _)
     have v2:¬(lo<=n/\n<=hi)->¬(gb lo hi n&&!W0.contains n)=HQ:=λz y=>z (Ed ((jm _ _).mp y).1)
     have I3:(eb W0).contains n=W0.contains n:=by
      rw[Bool.eq_iff_iff,List.contains_iff_mem,List.contains_iff_mem];exact(mc _).mem_iff
     refine⟨_,rfl,_,rfl,_,_,rfl,rfl,_,rfl,bb (λl0=>?_) (λl0=>⟨_,rfl,zc (zc (L1 (v2 λy=>l0 (Ec y.1))))⟩)⟩;refine⟨_,rfl,_,_,rfl,rfl,_,rfl,bb (λB0=>?_) (λB0=>zc (L1 (v2 λy=>B0 (Ec y.2))))⟩;refine⟨_,rfl,_,rfl,l,_,rfl,.inl (ja.of (a0 _ _ j1)),rfl,hB _,_,rfl,?_⟩;rw[Nw,I3];have J3:gb lo hi n=HQ:=Ec ⟨Ed l0,Ed B0⟩;refine bb (λN0=>?_) (λN0=>L1 λy=>N0 ((jm _ _).mp y).2);exact⟨_,rfl,Ma,λt j0=>u0 _ _ [_] _ (Ca (by rw[J3];exact N0)) rfl (aa.upd j0) ⟨t,rfl,ia⟩⟩
    ·rw[ID]at s0;have sp:=(aa.upd (o:=HO.lst ((eb (E.ms.ds.map (·.1))).map V.int)) r0);have a0:=sp.trans f0;have K3:n1≠dd:=ne G0 (sp _ _ K0);have w2:n1≠L:=ne G0 (sp _ _ L0);refine⟨L,lks,.ref n1,rfl,rfl,a0 _ _ L0,by lia,λv0 J0 k0=>?_⟩;have st:aa (tp i0) (vh v0 dd L):=λb o e=>by
      obtain⟨us,rfl,z⟩:=Jq e;have X0:b≠dd:=λy=>by rw[y,a0 _ _ K0]at z;cases z
      have Y0:b≠L:=λy=>by rw[y,a0 _ _ L0]at z;cases z
      exact Bn X0 Y0 (k0 _ _ Y0 z)
     have x2:aa (vh b0 dd L) (vh v0 dd L):=λb o e=>by
      obtain⟨X0,Y0,z⟩:=Ny e;exact Bn X0 Y0 (k0 _ _ Y0 (a0 _ _ z))
     refine nx1 _ _ (nx17 _ (lks++[.ref n1]) rfl (λb o e=>k0 _ _ (λz=>by grind) (a0 _ _ (d0 _ _ e))) (k0 _ _ I0.symm (a0 _ _ K0)) J0 (by rw[gi,u2];rfl) (J1.trans x2) (k0 _ _ s3 (a0 _ _ K1)) ?_);rw[Oi,G3,Dg];exact(m1.same x2).app (.cons (.lst (Bn K3 w2 (k0 _ _ w2 Q0)) ((JD s0).same st)) .nil)
   ·rintro l1 b0⟨y0,z0,A0,lks,rfl,d0,K0,L0,u2,J1,K1,m1⟩;rw[D2,sj]at m1;refineλsp y2=>?_
    refine nw y2 λi0 f0 Q0=>?_
    refine⟨_,rfl,y 0,_,rfl,vc (k:=Sum.inr "looks") ((d0.trans f0) _ _ o1) (Xl ..).2.2.1,_,_,rfl,.inl ⟨_,ja.of ((d0.trans f0) _ _ q1),rfl⟩,_,_,rfl,rfl,Q0,zp ((lv.length:Int)+1),rfl,Hg,?_⟩;have H0:aa b0 (upd i0 sp (.dK (bj [] (zp ((lv.length:Int)+1))))):=f0.again y2;have z2:upd i0 sp (.dK (bj [] (zp ((lv.length:Int)+1)))) sp=some (.dK (zp ((lv.length:Int)+1))):=ia;generalize upd i0 sp (.dK (bj [] (zp ((lv.length:Int)+1))))=v0 at H0 z2⊢;refine⟨_,rfl,sp,_,rfl,vc (k:=Sum.inr (wd g.l)) z2 (dQ g.l lv.length),_,rfl,dd,_,rfl,ue.k (k:=Sum.inr "spots") (H0 _ _ K0) Gg,?_⟩;have M1:∀b o,b≠dd->b0 b=some o->upd v0 dd (.dK (Zf L (.ref e0) ((Yf g.l lv.length:Nat):Int) R2 .ya)) b=some o:=λb o n e=>by rw[ka n];exact H0 _ _ e
    have sz:aa (vh b0 dd L) (upd v0 dd (.dK (Zf L (.ref e0) ((Yf g.l lv.length:Nat):Int) R2 .ya))):=λb o e=>by
     obtain⟨X0,_,z⟩:=Ny e;exact M1 b o X0 z
    refine rest (upd v0 dd (.dK (Zf L (.ref e0) ((Yf g.l lv.length:Nat):Int) R2 .ya))) dd L R2 (.ref e0) .ya _ _ _ _ _ ((d0.trans H0).again c0) ia ?_ (M0.same (J1.trans sz)) (by rw[Ca kp,E2 kp rfl]) (M1 _ _ h1 K1) (by rw[J2 kp];exact .ya);unfold xg;rw[Ca kp];exact .lst (M1 _ _ I0 L0) (m1.same sz)
  ·rw[hv]at x0;cases x0;refine⟨_,rfl,_,rfl,vf (λe=>absurd (V.str.inj e) (by decide+kernel)) ?_⟩;refine rest g0 dd L R (.ref M) (.ref W) 0 _ none none none q D1 ?_ ?_ (by rw[kp];rfl) ?_ ?_
   ·unfold xg;rw[kp];exact .lst E1 .nil
   ·unfold uh;rw[kp];exact .lst n3 .nil
   ·unfold af;rw[kp];exact o3
   ·rw[K2 kp];exact .tup p3 (.cons (.str _) .nil)
--@cc
open Shf
def UD{k:Nat}{us:List V}(h:us=[]\/∃a r,us=.ref a::r):HO.lst us≠.lst (List.replicate (k+2) (.int 1)):=by grind
def iQ{H:Hp}{kvs:List (Key×V)}{m:List (Int×List Ga)}(r:Ent H kvs m){l:FQ}{us:List V}(h:V.ref l∈kvs.map (·.2))(e:H l=some (.lst us)):us=[]\/∃a r,us=.ref a::r:=by
 induction r with
 |nil=>simp at h
 |cons q J _ O=>
  simp only[qd,Mb]at h;rcases h with z|z
  ·cases z;rw[q]at e;cases e;cases J with
   |nil=>exact .inl rfl
   |cons _ _=>exact .inr ⟨_,_,rfl⟩
  ·exact O z
def Xf.clear{K:W.Frag}{mg:Str->Option EQ}{T:Tx K mg}{g:Gm}{U H a0:Hp}{x:Nat->FQ}{c:Cn}{E:Ek}(D:Xf T g U H x c E){l:FQ}{k:Nat}(O:U l=some (.lst (List.replicate (k+2) (.int 1))))(b0:∀b o,b≠l->H b=some o->a0 b=some o):Xf T g (del U l) a0 x c E:=by
 have q:∀{b:FQ}{o:HO},U b=some o->o≠.lst (List.replicate (k+2) (.int 1))->del U l b=some o:=λ{b o}e n=>by
  rw[Rc λz=>n (by rw[z,O]at e;exact(Yd e).symm)];exact e
 have nd:∀{b:FQ}{o:HO},del U l b=some o->b≠l/\U b=some o:=λ{b o}e=>by
  by_cases z:b=l
  ·rw[z,cj]at e;cases e
  ·rw[Rc z]at e;exact⟨z,e⟩
 refine{D with bx:=⟨λi hi o e=>b0 _ _ (λz=>?_) (D.bx.at_ i hi o e),D.bx.inj,λb o e=>b0 _ _ (nd e).1 (D.bx.sub _ _ (nd e).2),λi hi o e=>?_⟩,tld:=D.tld.same (He (by grind)),dls:=q D.dls (by grind),obj:=q D.obj (by grind),why:=?_,lev:=q D.lev (by grind),shl:=xp D.shl (q D.shl.obj (by grind)) (by grind) (by grind) (λ_ _ e z=>q e (UD (iQ D.shl.ent z e))),sps:=?_,lok:=q D.lok (UD ?_),lks:=Paired.ib D.lks (by rintro _ _⟨t,p,d0,e,a,b,d,n⟩;exact⟨t,p,d0,e,q a λz=>HO.noConfusion z,q b λz=>HO.noConfusion z,q d λz=>HO.noConfusion z,n⟩)}
 ·rw[<-z,D.bx.off i hi o e]at O;cases O
 ·cases y:del U l (x i)with
  |none=>rfl
  |some u=>have:=(nd y).2;rw[D.bx.off i hi o e]at this;cases this
 ·rcases D.why with h|⟨Y,w,c0,e0⟩
  ·exact .inl h
  ·exact .inr (by grind)
 ·rcases D.sps with⟨Y,s,f0,g0,h0,c0,e0,i0⟩|⟨Y,c0⟩
  ·refine .inl (⟨Y,nx19 s f0 g0 h0 (by grind) ⟨by grind,q i0 λz=>?_⟩⟩);have z:=HO.lst.inj z;have J:=mj D.nd;generalize eb (E.ms.ds.map (·.1))=L at z J;rw[Gp,Gp]at z;match L,z,J with
   |[],z,_=>cases z
   |[_],z,_=>cases z
   |a::b::r,z,J=>
    injection z with j0 z;injection z with k0 _;have:=(Eh.mp J).1 b (.head _);have:=V.int.inj j0;have:=V.int.inj k0;lia
  ·exact .inr (by grind)
 ·have:=D.lks;generalize E.lv=lv at this;generalize E.lks=l0 at this;cases this with
  |nil=>exact .inl rfl
  |cons h _=>obtain⟨t,_,_,rfl,_⟩:=h;exact .inr ⟨_,_,rfl⟩
def jQ(fs:Dr)(m:Nat)(s:Ms)(d:De):∃x ds,(Sd fs m s d).2=.str x::ds/\PyData.depthAll ds<=2:=by
 cases d with
 |look w c q J=>
  refine⟨_,_,rfl,?_⟩;have:=(my (md fs s.ds (oI q s.na) (oI J s.na))).2;show max 0 (max 0 (max (PyData.depthAll _+1) 0))<=2;lia
 |stop q J=>
  show∃x ds,(if oI q s.na<oI J s.na then([.str "broken",.tuple [.str "own"]]:List QQ)else[.str "go",.int ((s.pl+1:Nat):Int)])=.str x::ds/\PyData.depthAll ds<=2;split
  ·exact⟨_,_,rfl,by decide⟩
  ·exact⟨_,_,rfl,qc (vk (rfl:_=0)) (wc 2)⟩
 |_=>exact⟨_,_,rfl,qc (vk (rfl:_=0)) (wc 2)⟩
def VD(fs:Dr)(q:List De)(s:Ms):∃x ds,(Sb fs q s).2=.str x::ds/\PyData.depthAll ds<=2:=by
 unfold Sb;split
 ·exact jQ _ _ _ _
 ·refine⟨_,_,rfl,?_⟩;have:=(my (yf s.ds λ_=>HQ)).2;show max (PyData.depthAll _+1) 0<=2;unfold Lf;lia
def Oy{m:Nat}{d:QQ}:∀{l:List QQ},PyData.depthAll l<=m->d.depth<=m->PyData.depthAll (l++[d])<=m
 |[],_,h=>by show max d.depth 0<=m;lia
 |a::r,q,J=>by
  have O:max a.depth (PyData.depthAll r)<=m:=q;have:=Oy (l:=r) (by lia) J;show max a.depth (PyData.depthAll (r++[d]))<=m;lia
def Py(fs:Dr)(q:List De):∀n,(∃x ds,(vb fs q n).en=.str x::ds)/\PyData.depthAll (vb fs q n).td<=3
 |0=>⟨⟨_,_,rfl⟩,wc _⟩
 |n+1=>by
  obtain⟨O,J⟩:=Py fs q n;unfold vb;split
  ·exact⟨O,Oy J (qc (vk (rfl:_=1)) (by decide))⟩
  ·obtain⟨x,ds,e,h⟩:=VD fs q (vb fs q n).ms;refine⟨⟨x,ds,e⟩,Oy J ?_⟩;rw[e];show max 0 (max 0 (max 0 (PyData.depthAll ds)))+1<=3;lia
def Bx.take{U H:Hp}{x:Nat->FQ}{f:Nat->Option HO}(b:Bx U H x f){D:FQ}{o:HO}(h:H D=some o)(n:∀i<9,∀u,f i=some u->x i≠D):Bx (upd U D o) H x f:=
 ⟨b.at_,b.inj,λc u e=>by
  by_cases z:c=D
  ·rw[z,ia]at e;cases e;rw[z];exact h
  ·rw[ka z]at e;exact b.sub _ _ e,λi hi u e=>by rw[ka (n i hi u e)];exact b.off i hi u e⟩
def Bx.kQ{U H:Hp}{x q:Nat->FQ}{f:Nat->Option HO}(b:Bx U H x f)(h:∀i<9,q i=x i):Bx U H q f:=
 ⟨λi hi o e=>by rw[h i hi];exact b.at_ i hi o e,λi hi j J o O e Y z=>b.inj i hi j J o O e Y (by rw[<-h i hi,<-h j J];exact z),b.sub,λi hi o e=>by rw[h i hi];exact b.off i hi o e⟩
def lQ{H:Hp}:∀{ys:List V}{O:List Int},Paired (λv(_:Int)=>∃q d,v=.ref q/\H q=some (.tup (De.vs d))/\d.ok) ys O->∃J:List De,Paired (λv d=>∃q,v=.ref q/\H q=some (.tup (De.vs d))) ys J/\(∀d∈J,d.ok)/\J.length=O.length:=by
 intro _ _ h;induction h with
 |nil=>exact⟨[],.nil,by grind,rfl⟩
 |cons h r Y=>
  obtain⟨q,d,e,h,ok⟩:=h;obtain⟨J,p,a0,l⟩:=Y;exact⟨d::J,.cons ⟨q,e,h⟩ p,by grind,by grind⟩
def Gb.head{H:Hp}{vs:List V}{x:Str}{ds:List QQ}(h:Gb H vs (.str x::ds)):∃r,vs=.str x::r/\Gb H r ds:=by
 cases h with
 |cons a b=>cases a;exact⟨_,rfl,b⟩
structure WD(g:Gm)(U0:Hp)(y:Nat->FQ)(r DU:FQ)(i:Nat)(rn:Rn)(e:FQ)(Hn U:Hp)(es lv us:List V):Prop where
 bx:Bx U Hn y (fD y r g.ua.length rn.ms lv)
 lk:Paired (vr DU U) lv rn.ms.lk
 ai:ze rn.ms.na
 nd:(rn.ms.ds.map (·.1)).Nodup
 ln:rn.ms.na.length<=i/\rn.ms.ds.length<=i/\lv.length<=i
 uD:U DU=none
 hD:Hn DU=some (.lst us)
 ul:us.length=i
 sU:aa U0 U
 he:U e=some (.tup es)
 iv:Gb (tp U) es rn.en
 Qy:Gb (tp U) us rn.td
def mQ(fs:Dr)(q:List De)(s:Ms):(Sb fs q s).2.length<=4:=by
 unfold Sb;split
 ·next d _=>
  cases d with
  |stop J O=>
   show(if oI J s.na<oI O s.na then([.str "broken",.tuple [.str "own"]]:List QQ)else[.str "go",.int ((s.pl+1:Nat):Int)]).length<=4;split<;>exact Nat.le_of_ble_eq_true rfl
  |_=>exact Nat.le_of_ble_eq_true rfl
 ·exact Nat.le_of_ble_eq_true rfl
def wh(H:Hp)(p q r:FQ):Hp:=λb=>if b=p\/b=q\/b=r then none else vp H b
def Ry{H:Hp}{p q r b:FQ}{o:HO}(e:H b=some o)(J:b≠p)(O:b≠q)(Y:b≠r)(n:∀ps,o≠.Wb ps):wh H p q r b=some o:=by
 unfold wh;rw[Ba (by rintro(z|z|z);exact J z;exact O z;exact Y z)];exact qD e n
def jv{H:Hp}{p q r b:FQ}{o:HO}(e:wh H p q r b=some o):b≠p/\b≠q/\b≠r/\H b=some o/\∀ps,o≠.Wb ps:=by
 unfold wh at e;split at e
 ·cases e
 ·next h=>exact⟨by grind,by grind,by grind,yy e⟩
def nQ{H:Hp}{p q r b:FQ}(e:H b=none):wh H p q r b=none:=by
 cases z:wh H p q r b with
 |none=>rfl
 |some o=>have:=(jv z).2.2.2.1;rw[e]at this;cases this
def oD:Option Int->QQ
 |none=>.none
 |some v=>.int v
def mv{K:W.Frag}{H:Hp}:∀fs:Dr,KD K H (Ka fs) (fs.map λq=>(Sum.inl q.1,oD q.2))
 |[]=>.nil
 |(k,none)::r=>.cons ⟨rfl,.ya⟩ (mv r)
 |(k,some v)::r=>.cons ⟨rfl,.int v⟩ (mv r)
def XD(fs:Dr):∀k∈(Ka fs).map (·.1),∃i:Int,k=Sum.inl i:=λk h=>by
 unfold Ka at h;rw[ag]at h;obtain⟨q,_,rfl⟩:=Fd.mp h;exact⟨q.1,rfl⟩
def oQ(fs:Dr):∀q∈(fs.map λq=>((Sum.inl q.1:Key),oD q.2)),q.2.canLay0=HQ/\q.2.depth<=60:=λq h=>by
 obtain⟨⟨k,o⟩,_,rfl⟩:=Fd.mp h;cases o<;>exact⟨rfl,wc _⟩
def YD{H:Hp}{p:FQ}{ys:List V}{ds:List QQ}(h:Tn H (.ref p) (.list ds))(e:H p=some (.lst ys)):ys.length=ds.length:=by
 cases h with
 |lst h r=>rw[h]at e;cases e;exact r.len
def ZD:∀xs:List V,Paired (λv u=>v=u) xs xs
 |[]=>.nil
 |_::r=>.cons rfl (ZD r)
def Sy{A B H C:Hp}{v:V}(h:zn (off A B) v)(s1:aa H A)(q:aa B C):zn (off H C) v:=by
 obtain⟨l,us,e,z⟩:=h;obtain⟨J,O⟩:=Rh z;exact⟨l,us,e,Ng (uc s1 J) (q _ _ O)⟩
def pQ{T0:List (Int×Int×Int×List Int)}(E:Ek)(h:E.ms.lk=E.lks.map (·.2))(q:E.lks.length<=40):∃ds,xg E=.list ds/\ds.length<=60:=by
 refine⟨_,rfl,?_⟩;split
 ·rw[Na,h,Na];lia
 ·exact wc _
def qQ(E:Ek)(h:E.ms.ds.length<=50):∃ds,uh E=.list ds/\ds.length<=60:=by
 refine⟨_,rfl,?_⟩;split
 ·rw[Na,(mc _).length_eq,Na];lia
 ·exact wc _
--@cc
open Shf
inductive nv(K:W.Frag)(mg:Str->Option EQ)(P0:FQ)(base:NQ)(vs:List V)(H:Hp)(Q:VK)(E:XK):Prop|mk(a:FQ)(ns:List Int)(_:vs=[.ref a])(_:ja K H a (ns.map V.int))(_:ns.length<=63)(_:(∀m∈ns,Builtin.Int.intBits m<=1048576))(_:base.BuiltinsAt mg P0)(_:H P0=some (.Wb #[]))(_:∀H',Q (.bl HQ) H')
def rQ(T:Tx K mg):T.Rx.Ok P w base 14 (nv K mg T.lp base):=by
 refine Qa T.Rx.F λ{_ A _ s}H _ _ E O h=>?_
 ·obtain⟨a,i0,rfl,P1,A2,X7,z5,A5,k⟩:=h;have L3:=yc O;refine⟨_,(oa (Ya 1 (fb T.Hx (DP T) O (va (fb T.bp (gv T) O (ca (pv 0) (va ra))))))
   (oa (Ya 2 (Pa ye (Zb (ca La (ca La (ca La (ca La (va La)))))) (Ta se (fb T.bp (gv T) O (ca (pv 0) (va ra))) ra)))
   (oa (Ya 3 (fb T.Px (NP T) O (ca (pv 0) (Ea 1))))
   (oa (Io 4 ["_law_cell_here"] (by show(rf _).Nodup;decide+kernel) ["_law_base_here"] [1] (Yb (oo ls (pv 0) (Lm ra) (Lm ra))) (Ac 0) nf (fb T.Ix (FP T) O (ca (pv 0) (Ea 1))))
   (oa (Ya 5 (fb T.Ox (MP T) O (ca (pv 3) (va (Nb Ue (by rfl) T.Ye Pe (Ea 4))))))
   (oa (Ya 6 (Hb (va La)))
   (oa (Ya 7 (Zb jf))
   (oa (re me rfl (QE rfl T.Fu (ca ra (va (Ta Ee (Nb Ue (by rfl) T.Ye Pe (Ea 4)) ra)))) (Kd 8)
   (oa (Ya 9 (Hb (va La)))
   (oa (qb (zb Qz (Pa Ab (pv 6) ra) (Hb (ca La (va La))) rfl)
   (oa (Ya 9 (fb T.Mx (LP T) O (ca (pv 5) (Ea 4))))
   (qa (Ya 6 (pv 9))))
   Bb)
   (qa (Ub (Oj Fg qm mm Bo (pv 7) (va (Ta Lz (Hb (ca (pv 8) (va ra))) (pv 9)))))))))
   (oa (Ya 10 (Zb (ca (kg jw (by rfl) T.Eu QS (Ea 3)) (ca (Zb (va (Hb (ca (pv 2) (va (kg kq (by rfl) T.gk Cj (Ea 4))))))) (va (Ta Wz (Zb (va ra)) (Nb Ue (by rfl) T.Ye Pe (Ea 7))))))))
   (oa (Ya 11 (cs T.dL ((bP T).mono (by decide)) O rfl T.UK T.lu.b .nil Mh (ca (Pa ye (pv 10) ra) (va (Pa ye (pv 10) ra)))))
   (oa (qb (PW.pt (ym (zb Fm (Ib (pv 11) T.Va T.Xo.m (nD T) O T.Xo.b (va ra)) La (sb _)) (ym (zb (pA O.units) (Pg (pv 11) T.Va T.Vo.m (mD T) O T.Vo.b) (Zb jf) (sb _)) (fo (zb (wK O.units) (oo ls (pv 10) fq (Lm ra)) (Zb (ca (pv 3) (va (Zb (va (Hb (ca (pv 2) (Ea 4)))))))) (sb _))))))
   (qa (Ha we))
   Bb)
   (oa (Ub (nJ (Pa ye (pv 10) ra)))
   (oa (Ub (lq Fg Bp Fp dt (Pa Ab (Pa ye (Pa ye (pv 10) ra) ra) ra)))
   (oa (Ub (lq Fg Bp Fp dt (Pa ye (pv 10) ra)))
   (oa (Ya 12 (Ib (pv 11) T.Va T.nu.m (UO T) O T.nu.b (va (Pa ye (pv 10) ra))))
   (oa (qb (PW.pt (ym (zb (pA O.units) (Pa ye (pv 10) ra) (Ta Wz (Zb (va ra)) (Nb Ue (by rfl) T.Ye Pe (Ea 7))) (sb _)) (fo (bh (rc (fb T.Je (uk T) O (ca (pv 12) (Ea 7))))))))
   (qa (Ha we))
   Bb)
   (oa (Ub (lq Fg Bp Fp dt (Pa ye (pv 10) ra)))
   (oa (Ub (lq Fg Bp Fp dt (pv 12)))
   (oa (re me rfl (Jv rfl T.Fu (va ra)) (Kd 13)
   (oa (Ya 14 (Pg (pv 11) T.Va T.Vo.m (mD T) O T.Vo.b))
   (oa (qb (PW.pt (ym (bh (rc (fb T.Je (uk T) O (ca (pv 14) (Ea 7))))) (fo (bh (rc (fb T.Qx (hQ T) O (ca (pv 11) (ca (pv 5) (ca (pv 2) (ca (pv 6) (Ea 3)))))))))))
   (qa (Ha we))
   Bb)
   (oa (Ya 15 (Ta ro (Ib (pv 11) T.Va T.yl.m (Fy T) O T.yl.b (va ra)) (Vd ["_law_pair"] [] [] (Yb (Pg (pv 11) T.Va T.zl.m (Gy T) O T.zl.b)) (Ac 0) nf (Pa (ej (K:=K) rfl) (pv 0) ra))))
   (qa (re me rfl (Yb (Ta ro (Zb (ca (pv 14) (ca (Pg (pv 11) T.Va T.Wo.m (HD T) O T.Wo.b) (ca (Ib (pv 11) T.Va T.yl.m (Fy T) O T.yl.b (va ra)) (ca (Pg (pv 11) T.Va T.zl.m (Gy T) O T.zl.b) (va (Pg (pv 11) T.Va T.Yo.m (OD T) O T.Yo.b))))))) (pv 15))) (Kd 16)
   (qa (Ub (lq Fg Bp Fp Vz (pv 16))))))))))
   (qa (Ha we))))))))))))))))))))),?_⟩
  show let M3:TS:=_;let g1:TS:=qe _ _ _;let S0:TS:=ma _ g1;let y1:TS:=ma (lb _ _ _) S0;let N3:TS:=ma _ y1;let O3:TS:=ma (qe _ _ N3) M3;let Q3:TS:=ma _ O3;let R3:TS:=ma _ Q3;let S3:TS:=ma (lb _ _ _) R3;let T3:TS:=ma _ S3;let U3:TS:=ma _ T3;let V3:TS:=ma _ U3;let W3:TS:=ma _ V3;let B2:TS:=ma (lb _ _ _) W3;let X3:TS:=ma _ B2;let Y3:TS:=ma _ X3;let C2:TS:=_;let Z3:TS:=_;let a4:TS:=ma _ Z3;let b4:TS:=ma (lb _ a4 _) C2;let c4:TS:=ma _ b4;let d4:TS:=ma (qe _ _ c4) Y3;let e4:TS:=ma _ d4;let f4:TS:=ma _ e4;let g4:TS:=ma _ f4;let h4:TS:=ma _ g4;let i4:TS:=ma _ h4;let j4:TS:=ma _ i4;ma _ j4 _ _ _
  intros;rename_i M3 g1 S0 y1 N3 O3 Q3 R3 S3 T3 U3 V3 W3 B2 X3 Y3 C2 Z3 a4 b4 c4 d4 e4 f4 g4 h4 i4 j4;have Y7:(64:Nat)<=JQ:=by decide
  have Z7:(200:Nat)<=JQ:=by decide
  have ne:∀{k4:Hp}{a b:FQ}{o:HO},k4 a=none->k4 b=some o->a≠b:=λh0 U0 z=>by rw[z,U0]at h0;cases h0
  refine⟨_,rfl,a,i0,0,rfl,P1,A2,by decide,by decide,λB5=>⟨B5,rfl,λbs a8 s1=>?_⟩⟩;refine⟨Bf,λC5 D5=>?_⟩;refine nw D5 λb8 h1 Q1=>?_
  have D2:=s1.trans h1;refine⟨_,rfl,a,i0,2,rfl,D2.seq P1,A2,by decide,by decide,λl4=>?_⟩;obtain⟨c8,m4⟩:=al (xs:=([.loose,.kept,.make,.watch,.hold]:List Lv).map λl=>V.str (wd l)) (Ni l4 (show(5:Int)≠0 by decide)) (zj l4 (show(0:Int)<5 by decide));obtain⟨l,_,rfl⟩:=Fd.mp (vo m4);refine⟨_,_,rfl,rfl,(by show(0:Int)<5;decide),C5,_,_,_,rfl,rfl,ja.of Q1,m4,?_⟩;refine⟨_,rfl,_,rfl,a,i0,bs,rfl,D2.seq P1,A2,λr fs d8 e8 E5 F5 nd Ad G5=>?_⟩;have n4:=D2.trans E5;obtain⟨ms,H5,f8⟩:∃ms:List Int,vi (i0.map V.int) (some 3) (some 43)=ms.map V.int/\ms.length<=40:=by
   refine⟨(i0.drop (HT.Lb i0.length 0 (some 3))).take (HT.Lb i0.length i0.length (some 43)-HT.Lb i0.length 0 (some 3)),?_,?_⟩
   ·unfold vi;rw[Na,List.map_take,List.map_drop]
   ·rw[vj,Kn];show min (min 43 i0.length-min 3 i0.length) (i0.length-min 3 i0.length)<=40;lia
  refine⟨_,rfl,3,rfl,43,rfl,a,_,rfl,n4.seq P1,λI5 J5=>?_⟩;rw[H5];refine nw J5 λH4 h1 o4=>?_
  have K5:=n4.trans h1;have L5:=h1 _ _ F5;refine⟨I5,rfl,⟨_,ja.of o4⟩,tr (k:=1) (fs:=[some (.int bs)]) (λ_ B v (_:Int)=>∃d0 d,v=.ref d0/\B d0=some (.tup (De.vs d))/\d.ok) (λ_ v (n:Int)=>v=.int n) (λ_ I0⟨d0,d,e,h,ok⟩=>⟨d0,d,e,I0 _ _ h,ok⟩) (λ_ e=>e) ms rfl o4 (Ii _) (by lia) ?_ λdl V0 J0 g8 E2 R1 S1=>?_⟩
  ·rintro n _ V0 M5 v R E2 F2 rfl G2;obtain⟨N5,rfl⟩:=Be.mp F2;exact jd (B:=False) ⟨_,rfl,_,rfl,n,bs,rfl,λp d z1 H2 T1 O5 ok=>G2 _ [_] _ rfl T1 ⟨p,d,rfl,Tf O5,ok⟩⟩
  obtain⟨ua,i1,p4,h8⟩:=lQ S1;have i1:Paired (λv d=>∃d0,v=.ref d0/\V0 d0=some (.tup (De.vs d))) J0 ua:=Paired.ib i1 λ_ _⟨d0,e,h⟩=>⟨d0,e,ql _ _ h⟩
  have P5:=pf i1;have ld:ua.length<=40:=by lia
  let g:Gm:=⟨l,fs,ua⟩
  have G:Gd g:=⟨nd,Ad,G5,p4,ld⟩;have q4:=K5.trans E2;have I2:=E2 _ _ L5;refine⟨_,rfl,_,rfl,_,_,rfl,.inl ⟨_,ja.of R1,rfl⟩,g,r,by rw[P5];rfl,I2,λy z1 T1 i8 r4 s4 t4 bx=>?_⟩;refine⟨jb,λv0 U1=>⟨Oc,λJ J2=>?_⟩⟩;have V1:=bx.more U1 ia (aa.upd (o:=HO.tup [.str "new"]) U1);have j8:=ia (H:=z1) (a:=v0) (o:=HO.tup [.str "new"]);have Q5:=aa.upd (o:=HO.tup [.str "new"]) U1;have K2:=aa.upd (o:=HO.lst []) J2;have u4:=ia (H:=upd z1 v0 (.tup [.str "new"])) (a:=J) (o:=HO.lst []);have z0:=V1.new J2;have v4:=V1.free J2;have N2:=V1.same K2;have A1:aa V0 (upd V0 v0 (.tup [.str "new"])):=aa.upd (uc T1 U1);have w4:upd V0 v0 (.tup [.str "new"]) v0=some (.tup [.str "new"]):=ia;show ma _ _ _ [some (.ref a),some (.int bs),some (.str (wd l)),some (.ref r),some (.ref dl),some (.ref (y 0)),some (.ref v0),some (.ref J),none,none,none,none,none,none,none,none,none] (upd (upd z1 v0 (.tup [.str "new"])) J (.lst []));generalize upd (upd z1 v0 (.tup [.str "new"])) J (.lst [])=R5 at K2 u4 N2⊢;generalize upd V0 v0 (.tup [.str "new"])=W1 at V1 N2 v4 A1 w4;let j0:Nat->FQ:=λi=>if i=9 then J else y i
  have x4:∀i<9,j0 i=y i:=λi hi=>Ba (by lia)
  have z0:∀i<4,j0 i≠J:=λi hi=>by
   rw[x4 i (by lia)];match i,hi with
   |0,_=>exact z0 0 (by decide) _ rfl
   |1,_=>exact z0 1 (by decide) _ rfl
   |2,_=>exact z0 2 (by decide) _ rfl
   |3,_=>exact z0 3 (by decide) _ rfl
  have S5:Bx W1 R5 j0 (fD j0 r g.ua.length ⟨[],[],0,[]⟩ []):=(Bx.kQ N2 x4).nc (Sc rfl rfl rfl rfl rfl rfl rfl rfl rfl);have y4:∀{s:Ms}{lv:List V},∀i<9,∀u,fD j0 r g.ua.length s lv i=some u->j0 i≠J:=λ{s lv}=>Sc (λ_ _=>z0 0 (by decide)) (λ_ _=>z0 1 (by decide)) (λ_ _=>z0 2 (by decide)) (λ_ _=>z0 3 (by decide)) (λ_ z=>by cases z) (λ_ z=>by cases z) (λ_ z=>by cases z) (λ_ z=>by cases z) (λ_ z=>by cases z)
  refine⟨_,rfl,_,_,rfl,.inl ⟨_,ja.of (K2 _ _ (Q5 _ _ (T1 _ _ R1))),rfl⟩,_,_,rfl,rfl,1,(J0.length:Int)+4,rfl,⟨by decide,by decide,by lia,by lia⟩,?_⟩;rw[show((J0.length:Int)+4-1).toNat=ua.length+3 by lia];refine Kv (lo:=1) (n:=ua.length+3) (λi f0 r0=>∃k0 l0 e n0 U lv us,f0=[some (.ref a),some (.int bs),some (.str (wd l)),some (.ref r),some (.ref dl),some (.ref (y 0)),some (.ref e),some (.ref J),k0,l0,none,none,none,none,none,none,none]/\WD g W1 j0 r J i (vb fs ua i) e r0 U n0 lv us) (nx3 none none v0 _ W1 ([]) ([]) ⟨rfl,S5,.nil,(λ_ z=>by cases z),List.nodup_nil,⟨Ra _,Ra _,Ra _⟩,v4,u4,rfl,aa.refl _,w4,.cons (.str _) .nil,.nil⟩) ?_ ?_
  ·rintro i f0 r0 hi⟨k0,l0,e,n0,U,lv,us,rfl,q⟩;rw[show(1:Int)+(i:Int)=((i+1:Nat):Int)by lia];have fin:∀(O2:Se),(∀f0 H k0 l0 e n0 U lv us,f0=[some (.ref a),some (.int bs),some (.str (wd l)),some (.ref r),some (.ref dl),some (.ref (y 0)),some (.ref e),some (.ref J),k0,l0,none,none,none,none,none,none,none]->WD g W1 j0 r J (i+1) (vb fs ua (i+1)) e H U n0 lv us->O2.nx f0 H)->∀(o0 j1:Hp)(s1:Ms)(B1:List V)(h0 K0:FQ)(X1 p0:List V)(P2 Q2:List QQ),aa U o0->Bx o0 j1 j0 (fD j0 r g.ua.length s1 B1)->Paired (vr J o0) B1 s1.lk->ze s1.na->(s1.ds.map (·.1)).Nodup->s1.na.length<=i+1/\s1.ds.length<=i+1/\B1.length<=i+1->o0 J=none->j1 J=some (.lst us)->o0 h0=some (.tup X1)->Gb (tp o0) X1 P2->j1 K0=some (.tup p0)->p0≠[]->p0.length<60->Gb (tp o0) p0 Q2->vb fs ua (i+1)=⟨s1,P2,(vb fs ua i).td++[.tuple (.int ((i+1:Nat):Int)::.int 1::Q2)]⟩->C2 O2 [some (.ref a),some (.int bs),some (.str (wd l)),some (.ref r),some (.ref dl),some (.ref (y 0)),some (.ref h0),some (.ref J),some (.int ((i+1:Nat):Int)),some (.ref K0),none,none,none,none,none,none,none] j1:=by
    intro O2 T5 o0 j1 k8 B1 h0 K0 X1 p0 P2 Q2 Y1 S2 U5 V5 W5 X5 Y5 T2 Z5 a6 b6 c6 l8 d6 C1;have ul:=q.ul;refine⟨_,rfl,.inl ⟨rfl,_,ja.of T2⟩,?_⟩;refine⟨_,rfl,Ma,λe6 f6=>?_⟩;have W0:=aa.upd (o:=HO.tup [V.int ((i+1:Nat):Int),V.int 1]) f6;refine⟨_,rfl,e6,K0,_,p0,rfl,rfl,xa.of ia,xa.of (W0 _ _ b6),(by simp),(by simp;lia),λz=>absurd z c6,λ_ ct Z1=>?_⟩;have A0:=aa.upd (o:=HO.tup ([V.int ((i+1:Nat):Int),V.int 1]++p0)) Z1;have a2:=S2.same W0;have z4:=a2.more Z1 ia A0;have g6:ct≠J:=ne Z1 (W0 _ _ T2);have k1:=aa.upd (o:=HO.tup ([V.int ((i+1:Nat):Int),V.int 1]++p0)) (a2.free Z1);have b2:=He λb us (e:o0 b=some (.tup us))=>k1 _ _ e
    have A4:upd o0 ct (.tup ([V.int ((i+1:Nat):Int),V.int 1]++p0)) ct=some (.tup ([V.int ((i+1:Nat):Int),V.int 1]++p0)):=ia;have U2:upd o0 ct (.tup ([V.int ((i+1:Nat):Int),V.int 1]++p0)) J=none:=by rw[ka g6.symm];exact Y5
    generalize upd o0 ct (.tup ([V.int ((i+1:Nat):Int),V.int 1]++p0))=h6 at z4 k1 b2 A4 U2;refine⟨J,us,.ref ct,rfl,rfl,(W0.trans A0) _ _ T2,by lia,λL0 V2 W2=>T5 _ _ _ _ h0 X1 h6 B1 (us++[.ref ct]) rfl ?_⟩;rw[C1];refine⟨z4.to λi6 o h e=>W2 i6 o (λz=>?_) e,Paired.ib U5 (by rintro _ _⟨t,b0,e,s0,w0,l1⟩;exact⟨t,b0,e,k1 _ _ s0,k1 _ _ w0,l1⟩),V5,W5,X5,U2,V2,by rw[gi,ul];rfl,(q.sU.trans Y1).trans k1,k1 _ _ Z5,a6.same b2,((q.Qy.same (He λ_ _ e=>Y1 _ _ e)).same b2).app (.cons (.tup (Tf A4) (.cons (.int _) (.cons (.int _) (d6.same b2)))) .nil)⟩;rcases h with h|⟨j,j6,X2,h⟩
    ·rw[z,U2]at h;cases h
    ·exact y4 j j6 o h (X2.trans z)
   refine⟨jb,λk6 l6=>?_⟩;refine nw l6 λj1 W0 m6=>?_
   obtain⟨⟨w,m8,B4⟩,_⟩:=Py fs ua i;obtain⟨C1,rfl,_⟩:=Gb.head (B4▸q.iv);have S2:=q.bx.same W0;refine⟨_,rfl,e,_,_,_,rfl,rfl,xa.of (S2.sub _ _ q.he),Ja (j:=0) rfl,Ma,λn6 C4=>?_⟩;have A0:=W0.trans (aa.upd (o:=HO.tup [.str "kept",.str "broken"]) C4);have D4:Kh (.str w) [.str "kept",.str "broken"]=Tc (vb fs ua i).en:=by
    rw[B4];show _=(decide (w="kept")||decide (w="broken"));by_cases s0:w="kept"
    ·subst s0;rfl
    ·by_cases w0:w="broken"
     ·subst w0;rfl
     ·rw[Eg s0,Eg w0];simp[Kh,Nj,ud s0,ud w0]
   refine⟨n6,_,rfl,.inr (xa.of ia),rfl,rfl,_,rfl,bb (λc=>?_) (λc=>?_)⟩
   ·have en:Tc (vb fs ua i).en=IQ:=by
     rw[<-D4];have Y2:(!Kh (.str w) [.str "kept",.str "broken"])=HQ:=c;simpa using Y2
    have o6:=A0 _ _ q.hD;have a2:=Bx.take (q.bx.same A0) o6 y4;have m1:aa U (upd U J (.lst us)):=aa.upd q.uD;obtain⟨E4,c2,d2⟩:=q.ln;refine⟨_,rfl,_,rfl,g,upd U J (.lst us),j0,r,(vb fs ua i).ms,lv,i,dl,J0,rfl,G,⟨a2,m1 _ _ (q.sU _ _ (A1 _ _ I2)),Paired.ib q.lk (by rintro _ _⟨t,b0,e,s0,w0,l1⟩;exact⟨t,b0,e,m1 _ _ s0,m1 _ _ w0,l1⟩),⟨_,ia⟩,q.ai,q.nd,q.ln⟩,by lia,m1 _ _ (q.sU _ _ (A1 _ _ R1)),Paired.ib i1 (by rintro _ _⟨d0,e,h⟩;exact⟨d0,e,m1 _ _ (q.sU _ _ (A1 _ _ h))⟩),λp ps B0 H' p6 F4 X0 H2 Z2=>⟨_,rfl,?_⟩⟩;have G4:B0 J=some (.lst us):=F4 _ _ ia;have a3:∀{b:FQ}{o:HO},B0 b=some o->b≠J->del B0 J b=some o:=λe n=>by rw[Rc n];exact e
    have e2:∀{b:FQ}{xs:List V},B0 b=some (.tup xs)->del B0 J b=some (.tup xs):=λe=>a3 e λz=>by rw[z,G4]at e;cases e
    have ds:aa (del B0 J) B0:=λb o e=>by
     by_cases z:b=J
     ·rw[z,cj]at e;cases e
     ·rw[Rc z]at e;exact e
    obtain⟨f2,n8,q6,_⟩:=VD fs ua (vb fs ua i).ms;have I4:=mQ fs ua (vb fs ua i).ms;have K0:=Z2.len;have Y1:aa U (del B0 J):=λb o e=>a3 (F4 _ _ (m1 _ _ e)) λz=>by rw[z,q.uD]at e;cases e
    refine fin _ ?_ (del B0 J) H' (Sb fs ua (vb fs ua i).ms).1 p6 p p ps ps (Sb fs ua (vb fs ua i).ms).2 (Sb fs ua (vb fs ua i).ms).2 Y1 (X0.bx.less ds) (Paired.ib X0.lks (by rintro _ _⟨t,b0,e,s0,w0,l1⟩;exact⟨t,b0,e,e2 s0,a3 w0 l1,l1⟩)) X0.ai X0.nd X0.ln cj (X0.bx.sub _ _ G4) (e2 H2) (Z2.same (He λ_ _ e=>e2 e)) (X0.bx.sub _ _ H2) (λz=>?_) ?_ (Z2.same (He λ_ _ e=>e2 e)) (by show(if _ then _ else _)=_;rw[Ba (by rw[en];decide)])
    ·exactλf0 H k0 l0 e n0 U lv us h0 U0=>nx3 k0 l0 e n0 U lv us ⟨h0,U0⟩
    ·rw[z]at K0;have:(Sb fs ua (vb fs ua i).ms).2.length=0:=K0.symm;rw[q6]at this;cases this
    ·have:ps.length=(Sb fs ua (vb fs ua i).ms).2.length:=K0;lia
   ·have en:Tc (vb fs ua i).en=HQ:=by
     rw[<-D4];have Y2:¬(!Kh (.str w) [.str "kept",.str "broken"])=HQ:=c;simpa using Y2
    obtain⟨E4,c2,d2⟩:=q.ln;refine fin _ ?_ U _ (vb fs ua i).ms lv e k6 _ _ (vb fs ua i).en [.str "idle"] (aa.refl _) (q.bx.same A0) q.lk q.ai q.nd ⟨by lia,by lia,by lia⟩ q.uD (A0 _ _ q.hD) q.he q.iv (aa.upd C4 _ _ m6) (λz=>by cases z) Ej (.cons (.str _) .nil) (by show(if _ then _ else _)=_;rw[Ca en]);exactλf0 H k0 l0 e n0 U lv us h0 U0=>nx3 k0 l0 e n0 U lv us ⟨h0,U0⟩
  rintro f0 L0⟨k0,l0,e,n0,U,lv,us,rfl,q⟩;have D1:aa V0 L0:=(A1.trans q.sU).trans q.bx.sub;have r6:ua.length+3<45:=by lia
  have g2:=D1 _ _ I2;have b3:=D1 _ _ R1;have s6:=q.hD;refine⟨_,rfl,r,_,rfl,g2,λR c3=>?_⟩;refine nw c3 λo8 h2 t6=>?_
  refine⟨_,rfl,_,rfl,dl,J0,rfl,.inl (ja.of (h2 _ _ b3)),λc0 J4=>?_⟩;refine nw J4 λp8 d3 i2=>?_
  refine⟨Ma,λpt u6=>?_⟩;refine nw u6 λq8 Y0 v6=>?_
  refine⟨jb,λY e3=>?_⟩;refine nw e3 λr8 n1 f3=>?_
  refine⟨jb,λw6 x6=>?_⟩;refine nw x6 λy6 C0 D0=>?_
  have g3:aa L0 y6:=h2.trans (d3.trans (Y0.trans (n1.trans C0)));refine⟨_,rfl,_,_,rfl,.inl ⟨_,ja.of (g3 _ _ s6),rfl⟩,w6,_,_,rfl,rfl,D0,by lia,by rw[q.ul];lia,by rw[q.ul];simp;lia,λon j2=>?_⟩;rw[q.ul,show(List.replicate ((ua.length+3:Nat):Int).toNat [V.int 1]).flatten=List.replicate (ua.length+3) (V.int 1)by rw[rj];simp];refine nw j2 λs8 Z0 z6=>?_
  refine⟨Eb,λg0 h3=>?_⟩;refine nw h3 λe0 o1 x0=>?_
  refine⟨_,rfl,g0,_,_,_,rfl,rfl,ja.of x0,Ja (j:=0) rfl,_,rfl,g0,_,_,_,rfl,rfl,ja.of x0,Ja (j:=1) rfl,λh hx k2 A6 B6=>?_⟩;refine nO k2 A6 B6 λC6 t0 D6=>?_
  have I0:aa L0 e0:=g3.trans (Z0.trans o1);have q0:e0 R=some (.dK (Ka fs)):=(d3.trans (Y0.trans (n1.trans (C0.trans (Z0.trans o1))))) _ _ t6;have y0:e0 c0=some (.lst J0):=(Y0.trans (n1.trans (C0.trans (Z0.trans o1)))) _ _ i2;have M0:e0 pt=some (.tup [.str (wd l),.ref c0]):=(n1.trans (C0.trans (Z0.trans o1))) _ _ v6;have u0:e0 Y=some (.lst [.ref pt]):=(C0.trans (Z0.trans o1)) _ _ f3;have i3:e0 on=some (.lst (List.replicate (ua.length+3) (V.int 1))):=o1 _ _ z6;have E6:aa H C6:=(q4.trans (D1.trans I0)).trans t0;have l2:∀{b:FQ}{o:HO},L0 b=some o->b≠R/\b≠c0/\b≠Y:=λe=>⟨(ne c3 e).symm,(ne J4 (h2 _ _ e)).symm,(ne e3 ((h2.trans (d3.trans Y0)) _ _ e)).symm⟩
  have F6:on≠R:=λz=>by rw[z,q0]at i3;cases i3
  have G6:on≠c0:=ne j2 ((Y0.trans (n1.trans C0)) _ _ i2);have H6:on≠Y:=ne j2 (C0 _ _ f3);have m2:g0≠R:=λz=>by rw[z,q0]at x0;cases x0
  have j3:g0≠c0:=ne h3 ((Y0.trans (n1.trans (C0.trans Z0))) _ _ i2);have K4:g0≠Y:=ne h3 ((C0.trans Z0) _ _ f3);have k3:Y≠R:=λz=>by rw[z,q0]at u0;cases u0
  have L4:Y≠c0:=ne e3 (Y0 _ _ i2);have M4:c0≠R:=λz=>by rw[z,q0]at y0;cases y0
  have I6:R≠r:=ne c3 g2;refine⟨g,h,hx,R,Y,pt,c0,J0,rfl,G,D6,t0 _ _ q0,t0 _ _ u0,t0 _ _ M0,t0 _ _ y0,Paired.ib i1 (by rintro _ _⟨d0,e,z⟩;exact⟨d0,e,((D1.trans I0).trans t0) _ _ z⟩),E6 _ _ A5,?_⟩;rintro E1 x c ex⟨t8,N4⟩hz but;refine⟨rfl,?_⟩;subst ex;have F1:∀{b:FQ}{o:HO},e0 b=some o->E1 b=some o:=λe=>but _ _ (λz=>by rw[z,k2]at e;cases e) (t0 _ _ e)
  show B2 _ [some (.ref a),some (.int bs),some (.str (wd l)),some (.ref r),some (.ref dl),some (.ref (y 0)),some (.ref e),some (.ref J),k0,l0,some (.ref g0),some (.ref (x 0)),none,none,none,none,none] E1;have N0:=N4.bx;refine⟨_,rfl,x 0,c.hx,_,rfl,N0.get 0 rfl,rfl,x 0,c.hx,c.dl,x 3,c.ax,Oe c x c.sp 0,Wd c x yD,rfl,N0.get 0 rfl,rfl,N0.sub _ _ N4.cf.dls,N0.get 3 rfl,rfl,_,rfl,bb (λz=>absurd z (by show¬(!decide (V.str "new"=V.str "new"))=HQ;simp)) (λ_=>?_)⟩;refine⟨_,rfl,x 0,c.hx,_,rfl,N0.get 0 rfl,rfl,x 0,c.hx,x 2,Oe c x c.sp 0,[],rfl,N0.get 0 rfl,rfl,N0.get 2 rfl,λJ6 K6=>?_⟩;refine⟨Oc,λl3 O4=>⟨.list [],.list [],.lst (ja.of (aa.upd O4 _ _ ia)) .nil,.lst (ja.of ia) .nil,by decide,by decide,_,rfl,?_⟩⟩;have m3:=(aa.upd (o:=HO.lst []) K6).trans (aa.upd (o:=HO.lst []) O4);generalize upd (upd E1 J6 (.lst [])) l3 (.lst [])=L6 at m3⊢;refine zc (A:=False) ?_;have n2:∀{b:FQ}{o:HO},e0 b=some o->L6 b=some o:=λe=>m3 _ _ (F1 e)
  refine⟨_,rfl,2,rfl,g0,_,rfl,ja.of (n2 x0),λI4 M6=>?_⟩;rw[show vi [V.ref R,V.ref Y,V.ref on] none (some 2)=[.ref R,.ref Y]from rfl];refine nw M6 λu8 o2 N6=>?_
  refine⟨_,rfl,_,rfl,_,rfl,Ma,λA0 P4=>?_⟩;refine nw P4 λv8 Q4 O6=>?_
  refine⟨jb,λc2 R4=>?_⟩;refine nw R4 λw8 S4 P6=>?_
  refine⟨Ma,λd2 Q6=>?_⟩;refine nw Q6 λG1 n3 R6=>?_
  have o3:=Q4.trans (S4.trans n3);have F0:∀{b:FQ}{o:HO},e0 b=some o->G1 b=some o:=λe=>o3 _ _ (o2 _ _ (n2 e))
  refine⟨I4,d2,R,r,Y,c2,pt,A0,c0,dl,Ka fs,Ka fs,_,wd l,J0,rfl,rfl,ja.of (o3 _ _ N6),ja.of R6,ja.of (F0 u0),ja.of (n3 _ _ P6),xa.of (F0 M0),xa.of ((S4.trans n3) _ _ O6),ja.of (F0 y0),ja.of (F0 (I0 _ _ b3)),λv hv=>?_,I6,?_,?_,?_,.inl (F0 q0),.inl (F0 (I0 _ _ g2)),XD fs,XD fs,mv fs,mv fs,oQ fs,_,rfl,zc ?_⟩
  ·obtain⟨_,_,d0,rfl,_⟩:=jl i1 hv;exact⟨d0,rfl⟩
  ·exactλz=>by have:=(Q4.trans (aa.refl _)) _ _ (o2 _ _ (n2 u0));rw[z,R4]at this;cases this
  ·exactλz=>by have:=o2 _ _ (n2 M0);rw[z,P4]at this;cases this
  ·exact(l2 b3).2.1.symm
  have S6:aa E1 G1:=m3.trans (o2.trans o3);refine⟨_,rfl,g0,_,_,_,rfl,rfl,ja.of (F0 x0),Ja (j:=0) rfl,R,_,rfl,.inl (F0 q0),λo u z=>?_,?_⟩
  ·have:=(q4.trans (D1.trans I0)) _ _ z;rw[q0]at this;cases this
  have p3:∀{b:FQ}{o:HO},b≠R->G1 b=some o->upd G1 R (.dK []) b=some o:=λn e=>by rw[ka n];exact e
  generalize upd G1 R (.dK [])=T6 at p3⊢;have O0:∀{b:FQ}{o:HO},b≠R->e0 b=some o->T6 b=some o:=λn e=>p3 n (F0 e)
  have U6:pt≠R:=λz=>by rw[z,q0]at M0;cases M0
  have x8:pt≠c0:=λz=>by rw[z,y0]at M0;cases M0
  refine⟨_,rfl,g0,_,_,_,rfl,rfl,ja.of (O0 m2 x0),Ja (j:=1) rfl,Y,_,_,_,rfl,rfl,ja.of (O0 k3 u0),Ja (j:=0) rfl,pt,_,_,_,rfl,rfl,xa.of (O0 U6 M0),Ja (j:=1) rfl,.inl ⟨rfl,_,ja.of (O0 M4 y0)⟩,c0,_,rfl,rfl,O0 M4 y0,λy8 p2=>?_⟩;refine⟨_,rfl,g0,_,_,_,rfl,rfl,ja.of (p2 _ _ j3 (O0 m2 x0)),Ja (j:=1) rfl,.inl ⟨rfl,_,ja.of (p2 _ _ L4 (O0 k3 u0))⟩,Y,_,rfl,rfl,p2 _ _ L4 (O0 k3 u0),λT4 V6=>?_⟩;have q3:∀{b:FQ}{o:HO},b≠R->b≠c0->b≠Y->E1 b=some o->T4 b=some o:=λr4 s4 t4 e=>V6 _ _ t4 (p2 _ _ s4 (p3 r4 (S6 _ _ e)))
  have W6:wh e0 R c0 Y (x 0)=none:=nQ k2;have U4:=hz (wh e0 R c0 Y) (λb o e=>t0 _ _ (jv e).2.2.2.1) W6 (λb ps z=>(jv z).2.2.2.2 ps rfl) T4 (λb o hc e=>by
   refine q3 ?_ ?_ ?_ e;all_goals
    rintro rfl;have p1:=e;rcases hc with hc|⟨u,hc⟩|hc
    ·first|(rw[t0 _ _ q0]at hc;cases hc)|(rw[t0 _ _ y0]at hc;cases hc)|(rw[t0 _ _ u0]at hc;cases hc)
    ·have:=jv hc;first|exact this.1 rfl|exact this.2.1 rfl|exact this.2.2.1 rfl
    ·first|(rw[F1 q0]at p1;cases p1;exact hc (.inr ⟨_,rfl⟩))|(rw[F1 y0]at p1;cases p1;exact hc (.inl ⟨_,rfl⟩))|(rw[F1 u0]at p1;cases p1;exact hc (.inl ⟨_,rfl⟩)))
  have nx:∀{b:FQ}{o:HO},e0 b=some o->x 0≠b:=λe=>ne k2 e
  have a1:wh e0 R c0 Y on=some (.lst (List.replicate (ua.length+3) (V.int 1))):=Ry i3 F6 G6 H6 λ_ z=>HO.noConfusion z
  have r3:wh e0 R c0 Y g0=some (.lst [.ref R,.ref Y,.ref on]):=Ry x0 m2 j3 K4 λ_ z=>HO.noConfusion z
  have q1:∀{b:FQ}{o:HO},L0 b=some o->(∀ps,o≠.Wb ps)->wh e0 R c0 Y b=some o:=λe n=>Ry (I0 _ _ e) (l2 e).1 (l2 e).2.1 (l2 e).2.2 n
  have X6:∀{b:FQ}{o:HO},L0 b=some o->b≠on:=λe=>(ne j2 (g3 _ _ e)).symm
  refine⟨_,rfl,x 0,c.hx,_,rfl,q3 (nx q0) (nx y0) (nx u0) (N0.get 0 rfl),rfl,_,rfl,g0,_,_,_,rfl,rfl,ja.of (q3 m2 j3 K4 (F1 x0)),Ja (j:=2) rfl,g,wh e0 R c0 Y,x,c,ua.length+3,on,rfl,z5,G,r6,a1,U4,λp tv H1 a0 s3 Y6 t3 Z6 V4=>?_⟩;generalize wh e0 R c0 Y=u3 at a1 r3 q1 V4 s3;rw[<-Y6 0 (by decide)];have a7:Tc (vb fs ua (ua.length+3)).en=HQ:=by
   cases z:Tc (vb fs ua (ua.length+3)).en with
   |true=>rfl
   |false=>have:=Ay (fs:=fs) p4 (ua.length+3) z;lia
  obtain⟨_,G0,E,W4,X4,b7,_,_,c7⟩:=(s3 (del H1 p) λb o n e=>by rw[Rc n];exact e).resolve_left λz=>by rw[show Tc (vb g.fs g.ua (ua.length+3)).en=HQ from a7]at z;cases z.1
  have d7:∀{b:FQ}{o:HO},G0 b=some o->b≠p/\H1 b=some o:=λ{b o}e=>by
   have:=X4.bx.sub _ _ e;by_cases z:b=p
   ·rw[z,cj]at this;cases this
   ·rw[Rc z]at this;exact⟨z,this⟩
  have H0:∀{b:FQ}{o:HO},u3 b=some o->H1 b=some o:=λe=>(d7 (W4 _ _ e)).2
  have e7:(vb g.fs g.ua (ua.length+3)).td=(vb fs ua (ua.length+3)).td:=rfl;have Y4:aa (tp U) (tp u3):=He λb us e=>q1 (q.bx.sub _ _ e) λ_ z=>HO.noConfusion z
  have q2:Tn H1 (.ref J) (.list (vb fs ua (ua.length+3)).td):=.lst (H0 (q1 q.hD λ_ z=>HO.noConfusion z)) ((q.Qy.same Y4).same λb o e=>H0 (ql _ _ e));have Z4:Tn H1 (.ref p) (.list (vb fs ua (ua.length+3)).td):=.lst t3 (Z6.same ql);have z8:=(Py fs ua (ua.length+3)).2;have a5:∀{b:FQ}{o:HO},u3 b=some o->b≠p:=λe z=>by rw[z,V4]at e;cases e
  refine⟨_,rfl,g0,_,_,_,rfl,rfl,ja.of (H0 r3),Ja (j:=2) rfl,jb,λs0 f7=>?_⟩;refine nw f7 λA8 v3 b5=>?_
  refine⟨_,rfl,_,_,rfl,.inl ⟨_,ja.of (v3 _ _ (H0 (q1 q.hD λ_ z=>HO.noConfusion z))),rfl⟩,s0,_,_,rfl,rfl,b5,by lia,by rw[q.ul];lia,by rw[q.ul];simp;lia,λw0 g7=>?_⟩;rw[q.ul,show(List.replicate ((ua.length+3:Nat):Int).toNat [V.int 1]).flatten=List.replicate (ua.length+3) (V.int 1)by rw[rj];simp];refine nw g7 λB8 h1 c5=>?_
  have I1:=v3.trans h1;have C1:List.replicate (ua.length+3) (V.int 1)=(List.replicate (ua.length+3) (1:Int)).map V.int:=by rw[List.map_replicate]
  refine⟨_,_,.lst (ja.of (I1 _ _ (H0 a1))) (C1▸Iw _),.lst (ja.of c5) (C1▸Iw _),bB _,bB _,_,rfl,bb (λz=>absurd z (by rw[WH];simp)) (λ_=>?_)⟩;refine⟨_,rfl,_,rfl,.ref p,.ref J,.list (vb fs ua (ua.length+3)).td,rfl,Z4.same I1,q2.same I1,by show PyData.depthAll _+1<7;lia,λC8 d5=>⟨_,rfl,zc ?_⟩⟩;have Q0:=I1.trans d5;refine⟨_,rfl,g0,_,_,_,rfl,rfl,ja.of (Q0 _ _ (H0 r3)),Ja (j:=2) rfl,.inl ⟨rfl,_,ja.of (Q0 _ _ (H0 a1))⟩,on,_,rfl,rfl,Q0 _ _ (H0 a1),λD8 J1=>?_⟩;have e5:p≠on:=(a5 a1).symm;refine⟨_,rfl,.inl ⟨rfl,_,ja.of (J1 _ _ e5 (Q0 _ _ t3))⟩,p,_,rfl,rfl,J1 _ _ e5 (Q0 _ _ t3),λr1 w3=>?_⟩;have t1:Xf T g (del G0 on) r1 a0 c E:=X4.clear (k:=ua.length+1) (W4 _ _ a1) λb o n e=>by
   by_cases z:b=p
   ·rw[z,cj]at e;cases e
   ·rw[Rc z]at e;exact w3 _ _ z (J1 _ _ n (Q0 _ _ e))
  have u1:∀{b:FQ}{o:HO},L0 b=some o->(∀ps,o≠.Wb ps)->r1 b=some o:=λe n=>w3 _ _ (a5 (q1 e n)) (J1 _ _ (X6 e) (Q0 _ _ (H0 (q1 e n))))
  have r2:∀{b:FQ}{o:HO},U b=some o->(∀ps,o≠.Wb ps)->r1 b=some o:=λe n=>u1 (q.bx.sub _ _ e) n
  clear J1 w3 Q0 d5 I1 c5 b5 v3 s3 q2 Z4 Y4 U4;have h7:aa (tp U) r1:=λb o e=>by
   obtain⟨us,rfl,z⟩:=Jq e;exact r2 z λ_ z=>HO.noConfusion z
  have q2:Tn r1 (.ref J) (.list (vb fs ua (ua.length+3)).td):=.lst (u1 q.hD λ_ z=>HO.noConfusion z) (q.Qy.same h7);refine⟨2,rfl,by decide,by decide,Kv (lo:=0) (n:=2) (λi f0 r0=>∃x3 D0 b1 d1,f0=[some (.ref a),some (.int bs),some (.str (wd l)),some (.ref r),some (.ref dl),some (.ref (y 0)),some (.ref e),some (.ref J),k0,l0,some (.ref g0),some (.ref (a0 0)),some (.ref p),x3,D0,b1,d1]/\aa r1 r0) (nx19 none none none none rfl (aa.refl _)) ?_ ?_⟩
  ·rintro i f0 r0 hi⟨x3,D0,b1,d1,rfl,K1⟩;have e1:=t1.same K1;refine⟨_,rfl,a0 0,c.hx,_,rfl,e1.bx.get 0 rfl,rfl,a0 0,c.hx,a0 2,Oe c a0 E.sp E.st,E.tv,rfl,e1.bx.get 0 rfl,rfl,e1.bx.get 2 rfl,λs2 f5=>?_⟩;refine nw f5 λi7 y3 g5=>?_
   have j7:Tn i7 (.ref s2) (.list (vb fs ua (ua.length+3)).td):=.lst g5 (by
    rw[<-e7,<-b7];exact(e1.tld.same ql).same ((e1.same y3).bx.sub))
   refine⟨_,rfl,_,rfl,.ref s2,.ref J,.list (vb fs ua (ua.length+3)).td,rfl,j7,(q2.same K1).same y3,by show PyData.depthAll _+1<7;lia,λE8 h5=>⟨_,rfl,zc ?_⟩⟩;have i5:=y3.trans h5;have R0:=K1.trans i5;obtain⟨E4,c2,d2⟩:=q.ln;refine⟨_,rfl,_,rfl,_,rfl,_,rfl,_,rfl,g,del G0 on,a0,j0,c,E,(vb fs ua (ua.length+3)).ms,lv,n0,r,e,(vb fs ua (ua.length+3)).ms.pl,rfl,G,t1.same R0,R0 _ _ (u1 (q.bx.get 0 rfl) λ_ z=>HO.noConfusion z),R0 _ _ (u1 (q.bx.get 2 rfl) λ_ z=>HO.noConfusion z),R0 _ _ (u1 (q.bx.get 3 rfl) λ_ z=>HO.noConfusion z),Paired.ib q.lk (by rintro _ _⟨t,b0,e,V2,W2,k7⟩;exact⟨t,b0,e,R0 _ _ (r2 V2 λ_ z=>HO.noConfusion z),R0 _ _ (r2 W2 λ_ z=>HO.noConfusion z),k7⟩),q.nd,by lia,by lia,R0 _ _ (u1 g2 λ_ z=>HO.noConfusion z),R0 _ _ (r2 q.he λ_ z=>HO.noConfusion z),?_,λF8 j5=>⟨_,rfl,zc ?_⟩⟩
   ·rcases c7 with⟨h0,U0,z3⟩|⟨h0,z3⟩
    ·obtain⟨l7,rfl,A3⟩:=Gb.head (show Gb (tp U) n0 (.str "kept"::[.tuple (Lf E.ms.ds)])from z3▸q.iv);cases A3 with
     |cons a b=>cases b;exact .inl ⟨h0,U0,_,rfl⟩
    ·obtain⟨l7,rfl,A3⟩:=Gb.head (show Gb (tp U) n0 (.str "broken"::[.tuple [.str "own"]])from z3▸q.iv);cases A3 with
     |cons a b=>cases b;exact .inr ⟨h0,_,rfl⟩
   have B3:=i5.trans j5;have C3:=e1.same B3;have m7:E.lks.length<=40:=by have:=pf t1.lks;have:=t1.ln.2.1;lia
   obtain⟨n7,o7,p7⟩:=pQ (T0:=[]) E t1.qh m7;obtain⟨q7,r7,s7⟩:=qQ E t1.ln.1;refine⟨_,rfl,a0 0,c.hx,_,rfl,C3.bx.get 0 rfl,rfl,g,del G0 on,a0,c,E,rfl,G,C3,λpl ys k5 G8 D3 l5 t7 l3=>?_⟩;have m5:=C3.same D3;refine⟨_,rfl,a0 0,c.hx,_,rfl,m5.bx.get 0 rfl,rfl,g,del G0 on,a0,c,E,rfl,G,m5,λn5 E3 o5 H8 t2 F3 I8 u7=>⟨n5,rfl,⟨_,ja.of F3⟩,?_⟩⟩;have J8:ys.length<=60:=by rw[YD (show Tn k5 (.ref pl) (.list n7)from o7▸(show Tn k5 (.ref pl) (xg E)from t7)) l5];exact p7
   have K8:E3.length<=60:=by rw[YD (show Tn o5 (.ref n5) (.list q7)from r7▸‹_›) F3];exact s7
   have p5:=B3.trans D3;refine tr (k:=1) (fs:=[]) (λ_ _ v (_:V)=>zn (off r0 o5) v) (λ_ v (u:V)=>v=u) (λ_ _ h=>h) (λ_ e=>e) E3 rfl F3 (ZD E3) (by lia) ?_ λv7 w7 u2 L8 f1 x7 S1=>?_
   ·rintro u L3 w7 M5 v M8 f1 F2 rfl G2;obtain⟨N5,rfl⟩:=Be.mp F2;obtain⟨t,y7,q5,rfl,z7,b0,v1,rfl,A7⟩:=u7 v L3;obtain⟨B7,C7⟩:=Rh A7;exact jd (B:=False) ⟨_,rfl,t,_,_,_,rfl,rfl,xa.of (f1 _ _ (Rh z7).2),Ja (j:=1) rfl,G2 _ [_] _ rfl (aa.refl _) ⟨b0,v1,rfl,Ng (uc p5 B7) C7⟩⟩
   have N8:=pf S1;refine⟨pl,v7,ys,u2,rfl,rfl,(t2.trans f1) _ _ l5,x7,by lia,λD7 E7=>?_⟩;refine nw E7 λF7 v2 G7=>?_
   have H7:∀v∈ys++u2,zn (off r0 F7) v:=λv hv=>by
    rcases Ah.mp hv with hv|hv
    ·exact Sy (l3 v hv) B3 (t2.trans (f1.trans v2))
    ·obtain⟨_,_,z⟩:=jl S1 hv;exact Sy z (aa.refl _) (f1.trans v2)
   have w1:=p5.trans (t2.trans (f1.trans v2));have G3:=e1.same w1;refine⟨_,rfl,_,rfl,a0 0,c.hx,_,rfl,G3.bx.get 0 rfl,rfl,g,del G0 on,a0,c,E,rfl,G,G3,λr5 y7 O8 I7 L1 J7 _ _=>?_⟩;have H3:=G3.same L1;refine⟨_,rfl,a0 0,c.hx,_,rfl,H3.bx.get 0 rfl,rfl,g,del G0 on,a0,c,E,rfl,G,H3,λs5 P8 Q8 K7 M1 L7 _ _=>?_⟩;have I3:=H3.same M1;refine⟨_,rfl,a0 0,c.hx,_,rfl,I3.bx.get 0 rfl,rfl,g,del G0 on,a0,c,E,rfl,G,I3,λt5 R8 S8 M7 N1 N7 _ _=>?_⟩;have u5:=I3.same N1;refine⟨_,rfl,a0 0,c.hx,_,rfl,u5.bx.get 0 rfl,rfl,g,del G0 on,a0,c,E,rfl,G,u5,λv5 T8 U8 O7 w2 P7 _ _=>?_⟩;refine⟨Bf,λQ7 R7=>?_⟩;refine nw R7 λS7 O1 T7=>?_
   have x2:=L1.trans (M1.trans (N1.trans (w2.trans O1)));refine⟨_,rfl,Q7,D7,_,_,rfl,rfl,T7,x2 _ _ G7,by simp;lia,λy2 J3=>?_⟩;have w5:∀v∈[V.ref s2,.ref r5,.ref s5,.ref t5,.ref v5]++(ys++u2),zn (off r0 S7) v:=λv hv=>by
    rcases Ah.mp hv with hv|hv
    ·simp only[Mb,Tg,Vg]at hv;rcases hv with rfl|rfl|rfl|rfl|rfl
     ·exact⟨_,_,rfl,Ng f5 ((h5.trans (j5.trans (D3.trans (t2.trans (f1.trans (v2.trans x2)))))) _ _ g5)⟩
     ·exact⟨_,_,rfl,Ng (uc w1 I7) ((M1.trans (N1.trans (w2.trans O1))) _ _ J7)⟩
     ·exact⟨_,_,rfl,Ng (uc (w1.trans L1) K7) ((N1.trans (w2.trans O1)) _ _ L7)⟩
     ·exact⟨_,_,rfl,Ng (uc (w1.trans (L1.trans M1)) M7) ((w2.trans O1) _ _ N7)⟩
     ·exact⟨_,_,rfl,Ng (uc (w1.trans (L1.trans (M1.trans N1))) O7) (O1 _ _ P7)⟩
    ·exact Sy (H7 v hv) (aa.refl _) x2
   generalize[V.ref s2,.ref r5,.ref s5,.ref t5,.ref v5]++(ys++u2)=z2 at w5 J3⊢;have x5:=aa.upd (o:=HO.lst z2) J3;have U7:=w1.trans (x2.trans x5);refine⟨y2,rfl,⟨_,ja.of ia⟩,eh (K:=K) (a:=y2) (xs:=z2) (λ_ f0 x1=>∃D0 b1 d1,f0=[some (.ref a),some (.int bs),some (.str (wd l)),some (.ref r),some (.ref dl),some (.ref (y 0)),some (.ref e),some (.ref J),k0,l0,some (.ref g0),some (.ref (a0 0)),some (.ref p),some (.int (0+(i:Int))),D0,b1,d1]/\aa r0 x1/\x1 y2=some (.lst z2)/\∀v∈z2,∃b0 v1,v=.ref b0/\r0 b0=none/\b0≠y2/\x1 b0=some (.lst v1)) (nx2 _ _ _ rfl U7 ia λv hv=>?_) (by rintro _ f0 x1 _⟨_,_,_,_,_,z,_⟩;exact ja.of z) ?_ ?_⟩
   ·obtain⟨b0,v1,X2,z⟩:=w5 v hv;obtain⟨g1,S0⟩:=Rh z;exact nx11 b0 v1 X2 g1 ((ne J3 S0).symm) (x5 _ _ S0)
   ·rintro j v f0 x1 hv⟨D0,b1,d1,rfl,f2,hx,all⟩;obtain⟨b0,v1,rfl,g1,S0,y1⟩:=all v (Cg hv);refine⟨_,rfl,.inl ⟨rfl,_,ja.of y1⟩,b0,_,rfl,rfl,y1,_,_,_,rfl,λb o e=>?_,?_,λq5 V7=>?_⟩
    ·rw[ka λz=>by rw[z,g1]at e;cases e];exact f2 _ _ e
    ·rw[ka S0.symm];exact hx
    ·obtain⟨K3,us2,rfl,y5,Q1,W7⟩:=all q5 V7;by_cases d0:K3=b0
     ·exact nx11 K3 ([]) rfl y5 Q1 (by rw[d0,ia])
     ·exact nx11 K3 us2 rfl y5 Q1 (by rw[ka d0];exact W7)
   ·rintro f0 x1⟨D0,b1,d1,rfl,f2,_⟩;exact nx19 _ _ _ _ rfl (K1.trans f2)
  ·rintro f0 r0⟨x3,D0,b1,d1,rfl,K1⟩;exact k _
end
abbrev sQ(a b:Str)(t:gR):=W.fnOf a b (xi t) (Qf t) (ic t) .none
open PySem.W in
def all_mk{l:OpenLaw}{w:PQ}{K:yS}{h:NQ}{mg:Str->Option EQ}{b0:FQ}(X:K.In h)(G:h.Ns WQ mg)(i0:mg "law"=some (.ref b0))
  (j0:Ty K mg)
  {c0:List FQ}{q J:FQ}{k0:Option FQ}{d0:Array EQ}{l0:Array (Option EQ)}
  {O:FQ}{n0 o0:Option FQ}{p0:Array (Option EQ)}{q0 r0 s0 t0 u0:EQ}
  (v0:nsIn K WQ "closing"=some (some (.ref O)))(e0:K.lookup O=some ⟨q0,n0,.func (Lw.sQ "closing" "closing" Lq r0 s0 t0 o0 (.ref q) u0),p0⟩)(f0:codeIn K (.ref q) "closing"=HQ)(g0:rS K (.ref O)=HQ)
  (C0:K.lookup q=some ⟨.type "code",k0,.fields d0,l0⟩)
  (D0:(d0[11]?:Option EQ)=some (.ref J))
  (h0:codeHdIn K q J=HQ)
  (w0:K.lookup J=none)
  (x0:J∈c0)
  :∃(Y:XQ)(y0 P0:FQ),(∀(s:GQ)(v:EQ),WR s Y ⟨[v],[]⟩ [("_law_script",v)])/\P0∈c0/\K.lookup P0=none/\codeHdIn K y0 P0=HQ/\∀base:NQ,K.In base->base.Ns WQ mg->Kb l.prog w K mg base Qc 14 b0 Y ["_law_script"] (nv K mg P0 base):=by
 obtain⟨T,a0⟩:∃T:Tx K mg,T.lp=J:=⟨⟨j0,O,_,Ds (st:=Lq) e0 f0 g0,(Ds (st:=Lq) e0 f0 g0).binds (ps:=["kept","new"]) λ_ _ _ _ _ _ us z0=>by obtain⟨_,_,rfl⟩:=us2 z0;rfl,mg_of X G v0,q,J,rfl,h0⟩,rfl⟩;obtain⟨Y,A0,B0⟩:=T.Rx.jK i0 (λ_ _ _ _ _ _ _=>rfl) λbase=>rQ T
 exact nx8 Y q T.lp A0 (a0▸x0) (a0▸w0) (a0▸h0) B0
def walk{l:W.OpenLaw}{a0:MQ}{b0:List Str}{c0:(Str->Option EQ)->NQ->Prop}{q:PQ->NQ->Prop}{d:DefRec}{K:Params->W.Frag}{J:List FQ}(d0:l.most=some 63)(e0:d.params.defaults=[])
  (f0:∀(w:PQ)(h:NQ),q w h->(K w.params).In h/\∀P∈J,h.get? P=some (W.tabObj #[]))
  (F:∀(w:PQ)(mg:Str->Option EQ)(O:FQ)(h:NQ),(K w.params).In h->h.Ns WQ mg->mg d.name=some (.ref O)->
   ∃(Y:XQ)(g0 P0:FQ),(∀(s:GQ)(u:EQ),WR s Y ⟨[u],[]⟩ [("_law_script",u)])/\P0∈J/\(K w.params).lookup P0=none/\W.codeHdIn (K w.params) g0 P0=HQ/\∀base:NQ,(K w.params).In base->base.Ns WQ mg->Kb l.prog w (K w.params) mg base Qc 14 O Y ["_law_script"] (nv (K w.params) mg P0 base)):
  W.WalkO a0 b0 c0 q l.row.toRowW d [] (λf vs=>PySem.call f vs):=
 My.rJ (n:=63) (k:=14) (x:="_law_script") (CX:=λ_=>Qc) (sp:=λw mg P0 base=>nv (K w.params) mg P0 base) d0 (by decide) e0 ⟨rfl,by decide,by decide⟩ f0 F (λ_ _ _ _ _ a h0 i0 j0 k0 l0 n0=>⟨a,h0,rfl,n0,i0,j0,k0,l0,λ_=>rfl⟩) λ_ _ _ _ _ z=>z
end Lw
open PySem PySem.W PyProof.Rows
set_option maxRecDepth 100000 in
set_option maxHeartbeats 0 in
theorem PySem.Challenge.cw_skewhouse_k42_one_dealing_by_itself_holds : PySem.Challenge.rw_skewhouse_k42_one_dealing_by_itself.Holds := by
 refine hd ?_
 k_fill
 refine Lw.walk (l:=PySem.Challenge.rw_skewhouse_k42_one_dealing_by_itself) rfl rfl (λw h Y=>⟨PySem.W.km_in_of Y,PySem.W.km_tabs_of Y⟩) ?F;case F=>
  intro w mg fa h KX G hmg;refine' Lw.all_mk KX G hmg (Lw.Ty.mk ..) ..;any_goals first|k_is|(apply mg_of KX G;k_is)|(apply mg_none_of KX G;k_is)|(apply My.f2q KX G<;>first|k_is|(intro _ _ _ _ _ _ us hl;first|(obtain⟨_,rfl⟩:=My.us1 hl;rfl)|(obtain⟨_,_,rfl⟩:=My.us2 hl;rfl)|(obtain⟨_,_,_,rfl⟩:=My.us3 hl;rfl)|(obtain⟨_,_,_,_,rfl⟩:=My.us4 hl;rfl)|(obtain⟨_,_,_,_,_,rfl⟩:=My.us5 hl;rfl)|(obtain⟨_,_,_,_,_,_,_,rfl⟩:=My.us7 hl;rfl)))|(apply My.e7r<;>k_is)|(apply My.f1t<;>first|k_is|(intro _ _ _ _ _ _ us hl;first|(obtain⟨_,rfl⟩:=My.us1 hl;rfl)|(obtain⟨_,_,rfl⟩:=My.us2 hl;rfl)|(obtain⟨_,_,_,rfl⟩:=My.us3 hl;rfl)|(obtain⟨_,_,_,_,rfl⟩:=My.us4 hl;rfl)|(obtain⟨_,_,_,_,_,rfl⟩:=My.us5 hl;rfl)|(obtain⟨_,_,_,_,_,_,_,rfl⟩:=My.us7 hl;rfl)))|(apply My.f2n<;>k_is)|(apply L2.Cls.mk<;>k_is)|(apply My.e5x<;>k_is)|(exact⟨mg_of KX G (by k_is),by k_exc⟩)|(apply My.e4r.mk (mg_of KX G (by k_is))<;>k_is)|(apply My.e3a.mk<;>k_is)|(apply My.f0m<;>first|k_is|k_exc)|(apply My.e3s<;>first|k_is|k_exc)|(apply My.f3k.mk<;>first|k_is|decide+kernel)|(apply My.e7n;k_is;decide;repeat first|exact .nil|refine .cons ⟨_,rfl⟩ ?_|refine .cons rfl ?_)|(with_unfolding_all rfl)|kernel_rfl|decide|simp
