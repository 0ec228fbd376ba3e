import PyProof.Rows.All
import KE.OsHead
import OpenK.KMore
import OpenK.KMake
import OpenK.KLine
import KE.KTurns
import KE.KDictSum
import KE.KDictOf
import KE.KDictList
import KE.KRevIter
import Wide.BytesRules
import Open.FastLooks
import Open.Pieces
import Open.SpecLaws
import PyProof.EqAt
import PySem.SetOps
import PyProof.ZipIter
import PyProof.TupleCall
import PyProof.SetRoads
import PyProof.ListRange
import PyProof.ListMulRoad
import PyProof.EqKinds
import PyProof.EnumMake
import PyProof.Draws
import PyProof.DictIter
import PyProof.CollectWalk
import PyProof.AutoSeq1
import VbcuafSpec
import PyVbcuaf
import PySem.Challenge.RW_sealedgoods_s01_answers
import PyProof.Rows.SortShellAny
import PyProof.Rows.SetFrom
local macro_rules|`(tactic|exists $es,*)=>`(tactic|first|refine⟨$es,*, ?_⟩|refine⟨$es,*⟩)
open Array renaming getD_eq_getD_getElem?->U4,getElem?_eq_getElem->i6,getElem?_eq_none->vf,getElem?_eq_some_iff->UM,getElem?_toList->m9,length_toList->fk,mem_toList_iff->ajR,toList->Uk,toList_push->ak4
open Bool renaming and_eq_false_iff->alG,and_eq_true->cU,and_eq_true_iff->al2,and_false->Be,and_true->yw,beq_eq_decide_eq->UY,eq_false_iff->IF,eq_iff_iff->xQ,false->ao,false_and->ig,false_eq_true->sO,false_ne_true->dJ,false_or->Bk,noConfusion->mC,or_false->UA,true->aa,true_and->eB,true_or->ake
open Eq renaming symm->e9
open Except renaming error->yz,ok->vA
open False renaming elim->ju
open ForInStep renaming yield->x7
open Function renaming comp->qL
open Int renaming mul_one->ajK,natCast_mul->akY,ofNat_lt->akX,toNat->eF,toNat_natCast->k_
open List renaming Nodup->Bu,all_cons->pe,all_eq_true->jU,all_map->xZ,any_cons->n8,any_eq_true->yj,append_assoc->iu,append_nil->jT,cons_append->sR,contains_cons->IK,contains_iff_mem->UU,drop_drop->Vq,drop_eq_getElem_cons->pJ,drop_left->alS,drop_length->I8,drop_of_length_le->Vk,drop_zero->yk,eq_nil_of_length_eq_zero->yx,eq_of_mem_replicate->IX,eraseIdx_eq_take_drop_succ->ak5,ext_getElem?->Bx,filter->alF,filterMap_cons->n5,filter_append->U3,filter_congr->Bv,filter_cons->kD,filter_eq_nil_iff->akG,filter_eq_self->mq,filter_map->oj,find?_append->akV,find?_cons->iw,find?_eq_none->US,find?_some->UR,findIdx?_cons->akz,findIdx?_eq_none_iff->akA,findIdx?_eq_some_iff_getElem->ak8,findIdx_cons->Vt,flatMap_append->qQ,flatMap_cons->gW,flatMap_map->tw,flatten_cons->xY,foldl->aj8,foldl_append->pH,foldl_cons->qH,foldr_cons->akF,forIn_cons->Ih,forIn_nil->Ig,getD_eq_getElem?_getD->l9,getElem?_append_left->xU,getElem?_append_right->vc,getElem?_cons_succ->HQ,getElem?_cons_zero->UO,getElem?_eq_getElem->bg,getElem?_eq_none->n9,getElem?_eq_some_iff->eL,getElem?_map->bF,getElem?_of_mem->alE,getElem?_range->qP,getElem?_set_ne->Ui,getElem?_set_self->Uh,getElem?_take->akJ,getElem?_toArray->Vb,getElem?_zip_eq_some->ym,getElem_idxOf->akI,getElem_mem->sY,getElem_of_mem->Jd,getLast?_eq_some_iff->IG,getLast?_map->akN,getLastD_eq_getLast?->akB,idxOf_cons->UP,length->qG,length_append->bD,length_cons->bT,length_drop->ir,length_eq_zero_iff->IJ,length_eraseIdx_of_lt->ak3,length_erase_of_mem->Ve,length_filterMap_le->akW,length_filter_le->gV,length_map->aE,length_nil->ng,length_range->iz,length_replicate->vd,length_singleton->Bd,length_take->gT,length_zip->qS,lookup->qF,lookup_cons->eK,map->qN,map_append->dH,map_congr_left->kB,map_cons->b9,map_drop->qO,map_id->U1,map_id'->alp,map_map->bQ,map_nil->xW,map_replicate->IW,map_take->yl,mem_append->dG,mem_append_left->k6,mem_append_right->ki,mem_cons->bh,mem_cons_of_mem->bZ,mem_cons_self->bW,mem_drop_iff_getElem->ak0,mem_erase_of_ne->alo,mem_filter->eY,mem_filterMap->n7,mem_flatMap->Uc,mem_iff_getElem->Vf,mem_map->b7,mem_map_of_mem->vD,mem_of_find?_eq_some->IE,mem_of_getElem?->bN,mem_of_getLast?->II,mem_of_mem_drop->akM,mem_of_mem_take->UZ,mem_range->ajB,mem_singleton->nu,nil_append->ku,nodup_append->ID,nodup_cons->k8,nodup_nil->akk,not_mem_nil->eG,of_mem_zip->xT,pairwise_append->UW,pairwise_cons->ez,pairwise_filterMap->UQ,pairwise_lt_range->ak1,pairwise_map->pG,perm_ext_iff_of_nodup->UT,perm_middle->ak6,range->gR,range'->Vg,range_succ->ak9,range_succ_eq_map->akd,replicate->dF,replicate_succ->sL,size_toArray->eX,sum_cons->sU,takeWhile_cons->Ja,take_append_drop->pI,take_append_of_le_length->alI,take_length->i8,take_of_length_le->pA,take_sublist->ajX,take_succ->BL,toList_toArray->aky,zipIdx_cons->alz,zipIdx_nil->alA,zip_cons_cons->xV,zip_map->akL,zip_nil_left->aj1,zip_nil_right->aj2
open List.Pairwise renaming filter->akH,imp->akD,imp_of_mem->akE,map->anp,sublist->am5
open List.Perm renaming refl->alg
open Nat renaming add_comm->UC,add_sub_cancel_left->IY,add_zero->IZ,le_add_right->qK,le_of_eq->A5,le_of_lt->uU,le_of_succ_le->Ij,le_refl->aZ,le_succ->u7,le_trans->cX,lt_irrefl->kh,lt_of_le_of_lt->vg,lt_of_lt_of_le->gQ,lt_of_succ_lt->akO,lt_of_succ_lt_succ->alP,lt_or_ge->i9,lt_succ_of_lt->qI,lt_succ_self->A6,lt_trans->akg,max_le->Vn,min_eq_left->vh,mul_comm->alu,ne_of_gt->uY,ne_of_lt->d_,not_lt_zero->IP,pow_succ->alO,sub_self->uR,sub_zero->A2,zero_le->b6
open Ne renaming symm->ie
open Option renaming any_some->akK,bind_some->xN,getD_none->aj7,getD_some->akC,isSome_iff_exists->ajV,isSome_map->Bl,isSome_some->UH,map_eq_some_iff->gP,map_map->Bw,map_some->gh,none->ak,some->I
open Option.some renaming inj->cG,injEq->lq
open Or renaming inl->cO,inr->cZ
open Prod renaming ext->mh,fst->BK
open Prod.mk renaming inj->HS,injEq->By
open PyFlat renaming call->alX,calls->BP,rows->alY,told->ow
open PyProof renaming noPylong_small->ajO
open PyProof.Rows renaming AllBare->uT,Call_->Bo,IsTup->sE,Subscript_->Uy,args_list_sort->akS,callWith_builtin1->am0,callWith_type1->A9,entry_list_sort->akQ,envOfC->o_,gt_int->ajQ,join_list->am3,join_tuple->am4,list_sort_treeAny->akR,lt_int->ajP,slot_list_sort->akP,sortedAll_at->am7,sortedAll_old->am8,sortedHeap_at->akT,sortedHeap_old->akU,sorted_intsAny->am6,subscriptTail_builtinR->aj5
open PyProof.Rows.F renaming entry_set_update_loop->ak_,plain_set_update_loop->U8
open PyProof.Rows.IntsAre renaming cons->akb,int_at->anb,nil->aka
open PySem renaming Addr->af,Arguments->T_,Around->eZ,BindsTo->HZ,DictEntry->qJ,Env->gj,Expr->bE,FuncData->gC,GenState->HR,Heap->bB,IsPair->gU,IsZip->kr,Meets->Ba,NameKind->iX,Obj->bA,Operator->Ul,OsState->o8,Params->sC,Pos->fG,Program->bY,PyData->pB,Result->u0,Scope->jP,Sem->jS,SetTable->pL,Shared->aI,Stmt->b5,Str->aj,Tok->alV,Value->aq,Walks->x_,Within->Ue,World->bR,ZipApart->ye,argBest->vC,argsOk->vn,assign->A4,assignEach->n6,atKey->sP,attributeBase->A7,backTo->fH,backToKw->sI,behindInMarks->qD,binaryOp->sG,bindArgs->Uv,bindC->u_,bindL->u9,bootBuiltins->jt,boot_len->cJ,builtinLookup_eq_fast->alf,builtinsNs->HJ,cLine->kj,callWith->u5,call_meets->Bc,callerA->Jh,cellsFrom->gS,checkBuiltinCall->alb,codeAny->l0,codeAny_builtin->sZ,codeAny_call_builtin->ald,codeAny_mono->u6,codeAny_of_tree->ala,compEnvC->l_,compPost->UJ,compareOp->e7,entryFor->Va,firstArgMember->Ir,fits_of_scanBound->BD,foldedSetIterable->HX,getAttr->Up,getD_mem->akc,getItem->xX,getMethod->uZ,hashInt->nZ,hashStr->o7,intItems->sM,intItems_at->UE,isSubtype_stop->Iz,isSubtype_type->U9,isTrue->xO,keywordEach->sJ,layNew->yp,letOwnedTupleGo->Um,mainGlobals->gg,mem_of_lookup->ko,model->aL,newExc->Iq,newTuple->Bq,notedBy->x8,numAt->Bf,numAt_eq->Ie,nums_intItems->UD,operate->Uz,pickOrder->ou,plainId_quiet->qT,pushCells->sN,pushCells_keeps->Ii,pyNext->lZ,raiseNew->Iu,rawInt->iY,relayAll->vj,richCompare->Uw,richCompare_meets_room->aj4,scanBound->nt,seqSlot_of->alr,setNext->IS,sizeLine_eq->cY,size_of_entries->aku,sliceBounds->ve,slot_list_getitem->aj6,standAt->uW,starEach->bS,storeName->Ug,subscripted->Ib,swapsWith->xP,sysModules->iK,tupleKind->A3,tupleKind_room_in1->UK,typeIs_int->UB,typeLookup_type->ale,valueAt->x9,wpAny->aJ,wpAny_Call_Name_kw->xS,wpAny_Dict_empty->akl,wpAny_Name->Uj,wpAny_askSetting->yr,wpAny_assign_Name->ajI,wpAny_attempt->sQ,wpAny_bind->aA,wpAny_call->H_,wpAny_callSpecial?_slot->n_,wpAny_call_entry->i0,wpAny_dictEntries->Il,wpAny_dictEpoch->UL,wpAny_execs_cons->ajH,wpAny_execs_nil->HV,wpAny_field->nv,wpAny_fieldsOf->yb,wpAny_forIn_list->aj0,wpAny_getItem_of->akh,wpAny_handled->Iv,wpAny_holding->pD,wpAny_isInstance->Br,wpAny_isOneOf_keyiter->akt,wpAny_isTrue_Compare1->ajG,wpAny_ite_split->Vc,wpAny_letGo->s_,wpAny_letOwnedTupleGo_zip->akw,wpAny_load->Uo,wpAny_loadName_cell->ajD,wpAny_loadName_local->ajC,wpAny_mono->k7,wpAny_newObj_type->jv,wpAny_of_eq->yd,wpAny_onRaise->IU,wpAny_passesOwn->uX,wpAny_pure->aN,wpAny_pyIter_list->HW,wpAny_pyIter_rangeiter->ajM,wpAny_pyIter_revIter->akn,wpAny_pyIter_slot->Ik,wpAny_pyIter_tuple->ajN,wpAny_pyIter_zip->IA,wpAny_pyNext_range_end->ajL,wpAny_rule->sX,wpAny_seqItems->lz,wpAny_setEntries_of->BE,wpAny_setEpoch_of->ali,wpAny_setField->pC,wpAny_setField_rec->yu,wpAny_setState_of->yq,wpAny_specialOf->aki,wpAny_storeSet_of->ak7,wpAny_throw->Iw,wpAny_truthy_bool->nc,wpAny_tryCatch->Vv,wpAny_typeNameOfWhole_keyiter->Im,wpAny_typeNameOf_keyiter->Io,wpAny_typeOf->Vd,wpAny_updateSeq->yt,wpAny_updateSeq_pair->Vj
open PySem.Around renaming under->Ut,under_plainId->vm
open PySem.AutoSeq1 renaming sub_tuple_tuple->ajZ
open PySem.Bind renaming checkArgs->alW
open PySem.Builtin.Builtins renaming bindParams->ank
open PySem.Builtin.Dict renaming showsAll->akp
open PySem.Builtin.Dict_items renaming ownsTuple->aks
open PySem.Builtin.Frozenset renaming updateFrom->ana
open PySem.Builtin.List renaming listExtendWith->ane,listLengthHint->anc,listSameRef->alk,listTooLong->Ic
open PySem.Builtin.Range renaming rangeFitsLong->anj,rangeSize->Bm,small->akm
open PySem.Builtin.SmallTypes renaming nextOf->alw,ownedTupleHandOut->alB
open PySem.Builtin.Tuple renaming tupleCompareSizes->aj3,tupleExact->als,tupleTooMany->anh
open PySem.Calls renaming Name_function_global->ajE,call_function_entry->U0
open PySem.Challenge renaming pw_sealedgoods_s01_answers->ajv
open PySem.CmpOp renaming NotIn->ajF
open PySem.Code renaming frames->ajT,isFrame->Uu
open PySem.Data renaming seq->Jg
open PySem.EqMixed renaming eq_bool_str->amH,eq_int_str->amJ,eq_str_bool->amL,eq_str_int->amM,ne_bool_str->amS,ne_int_str->amU,ne_str_bool->amW,ne_str_int->amX
open PySem.EqNone renaming eq_bool_none->amG,eq_int_none->amI,eq_none_bool->amD,eq_none_int->amE,eq_none_none->amC,eq_none_str->amF,eq_str_none->amK,ne_bool_none->amR,ne_int_none->amT,ne_none_bool->amO,ne_none_int->amP,ne_none_none->amN,ne_none_str->amQ,ne_str_none->amV
open PySem.F renaming args_dict_keyiterator_next_1->akr,args_list_extend_2->aj_,args_tuple_iterator_next_1->aly,args_zip_next_1->alD,called_set->s8,entry_dict_keyiterator_next->akq,entry_list_extend->aj9,entry_max_loop->alU,entry_tuple_iterator_next->alx,entry_zip_next->alC,plainAttrs_list->fq,plainAttrs_str->alL,plainAttrs_tuple->alQ,plain_extend_loop->alm,plain_list_iadd->aln,plain_max_loop->yC,plain_set_new->alc,slot_dict_getitem->akj,slot_dict_iter->ako,slot_dict_keyiterator_iter->akv,slot_dict_keyiterator_next->ya,slot_dict_len->alH,slot_int_rmul->alv,slot_list_append->l7,slot_list_extend->l8,slot_list_index->Bg,slot_set_iter->alh,slot_str_join->alM,slot_tuple_index->Vh,slot_tuple_iterator_next->IT,slot_tuple_mul->Vi,slot_tuple_rmul->alq,slot_zip_next->IV,type_list_append->nq,type_list_extend->oq,type_list_index->IL,type_str_join->alN,type_tuple_index->alR
open PySem.Heap renaming ExtBut->Ip,SameBut->o9,get?_push_of_some->cu,get?_push_size->di,get?_update_other->pq,get?_update_self->oh,lt_size->cH,size_push->iL
open PySem.Heap.DictOf renaming new->am2
open PySem.Heap.IsList renaming push->ani
open PySem.Heap.IsSliceOf renaming new->am1
open PySem.Heap.SameBut renaming refl->am_,update->ni
open PySem.NameKind renaming cell->UI,free->x6
open PySem.Obj renaming cls_mapFields->Bp,data_mapFields->nh,isFreed_of_fields->yc,mapFields->UN,mapSeq->Bb,putSet->BB
open PySem.Paired renaming length->sD,snoc->akf
open PySem.PassesOwn renaming never->eN
open PySem.PyData renaming canLayAll0->BN,depthAll->Vu,eqv->Bj,eqvAll->IM,int->qR
open PySem.SeqAt renaming EqAt->A_,shaped->Bh
open PySem.SeqAt.EqAt renaming int_int->ajY,int_str->ajz,str_int->ajA
open PySem.SetTable renaming advance->IQ,below->jW,fits->alj,fresh->ak2,grown->BC,insertAt->U5
open PySem.SetTable.Met.empty renaming injEq->am9
open PySem.SetTable.below renaming go->akZ
open PySem.SetTable.probe renaming go->U6
open PySem.Str renaming empty->m8,join->IB,ofString->m6
open PySem.Txt renaming join->IC
open PySem.Value renaming bool->uS,int->qC,isInt->ajw,isInt_shape->Ud,isStrOf->ajx,none->jR,notImplemented->Ux,ref->eW,str->ajy,type->m_
open PySem.Value.type renaming inj->al3
open PySem.W renaming Frag->aR,SharedT->HN,boot_heap->HP,callWith_K->Ia,callWith_K0->ajU,cellsFrom_some->ajW,codeIn->Ua,emptyDict->qE,findIn->m7,fnOf->A8,handedIn->ajS,hasDictIn->HK,instObj->sF,isFn->HM,keepIn->kZ,ktu_apart->akx,length_le_weightAllW->al1,lookIn->HY,makesIn->HL,methodCall_KW->Us,nsIn->jQ,plainGet->A1,plainGet_of->Uq,plainOver->Ub,takerIn->Ur
open PySem.W.Codec renaming denoteAll->al0,encAll->Je
open PySem.W.Looks renaming here->amY
open PySem.W.WData renaming int->Vx,weightAll->Jf
open PySem.Walks renaming list->UG,range->ajJ
open PySem.Within renaming cons->amZ
open PySem.pickOrder renaming go->U7
open PyVbcuaf renaming answers->Vy,answers_asked->al5,shape->BO,whole->al4
open Std.Legacy.Range renaming forIn_eq_forIn_range'->anf,size->ang
open Sum renaming inl->cP,inr->jr
open Sum.inr renaming inj->HU
open True renaming intro->xR
open Vbcuaf renaming Ans->alZ,Call->Vw,DOES->qW,Guarantee->eE,House->dN,Journey->bw,LETTER->alT,News->bO,Planned->eO,Token->iB,allWays->Vo,arrivedAt->yi,bit->Vl,bytesOf->iM,callOf->tE,clearedAt->om,decimal->mz,does->Vs,faults->yo,firstOf->lu,guaranteeAt->i7,heavier->vB,inForce->yg,isDigit->tB,isJourney->alJ,isMoney->BJ,isOffice->alK,isSmall->vz,isTime->vt,joined->yD,journeyOf->ny,keeper->jx,keeperNumbers->qM,known->bq,knownBehind->kF,lastStage->dM,leastPlan->BG,leftAt->kC,letterFrom->gn,lex->pO,listLess->sS,mayLeave->I9,missing->Vm,moved->qX,natRow->jy,nats->I0,newsIn->qV,newsOf->qU,noneTwice->I_,number->Vr,numbersOf->cM,officeAt->sV,outAt->BH,outThen->fu,overdue->vo,peak->kE,planPeak->kG,plansOf->gm,putAll->mw,putGuarantee->nk,putNat->mj,putNews->nj,putStage->pF,readLetter->i_,reserved->vp,row->pM,sealsOf->sW,shareOf->iy,shorts->Vp,shownLetter->vE,shownNews->lA,stageOf->jV,staged->yh,start->gk,status->UX,steady->jw,step->gD,stepNumbers->gE,tellOf->vv,text->yy,total->pK,turns->yv,valueOf->iA,wayOf->cD,whenLeave->vq,within->e8
open Vbcuaf.Call renaming plan->anm,tell->anl
open VbcuafNeutral renaming step->ano
abbrev M:=@List
abbrev aG:=@Option
abbrev aU:=@absurd
abbrev gB:=@beq_eq_false_iff_ne
abbrev iZ:=@beq_iff_eq
abbrev cC:=@congrArg
abbrev aV:=@decide_eq_false
abbrev aP:=@decide_eq_true
abbrev yf:=@decide_eq_true_eq
abbrev pN:=@decide_eq_true_iff
abbrev Jc:=@forall_eq
abbrev Jb:=@forall_eq_or_imp
abbrev l6:=@if_false
abbrev au:=@if_neg
abbrev av:=@if_pos
abbrev l5:=@if_true
abbrev c_:=@of_decide_eq_true
abbrev tD:=@or_false
abbrev G:=@rfl
noncomputable section
set_option Elab.async false
set_option linter.all false
set_option compiler.extract_closed false
set_option maxRecDepth 1000000
set_option maxHeartbeats 4000000
namespace L2
open PySem PySem.Spec PyProof.Rows
def inClass(s:b5)(j:Nat):b5:=match s with| .ClassDef _ _ _ body _ _ _ _ _ _ _=>body.getD j (.Pass ⟨0,0,0,0⟩)|_=>.Pass ⟨0,0,0,0⟩
def yE(s:b5):T_:=match s with| .FunctionDef _ a _ _ _ _ _ _ _ _=>a|_=>{posonlyargs:=[],args:=[],vararg:=ak,kwonlyargs:=[],kw_defaults:=[],kwarg:=ak,defaults:=[]}
def tF(s:b5):M b5:=match s with| .FunctionDef _ _ b _ _ _ _ _ _ _=>b|_=>[]
def cz(s:b5):jP:=match s with| .FunctionDef _ _ _ _ _ _ sc _ _ _=>sc|_=>{kind:=.function,names:=[],isGenerator:=ao,isCoroutine:=ao}
end L2
namespace Sp
open PySem PySem.Spec PyProof.Rows L2
def top(i:Nat):b5:=ajv.main.body.getD i (.Pass ⟨0,0,0,0⟩)
abbrev Ji:b5:=inClass (top 8) 0
abbrev Jj:b5:=inClass (top 22) 0
abbrev Jk:b5:=inClass (top 61) 0
abbrev Jl:b5:=inClass (top 82) 0
abbrev Jm:b5:=inClass (top 96) 0
abbrev Jo:b5:=inClass (top 108) 0
abbrev Jp:b5:=inClass (top 112) 0
abbrev Jq:b5:=inClass (top 113) 0
abbrev Jr:b5:=inClass (top 114) 0
abbrev qY:b5:=top 117
abbrev Js:b5:=inClass (top 159) 0
abbrev Jt:b5:=inClass (top 159) 1
abbrev BQ:b5:=inClass (top 159) 2
abbrev Ju:b5:=inClass (top 159) 3
abbrev Jv:b5:=inClass (top 159) 4
abbrev Jw:b5:=inClass (top 159) 5
abbrev Jx:b5:=inClass (top 159) 6
abbrev Jy:b5:=inClass (top 159) 7
abbrev BR:b5:=inClass (top 159) 8
abbrev Jz:b5:=inClass (top 159) 9
abbrev JA:b5:=inClass (top 159) 10
abbrev JB:b5:=inClass (top 159) 11
abbrev JC:b5:=inClass (top 160) 0
abbrev JD:b5:=inClass (top 160) 1
abbrev JE:b5:=inClass (top 160) 2
abbrev BS:b5:=inClass (top 160) 3
abbrev JF:b5:=inClass (top 160) 4
abbrev JG:b5:=inClass (top 160) 5
abbrev JH:b5:=inClass (top 160) 6
noncomputable def oz:M (aj×M aj×Bool):=[("journey",["p","money","hundredths","limit"],aa),("guarantee",["p","t","money"],ao),("tell",[],aa),("known",[],ao),("status",["j","t"],ao),("keeper",["j","t"],ao),("way",["j"],ao),("faults",["j"],ao),("missing",["j"],ao),("seals",["j"],ao),("reserved",["p","t"],ao),("peak",["p"],ao),("shorts",["p"],ao),("overdue",["t"],ao),("may",["j","t"],ao),("plan",[],aa),("then",["n","p","t"],ao),("was",["n","j","t"],ao),("broken",[],ao),("journeys",[],ao),("letter",[],aa),("check",[],aa),("printed",[],ao),("would",[],aa),("at",["o","t"],ao),("road",["t"],ao),("when",["j","t"],ao),("counts",[],ao)]
noncomputable def gF:M (aj×Int×Int):=[("p",1,6),("o",1,9),("t",0,1000000000),("money",0,1000000000),("hundredths",1,100),("limit",1,1000000),("j",1,99),("n",0,40),("number",1,999),("version",1,9),("told",0,4),("seal",0,9999),("duration",1,1000000),("choices",1,4),("byte",0,255)]
def jb:M aj:=["number","version","j","o","told","t","seal","seal"]
inductive dO where|num (lo hi:Nat) (nm:aj)|sg (c:Nat) (s:aj)|wd (w:String)|dz
noncomputable def dO.py:dO->aj×aj| .num _ _ nm=>("number",nm)| .sg _ s=>("text",s)| .wd w=>("text",m6 w)| .dz=>("does","")
noncomputable def eS:M dO:=[.num 1 999 "number",.sg 46 ".",.num 1 9 "version",.wd "journey",.num 1 99 "j",.dz,.wd "at",.num 1 9 "o",.wd "minute",.num 0 1000000000 "t",.wd "found",.num 0 9999 "seal",.wd "left",.num 0 9999 "seal",.sg 59 ";"]
def jc:M aj:=["leaves","passes","arrives","cleared","nothing"]
def kH:M aj:=["money","hundredths","duration","choices"]
end Sp
namespace Hd
open PySem PySem.W PySem.Calls PyProof.Rows L2 Sp
noncomputable def Vz:M aj:=["read_call","read_calls","in_range","fits","is_route","is_news","is_text","news_in","known_with","count_changed","by_numbers","in_force","in_force_of","can_be","stage_of","goes_before","firsts_of","way_of","fault_of","faults_of","missing_of","seal_between","seals_of","come_by","status_at","keeper_at","arrived_at","cleared_at"]
noncomputable def VA:M aj:=["is_overdue","is_out","out_at","sum_at","peak_of","begins_of","guarantee_at","turns_of","shorts_of","first_leave","behind_blanks","run_end","word_at","number_at","token_at","can_stand","step_fault","values_of","news_of","news_in_values","read_letter","one_form","news_text","letter_of","share_of","read_planned","with_stay","better_plan"]
noncomputable def VB:M aj:=["least_plan","counted","ask_known","ask_status","ask_keeper","ask_way","ask_faults","ask_missing","ask_seals","ask_reserved","ask_peak","ask_shorts","ask_overdue","leave_from","ask_may","ask_when","ask_plan","ask_then","ask_was","ask_broken","ask_journeys","ask_check","ask_printed","changes_between","ask_would","ask_at","ask_road","ask_counts"]
noncomputable def VC:M aj:=["answer_asked","tell_journey","tell_guarantee","take_news","tell_news","tell_letter","is_telling","answer_told","names_no_journey","answer_of","answers"]
def JI:M aj:=Vz++VA++VB++VC
noncomputable def JJ:M b5:=(top 9)::top 10::top 11::top 12::top 13::top 14::top 15::top 23::top 24::top 25::top 26::top 27::top 28::top 43::top 44::top 45::top 46::top 47::top 48::top 49::top 50::top 51::top 52::top 53::top 54::top 55::top 56::top 57::top 58::top 62::top 63::top 64::top 65::top 66::top 67::top 68::top 69::top 70::top 83::top 84::top 85::top 86::top 87::top 97::top 98::top 99::top 100::top 101::top 102::top 103::top 104::top 105::top 107::top 115::top 116::qY::top 118::top 127::top 130::top 131::top 132::top 133::top 134::top 135::top 136::top 137::top 138::top 139::top 140::top 141::top 142::top 143::top 144::top 145::top 146::top 147::top 148::top 149::top 150::top 151::top 152::top 153::top 154::top 155::top 157::top 166::top 167::top 168::top 169::top 170::top 172::top 173::top 175::top 176::top 177::[]
def tG:M (aj×b5):=JI.zip JJ
noncomputable def VD:M (aj×aj×aj):=[("Call","__init__","Call.__init__"),("News","__init__","News.__init__"),("Span","__init__","Span.__init__"),("Token","__init__","Token.__init__"),("Letter","__init__","Letter.__init__"),("Journey","__init__","Journey.__init__"),("Planned","__init__","Planned.__init__"),("Stay","__init__","Stay.__init__"),("Plan","__init__","Plan.__init__")]
noncomputable def VE:M (aj×aj×aj):=[("View","__init__","View.__init__"),("View","all_numbers","View.all_numbers"),("View","numbers_of","View.numbers_of"),("View","journey_of","View.journey_of"),("View","route_of","View.route_of"),("View","force","View.force"),("View","force_of","View.force_of"),("View","way_of_journey","View.way_of_journey"),("View","steps_of","View.steps_of")]
noncomputable def VF:M (aj×aj×aj):=[("View","seals_of_journey","View.seals_of_journey"),("View","keeper_of","View.keeper_of"),("View","spans_of","View.spans_of"),("Book","__init__","Book.__init__"),("Book","tells","Book.tells"),("Book","has_journey","Book.has_journey"),("Book","has_journeys_of","Book.has_journeys_of"),("Book","then","Book.then"),("Book","now","Book.now")]
def VG:M (aj×aj×aj):=[("Book","with_news","Book.with_news")]
def BU:M (aj×aj×aj):=VD++VE++VF++VG
noncomputable def JK:M b5:=Ji::Jj::Jk::Jl::Jm::Jo::Jp::Jq::Jr::Js::Jt::BQ::Ju::Jv::Jw::Jx::Jy::BR::Jz::JA::JB::JC::JD::JE::BS::JF::JG::JH::[]
def BV:M ((aj×aj×aj)×b5):=BU.zip JK
abbrev nA:=T_×FuncBody×jP×af×M (aj×af)×aq×af×Bool
noncomputable def yF(K:aR)(x q:aj)(f:af):aG nA:=match K.lookup f with|some ⟨_,_,.func fd,_⟩=>I (fd.params,fd.body,fd.scope,fd.globals,fd.closure,fd.defaults,fd.builtins,decide (fd.name=x)&&(decide (fd.qualname=q)&&(Ua K fd.code q&&kZ K (.ref f))))|_=>ak
noncomputable def yG(st:b5):aG nA:=I (yE st,.stmts (tF st),cz st,gg,[],.none,HJ,aa)
def mD(K:aR)(x:aj):aG af:=match jQ K gg x with|some (I (.ref f))=>I f|_=>ak
def yH(K:aR)(c m:aj):aG af:=match mD K c with
 |some C=>(match m7 K (.ref C) m with
  |some (I (.ref f))=>I f|_=>ak)
 |none=>ak
def JL(K:aR)(x:aj):aG nA:=match mD K x with|some f=>yF K x x f|none=>ak
def yI(K:aR):M (aG nA):=JI.map (JL K)
def qZ:M (aG nA):=JJ.map yG
def JM(K:aR)(e:aj×aj×aj):aG nA:=match yH K e.1 e.2.1 with|some f=>yF K e.2.1 e.2.2 f|none=>ak
def yJ(K:aR):M (aG nA):=BU.map (JM K)
def q6:M (aG nA):=JK.map yG
inductive fP where|i (n:Int)|s (x:aj)|b (c:Bool)|t (l:List fP)
mutual
def jz(K:aR):fP->aq->Bool
 | .i n,v=>(match v with
  | .int m _=>m==n|_=>ao)
 | .s x,v=>(match v with
  | .str y _=>y==x|_=>ao)
 | .b c,v=>(match v with
  | .bool d=>d==c|_=>ao)
 | .t l,v=>(match v with
  | .ref a=>(match K.lookup a with
   |some ⟨.type "tuple",ak,.seq ad _,_⟩=>mE K l ad.toList|_=>ao)
  |_=>ao)
def mE(K:aR):M fP->M aq->Bool
 |[],us=>us.isEmpty
 |l::ls,us=>(match us with
  |u::us=>jz K l u&&mE K ls us|[]=>ao)
end
noncomputable def VH:M (aj×fP):=[("LEAVES",.i 0),("PASSES",.i 1),("ARRIVES",.i 2),("CLEARED",.i 3),("NOTHING",.i 4),("AT_FIRST",.i 0),("ON_ROAD",.i 1),("ARRIVED",.i 2),("DONE",.i 3),("OFFICE_KEEPS",.i 0),("CARRIER_KEEPS",.i 1),("NOBODY_KEEPS",.i 2),("CANNOT_BE",.i 1),("ANOTHER_FIRST",.i 2),("TOO_EARLY",.i 3),("SAME_SEAL",.i 0),("BROKEN",.i 1),("PERHAPS_BROKEN",.i 2),("NO_TURN",.i (-1)),("LEAST_OFFICES",.i 2),("MOST_OFFICES",.i 6),("MOST_NEWS",.i 10),("MOST_BYTES",.i 1200),("MOST_PLANNED",.i 6),("MOST_JOURNEYS",.i 16)]
noncomputable def VI:M (aj×fP):=[("MOST_GUARANTEES",.i 20),("MOST_TELLS",.i 40),("MOST_KNOWN",.i 80),("WRONG",.i (-1)),("NO_JOURNEY",.i (-3)),("NOT_SO_MANY",.i (-3)),("TWICE",.i (-5)),("FAULTY",.i (-5)),("FULL",.i (-6)),("ON_WAY",.i (-7)),("NO_FAULT",.i 0),("WRONG_HERE",.i 1),("CANNOT_STAND",.i 2),("OUT_OF_RANGE",.i 3),("ONE_TOO_MANY",.i 7),("MOST_LETTERS",.i 8),("MOST_DIGITS",.i 10),("WORD",.s "word"),("NUMBER",.s "number"),("SIGN",.s "sign"),("WRONG_TOKEN",.s "wrong"),("TEXT_END",.s "end"),("LETTERS",.s "abcdefghijklmnopqrstuvwxyz")]
noncomputable def VJ:M (aj×fP):=
 [("DOES",.t (jc.map .s)),("NEWS_NAMES",.t (jb.map .s)),("PLANNED_NAMES",.t (kH.map .s)),("PRINCIPALS",.t [.i 1,.i 2,.i 3,.i 4,.i 5,.i 6]),("SIGNS",.t [.s ".",.s ";"]),("BLANKS",.t [.s " ",.s "\n"]),
 ("STEPS",.t (eS.map λs=>.t [.s s.py.1,.s s.py.2])),("FORMS",.t (oz.map λf=>.t [.s f.1,.t (f.2.1.map .s),.b f.2.2]))]
def tH:M (aj×fP):=VH++VI++VJ
def BW(K:aR):Bool:=tH.all λe=>match jQ K gg e.1 with
 |some (I v)=>jz K e.2 v|_=>ao
noncomputable def BX:M aj:="sorted"::"len"::"zip"::"all"::"sum"::"set"::"max"::"enumerate"::"range"::"tuple"::"dict"::"list"::"reversed"::"ord"::[]
def BY(K:aR):Bool:=BX.all λx=>match jQ K gg x with
 |some ak=>aa|_=>ao
noncomputable def BZ:M (aj×M aj):=("News",["row","number","version","journey","office","told","minute","found","left"])::("Journey",["principal","money","hundredths","limit","route","share"])::("Span",["journey","share","begin","cleared"])::("View",["journeys","known"])::("Book",["journeys","guarantees","history"])::("Planned",["share","duration","minutes"])::("Stay",["begin","end","share","total"])::("Plan",["minutes","greatest"])::("Token",["kind","value","place","end"])::("Letter",["told","fault","place"])::("Call",["name","names","numbers","row","end"])::[]
def JN(K:aR)(C:af)(x:aj):Bool:=match m7 K (.ref C) x with|some ak=>aa|_=>ao
def B0(K:aR):Bool:=BZ.all λe=>match mD K e.1 with
 |some C=>A1 K C m8&&(HK K C&&(Ub K C&&((m7 K (.ref C) "__setattr__"==I (I (.builtin "object.__setattr__")))&&(HL K C&&(kZ K (.ref C)&&e.2.all (JN K C))))))|none=>ao
def B3(K:aR):Bool:=BU.all λe=>match yH K e.1 e.2.1 with
 |some f=>HM K (.ref f)|none=>ao
noncomputable def oA(K:aR)(x:aj):aG (af×M (aj×aq×Int)):=match mD K x with
 |some a=>(match K.lookup a with
  |some ⟨.type "dict",ak,.dict es _,sl⟩=>(match sl.size==0&&es.toList.all (λe=>match e.key with| .str _ _=>aa|_=>ao)with
   |true=>I (a,es.toList.map λe=>((match e.key with| .str y _=>y|_=>m8),e.val,e.hash))
   |false=>ak)
  |_=>ak)
 |none=>ak
def vF:M aj->M (aj×aq×Int)->Bool
 |[],l=>l.isEmpty
 |k::ks,l=>(match l with
  |e::l=>e.1==k&&vF ks l|[]=>ao)
noncomputable def yK(K:aR):Bool:=match oA K "RANGES"with
 |some (a,l)=> !(a==iK)&&(vF (gF.map (·.1)) l&&((gF.zip l).all λz=>jz K (.t [.i z.1.2.1,.i z.1.2.2]) z.2.2.1))|none=>ao
noncomputable def nB:M (aj×aj):=("known","ask_known")::("status","ask_status")::("keeper","ask_keeper")::("way","ask_way")::("faults","ask_faults")::("missing","ask_missing")::("seals","ask_seals")::("reserved","ask_reserved")::("peak","ask_peak")::("shorts","ask_shorts")::("overdue","ask_overdue")::("may","ask_may")::("plan","ask_plan")::("then","ask_then")::("was","ask_was")::("broken","ask_broken")::("journeys","ask_journeys")::("check","ask_check")::("printed","ask_printed")::("would","ask_would")::("at","ask_at")::("road","ask_road")::("when","ask_when")::("counts","ask_counts")::[]
noncomputable def oB:M (aj×aj):=[("journey","tell_journey"),("guarantee","tell_guarantee"),("tell","tell_news"),("letter","tell_letter")]
noncomputable def tK(K:aR)(x:aj)(t:M (aj×aj)):Bool:=match oA K x with
 |some (a,l)=> !(a==iK)&&(vF (t.map (·.1)) l&&((t.zip l).all λz=>match mD K z.1.2,z.2.2.1 with
  |some f,.ref g=>f==g|_,_=>ao))
 |none=>ao
def hashes(K:aR)(x:aj):M Int:=match oA K x with|some (_,l)=>l.map λe=>e.2.2|none=>[]
def allB(K:aR):Bool:=BW K&&(BY K&&(B0 K&&(B3 K&&(yK K&&(tK K "ASKERS" nB&&tK K "TELLERS" oB)))))
abbrev Tab:=Bool×M (aG nA)×M (aG nA)×M Int×M Int×M Int
noncomputable def tabOf(K:aR):Tab:=(allB K,yI K,yJ K,hashes K "RANGES",hashes K "ASKERS",hashes K "TELLERS")
def vG(w:bR):M Int×M Int×M Int:=((gF.map (·.1)).map (o7 w),(nB.map (·.1)).map (o7 w),(oB.map (·.1)).map (o7 w))
def vH(w:bR):Tab:=(aa,qZ,q6,vG w)
def tL:Nat->M bA->aR
 |_,[]=>[]
 |n,o::l=>match o with
  |⟨_,_,.freed,_⟩=>tL (n+1) l|o=>(n,o)::tL (n+1) l
def VL(e:af×bA):Nat:=match e.2.data with| .func _=>1| .fields _=>2| .seq _ _=>3|_=>0
def fragOf(h:bB):aR:=[0,1,2,3].flatMap λi=>(tL 0 h.objs.toList).filter λe=>VL e==i
end Hd
namespace Hd
open PySem PySem.W PySem.Calls PyProof.Rows
noncomputable def yL(tb:String->aG Builtin)(p:bY)(w:bR)(n0:Nat)(ann:aG aq):Nat->HN->Thread->aG HN
 |0,_,_=>ak
 |n+1,s,t=>match through t with
  |true=>I s
  |false=>match stepOk n0 ann t with
   |false=>ak
   |true=>match stepT (denote tb) p w s t with
    |some (s',t')=>yL tb p w n0 ann n s' t'|none=>ak
theorem JO{tb:String->aG Builtin}{p:bY}{w:bR}{n0:Nat}{ann:aG aq}:∀{n:Nat}{s s':HN}{t:Thread},yL tb p w n0 ann n s t=I s'->topRun tb p w n0 ann n s.abs t=I s'.abs
 |0,_,_,_,h=>by cases h
 |n+1,s,s',t,h=>by
  unfold yL at h;unfold topRun;cases he:through t with
  |true=>rw[he]at h;cases h;rfl
  |false=>
   rw[he]at h;cases hk:stepOk n0 ann t with
   |false=>rw[hk]at h;cases h
   |true=>
    rw[hk]at h;cases hs:stepT (denote tb) p w s t with
    |none=>rw[hs]at h;cases h
    |some r=>obtain⟨s2,t2⟩:=r;rw[hs]at h;rw[stepT_spec hs];exact JO h
abbrev PP:bY:=ajv
noncomputable def VM:M (M aj):=[("FORMS"::(Sp.oz.flatMap λf=>f.1::f.2.1)),("RANGES"::Sp.gF.map (·.1)),["NEWS_NAMES","number","version","j","o","told","t","seal","seal"],["MOST_NEWS"],["LEAST_OFFICES"],["MOST_OFFICES"],["MOST_BYTES"],["Call","__init__"],["read_call"],["read_calls"],["in_range"],["fits"],["is_route"],["is_news"],["is_text"]]
noncomputable def VN:M (M aj):=[["LEAVES"],["PASSES"],["ARRIVES"],["CLEARED"],["NOTHING"],["News","__init__"],["news_in"],["known_with"],["count_changed"],["by_numbers"],["in_force"],["in_force_of"]]
noncomputable def VO:M (M aj):=[["CANNOT_BE"],["ANOTHER_FIRST"],["TOO_EARLY"],["SAME_SEAL"],["BROKEN"],["PERHAPS_BROKEN"],["AT_FIRST"],["ON_ROAD"],["ARRIVED"],["DONE"],["OFFICE_KEEPS"],["CARRIER_KEEPS"],["NOBODY_KEEPS"],["can_be"],["stage_of"],["goes_before"],["firsts_of"],["way_of"],["fault_of"],["faults_of"],["missing_of"],["seal_between"],["seals_of"],["come_by"],["status_at"],["keeper_at"],["arrived_at"],["cleared_at"]]
def VQ:M (M aj):=[["is_overdue"]]
noncomputable def VR:M (M aj):=[["NO_TURN"],["Span","__init__"],["is_out"],["out_at"],["sum_at"],["peak_of"],["begins_of"],["guarantee_at"],["turns_of"],["shorts_of"],["first_leave"]]
noncomputable def VS:M (M aj):=[["WORD","word"],["NUMBER","number"],["SIGN","sign"],["WRONG_TOKEN","wrong"],["TEXT_END","end"],["LETTERS","abcdefghijklmnopqrstuvwxyz"],["SIGNS",".",";"],["BLANKS"," ","\n"],["MOST_LETTERS"],["MOST_DIGITS"],["Token","__init__"],["behind_blanks"],["run_end"],["word_at"],["number_at"],["token_at"]]
noncomputable def VT:M (M aj):=[["NO_FAULT"],["WRONG_HERE"],["CANNOT_STAND"],["OUT_OF_RANGE"],["ONE_TOO_MANY"],["DOES","leaves","passes","arrives","cleared","nothing"],("STEPS"::(Sp.eS.flatMap λs=>[s.py.1,s.py.2])),["Letter","__init__"],["can_stand"],["step_fault"],["values_of"],["news_of"],["news_in_values"],["read_letter"],["one_form"],["news_text"],["letter_of"]]
def VU:M (M aj):=[["share_of"],["Journey","__init__"]]
noncomputable def VV:M (M aj):=[["PLANNED_NAMES","money","hundredths","duration","choices"],["MOST_PLANNED"],["Planned","__init__"],["Stay","__init__"],["Plan","__init__"],["read_planned"],["with_stay"],["better_plan"],["least_plan"]]
noncomputable def VW:M (M aj):=[["WRONG"],["NO_JOURNEY"],["NOT_SO_MANY"],["TWICE"],["FAULTY"],["FULL"],["ON_WAY"],["counted"]]
noncomputable def VX:M (M aj):=[["PRINCIPALS"],["ask_known"],["ask_status"],["ask_keeper"],["ask_way"],["ask_faults"],["ask_missing"],["ask_seals"],["ask_reserved"],["ask_peak"],["ask_shorts"],["ask_overdue"],["leave_from"],["ask_may"],["ask_when"],["ask_plan"],["ask_then"],["ask_was"],["ask_broken"],["ask_journeys"],["ask_check"],["ask_printed"],["changes_between"],["ask_would"],["ask_at"],["ask_road"],["ask_counts"],("ASKERS"::(nB.map (·.1)++nB.map (·.2)))]
def VY:M (M aj):=[["answer_asked"]]
noncomputable def VZ:M (M aj):=[["View","__init__","all_numbers","numbers_of","journey_of","route_of","force","force_of","way_of_journey","steps_of","seals_of_journey","keeper_of","spans_of"],["Book","__init__","tells","has_journey","has_journeys_of","then","now","with_news"]]
noncomputable def V0:M (M aj):=[["MOST_JOURNEYS"],["MOST_GUARANTEES"],["MOST_TELLS"],["MOST_KNOWN"],["tell_journey"],["tell_guarantee"],["take_news"],["tell_news"],["tell_letter"],("TELLERS"::(oB.map (·.1)++oB.map (·.2))),["is_telling"],["answer_told"]]
def V3:M (M aj):=[["names_no_journey"],["answer_of"],["answers"]]
noncomputable def JP:M (aj×M (M aj)):=[("sealedgoods.forms",VM),("sealedgoods.news",VN),("sealedgoods.ways",VO++VQ),("sealedgoods.cover",VR),("sealedgoods.tokens",VS),("sealedgoods.letters",VT),("sealedgoods.journeys",VU),("sealedgoods.plans",VV),("sealedgoods.replies",VW),("sealedgoods.asking",VX++VY),("sealedgoods.book",VZ),("sealedgoods.telling",V0),("sealedgoods.desk",V3)]
def V4:M (M aj):=JP.flatMap λg=>["__name__",g.1]::g.2
def V5:M aj:="__name__"::JP.flatMap λg=>g.2.map (·.headD m8)
def tM{α:Type}(x:aj)(k:aj->α):α:=match x with|⟨⟨l⟩⟩=>k ⟨⟨l⟩⟩
noncomputable def lf:bE->M aj->bE×M aj| .Constant (.str _) k p,s::r=>tM s λs=>(.Constant (.str s) k p,r)| .Name _ p,s::r=>tM s λs=>(.Name s p,r)|e,r=>(e,r)
def yM(f:bE->M aj->bE×M aj):M bE->M aj->M bE×M aj
 |[],r=>([],r)
 |e::l,r=>match f e r with
  |(e,r)=>(match yM f l r with
   |(l,r)=>(e::l,r))
noncomputable def ly(f:bE->M aj->bE×M aj):bE->M aj->bE×M aj
 | .Tuple es k p,r=>match yM f es r with
  |(es,r)=>(.Tuple es k p,r)
 | .Dict ks vs p,r=>match yM f (ks.filterMap id) r with
  |(ks,r)=>(match yM f vs r with
   |(vs,r)=>(.Dict (ks.map I) vs p,r))
 |e,r=>f e r
def B4:M (aj×iX)->M aj->M (aj×iX)|(_,k)::l,x::r=>tM x λx=>(x,k)::B4 l r|l,_=>l
def JQ:b5->aj->b5| .FunctionDef _ a b d rt tp sc ts _ pos,x=>tM x λx=>.FunctionDef x a b d rt tp sc ts x pos|s,_=>s
def JR:M b5->M aj->M b5|s::l,x::r=>JQ s x::JR l r|l,_=>l
noncomputable def V7:b5->M aj->b5| .Assign [.Name _ p] v q,x::r=>tM x λx=>.Assign [.Name x p] (ly (ly (ly lf)) v r).1 q| .ClassDef _ bs ks body dl tp sc ts _ sa pos,x::r=>tM x λx=>.ClassDef x bs ks (JR body r) dl tp {sc with names:=B4 sc.names r} ts x sa pos|s,x::_=>JQ s x|s,[]=>s
def JS:M b5->M (M aj)->M b5|s::l,x::r=>V7 s x::JS l r|l,_=>l
noncomputable def sk(p:bY):bY:={p with main:={p.main with body:=JS p.main.body V4,scope:={p.main.scope with names:=B4 p.main.scope.names V5}}}
noncomputable def V8(P:sC):BT:=
 .node (boot_o_0 P)
  (.node (boot_o_1 P) (.node (boot_o_3 P) (.node (boot_o_7 P) .nil .nil) .nil) (.node (boot_o_5 P) (.node (boot_o_9 P) .nil .nil) .nil))
  (.node (boot_o_2 P) (.node (boot_o_4 P) (.node (boot_o_8 P) .nil .nil) .nil) (.node (boot_o_6 P) (.node (boot_o_10 P) .nil .nil) .nil))
noncomputable def S0(w:bR)(os:o8):HN:=⟨V8 w.params,11,{},#[],boot_drawn,boot_toks,os⟩
def V9(w:bR)(os:o8):(S0 w os).abs=⟨HP w.params,#[],boot_drawn,boot_toks,os⟩:=rfl
def ann:aG aq:=I (.ref 6)
def steps:Nat:=7700
noncomputable def Qp(p:bY):bY:={p with main:={p.main with body:=[p.main.body.getD 177 (.Pass ⟨0,0,0,0⟩)]}}
def B5(p:bY):M aj:=p.boundNames.filter λx=>x !="answers"&&x !="__name__"
noncomputable def JT(p:bY)(w:bR)(s:aI):Bool:=staticsOk [] (HP w.params) s.heap&&namesBound p s.heap&&gensDone s&&laidKept (HP w.params) s.heap
noncomputable def R(p:bY)(w:bR)(os:o8):=yL treeTable (sk p) w 11 ann steps (S0 w os) (topStub (sk p))
noncomputable def FA(p:bY)(w:bR)(os:o8):=(R p w os).map λs=>(openSeen (Qp (sk p)) (B5 (sk p)) [] (λ_=>aa) aa s.abs,JT (sk p) w s.abs)
noncomputable def FB(p:bY)(w:bR)(os:o8):=(R p w os).map λs=>(yI (fragOf s.abs.heap),yJ (fragOf s.abs.heap))
noncomputable def FD0(p:bY)(w:bR)(os:o8):=(R p w os).map λs=>(allB (fragOf s.abs.heap),hashes (fragOf s.abs.heap) "RANGES",hashes (fragOf s.abs.heap) "ASKERS",hashes (fragOf s.abs.heap) "TELLERS")
def O(p:bY):=openGood (Qp (sk p)) (B5 (sk p))
def FA_self:FA=FA:=rfl
def FB_self:FB=FB:=rfl
def FD0_self:FD0=FD0:=rfl
def O_self:O=O:=rfl
name_quick hdA for Hd.FA by Hd.FA_self
name_quick hdB for Hd.FB by Hd.FB_self
name_quick hdC for Hd.FD0 by Hd.FD0_self
name_quick hdO for Hd.O by Hd.O_self
def V_:sk PP=PP:=by kernel_rfl
abbrev wb(w:bR)(b:Bool):bR:=w.withFollow "special-get-raises" b
def Wa(w:bR)(os:o8):PySem.W.Fast.hdA PP (wb w ao) os=I (PySem.W.Fast.hdO PP,aa):=by kernel_rfl
def Wb(w:bR)(os:o8):PySem.W.Fast.hdA PP (wb w aa) os=I (PySem.W.Fast.hdO PP,aa):=by kernel_rfl
def Wc(w:bR)(os:o8):PySem.W.Fast.hdB PP (wb w ao) os=I (qZ,q6):=by kernel_rfl
def Wd(w:bR)(os:o8):PySem.W.Fast.hdB PP (wb w aa) os=I (qZ,q6):=by kernel_rfl
def We0(w:bR)(os:o8):PySem.W.Fast.hdC PP (wb w ao) os=I (aa,vG (wb w ao)):=by kernel_rfl
def Wf0(w:bR)(os:o8):PySem.W.Fast.hdC PP (wb w aa) os=I (aa,vG (wb w aa)):=by kernel_rfl
abbrev Q:bY:=Qp PP
abbrev loose:M aj:=B5 PP
theorem JU:∀(l:M bA)(n a:Nat)(o:bA),(a,o)∈tL n l->n<=a/\l[a-n]? =I o/\(∀c d sl,o≠⟨c,d,.freed,sl⟩)
 |[],n,a,o,h=>by cases h
 |x::l,n,a,o,h=>by
  have up:(a,o)∈tL (n+1) l->n<=a/\(x::l)[a-n]? =I o/\(∀c d sl,o≠⟨c,d,.freed,sl⟩):=λh=>by
   obtain⟨h1,h2,h3⟩:=JU l (n+1) a o h;have e:a-n=(a-(n+1))+1:=by lia
   exists by lia,by rw[e,HQ];exact h2,h3
  unfold tL at h;split at h
  .exact up h
  rename_i hx;cases h with
  |head=>exists aZ _,by rw[uR];rfl,λc d sl z=>hx c d sl z
  |tail _ h=>exact up h
theorem JV{a:af}{o:bA}:∀{l:M (af×bA)},l.lookup a=I o->(a,o)∈l
 |[],h=>by cases h
 |e::l,h=>by
  obtain⟨b,x⟩:=e;rw[eK]at h;cases q:a==b with
  |true=>rw[q]at h;cases h;rw[eq_of_beq q];exact .head _
  |false=>rw[q]at h;exact .tail _ (JV h)
def We(h:bB):(fragOf h).In h:=λa o e=>by
 obtain⟨_,_,e⟩:=Uc.mp (JV e);obtain⟨_,h2,h3⟩:=JU _ _ _ _ (eY.mp e).1;rw[A2,m9]at h2;unfold Heap.get?;rw[h2];split
 .rename_i c d sl z;cases z;exact(h3 _ _ _ G).elim
 rfl
def Wf(w:bR)(os:o8):FA PP w os=I (O PP,aa)/\FB PP w os=I (qZ,q6)/\FD0 PP w os=I (aa,vG w):=by
 have a:∀b,FA PP (wb w b) os=I (O PP,aa)/\FB PP (wb w b) os=I (qZ,q6)/\FD0 PP (wb w b) os=I (aa,vG (wb w b)):=λb=>by
  rw[PySem.W.Fast.hdA_eq,PySem.W.Fast.hdB_eq,PySem.W.Fast.hdC_eq,PySem.W.Fast.hdO_eq];cases b
  .exists Wa w os,Wc w os,We0 w os
  exists Wb w os,Wd w os,Wf0 w os
 have:=a (w.params.followText "special-get-raises");rwa [wb,World.withFollow_self]at this
def JW:importedModules PP.main.body=[]:=by decide+kernel
def Wg{s:aI}{H:bB}{g:Array HR}{d:Drawn}{t:Nat}(h:(s.heap,s.gens,s.drawn,s.toks)=(H,g,d,t)):s=⟨H,g,d,t,s.os⟩:=by cases s;cases h;rfl
def left:LeftO PP Q loose (λ_=>aa) (λs=>tabOf (fragOf s.heap)) vH steps:=λw=>by
 obtain⟨s0,h1,h2⟩:=gP.mp (boot_open (p:=PP) (N:=steps) (by kernel_rfl) G (λ_=>G) w);have es:s0=(S0 w s0.os).abs:=(Wg h2).trans (V9 w s0.os).symm;obtain⟨h0,h8,h9⟩:=Wf w s0.os;unfold FA O at h0;unfold FB at h8;unfold FD0 at h9;unfold R at h0 h8 h9;rw[V_]at h0 h8 h9;obtain⟨s,r1,r3⟩:=gP.mp h0;rw[r1]at h8 h9;obtain⟨r3,r2⟩:=HS r3;obtain⟨r4,ut⟩:=HS (cG h8);obtain⟨M2,u1⟩:=HS (cG h9);have No:=JO r1;unfold openEnds;rw[h1,xN]
 have tf:topFrom treeTable PP w steps s0=I s.abs:=by
  rw[es];unfold topFrom;have e1:((S0 w s0.os).abs.heap.isNs gg&&(S0 w s0.os).abs.gens.size==0)=aa:=by kernel_rfl
  have e2:(S0 w s0.os).abs.heap.objs.size=11:=rfl;have e3:(S0 w s0.os).abs.heap.nsMap gg "__annotations__"=ann:=by kernel_rfl
  rw[e1];dsimp only;rw[e2,e3,No,xN,JW];unfold JT at r2;rw[show(S0 w s0.os).abs.heap=HP w.params from G,r2]
 rw[tf,gh,JW,r3]
 have z:tabOf (fragOf s.abs.heap)=vH w:=by unfold tabOf vH;rw[r4,ut,M2,u1]
 exact cC (λz=>I (openGood Q loose,z)) z
end Hd
namespace L2
open PySem PySem.Spec PyProof.Rows
abbrev Key:=Sum Int aj
def q8:Key->aq->Bool| .inl k,v=>ajw k v| .inr x,v=>ajx x v
def Wh(w:bR):Key->Int| .inl k=>nZ k| .inr x=>o7 w x
def nC:∀{k:Key}{v:aq},q8 k v=aa->(∃i t,k=cP i/\v=qC i t)\/(∃x t,k=jr x/\v=ajy x t)
 | .inl i,v,h=>by obtain⟨t,e⟩:=Ud h;exact .inl ⟨i,t,G,e⟩
 | .inr x,v,h=>by obtain⟨t,e⟩:=Value.isStrOf_shape h;exact .inr ⟨x,t,G,e⟩
def Wi(i:Int)(t:Tok):q8 (.inl i) (.int i t)=aa:=by simp[q8,ajw]
def Wj(x:aj)(t:Tok):q8 (.inr x) (.str x t)=aa:=by simp[q8,ajx]
def Wk(a b:Int):decide ((cP a:Key)=cP b)=(a==b):=by
 by_cases e:a=b
 .subst e;simp
 have h:¬(cP a:Key)=cP b:=λq=>e (Sum.inl.inj q);rw[aV h];exact(gB.mpr e).symm
def Wl(a b:aj):decide ((jr a:Key)=jr b)=decide (a=b):=by
 by_cases e:a=b
 .subst e;simp
 have h:¬(jr a:Key)=jr b:=λq=>e (HU q);rw[aV h,aV e]
def Wm(a:Int)(b:aj):decide ((cP a:Key)=jr b)=ao:=aV (λq=>nomatch q)
def Wn(a:aj)(b:Int):decide ((jr a:Key)=cP b)=ao:=aV (λq=>nomatch q)
def iN(prog:bY)(w:bR):PySem.KeyKind prog w Key where
 is:=q8
 hash:=Wh w
 inj:=λv a b ha hb=>by
  obtain⟨i,t,rfl,rfl⟩|⟨x,t,rfl,rfl⟩:=nC ha
  .obtain⟨j,u,rfl,e⟩|⟨y,u,rfl,e⟩:=nC hb
   .injection e with e1 _;rw[e1]
   exact nomatch e
  obtain⟨j,u,rfl,e⟩|⟨y,u,rfl,e⟩:=nC hb
  .exact nomatch e
  injection e with e1 _;rw[e1]
 byValue:=λk v h=>by obtain⟨i,t,rfl,rfl⟩|⟨x,t,rfl,rfl⟩:=nC h<;>rfl
 pyHash:=λhv h=>by
  obtain⟨i,t,rfl,rfl⟩|⟨x,t,rfl,rfl⟩:=nC hv
  .exact wpAny_pyHash_int h
  exact wpAny_pyHash_str h
 eqBool:=λhu hv h=>by
  obtain⟨i,t,rfl,rfl⟩|⟨x,t,rfl,rfl⟩:=nC hu
  .obtain⟨j,u,rfl,rfl⟩|⟨y,u,rfl,rfl⟩:=nC hv
   .rw[Wk]at h;exact wpAny_eqBool_int h
   rw[Wm]at h;exact ajz i t y u _ _ _ _ h
  obtain⟨j,u,rfl,rfl⟩|⟨y,u,rfl,rfl⟩:=nC hv
  .rw[Wn]at h;exact ajA x t j u _ _ _ _ h
  rw[Wl]at h;exact wpAny_eqBool_str h
 «strs» :=λk x t v h=>by
  obtain⟨i,u,rfl,e⟩|⟨y,u,rfl,e⟩:=nC h
  .exact nomatch e
  injection e with e1 _;subst e1;cases v<;>rfl
def Wo(prog:bY)(w:bR)(i:Int)(t:Tok):(iN prog w).is (.inl i) (.int i t)=aa:=Wi i t
def B6(prog:bY)(w:bR)(x:aj)(t:Tok):(iN prog w).is (.inr x) (.str x t)=aa:=Wj x t
inductive V where
 |bx|bl (b:Bool)|int (i:Int)|str (x:aj)|gX (b:Array UInt8)|oE (b:UInt64)|ref (a:af)|ty (n:String)
 deriving DecidableEq
def RelV:V->aq->Prop| .bx,u=>u=jR| .bl b,u=>u=uS b| .int i,u=>∃t,u=qC i t| .str x,u=>∃t,u=ajy x t| .gX b,u=>∃t,u=Value.bytes b t| .oE b,u=>∃t,u=Value.float b t| .ref a,u=>u=eW a| .ty n,u=>u=m_ n
abbrev Vals:M V->M aq->Prop:=Paired RelV
def Vals.length{xs:M V}{us:M aq}(r:Vals xs us):xs.length=us.length:=sD r
theorem Vals.get:∀{xs:M V}{us:M aq}{i:Nat}{x:V},Vals xs us->xs[i]? =I x->∃u,us[i]? =I u/\RelV x u|_,_,_,_,.nil,e=>by simp at e|_,_,0,_,.cons r _,e=>by simp at e;subst e;exists _,G,r|_,_,i+1,x,.cons _ t,e=>by obtain⟨u,h1,h2⟩:=Vals.get t e;exists u,by simpa using h1,h2
theorem Vals.append:∀{xs ys:M V}{us ws:M aq},Vals xs us->Vals ys ws->Vals (xs++ys) (us++ws)|_,_,_,_,.nil,s=>s|_,_,_,_,.cons r t,s=>.cons r (Vals.append t s)
theorem Vals.take:∀{xs:M V}{us:M aq}(n:Nat),Vals xs us->Vals (xs.take n) (us.take n)|_,_,0,_=>.nil|_,_,_+1,.nil=>.nil|_,_,n+1,.cons r t=>.cons r (Vals.take n t)
theorem Vals.drop:∀{xs:M V}{us:M aq}(n:Nat),Vals xs us->Vals (xs.drop n) (us.drop n)|_,_,0,r=>r|_,_,_+1,.nil=>.nil|_,_,n+1,.cons _ t=>Vals.drop n t
def jd:aG V->aG aq->Prop|some v,I u=>RelV v u|none,ak=>True|_,_=>False
variable{κ:Type}
def KV:M (κ×V)->M (κ×aq)->Prop:=Paired λ(p:κ×V)(q:κ×aq)=>p.1=q.1/\RelV p.2 q.2
def kV:Key->V| .inl i=>.int i| .inr x=>.str x
inductive HO where|lst (xs:List V)|tup (xs:List V)|dK (ae:List (Key×V))|dT (ae:List (List Key×V))|set (S:Int->Bool) (n:Nat)|ins (C dx:af) (fs:List (aj×V))|own (x:af)|B7 (fs:List (aj×V))|met (f x:af)|q_ (lo hi:Int)|cQ (o:bA) (u:HO)|rf (ps:Array aq)|ext (φ:bB->Prop)
abbrev Hp:=af->aG HO
def upd(H:Hp)(a:af)(o:HO):Hp:=λb=>if b=a then I o else H b
variable{H:Hp}{a:af}{o:HO}
def ay:upd H a o a=I o:=by unfold upd;rw[av G]
def aD{b:af}(h:b≠a):upd H a o b=H b:=by unfold upd;rw[au h]
def JX{u:HO}:upd (upd H a o) a u=upd H a u:=by funext b;unfold upd;split<;>rfl
def iC{b:af}{u:HO}(h:H a=I o)(h':H b=I u)(d:o≠u):a≠b:=by intro e;subst e;rw[h]at h';exact d (cG h')
def b_{b:af}(h:H a=I o)(h':H b=ak):a≠b:=by intro e;subst e;rw[h]at h';cases h'
section
variable(P:bY)(w:bR)
def fJ(H:Hp)(h:bB)(a:af):HO->Prop
 | .lst xs=>xs.length<=sizeLine/\∃(ad:M aq)(n:Nat),Vals xs ad/\h.get? a=I {cls:=.type "list",data:=.seq ad.toArray n}| .tup xs=>xs.length<=sizeLine/\∃ad:M aq,Vals xs ad/\sE h a ad.toArray| .dK ae=>ae.length<=sizeLine/\(a==iK)=ao/\∃vs,KV ae vs/\h.DictOf (iN P w) a vs
 | .dT ae=>ae.length<=sizeLine/\(a==iK)=ao/\∃xs:M (M Key×af×aq),
   Paired (λ(p:M Key×V)(q:M Key×af×aq)=>p.1=q.1/\H q.2.1=I (.tup (p.1.map kV))/\RelV p.2 q.2.2) ae xs/\
   ∃o es ep,h.get? a=I o/\o.ExactDict/\o.data= .dict es ep/\es.toList=xs.map (entryOfKey (A3 (iN P w)))/\(xs.map (·.1)).Nodup
 | .set S n=>h.SetOf (intKind P w) a S n
 | .ins C dx fs=>H dx=I (.own a)/\fs.length<=1000/\dx≠a/\h.get? a=I (sF C dx)/\
   ∃mA,h.Ns1 dx mA/\(∀f,jd (fs.lookup f) (mA f))/\Ue mA (fs.map (·.1))
 | .own _=>∃o,h.get? a=I o| .B7 fs=>∃mA,h.Ns1 a mA/\∀f,jd (fs.lookup f) (mA f)| .q_ lo hi=>∃t u v,h.get? a=I {cls:=.type "range",data:=.fields #[.int lo t,.int hi u,.int 1 v]}| .cQ o u=>h.get? a=I o/\fJ H h a u| .rf ps=>h.get? a=I {cls:=.none,data:=.fields ps}| .met f x=>h.get? a=I (PySem.W.methodObj (.ref f) (.ref x))| .ext φ=>φ h/\(∃o,h.get? a=I o)/\∀h1 h2:bB,φ h1->(∀o,h1.get? a=I o->h2.get? a=I o)->φ h2
def dP(H:Hp)(h:bB):Prop:=∀a o,H a=I o->fJ P w H h a o
end
variable{P:bY}{w:bR}{h:bB}
def fJ.lt(x:fJ P w H h a o):a<h.objs.size:=by
 cases o with
 |lst xs=>obtain⟨_,_,_,_,e⟩:=x;exact cH e
 |tup xs=>obtain⟨_,_,_,p⟩:=x;exact p.lt
 |dK ae=>obtain⟨_,_,_,_,o,_,_,e,_⟩:=x;exact cH e
 |dT ae=>obtain⟨_,_,_,_,o,_,_,e,_⟩:=x;exact cH e
 |set S n=>obtain⟨o,_,_,_,e,_⟩:=x;exact cH e
 |ins C dx fs=>obtain⟨_,_,_,e,_⟩:=x;exact cH e
 |own y=>obtain⟨_,e⟩:=x;exact cH e
 |B7 fs=>obtain⟨_,⟨_,_,_,e,_⟩,_⟩:=x;exact cH e
 |q_ lo hi=>obtain⟨_,_,_,e⟩:=x;exact cH e
 |cQ ob u=>obtain⟨e,_⟩:=x;exact cH e
 |rf ps=>exact cH (x)
 |met f y=>exact cH (x)
 |ext φ=>obtain⟨_,⟨_,e⟩,_⟩:=x;exact cH e
theorem Paired.B8{α β:Type}{F ar:α->β->Prop}:∀{l₁:M α}{l₂:M β},Paired F l₁ l₂->(∀a b,F a b->ar a b)->Paired ar l₁ l₂|_,_,.nil,_=>.nil|_,_,.cons r t,f=>.cons (f _ _ r) (Paired.B8 t f)
variable{U:Hp}{h':bB}
def fJ.lB(x:fJ P w H h a o)(k:∀b u,(b=a\/H b=I (.own a))->h.get? b=I u->h'.get? b=I u)
  (ho:∀b,H b=I (.own a)->U b=I (.own a))(ht:∀b xs,H b=I (.tup xs)->U b=I (.tup xs)):fJ P w U h' a o:=by
 induction o with
 |lst xs=>obtain⟨z,ad,n,r,e⟩:=x;exists z,ad,n,r,k _ _ (.inl G) e
 |tup xs=>obtain⟨z,ad,r,ob,e,c⟩:=x;exists z,ad,r,ob,k _ _ (.inl G) e,c
 |dK ae=>obtain⟨z,y,vs,r,ob,es,ep,e,c⟩:=x;exists z,y,vs,r,ob,es,ep,k _ _ (.inl G) e,c
 |dT ae=>obtain⟨z,y,xs,r,ob,es,ep,e,c⟩:=x;exists z,y,xs,Paired.B8 r λp q z=>⟨z.1,ht _ _ z.2.1,z.2.2⟩,ob,es,ep,k _ _ (.inl G) e,c
 |set S n=>obtain⟨ob,es,ep,t,e,c⟩:=x;exists ob,es,ep,t,k _ _ (.inl G) e,c
 |ins C dx fs=>obtain⟨d,z,ne,e,mA,⟨od,es,ep,e2,c⟩,r⟩:=x;exists ho _ d,z,ne,k _ _ (.inl G) e,mA,⟨od,es,ep,k _ _ (.inr d) e2,c⟩,r
 |own y=>obtain⟨ob,e⟩:=x;exists ob,k _ _ (.inl G) e
 |B7 fs=>obtain⟨mA,⟨od,es,ep,e,c⟩,r⟩:=x;exists mA,⟨od,es,ep,k _ _ (.inl G) e,c⟩,r
 |q_ lo hi=>obtain⟨t,u,v,e⟩:=x;exists t,u,v,k _ _ (.inl G) e
 |cQ ob u ih=>obtain⟨e,q⟩:=x;exists k _ _ (.inl G) e,ih q
 |rf ps=>have e:=x;exact k a _ (.inl G) e
 |met f y=>have e:=x;exact k a _ (.inl G) e
 |ext φ=>obtain⟨p,⟨o,e⟩,st⟩:=x;exists st _ _ p λo q=>k _ _ (.inl G) q,⟨o,k _ _ (.inl G) e⟩,st
def dP.lt(x:dP P w H h)(e:H a=I o):a<h.objs.size:=(x a o e).lt
def dP.fresh(x:dP P w H h)(e:h.objs.size<=a):H a=ak:=by
 cases q:H a with
 |none=>rfl
 |some u=>exact aU (gQ (x.lt q) e) (kh _)
def dP.kept(x:dP P w H h)(k:∀b u,h.get? b=I u->h'.get? b=I u):dP P w H h':=λa o e=>(x a o e).lB (λb u _ q=>k b u q) (λ_ q=>q) λ_ _ q=>q
def dP.laid(x:dP P w H h)(k:∀b u,h.get? b=I u->h'.get? b=I u)(hp:h.objs.size<=a)(new:fJ P w (upd H a o) h' a o):dP P w (upd H a o) h':=λb u e=>by
 have hn:=x.fresh hp;by_cases hb:b=a
 .subst hb;rw[ay]at e;cases e;exact new
 rw[aD hb]at e;exact(x b u e).lB (λc v _ q=>k c v q) (λc q=>by rw[aD (b_ q hn)];exact q) λc xs q=>by rw[aD (b_ q hn)];exact q
def Rd(H:Hp)(a:af)(u:HO):Prop:=H a=I u\/∃o,H a=I (.cQ o u)
def Rd.ok{u:HO}(r:Rd H a u)(x:dP P w H h):fJ P w H h a u:=by
 obtain r|⟨o,r⟩:=r
 .exact x a u r
 obtain⟨_,q⟩:=x a _ r;exact q
def pP:aG HO->Prop|some (.lst _)=>True|some (.dK _)=>True|some (.dT _)=>True|some (.set _ _)=>True|some (.ins _ _ _)=>True|some (.ext _)=>True|_=>False
variable{x e:af}{o':HO}
def dP.write(ok:dP P w H h)(mu:pP (H x))(he:e=x\/H e=I (.own x))(k:∀b u,b≠e->h.get? b=I u->h'.get? b=I u)(qr:∃u,h'.get? e=I u)
  (new:fJ P w (upd H x o') h' x o'):dP P w (upd H x o') h':=λb u q=>by
 have JY:∀c y,H c=I (.own y)->c≠x:=λc y r z=>by subst z;rw[r]at mu;exact mu
 have Wq:∀c xs,H c=I (.tup xs)->c≠x:=λc xs r z=>by subst z;rw[r]at mu;exact mu
 by_cases hb:b=x
 .subst hb;rw[ay]at q;cases q;exact new
 rw[aD hb]at q;by_cases m3:b=e
 .have q':H b=I (.own x):=by
   obtain z|z:=he
   .exact aU (m3.trans z) hb
   rw[m3];exact z
  rw[q]at q';cases q';obtain⟨v,hv⟩:=qr;exact⟨v,by rw[m3];exact hv⟩
 refine(ok b u q).lB (λc v hc r=>k c v ?_ r) (λc r=>by rw[aD (JY c b r)];exact r) λc xs r=>by rw[aD (Wq c xs r)];exact r
 obtain rfl|hc:=hc
 .exact m3
 rintro rfl;obtain z|z:=he
 .exact JY c b hc z
 rw[hc]at z;cases z;exact hb G
structure Un(fs ex:M af)(H U:Hp)(h h':bB):Prop where
 keep:∀b o,h.get? b=I o->H b=ak->b∉fs->b∉ex->h'.get? b=I o
 slot:∀b o,h.get? b=I o->H b=ak->b∈fs->b∉ex->∃sl,h'.get? b=I {o with slots:=sl}
 free:∀b o,h.get? b=I o->H b=ak->b∉ex->U b=ak
 there:∀b o,h.get? b=I o->b∉ex->∃o',h'.get? b=I o'
 jA:∀b xs,H b=I (.tup xs)->U b=I (.tup xs)
 kI:∀b o u,H b=I (.cQ o u)->U b=I (.cQ o u)
 mF:∀b ps,H b=I (.rf ps)->∃more,U b=I (.rf (ps++more))
section
variable{fs Wr ex ex':M af}{H H1 H2:Hp}{h h1 h2 h':bB}{a x e:af}{o:HO}
def Un.any(u:Un fs ex H H1 h h1){b:af}{ob:bA}(q:h.get? b=I ob)(n:H b=ak)(hx:b∉ex):∃sl,h1.get? b=I {ob with slots:=sl}:=by
 by_cases hb:b∈fs
 .exact u.slot b ob q n hb hx
 exists ob.slots,u.keep b ob q n hb hx
def Un.kept(k:∀b u,h.get? b=I u->h'.get? b=I u):Un fs ex H H h h':=⟨λb ob q _ _ _=>k b ob q,λb ob q _ _ _=>⟨ob.slots,k b ob q⟩,λ_ _ _ n _=>n,λb ob q _=>⟨ob,k b ob q⟩,λ_ _ q=>q,λ_ _ _ q=>q,λ_ ps q=>⟨#[],by rw[q];simp⟩⟩
def Un.refl:Un fs ex H H h h:=Un.kept λ_ _ q=>q
def Un.laid(k:∀b u,h.get? b=I u->h'.get? b=I u)(hp:h.objs.size<=a)(hn:H a=ak):Un fs ex H (upd H a o) h h' where
 keep:=λb u q _ _ _=>k b u q
 slot:=λb u q _ _ _=>⟨u.slots,k b u q⟩
 free:=λb u q n _=>by rw[aD (d_ (gQ (cH q) hp))];exact n
 there:=λb u q _=>⟨u,k b u q⟩
 jA:=λb xs q=>by rw[aD (b_ q hn)];exact q
 kI:=λb u xs q=>by rw[aD (b_ q hn)];exact q
 mF:=λb ps q=>⟨#[],by rw[aD (b_ q hn),q];simp⟩
def Un.write(mu:pP (H x))(he:e=x\/H e=I (.own x))(k:∀b u,b≠e->h.get? b=I u->h'.get? b=I u)(qr:∃u,h'.get? e=I u):Un fs ex H (upd H x o) h h':=by
 have hx:∀b,H b=ak->b≠x:=λb n z=>by subst z;rw[n]at mu;exact mu
 have hb:∀b,H b=ak->b≠e:=λb n z=>by
  subst z;obtain r|r:=he
  .exact hx b n r
  rw[n]at r;cases r
 have hm:∀b u,H b=I u->¬pP (I u)->b≠x:=λb u q nm z=>by subst z;rw[q]at mu;exact nm mu
 refine⟨λb u q n _ _=>k b u (hb b n) q,λb u q n _ _=>⟨u.slots,k b u (hb b n) q⟩,λb u q n _=>by rw[aD (hx b n)];exact n,λb u q _=> ?_,λb xs q=>by rw[aD (hm b _ q λz=>z)];exact q,λb u xs q=>by rw[aD (hm b _ q λz=>z)];exact q,λb ps q=>⟨#[],by rw[aD (hm b _ q λz=>z),q];simp⟩⟩;by_cases m3:b=e
 .subst m3;exact qr
 exists u,k b u m3 q
end
def yN(h:bB)(H:Hp):M af:=(gR h.objs.size).filter λa=>(H a).isSome
def oF(h:bB)(H:Hp):bB:=PySem.W.hideAll h (yN h H)
def Ws(h:bB)(H:Hp):(oF h H).objs.size=h.objs.size:=PySem.W.hideAll_size _ _
variable{o:bA}
def Wt{b:af}(e:h.get? b=I o)(n:H b=ak):(oF h H).get? b=I o:=PySem.W.hideAll_get _ e λhm=>by have q:=(eY.mp hm).2;rw[n]at q;simp at q
def Wu{b:af}(e:(oF h H).get? b=I o):h.get? b=I o/\H b=ak:=by
 have e':=PySem.W.of_hideAll (yN h H) e;exists e';cases q:H b with
 |none=>rfl
 |some x=>have hm:b∈yN h H:=eY.mpr ⟨ajB.mpr (cH e'),by simp[q]⟩;have z:(oF h H).get? b=ak:=PySem.W.hideAll_none (yN h H) hm;rw[z]at e;cases e
structure Mod(K:aR)(mg:aj->aG aq)(ai:bB):Prop where
 tN:K.In ai
 glob:ai.Ns gg mg
 blt:∃mb,ai.Ns HJ mb/\∀x:aj,x≠"__name__"->mb x=jt x
 nolimit:ai.NoLimit
structure Cx where
 prog:bY
 w:bR
 K:aR
 mg:aj->aG aq
 ai:bB
 A:eZ
 N:M aj
 gp:aI
 pQ:Hp
 env:gj
 b8:M gj
 stack:M gj
 ex:M af
 fn:aj->Bool
 calm:Bool
 pn:M (af×bA)
 xe:aq->aI->Prop
def mG(l:M gj):M af:=l.filterMap (·.frame)
abbrev Cx.fs(X:Cx):M af:=mG X.b8
def rg(sc:jP)(x:aj):Prop:=sc.names.lookup x=I .local\/sc.names.lookup x=I .cell\/sc.names.lookup x=I .free
def Loc(sc:jP)(x:aj):Prop:=sc.names.lookup x=I .local\/sc.names.lookup x=I .cell
def Look(env:gj)(h:bB)(m:aj->aG aq)(x:aj)(u:aq):Prop:=(env.kindOf x=I .local/\m x=I u)\/((env.kindOf x=I .cell\/env.kindOf x=I .free)/\∃c,env.cells.lookup x=I c/\h.IsCell c (I u))
structure Cx.Ok(X:Cx):Prop where
 mod:Mod X.K X.mg X.ai
 kind:X.env.scope.kind= .function
 glob:X.env.globals=gg
 blt:X.env.builtins=HJ
 above:X.gp.heap.objs.size<=X.env.locals
 inj:∀x y c,X.env.cells.lookup x=I c->X.env.cells.lookup y=I c->x=y
 has:∀x,(X.env.kindOf x=I .cell\/X.env.kindOf x=I .free)->∃c,X.env.cells.lookup x=I c
 vI:∀x c,X.fn x=aa->X.env.cells.lookup x=I c->X.gp.heap.objs.size<=c
 hd:X.calm=aa->X.A.handled=ak
 frames:X.A.frames=I X.stack
 yO:X.stack=X.b8\/(X.stack=X.env::X.b8/\X.env.frame=I X.env.locals)
 yP:∀b∈X.ex,b≠X.env.locals/\∀x c,X.env.cells.lookup x=I c->c≠b
 bs:∀b o,X.ai.get? b=I o->X.gp.heap.get? b=I o/\X.pQ b=ak
 nD:X.ai.objs.size<=X.gp.heap.objs.size
 vJ:∀b o,X.ai.get? b=I o->b∉X.ex
 tO:∀b∈X.ex,b∉X.fs
 kJ:X.gp.heap.FunFrames X.ai X.b8
 pR:∀b∈X.fs,X.pQ b=ak
structure Inv(X:Cx)(pins:M (af×bA))(σ:M (aG V))(H:Hp)(s:aI):Prop where
 ok:X.Ok
 os:s.os=X.gp.os
 bare:uT s.gens
 ai:Un X.fs X.ex X.pQ H X.gp.heap s.heap
 loc:∃m,s.heap.Ns X.env.locals m/\∀(i:Nat)(x:aj)(v:V),X.N[i]? =I x->σ[i]? =I (I v)->rg X.env.scope x->∃u,RelV v u/\Look X.env s.heap m x u
 cell:∀x c,X.env.cells.lookup x=I c->∃v,s.heap.IsCell c v
 free:H X.env.locals=ak
 je:∀x c,X.env.cells.lookup x=I c->H c=ak
 pin:∀p∈X.pn++pins,s.heap.get? p.1=I p.2/\H p.1=ak/\p.1≠X.env.locals/\p.1∉X.fs/\∀v,p.2.data≠ .cell v
 aQ:dP X.prog X.w H s.heap
 len:σ.length=X.N.length
variable{X:Cx}
def Cx.Ok.Wv(ok:X.Ok){b:af}(e:X.ai.get? b=I o):b∉X.fs:=λhb=>by have:=(ok.kJ.mem hb).1;rw[e]at this;cases this
variable{pins:M (af×bA)}{σ:M (aG V)}{s:aI}
def Inv.bs(ab:Inv X pins σ H s):∀b o,X.ai.get? b=I o->s.heap.get? b=I o/\H b=ak:=λb o e=>⟨ab.ai.keep b o (ab.ok.bs b o e).1 (ab.ok.bs b o e).2 (ab.ok.Wv e) (ab.ok.vJ b o e),ab.ai.free b o (ab.ok.bs b o e).1 (ab.ok.bs b o e).2 (ab.ok.vJ b o e)⟩
def Inv.fy(ab:Inv X pins σ H s):∀b o,X.ai.get? b=I o->s.heap.get? b=I o:=λb o e=>(ab.bs b o e).1
def Inv.mod(ab:Inv X pins σ H s):Mod X.K X.mg X.ai:=ab.ok.mod
def Inv.iO(ab:Inv X pins σ H s):X.K.In s.heap:=ab.ok.mod.tN.keeps ab.fy
def Inv.fr(ab:Inv X pins σ H s):∃m,Fr X.ai X.env.locals s.heap m:=
 let⟨m,hn,_⟩:=ab.loc
 ⟨m,hn,ab.fy,cX ab.ok.nD ab.ok.above⟩
def Inv.lt(ab:Inv X pins σ H s):X.env.locals<s.heap.objs.size:=let⟨_,hn,_⟩:=ab.loc;hn.lt
def Inv.sz(ab:Inv X pins σ H s):X.gp.heap.objs.size<=s.heap.objs.size:=cX ab.ok.above (uU ab.lt)
def Inv.Ww(ab:Inv X pins σ H s)(h:s.heap.objs.size<=a):a∉X.fs:=λhb=>by obtain⟨_,o,ho,_⟩:=ab.ok.kJ.mem hb;exact aU (gQ (cH ho) (cX ab.sz h)) (kh _)
def Inv.ri(ab:Inv X pins σ H s):∀x c,X.env.cells.lookup x=I c->c≠X.env.locals:=λx c e z=>by obtain⟨v,o,ho,hd⟩:=ab.cell x c e;obtain⟨m,⟨o',es,ep,c9,eD,_⟩,_⟩:=ab.loc;rw[z,c9]at ho;cases ho;rw[eD]at hd;cases hd
def Inv.kJ(ab:Inv X pins σ H s):s.heap.FunFrames X.ai X.b8:=by
 have all:∀(l:M gj),(∀b∈mG l,b∈X.fs)->X.gp.heap.FunFrames X.ai l->s.heap.FunFrames X.ai l:=by
  intro l;induction l with
  |nil=>intro _ _;trivial
  |cons env r ih=>intro hs hl;obtain⟨hk,⟨L,o,hf,hn,ho,hd⟩,hr⟩:=hl;have hL:=hs L (by unfold mG;rw[n5,hf];exact bW);obtain⟨sl,e⟩:=ab.ai.slot L o ho (ab.ok.pR L hL) hL λz=>ab.ok.tO L z hL;exact⟨hk,⟨L,_,hf,hn,e,hd⟩,ih (λb hb=>hs b (by unfold mG;rw[n5,hf];exact bZ _ hb)) hr⟩
 exact all X.b8 (λ_ hb=>hb) ab.ok.kJ
def Inv.stack(ab:Inv X pins σ H s):s.heap.FunFrames X.ai X.stack:=by
 obtain e|⟨e,hf⟩:=ab.ok.yO
 .rw[e];exact ab.kJ
 rw[e];obtain⟨m,hn,_⟩:=ab.loc;exact .cons (by rw[ab.ok.kind];decide) hf hn (Heap.get?_none_of_le (cX ab.ok.nD ab.ok.above)) ab.kJ
def Inv.B9(ab:Inv X pins σ H s):∀b∈mG X.stack,b∈X.env.locals::X.fs:=λb hb=>by
 obtain e|⟨e,hf⟩:=ab.ok.yO
 .rw[e]at hb;exact bZ _ hb
 rw[e]at hb;unfold mG at hb;rw[n5,hf]at hb;exact hb
def Inv.JZ(ab:Inv X pins σ H s):∀b∈mG X.stack,H b=ak:=λb hb=>by
 obtain e|hb:=bh.mp (ab.B9 b hb)
 .rw[e];exact ab.free
 obtain⟨_,o,ho,_⟩:=ab.ok.kJ.mem hb;exact ab.ai.free b o ho (ab.ok.pR b hb) λz=>ab.ok.tO b z hb
variable{g':Array HR}{t':Nat}{d':Drawn}{ch:M af}
def Inv.step(ab:Inv X pins σ H s)
  (ik:∀b∈ch,(b∈X.ex\/X.gp.heap.objs.size<=b)/\b≠X.env.locals/\(∀x c,X.env.cells.lookup x=I c->c≠b)/\∀p∈X.pn++pins,p.1≠b)
  (keep:∀b o,b≠X.env.locals->b∉X.fs->b∉ch->s.heap.get? b=I o->H b=ak->h'.get? b=I o)
  (slot:∀b o,b≠X.env.locals->b∈X.fs->b∉ch->s.heap.get? b=I o->H b=ak->∃sl,h'.get? b=I {o with slots:=sl})(free:∀b o,b∉ch->s.heap.get? b=I o->H b=ak->U b=ak)
  (there:∀b o,b∉ch->s.heap.get? b=I o->∃o',h'.get? b=I o')
  (jA:∀b xs,H b=I (.tup xs)->U b=I (.tup xs))(kI:∀b o u,H b=I (.cQ o u)->U b=I (.cQ o u))(mF:∀b ps,H b=I (.rf ps)->∃more,U b=I (.rf (ps++more)))
  (ns:∀m,s.heap.Ns X.env.locals m->h'.Ns X.env.locals m)(aQ:dP X.prog X.w U h')(hg:uT g'):
  Inv X pins σ U {s with heap:=h',gens:=g',drawn:=d',toks:=t'}:=by
 have J0:∀b o,X.gp.heap.get? b=I o->b≠X.env.locals:=λb o e=>d_ (gQ (cH e) ab.ok.above)
 have Bz:∀b o,X.gp.heap.get? b=I o->b∉X.ex->b∉ch:=λb o e hx hb=>by
  obtain z|z:=(ik b hb).1
  .exact hx z
  exact aU (gQ (cH e) z) (kh _)
 have J1:∀x c,X.env.cells.lookup x=I c->∀v,s.heap.IsCell c v->h'.IsCell c v:=λx c e v⟨o,ho,hd⟩=>by
  have u3:=λz=>(ik c z).2.2.1 x c e G;by_cases hc:c∈X.fs
  .obtain⟨sl,q⟩:=slot c o (ab.ri x c e) hc u3 ho (ab.je x c e);exists _,q,hd
  exists o,keep c o (ab.ri x c e) hc u3 ho (ab.je x c e),hd
 exists ab.ok,ab.os,hg,⟨λb o e n hb hx=> ?_,λb o e n hb hx=> ?_,λb o e n hx=> ?_,λb o e hx=> ?_,λb xs e=>jA b xs (ab.ai.jA b xs e),λb o xs e=>kI b o xs (ab.ai.kI b o xs e),λb ps e=> ?_⟩,?_,λx c e=> ?_,?_,λx c e=> ?_,λp hp=> ?_,aQ,ab.len
 .exact keep b o (J0 b o e) hb (Bz b o e hx) (ab.ai.keep b o e n hb hx) (ab.ai.free b o e n hx)
 .obtain⟨sl,e1⟩:=ab.ai.slot b o e n hb hx;obtain⟨Wx,e2⟩:=slot b _ (J0 b o e) hb (Bz b o e hx) e1 (ab.ai.free b o e n hx);exists Wx,e2
 .obtain⟨o',e1⟩:=ab.ai.there b o e hx;exact free b o' (Bz b o e hx) e1 (ab.ai.free b o e n hx)
 .obtain⟨o',e1⟩:=ab.ai.there b o e hx;exact there b o' (Bz b o e hx) e1
 .obtain⟨m1,e1⟩:=ab.ai.mF b ps e;obtain⟨m2,e2⟩:=mF b _ e1;exact⟨m1++m2,by rw[e2,Array.append_assoc]⟩
 .obtain⟨m,hn,hl⟩:=ab.loc;refine⟨m,ns m hn,λi x v e1 e2 e3=> ?_⟩;obtain⟨u,r,l⟩:=hl i x v e1 e2 e3;exists u,r;obtain l|⟨k,c,e,z⟩:=l
  .exact .inl l
  exact .inr ⟨k,c,e,J1 x c e _ z⟩
 .obtain⟨v,z⟩:=ab.cell x c e;exists v,J1 x c e v z
 .obtain⟨m,⟨o,_,_,ho,_⟩,_⟩:=ab.loc;exact free _ o (λz=>(ik _ z).2.1 G) ho ab.free
 .obtain⟨v,o,ho,hd⟩:=ab.cell x c e;exact free c o (λz=>(ik c z).2.2.1 x c e G) ho (ab.je x c e)
 obtain⟨e,n,ne,nf,d⟩:=ab.pin p hp;have u3:=λz=>(ik p.1 z).2.2.2 p hp G;exists keep p.1 p.2 ne nf u3 e n,free p.1 p.2 u3 e n,ne,nf,d
def Inv.un(ab:Inv X pins σ H s)(u:Un X.fs [] H U s.heap h')(aQ:dP X.prog X.w U h'):Inv X pins σ U {s with heap:=h',toks:=t'}:=by
 obtain⟨m,⟨o,es,ep,ho,r⟩,_⟩:=id ab.loc;obtain⟨sl,hL⟩:=u.any ho ab.free (by simp)
 exact ab.step (g':=s.gens) (d':=s.drawn) (ch:=[]) (λ_ z=>nomatch z) (λb o _ hb _ e n=>u.keep b o e n hb (by simp)) (λb o _ hb _ e n=>u.slot b o e n hb (by simp)) (λb o _ e n=>u.free b o e n (by simp)) (λb o _ e=>u.there b o e (by simp)) u.jA u.kI u.mF (λm' hm=>by obtain⟨o',bv,en,c9,r'⟩:=hm;rw[ho]at c9;cases c9;exists _,bv,en,hL,r') aQ ab.bare
def Inv.call(ab:Inv X pins σ H s)(u:Un (mG X.stack) ch H U s.heap h')(aQ:dP X.prog X.w U h')(hg:uT g')
  (ik:∀b∈ch,(b∈X.ex\/X.gp.heap.objs.size<=b)/\b≠X.env.locals/\(∀x c,X.env.cells.lookup x=I c->c≠b)/\∀p∈X.pn++pins,p.1≠b):
  Inv X pins σ U {s with heap:=h',gens:=g',drawn:=d',toks:=t'}:=by
 obtain⟨m,⟨o,es,ep,ho,r⟩,_⟩:=id ab.loc;obtain⟨sl,hL⟩:=u.any ho ab.free λz=>(ik _ z).2.1 G
 exact ab.step ik (λb o hL hb hc e n=>u.keep b o e n (λz=>(bh.mp (ab.B9 b z)).elim hL hb) hc) (λb o _ _ hc e n=>u.any e n hc) (λb o hc e n=>u.free b o e n hc) (λb o hc e=>u.there b o e hc) u.jA u.kI u.mF (λm' hm=>by obtain⟨o',bv,en,c9,r'⟩:=hm;rw[ho]at c9;cases c9;exists _,bv,en,hL,r') aQ hg
variable{it:af}
def Inv.turned(ab:Inv X pins σ H s)(k:∀b o,b≠it->s.heap.get? b=I o->h'.get? b=I o)(hn:H it=ak)(hL:it≠X.env.locals)
  (h1:it∈X.ex\/X.gp.heap.objs.size<=it)(h2:∀x c,X.env.cells.lookup x=I c->c≠it)(h3:∀p∈X.pn++pins,p.1≠it):Inv X pins σ H {s with heap:=h',toks:=t'}:=by
 have mc:∀b u,H b=I u->b≠it:=λb u e z=>by rw[z,hn]at e;cases e
 refine ab.step (g':=s.gens) (d':=s.drawn) (ch:=[it]) (λb hb=> ?_) (λb o _ _ hc e _=>k b o (λz=>hc (by simp[z])) e) (λb o _ _ hc e _=>⟨o.slots,k b o (λz=>hc (by simp[z])) e⟩) (λ_ _ _ _ n=>n)
  (λb o hc e=>⟨o,k b o (λz=>hc (by simp[z])) e⟩) (λ_ _ e=>e) (λ_ _ _ e=>e) (λb ps e=>⟨#[],by rw[e];simp⟩) (λm hm=> ?_) (λb u e=> ?_) ab.bare
 .have e:b=it:=by simpa using hb
  subst e;exists h1,hL,h2,h3
 .obtain⟨o,es,ep,ho,r⟩:=hm;exists o,es,ep,k _ o (ie hL) ho,r
 refine(ab.aQ b u e).lB (λc v hc q=>k c v ?_ q) (λ_ q=>q) λ_ _ q=>q;obtain z|z:=hc
 .rw[z];exact mc b u e
 exact mc c _ z
def Inv.tok(ab:Inv X pins σ H s)(t:Nat):Inv X pins σ H {s with toks:=t}:=ab.un (h':=s.heap) (t':=t) Un.refl ab.aQ
def Inv.kept{t':Nat}(ab:Inv X pins σ H s)(k:∀b u,s.heap.get? b=I u->h'.get? b=I u):Inv X pins σ H {s with heap:=h',toks:=t'}:=ab.un (Un.kept k) (ab.aQ.kept k)
def Inv.laid{a:af}{o:HO}{t':Nat}(ab:Inv X pins σ H s)(k:∀b u,s.heap.get? b=I u->h'.get? b=I u)(hp:s.heap.objs.size<=a)(new:fJ X.prog X.w (upd H a o) h' a o):
  Inv X pins σ (upd H a o) {s with heap:=h',toks:=t'}:=ab.un (Un.laid k hp (ab.aQ.fresh hp)) (ab.aQ.laid k hp new)
def Inv.write{x e:af}{o:HO}{t':Nat}(ab:Inv X pins σ H s)(mu:pP (H x))(he:e=x\/H e=I (.own x))(k:∀b u,b≠e->s.heap.get? b=I u->h'.get? b=I u)(qr:∃u,h'.get? e=I u)
  (new:fJ X.prog X.w (upd H x o) h' x o):Inv X pins σ (upd H x o) {s with heap:=h',toks:=t'}:=ab.un (Un.write mu he k qr) (ab.aQ.write mu he k qr new)
def Inv.weak{σ':M (aG V)}(ab:Inv X pins σ H s)(hl:σ'.length=σ.length)(w:∀(i:Nat)v,σ'[i]? =I (I v)->σ[i]? =I (I v)):Inv X pins σ' H s:=⟨ab.ok,ab.os,ab.bare,ab.ai,let⟨m,hn,d3⟩:=ab.loc;⟨m,hn,λi x v e1 e2 e3=>d3 i x v e1 (w i v e2) e3⟩,ab.cell,ab.free,ab.je,ab.pin,ab.aQ,hl.trans ab.len⟩
def Inv.J2{J3:M (af×bA)}(ab:Inv X pins σ H s)(h:∀p∈J3,s.heap.get? p.1=I p.2/\H p.1=ak/\p.1≠X.env.locals/\p.1∉X.fs/\∀v,p.2.data≠ .cell v):Inv X J3 σ H s:=⟨ab.ok,ab.os,ab.bare,ab.ai,ab.loc,ab.cell,ab.free,ab.je,λp hp=>(dG.mp hp).elim (λz=>ab.pin p (k6 _ z)) (h p),ab.aQ,ab.len⟩
variable{N:M aj}{i j:Nat}{x:aj}
def B_(hN:N.Nodup)(a:N[i]? =I x)(b:N[j]? =I x):i=j:=by obtain⟨h1,e1⟩:=eL.mp a;obtain⟨h2,e2⟩:=eL.mp b;exact(List.getElem_inj hN).mp (e1.trans e2.symm)
variable{a5:Model}{A:eZ}{E:aq->aI->Prop}{v:V}{u:aq}
def J4{Q:Unit->aI->Prop}(ab:Inv X pins σ H s)(hN:X.N.Nodup)(hi:X.N[i]? =I x)(hx:Loc X.env.scope x)(r:RelV v u)
  (h:∀s',Inv X pins (σ.set i (I v)) H s'->(∃a,o9 a s.heap s'.heap/\(a=X.env.locals\/X.env.cells.lookup x=I a))->Q () s')(hf:X.fn x=aa\/X.env.scope.names.lookup x=I .local:=by first|exact .inl G|exact .inr G|assumption):aJ a5 A (Ug X.env x u) Q E s:=by
 obtain⟨m,hn,hl⟩:=id ab.loc;have Wy:(X.env.scope.kind== .class||(X.env.scope.kind== .module&&X.env.locals !=X.env.globals))=ao:=by rw[ab.ok.kind];rfl
 have hiσ:i<σ.length:=by rw[ab.len];exact(eL.mp hi).1
 have ri:=ab.ri
 have J5:∀{a:af}{h':bB},(∃o,s.heap.get? a=I o/\H a=ak)->o9 a s.heap h'->dP X.prog X.w H h':=λ{a h'}ha hs b ob e=>by
  obtain⟨_,_,q0⟩:=ha;refine(ab.aQ b ob e).lB (λc w' hc q=>(hs.2 c ?_).trans q) (λ_ q=>q) λ_ _ q=>q;rintro rfl;obtain rfl|hc:=hc
  .rw[q0]at e;cases e
  rw[q0]at hc;cases hc
 obtain hk|hk:=hx
 .refine wpAny_storeName_local hk hn (λh' Wz hs=> ?_) Wy;obtain⟨WA,_,_,WB,_⟩:=id hn;refine h _ ⟨ab.ok,ab.os,ab.bare,⟨λb o e n hb hx=> ?_,λb o e n hb hx=> ?_,ab.ai.free,λb o e hx=> ?_,ab.ai.jA,ab.ai.kI,ab.ai.mF⟩,⟨_,Wz,λj y v' e1 e2 e3=> ?_⟩,λy c e=> ?_,ab.free,ab.je,λp hp=> ?_,J5 ⟨WA,WB,ab.free⟩ hs,by simpa using ab.len⟩ ⟨_,hs,.inl G⟩
  .exact(hs.2 b (d_ (gQ (cH e) ab.ok.above))).trans (ab.ai.keep b o e n hb hx)
  .obtain⟨sl,e1⟩:=ab.ai.slot b o e n hb hx;exists sl,(hs.2 b (d_ (gQ (cH e) ab.ok.above))).trans e1
  .obtain⟨o',e1⟩:=ab.ai.there b o e hx;exists o',(hs.2 b (d_ (gQ (cH e) ab.ok.above))).trans e1
  .by_cases hj:j=i
   .subst hj;rw[hi]at e1;cases e1;rw[Uh hiσ]at e2;cases e2;exact⟨u,r,.inl ⟨hk,by simp⟩⟩
   rw[Ui (ie hj)]at e2;obtain⟨u',r',q⟩:=hl j y v' e1 e2 e3;exists u',r';obtain⟨k,e⟩|⟨k,c,e,z⟩:=q
   .refine .inl ⟨k,?_⟩;have:y≠x:=λe=>hj (B_ hN e1 (e▸hi));simp[this,e]
   exact .inr ⟨k,c,e,z.sameBut hs (ri y c e)⟩
  .obtain⟨w',z⟩:=ab.cell y c e;exists w',z.sameBut hs (ri y c e)
  obtain⟨e,n,ne,nf,d⟩:=ab.pin p hp;exists(hs.2 p.1 ne).trans e,n,ne,nf,d
 have Nw:X.fn x=aa:=by
  obtain z|z:=hf
  .exact z
  rw[z]at hk;cases hk
 obtain⟨c,hc⟩:=ab.ok.has x (.inl hk);obtain⟨w',z⟩:=ab.cell x c hc;refine wpAny_storeName_cell ab.ok.kind hk hc z (λh' ca hs=> ?_);obtain⟨oc,J6,WC⟩:=id z;refine h {s with heap:=h'} ⟨ab.ok,ab.os,ab.bare,⟨λb o e n hb hx=> ?_,λb o e n hb hx=> ?_,ab.ai.free,λb o e hx=> ?_,ab.ai.jA,ab.ai.kI,ab.ai.mF⟩,⟨m,hn.sameBut hs (ie (ri x c hc)),λj y v' e1 e2 e3=> ?_⟩,λy c' e=> ?_,ab.free,ab.je,λp hp=> ?_,J5 ⟨oc,J6,ab.je x c hc⟩ hs,by simpa using ab.len⟩ ⟨c,hs,.inr hc⟩
 .exact(hs.2 b (d_ (gQ (cH e) (ab.ok.vI x c Nw hc)))).trans (ab.ai.keep b o e n hb hx)
 .obtain⟨sl,e1⟩:=ab.ai.slot b o e n hb hx;exists sl,(hs.2 b (d_ (gQ (cH e) (ab.ok.vI x c Nw hc)))).trans e1
 .obtain⟨o',e1⟩:=ab.ai.there b o e hx;exists o',(hs.2 b (d_ (gQ (cH e) (ab.ok.vI x c Nw hc)))).trans e1
 .by_cases hj:j=i
  .subst hj;rw[hi]at e1;cases e1;rw[Uh hiσ]at e2;cases e2;exists u,r,.inr ⟨.inl hk,c,hc,ca⟩
  rw[Ui (ie hj)]at e2;obtain⟨u',r',q⟩:=hl j y v' e1 e2 e3;exists u',r';obtain q|⟨k,c',e,z'⟩:=q
  .exact .inl q
  refine .inr ⟨k,c',e,z'.sameBut hs ?_⟩;rintro rfl;exact hj (B_ hN e1 (ab.ok.inj _ _ _ e hc▸hi))
 .by_cases eI:c'=c
  .subst eI;exists _,ca
  obtain⟨WD,z2⟩:=ab.cell y c' e;exists WD,z2.sameBut hs eI
 obtain⟨e,n,ne,nf,d⟩:=ab.pin p hp;exists(hs.2 p.1 ?_).trans e,n,ne,nf,d;intro q;rw[q,J6]at e;have q':=cG e;exact d w' (by rw[<-q'];exact WC)
def Ca{Q:Unit->aI->Prop}(ab:Inv X pins σ H s)(hN:X.N.Nodup)(hi:X.N[i]? =I x)(hx:Loc X.env.scope x)(r:RelV v u)
  (h:∀s',Inv X pins (σ.set i (I v)) H s'->Q () s')(hf:X.fn x=aa\/X.env.scope.names.lookup x=I .local:=by first|exact .inl G|exact .inr G|assumption):aJ a5 A (Ug X.env x u) Q E s:=
 J4 ab hN hi hx r (λs' I' _=>h s' I') hf
variable{s':aI}
def Inv.WE(ab:Inv X pins σ H s)(ho:s'.os=s.os)(u:Un (mG X.stack) ch H U s.heap s'.heap)(aQ:dP X.prog X.w U s'.heap)(hg:uT s'.gens)
  (ik:∀b∈ch,(b∈X.ex\/X.gp.heap.objs.size<=b)/\b≠X.env.locals/\(∀x c,X.env.cells.lookup x=I c->c≠b)/\∀p∈X.pn++pins,p.1≠b):Inv X pins σ U s':=by
 obtain⟨h',g',d',t',o'⟩:=s';have e:=ho;subst e;exact ab.call (g':=g') (t':=t') (d':=d') u aQ hg ik
abbrev XK:=aq->aG af->Hp->Prop
abbrev St:=M (aG V)
abbrev VK:=V->Hp->Prop
abbrev TE:=St->Hp->VK->Prop
abbrev TT:=St->Hp->(Bool->Hp->Prop)->Prop
abbrev TA:=St->Hp->(M V->Hp->Prop)->Prop
structure mH where
 nx:St->Hp->Prop
 rt:VK
 fy:St->Hp->Prop:=λ_ _=>False
 ct:St->Hp->Prop:=λ_ _=>False
abbrev TS:=mH->St->Hp->Prop
def EP(X:Cx)(pins:M (af×bA))(σ:St)(Q:VK)(u:aq)(s':aI):Prop:=∃v U,Inv X pins σ U s'/\RelV v u/\Q v U
def TP(X:Cx)(pins:M (af×bA))(σ:St)(Q:Bool->Hp->Prop)(b:Bool)(s':aI):Prop:=∃U,Inv X pins σ U s'/\Q b U
def AP(X:Cx)(pins:M (af×bA))(σ:St)(Q:M V->Hp->Prop)(us:M aq)(s':aI):Prop:=∃vs U,Inv X pins σ U s'/\Vals vs us/\Q vs U
def SP(X:Cx)(pins:M (af×bA))(D:mH)(f:Flow)(s':aI):Prop:=
 match f with
 | .next=>∃σ' U,Inv X pins σ' U s'/\D.nx σ' U
 | .brk=>∃σ' U,Inv X pins σ' U s'/\D.fy σ' U
 | .cont=>∃σ' U,Inv X pins σ' U s'/\D.ct σ' U
 | .ret u=>∃v σ' U,Inv X pins σ' U s'/\RelV v u/\D.rt v U
def PE(X:Cx)(e:bE)(t:TE):Prop:=∀(pins:M (af×bA))(s:aI)(σ:St)(H:Hp)(Q:VK),Inv X pins σ H s->t σ H Q->aJ (aL X.prog X.w) X.A (eval e X.env) (EP X pins σ Q) X.xe s
def PT(X:Cx)(e:bE)(t:TT):Prop:=∀(pins:M (af×bA))(s:aI)(σ:St)(H:Hp)(Q:Bool->Hp->Prop),Inv X pins σ H s->t σ H Q->aJ (aL X.prog X.w) X.A (xO e X.env (eval e X.env)) (TP X pins σ Q) X.xe s
def PW(X:Cx)(e:bE)(t:TT):Prop:=∀(whole:jS aq)(pins:M (af×bA))(s:aI)(σ:St)(H:Hp)(Q:Bool->Hp->Prop),Inv X pins σ H s->t σ H Q->aJ (aL X.prog X.w) X.A (xO e X.env whole) (TP X pins σ Q) X.xe s
variable{e:bE}
def PW.pt{t:TT}(h:PW X e t):PT X e t:=h _
def PA(X:Cx)(es:M bE)(t:TA):Prop:=∀(pos:fG)(pins:M (af×bA))(s:aI)(σ:St)(H:Hp)(Q:M V->Hp->Prop),Inv X pins σ H s->t σ H Q->aJ (aL X.prog X.w) X.A (spliced (fH pos (bS es X.env))) (AP X pins σ Q) X.xe s
def PS(X:Cx)(st:b5)(t:TS):Prop:=∀(pins:M (af×bA))(s:aI)(σ:St)(H:Hp)(D:mH),Inv X pins σ H s->t D σ H->aJ (aL X.prog X.w) X.A (exec st X.env) (SP X pins D) X.xe s
def jB(X:Cx)(st:M b5)(t:TS):Prop:=∀(pins:M (af×bA))(s:aI)(σ:St)(H:Hp)(D:mH),Inv X pins σ H s->t D σ H->aJ (aL X.prog X.w) X.A (execs st X.env) (SP X pins D) X.xe s
variable{α:Type}
def a_{t:jS α}{Q Q':α->aI->Prop}(h:aJ a5 A t Q E s)(hQ:∀a s,Q a s->Q' a s):aJ a5 A t Q' E s:=k7 h hQ λ_ _ x=>x
variable{b:bE}{ta tb:TE}{σ:St}{R:V->V->Hp->Prop}
def bin{a:bE}(ha:PE X a ta)(hb:PE X b tb)(ab:Inv X pins σ H s)(h:ta σ H λx H1=>tb σ H1 λy H2=>R x y H2)
  {Q:α->aI->Prop}{f:aq->aq->jS α}
  (hf:∀v u s2 x y H2,Inv X pins σ H2 s2->RelV x v->RelV y u->R x y H2->aJ (aL X.prog X.w) X.A (f v u) Q X.xe s2):
  aJ (aL X.prog X.w) X.A (eval a X.env) (λv s₁=>aJ (aL X.prog X.w) X.A (eval b X.env) (λu s₂=>aJ (aL X.prog X.w) X.A (f v u) Q X.xe s₂) X.xe s₁) X.xe s:=by
 refine a_ (ha pins s σ H _ ab h) λv s1⟨x,H1,I1,r1,q1⟩=> ?_;exact a_ (hb pins s1 σ H1 _ I1 q1) λu s2⟨y,H2,I2,r2,q2⟩=>hf v u s2 x y H2 I2 r1 r2 q2
inductive jX(i:Nat)(σ:St)(H:Hp)(Q:VK):Prop|mk(v:_)(_:σ[i]? =I (I v))(_:Q v H)
def tC(v:V):TE:=λ_ H Q=>Q v H
variable{pos:fG}
def J7(hN:X.N[i]? =I x)(hv:rg X.env.scope x)(hd:(x==("__debug__":aj))=ao:=by decide)(fe:(x==("__classdict__":aj))=ao:=by decide):PE X (.Name x pos) (jX i):=by
 intro pins s σ H Q ab h;obtain⟨v,e,h⟩:=h;obtain⟨m,hn,hl⟩:=ab.loc;obtain⟨u,r,l⟩:=hl i x v hN e hv;have fin:EP X pins σ Q u s:=⟨v,H,ab,r,h⟩;obtain⟨hk,hm⟩|⟨hk,c,hc,BM⟩:=l
 .exact Uj (ajC ab.ok.kind hk hn hm fin) hd
 obtain hk|hk:=hk
 .exact Uj (ajD ab.ok.kind hk hc BM fin) hd
 exact Uj (wpAny_loadName_free ab.ok.kind hk hc BM fin fe) hd
def aF{i j pos}:PE X (.Constant (.int i) j pos) (tC (.int i)):=λ_ _ _ H _ ab h=>wpAny_Constant_int ⟨.int i,H,ab.tok _,⟨_,G⟩,h⟩
def tP{b j pos}:PE X (.Constant (.bool b) j pos) (tC (.bl b)):=λ_ _ _ H _ ab h=>Constant_bool ⟨.bl b,H,ab,G,h⟩
def pS{j pos}:PE X (.Constant .none j pos) (tC .bx):=λ_ _ _ H _ ab h=>Constant_none ⟨.bx,H,ab,G,h⟩
def dQ{x j pos}:PE X (.Constant (.str x) j pos) (tC (.str x)):=λ_ _ _ H _ ab h=>Calls.Constant_str ⟨.str x,H,ab.tok _,⟨_,G⟩,h⟩
def Gl(X:Cx)(x:aj):Prop:=X.env.kindOf x=I .globalImplicit
variable{Q:aq->aI->Prop}
def yQ(ab:Inv X pins σ H s)(hg:Gl X x)(hm:X.mg x=I u)(h:Q u s)
  (hd:(x==("__debug__":aj))=ao:=by decide):aJ (aL X.prog X.w) X.A (eval (.Name x pos) X.env) Q E s:=
 ajE ab.ok.kind hg (Calls.loadGlobal_global (by rw[ab.ok.glob];exact ab.mod.glob.keeps ab.fy) hm h) hd
def rj(ab:Inv X pins σ H s)(hg:Gl X x)(hm:X.mg x=ak)(hv:jt x=I u)(h:Q u s)
  (hn:x≠"__name__":=by decide)(hd:(x==("__debug__":aj))=ao:=by decide):aJ (aL X.prog X.w) X.A (eval (.Name x pos) X.env) Q E s:=by
 obtain⟨mb,h1,h2⟩:=ab.mod.blt;exact ajE ab.ok.kind hg (Calls.loadGlobal_builtin (by rw[ab.ok.glob];exact ab.mod.glob.keeps ab.fy) hm (by rw[ab.ok.blt];exact h1.keeps ab.fy) ((h2 x hn).trans hv) h) hd
def fz(hg:Gl X x)(hm:X.mg x=I u)(r:RelV v u)(hd:(x==("__debug__":aj))=ao:=by decide):PE X (.Name x pos) (tC v):=λ_ _ _ H _ ab h=>yQ ab hg hm ⟨v,H,ab,r,h⟩ hd
variable{a:bE}
def PC(X:Cx)(op:CmpOp)(a b:bE)(t:TE):Prop:=
 ∀(pins:M (af×bA))(s:aI)(σ:St)(H:Hp)(Q:VK),Inv X pins σ H s->t σ H Q->
  aJ (aL X.prog X.w) X.A (eval a X.env) (λv s₁=>aJ (aL X.prog X.w) X.A (eval b X.env) (λu s₂=>aJ (aL X.prog X.w) X.A (e7 op v u) (EP X pins σ Q) X.xe s₂) X.xe s₁) X.xe s
variable{op:CmpOp}
def J8(b:bE)(h:op≠ .In)(h2:op≠ .NotIn):qD op b=ao:=by
 have e1:(op==CmpOp.In)=ao:=by cases op<;>first|rfl|exact aU G h
 have e2:(op==ajF)=ao:=by cases op<;>first|rfl|exact aU G h2
 cases b<;>simp[qD,e1,e2]
def WG(ta:TE):TE:=λσ H Q=>ta σ H λx H1=>Q (.bl (!decide (x= .bx))) H1
def RelV.WH{x:V}{v:aq}(r:RelV x v):(v==jR)=decide (x= .bx):=by
 cases x with
 |bx=>cases r;rfl
 |bl _=>cases r;rfl
 |int _=>obtain⟨t,rfl⟩:=r;rfl
 |str _=>obtain⟨t,rfl⟩:=r;rfl
 |gX _=>obtain⟨t,rfl⟩:=r;rfl
 |oE _=>obtain⟨t,rfl⟩:=r;rfl
 |ref _=>cases r;rfl
 |ty _=>cases r;rfl
def WI{j d4}(ha:PE X a ta):PC X .IsNot a (.Constant .none j d4) (WG ta):=by intro pins s σ H Q ab h;exact a_ (ha pins s σ H _ ab h) λv s1⟨x,H1,I1,r1,q1⟩=>Constant_none (isnot_none_gen ⟨.bl _,H1,I1,by rw[r1.WH];rfl,q1⟩)
inductive vK(x:V)(P:Bool->Prop):Prop|mk(c:Bool)(_:x= .bl c)(_:P c)
def J9(t:TE):TT:=λσ H Q=>t σ H λx H1=>vK x λc=>Q c H1
def WJ{t:TE}(h:PC X op a b t)(h1:qD op b=ao:=by first|exact J8 _ (by decide) (by decide)|rfl):PE X (.Compare a [op] [b] pos) t:=λpins s σ H Q ab hw=>wpAny_Compare1 (h pins s σ H Q ab hw) h1
def vL{t:TE}(h:PC X op a b t)(h1:qD op b=ao:=by first|exact J8 _ (by decide) (by decide)|rfl):PT X (.Compare a [op] [b] pos) (J9 t):=by intro pins s σ H Q ab hw;refine ajG (a_ (h pins s σ H _ ab hw) λv s1 h1=>a_ h1 λu s2 h2=>a_ h2 λc s3⟨x,H1,I1,r1,q1⟩=> ?_) h1;obtain⟨d,rfl,q⟩:=q1;cases r1;exact nc ⟨H1,I1,q⟩
def fQ{t:TE}(h:PE X e t)(he:∀whole,xO e X.env whole=(do let v<-whole;uW e.pos;holding [v] (truthy v)):=by intro _;rfl):PT X e (J9 t):=by intro pins s σ H Q ab hw;refine isTrue_plain (a_ (h pins s σ H _ ab hw) λv s1⟨x,H1,I1,r1,q1⟩=> ?_) (he _);obtain⟨d,rfl,q⟩:=q1;cases r1;exact nc ⟨H1,I1,q⟩
def WK(t u:TT):TT:=λσ H Q=>t σ H λc H1=>if c=aa then u σ H1 Q else Q ao H1
def WL(t u:TT):TT:=λσ H Q=>t σ H λc H1=>if c=aa then Q aa H1 else u σ H1 Q
def WM(t:TT):TT:=λσ H Q=>t σ H λc H1=>Q (!c) H1
variable{tA:TT}
def rm(ha:PT X a tA):PW X (.BoolOp .And [a] pos) tA:=by
 intro wh pins s σ H Q ab h;refine isTrue_and (a_ (ha pins s σ H Q ab h) λc s1 e=> ?_);cases c with
 |true=>exact isTrue_and_nil e
 |false=>exact e
def pT(ha:PT X a tA):PW X (.BoolOp .Or [a] pos) tA:=by
 intro wh pins s σ H Q ab h;refine isTrue_or (a_ (ha pins s σ H Q ab h) λc s1 e=> ?_);cases c with
 |false=>exact isTrue_or_nil e
 |true=>exact e
variable{B1:TT}{rest:M bE}
def rq(ha:PT X a tA)(hb:PW X (.BoolOp .And (b::rest) pos) B1):PW X (.BoolOp .And (a::b::rest) pos) (WK tA B1):=by
 intro wh pins s σ H Q ab h;refine isTrue_and (a_ (ha pins s σ H _ ab h) λc s1⟨H1,I1,q1⟩=> ?_);cases c with
 |true=>exact hb wh pins s1 σ H1 Q I1 q1
 |false=>exists H1,I1,q1
def pU(ha:PT X a tA)(hb:PW X (.BoolOp .Or (b::rest) pos) B1):PW X (.BoolOp .Or (a::b::rest) pos) (WL tA B1):=by
 intro wh pins s σ H Q ab h;refine isTrue_or (a_ (ha pins s σ H _ ab h) λc s1⟨H1,I1,q1⟩=> ?_);cases c with
 |true=>exists H1,I1,q1
 |false=>exact hb wh pins s1 σ H1 Q I1 q1
def gY(ha:PT X a tA):PT X (.UnaryOp .Not a pos) (WM tA):=by intro pins s σ H Q ab h;exact isTrue_not (ha pins s σ H (λc H1=>Q (!c) H1) ab h)
def WN(ta tb:TE):TE:=λσ H Q=>ta σ H λx H1=>vK x λc=>if c=aa then tb σ H1 Q else Q (.bl ao) H1
def WO(ta tb:TE):TE:=λσ H Q=>ta σ H λx H1=>vK x λc=>if c=aa then Q (.bl aa) H1 else tb σ H1 Q
def WQ(ta:TE):TE:=λσ H Q=>ta σ H λx H1=>vK x λc=>Q (.bl (!c)) H1
def vM{op}{t:TE}(h:PE X a t):PE X (.BoolOp op [a] pos) t:=λpins s σ H Q ab hw=>BoolOp_one (h pins s σ H Q ab hw)
def Cb(ha:PE X a ta)(hb:PE X (.BoolOp .And (b::rest) pos) tb):PE X (.BoolOp .And (a::b::rest) pos) (WN ta tb):=by
 intro pins s σ H Q ab h;refine BoolOp_and (a_ (ha pins s σ H _ ab h) λv s1⟨x,H1,I1,r1,q1⟩=> ?_);obtain⟨c,rfl,q1⟩:=q1;cases r1;refine nc ?_;cases c with
 |true=>exact hb pins s1 σ H1 Q I1 q1
 |false=>exists .bl ao,H1,I1,G,q1
def J_(ha:PE X a ta)(hb:PE X (.BoolOp .Or (b::rest) pos) tb):PE X (.BoolOp .Or (a::b::rest) pos) (WO ta tb):=by
 intro pins s σ H Q ab h;refine BoolOp_or (a_ (ha pins s σ H _ ab h) λv s1⟨x,H1,I1,r1,q1⟩=> ?_);obtain⟨c,rfl,q1⟩:=q1;cases r1;refine nc ?_;cases c with
 |false=>exact hb pins s1 σ H1 Q I1 q1
 |true=>exists .bl aa,H1,I1,G,q1
def WR(ha:PE X a ta):PE X (.UnaryOp .Not a pos) (WQ ta):=by intro pins s σ H Q ab h;refine UnaryOp_ (a_ (ha pins s σ H _ ab h) λv s1⟨x,H1,I1,r1,q1⟩=> ?_);obtain⟨c,rfl,q1⟩:=q1;cases r1;exact not_of (nc ⟨.bl (!c),H1,I1,G,q1⟩)
def WS(t:TT)(ta tb:TE):TE:=λσ H Q=>t σ H λc H1=>if c=aa then ta σ H1 Q else tb σ H1 Q
variable{c:bE}
def lC(hc:PT X c tA)(ha:PE X a ta)(hb:PE X b tb):PE X (.IfExp c a b pos) (WS tA ta tb):=by
 intro pins s σ H Q ab h;refine wpAny_IfExp (a_ (hc pins s σ H _ ab h) λd s1⟨H1,I1,q1⟩=> ?_);cases d with
 |true=>exact ha pins s1 σ H1 Q I1 q1
 |false=>exact hb pins s1 σ H1 Q I1 q1
def az(K:aR)(H:Hp)(a:af)(xs:M V):Prop:=
 Rd H a (.lst xs)\/
  ∃(o:bA)(ad:Array aq)(n:Nat),K.lookup a=I o/\o.cls= .type "list"/\o.dict=ak/\o.data= .seq ad n/\ad.size<=sizeLine/\Vals xs ad.toList
def bz(K:aR)(H:Hp)(a:af)(xs:M V):Prop:=
 Rd H a (.tup xs)\/
  ∃(o:bA)(ad:Array aq)(n:Nat),K.lookup a=I o/\o.cls= .type "tuple"/\o.data= .seq ad n/\ad.size<=sizeLine/\Vals xs ad.toList
noncomputable def WT:aq->aG V| .none=>I .bx| .bool b=>I (.bl b)| .int i _=>I (.int i)| .str x _=>I (.str x)| .bytes b _=>I (.gX b)| .float b _=>I (.oE b)| .ref a=>I (.ref a)| .type n=>I (.ty n)|_=>ak
def RelV.abs{x:V}(r:RelV x u):WT u=I x:=by
 cases x with
 |bx=>cases r;rfl
 |bl _=>cases r;rfl
 |int _=>obtain⟨t,rfl⟩:=r;rfl
 |str _=>obtain⟨t,rfl⟩:=r;rfl
 |gX _=>obtain⟨t,rfl⟩:=r;rfl
 |oE _=>obtain⟨t,rfl⟩:=r;rfl
 |ref _=>cases r;rfl
 |ty _=>cases r;rfl
def RelV.inj{x y:V}{u:aq}(r:RelV x u)(q:RelV y u):x=y:=cG (r.abs.symm.trans q.abs)
theorem Vals.inj:∀{xs ys:M V}{us:M aq},Vals xs us->Vals ys us->xs=ys|_,_,_,.nil,.nil=>rfl|_,_,_,.cons r t,.cons r' t'=>by rw[r.inj r',Vals.inj t t']
variable{a:af}{xs:M V}{K:aR}
def az.of(h:H a=I (.lst xs)):az K H a xs:=.inl (.inl h)
def bz.of(h:H a=I (.tup xs)):bz K H a xs:=.inl (.inl h)
theorem Inv.list(ab:Inv X pins σ H s)(h:az X.K H a xs):∃ad:M aq,Vals xs ad/\PlainL s.heap a ad.toArray/\xs.length<=sizeLine:=by
 obtain h|⟨o,ad,n,hk,hc,hd,hs,hz,r⟩:=h
 .obtain⟨z,ad,n,r,e⟩:=h.ok ab.aQ;exists ad,r,⟨_,n,e,G,G,G⟩,z
 exists ad.toList,r,⟨o,n,ab.iO a o hk,hc,hd,by simpa using hs⟩;have e:=r.length;simp only[fk]at e;lia
theorem Inv.tuple(ab:Inv X pins σ H s)(h:bz X.K H a xs):∃ad:M aq,Vals xs ad/\sE s.heap a ad.toArray/\xs.length<=sizeLine:=by
 obtain h|⟨o,ad,n,hk,hc,hs,hz,r⟩:=h
 .obtain⟨z,ad,r,p⟩:=h.ok ab.aQ;exists ad,r,p,z
 exists ad.toList,r,⟨o,ab.iO a o hk,hc,n,by simpa using hs⟩;have e:=r.length;simp only[fk]at e;lia
variable{ys:M V}
def Inv.vN(ab:Inv X pins σ H s)(h:az X.K H a xs)(h':az X.K H a ys):xs=ys:=by
 obtain⟨ad,r,⟨o,n,e,_,_,d⟩,_⟩:=ab.list h;obtain⟨its',r',⟨o',n',e',_,_,d'⟩,_⟩:=ab.list h';rw[e]at e';cases e';rw[d]at d';injection d' with d1 _;have:ad=its':=by simpa using cC Uk d1
 subst this;exact r.inj r'
def Inv.Ka(ab:Inv X pins σ H s)(h:bz X.K H a xs)(h':bz X.K H a ys):xs=ys:=by
 obtain⟨ad,r,⟨o,e,_,n,d⟩,_⟩:=ab.tuple h;obtain⟨its',r',⟨o',e',_,n',d'⟩,_⟩:=ab.tuple h';rw[e]at e';cases e';rw[d]at d';injection d' with d1 _;have:ad=its':=by simpa using cC Uk d1
 subst this;exact r.inj r'
abbrev Cx.nE(X:Cx)(E:aq->aI->Prop):Cx:={X with xe:=E}
abbrev Cx.vO(X:Cx):Cx:=X.nE λ_ _=>False
def Cx.Ok.nE{X:Cx}(ok:X.Ok)(E:aq->aI->Prop):(X.nE E).Ok:=⟨ok.mod,ok.kind,ok.glob,ok.blt,ok.above,ok.inj,ok.has,ok.vI,ok.hd,ok.frames,ok.yO,ok.yP,ok.bs,ok.nD,ok.vJ,ok.tO,ok.kJ,ok.pR⟩
def Cx.Ok.pV(ok:(X.nE E).Ok):X.Ok:=⟨ok.mod,ok.kind,ok.glob,ok.blt,ok.above,ok.inj,ok.has,ok.vI,ok.hd,ok.frames,ok.yO,ok.yP,ok.bs,ok.nD,ok.vJ,ok.tO,ok.kJ,ok.pR⟩
def Inv.nE(ab:Inv X pins σ H s)(E:aq->aI->Prop):Inv (X.nE E) pins σ H s:=⟨ab.ok.nE E,ab.os,ab.bare,ab.ai,ab.loc,ab.cell,ab.free,ab.je,ab.pin,ab.aQ,ab.len⟩
def Inv.pV(ab:Inv (X.nE E) pins σ H s):Inv X pins σ H s:=⟨ab.ok.pV,ab.os,ab.bare,ab.ai,ab.loc,ab.cell,ab.free,ab.je,ab.pin,ab.aQ,ab.len⟩
def SP.pV{D:mH}{f:Flow}{s':aI}(h:SP (X.nE E) pins D f s'):SP X pins D f s':=by
 cases f with
 |next=>obtain⟨σ',U,ab,q⟩:=h;exists σ',U,ab.pV,q
 |brk=>obtain⟨σ',U,ab,q⟩:=h;exists σ',U,ab.pV,q
 |cont=>obtain⟨σ',U,ab,q⟩:=h;exists σ',U,ab.pV,q
 |ret u=>obtain⟨v,σ',U,ab,r,q⟩:=h;exists v,σ',U,ab.pV,r,q
def jB.vO{st:M b5}{t:TS}(h:jB X.vO st t):jB X st t:=λpins s σ H D ab hw=>k7 (h pins s σ H D (ab.nE _) hw) (λ_ _ q=>q.pV) λ_ _ z=>ju z
def pW:TS:=λD σ H=>D.nx σ H
variable{t u:TS}
def jY(t u:TS):TS:=λD σ H=>t {D with nx:=u D} σ H
def bG:jB X [] pW:=λ_ _ σ H _ ab h=>HV ⟨σ,H,ab,h⟩
variable{st:b5}{rest:M b5}
def aC(h1:PS X st t)(h2:jB X rest u):jB X (st::rest) (jY t u):=by
 intro pins s σ H D ab h;refine ajH (a_ (h1 pins s σ H {D with nx:=u D} ab h) λf s1 q=> ?_);cases f with
 |next=>obtain⟨σ',U,I',q⟩:=q;exact h2 pins s1 σ' U D I' q
 |ret v=>exact q
 |brk=>exact q
 |cont=>exact q
def cA(h1:PS X st t):jB X [st] t:=by
 intro pins s σ H D ab h;refine ajH (a_ (h1 pins s σ H D ab h) λf s1 q=> ?_);cases f with
 |next=>exact HV q
 |ret v=>exact q
 |brk=>exact q
 |cont=>exact q
def WU:TS:=λD σ H=>D.fy σ H
def WV:PS X (.Break pos) WU:=λ_ _ σ H _ ab h=>wpAny_Break ⟨σ,H,ab,h⟩
def Inv.quiet(ab:Inv X pins σ H s):interactive X.env=ao:=by simp[interactive,ab.ok.kind]
variable{te:TE}
def WW(te:TE):TS:=λD σ H=>te σ H λ_ H1=>D.nx σ H1
def fR(he:PE X e te)(hs:xP e ak pos.line X.env=pure ao:=by rfl):PS X (.Expr e pos) (WW te):=by intro pins s σ H D ab h;exact wpAny_Expr_any (a_ (he pins s σ H _ ab h) λv s1⟨x,H1,I1,r1,q1⟩=>⟨σ,H1,I1,q1⟩) ab.quiet hs
def lD(te:TE):TS:=λD σ H=>te σ H D.rt
def WX(he:PE X e te):PS X (.Return (I e) pos) (lD te):=by intro pins s σ H D ab h;exact wpAny_Return_some (a_ (he pins s σ H _ ab h) λv s1⟨x,H1,I1,r1,q1⟩=>⟨x,σ,H1,I1,r1,q1⟩)
def Cc(c:TT)(t u:TS):TS:=λD σ H=>c σ H λb H1=>if b=aa then t D σ H1 else u D σ H1
def bH{a b:M b5}{tc:TT}(hc:PT X c tc)(ha:jB X a t)(hb:jB X b u):PS X (.If c a b pos) (Cc tc t u):=by
 intro pins s σ H D ab h;refine wpAny_If (a_ (hc pins s σ H _ ab h) λd s1⟨H1,I1,q1⟩=> ?_);cases d with
 |true=>exact ha pins s1 σ H1 D I1 q1
 |false=>exact hb pins s1 σ H1 D I1 q1
abbrev TG:=V->St->Hp->(St->Hp->Prop)->Prop
abbrev rz:=M V->St->Hp->(St->Hp->Prop)->Prop
def PG(X:Cx)(ra:bE)(t:TG):Prop:=
 ∀(pins:M (af×bA))(s:aI)(σ:St)(H:Hp)(v:V)(u:aq)(Q:St->Hp->Prop),Inv X pins σ H s->RelV v u->t v σ H Q->
  aJ (aL X.prog X.w) X.A (A4 ra X.env u) (λ_ s'=>∃σ' U,Inv X pins σ' U s'/\Q σ' U) X.xe s
def yR(X:Cx)(ts:M bE)(t:rz):Prop:=
 ∀(pins:M (af×bA))(s:aI)(σ:St)(H:Hp)(vs:M V)(us:M aq)(Q:St->Hp->Prop),Inv X pins σ H s->Vals vs us->t vs σ H Q->
  aJ (aL X.prog X.w) X.A (assignInOrder ((n6 ts X.env).map (·.2)) us) (λ_ s'=>∃σ' U,Inv X pins σ' U s'/\Q σ' U) X.xe s
abbrev yS:=V->V->Hp->VK->Prop
def Kc(X:Cx)(op:Ul)(t:yS):Prop:=
 ∀(pins:M (af×bA))(s:aI)(σ:St)(H:Hp)(x y:V)(v u:aq)(Q:VK),Inv X pins σ H s->RelV x v->RelV y u->t x y H Q->
  aJ (aL X.prog X.w) X.A (inplaceOp op v u) (EP X pins σ Q) X.xe s
def jC(i:Nat):TG:=λv σ H Q=>Q (σ.set i (I v)) H
def Cd(hN:X.N.Nodup)(hi:X.N[i]? =I x)(hx:Loc X.env.scope x)(hf:X.fn x=aa\/X.env.scope.names.lookup x=I .local:=by first|exact .inl G|exact .inr G|assumption):PG X (.Name x pos) (jC i):=by intro pins s σ H v u Q ab r h;exact ajI (Ca ab hN hi hx r (λs' I'=>⟨_,H,I',h⟩) hf)
def Ke:rz:=λvs σ H Q=>vs=[]/\Q σ H
def Ce(t:TG)(u:rz):rz:=λvs σ H Q=>∃v r,vs=v::r/\t v σ H λσ' U=>u r σ' U Q
def Kg:yR X [] Ke:=by intro pins s σ H vs us Q ab r h;obtain⟨e,h⟩:=h;subst e;cases r;exact assignInOrder_nil ⟨σ,H,ab,h⟩
variable{es:M bE}
def yT{t:TG}{u:rz}(h1:PG X e t)(h2:yR X es u)
  (hs:(n6 (e::es) X.env).map (·.2)=A4 e X.env::(n6 es X.env).map (·.2):=by rfl):yR X (e::es) (Ce t u):=by
 intro pins s σ H vs us Q ab r h;obtain⟨v,al6,e1,h⟩:=h;subst e1;cases r with
 |cons r rr=>rw[hs];exact assignInOrder_cons (a_ (h1 pins s σ H _ _ _ ab r h) λ_ s1⟨σ1,H1,I1,q1⟩=>h2 pins s1 σ1 H1 _ _ Q I1 rr q1)
def Kh(K:aR)(n:Nat)(t:rz):TG:=λv σ H Q=>∃a xs,v= .ref a/\bz K H a xs/\xs.length=n/\t xs σ H Q
variable{k n:Nat}
def Kl{t:rz}(hc:X.calm=aa)(h:yR X es t)
  (hn:(n6 es X.env).length=n:=by rfl)(bi:(n6 es X.env).findIdx? (·.1)=ak:=by rfl):PG X (.Tuple es k pos) (Kh X.K n t):=by
 intro pins s σ H v u Q ab r hw;obtain⟨a,xs,e1,hq,hl,hw⟩:=hw;subst e1;cases r;obtain⟨ad,rv,ht,hz⟩:=ab.tuple hq;refine assign_Tuple_tuple (ab.ok.hd hc) ht (by simp[hn,<-hl,rv.length]) bi λh' hx=> ?_;have I1:=ab.kept (t':=s.toks) λb o e=>hx b o (d_ (cH e)) e;exact h pins _ σ H xs _ Q I1 rv hw
def kK(te:TE)(g:TG):TS:=λD σ H=>te σ H λx H1=>g x σ H1 D.nx
variable{d4:fG}
def vP(hN:X.N.Nodup)(hi:X.N[i]? =I x)(hx:Loc X.env.scope x)(he:PE X e te)(hs:xP e (I (.Name x d4)) pos.line X.env=pure ao:=by rfl)(hf:X.fn x=aa\/X.env.scope.names.lookup x=I .local:=by first|exact .inl G|exact .inr G|assumption):
  PS X (.Assign [.Name x d4] e pos) (kK te (jC i)):=by
 intro pins s σ H D ab h;exact wpAny_Assign_Name (a_ (he pins s σ H _ ab h) λv s1⟨y,H1,I1,r1,q1⟩=>Ca I1 hN hi hx r1 (λs2 I2=>⟨_,H1,I2,q1⟩) hf) hs
def WY(i:Nat)(te:TE)(ti:yS):TS:=λD σ H=>∃x,σ[i]? =I (I x)/\te σ H λy H1=>ti x y H1 λz H2=>D.nx (σ.set i (I z)) H2
def Cf{op:Ul}{ti:yS}(hN:X.N.Nodup)(hi:X.N[i]? =I x)(hx:Loc X.env.scope x)(he:PE X e te)(ho:Kc X op ti)(hf:X.fn x=aa\/X.env.scope.names.lookup x=I .local:=by first|exact .inl G|exact .inr G|assumption):
  PS X (.AugAssign (.Name x d4) op e pos) (WY i te ti):=by
 intro pins s σ H D ab h;obtain⟨v,e1,h⟩:=h;obtain⟨m,hn,hl⟩:=ab.loc;have WZ:rg X.env.scope x:=by obtain k|k:=hx;exact .inl k;exact .inr (.inl k)
 obtain⟨u,r,l⟩:=hl i x v hi e1 WZ;refine wpAny_AugAssign_Name ?_
 have go:aJ (aL X.prog X.w) X.A (eval e X.env) (λw s₂=>aJ (aL X.prog X.w) X.A (inplaceOp op u w) (λr s₃=>aJ (aL X.prog X.w) X.A (Ug X.env x r) (λ_=>SP X pins D .next) X.xe s₃) X.xe s₂) X.xe s:=by refine a_ (he pins s σ H _ ab h) λw s1⟨y,H1,I1,r1,q1⟩=> ?_;exact a_ (ho pins s1 σ H1 v y u w _ I1 r r1 q1) λz s2⟨al7,H2,I2,r2,q2⟩=>Ca I2 hN hi hx r2 (λs3 I3=>⟨_,H2,I3,q2⟩) hf
 obtain⟨hk,hm⟩|⟨hk,c,hc,BM⟩:=l
 .exact ajC ab.ok.kind hk hn hm go
 obtain hk|hk:=hk
 .exact ajD ab.ok.kind hk hc BM go
 obtain k|k:=hx
 .have:X.env.scope.names.lookup x=I .free:=hk;rw[k]at this;cases this
 have:X.env.scope.names.lookup x=I .free:=hk;rw[k]at this;cases this
def W0(f:Int->Int->Int):yS:=λx y H Q=>∃i j,x= .int i/\y= .int j/\Q (.int (f i j)) H
def Cg:Kc X .Add (W0 λi j=>i+j):=by intro pins s σ H x y v u Q ab r1 r2 h;obtain⟨i,j,e1,e2,q⟩:=h;subst e1;subst e2;obtain⟨t,rfl⟩:=r1;obtain⟨t',rfl⟩:=r2;exact iadd_int ⟨.int _,H,ab.tok _,⟨_,G⟩,q⟩
def W2(c:TT)(tb:TS):TS:=λD σ H=>∃W:Nat->St->Hp->Prop,(∃m,W m σ H)/\∀m σ H,W m σ H->
 c σ H λb H1=>if b=aa then∃N:St->Hp->Prop,(∀σ' U,N σ' U->∃m',m'<m/\W m' σ' U)/\tb {D with nx:=N,ct:=N,fy:=D.nx} σ H1 else D.nx σ H1
variable{body:M b5}
def vQ{tc:TT}{tb:TS}(hp:PassesOwn (aL X.prog X.w) X.A X.env X.xe)(hc:PT X c tc)(hb:jB X body tb):PS X (.While c body [] pos) (W2 tc tb):=by
 intro pins s σ H D ab h;obtain⟨W,⟨m4,w0⟩,turn⟩:=h;refine wpAny_While (codeAny_whileLoop (λn s'=>∃σ' U,Inv X pins σ' U s'/\W n σ' U) ?_ m4 ⟨σ,H,ab,w0⟩);rintro n s1⟨σ1,H1,I1,NE⟩;refine uX hp (a_ (hc pins s1 σ1 H1 _ I1 (turn n σ1 H1 NE)) λb s2⟨H2,I2,q2⟩=> ?_);cases b with
 |true=>
  obtain⟨N,hN,q2⟩:=q2;rw[av G];refine uX hp (a_ (hb pins s2 σ1 H2 _ I2 q2) λf s3 q3=> ?_);cases f with
  |next=>obtain⟨σ3,H3,I3,n3⟩:=q3;obtain⟨m',hm,w3⟩:=hN σ3 H3 n3;exists m',hm,σ3,H3,I3,w3
  |cont=>obtain⟨σ3,H3,I3,n3⟩:=q3;obtain⟨m',hm,w3⟩:=hN σ3 H3 n3;exists m',hm,σ3,H3,I3,w3
  |brk=>exact q3
  |ret v=>exact q3
 |false=>rw[au dJ];exact HV ⟨σ1,H2,I2,q2⟩
structure It where
 go:Nat->Hp->Prop
 iD:Nat->Hp->V->Hp->Prop
 stop:Nat->Hp->Prop
def lE(X:Cx)(pins:M (af×bA))(H:Hp)(b:af):Prop:=H b=ak/\b≠X.env.locals/\b∉X.fs/\(b∈X.ex\/X.gp.heap.objs.size<=b)/\(∀x c,X.env.cells.lookup x=I c->c≠b)/\∀p∈X.pn++pins,p.1≠b
def Inv.tQ{b:af}(ab:Inv X pins σ H s)(hb:s.heap.objs.size<=b)(hn:U b=ak):lE X pins U b:=by
 exists hn,uY (gQ ab.lt hb),ab.Ww hb,.inr (cX ab.sz hb),λx c e z=> ?_,λp hp z=> ?_
 .obtain⟨v,q⟩:=ab.cell x c e;exact aU (gQ q.lt (by rw[z];exact hb)) (kh _)
 exact aU (gQ (cH (ab.pin p hp).1) (by rw[z];exact hb)) (kh _)
structure Turn(P:bY)(w:bR)(K:aR)(tg:bE)(J:It)(fp:M af)(it:af)(tn:Nat->bB->Prop):Prop where
 mem:it∈fp
 obj:∀i h,tn i h->∀b∈fp,∃o,h.get? b=I o/\∀v,o.data≠ .cell v
 keep:∀i h h',tn i h->(∀b∈fp,∀o,h.get? b=I o->h'.get? b=I o)->tn i h'
 item:∀(X:Cx),X.prog=P->X.w=w->X.K=K->X.calm=aa->∀(i:Nat)(pins:M (af×bA))(s:aI)(σ:St)(H:Hp)(E:aq->aI->Prop),Inv X pins σ H s->(∀b∈fp,lE X pins H b)->tn i s.heap->J.go i H->
  aJ (aL P w) X.A (lZ (.ref it)) (λr s1=>∃u,r=I u/\aJ (aL P w) X.A (Um tg (.ref it) u) (λ_ s2=>∃x U,Inv X pins σ U s2/\RelV x u/\J.iD i H x U/\tn (i+1) s2.heap/\∀b∈fp,U b=ak) E s1) E s
 done:∀(X:Cx),X.prog=P->X.w=w->X.K=K->X.calm=aa->∀(i:Nat)(pins:M (af×bA))(s:aI)(σ:St)(H:Hp)(E:aq->aI->Prop),Inv X pins σ H s->(∀b∈fp,lE X pins H b)->tn i s.heap->J.stop i H->
  aJ (aL P w) X.A (lZ (.ref it)) (λr s1=>r=ak/\Inv X pins σ H s1) E s
 self:∀(A:eZ)(i:Nat)(s:aI)(Q:aq->aI->Prop)(E:aq->aI->Prop),tn i s.heap->Q (.ref it) s->aJ (aL P w) A (pyIter (.ref it)) Q E s
abbrev TI:=St->Hp->(It->Hp->Prop)->Prop
def Km(X:Cx)(pins:M (af×bA))(σ:St)(tg:bE)(R:It->Hp->Prop)(NM:aq)(s2:aI):Prop:=∃(it:af)(fp:M af)(tn:Nat->bB->Prop)(J:It)(U:Hp),NM= .ref it/\Inv X pins σ U s2/\Turn X.prog X.w X.K tg J fp it tn/\tn 0 s2.heap/\(∀b∈fp,lE X pins U b)/\R J U
def PI(X:Cx)(tg iter:bE)(wi:TI):Prop:=
 ∀(pins:M (af×bA))(s:aI)(σ:St)(H:Hp)(R:It->Hp->Prop),Inv X pins σ H s->wi σ H R->
  aJ (aL X.prog X.w) X.A (eval iter X.env) (λv s1=>aJ (aL X.prog X.w) X.A (pyIter v) (Km X pins σ tg R) X.xe s1) X.xe s
variable{tg:bE}{u:aq}
def pX{n:String}{vs:Array aq}{Q:Unit->aI->Prop}(ho:s.heap.get? it=I o)(hc:o.cls= .type n)(hd:o.data= .fields vs)
  (hn:["enumerate","zip","dict_itemiterator","dict_reverseitemiterator","odict_iterator","itertools.zip_longest","itertools.pairwise"].contains n=ao)(hQ:Q () s):aJ a5 A (Um tg (.ref it) u) Q E s:=by
 cases tg<;>first
  |exact aN hQ
  |(cases u<;>first
    |exact aN hQ
    |(refine aA (Uo ho ?_)
      rw[hc,hd];show aJ a5 A (if(["enumerate","zip","dict_itemiterator","dict_reverseitemiterator","odict_iterator","itertools.zip_longest","itertools.pairwise"].contains n&&vs[0]? ==I (iY _))=aa then _ else _) Q E s;rw[au (by intro h;rw[hn,ig]at h;cases h)];exact aN hQ))
def fB(K:aR)(a:af):It:=⟨λi H=>∃xs x,az K H a xs/\xs[i]? =I x,λi H x U=>U=H/\∀xs,az K H a xs->xs[i]? =I x,λi H=>∃xs,az K H a xs/\xs.length<=i⟩
def vR(K:aR)(a:af):It:=⟨λi H=>∃xs x,bz K H a xs/\xs[i]? =I x,λi H x U=>U=H/\∀xs,bz K H a xs->xs[i]? =I x,λi H=>∃xs,bz K H a xs/\xs.length<=i⟩
def W3(lo:Int)(n:Nat):It:=⟨λi _=>i<n,λi H x U=>U=H/\x= .int (lo+i),λi _=>n<=i⟩
theorem W4(a it:af):Turn P w K tg (fB K a) [it] it (λi h=>h.IsListIter it a i)where
 mem:=by simp
 obj:=λi h st b hb=>by
  have e:b=it:=by simpa using hb
  subst e;obtain⟨o,e,c,d⟩:=st;exact⟨o,e,λv z=>by rw[d]at z;cases z⟩
 keep:=λi h h' st k=>st.at λo e=>k it (by simp) o e
 item:=by intro X hP hw hK hc i pins s σ H E ab hf st hg;subst hP hw hK;obtain⟨xs,x,hq,hx⟩:=hg;obtain⟨ad,rv,p,hz⟩:=ab.list hq;obtain⟨u,hu,ru⟩:=rv.get hx;obtain⟨f0,f1,f2,f3,f4,f5⟩:=hf it (by simp);refine wpAny_pyNext_list_item st p.isList (by simpa using hu) λh' cb sb=> ?_;have I1:=ab.turned (t':=s.toks) (λb o hb e=>(sb.2 b hb).trans e) f0 f1 f3 f4 f5;obtain⟨o,e,c,d⟩:=id cb;exact⟨u,G,pX e c d (by decide) ⟨x,H,I1,ru,⟨G,λys hy=>by rw[ab.vN hy hq];exact hx⟩,cb,λb hb=>(hf b hb).1⟩⟩
 done:=by intro X hP hw hK hc i pins s σ H E ab hf st hg;subst hP hw hK;obtain⟨xs,hq,hx⟩:=hg;obtain⟨ad,rv,p,hz⟩:=ab.list hq;obtain⟨f0,f1,f2,f3,f4,f5⟩:=hf it (by simp);have hl:=rv.length;exact wpAny_pyNext_list_end (ab.ok.hd hc) st p.isList (by simp;lia) λh' eb=>⟨G,ab.turned (t':=s.toks) (λb o hb e=>eb b o hb e) f0 f1 f3 f4 f5⟩
 self:=λ_ _ _ _ _ st h=>wpAny_pyIter_listiter st h
theorem W5(a it:af):Turn P w K tg (vR K a) [it] it (λi h=>h.IsTupleIter it a i)where
 mem:=by simp
 obj:=λi h st b hb=>by
  have e:b=it:=by simpa using hb
  subst e;obtain⟨o,e,c,d⟩:=st;exact⟨o,e,λv z=>by rw[d]at z;cases z⟩
 keep:=λi h h' st k=>st.at λo e=>k it (by simp) o e
 item:=by intro X hP hw hK hc i pins s σ H E ab hf st hg;subst hP hw hK;obtain⟨xs,x,hq,hx⟩:=hg;obtain⟨ad,rv,p,hz⟩:=ab.tuple hq;obtain⟨u,hu,ru⟩:=rv.get hx;obtain⟨f0,f1,f2,f3,f4,f5⟩:=hf it (by simp);refine wpAny_pyNext_tuple_item st (p) (by simpa using hu) λh' cb sb=> ?_;have I1:=ab.turned (t':=s.toks) (λb o hb e=>(sb.2 b hb).trans e) f0 f1 f3 f4 f5;obtain⟨o,e,c,d⟩:=id cb;exact⟨u,G,pX e c d (by decide) ⟨x,H,I1,ru,⟨G,λys hy=>by rw[ab.Ka hy hq];exact hx⟩,cb,λb hb=>(hf b hb).1⟩⟩
 done:=by intro X hP hw hK hc i pins s σ H E ab hf st hg;subst hP hw hK;obtain⟨xs,hq,hx⟩:=hg;obtain⟨ad,rv,p,hz⟩:=ab.tuple hq;obtain⟨f0,f1,f2,f3,f4,f5⟩:=hf it (by simp);have hl:=rv.length;exact wpAny_pyNext_tuple_end (ab.ok.hd hc) st (p) (by simp;lia) λh' eb=>⟨G,ab.turned (t':=s.toks) (λb o hb e=>eb b o hb e) f0 f1 f3 f4 f5⟩
 self:=λ_ _ _ _ _ st h=>wpAny_pyIter_tupleiter st h
theorem al8(it:af)(lo:Int)(n:Nat):Turn P w K tg (W3 lo n) [it] it (λi h=>IsRangeIter h it (lo+(i:Nat)*1) ((n:Int)-(i:Nat)) 1)where
 mem:=by simp
 obj:=λi h st b hb=>by
  have e:b=it:=by simpa using hb
  subst e
  exact⟨_,st,λv z=>by have z':=z;cases z'⟩
 keep:=λi h h' st k=>k it (by simp) _ st
 item:=by intro X hP hw hK hc i pins s σ H E ab hf st hg;subst hP hw hK;obtain⟨f0,f1,f2,f3,f4,f5⟩:=hf it (by simp);refine(ajJ (prog:=X.prog) (w:=X.w) (ab.ok.hd hc) it lo 1 n).item i s _ _ hg st λv h' tk hv cb kk=> ?_;obtain⟨t,rfl⟩:=hv;have I1:Inv X pins σ H {s with heap:=h',toks:=tk}:=ab.turned (λb o hb e=>kk b o (by simpa using hb) e) f0 f1 f3 f4 f5;refine⟨_,G,pX cb G G (by decide) ⟨.int (lo+i),H,I1,⟨t,?_⟩,⟨G,G⟩,cb,λb hb=>(hf b hb).1⟩⟩;rw[ajK]
 done:=by intro X hP hw hK hc i pins s σ H E ab hf st hg;subst hP hw hK;obtain⟨f0,f1,f2,f3,f4,f5⟩:=hf it (by simp);exact ajL (ab.ok.hd hc) st (by have:n<=i:=hg;lia) λh' eb=>⟨G,ab.turned (t':=s.toks) (λb o hb e=>eb b o hb e) f0 f1 f3 f4 f5⟩
 self:=λ_ _ _ _ _ st h=>ajM st h
def yU(K:aR)(tl:TE):TI:=λσ H R=>tl σ H λx H1=>∃a,x= .ref a/\(∃xs,az K H1 a xs)/\R (fB K a) H1
def Kn(K:aR)(tl:TE):TI:=λσ H R=>tl σ H λx H1=>∃a,x= .ref a/\(∃xs,bz K H1 a xs)/\R (vR K a) H1
variable{l:bE}{tl:TE}
def cV(hl:PE X l tl):PI X tg l (yU X.K tl):=by
 intro pins s σ H R ab h;refine a_ (hl pins s σ H _ ab h) λv s1⟨x,H1,I1,r1,q1⟩=> ?_;obtain⟨a,e,⟨xs,hq⟩,q⟩:=q1;subst e;cases r1;obtain⟨ad,rv,p,hz⟩:=I1.list hq;refine HW p.isList ?_;exists s1.heap.objs.size,[s1.heap.objs.size],_,_,H1,G,I1.kept (t':=s1.toks) λb o e=>cu _ e,W4 a _,⟨_,di _ G,G,G⟩,λb hb=> ?_,q;have e:b=s1.heap.objs.size:=by simpa using hb
 subst e;exact I1.tQ (aZ _) (I1.aQ.fresh (aZ _))
def Ci(hl:PE X l tl):PI X tg l (Kn X.K tl):=by
 intro pins s σ H R ab h;refine a_ (hl pins s σ H _ ab h) λv s1⟨x,H1,I1,r1,q1⟩=> ?_;obtain⟨a,e,⟨xs,hq⟩,q⟩:=q1;subst e;cases r1;obtain⟨ad,rv,p,hz⟩:=I1.tuple hq;refine ajN (p) ?_;exists s1.heap.objs.size,[s1.heap.objs.size],_,_,H1,G,I1.kept (t':=s1.toks) λb o e=>cu _ e,W5 a _,⟨_,di _ G,G,G⟩,λb hb=> ?_,q;have e:b=s1.heap.objs.size:=by simpa using hb
 subst e;exact I1.tQ (aZ _) (I1.aQ.fresh (aZ _))
def Ko(wi:TI)(g:TG)(tb:TS):TS:=λD σ H=>wi σ H λJ H1=>∃W:Nat->Nat->St->Hp->Prop,(∃m,W 0 m σ H1)/\∀i m σ H,W i m σ H->
 (J.stop i H/\D.nx σ H)\/(J.go i H/\∃N:St->Hp->Prop,(∀σ' U,N σ' U->∃m',m'<m/\W (i+1) m' σ' U)/\∀x U,J.iD i H x U->g x σ U λσ2 H2=>tb {D with nx:=N,ct:=N,fy:=D.nx} σ2 H2)
def vS(fp:M af)(h:bB):M (af×bA):=fp.filterMap λb=>(h.get? b).map λo=>(b,o)
variable{fp:M af}
def Cj{b:af}(hb:b∈fp)(e:h.get? b=I o):(b,o)∈vS fp h:=n7.mpr ⟨b,hb,by rw[e];rfl⟩
def W6{p:af×bA}(hp:p∈vS fp h):p.1∈fp/\h.get? p.1=I p.2:=by
 obtain⟨b,hb,e⟩:=n7.mp hp;cases q:h.get? b with
 |none=>rw[q]at e;cases e
 |some o=>rw[q]at e;have e':(b,o)=p:=cG e;subst e';exists hb,q
def Inv.pinned(ab:Inv X pins σ H s)(hf:∀b∈fp,lE X pins H b)(ho:∀b∈fp,∃o,s.heap.get? b=I o/\∀v,o.data≠ .cell v):Inv X (pins++vS fp s.heap) σ H s:=ab.J2 λp hp=>(dG.mp hp).elim (λz=>ab.pin p (ki _ z)) λz=>by obtain⟨hb,e⟩:=W6 z;obtain⟨f0,f1,f2,_⟩:=hf p.1 hb;obtain⟨o,e',d⟩:=ho p.1 hb;rw[e]at e';cases e';exists e,f0,f1,f2,d
def Inv.yV{pl:M (af×bA)}(ab:Inv X (pins++pl) σ H s):Inv X pins σ H s:=ab.J2 λp hp=>ab.pin p (ki _ (k6 _ hp))
variable{g:TG}
def fC{iter:bE}{wi:TI}{tb:TS}(hp:PassesOwn (aL X.prog X.w) X.A X.env X.xe)(hc:X.calm=aa)(hi:PI X tg iter wi)(hg:PG X tg g)(hb:jB X body tb)
  (hs:∀x,HX iter X.env x=pure x:=by intro _;rfl):PS X (.For tg iter body [] pos) (Ko wi g tb):=by
 intro pins s σ H D ab h;refine wpAny_For (a_ (hi pins s σ H _ ab h) λv s1 h1=>a_ h1 λNM s2 h2=> ?_) hs;obtain⟨it,fp,tn,J,H2,e,I2,T,Cl,f2,W,⟨m4,w0⟩,turn⟩:=h2;subst e;have nn:∀{U:Hp},(∀b∈fp,U b=ak)->∀b∈fp,lE X pins U b:=λhn b hb=>⟨hn b hb,(f2 b hb).2⟩;refine codeAny_forLoop_any (λn s'=>∃i σ' U,Inv X pins σ' U s'/\tn i s'.heap/\(∀b∈fp,U b=ak)/\W i n σ' U) ?_ m4 ⟨0,σ,H2,I2,Cl,λb hb=>(f2 b hb).1,w0⟩;rintro n s3⟨i,σ3,H3,I3,Da,Kp,w3⟩;obtain⟨stop,qn⟩|⟨go,N,hN,step⟩:=turn i n σ3 H3 w3
 .refine uX hp (a_ (T.done X G G G hc i pins s3 σ3 H3 X.xe I3 (nn Kp) Da stop) λr s4⟨hr,I4⟩=> ?_);subst hr;exact HV ⟨σ3,H3,I4,qn⟩
 refine uX hp (a_ (T.item X G G G hc i pins s3 σ3 H3 X.xe I3 (nn Kp) Da go) λr s4⟨u,hr,h4⟩=> ?_);subst hr;refine uX hp (a_ h4 λ_ s5⟨x,H5,I5,ut,W7,rb,W8⟩=> ?_);have W9:=I5.pinned (nn W8) (T.obj _ _ rb);refine uX hp (a_ (hg _ s5 σ3 H5 x u _ W9 ut (step x H5 W7)) λ_ s6⟨σ6,H6,I6,np⟩=> ?_);refine uX hp (a_ (hb _ s6 σ6 H6 _ I6 np) λf s7 q7=> ?_)
 have again:∀{σ7:St}{H7:Hp},Inv X (pins++vS fp s5.heap) σ7 H7 s7->N σ7 H7->∃m,m<n/\∃i σ' U,Inv X pins σ' U s7/\tn i s7.heap/\(∀b∈fp,U b=ak)/\W i m σ' U:=λ{σ7 H7}I7 nr=>by obtain⟨m',hm,W_⟩:=hN σ7 H7 nr;exists m',hm,i+1,σ7,H7,I7.yV,T.keep _ _ _ rb λb hb o e=>(I7.pin (b,o) (ki _ (ki _ (Cj hb e)))).1,λb hb=> ?_,W_;obtain⟨o,e,d⟩:=T.obj _ _ rb b hb;exact(I7.pin (b,o) (ki _ (ki _ (Cj hb e)))).2.1
 cases f with
 |next=>obtain⟨σ7,H7,I7,nr⟩:=q7;exact again I7 nr
 |cont=>obtain⟨σ7,H7,I7,nr⟩:=q7;exact again I7 nr
 |brk=>obtain⟨σ7,H7,I7,q7⟩:=q7;exists σ7,H7,I7.yV,q7
 |ret v=>obtain⟨N0,σ7,H7,I7,u1,q7⟩:=q7;exists N0,σ7,H7,I7.yV,u1,q7
variable{D:mH}
theorem jD{tb:TS}(Pv:Nat->St->Hp->Prop)(h0:Pv 0 σ H)(hl:∀i σ H,i<=xs.length->Pv i σ H->az K H a xs)
  (hs:∀i x σ H,xs[i]? =I x->Pv i σ H->g x σ H λσ2 H2=>tb {D with nx:=Pv (i+1),ct:=Pv (i+1),fy:=D.nx} σ2 H2)(hd:∀σ H,Pv xs.length σ H->D.nx σ H):
  ∃W:Nat->Nat->St->Hp->Prop,(∃m,W 0 m σ H)/\∀i m σ H,W i m σ H->
   ((fB K a).stop i H/\D.nx σ H)\/((fB K a).go i H/\∃N:St->Hp->Prop,(∀σ' U,N σ' U->∃m',m'<m/\W (i+1) m' σ' U)/\∀x U,(fB K a).iD i H x U->g x σ U λσ2 H2=>tb {D with nx:=N,ct:=N,fy:=D.nx} σ2 H2):=by
 exists λi m σ H=>m=xs.length-i/\i<=xs.length/\Pv i σ H,⟨xs.length,by simp,b6 _,h0⟩;rintro i m σ H⟨rfl,hi,p⟩;have q:=hl i σ H hi p;by_cases al:i<xs.length
 .refine .inr ⟨⟨xs,xs[i],q,by simp[al]⟩,Pv (i+1),λσ' U p'=>⟨xs.length-(i+1),by lia,G,al,p'⟩,λx U y=> ?_⟩;obtain⟨e,y⟩:=y;subst e;exact hs i x σ _ (y xs q) p
 have e:i=xs.length:=by lia
 subst e;exact .inl ⟨⟨xs,q,aZ _⟩,hd σ H p⟩
theorem Xa{tb:TS}(Pv:Nat->St->Hp->Prop)(h0:Pv 0 σ H)(hl:∀i σ H,i<=xs.length->Pv i σ H->bz K H a xs)
  (hs:∀i x σ H,xs[i]? =I x->Pv i σ H->g x σ H λσ2 H2=>tb {D with nx:=Pv (i+1),ct:=Pv (i+1),fy:=D.nx} σ2 H2)(hd:∀σ H,Pv xs.length σ H->D.nx σ H):
  ∃W:Nat->Nat->St->Hp->Prop,(∃m,W 0 m σ H)/\∀i m σ H,W i m σ H->
   ((vR K a).stop i H/\D.nx σ H)\/((vR K a).go i H/\∃N:St->Hp->Prop,(∀σ' U,N σ' U->∃m',m'<m/\W (i+1) m' σ' U)/\∀x U,(vR K a).iD i H x U->g x σ U λσ2 H2=>tb {D with nx:=N,ct:=N,fy:=D.nx} σ2 H2):=by
 exists λi m σ H=>m=xs.length-i/\i<=xs.length/\Pv i σ H,⟨xs.length,by simp,b6 _,h0⟩;rintro i m σ H⟨rfl,hi,p⟩;have q:=hl i σ H hi p;by_cases al:i<xs.length
 .refine .inr ⟨⟨xs,xs[i],q,by simp[al]⟩,Pv (i+1),λσ' U p'=>⟨xs.length-(i+1),by lia,G,al,p'⟩,λx U y=> ?_⟩;obtain⟨e,y⟩:=y;subst e;exact hs i x σ _ (y xs q) p
 have e:i=xs.length:=by lia
 subst e;exact .inl ⟨⟨xs,q,aZ _⟩,hd σ H p⟩
abbrev R2:=V->V->Hp->VK->Prop
def dX(X:Cx)(f:aq->aq->jS aq)(r:R2):Prop:=
 ∀(pins:M (af×bA))(s:aI)(σ:St)(H:Hp)(x y:V)(v u:aq)(Q:VK),Inv X pins σ H s->RelV x v->RelV y u->r x y H Q->
  aJ (aL X.prog X.w) X.A (f v u) (EP X pins σ Q) X.xe s
def Ck(X:Cx)(f:aq->jS aq)(r:V->Hp->VK->Prop):Prop:=
 ∀(pins:M (af×bA))(s:aI)(σ:St)(H:Hp)(x:V)(v:aq)(Q:VK),Inv X pins σ H s->RelV x v->r x H Q->
  aJ (aL X.prog X.w) X.A (f v) (EP X pins σ Q) X.xe s
def gZ(X:Cx)(f:aq)(r:M V->Hp->VK->Prop):Prop:=
 ∀(pins:M (af×bA))(s:aI)(σ:St)(H:Hp)(xs:M V)(us:M aq)(Q:VK),Inv X pins σ H s->Vals xs us->r xs H Q->
  aJ (aL X.prog X.w) X.A (call f us) (EP X pins σ Q) X.xe s
def Xb(X:Cx)(r:V->Hp->(Bool->Hp->Prop)->Prop):Prop:=
 ∀(pins:M (af×bA))(s:aI)(σ:St)(H:Hp)(x:V)(v:aq)(Q:Bool->Hp->Prop),Inv X pins σ H s->RelV x v->r x H Q->
  aJ (aL X.prog X.w) X.A (truthy v) (TP X pins σ Q) X.xe s
def lF(r:R2)(ta tb:TE):TE:=λσ H Q=>ta σ H λx H1=>tb σ H1 λy H2=>r x y H2 Q
def Xc(r:V->Hp->VK->Prop)(ta:TE):TE:=λσ H Q=>ta σ H λx H1=>r x H1 Q
inductive yW(C:Int->Int->Prop)(g:Int->Int->V)(x:V)(y:V)(H:Hp)(Q:VK):Prop|mk(i:_)(j:_)(_:x= .int i)(_:y= .int j)(_:C i j)(_:Q (g i j) H)
inductive nF(g:Int->Int->V)(x:V)(y:V)(H:Hp)(Q:VK):Prop|mk(i:_)(j:_)(_:x= .int i)(_:y= .int j)(_:Q (g i j) H)
inductive Kq(g:Int->V)(x:V)(H:Hp)(Q:VK):Prop|mk(i:_)(_:x= .int i)(_:Q (g i) H)
variable{a:bE}
def Cm(ha:PE X a ta)(hb:PE X b tb)(ab:Inv X pins σ H s)
  (h:ta σ H λx H1=>tb σ H1 λy H2=>R x y H2){f:aq->aq->jS aq}
  (hf:∀v u s2 x y H2,Inv X pins σ H2 s2->RelV x v->RelV y u->R x y H2->aJ (aL X.prog X.w) X.A (f v u) Q X.xe s2):
  aJ (aL X.prog X.w) X.A (eval a X.env) (λv s₁=>aJ (aL X.prog X.w) X.A (eval b X.env) (λu s₂=>aJ (aL X.prog X.w) X.A (f v u) Q X.xe s₂) X.xe s₁) X.xe s:=by
 refine a_ (ha pins s σ H _ ab h) λv s1⟨x,H1,I1,r1,q1⟩=> ?_;exact a_ (hb pins s1 σ H1 _ I1 q1) λu s2⟨y,H2,I2,r2,q2⟩=>hf v u s2 x y H2 I2 r1 r2 q2
variable{r:R2}
def bP{op:Ul}(ho:dX X (sG op) r)(ha:PE X a ta)(hb:PE X b tb):PE X (.BinOp a op b pos) (lF r ta tb):=by intro pins s σ H Q ab h;exact wpAny_BinOp (Cm ha hb ab h λv u s2 x y H2 I2 rx ry q=>ho pins s2 σ H2 x y v u Q I2 rx ry q)
def tR{op:UnaryOp}{r:V->Hp->VK->Prop}(ho:Ck X (unaryOp op) r)(ha:PE X a ta):PE X (.UnaryOp op a pos) (Xc r ta):=by intro pins s σ H Q ab h;exact UnaryOp_ (a_ (ha pins s σ H _ ab h) λv s1⟨x,H1,I1,r1,q1⟩=>ho pins s1 σ H1 x v Q I1 r1 q1)
variable{g:Int->Int->Int}
def Cn{f:aq->aq->jS aq}{C:Int->Int->Prop}(rule:∀(i j:Int)(t u:Tok)(s:aI)(Q:aq->aI->Prop)(E:aq->aI->Prop),C i j->Q (.int (g i j) s.toks) {s with toks:=s.toks+1}->aJ (aL X.prog X.w) X.A (f (.int i t) (.int j u)) Q E s):
  dX X f (yW C λi j=>.int (g i j)):=by
 intro pins s σ H x y v u Q ab rx ry h;obtain⟨i,j,rfl,rfl,hc,q⟩:=h;obtain⟨t,rfl⟩:=rx;obtain⟨t',rfl⟩:=ry;exact rule i j t t' s _ _ hc ⟨.int (g i j),H,ab.tok _,⟨_,G⟩,q⟩
def Kr{f:aq->aq->jS aq}(rule:∀(i j:Int)(t u:Tok)(s:aI)(Q:aq->aI->Prop)(E:aq->aI->Prop),Q (.int (g i j) s.toks) {s with toks:=s.toks+1}->aJ (aL X.prog X.w) X.A (f (.int i t) (.int j u)) Q E s):
  dX X f (nF λi j=>.int (g i j)):=by
 intro pins s σ H x y v u Q ab rx ry h;obtain⟨i,j,rfl,rfl,q⟩:=h;obtain⟨t,rfl⟩:=rx;obtain⟨t',rfl⟩:=ry;exact rule i j t t' s _ _ ⟨.int (g i j),H,ab.tok _,⟨_,G⟩,q⟩
def yX{f:aq->aq->jS aq}{g:Int->Int->Bool}
  (rule:∀(i j:Int)(t u:Tok)(s:aI)(Q:aq->aI->Prop)(E:aq->aI->Prop),Q (.bool (g i j)) s->aJ (aL X.prog X.w) X.A (f (.int i t) (.int j u)) Q E s):
  dX X f (nF λi j=>.bl (g i j)):=by
 intro pins s σ H x y v u Q ab rx ry h;obtain⟨i,j,rfl,rfl,q⟩:=h;obtain⟨t,rfl⟩:=rx;obtain⟨t',rfl⟩:=ry;exact rule i j t t' s _ _ ⟨.bl (g i j),H,ab,G,q⟩
def Xd(i j:Int):Prop:=0<j/\j<1073741824
def Co(i j:Int):Prop:=(-(2^64)<i/\i<2^64)\/(-(2^64)<j/\j<2^64)
variable{i:Int}
def Co.ok{j:Int}(h:Co i j):IntMulOk i j:=by
 obtain⟨h1,h2⟩|⟨h1,h2⟩:=h
 .exact .of_left (intBits_le_64 h1 h2)
 exact .of_right (intBits_le_64 h1 h2)
def fY:dX X (sG .Add) (nF λi j=>.int (i+j)):=Kr λ_ _ _ _ _ _ _ q=>add_int q
def mJ:dX X (sG .Sub) (nF λi j=>.int (i-j)):=Kr λ_ _ _ _ _ _ _ q=>sub_int q
def vU:dX X (sG .Mult) (yW Co λi j=>.int (i*j)):=Cn λ_ _ _ _ _ _ _ hc q=>mul_int q hc.ok
theorem Ks:dX X (sG .FloorDiv) (yW Xd λi j=>.int (i/j)):=Cn λi j _ _ _ _ _ hc q=>by have h1:=hc.1;have h2:=hc.2;exact floordiv_int (by lia) (by rw[Int.fdiv_eq_ediv_of_nonneg i (by lia)];exact q) (.inl (ajO (by lia)))
theorem Xe:dX X (sG .Mod) (yW (λ_ j=>0<j) λi j=>.int (i%j)):=Cn λi j _ _ _ _ _ hc q=>by have h1:=hc;exact mod_int' (by lia) (by rw[Int.fmod_eq_emod_of_nonneg i (by lia)];exact q)
def Xf{f:aq->jS aq}{g:Int->Int}
  (rule:∀(i:Int)(t:Tok)(s:aI)(Q:aq->aI->Prop)(E:aq->aI->Prop),Q (.int (g i) s.toks) {s with toks:=s.toks+1}->aJ (aL X.prog X.w) X.A (f (.int i t)) Q E s):
  Ck X f (Kq λi=>.int (g i)):=by
 intro pins s σ H x v Q ab rx h;obtain⟨i,rfl,q⟩:=h;obtain⟨t,rfl⟩:=rx;exact rule i t s _ _ ⟨.int (g i),H,ab.tok _,⟨_,G⟩,q⟩
def tS:Ck X (unaryOp .USub) (Kq λi=>.int (-i)):=Xf λ_ _ _ _ _ q=>neg_int q
noncomputable def Cp:V->V->Bool| .bx,.bx=>aa| .bx,.int _=>aa| .int _,.bx=>aa| .bx,.bl _=>aa| .bl _,.bx=>aa| .bx,.str _=>aa| .str _,.bx=>aa| .int _,.int _=>aa| .bl _,.bl _=>aa| .str _,.str _=>aa| .gX _,.gX _=>aa| .int _,.str _=>aa| .str _,.int _=>aa| .bl _,.str _=>aa| .str _,.bl _=>aa|_,_=>ao
def Xg:R2:=λx y H Q=>Cp x y=aa/\Q (.bl (decide (x=y))) H
def Xh:R2:=λx y H Q=>Cp x y=aa/\Q (.bl (!decide (x=y))) H
def Ku{j:Int}:decide (V.int i=V.int j)=(i==j):=by rw[xQ];simp
def Kv{i j:Bool}:decide (V.bl i=V.bl j)=(i==j):=by rw[xQ];simp
def Kw{i j:aj}:decide (V.str i=V.str j)=(i==j):=by rw[xQ];simp
def Kx{i j:Array UInt8}:decide (V.gX i=V.gX j)=(i.toList==j.toList):=by rw[xQ];cases i;cases j;simp
def d7{Q:VK}{k k':Bool}(ab:Inv X pins σ H s)(q:Q (.bl k) H)(e:k=k'):EP X pins σ Q (.bool k') s:=by subst e;exists .bl k,H,ab,G,q
def dm:dX X (e7 .Eq) Xg:=by
 intro pins s σ H x y v u Q ab rx ry h;obtain⟨hs,q⟩:=h;cases x with
 |bx=>
  cases rx;cases y with
  |bx=>cases ry;exact amC (d7 ab q (by simp))
  |bl j=>cases ry;exact amD (d7 ab q (by simp))
  |int j=>obtain⟨t',rfl⟩:=ry;exact amE (d7 ab q (by simp))
  |str j=>obtain⟨t',rfl⟩:=ry;exact amF (d7 ab q (by simp))
  |_=>exact aU (hs) dJ
 |bl i=>
  cases rx;cases y with
  |bx=>cases ry;exact amG (d7 ab q (by simp))
  |bl j=>cases ry;exact eq_bool (d7 ab q Kv)
  |str j=>obtain⟨t',rfl⟩:=ry;exact amH (d7 ab q (by simp))
  |_=>exact aU (hs) dJ
 |int i=>
  obtain⟨t,rfl⟩:=rx;cases y with
  |bx=>cases ry;exact amI (d7 ab q (by simp))
  |int j=>obtain⟨t',rfl⟩:=ry;exact eq_int (d7 ab q Ku)
  |str j=>obtain⟨t',rfl⟩:=ry;exact amJ (d7 ab q (by simp))
  |_=>exact aU (hs) dJ
 |str i=>
  obtain⟨t,rfl⟩:=rx;cases y with
  |bx=>cases ry;exact amK (d7 ab q (by simp))
  |bl j=>cases ry;exact amL (d7 ab q (by simp))
  |int j=>obtain⟨t',rfl⟩:=ry;exact amM (d7 ab q (by simp))
  |str j=>obtain⟨t',rfl⟩:=ry;exact eq_str (d7 ab q Kw)
  |_=>exact aU (hs) dJ
 |gX i=>
  obtain⟨t,rfl⟩:=rx;cases y with
  |gX j=>obtain⟨t',rfl⟩:=ry;exact PySem.W.eq_bytes (d7 ab q Kx)
  |_=>exact aU (hs) dJ
 |_=>cases y<;>exact aU (hs) dJ
def lG:dX X (e7 .NotEq) Xh:=by
 intro pins s σ H x y v u Q ab rx ry h;obtain⟨hs,q⟩:=h;cases x with
 |bx=>
  cases rx;cases y with
  |bx=>cases ry;exact amN (d7 ab q (by simp))
  |bl j=>cases ry;exact amO (d7 ab q (by simp))
  |int j=>obtain⟨t',rfl⟩:=ry;exact amP (d7 ab q (by simp))
  |str j=>obtain⟨t',rfl⟩:=ry;exact amQ (d7 ab q (by simp))
  |_=>exact aU (hs) dJ
 |bl i=>
  cases rx;cases y with
  |bx=>cases ry;exact amR (d7 ab q (by simp))
  |bl j=>cases ry;exact ne_bool (d7 ab q (cC not Kv))
  |str j=>obtain⟨t',rfl⟩:=ry;exact amS (d7 ab q (by simp))
  |_=>exact aU (hs) dJ
 |int i=>
  obtain⟨t,rfl⟩:=rx;cases y with
  |bx=>cases ry;exact amT (d7 ab q (by simp))
  |int j=>obtain⟨t',rfl⟩:=ry;exact ne_int (d7 ab q (cC not Ku))
  |str j=>obtain⟨t',rfl⟩:=ry;exact amU (d7 ab q (by simp))
  |_=>exact aU (hs) dJ
 |str i=>
  obtain⟨t,rfl⟩:=rx;cases y with
  |bx=>cases ry;exact amV (d7 ab q (by simp))
  |bl j=>cases ry;exact amW (d7 ab q (by simp))
  |int j=>obtain⟨t',rfl⟩:=ry;exact amX (d7 ab q (by simp))
  |str j=>obtain⟨t',rfl⟩:=ry;exact ne_str (d7 ab q (cC not Kw))
  |_=>exact aU (hs) dJ
 |gX i=>
  obtain⟨t,rfl⟩:=rx;cases y with
  |gX j=>obtain⟨t',rfl⟩:=ry;exact PySem.W.ne_bytes (d7 ab q (cC not Kx))
  |_=>exact aU (hs) dJ
 |_=>cases y<;>exact aU (hs) dJ
def pY:dX X (e7 .Lt) (nF λi j=>.bl (decide (i<j))):=yX λ_ _ _ _ _ _ _ q=>ajP q
def gG:dX X (e7 .LtE) (nF λi j=>.bl (decide (i<=j))):=yX λ_ _ _ _ _ _ _ q=>le_int q
def lH:dX X (e7 .Gt) (nF λi j=>.bl (decide (j<i))):=yX λ_ _ _ _ _ _ _ q=>ajQ q
def Ky:dX X (e7 .GtE) (nF λi j=>.bl (decide (j<=i))):=yX λ_ _ _ _ _ _ _ q=>ge_int q
def Cq:dX X (e7 .Is) (λx y H Q=>y= .bx/\Q (.bl (decide (x= .bx))) H):=by
 intro pins s σ H x y v u Q ab rx ry h;obtain⟨rfl,q⟩:=h;cases ry;refine is_none_gen (d7 ab q ?_)
 cases x<;>first
  |(cases rx;rfl)
  |(obtain⟨t,rfl⟩:=rx;rfl)
def Xi:dX X (e7 .IsNot) (λx y H Q=>y= .bx/\Q (.bl (!decide (x= .bx))) H):=by
 intro pins s σ H x y v u Q ab rx ry h;obtain⟨rfl,q⟩:=h;cases ry;refine isnot_none_gen (d7 ab q ?_)
 cases x<;>first
  |(cases rx;rfl)
  |(obtain⟨t,rfl⟩:=rx;rfl)
def jZ(b:bE)(h:op≠ .In:=by decide)(h2:op≠ .NotIn:=by decide):qD op b=ao:=by
 have e1:(op==CmpOp.In)=ao:=by cases op<;>first|rfl|exact aU G h
 have e2:(op==ajF)=ao:=by cases op<;>first|rfl|exact aU G h2
 cases b<;>simp[qD,e1,e2]
def jE(ho:dX X (e7 op) r)(ha:PE X a ta)(hb:PE X b tb)(hm:qD op b=ao):PE X (.Compare a [op] [b] pos) (lF r ta tb):=by intro pins s σ H Q ab h;exact wpAny_Compare1 (Cm ha hb ab h λv u s2 x y H2 I2 rx ry q=>ho pins s2 σ H2 x y v u Q I2 rx ry q) hm
def vV(t:TE):TT:=λσ H Q=>t σ H λx U=>vK x λk=>Q k U
def tT(ho:dX X (e7 op) r)(ha:PE X a ta)(hb:PE X b tb)(hm:qD op b=ao):PT X (.Compare a [op] [b] pos) (vV (lF r ta tb)):=by
 intro pins s σ H Q ab h
 refine ajG (a_ (ha pins s σ H _ ab h) λv s1⟨x,H1,I1,r1,q1⟩=>a_ (hb pins s1 σ H1 _ I1 q1) λu s2⟨y,H2,I2,r2,q2⟩=>
  a_ (ho pins s2 σ H2 x y v u _ I2 r1 r2 q2) λc s3⟨z,H3,I3,r3,k,e,q3⟩=> ?_) hm
 subst e;cases r3;exact nc ⟨H3,I3,q3⟩
variable{tc:TE}
def Cr(r r':R2)(ta tb tc:TE):TE:=λσ H Q=>ta σ H λx H1=>tb σ H1 λy H2=>r x y H2 λz H3=>∃k,z= .bl k/\
 (if k=aa then tc σ H3 λw' H4=>r' y w' H4 Q else Q (.bl ao) H3)
variable{rc:CmpOp}{r':R2}
def Kz(ho:dX X (e7 op) r)(c9:dX X (e7 rc) r')(ha:PE X a ta)(hb:PE X b tb)(hc:PE X c tc)
  (hm:lastMarks [op,rc] [b,c]=ao:=by with_unfolding_all rfl):PE X (.Compare a [op,rc] [b,c] pos) (Cr r r' ta tb tc):=by
 intro pins s σ H Q ab h
 refine Compare_chain (a_ (ha pins s σ H _ ab h) λv s1⟨x,H1,I1,r1,q1⟩=>chain_link (a_ (hb pins s1 σ H1 _ I1 q1) λu s2⟨y,H2,I2,r2,q2⟩=>
  a_ (ho pins s2 σ H2 x y v u _ I2 r1 r2 q2) λd s3⟨z,H3,I3,r3,k,e,q3⟩=> ?_)) hm
 subst e;cases r3;refine nc ?_;cases k with
 |false=>exact ite_ff ⟨.bl ao,H3,I3,G,q3⟩
 |true=>exact ite_tt (chain_last (a_ (hc pins s3 σ H3 _ I3 q3) λw' s4⟨z',H4,I4,r4,q4⟩=>c9 pins s4 σ H4 y z' u w' Q I4 r2 r4 q4))
def tU(ho:dX X (e7 op) r)(c9:dX X (e7 rc) r')(ha:PE X a ta)(hb:PE X b tb)(hc:PE X c tc)
  (hm:lastMarks [op,rc] [b,c]=ao:=by with_unfolding_all rfl):PT X (.Compare a [op,rc] [b,c] pos) (vV (Cr r r' ta tb tc)):=by
 intro pins s σ H Q ab h
 refine isTrue_chain (a_ (ha pins s σ H _ ab h) λv s1⟨x,H1,I1,r1,q1⟩=>test_link (a_ (hb pins s1 σ H1 _ I1 q1) λu s2⟨y,H2,I2,r2,q2⟩=>
  a_ (ho pins s2 σ H2 x y v u _ I2 r1 r2 q2) λd s3⟨z,H3,I3,r3,k,e,q3⟩=> ?_)) hm
 subst e;cases r3;refine nc ?_;cases k with
 |false=>obtain⟨k',e',q'⟩:=q3;cases e';exact ite_ff ⟨H3,I3,q'⟩
 |true=>refine ite_tt (test_last (a_ (hc pins s3 σ H3 _ I3 q3) λw' s4⟨z',H4,I4,r4,q4⟩=>a_ (c9 pins s4 σ H4 y z' u w' _ I4 r2 r4 q4) λd' s5⟨z2,H5,I5,ut,k2,e2,q5⟩=> ?_));subst e2;cases ut;exact nc ⟨H5,I5,q5⟩
def KA(K:aR)(x:V)(H:Hp)(k:Bool):Prop:=
 match x with
 | .bx=>k=ao
 | .bl b=>k=b
 | .int i=>k=(i !=0)
 | .str y=>y.length<=sizeLine/\k=((y.length:Int) !=0)
 | .gX y=>y.size<=sizeLine/\k=((y.size:Int) !=0)
 | .ref p=>(∃xs,az K H p xs/\k= !xs.isEmpty)\/(∃xs,bz K H p xs/\k= !xs.isEmpty)\/∃ae,H p=I (.dK ae)/\k= !ae.isEmpty
 |_=>False
def Xj{ae:M (κ×V)}{vs:M (κ×aq)}(r:KV ae vs):(!vs.isEmpty)= !ae.isEmpty:=by cases r<;>rfl
def KC{ad:M aq}(r:Vals xs ad):(!ad.toArray.isEmpty)= !xs.isEmpty:=by cases r<;>simp
def vW:(sizeLine:Nat)<2^63:=by rw[cY];decide
theorem Xk:Xb X (λx H Q=>∃k,KA X.K x H k/\Q k H):=by
 intro pins s σ H x v Q ab rx h;obtain⟨k,e,q⟩:=h;have hl:=vW;have hs:=cY;cases x with
 |bx=>cases rx;have e':=e;subst e';exact truthy_none ⟨H,ab,q⟩
 |bl b=>cases rx;have e':=e;subst e';exact nc ⟨H,ab,q⟩
 |int i=>obtain⟨t,rfl⟩:=rx;have e':=e;subst e';exact PySem.P.truthy_int ⟨H,ab,q⟩
 |str y=>obtain⟨t,rfl⟩:=rx;obtain⟨hy,e'⟩:=e;subst e';exact PySem.P.truthy_str (by lia) ⟨H,ab.tok _,q⟩
 |gX y=>obtain⟨t,rfl⟩:=rx;obtain⟨hy,e'⟩:=e;subst e';exact PySem.W.truthy_bytes (by lia) ⟨H,ab.tok _,q⟩
 |ref p=>
  cases rx;have e':=e;obtain⟨xs,hx,e'⟩|⟨xs,hx,e'⟩|⟨ae,hx,e'⟩:=e'
  .subst e';obtain⟨ad,r,pl,hz⟩:=ab.list hx;have hlen:=r.length;exact wpAny_truthy_list pl.isList (by simp only[eX];lia) ⟨H,ab.tok _,by rw[KC r];exact q⟩
  .subst e';obtain⟨ad,r,pl,hz⟩:=ab.tuple hx;have hlen:=r.length;exact truthy_tuple pl (by simp only[eX];lia) ⟨H,ab.tok _,by rw[KC r];exact q⟩
  subst e';obtain⟨hz,hS,vs,r,m⟩:=ab.aQ p _ hx;have hlen:=sD r;exact wpAny_truthy_dict hS m (by lia) ⟨H,ab.tok _,by rw[Xj r];exact q⟩
 |_=>exact(e).elim
def pZ(ha:PE X a ta)(he:∀whole,xO a X.env whole=(do let v<-whole;uW a.pos;holding [v] (truthy v))):
  PT X a (λσ H Q=>ta σ H λx U=>∃k,KA X.K x U k/\Q k U):=by
 intro pins s σ H Q ab h;exact isTrue_plain (a_ (ha pins s σ H _ ab h) λv s1⟨x,H1,I1,r1,q1⟩=>Xk pins s1 σ H1 x v Q I1 r1 q1) (he _)
variable{us:M aq}
def vals1{x:V}(r:Vals [x] us):∃u,us=[u]/\RelV x u:=by
 cases r with
 |cons r1 r2=>cases r2;exists _,G,r1
def j0:gZ X (.builtin "ord") (λxs H Q=>∃x,xs=[.str x]/\x.length=1/\Q (.int (x.cps.getD 0 0:Nat)) H):=by intro pins s σ H xs us Q ab r h;obtain⟨x,rfl,hz,q⟩:=h;obtain⟨u,rfl,t,rfl⟩:=vals1 r;exact ord_of_one hz ⟨.int _,H,ab.tok _,⟨_,G⟩,q⟩
structure rA(h:bB)(x dx C:af)(mA:aj->aG aq):Prop where
 obj:h.get? x=I (sF C dx)
 ns:h.Ns1 dx mA
 ne:dx≠x
variable{dx:af}{mA:aj->aG aq}
def Xl(n:h.Ns1 dx mA):∃od,h.get? dx=I od/\∀name,HY name od=I (mA name):=by
 obtain⟨o,es,ep,ho,hd,hk,_,hm⟩:=n;refine⟨o,ho,λname=> ?_⟩;have e:=hm name;unfold nsFind findBy at e;rw[<-Array.find?_toList]at e;unfold HY;rw[hd];dsimp only;split
 .rename_i y q;rw[q]at e;exact cC I e
 rename_i q;rw[q]at e
 have a:es.toList.any (·.refKey)=ao:=by rw[List.any_eq_false];intro y hy;obtain⟨z,t,kl⟩:=hk y (ajR.mp hy);simp[DictEntry.refKey,kl]
 have a':¬es.toList.any (·.refKey)=aa:=by rw[a];exact dJ
 rw[au a'];exact cC I e
variable{C:af}
def rA.look{x:af}(ab:rA h x dx C mA):∃od,PySem.W.InstAt h x (sF C dx) C (I od)/\∀name,HY name od=I (mA name):=
 let⟨od,ho,hl⟩:=Xl ab.ns
 ⟨od,⟨ab.obj,G,G,ho⟩,hl⟩
variable{prog:bY}{x:af}{name:aj}{v:aq}
def get_map{Xm:Bool}(X:K.In s.heap)(ab:rA s.heap x dx C mA)(hg:A1 K C name=aa)(hh:HK K C=aa)
  (ha:m7 K (.ref C) name=I ak)(hv:mA name=I v)(Db:ajS v=aa)(h:Q v {s with toks:=s.toks+1}):
  aJ (aL prog w) A (Up (.ref x) name Xm) Q E s:=by
 obtain⟨od,J,hl⟩:=ab.look;exact PySem.W.get_value X J (Uq hg).1 (PySem.W.findObj_own hh ha G (by rw[hl,hv])) Db h
variable{f:af}{pl:jS Bool}
def Xn{Q:aq×M aq->aI->Prop}(X:K.In s.heap)(ab:rA s.heap x dx C mA)(hg:A1 K C name=aa)
  (hf:m7 K (.ref C) name=I (I (.ref f)))(ht:HM K (.ref f)=aa)(hv:mA name=ak)(h:Q (.ref f,[.ref x]) s):
  aJ (aL prog w) A (uZ (.ref x) name pl) Q E s:=by
 obtain⟨od,J,hl⟩:=ab.look;exact PySem.W.method_fn X J (Uq hg).1 (Uq hg).2 hf (iZ.mp ht) (by show(HY name od).map (·.isSome)=I ao;rw[hl,hv];rfl) h
theorem Xo{ns:M aj}{Q:Unit->aI->Prop}(X:K.In s.heap)(ab:rA s.heap x dx C mA)
  (hs:m7 K (.ref C) "__setattr__"=I (I (.builtin "object.__setattr__")))(hp:Ub K C=aa)(ht:Ur K C name=I ak)(hh:HK K C=aa)
  (hw:Ue mA ns)(ba:ns.length<=sizeLine)
  (h:∀h',rA h' x dx C (λy=>if y=name then I v else mA y)->o9 dx s.heap h'->Q () {s with heap:=h',toks:=s.toks+2}):
  aJ (aL prog w) A (setAttr (.ref x) name v) Q E s:=by
 obtain⟨od,J,hl⟩:=ab.look;refine PySem.W.set_plain X J hs (PySem.W.osa_open X J hp ht λb=> ?_);obtain⟨fg,hc,eD⟩:=PySem.W.any_some hh;have hx:=ab.obj;refine aA (aN (aA (aA (wpAny_loadPart hx (aA (amY (PySem.W.looks_clsIn X hc) ?_))))));rw[eD];refine aN (aA (aN (aA ?_)));refine wpAny_nsSet1 ab.ns λh' KG il=> ?_;obtain⟨al9,esD,epD,Xp,Xq,Xr⟩:=KG.count (amZ name v hw);exact aA (wpAny_lookBehind Xp (by rw[Xq];exact pastItsLine_dict (cX Xr (by rw[bT];lia))) (aN (h _ ⟨(il.2 _ (ie ab.ne)).trans ab.obj,KG,ab.ne⟩ il)))
variable{kw:M (aj×aq)}
def Xs{R:u0->aI->Prop}{vs:M aq}(X:K.In s.heap)(hm:HL K C=aa)
  (hi:m7 K (.ref C) "__init__"=I (I (.ref f)))(hf:PySem.W.typeIn K (.ref f)=I (.type "function"))
  (h:l0 (aL prog w) (A.under (.builtin "type.__call__" ⟨.ref C::vs,kw⟩)) (.call (.ref f) ⟨.ref (s.heap.objs.size+1)::vs,kw⟩) (PySem.W.InitBack (s.heap.objs.size+1) R) {s with heap:=(s.heap.push qE).push (sF C s.heap.objs.size)}):
  l0 (aL prog w) A (.call (.ref C) ⟨vs,kw⟩) R s:=by
 obtain⟨hh,g,d,t,os⟩:=s;exact PySem.W.make_core (PySem.W.makes_of X hm) (PySem.W.looks_findIn X hi) (λself=>PySem.W.bind_fn X self hf) (.inl G) h
noncomputable def bU(f:aj)(v:V):M (aj×V)->M (aj×V)|[]=>[(f,v)]|(g,x)::r=>if g=f then(g,v)::r else(g,x)::bU f v r
theorem KH(f g:aj)(v:V):∀fs:M (aj×V),(bU f v fs).lookup g=if g=f then I v else fs.lookup g
 |[]=>by
  show qF g [(f,v)]=_;by_cases h:g=f
  .have hb:=iZ.mpr h;simp only[qF,hb,av h]
  have hb:=gB.mpr h;simp only[qF,hb,au h]
 |(k,x)::r=>by
  rw[show bU f v ((k,x)::r)=(if k=f then(k,v)::r else(k,x)::bU f v r) from G];by_cases hk:k=f
  .rw[av hk];by_cases h:g=k
   .have hb:=iZ.mpr h;simp only[qF,hb,av (h.trans hk)]
   have hb:=gB.mpr h;simp only[qF,hb,au (λe:g=f=>h (e.trans hk.symm))]
  rw[au hk];by_cases h:g=k
  .have hb:=iZ.mpr h;simp only[qF,hb,au (λe:g=f=>hk (h.symm.trans e))]
  have hb:=gB.mpr h;simp only[qF,hb];exact KH f g v r
theorem Cs(f:aj)(v:V):∀fs:M (aj×V),f∈(bU f v fs).map (·.1)/\∀g,g∈fs.map (·.1)->g∈(bU f v fs).map (·.1)
 |[]=>⟨by simp[bU],λg h=>by simp at h⟩|(k,x)::r=>by
  obtain⟨i1,i2⟩:=Cs f v r;rw[show bU f v ((k,x)::r)=(if k=f then(k,v)::r else(k,x)::bU f v r) from G];by_cases hk:k=f
  .rw[av hk];subst hk;exact⟨by simp,λg h=>by simpa using h⟩
  rw[au hk];exists ?_,λg h=> ?_
  .rw[b9];exact bZ _ i1
  rw[b9]at h⊢;obtain e|e:=bh.mp h
  .exact bh.mpr (.inl e)
  exact bZ _ (i2 g e)
theorem KI(f:aj)(v:V):∀fs:M (aj×V),(bU f v fs).length<=fs.length+1
 |[]=>by simp[bU]|(k,x)::r=>by
  have ih:=KI f v r;rw[show bU f v ((k,x)::r)=(if k=f then(k,v)::r else(k,x)::bU f v r) from G];by_cases hk:k=f
  .rw[av hk,bT,bT];lia
  rw[au hk,bT,bT];lia
variable{v:V}
def jd.some_of{o:aG aq}(r:jd (I v) o):∃u,o=I u/\RelV v u:=by
 cases o with
 |none=>exact(r).elim
 |some u=>exists u,G,r
def jd.none_of{o:aG aq}(r:jd ak o):o=ak:=by
 cases o with
 |none=>rfl
 |some u=>exact(r).elim
def Xu(r:RelV v u):ajS u=aa:=by
 cases v with
 |bx=>cases(r);rfl
 |bl b=>cases(r);rfl
 |int i=>obtain⟨t,e⟩:=(r);cases e;rfl
 |str x=>obtain⟨t,e⟩:=(r);cases e;rfl
 |gX b=>obtain⟨t,e⟩:=(r);cases e;rfl
 |oE b=>obtain⟨t,e⟩:=(r);cases e;rfl
 |ref a=>cases(r);rfl
 |ty n=>cases(r);rfl
section
variable{P:bY}{w:bR}{H U:Hp}{h h':bB}{a C dx:af}{fs Wr:M (aj×V)}
def Ct(aQ:dP P w H h)(e:H a=I (.ins C dx fs)):∃mA,rA h a dx C mA/\(∀f,jd (fs.lookup f) (mA f))/\Ue mA (fs.map (·.1))/\fs.length<=1000/\H dx=I (.own a):=by obtain⟨d,z,ne,ob,mA,n,r,q⟩:=(aQ a _ e);exists mA,⟨ob,n,ne⟩,r,q,z,d
end
structure fK(K:aR)(C:af):Prop where
 pg:A1 K C m8=aa
 hd:HK K C=aa
 po:Ub K C=aa
 sa:m7 K (.ref C) "__setattr__"=I (I (.builtin "object.__setattr__"))
def fK.get(c:fK K C)(f:aj):A1 K C f=aa:=c.pg
def cF(K:aR)(C:af)(f:aj):Prop:=m7 K (.ref C) f=I ak
def cF.Xv{f:aj}(n:cF K C f):Ur K C f=I ak:=by unfold Ur;rw[show m7 K (.ref C) f=I ak from n];rfl
structure Meth(K:aR)(C:af)(m:aj)(f:af):Prop where
 at_:m7 K (.ref C) m=I (I (.ref f))
 fn:HM K (.ref f)=aa
 kp:kZ K (.ref f)=aa
section
variable{X:Cx}{pins:M (af×bA)}{σ:St}{H:Hp}{s:aI}{a C dx:af}{fs:M (aj×V)}{f:aj}{v:V}{A:eZ}{E:aq->aI->Prop}
def Xw{b:Bool}(ab:Inv X pins σ H s)(e:H a=I (.ins C dx fs))(c:fK X.K C)(n:cF X.K C f)(l:fs.lookup f=I v)
  (h:∀u s',Inv X pins σ H s'->RelV v u->Q u s'):aJ (aL X.prog X.w) A (Up (.ref a) f b) Q E s:=by
 obtain⟨mA,O,r,_,_,_⟩:=Ct ab.aQ e;obtain⟨u,hu,ru⟩:=jd.some_of (by rw[<-l];exact r f);exact get_map ab.iO O (c.get f) c.hd n hu (Xu ru) (h u _ (ab.tok _) ru)
def Cu{m:aj}{g:af}{Q:aq×M aq->aI->Prop}(ab:Inv X pins σ H s)(e:H a=I (.ins C dx fs))(c:fK X.K C)(k:Meth X.K C m g)(l:fs.lookup m=ak)
  (h:Q (.ref g,[.ref a]) s):aJ (aL X.prog X.w) A (uZ (.ref a) m pl) Q E s:=by
 obtain⟨mA,O,r,_,_,_⟩:=Ct ab.aQ e;have hn:=jd.none_of (by rw[<-l];exact r m);exact Xn ab.iO O (c.get m) k.at_ k.fn hn h
theorem Xx{y:V}{Q:Unit->aI->Prop}(ab:Inv X pins σ H s)(e:H a=I (.ins C dx fs))(c:fK X.K C)(n:cF X.K C f)(hl:fs.length<1000)(ry:RelV y u)
  (h:∀s',Inv X pins σ (upd H a (.ins C dx (bU f y fs))) s'->Q () s'):aJ (aL X.prog X.w) A (setAttr (.ref a) f u) Q E s:=by
 obtain⟨mA,O,r,wi,_,ho⟩:=Ct ab.aQ e;have hz:(fs.map (·.1)).length<=sizeLine:=by rw[aE,cY];lia
 refine Xo ab.iO O c.sa c.po n.Xv c.hd wi hz λh' O' sb=>h _ ?_;have hd:∃o,h'.get? dx=I o:=let⟨o,_,_,e',_⟩:=O'.ns;⟨o,e'⟩;refine ab.write (by rw[e];exact xR) (.inr ho) (λb q hb z=>(sb.2 b hb).trans z) hd ?_;exists by rw[aD O.ne];exact ho,?_,O.ne,O'.obj,_,O'.ns,λg=> ?_,λg hg=> ?_
 .have:=KI f y fs;lia
 .rw[KH];by_cases q:g=f
  .rw[av q,av q];exact ry
  rw[au q,au q];exact r g
 by_cases q:g=f
 .rw[q];exact(Cs f y fs).1
 refine(Cs f y fs).2 g (wi g λz=>hg ?_);show(if g=f then I u else mA g)=ak;rw[au q];exact z
def Inv.made(ab:Inv X pins σ H s):Inv X pins σ (upd (upd H s.heap.objs.size (.own (s.heap.objs.size+1))) (s.heap.objs.size+1) (.ins C s.heap.objs.size []))
  {s with heap:=(s.heap.push qE).push (sF C s.heap.objs.size)}:=by
 have e1:(s.heap.push qE).get? s.heap.objs.size=I qE:=di s.heap G
 have e2:((s.heap.push qE).push (sF C s.heap.objs.size)).get? (s.heap.objs.size+1)=I (sF C s.heap.objs.size):=by have:=di (s.heap.push qE) (o:=sF C s.heap.objs.size) G;rwa [iL]at this
 have e3:(s.heap.push qE).Ns s.heap.objs.size (λ_=>ak):=⟨qE,#[],_,e1,G,(λe he=>aU he (by simp)),λ_=>G⟩;refine(ab.laid (a:=s.heap.objs.size) (o:=.own (s.heap.objs.size+1)) (h':=s.heap.push qE) (t':=s.toks) (λb u q=>cu _ q) (aZ _) ⟨_,e1⟩).laid (t':=s.toks) (λb u q=>cu _ q) (A5 (iL _ _)) ?_;have ne:s.heap.objs.size≠s.heap.objs.size+1:=d_ (A6 _);exists by rw[aD ne,ay],b6 _,ne,e2,λ_=>ak,(Heap.Ns1.of_empty e3).at λo q=>cu _ q,λ_=>xR,λy hy=>aU G hy
def Xy{env:gj}(hb:A7 e f env (eval e env)=eval e env)
  (h:aJ (aL prog w) A (eval e env) (λo s₁=>aJ (aL prog w) A (Up o f aa) Q E s₁) E s):aJ (aL prog w) A (eval (.Attribute e f pos) env) Q E s:=
 Attribute_any_ h (by rw[arm_eval_Attribute,hb])
end
inductive Xz(K:aR)(f:aj)(x:V)(H:Hp)(Q:VK):Prop|mk(a C dx:af)(fs:M (aj×V))(v:V)(_:x= .ref a)(_:H a=I (.ins C dx fs))(_:fK K C)(_:cF K C f)(_:fs.lookup f=I v)(_:Q v H)
def vX(K:aR)(ta:TE)(f:aj):TE:=λσ H Q=>ta σ H λx H1=>Xz K f x H1 Q
def XA(K:aR)(ta tv:TE)(f:aj):TS:=λD σ H=>tv σ H λy H1=>ta σ H1 λx H2=>∃a C dx fs,x= .ref a/\H2 a=I (.ins C dx fs)/\fK K C/\cF K C f/\fs.length<1000/\
 D.nx σ (upd H2 a (.ins C dx (bU f y fs)))
variable{f:aj}
def fD(he:PE X e ta)(hb:A7 e f X.env (eval e X.env)=eval e X.env):PE X (.Attribute e f pos) (vX X.K ta f):=by intro pins s σ H Q ab h;refine Xy hb (a_ (he pins s σ H _ ab h) λu s1⟨x,H1,I1,rx,a,C,dx,fs,v,ex,ea,c,n,l,q⟩=> ?_);subst ex;obtain rfl:u=eW a:=rx;exact Xw I1 ea c n l λu' s2 I2 ru=>⟨v,H1,I2,ru,q⟩
variable{o value:bE}{tv:TE}
def cR(ha:PE X o ta)(hv:PE X value tv)(hs:xP value (I (.Attribute o f d4)) pos.line X.env=pure ao):PS X (.Assign [.Attribute o f d4] value pos) (XA X.K ta tv f):=by intro pins s σ H D ab h;refine plainObj_wpAny_Assign_Attribute (a_ (hv pins s σ H _ ab h) λu s1⟨y,H1,I1,ry,q⟩=>a_ (ha pins s1 σ H1 _ I1 q) λov s2⟨x,H2,I2,rx,a,C,dx,fs,ex,ea,c,n,l,q2⟩=> ?_) hs;subst ex;obtain rfl:ov=eW a:=rx;exact Xx I2 ea c n l ry λs3 I3=>⟨σ,_,I3,q2⟩
variable{m:aj}{c0:fG}
def al_{args:M bE}(he:PE X e te)(ab:Inv X pins σ H s)
  (h:te σ H λx H1=>∃a C dx fs g,x= .ref a/\H1 a=I (.ins C dx fs)/\fK X.K C/\Meth X.K C m g/\fs.lookup m=ak/\∀s1,Inv X pins σ H1 s1->aJ (aL X.prog X.w) X.A (u5 pos (.ref g) [.ref a] (fH pos (bS args X.env)) (sI pos (sJ [] X.env))) Q X.xe s1)
  (ht:eval (.Call (.Attribute e m c0) args [] pos) X.env=(do
   let ov<-eval e X.env
   uW c0.atName
   let(f,first)<-holding [ov] (uZ ov m pl)
   u5 pos f first (fH pos (bS args X.env)) (sI pos (sJ [] X.env)))):
  aJ (aL X.prog X.w) X.A (eval (.Call (.Attribute e m c0) args [] pos) X.env) Q X.xe s:=by
 refine Us (a_ (he pins s σ H _ ab h) λu s1⟨x,H1,I1,rx,a,C,dx,fs,g,ex,ea,c,k,l,q⟩=> ?_) ht;subst ex;obtain rfl:u=eW a:=rx;exact Cu I1 ea c k l (q s1 I1)
structure d8(k:Nat)(A:eZ):Prop where
 hd:A.handled=ak
 lI:A.depth+3*k+5<recursionLimit
 un:A.units+16*k+200<kj
theorem d8.mono(r:d8 k A)(h:j<=k):d8 j A:=⟨r.hd,by have:=r.lI;lia,by have:=r.un;lia⟩
theorem d8.deeper{k:Nat}{A:eZ}(r:d8 (k+1) A)(env:gj):d8 k (A.deeper env):=⟨r.hd,by have:=r.lI;show A.depth+1+3*k+5<_;lia,by have:=r.un;show A.units+3+16*k+200<_;lia⟩
def XC:(A.under (.builtin "type.__call__" ⟨.ref C::us,kw⟩)).depth=A.depth+1:=by first|rfl|simp[Ut,Code.weight,Code.isCreation,Code.isGuard,Code.isCaller,ajT,Uu,guardIds]
def XD:(A.under (.builtin "type.__call__" ⟨.ref C::us,kw⟩)).units=A.units+1:=by first|rfl|simp[Ut,Code.cUnits,ajT,Uu]
theorem d8.make(r:d8 (k+1) A)(C:af)(us:M aq)(kw:M (aj×aq)):d8 k (A.under (.builtin "type.__call__" ⟨.ref C::us,kw⟩)):=⟨r.hd,by have:=r.lI;rw[XC];lia,by have:=r.un;rw[XD];lia⟩
theorem d8.depth{k:Nat}{A:eZ}(r:d8 k A):A.depth<recursionLimit:=by have:=r.lI;lia
theorem d8.units{k:Nat}{A:eZ}(r:d8 k A):A.units+64<kj:=by have:=r.un;lia
def gH:TA:=λ_ H Q=>Q [] H
def gI(ta:TE)(No:TA):TA:=λσ H Q=>ta σ H λx H1=>No σ H1 λxs H2=>Q (x::xs) H2
def eT:PA X [] gH:=λ_ _ _ _ H Q ab h=>Calls.spliced_nil ⟨[],H,ab,.nil,h⟩
variable{t:TA}
def dw(ha:PE X e te)(hr:PA X es t)(hs:bS (e::es) X.env=(ao,eval e X.env)::bS es X.env:=by rfl):PA X (e::es) (gI te t):=by intro pos pins s σ H Q ab h;rw[hs];exact Calls.spliced_cons (a_ (ha pins s σ H _ ab h) λu s1⟨x,H1,I1,r1,q1⟩=>a_ (hr pos pins s1 σ H1 _ I1 q1) λus s2⟨xs,H2,I2,r2,q2⟩=>⟨x::xs,H2,I2,.cons r1 r2,q2⟩)
def XE(t:TA):TE:=λσ H Q=>t σ H λxs H1=>xs.length<=sizeLine/\∀p,H1 p=ak->Q (.ref p) (upd H1 p (.tup xs))
def Cv(t:TA):TE:=λσ H Q=>t σ H λxs H1=>xs.length<=sizeLine/\∀p,H1 p=ak->Q (.ref p) (upd H1 p (.lst xs))
def lJ{x1}(h:PA X es t):PE X (.Tuple es x1 pos) (XE t):=by intro pins s σ H Q ab hq;refine wpAny_Tuple_spliced (a_ (h pos pins s σ H _ ab hq) λus s1⟨xs,H1,I1,r,z,q⟩=>⟨by rw[<-r.length];exact z,?_⟩);have hf:=I1.aQ.fresh (aZ _);exists .ref s1.heap.objs.size,upd H1 s1.heap.objs.size (.tup xs),I1.laid (t':=s1.toks) (λb u e=>cu _ e) (aZ _) ?_,G,q _ hf;exists z,us,r,⟨_,di _ G,G,_,G⟩
def br(h:PA X es t):PE X (.List es pos) (Cv t):=by intro pins s σ H Q ab hq;refine wpAny_List_spliced (a_ (h pos pins s σ H _ ab hq) λus s1⟨xs,H1,I1,r,z,q⟩=>⟨by rw[<-r.length];exact z,?_⟩);have hf:=I1.aQ.fresh (aZ _);exists .ref s1.heap.objs.size,upd H1 s1.heap.objs.size (.lst xs),I1.laid (t':=s1.toks) (λb u e=>cu _ e) (aZ _) ?_,G,q _ hf;exists z,us,0,r,di _ G
abbrev Sp:=M V->Hp->VK->XK->Prop
abbrev rB:=M gj->Hp->aI->XK->aq->aI->Prop
structure rC(P:bY)(w:bR)(K:aR)(mg:aj->aG aq)(ai:bB)(A:eZ)(b8:M gj)(s:aI)(H:Hp):Prop where
 frames:A.frames=I b8
 mod:Mod K mg ai
 bs:∀b o,ai.get? b=I o->s.heap.get? b=I o/\H b=ak
 nD:ai.objs.size<=s.heap.objs.size
 kJ:s.heap.FunFrames ai b8
 pR:∀b∈mG b8,H b=ak
 aQ:dP P w H s.heap
 bare:uT s.gens
def CE(b8:M gj)(P:bY)(w:bR)(H:Hp)(s:aI)(Q:VK)(u:aq)(s':aI):Prop:=∃v U,s'.os=s.os/\uT s'.gens/\Un (mG b8) [] H U s.heap s'.heap/\dP P w U s'.heap/\RelV v u/\Q v U
def XF(CX:rB)(b8:M gj)(P:bY)(w:bR)(H:Hp)(s:aI)(Q:VK)(E:XK)(r:u0)(s':aI):Prop:=
 match r with
 | .ok (.ret u)=>CE b8 P w H s Q u s'
 | .ok _=>False
 | .error e=>CX b8 H s E e s'
structure aM(P:bY)(w:bR)(K:aR)(mg:aj->aG aq)(ai:bB)(CX:rB)(k:Nat)(f:af)(fd:gC)(ps:M aj)(sp:Sp):Prop where
 len:∀vs H Q E,sp vs H Q E->vs.length=ps.length
 run:∀(A:eZ)(b8:M gj)(s:aI)(H:Hp)(args:Args)(us:M aq)(vs:M V)(Q:VK)(E:XK),d8 k A->rC P w K mg ai A b8 s H->HZ s fd args (ps.zip us)->Vals vs us->sp vs H Q E->
  l0 (aL P w) A (.call (.ref f) args) (XF CX b8 P w H s Q E) s
variable{mg:aj->aG aq}{ai:bB}{b8:M gj}
def rC.make(e:rC P w K mg ai A b8 s H)(C:af)(us:M aq)(kw:M (aj×aq)):
  rC P w K mg ai (A.under (.builtin "type.__call__" ⟨.ref C::us,kw⟩)) b8 s H:=⟨by first|exact e.frames|(simpa[Ut,Code.envs,Uu,pushEnvs]using e.frames),e.mod,e.bs,e.nD,e.kJ,e.pR,e.aQ,e.bare⟩
def Inv.KJ(ab:Inv X pins σ H s):rC X.prog X.w X.K X.mg X.ai X.A X.stack s H:=⟨ab.ok.frames,ab.ok.mod,ab.bs,cX ab.ok.nD ab.sz,ab.stack,ab.JZ,ab.aQ,ab.bare⟩
variable{Q:VK}
def Inv.after(ab:Inv X pins σ H s)(h:CE X.stack X.prog X.w H s Q u s'):EP X pins σ Q u s':=by obtain⟨v,U,os,bare,un,aQ,r,q⟩:=h;obtain⟨hh,g,d,t,XG⟩:=s';obtain rfl:XG=s.os:=os;exists v,U,ab.call (h':=hh) (g':=g) (d':=d) (t':=t) un aQ bare (λb z=>aU z (by simp)),r,q
def Cw(sp:Sp)(cm:M V)(E:XK)(t:TA):TE:=λσ H Q=>t σ H λvs H1=>sp (vs++cm) H1 Q E
inductive XH(C:af)(m:aj)(x:V)(H:Hp)(P:Prop):Prop|mk(a dx:af)(fs:M (aj×V))(_:x= .ref a)(_:H a=I (.ins C dx fs))(_:fs.lookup m=ak)(_:P)
def yY(C:af)(m:aj)(sp:Sp)(cm:M V)(E:XK)(ta:TE)(t:TA):TE:=λσ H Q=>ta σ H λx H1=>XH C m x H1 (t σ H1 λvs H2=>sp (x::(vs++cm)) H2 Q E)
def vY(C:af)(sp:Sp)(cm:M V)(E:XK)(t:TA):TE:=λσ H Q=>t σ H λvs H1=>∀x dx,H1 x=ak->H1 dx=ak->dx≠x->
 sp (.ref x::(vs++cm)) (upd (upd H1 dx (.own x)) x (.ins C dx [])) (λv H2=>v= .bx/\Q (.ref x) H2) E
def Binds(K:aR)(fd:gC)(ps:M aj)(ds:M aq):Prop:=∀(s:aI)(us:M aq),K.In s.heap->(us++ds).length=ps.length->HZ s fd ⟨us,[]⟩ (ps.zip (us++ds))
variable{fd:gC}{ps:M aj}
def Binds.all(h:∀us:M aq,us.length=ps.length->Uv fd ⟨us,[]⟩=pure (ps.zip us)):Binds K fd ps []:=λs us _ hl=>by rw[jT]at hl⊢;exact .of_eq (h us hl)
def Passes(CX:rB)(X:Cx)(E:XK):Prop:=∀(pins:M (af×bA))(σ:St)(H:Hp)(s:aI)(e:aq)(s':aI),Inv X pins σ H s->CX X.stack H s E e s'->X.xe e s'
variable{CX:rB}{f:af}{sp:Sp}{cm vs:M V}{ds:M aq}{E:XK}
def yZ(F:aM X.prog X.w X.K X.mg X.ai CX k f fd ps sp)(hr:d8 k X.A)(hb:Binds X.K fd ps ds)(hd:Vals cm ds)(hx:Passes CX X E)
  (ab:Inv X pins σ H s)(r:Vals vs us)(h:sp (vs++cm) H Q E):aJ (aL X.prog X.w) X.A (call (.ref f) us) (EP X pins σ Q) X.xe s:=by
 have r2:=r.append hd;have hl:(us++ds).length=ps.length:=by rw[<-r2.length];exact F.len _ _ _ _ h
 refine H_ (u6 (F.run X.A X.stack s H ⟨us,[]⟩ (us++ds) (vs++cm) Q E hr ab.KJ (hb s us ab.iO hl) r2 h) λr s' hq=> ?_);cases r with
 |error e=>exact hx pins σ H s e s' ab hq
 |ok km=>
  cases km with
  |ret u=>exact ab.after hq
  |next=>exact ju hq
  |brk=>exact ju hq
  |cont=>exact ju hq
variable{x:aj}{p:fG}
def XI(F:aM X.prog X.w X.K X.mg X.ai CX k f fd ps sp)(hr:d8 k X.A)(hg:Gl X x)(hm:X.mg x=I (.ref f))(hk:kZ X.K (.ref f)=aa)(hb:Binds X.K fd ps ds)(hd:Vals cm ds)(hx:Passes CX X E)
  (ha:PA X (e::es) t)(d5:(x==("__debug__":aj))=ao:=by decide)(he:bS (e::es) X.env=(ao,eval e X.env)::bS es X.env:=by rfl)(ag:(fH pos (bS es X.env)).any (·.1)=ao:=by rfl):
  PE X (.Call (.Name x p) (e::es) [] pos) (Cw sp cm E t):=by
 intro pins s σ H Q ab h;refine xS (yQ ab hg hm ?_ d5);exact Ia (h₀:=X.ai) ab.ok.mod.tN hk (a_ (ha pos pins s σ H _ ab h) λus s1⟨vs,H1,I1,r,q⟩=>⟨I1.iO,yZ F hr hb hd hx I1 r q⟩) he ag
def XJ(he:PE X o ta)(c:fK X.K C)(hm:Meth X.K C m f)(F:aM X.prog X.w X.K X.mg X.ai CX k f fd ps sp)(hr:d8 k X.A)(hb:Binds X.K fd ps ds)(hd:Vals cm ds)(hx:Passes CX X E)(ha:PA X (e::es) t)
  (bi:bS (e::es) X.env=(ao,eval e X.env)::bS es X.env:=by rfl)(ag:(fH pos (bS es X.env)).any (·.1)=ao:=by rfl)
  (ht:eval (.Call (.Attribute o m c0) (e::es) [] pos) X.env=(do
   let ov<-eval o X.env
   uW c0.atName
   let(f,first)<-holding [ov] (uZ ov m pl)
   u5 pos f first (fH pos (bS (e::es) X.env)) (sI pos (sJ [] X.env))):=by rfl):
  PE X (.Call (.Attribute o m c0) (e::es) [] pos) (yY C m sp cm E ta t):=by
 intro pins s σ H Q ab h;refine Us (a_ (he pins s σ H _ ab h) λu s1⟨x,H1,I1,rx,a,dx,fs,ex,ea,l,q⟩=> ?_) ht;subst ex;obtain rfl:u=eW a:=rx;refine Cu I1 ea c hm l ?_;exact Ia (first:=[.ref a]) (h₀:=X.ai) ab.ok.mod.tN hm.kp (a_ (ha pos pins s1 σ H1 _ I1 q) λus s2⟨vs,H2,I2,r,q2⟩=>⟨I2.iO,yZ (us:=.ref a::us) (vs:=.ref a::vs) F hr hb hd hx I2 (.cons G r) q2⟩) bi ag
def XM(he:PE X o ta)(c:fK X.K C)(hm:Meth X.K C m f)(F:aM X.prog X.w X.K X.mg X.ai CX k f fd ps sp)(hr:d8 k X.A)(hb:Binds X.K fd ps ds)(hd:Vals cm ds)(hx:Passes CX X E)
  (ht:eval (.Call (.Attribute o m c0) [] [] pos) X.env=(do
   let ov<-eval o X.env
   uW c0.atName
   let(f,first)<-holding [ov] (uZ ov m pl)
   u5 pos f first (fH pos (bS [] X.env)) (sI pos (sJ [] X.env))):=by rfl):
  PE X (.Call (.Attribute o m c0) [] [] pos) (yY C m sp cm E ta gH):=by
 intro pins s σ H Q ab h;refine Us (a_ (he pins s σ H _ ab h) λu s1⟨x,H1,I1,rx,a,dx,fs,ex,ea,l,q⟩=> ?_) ht;subst ex;obtain rfl:u=eW a:=rx;exact Cu I1 ea c hm l (ajU (first:=[.ref a]) I1.iO hm.kp (yZ (us:=[.ref a]) (vs:=[.ref a]) F hr hb hd hx I1 (.cons G .nil) q))
structure Mk(K:aR)(C f:af):Prop where
 makes:HL K C=aa
 init:m7 K (.ref C) "__init__"=I (I (.ref f))
 fn:HM K (.ref f)=aa
 kp:kZ K (.ref C)=aa
def KL(a5:Mk X.K C f)(F:aM X.prog X.w X.K X.mg X.ai CX k f fd ps sp)(hr:d8 (k+1) X.A)(hb:Binds X.K fd ps ds)(hd:Vals cm ds)
  (hx:Passes CX X E)(ab:Inv X pins σ H s)(r:Vals vs us)
  (h:∀x dx,H x=ak->H dx=ak->dx≠x->sp (.ref x::(vs++cm)) (upd (upd H dx (.own x)) x (.ins C dx [])) (λv H2=>v= .bx/\Q (.ref x) H2) E):
  aJ (aL X.prog X.w) X.A (call (.ref C) us) (EP X pins σ Q) X.xe s:=by
 have hq:=h (s.heap.objs.size+1) s.heap.objs.size (ab.aQ.fresh (u7 _)) (ab.aQ.fresh (aZ _)) (d_ (A6 _));have I2:=Inv.made (C:=C) ab;have r2:Vals (V.ref (s.heap.objs.size+1)::(vs++cm)) (eW (s.heap.objs.size+1)::(us++ds)):=.cons G (r.append hd)
 have hl:(eW (s.heap.objs.size+1)::us++ds).length=ps.length:=by have e:=r2.length;rw[F.len _ _ _ _ hq]at e;exact e.symm
 refine H_ (Xs ab.iO a5.makes a5.init (iZ.mp a5.fn) (u6 (F.run _ X.stack _ _ ⟨eW (s.heap.objs.size+1)::us,[]⟩ (eW (s.heap.objs.size+1)::(us++ds)) _ _ E (hr.make C us []) (I2.KJ.make C us []) (hb _ (eW (s.heap.objs.size+1)::us) I2.iO hl) r2 hq) λr s' dC=> ?_));cases r with
 |error e=>exact hx pins σ _ _ e s' I2 dC
 |ok km=>
  cases km with
  |ret u=>obtain⟨v,U,I3,rv,im,q3⟩:=I2.after dC;subst im;exists rv,⟨V.ref (s.heap.objs.size+1),U,I3,G,q3⟩
  |next=>exact ju dC
  |brk=>exact ju dC
  |cont=>exact ju dC
def XN(a5:Mk X.K C f)(F:aM X.prog X.w X.K X.mg X.ai CX k f fd ps sp)(hr:d8 (k+1) X.A)(hg:Gl X x)(hm:X.mg x=I (.ref C))(hb:Binds X.K fd ps ds)(hd:Vals cm ds)(hx:Passes CX X E)
  (ha:PA X (e::es) t)(d5:(x==("__debug__":aj))=ao:=by decide)(he:bS (e::es) X.env=(ao,eval e X.env)::bS es X.env:=by rfl)(ag:(fH pos (bS es X.env)).any (·.1)=ao:=by rfl):
  PE X (.Call (.Name x p) (e::es) [] pos) (vY C sp cm E t):=by
 intro pins s σ H Q ab h;refine xS (yQ ab hg hm ?_ d5);exact Ia (h₀:=X.ai) ab.ok.mod.tN a5.kp (a_ (ha pos pins s σ H _ ab h) λus s1⟨vs,H1,I1,r,q⟩=>⟨I1.iO,KL a5 F hr hb hd hx I1 r q⟩) he ag
def XO(a5:Mk X.K C f)(F:aM X.prog X.w X.K X.mg X.ai CX k f fd ps sp)(hr:d8 (k+1) X.A)(hg:Gl X x)(hm:X.mg x=I (.ref C))(hb:Binds X.K fd ps ds)(hd:Vals cm ds)(hx:Passes CX X E)
  (d5:(x==("__debug__":aj))=ao:=by decide):PE X (.Call (.Name x p) [] [] pos) (vY C sp cm E gH):=by
 intro pins s σ H Q ab h;exact xS (yQ ab hg hm (ajU ab.iO a5.kp (KL (us:=[]) a5 F hr hb hd hx ab .nil h)) d5)
structure gq(N P:M aj)(sc:jP):Prop where
 kind:sc.kind= .function
 co:sc.isCoroutine=ao
 gen:sc.isGenerator=ao
 nd:N.Nodup
 pre:N.take P.length=P
 par:∀x∈P,sc.names.lookup x=I .local\/sc.names.lookup x=I .cell
 XQ:∀y∈sc.names,y.2≠ .free
theorem KN{kindOf:aj->aG iX}{x:aj}:∀{binds:M (aj×aq)}{m:aj->aG aq},(∀v,(x,v)∉binds)->u9 kindOf binds m x=m x
 |[],_,_=>rfl|(n,v)::r,m,h=>by
  unfold u9;rw[KN λw hw=>h w (bZ _ hw)];split
  .have:x≠n:=by rintro rfl;exact h v bW
   simp[this]
  rfl
theorem KO{kindOf:aj->aG iX}{x:aj}:∀{binds:M (aj×aq)}{m:aj->aG aq},(∀v,(x,v)∉binds)->u_ kindOf binds m x=m x
 |[],_,_=>rfl|(n,v)::r,m,h=>by
  unfold u_;rw[KO λw hw=>h w (bZ _ hw)];split
  .rfl
  have:x≠n:=by rintro rfl;exact h v bW
  simp[this]
theorem KP{kindOf:aj->aG iX}{x:aj}{v:aq}:∀{P:M aj}{vs:M aq}{i:Nat}{m:aj->aG aq},P.Nodup->P[i]? =I x->vs[i]? =I v->kindOf x=I .local->
  u9 kindOf (P.zip vs) m x=I v
 |[],_,_,_,_,h,_,_=>by simp at h
 |_::_,[],_,_,_,_,h,_=>by simp at h
 |p::P,w::vs,0,m,nd,h1,h2,hk=>by simp at h1 h2;subst h1;subst h2;show u9 kindOf ((p,w)::P.zip vs) m p=_;unfold u9;rw[KN λv hv=>(k8.mp nd).1 (xT hv).1,av hk];simp
 |p::P,w::vs,i+1,m,nd,h1,h2,hk=>by unfold u9;exact KP (k8.mp nd).2 h1 h2 hk
theorem KQ{kindOf:aj->aG iX}{x:aj}{v:aq}:∀{P:M aj}{vs:M aq}{i:Nat}{m:aj->aG aq},P.Nodup->P[i]? =I x->vs[i]? =I v->kindOf x≠I .local->
  u_ kindOf (P.zip vs) m x=I v
 |[],_,_,_,_,h,_,_=>by simp at h
 |_::_,[],_,_,_,_,h,_=>by simp at h
 |p::P,w::vs,0,m,nd,h1,h2,hk=>by simp at h1 h2;subst h1;subst h2;show u_ kindOf ((p,w)::P.zip vs) m p=_;unfold u_;rw[KO λv hv=>(k8.mp nd).1 (xT hv).1,au hk];simp
 |p::P,w::vs,i+1,m,nd,h1,h2,hk=>by unfold u_;exact KQ (k8.mp nd).2 h1 h2 hk
def start(N:M aj)(vs:M V):St:=vs.map I++dF (N.length-vs.length) ak
noncomputable def rD(CX:rB)(P:bY)(w:bR)(K:aR)(mg:aj->aG aq)(ai:bB)(N:M aj)(a8:aj)(scope:jP)(f:af)(fg:aq)(A:eZ)(b8:M gj)(s:aI)(H:Hp)(E:XK):Cx where
 prog:=P
 w:=w
 K:=K
 mg:=mg
 ai:=ai
 A:=A.deeper (o_ a8 scope s.heap.objs.size f fg)
 N:=N
 gp:=s
 pQ:=H
 env:=o_ a8 scope s.heap.objs.size f fg
 b8:=b8
 stack:=o_ a8 scope s.heap.objs.size f fg::b8
 ex:=[]
 calm:=aa
 fn:=λ_=>aa
 pn:=[]
 xe:=λe s'=>aJ (aL P w) (A.deeper (o_ a8 scope s.heap.objs.size f fg)) (leaving (o_ a8 scope s.heap.objs.size f fg) e) (λ_ On=>CX b8 H s E e On) (λe' On=>CX b8 H s E e' On) s'
def KR{sc:jP}(h:sc.names.lookup x=I .cell):∃c,(gS n sc.names []).lookup x=I c:=by exact ajV.mp (ajW sc.names n [] (.inl h))
variable{a8:aj}{scope:jP}
theorem XR{fg:aq}{s1:aI}(S:gq N ps scope)(hd:A.handled=ak)(e0:rC P w K mg ai A b8 s H)(hl:vs.length=ps.length)(r:Vals vs us)
  (x:InCallC s s.heap.objs.size (u9 (o_ a8 scope s.heap.objs.size f fg).kindOf (ps.zip us) λ_=>ak) (gS (s.heap.objs.size+1) scope.names []) (u_ (o_ a8 scope s.heap.objs.size f fg).kindOf (ps.zip us) λ_=>ak) s1):
  Inv (rD CX P w K mg ai N a8 scope f fg A b8 s H E) [] (start N vs) H s1:=by
 have ag:ps.length<=N.length:=by have:=cC qG S.pre;rw[gT]at this;lia
 obtain⟨h1,tk,rfl,hk⟩:=x.done;have rd:∀b:af,b∉(rD CX P w K mg ai N a8 scope f fg A b8 s H E).ex:=λb z=>aU (show b∈([]:M af) from z) (by simp)
 exists⟨e0.mod,S.kind,G,G,aZ _,λy z c h1 h2=> ?_,λy hy=> ?_,λy c _ h=> ?_,λ_=>hd,Around.frames_deeper e0.frames,.inr ⟨G,G⟩,λb z=>aU z (rd b),e0.bs,e0.nD,λb _ _=>rd b,λb z=>aU z (rd b),e0.kJ,e0.pR⟩,
  rfl,e0.bare,Un.kept hk,⟨_,x.toInCall.ns,λi y v h1 h2 h3=> ?_⟩,λy c h=>⟨_,x.cell y c h⟩,e0.aQ.fresh (aZ _),λy c h=> ?_,λp hp=>aU (show p∈([]:M (af×bA)) from hp) (by simp),e0.aQ.kept hk
 .exact name_of_addr x.apart (ko h1) (ko h2)
 .have hy:=hy;obtain hy|hy:=hy
  .exact KR hy
  exact aU G (S.XQ _ (ko hy))
 .exact uU (x.above y c (ko h))
 .have hi:i<vs.length:=by
   unfold start at h2;by_cases hi:i<vs.length
   .exact hi
   rw[vc (by simpa using hi)]at h2;rw[List.getElem?_replicate]at h2;split at h2<;>cases h2
  have ha:vs[i]? =I v:=by
   unfold start at h2;rw[xU (by simpa using hi),bF]at h2;cases e:vs[i]? with
   |none=>rw[e]at h2;cases h2
   |some a=>rw[e]at h2;cases h2;rfl
  obtain⟨u,hu,rv⟩:=r.get ha
  have hp:ps[i]? =I y:=by rw[<-S.pre,List.getElem?_take_of_lt (by lia)];exact h1
  have KS:ps.Nodup:=by rw[<-S.pre];exact S.nd.sublist (ajX _ _)
  exists u,rv;obtain k|k:=S.par y (bN hp)
  .exact .inl ⟨k,KP KS hp hu k⟩
  obtain⟨c,e⟩:=KR (n:=s.heap.objs.size+1) k;refine .inr ⟨.inl k,c,e,?_⟩;have q:=x.cell y c e;rw[KQ KS hp hu (by show scope.names.lookup y≠_;rw[k];decide)]at q;exact q
 .exact e0.aQ.fresh (uU (x.above y c (ko h)))
 unfold start;show _=N.length;rw[bD,aE,vd];lia
def XS{params:T_}{Op kV dn pm a6 ct oc:aq}{an od:aG af}
  {rh:Array (aG aq)}(lk:K.lookup f=I ⟨oc,od,.func (A8 name a8 params body scope Op kV dn pm an a6 ct),rh⟩)(fe:Ua K a6 a8=aa)(S:gq N ps scope)
  (len:∀vs H Q E,sp vs H Q E->vs.length=ps.length)
  (u4:∀(A:eZ)(b8:M gj)(s:aI)(H:Hp)(vs:M V)(Q:VK)(E:XK),d8 k (A.deeper (o_ a8 scope s.heap.objs.size f a6))->sp vs H Q E->∃t,jB (rD CX P w K mg ai N a8 scope f a6 A b8 s H E) body t/\t {nx:=λ_ U=>Q .bx U,rt:=Q} (start N vs) H):
  aM P w K mg ai CX (k+1) f (A8 name a8 params body scope Op kV dn pm an a6 ct) ps sp:=by
 refine⟨len,λA b8 s H args us vs Q E hr e0 hb r md=> ?_⟩;have KX:=e0.mod.tN.keeps λb o e=>(e0.bs b o e).1;have XT:=e0.mod.nolimit.keeps λb o e=>(e0.bs b o e).1
 have nz:∀y∈ps.zip us,scope.names.lookup y.1=I .local\/(scope.names.lookup y.1=I .cell/\((gS (s.heap.objs.size+1) scope.names []).lookup y.1).isSome=aa):=λ⟨n,v⟩hy=>by
  obtain q|q:=S.par n (xT hy).1
  .exact .inl q
  exact .inr ⟨q,ajW _ _ _ (.inl q)⟩
 refine codeAny_call_function hr.depth (KX _ _ lk) G S.co S.gen G (PySem.W.codeRec_of KX fe) (hb _ _ _ _ ?_);refine wpAny_newFunctionEnv_cells S.kind nz λenv he s1 x=> ?_;subst he;exists XT.keeps x.toInCall.keep,codeAny_func ?_;obtain⟨t,ht,hq⟩:=u4 A b8 s H vs Q E (hr.deeper _) md;have ab:Inv (rD CX P w K mg ai N a8 scope f a6 A b8 s H E) [] (start N vs) H s1:=XR S hr.hd e0 (len _ _ _ _ md) r x;refine k7 (ht [] s1 (start N vs) H _ ab hq) (λkm s' hs=> ?_) λe s' hs=>hs
 have fin:∀{σ':St}{U:Hp}{v:V}{u:aq},Inv (rD CX P w K mg ai N a8 scope f a6 A b8 s H E) [] σ' U s'->RelV v u->Q v U->CE b8 P w H s Q u s':=
  λ{σ' U v u}J rv q=>⟨v,U,J.os,J.bare,J.ai,J.aQ,rv,q⟩
 cases km with
 |ret u=>obtain⟨v,σ',U,J,rv,q⟩:=hs;exact fin J rv q
 |next=>obtain⟨σ',U,J,q⟩:=hs;exact fin (v:=V.bx) J G q
 |brk=>obtain⟨_,_,_,q⟩:=hs;exact ju q
 |cont=>obtain⟨_,_,_,q⟩:=hs;exact ju q
variable{r:M V->Hp->VK->Prop}
def nG(r:M V->Hp->VK->Prop)(t:TA):TE:=λσ H Q=>t σ H λvs H1=>r vs H1 Q
variable{id:String}
def bJ(hc:gZ X (.builtin id) r)(hg:Gl X x)(hm:X.mg x=ak)(hv:jt x=I (.builtin id))(ha:PA X (e::es) t)(hn:x≠"__name__":=by decide)(d5:(x==("__debug__":aj))=ao:=by decide)
  (he:bS (e::es) X.env=(ao,eval e X.env)::bS es X.env:=by rfl)(ag:(fH pos (bS es X.env)).any (·.1)=ao:=by rfl):PE X (.Call (.Name x p) (e::es) [] pos) (nG r t):=by
 intro pins s σ H Q ab h;exact xS (rj ab hg hm hv (am0 (a_ (ha pos pins s σ H _ ab h) λus s1⟨vs,H1,I1,r1,q1⟩=>hc pins s1 σ H1 vs us Q I1 r1 q1) he ag) hn d5)
variable{T:String}
def tV(hc:gZ X (.type T) r)(hg:Gl X x)(hm:X.mg x=ak)(hv:jt x=I (.type T))(ha:PA X (e::es) t)(hn:x≠"__name__":=by decide)(d5:(x==("__debug__":aj))=ao:=by decide)
  (he:bS (e::es) X.env=(ao,eval e X.env)::bS es X.env:=by rfl)(ag:(fH pos (bS es X.env)).any (·.1)=ao:=by rfl):PE X (.Call (.Name x p) (e::es) [] pos) (nG r t):=by
 intro pins s σ H Q ab h;exact xS (rj ab hg hm hv (A9 (a_ (ha pos pins s σ H _ ab h) λus s1⟨vs,H1,I1,r1,q1⟩=>hc pins s1 σ H1 vs us Q I1 r1 q1) he ag) hn d5)
end L2
namespace HT
open PySem PyProof.Rows
def lexLt:M Int->M Int->Bool|[],[]=>ao|[],_::_=>aa|_::_,[]=>ao|x::xs,y::ys=>if x=y then lexLt xs ys else decide (x<y)
def Cy(x y:Int)(xs ys:M Int):lexLt (x::xs) (y::ys)=if x=y then lexLt xs ys else decide (x<y):=rfl
def KU:lexLt [] []=ao:=rfl
def XU(y:Int)(ys:M Int):lexLt [] (y::ys)=aa:=rfl
def XW(x:Int)(xs:M Int):lexLt (x::xs) []=ao:=rfl
def KW(A:eZ)(s:aI)(a:Int)(t:Tok)(c:Int)(u:Tok):∃e,A_ A s (.int a t) (.int c u) e/\(e=aa↔a=c):=⟨(a==c),ajY a t c u,by simp⟩
def XX(A:eZ)(s:aI)(a:Int)(t:Tok)(c:Int)(u:Tok)(prog:bY)(w:bR)(E:aq->aI->Prop)(Q:aq->aI->Prop)(h:Q (.bool (decide (a<c))) s):
  aJ (aL prog w) A (Uw .Lt (.int a t) (.int c u)) Q E s:=
 (ajP h:aJ (aL prog w) A (e7 .Lt (.int a t) (.int c u)) Q E s)
section
open PySem.SeqAt
open PySem.AutoSeq1 (wpAny_loadPart')
open PySem.MeetsSeq PySem.MeetsSeq2 PySem.MeetsSeq3
theorem XY(l b:af)(items io:Array aq)(n n2:Nat)(dd va:aG af)(sl vi:Array (aG aq))(ns ms:M Int)(hi:IntsAre items.toList ns)(hj:IntsAre io.toList ms):
  Ba (Builtin.«tuple.__lt__» ⟨[.ref l,.ref b],[]⟩)
   (λ_ R s=>s.heap.get? l=I {cls:=.type "tuple",dict:=dd,data:=.seq items n,slots:=sl}/\s.heap.get? b=I {cls:=.type "tuple",dict:=va,data:=.seq io n2,slots:=vi}/\R (.ok (.ret (.bool (lexLt ns ms)))) s):=
 .of_wp λprog w A R s h=>by
  obtain⟨hp,g,d,tk,os⟩:=s;obtain⟨hl,hb,h⟩:=h;have f2:=ajZ;have z1:items.size=ns.length:=by rw[<-hi.length];simp
  have z2:io.size=ms.length:=by rw[<-hj.length];simp
  wp_walk using wpAny_loadPart' hl,wpAny_loadPart' hb,aj0 _ (λrest b s'=>b.1=ak/\s'=⟨hp,g,d,tk,os⟩/\∃(vs ws:M aq)(a2 rk:M Int),rest=vs.zip ws/\IntsAre vs a2/\IntsAre ws rk/\a2.length+io.size=rk.length+items.size/\R (.ok (.ret (.bool (lexLt a2 rk)))) ⟨hp,g,d,tk,os⟩) _
  case turn=>
   rintro⟨y,x⟩rest b s'⟨oa,rfl,vs,ws,a2,rk,hz,oe,fi,hlen,hR⟩;cases oe with
   |nil=>rw[aj1]at hz;cases hz
   |cons a t Os=>
    cases fi with
    |nil=>rw[aj2]at hz;cases hz
    |cons c u Oy=>
     rw[xV]at hz;injection hz with OK Dx;injection OK with hy hx;subst hy hx;rw[Cy]at hR;simp only[bT]at hlen;obtain⟨e,he,vr⟩:=KW A.in1 ⟨hp,g,d,tk,os⟩ a t c u;refine aA (he prog w _ _ ?_);cases e with
     |true=>
      rw[av (vr.mp G)]at hR
      wp_walk
      exists G,G,_,_,_,_,Dx,Os,Oy,by lia,hR
     |false=>
      rw[au (λq=>aU (vr.mpr q) dJ)]at hR
      wp_walk using(XX A.in1 ⟨hp,g,d,tk,os⟩ a t c u prog w)
      exact⟨_,G,by simpa using hR⟩
  case fin=>
   rintro⟨b1,cc⟩s'⟨oa,rfl,vs,ws,a2,rk,hz,oe,fi,hlen,hR⟩;simp only at oa;subst oa
   have hv:lexLt a2 rk=decide (items.size<io.size):=by
    cases oe with
    |nil=>
     cases fi with
     |nil=>simp only[ng]at hlen;rw[KU];exact(aV (by lia)).symm
     |cons c u hw=>simp only[ng,bT]at hlen;rw[XU];exact(aP (by lia)).symm
    |cons a t hv=>
     cases fi with
     |nil=>simp only[ng,bT]at hlen;rw[XW];exact(aV (by lia)).symm
     |cons c u hw=>rw[xV]at hz;cases hz
   rw[hv]at hR
   wp_walk
   exact⟨_,G,by simpa[aj3]using hR⟩
  case h=>
   exists G,G,items.toList,io.toList,ns,ms,G,hi,hj,by lia,h
end
variable{prog:bY}{w:bR}{A:eZ}{E:aq->aI->Prop}{s:aI}
def XZ{l b:af}{items io:Array aq}{ns ms:M Int}{Q:aq->aI->Prop}(hl:sE s.heap l items)(hb:sE s.heap b io)(hi:IntsAre items.toList ns)(hj:IntsAre io.toList ms)
  (hu:A.units<kj)(h:Q (.bool (lexLt ns ms)) s):aJ (aL prog w) A (e7 .Lt (.ref l) (.ref b)) Q E s:=by
 obtain⟨⟨cls,dd,data,sl⟩,ho,hc,n,hd⟩:=id hl;obtain⟨⟨X0,va,data2,vi⟩,og,vw,n2,hE⟩:=id hb;simp only at hc hd vw hE;subst hc hd vw hE
 exact aj4 (op:=.Lt) ⟨_,ho,G⟩ ⟨_,og,G⟩ PySem.F.slot_tuple_lt PySem.F.entry_tuple_lt (PySem.F.args_tuple_lt_2 _ _) (XY l b items io n n2 dd va sl vi ns ms hi hj)
  ⟨ho,og,show uS (lexLt ns ms)≠Ux/\Q (.bool (lexLt ns ms)) s from⟨(λx=>nomatch x),h⟩⟩ hu
def iE(n d:Nat):aG Int->Nat|none=>d|some v=>if v<0 then(v+(n:Int)).toNat else min v.toNat n
def KY(n d:Nat):iE n d ak=d:=rfl
theorem p6(n d k:Nat):iE n d (I (k:Int))=min k n:=by show(if(k:Int)<0 then((k:Int)+(n:Int)).toNat else min (k:Int).toNat n)=min k n;rw[au (by lia),k_]
end HT
namespace L2
open PySem PySem.Spec PyProof.Rows
abbrev TO:=St->Hp->(aG Int->Hp->Prop)->Prop
def PO(X:Cx)(e:aG bE)(t:TO):Prop:=
 ∀(pins:M (af×bA))(s:aI)(σ:St)(H:Hp)(Q:aG Int->Hp->Prop),Inv X pins σ H s->t σ H Q->
  aJ (aL X.prog X.w) X.A (evalPart e X.env) (λu s'=>∃o U,Inv X pins σ U s'/\IsPart u o/\Q o U) X.xe s
def X3:TO:=λ_ H Q=>Q ak H
def X4(t:TE):TO:=λσ H Q=>t σ H λx H1=>∃i,x= .int i/\Q (I i) H1
variable{ns:M Int}
def intsAre_of:∀{us:M aq},Vals (ns.map V.int) us->IntsAre us ns:=by
 induction ns with
 |nil=>intro us r;rw[xW]at r;cases r;exact .nil
 |cons n ns ih=>
  intro us r;rw[b9]at r;cases r with
  |cons r1 r2=>obtain⟨t,e⟩:=r1;subst e;exact .cons n t (ih r2)
variable{X:Cx}
def Cz:PO X ak X3:=by intro pins s σ H Q ab h;rw[evalPart_none];exact aN ⟨ak,H,ab,.none,h⟩
variable{e:bE}{te:TE}
def g4(h:PE X e te):PO X (I e) (X4 te):=by intro pins s σ H Q ab hw;rw[evalPart_some];refine a_ (h pins s σ H _ ab hw) λu s1⟨x,H1,I1,r1,q1⟩=> ?_;obtain⟨i,rfl,q⟩:=q1;obtain⟨t,rfl⟩:=r1;exists I i,H1,I1,.int i t,q
variable{lo hi:aG bE}
def CB(X:Cx)(r:V->aG Int->aG Int->Hp->VK->Prop):Prop:=
 ∀(pins:M (af×bA))(s:aI)(σ:St)(H:Hp)(x:V)(v vl vu:aq)(lo hi:aG Int)(sl:af)(Q:VK),Inv X pins σ H s->RelV x v->s.heap.IsSliceOf sl vl vu .none->IsPart vl lo->IsPart vu hi->r x lo hi H Q->
  ∃T id,typeLookup (.type T) "__getitem__"=pure (I (.builtin id))/\s.TypeIs v T/\aJ (aL X.prog X.w) X.A (xX v (.ref sl)) (EP X pins σ Q) X.xe s
variable{tl DD:TO}
def X5(r:V->aG Int->aG Int->Hp->VK->Prop)(te:TE)(tl DD:TO):TE:=λσ H Q=>te σ H λx H1=>tl σ H1 λl H2=>DD σ H2 λu H3=>r x l u H3 Q
variable{pos p2:fG}
def mK{r:V->aG Int->aG Int->Hp->VK->Prop}(hr:CB X r)(he:PE X e te)(hl:PO X lo tl)(hu:PO X hi DD):PE X (.Subscript e (.Slice lo hi ak p2) pos) (X5 r te tl DD):=by intro pins s σ H Q ab h;refine Uy (a_ (he pins s σ H _ ab h) λv s1⟨x,H1,I1,r1,q1⟩=> ?_);refine wpAny_Slice (a_ (hl pins s1 σ H1 _ I1 q1) λvl s2⟨l,H2,I2,pl,q2⟩=>a_ (hu pins s2 σ H2 _ I2 q2) λvu s3⟨u,H3,I3,Pi,q3⟩=> ?_);rw[evalPart_none];refine aN ?_;have I4:Inv X pins σ H3 {s3 with heap:=s3.heap.push {cls:=.type "slice",data:=.fields #[vl,vu,.none]}}:=I3.kept (t':=s3.toks) λb ob q=>cu _ q;obtain⟨T,id,hT,ht,hg⟩:=hr pins {s3 with heap:=s3.heap.push {cls:=.type "slice",data:=.fields #[vl,vu,.none]}} σ H3 x v vl vu l u s3.heap.objs.size Q I4 r1 (am1 ..) pl Pi q3;exact tail_any ht hT hg (by with_unfolding_all rfl)
def e_(xs:M V)(lo hi:aG Int):M V:=(xs.drop (HT.iE xs.length 0 lo)).take (HT.iE xs.length xs.length hi-HT.iE xs.length 0 lo)
theorem KZ(xs:M V)(lo hi:aG Int):(e_ xs lo hi).length<=xs.length:=by unfold e_;rw[gT,ir];lia
inductive X6(K:aR)(x:V)(y:V)(H:Hp)(Q:VK):Prop|mk(a:_)(b:_)(ns:_)(ms:_)(_:x= .ref a)(_:y= .ref b)(_:bz K H a (ns.map V.int))(_:bz K H b (ms.map V.int))(_:Q (.bl (HT.lexLt ns ms)) H)
def X7(hu:X.A.units<kj):dX X (e7 .Lt) (X6 X.K):=by intro pins s σ H x y v u Q ab rx ry h;obtain⟨a,b,ns,ms,rfl,rfl,ha,hb,q⟩:=h;cases rx;cases ry;obtain⟨ad,r1,p1,_⟩:=ab.tuple ha;obtain⟨cs,r2,p2,_⟩:=ab.tuple hb;have i1:=intsAre_of r1;have i2:=intsAre_of r2;exact HT.XZ p1 p2 i1 i2 hu ⟨.bl (HT.lexLt ns ms),H,ab,G,q⟩
def p7(n:Nat)(i:Int):aG Nat:=if 0<=i then(if i<n then I i.toNat else ak)else if-(n:Int)<=i then I (i+n).toNat else ak
variable{α:Type}
def jF(xs:M α)(i:Int):aG α:=(p7 xs.length i).bind λj=>xs[j]?
variable{n j:Nat}
theorem X8{i:Int}(h:p7 n i=I j):seqIndex? i n=I j/\j<n/\ -(n:Int)<=i/\i<n:=by
 unfold p7 at h;by_cases h0:0<=i
 .rw[av h0]at h;by_cases h1:i<n
  .rw[av h1]at h;have e:=cG h;exists by rw[seqIndex_of h0 h1,e],by lia,by lia,h1
  rw[au h1]at h;cases h
 rw[au h0]at h;by_cases h1: -n<=i
 .rw[av h1]at h;have e:=cG h;exact⟨by rw[seqIndex_neg (by lia) h1,e],by lia,h1,by lia⟩
 rw[au h1]at h;cases h
def CC{xs:M α}{i:Int}{v:α}(h:jF xs i=I v):∃j,seqIndex? i xs.length=I j/\xs[j]? =I v/\j<xs.length/\ -(xs.length:Int)<=i/\i<xs.length:=by
 unfold jF at h;cases e:p7 xs.length i with
 |none=>rw[e]at h;cases h
 |some j=>rw[e]at h;obtain⟨h1,h2,h3,h4⟩:=X8 e;exists j,h1,h,h2,h3,h4
theorem aW{xs:M α}{v:α}(h:xs[j]? =I v):jF xs (j:Int)=I v:=by
 have hj:=(eL.mp h).1
 have e:p7 xs.length j=I j:=by unfold p7;rw[av (by lia),av (by lia)];simp
 unfold jF;rw[e];exact h
theorem K0(xs:M α)(v:α):jF (xs++[v]) (-1)=I v:=by
 have hl:(xs++[v]).length=xs.length+1:=by simp
 have e:p7 (xs++[v]).length (-1)=I xs.length:=by unfold p7;rw[hl,au (by decide),av (by lia)];congr 1;lia
 unfold jF;rw[e];simp
def y9(b:bE):Prop:=∀o i,Ib b ao o i=Uz [o,i] (xX o i)
def tW(X:Cx)(r:R2):Prop:=
 ∀(value slice:bE)(pins:M (af×bA))(s:aI)(σ:St)(H:Hp)(x y:V)(v u:aq)(Q:VK),Inv X pins σ H s->RelV x v->RelV y u->r x y H Q->
  Ib slice ao v u=Uz [v,u] (xX v u)->aJ (aL X.prog X.w) X.A (subscriptTail value slice v u) (EP X pins σ Q) X.xe s
def y_(X:Cx)(id:String)(r:V->M V->Hp->VK->Prop):Prop:=
 ∀(pins:M (af×bA))(s:aI)(σ:St)(H:Hp)(x:V)(xs:M V)(v:aq)(us:M aq)(Q:VK),Inv X pins σ H s->RelV x v->Vals xs us->r x xs H Q->
  aJ (aL X.prog X.w) X.A (call (.builtin id) (v::us)) (EP X pins σ Q) X.xe s
section
variable{X:Cx}{a b:bE}{ta tb:TE}{pos:fG}
def CD{r:R2}(hr:tW X r)(ha:PE X a ta)(hb:PE X b tb)(hs:y9 b):PE X (.Subscript a b pos) (lF r ta tb):=by intro pins s σ H Q ab h;exact Uy (Cm ha hb ab h λv u s2 x y H2 I2 rx ry q=>hr a b pins s2 σ H2 x y v u Q I2 rx ry q (hs _ _))
inductive za(K:aR)(x:V)(y:V)(H:Hp)(Q:VK):Prop|mk(p:_)(xs:_)(i:_)(v:_)(_:x= .ref p)(_:y= .int i)(_:az K H p xs)(_:jF xs i=I v)(_:Q v H)
inductive CF(K:aR)(x:V)(y:V)(H:Hp)(Q:VK):Prop|mk(p:_)(xs:_)(i:_)(v:_)(_:x= .ref p)(_:y= .int i)(_:bz K H p xs)(_:jF xs i=I v)(_:Q v H)
inductive X9(x:V)(y:V)(H:Hp)(Q:VK):Prop|mk(z:_)(i:_)(c:_)(_:x= .str z)(_:y= .int i)(_:z.length<=sizeLine)(_:jF z.cps.toList i=I c)(_:Q (.str ⟨#[c]⟩) H)
theorem X_:tW X (za X.K):=by
 intro value slice pins s σ H x y v u Q ab rx ry h hs;obtain⟨p,xs,i,z,rfl,rfl,hq,he,q⟩:=h;cases rx;obtain⟨t,rfl⟩:=ry;obtain⟨ad,r,pl,hz⟩:=ab.list hq;obtain⟨j,h1,h2,h3,h4,h5⟩:=CC he;obtain⟨w,fl,hG⟩:=r.get h2;have hl:=r.length;have hn:=vW;have fin:EP X pins σ Q w s:=⟨z,H,ab,hG,q⟩;by_cases h0:0<=i
 .have hj:i.toNat=j:=by
   rw[seqIndex_of h0 h5]at h1;exact cG h1
  exact item_listR pl.isList h0 (by lia) (by rw[hj];simpa using fl) fin hs
 have hj:(i+(ad.toArray.size:Int)).toNat=j:=by rw[seqIndex_neg (by lia) h4]at h1;rw[eX,<-hl];exact cG h1
 exact aj5 pl.isList.typeIs aj6.lookup
  (wpAny_getItem_list_neg pl.isList (by lia) (by rw[eX]<;>lia) (by lia) (by rw[hj];simpa using fl) ⟨G,fin⟩) hs
theorem K1:tW X (CF X.K):=by
 intro value slice pins s σ H x y v u Q ab rx ry h hs;obtain⟨p,xs,i,z,rfl,rfl,hq,he,q⟩:=h;cases rx;obtain⟨t,rfl⟩:=ry;obtain⟨ad,r,pl,hz⟩:=ab.tuple hq;obtain⟨j,h1,h2,h3,h4,h5⟩:=CC he;obtain⟨w,fl,hG⟩:=r.get h2;have hn:=vW;have fin:EP X pins σ Q w s:=⟨z,H,ab,hG,q⟩
 exact aj5 pl.typeIs slot_tuple_getitem.lookup
  (getItem_tuple pl (by lia) (by lia) (by rw[eX,<-r.length];exact h1) (by simpa using fl) ⟨G,fin⟩) hs
theorem Yb:tW X X9:=by
 intro value slice pins s σ H x y v u Q ab rx ry h hs;obtain⟨z,i,c,rfl,rfl,hz,he,q⟩:=h;obtain⟨t,rfl⟩:=rx;obtain⟨t',rfl⟩:=ry;obtain⟨j,h1,h2,h3,h4,h5⟩:=CC he;have hl:z.cps.toList.length=z.length:=by simp[Str.length]
 rw[hl]at h1 h4 h5;have hn:=vW
 exact tail_any (typeIs_str s z t) slot_str_getitem.lookup (getItem_str (by have e1:decide (i< -(2^63:Int))=ao:=aV (by lia);have e2:decide (i>=2^63)=ao:=aV (by lia);rw[e1,e2,UA]) (by rw[h1];simpa using h2) ⟨.str ⟨#[c]⟩,H,ab.tok _,⟨_,G⟩,q⟩) hs
theorem Yc(lo hi:aG Int)(n:Nat):(ve lo hi ak n).1=((HT.iE n 0 lo:Nat):Int)/\(ve lo hi ak n).2.1=((HT.iE n n hi:Nat):Int)/\(ve lo hi ak n).2.2=1:=by
 exists ?_,?_,G
 .cases lo with
  |none=>simp[ve,HT.iE]|some i=>
   simp only[ve,HT.iE,aj7,show 1>0 by decide,l5];by_cases h:i<0
   .simp only[h,l5]<;>lia
   simp only[h,l6]<;>lia
 cases hi with
 |none=>simp[ve,HT.iE]
 |some i=>
  simp only[ve,HT.iE,aj7,show 1>0 by decide,l5];by_cases h:i<0
  .simp only[h,l5]<;>lia
  simp only[h,l6]<;>lia
def Yd(ad:M aq)(lo hi:aG Int):slicePick ad.toArray lo hi ak=((ad.drop (HT.iE ad.length 0 lo)).take (HT.iE ad.length ad.length hi-HT.iE ad.length 0 lo)).toArray:=by obtain⟨h1,h2,h3⟩:=Yc lo hi ad.toArray.size;unfold slicePick;rw[h1,h2,h3];simp only[sliceRange_one,pick_run,eX]<;>rfl
def K2(K:aR):V->aG Int->aG Int->Hp->VK->Prop:=λx lo hi H Q=>∃a xs,x= .ref a/\az K H a xs/\∀p,H p=ak->Q (.ref p) (upd H p (.lst (e_ xs lo hi)))
theorem nH:CB X (K2 X.K):=by intro pins s σ H x v vl vu lo hi sl Q ab rx hs pl Pi h;obtain⟨a,xs,rfl,hx,q⟩:=h;cases rx;obtain⟨ad,r,ht,hz⟩:=ab.list hx;have hlen:=r.length;exists"list",_,aj6.lookup,ht.isList.typeIs;refine wpAny_getItem_list_slice ht.isList hs pl Pi .none (by simp) ?_ (by rw[eX]<;>lia);rw[Yd,<-hlen];exists .ref s.heap.objs.size,_,ab.laid (t':=s.toks) (λb ob q=>cu _ q) (aZ _) ?_,G,q _ (ab.aQ.fresh (aZ _));exists cX (KZ xs lo hi) hz,_,0,(r.drop (HT.iE xs.length 0 lo)).take (HT.iE xs.length xs.length hi-HT.iE xs.length 0 lo),di _ G
def iF:V->Bool| .bx=>aa| .bl _=>aa| .int _=>aa| .str _=>aa|_=>ao
noncomputable def fZ:V->V->Bool
 | .bx,.bx=>aa| .bl a,.bl b=>a==b| .bl a,.int b=>(if a then 1 else 0)==b
 | .int a,.bl b=>a==(if b then 1 else 0)
 | .int a,.int b=>a==b| .str a,.str b=>a==b|_,_=>ao
variable{s:aI}{y x:V}{u v:aq}
def Ye{A:eZ}(ry:RelV y u)(rx:RelV x v)(vx:iF y=aa)(fx:iF x=aa):A_ A s u v (fZ y x):=by
 cases y with
 |bx=>
  cases ry;cases x with
  |bx=>cases rx;exact SeqAt.EqAt.same _
  |bl b=>cases rx;exact SeqAt.EqAt.none_bool b
  |int b=>obtain⟨t,rfl⟩:=rx;exact SeqAt.EqAt.none_int b t
  |str b=>obtain⟨t,rfl⟩:=rx;exact SeqAt.EqAt.none_str b t
  |_=>exact aU (fx) dJ
 |bl a=>
  cases ry;cases x with
  |bx=>cases rx;exact SeqAt.EqAt.bool_none a
  |bl b=>cases rx;exact SeqAt.EqAt.bool_bool a b
  |int b=>obtain⟨t,rfl⟩:=rx;exact SeqAt.EqAt.bool_int a b t
  |str b=>obtain⟨t,rfl⟩:=rx;exact SeqAt.EqAt.bool_str a b t
  |_=>exact aU (fx) dJ
 |int a=>
  obtain⟨t',rfl⟩:=ry;cases x with
  |bx=>cases rx;exact SeqAt.EqAt.int_none a t'
  |bl b=>cases rx;exact SeqAt.EqAt.int_bool a t' b
  |int b=>obtain⟨t,rfl⟩:=rx;exact ajY a t' b t
  |str b=>obtain⟨t,rfl⟩:=rx;exact ajz a t' b t
  |_=>exact aU (fx) dJ
 |str a=>
  obtain⟨t',rfl⟩:=ry;cases x with
  |bx=>cases rx;exact SeqAt.EqAt.str_none a t'
  |bl b=>cases rx;exact SeqAt.EqAt.str_bool a t' b
  |int b=>obtain⟨t,rfl⟩:=rx;exact ajA a t' b t
  |str b=>obtain⟨t,rfl⟩:=rx;exact SeqAt.EqAt.str_str a t' b t
  |_=>exact aU (fx) dJ
 |_=>exact aU (vx) dJ
def jf(x:V)(u:aq):Bool:=match u with| .none=>fZ .bx x| .bool b=>fZ (.bl b) x| .int i _=>fZ (.int i) x| .str z _=>fZ (.str z) x|_=>ao
def tX(r:RelV y u)(f:iF y=aa):jf x u=fZ y x:=by
 cases y with
 |bx=>cases r;rfl
 |bl b=>cases r;rfl
 |int i=>obtain⟨t,rfl⟩:=r;rfl
 |str z=>obtain⟨t,rfl⟩:=r;rfl
 |_=>exact aU (f) dJ
theorem vZ{x:V}:∀{xs:M V}{us:M aq},Vals xs us->xs.all iF=aa->us.any (jf x)=xs.any λy=>fZ y x|_,_,.nil,_=>rfl|y::xs,u::us,.cons r t,f=>by rw[pe,cU]at f;rw[n8,n8,tX r f.1,vZ t f.2]
theorem rE{A:eZ}{s:aI}{x:V}{v:aq}(rx:RelV x v)(fx:iF x=aa):∀{xs:M V}{us:M aq},Vals xs us->xs.all iF=aa->∀u∈us,A_ A s u v (jf x u)
 |_,_,.nil,_=>λu hu=>by cases hu
 |y::xs,u::us,.cons r t,f=>λu' hu=>by
  rw[pe,cU]at f;obtain rfl|hu:=bh.mp hu
  .rw[tX r f.1];exact Ye r rx f.1 fx
  exact rE rx fx t f.2 u' hu
def fL(x:V)(xs:M V):Bool:=xs.any λy=>fZ y x
inductive zb(K:aR)(Pl:Bool)(x:V)(y:V)(H:Hp)(Q:VK):Prop|mk(p:_)(xs:_)(_:y= .ref p)(_:(az K H p xs\/bz K H p xs))(_:iF x=aa)(_:xs.all iF=aa)(_:Q (.bl (if Pl then !fL x xs else fL x xs)) H)
def CG:dX X (e7 .In) (zb X.K ao):=by
 intro pins s σ H x y v u Q ab rx ry h;obtain⟨p,xs,rfl,hq,fx,fs,q⟩:=h;cases ry;obtain hq|hq:=hq
 .obtain⟨ad,r,pl,hz⟩:=ab.list hq;refine SeqAt.in_listAt (jf x) pl.isList (λw hw=>rE rx fx r fs w (by simpa using hw)) ⟨.bl _,H,ab,G,?_⟩;rw[show ad.toArray.any (jf x)=ad.any (jf x) by simp,vZ r fs];exact q
 obtain⟨ad,r,pl,hz⟩:=ab.tuple hq;refine SeqAt.in_tupleAt (jf x) pl (λw hw=>rE rx fx r fs w (by simpa using hw)) ⟨.bl _,H,ab,G,?_⟩;rw[show ad.toArray.any (jf x)=ad.any (jf x) by simp,vZ r fs];exact q
def zc:dX X (e7 .NotIn) (zb X.K aa):=by
 intro pins s σ H x y v u Q ab rx ry h;obtain⟨p,xs,rfl,hq,fx,fs,q⟩:=h;cases ry;obtain hq|hq:=hq
 .obtain⟨ad,r,pl,hz⟩:=ab.list hq;refine SeqAt.notIn_listAt (jf x) pl.isList (λw hw=>rE rx fx r fs w (by simpa using hw)) ⟨.bl _,H,ab,G,?_⟩;rw[show ad.toArray.any (jf x)=ad.any (jf x) by simp,vZ r fs];exact q
 obtain⟨ad,r,pl,hz⟩:=ab.tuple hq;refine SeqAt.notIn_tupleAt (jf x) pl (λw hw=>rE rx fx r fs w (by simpa using hw)) ⟨.bl _,H,ab,G,?_⟩;rw[show ad.toArray.any (jf x)=ad.any (jf x) by simp,vZ r fs];exact q
theorem dc:gZ X (.builtin "len") (λxs H Q=>∃p ys,xs=[.ref p]/\(az X.K H p ys\/bz X.K H p ys)/\Q (.int ys.length) H):=by
 intro pins s σ H xs us Q ab r h;obtain⟨p,ys,rfl,hq,q⟩:=h;obtain⟨u,rfl,rx⟩:=vals1 r;cases rx;have hn:=vW;obtain hq|hq:=hq
 .obtain⟨ad,r',pl,hz⟩:=ab.list hq;have hlen:=r'.length;exact Calls.call_len_list pl.isList (by simp only[eX]<;>lia) ⟨.int ys.length,H,ab.tok _,⟨s.toks+1,by rw[eX,hlen]⟩,q⟩
 obtain⟨ad,r',pl,hz⟩:=ab.tuple hq;have hlen:=r'.length;exact len_tuple pl (by simp only[eX]<;>lia) ⟨.int ys.length,H,ab.tok _,⟨s.toks+1,by rw[eX,hlen]⟩,q⟩
theorem Yg:gZ X (.type "tuple") (λxs H Q=>∃p ys,xs=[.ref p]/\((az X.K H p ys/\∀l,H l=ak->Q (.ref l) (upd H l (.tup ys)))\/(bz X.K H p ys/\Q (.ref p) H))):=by
 intro pins s σ H xs us Q ab r h;obtain⟨p,ys,rfl,h⟩:=h;obtain⟨u,rfl,rx⟩:=vals1 r;cases rx;obtain⟨hq,q⟩|⟨hq,q⟩:=h
 .obtain⟨ad,r',pl,hz⟩:=ab.list hq;have hlen:=r'.length;refine call_tuple_list pl.isList (λh' kp=> ?_) (by simp only[eX]<;>lia);have I1:=ab.kept (t':=s.toks) kp
  have I2:Inv X pins σ (upd H h'.objs.size (.tup ys)) {s with heap:=h'.push {cls:=.type "tuple",data:=.seq ad.toArray}}:=
   I1.laid (t':=s.toks) (λb o e=>cu _ e) (aZ _) (⟨hz,ad,r',IsTup.new _ _⟩)
  exists .ref h'.objs.size,_,I2,G,q _ (I1.aQ.fresh (aZ _))
 obtain⟨ad,r',pl,hz⟩:=ab.tuple hq;exact call_tuple_same pl ⟨.ref p,H,ab,G,q⟩
def K3(K:aR)(T:String)(x:V)(H:Hp):Prop:=match x with
 | .str _=>T="str"| .int _=>T="int"
 | .ref p=>(T="list"/\∃xs,az K H p xs)\/(T="tuple"/\∃o,K.lookup p=I o/\o.cls= .type "tuple"/\o.dict=ak)\/
   (T="dict"/\((∃ae,H p=I (.dK ae))\/∃ae,H p=I (.dT ae)))\/(T="set"/\∃S n,H p=I (.set S n))
 |_=>False
variable{T:String}
def Yh{pins:M (af×bA)}{σ:St}{H:Hp}(ab:Inv X pins σ H s)(r:RelV x v)(ty:K3 X.K T x H):
  s.TypeIs v T/\∀a,v= .ref a->∃ob,s.heap.get? a=I ob/\ob.dict=ak:=by
 cases x with
 |str z=>obtain⟨t,rfl⟩:=r;cases(ty);exists typeIs_str s z t,λ_ e=>nomatch e
 |int i=>obtain⟨t,rfl⟩:=r;cases(ty);exists UB s i t,λ_ e=>nomatch e
 |ref p=>
  cases r;obtain⟨rfl,xs,hq⟩|⟨rfl,o,hk,hc,hd⟩|⟨rfl,hk⟩|⟨rfl,S,n,hk⟩:=ty
  .obtain⟨ad,_,pl,_⟩:=ab.list hq;refine⟨pl.isList.typeIs,λa e=> ?_⟩;cases e;obtain⟨o,n,e,c,hd,_⟩:=pl;exists o,e,hd
  .refine⟨⟨o,ab.iO p o hk,hc⟩,λa e=> ?_⟩;cases e;exists o,ab.iO _ o hk,hd
  .have z:∃o,s.heap.get? p=I o/\o.ExactDict:=by
    obtain⟨ae,hk⟩|⟨ae,hk⟩:=hk
    .obtain⟨_,_,_,_,o,_,_,e,ex,_⟩:=ab.aQ p _ hk;exists o,e,ex
    obtain⟨_,_,_,_,o,_,_,e,ex,_⟩:=ab.aQ p _ hk;exists o,e,ex
   obtain⟨o,e,ex⟩:=z;refine⟨⟨o,e,ex.1⟩,λa e2=> ?_⟩;cases e2;exists o,e,ex.2.1
  obtain⟨o,_,_,_,e,ex,_⟩:=ab.aQ p _ hk;refine⟨⟨o,e,ex.1⟩,λa e2=> ?_⟩;cases e2;exists o,e,ex.2.1
 |_=>exact ju ty
def Yi(K:aR)(T:String)(r:V->M V->Hp->VK->Prop)(to:TE)(t:TA):TE:=λσ H Q=>to σ H λx H1=>K3 K T x H1/\t σ H1 λxs H2=>r x xs H2 Q
variable{o e:bE}{es:M bE}{to:TE}{t:TA}{name:aj}{c0 oo:fG}{T id:String}{r:V->M V->Hp->VK->Prop}
def ee(pa:PlainAttrs T)(slot:Slot T name id)(rn:typeOf (.builtin id)=pure (.type "method_descriptor"))(hm:y_ X id r)(ho:PE X o to)(ha:PA X (e::es) t)
  (Yj:A7 o name X.env (eval o X.env)=eval o X.env:=by rfl)
  (Yk:((fH oo (bS (e::es) X.env)).all (λx=> !x.1)&&(sI oo (sJ [] X.env)).all (λx=>x.1.isSome)&&decide ((e::es).length+([]:M Keyword).length+(if([]:M Keyword).isEmpty then 0 else 1)<30))=aa:=by rfl)
  (Yl:(c0.endLine==oo.line)=aa:=by rfl)(hs:bS (e::es) X.env=(ao,eval e X.env)::bS es X.env:=by rfl)(Ym:(fH oo (bS es X.env)).any (·.1)=ao:=by rfl):
  PE X (.Call (.Attribute o name c0) (e::es) [] oo) (Yi X.K T r to t):=by
 intro pins s σ H Q ab h;refine wpAny_Call_method_late Yj Yk Yl G (a_ (ho pins s σ H _ ab h) λv s1⟨x,H1,I1,r1,ty,q1⟩=> ?_);obtain⟨h1,h2⟩:=Yh I1 r1 ty;exists T,id,pa,slot,rn,h1,h2;have hA:=ha oo pins s1 σ H1 _ I1 q1;rw[hs]at hA⊢;exact Calls.callWith_builtin (by show(ao||(fH oo (bS es X.env)).any (·.1))=ao;rw[Ym]<;>rfl) (Calls.evalArgs_plain (a_ hA λus s2⟨vs,H2,I2,r2,q2⟩=>hm pins s2 σ H2 x vs v us Q I2 r1 r2 q2))
end
def CH(X:Cx)(id:String)(r:V->M V->Hp->VK->Prop):Prop:=
 ∀(pins:M (af×bA))(s:aI)(σ:St)(H:Hp)(x:V)(xs:M V)(v:aq)(us:M aq)(Q:VK),Inv X pins σ H s->RelV x v->Vals xs us->r x xs H Q->
  aJ (aL X.prog X.w) X.A (call (.builtin id) (v::us)) (EP X pins σ Q) X.xe s
def Vals.one:∀{x:V}{us:M aq},Vals [x] us->∃u,us=[u]/\RelV x u|_,_,.cons r .nil=>⟨_,G,r⟩
theorem Vals.rep{xs:M V}{us:M aq}(h:Vals xs us):∀k:Nat,Vals (dF k xs).flatten (dF k us).flatten|0=>.nil|k+1=>by rw[sL,sL,xY,xY];exact Vals.append h (Vals.rep h k)
theorem foldl_rep(ad:M aq):∀(k:Nat)(acc:M aq),
  aj8 (λx1 x2=>x1++x2) acc.toArray (dF k ad.toArray)=(acc++(dF k ad).flatten).toArray
 |0,acc=>by simp
 |k+1,acc=>by
  have e:acc.toArray++ad.toArray=(acc++ad).toArray:=by simp
  have e2:(acc++ad)++(dF k ad).flatten=acc++(dF (k+1) ad).flatten:=by rw[sL,xY,iu]
  rw[<-e2,<-foldl_rep ad k (acc++ad),<-e,sL,qH]
variable{pins:M (af×bA)}{σ:St}{H:Hp}{s:aI}{l:af}{xs ys:M V}{ad:M aq}{t':Nat}
def Inv.CI{its':M aq}{f:Array aq->Array aq}(ab:Inv X pins σ H s)(hH:H l=I (.lst xs))
  (e:s.heap.get? l=I {cls:=.type "list",data:=.seq ad.toArray n})(hf:f ad.toArray=its'.toArray)(hv:Vals ys its')(hz:ys.length<=sizeLine):
  Inv X pins σ (upd H l (.lst ys)) {s with heap:=s.heap.update l (Bb f),toks:=t'}:=by
 have q:=PySem.IsL.update e f;rw[hf]at q;refine ab.write (by rw[hH];exact trivial) (.inl G) (λb' u hb hu=>(pq s.heap (Bb f) (ie hb)).trans hu) ⟨_,q⟩ ?_;exists hz,its',_,hv,q
def Inv.Yn(ab:Inv X pins σ H s)(hv:Vals ys ad)(hz:ys.length<=sizeLine):
  Inv X pins σ (upd H s.heap.objs.size (.lst ys)) {s with heap:=s.heap.push {cls:=.type "list",data:=.seq ad.toArray},toks:=t'}:=
 ab.laid (λ_ _ q=>cu _ q) (aZ _) ⟨hz,ad,0,hv,di _ G⟩
def Inv.fresh(ab:Inv X pins σ H s):H s.heap.objs.size=ak:=ab.aQ.fresh (aZ _)
def Inv.tY(ab:Inv X pins σ H s)(hH:H l=I (.lst xs)):xs.length<=sizeLine/\∃(ad:M aq)(n:Nat),Vals xs ad/\xs.length=ad.length/\s.heap.get? l=I {cls:=.type "list",data:=.seq ad.toArray n}:=by obtain⟨z,ad,n,r,e⟩:=ab.aQ l _ hH;exists z,ad,n,r,r.length,e
theorem K4(h:n<=sizeLine):Ic n=ao:=by exact aV (by lia)
inductive Yo(x:V)(vs:M V)(H:Hp)(Q:VK):Prop|mk(l:_)(xs:_)(y:_)(_:x= .ref l)(_:vs=[y])(_:H l=I (.lst xs))(_:xs.length<sizeLine)(_:Q .bx (upd H l (.lst (xs++[y]))))
theorem lK:CH X "list.append" Yo:=by intro pins s σ H x vs v us Q ab rx rv h;obtain⟨l,xs,y,rfl,rfl,hH,hz,q⟩:=h;cases rx;obtain⟨u,rfl,ru⟩:=rv.one;obtain⟨z,ad,n,r,hl,e⟩:=ab.tY hH;refine Bc l7 ⟨_,e,G⟩ F.entry_list_append (F.args_list_append_2 _ _) (PySem.list_append l ad.toArray n u (by rw[eX];lia)) ⟨e,?_⟩;exists .bx,_,ab.CI (its':=ad++[u]) hH e (by simp) (r.append (.cons ru .nil)) ?_,G,q;rw[bD,Bd];lia
inductive Yp(x:V)(vs:M V)(H:Hp)(Q:VK):Prop|mk(l:_)(b:_)(xs:_)(zs:_)(_:x= .ref l)(_:vs=[.ref b])(_:H l=I (.lst xs))(_:H b=I (.lst zs))(_:xs.length+zs.length<=sizeLine)(_:Q .bx (upd H l (.lst (xs++zs))))
theorem oG:CH X "list.extend" Yp:=by
 intro pins s σ H x vs v us Q ab rx rv h;obtain⟨l,b,xs,zs,rfl,rfl,hH,hB,hz,q⟩:=h;cases rx;obtain⟨u,rfl,ru⟩:=rv.one;cases ru;obtain⟨z,ad,n,r,hl,e⟩:=ab.tY hH;obtain⟨z2,cs,n2,r2,db,e2⟩:=ab.tY hB;have ba:ad.toArray.size+cs.toArray.size<=sizeLine:=by rw[eX,eX];lia
 have Pm:¬(!ad.toArray.isEmpty&&Ic (ad.toArray.size+cs.toArray.size))=aa:=by rw[K4 ba,Be];exact dJ
 refine Bc l8 ⟨_,e,G⟩ aj9 (aj_ _ _)
  (AutoSeq1.list_extend_list_list_0 l ad.toArray n b cs.toArray n2 Pm (by rw[eX];lia) (by lia)) ⟨e,e2,?_⟩
 exists .bx,_,ab.CI (its':=ad++cs) hH e (by simp) (r.append r2) ?_,G,q;rw[bD];lia
inductive K5(x:V)(y:V)(H:Hp)(Q:VK):Prop|mk(l:_)(b:_)(xs:_)(zs:_)(_:x= .ref l)(_:y= .ref b)(_:H l=I (.lst xs))(_:H b=I (.lst zs))(_:xs.length+zs.length<=sizeLine)(_:∀p,H p=ak->Q (.ref p) (upd H p (.lst (xs++zs))))
theorem f6:dX X (sG .Add) K5:=by
 intro pins s σ H x y v u Q ab rx ry h;obtain⟨l,b,xs,zs,rfl,rfl,hH,hB,hz,q⟩:=h;cases rx;cases ry;obtain⟨z,ad,n,r,hl,e⟩:=ab.tY hH;obtain⟨z2,cs,n2,r2,db,e2⟩:=ab.tY hB;refine PySem.P.add_list e e2 ?_ (by rw[eX,eX];lia);have ea:ad.toArray++cs.toArray=(ad++cs).toArray:=by simp
 rw[ea];exists .ref _,_,ab.Yn (t':=s.toks) (r.append r2) (by rw[bD];lia),G,q _ ab.fresh
def len_rep(xs:M α)(k:Nat):(dF k xs).flatten.length=k*xs.length:=by
 induction k with
 |zero=>simp
 |succ k ih=>rw[sL,xY,bD,ih,Nat.succ_mul,UC]
theorem Vals.ints:∀{ns:M Int}{us:M aq},Vals (ns.map V.int) us->IntsAre us ns
 |[],us,h=>by rw[xW]at h;cases h;exact aka
 |n::ns,us,h=>by
  rw[b9]at h;cases h with
  |cons r t=>obtain⟨k,rfl⟩:=r;exact akb n k (Vals.ints t)
theorem zd:∀{us:M aq}{ns:M Int},IntsAre us ns->Vals (ns.map V.int) us|_,_,.nil=>by rw[xW];exact Paired.nil|_,_,.cons n t h=>by rw[b9];exact Paired.cons (show RelV (V.int n) (qC n t) from⟨t,G⟩) (zd h)
theorem Vals.K6:∀{bs:M Bool}{us:M aq},Vals (bs.map V.bl) us->us=bs.map uS
 |[],us,h=>by rw[xW]at h;cases h;rfl
 |b::bs,us,h=>by
  rw[b9]at h;cases h with
  |cons r t=>cases r;rw[Vals.K6 t,b9]
variable{a:af}
def Vals.nI{us:M aq}(r:Vals [V.ref a] us):us=[eW a]:=by
 cases r with
 |cons r t=>cases t;cases r;rfl
variable{prog:bY}{w:bR}{A:eZ}{E Q:aq->aI->Prop}
def Yq(hh:A.handled=ak)(hl:s.heap.IsList l ad.toArray)(hi:IntsAre ad ns)
  (h:∀h' tk t',(∀b o,s.heap.get? b=I o->h'.get? b=I o)->Q (.int ns.sum t') {s with heap:=h',toks:=tk}):aJ (aL prog w) A (call (.builtin "sum") [.ref l]) Q E s:=by
 obtain⟨xs,e⟩:=hi.allInts.items;have hn:numsOf (sM xs).toList=ns:=by rw[<-e];exact hi.numsOf
 rw[UD]at hn;rw[e]at hl;refine PySem.sum_intListG hh hl λh' tk t' hk=> ?_;have:=h h' tk t' hk;rw[preSum_eq,pA (by simp),hn];exact this
theorem Yr(hh:A.handled=ak)(hl:s.heap.IsList l ad.toArray)(hi:IntsAre ad ns)(aw:0<ns.length)
  (h:∀h' tk a5 t',(∀b o,s.heap.get? b=I o->h'.get? b=I o)->a5∈ns->(∀a,a∈ns->a<=a5)->Q (.int a5 t') {s with heap:=h',toks:=tk}):aJ (aL prog w) A (call (.builtin "max") [.ref l]) Q E s:=by
 obtain⟨xs,e⟩:=hi.allInts.items;have hn:numsOf (sM xs).toList=ns:=by rw[<-e];exact hi.numsOf
 rw[UD]at hn;subst hn;rw[e]at hl;have ba:0<xs.size:=by simpa using aw
 refine PySem.max_intList hh hl ba λv h' tk hv hk=> ?_;obtain⟨t,rfl⟩:=UE hv;obtain⟨h1,h2⟩:=argBest_gt (Bf xs) (xs.size-1);refine h h' tk _ t hk ?_ λa ha=> ?_
 .rw[Ie];exact akc (by rw[aE,fk];lia)
 obtain⟨j,hj,rfl⟩:=mem_getD ha;rw[aE,fk]at hj;rw[<-Ie];exact h2 j (by lia)
inductive Ys(K:aR)(vs:M V)(H:Hp)(Q:VK):Prop|mk(a:af)(ns:M Int)(_:vs=[V.ref a])(_:az K H a (ns.map V.int))(_:Q (.int ns.sum) H)
inductive Yt(K:aR)(vs:M V)(H:Hp)(Q:VK):Prop|mk(a:af)(ns:M Int)(_:vs=[V.ref a])(_:az K H a (ns.map V.int))(_:0<ns.length)(_:∀m,m∈ns->(∀y,y∈ns->y<=m)->Q (.int m) H)
def Yu(hc:X.calm=aa):gZ X (.builtin "sum") (Ys X.K):=by intro pins s σ H vs us Q ab r h;obtain⟨a,ns,rfl,hs,q⟩:=h;obtain⟨ad,rv,hl,_⟩:=ab.list hs;rw[Vals.nI r];exact Yq (ab.ok.hd hc) hl.isList rv.ints λh' tk t' hk=>⟨.int _,H,ab.kept hk,⟨_,G⟩,q⟩
def Yv(hc:X.calm=aa):gZ X (.builtin "max") (Yt X.K):=by intro pins s σ H vs us Q ab r h;obtain⟨a,ns,rfl,hs,aw,q⟩:=h;obtain⟨ad,rv,hl,_⟩:=ab.list hs;rw[Vals.nI r];exact Yr (ab.ok.hd hc) hl.isList rv.ints aw λh' tk m t' hk h1 h2=>⟨.int _,H,ab.kept hk,⟨_,G⟩,q m h1 h2⟩
inductive Yw(K:aR)(x:V)(xs:M V)(H:Hp)(Q:VK):Prop|mk(a:af)(ys:M V)(y:V)(j:Nat)(z:V)(_:x=V.ref a)(_:xs=[y])(_:az K H a ys)(_:iF y=aa)(_:ys.all iF=aa)(_:ys[j]? =I z)(_:fZ z y=aa)(_:(∀(m:Nat)(z':V),m<j->ys[m]? =I z'->fZ z' y=ao))(_:Q (.int (j:Nat)) H)
def ze(f:ys.all iF=aa){z:V}(h:ys[j]? =I z):iF z=aa:=jU.mp f z (bN h)
theorem zf:y_ X "list.index" (Yw X.K):=by
 intro pins s σ H x xs v us Q ab rx Ps h;obtain⟨a,ys,y,j,z,rfl,rfl,hs,vx,ox,hz,Pt,fo,q⟩:=h;cases rx;cases Ps with
 |cons ry rt=>
  rename_i K7 Yx;cases rt;obtain⟨ad,rv,⟨⟨cls,dd,data,sl⟩,n,ho,hc,hdn,hd⟩,hlen⟩:=ab.list hs;simp only at hc hd;subst hc hd;obtain⟨u,hu,ru⟩:=rv.get hz;obtain⟨kt,PH⟩:=eL.mp hu;have K8:=rv.length;have hj:j<ad.toArray.size:=by simpa using kt
  have vy:=cY
  refine Bc Bg ⟨_,ho,G⟩ PySem.F.entry_list_index (PySem.F.args_list_index_2 _ _)
   (SeqAt.list_indexAt a ad.toArray n dd sl K7 (jf y) j hj (by lia) ?_ ?_) ⟨ho,λu' PQ=>rE ry vx rv ox u' (by simpa using PQ),?_⟩
  .have e1:ad.toArray[j]=u:=by simpa using PH
   rw[e1,tX ru (ze ox hz)];exact Pt
  .intro m hm P2;have me:m<ad.length:=by simpa using hm
   have Yy:m<ys.length:=by lia
   have kx:=bg Yy;obtain⟨u2,oy,oC⟩:=rv.get kx;obtain⟨_,P3⟩:=eL.mp oy;have e1:ad.toArray[m]=u2:=by simpa using P3
   rw[e1,tX oC (ze ox kx)];exact fo m _ P2 kx
  exists .int j,H,ab.tok _,⟨_,G⟩,q
def Yz{items:Array aq}(hl:s.heap.IsList l items)
  (h:∀s₂:aI,s₂={s with heap:=s.heap.push {cls:=.type "list_iterator",data:=.fields #[.ref l,.int 0 0]}}->(s₂.heap.IsListIter s.heap.objs.size l 0/\s₂.heap.IsList l items)->l≠s.heap.objs.size->Q (.ref s.heap.objs.size) s₂):aJ (aL prog w) A (pyIter (.ref l)) Q E s:=by
 have al:l<s.heap.objs.size:=by obtain⟨_,e,_⟩:=hl;exact cH e
 exact HW hl (h _ G ⟨⟨_,di _ G,G,G⟩,hl.push _⟩ (d_ al))
def YA{bs:M Bool}(e:ad=bs.map uS):
  TruthOf prog w A (λi v=>ad.toArray[i]? =I v) (λi=>bs.getD i ao):=λi v s Q E hv hq=>by
 have Db:ad[i]? =I v:=by simpa using hv
 rw[e,bF]at Db;obtain⟨b,hb,rfl⟩:=gP.mp Db;have hg:bs.getD i ao=b:=by rw[l9,hb]<;>rfl
 have dC:Q (bs.getD i ao) s:=hq;rw[hg]at dC;exact nc dC
theorem any_range:∀bs:M Bool,(gR bs.length).any (λi=>bs.getD i ao)=bs.any id|[]=>rfl|b::bs=>by rw[bT,akd,n8,List.any_map,n8,<-any_range bs];all_goals rfl
theorem all_range:∀bs:M Bool,(gR bs.length).all (λi=>bs.getD i ao)=bs.all id|[]=>rfl|b::bs=>by rw[bT,akd,pe,xZ,pe,<-all_range bs];all_goals rfl
inductive YB(K:aR)(vs:M V)(H:Hp)(Q:VK):Prop|mk(a:af)(bs:M Bool)(_:vs=[V.ref a])(_:az K H a (bs.map V.bl))(_:Q (.bl (bs.all id)) H)
def K9(hc:X.calm=aa):gZ X (.builtin "all") (YB X.K):=by
 intro pins s σ H vs us Q ab r h;obtain⟨a,bs,rfl,hs,q⟩:=h;obtain⟨ad,rv,hl,_⟩:=ab.list hs;rw[Vals.nI r];have hb:=rv.K6;refine call_all_walk (Yz hl.isList λs₂ e2 st aw=> ?_);subst e2;refine⟨_,_,_,_,_,_,_,G,UG (A:=X.A.in1) (ab.ok.hd hc) _ a aw ad.toArray,st,YA hb,λh' tk hk=> ?_⟩;exists .bl _,H,ab.kept λb o oD=>hk b o (λa7=> ?_) (cu _ oD),?_,q
 .obtain e1|a7:=bh.mp a7
  .exact aU (e1▸cH oD) (kh _)
  cases a7
 show uS _=uS _;rw[<-all_range,hb,eX,aE]
mutual
inductive Dp(K:aR)(H:Hp):V->pB->Prop|bx:Dp K H .bx .none|bl (b:Bool):Dp K H (.bl b) (.bool b)|int (i:Int):Dp K H (.int i) (.int i)|str (x:aj):Dp K H (.str x) (.str x)|lst {a:af} {xs:List V} {ds:List pB}:az K H a xs->rF K H xs ds->Dp K H (.ref a) (.list ds)|tup {a:af} {xs:List V} {ds:List pB}:bz K H a xs->rF K H xs ds->Dp K H (.ref a) (.tuple ds)
inductive rF(K:aR)(H:Hp):List V->List pB->Prop|nil:rF K H [] []|cons {v:V} {vs:List V} {d:pB} {ds:List pB}:Dp K H v d->rF K H vs ds->rF K H (v::vs) (d::ds)
end
mutual
theorem Dp.reads(ab:Inv X pins σ H s):∀(d:pB)(v:V)(u:aq),Dp X.K H v d->RelV v u->∃as,Reads s.heap u d as
 | .none,_,_,h,r=>by cases h;cases r;exists _,Reads.none
 | .bool b,_,_,h,r=>by cases h;cases r;exists _,Reads.bool b
 | .int i,_,_,h,r=>by cases h;obtain⟨t,rfl⟩:=r;exists _,Reads.int i t
 | .str x,_,_,h,r=>by cases h;obtain⟨t,rfl⟩:=r;exists _,Reads.str x t
 | .list ds,_,_,h,r=>by
  cases h with
  |lst hs ha=>cases r;obtain⟨ad,rv,⟨o,n,ho,hc,_,hd⟩,_⟩:=ab.list hs;obtain⟨as,hr⟩:=Dp.readsAll ab ds _ ad ha rv;exists _,Reads.list ho hc hd hr
 | .tuple ds,_,_,h,r=>by
  cases h with
  |tup hs ha=>cases r;obtain⟨ad,rv,⟨o,ho,hc,n,hd⟩,_⟩:=ab.tuple hs;obtain⟨as,hr⟩:=Dp.readsAll ab ds _ ad ha rv;exists _,Reads.tuple ho hc hd hr
 | .dict _,_,_,h,_=>by cases h
theorem Dp.readsAll(ab:Inv X pins σ H s):∀(ds:M pB)(vs:M V)(us:M aq),rF X.K H vs ds->Vals vs us->∃as,ReadsAll s.heap us ds as
 |[],_,_,h,r=>by cases h;cases r;exists _,ReadsAll.nil
 |d::ds,_,_,h,r=>by
  cases h with
  |cons h1 h2=>
   cases r with
   |cons r1 r2=>obtain⟨as,q1⟩:=Dp.reads ab d _ _ h1 r1;obtain⟨bs,q2⟩:=Dp.readsAll ab ds _ _ h2 r2;exists _,ReadsAll.cons q1 q2
end
inductive K_(K:aR)(x:V)(y:V)(H:Hp)(Q:VK):Prop|mk(d:_)(e:_)(_:Dp K H x d)(_:Dp K H y e)(_:Bh d=aa)(_:Bh e=aa)(_:Q (.bl (!Bj d e)) H)
def YC(hu:X.A.units+64<kj):dX X (e7 .NotEq) (K_ X.K):=by intro pins s σ H x y v u Q ab rx ry h;obtain⟨d,e,hd,he,ro,YD,q⟩:=h;obtain⟨as,r1⟩:=Dp.reads ab d x v hd rx;obtain⟨bs,r2⟩:=Dp.reads ab e y u he ry;exact SeqAt.compareNe_shaped r1 r2 ro YD hu ⟨.bl _,H,ab,G,q⟩
abbrev La(h:bB)(c:af)(v:aG aq):Prop:=h.IsCell c v
def YE(scope sc:jP):jP:={scope with names:=scope.names.map λ(n,k)=>if(k== .free&&sc.kind== .function&&sc.names.lookup n==I .cell)then(n,.cell)else(n,k)}
noncomputable def gr(cells:M (aj×af)):M (aj×iX)->M (aj×af)->M (aj×af)|[],acc=>acc|(n,k)::r,acc=>if k== .free then gr cells r ((n,(cells.lookup n).getD 0)::acc)else gr cells r acc
theorem Lb(env:gj)(f:aj×iX->M (aj×af)->jS (ForInStep (M (aj×af))))
  (hf:∀n k c,f (n,k) c=if k== .free then(do let a<-cellOf env n;pure (.yield ((n,a)::c)))else pure (.yield c)):
  ∀(names:M (aj×iX))(acc:M (aj×af)),(∀y∈names,y.2= .free->∃c,env.cells.lookup y.1=I c)->forIn names acc f=pure (gr env.cells names acc)
 |[],acc,_=>by rw[Ig];rfl
 |(n,k)::r,acc,h=>by
  rw[Ih,hf];have ih:=λacc=>Lb env f hf r acc λy hy=>h y (bZ _ hy);unfold gr;by_cases hk:(k==x6)=aa
  .rw[av hk,av hk];obtain⟨c,hc⟩:=h (n,k) bW (by simpa using hk);have e:cellOf env n=pure c:=by unfold cellOf;rw[hc]
   rw[e];have e2:(env.cells.lookup n).getD 0=c:=by rw[hc];rfl
   rw[e2];exact ih _
  rw[au hk,au hk];exact ih _
variable{scope:jP}{env:gj}
def YF(h:∀y∈scope.names,y.2= .free->∃c,env.cells.lookup y.1=I c):closureFor scope env=pure (gr env.cells scope.names []):=by simp only[closureFor];rw[Lb env _ (λn k c=>G) scope.names [] h];rfl
theorem mem_lookup{α:Type}:∀{l:M (aj×α)}{n:aj}{c:α},(n,c)∈l->∃c',l.lookup n=I c'
 |(k,v)::r,n,c,h=>by
  rw[eK];cases hb:n==k with
  |true=>exists _,G
  |false=>
   obtain e|h:=bh.mp h
   .cases e;simp at hb
   exact mem_lookup h
theorem zg{cells:M (aj×af)}:∀{names:M (aj×iX)}{acc:M (aj×af)}{n:aj}{c:af},(n,c)∈gr cells names acc->(n,c)∈acc\/((n,.free)∈names/\c=(cells.lookup n).getD 0)
 |[],_,_,_,h=>.inl h|(m,k)::r,acc,n,c,h=>by
  unfold gr at h;split at h
  .rename_i hk;have hk:k= .free:=by simpa using hk
   obtain h|⟨h1,h2⟩:=zg h
   .obtain e|h:=bh.mp h
    .cases e;exact .inr ⟨hk▸bW,G⟩
    exact .inl h
   exact .inr ⟨bZ _ h1,h2⟩
  obtain h|⟨h1,h2⟩:=zg h
  .exact .inl h
  exact .inr ⟨bZ _ h1,h2⟩
theorem CJ{cells:M (aj×af)}:∀{names:M (aj×iX)}{acc:M (aj×af)}{p:aj×af},p∈acc->p∈gr cells names acc
 |[],_,_,h=>h|(m,k)::r,acc,p,h=>by
  unfold gr;split
  .exact CJ (bZ _ h)
  exact CJ h
theorem CK{cells:M (aj×af)}:∀{names:M (aj×iX)}{acc:M (aj×af)}{n:aj},(n,.free)∈names->(n,(cells.lookup n).getD 0)∈gr cells names acc
 |(m,k)::r,acc,n,h=>by
  unfold gr;obtain e|h:=bh.mp h
  .cases e;exact CJ bW
  split
  .exact CK h
  exact CK h
theorem v8:∀{names:M (aj×iX)}{h:bB}{acc:M (aj×af)}{x:aj}{c:af},(x,c)∈gS h.objs.size names acc->
  (x,c)∈acc\/((x,.cell)∈names/\h.objs.size<=c/\La (sN h names) c ak)
 |[],_,_,_,_,h=>.inl h
 |(n,k)::r,h,acc,x,c,hm=>by
  unfold gS at hm;unfold sN;split at hm
  .rename_i hk;rw[av hk];have hk:k= .cell:=by simpa using hk
   rw[<-iL h {cls:=.type "cell",data:=.cell ak}]at hm;obtain hm|⟨h1,h2,h3⟩:=v8 hm
   .obtain e|hm:=bh.mp hm
    .cases e;exact .inr ⟨hk▸bW,aZ _,_,Ii r _ _ _ (di _ G),G⟩
    exact .inl hm
   rw[iL]at h2;exact .inr ⟨bZ _ h1,Ij h2,h3⟩
  rename_i hk;rw[au hk];obtain hm|⟨h1,h2,h3⟩:=v8 hm
  .exact .inl hm
  exact .inr ⟨bZ _ h1,h2,h3⟩
theorem zh:∀{names:M (aj×iX)}{n:Nat}{acc:M (aj×af)}{p:aj×af},p∈acc->p∈gS n names acc
 |[],_,_,_,h=>h|(m,k)::r,n,acc,p,h=>by
  unfold gS;split
  .exact zh (bZ _ h)
  exact zh h
theorem CL:∀{names:M (aj×iX)}{n:Nat}{acc:M (aj×af)}{x:aj},(x,.cell)∈names->∃c,(x,c)∈gS n names acc
 |(m,k)::r,n,acc,x,h=>by
  unfold gS;obtain e|h:=bh.mp h
  .cases e;exists n,zh bW
  split
  .exact CL h
  exact CL h
theorem CM:∀{names:M (aj×iX)}{h:bB}{acc:M (aj×af)}{x y:aj}{c:af},(∀p∈acc,p.2<h.objs.size)->(∀x y c,(x,c)∈acc->(y,c)∈acc->x=y)->
  (x,c)∈gS h.objs.size names acc->(y,c)∈gS h.objs.size names acc->x=y
 |[],_,_,_,_,_,_,hi,h1,h2=>hi _ _ _ h1 h2
 |(n,k)::r,h,acc,x,y,c,hl,hi,h1,h2=>by
  unfold gS at h1 h2;split at h1
  .rename_i hk;rw[av hk]at h2;rw[<-iL h {cls:=.type "cell",data:=.cell ak}]at h1 h2;refine CM (λp hp=> ?_) (λx y c a b=> ?_) h1 h2
   .rw[iL];obtain rfl|hp:=bh.mp hp
    .exact A6 _
    exact qI (hl p hp)
   obtain e|a:=bh.mp a<;>obtain e'|b:=bh.mp b
   .cases e;cases e';rfl
   .cases e;exact aU (hl _ b) (kh _)
   .cases e';exact aU (hl _ a) (kh _)
   exact hi _ _ _ a b
  rename_i hk;rw[au hk]at h2;exact CM hl hi h1 h2
variable{a5:Model}
def YG{globals:af}{closure:M (aj×af)}{a8:aj}{func:aG af}{code:aq}{Lc:gj}{builtins:af}{Q:gj->aI->Prop}
  (h:Q (newEnv scope s.heap.objs.size globals (gS (s.heap.objs.size+1) scope.names closure) a8 func code (I Lc) builtins) {s with heap:=sN (s.heap.push {cls:=.type "dict",data:=.dict #[]}) scope.names}):
  aJ a5 A (newFunctionEnv scope globals closure [] a8 func code (I Lc) builtins) Q E s:=by
 simp only[newFunctionEnv,UH,l5];refine aA (wpAny_alloc ?_);refine aA (wpAny_layCells _ (λn k c=>G) scope.names closure _ _ ?_);rw[show({s with heap:=s.heap.push {cls:=.type "dict",data:=.dict #[]}}:aI).heap.objs.size=s.heap.objs.size+1 from iL ..,Ig];exact aA (aN (aN h))
theorem CN{sc:jP}:∀{names:M (aj×iX)}{x:aj}{k:iX},
  (names.map λ(n,k)=>if(k==x6&&sc.kind== .function&&sc.names.lookup n==I .cell)then(n,UI)else(n,k)).lookup x=I k->
  ∃k',names.lookup x=I k'/\(k=k'\/(k'= .free/\k= .cell))
 |[],_,_,h=>by simp at h
 |(n,k₀)::r,x,k,h=>by
  have ih:= @CN sc r x k;have h':qF x ((if(k₀==x6&&sc.kind== .function&&sc.names.lookup n==I .cell)=aa then(n,UI)else(n,k₀))::(r.map _))=I k:=h;cases hx:x==n with
  |true=>
   simp only[eK,hx];by_cases hc:(k₀==x6&&sc.kind== .function&&sc.names.lookup n==I .cell)=aa
   .rw[av hc]at h';simp only[eK,hx]at h';cases h';simp only[cU,iZ]at hc;exists k₀,G,.inr ⟨hc.1.1,G⟩
   rw[au hc]at h';simp only[eK,hx]at h';cases h';exists _,G,.inl G
  |false=>
   simp only[eK,hx];by_cases hc:(k₀==x6&&sc.kind== .function&&sc.names.lookup n==I .cell)=aa
   .rw[av hc]at h';simp only[eK,hx]at h';exact ih h'
   rw[au hc]at h';simp only[eK,hx]at h';exact ih h'
structure v9(N:M aj)(sc scope:jP)(own:M (aj×Nat)):Prop where
 kind:scope.kind= .function
 uniq:∀y∈scope.names,scope.names.lookup y.1=I y.2
 YH:∀p∈own,N[p.2]? =I p.1
 free:∀y∈scope.names,y.2= .free->sc.names.lookup y.1=I .cell\/sc.names.lookup y.1=I .free
 own:∀y∈scope.names,y.2= .local\/y.2= .cell->y.1∈own.map (·.1)\/y.1∉N
def wipe(σ:St):M Nat->St|[]=>σ|v::vs=>(wipe σ vs).set v ak
theorem CO(σ:St):∀vs:M Nat,(wipe σ vs).length=σ.length|[]=>rfl|v::vs=>by unfold wipe;rw[List.length_set,CO σ vs]
theorem CP{σ:St}{i:Nat}{x:V}:∀{vs:M Nat},(wipe σ vs)[i]? =I (I x)->σ[i]? =I (I x)/\i∉vs
 |[],h=>⟨h,by simp⟩|v::vs,h=>by
  unfold wipe at h;by_cases hi:v=i
  .subst hi;by_cases hv:v<(wipe σ vs).length
   .rw[Uh hv]at h;cases h
   rw[n9 (by simpa using hv)]at h;cases h
  rw[Ui hi]at h;obtain⟨h1,h2⟩:=CP h;exact⟨h1,by simp only[bh,not_or];exists λe=>hi e.symm,h2⟩
abbrev Cx.g6(X:Cx)(s:aI)(H:Hp)(scope:jP)(bd:gj)(fp:M af):Cx:={X with gp:=s,pQ:=H,env:=bd,b8:=X.stack,ex:=fp,fn:=λx=>scope.names.lookup x==I .cell,pn:=[],xe:=λ_ _=>False}
variable{own:M (aj×Nat)}
def YI{fp:M af}(ab:Inv X pins σ H s)(ok:v9 X.N X.env.scope scope own)(hN:X.N.Nodup)(mf:∀b∈fp,lE X pins H b/\b<s.heap.objs.size):
  Inv (X.g6 s H scope (l_ scope (gS (s.heap.objs.size+1) scope.names (gr X.env.cells scope.names [])) s.heap.objs.size X.env) fp) [] (wipe σ (own.map (·.2))) H {s with heap:=sN (s.heap.push {cls:=.type "dict",data:=.dict #[]}) scope.names}:=by
 have q0:∀y∈scope.names,y.2= .free->∃c,X.env.cells.lookup y.1=I c:=λy hy e=>by
  obtain k|k:=ok.free y hy e
  .exact ab.ok.has _ (.inl k)
  exact ab.ok.has _ (.inr k)
 generalize vT:l_ scope (gS (s.heap.objs.size+1) scope.names (gr X.env.cells scope.names [])) s.heap.objs.size X.env=bd;have kp:∀b o,s.heap.get? b=I o->(sN (s.heap.push {cls:=.type "dict",data:=.dict #[]}) scope.names).get? b=I o:=λb o e=>Ii _ _ _ _ (cu _ e);have hL:bd.locals=s.heap.objs.size:=by rw[<-vT];rfl
 have ip:bd.cells=gS (s.heap.objs.size+1) scope.names (gr X.env.cells scope.names []):=by rw[<-vT];rfl
 have Qb:bd.scope=YE scope X.env.scope:=by rw[<-vT];rfl
 rw[<-iL s.heap {cls:=.type "dict",data:=.dict #[]}]at ip
 have v0:∀{y c},(y,c)∈gr X.env.cells scope.names []->X.env.cells.lookup y=I c/\c<s.heap.objs.size:=λ{y c}hm=>by
  obtain hm|⟨h1,rfl⟩:=zg hm
  .cases hm
  obtain⟨c,hc⟩:=q0 _ h1 G;rw[hc];obtain⟨w,z⟩:=ab.cell _ _ hc;exists G,z.lt
 have mem:∀{y c},bd.cells.lookup y=I c->(X.env.cells.lookup y=I c/\c<s.heap.objs.size)\/(s.heap.objs.size+1<=c/\La (sN (s.heap.push {cls:=.type "dict",data:=.dict #[]}) scope.names) c ak):=λ{y c}e=>by
  rw[ip]at e;obtain hm|⟨_,h2,h3⟩:=v8 (ko e)
  .exact .inl (v0 hm)
  rw[iL]at h2;exact .inr ⟨h2,h3⟩
 have look:∀{y},scope.names.lookup y=I .free->∃c,bd.cells.lookup y=I c/\X.env.cells.lookup y=I c:=λ{y}hl=>by
  have hy:(y,x6)∈scope.names:=ko hl;obtain⟨c',e'⟩:=mem_lookup (zh (names:=scope.names) (n:=(s.heap.push {cls:=.type "dict",data:=.dict #[]}).objs.size) (CK (cells:=X.env.cells) (acc:=[]) hy));rw[<-ip]at e';exists c',e';rw[ip]at e';obtain hm|⟨h1,_,_⟩:=v8 (ko e')
  .exact(v0 hm).1
  have:=ok.uniq _ h1;rw[hl]at this;cases this
 have YJ:(X.g6 s H scope bd fp).Ok:=by
  exists ab.ok.mod,by show bd.scope.kind=_;rw[Qb];exact ok.kind,by show bd.globals=_;rw[<-vT];exact ab.ok.glob,by show bd.builtins=_;rw[<-vT];exact ab.ok.blt,by show s.heap.objs.size<=bd.locals;rw[hL];exact aZ _,λy z c e1 e2=> ?_,λy hy=> ?_,λy c z e=> ?_,ab.ok.hd,ab.ok.frames,.inl G,λb hb=>⟨?_,λy c e z=> ?_⟩,ab.bs,cX ab.ok.nD ab.sz,λb o e hb=> ?_,λb hb z=> ?_,ab.stack,ab.JZ
  .have e1:bd.cells.lookup y=I c:=e1;have e2:bd.cells.lookup z=I c:=e2;rw[ip]at e1 e2;refine CM (λp hp=> ?_) (λy z c a b=>ab.ok.inj y z c (v0 a).1 (v0 b).1) (ko e1) (ko e2);rw[iL];exact qI (v0 (y:=p.1) (c:=p.2) hp).2
  .show∃c,bd.cells.lookup y=I c
   have key:∀k,bd.kindOf y=I k->(k= .cell\/k= .free)->∃c,bd.cells.lookup y=I c:=λk hk Qr=>by
    unfold Env.kindOf at hk;rw[Qb]at hk;obtain⟨k',e,r⟩:=CN hk
    have:k'= .cell\/k'= .free:=by
     obtain rfl|⟨rfl,_⟩:=r
     .exact Qr
     exact .inr G
    obtain rfl|rfl:=this
    .obtain⟨c,hm⟩:=CL (n:=(s.heap.push {cls:=.type "dict",data:=.dict #[]}).objs.size) (acc:=gr X.env.cells scope.names []) (ko e);obtain⟨c',e'⟩:=mem_lookup hm;exact⟨c',by rw[ip];exact e'⟩
    obtain⟨c,h1,_⟩:=look e;exists c,h1
   obtain hy|hy:=hy
   .exact key _ hy (.inl G)
   exact key _ hy (.inr G)
  .have z:(scope.names.lookup y==I UI)=aa:=z;have z:scope.names.lookup y=I .cell:=by simpa using z
   have e:bd.cells.lookup y=I c:=e;rw[ip]at e;obtain hm|⟨_,h2,_⟩:=v8 (ko e)
   .obtain hm|⟨h1,_⟩:=zg hm
    .cases hm
    have q:=ok.uniq _ h1;rw[z]at q;cases q
   rw[iL]at h2;exact Ij h2
  .show b≠bd.locals;rw[hL];exact d_ (mf b hb).2
  .have e:bd.cells.lookup y=I c:=e;obtain⟨h1,_⟩|⟨h1,_⟩:=mem e
   .exact(mf b hb).1.2.2.2.2.1 y c h1 z
   have h2:s.heap.objs.size+1<=b:=by rw[<-z];exact h1
   exact aU (gQ (mf b hb).2 (Ij h2)) (kh _)
  .obtain z|z:=(mf b hb).1.2.2.2.1
   .exact ab.ok.vJ b o e z
   exact aU (gQ (cH e) (cX ab.ok.nD z)) (kh _)
  obtain z|z:=bh.mp (ab.B9 b z)
  .exact(mf b hb).1.2.1 z
  exact(mf b hb).1.2.2.1 z
 refine⟨YJ,G,ab.bare,Un.kept kp,⟨λ_=>ak,?_,λi y YK e1 e2 e3=> ?_⟩,λy c e=> ?_,?_,λy c e=> ?_,λp hp=> ?_,ab.aQ.kept kp,by rw[CO];exact ab.len⟩
 .show Heap.Ns _ bd.locals _;rw[hL];exact Heap.Ns.keeps (Heap.Ns.new ..) λb o e=>Ii _ _ _ _ e
 .obtain⟨e2,aw⟩:=CP e2
  have oI:scope.names.lookup y=I .free/\(bd.kindOf y=I .cell\/bd.kindOf y=I .free):=by
   have key:∀k,bd.scope.names.lookup y=I k->k= .local\/k= .cell\/k= .free->scope.names.lookup y=I .free/\(bd.kindOf y=I .cell\/bd.kindOf y=I .free):=λk hk Qr=>by
    have Ld:=hk;rw[Qb]at hk;obtain⟨k',e,r⟩:=CN hk
    have no:¬(k'= .local\/k'= .cell):=λhh=>by
     obtain e'|e':=ok.own _ (ko e) hh
     .obtain⟨p,hp,YL⟩:=b7.mp e';have e3:=ok.YH p hp;have:p.1=y:=YL;rw[this]at e3;exact aw (b7.mpr ⟨p,hp,B_ hN e3 e1⟩)
     exact e' (bN e1)
    obtain rfl|⟨rfl,rfl⟩:=r
    .obtain rfl|rfl|rfl:=Qr
     .exact aU (.inl G) no
     .exact aU (.inr G) no
     exists e,.inr Ld
    exists e,.inl Ld
   have e3:rg bd.scope y:=e3;obtain e3|e3|e3:=e3
   .exact key _ e3 (.inl G)
   .exact key _ e3 (.inr (.inl G))
   exact key _ e3 (.inr (.inr G))
  obtain⟨m,hn,hl⟩:=ab.loc;have YM:rg X.env.scope y:=(ok.free _ (ko oI.1) G).elim (λk=>.inr (.inl k)) (λk=>.inr (.inr k));obtain⟨w,r,q⟩:=hl i y YK e1 e2 YM;exists w,r,.inr ⟨oI.2,?_⟩;obtain⟨c,h1,h2⟩:=look oI.1;obtain⟨k,_⟩|⟨_,c',e',z⟩:=q
  .have k:X.env.scope.names.lookup y=I .local:=k;obtain k'|k':=ok.free _ (ko oI.1) rfl<;>rw[show X.env.scope.names.lookup y=_ from k']at k<;>cases k
  rw[h2]at e';cases e';exists c,h1,z.keeps kp
 .have e:bd.cells.lookup y=I c:=e;obtain⟨h1,_⟩|⟨_,z⟩:=mem e
  .obtain⟨w,z⟩:=ab.cell y c h1;exists w,z.keeps kp
  exists _,z
 .show H bd.locals=ak;rw[hL];exact ab.aQ.fresh (aZ _)
 .have e:bd.cells.lookup y=I c:=e;obtain⟨h1,_⟩|⟨h1,_⟩:=mem e
  .exact ab.je y c h1
  exact ab.aQ.fresh (Ij h1)
 exact aU (show p∈([]:M (af×bA))++[] from hp) (by simp)
variable{y:V}
def YN{D:af}{v:aq}(ab:Inv X pins σ H s)(hD:H D=I (.lst xs))(hz:xs.length<sizeLine)(r:RelV y v)
  (h:∀s',Inv X pins σ (upd H D (.lst (xs++[y]))) s'->Q .none s'):aJ (aL X.prog X.w) X.A (call (.builtin "list.append") [.ref D,v]) Q E s:=by
 obtain⟨hJ,ad,n,Le,e⟩:=ab.aQ D _ hD;have hl:=Le.length;refine append_at e λh' sb c9=> ?_;refine h {s with heap:=h'} (ab.write (t':=s.toks) (by rw[hD];trivial) (.inl G) (λb u hb q=>(sb.2 b hb).trans q) ⟨_,c9⟩ ⟨by rw[bD];exact hz,ad++[v],n+1,Le.append (.cons r .nil),?_⟩);rw[c9];simp
def v_(X:Cx)(et:M bE)(t:TT):Prop:=
 ∀(pins:M (af×bA))(s:aI)(σ:St)(H:Hp)(Q:Bool->Hp->Prop),Inv X pins σ H s->t σ H Q->
  aJ (aL X.prog X.w) X.A (forIn et aa λc r=>if r=aa then do let ok<-xO c X.env (eval c X.env);pure (x7 ok)else pure (x7 r)) (TP X pins σ Q) X.xe s
def YO:TT:=λ_ H Q=>Q aa H
def iP:v_ X [] YO:=λ_ _ _ H _ ab h=>wpAny_tests_nil ⟨H,ab,h⟩
variable{c:bE}
def j3{t:TT}(h:PT X c t):v_ X [c] t:=λpins s σ H Q ab hw=>wpAny_tests_one (h pins s σ H Q ab hw)
def tZ{t:jS α}{Q Q':α->aI->Prop}(h:aJ a5 A t Q (λ_ _=>False) s)(hQ:∀a s,Q a s->Q' a s):aJ a5 A t Q' E s:=k7 h hQ λ_ _ z=>ju z
variable{fv iter:bE}{et:M bE}
def YQ{R:u0->aI->Prop}{ra:bE}{it acc:aq}(ab:Nat->aI->Prop)
  (turn:∀n s,ab n s->aJ (aL prog w) A (lZ it) (λr s₁=>match r with
   |none=>R (.ok .next) s₁|some v=>aJ (aL prog w) A (Um ra it v) (λ_ s₁'=>aJ (aL prog w) A (A4 ra env v) (λ_ s₂=>
     aJ (aL prog w) A (forIn et aa λc r=>if r=aa then do let ok<-xO c env (eval c env);pure (x7 ok)else pure (x7 r)) (λok s₃=>
      if ok=aa then aJ (aL prog w) A (eval fv env) (λx s₄=>
       aJ (aL prog w) A (call (.builtin "list.append") [acc,x]) (λ_ s₅=>∃m,m<n/\ab m s₅) (x8 (aL prog w) A env λe s'=>R (.error e) s') s₄) (x8 (aL prog w) A env λe s'=>R (.error e) s') s₃
      else∃m,m<n/\ab m s₃) (x8 (aL prog w) A env λe s'=>R (.error e) s') s₂) (x8 (aL prog w) A env λe s'=>R (.error e) s') s₁') (x8 (aL prog w) A env λe s'=>R (.error e) s') s₁) (x8 (aL prog w) A env λe s'=>R (.error e) s') s)
  (n:Nat)(h:ab n s):
  l0 (aL prog w) A (.compLoop (.ListComp fv [⟨ra,iter,et,0⟩] scope pos) 0 it acc env) R s:=by
 refine codeAny_loop G ab (λn s hI=> ?_) n h;show aJ _ A ((compTurn (.ListComp fv [⟨ra,iter,et,0⟩] scope pos) 0 it acc env).onRaise (λx=>do noteFrame x env;theTreesLotGoes x)) _ _ s;refine wpAny_noted ?_;rw[compTurn_list];refine aA (wpAny_standAt (aA (k7 (turn n s hI) (λr s₁ h₁=> ?_) λ_ _ h'=>h')));cases r with
 |none=>exact aN h₁
 |some v=>
  refine aA (k7 h₁ (λ_ s₁' h₁'=> ?_) λ_ _ h'=>h');refine aA (k7 h₁' (λ_ s₂ h₂=>aA (k7 h₂ (λok s₃ h₃=> ?_) λ_ _ h'=>h')) λ_ _ h'=>h');cases ok with
  |false=>exact aN ⟨G,h₃⟩
  |true=>exact aA (aA (k7 h₃ (λx s₄ h₄=>aA (k7 h₄ (λ_ s₅ h₅=>aN (aN ⟨G,h₅⟩)) λ_ _ h'=>h')) λ_ _ h'=>h'))
def mL(wi:TI)(g:TG)(tt:TT)(te:TE)(vs:M Nat):TE:=λσ H Q=>wi σ H λJ H1=>∀D,H1 D=ak->∃W:Nat->Nat->Hp->Prop,(∃m,W 0 m (upd H1 D (.lst [])))/\∀i m H,W i m H->
 (J.stop i H/\Q (.ref D) H)\/(J.go i H/\∃Nx:Hp->Prop,(∀U,Nx U->∃m',m'<m/\W (i+1) m' U)/\∀x U,J.iD i H x U->g x (wipe σ vs) U λσ2 H2=>wipe σ2 vs=wipe σ vs/\tt σ2 H2 λb H3=>
  if b=aa then te σ2 H3 λy H4=>∃acc,H4 D=I (.lst acc)/\acc.length<sizeLine/\Nx (upd H4 D (.lst (acc++[y])))else Nx H3)
variable{tg:bE}{d4:fG}{wi:TI}{g:TG}{tt:TT}
def Lf{Q:VK}{use:aG (aq->jS Unit)}{Qf:aq->aI->Prop}
  (hc:X.calm=aa)(hN:X.N.Nodup)(ab:Inv X pins σ H s)(hi:PI X tg iter wi)(ok:v9 X.N X.env.scope scope own)
  (hg:∀(s:aI)(H:Hp)(C:af)(cl:M (aj×af))(fp:M af),PG (X.g6 s H scope (l_ scope cl C X.env) fp) tg g)(ht:∀(s:aI)(H:Hp)(C:af)(cl:M (aj×af))(fp:M af),v_ (X.g6 s H scope (l_ scope cl C X.env) fp) et tt)
  (he:∀(s:aI)(H:Hp)(C:af)(cl:M (aj×af))(fp:M af),PE (X.g6 s H scope (l_ scope cl C X.env) fp) fv te)(hs:∀x,HX iter X.env x=pure x)
  (h:mL wi g tt te (own.map (·.2)) σ H Q)
  (YR:∀D C s' m U,Inv X pins σ U s'->Q (.ref D) U->s'.heap.Ns C m->lE X pins U C->UJ (aL X.prog X.w) X.A X.xe use Qf (.ref D) C (.ok .next) s'):
  aJ (aL X.prog X.w) X.A (comprehension (.ListComp fv [⟨tg,iter,et,0⟩] scope pos) scope X.env d4 (newList []) ao (eval iter X.env) use) Qf X.xe s:=by
 have q0:∀y∈scope.names,y.2= .free->∃c,X.env.cells.lookup y.1=I c:=λy hy e=>by
  obtain k|k:=ok.free y hy e
  .exact ab.ok.has _ (.inl k)
  exact ab.ok.has _ (.inr k)
 refine wpAny_comprehension_free G hs (YF q0) ok.kind (λy hy e=>by rw[ok.uniq y hy,e])
  (a_ (hi pins s σ H _ ab h) λama s1 hx=>a_ hx λNM s2 h2=> ?_)
 obtain⟨it,fp,tn,J,H2,e,I2,T,Cl,f2,q⟩:=h2;subst e;refine jv (YG ?_) (by show 0<=sizeLine;decide);generalize hD:s2.heap.objs.size=D;have YS:=I2.aQ.fresh (A5 hD);obtain⟨W,⟨m4,w0⟩,turn⟩:=q D YS;generalize Lg:({s2 with heap:=s2.heap.push {cls:=.type "list",data:=.seq ([]:M aq).toArray}}:aI)=s3
 have I3:Inv X pins σ (upd H2 D (.lst [])) s3:=by rw[<-Lg];refine I2.laid (t':=s2.toks) (λb o e=>cu _ e) (A5 hD) ⟨b6 _,[],0,.nil,?_⟩;rw[<-hD];exact di _ G
 have h3:s3.heap=s2.heap.push {cls:=.type "list",data:=.seq ([]:M aq).toArray}:=by rw[<-Lg]
 have sz:∀b∈fp,b<s2.heap.objs.size:=λb hb=>by obtain⟨o,e,_⟩:=T.obj _ _ Cl b hb;exact cH e
 have f3:∀b∈fp,lE X pins (upd H2 D (.lst [])) b/\b<s3.heap.objs.size:=λb hb=>by have al:=sz b hb;refine⟨⟨?_,(f2 b hb).2⟩,by rw[h3,iL];exact qI al⟩;rw[aD (by rw[<-hD];exact d_ al)];exact(f2 b hb).1
 have Da:tn 0 s3.heap:=T.keep _ _ _ Cl λb _ o e=>by rw[h3];exact cu _ e
 have I4:=YI I3 ok hN f3;have pg:=hg s3 (upd H2 D (.lst [])) s3.heap.objs.size (gS (s3.heap.objs.size+1) scope.names (gr X.env.cells scope.names [])) fp;have pt:=ht s3 (upd H2 D (.lst [])) s3.heap.objs.size (gS (s3.heap.objs.size+1) scope.names (gr X.env.cells scope.names [])) fp;have QP:=he s3 (upd H2 D (.lst [])) s3.heap.objs.size (gS (s3.heap.objs.size+1) scope.names (gr X.env.cells scope.names [])) fp;show l0 _ _ (.compStart (.ListComp fv [⟨tg,iter,et,0⟩] scope pos) 0 (.ref it) (.ref D) (l_ scope (gS (s3.heap.objs.size+1) scope.names (gr X.env.cells scope.names [])) s3.heap.objs.size X.env)) (UJ (aL X.prog X.w) X.A X.xe use Qf (.ref D) s3.heap.objs.size) {s3 with heap:=sN (s3.heap.push {cls:=.type "dict",data:=.dict #[]}) scope.names};have Lh:∀b∈fp,(upd H2 D (.lst [])) b=ak:=λb hb=>(f3 b hb).1.1;generalize ky:l_ scope (gS (s3.heap.objs.size+1) scope.names (gr X.env.cells scope.names [])) s3.heap.objs.size X.env=ce at I4 pg pt QP⊢;have Li:ce.locals=s3.heap.objs.size:=by subst ky;rfl
 generalize hH3:upd H2 D (.lst [])=H3 at I3 I4 pg pt QP w0 Lh f3;generalize YT:({s3 with heap:=sN (s3.heap.push {cls:=.type "dict",data:=.dict #[]}) scope.names}:aI)=s4 at I4⊢;have Lj:tn 0 s4.heap:=T.keep _ _ _ Da λb _ o e=>by rw[<-YT];exact Ii _ _ _ _ (cu _ e)
 have nn:∀{σ':St}{U:Hp}{s':aI},Inv (X.g6 s3 H3 scope ce fp) [] σ' U s'->(∀b∈fp,U b=ak)->∀b∈fp,lE (X.g6 s3 H3 scope ce fp) [] U b:=λ{σ' U s'}I' hn b hb=>
  ⟨hn b hb,(I'.ok.yP b hb).1,I'.ok.tO b hb,.inl hb,λx c e=>(I'.ok.yP b hb).2 x c e,λp hp=>aU (show p∈([]:M (af×bA))++[] from hp) (by simp)⟩
 have loop:l0 (aL X.prog X.w) X.A (.compLoop (.ListComp fv [⟨tg,iter,et,0⟩] scope pos) 0 (.ref it) (.ref D) ce) (UJ (aL X.prog X.w) X.A X.xe use Qf (.ref D) s3.heap.objs.size) s4:=by
  refine YQ (λn s'=>∃i U,Inv (X.g6 s3 H3 scope ce fp) [] (wipe σ (own.map (·.2))) U s'/\tn i s'.heap/\(∀b∈fp,U b=ak)/\W i n U) ?_ m4 ⟨0,H3,I4,Lj,Lh,w0⟩;rintro n s5⟨i,H5,I5,rb,D1,YU⟩;obtain⟨stop,YV⟩|⟨go,Nx,mi,step⟩:=turn i n H5 YU
  .have td:=T.done (X.g6 s3 H3 scope ce fp) G G G hc i [] s5 _ H5 (λ_ _=>False) I5 (nn I5 D1) rb stop;refine tZ td λr s6⟨hr,I6⟩=> ?_;subst hr;have I7:Inv X pins σ H5 s6:=I3.WE (ch:=fp) I6.os I6.ai I6.aQ I6.bare λb hb=>⟨(f3 b hb).1.2.2.2.1,(f3 b hb).1.2.1,(f3 b hb).1.2.2.2.2.1,(f3 b hb).1.2.2.2.2.2⟩
   have YW:H5 s3.heap.objs.size=ak:=by have z:H5 ce.locals=ak:=I6.free;rw[Li]at z;exact z
   obtain⟨m,hn,_⟩:=I6.loc;have hn:s6.heap.Ns ce.locals m:=hn;rw[Li]at hn;exact YR D s3.heap.objs.size s6 m H5 I7 YV hn (I3.tQ (aZ _) YW)
  have ti:=T.item (X.g6 s3 H3 scope ce fp) G G G hc i [] s5 _ H5 (λ_ _=>False) I5 (nn I5 D1) rb go;refine tZ ti λr s6⟨u,hr,h6⟩=> ?_;subst hr;refine tZ h6 λ_ s7⟨x,H7,I7,u1,YX,QQ,nr⟩=> ?_;have YY:=I7.pinned (nn I7 nr) (T.obj _ _ QQ);refine tZ (pg _ s7 _ H7 x u _ YY u1 (step x H7 YX)) λ_ rp⟨σ8,H8,YZ,Lk,wa⟩=> ?_;refine tZ (pt _ rp σ8 H8 _ YZ wa) λb s9⟨H9,Ll,q9⟩=> ?_
  have fin:∀{s':aI}{U:Hp},Inv (X.g6 s3 H3 scope ce fp) ([]++vS fp s7.heap) σ8 U s'->Nx U->∃m,m<n/\∃i U,Inv (X.g6 s3 H3 scope ce fp) [] (wipe σ (own.map (·.2))) U s'/\tn i s'.heap/\(∀b∈fp,U b=ak)/\W i m U:=λ{s' U}I' nx=>by
   obtain⟨m',hm,w'⟩:=mi U nx
   have Lm:∀b∈fp,∀o,s7.heap.get? b=I o->s'.heap.get? b=I o/\U b=ak:=λb hb o e=>
    let z:=I'.pin (b,o) (ki _ (ki _ (Cj hb e)))
    ⟨z.1,z.2.1⟩
   have hl:(wipe σ (own.map (·.2))).length=σ8.length:=by rw[<-Lk,CO]
   exists m',hm,i+1,U,(I'.yV (pins:=[])).weak hl (λj v e=> ?_),T.keep _ _ _ QQ λb hb o e=>(Lm b hb o e).1,λb hb=> ?_,w'
   .rw[<-Lk]at e;exact(CP e).1
   obtain⟨o,e,_⟩:=T.obj _ _ QQ b hb;exact(Lm b hb o e).2
  cases b with
  |false=>simp only[sO,l6]at q9⊢;exact fin Ll q9
  |true=>simp only[l5]at q9⊢;refine tZ (QP _ s9 σ8 H9 _ Ll q9) λz s10⟨amb,H10,Y0,Y3,acc,Y4,Ee,nx⟩=> ?_;exact YN (X:=X.g6 s3 H3 scope ce fp) Y0 Y4 Ee Y3 λs11 Y5=>fin Y5 nx
 exact codeAny_compStart_list loop (T.self X.A 0 _ _ _ Lj loop)
def fM(hc:X.calm=aa)(hN:X.N.Nodup)(hi:PI X tg iter wi)(ok:v9 X.N X.env.scope scope own)
  (hg:∀(s:aI)(H:Hp)(C:af)(cl:M (aj×af))(fp:M af),PG (X.g6 s H scope (l_ scope cl C X.env) fp) tg g)(ht:∀(s:aI)(H:Hp)(C:af)(cl:M (aj×af))(fp:M af),v_ (X.g6 s H scope (l_ scope cl C X.env) fp) et tt)
  (he:∀(s:aI)(H:Hp)(C:af)(cl:M (aj×af))(fp:M af),PE (X.g6 s H scope (l_ scope cl C X.env) fp) fv te)(hs:∀x,HX iter X.env x=pure x:=by intro _;rfl):
  PE X (.ListComp fv [⟨tg,iter,et,0⟩] scope pos) (mL wi g tt te (own.map (·.2))):=by
 intro pins s σ H Q ab h;rw[eval_ListComp];refine Lf hc hN ab hi ok hg ht he hs h λD C s' m U I' q hn f=>⟨m,hn,λrs sb=> ?_⟩;obtain⟨f0,f1,f2,f3,f4,f5⟩:=f;exists .ref D,U,I'.turned (t':=s'.toks) (λb o hb e=>(sb.2 b hb).trans e) f0 f1 f3 f4 f5,G,q
variable{i:Nat}
def rG{y:aj}{py:fG}{Ln:fG}(hc:X.calm=aa)(hN:X.N.Nodup)(hy:X.N[i]? =I y)(cf:X.env.scope.names.lookup y=I .local)
  (Y6:xP (.ListComp fv [⟨tg,iter,et,0⟩] scope pos) (I (.Name y py)) Ln.line X.env=pure aa)(hi:PI X tg iter wi)(ok:v9 X.N X.env.scope scope own)
  (hg:∀(s:aI)(H:Hp)(C:af)(cl:M (aj×af))(fp:M af),PG (X.g6 s H scope (l_ scope cl C X.env) fp) tg g)(ht:∀(s:aI)(H:Hp)(C:af)(cl:M (aj×af))(fp:M af),v_ (X.g6 s H scope (l_ scope cl C X.env) fp) et tt)
  (he:∀(s:aI)(H:Hp)(C:af)(cl:M (aj×af))(fp:M af),PE (X.g6 s H scope (l_ scope cl C X.env) fp) fv te)(hs:∀x,HX iter X.env x=pure x:=by intro _;rfl):
  PS X (.Assign [.Name y py] (.ListComp fv [⟨tg,iter,et,0⟩] scope pos) Ln) (kK (mL wi g tt te (own.map (·.2))) (jC i)):=by
 intro pins s σ H D ab h;rw[exec_Assign_Name_used _ _ _ _ Y6];refine aA (wpAny_standAt (aA ?_));have h:=h;refine aA (a_ (Lf hc hN ab hi ok hg ht he hs h λL C s' m U I' q hn f=> ?_) λ_ s' hq=>aN (aN hq));refine ajI (J4 (v:=V.ref L) I' hN hy (.inl cf) G (λs2 I2⟨a,sb,ha⟩=> ?_) (.inr cf));obtain⟨f0,f1,f2,f3,f4,f5⟩:=f
 have Y7:C≠a:=by
  obtain z|z:=ha
  .rw[z];exact f1
  exact λe=>f4 y a z e.symm
 exists m,hn.sameBut sb Y7,λh3 Y8=>⟨_,U,I2.turned (t':=s2.toks) (λb o hb e=>(Y8.2 b hb).trans e) f0 f1 f3 f4 f5,q⟩
section
variable{κ:Type} [DecidableEq κ]
def dB(ae:M (κ×V))(k:κ):aG V:=(ae.find? λkv=>decide (kv.1=k)).map (·.2)
noncomputable def putK(ae:M (κ×V))(k:κ)(v:V):M (κ×V):=if(ae.any λkv=>decide (kv.1=k))=aa then ae.map (λkv=>if kv.1=k then(kv.1,v)else kv)else ae++[(k,v)]
variable{p:κ×V}{r:M (κ×V)}
def wc{k:κ}(e:p.1=k):dB (p::r) k=I p.2:=by simp[dB,iw,e]
def we{k:κ}(e:¬p.1=k):dB (p::r) k=dB r k:=by simp[dB,iw,e]
theorem zj(k:κ):∀ae:M (κ×V),(ae.any λkv=>decide (kv.1=k))=(dB ae k).isSome
 |[]=>rfl|p::r=>by
  rw[n8];by_cases e:p.1=k
  .simp only[wc e,aP e,ake,UH]
  rw[we e,aV e,Bk];exact zj k r
theorem Lp(ae:M (κ×V))(k:κ)(v:V):(putK ae k v).length<=ae.length+1:=by
 unfold putK;split
 .rw[aE];lia
 rw[bD,bT,ng];lia
variable{ae:M (κ×V)}
def Lq{k:κ}(v:V)(h:dB ae k=ak):putK ae k v=ae++[(k,v)]:=by unfold putK;rw[zj,h];exact au (by decide)
def jd.zk{o:aG V}{u:aG aq}(r:jd o u):o.isSome=u.isSome:=by
 cases o with
 |none=>cases u with
  |none=>rfl|some _=>exact(r).elim
 |some _=>cases u with
  |none=>exact(r).elim|some _=>rfl
variable{vs:M (κ×aq)}
def KV.val(r:KV ae vs)(k:κ):jd (dB ae k) (x9 vs k):=by
 induction r with
 |nil=>exact xR
 | @cons p q ps qs h t ih=>
  obtain⟨h1,h2⟩:=h;by_cases e:p.1=k
  .have e':=h1.symm.trans e;have b:x9 (q::qs) k=I q.2:=by simp[x9,iw,e']
   rw[wc e,b];exact h2
  have e':¬q.1=k:=λz=>e (h1.trans z);have b:x9 (q::qs) k=x9 qs k:=by simp[x9,iw,e']
  rw[we e,b];exact ih
def KV.any{ae:M (κ×V)}{vs:M (κ×aq)}(r:KV ae vs)(k:κ):(ae.any λkv=>decide (kv.1=k))=vs.any λkv=>decide (kv.1=k):=by
 induction r with
 |nil=>rfl
 |cons h t ih=>rw[n8,n8,ih,h.1]
variable{u:aq}
def KV.CQ(r:KV ae vs)(k:κ)(ry:RelV y u):
  KV (ae.map λkv=>if kv.1=k then(kv.1,y)else kv) (vs.map λkv=>if kv.1=k then(kv.1,u)else kv):=by
 induction r with
 |nil=>exact .nil
 | @cons p q ps qs h t ih=>
  rw[b9,b9];refine .cons ?_ ih;obtain⟨h1,h2⟩:=h;by_cases e:p.1=k
  .rw[av e,av (h1.symm.trans e)];exists h1,ry
  rw[au e,au (λz=>e (h1.trans z))];exists h1,h2
def KV.put(r:KV ae vs)(k:κ)(ry:RelV y u):KV (putK ae k y) (stored vs k u):=by
 unfold putK stored;rw[r.any k];by_cases e:(vs.any λkv=>decide (kv.1=k))=aa
 .rw[av e,av e];exact r.CQ k ry
 rw[au e,au e];exact akf r ⟨G,ry⟩
def KV.keys(r:KV ae vs):ae.map (·.1)=vs.map (·.1):=by
 induction r with
 |nil=>rfl
 |cons h t ih=>rw[b9,b9,ih,h.1]
def KV.length{ae:M (κ×V)}{vs:M (κ×aq)}(r:KV ae vs):ae.length=vs.length:=sD r
end
variable{P:bY}{u:aq}
def t6{k:Key}(r:RelV (kV k) u):(iN P w).is k u=aa:=by
 cases k with
 |inl i=>obtain⟨t,e⟩:=(r);subst e;exact Wo P w i t
 |inr x=>obtain⟨t,e⟩:=(r);subst e;exact B6 P w x t
theorem Lr{P:bY}{w:bR}:∀{ks:M Key}{us:M aq},Vals (ks.map kV) us->ItemsAre (iN P w) ks us
 |[],_,r=>by rw[xW]at r;cases r;exact .nil
 |k::ks,_,r=>by
  rw[b9]at r;cases r with
  |cons h t=>exact .cons (t6 h) (Lr t)
abbrev KT(H:Hp):M (M Key×V)->M (M Key×af×aq)->Prop:=Paired λp q=>p.1=q.1/\H q.2.1=I (.tup (p.1.map kV))/\RelV p.2 q.2.2
variable{ae:M (M Key×V)}{xs:M (M Key×af×aq)}
def KT.val(r:KT H ae xs)(k:M Key):jd (dB ae k) ((sP xs k).map (·.2)):=by
 induction r with
 |nil=>exact xR
 | @cons p q ps qs h t ih=>
  obtain⟨h1,_,h2⟩:=h;by_cases e:p.1=k
  .have e':=h1.symm.trans e;have b:sP (q::qs) k=I q.2:=by simp[sP,iw,e']
   rw[wc e,b];exact h2
  have e':¬q.1=k:=λz=>e (h1.trans z);have b:sP (q::qs) k=sP qs k:=by simp[sP,iw,e']
  rw[we e,b];exact ih
def KT.CQ(r:KT H ae xs)(k:M Key)(ry:RelV y u):
  KT H (ae.map λkv=>if kv.1=k then(kv.1,y)else kv) (xs.map (putAt k u)):=by
 induction r with
 |nil=>exact .nil
 | @cons p q ps qs h t ih=>
  rw[b9,b9];refine .cons ?_ ih;obtain⟨h1,h2,h3⟩:=h;unfold putAt;by_cases e:p.1=k
  .rw[av e,av (h1.symm.trans e)];exists h1,h2,ry
  rw[au e,au (λz=>e (h1.trans z))];exists h1,h2,h3
variable{b:af}
def KT.put(r:KT H ae xs)(k:M Key)(hb:H b=I (.tup (k.map kV)))(ry:RelV y u):
  KT H (putK ae k y) (storedH xs k b u):=by
 have e:(ae.any λkv=>decide (kv.1=k))=(sP xs k).isSome:=by rw[zj,(r.val k).zk,Bl]
 unfold putK storedH;rw[e];by_cases q:(sP xs k).isSome=aa
 .rw[av q,av q];exact r.CQ k ry
 rw[au q,au q];exact akf r ⟨G,hb,ry⟩
variable{U:Hp}
def KT.keeps(r:KT H ae xs)(ht:∀b ys,H b=I (.tup ys)->U b=I (.tup ys)):KT U ae xs:=Paired.B8 r λ_ _ z=>⟨z.1,ht _ _ z.2.1,z.2.2⟩
variable{h:bB}
def Ls{u:HO}(ok:dP P w H h)(e:Rd H a u):fJ P w H h a u:=e.ok ok
def rH{ae:M (Key×V)}(ok:dP P w H h)(e:Rd H a (.dK ae)):ae.length<=sizeLine/\(a==iK)=ao/\∃vs,KV ae vs/\h.DictOf (iN P w) a vs:=show fJ P w H h a (.dK ae) from Ls ok e
def Y9{ae:M (Key×V)}(ok:dP P w H h)(e:H a=I (.dK ae)):ae.length<=sizeLine/\(a==iK)=ao/\∃vs,KV ae vs/\h.DictOf (iN P w) a vs:=rH ok (.inl e)
def zl{ks:M Key}(ok:dP P w H h)(e:H a=I (.tup (ks.map kV))):(A3 (iN P w)).is h ks a:=by obtain⟨_,ad,r,o,h1,h2,n,h3⟩:=(ok a _ e);exact⟨o,ad.toArray,n,h1,h2,h3,by simpa using Lr r⟩
def wg(ok:dP P w H h)(e:Rd H a (.dT ae)):ae.length<=sizeLine/\(a==iK)=ao/\
  ∃xs,KT H ae xs/\h.DictOfH (A3 (iN P w)) a xs:=by
 obtain⟨z,y,xs,r,o,es,ep,h1,h2,h3,h4,h5⟩:=(Ls ok e);exists z,y,xs,r,o,es,ep,h1,h2,h3,h4,λx hx=> ?_,h5
 have all:∀{l:M (M Key×V)}{m:M (M Key×af×aq)},KT H l m->∀x∈m,(A3 (iN P w)).is h x.1 x.2.1:=by
  intro l m q;induction q with
  |nil=>intro x hx;exact nomatch hx
  | @cons p q ps qs hq t ih=>
   intro x hx;obtain e|hx:=bh.mp hx
   .subst e;exact zl ok (by rw[<-hq.1];exact hq.2.1)
   exact ih x hx
 exact all r x hx
def Y_(ok:dP P w H h)(e:H a=I (.dT ae)):ae.length<=sizeLine/\(a==iK)=ao/\
  ∃xs,KT H ae xs/\h.DictOfH (A3 (iN P w)) a xs:=wg ok (.inl e)
def eH(H:Hp)(a:af)(y:V)(r:aG V):Prop:=(∃ae k,Rd H a (.dK ae)/\y=kV k/\r=dB ae k)\/∃ae k b,Rd H a (.dT ae)/\y= .ref b/\H b=I (.tup (k.map kV))/\r=dB ae k
def mO(H:Hp)(a:af)(y v:V)(U:Hp):Prop:=
 (∃ae k,H a=I (.dK ae)/\y=kV k/\ae.length<sizeLine/\U=upd H a (.dK (putK ae k v)))\/
 ∃ae k b,H a=I (.dT ae)/\y= .ref b/\H b=I (.tup (k.map kV))/\ae.length<sizeLine/\U=upd H a (.dT (putK ae k v))
def eH.k{H:Hp}{a:af}{ae:M (Key×V)}{k:Key}(e:H a=I (.dK ae)):eH H a (kV k) (dB ae k):=.inl ⟨ae,k,.inl e,G,G⟩
def eH.t{k:M Key}(e:H a=I (.dT ae))(eb:H b=I (.tup (k.map kV))):eH H a (.ref b) (dB ae k):=.inr ⟨ae,k,b,.inl e,G,eb,G⟩
def mO.k{H:Hp}{a:af}{ae:M (Key×V)}{k:Key}{v:V}(e:H a=I (.dK ae))(hl:ae.length<sizeLine):mO H a (kV k) v (upd H a (.dK (putK ae k v))):=.inl ⟨ae,k,e,G,hl,G⟩
variable{v:V}
def mO.t{k:M Key}(e:H a=I (.dT ae))(eb:H b=I (.tup (k.map kV)))(hl:ae.length<sizeLine):
  mO H a (.ref b) v (upd H a (.dT (putK ae k v))):=.inr ⟨ae,k,b,e,G,eb,hl,G⟩
def Inv.big(ab:Inv X pins σ H s):iK<s.heap.objs.size:=by have h:=(ab.mod.glob.keeps ab.fy).lt;exact akg (by decide) h
def Za(hu:A.units+1<kj)(ab:Inv X pins σ H s)(g:eH H a y (I v))(ry:RelV y u)(h:∀w' s',Inv X pins σ H s'->RelV v w'->Q w' s'):
  aJ (aL X.prog X.w) A (xX (.ref a) u) Q E s:=by
 obtain⟨ae,k,e,ey,l⟩|⟨ae,k,b,e,ey,eb,l⟩:=g
 .subst ey;obtain⟨z,hd,vs,bo,dd⟩:=rH ab.aQ e;obtain⟨w',hw,hG⟩:=jd.some_of (by rw[l];exact bo.val k);exact akh (t6 ry) dd.mapOf hw (h w' _ (ab.tok _) hG)
 subst ey;cases(ry);obtain⟨z,hd,xs,bo,dd⟩:=wg ab.aQ e;obtain⟨w',hw,hG⟩:=jd.some_of (by rw[l];exact bo.val k);obtain⟨p,hp,kz⟩:=gP.mp hw;refine wpAny_getItem_heap (UK hu) (zl ab.aQ eb) dd hp ?_;rw[kz];exact h w' _ (ab.tok _) hG
variable{o:aG V}
def Zb(hu:A.units+1<kj)(ab:Inv X pins σ H s)(g:eH H a y o)(ry:RelV y u)(h:∀s',Inv X pins σ H s'->Q (.bool (!o.isSome)) s'):
  aJ (aL X.prog X.w) A (e7 .NotIn u (.ref a)) Q E s:=by
 obtain⟨ae,k,e,ey,l⟩|⟨ae,k,b,e,ey,eb,l⟩:=g
 .subst ey;obtain⟨z,hd,vs,bo,dd⟩:=rH ab.aQ e;refine wpAny_notIn_of (t6 ry) hd dd.mapOf ?_;rw[<-(bo.val k).zk,<-l];exact h _ (ab.tok _)
 subst ey;cases(ry);obtain⟨z,hd,xs,bo,dd⟩:=wg ab.aQ e;refine wpAny_notIn_heap (UK hu) (zl ab.aQ eb) hd dd ?_;have q:=(bo.val k).zk;rw[Bl]at q;rw[<-q,<-l];exact h _ (ab.tok _)
variable{h':bB}{ob:HO}
def Lu(ab:Inv X pins σ H s)(mu:pP (H a))(hs:o9 a s.heap h')(he:∃q,h'.get? a=I q)(new:fJ X.prog X.w (upd H a ob) h' a ob):
  Inv X pins σ (upd H a ob) {s with heap:=h',toks:=t'}:=
 ab.write (x:=a) (e:=a) mu (.inl G) (λb q hb z=>(hs.2 b hb).trans z) he new
def Lv{ae:M (Key×V)}{vs:M (Key×aq)}(z:ae.length<=sizeLine)(hd:(a==iK)=ao)(bo:KV ae vs)(dd:h'.DictOf (iN P w) a vs):
  fJ P w U h' a (.dK ae):=⟨z,hd,vs,bo,dd⟩
variable{r:aq}
theorem Zc{Q:Unit->aI->Prop}(hu:A.units+1<kj)(ab:Inv X pins σ H s)(g:mO H a y v U)(ry:RelV y u)(rv:RelV v r)(h:∀s',Inv X pins σ U s'->Q () s'):
  aJ (aL X.prog X.w) A (setItem (.ref a) u r) Q E s:=by
 obtain⟨ae,k,e,ey,l,wf⟩|⟨ae,k,b,e,ey,eb,l,wf⟩:=g
 .subst ey wf;obtain⟨z,hd,vs,bo,dd⟩:=Y9 ab.aQ e;have hz:vs.length<=sizeLine:=by rw[<-bo.length];exact z
  have hl:(putK ae k v).length<=sizeLine:=by have:=Lp ae k v;lia
  refine wpAny_setItem_pairs (t6 ry) dd λh' r0 hs=>h _ ?_;have he:∃q,h'.get? a=I q:=let⟨q,_,_,hq,_⟩:=r0;⟨q,hq⟩;exact Lu ab (by rw[e];exact xR) hs he (Lv hl hd (bo.put k rv) r0)
 subst ey wf;cases(ry);obtain⟨z,hd,xs,bo,dd⟩:=Y_ ab.aQ e;have hz:xs.length<=sizeLine:=by rw[<-sD bo];exact z
 have hl:(putK ae k v).length<=sizeLine:=by have:=Lp ae k v;lia
 refine wpAny_setItem_heap (UK hu) (zl ab.aQ eb) dd λh' r0 hs=>h _ ?_;obtain⟨q,es,ep,hq,h2,h3,h4,_,h5⟩:=r0;refine Lu ab (by rw[e];exact xR) hs ⟨q,hq⟩ ⟨hl,hd,_,(bo.put k eb rv).keeps λc ys ec=> ?_,q,es,ep,hq,h2,h3,h4,h5⟩;rw[aD (iC ec e (λz=>nomatch z))];exact ec
section
variable{X:Cx}{pins:M (af×bA)}{σ:St}{H:Hp}{s:aI}{a:af}{ae:M (Key×V)}{k:Key}{u:aq}{A:eZ}{E:aq->aI->Prop}
theorem Zd(ab:Inv X pins σ H s)(e:Rd H a (.dK ae))(h:∀t s',Inv X pins σ H s'->Q (.int ae.length t) s'):aJ (aL X.prog X.w) A (call (.builtin "len") [.ref a]) Q E s:=by obtain⟨z,hd,vs,bo,dd⟩:=rH ab.aQ e;refine call_len_dict hd dd (by rw[<-bo.length];rw[cY]at z;lia) ?_;rw[<-bo.length];exact h _ _ (ab.tok _)
end
def CR(i:bE):Prop:=∀ov mm,Ib i ao ov mm=Uz [ov,mm] (xX ov mm)
variable{value:bE}
def Lx{slice:bE}{T id:String}(hl:typeLookup (.type T) "__getitem__"=pure (I (.builtin id)))(hs:CR slice)
  (h:aJ (aL prog w) A (eval value env) (λo s₁=>aJ (aL prog w) A (eval slice env) (λi s₂=>s₂.TypeIs o T/\aJ (aL prog w) A (xX o i) Q E s₂) E s₁) E s):
  aJ (aL prog w) A (eval (.Subscript value slice pos) env) Q E s:=by
 refine Uy (k7 h (λo s₁ h₁=>k7 h₁ (λi s₂ h₂=> ?_) λ_ _ x=>x) λ_ _ x=>x);obtain⟨hT,h₂⟩:=h₂;refine aA ?_;rw[getitemInPython_of_ne hT.not_modules];refine aA (aki hT hl ?_)
 have fin:aJ (aL prog w) A (Ib slice ao o i) (λr s₃=>aJ (aL prog w) A (letTemporaryGo value o r>>=λ_=>pure r) Q E s₃) E s₂:=by rw[hs o i];exact wpAny_operating (k7 h₂ (λr s₃ h₃=>aA (wpAny_letTemporaryGo (aN h₃))) λ_ _ x=>x)
 first
  |exact aN (aA fin)|exact aA (aN (aA fin))|exact aA fin
def Ze(ab:Inv X pins σ H s)(g:eH H a y o):s.TypeIs (.ref a) "dict":=by
 obtain⟨ae,k,e,_,_⟩|⟨ae,k,b,e,_,_,_⟩:=g
 .obtain⟨_,_,vs,_,dd⟩:=rH ab.aQ e;exact dd.typeIs
 obtain⟨_,_,xs,_,dd⟩:=wg ab.aQ e;exact dd.typeIs
def Zf(td ty:TE):TE:=λσ H Q=>td σ H λx H1=>ty σ H1 λy H2=>∃a v,x= .ref a/\eH H2 a y (I v)/\Q v H2
def Zg(ty td:TE):TE:=λσ H Q=>ty σ H λy H1=>td σ H1 λx H2=>∃a o,x= .ref a/\eH H2 a y o/\Q (.bl (!o.isSome)) H2
def Ly(td ty tv:TE):TS:=λD σ H=>tv σ H λv H1=>td σ H1 λx H2=>ty σ H2 λy H3=>∃a H4,x= .ref a/\mO H3 a y v H4/\D.nx σ H4
variable{o i:bE}{td ty:TE}
def oH(hu:X.A.units+1<kj)(ho:PE X o td)(hi:PE X i ty)(hs:CR i):PE X (.Subscript o i pos) (Zf td ty):=by intro pins s σ H Q ab h;refine Lx akj.lookup hs (a_ (ho pins s σ H _ ab h) λu s1⟨x,H1,I1,rx,q1⟩=>a_ (hi pins s1 σ H1 _ I1 q1) λmm s2⟨y,H2,I2,ry,a,v,ex,g,q2⟩=> ?_);subst ex;obtain rfl:u=eW a:=rx;exists Ze I2 g,Za hu I2 g ry λw' s3 I3 hG=>⟨v,H2,I3,hG,q2⟩
def zm(hu:X.A.units+1<kj)(hi:PE X i ty)(ho:PE X o td):PC X .NotIn i o (Zg ty td):=by intro pins s σ H Q ab h;refine a_ (hi pins s σ H _ ab h) λmm s1⟨y,H1,I1,ry,q1⟩=>a_ (ho pins s1 σ H1 _ I1 q1) λu s2⟨x,H2,I2,rx,a,ov,ex,g,q2⟩=> ?_;subst ex;obtain rfl:u=eW a:=rx;exact Zb hu I2 g ry λs3 I3=>⟨.bl (!ov.isSome),H2,I3,G,q2⟩
variable{tv:TE}
def CS(hu:X.A.units+1<kj)(ho:PE X o td)(hi:PE X i ty)(hv:PE X value tv)(hs:xP value (I (.Subscript o i d4)) pos.line X.env=pure ao):
  PS X (.Assign [.Subscript o i d4] value pos) (Ly td ty tv):=by
 intro pins s σ H D ab h;refine wpAny_Assign_Subscript (a_ (hv pins s σ H _ ab h) λr s1⟨v,H1,I1,rv,q1⟩=>a_ (ho pins s1 σ H1 _ I1 q1) λu s2⟨x,H2,I2,rx,q2⟩=>a_ (hi pins s2 σ H2 _ I2 q2) λmm s3⟨y,H3,I3,ry,a,H4,ex,g,q3⟩=> ?_) hs;subst ex;obtain rfl:u=eW a:=rx;exact Zc hu I3 g ry rv λs4 I4=>⟨σ,H4,I4,q3⟩
def Zh(h:bB)(hb:iK<h.objs.size):fJ P w H (h.push {cls:=.type "dict",data:=.dict #[]}) h.objs.size (.dK []):=⟨b6 _,gB.mpr (ie (d_ hb)),[],.nil,am2 h⟩
def Zi(h:bB)(hb:iK<h.objs.size):fJ P w H (h.push {cls:=.type "dict",data:=.dict #[]}) h.objs.size (.dT []):=⟨b6 _,gB.mpr (ie (d_ hb)),[],.nil,_,#[],0,di _ G,⟨G,G,G⟩,G,G,akk⟩
def Zj:TE:=λ_ H Q=>∀p,H p=ak->Q (.ref p) (upd H p (.dK []))
def Zk:TE:=λ_ H Q=>∀p,H p=ak->Q (.ref p) (upd H p (.dT []))
def Lz:PE X (.Dict [] [] pos) Zj:=λpins s σ H Q ab h=>akl ⟨.ref s.heap.objs.size,_,ab.laid (a:=s.heap.objs.size) (o:=.dK []) (t':=s.toks) (λ_ _ q=>cu _ q) (aZ _) (Zh s.heap ab.big),G,h _ (ab.aQ.fresh (aZ _))⟩
def Zl:PE X (.Dict [] [] pos) Zk:=λpins s σ H Q ab h=>akl ⟨.ref s.heap.objs.size,_,ab.laid (a:=s.heap.objs.size) (o:=.dT []) (t':=s.toks) (λ_ _ q=>cu _ q) (aZ _) (Zi s.heap ab.big),G,h _ (ab.aQ.fresh (aZ _))⟩
variable{ae:M (Key×V)}
def Zm(ab:Inv X pins σ H s)(e:Rd H a (.dK ae))(h:∀p s',H p=ak->Inv X pins σ (upd H p (.dK ae)) s'->Q (.ref p) s'):aJ (aL X.prog X.w) A (call (.type "dict") [.ref a]) Q E s:=by obtain⟨z,hd,vs,bo,dd⟩:=rH ab.aQ e;refine kt_call_dict hd dd (by rw[<-bo.length];exact z) λh' r0 hs=> ?_;exact h _ _ (ab.aQ.fresh (aZ _)) (ab.laid (a:=s.heap.objs.size) (o:=.dK ae) (t':=s.toks) (λb q hq=>(hs.2 b (d_ (cH hq))).trans (cu _ hq)) (aZ _) (Lv z (gB.mpr (ie (d_ ab.big))) bo r0))
def Zn:jt "reversed"=I (.type "reversed"):=by decide+kernel
variable{ch:M af}
def Inv.LA(ab:Inv X pins σ H s)(k:∀b o,b∉ch->s.heap.get? b=I o->h'.get? b=I o)(hf:∀b∈ch,lE X pins H b):Inv X pins σ H {s with heap:=h',toks:=t'}:=by
 have mc:∀b u,H b=I u->b∉ch:=λb u e z=>by have q:=(hf b z).1;rw[q]at e;cases e
 refine ab.step (g':=s.gens) (d':=s.drawn) (λb hb=>⟨(hf b hb).2.2.2.1,(hf b hb).2.1,(hf b hb).2.2.2.2.1,(hf b hb).2.2.2.2.2⟩) (λb o _ _ hc e _=>k b o hc e) (λb o _ _ hc e _=>⟨o.slots,k b o hc e⟩)
  (λ_ _ _ _ n=>n) (λb o hc e=>⟨o,k b o hc e⟩) (λ_ _ e=>e) (λ_ _ _ e=>e) (λb ps e=>⟨#[],by rw[e];simp⟩) (λm hm=> ?_) (λb u e=> ?_) ab.bare
 .obtain⟨o,es,ep,ho,r⟩:=hm;exists o,es,ep,k _ o (λz=>(hf _ z).2.1 G) ho,r
 refine(ab.aQ b u e).lB (λc v hc q=>k c v ?_ q) (λ_ q=>q) λ_ _ q=>q;obtain z|z:=hc
 .rw[z];exact mc b u e
 exact mc c _ z
def Inv.LB{T:af}(ab:Inv X pins σ H s)(k:∀b o,b∉ch->s.heap.get? b=I o->h'.get? b=I o)(hf:∀b∈ch,lE X pins H b)(hT:s.heap.objs.size<=T)
  (new:fJ X.prog X.w (upd H T ob) h' T ob):Inv X pins σ (upd H T ob) {s with heap:=h',toks:=t'}:=by
 have hn:=ab.aQ.fresh hT
 have mc:∀b u,H b=I u->b∉ch:=λb u e z=>by have q:=(hf b z).1;rw[q]at e;cases e
 refine ab.step (g':=s.gens) (d':=s.drawn) (λb hb=>⟨(hf b hb).2.2.2.1,(hf b hb).2.1,(hf b hb).2.2.2.2.1,(hf b hb).2.2.2.2.2⟩) (λb o _ _ hc e _=>k b o hc e) (λb o _ _ hc e _=>⟨o.slots,k b o hc e⟩)
  (λb o _ e n=> ?_) (λb o hc e=>⟨o,k b o hc e⟩) (λb xs e=> ?_) (λb o u e=> ?_) (λb ps e=>⟨#[],?_⟩) (λm hm=> ?_) (λb u e=> ?_) ab.bare
 .rw[aD (d_ (gQ (cH e) hT))];exact n
 .rw[aD (b_ e hn)];exact e
 .rw[aD (b_ e hn)];exact e
 .rw[aD (b_ e hn),e];simp
 .obtain⟨o,es,ep,ho,r⟩:=hm;exists o,es,ep,k _ o (λz=>(hf _ z).2.1 G) ho,r
 by_cases hb:b=T
 .subst hb;rw[ay]at e;cases e;exact new
 rw[aD hb]at e;refine(ab.aQ b u e).lB (λc v hc q=>k c v ?_ q) (λc q=>by rw[aD (b_ q hn)];exact q) λc xs q=>by rw[aD (b_ q hn)];exact q
 obtain z|z:=hc
 .rw[z];exact mc b u e
 exact mc c _ z
variable{d:af}
def Inv.lock{u:HO}(ab:Inv X pins σ H s)(h:H d=I u)(mu:pP (I u)):∃od,Inv X pins σ (upd H d (.cQ od u)) s:=by
 have x:=ab.aQ d u h
 have ex:∃od,s.heap.get? d=I od:=by
  cases u with
  |lst xs=>obtain⟨_,_,_,_,e⟩:=x;exists _,e
  |dK ae=>obtain⟨_,_,_,_,o,_,_,e,_⟩:=x;exists o,e
  |dT ae=>obtain⟨_,_,_,_,o,_,_,e,_⟩:=x;exists o,e
  |set S n=>obtain⟨o,_,_,_,e,_⟩:=x;exists o,e
  |ins C dx fs=>obtain⟨_,_,_,e,_⟩:=x;exists _,e
  |ext φ=>obtain⟨_,⟨_,e⟩,_⟩:=x;exists _,e
  |_=>exact ju mu
 obtain⟨od,e⟩:=ex
 have new:fJ X.prog X.w (upd H d (.cQ od u)) s.heap d (.cQ od u):=by
  exists e,x.lB (λb v _ q=>q) (λb q=> ?_) λb xs q=> ?_
  .rw[aD (λz=>by rw[z,h]at q;cases q;exact mu)];exact q
  rw[aD (λz=>by rw[z,h]at q;cases q;exact mu)];exact q
 exact⟨od,ab.write (t':=s.toks) (h':=s.heap) (by rw[h];exact mu) (.inl G) (λb v _ q=>q) ⟨od,e⟩ new⟩
def Inv.Zo{u:HO}(ab:Inv X pins σ H s)(h:H d=I u)(mu:pP (I u)):∀o' u',X.pQ d≠I (.cQ o' u'):=λo' u' e=>by have q:=ab.ai.kI d o' u' e;rw[h]at q;cases q;exact mu
variable{od:bA}
def Inv.unlock{u:HO}(ab:Inv X pins σ H s)(h:H d=I (.cQ od u))(hn:∀o' u',X.pQ d≠I (.cQ o' u')):Inv X pins σ (upd H d u) s:=by
 have sh:∀b o,H b=I o->(∀o' u',o≠ .cQ o' u')->b≠d:=λb o e aw z=>by rw[z,h]at e;cases e;exact aw _ _ G
 have neN:∀b,H b=ak->b≠d:=λb e z=>by rw[z,h]at e;cases e
 exists ab.ok,ab.os,ab.bare,⟨ab.ai.keep,ab.ai.slot,λb o e n hx=> ?_,ab.ai.there,λb xs e=> ?_,λb o x e=> ?_,λb ps e=> ?_⟩,ab.loc,ab.cell,?_,λx c e=> ?_,λp hp=> ?_,λb o e=> ?_,ab.len
 .rw[aD (neN b (ab.ai.free b o e n hx))];exact ab.ai.free b o e n hx
 .have q:=ab.ai.jA b xs e;rw[aD (sh b _ q (λ_ _ z=>nomatch z))];exact q
 .have q:=ab.ai.kI b o x e;rw[aD (λz=>by rw[z]at e;exact hn _ _ e)];exact q
 .obtain⟨m,q⟩:=ab.ai.mF b ps e;exact⟨m,by rw[aD (sh b _ q (λ_ _ z=>nomatch z))];exact q⟩
 .rw[aD (neN _ ab.free)];exact ab.free
 .rw[aD (neN c (ab.je x c e))];exact ab.je x c e
 .obtain⟨e,n,r⟩:=ab.pin p hp;exists e,by rw[aD (neN _ n)];exact n,r
 by_cases hb:b=d
 .rw[hb,ay]at e;cases e;rw[hb];obtain⟨_,x⟩:=ab.aQ d _ h;exact x.lB (λc v _ q=>q) (λc q=>by rw[aD (sh c _ q (λ_ _ z=>nomatch z))];exact q) λc xs q=>by rw[aD (sh c _ q (λ_ _ z=>nomatch z))];exact q
 rw[aD hb]at e;exact(ab.aQ b o e).lB (λc v _ q=>q) (λc q=>by rw[aD (sh c _ q (λ_ _ z=>nomatch z))];exact q) λc xs q=>by rw[aD (sh c _ q (λ_ _ z=>nomatch z))];exact q
inductive Zp(t:TE)(σ:St)(H:Hp)(Q:VK):Prop|mk(d:_)(u:_)(_:H d=I u)(_:pP (I u))(_:∀od,t σ (upd H d (.cQ od u)) λv U=>U d=I (.cQ od u)/\Q v (upd U d u))
def LC{t:TE}(h:PE X e t):PE X e (Zp t):=by intro pins s σ H Q ab hw;obtain⟨d,u,hd,mu,hw⟩:=hw;obtain⟨od,I1⟩:=ab.lock hd mu;exact a_ (h pins s σ _ _ I1 (hw od)) λv s1⟨x,H1,I2,r,e2,q⟩=>⟨x,_,I2.unlock e2 (ab.Zo hd mu),r,q⟩
def t8{R:It->Hp->Prop}{J:It}{tn:Nat->bB->Prop}{tk:Nat}(ab:Inv X pins σ H s)(o:bA)
  (T:Turn X.prog X.w X.K tg J [s.heap.objs.size] s.heap.objs.size tn)(st:tn 0 (s.heap.push o))(q:R J H):Km X pins σ tg R (.ref s.heap.objs.size) {s with heap:=s.heap.push o,toks:=tk}:=by
 exists s.heap.objs.size,[s.heap.objs.size],tn,J,H,G,ab.kept λb ob e=>cu _ e,T,st,λb hb=> ?_,q;have e:b=s.heap.objs.size:=by simpa using hb
 subst e;exact ab.tQ (aZ _) (ab.aQ.fresh (aZ _))
def zo(lo c:Int)(n:Nat):It:=⟨λi _=>i<n,λi H x U=>U=H/\x= .int (lo+(i:Nat)*c),λi _=>n<=i⟩
variable{K:aR}
theorem Zq(it:af)(lo c:Int)(n:Nat):Turn P w K tg (zo lo c n) [it] it (λi h=>IsRangeIter h it (lo+(i:Nat)*c) ((n:Int)-(i:Nat)) c)where
 mem:=by simp
 obj:=λi h st b hb=>by
  have e:b=it:=by simpa using hb
  subst e;exists _,st,λv z=>nomatch z
 keep:=λi h h' st k=>k it (by simp) _ st
 item:=by intro X hP hw hK hc i pins s σ H E ab hf st hg;subst hP hw hK;obtain⟨f0,f1,f2,f3,f4,f5⟩:=hf it (by simp);refine(ajJ (prog:=X.prog) (w:=X.w) (ab.ok.hd hc) it lo c n).item i s _ _ hg st λv h' tk hv cb kk=> ?_;obtain⟨t,rfl⟩:=hv;have I1:Inv X pins σ H {s with heap:=h',toks:=tk}:=ab.turned (λb o hb e=>kk b o (by simpa using hb) e) f0 f1 f3 f4 f5;exact⟨_,G,pX cb G G (by decide) ⟨.int (lo+i*c),H,I1,⟨t,G⟩,⟨G,G⟩,cb,λb hb=>(hf b hb).1⟩⟩
 done:=by intro X hP hw hK hc i pins s σ H E ab hf st hg;subst hP hw hK;obtain⟨f0,f1,f2,f3,f4,f5⟩:=hf it (by simp);exact ajL (ab.ok.hd hc) st (by have:n<=i:=hg;lia) λh' eb=>⟨G,ab.turned (t':=s.toks) (λb o hb e=>eb b o hb e) f0 f1 f3 f4 f5⟩
 self:=λA i s Q E st h=>ajM st h
def LD(i j c:Int)(n:Nat):Prop:=c≠0/\c.natAbs<1073741824/\akm i j c=aa/\Bm i j c=n
def Zr(ta:TA):TI:=λσ H R=>ta σ H λvs H1=>∃(i j c:Int)(n:Nat),vs=[.int i,.int j,.int c]/\LD i j c n/\R (zo i c n) H1
variable{ta:TA}{p:fG}
def LF{a b:bE}(hg:Gl X "range")(hm:X.mg "range"=ak)(ha:PA X [a,b,c] ta)
  (hs:bS [a,b,c] X.env=(ao,eval a X.env)::bS [b,c] X.env:=by rfl)(ag:(fH pos (bS [b,c] X.env)).any (·.1)=ao:=by rfl):
  PI X tg (.Call (.Name "range" p) [a,b,c] [] pos) (Zr ta):=by
 intro pins s σ H R ab h;refine Bo (rj ab hg hm boot_range (A9 (a_ (ha pos pins s σ H _ ab h) λus s1⟨vs,H1,I1,r1,q1⟩=> ?_) hs ag));obtain⟨i,j,k,n,e,⟨dE,c1,c2,c3⟩,q⟩:=q1;subst e;cases r1 with
 |cons r rr=>
  cases rr with
  |cons r' rr=>
   cases rr with
   |cons Zs rr=>
    cases rr;obtain⟨t,rfl⟩:=r;obtain⟨t',rfl⟩:=r';obtain⟨Zt,rfl⟩:=Zs;refine call_range_3 dE ?_ (.inl (ajO c1));refine wpAny_pyIter_range (IsRange.new ..) c2 ?_;have I2:Inv X pins σ H1 {s1 with heap:=s1.heap.push {cls:=.type "range",data:=.fields #[.int i t,.int j t',.int k Zt]}}:=I1.kept (t':=s1.toks) λb o e=>cu _ e;refine t8 I2 _ (Zq _ i k n) ?_ q;have e1:i+((0:Nat):Int)*k=i:=by simp
    have e2:n-((0:Nat):Int)=Bm i j k:=by rw[c3];simp
    rw[e1,e2];exact di _ G
def CT(K:aR)(a:af)(n:Nat):It:=⟨λi H=>i<n/\∃(xs:M V)(x:V),az K H a xs/\xs[n-1-i]? =I x,λi H x U=>U=H/\∀xs,az K H a xs->xs[n-1-i]? =I x,λi _=>n<=i⟩
theorem Zu(a it:af)(n:Nat):Turn P w K tg (CT K a n) [it] it (λi h=>i<=n/\h.IsRevIter it a ((n:Int)-1-(i:Nat)))where
 mem:=by simp
 obj:=λi h st b hb=>by
  have e:b=it:=by simpa using hb
  subst e;obtain⟨_,o,e,c,d⟩:=st;exact⟨o,e,λv z=>by rw[d]at z;cases z⟩
 keep:=λi h h' st k=>⟨st.1,st.2.at λo e=>k it (by simp) o e⟩
 item:=by
  intro X hP hw hK hc i pins s σ H E ab hf st hg;subst hP hw hK;obtain⟨de,xs,x,hq,hx⟩:=hg;obtain⟨ad,rv,p,hz⟩:=ab.list hq;obtain⟨u,hu,ru⟩:=rv.get hx;obtain⟨f0,f1,f2,f3,f4,f5⟩:=hf it (by simp);obtain⟨_,b0⟩:=st;have e1:n-1-(i:Int)=((n-1-i:Nat):Int):=by lia
  rw[e1]at b0;refine wpAny_pyNext_rev_item b0 p.isList (by simpa using hu) λh' cb sb=> ?_;have e2:((n-1-i:Nat):Int)-1=n-1-((i+1:Nat):Int):=by lia
  rw[e2]at cb;have I1:=ab.turned (t':=s.toks) (λb o hb e=>(sb.2 b hb).trans e) f0 f1 f3 f4 f5;obtain⟨o,e,c,d⟩:=id cb;exact⟨u,G,pX e c d (by decide) ⟨x,H,I1,ru,⟨G,λys hy=>by rw[ab.vN hy hq];exact hx⟩,⟨de,cb⟩,λb hb=>(hf b hb).1⟩⟩
 done:=by
  intro X hP hw hK hc i pins s σ H E ab hf st hg;subst hP hw hK;obtain⟨f0,f1,f2,f3,f4,f5⟩:=hf it (by simp);obtain⟨de,b0⟩:=st;have si:n<=i:=hg;have e1:(n:Int)-1-((i:Nat):Int)= -1:=by lia
  rw[e1]at b0;exact wpAny_pyNext_rev_end (ab.ok.hd hc) b0 λh' eb=>⟨G,ab.turned (t':=s.toks) (λb o hb e=>eb b o hb e) f0 f1 f3 f4 f5⟩
 self:=λA i s Q E st h=>akn st.2 h
def Zv(K:aR)(ta:TA):TI:=λσ H R=>ta σ H λvs H1=>∃(a:af)(xs:M V),vs=[.ref a]/\az K H1 a xs/\R (CT K a xs.length) H1
theorem Zw(hg:Gl X "reversed")(hm:X.mg "reversed"=ak)(ha:PA X [e] ta)(hs:bS [e] X.env=[(ao,eval e X.env)]:=by rfl):PI X tg (.Call (.Name "reversed" p) [e] [] pos) (Zv X.K ta):=by
 intro pins s σ H R ab h;refine Bo (rj ab hg hm Zn (A9 (a_ (ha pos pins s σ H _ ab h) λus s1⟨vs,H1,I1,r1,q1⟩=> ?_) hs G));obtain⟨a,xs,e,hq,q⟩:=q1;subst e;cases r1 with
 |cons r rr=>
  cases rr;cases r;obtain⟨ad,rv,p',hz⟩:=I1.list hq;have hl:=rv.length;have e1:((ad.toArray.size:Nat):Int)-1=(xs.length:Int)-1-((0:Nat):Int):=by simp only[eX];lia
  refine call_reversed_list p'.isList (akn ⟨_,di _ G,G,G⟩ ?_);refine t8 I1 _ (Zu a _ xs.length) ⟨b6 _,?_⟩ q;rw[<-e1];exists _,di _ G,G,G
def CU(x:aj):It:=⟨λi _=>i<x.cps.size,λi H v U=>U=H/\∃c,x.cps[i]? =I c/\v= .str ⟨#[c]⟩,λi _=>x.cps.size<=i⟩
def LH(it:af)(x:aj)(t:Tok)(ty:String)(rn:ty="str_ascii_iterator"\/ty="str_iterator"):
  Turn P w K tg (CU x) [it] it (λi h=>h.IsStrIter it ty x t i)where
 mem:=by simp
 obj:=λi h st b hb=>by
  have e:b=it:=by simpa using hb
  subst e;obtain⟨o,e,c,d⟩:=st;exact⟨o,e,λv z=>by rw[d]at z;cases z⟩
 keep:=λi h h' st k=>let⟨o,ho,r⟩:=st;⟨o,k it (by simp) o ho,r⟩
 item:=by
  intro X hP hw hK hc i pins s σ H E ab hf st hg;subst hP hw hK;obtain⟨f0,f1,f2,f3,f4,f5⟩:=hf it (by simp)
  have W:x_ X.prog X.w X.A it [it] [it] x.cps.size (SignAt x) (λi h=>h.IsStrIter it ty x t i):=by
   obtain e|e:=rn
   .rw[e];exact Walks.strAscii (ab.ok.hd hc) it x t
   rw[e];exact Walks.strWide (ab.ok.hd hc) it x t
  have fo:["enumerate","zip","dict_itemiterator","dict_reverseitemiterator","odict_iterator","itertools.zip_longest","itertools.pairwise"].contains ty=ao:=by
   obtain e|e:=rn
   .rw[e];decide
   rw[e];decide
  refine W.item i s _ _ hg st λv h' tk hv cb kk=> ?_;obtain⟨c,u,Zx,rfl⟩:=hv;have I1:Inv X pins σ H {s with heap:=h',toks:=tk}:=ab.turned (λb o hb e=>kk b o (by simpa using hb) e) f0 f1 f3 f4 f5;obtain⟨oi,e,Zy,dd⟩:=id cb;exists _,G,pX e Zy dd fo ⟨.str ⟨#[c]⟩,H,I1,⟨u,G⟩,⟨G,c,Zx,G⟩,cb,λb hb=>(hf b hb).1⟩
 done:=by
  intro X hP hw hK hc i pins s σ H E ab hf st hg;subst hP hw hK;obtain⟨f0,f1,f2,f3,f4,f5⟩:=hf it (by simp);have hx:=vf hg;obtain e|e:=rn
  .rw[e]at st;exact wpAny_pyNext_ascii_end (ab.ok.hd hc) st hx λh' eb=>⟨G,ab.turned (t':=s.toks) (λb o hb e=>eb b o hb e) f0 f1 f3 f4 f5⟩
  rw[e]at st;exact wpAny_pyNext_wide_end (ab.ok.hd hc) st hx λh' eb=>⟨G,ab.turned (t':=s.toks) (λb o hb e=>eb b o hb e) f0 f1 f3 f4 f5⟩
 self:=λA i s Q E st h=>by
  obtain e|e:=rn
  .rw[e]at st;exact wpAny_pyIter_striter_ascii st h
  rw[e]at st;exact wpAny_pyIter_striter_wide st h
def Zz(te:TE):TI:=λσ H R=>te σ H λv H1=>∃x,v= .str x/\R (CU x) H1
def ZA(he:PE X e te):PI X tg e (Zz te):=by
 intro pins s σ H R ab h;refine a_ (he pins s σ H _ ab h) λv s1⟨y,H1,I1,r1,x,ex,q⟩=> ?_;subst ex;obtain⟨t,rfl⟩:=r1;cases ha:x.cps.all (· <128)
 .exact wpAny_pyIter_wide ha (t8 I1 _ (LH _ x t "str_iterator" (.inr G)) ⟨_,di _ G,G,G⟩ q)
 exact wpAny_pyIter_ascii ha (t8 I1 _ (LH _ x t "str_ascii_iterator" (.inl G)) ⟨_,di _ G,G,G⟩ q)
variable{o:bA}{es:Array qJ}{ep:Nat}
def LI(hd:(d==iK)=ao)(ho:s.heap.get? d=I o)(hc:o.ExactDict)(Ev:o.data= .dict es ep)
  (hQ:Q (.ref s.heap.objs.size) {s with heap:=s.heap.push {cls:=.type "dict_keyiterator",data:=.fields #[.ref d,.int 0 0,.int es.size 0,.int ep 0]}}):
  aJ (aL prog w) A (pyIter (.ref d)) Q E s:=by
 have hT:s.TypeIs (.ref d) "dict":=⟨o,ho,hc.1⟩;refine Ik hT ako (i0 ako hT F.entry_dict_iter ?_ (F.args_dict_iter_1 _));refine aA ?_;refine aA (wpAny_notOrdered_dict hT ?_);refine aN ?_;show aJ _ _ (akp d>>=_) _ _ s;unfold akp;rw[au (by rw[hd];exact dJ)];refine aA (aN ?_);refine aA (Il ho Ev ?_);refine aA (UL ho Ev ?_);refine aA (jv (aN ⟨_,G,"dict_keyiterator",_,⟨_,di _ G,G⟩,ya.lookup,?_⟩));simpa[iY]using hQ
variable{it:af}{i:Nat}{Q:aG aq->aI->Prop}
theorem ZC{kA:qJ}(b0:s.heap.IsKeyIter it d i n ep)(hM:s.heap.get? d=I od)(d6:od.data= .dict es ep)
  (ba:es.size=n)(hx:es[i]? =I kA)(hQ:∀h',h'.IsKeyIter it d (i+1) n ep->o9 it s.heap h'->Q (I kA.key) {s with heap:=h'}):aJ (aL prog w) A (lZ (.ref it)) Q E s:=by
 obtain⟨o,ho,hc,hd⟩:=id b0
 refine aA (sQ (n_ b0.typeIs ya (i0 ya b0.typeIs akq ?_ (akr _))));refine aA (aN ?_);refine aA ?_;refine aA ?_;first|refine aA (Im b0.typeIs (aN ?_))|refine aA (Io b0.typeIs (aN ?_))
 refine aA (yb ho hd ?_);have QR:aks "dict_keyiterator"=ao:=by decide
 simp only[QR,sO,l6];show aJ _ _ (if(eW d==jR)=aa then _ else _) _ _ s;rw[au (show¬((eW d==jR)=aa) from dJ)];refine aA (aN ?_);refine aA (Il hM d6 ?_);rw[au (by rw[ba];simp)];refine aA (aN ?_);refine aA (UL hM d6 ?_);rw[au (by simp)];refine aN ?_;obtain⟨Q1,wn⟩:=UM.mp hx;simp only[show¬(i<0) from by lia,l6,k_,i6 Q1];refine aA ?_;first|refine aA (Im b0.typeIs (aN ?_))|refine aA (Io b0.typeIs (aN ?_))
 refine aA (akt b0.typeIs ?_);show aJ _ _ (setField (.ref it) 1 (iY ((i:Int)+1))>>=_) _ _ s;refine aA (pC ho hd (by simp) ?_)
 have LJ:(s.heap.update it (UN (·.setIfInBounds 1 (iY (i+1))))).IsKeyIter it d (i+1) n ep:=
  ⟨_,oh _ ho (yc (nh hd _)),(Bp ..).trans hc,by rw[nh hd];simp[iY]⟩
 refine aA (pD ?_);refine aA (akt LJ.typeIs ?_);rw[wn];exact aN (aN ⟨_,G,aN (hQ _ LJ (ni ..))⟩)
theorem LK(hh:A.handled=ak)(b0:s.heap.IsKeyIter it d i n ep)(hM:s.heap.get? d=I od)(d6:od.data= .dict es ep)
  (ba:es.size=n)(si:n<=i)(hQ:∀h',Ip it s.heap h'->Q ak {s with heap:=h'}):aJ (aL prog w) A (lZ (.ref it)) Q E s:=by
 obtain⟨o,ho,hc,hd⟩:=id b0
 refine aA (sQ (n_ b0.typeIs ya (i0 ya b0.typeIs akq ?_ (akr _))));refine aA (aN ?_);refine aA ?_;refine aA ?_;first|refine aA (Im b0.typeIs (aN ?_))|refine aA (Io b0.typeIs (aN ?_))
 refine aA (yb ho hd ?_);have QR:aks "dict_keyiterator"=ao:=by decide
 simp only[QR,sO,l6];show aJ _ _ (if(eW d==jR)=aa then _ else _) _ _ s;rw[au (show¬((eW d==jR)=aa) from dJ)];refine aA (aN ?_);refine aA (Il hM d6 ?_);rw[au (by rw[ba];simp)];refine aA (aN ?_);refine aA (UL hM d6 ?_);rw[au (by simp)];refine aN ?_;have ZD:es.size<=i:=by rw[ba];exact si
 simp only[show¬(i<0) from by lia,l6,k_,vf ZD];refine aA ?_;first|refine aA (Im b0.typeIs (aN ?_))|refine aA (Io b0.typeIs (aN ?_))
 show aJ _ _ (setField (.ref it) 0 .none>>=_) _ _ s;refine aA (pC ho hd (by simp) ?_);refine aA ?_;simp only[Iq,Bq];refine aA (jv ?_ (by size_fits));refine aA (yd (a:=jR) (by first|rfl|(simp only[Ir];rfl)) ?_);refine jv ?_ (by size_fits);simp only[Iu];refine aA (Iv ?_);rw[show A.in1.handled=ak from hh];refine aA (aN (Iw ?_));refine aA (Br (T:="StopIteration") (b:=aa) ⟨_,di _ G,G⟩ Iz ?_);exact aN (hQ _ (((ni ..).extBut.push _).push _))
def ZE{κ:Type}{ae:M (κ×V)}{vs:M (κ×aq)}(h:KV ae vs):∀{i:Nat}{k:κ}{v:V},ae[i]? =I (k,v)->∃u,vs[i]? =I (k,u)/\RelV v u:=by
 induction h with
 |nil=>intro i k v e;simp at e
 | @cons a b l₁ l₂ r t ih=>
  intro i k v e;cases i with
  |zero=>simp only[UO,lq]at e;subst e;exists b.2,?_,r.2;simp only[UO];exact cC I (mh r.1.symm G)
  |succ j=>simp only[HQ]at e⊢;exact ih e
def ZF{β:Type}{ar:α->β->Prop}{l₁:M α}{l₂:M β}(h:Paired ar l₁ l₂):∀{i:Nat}{a:α},l₁[i]? =I a->∃b,l₂[i]? =I b/\ar a b:=by
 induction h with
 |nil=>intro i a e;simp at e
 | @cons a b l₁ l₂ r t ih=>
  intro i a' e;cases i with
  |zero=>simp only[UO,lq]at e;subst e;exists b,G,r
  |succ j=>simp only[HQ]at e⊢;exact ih e
def LL{k:Key}(h:q8 k u=aa):RelV (kV k) u:=by
 obtain⟨i,t,rfl,rfl⟩|⟨x,t,rfl,rfl⟩:=nC h
 .exists t,rfl
 exists t,rfl
theorem Inv.CV(ab:Inv X pins σ H s)(h:H d=I (.cQ o (.dK ae))):
  (d==iK)=ao/\s.heap.get? d=I o/\o.ExactDict/\∃(es:Array qJ)(ep:Nat)(vs:M (Key×aq)),o.data= .dict es ep/\es.size=ae.length/\KV ae vs/\s.heap.DictAt (iN X.prog X.w) d vs ep:=by
 obtain⟨hd,z,hs,vs,kv,o',es,ep,ho,hx,bb,r⟩:=ab.aQ d _ h;rw[hd]at ho;cases ho;exists hs,hd,hx,es,ep,vs,bb,?_,kv,o,es,hd,hx,bb,r;have l1:=r.2.1.length;have l2:=sD kv;rw[fk]at l1;lia
theorem Inv.CW{ae:M (M Key×V)}(ab:Inv X pins σ H s)(h:H d=I (.cQ o (.dT ae))):
  (d==iK)=ao/\s.heap.get? d=I o/\o.ExactDict/\∃(es:Array qJ)(ep:Nat),o.data= .dict es ep/\es.size=ae.length/\
   ∀(i:Nat)(k:M Key)(v:V),ae[i]? =I (k,v)->∃(kA:qJ)(q:af),es[i]? =I kA/\kA.key= .ref q/\H q=I (.tup (k.map kV)):=by
 obtain⟨hd,z,hs,xs,pr,o',es,ep,ho,hx,bb,he,_⟩:=ab.aQ d _ h;rw[hd]at ho;cases ho;exists hs,hd,hx,es,ep,bb,?_,λi k v e=> ?_
 .have l1:=aku he;have l2:=sD pr;lia
 obtain⟨b,hb,e1,e2,_⟩:=ZF pr e;have q:=entry_at he i;rw[hb]at q;exists _,b.2.1,q,G,e2
def CY(d:af)(o:bA)(ae:M (Key×V)):It:=⟨λi H=>H d=I (.cQ o (.dK ae))/\i<ae.length,λi H x U=>U=H/\∃k v,ae[i]? =I (k,v)/\x=kV k,λi H=>H d=I (.cQ o (.dK ae))/\ae.length<=i⟩
def LM(d:af)(o:bA)(ae:M (M Key×V)):It:=⟨λi H=>H d=I (.cQ o (.dT ae))/\i<ae.length,λi H x U=>U=H/\∃(k:M Key)(v:V)(q:af),ae[i]? =I (k,v)/\x= .ref q/\H q=I (.tup (k.map kV)),λi H=>H d=I (.cQ o (.dT ae))/\ae.length<=i⟩
def zp{bv:Array qJ}{en:Nat}(h:o.data= .dict es ep)(h':o.data= .dict bv en):bv=es/\en=ep:=by rw[h]at h';cases h';exists G,G
def ZG(it:af)(hM:o.data= .dict es ep):Turn P w K tg (CY d o ae) [it] it (λi h=>h.IsKeyIter it d i ae.length ep)where
 mem:=by simp
 obj:=λi h st b hb=>by
  have e:b=it:=by simpa using hb
  subst e;obtain⟨oi,e,c,dd⟩:=st;exact⟨oi,e,λv z=>by rw[dd]at z;cases z⟩
 keep:=λi h h' st k=>st.at λoi e=>k it (by simp) oi e
 item:=by intro X hP hw hK hc i pins s σ H E ab hf st hg;subst hP hw hK;obtain⟨hd,hi⟩:=hg;obtain⟨f0,f1,f2,f3,f4,f5⟩:=hf it (by simp);obtain⟨hs,iq,hx,bv,en,vs,bb,ba,kv,hm⟩:=ab.CV hd;obtain⟨rfl,rfl⟩:=zp hM bb;obtain⟨⟨k,v⟩,wq⟩:∃p,ae[i]? =I p:=⟨ae[i],bg hi⟩;obtain⟨u,hu,ru⟩:=ZE kv wq;have hl:=sD kv;rw[hl]at st;refine wpAny_pyNext_dict_item st hm hu λkey h' kl cb sb=> ?_;have I1:=ab.turned (t':=s.toks) (λb ob hb e=>(sb.2 b hb).trans e) f0 f1 f3 f4 f5;obtain⟨oi,e,c,dd⟩:=id cb;refine⟨key,G,pX e c dd (by decide) ⟨kV k,H,I1,LL (kl),⟨G,k,v,wq,G⟩,?_,λb hb=>(hf b hb).1⟩⟩;rw[hl];exact cb
 done:=by intro X hP hw hK hc i pins s σ H E ab hf st hg;subst hP hw hK;obtain⟨hd,hi⟩:=hg;obtain⟨f0,f1,f2,f3,f4,f5⟩:=hf it (by simp);obtain⟨hs,iq,hx,bv,en,vs,bb,ba,kv,hm⟩:=ab.CV hd;obtain⟨rfl,rfl⟩:=zp hM bb;exact LK (ab.ok.hd hc) st iq bb ba hi λh' eb=>⟨G,ab.turned (t':=s.toks) (λb ob hb e=>eb b ob hb e) f0 f1 f3 f4 f5⟩
 self:=λA i s Q E st h=>wpAny_pyIter_keyiter st h
def ZH{ae:M (M Key×V)}(it:af)(hM:o.data= .dict es ep):Turn P w K tg (LM d o ae) [it] it (λi h=>h.IsKeyIter it d i ae.length ep)where
 mem:=by simp
 obj:=λi h st b hb=>by
  have e:b=it:=by simpa using hb
  subst e;obtain⟨oi,e,c,dd⟩:=st;exact⟨oi,e,λv z=>by rw[dd]at z;cases z⟩
 keep:=λi h h' st k=>st.at λoi e=>k it (by simp) oi e
 item:=by intro X hP hw hK hc i pins s σ H E ab hf st hg;subst hP hw hK;obtain⟨hd,hi⟩:=hg;obtain⟨f0,f1,f2,f3,f4,f5⟩:=hf it (by simp);obtain⟨hs,iq,hx,bv,en,bb,ba,Re⟩:=ab.CW hd;obtain⟨rfl,rfl⟩:=zp hM bb;obtain⟨⟨k,v⟩,wq⟩:∃p,ae[i]? =I p:=⟨ae[i],bg hi⟩;obtain⟨kA,q,wn,kl,hq⟩:=Re i k v wq;refine ZC st iq bb ba wn λh' cb sb=> ?_;have I1:=ab.turned (t':=s.toks) (λb ob hb e=>(sb.2 b hb).trans e) f0 f1 f3 f4 f5;obtain⟨oi,e,c,dd⟩:=id cb;exact⟨kA.key,G,pX e c dd (by decide) ⟨.ref q,H,I1,kl,⟨G,k,v,q,wq,G,hq⟩,cb,λb hb=>(hf b hb).1⟩⟩
 done:=by intro X hP hw hK hc i pins s σ H E ab hf st hg;subst hP hw hK;obtain⟨hd,hi⟩:=hg;obtain⟨f0,f1,f2,f3,f4,f5⟩:=hf it (by simp);obtain⟨hs,iq,hx,bv,en,bb,ba,Re⟩:=ab.CW hd;obtain⟨rfl,rfl⟩:=zp hM bb;exact LK (ab.ok.hd hc) st iq bb ba hi λh' eb=>⟨G,ab.turned (t':=s.toks) (λb ob hb e=>eb b ob hb e) f0 f1 f3 f4 f5⟩
 self:=λA i s Q E st h=>by refine Ik st.typeIs akv (i0 akv st.typeIs F.entry_dict_keyiterator_iter ?_ (F.args_dict_keyiterator_iter_1 _));exact aN ⟨_,G,"dict_keyiterator",_,st.typeIs,ya.lookup,h⟩
def LN(td:TE):TI:=λσ H R=>td σ H λx H1=>∃d o,x= .ref d/\((∃ae,H1 d=I (.cQ o (.dK ae))/\R (CY d o ae) H1)\/∃ae,H1 d=I (.cQ o (.dT ae))/\R (LM d o ae) H1)
def LO(he:PE X e td):PI X tg e (LN td):=by
 intro pins s σ H R ab h;refine a_ (he pins s σ H _ ab h) λu s1⟨x,H1,I1,rx,d,o,ex,q⟩=> ?_;subst ex;obtain rfl:u=eW d:=rx;obtain⟨ae,hd,q⟩|⟨ae,hd,q⟩:=q
 .obtain⟨hs,iq,hx,es,ep,vs,bb,ba,kv,hm⟩:=I1.CV hd;refine LI hs iq hx bb (t8 I1 _ (ZG _ bb) ⟨_,di _ G,G,?_⟩ q);rw[ba]<;>rfl
 obtain⟨hs,iq,hx,es,ep,bb,ba,Re⟩:=I1.CW hd;refine LI hs iq hx bb (t8 I1 _ (ZH _ bb) ⟨_,di _ G,G,?_⟩ q);rw[ba]<;>rfl
def LP:jt "zip"=I (.type "zip"):=by decide+kernel
def LQ(K:aR)(a b:af):It:=⟨λi H=>∃(xs ys:M V)(x y:V),az K H a xs/\az K H b ys/\xs[i]? =I x/\ys[i]? =I y,λi H v U=>∃T x y,v= .ref T/\H T=ak/\U=upd H T (.tup [x,y])/\(∀xs,az K H a xs->xs[i]? =I x)/\∀ys,az K H b ys->ys[i]? =I y,λi H=>∃xs ys:M V,az K H a xs/\az K H b ys/\(xs.length<=i\/ys.length<=i)⟩
variable{wt:M bE}{kk:Nat}{wv:fG}
theorem ZI{z TI TO i1 i2:af}(D:ye z TI TO i1 i2 a b):
  Turn P w K (.Tuple wt kk wv) (LQ K a b) [z,TI,TO,i1,i2] z (λi h=>kr h z TI TO .none/\gU h TI (.ref i1) (.ref i2)/\(∃x y,gU h TO x y)/\h.IsListIter i1 a i/\h.IsListIter i2 b i)where
 mem:=by simp
 obj:=λi h st c hc=>by
  obtain⟨hz,ci,⟨x,y,cv⟩,⟨ww,e1,_,d1⟩,⟨wx,e2,_,d2⟩⟩:=st;have e':c=z\/c=TI\/c=TO\/c=i1\/c=i2:=by simpa using hc
  obtain q|q|q|q|q:=e'
  .rw[q];exists _,hz,λv q=>nomatch q
  .rw[q];exists _,ci,λv q=>nomatch q
  .rw[q];exists _,cv,λv q=>nomatch q
  .rw[q];exact⟨ww,e1,λv q=>by rw[d1]at q;cases q⟩
  rw[q];exact⟨wx,e2,λv q=>by rw[d2]at q;cases q⟩
 keep:=λi h h' st k=>by obtain⟨hz,ci,⟨x,y,cv⟩,h1,h2⟩:=st;exact⟨k z (by simp) _ hz,k TI (by simp) _ ci,⟨x,y,k TO (by simp) _ cv⟩,h1.at λo q=>k i1 (by simp) o q,h2.at λo q=>k i2 (by simp) o q⟩
 item:=by
  intro X hP hw hK hc i pins s σ H E ab hf st hg;subst hP hw hK;obtain⟨hz,ci,⟨Rs,y0,cv⟩,h1,h2⟩:=st;obtain⟨xs,ys,x,y,eJ,eM,hx,hy⟩:=hg;obtain⟨ad,rv,p,_⟩:=ab.list eJ;obtain⟨cs,k0,p2,_⟩:=ab.list eM;obtain⟨u,hu,ru⟩:=rv.get hx;obtain⟨u2,oy,oC⟩:=k0.get hy;have bm:=cH hz;refine wpAny_pyNext_zip_item D hz ci cv h1 h2 p.isList p2.isList (by simpa using hu) (by simpa using oy) λh' z' RF a0 b2 hT ba hk=> ?_;refine⟨_,G,akw z' λrs Sc sb=> ?_⟩;have Sr:=(sb.2 _ (uY bm)).trans hT
  have new:fJ X.prog X.w (upd H s.heap.objs.size (.tup [x,y])) rs s.heap.objs.size (.tup [x,y]):=
   ⟨by show 2<=sizeLine;decide,[u,u2],.cons ru (.cons oC .nil),⟨_,Sr,G,_,G⟩⟩
  have I1:Inv X pins σ (upd H s.heap.objs.size (.tup [x,y])) {s with heap:=rs}:=
   ab.LB (t':=s.toks) (λc o hb q=>(sb.2 c (λq'=>hb (by simp[q']))).trans (hk c o (λq'=>hb (by simp[q'])) (λq'=>hb (by simp[q'])) (λq'=>hb (by simp[q'])) (λq'=>hb (by simp[q'])) q)) hf (aZ _) new
  exists .ref s.heap.objs.size,_,I1,G,⟨_,x,y,G,ab.aQ.fresh (aZ _),G,λl hl=>by rw[ab.vN hl eJ];exact hx,λl hl=>by rw[ab.vN hl eM];exact hy⟩,⟨Sc,?_,⟨u,u2,?_⟩,?_,?_⟩,λc k4=> ?_
  .exact(sb.2 _ D.TIz).trans (hk _ _ D.TIz D.TITO D.TIi1 D.TIi2 ci)
  .exact(sb.2 _ D.TOz).trans RF
  .exact a0.at λo q=>(sb.2 _ D.i1z).trans q
  .exact b2.at λo q=>(sb.2 _ D.i2z).trans q
  have al:c<s.heap.objs.size:=by
   have e':c=z\/c=TI\/c=TO\/c=i1\/c=i2:=by simpa using k4
   obtain q|q|q|q|q:=e'
   .rw[q];exact bm
   .rw[q];exact cH ci
   .rw[q];exact cH cv
   .rw[q];obtain⟨_,e1,_⟩:=h1;exact cH e1
   rw[q];obtain⟨_,e2,_⟩:=h2;exact cH e2
  rw[aD (d_ al)];exact(hf c k4).1
 done:=by
  intro X hP hw hK hc i pins s σ H E ab hf st hg;subst hP hw hK;obtain⟨hz,ci,⟨Rs,y0,cv⟩,h1,h2⟩:=st;obtain⟨xs,ys,eJ,eM,k5⟩:=hg;obtain⟨ad,rv,p,_⟩:=ab.list eJ;obtain⟨cs,k0,p2,_⟩:=ab.list eM;have l1:=rv.length;have l2:=k0.length
  have he:ad.toArray[i]? =ak\/cs.toArray[i]? =ak:=by
   obtain q|q:=k5
   .exact .inl (by simp;lia)
   exact .inr (by simp;lia)
  exact wpAny_pyNext_zip_end (ab.ok.hd hc) D hz ci cv h1 h2 p.isList p2.isList he λh' hk=>⟨G,ab.LA (t':=s.toks) (λc o hb q=>
   hk c o (λq'=>hb (by simp[q'])) (λq'=>hb (by simp[q'])) (λq'=>hb (by simp[q'])) (λq'=>hb (by simp[q'])) q) hf⟩
 self:=λA i s Q E st h=>IA st.1 h
def ZJ(K:aR)(ta:TA):TI:=λσ H R=>ta σ H λvs H1=>∃a b xs ys,vs=[.ref a,.ref b]/\az K H1 a xs/\az K H1 b ys/\R (LQ K a b) H1
def LR{e2:bE}(hg:Gl X "zip")(hm:X.mg "zip"=ak)(ha:PA X [e,e2] ta)
  (hs:bS [e,e2] X.env=(ao,eval e X.env)::bS [e2] X.env:=by rfl)(ag:(fH pos (bS [e2] X.env)).any (·.1)=ao:=by rfl):
  PI X (.Tuple wt kk wv) (.Call (.Name "zip" p) [e,e2] [] pos) (ZJ X.K ta):=by
 intro pins s σ H R ab h;refine Bo (rj ab hg hm LP (A9 (a_ (ha pos pins s σ H _ ab h) λus s1⟨vs,H1,I1,r1,q1⟩=> ?_) hs ag));obtain⟨a,b,xs,ys,ex,eJ,eM,q⟩:=q1;subst ex;cases r1 with
 |cons r rr=>
  cases rr with
  |cons r' rr=>
   cases rr;cases r;cases r';obtain⟨ad,rv,p1,_⟩:=I1.list eJ;obtain⟨cs,k0,p2,_⟩:=I1.list eM;have sm:=p1.lt;have SB:=p2.lt;refine call_zip_2 p1.isList p2.isList λh' hz ci cv h1 h2 ba hk=>IA hz ?_;have I2:=I1.kept (t':=s1.toks) hk;exists s1.heap.objs.size+4,[s1.heap.objs.size+4,s1.heap.objs.size+2,s1.heap.objs.size+3,s1.heap.objs.size,s1.heap.objs.size+1],_,_,H1,G,I2,ZI (akx s1.heap.objs.size a b sm SB),⟨hz,ci,⟨_,_,cv⟩,h1,h2⟩,λc k4=> ?_,q;have e':c=s1.heap.objs.size+4\/c=s1.heap.objs.size+2\/c=s1.heap.objs.size+3\/c=s1.heap.objs.size\/c=s1.heap.objs.size+1:=by simpa using k4
   have c4:s1.heap.objs.size<=c:=by
    obtain z|z|z|z|z:=e'
    .rw[z];exact qK _ _
    .rw[z];exact qK _ _
    .rw[z];exact qK _ _
    .rw[z];exact aZ _
    rw[z];exact qK _ _
   exact I1.tQ c4 (I1.aQ.fresh c4)
end L2
section
namespace TL
open PySem PySem.Builtin PySem.Builtin.Str PySem.StrLaws
abbrev tl(x:aj):M Nat:=x.cps.toList
def CZ(x y:aj):tl (x++y)=tl x++tl y:=by show(x++y).cps.toList=_;rw[Str.cps_append,Array.toList_append]
def oJ(S:M Nat):M (M Nat)->M Nat|[]=>[]|[p]=>p|p::q::r=>p++(S++oJ S (q::r))
theorem C0(y:aj):∀parts:M aj,tl (IB y parts)=oJ (tl y) (parts.map tl)|[]=>rfl|[_]=>rfl|x::z::r=>by show tl (x++y++IB y (z::r))=tl x++(tl y++oJ (tl y) ((z::r).map tl));rw[CZ,CZ,C0 y (z::r),iu]
def join_eq(y:aj)(parts:M aj):IC y parts=IB y parts:=glued_eq_join y parts
end TL
end
namespace L2
open PySem PySem.Spec PyProof.Rows
theorem C3:∀{ys:M aj}{us:M aq},Vals (ys.map V.str) us->StrsAre us ys|[],_,.nil=>.nil|y::ys,_,.cons r t=>by obtain⟨k,rfl⟩:=r;exact .cons y k (C3 t)
variable{X:Cx}
def LS:y_ X "str.join" (λx xs H Q=>∃a p,∃ys:M aj,x= .str a/\xs=[.ref p]/\(az X.K H p (ys.map V.str)\/bz X.K H p (ys.map V.str))/\(ys.map (·.length)).sum+ys.length*a.length<=16777216/\Q (.str (IC a ys)) H):=by
 intro pins s σ H x xs v us Q ab rx SC h;obtain⟨a,p,ys,rfl,rfl,hp,hz,h⟩:=h;obtain⟨t,rfl⟩:=rx;cases SC with
 |cons r1 SC=>
  cases SC;cases r1;obtain hp|hp:=hp
  .obtain⟨ad,r,⟨o,n,ho,hc,_,hd⟩,_⟩:=ab.list hp;exact am3 ⟨o,ho,hc,n,hd⟩ (by rw[aky];exact C3 r) hz λt' k=>⟨.str _,H,ab.tok k,⟨t',G⟩,h⟩
  obtain⟨ad,r,ht,_⟩:=ab.tuple hp;exact am4 ht (by rw[aky];exact C3 r) hz λt' k=>⟨.str _,H,ab.tok k,⟨t',G⟩,h⟩
abbrev aO:rB:=λ_ _ _ _ _ _=>False
abbrev E0:XK:=λ_ _ _=>False
def t9:Passes aO X E0:=λ_ _ _ _ _ _ _ h=>h.elim
structure dg(K:aR)(x a8:aj)(st:b5)(f:af)(fd:gC):Prop where
 ex:∃(oc:aq)(od:aG af)(kV dn pm:aq)(an:aG af)(a6 ct:aq)(rh:Array (aG aq)),
  fd=A8 x a8 (yE st) (tF st) (cz st) .none kV dn pm an a6 ct/\K.lookup f=I ⟨oc,od,.func fd,rh⟩/\Ua K a6 a8=aa
 kp:kZ K (.ref f)=aa
variable{P:bY}{w:bR}{K:aR}{mg:aj->aG aq}{ai:bB}{x a8:aj}{st:b5}{f:af}{fd:gC}{N ps:M aj}{k:Nat}{sp:Sp}
def dg.ok(F:dg K x a8 st f fd)(S:gq N ps (cz st))(len:∀vs H Q E,sp vs H Q E->vs.length=ps.length)
  (u4:∀(a6:aq)(A:eZ)(b8:M gj)(s:aI)(H:Hp)(vs:M V)(Q:VK)(E:XK),d8 k (A.deeper (o_ a8 (cz st) s.heap.objs.size f a6))->sp vs H Q E->∃t,jB (rD aO P w K mg ai N a8 (cz st) f a6 A b8 s H E).vO (tF st) t/\t {nx:=λ_ U=>Q .bx U,rt:=Q} (start N vs) H):aM P w K mg ai aO (k+1) f fd ps sp:=by
 obtain⟨oc,od,kV,dn,pm,an,a6,ct,rh,rfl,lk,fe⟩:=F.ex;refine XS lk fe S len λA b8 s H vs Q E hr md=> ?_;obtain⟨t,h,q⟩:=u4 a6 A b8 s H vs Q E hr md;exists t,h.vO,q
def dg.binds(F:dg K x a8 st f fd)
  (h:∀(kV dn pm:aq)(an:aG af)(a6 ct:aq)(us:M aq),us.length=ps.length->Uv (A8 x a8 (yE st) (tF st) (cz st) .none kV dn pm an a6 ct) ⟨us,[]⟩=pure (ps.zip us)):Binds K fd ps []:=by
 obtain⟨oc,od,kV,dn,pm,an,a6,ct,rh,rfl,lk,fe⟩:=F.ex;exact .all (h kV dn pm an a6 ct)
def oK{A:eZ}(hr:d8 k A):A.units+1<kj:=vg (Nat.add_le_add_left (by decide:1<=64) _) hr.units
def wj{n:Nat}(h:n<=1000):n<sizeLine:=vg h (by decide)
variable{pos:fG}
def pv(i:Nat)(hN:X.N[i]? =I x:=by rfl)(hv:rg X.env.scope x:=by first|exact cO G|exact cZ (cO G)|exact cZ (cZ G))(hd:(x==("__debug__":aj))=ao:=by decide)
  (fe:(x==("__classdict__":aj))=ao:=by decide):PE X (.Name x pos) (jX i):=J7 hN hv hd fe
def zq:gZ X (.builtin "len") (λxs H Q=>∃a ae,xs=[V.ref a]/\H a=I (.dK ae)/\Q (.int ae.length) H):=by intro pins s σ H xs us Q ab r h;obtain⟨a,ae,rfl,ha,q⟩:=h;obtain⟨u,rfl,ru⟩:=vals1 r;cases ru;exact Zd ab (.inl ha) λt s' I'=>⟨.int ae.length,H,I',⟨t,G⟩,q⟩
variable{A B:Prop}
def bX(h:B):if ao=aa then A else B:=by rw[au dJ];exact h
def bK(h:A):if aa=aa then A else B:=by rw[av G];exact h
def b4{c:Prop} [Decidable c](h1:c->A)(h2:¬c->B):if c then A else B:=by
 by_cases h:c
 .rw[av h];exact h1 h
 rw[au h];exact h2 h
def ah(H U:Hp):Prop:=∀b o,H b=I o->U b=I o
def ah.refl(H:Hp):ah H H:=λ_ _ h=>h
variable{H H1:Hp}
def ah.trans{H2:Hp}(a:ah H H1)(b:ah H1 H2):ah H H2:=λc o h=>b c o (a c o h)
variable{U:Hp}
def ah.free(e:ah H U){l:af}(h:U l=ak):H l=ak:=by
 cases q:H l with
 |none=>rfl
 |some o=>rw[e l o q]at h;cases h
def ah.seq{a:af}{xs:M V}(e:ah H U)(h:az K H a xs):az K U a xs:=by
 obtain(h|⟨o,h⟩)|h:=h
 .exact .inl (.inl (e _ _ h))
 .exact .inl (.inr ⟨o,e _ _ h⟩)
 exact .inr h
def ah.made{x dx C:af}(nx:H x=ak)(nd:H dx=ak)(k:∀b o,(upd (upd H dx (.own x)) x (.ins C dx [])) b=I o->b≠x->H1 b=I o):ah H H1:=λb o e=>k b o (by rw[aD (b_ e nx),aD (b_ e nd)];exact e) (b_ e nx)
def iQ{P:M aj}{sc:jP}(a:sc.kind= .function:=by rfl)(b:sc.isCoroutine=ao:=by rfl)(c:sc.isGenerator=ao:=by rfl)(d:N.Nodup:=by decide+kernel)(e:N.take P.length=P:=by rfl)(f:∀x∈P,sc.names.lookup x=I .local\/sc.names.lookup x=I .cell:=by decide+kernel)(g:∀y∈sc.names,y.2≠ .free:=by decide+kernel):gq N P sc:=⟨a,b,c,d,e,f,g⟩
def dY N sc{scope:jP}{own:M (aj×Nat)}(a:scope.kind= .function:=by rfl)(b:∀y∈scope.names,scope.names.lookup y.1=I y.2:=by decide+kernel)(c:∀p∈own,N[p.2]? =I p.1:=by decide+kernel)
  (d:∀y∈scope.names,y.2= .free->sc.names.lookup y.1=I .cell\/sc.names.lookup y.1=I .free:=by decide+kernel)(e:∀y∈scope.names,y.2= .local\/y.2= .cell->y.1∈own.map (·.1)\/y.1∉N:=by decide+kernel):v9 N sc scope own:=⟨a,b,c,d,e⟩
abbrev dh:M aj:=["book","numbers","row"]
abbrev bf(K:aR)(x:aj)(st:b5)(f:af)(fd:gC):=dg K x x st f fd
def dg.aX(F:dg K x a8 st f fd)N
  (u4:∀{a6:aq}{A:eZ}{b8:M gj}{s:aI}(_:N.Nodup)H vs Q E,d8 k (A.deeper (o_ a8 (cz st) s.heap.objs.size f a6))->sp vs H Q E->∃t,jB (rD aO P w K mg ai N a8 (cz st) f a6 A b8 s H E).vO (tF st) t/\t {nx:=λ_ U=>Q .bx U,rt:=Q} (start N vs) H)(len:∀vs H Q E,sp vs H Q E->vs.length=ps.length:=by intro _ _ _ _ h;cases h;subst_vars;rfl)(S:gq N ps (cz st):=by exact iQ):aM P w K mg ai aO (k+1) f fd ps sp:=F.ok S len λ_ _ _ _=>u4 S.nd
variable{a b:bE}{ta tb:TE}{r:R2}
def C4(hr:tW X r)(ha:PE X a ta)(hb:PE X b tb)(hs:y9 b:=by exact λ_ _=>G):PE X (.Subscript a b pos) (lF r ta tb):=CD hr ha hb hs
def bk(ha:PE X a ta)(hb:PE X b tb)(hs:y9 b:=by exact λ_ _=>G):PE X (.Subscript a b pos) (lF (za X.K) ta tb):=CD X_ ha hb hs
def dS(ha:PE X a ta)(hb:PE X b tb)(hs:y9 b:=by exact λ_ _=>G):PE X (.Subscript a b pos) (lF (CF X.K) ta tb):=CD K1 ha hb hs
variable{d4:fG}
def aS i{x f:aj}(hN:X.N[i]? =I x:=by rfl)(hv:rg X.env.scope x:=by first|exact cO G|exact cZ (cO G)|exact cZ (cZ G))(hd:(x==("__debug__":aj))=ao:=by decide)
  (fe:(x==("__classdict__":aj))=ao:=by decide)(hb:A7 (.Name x pos) f X.env (eval (.Name x pos) X.env)=eval (.Name x pos) X.env:=by rfl):PE X (.Attribute (.Name x pos) f d4) (vX X.K (jX i) f):=fD (J7 hN hv hd fe) hb
def aB(ha:PE X a ta)(h1:bS [a] X.env=(ao,eval a X.env)::bS [] X.env:=by rfl):PA X [a] (gI ta gH):=dw ha eT h1
def bu(ha:PE X a ta)(hb:PE X b tb)(h1:bS [a,b] X.env=(ao,eval a X.env)::bS [b] X.env:=by rfl)(h2:bS [b] X.env=(ao,eval b X.env)::bS [] X.env:=by rfl):PA X [a,b] (gI ta (gI tb gH)):=dw ha (dw hb eT h2) h1
variable{c:bE}{tc:TE}
def cg(ha:PE X a ta)(hb:PE X b tb)(hc:PE X c tc)(h1:bS [a,b,c] X.env=(ao,eval a X.env)::bS [b,c] X.env:=by rfl)(h2:bS [b,c] X.env=(ao,eval b X.env)::bS [c] X.env:=by rfl)(h3:bS [c] X.env=(ao,eval c X.env)::bS [] X.env:=by rfl):PA X [a,b,c] (gI ta (gI tb (gI tc gH))):=dw ha (dw hb (dw hc eT h3) h2) h1
variable{e:bE}{te:TE}
def aY i{x:aj}(hN:X.N.Nodup)(he:PE X e te)(hi:X.N[i]? =I x:=by rfl)(hx:Loc X.env.scope x:=by exact cO G)(hs:xP e (I (.Name x d4)) pos.line X.env=pure ao:=by rfl)(hf:X.fn x=aa\/X.env.scope.names.lookup x=I .local:=by first|exact .inl G|exact .inr G|assumption):
  PS X (.Assign [.Name x d4] e pos) (kK te (jC i)):=vP hN hi hx he hs hf
def cE i{x:aj}(hN:X.N.Nodup)(hi:X.N[i]? =I x:=by rfl)(hx:Loc X.env.scope x:=by exact cO G)(hf:X.fn x=aa\/X.env.scope.names.lookup x=I .local:=by first|exact .inl G|exact .inr G|assumption):PG X (.Name x pos) (jC i):=Cd hN hi hx hf
def aH(he:PE X e te):jB X [.Return (I e) pos] (lD te):=cA (WX he)
def bL{op:CmpOp}(ho:dX X (e7 op) r)(ha:PE X a ta)(hb:PE X b tb)(hm:qD op b=ao:=by exact jZ _):PT X (.Compare a [op] [b] pos) (vV (lF r ta tb)):=tT ho ha hb hm
end L2
namespace Sg
open Vbcuaf
theorem zu{α:Type}(key:α->Nat):∀(l m:M α),l.Pairwise (λa b=>key a<key b)->m.Pairwise (λa b=>key a<key b)->(∀x,x∈l↔x∈m)->l=m
 |[],[],_,_,_=>rfl|[],y::m,_,_,h=>aU ((h y).mpr bW) (by simp)|x::l,[],_,_,h=>aU ((h x).mp bW) (by simp)|x::l,y::m,hl,hm,h=>by
  rw[ez]at hl hm
  have SF:x=y:=by
   obtain e|e:=bh.mp ((h x).mp bW)
   .exact e
   obtain e'|e':=bh.mp ((h y).mpr bW)
   .exact e'.symm
   have h1:=hm.1 x e;have h2:=hl.1 y e';lia
  subst SF;refine cC (x:: ·) (zu key l m hl.2 hm.2 λz=>⟨λhz=> ?_,λhz=> ?_⟩)
  .obtain e|e:=bh.mp ((h z).mp (bZ _ hz))
   .subst e;exact aU (hl.1 z hz) (kh _)
   exact e
  obtain e|e:=bh.mp ((h z).mpr (bZ _ hz))
  .subst e;exact aU (hm.1 z hz) (kh _)
  exact e
noncomputable def fN(route:M Nat)(n:News):Bool:=
 if route.contains n.office=ao then ao
 else if n.office=route.headD 0 then n.kind==0
 else if n.office=route.getLastD 0 then(n.kind==2||n.kind==3)
 else n.kind==1
def cI(route:M Nat)(n:News):Nat:=2*route.idxOf n.office+(if n.kind=3 then 1 else 0)
def f7(n o:News):Bool:=decide (n.time<o.time)||(n.time==o.time&&decide (n.id<o.id))
variable{route:M Nat}{o:Nat}
def C5(h:o∈route):route.findIdx? (λx=>x==o)=I (route.idxOf o):=by
 induction route with
 |nil=>simp at h
 |cons a r ih=>
  rw[akz,UP];by_cases e:a=o
  .simp[e]
  have e2:(a==o)=ao:=by simp[e]
  rw[e2]
  have hm:o∈r:=by
   obtain q|q:=bh.mp h
   .exact aU q.symm e
   exact q
  simp[ih hm]
def LU(h:¬o∈route):route.findIdx? (λx=>x==o)=ak:=by rw[akA];intro x hx;simp;intro e;subst e;exact h hx
def LV(h:o∈route):route.idxOf o=0↔o=route.headD 0:=by
 cases route with
 |nil=>simp at h
 |cons a r=>
  rw[UP];by_cases e:a=o
  .simp[e]
  have e2:(a==o)=ao:=by simp[e]
  rw[e2];simp;exact λq=>e q.symm
theorem zv:∀{route:M Nat}{o:Nat},route.Nodup->o∈route->(route.idxOf o+1=route.length↔o=route.getLastD 0)
 |[],o,_,h=>by simp at h|[a],o,_,h=>by
  have e:o=a:=by simpa using h
  subst e;simp
 |a::b::r,o,nd,h=>by
  rw[k8]at nd;rw[UP];by_cases e:a=o
  .subst e
   have aw:a≠(a::b::r).getLastD 0:=by
    intro q
    have hm:(a::b::r).getLastD 0∈b::r:=by
     have:(a::b::r).getLastD 0=(b::r).getLast (by simp):=by rw[akB,List.getLast?_eq_some_getLast (by simp),akC,List.getLast_cons (by simp)]
     rw[this];exact List.getLast_mem _
    rw[<-q]at hm;exact nd.1 hm
   simp;simpa using aw
  have e2:(a==o)=ao:=by simp[e]
  have hm:o∈b::r:=by
   obtain q|q:=bh.mp h
   .exact aU q.symm e
   exact q
  rw[e2];have e3:(a::b::r).getLastD 0=(b::r).getLastD 0:=by simp[List.getLastD_cons]
  rw[e3,<-zv nd.2 hm];simp
def oM(h:o∈route):route.idxOf o<route.length:=List.idxOf_lt_length_of_mem h
variable{j:bw}{n:News}
theorem zw(nd:j.route.Nodup)(h2:2<=j.route.length)(hk:n.kind<4)(h:fN j.route n=aa):jV j n=I (cI j.route n):=by
 unfold fN at h;by_cases hc:n.office∈j.route
 .have ca:j.route.contains n.office=aa:=by simpa using hc
  rw[ca]at h;have al:=oM hc;have hh:=LV hc;have hl:=zv nd hc;unfold jV cI;rw[C5 hc];simp only[xN];rw[au (by simp)]at h;by_cases e1:n.office=j.route.headD 0
  .rw[av e1]at h;have e3:n.kind=0:=by simpa using h
   have e4:=hh.mpr e1;simp[e3,e4]
  rw[au e1]at h;have e4:=λq=>e1 (hh.mp q);by_cases e2:n.office=j.route.getLastD 0
  .rw[av e2]at h;have e5:=hl.mpr e2;have e3:n.kind=2\/n.kind=3:=by simpa using h
   rw[au (by lia),au (by lia),av e5];obtain e3|e3:=e3<;>simp[e3]
  rw[au e2]at h;have e5:=λq=>e2 (hl.mp q);have e3:n.kind=1:=by simpa using h
  rw[au (by lia),av e3,av (by lia)];simp[e3]
 have ca:j.route.contains n.office=ao:=by simpa using hc
 rw[av ca]at h;cases h
theorem zx(nd:j.route.Nodup)(h2:2<=j.route.length)(hk:n.kind<4)(h:fN j.route n=ao):jV j n=ak:=by
 unfold fN at h;unfold jV;by_cases hc:n.office∈j.route
 .have ca:j.route.contains n.office=aa:=by simpa using hc
  rw[ca]at h;have al:=oM hc;have hh:=LV hc;have hl:=zv nd hc;rw[C5 hc];simp only[xN];rw[au (by simp)]at h;by_cases e1:n.office=j.route.headD 0
  .rw[av e1]at h;have e3:n.kind≠0:=by simpa using h
   have e4:=hh.mpr e1;rw[au e3];by_cases e5:n.kind=1
   .rw[av e5,au (by lia)]
   rw[au e5,au (by lia)]
  rw[au e1]at h;have e4:=λq=>e1 (hh.mp q);by_cases e2:n.office=j.route.getLastD 0
  .rw[av e2]at h;have e5:=hl.mpr e2;have e3:n.kind≠2/\n.kind≠3:=by simpa using h
   by_cases e6:n.kind=0
   .rw[av e6,au e4]
   rw[au e6,av (by lia),au (by lia)]
  rw[au e2]at h;have e3:n.kind≠1:=by simpa using h
  by_cases e6:n.kind=0
  .rw[av e6,au e4]
  rw[au e6,au e3,au (λq=>e2 (hl.mp q))]
 rw[LU hc];rfl
section
variable{α:Type}(f:α->News)(route:M Nat)
noncomputable def mP(d:M (Nat×α))(a:α):M (Nat×α):=
 if fN route (f a)=aa then
  match d.lookup (cI route (f a))with
  |none=>d++[(cI route (f a),a)]
  |some b=>if f7 (f a) (f b)=aa then d.map (λx=>if x.1=cI route (f a)then(x.1,a)else x)else d
 else d
def eo(told:M α):M (Nat×α):=told.foldl (mP f route) []
noncomputable def lM(d:M (Nat×α))(way:M α)(s:Nat):M α:=
 match d.lookup s with
 |none=>way
 |some a=>if(match way.getLast? with|none=>aa|some b=>decide ((f b).time<=(f a).time))=aa then way++[a]else way
def jG(d:M (Nat×α))(ss:M Nat):M α:=ss.foldl (lM f d) []
end
theorem lookup_append_none{α:Type}{s:Nat}{a:α}:∀{d:M (Nat×α)}t,d.lookup s=ak->(d++[(s,a)]).lookup t=if t=s then I a else d.lookup t
 |[],t,_=>by
  rw[ku,eK,List.lookup_nil];by_cases e:t=s
  .simp[e]
  have e':(t==s)=ao:=by simp[e]
  rw[e',au e]
 |(u,b)::d,t,h=>by
  rw[eK]at h;by_cases e:s=u
  .simp[e]at h
  have e':(s==u)=ao:=by simp[e]
  rw[e']at h;rw[sR,eK,eK,lookup_append_none (a:=a) t h];by_cases e2:t=u
  .subst e2;simp[ie e]
  have e3:(t==u)=ao:=by simp[e2]
  simp[e3]
theorem t_{α:Type}{s:Nat}{a:α}:∀{d:M (Nat×α)}t,(d.map (λx=>if x.1=s then(x.1,a)else x)).lookup t=(d.lookup t).map (λb=>if t=s then a else b)
 |[],t=>by simp|(u,b)::d,t=>by
  have ih:=t_ (s:=s) (a:=a) (d:=d) t;rw[b9];by_cases e:t=u
  .subst e;by_cases e2:t=s
   .simp[e2,eK]
   simp[e2,eK]
  have e3:(t==u)=ao:=by simp[e]
  by_cases e2:u=s
  .rw[av e2,eK,eK,e3];exact ih
  rw[au e2,eK,eK,e3];exact ih
variable{α:Type}{s:Nat}
def LW{a:α}(d:M (Nat×α)):(d.map (λx=>if x.1=s then(x.1,a)else x)).map (·.1)=d.map (·.1):=by rw[bQ];refine kB λx _=> ?_;simp only[qL];split<;>rfl
theorem ua{α:Type}{s:Nat}:∀{d:M (Nat×α)},d.lookup s=ak↔¬s∈d.map (·.1)
 |[]=>by simp|(u,b)::d=>by
  rw[eK,b9,bh];by_cases e:s=u
  .simp[e]
  have e3:(s==u)=ao:=by simp[e]
  rw[e3];simp only;rw[ua];constructor
  .intro h q;obtain q|q:=q
   .exact e q
   exact h q
  intro h q;exact h (cZ q)
def C6{a:α}{d:M (Nat×α)}(h:d.lookup s=I a):s∈d.map (·.1):=by apply Classical.byContradiction;intro q;rw[ua.mpr q]at h;cases h
structure p8{α:Type}(f:α->News)(route:M Nat)(pre:M α)(d:M (Nat×α)):Prop where
 nd:(d.map (·.1)).Nodup
 j4:∀s a,d.lookup s=I a->a∈pre/\fN route (f a)=aa/\cI route (f a)=s/\∀b∈pre,fN route (f b)=aa->cI route (f b)=s->f7 (f b) (f a)=ao
 none_:∀s,d.lookup s=ak->∀b∈pre,fN route (f b)=aa->cI route (f b)≠s
def wk(n:News):f7 n n=ao:=by unfold f7;simp
variable{a b:News}
theorem ZK{c:News}(h:f7 a b=aa)(h2:f7 c b=ao):f7 c a=ao:=by unfold f7 at*;simp at*;lia
def p8.step{f:α->News}{pre:M α}{d:M (Nat×α)}(F:p8 f route pre d)a:p8 f route (pre++[a]) (mP f route d a):=by
 unfold mP;by_cases hc:fN route (f a)=aa
 .rw[av hc];cases e:d.lookup (cI route (f a))with
  |none=>
   exists ?_,λs b h=> ?_,λs h b hb iv=> ?_
   .rw[dH,ID];refine⟨F.nd,by simp,?_⟩;intro x hx y hy;have ey:y=cI route (f a):=by simpa using hy
    subst ey;intro q;subst q;exact ua.mp e hx
   .simp only at h;rw[lookup_append_none s e]at h;by_cases es:s=cI route (f a)
    .rw[av es]at h;cases h;refine⟨by simp,hc,es.symm,λb hb iv hs=> ?_⟩;obtain q|q:=dG.mp hb
     .exact aU (hs.trans es) (F.none_ _ e b q iv)
     have:b=a:=by simpa using q
     subst this;exact wk _
    rw[au es]at h;obtain⟨h1,h2,h3,h4⟩:=F.j4 s b h;refine⟨k6 _ h1,h2,h3,λc ca eI hs=> ?_⟩;obtain q|q:=dG.mp ca
    .exact h4 c q eI hs
    have:c=a:=by simpa using q
    subst this;exact aU hs.symm es
   simp only at h;rw[lookup_append_none s e]at h;by_cases es:s=cI route (f a)
   .rw[av es]at h;cases h
   rw[au es]at h;obtain q|q:=dG.mp hb
   .exact F.none_ s h b q iv
   have:b=a:=by simpa using q
   subst this;exact λz=>es z.symm
  |some fw=>
   obtain⟨g1,g2,g3,ev⟩:=F.j4 _ _ e;by_cases hg:f7 (f a) (f fw)=aa
   .simp only[hg,l5];exists by rw[LW];exact F.nd,λs b h=> ?_,λs h b hb iv=> ?_
    .rw[t_]at h;cases e2:d.lookup s with
     |none=>rw[e2]at h;cases h
     |some b1=>
      rw[e2]at h;simp only[gh,lq]at h;by_cases es:s=cI route (f a)
      .rw[av es]at h;subst h;refine⟨by simp,hc,es.symm,λc ca eI hs=> ?_⟩;obtain q|q:=dG.mp ca
       .exact ZK hg (ev c q eI (hs.trans es))
       have:c=a:=by simpa using q
       subst this;exact wk _
      rw[au es]at h;subst h;obtain⟨h1,h2,h3,h4⟩:=F.j4 s b1 e2;refine⟨k6 _ h1,h2,h3,λc ca eI hs=> ?_⟩;obtain q|q:=dG.mp ca
      .exact h4 c q eI hs
      have:c=a:=by simpa using q
      subst this;exact aU hs.symm es
    rw[t_]at h;cases e2:d.lookup s with
    |some b1=>rw[e2]at h;cases h
    |none=>
     obtain q|q:=dG.mp hb
     .exact F.none_ s e2 b q iv
     have:b=a:=by simpa using q
     subst this;intro z;rw[z,e2]at e;cases e
   have LX:f7 (f a) (f fw)=ao:=by simpa using hg
   simp only[LX,sO,l6];exists F.nd,λs b h=> ?_,λs h b hb iv=> ?_
   .obtain⟨h1,h2,h3,h4⟩:=F.j4 s b h;refine⟨k6 _ h1,h2,h3,λc ca eI hs=> ?_⟩;obtain q|q:=dG.mp ca
    .exact h4 c q eI hs
    have:c=a:=by simpa using q
    subst this;rw[hs]at e;rw[h]at e;cases e;exact LX
   obtain q|q:=dG.mp hb
   .exact F.none_ s h b q iv
   have:b=a:=by simpa using q
   subst this;intro z;rw[z,h]at e;cases e
 rw[au hc];exists F.nd,λs b h=> ?_,λs h b hb iv=> ?_
 .obtain⟨h1,h2,h3,h4⟩:=F.j4 s b h;refine⟨k6 _ h1,h2,h3,λc ca eI hs=> ?_⟩;obtain q|q:=dG.mp ca
  .exact h4 c q eI hs
  have:c=a:=by simpa using q
  subst this;exact aU eI hc
 obtain q|q:=dG.mp hb
 .exact F.none_ s h b q iv
 have:b=a:=by simpa using q
 subst this;exact aU iv hc
theorem LY{α:Type}{f:α->News}{route:M Nat}:∀told pre d,p8 f route pre d->p8 f route (pre++told) (told.foldl (mP f route) d)|[],pre,d,F=>by simpa using F|a::r,pre,d,F=>by have h:=LY r (pre++[a]) _ (F.step a);rw[iu]at h;exact h
def wm f route(told:M α):p8 f route told (eo f route told):=by simpa[eo]using(LY (f:=f) (route:=route) told [] [] ⟨by simp,λs a h=>by simp at h,λs _ b hb=>by simp at hb⟩)
def jg(x y:Nat×News):Bool:=decide (x.1<y.1)||(x.1==y.1&&f7 x.2 y.2)
def ZL x y:sS [x.1,x.2.time,x.2.id] [y.1,y.2.time,y.2.id]=jg x y:=by unfold jg f7;simp[sS]
theorem C7 x y:∀l,y∈pF x l↔y=x\/y∈l
 |[]=>by simp[pF]|z::r=>by
  unfold pF;split
  .simp
  rw[bh,C7 x y r,bh];constructor
  .rintro(h|h|h)<;>simp[h]
  rintro(h|h|h)<;>simp[h]
variable{x y:Nat×News}
theorem ZM{z:Nat×News}(h1:jg y x=ao)(h2:jg z y=ao):jg z x=ao:=by unfold jg f7 at*;simp at*;lia
theorem LZ(h1:jg y x=aa):jg x y=ao:=by unfold jg f7 at*;simp at*;lia
theorem L0 x:∀l,l.Pairwise (λa b=>jg b a=ao)->(pF x l).Pairwise (λa b=>jg b a=ao)
 |[],_=>by simp[pF]|z::r,h=>by
  unfold pF;rw[ZL];rw[ez]at h;split
  .rename_i al;rw[ez,ez];exists λy hy=> ?_,h;obtain e|e:=bh.mp hy
   .subst e;exact LZ al
   exact ZM (LZ al) (h.1 y e)
  rename_i al;have Q1:jg x z=ao:=by simpa using al
  rw[ez];exists λy hy=> ?_,L0 x r h.2;obtain e|e:=(C7 x y r).mp hy
  .subst e;exact Q1
  exact h.1 y e
def oN(j:bw)(l:M News):M (Nat×News):=l.foldl (λl n=>match jV j n with
 |some s=>pF (s,n) l|none=>l) []
theorem zy(j:bw):∀(l:M News)acc,acc.Pairwise (λa b=>jg b a=ao)->
  (l.foldl (λl n=>match jV j n with|some s=>pF (s,n) l|none=>l) acc).Pairwise (λa b=>jg b a=ao)/\
  ∀x,x∈l.foldl (λl n=>match jV j n with|some s=>pF (s,n) l|none=>l) acc↔x∈acc\/(x.2∈l/\jV j x.2=I x.1)
 |[],acc,h=>by simp[h]
 |n::r,acc,h=>by
  rw[qH];cases e:jV j n with
  |none=>
   obtain⟨h1,h2⟩:=zy j r acc h;refine⟨h1,λx=> ?_⟩;rw[h2 x];constructor
   .rintro(q|⟨q1,q2⟩)
    .exact cO q
    exact cZ ⟨bZ _ q1,q2⟩
   rintro(q|⟨q1,q2⟩)
   .exact cO q
   obtain z|z:=bh.mp q1
   .rw[z,e]at q2;cases q2
   exact cZ ⟨z,q2⟩
  |some s=>
   obtain⟨h1,h2⟩:=zy j r (pF (s,n) acc) (L0 _ _ h);refine⟨h1,λx=> ?_⟩;rw[h2 x,C7];constructor
   .rintro((q|q)|⟨q1,q2⟩)
    .subst q;exact cZ ⟨bW,e⟩
    .exact cO q
    exact cZ ⟨bZ _ q1,q2⟩
   rintro(q|⟨q1,q2⟩)
   .exact cO (cZ q)
   obtain z|z:=bh.mp q1
   .refine cO (cO ?_);rw[z,e]at q2;cases q2;exact mh G z
   exact cZ ⟨z,q2⟩
theorem C8:∀l,l.Pairwise (λa b=>jg b a=ao)->
  (lu l).Pairwise (λa b=>a.1<b.1)/\(∀x,x∈lu l->x∈l/\∀y∈l,y.1=x.1->f7 y.2 x.2=ao)/\(∀y∈l,∃x∈lu l,x.1=y.1)
 |[],_=>by simp[lu]
 |z::r,h=>by
  rw[ez]at h;obtain⟨i1,i2,mn⟩:=C8 r h.2
  have hz:∀y∈r,z.1<=y.1/\(y.1=z.1->f7 y.2 z.2=ao):=λy hy=>by have q:=h.1 y hy;unfold jg at q;simp at q;exists q.1,λe=>q.2 e
  unfold lu;cases e:lu r with
  |nil=>
   have hr:r=[]:=by
    cases r with
    |nil=>rfl
    |cons a b=>obtain⟨x,hx,_⟩:=mn a bW;rw[e]at hx;simp at hx
   subst hr;simp;exact wk _
  |cons y q=>
   rw[e]at i1 i2 mn;simp only;rw[ez]at i1;split
   .rename_i wy;exists ?_,λx hx=> ?_,λw hw=> ?_
    .rw[ez];exists λb hb=>by have:=i1.1 b hb;lia,i1.2
    .obtain ex|ex:=bh.mp hx
     .subst ex;refine⟨bW,λw hw fl=> ?_⟩;obtain q1|q1:=bh.mp hw
      .subst q1;exact wk _
      exact(hz w q1).2 fl
     obtain⟨k1,k2⟩:=i2 x (bZ _ ex);refine⟨bZ _ k1,λw hw fl=> ?_⟩;obtain q1|q1:=bh.mp hw
     .subst q1;have:=i1.1 x ex;lia
     exact k2 w q1 fl
    obtain q1|q1:=bh.mp hw
    .subst q1;exists w,bW,G
    obtain⟨x,hx,ex⟩:=mn w q1;obtain q2|q2:=bh.mp hx
    .subst q2;exact⟨z,bW,by lia⟩
    exists x,bZ _ q2,ex
   rename_i wy
   have ZN:z.1<y.1:=by have:=(hz y (i2 y bW).1).1;lia
   exists ?_,λx hx=> ?_,λw hw=> ?_
   .rw[ez,ez];exists λb hb=> ?_,i1;obtain q1|q1:=bh.mp hb
    .subst q1;exact ZN
    have:=i1.1 b q1;lia
   .obtain ex|ex:=bh.mp hx
    .subst ex;refine⟨bW,λw hw fl=> ?_⟩;obtain q1|q1:=bh.mp hw
     .subst q1;exact wk _
     exact(hz w q1).2 fl
    obtain⟨k1,k2⟩:=i2 x ex;refine⟨bZ _ k1,λw hw fl=> ?_⟩;obtain q1|q1:=bh.mp hw
    .subst q1
     have:y.1<=x.1:=by
      obtain q2|q2:=bh.mp ex
      .subst q2;exact aZ _
      exact uU (i1.1 x q2)
     lia
    exact k2 w q1 fl
   obtain q1|q1:=bh.mp hw
   .subst q1;exists w,bW,G
   obtain⟨x,hx,ex⟩:=mn w q1;exists x,bZ _ hx,ex
def atS(f:α->News)(d:M (Nat×α))(ss:M Nat):M (Nat×News):=ss.filterMap λs=>(d.lookup s).map λa=>(s,f a)
theorem L1{m:News}(h1:f7 n m=ao)(h2:f7 m n=ao):n.id=m.id:=by unfold f7 at*;simp at*;lia
theorem wo{α:Type}{f:α->News}:∀{l:M α},(l.map λa=>(f a).id).Nodup->∀a∈l,∀b∈l,(f a).id=(f b).id->a=b
 |[],_,a,ha,_,_,_=>by simp at ha|x::l,h,a,ha,b,hb,e=>by
  rw[b9,k8]at h;obtain q1|q1:=bh.mp ha<;>obtain q2|q2:=bh.mp hb
  .rw[q1,q2]
  .subst q1;exact aU (b7.mpr ⟨b,q2,e.symm⟩) h.1
  .subst q2;exact aU (b7.mpr ⟨a,q1,e⟩) h.1
  exact wo h.2 a q1 b q2 e
variable{ss:M Nat}
def L3{f:α->News}(nd:j.route.Nodup)(h2:2<=j.route.length){told:M α}(hk:∀a∈told,(f a).kind<4)(eP:(told.map λa=>(f a).id).Nodup)
  {d:M (Nat×α)}(F:p8 f j.route told d)(hs:ss.Pairwise (· < ·))(hm:∀s,s∈ss↔s∈d.map (·.1)):atS f d ss=lu (oN j (told.map f)):=by
 obtain⟨p1,p2⟩:=zy j (told.map f) [] (by simp)
 have EQ:∀x,x∈oN j (told.map f)↔(x.2∈told.map f/\jV j x.2=I x.1):=λx=>by have:=p2 x;simpa[oN]using this
 obtain⟨q1,q2,q3⟩:=C8 _ (p1)
 have st:∀b∈told,∀s,jV j (f b)=I s↔(fN j.route (f b)=aa/\cI j.route (f b)=s):=λb hb s=>by
  by_cases hc:fN j.route (f b)=aa
  .rw[zw nd h2 (hk b hb) hc];simp[hc]
  have ca:fN j.route (f b)=ao:=by simpa using hc
  rw[zx nd h2 (hk b hb) ca];simp[ca]
 refine zu (λx=>x.1) _ _ ?_ q1 λx=>⟨λhx=> ?_,λhx=> ?_⟩
 .have:∀(l:M Nat),l.Pairwise (· < ·)->(l.filterMap λs=>(d.lookup s).map λa=>(s,f a)).Pairwise (λa b=>a.1<b.1):=by
   intro l hl;rw[UQ];refine hl.imp ?_;intro a b ix x hx y hy;cases e1:d.lookup a with
   |none=>rw[e1]at hx;simp at hx
   |some u=>
    cases e2:d.lookup b with
    |none=>rw[e2]at hy;simp at hy
    |some v=>rw[e1]at hx;rw[e2]at hy;simp at hx hy;subst hx;subst hy;exact ix
  exact this ss hs
 .obtain⟨s,i3,e⟩:=n7.mp hx;cases e1:d.lookup s with|none=>rw[e1]at e;simp at e|some a=>rw[e1]at e;simp at e;subst e;obtain⟨g1,g2,g3,ev⟩:=F.j4 s a e1;have a7:(s,f a)∈oN j (told.map f):=(EQ _).mpr ⟨b7.mpr ⟨a,g1,G⟩,(st a g1 s).mpr ⟨g2,g3⟩⟩;obtain⟨y,hy,ey⟩:=q3 _ a7;obtain⟨k1,k2⟩:=q2 y hy;obtain⟨m1,m2⟩:=(EQ y).mp k1;obtain⟨b,hb,eb⟩:=b7.mp m1;have SL:y.1=s:=ey;rw[<-eb,SL]at m2;obtain⟨n1,n2⟩:=(st b hb s).mp m2;have z1:=ev b hb n1 n2;have z2:=k2 _ a7 SL.symm;rw[<-eb]at z2;have ix:=wo eP b hb a g1 (L1 z1 z2);subst ix;have:y=(s,f b):=mh SL eb.symm;rw[<-this];exact hy
 obtain⟨k1,k2⟩:=q2 x hx;obtain⟨m1,m2⟩:=(EQ x).mp k1;obtain⟨b,hb,eb⟩:=b7.mp m1;rw[<-eb]at m2;obtain⟨n1,n2⟩:=(st b hb x.1).mp m2;cases e1:d.lookup x.1 with
 |none=>exact aU n2 (F.none_ _ e1 b hb n1)
 |some a=>obtain⟨g1,g2,g3,ev⟩:=F.j4 _ a e1;have a7:(x.1,f a)∈oN j (told.map f):=(EQ _).mpr ⟨b7.mpr ⟨a,g1,G⟩,(st a g1 x.1).mpr ⟨g2,g3⟩⟩;have z1:=ev b hb n1 n2;have z2:=k2 _ a7 G;rw[<-eb]at z2;have ix:=wo eP b hb a g1 (L1 z1 z2);subst ix;refine n7.mpr ⟨x.1,(hm _).mpr (C6 e1),?_⟩;rw[e1];simp only[gh,lq];exact mh G eb
theorem L4{α:Type}{f:α->News}{route:M Nat}{d:M (Nat×α)}(bi:∀s a,d.lookup s=I a->cI route (f a)=s):∀ss way,
  (ss.foldl (lM f d) way).map (λa=>(cI route (f a),f a))=way.map (λa=>(cI route (f a),f a))++jw ((way.getLast?.map λb=>(f b).time).getD 0) (atS f d ss)
 |[],way=>by simp[atS,jw]
 |s::r,way=>by
  rw[qH,L4 bi r];unfold lM atS;rw[n5];cases e:d.lookup s with
  |none=>simp
  |some a=>
   simp only[gh];have hs:=bi s a e;cases hl:way.getLast? with
   |none=>
    have hw:way=[]:=by simpa using hl
    subst hw;simp[jw,hs]
   |some b=>
    simp only;by_cases ht:(f b).time<=(f a).time
    .have:¬(f a).time<(f b).time:=by lia
     simp[ht,jw,this,hs]
    have:(f a).time<(f b).time:=by lia
    simp[ht,jw,this,hl]
def ZO{f:α->News}(nd:j.route.Nodup)(h2:2<=j.route.length){told:M α}(hk:∀a∈told,(f a).kind<4)(eP:(told.map λa=>(f a).id).Nodup)
  (hs:ss.Pairwise (· < ·))(hm:∀s,s∈ss↔s∈(eo f j.route told).map (·.1)):
  (jG f (eo f j.route told) ss).map (λa=>(cI j.route (f a),f a))=jw 0 (lu (oN j (told.map f))):=by
 have F:=wm f j.route told;unfold jG;rw[L4 (λs a e=>(F.j4 s a e).2.2.1),L3 nd h2 hk eP F hs hm];simp
def jh(k:M News):Prop:=k.Pairwise λa b=>a.id<b.id
def jH(k:M News)(s:Nat):aG News:=k.find? λn=>n.id==s
variable{k:M News}
def C9(h:jH k s=I n):n∈k/\n.id=s:=by exact⟨IE h,by simpa using(UR h)⟩
theorem C_(hs:jh k)(h:n∈k):jH k n.id=I n:=by
 induction k with
 |nil=>simp at h
 |cons a r ih=>
  unfold jh at hs;rw[ez]at hs;unfold jH;rw[iw];obtain e|e:=bh.mp h
  .subst e;simp
  have:=hs.1 n e;have e2:(a.id==n.id)=ao:=by simp;lia
  rw[e2];exact ih hs.2 e
theorem zA{n x:News}:∀{k:M News},x∈nj n k->x=n\/x∈k
 |[],h=>by simp[nj]at h;exact cO h|y::r,h=>by
  unfold nj at h;split at h
  .obtain e|e:=bh.mp h
   .exact cO e
   exact cZ e
  split at h
  .split at h
   .obtain e|e:=bh.mp h
    .exact cO e
    exact cZ (bZ _ e)
   exact cZ h
  obtain e|e:=bh.mp h
  .exact cZ (e▸bW)
  obtain q|q:=zA e
  .exact cO q
  exact cZ (bZ _ q)
theorem zB(n:News):∀k,jh k->jh (nj n k)
 |[],_=>by simp[nj,jh]|y::r,h=>by
  unfold jh at h;have h0:=h;rw[ez]at h;unfold nj;split
  .rename_i al;unfold jh;rw[ez];exists λx hx=> ?_,h0;obtain e|e:=bh.mp hx
   .subst e;exact al
   have:=h.1 x e;lia
  split
  .rename_i aw ST;split
   .unfold jh;rw[ez];exists λx hx=>by have:=h.1 x hx;lia,h.2
   exact h0
  rename_i h1 h2;unfold jh;rw[ez];exists λx hx=> ?_,zB n r h.2;obtain e|e:=zA hx
  .subst e;lia
  exact h.1 x e
def oO(x:News)r s:jH (x::r) s=if x.id=s then I x else jH r s:=by
 unfold jH;rw[iw];by_cases e:x.id=s
 .simp[e]
 have e2:(x.id==s)=ao:=by simp[e]
 rw[e2,au e]
theorem ZP(h:∀x∈k,s<x.id):jH k s=ak:=by unfold jH;rw[US];intro x hx;have:=h x hx;simp;lia
def later(o:aG News)(n:News):News:=match o with|none=>n|some x=>if sS (cM x) (cM n)=aa then n else x
theorem zC(n:News)s:∀k,jh k->jH (nj n k) s=if s=n.id then I (later (jH k s) n)else jH k s
 |[],_=>by
  unfold nj;rw[oO];by_cases e:n.id=s
  .rw[av e,av e.symm];rfl
  rw[au e,au (λq=>e q.symm)]
 |y::r,h=>by
  have h0:=h;unfold jh at h;rw[ez]at h;unfold nj;split
  .rename_i al;rw[oO];by_cases e:n.id=s
   .rw[av e,av e.symm]
    have:jH (y::r) s=ak:=ZP λx hx=>by
     obtain q|q:=bh.mp hx
     .subst q;lia
     have:=h.1 x q;lia
    rw[this];rfl
   rw[au e,au (λq=>e q.symm)]
  split
  .rename_i aw ST;by_cases e:s=n.id
   .have ey:y.id=s:=by lia
    rw[av e,oO y,av ey];unfold later;simp only;split
    .rw[oO,av (by lia)]
    rw[oO,av ey]
   have ey:¬y.id=s:=by lia
   rw[au e];split
   .rw[oO,oO,au (by lia),au ey]
   rfl
  rename_i h1 h2;rw[oO,oO,zC n s r h.2];by_cases e:s=n.id
  .rw[av e,av e,au (by lia),au (by lia)]
  rw[au e,au e]
section
variable{α:Type}(f:α->News)
noncomputable def putD(d:M (Nat×α))(a:α):M (Nat×α):=
 match d.lookup (f a).id with
 |none=>d++[((f a).id,a)]
 |some b=>if sS (cM (f b)) (cM (f a))=aa then d.map (λx=>if x.1=(f a).id then(x.1,a)else x)else d
def gu(d:M (Nat×α))(l:M α):M (Nat×α):=l.foldl (putD f) d
end
structure KD{α:Type}(f:α->News)(d:M (Nat×α))(k:M News):Prop where
 nd:(d.map (·.1)).Nodup
 id:∀s a,d.lookup s=I a->(f a).id=s
 iG:jh k
 at_:∀s,(d.lookup s).map f=jH k s
def KD.nil(f:α->News):KD f [] []:=⟨by simp,λs a h=>by simp at h,by simp[jh],λs=>by simp[jH]⟩
def KD.put{f:α->News}{d:M (Nat×α)}(D:KD f d k)a:KD f (putD f d a) (nj (f a) k):=by
 have hk:=D.at_ (f a).id;unfold putD;cases e:d.lookup (f a).id with
 |none=>
  rw[e]at hk;exists ?_,λs b h=> ?_,zB _ _ D.iG,λs=> ?_
  .simp only;rw[dH,ID];refine⟨D.nd,by simp,?_⟩;intro x hx y hy;have ey:y=(f a).id:=by simpa using hy
   subst ey;intro q;subst q;exact ua.mp e hx
  .simp only at h;rw[lookup_append_none s e]at h;by_cases es:s=(f a).id
   .rw[av es]at h;cases h;exact es.symm
   rw[au es]at h;exact D.id s b h
  simp only;rw[lookup_append_none s e,zC _ _ _ D.iG];by_cases es:s=(f a).id
  .rw[av es,av es,es,<-hk];rfl
  rw[au es,au es];exact D.at_ s
 |some b=>
  rw[e]at hk;simp only;split
  .rename_i hl;exists by rw[LW];exact D.nd,λs c h=> ?_,zB _ _ D.iG,λs=> ?_
   .rw[t_]at h;cases e2:d.lookup s with
    |none=>rw[e2]at h;cases h
    |some b1=>
     rw[e2]at h;simp only[gh,lq]at h;by_cases es:s=(f a).id
     .rw[av es]at h;subst h;exact es.symm
     rw[au es]at h;subst h;exact D.id s b1 e2
   rw[t_,zC _ _ _ D.iG];by_cases es:s=(f a).id
   .rw[av es,es,e,<-hk];simp[later,hl]
   rw[au es,<-D.at_ s];cases d.lookup s<;>simp[es]
  rename_i hl;refine⟨D.nd,D.id,zB _ _ D.iG,λs=> ?_⟩;rw[zC _ _ _ D.iG];by_cases es:s=(f a).id
  .rw[av es,es,e,<-hk];simp[later,hl]
  rw[au es];exact D.at_ s
theorem KD.Dc{α:Type}{f:α->News}:∀l{d:M (Nat×α)}{k:M News},KD f d k->KD f (gu f d l) (putAll (l.map f) k)|[],d,k,D=>D|a::l,d,k,D=>KD.Dc l (D.put a)
theorem KD.zD{f:α->News}{d:M (Nat×α)}(D:KD f d k)(hs:ss.Pairwise (· < ·))(hm:∀s,s∈ss↔s∈d.map (·.1)):
  (ss.filterMap λs=>d.lookup s).map f=k:=by
 refine zu (λ(n:News)=>n.id) _ _ ?_ D.iG λn=>⟨λh=> ?_,λh=> ?_⟩
 .rw[pG,UQ];refine hs.imp ?_;intro s t bi a ha b hb;have h1:=D.id s a ha;have h2:=D.id t b hb;lia
 .obtain⟨a,ha,e⟩:=b7.mp h;obtain⟨s,_,il⟩:=n7.mp ha;have:=D.at_ s;rw[il]at this;simp only[gh]at this;rw[<-e];exact(C9 this.symm).1
 have h1:=D.at_ n.id;rw[C_ D.iG h]at h1;cases e:d.lookup n.id with
 |none=>rw[e]at h1;cases h1
 |some a=>rw[e]at h1;simp only[gh,lq]at h1;exact b7.mpr ⟨a,n7.mpr ⟨n.id,(hm _).mpr (C6 e),e⟩,h1⟩
theorem uc{α:Type}:∀{d:M (Nat×α)},(d.map (·.1)).Nodup->∀{x:Nat×α},x∈d->d.lookup x.1=I x.2
 |[],_,x,h=>by simp at h|y::d,hn,x,h=>by
  rw[b9,k8]at hn;rw[eK];obtain e|e:=bh.mp h
  .subst e;simp
  have ne:(x.1==y.1)=ao:=by simp;intro q;exact hn.1 (q▸b7.mpr ⟨x,e,G⟩)
  rw[ne];exact uc hn.2 e
theorem mem_of_lookup{α:Type}{s:Nat}{a:α}:∀{d:M (Nat×α)},d.lookup s=I a->(s,a)∈d
 |[],h=>by simp at h|y::d,h=>by
  rw[eK]at h;by_cases e:s=y.1
  .have e2:(s==y.1)=aa:=by simp[e]
   rw[e2]at h;have:y.2=a:=by simpa using h
   have:y=(s,a):=mh e.symm this;rw[<-this];exact bW
  have e2:(s==y.1)=ao:=by simp[e]
  rw[e2]at h;exact bZ _ (mem_of_lookup h)
theorem jh.nodup(h:jh k):k.Nodup:=by refine akD ?_ h;intro a b ix e;subst e;lia
def KD.perm{f:α->News}{d:M (Nat×α)}(D:KD f d k):(d.map λx=>f x.2).Perm k:=by
 have nd:(d.map λx=>f x.2).Nodup:=by have h:=D.nd;unfold Bu at*;rw[pG]at*;refine akE ?_ h;intro x y hx hy SF e;have h1:=D.id x.1 x.2 (uc D.nd hx);rw[e]at h1;exact SF (h1.symm.trans (D.id y.1 y.2 (uc D.nd hy)))
 rw[UT nd D.iG.nodup];intro n;constructor
 .intro h;obtain⟨x,hx,e⟩:=b7.mp h;have:=D.at_ x.1;rw[uc D.nd hx]at this;simp only[gh]at this;rw[<-e];exact(C9 this.symm).1
 intro h;have h1:=D.at_ n.id;rw[C_ D.iG h]at h1;cases e:d.lookup n.id with
 |none=>rw[e]at h1;cases h1
 |some a=>rw[e]at h1;simp only[gh,lq]at h1;exact b7.mpr ⟨(n.id,a),mem_of_lookup e,h1⟩
def KD.length{α:Type}{f:α->News}{d:M (Nat×α)}{k:M News}(D:KD f d k):d.length=k.length:=by have:=D.perm.length_eq;simpa using this
def ZQ(h:cM a=cM b):a=b:=by unfold cM at h;cases a;cases b;simp at h;simp[h]
def contains_iff(hs:jh k)(n:News):k.contains n=aa↔jH k n.id=I n:=by
 rw[UU];constructor
 .exact C_ hs
 intro h;exact(C9 h).1
def KD.changed{f:α->News}{d d':M (Nat×α)}{k':M News}(D:KD f d k)(D':KD f d' k'):
  (d'.filter λx=>match d.lookup x.1 with|none=>aa|some b=> !decide (cM (f b)=cM (f x.2))).length=(k'.filter λn=> !k.contains n).length:=by
 rw[<-((D'.perm.filter λn=> !k.contains n).length_eq),oj,aE];refine cC qG (Bv λx hx=> ?_);simp only[qL];have e1:=D.at_ x.1;have e2:=contains_iff D.iG (f x.2);rw[D'.id x.1 x.2 (uc D'.nd hx)]at e2;cases e:d.lookup x.1 with
 |none=>
  rw[e]at e1;simp only;rw[<-e1]at e2
  have:k.contains (f x.2)=ao:=by rw[IF];intro q;have:=e2.mp q;simp at this
  rw[this];rfl
 |some b=>
  rw[e]at e1;simp only;rw[<-e1]at e2;simp only[gh,lq]at e2;by_cases q:f b=f x.2
  .rw[e2.mpr q,q];simp
  have:k.contains (f x.2)=ao:=by rw[IF];intro z;exact q (e2.mp z)
  rw[this];have:¬cM (f b)=cM (f x.2):=λz=>q (ZQ z);simp[this]
def ZR{l k:M News}{h:House}:known {h with tells:=h.tells++[l]}=putAll l (known h):=by unfold known knownBehind;simp[pA,pH]
structure oQ where
 j:Nat
 share:Nat
 left:Nat
 cleared:aG Nat
def dZ(s:oQ)(t:Nat):Bool:=decide (s.left<=t)&&(match s.cleared with|none=>aa|some c=>decide (t<c))
def jI(k:M News)(j:bw):aG oQ:=(kC k j).map λb=>⟨j.number,iy j.amount j.rate,b,om k j⟩
def iH(k:M News)(js:M bw)(p:Nat):M oQ:=(js.filter λj=>j.principal==p).filterMap (jI k)
theorem ZS k(j:bw)t:isOut k j t=(match jI k j with|none=>ao|some s=>dZ s t):=by
 unfold isOut jI dZ;cases kC k j with
 |none=>simp
 |some b=>
  simp;cases om k j with
  |none=>simp
  |some c=>simp;by_cases h1:b<=t<;>by_cases h2:c<=t<;>simp[h1,h2]<;>lia
theorem Dd{β:Type}k p t(g:oQ->β)(g':bw->β)(hg:∀j s,jI k j=I s->g s=g' j):∀js:M bw,
  ((iH k js p).filter λs=>dZ s t).map g=(outAt k js p t).map g'
 |[]=>by simp[iH,outAt]
 |j::js=>by
  have ih:=Dd k p t g g' hg js;unfold iH outAt at*;rw[kD,kD];by_cases hp:(j.principal==p)=aa
  .rw[av hp,n5,ZS];cases e:jI k j with
   |none=>simp only[hp,eB];simpa using ih|some s=>
    simp only[hp,eB];rw[kD];by_cases ho:dZ s t=aa
    .rw[av ho,av ho,b9,b9,ih,hg j s e]
    rw[au ho,au ho,ih]
  rw[au hp];have SU:(j.principal==p)=ao:=by simpa using hp
  simp only[SU,ig,sO,l6];exact ih
def L5 k js p t:((iH k js p).filter λs=>dZ s t).map (·.j)=(outAt k js p t).map (·.number):=
 Dd k p t _ _ (λj s h=>by
  unfold jI at h;cases e:kC k j with
  |none=>rw[e]at h;cases h
  |some b=>rw[e]at h;cases h;rfl) js
def L6 k js p t:((iH k js p).filter λs=>dZ s t).map (·.share)=(outAt k js p t).map λj=>iy j.amount j.rate:=
 Dd k p t _ _ (λj s h=>by
  unfold jI at h;cases e:kC k j with
  |none=>rw[e]at h;cases h
  |some b=>rw[e]at h;cases h;rfl) js
theorem wu:∀l:M Nat,((l.map λ(n:Nat)=>(n:Int)).sum)=((total l:Nat):Int)|[]=>rfl|a::l=>by rw[b9,sU,wu l];show(a:Int)+((total l:Nat):Int)=((a+total l:Nat):Int);lia
def De a l:total (a::l)=a+total l:=rfl
def L7 k js p t:(((iH k js p).filter λs=>dZ s t).map λs=>(s.share:Int)).sum=((reserved k js p t:Nat):Int):=by unfold reserved;rw[<-wu,<-L6,bQ];rfl
theorem Df n x:∀l:M Nat,x∈mj n l↔x=n\/x∈l
 |[]=>by simp[mj]|y::r=>by
  unfold mj;split
  .simp
  split
  .rename_i _ e;subst e;simp
  rw[bh,Df n x r,bh];constructor
  .rintro(h|h|h)<;>simp[h]
  rintro(h|h|h)<;>simp[h]
theorem L8 n:∀l:M Nat,l.Pairwise (· < ·)->(mj n l).Pairwise (· < ·)
 |[],_=>by simp[mj]|y::r,h=>by
  have h0:=h;rw[ez]at h;unfold mj;split
  .rename_i al;rw[ez];exists λx hx=> ?_,h0;obtain e|e:=bh.mp hx
   .subst e;exact al
   have:=h.1 x e;lia
  split
  .exact h0
  rw[ez];exists λx hx=> ?_,L8 n r h.2;obtain e|e:=(Df n x r).mp hx
  .subst e;lia
  exact h.1 x e
def Dg(l:M Nat):(l.foldr mj []).Pairwise (· < ·)/\∀x,x∈l.foldr mj []↔x∈l:=by
 induction l with
 |nil=>simp
 |cons a l ih=>refine⟨L8 _ _ ih.1,λx=> ?_⟩;rw[akF,Df,ih.2,bh]
variable{l:M Nat}
def ZT{m:M Nat}(h1:l.Pairwise (· < ·))(h2:m.Pairwise (· < ·))(h:∀x,x∈l↔x∈m):l=m:=zu (λx:Nat=>x) l m h1 h2 h
def zE k js gs p:(turns k js gs p).Pairwise (· < ·):=(Dg _).1
def L_ k js gs p x:x∈turns k js gs p↔
  (∃s∈iH k js p,s.left=x\/s.cleared=I x)\/∃g∈gs,g.principal=p/\g.since=x:=by
 unfold turns;simp only;rw[(Dg _).2,dG];refine or_congr ?_ ?_
 .rw[Uc];constructor
  .rintro⟨j,hj,hx⟩;cases e:kC k j with
   |none=>
    have e2:om k j=ak:=by
     unfold kC at e;have e3:cD k j=[]:=by simpa using e
     unfold om;rw[e3];rfl
    rw[e,e2]at hx;simp at hx
   |some b=>
    exists⟨j.number,iy j.amount j.rate,b,om k j⟩,n7.mpr ⟨j,hj,by unfold jI;rw[e];rfl⟩;rw[e,dG]at hx;obtain h|h:=hx
    .left;have:x=b:=by simpa using h
     exact this.symm
    right;simpa using h
  rintro⟨s,hs,hx⟩;obtain⟨j,hj,e⟩:=n7.mp hs;exists j,hj;unfold jI at e;cases e2:kC k j with
  |none=>rw[e2]at e;cases e
  |some b=>
   rw[e2]at e;cases e;rw[dG];obtain h|h:=hx
   .left;have:b=x:=h;simp[this]
   right;have:om k j=I x:=h;simp[this]
 rw[b7];constructor
 .rintro⟨g,hg,e⟩;obtain⟨h1,h2⟩:=eY.mp hg;exists g,h1,by simpa using h2,e
 rintro⟨g,hg,e1,e2⟩;exists g,eY.mpr ⟨hg,by simpa using e1⟩,e2
def jJ(g:Nat->Nat)(b:Nat×Nat)(t:Nat):Nat×Nat:=if b.1<g t then(g t,t)else b
structure rI(g:Nat->Nat)(L:M Nat)(b:Nat×Nat):Prop where
 ub:∀x∈L,g x<=b.1
 zero:b.1=0->b.2=0
 pos:0<b.1->b.2∈L/\g b.2=b.1/\∀x∈L,g x=b.1->b.2<=x
variable{g:Nat->Nat}{L:M Nat}{b:Nat×Nat}{t:Nat}
theorem ZU(B:rI g L b)(ht:∀x∈L,x<=t):rI g (L++[t]) (jJ g b t):=by
 unfold jJ;split
 .rename_i h;refine⟨λx hx=> ?_,λq=> ?_,λq=>⟨by simp,G,λx hx e=> ?_⟩⟩
  .obtain z|z:=dG.mp hx
   .have:=B.ub x z;lia
   have:x=t:=by simpa using z
   subst this;exact aZ _
  .have:=q;lia
  obtain z|z:=dG.mp hx
  .have:=B.ub x z;have e':=e;lia
  have:x=t:=by simpa using z
  subst this;exact aZ _
 rename_i h;exists λx hx=> ?_,B.zero,λq=> ?_
 .obtain z|z:=dG.mp hx
  .exact B.ub x z
  have:x=t:=by simpa using z
  subst this;lia
 obtain⟨h1,h2,h3⟩:=B.pos q;refine⟨k6 _ h1,h2,λx hx e=> ?_⟩;obtain z|z:=dG.mp hx
 .exact h3 x z e
 have:x=t:=by simpa using z
 subst this;exact ht _ h1
theorem Ma{g:Nat->Nat}:∀r L b,(L++r).Pairwise (· <= ·)->rI g L b->rI g (L++r) (r.foldl (jJ g) b)
 |[],L,b,_,B=>by simpa using B|t::r,L,b,hs,B=>by
  have e:L++t::r=(L++[t])++r:=by simp
  rw[e]at hs⊢;refine Ma r (L++[t]) _ hs (ZU B λx hx=> ?_);rw[iu,UW]at hs;exact hs.2.2 x hx t (by simp)
def Mb(hs:L.Pairwise (· <= ·)):rI g L (L.foldl (jJ g) (0,0)):=Ma L [] (0,0) hs ⟨λx hx=>by simp at hx,λ_=>G,λh=>aU h (kh _)⟩
theorem ZV{B:M Nat}{c:Nat×Nat}(hL:rI g L b)(hB:rI g B c)(sub:∀x∈B,x∈L)(Mc:∀x∈L,0<g x->∃y∈B,y<=x/\g x<=g y):b=c:=by
 have le1:c.1<=b.1:=by
  by_cases q:0<c.1
  .obtain⟨h1,h2,_⟩:=hB.pos q;have:=hL.ub _ (sub _ h1);lia
  lia
 have le2:b.1<=c.1:=by
  by_cases q:0<b.1
  .obtain⟨h1,h2,_⟩:=hL.pos q;obtain⟨y,hy,_,h4⟩:=Mc _ h1 (by lia);have:=hB.ub y hy;lia
  lia
 have e1:b.1=c.1:=by lia
 refine mh e1 ?_;by_cases q:0<b.1
 .obtain⟨h1,h2,h3⟩:=hL.pos q;obtain⟨k1,k2,k3⟩:=hB.pos (by lia);have cx:=h3 _ (sub _ k1) (by lia);obtain⟨y,hy,h4,h5⟩:=Mc _ h1 (by lia);have:=hB.ub y hy;have dL:=k3 y hy (by lia);lia
 rw[hL.zero (by lia),hB.zero (by lia)]
theorem Me{α:Type}g p q:∀l:M α,(∀x∈l,p x=aa->q x=aa)->total ((l.filter p).map g)<=total ((l.filter q).map g)
 |[],_=>aZ _|a::l,h=>by
  have ih:=Me g p q l λx hx=>h x (bZ _ hx);rw[kD,kD];by_cases hp:p a=aa
  .rw[av hp,av (h a bW hp),b9,b9,De,De];lia
  rw[au hp];split
  .rw[b9,De];lia
  exact ih
def wz k js p t:reserved k js p t=total (((iH k js p).filter λs=>dZ s t).map (·.share)):=by unfold reserved;rw[L6]
theorem Mf:∀(l:M oQ),l≠ []->∃s∈l,∀x∈l,x.left<=s.left
 |[],h=>aU G h|[a],_=>⟨a,by simp,λx hx=>by simp at hx;subst hx;exact aZ _⟩|a::b::r,_=>by
  obtain⟨s,hs,h⟩:=Mf (b::r) (by simp);by_cases q:s.left<=a.left
  .exact⟨a,by simp,λx hx=>by
    obtain e|e:=bh.mp hx
    .subst e;exact aZ _
    have:=h x e;lia⟩
  exact⟨s,bZ _ hs,λx hx=>by
   obtain e|e:=bh.mp hx
   .subst e;lia
   exact h x e⟩
theorem ZW k js p x(h:0<reserved k js p x):∃s∈iH k js p,s.left<=x/\reserved k js p x<=reserved k js p s.left:=by
 rw[wz]at h
 have aw:((iH k js p).filter λs=>dZ s x)≠ []:=by intro q;rw[q]at h;exact aU h (kh _)
 obtain⟨s,hs,hm⟩:=Mf _ aw;obtain⟨h1,h2⟩:=eY.mp hs
 have h3:s.left<=x:=by have b2:=h2;unfold dZ at b2;rw[cU]at b2;simpa using b2.1
 exists s,h1,h3;rw[wz,wz];refine Me _ _ _ _ λy hy ho=> ?_;have c9:=ho;unfold dZ at c9;unfold dZ;rw[cU]at c9⊢;refine⟨by simpa using(hm y (eY.mpr ⟨hy,ho⟩)),?_⟩;cases e:y.cleared with
 |none=>rfl
 |some c=>have h5:=c9.2;rw[e]at h5;simp only[yf]at h5⊢;lia
def ZX k js gs p{B:M Nat}(hs:B.Pairwise (· <= ·))(hB:B.Perm ((iH k js p).map (·.left))):
  B.foldl (jJ λt=>reserved k js p t) (0,0)=kE k js gs p:=by
 have e:kE k js gs p=(turns k js gs p).foldl (jJ λt=>reserved k js p t) (0,0):=rfl;rw[e];refine(ZV (Mb ((zE k js gs p).imp λh=>uU h)) (Mb hs) (λx hx=> ?_) λx hx h0=> ?_).symm
 .obtain⟨s,h1,h2⟩:=b7.mp (hB.mem_iff.mp hx);exact(L_ k js gs p x).mpr (cO ⟨s,h1,cO h2⟩)
 obtain⟨s,h1,h2,h3⟩:=ZW k js p x h0;exists s.left,hB.mem_iff.mpr (b7.mpr ⟨s,h1,G⟩),h2,h3
def kL(g:eE):Nat×Nat:=(g.principal,g.since)
def lN(a b:Nat×Nat):Prop:=a.1<b.1\/(a.1=b.1/\a.2<b.2)
def Mg a b:sS [a.1,a.2] [b.1,b.2]=aa↔lN a b:=by unfold lN;simp[sS]
def j5(gs:M eE):Prop:=gs.Pairwise λa b=>lN (kL a) (kL b)
def mQ(gs:M eE)(p t:Nat):aG Nat:=(gs.find? λg=>g.principal==p&&g.since==t).map (·.amount)
theorem Mh{g x:eE}:∀{gs:M eE},x∈nk g gs->x=g\/x∈gs
 |[],h=>by simp[nk]at h;exact cO h|y::r,h=>by
  unfold nk at h;split at h
  .obtain e|e:=bh.mp h
   .exact cO e
   exact cZ e
  split at h
  .obtain e|e:=bh.mp h
   .exact cO e
   exact cZ (bZ _ e)
  obtain e|e:=bh.mp h
  .exact cZ (e▸bW)
  obtain q|q:=Mh e
  .exact cO q
  exact cZ (bZ _ q)
theorem Mi(g:eE):∀gs:M eE,j5 gs->j5 (nk g gs)
 |[],_=>by simp[nk,j5]|y::r,h=>by
  have h0:=h;unfold j5 at h;rw[ez]at h;unfold nk;split
  .rename_i al;rw[Mg (g.principal,g.since) (y.principal,y.since)]at al;unfold j5;rw[ez];exists λx hx=> ?_,h0;obtain e|e:=bh.mp hx
   .subst e;exact al
   have:=h.1 x e;unfold lN kL at*;simp only at*;lia
  rename_i al;rw[Mg (g.principal,g.since) (y.principal,y.since)]at al;split
  .rename_i he;unfold j5;rw[ez];exists λx hx=> ?_,h.2;have:=h.1 x hx;unfold lN kL at*;simp only at*;lia
  rename_i he;unfold j5;rw[ez];exists λx hx=> ?_,Mi g r h.2;obtain e|e:=Mh hx
  .subst e;unfold lN kL at*;simp only at*;lia
  exact h.1 x e
def rJ(g:eE)gs p t:mQ (g::gs) p t=if g.principal=p/\g.since=t then I g.amount else mQ gs p t:=by
 unfold mQ;rw[iw];by_cases e:g.principal=p/\g.since=t
 .simp[e]
 have e2:(g.principal==p&&g.since==t)=ao:=by rw[IF];intro q;exact e (by simpa using q)
 rw[e2,au e]
theorem Mj(g:eE)p t:∀gs:M eE,j5 gs->mQ (nk g gs) p t=if p=g.principal/\t=g.since then I g.amount else mQ gs p t
 |[],_=>by
  unfold nk;rw[rJ];by_cases e:p=g.principal/\t=g.since
  .rw[av e,av ⟨e.1.symm,e.2.symm⟩]
  rw[au e,au (λq=>e ⟨q.1.symm,q.2.symm⟩)]
 |y::r,h=>by
  have h0:=h;unfold j5 at h;rw[ez]at h;unfold nk;split
  .rw[rJ];by_cases e:p=g.principal/\t=g.since
   .rw[av e,av ⟨e.1.symm,e.2.symm⟩]
   rw[au e,au (λq=>e ⟨q.1.symm,q.2.symm⟩)]
  split
  .rename_i he;rw[rJ,rJ];by_cases e:p=g.principal/\t=g.since
   .rw[av e,av ⟨e.1.symm,e.2.symm⟩]
   rw[au e,au (λq=>e ⟨q.1.symm,q.2.symm⟩),au (λq=>e ⟨by lia,by lia⟩)]
  rename_i he;rw[rJ,rJ,Mj g p t r h.2];by_cases e:p=g.principal/\t=g.since
  .rw[av e,av e,au (λq=>he ⟨by lia,by lia⟩)]
  rw[au e,au e]
variable{gs:M eE}{p a:Nat}
theorem ZY(hs:j5 gs):mQ gs p t=I a↔(⟨p,t,a⟩:eE)∈gs:=by
 induction gs with
 |nil=>simp[mQ]
 |cons g r ih=>
  unfold j5 at hs;rw[ez]at hs;rw[rJ,bh];by_cases e:g.principal=p/\g.since=t
  .rw[av e];constructor
   .intro q;have:=cG q;left;cases g;simp at e this;simp[e,this]
   rintro(q|q)
   .rw[<-q]
   have:=hs.1 _ q;unfold lN kL at this;simp only at this;lia
  rw[au e,ih hs.2];constructor
  .exact cZ
  rintro(q|q)
  .rw[<-q]at e;exact aU ⟨G,G⟩ e
  exact q
def ZZ(h:∀g∈gs,g.principal=p->t<g.since):i7 gs p t=0:=by
 unfold i7
 have:(gs.filter λg=>g.principal==p&&decide (g.since<=t))=[]:=by rw[akG];intro g hg;simp;intro e;exact h g hg e
 rw[this];rfl
def Z0{l:M eE}(hl:l.Pairwise λa b=>lN (kL a) (kL b)){g:eE}(h:l.getLast? =I g):∀x∈l,x=g\/lN (kL x) (kL g):=by
 intro x hx;obtain⟨ys,e⟩:=IG.mp h;rw[e]at hx hl;obtain q|q:=dG.mp hx
 .right;rw[UW]at hl;exact hl.2.2 x q g (by simp)
 left;simpa using q
theorem Z1(hs:j5 gs){m:Nat}(hm:(⟨p,m,a⟩:eE)∈gs)(c4:m<=t)(la:∀g∈gs,g.principal=p->g.since<=t->g.since<=m):i7 gs p t=a:=by
 unfold i7;have hf:(⟨p,m,a⟩:eE)∈gs.filter λg=>g.principal==p&&decide (g.since<=t):=eY.mpr ⟨hm,by simp[c4]⟩;have hp:(gs.filter λg=>g.principal==p&&decide (g.since<=t)).Pairwise λa b=>lN (kL a) (kL b):=akH _ hs;cases e:(gs.filter λg=>g.principal==p&&decide (g.since<=t)).getLast? with
 |none=>
  have:(gs.filter λg=>g.principal==p&&decide (g.since<=t))=[]:=by simpa using e
  rw[this]at hf;simp at hf
 |some g=>
  obtain⟨h1,h2⟩:=eY.mp (II e);have b2:g.principal=p/\g.since<=t:=by simpa using h2
  obtain q|q:=Z0 hp e _ hf
  .rw[<-q];rfl
  have:=la g h1 b2.1 b2.2;unfold lN kL at q;simp only at q;lia
def Z3 gs p t:(gs.any λg=>g.principal==p&&g.since==t)=(mQ gs p t).isSome:=by
 unfold mQ;rw[Bl];induction gs with
 |nil=>rfl
 |cons g r ih=>rw[n8,iw,ih];cases(g.principal==p&&g.since==t)<;>rfl
theorem zF{x:Nat×News}:∀{t:Nat}{l:M (Nat×News)},x∈jw t l->x∈l
 |_,[],h=>by simp[jw]at h|t,y::r,h=>by
  unfold jw at h;split at h
  .exact bZ _ (zF h)
  obtain e|e:=bh.mp h
  .exact e▸bW
  exact bZ _ (zF e)
theorem Dh:∀t l,(jw t l).Pairwise (λa b=>a.2.time<=b.2.time)/\∀x∈jw t l,t<=x.2.time
 |t,[]=>by simp[jw]|t,y::r=>by
  unfold jw;split
  .exact Dh t r
  obtain⟨h1,h2⟩:=Dh y.2.time r;exists ?_,λx hx=> ?_
  .rw[ez];exists λx hx=>h2 x hx,h1
  obtain e|e:=bh.mp hx
  .subst e;lia
  have:=h2 x e;lia
theorem Di:∀t l,(jw t l).Sublist l
 |t,[]=>by simp[jw]|t,y::r=>by
  unfold jw;split
  .exact(Di t r).cons _
  exact(Di _ r).cons₂ _
def mR(k:M News)(j:bw):M News:=(yg k).filter λn=>n.journey==j.number
def Ml k(j:bw):yh k j=oN j (mR k j):=rfl
structure Z4(j:bw)(told:M News)(W:M (Nat×News)):Prop where
 times:W.Pairwise λa b=>a.2.time<=b.2.time
 Z5:W.Pairwise λa b=>a.1<b.1
 told:∀x∈W,x.2∈told
 at_:∀x∈W,jV j x.2=I x.1
def rK k(j:bw):Z4 j (mR k j) (cD k j):=by
 obtain⟨p1,p2⟩:=zy j (mR k j) [] (by simp);obtain⟨q1,q2,q3⟩:=C8 _ (p1);have hm:∀x∈cD k j,x∈oN j (mR k j):=λx hx=>(q2 x (zF hx)).1
 have hp:=λx hx=>by have:=(p2 x).mp (hm x hx);simpa using this
 exists(Dh 0 _).1,am5 (Di 0 _) q1,λx hx=>(hp x hx).1,λx hx=>(hp x hx).2
structure Mm(j:bw)(s:Nat)(n:News):Prop where
 mem:n.office∈j.route
 half:s/2=j.route.idxOf n.office
 off:sV j s=n.office
 le:s<=dM j+1
 k3:s=dM j+1↔n.kind=3
 k2:s=dM j↔n.kind=2
 last:dM j<=s↔n.office=j.route.getLastD 0
 kind:n.kind<4
def Mn(h:o∈l):l.getD (l.idxOf o) 0=o:=by have h1:=oM h;rw[l9,bg h1,akC];exact akI h1
theorem Z6(nd:j.route.Nodup)(h2:2<=j.route.length)(hk:n.kind<4)(h:jV j n=I s):Mm j s n:=by
 by_cases hc:n.office∈j.route
 .have al:=oM hc;have hl:=zv nd hc;have hg:=Mn hc;unfold jV at h;rw[C5 hc]at h;simp only[xN]at h;by_cases SZ:n.kind=0
  .rw[av SZ]at h;split at h
   .rename_i e;cases h;exists hc,by lia,?_,?_,?_,?_,?_,hk
    .rw[e]at hg;exact hg
    .lia
    .unfold dM;lia
    .unfold dM;lia
    rw[<-hl];unfold dM;lia
   cases h
  rw[au SZ]at h;by_cases k1:n.kind=1
  .rw[av k1]at h;split at h
   .rename_i e;cases h;exists hc,by lia,?_,?_,?_,?_,?_,hk
    .unfold sV;rw[show 2*j.route.idxOf n.office/2=j.route.idxOf n.office by lia];exact hg
    .unfold dM;lia
    .unfold dM;lia
    .unfold dM;lia
    rw[<-hl];unfold dM;lia
   cases h
  rw[au k1]at h;split at h
  .rename_i e;by_cases k3:n.kind=3
   .rw[av k3]at h;cases h;exists hc,by lia,?_,?_,?_,?_,?_,hk
    .unfold sV;rw[show(2*j.route.idxOf n.office+1)/2=j.route.idxOf n.office by lia];exact hg
    .unfold dM;lia
    .unfold dM;lia
    .unfold dM;lia
    rw[<-hl];unfold dM;lia
   rw[au k3]at h;cases h;exists hc,by lia,?_,?_,?_,?_,?_,hk
   .unfold sV;rw[show 2*j.route.idxOf n.office/2=j.route.idxOf n.office by lia];exact hg
   .unfold dM;lia
   .unfold dM;lia
   .unfold dM;lia
   rw[<-hl];unfold dM;lia
  cases h
 unfold jV at h;rw[LU hc]at h;cases h
structure g7(j:bw):Prop where
 nd:j.route.Nodup
 two:2<=j.route.length
 six:j.route.length<=6
def fS(k:M News):Prop:=∀n∈k,n.kind<=4
theorem zG(hk:fS k)(h:n∈mR k j):n∈k/\n.kind<4/\n.journey=j.number:=by
 obtain⟨h1,h2⟩:=eY.mp h;obtain⟨h3,h4⟩:=eY.mp h1;have:=hk n h3;have Ta:n.kind≠4:=by simpa using h4
 exact⟨h3,by lia,by simpa using h2⟩
def kM(hk:fS k)(J:g7 j):∀x∈cD k j,Mm j x.1 x.2:=λx hx=>
 let F:=rK k j
 Z6 J.nd J.two (zG hk (F.told x hx)).2.1 (F.at_ x hx)
def cN(k:M News)(j:bw):M News:=(cD k j).map (·.2)
def Dj k(j:bw):kC k j=(cN k j).head?.map (·.time):=by unfold kC cN;rw[List.head?_map,Bw];rfl
theorem Dk{α β:Type}f p(q:β->Bool):∀l:M α,(∀x∈l,p x=q (f x))->(l.find? p).map f=(l.map f).find? q
 |[],_=>rfl|a::l,h=>by
  rw[b9,iw,iw,<-h a bW];cases p a with
  |true=>rfl
  |false=>exact Dk f p q l λx hx=>h x (bZ _ hx)
def Z7(hk:fS k)(J:g7 j):yi k j=((cN k j).find? λn=>n.office==j.route.getLastD 0).map (·.time):=by
 unfold yi cN;rw[<-Dk (λx:Nat×News=>x.2) (λx=>decide (dM j<=x.1)) _ _ λx hx=> ?_,Bw]
 .rfl
 have:=(kM hk J x hx).last;by_cases q:dM j<=x.1
 .simp only[q,decide_true];simp only[this.mp q,beq_self_eq_true]
 simp only[q,decide_false];have:=λz=>q (this.mpr z);simp only[gB.mpr this]
def Z8(hk:fS k)(J:g7 j):om k j=((cN k j).find? λn=>n.kind==3).map (·.time):=by
 unfold om cN;rw[<-Dk (λx:Nat×News=>x.2) (λx=>x.1==dM j+1) _ _ λx hx=> ?_,Bw]
 .rfl
 have:=(kM hk J x hx).k3;by_cases q:x.1=dM j+1
 .rw[iZ.mpr q,iZ.mpr (this.mp q)]
 rw[gB.mpr q,gB.mpr (λz=>q (this.mpr z))]
def dI(w:M News)(t:Nat):Nat:=(w.filter λn=>decide (n.time<=t)).length
theorem Dl{α:Type}(tm:α->Nat)t:∀l:M α,l.Pairwise (λa b=>tm a<=tm b)->l.filter (λa=>decide (tm a<=t))=l.take (l.filter λa=>decide (tm a<=t)).length/\
  l.find? (λa=>decide (t<tm a))=l[(l.filter λa=>decide (tm a<=t)).length]?
 |[],_=>by simp
 |a::l,h=>by
  rw[ez]at h;obtain⟨i1,i2⟩:=Dl tm t l h.2;by_cases q:tm a<=t
  .rw[kD,av (by simpa using q),iw,aV (show¬t<tm a by lia)];exists ?_
   .rw[bT,List.take_succ_cons,<-i1]
   rw[bT,HQ];exact i2
  have hn:l.filter (λa=>decide (tm a<=t))=[]:=by rw[akG];intro b hb;have:=h.1 b hb;simp;lia
  rw[kD,au (by simpa using q),hn,iw,aP (show t<tm a by lia)];simp
def nJ(w:M News)(t:Nat):Nat:=if dI w t=0 then 0 else if(w.getD (dI w t-1) ⟨0,0,0,0,0,0,0,0⟩).kind=3 then 3 else if(w.getD (dI w t-1) ⟨0,0,0,0,0,0,0,0⟩).kind=2 then 2 else 1
noncomputable def oR(route:M Nat)(w:M News)(t:Nat):M Int:=
 if nJ w t=0 then [0,(route.headD 0:Int),0]else if nJ w t=2 then [0,(route.getLastD 0:Int),0]else if nJ w t=3 then [2,0,0]
 else [1,((w.getD (dI w t-1) ⟨0,0,0,0,0,0,0,0⟩).office:Int),((match w[dI w t]? with|some n=>n.office|none=>route.getLastD 0:Nat):Int)]
def wA k(j:bw)t:((cD k j).filter λx=>decide (x.2.time<=t)).length=dI (cN k j) t:=by unfold dI cN;rw[oj,aE];rfl
theorem Z9(l:M α)n(h:n<=l.length):(l.take n).getLast? =if n=0 then ak else l[n-1]?:=by
 rw[List.getLast?_take];by_cases q:n=0
 .rw[av q,av q]
 rw[au q,au q];have h1:n-1<l.length:=by lia
 rw[bg h1];rfl
theorem Mp(J:g7 j):sV j (dM j)=j.route.getLastD 0:=by unfold sV dM;rw[show 2*(j.route.length-1)/2=j.route.length-1 by lia,l9,akB,List.getLast?_eq_getElem?]
theorem Z_(j:bw):sV j 0=j.route.headD 0:=by unfold sV;rw[show 0/2=0 by lia,l9];cases j.route<;>rfl
def Mq t:
  (((cD k j).filter λx=>decide (x.2.time<=t)).getLast? =if dI (cN k j) t=0 then ak else(cD k j)[dI (cN k j) t-1]?)/\
  ((cD k j).find? λx=>decide (t<x.2.time))=(cD k j)[dI (cN k j) t]?/\dI (cN k j) t<=(cD k j).length:=by
 obtain⟨h1,h2⟩:=Dl (λx:Nat×News=>x.2.time) t (cD k j) (rK k j).times;have hl:((cD k j).filter λx=>decide (x.2.time<=t)).length<=(cD k j).length:=gV _ _;exists ?_,?_
 .rw[h1,Z9 _ _ hl,wA]
 .rw[h2,wA]
 rw[<-wA];exact hl
def Mr{i:Nat}(h:(cD k j)[i]? =I x)(d:News):(cN k j).getD i d=x.2:=by unfold cN;rw[l9,bF,h];rfl
theorem aaa(hk:fS k)(J:g7 j)t:qM (jx k j t)=oR j.route (cN k j) t:=by
 obtain⟨h1,h2,h3⟩:=Mq t;unfold jx oR nJ;simp only;rw[h1,h2];by_cases dE:dI (cN k j) t=0
 .rw[av dE,av dE,av G,Z_];rfl
 rw[au dE,au dE];have al:dI (cN k j) t-1<(cD k j).length:=by lia
 have hx:=bg al;have A:=kM hk J _ (bN hx);rw[hx,Mr hx];simp only;by_cases s3:(cD k j)[dI (cN k j) t-1].1=dM j+1
 .rw[av s3,av (A.k3.mp s3)];rfl
 rw[au s3,au (λz=>s3 (A.k3.mpr z))];by_cases s2:(cD k j)[dI (cN k j) t-1].1=dM j
 .rw[av s2,av (A.k2.mp s2),s2,Mp J];rfl
 rw[au s2,au (λz=>s2 (A.k2.mpr z)),A.off];have hc:∀o a b:Nat,a=b->qM (.carrier o a)=[1,(o:Int),(b:Int)]:=λo a b q=>by rw[q];rfl
 refine hc _ _ _ ?_;show _=(match((cD k j).map (·.2))[dI (cN k j) t]? with|some n=>n.office|none=>j.route.getLastD 0);rw[bF];cases e2:(cD k j)[dI (cN k j) t]? with
 |none=>exact Mp J
 |some y=>exact(kM hk J y (bN e2)).off
theorem Ms{α:Type}(tm:α->Nat)p t:∀l:M α,l.Pairwise (λa b=>tm a<=tm b)->∀(i:Nat)a,l[i]? =I a->p a=aa->tm a<=t->∃b,l.find? p=I b/\tm b<=t
 |[],_,i,a,h,_,_=>by simp at h|x::l,hp,i,a,h,h1,h2=>by
  rw[ez]at hp;rw[iw];by_cases q:p x=aa
  .rw[q];exists x,G;cases i with|zero=>simp at h;subst h;exact h2|succ i=>have:=hp.1 a (bN h);lia
  have q':p x=ao:=by simpa using q
  rw[q'];cases i with
  |zero=>simp at h;subst h;rw[q']at h1;cases h1
  |succ i=>exact Ms tm p t l hp.2 i a h h1 h2
theorem aab(hk:fS k)(J:g7 j)t:UX k j t=nJ (cN k j) t:=by
 obtain⟨h1,h2,h3⟩:=Mq t;unfold UX jx nJ;simp only;rw[h1,h2];by_cases dE:dI (cN k j) t=0
 .rw[av dE,av dE];simp only
  have:(yi k j).any (λa=>decide (a<=t))=ao:=by
   unfold yi;cases e:(cD k j).find? λx=>decide (dM j<=x.1)with
   |none=>rfl
   |some x=>
    have hm:=IE e
    have hn:¬x.2.time<=t:=λq=>by have hf:x∈(cD k j).filter λx=>decide (x.2.time<=t):=eY.mpr ⟨hm,by simpa using q⟩;have hl:=wA k j t;rw[dE]at hl;rw[IJ.mp hl]at hf;simp at hf
    simp;lia
  rw[this];rfl
 rw[au dE,au dE];have al:dI (cN k j) t-1<(cD k j).length:=by lia
 have hx:=bg al;have A:=kM hk J _ (bN hx);rw[hx,Mr hx];simp only;by_cases s3:(cD k j)[dI (cN k j) t-1].1=dM j+1
 .rw[av s3,av (A.k3.mp s3)]
 rw[au s3,au (λz=>s3 (A.k3.mpr z))];by_cases s2:(cD k j)[dI (cN k j) t-1].1=dM j
 .rw[av s2,av (A.k2.mp s2)];simp only
  have aac:(cD k j)[dI (cN k j) t-1].2.time<=t:=by
   have hm:(cD k j)[dI (cN k j) t-1]∈(cD k j).filter λx=>decide (x.2.time<=t):=by obtain⟨z1,_⟩:=Dl (λx:Nat×News=>x.2.time) t (cD k j) (rK k j).times;rw[z1,wA];refine bN (i:=dI (cN k j) t-1) ?_;rw[akJ,av (by lia)];exact hx
   have:=(eY.mp hm).2;simpa using this
  obtain⟨b,hb,hbt⟩:=Ms (λx:Nat×News=>x.2.time) (λx=>decide (dM j<=x.1)) t (cD k j) (rK k j).times _ _ hx (by simp;lia) aac
  have:(yi k j).any (λa=>decide (a<=t))=aa:=by unfold yi;rw[hb];simp;exact hbt
  rw[this];rfl
 have n2:¬(cD k j)[dI (cN k j) t-1].2.kind=2:=λz=>s2 (A.k2.mpr z);rw[au s2,au n2]
noncomputable def Dm(limit:Nat)(route:M Nat)(w:M News)(t:Nat):Bool:=match w with
 |[]=>ao
 |n::_=>if t<=n.time+limit then ao else match(w.find? λn=>n.office==route.getLastD 0)with
  |none=>aa|some a=>decide (n.time+limit<a.time)
theorem Mt(hk:fS k)(J:g7 j)t:overdue k j t=Dm j.limit j.route (cN k j) t:=by
 unfold overdue;rw[Dj,Z7 hk J];unfold Dm;cases cN k j with
 |nil=>rfl
 |cons n r=>
  simp only[List.head?_cons,gh,akK];by_cases q:t<=n.time+j.limit
  .rw[av q,aV (show¬n.time+j.limit<t by lia)];rfl
  rw[au q,aP (show n.time+j.limit<t by lia),eB];cases(n::r).find? λn=>n.office==j.route.getLastD 0 with
  |none=>rfl
  |some a=>
   simp only[gh,akK];by_cases z:a.time<=n.time+j.limit
   .rw[aP z,aV (show¬n.time+j.limit<a.time by lia)];rfl
   rw[aV z,aP (show n.time+j.limit<a.time by lia)];rfl
def aad(nd:j.route.Nodup)(h2:2<=j.route.length)(hk:n.kind<4)(h:jV j n=I s):s=cI j.route n/\fN j.route n=aa:=by
 by_cases hc:fN j.route n=aa
 .rw[zw nd h2 hk hc]at h;exists(cG h).symm,hc
 rw[zx nd h2 hk (by simpa using hc)]at h;cases h
def Mu(hk:fS k)(J:g7 j):∀x∈cD k j,x.1=cI j.route x.2:=λx hx=>
 let F:=rK k j
 (aad J.nd J.two (zG hk (F.told x hx)).2.1 (F.at_ x hx)).1
noncomputable def wB(route:M Nat)(a b:News):Nat:=if b.found=a.left then 0 else if(route.idxOf b.office:Int)-route.idxOf a.office=1 then 1 else 2
def wC(route:M Nat)(w:M News):M (Nat×Nat×Nat):=
 let l:=w.filter λn=> !decide (n.kind=3)
 (l.zip (l.drop 1)).map λz=>(z.1.office,z.2.office,wB route z.1 z.2)
theorem aae(hk:fS k)(J:g7 j):sW k j=wC j.route (cN k j):=by
 unfold sW wC;simp only
 have e1:((cN k j).filter λn=> !decide (n.kind=3))=((cD k j).filter λx=>decide (x.1<=dM j)).map (·.2):=by
  unfold cN;rw[oj];refine cC (qN _) (Bv λx hx=> ?_);have A:=kM hk J x hx;have h1:=A.le;have h2:=A.k3;simp only[qL];by_cases q:x.2.kind=3
  .have:=h2.mpr q;rw[aP q,aV (show¬x.1<=dM j by lia)];rfl
  have:=λz=>q (h2.mp z);rw[aV q,aP (show x.1<=dM j by lia)];rfl
 rw[e1,<-qO,akL,bQ];refine kB λz hz=> ?_;obtain⟨m1,m2⟩:=xT (hz);obtain⟨cx,dL⟩:=eY.mp m1;obtain⟨b1,cc⟩:=eY.mp (akM m2);have s1:=Mu hk J _ cx;have s2:=Mu hk J _ b1
 have n1:¬z.1.2.kind=3:=λq=>by
  have:=(kM hk J _ cx).k3.mpr q;have a2':z.1.1<=dM j:=by simpa using dL
  lia
 have n2:¬z.2.2.kind=3:=λq=>by
  have:=(kM hk J _ b1).k3.mpr q;have b2':z.2.1<=dM j:=by simpa using cc
  lia
 unfold cI at s1 s2;rw[au n1]at s1;rw[au n2]at s2;simp only[qL,Prod.map];unfold wB;refine mh G (mh G ?_);simp only;by_cases q:z.1.2.left=z.2.2.found
 .rw[av q,av q.symm]
 rw[au q,au (show¬z.2.2.found=z.1.2.left from λw=>q w.symm)];by_cases c:z.2.1=z.1.1+2
 .rw[av c,av (by lia)]
 rw[au c,au (by lia)]
def ud(route:M Nat)(w:M News):M Nat:=match w.getLast? with|none=>[]|some n=>(route.take (route.idxOf n.office)).filter λo=> !((w.map λx=>x.office).contains o)
theorem take_range(route:M Nat):∀m,m<=route.length->route.take m=(gR m).map λi=>route.getD i 0:=by
 intro m hm;refine Bx λi=> ?_;rw[akJ,bF];by_cases q:i<m
 .rw[av q,qP q,gh,l9,bg (by lia)];rfl
 rw[au q,n9 (by simpa using q)];rfl
theorem Mv(hk:fS k)(J:g7 j):missing k j=ud j.route (cN k j):=by
 unfold missing ud;simp only;have e0:(cN k j).getLast? =(cD k j).getLast?.map (·.2):=by unfold cN;rw[akN]
 rw[e0];cases e:(cD k j).getLast? with
 |none=>rfl
 |some x=>
  simp only[gh];have A:=kM hk J x (II e);have al:=oM A.mem;rw[take_range _ _ (by lia),oj,A.half];refine cC (qN _) (Bv λi hi=> ?_);simp only[qL];have eh:i<j.route.idxOf x.2.office:=by simpa using hi
  refine cC (λb=> !b) ?_;rw[xQ,yj,UU,b7]
  have Tb:j.route.getD i 0=j.route[i]'(by lia):=by rw[l9,bg (by lia)];rfl
  constructor
  .rintro⟨y,hy,ey⟩;have B:=kM hk J y hy;have:j.route.idxOf y.2.office=i:=by rw[<-B.half];simpa using ey
   exists y.2,b7.mpr ⟨y,hy,G⟩;rw[<-this];exact(Mn B.mem).symm
  rintro⟨n,hn,kA⟩;obtain⟨y,hy,rfl⟩:=b7.mp hn;exists y,hy;rw[(kM hk J y hy).half,kA,Tb]
  have:j.route.idxOf (j.route[i]'(by lia))=i:=by exact J.nd.idxOf_getElem i (by lia)
  simp[this]
theorem Mw{α β:Type}{g h:α->aG β}:∀{l:M α},(∀a∈l,g a=h a)->l.filterMap g=l.filterMap h|[],_=>rfl|a::l,e=>by rw[n5,n5,e a bW,Mw λx hx=>e x (bZ _ hx)]
noncomputable def ue(f:α->News)(route:M Nat)(d:M (Nat×α))(a:α):Nat:=
 if fN route (f a)=ao then 1 else match d.lookup (cI route (f a))with
  |none=>3|some b=>if(f b).id=(f a).id then 3 else 2
def aaf{f:α->News}(hk:fS k)(J:g7 j){told:M α}(ht:told.map f=mR k j)(eP:(told.map λa=>(f a).id).Nodup)
  {d:M (Nat×α)}(F:p8 f j.route told d):
  faults k j=told.filterMap λa=>if((cN k j).map λn=>n.id).contains (f a).id=aa then ak else I ((f a).id,ue f j.route d a):=by
 have lb:=λa ha=>(zG hk (by rw[<-ht];exact b7.mpr ⟨a,ha,G⟩)).2.1;have hex:∃ss:M Nat,ss.Pairwise (· < ·)/\∀s,s∈ss↔s∈d.map (·.1):=⟨_,Dg (d.map (·.1))⟩;obtain⟨ss,hs,hm⟩:=hex;have fO:=L3 J.nd J.two lb eP F hs hm;rw[ht]at fO;have W:=rK k j
 have inW:∀a∈told,(((cN k j).map λn=>n.id).contains (f a).id=aa↔∃x∈cD k j,x.2=f a):=λa ha=>by
  rw[UU,b7];constructor
  .rintro⟨n,hn,e⟩;obtain⟨x,hx,rfl⟩:=b7.mp hn;have lc:=W.told x hx;rw[<-ht]at lc;obtain⟨b,hb,eb⟩:=b7.mp lc;have:=wo eP b hb a ha (by rw[eb];exact e);subst this;exists x,hx,eb.symm
  rintro⟨x,hx,e⟩;exact⟨x.2,b7.mpr ⟨x,hx,G⟩,by rw[e]⟩
 show(((mR k j).map λn=>(n.id,faultOf k j n)).filter λx=>x.2 !=0)=_;rw[<-ht,bQ,oj]
 have conv:∀(p:α->Bool)(g:α->Nat×Nat)(l:M α),(l.filter p).map g=l.filterMap λa=>if p a=aa then I (g a)else ak:=by
  intro p g l;induction l with
  |nil=>rfl
  |cons a l ih=>
   rw[kD,n5];by_cases q:p a=aa
   .rw[av q,av q,b9,ih]
   rw[au q,au q,ih]
 rw[conv];refine Mw λa ha=> ?_;simp only[qL];have Fa:=inW a ha;unfold ue faultOf;by_cases hc:fN j.route (f a)=aa
 .rw[zw J.nd J.two (lb a ha) hc];simp only;rw[hc,au (by simp:¬(aa=ao))];cases e:d.lookup (cI j.route (f a))with
  |none=>exact aU G (F.none_ _ e a ha hc)|some b=>
   obtain⟨g1,g2,g3,ev⟩:=F.j4 _ b e;simp only
   have a7:(cI j.route (f a),f b)∈lu (yh k j):=by rw[Ml,<-fO];exact n7.mpr ⟨_,(hm _).mpr (C6 e),by rw[e];rfl⟩
   have Fh:((lu (yh k j)).any λx=>x.1==cI j.route (f a)&&x.2==f a)=aa↔f b=f a:=by
    rw[yj];constructor
    .rintro⟨x,hx,q⟩;rw[cU]at q;have q1:x.1=cI j.route (f a):=by simpa using q.1
     have q2:x.2=f a:=by simpa using q.2
     rw[Ml,<-fO]at hx;obtain⟨s,_,il⟩:=n7.mp hx;cases e3:d.lookup s with
     |none=>rw[e3]at il;cases il
     |some c=>rw[e3]at il;simp only[gh,lq]at il;rw[<-il]at q1 q2;have q1':s=cI j.route (f a):=q1;rw[q1',e]at e3;cases e3;exact q2
    intro q;exact⟨_,a7,by simp[q]⟩
   by_cases hb:f b=f a
   .rw[Fh.mpr hb,au (by simp:¬(aa=ao)),hb,av G];by_cases hw:∃x∈cD k j,x.2=f a
    .have:((cD k j).any λx=>x.2==f a)=aa:=by
      rw[yj];obtain⟨x,hx,q⟩:=hw;exact⟨x,hx,by simp[q]⟩
     rw[av this,av (Fa.mpr hw)];rfl
    have:¬((cD k j).any λx=>x.2==f a)=aa:=by rw[yj];rintro⟨x,hx,q⟩;exact hw ⟨x,hx,by simpa using q⟩
    rw[au this,au (λz=>hw (Fa.mp z))];rfl
   have hn:((lu (yh k j)).any λx=>x.1==cI j.route (f a)&&x.2==f a)=ao:=by rw[IF];exact λz=>hb (Fh.mp z)
   have aag:¬(f b).id=(f a).id:=λz=>hb (by rw[wo eP b g1 a ha z]);rw[hn,av G,au aag]
   have hw:¬∃x∈cD k j,x.2=f a:=by
    rintro⟨x,hx,q⟩;have h1:=W.at_ x hx;rw[q,zw J.nd J.two (lb a ha) hc]at h1;have h2:=(cG h1).symm;have h3:x∈lu (yh k j):=zF hx
    have:((lu (yh k j)).any λx=>x.1==cI j.route (f a)&&x.2==f a)=aa:=by rw[yj];exact⟨x,h3,by simp[h2,q]⟩
    rw[hn]at this;cases this
   rw[au (λz=>hw (Fa.mp z))];rfl
 have ca:fN j.route (f a)=ao:=by simpa using hc
 rw[zx J.nd J.two (lb a ha) ca,av ca]
 have hw:¬∃x∈cD k j,x.2=f a:=by rintro⟨x,hx,q⟩;have h1:=W.at_ x hx;rw[q,zx J.nd J.two (lb a ha) ca]at h1;cases h1
 rw[au (λz=>hw (Fa.mp z))];rfl
end Sg
namespace Sp
open PySem PySem.Spec PyProof.Rows L2 Sg
def cS(mg:aj->aG aq)(x:aj)(i:Int):Prop:=∃u,mg x=I u/\RelV (.int i) u
variable{X:Cx}{pos:fG}
def bM{x:aj}{i:Int}(hg:Gl X x)(h:cS X.mg x i)(hd:(x==("__debug__":aj))=ao:=by decide):PE X (.Name x pos) (tC (.int i)):=by obtain⟨u,hm,r⟩:=h;exact fz hg hm r hd
noncomputable def nf(t:af)(n:bO):M (aj×V):=[("row",.ref t),("number",.int n.id),("version",.int n.version),("journey",.int n.journey),("office",.int n.office),("told",.int n.kind),("minute",.int n.time),("found",.int n.found),("left",.int n.left)]
def aK(l:M Nat):M V:=l.map λ(n:Nat)=>V.int (n:Int)
def d9(C:af)(H:Hp)(a:af)(n:bO):Prop:=∃dx t,H a=I (.ins C dx (nf t n))/\H t=I (.tup (aK (cM n)))
structure fc(K:aR)(C:af):Prop where
 cl:fK K C
 row:cF K C "row"
 number:cF K C "number"
 version:cF K C "version"
 journey:cF K C "journey"
 office:cF K C "office"
 told:cF K C "told"
 minute:cF K C "minute"
 found:cF K C "found"
 left:cF K C "left"
structure Kinds(mg:aj->aG aq):Prop where
 leaves:cS mg "LEAVES" 0
 passes:cS mg "PASSES" 1
 Mx:cS mg "ARRIVES" 2
 cleared:cS mg "CLEARED" 3
 nothing:cS mg "NOTHING" 4
variable{C a:af}{H U:Hp}{n:bO}
def d9.same(h:d9 C H a n)(s:ah H U):d9 C U a n:=by obtain⟨dx,t,h1,h2⟩:=h;exists dx,t,s _ _ h1,s _ _ h2
variable{o:HO}
def ah.new{p:af}(h:H p=ak):ah H (upd H p o):=λb o' e=>by rw[aD (b_ e h)];exact e
def p9 l:(aK l).all iF=aa:=by unfold aK;rw[xZ];exact jU.mpr λ_ _=>G
theorem wD(o:Nat)l:fL (.int o) (aK l)=l.contains o:=by
 unfold fL aK;induction l with
 |nil=>rfl
 |cons a r ih=>
  rw[b9,n8,ih,IK];congr 1;show((a:Int)==(o:Int))=(o==a);by_cases e:a=o
  .subst e;simp
  have e2:¬a=(o:Int):=by lia
  have e3:¬o=a:=λq=>e q.symm;rw[gB.mpr e2,gB.mpr e3]
def My{l:M Nat}(h:l≠ []):jF (aK l) 0=I (.int (l.headD 0:Nat)):=by
 cases l with
 |nil=>exact aU G h
 |cons a r=>exact aW G
def zH{l:M Nat}(h:l≠ []):jF (aK l) (-1)=I (.int (l.getLastD 0:Nat)):=by
 obtain⟨r,a,rfl⟩:∃r a,l=r++[a]:=⟨l.dropLast,l.getLast h,(List.dropLast_concat_getLast h).symm⟩;unfold aK;rw[dH];have e:((r++[a]).getLastD 0)=a:=by simp
 rw[e];exact K0 _ _
variable{K:aR}
inductive Dn K C(vs:M V)H(Q:VK)(E:XK):Prop|mk(r a:af)(route:M Nat)(n:bO)(_:vs=[.ref r,.ref a])(_:az K H r (aK route))(_:route≠ [])(_:d9 C H a n)(_:∀U,ah H U->Q (.bl (Sg.fN route n)) U)
theorem ff(a b:Nat):decide (V.int (a:Int)=V.int (b:Int))=decide (a=b):=by
 by_cases e:a=b
 .subst e;simp
 have:¬V.int (a:Int)=V.int (b:Int):=λq=>e (by injection q with q;lia);rw[aV e,aV this]
variable{P:bY}{w:bR}{mg:aj->aG aq}{ai:bB}{f:af}{fd:gC}
def aah(F:bf K "can_be" (top 43) f fd)(N:fc K C)(ar:Kinds mg):aM P w K mg ai aO 1 f fd ["route","news"] (Dn K C):=by
 refine F.aX ["route","news"] (λS H vs Q E hr h=> ?_);obtain⟨r,a,route,n,rfl,hR,aw,⟨dx,t,hA,hT⟩,k⟩:=h
 exists _,aC (bH (tT zc (aS 1) (pv 0) (by with_unfolding_all rfl)) (aH tP) bG) (aC (bH (bL dm (aS 1) (bk (pv 0) aF)) (aH (jE dm (aS 1) (bM G ar.leaves) (jZ _))) bG) (aC (bH (bL dm (aS 1) (bk (pv 0) (tR tS aF))) (aH (jE CG (aS 1) (lJ (bu (bM G ar.Mx) (bM G ar.cleared))) (by with_unfolding_all rfl))) bG)
  (aH (jE dm (aS 1) (bM G ar.passes) (jZ _)))))
 exists _,G,a,C,dx,_,_,G,hA,N.cl,N.office,G,_,G,r,_,G,.inl hR,G,p9 _,_,G;rw[wD];have e0:Sg.fN route n=if route.contains n.office=ao then ao else if n.office=route.headD 0 then n.kind==0 else if n.office=route.getLastD 0 then(n.kind==2||n.kind==3)else n.kind==1:=rfl;refine b4 (λh1=> ?_) (λh1=> ?_)
 .have a0:route.contains n.office=ao:=by simpa using h1
  rw[e0,av a0]at k;exact k H (ah.refl H)
 have a0:¬route.contains n.office=ao:=by simpa using h1
 rw[e0,au a0]at k;exists _,G,a,C,dx,_,_,G,hA,N.cl,N.office,G,_,G,r,_,_,_,G,G,hR,My aw,G,_,G;rw[ff];refine b4 (λh2=> ?_) (λh2=> ?_)
 .have b2:=c_ h2;rw[av b2]at k;exists _,G,a,C,dx,_,_,G,hA,N.cl,N.told,G,G;have:=k H (ah.refl H);rw[show decide (V.int (n.kind:Int)=V.int 0)=(n.kind==0) from(ff n.kind 0).trans (by simp[UY])];exact this
 have b2:¬n.office=route.headD 0:=λq=>h2 (aP q);rw[au b2]at k;exists _,G,a,C,dx,_,_,G,hA,N.cl,N.office,G,_,G,_,G,r,_,_,_,G,G,hR,zH aw,G,_,G;rw[ff];refine b4 (λh3=> ?_) (λh3=> ?_)
 .have Tk:=c_ h3;rw[av Tk]at k;refine⟨_,G,a,C,dx,_,_,G,hA,N.cl,N.told,G,(by decide),λp hp=> ?_⟩;exists p,_,G,.inr (bz.of ay),G,G
  have e:fL (.int n.kind) [.int 2,.int 3]=(n.kind==2||n.kind==3):=by have:=wD n.kind [2,3];rw[show([2,3]:M Nat).contains n.kind=(n.kind==2||n.kind==3) by simp[IK,UY]]at this;exact this
  rw[e];exact k _ (ah.new hp)
 have Tk:¬n.office=route.getLastD 0:=λq=>h3 (aP q);rw[au Tk]at k;exists _,G,a,C,dx,_,_,G,hA,N.cl,N.told,G,G;have:=k H (ah.refl H);rw[show decide (V.int (n.kind:Int)=V.int 1)=(n.kind==1) from(ff n.kind 1).trans (by simp[UY])];exact this
inductive Def P w K mg ai k x ps(sp:Sp):Prop|mk{f:af}{fd:gC}(ok:aM P w K mg ai aO k f fd ps sp)(at_:mg x=I (.ref f))(kp:kZ K (.ref f)=aa)(b:Binds K fd ps [])
variable{e:bE}
def aT{k j:Nat}{x:aj}{ps:M aj}{sp:Sp}{p:fG}{es:M bE}{t:TA}(D:Def X.prog X.w X.K X.mg X.ai k x ps sp)(hr:d8 j X.A)(ha:PA X (e::es) t)
  (hg:Gl X x:=by rfl)(hj:k<=j:=by decide)(d5:(x==("__debug__":aj))=ao:=by decide)(he:bS (e::es) X.env=(ao,eval e X.env)::bS es X.env:=by rfl)(ag:(fH pos (bS es X.env)).any (·.1)=ao:=by rfl):
  PE X (.Call (.Name x p) (e::es) [] pos) (Cw sp [] E0 t):=
 match D with| .mk ok at_ kp b=>XI ok (hr.mono hj) hg at_ kp b .nil t9 ha d5 he ag
theorem zI{o:Nat}{l:M Nat}(h:o∈l):(aK l)[l.idxOf o]? =I (.int o)/\∀m z,m<l.idxOf o->(aK l)[m]? =I z->fZ z (.int o)=ao:=by
 exists ?_,λm z hm hz=> ?_
 .unfold aK;rw[bF,bg (oM h),gh,akI (oM h)]
 unfold aK at hz;have al:=oM h;rw[bF,bg (by lia),gh]at hz;cases hz;show(((l[m]'(by lia):Nat):Int)==(o:Int))=ao;have:=List.not_of_lt_findIdx hm;rw[gB];intro q;have q':l[m]'(by lia)=o:=by lia
 simp[q']at this
inductive zJ K C(vs:M V)H(Q:VK)(E:XK):Prop|mk(r a:af)(route:M Nat)(n:bO)(_:vs=[.ref r,.ref a])(_:az K H r (aK route))(_:n.office∈route)(_:d9 C H a n)(_:Q (.int (cI route n:Nat)) H)
theorem aai(F:bf K "stage_of" (top 44) f fd)(N:fc K C)(ar:Kinds mg):aM P w K mg ai aO 1 f fd ["route","news"] (zJ K C):=by
 refine F.aX ["route","news","stage"] (λS H vs Q E hr h=> ?_);obtain⟨r,a,route,n,rfl,hR,hm,⟨dx,t,hA,hT⟩,k⟩:=h
 exists _,aC (aY 2 S (bP vU aF (ee fq Bg IL zf (pv 0) (aB (aS 1))))) (aH (lC (bL dm (aS 1) (bM G ar.cleared)) (bP fY (pv 2) aF) (pv 2)));obtain⟨i1,i2⟩:=zI hm;exists _,G,.inl ⟨G,_,hR⟩,_,G,a,C,dx,_,_,G,hA,N.cl,N.office,G,r,_,_,_,_,G,G,hR,G,p9 _,i1,?_,i2,_,_,G,G,.inl ⟨by decide,by decide⟩
 .show((n.office:Int)==(n.office:Int))=aa;simp
 exists _,G,a,C,dx,_,_,G,hA,N.cl,N.told,G,G,_,G;rw[show decide (V.int (n.kind:Int)=V.int 3)=decide (n.kind=3) from ff n.kind 3];unfold cI at k;refine b4 (λh1=> ?_) (λh1=> ?_)
 .rw[av (c_ h1)]at k;exists _,G,_,_,G,G;have e:2*(route.idxOf n.office:Nat)+1=((2*route.idxOf n.office+1:Nat):Int):=by lia
  rw[e];exact k
 rw[au (λq=>h1 (aP q))]at k;exists _,G;have e:2*(route.idxOf n.office:Nat)=((2*route.idxOf n.office+0:Nat):Int):=by lia
 rw[e];exact k
inductive Mz C(vs:M V)H(Q:VK)(E:XK):Prop|mk(a b:af)(n m:bO)(_:vs=[.ref a,.ref b])(_:d9 C H a n)(_:d9 C H b m)(_:∀U,ah H U->Q (.bl (f7 n m)) U)
theorem aaj n m:HT.lexLt [(n.time:Int),(n.id:Int)] [(m.time:Int),(m.id:Int)]=f7 n m:=by
 unfold f7;rw[HT.Cy,HT.Cy,HT.KU];by_cases e:n.time=m.time
 .rw[av (by lia)];by_cases e2:n.id=m.id
  .rw[av (by lia)];simp[e,e2]
  rw[au (by lia)];simp[e]
 rw[au (by lia)];simp[e]
def aak(F:bf K "goes_before" (top 45) f fd)(N:fc K C):aM P w K mg ai aO 1 f fd ["news","other"] (Mz C):=by refine F.aX ["news","other"] (λS H vs Q E hr h=> ?_);obtain⟨a,b,n,m,rfl,⟨dx,t,hA,hT⟩,⟨dy,u,hB,aal⟩,k⟩:=h;refine⟨_,aH (jE (X7 (akO (oK hr))) (lJ (bu (aS 0) (aS 0))) (lJ (bu (aS 1) (aS 1))) (jZ _)),_,G,a,C,dx,_,_,G,hA,N.cl,N.minute,G,_,G,a,C,dx,_,_,G,hA,N.cl,N.number,G,(by show 2<=sizeLine;decide),λp hp=> ?_⟩;have s1:=ah.new (o:=.tup [.int n.time,.int n.id]) hp;refine⟨_,G,b,C,dy,_,_,G,s1 _ _ hB,N.cl,N.minute,G,_,G,b,C,dy,_,_,G,s1 _ _ hB,N.cl,N.number,G,(by show 2<=sizeLine;decide),λq hq=> ?_⟩;have s2:=ah.new (o:=.tup [.int m.time,.int m.id]) hq;exists p,q,[(n.time:Int),(n.id:Int)],[(m.time:Int),(m.id:Int)],G,G,bz.of (s2 _ _ ay),bz.of ay;rw[aaj];exact k _ (s1.trans s2)
abbrev AN:=af×bO
def dj(d:M (Nat×AN)):M (Key×V):=d.map λx=>(cP (x.1:Int),V.ref x.2.1)
theorem lO d(s:Nat):dB (dj d) (cP (s:Int))=(d.lookup s).map λx=>V.ref x.1:=by
 induction d with
 |nil=>rfl
 |cons x d ih=>
  show dB ((cP (x.1:Int),V.ref x.2.1)::dj d) _=_;rw[eK];by_cases e:x.1=s
  .rw[wc (by simp[e])];have:(s==x.1)=aa:=by simp[e]
   rw[this];rfl
  rw[we (by simp;lia),ih];have:(s==x.1)=ao:=by simp;lia
  rw[this]
variable{s:Nat}
def MA{d:M (Nat×AN)}a(h:d.lookup s=ak):putK (dj d) (cP (s:Int)) (V.ref a.1)=dj (d++[(s,a)]):=by rw[Lq _ (by rw[lO,h];rfl)];unfold dj;rw[dH];rfl
theorem MB{d:M (Nat×AN)}a{b:AN}(h:d.lookup s=I b):putK (dj d) (cP (s:Int)) (V.ref a.1)=dj (d.map λx=>if x.1=s then(x.1,a)else x):=by
 unfold putK;rw[zj,lO,h];unfold dj;rw[bQ,bQ];refine kB λx _=> ?_;simp only[qL];by_cases e:x.1=s
 .rw[av (by rw[e]),av e]
 rw[au (by simp;lia),au e]
def wF d:(dj d).length=d.length:=by unfold dj;rw[aE]
def refs(l:M AN):M V:=l.map λx=>V.ref x.1
variable{l:M AN}{i:Nat}
def wG{y:V}(h:(refs l)[i]? =I y):∃x,l[i]? =I x/\y=V.ref x.1:=by
 unfold refs at h;rw[bF]at h;cases e:l[i]? with
 |none=>rw[e]at h;cases h
 |some x=>rw[e]at h;exists x,G,(cG h).symm
variable{α:Type}
def take_snoc{l:M α}{x:α}(h:l[i]? =I x):l.take (i+1)=l.take i++[x]:=by rw[List.take_add_one,h];rfl
theorem aam f route d(a:α):(mP f route d a).length<=d.length+1:=by
 unfold mP;split
 .split
  .simp
  split
  .simp
  lia
 lia
def aan f route l(a:α):eo f route (l++[a])=mP f route (eo f route l) a:=by unfold eo;rw[pH];rfl
theorem MC f route(l:M α):(eo f route l).length<=l.length:=by
 unfold eo
 have:∀(l:M α)(d:M (Nat×α)),(l.foldl (mP f route) d).length<=d.length+l.length:=by
  intro l;induction l with
  |nil=>intro d;simp
  |cons a l ih=>intro d;rw[qH];have h1:=ih (mP f route d a);have h2:=aam f route d a;rw[bT];lia
 have:=this l [];simpa using this
inductive Dq K C(vs:M V)H(Q:VK)(E:XK):Prop|mk(r l:af)(route:M Nat)(told:M AN)(_:vs=[.ref r,.ref l])(_:az K H r (aK route))(_:route≠ [])(_:az K H l (refs told))(_:(∀x∈told,d9 C H x.1 x.2))(_:told.length<=1000)(_:∀(U:Hp)(d:af),ah H U->H d=ak->U d=I (.dK (dj (eo (·.2) route told)))->Q (.ref d) U)
theorem aao(F:bf K "firsts_of" (top 46) f fd)(DC:Def P w K mg ai 1 "can_be" ["route","news"] (Dn K C))
  (DS:Def P w K mg ai 1 "stage_of" ["route","news"] (zJ K C))(DG:Def P w K mg ai 1 "goes_before" ["news","other"] (Mz C)):aM P w K mg ai aO 2 f fd ["route","told"] (Dq K C):=by
 refine F.aX ["route","told","firsts","news","stage"] (λS H vs Q E hr h=> ?_);obtain⟨r,l,route,told,rfl,hR,aw,hL,hN,hlen,k⟩:=h;have hu:=oK hr
 exists _,aC (aY 2 S Lz) (aC (fC eN G (cV (pv 1)) (cE 3 S) (cA (bH (fQ (aT DC hr (bu (pv 0) (pv 3)))) (aC (aY 4 S (aT DS hr (bu (pv 0) (pv 3)))) (cA (bH (pU (vL (zm hu (pv 4) (pv 2))) (pT (fQ (aT DG hr (bu (pv 3) (oH hu (pv 2) (pv 4) (λ_ _=>G))))))).pt (cA (CS hu (pv 2) (pv 4) (pv 3) G)) bG))) bG))) (aH (pv 2)));intro d hd;have s0:ah H (upd H d (.dK [])):=ah.new hd
 exists _,G,l,G,⟨_,s0.seq hL⟩,jD (λi σ U=>∃v3 v4:aG V,σ=[I (.ref r),I (.ref l),I (.ref d),v3,v4]/\ah H U/\U d=I (.dK (dj (eo (·.2) route (told.take i))))) ⟨ak,ak,G,s0,ay⟩ (λi σ U _⟨_,_,_,s5,_⟩=>s5.seq hL) ?_ ?_
 .rintro i y σ U hi⟨v3,v4,rfl,s5,dp⟩;obtain⟨x,hx,rfl⟩:=wG hi;have mi:=(hN x (bN hx)).same s5;have step:=aan (λy:AN=>y.2) route (told.take i) x;rw[<-take_snoc hx]at step;have MD:=MC (λy:AN=>y.2) route (told.take i);have hti:(told.take i).length<=1000:=by rw[gT];lia
  refine⟨_,G,_,G,r,x.1,route,x.2,G,s5.seq hR,aw,mi,λH6 s6=>⟨_,G,?_⟩⟩;refine b4 (λh1=> ?_) (λh1=> ?_)
  .have ho:x.2.office∈route:=by
    unfold Sg.fN at h1;by_cases q:x.2.office∈route
    .exact q
    rw[av (by simpa using q)]at h1;cases h1
   exists _,G,_,G,r,x.1,route,x.2,G,(s5.trans s6).seq hR,ho,mi.same s6;have mo:eH H6 d (V.int (cI route x.2:Nat)) (dB (dj (eo (·.2) route (told.take i))) (cP ((cI route x.2:Nat):Int))):=eH.k (k:=cP ((cI route x.2:Nat):Int)) (s6 _ _ dp);have aap:=wm (λy:AN=>y.2) route (told.take i);unfold mP at step;rw[av h1]at step;exists _,G,_,G,d,_,G,mo,_,G;rw[lO];cases e:(eo (λy:AN=>y.2) route (told.take i)).lookup (cI route x.2)with
   |none=>
    rw[e]at step;exists _,G,_,G,_,G,d,_,G,mO.k (k:=cP ((cI route x.2:Nat):Int)) (s6 _ _ dp) (by rw[wF];exact wj (by lia));exists _,_,G,λb o eb=> ?_
    .rw[aD (b_ eb hd)];exact s6 _ _ (s5 _ _ eb)
    rw[ay,MA x e,step]
   |some b=>
    rw[e]at step;obtain⟨m1,m2,amc,amd⟩:=aap.j4 _ b e;have Tm:=((hN b (UZ m1)).same s5).same s6
    have mr:eH H6 d (V.int (cI route x.2:Nat)) (I (V.ref b.1)):=by have:=mo;rw[lO,e]at this;exact this
    refine⟨_,G,_,G,_,G,d,_,G,mr,x.1,b.1,x.2,b.2,G,mi.same s6,Tm,λH7 s7=>⟨_,G,?_⟩⟩;refine b4 (λh2=> ?_) (λh2=> ?_)
    .simp only[h2,l5]at step;exists _,G,_,G,_,G,d,_,G,mO.k (k:=cP ((cI route x.2:Nat):Int)) (s7 _ _ (s6 _ _ dp)) (by rw[wF];exact wj (by lia));exists _,_,G,λb o eb=> ?_
     .rw[aD (b_ eb hd)];exact s7 _ _ (s6 _ _ (s5 _ _ eb))
     rw[ay,MB x e,step]
    simp only[h2,l6]at step;exact⟨_,_,G,(s5.trans s6).trans s7,by rw[step];exact s7 _ _ (s6 _ _ dp)⟩
  unfold mP at step;rw[au h1]at step;exact⟨_,_,G,s5.trans s6,by rw[step];exact s6 _ _ dp⟩
 rintro σ U⟨v3,v4,rfl,s5,dp⟩;unfold refs at dp;rw[aE,i8]at dp;exists _,G,k U d s5 hd dp
theorem ME:∀{xs:M V}{us:M aq},xs.length=us.length->(∀(i:Nat)x u,xs[i]? =I x->us[i]? =I u->RelV x u)->Vals xs us|[],[],_,_=>.nil|[],_::_,h,_=>by simp at h|_::_,[],h,_=>by simp at h|x::xs,u::us,h,k=>.cons (k 0 x u G G) (ME (by simpa using h) λi y v h1 h2=>k (i+1) y v (by simpa using h1) (by simpa using h2))
inductive aaq K vs H(Q:VK):Prop|mk a ns(_:vs=[V.ref a])(_:az K H a (ns.map V.int))(_:∀(a2:M Int)(p:af),a2.Perm ns->a2.Pairwise (· <= ·)->H p=ak->Q (.ref p) (upd H p (.lst (a2.map V.int))))
def aar:gZ X (.builtin "sorted") (aaq X.K):=by
 intro pins s σ H vs us Q ab r h;obtain⟨a,ns,rfl,hs,q⟩:=h;obtain⟨ad,rv,hl,hz⟩:=ab.list hs;rw[Vals.nI r];have hi:=rv.ints;have hJ:ns.length<=sizeLine:=by rw[aE]at hz;exact hz
 refine am6 hl.isList hi (by rw[hi.length];exact hJ) λout a2 h1 h2 h3=> ?_;obtain⟨ep,wE⟩:=am7 s.heap ad out;have hlen:(a2.map V.int).length<=sizeLine:=by rw[aE,h2.length_eq];exact hJ
 exists .ref _,upd H (s.heap.objs.size+1) (.lst (a2.map V.int)),ab.laid (t':=s.toks) (λ_ _=>am8) (u7 _) ⟨hlen,out.toList,ep,zd h1,wE⟩,G,q a2 _ h2 h3 (ab.aQ.fresh (u7 _))
inductive aas vs H(Q:VK):Prop|mk d ae ns(_:vs=[V.ref d])(_:Rd H d (.dK ae))(_:ae.map (·.1)=ns.map cP)(_:∀(a2:M Int)(p:af),a2.Perm ns->a2.Pairwise (· <= ·)->H p=ak->Q (.ref p) (upd H p (.lst (a2.map V.int))))
theorem MF(hc:X.calm=aa):gZ X (.builtin "sorted") aas:=by
 intro pins s σ H vs us Q ab r h;obtain⟨d,ae,ns,rfl,hd,hk,q⟩:=h;rw[Vals.nI r];obtain⟨z,lo,ws,kv,hD⟩:=rH ab.aQ hd;obtain⟨ep,fO⟩:=hD.dictAt;have hlen:=kv.length
 have wP:ns.length=ws.length:=by have:=cC qG hk;rw[aE,aE]at this;lia
 refine U0 kind_sorted plain_sorted entry_sorted (args_sorted1 _) ?_;refine aA (aN ?_);refine aA (PySem.W.kdu_collect (PySem.W.kdl_dict lo) (ab.ok.hd hc) fO (by rw[<-hlen];exact z) λh' tk acc Ts wS=> ?_);have hl:acc.toList.length=ws.length:=by rw[fk];exact wS.1
 have hv:Vals (ns.map V.int) acc.toList:=by
  refine ME (by rw[aE,hl];exact wP) λi x u h1 h2=> ?_;obtain⟨k,y,h3,h4⟩:=wS.2 i u (by rw[<-m9];exact h2);have h5:(ws.map (·.1))[i]? =I k:=by rw[bF,h3];rfl
  rw[<-kv.keys,hk,bF]at h5;rw[bF]at h1;cases e:ns[i]? with
  |none=>rw[e]at h1;cases h1
  |some n=>rw[e]at h1 h5;cases h1;cases h5;exact LL (k:=cP n) (u:=u) h4
 have hJ:acc.toList.length<=sizeLine:=by rw[hl,<-hlen];exact z
 refine aA (wpAny_newList ?_ hJ);have hU:(h'.push {cls:=.type "list",data:=.seq acc.toList.toArray}).get? h'.objs.size=I (seqObj "list" acc.toList.toArray 0):=di _ G
 refine aA (pD (i0 akP ⟨_,hU,G⟩ akQ (akR hU hv.ints hJ λout a2 h1 h2 h3=>⟨.none,G,?_⟩) (akS _)));obtain⟨en,wE⟩:=akT hU;have Tx:(a2.map V.int).length<=sizeLine:=by rw[aE,h2.length_eq,wP,<-hl];exact hJ
 have I1:=ab.kept (t':=tk) Ts;refine aN ⟨_,G,.ref _,upd H h'.objs.size (.lst (a2.map V.int)),I1.laid (t':=tk) (λb u e=> ?_) (aZ _) ⟨Tx,out.toList,en,zd h1,wE⟩,G,q a2 _ h2 h3 (I1.aQ.fresh (aZ _))⟩;have al:=cH e;rw[akU (d_ al) (by rw[size_push'];exact qI al)];exact cu _ e
theorem Dr:∀{ns:M Int}{ks:M Nat},ns.Perm (ks.map λ(k:Nat)=>(k:Int))->∃ss:M Nat,ns=ss.map (λ(k:Nat)=>(k:Int))/\ss.Perm ks:=λ{ns ks}h=>by
 exists ns.map eF,?_
 .rw[bQ]
  have:∀x∈ns,((λ(k:Nat)=>(k:Int))∘eF) x=x:=λx hx=>by obtain⟨k,_,e⟩:=b7.mp (h.mem_iff.mp hx);simp only[qL];lia
  rw[kB (g:=id) this,U1]
 have h2:=h.map eF;rw[bQ]at h2
 have:(ks.map (eF∘λ(k:Nat)=>k))=ks:=by rw[kB (g:=id) (λx _=>by simp[qL]),U1]
 rw[this]at h2;exact h2
variable{ss:M Nat}
theorem zK(h:(ss.map λ(k:Nat)=>(k:Int)).Pairwise (· <= ·)):ss.Pairwise (· <= ·):=by rw[pG]at h;exact h.imp λq=>by lia
theorem Ds(h:ss.Pairwise (· <= ·))(nd:ss.Nodup):ss.Pairwise (· < ·):=by have:=h.and nd;exact this.imp λq=>by lia
structure dR(mg:aj->aG aq):Prop where
 sorted:mg "sorted"=ak
 len:mg "len"=ak
 zip:mg "zip"=ak
 all:mg "all"=ak
 sum:mg "sum"=ak
 set:mg "set"=ak
 max:mg "max"=ak
 enumerate:mg "enumerate"=ak
 range:mg "range"=ak
 tuple:mg "tuple"=ak
 dict:mg "dict"=ak
def boot_sorted:jt "sorted"=I (.builtin "sorted"):=by decide+kernel
def MG d:(dj d).map (·.1)=((d.map (·.1)).map λ(k:Nat)=>(k:Int)).map cP:=by unfold dj;rw[bQ,bQ,bQ];rfl
def MI{w:M AN}{b:AN}(h:w.getLast? =I b):jF (refs w) (-1)=I (V.ref b.1):=by obtain⟨r,rfl⟩:=IG.mp h;unfold refs;rw[dH];exact K0 _ _
def Dt w a:refs (w++[a])=refs w++[V.ref a.1]:=by unfold refs;rw[dH];rfl
def aat f(d:M (Nat×α))ss s:jG f d (ss++[s])=lM f d (jG f d ss) s:=by unfold jG;rw[pH];rfl
def MK f d(w:M α)s:lM f d w s=w\/∃a,d.lookup s=I a/\lM f d w s=w++[a]:=by
 unfold lM;cases d.lookup s with
 |none=>exact cO G
 |some a=>
  simp only;cases w.getLast? with
  |none=>exact cZ ⟨a,G,G⟩
  |some b=>
   by_cases q:(f b).time<=(f a).time
   .exact cZ ⟨a,G,by simp[q]⟩
   exact cO (by simp[q])
theorem ML f(d:M (Nat×α))ss:(jG f d ss).length<=ss.length:=by
 unfold jG
 have:∀(l:M Nat)(w:M α),(l.foldl (lM f d) w).length<=w.length+l.length:=by
  intro l;induction l with
  |nil=>intro w;simp
  |cons s l ih=>
   intro w;rw[qH];have h1:=ih (lM f d w s)
   have h2:(lM f d w s).length<=w.length+1:=by
    obtain e|⟨a,_,e⟩:=MK f d w s
    .rw[e];lia
    rw[e,bD];simp
   rw[bT];lia
 have:=this ss [];simpa using this
def MM{f:α->bO}{d:M (Nat×α)}{x:α}(h:x∈jG f d ss):∃s∈ss,d.lookup s=I x:=by
 have:∀(l:M Nat)(w:M α),x∈l.foldl (lM f d) w->x∈w\/∃s∈l,d.lookup s=I x:=by
  intro l;induction l with
  |nil=>intro w h;exact cO h
  |cons s l ih=>
   intro w h;rw[qH]at h;obtain q|⟨t,h1,h2⟩:=ih _ h
   .obtain e|⟨a,ea,e⟩:=MK f d w s
    .rw[e]at q;exact cO q
    rw[e]at q;obtain z|z:=dG.mp q
    .exact cO z
    have:x=a:=by simpa using z
    subst this;exact cZ ⟨s,bW,ea⟩
   exact cZ ⟨t,bZ _ h1,h2⟩
 obtain q|q:=this ss [] h
 .simp at q
 exact q
structure Told(C:af)(H:Hp)(route:M Nat)(told:M AN):Prop where
 nd:route.Nodup
 two:2<=route.length
 at_:∀x∈told,d9 C H x.1 x.2
 kind:∀x∈told,x.2.kind<4
 ids:(told.map λx=>x.2.id).Nodup
 len:told.length<=1000
variable{route:M Nat}{told:M AN}
def Told.ne(T:Told C H route told):route≠ []:=by intro e;have:=T.two;rw[e]at this;simp at this
def Told.same{C:af}{H U:Hp}{route:M Nat}{told:M AN}(T:Told C H route told)(s:ah H U):Told C U route told:=⟨T.nd,T.two,λx hx=>(T.at_ x hx).same s,T.kind,T.ids,T.len⟩
structure Du(route:M Nat)(told way:M AN):Prop where
 sub:∀x∈way,x∈told
 len:way.length<=told.length
 eq:∀j:bw,j.route=route->way.map (λa=>(cI route a.2,a.2))=jw 0 (lu (oN j (told.map (·.2))))
inductive Dv K C(vs:M V)H(Q:VK)(E:XK):Prop|mk(r l:af)(route:M Nat)(told:M AN)(_:vs=[.ref r,.ref l])(_:az K H r (aK route))(_:az K H l (refs told))(_:Told C H route told)(_:∀(U:Hp)(wl:af)(way:M AN),ah H U->H wl=ak->U wl=I (.lst (refs way))->Du route told way->Q (.ref wl) U)
theorem aau(F:bf K "way_of" (top 47) f fd)(N:fc K C)(B:dR mg)(DF:Def P w K mg ai 2 "firsts_of" ["route","told"] (Dq K C)):aM P w K mg ai aO 3 f fd ["route","told"] (Dv K C):=by
 refine F.aX ["route","told","firsts","way","stage"] (λS H vs Q E hr h=> ?_);obtain⟨r,l,route,told,rfl,hR,hL,T,k⟩:=h;have hu:=oK hr
 exists _,aC (aY 2 S (aT DF hr (bu (pv 0) (pv 1)))) (aC (aY 3 S (br eT)) (aC (fC eN G (cV (bJ (MF G) (by rfl) B.sorted boot_sorted (aB (pv 2)))) (cE 4 S) (cA (bH (pU (gY (pZ (pv 3) (λ_=>G))) (pT (bL Ky (fD (oH hu (pv 2) (pv 4) (λ_ _=>G)) G) (fD (bk (pv 3) (tR tS aF)) G)))).pt (cA (fR (ee fq l7 nq lK (pv 3) (aB (oH hu (pv 2) (pv 4) (λ_ _=>G)))))) bG))) (aH (pv 3))));refine⟨_,G,_,G,r,l,route,told,G,hR,T.ne,hL,T.at_,T.len,λH1 d s1 hd0 hd=> ?_⟩;refine⟨b6 _,λwl ll=> ?_⟩;have s2:ah H1 (upd H1 wl (.lst [])):=ah.new ll;refine⟨_,G,d,_,_,G,.inl (s2 _ _ hd),MG _,λa2 p i4 oL hp=> ?_⟩;obtain⟨ss,rfl,eQ⟩:=Dr i4;have FO:=wm (λy:AN=>y.2) route told;have a7:∀s,s∈ss↔s∈(eo (λy:AN=>y.2) route told).map (·.1):=λs=>eQ.mem_iff
 have vy:ss.length<=told.length:=by have h1:=eQ.length_eq;rw[aE]at h1;have:=MC (λy:AN=>y.2) route told;lia
 have ew:=T.len
 refine⟨p,G,⟨_,az.of ay⟩,jD (λi σ U=>∃v4:aG V,σ=[I (.ref r),I (.ref l),I (.ref d),I (.ref wl),v4]/\ah H1 U/\U p=I (.lst ((ss.map λ(k:Nat)=>(k:Int)).map V.int))/\U wl=I (.lst (refs (jG (·.2) (eo (·.2) route told) (ss.take i))))) ⟨ak,G,s2.trans (ah.new hp),ay,by rw[aD (b_ ay hp)];exact ay⟩ (λi σ U _⟨_,_,_,h5,_⟩=>az.of h5) ?_ ?_⟩
 .rintro i y σ U hi⟨v4,rfl,s5,bc,i5⟩
  obtain⟨s0,Ty,rfl⟩:∃s0:Nat,ss[i]? =I s0/\y=V.int (s0:Int):=by
   rw[bF,bF]at hi;cases e:ss[i]? with
   |none=>rw[e]at hi;cases hi
   |some z=>rw[e]at hi;exists z,G,(cG hi).symm
  have step:=aat (λy:AN=>y.2) (eo (λy:AN=>y.2) route told) (ss.take i) s0;rw[<-take_snoc Ty]at step
  obtain⟨a,ha⟩:∃a,(eo (λy:AN=>y.2) route told).lookup s0=I a:=by
   cases e:(eo (λy:AN=>y.2) route told).lookup s0 with
   |none=>exact aU ((a7 s0).mp (bN Ty)) (ua.mp e)
   |some a=>exists a,G
  have aav:=(FO.j4 s0 a ha).1;obtain⟨dx,t,hA,MO⟩:=((T.at_ a aav).same s1).same s5
  have g5:eH U d (V.int (s0:Int)) (I (V.ref a.1)):=by have:=eH.k (k:=cP (s0:Int)) (s5 _ _ hd);rw[lO,ha]at this;exact this
  have ame:=ML (λy:AN=>y.2) (eo (λy:AN=>y.2) route told) (ss.take i);have hW:(ss.take i).length<=1000:=by rw[gT];lia
  have MP:wl≠p:=λq=>by rw[q,ay]at hp;cases hp
  have fin:∀TB,jG (λy:AN=>y.2) (eo (λy:AN=>y.2) route told) (ss.take i)++[a]=TB->
    (upd U wl (.lst (refs (jG (·.2) (eo (·.2) route told) (ss.take i))++[V.ref a.1]))) wl=I (.lst (refs TB)):=λTB e=>by
   rw[ay,<-e,Dt]
  have frame:ah H1 (upd U wl (.lst (refs (jG (·.2) (eo (·.2) route told) (ss.take i))++[V.ref a.1]))):=λb o eb=>by rw[aD (b_ eb ll)];exact s5 _ _ eb
  exists _,G,_,.inl ⟨_,az.of i5,G⟩;unfold lM at step;rw[ha]at step;simp only at step;cases e:(jG (λy:AN=>y.2) (eo (λy:AN=>y.2) route told) (ss.take i)).getLast? with
  |none=>
   have e0:jG (λy:AN=>y.2) (eo (λy:AN=>y.2) route told) (ss.take i)=[]:=by simpa using e
   rw[e]at step;simp only[l5]at step;rw[e0];refine bK ?_;exists _,G,.inl ⟨G,_,az.of i5⟩,_,G,_,G,d,_,G,g5,wl,_,_,G,G,i5,(by unfold refs;rw[aE];exact wj (by lia));exists _,G,frame,by rw[aD (ie MP)];exact bc,fin _ step.symm
  |some b=>
   rw[e]at step;simp only[yf]at step
   have aw:(!(refs (jG (λy:AN=>y.2) (eo (λy:AN=>y.2) route told) (ss.take i))).isEmpty)=aa:=by obtain⟨r',cj⟩:=IG.mp e;rw[cj,Dt];simp
   rw[aw];refine bX ?_
   have mb:b∈told:=by obtain⟨s',_,h2⟩:=MM (II e);exact(FO.j4 s' b h2).1
   obtain⟨dy,u,hB,MQ⟩:=((T.at_ b mb).same s1).same s5;exists _,G,_,G,d,_,G,g5,a.1,C,dx,_,_,G,hA,N.cl,N.minute,G,_,G,_,G,wl,_,_,_,G,G,az.of i5,MI e,b.1,C,dy,_,_,G,hB,N.cl,N.minute,G,_,_,G,G,_,G;refine b4 (λh1=> ?_) (λh1=> ?_)
   .have a0:b.2.time<=a.2.time:=by
     have:=c_ h1;lia
    rw[av a0]at step;exists _,G,.inl ⟨G,_,az.of i5⟩,_,G,_,G,d,_,G,g5,wl,_,_,G,G,i5,(by unfold refs;rw[aE];exact wj (by lia));exists _,G,frame,by rw[aD (ie MP)];exact bc,fin _ step.symm
   have a0:¬b.2.time<=a.2.time:=λq=>h1 (aP (by lia));rw[au a0]at step;exact⟨_,G,s5,bc,by rw[step];exact i5⟩
 rintro σ U⟨v4,rfl,s5,bc,i5⟩;rw[aE,aE,i8]at i5;exists _,G,k U wl _ (s1.trans s5) (s1.free ll) i5 ⟨λx hx=> ?_,?_,λj hj=> ?_⟩
 .obtain⟨s',_,h2⟩:=MM hx;exact(FO.j4 s' x h2).1
 .have:=ML (λy:AN=>y.2) (eo (λy:AN=>y.2) route told) ss;lia
 subst hj;exact ZO T.nd T.two T.kind T.ids (Ds (zK oL) (eQ.nodup_iff.mpr FO.nd)) a7
def aaw p(e:α->V)l a:((l++[a]).filter p).map e=if p a=aa then(l.filter p).map e++[e a]else(l.filter p).map e:=by
 rw[U3,dH,kD];by_cases q:p a=aa
 .rw[av q,av q];rfl
 rw[au q,au q];simp
variable{J:It}{g:TG}{tt:TT}{te:TE}{vs:M Nat}{σ:L2.St}{H1:Hp}{Q:VK}
theorem zL(l:M α)p e(Rx:α->V->Hp->Prop)(hlen:l.length<=100000)
  (lm:∀U,ah H1 U->J.stop l.length U)(dq:∀(i:Nat)(U:Hp),i<l.length->ah H1 U->J.go i U)
  (oP:∀(i:Nat)(U:Hp)(x:V)(bp:Hp),i<l.length->ah H1 U->J.iD i U x bp->∃a,l[i]? =I a/\ah U bp/\Rx a x bp)
  (turn:∀(a:α)(x:V)(U:Hp)(Kt:V->Hp->Prop)(Kf:Hp->Prop),a∈l->Rx a x U->ah H1 U->(∀H4,ah U H4->p a=aa->Kt (e a) H4)->(∀H3,ah U H3->p a=ao->Kf H3)->g x (wipe σ vs) U λσ2 H2=>wipe σ2 vs=wipe σ vs/\tt σ2 H2 λb H3=>if b=aa then te σ2 H3 Kt else Kf H3)
  (fin:∀(U:Hp)(D:af),ah H1 U->H1 D=ak->U D=I (.lst ((l.filter p).map e))->Q (.ref D) U):
  ∀D,H1 D=ak->∃W:Nat->Nat->Hp->Prop,(∃m,W 0 m (upd H1 D (.lst [])))/\∀i m H,W i m H->
   (J.stop i H/\Q (.ref D) H)\/(J.go i H/\∃Nx:Hp->Prop,(∀U,Nx U->∃m',m'<m/\W (i+1) m' U)/\∀x U,J.iD i H x U->g x (wipe σ vs) U λσ2 H2=>wipe σ2 vs=wipe σ vs/\tt σ2 H2 λb H3=>
    if b=aa then te σ2 H3 λy H4=>∃acc,H4 D=I (.lst acc)/\acc.length<sizeLine/\Nx (upd H4 D (.lst (acc++[y])))else Nx H3):=by
 intro D hD;exists λi m U=>i<=l.length/\m=l.length-i/\ah H1 U/\U D=I (.lst (((l.take i).filter p).map e)),⟨l.length,b6 _,G,ah.new hD,ay⟩;rintro i m U⟨hi,rfl,s1,hd⟩;obtain al|si:=i9 i l.length
 .refine .inr ⟨dq i U al s1,λH2=>i+1<=l.length/\ah H1 H2/\H2 D=I (.lst (((l.take (i+1)).filter p).map e)),λH2⟨q1,q2,q3⟩=>⟨l.length-(i+1),by lia,q1,G,q2,q3⟩,λx H2 hy=> ?_⟩;obtain⟨a,ha,s2,hR⟩:=oP i U x H2 al s1 hy;have hs:=aaw p e (l.take i) a;rw[<-take_snoc ha]at hs;refine turn a x H2 _ _ (bN ha) hR (s1.trans s2) (λH4 s4 hp=> ?_) (λH3 s3 hp=> ?_)
  .rw[av hp]at hs;exists _,s4 _ _ (s2 _ _ hd),?_,by lia,λb o eb=> ?_
   .have h1:(((l.take i).filter p).map e).length<=i:=by
     rw[aE];refine cX (gV _ _) ?_;rw[gT];lia
    have:100000<sizeLine:=by decide
    lia
   .rw[aD (b_ eb hD)];exact s4 _ _ (s2 _ _ (s1 _ _ eb))
   rw[ay,hs]
  rw[au (by rw[hp];decide)]at hs;exact⟨by lia,(s1.trans s2).trans s3,by rw[hs];exact s3 _ _ (s2 _ _ hd)⟩
 have eh:i=l.length:=by lia
 subst eh;rw[i8]at hd;exact .inl ⟨lm U s1,fin U D s1 hD hd⟩
variable{r:af}
def Dy(l:M α)f0 p e(hlen:l.length<=100000)(hS:az K H1 r (l.map f0))
  (turn:∀a U Kt(Kf:Hp->Prop),a∈l->ah H1 U->(∀H4,ah U H4->p a=aa->Kt (e a) H4)->(∀H3,ah U H3->p a=ao->Kf H3)->g (f0 a) (wipe σ vs) U λσ2 H2=>wipe σ2 vs=wipe σ vs/\tt σ2 H2 λb H3=>if b=aa then te σ2 H3 Kt else Kf H3)
  (fin:∀(U:Hp)(D:af),ah H1 U->H1 D=ak->U D=I (.lst ((l.filter p).map e))->Q (.ref D) U):
  ∀D,H1 D=ak->∃W:Nat->Nat->Hp->Prop,(∃m,W 0 m (upd H1 D (.lst [])))/\∀i m H,W i m H->
   ((fB K r).stop i H/\Q (.ref D) H)\/((fB K r).go i H/\∃Nx:Hp->Prop,(∀U,Nx U->∃m',m'<m/\W (i+1) m' U)/\∀x U,(fB K r).iD i H x U->g x (wipe σ vs) U λσ2 H2=>wipe σ2 vs=wipe σ vs/\tt σ2 H2 λb H3=>
    if b=aa then te σ2 H3 λy H4=>∃acc,H4 D=I (.lst acc)/\acc.length<sizeLine/\Nx (upd H4 D (.lst (acc++[y])))else Nx H3):=
 zL (J:=fB K r) l p e (λa x _=>x=f0 a) hlen (λU s=>⟨_,s.seq hS,by rw[aE];exact aZ _⟩)
  (λi U hi s=>⟨_,f0 l[i],s.seq hS,by rw[bF,bg hi];rfl⟩)
  (λi U x bp hi s hy=>by obtain⟨rfl,h2⟩:=hy;have h3:=h2 _ (s.seq hS);rw[bF,bg hi]at h3;exists l[i],bg hi,ah.refl _,(cG h3).symm)
  (λa x U Kt Kf ha hR s ht hf=>by subst hR;exact turn a U Kt Kf ha s ht hf) fin
variable{tl:TE}
def kN(l:M α)f0 p e(hl:∀R:V->Hp->Prop,R (.ref r) H1->tl σ H R)
  (hlen:l.length<=100000)(hS:az K H1 r (l.map f0))
  (turn:∀a U Kt(Kf:Hp->Prop),a∈l->ah H1 U->(∀H4,ah U H4->p a=aa->Kt (e a) H4)->(∀H3,ah U H3->p a=ao->Kf H3)->g (f0 a) (wipe σ vs) U λσ2 H2=>wipe σ2 vs=wipe σ vs/\tt σ2 H2 λb H3=>if b=aa then te σ2 H3 Kt else Kf H3)
  (fin:∀(U:Hp)(D:af),ah H1 U->H1 D=ak->U D=I (.lst ((l.filter p).map e))->Q (.ref D) U):mL (yU K tl) g tt te vs σ H Q:=
 hl _ ⟨r,G,⟨_,hS⟩,Dy (g:=g) (tt:=tt) (te:=te) (vs:=vs) (σ:=σ) (Q:=Q) l f0 p e hlen hS turn fin⟩
variable{f:aj}{ta:TE}
def gv(hK:X.K=K)(he:PE X e ta)(hb:A7 e f X.env (eval e X.env)=eval e X.env):PE X (.Attribute e f pos) (vX K ta f):=hK▸fD he hb
def aax(hK:X.K=K):dX X (e7 .NotIn) (zb K aa):=hK▸zc
def MS(hK:X.K=K):tW X (CF K):=hK▸K1
structure f9(C:af)(H:Hp)(way:M AN):Prop where
 at_:∀x∈way,d9 C H x.1 x.2
 len:way.length<=1000
def f9.same{C:af}{H U:Hp}{way:M AN}(T:f9 C H way)(s:ah H U):f9 C U way:=⟨λx hx=>(T.at_ x hx).same s,T.len⟩
inductive Dz K C(vs:M V)H(Q:VK)(E:XK):Prop|mk(l:af)(way:M AN)(t:Nat)(_:vs=[.ref l,.int t])(_:az K H l (refs way))(_:f9 C H way)(_:∀U,ah H U->Q (.int (dI (way.map (·.2)) t:Nat)) U)
variable{f:af}
theorem aay(F:bf K "come_by" (top 53) f fd)(N:fc K C)(B:dR mg):aM P w K mg ai aO 1 f fd ["way","minute"] (Dz K C):=by
 refine F.aX ["way","minute","news"] (λS H vs Q E hr h=> ?_);obtain⟨l,way,t,rfl,hL,T,k⟩:=h
 exists _,aH (bJ dc (by rfl) B.len cJ (aB (fM G S (cV (pv 0)) (own:=[("news",2)]) (dY ["way","minute","news"] (cz (top 53))) (by intro _ _ _ _ _;exact cE 2 S) (by intro _ _ _ _ _;exact j3 (bL gG (gv G (pv 2) G) (pv 1))) (by intro _ _ _ _ _;exact pv 2))));have hlen:=T.len;dsimp only[lD,nG,gI,gH];refine kN way (λx=>V.ref x.1) (λx=>decide (x.2.time<=t)) (λx=>V.ref x.1) (λR h=>⟨_,G,h⟩) (by lia) hL (λa U Kt Kf ha s1 ht hf=> ?_) λU D s1 hD hd=> ?_
 .obtain⟨dx,tt,hA,_⟩:=(T.at_ a ha).same s1;exists G,_,G,a.1,C,dx,_,_,G,hA,N.cl,N.minute,G,_,G,_,_,G,G,_,G;refine b4 (λh1=> ?_) (λh1=> ?_)
  .have a0:a.2.time<=t:=by have:=c_ h1;lia
   exists _,G,ht U (ah.refl _) (aP a0)
  have a0:¬a.2.time<=t:=λq=>h1 (aP (by lia));exact hf U (ah.refl _) (aV a0)
 exists D,_,G,.inl (az.of hd)
 have e:((way.filter λx=>decide (x.2.time<=t)).map λx=>V.ref x.1).length=dI (way.map (·.2)) t:=by unfold dI;rw[aE,oj,aE];rfl
 rw[e];exact k U s1
structure uf(mg:aj->aG aq):Prop where
 MT:cS mg "AT_FIRST" 0
 aaz:cS mg "ON_ROAD" 1
 MU:cS mg "ARRIVED" 2
 done:cS mg "DONE" 3
 DH:cS mg "OFFICE_KEEPS" 0
 MV:cS mg "CARRIER_KEEPS" 1
 aaA:cS mg "NOBODY_KEEPS" 2
 aaB:cS mg "CANNOT_BE" 1
 aaC:cS mg "ANOTHER_FIRST" 2
 tooEarly:cS mg "TOO_EARLY" 3
 MX:cS mg "SAME_SEAL" 0
 broken:cS mg "BROKEN" 1
 aaD:cS mg "PERHAPS_BROKEN" 2
def jK a(b:Nat){A B:Prop}(h1:a=b->A)(h2:¬a=b->B):if decide (V.int (a:Int)=V.int (b:Int))=aa then A else B:=by rw[ff];exact b4 (λq=>h1 (c_ q)) λq=>h2 λz=>q (aP z)
variable{way:M AN}{x:AN}
def p_(h:way[i]? =I x):(refs way)[i]? =I (V.ref x.1):=by unfold refs;rw[bF,h];rfl
def map_getD(h:way[i]? =I x)d:(way.map (·.2)).getD i d=x.2:=by rw[l9,bF,h];rfl
def MY w t:dI w t<=w.length:=gV _ _
theorem zM{c:Nat}(hc:c≠0)(h:way[c-1]? =I x):jF (refs way) ((c:Int)-1)=I (V.ref x.1):=by rw[show(c-1)=((c-1:Nat):Int) by lia];exact aW (p_ h)
inductive DJ K C(vs:M V)H(Q:VK)(E:XK):Prop|mk(l:af)(way:M AN)(t:Nat)(_:vs=[.ref l,.int t])(_:az K H l (refs way))(_:f9 C H way)(_:∀U,ah H U->Q (.int (nJ (way.map (·.2)) t:Nat)) U)
theorem aaE(F:bf K "status_at" (top 54) f fd)(N:fc K C)(ar:Kinds mg)(Z:uf mg)(DB:Def P w K mg ai 1 "come_by" ["way","minute"] (Dz K C)):aM P w K mg ai aO 2 f fd ["way","minute"] (DJ K C):=by
 refine F.aX ["way","minute","come"] (λS H vs Q E hr h=> ?_);obtain⟨l,way,t,rfl,hL,T,k⟩:=h
 exists _,aC (aY 2 S (aT DB hr (bu (pv 0) (pv 1)))) (aC (bH (bL dm (pv 2) aF) (aH (bM G Z.MT)) bG) (aC (bH (bL dm (fD (bk (pv 0) (bP mJ (pv 2) aF)) G) (bM G ar.cleared)) (aH (bM G Z.done)) bG) (aH (lC (bL dm (fD (bk (pv 0) (bP mJ (pv 2) aF)) G) (bM G ar.Mx)) (bM G Z.MU) (bM G Z.aaz)))));refine⟨_,G,_,G,l,way,t,G,hL,T,λH1 s1=> ?_⟩;have k1:=k H1 s1;unfold nJ at k1;exists _,G,G,_,G,jK _ 0 (λh0=> ?_) (λh0=> ?_)
 .rw[av h0]at k1;exact k1
 rw[au h0]at k1;have c4:=MY (way.map (·.2)) t;rw[aE]at c4;obtain⟨x,hx⟩:∃x,way[dI (way.map (·.2)) t-1]? =I x:=⟨_,bg (by lia)⟩;rw[map_getD hx]at k1;obtain⟨dx,tt,hA,_⟩:=(T.at_ x (bN hx)).same s1;exists _,G,_,G,_,_,G,G,l,_,_,_,G,G,s1.seq hL,zM h0 hx,x.1,C,dx,_,_,G,hA,N.cl,N.told,G,G,_,G,jK _ 3 (λh3=> ?_) (λh3=> ?_)
 .rw[av h3]at k1;exact k1
 rw[au h3]at k1;exists _,G,_,G,_,_,G,G,l,_,_,_,G,G,s1.seq hL,zM h0 hx,x.1,C,dx,_,_,G,hA,N.cl,N.told,G,G,_,G,jK _ 2 (λh2=> ?_) (λh2=> ?_)
 .rw[av h2]at k1;exact k1
 rw[au h2]at k1;exact k1
structure rL(K:aR)(C:af):Prop where
 cl:fK K C
 principal:cF K C "principal"
 MZ:cF K C "money"
 M0:cF K C "hundredths"
 limit:cF K C "limit"
 route:cF K C "route"
 share:cF K C "share"
noncomputable def M1(j:bw)(rl:af):M (aj×V):=[("principal",.int j.principal),("money",.int j.amount),("hundredths",.int j.rate),("limit",.int j.limit),("route",.ref rl),("share",.int (iy j.amount j.rate:Nat))]
def lP(C:af)(H:Hp)(a:af)(j:bw):Prop:=∃dx rl,H a=I (.ins C dx (M1 j rl))/\H rl=I (.lst (aK j.route))
variable{j:bw}
def lP.same(h:lP C H a j)(s:ah H U):lP C U a j:=by obtain⟨dx,t,h1,h2⟩:=h;exists dx,t,s _ _ h1,s _ _ h2
def fT l:(aK l).length=l.length:=by unfold aK;rw[aE]
inductive M3 K C(vs:M V)H(Q:VK)(E:XK):Prop|mk(r l:af)(route:M Nat)(way:M AN)(t:Nat)(_:vs=[.ref r,.ref l,.int t])(_:az K H r (aK route))(_:route≠ [])(_:az K H l (refs way))(_:f9 C H way)(_:∀(U:Hp)(p:af),ah H U->H p=ak->U p=I (.lst ((oR route (way.map (·.2)) t).map V.int))->Q (.ref p) U)
theorem aaF(F:bf K "keeper_at" (top 55) f fd)(N:fc K C)(B:dR mg)(Z:uf mg)(DB:Def P w K mg ai 1 "come_by" ["way","minute"] (Dz K C))
  (DS:Def P w K mg ai 2 "status_at" ["way","minute"] (DJ K C)):aM P w K mg ai aO 3 f fd ["route","way","minute"] (M3 K C):=by
 refine F.aX ["route","way","minute","status","come","ahead"] (λS H vs Q E hr h=> ?_);obtain⟨r,l,route,way,t,rfl,hR,aw,hL,T,k⟩:=h
 exists _,aC (aY 3 S (aT DS hr (bu (pv 1) (pv 2)))) (aC (bH (bL dm (pv 3) (bM G Z.MT)) (aH (br (cg (bM G Z.DH) (bk (pv 0) aF) aF))) bG) (aC (bH (bL dm (pv 3) (bM G Z.MU)) (aH (br (cg (bM G Z.DH) (bk (pv 0) (tR tS aF)) aF))) bG) (aC (bH (bL dm (pv 3) (bM G Z.done)) (aH (br (cg (bM G Z.aaA) aF aF))) bG) (aC (aY 4 S (aT DB hr (bu (pv 1) (pv 2)))) (aC (aY 5 S (lC (bL pY (pv 4) (bJ dc (by rfl) B.len cJ (aB (pv 1)))) (fD (bk (pv 1) (pv 4)) G) (bk (pv 0) (tR tS aF)))) (aH (br (cg (bM G Z.MV) (fD (bk (pv 1) (bP mJ (pv 4) aF)) G) (pv 5)))))))));exists _,G,_,G,l,way,t,G,hL,T,λH1 s1=> ?_
 have fin:∀(H2:Hp)(xs:M Int),ah H H2->oR route (way.map (·.2)) t=xs->∀p,H2 p=ak->Q (.ref p) (upd H2 p (.lst (xs.map V.int))):=λH2 xs s2 e p hp=>by refine k _ p (s2.trans (ah.new hp)) (s2.free hp) ?_;rw[e];exact ay
 exists _,G,G,_,G,jK _ 0 (λh0=> ?_) (λh0=> ?_)
 .exists _,G,r,_,_,_,G,G,s1.seq hR,My aw,(by show 3<=sizeLine;decide),fin H1 [0,(route.headD 0:Nat),0] s1 ?_;unfold oR;rw[av h0]
 exists _,G,G,_,G,jK _ 2 (λh2=> ?_) (λh2=> ?_)
 .exists _,G,_,G,r,_,_,_,G,G,s1.seq hR,zH aw,(by show 3<=sizeLine;decide),fin H1 [0,(route.getLastD 0:Nat),0] s1 ?_;unfold oR;rw[au h0,av h2]
 exists _,G,G,_,G,jK _ 3 (λh3=> ?_) (λh3=> ?_)
 .exists(by decide),fin H1 [2,0,0] s1 ?_;unfold oR;rw[au h0,au h2,av h3]
 refine⟨_,G,_,G,l,way,t,G,s1.seq hL,T.same s1,λH2 s2=> ?_⟩;have a1:=s1.trans s2
 have hc:dI (way.map (·.2)) t≠0:=λq=>by unfold nJ at h0;rw[av q]at h0;exact h0 G
 have c4:=MY (way.map (·.2)) t;rw[aE]at c4;obtain⟨x,hx⟩:∃x,way[dI (way.map (·.2)) t-1]? =I x:=⟨_,bg (by lia)⟩;obtain⟨dx,tt,hA,_⟩:=(T.at_ x (bN hx)).same a1
 have last:∀o:Nat,(match(way.map (·.2))[dI (way.map (·.2)) t]? with|some n=>n.office|none=>route.getLastD 0)=o->
   oR route (way.map (·.2)) t=[1,((x.2.office:Nat):Int),((o:Nat):Int)]:=λo e=>by
  unfold oR;rw[au h0,au h2,au h3,map_getD hx];exact cC (λz:Nat=>([1,((x.2.office:Nat):Int),(z:Int)]:M Int)) e
 exists _,G,_,G,l,_,G,.inl (a1.seq hL),_,_,G,G,_,G;have cd:(refs way).length=way.length:=by unfold refs;rw[aE]
 rw[cd];refine b4 (λh4=> ?_) (λh4=> ?_)
 .have Ta:dI (way.map (·.2)) t<way.length:=by have:=c_ h4;lia
  obtain⟨y,hy⟩:∃y,way[dI (way.map (·.2)) t]? =I y:=⟨_,bg Ta⟩;obtain⟨dy,ty,hB,_⟩:=(T.at_ y (bN hy)).same a1;exists _,G,_,G,l,_,_,_,G,G,a1.seq hL,aW (p_ hy),y.1,C,dy,_,_,G,hB,N.cl,N.office,G;exists _,G,_,G,_,_,G,G,l,_,_,_,G,G,a1.seq hL,zM hc hx,x.1,C,dx,_,_,G,hA,N.cl,N.office,G,_,G,(by show 3<=sizeLine;decide),fin H2 [1,(x.2.office:Nat),(y.2.office:Nat)] a1 (last _ ?_);rw[bF,hy];rfl
 have Ta:¬dI (way.map (·.2)) t<way.length:=λq=>h4 (aP (by lia));exists _,G,_,G,r,_,_,_,G,G,a1.seq hR,zH aw;exists _,G,_,G,_,_,G,G,l,_,_,_,G,G,a1.seq hL,zM hc hx,x.1,C,dx,_,_,G,hA,N.cl,N.office,G,_,G,(by show 3<=sizeLine;decide),fin H2 [1,(x.2.office:Nat),(route.getLastD 0:Nat)] a1 (last _ ?_);rw[n9 (by rw[aE];lia)]
def qa(o:aG Nat):V:=match o with|none=>.bx|some n=>.int n
inductive M4 K C(vs:M V)H(Q:VK)(E:XK):Prop|mk(r l:af)(route:M Nat)(way:M AN)(_:vs=[.ref r,.ref l])(_:az K H r (aK route))(_:route≠ [])(_:az K H l (refs way))(_:f9 C H way)(_:Q (qa (((way.map (·.2)).find? λn=>n.office==route.getLastD 0).map (·.time))) H)
variable{p:bO->Bool}
def M5(h:l[i]? =I x)(hn:((l.take i).map (·.2)).find? p=ak)(hp:p x.2=aa):(l.map (·.2)).find? p=I x.2:=by
 have e:l=l.take i++x::l.drop (i+1):=by obtain⟨al,he⟩:=eL.mp h;rw[<-he];exact(pI i l).symm.trans (by rw[pJ al])
 rw[e,dH,akV,hn,b9,iw,hp];rfl
def M6(h:l[i]? =I x)(hn:((l.take i).map (·.2)).find? p=ak)(hp:p x.2=ao):((l.take (i+1)).map (·.2)).find? p=ak:=by rw[take_snoc h,dH,akV,hn,b9,iw,hp];rfl
def aaG(F:bf K "arrived_at" (top 56) f fd)(N:fc K C):aM P w K mg ai aO 1 f fd ["route","way"] (M4 K C):=by
 refine F.aX ["route","way","news"] (λS H vs Q E hr h=> ?_);obtain⟨r,l,route,way,rfl,hR,aw,hL,T,k⟩:=h
 exists _,aC (fC eN G (cV (pv 1)) (cE 2 S) (cA (bH (bL dm (aS 2) (bk (pv 0) (tR tS aF))) (aH (aS 2)) bG))) (aH pS)
 refine⟨_,G,l,G,⟨_,hL⟩,jD (λi σ U=>∃v2:aG V,σ=[I (.ref r),I (.ref l),v2]/\U=H/\((way.take i).map (·.2)).find? (λn=>n.office==route.getLastD 0)=ak) ⟨ak,G,G,G⟩ (λi σ U _⟨_,_,e,_⟩=>by rw[e];exact hL) ?_ ?_⟩
 .rintro i y σ U hi⟨v2,rfl,rfl,hn⟩;obtain⟨x,hx,rfl⟩:=wG hi;obtain⟨dx,tt,hA,_⟩:=T.at_ x (bN hx);exists _,G,x.1,C,dx,_,_,G,hA,N.cl,N.office,G,_,G,_,G,r,_,_,_,G,G,hR,zH aw,G,_,G,jK _ _ (λh1=> ?_) (λh1=> ?_)
  .rw[M5 hx hn (iZ.mpr h1)]at k;exists _,G,x.1,C,dx,_,_,G,hA,N.cl,N.minute,G,k
  exists _,G,G,M6 hx hn (gB.mpr h1)
 rintro σ U⟨v2,rfl,rfl,hn⟩;unfold refs at hn;rw[aE,i8]at hn;rw[hn]at k;exact k
inductive M7 K C(vs:M V)H(Q:VK)(E:XK):Prop|mk(l:af)(way:M AN)(_:vs=[.ref l])(_:az K H l (refs way))(_:f9 C H way)(_:Q (qa (((way.map (·.2)).find? λn=>n.kind==3).map (·.time))) H)
def aaH(F:bf K "cleared_at" (top 57) f fd)(N:fc K C)(ar:Kinds mg):aM P w K mg ai aO 1 f fd ["way"] (M7 K C):=by
 refine F.aX ["way","news"] (λS H vs Q E hr h=> ?_);obtain⟨l,way,rfl,hL,T,k⟩:=h
 exists _,aC (fC eN G (cV (pv 0)) (cE 1 S) (cA (bH (bL dm (aS 1) (bM G ar.cleared)) (aH (aS 1)) bG))) (aH pS)
 refine⟨_,G,l,G,⟨_,hL⟩,jD (λi σ U=>∃v2:aG V,σ=[I (.ref l),v2]/\U=H/\((way.take i).map (·.2)).find? (λn=>n.kind==3)=ak) ⟨ak,G,G,G⟩ (λi σ U _⟨_,_,e,_⟩=>by rw[e];exact hL) ?_ ?_⟩
 .rintro i y σ U hi⟨v2,rfl,rfl,hn⟩;obtain⟨x,hx,rfl⟩:=wG hi;obtain⟨dx,tt,hA,_⟩:=T.at_ x (bN hx);exists _,G,x.1,C,dx,_,_,G,hA,N.cl,N.told,G,G,_,G,jK _ 3 (λh1=> ?_) (λh1=> ?_)
  .rw[M5 hx hn (iZ.mpr h1)]at k;exists _,G,x.1,C,dx,_,_,G,hA,N.cl,N.minute,G,k
  exists _,G,G,M6 hx hn (gB.mpr h1)
 rintro σ U⟨v2,rfl,rfl,hn⟩;unfold refs at hn;rw[aE,i8]at hn;rw[hn]at k;exact k
variable{tb:TS}{D:mH}
theorem DL(l:M α)(Pv:Nat->L2.St->Hp->Prop)(h0:Pv 0 σ H)(lm:∀σ H,Pv l.length σ H->J.stop l.length H)(dq:∀i a σ H,l[i]? =I a->Pv i σ H->J.go i H)
  (hs:∀i a x σ H U,l[i]? =I a->Pv i σ H->J.iD i H x U->g x σ U λσ2 H2=>tb {D with nx:=Pv (i+1),ct:=Pv (i+1),fy:=D.nx} σ2 H2)(hd:∀σ H,Pv l.length σ H->D.nx σ H):
  ∃W:Nat->Nat->L2.St->Hp->Prop,(∃m,W 0 m σ H)/\∀i m σ H,W i m σ H->
   (J.stop i H/\D.nx σ H)\/(J.go i H/\∃N:L2.St->Hp->Prop,(∀σ' U,N σ' U->∃m',m'<m/\W (i+1) m' σ' U)/\∀x U,J.iD i H x U->g x σ U λσ2 H2=>tb {D with nx:=N,ct:=N,fy:=D.nx} σ2 H2):=by
 exists λi m σ H=>m=l.length-i/\i<=l.length/\Pv i σ H,⟨l.length,by simp,b6 _,h0⟩;rintro i m σ H⟨rfl,hi,p⟩;by_cases al:i<l.length
 .have ha:=bg al;exact .inr ⟨dq i _ σ H ha p,Pv (i+1),λσ' U p'=>⟨l.length-(i+1),by lia,G,al,p'⟩,λx U y=>hs i _ x σ H U ha p y⟩
 have e:i=l.length:=by lia
 subst e;exact .inl ⟨lm σ H p,hd σ H p⟩
inductive M8 K C J(vs:M V)H(Q:VK)(E:XK):Prop|mk(ja l:af)(j:bw)(way:M AN)(t:Nat)(_:vs=[.ref ja,.ref l,.int t])(_:lP J H ja j)(_:j.route≠ [])(_:az K H l (refs way))(_:f9 C H way)(_:Q (.bl (Dm j.limit j.route (way.map (·.2)) t)) H)
variable{J:af}
theorem aaI(F:bf K "is_overdue" (top 58) f fd)(N:fc K C)(NJ:rL K J)(DA:Def P w K mg ai 1 "arrived_at" ["route","way"] (M4 K C)):aM P w K mg ai aO 2 f fd ["journey","way","minute"] (M8 K C J):=by
 refine F.aX ["journey","way","minute","arrived"] (λS H vs Q E hr h=> ?_);obtain⟨ja,l,j,way,t,rfl,⟨cn,rl,jp,cd⟩,aw,hL,T,k⟩:=h
 exists _,aC (bH (pU (gY (pZ (pv 1) (λ_=>G))) (pT (bL gG (pv 2) (bP fY (fD (bk (pv 1) aF) G) (aS 0))))).pt (aH tP) bG) (aC (aY 3 S (aT DA hr (bu (aS 0) (pv 1)))) (aH (J_ (jE Cq (pv 3) pS (jZ _)) (vM (jE lH (pv 3) (bP fY (fD (bk (pv 1) aF) G) (aS 0)) (jZ _))))));exists _,G,_,.inl ⟨_,hL,G⟩;cases way with
 |nil=>exact bK k
 |cons x r=>
  refine bX ?_;obtain⟨dx,tt,hA,_⟩:=T.at_ x bW;have M9:jF (refs (x::r)) 0=I (V.ref x.1):=aW G;exists _,G,_,G,l,_,_,_,G,G,hL,M9,x.1,C,dx,_,_,G,hA,N.cl,N.minute,G,_,G,ja,J,cn,_,_,G,jp,NJ.cl,NJ.limit,G,_,_,G,G,_,_,G,G,_,G;have k':Q (.bl (if t<=x.2.time+j.limit then ao else match(((x::r).map (·.2)).find? λn=>n.office==j.route.getLastD 0)with|none=>aa|some a=>decide (x.2.time+j.limit<a.time))) H:=k;refine b4 (λh1=> ?_) (λh1=> ?_)
  .have a0:t<=x.2.time+j.limit:=by have:=c_ h1;lia
   rw[av a0]at k';exact k'
  have a0:¬t<=x.2.time+j.limit:=λq=>h1 (aP (by lia));rw[au a0]at k';exists _,G,ja,J,cn,_,_,G,jp,NJ.cl,NJ.route,G,_,G,rl,l,j.route,x::r,G,az.of cd,aw,hL,T;cases e:(((x::r).map (·.2)).find? λn=>n.office==j.route.getLastD 0)with
  |none=>rw[e]at k';exists _,G,G,_,G,bK k'
  |some a=>
   rw[e]at k';exists _,G,G,_,G,bX ?_;exists _,G,_,G,l,_,_,_,G,G,hL,M9,x.1,C,dx,_,_,G,hA,N.cl,N.minute,G,_,G,ja,J,cn,_,_,G,jp,NJ.cl,NJ.limit,G,_,_,G,G,_,_,G,G
   have e2:decide (((x.2.time:Nat):Int)+(j.limit:Nat)<(a.time:Nat))=decide (x.2.time+j.limit<a.time):=by
    by_cases q:x.2.time+j.limit<a.time
    .rw[aP q];exact aP (by lia)
    rw[aV q];exact aV (by lia)
   rw[e2];exact k'
inductive M_ K C(vs:M V)H(Q:VK)(E:XK):Prop|mk(r a b:af)(route:M Nat)(n m:bO)(_:vs=[.ref r,.ref a,.ref b])(_:az K H r (aK route))(_:n.office∈route)(_:m.office∈route)(_:d9 C H a n)(_:d9 C H b m)(_:Q (.int (Sg.wB route n m:Nat)) H)
def DM o:fZ (.int (o:Int)) (.int (o:Int))=aa:=by show((o:Int)==(o:Int))=aa;simp
def aaJ(F:bf K "seal_between" (top 51) f fd)(N:fc K C)(Z:uf mg):aM P w K mg ai aO 1 f fd ["route","news","later"] (M_ K C):=by
 refine F.aX ["route","news","later","steps"] (λS H vs Q E hr h=> ?_);obtain⟨r,a,b,route,n,m,rfl,hR,hn,hm,⟨dx,t,hA,hT⟩,⟨dy,u,hB,aal⟩,k⟩:=h
 exists _,aC (bH (bL dm (aS 2) (aS 1)) (aH (bM G Z.MX)) bG) (aC (aY 3 S (bP mJ (ee fq Bg IL zf (pv 0) (aB (aS 2))) (ee fq Bg IL zf (pv 0) (aB (aS 1))))) (aH (lC (bL dm (pv 3) aF) (bM G Z.broken) (bM G Z.aaD))));obtain⟨i1,i2⟩:=zI hm;obtain⟨j1,j2⟩:=zI hn;unfold Sg.wB at k;exists _,G,b,C,dy,_,_,G,hB,N.cl,N.found,G,_,G,a,C,dx,_,_,G,hA,N.cl,N.left,G,G,_,G,jK _ _ (λh1=> ?_) (λh1=> ?_)
 .rw[av h1]at k;exact k
 rw[au h1]at k;exists _,G,.inl ⟨G,_,hR⟩,_,G,b,C,dy,_,_,G,hB,N.cl,N.office,G,r,_,_,_,_,G,G,hR,G,p9 _,i1,DM _,i2,_,G,.inl ⟨G,_,hR⟩,_,G,a,C,dx,_,_,G,hA,N.cl,N.office,G,r,_,_,_,_,G,G,hR,G,p9 _,j1,DM _,j2,_,_,G,G,_,G,G,_,G;refine b4 (λh2=> ?_) (λh2=> ?_)
 .have b2:=c_ h2;have h3:((route.idxOf m.office:Nat):Int)-(route.idxOf n.office:Nat)=1:=by injection b2
  rw[av h3]at k;exact k
 have h3:=λq=>h2 (aP (cC V.int q));rw[au h3]at k;exact k
inductive Na K C(vs:M V)H(Q:VK)(E:XK):Prop|mk(r d a:af)(route:M Nat)(fs:M (Nat×AN))(n:AN)(_:vs=[.ref r,.ref d,.ref n.1])(_:az K H r (aK route))(_:route≠ [])(_:H d=I (.dK (dj fs)))(_:d9 C H n.1 n.2)(_:(∀s x,fs.lookup s=I x->d9 C H x.1 x.2))(_:(Sg.fN route n.2=aa->∃x,fs.lookup (cI route n.2)=I x))(_:∀U,ah H U->Q (.int (Sg.ue (·.2) route fs n:Nat)) U)
def aaK(h:Sg.fN route n=aa):n.office∈route:=by
 unfold Sg.fN at h;by_cases q:n.office∈route
 .exact q
 rw[av (by simpa using q)]at h;cases h
def aaL(F:bf K "fault_of" (top 48) f fd)(N:fc K C)(Z:uf mg)(DC:Def P w K mg ai 1 "can_be" ["route","news"] (Dn K C))
  (DS:Def P w K mg ai 1 "stage_of" ["route","news"] (zJ K C)):aM P w K mg ai aO 2 f fd ["route","firsts","news"] (Na K C):=by
 refine F.aX ["route","firsts","news"] (λS H vs Q E hr h=> ?_);obtain⟨r,d,a,route,fs,n,rfl,hR,aw,hd,hN,hF,hc,k⟩:=h
 exists _,aC (bH (gY (fQ (aT DC hr (bu (pv 0) (pv 2))))) (aH (bM G Z.aaB)) bG) (aC (bH (bL lG (fD (oH (oK hr) (pv 1) (aT DS hr (bu (pv 0) (pv 2))) (λ_ _=>G)) G) (aS 2)) (aH (bM G Z.aaC)) bG) (aH (bM G Z.tooEarly)));refine⟨_,G,_,G,r,n.1,route,n.2,G,hR,aw,hN,λH1 s1=>⟨_,G,?_⟩⟩;have k1:=k H1 s1;unfold Sg.ue at k1;cases e:Sg.fN route n.2 with
 |false=>rw[e,av G]at k1;exact bK k1
 |true=>
  rw[e,au (by decide)]at k1;refine bX ?_;obtain⟨x,hx⟩:=hc e;rw[hx]at k1;obtain⟨dx,t,hA,_⟩:=(hF _ _ hx).same s1;obtain⟨DP,tn,hB,_⟩:=id (hN.same s1)
  have g1:eH H1 d (V.int (cI route n.2:Nat)) (I (V.ref x.1)):=by have:=eH.k (k:=cP ((cI route n.2:Nat):Int)) (s1 _ _ hd);rw[lO,hx]at this;exact this
  exists _,G,_,G,_,G,r,n.1,route,n.2,G,s1.seq hR,aaK e,hN.same s1,d,_,G,g1,x.1,C,dx,_,_,G,hA,N.cl,N.number,G,_,G,n.1,C,DP,_,_,G,hB,N.cl,N.number,G,G,_,G;simp only at k1;rw[ff];by_cases q:x.2.id=n.2.id
  .rw[av q]at k1;rw[aP q];exact bX k1
  rw[au q]at k1;rw[aV q];exact bK k1
def aaM xs(k:Nat)(h:k<=xs.length):e_ xs ak (I (k:Int))=xs.take k:=by unfold e_;rw[HT.KY,HT.p6,yk,vh h,A2]
def Nb xs:e_ xs (I 1) ak=xs.drop 1:=by
 unfold e_;rw[HT.KY];have e:HT.iE xs.length 0 (I (1:Int))=min 1 xs.length:=HT.p6 _ _ 1;rw[e];cases xs with
 |nil=>rfl
 |cons a r=>
  have:min 1 (a::r).length=1:=by simp
  rw[this];refine pA ?_;rw[ir];exact aZ _
def aaN l k:(aK l).take k=aK (l.take k):=by unfold aK;rw[yl]
inductive Nc K C(vs:M V)H(Q:VK)(E:XK):Prop|mk(r l:af)(route:M Nat)(way:M AN)(_:vs=[.ref r,.ref l])(_:az K H r (aK route))(_:route.length<=1000)(_:az K H l (refs way))(_:f9 C H way)(_:(∀x∈way,x.2.office∈route))(_:∀(U:Hp)(p:af),ah H U->H p=ak->U p=I (.lst (aK (ud route (way.map (·.2)))))->Q (.ref p) U)
theorem aaO(F:bf K "missing_of" (top 50) f fd)(N:fc K C):aM P w K mg ai aO 1 f fd ["route","way"] (Nc K C):=by
 refine F.aX ["route","way","heard","news","office"] (λS H vs Q E hr h=> ?_);obtain⟨r,l,route,way,rfl,hR,cd,hL,T,hO,k⟩:=h
 exists _,aC (bH (gY (pZ (pv 1) (λ_=>G))) (aH (br eT)) bG) (aC (vP (i:=2) S G (cZ G) (fM G S (cV (pv 1)) (own:=[("news",3)]) (dY ["route","way","heard","news","office"] (cz (top 50))) (by intro _ _ _ _ _;exact cE 3 S) (by intro _ _ _ _ _;exact iP) (by intro _ _ _ _ _;exact gv G (pv 3) G))) (aH (fM G S (cV (mK nH (pv 0) Cz (g4 (ee fq Bg IL zf (pv 0) (aB (fD (bk (pv 1) (tR tS aF)) G)))))) (own:=[("office",4)]) (dY ["route","way","heard","news","office"] (cz (top 50))) (by intro _ _ _ _ _;exact cE 4 S) (by intro _ _ _ _ _;exact j3 (tT (aax (K:=K) G) (pv 4) (pv 2) (by with_unfolding_all rfl))) (by intro _ _ _ _ _;exact pv 4))));have ew:=T.len;exists _,G,_,.inl ⟨_,hL,G⟩;cases e:way.getLast? with
 |none=>
  have e0:way=[]:=by simpa using e
  subst e0;refine bK ⟨b6 _,λp hp=>k _ p (ah.new hp) hp ?_⟩;exact ay
 |some b=>
  have aw:(!(refs way).isEmpty)=aa:=by obtain⟨r',cj⟩:=IG.mp e;rw[cj,Dt];simp
  rw[aw];refine bX ?_;dsimp only[pW,jY,kK];refine kN way (λx=>V.ref x.1) (λ_=>aa) (λx=>V.int (x.2.office:Nat)) (λR h=>⟨_,G,h⟩) (by lia) hL (λa U Kt Kf ha s1 ht hf=> ?_) λH1 hd s1 hh0 hh=> ?_
  .obtain⟨dx,tt,hA,_⟩:=(T.at_ a ha).same s1;exists G,bK (B:=Kf U) ?_;exists _,G,a.1,C,dx,_,_,G,hA,N.cl,N.office,G,ht U (ah.refl _) G
  have aaP:H1 hd=I (.lst (aK (way.map λx=>x.2.office))):=by rw[hh,mq.mpr (λ_ _=>G)];unfold aK;rw[bQ];rfl
  have mb:=II e;obtain⟨TC,tb,hB,_⟩:=(T.at_ b mb).same s1;obtain⟨i1,i2⟩:=zI (hO b mb);have c4:route.idxOf b.2.office<=(aK route).length:=by rw[fT];exact uU (oM (hO b mb))
  refine⟨_,G,_,G,.inl ⟨G,_,s1.seq hR⟩,_,G,_,G,l,_,_,_,G,G,s1.seq hL,MI e,b.1,C,TC,_,_,G,hB,N.cl,N.office,G,r,_,_,_,_,G,G,s1.seq hR,G,p9 _,i1,DM _,i2,_,G,r,_,G,s1.seq hR,λp hp=> ?_⟩;rw[aaM _ _ c4,aaN];have s2:ah H1 (upd H1 p (.lst (aK (route.take (route.idxOf b.2.office))))):=ah.new hp;refine⟨p,G,⟨_,az.of ay⟩,Dy (g:=jC 4) (tt:=vV (lF (zb K aa) (jX 4) (jX 2))) (te:=jX 4) (vs:=[4]) (route.take (route.idxOf b.2.office)) (λo=>V.int (o:Nat)) (λo=> !((way.map λx=>x.2.office).contains o)) (λo=>V.int (o:Nat)) (by rw[gT];lia) (az.of ay) (λo U Kt Kf ho s3 ht hf=> ?_) λU D s3 hD hd3=> ?_⟩
  .exists G,_,G,_,G,hd,_,G,.inl (az.of (s3 _ _ (s2 _ _ aaP))),G,p9 _,_,G;show if(!fL (.int (o:Nat)) (aK (way.map λx=>x.2.office)))=aa then _ else _;rw[wD];refine b4 (λh1=> ?_) (λh1=> ?_)
   .exists _,G,ht U (ah.refl _) h1
   exact hf U (ah.refl _) (by simpa using h1)
  refine k U D (s1.trans (s2.trans s3)) (s1.free (s2.free hD)) ?_;rw[hd3];unfold ud;rw[akN,e];simp only[gh];rw[bQ];rfl
def aaQ l k:(refs l).drop k=refs (l.drop k):=by unfold refs;rw[qO]
def ug l:(refs l).length=l.length:=by unfold refs;rw[aE]
def zip_get{m:M AN}{z:AN×AN}(h:(l.zip m)[i]? =I z):l[i]? =I z.1/\m[i]? =I z.2:=by rw[ym]at h;exact h
def wH l m:aK (l++m)=aK l++aK m:=by unfold aK;rw[dH]
def Nd(K:aR)(r:af)(g:TG)(tt:TT)(te:TE)(vs:M Nat)(σ:L2.St)(H1:Hp)(Q:VK):Prop:=(∃xs,az K H1 r xs)/\∀D,H1 D=ak->∃W:Nat->Nat->Hp->Prop,(∃m,W 0 m (upd H1 D (.lst [])))/\∀i m H,W i m H->
   ((fB K r).stop i H/\Q (.ref D) H)\/((fB K r).go i H/\∃Nx:Hp->Prop,(∀U,Nx U->∃m',m'<m/\W (i+1) m' U)/\∀x U,(fB K r).iD i H x U->g x (wipe σ vs) U λσ2 H2=>wipe σ2 vs=wipe σ vs/\tt σ2 H2 λb H3=>
    if b=aa then te σ2 H3 λy H4=>∃acc,H4 D=I (.lst acc)/\acc.length<sizeLine/\Nx (upd H4 D (.lst (acc++[y])))else Nx H3)
def oS(h:tl σ H λx H1=>∃r,x= .ref r/\Nd K r g tt te vs σ H1 Q):mL (yU K tl) g tt te vs σ H Q:=h
def qb(l:M α)f0 p e(hlen:l.length<=100000)(hS:az K H1 r (l.map f0))
  (turn:∀a U Kt(Kf:Hp->Prop),a∈l->ah H1 U->(∀H4,ah U H4->p a=aa->Kt (e a) H4)->(∀H3,ah U H3->p a=ao->Kf H3)->g (f0 a) (wipe σ vs) U λσ2 H2=>wipe σ2 vs=wipe σ vs/\tt σ2 H2 λb H3=>if b=aa then te σ2 H3 Kt else Kf H3)
  (fin:∀(U:Hp)(D:af),ah H1 U->H1 D=ak->U D=I (.lst ((l.filter p).map e))->Q (.ref D) U):Nd K r g tt te vs σ H1 Q:=
 ⟨⟨_,hS⟩,Dy (g:=g) (tt:=tt) (te:=te) (vs:=vs) (σ:=σ) (Q:=Q) l f0 p e hlen hS turn fin⟩
noncomputable def qc(route:M Nat)(told way:M AN)(a:AN):M Nat:=if(way.map λx=>x.2.id).contains a.2.id=aa then []else [a.2.id,Sg.ue (·.2) route (eo (·.2) route told) a]
def oU(route:M Nat)(told way l:M AN):M Nat:=l.flatMap (qc route told way)
theorem Nf route told way l:(oU route told way l).length<=2*l.length:=by
 unfold oU;induction l with
 |nil=>simp
 |cons a l ih=>
  rw[gW,bD,bT]
  have:(qc route told way a).length<=2:=by unfold qc;split<;>simp
  lia
inductive Ng K C(vs:M V)H(Q:VK)(E:XK):Prop|mk(r l:af)(route:M Nat)(told:M AN)(_:vs=[.ref r,.ref l])(_:az K H r (aK route))(_:az K H l (refs told))(_:Told C H route told)(_:∀(U:Hp)(p:af)(way:M AN),ah H U->H p=ak->Du route told way->U p=I (.lst (aK (oU route told way told)))->Q (.ref p) U)
theorem aaR(F:bf K "faults_of" (top 49) f fd)(N:fc K C)(DF:Def P w K mg ai 2 "firsts_of" ["route","told"] (Dq K C))
  (DW:Def P w K mg ai 3 "way_of" ["route","told"] (Dv K C))(DO:Def P w K mg ai 2 "fault_of" ["route","firsts","news"] (Na K C)):aM P w K mg ai aO 4 f fd ["route","told"] (Ng K C):=by
 refine F.aX ["route","told","firsts","stays","faults","news"] (λS H vs Q E hr h=> ?_);obtain⟨r,l,route,told,rfl,hR,hL,T,k⟩:=h
 exists _,aC (aY 2 S (aT DF hr (bu (pv 0) (pv 1)))) (aC (rG (i:=3) G S G G G (cV (aT DW hr (bu (pv 0) (pv 1)))) (own:=[("news",5)]) (dY ["route","told","firsts","stays","faults","news"] (cz (top 49))) (by intro _ _ _ _ _;exact cE 5 S) (by intro _ _ _ _ _;exact iP) (by intro _ _ _ _ _;exact gv G (pv 5) G)) (aC (aY 4 S (br eT)) (aC (fC eN G (cV (pv 1)) (cE 5 S) (cA (bH (tT zc (aS 5) (pv 3) (by with_unfolding_all rfl))
    (cA (fR (ee fq l8 oq oG (pv 4) (aB (br (bu (aS 5) (aT DO hr (cg (pv 0) (pv 2) (pv 5))))))))) bG)))
  (aH (pv 4)))))
 have ew:=T.len;have FO:=wm (λy:AN=>y.2) route told;refine⟨_,G,_,G,r,l,route,told,G,hR,T.ne,hL,T.at_,T.len,λH1 d s1 hd0 hd=> ?_⟩;dsimp only[pW,jY,kK,jC];refine oS ?_;refine⟨_,G,_,G,r,l,route,told,G,s1.seq hR,s1.seq hL,T.same s1,λH2 wl way s2 hw0 hw W=>⟨wl,G,?_⟩⟩;have hWl:=W.len;refine qb way (λx=>V.ref x.1) (λ_=>aa) (λx=>V.int (x.2.id:Nat)) (by lia) (az.of hw) (λa U Kt Kf ha s3 ht hf=> ?_) λH3 TD s3 hy0 hy=> ?_
 .obtain⟨dx,tt,hA,_⟩:=(T.at_ a (W.sub a ha)).same ((s1.trans s2).trans s3);exists G,bK (B:=Kf U) ⟨_,G,a.1,C,dx,_,_,G,hA,N.cl,N.number,G,ht U (ah.refl _) G⟩
 have aaS:H3 TD=I (.lst (aK (way.map λx=>x.2.id))):=by rw[hy,mq.mpr (λ_ _=>G)];unfold aK;rw[bQ];rfl
 refine⟨b6 _,λql bj=> ?_⟩;have a3:ah H H3:=(s1.trans s2).trans s3;have s4:ah H3 (upd H3 ql (.lst [])):=ah.new bj
 exists _,G,l,G,⟨_,(a3.trans s4).seq hL⟩,jD (K:=K) (a:=l) (xs:=refs told) (λi σ U=>∃v5:aG V,σ=[I (.ref r),I (.ref l),I (.ref d),I (.ref TD),I (.ref ql),v5]/\ah H3 U/\U ql=I (.lst (aK (oU route told way (told.take i))))) ⟨ak,G,s4,ay⟩ (λi σ U _⟨_,_,s5,_⟩=>(a3.trans s5).seq hL) ?_ ?_
 .rintro i y σ U hi⟨v5,rfl,s5,c5⟩;obtain⟨x,hx,rfl⟩:=wG hi;have wT:=bN hx;have oT:=a3.trans s5;have mi:=(T.at_ x wT).same oT;obtain⟨dx,Fk,hA,_⟩:=id mi
  have step:oU route told way (told.take (i+1))=oU route told way (told.take i)++qc route told way x:=by rw[take_snoc hx];unfold oU;rw[qQ];simp
  exists _,G,x.1,C,dx,_,_,G,hA,N.cl,N.number,G,_,G,TD,_,G,.inl (az.of (s5 _ _ aaS)),G,p9 _,_,G;show if(!fL (.int (x.2.id:Nat)) (aK (way.map λx=>x.2.id)))=aa then _ else _;rw[wD];refine b4 (λh1=> ?_) (λh1=> ?_)
  .have a0:¬(way.map λx=>x.2.id).contains x.2.id=aa:=by simpa using h1
   unfold qc at step;rw[au a0]at step;exists _,G,.inl ⟨G,_,az.of c5⟩,_,G,x.1,C,dx,_,_,G,hA,N.cl,N.number,G,_,G,_,G,_,G,r,d,x.1,route,eo (·.2) route told,x,G,oT.seq hR,T.ne,s5 _ _ (s3 _ _ (s2 _ _ hd)),mi,(λs0 y0 h0=>(T.at_ y0 (FO.j4 s0 y0 h0).1).same oT),(λhc=> ?_),λH6 s6=> ?_
   .cases e:(eo (λy:AN=>y.2) route told).lookup (cI route x.2)with
    |none=>exact aU G (FO.none_ _ e x wT hc)|some b=>exists b,G
   refine⟨(by show 2<=sizeLine;decide),λb hb=> ?_⟩;exists ql,b,aK (oU route told way (told.take i)),_,G,G,?_,ay,?_
   .rw[aD (b_ (s6 _ _ c5) hb)];exact s6 _ _ c5
   .rw[fT];have h2:=Nf route told way (told.take i);rw[gT]at h2;have:(2004:Nat)<=sizeLine:=by decide
    show _+2<=sizeLine;lia
   exists _,G,λc o ec=> ?_
   .rw[aD (b_ ec bj),aD (b_ (s6 _ _ (s5 _ _ ec)) hb)];exact s6 _ _ (s5 _ _ ec)
   rw[ay,step,wH];rfl
  have a0:(way.map λx=>x.2.id).contains x.2.id=aa:=by simpa using h1
  unfold qc at step;rw[av a0,jT]at step;exact⟨_,G,s5,by rw[step];exact c5⟩
 rintro σ U⟨v5,rfl,s5,c5⟩;rw[ug,i8]at c5;exists _,G,k U ql way (a3.trans s5) (a3.free bj) W c5
def Nh{k:M bO}(hk:fS k)(J:g7 j)(ht:told.map (·.2)=mR k j)(eP:(told.map λx=>x.2.id).Nodup)(W:Du j.route told way):
  oU j.route told way told=(yo k j).flatMap λx=>[x.1,x.2]:=by
 have ln:way.map (λa=>(cI j.route a.2,a.2))=cD k j:=by rw[W.eq j G,ht];rfl
 have hn:way.map (·.2)=cN k j:=by unfold cN;rw[<-ln,bQ];rfl
 rw[aaf hk J ht eP (wm (λy:AN=>y.2) j.route told)];have hc:(cN k j).map (λn=>n.id)=way.map λx=>x.2.id:=by rw[<-hn,bQ];rfl
 rw[hc]
 have e:∀l:M AN,l.flatMap (qc j.route told way)=(l.filterMap λa=>if(way.map λx=>x.2.id).contains a.2.id=aa then ak else I (a.2.id,Sg.ue (·.2) j.route (eo (·.2) j.route told) a)).flatMap λx=>[x.1,x.2]:=by
  intro l;induction l with
  |nil=>rfl
  |cons a l ih=>
   rw[gW,n5,ih];unfold qc;split
   .rfl
   rw[gW]
 exact e told
def mS:M Int->M Int->Bool|[],_=>ao|_::_,[]=>aa|x::xs,y::ys=>if x=y then mS xs ys else decide (y<x)
section
open PySem.SeqAt
open PySem.AutoSeq1 (wpAny_loadPart')
open PySem.MeetsSeq PySem.MeetsSeq2 PySem.MeetsSeq3
def aaT A s a t c u prog w E Q(h:Q (.bool (decide (c<a))) s):
  aJ (aL prog w) A (Uw .Gt (.int a t) (.int c u)) Q E s:=
 (ajQ h:aJ (aL prog w) A (e7 .Gt (.int a t) (.int c u)) Q E s)
theorem aaU l b as bs n m d1 d2 z1 z2 ns ms(ha:IntsAre as.toList ns)(sn:IntsAre bs.toList ms):
  Ba (Builtin.«tuple.__gt__» ⟨[.ref l,.ref b],[]⟩)
   (λ_ R s=>s.heap.get? l=I {cls:=.type "tuple",dict:=d1,data:=.seq as n,slots:=z1}/\s.heap.get? b=I {cls:=.type "tuple",dict:=d2,data:=.seq bs m,slots:=z2}/\R (.ok (.ret (.bool (mS ns ms)))) s):=
 .of_wp λprog w A R s h=>by
  obtain⟨hp,g,d,tk,os⟩:=s;obtain⟨hl,hb,h⟩:=h;have f2:=ajZ;have e1:as.size=ns.length:=by rw[<-ha.length];simp
  have e2:bs.size=ms.length:=by rw[<-sn.length];simp
  wp_walk using wpAny_loadPart' hl,wpAny_loadPart' hb,aj0 _ (λrest b s'=>b.1=ak/\s'=⟨hp,g,d,tk,os⟩/\∃(vs ws:M aq)(xs ys:M Int),rest=vs.zip ws/\IntsAre vs xs/\IntsAre ws ys/\xs.length+bs.size=ys.length+as.size/\R (.ok (.ret (.bool (mS xs ys)))) ⟨hp,g,d,tk,os⟩) _
  case turn=>
   rintro⟨y,x⟩rest b s'⟨oa,rfl,vs,ws,xs,ys,hz,oe,fi,hlen,hR⟩;cases oe with
   |nil=>rw[aj1]at hz;cases hz
   |cons a t Os=>
    cases fi with
    |nil=>rw[aj2]at hz;cases hz
    |cons c u Oy=>
     rw[xV]at hz;injection hz with OK Dx;injection OK with hy hx;subst hy hx;unfold mS at hR;simp only[bT]at hlen;obtain⟨e,he,vr⟩:=HT.KW A.in1 ⟨hp,g,d,tk,os⟩ a t c u;refine aA (he prog w _ _ ?_);cases e with
     |true=>
      rw[av (vr.mp G)]at hR
      wp_walk
      exists G,G,_,_,_,_,Dx,Os,Oy,by lia,hR
     |false=>
      rw[au (λq=>aU (vr.mpr q) dJ)]at hR
      wp_walk using(aaT A.in1 ⟨hp,g,d,tk,os⟩ a t c u prog w)
      exact⟨_,G,by simpa using hR⟩
  case fin=>
   rintro⟨b1,cc⟩s'⟨oa,rfl,vs,ws,xs,ys,hz,oe,fi,hlen,hR⟩;simp only at oa;subst oa
   have hv:mS xs ys=decide (bs.size<as.size):=by
    cases oe with
    |nil=>
     cases fi with
     |nil=>simp only[ng]at hlen;exact(aV (by lia)).symm
     |cons c u hw=>simp only[ng,bT]at hlen;exact(aV (by lia)).symm
    |cons a t hv=>
     cases fi with
     |nil=>simp only[ng,bT]at hlen;exact(aP (by lia)).symm
     |cons c u hw=>rw[xV]at hz;cases hz
   rw[hv]at hR
   wp_walk
   exact⟨_,G,by simpa[aj3]using hR⟩
  case h=>
   exists G,G,as.toList,bs.toList,ns,ms,G,ha,sn,by lia,h
end
def aaV{prog:bY}{A:eZ}{E:aq->aI->Prop}{s:aI}{l b:af}{as bs:Array aq}{ns ms:M Int}{Q:aq->aI->Prop}(hl:sE s.heap l as)(hb:sE s.heap b bs)(hi:IntsAre as.toList ns)(hj:IntsAre bs.toList ms)
  (hu:A.units<kj)(h:Q (.bool (mS ns ms)) s):aJ (aL prog w) A (e7 .Gt (.ref l) (.ref b)) Q E s:=by
 obtain⟨⟨cls,dd,data,sl⟩,ho,hc,n,hd⟩:=id hl;obtain⟨⟨X0,va,data2,vi⟩,og,vw,n2,hE⟩:=id hb;simp only at hc hd vw hE;subst hc hd vw hE
 exact aj4 (op:=.Gt) ⟨_,ho,G⟩ ⟨_,og,G⟩ PySem.F.slot_tuple_gt PySem.F.entry_tuple_gt (PySem.F.args_tuple_gt_2 _ _) (aaU l b as bs n n2 dd va sl vi ns ms hi hj)
  ⟨ho,og,show uS (mS ns ms)≠Ux/\Q (.bool (mS ns ms)) s from⟨(λx=>nomatch x),h⟩⟩ hu
inductive aaW K(x:V)(y:V)H(Q:VK):Prop|mk(a:_)(b:_)(ns:_)(ms:_)(_:x= .ref a)(_:y= .ref b)(_:bz K H a (ns.map V.int))(_:bz K H b (ms.map V.int))(_:Q (.bl (mS ns ms)) H)
def aaX(hu:X.A.units<kj):dX X (e7 .Gt) (aaW X.K):=by intro pins s σ H x y v u Q ab rx ry h;obtain⟨a,b,ns,ms,rfl,rfl,h1,h2,q⟩:=h;cases rx;cases ry;obtain⟨i1,r1,t1,_⟩:=ab.tuple h1;obtain⟨i2,r2,t2,_⟩:=ab.tuple h2;exact aaV t1 t2 r1.ints r2.ints hu ⟨.bl _,H,ab,G,q⟩
def aaY:gZ X (.type "dict") (λxs H Q=>∃a ae,xs=[.ref a]/\Rd H a (.dK ae)/\∀p,H p=ak->Q (.ref p) (upd H p (.dK ae))):=by intro pins s σ H xs us Q ab r h;obtain⟨a,ae,rfl,hd,q⟩:=h;rw[Vals.nI r];exact Zm ab hd λp s' hp I'=>⟨.ref p,_,I',G,q p hp⟩
def boot_dict:jt "dict"=I (.type "dict"):=by decide+kernel
def zN l:aK l=(l.map λ(n:Nat)=>(n:Int)).map V.int:=by unfold aK;rw[bQ];rfl
theorem Ni:∀l m,l.length=m.length->mS (l.map λ(n:Nat)=>(n:Int)) (m.map λ(n:Nat)=>(n:Int))=sS m l
 |[],[],_=>rfl|[],_::_,h=>by simp at h|_::_,[],h=>by simp at h|x::l,y::m,h=>by
  show(if(x:Int)=(y:Int)then mS (l.map λ(n:Nat)=>(n:Int)) (m.map λ(n:Nat)=>(n:Int))else decide ((y:Int)<(x:Int)))=(decide (y<x)||(y==x&&sS m l));rw[Ni l m (by simpa using h)];by_cases e:x=y
  .subst e;simp
  rw[au (by lia)];have:(y==x)=ao:=by simp;lia
  rw[this];by_cases q:y<x
  .rw[aP q,aP (by lia)];rfl
  rw[aV q,aV (by lia)];rfl
inductive DQ C(vs:M V)(H:Hp)(Q:VK)(E:XK):Prop|mk(p t dx:af)(n:bO)(_:vs=[.ref p,.ref t])(_:H p=I (.ins C dx []))(_:H t=I (.tup (aK (cM n))))(_:∀U,U p=I (.ins C dx (nf t n))->(∀b o,H b=I o->b≠p->U b=I o)->Q .bx U)
def aaZ(F:dg K "__init__" "News.__init__" Jj f fd)(N:fc K C):aM P w K mg ai aO 1 f fd ["self","row"] (DQ C):=by
 refine F.aX ["self","row"] (λS H vs Q E hr h=> ?_);obtain⟨p,t,dx,n,rfl,hp,ht,k⟩:=h
 exists _,aC (cR (pv 0) (pv 1) G) (aC (cR (pv 0) (dS (pv 1) aF) G) (aC (cR (pv 0) (dS (pv 1) aF) G) (aC (cR (pv 0) (dS (pv 1) aF) G) (aC (cR (pv 0) (dS (pv 1) aF) G) (aC (cR (pv 0) (dS (pv 1) aF) G) (aC (cR (pv 0) (dS (pv 1) aF) G) (aC (cR (pv 0) (dS (pv 1) aF) G) (cA (cR (pv 0) (dS (pv 1) aF) G)))))))));have ntp:=iC ht hp (by intro q;cases q);have hT:∀(U:Hp)(o:HO),U t=I (.tup (aK (cM n)))->(upd U p o) t=I (.tup (aK (cM n))):=λU o h=>by rw[aD ntp];exact h
 have iR:∀(i:Nat)(v:Nat),(cM n)[i]? =I v->jF (aK (cM n)) (i:Int)=I (.int v):=λi v h=>aW (by unfold aK;rw[bF,h];rfl);exists _,G,_,G,p,C,dx,_,G,hp,N.cl,N.row,(by decide);have t1:=hT _ (.ins C dx (bU "row" (.ref t) [])) ht;exists _,G,t,_,_,_,G,G,bz.of t1,iR 0 n.id G,_,G,p,C,dx,_,G,ay,N.cl,N.number,(by show 1<1000;decide);have t2:=hT _ (.ins C dx (bU "number" (.int n.id) (bU "row" (.ref t) []))) t1;exists _,G,t,_,_,_,G,G,bz.of t2,iR 1 n.version G,_,G,p,C,dx,_,G,ay,N.cl,N.version,(by show 2<1000;decide);have t3:=hT _ (.ins C dx (bU "version" (.int n.version) (bU "number" (.int n.id) (bU "row" (.ref t) [])))) t2;exists _,G,t,_,_,_,G,G,bz.of t3,iR 2 n.journey G,_,G,p,C,dx,_,G,ay,N.cl,N.journey,(by show 3<1000;decide);have t4:=hT _ (.ins C dx (bU "journey" (.int n.journey) (bU "version" (.int n.version) (bU "number" (.int n.id) (bU "row" (.ref t) []))))) t3;exists _,G,t,_,_,_,G,G,bz.of t4,iR 3 n.office G,_,G,p,C,dx,_,G,ay,N.cl,N.office,(by show 4<1000;decide);have t5:=hT _ (.ins C dx (bU "office" (.int n.office) (bU "journey" (.int n.journey) (bU "version" (.int n.version) (bU "number" (.int n.id) (bU "row" (.ref t) [])))))) t4;exists _,G,t,_,_,_,G,G,bz.of t5,iR 4 n.kind G,_,G,p,C,dx,_,G,ay,N.cl,N.told,(by show 5<1000;decide);have w1:=hT _ (.ins C dx (bU "told" (.int n.kind) (bU "office" (.int n.office) (bU "journey" (.int n.journey) (bU "version" (.int n.version) (bU "number" (.int n.id) (bU "row" (.ref t) []))))))) t5;exists _,G,t,_,_,_,G,G,bz.of w1,iR 5 n.time G,_,G,p,C,dx,_,G,ay,N.cl,N.minute,(by show 6<1000;decide);have t7:=hT _ (.ins C dx (bU "minute" (.int n.time) (bU "told" (.int n.kind) (bU "office" (.int n.office) (bU "journey" (.int n.journey) (bU "version" (.int n.version) (bU "number" (.int n.id) (bU "row" (.ref t) [])))))))) w1;exists _,G,t,_,_,_,G,G,bz.of t7,iR 6 n.found G,_,G,p,C,dx,_,G,ay,N.cl,N.found,(by show 7<1000;decide);have TK:=hT _ (.ins C dx (bU "found" (.int n.found) (bU "minute" (.int n.time) (bU "told" (.int n.kind) (bU "office" (.int n.office) (bU "journey" (.int n.journey) (bU "version" (.int n.version) (bU "number" (.int n.id) (bU "row" (.ref t) []))))))))) t7;exists _,G,t,_,_,_,G,G,bz.of TK,iR 7 n.left G,_,G,p,C,dx,_,G,ay,N.cl,N.left,(by show 8<1000;decide);refine k _ ?_ λb o e hb=> ?_
 .rw[ay];rfl
 rw[aD hb,aD hb,aD hb,aD hb,aD hb,aD hb,aD hb,aD hb,aD hb];exact e
abbrev DN:=M (Nat×AN)
abbrev nw(y:AN):bO:=y.2
def aa0(d:DN)l a:gu nw d (l++[a])=putD nw (gu nw d l) a:=by unfold gu;rw[pH];rfl
def aa1{d:DN}{a:AN}(h:(putD nw d a).lookup s=I x):x=a\/d.lookup s=I x:=by
 unfold putD at h;cases e:d.lookup (nw a).id with
 |none=>
  rw[e]at h;simp only at h;rw[Sg.lookup_append_none s e]at h;by_cases q:s=(nw a).id
  .rw[av q]at h;exact cO (cG h).symm
  rw[au q]at h;exact cZ h
 |some b=>
  rw[e]at h;simp only at h;split at h
  .rw[t_]at h;cases e2:d.lookup s with
   |none=>rw[e2]at h;cases h
   |some c=>
    rw[e2]at h;simp only[gh,lq]at h;by_cases q:s=(nw a).id
    .rw[av q]at h;exact cO h.symm
    rw[au q]at h;rw[h];exact cZ G
  exact cZ h
def Nj{d:DN}:∀l,(gu nw d l).lookup s=I x->x∈l\/∃s',d.lookup s'=I x:=by
 intro l;induction l generalizing d with
 |nil=>intro h;exact cZ ⟨s,h⟩
 |cons a l ih=>
  intro h;obtain q|⟨s',q⟩:=ih h
  .exact cO (bZ _ q)
  obtain z|z:=aa1 q
  .subst z;exact cO bW
  exact cZ ⟨s',z⟩
theorem aa2(d:DN)a:(putD nw d a).length<=d.length+1:=by
 unfold putD;split
 .simp
 split
 .simp
 lia
theorem zO:∀l(d:DN),(gu nw d l).length<=d.length+l.length|[],d=>by simp[gu]|a::l,d=>by have h1:=zO l (putD nw d a);have h2:=aa2 d a;show(gu nw (putD nw d a) l).length<=_;rw[bT];lia
structure DictAt(C:af)(H:Hp)(a:af)(d:DN):Prop where
 at_:H a=I (.dK (dj d))
 news:∀s x,d.lookup s=I x->d9 C H x.1 x.2
 len:d.length<=1000
def DictAt.same{C:af}{H U:Hp}{a:af}{d:DN}(D:DictAt C H a d)(s:ah H U):DictAt C U a d:=⟨s _ _ D.at_,λt x h=>(D.news t x h).same s,D.len⟩
def boot_tuple:jt "tuple"=I (.type "tuple"):=by decide+kernel
inductive DR K C(vs:M V)H(Q:VK)(E:XK):Prop|mk(a l:af)(d:DN)(told:M AN)(_:vs=[.ref a,.ref l])(_:DictAt C H a d)(_:az K H l (refs told))(_:f9 C H told)(_:∀(U:Hp)(p:af),ah H U->H p=ak->U p=I (.dK (dj (gu nw d told)))->Q (.ref p) U)
theorem aa3(F:bf K "known_with" (top 24) f fd)(N:fc K C)(B:dR mg):aM P w K mg ai aO 1 f fd ["known","told"] (DR K C):=by
 refine F.aX ["known","told","after","news"] (λS H vs Q E hr h=> ?_);obtain⟨a,l,d,told,rfl,DA,hL,T,k⟩:=h;have hu:=oK hr;have ew:=T.len;have Fm:=DA.len
 exists _,aC (aY 2 S (tV aaY (by rfl) B.dict boot_dict (aB (pv 0)))) (aC (fC eN G (cV (pv 1)) (cE 3 S) (cA (bH (pU (vL (zm hu (aS 3) (pv 2))) (pT (bL (aaX (akO hu)) (aS 3) (fD (oH hu (pv 2) (aS 3) (λ_ _=>G)) G)))).pt (cA (CS hu (pv 2) (aS 3) (pv 3) G)) bG))) (aH (pv 2)));refine⟨_,G,a,_,G,.inl DA.at_,λp hp=> ?_⟩;have s0:ah H (upd H p (.dK (dj d))):=ah.new hp
 exists _,G,l,G,⟨_,s0.seq hL⟩,jD (λi σ U=>∃v3:aG V,σ=[I (.ref a),I (.ref l),I (.ref p),v3]/\ah H U/\U p=I (.dK (dj (gu nw d (told.take i))))) ⟨ak,G,s0,ay⟩ (λi σ U _⟨_,_,s5,_⟩=>s5.seq hL) ?_ ?_
 .rintro i y σ U hi⟨v3,rfl,s5,dp⟩;obtain⟨x,hx,rfl⟩:=wG hi;obtain⟨dx,t,hA,MO⟩:=(T.at_ x (bN hx)).same s5;have step:=aa0 d (told.take i) x;rw[<-take_snoc hx]at step;unfold putD at step;have g5:=eH.k (k:=cP ((x.2.id:Nat):Int)) dp;have MD:=zO (told.take i) d;rw[gT]at MD
  have small:(dj (gu nw d (told.take i))).length<sizeLine:=by
   rw[wF];have:(3000:Nat)<sizeLine:=by decide
   lia
  exists _,G,x.1,C,dx,_,_,G,hA,N.cl,N.number,G,_,G,p,_,G,g5,_,G;rw[lO];cases e:(gu nw d (told.take i)).lookup x.2.id with
  |none=>
   have e':(gu nw d (told.take i)).lookup (nw x).id=ak:=e;rw[e']at step;exists _,G,_,G,_,G,x.1,C,dx,_,_,G,hA,N.cl,N.number,G,p,_,G,mO.k (k:=cP ((x.2.id:Nat):Int)) dp small;exists _,G,λb o eb=> ?_
   .rw[aD (b_ eb hp)];exact s5 _ _ eb
   rw[ay,MA x e,step]
  |some b=>
   have e':(gu nw d (told.take i)).lookup (nw x).id=I b:=e;rw[e']at step;simp only at step
   have Tm:d9 C U b.1 b.2:=by
    obtain q|⟨s',q⟩:=Nj _ e
    .exact(T.at_ b (UZ q)).same s5
    exact(DA.news s' b q).same s5
   obtain⟨TC,tb,hB,MQ⟩:=Tm
   have mr:eH U p (V.int (x.2.id:Nat)) (I (V.ref b.1)):=by have:=g5;rw[lO,e]at this;exact this
   exists _,G,x.1,C,dx,_,_,G,hA,N.cl,N.row,G,_,G,_,G,x.1,C,dx,_,_,G,hA,N.cl,N.number,G,p,_,G,mr,b.1,C,TC,_,_,G,hB,N.cl,N.row,G,t,tb,_,_,G,G,bz.of (by rw[<-zN];exact MO),bz.of (by rw[<-zN];exact MQ),_,G;rw[Ni (cM x.2) (cM b.2) G];refine b4 (λh2=> ?_) (λh2=> ?_)
   .rw[av h2]at step;exists _,G,_,G,_,G,x.1,C,dx,_,_,G,hA,N.cl,N.number,G,p,_,G,mO.k (k:=cP ((x.2.id:Nat):Int)) dp small;exists _,G,λc o eb=> ?_
    .rw[aD (b_ eb hp)];exact s5 _ _ eb
    rw[ay,MB x e,step]
   rw[au h2]at step;exact⟨_,G,s5,by rw[step];exact dp⟩
 rintro σ U⟨v3,rfl,s5,dp⟩;rw[ug,i8]at dp;exists _,G,k U p s5 hp dp
inductive DT C(vs:M V)H(Q:VK)(E:XK):Prop|mk(a:af)(d:DN)(kn:M bO)(_:vs=[.ref a])(_:DictAt C H a d)(_:Sg.KD nw d kn)(_:∀(U:Hp)(p:af)(ns:M AN),ah H U->H p=ak->U p=I (.lst (refs ns))->ns.map (·.2)=kn->(∀x∈ns,∃s,d.lookup s=I x)->ns.length<=1000->Q (.ref p) U)
def refOf(d:DN)(s:Nat):V:=match d.lookup s with|some x=>V.ref x.1|none=>.bx
theorem Nk{d:DN}:∀{ss:M Nat},(∀s∈ss,∃x,d.lookup s=I x)->ss.map (refOf d)=refs (ss.filterMap λs=>d.lookup s)|[],_=>rfl|s::ss,h=>by obtain⟨x,hx⟩:=h s bW;rw[b9,n5,hx,Nk λt ht=>h t (bZ _ ht)];unfold refOf;rw[hx];rfl
theorem aa4(F:bf K "by_numbers" (top 26) f fd)(B:dR mg):aM P w K mg ai aO 1 f fd ["known"] (DT C):=by
 refine F.aX ["known","number"] (λS H vs Q E hr h=> ?_);obtain⟨a,d,kn,rfl,DA,KD,k⟩:=h;have Fm:=DA.len
 exists _,aH (fM G S (cV (bJ (MF G) (by rfl) B.sorted boot_sorted (aB (pv 0)))) (own:=[("number",1)]) (dY ["known","number"] (cz (top 26))) (by intro _ _ _ _ _;exact cE 1 S) (by intro _ _ _ _ _;exact iP) (by intro _ _ _ _ _;exact oH (oK hr) (pv 0) (pv 1) (λ_ _=>G)));refine oS ?_;refine⟨_,G,a,_,_,G,.inl DA.at_,MG _,λa2 p i4 oL hp=>⟨p,G,?_⟩⟩;obtain⟨ss,rfl,eQ⟩:=Dr i4;have a7:∀s,s∈ss↔s∈d.map (·.1):=λs=>eQ.mem_iff
 have vy:ss.length=d.length:=by have h1:=eQ.length_eq;rw[aE]at h1;exact h1
 have hk:∀s∈ss,∃x,d.lookup s=I x:=λs hs=>by
  cases e:d.lookup s with
  |none=>exact aU ((a7 s).mp hs) (ua.mp e)
  |some x=>exists x,G
 have s1:ah H (upd H p (.lst ((ss.map λ(k:Nat)=>(k:Int)).map V.int))):=ah.new hp;refine qb ss (λs=>V.int (s:Nat)) (λ_=>aa) (refOf d) (by lia) (az.of (by rw[ay,bQ];rfl)) (λs0 U Kt Kf ha s3 ht hf=> ?_) λH3 D s3 hD hd=> ?_
 .obtain⟨x,hx⟩:=hk s0 ha
  have g5:eH U a (V.int (s0:Nat)) (I (V.ref x.1)):=by have:=eH.k (k:=cP ((s0:Nat):Int)) ((s1.trans s3) _ _ DA.at_);rw[lO,hx]at this;exact this
  exists G,bK (B:=Kf U) ?_;have e:refOf d s0=V.ref x.1:=by unfold refOf;rw[hx]
  have:=ht U (ah.refl _) G;rw[e]at this;exists _,G,_,G,a,_,G,g5,this
 rw[mq.mpr (λ_ _=>G),Nk hk]at hd;refine k H3 D _ (s1.trans s3) (s1.free hD) hd (KD.zD (Ds (zK oL) (eQ.nodup_iff.mpr KD.nd)) a7) (λx hx=> ?_) ?_
 .obtain⟨s',_,h2⟩:=n7.mp hx;exists s',h2
 have:=akW (λs=>d.lookup s) ss;lia
inductive DU C(vs:M V)H(Q:VK)(E:XK):Prop|mk(a:af)(d:DN)(kn:M bO)(_:vs=[.ref a])(_:DictAt C H a d)(_:Sg.KD nw d kn)(_:∀(U:Hp)(p:af)(ns:M AN),ah H U->H p=ak->U p=I (.lst (refs ns))->ns.map (·.2)=yg kn->(∀x∈ns,∃s,d.lookup s=I x)->ns.length<=1000->Q (.ref p) U)
theorem aa5(F:bf K "in_force" (top 27) f fd)(N:fc K C)(ar:Kinds mg)(DB:Def P w K mg ai 1 "by_numbers" ["known"] (DT C)):aM P w K mg ai aO 2 f fd ["known"] (DU C):=by
 refine F.aX ["known","news"] (λS H vs Q E hr h=> ?_);obtain⟨a,d,kn,rfl,DA,KD,k⟩:=h
 exists _,aH (fM G S (cV (aT DB hr (aB (pv 0)))) (own:=[("news",1)]) (dY ["known","news"] (cz (top 27))) (by intro _ _ _ _ _;exact cE 1 S) (by intro _ _ _ _ _;exact j3 (bL lG (gv G (pv 1) G) (bM (by rfl) ar.nothing))) (by intro _ _ _ _ _;exact pv 1));refine oS ?_;refine⟨_,G,a,d,kn,G,DA,KD,λH1 p ns s1 hp ag cp hX hlen=>⟨p,G,?_⟩⟩;refine qb ns (λx=>V.ref x.1) (λx=>x.2.kind !=4) (λx=>V.ref x.1) (by lia) (az.of ag) (λx U Kt Kf ha s3 ht hf=> ?_) λH3 D s3 hD hd=> ?_
 .obtain⟨s',i3⟩:=hX x ha;obtain⟨dx,t,hA,_⟩:=(DA.news s' x i3).same (s1.trans s3);exists G,_,G,x.1,C,dx,_,_,G,hA,N.cl,N.told,G,G,_,G;rw[show decide (V.int (x.2.kind:Int)=V.int 4)=decide (x.2.kind=4) from ff x.2.kind 4];refine b4 (λh2=> ?_) (λh2=> ?_)
  .exists _,G,ht U (ah.refl _) h2
  exact hf U (ah.refl _) (by simpa using h2)
 refine k H3 D (ns.filter λx=>x.2.kind !=4) (s1.trans s3) (s1.free hD) hd ?_ (λx hx=>hX x (eY.mp hx).1) (cX (gV _ _) hlen);rw[<-cp];unfold yg;rw[oj];rfl
inductive Nl C(vs:M V)H(Q:VK)(E:XK):Prop|mk(a:af)(j:Nat)(d:DN)(kn:M bO)(_:vs=[.ref a,.int j])(_:DictAt C H a d)(_:Sg.KD nw d kn)(_:∀(U:Hp)(p:af)(ns:M AN),ah H U->H p=ak->U p=I (.lst (refs ns))->ns.map (·.2)=(yg kn).filter (λn=>n.journey==j)->(∀x∈ns,∃s,d.lookup s=I x)->ns.length<=1000->Q (.ref p) U)
theorem aa6(F:bf K "in_force_of" (top 28) f fd)(N:fc K C)(DB:Def P w K mg ai 2 "in_force" ["known"] (DU C)):aM P w K mg ai aO 3 f fd ["known","journey"] (Nl C):=by
 refine F.aX ["known","journey","news"] (λS H vs Q E hr h=> ?_);obtain⟨a,j,d,kn,rfl,DA,KD,k⟩:=h
 exists _,aH (fM G S (cV (aT DB hr (aB (pv 0)))) (own:=[("news",2)]) (dY ["known","journey","news"] (cz (top 28))) (by intro _ _ _ _ _;exact cE 2 S) (by intro _ _ _ _ _;exact j3 (bL dm (gv G (pv 2) G) (pv 1))) (by intro _ _ _ _ _;exact pv 2));refine oS ?_;refine⟨_,G,a,d,kn,G,DA,KD,λH1 p ns s1 hp ag cp hX hlen=>⟨p,G,?_⟩⟩;refine qb ns (λx=>V.ref x.1) (λx=>x.2.journey==j) (λx=>V.ref x.1) (by lia) (az.of ag) (λx U Kt Kf ha s3 ht hf=> ?_) λH3 D s3 hD hd=> ?_
 .obtain⟨s',i3⟩:=hX x ha;obtain⟨dx,t,hA,_⟩:=(DA.news s' x i3).same (s1.trans s3);exists G,_,G,x.1,C,dx,_,_,G,hA,N.cl,N.journey,G,_,G,G,_,G;rw[ff];refine b4 (λh2=> ?_) (λh2=> ?_)
  .exists _,G,ht U (ah.refl _) h2
  exact hf U (ah.refl _) (by simpa using h2)
 refine k H3 D (ns.filter λx=>x.2.journey==j) (s1.trans s3) (s1.free hD) hd ?_ (λx hx=>hX x (eY.mp hx).1) (cX (gV _ _) hlen);rw[<-cp,oj];rfl
def uh(n:bO):pB:=.tuple ((cM n).map λ(k:Nat)=>qR (k:Int))
def Nm{t:af}(h:H t=I (.tup (aK (cM n)))):Dp K H (.ref t) (uh n):=by
 refine .tup (bz.of h) ?_;generalize cM n=l;induction l with
 |nil=>exact .nil
 |cons a r ih=>exact .cons (.int _) ih
def Nn n:Bh (uh n)=aa:=rfl
theorem DV:∀l m:M Nat,IM (l.map λ(k:Nat)=>qR (k:Int)) (m.map λ(k:Nat)=>qR (k:Int))=decide (l=m)
 |[],[]=>rfl|[],_::_=>rfl|_::_,[]=>rfl|a::l,b::m=>by
  show(((a:Int)==(b:Int))&&IM (l.map λ(k:Nat)=>qR (k:Int)) (m.map λ(k:Nat)=>qR (k:Int)))=_;rw[DV l m];by_cases e:a=b
  .subst e;by_cases e2:l=m
   .subst e2;simp
   simp[e2]
  have:(a==(b:Int))=ao:=by simp;lia
  rw[this];simp[e]
def aa7 n m:Bj (uh n) (uh m)=decide (cM n=cM m):=DV _ _
def Np(hK:X.K=K)(hu:X.A.units+64<kj):dX X (e7 .NotEq) (K_ K):=hK▸YC hu
def d9.Nq{d:af}{ae:M (Key×V)}(h:d9 C H a n)(hd:H d=I (.dK ae)):d9 C (upd H d o) a n:=by
 obtain⟨dx,t,h1,h2⟩:=h;exists dx,t,?_
 .rw[aD (iC h1 hd (by intro q;cases q))];exact h1
 rw[aD (iC h2 hd (by intro q;cases q))];exact h2
noncomputable def qd(d:DN)(x:Nat×AN):Bool:=match d.lookup x.1 with|none=>aa|some b=> !decide (cM (nw b)=cM (nw x.2))
def aa8{td:TE}{d:af}{od:bA}(l:DN)p e(hl:∀R:V->Hp->Prop,R (.ref d) H->td σ H R)
  (hlen:l.length<=100000)(hd:H d=I (.cQ od (.dK (dj l))))
  (turn:∀a U Kt(Kf:Hp->Prop),a∈l->ah H U->(∀H4,ah U H4->p a=aa->Kt (e a) H4)->(∀H3,ah U H3->p a=ao->Kf H3)->g (.int (a.1:Nat)) (wipe σ vs) U λσ2 H2=>wipe σ2 vs=wipe σ vs/\tt σ2 H2 λb H3=>if b=aa then te σ2 H3 Kt else Kf H3)
  (fin:∀U D,ah H U->H D=ak->U D=I (.lst ((l.filter p).map e))->Q (.ref D) U):mL (LN td) g tt te vs σ H Q:=
 hl _ ⟨d,od,G,.inl ⟨_,hd,zL (J:=CY d od (dj l)) (g:=g) (tt:=tt) (te:=te) (vs:=vs) (σ:=σ) (Q:=Q) l p e (λa x _=>x=V.int (a.1:Nat)) hlen (λU s=>⟨s _ _ hd,by rw[wF];exact aZ _⟩) (λi U hi s=>⟨s _ _ hd,by rw[wF];exact hi⟩)
  (λi U x bp hi s hy=>by obtain⟨rfl,k,v,h1,rfl⟩:=hy;unfold dj at h1;rw[bF,bg hi]at h1;have h2:=cG h1;injection h2 with h3 h4;exact⟨l[i],bg hi,ah.refl _,by rw[<-h3];rfl⟩)
  (λa x U Kt Kf ha hR s ht hf=>by subst hR;exact turn a U Kt Kf ha s ht hf) fin⟩⟩
inductive Nr C(vs:M V)H(Q:VK)(E:XK):Prop|mk(a b:af)(d d':DN)(_:vs=[.ref a,.ref b])(_:a≠b)(_:DictAt C H a d)(_:DictAt C H b d')(_:(d'.map (·.1)).Nodup)(_:∀U,ah H U->Q (.int ((d'.filter (qd d)).length:Nat)) U)
theorem aa9(F:bf K "count_changed" (top 25) f fd)(N:fc K C)(B:dR mg):aM P w K mg ai aO 1 f fd ["before","after"] (Nr C):=by
 refine F.aX ["before","after","k"] (λS H vs Q E hr h=> ?_);obtain⟨a,b,d,d',rfl,nab,DA,DB,nd,k⟩:=h;have hu:=oK hr;have Fm:=DB.len
 exists _,aH (bJ dc (by rfl) B.len cJ (aB (LC (fM G S (LO (pv 1)) (own:=[("k",2)]) (dY ["before","after","k"] (cz (top 25))) (by intro _ _ _ _ _;exact cE 2 S)
   (by intro _ _ _ _ _;exact j3 (pU (vL (zm hu (pv 2) (pv 0))) (pT (bL (Np (K:=K) G hr.units) (gv (K:=K) G (oH hu (pv 0) (pv 2) (λ_ _=>G)) G) (gv (K:=K) G (oH hu (pv 1) (pv 2) (λ_ _=>G)) G)))).pt)
   (by intro _ _ _ _ _;exact pv 2)))))
 refine⟨b,_,DB.at_,trivial,λod=> ?_⟩;have ei:(upd H b (.cQ od (.dK (dj d')))) b=I (.cQ od (.dK (dj d'))):=ay;have ha1:(upd H b (.cQ od (.dK (dj d')))) a=I (.dK (dj d)):=by rw[aD nab];exact DA.at_
 refine aa8 d' (qd d) (λx=>V.int (x.1:Nat)) (λR h=>⟨_,G,h⟩) (by lia) ei (λx U Kt Kf hx s1 ht hf=> ?_) λU D s1 hD hd=> ?_
 .have w2:=uc nd hx;have g1:eH U a (V.int (x.1:Nat)) (dB (dj d) (cP ((x.1:Nat):Int))):=eH.k (k:=cP ((x.1:Nat):Int)) (s1 _ _ ha1);exists G,_,G,_,G,a,_,G,g1,_,G;rw[lO];cases e:d.lookup x.1 with
  |none=>
   have hp:qd d x=aa:=by unfold qd;rw[e]
   exact bK (bK ⟨_,G,ht U (ah.refl _) hp⟩)
  |some y=>
   obtain⟨dy,ty,aa_,hYt⟩:=((DA.news _ _ e).Nq (o:=.cQ od (.dK (dj d'))) DB.at_).same s1;obtain⟨dx,Fk,aba,hXt⟩:=((DB.news _ _ w2).Nq (o:=.cQ od (.dK (dj d'))) DB.at_).same s1
   have g2:eH U a (V.int (x.1:Nat)) (I (V.ref y.1)):=by have:=g1;rw[lO,e]at this;exact this
   have g3:eH U b (V.int (x.1:Nat)) (I (V.ref x.2.1)):=by have h1:eH U b (V.int (x.1:Nat)) (dB (dj d') (cP ((x.1:Nat):Int))):=.inl ⟨_,cP ((x.1:Nat):Int),.inr ⟨od,s1 _ _ ei⟩,G,G⟩;rw[lO,w2]at h1;exact h1
   refine bX ⟨_,G,_,G,a,_,G,g2,y.1,C,dy,_,_,G,aa_,N.cl,N.row,G,_,G,_,G,b,_,G,g3,x.2.1,C,dx,_,_,G,aba,N.cl,N.row,G,uh y.2,uh x.2.2,Nm hYt,Nm hXt,Nn _,Nn _,_,G,?_⟩;rw[aa7];refine b4 (λh1=> ?_) (λh1=> ?_)
   .exact⟨_,G,ht U (ah.refl _) (by unfold qd;rw[e];exact h1)⟩
   exact hf U (ah.refl _) (by unfold qd;rw[e];simpa using h1)
 have hDb:D≠b:=λq=>by rw[q,ei]at hD;cases hD
 exists s1 _ _ ei,D,_,G,.inl (az.of (by rw[aD hDb];exact hd));rw[aE];refine k _ λc o ec=> ?_;by_cases q:c=b
 .subst q;rw[ay];rw[DB.at_]at ec;exact ec
 rw[aD q];exact s1 _ _ (by rw[aD q];exact ec)
structure qe(K:aR)(C:af):Prop where
 cl:fK K C
 journey:cF K C "journey"
 share:cF K C "share"
 begin:cF K C "begin"
 cleared:cF K C "cleared"
noncomputable def Nt(s:oQ):M (aj×V):=[("journey",.int s.j),("share",.int s.share),("begin",.int s.left),("cleared",qa s.cleared)]
def wI(C:af)(H:Hp)(a:af)(s:oQ):Prop:=∃dx,H a=I (.ins C dx (Nt s))
def wI.same{n:oQ}(h:wI C H a n)(s:ah H U):wI C U a n:=by obtain⟨dx,h1⟩:=h;exists dx,s _ _ h1
abbrev AS:=af×oQ
def lQ(l:M AS):M V:=l.map λx=>V.ref x.1
structure mT(C:af)(H:Hp)(l:M AS):Prop where
 at_:∀x∈l,wI C H x.1 x.2
 len:l.length<=1000
def mT.same{C:af}{H U:Hp}{l:M AS}(T:mT C H l)(s:ah H U):mT C U l:=⟨λx hx=>(T.at_ x hx).same s,T.len⟩
variable{u:TS}
def DX{z:Int}(h:u D (σ.set i (I (.int z))) H):jY (kK (tC (.int z)) (jC i)) u D σ H:=h
def Nu(K:aR)(a:af)(g:TG)(tb:TS)(D:mH)(σ:L2.St)(H:Hp):Prop:=∃W:Nat->Nat->L2.St->Hp->Prop,(∃m,W 0 m σ H)/\∀i m σ H,W i m σ H->
   ((fB K a).stop i H/\D.nx σ H)\/((fB K a).go i H/\∃N:L2.St->Hp->Prop,(∀σ' U,N σ' U->∃m',m'<m/\W (i+1) m' σ' U)/\∀x U,(fB K a).iD i H x U->g x σ U λσ2 H2=>tb {D with nx:=N,ct:=N,fy:=D.nx} σ2 H2)
def abb{xs:M V}(Pv:Nat->L2.St->Hp->Prop)(h0:Pv 0 σ H)(hl:∀i σ H,i<=xs.length->Pv i σ H->az K H a xs)
  (hs:∀i x σ H,xs[i]? =I x->Pv i σ H->g x σ H λσ2 H2=>tb {D with nx:=Pv (i+1),ct:=Pv (i+1),fy:=D.nx} σ2 H2)(hd:∀σ H,Pv xs.length σ H->D.nx σ H):Nu K a g tb D σ H:=jD Pv h0 hl hs hd
def abd{r:M V->Hp->VK->Prop}(h:tl σ H λx H1=>r [x] H1 λy H2=>∃a,y= .ref a/\(∃xs,az K H2 a xs)/\Nu K a g tb {D with nx:=u D} σ H2):
  jY (Ko (yU K (nG r (gI tl gH))) g tb) u D σ H:=h
def boot_sum:jt "sum"=I (.builtin "sum"):=by decide+kernel
def boot_max:jt "max"=I (.builtin "max"):=by decide+kernel
inductive DY S(vs:M V)H(Q:VK)(E:XK):Prop|mk(x:AS)(t:Nat)(_:vs=[.ref x.1,.int t])(_:wI S H x.1 x.2)(_:Q (.bl (dZ x.2 t)) H)
variable{S:af}
theorem abe(F:bf K "is_out" (top 62) f fd)(N:qe K S):aM P w K mg ai aO 1 f fd ["span","minute"] (DY S):=by
 refine F.aX ["span","minute"] (λbn H vs Q E hr h=> ?_);obtain⟨x,t,rfl,⟨dx,hA⟩,k⟩:=h;exists _,aH (Cb (jE gG (aS 0) (pv 1) (jZ _)) (vM (J_ (jE Cq (aS 0) pS (jZ _)) (vM (jE pY (pv 1) (aS 0) (jZ _)))))),_,G,x.1,S,dx,_,_,G,hA,N.cl,N.begin,G,_,G,_,_,G,G,_,G;unfold dZ at k;refine b4 (λh1=> ?_) (λh1=> ?_)
 .have a0:x.2.left<=t:=by have:=c_ h1;lia
  rw[aP a0,eB]at k;exists _,G,x.1,S,dx,_,_,G,hA,N.cl,N.cleared,G,G,_,G;cases e:x.2.cleared with
  |none=>rw[e]at k;exact bK k
  |some c=>
   rw[e]at k;refine bX ⟨_,G,_,G,x.1,S,dx,_,_,G,hA,N.cl,N.cleared,G,?_⟩;rw[e];exists _,_,G,G
   have e2:decide ((t:Int)<c)=decide (t<c):=by
    by_cases q:t<c
    .rw[aP q];exact aP (by lia)
    rw[aV q];exact aV (by lia)
   rw[e2];exact k
 have a0:¬x.2.left<=t:=λq=>h1 (aP (by lia));rw[aV a0,ig]at k;exact k
inductive Nv K S(vs:M V)H(Q:VK)(E:XK):Prop|mk(l:af)(ss:M AS)(t:Nat)(_:vs=[.ref l,.int t])(_:az K H l (lQ ss))(_:mT S H ss)(_:∀(U:Hp)(p:af),ah H U->H p=ak->U p=I (.lst (aK (((ss.map (·.2)).filter λs=>dZ s t).map (·.j))))->Q (.ref p) U)
theorem abf(F:bf K "out_at" (top 63) f fd)(N:qe K S)(DO:Def P w K mg ai 1 "is_out" ["span","minute"] (DY S)):aM P w K mg ai aO 2 f fd ["spans","minute"] (Nv K S):=by
 refine F.aX ["spans","minute","span"] (λbn H vs Q E hr h=> ?_);obtain⟨l,ss,t,rfl,hL,T,k⟩:=h;have ew:=T.len
 exists _,aH (fM G bn (cV (pv 0)) (own:=[("span",2)]) (dY ["spans","minute","span"] (cz (top 63))) (by intro _ _ _ _ _;exact cE 2 bn) (by intro _ _ _ _ _;exact j3 (fQ (aT DO hr (bu (pv 2) (pv 1))))) (by intro _ _ _ _ _;exact gv G (pv 2) G));refine kN ss (λx=>V.ref x.1) (λx=>dZ x.2 t) (λx=>V.int (x.2.j:Nat)) (λR h=>⟨_,G,h⟩) (by lia) hL (λx U Kt Kf ha s1 ht hf=> ?_) λH1 D s1 hD hd=> ?_
 .obtain⟨dx,hA⟩:=(T.at_ x ha).same s1;exists G,_,G,_,G,x,t,G,⟨dx,hA⟩,_,G;refine b4 (λh1=> ?_) (λh1=> ?_)
  .exists _,G,x.1,S,dx,_,_,G,hA,N.cl,N.journey,G,ht U (ah.refl _) h1
  exact hf U (ah.refl _) (by simpa using h1)
 refine k H1 D s1 hD ?_;rw[hd,oj];unfold aK;rw[bQ,bQ];rfl
inductive zP K S(vs:M V)H(Q:VK)(E:XK):Prop|mk(l:af)(ss:M AS)(t:Nat)(_:vs=[.ref l,.int t])(_:az K H l (lQ ss))(_:mT S H ss)(_:∀U,ah H U->Q (.int (((ss.map (·.2)).filter λs=>dZ s t).map λs=>(s.share:Int)).sum) U)
theorem abg(F:bf K "sum_at" (top 64) f fd)(N:qe K S)(B:dR mg)(DO:Def P w K mg ai 1 "is_out" ["span","minute"] (DY S)):aM P w K mg ai aO 2 f fd ["spans","minute"] (zP K S):=by
 refine F.aX ["spans","minute","span"] (λbn H vs Q E hr h=> ?_);obtain⟨l,ss,t,rfl,hL,T,k⟩:=h;have ew:=T.len
 exists _,aH (bJ (Yu G) (by rfl) B.sum boot_sum (aB (fM G bn (cV (pv 0)) (own:=[("span",2)]) (dY ["spans","minute","span"] (cz (top 64))) (by intro _ _ _ _ _;exact cE 2 bn) (by intro _ _ _ _ _;exact j3 (fQ (aT DO hr (bu (pv 2) (pv 1))))) (by intro _ _ _ _ _;exact gv G (pv 2) G))));dsimp only[lD,nG,gI,gH];refine kN ss (λx=>V.ref x.1) (λx=>dZ x.2 t) (λx=>V.int (x.2.share:Nat)) (λR h=>⟨_,G,h⟩) (by lia) hL (λx U Kt Kf ha s1 ht hf=> ?_) λH1 D s1 hD hd=> ?_
 .obtain⟨dx,hA⟩:=(T.at_ x ha).same s1;exists G,_,G,_,G,x,t,G,⟨dx,hA⟩,_,G;refine b4 (λh1=> ?_) (λh1=> ?_)
  .exists _,G,x.1,S,dx,_,_,G,hA,N.cl,N.share,G,ht U (ah.refl _) h1
  exact hf U (ah.refl _) (by simpa using h1)
 exists D,(((ss.map (·.2)).filter λs=>dZ s t).map λs=>(s.share:Int)),G,az.of ?_,k H1 s1;rw[hd,oj,bQ,bQ];rfl
inductive Ny K S(vs:M V)H(Q:VK)(E:XK):Prop|mk(l:af)(ss:M AS)(_:vs=[.ref l])(_:az K H l (lQ ss))(_:mT S H ss)(_:∀(U:Hp)(p:af)(Bs:M Nat),ah H U->H p=ak->Bs.Pairwise (· <= ·)->Bs.Perm (ss.map λx=>x.2.left)->U p=I (.tup [.int ((Bs.foldl (jJ λt=>pK (((ss.map (·.2)).filter λs=>dZ s t).map (·.share))) (0,0)).1:Nat),.int ((Bs.foldl (jJ λt=>pK (((ss.map (·.2)).filter λs=>dZ s t).map (·.share))) (0,0)).2:Nat)])->Q (.ref p) U)
theorem abh(F:bf K "peak_of" (top 65) f fd)(N:qe K S)(B:dR mg)(TW:Def P w K mg ai 2 "sum_at" ["spans","minute"] (zP K S)):aM P w K mg ai aO 3 f fd ["spans"] (Ny K S):=by
 refine F.aX ["spans","greatest","first","minute","total","span"] (λbn H vs Q E hr h=> ?_);obtain⟨l,ss,rfl,hL,T,k⟩:=h;have ew:=T.len
 exists _,aC (aY 1 bn aF) (aC (aY 2 bn aF) (aC (fC eN G (cV (bJ aar (by rfl) B.sorted boot_sorted (aB (fM G bn (cV (pv 0)) (own:=[("span",5)]) (dY ["spans","greatest","first","minute","total","span"] (cz (top 65))) (by intro _ _ _ _ _;exact cE 5 bn) (by intro _ _ _ _ _;exact iP) (by intro _ _ _ _ _;exact gv G (pv 5) G))))) (cE 3 bn) (aC (aY 4 bn (aT TW hr (bu (pv 0) (pv 3)))) (cA (bH (bL lH (pv 4) (pv 1)) (aC (aY 1 bn (pv 4)) (cA (aY 2 bn (pv 3)))) bG)))) (aH (lJ (bu (pv 1) (pv 2))))));refine DX (DX (abd ?_));refine kN ss (λx=>V.ref x.1) (λ_=>aa) (λx=>V.int (x.2.left:Nat)) (λR h=>⟨_,G,h⟩) (by lia) hL (λx U Kt Kf ha s1 ht hf=> ?_) λH1 D s1 hD hd=> ?_
 .obtain⟨dx,hA⟩:=(T.at_ x ha).same s1;exists G,bK (B:=Kf U) ⟨_,G,x.1,S,dx,_,_,G,hA,N.cl,N.begin,G,ht U (ah.refl _) G⟩
 have eD:H1 D=I (.lst (((ss.map λx=>x.2.left).map λ(n:Nat)=>(n:Int)).map V.int)):=by rw[hd,mq.mpr (λ_ _=>G),bQ,bQ];rfl
 refine⟨D,_,G,az.of eD,λa2 q i4 oL hq=> ?_⟩;obtain⟨Bs,rfl,hBs⟩:=Dr i4;have hsb:=zK oL;have s2:ah H (upd H1 q (.lst ((Bs.map λ(k:Nat)=>(k:Int)).map V.int))):=s1.trans (ah.new hq)
 exists q,G,⟨_,az.of ay⟩,abb (xs:=(Bs.map λ(k:Nat)=>(k:Int)).map V.int) (λi σ U=>∃v3 v4:aG V,σ=[I (.ref l),I (.int ((Bs.take i).foldl (jJ λt=>pK (((ss.map (·.2)).filter λs=>dZ s t).map (·.share))) (0,0)).1),I (.int ((Bs.take i).foldl (jJ λt=>pK (((ss.map (·.2)).filter λs=>dZ s t).map (·.share))) (0,0)).2),v3,v4,ak]/\ah H U/\U q=I (.lst ((Bs.map λ(k:Nat)=>(k:Int)).map V.int))) ⟨ak,ak,G,s2,ay⟩ (λi σ U _⟨_,_,_,_,h5⟩=>az.of h5) ?_ ?_
 .rintro i y σ U hi⟨v3,v4,rfl,s5,c5⟩
  obtain⟨fw,sn,rfl⟩:∃fw:Nat,Bs[i]? =I fw/\y=V.int (fw:Int):=by
   rw[bF,bF]at hi;cases e:Bs[i]? with
   |none=>rw[e]at hi;cases hi
   |some z=>rw[e]at hi;exists z,G,(cG hi).symm
  exists _,G,_,G,l,ss,fw,G,s5.seq hL,T.same s5,λH6 s6=> ?_
  have es:(((ss.map (·.2)).filter λs=>dZ s fw).map λs=>(s.share:Int)).sum=((pK (((ss.map (·.2)).filter λs=>dZ s fw).map (·.share)):Nat):Int):=by rw[<-Sg.wu,bQ];rfl
  rw[es];exists _,G,_,G,_,_,G,G,_,G
  have step:(Bs.take (i+1)).foldl (jJ λt=>pK (((ss.map (·.2)).filter λs=>dZ s t).map (·.share))) (0,0)=jJ (λt=>pK (((ss.map (·.2)).filter λs=>dZ s t).map (·.share))) ((Bs.take i).foldl (jJ λt=>pK (((ss.map (·.2)).filter λs=>dZ s t).map (·.share))) (0,0)) fw:=by rw[take_snoc sn,pH];rfl
  unfold jJ at step⊢;refine b4 (λh1=> ?_) (λh1=> ?_)
  .have a0:=c_ h1;rw[av (akX.mp a0)]at step;exists _,G,_,G,_,_,by rw[step];rfl,s5.trans s6,s6 _ _ c5
  have a0:¬_:=λz=>h1 (aP z);rw[au (λz=>a0 (akX.mpr z))]at step;exists _,_,by rw[step];rfl,s5.trans s6,s6 _ _ c5
 rintro σ U⟨v3,v4,rfl,s5,c5⟩;rw[aE,aE,i8];refine⟨_,G,_,G,(by show 2<=sizeLine;decide),λp hp=> ?_⟩;exact k _ p Bs (s5.trans (ah.new hp)) (s5.free hp) hsb hBs ay
abbrev fE:=M ((Nat×Nat)×Nat)
def g8(d:fE):M (M Key×V):=d.map λx=>([cP (x.1.1:Int),cP (x.1.2:Int)],V.int (x.2:Nat))
def um(d:fE):(g8 d).length=d.length:=by unfold g8;rw[aE]
theorem DZ(d:fE)(p t:Nat):dB (g8 d) [cP (p:Int),cP (t:Int)]=(d.lookup (p,t)).map λm=>V.int (m:Nat):=by
 induction d with
 |nil=>rfl
 |cons x d ih=>
  show dB (([cP (x.1.1:Int),cP (x.1.2:Int)],V.int (x.2:Nat))::g8 d) _=_;rw[eK];by_cases e:x.1=(p,t)
  .rw[wc (by simp[e])];have:((p,t)==x.1)=aa:=by simp[e]
   rw[this];rfl
  have ne:¬([cP (x.1.1:Int),cP (x.1.2:Int)]:M Key)=[cP (p:Int),cP (t:Int)]:=λq=>e (by injection q with q1 q2;injection q2 with q3 _;injection q1 with q1;injection q3 with q3;exact mh (by lia) (by lia))
  rw[we ne,ih]
  have:((p,t)==x.1)=ao:=by rw[gB];exact λq=>e q.symm
  rw[this]
structure GD(d:fE)(gs:M eE):Prop where
 nd:(d.map (·.1)).Nodup
 iG:Sg.j5 gs
 at_:∀p t,d.lookup (p,t)=mQ gs p t
variable{d:fE}
def D0(nd:(d.map (·.1)).Nodup){x:(Nat×Nat)×Nat}(h:x∈d):d.lookup x.1=I x.2:=by
 induction d with
 |nil=>simp at h
 |cons y d ih=>
  rw[b9,k8]at nd;rw[eK];obtain e|e:=bh.mp h
  .subst e;simp
  have ne:(x.1==y.1)=ao:=by rw[gB];intro q;exact nd.1 (q▸b7.mpr ⟨x,e,G⟩)
  rw[ne];exact ih nd.2 e
def Nz{k:Nat×Nat}{m:Nat}(h:d.lookup k=I m):(k,m)∈d:=by
 induction d with
 |nil=>simp at h
 |cons y d ih=>
  rw[eK]at h;by_cases e:k=y.1
  .have:(k==y.1)=aa:=by simp[e]
   rw[this]at h;have e2:y.2=m:=by simpa using h
   rw[show(k,m)=y from mh e e2.symm];exact bW
  have:(k==y.1)=ao:=by rw[gB];exact e
  rw[this]at h;exact bZ _ (ih h)
def GD.mem{gs:M eE}(D:GD d gs)p t m:((p,t),m)∈d↔(⟨p,t,m⟩:eE)∈gs:=by rw[<-ZY D.iG,<-D.at_];exists λh=>D0 D.nd h,Nz
structure qf(H:Hp)(a:af)(d:fE):Prop where
 at_:H a=I (.dT (g8 d))
 len:d.length<=1000
def qf.same(D:qf H a d)(s:ah H U):qf U a d:=⟨s _ _ D.at_,D.len⟩
def gJ(d:fE)(p:Nat):M Nat:=(d.filter λx=>x.1.1==p).map λx=>x.1.2
inductive zQ(vs:M V)H(Q:VK)(E:XK):Prop|mk(a:af)(p:Nat)(d:fE)(_:vs=[.ref a,.int p])(_:qf H a d)(_:∀(U:Hp)(q:af),ah H U->H q=ak->U q=I (.lst (aK (gJ d p)))->Q (.ref q) U)
theorem abi(F:bf K "begins_of" (top 66) f fd):aM P w K mg ai aO 1 f fd ["guarantees","principal"] zQ:=by
 refine F.aX ["guarantees","principal","key"] (λS H vs Q E hr h=> ?_);obtain⟨a,p,d,rfl,DA,k⟩:=h;have Fm:=DA.len
 exists _,aH (LC (fM G S (LO (pv 0)) (own:=[("key",2)]) (dY ["guarantees","principal","key"] (cz (top 66))) (by intro _ _ _ _ _;exact cE 2 S)
   (by intro _ _ _ _ _;exact j3 (bL dm (C4 (MS G) (pv 2) aF) (pv 1)))
   (by intro _ _ _ _ _;exact C4 (MS G) (pv 2) aF)))
 refine⟨a,_,DA.at_,trivial,λod=> ?_⟩;have ei:(upd H a (.cQ od (.dT (g8 d)))) a=I (.cQ od (.dT (g8 d))):=ay
 refine⟨_,G,a,od,G,.inr ⟨_,ei,zL (vs:=[2]) (σ:=[I (.ref a),I (.int p),ak]) (Q:=λv U=>U a=I (.cQ od (.dT (g8 d)))/\Q v (upd U a (.dT (g8 d)))) d (λx=>x.1.1==p) (λx=>V.int (x.1.2:Nat)) (λx y U=>∃q,y=V.ref q/\U q=I (.tup [.int (x.1.1:Nat),.int (x.1.2:Nat)])) (by lia)
  (λU s=>⟨s _ _ ei,by rw[um];exact aZ _⟩) (λi U hi s=>⟨s _ _ ei,by rw[um];exact hi⟩) (λi U x bp hi s hy=> ?_) (λx y U Kt Kf hx hR s1 ht hf=> ?_) λU D s1 hD hd=> ?_⟩⟩
 .obtain⟨rfl,kk,v,q,h1,rfl,h2⟩:=hy;unfold g8 at h1;rw[bF,bg hi]at h1;have h3:=cG h1;injection h3 with h4 h5;subst h4;exists d[i],bg hi,ah.refl _,q,G,h2
 .obtain⟨q,rfl,hq⟩:=hR;exists G,_,G,q,_,_,_,G,G,bz.of hq,aW (j:=0) G,_,G,G,_,G;rw[ff];refine b4 (λh1=> ?_) (λh1=> ?_)
  .exact⟨_,G,q,_,_,_,G,G,bz.of hq,aW (j:=1) G,ht U (ah.refl _) (by simpa using h1)⟩
  exact hf U (ah.refl _) (by simpa using h1)
 have ND:D≠a:=λq=>by rw[q,ei]at hD;cases hD
 exists s1 _ _ ei,k _ D (λc o ec=> ?_) ?_ ?_
 .by_cases q:c=a
  .subst q;rw[ay];rw[DA.at_]at ec;exact ec
  rw[aD q];exact s1 _ _ (by rw[aD q];exact ec)
 .rw[aD ND]at hD;exact hD
 rw[aD ND,hd];unfold aK gJ;rw[bQ];rfl
inductive D3(vs:M V)H(Q:VK)(E:XK):Prop|mk(a:af)(p t:Nat)(d:fE)(gs:M eE)(_:vs=[.ref a,.int p,.int t])(_:qf H a d)(_:GD d gs)(_:∀U,ah H U->Q (.int (i7 gs p t:Nat)) U)
theorem abj(F:bf K "guarantee_at" (top 67) f fd)(B:dR mg)(DB:Def P w K mg ai 1 "begins_of" ["guarantees","principal"] zQ):aM P w K mg ai aO 2 f fd ["guarantees","principal","minute"] D3:=by
 refine F.aX ["guarantees","principal","minute","begun","begin"] (λS H vs Q E hr h=> ?_);obtain⟨a,p,t,d,gs,rfl,DA,ar,k⟩:=h
 exists _,aC (rG (i:=3) G S G G G (cV (aT DB hr (bu (pv 0) (pv 1)))) (own:=[("begin",4)]) (dY ["guarantees","principal","minute","begun","begin"] (cz (top 67))) (by intro _ _ _ _ _;exact cE 4 S) (by intro _ _ _ _ _;exact j3 (bL gG (pv 4) (pv 2))) (by intro _ _ _ _ _;exact pv 4))
  (aH (lC (pZ (pv 3) (λ_=>G)) (oH (oK hr) (pv 0) (lJ (bu (pv 1) (bJ (Yv G) (by rfl) B.max boot_max (aB (pv 3))))) (λ_ _=>G)) aF))
 dsimp only[jY,kK];refine oS ?_;exists _,G,_,G,a,p,d,G,DA,λH1 q s1 NF hq=>⟨q,G,?_⟩
 have bt:(gJ d p).length<=1000:=by unfold gJ;rw[aE];exact cX (gV _ _) DA.len
 refine qb (gJ d p) (λb=>V.int (b:Nat)) (λb=>decide (b<=t)) (λb=>V.int (b:Nat)) (by lia) (az.of hq) (λb U Kt Kf hb s2 ht hf=> ?_) λH2 D s2 hD hd=> ?_
 .exists G,_,G,_,G,_,_,G,G,_,G;refine b4 (λh1=> ?_) (λh1=> ?_)
  .exact⟨_,G,ht U (ah.refl _) (aP (by have:=c_ h1;lia))⟩
  exact hf U (ah.refl _) (aV λz=>h1 (aP (by lia)))
 have a7:∀b,b∈(gJ d p).filter (λb=>decide (b<=t))↔b<=t/\∃m,((p,b),m)∈d:=λb=>by
  rw[eY];unfold gJ;rw[b7];constructor
  .rintro⟨⟨x,hx,rfl⟩,h2⟩;obtain⟨h3,h4⟩:=eY.mp hx;have h5:x.1.1=p:=by simpa using h4
   exists by simpa using h2,x.2;rw[<-h5];exact h3
  rintro⟨h1,m,h2⟩;exact⟨⟨((p,b),m),eY.mpr ⟨h2,by simp⟩,G⟩,by simpa using h1⟩
 have hk:=k;exists _,G,_,.inl ⟨_,az.of hd,G⟩;cases e:(gJ d p).filter (λb=>decide (b<=t))with
 |nil=>
  have hz:i7 gs p t=0:=by
   refine ZZ λg hg hp=> ?_;obtain q|q:=i9 t g.since
   .exact q
   have hm:g.since∈(gJ d p).filter (λb=>decide (b<=t)):=(a7 _).mpr ⟨q,g.amount,(ar.mem _ _ _).mpr (by rw[<-hp];exact hg)⟩;rw[e]at hm;simp at hm
  rw[hz]at k;exact bX (k H2 (s1.trans s2))
 |cons fw NG=>
  rw[e]at hd;refine bK ⟨_,G,_,G,_,G,D,((fw::NG).map λ(n:Nat)=>(n:Int)),G,az.of (by rw[hd,bQ];rfl),(by simp),λm hm la=> ?_⟩;obtain⟨mb,NH,rfl⟩:=b7.mp hm;rw[<-e]at NH;obtain⟨c4,am,w8⟩:=(a7 mb).mp NH
  have hg:i7 gs p t=am:=by refine Z1 ar.iG ((ar.mem _ _ _).mp w8) c4 λg hg hp hs=> ?_;have h1:g.since∈(gJ d p).filter (λb=>decide (b<=t)):=(a7 _).mpr ⟨hs,g.amount,(ar.mem _ _ _).mpr (by rw[<-hp];exact hg)⟩;rw[e]at h1;have:=la ((g.since:Nat):Int) (b7.mpr ⟨_,h1,G⟩);lia
  refine⟨(by show 2<=sizeLine;decide),λtp o0=> ?_⟩;have s3:ah H2 (upd H2 tp (.tup [.int (p:Nat),.int (mb:Nat)])):=ah.new o0;have a3:=(s1.trans s2).trans s3
  have mr:eH (upd H2 tp (.tup [.int (p:Nat),.int (mb:Nat)])) a (.ref tp) (I (V.int (am:Nat))):=by have:=eH.t (k:=[cP ((p:Nat):Int),cP ((mb:Nat):Int)]) (b:=tp) (a3 _ _ DA.at_) (by rw[ay];rfl);rw[DZ,D0 ar.nd w8]at this;exact this
  rw[hg]at k;exists a,_,G,mr,k _ a3
inductive D4(vs:M V)H(Q:VK)(E:XK):Prop|mk(m h:Nat)(_:vs=[.int m,.int h])(_:m<=1000000000)(_:Q (.int (iy m h:Nat)) H)
theorem abk(F:bf K "share_of" (top 107) f fd):aM P w K mg ai aO 1 f fd ["money","hundredths"] D4:=by
 refine F.aX ["money","hundredths"] (λS H vs Q E hr h=> ?_);obtain⟨m,h,rfl,hm,k⟩:=h;exists _,aH (bP Ks (bP fY (bP vU (pv 0) (pv 1)) aF) aF),_,G,_,G,_,_,G,G,.inl ⟨by lia,by lia⟩,_,_,G,G,_,_,G,G,⟨by decide,by decide⟩
 have e:(m*h+99)/100=((iy m h:Nat):Int):=by unfold iy;rw[<-akY];lia
 rw[e];exact k
inductive NK J(vs:M V)(H:Hp)(Q:VK)(E:XK):Prop|mk(p rl dx:af)(j:bw)(_:vs=[.ref p,.int j.principal,.int j.amount,.int j.rate,.int j.limit,.ref rl])(_:H p=I (.ins J dx []))(_:j.amount<=1000000000)(_:∀U,U p=I (.ins J dx (M1 j rl))->(∀b o,H b=I o->b≠p->U b=I o)->Q .bx U)
def abl(F:dg K "__init__" "Journey.__init__" Jo f fd)(N:rL K J)(DS:Def P w K mg ai 1 "share_of" ["money","hundredths"] D4):aM P w K mg ai aO 2 f fd ["self","principal","money","hundredths","limit","route"] (NK J):=by
 refine F.aX ["self","principal","money","hundredths","limit","route"] (λS H vs Q E hr h=> ?_);obtain⟨p,rl,dx,j,rfl,hp,hm,k⟩:=h;exists _,aC (cR (pv 0) (pv 1) G) (aC (cR (pv 0) (pv 2) G) (aC (cR (pv 0) (pv 3) G) (aC (cR (pv 0) (pv 4) G) (aC (cR (pv 0) (pv 5) G) (cA (cR (pv 0) (aT DS hr (bu (pv 2) (pv 3))) G)))))),_,G,_,G,p,J,dx,_,G,hp,N.cl,N.principal,(by decide),_,G,_,G,p,J,dx,_,G,ay,N.cl,N.MZ,(by show 1<1000;decide),_,G,_,G,p,J,dx,_,G,ay,N.cl,N.M0,(by show 2<1000;decide),_,G,_,G,p,J,dx,_,G,ay,N.cl,N.limit,(by show 3<1000;decide),_,G,_,G,p,J,dx,_,G,ay,N.cl,N.route,(by show 4<1000;decide);exists _,G,_,G,j.amount,j.rate,G,hm,_,G,p,J,dx,_,G,ay,N.cl,N.share,(by show 5<1000;decide);refine k _ ?_ λb o e hb=> ?_
 .rw[ay];rfl
 rw[aD hb,aD hb,aD hb,aD hb,aD hb,aD hb];exact e
inductive D5(vs:M V)H(Q:VK)(E:XK):Prop|mk l zs(_:vs=[.ref l])(_:H l=I (.lst (zs.map V.int)))(_:zs.length<=100000)(_:∀U p,ah H U->H p=ak->U p=I (.lst (((zs.length:Int)::zs).map V.int))->Q (.ref p) U)
theorem abm(F:bf K "counted" (top 127) f fd)(B:dR mg):aM P w K mg ai aO 1 f fd ["numbers"] D5:=by
 refine F.aX ["numbers"] (λS H vs Q E hr h=> ?_);obtain⟨l,zs,rfl,hl,hz,k⟩:=h;refine⟨_,aH (bP f6 (br (aB (bJ dc (by rfl) B.len cJ (aB (pv 0))))) (pv 0)),_,G,l,_,G,.inl (az.of hl),(by show 1<=sizeLine;decide),λq hq=> ?_⟩;have s1:=ah.new (o:=.lst [.int ((zs.map V.int).length:Nat)]) hq;exists _,G,q,l,_,_,G,G,ay,s1 _ _ hl,?_,λp hp=>k _ p (s1.trans (ah.new hp)) (s1.free hp) ?_
 .rw[aE];have:100001<=sizeLine:=by decide
  show 1+zs.length<=sizeLine;lia
 rw[ay,aE];rfl
inductive NO C S(vs:M V)H(Q:VK)(E:XK):Prop|mk(p l dx:af)(j xa:Nat)(x:AN)(r:M AN)(_:vs=[.ref p,.int j,.int xa,.ref l])(_:H p=I (.ins S dx []))(_:H l=I (.lst (refs (x::r))))(_:f9 C H (x::r))(_:∀U,U p=I (.ins S dx (Nt ⟨j,xa,x.2.time,((((x::r).map (·.2)).find? λn=>n.kind==3).map (·.time))⟩))->(∀b o,H b=I o->b≠p->U b=I o)->Q .bx U)
def abn(F:dg K "__init__" "Span.__init__" Jk f fd)(N:qe K S)(NC:fc K C)(DC:Def P w K mg ai 1 "cleared_at" ["way"] (M7 K C)):aM P w K mg ai aO 2 f fd ["self","journey","share","way"] (NO C S):=by
 refine F.aX ["self","journey","share","way"] (λbn H vs Q E hr h=> ?_);obtain⟨p,l,dx,j,xa,x,r,rfl,hp,hl,T,k⟩:=h;exists _,aC (cR (pv 0) (pv 1) G) (aC (cR (pv 0) (pv 2) G) (aC (cR (pv 0) (fD (bk (pv 3) aF) G) G) (cA (cR (pv 0) (aT DC hr (aB (pv 3))) G))));have nlp:=iC hl hp (by intro q;cases q)
 have all:∀U:Hp,(∀b,b≠p->U b=H b)->U l=I (.lst (refs (x::r)))/\f9 C U (x::r):=λU e=>
  ⟨by rw[e l nlp];exact hl,⟨λy hy=>by obtain⟨dy,t,h1,h2⟩:=T.at_ y hy;exact⟨dy,t,by rw[e _ (iC h1 hp (by intro q;injection q with _ _ q;cases q))];exact h1,by rw[e _ (iC h2 hp (by intro q;cases q))];exact h2⟩,T.len⟩⟩
 exists _,G,_,G,p,S,dx,_,G,hp,N.cl,N.journey,(by decide),_,G,_,G,p,S,dx,_,G,ay,N.cl,N.share,(by show 1<1000;decide);obtain⟨l2,abo⟩:=all _ (λb hb=>(aD hb).trans (aD (o:=.ins S dx (bU "journey" (.int j) [])) hb));obtain⟨d2,t2,h2,_⟩:=abo.at_ x bW;exists _,G,l,_,_,_,G,G,az.of l2,aW (j:=0) G,x.1,C,d2,_,_,G,h2,NC.cl,NC.minute,G,_,G,p,S,dx,_,G,ay,N.cl,N.begin,(by show 2<1000;decide);obtain⟨Fn,abp⟩:=all _ (λb hb=>(aD (o:=.ins S dx (bU "begin" (.int x.2.time) (bU "share" (.int xa) (bU "journey" (.int j) [])))) hb).trans ((aD (o:=.ins S dx (bU "share" (.int xa) (bU "journey" (.int j) []))) hb).trans (aD (o:=.ins S dx (bU "journey" (.int j) [])) hb)));exists _,G,l,x::r,G,az.of Fn,abp,_,G,p,S,dx,_,G,ay,N.cl,N.cleared,(by show 3<1000;decide);refine k _ ?_ λb o e hb=> ?_
 .rw[ay];rfl
 rw[aD hb,aD hb,aD hb,aD hb];exact e
inductive D6 K S(vs:M V)H(Q:VK)(E:XK):Prop|mk(l b:af)(ss:M AS)(bs:M Nat)(_:vs=[.ref l,.ref b])(_:az K H l (lQ ss))(_:mT S H ss)(_:H b=I (.lst (aK bs)))(_:bs.length<=1000)(_:∀(U:Hp)(q:af)(ts:M Nat),ah H U->H q=ak->U q=I (.lst (aK ts))->ts.Pairwise (· < ·)->(∀x,x∈ts↔(∃y∈ss,y.2.left=x\/y.2.cleared=I x)\/x∈bs)->ts.length<=4000->Q (.ref q) U)
def lR(ss:M AS)(t:Nat):Nat:=pK (((ss.map (·.2)).filter λs=>dZ s t).map (·.share))
noncomputable def rM(ss:M AS)(gs:M eE)(p:Nat)(z:Nat×Int):M Int:=if i7 gs p z.1<lR ss z.1 then [(z.1:Int),z.2,(lR ss z.1:Int),(i7 gs p z.1:Int)]else []
def nK(ss:M AS)(gs:M eE)(p:Nat)(l:M (Nat×Int)):M Int:=l.flatMap (rM ss gs p)
theorem NQ ss gs p l:(nK ss gs p l).length<=4*l.length:=by
 unfold nK;induction l with
 |nil=>simp
 |cons a l ih=>
  rw[gW,bD,bT]
  have:(rM ss gs p a).length<=4:=by unfold rM;split<;>simp
  lia
def iI(ts:M Nat):M Int:=(ts.drop 1).map (λ(n:Nat)=>(n:Int))++[-1]
inductive NR K S(vs:M V)H(Q:VK)(E:XK):Prop|mk(l a:af)(p:Nat)(ss:M AS)(d:fE)(gs:M eE)(_:vs=[.ref l,.ref a,.int p])(_:az K H l (lQ ss))(_:mT S H ss)(_:qf H a d)(_:GD d gs)(_:∀(U:Hp)(q:af)(ts:M Nat),ah H U->H q=ak->ts.Pairwise (· < ·)->(∀x,x∈ts↔(∃y∈ss,y.2.left=x\/y.2.cleared=I x)\/x∈gJ d p)->U q=I (.lst ((nK ss gs p (ts.zip (iI ts))).map V.int))->Q (.ref q) U)
def D7{β:Type}{l:M α}{m:M β}{z:α×β}(h:(l.zip m)[i]? =I z):l[i]? =I z.1/\m[i]? =I z.2:=by rw[ym]at h;exact h
theorem abq(F:bf K "shorts_of" (top 69) f fd)(B:dR mg)(hNT:cS mg "NO_TURN" (-1))(abr:Def P w K mg ai 3 "turns_of" ["spans","begins"] (D6 K S))
  (DB:Def P w K mg ai 1 "begins_of" ["guarantees","principal"] zQ)(TW:Def P w K mg ai 2 "sum_at" ["spans","minute"] (zP K S))(DG:Def P w K mg ai 2 "guarantee_at" ["guarantees","principal","minute"] D3):
  aM P w K mg ai aO 4 f fd ["spans","guarantees","principal"] (NR K S):=by
 refine F.aX ["spans","guarantees","principal","turns","shorts","minute","later","total","covered"] (λbn H vs Q E hr h=> ?_);obtain⟨l,a,p,ss,d,gs,rfl,hL,T,DA,ar,k⟩:=h
 exists _,aC (aY 3 bn (aT abr hr (bu (pv 0) (aT DB hr (bu (pv 1) (pv 2)))))) (aC (aY 4 bn (br eT)) (aC (fC eN G (LR (by rfl) B.zip (bu (pv 3) (bP f6 (mK nH (pv 3) (g4 aF) Cz) (br (aB (bM G hNT)))))) (Kl G (yT (cE 5 bn) (yT (cE 6 bn) Kg))) (aC (aY 7 bn (aT TW hr (bu (pv 0) (pv 5)))) (aC (aY 8 bn (aT DG hr (cg (pv 1) (pv 2) (pv 5)))) (cA (bH (bL lH (pv 7) (pv 8)) (cA (fR (ee fq l8 oq oG (pv 4) (aB (br (dw (pv 5) (cg (pv 6) (pv 7) (pv 8)))))))) bG))))) (aH (pv 4))))
 have bt:(gJ d p).length<=1000:=by unfold gJ;rw[aE];exact cX (gV _ _) DA.len
 refine⟨_,G,_,G,_,G,a,p,d,G,DA,λH1 b s1 sn hb=> ?_⟩;refine⟨l,b,ss,gJ d p,G,s1.seq hL,T.same s1,hb,bt,λH2 q ts s2 NF hq eA a7 T0=> ?_⟩;have a1:=s1.trans s2;refine⟨b6 _,λql bj=> ?_⟩;have s3:ah H2 (upd H2 ql (.lst [])):=ah.new bj;refine⟨_,G,_,G,_,G,q,_,G,az.of (s3 _ _ hq),λq2 hq2=> ?_⟩;have s4:=ah.new (o:=.lst (e_ (aK ts) (I 1) ak)) hq2;refine⟨(by decide),λq3 o1=> ?_⟩;have s5:=ah.new (o:=.lst [V.int (-1)]) o1;exists q2,q3,_,_,G,G,s5 _ _ ay,ay,?_,λq4 eC=> ?_
 .have h1:=KZ (aK ts) (I 1) ak;rw[fT]at h1;have:(4001:Nat)<=sizeLine:=by decide
  show(e_ (aK ts) (I 1) ak).length+1<=sizeLine;lia
 have abt:e_ (aK ts) (I 1) ak++[V.int (-1)]=(iI ts).map V.int:=by rw[Nb];unfold iI aK;rw[dH,bQ,qO];rfl
 have s6:=ah.new (o:=.lst (e_ (aK ts) (I 1) ak++[V.int (-1)])) eC;have so:ah H2 _:=s3.trans (s4.trans (s5.trans s6));rw[abt]at so⊢;have NU:ql≠q4:=b_ ((s4.trans s5) _ _ (show(upd H2 ql (.lst [])) ql=I (.lst []) from ay)) eC
 have abu:(upd (upd (upd (upd H2 ql (.lst [])) q2 (.lst (e_ (aK ts) (I 1) ak))) q3 (.lst [V.int (-1)])) q4 (.lst ((iI ts).map V.int))) ql=I (.lst []):=by rw[aD NU];exact(s4.trans s5) _ _ ay
 have amf:(ts.zip (iI ts)).length<=4000:=by rw[qS];lia
 exists q,q4,_,_,G,az.of (so _ _ hq),az.of ay,DL (ts.zip (iI ts)) (λi σ U=>∃v5 v6 v7 T1:aG V,σ=[I (.ref l),I (.ref a),I (.int p),I (.ref q),I (.ref ql),v5,v6,v7,T1]/\ah H2 U/\U q4=I (.lst ((iI ts).map V.int))/\U ql=I (.lst ((nK ss gs p ((ts.zip (iI ts)).take i)).map V.int))) ⟨ak,ak,ak,ak,G,so,ay,abu⟩ ?_ ?_ ?_ ?_
 .rintro σ U⟨_,_,_,_,_,t5,bc,_⟩;exists _,_,az.of (t5 _ _ hq),az.of bc;rw[fT,aE,qS];lia
 .rintro i z σ U hz⟨_,_,_,_,_,t5,bc,_⟩;obtain⟨h1,h2⟩:=D7 hz;exact⟨_,_,V.int (z.1:Nat),V.int z.2,az.of (t5 _ _ hq),az.of bc,by unfold aK;rw[bF,h1];rfl,by rw[bF,h2];rfl⟩
 .rintro i z x σ U H6 hz⟨v5,v6,v7,T1,rfl,t5,bc,c5⟩⟨TT,x1,y1,rfl,xb,rfl,hY,xc⟩;obtain⟨h1,h2⟩:=D7 hz;have ex:x1=V.int (z.1:Nat):=cG ((hY _ (az.of (t5 _ _ hq))).symm.trans (by unfold aK;rw[bF,h1];rfl));have ey:y1=V.int z.2:=cG ((xc _ (az.of bc)).symm.trans (by rw[bF,h2];rfl));subst ex;subst ey;have w1:ah U (upd U TT (.tup [V.int (z.1:Nat),V.int z.2])):=ah.new xb;have T2:ah H _:=a1.trans (t5.trans w1)
  have step:nK ss gs p ((ts.zip (iI ts)).take (i+1))=nK ss gs p ((ts.zip (iI ts)).take i)++rM ss gs p z:=by rw[take_snoc hz];unfold nK;rw[qQ];simp
  exists TT,_,G,bz.of ay,G,_,_,G,_,_,G,G;exists _,G,_,G,l,ss,z.1,G,T2.seq hL,T.same T2,λH7 t7=> ?_
  have es:(((ss.map (·.2)).filter λs=>dZ s z.1).map λs=>(s.share:Int)).sum=((lR ss z.1:Nat):Int):=by unfold lR;rw[<-Sg.wu,bQ];rfl
  rw[es];refine⟨_,G,_,G,_,G,a,p,z.1,d,gs,G,(DA.same T2).same t7,ar,λH8 TK=> ?_⟩;have ka:=w1.trans (t7.trans TK);exists _,G,_,G,_,_,G,G,_,G;refine b4 (λg1=> ?_) (λg1=> ?_)
  .have Uf:i7 gs p z.1<lR ss z.1:=by have:=c_ g1;lia
   unfold rM at step;rw[av Uf]at step;refine⟨_,G,.inl ⟨G,_,az.of (ka _ _ c5)⟩,_,G,_,G,_,G,_,G,(by show 4<=sizeLine;decide),λe0 UF=> ?_⟩;exists ql,e0,(nK ss gs p ((ts.zip (iI ts)).take i)).map V.int,_,G,G,?_,ay,?_
   .rw[aD (b_ (ka _ _ c5) UF)];exact ka _ _ c5
   .rw[aE];have hs:=NQ ss gs p ((ts.zip (iI ts)).take i);rw[gT]at hs;have:(16004:Nat)<=sizeLine:=by decide
    show _+4<=sizeLine;lia
   exists _,_,_,_,G,λc o ec=> ?_,?_
   .rw[aD (b_ ec bj),aD (b_ (ka _ _ (t5 _ _ ec)) UF)];exact ka _ _ (t5 _ _ ec)
   .rw[aD (ie NU),aD (b_ (ka _ _ bc) UF)];exact ka _ _ bc
   rw[ay,step,dH];rfl
  have Uf:¬i7 gs p z.1<lR ss z.1:=λamg=>g1 (aP (by lia));unfold rM at step;rw[au Uf,jT]at step;exact⟨_,_,_,_,G,t5.trans ka,ka _ _ bc,by rw[step];exact ka _ _ c5⟩
 rintro σ U⟨v5,v6,v7,T1,rfl,t5,bc,c5⟩;rw[i8]at c5;exists _,G,k U ql ts (a1.trans t5) (a1.free bj) eA a7 c5
end Sp
namespace f_
open PySem
def ji(xs:Array Nat):Prop:=xs.toList.Pairwise (· < ·)
structure Cut(xs:Array Nat)(j p:Nat):Prop where
 le:p<=xs.size
 lo:∀i,i<p->∀v,xs[i]? =I v->v<j
 hi:∀i,p<=i->∀v,xs[i]? =I v->j<=v
variable{xs:Array Nat}{i:Nat}
def wJ(h:ji xs){k a b:Nat}(hik:i<k)(ha:xs[i]? =I a)(hb:xs[k]? =I b):a<b:=by unfold ji at h;rw[List.pairwise_iff_getElem]at h;rw[<-m9]at ha hb;obtain⟨h1,e1⟩:=eL.mp ha;obtain⟨h2,e2⟩:=eL.mp hb;rw[<-e1,<-e2];exact h i k h1 h2 hik
theorem D8{xs:Array Nat}(h:ji xs)j:∀fuel lo hi,hi<=xs.size->lo<=hi->hi-lo<=fuel->(∀i,i<lo->∀v,xs[i]? =I v->v<j)->(∀i,hi<=i->∀v,xs[i]? =I v->j<=v)->Cut xs j (akZ xs j fuel lo hi)
 |0,lo,hi,h1,h2,h3,h4,h5=>by
  have e:lo=hi:=by lia
  subst e;exists h1,h4,h5
 |fuel+1,lo,hi,h1,h2,h3,h4,h5=>by
  unfold akZ;by_cases c:lo<hi
  .rw[av c];simp only;have hm:(lo+hi)/2<xs.size:=by lia
   have hg:=i6 hm
   have hd:xs.getD ((lo+hi)/2) j=xs[(lo+hi)/2]:=by rw[U4,hg];rfl
   rw[hd];by_cases q:xs[(lo+hi)/2]<j
   .rw[av q];refine D8 h j fuel _ hi h1 (by lia) (by lia) (λi eh v hv=> ?_) h5;obtain z|z:=i9 i ((lo+hi)/2)
    .have:=wJ h z hv hg;lia
    have e:i=(lo+hi)/2:=by lia
    subst e;rw[hg]at hv;have:=cG hv;lia
   rw[au q];refine D8 h j fuel lo _ (by lia) (by lia) (by lia) h4 (λi eh v hv=> ?_);obtain z|z:=i9 ((lo+hi)/2) i
   .have:=wJ h z hg hv;lia
   have e:i=(lo+hi)/2:=by lia
   subst e;rw[hg]at hv;have:=cG hv;lia
  rw[au c];have e:lo=hi:=by lia
  subst e;exists h1,h4,h5
theorem D9(h:ji xs)j:Cut xs j (jW xs j):=by exact D8 h j _ _ _ (aZ _) (b6 _) (by lia) (λi hi=>aU hi (IP _)) (λi hi v hv=>by rw[vf (by lia)]at hv;cases hv)
variable{j:Nat}
theorem NW{p q:Nat}(a:Cut xs j p)(b:Cut xs j q):p=q:=by
 obtain h|h|h:=Nat.lt_trichotomy p q
 .have h1:=gQ h b.le;have:=b.lo p h _ (i6 h1);have:=a.hi p (aZ _) _ (i6 h1);lia
 .exact h
 have h1:=gQ h a.le;have:=a.lo q h _ (i6 h1);have:=b.hi q (aZ _) _ (i6 h1);lia
def abv(h:ji xs):jW xs 0=0:=NW (D9 h 0) ⟨b6 _,λi hi=>aU hi (IP _),λ_ _ _ _=>b6 _⟩
theorem abw(h:ji xs){v:Nat}(hv:xs[i]? =I v):jW xs (v+1)=i+1:=by
 refine NW (D9 h (v+1)) ⟨(UM.mp hv).1,λk hk u hu=> ?_,λk hk u hu=> ?_⟩
 .obtain z|z:=i9 k i
  .have:=wJ h z hu hv;lia
  have e:k=i:=by lia
  subst e;rw[hv]at hu;have:=cG hu;lia
 have:=wJ h (show i<k by lia) hv hu;lia
variable{α:Type}
def abx xs p(x:α)(hp:p<=xs.size):(U5 xs p x).toList=xs.toList.take p++x::xs.toList.drop p:=by unfold U5;simp[Array.toList_extract,List.extract];exact pA (by rw[ir,fk];exact aZ _)
theorem aby(h:ji xs)(hn:xs[jW xs j]?≠I j):ji (U5 xs (jW xs j) j):=by
 have c:=D9 h j;unfold ji;rw[abx _ _ _ c.le,UW,ez];have hr:=h;exists hr.sublist (ajX _ _),⟨λv hv=> ?_,hr.sublist (List.drop_sublist _ _)⟩,λa ha b hb=> ?_
 .obtain⟨k,hk,e⟩:=ak0.mp hv
  have hg:xs[jW xs j+k]? =I v:=by rw[<-m9,eL];exists _,e
  have h1:=c.hi _ (by lia) v hg;obtain z|z:=i9 j v
  .exact z
  have im:v=j:=by lia
  subst im;cases k with
  |zero=>exact aU hg hn
  |succ k=>
   have al:jW xs v<xs.size:=by have:=hk;rw[fk]at this;lia
   have NX:=i6 al;have:=wJ h (show jW xs v<jW xs v+(k+1) by lia) NX hg;have:=c.hi _ (aZ _) _ NX;lia
 have ix:a<j:=by
  obtain⟨k,hk,e⟩:=List.mem_take_iff_getElem.mp ha
  have hg:xs[k]? =I a:=by rw[<-m9,eL];exists _,e
  exact c.lo k (by lia) a hg
 obtain z|z:=bh.mp hb
 .subst z;exact ix
 obtain⟨k,hk,e⟩:=ak0.mp z
 have hg:xs[jW xs j+k]? =I b:=by rw[<-m9,eL];exists _,e
 have:=c.hi _ (by lia) b hg;lia
def NZ n:ji (Array.range n):=by unfold ji;rw[Array.toList_range];exact ak1
def abz:ji #[]:=by unfold ji;simp
structure jj(b:Bool)(t:pL):Prop where
 zR:ji t.place
 led:t.led=b
def abA b:jj b (ak2 0 0 b):=⟨abz,G⟩
variable{b:Bool}{t:pL}
def D_(h:jj b t)n:jj b (t.standIn n):=⟨NZ n,h.led⟩
def N1(h:∀i,t.slot j≠ .live i):t.place[jW t.place j]?≠I j:=by intro q;have:=h (jW t.place j);unfold SetTable.slot at this;simp[q]at this
theorem Ea{t:pL}{hashAt:Nat->Int}{h:Int}:∀fuel(p:SetTable.Probe)j d,(∀k,p.dummy=I k->t.slot k= .dummy)->U6 t hashAt h fuel p=I (.empty j d)->t.slot j= .empty/\∀k,d=I k->t.slot k= .dummy
 |0,p,j,d,_,e=>by unfold U6 at e;cases e
 |fuel+1,p,j,d,hd,e=>by
  unfold U6 at e;cases c:t.slot p.j with
  |empty=>rw[c]at e;simp only[lq,am9]at e;obtain⟨rfl,rfl⟩:=e;exists c,hd
  |dummy=>
   rw[c]at e;refine Ea fuel _ j d (λk hk=> ?_) e
   have:(IQ t {p with dummy:=I p.j}).dummy=I p.j:=by unfold IQ;split<;>rfl
   rw[this]at hk;cases hk;exact c
  |live i=>
   rw[c]at e;simp only at e;split at e
   .cases e
   refine Ea fuel _ j d (λk hk=> ?_) e
   have:(IQ t p).dummy=p.dummy:=by unfold IQ;split<;>rfl
   rw[this]at hk;exact hd k hk
def abB{h:Int}{slot:Nat}{wd:Bool}(e:t.freeSlot h=I (slot,wd)):t.place[jW t.place slot]?≠I slot:=by
 unfold SetTable.freeSlot at e;split at e
 .rename_i j dummy hp;obtain⟨h1,h2⟩:=Ea _ _ _ _ (λk hk=>by unfold SetTable.probeStart at hk;cases hk) hp;simp only[lq,By]at e;cases dummy with
  |none=>have:j=slot:=e.1;subst this;exact N1 λi q=>by rw[h1]at q;cases q
  |some d=>have:d=slot:=e.1;subst this;exact N1 λi q=>by rw[h2 d G]at q;cases q
 cases e
def abC(T:jj b t)es h x:jj b (yp t es h x).2.1:=by
 unfold yp;split
 .rename_i slot wd e;simp only;unfold SetTable.orStandIn;split
  .exists aby T.zR (abB e),T.led
  exists NZ _,T.led
 exact D_ T _
def abD m(f:Nat->aG Nat):ji (((gR m).filterMap λj=>(f j).map (j,·)).map (·.1)).toArray:=by
 show(((gR m).filterMap λj=>(f j).map (j,·)).map (·.1)).Pairwise (· < ·);rw[pG,UQ];refine akD ?_ (ak1);intro a c hac x hx y hy;cases e1:f a with
 |none=>rw[e1]at hx;simp at hx
 |some u=>
  cases e2:f c with
  |none=>rw[e2]at hy;simp at hy
  |some v=>rw[e1]at hx;rw[e2]at hy;simp at hx hy;subst hx;subst hy;exact hac
def abE(T:jj b t)es wanted:jj b (vj t es wanted).2.1:=by
 unfold vj;split
 .rename_i t' order e;simp only;split
  .unfold SetTable.relaid SetTable.laid at e;simp only[Option.bind_eq_bind]at e;cases c:SetTable.layClean (SetTable.sizeAbove wanted-1) (es.map (·.1))with
   |none=>rw[c]at e;cases e
   |some owner=>rw[c]at e;simp only[xN,Option.pure_def,lq,By]at e;obtain⟨rfl,_⟩:=e;exists abD _ _,T.led
  exact D_ T _
 exact D_ T _
def abF(T:jj b t)p:jj b {t with plain:=p}:=⟨T.zR,T.led⟩
theorem N2{α:Type}next:∀fuel k left(out:Array α),left.length=fuel->(U7 next fuel k left out).toList.Perm (out.toList++left)
 |0,k,left,out,h=>by unfold U7;have:=IJ.mp h;subst this;simp|fuel+1,k,left,out,h=>by
  unfold U7;have al:next k%left.length<left.length:=Nat.mod_lt _ (by lia);rw[bg al];simp only;refine(N2 next fuel (k+1) _ _ (by rw[ak3 al];lia)).trans ?_;rw[ak4,iu];refine List.Perm.append_left _ ?_
  have e1:left=left.take (next k%left.length)++left[next k%left.length]::left.drop (next k%left.length+1):=by rw[<-pJ al,pI]
  rw[ak5]
  conv=>rhs;rw[e1]
  show(left[next k%left.length]::(left.take (next k%left.length)++left.drop (next k%left.length+1))).Perm _;exact ak6.symm
def Eb next(xs:Array α):(ou next xs).toList.Perm xs.toList:=by unfold ou;have:=N2 next xs.size 0 xs.toList #[] (by simp);simpa using this
end f_
namespace f_
open PySem PySem.Spec PyProof.Rows
structure Good(prog:bY)(w:bR)(b:Bool)(es:Array (Int×aq))(t:pL)(D:M Int):Prop where
 el:ElemsOf (intKind prog w) es.toList
 mem:∀k,k∈D↔∃e∈es.toList,(intKind prog w).is k e.2=aa
 er:es.size<nt
 fit:t.fits es.size=aa
 num:es.size=D.length
 tok:jj b t
def kO(prog:bY)(w:bR)(b:Bool)(h:bB)(a:af)(D:M Int):Prop:=∃ob es ep t,h.get? a=I ob/\ob.ExactSet/\ob.data= .set es ep t/\Good prog w b es t D
def nL(D:M Int)(k:Int):M Int:=if k∈D then D else D++[k]
variable{prog:bY}{w:bR}{b:Bool}{h:bB}{a:af}{ob:bA}{es:Array (Int×aq)}{ep:Nat}{t:pL}{D:M Int}
def stored{bv:Array (Int×aq)}{t':pL}(h1:h.get? a=I ob)(h2:ob.ExactSet)(h3:ob.data= .set es ep t)(g:Good prog w b bv t' D):
  (h.update a (BB bv t')).get? a=I {ob with data:=.set bv (ep+1) t'}/\kO prog w b (h.update a (BB bv t')) a D:=by
 have q:(h.update a (BB bv t')).get? a=I {ob with data:=.set bv (ep+1) t'}:=by have z:=oh (BB bv t') h1 (by rw[putSet_of bv t' h3];rfl);rw[putSet_of bv t' h3]at z;exact z
 exists q,_,bv,ep+1,t',q,h2,G,g
def Good.perm{es bv:Array (Int×aq)}{t t':pL}{D:M Int}(g:Good prog w b es t D)(p:List.Perm bv.toList es.toList)(f:t'.fits bv.size=aa)(k:jj b t'):Good prog w b bv t' D:=by
 have e:bv.size=es.size:=by rw[<-fk,p.length_eq,fk]
 exists g.el.perm p,λj=>(g.mem j).trans ⟨λ⟨u,hu,z⟩=>⟨u,p.mem_iff.mpr hu,z⟩,λ⟨u,hu,z⟩=>⟨u,p.mem_iff.mp hu,z⟩⟩,by rw[e];exact g.er,f,by rw[e];exact g.num,k
variable{A:eZ}{E:aq->aI->Prop}{s:aI}
def N3{say:Bool->jS Unit}(abG:∀c s₁(Q':Unit->aI->Prop),Q' () s₁->aJ (aL prog w) A (say c) Q' E s₁)
  {dr:Array (Int×aq)}{t2:pL}{N4:Bool}{R:aG Bool->aI->Prop}(h1:s.heap.get? a=I ob)(h2:ob.ExactSet)(h3:ob.data= .set es ep t)(g:Good prog w b dr t2 D)
  (fin:∀h',o9 a s.heap h'->kO prog w b h' a D->R (I aa) {s with heap:=h'}):
  aJ (aL prog w) A (do
    storeSet a dr t2
    if(!N4&&t2.tooFull)=aa then do
      say (vj t2 dr (BC dr.size)).2.2
      storeSet a (vj t2 dr (BC dr.size)).1 (vj t2 dr (BC dr.size)).2.1
      pure (I aa)
     else pure (I aa)) R E s:=by
 refine aA (ak7 h1 h3 ?_ (BD g.er));obtain⟨q1,NE⟩:=stored h1 h2 h3 g;have sb:=ni s.heap a (BB dr t2);split
 .have g2:Good prog w b (vj t2 dr (BC dr.size)).1 (vj t2 dr (BC dr.size)).2.1 D:=g.perm (relayAll_perm t2 dr _) (relayAll_fits t2 dr _) (abE g.tok dr _);refine aA (abG _ _ _ ?_);exact aA (ak7 q1 G (aN (fin _ (sb.trans (ni _ a _)) (stored q1 h2 G g2).2)) (BD g2.er))
 exact aN (fin _ sb NE)
variable{k:Int}{tk:Tok}
def addW{Q:Bool->aI->Prop}(S:kO prog w b s.heap a D)(room:D.length+1<nt)
  (fin:∀h' c,o9 a s.heap h'->kO prog w b h' a (nL D k)->Q c {s with heap:=h'}):aJ (aL prog w) A (setAddHashed a (.int k tk) (nZ k)) Q E s:=by
 obtain⟨ob,es,ep,t,h1,h2,h3,g⟩:=S;have Fs:(intKind prog w).is k (.int k tk)=aa:=intKind_is _ _ _ _;have sc:(qC k tk).scannable=aa:=rfl;refine pD (aA (yq h1 h3 g.fit ?_));dsimp only;rw[byScan_of sc g.er g.el];simp only[↓reduceIte];refine aA (aA (sX (aA (wpAny_setScan_of Fs h1 h3 g.fit g.el ?_))));cases r:List.findIdx? (λe=>(intKind prog w).is k e.2) es.toList with
 |some j=>
  obtain⟨hj,hp,_⟩:=ak8.mp r;have inD:=(g.mem k).mpr ⟨es.toList[j],sY hj,hp⟩;have same:nL D k=D:=av inD;have es0:s={s with heap:=s.heap}:=by cases s;rfl
  rw[same]at fin;refine aN (aN ?_);rw[es0];exact fin s.heap _ (am_ a s.heap) ⟨ob,es,ep,t,h1,h2,h3,g⟩
 |none=>
  dsimp only
  have abH:¬k∈D:=λq=>by obtain⟨e,he,z⟩:=(g.mem k).mp q;have:=akA.mp r e he;rw[z]at this;cases this
  have more:nL D k=D++[k]:=au abH;rw[more]at fin;have pm:=layNew_perm t es (nZ k) (.int k tk);have ft:=layNew_fits t es (nZ k) (.int k tk);have tk1:=abC g.tok es (nZ k) (.int k tk)
  have gl:Good prog w b (yp t es (nZ k) (.int k tk)).1 (yp t es (nZ k) (.int k tk)).2.1 (D++[k]):=by
   rw[ak4]at pm
   have sz:(yp t es (nZ k) (.int k tk)).1.size=es.size+1:=by rw[<-fk,pm.length_eq,bD,fk];rfl
   exists(g.el.push (k:=k) Fs sc).perm pm,λj=> ?_,?_,ft,?_,tk1
   .rw[dG,g.mem j];constructor
    .rintro(⟨e,he,z⟩|z)
     .exists e,pm.mem_iff.mpr (k6 _ he),z
     have:j=k:=by simpa using z
     subst this;exists(nZ j,.int j tk),pm.mem_iff.mpr (ki _ bW),Fs
    rintro⟨e,he,z⟩;obtain q|q:=dG.mp (pm.mem_iff.mp he)
    .exact .inl ⟨e,q,z⟩
    have:e=(nZ k,.int k tk):=by simpa using q
    subst this;exact .inr (nu.mpr ((intKind prog w).inj _ j k z Fs))
   .rw[sz,g.num];exact room
   rw[sz,g.num,bD];rfl
  generalize yp t es (nZ k) (.int k tk)=L at gl⊢;obtain⟨dr,t1,N4,amh⟩:=L;dsimp only at gl⊢
  have word:∀(c:Bool)(s₁:aI)(Q':Unit->aI->Prop),Q' () s₁->aJ (aL prog w) A (match c with|true=>rule "set.scan.the-table-gave-way"|false=>pure ()) Q' E s₁:=λc s₁ Q' hq=>by
   cases c
   .exact aN hq
   exact sX hq
  refine aA (word _ _ _ ?_);split
  .refine aA ?_;rw[hashByValue_scannable 8 sc];refine aN ?_;refine N3 (b:=b) word h1 h2 h3 (D:=D++[k]) ?_ ?_
   .split
    .exact gl
    exists gl.el,gl.mem,gl.er,SetTable.fits_plain_off gl.fit,gl.num,abF gl.tok _
   intro h' sb hS;dsimp only;exact aN (fin h' _ sb hS)
  refine aA (aN ?_);simp only[↓reduceIte];refine N3 (b:=b) word h1 h2 h3 (D:=D++[k]) gl ?_;intro h' sb hS;dsimp only;exact aN (fin h' _ sb hS)
def j6(val:Nat->Int)(i:Nat):M Int:=((gR i).map val).foldl nL []
def zS val i:j6 val (i+1)=nL (j6 val i) (val i):=by unfold j6;rw[ak9,dH,pH];rfl
theorem Ec val:∀i,(j6 val i).length<=i
 |0=>aZ _|i+1=>by
  have ih:=Ec val i;rw[zS];unfold nL;split
  .lia
  rw[bD];simp;lia
variable{h':bB}
def kO.keep(S:kO prog w b h a D)(k:∀o,h.get? a=I o->h'.get? a=I o):kO prog w b h' a D:=by obtain⟨ob,es,ep,t,h1,r⟩:=S;exists ob,es,ep,t,k _ h1,r
variable{R:u0->aI->Prop}{ab:af}{fp wr:M af}{ar:Array HR->Array HR->Prop}{n:Nat}{P:Nat->aq->Prop}{St:Nat->aI->Prop}
theorem abI(W:WalksS prog w A.in1 ab fp wr ar n P St)T(N5:T∉fp)val(fA:∀i v,P i v->∃t,v= .int (val i) t)(er:n+1<nt):
  ∀m i s,n-i=m->i<=n->St i s->kO prog w b s.heap T (j6 val i)->
   (∀s',Moved (T::wr) ar s s'->kO prog w b s'.heap T (j6 val n)->R (.ok (.ret .none)) s')->l0 (aL prog w) A (.builtin "set.update.loop" ⟨[.ref T,.ref ab],[]⟩) R s:=by
 have N6:=λh=>N5 (W.sub _ h);have up:∀c∈wr,c∈T::wr:=λc hc=>bZ _ hc;intro m;induction m with
 |zero=>
  intro i s hm hi st S fin;have ein:i=n:=by lia
  subst ein;refine sZ ak_ ?_;rw[vm U8 _];exact aA (W.done s _ _ st λs1 mv=>aN (fin s1 (mv.mono up) (S.keep λo e=>mv.heap T o N6 e)))
 |succ m ih=>
  intro i s hm hi st S fin;have lt:i<n:=by lia
  refine sZ ak_ ?_;rw[vm U8 _];refine aA (W.item i s _ _ lt st λv s1 hP st1 mv=> ?_);obtain⟨tk,rfl⟩:=fA i v hP;refine aA (pD ?_);refine pD (aA ((intKind prog w).pyHash (intKind_is _ _ _ _) ?_));have abJ:(j6 val i).length+1<nt:=by have:=Ec val i;lia
  refine addW (S.keep λo e=>mv.heap T o N6 e) abJ λh2 c sb S2=> ?_;rw[<-zS]at S2;refine aN ⟨qT U8 _,ih (i+1) _ (by lia) lt (W.frame _ s1 _ _ st1 (u7 _) λd hd o e=> ?_) S2 λs3 mv3 S3=> ?_⟩
  .rw[sb.2 d (λq:d=T=>N5 (by rw[<-q];exact hd))];exact e
  refine fin s3 (Moved.trans W.gtrans ((mv.mono up).then_heap (u7 _) λd o hd e=> ?_) mv3) S3;rw[sb.2 d (λq:d=T=>hd (by rw[q];exact bW))];exact e
def lS(w:bR):Bool:= !w.params.followText "set-order"
def mU(w:bR):bA:={cls:=.type "set",dict:=ak,data:=.set #[] 0 (.fresh 0 0 (lS w))}
def abK v{Q₁:aq->aI->Prop}(h:Q₁ (.ref s.heap.objs.size) {s with heap:=s.heap.push (mU w)}):
  l0 (aL prog w) A (.call (.builtin "set.__new__") ⟨[.type "set",v],[]⟩) (wants Q₁ E) s:=by
 refine ala ?_;show aJ _ A.in1 (do alb "set.__new__" ⟨[.type "set",v],[]⟩;again (.builtin "set.__new__" ⟨[.type "set",v],[]⟩)) _ _ s;refine aA (yd (PySem.F.newCall_set_1 v) (aN ⟨qT alc _,sZ PySem.F.entry_set_new ?_⟩));rw[vm alc _];have z:=sub_set_self;obtain⟨hp,g,d,tk,os⟩:=s
 wp_walk
 refine yr (aN ?_);simp only[newObj];exact aA (wpAny_alloc (aN (aN h)))
def abL:Good prog w (lS w) #[] (ak2 0 0 (lS w)) []:=⟨λe he=>by simp at he,λk=>by simp,by decide,by rfl,G,abA _⟩
def Made(prog:bY)(w:bR)(s:aI)(D:M Int)(s2:aI):Prop:=∃h' tk,s2={s with heap:=h',toks:=tk}/\kO prog w (lS w) h' s.heap.objs.size D/\∀c o,c<s.heap.objs.size->s.heap.get? c=I o->h'.get? c=I o
variable{Q:aq->aI->Prop}
set_option maxHeartbeats 3200000 in
theorem abM{li:af}{xs:Array aq}{ns:M Int}(calm:A.handled=ak)(isl:s.heap.IsList li xs)(isn:IntsAre xs.toList ns)(er:xs.size+1<nt)
  (fin:∀(h':bB)(tk:Nat),kO prog w (lS w) h' s.heap.objs.size (j6 (λi=>ns.getD i 0) xs.size)->(∀c o,c<s.heap.objs.size->s.heap.get? c=I o->h'.get? c=I o)->Q (.ref s.heap.objs.size) {s with heap:=h',toks:=tk}):
  aJ (aL prog w) A (call (.type "set") [.ref li]) Q E s:=by
 obtain⟨dE,tl0,ami⟩:=s8.mro;have amj:=s8.made;have amk:=s8.sub;refine H_ (ala ?_);refine aN ⟨Code.quiet_builtin _ (by decide+kernel),sZ PySem.F.entry_type_call ?_⟩;rw[Around.under_plain (weight_type_call_type "set" [.ref li] []) G];have nt0:=s8.notType;have cc0:=s8.canCreate;have tc0:=PySem.F.typeCall_set_1 (.ref li);repeat (any_goals (first|assumption|wp_step))
 refine u6 (abK (.ref li) (E:=E) (Q₁:=λob s1=>ob= .ref s.heap.objs.size/\s1={s with heap:=s.heap.push (mU w)}) ⟨rfl,rfl⟩) λr s1 hr=> ?_;cases r with
 |error e=>exact hr
 |ok km=>
  cases km with
  |ret ob=>
   obtain⟨rfl,rfl⟩:=hr;have iR:(s.heap.push (mU w)).get? s.heap.objs.size=I (mU w):=di _ G;have ty0:Shared.TypeIs {s with heap:=s.heap.push (mU w)} (.ref s.heap.objs.size) "set":=⟨_,iR,rfl⟩;have il0:=s8.init.lookup;have ib0:=s8.init.bind (.ref s.heap.objs.size);repeat (any_goals (first|assumption|wp_step))
   refine u6 (ald (R:=wants (λr s2=>r= .none/\Made prog w s (j6 (λi=>ns.getD i 0) xs.size) s2) E) s8.init.plain PySem.F.entry_set_init (check_set_init_1 ty0 ?_)) λr2 s2 o2=> ?_
   .obtain⟨ol,gl,cl,nl,dl⟩:=isl;obtain⟨aml,abN,amm,abO⟩:=ol;simp only at cl dl;subst cl;subst dl;have gl1:(s.heap.push (mU w)).get? li=I {cls:=.type "list",dict:=abN,data:=.seq xs nl,slots:=abO}:=cu _ gl;have ss1:=PySem.F.sub_list_set;have ss2:=PySem.F.sub_list_frozenset;have N7:(m_ "list"==m_ "dict")=ao:=by decide
    have N8:(s.heap.push (mU w)).IsList li xs:=⟨_,gl1,G,nl,G⟩;unfold Builtin.«set.__init__» noKeywords ana;generalize hPI:pyIter=PI
    wp_walk
    subst hPI;refine HW N8 (aA (wpAny_runValue ?_));have N9:li<s.heap.objs.size:=cH gl;have abP:A.in1.in1.in1.handled=ak:=by simp[calm]
    have N_:(s.heap.push (mU w)).objs.size=s.heap.objs.size+1:=iL _ _;have ne1:li≠(s.heap.push (mU w)).objs.size:=by rw[N_];exact d_ (qI N9)
    have nin:s.heap.objs.size∉ [(s.heap.push (mU w)).objs.size,li]:=by rw[N_];simp;exact uY N9
    have hv:∀(i:Nat)(v:aq),xs[i]? =I v->∃t,v= .int ((λi=>ns.getD i 0) i) t:=λi v q=>anb isn i v (by rw[m9];exact q);refine abI (b:=lS w) ((UG abP _ li ne1 xs).toS) s.heap.objs.size nin (λi=>ns.getD i 0) hv er (xs.size-0) 0 _ (by lia) (b6 _) ⟨⟨_,di _ G,G,G⟩,(N8.push _)⟩ ?first ?last
    case first=>exists mU w,#[],0,_,cu _ iR,⟨G,G,G⟩,G,abL
    case last=>
     intro s3 mv S3;obtain⟨h3,g3,Fu,FC,os3⟩:=s3;have abQ:g3=s.gens:=mv.gens;have ed:Fu=s.drawn:=mv.drawn;have oD:os3=s.os:=mv.os;subst abQ;subst ed;subst oD;show aJ _ _ _ _ _ _;refine aN ?_;show aJ _ _ (ret jR) _ _ _;refine aN ⟨G,h3,FC,G,S3,λc o hc e=> ?_⟩;refine mv.heap c o ?_ (cu _ (cu _ e));simp;exists d_ hc,d_ (qI hc)
   cases r2 with
   |error e=>exact o2
   |ok fl2=>
    cases fl2 with
    |ret r=>
     obtain⟨rfl,h3,FC,rfl,S3,k3⟩:=o2;repeat (any_goals (first|assumption|wp_step))
     exact fin _ _ S3 k3
    |_=>exact o2.elim
  |_=>exact hr.elim
def mV:Slot "set_iterator" "__next__" "set_iterator.__next__":=.of (owner:="set_iterator") (n:="__next__") (by rw[ale,alf];kernel_rfl) (by decide+kernel) (by decide+kernel) (by decide+kernel) (by first|exact .inl (by decide+kernel)|exact .inr (by decide+kernel)) (by rw[U9];kernel_rfl)
def zT:Va table "set_iterator.__next__"=I Builtin.«set_iterator.__next__» :=entryFor_of_tree (by kernel_rfl)
def abR:Va table "set.__iter__"=I Builtin.«frozenset.__iter__» :=entryFor_alias (id':="frozenset.__iter__") (by kernel_rfl) G (by decide+kernel) (by kernel_rfl)
def Oa:Manifest.owners.lookup (String.ofList ['r','o','t','a','r','e','t','i','_','t','e','s'].reverse)=I Manifest.sig_set_iterator:=by kernel_rfl
def zU a:vn "set_iterator.__next__" ⟨[a],[]⟩:=by unfold vn;rw[signature?_of (n:=['_','_','t','x','e','n','_','_']) (by kernel_rfl) Oa];kernel_rfl
def iS(h:bB)(it:af)(first:aq)(i:Nat)(a:af)(n ep:Nat):Prop:=∃o,h.get? it=I o/\o.cls= .type "set_iterator"/\o.data= .fields #[first,.int (i:Int) 0,.ref a,.int (n:Int) 0,.int (ep:Int) 0]
variable{it:af}{first:aq}{i:Nat}
def iS.ty(h:iS s.heap it first i a n ep):s.TypeIs (.ref it) "set_iterator":=by obtain⟨o,h1,h2,_⟩:=h;exists o,h1,h2
variable{slot:Nat}{x:aq}
def Ob{nx:Nat}{Q:aG aq->aI->Prop}(ab:iS s.heap it (.int (slot:Int) tk) i a n ep)(h1:s.heap.get? a=I ob)(h3:ob.data= .set es ep t)(fit:t.fits es.size=aa)(hn:es.size=n)
  (UV:∀A' E' Q',Q' (I (x,nx)) s->aJ (aL prog w) A' (IS a slot i ep) Q' E' s)
  (fin:∀h',iS h' it (.int (nx:Int) 0) (i+1) a n ep->o9 it s.heap h'->Q (I x) {s with heap:=h'}):aJ (aL prog w) A (lZ (.ref it)) Q E s:=by
 obtain⟨o,ho,hc,hd⟩:=id ab;refine aA (sQ (n_ ab.ty mV (i0 mV ab.ty zT ?_ (zU _))));refine aA (aN ?_);refine aA (yb ho hd ?_);refine aA (BE h1 h3 fit ?_);rw[au (by rw[hn];simp)];simp only[k_];refine aA (UV _ _ _ ?_);refine aA (pC ho hd (by simp) ?_);have q1:=oh (UN (·.setIfInBounds 0 (iY nx))) ho (yc (nh hd _));have d1:=nh hd (·.setIfInBounds 0 (iY nx));refine aA (pC q1 d1 (by simp) ?_);refine aN ⟨_,G,aN (fin _ ?_ ((ni ..).trans (ni ..)))⟩;exists _,oh _ q1 (yc (nh d1 _)),((Bp ..).trans (Bp ..)).trans hc;rw[nh d1];simp[iY]
def Oc{Q:aG aq->aI->Prop}(calm:A.handled=ak)(ab:iS s.heap it (.int (slot:Int) tk) i a n ep)(h1:s.heap.get? a=I ob)(h3:ob.data= .set es ep t)(fit:t.fits es.size=aa)(hn:es.size=n)
  (UV:∀A' E' Q',Q' ak s->aJ (aL prog w) A' (IS a slot i ep) Q' E' s)
  (fin:∀h',Ip it s.heap h'->Q ak {s with heap:=h'}):aJ (aL prog w) A (lZ (.ref it)) Q E s:=by
 obtain⟨o,ho,hc,hd⟩:=id ab;refine aA (sQ (n_ ab.ty mV (i0 mV ab.ty zT ?_ (zU _))));refine aA (aN ?_);refine aA (yb ho hd ?_);refine aA (BE h1 h3 fit ?_);rw[au (by rw[hn];simp)];simp only[k_];refine aA (UV _ _ _ ?_);refine aA (pC ho hd (by simp) ?_);refine aA ?_;simp only[Iq,Bq];refine aA (jv ?_ (by size_fits));refine aA (yd (by first|rfl|(simp only[Ir];rfl)) ?_);refine jv ?_ (by size_fits);simp only[Iu];refine aA (Iv ?_);rw[show A.in1.handled=ak from calm];refine aA (aN (Iw ?_));refine aA (Br ⟨_,di _ G,G⟩ Iz ?_);exact aN (fin _ (((ni ..).extBut.push _).push _))
def Od{Q:aG (aq×Nat)->aI->Prop}(cq:w.params.followText "set-order"=aa)(h1:s.heap.get? a=I ob)(h3:ob.data= .set es ep t)(fit:t.fits es.size=aa)
  (fin:Q (((ou (w.params.setOrder a ep) es)[i]?).map λe=>(e.2,slot)) s):aJ (aL prog w) A (IS a slot i ep) Q E s:=by
 refine aA (yq h1 h3 fit ?_);refine aA (aA (yr (aN ?_)));show aJ _ _ (if(w.params.followText "set-order")=aa then _ else _) _ _ s;rw[av cq,au (by simp)];refine aA ?_;refine aA (yq h1 h3 fit ?_);refine aA (aA (yr (aN ?_)));show aJ _ _ (if(w.params.followText "set-order")=aa then _ else _) _ _ s;rw[av cq];exact aA (yr (aN (aN fin)))
def Oe{Q:aG (aq×Nat)->aI->Prop}(cq:w.params.followText "set-order"=ao)(pl:(!t.plain&&decide (es.size>1))=ao)(ld:t.led=aa)(h1:s.heap.get? a=I ob)(h3:ob.data= .set es ep t)(fit:t.fits es.size=aa)
  (fin:Q (match es[jW t.place slot]?,t.place[jW t.place slot]? with|some (_,x),I j=>I (x,j+1)|_,_=>ak) s):aJ (aL prog w) A (IS a slot i ep) Q E s:=by
 refine aA (yq h1 h3 fit ?_);refine aA (aA (yr (aN ?_)));show aJ _ _ (if(w.params.followText "set-order")=aa then _ else _) _ _ s;rw[au (by rw[cq];decide)];show aJ _ _ (if(!t.plain&&decide (es.size>1))=aa then _ else _) _ _ s;rw[au (by rw[pl];decide)];show aJ _ _ ((if(!t.led&& !es.isEmpty)=aa then _ else _)>>=_) _ _ s;rw[au (by rw[ld];simp)];exact aA (aN (aN fin))
def abS{Of:Source}{Q:Nat->aI->Prop}(hn:n≠0)(fin:∀i d,i<n->Q i {s with drawn:=d}):aJ (aL prog w) A (choose Of n) Q E s:=λΓ p hΓ=>by show Sem.wp (aL prog w) Γ (.choose Of n .pure) _ _ p s;rw[Sem.wp_choose];exists hn;rw[Sem.wp_pure];exact fin _ _ (Nat.mod_lt _ (Nat.pos_of_ne_zero hn))
def abT{α:Type}{l:M α}{x:α}(h:l[i]? =I x):(x::l.eraseIdx i).Perm l:=by
 obtain⟨al,e⟩:=eL.mp h
 have e1:l=l.take i++x::l.drop (i+1):=by rw[<-e,<-pJ al,pI]
 rw[ak5]
 conv=>rhs;rw[e1]
 exact ak6.symm
theorem Og{α:Type}:∀n l s(Q:M α->aI->Prop),l.length=n->(∀r d,r.Perm l->Q r {s with drawn:=d})->aJ (aL prog w) A (drawOrder n l) Q E s
 |0,l,s,Q,hl,fin=>by have e:=IJ.mp hl;subst e;exact aN (fin [] s.drawn (alg _))|n+1,l,s,Q,hl,fin=>by
  cases l with
  |nil=>simp at hl
  |cons a r=>refine aA (abS (by simp) λi d hi=> ?_);have hg:=bg hi;rw[hg];simp only;exact aA (Og n _ _ _ (by rw[ak3 hi];lia) λq d' hq=>aN (fin _ d' ((List.Perm.cons _ hq).trans (abT hg))))
variable{tp:af}{ot:bA}{ad:Array aq}{m:Nat}
def abU{place:Nat}{hx:Int}{Q:aG aq->aI->Prop}(ab:iS s.heap it (.ref tp) i a n ep)(h1:s.heap.get? a=I ob)(h3:ob.data= .set es ep t)(fit:t.fits es.size=aa)(hn:es.size=n)
  (ht:s.heap.get? tp=I ot)(hd:ot.data= .seq ad m)(hp:ad[i]? =I (.int (place:Int) tk))(hxx:es[place]? =I (hx,x))
  (fin:∀h',iS h' it (.ref tp) (i+1) a n ep->o9 it s.heap h'->Q (I x) {s with heap:=h'}):aJ (aL prog w) A (lZ (.ref it)) Q E s:=by
 obtain⟨o,ho,hc,d6⟩:=id ab;refine aA (sQ (n_ ab.ty mV (i0 mV ab.ty zT ?_ (zU _))));refine aA (aN ?_);refine aA (yb ho d6 ?_);refine aA (BE h1 h3 fit ?_);rw[au (by rw[hn];simp)];refine aA (lz ht hd ?_);dsimp only;rw[show ad[((i:Int)).toNat]? =I (.int place tk) by rw[k_];exact hp];simp only[k_];refine aA ?_;refine aA (yq h1 h3 fit ?_);dsimp only;rw[au (by simp),hxx];refine aN ?_;refine aA (pC ho d6 (by simp) ?_);refine aN ⟨_,G,aN (fin _ ?_ (ni ..))⟩;exists _,oh _ ho (yc (nh d6 _)),(Bp ..).trans hc;rw[nh d6];simp[iY]
def abV{Q:aG aq->aI->Prop}(calm:A.handled=ak)(ab:iS s.heap it (.ref tp) i a n ep)(h1:s.heap.get? a=I ob)(h3:ob.data= .set es ep t)(fit:t.fits es.size=aa)(hn:es.size=n)
  (ht:s.heap.get? tp=I ot)(hd:ot.data= .seq ad m)(hp:ad[i]? =ak)
  (fin:∀h',Ip it s.heap h'->Q ak {s with heap:=h'}):aJ (aL prog w) A (lZ (.ref it)) Q E s:=by
 obtain⟨o,ho,hc,d6⟩:=id ab;refine aA (sQ (n_ ab.ty mV (i0 mV ab.ty zT ?_ (zU _))));refine aA (aN ?_);refine aA (yb ho d6 ?_);refine aA (BE h1 h3 fit ?_);rw[au (by rw[hn];simp)];refine aA (lz ht hd ?_);dsimp only;rw[show ad[((i:Int)).toNat]? =ak by rw[k_];exact hp];refine aA (pC ho d6 (by simp) ?_);refine aA (pC (oh (UN (·.setIfInBounds 0 (iY 0))) ho (yc (nh d6 _))) (nh d6 (·.setIfInBounds 0 (iY 0))) (by simp) ?_);refine aA ?_;simp only[Iq,Bq];refine aA (jv ?_ (by size_fits));refine aA (yd (by first|rfl|(simp only[Ir];rfl)) ?_);refine jv ?_ (by size_fits);simp only[Iu];refine aA (Iv ?_);rw[show A.in1.handled=ak from calm];refine aA (aN (Iw ?_));refine aA (Br ⟨_,di _ G,G⟩ Iz ?_);exact aN (fin _ ((((ni ..).trans (ni ..)).extBut.push _).push _))
noncomputable def rN(first:aq)(a:af)(n ep:Nat):bA:={cls:=.type "set_iterator",data:=.fields #[first,.int 0 0,.ref a,.int (n:Int) 0,.int (ep:Int) 0]}
noncomputable def wK(w:bR)(es:Array (Int×aq))(t:pL):Bool:= !w.params.followText "set-order"&&(!t.plain&&decide (es.size>1))
def abW{Q:Bool->aI->Prop}(h1:s.heap.get? a=I ob)(h3:ob.data= .set es ep t)(fit:t.fits es.size=aa)(fin:Q (wK w es t) s):aJ (aL prog w) A (setDrawn a) Q E s:=by refine aA (yq h1 h3 fit ?_);exact aA (aA (yr (aN (aN fin))))
def abX(h1:s.heap.get? a=I ob)(h2:ob.ExactSet)(h3:ob.data= .set es ep t)(fit:t.fits es.size=aa)(er:es.size<nt)
  (plain:wK w es t=ao->Q (.ref s.heap.objs.size) {s with heap:=s.heap.push (rN (.int 0 0) a es.size ep)})
  (drawn:wK w es t=aa->∀(r:M Nat)d,r.Perm (gR es.size)->Q (.ref (s.heap.objs.size+1)) {s with heap:=(s.heap.push {cls:=.type "tuple",data:=.seq (r.map λ(i:Nat)=>qC (i:Int) 0).toArray}).push (rN (.ref s.heap.objs.size) a es.size ep),drawn:=d}):
  aJ (aL prog w) A (pyIter (.ref a)) Q E s:=by
 have ty:s.TypeIs (.ref a) "set":=⟨ob,h1,h2.1⟩;refine Ik ty alh (i0 alh ty abR ?_ (PySem.F.args_set_iter_1 _));refine aA (aA (aN ?_));refine aN ?_;refine aA (aA (BE h1 h3 fit (aN ?_)));refine aA (abW h1 h3 fit ?_);cases c:wK w es t with
 |false=>simp only[sO,l6];refine aA (aN ?_);refine aA (ali h1 h3 fit ?_);refine aA (jv (aN ⟨_,G,"set_iterator",_,⟨_,di _ G,G⟩,mV.lookup,?_⟩));simpa[iY,rN]using plain c
 |true=>
  simp only[l5];refine aA ?_;refine Og _ _ _ _ (iz) λr d hr=> ?_;simp only[Bq];have hlen:r.length=es.size:=by rw[hr.length_eq,iz]
  refine aA (jv ?_ (by show _<=sizeLine;simp only[eX,aE];rw[hlen];exact BD er));refine aA (ali (cu _ h1) h3 fit ?_);refine aA (jv (aN ⟨_,G,"set_iterator",_,⟨_,di _ G,G⟩,mV.lookup,?_⟩));have:=drawn c r d hr;simpa[iY,rN,iL]using this
def Oh:Slot "set_iterator" "__iter__" "set_iterator.__iter__":=.of (owner:="set_iterator") (n:="__iter__") (by rw[ale,alf];kernel_rfl) (by decide+kernel) (by decide+kernel) (by decide+kernel) (by first|exact .inl (by decide+kernel)|exact .inr (by decide+kernel)) (by rw[U9];kernel_rfl)
def abY:Va table "set_iterator.__iter__"=I Builtin.«dict_keyiterator.__iter__» :=entryFor_alias (id':="dict_keyiterator.__iter__") (by kernel_rfl) G (by decide+kernel) (by kernel_rfl)
def abZ a:vn "set_iterator.__iter__" ⟨[a],[]⟩:=by unfold vn;rw[signature?_of (n:=['_','_','r','e','t','i','_','_']) (by kernel_rfl) Oa];kernel_rfl
def Ed(ab:iS s.heap it first i a n ep)(h:Q (.ref it) s):aJ (aL prog w) A (pyIter (.ref it)) Q E s:=by exact Ik ab.ty Oh (i0 Oh ab.ty abY (aN ⟨_,G,"set_iterator",_,ab.ty,mV.lookup,h⟩) (abZ _))
def iS.at_(x:iS h it first i a n ep)(e:∀o,h.get? it=I o->h'.get? it=I o):iS h' it first i a n ep:=by obtain⟨o,ho,r⟩:=x;exists o,e _ ho,r
theorem ab0(cq:w.params.followText "set-order"=aa)(ne:a≠it)(h3:ob.data= .set es ep t)(fit:t.fits es.size=aa)(calm:A.handled=ak):
  x_ prog w A it [it,a] [it] es.size (λi v=>(((ou (w.params.setOrder a ep) es).toList.map (·.2))[i]? =I v)) (λi h=>iS h it (.int 0 0) i a es.size ep/\h.get? a=I ob)where
 sub:=λc hc=>by simp at hc⊢;exact .inl hc
 frame:=λi h h' st k=>⟨st.1.at_ λo e=>k it (by simp) o e,k a (by simp) _ st.2⟩
 item:=λi s Q E hi st fin=>by have pl:=(Eb (w.params.setOrder a ep) es).length_eq;rw[fk,fk]at pl;have hg:(ou (w.params.setOrder a ep) es)[i]? =I ((ou (w.params.setOrder a ep) es)[i]'(by lia)):=i6 (by lia);refine Ob st.1 st.2 h3 fit G (λA' E' Q' q=>Od cq st.2 h3 fit (by rw[hg];exact q)) λh' I' sb=> ?_;refine fin _ h' s.toks ?_ ⟨I',(sb.2 a ne).trans st.2⟩ λc o hc e=>(sb.2 c (by simpa using hc)).trans e;rw[bF,m9,hg];rfl
 done:=λs Q E st fin=>by have pl:=(Eb (w.params.setOrder a ep) es).length_eq;rw[fk,fk]at pl;have hg:(ou (w.params.setOrder a ep) es)[es.size]? =ak:=vf (by lia);exact Oc calm st.1 st.2 h3 fit G (λA' E' Q' q=>Od cq st.2 h3 fit (by rw[hg];exact q)) λh' eb=>fin h' s.toks λc o hc e=>eb c o (by simpa using hc) e
 self:=λi s Q E st q=>Ed st.1 q
def slotAt(t:pL)(i:Nat):Nat:=if i=0 then 0 else t.place.getD (i-1) 0+1
theorem Oi(h:ji t.place)(hi:i<=t.place.size):jW t.place (slotAt t i)=i:=by
 unfold slotAt;by_cases e:i=0
 .rw[av e,e];exact abv h
 rw[au e]
 have hg:t.place[i-1]? =I (t.place.getD (i-1) 0):=by rw[U4,i6 (by lia)];rfl
 rw[abw h hg];lia
theorem ab1(cq:w.params.followText "set-order"=ao)(ne:a≠it)(h3:ob.data= .set es ep t)(fit:t.fits es.size=aa)(pl:(!t.plain&&decide (es.size>1))=ao)(tok:jj aa t)(calm:A.handled=ak):
  x_ prog w A it [it,a] [it] es.size (λi v=>((es.toList.map (·.2))[i]? =I v)) (λi h=>iS h it (.int (slotAt t i:Nat) 0) i a es.size ep/\h.get? a=I ob)where
 sub:=λc hc=>by simp at hc⊢;exact .inl hc
 frame:=λi h h' st k=>⟨st.1.at_ λo e=>k it (by simp) o e,k a (by simp) _ st.2⟩
 item:=λi s Q E hi st fin=>by
  have psz:t.place.size=es.size:=by unfold alj at fit;rw[cU]at fit;simpa using fit.1
  have hg:=i6 hi;have hp:t.place[i]? =I (t.place[i]'(by lia)):=i6 (by lia);have hb:=Oi tok.zR (show i<=t.place.size by lia)
  have hs:slotAt t (i+1)=t.place[i]'(by lia)+1:=by unfold slotAt;rw[au (by lia),Nat.add_sub_cancel,U4,hp];rfl
  refine Ob (nx:=slotAt t (i+1)) st.1 st.2 h3 fit G (λA' E' Q' q=>Oe cq pl tok.led st.2 h3 fit (by rw[hb,hg,hp];rw[hs]at q;exact q)) λh' I' sb=> ?_;refine fin _ h' s.toks ?_ ⟨I',(sb.2 a ne).trans st.2⟩ λc o hc e=>(sb.2 c (by simpa using hc)).trans e;rw[bF,m9,hg];rfl
 done:=λs Q E st fin=>by
  have psz:t.place.size=es.size:=by unfold alj at fit;rw[cU]at fit;simpa using fit.1
  have hg:es[es.size]? =ak:=vf (aZ _);exact Oc (slot:=slotAt t es.size) calm st.1 st.2 h3 fit G (λA' E' Q' q=>Oe cq pl tok.led st.2 h3 fit (by rw[Oi tok.zR (show es.size<=t.place.size by lia),hg];exact q)) λh' eb=>fin h' s.toks λc o hc e=>eb c o (by simpa using hc) e
 self:=λi s Q E st q=>Ed st.1 q
theorem Ef{α β:Type}{g:α->aG β}d:∀l:M α,(∀a∈l,(g a).isSome=aa)->l.filterMap g=l.map λa=>(g a).getD d
 |[],_=>rfl|a::l,h=>by
  have h1:=h a bW;rw[n5,b9,Ef d l λx hx=>h x (bZ _ hx)];cases e:g a with
  |none=>rw[e]at h1;cases h1
  |some b=>rfl
theorem ab2(ne:a≠it)(ne2:tp≠it)(h3:ob.data= .set es ep t)(fit:t.fits es.size=aa){r:M Nat}(hr:r.Perm (gR es.size))(hd:ot.data= .seq (r.map λ(i:Nat)=>qC (i:Int) 0).toArray m)(calm:A.handled=ak):
  x_ prog w A it [it,a,tp] [it] es.size (λi v=>((r.filterMap λp=>es[p]?.map (·.2))[i]? =I v)) (λi h=>iS h it (.ref tp) i a es.size ep/\h.get? a=I ob/\h.get? tp=I ot)where
 sub:=λc hc=>by simp at hc⊢;exact .inl hc
 frame:=λi h h' st k=>⟨st.1.at_ λo e=>k it (by simp) o e,k a (by simp) _ st.2.1,k tp (by simp) _ st.2.2⟩
 item:=λi s Q E hi st fin=>by
  have rl:r.length=es.size:=by rw[hr.length_eq,iz]
  have Oj:∀p∈r,p<es.size:=λp hp=>by simpa using hr.mem_iff.mp hp
  have U2:r[i]? =I (r[i]'(by lia)):=bg (by lia);have ag:=Oj _ (bN U2);have hg:=i6 ag
  have hv:(r.filterMap λp=>es[p]?.map (·.2))[i]? =I (es[r[i]'(by lia)]).2:=by
   have e:(r.filterMap λp=>es[p]?.map (·.2))=r.map λp=>((es[p]?.map (·.2)).getD .none):=by exact Ef jR r λp hp=>by simp only[i6 (Oj p hp)];rfl
   rw[e,bF,U2,gh,hg];rfl
  refine abU (tk:=0) st.1 st.2.1 h3 fit G st.2.2 hd ?_ hg λh' I' sb=> ?_
  .rw[Vb,bF,U2];rfl
  exact fin _ h' s.toks hv ⟨I',(sb.2 a ne).trans st.2.1,(sb.2 tp ne2).trans st.2.2⟩ λc o hc e=>(sb.2 c (by simpa using hc)).trans e
 done:=λs Q E st fin=>by
  have rl:r.length=es.size:=by rw[hr.length_eq,iz]
  refine abV calm st.1 st.2.1 h3 fit G st.2.2 hd ?_ λh' eb=>fin h' s.toks λc o hc e=>eb c o (by simpa using hc) e;rw[Vb];exact n9 (by rw[aE,rl];exact aZ _)
 self:=λi s Q E st q=>Ed st.1 q
structure Run(prog:bY)(w:bR)(A:eZ)(a it:af)(h:bB)(k:Nat)(vs:M aq):Prop where
 ex:∃fp St,x_ prog w A it fp [it] vs.length (λi v=>vs[i]? =I v) St/\St 0 h/\∀b∈fp,b=a\/k<=b
theorem ab3(calm:A.handled=ak)(h1:s.heap.get? a=I ob)(h2:ob.ExactSet)(h3:ob.data= .set es ep t)(fit:t.fits es.size=aa)(er:es.size<nt)(tok:jj (lS w) t)
  (fin:∀it vs h' d,vs.Perm (es.toList.map (·.2))->s.heap.objs.size<=it->Run prog w A a it h' s.heap.objs.size vs->(∀b o,s.heap.get? b=I o->h'.get? b=I o)->Q (.ref it) {s with heap:=h',drawn:=d}):
  aJ (aL prog w) A (pyIter (.ref a)) Q E s:=by
 have lt:=cH h1;refine abX h1 h2 h3 fit er (λc=> ?_) λc r d hr=> ?_
 .have wL:(s.heap.push (rN (.int 0 0) a es.size ep)).get? a=I ob:=cu _ h1;have FK:iS (s.heap.push (rN (.int 0 0) a es.size ep)) s.heap.objs.size (.int 0 0) 0 a es.size ep:=⟨_,di _ G,G,G⟩;cases cq:w.params.followText "set-order"with
  |true=>
   have sv:(((ou (w.params.setOrder a ep) es).toList.map (·.2))).Perm (es.toList.map (·.2)):=(Eb _ es).map _;have W:=ab0 (prog:=prog) cq (d_ lt) h3 fit calm;rw[<-show((ou (w.params.setOrder a ep) es).toList.map (·.2)).length=es.size by rw[sv.length_eq,aE,fk]]at W;refine fin _ ((ou (w.params.setOrder a ep) es).toList.map (·.2)) _ s.drawn sv (aZ _) ⟨_,_,W,?_,?_⟩ λb o e=>cu _ e
   .rw[show((ou (w.params.setOrder a ep) es).toList.map (·.2)).length=es.size by rw[sv.length_eq,aE,fk]];exists FK,wL
   intro b hb;simp at hb;obtain e|e:=hb
   .exact .inr (by rw[e];exact aZ _)
   exact .inl e
  |false=>
   have pl:(!t.plain&&decide (es.size>1))=ao:=by unfold wK at c;rw[cq]at c;simpa using c
   have tk:jj aa t:=by
    have:lS w=aa:=by unfold lS;rw[cq];rfl
    rw[this]at tok;exact tok
   have W:=ab1 (prog:=prog) (A:=A) cq (d_ lt) h3 fit pl tk calm;have el:(es.toList.map (·.2)).length=es.size:=by rw[aE,fk]
   rw[<-el]at W;refine fin _ (es.toList.map (·.2)) _ s.drawn (alg _) (aZ _) ⟨_,_,W,?_,?_⟩ λb o e=>cu _ e
   .rw[el];exists FK,wL
   intro b hb;simp at hb;obtain e|e:=hb
   .exact .inr (by rw[e];exact aZ _)
   exact .inl e
 generalize sw:({cls:=.type "tuple",data:=.seq (r.map λ(i:Nat)=>qC (i:Int) 0).toArray}:bA)=ot;have dot:ot.data= .seq (r.map λ(i:Nat)=>qC (i:Int) 0).toArray 0:=by rw[<-sw]
 have ab4:(s.heap.push ot).objs.size=s.heap.objs.size+1:=iL _ _;have iR:(s.heap.push ot).get? s.heap.objs.size=I ot:=di _ (by rw[<-sw];rfl);have FK:iS ((s.heap.push ot).push (rN (.ref s.heap.objs.size) a es.size ep)) (s.heap.objs.size+1) (.ref s.heap.objs.size) 0 a es.size ep:=⟨_,by rw[<-ab4];exact di _ G,G,G⟩;have rl:r.length=es.size:=by rw[hr.length_eq,iz]
 have sv:(r.filterMap λp=>es[p]?.map (·.2)).Perm (es.toList.map (·.2)):=by
  refine(hr.filterMap _).trans ?_;rw[show((gR es.size).filterMap λp=>es[p]?.map (·.2))=es.toList.map (·.2) from ?_];refine Bx λi=> ?_
  rw[Ef (g:=λp:Nat=>es[p]?.map (·.2)) jR (gR es.size) λp hp=>by simp only[i6 (show p<es.size by simpa using hp)];rfl]
  rw[bF,bF,m9 (xs:=es)];by_cases hi:i<es.size
  .rw[qP hi,i6 hi];simp only[gh,i6 hi];rfl
  rw[vf (by lia),n9 (by rw[iz];lia)];rfl
 have el:(r.filterMap λp=>es[p]?.map (·.2)).length=es.size:=by rw[sv.length_eq,aE,fk]
 have W:=ab2 (prog:=prog) (w:=w) (A:=A) (it:=s.heap.objs.size+1) (tp:=s.heap.objs.size) (d_ (qI lt)) (d_ (A6 _)) h3 fit hr dot calm;rw[<-el]at W;refine fin _ (r.filterMap λp=>es[p]?.map (·.2)) _ d sv (u7 _) ⟨_,_,W,?_,?_⟩ λb o e=>cu _ (cu _ e)
 .rw[el];exists FK,cu _ (cu _ h1),cu _ iR
 intro b hb;simp at hb;obtain e|e|e:=hb
 .exact .inr (by rw[e];exact u7 _)
 .exact .inl e
 exact .inr (by rw[e];exact aZ _)
def ab5{Q:Bool->aI->Prop}(ty:s.TypeIs (.ref a) "set")(h:Q ao s):aJ (aL prog w) A (anc (.ref a)) Q E s:=by
 refine aA (aki ty PySem.F.slot_set_len.lookup ?_);generalize eP:("set.__len__":String)=id0
 wp_delta
 rw[show splitId id0=I ("set","__len__") from by subst eP;decide+kernel];subst eP;refine aA (Br (b:=aa) ty (by rw[U9];kernel_rfl) ?_);refine Vc (λbad=>aU bad (by decide)) (λ_=> ?_);exact Vc (λ_=>aA (Vd ty (aN h))) (λbad=>aU (by decide+kernel) bad)
def ab6(h:A.handled=ak):A.in1.handled=ak:=h
theorem ab7(calm:A.handled=ak)(h1:s.heap.get? a=I ob)(h2:ob.ExactSet)(h3:ob.data= .set es ep t)(fit:t.fits es.size=aa)(er:es.size<nt)(tok:jj (lS w) t)
  S(oV:S≠a)df c₀(hS:s.heap.get? S=I {cls:=.type "list",data:=.seq #[] c₀})
  (hR:∀h' tk d(acc:Array aq)c',acc.toList.Perm (es.toList.map (·.2))->(∀b o,b≠S->s.heap.get? b=I o->h'.get? b=I o)->h'.get? S=I {cls:=.type "list",dict:=ak,data:=.seq acc c',slots:= #[]}->R (.ok (.ret df)) {s with heap:=h',toks:=tk,drawn:=d}):
  aJ (aL prog w) A.in1 (ane (.ref S) (.ref a) df)
   (λfin s'=>match fin with| .done f=>R (.ok f) s'| .again c'=>c'.quiet=aa/\l0 (aL prog w) A c' R s') (λe s'=>R (.error e) s') s:=by
 have ty:s.TypeIs (.ref a) "set":=⟨ob,h1,h2.1⟩;refine aA (Vd ty ?_);have n1:alk (.ref S) (.ref a)=ao:=by simp[alk,oV]
 have n2:(m_ "set"==m_ "list")=ao:=by decide
 have n3:(m_ "set"==m_ "tuple")=ao:=by decide
 simp only[n1,n2,n3,UA,sO,l6];refine aA (ab3 (ab6 calm) h1 h2 h3 fit er tok λit vs h' d pm le run kept=> ?_);obtain⟨fp,St,W,st,hf⟩:=run;have hS₁:=kept _ _ hS
 have Ol:S∉fp:=λm=>by
  obtain e|e:=hf S m
  .exact oV e
  exact aU (cH hS) (Nat.not_lt.mpr e)
 have vl:vs.length<=sizeLine:=by rw[pm.length_eq,aE,fk];exact BD er
 have key:∀(hh:bB)(c₁ tk:Nat),St 0 hh->(∀b o,b≠S->s.heap.get? b=I o->hh.get? b=I o)->
   hh.get? S=I {cls:=.type "list",data:=.seq #[] c₁}->l0 (aL prog w) A (.builtin "list.extend.loop" ⟨[.ref S,.ref it,df],[]⟩) R {s with heap:=hh,toks:=tk,drawn:=d}:=by
  intro hh c₁ tk bi hk hS₁;refine codeAny_extend_loopS W.toS vl S Ol df vs.length 0 _ #[] c₁ G (b6 _) bi hS₁ (ItemsOf.nil _) λs' c6 c' hm o3 wS=> ?_;rw[Moved.eq_with hm]
  have ea:c6.toList=vs:=by
   refine Bx λi=> ?_;rw[m9];by_cases hi:i<c6.size
   .rw[i6 hi];exact(wS.2 i _ (i6 hi)).symm
   rw[vf (by lia),n9 (by rw[<-wS.1];lia)]
  refine hR s'.heap s'.toks d c6 c' (by rw[ea];exact pm) (λb o hb e=>hm.heap b o (λa7=> ?_) (hk b o hb e)) o3;obtain e'|a7:=bh.mp a7
  .exact hb e'
  exact aU (cH e) (by rw[nu.mp a7];exact Nat.not_lt.mpr le)
 refine aA (pD (ab5 ⟨ob,kept _ _ h1,h2.1⟩ ?_));refine Vc (λ_=> ?_) (λ_=>aN ⟨qT alm _,key _ c₀ _ st (λb o _ e=>kept _ _ e) hS₁⟩);refine aA (sX ?_);refine aA ?_;refine aA (yt hS₁ G ?_);have hS₂:=oh (Bb (·.push jR)) hS₁ G;refine yt hS₂ G ?_;refine aN ⟨qT alm _,key _ _ _ ?_ (λb o hb e=> ?_) (oh (Bb (·.pop)) hS₂ G)⟩
 .refine W.frame 0 _ _ st λb hb o e=> ?_;have nb:b≠S:=λh=>Ol (h▸hb);exact(pq _ _ (ie nb)).trans ((pq _ _ (ie nb)).trans e)
 exact(pq _ _ (ie hb)).trans ((pq _ _ (ie hb)).trans (kept _ _ e))
def ab8{R:M aq->aI->Prop}(calm:A.handled=ak)(h1:s.heap.get? a=I ob)(h2:ob.ExactSet)(h3:ob.data= .set es ep t)(fit:t.fits es.size=aa)(er:es.size<nt)(tok:jj (lS w) t)
  (h:∀h' tk d(vs:M aq),vs.Perm (es.toList.map (·.2))->(∀b o,s.heap.get? b=I o->h'.get? b=I o)->R vs {s with heap:=h',toks:=tk,drawn:=d}):
  aJ (aL prog w) A (collect (.ref a)) R E s:=by
 refine aA (wpAny_runValue (sZ PySem.F.entry_proto_collect ?_));rw[vm PySem.F.plain_proto_collect _];refine aA (jv ?_);refine aN ⟨qT aln _,sZ PySem.F.entry_list_iadd ?_⟩;rw[vm aln _];have hS₁:(s.heap.push {cls:=.type "list",data:=.seq ([]:M aq).toArray}).get? s.heap.objs.size=I {cls:=.type "list",data:=.seq #[]}:=di _ G
 have key:=ab7 (prog:=prog) (s:={s with heap:=s.heap.push {cls:=.type "list",data:=.seq ([]:M aq).toArray}})
  (R:=λ(q:u0)(s':aI)=>∃(h':bB)(tk:Nat)(d:Drawn)(c6:Array aq)(c':Nat),q= .ok (.ret (.ref s.heap.objs.size))/\s'={s with heap:=h',toks:=tk,drawn:=d}/\c6.toList.Perm (es.toList.map (·.2))/\(∀b o,s.heap.get? b=I o->h'.get? b=I o)/\h'.get? s.heap.objs.size=I {cls:=.type "list",dict:=ak,data:=.seq c6 c',slots:= #[]})
  calm (cu _ h1) h2 h3 fit er tok s.heap.objs.size (uY (cH h1)) (.ref s.heap.objs.size) 0 hS₁
  (λh' tk d c6 c' pm hk o3=>⟨h',tk,d,c6,c',G,G,pm,λb o e=>hk b o (d_ (cH e)) (cu _ e),o3⟩)
 refine k7 key (λfin s' x=> ?_) λe s' x=> ?_
 .cases fin with
  |done f=>obtain⟨h',tk,d,c6,c',e,rfl,pm,hk,o3⟩:=x;cases e;exact aA (Uo o3 (aN (h h' tk d c6.toList pm hk)))
  |again c₁=>refine⟨x.1,u6 x.2 λq s₂ y=> ?_⟩;obtain⟨h',tk,d,c6,c',rfl,rfl,pm,hk,o3⟩:=y;exact aA (Uo o3 (aN (h h' tk d c6.toList pm hk)))
 obtain⟨_,_,_,_,_,e',_⟩:=x;cases e'
theorem Om{α:Type} [DecidableEq α]:∀{D ks:M α},D.Nodup->(∀x∈D,x∈ks)->ks.length=D.length->ks.Perm D
 |[],ks,_,_,h=>by
  cases ks with
  |nil=>exact .nil
  |cons a l=>simp at h
 |d::D,ks,nd,sub,h=>by
  have hd:=sub d bW;refine(List.perm_cons_erase hd).trans (.cons d (Om (k8.mp nd).2 (λx hx=> ?_) ?_))
  .have ne:x≠d:=λe=>(k8.mp nd).1 (e▸hx);exact(alo ne).mpr (sub x (bZ _ hx))
  rw[Ve hd,h];simp
def ab9{x:Int}:x∈nL D k↔x∈D\/x=k:=by
 unfold nL;split
 .rename_i h;exists λz=>.inl z,λz=>z.elim id λe=>e▸h
 simp
def ab_(h:D.Nodup):(nL D k).Nodup:=by
 unfold nL;split
 .exact h
 rename_i hk;rw[ID];exact⟨h,by simp,λa ha b hb e=>hk (by simp at hb;rw[<-hb,<-e];exact ha)⟩
theorem Oo val:∀i,(j6 val i).Nodup|0=>by unfold j6;simp|i+1=>by rw[zS];exact ab_ (Oo val i)
theorem Oq val x:∀i,x∈j6 val i↔∃j,j<i/\val j=x
 |0=>by unfold j6;simp|i+1=>by
  rw[zS,ab9,Oq val x i];constructor
  .rintro(⟨j,hj,e⟩|e)
   .exists j,qI hj,e
   exists i,A6 _,e.symm
  rintro⟨j,hj,e⟩;obtain z|z:=Nat.lt_succ_iff_lt_or_eq.mp hj
  .exact .inl ⟨j,z,e⟩
  exact .inr (z▸e.symm)
def mW(ns:M Int):M Int:=j6 (λi=>ns.getD i 0) ns.length
def Eg ns x:x∈mW ns↔x∈ns:=by
 unfold mW;rw[Oq];constructor
 .rintro⟨j,hj,e⟩;rw[l9,bg hj]at e;exact e▸sY hj
 intro h;obtain⟨j,hj,e⟩:=Vf.mp h;exact⟨j,hj,by rw[l9,bg hj];exact e⟩
def Eh ns:(mW ns).Nodup:=Oo _ _
def acd ns:(mW ns).length<=ns.length:=Ec _ _
theorem Ot{prog:bY}{w:bR}:∀{vs:M aq},(∀v∈vs,∃k,(PySem.intKind prog w).is k v=aa)->∃ks,IntsAre vs ks|[],_=>⟨[],aka⟩|v::vs,h=>by obtain⟨ks,r⟩:=Ot λu hu=>h u (bZ _ hu);obtain⟨k,hk⟩:=h v bW;obtain⟨t,rfl⟩:=Ud hk;exists k::ks,akb k t r
variable{vs:M aq}
def IntsAre.mem{ks:M Int}(r:IntsAre vs ks):∀{k t},qC k t∈vs->k∈ks:=by
 induction r with
 |nil=>intro k t h;cases h
 |cons n t' r ih=>
  intro k t h;obtain e|h:=bh.mp h
  .cases e;exact bW
  exact bZ _ (ih h)
def Good.vals(g:Good prog w b es t D)(nd:D.Nodup)(p:vs.Perm (es.toList.map (·.2))):∃ks,IntsAre vs ks/\ks.Perm D:=by
 obtain⟨ks,r⟩:=Ot λv hv=>by obtain⟨e,he,rfl⟩:=b7.mp (p.mem_iff.mp hv);obtain⟨⟨k,hk,_⟩,_⟩:=g.el e he;exists k,hk
 exists ks,r,Om nd (λk hk=> ?_) ?_
 .obtain⟨e,he,hk⟩:=(g.mem k).mp hk;obtain⟨u,hu⟩:=Ud hk;have hm:=p.mem_iff.mpr (b7.mpr ⟨e,he,hu⟩);exact IntsAre.mem r hm
 rw[<-r.length,p.length_eq,aE,<-g.num];exact fk
end f_
namespace Sp
open PySem PySem.Spec PyProof.Rows L2 Sg
variable{X:Cx}{pins:M (af×bA)}{H:Hp}{s:aI}
def Inv.ace{σ:M (aG V)}{d:Drawn}(ab:Inv X pins σ H s):Inv X pins σ H {s with drawn:=d}:=⟨ab.ok,ab.os,ab.bare,ab.ai,ab.loc,ab.cell,ab.free,ab.je,ab.pin,ab.aQ,ab.len⟩
def uo(P:bY)(w:bR)(a:af)(D:M Int):HO:=.ext λh=>f_.kO P w (f_.lS w) h a D
inductive acf(X:Cx)vs H(Q:VK):Prop|mk a ns(_:vs=[V.ref a])(_:az X.K H a (ns.map V.int))(_:ns.length+1<nt)(_:∀p:af,H p=ak->Q (.ref p) (upd H p (uo X.prog X.w p (f_.mW ns))))
def Ou(hc:X.calm=aa):gZ X (.type "set") (acf X):=by
 intro pins s σ H vs us Q ab r h;obtain⟨a,ns,rfl,hs,er,q⟩:=h;obtain⟨ad,rv,hl,hz⟩:=ab.list hs;rw[Vals.nI r];have hi:=rv.ints;have ba:ad.toArray.size=ns.length:=by rw[eX,<-hi.length]
 refine f_.abM (ab.ok.hd hc) hl.isList hi (by rw[ba];exact er) λh' tk S k=> ?_;have k':∀b u,s.heap.get? b=I u->h'.get? b=I u:=λb u e=>k b u (cH e) e;rw[ba]at S;exists .ref _,upd H s.heap.objs.size (uo X.prog X.w s.heap.objs.size (f_.mW ns)),ab.laid (t':=tk) k' (aZ _) ⟨S,?_,λh1 h2 z kk=>f_.kO.keep z kk⟩,G,q _ (ab.aQ.fresh (aZ _));obtain⟨ob,_,_,_,e,_⟩:=S;exists ob,e
inductive acg(X:Cx)vs H(Q:VK):Prop|mk(a:af)(D:M Int)(_:vs=[V.ref a])(_:H a=I (uo X.prog X.w a D))(_:D.Nodup)(_:∀(a2:M Int)(p:af),a2.Perm D->a2.Pairwise (· <= ·)->H p=ak->Q (.ref p) (upd H p (.lst (a2.map V.int))))
def ach(hc:X.calm=aa):gZ X (.builtin "sorted") (acg X):=by
 intro pins s σ H vs us Q ab r h;obtain⟨a,D,rfl,hd,nd,q⟩:=h;rw[Vals.nI r];obtain⟨⟨ob,es,ep,t,h1,h2,h3,g⟩,_⟩:=ab.aQ a _ hd;refine U0 kind_sorted plain_sorted entry_sorted (args_sorted1 _) ?_;refine aA (aN ?_);refine aA (f_.ab8 (ab.ok.hd hc) h1 h2 h3 g.fit g.er g.tok λh' tk d vs pm Ts=> ?_);obtain⟨ks,hi,pk⟩:=g.vals nd pm;have hl:vs.length=D.length:=by rw[hi.length,pk.length_eq]
 have hJ:vs.length<=sizeLine:=by rw[hl,<-g.num];exact BD g.er
 refine aA (wpAny_newList ?_ hJ);have hU:(h'.push {cls:=.type "list",data:=.seq vs.toArray}).get? h'.objs.size=I (seqObj "list" vs.toArray 0):=di _ G
 refine aA (pD (i0 akP ⟨_,hU,G⟩ akQ (akR hU hi hJ λout a2 h1 h2 h3=>⟨.none,G,?_⟩) (akS _)));obtain⟨en,wE⟩:=akT hU;have Tx:(a2.map V.int).length<=sizeLine:=by rw[aE,h2.length_eq,pk.length_eq,<-hl];exact hJ
 have I1:Inv X pins σ H {s with heap:=h',toks:=tk,drawn:=d}:=Inv.ace (ab.kept (t':=tk) Ts);refine aN ⟨_,G,.ref _,upd H h'.objs.size (.lst (a2.map V.int)),I1.laid (t':=tk) (λb u e=> ?_) (aZ _) ⟨Tx,out.toList,en,zd h1,wE⟩,G,q a2 _ (h2.trans pk) h3 (I1.aQ.fresh (aZ _))⟩;have al:=cH e;rw[akU (d_ al) (by rw[size_push'];exact qI al)];exact cu _ e
inductive aci(X:Cx)vs H(Q:VK):Prop|mk a D(_:vs=[V.ref a])(_:H a=I (uo X.prog X.w a D))(_:Q (.int D.length) H)
theorem acj:gZ X (.builtin "len") (aci X):=by intro pins s σ H vs us Q ab r h;obtain⟨a,D,rfl,hd,q⟩:=h;rw[Vals.nI r];obtain⟨⟨ob,es,ep,t,h1,h2,h3,g⟩,_⟩:=ab.aQ a _ hd;have:=g.er;have b:nt=4096:=rfl;refine call_len_set h1 h2 h3 g.fit (by lia) ?_;have I1:Inv X pins σ H {s with heap:=s.heap,toks:=s.toks+1+1}:=ab.kept λ_ _ e=>e;exists .int D.length,H,I1,⟨s.toks+1,by rw[g.num]⟩,q
def boot_set:jt "set"=I (.type "set"):=by decide+kernel
def lT(ss:M AS):M Nat:=(ss.filter λx=>x.2.cleared.isSome).map λx=>x.2.cleared.getD 0
def Ov ss t:t∈lT ss↔∃y∈ss,y.2.cleared=I t:=by
 unfold lT;rw[b7];constructor
 .rintro⟨y,hy,e⟩;obtain⟨h1,h2⟩:=eY.mp hy;cases c:y.2.cleared with
  |none=>rw[c]at h2;cases h2
  |some u=>rw[c]at e;exact⟨y,h1,by rw[c];exact cC I e⟩
 rintro⟨y,hy,e⟩;exact⟨y,eY.mpr ⟨hy,by rw[e];rfl⟩,by rw[e];rfl⟩
variable{i:Nat}{D:mH}{σ:L2.St}
def Ow{t:TE}{u:TS}(h:t σ H λx H1=>u D (σ.set i (I x)) H1):jY (kK t (jC i)) u D σ H:=h
variable{P:bY}{w:bR}{K:aR}{mg:aj->aG aq}{ai:bB}{f:af}{fd:gC}
theorem ack{S:af}(F:bf K "turns_of" (top 68) f fd)(N:qe K S)(B:dR mg):aM P w K mg ai aO 3 f fd ["spans","begins"] (D6 K S):=by
 refine F.aX ["spans","begins","left","cleared","span"] (λbn H vs Q E hr h=> ?_);obtain⟨l,b,ss,bs,rfl,hL,T,hB,bt,k⟩:=h;have ew:=T.len
 exists _,aC (rG (i:=2) G bn G G G (cV (pv 0)) (own:=[("span",4)]) (dY ["spans","begins","left","cleared","span"] (cz (top 68))) (by intro _ _ _ _ _;exact cE 4 bn) (by intro _ _ _ _ _;exact iP) (by intro _ _ _ _ _;exact gv G (pv 4) G)) (aC (rG (i:=3) G bn G G G (cV (pv 0)) (own:=[("span",4)]) (dY ["spans","begins","left","cleared","span"] (cz (top 68))) (by intro _ _ _ _ _;exact cE 4 bn) (by intro _ _ _ _ _;exact j3 (bL Xi (gv (K:=K) G (pv 4) G) pS)) (by intro _ _ _ _ _;exact gv (K:=K) G (pv 4) G)) (aH (bJ (ach G) (by rfl) B.sorted boot_sorted (aB (tV (Ou G) (by rfl) B.set boot_set (aB (bP f6 (bP f6 (pv 2) (pv 3)) (pv 1))))))));refine Ow ?_;refine kN ss (λx=>V.ref x.1) (λ_=>aa) (λx=>V.int (x.2.left:Nat)) (λR h=>⟨_,G,h⟩) (by lia) hL (λx U Kt Kf ha s1 ht hf=> ?_) λH1 FM s1 hD1 Wp=> ?_
 .obtain⟨dx,hA⟩:=(T.at_ x ha).same s1;exists G,bK (B:=Kf U) ?_;exists _,G,x.1,S,dx,_,_,G,hA,N.cl,N.begin,G,ht U (ah.refl _) G
 refine Ow ?_;refine kN ss (λx=>V.ref x.1) (λx=>x.2.cleared.isSome) (λx=>V.int ((x.2.cleared.getD 0:Nat):Int)) (λR h=>⟨_,G,h⟩) (by lia) (s1.seq hL) (λx U Kt Kf ha s2 ht hf=> ?_) λH2 D2 s2 hD2 hE=> ?_
 .obtain⟨dx,hA⟩:=(T.at_ x ha).same (s1.trans s2);exists G,_,G,x.1,S,dx,_,_,G,hA,N.cl,N.cleared,G,G,_,G;cases e:x.2.cleared with|none=>rw[e]at hf;exact bX (hf U (ah.refl _) G)|some c=>rw[e]at ht;refine bK ⟨_,G,x.1,S,dx,_,_,G,hA,N.cl,N.cleared,G,?_⟩;rw[e];exact ht U (ah.refl _) G
 have e1:H1 FM=I (.lst (aK (ss.map λx=>x.2.left))):=by rw[Wp,mq.mpr (λ_ _=>G)];unfold aK;rw[bQ];rfl
 have e2:H2 D2=I (.lst (aK (lT ss))):=by rw[hE];unfold aK lT;rw[bQ];rfl
 have l1:(ss.map λx=>x.2.left).length<=1000:=by rw[aE];exact ew
 have l2:(lT ss).length<=1000:=by unfold lT;rw[aE];exact cX (gV _ _) ew
 have sz:=cY;refine⟨_,G,_,G,FM,D2,_,_,G,G,s2 _ _ e1,e2,by rw[fT,fT];lia,λp hp=> ?_⟩;have s3:=ah.new (o:=.lst (aK (ss.map λx=>x.2.left)++aK (lT ss))) hp;refine⟨_,G,p,b,_,_,G,G,ay,s3 _ _ (s2 _ _ (s1 _ _ hB)),by rw[bD,fT,fT,fT];lia,λp2 kz=> ?_⟩;have s4:=ah.new (o:=.lst (aK (ss.map λx=>x.2.left)++aK (lT ss)++aK bs)) kz
 have e3:(aK (ss.map λx=>x.2.left)++aK (lT ss)++aK bs)=(((ss.map λx=>x.2.left)++lT ss++bs).map λ(n:Nat)=>(n:Int)).map V.int:=by rw[<-wH,<-wH,zN]
 exists p2,_,G,az.of (by rw[<-e3];exact ay),?_,λp3 hp3=> ?_
 .rw[aE,bD,bD];have:nt=4096:=rfl;lia
 generalize hD:f_.mW (((ss.map λx=>x.2.left)++lT ss++bs).map λ(n:Nat)=>(n:Int))=D;have FR:D.Nodup:=by rw[<-hD];exact f_.Eh _
 have a7:∀x:Int,x∈D↔x∈(((ss.map λx=>x.2.left)++lT ss++bs).map λ(n:Nat)=>(n:Int)):=λx=>by rw[<-hD];exact f_.Eg _ x
 have Fm:D.length<=3000:=by rw[<-hD];refine cX (f_.acd _) ?_;rw[aE,bD,bD];lia
 have s5:=ah.new (o:=uo P w p3 D) hp3;exists p3,D,G,ay,FR,λa2 q i4 oL hq=> ?_
 have hn:∀x∈a2,∃m:Nat,(m:Int)=x:=λx hx=>by obtain⟨m,_,e⟩:=b7.mp ((a7 x).mp (i4.mem_iff.mp hx));exists m,e
 have eA:a2=(a2.map eF).map λ(k:Nat)=>(k:Int):=by rw[bQ];refine(alp a2).symm.trans (kB λx hx=> ?_);obtain⟨m,rfl⟩:=hn x hx;rfl
 have acm:(a2.map eF).Nodup:=by have h0:a2.Nodup:=i4.nodup_iff.mpr FR;rw[eA]at h0;unfold Bu at h0⊢;rw[pG]at h0;exact h0.imp λq e=>q (cC _ e)
 have hso:(a2.map eF).Pairwise (· < ·):=Ds (zK (by rw[<-eA];exact oL)) acm;refine k _ q (a2.map eF) (s1.trans (s2.trans (s3.trans (s4.trans (s5.trans (ah.new hq)))))) (s1.free (s2.free (s3.free (s4.free (s5.free hq))))) (by rw[zN (a2.map eF),<-eA];exact ay) hso (λx=> ?_) (by rw[aE,i4.length_eq];lia)
 have h1:x∈a2.map eF↔(x:Int)∈a2:=by
  rw[b7];constructor
  .rintro⟨y,hy,rfl⟩;obtain⟨m,rfl⟩:=hn y hy;exact hy
  exact λh=>⟨x,h,G⟩
 rw[h1,i4.mem_iff,a7,b7];constructor
 .rintro⟨m,hm,e⟩;have e':m=x:=by lia
  rw[<-e'];obtain hm|hm:=dG.mp hm
  .obtain hm|hm:=dG.mp hm
   .obtain⟨y,hy,e⟩:=b7.mp hm;exact .inl ⟨y,hy,.inl e⟩
   obtain⟨y,hy,e⟩:=(Ov ss m).mp hm;exact .inl ⟨y,hy,.inr e⟩
  exact .inr hm
 rintro(⟨y,hy,e|e⟩|h)
 .exists x,k6 _ (k6 _ (b7.mpr ⟨y,hy,e⟩)),rfl
 .exists x,k6 _ (ki _ ((Ov ss x).mpr ⟨y,hy,e⟩)),rfl
 exists x,ki _ h,rfl
structure oW(P:bY)(w:bR)(K:aR)(a:af)(ae:M (Key×V)):Prop where
 ex:∃o vs,K.lookup a=I o/\o.IsDictOf (iN P w) vs/\KV ae vs
 lo:(a==iK)=ao
variable{a:af}
def oW.at_{ae:M (Key×V)}(D:oW X.prog X.w X.K a ae)(ab:Inv X pins σ H s):∃vs,KV ae vs/\s.heap.DictOf (iN X.prog X.w) a vs:=by obtain⟨o,vs,h1,h2,h3⟩:=D.ex;exists vs,h3,Heap.dictOf_iff.mpr ⟨o,ab.iO a o h1,h2⟩
def acn(P:bY)(w:bR)(K:aR)(td ty:TE):TE:=λσ H Q=>td σ H λx H1=>ty σ H1 λy H2=>∃a ae k v,x= .ref a/\oW P w K a ae/\y=kV k/\dB ae k=I v/\Q v H2
variable{o:bE}{pos:fG}{td ty:TE}
def zV{i:bE}(ho:PE X o td)(hi:PE X i ty)(hs:CR i):PE X (.Subscript o i pos) (acn X.prog X.w X.K td ty):=by intro pins s σ H Q ab h;refine Lx akj.lookup hs (a_ (ho pins s σ H _ ab h) λu s1⟨x,H1,I1,rx,q1⟩=>a_ (hi pins s1 σ H1 _ I1 q1) λmm s2⟨y,H2,I2,ry,a,ae,k,v,ex,D,ey,l,q2⟩=> ?_);subst ex ey;obtain rfl:u=eW a:=rx;obtain⟨vs,bo,dd⟩:=D.at_ I2;exists dd.typeIs;obtain⟨w',hw,hG⟩:=jd.some_of (by rw[<-l];exact bo.val k);exact akh (t6 ry) dd.mapOf hw ⟨v,H2,I2.tok _,hG,q2⟩
def aco(P:bY)(w:bR)(K:aR)(Pl:Bool)(ty td:TE):TE:=λσ H Q=>ty σ H λy H1=>td σ H1 λx H2=>∃a ae k,x= .ref a/\oW P w K a ae/\y=kV k/\Q (.bl (Pl !=(dB ae k).isSome)) H2
def acp{i:bE}(hi:PE X i ty)(ho:PE X o td):PC X .In i o (aco X.prog X.w X.K ao ty td):=by intro pins s σ H Q ab h;refine a_ (hi pins s σ H _ ab h) λmm s1⟨y,H1,I1,ry,q1⟩=>a_ (ho pins s1 σ H1 _ I1 q1) λu s2⟨x,H2,I2,rx,a,ae,k,ex,D,ey,q2⟩=> ?_;subst ex ey;obtain rfl:u=eW a:=rx;obtain⟨vs,bo,dd⟩:=D.at_ I2;refine wpAny_in_of (t6 ry) D.lo dd.mapOf ?_;rw[<-(bo.val k).zk];rw[show(ao !=(dB ae k).isSome)=(dB ae k).isSome by cases(dB ae k).isSome<;>rfl]at q2;exists .bl (dB ae k).isSome,H2,I2.tok _,G,q2
def acq(P:bY)(w:bR)(K:aR)(mg:aj->aG aq)(ai:bB)(j:Nat)(tf:TE)(t:TA):TE:=λσ H Q=>tf σ H λx H1=>∃(f:af)(fd:gC)(ps:M aj)(sp:L2.Sp)(k:Nat),x= .ref f/\aM P w K mg ai aO k f fd ps sp/\k<=j/\kZ K (.ref f)=aa/\Binds K fd ps []/\
 t σ H1 λvs H2=>sp (vs++[]) H2 Q E0
variable{e:bE}{es:M bE}{t:TA}
def Ox{j:Nat}{pb:bE}{tf:TE}(hf:PE X pb tf)(hr:d8 j X.A)(ha:PA X (e::es) t)
  (hc:eval (.Call pb (e::es) [] pos) X.env=(do u5 pos (<-eval pb X.env) [] (fH pos (bS (e::es) X.env)) (sI pos (sJ [] X.env))):=by rfl)
  (he:bS (e::es) X.env=(ao,eval e X.env)::bS es X.env:=by rfl)(ag:(fH pos (bS es X.env)).any (·.1)=ao:=by rfl):
  PE X (.Call pb (e::es) [] pos) (acq X.prog X.w X.K X.mg X.ai j tf t):=by
 intro pins s σ H Q ab h;refine Bo (a_ (hf pins s σ H _ ab h) λu s1⟨x,H1,I1,rx,f,fd,ps,sp,k,ex,F,hk,kp,B,q1⟩=> ?_) hc;subst ex;obtain rfl:u=eW f:=rx;exact Ia (h₀:=X.ai) ab.ok.mod.tN kp (a_ (ha pos pins s1 σ H1 _ I1 q1) λus s2⟨vs,H2,I2,r,q⟩=>⟨I2.iO,yZ F (hr.mono hk) B .nil t9 I2 r q⟩) he ag
variable{prog:bY}{A:eZ}{E:aq->aI->Prop}{ad:M aq}{x:aq}{im:aq->Bool}
theorem acr{j:Nat}{Q:aG Fin×Unit->aI->Prop}(hj:j<ad.length)(WF:∀u∈ad,A_ A s u x (im u))(b0:im (ad[j]'hj)=aa)(fo:∀m(hm:m<ad.length),m<j->im ad[m]=ao)
  (q:Q (I (.done (.ret (.int j s.toks))),()) {s with toks:=s.toks+1}):∀k i:Nat,i+k=ad.length->i<=j->
  aJ (aL prog w) A (forIn (Vg i k) ((ak,()):aG Fin×Unit) λ(i:Nat)__s=>
      match ad.toArray[i]? with
      |some y=>do
       let __do_lift<-eqBool y x
       if __do_lift=aa then do
         let __do_lift<-retInt (i:Int)
         pure (ForInStep.done (I __do_lift,()))
        else pure (x7 (ak,()))
      |x=>pure (x7 (ak,()))) Q E s:=by
 intro k;induction k with
 |zero=>intro i h1 h2;lia
 |succ k ih=>
  intro i h1 h2;have hi:i<ad.length:=by lia
  rw[List.range'_succ,Ih];refine aA ?_;have e:ad.toArray[i]? =I ad[i]:=by rw[Vb];exact bg hi
  rw[e];refine aA (WF ad[i] (sY hi) prog w _ _ ?_);by_cases c:i=j
  .subst c;rw[b0,av G];exact aA (aA (wpAny_mkInt (aN (aN (aN q)))))
  rw[fo i hi (by lia),au (by decide)];exact aN (ih (i+1) (by lia) (by lia))
variable{Q:aq->aI->Prop}
theorem acs{j:Nat}(ht:sE s.heap a ad.toArray)(hj:j<ad.length)(WF:∀u∈ad,A_ A s u x (im u))(b0:im (ad[j]'hj)=aa)(fo:∀m(hm:m<ad.length),m<j->im ad[m]=ao)
  (q:Q (.int j s.toks) {s with toks:=s.toks+1}):aJ (aL prog w) A (Builtin.«tuple.index» ⟨[.ref a,x],[]⟩) (λfin s'=>∃v,fin= .done (.ret v)/\Q v s') E s:=by
 obtain⟨o,ho,hc,n,hd⟩:=ht;refine aA (aN ?_);refine aA (aA (lz ho hd (aN ?_)));dsimp only;refine aA (aN ?_);refine aA (aN ?_);rw[anf];refine aA ?_
 have e:Vg [:min ad.toArray.size ad.toArray.size].start [:min ad.toArray.size ad.toArray.size].size [:min ad.toArray.size ad.toArray.size].step=Vg 0 ad.length:=by simp[ang]
 rw[e];exact acr hj WF b0 fo (aN ⟨_,G,q⟩) ad.length 0 (by lia) (b6 _)
inductive acu K x xs H(Q:VK):Prop|mk a ys y j z(_:x=V.ref a)(_:xs=[y])(_:bz K H a ys)(_:iF y=aa)(_:ys.all iF=aa)(_:ys[j]? =I z)(_:fZ z y=aa)(_:(∀m z',m<j->ys[m]? =I z'->fZ z' y=ao))(_:Q (.int (j:Nat)) H)
theorem Oz:y_ X "tuple.index" (acu X.K):=by
 intro pins s σ H x xs v us Q ab rx Ps h;obtain⟨a,ys,y,j,z,rfl,rfl,hs,vx,ox,hz,Pt,fo,q⟩:=h;cases rx;cases Ps with
 |cons ry rt=>
  rename_i K7 Yx;cases rt;obtain⟨ad,rv,ht,hlen⟩:=ab.tuple hs;obtain⟨u,hu,ru⟩:=rv.get hz;obtain⟨kt,PH⟩:=eL.mp hu;have K8:=rv.length;refine i0 Vh (let⟨o,ho,hc,_⟩:=ht;⟨o,ho,hc⟩) PySem.F.entry_tuple_index (acs ht kt (λu' PQ=>rE ry vx rv ox u' PQ) ?_ ?_ ?_) (PySem.F.args_tuple_index_2 _ _)
  .rw[PH,tX ru (ze ox hz)];exact Pt
  .intro m hm P2;have kx:ys[m]? =I (ys[m]'(by lia)):=bg (by lia);obtain⟨u2,oy,oC⟩:=rv.get kx;obtain⟨_,P3⟩:=eL.mp oy;rw[P3,tX oC (ze ox kx)];exact fo m _ P2 kx
  exists .int j,H,ab.tok _,⟨_,G⟩,q
def acv:fillsNumberSlot (.type "tuple") "mul"=pure ao:=PySem.fillsNumberSlot_seq (id:="tuple.__mul__") (r:=I (.builtin "tuple.__rmul__")) Vi.lookup (by decide+kernel) alq.lookup (by decide+kernel)
def acw:seqRepeat? (.type "tuple")=pure (I (.builtin "tuple.__mul__")):=by unfold seqRepeat?;rw[alr (name:="__mul__") Vi.lookup (by decide+kernel),alr (name:="__rmul__") alq.lookup (by decide+kernel)];rfl
def acy a t l ad n o(hc:o.cls= .type "tuple")(hd:o.data= .seq ad n):
  Ba (Builtin.«int.__rmul__» ⟨[.int a t,.ref l],[]⟩) (λ_ R s=>s.heap.get? l=I o/\R (.ok (.ret Ux)) s):=by
 obtain⟨cls,dd,data,sl⟩:=o;simp only at hc hd;subst hc hd;exact .of_wp λprog w A R s h=>by obtain⟨hp,g,d,tk,os⟩:=s;obtain⟨hl,h⟩:=h;wp_walk;exists _,G,h
theorem acz{k:Int}{t:Tok}(ht:sE s.heap a ad.toArray)(h0:ad≠ [])(lo: -(2^63)<=k)(hi:k<2^63)(er:ad.length*k.toNat<=sizeLine)
  (one:k=1->Q (.ref a) s)(more:k≠1->Q (.ref s.heap.objs.size) {s with heap:=s.heap.push {cls:=.type "tuple",data:=.seq (dF k.toNat ad).flatten.toArray}}):
  aJ (aL prog w) A (Builtin.«tuple.__mul__» ⟨[.ref a,.int k t],[]⟩) (λfin s'=>∃v,fin= .done (.ret v)/\Q v s') E s:=by
 obtain⟨⟨cls,dd,data,sl⟩,ho,hc,n,hd⟩:=ht;simp only at hc hd;subst hc hd;unfold Builtin.«tuple.__mul__»
 wp_delta
 rw[au (by intro h;cases h)];refine aA (aN ?_);rw[au (by simp only[Bool.or_eq_true,yf,not_or];lia)];refine aA (aA (lz ho G (aN ?_)));have ne:ad.toArray.isEmpty=ao:=by cases ad with|nil=>exact aU G h0|cons b r=>rfl
 have ty:s.TypeIs (.ref a) "tuple":=⟨_,ho,G⟩;simp only[ne,Bk,UA];by_cases c1:k=1
 .rw[av (by rw[c1];rfl)];refine aA (aA (Vd ty (aN ?_)));rw[av (by decide)];exact aA (sX (aN ⟨_,G,one c1⟩))
 rw[au (by simpa using c1)];have m:=more c1;by_cases dE:k<=0
 .rw[av (by simpa using dE)];unfold als;refine aA (jv (aN ⟨_,G,?_⟩));have e:k.toNat=0:=by lia
  rw[e]at m;exact m
 rw[au (by simpa using dE)]
 have hk:((ad.toArray.size:Nat):Int)*k=((ad.length*k.toNat:Nat):Int):=by rw[eX,akY,Int.toNat_of_nonneg (by lia)]
 have hs:=cY;rw[hk,au (by lia),au (by unfold anh;simp only[yf];lia)]
 have e:aj8 (λx1 x2=>x1++x2) #[] (dF k.toNat ad.toArray)=(dF k.toNat ad).flatten.toArray:=by have:=foldl_rep ad k.toNat [];rw[ku]at this;exact this
 rw[e];unfold als;refine aA (jv (aN ⟨_,G,m⟩) ?_);show(dF k.toNat ad).flatten.toArray.size<=sizeLine;rw[eX,len_rep,alu];exact er
inductive OA K(x:V)(y:V)H(Q:VK):Prop|mk(l:_)(k:_)(xs:_)(_:x= .ref l)(_:y= .int k)(_:bz K H l xs)(_:xs≠ [])(_: -(2^63)<=k)(_:k<2^63)(_:xs.length*k.toNat<=sizeLine)(_:(k=1->Q (.ref l) H))(_:(k≠1->∀p,H p=ak->Q (.ref p) (upd H p (.tup (dF k.toNat xs).flatten))))
def zW:dX X (sG .Mult) (OA X.K):=by
 intro pins s σ H x y v u Q ab rx ry h;obtain⟨l,k,xs,rfl,rfl,hH,aw,h1,h2,hz,q1,q2⟩:=h;cases rx;obtain⟨t,rfl⟩:=ry;obtain⟨ad,rv,ht,_⟩:=ab.tuple hH;have hl:=rv.length;obtain⟨o,ho,hc,n,hd⟩:=id ht
 refine wpAny_binaryOp_repeat_ref (by decide) ⟨o,ho,hc⟩ (λs'=>UB s' k t) acv F.fills_int_mul alv acw F.slot_int_index.lookup
  (Bc alv (UB s k t) F.entry_int_rmul (F.args_int_rmul_2 _ _) (acy k t l ad.toArray n o hc hd) ⟨ho,G,⟨o,ho,hc⟩,i0 Vi ⟨o,ho,hc⟩ F.entry_tuple_mul (acz ht (λe=>aw (by rw[e]at hl;exact IJ.mp hl)) h1 h2 (by rw[<-hl];exact hz) (λe=> ?_) λe=> ?_) (F.args_tuple_mul_2 _ _)⟩)
 .exists .ref l,H,ab,G,q1 e
 have new:(dF k.toNat xs).flatten.length<=sizeLine:=by rw[len_rep,alu];exact hz
 exists .ref _,upd H s.heap.objs.size (.tup (dF k.toNat xs).flatten),ab.laid (t':=s.toks) (λ_ _ e=>cu _ e) (aZ _) ⟨new,_,rv.rep k.toNat,⟨_,di _ G,G,_,G⟩⟩,G,q2 e _ (ab.aQ.fresh (aZ _))
variable{it tu:af}{ad:Array aq}
def nextT(ab:s.heap.IsTupleIter it tu i)(T:s.heap.IsTuple tu ad)(hx:ad[i]? =I x)
  (fin:∀h',h'.IsTupleIter it tu (i+1)->o9 it s.heap h'->Q x {s with heap:=h'}):aJ (aL prog w) A (alw (.ref it)) Q E s:=by
 obtain⟨oi,mt,OB,lp⟩:=id ab;obtain⟨ot,sw,_,sy,bb⟩:=T;refine aA (n_ ab.typeIs IT (i0 IT ab.typeIs alx ?_ (aly _)));show aJ _ _ (field (.ref it) 0>>=_) _ _ s;refine aA (nv mt lp G ?_);show aJ _ _ (if(eW tu==jR)=aa then _ else _) _ _ s;rw[au (show¬((eW tu==jR)=aa) from dJ)];refine aA (nv mt lp G ?_);refine aA (lz sw bb ?_);simp only[k_,hx];exact aA (pC mt lp (by simp) (aN ⟨x,G,aN (fin _ ⟨_,oh _ mt (yc (nh lp _)),(Bp ..).trans OB,by rw[nh lp];simp[iY]⟩ (ni ..))⟩))
def acA(calm:A.handled=ak)(ab:s.heap.IsTupleIter it tu i)(T:s.heap.IsTuple tu ad)(hx:ad[i]? =ak)
  (fin:∀h' e,Ip it s.heap h'->(∃o,h'.get? e=I o/\o.cls= .type "StopIteration")->E (.ref e) {s with heap:=h'}):aJ (aL prog w) A (alw (.ref it)) Q E s:=by
 obtain⟨oi,mt,OB,lp⟩:=id ab;obtain⟨ot,sw,_,sy,bb⟩:=T;refine aA (n_ ab.typeIs IT (i0 IT ab.typeIs alx ?_ (aly _)));show aJ _ _ (field (.ref it) 0>>=_) _ _ s;refine aA (nv mt lp G ?_);show aJ _ _ (if(eW tu==jR)=aa then _ else _) _ _ s;rw[au (show¬((eW tu==jR)=aa) from dJ)];refine aA (nv mt lp G ?_);refine aA (lz sw bb ?_);simp only[k_,hx];refine aA (sX (aA (pC mt lp (by simp) ?_)));refine aA ?_;simp only[Iq,Bq];refine aA (jv ?_ (by size_fits));refine aA (yd (by first|rfl|(simp only[Ir];rfl)) ?_);refine jv ?_ (by size_fits);simp only[Iu];refine aA (Iv ?_);first|rw[show A.in1.handled=ak from calm]|rw[calm]
 exact aA (aN (Iw (fin _ _ (((ni ..).extBut.push _).push _) ⟨_,di _ G,G⟩)))
variable{z ti to i1 i2 li:af}{k1 k2:Nat}{xs ys:Array aq}{y b:aq}
def acB{a:aq}(D:ye z ti to i1 i2 tu li)
  (zz:kr s.heap z ti to .none)(pi:gU s.heap ti (.ref i1) (.ref i2))(po:gU s.heap to a b)
  (j1:s.heap.IsTupleIter i1 tu k1)(j2:s.heap.IsListIter i2 li k2)(l1:s.heap.IsTuple tu xs)(l2:s.heap.IsList li ys)(hx:xs[k1]? =I x)(hy:ys[k2]? =I y)
  (fin:∀h',kr h' z ti to (iY s.heap.objs.size)->gU h' to x y->h'.IsTupleIter i1 tu (k1+1)->h'.IsListIter i2 li (k2+1)->gU h' s.heap.objs.size x y->(∀c o,c≠z->c≠to->c≠i1->c≠i2->s.heap.get? c=I o->h'.get? c=I o)->Q (.ref s.heap.objs.size) {s with heap:=h'}):
  aJ (aL prog w) A (Builtin.«zip.__next__» ⟨[.ref z],[]⟩) (λfin s'=>∃v,fin= .done (.ret v)/\Q v s') E s:=by
 show aJ _ _ (field (.ref z) 2>>=_) _ _ _;refine aA (nv zz G G ?_);refine aA (nv zz G G ?_);refine aA (lz pi G ?_);refine aA ?_;refine aA (nv zz G G (aN ?_));simp only[l5];refine aA (sX ?_);refine aA (nv zz G G ?_);refine aA (yu zz (by simp) λg1 mx b1=> ?_)
 replace mx:kr g1 z ti to .ellipsis:=mx
 refine aA ?_;simp only[alz,alA,Ih,Ig];refine aA (aA (IU ?_));refine aA (nextT (j1.extBut b1.extBut D.i1z) (l1.extBut b1.extBut D.l1z) hx λg2 OC cc=>aN ?_);have xf:=cc.extBut _ _ D.TOi1 (b1.extBut _ _ D.TOz po);refine aA (lz xf G ?_);refine aA (Vj xf λg3 FS cr=> ?_)
 replace FS:gU g3 to x b:=FS
 refine aA (s_ (aN ?_));refine aA (aA (IU ?_));refine aA (wpAny_nextOf_list_item (((j2.extBut b1.extBut D.i2z).extBut cc.extBut D.i12.symm).extBut cr.extBut D.TOi2.symm) (((l2.extBut b1.extBut D.l2z).extBut cc.extBut D.l2i1).extBut cr.extBut D.l2TO) hy λev j24 fI=>aN ?_);have OD:=fI.extBut _ _ D.TOi2 FS;refine aA (lz OD G ?_);refine aA (Vj OD λg5 FV hZ=> ?_)
 replace FV:gU g5 to x y:=FV
 refine aA (s_ (aN (aN ?_)));refine aA (lz FV G ?_);refine aA (wpAny_newTuple ?_);have sz:g5.objs.size=s.heap.objs.size:=by rw[hZ.1,fI.1,cr.1,cc.1,b1.1]
 have OE:=hZ.extBut _ _ D.TOz.symm (fI.extBut _ _ D.i2z.symm (cr.extBut _ _ D.TOz.symm (cc.extBut _ _ D.i1z.symm mx)))
 have kk:∀c o,c≠z->c≠to->c≠i1->c≠i2->s.heap.get? c=I o->g5.get? c=I o:=λc o c1 c2 c3 dt e=>
  hZ.extBut _ _ c2 (fI.extBut _ _ dt (cr.extBut _ _ c2 (cc.extBut _ _ c3 (b1.extBut _ _ c1 e))))
 have WP:g5.IsTupleIter i1 tu (k1+1):=((OC.extBut cr.extBut D.TOi1.symm).extBut fI.extBut D.i12).extBut hZ.extBut D.TOi1.symm;have W1:g5.IsListIter i2 li (k2+1):=j24.extBut hZ.extBut D.TOi2.symm;have OG:z<g5.objs.size:=cH OE;show aJ _ _ (alB (.ref z) (.ref g5.objs.size)>>=_) _ _ _;refine aA ?_;unfold alB;have zz6:kr (g5.push {cls:=.type "tuple",data:=.seq #[x,y]}) z ti to .ellipsis:=cu _ OE;refine aA (yu zz6 (by simp) λmr Xt FX=> ?_)
 replace Xt:kr mr z ti to (iY g5.objs.size):=Xt
 refine yu Xt (by simp) λpc Gc Go=> ?_
 replace Gc:kr pc z ti to (iY g5.objs.size):=Gc
 have up:∀c o,c≠z->g5.get? c=I o->pc.get? c=I o:=λc o c1 e=>Go.extBut _ _ c1 (FX.extBut _ _ c1 (cu _ e));have pn:gU pc g5.objs.size x y:=Go.extBut _ _ (uY OG) (FX.extBut _ _ (uY OG) (di _ G));rw[sz]at Gc pn;refine aN ⟨_,G,?_⟩;show Q (.ref g5.objs.size) _;rw[sz];exact fin pc Gc (up _ _ D.TOz FV) (WP.at λo e=>up _ o D.i1z e) (W1.at λo e=>up _ o D.i2z e) pn λc o c1 c2 c3 dt e=>up c o c1 (kk c o c1 c2 c3 dt e)
def acC{a:aq}{Q:Fin->aI->Prop}(calm:A.handled=ak)(D:ye z ti to i1 i2 tu li)
  (zz:kr s.heap z ti to .none)(pi:gU s.heap ti (.ref i1) (.ref i2))(po:gU s.heap to a b)
  (j1:s.heap.IsTupleIter i1 tu k1)(j2:s.heap.IsListIter i2 li k2)(l1:s.heap.IsTuple tu xs)(l2:s.heap.IsList li ys)(k5:xs[k1]? =ak\/ys[k2]? =ak)
  (fin:∀h' e,(∀c o,c≠z->c≠to->c≠i1->c≠i2->s.heap.get? c=I o->h'.get? c=I o)->(∃o,h'.get? e=I o/\o.cls= .type "StopIteration")->E (.ref e) {s with heap:=h'}):
  aJ (aL prog w) A (Builtin.«zip.__next__» ⟨[.ref z],[]⟩) Q E s:=by
 show aJ _ _ (field (.ref z) 2>>=_) _ _ _;refine aA (nv zz G G ?_);refine aA (nv zz G G ?_);refine aA (lz pi G ?_);refine aA ?_;refine aA (nv zz G G (aN ?_));simp only[l5];refine aA (sX ?_);refine aA (nv zz G G ?_);refine aA (yu zz (by simp) λg1 mx b1=> ?_)
 replace mx:kr g1 z ti to .ellipsis:=mx
 refine aA ?_;simp only[alz,alA,Ih,Ig];refine aA (aA (IU ?_));cases hx:xs[k1]? with
 |none=>
  refine aA (acA calm (j1.extBut b1.extBut D.i1z) (l1.extBut b1.extBut D.l1z) hx λg2 e cc he=> ?_);obtain⟨xi,lr,ky⟩:=he;have OH:=cc _ _ D.i1z.symm mx;have XB:e≠z:=λq=>by subst q;rw[OH]at lr;cases lr;simp at ky
  exact yu OH (by simp) λg3 _ cr=>fin g3 e (λc o c1 _ c3 _ q=>cr.extBut _ _ c1 (cc _ _ c3 (b1.extBut _ _ c1 q))) ⟨xi,cr.extBut _ _ XB lr,ky⟩
 |some x=>
  have hy:ys[k2]? =ak:=by
   obtain q|q:=k5
   .rw[hx]at q;cases q
   exact q
  refine aA (nextT (j1.extBut b1.extBut D.i1z) (l1.extBut b1.extBut D.l1z) hx λg2 OC cc=>aN ?_);have xf:=cc.extBut _ _ D.TOi1 (b1.extBut _ _ D.TOz po);refine aA (lz xf G ?_);refine aA (Vj xf λg3 FS cr=> ?_);refine aA (s_ (aN ?_));refine aA (aA (IU ?_));refine aA (wpAny_nextOf_list_end calm (((j2.extBut b1.extBut D.i2z).extBut cc.extBut D.i12.symm).extBut cr.extBut D.TOi2.symm) (((l2.extBut b1.extBut D.l2z).extBut cc.extBut D.l2i1).extBut cr.extBut D.l2TO) hy λev e fI he=> ?_);obtain⟨xi,lr,ky⟩:=he;have OI:kr ev z ti to .ellipsis:=fI _ _ D.i2z.symm (cr.extBut _ _ D.TOz.symm (cc.extBut _ _ D.i1z.symm mx));have XB:e≠z:=λq=>by subst q;rw[OI]at lr;cases lr;simp at ky
  exact yu OI (by simp) λg5 _ hZ=>fin g5 e (λc o c1 c2 c3 dt q=>hZ.extBut _ _ c1 (fI _ _ dt (cr.extBut _ _ c2 (cc.extBut _ _ c3 (b1.extBut _ _ c1 q))))) ⟨xi,hZ.extBut _ _ XB lr,ky⟩
abbrev zX(h:bB)(t:af):bB:=h.push {cls:=.type "tuple_iterator",data:=.fields #[.ref t,.int 0 0]}
abbrev zY(h:bB)(t l:af):bB:=(zX h t).push {cls:=.type "list_iterator",data:=.fields #[.ref l,.int 0 0]}
abbrev zZ(h:bB)(t l:af):bB:=(zY h t l).push {cls:=.type "tuple",data:=.seq #[.ref h.objs.size,.ref (zX h t).objs.size]}
abbrev z0(h:bB)(t l:af):bB:=(zZ h t l).push {cls:=.type "tuple",data:=.seq #[.none,.none]}
abbrev uq(h:bB)(t l:af):bB:=(z0 h t l).push {cls:=.type "zip",data:=.fields #[.none,.bool ao,.bool ao,.ref (zY h t l).objs.size,.ref (zZ h t l).objs.size]}
def acD t l xs ys:Ba (Builtin.«zip.__new__» ⟨[.type "zip",.ref t,.ref l],[]⟩) (λ_ R s=>s.heap.IsTuple t xs/\s.heap.IsList l ys/\R (.ok (.ret (.ref (z0 s.heap t l).objs.size))) {s with heap:=uq s.heap t l}):=
 .of_wp λprog w A R s h=>by
  obtain⟨hp,g,d,tk,os⟩:=s;obtain⟨XL,XV,h⟩:=h;have sb:=sub_zip;have q1:=XL;have q2:Heap.IsList (Shared.heap ⟨hp.push {cls:=.type "tuple_iterator",data:=.fields #[.ref t,.int 0 0]},g,d,tk,os⟩) l ys:=ani XV _
  wp_walk using ajN q1,HW q2
  exists _,G,h
def acE{t l:af}(XL:s.heap.IsTuple t xs)(XV:s.heap.IsList l ys)
  (fin:∀h',kr h' (s.heap.objs.size+4) (s.heap.objs.size+2) (s.heap.objs.size+3) .none->gU h' (s.heap.objs.size+2) (.ref s.heap.objs.size) (.ref (s.heap.objs.size+1))->gU h' (s.heap.objs.size+3) .none .none->h'.IsTupleIter s.heap.objs.size t 0->h'.IsListIter (s.heap.objs.size+1) l 0->(∀c o,s.heap.get? c=I o->h'.get? c=I o)->Q (.ref (s.heap.objs.size+4)) {s with heap:=h'}):
  aJ (aL prog w) A (call (.type "zip") [.ref t,.ref l]) Q E s:=by
 refine callType_new F.called_zip (by decide) (F.typeCall_zip_2 _ _) (F.newCall_zip_2 _ _) (λobj=>F.args_object_init_3 obj _ _) F.entry_zip_new (acD t l xs ys) ⟨XL,XV,?_⟩;have n1:(zX s.heap t).objs.size=s.heap.objs.size+1:=iL ..;have n2:(zY s.heap t l).objs.size=s.heap.objs.size+2:=by rw[iL,n1]
 have n3:(zZ s.heap t l).objs.size=s.heap.objs.size+3:=by rw[iL,n2]
 have n4:(z0 s.heap t l).objs.size=s.heap.objs.size+4:=by rw[iL,n3]
 have lv:(uq s.heap t l).get? (z0 s.heap t l).objs.size=I _:=di _ G;have GE:(uq s.heap t l).get? (zZ s.heap t l).objs.size=I _:=cu _ (di _ G);have f8:(uq s.heap t l).get? (zY s.heap t l).objs.size=I _:=cu _ (cu _ (di _ G));have dL:(uq s.heap t l).get? (zX s.heap t).objs.size=I _:=cu _ (cu _ (cu _ (di _ G)));have cx:(uq s.heap t l).get? s.heap.objs.size=I _:=cu _ (cu _ (cu _ (cu _ (di _ G))));rw[n2,n3,n4]at lv;rw[n1,n2]at f8;rw[n3]at GE;rw[n1]at dL;rw[n4];exists⟨_,lv,G⟩,fin _ lv f8 GE ⟨_,cx,G,G⟩ ⟨_,dL,G,G⟩ λc o q=>cu _ (cu _ (cu _ (cu _ (cu _ q))))
def acF{a:aq}{Q:aG aq->aI->Prop}(D:ye z ti to i1 i2 tu li)
  (zz:kr s.heap z ti to .none)(pi:gU s.heap ti (.ref i1) (.ref i2))(po:gU s.heap to a b)
  (j1:s.heap.IsTupleIter i1 tu k1)(j2:s.heap.IsListIter i2 li k2)(l1:s.heap.IsTuple tu xs)(l2:s.heap.IsList li ys)(hx:xs[k1]? =I x)(hy:ys[k2]? =I y)
  (fin:∀h',kr h' z ti to (iY s.heap.objs.size)->gU h' to x y->h'.IsTupleIter i1 tu (k1+1)->h'.IsListIter i2 li (k2+1)->gU h' s.heap.objs.size x y->(∀c o,c≠z->c≠to->c≠i1->c≠i2->s.heap.get? c=I o->h'.get? c=I o)->Q (I (.ref s.heap.objs.size)) {s with heap:=h'}):
  aJ (aL prog w) A (lZ (.ref z)) Q E s:=by
 have ty:s.TypeIs (.ref z) "zip":=⟨_,zz,G⟩
 exact aA (sQ (n_ ty IV (i0 IV ty alC (acB D zz pi po j1 j2 l1 l2 hx hy λh' cx dL f8 GE lv acG=>aN (fin h' cx dL f8 GE lv acG)) (alD _))))
def acH{a:aq}{Q:aG aq->aI->Prop}(calm:A.handled=ak)(D:ye z ti to i1 i2 tu li)
  (zz:kr s.heap z ti to .none)(pi:gU s.heap ti (.ref i1) (.ref i2))(po:gU s.heap to a b)
  (j1:s.heap.IsTupleIter i1 tu k1)(j2:s.heap.IsListIter i2 li k2)(l1:s.heap.IsTuple tu xs)(l2:s.heap.IsList li ys)(k5:xs[k1]? =ak\/ys[k2]? =ak)
  (fin:∀h',(∀c o,c≠z->c≠to->c≠i1->c≠i2->s.heap.get? c=I o->h'.get? c=I o)->Q ak {s with heap:=h'}):aJ (aL prog w) A (lZ (.ref z)) Q E s:=by
 have ty:s.TypeIs (.ref z) "zip":=⟨_,zz,G⟩;refine aA (sQ (n_ ty IV (i0 IV ty alC (acC calm D zz pi po j1 j2 l1 l2 k5 λh' e kk he=> ?_) (alD _))));obtain⟨xi,lr,ky⟩:=he;exact aA (Br ⟨xi,lr,ky⟩ Iz (aN (fin _ kk)))
def Ei(K:aR)(a b:af):It:=⟨λi H=>∃(xs ys:M V)(x y:V),bz K H a xs/\az K H b ys/\xs[i]? =I x/\ys[i]? =I y,λi H v U=>∃T x y,v= .ref T/\H T=ak/\U=upd H T (.tup [x,y])/\(∀xs,bz K H a xs->xs[i]? =I x)/\∀ys,az K H b ys->ys[i]? =I y,λi H=>∃xs ys:M V,bz K H a xs/\az K H b ys/\(xs.length<=i\/ys.length<=i)⟩
variable{wt:M bE}{kk:Nat}{wv:fG}{b:af}
theorem acI{TI TO:af}(D:ye z TI TO i1 i2 a b):
  Turn P w K (.Tuple wt kk wv) (Ei K a b) [z,TI,TO,i1,i2] z (λi h=>kr h z TI TO .none/\gU h TI (.ref i1) (.ref i2)/\(∃x y,gU h TO x y)/\h.IsTupleIter i1 a i/\h.IsListIter i2 b i)where
 mem:=by simp
 obj:=λi h st c hc=>by
  obtain⟨hz,ci,⟨x,y,cv⟩,⟨ww,e1,_,d1⟩,⟨wx,e2,_,d2⟩⟩:=st;have e':c=z\/c=TI\/c=TO\/c=i1\/c=i2:=by simpa using hc
  obtain q|q|q|q|q:=e'
  .rw[q];exists _,hz,λv q=>nomatch q
  .rw[q];exists _,ci,λv q=>nomatch q
  .rw[q];exists _,cv,λv q=>nomatch q
  .rw[q];exact⟨ww,e1,λv q=>by rw[d1]at q;cases q⟩
  rw[q];exact⟨wx,e2,λv q=>by rw[d2]at q;cases q⟩
 keep:=λi h h' st k=>by obtain⟨hz,ci,⟨x,y,cv⟩,h1,h2⟩:=st;exact⟨k z (by simp) _ hz,k TI (by simp) _ ci,⟨x,y,k TO (by simp) _ cv⟩,h1.at λo q=>k i1 (by simp) o q,h2.at λo q=>k i2 (by simp) o q⟩
 item:=by
  intro X hP hw hK hc i pins s σ H E ab hf st hg;subst hP hw hK;obtain⟨hz,ci,⟨Rs,y0,cv⟩,h1,h2⟩:=st;obtain⟨xs,ys,x,y,eJ,eM,hx,hy⟩:=hg;obtain⟨ad,rv,p,_⟩:=ab.tuple eJ;obtain⟨cs,k0,p2,_⟩:=ab.list eM;obtain⟨u,hu,ru⟩:=rv.get hx;obtain⟨u2,oy,oC⟩:=k0.get hy;have bm:=cH hz;refine acF D hz ci cv h1 h2 (p) p2.isList (by simpa using hu) (by simpa using oy) λh' z' RF a0 b2 hT hk=> ?_;refine⟨_,G,akw z' λrs Sc sb=> ?_⟩;have Sr:=(sb.2 _ (uY bm)).trans hT
  have new:fJ X.prog X.w (upd H s.heap.objs.size (.tup [x,y])) rs s.heap.objs.size (.tup [x,y]):=
   ⟨by show 2<=sizeLine;decide,[u,u2],.cons ru (.cons oC .nil),⟨_,Sr,G,_,G⟩⟩
  have I1:Inv X pins σ (upd H s.heap.objs.size (.tup [x,y])) {s with heap:=rs}:=
   ab.LB (t':=s.toks) (λc o hb q=>(sb.2 c (λq'=>hb (by simp[q']))).trans (hk c o (λq'=>hb (by simp[q'])) (λq'=>hb (by simp[q'])) (λq'=>hb (by simp[q'])) (λq'=>hb (by simp[q'])) q)) hf (aZ _) new
  exists .ref s.heap.objs.size,_,I1,G,⟨_,x,y,G,ab.aQ.fresh (aZ _),G,λl hl=>by rw[ab.Ka hl eJ];exact hx,λl hl=>by rw[ab.vN hl eM];exact hy⟩,⟨Sc,?_,⟨u,u2,?_⟩,?_,?_⟩,λc k4=> ?_
  .exact(sb.2 _ D.TIz).trans (hk _ _ D.TIz D.TITO D.TIi1 D.TIi2 ci)
  .exact(sb.2 _ D.TOz).trans RF
  .exact a0.at λo q=>(sb.2 _ D.i1z).trans q
  .exact b2.at λo q=>(sb.2 _ D.i2z).trans q
  have al:c<s.heap.objs.size:=by
   have e':c=z\/c=TI\/c=TO\/c=i1\/c=i2:=by simpa using k4
   obtain q|q|q|q|q:=e'
   .rw[q];exact bm
   .rw[q];exact cH ci
   .rw[q];exact cH cv
   .rw[q];obtain⟨_,e1,_⟩:=h1;exact cH e1
   rw[q];obtain⟨_,e2,_⟩:=h2;exact cH e2
  rw[aD (d_ al)];exact(hf c k4).1
 done:=by
  intro X hP hw hK hc i pins s σ H E ab hf st hg;subst hP hw hK;obtain⟨hz,ci,⟨Rs,y0,cv⟩,h1,h2⟩:=st;obtain⟨xs,ys,eJ,eM,k5⟩:=hg;obtain⟨ad,rv,p,_⟩:=ab.tuple eJ;obtain⟨cs,k0,p2,_⟩:=ab.list eM;have l1:=rv.length;have l2:=k0.length
  have he:ad.toArray[i]? =ak\/cs.toArray[i]? =ak:=by
   obtain q|q:=k5
   .exact .inl (by simp;lia)
   exact .inr (by simp;lia)
  exact acH (ab.ok.hd hc) D hz ci cv h1 h2 (p) p2.isList he λh' hk=>⟨G,ab.LA (t':=s.toks) (λc o hb q=>
   hk c o (λq'=>hb (by simp[q'])) (λq'=>hb (by simp[q'])) (λq'=>hb (by simp[q'])) (λq'=>hb (by simp[q'])) q) hf⟩
 self:=λA i s Q E st h=>IA st.1 h
def acJ(K:aR)(ta:TA):TI:=λσ H R=>ta σ H λvs H1=>∃a b xs ys,vs=[.ref a,.ref b]/\bz K H1 a xs/\az K H1 b ys/\R (Ei K a b) H1
variable{p:fG}
def acK{e2:bE}{ta:TA}(hg:Gl X "zip")(hm:X.mg "zip"=ak)(ha:PA X [e,e2] ta)
  (hs:bS [e,e2] X.env=(ao,eval e X.env)::bS [e2] X.env:=by rfl)(ag:(fH pos (bS [e2] X.env)).any (·.1)=ao:=by rfl):
  PI X (.Tuple wt kk wv) (.Call (.Name "zip" p) [e,e2] [] pos) (acJ X.K ta):=by
 intro pins s σ H R ab h;refine Bo (rj ab hg hm LP (A9 (a_ (ha pos pins s σ H _ ab h) λus s1⟨vs,H1,I1,r1,q1⟩=> ?_) hs ag));obtain⟨a,b,xs,ys,ex,eJ,eM,q⟩:=q1;subst ex;cases r1 with
 |cons r rr=>
  cases rr with
  |cons r' rr=>
   cases rr;cases r;cases r';obtain⟨ad,rv,p1,_⟩:=I1.tuple eJ;obtain⟨cs,k0,p2,_⟩:=I1.list eM;have sm:a<s1.heap.objs.size:=by obtain⟨o,ho,_⟩:=p1;exact cH ho
   have SB:=p2.lt;refine acE (p1) p2.isList λh' hz ci cv h1 h2 hk=>IA hz ?_;have I2:=I1.kept (t':=s1.toks) hk;exists s1.heap.objs.size+4,[s1.heap.objs.size+4,s1.heap.objs.size+2,s1.heap.objs.size+3,s1.heap.objs.size,s1.heap.objs.size+1],_,_,H1,G,I2,acI (akx s1.heap.objs.size a b sm SB),⟨hz,ci,⟨_,_,cv⟩,h1,h2⟩,λc k4=> ?_,q;have e':c=s1.heap.objs.size+4\/c=s1.heap.objs.size+2\/c=s1.heap.objs.size+3\/c=s1.heap.objs.size\/c=s1.heap.objs.size+1:=by simpa using k4
   have c4:s1.heap.objs.size<=c:=by
    obtain z|z|z|z|z:=e'<;>rw[z]
    .exact qK _ _
    .exact qK _ _
    .exact qK _ _
    .exact aZ _
    exact qK _ _
   exact I1.tQ c4 (I1.aQ.fresh c4)
def gK(K:aR)(a:af)(xs:M V):Prop:=∃(o:bA)(ad:Array aq)(n:Nat),K.lookup a=I o/\o.cls= .type "tuple"/\o.data= .seq ad n/\ad.size<=sizeLine/\Vals xs ad.toList
variable{xs:M V}
def gK.sq(h:gK K a xs):bz K H a xs:=cZ h
def fU(nm:aj):Int×Int:=(gF.lookup nm).getD (0,-1)
def inR(nm:aj)(n:Int):Bool:=decide ((fU nm).1<=n)&&decide (n<=(fU nm).2)
def Named(nm:aj):Prop:=nm∈gF.map (·.1)
structure Ranges(P:bY)(w:bR)(K:aR)(mg:aj->aG aq):Prop where
 ex:∃a ae,mg "RANGES"=I (.ref a)/\oW P w K a ae/\∀nm,Named nm->∃t,dB ae (.inr nm)=I (.ref t)/\gK K t [.int (fU nm).1,.int (fU nm).2]
inductive Ej(vs:M V)H(Q:VK)(E:XK):Prop|mk nm n(_:vs=[.str nm,.int n])(_:Named nm)(_:Q (.bl (inR nm n)) H)
def OJ:jt "all"=I (.builtin "all"):=by decide+kernel
def dD(names:M aj)(nums:M Int):Bool:=decide (names.length=nums.length)&&(names.zip nums).all λz=>inR z.1 z.2
inductive qg K(vs:M V)H(Q:VK)(E:XK):Prop|mk(a b:af)(names:M aj)(nums:M Int)(_:vs=[.ref a,.ref b])(_:bz K H a (names.map V.str))(_:az K H b (nums.map V.int))(_:(∀nm∈names,Named nm))(_:names.length<=100000)(_:∀U,ah H U->Q (.bl (dD names nums)) U)
variable{U:Hp}
def _root_.L2.ah.Ek(s:ah H U)(h:bz K H a xs):bz K U a xs:=by
 obtain h|h:=h
 .obtain h|⟨o,h⟩:=h
  .exact .inl (.inl (s _ _ h))
  exact .inl (.inr ⟨o,s _ _ h⟩)
 exact .inr h
variable{α:Type}{wi:TI}{J:It}{g:TG}{tt:TT}{te:TE}{vs:M Nat}{H1:Hp}{Q:VK}
def El(l:M α)p e(Rx:α->V->Hp->Prop)(hw:∀R:It->Hp->Prop,R J H1->wi σ H R)(hlen:l.length<=100000)
  (lm:∀U,ah H1 U->J.stop l.length U)(dq:∀(i:Nat)(U:Hp),i<l.length->ah H1 U->J.go i U)
  (oP:∀(i:Nat)(U:Hp)(x:V)(bp:Hp),i<l.length->ah H1 U->J.iD i U x bp->∃a,l[i]? =I a/\ah U bp/\Rx a x bp)
  (turn:∀(a:α)(x:V)(U:Hp)(Kt:V->Hp->Prop)(Kf:Hp->Prop),a∈l->Rx a x U->ah H1 U->(∀H4,ah U H4->p a=aa->Kt (e a) H4)->(∀H3,ah U H3->p a=ao->Kf H3)->g x (wipe σ vs) U λσ2 H2=>wipe σ2 vs=wipe σ vs/\tt σ2 H2 λb H3=>if b=aa then te σ2 H3 Kt else Kf H3)
  (fin:∀(U:Hp)(D:af),ah H1 U->H1 D=ak->U D=I (.lst ((l.filter p).map e))->Q (.ref D) U):mL wi g tt te vs σ H Q:=
 hw _ (zL (J:=J) (g:=g) (tt:=tt) (te:=te) (vs:=vs) (σ:=σ) (Q:=Q) l p e Rx hlen lm dq oP turn fin)
variable{x:aj}{k:Nat}
def OL{j:Nat}{y:aj}{p1 p2:fG}(hK:X.K=K)(hc:X.calm=aa)(hN:X.N.Nodup)(hi:X.N[i]? =I x)(hj:X.N[j]? =I y)(GM:X.env.scope.names.lookup x=I .local)(ly:X.env.scope.names.lookup y=I .local)
  (hn:(n6 [.Name x p1,.Name y p2] X.env).length=2:=by rfl)(bi:(n6 [.Name x p1,.Name y p2] X.env).findIdx? (·.1)=ak:=by rfl)
  (h1:(n6 [.Name x p1,.Name y p2] X.env).map (·.2)=A4 (.Name x p1) X.env::(n6 [.Name y p2] X.env).map (·.2):=by rfl)(h2:(n6 [.Name y p2] X.env).map (·.2)=A4 (.Name y p2) X.env::(n6 [] X.env).map (·.2):=by rfl):
  PG X (.Tuple [.Name x p1,.Name y p2] k pos) (Kh K 2 (Ce (jC i) (Ce (jC j) Ke))):=
 hK▸Kl hc (yT (Cd hN hi (cO GM) (cZ GM)) (yT (Cd hN hj (cO ly) (cZ ly)) Kg h2) h1) hn bi
def acL(F:bf K "in_range" (top 11) f fd)(R:Ranges P w K mg):aM P w K mg ai aO 1 f fd ["name","number"] Ej:=by
 refine F.aX ["name","number"] (λS H vs Q E hr h=> ?_);obtain⟨nm,n,rfl,de,k⟩:=h;obtain⟨a,ae,hm,D,hR⟩:=R.ex;obtain⟨t,hv,hT⟩:=hR nm de;exists _,aH (Kz gG gG (dS (zV (fz (by rfl) hm (show RelV (.ref a) _ from G)) (pv 0) (λ_ _=>G)) aF) (pv 1) (dS (zV (fz (by rfl) hm (show RelV (.ref a) _ from G)) (pv 0) (λ_ _=>G)) aF)),_,G,a,ae,.inr nm,_,G,D,G,hv,t,_,0,_,G,G,hT.sq,G,_,G,_,_,G,G,_,G;unfold inR at k;refine b4 (λh1=> ?_) (λh1=> ?_)
 .rw[h1,eB]at k;exists _,G,a,ae,.inr nm,_,G,D,G,hv,t,_,1,_,G,G,hT.sq,G,_,_,G,G,k
 have a0:decide ((fU nm).1<=n)=ao:=by simpa using h1
 rw[a0,ig]at k;exact k
theorem acM(F:bf K "fits" (top 12) f fd)(B:dR mg)(DI:Def P w K mg ai 1 "in_range" ["name","number"] Ej):aM P w K mg ai aO 2 f fd ["names","numbers"] (qg K):=by
 refine F.aX ["names","numbers","name","number"] (λS H vs Q E hr h=> ?_);obtain⟨a,b,names,nums,rfl,hA,hB,hN,hl,k⟩:=h
 exists _,aC (bH (bL lG (bJ dc (by rfl) B.len cJ (aB (pv 0))) (bJ dc (by rfl) B.len cJ (aB (pv 1)))) (aH tP) bG) (aH (bJ (K9 G) (by rfl) B.all OJ (aB (fM G S (acK (by rfl) B.zip (bu (pv 0) (pv 1))) (own:=[("name",2),("number",3)]) (dY ["names","numbers","name","number"] (cz (top 12))) (by intro _ _ _ _ _;exact OL (i:=2) (j:=3) G G S G G G G) (by intro _ _ _ _ _;exact iP) (by intro _ _ _ _ _;exact aT DI hr (bu (pv 2) (pv 3)))))));exists _,G,a,_,G,cZ hA,_,G,b,_,G,cO hB,G,_,G;rw[aE,aE];refine b4 (λh1=> ?_) (λh1=> ?_)
 .have aw:¬names.length=nums.length:=λe=>by rw[e]at h1;simp at h1
  have:=k H (ah.refl H);unfold dD at this;rw[aV aw,ig]at this;exact this
 have ST:names.length=nums.length:=by
  by_cases e:names.length=nums.length
  .exact e
  exact aU (by
   have:¬((names.length:Int)=(nums.length:Int)):=by lia
   simp[this]) h1
 have bm:(names.zip nums).length=names.length:=by rw[qS];lia
 have gt:∀{i:Nat}{z:aj×Int},(names.zip nums)[i]? =I z->(names.map V.str)[i]? =I (V.str z.1)/\(nums.map V.int)[i]? =I (V.int z.2):=λ{i z}hz=>by obtain⟨h1,h2⟩:=D7 hz;rw[bF,bF,h1,h2];exists G,G
 dsimp only[pW,lD,nG,gI,gH];refine El (J:=Ei K a b) (H1:=H) (names.zip nums) (λ_=>aa) (λz=>V.bl (inR z.1 z.2)) (λz x H=>∃T,x= .ref T/\H T=I (.tup [.str z.1,.int z.2])) (λR h=>⟨_,G,_,G,a,b,_,_,G,hA,hB,h⟩) (by lia) (λU s1=> ?_) (λi U hi s1=> ?_) (λi U x bp hi s1 hy=> ?_) (λz x U Kt Kf hz hR s1 ht hf=> ?_) λU D s1 hD hd=> ?_
 .exact⟨_,_,s1.Ek hA,s1.seq hB,by rw[aE,aE];lia⟩
 .obtain⟨h2,h3⟩:=gt (bg hi);exists _,_,_,_,s1.Ek hA,s1.seq hB,h2,h3
 .obtain⟨T,x1,y1,rfl,hT,rfl,hY,xc⟩:=hy;obtain⟨h2,h3⟩:=gt (bg hi);have ex:x1=_:=cG ((hY _ (s1.Ek hA)).symm.trans h2);have ey:y1=_:=cG ((xc _ (s1.seq hB)).symm.trans h3);subst ex ey;exists _,bg hi,ah.new hT,T,G,ay
 .obtain⟨T,rfl,hT⟩:=hR;exists T,_,G,bz.of hT,G,_,_,G,_,_,G,G,⟨G,?_⟩;refine bK (B:=Kf U) ?_;exists _,G,_,G,z.1,z.2,G,hN _ (xT hz).1,ht U (ah.refl _) G
 exists D,(names.zip nums).map λz=>inR z.1 z.2,G,az.of ?_
 .rw[hd,mq.mpr (λ_ _=>G),bQ];rfl
 have:=k U s1;unfold dD at this;rw[aP ST,eB]at this;rw[xZ];exact this
def nM(nums:M Int):Bool:=(decide (2<=nums.length)&&decide (nums.length<=6))&&nums.all (inR "o")
inductive OM K(vs:M V)H(Q:VK)(E:XK):Prop|mk(b:af)(nums:M Int)(_:vs=[.ref b])(_:az K H b (nums.map V.int))(_:nums.length<=20000)(_:∀U,ah H U->Q (.bl (nM nums)) U)
theorem z4 x:∀nums:M Int,((dF nums.length x).zip nums).all (λz=>inR z.1 z.2)=nums.all (inR x)|[]=>rfl|n::r=>by rw[bT,sL,xV,pe,pe,z4 x r]
theorem z5{α:Type}(x:α):∀k:Nat,(dF k [x]).flatten=dF k x|0=>rfl|k+1=>by rw[sL,xY,z5 x k];rfl
structure wM(K:aR)(mg:aj->aG aq):Prop where
 ex:∃a,mg "NEWS_NAMES"=I (.ref a)/\gK K a (jb.map V.str)
def wN(nums:M Int):Bool:=decide (nums.length<=80)&&dD (dF (nums.length/8) jb).flatten nums
inductive ON K(vs:M V)H(Q:VK)(E:XK):Prop|mk(b:af)(nums:M Int)(_:vs=[.ref b])(_:az K H b (nums.map V.int))(_:nums.length<=20000)(_:∀U,ah H U->Q (.bl (wN nums)) U)
def acN k l:((dF k l).flatten).map V.str=(dF k (l.map V.str)).flatten:=by rw[List.map_flatten,IW]
theorem acO(F:bf K "is_route" (top 13) f fd)(B:dR mg)(g2:cS mg "LEAST_OFFICES" 2)(mo:cS mg "MOST_OFFICES" 6)(DF:Def P w K mg ai 2 "fits" ["names","numbers"] (qg K)):aM P w K mg ai aO 3 f fd ["row"] (OM K):=by
 refine F.aX ["row"] (λS H vs Q E hr h=> ?_);obtain⟨b,nums,rfl,hB,hl,k⟩:=h
 exists _,aC (bH (gY (tU gG gG (bM G g2) (bJ dc (by rfl) B.len cJ (aB (pv 0))) (bM G mo))) (aH tP) bG) (aH (aT DF hr (bu (bP zW (lJ (aB dQ)) (bJ dc (by rfl) B.len cJ (aB (pv 0)))) (pv 0))))
 have fin:nM nums=ao->Q (.bl ao) H:=λe=>by have:=k H (ah.refl H);rw[e]at this;exact this
 exists _,G,b,_,G,cO hB,_,_,G,G,_,G;rw[aE];refine b4 (λh1=> ?_) (λh1=> ?_)
 .have a0:2<=nums.length:=by have:=c_ h1;lia
  exists _,_,G,G,_,G;refine b4 (λh2=> ?_) (λh2=> ?_)
  .have b2:¬nums.length<=6:=λq=>by
    have:decide (((nums.length:Nat):Int)<=6)=aa:=aP (by lia);rw[this]at h2;cases h2
   exact fin (by unfold nM;rw[aV b2,Be,ig])
  have b2:nums.length<=6:=by
   by_cases q:nums.length<=6
   .exact q
   have:decide (((nums.length:Nat):Int)<=6)=ao:=aV (by lia);rw[this]at h2;exact aU G h2
  have ba:=cY;refine⟨(by decide),λp hp=> ?_⟩;have s1:ah H (upd H p (.tup [.str "o"])):=ah.new hp;exists _,G,b,_,G,cO (s1.seq hB);rw[aE];exists p,_,_,G,G,bz.of ay,(by simp),(by lia),(by lia),?_,λe=> ?_,λe p2 kz=> ?_
  .show 1*_<=sizeLine;rw[k_];lia
  .lia
  have s2:=ah.new (o:=.tup (dF ((nums.length:Nat):Int).toNat [V.str "o"]).flatten) kz;exists _,G,p2,b,dF nums.length "o",nums,G,bz.of ?_,s2.seq (s1.seq hB),λnm lw=> ?_,by rw[vd];lia,λU s3=> ?_
  .rw[ay,k_,z5,IW]
  .rw[IX lw];show(m6 "o")∈gF.map (·.1);decide
  have:=k U (s1.trans (s2.trans s3));unfold nM at this;rw[aP a0,aP b2,eB,eB]at this;unfold dD;rw[vd,aP G,eB,z4];exact this
 have a0:¬2<=nums.length:=λq=>h1 (aP (by lia));refine⟨_,G,bK (fin (by unfold nM;rw[aV a0,ig,ig]))⟩
theorem acP(F:bf K "is_news" (top 14) f fd)(B:dR mg)(ar:wM K mg)(X1:cS mg "MOST_NEWS" 10)(DF:Def P w K mg ai 2 "fits" ["names","numbers"] (qg K)):aM P w K mg ai aO 3 f fd ["row"] (ON K):=by
 refine F.aX ["row"] (λS H vs Q E hr h=> ?_);obtain⟨b,nums,rfl,hB,hl,k⟩:=h;obtain⟨a,hm,hT⟩:=ar.ex
 exists _,aC (bH (bL lH (bJ dc (by rfl) B.len cJ (aB (pv 0))) (bP vU (bM G X1) (bJ dc (by rfl) B.len cJ (aB (fz (by rfl) hm (show RelV (.ref a) _ from G)))))) (aH tP) bG) (aH (aT DF hr (bu (bP zW (fz (by rfl) hm (show RelV (.ref a) _ from G)) (bP Ks (bJ dc (by rfl) B.len cJ (aB (pv 0))) (bJ dc (by rfl) B.len cJ (aB (fz (by rfl) hm (show RelV (.ref a) _ from G)))))) (pv 0))));exists _,G,b,_,G,cO hB,a,_,G,cZ hT.sq,_,_,G,G,cO ⟨by decide,by decide⟩,_,_,G,G,_,G;have OO:((jb.map V.str).length:Int)=8:=rfl;rw[aE (f:=V.int),OO];refine b4 (λh1=> ?_) (λh1=> ?_)
 .have a0:¬nums.length<=80:=by have:=c_ h1;lia
  have:=k H (ah.refl H);unfold wN at this;rw[aV a0,ig]at this;exact this
 have a0:nums.length<=80:=by
  by_cases q:nums.length<=80
  .exact q
  exact aU (aP (by lia)) h1
 have fin:∀(p:af)(H1:Hp),ah H H1->bz K H1 p (((dF (nums.length/8) jb).flatten).map V.str)->qg K [.ref p,.ref b] H1 Q E0:=λp H1 s1 hp=>by
  exists p,b,_,nums,G,hp,s1.seq hB,λnm lw=> ?_,?_,λU s2=> ?_
  .obtain⟨l,pd,db⟩:=List.mem_flatten.mp lw;rw[IX pd]at db;have all:∀x∈jb,x∈gF.map (·.1):=by decide
   exact all nm db
  .rw[len_rep];show nums.length/8*8<=100000;lia
  have:=k U (s1.trans s2);unfold wN at this;rw[aP a0,eB]at this;exact this
 have ba:=cY;have GT:(((nums.length:Nat):Int)/8).toNat=nums.length/8:=by lia
 exists _,G,b,_,G,cO hB,a,_,G,cZ hT.sq,_,_,G,G,⟨by decide,by decide⟩;rw[aE (f:=V.int),OO];exists a,_,_,G,G,hT.sq,(by decide),(by lia),(by lia),?_,λe=> ?_,λe p hp=> ?_
 .show 8*_<=sizeLine;rw[GT];lia
 .exists _,G,fin a H (ah.refl H) ?_;have:nums.length/8=1:=by lia
  rw[this];exact hT.sq
 exists _,G,fin p _ (ah.new hp) (bz.of ?_);rw[ay,GT,acN]
def wO(nums:M Int):Bool:=decide (nums.length<=1200)&&nums.all (inR "byte")
inductive z6 K(vs:M V)H(Q:VK)(E:XK):Prop|mk(b:af)(nums:M Int)(_:vs=[.ref b])(_:az K H b (nums.map V.int))(_:nums.length<=20000)(_:∀U,ah H U->Q (.bl (wO nums)) U)
theorem acQ(F:bf K "is_text" (top 15) f fd)(B:dR mg)(g:cS mg "MOST_BYTES" 1200)(DF:Def P w K mg ai 2 "fits" ["names","numbers"] (qg K)):aM P w K mg ai aO 3 f fd ["row"] (z6 K):=by
 refine F.aX ["row"] (λS H vs Q E hr h=> ?_);obtain⟨b,nums,rfl,hB,hl,k⟩:=h;exists _,aH (Cb (jE gG (bJ dc (by rfl) B.len cJ (aB (pv 0))) (bM G g) (jZ _)) (vM (aT DF hr (bu (bP zW (lJ (aB dQ)) (bJ dc (by rfl) B.len cJ (aB (pv 0)))) (pv 0))))),_,G,b,_,G,cO hB,_,_,G,G,_,G;rw[aE];refine b4 (λh1=> ?_) (λh1=> ?_)
 .have a0:nums.length<=1200:=by have:=c_ h1;lia
  have ba:=cY;refine⟨(by decide),λp hp=> ?_⟩;have s1:ah H (upd H p (.tup [.str "byte"])):=ah.new hp;exists _,G,b,_,G,cO (s1.seq hB);rw[aE]
  have fin:∀(p2:af)(H1:Hp),ah H H1->bz K H1 p2 ((dF nums.length ("byte":aj)).map V.str)->qg K [.ref p2,.ref b] H1 Q E0:=λp2 H1 s2 hT=>by
   exists p2,b,dF nums.length "byte",nums,G,hT,s2.seq hB,λnm lw=> ?_,by rw[vd];lia,λU s3=> ?_
   .rw[IX lw];show(m6 "byte")∈gF.map (·.1);decide
   have:=k U (s2.trans s3);unfold wO at this;rw[aP a0,eB]at this;unfold dD;rw[vd,aP G,eB,z4];exact this
  exists p,_,_,G,G,bz.of ay,(by simp),(by lia),(by lia),?_,λe=> ?_,λe p2 kz=> ?_
  .show 1*_<=sizeLine;rw[k_];lia
  .exists _,G,fin p _ s1 (bz.of ?_);have:nums.length=1:=by lia
   rw[ay,this];rfl
  exists _,G,fin p2 _ (s1.trans (ah.new kz)) (bz.of ?_);rw[ay,k_,z5,IW]
 have a0:¬nums.length<=1200:=λq=>h1 (aP (by lia));have:=k H (ah.refl H);unfold wO at this;rw[aV a0,ig]at this;exact this
def wQ(H U:Hp):Prop:=∀b o,H b=I o->(∀xs,o≠ .lst xs)->U b=I o
theorem Em(l:M α)(Rx ge:α->V->Hp->Prop)(xk:∀a y H U,ge a y H->wQ H U->ge a y U)(hw:∀R:It->Hp->Prop,R J H1->wi σ H R)(hlen:l.length<=100000)
  (lm:∀U,ah H1 U->J.stop l.length U)(dq:∀i U,i<l.length->ah H1 U->J.go i U)
  (oP:∀i U x bp,i<l.length->ah H1 U->J.iD i U x bp->∃a,l[i]? =I a/\ah U bp/\Rx a x bp)
  (turn:∀a(x:V)(U:Hp)(Kt:V->Hp->Prop)(Kf:Hp->Prop),a∈l->Rx a x U->ah H1 U->(∀y H4,ah U H4->ge a y H4->Kt y H4)->g x (wipe σ vs) U λσ2 H2=>wipe σ2 vs=wipe σ vs/\tt σ2 H2 λb H3=>if b=aa then te σ2 H3 Kt else Kf H3)
  (fin:∀(U:Hp)(D:af)(ys:M V),ah H1 U->H1 D=ak->U D=I (.lst ys)->ys.length=l.length->(∀(i:Nat)(a:α)(y:V),l[i]? =I a->ys[i]? =I y->ge a y U)->Q (.ref D) U):mL wi g tt te vs σ H Q:=by
 refine hw _ λD hD=> ?_;exists λi m U=>i<=l.length/\m=l.length-i/\ah H1 U/\∃ys,U D=I (.lst ys)/\ys.length=i/\∀(j:Nat)(a:α)y,l[j]? =I a->ys[j]? =I y->ge a y U,⟨l.length,b6 _,G,ah.new hD,[],ay,G,λj a y _ h=>by simp at h⟩;rintro i m U⟨hi,rfl,s1,ys,hd,cf,kb⟩;obtain al|si:=i9 i l.length
 .refine .inr ⟨dq i U al s1,λH2=>i+1<=l.length/\ah H1 H2/\∃ys,H2 D=I (.lst ys)/\ys.length=i+1/\∀j(a:α)y,l[j]? =I a->ys[j]? =I y->ge a y H2,λH2⟨q1,q2,q3⟩=>⟨l.length-(i+1),by lia,q1,G,q2,q3⟩,λx H2 hy=> ?_⟩;obtain⟨a,ha,s2,hR⟩:=oP i U x H2 al s1 hy;refine turn a x H2 _ _ (bN ha) hR (s1.trans s2) λy H4 s4 hy4=> ?_;have xl:=s4 _ _ (s2 _ _ hd)
  have nl:wQ H4 (upd H4 D (.lst (ys++[y]))):=λb o e hb=>by
   by_cases q:b=D
   .rw[q,xl]at e;exact aU (cG e).symm (hb ys)
   rw[aD q];exact e
  have cw:wQ U H4:=λb o e _=>s4 _ _ (s2 _ _ e);exists ys,xl,?_,by lia,λb o eb=> ?_,ys++[y],ay,by rw[bD,cf];rfl,λj b z hb hz=> ?_
  .have:100000<sizeLine:=by decide
   lia
  .rw[aD (b_ eb hD)];exact s4 _ _ (s2 _ _ (s1 _ _ eb))
  obtain q|q:=i9 j ys.length
  .rw[xU q]at hz;exact xk _ _ _ _ (xk _ _ _ _ (kb j b z hb hz) cw) nl
  have hj:j=i:=by have:=(eL.mp hz).1;rw[bD]at this;simp at this;lia
  subst hj;rw[vc q,cf,uR]at hz;cases hz;rw[ha]at hb;cases hb;exact xk _ _ _ _ hy4 nl
 have eh:i=l.length:=by lia
 subst eh;exact .inl ⟨lm U s1,fin U D ys s1 hD hd cf kb⟩
inductive Cons P w K mg ai k x ps(sp:L2.Sp)C:Prop|mk{f:af}{fd:gC}(m:Mk K C f)(ok:aM P w K mg ai aO k f fd ps sp)(at_:mg x=I (.ref C))(b:Binds K fd ps [])
variable{ps:M aj}{sp:L2.Sp}{C:af}
def gw{j:Nat}(D:Cons X.prog X.w X.K X.mg X.ai k x ps sp C)(hr:d8 j X.A)(ha:PA X (e::es) t)
  (hg:Gl X x:=by rfl)(hj:k+1<=j:=by decide)(d5:(x==("__debug__":aj))=ao:=by decide)(he:bS (e::es) X.env=(ao,eval e X.env)::bS es X.env:=by rfl)(ag:(fH pos (bS es X.env)).any (·.1)=ao:=by rfl):
  PE X (.Call (.Name x p) (e::es) [] pos) (vY C sp [] E0 t):=
 match D with| .mk m ok at_ b=>XN m ok (hr.mono hj) hg at_ b .nil t9 ha d5 he ag
theorem OP m:Bm 0 ((8*m:Nat):Int) 8=m:=by unfold Bm;rw[av (by decide)];split<;>lia
theorem OQ{m:Nat}(h:m<=1000):LD 0 ((8*m:Nat):Int) 8 m:=by exists by decide,by decide,?_,OP m;unfold akm;rw[OP];unfold anj;rw[av (by decide)];have d1:decide (-2^63<=((8*m:Nat):Int))=aa:=aP (by lia);have d2:decide (((8*m:Nat):Int)<2^63)=aa:=aP (by lia);have Fu:decide (-2^63<=((m:Nat):Int))=aa:=aP (by lia);have xl:decide (((m:Nat):Int)<2^63)=aa:=aP (by lia);have Ha:decide (-2^63<=((8*m:Nat):Int)+(8-1))=aa:=aP (by lia);have xn:decide (((8*m:Nat):Int)+(8-1)<2^63)=aa:=aP (by lia);rw[d1,d2,Fu,xl,Ha,xn];cases((m:Int)==0)<;>decide
theorem acR(ns:M bO):(ns.flatMap cM).length=8*ns.length:=by
 induction ns with
 |nil=>rfl
 |cons a l ih=>rw[gW,bD,ih,bT];show 8+8*l.length=_;lia
theorem acS(ns:M bO):∀i n,ns[i]? =I n->((ns.flatMap cM).drop (8*i)).take 8=cM n:=by
 induction ns with
 |nil=>intro i n h;simp at h
 |cons a l ih=>
  intro i n h;rw[gW];cases i with
  |zero=>simp at h;subst h;rfl
  |succ i=>
   have h':l[i]? =I n:=by simpa using h
   rw[show 8*(i+1)=(cM a).length+8*i by show _=8+8*i;lia,List.drop_append,Vk (by lia),IY,ku];exact ih i n h'
theorem OR xs i(h:8*i+8<=xs.length):e_ xs (I ((0:Int)+(i:Nat)*8)) (I ((0:Int)+(i:Nat)*8+8))=(xs.drop (8*i)).take 8:=by
 have e1:(0+i*8)=((8*i:Nat):Int):=by lia
 have e2:(0+i*8+8)=((8*i+8:Nat):Int):=by lia
 unfold e_;rw[e2,e1,HT.p6,HT.p6,vh h,vh (show 8*i<=xs.length by lia),IY]
def OS{n:bO}(h:d9 C H a n)(s:wQ H U):d9 C U a n:=by obtain⟨dx,t,h1,h2⟩:=h;exact⟨dx,t,s _ _ h1 (λ_ q=>by cases q),s _ _ h2 (λ_ q=>by cases q)⟩
inductive OT K C(vs:M V)H(Q:VK)(E:XK):Prop|mk(b:af)(ns:M bO)(_:vs=[.ref b])(_:az K H b (aK (ns.flatMap cM)))(_:ns.length<=1000)(_:∀(U:Hp)(p:af)(l:M AN),ah H U->H p=ak->U p=I (.lst (refs l))->l.map (·.2)=ns->f9 C U l->Q (.ref p) U)
def acT:jt "range"=I (.type "range"):=by decide+kernel
theorem En{C:af}{H:Hp}:∀{ns:M bO}{ys:M V},(∀i(hi:i<ns.length),∃p,ys[i]? =I (.ref p)/\d9 C H p ns[i])->ys.length=ns.length->∃l:M AN,ys=refs l/\l.map (·.2)=ns/\∀x∈l,d9 C H x.1 x.2
 |[],ys,_,e=>⟨[],by cases ys with|nil=>rfl|cons a r=>simp at e,G,λx hx=>by cases hx⟩
 |n::ns,[],_,e=>by simp at e|n::ns,y::ys,h,e=>by
  obtain⟨p,h1,h2⟩:=h 0 (by simp)
  obtain⟨l,h3,h4,h5⟩:=En (λi hi=>by obtain⟨q,k1,k2⟩:=h (i+1) (by simpa using hi);exact⟨q,by simpa using k1,by simpa using k2⟩) (by simpa using e)
  have e1:y= .ref p:=by simpa using h1
  have e2:=h2;refine⟨(p,n)::l,by rw[e1,h3];rfl,by rw[b9,h4],λx hx=> ?_⟩;obtain q|q:=bh.mp hx
  .rw[q];exact e2
  exact h5 x q
def OU(hK:X.K=K):CB X (K2 K):=hK▸nH
def acU(hK:X.K=K):gZ X (.type "tuple") (λxs H Q=>∃p ys,xs=[.ref p]/\((az K H p ys/\∀l,H l=ak->Q (.ref l) (upd H l (.tup ys)))\/(bz K H p ys/\Q (.ref p) H))):=hK▸Yg
theorem acV(F:bf K "news_in" (top 23) f fd)(B:dR mg)(ar:wM K mg)(DN:Cons P w K mg ai 1 "News" ["self","row"] (DQ C) C):aM P w K mg ai aO 3 f fd ["row"] (OT K C):=by
 refine F.aX ["row","size","k"] (λS H vs Q E hr h=> ?_);obtain⟨b,ns,rfl,hB,hl,k⟩:=h;obtain⟨a,hm,hT⟩:=ar.ex;have hlen:(aK (ns.flatMap cM)).length=8*ns.length:=by rw[fT,acR]
 exists _,aC (vP (i:=1) S G (cZ G) (bJ dc (by rfl) B.len cJ (aB (fz (by rfl) hm (show RelV (.ref a) _ from G))))) (aH (fM G S (LF (by rfl) B.range (cg aF (bJ dc (by rfl) B.len cJ (aB (pv 0))) (pv 1))) (own:=[("k",2)]) (dY ["row","size","k"] (cz (top 23))) (by intro _ _ _ _ _;exact cE 2 S) (by intro _ _ _ _ _;exact iP)
   (by intro _ _ _ _ _;exact gw DN hr (aB (tV (acU G) (by rfl) B.tuple boot_tuple (aB (mK (OU G) (pv 0) (g4 (pv 2)) (g4 (bP fY (pv 2) (pv 1))))))))))
 exists a,_,G,cZ hT.sq;dsimp only[pW,lD,jC];refine Em (J:=zo 0 8 ns.length) (H1:=H) (gR ns.length) (λi x _=>x= .int ((0:Int)+(i:Nat)*8)) (λi y H=>∃p n,y= .ref p/\ns[i]? =I n/\d9 C H p n) (λi y H U⟨p,n,h1,h2,h3⟩s1=>⟨p,n,h1,h2,OS h3 s1⟩) (λR h=> ?_) (by rw[iz];lia) (λU s1=> ?_) (λi U hi s1=> ?_) (λi U x bp hi s1 hy=> ?_) (λi x U Kt Kf hi hR s1 ht=> ?_) λU D ys s1 hD hd cf kb=> ?_
 .exists _,G,b,_,G,cO hB,_,G,0,_,8,ns.length,G,(by rw[hlen];exact OQ hl),h
 .show ns.length<=(gR ns.length).length;rw[iz];exact aZ _
 .show i<ns.length;rw[iz]at hi;exact hi
 .obtain⟨rfl,rfl⟩:=hy;rw[iz]at hi;exists i,qP hi,ah.refl _,G
 .subst hR;have eh:i<ns.length:=by simpa using hi
  have hn:ns[i]? =I ns[i]:=bg eh;exists G,bK (B:=Kf U) ?_;refine⟨_,G,_,G,_,G,_,G,_,G,_,_,G,G,_,G,b,_,G,s1.seq hB,λp hp=> ?_⟩;have s2:=ah.new (o:=.lst (e_ (aK (ns.flatMap cM)) (I ((0:Int)+(i:Nat)*8)) (I ((0:Int)+(i:Nat)*8+8)))) hp
  have ec:e_ (aK (ns.flatMap cM)) (I ((0:Int)+(i:Nat)*8)) (I ((0:Int)+(i:Nat)*8+8))=aK (cM ns[i]):=by rw[OR _ _ (by rw[hlen];lia),<-acS ns i _ hn];unfold aK;rw[yl,qO]
  refine⟨p,_,G,cO ⟨az.of ay,λt htn=> ?_⟩⟩;have s3:=ah.new (o:=.tup (e_ (aK (ns.flatMap cM)) (I ((0:Int)+(i:Nat)*8)) (I ((0:Int)+(i:Nat)*8+8)))) htn;refine λx dx hx pf aw=> ?_;have ph:t≠x:=λq=>by rw[<-q,ay]at hx;cases hx
  have bb:t≠dx:=λq=>by rw[<-q,ay]at pf;cases pf
  exists x,t,dx,ns[i],G,ay,?_,λH9 h9 k9=>⟨G,ht _ _ (s2.trans (s3.trans (ah.made hx pf k9))) ?_⟩
  .rw[aD ph,aD bb,ay];exact cC (λz=>I (HO.tup z)) ec
  exists x,ns[i],G,hn,dx,t,h9,k9 t _ ?_ ph;rw[aD ph,aD bb,ay];exact cC (λz=>I (HO.tup z)) ec
 rw[iz]at cf
 have each:∀i(hi:i<ns.length),∃p,ys[i]? =I (.ref p)/\d9 C U p ns[i]:=λi hi=>by have hy:ys[i]? =I (ys[i]'(by lia)):=bg (by lia);obtain⟨p,n,h1,h2,h3⟩:=kb i i _ (qP hi) hy;rw[bg hi]at h2;cases h2;exists p,by rw[hy,h1],h3
 obtain⟨l,pd,db,X2⟩:=En each cf;exact k U D l s1 hD (by rw[hd,pd]) db ⟨X2,by rw[<-db,aE]at hl;exact hl⟩
def Eo(J:It)(g:TG)(tt:TT)(te:TE)(vs:M Nat)(σ:L2.St)(H1:Hp)(Q:VK):Prop:=mL (λ_ _ R=>R J H1) g tt te vs σ H1 Q
def OV(h:wi σ H λJ H1=>Eo J g tt te vs σ H1 Q):mL wi g tt te vs σ H Q:=h
def OW(l:M α)(Rx ge:α->V->Hp->Prop)(xk:∀a y H U,ge a y H->wQ H U->ge a y U)(hlen:l.length<=100000)
  (lm:∀U,ah H1 U->J.stop l.length U)(dq:∀i U,i<l.length->ah H1 U->J.go i U)
  (oP:∀i U x bp,i<l.length->ah H1 U->J.iD i U x bp->∃a,l[i]? =I a/\ah U bp/\Rx a x bp)
  (turn:∀a(x:V)(U:Hp)(Kt:V->Hp->Prop)(Kf:Hp->Prop),a∈l->Rx a x U->ah H1 U->(∀y H4,ah U H4->ge a y H4->Kt y H4)->g x (wipe σ vs) U λσ2 H2=>wipe σ2 vs=wipe σ vs/\tt σ2 H2 λb H3=>if b=aa then te σ2 H3 Kt else Kf H3)
  (fin:∀(U:Hp)(D:af)(ys:M V),ah H1 U->H1 D=ak->U D=I (.lst ys)->ys.length=l.length->(∀(i:Nat)(a:α)(y:V),l[i]? =I a->ys[i]? =I y->ge a y U)->Q (.ref D) U):Eo J g tt te vs σ H1 Q:=
 Em (wi:=λ_ _ R=>R J H1) (J:=J) (H:=H1) (H1:=H1) l Rx ge xk (λ_ h=>h) hlen lm dq oP turn fin
abbrev AT:=af×M Nat
def wR(l:M AT):M V:=l.map λx=>V.ref x.1
def wU(H:Hp)(l:M AT):Prop:=∀x∈l,H x.1=I (.tup (aK x.2))
theorem Ep{H:Hp}:∀{ns:M (M Nat)}{ys:M V},(∀i(hi:i<ns.length),∃p,ys[i]? =I (.ref p)/\H p=I (.tup (aK ns[i])))->ys.length=ns.length->∃l:M AT,ys=wR l/\l.map (·.2)=ns/\wU H l
 |[],ys,_,e=>⟨[],by cases ys with|nil=>rfl|cons a r=>simp at e,G,λx hx=>by cases hx⟩
 |n::ns,[],_,e=>by simp at e|n::ns,y::ys,h,e=>by
  obtain⟨p,h1,h2⟩:=h 0 (by simp)
  obtain⟨l,h3,h4,h5⟩:=Ep (λi hi=>by obtain⟨q,k1,k2⟩:=h (i+1) (by simpa using hi);exact⟨q,by simpa using k1,by simpa using k2⟩) (by simpa using e)
  have e1:y= .ref p:=by simpa using h1
  refine⟨(p,n)::l,by rw[e1,h3];rfl,by rw[b9,h4],λx hx=> ?_⟩;obtain q|q:=bh.mp hx
  .rw[q];exact h2
  exact h5 x q
def jk(way:M AN):M AN:=way.filter λx=> !decide (x.2.kind=3)
def Er(route:M Nat)(z:AN×AN):M Nat:=[z.1.2.office,z.2.2.office,Sg.wB route z.1.2 z.2.2]
def qh(route:M Nat)(way:M AN):M (M Nat):=((jk way).zip ((jk way).drop 1)).map (Er route)
def acW route way:qh route way=(wC route (way.map (·.2))).map λx=>[x.1,x.2.1,x.2.2]:=by unfold qh wC jk;simp only;rw[oj,<-qO,akL,bQ,bQ];rfl
inductive OX K C(vs:M V)H(Q:VK)(E:XK):Prop|mk(r l:af)(route:M Nat)(way:M AN)(_:vs=[.ref r,.ref l])(_:az K H r (aK route))(_:az K H l (refs way))(_:f9 C H way)(_:(∀x∈way,x.2.office∈route))(_:∀(U:Hp)(p:af)(ts:M AT),ah H U->H p=ak->U p=I (.lst (wR ts))->wU U ts->ts.map (·.2)=(wC route (way.map (·.2))).map (λx=>[x.1,x.2.1,x.2.2])->ts.length<=1000->Q (.ref p) U)
theorem acX(F:bf K "seals_of" (top 52) f fd)(N:fc K C)(ar:Kinds mg)(B:dR mg)(DS:Def P w K mg ai 1 "seal_between" ["route","news","later"] (M_ K C)):aM P w K mg ai aO 2 f fd ["route","way"] (OX K C):=by
 refine F.aX ["route","way","sealed","news","later"] (λS H vs Q E hr h=> ?_);obtain⟨r,l,route,way,rfl,hR',hL,T,hO,k⟩:=h
 exists _,aC (rG (i:=2) G S G G G (cV (pv 1)) (own:=[("news",3)]) (dY ["route","way","sealed","news","later"] (cz (top 52))) (by intro _ _ _ _ _;exact cE 3 S) (by intro _ _ _ _ _;exact j3 (bL lG (gv G (pv 3) G) (bM G ar.cleared))) (by intro _ _ _ _ _;exact pv 3))
  (aH (fM G S (LR (by rfl) B.zip (bu (pv 2) (mK nH (pv 2) (g4 aF) Cz))) (own:=[("news",3),("later",4)]) (dY ["route","way","sealed","news","later"] (cz (top 52))) (by intro _ _ _ _ _;exact OL (K:=K) (i:=3) (j:=4) G G S G G G G) (by intro _ _ _ _ _;exact iP)
   (by intro _ _ _ _ _;exact lJ (cg (gv (K:=K) G (pv 3) G) (gv (K:=K) G (pv 4) G) (aT DS hr (cg (pv 0) (pv 3) (pv 4)))))))
 have ew:=T.len;dsimp only[pW,jY,kK];refine kN way (λx=>V.ref x.1) (λx=> !decide (x.2.kind=3)) (λx=>V.ref x.1) (λR h=>⟨_,G,h⟩) (by lia) hL (λa U Kt Kf ha s1 ht hf=> ?_) λH1 ro s1 Ty hs1=> ?_
 .obtain⟨dx,tt,hA,_⟩:=(T.at_ a ha).same s1;exists G,_,G,a.1,C,dx,_,_,G,hA,N.cl,N.told,G,G,_,G;rw[show decide (V.int (a.2.kind:Int)=V.int 3)=decide (a.2.kind=3) from ff a.2.kind 3];refine b4 (λh1=> ?_) (λh1=> ?_)
  .exists _,G,ht U (ah.refl _) h1
  exact hf U (ah.refl _) (by simpa using h1)
 have Ya:H1 ro=I (.lst (refs (jk way))):=hs1;have vy:(jk way).length<=1000:=cX (gV _ _) ew;have sB:∀x∈jk way,x∈way:=λx hx=>(eY.mp hx).1;refine OV ?_;refine⟨_,G,_,G,_,G,ro,_,G,az.of Ya,λp hp=> ?_⟩;rw[Nb,aaQ];have s3:ah H1 (upd H1 p (.lst (refs ((jk way).drop 1)))):=ah.new hp;exists ro,p,_,_,G,az.of (s3 _ _ Ya),az.of ay;have hz:∀U,ah (upd H1 p (.lst (refs ((jk way).drop 1)))) U->U ro=I (.lst (refs (jk way)))/\U p=I (.lst (refs ((jk way).drop 1))):=λU s=>⟨s _ _ (s3 _ _ Ya),s _ _ ay⟩
 refine OW ((jk way).zip ((jk way).drop 1)) (λz x U=>∃TT,x= .ref TT/\U TT=I (.tup [V.ref z.1.1,V.ref z.2.1])) (λz y U=>∃p,y= .ref p/\U p=I (.tup (aK (Er route z))))
  (λz y H2 H3⟨p,h1,h2⟩s4=>⟨p,h1,s4 _ _ h2 (λ_ q=>by cases q)⟩) (by rw[qS];lia) (λU s4=> ?_) (λi U hi s4=> ?_) (λi U x bp hi s4 hy=> ?_) (λz x U Kt Kf my hR s4 ht=> ?_) λU D ys s4 hD hd cf kb=> ?_
 .obtain⟨h1,h2⟩:=hz U s4;exists _,_,az.of h1,az.of h2;rw[ug,ug,qS];lia
 .obtain⟨h1,h2⟩:=hz U s4;obtain⟨g1,g2⟩:=zip_get (bg hi);exists _,_,_,_,az.of h1,az.of h2,p_ g1,p_ g2
 .obtain⟨TT,x1,y1,rfl,xb,rfl,hY,xc⟩:=hy;obtain⟨h1,h2⟩:=hz U s4;obtain⟨g1,g2⟩:=zip_get (bg hi);have ex:=cG ((hY _ (az.of h1)).symm.trans (p_ g1));have ey:=cG ((xc _ (az.of h2)).symm.trans (p_ g2));subst ex;subst ey;exists _,bg hi,ah.new xb,TT,G,ay
 .obtain⟨TT,rfl,xb⟩:=hR;obtain⟨i,hi⟩:=alE my;obtain⟨g1,g2⟩:=zip_get hi;have m1:=sB _ (bN g1);have m2:=sB _ (akM (bN g2));have mB:ah H U:=s1.trans (s3.trans s4);have eR:=(T.at_ _ m1).same mB;have a4:=(T.at_ _ m2).same mB;obtain⟨dx,Fk,hA,_⟩:=id eR;obtain⟨dy,ty,hB,_⟩:=id a4;exists TT,_,G,bz.of xb,G,_,_,G,_,_,G,G,G,bK (B:=Kf U) ?_;refine⟨_,G,z.1.1,C,dx,_,_,G,hA,N.cl,N.office,G,_,G,z.2.1,C,dy,_,_,G,hB,N.cl,N.office,G,_,G,_,G,_,G,r,z.1.1,z.2.1,route,z.1.2,z.2.2,G,mB.seq hR',hO _ m1,hO _ m2,eR,a4,(by show 3<=sizeLine;decide),λb hb=> ?_⟩;exact ht _ _ (ah.new hb) ⟨b,G,ay⟩
 have Yf:((jk way).zip ((jk way).drop 1)).length=(qh route way).length:=by unfold qh;rw[aE]
 obtain⟨ts,t1,t2,t3⟩:=Ep (H:=U) (ns:=qh route way) (ys:=ys) (λi lx=>by
  have hi:=lx;rw[<-Yf]at hi;have hy:ys[i]? =I (ys[i]'(by lia)):=bg (by lia);obtain⟨p,h1,h2⟩:=kb i _ _ (bg hi) hy;refine⟨p,by rw[hy,h1],?_⟩;rw[h2]
  have e:(qh route way)[i]? =I (Er route ((jk way).zip ((jk way).drop 1))[i]):=by unfold qh;rw[bF,bg hi];rfl
  rw[bg lx]at e;rw[cG e]) (by rw[cf,Yf])
 refine k U D ts (s1.trans (s3.trans s4)) (s1.free (s3.free hD)) (by rw[hd,t1]) t3 (by rw[t2,acW]) ?_;have:ts.length=(qh route way).length:=by rw[<-t2,aE]
 rw[this,<-Yf,qS];lia
theorem OY:∀{xs:M V}{us:M aq},xs.length=us.length->(∀(i:Nat)x u,xs[i]? =I x->us[i]? =I u->RelV x u)->Vals xs us|[],[],_,_=>.nil|[],_::_,e,_=>by simp at e|_::_,[],e,_=>by simp at e|x::xs,u::us,e,h=>.cons (h 0 x u G G) (OY (by simpa using e) λi y v hy hv=>h (i+1) y v (by simpa using hy) (by simpa using hv))
def acY:gZ X (.type "range") (λvs H Q=>∃i j:Int,vs=[.int i,.int j]/\∀r,H r=ak->Q (.ref r) (upd H r (.q_ i j))):=by
 intro pins s σ H vs us Q ab r h;obtain⟨i,j,rfl,q⟩:=h;cases r with
 |cons r1 rr=>
  cases rr with
  |cons r2 rr=>cases rr;obtain⟨t,rfl⟩:=r1;obtain⟨u,rfl⟩:=r2;refine call_range_2 ⟨.ref s.heap.objs.size,upd H s.heap.objs.size (.q_ i j),ab.laid (λb o e=>cu _ e) (aZ _) ⟨t,u,s.toks,di _ G⟩,G,q _ (ab.aQ.fresh (aZ _))⟩
inductive acZ(vs:M V)H(Q:VK):Prop|mk r lo hi(_:vs=[.ref r])(_:H r=I (.q_ lo hi))(_:(-1000000<=lo/\lo<=1000000/\ -1000000<=hi/\hi<=1000000))(_:∀l,H l=ak->Q (.ref l) (upd H l (.lst ((gR (hi-lo).toNat).map λ(i:Nat)=>V.int (lo+(i:Int))))))
theorem ac0(hc:X.calm=aa):gZ X (.type "list") acZ:=by
 intro pins s σ H vs us Q ab r h;obtain⟨a,lo,hi,rfl,ha,⟨b1,cc,cr,fI⟩,q⟩:=h;rw[Vals.nI r];obtain⟨t,u,v,e⟩:=ab.aQ a _ ha;have ba:Bm lo hi 1=(((hi-lo).toNat:Nat):Int):=by rw[rangeSize_one];split<;>lia
 refine call_list_range (ab.ok.hd hc) e (small_one (by lia) (by lia) (by lia) (by lia)) ba (by lia) λh' tk c6 c' hk he⟨i1,i2⟩=> ?_
 have hl:((gR (hi-lo).toNat).map λ(i:Nat)=>V.int (lo+i)).length<=sizeLine:=by rw[aE,iz,cY];lia
 have hv:Vals ((gR (hi-lo).toNat).map λ(i:Nat)=>V.int (lo+(i:Int))) c6.toList:=OY (by rw[aE,iz,fk,i1]) λi x w hx hw=> ?_
 .exists .ref s.heap.objs.size,upd H s.heap.objs.size (.lst ((gR (hi-lo).toNat).map λ(i:Nat)=>V.int (lo+i))),ab.laid hk (aZ _) (⟨hl,c6.toList,c',hv,by simpa using he⟩),G,q _ (ab.aQ.fresh (aZ _))
 rw[m9]at hw;obtain⟨t',e'⟩:=i2 i w hw;rw[bF]at hx
 have eh:i<(hi-lo).toNat:=by have:=(UM.mp hw).1;lia
 rw[qP eh]at hx;cases hx;rw[e'];exists t';rw[ajK]
def ac1:jt "list"=I (.type "list"):=by decide+kernel
inductive Met P w K mg ai k m ps(sp:L2.Sp)C:Prop|mk{f:af}{fd:gC}(m:Meth K C m f)(ok:aM P w K mg ai aO k f fd ps sp)(b:Binds K fd ps [])
variable{m:aj}{c0:fG}{ta:TE}{pl:jS Bool}
def cK{j:Nat}(D:Met X.prog X.w X.K X.mg X.ai k m ps sp C)(c:fK X.K C)(hr:d8 j X.A)(ho:PE X o ta)(ha:PA X (e::es) t)
  (hj:k<=j:=by decide)(bi:bS (e::es) X.env=(ao,eval e X.env)::bS es X.env:=by rfl)(ag:(fH pos (bS es X.env)).any (·.1)=ao:=by rfl)
  (ht:eval (.Call (.Attribute o m c0) (e::es) [] pos) X.env=(do
   let ov<-eval o X.env
   uW c0.atName
   let(f,first)<-holding [ov] (uZ ov m pl)
   u5 pos f first (fH pos (bS (e::es) X.env)) (sI pos (sJ [] X.env))):=by rfl):
  PE X (.Call (.Attribute o m c0) (e::es) [] pos) (yY C m sp [] E0 ta t):=
 match D with| .mk m ok b=>XJ (pl:=pl) ho c m ok (hr.mono hj) b .nil t9 ha bi ag ht
def dU{j:Nat}(D:Met X.prog X.w X.K X.mg X.ai k m ps sp C)(c:fK X.K C)(hr:d8 j X.A)(ho:PE X o ta)
  (hj:k<=j:=by decide)
  (ht:eval (.Call (.Attribute o m c0) [] [] pos) X.env=(do
   let ov<-eval o X.env
   uW c0.atName
   let(f,first)<-holding [ov] (uZ ov m pl)
   u5 pos f first (fH pos (bS [] X.env)) (sI pos (sJ [] X.env))):=by rfl):
  PE X (.Call (.Attribute o m c0) [] [] pos) (yY C m sp [] E0 ta gH):=
 match D with| .mk m ok b=>XM (pl:=pl) ho c m ok (hr.mono hj) b .nil t9 ht
structure fh where
 N:af
 J:af
 S:af
 V:af
 B:af
abbrev AJ:=af×bw
def jL(l:M AJ):M V:=l.map λx=>V.ref x.1
structure jm(js:M bw):Prop where
 num:∀i j,js[i]? =I j->j.number=i+1
 ok:∀j∈js,g7 j
 len:js.length<=16
structure wV(J:af)(H:Hp)(l:af)(jl:M AJ):Prop where
 at_:H l=I (.lst (jL jl))
 each:∀x∈jl,lP J H x.1 x.2
def wV.same{J:af}{H U:Hp}{l:af}{jl:M AJ}(h:wV J H l jl)(s:ah H U):wV J U l jl:=⟨s _ _ h.at_,λx hx=>(h.each x hx).same s⟩
structure jM(K:aR)(C:af):Prop where
 cl:fK K C
 journeys:cF K C "journeys"
 known:cF K C "known"
structure gx(c:fh)(H:Hp)(v:af)(js:M bw)(kn:M bO):Prop where
 ex:∃(dx lj gL:af)(jl:M AJ)(d:DN),H v=I (.ins c.V dx [("journeys",.ref lj),("known",.ref gL)])/\wV c.J H lj jl/\jl.map (·.2)=js/\DictAt c.N H gL d/\Sg.KD nw d kn
 ok:jm js
 kinds:fS kn
def gx.same{c:fh}{H U:Hp}{v:af}{js:M bw}{kn:M bO}(h:gx c H v js kn)(s:ah H U):gx c U v js kn:=by obtain⟨⟨dx,lj,gL,jl,d,h1,h2,h3,h4,h5⟩,h6,h7⟩:=h;exists⟨dx,lj,gL,jl,d,s _ _ h1,h2.same s,h3,h4.same s,h5⟩,h6,h7
def rO(js:M bw):M V:=js.map λj=>V.int (j.number:Nat)
variable{js:M bw}
theorem jm.nums(h:jm js):((gR js.length).map λ(i:Nat)=>V.int (1+(i:Int)))=rO js:=by
 refine Bx λi=> ?_;unfold rO;rw[bF,bF];obtain q|q:=i9 i js.length
 .have e:=bg q;rw[qP q,e];have:=h.num i _ e;show I (V.int (1+(i:Int)))=I (V.int _);rw[this];congr 2;lia
 rw[n9 (by rw[iz];exact q),n9 q];rfl
variable{j:bw}
theorem jm.find(h:jm js)(hj:j∈js):js[j.number-1]? =I j/\1<=j.number/\j.number<=16:=by obtain⟨i,hi,rfl⟩:=Vf.mp hj;have e:=bg hi;have:=h.num i _ e;have:=h.len;refine⟨?_,by lia,by lia⟩;rw[show js[i].number-1=i by lia];exact e
def ac2{jl:M AJ}(e:jl.map (·.2)=js)(h:js[i]? =I j):∃x,jl[i]? =I x/\x.2=j/\(jL jl)[i]? =I (V.ref x.1):=by rw[<-e,bF]at h;obtain⟨x,h1,h2⟩:=gP.mp h;exists x,h1,h2;unfold jL;rw[bF,h1];rfl
inductive Es(c:fh)(vs:M V)(H:Hp)(Q:VK)(E:XK):Prop|mk(p a b dx:af)(_:vs=[.ref p,.ref a,.ref b])(_:H p=I (.ins c.V dx []))(_:∀U,U p=I (.ins c.V dx [("journeys",.ref a),("known",.ref b)])->(∀b o,H b=I o->b≠p->U b=I o)->Q .bx U)
variable{c:fh}
def ac3(F:dg K "__init__" "View.__init__" Js f fd)(N:jM K c.V):aM P w K mg ai aO 1 f fd ["self","journeys","known"] (Es c):=by refine F.aX ["self","journeys","known"] (λS H vs Q E hr h=> ?_);obtain⟨p,a,b,dx,rfl,hp,k⟩:=h;exists _,aC (cR (pv 0) (pv 1) G) (cA (cR (pv 0) (pv 2) G)),_,G,_,G,p,c.V,dx,_,G,hp,N.cl,N.journeys,(by decide),_,G,_,G,p,c.V,dx,_,G,ay,N.cl,N.known,(by show 1<1000;decide);refine k _ (by rw[ay];rfl) λb o e hb=> ?_;rw[aD hb,aD hb];exact e
inductive Et c(vs:M V)H(Q:VK)(E:XK):Prop|mk(v:af)(js:M bw)(kn:M bO)(_:vs=[.ref v])(_:gx c H v js kn)(_:∀(U:Hp)(p:af),ah H U->H p=ak->U p=I (.lst (rO js))->Q (.ref p) U)
theorem ac4(F:dg K "all_numbers" "View.all_numbers" Jt f fd)(N:jM K c.V)(B:dR mg)(hL:mg "list"=ak):aM P w K mg ai aO 1 f fd ["self"] (Et c):=by
 refine F.aX ["self"] (λS H vs Q E hr h=> ?_);obtain⟨v,js,kn,rfl,⟨⟨dx,lj,gL,jl,d,h1,h2,h3,h4,h5⟩,h6,h7⟩,k⟩:=h;exists _,aH (tV (ac0 G) (by rfl) hL ac1 (aB (tV acY (by rfl) B.range acT (bu aF (bP fY (bJ dc (by rfl) B.len cJ (aB (aS 0))) aF)))));have hl:(jL jl).length=js.length:=by rw[<-h3];unfold jL;rw[aE,aE]
 have:=h6.len;refine⟨_,G,v,c.V,dx,_,_,G,h1,N.cl,N.journeys,G,lj,_,G,.inl (az.of h2.at_),_,_,G,G,_,_,G,λr Y1=> ?_⟩;refine⟨r,_,_,G,ay,⟨by lia,by lia,by rw[hl];lia,by rw[hl];lia⟩,λl OZ=> ?_⟩;have s1:=ah.new (o:=.q_ 1 (((jL jl).length:Nat)+1)) Y1;refine k _ l (s1.trans (ah.new OZ)) (s1.free OZ) ?_;rw[ay,hl,show((((js.length:Nat):Int)+1)-1).toNat=js.length by lia,h6.nums]
inductive wW c(vs:M V)H(Q:VK)(E:XK):Prop|mk(v:af)(js:M bw)(kn:M bO)(j:bw)(_:vs=[.ref v,.int (j.number:Nat)])(_:gx c H v js kn)(_:j∈js)(_:∀a,lP c.J H a j->Q (.ref a) H)
theorem ac5(F:dg K "journey_of" "View.journey_of" Ju f fd)(N:jM K c.V):aM P w K mg ai aO 1 f fd ["self","number"] (wW c):=by
 refine F.aX ["self","number"] (λS H vs Q E hr h=> ?_);obtain⟨v,js,kn,j,rfl,⟨⟨dx,lj,gL,jl,d,h1,h2,h3,h4,h5⟩,h6,h7⟩,hj,k⟩:=h;exists _,aH (bk (aS 0) (bP mJ (pv 1) aF));obtain⟨e,n1,n2⟩:=h6.find hj;obtain⟨x,x1,x2,x3⟩:=ac2 h3 e;exists _,G,v,c.V,dx,_,_,G,h1,N.cl,N.journeys,G,_,G,_,_,G,G,lj,_,_,_,G,G,az.of h2.at_,?_,k x.1 ?_
 .rw[show((j.number:Nat):Int)-1=((j.number-1:Nat):Int) by lia];exact aW x3
 rw[<-x2];exact h2.each x (bN x1)
inductive ur c(vs:M V)H(Q:VK)(E:XK):Prop|mk(v:af)(js:M bw)(kn:M bO)(j:bw)(_:vs=[.ref v,.int (j.number:Nat)])(_:gx c H v js kn)(_:j∈js)(_:∀a,H a=I (.lst (aK j.route))->Q (.ref a) H)
def gx.ins{c:fh}{H:Hp}{v:af}{js:M bw}{kn:M bO}(h:gx c H v js kn):∃dx a b,H v=I (.ins c.V dx [("journeys",.ref a),("known",.ref b)]):=by obtain⟨⟨dx,lj,gL,jl,d,h1,_⟩,_⟩:=h;exists dx,lj,gL,h1
def ac6(F:dg K "route_of" "View.route_of" Jv f fd)(N:jM K c.V)(NJ:rL K c.J)(MJ:Met P w K mg ai 1 "journey_of" ["self","number"] (wW c) c.V):aM P w K mg ai aO 2 f fd ["self","number"] (ur c):=by refine F.aX ["self","number"] (λS H vs Q E hr h=> ?_);obtain⟨v,js,kn,j,rfl,hV,hj,k⟩:=h;exists _,aH (fD (cK MJ N.cl hr (pv 0) (aB (pv 1))) G);obtain⟨dx,a,b,hv⟩:=hV.ins;exists _,G,v,dx,_,G,hv,G,_,G,v,js,kn,j,G,hV,hj,λja⟨cn,rl,q1,q2⟩=>⟨ja,c.J,cn,_,_,G,q1,NJ.cl,NJ.route,G,k rl q2⟩
inductive O0 c(vs:M V)H(Q:VK)(E:XK):Prop|mk(v:af)(js:M bw)(kn:M bO)(_:vs=[.ref v])(_:gx c H v js kn)(_:∀(U:Hp)(p:af)(ns:M AN),ah H U->H p=ak->U p=I (.lst (refs ns))->ns.map (·.2)=yg kn->ns.length<=1000->Q (.ref p) U)
def ac7(F:dg K "force" "View.force" Jw f fd)(N:jM K c.V)(DI:Def P w K mg ai 2 "in_force" ["known"] (DU c.N)):aM P w K mg ai aO 3 f fd ["self"] (O0 c):=by refine F.aX ["self"] (λS H vs Q E hr h=> ?_);obtain⟨v,js,kn,rfl,⟨⟨dx,lj,gL,jl,d,h1,h2,h3,h4,h5⟩,h6,h7⟩,k⟩:=h;exists _,aH (aT DI hr (aB (aS 0))),_,G,v,c.V,dx,_,_,G,h1,N.cl,N.known,G,gL,d,kn,G,h4,h5,λH1 p ns s1 hp ag cp _ hlen=>k H1 p ns s1 hp ag cp hlen
inductive Eu c(vs:M V)H(Q:VK)(E:XK):Prop|mk(v:af)(js:M bw)(kn:M bO)(j:bw)(_:vs=[.ref v,.int (j.number:Nat)])(_:gx c H v js kn)(_:j∈js)(_:∀(U:Hp)(p:af)(ns:M AN),ah H U->H p=ak->U p=I (.lst (refs ns))->ns.map (·.2)=mR kn j->Told c.N U j.route ns->Q (.ref p) U)
variable{d:DN}{kn:M bO}
def ac8(D:Sg.KD nw d kn)j:((mR kn j).map λn=>n.id).Nodup:=by have h2:(alF (λn=>n.journey==j.number) (alF (λn=>n.kind !=4) kn)).Pairwise λa b=>a.id<b.id:=(akH _ D.iG).filter _;rw[Bu,pG];exact h2.imp λq=>d_ q
def ac9(F:dg K "force_of" "View.force_of" Jx f fd)(N:jM K c.V)(DI:Def P w K mg ai 3 "in_force_of" ["known","journey"] (Nl c.N)):aM P w K mg ai aO 4 f fd ["self","number"] (Eu c):=by
 refine F.aX ["self","number"] (λS H vs Q E hr h=> ?_);obtain⟨v,js,kn,j,rfl,⟨⟨dx,lj,gL,jl,d,h1,h2,h3,h4,h5⟩,h6,h7⟩,hj,k⟩:=h;refine⟨_,aH (aT DI hr (bu (aS 0) (pv 1))),_,G,v,c.V,dx,_,_,G,h1,N.cl,N.known,G,_,G,gL,j.number,d,kn,G,h4,h5,λH1 p ns s1 hp ag cp hX hlen=> ?_⟩;have e:ns.map (·.2)=mR kn j:=cp;have J:=h6.ok j hj;refine k H1 p ns s1 hp ag e ⟨J.nd,J.two,λx hx=> ?_,λx hx=> ?_,?_,hlen⟩
 .obtain⟨s',i3⟩:=hX x hx;exact(h4.news s' x i3).same s1
 .exact(zG h7 (by rw[<-e];exact b7.mpr ⟨x,hx,G⟩)).2.1
 have:=ac8 h5 j;rw[<-e,bQ]at this;exact this
inductive uu c(vs:M V)H(Q:VK)(E:XK):Prop|mk(v:af)(js:M bw)(kn:M bO)(j:bw)(_:vs=[.ref v,.int (j.number:Nat)])(_:gx c H v js kn)(_:j∈js)(_:∀(U:Hp)(p:af)(way:M AN),ah H U->H p=ak->U p=I (.lst (refs way))->f9 c.N U way->way.map (λx=>(cI j.route x.2,x.2))=cD kn j->(∀x∈way,x.2.office∈j.route)->Q (.ref p) U)
def ac_(F:dg K "way_of_journey" "View.way_of_journey" Jy f fd)(N:jM K c.V)(MR:Met P w K mg ai 2 "route_of" ["self","number"] (ur c) c.V)(ada:Met P w K mg ai 4 "force_of" ["self","number"] (Eu c) c.V)
  (DW:Def P w K mg ai 3 "way_of" ["route","told"] (Dv K c.N)):aM P w K mg ai aO 5 f fd ["self","number"] (uu c):=by
 refine F.aX ["self","number"] (λS H vs Q E hr h=> ?_);obtain⟨v,js,kn,j,rfl,hV,hj,k⟩:=h;exists _,aH (aT DW hr (bu (cK MR N.cl hr (pv 0) (aB (pv 1))) (cK ada N.cl hr (pv 0) (aB (pv 1)))));obtain⟨dx,a,b,hv⟩:=hV.ins;refine⟨_,G,v,dx,_,G,hv,G,_,G,v,js,kn,j,G,hV,hj,λr h8=> ?_⟩;refine⟨_,G,v,dx,_,G,hv,G,_,G,v,js,kn,j,G,hV,hj,λH1 p ns s1 hp ag cp T=> ?_⟩;refine⟨r,p,j.route,ns,G,az.of (s1 _ _ h8),az.of ag,T,λH2 q way s2 hq bj W=> ?_⟩;have e:way.map (λx=>(cI j.route x.2,x.2))=cD kn j:=by rw[W.eq j G,cp];rfl
 exact k H2 q way (s1.trans s2) (s1.free hq) bj ⟨λx hx=>(T.at_ x (W.sub x hx)).same s2,cX W.len T.len⟩ e λx hx=>(kM hV.kinds (hV.ok.ok j hj) (cI j.route x.2,x.2) (by rw[<-e];exact b7.mpr ⟨x,hx,G⟩)).mem
variable{way:M AN}
def qi(e:way.map (λx=>(cI j.route x.2,x.2))=cD kn j):way.map (·.2)=cN kn j:=by unfold cN;rw[<-e,bQ];rfl
inductive O1 c(vs:M V)H(Q:VK)(E:XK):Prop|mk(v:af)(js:M bw)(kn:M bO)(j:bw)(t:Nat)(_:vs=[.ref v,.int (j.number:Nat),.int (t:Nat)])(_:gx c H v js kn)(_:j∈js)(_:∀(U:Hp)(p:af),ah H U->H p=ak->U p=I (.lst ((qM (jx kn j t)).map V.int))->Q (.ref p) U)
def uv(J:g7 j):j.route≠ []:=λe=>by have:=J.two;rw[e]at this;simp at this
def adb(F:dg K "keeper_of" "View.keeper_of" JA f fd)(N:jM K c.V)(MR:Met P w K mg ai 2 "route_of" ["self","number"] (ur c) c.V)(MW:Met P w K mg ai 5 "way_of_journey" ["self","number"] (uu c) c.V)
  (DK:Def P w K mg ai 3 "keeper_at" ["route","way","minute"] (M3 K c.N)):aM P w K mg ai aO 6 f fd ["self","number","minute"] (O1 c):=by
 refine F.aX ["self","number","minute"] (λS H vs Q E hr h=> ?_);obtain⟨v,js,kn,j,t,rfl,hV,hj,k⟩:=h;exists _,aH (aT DK hr (cg (cK MR N.cl hr (pv 0) (aB (pv 1))) (cK MW N.cl hr (pv 0) (aB (pv 1))) (pv 2)));obtain⟨dx,a,b,hv⟩:=hV.ins;refine⟨_,G,v,dx,_,G,hv,G,_,G,v,js,kn,j,G,hV,hj,λr h8=> ?_⟩;refine⟨_,G,v,dx,_,G,hv,G,_,G,v,js,kn,j,G,hV,hj,λH1 p way s1 hp ag T e hO=> ?_⟩;have J:=hV.ok.ok j hj;refine⟨_,G,r,p,j.route,way,t,G,az.of (s1 _ _ h8),uv J,az.of ag,T,λH2 q s2 hq bj=>k H2 q (s1.trans s2) (s1.free hq) ?_⟩;rw[bj,qi e,aaa hV.kinds J]
def qj(kn:M bO)(j:bw):M (M Nat):=(sW kn j).map λx=>[x.1,x.2.1,x.2.2]
inductive O2 c(vs:M V)H(Q:VK)(E:XK):Prop|mk(v:af)(js:M bw)(kn:M bO)(j:bw)(_:vs=[.ref v,.int (j.number:Nat)])(_:gx c H v js kn)(_:j∈js)(_:∀(U:Hp)(p:af)(ts:M AT),ah H U->H p=ak->U p=I (.lst (wR ts))->wU U ts->ts.map (·.2)=qj kn j->ts.length<=1000->Q (.ref p) U)
def ade(F:dg K "seals_of_journey" "View.seals_of_journey" Jz f fd)(N:jM K c.V)(MR:Met P w K mg ai 2 "route_of" ["self","number"] (ur c) c.V)(MW:Met P w K mg ai 5 "way_of_journey" ["self","number"] (uu c) c.V)
  (DK:Def P w K mg ai 2 "seals_of" ["route","way"] (OX K c.N)):aM P w K mg ai aO 6 f fd ["self","number"] (O2 c):=by
 refine F.aX ["self","number"] (λS H vs Q E hr h=> ?_);obtain⟨v,js,kn,j,rfl,hV,hj,k⟩:=h;exists _,aH (aT DK hr (bu (cK MR N.cl hr (pv 0) (aB (pv 1))) (cK MW N.cl hr (pv 0) (aB (pv 1)))));obtain⟨dx,a,b,hv⟩:=hV.ins;refine⟨_,G,v,dx,_,G,hv,G,_,G,v,js,kn,j,G,hV,hj,λr h8=> ?_⟩;refine⟨_,G,v,dx,_,G,hv,G,_,G,v,js,kn,j,G,hV,hj,λH1 p way s1 hp ag T e hO=> ?_⟩;refine⟨r,p,j.route,way,G,az.of (s1 _ _ h8),az.of ag,T,hO,λH2 q ts s2 hq bj hT eA hl=>k H2 q ts (s1.trans s2) (s1.free hq) bj hT ?_ hl⟩;rw[eA,qi e];unfold qj;rw[aae hV.kinds (hV.ok.ok j hj)]
def rP(js:M bw)(p:Nat):M bw:=js.filter λj=>j.principal==p
inductive O3 c(vs:M V)H(Q:VK)(E:XK):Prop|mk(v:af)(js:M bw)(kn:M bO)(pr:Nat)(_:vs=[.ref v,.int (pr:Nat)])(_:gx c H v js kn)(_:∀(U:Hp)(p:af),ah H U->H p=ak->U p=I (.lst (rO (rP js pr)))->Q (.ref p) U)
theorem adf(F:dg K "numbers_of" "View.numbers_of" BQ f fd)(N:jM K c.V)(NJ:rL K c.J)(adg:Met P w K mg ai 1 "all_numbers" ["self"] (Et c) c.V)(MJ:Met P w K mg ai 1 "journey_of" ["self","number"] (wW c) c.V):aM P w K mg ai aO 2 f fd ["self","principal"] (O3 c):=by
 refine F.aX ["self","principal","number"] (λS H vs Q E hr h=> ?_);obtain⟨v,js,kn,pr,rfl,hV,k⟩:=h
 exists _,aH (fM G S (cV (dU adg N.cl hr (pv 0))) (own:=[("number",2)]) (dY ["self","principal","number"] (cz BQ)) (by intro _ _ _ _ _;exact cE 2 S) (by intro _ _ _ _ _;exact j3 (bL dm (gv G (cK MJ N.cl hr (pv 0) (aB (pv 2))) G) (pv 1))) (by intro _ _ _ _ _;exact pv 2));obtain⟨dx,a,b,hv⟩:=hV.ins;refine oS ?_;refine⟨_,G,v,dx,_,G,hv,G,v,js,kn,G,hV,λH1 p s1 hp ag=>⟨p,G,?_⟩⟩;have hl:=hV.ok.len;refine qb js (λj=>V.int (j.number:Nat)) (λj=>j.principal==pr) (λj=>V.int (j.number:Nat)) (by lia) (az.of ag) (λj U Kt Kf hj s3 ht hf=> ?_) λH3 D s3 hD hd=> ?_
 .have a3:=s1.trans s3;refine⟨G,_,G,v,dx,_,G,a3 _ _ hv,G,_,G,v,js,kn,j,G,hV.same a3,hj,λja⟨cn,rl,q1,q2⟩=> ?_⟩;exists ja,c.J,cn,_,_,G,q1,NJ.cl,NJ.principal,G,_,G,G,_,G;rw[ff];refine b4 (λh2=> ?_) (λh2=> ?_)
  .exists _,G,ht U (ah.refl _) h2
  exact hf U (ah.refl _) (by simpa using h2)
 exact k H3 D (s1.trans s3) (s1.free hD) hd
def uw{l:M α}{g:α->M Int}{b:α}(h:l[i]? =I b):(l.take (i+1)).flatMap g=(l.take i).flatMap g++g b:=by rw[take_snoc h,qQ];simp
theorem Ew(l:M α)(g:α->M Int)i:((l.take i).flatMap g).length<=(l.flatMap g).length:=by
 have:l.flatMap g=(l.take i).flatMap g++(l.drop i).flatMap g:=by rw[<-qQ,pI]
 rw[this,bD];lia
variable{q:af}{tb:TS}{H0:Hp}
def adh(l:M α)item gi(Sh:L2.St->Prop)(pj:Sh σ)(hs:ah H0 H)(hq:H q=I (.lst []))(hl:∀U,ah H0 U->az K U a (l.map item))
  (turn:∀(b:α)(σ':L2.St)(U:Hp)(acc:M V)(N a5:L2.St->Hp->Prop),b∈l->Sh σ'->ah H0 U->U q=I (.lst acc)->acc.length+(gi b).length<=(l.flatMap gi).length->(∀σ2 H2,Sh σ2->ah H0 H2->H2 q=I (.lst (acc++(gi b).map V.int))->N σ2 H2)->g (item b) σ' U λσ2 H2=>tb {D with nx:=N,ct:=N,fy:=a5} σ2 H2)
  (fin:∀(σ':L2.St)(U:Hp),Sh σ'->ah H0 U->U q=I (.lst ((l.flatMap gi).map V.int))->D.nx σ' U):
  ∃W:Nat->Nat->L2.St->Hp->Prop,(∃m,W 0 m σ H)/\∀i m σ H,W i m σ H->
   ((fB K a).stop i H/\D.nx σ H)\/((fB K a).go i H/\∃N:L2.St->Hp->Prop,(∀σ' U,N σ' U->∃m',m'<m/\W (i+1) m' σ' U)/\∀x U,(fB K a).iD i H x U->g x σ U λσ2 H2=>tb {D with nx:=N,ct:=N,fy:=D.nx} σ2 H2):=by
 refine jD (λi σ H=>Sh σ/\ah H0 H/\H q=I (.lst (((l.take i).flatMap gi).map V.int))) ⟨pj,hs,hq⟩ (λi σ H _ h=>hl H h.2.1) (λi x σ H hi h=> ?_) λσ H h=> ?_
 .rw[bF]at hi;obtain⟨b,hb,rfl⟩:=gP.mp hi;refine turn b σ H _ _ _ (bN hb) h.1 h.2.1 h.2.2 ?_ λσ2 H2 h1 h2 h3=>⟨h1,h2,?_⟩
  .rw[aE,<-bD,<-uw hb];exact Ew l gi (i+1)
  rw[h3,uw hb,dH]
 rw[aE,i8]at h;exact fin σ H h.1 h.2.1 h.2.2
variable{o:HO}
def ah.two{H2:Hp}{o':HO}(hs:ah H0 H2)(h0:H0 q=ak)(hb:H2 b=ak):ah H0 (upd (upd H2 b o) q o'):=λc o ec=>by rw[aD (b_ ec h0),aD (b_ (hs _ _ ec) hb)];exact hs _ _ ec
def O4(j:bw)(x:AN):M Nat:=[cI j.route x.2,x.2.time]
def rQ(kn:M bO)(j:bw):M (M Nat):=(cD kn j).map λx=>[x.1,x.2.time]
inductive O5 c(vs:M V)H(Q:VK)(E:XK):Prop|mk(v:af)(js:M bw)(kn:M bO)(j:bw)(_:vs=[.ref v,.int (j.number:Nat)])(_:gx c H v js kn)(_:j∈js)(_:∀(U:Hp)(p:af)(ts:M AT),ah H U->H p=ak->U p=I (.lst (wR ts))->wU U ts->ts.map (·.2)=rQ kn j->ts.length<=1000->Q (.ref p) U)
theorem adi(F:dg K "steps_of" "View.steps_of" BR f fd)(N:jM K c.V)(NC:fc K c.N)(MR:Met P w K mg ai 2 "route_of" ["self","number"] (ur c) c.V)(MW:Met P w K mg ai 5 "way_of_journey" ["self","number"] (uu c) c.V)
  (DS:Def P w K mg ai 1 "stage_of" ["route","news"] (zJ K c.N)):aM P w K mg ai aO 6 f fd ["self","number"] (O5 c):=by
 refine F.aX ["self","number","route","news"] (λS H vs Q E hr h=> ?_);obtain⟨v,js,kn,j,rfl,hV,hj,k⟩:=h
 exists _,aC (vP (i:=2) S G (cZ G) (cK MR N.cl hr (pv 0) (aB (pv 1)))) (aH (fM G S (cV (cK MW N.cl hr (pv 0) (aB (pv 1)))) (own:=[("news",3)]) (dY ["self","number","route","news"] (cz BR)) (by intro _ _ _ _ _;exact cE 3 S) (by intro _ _ _ _ _;exact iP)
   (by intro _ _ _ _ _;exact lJ (bu (aT DS hr (bu (pv 2) (pv 3))) (gv G (pv 3) G)))))
 obtain⟨dx,a,b,hv⟩:=hV.ins;refine⟨_,G,v,dx,_,G,hv,G,_,G,v,js,kn,j,G,hV,hj,λr h8=> ?_⟩;dsimp only[lD];refine oS ?_;refine⟨_,G,v,dx,_,G,hv,G,_,G,v,js,kn,j,G,hV,hj,λH1 p way s1 hp ag T e hO=>⟨p,G,?_⟩⟩;have ew:=T.len;have dk:∀U,ah H1 U->az K U p (refs way):=λU s=>az.of (s _ _ ag)
 refine⟨⟨_,dk _ (ah.refl _)⟩,show Eo (fB K p) _ _ _ _ _ H1 _ from OW way (λx y _=>y=V.ref x.1) (λx y U=>∃p,y= .ref p/\U p=I (.tup (aK (O4 j x)))) (λz y H2 H3⟨p,h1,h2⟩s4=>⟨p,h1,s4 _ _ h2 (λ_ q=>by cases q)⟩) (by lia)
  (λU s4=>⟨_,dk U s4,by rw[ug];exact aZ _⟩) (λi U hi s4=>⟨_,_,dk U s4,p_ (bg hi)⟩) (λi U x bp hi s4 hy=> ?_) (λx y U Kt Kf hx hR s4 ht=> ?_) λU D ys s4 hD hd cf kb=> ?_⟩
 .obtain⟨rfl,hy⟩:=hy;have:=cG ((hy _ (dk _ s4)).symm.trans (p_ (bg hi)));exists _,bg hi,ah.refl _,this
 .subst hR;have hN:=(T.at_ x hx).same s4;obtain⟨dx',Fk,hA,_⟩:=id hN;exists G,bK (B:=Kf U) ?_;refine⟨_,G,_,G,r,x.1,j.route,x.2,G,az.of (s4 _ _ (s1 _ _ h8)),hO x hx,hN,_,G,x.1,c.N,dx',_,_,G,hA,NC.cl,NC.minute,G,(by show 2<=sizeLine;decide),λb hb=> ?_⟩;exact ht _ _ (ah.new hb) ⟨b,G,ay⟩
 obtain⟨ts,t1,t2,t3⟩:=Ep (H:=U) (ns:=way.map (O4 j)) (ys:=ys) (λi lx=>by
  have hi:i<way.length:=by rw[aE]at lx;exact lx
  have hy:ys[i]? =I (ys[i]'(by lia)):=bg (by lia);obtain⟨p,h1,h2⟩:=kb i _ _ (bg hi) hy;refine⟨p,by rw[hy,h1],?_⟩;rw[h2,List.getElem_map]) (by rw[cf,aE])
 refine k U D ts (s1.trans s4) (s1.free hD) (by rw[hd,t1]) t3 ?_ ?_
 .rw[t2];unfold rQ;rw[<-e,bQ];rfl
 have:ts.length=way.length:=by rw[<-aE (f:=(·.2)),t2,aE]
 lia
inductive O6 c(vs:M V)H(Q:VK)(E:XK):Prop|mk(v:af)(js:M bw)(kn:M bO)(pr:Nat)(_:vs=[.ref v,.int (pr:Nat)])(_:gx c H v js kn)(_:∀(U:Hp)(p:af)(ss:M AS),ah H U->H p=ak->U p=I (.lst (lQ ss))->mT c.S U ss->ss.map (·.2)=iH kn js pr->Q (.ref p) U)
def adj{β:Type}(g:α->aG β)a:[a].filterMap g=(g a).toList:=by cases h:g a<;>simp[h]
def adk(hk:fS kn)(J:g7 j):Sg.jI kn j=(cN kn j).head?.map λn=>⟨j.number,iy j.amount j.rate,n.time,((cN kn j).find? λn=>n.kind==3).map (·.time)⟩:=by unfold Sg.jI;rw[Dj,Bw,Z8 hk J];rfl
theorem adl(F:dg K "spans_of" "View.spans_of" JB f fd)(N:jM K c.V)(NJ:rL K c.J)(MN:Met P w K mg ai 2 "numbers_of" ["self","principal"] (O3 c) c.V)(MW:Met P w K mg ai 5 "way_of_journey" ["self","number"] (uu c) c.V)
  (MJ:Met P w K mg ai 1 "journey_of" ["self","number"] (wW c) c.V)(DS:Cons P w K mg ai 2 "Span" ["self","journey","share","way"] (NO c.N c.S) c.S):aM P w K mg ai aO 6 f fd ["self","principal"] (O6 c):=by
 refine F.aX ["self","principal","spans","number","way"] (λS H vs Q E hr h=> ?_);obtain⟨v,js,kn,pr,rfl,hV,k⟩:=h
 exists _,aC (aY 2 S (br eT)) (aC (fC eN G (cV (cK MN N.cl hr (pv 0) (aB (pv 1)))) (cE 3 S) (aC (aY 4 S (cK MW N.cl hr (pv 0) (aB (pv 3)))) (cA (bH (pZ (pv 4) (λ_=>G)) (cA (fR (ee fq l7 nq lK (pv 2) (aB (gw DS hr (cg (pv 3) (fD (cK MJ N.cl hr (pv 0) (aB (pv 3))) G) (pv 4))))))) bG)))) (aH (pv 2)));obtain⟨dx,a,b,hv⟩:=hV.ins;refine⟨b6 _,λq hq=> ?_⟩;have s0:ah H (upd H q (.lst [])):=ah.new hq;refine⟨_,G,v,dx,_,G,s0 _ _ hv,G,_,G,v,js,kn,pr,G,hV.same s0,λH1 nl s1 wP O7=>⟨nl,G,⟨_,az.of O7⟩,?_⟩⟩;have hlp:(rP js pr).length<=16:=cX (gV _ _) hV.ok.len;have hnq:nl≠q:=λe=>by rw[e,ay]at wP;cases wP
 have q1:=s1 _ _ ay
 refine jD (λi σ U=>(∃v3 v4:aG V,σ=[I (.ref v),I (.int pr),I (.ref q),v3,v4])/\(∀b o,H1 b=I o->b≠q->U b=I o)/\∃ss:M AS,U q=I (.lst (lQ ss))/\mT c.S U ss/\ss.map (·.2)=((rP js pr).take i).filterMap (Sg.jI kn))
  ⟨⟨ak,ak,G⟩,λb o e _=>e,[],q1,⟨λx hx=>(eG hx).elim,b6 _⟩,G⟩ (λi σ U _⟨_,z,_⟩=>az.of (z _ _ O7 hnq)) ?_ ?_
 .rintro i y σ U hi⟨⟨v3,v4,rfl⟩,hk,ss,dC,hS,eQ⟩;unfold rO at hi;rw[bF]at hi;obtain⟨j,hj,rfl⟩:=gP.mp hi;have Y2:j∈js:=(eY.mp (bN hj)).1;have J:=hV.ok.ok j Y2;have sH:ah H U:=λb o e=>hk b o (s1 _ _ (s0 _ _ e)) (b_ e hq);have O8:=hV.same sH;refine⟨_,G,v,dx,_,G,sH _ _ hv,G,_,G,v,js,kn,j,G,O8,Y2,λH2 p way s2 hp ag T e hO=> ?_⟩;have e2:=qi e;have es:=adk hV.kinds J
  have step:((rP js pr).take (i+1)).filterMap (Sg.jI kn)=((rP js pr).take i).filterMap (Sg.jI kn)++(Sg.jI kn j).toList:=by rw[take_snoc hj,List.filterMap_append,adj]
  have amn:ss.length<=i:=by rw[<-aE (f:=(·.2)),eQ];exact cX (akW _ _) (by rw[gT];lia)
  have amo:i<16:=gQ (eL.mp hj).1 hlp;exists _,G,_,.inl ⟨_,az.of ag,G⟩;cases hw:way with
  |nil=>rw[hw]at e2;rw[<-e2]at es;refine bX ⟨⟨_,_,G⟩,λb o eb hb=>s2 _ _ (hk b o eb hb),ss,s2 _ _ dC,hS.same s2,?_⟩;rw[eQ,step,es];simp
  |cons x r=>
   rw[hw]at e2 T ag;rw[<-e2]at es;refine bK ⟨_,G,.inl ⟨G,_,az.of (s2 _ _ dC)⟩,_,G,_,G,v,dx,_,G,s2 _ _ (sH _ _ hv),G,_,G,v,js,kn,j,G,O8.same s2,Y2,λja⟨cn,rl,j1,j2⟩=> ?_⟩;refine⟨ja,c.J,cn,_,_,G,j1,NJ.cl,NJ.share,G,_,G,λz dz hz a9 aw=> ?_⟩;have amq:p≠z:=b_ ag hz;have pdz:p≠dz:=b_ ag a9;have sz:ah H2 (upd (upd H2 dz (.own z)) z (.ins c.S dz [])):=(ah.new a9).trans (ah.new (by rw[aD aw.symm];exact hz));refine⟨z,p,dz,j.number,iy j.amount j.rate,x,r,G,ay,sz _ _ ag,T.same sz,λH9 h9 k9=>⟨G,?_⟩⟩;have s9:ah H2 H9:=ah.made hz a9 k9;exists q,lQ ss,_,G,G,s9 _ _ (s2 _ _ dC),?_
   .unfold lQ;rw[aE];exact vg (show ss.length<=16 by lia) (by decide)
   have ZB:z≠q:=λe=>by have h3:=s2 _ _ dC;rw[<-e,hz]at h3;cases h3
   have up:∀b o,H9 b=I o->b≠q->(upd H9 q (.lst (lQ ss++[V.ref z]))) b=I o:=λb o eb hb=>by rw[aD hb];exact eb
   exists⟨_,_,G⟩,λb o eb hb=>up _ _ (s9 _ _ (s2 _ _ (hk b o eb hb))) hb,ss++[(z,⟨j.number,iy j.amount j.rate,x.2.time,(((x::r).map (·.2)).find? λn=>n.kind==3).map (·.time)⟩)],?_,⟨λy hy=> ?_,?_⟩
   .rw[ay];unfold lQ;rw[dH];rfl
   .obtain h3|h3:=dG.mp hy
    .obtain⟨dy,h4⟩:=hS.at_ y h3;exact⟨dy,up _ _ (s9 _ _ (s2 _ _ h4)) (iC h4 dC (by intro z;cases z))⟩
    rw[nu.mp h3];exists dz,up _ _ h9 ZB
   .rw[bD];show ss.length+1<=1000;lia
   rw[dH,eQ,step,es];rfl
 rintro σ U⟨⟨v3,v4,rfl⟩,hk,ss,dC,hS,eQ⟩;have sH:ah H U:=λb o e=>hk b o (s1 _ _ (s0 _ _ e)) (b_ e hq);exists _,G,k U q ss sH hq dC hS ?_;rw[eQ,show(rO (rP js pr)).length=(rP js pr).length by unfold rO;rw[aE],i8];rfl
structure z7(h:dN):Prop where
 js:jm h.journeys
 kinds:∀n,fS (kF h n)
 tells:h.tells.length<=40
 small:∀n,(kF h n).length<=80
 gs:h.guarantees.length<=20
structure nN(K:aR)(C:af):Prop where
 cl:fK K C
 journeys:cF K C "journeys"
 guarantees:cF K C "guarantees"
 z8:cF K C "history"
abbrev AD:=af×DN
def qk(l:M AD):M V:=l.map λx=>V.ref x.1
def O9(lj lg lh:af):M (aj×V):=[("journeys",.ref lj),("guarantees",.ref lg),("history",.ref lh)]
structure O_(c:fh)(H:Hp)(b:af)(h:dN)(dx lj lg lh:af)(jl:M AJ)(gd:fE)(hs:M AD):Prop where
 at_:H b=I (.ins c.B dx (O9 lj lg lh))
 js:wV c.J H lj jl
 kP:jl.map (·.2)=h.journeys
 gs:qf H lg gd
 geq:GD gd h.guarantees
 fO:H lh=I (.lst (qk hs))
 hlen:hs.length=h.tells.length+1
 each:∀i x,hs[i]? =I x->DictAt c.N H x.1 x.2/\Sg.KD nw x.2 (kF h i)
 ne:lj≠lh
structure iT(c:fh)(H:Hp)(b:af)(h:dN):Prop where
 ex:∃(dx lj lg lh:af)(jl:M AJ)(gd:fE)(hs:M AD),O_ c H b h dx lj lg lh jl gd hs
 ok:z7 h
def iT.same{c:fh}{H U:Hp}{b:af}{h:dN}(B:iT c H b h)(s:ah H U):iT c U b h:=by obtain⟨⟨dx,lj,lg,lh,jl,gd,hs,h1,h2,h3,h4,h5,h6,h7,ia,h9⟩,ok⟩:=B;exists⟨dx,lj,lg,lh,jl,gd,hs,s _ _ h1,h2.same s,h3,h4.same s,h5,s _ _ h6,h7,λi x e=>⟨(ia i x e).1.same s,(ia i x e).2⟩,h9⟩,ok
def iT.ins{c:fh}{H:Hp}{b:af}{h:dN}(B:iT c H b h):∃dx lj lg lh,H b=I (.ins c.B dx (O9 lj lg lh)):=by obtain⟨⟨dx,lj,lg,lh,jl,gd,hs,B⟩,ok⟩:=B;exists dx,lj,lg,lh,B.at_
variable{h:dN}
def adm(J:jm h.journeys){n:Nat}(e:ny h n=I j):j∈h.journeys/\j.number=n:=by have:=UR e;exact⟨IE e,by simpa using this⟩
theorem adn(J:jm h.journeys)n:(ny h n).isSome=(decide (1<=n)&&decide (n<=h.journeys.length)):=by
 cases e:ny h n with
 |none=>
  symm;rw[Option.isSome_none,alG];by_cases q:1<=n
  .right;refine aV λq2=> ?_;have hi:n-1<h.journeys.length:=by lia
   have e2:=J.num _ _ (bg hi);have:=US.mp e _ (sY hi);rw[e2]at this;exact this (by simp;lia)
  exact .inl (aV q)
 |some j=>obtain⟨h1,h2⟩:=adm J e;obtain⟨i,hi,rfl⟩:=Vf.mp h1;have:=J.num i _ (bg hi);rw[UH,aP (by lia:1<=n),aP (by lia:n<=h.journeys.length)];rfl
def z9 l:(jL l).length=l.length:=by unfold jL;rw[aE]
def Pa l:(qk l).length=l.length:=by unfold qk;rw[aE]
inductive Pb c(vs:M V)(H:Hp)(Q:VK)(E:XK):Prop|mk(p dx:af)(_:vs=[.ref p])(_:H p=I (.ins c.B dx []))(_:∀U,iT c U p gk->(∀b o,H b=I o->b≠p->U b=I o)->Q .bx U)
def ado:z7 gk:=⟨⟨λi j h=>by simp[gk]at h,λj h=>by simp[gk]at h,by decide⟩,λn x hx=>by simp[kF,gk]at hx,by decide,λn=>by simp[kF,gk],by decide⟩
def adp:GD [] []:=⟨by simp,by simp[Sg.j5],λp t=>by simp[mQ]⟩
def adq(F:dg K "__init__" "Book.__init__" JC f fd)(N:nN K c.B):aM P w K mg ai aO 1 f fd ["self"] (Pb c):=by
 refine F.aX ["self"] (λS H vs Q E hr h=> ?_);obtain⟨p,dx,rfl,hp,k⟩:=h;refine⟨_,aC (cR (pv 0) (br eT) G) (aC (cR (pv 0) Zl G) (cA (cR (pv 0) (br (aB Lz)) G))),b6 _,λa ha=>⟨_,G,p,c.B,dx,[],G,?_,N.cl,N.journeys,(by decide),?_⟩⟩
 .rw[aD (b_ hp ha)];exact hp
 have pa:a≠p:=λe=>by rw[e,hp]at ha;cases ha
 refine λg hg=>⟨_,G,p,c.B,dx,bU "journeys" (.ref a) [],G,?_,N.cl,N.guarantees,(by show 1<1000;decide),?_⟩
 .rw[aD (λe=>by rw[<-e,ay]at hg;cases hg),ay]
 have pg:g≠p:=λe=>by rw[e,ay]at hg;cases hg
 have ga:g≠a:=λe=>by rw[e,aD pa,ay]at hg;cases hg
 refine λd hd=>⟨(by show 1<=sizeLine;decide),λl hl=>⟨_,G,p,c.B,dx,bU "guarantees" (.ref g) (bU "journeys" (.ref a) []),G,?_,N.cl,N.z8,(by show 2<1000;decide),?_⟩⟩
 .have xp:d≠p:=λe=>by rw[e,ay]at hd;cases hd
  have pl:l≠p:=λe=>by rw[e,aD xp.symm,ay]at hl;cases hl
  rw[aD pl.symm,aD xp.symm,ay]
 have xp:d≠p:=λe=>by rw[e,ay]at hd;cases hd
 have pl:l≠p:=λe=>by rw[e,aD xp.symm,ay]at hl;cases hl
 have ld:l≠d:=λe=>by rw[e,ay]at hl;cases hl
 have Pc:d≠g:=λe=>by rw[e,aD pg,ay]at hd;cases hd
 have da:d≠a:=λe=>by rw[e,aD pa,aD ga.symm,aD pa,ay]at hd;cases hd
 have lg:l≠g:=λe=>by rw[e,aD Pc.symm,aD pg,ay]at hl;cases hl
 have sm:l≠a:=λe=>by rw[e,aD da.symm,aD pa,aD ga.symm,aD pa,ay]at hl;cases hl
 refine k _ ⟨⟨dx,a,g,l,[],[],[(d,[])],?_,⟨?_,λx hx=>(eG hx).elim⟩,G,⟨?_,by decide⟩,adp,?_,G,λi x e=> ?_,sm.symm⟩,ado⟩ λb o e hb=> ?_
 .rw[ay];rfl
 .rw[aD pa,aD sm.symm,aD da.symm,aD pa,aD ga.symm,aD pa,ay];rfl
 .rw[aD pg,aD lg.symm,aD Pc.symm,aD pg,ay];rfl
 .rw[aD pl,ay];rfl
 .cases i with
  |zero=>cases e;exists⟨?_,λs x h=>by simp at h,b6 _⟩,Sg.KD.nil nw;rw[aD xp,aD ld.symm,ay];rfl
  |succ i=>simp at e
 rw[aD hb];have e1:upd (upd H a (.lst [])) p (.ins c.B dx (bU "journeys" (.ref a) [])) b=I o:=by rw[aD hb,aD (b_ e ha)];exact e
 have e2:=(ah.new (o:=.dT []) hg) _ _ e1;have e3:upd (upd (upd (upd H a (.lst [])) p (.ins c.B dx (bU "journeys" (.ref a) []))) g (.dT [])) p (.ins c.B dx (bU "guarantees" (.ref g) (bU "journeys" (.ref a) []))) b=I o:=by rw[aD hb];exact e2
 exact(ah.new hl) _ _ ((ah.new (o:=.dK []) hd) _ _ e3)
inductive Ex c(vs:M V)H(Q:VK)(E:XK):Prop|mk(b:af)(h:dN)(_:vs=[.ref b])(_:iT c H b h)(_:Q (.int (h.tells.length:Nat)) H)
theorem ads(F:dg K "tells" "Book.tells" JD f fd)(N:nN K c.B)(B:dR mg):aM P w K mg ai aO 1 f fd ["self"] (Ex c):=by refine F.aX ["self"] (λS H vs Q E hr h=> ?_);obtain⟨b,h,rfl,⟨⟨dx,lj,lg,lh,jl,gd,hs,BI⟩,ok⟩,k⟩:=h;exists _,aH (bP mJ (bJ dc (by rfl) B.len cJ (aB (aS 0))) aF),_,G,b,c.B,dx,_,_,G,BI.at_,N.cl,N.z8,G,lh,_,G,.inl (az.of BI.fO),_,_,G,G;rw[Pa,BI.hlen,show(((h.tells.length+1:Nat):Int)-1)=((h.tells.length:Nat):Int) by lia];exact k
def iJ(h:dN)(n:Int):Bool:=decide (1<=n)&&decide (n<=(h.journeys.length:Nat))
theorem Pd(J:jm h.journeys)(n:Nat):iJ h (n:Int)=(ny h n).isSome:=by
 rw[adn J];unfold iJ;congr 1
 .by_cases q:1<=n
  .rw[aP q,aP (by lia)]
  rw[aV q,aV (by lia)]
 by_cases q:n<=h.journeys.length
 .rw[aP q,aP (by lia)]
 rw[aV q,aV (by lia)]
inductive Ey c(vs:M V)H(Q:VK)(E:XK):Prop|mk(b:af)(h:dN)(n:Int)(_:vs=[.ref b,.int n])(_:iT c H b h)(_:Q (.bl (iJ h n)) H)
def adt(F:dg K "has_journey" "Book.has_journey" JE f fd)(N:nN K c.B)(B:dR mg):aM P w K mg ai aO 1 f fd ["self","number"] (Ey c):=by
 refine F.aX ["self","number"] (λS H vs Q E hr h=> ?_);obtain⟨b,h,n,rfl,⟨⟨dx,lj,lg,lh,jl,gd,hs,BI⟩,ok⟩,k⟩:=h;exists _,aH (Kz gG gG aF (pv 1) (bJ dc (by rfl) B.len cJ (aB (aS 0)))),_,G,_,_,G,G,_,G;unfold iJ at k;refine b4 (λh1=> ?_) (λh1=> ?_)
 .rw[h1,eB]at k;exists _,G,b,c.B,dx,_,_,G,BI.at_,N.cl,N.journeys,G,lj,_,G,.inl (az.of BI.js.at_),_,_,G,G;rw[z9,<-aE,BI.kP];exact k
 have a0:decide ((1:Int)<=n)=ao:=by simpa using h1
 rw[a0,ig]at k;exact k
def z_(h:dN)(l:M bO):Bool:=l.all λn=>(ny h n.journey).isSome
inductive Pe K c(vs:M V)H(Q:VK)(E:XK):Prop|mk(b l:af)(h:dN)(told:M AN)(_:vs=[.ref b,.ref l])(_:iT c H b h)(_:az K H l (refs told))(_:f9 c.N H told)(_:∀U,ah H U->Q (.bl (z_ h (told.map (·.2)))) U)
theorem adu(F:dg K "has_journeys_of" "Book.has_journeys_of" BS f fd)(N:nN K c.B)(NC:fc K c.N)(B:dR mg)(MH:Met P w K mg ai 1 "has_journey" ["self","number"] (Ey c) c.B):aM P w K mg ai aO 2 f fd ["self","told"] (Pe K c):=by
 refine F.aX ["self","told","news"] (λS H vs Q E hr h=> ?_);obtain⟨b,l,h,told,rfl,BA,hL,T,k⟩:=h;obtain⟨dx,lj,lg,lh,hb⟩:=BA.ins
 exists _,aH (bJ (K9 G) (by rfl) B.all OJ (aB (fM G S (cV (pv 1)) (own:=[("news",2)]) (dY ["self","told","news"] (cz BS)) (by intro _ _ _ _ _;exact cE 2 S) (by intro _ _ _ _ _;exact iP) (by intro _ _ _ _ _;exact cK MH N.cl hr (pv 0) (aB (gv G (pv 2) G))))));dsimp only[lD,nG,gI,gH];have ew:=T.len;refine kN told (λx=>V.ref x.1) (λ_=>aa) (λx=>V.bl (iJ h (x.2.journey:Nat))) (λR h=>⟨_,G,h⟩) (by lia) hL (λx U Kt Kf hx s1 ht hf=> ?_) λH1 D s1 hD hd=> ?_
 .obtain⟨dy,Fk,hA,_⟩:=(T.at_ x hx).same s1;exists G,bK (B:=Kf U) ⟨_,G,b,dx,_,G,s1 _ _ hb,G,_,G,x.1,c.N,dy,_,_,G,hA,NC.cl,NC.journey,G,b,h,_,G,BA.same s1,ht U (ah.refl _) G⟩
 exists D,told.map λx=>iJ h (x.2.journey:Nat),G,az.of ?_
 .rw[hd,mq.mpr (λ_ _=>G),bQ];rfl
 have:=k H1 s1;unfold z_ at this;rw[xZ]at this;rw[xZ];exact(cC (λz=>Q (.bl z) H1) (List.all_congr G λx=>Pd BA.ok.js _)).mpr this
inductive Ez c(vs:M V)H(Q:VK)(E:XK):Prop|mk(b:af)(h:dN)(n:Nat)(_:vs=[.ref b,.int (n:Nat)])(_:iT c H b h)(_:n<=h.tells.length)(_:∀U v,ah H U->gx c U v h.journeys (kF h n)->Q (.ref v) U)
theorem adv(F:dg K "then" "Book.then" JF f fd)(N:nN K c.B)(EA:Cons P w K mg ai 1 "View" ["self","journeys","known"] (Es c) c.V):aM P w K mg ai aO 3 f fd ["self","count"] (Ez c):=by
 refine F.aX ["self","count"] (λS H vs Q E hr h=> ?_);obtain⟨b,h,n,rfl,⟨⟨dx,lj,lg,lh,jl,gd,hs,BI⟩,ok⟩,hn,k⟩:=h;exists _,aH (gw EA hr (bu (aS 0) (bk (aS 0) (pv 1))));have hx:hs[n]? =I (hs[n]'(by have:=BI.hlen;lia)):=bg (by have:=BI.hlen;lia);obtain⟨FM,D2⟩:=BI.each n _ hx;have hd:(qk hs)[n]? =I (V.ref (hs[n]'(by have:=BI.hlen;lia)).1):=by unfold qk;rw[bF,hx];rfl
 refine⟨_,G,b,c.B,dx,_,_,G,BI.at_,N.cl,N.journeys,G,_,G,b,c.B,dx,_,_,G,BI.at_,N.cl,N.z8,G,_,G,lh,_,_,_,G,G,az.of BI.fO,aW hd,λz dz hz a9 aw=> ?_⟩;refine⟨z,_,_,dz,G,ay,λH9 h9 k9=>⟨G,?_⟩⟩;have s9:=ah.made hz a9 k9;exact k H9 z s9 ⟨⟨dz,lj,_,jl,_,h9,BI.js.same s9,BI.kP,FM.same s9,D2⟩,ok.js,ok.kinds n⟩
inductive EB c(vs:M V)H(Q:VK)(E:XK):Prop|mk(b:af)(h:dN)(_:vs=[.ref b])(_:iT c H b h)(_:∀U v,ah H U->gx c U v h.journeys (bq h)->Q (.ref v) U)
def adw(F:dg K "now" "Book.now" JG f fd)(N:nN K c.B)(adx:Met P w K mg ai 3 "then" ["self","count"] (Ez c) c.B)(MH:Met P w K mg ai 1 "tells" ["self"] (Ex c) c.B):aM P w K mg ai aO 4 f fd ["self"] (EB c):=by refine F.aX ["self"] (λS H vs Q E hr h=> ?_);obtain⟨b,h,rfl,BA,k⟩:=h;obtain⟨dx,lj,lg,lh,hb⟩:=BA.ins;exists _,aH (cK adx N.cl hr (pv 0) (aB (dU MH N.cl hr (pv 0)))),_,G,b,dx,_,G,hb,G,_,G,b,dx,_,G,hb,G,b,h,G,BA,b,h,_,G,BA,aZ _,k
inductive Pf K c(vs:M V)H(Q:VK)(E:XK):Prop|mk(b l:af)(h:dN)(told:M AN)(_:vs=[.ref b,.ref l])(_:iT c H b h)(_:az K H l (refs told))(_:f9 c.N H told)(_:told.length<=100)(_:fS (told.map (·.2)))(_:∀U v,ah H U->gx c U v h.journeys (mw (told.map (·.2)) (bq h))->Q (.ref v) U)
theorem EC:∀l k,fS l->fS k->fS (mw l k)
 |[],k,_,hk=>hk|n::l,k,hl,hk=>EC l (nj n k) (λx hx=>hl x (bZ _ hx)) λx hx=>by
  obtain e|e:=zA hx
  .rw[e];exact hl n bW
  exact hk x e
def Pg(h:∀s x,d.lookup s=I x->d9 C H x.1 x.2){told:M AN}(T:∀x∈told,d9 C H x.1 x.2):∀s x,(gu nw d told).lookup s=I x->d9 C H x.1 x.2:=λs x hx=>by
 obtain e|⟨t,e⟩:=Nj told hx
 .exact T x e
 exact h t x e
theorem ady(F:dg K "with_news" "Book.with_news" JH f fd)(N:nN K c.B)(NV:jM K c.V)(MN:Met P w K mg ai 4 "now" ["self"] (EB c) c.B)(DK:Def P w K mg ai 1 "known_with" ["known","told"] (DR K c.N))
  (EA:Cons P w K mg ai 1 "View" ["self","journeys","known"] (Es c) c.V):aM P w K mg ai aO 5 f fd ["self","told"] (Pf K c):=by
 refine F.aX ["self","told"] (λS H vs Q E hr h=> ?_);obtain⟨b,l,h,told,rfl,BA,hL,T,adz,lb,k⟩:=h;obtain⟨⟨dx,lj,lg,lh,jl,gd,hs,BI⟩,ok⟩:=id BA;refine⟨_,aH (gw EA hr (bu (aS 0) (aT DK hr (bu (fD (dU MN N.cl hr (pv 0)) G) (pv 1))))),_,G,b,c.B,dx,_,_,G,BI.at_,N.cl,N.journeys,G,_,G,b,dx,_,G,BI.at_,G,b,h,G,BA,λH1 v s1⟨⟨dv,He,vk,vl,d,v1,v2,v3,v4,v5⟩,v6,v7⟩=> ?_⟩;refine⟨v,c.V,dv,_,_,G,v1,NV.cl,NV.known,G,_,G,vk,l,d,told,G,v4,s1.seq hL,T.same s1,λH2 p s2 hp ag=> ?_⟩;refine λz dz hz a9 aw=>⟨z,_,_,dz,G,ay,λH9 h9 k9=>⟨G,?_⟩⟩;have s9:=ah.made hz a9 k9;have du:=s1.trans (s2.trans s9);have db:=zO told d;have ED:d.length<=80:=by rw[v5.length];exact ok.small _
 refine k H9 z du ⟨⟨dz,lj,p,jl,gu nw d told,h9,BI.js.same du,BI.kP,⟨s9 _ _ ag,Pg (λs x hx=>(v4.news s x hx).same (s2.trans s9)) (λx hx=>(T.at_ x hx).same du),by lia⟩,Sg.KD.Dc told v5⟩,ok.js,EC _ _ lb v7⟩
open AutoSeq1 in
def adA l b xs ys n m od sl
  (long:¬(!xs.isEmpty&&Ic (xs.size+ys.size))=aa)(h1:xs.size<=sizeLine)(h2:xs.size+ys.size<=sizeLine+1):
  Ba (Builtin.«list.extend» ⟨[.ref l,.ref b],[]⟩) (λ_ R s=>
   s.heap.get? l=I {cls:=.type "list",dict:=ak,data:=.seq xs n,slots:= #[]}/\
   s.heap.get? b=I {cls:=.type "tuple",dict:=od,data:=.seq ys m,slots:=sl}/\
   R (.ok (.ret jR)) {s with heap:=s.heap.update l (Bb λx=>x++ys),toks:=s.toks}):=
 .of_wp λprog w A R s h=>by
  obtain⟨hp,g,d,tk,os⟩:=s;obtain⟨hl,hb,h⟩:=h
  have hz:(xs++ys).size<=sizeLine+1:=by rw[Array.size_append];exact h2
  wp_walk using(yt hl G (_hz':=hz)),wpAny_loadPart' hl,wpAny_loadPart' hb
  exists _,G,h
section
variable{prog:bY}{w:bR}{κ:Type} [DecidableEq κ]{Ph:HeapKind prog w κ}{A:eZ}{E:aq->aI->Prop}{s:aI}
def adB d(hd:(d==iK)=ao):MeetsIn prog w (Builtin.«dict.__len__» ⟨[.ref d],[]⟩)
  (λ_ R s=>∃xs,s.heap.DictOfH Ph d xs/\R (.ok (.ret (.int xs.length s.toks))) {s with toks:=s.toks+1}):=
 .of_wp λA R s⟨xs,⟨o,es,ep,ho,hc,Ev,hp,_,_⟩,h⟩=>by show aJ _ _ (dictSize d>>=_) _ _ s;refine aA (aA (Il ho Ev (aN (aA (wpAny_pendingCount_other hd (wpAny_ret_mkInt ?_))))));rw[IZ,aku hp];exact h
theorem adC{d:af}{xs:M (κ×af×aq)}{Q:aq->aI->Prop}(hd:(d==iK)=ao)(hm:s.heap.DictOfH Ph d xs)(EF:(xs.length:Int)<2^63)
  (h:Q (.int xs.length (s.toks+1)) {s with toks:=s.toks+1+1}):aJ (aL prog w) A (call (.builtin "len") [.ref d]) Q E s:=by
 refine U0 kind_len plain_len entry_len (args_len1 _) ?_
 refine aA (aN (aA (n_ hm.typeIs alH (call_meetsIn alH hm.typeIs F.entry_dict_len (F.args_dict_len_1 _) (adB d hd) ⟨xs,hm,?_⟩))));refine aA (pD (aN (aA (s_ ?_))));rw[au (by lia)];rw[au (by lia)];exact aA (wpAny_mkInt (aN ⟨_,G,h⟩))
end
inductive adD K(x:V)(vs:M V)H(Q:VK):Prop|mk(l:_)(b:_)(xs:_)(zs:_)(_:x= .ref l)(_:vs=[.ref b])(_:H l=I (.lst xs))(_:bz K H b zs)(_:xs.length+zs.length<=sizeLine)(_:Q .bx (upd H l (.lst (xs++zs))))
theorem Pj:CH X "list.extend" (adD X.K):=by
 intro pins s σ H x vs v us Q ab rx rv h;obtain⟨l,b,xs,zs,rfl,rfl,hH,hB,hz,q⟩:=h;cases rx;obtain⟨u,rfl,ru⟩:=rv.one;cases ru;obtain⟨z,ad,n,r,hl,e⟩:=ab.tY hH;obtain⟨cs,r2,⟨⟨oc,od,amr,sl⟩,e2,e3,n2,e4⟩,z2⟩:=ab.tuple hB;have e3':=e3;have e4':=e4;subst e3' e4';have db:=r2.length;have ba:ad.toArray.size+cs.toArray.size<=sizeLine:=by rw[eX,eX];lia
 have Pm:¬(!ad.toArray.isEmpty&&Ic (ad.toArray.size+cs.toArray.size))=aa:=by rw[K4 ba,Be];exact dJ
 refine Bc l8 ⟨_,e,G⟩ aj9 (aj_ _ _) (adA l b ad.toArray cs.toArray n n2 od sl Pm (by rw[eX];lia) (by lia)) ⟨e,e2,?_⟩;exists .bx,_,ab.CI (its':=ad++cs) hH e (by simp) (r.append r2) ?_,G,q;rw[bD];lia
theorem EG:gZ X (.builtin "len") (λxs H Q=>∃a ae,xs=[V.ref a]/\H a=I (.dT ae)/\Q (.int ae.length) H):=by intro pins s σ H xs us Q ab r h;obtain⟨a,ae,rfl,ha,q⟩:=h;obtain⟨u,rfl,ru⟩:=vals1 r;cases ru;obtain⟨z,hd,xs,bo,dd⟩:=wg ab.aQ (.inl ha);have hl:=sD bo;refine adC hd dd (by rw[<-hl];rw[cY]at z;lia) ?_;rw[<-hl];exists .int ae.length,H,ab.tok _,⟨_,G⟩,q
structure Lo(P:bY)(w:bR)(K:aR)(mg:aj->aG aq)(ai:bB)(c:fh):Prop where
 B:nN K c.B
 V:jM K c.V
 J:rL K c.J
 N:fc K c.N
 S:qe K c.S
 blt:dR mg
 Z:uf mg
 now:Met P w K mg ai 4 "now" ["self"] (EB c) c.B
 then_:Met P w K mg ai 3 "then" ["self","count"] (Ez c) c.B
 tells:Met P w K mg ai 1 "tells" ["self"] (Ex c) c.B
 Pk:Met P w K mg ai 2 "has_journeys_of" ["self","told"] (Pe K c) c.B
 adE:Met P w K mg ai 5 "with_news" ["self","told"] (Pf K c) c.B
 wX:Met P w K mg ai 1 "all_numbers" ["self"] (Et c) c.V
 journeyOf:Met P w K mg ai 1 "journey_of" ["self","number"] (wW c) c.V
 Pn:Met P w K mg ai 2 "route_of" ["self","number"] (ur c) c.V
 adF:Met P w K mg ai 3 "force" ["self"] (O0 c) c.V
 adG:Met P w K mg ai 4 "force_of" ["self","number"] (Eu c) c.V
 ux:Met P w K mg ai 5 "way_of_journey" ["self","number"] (uu c) c.V
 Po:Met P w K mg ai 6 "steps_of" ["self","number"] (O5 c) c.V
 Pp:Met P w K mg ai 6 "seals_of_journey" ["self","number"] (O2 c) c.V
 Aa:Met P w K mg ai 6 "keeper_of" ["self","number","minute"] (O1 c) c.V
 rR:Met P w K mg ai 6 "spans_of" ["self","principal"] (O6 c) c.V
 jn:Def P w K mg ai 1 "counted" ["numbers"] D5
 zD:Def P w K mg ai 1 "by_numbers" ["known"] (DT c.N)
 adH:Def P w K mg ai 2 "status_at" ["way","minute"] (DJ K c.N)
 overdue:Def P w K mg ai 2 "is_overdue" ["journey","way","minute"] (M8 K c.N c.J)
 faults:Def P w K mg ai 4 "faults_of" ["route","told"] (Ng K c.N)
 missing:Def P w K mg ai 1 "missing_of" ["route","way"] (Nc K c.N)
 Pq:Def P w K mg ai 2 "guarantee_at" ["guarantees","principal","minute"] D3
 EH:Def P w K mg ai 2 "sum_at" ["spans","minute"] (zP K c.S)
 outAt:Def P w K mg ai 2 "out_at" ["spans","minute"] (Nv K c.S)
 EI:Def P w K mg ai 3 "peak_of" ["spans"] (Ny K c.S)
inductive fj K c(A:dN->M Int->M Int->M Int->Prop)(vs:M V)(H:Hp)(Q:VK)(E:XK):Prop|mk(b n r:af)(h:dN)(ns rw out:M Int)(_:vs=[.ref b,.ref n,.ref r])(_:iT c H b h)(_:az K H n (ns.map V.int))(_:az K H r (rw.map V.int))(_:A h ns rw out)(_:∀(U:Hp)(p:af),ah H U->U p=I (.lst (out.map V.int))->Q (.ref p) U)
def j7{l:M Nat}:aK l=(l.map λ(n:Nat)=>(n:Int)).map V.int:=by unfold aK;rw[bQ];rfl
abbrev fV:=dN->M Int->M Int->M Int->Prop
def EJ:fV:=λh ns _ out=>∃(j:bw)(t:Nat),ns=[(j.number:Int),(t:Int)]/\j∈h.journeys/\out=0::qM (jx (bq h) j t)
def Pr x:(qM x).length=3:=by cases x<;>rfl
def adI(F:bf K "ask_keeper" (top 132) f fd)(L:Lo P w K mg ai c):aM P w K mg ai aO 8 f fd dh (fj K c EJ):=by refine F.aX dh (λS H vs Q E hr h=> ?_);obtain⟨b,n,r,h,ns,rw,out,rfl,BA,hN,hR,⟨j,t,rfl,hj,rfl⟩,k⟩:=h;refine⟨_,aH (bP f6 (br (aB aF)) (cK L.Aa L.V.cl hr (dU L.now L.B.cl hr (pv 0)) (bu (bk (pv 1) aF) (bk (pv 1) aF)))),(by decide),λa ha=> ?_⟩;have s0:ah H (upd H a (.lst [.int 0])):=ah.new ha;obtain⟨dx,lj,lg,lh,hb⟩:=(BA.same s0).ins;refine⟨_,G,b,dx,_,G,hb,G,b,h,G,BA.same s0,λH1 v s1 V1=> ?_⟩;obtain⟨dv,_,_,hv⟩:=V1.ins;have eR:=(s0.trans s1).seq hN;refine⟨v,dv,_,G,hv,G,_,G,n,_,_,_,G,G,eR,aW G,_,G,n,_,_,_,G,G,eR,aW G,v,_,_,j,t,G,V1,hj,λH2 p s2 hp ag=> ?_⟩;refine⟨a,p,_,_,G,G,s2 _ _ (s1 _ _ ay),ag,?_,λq hq=>k _ q (s0.trans (s1.trans (s2.trans (ah.new hq)))) ay⟩;rw[aE,Pr];decide
def EK:fV:=λh ns _ out=>∃(j:bw)(t:Nat),ns=[(j.number:Int),(t:Int)]/\j∈h.journeys/\out=[0,(UX (bq h) j t:Int),Vl (vo (bq h) j t)]
def adJ(F:bf K "ask_status" (top 131) f fd)(L:Lo P w K mg ai c):aM P w K mg ai aO 8 f fd dh (fj K c EK):=by
 refine F.aX ["book","numbers","row","view","way","late"] (λS H vs Q E hr h=> ?_);obtain⟨b,n,r,h,ns,rw,out,rfl,BA,hN,hR,⟨j,t,rfl,hj,rfl⟩,k⟩:=h
 exists _,aC (aY 3 S (dU L.now L.B.cl hr (pv 0))) (aC (aY 4 S (cK L.ux L.V.cl hr (pv 3) (aB (bk (pv 1) aF)))) (aC (aY 5 S (aT L.overdue hr (cg (cK L.journeyOf L.V.cl hr (pv 3) (aB (bk (pv 1) aF))) (pv 4) (bk (pv 1) aF)))) (aH (br (cg aF (aT L.adH hr (bu (pv 4) (bk (pv 1) aF))) (lC (fQ (pv 5)) aF aF))))));obtain⟨dx,lj,lg,lh,hb⟩:=BA.ins;refine⟨_,G,b,dx,_,G,hb,G,b,h,G,BA,λH1 v s1 V1=> ?_⟩;obtain⟨dv,_,_,hv⟩:=V1.ins;have eR:=s1.seq hN;refine⟨_,G,v,dv,_,G,hv,G,_,G,n,_,_,_,G,G,eR,aW G,v,_,_,j,G,V1,hj,λH2 p way s2 hp ag T e hO=> ?_⟩;have J:=V1.ok.ok j hj;have a4:=s2.seq eR;refine⟨_,G,v,dv,_,G,s2 _ _ hv,G,_,G,n,_,_,_,G,G,a4,aW G,v,_,_,j,G,V1.same s2,hj,λja EL=> ?_⟩;exists _,G,_,G,n,_,_,_,G,G,a4,aW G,ja,p,j,way,t,G,EL,uv J,az.of ag,T,_,G,_,G,n,_,_,_,G,G,a4,aW G,p,way,t,G,az.of ag,T,λH3 s3=> ?_
 have fin:∀z:Int,z=Vl (vo (bq h) j t)->∀q,H3 q=ak->Q (.ref q) (upd H3 q (.lst [.int 0,.int (nJ (way.map (·.2)) t:Nat),.int z])):=λz hz q hq=>by refine k _ q (s1.trans (s2.trans (s3.trans (ah.new hq)))) ?_;rw[ay,aab V1.kinds J,<-qi e,hz];rfl
 exists _,G,_,G;rw[qi e,<-Mt V1.kinds J]at*;cases ho:vo (bq h) j t with
 |true=>exact bK ⟨(by show 3<=sizeLine;decide),λq hq=>fin 1 (by rw[ho];rfl) q hq⟩
 |false=>exact bX ⟨(by show 3<=sizeLine;decide),λq hq=>fin 0 (by rw[ho];rfl) q hq⟩
theorem mX{α:Type}(g:α->M Int)m:∀l:M α,(∀x∈l,(g x).length<=m)->(l.flatMap g).length<=m*l.length|[],_=>by simp|a::l,h=>by rw[gW,bD,bT,Nat.mul_add];have h1:=h a bW;have h2:=mX g m l λx hx=>h x (bZ _ hx);lia
def adK(e:way.map (λx=>(cI j.route x.2,x.2))=cD kn j)(g:bO->M Int):way.flatMap (λx=>g x.2)=(cD kn j).flatMap λx=>g x.2:=by rw[<-e,tw]
theorem wY{xs:M Int}(h:xs.length<=100000):[V.int 0].length+(((xs.length:Int)::xs).map V.int).length<=sizeLine:=by rw[aE,bT,cY];show 1+(xs.length+1)<=_;lia
def uy{K:aR}{zs:M Int}(hq:H q=I (.lst (zs.map V.int)))(hl:zs.length<=100000)(ht:∀U(R:M V->Hp->Prop),ah H U->R [.ref q] U->t σ U R)
  (k:∀U p,ah H U->U p=I (.lst ((0::pM zs).map V.int))->D.rt (.ref p) U):lD (lF K5 (Cv (gI (tC (.int 0)) gH)) (Cw D5 [] E0 t)) D σ H:=by
 refine⟨(by decide),λa ha=> ?_⟩;have s0:ah H (upd H a (.lst [.int 0])):=ah.new ha;refine ht _ _ s0 ?_;refine⟨q,zs,G,s0 _ _ hq,hl,λH2 p s2 hp ag=>⟨a,p,_,_,G,G,s2 _ _ ay,ag,wY hl,λz hz=>k _ z (s0.trans (s2.trans (ah.new hz))) (by rw[ay];rfl)⟩⟩
def uz(n:bO):M Int:=[(n.id:Int),(n.office:Int),(n.kind:Int),(n.time:Int)]
def EM:fV:=λh ns _ out=>∃(j:bw),ns=[(j.number:Int)]/\j∈h.journeys/\out=0::pM ((cD (bq h) j).flatMap λx=>uz x.2)
theorem adL(F:bf K "ask_way" (top 133) f fd)(L:Lo P w K mg ai c):aM P w K mg ai aO 8 f fd dh (fj K c EM):=by
 refine F.aX ["book","numbers","row","told","news"] (λS H vs Q E hr h=> ?_);obtain⟨b,n,r,h,ns,rw,out,rfl,BA,hN,hR,⟨j,rfl,hj,rfl⟩,k⟩:=h
 exists _,aC (aY 3 S (br eT)) (aC (fC eN G (cV (cK L.ux L.V.cl hr (dU L.now L.B.cl hr (pv 0)) (aB (bk (pv 1) aF)))) (cE 4 S) (cA (fR (ee fq l8 oq oG (pv 3) (aB (br (dw (aS 4) (cg (aS 4) (aS 4) (aS 4))))))))) (aH (bP f6 (br (aB aF)) (aT L.jn hr (aB (pv 3))))));refine⟨b6 _,λq hq=> ?_⟩;have s0:ah H (upd H q (.lst [])):=ah.new hq;obtain⟨dx,lj,lg,lh,hb⟩:=(BA.same s0).ins;refine⟨_,G,b,dx,_,G,hb,G,b,h,G,BA.same s0,λH1 v s1 V1=> ?_⟩;obtain⟨dv,_,_,hv⟩:=V1.ins;refine⟨v,dv,_,G,hv,G,_,G,n,_,_,_,G,G,(s0.trans s1).seq hN,aW G,v,_,_,j,G,V1,hj,λH2 p way s2 hp ag T e hO=>⟨p,G,⟨_,az.of ag⟩,?_⟩⟩;have q2:=s2 _ _ (s1 _ _ ay);have dk:p≠q:=λz=>by rw[z,s1 _ _ ay]at hp;cases hp
 let H0:Hp:=λx=>if x=q then ak else H2 x;have h0:∀x o,x≠q->H2 x=I o->H0 x=I o:=λx o hx e=>by show(if x=q then ak else H2 x)=_;rw[au hx];exact e
 have sH0:ah H0 H2:=λx o e=>by
  by_cases z:x=q
  .rw[show H0 x=ak from av z]at e;cases e
  rw[show H0 x=H2 x from au z]at e;exact e
 have ew:=T.len;have Hk:ah H H0:=λx o e=>h0 x o (b_ e hq) (s2 _ _ (s1 _ _ (s0 _ _ e)));have ZB:∀{x o},H2 x=I o->(∀xs,o≠ .lst xs)->H0 x=I o:=λ{x o}e hn=>h0 x o (λz=>by rw[z,q2]at e;cases e;exact hn [] G) e;refine adh (K:=K) (a:=p) (q:=q) (H0:=H0) way (λx=>V.ref x.1) (λx=>uz x.2) (λσ=>∃v4:aG V,σ=[I (.ref b),I (.ref n),I (.ref r),I (.ref q),v4]) ⟨ak,G⟩ sH0 q2 (λU s3=>az.of (s3 _ _ (h0 _ _ dk ag))) (λx σ' U acc N a5 hx⟨v4,hσ⟩s3 ha hl hN=> ?_) λσ' U⟨v4,hσ⟩s3 o1=> ?_
 .subst hσ;obtain⟨dy,ty,y1,Hm⟩:=T.at_ x hx;have hA:=s3 _ _ (ZB y1 (λ_ z=>by cases z));refine⟨_,G,.inl ⟨G,_,az.of ha⟩,_,G,x.1,c.N,dy,_,_,G,hA,L.N.cl,L.N.number,G,_,G,x.1,c.N,dy,_,_,G,hA,L.N.cl,L.N.office,G,_,G,x.1,c.N,dy,_,_,G,hA,L.N.cl,L.N.told,G,_,G,x.1,c.N,dy,_,_,G,hA,L.N.cl,L.N.minute,G,(by show 4<=sizeLine;decide),λz hz=> ?_⟩;have adM:q≠z:=b_ ha hz;exists q,z,acc,_,G,G,by rw[aD adM];exact ha,ay,?_,hN _ _ ⟨_,G⟩ (ah.two s3 (av G) hz) ay;have:=mX (λx:AN=>uz x.2) 4 way λ_ _=>aZ 4;show acc.length+4<=sizeLine;have d3:acc.length+4<=(way.flatMap λx:AN=>uz x.2).length:=hl;rw[cY];lia
 subst hσ;have:=mX (λx:AN=>uz x.2) 4 way λ_ _=>aZ 4;refine uy (K:=K) o1 (by lia) (λH4 R s4 hR=>⟨_,G,hR⟩) λH4 p4 s4 Hn=>k H4 p4 ((Hk.trans s3).trans s4) ?_;rw[Hn,adK e uz]
def EN:fV:=λh ns _ out=>∃(j:bw),ns=[(j.number:Int)]/\j∈h.journeys/\out=0::pM ((yo (bq h) j).flatMap λx=>[(x.1:Int),(x.2:Int)])
theorem EO{α:Type}g:∀l:M α,(l.flatMap g).map (λ(n:Nat)=>(n:Int))=l.flatMap λx=>(g x).map λ(n:Nat)=>(n:Int)|[]=>rfl|a::l=>by rw[gW,gW,dH,EO g l]
theorem adN(F:bf K "ask_faults" (top 134) f fd)(L:Lo P w K mg ai c):aM P w K mg ai aO 8 f fd dh (fj K c EN):=by
 refine F.aX ["book","numbers","row","view"] (λS H vs Q E hr h=> ?_);obtain⟨b,n,r,h,ns,rw,out,rfl,BA,hN,hR,⟨j,rfl,hj,rfl⟩,k⟩:=h
 exists _,aC (aY 3 S (dU L.now L.B.cl hr (pv 0))) (aH (bP f6 (br (aB aF)) (aT L.jn hr (aB (aT L.faults hr (bu (cK L.Pn L.V.cl hr (pv 3) (aB (bk (pv 1) aF))) (cK L.adG L.V.cl hr (pv 3) (aB (bk (pv 1) aF)))))))));obtain⟨dx,lj,lg,lh,hb⟩:=BA.ins;refine⟨_,G,b,dx,_,G,hb,G,b,h,G,BA,λH1 v s1 V1=> ?_⟩;refine⟨(by decide),λa ha=> ?_⟩;have s2:ah H1 (upd H1 a (.lst [.int 0])):=ah.new ha;obtain⟨dv,_,_,hv⟩:=(V1.same s2).ins;have a4:=(s1.trans s2).seq hN;refine⟨_,G,v,dv,_,G,hv,G,_,G,n,_,_,_,G,G,a4,aW G,v,_,_,j,G,V1.same s2,hj,λrt h8=> ?_⟩;refine⟨_,G,v,dv,_,G,hv,G,_,G,n,_,_,_,G,G,a4,aW G,v,_,_,j,G,V1.same s2,hj,λH3 p told s3 hp ag ht T=> ?_⟩;refine⟨rt,p,j.route,told,G,az.of (s3 _ _ h8),az.of ag,T,λH4 z way s4 hz W bm=> ?_⟩;rw[Nh V1.kinds (V1.ok.ok j hj) ht T.ids W]at bm
 have hlen:((yo (bq h) j).flatMap λx=>[(x.1:Int),(x.2:Int)]).length<=2000:=by have h1:=Nf j.route told way told;rw[Nh V1.kinds (V1.ok.ok j hj) ht T.ids W]at h1;have h2:=cC qG (EO (λx:Nat×Nat=>[x.1,x.2]) (yo (bq h) j));rw[aE]at h2;have:=T.len;show((yo (bq h) j).flatMap λx:Nat×Nat=>[x.1,x.2].map λ(n:Nat)=>(n:Int)).length<=2000;lia
 refine⟨z,(yo (bq h) j).flatMap λx=>[(x.1:Int),(x.2:Int)],G,?_,by lia,λH5 p5 s5 bc c7=>⟨a,p5,_,_,G,G,s5 _ _ (s4 _ _ (s3 _ _ ay)),c7,wY (by lia),λy hy=>k _ y (s1.trans (s2.trans (s3.trans (s4.trans (s5.trans (ah.new hy)))))) (by rw[ay];rfl)⟩⟩;rw[bm,j7,EO];rfl
def ER:fV:=λh ns _ out=>∃(j:bw),ns=[(j.number:Int)]/\j∈h.journeys/\out=0::jy (Vm (bq h) j)
theorem adO route w:(ud route w).length<=route.length:=by
 unfold ud;split
 .simp
 exact cX (gV _ _) (by rw[gT];lia)
theorem adP(F:bf K "ask_missing" (top 135) f fd)(L:Lo P w K mg ai c):aM P w K mg ai aO 8 f fd dh (fj K c ER):=by
 refine F.aX ["book","numbers","row","view"] (λS H vs Q E hr h=> ?_);obtain⟨b,n,r,h,ns,rw,out,rfl,BA,hN,hR,⟨j,rfl,hj,rfl⟩,k⟩:=h
 exists _,aC (aY 3 S (dU L.now L.B.cl hr (pv 0))) (aH (bP f6 (br (aB aF)) (aT L.jn hr (aB (aT L.missing hr (bu (cK L.Pn L.V.cl hr (pv 3) (aB (bk (pv 1) aF))) (cK L.ux L.V.cl hr (pv 3) (aB (bk (pv 1) aF)))))))));obtain⟨dx,lj,lg,lh,hb⟩:=BA.ins;refine⟨_,G,b,dx,_,G,hb,G,b,h,G,BA,λH1 v s1 V1=> ?_⟩;refine⟨(by decide),λa ha=> ?_⟩;have s2:ah H1 (upd H1 a (.lst [.int 0])):=ah.new ha;obtain⟨dv,_,_,hv⟩:=(V1.same s2).ins;have a4:=(s1.trans s2).seq hN;have J:=V1.ok.ok j hj;refine⟨_,G,v,dv,_,G,hv,G,_,G,n,_,_,_,G,G,a4,aW G,v,_,_,j,G,V1.same s2,hj,λrt h8=> ?_⟩;refine⟨_,G,v,dv,_,G,hv,G,_,G,n,_,_,_,G,G,a4,aW G,v,_,_,j,G,V1.same s2,hj,λH3 p way s3 hp ag T e hO=> ?_⟩;have h6:=J.six;refine⟨rt,p,j.route,way,G,az.of (s3 _ _ h8),by lia,az.of ag,T,hO,λH4 z s4 hz bm=> ?_⟩;rw[qi e,<-Mv V1.kinds J]at bm
 have hlen:(Vm (bq h) j).length<=6:=by rw[Mv V1.kinds J];exact cX (adO _ _) h6
 refine⟨z,(Vm (bq h) j).map λ(n:Nat)=>n,G,by rw[bm,j7],by rw[aE];lia,λH5 p5 s5 bc c7=>⟨a,p5,_,_,G,G,s5 _ _ (s4 _ _ (s3 _ _ ay)),c7,wY (by rw[aE];lia),λy hy=>k _ y (s1.trans (s2.trans (s3.trans (s4.trans (s5.trans (ah.new hy)))))) (by rw[ay];rfl)⟩⟩
def cB(H:Hp)(q:af):Hp:=λx=>if x=q then ak else H x
def kQ H q:cB H q q=ak:=av G
variable{x:af}
def fW(hx:x≠q)(e:H x=I o):cB H q x=I o:=by unfold cB;rw[au hx];exact e
def kR H q:ah (cB H q) H:=λx o e=>by
 unfold cB at e;by_cases z:x=q
 .rw[av z]at e;cases e
 rw[au z]at e;exact e
def mY(hq:H q=ak)(s:ah H U):ah H (cB U q):=λx o e=>fW (b_ e hq) (s _ _ e)
def wZ(hq:H q=I (.lst xs))(e:H x=I o)(hn:∀ys,o≠ .lst ys):cB H q x=I o:=fW (λz=>by rw[z,hq]at e;cases e;exact hn xs G) e
theorem rS(l:M α)item gi lL(Sh:L2.St->Prop)(pj:Sh σ)(hq:H q=I (.lst (lL.map V.int)))(hl:az K (cB H q) a (l.map item))
  (turn:∀(b:α)(σ':L2.St)(U:Hp)(acc:M V)(N a5:L2.St->Hp->Prop),b∈l->Sh σ'->ah (cB H q) U->U q=I (.lst acc)->acc.length+(gi b).length<=lL.length+(l.flatMap gi).length->(∀σ2 H2,Sh σ2->ah (cB H q) H2->H2 q=I (.lst (acc++(gi b).map V.int))->N σ2 H2)->g (item b) σ' U λσ2 H2=>tb {D with nx:=N,ct:=N,fy:=a5} σ2 H2)
  (fin:∀(σ':L2.St)(U:Hp),Sh σ'->ah (cB H q) U->U q=I (.lst ((lL++l.flatMap gi).map V.int))->D.nx σ' U):
  ∃W:Nat->Nat->L2.St->Hp->Prop,(∃m,W 0 m σ H)/\∀i m σ H,W i m σ H->
   ((fB K a).stop i H/\D.nx σ H)\/((fB K a).go i H/\∃N:L2.St->Hp->Prop,(∀σ' U,N σ' U->∃m',m'<m/\W (i+1) m' σ' U)/\∀x U,(fB K a).iD i H x U->g x σ U λσ2 H2=>tb {D with nx:=N,ct:=N,fy:=D.nx} σ2 H2):=by
 refine jD (λi σ U=>Sh σ/\ah (cB H q) U/\U q=I (.lst ((lL++(l.take i).flatMap gi).map V.int))) ⟨pj,kR H q,by rw[hq];simp⟩ (λi σ U _ h=>h.2.1.seq hl) (λi x σ U hi h=> ?_) λσ U h=> ?_
 .rw[bF]at hi;obtain⟨b,hb,rfl⟩:=gP.mp hi;refine turn b σ U _ _ _ (bN hb) h.1 h.2.1 h.2.2 ?_ λσ2 H2 h1 h2 h3=>⟨h1,h2,?_⟩
  .have:=Ew l gi (i+1);rw[uw hb,bD]at this;rw[aE,bD];lia
  rw[h3,uw hb,<-dH,iu]
 rw[aE,i8]at h;exact fin σ U h.1 h.2.1 h.2.2
def ES:fV:=λh ns _ out=>∃(j:bw),ns=[(j.number:Int)]/\j∈h.journeys/\out=0::pM ((sW (bq h) j).flatMap λx=>[(x.1:Int),(x.2.1:Int),(x.2.2:Int)])
def dW(l:M Nat):M Int:=l.map λ(n:Nat)=>(n:Int)
variable{ts:M AT}
def adQ(e:ts.map (·.2)=qj kn j):ts.flatMap (λx=>dW x.2)=(sW kn j).flatMap λx=>[(x.1:Int),(x.2.1:Int),(x.2.2:Int)]:=by
 have h1:ts.flatMap (λx=>dW x.2)=(ts.map (·.2)).flatMap dW:=by rw[tw]
 rw[h1,e];unfold qj;rw[tw];rfl
def Pu(e:ts.map (·.2)=qj kn j):∀x∈ts,∃a b d,x.2=[a,b,d]:=λx hx=>by
 have:x.2∈qj kn j:=by rw[<-e];exact b7.mpr ⟨x,hx,G⟩
 obtain⟨y,_,h⟩:=b7.mp this;exists _,_,_,h.symm
theorem adR(F:bf K "ask_seals" (top 136) f fd)(L:Lo P w K mg ai c):aM P w K mg ai aO 8 f fd dh (fj K c ES):=by
 refine F.aX ["book","numbers","row","seals","seal"] (λS H vs Q E hr h=> ?_);obtain⟨b,n,r,h,ns,rw,out,rfl,BA,hN,hR,⟨j,rfl,hj,rfl⟩,k⟩:=h
 exists _,aC (aY 3 S (br eT)) (aC (fC eN G (cV (cK L.Pp L.V.cl hr (dU L.now L.B.cl hr (pv 0)) (aB (bk (pv 1) aF)))) (cE 4 S) (cA (fR (ee fq l8 oq Pj (pv 3) (aB (pv 4)))))) (aH (bP f6 (br (aB aF)) (aT L.jn hr (aB (pv 3))))));refine⟨b6 _,λq hq=> ?_⟩;have s0:ah H (upd H q (.lst [])):=ah.new hq;obtain⟨dx,lj,lg,lh,hb⟩:=(BA.same s0).ins;refine⟨_,G,b,dx,_,G,hb,G,b,h,G,BA.same s0,λH1 v s1 V1=> ?_⟩;obtain⟨dv,_,_,hv⟩:=V1.ins;refine⟨v,dv,_,G,hv,G,_,G,n,_,_,_,G,G,(s0.trans s1).seq hN,aW G,v,_,_,j,G,V1,hj,λH2 p ts s2 hp ag T e hl=>⟨p,G,⟨_,az.of ag⟩,?_⟩⟩;have q2:=s2 _ _ (s1 _ _ ay);have dk:p≠q:=λz=>by rw[z,s1 _ _ ay]at hp;cases hp
 have hb3:=mX (λx:AT=>dW x.2) 3 ts λx hx=>by obtain⟨cx,dL,f8,e3⟩:=(Pu e) x hx;rw[e3];exact aZ 3
 refine rS ts (λx=>V.ref x.1) (λx=>dW x.2) [] (λσ=>∃v4:aG V,σ=[I (.ref b),I (.ref n),I (.ref r),I (.ref q),v4]) ⟨ak,G⟩ q2 (az.of (fW dk ag)) (λx σ' U acc N a5 hx⟨v4,hσ⟩s3 ha hl hN=> ?_) λσ' U⟨v4,hσ⟩s3 o1=> ?_
 .subst hσ;have lc:=s3 _ _ (wZ q2 (T x hx) (λ_ z=>by cases z));refine⟨_,G,.inl ⟨G,_,az.of ha⟩,_,G,q,x.1,acc,_,G,G,ha,bz.of lc,?_,hN _ _ ⟨_,G⟩ (λd o ed=>by rw[aD (b_ ed (kQ H2 q))];exact s3 _ _ ed) ?_⟩
  .rw[fT];have:(dW x.2).length=x.2.length:=aE _;have d3:acc.length+(dW x.2).length<=0+(ts.flatMap λx:AT=>dW x.2).length:=hl;rw[cY];lia
  rw[ay,j7];rfl
 subst hσ;refine uy (K:=K) o1 (by show(ts.flatMap λx:AT=>dW x.2).length<=_;lia) (λH4 R s4 hR=>⟨_,G,hR⟩) λH4 p4 s4 Hn=>k H4 p4 (((mY hq (s0.trans (s1.trans s2))).trans s3).trans s4) ?_;rw[Hn];show I (HO.lst ((0::pM (ts.flatMap λx:AT=>dW x.2)).map V.int))=_;rw[adQ e]
def ET:fV:=λh _ _ out=>out=0::((bq h).length:Int)::(bq h).flatMap λn=>I0 (cM n)
theorem adS(F:bf K "ask_known" (top 130) f fd)(L:Lo P w K mg ai c)(sK:cF K c.N "row"):aM P w K mg ai aO 8 f fd dh (fj K c ET):=by
 refine F.aX ["book","numbers","row","known","answer","news"] (λS H vs Q E hr h=> ?_);obtain⟨b,n,r,h,ns,rw,out,rfl,BA,hN,hR,rfl,k⟩:=h
 exists _,aC (aY 3 S (fD (dU L.now L.B.cl hr (pv 0)) G)) (aC (aY 4 S (br (bu aF (bJ zq (by rfl) L.blt.len cJ (aB (pv 3)))))) (aC (fC eN G (cV (aT L.zD hr (aB (pv 3)))) (cE 5 S) (cA (fR (ee fq l8 oq Pj (pv 4) (aB (aS 5)))))) (aH (pv 4))));obtain⟨dx,lj,lg,lh,hb⟩:=BA.ins;refine⟨_,G,b,dx,_,G,hb,G,b,h,G,BA,λH1 v s1⟨⟨dv,He,vk,vl,d,v1,v2,v3,v4,v5⟩,v6,v7⟩=> ?_⟩;refine⟨v,c.V,dv,_,_,G,v1,L.V.cl,L.V.known,G,_,G,vk,_,G,v4.at_,(by show 2<=sizeLine;decide),λq hq=> ?_⟩;have s2:=ah.new (o:=.lst [.int 0,.int ((dj d).length:Nat)]) hq;refine⟨_,G,vk,d,_,G,v4.same s2,v5,λH3 p ns s3 hp ag cp hX hlen=>⟨p,G,⟨_,az.of ag⟩,?_⟩⟩;have ED:(dj d).length=(bq h).length:=by unfold dj;rw[aE,v5.length]
 have q3:H3 q=I (.lst (([0,((bq h).length:Int)]:M Int).map V.int)):=by rw[s3 _ _ ay,ED];rfl
 have dk:p≠q:=λz=>by rw[z,ay]at hp;cases hp
 have hb8:=mX (λx:AN=>dW (cM x.2)) 8 ns λ_ _=>aZ 8;refine rS ns (λx=>V.ref x.1) (λx=>dW (cM x.2)) [0,((bq h).length:Int)] (λσ=>∃v5:aG V,σ=[I (.ref b),I (.ref n),I (.ref r),I (.ref vk),I (.ref q),v5]) ⟨ak,G⟩ q3 (az.of (fW dk ag)) (λx σ' U acc N a5 hx⟨v5,hσ⟩s4 ha hl hN=> ?_) λσ' U⟨v5,hσ⟩s4 eC=> ?_
 .subst hσ;obtain⟨s',i3⟩:=hX x hx;obtain⟨dy,ty,y1,Hm⟩:=(v4.news s' x i3).same (s2.trans s3);refine⟨_,G,.inl ⟨G,_,az.of ha⟩,_,G,x.1,c.N,dy,_,_,G,(s4 _ _ (wZ q3 y1 (λ_ z=>by cases z))),L.N.cl,sK,G,q,ty,acc,_,G,G,ha,bz.of (s4 _ _ (wZ q3 Hm (λ_ z=>by cases z))),?_,hN _ _ ⟨_,G⟩ (λd o ed=>by rw[aD (b_ ed (kQ H3 q))];exact s4 _ _ ed) ?_⟩
  .have d3:acc.length+8<=2+(ns.flatMap λx:AN=>dW (cM x.2)).length:=hl;show acc.length+8<=sizeLine;rw[cY];lia
  rw[ay,j7];rfl
 subst hσ;exists _,G,k U q ((mY (s1.free hq) (s1.trans (s2.trans s3))).trans s4) ?_;rw[eC,<-cp,tw];rfl
theorem EU{α:Type}p g:∀l:M α,(l.flatMap λx=>if p x=aa then [(g x:Int)]else [])=(((l.filter p).map g).map λ(n:Nat)=>(n:Int))
 |[]=>rfl|a::l=>by rw[gW,EU p g l,kD];split<;>rfl
theorem adT(l:M α)item gi lL(Sh:L2.St->Prop)(pj:Sh σ)(hq:H q=I (.lst lL))(hl:az K (cB H q) a (l.map item))
  (turn:∀(b:α)(σ':L2.St)(U:Hp)(acc:M V)(N a5:L2.St->Hp->Prop),b∈l->Sh σ'->ah (cB H q) U->U q=I (.lst acc)->acc.length+(gi b).length<=lL.length+(l.flatMap gi).length->(∀σ2 H2,Sh σ2->ah (cB H q) H2->H2 q=I (.lst (acc++(gi b).map V.int))->N σ2 H2)->g (item b) σ' U λσ2 H2=>tb {D with nx:=N,ct:=N,fy:=a5} σ2 H2)
  (fin:∀(σ':L2.St)(U:Hp),Sh σ'->ah (cB H q) U->U q=I (.lst (lL++(l.flatMap gi).map V.int))->D.nx σ' U):
  ∃W:Nat->Nat->L2.St->Hp->Prop,(∃m,W 0 m σ H)/\∀i m σ H,W i m σ H->
   ((fB K a).stop i H/\D.nx σ H)\/((fB K a).go i H/\∃N:L2.St->Hp->Prop,(∀σ' U,N σ' U->∃m',m'<m/\W (i+1) m' σ' U)/\∀x U,(fB K a).iD i H x U->g x σ U λσ2 H2=>tb {D with nx:=N,ct:=N,fy:=D.nx} σ2 H2):=by
 refine jD (λi σ U=>Sh σ/\ah (cB H q) U/\U q=I (.lst (lL++((l.take i).flatMap gi).map V.int))) ⟨pj,kR H q,by rw[hq];simp⟩ (λi σ U _ h=>h.2.1.seq hl) (λi x σ U hi h=> ?_) λσ U h=> ?_
 .rw[bF]at hi;obtain⟨b,hb,rfl⟩:=gP.mp hi;refine turn b σ U _ _ _ (bN hb) h.1 h.2.1 h.2.2 ?_ λσ2 H2 h1 h2 h3=>⟨h1,h2,?_⟩
  .have:=Ew l gi (i+1);rw[uw hb,bD]at this;rw[bD,aE];lia
  rw[h3,uw hb,dH,iu]
 rw[aE,i8]at h;exact fin σ U h.1 h.2.1 h.2.2
def EV(s:ah (cB H q) U):ah (cB H q) (upd U q o):=λd o ed=>by rw[aD (b_ ed (kQ H q))];exact s _ _ ed
def EX:fV:=λh ns _ out=>∃t:Nat,ns=[(t:Int)]/\out=0::jy ((h.journeys.filter λj=>vo (bq h) j t).map λj=>j.number)
theorem adU(F:bf K "ask_overdue" (top 140) f fd)(L:Lo P w K mg ai c):aM P w K mg ai aO 8 f fd dh (fj K c EX):=by
 refine F.aX ["book","numbers","row","view","late","number"] (λS H vs Q E hr h=> ?_);obtain⟨b,n,r,h,ns,rw,out,rfl,BA,hN,hR,⟨t,rfl,rfl⟩,k⟩:=h
 exists _,aC (aY 3 S (dU L.now L.B.cl hr (pv 0))) (aC (aY 4 S (br eT)) (aC (fC eN G (cV (dU L.wX L.V.cl hr (pv 3))) (cE 5 S) (cA (bH (fQ (aT L.overdue hr (cg (cK L.journeyOf L.V.cl hr (pv 3) (aB (pv 5))) (cK L.ux L.V.cl hr (pv 3) (aB (pv 5))) (bk (pv 1) aF)))) (cA (fR (ee fq l7 nq lK (pv 4) (aB (pv 5))))) bG))) (aH (bP f6 (br (aB aF)) (aT L.jn hr (aB (pv 4)))))));obtain⟨dx,lj,lg,lh,hb⟩:=BA.ins;refine⟨_,G,b,dx,_,G,hb,G,b,h,G,BA,λH1 v s1 V1=>⟨b6 _,λq hq=> ?_⟩⟩;have s2:ah H1 (upd H1 q (.lst [])):=ah.new hq;obtain⟨dv,_,_,hv⟩:=V1.ins;refine⟨_,G,v,dv,_,G,s2 _ _ hv,G,v,_,_,G,V1.same s2,λH3 p s3 hp ag=>⟨p,G,⟨_,az.of ag⟩,?_⟩⟩;have q3:=s3 _ _ ay;have dk:p≠q:=λz=>by rw[z,ay]at hp;cases hp
 have sc:=mY hq (s2.trans s3);have hlen:=V1.ok.len;have ei:=mX (λj:bw=>if vo (bq h) j t=aa then [(j.number:Int)]else []) 1 h.journeys λj _=>by split<;>simp
 refine rS h.journeys (λj=>V.int (j.number:Nat)) (λj=>if vo (bq h) j t=aa then [(j.number:Int)]else []) [] (λσ=>∃v5:aG V,σ=[I (.ref b),I (.ref n),I (.ref r),I (.ref v),I (.ref q),v5]) ⟨ak,G⟩ q3 (az.of (fW dk ag)) (λj σ' U acc N a5 hj⟨v5,hσ⟩s4 ha hl a4=> ?_) λσ' U⟨v5,hσ⟩s4 eC=> ?_
 .subst hσ;have cw:=sc.trans s4;have Pw:=V1.same cw;have J:=V1.ok.ok j hj;have Px:=cw _ _ hv;refine⟨_,G,v,dv,_,G,Px,G,_,G,v,_,_,j,G,Pw,hj,λja EL=> ?_⟩;refine⟨_,G,v,dv,_,G,Px,G,_,G,v,_,_,j,G,Pw,hj,λH5 p5 way s5 bc c7 T e hO=> ?_⟩;exists _,G,n,_,_,_,G,G,(s1.trans (cw.trans s5)).seq hN,aW G,ja,p5,j,way,t,G,EL.same s5,uv J,az.of c7,T;have oD:=Mt V1.kinds J t;rw[<-qi e]at oD;exists _,G;rw[<-oD];refine b4 (λh1=> ?_) (λh1=> ?_)
  .rw[av h1]at a4;exists _,G,.inl ⟨G,_,az.of (s5 _ _ ha)⟩,_,G,q,acc,_,G,G,s5 _ _ ha,?_,a4 _ _ ⟨_,G⟩ (EV (s4.trans s5)) ay;rw[av h1]at hl;have d3:acc.length+1<=0+_:=hl;rw[cY];lia
  rw[au h1]at a4;exact a4 _ _ ⟨_,G⟩ (s4.trans s5) (by rw[s5 _ _ ha];simp)
 subst hσ;refine uy (K:=K) eC (by rw[ku];lia) (λH5 R s5 hR=>⟨_,G,hR⟩) λH5 p5 s5 bc=>k H5 p5 (s1.trans ((sc.trans s4).trans s5)) ?_;rw[bc,ku,EU (λj=>vo (bq h) j t) (λj=>j.number)];rfl
def Py x:∃a b d:Nat,qM x=[(a:Int),(b:Int),(d:Int)]/\((a=0/\x= .office b)\/(a=1/\x= .carrier b d)\/(a=2/\x= .free)):=by
 cases x with
 |office o=>exists 0,o,0,G,.inl ⟨G,G⟩
 |carrier a b=>exists 1,a,b,G,.inr (.inl ⟨G,G⟩)
 |free=>exists 2,0,0,G,.inr (.inr ⟨G,G⟩)
def EY:fV:=λh ns _ out=>∃o t:Nat,ns=[(o:Int),(t:Int)]/\out=0::jy ((h.journeys.filter λj=>jx (bq h) j t== .office o).map λj=>j.number)
theorem adV(F:bf K "ask_at" (top 153) f fd)(L:Lo P w K mg ai c):aM P w K mg ai aO 8 f fd dh (fj K c EY):=by
 refine F.aX ["book","numbers","row","view","held","number","keeper"] (λS H vs Q E hr h=> ?_);obtain⟨b,n,r,h,ns,rw,out,rfl,BA,hN,hR,⟨o,t,rfl,rfl⟩,k⟩:=h
 exists _,aC (aY 3 S (dU L.now L.B.cl hr (pv 0))) (aC (aY 4 S (br eT)) (aC (fC eN G (cV (dU L.wX L.V.cl hr (pv 3))) (cE 5 S) (aC (aY 6 S (cK L.Aa L.V.cl hr (pv 3) (bu (pv 5) (bk (pv 1) aF)))) (cA (bH (rq (bL dm (bk (pv 6) aF) (bM (by rfl) L.Z.DH)) (rm (bL dm (bk (pv 6) aF) (bk (pv 1) aF)))).pt (cA (fR (ee fq l7 nq lK (pv 4) (aB (pv 5))))) bG)))) (aH (bP f6 (br (aB aF)) (aT L.jn hr (aB (pv 4)))))));obtain⟨dx,lj,lg,lh,hb⟩:=BA.ins;refine⟨_,G,b,dx,_,G,hb,G,b,h,G,BA,λH1 v s1 V1=>⟨b6 _,λq hq=> ?_⟩⟩;have s2:ah H1 (upd H1 q (.lst [])):=ah.new hq;obtain⟨dv,_,_,hv⟩:=V1.ins;refine⟨_,G,v,dv,_,G,s2 _ _ hv,G,v,_,_,G,V1.same s2,λH3 p s3 hp ag=>⟨p,G,⟨_,az.of ag⟩,?_⟩⟩;have q3:=s3 _ _ ay;have dk:p≠q:=λz=>by rw[z,ay]at hp;cases hp
 have sc:=mY hq (s2.trans s3);have hlen:=V1.ok.len;have ei:=mX (λj:bw=>if(jx (bq h) j t== .office o)=aa then [(j.number:Int)]else []) 1 h.journeys λj _=>by split<;>simp
 refine rS h.journeys (λj=>V.int (j.number:Nat)) (λj=>if(jx (bq h) j t== .office o)=aa then [(j.number:Int)]else []) [] (λσ=>∃v5 v6:aG V,σ=[I (.ref b),I (.ref n),I (.ref r),I (.ref v),I (.ref q),v5,v6]) ⟨ak,ak,G⟩ q3 (az.of (fW dk ag)) (λj σ' U acc N a5 hj⟨v5,v6,hσ⟩s4 ha hl a4=> ?_) λσ' U⟨v5,v6,hσ⟩s4 eC=> ?_
 .subst hσ;have cw:=sc.trans s4;refine⟨_,G,v,dv,_,G,cw _ _ hv,G,_,G,_,G,n,_,_,_,G,G,(s1.trans cw).seq hN,aW G,v,_,_,j,t,G,V1.same cw,hj,λH5 p5 s5 bc c7=> ?_⟩;obtain⟨x,y,z,EZ,hk⟩:=Py (jx (bq h) j t);rw[EZ]at c7
  have no:(¬(x=0/\y=o))->(jx (bq h) j t== .office o)=ao:=λhn=>by rw[gB];intro e;obtain⟨k1,k2⟩|⟨k1,k2⟩|⟨k1,k2⟩:=hk<;>rw[e]at k2<;>cases k2;exact hn ⟨k1,G⟩
  have Pz:(¬(x=0/\y=o))->N [I (.ref b),I (.ref n),I (.ref r),I (.ref v),I (.ref q),I (.int (j.number:Nat)),I (.ref p5)] H5:=λhn=>by rw[au (by rw[no hn];exact dJ)]at a4;exact a4 _ _ ⟨_,_,G⟩ (s4.trans s5) (by rw[s5 _ _ ha];simp)
  exists _,G,p5,_,_,_,G,G,az.of c7,aW G,G,_,G,jK _ 0 (λh0=> ?_) (λh0=> ?_)
  .exists _,G,p5,_,_,_,G,G,az.of c7,aW (j:=1) G,_,G,n,_,_,_,G,G,(s1.trans (cw.trans s5)).seq hN,aW (j:=0) G,G,_,G,jK _ o (λh1=> ?_) (λh1=> ?_)
   .have yes:(jx (bq h) j t== .office o)=aa:=by
     rw[iZ];obtain⟨k1,k2⟩|⟨k1,k2⟩|⟨k1,k2⟩:=hk
     .rw[k2,h1]
     .lia
     lia
    rw[av yes]at a4 hl;exists _,G,.inl ⟨G,_,az.of (s5 _ _ ha)⟩,_,G,q,acc,_,G,G,s5 _ _ ha,?_,a4 _ _ ⟨_,_,G⟩ (EV (s4.trans s5)) ay;have d3:acc.length+1<=0+_:=hl;rw[cY];lia
   exact Pz λhn=>h1 hn.2
  exact Pz λhn=>h0 hn.1
 subst hσ;refine uy (K:=K) eC (by rw[ku];lia) (λH5 R s5 hR=>⟨_,G,hR⟩) λH5 p5 s5 bc=>k H5 p5 (s1.trans ((sc.trans s4).trans s5)) ?_;rw[bc,ku,EU (λj=>jx (bq h) j t== .office o) (λj=>j.number)];rfl
def oX(kn:M bO)(t:Nat)(j:bw):M Int:=match jx kn j t with| .carrier a b=>[(j.number:Int),(a:Int),(b:Int)]|_=>[]
def adW kn t j:(oX kn t j).length<=3:=by unfold oX;split<;>simp
def E1:fV:=λh ns _ out=>∃t:Nat,ns=[(t:Int)]/\out=0::pM (h.journeys.flatMap (oX (bq h) t))
theorem adX(F:bf K "ask_road" (top 154) f fd)(L:Lo P w K mg ai c):aM P w K mg ai aO 8 f fd dh (fj K c E1):=by
 refine F.aX ["book","numbers","row","view","carried","number","keeper"] (λS H vs Q E hr h=> ?_);obtain⟨b,n,r,h,ns,rw,out,rfl,BA,hN,hR,⟨t,rfl,rfl⟩,k⟩:=h
 exists _,aC (aY 3 S (dU L.now L.B.cl hr (pv 0))) (aC (aY 4 S (br eT)) (aC (fC eN G (cV (dU L.wX L.V.cl hr (pv 3))) (cE 5 S) (aC (aY 6 S (cK L.Aa L.V.cl hr (pv 3) (bu (pv 5) (bk (pv 1) aF)))) (cA (bH (bL dm (bk (pv 6) aF) (bM G L.Z.MV)) (cA (fR (ee fq l8 oq oG (pv 4) (aB (br (cg (pv 5) (bk (pv 6) aF) (bk (pv 6) aF))))))) bG)))) (aH (bP f6 (br (aB aF)) (aT L.jn hr (aB (pv 4)))))));obtain⟨dx,lj,lg,lh,hb⟩:=BA.ins;refine⟨_,G,b,dx,_,G,hb,G,b,h,G,BA,λH1 v s1 V1=>⟨b6 _,λq hq=> ?_⟩⟩;have s2:ah H1 (upd H1 q (.lst [])):=ah.new hq;obtain⟨dv,_,_,hv⟩:=V1.ins;refine⟨_,G,v,dv,_,G,s2 _ _ hv,G,v,_,_,G,V1.same s2,λH3 p s3 hp ag=>⟨p,G,⟨_,az.of ag⟩,?_⟩⟩;have q3:=s3 _ _ ay;have dk:p≠q:=λz=>by rw[z,ay]at hp;cases hp
 have sc:=mY hq (s2.trans s3);have hlen:=V1.ok.len;have ei:=mX (oX (bq h) t) 3 h.journeys λj _=>adW _ _ _;refine rS h.journeys (λj=>V.int (j.number:Nat)) (oX (bq h) t) [] (λσ=>∃v5 v6:aG V,σ=[I (.ref b),I (.ref n),I (.ref r),I (.ref v),I (.ref q),v5,v6]) ⟨ak,ak,G⟩ q3 (az.of (fW dk ag)) (λj σ' U acc N a5 hj⟨v5,v6,hσ⟩s4 ha hl a4=> ?_) λσ' U⟨v5,v6,hσ⟩s4 eC=> ?_
 .subst hσ;have cw:=sc.trans s4;refine⟨_,G,v,dv,_,G,cw _ _ hv,G,_,G,_,G,n,_,_,_,G,G,(s1.trans cw).seq hN,aW G,v,_,_,j,t,G,V1.same cw,hj,λH5 p5 s5 bc c7=> ?_⟩;obtain⟨x,y,z,EZ,hk⟩:=Py (jx (bq h) j t);rw[EZ]at c7;exists _,G,p5,_,_,_,G,G,az.of c7,aW G,G,_,G,jK _ 1 (λh0=> ?_) (λh0=> ?_)
  .have cj:oX (bq h) t j=[(j.number:Int),y,z]:=by
    unfold oX;obtain⟨k1,k2⟩|⟨k1,k2⟩|⟨k1,k2⟩:=hk
    .lia
    .rw[k2]
    lia
   rw[cj]at a4 hl;refine⟨_,G,.inl ⟨G,_,az.of (s5 _ _ ha)⟩,_,G,_,G,p5,_,_,_,G,G,az.of c7,aW (j:=1) G,_,G,p5,_,_,_,G,G,az.of c7,aW (j:=2) G,(by show 3<=sizeLine;decide),λe he=> ?_⟩;have eq:q≠e:=b_ (s5 _ _ ha) he;exists q,e,acc,_,G,G,by rw[aD eq];exact s5 _ _ ha,ay,?_,a4 _ _ ⟨_,_,G⟩ (ah.two (s4.trans s5) (kQ _ _) he) ay;have d3:acc.length+3<=0+_:=hl;show acc.length+3<=sizeLine;rw[cY];lia
  have cj:oX (bq h) t j=[]:=by
   unfold oX;obtain⟨k1,k2⟩|⟨k1,k2⟩|⟨k1,k2⟩:=hk
   .rw[k2]
   .lia
   rw[k2]
  rw[cj]at a4;exact a4 _ _ ⟨_,_,G⟩ (s4.trans s5) (by rw[s5 _ _ ha];simp)
 subst hσ;refine uy (K:=K) eC (by rw[ku];lia) (λH5 R s5 hR=>⟨_,G,hR⟩) λH5 p5 s5 bc=>k H5 p5 (s1.trans ((sc.trans s4).trans s5)) ?_;rw[bc,ku]
noncomputable def rT(j:bw)(x:M Nat):M Int:=match x with
 |[a,b,d]=>if d=0 then []else [(j.number:Int),(a:Int),(b:Int),(d:Int)]
 |_=>[]
def w4(kn:M bO)(j:bw):M Int:=(sW kn j).flatMap λx=>if x.2.2=0 then []else [(j.number:Int),(x.1:Int),(x.2.1:Int),(x.2.2:Int)]
def adY(e:ts.map (·.2)=qj kn j):ts.flatMap (λx=>rT j x.2)=w4 kn j:=by
 have h1:ts.flatMap (λx=>rT j x.2)=(ts.map (·.2)).flatMap (rT j):=by rw[tw]
 rw[h1,e];unfold qj w4;rw[tw];rfl
def E2:fV:=λh _ _ out=>out=0::pM (h.journeys.flatMap (w4 (bq h)))
def adZ kn j:(sW kn j).length<=(cD kn j).length:=by unfold sW;simp only;rw[aE,qS];exact cX (Nat.min_le_left _ _) (gV _ _)
theorem PB m:∀(l:M Nat)lo,l.Pairwise (· < ·)->(∀x∈l,lo<=x/\x<=m)->l.length<=m+1-lo|[],_,_,_=>b6 _|a::r,lo,h,hb=>by rw[ez]at h;have h1:=hb a bW;have h2:=PB m r (a+1) h.2 λx hx=>⟨h.1 x hx,(hb x (bZ _ hx)).2⟩;rw[bT];lia
theorem ad0(hk:fS kn)(J:g7 j):(cD kn j).length<=12:=by
 have h6:=J.six
 have:=PB 11 ((cD kn j).map (·.1)) 0 (pG.mpr ((rK kn j).Z5)) λx hx=>by obtain⟨y,hy,rfl⟩:=b7.mp hx;have h1:=(kM hk J y hy).le;unfold dM at h1;exact⟨b6 _,by lia⟩
 rw[aE]at this;lia
theorem ad1(F:bf K "ask_broken" (top 147) f fd)(L:Lo P w K mg ai c):aM P w K mg ai aO 8 f fd dh (fj K c E2):=by
 refine F.aX ["book","numbers","row","view","broken","number","seal"] (λS H vs Q E hr h=> ?_);obtain⟨b,n,r,h,ns,rw,out,rfl,BA,hN,hR,rfl,k⟩:=h
 exists _,aC (aY 3 S (dU L.now L.B.cl hr (pv 0))) (aC (aY 4 S (br eT)) (aC (fC eN G (cV (dU L.wX L.V.cl hr (pv 3))) (cE 5 S) (cA (fC eN G (cV (cK L.Pp L.V.cl hr (pv 3) (aB (pv 5)))) (cE 6 S) (cA (bH (bL lG (dS (pv 6) aF) (bM G L.Z.MX)) (cA (fR (ee fq l8 oq oG (pv 4) (aB (br (dw (pv 5) (cg (dS (pv 6) aF) (dS (pv 6) aF) (dS (pv 6) aF)))))))) bG))))) (aH (bP f6 (br (aB aF)) (aT L.jn hr (aB (pv 4)))))));obtain⟨dx,lj,lg,lh,hb⟩:=BA.ins;refine⟨_,G,b,dx,_,G,hb,G,b,h,G,BA,λH1 v s1 V1=>⟨b6 _,λq hq=> ?_⟩⟩;have s2:ah H1 (upd H1 q (.lst [])):=ah.new hq;obtain⟨dv,_,_,hv⟩:=V1.ins;refine⟨_,G,v,dv,_,G,s2 _ _ hv,G,v,_,_,G,V1.same s2,λH3 p s3 hp ag=>⟨p,G,⟨_,az.of ag⟩,?_⟩⟩;have q3:=s3 _ _ ay;have dk:p≠q:=λz=>by rw[z,ay]at hp;cases hp
 have sc:=mY hq (s2.trans s3);have hlen:=V1.ok.len
 have ei:=mX (w4 (bq h)) 48 h.journeys λj hj=>by refine cX (mX _ 4 _ λx _=>by split<;>simp) ?_;have h1:=adZ (bq h) j;have h2:=ad0 V1.kinds (V1.ok.ok j hj);lia
 refine rS h.journeys (λj=>V.int (j.number:Nat)) (w4 (bq h)) [] (λσ=>∃v5 v6:aG V,σ=[I (.ref b),I (.ref n),I (.ref r),I (.ref v),I (.ref q),v5,v6]) ⟨ak,ak,G⟩ q3 (az.of (fW dk ag)) (λj σ' U acc N a5 hj⟨v5,v6,hσ⟩s4 ha hl a4=> ?_) λσ' U⟨v5,v6,hσ⟩s4 eC=> ?_
 .subst hσ;have cw:=sc.trans s4;refine⟨_,G,v,dv,_,G,cw _ _ hv,G,_,G,v,_,_,j,G,V1.same cw,hj,λH5 p5 ts s5 bc c7 T e al=>⟨p5,G,⟨_,az.of c7⟩,?_⟩⟩;have lv:=s5 _ _ ha;have ad2:p5≠q:=λz=>by rw[z,ha]at bc;cases bc
  have pp:ah (cB H3 q) (cB H5 q):=λd o ed=>fW (b_ ed (kQ H3 q)) (s5 _ _ (s4 _ _ ed));rw[<-adY e]at a4 hl;refine adT (K:=K) (a:=p5) (q:=q) ts (λx=>V.ref x.1) (λx=>rT j x.2) acc (λσ=>∃v6:aG V,σ=[I (.ref b),I (.ref n),I (.ref r),I (.ref v),I (.ref q),I (.int (j.number:Nat)),v6]) ⟨v6,G⟩ lv (az.of (fW ad2 c7)) (λx σ' H6 c6 N' M' hx⟨v6,hσ⟩s6 HI PD xt=> ?_) λσ' H6⟨v6,hσ⟩s6 hq6=>a4 _ _ ⟨_,v6,hσ⟩ (pp.trans s6) hq6;subst hσ;obtain⟨x1,x2,x3,ex⟩:=Pu e x hx;have xv:=s6 _ _ (wZ lv (T x hx) (λ_ z=>by cases z));rw[ex]at xv xt;exists _,G,x.1,_,_,_,G,G,bz.of xv,aW (j:=2) G,G,_,G;rw[show decide (V.int ((x3:Nat):Int)=V.int 0)=decide (x3=0) from ff x3 0];refine b4 (λh0=> ?_) (λh0=> ?_)
  .have E3:¬x3=0:=by simpa using h0
   have eb:rT j [x1,x2,x3]=[(j.number:Int),(x1:Int),(x2:Int),(x3:Int)]:=au E3;rw[eb]at xt;rw[ex,eb]at PD;refine⟨_,G,.inl ⟨G,_,az.of HI⟩,_,G,_,G,x.1,_,_,_,G,G,bz.of xv,aW (j:=0) G,_,G,x.1,_,_,_,G,G,bz.of xv,aW (j:=1) G,_,G,x.1,_,_,_,G,G,bz.of xv,aW (j:=2) G,(by show 4<=sizeLine;decide),λe he=> ?_⟩;have eq:q≠e:=b_ HI he;exists q,e,c6,_,G,G,by rw[aD eq];exact HI,ay,?_,xt _ _ ⟨_,G⟩ (ah.two s6 (kQ _ _) he) ay;have d3:c6.length+4<=acc.length+_:=PD;have db:acc.length+(ts.flatMap λx=>rT j x.2).length<=0+_:=hl;show c6.length+4<=sizeLine;rw[cY];lia
  have E3:x3=0:=by simpa using h0
  have eb:rT j [x1,x2,x3]=[]:=av E3;rw[eb]at xt;exact xt _ _ ⟨_,G⟩ s6 (by rw[HI];simp)
 subst hσ;refine uy (K:=K) eC (by rw[ku];lia) (λH5 R s5 hR=>⟨_,G,hR⟩) λH5 p5 s5 bc=>k H5 p5 (s1.trans ((sc.trans s4).trans s5)) ?_;rw[bc,ku]
structure j8(mg:aj->aG aq):Prop where
 fF:cS mg "WRONG" (-1)
 E4:cS mg "NO_JOURNEY" (-3)
 PF:cS mg "NOT_SO_MANY" (-3)
 twice:cS mg "TWICE" (-5)
 PK:cS mg "FAULTY" (-5)
 full:cS mg "FULL" (-6)
 PL:cS mg "ON_WAY" (-7)
def rU(j:bw):M Int:=[(j.principal:Int),(j.amount:Int),(j.rate:Int),(j.limit:Int)]++jy j.route
theorem PM j:(rU j).length=5+j.route.length:=by simp[rU,jy,pM,I0];lia
def E5:fV:=λh _ _ out=>out=0::(h.journeys.length:Int)::h.journeys.flatMap rU
theorem ad3(F:bf K "ask_journeys" (top 148) f fd)(L:Lo P w K mg ai c):aM P w K mg ai aO 8 f fd dh (fj K c E5):=by
 refine F.aX ["book","numbers","row","answer","journey"] (λS H vs Q E hr h=> ?_);obtain⟨b,n,r,h,ns,rw,out,rfl,⟨⟨dx,lj,lg,lh,jl,gd,hs,BI⟩,ok⟩,hN,hR,rfl,k⟩:=h
 exists _,aC (aY 3 S (br (bu aF (bJ dc (by rfl) L.blt.len cJ (aB (aS 0)))))) (aC (fC eN G (cV (aS 0)) (cE 4 S) (aC (fR (ee fq l8 oq oG (pv 3) (aB (br (dw (aS 4) (cg (aS 4) (aS 4) (aS 4))))))) (cA (fR (ee fq l8 oq oG (pv 3) (aB (aT L.jn hr (aB (aS 4))))))))) (aH (pv 3)));refine⟨_,G,b,c.B,dx,_,_,G,BI.at_,L.B.cl,L.B.journeys,G,lj,_,G,.inl (az.of BI.js.at_),(by show 2<=sizeLine;decide),λq hq=> ?_⟩;have s2:=ah.new (o:=.lst [.int 0,.int ((jL jl).length:Nat)]) hq;exists _,G,b,c.B,dx,_,_,G,s2 _ _ BI.at_,L.B.cl,L.B.journeys,G,lj,G,⟨_,az.of (s2 _ _ BI.js.at_)⟩;have kt:jl.length=h.journeys.length:=by rw[<-BI.kP,aE]
 have hlen:=ok.js.len;have q3:(upd H q (.lst [.int 0,.int ((jL jl).length:Nat)])) q=I (.lst (([0,(h.journeys.length:Int)]:M Int).map V.int)):=by rw[ay,z9,kt];rfl
 have sc:=mY hq s2;have each:∀x∈jl,g7 x.2:=λx hx=>ok.js.ok x.2 (by rw[<-BI.kP];exact b7.mpr ⟨x,hx,G⟩)
 have ei:=mX (λx:AJ=>rU x.2) 11 jl λx hx=>by have:=(each x hx).six;rw[PM];lia
 refine rS jl (λx=>V.ref x.1) (λx=>rU x.2) [0,(h.journeys.length:Int)] (λσ=>∃v4:aG V,σ=[I (.ref b),I (.ref n),I (.ref r),I (.ref q),v4]) ⟨ak,G⟩ q3 (az.of (sc _ _ BI.js.at_)) (λx σ' U acc N a5 hx⟨v4,hσ⟩s4 ha hl a4=> ?_) λσ' U⟨v4,hσ⟩s4 eC=> ?_
 .subst hσ;obtain⟨cn,rl,j1,j2⟩:=(BI.js.each x hx).same (sc.trans s4);have d3:acc.length+(rU x.2).length<=2+(jl.flatMap λx:AJ=>rU x.2).length:=hl;have hj:=PM x.2;refine⟨_,G,.inl ⟨G,_,az.of ha⟩,_,G,x.1,c.J,cn,_,_,G,j1,L.J.cl,L.J.principal,G,_,G,x.1,c.J,cn,_,_,G,j1,L.J.cl,L.J.MZ,G,_,G,x.1,c.J,cn,_,_,G,j1,L.J.cl,L.J.M0,G,_,G,x.1,c.J,cn,_,_,G,j1,L.J.cl,L.J.limit,G,(by show 4<=sizeLine;decide),λe he=> ?_⟩;have eq:=b_ ha he;exists q,e,acc,_,G,G,by rw[aD eq];exact ha,ay,?_
  .show acc.length+4<=sizeLine;rw[cY];lia
  have s5:=ah.two (o:=.lst [.int (x.2.principal:Nat),.int (x.2.amount:Nat),.int (x.2.rate:Nat),.int (x.2.limit:Nat)]) (o':=.lst (acc++[.int (x.2.principal:Nat),.int (x.2.amount:Nat),.int (x.2.rate:Nat),.int (x.2.limit:Nat)])) s4 (kQ _ _) he;obtain⟨dj5,rl5,WP,W1⟩:=(BI.js.each x hx).same (sc.trans s5);exists _,G,.inl ⟨G,_,az.of ay⟩,_,G,x.1,c.J,dj5,_,_,G,WP,L.J.cl,L.J.route,G,rl5,dW x.2.route,G,by rw[W1,j7];rfl,?_,λH6 xz s6 PN xI=> ?_
  .have:=(each x hx).six;show(x.2.route.map λ(n:Nat)=>(n:Int)).length<=_;rw[aE];lia
  exists q,xz,_,_,G,G,s6 _ _ ay,xI,?_,a4 _ _ ⟨_,G⟩ (EV (s5.trans s6)) ?_
  .rw[bD,aE,bT];show acc.length+4+((x.2.route.map λ(n:Nat)=>(n:Int)).length+1)<=sizeLine;rw[aE,cY];lia
  rw[ay,iu];rfl
 subst hσ;exists _,G,k U q (sc.trans s4) ?_;rw[eC,<-BI.kP,tw];rfl
def E6:fV:=λh _ _ out=>out=0::I0 [h.journeys.length,h.guarantees.length,h.tells.length,(bq h).length,(yg (bq h)).length]
theorem GD.length{d:fE}{gs:M eE}(D:GD d gs):d.length=gs.length:=by
 have h1:(d.map λx=>(⟨x.1.1,x.1.2,x.2⟩:eE)).Perm gs:=by
  refine(UT ?_ ?_).mpr λg=> ?_
  .rw[Bu,pG]
   exact(pG.mp D.nd).imp λq e=>q (by injection e with e1 e2 e3;exact mh e1 e2)
  .exact D.iG.imp λq e=>by rw[e]at q;unfold lN at q;lia
  rw[b7];constructor
  .rintro⟨x,hx,rfl⟩;exact(D.mem _ _ _).mp hx
  intro hg;exists((g.principal,g.since),g.amount),(D.mem _ _ _).mpr hg,G
 rw[<-h1.length_eq,aE]
def ad4(F:bf K "ask_counts" (top 155) f fd)(L:Lo P w K mg ai c):aM P w K mg ai aO 8 f fd dh (fj K c E6):=by
 refine F.aX ["book","numbers","row","view"] (λS H vs Q E hr h=> ?_);obtain⟨b,n,r,h,ns,rw,out,rfl,BA,hN,hR,rfl,k⟩:=h
 exists _,aC (aY 3 S (dU L.now L.B.cl hr (pv 0))) (aH (br (dw aF (dw (bJ dc (by rfl) L.blt.len cJ (aB (aS 0))) (dw (bJ EG (by rfl) L.blt.len cJ (aB (aS 0))) (cg (dU L.tells L.B.cl hr (pv 0)) (bJ zq (by rfl) L.blt.len cJ (aB (aS 3))) (bJ dc (by rfl) L.blt.len cJ (aB (dU L.adF L.V.cl hr (pv 3))))))))));obtain⟨dA,_,_,_,hb⟩:=BA.ins;refine⟨_,G,b,dA,_,G,hb,G,b,h,G,BA,λH1 v s1 V1=> ?_⟩;obtain⟨⟨dx,lj,lg,lh,jl,gd,hs,BI⟩,ok⟩:=BA.same s1;obtain⟨⟨dv,He,vk,vl,d,v1,v2,v3,v4,v5⟩,v6,v7⟩:=id V1;refine⟨_,G,b,c.B,dx,_,_,G,BI.at_,L.B.cl,L.B.journeys,G,lj,_,G,.inl (az.of BI.js.at_),_,G,b,c.B,dx,_,_,G,BI.at_,L.B.cl,L.B.guarantees,G,lg,_,G,BI.gs.at_,_,G,b,dx,_,G,BI.at_,G,b,h,G,⟨⟨dx,lj,lg,lh,jl,gd,hs,BI⟩,ok⟩,_,G,v,c.V,dv,_,_,G,v1,L.V.cl,L.V.known,G,vk,_,G,v4.at_,_,G,v,dv,_,G,v1,G,v,_,_,G,V1,λH2 p nl s2 hp ag cp hlen=> ?_⟩;refine⟨p,_,G,.inl (az.of ag),(by show 6<=sizeLine;decide),λq hq=>k _ q (s1.trans (s2.trans (ah.new hq))) ?_⟩;rw[ay,z9,um,BI.geq.length,ug,<-aE (as:=nl),cp,<-aE,BI.kP];rw[show(dj d).length=(bq h).length by unfold dj;rw[aE,v5.length]];rfl
end Sp
namespace Sg
open Vbcuaf
abbrev Ch:=M (eO×Nat)
def within1(x:eO×Nat)(t:Nat):Bool:=decide (x.2<=t)&&decide (t<x.2+x.1.length)
def E7(x:eO×Nat)(l:Ch)t:fu (x::l) t=(if within1 x t=aa then x.1.share else 0)+fu l t:=by
 unfold fu;rw[kD];unfold within1;split
 .rfl
 simp
theorem w5(l m:Ch)t:fu (l++m) t=fu l t+fu m t:=by
 induction l with
 |nil=>rw[ku];show _=0+_;lia
 |cons x l ih=>rw[sR,E7,E7,ih];lia
theorem Ab(x:eO×Nat)t:fu [x] t=if within1 x t=aa then x.1.share else 0:=by rw[E7];show _+0=_;lia
def oY(l:Ch):M Nat:=l.map λx=>fu l x.2
def w6(l:M Nat)(a:Nat):Nat:=l.foldl max a
theorem PR:∀l a,a<=w6 l a|[],a=>aZ a|x::l,a=>cX (Nat.le_max_left a x) (PR l (max a x))
theorem E8:∀l a x,x∈l->x<=w6 l a
 |y::l,a,x,h=>by
  obtain rfl|h:=bh.mp h
  .exact cX (Nat.le_max_right a x) (PR l _)
  exact E8 l _ x h
theorem E9:∀l a b,a<=b->(∀x∈l,x<=b)->w6 l a<=b|[],_,_,h,_=>h|y::l,a,b,h,k=>E9 l _ b (Vn.mpr ⟨h,k y bW⟩) λx hx=>k x (bZ _ hx)
def E_(l:Ch):kG l=w6 (oY l) 0:=rfl
theorem ad5(l m:Ch):kG l<=kG (l++m):=by rw[E_,E_];refine E9 _ _ _ (b6 _) λx hx=> ?_;obtain⟨y,hy,rfl⟩:=b7.mp hx;refine cX ?_ (E8 _ _ (fu (l++m) y.2) (b7.mpr ⟨y,k6 _ hy,G⟩));rw[w5];lia
abbrev BestP:=aG (Nat×M Nat)
def pick(b:BestP)(x:Nat×M Nat):BestP:=match b with|none=>I x|some y=>if x.1<y.1 then I x else I y
def done(best:BestP)(l:Ch):Bool:=best.any λb=>decide (b.1<=kG l)
noncomputable def jo:M eO->Ch->BestP->BestP
 |[],l,best=>if done best l=aa then best else I (kG l,l.map (·.2))
 |p::r,l,best=>if done best l=aa then best else p.options.foldl (λb m=>jo r (l++[(p,m)]) b) best
def w7(rest:M eO)(l:Ch):M (Nat×M Nat):=(Vo (rest.map λx=>x.options)).map λw=>(kG (l++rest.zip w),l.map (·.2)++w)
theorem PU{b:Nat×M Nat}:∀(ws:M (Nat×M Nat)),(∀x∈ws,b.1<=x.1)->ws.foldl pick (I b)=I b
 |[],_=>rfl|x::ws,h=>by
  rw[qH]
  have:pick (I b) x=I b:=by have:=h x bW;exact au (by lia)
  rw[this];exact PU ws λy hy=>h y (bZ _ hy)
def PV{rest:M eO}{l:Ch}{best:BestP}(hp:done best l=aa):(w7 rest l).foldl pick best=best:=by
 unfold done at hp;cases best with
 |none=>cases hp
 |some b=>
  have hb:b.1<=kG l:=by simpa using hp
  refine PU _ λx hx=> ?_;obtain⟨w,_,rfl⟩:=b7.mp hx;exact cX hb (ad5 _ _)
def ad6(p:eO)r(l:Ch):w7 (p::r) l=p.options.flatMap λm=>w7 r (l++[(p,m)]):=by show((p.options.flatMap λd=>(Vo (r.map λx=>x.options)).map λw=>d::w).map _)=_;rw[List.map_flatMap];refine cC (λf=>p.options.flatMap f) (funext λm=> ?_);rw[bQ];refine kB λw _=> ?_;show(kG (l++(p::r).zip (m::w)),l.map (·.2)++(m::w))=_;rw[xV,dH,iu,iu];rfl
theorem Fc:∀rest(l:Ch)(best:BestP),jo rest l best=(w7 rest l).foldl pick best
 |[],l,best=>by
  unfold jo;by_cases hp:done best l=aa
  .rw[av hp,PV hp]
  rw[au hp];show _=[(kG (l++[]),l.map (·.2)++[])].foldl pick best;rw[jT,jT];show _=pick best _;unfold pick;cases best with
  |none=>rfl
  |some b=>
   have hb:¬b.1<=kG l:=by simpa[done]using hp
   simp only;rw[av (by lia)]
 |p::r,l,best=>by
  unfold jo;by_cases hp:done best l=aa
  .rw[av hp,PV hp]
  rw[au hp,ad6]
  have:∀(os:M Nat)(b:BestP),os.foldl (λb m=>jo r (l++[(p,m)]) b) b=(os.flatMap λm=>w7 r (l++[(p,m)])).foldl pick b:=by
   intro os;induction os with
   |nil=>intro b;rfl
   |cons m os ih=>intro b;rw[qH,gW,pH,ih,Fc r]
  exact this p.options best
def Fd l:BG l=jo l [] ak:=by rw[Fc];rfl
def ad7(l:Ch)(p:eO)b:oY (l++[(p,b)])=(l.map λx=>fu l x.2+if within1 (p,b) x.2=aa then p.share else 0)++[fu l b+if within1 (p,b) b=aa then p.share else 0]:=by
 unfold oY;rw[dH];congr 1
 .refine kB λx _=> ?_;rw[w5,Ab]
 show [fu (l++[(p,b)]) b]=_;rw[w5,Ab]
theorem PX:∀rest(l:Ch)(best:BestP),(∀p∈rest,p.options≠ [])->∃b,jo rest l best=I b
 |[],l,best,h=>by
  unfold jo;by_cases hp:done best l=aa
  .rw[av hp];cases best with
   |none=>cases hp
   |some b=>exists b,G
  rw[au hp];exists _,G
 |p::r,l,best,h=>by
  unfold jo;by_cases hp:done best l=aa
  .rw[av hp];cases best with
   |none=>cases hp
   |some b=>exists b,G
  rw[au hp]
  have:∀os(b:BestP),os≠ []->∃c,os.foldl (λb m=>jo r (l++[(p,m)]) b) b=I c:=by
   intro os;induction os with
   |nil=>intro b q;exact aU G q
   |cons m os ih2=>
    intro b _;rw[qH];cases os with
    |nil=>exact(λm b=>PX r (l++[(p,m)]) b λq hq=>h q (bZ _ hq)) m b
    |cons _ _=>exact ih2 _ (by simp)
  exact this _ _ (h p bW)
end Sg
namespace Sg
def jN(c:Nat->Bool):M Nat->aG Nat|[]=>ak|u::r=>if(u::r).all c=aa then I u else jN c r
variable{c:Nat->Bool}
def PY:∀{m:M Nat},m.all c=aa->jN c m=m.head?|[],_=>rfl|u::r,h=>by unfold jN;rw[av h];rfl
theorem PZ{c:Nat->Bool}{x:Nat}{m:M Nat}(hx:c x=ao)(hm:m.all c=aa):∀l,jN c (l++x::m)=m.head?|[]=>by rw[ku];unfold jN;rw[au (by rw[pe,hx];simp)];exact PY hm|u::l=>by rw[sR];unfold jN;rw[au (by rw[pe,List.all_append,pe,hx];simp)];exact PZ hx hm l
theorem P0{c:Nat->Bool}:∀{m:M Nat}{x:Nat},jN c m=I x->x∈m
 |u::r,x,h=>by
  unfold jN at h;split at h
  .cases h;exact bW
  exact bZ _ (P0 h)
theorem Fe{c:Nat->Bool}{T:M Nat}(hT:T.Pairwise (· < ·)):∀r v,r=T.filter (λu=>decide (v<u))->
  jN c (v::r)=(v::r).find? λu=>(u::T.filter λz=>decide (u<z)).all c
 |[],v,hr=>by
  unfold jN;rw[iw,<-hr];cases e:[v].all c with
  |true=>rfl
  |false=>rfl
 |w::r,v,hr=>by
  have hw:r=T.filter λu=>decide (w<u):=by
   have hs:(w::r).Pairwise (· < ·):=by rw[hr];exact hT.filter _
   have hvw:v<w:=by
    have:w∈T.filter λu=>decide (v<u):=by rw[<-hr];exact bW
    simpa using(eY.mp this).2
   have e1:(T.filter λu=>decide (v<u)).filter (λu=>decide (w<u))=T.filter λu=>decide (w<u):=by
    rw[List.filter_filter];refine Bv λu _=> ?_;by_cases q:w<u
    .have:v<u:=by lia
     simp[q,this]
    simp[q]
   rw[<-e1,<-hr,kD,au (by simp)];refine(mq.mpr λu hu=> ?_).symm;simpa using(ez.mp hs).1 u hu
  rw[iw];unfold jN;rw[<-hr];cases e:(v::w::r).all c with
  |true=>rfl
  |false=>rw[au (by decide)];exact Fe hT r w hw (c:=c)
theorem ad8{t:Nat}{F:M Nat}(hF:∀u∈F,t<u):(t::F).all c=decide (jN c (t::F)=I t):=by
 unfold jN;cases e:(t::F).all c with
 |true=>simp
 |false=>rw[au (by decide)];refine(aV λq=> ?_).symm;have:=hF t (P0 q);lia
end Sg
namespace Sp
open PySem PySem.Spec PyProof.Rows L2 Sg
variable{ss:M AS}{kn:M bO}{js:M bw}{p:Nat}
def P1(e:ss.map (·.2)=iH kn js p)t:lR ss t=vp kn js p t:=by unfold lR;rw[e,<-Sg.wz]
variable{gs:M eE}
def ad9{d:fE}(ar:GD d gs)p x:x∈gJ d p↔∃g∈gs,g.principal=p/\g.since=x:=by
 unfold gJ;rw[b7];constructor
 .rintro⟨y,hy,rfl⟩;obtain⟨h1,h2⟩:=eY.mp hy;exists⟨y.1.1,y.1.2,y.2⟩,(ar.mem _ _ _).mp h1,by simpa using h2,G
 rintro⟨g,hg,rfl,rfl⟩;exists((g.principal,g.since),g.amount),eY.mpr ⟨(ar.mem _ _ _).mpr hg,by simp⟩,G
variable{ts:M Nat}
def P4{d:fE}(e:ss.map (·.2)=iH kn js p)(ar:GD d gs)(hs:ts.Pairwise (· < ·))(hm:∀x,x∈ts↔(∃y∈ss,y.2.left=x\/y.2.cleared=I x)\/x∈gJ d p):ts=yv kn js gs p:=by refine ZT hs (zE _ _ _ _) λx=> ?_;rw[hm,L_,ad9 ar,<-e];refine or_congr ⟨λ⟨y,h1,h2⟩=>⟨y.2,b7.mpr ⟨y,h1,G⟩,h2⟩,λ⟨z,h1,h2⟩=> ?_⟩ Iff.rfl;obtain⟨y,h3,rfl⟩:=b7.mp h1;exists y,h3,h2
def Ac(ts:M Nat)(i:Nat):Int:=match ts[i+1]? with|some u=>(u:Int)|none=> -1
theorem ad_(ts:M Nat):ts.zip (iI ts)=ts.zipIdx.map λx=>(x.1,Ac ts x.2):=by
 refine Bx λi=> ?_;rw[bF];obtain q|q:=i9 i ts.length
 .have e1:=bg q;rw[List.getElem?_zipIdx,e1]
  have e2:(iI ts)[i]? =I (Ac ts i):=by
   unfold iI Ac;obtain q2|q2:=i9 (i+1) ts.length
   .have e3:=bg q2;rw[xU (by rw[aE,ir];lia),bF,List.getElem?_drop,UC 1 i,e3];rfl
   rw[vc (by rw[aE,ir];lia),aE,ir,show i-(ts.length-1)=0 by lia,n9 q2];rfl
  rw[(ym (z:=(ts[i],Ac ts i))).mpr ⟨e1,e2⟩];simp
 rw[n9 (by rw[qS];lia),n9 (by rw[List.length_zipIdx];exact q)];rfl
theorem P5{α β:Type}f p(g:β->M Int):∀l:M α,((l.map f).filter p).flatMap g=l.flatMap λx=>if p (f x)=aa then g (f x)else []
 |[]=>rfl|a::l=>by
  rw[b9,kD,gW,<-P5 f p g l];split
  .rw[gW]
  rfl
noncomputable def P6(x:Nat×aG Nat×Nat×Nat):M Int:=[(x.1:Int),(match x.2.1 with|some u=>(u:Int)|none=> -1),(x.2.2.1:Int),(x.2.2.2:Int)]
def aea(e:ss.map (·.2)=iH kn js p)(Id:ts=yv kn js gs p):nK ss gs p (ts.zip (iI ts))=(Vp kn js gs p).flatMap P6:=by
 unfold Vp nK;simp only;rw[<-Id,P5,ad_,tw];congr 1;funext x;unfold rM;simp only;rw[P1 e];by_cases q:i7 gs p x.1<vp kn js p x.1
 .rw[av q,av (aP q)];rfl
 rw[au q,au (by rw[aV q];exact dJ)]
def P7 kn js p t:((BH kn js p t).map λj=>j.number).length<=js.length:=by rw[aE];exact gV _ _
def Ff:fV:=λh ns _ out=>∃p t:Nat,ns=[(p:Int),(t:Int)]/\out=0::(vp (bq h) h.journeys p t:Int)::(i7 h.guarantees p t:Int)::jy ((BH (bq h) h.journeys p t).map λj=>j.number)
variable{P:bY}{w:bR}{K:aR}{mg:aj->aG aq}{ai:bB}{c:fh}{f:af}{fd:gC}
theorem aeb(F:bf K "ask_reserved" (top 137) f fd)(L:Lo P w K mg ai c):aM P w K mg ai aO 8 f fd dh (fj K c Ff):=by
 refine F.aX ["book","numbers","row","spans","covered"] (λS H vs Q E hr h=> ?_);obtain⟨b,n,r,h,ns,rw,out,rfl,BA,hN,hR,⟨p,t,rfl,rfl⟩,k⟩:=h
 exists _,aC (aY 3 S (cK L.rR L.V.cl hr (dU L.now L.B.cl hr (pv 0)) (aB (bk (pv 1) aF)))) (aC (aY 4 S (aT L.Pq hr (cg (aS 0) (bk (pv 1) aF) (bk (pv 1) aF)))) (aH (bP f6 (br (cg aF (aT L.EH hr (bu (pv 3) (bk (pv 1) aF))) (pv 4))) (aT L.jn hr (aB (aT L.outAt hr (bu (pv 3) (bk (pv 1) aF))))))));obtain⟨dA,_,_,_,hb⟩:=BA.ins;refine⟨_,G,b,dA,_,G,hb,G,b,h,G,BA,λH1 v s1 V1=> ?_⟩;obtain⟨dv,_,_,hv⟩:=V1.ins;refine⟨v,dv,_,G,hv,G,_,G,n,_,_,_,G,G,s1.seq hN,aW G,v,_,_,p,G,V1,λH2 q ss s2 hq bj T e=> ?_⟩;obtain⟨⟨dx,lj,lg,lh,jl,gd,hs,BI⟩,ok⟩:=BA.same (s1.trans s2);have a4:=(s1.trans s2).seq hN;refine⟨_,G,b,c.B,dx,_,_,G,BI.at_,L.B.cl,L.B.guarantees,G,_,G,n,_,_,_,G,G,a4,aW G,_,G,n,_,_,_,G,G,a4,aW G,lg,p,t,gd,_,G,BI.gs,BI.geq,λH3 s3=> ?_⟩;refine⟨_,G,_,G,n,_,_,_,G,G,s3.seq a4,aW G,q,ss,t,G,az.of (s3 _ _ bj),T.same s3,λH4 s4=> ?_⟩;refine⟨_,G,(by show 3<=sizeLine;decide),λa ha=> ?_⟩;have s5:=ah.new (o:=.lst [.int 0,.int (((ss.map (·.2)).filter λs=>dZ s t).map λs=>(s.share:Int)).sum,.int (i7 h.guarantees p t:Nat)]) ha;have gN:=(s3.trans s4).trans s5;refine⟨_,G,_,G,n,_,_,_,G,G,gN.seq a4,aW G,q,ss,t,G,az.of (gN _ _ bj),T.same gN,λH6 z s6 hz bm=> ?_⟩;rw[e,L5]at bm;have c4:=P7 (bq h) h.journeys p t;have Fg:=ok.js.len;exists z,dW ((BH (bq h) h.journeys p t).map λj=>j.number),G,by rw[bm,j7];rfl,by show(qN _ _).length<=_;rw[aE];lia,λH7 y s7 hy cf=>⟨a,y,_,_,G,G,s7 _ _ (s6 _ _ ay),cf,?_,λx hx=>k _ x (s1.trans (s2.trans (gN.trans (s6.trans (s7.trans (ah.new hx)))))) ?_⟩
 .rw[aE,bT];show 3+((qN _ _).length+1)<=sizeLine;rw[aE,cY];lia
 rw[ay,e,L7];rfl
def Fi:fV:=λh ns _ out=>∃p:Nat,ns=[(p:Int)]/\out=0::((kE (bq h) h.journeys h.guarantees p).1:Int)::((kE (bq h) h.journeys h.guarantees p).2:Int)::jy ((BH (bq h) h.journeys p (kE (bq h) h.journeys h.guarantees p).2).map λj=>j.number)
def Fj(e:ss.map (·.2)=iH kn js p){Bs:M Nat}(h1:Bs.Pairwise (· <= ·))(h2:Bs.Perm (ss.map λx=>x.2.left)):
  Bs.foldl (jJ λt=>pK (((ss.map (·.2)).filter λs=>dZ s t).map (·.share))) (0,0)=kE kn js gs p:=by
 rw[<-ZX kn js gs p h1 (by rw[<-e,bQ];exact h2)];congr 2;funext t;rw[e,<-Sg.wz]
theorem aec(F:bf K "ask_peak" (top 138) f fd)(L:Lo P w K mg ai c):aM P w K mg ai aO 8 f fd dh (fj K c Fi):=by
 refine F.aX ["book","numbers","row","spans","peak"] (λS H vs Q E hr h=> ?_);obtain⟨b,n,r,h,ns,rw,out,rfl,BA,hN,hR,⟨p,rfl,rfl⟩,k⟩:=h
 exists _,aC (aY 3 S (cK L.rR L.V.cl hr (dU L.now L.B.cl hr (pv 0)) (aB (bk (pv 1) aF)))) (aC (aY 4 S (aT L.EI hr (aB (pv 3)))) (aH (bP f6 (br (cg aF (dS (pv 4) aF) (dS (pv 4) aF))) (aT L.jn hr (aB (aT L.outAt hr (bu (pv 3) (dS (pv 4) aF))))))));obtain⟨dA,_,_,_,hb⟩:=BA.ins;refine⟨_,G,b,dA,_,G,hb,G,b,h,G,BA,λH1 v s1 V1=> ?_⟩;obtain⟨dv,_,_,hv⟩:=V1.ins;refine⟨v,dv,_,G,hv,G,_,G,n,_,_,_,G,G,s1.seq hN,aW G,v,_,_,p,G,V1,λH2 q ss s2 hq bj T e=> ?_⟩;refine⟨_,G,q,ss,G,az.of bj,T,λH3 tp Bs s3 o0 fb Fl ht=> ?_⟩;rw[Fj e fb Fl]at ht;generalize hpk:kE (bq h) h.journeys h.guarantees p=pk at ht k;refine⟨_,G,tp,_,_,_,G,G,bz.of ht,aW G,_,G,tp,_,_,_,G,G,bz.of ht,aW G,(by show 3<=sizeLine;decide),λa ha=> ?_⟩;have s4:=ah.new (o:=.lst [.int 0,.int (pk.1:Nat),.int (pk.2:Nat)]) ha;have sT:=s3.trans s4;refine⟨_,G,_,G,tp,_,_,_,G,G,bz.of (s4 _ _ ht),aW G,q,ss,pk.2,G,az.of (sT _ _ bj),T.same sT,λH6 z s6 hz bm=> ?_⟩;rw[e,L5]at bm;have c4:=P7 (bq h) h.journeys p pk.2;have Fg:=BA.ok.js.len;exists z,dW ((BH (bq h) h.journeys p pk.2).map λj=>j.number),G,by rw[bm,j7];rfl,by show(qN _ _).length<=_;rw[aE];lia,λH7 y s7 hy cf=>⟨a,y,_,_,G,G,s7 _ _ (s6 _ _ ay),cf,?_,λx hx=>k _ x (s1.trans (s2.trans (sT.trans (s6.trans (s7.trans (ah.new hx)))))) ?_⟩
 .rw[aE,bT];show 3+((qN _ _).length+1)<=sizeLine;rw[aE,cY];lia
 rw[ay];rfl
def aed ss t:(((ss.map (·.2)).filter λs=>dZ s t).map λs=>(s.share:Int)).sum=(lR ss t:Int):=by unfold lR;rw[<-Sg.wu,bQ];rfl
def rV(ss:M AS)(gs:M eE)(j:bw)(u:Nat):Bool:=decide (lR ss u+iy j.amount j.rate<=i7 gs j.principal u)
inductive P8 K(c:fh)(vs:M V)H(Q:VK)(E:XK):Prop|mk(l g ja:af)(t:Nat)(ss:M AS)(gd:fE)(gs:M eE)(j:bw)(_:vs=[.ref l,.ref g,.ref ja,.int (t:Nat)])(_:az K H l (lQ ss))(_:mT c.S H ss)(_:qf H g gd)(_:GD gd gs)(_:lP c.J H ja j)(_:∀(U:Hp)(ts:M Nat),ah H U->ts.Pairwise (· < ·)->(∀x,x∈ts↔(∃y∈ss,y.2.left=x\/y.2.cleared=I x)\/x∈gJ gd j.principal)->Q (qa (Sg.jN (rV ss gs j) (t::ts.filter λu=>decide (t<u)))) U)
variable{i:Nat}
theorem P9{xs:M Nat}(hi:i<xs.length):∃x,xs[xs.length-1-i]? =I x/\xs.drop (xs.length-(i+1))=x::xs.drop (xs.length-i)/\xs=xs.take (xs.length-1-i)++x::xs.drop (xs.length-i):=by
 have h:xs.length-1-i<xs.length:=by lia
 exists xs[xs.length-1-i],bg h,?_
 .rw[show xs.length-(i+1)=xs.length-1-i by lia,pJ h,show xs.length-1-i+1=xs.length-i by lia]
 have:=(pI (xs.length-1-i) xs).symm;rw[pJ h,show xs.length-1-i+1=xs.length-i by lia]at this;exact this
theorem aee(F:bf K "first_leave" (top 70) f fd)(L:Lo P w K mg ai c)(aef:mg "reversed"=ak)(hT:Def P w K mg ai 3 "turns_of" ["spans","begins"] (D6 K c.S))(hB:Def P w K mg ai 1 "begins_of" ["guarantees","principal"] zQ):
  aM P w K mg ai aO 4 f fd ["spans","guarantees","journey","minute"] (P8 K c):=by
 refine F.aX ["spans","guarantees","journey","minute","turns","first","later","turn"] (λS H vs Q E hr h=> ?_);obtain⟨l,g,ja,t,ss,gd,gs,j,rfl,hL,T,DA,ar,jp,k⟩:=h
 exists _,aC (aY 4 S (aT hT hr (bu (pv 0) (aT hB hr (bu (pv 1) (aS 2)))))) (aC (aY 5 S pS) (aC (fC eN G (Zw (by rfl) aef (aB (bP f6 (br (aB (pv 3))) (fM G S (cV (pv 4)) (own:=[("turn",7)]) (dY ["spans","guarantees","journey","minute","turns","first","later","turn"] (cz (top 70))) (by intro _ _ _ _ _;exact cE 7 S) (by intro _ _ _ _ _;exact j3 (bL lH (pv 7) (pv 3))) (by intro _ _ _ _ _;exact pv 7))))) (cE 6 S) (aC (bH (bL lH (bP fY (aT L.EH hr (bu (pv 0) (pv 6))) (aS 2)) (aT L.Pq hr (cg (pv 1) (aS 2) (pv 6)))) (cA WV) bG) (cA (aY 5 S (pv 6))))) (aH (pv 5))));obtain⟨cn,rl,j1,j2⟩:=id jp;exists _,G,_,G,_,G,ja,c.J,cn,_,_,G,j1,L.J.cl,L.J.principal,G,g,j.principal,gd,G,DA,λH1 bl s1 sn bt=> ?_
 have hbs:(gJ gd j.principal).length<=1000:=by unfold gJ;rw[aE];exact cX (gV _ _) DA.len
 refine⟨l,bl,ss,_,G,s1.seq hL,T.same s1,bt,hbs,λH2 aeg ts s2 NF htq eA a7 hlen=> ?_⟩;refine⟨_,G,(by show 1<=sizeLine;decide),λa ha=> ?_⟩;have s3:ah H2 (upd H2 a (.lst [.int (t:Nat)])):=ah.new ha;refine kN ts (λ(u:Nat)=>V.int (u:Nat)) (λu=>decide (t<u)) (λ(u:Nat)=>V.int (u:Nat)) (λR h=>⟨_,G,h⟩) (by lia) (az.of (s3 _ _ htq)) (λu U Kt Kf hu s4 ht hf=> ?_) λH4 D s4 hD hd=> ?_
 .exists G,_,G,_,G,_,_,G,G,_,G;refine b4 (λh1=> ?_) (λh1=> ?_)
  .exact⟨_,G,ht U (ah.refl _) (aP (by have:=c_ h1;lia))⟩
  exact hf U (ah.refl _) (aV λz=>h1 (aP (by lia)))
 exists a,D,_,_,G,G,s4 _ _ ay,hd,?_,λp hp=> ?_
 .rw[aE];have:=gV (λu=>decide (t<u)) ts;show 1+_<=sizeLine;rw[cY];lia
 have Hk:ah H2 _:=s3.trans (s4.trans (ah.new (o:=.lst ([.int (t:Nat)]++(ts.filter λu=>decide (t<u)).map λ(u:Nat)=>V.int (u:Nat))) hp));have sH:=(s1.trans s2).trans Hk;generalize th:(t::ts.filter λu=>decide (t<u))=xs
 have Ix:(upd H4 p (.lst ([.int (t:Nat)]++(ts.filter λu=>decide (t<u)).map λ(u:Nat)=>V.int (u:Nat)))) p=I (.lst (aK xs)):=by rw[ay,<-th];rfl
 generalize hH5:upd H4 p (.lst ([.int (t:Nat)]++(ts.filter λu=>decide (t<u)).map λ(u:Nat)=>V.int (u:Nat)))=H5 at Ix Hk sH;exists p,aK xs,G,az.of Ix;rw[fT];refine DL (J:=CT K p xs.length) xs (λi σ U=>(∃v6:aG V,σ=[I (.ref l),I (.ref g),I (.ref ja),I (.int (t:Nat)),I (.ref aeg),I (qa (xs.drop (xs.length-i)).head?),v6,ak])/\ah H5 U/\(xs.drop (xs.length-i)).all (rV ss gs j)=aa) ⟨⟨ak,?_⟩,ah.refl _,?_⟩ (λσ U h=>aZ _) (λi a σ U ha h=> ?_) (λi a x σ U bp ha h hy=> ?_) λσ U h=> ?_
 .rw[A2,I8];rfl
 .rw[A2,I8];rfl
 .have hi:=(eL.mp ha).1;obtain⟨x,h1,_⟩:=P9 hi;exists hi,_,V.int (x:Nat),az.of (h.2.1 _ _ Ix);unfold aK;rw[bF,h1];rfl
 .have hi:=(eL.mp ha).1;obtain⟨u,h1,h2,h3⟩:=P9 hi;obtain⟨rfl,hy⟩:=hy;obtain⟨⟨v6,rfl⟩,s6,b3⟩:=h
  have ex:x=V.int (u:Nat):=by have e1:=hy _ (az.of (s6 _ _ Ix));unfold aK at e1;rw[bF,h1]at e1;exact(cG e1).symm
  subst ex;have xL:=sH.trans s6;refine⟨_,G,_,G,l,ss,u,G,xL.seq hL,T.same xL,λH7 s7=> ?_⟩;have P_:=s7 _ _ (xL _ _ j1);refine⟨_,G,ja,c.J,cn,_,_,G,P_,L.J.cl,L.J.share,G,_,_,G,G,_,G,_,G,ja,c.J,cn,_,_,G,P_,L.J.cl,L.J.principal,G,_,G,g,j.principal,u,gd,gs,G,DA.same (xL.trans s7),ar,λH8 rp=> ?_⟩;exists _,_,G,G,_,G;rw[aed];refine b4 (λq1=> ?_) (λq1=> ?_)
  .have hc:rV ss gs j u=ao:=aV (by have:=c_ q1;lia);have e:=PZ hc b3 (xs.take (xs.length-1-i));rw[<-h3]at e;exists _,G;have:=k H8 ts (xL.trans (s7.trans rp)) eA a7;rw[th,e]at this;exact this
  have hc:rV ss gs j u=aa:=aP (by have:¬((i7 gs j.principal u:Int)<(lR ss u:Int)+(iy j.amount j.rate:Int)):=λz=>q1 (aP z);lia)
  exists _,G,⟨I (.int (u:Nat)),?_⟩,s6.trans (s7.trans rp)
  .rw[h2];rfl
  rw[h2,pe,hc,b3];rfl
 obtain⟨⟨v6,rfl⟩,s6,b3⟩:=h;rw[uR,yk]at b3;exists _,G;have:=k U ts (sH.trans s6) eA a7;rw[th,PY b3]at this;rw[uR,yk];exact this
variable{j:bw}
def aeh(e:ss.map (·.2)=iH kn js j.principal)gs:rV ss gs j=λu=>decide (vp kn js j.principal u+iy j.amount j.rate<=i7 gs j.principal u):=by funext u;unfold rV;rw[P1 e]
def aei(e:ss.map (·.2)=iH kn js j.principal)gs t:
  Sg.jN (rV ss gs j) (t::(yv kn js gs j.principal).filter λu=>decide (t<u))=vq kn js gs j t:=by
 rw[aeh e,Fe (zE kn js gs j.principal) _ t G];rfl
def aej kn js gs j t:I9 kn js gs j t=decide (vq kn js gs j t=I t):=by
 have h1:=ad8 (c:=λu=>decide (vp kn js j.principal u+iy j.amount j.rate<=i7 gs j.principal u)) (F:=(yv kn js gs j.principal).filter λu=>decide (t<u)) λu hu=>by simpa using(eY.mp hu).2
 rw[Fe (zE kn js gs j.principal) _ t G]at h1;exact h1
inductive Fo c(vs:M V)H(Q:VK)(E:XK):Prop|mk(b:af)(h:dN)(j:bw)(t:Nat)(_:vs=[.ref b,.int (j.number:Nat),.int (t:Nat)])(_:iT c H b h)(_:j∈h.journeys)(_:∀U,ah H U->Q (qa (vq (bq h) h.journeys h.guarantees j t)) U)
def aek(F:bf K "leave_from" (top 141) f fd)(L:Lo P w K mg ai c)(hF:Def P w K mg ai 4 "first_leave" ["spans","guarantees","journey","minute"] (P8 K c)):aM P w K mg ai aO 8 f fd ["book","number","minute"] (Fo c):=by
 refine F.aX ["book","number","minute","view","journey"] (λS H vs Q E hr h=> ?_);obtain⟨b,h,j,t,rfl,BA,hj,k⟩:=h
 exists _,aC (aY 3 S (dU L.now L.B.cl hr (pv 0))) (aC (aY 4 S (cK L.journeyOf L.V.cl hr (pv 3) (aB (pv 1)))) (aH (aT hF hr (dw (cK L.rR L.V.cl hr (pv 3) (aB (aS 4))) (cg (aS 0) (pv 4) (pv 2))))));obtain⟨dA,_,_,_,hb⟩:=BA.ins;refine⟨_,G,b,dA,_,G,hb,G,b,h,G,BA,λH1 v s1 V1=> ?_⟩;obtain⟨dv,_,_,hv⟩:=V1.ins;refine⟨_,G,v,dv,_,G,hv,G,_,G,v,_,_,j,G,V1,hj,λja jp=> ?_⟩;obtain⟨cn,rl,j1,j2⟩:=id jp;refine⟨_,G,v,dv,_,G,hv,G,_,G,ja,c.J,cn,_,_,G,j1,L.J.cl,L.J.principal,G,v,_,_,j.principal,G,V1,λH2 q ss s2 hq bj T e=> ?_⟩;obtain⟨⟨dx,lj,lg,lh,jl,gd,hs,BI⟩,ok⟩:=BA.same (s1.trans s2);refine⟨_,G,b,c.B,dx,_,_,G,BI.at_,L.B.cl,L.B.guarantees,G,_,G,_,G,q,lg,ja,t,ss,gd,_,j,G,az.of bj,T,BI.gs,BI.geq,jp.same s2,λH3 ts s3 eA a7=> ?_⟩;have:=k H3 (s1.trans (s2.trans s3));rw[P4 e BI.geq eA a7,aei e];exact this
def Fp:fV:=λh ns _ out=>∃(j:bw)(t:Nat),ns=[(j.number:Int),(t:Int)]/\j∈h.journeys/\out=if(kC (bq h) j).isSome=aa then [-7]else [0,Vl (I9 (bq h) h.journeys h.guarantees j t)]
def Qa{way:M AN}(e:way.map (λx=>(cI j.route x.2,x.2))=cD kn j):(kC kn j).isSome= !way.isEmpty:=by rw[Dj,<-qi e];cases way<;>rfl
def ael o(t:Nat):decide (qa o=V.int (t:Int))=decide (o=I t):=by
 cases o with
 |none=>rfl
 |some n=>exact(ff n t).trans (by by_cases q:n=t<;>simp[q])
def aem(F:bf K "ask_may" (top 142) f fd)(L:Lo P w K mg ai c)(Z:j8 mg)(hF:Def P w K mg ai 8 "leave_from" ["book","number","minute"] (Fo c)):aM P w K mg ai aO 9 f fd dh (fj K c Fp):=by
 refine F.aX dh (λS H vs Q E hr h=> ?_);obtain⟨b,n,r,h,ns,rw,out,rfl,BA,hN,hR,⟨j,t,rfl,hj,rfl⟩,k⟩:=h
 exists _,aC (bH (pZ (cK L.ux L.V.cl hr (dU L.now L.B.cl hr (pv 0)) (aB (bk (pv 1) aF))) (λ_=>G)) (aH (br (aB (bM G Z.PL)))) bG) (aH (br (bu aF (lC (bL dm (aT hF hr (cg (pv 0) (bk (pv 1) aF) (bk (pv 1) aF))) (bk (pv 1) aF)) aF aF))));obtain⟨dA,_,_,_,hb⟩:=BA.ins;refine⟨_,G,b,dA,_,G,hb,G,b,h,G,BA,λH1 v s1 V1=> ?_⟩;obtain⟨dv,_,_,hv⟩:=V1.ins;refine⟨v,dv,_,G,hv,G,_,G,n,_,_,_,G,G,s1.seq hN,aW G,v,_,_,j,G,V1,hj,λH2 p way s2 hp ag T e hO=> ?_⟩;exists _,.inl ⟨_,az.of ag,G⟩;rw[Qa e]at k;have a1:=s1.trans s2;cases hw:way with
 |cons x l=>rw[hw]at k;exact bK ⟨(by decide),λq hq=>k _ q (a1.trans (ah.new hq)) ay⟩
 |nil=>
  rw[hw]at k;refine bX ⟨_,G,_,G,n,_,_,_,G,G,a1.seq hN,aW G,_,G,n,_,_,_,G,G,a1.seq hN,aW G,b,h,j,t,G,BA.same a1,hj,λH3 s3=> ?_⟩;have a3:=a1.trans s3;exists _,G,n,_,_,_,G,G,a3.seq hN,aW G,?_,_,G
  .cases vq (bq h) h.journeys h.guarantees j t<;>rfl
  rw[show decide (qa (vq (bq h) h.journeys h.guarantees j t)=V.int (t:Int))=I9 (bq h) h.journeys h.guarantees j t from(ael _ t).trans (aej _ _ _ _ _).symm];cases hm:I9 (bq h) h.journeys h.guarantees j t with
  |true=>exact bK ⟨(by decide),λq hq=>k _ q (a3.trans (ah.new hq)) (by rw[ay,hm];rfl)⟩
  |false=>exact bX ⟨(by decide),λq hq=>k _ q (a3.trans (ah.new hq)) (by rw[ay,hm];rfl)⟩
def Fq:fV:=λh ns _ out=>∃(j:bw)(t:Nat),ns=[(j.number:Int),(t:Int)]/\j∈h.journeys/\out=if(kC (bq h) j).isSome=aa then [-7]else match vq (bq h) h.journeys h.guarantees j t with
  |none=>[0,0]|some u=>[0,1,(u:Int)]
def aen(F:bf K "ask_when" (top 143) f fd)(L:Lo P w K mg ai c)(Z:j8 mg)(hF:Def P w K mg ai 8 "leave_from" ["book","number","minute"] (Fo c)):aM P w K mg ai aO 9 f fd dh (fj K c Fq):=by
 refine F.aX ["book","numbers","row","first"] (λS H vs Q E hr h=> ?_);obtain⟨b,n,r,h,ns,rw,out,rfl,BA,hN,hR,⟨j,t,rfl,hj,rfl⟩,k⟩:=h
 exists _,aC (bH (pZ (cK L.ux L.V.cl hr (dU L.now L.B.cl hr (pv 0)) (aB (bk (pv 1) aF))) (λ_=>G)) (aH (br (aB (bM G Z.PL)))) bG) (aC (aY 3 S (aT hF hr (cg (pv 0) (bk (pv 1) aF) (bk (pv 1) aF)))) (aH (lC (bL Cq (pv 3) pS) (br (bu aF aF)) (br (cg aF aF (pv 3))))));obtain⟨dA,_,_,_,hb⟩:=BA.ins;refine⟨_,G,b,dA,_,G,hb,G,b,h,G,BA,λH1 v s1 V1=> ?_⟩;obtain⟨dv,_,_,hv⟩:=V1.ins;refine⟨v,dv,_,G,hv,G,_,G,n,_,_,_,G,G,s1.seq hN,aW G,v,_,_,j,G,V1,hj,λH2 p way s2 hp ag T e hO=> ?_⟩;exists _,.inl ⟨_,az.of ag,G⟩;rw[Qa e]at k;have a1:=s1.trans s2;cases hw:way with
 |cons x l=>rw[hw]at k;exact bK ⟨(by decide),λq hq=>k _ q (a1.trans (ah.new hq)) ay⟩
 |nil=>
  rw[hw]at k;refine bX ⟨_,G,_,G,n,_,_,_,G,G,a1.seq hN,aW G,_,G,n,_,_,_,G,G,a1.seq hN,aW G,b,h,j,t,G,BA.same a1,hj,λH3 s3=> ?_⟩;have a3:=a1.trans s3;exists _,G,G,_,G;cases hm:vq (bq h) h.journeys h.guarantees j t with
  |none=>exact bK ⟨(by decide),λq hq=>k _ q (a3.trans (ah.new hq)) (by rw[ay,hm];rfl)⟩
  |some u=>exact bX ⟨_,G,(by show 3<=sizeLine;decide),λq hq=>k _ q (a3.trans (ah.new hq)) (by rw[ay,hm];rfl)⟩
def Ft:fV:=λh ns _ out=>∃p:Nat,ns=[(p:Int)]/\out=0::pM ((Vp (bq h) h.journeys h.guarantees p).flatMap P6)
theorem aeo kn js gs p:(yv kn js gs p).length<=2*js.length+gs.length:=by
 have h1:∀l:M Nat,(l.foldr mj []).length<=l.length:=by
  have h2:∀n l,(mj n l).length<=l.length+1:=by
   intro n l;induction l with
   |nil=>simp[mj]
   |cons a l ih=>
    unfold mj;split
    .simp
    split
    .simp
    simp only[bT];lia
  intro l;induction l with
  |nil=>simp
  |cons a l ih=>rw[akF,bT];have:=h2 a (l.foldr mj []);lia
 unfold yv;simp only;refine cX (h1 _) ?_;rw[bD,aE];have h3:=gV (λg:eE=>g.principal==p) gs
 have h4:∀l:M bw,(l.flatMap λj=>(kC kn j).toList++(om kn j).toList).length<=2*l.length:=by
  intro l;induction l with
  |nil=>simp
  |cons a l ih=>
   rw[gW,bD,bD,bT];have:(kC kn a).toList.length<=1:=by cases kC kn a<;>simp
   have:(om kn a).toList.length<=1:=by cases om kn a<;>simp
   lia
 have h5:=h4 (js.filter λj=>j.principal==p);have h6:=gV (λj:bw=>j.principal==p) js;lia
theorem aep(F:bf K "ask_shorts" (top 139) f fd)(L:Lo P w K mg ai c)(hS:Def P w K mg ai 4 "shorts_of" ["spans","guarantees","principal"] (NR K c.S)):aM P w K mg ai aO 8 f fd dh (fj K c Ft):=by
 refine F.aX ["book","numbers","row","spans"] (λS H vs Q E hr h=> ?_);obtain⟨b,n,r,h,ns,rw,out,rfl,BA,hN,hR,⟨p,rfl,rfl⟩,k⟩:=h
 exists _,aC (aY 3 S (cK L.rR L.V.cl hr (dU L.now L.B.cl hr (pv 0)) (aB (bk (pv 1) aF)))) (aH (bP f6 (br (aB aF)) (aT L.jn hr (aB (aT hS hr (cg (pv 3) (aS 0) (bk (pv 1) aF)))))));obtain⟨dA,_,_,_,hb⟩:=BA.ins;refine⟨_,G,b,dA,_,G,hb,G,b,h,G,BA,λH1 v s1 V1=> ?_⟩;obtain⟨dv,_,_,hv⟩:=V1.ins;refine⟨v,dv,_,G,hv,G,_,G,n,_,_,_,G,G,s1.seq hN,aW G,v,_,_,p,G,V1,λH2 q ss s2 hq bj T e=> ?_⟩;refine⟨(by decide),λa ha=> ?_⟩;have s3:ah H2 (upd H2 a (.lst [.int 0])):=ah.new ha;have a3:=s1.trans (s2.trans s3);obtain⟨⟨dx,lj,lg,lh,jl,gd,hs,BI⟩,ok⟩:=BA.same a3;refine⟨_,G,_,G,b,c.B,dx,_,_,G,BI.at_,L.B.cl,L.B.guarantees,G,_,G,n,_,_,_,G,G,a3.seq hN,aW G,q,lg,p,ss,gd,_,G,az.of (s3 _ _ bj),T.same s3,BI.gs,BI.geq,λH4 z ts s4 hz eA a7 bm=> ?_⟩;have Id:=P4 e BI.geq eA a7;have hln:=NQ ss h.guarantees p (ts.zip (iI ts))
 have pu:(ts.zip (iI ts)).length<=52:=by have h1:=aeo (bq h) h.journeys h.guarantees p;have h2:=ok.js.len;have h3:=ok.gs;rw[qS,Id];lia
 rw[aea e Id]at bm hln;exact⟨z,_,G,bm,by lia,λH5 y s5 hy cf=>⟨a,y,_,_,G,G,s5 _ _ (s4 _ _ ay),cf,wY (by lia),λx hx=>k _ x (a3.trans (s4.trans (s5.trans (ah.new hx)))) (by rw[ay];rfl)⟩⟩
def Fv:fV:=λh ns _ out=>∃n p t:Nat,ns=[(n:Int),(p:Int),(t:Int)]/\out=if h.tells.length<n then [-3]else [0,(vp (kF h n) h.journeys p t:Int)]
theorem aeq(F:bf K "ask_then" (top 145) f fd)(L:Lo P w K mg ai c)(Z:j8 mg):aM P w K mg ai aO 8 f fd dh (fj K c Fv):=by
 refine F.aX dh (λS H vs Q E hr h=> ?_);obtain⟨b,n,r,h,ns,rw,out,rfl,BA,hN,hR,⟨m,p,t,rfl,rfl⟩,k⟩:=h
 exists _,aC (bH (bL lH (bk (pv 1) aF) (dU L.tells L.B.cl hr (pv 0))) (aH (br (aB (bM G Z.PF)))) bG) (aH (br (bu aF (aT L.EH hr (bu (cK L.rR L.V.cl hr (cK L.then_ L.B.cl hr (pv 0) (aB (bk (pv 1) aF))) (aB (bk (pv 1) aF))) (bk (pv 1) aF))))));obtain⟨dx,_,_,_,hb⟩:=BA.ins;exists _,G,n,_,_,_,G,G,hN,aW G,_,G,b,dx,_,G,hb,G,b,h,G,BA,_,_,G,G,_,G;refine b4 (λh1=> ?_) (λh1=> ?_)
 .have a0:h.tells.length<m:=by have:=c_ h1;lia
  rw[av a0]at k;exists(by decide),λq hq=>k _ q (ah.new hq) ay
 have a0:¬h.tells.length<m:=λz=>h1 (aP (by lia));rw[au a0]at k;refine⟨_,G,b,dx,_,G,hb,G,_,G,n,_,_,_,G,G,hN,aW G,b,h,m,G,BA,by lia,λH1 v s1 V1=> ?_⟩;obtain⟨dv,_,_,hv⟩:=V1.ins;refine⟨v,dv,_,G,hv,G,_,G,n,_,_,_,G,G,s1.seq hN,aW G,v,_,_,p,G,V1,λH2 q ss s2 hq bj T e=> ?_⟩;refine⟨_,G,n,_,_,_,G,G,(s1.trans s2).seq hN,aW G,q,ss,t,G,az.of bj,T,λH3 s3=>⟨(by show 2<=sizeLine;decide),λz hz=>k _ z (s1.trans (s2.trans (s3.trans (ah.new hz)))) ?_⟩⟩;rw[ay,e,L7];rfl
def Fw:fV:=λh ns _ out=>∃(n:Nat)(j:bw)(t:Nat),ns=[(n:Int),(j.number:Int),(t:Int)]/\j∈h.journeys/\out=if h.tells.length<n then [-3]else 0::qM (jx (kF h n) j t)
theorem aer(F:bf K "ask_was" (top 146) f fd)(L:Lo P w K mg ai c)(Z:j8 mg):aM P w K mg ai aO 8 f fd dh (fj K c Fw):=by
 refine F.aX dh (λS H vs Q E hr h=> ?_);obtain⟨b,n,r,h,ns,rw,out,rfl,BA,hN,hR,⟨m,j,t,rfl,hj,rfl⟩,k⟩:=h
 exists _,aC (bH (bL lH (bk (pv 1) aF) (dU L.tells L.B.cl hr (pv 0))) (aH (br (aB (bM G Z.PF)))) bG) (aH (bP f6 (br (aB aF)) (cK L.Aa L.V.cl hr (cK L.then_ L.B.cl hr (pv 0) (aB (bk (pv 1) aF))) (bu (bk (pv 1) aF) (bk (pv 1) aF)))));obtain⟨dx,_,_,_,hb⟩:=BA.ins;exists _,G,n,_,_,_,G,G,hN,aW G,_,G,b,dx,_,G,hb,G,b,h,G,BA,_,_,G,G,_,G;refine b4 (λh1=> ?_) (λh1=> ?_)
 .have a0:h.tells.length<m:=by have:=c_ h1;lia
  rw[av a0]at k;exists(by decide),λq hq=>k _ q (ah.new hq) ay
 have a0:¬h.tells.length<m:=λz=>h1 (aP (by lia));rw[au a0]at k;refine⟨(by decide),λa ha=> ?_⟩;have s0:ah H (upd H a (.lst [.int 0])):=ah.new ha;refine⟨_,G,b,dx,_,G,s0 _ _ hb,G,_,G,n,_,_,_,G,G,s0.seq hN,aW G,b,h,m,G,BA.same s0,by lia,λH1 v s1 V1=> ?_⟩;obtain⟨dv,_,_,hv⟩:=V1.ins;have eR:=(s0.trans s1).seq hN;refine⟨v,dv,_,G,hv,G,_,G,n,_,_,_,G,G,eR,aW G,_,G,n,_,_,_,G,G,eR,aW G,v,_,_,j,t,G,V1,hj,λH2 p s2 hp ag=> ?_⟩;refine⟨a,p,_,_,G,G,s2 _ _ (s1 _ _ ay),ag,?_,λq hq=>k _ q (s0.trans (s1.trans (s2.trans (ah.new hq)))) ay⟩;rw[aE,Pr];decide
variable{nm:aj}{lo hi:Int}
def eU{a:Int}(h:fU nm=(lo,hi)):inR nm a=e8 a lo hi:=by unfold inR e8;rw[h]
def Ad l:dD kH l=aa↔∃a r n k,l=[a,r,n,k]/\(BJ a&&(e8 r 1 100&&(e8 n 1 1000000&&e8 k 1 4)))=aa:=by
 have e1:fU "money"=(0,1000000000):=by decide
 have e2:fU "hundredths"=(1,100):=by decide
 have e3:fU "duration"=(1,1000000):=by decide
 have e4:fU "choices"=(1,4):=by decide
 unfold dD;rw[cU,pN];constructor
 .rintro⟨h1,h2⟩;match l,h1,h2 with|[a,r,n,k],_,h2=>exists a,r,n,k,G;have h3:(inR "money" a&&(inR "hundredths" r&&(inR "duration" n&&(inR "choices" k&&aa))))=aa:=h2;rw[eU e1,eU e2,eU e3,eU e4,yw]at h3;exact h3
 rintro⟨a,r,n,k,rfl,h⟩;exists G;show(inR "money" a&&(inR "hundredths" r&&(inR "duration" n&&(inR "choices" k&&aa))))=aa;rw[eU e1,eU e2,eU e3,eU e4,yw];exact h
def Fx k l:dD (dF k "t") l=(decide (k=l.length)&&l.all vt):=by
 have e:fU "t"=(0,1000000000):=by decide
 unfold dD;rw[vd];by_cases q:k=l.length
 .subst q;rw[z4,aP G,eB,eB];exact cC (λz=>l.all z) (funext λn=>eU e)
 rw[aV q,ig,ig]
theorem Ae f a r n k q(h:(BJ a&&(e8 r 1 100&&(e8 n 1 1000000&&e8 k 1 4)))=aa):
  gm (f+1) (a::r::n::k::q)=if dD (dF k.toNat "t") (q.take k.toNat)=aa then(gm f (q.drop k.toNat)).map λx=>⟨iy a.toNat r.toNat,n.toNat,(q.take k.toNat).map eF⟩::x else ak:=by
 have hk:1<=k/\k<=4:=by simp only[cU,e8,pN]at h;exact h.2.2.2
 have e:(BJ a&&(e8 r 1 100&&(e8 n 1 1000000&&(e8 k 1 4&&(decide (k<=(q.length:Int))&&(q.take k.toNat).all vt)))))=dD (dF k.toNat "t") (q.take k.toNat):=by
  rw[Fx];simp only[cU]at h;rw[h.1,h.2.1,h.2.2.1,h.2.2.2,eB,eB,eB,eB];congr 1;rw[gT];by_cases z:k<=(q.length:Int)
  .rw[aP z,aP (by lia)]
  rw[aV z,aV (by lia)]
 show(if _=aa then _ else _)=_;rw[e]
def Af f{l:M Int}(h0:l≠ [])(h:¬dD kH (l.take 4)=aa):gm (f+1) l=ak:=by
 match l,h0,h with
 |[a],_,_=>rfl
 |[a,b],_,_=>rfl
 |[a,b,d],_,_=>rfl
 |a::r::n::k::q,_,h=>have h':¬(BJ a&&(e8 r 1 100&&(e8 n 1 1000000&&e8 k 1 4)))=aa:=λz=>h ((Ad _).mpr ⟨a,r,n,k,G,z⟩);refine au λz=>h' ?_;simp only[cU]at z⊢;exists z.1,z.2.1,z.2.2.1,z.2.2.2.1
theorem Ag:∀f l F,f<=F->(∀ps,gm f l=I ps->gm F l=I ps/\ps.length<=f)/\(∀ps,gm F l=I ps->ps.length<=f->gm f l=I ps)
 |0,[],F,_=>⟨λps h=>by
   have:=(cG h).symm;subst this;cases F<;>exact⟨G,aZ _⟩,λps h hl=>by
   cases F<;>exact h⟩
 |0,a::l,F,_=>by
  refine⟨λps h=>(by cases h),λps h hl=> ?_⟩;cases F with
  |zero=>exact h
  |succ F=>
   exfalso;have x0:ps=[]:=yx (by lia);subst x0;by_cases z:dD kH ((a::l).take 4)=aa
   .obtain⟨x,r,n,k,e,hw⟩:=(Ad _).mp z;match l,e with
    |b::d::g::q,e=>
     have e':=e;injection e' with e1 e';injection e' with e2 e';injection e' with e3 e';injection e' with e4 e';subst e1 e2 e3 e4;rw[Ae _ _ _ _ _ _ hw]at h;split at h
     .cases h2:gm F (q.drop g.toNat)with
      |none=>rw[h2]at h;cases h
      |some y=>rw[h2]at h;cases h
     cases h
   rw[Af F (by simp) z]at h;cases h
 |f+1,l,0,h=>aU h (by lia)|f+1,l,F+1,hF=>by
  by_cases h0:l=[]
  .subst h0
   exists λps h=>by have:=(cG h).symm;subst this;exact⟨G,b6 _⟩,λps h _=>h
  by_cases z:dD kH (l.take 4)=aa
  .obtain⟨x,r,n,k,e,hw⟩:=(Ad _).mp z;match l,e with
   |a::b::d::g::q,e=>
    have e':=e;injection e' with e1 e';injection e' with e2 e';injection e' with e3 e';injection e' with e4 e';subst e1 e2 e3 e4;rw[Ae _ _ _ _ _ _ hw,Ae _ _ _ _ _ _ hw];have ih:=Ag f (q.drop g.toNat) F (by lia);split
    .exists λps h=> ?_,λps h hl=> ?_
     .obtain⟨y,h1,h2⟩:=gP.mp h;obtain⟨h3,h4⟩:=ih.1 y h1;subst h2;rw[h3];exact⟨G,by rw[bT];lia⟩
     obtain⟨y,h1,h2⟩:=gP.mp h;subst h2;rw[ih.2 y h1 (by rw[bT]at hl;lia)];rfl
    exact⟨λps h=>(by cases h),λps h _=>(by cases h)⟩
  rw[Af f h0 z,Af F h0 z];exact⟨λps h=>(by cases h),λps h _=>(by cases h)⟩
def readM(l:M Int):M eO:=match gm l.length l with
 |some ps=>if ps.length<=6 then ps else []
 |none=>[]
structure cW where
 P:af
 Y:af
 A:af
 T:af
 L:af
 C:af
variable{H U:Hp}
def Fy{q:af}(s:ah H U):ah (cB H q) (cB U q):=λx o e=>fW (b_ e (kQ H q)) (s _ _ (kR H q _ _ e))
def Ah{q:af}{o:HO}:cB (upd H q o) q=cB H q:=by
 funext x;unfold cB;by_cases z:x=q
 .rw[av z,av z]
 rw[au z,au z,aD z]
variable{l:af}
def aes{H0:Hp}{o:HO}(s:ah H0 (cB H l)):ah H0 (cB (upd H l o) l):=by rw[Ah];exact s
theorem Qc{α:Type}xs(a b:Nat)(h:a<=xs.length):e_ xs (I (a:Int)) (I (b:Int))=(xs.drop a).take (b-a):=by
 unfold e_;rw[HT.p6,HT.p6,vh h];obtain q|q:=Nat.le_total b xs.length
 .rw[vh q]
 rw[Nat.min_eq_right q,pA (by rw[ir];exact aZ _),pA (by rw[ir];lia)]
def Qd(xs:M Int)(a b:Nat)(h:a<=xs.length):e_ (xs.map V.int) (I (a:Int)) (I (b:Int))=((xs.drop a).take (b-a)).map V.int:=by rw[Qc (α:=Unit) _ _ _ (by rw[aE];exact h),yl,qO]
structure w9(K:aR)(C:af):Prop where
 cl:fK K C
 share:cF K C "share"
 Qe:cF K C "duration"
 w_:cF K C "minutes"
noncomputable def Ai(p:eO)(ml:af):M (aj×V):=[("share",.int (p.share:Nat)),("duration",.int (p.length:Nat)),("minutes",.ref ml)]
def rW(q:cW)(H:Hp)(a:af)(p:eO):Prop:=∃dx ml,H a=I (.ins q.P dx (Ai p ml))/\H ml=I (.lst (aK p.options))
variable{q:cW}{a:af}
def rW.same{p:eO}(h:rW q H a p)(s:ah H U):rW q U a p:=by obtain⟨dx,ml,h1,h2⟩:=h;exists dx,ml,s _ _ h1,s _ _ h2
abbrev AP:=af×eO
def jO(l:M AP):M V:=l.map λx=>V.ref x.1
inductive Qg(q:cW)(vs:M V)(H:Hp)(Q:VK)(E:XK):Prop|mk p ml dx pl(_:vs=[.ref p,.int (pl.share:Nat),.int (pl.length:Nat),.ref ml])(_:H p=I (.ins q.P dx []))(_:∀U,U p=I (.ins q.P dx (Ai pl ml))->(∀b o,H b=I o->b≠p->U b=I o)->Q .bx U)
def aet(F:dg K "__init__" "Planned.__init__" Jp f fd)(N:w9 K q.P):aM P w K mg ai aO 1 f fd ["self","share","duration","minutes"] (Qg q):=by refine F.aX ["self","share","duration","minutes"] (λS H vs Q E hr h=> ?_);obtain⟨p,ml,dx,pl,rfl,hp,k⟩:=h;exists _,aC (cR (pv 0) (pv 1) G) (aC (cR (pv 0) (pv 2) G) (cA (cR (pv 0) (pv 3) G))),_,G,_,G,p,q.P,dx,_,G,hp,N.cl,N.share,(by decide),_,G,_,G,p,q.P,dx,_,G,ay,N.cl,N.Qe,(by show 1<1000;decide),_,G,_,G,p,q.P,dx,_,G,ay,N.cl,N.w_,(by show 2<1000;decide);refine k _ (by rw[ay];rfl) λb o e hb=> ?_;rw[aD hb,aD hb,aD hb];exact e
inductive Qh K(q:cW)(vs:M V)H(Q:VK)(E:XK):Prop|mk(r:af)(rw:M Int)(_:vs=[.ref r])(_:az K H r (rw.map V.int))(_:rw.length<=20000)(_:∀(U:Hp)(p:af)(pl:M AP),ah H U->U p=I (.lst (jO pl))->(∀x∈pl,rW q U x.1 x.2)->pl.map (·.2)=readM rw->Q (.ref p) U)
structure Qi(K:aR)(mg:aj->aG aq):Prop where
 ex:∃a,mg "PLANNED_NAMES"=I (.ref a)/\gK K a (kH.map V.str)
structure Aj(q:cW)(rw:M Int)(place:Nat)(l:af)(U:Hp)(pl:M AP):Prop where
 le:place<=rw.length
 at_:U l=I (.lst (jO pl))
 each:∀x∈pl,rW q (cB U l) x.1 x.2
 er:pl.length<=place
 eq:∀F,gm (pl.length+F) rw=(gm F (rw.drop place)).map λx=>pl.map (·.2)++x
theorem Aj.bad{rw:M Int}{place:Nat}{pl:M AP}(R:Aj q rw place l U pl)(al:place<rw.length)(h:∀f,gm (f+1) (rw.drop place)=ak):readM rw=[]:=by have e:=R.eq (rw.length-pl.length);have h1:=R.er;rw[show pl.length+(rw.length-pl.length)=rw.length by lia,show rw.length-pl.length=(rw.length-pl.length-1)+1 by lia,h]at e;unfold readM;rw[e];rfl
theorem ef{a:Int}(h:e8 a lo hi=aa)(h0:0<=lo):(a.toNat:Int)=a/\a<=hi/\lo<=a:=by unfold e8 at h;simp only[cU,pN]at h;lia
def aeu{l:M Int}(h:l.all vt=aa):l.map V.int=aK (l.map eF):=by unfold aK;rw[bQ];refine kB λx hx=> ?_;have:=(ef (jU.mp h x hx) (by decide)).1;show V.int x=V.int ((x.toNat:Nat):Int);rw[this]
variable{x:aj}{Q:VK}
theorem aev{tp:af}{g:Int}(h:H tp=I (.tup [.str x]))(hg:1<=g/\g<=4)(k:∀sy H5,ah H H5->bz K H5 sy ((dF g.toNat x).map V.str)->Q (.ref sy) H5):OA K (.ref tp) (.int g) H Q:=by
 exists tp,g,_,G,G,bz.of h,(by simp),by lia,by lia,?_,λe=> ?_,λe p hp=> ?_
 .rw[cY];show 1*g.toNat<=_;lia
 .refine k tp H (ah.refl _) ?_;rw[e];exact bz.of h
 refine k p _ (ah.new hp) (bz.of ?_);rw[ay,z5,IW]
theorem aew{c:fh}(F:bf K "read_planned" (top 115) f fd)(B:dR mg)(ar:Qi K mg)(mo:cS mg "MOST_PLANNED" 6)(hF:Def P w K mg ai 2 "fits" ["names","numbers"] (qg K))(hS:Def P w K mg ai 1 "share_of" ["money","hundredths"] D4)
  (hC:Cons P w K mg ai 1 "Planned" ["self","share","duration","minutes"] (Qg q) q.P):aM P w K mg ai aO 4 f fd ["row"] (Qh K q):=by
 refine F.aX ["row","planned","place","behind","head","end","minutes"] (λS H vs Q E hr h=> ?_);obtain⟨r,rw,rfl,hR,cd,k⟩:=h;obtain⟨na,hm,hT⟩:=ar.ex
 exists _,aC (aY 1 S (br eT)) (aC (aY 2 S aF) (aC (vQ eN (bL pY (pv 2) (bJ dc (by rfl) B.len cJ (aB (pv 0)))) (aC (aY 3 S (bP fY (pv 2) (bJ dc (by rfl) B.len cJ (aB (fz (by rfl) hm (show RelV (.ref na) _ from G)))))) (aC (aY 4 S (mK nH (pv 0) (g4 (pv 2)) (g4 (pv 3)))) (aC (bH (gY (fQ (aT hF hr (bu (fz (by rfl) hm (show RelV (.ref na) _ from G)) (pv 4))))) (aH (br eT)) bG) (aC (aY 5 S (bP fY (pv 3) (bk (pv 4) aF))) (aC (aY 6 S (mK nH (pv 0) (g4 (pv 3)) (g4 (pv 5)))) (aC (bH (gY (fQ (aT hF hr (bu (bP zW (lJ (aB dQ)) (bk (pv 4) aF)) (pv 6))))) (aH (br eT)) bG) (aC (fR (ee fq l7 nq lK (pv 1) (aB (gw hC hr (cg (aT hS hr (bu (bk (pv 4) aF) (bk (pv 4) aF))) (bk (pv 4) aF) (pv 6)))))) (cA (aY 2 S (pv 5))))))))))) (aH (lC (bL gG (bJ dc (by rfl) B.len cJ (aB (pv 1))) (bM G mo)) (pv 1) (br eT)))));refine⟨b6 _,λl hl=> ?_⟩;have s0:ah H (upd H l (.lst [])):=ah.new hl;have hRl:=(mY hl s0).seq hR;exists λm σ U=>∃(place:Nat)(pl:M AP)(v3 v4 v5 v6:aG V),m=rw.length-place/\σ=[I (.ref r),I (.ref l),I (.int (place:Nat)),v3,v4,v5,v6]/\ah (cB (upd H l (.lst [])) l) (cB U l)/\Aj q rw place l U pl,⟨rw.length,0,[],ak,ak,ak,ak,G,G,ah.refl _,b6 _,ay,λx hx=>(eG hx).elim,b6 _,λF=> ?_⟩
 .rw[yk,ng,Nat.zero_add];cases gm F rw<;>rfl
 rintro m σ U⟨place,pl,v3,v4,v5,v6,rfl,rfl,sc,R⟩;have sH:∀{H2:Hp},ah U H2->ah H H2:=λ{H2}s2 x o e=>s2 _ _ (kR U l _ _ (sc _ _ (mY hl s0 _ _ e)));have Fz:az K U r (rw.map V.int):=(sH (ah.refl U)).seq hR;have FD:∀{H2:Hp},ah U H2->readM rw=[]->∀z,H2 z=ak->Q (.ref z) (upd H2 z (.lst [])):=λ{H2}s2 Y1 z hz=>k _ z [] ((sH s2).trans (ah.new hz)) ay (λx hx=>(eG hx).elim) Y1.symm;exists _,G,_,G,r,_,G,.inl Fz,_,_,G,G,_,G;rw[aE];refine b4 (λh1=> ?_) (λh1=> ?_)
 .have al:place<rw.length:=by have:=c_ h1;lia
  refine⟨λσ' H2=>∃(x4:Nat)(FE:M AP)(v3 v4 v5 v6:aG V),rw.length-x4<rw.length-place/\σ'=[I (.ref r),I (.ref l),I (.int (x4:Nat)),v3,v4,v5,v6]/\ah (cB (upd H l (.lst [])) l) (cB H2 l)/\Aj q rw x4 l H2 FE,λσ' H2⟨x4,FE,v3,v4,v5,v6,q1,q2,q3,q4⟩=>⟨_,q1,x4,FE,v3,v4,v5,v6,G,q2,q3,q4⟩,?_⟩;exists _,G,na,_,G,.inr hT.sq,_,_,G,G;exists _,G,_,G,_,G,_,G,_,G,r,_,G,Fz,λhd hhd=> ?_
  have e4:(((place:Nat):Int)+((kH.map V.str).length:Nat))=((place+4:Nat):Int):=by show((place:Nat):Int)+4=_;lia
  rw[e4,Qd rw place (place+4) R.le,show place+4-place=4 by lia];have s1:ah U (upd U hd (.lst (((rw.drop place).take 4).map V.int))):=ah.new hhd;refine⟨_,G,na,hd,kH,(rw.drop place).take 4,G,hT.sq,az.of ay,(by show∀nm∈kH,nm∈gF.map (·.1);decide),(by decide),λH2 s2=> ?_⟩;have a1:=s1.trans s2;have Iy:H2 hd=I (.lst (((rw.drop place).take 4).map V.int)):=s2 _ _ ay
  have aw:rw.drop place≠ []:=λe=>by have:=cC qG e;rw[ir]at this;simp at this;lia
  exists _,G;cases EF:dD kH ((rw.drop place).take 4)with
  |false=>exact bK ⟨b6 _,λz hz=>FD a1 (R.bad al λf=>Af f aw (by rw[EF];exact dJ)) z hz⟩
  |true=>
   obtain⟨a,b,d,g,FF,hw⟩:=(Ad _).mp EF;rw[FF]at Iy;simp only[cU]at hw;obtain⟨na1,na2,na3⟩:=ef hw.1 (by decide);obtain⟨nb1,nb2,nb3⟩:=ef hw.2.1 (by decide);obtain⟨N7,nd2,nd3⟩:=ef hw.2.2.1 (by decide);obtain⟨ng1,ng2,ng3⟩:=ef hw.2.2.2 (by decide)
   have h4:place+4<=rw.length:=by have:=cC qG FF;rw[gT,ir]at this;have e:([a,b,d,g]:M Int).length=4:=rfl;lia
   have cj:rw.drop place=a::b::d::g::rw.drop (place+4):=by have e1:=(pI 4 (rw.drop place)).symm;rw[FF,Vq]at e1;exact e1
   have FG:∀f,gm (f+1) (rw.drop place)=if dD (dF g.toNat "t") ((rw.drop (place+4)).take g.toNat)=aa then(gm f ((rw.drop (place+4)).drop g.toNat)).map λx=>⟨iy a.toNat b.toNat,d.toNat,((rw.drop (place+4)).take g.toNat).map eF⟩::x else ak:=λf=>by rw[cj];exact Ae f a b d g _ (by rw[hw.1,hw.2.1,hw.2.2.1,hw.2.2.2];rfl)
   refine bX ⟨_,G,_,G,hd,_,_,_,G,G,az.of Iy,aW (j:=3) G,_,_,G,G,?_⟩;exists _,G,_,G,_,G,_,G,_,G,r,_,G,a1.seq Fz,λml me=> ?_
   have e5:((place:Nat):Int)+((kH.map V.str).length:Nat)+g=((place+4+g.toNat:Nat):Int):=by rw[e4];lia
   generalize Qj:(rw.drop (place+4)).take g.toNat=tm at FG
   have ec:e_ (rw.map V.int) (I ((place+4:Nat):Int)) (I (((place+4:Nat):Int)+g))=tm.map V.int:=by rw[show((place+4:Nat):Int)+g=((place+4+g.toNat:Nat):Int) by lia,Qd rw _ _ h4,<-Qj,show place+4+g.toNat-(place+4)=g.toNat by lia]
   rw[ec];have s3:ah H2 (upd H2 ml (.lst (tm.map V.int))):=ah.new me;refine⟨(by show 1<=sizeLine;decide),λtp o0=> ?_⟩;have s4:ah (upd H2 ml (.lst (tm.map V.int))) (upd (upd H2 ml (.lst (tm.map V.int))) tp (.tup [.str "t"])):=ah.new o0;have sT:=s3.trans s4;refine⟨_,G,hd,_,_,_,G,G,az.of (sT _ _ Iy),aW (j:=3) G,aev ay ⟨ng3,ng2⟩ λsy H5 s5 FH=> ?_⟩;have Qk:H5 ml=I (.lst (tm.map V.int)):=s5 _ _ (s4 _ _ ay);refine⟨_,G,sy,ml,dF g.toNat "t",tm,G,FH,az.of Qk,(λnm lw=>by rw[IX lw];show("t":aj)∈gF.map (·.1);decide),(by rw[vd];lia),λH6 s6=> ?_⟩;have s56:=s5.trans s6;have so:=sT.trans s56;have mB:=a1.trans so;exists _,G;cases tq:dD (dF g.toNat "t") tm with
   |false=>exact bK ⟨b6 _,λz hz=>FD mB (R.bad al λf=>by rw[FG,tq];rfl) z hz⟩
   |true=>
    have aex:tm.all vt=aa:=by rw[Fx,cU]at tq;exact tq.2
    have T0:tm.length=g.toNat:=by rw[Fx,cU,pN]at tq;exact tq.1.symm
    have k5:place+4+g.toNat<=rw.length:=by have h7:=T0;rw[<-Qj,gT,ir]at h7;lia
    have FI:=az.of (K:=K) (so _ _ Iy);refine bX ⟨_,G,.inl ⟨G,_,az.of (mB _ _ R.at_)⟩,_,G,hd,_,_,_,G,G,FI,aW (j:=0) G,_,G,hd,_,_,_,G,G,FI,aW (j:=1) G,a.toNat,b.toNat,(by rw[na1,nb1];rfl),(by lia),?_⟩;refine⟨_,G,hd,_,_,_,G,G,FI,aW (j:=2) G,_,G,λz dz hz a9 aw=> ?_⟩;refine⟨z,ml,dz,⟨iy a.toNat b.toNat,d.toNat,tm.map eF⟩,(by rw[N7];rfl),ay,λH9 h9 k9=>⟨G,?_⟩⟩;have s9:ah H6 H9:=ah.made hz a9 k9;have du:=mB.trans s9;have aey:=du _ _ R.at_
    have aez:z≠l:=λe=>by have:=mB _ _ R.at_;rw[<-e,hz]at this;cases this
    have mll:ml≠l:=λe=>by have:=a1 _ _ R.at_;rw[<-e,me]at this;cases this
    exists l,jO pl,_,G,G,aey,?_
    .unfold jO;rw[aE,cY];have:=R.er;lia
    exists _,G,place+4+g.toNat,pl++[(z,⟨iy a.toNat b.toNat,d.toNat,tm.map eF⟩)],_,_,_,_,by lia,cC (λy=>[I (V.ref r),I (V.ref l),I (V.int y),I (V.int (((place:Nat):Int)+((kH.map V.str).length:Nat))),I (V.ref hd),I (V.int y),I (V.ref ml)]) e5,?_,k5,?_,λx hx=> ?_,?_,λF=> ?_
    .exact aes (sc.trans (Fy du))
    .rw[ay];unfold jO;rw[dH];rfl
    .rw[Ah];obtain h3|h3:=dG.mp hx
     .exact(R.each x h3).same (Fy du)
     rw[nu.mp h3];exists dz,ml,fW aez h9,fW mll ?_;rw[s9 _ _ (s6 _ _ Qk),aeu aex]
    .rw[bD];have:=R.er;show pl.length+1<=_;lia
    have e6:=R.eq (F+1);rw[FG,tq,av G]at e6;rw[bD,show pl.length+ [(z,(⟨iy a.toNat b.toNat,d.toNat,tm.map eF⟩:eO))].length+F=pl.length+(F+1) by show pl.length+1+F=_;lia,e6,Vq,Bw];congr 1;funext x;show _++_::x=_;rw[dH,iu];rfl
 have si:place=rw.length:=by have h2:=R.le;have:¬((place:Int)<(rw.length:Int)):=λz=>h1 (aP z);lia
 have IH:readM rw=if pl.length<=6 then pl.map (·.2)else []:=by
  have h3:=R.er;have e6:=R.eq (rw.length-pl.length);rw[show pl.length+(rw.length-pl.length)=rw.length by lia,si,I8]at e6;have IN:gm (rw.length-pl.length) []=I []:=by cases rw.length-pl.length<;>rfl
  rw[IN]at e6;unfold readM;rw[e6];show(if(pl.map (λx:AP=>x.2)++[]).length<=6 then pl.map (λx:AP=>x.2)++[]else [])=_;rw[jT,aE]
 exists _,G,l,_,G,.inl (az.of R.at_),_,_,G,G,_,G;rw[show(jO pl).length=pl.length by unfold jO;rw[aE]];refine b4 (λh2=> ?_) (λh2=> ?_)
 .rw[av (by have:=c_ h2;lia)]at IH;exists _,G,k U l pl (sH (ah.refl _)) R.at_ (λx hx=>(R.each x hx).same (kR _ _)) IH.symm
 rw[au (λz=>h2 (aP (by lia)))]at IH;exists b6 _,λz hz=>FD (ah.refl _) IH z hz
structure gy(c:fh)(H:Hp)(b:af)(h:dN)(dx lj lg lh:af):Prop where
 ex:∃(jl:M AJ)(gd:fE)(hs:M AD),O_ c H b h dx lj lg lh jl gd hs
 ok:z7 h
variable{h:dN}{lj lg lh:af}
def gy.at{b:af}{dx:af}(B:gy c H b h dx lj lg lh):iT c H b h:=by obtain⟨⟨jl,gd,hs,BI⟩,ok⟩:=B;exists⟨dx,lj,lg,lh,jl,gd,hs,BI⟩,ok
def gy.same{c:fh}{H U:Hp}{b:af}{h:dN}{dx lj lg lh:af}(B:gy c H b h dx lj lg lh)(s:ah H U):gy c U b h dx lj lg lh:=by obtain⟨⟨jl,gd,hs,h1,h2,h3,h4,h5,h6,h7,ia,h9⟩,ok⟩:=B;exists⟨jl,gd,hs,s _ _ h1,h2.same s,h3,h4.same s,h5,s _ _ h6,h7,λi x e=>⟨(ia i x e).1.same s,(ia i x e).2⟩,h9⟩,ok
def Rest(H U:Hp)(lj lg lh:af):Prop:=∀x o,H x=I o->x≠lj->x≠lg->x≠lh->U x=I o
def Rest.of(s:ah H U):Rest H U lj lg lh:=λx o e _ _ _=>s x o e
abbrev rX:=dN->M Int->M Int->dN->M Int->Prop
inductive uA K c(A:rX)(vs:M V)H(Q:VK)(E:XK):Prop|mk(b n r dx lj lg lh:af)(h h':dN)(ns rw out:M Int)(_:vs=[.ref b,.ref n,.ref r])(_:gy c H b h dx lj lg lh)(_:az K H n (ns.map V.int))(_:H r=I (.lst (rw.map V.int)))(_:rw.length<=20000)(_:A h ns rw h' out)(_:∀(U:Hp)(p:af),gy c U b h' dx lj lg lh->Rest H U lj lg lh->H p=ak->U p=I (.lst (out.map V.int))->Q (.ref p) U)
def FJ:rX:=λh ns rw h' out=>∃p a r l:Nat,ns=[(p:Int),(a:Int),(r:Int),(l:Int)]/\a<=1000000000/\(h',out)=if nM rw=aa then gD h (.journey p a r l (rw.map eF))else(h,[-1])
def aeA{l:M Int}(h:l.all (inR "o")=aa):l.map V.int=aK (l.map eF):=by
 have e:fU "o"=(1,9):=by decide
 unfold aK;rw[bQ];refine kB λx hx=> ?_;have h1:=jU.mp h x hx;rw[eU e]at h1;have:=(ef h1 (by decide)).1;show V.int x=V.int ((x.toNat:Nat):Int);rw[this]
theorem Ql{α:Type} [DecidableEq α]:∀{D l:M α},D.Nodup->(∀x∈D,x∈l)->D.length<=l.length|[],_,_,_=>b6 _|a::D,l,h,hs=>by rw[k8]at h;have ha:=hs a bW;have h1:D.length<=(l.erase a).length:=Ql h.2 λx hx=>(alo λe=>h.1 (by rw[<-e];exact hx)).mpr (hs x (bZ _ hx));rw[Ve ha]at h1;have:=List.length_pos_of_mem ha;rw[bT];lia
theorem Qm{α:Type} [DecidableEq α]:∀{l D:M α},D.Nodup->(∀x,x∈D↔x∈l)->D.length=l.length->l.Nodup
 |[],_,_,_,_=>akk|a::l,D,h,hs,hl=>by
  rw[k8]
  have hn:a∉l:=λha=>by
   have:=Ql h λx hx=>by
    obtain q|q:=bh.mp ((hs x).mp hx)
    .rw[q];exact ha
    exact q
   rw[hl,bT]at this;lia
  have ha:=(hs a).mpr bW;exists hn,Qm (h.erase a) (λx=> ?_) ?_
  .rw[h.mem_erase_iff,hs,bh];constructor
   .rintro⟨q1,q2|q2⟩
    .exact aU q2 q1
    exact q2
   intro q;exists λe=>hn (by rw[<-e];exact q),.inr q
  rw[Ve ha,hl,bT];rfl
def Qn{ns:M Int}:(f_.mW ns).length=ns.length↔ns.Nodup:=⟨λh=>Qm (f_.Eh ns) (f_.Eg ns) h,λh=>((UT (f_.Eh ns) h).mpr λx=>f_.Eg ns x).length_eq⟩
theorem Qo:∀l:M Nat,I_ l=aa↔l.Nodup|[]=>by simp[I_]|a::r=>by unfold I_;rw[cU,Qo r,k8];simp
theorem Qq{l:M Int}(h:∀x∈l,0<=x):(l.map eF).Nodup↔l.Nodup:=by
 rw[Bu,pG];constructor
 .intro h1;exact h1.imp λq e=>q (by rw[e])
 intro h1;exact akE (λ{a b}ha hb q e=>q (by have:=h a ha;have:=h b hb;lia)) h1
def Qs{l:M Nat}{jl:M AJ}(h:l≠ []):aK l≠jL jl:=λe=>by
 cases l with
 |nil=>exact h G
 |cons a l=>
  cases jl with
  |nil=>cases e
  |cons x jl=>cases e
def aeB{l:M Nat}{hs:M AD}(h:l≠ []):aK l≠qk hs:=λe=>by
 cases l with
 |nil=>exact h G
 |cons a l=>
  cases hs with
  |nil=>cases e
  |cons x jl=>cases e
variable{xs:M V}
def lP.nO{J:af}{o:HO}(h:lP J H a j)(hl:H l=I (.lst xs))(hn:aK j.route≠xs):lP J (upd H l o) a j:=by
 obtain⟨dx,rl,h1,h2⟩:=h
 have aeC:rl≠l:=λz=>by rw[z,hl]at h2;injection h2 with h2;injection h2 with h2;exact hn h2.symm
 exact⟨dx,rl,by rw[aD (iC h1 hl (by intro z;cases z))];exact h1,by rw[aD aeC];exact h2⟩
variable{C:af}
def DictAt.nO{d:DN}{o:HO}(h:DictAt C H a d)(hl:H l=I (.lst xs)):DictAt C (upd H l o) a d:=by exists by rw[aD (iC h.at_ hl (by intro z;cases z))];exact h.at_,λs x hx=> ?_,h.len;obtain⟨dx,t,h1,h2⟩:=h.news s x hx;exact⟨dx,t,by rw[aD (iC h1 hl (by intro z;cases z))];exact h1,by rw[aD (iC h2 hl (by intro z;cases z))];exact h2⟩
theorem jm.snoc(h:jm js)(hn:j.number=js.length+1)(J:g7 j)(hl:js.length<16):jm (js++[j]):=by
 refine⟨λi x e=> ?_,λx hx=> ?_,by rw[bD];show js.length+1<=16;lia⟩
 .obtain q|q:=i9 i js.length
  .rw[xU q]at e;exact h.num i x e
  have hi:=(eL.mp e).1;rw[bD]at hi
  have eh:i=js.length:=by have:i<js.length+1:=hi;lia
  subst eh;rw[vc (aZ _),uR]at e;cases e;exact hn
 obtain q|q:=dG.mp hx
 .exact h.ok x q
 rw[nu.mp q];exact J
theorem aeD(F:bf K "tell_journey" (top 166) f fd)(L:Lo P w K mg ai c)(Z:j8 mg)(g16:cS mg "MOST_JOURNEYS" 16)(hR:Def P w K mg ai 3 "is_route" ["row"] (OM K))
  (hC:Cons P w K mg ai 2 "Journey" ["self","principal","money","hundredths","limit","route"] (NK c.J) c.J):aM P w K mg ai aO 8 f fd dh (uA K c FJ):=by
 refine F.aX ["book","numbers","row","journey"] (λS H vs Q E hr h=> ?_);obtain⟨b,n,r,dx,lj,lg,lh,h,h',ns,rw,out,rfl,BF,hN,c8,cd,⟨p,a,rt,tr,rfl,ha,ax⟩,k⟩:=h;obtain⟨⟨jl,gd,hs,BI⟩,ok⟩:=id BF
 exists _,aC (bH (gY (fQ (aT hR hr (aB (pv 2))))) (aH (br (aB (bM G Z.fF)))) bG) (aC (bH (bL lG (bJ acj (by rfl) L.blt.len cJ (aB (tV (Ou G) (by rfl) L.blt.set boot_set (aB (pv 2))))) (bJ dc (by rfl) L.blt.len cJ (aB (pv 2)))) (aH (br (aB (bM G Z.twice)))) bG) (aC (bH (bL dm (bJ dc (by rfl) L.blt.len cJ (aB (aS 0))) (bM G g16)) (aH (br (aB (bM G Z.full)))) bG) (aC (aY 3 S (gw hC hr (dw (bk (pv 1) aF) (dw (bk (pv 1) aF) (cg (bk (pv 1) aF) (bk (pv 1) aF) (pv 2)))))) (aC (fR (ee fq l7 nq lK (aS 0) (aB (pv 3)))) (aH (br (cg aF (bJ dc (by rfl) L.blt.len cJ (aB (aS 0))) (aS 3))))))));exists _,G,r,rw,G,az.of c8,cd,λH1 s1=>⟨_,G,?_⟩
 have one:∀{H2:Hp}{z:Int},ah H H2->(h',out)=(h,[z])->∀q,H2 q=ak->Q (.ref q) (upd H2 q (.lst [.int z])):=λ{H2 z}s2 e q hq=>by injection e with e1 e2;subst e1 e2;exact k _ q (BF.same (s2.trans (ah.new hq))) (.of (s2.trans (ah.new hq))) (s2.free hq) ay
 cases FL:nM rw with
 |false=>rw[FL]at ax;exact bK ⟨(by decide),λq hq=>one s1 ax q hq⟩
 |true=>
  rw[FL,av G]at ax;have FN:=FL;unfold nM at FN;simp only[cU,pN]at FN;obtain⟨⟨h2,h6⟩,Qt⟩:=FN;have aeE:fU "o"=(1,9):=by decide
  have tx:∀x∈rw,0<=x:=λx hx=>by have h1:=jU.mp Qt x hx;rw[eU aeE]at h1;have:=(ef h1 (by decide)).2.2;lia
  refine bX ⟨_,G,r,rw,G,az.of (s1 _ _ c8),(by show _+1<4096;lia),λst bi=> ?_⟩;have s2:ah H1 (upd H1 st (uo P w st (f_.mW rw))):=ah.new bi;have a1:=s1.trans s2;exists st,_,G,ay,_,G,r,_,G,.inl (az.of (a1 _ _ c8)),G,_,G;rw[aE]
  have FH:I_ (rw.map eF)=decide ((f_.mW rw).length=rw.length):=by rw[xQ,Qo,Qq tx,pN];exact Qn.symm
  rw[ff];unfold gD at ax;simp only at ax;rw[FH]at ax;by_cases hq:(f_.mW rw).length=rw.length
  .rw[aP hq,au (by decide)]at ax;rw[aP hq];refine bX ⟨_,G,b,c.B,dx,_,_,G,a1 _ _ BI.at_,L.B.cl,L.B.journeys,G,lj,_,G,.inl (az.of (a1 _ _ BI.js.at_)),G,_,G,?_⟩;have kt:(jL jl).length=h.journeys.length:=by rw[z9,<-BI.kP,aE]
   rw[kt];have Fg:=ok.js.len;refine jK _ 16 (λh0=> ?_) (λh0=> ?_)
   .rw[av (by show 16<=h.journeys.length;lia)]at ax;exists(by show 1<=sizeLine;decide),λq hq=>one a1 ax q hq
   rw[au (by show¬16<=h.journeys.length;lia)]at ax;injection ax with hh ho;have a4:=a1.seq hN;refine⟨_,G,n,_,_,_,G,G,a4,aW (j:=0) G,_,G,n,_,_,_,G,G,a4,aW (j:=1) G,_,G,n,_,_,_,G,G,a4,aW (j:=2) G,_,G,n,_,_,_,G,G,a4,aW (j:=3) G,_,G,λz dz hz a9 aw=> ?_⟩;have FR:(rw.map eF).Nodup:=(Qq tx).mpr (Qn.mp hq);refine⟨z,r,dz,⟨h.journeys.length+1,p,rw.map eF,a,rt,tr⟩,G,ay,ha,λH9 h9 k9=>⟨G,?_⟩⟩;have s9:ah _ H9:=ah.made hz a9 k9;have du:=a1.trans s9;have J:g7 ⟨h.journeys.length+1,p,rw.map eF,a,rt,tr⟩:=⟨FR,by rw[aE];exact h2,by rw[aE];exact h6⟩;have jp:lP c.J H9 z ⟨h.journeys.length+1,p,rw.map eF,a,rt,tr⟩:=⟨dz,r,h9,by rw[du _ _ c8,aeA Qt]⟩;have tz:=du _ _ BI.at_;have mI:=du _ _ BI.js.at_;refine⟨_,G,b,c.B,dx,_,_,G,tz,L.B.cl,L.B.journeys,G,.inl ⟨G,_,az.of mI⟩,_,G,lj,_,_,G,G,mI,by rw[kt,cY];lia,?_⟩;have nb:b≠lj:=iC tz mI (by intro q;cases q);have ams:z≠lj:=iC h9 mI (by intro q;cases q)
   have each:∀x∈jl++[(z,(⟨h.journeys.length+1,p,rw.map eF,a,rt,tr⟩:bw))],lP c.J (upd H9 lj (.lst (jL jl++[.ref z]))) x.1 x.2:=λx hx=>by
    obtain q|q:=dG.mp hx
    .refine((BI.js.each x q).same du).nO mI (Qs (uv (ok.js.ok x.2 ?_)));rw[<-BI.kP];exact b7.mpr ⟨x,q,G⟩
    rw[nu.mp q];exact jp.nO mI (Qs (uv J))
   have Qu:=du _ _ BI.gs.at_;have hs9:=du _ _ BI.fO
   have B':gy c (upd H9 lj (.lst (jL jl++[.ref z]))) b h' dx lj lg lh:=by
    subst hh;exists⟨jl++[(z,⟨h.journeys.length+1,p,rw.map eF,a,rt,tr⟩)],gd,hs,?_,⟨?_,each⟩,?_,⟨?_,BI.gs.len⟩,BI.geq,?_,BI.hlen,λi x e=>⟨((BI.each i x e).1.same du).nO mI,(BI.each i x e).2⟩,BI.ne⟩,ok.js.snoc G J (by lia),ok.kinds,ok.tells,ok.small,ok.gs
    .rw[aD nb];exact tz
    .rw[ay];unfold jL;rw[dH];rfl
    .rw[dH,BI.kP];rfl
    .rw[aD (iC Qu mI (by intro q;cases q))];exact Qu
    rw[aD BI.ne.symm];exact hs9
   obtain⟨cn,rl,j1,j2⟩:=each (z,⟨h.journeys.length+1,p,rw.map eF,a,rt,tr⟩) (dG.mpr (.inr (nu.mpr G)));refine⟨_,G,b,c.B,dx,_,_,G,by rw[aD nb];exact tz,L.B.cl,L.B.journeys,G,lj,_,G,.inl (az.of ay),_,G,z,c.J,cn,_,_,G,j1,L.J.cl,L.J.share,G,(by show 3<=sizeLine;decide),λq hq=> ?_⟩;have x5:q≠lj:=λe=>by rw[e,ay]at hq;cases hq
   refine k _ q (B'.same (ah.new hq)) (λx o ex n1 n2 n3=>(ah.new hq) _ _ (by rw[aD n1];exact du _ _ ex)) (du.free (by rw[aD x5]at hq;exact hq)) ?_;rw[ay,bD,kt,ho];rfl
  rw[aV hq,av G]at ax;rw[aV hq];exact bK ⟨(by show 1<=sizeLine;decide),λq hq=>one a1 ax q hq⟩
def lU(d:fE)(k:Nat×Nat)(m:Nat):fE:=match d.lookup k with
 |some _=>d.map λx=>if x.1=k then(x.1,m)else x
 |none=>d++[(k,m)]
def j9(k:Nat×Nat):M Key:=[cP (k.1:Int),cP (k.2:Int)]
theorem aeF{a b:Nat×Nat}(h:j9 a=j9 b):a=b:=by injection h with h1 h2;injection h2 with h3 _;injection h1 with h1;injection h3 with h3;exact mh (by lia) (by lia)
def aeG(d:fE)k m:putK (g8 d) (j9 k) (V.int (m:Nat))=g8 (lU d k m):=by
 have hv:=DZ d k.1 k.2;unfold lU;cases e:d.lookup k with
 |none=>rw[show d.lookup (k.1,k.2)=ak from e]at hv;rw[Lq _ (show dB (g8 d) (j9 k)=ak from hv)];simp only;unfold g8;rw[dH];rfl
 |some a=>
  have Fh:((g8 d).any λkv=>decide (kv.1=j9 k))=aa:=by rw[yj];exact⟨(j9 k,V.int a),b7.mpr ⟨(k,a),Nz e,G⟩,by simp⟩
  unfold putK;rw[av Fh];simp only;unfold g8;rw[bQ,bQ];refine kB λx _=> ?_;show(if j9 x.1=j9 k then(j9 x.1,V.int (m:Nat))else(j9 x.1,V.int (x.2:Nat)))=_;by_cases q:x.1=k
  .rw[av (by rw[q])];show _=([cP ((if x.1=k then(x.1,m)else x).1.1:Int),cP ((if x.1=k then(x.1,m)else x).1.2:Int)],V.int ((if x.1=k then(x.1,m)else x).2:Nat));rw[av q];rfl
  rw[au (λz=>q (aeF z))];show _=([cP ((if x.1=k then(x.1,m)else x).1.1:Int),cP ((if x.1=k then(x.1,m)else x).1.2:Int)],V.int ((if x.1=k then(x.1,m)else x).2:Nat));rw[au q];rfl
theorem Qv k j m:∀d:fE,(d.map λx=>if x.1=k then(x.1,m)else x).lookup j=(d.lookup j).map λb=>if j=k then m else b
 |[]=>rfl|x::d=>by
  rw[b9,eK,eK,Qv k j m d];have e1:(if x.1=k then(x.1,m)else x).1=x.1:=by split<;>rfl
  rw[e1];cases hj:(j==x.1)with
  |false=>rfl
  |true=>
   have h1:j=x.1:=by simpa using hj
   show I (if x.1=k then(x.1,m)else x).2=I (if j=k then m else x.2);by_cases q:x.1=k
   .rw[av q,av (h1.trans q)]
   rw[au q,au (λz=>q (h1.symm.trans z))]
def aeH(d:fE)k j m:(lU d k m).lookup j=if j=k then I m else d.lookup j:=by
 unfold lU;cases e:d.lookup k with
 |none=>
  simp only;induction d with
  |nil=>
   by_cases q:j=k
   .simp[q]
   have:(j==k)=ao:=by rw[gB];exact q
   simp[qF,q,this]
  |cons x d ih=>
   rw[eK]at e;cases hx:(k==x.1)with
   |true=>rw[hx]at e;cases e
   |false=>
    rw[hx]at e;rw[sR,eK,eK,ih e];cases hj:(j==x.1)with
    |true=>
     have h1:j=x.1:=by simpa using hj
     have h2:¬j=k:=λz=>by rw[<-z,h1]at hx;simp at hx
     simp[h2]
    |false=>rfl
 |some a=>
  simp only;rw[Qv];by_cases q:j=k
  .rw[q,e,av G];simp
  rw[au q];cases d.lookup j<;>simp[q]
def GD.put{d:fE}(D:GD d gs)g:GD (lU d (g.principal,g.since) g.amount) (nk g gs):=by
 exists ?_,Sg.Mi g gs D.iG,λp t=> ?_
 .unfold lU;cases e:d.lookup (g.principal,g.since)with
  |none=>
   simp only;rw[dH,ID];refine⟨D.nd,by simp,λx hx y hy z=> ?_⟩;obtain⟨u,hu,rfl⟩:=b7.mp hx;have kx:y=(g.principal,g.since):=by simpa using hy
   have:=D0 D.nd hu;rw[z,kx,e]at this;cases this
  |some a=>
   simp only
   have h1:(d.map λx=>if x.1=(g.principal,g.since)then(x.1,g.amount)else x).map (·.1)=d.map (·.1):=by rw[bQ];refine kB λx _=> ?_;show(if x.1=(g.principal,g.since)then(x.1,g.amount)else x).1=x.1;split<;>rfl
   rw[h1];exact D.nd
 rw[aeH,Sg.Mj g p t gs D.iG,D.at_];by_cases q:p=g.principal/\t=g.since
 .rw[av q,av (mh q.1 q.2)]
 rw[au q,au (λz=>q ⟨cC BK z,cC Prod.snd z⟩)]
def gy.Qw{g:eE}{d:fE}(D:GD d gs):(nk g gs).length=(lU d (g.principal,g.since) g.amount).length:=((D.put g).length).symm
def FP:rX:=λh ns _ h' out=>∃p t a:Nat,ns=[(p:Int),(t:Int),(a:Int)]/\(h',out)=gD h (.guarantee p t a)
def aeI{d:fE}(D:GD d gs)p t:(gs.any λg=>g.principal==p&&g.since==t)=(d.lookup (p,t)).isSome:=by rw[Z3,D.at_]
theorem aeJ(F:bf K "tell_guarantee" (top 167) f fd)(L:Lo P w K mg ai c)(Z:j8 mg)(g20:cS mg "MOST_GUARANTEES" 20):aM P w K mg ai aO 8 f fd dh (uA K c FP):=by
 refine F.aX ["book","numbers","row","key"] (λS H vs Q E hr h=> ?_);obtain⟨b,n,r,dx,lj,lg,lh,h,h',ns,rw,out,rfl,BF,hN,c8,cd,⟨p,t,a,rfl,ax⟩,k⟩:=h;obtain⟨⟨jl,gd,hs,BI⟩,ok⟩:=id BF;have hu:=oK hr
 exists _,aC (aY 3 S (lJ (bu (bk (pv 1) aF) (bk (pv 1) aF)))) (aC (bH (rq (vL (zm hu (pv 3) (fD (pv 0) (by rfl)))) (rm (bL dm (bJ EG (by rfl) L.blt.len cJ (aB (fD (pv 0) (by rfl)))) (bM (by rfl) g20)))).pt (aH (br (aB (bM G Z.full)))) bG) (aC (CS hu (aS 0) (pv 3) (bk (pv 1) aF) G) (aH (br (bu aF (bJ EG (by rfl) L.blt.len cJ (aB (aS 0))))))));refine⟨_,G,n,_,_,_,G,G,hN,aW G,_,G,n,_,_,_,G,G,hN,aW G,(by show 2<=sizeLine;decide),λtp o0=> ?_⟩;have s1:ah H (upd H tp (.tup [.int (p:Nat),.int (t:Nat)])):=ah.new o0;have yn:=s1 _ _ BI.gs.at_;have Qx:(upd H tp (.tup [.int (p:Nat),.int (t:Nat)])) tp=I (.tup ((j9 (p,t)).map kV)):=ay
 have Tb:eH (upd H tp (.tup [.int p,.int t])) lg (.ref tp) ((gd.lookup (p,t)).map λm=>V.int (m:Nat)):=by have:=eH.t (k:=j9 (p,t)) (b:=tp) yn Qx;rw[show dB (g8 gd) (j9 (p,t))=_ from DZ gd p t]at this;exact this
 have e20:h.guarantees.length=gd.length:=BI.geq.length.symm;have h20:=ok.gs;unfold gD at ax;simp only at ax;rw[aeI BI.geq,show Vbcuaf.GUARANTEES=20 from G]at ax
 have store:¬((gd.lookup (p,t)).isSome=ao/\20<=h.guarantees.length)->jY (Ly (vX K (jX 0) "guarantees") (jX 3) (lF (za K) (jX 1) (tC (.int 2)))) (lD (Cv (gI (tC (.int 0)) (gI (nG (λxs H Q=>∃a ae,xs=[V.ref a]/\H a=I (.dT ae)/\Q (.int ae.length) H) (gI (vX K (jX 0) "guarantees") gH)) gH)))) {nx:=λ_ U=>Q .bx U,rt:=Q} [I (.ref b),I (.ref n),I (.ref r),I (.ref tp)] (upd H tp (.tup [.int (p:Nat),.int (t:Nat)])):=λfo=>by
  rw[au fo]at ax;injection ax with hh ho;have b1:=s1 _ _ BI.at_;have nb:b≠lg:=iC b1 yn (by intro q;cases q);exists _,G,n,_,_,_,G,G,s1.seq hN,aW (j:=2) G,_,G,b,c.B,dx,_,_,G,b1,L.B.cl,L.B.guarantees,G,_,G,lg,_,G,mO.t (k:=j9 (p,t)) yn Qx (by rw[um,cY];lia);rw[aeG]
  have hlen:(lU gd (p,t) a).length<=20:=by
   unfold lU;cases e:gd.lookup (p,t)with
   |none=>simp only;rw[bD];show gd.length+1<=20;have:¬(20<=h.guarantees.length):=λz=>fo ⟨by rw[e];rfl,z⟩;lia
   |some m=>simp only;rw[aE];lia
  have B':gy c (upd (upd H tp (.tup [.int (p:Nat),.int (t:Nat)])) lg (.dT (g8 (lU gd (p,t) a)))) b h' dx lj lg lh:=by
   subst hh
   have kp:∀x o,(upd H tp (.tup [.int (p:Nat),.int (t:Nat)])) x=I o->(∀ae,o≠ .dT ae)->(upd (upd H tp (.tup [.int (p:Nat),.int (t:Nat)])) lg (.dT (g8 (lU gd (p,t) a)))) x=I o:=λx o ex hx=>by rw[aD (λz=>by rw[z,yn]at ex;exact hx _ (cG ex).symm)];exact ex
   exists⟨jl,lU gd (p,t) a,hs,kp _ _ b1 (λ_ z=>by cases z),⟨kp _ _ (s1 _ _ BI.js.at_) (λ_ z=>by cases z),λx hx=> ?_⟩,BI.kP,⟨ay,by lia⟩,BI.geq.put ⟨p,t,a⟩,kp _ _ (s1 _ _ BI.fO) (λ_ z=>by cases z),BI.hlen,λi x e=>⟨⟨kp _ _ (s1 _ _ (BI.each i x e).1.at_) (λ_ z=>by cases z),λs' y hy=> ?_,(BI.each i x e).1.len⟩,(BI.each i x e).2⟩,BI.ne⟩,ok.js,ok.kinds,ok.tells,ok.small
   .obtain⟨d1,d2,q1,q2⟩:=(BI.js.each x hx).same s1;exact⟨d1,d2,kp _ _ q1 (λ_ z=>by cases z),kp _ _ q2 (λ_ z=>by cases z)⟩
   .obtain⟨d1,d2,q1,q2⟩:=((BI.each i x e).1.news s' y hy).same s1;exact⟨d1,d2,kp _ _ q1 (λ_ z=>by cases z),kp _ _ q2 (λ_ z=>by cases z)⟩
   show(nk ⟨p,t,a⟩ h.guarantees).length<=20;rw[gy.Qw (g:=⟨p,t,a⟩) BI.geq];exact hlen
  refine⟨_,G,b,c.B,dx,_,_,G,by rw[aD nb];exact b1,L.B.cl,L.B.guarantees,G,lg,_,G,ay,(by show 2<=sizeLine;decide),λq hq=> ?_⟩;have x5:q≠lg:=λe=>by rw[e,ay]at hq;cases hq
  refine k _ q (B'.same (ah.new hq)) (λx o ex n1 n2 n3=>(ah.new hq) _ _ (by rw[aD n2];exact s1 _ _ ex)) (s1.free (by rw[aD x5]at hq;exact hq)) ?_;rw[ay,um,ho,gy.Qw (g:=⟨p,t,a⟩) BI.geq];rfl
 exists _,G,_,G,b,c.B,dx,_,_,G,s1 _ _ BI.at_,L.B.cl,L.B.guarantees,G,lg,_,G,Tb,_,G;rw[Bl];cases e:(gd.lookup (p,t)).isSome with
 |true=>exact bX (store (by rw[e];simp))
 |false=>
  refine bK ⟨_,G,b,c.B,dx,_,_,G,s1 _ _ BI.at_,L.B.cl,L.B.guarantees,G,lg,_,G,yn,G,_,G,?_⟩;rw[um];refine jK _ 20 (λh0=> ?_) (λh0=> ?_)
  .rw[av ⟨e,by show 20<=h.guarantees.length;lia⟩]at ax;injection ax with hh ho;subst hh ho;exists(by show 1<=sizeLine;decide),λq hq=>k _ q (BF.same (s1.trans (ah.new hq))) (.of (s1.trans (ah.new hq))) (s1.free hq) ay
  exact store (by rw[e];intro z;have:20<=h.guarantees.length:=z.2;lia)
def FQ l{n:Nat}(hn:n<=h.tells.length):kF {h with tells:=h.tells++[l]} n=kF h n:=by unfold kF;rw[alI hn]
def FT l{n:Nat}(hn:h.tells.length<n):kF {h with tells:=h.tells++[l]} n=mw l (bq h):=by rw[<-ZR (k:=[])];show((h.tells++[l]).take n).foldl _ _=((h.tells++[l]).take (h.tells++[l]).length).foldl _ _;rw[i8,pA (by rw[bD];exact hn)]
def aeK{d d':DN}{k k':M bO}(D:Sg.KD nw d k)(D':Sg.KD nw d' k'):(d'.filter (qd d)).length=(k'.filter λn=> !k.contains n).length:=by refine Eq.trans (cC (λp=>(d'.filter p).length) (funext λx=> ?_)) (Sg.KD.changed D D');unfold qd;cases d.lookup x.1<;>rfl
inductive FU K c(vs:M V)H(Q:VK)(E:XK):Prop|mk(b l dx lj lg lh:af)(h h':dN)(told:M AN)(out:M Int)(_:vs=[.ref b,.ref l])(_:gy c H b h dx lj lg lh)(_:az K H l (refs told))(_:f9 c.N H told)(_:told.length<=100)(_:fS (told.map (·.2)))(_:(h',out)=vv h (told.map (·.2)))(_:∀(U:Hp)(p:af),gy c U b h' dx lj lg lh->Rest H U lj lg lh->H p=ak->U p=I (.lst (out.map V.int))->Q (.ref p) U)
def FW:gq ["book","told","before","after"] ["book","told"] (cz (top 168)):=iQ
theorem aeL(F:bf K "take_news" (top 168) f fd)(L:Lo P w K mg ai c)(Z:j8 mg)(g40:cS mg "MOST_TELLS" 40)(g80:cS mg "MOST_KNOWN" 80)(hK:Def P w K mg ai 1 "known_with" ["known","told"] (DR K c.N))(hC:Def P w K mg ai 1 "count_changed" ["before","after"] (Nr c.N)):
  aM P w K mg ai aO 7 f fd ["book","told"] (FU K c):=by
 refine F.ok FW (λvs H Q E h=> ?_) (λa6 A b8 s H vs Q E hr h=> ?_)
 .obtain⟨b,l,dx,lj,lg,lh,h,h',told,out,rfl,_⟩:=h;rfl
 obtain⟨b,l,dx,lj,lg,lh,h,h',told,out,rfl,BF,hL,T,adz,lb,ax,k⟩:=h;obtain⟨⟨jl,gd,hs,BI⟩,ok⟩:=id BF
 exists _,aC (bH (gY (fQ (cK L.Pk L.B.cl hr (pv 0) (aB (pv 1))))) (aH (br (aB (bM G Z.E4)))) bG) (aC (aY 2 FW.nd (fD (dU L.now L.B.cl hr (pv 0)) G)) (aC (aY 3 FW.nd (aT hK hr (bu (pv 2) (pv 1)))) (aC (bH (pU (bL dm (dU L.tells L.B.cl hr (pv 0)) (bM (by rfl) g40)) (pT (bL lH (bJ zq (by rfl) L.blt.len cJ (aB (pv 3))) (bM (by rfl) g80)))).pt (aH (br (aB (bM G Z.full)))) bG) (aC (fR (ee fq l7 nq lK (aS 0) (aB (pv 3)))) (aH (br (cg aF (aT hC hr (bu (pv 2) (pv 3))) (bJ zq (by rfl) L.blt.len cJ (aB (pv 3))))))))))
 have one:∀{H2:Hp}{z:Int},ah H H2->(h',out)=(h,[z])->∀q,H2 q=ak->Q (.ref q) (upd H2 q (.lst [.int z])):=λ{H2 z}s2 e q hq=>by injection e with e1 e2;subst e1 e2;exact k _ q (BF.same (s2.trans (ah.new hq))) (.of (s2.trans (ah.new hq))) (s2.free hq) ay
 refine⟨_,G,b,dx,_,G,BI.at_,G,_,G,b,l,h,told,G,BF.at,hL,T,λH1 s1=>⟨_,G,?_⟩⟩;unfold vv at ax;simp only at ax;cases Qy:z_ h (told.map (·.2))with
 |false=>rw[av (show(List.all (told.map λx:AN=>x.2) λn=>(ny h n.journey).isSome)=ao from Qy)]at ax;exact bK ⟨(by decide),λq hq=>one s1 ax q hq⟩
 |true=>
  rw[au (λz=>by rw[show(List.all (told.map λx:AN=>x.2) λn=>(ny h n.journey).isSome)=aa from Qy]at z;cases z)]at ax;refine bX ⟨_,G,b,dx,_,G,s1 _ _ BI.at_,G,b,h,G,(BF.same s1).at,λH2 v s2⟨⟨dv,He,vk,vl,d,v1,v2,v3,v4,v5⟩,v6,v7⟩=> ?_⟩;have a1:=s1.trans s2;refine⟨v,c.V,dv,_,_,G,v1,L.V.cl,L.V.known,G,_,G,_,G,vk,l,d,told,G,v4,a1.seq hL,T.same a1,λH3 p s3 hp ag=> ?_⟩;have a3:=a1.trans s3;have IO:=Sg.KD.Dc told v5;have ED:d.length<=80:=by rw[v5.length];exact ok.small _
  have Qz:=zO told d
  have QA:(dj (gu nw d told)).length=(mw (told.map (·.2)) (bq h)).length:=by unfold dj;rw[aE,IO.length]
  have FY:DictAt c.N H3 p (gu nw d told):=⟨ag,Pg (λs x hx=>(v4.news s x hx).same s3) (λx hx=>(T.at_ x hx).same a3),by lia⟩;have h40:=ok.tells;exists _,G,b,dx,_,G,a3 _ _ BI.at_,G,b,h,G,(BF.same a3).at,G,_,G,jK _ 40 (λh0=> ?_) (λh0=> ?_)
  .rw[av (.inl (by show 40<=h.tells.length;lia))]at ax;exists(by show 1<=sizeLine;decide),λq hq=>one a3 ax q hq
  exists _,G,p,_,G,ag,_,_,G,G,_,G;rw[QA];refine b4 (λh1=> ?_) (λh1=> ?_)
  .rw[av (.inr (by show 80<_;have:=c_ h1;lia))]at ax;exists(by show 1<=sizeLine;decide),λq hq=>one a3 ax q hq
  have a0:¬80<(mw (told.map (·.2)) (bq h)).length:=λz=>h1 (aP (by lia));rw[au (λz=>z.elim (λz=>h0 (by have z':40<=h.tells.length:=z;lia)) a0)]at ax;injection ax with hh ho;have cr:=a3 _ _ BI.at_;have kd:=a3 _ _ BI.fO;have vy:=BI.hlen;refine⟨_,G,b,c.B,dx,_,_,G,cr,L.B.cl,L.B.z8,G,.inl ⟨G,_,az.of kd⟩,_,G,lh,_,_,G,G,kd,by rw[Pa,cY];lia,?_⟩;have nb:b≠lh:=iC cr kd (by intro q;cases q);have QB:=a3 _ _ BI.gs.at_
  have B':gy c (upd H3 lh (.lst (qk hs++[.ref p]))) b h' dx lj lg lh:=by
   subst hh;exists⟨jl,gd,hs++[(p,gu nw d told)],by rw[aD nb];exact cr,⟨by rw[aD BI.ne];exact a3 _ _ BI.js.at_,λx hx=>((BI.js.each x hx).same a3).nO kd (aeB (uv (ok.js.ok x.2 ?_)))⟩,BI.kP,⟨by rw[aD (iC QB kd (by intro q;cases q))];exact QB,BI.gs.len⟩,BI.geq,?_,?_,λi x e=> ?_,BI.ne⟩,ok.js,λn=> ?_,?_,λn=> ?_,ok.gs
   .rw[<-BI.kP];exact b7.mpr ⟨x,hx,G⟩
   .rw[ay];unfold qk;rw[dH];rfl
   .show(hs++[_]).length=(h.tells++[_]).length+1;rw[bD,bD,vy];rfl
   .obtain q|q:=i9 i hs.length
    .rw[xU q]at e;exists((BI.each i x e).1.same a3).nO kd;rw[FQ _ (by lia)];exact(BI.each i x e).2
    have hi:=(eL.mp e).1;rw[bD]at hi
    have eh:i=hs.length:=by have:i<hs.length+1:=hi;lia
    subst eh;rw[vc (aZ _),uR]at e;cases e;exists FY.nO kd;rw[FT _ (by lia)];exact IO
   .obtain q|q:=i9 h.tells.length n
    .rw[FT _ q];exact EC _ _ lb v7
    rw[FQ _ q];exact ok.kinds n
   .show(h.tells++[_]).length<=40;rw[bD];show h.tells.length+1<=40;lia
   obtain q|q:=i9 h.tells.length n
   .rw[FT _ q];lia
   rw[FQ _ q];exact ok.small n
  have aeM:vk≠p:=λz=>by rw[<-z,v4.at_]at hp;cases hp
  refine⟨_,G,_,G,vk,p,d,gu nw d told,G,aeM,(v4.same s3).nO kd,FY.nO kd,IO.nd,λH5 s5=> ?_⟩;have p5:H5 p=I (.dK (dj (gu nw d told))):=s5 _ _ (FY.nO kd).at_;refine⟨_,G,p,_,G,p5,(by show 3<=sizeLine;decide),λq hq=> ?_⟩;have x5:q≠lh:=λe=>by rw[e,s5 _ _ ay]at hq;cases hq
  have o1:H3 q=ak:=by have:=s5.free hq;rw[aD x5]at this;exact this
  refine k _ q (B'.same (s5.trans (ah.new hq))) (λx o ex n1 n2 n3=>(ah.new hq) _ _ (s5 _ _ (by rw[aD n3];exact a3 _ _ ex))) (a3.free o1) ?_;rw[ay,QA,ho,aeK v5 IO];rfl
noncomputable def qm(a b c d e t x y:Int):Bool:=e8 a 1 999&&(e8 b 1 9&&(alJ c&&(alK d&&(e8 e 0 4&&(vt t&&(e8 x 0 9999&&e8 y 0 9999))))))
theorem aeN a b c d e t x y r:dD (dF ((a::b::c::d::e::t::x::y::r).length/8) jb).flatten (a::b::c::d::e::t::x::y::r)=(qm a b c d e t x y&&dD (dF (r.length/8) jb).flatten r):=by
 have e1:fU "number"=(1,999):=by decide
 have e2:fU "version"=(1,9):=by decide
 have e3:fU "j"=(1,99):=by decide
 have e4:fU "o"=(1,9):=by decide
 have e5:fU "told"=(0,4):=by decide
 have e6:fU "t"=(0,1000000000):=by decide
 have IN:fU "seal"=(0,9999):=by decide
 have hl:(a::b::c::d::e::t::x::y::r).length/8=r.length/8+1:=by simp only[bT];lia
 rw[hl,sL,xY];generalize(dF (r.length/8) jb).flatten=N;unfold dD
 have h1:decide ((jb++N).length=(a::b::c::d::e::t::x::y::r).length)=decide (N.length=r.length):=by
  have:(jb++N).length=N.length+8:=by rw[bD,UC];rfl
  rw[this];simp only[bT];by_cases q:N.length=r.length
  .rw[aP q,aP (by lia)]
  rw[aV q,aV (by lia)]
 rw[h1];show(decide _&&(inR "number" a&&(inR "version" b&&(inR "j" c&&(inR "o" d&&(inR "told" e&&(inR "t" t&&(inR "seal" x&&(inR "seal" y&&(N.zip r).all λz=>inR z.1 z.2)))))))))=_;rw[eU e1,eU e2,eU e3,eU e4,eU e5,eU e6,eU IN,eU IN];unfold qm alJ alK vt
 ac_rfl
def rY{l:M Int}(h1:l≠ [])(h2:l.length<8):ao=dD (dF (l.length/8) jb).flatten l:=by rw[Nat.div_eq_of_lt h2];unfold dD;have:decide ((dF 0 jb).flatten.length=l.length)=ao:=aV λz=>h1 (yx z.symm);rw[this,ig]
structure QC(l:M Int)(ns:M bO)(f:Nat):Prop where
 row:l=dW (ns.flatMap cM)
 er:ns.length<=f
 kind:fS ns
theorem FZ:∀f l,l.length<=8*f->(qU f l).isSome=dD (dF (l.length/8) jb).flatten l/\∀ns,qU f l=I ns->QC l ns f
 |0,[],_=>⟨G,λns h=>by cases h;exact⟨G,aZ _,λx hx=>(eG hx).elim⟩⟩
 |0,a::l,h=>aU h (by simp)|f+1,[],_=>⟨G,λns h=>by cases h;exact⟨G,b6 _,λx hx=>(eG hx).elim⟩⟩
 |f+1,[a],_=>⟨rY (by simp) (by simp),λns(h:ak=I ns)=>by cases h⟩
 |f+1,[a,b],_=>⟨rY (by simp) (by simp),λns(h:ak=I ns)=>by cases h⟩
 |f+1,[a,b,c],_=>⟨rY (by simp) (by simp),λns(h:ak=I ns)=>by cases h⟩
 |f+1,[a,b,c,d],_=>⟨rY (by simp) (by simp),λns(h:ak=I ns)=>by cases h⟩
 |f+1,[a,b,c,d,e],_=>⟨rY (by simp) (by simp),λns(h:ak=I ns)=>by cases h⟩
 |f+1,[a,b,c,d,e,t],_=>⟨rY (by simp) (by simp),λns(h:ak=I ns)=>by cases h⟩
 |f+1,[a,b,c,d,e,t,x],_=>⟨rY (by simp) (by simp),λns(h:ak=I ns)=>by cases h⟩
 |f+1,a::b::c::d::e::t::x::y::r,h=>by
  have ih:=FZ f r (by simp only[bT]at h;lia);have hu:qU (f+1) (a::b::c::d::e::t::x::y::r)=if qm a b c d e t x y=aa then(qU f r).map λq=>⟨a.toNat,b.toNat,c.toNat,d.toNat,e.toNat,t.toNat,x.toNat,y.toNat⟩::q else ak:=rfl;rw[aeN,hu];cases hb:qm a b c d e t x y with
  |false=>exact⟨G,λns h=>by cases h⟩
  |true=>
   rw[av G,Bl,ih.1,eB];refine⟨G,λns cp=> ?_⟩;obtain⟨q,h1,h2⟩:=gP.mp cp;obtain⟨r1,r2,r3⟩:=ih.2 q h1;unfold qm at hb;simp only[cU]at hb;have D1:=ef hb.2.2.2.2.1 (by decide);have aeO:=(ef hb.2.2.2.2.2.2.2 (by decide)).1;subst h2;exists ?_,by rw[bT];lia,λz hz=> ?_
   .rw[gW];unfold dW;rw[dH];show _=(a.toNat:Int)::(b.toNat:Int)::(c.toNat:Int)::(d.toNat:Int)::(e.toNat:Int)::(t.toNat:Int)::(x.toNat:Int)::(y.toNat:Int)::dW (q.flatMap cM);rw[(ef hb.1 (by decide)).1,(ef hb.2.1 (by decide)).1,(ef hb.2.2.1 (by decide)).1,(ef hb.2.2.2.1 (by decide)).1,D1.1,(ef hb.2.2.2.2.2.1 (by decide)).1,(ef hb.2.2.2.2.2.2.1 (by decide)).1,aeO,<-r1]
   obtain z1|z1:=bh.mp hz
   .rw[z1];show e.toNat<=4;lia
   exact r3 z z1
def nP(l:M Int):aG (M bO):=if decide (l.length<=80)=aa then qU 10 l else ak
def aeP l:wN l=(nP l).isSome:=by
 unfold wN nP;by_cases q:l.length<=80
 .rw[aP q,av G,(FZ 10 l q).1,eB]
 rw[aV q,ig,au (by decide)];rfl
def Ak:rX:=λh _ rw h' out=>(h',out)=match nP rw with
 |some l=>vv h l|none=>(h,[-1])
theorem aeQ(F:bf K "tell_news" (top 169) f fd)(Z:j8 mg)(hI:Def P w K mg ai 3 "is_news" ["row"] (ON K))(hN:Def P w K mg ai 3 "news_in" ["row"] (OT K c.N))(hT:Def P w K mg ai 7 "take_news" ["book","told"] (FU K c)):
  aM P w K mg ai aO 8 f fd dh (uA K c Ak):=by
 refine F.aX dh (λS H vs Q E hr h=> ?_);obtain⟨b,n,r,dx,lj,lg,lh,h,h',ns,rw,out,rfl,BF,IR,c8,cd,ax,k⟩:=h
 exists _,aC (bH (gY (fQ (aT hI hr (aB (pv 2))))) (aH (br (aB (bM G Z.fF)))) bG) (aH (aT hT hr (bu (pv 0) (aT hN hr (aB (pv 2))))));refine⟨_,G,r,rw,G,az.of c8,cd,λH1 s1=>⟨_,G,?_⟩⟩;rw[aeP];unfold Ak at ax;cases e:nP rw with
 |none=>rw[e]at ax;injection ax with e1 e2;subst e1 e2;exact bK ⟨(by decide),λq hq=>k _ q (BF.same (s1.trans (ah.new hq))) (.of (s1.trans (ah.new hq))) (s1.free hq) ay⟩
 |some l=>
  rw[e]at ax
  have sK:QC rw l 10:=by
   unfold nP at e;by_cases q:rw.length<=80
   .rw[aP q,av G]at e;exact(FZ 10 rw q).2 l e
   rw[aV q,au (by decide)]at e;cases e
  obtain⟨h1,h2,h3⟩:=sK;refine bX ⟨_,G,_,G,r,l,G,az.of (by rw[s1 _ _ c8,h1,j7];rfl),by lia,λH2 p aeR s2 hp ag dV T=> ?_⟩;have a1:=s1.trans s2;refine⟨b,p,dx,lj,lg,lh,h,h',aeR,out,G,BF.same a1,az.of ag,T,?_,by rw[dV];exact h3,by rw[dV];exact ax,λH3 q F0 R3 hq bj=>k H3 q F0 (λx o ex n1 n2 n3=>R3 x o (a1 _ _ ex) n1 n2 n3) (a1.free hq) bj⟩;rw[<-aE,dV];lia
def qo(mg:aj->aG aq)(x:aj)(s:aj):Prop:=∃u,mg x=I u/\RelV (.str s) u
variable{X:Cx}{pos:fG}
def mZ{i:aj}(hg:Gl X x)(h:qo X.mg x i)(hd:(x==("__debug__":aj))=ao:=by decide):PE X (.Name x pos) (tC (.str i)):=by obtain⟨u,hm,r⟩:=h;exact fz hg hm r hd
def bV(p:Nat->Bool)(bs:M Nat)(i:Nat):Nat:=((bs.drop i).takeWhile p).length
variable{bs:M Nat}
def oZ{p:Nat->Bool}{c:Nat}(h:bs[i]? =I c):bV p bs i=if p c=aa then bV p bs (i+1)+1 else 0:=by obtain⟨hi,e⟩:=eL.mp h;unfold bV;rw[pJ hi,e,Ja];split<;>rfl
def F1{p:Nat->Bool}(h:bs.length<=i):bV p bs i=0:=by unfold bV;rw[Vk h];rfl
theorem uB p bs i(h:i<=bs.length):i+bV p bs i<=bs.length:=by have h1:=(List.takeWhile_sublist p (l:=bs.drop i)).length_le;rw[ir]at h1;unfold bV;lia
def gb(c:Nat):Bool:=[32,10].contains c
def bC(lo hi c:Nat):Bool:=decide (lo<=c)&&decide (c<=hi)
structure uC(K:aR)(C:af):Prop where
 cl:fK K C
 kind:cF K C "kind"
 value:cF K C "value"
 place:cF K C "place"
 end_:cF K C "end"
structure Tok where
 kind:aj
 val:V
 place:Nat
 stop:Nat
noncomputable def tf(t:Tok):M (aj×V):=[("kind",.str t.kind),("value",t.val),("place",.int (t.place:Nat)),("end",.int (t.stop:Nat))]
def rZ(q:cW)(H:Hp)(a:af)(t:Tok):Prop:=∃dx,H a=I (.ins q.T dx (tf t))
inductive Al(q:cW)vs(H:Hp)(Q:VK)(E:XK):Prop|mk p dx t(_:vs=[.ref p,.str t.kind,t.val,.int (t.place:Nat),.int (t.stop:Nat)])(_:H p=I (.ins q.T dx []))(_:∀U,U p=I (.ins q.T dx (tf t))->(∀b o,H b=I o->b≠p->U b=I o)->Q .bx U)
def aeS(F:dg K "__init__" "Token.__init__" Jl f fd)(N:uC K q.T):aM P w K mg ai aO 1 f fd ["self","kind","value","place","end"] (Al q):=by refine F.aX ["self","kind","value","place","end"] (λS H vs Q E hr h=> ?_);obtain⟨p,dx,t,rfl,hp,k⟩:=h;exists _,aC (cR (pv 0) (pv 1) G) (aC (cR (pv 0) (pv 2) G) (aC (cR (pv 0) (pv 3) G) (cA (cR (pv 0) (pv 4) G)))),_,G,_,G,p,q.T,dx,_,G,hp,N.cl,N.kind,(by decide),_,G,_,G,p,q.T,dx,_,G,ay,N.cl,N.value,(by show 1<1000;decide),_,G,_,G,p,q.T,dx,_,G,ay,N.cl,N.place,(by show 2<1000;decide),_,G,_,G,p,q.T,dx,_,G,ay,N.cl,N.end_,(by show 3<1000;decide);refine k _ (by rw[ay];rfl) λb o e hb=> ?_;rw[aD hb,aD hb,aD hb,aD hb];exact e
inductive F2 K(vs:M V)H(Q:VK)(E:XK):Prop|mk(t:af)(bs:M Nat)(i lo hi:Nat)(_:vs=[.ref t,.int (i:Nat),.int (lo:Nat),.int (hi:Nat)])(_:az K H t (aK bs))(_:i<=bs.length)(_:Q (.int ((i+bV (bC lo hi) bs i:Nat):Int)) H)
def xd(h:i<bs.length):(aK bs)[i]? =I (V.int ((bs[i]:Nat):Int)):=by unfold aK;rw[bF,bg h];rfl
theorem aeT(F:bf K "run_end" (top 84) f fd)(B:dR mg):aM P w K mg ai aO 1 f fd ["text","place","low","high"] (F2 K):=by
 refine F.aX ["text","place","low","high"] (λS H vs Q E hr h=> ?_);obtain⟨t,bs,i,lo,hi,rfl,hT,lx,k⟩:=h
 exists _,aC (vQ eN (rq (bL pY (pv 1) (bJ dc (by rfl) B.len cJ (aB (pv 0)))) (rm (tU gG gG (pv 2) (bk (pv 0) (pv 1)) (pv 3)))).pt (cA (Cf (i:=1) S G (cO G) aF Cg))) (aH (pv 1));exists λm σ U=>∃j:Nat,m=bs.length-j/\U=H/\j<=bs.length/\σ=[I (.ref t),I (.int j),I (.int lo),I (.int hi)]/\j+bV (bC lo hi) bs j=i+bV (bC lo hi) bs i,⟨_,i,G,G,lx,G,G⟩;rintro m σ U⟨j,rfl,rfl,hj,rfl,he⟩
 have stop:bV (bC lo hi) bs j=0->Q (.int (j:Nat)) U:=λh0=>by rw[h0,IZ]at he;rw[he];exact k
 exists _,G,_,G,t,_,G,.inl hT,_,_,G,G,_,G;rw[fT];refine b4 (λh1=> ?_) (λh1=> ?_)
 .have al:j<bs.length:=by have:=c_ h1;lia
  have ke:=oZ (p:=bC lo hi) (bg al)
  have go:bC lo hi bs[j]=aa->∃N:L2.St->Hp->Prop,(∀σ' H2,N σ' H2->∃m',m'<bs.length-j/\∃j':Nat,m'=bs.length-j'/\H2=U/\j'<=bs.length/\σ'=[I (.ref t),I (.int (j':Nat)),I (.int (lo:Nat)),I (.int (hi:Nat))]/\j'+bV (bC lo hi) bs j'=i+bV (bC lo hi) bs i)/\N [I (.ref t),I (.int ((j:Nat)+1:Int)),I (.int (lo:Nat)),I (.int (hi:Nat))] U:=λhb=>by rw[av hb]at ke;exact⟨_,λσ' H2 h=>h,bs.length-(j+1),by lia,j+1,G,G,by lia,G,by lia⟩
  exists _,G,_,G,_,G,t,_,_,_,G,G,hT,aW (xd al),_,_,G,G,_,G;refine b4 (λh2=> ?_) (λh2=> ?_)
  .exists _,G,_,_,G,G,_,G;refine b4 (λh3=> ?_) (λh3=> ?_)
   .have hb:bC lo hi bs[j]=aa:=by
     unfold bC;rw[aP (by have:=c_ h2;lia),aP (by have:=c_ h3;lia)];rfl
    obtain⟨N,eR,a4⟩:=go hb;exists N,eR,_,G,_,_,G,G,a4
   exists _,G,stop ?_;rw[ke,au];unfold bC;rw[show decide (bs[j]<=hi)=ao from aV (λz=>h3 (aP (by lia))),Be];exact dJ
  exists _,G;show if ao=aa then _ else _;refine bX ⟨_,G,stop ?_⟩;rw[ke,au];unfold bC;rw[aV (λz=>h2 (aP (by lia))),ig];exact dJ
 exact⟨_,G,stop (F1 (by have:¬((j:Int)<(bs.length:Int)):=λz=>h1 (aP z);lia))⟩
def gz(s:aj):Nat:=s.cps.getD 0 0
def boot_ord:jt "ord"=I (.builtin "ord"):=by decide+kernel
structure Am(K:aR)(mg:aj->aG aq)(x:aj)(vs:M V):Prop where
 ex:∃a,mg x=I (.ref a)/\gK K a vs
variable{σ:L2.St}
theorem aeU{g:TG}{tt:TT}{te:TE}{vs:M Nat}(hT:gK K a xs)e(hlen:xs.length<=1000)
  (turn:∀x U Kt(Kf:Hp->Prop),x∈xs->ah H U->(∀H4,ah U H4->Kt (e x) H4)->g x (wipe σ vs) U λσ2 H2=>wipe σ2 vs=wipe σ vs/\tt σ2 H2 λb H3=>if b=aa then te σ2 H3 Kt else Kf H3)
  (fin:∀U D,ah H U->H D=ak->U D=I (.lst (xs.map e))->Q (.ref D) U):mL (Kn K (tC (.ref a))) g tt te vs σ H Q:=by
 refine El xs (λ_=>aa) e (λx y _=>y=x) (λR h=>⟨a,G,⟨_,hT.sq⟩,h⟩) (by lia) (λU s1=>⟨_,hT.sq,aZ _⟩) (λi U hi s1=>⟨_,_,hT.sq,bg hi⟩) (λi U x bp hi s1 hy=> ?_) (λx y U Kt Kf hx hR s1 ht hf=> ?_) λU D s1 hD hd=> ?_
 .obtain⟨rfl,hy⟩:=hy;exists _,bg hi,ah.refl _,cG ((hy _ hT.sq).symm.trans (bg hi))
 .subst hR;exact turn y U Kt Kf hx s1 λH4 s4=>ht H4 s4 G
 refine fin U D s1 hD ?_;rw[hd,mq.mpr (λ_ _=>G)]
inductive QD K(vs:M V)H(Q:VK)(E:XK):Prop|mk(t:af)(bs:M Nat)(i:Nat)(_:vs=[.ref t,.int (i:Nat)])(_:az K H t (aK bs))(_:i<=bs.length)(_:∀U,ah H U->Q (.int ((i+bV gb bs i:Nat):Int)) U)
theorem aeV(F:bf K "behind_blanks" (top 83) f fd)(B:dR mg)(aeW:mg "ord"=ak)(ar:Am K mg "BLANKS" [.str " ",.str "\n"]):aM P w K mg ai aO 1 f fd ["text","place"] (QD K):=by
 refine F.aX ["text","place","blanks","sign"] (λS H vs Q E hr h=> ?_);obtain⟨t,bs,i,rfl,hT,lx,k⟩:=h;obtain⟨ta,hm,aeX⟩:=ar.ex
 exists _,aC (rG (i:=2) G S G G G (Ci (fz (by rfl) hm (show RelV (.ref ta) _ from G))) (own:=[("sign",3)]) (dY ["text","place","blanks","sign"] (cz (top 83))) (by intro _ _ _ _ _;exact cE 3 S) (by intro _ _ _ _ _;exact iP) (by intro _ _ _ _ _;exact bJ j0 (by rfl) aeW boot_ord (aB (pv 3)))) (aC (vQ eN (rq (bL pY (pv 1) (bJ dc (by rfl) B.len cJ (aB (pv 0)))) (rm (tT CG (bk (pv 0) (pv 1)) (pv 2) (by with_unfolding_all rfl)))).pt
   (cA (Cf (i:=1) S G (cO G) aF Cg)))
  (aH (pv 1)))
 dsimp only[jY,kK];refine aeU aeX (λx=>match x with| .str s=>V.int (gz s:Nat)|x=>x) (by decide) (λx U Kt Kf hx s1 ht=> ?_) λH1 D s1 hD hd=> ?_
 .exists G,bK (B:=Kf U) ?_;have hx':x= .str " "\/x= .str "\n":=by simpa using hx
  obtain rfl|rfl:=hx'
  .exists _,rfl,_,rfl,by decide,ht U (ah.refl _)
  exists _,rfl,_,rfl,by decide,ht U (ah.refl _)
 have e1:gz " "=32:=by decide
 have e2:gz "\n"=10:=by decide
 have eD:H1 D=I (.lst (aK [32,10])):=by rw[hd];show I (HO.lst [V.int ((gz " ":Nat):Int),V.int ((gz "\n":Nat):Int)])=_;rw[e1,e2];rfl
 exists λm σ U=>∃j:Nat,m=bs.length-j/\U=H1/\j<=bs.length/\σ=[I (.ref t),I (.int (j:Nat)),I (.ref D),ak]/\j+bV gb bs j=i+bV gb bs i,⟨_,i,G,G,lx,G,G⟩;rintro m σ U⟨j,rfl,rfl,hj,rfl,he⟩;have l3:=s1.seq hT
 have stop:bV gb bs j=0->Q (.int (j:Nat)) U:=λh0=>by rw[h0,IZ]at he;rw[he];exact k U s1
 exists _,G,_,G,t,_,G,.inl l3,_,_,G,G,_,G;rw[fT];refine b4 (λh1=> ?_) (λh1=> ?_)
 .have al:j<bs.length:=by have:=c_ h1;lia
  have ke:=oZ (p:=gb) (bg al);exists _,G,_,G,t,_,_,_,G,G,l3,aW (xd al),_,G,D,_,G,.inl (az.of eD),G,p9 _,_,G;show if fL (.int (bs[j]:Nat)) (aK [32,10])=aa then _ else _;rw[wD];refine b4 (λh2=> ?_) (λh2=> ?_)
  .have hb:gb bs[j]=aa:=h2;rw[av hb]at ke;exact⟨_,λσ' H2 h=>h,_,G,_,_,G,G,bs.length-(j+1),by lia,j+1,G,G,by lia,G,by lia⟩
  exists _,G,stop ?_;rw[ke,au];exact h2
 exact⟨_,G,stop (F1 (by have:¬((j:Int)<(bs.length:Int)):=λz=>h1 (aP z);lia))⟩
def letters:aj:="abcdefghijklmnopqrstuvwxyz"
theorem aeY{c:Nat}(h1:97<=c)(h2:c<=122):letters.cps.toList[c-97]? =I c:=by
 have all:∀k<26,letters.cps.toList[k]? =I (97+k):=by decide
 rw[all (c-97) (by lia)];congr 1;lia
def cL(l:M Nat):aj:=⟨l.toArray⟩
def eg(bs:M Nat)(i n:Nat):M Nat:=(bs.drop i).take n
def An p bs i:eg bs i (bV p bs i)=(bs.drop i).takeWhile p:=by exact(List.prefix_iff_eq_take.mp (List.takeWhile_prefix p)).symm
theorem QE{p:Nat->Bool}{c:Nat}:∀{l:M Nat},c∈l.takeWhile p->p c=aa
 |[],h=>(eG h).elim|a::l,h=>by
  rw[Ja]at h;split at h
  .rename_i ha;obtain q|q:=bh.mp h
   .rw[q];exact ha
   exact QE q
  exact(eG h).elim
def F3 p bs i:∀c∈eg bs i (bV p bs i),p c=aa:=λc hc=>by rw[An]at hc;exact QE hc
noncomputable def xg(bs:M Nat)(i:Nat):Tok:=if 8<bV (bC 97 122) bs i then⟨"wrong",.str "",i,i+bV (bC 97 122) bs i⟩else⟨"word",.str (cL (eg bs i (bV (bC 97 122) bs i))),i,i+bV (bC 97 122) bs i⟩
variable{a b:aj}
def xh(h:a.cps.toList=b.cps.toList):a=b:=by obtain⟨a⟩:=a;obtain⟨b⟩:=b;exact cC Str.mk (Array.toList_inj.mp h)
theorem QF:∀l:M Nat,TL.oJ [] (l.map λc=>[c])=l|[]=>rfl|[a]=>rfl|a::b::r=>by show [a]++([]++TL.oJ [] ((b::r).map λc=>[c]))=_;rw[QF (b::r)];rfl
def join_one l:IC "" (l.map λc=>(⟨#[c]⟩:aj))=cL l:=by refine xh ?_;rw[TL.join_eq];refine(TL.C0 "" _).trans ?_;rw[bQ];exact QF l
structure qp(K:aR)(mg:aj->aG aq):Prop where
 ord:mg "ord"=ak
 word:qo mg "WORD" "word"
 number:qo mg "NUMBER" "number"
 sign:qo mg "SIGN" "sign"
 fF:qo mg "WRONG_TOKEN" "wrong"
 end_:qo mg "TEXT_END" "end"
 letters:qo mg "LETTERS" letters
 aeZ:cS mg "MOST_LETTERS" 8
 ae0:cS mg "MOST_DIGITS" 10
 signs:Am K mg "SIGNS" [.str ".",.str ";"]
 blanks:Am K mg "BLANKS" [.str " ",.str "\n"]
inductive uD K(q:cW)(g:M Nat->Nat->Tok)(ok:M Nat->Nat->Prop)(vs:M V)(H:Hp)(Q:VK)(E:XK):Prop|mk(t:af)(bs:M Nat)(i:Nat)(_:vs=[.ref t,.int (i:Nat)])(_:az K H t (aK bs))(_:i<=bs.length)(_:bs.length<=20000)(_:ok bs i)(_:∀U p,ah H U->rZ q U p (g bs i)->Q (.ref p) U)
variable{n:Nat}
def o4{s:aj}(h:gz s=n):((s.cps.getD 0 0:Nat):Int)=(n:Int):=by rw[<-h];rfl
theorem QG bs(i n:Nat)(h:i<=bs.length):e_ (aK bs) (I (i:Int)) (I ((i+n:Nat):Int))=aK (eg bs i n):=by rw[Qc (α:=Unit) _ _ _ (by rw[fT];exact h),show i+n-i=n by lia];unfold aK eg;rw[yl,qO]
theorem ae1(F:bf K "word_at" (top 85) f fd)(ar:qp K mg)(hR:Def P w K mg ai 1 "run_end" ["text","place","low","high"] (F2 K))(hC:Cons P w K mg ai 1 "Token" ["self","kind","value","place","end"] (Al q) q.T):
  aM P w K mg ai aO 3 f fd ["text","place"] (uD K q xg λ_ _=>True):=by
 refine F.aX ["text","place","end","byte"] (λS H vs Q E hr h=> ?_);obtain⟨t,bs,i,rfl,hT,hi,bt,_,k⟩:=h
 exists _,aC (aY 2 S (aT hR hr (dw (pv 0) (cg (pv 1) (bJ j0 (by rfl) ar.ord boot_ord (aB dQ)) (bJ j0 (by rfl) ar.ord boot_ord (aB dQ)))))) (aC (bH (bL lH (bP mJ (pv 2) (pv 1)) (bM G ar.aeZ)) (aH (gw hC hr (dw (mZ G ar.fF) (cg dQ (pv 1) (pv 2))))) bG) (aH (gw hC hr (dw (mZ G ar.word) (cg (ee alL alM alN LS dQ (aB (fM G S (cV (mK nH (pv 0) (g4 (pv 1)) (g4 (pv 2)))) (own:=[("byte",3)]) (dY ["text","place","end","byte"] (cz (top 85))) (by intro _ _ _ _ _;exact cE 3 S) (by intro _ _ _ _ _;exact iP) (by intro _ _ _ _ _;exact C4 Yb (mZ (by rfl) ar.letters) (bP mJ (pv 3) (bJ j0 (by rfl) ar.ord boot_ord (aB dQ))))))) (pv 1) (pv 2))))));have ea:gz "a"=97:=by decide
 have wy:gz "z"=122:=by decide
 have cd:=uB (bC 97 122) bs i hi;refine⟨_,G,_,G,_,G,by decide,_,G,by decide,?_⟩;rw[o4 ea,o4 wy];exists t,bs,i,97,122,G,hT,hi,_,G,_,G,_,_,G,G,_,_,G,G,_,G;have SZ:=k;unfold xg at k;refine b4 (λh1=> ?_) (λh1=> ?_)
 .have a0:8<bV (bC 97 122) bs i:=by have:=c_ h1;lia
  rw[av a0]at k;exists _,G,_,G,λz dz hz a9 aw=>⟨z,dz,⟨"wrong",.str "",i,i+bV (bC 97 122) bs i⟩,G,ay,λH9 h9 k9=>⟨G,k H9 z (ah.made hz a9 k9) ⟨dz,h9⟩⟩⟩
 have a0:¬8<bV (bC 97 122) bs i:=λz=>h1 (aP (by lia));rw[au a0]at k;exists G;refine oS (K:=K) ?_;refine⟨_,G,_,G,_,G,_,G,_,G,t,_,G,hT,λp hp=>⟨p,G,?_⟩⟩;rw[QG bs i _ hi];have s1:ah H (upd H p (.lst (aK (eg bs i (bV (bC 97 122) bs i))))):=ah.new hp
 have ip:(eg bs i (bV (bC 97 122) bs i)).length<=8:=by unfold eg;rw[gT];lia
 refine qb (eg bs i (bV (bC 97 122) bs i)) (λ(b:Nat)=>V.int (b:Nat)) (λ_=>aa) (λ(b:Nat)=>V.str ⟨#[b]⟩) (by lia) (az.of ay) (λb U Kt Kf hb s2 ht hf=> ?_) λH2 D s2 hD hd=> ?_
 .have de:=F3 (bC 97 122) bs i b hb;unfold bC at de;rw[cU,pN,pN]at de;exists G,bK (B:=Kf U) ?_;exists _,G,_,G,by decide,_,_,G,G,letters,_,b,G,G,by decide,?_,ht U (ah.refl _) G;rw[o4 ea,show((b:Int)-((97:Nat):Int))=((b-97:Nat):Int) by lia];exact aW (aeY de.1 de.2)
 rw[mq.mpr (λ_ _=>G)]at hd;have eD:H2 D=I (.lst (((eg bs i (bV (bC 97 122) bs i)).map λc=>(⟨#[c]⟩:aj)).map V.str)):=by rw[hd,bQ];rfl
 exists _,D,_,G,G,.inl (az.of eD),?_
 .rw[aE,bQ]
  have:∀l:M Nat,(l.map ((λx:aj=>x.length)∘λc=>(⟨#[c]⟩:aj))).sum=l.length:=by
   intro l;induction l with
   |nil=>rfl
   |cons a l ih=>rw[b9,sU,ih,bT];show 1+_=_;lia
  rw[this];show _+_*0<=_;lia
 rw[join_one];refine⟨_,G,_,G,λz dz hz a9 aw=> ?_⟩;exists z,dz,⟨"word",.str (cL (eg bs i (bV (bC 97 122) bs i))),i,i+bV (bC 97 122) bs i⟩,G,ay,λH9 h9 k9=>⟨G,k H9 z (s1.trans (s2.trans (ah.made hz a9 k9))) ⟨dz,h9⟩⟩
noncomputable def xj(bs:M Nat)(i:Nat):Tok:=if 10<bV (bC 48 57) bs i\/(1<bV (bC 48 57) bs i/\bs.getD i 0=48)then⟨"wrong",.str "",i,i+bV (bC 48 57) bs i⟩else⟨"number",.int (iA (eg bs i (bV (bC 48 57) bs i)):Nat),i,i+bV (bC 48 57) bs i⟩
def QH l c:iA (l++[c])=10*iA l+(c-48):=by unfold iA;rw[pH];rfl
noncomputable def bI(bs:M Nat)(i:Nat):Tok:=
 let b:=i+bV gb bs i
 if b=bs.length then⟨"end",.str "",b,b⟩else
 let c:=bs.getD b 0
 if bC 97 122 c=aa then xg bs b else if bC 48 57 c=aa then xj bs b else if c=46 then⟨"sign",.str ".",b,b+1⟩else if c=59 then⟨"sign",.str ";",b,b+1⟩else⟨"wrong",.str "",b,b+1⟩
variable{v:V}
def r5{N:L2.St->Hp->Prop}(h:N (σ.set i (I v)) H):jC i v σ H N:=h
variable{u:TS}{D:mH}
def Ao{c:TT}{t rest:TS}b(h:∀K':Bool->Hp->Prop,K' b H->c σ H K')(k:if b=aa then t {D with nx:=rest D} σ H else u {D with nx:=rest D} σ H):jY (Cc c t u) rest D σ H:=h (λb H1=>if b=aa then t {D with nx:=rest D} σ H1 else u {D with nx:=rest D} σ H1) k
theorem ae2(F:bf K "number_at" (top 86) f fd)(ar:qp K mg)(hR:Def P w K mg ai 1 "run_end" ["text","place","low","high"] (F2 K))(hC:Cons P w K mg ai 1 "Token" ["self","kind","value","place","end"] (Al q) q.T):
  aM P w K mg ai aO 3 f fd ["text","place"] (uD K q xj λ_ _=>True):=by
 refine F.aX ["text","place","end","value","byte"] (λS H vs Q E hr h=> ?_);obtain⟨t,bs,i,rfl,hT,hi,bt,_,k⟩:=h
 exists _,aC (aY 2 S (aT hR hr (dw (pv 0) (cg (pv 1) (bJ j0 (by rfl) ar.ord boot_ord (aB dQ)) (bJ j0 (by rfl) ar.ord boot_ord (aB dQ)))))) (aC (bH (pU (bL lH (bP mJ (pv 2) (pv 1)) (bM (by rfl) ar.ae0)) (pT (rq (bL lH (bP mJ (pv 2) (pv 1)) aF) (rm (bL dm (bk (pv 0) (pv 1)) (bJ j0 (by rfl) ar.ord boot_ord (aB dQ))))).pt)).pt (aH (gw hC hr (dw (mZ G ar.fF) (cg dQ (pv 1) (pv 2))))) bG) (aC (aY 3 S aF) (aC (fC eN G (cV (mK nH (pv 0) (g4 (pv 1)) (g4 (pv 2)))) (cE 4 S) (cA (aY 3 S (bP mJ (bP fY (bP vU aF (pv 3)) (pv 4)) (bJ j0 (by rfl) ar.ord boot_ord (aB dQ)))))) (aH (gw hC hr (dw (mZ G ar.number) (cg (pv 3) (pv 1) (pv 2))))))));have ea:gz "0"=48:=by decide
 have wy:gz "9"=57:=by decide
 have cd:=uB (bC 48 57) bs i hi;refine⟨_,G,_,G,_,G,by decide,_,G,by decide,?_⟩;rw[o4 ea,o4 wy];exists t,bs,i,48,57,G,hT,hi;unfold xj at k;generalize hn:bV (bC 48 57) bs i=n at cd k;have l3:=hT;refine r5 ?_;dsimp only;refine Ao (decide (10<n\/(1<n/\bs.getD i 0=48))) (λK' hK=> ?_) ?_
 .exists _,G,_,G,_,_,G,G,_,_,G,G,_,G;refine b4 (λh1=> ?_) (λh1=> ?_)
  .have a0:10<n:=by have:=c_ h1;lia
   rw[aP (.inl a0)]at hK;exact hK
  have a0:¬10<n:=λz=>h1 (aP (by lia));exists _,G,_,G,_,_,G,G,_,_,G,G,_,G;refine b4 (λh2=> ?_) (λh2=> ?_)
  .have b2:1<n:=by have:=c_ h2;lia
   have al:i<bs.length:=by lia
   have hg:bs.getD i 0=bs[i]:=by rw[l9,bg al];rfl
   exists _,G,_,G,t,_,_,_,G,G,hT,aW (xd al),_,G,by decide,G,_,G;rw[show decide (V.int ((bs[i]:Nat):Int)=V.int ((("0":aj).cps.getD 0 0:Nat):Int))=decide (bs[i]=48) by rw[o4 ea];exact ff _ _];by_cases h3:bs[i]=48
   .rw[aP h3];rw[aP (.inr ⟨b2,hg.trans h3⟩)]at hK;exact hK
   rw[aV h3];rw[aV (λz=>z.elim a0 λz=>h3 (hg.symm.trans z.2))]at hK;exact hK
  have b2:¬1<n:=λz=>h2 (aP (by lia));rw[aV (λz=>z.elim a0 λz=>b2 z.1)]at hK;exact hK
 by_cases hw:10<n\/(1<n/\bs.getD i 0=48)
 .rw[av hw]at k;rw[aP hw];exact bK ⟨_,G,_,G,λz dz hz a9 aw=>⟨z,dz,⟨"wrong",.str "",i,i+n⟩,G,ay,λH9 h9 k9=>⟨G,k H9 z (ah.made hz a9 k9) ⟨dz,h9⟩⟩⟩⟩
 rw[au hw]at k;rw[aV hw];refine bX (DX ?_);refine⟨_,G,_,G,_,G,_,G,_,G,t,_,G,hT,λp hp=>⟨p,G,?_⟩⟩;rw[QG bs i _ hi];have s1:ah H (upd H p (.lst (aK (eg bs i n)))):=ah.new hp
 have ip:(eg bs i n).length<=10:=by unfold eg;rw[gT];have:¬10<n:=λz=>hw (.inl z);lia
 have QI:∀c∈eg bs i n,48<=c/\c<=57:=λc hc=>by rw[<-hn]at hc;have de:=F3 (bC 48 57) bs i c hc;unfold bC at de;rw[cU,pN,pN]at de;exact de
 have fA:∀m,m<=10->iA ((eg bs i n).take m)<10^m:=by
  intro m;induction m with
  |zero=>intro _;rw[List.take_zero];decide
  |succ m ih=>
   intro hm;have h9:=ih (by lia);obtain q|q:=i9 m (eg bs i n).length
   .rw[take_snoc (bg q),QH,alO];have:=(QI _ (sY q)).2;lia
   rw[pA (by lia)];rw[pA q]at h9;rw[alO];lia
 exists⟨_,az.of ay⟩;refine jD (K:=K) (a:=p) (xs:=aK (eg bs i n)) (λm σ U=>∃v4:aG V,U=upd H p (.lst (aK (eg bs i n)))/\σ=[I (.ref t),I (.int (i:Nat)),I (.int ((i+n:Nat):Int)),I (.int ((iA ((eg bs i n).take m):Nat):Int)),v4]) ⟨ak,G,G⟩ (λm σ U _⟨_,e,_⟩=>by rw[e];exact az.of ay) (λm x σ U hm hP=> ?_) λσ U hP=> ?_
 .obtain⟨v4,rfl,rfl⟩:=hP;unfold aK at hm;rw[bF]at hm;obtain⟨c,hc,rfl⟩:=gP.mp hm;have hd:=QI c (bN hc);have amt:m<10:=gQ (eL.mp hc).1 ip;exists _,G,_,_,G,G,.inl ⟨by decide,by decide⟩,_,G,_,_,G,G,_,G,by decide,_,_,G,G;exists I (V.int (c:Int)),G;rw[take_snoc hc,QH];show [I (V.ref t),I (V.int (i:Nat)),I (V.int ((i+n:Nat):Int)),I (V.int (10*((iA ((eg bs i n).take m):Nat):Int)+(c:Int)-((("0":aj).cps.getD 0 0:Nat):Int))),I (V.int (c:Int))]=_;rw[o4 ea,show(10*((iA ((eg bs i n).take m):Nat):Int)+(c:Int)-((48:Nat):Int))=((10*iA ((eg bs i n).take m)+(c-48):Nat):Int) by lia]
 obtain⟨v4,rfl,rfl⟩:=hP;rw[fT,i8];refine⟨_,G,_,G,_,G,λz dz hz a9 aw=> ?_⟩;exists z,dz,⟨"number",.int (iA (eg bs i n):Nat),i,i+n⟩,G,ay,λH9 h9 k9=>⟨G,k H9 z (s1.trans (ah.made hz a9 k9)) ⟨dz,h9⟩⟩
theorem ae3(F:bf K "token_at" (top 87) f fd)(B:dR mg)(ar:qp K mg)(hB:Def P w K mg ai 1 "behind_blanks" ["text","place"] (QD K))(ln:Def P w K mg ai 3 "word_at" ["text","place"] (uD K q xg λ_ _=>True))(hN:Def P w K mg ai 3 "number_at" ["text","place"] (uD K q xj λ_ _=>True))
  (hC:Cons P w K mg ai 1 "Token" ["self","kind","value","place","end"] (Al q) q.T):aM P w K mg ai aO 4 f fd ["text","place"] (uD K q bI λ_ _=>True):=by
 refine F.aX ["text","place","begin","sign"] (λS H vs Q E hr h=> ?_);obtain⟨t,bs,i,rfl,hT,hi,bt,_,k⟩:=h;obtain⟨sa,hm,hS⟩:=ar.signs.ex
 exists _,aC (aY 2 S (aT hB hr (bu (pv 0) (pv 1)))) (aC (bH (bL dm (pv 2) (bJ dc (by rfl) B.len cJ (aB (pv 0)))) (aH (gw hC hr (dw (mZ G ar.end_) (cg dQ (pv 2) (pv 2))))) bG) (aC (bH (tU gG gG (bJ j0 (by rfl) ar.ord boot_ord (aB dQ)) (bk (pv 0) (pv 2)) (bJ j0 (by rfl) ar.ord boot_ord (aB dQ))) (aH (aT ln hr (bu (pv 0) (pv 2)))) bG) (aC (bH (tU gG gG (bJ j0 (by rfl) ar.ord boot_ord (aB dQ)) (bk (pv 0) (pv 2)) (bJ j0 (by rfl) ar.ord boot_ord (aB dQ))) (aH (aT hN hr (bu (pv 0) (pv 2)))) bG) (aC (fC eN G (Ci (fz (by rfl) hm (show RelV (.ref sa) _ from G))) (cE 3 S) (cA (bH (bL dm (bk (pv 0) (pv 2)) (bJ j0 (by rfl) ar.ord boot_ord (aB (pv 3)))) (aH (gw hC hr (dw (mZ G ar.sign) (cg (pv 3) (pv 2) (bP fY (pv 2) aF))))) bG))) (aH (gw hC hr (dw (mZ G ar.fF) (cg dQ (pv 2) (bP fY (pv 2) aF)))))))));have e1:gz "a"=97:=by decide
 have e2:gz "z"=122:=by decide
 have e3:gz "0"=48:=by decide
 have e4:gz "9"=57:=by decide
 have e5:gz "."=46:=by decide
 have e6:gz ";"=59:=by decide
 refine⟨_,G,_,G,t,bs,i,G,hT,hi,λH1 s1=> ?_⟩;have ae4:=uB gb bs i hi;have k':=k;unfold bI at k;simp only at k;generalize hb:i+bV gb bs i=b at ae4 k;have l3:=s1.seq hT;refine r5 ?_;dsimp only;refine Ao (decide (b=bs.length)) (λK' hK=> ?_) ?_
 .exists _,G,_,G,t,_,G,.inl l3,G,_,G;rw[fT,ff];exact hK
 by_cases mM:b=bs.length
 .rw[av mM]at k;rw[aP mM];exact bK ⟨_,G,_,G,λz dz hz a9 aw=>⟨z,dz,⟨"end",.str "",b,b⟩,G,ay,λH9 h9 k9=>⟨G,k H9 z (s1.trans (ah.made hz a9 k9)) ⟨dz,h9⟩⟩⟩⟩
 rw[au mM]at k;rw[aV mM];have al:b<bs.length:=by lia
 have hg:bs.getD b 0=bs[b]:=by rw[l9,bg al];rfl
 rw[hg]at k
 have chain:∀(x y:aj)(lo hi:Nat),gz x=lo->gz y=hi->x.length=1->y.length=1->∀(K':Bool->Hp->Prop),K' (bC lo hi bs[b]) H1->∀(σ:L2.St),σ[0]? =I (I (.ref t))->σ[2]? =I (I (.int b))->
   vV (Cr (nF λi j=>.bl (decide (i<=j))) (nF λi j=>.bl (decide (i<=j))) (nG (λxs H Q=>∃x,xs=[.str x]/\x.length=1/\Q (.int (x.cps.getD 0 0:Nat)) H) (gI (tC (.str x)) gH)) (lF (za K) (jX 0) (jX 2)) (nG (λxs H Q=>∃x,xs=[.str x]/\x.length=1/\Q (.int (x.cps.getD 0 0:Nat)) H) (gI (tC (.str y)) gH))) σ H1 K':=λx y lo hi ex ey GM ly K' hK σ h0 h2=>by
  exists _,G,GM,_,h0,_,h2,t,_,_,_,G,G,l3,aW (xd al),_,_,G,G,_,G;rw[o4 ex];unfold bC at hK;refine b4 (λq1=> ?_) (λq1=> ?_)
  .rw[show decide (lo<=bs[b])=aa from aP (by have:=c_ q1;lia),eB]at hK;exists _,G,ly,_,_,G,G,_,G;rw[o4 ey];by_cases q2:bs[b]<=hi
   .rw[aP q2]at hK;rw[show decide (((bs[b]:Nat):Int)<=hi)=aa from aP (by lia)];exact hK
   rw[aV q2]at hK;rw[show decide (((bs[b]:Nat):Int)<=hi)=ao from aV (by lia)];exact hK
  rw[show decide (lo<=bs[b])=ao from aV (λz=>q1 (aP (by lia))),ig]at hK;exists _,G,hK
 refine bX ?_;refine Ao (bC 97 122 bs[b]) (λK' hK=>chain "a" "z" 97 122 e1 e2 (by decide) (by decide) K' hK _ G G) ?_;cases hw:bC 97 122 bs[b]with
 |true=>rw[av hw]at k;exact bK ⟨_,G,_,G,t,bs,b,G,l3,by lia,bt,trivial,λH2 p s2 hp=>k H2 p (s1.trans s2) hp⟩
 |false=>
 rw[au (by rw[hw];exact dJ)]at k;refine bX ?_;refine Ao (bC 48 57 bs[b]) (λK' hK=>chain "0" "9" 48 57 e3 e4 (by decide) (by decide) K' hK _ G G) ?_;cases hd:bC 48 57 bs[b]with
 |true=>rw[av hd]at k;exact bK ⟨_,G,_,G,t,bs,b,G,l3,by lia,bt,trivial,λH2 p s2 hp=>k H2 p (s1.trans s2) hp⟩
 |false=>
 rw[au (by rw[hd];exact dJ)]at k;refine bX ⟨sa,G,⟨_,hS.sq⟩,?_⟩;refine DL ([".",";"]:M aj) (λm σ U=>U=H1/\(∃v3:aG V,σ=[I (.ref t),I (.int (i:Nat)),I (.int (b:Nat)),v3])/\∀x∈([".",";"]:M aj).take m,bs[b]≠gz x) ⟨G,⟨ak,G⟩,λx hx=>by simp at hx⟩ (λσ U h=>⟨_,hS.sq,aZ _⟩) (λm a σ U ha h=>⟨_,V.str a,hS.sq,?_⟩) (λm a x σ U bp ha h hy=> ?_) λσ U h=> ?_
 .have:=bF (f:=V.str) (l:=([".",";"]:M aj)) (i:=m);rw[ha]at this;exact this
 .obtain⟨rfl,hy⟩:=hy;obtain⟨rfl,⟨v3,rfl⟩,Jn⟩:=h
  have hx:x= .str a:=by have h1:=hy _ hS.sq;have h2:=bF (f:=V.str) (l:=([".",";"]:M aj)) (i:=m);rw[ha]at h2;exact cG (h1.symm.trans h2)
  subst hx;have w8:a="."\/a=";":=by simpa using bN ha
  have pd:a.length=1:=by obtain rfl|rfl:=w8<;>decide
  exists _,rfl,_,rfl,t,_,_,_,rfl,rfl,l3,aW (xd al),_,rfl,_,rfl,pd,rfl,_,rfl;rw[show decide (V.int ((bs[b]:Nat):Int)=V.int ((a.cps.getD 0 0:Nat):Int))=decide (bs[b]=gz a) from ff _ _];by_cases hc:bs[b]=gz a
  .rw[aP hc];refine bK ⟨_,G,_,G,_,G,_,_,G,G,λz dz hz a9 aw=> ?_⟩
   have kk:∀H9 z,ah H H9->rZ q H9 z ⟨"sign",.str a,b,b+1⟩->Q (.ref z) H9:=λH9 z s9 h9=>by
    refine k H9 z s9 ?_;obtain rfl|rfl:=w8
    .rw[e5]at hc;rw[av hc];exact h9
    rw[e6]at hc;rw[au (by lia),av hc];exact h9
   exists z,dz,⟨"sign",.str a,b,b+1⟩,G,ay,λH9 h9 k9=>⟨G,kk H9 z (s1.trans (ah.made hz a9 k9)) ⟨dz,h9⟩⟩
  rw[aV hc];refine bX ⟨G,⟨_,G⟩,λy hy=> ?_⟩;rw[take_snoc ha]at hy;obtain q1|q1:=dG.mp hy
  .exact Jn y q1
  rw[nu.mp q1];exact hc
 obtain⟨rfl,⟨v3,rfl⟩,Jn⟩:=h;have n1:bs[b]≠46:=by have:=Jn "." (by simp);rw[e5]at this;exact this
 have n2:bs[b]≠59:=by have:=Jn ";" (by simp);rw[e6]at this;exact this
 rw[au n1,au n2]at k;refine⟨_,G,_,G,_,_,G,G,λz dz hz a9 aw=> ?_⟩;exists z,dz,⟨"wrong",.str "",b,b+1⟩,G,ay,λH9 h9 k9=>⟨G,k H9 z (s1.trans (ah.made hz a9 k9)) ⟨dz,h9⟩⟩
theorem uE:∀f g p l,l.length<f->l.length<g->pO f p l=pO g p l
 |0,_,_,_,h,_=>aU h (by lia)|_,0,_,_,_,h=>aU h (by lia)|f+1,g+1,p,[],_,_=>rfl|f+1,g+1,p,c::r,h1,h2=>by
  rw[bT]at h1 h2;have hd:∀n,((c::r).drop (n+1)).length<=r.length:=λn=>by rw[ir,bT];lia
  unfold pO;split
  .exact uE f g (p+1) r (by lia) (by lia)
  split
  .rename_i hw;have tx:((c::r).takeWhile vz).length=(r.takeWhile vz).length+1:=by rw[Ja,av hw,bT]
   simp only;split
   .rw[tx];congr 1;exact uE f g _ _ (vg (hd _) (by lia)) (vg (hd _) (by lia))
   rfl
  split
  .rename_i hw;have tx:((c::r).takeWhile tB).length=(r.takeWhile tB).length+1:=by rw[Ja,av hw,bT]
   simp only;split
   .rw[tx];congr 1;exact uE f g _ _ (vg (hd _) (by lia)) (vg (hd _) (by lia))
   rfl
  split
  .congr 1;exact uE f g (p+1) r (by lia) (by lia)
  rfl
def gM(bs:M Nat)(i:Nat):M iB:=pO (bs.length-i+1) i (bs.drop i)
theorem F4{f:Nat}(h:bs.length-i<f):pO f i (bs.drop i)=gM bs i:=uE _ _ _ _ (by rw[ir];exact h) (by rw[ir];lia)
inductive iU:Tok->iB->Option Nat->Prop|fin (p:Nat):iU ⟨"end",.str "",p,p⟩ ⟨0,p,[]⟩ ak|fF (p e:Nat) (w:List Nat):iU ⟨"wrong",.str "",p,e⟩ ⟨5,p,w⟩ ak|word (p e:Nat) (w:List Nat):w≠ []->(∀c∈w,bC 97 122 c=aa)->iU ⟨"word",.str (cL w),p,e⟩ ⟨1,p,w⟩ (I e)|num (p e:Nat) (w:List Nat):iU ⟨"number",.int (iA w:Nat),p,e⟩ ⟨2,p,w⟩ (I e)|dot (p e:Nat):iU ⟨"sign",.str ".",p,e⟩ ⟨4,p,[46]⟩ (I e)|semi (p e:Nat):iU ⟨"sign",.str ";",p,e⟩ ⟨4,p,[59]⟩ (I e)
def ae5:vz=bC 97 122:=by funext c;rfl
def ae6:tB=bC 48 57:=by funext c;rfl
theorem QJ{bs:M Nat}:∀{n i:Nat},i+n<=bs.length->bV gb bs i=n->gM bs i=gM bs (i+n)
 |0,i,_,_=>rfl|n+1,i,hi,hr=>by
  have al:i<bs.length:=by lia
  have e:=oZ (p:=gb) (bg al)
  have hb:gb bs[i]=aa:=by
   by_cases q:gb bs[i]=aa
   .exact q
   rw[au q,hr]at e;lia
  rw[av hb,hr]at e
  have h1:gM bs i=gM bs (i+1):=by
   unfold gM;rw[pJ al]
   have hc:bs[i]=10\/bs[i]=32:=by
    have:bs[i]=32\/bs[i]=10:=by simpa[gb]using hb
    exact this.symm
   show(if bs[i]=10\/bs[i]=32 then _ else _)=_;rw[av hc];exact uE _ _ _ _ (by rw[ir];lia) (by rw[ir];lia)
  rw[h1,show i+(n+1)=(i+1)+n by lia];exact QJ (by lia) (by lia)
theorem xm(hi:i<=bs.length):∃T o,iU (bI bs i) T o/\gM bs i=T::(match o with|none=>[]|some e=>gM bs e)/\(bI bs i).place<=bs.length/\∀e,o=I e->e=(bI bs i).stop/\(bI bs i).place<e/\i<=(bI bs i).place/\e<=bs.length:=by
 have bt:=uB gb bs i hi;rw[QJ bt G];unfold bI;simp only;generalize hb:i+bV gb bs i=b at bt;have Kb:i<=b:=by lia
 by_cases mM:b=bs.length
 .rw[av mM];refine⟨_,ak,.fin b,?_,bt,λe h=>by cases h⟩;unfold gM;rw[mM,I8];rfl
 rw[au mM];have al:b<bs.length:=by lia
 have hg:bs.getD b 0=bs[b]:=by rw[l9,bg al];rfl
 rw[hg]
 have hnb:¬(bs[b]=10\/bs[b]=32):=by
  intro h;have e:=oZ (p:=gb) (bg al)
  have hz:bV gb bs b=0:=by
   have h0:∀(n i:Nat),bV gb bs i=n->bV gb bs (i+n)=0:=by
    intro n;induction n with
    |zero=>intro i h;exact h
    |succ n ih=>
     intro i h
     have hl:i<bs.length:=by
      obtain q|q:=i9 i bs.length
      .exact q
      rw[F1 q]at h;lia
     have e:=oZ (p:=gb) (bg hl);rw[h]at e;split at e
     .rw[show i+(n+1)=(i+1)+n by lia];exact ih (i+1) (by lia)
     lia
   rw[<-hb];exact h0 _ i G
  have F5:gb bs[b]=aa:=by obtain h|h:=h<;>rw[h]<;>decide
  rw[av F5,hz]at e;lia
 have hu:gM bs b=if bC 97 122 bs[b]=aa then(if bV (bC 97 122) bs b<=8 then⟨1,b,eg bs b (bV (bC 97 122) bs b)⟩::gM bs (b+bV (bC 97 122) bs b)else [⟨5,b,eg bs b (bV (bC 97 122) bs b)⟩])
   else if bC 48 57 bs[b]=aa then(if bV (bC 48 57) bs b<=10/\(bs[b]≠48\/bV (bC 48 57) bs b=1)then⟨2,b,eg bs b (bV (bC 48 57) bs b)⟩::gM bs (b+bV (bC 48 57) bs b)else [⟨5,b,eg bs b (bV (bC 48 57) bs b)⟩])
   else if bs[b]=46\/bs[b]=59 then⟨4,b,[bs[b]]⟩::gM bs (b+1)else [⟨5,b,[bs[b]]⟩]:=by
  have F6:=pJ al;have ex:∀p,(bs[b]::bs.drop (b+1)).takeWhile p=eg bs b (bV p bs b):=λp=>by rw[An,F6]
  have el:∀p,(eg bs b (bV p bs b)).length=bV p bs b:=λp=>by rw[An];rfl
  have ed:∀n,(bs[b]::bs.drop (b+1)).drop n=bs.drop (b+n):=λn=>by rw[<-F6,Vq]
  show pO (bs.length-b+1) b (bs.drop b)=_;rw[F6]
  show(if bs[b]=10\/bs[b]=32 then _ else if vz bs[b]=aa then(if((bs[b]::bs.drop (b+1)).takeWhile vz).length<=8 then _::pO (bs.length-b) (b+((bs[b]::bs.drop (b+1)).takeWhile vz).length) ((bs[b]::bs.drop (b+1)).drop ((bs[b]::bs.drop (b+1)).takeWhile vz).length)else _)else if tB bs[b]=aa then(if((bs[b]::bs.drop (b+1)).takeWhile tB).length<=10/\(bs[b]≠48\/((bs[b]::bs.drop (b+1)).takeWhile tB).length=1)then _::pO (bs.length-b) (b+((bs[b]::bs.drop (b+1)).takeWhile tB).length) ((bs[b]::bs.drop (b+1)).drop ((bs[b]::bs.drop (b+1)).takeWhile tB).length)else _)else if bs[b]=46\/bs[b]=59 then _::pO (bs.length-b) (b+1) (bs.drop (b+1))else _)=_;rw[au hnb,ae5,ae6,ex,ex,el,el,ed,ed];by_cases q1:bC 97 122 bs[b]=aa
  .have hp:1<=bV (bC 97 122) bs b:=by rw[oZ (bg al),av q1];lia
   rw[av q1,av q1,F4 (by lia)]
  rw[au q1,au q1];by_cases q2:bC 48 57 bs[b]=aa
  .have hp:1<=bV (bC 48 57) bs b:=by rw[oZ (bg al),av q2];lia
   rw[av q2,av q2,F4 (by lia)]
  rw[au q2,au q2,F4 (by lia)]
 rw[hu];by_cases q1:bC 97 122 bs[b]=aa
 .have hp:1<=bV (bC 97 122) bs b:=by rw[oZ (bg al),av q1];lia
  have hl:=uB (bC 97 122) bs b bt;rw[av q1,av q1];unfold xg;by_cases q:8<bV (bC 97 122) bs b
  .rw[av q,au (by lia)];exact⟨_,ak,.fF _ _ _,G,bt,λe h=>by cases h⟩
  rw[au q,av (by lia)];exists _,I _,.word _ _ _ (λz=> ?_) (F3 _ _ _),G,bt,λe h=> ?_
  .have:=cC qG z;rw[An]at this;have h2:bV (bC 97 122) bs b=0:=this;lia
  cases h;exists G,by show b<_;lia,Kb,hl
 rw[au q1,au q1];by_cases q2:bC 48 57 bs[b]=aa
 .have hp:1<=bV (bC 48 57) bs b:=by rw[oZ (bg al),av q2];lia
  have hl:=uB (bC 48 57) bs b bt;rw[av q2,av q2];unfold xj;rw[hg];by_cases q:10<bV (bC 48 57) bs b\/(1<bV (bC 48 57) bs b/\bs[b]=48)
  .rw[av q,au (by lia)];exact⟨_,ak,.fF _ _ _,G,bt,λe h=>by cases h⟩
  rw[au q,av (by lia)];refine⟨_,I _,.num _ _ _,G,bt,λe h=> ?_⟩;cases h;exists G,by show b<_;lia,Kb,hl
 rw[au q2,au q2];by_cases q3:bs[b]=46
 .rw[av q3,av (.inl q3),q3];refine⟨_,I _,.dot _ _,G,bt,λe h=> ?_⟩;cases h;exists G,by show b<b+1;lia,Kb,al
 by_cases q4:bs[b]=59
 .rw[au q3,av q4,av (.inr q4),q4];refine⟨_,I _,.semi _ _,G,bt,λe h=> ?_⟩;cases h;exists G,by show b<b+1;lia,Kb,al
 rw[au q3,au q4,au (λz=>z.elim q3 q4)];exact⟨_,ak,.fF _ _ _,G,bt,λe h=>by cases h⟩
abbrev EW:=Except Vbcuaf.Wrong
noncomputable def nQ(s:dO)(l:M iB):EW (M Nat×M iB):=match s with| .num lo hi _=>Vr lo hi l>>=λx=>pure ([x.1],x.2)| .sg c _=>Vbcuaf.sign c l>>=λr=>pure ([],r)| .wd w=>Vbcuaf.word w l>>=λr=>pure ([],r)| .dz=>Vs l>>=λx=>pure ([x.1],x.2)
noncomputable def uF:M dO->M iB->EW (M Nat×M iB)|[],l=>pure ([],l)|s::ss,l=>nQ s l>>=λx=>uF ss x.2>>=λy=>pure (x.1++y.1,y.2)
def qq(vs:M Nat):bO:=⟨vs.getD 0 0,vs.getD 1 0,vs.getD 2 0,vs.getD 4 0,vs.getD 3 0,vs.getD 5 0,vs.getD 6 0,vs.getD 7 0⟩
def ae7 l:qV l=(uF eS l>>=λx=>pure (qq x.1,x.2)):=by simp only[eS,uF,nQ,bind_assoc,pure_bind];rfl
noncomputable def fX(s:dO)(t:Tok):Bool:=match s with| .num _ _ _=>decide (t.kind="number")| .sg _ x=>decide (t.val= .str x)| .wd w=>decide (t.val= .str (m6 w))| .dz=>fL t.val (jc.map V.str)
def Aq:V->Nat| .int n=>n.toNat|_=>0
def uG(s:dO)(t:Tok):Bool:=match s with| .num lo hi _=> !(decide (lo<=Aq t.val)&&decide (Aq t.val<=hi))|_=>ao
def ek(s:dO)(t:Tok)(full:Bool):Nat:=if t.kind="wrong"then 1 else if fX s t=ao then 2 else if full=aa then 7 else if uG s t=aa then 3 else 0
def Ar(v:V):Nat:=(jc.map V.str).findIdx λx=>decide (x=v)
def kT(s:dO)(t:Tok):M Nat:=match s with| .num _ _ _=>[Aq t.val]| .dz=>[Ar t.val]|_=>[]
def QK(w:String):(m6 w).cps.toList=yy w:=by rw[Str.ofString_eq_byList];unfold Str.ofStringByList yy;simp
def As l s:cL l=s↔l=s.cps.toList:=by
 constructor
 .intro h;rw[<-h];rfl
 intro h;rw[h];exact xh G
def xo:¬("end":aj)="wrong":=by decide
def r6:¬("word":aj)="wrong":=by decide
def xq:¬("number":aj)="wrong":=by decide
def kS:¬("sign":aj)="wrong":=by decide
def F7:¬("end":aj)="number":=by decide
def uH:¬("word":aj)="number":=by decide
def oV:¬("sign":aj)="number":=by decide
def j_(s:dO)(t:Tok)(rest:M iB):EW (M Nat×M iB):=if ek s t ao=0 then .ok (kT s t,rest)else .error (ek s t ao,t.place)
variable{s:dO}{t:Tok}{rest:M iB}
def Au(h:t.kind="wrong"):j_ s t rest= .error (1,t.place):=by unfold j_ ek;rw[av h,au (by decide)]
def g9(h:¬t.kind="wrong")(hc:fX s t=ao):j_ s t rest= .error (2,t.place):=by unfold j_ ek;rw[au h,av hc,au (by decide)]
def xr(h:¬t.kind="wrong")(hc:fX s t=aa):j_ s t rest=if uG s t=aa then .error (3,t.place)else .ok (kT s t,rest):=by
 have e:ek s t ao=if uG s t=aa then 3 else 0:=by unfold ek;rw[au h,hc];rfl
 unfold j_;rw[e];by_cases q:uG s t=aa
 .rw[av q,av q];rfl
 rw[au q,au q];rfl
variable{T:iB}{o:aG Nat}
def r7{lo hi:Nat}(R:iU t T o)rest:nQ (.num lo hi nm) (T::rest)=j_ (.num lo hi nm) t rest:=by
 cases R with
 |fin p=>exact e9 (g9 xo (aV F7))
 |fF p e w=>exact e9 (Au G)
 |word p e w h1 h2=>exact e9 (g9 r6 (aV uH))
 |dot p e=>exact e9 (g9 kS (aV oV))
 |semi p e=>exact e9 (g9 kS (aV oV))
 |num p e w=>
  refine Eq.trans ?_ (e9 (xr xq (by unfold fX;simp)));show((if lo<=iA w/\iA w<=hi then vA (iA w,rest)else yz (3,p))>>=λx=>pure ([x.1],x.2):EW _)=if(!(decide (lo<=iA w)&&decide (iA w<=hi)))=aa then _ else _;by_cases q:lo<=iA w/\iA w<=hi
  .rw[av q,aP q.1,aP q.2];rfl
  rw[au q,av]
  .rfl
  rw[Bool.not_eq_true',alG];by_cases q1:lo<=iA w
  .exact .inr (aV λz=>q ⟨q1,z⟩)
  exact .inl (aV q1)
def nR(h:¬a=b):decide (V.str a=V.str b)=ao:=aV λz=>h (by injection z)
def QL{w:M Nat}{c:Nat}(h1:w≠ [])(h2:∀c∈w,bC 97 122 c=aa)(hc:bC 97 122 c=ao)s(hs:s.cps.toList=[c]):¬cL w=s:=λz=>by rw[As,hs]at z;rw[z]at h2;rw[h2 c (nu.mpr G)]at hc;cases hc
def QM{c:Nat}(hx:(c=46/\x=".")\/(c=59/\x=";"))(R:iU t T o)rest:nQ (.sg c x) (T::rest)=j_ (.sg c x) t rest:=by
 have d1:((".":aj)).cps.toList=[46]:=by decide
 have d2:((";":aj)).cps.toList=[59]:=by decide
 have n0:¬""=x:=by obtain⟨_,rfl⟩|⟨_,rfl⟩:=hx<;>decide
 cases R with
 |fin p=>exact e9 (g9 xo (nR n0))
 |fF p e w=>exact e9 (Au G)
 |word p e w h1 h2=>
  have hn:¬cL w=x:=by
   obtain⟨_,rfl⟩|⟨_,rfl⟩:=hx
   .exact QL h1 h2 (by decide) _ d1
   exact QL h1 h2 (by decide) _ d2
  exact e9 (g9 r6 (nR hn))
 |num p e w=>exact e9 (g9 xq (by unfold fX;simp))
 |dot p e=>
  obtain⟨rfl,rfl⟩|⟨rfl,rfl⟩:=hx
  .exact e9 (xr kS (by unfold fX;simp))
  exact e9 (g9 kS (by unfold fX;exact nR (by decide)))
 |semi p e=>
  obtain⟨rfl,rfl⟩|⟨rfl,rfl⟩:=hx
  .exact e9 (g9 kS (by unfold fX;exact nR (by decide)))
  exact e9 (xr kS (by unfold fX;simp))
def xu{x:String}(h0:¬("":aj)=m6 x)(h1:¬(".":aj)=m6 x)(h2:¬(";":aj)=m6 x)(R:iU t T o)rest:nQ (.wd x) (T::rest)=j_ (.wd x) t rest:=by
 cases R with
 |fin p=>exact e9 (g9 xo (nR h0))
 |fF p e w=>exact e9 (Au G)
 |num p e w=>exact e9 (g9 xq (by unfold fX;simp))
 |dot p e=>exact e9 (g9 kS (nR h1))
 |semi p e=>exact e9 (g9 kS (nR h2))
 |word p e w g1 g2=>
  have hw:cL w=m6 x↔w=yy x:=by rw[As,QK]
  show((if(1:Nat)=1/\w=yy x then vA rest else yz (2,p))>>=λr=>pure ([],r):EW _)=_;by_cases q:w=yy x
  .rw[av ⟨G,q⟩];exact e9 (xr r6 (aP (by rw[hw.mpr q])))
  rw[au (λz=>q z.2)];exact e9 (g9 r6 (nR λz=>q (hw.mp z)))
def ae8:qW=jc.map λs=>s.cps.toList:=by decide
def ae9 w:∀l:M aj,((l.map λs=>s.cps.toList).findIdx? λx=>x==w)=if fL (.str (cL w)) (l.map V.str)=aa then I ((l.map V.str).findIdx λx=>decide (x= .str (cL w)))else ak:=by
 intro l;induction l with
 |nil=>rfl
 |cons a l ih=>
  rw[b9,b9,akz,Vt,ih]
  have de:fL (.str (cL w)) (V.str a::l.map V.str)=(decide (a=cL w)||fL (.str (cL w)) (l.map V.str)):=by unfold fL;rw[n8];rfl
  rw[de];by_cases q:cL w=a
  .have q':=((As w a).mp q).symm;rw[av (by rw[q'];simp),aP q.symm,ake,av G,aP (by rw[q])];rfl
  have q':¬a.cps.toList=w:=λz=>q ((As w a).mpr z.symm);rw[au (by simpa using q'),aV (λz=>q z.symm),Bk,aV (λz=>q (by injection z with z;exact z.symm))];by_cases q2:fL (.str (cL w)) (l.map V.str)=aa
  .rw[av q2,av q2];rfl
  rw[au q2,au q2];rfl
def ae_(R:iU t T o)rest:nQ .dz (T::rest)=j_ .dz t rest:=by
 have e0:fL (.str "") (jc.map V.str)=ao:=by decide
 have e1:fL (.str ".") (jc.map V.str)=ao:=by decide
 have e2:fL (.str ";") (jc.map V.str)=ao:=by decide
 cases R with
 |fin p=>exact e9 (g9 xo e0)
 |fF p e w=>exact e9 (Au G)
 |num p e w=>exact e9 (g9 xq (by rfl))
 |dot p e=>exact e9 (g9 kS e1)
 |semi p e=>exact e9 (g9 kS e2)
 |word p e w g1 g2=>
  show((match qW.findIdx? λx=>x==w with|some i=>vA (i,rest)|none=>yz (2,p))>>=λx=>pure ([x.1],x.2):EW _)=_;rw[ae8,ae9];by_cases q:fL (.str (cL w)) (jc.map V.str)=aa
  .rw[av q];exact e9 (xr r6 q)
  rw[au q];exact e9 (g9 r6 (by unfold fX;simpa using q))
def afa(hs:s∈eS)(R:iU t T o)rest:nQ s (T::rest)=j_ s t rest:=by
 unfold eS at hs;simp only[bh,eG,tD]at hs;obtain rfl|rfl|rfl|rfl|rfl|rfl|rfl|rfl|rfl|rfl|rfl|rfl|rfl|rfl|rfl:=hs
 .exact r7 R rest
 .exact QM (.inl ⟨G,G⟩) R rest
 .exact r7 R rest
 .exact xu (by decide) (by decide) (by decide) R rest
 .exact r7 R rest
 .exact ae_ R rest
 .exact xu (by decide) (by decide) (by decide) R rest
 .exact r7 R rest
 .exact xu (by decide) (by decide) (by decide) R rest
 .exact r7 R rest
 .exact xu (by decide) (by decide) (by decide) R rest
 .exact r7 R rest
 .exact xu (by decide) (by decide) (by decide) R rest
 .exact r7 R rest
 exact QM (.inr ⟨G,G⟩) R rest
def afb(R:iU t T o)(aw:¬t.kind="end")rest:gn 0 (T::rest)= .error (ek (.num 1 999 "number") t aa,t.place):=by
 unfold ek;cases R with
 |fin p=>exact aU G aw
 |fF p e w=>rw[av G];cases rest<;>rfl
 |num p e w=>rw[au xq,au (by rw[show fX (.num 1 999 "number") ⟨"number",.int (iA w:Nat),p,e⟩=aa by unfold fX;simp];decide),av G];cases rest<;>rfl
 |word p e w g1 g2=>rw[au r6,av (show fX (.num 1 999 "number") ⟨"word",.str (cL w),p,e⟩=ao from aV uH)];cases rest<;>rfl
 |dot p e=>rw[au kS,av (show fX (.num 1 999 "number") ⟨"sign",.str ".",p,e⟩=ao from aV oV)];cases rest<;>rfl
 |semi p e=>rw[au kS,av (show fX (.num 1 999 "number") ⟨"sign",.str ";",p,e⟩=ao from aV oV)];cases rest<;>rfl
def Av(t:Tok):Prop:=(∃x,t.val= .str x/\¬t.kind="number")\/∃n:Nat,t.val= .int (n:Nat)/\t.kind="number"
def iU.val(R:iU t T o):Av t:=by
 cases R with
 |fin p=>exact .inl ⟨_,G,F7⟩
 |fF p e w=>exact .inl ⟨_,G,by show¬("wrong":aj)="number";decide⟩
 |word p e w h1 h2=>exact .inl ⟨_,G,uH⟩
 |num p e w=>exact .inr ⟨_,G,G⟩
 |dot p e=>exact .inl ⟨_,G,oV⟩
 |semi p e=>exact .inl ⟨_,G,oV⟩
def Aw(K:aR)(a:af)(s:dO):Prop:=gK K a [.str s.py.1,.str s.py.2]
structure afc(K:aR)(mg:aj->aG aq)(x:aj)(vs:M V):Prop where
 ex:∃a,mg x=I (.ref a)/\gK K a vs/\∃o,K.lookup a=I o/\o.cls= .type "tuple"/\o.dict=ak
structure qt(K:aR)(mg:aj->aG aq):Prop where
 xw:cS mg "NO_FAULT" 0
 afd:cS mg "WRONG_HERE" 1
 cannot:cS mg "CANNOT_STAND" 2
 out:cS mg "OUT_OF_RANGE" 3
 many:cS mg "ONE_TOO_MANY" 7
 does:afc K mg "DOES" (jc.map V.str)
def Ax:¬("text":aj)="number":=by decide
def F8:¬("does":aj)="number":=by decide
def Ay:¬("text":aj)="does":=by decide
def kU a b:decide (V.str a=V.str b)=decide (a=b):=by
 by_cases q:a=b
 .rw[aP q,aP (by rw[q])]
 rw[aV q,nR q]
inductive QN K(q:cW)(vs:M V)H(Q:VK)(E:XK):Prop|mk(sx t:af)(s:dO)(tk:Tok)(_:vs=[.ref sx,.ref t])(_:Aw K sx s)(_:rZ q H t tk)(_:Av tk)(_:Q (.bl (fX s tk)) H)
def afe(F:bf K "can_stand" (top 97) f fd)(N:uC K q.T)(ar:qp K mg)(L:qt K mg):aM P w K mg ai aO 1 f fd ["step","token"] (QN K q):=by
 refine F.aX ["step","token"] (λS H vs Q E hr h=> ?_);obtain⟨sx,t,st,tk,rfl,hS,⟨dx,ht⟩,hv,k⟩:=h;obtain⟨da,hm,hD,_⟩:=L.does.ex
 exists _,aC (bH (bL dm (dS (pv 0) aF) dQ) (aH (jE dm (aS 1) (mZ G ar.number) (jZ _))) bG) (aC (bH (bL dm (dS (pv 0) aF) dQ) (aH (jE CG (aS 1) (fz (by rfl) hm (show RelV (.ref da) _ from G)) (by with_unfolding_all rfl))) bG)
  (aH (jE dm (aS 1) (dS (pv 0) aF) (jZ _))))
 exists _,G,sx,_,_,_,G,G,hS.sq,aW G,G,_,G;rw[kU];have fA:(tf tk).lookup ("value":aj)=I tk.val:=rfl;have nz:(tf tk).lookup ("kind":aj)=I (V.str tk.kind):=rfl
 have QO:∀x:aj,Cp tk.val (.str x)=aa:=λx=>by obtain⟨y,e,_⟩|⟨n,e,_⟩:=hv<;>rw[e]<;>rfl
 have oE:iF tk.val=aa:=by obtain⟨y,e,_⟩|⟨n,e,_⟩:=hv<;>rw[e]<;>rfl
 cases st with
 |num lo hi nm=>rw[show decide ((dO.num lo hi nm).py.1="number")=aa from aP G];exact bK ⟨_,G,t,q.T,dx,_,_,G,ht,N.cl,N.kind,nz,G,by rw[kU];exact k⟩
 |dz=>rw[show decide (dO.dz.py.1="number")=ao from aV F8];refine bX ⟨_,G,sx,_,_,_,G,G,hS.sq,aW G,G,_,G,?_⟩;rw[kU,show decide (dO.dz.py.1="does")=aa from aP G];exact bK ⟨_,G,t,q.T,dx,_,_,G,ht,N.cl,N.value,fA,da,_,G,.inr hD.sq,oE,by decide,k⟩
 |sg c x=>rw[show decide ((dO.sg c x).py.1="number")=ao from aV Ax];refine bX ⟨_,G,sx,_,_,_,G,G,hS.sq,aW G,G,_,G,?_⟩;rw[kU,show decide ((dO.sg c x).py.1="does")=ao from aV Ay];exact bX ⟨_,G,t,q.T,dx,_,_,G,ht,N.cl,N.value,fA,_,G,sx,_,_,_,G,G,hS.sq,aW G,QO _,k⟩
 |wd x=>rw[show decide ((dO.wd x).py.1="number")=ao from aV Ax];refine bX ⟨_,G,sx,_,_,_,G,G,hS.sq,aW G,G,_,G,?_⟩;rw[kU,show decide ((dO.wd x).py.1="does")=ao from aV Ay];exact bX ⟨_,G,t,q.T,dx,_,_,G,ht,N.cl,N.value,fA,_,G,sx,_,_,_,G,G,hS.sq,aW G,QO _,k⟩
def QS:dO->Prop| .num lo hi nm=>fU nm=((lo:Int),(hi:Int))/\Named nm|_=>True
def afg:∀s∈eS,QS s:=by
 intro s hs;unfold eS at hs;simp only[bh,eG,tD]at hs;have nm:∀x:aj,x∈gF.map (·.1)->Named x:=λx h=>h;obtain rfl|rfl|rfl|rfl|rfl|rfl|rfl|rfl|rfl|rfl|rfl|rfl|rfl|rfl|rfl:=hs
 .exact⟨by decide,nm _ (by decide)⟩
 .trivial
 .exact⟨by decide,nm _ (by decide)⟩
 .trivial
 .exact⟨by decide,nm _ (by decide)⟩
 .trivial
 .trivial
 .exact⟨by decide,nm _ (by decide)⟩
 .trivial
 .exact⟨by decide,nm _ (by decide)⟩
 .trivial
 .exact⟨by decide,nm _ (by decide)⟩
 .trivial
 .exact⟨by decide,nm _ (by decide)⟩
 trivial
inductive QT K(q:cW)(vs:M V)H(Q:VK)(E:XK):Prop|mk(sx t:af)(s:dO)(tk:Tok)(full:Bool)(_:vs=[.ref sx,.ref t,.bl full])(_:Aw K sx s)(_:QS s)(_:rZ q H t tk)(_:Av tk)(_:Q (.int (ek s tk full:Nat)) H)
theorem afh(F:bf K "step_fault" (top 98) f fd)(N:uC K q.T)(ar:qp K mg)(L:qt K mg)(hC:Def P w K mg ai 1 "can_stand" ["step","token"] (QN K q))(hI:Def P w K mg ai 1 "in_range" ["name","number"] Ej):
  aM P w K mg ai aO 2 f fd ["step","token","is_full"] (QT K q):=by
 refine F.aX ["step","token","is_full"] (λS H vs Q E hr h=> ?_);obtain⟨sx,t,st,tk,full,rfl,hS,aQ,⟨dx,ht⟩,hv,k⟩:=h
 exists _,aC (bH (bL dm (aS 1) (mZ G ar.fF)) (aH (bM G L.afd)) bG) (aC (bH (gY (fQ (aT hC hr (bu (pv 0) (pv 1))))) (aH (bM G L.cannot)) bG) (aC (bH (fQ (pv 2)) (aH (bM G L.many)) bG) (aC (bH (rq (bL dm (dS (pv 0) aF) dQ) (rm (gY (fQ (aT hI hr (bu (dS (pv 0) aF) (fD (pv 1) (by rfl)))))))).pt (aH (bM G L.out)) bG) (aH (bM G L.xw)))));have fA:(tf tk).lookup ("value":aj)=I tk.val:=rfl;have nz:(tf tk).lookup ("kind":aj)=I (V.str tk.kind):=rfl;unfold ek at k;exists _,G,t,q.T,dx,_,_,G,ht,N.cl,N.kind,nz,G,_,G;rw[kU];refine b4 (λh1=> ?_) (λh1=> ?_)
 .rw[av (c_ h1)]at k;exact k
 rw[au (λz=>h1 (aP z))]at k;exists _,G,_,G,sx,t,st,tk,G,hS,⟨dx,ht⟩,hv,_,G;cases hc:fX st tk with
 |false=>rw[av hc]at k;exact bK k
 |true=>
 rw[au (by rw[hc];decide)]at k;refine bX ⟨_,G,_,G,?_⟩;cases full with
 |true=>exact bK k
 |false=>
 rw[au (by decide)]at k;refine bX ⟨_,G,sx,_,_,_,G,G,hS.sq,aW G,G,_,G,?_⟩;rw[kU];cases st with
 |num lo hi nm=>
  rw[show decide ((dO.num lo hi nm).py.1="number")=aa from aP G];have F9:=c_ hc
  obtain⟨n,hn⟩:∃n:Nat,tk.val= .int n:=by
   obtain⟨y,_,z⟩|⟨n,e,_⟩:=hv
   .exact aU F9 z
   exists n,e
  obtain⟨ke,o2⟩:=aQ;refine bK ⟨_,G,sx,_,_,_,G,G,hS.sq,aW G,_,G,t,q.T,dx,_,_,G,ht,N.cl,N.value,fA,nm,n,by rw[hn];rfl,o2,_,G,?_⟩
  have e:uG (.num lo hi nm) tk= !inR nm n:=by
   unfold uG inR;rw[hn,ke];show(!(decide (lo<=n)&&decide (n<=hi)))= !(decide ((lo:Int)<=n)&&decide ((n:Int)<=hi));congr 2
   .by_cases z:lo<=n
    .rw[aP z,aP (by lia)]
    rw[aV z,aV (by lia)]
   by_cases z:n<=hi
   .rw[aP z,aP (by lia)]
   rw[aV z,aV (by lia)]
  rw[e]at k;refine b4 (λh2=> ?_) (λh2=> ?_)
  .rw[av h2]at k;exact k
  rw[au h2]at k;exact k
 |dz=>exact bX (show if decide (("does":aj)="number")=aa then _ else _ by rw[aV F8];exact bX k)
 |sg c x=>exact bX k
 |wd x=>exact bX k
inductive QU K(q:cW)(vs:M V)H(Q:VK)(E:XK):Prop|mk(sx t:af)(s:dO)(tk:Tok)(_:vs=[.ref sx,.ref t])(_:Aw K sx s)(_:rZ q H t tk)(_:Av tk)(_:fX s tk=aa)(_:∀U p,ah H U->H p=ak->U p=I (.lst (aK (kT s tk)))->Q (.ref p) U)
def afi(h:fL v (jc.map V.str)=aa):∃z,(jc.map V.str)[Ar v]? =I z/\fZ z v=aa/\∀m z',m<Ar v->(jc.map V.str)[m]? =I z'->fZ z' v=ao:=by
 have key:∀l:M aj,fL v (l.map V.str)=aa->∃z,(l.map V.str)[(l.map V.str).findIdx λx=>decide (x=v)]? =I z/\fZ z v=aa/\∀m(z':V),m<((l.map V.str).findIdx λx=>decide (x=v))->(l.map V.str)[m]? =I z'->fZ z' v=ao:=by
  intro l;induction l with
  |nil=>intro h;cases h
  |cons a l ih=>
   intro h
   have he:fZ (V.str a) v=decide (V.str a=v):=by
    cases v with
    |str b=>exact(kU a b).symm▸G
    |_=>rfl
   rw[b9,Vt];by_cases e:V.str a=v
   .rw[aP e];exists V.str a,G,by rw[he,aP e],λm z' hm=>aU hm (IP _)
   rw[aV e]
   have h':fL v (l.map V.str)=aa:=by unfold fL at h⊢;rw[b9,n8,he,aV e,Bk]at h;exact h
   obtain⟨z,h1,h2,h3⟩:=ih h';refine⟨z,h1,h2,λm z' hm hz=> ?_⟩;cases m with
   |zero=>cases hz;rw[he,aV e]
   |succ m=>exact h3 m z' (alP hm) hz
 exact key jc h
def afj(F:bf K "values_of" (top 99) f fd)(N:uC K q.T)(L:qt K mg):aM P w K mg ai aO 1 f fd ["step","token"] (QU K q):=by
 refine F.aX ["step","token"] (λS H vs Q E hr h=> ?_);obtain⟨sx,t,st,tk,rfl,hS,⟨dx,ht⟩,hv,hc,k⟩:=h;obtain⟨da,hm,hD,od,ho1,og,ho3⟩:=L.does.ex
 exists _,aC (bH (bL dm (dS (pv 0) aF) dQ) (aH (br (aB (aS 1)))) bG) (aH (lC (bL dm (dS (pv 0) aF) dQ) (br (aB (ee alQ Vh alR Oz (fz (by rfl) hm (show RelV (.ref da) _ from G)) (aB (aS 1))))) (br eT)));have fA:(tf tk).lookup ("value":aj)=I tk.val:=rfl;exists _,G,sx,_,_,_,G,G,hS.sq,aW G,G,_,G;rw[kU];have oE:iF tk.val=aa:=by obtain⟨y,e,_⟩|⟨n,e,_⟩:=hv<;>rw[e]<;>rfl
 cases st with
 |num lo hi nm=>
  rw[show decide ((dO.num lo hi nm).py.1="number")=aa from aP G];have F9:=c_ hc
  obtain⟨n,hn⟩:∃n:Nat,tk.val= .int n:=by
   obtain⟨y,_,z⟩|⟨n,e,_⟩:=hv
   .exact aU F9 z
   exists n,e
  refine bK ⟨_,G,t,q.T,dx,_,_,G,ht,N.cl,N.value,fA,(by show 1<=sizeLine;decide),λp hp=>k _ p (ah.new hp) hp ?_⟩;rw[ay,hn];show _=I (HO.lst (aK [Aq tk.val]));rw[hn];rfl
 |dz=>rw[show decide (dO.dz.py.1="number")=ao from aV F8];refine bX ⟨_,G,sx,_,_,_,G,G,hS.sq,aW G,G,_,G,?_⟩;rw[kU,show decide (dO.dz.py.1="does")=aa from aP G];obtain⟨z,z1,z2,z3⟩:=afi hc;exact bK ⟨.inr (.inl ⟨G,od,ho1,og,ho3⟩),_,G,t,q.T,dx,_,_,G,ht,N.cl,N.value,fA,da,_,_,Ar tk.val,z,G,G,hD.sq,oE,by decide,z1,z2,z3,(by show 1<=sizeLine;decide),λp hp=>k _ p (ah.new hp) hp (by rw[ay];rfl)⟩
 |sg c x=>rw[show decide ((dO.sg c x).py.1="number")=ao from aV Ax];refine bX ⟨_,G,sx,_,_,_,G,G,hS.sq,aW (j:=0) G,G,_,G,?_⟩;rw[kU,show decide ((dO.sg c x).py.1="does")=ao from aV Ay];exact bX ⟨b6 _,λp hp=>k _ p (ah.new hp) hp (by rw[ay];rfl)⟩
 |wd x=>rw[show decide ((dO.wd x).py.1="number")=ao from aV Ax];refine bX ⟨_,G,sx,_,_,_,G,G,hS.sq,aW (j:=0) G,G,_,G,?_⟩;rw[kU,show decide ((dO.wd x).py.1="does")=ao from aV Ay];exact bX ⟨b6 _,λp hp=>k _ p (ah.new hp) hp (by rw[ay];rfl)⟩
inductive QV K C(vs:M V)H(Q:VK)(E:XK):Prop|mk(l:af)(vl:M Nat)(_:vs=[.ref l])(_:az K H l (aK vl))(_:vl.length=8)(_:∀U p,ah H U->d9 C U p (qq vl)->Q (.ref p) U)
def afk(F:bf K "news_of" (top 100) f fd)(hN:Cons P w K mg ai 1 "News" ["self","row"] (DQ C) C):aM P w K mg ai aO 3 f fd ["values"] (QV K C):=by
 refine F.aX ["values"] (λS H vs Q E hr h=> ?_);obtain⟨l,vl,rfl,hL,ia,k⟩:=h;exists _,aH (gw hN hr (aB (lJ (dw (bk (pv 0) aF) (dw (bk (pv 0) aF) (dw (bk (pv 0) aF) (dw (bk (pv 0) aF) (dw (bk (pv 0) aF) (cg (bk (pv 0) aF) (bk (pv 0) aF) (bk (pv 0) aF))))))))));match vl,ia with
 |[a,b,d,e,g,i,m,n],_=>
  refine⟨_,G,l,_,_,_,G,G,hL,aW G,_,G,l,_,_,_,G,G,hL,aW G,_,G,l,_,_,_,G,G,hL,aW G,_,G,l,_,_,_,G,G,hL,aW G,_,G,l,_,_,_,G,G,hL,aW G,_,G,l,_,_,_,G,G,hL,aW G,_,G,l,_,_,_,G,G,hL,aW G,_,G,l,_,_,_,G,G,hL,aW G,(by show 8<=sizeLine;decide),λt ht=> ?_⟩;have s3:ah H (upd H t (.tup (aK (cM (qq [a,b,d,e,g,i,m,n]))))):=ah.new ht;refine λx dx hx pf aw=> ?_;have ph:t≠x:=λz=>by rw[<-z,ay]at hx;cases hx
  have bb:t≠dx:=λz=>by rw[<-z,ay]at pf;cases pf
  exists x,t,dx,qq [a,b,d,e,g,i,m,n],G,ay,?_,λH9 h9 k9=>⟨G,k H9 x (s3.trans (ah.made hx pf k9)) ⟨dx,t,h9,k9 t _ ?_ ph⟩⟩
  .rw[aD ph,aD bb,ay];rfl
  rw[aD ph,aD bb,ay];rfl
structure xx(K:aR)(C:af):Prop where
 cl:fK K C
 told:cF K C "told"
 fault:cF K C "fault"
 place:cF K C "place"
noncomputable def lf(l:af)(ft pl:Nat):M (aj×V):=[("told",.ref l),("fault",.int (ft:Nat)),("place",.int (pl:Nat))]
inductive QW(q:cW)(vs:M V)(H:Hp)(Q:VK)(E:XK):Prop|mk p l dx ft pl(_:vs=[.ref p,.ref l,.int (ft:Nat),.int (pl:Nat)])(_:H p=I (.ins q.L dx []))(_:∀U,U p=I (.ins q.L dx (lf l ft pl))->(∀b o,H b=I o->b≠p->U b=I o)->Q .bx U)
def afl(F:dg K "__init__" "Letter.__init__" Jm f fd)(N:xx K q.L):aM P w K mg ai aO 1 f fd ["self","told","fault","place"] (QW q):=by refine F.aX ["self","told","fault","place"] (λS H vs Q E hr h=> ?_);obtain⟨p,l,dx,ft,pl,rfl,hp,k⟩:=h;exists _,aC (cR (pv 0) (pv 1) G) (aC (cR (pv 0) (pv 2) G) (cA (cR (pv 0) (pv 3) G))),_,G,_,G,p,q.L,dx,_,G,hp,N.cl,N.told,(by decide),_,G,_,G,p,q.L,dx,_,G,ay,N.cl,N.fault,(by show 1<1000;decide),_,G,_,G,p,q.L,dx,_,G,ay,N.cl,N.place,(by show 2<1000;decide);refine k _ (by rw[ay];rfl) λb o e hb=> ?_;rw[aD hb,aD hb,aD hb];exact e
def iV(vs:M Nat):M bO:=(gR (vs.length/8)).map λi=>qq ((vs.drop (8*i)).take 8)
def afm vs:(iV vs).length=vs.length/8:=by unfold iV;rw[aE,iz]
variable{d p:M Nat}{m:Nat}
theorem afn(hd:d.length=8*m)(hp:p.length=8):iV (d++p)=iV d++[qq p]:=by
 unfold iV;rw[bD,hd,hp,show(8*m+8)/8=m+1 by lia,show 8*m/8=m by lia,ak9,dH];congr 1
 .refine kB λi hi=> ?_;have hi:=ajB.mp hi;rw[List.drop_append_of_le_length (by lia),alI (by rw[ir];lia)]
 rw[b9,xW,<-hd,alS,pA (by lia)]
def F_:dO->Bool| .num _ _ _=>aa| .dz=>aa|_=>ao
def qu(s:Nat):Nat:=((eS.take s).filter F_).length
def QX s t:(kT s t).length=if F_ s=aa then 1 else 0:=by cases s<;>rfl
def afo{s:Nat}(h:s<15):∃st,eS[s]? =I st/\st∈eS/\eS.drop s=st::eS.drop (s+1)/\∀t,qu (s+1)=qu s+(kT st t).length:=by have hl:=h;refine⟨eS[s],bg hl,sY hl,pJ hl,λt=> ?_⟩;unfold qu;rw[BL,bg hl,QX,U3,bD];congr 1;cases h:F_ eS[s]<;>simp[h]
noncomputable def lV(bs d p:M Nat)(s i f:Nat):EW (M bO):=uF (eS.drop s) (gM bs i)>>=λx=>gn f x.2>>=λr=>pure (iV d++qq (p++x.1)::r)
def nS(bs d:M Nat)(i f:Nat):EW (M bO):=gn f (gM bs i)>>=λr=>pure (iV d++r)
def afp(R:iU t T o)(hs:s∈eS)(h:ek s t ao=0):∃e,o=I e:=by
 cases R with
 |fin p=>
  exfalso;revert h;unfold ek;rw[au xo]
  have:fX s ⟨"end",.str "",p,p⟩=ao:=by unfold eS at hs;simp only[bh,eG,tD]at hs;obtain rfl|rfl|rfl|rfl|rfl|rfl|rfl|rfl|rfl|rfl|rfl|rfl|rfl|rfl|rfl:=hs<;>unfold fX<;>first|exact aV F7|exact nR (by decide)|decide
  rw[av this];decide
 |fF p e w=>exfalso;revert h;unfold ek;rw[av G];decide
 |word p e w _ _=>exists _,G
 |num p e w=>exists _,G
 |dot p e=>exists _,G
 |semi p e=>exists _,G
variable{s:Nat}
theorem QY{f:Nat}(hi:i<=bs.length){st:dO}(bi:st∈eS)(yA:eS.drop s=st::eS.drop (s+1)):
  (ek st (bI bs i) ao≠0->lV bs d p s i f= .error (ek st (bI bs i) ao,(bI bs i).place))/\
  (ek st (bI bs i) ao=0->lV bs d p s i f=lV bs d (p++kT st (bI bs i)) (s+1) (bI bs i).stop f/\i<(bI bs i).stop/\(bI bs i).stop<=bs.length):=by
 obtain⟨T,o,R,hl,hp,he⟩:=xm hi
 have h1:∀rest,gM bs i=T::rest->lV bs d p s i f=(j_ st (bI bs i) rest>>=λx=>uF (eS.drop (s+1)) x.2>>=λy=>gn f y.2>>=λr=>pure (iV d++qq (p++(x.1++y.1))::r)):=λrest e=>by unfold lV;rw[yA,e];show(nQ st (T::rest)>>=_>>=_)=_;rw[afa bi R];simp only[bind_assoc,pure_bind]
 rw[h1 _ hl];constructor
 .intro h;unfold j_;rw[au h];rfl
 intro h;obtain⟨e,rfl⟩:=afp R bi h;obtain⟨e1,e2,e3,e4⟩:=he e G;refine⟨?_,by lia,by lia⟩;unfold j_ lV;rw[av h,<-e1];show(uF (eS.drop (s+1)) (gM bs e)>>=_)=_;congr 1;funext y;rw[iu]
def afq{f:Nat}(hd:d.length=8*m)(hp:p.length=8):lV bs d p 15 i f=nS bs (d++p) i f:=by unfold lV nS;rw[afn hd hp];show(pure ([],gM bs i)>>=_)=_;rw[pure_bind];congr 1;funext r;rw[jT,iu];rfl
def afr{f:Nat}(hi:i<=bs.length)(h:(bI bs i).kind="end"):nS bs d i f= .ok (iV d):=by
 obtain⟨T,o,R,hl,hp,he⟩:=xm hi;unfold nS;rw[hl];revert h R;generalize bI bs i=t;intro h R;cases R with
 |fin p=>
  have:gn f [⟨0,p,[]⟩]= .ok []:=by cases f<;>rfl
  rw[this];show vA (iV d++[])=_;rw[jT]
 |fF p e w=>exact aU h (by show¬("wrong":aj)="end";decide)
 |word p e w _ _=>exact aU h (by show¬("word":aj)="end";decide)
 |num p e w=>exact aU h (by show¬("number":aj)="end";decide)
 |dot p e=>exact aU h (by show¬("sign":aj)="end";decide)
 |semi p e=>exact aU h (by show¬("sign":aj)="end";decide)
def afs(R:iU t T o)(h:¬t.kind="end")f rest:gn (f+1) (T::rest)=(qV (T::rest)>>=λx=>gn f x.2>>=λr=>pure (x.1::r)):=by
 have key:∀l:M iB,(match qV l with| .error e=>yz e| .ok x=>match gn f x.2 with| .error e=>yz e| .ok r=>vA (x.1::r))=(qV l>>=λx=>gn f x.2>>=λr=>pure (x.1::r):EW (M bO)):=λl=>by
  cases qV l with
  |error e=>rfl
  |ok x=>show(match gn f x.2 with| .error e=>yz e| .ok r=>vA (x.1::r))=(gn f x.2>>=λr=>pure (x.1::r));cases gn f x.2<;>rfl
 rw[<-key];cases R with
 |fin p=>exact aU G h
 |fF p e w=>cases rest<;>rfl
 |word p e w _ _=>cases rest<;>rfl
 |num p e w=>cases rest<;>rfl
 |dot p e=>cases rest<;>rfl
 |semi p e=>cases rest<;>rfl
def aft{f:Nat}(hi:i<=bs.length)(h:¬(bI bs i).kind="end"):nS bs d i (f+1)=lV bs d [] 0 i f:=by obtain⟨T,o,R,hl,hp,he⟩:=xm hi;unfold nS lV;rw[hl,afs R h,ae7];simp only[bind_assoc,pure_bind];rfl
def afu(hi:i<=bs.length)(h:¬(bI bs i).kind="end"):nS bs d i 0= .error (ek (.num 1 999 "number") (bI bs i) aa,(bI bs i).place):=by obtain⟨T,o,R,hl,hp,he⟩:=xm hi;unfold nS;rw[hl,afb R h];rfl
def afv s t:ek s t aa≠0:=by
 unfold ek;split
 .decide
 split
 .decide
 simp
structure Rd(bs vals:M Nat)(s i:Nat)(df:EW (M bO)):Prop where
 lt:s<15
 le:i<=bs.length
 iR:s=0->∃m,vals.length=8*m/\m<=10/\nS bs vals i (10-m)=df
 wL:s≠0->∃d p m,vals=d++p/\d.length=8*m/\p.length=qu s/\m<10/\lV bs d p s i (9-m)=df
def afw bs:Rd bs [] 0 0 (i_ bs):=⟨by decide,b6 _,λ_=>⟨0,G,by decide,by unfold nS i_ Vbcuaf.tokens;show gn 10 (gM bs 0)>>=_=_;unfold gM;rw[yk,A2];show _=gn 10 _;cases gn 10 (pO (bs.length+1) 0 bs)<;>rfl⟩,λh=>aU G h⟩
def gO(s:Nat)(vals:M Nat):Bool:=decide (s=0)&&decide (vals.length=80)
theorem afx{vals:M Nat}{s i:Nat}{df:EW (M bO)}(R:Rd bs vals s i df)(hg:¬(s=0/\(bI bs i).kind="end")){st:dO}(bi:eS[s]? =I st):
  (ek st (bI bs i) (gO s vals)≠0->df= .error (ek st (bI bs i) (gO s vals),(bI bs i).place))/\
  (ek st (bI bs i) (gO s vals)=0->Rd bs (vals++kT st (bI bs i)) ((s+1)%15) (bI bs i).stop df/\i<(bI bs i).stop):=by
 obtain⟨cb,h1,h2,h3,h4⟩:=afo R.lt;rw[bi]at h1;cases h1
 have on:∀d p m,vals=d++p->d.length=8*m->p.length=qu s->m<10->lV bs d p s i (9-m)=df->gO s vals=ao->
   (ek st (bI bs i) (gO s vals)≠0->df= .error (ek st (bI bs i) (gO s vals),(bI bs i).place))/\
   (ek st (bI bs i) (gO s vals)=0->Rd bs (vals++kT st (bI bs i)) ((s+1)%15) (bI bs i).stop df/\i<(bI bs i).stop):=by
  intro d p m e1 e2 e3 e4 e5 e6;rw[e6,<-e5];refine⟨(QY R.le h2 h3).1,λh=> ?_⟩;obtain⟨k1,k2,k3⟩:=(QY R.le h2 h3).2 h;exists ?_,k2;have ag:(p++kT st (bI bs i)).length=qu (s+1):=by rw[bD,e3,h4 (bI bs i)]
  by_cases hs:s=14
  .subst hs;exists by decide,k3,λ_=>⟨m+1,?_,by lia,?_⟩,λz=>aU G z
   .rw[e1,iu,bD,e2,ag,show qu (14+1)=8 by decide];lia
   rw[k1,e1,iu,show 10-(m+1)=9-m by lia];exact(afq e2 (by rw[ag];decide)).symm
  have:=R.lt;rw[Nat.mod_eq_of_lt (show s+1<15 by lia)];exact⟨by lia,k3,λz=>aU z (by lia),λ_=>⟨d,p++kT st (bI bs i),m,by rw[e1,iu],e2,ag,e4,k1.symm⟩⟩
 by_cases hs:s=0
 .subst hs;have aw:=λz=>hg ⟨G,z⟩;obtain⟨m,cx,dL,f8⟩:=R.iR G;by_cases hm:m=10
  .subst hm;have hf:gO 0 vals=aa:=by unfold gO;rw[cx];rfl
   have e0:=(cG bi).symm;rw[hf];refine⟨λ_=> ?_,λz=>aU z (afv _ _)⟩;rw[<-f8,e0];exact afu R.le aw
  refine on vals [] m (jT _).symm cx (by decide) (by lia) ?_ ?_
  .rw[<-f8,show 10-m=9-m+1 by lia,aft R.le aw]
  unfold gO;rw[aV (show¬vals.length=80 by lia),Be]
 obtain⟨d,p,m,e1,e2,e3,e4,e5⟩:=R.wL hs;exact on d p m e1 e2 e3 e4 e5 (by unfold gO;rw[aV hs,ig])
variable{vals:M Nat}{df:EW (M bO)}
def afy(R:Rd bs vals 0 i df)(h:(bI bs i).kind="end"):df= .ok (iV vals)/\∃m,vals.length=8*m/\m<=10:=by obtain⟨m,cx,dL,f8⟩:=R.iR G;exists by rw[<-f8];exact afr R.le h,m,cx,dL
theorem afz(R:Rd bs vals s i df):vals.length<=80:=by
 by_cases hs:s=0
 .obtain⟨m,cx,dL,f8⟩:=R.iR hs;lia
 obtain⟨d,p,m,e1,e2,e3,e4,e5⟩:=R.wL hs;have hc:∀s,s<15->qu s<=8:=by decide
 have:=hc s R.lt;rw[e1,bD];lia
inductive QZ K C(vs:M V)H(Q:VK)(E:XK):Prop|mk(b:af)(vl:M Nat)(m:Nat)(_:vs=[.ref b])(_:az K H b (aK vl))(_:vl.length=8*m)(_:m<=1000)(_:∀(U:Hp)(p:af)(l:M AN),ah H U->H p=ak->U p=I (.lst (refs l))->l.map (·.2)=iV vl->f9 C U l->Q (.ref p) U)
theorem afA(F:bf K "news_in_values" (top 101) f fd)(B:dR mg)(ar:wM K mg)(hN:Def P w K mg ai 3 "news_of" ["values"] (QV K C)):aM P w K mg ai aO 4 f fd ["values"] (QZ K C):=by
 refine F.aX ["values","size","k"] (λS H vs Q E hr h=> ?_);obtain⟨b,vl,m,rfl,hB,hlen,Ga,k⟩:=h;obtain⟨a,hm,hT⟩:=ar.ex;have Q0:(aK vl).length=8*m:=by rw[fT,hlen]
 have hn:(iV vl).length=m:=by rw[afm,hlen];lia
 exists _,aC (vP (i:=1) S G (cZ G) (bJ dc (by rfl) B.len cJ (aB (fz (by rfl) hm (show RelV (.ref a) _ from G))))) (aH (fM G S (LF (by rfl) B.range (cg aF (bJ dc (by rfl) B.len cJ (aB (pv 0))) (pv 1))) (own:=[("k",2)]) (dY ["values","size","k"] (cz (top 101))) (by intro _ _ _ _ _;exact cE 2 S) (by intro _ _ _ _ _;exact iP)
   (by intro _ _ _ _ _;exact aT hN hr (aB (mK (OU G) (pv 0) (g4 (pv 2)) (g4 (bP fY (pv 2) (pv 1))))))))
 exists a,_,G,cZ hT.sq;dsimp only[pW,lD,jC];refine Em (J:=zo 0 8 m) (H1:=H) (gR m) (λi x _=>x= .int ((0:Int)+(i:Nat)*8)) (λi y H=>∃p n,y= .ref p/\(iV vl)[i]? =I n/\d9 C H p n) (λi y H U⟨p,n,h1,h2,h3⟩s1=>⟨p,n,h1,h2,OS h3 s1⟩) (λR h=> ?_) (by rw[iz];lia) (λU s1=> ?_) (λi U hi s1=> ?_) (λi U x bp hi s1 hy=> ?_) (λi x U Kt Kf hi hR s1 ht=> ?_) λU D ys s1 hD hd cf kb=> ?_
 .exists _,G,b,_,G,cO hB,_,G,0,_,8,m,G,(by rw[Q0];exact OQ Ga),h
 .show m<=(gR m).length;rw[iz];exact aZ _
 .show i<m;rw[iz]at hi;exact hi
 .obtain⟨rfl,rfl⟩:=hy;rw[iz]at hi;exists i,qP hi,ah.refl _,G
 .subst hR;have eh:i<m:=by simpa using hi
  exists G,bK (B:=Kf U) ?_;refine⟨_,G,_,G,_,G,_,G,_,G,_,_,G,G,_,G,b,_,G,s1.seq hB,λp hp=> ?_⟩;have s2:=ah.new (o:=.lst (e_ (aK vl) (I ((0:Int)+(i:Nat)*8)) (I ((0:Int)+(i:Nat)*8+8)))) hp
  have ec:e_ (aK vl) (I ((0:Int)+(i:Nat)*8)) (I ((0:Int)+(i:Nat)*8+8))=aK ((vl.drop (8*i)).take 8):=by rw[OR _ _ (by rw[Q0];lia)];unfold aK;rw[yl,qO]
  refine⟨p,(vl.drop (8*i)).take 8,G,az.of (by rw[ay];exact cC (λz=>I (HO.lst z)) ec),by rw[gT,ir];lia,λH4 p4 s4 h4=>ht _ _ (s2.trans s4) ⟨p4,_,G,?_,h4⟩⟩;unfold iV;rw[bF,qP (by rw[hlen];lia)];rfl
 rw[iz]at cf
 have each:∀i(hi:i<(iV vl).length),∃p,ys[i]? =I (.ref p)/\d9 C U p (iV vl)[i]:=λi hi=>by have hy:ys[i]? =I (ys[i]'(by lia)):=bg (by lia);obtain⟨p,n,h1,h2,h3⟩:=kb i i _ (qP (by lia)) hy;rw[bg hi]at h2;cases h2;exists p,by rw[hy,h1],h3
 obtain⟨l,pd,db,X2⟩:=En each (by lia);exact k U D l s1 hD (by rw[hd,pd]) db ⟨X2,by rw[<-db,aE]at hn;lia⟩
def Q2{c:TT}{K':Bool->Hp->Prop}b(h:∀K':Bool->Hp->Prop,K' b H->c σ H K')(k:K' b H):c σ H K':=h _ k
def Q3{e:TE}v(h:∀K':VK,K' v H->e σ H K')(k:u D (σ.set i (I v)) H):jY (kK e (jC i)) u D σ H:=h (λx H1=>u D (σ.set i (I x)) H1) k
def afB(c:fh)(q:cW)(H:Hp)(z:af)(bs:M Nat):Prop:=∃(dz l:af)(an:M AN)(ft pl:Nat),H z=I (.ins q.L dz (lf l ft pl))/\H l=I (.lst (refs an))/\f9 c.N H an/\match i_ bs with| .error e=>ft=e.1/\pl=e.2/\ft≠0| .ok ns=>ft=0/\pl=0/\an.map (·.2)=ns
structure Q4(K:aR)(mg:aj->aG aq):Prop where
 ex:∃a,∃yB:M af,mg "STEPS"=I (.ref a)/\gK K a (yB.map V.ref)/\yB.length=15/\∀(i:Nat)(s:dO),eS[i]? =I s->∃sa,yB[i]? =I sa/\Aw K sa s
inductive Az K c(q:cW)(vs:M V)H(Q:VK)(E:XK):Prop|mk(t:af)(bs:M Nat)(_:vs=[.ref t])(_:az K H t (aK bs))(_:bs.length<=20000)(_:∀U z,ah H U->afB c q U z bs->Q (.ref z) U)
theorem afC(F:bf K "read_letter" (top 102) f fd)(B:dR mg)(N:uC K q.T)(ar:qp K mg)(L:qt K mg)(GN:wM K mg)(afD:Q4 K mg)(afE:cS mg "MOST_NEWS" 10)
  (hT:Def P w K mg ai 4 "token_at" ["text","place"] (uD K q bI λ_ _=>True))(hF:Def P w K mg ai 2 "step_fault" ["step","token","is_full"] (QT K q))(hV:Def P w K mg ai 1 "values_of" ["step","token"] (QU K q))(hNV:Def P w K mg ai 4 "news_in_values" ["values"] (QZ K c.N))
  (hL:Cons P w K mg ai 1 "Letter" ["self","told","fault","place"] (QW q) q.L):aM P w K mg ai aO 5 f fd ["text"] (Az K c q):=by
 refine F.aX ["text","values","step","token","is_full","fault"] (λS H vs Q E hr h=> ?_);obtain⟨t,bs,rfl,hB,bt,k⟩:=h;obtain⟨na,lw,hnT⟩:=GN.ex;obtain⟨sa,yB,sB,Gb,Q5,hsA⟩:=afD.ex
 exists _,aC (aY 1 S (br eT)) (aC (aY 2 S aF) (aC (aY 3 S (aT hT hr (bu (pv 0) aF))) (aC (vQ eN (pU (bL lG (pv 2) aF) (pT (bL lG (fD (pv 3) (by rfl)) (mZ (by rfl) ar.end_)))).pt
   (aC (aY 4 S (Cb (jE dm (pv 2) aF (jZ _)) (vM (jE dm (bJ dc (by rfl) B.len cJ (aB (pv 1))) (bP vU (bM G afE) (bJ dc (by rfl) B.len cJ (aB (fz (by rfl) lw (show RelV (.ref na) _ from G))))) (jZ _)))))
   (aC (aY 5 S (aT hF hr (cg (dS (fz (by rfl) sB (show RelV (.ref sa) _ from G)) (pv 2)) (pv 3) (pv 4))))
   (aC (bH (bL lG (pv 5) (bM G L.xw)) (aH (gw hL hr (cg (br eT) (pv 5) (aS 3)))) bG)
   (aC (fR (ee fq l8 oq oG (pv 1) (aB (aT hV hr (bu (dS (fz (by rfl) sB (show RelV (.ref sa) _ from G)) (pv 2)) (pv 3))))))
   (aC (aY 2 S (bP Xe (bP fY (pv 2) aF) (bJ dc (by rfl) B.len cJ (aB (fz (by rfl) sB (show RelV (.ref sa) _ from G))))))
   (cA (aY 3 S (aT hT hr (bu (pv 0) (aS 3)))))))))))
  (aH (gw hL hr (cg (aT hNV hr (aB (pv 1))) (bM G L.xw) aF))))))
 refine⟨b6 _,λl hl=> ?_⟩;have s0:ah H (upd H l (.lst [])):=ah.new hl;refine⟨_,G,t,bs,0,G,s0.seq hB,b6 _,bt,trivial,λH1 tk s1 ht=> ?_⟩;have fresh:∀{U:Hp},ah (cB (upd H l (.lst [])) l) U->ah H U:=λ{U}s2 x o e=>s2 _ _ (mY hl s0 _ _ e);exists λm σ U=>∃(s i:Nat)(vals:M Nat)(tk:af)(v4 v5:aG V),m=bs.length-i/\σ=[I (.ref t),I (.ref l),I (.int (s:Nat)),I (.ref tk),v4,v5]/\ah H U/\U l=I (.lst (aK vals))/\rZ q U tk (bI bs i)/\Rd bs vals s i (i_ bs),⟨_,0,0,[],tk,ak,ak,G,G,s0.trans s1,s1 _ _ ay,ht,afw bs⟩;rintro m σ U⟨s,i,vals,tk,v4,v5,rfl,rfl,sH,d3,⟨dx,ht⟩,R⟩;obtain⟨T,o,afF,_,_,bi⟩:=xm R.le;have hv:=afF.val;have fA:(tf (bI bs i)).lookup ("value":aj)=I (bI bs i).val:=rfl;have nz:(tf (bI bs i)).lookup ("kind":aj)=I (V.str (bI bs i).kind):=rfl;have ag:(tf (bI bs i)).lookup ("place":aj)=I (V.int ((bI bs i).place:Nat)):=rfl;have wn:(tf (bI bs i)).lookup ("end":aj)=I (V.int ((bI bs i).stop:Nat)):=rfl;have hg:∃b:Bool,b= !(decide (s=0)&&decide ((bI bs i).kind="end")):=⟨_,G⟩;obtain⟨b,hb⟩:=hg;refine Q2 b (λK' hK=> ?_) ?_
 .exists _,G,G,_,G;rw[show(!decide (V.int ((s:Nat):Int)=V.int 0))= !decide (s=0) by rw[show(0:Int)=((0:Nat):Int) from G,ff]];by_cases h0:s=0
  .rw[aP h0]at hb⊢;refine bX ⟨_,G,tk,q.T,dx,_,_,G,ht,N.cl,N.kind,nz,G,_,G,?_⟩;rw[kU,<-eB (decide ((bI bs i).kind="end")),<-hb];exact hK
  rw[aV h0]at hb⊢;rw[hb]at hK;exact bK hK
 subst hb;cases dq:(decide (s=0)&&decide ((bI bs i).kind="end"))with
 |true=>rw[cU]at dq;have h0:s=0:=c_ dq.1;subst h0;obtain⟨Gd,m,Ga,hm2⟩:=afy R (c_ dq.2);refine bX ⟨_,G,l,vals,m,G,az.of d3,Ga,by lia,λH2 p an s2 hp ag dV T=> ?_⟩;refine λz dz hz a9 aw=>⟨z,p,dz,0,0,G,ay,λH9 h9 k9=>⟨G,?_⟩⟩;have s9:ah H2 H9:=ah.made hz a9 k9;exact k H9 z (sH.trans (s2.trans s9)) ⟨dz,p,an,0,0,h9,s9 _ _ ag,T.same s9,by rw[Gd];exists G,G,dV⟩
 |false=>
 have hng:¬(s=0/\(bI bs i).kind="end"):=λz=>by rw[aP z.1,aP z.2]at dq;cases dq
 refine bK ⟨λσ' H2=>∃(s' i':Nat)(Ki:M Nat)(Kj:af)(v4 v5:aG V),bs.length-i'<bs.length-i/\σ'=[I (.ref t),I (.ref l),I (.int (s':Nat)),I (.ref Kj),v4,v5]/\ah H H2/\H2 l=I (.lst (aK Ki))/\rZ q H2 Kj (bI bs i')/\Rd bs Ki s' i' (i_ bs),λσ' H2⟨s',i',Ki,Kj,v4,v5,q1,q2,q3,q4,q5,np⟩=>⟨_,q1,s',i',Ki,Kj,v4,v5,G,q2,q3,q4,q5,np⟩,?_⟩;obtain⟨st,pw⟩:∃st,eS[s]? =I st:=⟨_,bg (show s<eS.length from R.lt)⟩;obtain⟨Ge,hY,lc⟩:=hsA s st pw;have Q6:(yB.map V.ref)[s]? =I (.ref Ge):=by rw[bF,hY];rfl
 have K8:=afz R;refine Q3 (.bl (gO s vals)) (λK' hK=> ?_) ?_
 .unfold gO at hK;exists _,G,G,_,G;rw[show decide (V.int ((s:Nat):Int)=V.int 0)=decide (s=0) from ff s 0];by_cases h0:s=0
  .rw[aP h0]at hK⊢;refine bK ⟨_,G,l,_,G,.inl (az.of d3),na,_,G,.inr hnT.sq,_,_,G,G,cO (by decide),G,?_⟩;rw[fT,show decide (V.int ((vals.length:Nat):Int)=V.int (10*((jb.map V.str).length:Nat)))=decide (vals.length=80) from ff _ 80,<-eB (decide (vals.length=80))];exact hK
  rw[aV h0]at hK⊢;exact bX hK
 exists _,G,sa,_,_,_,G,G,Gb.sq,aW Q6,_,G,_,G,Ge,tk,st,bI bs i,gO s vals,G,lc,afg _ (bN pw),⟨dx,ht⟩,hv;obtain⟨afG,afH⟩:=afx R hng pw;exists _,G,G,_,G;rw[show(!decide (V.int ((ek st (bI bs i) (gO s vals):Nat):Int)=V.int 0))= !decide (ek st (bI bs i) (gO s vals)=0) from cC (!·) (ff _ 0)];by_cases tI:ek st (bI bs i) (gO s vals)=0
 .rw[aP tI];obtain⟨R2,al⟩:=afH tI;refine bX ?_
  have afI:fX st (bI bs i)=aa:=by
   cases hc:fX st (bI bs i)with
   |true=>rfl
   |false=>exfalso;revert tI;unfold ek;rw[hc];split<;>simp
  refine⟨_,G,.inl ⟨G,_,az.of d3⟩,_,G,sa,_,_,_,G,G,Gb.sq,aW Q6,_,G,Ge,tk,st,bI bs i,G,lc,⟨dx,ht⟩,hv,afI,λH2 p s2 hp ag=> ?_⟩;have db:=s2 _ _ d3;have Q7:ah H (upd H2 l (.lst (aK vals++aK (kT st (bI bs i))))):=λx o e=>by rw[aD (b_ e hl)];exact s2 _ _ (sH _ _ e)
  have ht2:upd H2 l (.lst (aK vals++aK (kT st (bI bs i)))) tk=I (.ins q.T dx (tf (bI bs i))):=by rw[aD (λz=>by rw[z,d3]at ht;cases ht)];exact s2 _ _ ht
  exists l,p,_,_,G,G,db,ag,?_
  .rw[fT,fT,QX,cY];split<;>lia
  exists _,G,_,_,G,G,sa,_,G,.inr Gb.sq,_,_,G,G,?_
  .rw[aE,Q5];exact(by decide:(0:Int)<15)
  refine⟨_,G,_,G,tk,q.T,dx,_,_,G,ht2,N.cl,N.end_,wn,t,bs,(bI bs i).stop,G,Q7.seq hB,R2.le,bt,trivial,λH3 FC s3 h3=> ?_⟩;exists(s+1)%15,(bI bs i).stop,vals++kT st (bI bs i),FC,I (.bl (gO s vals)),I (.int ((ek st (bI bs i) (gO s vals):Nat):Int)),by have:=R2.le;lia,?_,Q7.trans s3,?_,h3,R2
  .rw[aE,Q5];rfl
  rw[s3 _ _ ay,<-wH]
 rw[aV tI];have Gd:=afG tI;refine bK ⟨b6 _,λz1 my=> ?_⟩;have s1:ah U (upd U z1 (.lst [])):=ah.new my;exists _,G,_,G,tk,q.T,dx,_,_,G,s1 _ _ ht,N.cl,N.place,ag;refine λz dz hz a9 aw=>⟨z,z1,dz,ek st (bI bs i) (gO s vals),(bI bs i).place,G,ay,λH9 h9 k9=>⟨G,?_⟩⟩;have s9:ah (upd U z1 (.lst [])) H9:=ah.made hz a9 k9;exact k H9 z (sH.trans (s1.trans s9)) ⟨dz,z1,[],_,_,h9,s9 _ _ ay,⟨λx hx=>(eG hx).elim,b6 _⟩,by rw[Gd];exists G,G,tI⟩
def eu{α β:Type}{m:EW α}{f:α->EW β}{y:β}(h:(m>>=f)= .ok y):∃x,m= .ok x/\f x= .ok y:=by
 cases m with
 |error e=>cases h
 |ok x=>exists x,G,h
theorem afJ{l:M iB}{x:Nat×M iB}(h:Vs l= .ok x):x.1<=4:=by
 unfold Vs at h;split at h
 .split at h
  .cases h
  split at h
  .rename_i i hi;cases h;have:=(ak8.mp hi).1;have hl:qW.length=5:=rfl;lia
  cases h
 cases h
def Gf{l:M iB}{x:bO×M iB}(h:qV l= .ok x):x.1.kind<=4:=by obtain⟨x1,_,h⟩:=eu h;obtain⟨x2,_,h⟩:=eu h;obtain⟨x3,_,h⟩:=eu h;obtain⟨afK,_,h⟩:=eu h;obtain⟨afL,_,h⟩:=eu h;obtain⟨Q8,hd,h⟩:=eu h;obtain⟨N0,_,h⟩:=eu h;obtain⟨afM,_,h⟩:=eu h;obtain⟨afN,_,h⟩:=eu h;obtain⟨x10,_,h⟩:=eu h;obtain⟨x11,_,h⟩:=eu h;obtain⟨x12,_,h⟩:=eu h;obtain⟨x13,_,h⟩:=eu h;obtain⟨x14,_,h⟩:=eu h;obtain⟨x15,_,h⟩:=eu h;cases h;exact afJ hd
theorem Q9:∀{f:Nat}{l:M iB}{ns:M bO},gn f l= .ok ns->fS ns/\ns.length<=f:=by
 intro f;induction f with
 |zero=>
  intro l ns h;unfold gn at h;split at h
  .cases h;exists λx hx=>(eG hx).elim,b6 _
  cases h
 |succ f ih=>
  intro l ns h;unfold gn at h;split at h
  .cases h;exists λx hx=>(eG hx).elim,b6 _
  cases hn:qV l with
  |error e=>rw[hn]at h;cases h
  |ok x=>
   rw[hn]at h;simp only at h;cases hr:gn f x.2 with
   |error e=>rw[hr]at h;cases h
   |ok r=>
    rw[hr]at h;cases h;obtain⟨i1,i2⟩:=ih hr;refine⟨λz hz=> ?_,by rw[bT];lia⟩;obtain q|q:=bh.mp hz
    .rw[q];exact Gf hn
    exact i1 z q
def uI l:wO l=(iM 1200 l).isSome/\∀bs,iM 1200 l=I bs->l=dW bs/\bs.length<=1200:=by
 have e:inR "byte"=λc=>e8 c 0 255:=by funext c;exact eU (by decide)
 unfold wO iM;rw[e];constructor
 .cases decide (l.length<=1200)&&l.all λc=>e8 c 0 255<;>rfl
 intro bs h;by_cases q:(decide (l.length<=1200)&&l.all λc=>e8 c 0 255)=aa
 .rw[av q]at h;cases h;rw[cU]at q;refine⟨?_,by rw[aE];exact c_ q.1⟩;unfold dW;rw[bQ]
  conv=>lhs;rw[<-U1 l]
  exact kB λx hx=>(ef (jU.mp q.2 x hx) (by decide)).1.symm
 rw[au q]at h;cases h
def AA:rX:=λh _ rw h' out=>(h',out)=match iM 1200 rw with
 |none=>(h,[-1])
 |some t=>match i_ t with
  | .error _=>(h,[-5])| .ok l=>vv h l
def Gg:dN->M Int->M Int->M Int->Prop:=λh _ rw out=>rw.length<=20000/\out=match iM 1200 rw with
 |none=>[-1]
 |some t=>match i_ t with
  | .error e=>[0,(e.1:Int),(e.2:Int)]| .ok _=>[0,0,0]
theorem afO(F:bf K "tell_letter" (top 170) f fd)(Z:j8 mg)(L:qt K mg)(N:xx K q.L)(hI:Def P w K mg ai 3 "is_text" ["row"] (z6 K))(hL:Def P w K mg ai 5 "read_letter" ["text"] (Az K c q))(hT:Def P w K mg ai 7 "take_news" ["book","told"] (FU K c)):
  aM P w K mg ai aO 8 f fd dh (uA K c AA):=by
 refine F.aX ["book","numbers","row","letter"] (λS H vs Q E hr h=> ?_);obtain⟨b,n,r,dx,lj,lg,lh,h,h',ns,rw,out,rfl,BF,IR,c8,cd,ax,k⟩:=h
 exists _,aC (bH (gY (fQ (aT hI hr (aB (pv 2))))) (aH (br (aB (bM G Z.fF)))) bG) (aC (aY 3 S (aT hL hr (aB (pv 2)))) (aC (bH (bL lG (aS 3) (bM G L.xw)) (aH (br (aB (bM G Z.PK)))) bG) (aH (aT hT hr (bu (pv 0) (aS 3))))));refine⟨_,G,r,rw,G,az.of c8,cd,λH1 s1=>⟨_,G,?_⟩⟩;rw[(uI rw).1];unfold AA at ax;cases e:iM 1200 rw with
 |none=>rw[e]at ax;injection ax with e1 e2;subst e1 e2;exact bK ⟨(by decide),λq hq=>k _ q (BF.same (s1.trans (ah.new hq))) (.of (s1.trans (ah.new hq))) (s1.free hq) ay⟩
 |some bs=>
  rw[e]at ax;simp only at ax;obtain⟨e1,e2⟩:=(uI rw).2 bs e;refine bX ⟨_,G,r,bs,G,az.of (by rw[s1 _ _ c8,e1,j7];rfl),by lia,λH2 z s2⟨dz,l,an,ft,pl,z1,z2,T,z3⟩=> ?_⟩;have a1:=s1.trans s2;exists _,G,z,q.L,dz,_,_,G,z1,N.cl,N.fault,G,G,_,G;rw[show(!decide (V.int (ft:Int)=V.int 0))= !decide (ft=0) from cC (!·) (ff _ 0)];cases cj:i_ bs with
  |error e=>rw[cj]at ax z3;injection ax with e1 e2;subst e1 e2;rw[aV z3.2.2];exact bK ⟨(by decide),λq hq=>k _ q (BF.same (a1.trans (ah.new hq))) (.of (a1.trans (ah.new hq))) (a1.free hq) ay⟩
  |ok l'=>rw[cj]at ax z3;obtain⟨y1,Hm,y3⟩:=z3;obtain⟨k1,k2⟩:=Q9 cj;rw[aP y1];refine bX ⟨_,G,_,G,z,q.L,dz,_,_,G,z1,N.cl,N.told,G,b,l,dx,lj,lg,lh,h,h',an,out,G,BF.same a1,az.of z2,T,?_,by rw[y3];exact k1,by rw[y3];exact ax,λH3 q F0 R3 hq bj=>k H3 q F0 (λx o ex n1 n2 n3=>R3 x o (a1 _ _ ex) n1 n2 n3) (a1.free hq) bj⟩;rw[<-aE,y3];have:alT=10:=rfl;lia
theorem afP(F:bf K "ask_check" (top 149) f fd)(Z:j8 mg)(N:xx K q.L)(hI:Def P w K mg ai 3 "is_text" ["row"] (z6 K))(hL:Def P w K mg ai 5 "read_letter" ["text"] (Az K c q)):
  aM P w K mg ai aO 8 f fd dh (fj K c Gg):=by
 refine F.aX ["book","numbers","row","letter"] (λS H vs Q E hr h=> ?_);obtain⟨b,n,r,h,ns,rw,out,rfl,BA,IR,c8,⟨cd,ax⟩,k⟩:=h
 exists _,aC (bH (gY (fQ (aT hI hr (aB (pv 2))))) (aH (br (aB (bM G Z.fF)))) bG) (aC (aY 3 S (aT hL hr (aB (pv 2)))) (aH (br (cg aF (aS 3) (aS 3)))));refine⟨_,G,r,rw,G,c8,cd,λH1 s1=>⟨_,G,?_⟩⟩;rw[(uI rw).1];cases e:iM 1200 rw with
 |none=>rw[e]at ax;subst ax;exact bK ⟨(by decide),λq hq=>k _ q (s1.trans (ah.new hq)) ay⟩
 |some bs=>
  rw[e]at ax;simp only at ax;obtain⟨e1,e2⟩:=(uI rw).2 bs e;refine bX ⟨_,G,r,bs,G,(by have:=s1.seq c8;rw[e1]at this;rw[j7];exact this),by lia,λH2 z s2⟨dz,l,an,ft,pl,z1,z2,T,z3⟩=> ?_⟩;refine⟨_,G,z,q.L,dz,_,_,G,z1,N.cl,N.fault,G,_,G,z,q.L,dz,_,_,G,z1,N.cl,N.place,G,(by show 3<=sizeLine;decide),λp hp=>k _ p (s1.trans (s2.trans (ah.new hp))) ?_⟩;rw[ay,ax];cases cj:i_ bs with
  |error e=>rw[cj]at z3;rw[z3.1,z3.2.1];rfl
  |ok l'=>rw[cj]at z3;rw[z3.1,z3.2.1];rfl
def g_(l:M Nat):pB:=.tuple (l.map λ(k:Nat)=>qR (k:Int))
def afQ{t:af}{l:M Nat}(h:H t=I (.tup (aK l))):Dp K H (.ref t) (g_ l):=by
 refine .tup (bz.of h) ?_;clear h;induction l with
 |nil=>exact .nil
 |cons a r ih=>exact .cons (.int _) ih
theorem Gh{K:aR}{H:Hp}:∀{ts:M AT},wU H ts->rF K H (wR ts) ((ts.map (·.2)).map g_)|[],_=>.nil|a::ts,T=>.cons (afQ (T a (bW ..))) (Gh λx hx=>T x (bZ _ hx))
theorem Q_:∀l m:M (M Nat),IM (l.map g_) (m.map g_)=decide (l=m)
 |[],[]=>rfl|[],_::_=>rfl|_::_,[]=>rfl|a::l,b::m=>by
  show(Bj (g_ a) (g_ b)&&IM (l.map g_) (m.map g_))=_;rw[Q_ l m,show Bj (g_ a) (g_ b)=decide (a=b) from DV a b];by_cases e:a=b
  .by_cases e2:l=m
   .simp[e,e2]
   simp[e2]
  simp[e]
theorem lay_ints:∀l:M Nat,BN (l.map λ(k:Nat)=>qR (k:Int))=aa/\Vu (l.map λ(k:Nat)=>qR (k:Int))<=1|[]=>⟨G,b6 _⟩|a::l=>⟨by show(aa&&BN _)=aa;rw[(lay_ints l).1];rfl,Vn.mpr ⟨b6 _,(lay_ints l).2⟩⟩
theorem AB:∀l:M (M Nat),BN (l.map g_)=aa/\Vu (l.map g_)<=2|[]=>⟨G,b6 _⟩|a::l=>⟨by show(BN (a.map λ(k:Nat)=>qR (k:Int))&&BN _)=aa;rw[(lay_ints a).1,(AB l).1];rfl,Vn.mpr ⟨Nat.succ_le_succ (lay_ints a).2,(AB l).2⟩⟩
theorem Ra(l:M (M Nat)):Bh (.list (l.map g_))=aa:=by
 unfold Bh;rw[show PyData.canLay0 (.list (l.map g_))=aa from(AB l).1,aP]
 .rfl
 have:=(AB l).2;show Vu (l.map g_)+1<=64;lia
def afR k m j:(!decide (rQ k j=rQ m j))=((cD k j).map (λx=>(x.1,x.2.time)) !=(cD m j).map λx=>(x.1,x.2.time)):=by
 have key:∀a b:M (Nat×bO),(a.map λx=>[x.1,x.2.time])=(b.map λx=>[x.1,x.2.time])↔a.map (λx=>(x.1,x.2.time))=b.map λx=>(x.1,x.2.time):=by
  intro a;induction a with
  |nil=>intro b;cases b<;>simp
  |cons x a ih=>
   intro b;cases b with
   |nil=>simp
   |cons y b=>simp only[b9,List.cons.injEq,By,ih b,and_true]
 unfold rQ;by_cases h:(cD k j).map (λx=>(x.1,x.2.time))=(cD m j).map λx=>(x.1,x.2.time)
 .rw[aP ((key _ _).mpr h),h];simp
 rw[aV (λz=>h ((key _ _).mp z))];simp[h]
inductive Rb c(vs:M V)H(Q:VK)(E:XK):Prop|mk(v1 v2:af)(js:M bw)(k m:M bO)(gs:M eE)(_:vs=[.ref v1,.ref v2])(_:gx c H v1 js k)(_:gx c H v2 js m)(_:∀(U:Hp)(p:af),ah H U->H p=ak->U p=I (.lst ((jy (qX k m js)++jy (vB k m js gs)).map V.int))->Q (.ref p) U)
def xy:gq ["before","after","journeys","principals","principal","number"] ["before","after"] (cz (top 151)):=iQ
structure Rc(K:aR)(mg:aj->aG aq):Prop where
 ex:∃a,mg "PRINCIPALS"=I (.ref a)/\gK K a (aK [1,2,3,4,5,6])
theorem afS(F:bf K "changes_between" (top 151) f fd)(L:Lo P w K mg ai c)(ar:Rc K mg):aM P w K mg ai aO 7 f fd ["before","after"] (Rb c):=by
 refine F.ok xy (λvs H Q E h=> ?_) (λa6 A b8 s H vs Q E hr h=> ?_)
 .obtain⟨v1,v2,js,k,m,gs,rfl,_⟩:=h;rfl
 obtain⟨v1,v2,js,kn,g0,gs,rfl,V1,V2,k⟩:=h;obtain⟨ta,hm,hT⟩:=ar.ex
 exists _,aC (rG (i:=2) G xy.nd G G G (cV (dU L.wX L.V.cl hr (pv 0))) (own:=[("number",5)]) (dY ["before","after","journeys","principals","principal","number"] (cz (top 151))) (by intro _ _ _ _ _;exact cE 5 xy.nd) (by intro _ _ _ _ _;exact j3 (bL (Np G hr.units) (cK L.Po L.V.cl hr (pv 0) (aB (pv 5))) (cK L.Po L.V.cl hr (pv 1) (aB (pv 5))))) (by intro _ _ _ _ _;exact pv 5))
  (aC (aY 3 xy.nd (br eT))
  (aC (fC eN G (Ci (fz (by rfl) hm (show RelV (.ref ta) _ from G))) (cE 4 xy.nd) (cA (bH (bL lG (dS (aT L.EI hr (aB (cK L.rR L.V.cl hr (pv 0) (aB (pv 4))))) aF) (dS (aT L.EI hr (aB (cK L.rR L.V.cl hr (pv 1) (aB (pv 4))))) aF)) (cA (fR (ee fq l7 nq lK (pv 3) (aB (pv 4))))) bG)))
  (aH (bP f6 (aT L.jn hr (aB (pv 2))) (aT L.jn hr (aB (pv 3)))))))
 obtain⟨d1,_,_,Gi⟩:=V1.ins;obtain⟨d2,_,_,Rf⟩:=V2.ins;have hl:=V1.ok.len;dsimp only[pW,jY,kK];refine oS (K:=K) ?_;refine⟨_,G,v1,d1,_,G,Gi,G,v1,js,kn,G,V1,λH1 p s1 hp ag=>⟨p,G,?_⟩⟩;refine qb js (λj=>V.int (j.number:Nat)) (λj=> !decide (rQ kn j=rQ g0 j)) (λj=>V.int (j.number:Nat)) (by lia) (az.of ag) (λj U Kt Kf hj s3 ht hf=> ?_) λH3 D s3 hD hd=> ?_
 .have a3:=s1.trans s3;refine⟨G,_,G,v1,d1,_,G,a3 _ _ Gi,G,_,G,v1,js,kn,j,G,V1.same a3,hj,λH4 p4 t4 s4 Hn afT afU e4 hl4=> ?_⟩;refine⟨_,G,v2,d2,_,G,s4 _ _ (a3 _ _ Rf),G,_,G,v2,js,g0,j,G,V2.same (a3.trans s4),hj,λH5 p5 t5 s5 bc c7 T5 e5 hl5=> ?_⟩;exists .list ((t4.map (·.2)).map g_),.list ((t5.map (·.2)).map g_),.lst (az.of (s5 _ _ afT)) (Gh λx hx=>s5 _ _ (afU x hx)),.lst (az.of c7) (Gh T5),Ra _,Ra _,_,G;rw[show Bj (.list ((t4.map (·.2)).map g_)) (.list ((t5.map (·.2)).map g_))=decide (t4.map (·.2)=t5.map (·.2)) from Q_ _ _,e4,e5];refine b4 (λh2=> ?_) (λh2=> ?_)
  .exists _,G,ht H5 (s4.trans s5) h2
  exact hf H5 (s4.trans s5) (by simpa using h2)
 have Gj:=s1.trans s3
 have eD:H3 D=I (.lst ((dW (qX kn g0 js)).map V.int)):=by rw[hd];unfold qX dW;rw[bQ,bQ,Bv (λj _=>afR kn g0 j)];rfl
 refine⟨b6 _,λz hz=> ?_⟩;have s4:ah H3 (upd H3 z (.lst [])):=ah.new hz;have hlen:∀i,((([1,2,3,4,5,6]:M Nat).take i).filter λp=>(kE kn js gs p).1 !=(kE g0 js gs p).1).length<=6:=λi=>cX (gV _ _) (cX (List.length_take_le' _ _) (aZ 6));exists ta,G,⟨_,hT.sq⟩,Xa (xs:=aK [1,2,3,4,5,6]) (λi σ U=>(∃v4 v5:aG V,σ=[I (.ref v1),I (.ref v2),I (.ref D),I (.ref z),v4,v5])/\ah H3 U/\U z=I (.lst (aK ((([1,2,3,4,5,6]:M Nat).take i).filter λp=>(kE kn js gs p).1 !=(kE g0 js gs p).1)))) ⟨⟨_,_,G⟩,s4,ay⟩ (λi σ U _ _=>hT.sq) (λi x σ U hi⟨⟨v4,v5,hσ⟩,s5,Gk⟩=> ?_) λσ U⟨⟨v4,v5,hσ⟩,s5,Gk⟩=> ?_
 .subst hσ;unfold aK at hi;rw[bF]at hi;obtain⟨pr,hpr,rfl⟩:=gP.mp hi;have t5:=Gj.trans s5;refine⟨_,G,v1,d1,_,G,t5 _ _ Gi,G,_,G,v1,_,_,pr,G,V1.same t5,λH6 xz ss s6 PN xI afV e6=> ?_⟩;refine⟨xz,ss,G,az.of xI,afV,λH7 tp Bs s7 o0 fb Fl ht=> ?_⟩;rw[Fj (gs:=gs) e6 fb Fl]at ht;have t7:=s6.trans s7;exists tp,_,_,_,G,G,bz.of ht,aW (j:=0) G;refine⟨_,G,v2,d2,_,G,t7 _ _ (t5 _ _ Rf),G,_,G,v2,_,_,pr,G,V2.same (t5.trans t7),λH8 afW ss8 rp hp8 afX afY GT=> ?_⟩;refine⟨afW,ss8,G,az.of afX,afY,λH9 tp9 Bs9 s9 amu afZ af0 Rg=> ?_⟩;rw[Fj (gs:=gs) GT afZ af0]at Rg;have Gm:=t7.trans (rp.trans s9);exists tp9,_,_,_,G,G,bz.of Rg,aW (j:=0) G,G,_,G;rw[ff];have l4:=Gm _ _ Gk;have hW:([1,2,3,4,5,6]:M Nat).take (i+1)=([1,2,3,4,5,6]:M Nat).take i++[pr]:=by rw[BL,hpr];rfl
  rw[hW,U3];refine b4 (λh1=> ?_) (λh1=> ?_)
  .have aw:((kE kn js gs pr).1 !=(kE g0 js gs pr).1)=aa:=by simpa using h1
   exists _,G,.inl ⟨G,_,az.of l4⟩,_,G,z,_,_,G,G,l4,?_,⟨_,_,G⟩,λx o e=> ?_
   .have:=hlen i;rw[fT,cY];lia
   .rw[aD (b_ e hz)];exact Gm _ _ (s5 _ _ e)
   rw[ay,kD,av aw,wH];rfl
  have aw:¬((kE kn js gs pr).1 !=(kE g0 js gs pr).1)=aa:=by simpa using h1
  exact⟨⟨_,_,G⟩,s5.trans Gm,by rw[l4,kD,au aw,List.filter_nil,jT]⟩
 subst hσ
 have amv:(dW (qX kn g0 js)).length<=1000:=by unfold dW qX;rw[aE,aE];exact cX (gV _ _) (by lia)
 have hh:U z=I (.lst ((dW (vB kn g0 js gs)).map V.int)):=by rw[Gk];show I (HO.lst (aK (vB kn g0 js gs)))=_;rw[j7];rfl
 have hh6:(dW (vB kn g0 js gs)).length<=6:=by unfold dW;rw[aE];exact hlen 6
 refine⟨_,G,D,_,G,s5 _ _ eD,by lia,λH6 xz s6 PN xI=> ?_⟩;refine⟨_,G,z,_,G,s6 _ _ hh,by lia,λH7 Gn s7 hp7 Gp=> ?_⟩;exists xz,Gn,_,_,G,G,s7 _ _ xI,Gp,?_,λy hy=>k _ y (Gj.trans (s5.trans (s6.trans (s7.trans (ah.new hy))))) ?_ ?_
 .rw[aE,aE,bT,bT,cY];lia
 .exact(Gj.trans (s5.trans (s6.trans s7))).free hy
 rw[ay,<-dH];rfl
def Gq:dN->M Int->M Int->M Int->Prop:=λh _ rw out=>rw.length<=20000/\out=match iM 1200 rw with
 |none=>[-1]
 |some t=>match i_ t with
  | .error e=>[-5]| .ok l=>if(l.all λn=>(ny h n.journey).isSome)=ao then [-3]else 0::(jy (qX (bq h) (mw l (bq h)) h.journeys)++jy (vB (bq h) (mw l (bq h)) h.journeys h.guarantees))
theorem af1(F:bf K "ask_would" (top 152) f fd)(L:Lo P w K mg ai c)(Z:j8 mg)(LT:qt K mg)(N:xx K q.L)(hI:Def P w K mg ai 3 "is_text" ["row"] (z6 K))(hL:Def P w K mg ai 5 "read_letter" ["text"] (Az K c q))(hC:Def P w K mg ai 7 "changes_between" ["before","after"] (Rb c)):
  aM P w K mg ai aO 8 f fd dh (fj K c Gq):=by
 refine F.aX ["book","numbers","row","letter"] (λS H vs Q E hr h=> ?_);obtain⟨b,n,r,h,ns,rw,out,rfl,BA,IR,c8,⟨cd,ax⟩,k⟩:=h
 exists _,aC (bH (gY (fQ (aT hI hr (aB (pv 2))))) (aH (br (aB (bM G Z.fF)))) bG) (aC (aY 3 S (aT hL hr (aB (pv 2)))) (aC (bH (bL lG (aS 3) (bM G LT.xw)) (aH (br (aB (bM G Z.PK)))) bG) (aC (bH (gY (fQ (cK L.Pk L.B.cl hr (pv 0) (aB (aS 3))))) (aH (br (aB (bM G Z.E4)))) bG) (aH (bP f6 (br (aB aF)) (aT hC hr (bu (dU L.now L.B.cl hr (pv 0)) (cK L.adE L.B.cl hr (pv 0) (aB (aS 3))))))))));refine⟨_,G,r,rw,G,c8,cd,λH1 s1=>⟨_,G,?_⟩⟩;rw[(uI rw).1];cases e:iM 1200 rw with
 |none=>rw[e]at ax;subst ax;exact bK ⟨(by decide),λq hq=>k _ q (s1.trans (ah.new hq)) ay⟩
 |some bs=>
  rw[e]at ax;simp only at ax;obtain⟨e1,e2⟩:=(uI rw).2 bs e;refine bX ⟨_,G,r,bs,G,(by have:=s1.seq c8;rw[e1]at this;rw[j7];exact this),by lia,λH2 z s2⟨dz,l,an,ft,pl,z1,z2,T,z3⟩=> ?_⟩;have a1:=s1.trans s2;exists _,G,z,q.L,dz,_,_,G,z1,N.cl,N.fault,G,G,_,G;rw[show(!decide (V.int (ft:Int)=V.int 0))= !decide (ft=0) from cC (!·) (ff _ 0)];cases cj:i_ bs with
  |error e=>rw[cj]at ax z3;subst ax;rw[aV z3.2.2];exact bK ⟨(by decide),λq hq=>k _ q (a1.trans (ah.new hq)) ay⟩
  |ok l'=>
   rw[cj]at ax z3;simp only at ax;obtain⟨y1,Hm,y3⟩:=z3;obtain⟨k1,k2⟩:=Q9 cj
   have dV:an.length<=100:=by rw[<-aE,y3];have:alT=10:=rfl;lia
   rw[aP y1];obtain⟨dA,_,_,_,hb⟩:=BA.ins;refine bX ⟨_,G,b,dA,_,G,a1 _ _ hb,G,_,G,z,q.L,dz,_,_,G,z1,N.cl,N.told,G,b,l,h,an,G,BA.same a1,az.of z2,T,λH3 s3=>⟨_,G,?_⟩⟩;rw[y3];have a3:=a1.trans s3;cases ea:z_ h l' with
   |false=>rw[av (show(l'.all λn=>(ny h n.journey).isSome)=ao from ea)]at ax;subst ax;exact bK ⟨(by decide),λq hq=>k _ q (a3.trans (ah.new hq)) ay⟩
   |true=>
    rw[au (λz=>by rw[show(l'.all λn=>(ny h n.journey).isSome)=aa from ea]at z;cases z)]at ax;refine bX ⟨(by decide),λa ha=> ?_⟩;have s4:ah H3 (upd H3 a (.lst [.int 0])):=ah.new ha;have cw:=a3.trans s4;refine⟨_,G,b,dA,_,G,cw _ _ hb,G,b,h,G,BA.same cw,λH5 v5 s5 af2=> ?_⟩;have oT:=cw.trans s5;have gN:=s3.trans (s4.trans s5);refine⟨_,G,b,dA,_,G,oT _ _ hb,G,_,G,z,q.L,dz,_,_,G,gN _ _ z1,N.cl,N.told,G,b,l,h,an,G,BA.same oT,az.of (gN _ _ z2),T.same gN,dV,by rw[y3];exact k1,λH6 v6 s6 V6=> ?_⟩;rw[y3]at V6;refine⟨v5,v6,h.journeys,_,_,h.guarantees,G,af2.same s6,V6,λH7 Gn s7 hp7 Gp=> ?_⟩;exists a,Gn,_,_,G,G,s7 _ _ (s6 _ _ (s5 _ _ ay)),Gp,?_,λx hx=>k _ x (oT.trans (s6.trans (s7.trans (ah.new hx)))) ?_
    .have Fg:=BA.ok.js.len
     have m1:(qX (bq h) (mw l' (bq h)) h.journeys).length<=1000:=by unfold qX;rw[aE];exact cX (gV _ _) (by lia)
     have m2:(vB (bq h) (mw l' (bq h)) h.journeys h.guarantees).length<=6:=cX (gV _ _) (aZ 6);unfold jy pM I0;simp only[aE,bD,bT,ng];rw[cY];lia
    rw[ay,ax];rfl
def af3:aG aq->Array aq|none=> #[]|some v=> #[v,v]
def r8(d:aq):M (aj×aq):=[("default",d)]
def AE:(toString "max"++toString ".loop":String)="max.loop":=by decide
variable{prog:bY}{A:eZ}{ab:af}{fp wr:M af}{P:Nat->aq->Prop}{St:Nat->bB->Prop}
theorem af4{R:u0->aI->Prop}{d:aq}(W:x_ prog w A.in1 ab fp wr n P St)cq(cmp:CmpOf prog w A.in1 .Gt P cq)B(Gr:B∉fp):
  ∀k j s ob c,n-j=k->j<=n->St j s.heap->(∀i,j=i+1->∃vb,ob=I vb/\P (vC cq i) vb)->(j=0->ob=ak)->s.heap.get? B=I {cls:=.type "list",dict:=ak,data:=.seq (af3 ob) c,slots:= #[]}->
  (∀v h' tk,(n=0->v=d)->(0<n->P (vC cq (n-1)) v)->(∀b o,b∉wr->b≠B->s.heap.get? b=I o->h'.get? b=I o)->R (.ok (.ret v)) {s with heap:=h',toks:=tk})->
  l0 (aL prog w) A (.builtin "max.loop" ⟨[.ref ab,.none,.ref B],r8 d⟩) R s:=by
 have uH:=λh=>Gr (W.sub _ h);intro k;induction k with
 |zero=>
  intro j s ob c hk hj bi hU h0 hB hR;have de:j=n:=by lia
  refine sZ alU ?_;rw[vm yC _];refine aA (lz hB G ?_);show aJ _ A.in1 (tryCatch (lZ (.ref ab)) _>>=_) _ _ s;refine aA (Vv (W.done s _ _ (de▸bi) λh1 tk kf=> ?_));have fb:=kf B _ uH hB;cases j with
  |zero=>rw[h0 G]at hB fb⊢;exact aA (sX (aN (hR d h1 tk (λ_=>G) (λz=>aU z (by lia)) λb o q1 q2 e=>kf b o q1 e)))
  |succ i=>obtain⟨vb,rfl,Kk⟩:=hU i G;exact aA (yt fb G (aA (s_ (aN (hR vb _ tk (λz=>aU z (by lia)) (λ_=>by rw[<-de];exact Kk) λb o q1 q2 e=>(pq _ _ (ie q2)).trans (kf b o q1 e))))) (hz:=(by show 2<=sizeLine;decide)))
 |succ k ih=>
  intro j s ob c hk hj bi hU h0 hB hR;have al:j<n:=by lia
  refine sZ alU ?_;rw[vm yC _];refine aA (lz hB G ?_);show aJ _ A.in1 (tryCatch (lZ (.ref ab)) _>>=_) _ _ s;refine aA (Vv (W.item j s _ _ al bi λv h1 tk hP pw kf=> ?_));have fb:=kf B _ uH hB;cases j with
  |zero=>
   rw[h0 G]at hB fb⊢;show aJ _ A.in1 (updateSeq B (λ_=> #[v,v])>>=_) _ _ _;refine aA (yt fb G ?_);rw[AE];refine aN ⟨qT yC _,ih 1 _ (I v) _ (by lia) al (W.frame _ _ _ pw λb hb o e=> ?_) (λi hi=>⟨v,G,by rw[show i=0 by lia];exact hP⟩) (λz=>by cases z) (oh _ fb G) λv2 h2 y2 q1 q2 px=> ?_⟩
   .exact(pq _ _ (λh:B=b=>Gr (by rw[h];exact hb))).trans e
   exact hR v2 h2 y2 q1 q2 λb o p1 p2 e=>px b o p1 p2 ((pq _ _ (ie p2)).trans (kf b o p1 e))
  |succ i=>
   obtain⟨vb,rfl,Kk⟩:=hU i G;show aJ _ A.in1 (tryCatch (holding [v,v] (Uw .Gt v vb>>=_)) _>>=_) _ _ _;refine aA (Vv (pD (aA (cmp (i+1) (vC cq i) v vb _ _ _ hP Kk (aA (pD (nc (aA (s_ (aN ?_))))))))));cases hb:cq (i+1) (vC cq i)with
   |true=>
    simp only[l5];refine aA (yt fb G (aA (s_ ?_)) (hz:=(by show 2<=sizeLine;decide)));rw[AE];refine aN ⟨qT yC _,ih (i+2) _ (I v) _ (by lia) al (W.frame _ _ _ pw λb hb o e=> ?_) (λi' hi=>⟨v,G,by rw[show i'=i+1 by lia];unfold vC;rw[hb,av G];exact hP⟩) (λz=>by cases z) (oh _ fb G) λv2 h2 y2 q1 q2 px=> ?_⟩
    .exact(pq _ _ (λh:B=b=>Gr (by rw[h];exact hb))).trans e
    exact hR v2 h2 y2 q1 q2 λb o p1 p2 e=>px b o p1 p2 ((pq _ _ (ie p2)).trans (kf b o p1 e))
   |false=>simp only[sO,l6];refine aA (s_ ?_);rw[AE];exact aN ⟨qT yC _,ih (i+2) _ (I vb) c (by lia) al pw (λi' hi=>⟨vb,G,by rw[show i'=i+1 by lia];unfold vC;rw[hb,au (by decide)];exact Kk⟩) (λz=>by cases z) fb λv2 h2 y2 q1 q2 px=>hR v2 h2 y2 q1 q2 λb o p1 p2 e=>px b o p1 p2 (kf b o p1 e)⟩
def af5 a d:vn "max" ⟨[a],r8 d⟩:=by unfold vn;kernel_rfl
def af6 d:ank "max" ["key","default"] 0 ⟨[],r8 d⟩=pure [ak,I d]:=rfl
variable{E:aq->aI->Prop}{s:aI}{d:Int}
def af7{xs:Array (Int×alV)}{t:alV}{Q:aq->aI->Prop}(hh:A.handled=ak)(hl:s.heap.IsList l (sM xs))
  (h:∀v h' tk,(xs.size=0->v= .int d t)->(0<xs.size->(sM xs)[vC (λi j=>decide (Bf xs i>Bf xs j)) (xs.size-1)]? =I v)->(∀b o,s.heap.get? b=I o->h'.get? b=I o)->Q v {s with heap:=h',toks:=tk}):
  aJ (aL prog w) A (call (.builtin "max") [.ref l] (r8 (.int d t))) Q E s:=by
 refine H_ (ald F.plain_max F.entry_max ?_)
 have main:aJ (aL prog w) A.in1 (Builtin.«max» ⟨[.ref l],r8 (.int d t)⟩) (λfin s'=>match fin with
   | .done f=>(match(vA f:u0)with| .ok (.ret v)=>Q v s'| .ok _=>False| .error e=>E e s')
   | .again c'=>c'.quiet=aa/\l0 (aL prog w) A c' (λr s'=>match r with| .ok (.ret v)=>Q v s'| .ok _=>False| .error e=>E e s') s') E s:=by
  refine aA (yd (af6 _) (aA (aN ?_)));refine aA (iter_intList hl λs2 e st mf hlI=> ?_);subst e;refine aA (jv ?_);rw[AE];have W:=UG (prog:=prog) (w:=w) (A:=A.in1) hh _ l hlI (sM xs);have ba:(sM xs).size=xs.size:=by simp[sM]
  refine aN ⟨qT yC _,af4 W _ (CmpOf.ints_gt (Bf xs) (λ_ _=>UE)) _ (λhm=>kh _ (mf _ hm)) _ 0 _ ak 0 G (b6 _) (W.frame _ _ _ st λb _ o e=>cu _ e) (λi hi=>by cases hi) (λ_=>G) (di _ G) λv h' tk q1 q2 hk=> ?_⟩;rw[ba]at q1 q2;exact h v h' tk q1 (λz=>q2 z) (old_kept λb o hbw e=>hk b o hbw (d_ (cH e)) (cu _ e))
 simp only[alb,F.kind_max];cases af8:Manifest.signature? "max"with
 |none=>exact aN main
 |some sig=>have ha:=af5 (.ref l) (.int d t);simp only[vn,af8]at ha;show aJ _ A.in1 (alW "max" sig ⟨[.ref l],r8 (.int d t)⟩) _ _ s;rw[show alW "max" sig ⟨[.ref l],r8 (.int d t)⟩=pure () from ha];exact aN main
def Rh(K:aR)(d:Int)(ta:TA):TE:=λσ H Q=>ta σ H λvs H1=>∃(a:af)(ns:M Int),vs=[.ref a]/\az K H1 a (ns.map V.int)/\∀m,(ns=[]->m=d)->(ns≠ []->m∈ns/\∀y,y∈ns->y<=m)->Q (.int m) H1
theorem af9{e Ri:bE}{ta:TA}{p kp:fG}(hc:X.calm=aa)(hg:Gl X "max")(hm:X.mg "max"=ak)(ha:PA X [e] ta)(hv:PE X Ri (tC (.int d)))
  (hs:fH pos (bS [e] X.env)=(ao,eval e X.env)::fH pos (bS [] X.env):=by rfl)(hp:(fH pos (bS [e] X.env)).any (·.1)=ao:=by rfl):
  PE X (.Call (.Name "max" p) [e] [⟨I (m6 "default"),Ri,kp⟩] pos) (Rh X.K d ta):=by
 intro pins s σ H R ab h;refine xS (rj ab hg hm boot_max (callWith_builtin_kwB hp G ?_));rw[hs];refine evalArgs_kwB G ?_;have Rj:=ha pos;rw[hs]at Rj;refine a_ (Rj pins s σ H _ ab h) λus s1⟨vs,H1,I1,r1,q1⟩=> ?_;obtain⟨a,ns,ex,hq,q⟩:=q1;subst ex;cases r1 with
 |cons r rr=>
  cases rr;cases r;refine kws_cons (a_ (hv pins s1 σ H1 (λx H2=>x= .int d/\H2=H1) I1 ⟨G,G⟩) λu s2⟨x,H2,I2,rx,ex,wf⟩=> ?_);subst ex wf;obtain⟨t,rfl⟩:=rx;refine kws_nil ?_;obtain⟨ad,rv,hl,_⟩:=I2.list hq;have hi:=rv.ints;obtain⟨xs,Rk⟩:=hi.allInts.items;have hn:numsOf (sM xs).toList=ns:=by rw[<-Rk];exact hi.numsOf
  rw[UD]at hn;have db:=hl.isList;rw[Rk]at db;refine af7 (I2.ok.hd hc) db λv h' tk q1 q2 hk=> ?_;have hlen:ns.length=xs.size:=by rw[<-hn,aE,fk]
  have I3:Inv X pins σ H2 {s2 with heap:=h',toks:=tk}:=I2.kept hk;by_cases hz:xs.size=0
  .rw[q1 hz];exact⟨.int d,H2,I3,⟨t,G⟩,q d (λ_=>G) λz=>aU (yx (by lia)) z⟩
  obtain⟨t',rfl⟩:=UE (q2 (by lia));obtain⟨h1,h2⟩:=argBest_gt (Bf xs) (xs.size-1);refine⟨.int _,H2,I3,⟨t',G⟩,q _ (λz=>aU (by rw[<-hlen,z];rfl) hz) λ_=>⟨?_,λy hy=> ?_⟩⟩
  .rw[<-hn,Ie];exact akc (by rw[aE,fk];lia)
  rw[<-hn]at hy;obtain⟨j,hj,rfl⟩:=mem_getD hy;rw[aE,fk]at hj;rw[<-Ie];exact h2 j (by lia)
end Sp
namespace Sp
open PySem PySem.Spec PyProof.Rows L2 Sg
open Sg (Ch within1)
structure xA(K:aR)(C:af):Prop where
 cl:fK K C
 begin_:cF K C "begin"
 end_:cF K C "end"
 share:cF K C "share"
 total:cF K C "total"
structure xB(K:aR)(C:af):Prop where
 cl:fK K C
 w_:cF K C "minutes"
 Gs:cF K C "greatest"
noncomputable def r9(x:eO×Nat)(Gu:Nat):M (aj×V):=[("begin",.int (x.2:Nat)),("end",.int ((x.2+x.1.length:Nat):Int)),("share",.int (x.1.share:Nat)),("total",.int (Gu:Nat))]
def o5(q:cW)(H:Hp)(a:af)(x:eO×Nat)(Gu:Nat):Prop:=∃dx,H a=I (.ins q.Y dx (r9 x Gu))
variable{q:cW}{H:Hp}{a:af}{x:eO×Nat}{t:Nat}
def o5.same{U:Hp}(h:o5 q H a x t)(s:ah H U):o5 q U a x t:=by obtain⟨dx,h1⟩:=h;exists dx,s _ _ h1
def o5.upd{q:cW}{H:Hp}{a b:af}{x:eO×Nat}{t:Nat}{xs:M V}{o:HO}(h:o5 q H a x t)(hb:H b=I (.lst xs)):o5 q (upd H b o) a x t:=by obtain⟨dx,h1⟩:=h;exact⟨dx,by rw[aD (λz=>by rw[z,hb]at h1;cases h1)];exact h1⟩
inductive Rl(q:cW)(vs:M V)(H:Hp)(Q:VK)(E:XK):Prop|mk(p dx:af)(x:eO×Nat)(t:Nat)(_:vs=[.ref p,.int (x.2:Nat),.int ((x.2+x.1.length:Nat):Int),.int (x.1.share:Nat),.int (t:Nat)])(_:H p=I (.ins q.Y dx []))(_:∀U,U p=I (.ins q.Y dx (r9 x t))->(∀b o,H b=I o->b≠p->U b=I o)->Q .bx U)
variable{P:bY}{w:bR}{K:aR}{mg:aj->aG aq}{ai:bB}{f:af}{fd:gC}
def af_(F:dg K "__init__" "Stay.__init__" Jq f fd)(N:xA K q.Y):aM P w K mg ai aO 1 f fd ["self","begin","end","share","total"] (Rl q):=by refine F.aX ["self","begin","end","share","total"] (λS H vs Q E hr h=> ?_);obtain⟨p,dx,x,t,rfl,hp,k⟩:=h;exists _,aC (cR (pv 0) (pv 1) G) (aC (cR (pv 0) (pv 2) G) (aC (cR (pv 0) (pv 3) G) (cA (cR (pv 0) (pv 4) G)))),_,G,_,G,p,q.Y,dx,_,G,hp,N.cl,N.begin_,(by decide),_,G,_,G,p,q.Y,dx,_,G,ay,N.cl,N.end_,(by show 1<1000;decide),_,G,_,G,p,q.Y,dx,_,G,ay,N.cl,N.share,(by show 2<1000;decide),_,G,_,G,p,q.Y,dx,_,G,ay,N.cl,N.total,(by show 3<1000;decide);refine k _ (by rw[ay];rfl) λb o e hb=> ?_;rw[aD hb,aD hb,aD hb,aD hb];exact e
def Rm(l:af)(g:Nat):M (aj×V):=[("minutes",.ref l),("greatest",.int (g:Nat))]
inductive Gv(q:cW)(vs:M V)(H:Hp)(Q:VK)(E:XK):Prop|mk p l dx g(_:vs=[.ref p,.ref l,.int (g:Nat)])(_:H p=I (.ins q.A dx []))(_:∀U,U p=I (.ins q.A dx (Rm l g))->(∀b o,H b=I o->b≠p->U b=I o)->Q .bx U)
def aga(F:dg K "__init__" "Plan.__init__" Jr f fd)(N:xB K q.A):aM P w K mg ai aO 1 f fd ["self","minutes","greatest"] (Gv q):=by refine F.aX ["self","minutes","greatest"] (λS H vs Q E hr h=> ?_);obtain⟨p,l,dx,g,rfl,hp,k⟩:=h;exists _,aC (cR (pv 0) (pv 1) G) (cA (cR (pv 0) (pv 2) G)),_,G,_,G,p,q.A,dx,_,G,hp,N.cl,N.w_,(by decide),_,G,_,G,p,q.A,dx,_,G,ay,N.cl,N.Gs,(by show 1<1000;decide);refine k _ (by rw[ay];rfl) λb o e hb=> ?_;rw[aD hb,aD hb];exact e
structure iW(q:cW)(H:Hp)(as:M af)(l:Ch)(ej:M Nat):Prop where
 len:as.length=l.length
 tl:ej.length=l.length
 at_:∀(j:Nat)(a:af)(x:eO×Nat)(t:Nat),as[j]? =I a->l[j]? =I x->ej[j]? =I t->o5 q H a x t
def iW.same{H U:Hp}{as:M af}{l:Ch}{ej:M Nat}(h:iW q H as l ej)(s:ah H U):iW q U as l ej:=⟨h.len,h.tl,λj a x t h1 h2 h3=>(h.at_ j a x t h1 h2 h3).same s⟩
def iW.upd{H:Hp}{as:M af}{l:Ch}{ej:M Nat}{b:af}{xs:M V}{o:HO}(h:iW q H as l ej)(hb:H b=I (.lst xs)):iW q (upd H b o) as l ej:=⟨h.len,h.tl,λj a x t h1 h2 h3=>(h.at_ j a x t h1 h2 h3).upd hb⟩
theorem xC{α:Type}{l:M α}{a x:α}{j:Nat}(h:(l++[a])[j]? =I x):l[j]? =I x\/(j=l.length/\x=a):=by
 obtain z|z:=i9 j l.length
 .rw[xU z]at h;exact .inl h
 have:=(eL.mp h).1;rw[bD,Bd]at this;have e:j=l.length:=by lia
 subst e;rw[vc (aZ _),uR]at h;exact .inr ⟨G,(cG h).symm⟩
theorem iW.snoc{as:M af}{l:Ch}{ej:M Nat}(h:iW q H as l ej)(ha:o5 q H a x t):iW q H (as++[a]) (l++[x]) (ej++[t]):=by
 refine⟨by rw[bD,bD,h.len];rfl,by rw[bD,bD,h.tl];rfl,λj b y u h1 h2 h3=> ?_⟩;have e1:=h.len;have e2:=h.tl;obtain g1|⟨g1,rfl⟩:=xC h1
 .have:=(eL.mp g1).1;obtain g2|⟨g2,_⟩:=xC h2
  .obtain g3|⟨g3,_⟩:=xC h3
   .exact h.at_ j b y u g1 g2 g3
   lia
  lia
 obtain g2|⟨g2,rfl⟩:=xC h2
 .have:=(eL.mp g2).1;lia
 obtain g3|⟨g3,rfl⟩:=xC h3
 .have:=(eL.mp g3).1;lia
 exact ha
def Rn{c:TT}{t u:TS}{D:mH}{σ:L2.St}b(h:∀K':Bool->Hp->Prop,K' b H->c σ H K')(k:if b=aa then t D σ H else u D σ H):Cc c t u D σ H:=h (λb H1=>if b=aa then t D σ H1 else u D σ H1) k
theorem dec_lt(a b c:Nat):decide ((a:Int)<(b:Int)+(c:Nat))=decide (a<b+c):=by
 by_cases z:a<b+c
 .rw[aP z,aP (by lia)]
 rw[aV z,aV (by lia)]
def gA(as:M af):M V:=as.map V.ref
def qv(l:Ch)(p:eO)(m:Nat)(x:eO×Nat):Nat:=fu l x.2+if within1 (p,m) x.2=aa then p.share else 0
inductive Gw K(q:cW)(vs:M V)H(Q:VK)(E:XK):Prop|mk(sl pa:af)(m:Nat)(as:M af)(l:Ch)(p:eO)(_:vs=[.ref sl,.ref pa,.int (m:Nat)])(_:az K H sl (gA as))(_:iW q H as l (oY l))(_:rW q H pa p)(_:1<=p.length)(_:l.length<=1000)(_:∀(U:Hp)(z:af)(tJ:M af),ah H U->H z=ak->U z=I (.lst (gA tJ))->iW q U tJ (l++[(p,m)]) (oY (l++[(p,m)]))->Q (.ref z) U)
def r_:gq ["stays","planned","begin","end","after","total","stay","raised"] ["stays","planned","begin"] (cz (top 116)):=iQ
theorem agb(F:bf K "with_stay" (top 116) f fd)(N:xA K q.Y)(NP:w9 K q.P)(hS:Cons P w K mg ai 1 "Stay" ["self","begin","end","share","total"] (Rl q) q.Y):aM P w K mg ai aO 3 f fd ["stays","planned","begin"] (Gw K q):=by
 refine F.ok r_ (λvs H Q E h=> ?_) (λa6 A b8 s H vs Q E hr h=> ?_)
 .obtain⟨sl,pa,m,as,l,p,rfl,_⟩:=h;rfl
 obtain⟨sl,pa,m,as,l,p,rfl,mN,T,hP,Ro,Gx,k⟩:=h
 exists _,aC (aY 3 r_.nd (bP fY (pv 2) (aS 1))) (aC (aY 4 r_.nd (br eT)) (aC (aY 5 r_.nd (aS 1)) (aC (fC eN G (cV (pv 0)) (cE 6 r_.nd) (aC (aY 7 r_.nd (lC (tU gG pY (pv 2) (aS 6) (pv 3)) (bP fY (aS 6) (aS 1)) (aS 6))) (aC (fR (ee fq l7 nq lK (pv 4) (aB (gw hS hr (dw (aS 6) (cg (aS 6) (aS 6) (pv 7))))))) (cA (bH (tU gG pY (aS 6) (pv 2) (aS 6)) (cA (Cf (i:=5) r_.nd G (cO G) (aS 6) Cg)) bG))))) (aC (fR (ee fq l7 nq lK (pv 4) (aB (gw hS hr (dw (pv 2) (cg (pv 3) (aS 1) (pv 5))))))) (aH (pv 4))))));obtain⟨lI,ml,hp,me⟩:=hP;have Qz:(Ai p ml).lookup ("duration":aj)=I (V.int (p.length:Nat)):=rfl;have x0:(Ai p ml).lookup ("share":aj)=I (V.int (p.share:Nat)):=rfl;refine⟨_,G,_,G,pa,q.P,lI,_,_,G,hp,NP.cl,NP.Qe,Qz,_,_,G,G,b6 _,λz hz=> ?_⟩;have s0:ah H (upd H z (.lst [])):=ah.new hz;exists _,G,pa,q.P,lI,_,_,G,s0 _ _ hp,NP.cl,NP.share,x0;have dV:=T.len;have T0:=T.tl;refine⟨_,G,sl,G,⟨_,s0.seq mN⟩,jD (xs:=gA as) (λi σ U=>∃(na:M af)(v6 v7:aG V),σ=[I (.ref sl),I (.ref pa),I (.int (m:Nat)),I (.int ((m:Int)+(p.length:Nat))),I (.ref z),I (.int ((p.share+fu (l.take i) m:Nat):Int)),v6,v7]/\ah H U/\U z=I (.lst (gA na))/\iW q U na (l.take i) ((l.take i).map (qv l p m))) ⟨[],ak,ak,G,s0,ay,⟨G,G,λj a x t h=>by simp at h⟩⟩ (λi σ U _⟨_,_,_,_,s1,_⟩=>s1.seq mN) (λi x σ U hi⟨na,v6,v7,hσ,s1,pu,TA⟩=> ?_) λσ U⟨na,v6,v7,hσ,s1,pu,TA⟩=> ?_⟩
 .subst hσ;unfold gA at hi;rw[bF]at hi;obtain⟨a,ha,rfl⟩:=gP.mp hi;have Rp:i<l.length:=by have:=(eL.mp ha).1;lia
  have hx:l[i]? =I l[i]:=bg Rp;generalize l[i]=x at hx
  have agc:(oY l)[i]? =I (fu l x.2):=by unfold oY;rw[bF,hx];rfl
  obtain⟨da,hA⟩:=(T.at_ i a x _ ha hx agc).same s1;have Ro:=s1 _ _ hp;have KB:(r9 x (fu l x.2)).lookup ("begin":aj)=I (V.int (x.2:Nat)):=rfl;have pb:(r9 x (fu l x.2)).lookup ("end":aj)=I (V.int ((x.2+x.1.length:Nat):Int)):=rfl;have fs:(r9 x (fu l x.2)).lookup ("share":aj)=I (V.int (x.1.share:Nat)):=rfl;have ft:(r9 x (fu l x.2)).lookup ("total":aj)=I (V.int ((fu l x.2:Nat):Int)):=rfl;refine r5 ?_;dsimp only;refine Q3 (.int ((qv l p m x:Nat):Int)) (λK' hK=> ?_) ?_
  .refine Q2 (within1 (p,m) x.2) (λagd ib=> ?_) ?_
   .unfold within1 at ib;exists _,G,_,G,a,q.Y,da,_,_,G,hA,N.cl,N.begin_,KB,_,_,G,G,_,G;refine b4 (λh1=> ?_) (λh1=> ?_)
    .have a0:m<=x.2:=by have:=c_ h1;lia
     exists _,G,_,_,G,G,_,G;rw[aP a0,eB]at ib;rw[dec_lt];exact ib
    have a0:¬m<=x.2:=λz=>h1 (aP (by lia));rw[aV a0,ig]at ib;exists _,G,ib
   unfold qv at hK;refine b4 (λh1=> ?_) (λh1=> ?_)
   .rw[av h1]at hK;exists _,G,a,q.Y,da,_,_,G,hA,N.cl,N.total,ft,_,G,pa,q.P,lI,_,_,G,Ro,NP.cl,NP.share,x0,_,_,G,G,hK
   rw[au h1]at hK;exists _,G,a,q.Y,da,_,_,G,hA,N.cl,N.total,ft,hK
  exists _,G,.inl ⟨G,_,az.of pu⟩,_,G,a,q.Y,da,_,_,G,hA,N.cl,N.begin_,KB,_,G,a,q.Y,da,_,_,G,hA,N.cl,N.end_,pb,_,G,a,q.Y,da,_,_,G,hA,N.cl,N.share,fs,_,G;refine λy dy hy Gy aw=>⟨y,dy,x,qv l p m x,G,ay,λH9 h9 k9=>⟨G,?_⟩⟩;have s9:ah U H9:=ah.made hy Gy k9;have l4:=s9 _ _ pu;exists z,_,_,G,G,l4,?_
  .unfold gA;have:=TA.len;rw[aE,this,gT,cY];lia
  have Gz:upd H9 z (.lst (gA na++[.ref y])) a=I (.ins q.Y da (r9 x (fu l x.2))):=by rw[aD (λe=>by rw[e,pu]at hA;cases hA)];exact s9 _ _ hA
  have hW:l.take (i+1)=l.take i++[x]:=by rw[BL,hx];rfl
  have sH:ah H (upd H9 z (.lst (gA na++[.ref y]))):=λb o e=>by rw[aD (b_ e hz)];exact s9 _ _ (s1 _ _ e)
  have Ee:upd H9 z (.lst (gA na++[.ref y])) z=I (.lst (gA (na++[y]))):=by rw[ay];unfold gA;rw[dH];rfl
  have Rq:iW q (upd H9 z (.lst (gA na++[.ref y]))) (na++[y]) (l.take (i+1)) ((l.take (i+1)).map (qv l p m)):=by rw[hW,dH];exact((TA.same s9).snoc ⟨dy,h9⟩).upd l4
  dsimp only;refine Rn (within1 x m) (λagd ib=> ?_) ?_
  .unfold within1 at ib;exists _,G,a,q.Y,da,_,_,G,Gz,N.cl,N.begin_,KB,_,G,_,_,G,G,_,G;refine b4 (λh1=> ?_) (λh1=> ?_)
   .have a0:x.2<=m:=by have:=c_ h1;lia
    exists _,G,a,q.Y,da,_,_,G,Gz,N.cl,N.end_,pb,_,_,G,G,_,G;rw[aP a0,eB]at ib;rw[show((x.2+x.1.length:Nat):Int)=(x.2:Int)+(x.1.length:Nat) by lia,dec_lt];exact ib
   have a0:¬x.2<=m:=λz=>h1 (aP (by lia));rw[aV a0,ig]at ib;exists _,G,ib
  refine b4 (λh1=> ?_) (λh1=> ?_)
  .exists _,G,_,G,a,q.Y,da,_,_,G,Gz,N.cl,N.share,fs,_,_,G,G,na++[y],I (.ref a),I (.int ((qv l p m x:Nat):Int)),?_,sH,Ee,Rq;rw[hW,w5,Sg.Ab,av h1];show [I (V.ref sl),I (V.ref pa),I (V.int (m:Nat)),I (V.int ((m:Int)+(p.length:Nat))),I (V.ref z),I (V.int ((p.share+fu (l.take i) m:Nat)+(x.1.share:Nat):Int)),I (V.ref a),I (V.int ((qv l p m x:Nat):Int))]=_;rw[show(((p.share+fu (l.take i) m:Nat):Int)+(x.1.share:Nat))=((p.share+(fu (l.take i) m+x.1.share):Nat):Int) by lia]
  exists na++[y],I (.ref a),I (.int ((qv l p m x:Nat):Int)),?_,sH,Ee,Rq;rw[hW,w5,Sg.Ab,au h1,IZ];rfl
 subst hσ;rw[show(gA as).length=l.length by unfold gA;rw[aE,dV],i8]at TA⊢;have hp9:=s1 _ _ hp;exists _,G,.inl ⟨G,_,az.of pu⟩,_,G,_,G,_,G,pa,q.P,lI,_,_,G,hp9,NP.cl,NP.share,x0,_,G;refine λy dy hy Gy aw=>⟨y,dy,(p,m),p.share+fu l m,?_,ay,λH9 h9 k9=>⟨G,?_⟩⟩
 .rfl
 have s9:ah U H9:=ah.made hy Gy k9;have l4:=s9 _ _ pu;exists z,_,_,G,G,l4,?_,_,G
 .unfold gA;have:=TA.len;rw[aE,this,cY];lia
 refine k _ z (na++[y]) (λb o e=>by rw[aD (b_ e hz)];exact s9 _ _ (s1 _ _ e)) hz (by rw[ay];unfold gA;rw[dH];rfl) ?_;rw[ad7]
 have e:fu l m+(if within1 (p,m) m=aa then p.share else 0)=p.share+fu l m:=by rw[av (by unfold within1;rw[aP (aZ _),aP (by show m<m+p.length;lia)];rfl)];lia
 rw[e];exact((TA.same s9).snoc ⟨dy,h9⟩).upd l4
end Sp
namespace Sp
open PySem PySem.Spec PyProof.Rows L2 Sg
open Sg (Ch within1 BestP)
abbrev age:=af×(eO×Nat)×Nat
theorem iW.items{q:cW}{H:Hp}:∀{as:M af}{l:Ch}{ej:M Nat},iW q H as l ej->∃ad:M age,ad.map (·.1)=as/\ad.map (·.2.1)=l/\ad.map (·.2.2)=ej/\∀x∈ad,o5 q H x.1 x.2.1 x.2.2
 |[],[],[],_=>⟨[],G,G,G,λx hx=>(eG hx).elim⟩|[],_::_,_,h=>by have:=h.len;simp at this|_::_,[],_,h=>by have:=h.len;simp at this|[],[],_::_,h=>by have:=h.tl;simp at this|_::_,_::_,[],h=>by have:=h.tl;simp at this|a::as,x::l,t::ej,h=>by
  obtain⟨ad,h1,h2,h3,h4⟩:=iW.items ⟨by simpa using h.len,by simpa using h.tl,λj b y u e1 e2 e3=>h.at_ (j+1) b y u e1 e2 e3⟩;refine⟨(a,x,t)::ad,by rw[b9,h1],by rw[b9,h2],by rw[b9,h3],λy hy=> ?_⟩;obtain z|z:=bh.mp hy
  .rw[z];exact h.at_ 0 a x t G G G
  exact h4 y z
def sd(q:cW)(H:Hp)(v:V):BestP->Prop|none=>v= .bx|some b=>∃a ml dx,v= .ref a/\H a=I (.ins q.A dx (Rm ml b.1))/\H ml=I (.lst (aK b.2))
variable{q:cW}
def sd.same{H U:Hp}{v:V}:∀{b:BestP},sd q H v b->ah H U->sd q U v b|none,h,_=>h|some b,⟨a,ml,dx,h1,h2,h3⟩,s=>⟨a,ml,dx,h1,s _ _ h2,s _ _ h3⟩
theorem agf{l:M Nat}{m:Int}(h0:l.map (λ(n:Nat)=>(n:Int))=[]->m=0)(h1:l.map (λ(n:Nat)=>(n:Int))≠ []->m∈l.map (λ(n:Nat)=>(n:Int))/\∀y,y∈l.map (λ(n:Nat)=>(n:Int))->y<=m):m=(w6 l 0:Nat):=by
 cases l with
 |nil=>rw[h0 G];rfl
 |cons a l=>
  obtain⟨g1,g2⟩:=h1 (by simp);obtain⟨n,hn,rfl⟩:=b7.mp g1
  have e:=Nat.le_antisymm (E9 _ _ _ (b6 _) λx hx=>by have:=g2 x (b7.mpr ⟨x,hx,G⟩);lia) (E8 _ _ _ hn)
  rw[e]
structure xD(q:cW)(H:Hp)(ap:M AP):Prop where
 at_:∀x∈ap,rW q H x.1 x.2
 ok:∀x∈ap,1<=x.2.length
 len:ap.length<=1000
def xD.same{q:cW}{H U:Hp}{ap:M AP}(h:xD q H ap)(s:ah H U):xD q U ap:=⟨λx hx=>(h.at_ x hx).same s,h.ok,h.len⟩
variable{K:aR}
inductive xE K(q:cW)d vs H(Q:VK)(E:XK):Prop|mk(pl sl:af)(v:V)(ap:M AP)(as:M af)(l:Ch)(best:BestP)(_:vs=[.ref pl,.ref sl,v])(_:az K H pl (jO ap))(_:xD q H ap)(_:az K H sl (gA as))(_:iW q H as l (oY l))(_:l.length+d=ap.length)(_:sd q H v best)(_:∀U v',ah H U->sd q U v' (Sg.jo ((ap.map (·.2)).drop l.length) l best)->Q v' U)
def nT:gq ["planned","stays","best","greatest","later","minute","stay"] ["planned","stays","best"] (cz qY):=iQ
variable{P:bY}{w:bR}{mg:aj->aG aq}{ai:bB}
theorem Rr{f:af}{fd:gC}(F:bf K "better_plan" qY f fd)(fO:mg "better_plan"=I (.ref f))(pz:kZ K (.ref f)=aa)(ma:Binds K fd ["planned","stays","best"] [])(B:dR mg)(N:xA K q.Y)(NP:w9 K q.P)(NA:xB K q.A)(la:mg "max"=ak)
  (ln:Def P w K mg ai 3 "with_stay" ["stays","planned","begin"] (Gw K q))(hA:Cons P w K mg ai 1 "Plan" ["self","minutes","greatest"] (Gv q) q.A){k d:Nat}{sp:L2.Sp}(hk:3<=k)(hB:aM P w K mg ai aO k f fd ["planned","stays","best"] sp)(md:∀e,d=e+1->sp=xE K q e):aM P w K mg ai aO (k+1) f fd ["planned","stays","best"] (xE K q d):=by
 refine F.ok nT (λvs H Q E h=> ?_) (λa6 A b8 s H vs Q E hr h=> ?_)
 .obtain⟨pl,sl,v,ap,as,l,best,rfl,_⟩:=h;rfl
 obtain⟨pl,sl,v,ap,as,l,best,rfl,y4,PA,mN,T,hd,BA,kk⟩:=h;have DB:Def P w K mg ai k "better_plan" ["planned","stays","best"] sp:=⟨hB,fO,pz,ma⟩
 exists _,aC (aY 3 nT.nd (af9 G (by rfl) la (aB (fM G nT.nd (cV (pv 1)) (own:=[("stay",6)]) (dY ["planned","stays","best","greatest","later","minute","stay"] (cz qY)) (by intro _ _ _ _ _;exact cE 6 nT.nd) (by intro _ _ _ _ _;exact iP) (by intro _ _ _ _ _;exact gv G (pv 6) G))) aF)) (aC (bH (rq (vL (WI (pv 2))) (rm (bL Ky (pv 3) (fD (pv 2) (by rfl))))).pt (aH (pv 2)) bG) (aC (bH (bL dm (bJ dc (by rfl) B.len cJ (aB (pv 1))) (bJ dc (by rfl) B.len cJ (aB (pv 0)))) (aH (gw hA hr (bu (fM G nT.nd (cV (pv 1)) (own:=[("stay",6)]) (dY ["planned","stays","best","greatest","later","minute","stay"] (cz qY)) (by intro _ _ _ _ _;exact cE 6 nT.nd) (by intro _ _ _ _ _;exact iP) (by intro _ _ _ _ _;exact gv (K:=K) G (pv 6) G)) (pv 3)) (hj:=by lia))) bG)
  (aC (aY 4 nT.nd (bk (pv 0) (bJ dc (by rfl) B.len cJ (aB (pv 1)))))
  (aC (fC eN G (cV (aS 4)) (cE 5 nT.nd) (cA (aY 2 nT.nd (aT DB hr (cg (pv 0) (aT ln hr (cg (pv 1) (pv 4) (pv 5)) (hj:=by lia)) (pv 2)) (hj:=aZ _)))))
  (aH (pv 2))))))
 obtain⟨ad,i1,i2,mn,Rt⟩:=T.items
 have Rp:ad.length<=1000:=by rw[<-aE (f:=(·.2.1)),i2];have:=PA.len;lia
 have oI:ad.map (λx=>V.ref x.1)=gA as:=by unfold gA;rw[<-i1,bQ];rfl
 have Ru:ad.filter (λ_=>aa)=ad:=mq.mpr λ_ _=>G;dsimp only[jY,kK,Rh,gI,gH];refine kN (K:=K) (r:=sl) ad (λx=>V.ref x.1) (λ_=>aa) (λx=>V.int (x.2.2:Nat)) (λR h=>⟨_,G,h⟩) (by lia) (by rw[oI];exact mN) (λx U Kt Kf ha s1 ht hf=> ?_) λH1 D s1 hD Wp=> ?_
 .obtain⟨dx,hA⟩:=(Rt x ha).same s1;exists G,bK (B:=Kf U) ⟨_,G,x.1,q.Y,dx,_,_,G,hA,N.cl,N.total,G,ht U (ah.refl _) G⟩
 have agg:H1 D=I (.lst (((oY l).map λ(n:Nat)=>(n:Int)).map V.int)):=by rw[Wp,Ru,<-mn,bQ,bQ];rfl
 refine⟨D,_,G,az.of agg,λm m4 m1=> ?_⟩;have Rv:=agf m4 m1;rw[<-Sg.E_]at Rv;subst Rv;refine r5 ?_;refine Rn (done best l) (λK' hK=> ?_) ?_
 .exists _,G,_,G;cases best with
  |none=>have hv:v= .bx:=BA;subst hv;exact bX hK|some b=>
   obtain⟨a,ml,dx,rfl,hA1,hA2⟩:=BA;refine bK ⟨_,G,_,G,a,q.A,dx,_,_,G,s1 _ _ hA1,NA.cl,NA.Gs,G,_,_,G,G,_,G,?_⟩
   have e:done (I b) l=decide (((kG l:Nat):Int)>=(b.1:Nat)):=by
    unfold done;show decide (b.1<=kG l)=_;by_cases z:b.1<=kG l
    .rw[aP z,aP (by show((b.1:Nat):Int)<=_;lia)]
    rw[aV z,aV (by show¬((b.1:Nat):Int)<=_;lia)]
   rw[e]at hK;exact hK
 have Dx:(ap.map (·.2)).length=ap.length:=aE _;refine b4 (λh1=> ?_) (λh1=> ?_)
 .exists _,G,kk H1 v s1 ?_
  have:Sg.jo ((ap.map (·.2)).drop l.length) l best=best:=by cases(ap.map (·.2)).drop l.length<;>unfold Sg.jo<;>rw[av h1]
  rw[this];exact BA.same s1
 exists _,G,sl,_,G,.inl (s1.seq mN),_,G,pl,_,G,.inl (s1.seq y4),G,_,G;have dV:(gA as).length=l.length:=by unfold gA;rw[aE,T.len]
 have ag:(jO ap).length=ap.length:=by unfold jO;rw[aE]
 rw[dV,ag,ff];refine b4 (λh2=> ?_) (λh2=> ?_)
 .have b2:l.length=ap.length:=c_ h2;have yA:(ap.map (·.2)).drop l.length=[]:=Vk (by lia);dsimp only[lD,vY,gI,gH];refine kN (K:=K) (r:=sl) ad (λx=>V.ref x.1) (λ_=>aa) (λx=>V.int (x.2.1.2:Nat)) (λR h=>⟨_,G,h⟩) (by lia) (by rw[oI];exact s1.seq mN) (λx U Kt Kf ha s2 ht hf=> ?_) λH2 D2 s2 hD2 hE=> ?_
  .obtain⟨dx,hA⟩:=(Rt x ha).same (s1.trans s2);exists G,bK (B:=Kf U) ⟨_,G,x.1,q.Y,dx,_,_,G,hA,N.cl,N.begin_,G,ht U (ah.refl _) G⟩
  have agh:H2 D2=I (.lst (aK (l.map (·.2)))):=by rw[hE,Ru,<-i2,bQ];unfold aK;rw[bQ];rfl
  refine⟨_,G,λz dz hz a9 aw=>⟨z,D2,dz,kG l,G,ay,λH9 h9 k9=>⟨G,?_⟩⟩⟩;have s9:ah H2 H9:=ah.made hz a9 k9;refine kk H9 (.ref z) (s1.trans (s2.trans s9)) ?_;rw[yA];unfold Sg.jo;rw[au h1];exists z,D2,dz,G,h9,s9 _ _ agh
 have b2:¬l.length=ap.length:=λz=>h2 (aP z);have al:l.length<ap.length:=by lia
 obtain⟨e,rfl⟩:∃e,d=e+1:=⟨d-1,by lia⟩;rw[md e G];have hx:ap[l.length]? =I ap[l.length]:=bg al;generalize ap[l.length]=x at hx;have wT:=bN hx;have hpx:(jO ap)[l.length]? =I (.ref x.1):=by unfold jO;rw[bF,hx];rfl
 have yA:(ap.map (·.2)).drop l.length=x.2::(ap.map (·.2)).drop (l.length+1):=by
  have hh:l.length<(ap.map (·.2)).length:=by lia
  rw[pJ hh];congr 1;have:(ap.map (·.2))[l.length]? =I x.2:=by rw[bF,hx];rfl
  rw[bg hh]at this;exact cG this
 obtain⟨lI,ml,hp,me⟩:=PA.at_ x wT;refine⟨_,G,_,G,sl,_,G,.inl (s1.seq mN),pl,_,_,_,G,G,s1.seq y4,by rw[dV];exact aW hpx,?_⟩;exists _,G,x.1,q.P,lI,_,_,G,s1 _ _ hp,NP.cl,NP.w_,G,ml,G,⟨_,az.of (s1 _ _ me)⟩;refine jD (K:=K) (xs:=aK x.2.options) (λi σ U=>∃(v':V)(v5 v6:aG V),σ=[I (.ref pl),I (.ref sl),I v',I (.int ((kG l:Nat):Int)),I (.ref x.1),v5,v6]/\ah H U/\sd q U v' ((x.2.options.take i).foldl (λb m=>Sg.jo ((ap.map (·.2)).drop (l.length+1)) (l++[(x.2,m)]) b) best)) ⟨v,ak,ak,G,s1,BA.same s1⟩ (λi σ U _⟨_,_,_,_,s2,_⟩=>az.of (s2 _ _ me)) (λi y σ U hi⟨v',v5,v6,hσ,s2,B2⟩=> ?_) λσ U⟨v',v5,v6,hσ,s2,B2⟩=> ?_
 .subst hσ;unfold aK at hi;rw[bF]at hi;obtain⟨KF,hmi,rfl⟩:=gP.mp hi;have hW:x.2.options.take (i+1)=x.2.options.take i++[KF]:=by rw[BL,hmi];rfl
  rw[hW,pH];refine⟨_,G,_,G,_,G,_,G,sl,x.1,KF,as,l,x.2,G,s2.seq mN,T.same s2,⟨lI,ml,s2 _ _ hp,s2 _ _ me⟩,PA.ok x wT,by have:=PA.len;lia,λH5 z tJ s5 hz bm T5=> ?_⟩;have gN:=s2.trans s5;refine⟨_,G,pl,z,v',ap,tJ,l++[(x.2,KF)],_,G,gN.seq y4,PA.same gN,az.of bm,T5,by rw[bD,Bd];lia,B2.same s5,λH6 v6' s6 Rw=> ?_⟩;rw[bD,Bd]at Rw;exists v6',I (.int (KF:Nat)),v6,G,gN.trans s6,Rw
 subst hσ;rw[fT,i8]at B2;exists _,G,kk U v' s2 ?_;rw[yA];unfold Sg.jo;rw[au h1];exact B2
theorem Ry{f:af}{fd:gC}(F:bf K "better_plan" qY f fd)(fO:mg "better_plan"=I (.ref f))(pz:kZ K (.ref f)=aa)(ma:Binds K fd ["planned","stays","best"] [])(B:dR mg)(N:xA K q.Y)(NP:w9 K q.P)(NA:xB K q.A)(la:mg "max"=ak)
  (ln:Def P w K mg ai 3 "with_stay" ["stays","planned","begin"] (Gw K q))(hA:Cons P w K mg ai 1 "Plan" ["self","minutes","greatest"] (Gv q) q.A):∀d,aM P w K mg ai aO (4+d) f fd ["planned","stays","best"] (xE K q d)
 |0=>Rr F fO pz ma B N NP NA la ln hA (k:=3) (sp:=λ_ _ _ _=>False) (aZ _) (F.ok nT (λ_ _ _ _ h=>h.elim) λ_ _ _ _ _ _ _ _ _ h=>h.elim) (λe h=>by cases h)
 |d+1=>Rr F fO pz ma B N NP NA la ln hA (k:=4+d) (by lia) (Ry F fO pz ma B N NP NA la ln hA d) (λe h=>by cases h;rfl)
end Sp
namespace Sp
open PySem PySem.Spec PyProof.Rows L2 Sg
structure Rz(l:M Int)(ps:M eO):Prop where
 lo:5*ps.length<=l.length
 hi:l.length<=8*ps.length
 ok:∀p∈ps,1<=p.length/\p.options≠ []/\p.options.length<=4
theorem GA:∀f l ps,gm f l=I ps->Rz l ps
 |0,[],ps,h=>by cases h;exists aZ _,aZ _,λp hp=>(eG hp).elim
 |0,a::l,ps,h=>by cases h
 |f+1,[],ps,h=>by cases h;exists aZ _,aZ _,λp hp=>(eG hp).elim
 |f+1,[a],ps,h=>by cases h
 |f+1,[a,b],ps,h=>by cases h
 |f+1,[a,b,d],ps,h=>by cases h
 |f+1,a::r::n::k::q,ps,h=>by
  have h':(if(BJ a&&(e8 r 1 100&&(e8 n 1 1000000&&(e8 k 1 4&&(decide (k<=(q.length:Int))&&(q.take k.toNat).all vt)))))=aa then(gm f (q.drop k.toNat)).map λx=>(⟨iy a.toNat r.toNat,n.toNat,(q.take k.toNat).map eF⟩:eO)::x else ak)=I ps:=h;split at h'
  .rename_i hc;obtain⟨x,h1,h2⟩:=gP.mp h';obtain⟨i1,i2,mn⟩:=GA f _ x h1;subst h2;simp only[cU]at hc;have hn:=ef hc.2.2.1 (by decide);have hk:=ef hc.2.2.2.1 (by decide);have hq:=c_ hc.2.2.2.2.1;rw[ir]at i1 i2;refine⟨by simp only[bT];lia,by simp only[bT];lia,λp hp=> ?_⟩;obtain z|z:=bh.mp hp
   .subst z;have hl:((q.take k.toNat).map eF).length=k.toNat:=by rw[aE,gT];lia
    refine⟨by show 1<=n.toNat;lia,λe=> ?_,by show((q.take k.toNat).map eF).length<=4;lia⟩;have:((q.take k.toNat).map eF).length=0:=cC qG e;lia
   exact mn p z
  cases h'
def nU(l:M Int):aG (M eO):=if(decide (1<=l.length)&&decide (l.length<=48))=aa then gm 6 l else ak
variable{l:M Int}{ps:M eO}
theorem RA{f g:Nat}(h:gm f l=I ps)(hg:ps.length<=g):gm g l=I ps:=(Ag g l (f+g) (by lia)).2 ps ((Ag f l (f+g) (by lia)).1 ps h).1 hg
theorem agi(h:nU l=ak):readM l=[]:=by
 unfold readM;cases e:gm l.length l with
 |none=>rfl
 |some ps=>
  have S:=GA _ _ _ e;show(if ps.length<=6 then ps else [])=[];by_cases h6:ps.length<=6
  .rw[av h6];cases ps with|nil=>rfl|cons p ps=>exfalso;have h1:=S.lo;have h2:=S.hi;rw[bT]at h1 h2 h6;unfold nU at h;rw[aP (show 1<=l.length by lia),aP (show l.length<=48 by lia),eB,av G,RA e h6]at h;cases h
  rw[au h6]
theorem agj(h:nU l=I ps):readM l=ps/\ps≠ []/\ps.length<=6/\Rz l ps:=by
 unfold nU at h;split at h
 .rename_i hc;rw[cU]at hc;have h1:=c_ hc.1;have S:=GA _ _ _ h;have h6:=((Ag 6 l 6 (aZ _)).1 ps h).2;exists ?_,λe=> ?_,h6,S
  .unfold readM;rw[RA h (g:=l.length) (by have:=S.lo;lia)];exact av h6
  have:=S.hi;rw[e]at this;simp at this;rw[this]at h1;simp at h1
 cases h
theorem RB:∀(ws:M (Nat×M Nat))(b:BestP)r,ws.foldl pick b=I r->b=I r\/r∈ws
 |[],b,r,h=>.inl h|x::ws,b,r,h=>by
  obtain z|z:=RB ws _ r h
  .unfold pick at z;cases b with
   |none=>cases z;exact .inr bW
   |some y=>
    simp only at z;split at z
    .cases z;exact .inr bW
    exact .inl z
  exact .inr (bZ _ z)
theorem RC:∀ls w,w∈Vo ls->w.length=ls.length
 |[],w,h=>by cases nu.mp h;rfl
 |l::r,w,h=>by obtain⟨d,_,h2⟩:=Uc.mp h;obtain⟨v,h3,rfl⟩:=b7.mp h2;rw[bT,bT,RC r v h3]
def agk{l:M eO}{b:Nat×M Nat}(h:BG l=I b):b.2.length=l.length:=by
 rw[Fd,Sg.Fc]at h;obtain z|z:=RB _ _ _ h
 .cases z
 obtain⟨w,h1,rfl⟩:=b7.mp z;show([]++w).length=_;rw[ku,RC _ _ h1,aE]
def GB:dN->M Int->M Int->M Int->Prop:=λh _ rw out=>rw.length<=20000/\out=match nU rw with
 |none=>[-1]
 |some l=>match BG l with
  |none=>[-5]|some x=>0::(x.1:Int)::jy x.2
variable{K:aR}{q:cW}
inductive RD K(q:cW)(vs:M V)H(Q:VK)(E:XK):Prop|mk(pl:af)(ap:M AP)(b:Nat×M Nat)(_:vs=[.ref pl])(_:az K H pl (jO ap))(_:xD q H ap)(_:ap.length<=6)(_:BG (ap.map (·.2))=I b)(_:∀U v,ah H U->sd q U v (I b)->Q v U)
def agl:gq ["planned"] ["planned"] (cz (top 118)):=iQ
variable{P:bY}{w:bR}{mg:aj->aG aq}{ai:bB}{f:af}{fd:gC}
theorem agm{GC:af}{RE:gC}(F:bf K "least_plan" (top 118) f fd)(fO:mg "better_plan"=I (.ref GC))(pz:kZ K (.ref GC)=aa)(ma:Binds K RE ["planned","stays","best"] [])(hB:∀d,aM P w K mg ai aO (4+d) GC RE ["planned","stays","best"] (xE K q d)):aM P w K mg ai aO 11 f fd ["planned"] (RD K q):=by
 refine F.ok agl (λvs H Q E h=> ?_) (λa6 A b8 s H vs Q E hr h=> ?_)
 .obtain⟨pl,ap,b,rfl,_⟩:=h;rfl
 obtain⟨pl,ap,b,rfl,y4,PA,h6,hb,k⟩:=h;have DB:Def P w K mg ai (4+ap.length) "better_plan" ["planned","stays","best"] (xE K q ap.length):=⟨hB _,fO,pz,ma⟩;refine⟨_,aH (aT DB hr (cg (pv 0) (br eT) pS) (hj:=by lia)),_,G,b6 _,λz hz=> ?_⟩;have s0:ah H (upd H z (.lst [])):=ah.new hz;refine⟨pl,z,.bx,ap,[],[],ak,G,s0.seq y4,PA.same s0,az.of ay,⟨G,G,λj a x t h=>by simp at h⟩,by simp,G,λU v s1 RG=>k U v (s0.trans s1) ?_⟩;rw[Fd]at hb;rw[ng,yk,hb]at RG;exact RG
variable{c:fh}
theorem agn(F:bf K "ask_plan" (top 144) f fd)(L:Lo P w K mg ai c)(Z:j8 mg)(NA:xB K q.A)(hR:Def P w K mg ai 4 "read_planned" ["row"] (Qh K q))(hL:Def P w K mg ai 11 "least_plan" ["planned"] (RD K q)):
  aM P w K mg ai aO 12 f fd dh (fj K c GB):=by
 refine F.aX ["book","numbers","row","planned","plan"] (λS H vs Q E hr h=> ?_);obtain⟨b,n,r,h,ns,rw,out,rfl,BA,IR,c8,⟨cd,ax⟩,k⟩:=h
 exists _,aC (aY 3 S (aT hR hr (aB (pv 2)))) (aC (bH (gY (pZ (pv 3) (λ_=>G))) (aH (br (aB (bM G Z.fF)))) bG) (aC (aY 4 S (aT hL hr (aB (pv 3)))) (aH (bP f6 (br (bu aF (aS 4))) (aT L.jn hr (aB (aS 4)))))));refine⟨_,G,r,rw,G,c8,cd,λH1 p ap s1 hp hA he=> ?_⟩;exists _,G,_,.inl ⟨_,az.of hp,G⟩;cases e:nU rw with
 |none=>
  rw[e]at ax;subst ax
  have hap:ap=[]:=by rw[agi e]at he;exact List.map_eq_nil_iff.mp he
  subst hap;exact bK ⟨(by decide),λq hq=>k _ q (s1.trans (ah.new hq)) ay⟩
 |some ps=>
  rw[e]at ax;simp only at ax;obtain⟨r1,r2,r3,r4⟩:=agj e;rw[r1]at he;have hl:ap.length=ps.length:=by rw[<-he,aE]
  obtain⟨b,hb⟩:=PX ps [] ak λp hp=>(r4.ok p hp).2.1;rw[<-Fd]at hb;rw[hb]at ax;simp only at ax
  have aw:(jO ap).isEmpty=ao:=by
   cases ap with
   |nil=>exact aU he.symm r2
   |cons x ap=>rfl
  have go:∀{A B:Prop},B->if(!!(jO ap).isEmpty)=aa then A else B:=λ{A B}h=>by rw[aw];exact bX h
  refine go ⟨_,G,p,ap,b,G,az.of hp,⟨hA,λx hx=>(r4.ok x.2 (by rw[<-he];exact vD hx)).1,by lia⟩,by lia,by rw[he];exact hb,λH2 v s2⟨a,ml,dx,hv,cx,dL⟩=> ?_⟩;subst hv;have bt:=agk hb;refine⟨_,G,a,q.A,dx,_,_,G,cx,NA.cl,NA.Gs,G,(by show 2<=sizeLine;decide),λy hy=> ?_⟩;have s3:ah H2 (upd H2 y (.lst [.int 0,.int (b.1:Nat)])):=ah.new hy;exists _,G,a,q.A,dx,_,_,G,s3 _ _ cx,NA.cl,NA.w_,G,ml,dW b.2,G,by rw[s3 _ _ dL,j7];rfl,by unfold dW;rw[aE];lia,λH4 z s4 hz bm=>⟨y,z,_,_,G,G,s4 _ _ ay,bm,?_,λx hx=>k _ x (s1.trans (s2.trans (s3.trans (s4.trans (ah.new hx))))) ?_⟩
  .unfold dW;simp only[aE,bT,ng];rw[cY];lia
  rw[ay,ax];rfl
def GF(te:TE):TE:=λσ H Q=>te σ H λx H1=>(∃i:Int,x= .int i/\i.natAbs.log2<1920/\Q (.str (m6 (toString i))) H1)\/∃y:aj,x= .str y/\y.length<=sizeLine/\Q (.str y) H1
variable{X:Cx}{e:bE}{te:TE}{pos:fG}
def qw(h:PE X e te):PE X (.FormattedValue e (-1) ak pos) (GF te):=by
 intro pins s σ H Q ab hw;refine FormattedValue_plain (a_ (h pins s σ H _ ab hw) λv s1⟨x,H1,I1,r1,q1⟩=> ?_);obtain⟨i,rfl,hi,q⟩|⟨y,rfl,hy,q⟩:=q1
 .obtain⟨t,rfl⟩:=r1;exact formatField_int_small hi ⟨.str _,H1,I1.tok _,⟨_,G⟩,q⟩
 obtain⟨t,rfl⟩:=r1;exact formatField_str (λt' tk=>⟨.str y,H1,I1.tok _,⟨t',G⟩,q⟩) hy
abbrev TJ:=aj->L2.St->Hp->VK->Prop
def tJ0:TJ:=λacc _ H Q=>acc.length<=sizeLine/\Q (.str acc) H
def AF(te:TE)(tj:TJ):TJ:=λacc σ H Q=>te σ H λx H1=>∃y:aj,x= .str y/\(acc++y).length<=sizeLine/\tj (acc++y) σ H1 Q
def PJ(X:Cx)(es:M bE)(tj:TJ):Prop:=∀(acc:aj)(pins:M (af×bA))(s:aI)(σ:L2.St)(H:Hp)(Q:VK),Inv X pins σ H s->tj acc σ H Q->aJ (aL X.prog X.w) X.A (joinParts acc (evalEach es X.env)) (EP X pins σ Q) X.xe s
def ago:PJ X [] tJ0:=λacc pins s σ H Q ab h=>joinParts_nil ⟨.str acc,H,ab.tok _,⟨_,G⟩,h.2⟩ h.1
variable{es:M bE}{tj:TJ}
def jq(h:PE X e te)(hs:PJ X es tj):PJ X (e::es) (AF te tj):=by intro acc pins s σ H Q ab hw;refine joinParts_cons (a_ (h pins s σ H _ ab hw) λv s1⟨x,H1,I1,r1,y,ex,hy,q⟩=> ?_);subst ex;obtain⟨t,rfl⟩:=r1;exists hy,hs _ pins s1 σ H1 Q I1 q
def agp{e1 e2:bE}(h:PJ X (e1::e2::es) tj):PE X (.JoinedStr (e1::e2::es) pos) (tj m8):=λpins s σ H Q ab hw=>JoinedStr_many (h _ pins s σ H Q ab hw)
def uJ a b:cL a++cL b=cL (a++b):=xh (by show(TL.tl (cL a++cL b))=_;rw[TL.CZ];rfl)
def uK a:(cL a).length=a.length:=rfl
def gf(n:bO):Prop:=n.kind<=4/\∀x∈cM n,x<=1000000000
def RH n:m6 (toString ((n:Nat):Int))=cL (mz n):=xh (by rw[QK];rfl)
variable{n:Nat}
theorem qx(h:n<=1000000000):(mz n).length<=10:=by
 have e:(mz n).length=(Nat.repr n).length:=by show(qN _ (toString n).toList).length=_;rw[aE];exact String.length_toList
 rw[e];exact(Nat.length_repr_le_iff (by decide)).mpr (by lia)
theorem agq(h:n<=1000000000):((n:Nat):Int).natAbs.log2<1920:=by
 rw[Int.natAbs_natCast];by_cases z:n=0
 .subst z;decide
 exact akg ((Nat.log2_lt z).mpr (show n<2^64 by lia)) (by decide)
variable{i:Nat}{σ:L2.St}{H:Hp}{Q:VK}
theorem se{c:Nat}{l:M Nat}(hv:σ[i]? =I (I (.int (n:Nat))))(hn:n<=1000000000)(hl:l.length<=c)(hc:c<=1000)(k:(l++mz n).length<=c+10->tj (cL (l++mz n)) σ H Q):AF (GF (jX i)) tj (cL l) σ H Q:=by
 have hd:=qx hn;have h1:(l++mz n).length<=c+10:=by rw[bD];lia
 exists _,hv,.inl ⟨_,G,agq hn,_,G,?_,?_⟩
 .rw[RH,uJ,uK,cY];lia
 rw[RH,uJ];exact k h1
theorem qy{y:aj}{c:Nat}{l:M Nat}ly(e:y=cL ly)(he:ly.length<=10)(hl:l.length<=c)(hc:c<=1000)(k:(l++ly).length<=c+10->tj (cL (l++ly)) σ H Q):AF (tC (.str y)) tj (cL l) σ H Q:=by
 subst e;have h1:(l++ly).length<=c+10:=by rw[bD];lia
 exists _,G,?_
 .rw[uJ,uK,cY];lia
 rw[uJ];exact k h1
theorem agr{c:Nat}{l:M Nat}ly(hv:σ[i]? =I (I (.str (cL ly))))(he:ly.length<=10)(hl:l.length<=c)(hc:c<=1000)(k:(l++ly).length<=c+10->tj (cL (l++ly)) σ H Q):AF (GF (jX i)) tj (cL l) σ H Q:=by
 have h1:(l++ly).length<=c+10:=by rw[bD];lia
 refine⟨_,hv,.inr ⟨_,G,by rw[uK,cY];lia,_,G,?_,?_⟩⟩
 .rw[uJ,uK,cY];lia
 rw[uJ];exact k h1
variable{k:Nat}
theorem RI(h:k<=4):(jc.map V.str)[k]? =I (.str (cL (qW.getD k [])))/\(qW.getD k []).length<=10:=by
 have key:∀k,k<5->jc[k]? =I (cL (qW.getD k []))/\(qW.getD k []).length<=10:=by decide
 obtain⟨h1,h2⟩:=key k (by lia);rw[bF,h1];exists G,h2
def bl(w:String):M Nat:=32::(yy w++[32])
def RJ n:((((((((((((((([]++mz n.id)++[46])++mz n.version)++bl "journey")++mz n.journey)++[32])++qW.getD n.kind [])++bl "at")++mz n.office)++bl "minute")++mz n.time)++bl "found")++mz n.found)++bl "left")++mz n.left)++[59]=lA n:=by unfold lA yD bl;simp only[gW,List.flatMap_nil,iu,sR,ku,jT]
theorem RK{n:bO}(h:gf n):(lA n).length<=160:=by
 have hx:=h.2;unfold cM at hx;simp only[bh,eG,tD,Jb,Jc]at hx;obtain⟨h1,h2,h3,h4,h5,h6,h7,ia⟩:=hx;have d1:=qx h1;have d2:=qx h2;have Fu:=qx h3;have xl:=qx h4;have xn:=qx h6;have amw:=qx h7;have amx:=qx ia;have dd:=(RI h.1).2;rw[<-RJ];have b1:(bl "journey").length=9:=by decide
 have cc:(bl "at").length=4:=by decide
 have cr:(bl "minute").length=8:=by decide
 have fI:(bl "found").length=7:=by decide
 have hZ:(bl "left").length=6:=by decide
 simp only[bD,bT,ng];lia
inductive RL vs H(Q:VK)(E:XK):Prop|mk n(_:vs=aK (cM n))(_:gf n)(_:Q (.str (cL (lA n))) H)
def RM:gq ["number","version","journey","office","told","minute","found","left","does"] ["number","version","journey","office","told","minute","found","left"] (cz (top 103)):=iQ
theorem ags(F:bf K "one_form" (top 103) f fd)(L:qt K mg):aM P w K mg ai aO 1 f fd ["number","version","journey","office","told","minute","found","left"] RL:=by
 refine F.ok RM (λvs H Q E h=> ?_) (λa6 A b8 s H vs Q E hr h=> ?_)
 .obtain⟨n,rfl,_⟩:=h;rfl
 obtain⟨n,rfl,hn,k⟩:=h;obtain⟨da,hm,hD,_⟩:=L.does.ex
 exists _,aC (aY 8 RM.nd (dS (fz (by rfl) hm (show RelV (.ref da) _ from G)) (pv 4))) (aH (agp (jq (qw (pv 0)) (jq dQ (jq (qw (pv 1)) (jq dQ (jq (qw (pv 2)) (jq dQ (jq (qw (pv 8)) (jq dQ (jq (qw (pv 3)) (jq dQ (jq (qw (pv 5)) (jq dQ (jq (qw (pv 6)) (jq dQ (jq (qw (pv 7)) (jq dQ ago))))))))))))))))));obtain⟨kf,px⟩:=RI hn.1;have hx:=hn.2;unfold cM at hx;simp only[bh,eG,tD,Jb,Jc]at hx;obtain⟨h1,h2,h3,h4,h5,h6,h7,ia⟩:=hx;exists _,G,da,_,_,_,G,G,hD.sq,aW kf;refine se (c:=0) G h1 (aZ _) (by decide) λb1=> ?_;refine qy [46] (by decide) (by decide) b1 (by decide) λcc=> ?_;refine se G h2 cc (by decide) λcr=> ?_;refine qy (bl "journey") (by decide) (by decide) cr (by decide) λfI=> ?_;refine se G h3 fI (by decide) λhZ=> ?_;refine qy [32] (by decide) (by decide) hZ (by decide) λagt=> ?_;refine agr (qW.getD n.kind []) G px agt (by decide) λFX=> ?_;refine qy (bl "at") (by decide) (by decide) FX (by decide) λGo=> ?_;refine se G h4 Go (by decide) λtz=> ?_;refine qy (bl "minute") (by decide) (by decide) tz (by decide) λb10=> ?_;refine se G h6 b10 (by decide) λb11=> ?_;refine qy (bl "found") (by decide) (by decide) b11 (by decide) λb12=> ?_;refine se G h7 b12 (by decide) λb13=> ?_;refine qy (bl "left") (by decide) (by decide) b13 (by decide) λb14=> ?_;refine se G ia b14 (by decide) λb15=> ?_;refine qy [59] (by decide) (by decide) b15 (by decide) λb16=> ?_;rw[RJ]at b16⊢;exists by rw[uK,cY];lia,k
inductive RN(c:fh)(vs:M V)H(Q:VK)(E:XK):Prop|mk(a:af)(n:bO)(_:vs=[.ref a])(_:d9 c.N H a n)(_:gf n)(_:Q (.str (cL (lA n))) H)
def agu:gq ["news"] ["news"] (cz (top 104)):=iQ
def agv(F:bf K "news_text" (top 104) f fd)(N:fc K c.N)(hO:Def P w K mg ai 1 "one_form" ["number","version","journey","office","told","minute","found","left"] RL):aM P w K mg ai aO 2 f fd ["news"] (RN c):=by
 refine F.ok agu (λvs H Q E h=> ?_) (λa6 A b8 s H vs Q E hr h=> ?_)
 .obtain⟨a,n,rfl,_⟩:=h;rfl
 obtain⟨a,n,rfl,⟨dx,t,h1,h2⟩,hn,k⟩:=h;exists _,aH (aT hO hr (dw (aS 0) (dw (aS 0) (dw (aS 0) (dw (aS 0) (dw (aS 0) (cg (aS 0) (aS 0) (aS 0)))))))),_,G,a,c.N,dx,_,_,G,h1,N.cl,N.number,G,_,G,a,c.N,dx,_,_,G,h1,N.cl,N.version,G,_,G,a,c.N,dx,_,_,G,h1,N.cl,N.journey,G,_,G,a,c.N,dx,_,_,G,h1,N.cl,N.office,G,_,G,a,c.N,dx,_,_,G,h1,N.cl,N.told,G,_,G,a,c.N,dx,_,_,G,h1,N.cl,N.minute,G,_,G,a,c.N,dx,_,_,G,h1,N.cl,N.found,G,_,G,a,c.N,dx,_,_,G,h1,N.cl,N.left,G,n,G,hn,k
theorem RO:∀l:M (M Nat),TL.oJ [32] l=yD l|[]=>rfl|[a]=>by show a=a++[];rw[jT]|a::b::r=>by show a++([32]++TL.oJ [32] (b::r))=_;rw[RO (b::r)];rfl
def agw l:IC " " (l.map cL)=cL (yD l):=xh (by rw[TL.join_eq];show TL.tl (IB " " (l.map cL))=_;rw[TL.C0,show TL.tl (" ":aj)=[32] by decide,bQ,<-RO];show TL.oJ [32] (l.map λx=>x)=TL.oJ [32] l;rw[alp])
theorem RP:∀l:M (M Nat),(yD l).length<=(l.map λx=>x.length+1).sum
 |[]=>aZ _|a::r=>by
  have key:∀r:M (M Nat),(r.flatMap λx=>32::x).length=(r.map λx=>x.length+1).sum:=λr=>by
   induction r with
   |nil=>rfl
   |cons b r ih=>rw[gW,bD,ih,b9,sU];rfl
  show(a++r.flatMap λx=>32::x).length<=_;rw[bD,key,b9,sU];lia
inductive RQ K(c:fh)(vs:M V)H(Q:VK)(E:XK):Prop|mk(l:af)(an:M AN)(_:vs=[.ref l])(_:az K H l (refs an))(_:f9 c.N H an)(_:(∀x∈an,gf x.2))(_:an.length<=500)(_:∀U p,ah H U->H p=ak->U p=I (.lst (aK (vE (an.map (·.2)))))->Q (.ref p) U)
def xF:gq ["told","sign","news"] ["told"] (cz (top 105)):=iQ
theorem agx(F:bf K "letter_of" (top 105) f fd)(ar:qp K mg)(hT:Def P w K mg ai 2 "news_text" ["news"] (RN c)):aM P w K mg ai aO 3 f fd ["told"] (RQ K c):=by
 refine F.ok xF (λvs H Q E h=> ?_) (λa6 A b8 s H vs Q E hr h=> ?_)
 .obtain⟨l,an,rfl,_⟩:=h;rfl
 obtain⟨l,an,rfl,hL,T,hn,ha,k⟩:=h
 exists _,aH (fM G xF.nd (ZA (ee alL alM alN LS dQ (aB (fM G xF.nd (cV (pv 0)) (own:=[("news",2)]) (dY ["told","sign","news"] (cz (top 105))) (by intro _ _ _ _ _;exact cE 2 xF.nd) (by intro _ _ _ _ _;exact iP) (by intro _ _ _ _ _;exact aT hT hr (aB (pv 2))))))) (own:=[("sign",1)]) (dY ["told","sign","news"] (cz (top 105))) (by intro _ _ _ _ _;exact cE 1 xF.nd) (by intro _ _ _ _ _;exact iP) (by intro _ _ _ _ _;exact bJ j0 (by rfl) ar.ord boot_ord (aB (pv 1))));refine OV ⟨G,?_⟩;refine kN an (λx=>V.ref x.1) (λ_=>aa) (λx=>V.str (cL (lA x.2))) (λR h=>⟨_,G,h⟩) (by lia) hL (λx U Kt Kf hx s1 ht hf=> ?_) λH1 D s1 hD hd=> ?_
 .exists G,bK (B:=Kf U) ⟨_,G,x.1,x.2,G,(T.at_ x hx).same s1,hn x hx,ht U (ah.refl _) G⟩
 have agy:∀l:M AN,(∀x∈l,gf x.2)->((l.map λx=>lA x.2).map λx=>x.length+1).sum<=161*l.length:=λl=>by
  induction l with
  |nil=>intro _;exact aZ _
  |cons a l ih=>intro h;have:=ih λx hx=>h x (bZ _ hx);have h1:=RK (h a bW);rw[b9,b9,sU,bT];lia
 have hs:(((an.map λx=>lA x.2):M (M Nat)).map λx:M Nat=>x.length+1).sum<=161*an.length:=agy an hn
 have eD:H1 D=I (.lst (((an.map λx=>lA x.2).map cL).map V.str)):=by rw[hd,mq.mpr (λ_ _=>G),bQ,bQ];rfl
 exists _,D,_,G,G,.inl (az.of eD),?_,_,G
 .have key:∀l:M (M Nat),((l.map cL).map (·.length)).sum+(l.map cL).length*1=(l.map λx=>x.length+1).sum:=λl=>by
   induction l with
   |nil=>rfl
   |cons a l ih=>rw[b9,b9,sU,b9,sU,bT,uK];lia
  show _+_*1<=_;rw[key];lia
 rw[agw];have hj:=RP (an.map λx=>lA x.2)
 have hk:yD (an.map λx=>lA x.2)=vE (an.map (·.2)):=by unfold vE;rw[bQ];rfl
 rw[hk]at hj⊢;generalize vE (an.map (·.2))=bs at hj k⊢;refine El (J:=CU (cL bs)) (H1:=H1) bs (λ_=>aa) (λ(b:Nat)=>V.int (b:Nat)) (λb x _=>x= .str ⟨#[b]⟩) (λR h=>h) (by lia) (λU s2=> ?_) (λi U hi s2=> ?_) (λi U x bp hi s2 hy=> ?_) (λb x U Kt Kf hb hR s2 ht hf=> ?_) λU D' s2 hD' hE=> ?_
 .exact A5 (by simp[cL])
 .show i<(cL bs).cps.size;simpa[cL]using hi
 .obtain⟨rfl,ch,h1,rfl⟩:=hy;exists ch,by simpa[cL]using h1,ah.refl _,G
 .subst hR;exists G,bK (B:=Kf U) ⟨_,G,_,G,G,ht U (ah.refl _) G⟩
 refine k U D' (s1.trans s2) (s1.free hD') ?_;rw[hE,mq.mpr (λ_ _=>G)];rfl
def GG:dN->M Int->M Int->M Int->Prop:=λh _ _ out=>(∀n∈bq h,gf n)/\(bq h).length<=500/\out=0::jy (vE (bq h))
theorem agz{l:M bO}(h:∀n∈l,gf n)(hl:l.length<=500):(vE l).length<=100000:=by
 have key:∀l:M bO,(∀x∈l,gf x)->(((l.map lA):M (M Nat)).map λx:M Nat=>x.length+1).sum<=161*l.length:=λl=>by
  induction l with
  |nil=>intro _;exact aZ _
  |cons a l ih=>intro h;have:=ih λx hx=>h x (bZ _ hx);have h1:=RK (h a bW);rw[b9,b9,sU,bT];lia
 have h1:=key l h;have h2:=RP (l.map lA);show(yD (l.map lA)).length<=_;lia
theorem agA(F:bf K "ask_printed" (top 150) f fd)(L:Lo P w K mg ai c)(hL:Def P w K mg ai 3 "letter_of" ["told"] (RQ K c)):aM P w K mg ai aO 8 f fd dh (fj K c GG):=by
 refine F.aX dh (λS H vs Q E hr h=> ?_);obtain⟨b,n,r,h,ns,rw,out,rfl,BA,hN,hR,⟨RS,agB,rfl⟩,k⟩:=h;exists _,aH (bP f6 (br (aB aF)) (aT L.jn hr (aB (aT hL hr (aB (aT L.zD hr (aB (fD (dU L.now L.B.cl hr (pv 0)) G))))))));obtain⟨dx,lj,lg,lh,hb⟩:=BA.ins;refine⟨(by decide),λa ha=> ?_⟩;have s0:ah H (upd H a (.lst [.int 0])):=ah.new ha;refine⟨_,G,b,dx,_,G,s0 _ _ hb,G,b,h,G,BA.same s0,λH1 v s1⟨⟨dv,He,vk,vl,d,v1,v2,v3,v4,v5⟩,v6,v7⟩=> ?_⟩;refine⟨v,c.V,dv,_,_,G,v1,L.V.cl,L.V.known,G,vk,d,_,G,v4,v5,λH3 p an s3 hp ag cp hX hlen=> ?_⟩;have b3:∀x∈an,gf x.2:=λx hx=>RS x.2 (by rw[<-cp];exact vD hx);have dV:an.length=(bq h).length:=by rw[<-cp,aE]
 exists p,an,G,az.of ag,⟨λx hx=> ?_,hlen⟩,b3,by lia,λH4 z s4 hz bm=> ?_
 .obtain⟨s',i3⟩:=hX x hx;exact(v4.news s' x i3).same s3
 rw[cp]at bm;have Gx:=agz RS agB;exists z,dW (vE (bq h)),G,by rw[bm,j7];rfl,by unfold dW;rw[aE];exact Gx,λH5 y s5 hy cf=>⟨a,y,_,_,G,G,s5 _ _ (s4 _ _ (s3 _ _ (s1 _ _ ay))),cf,?_,λx hx=>k _ x (s0.trans (s1.trans (s3.trans (s4.trans (s5.trans (ah.new hx)))))) ?_⟩
 .exact wY (by unfold dW;rw[aE];exact Gx)
 rw[ay];rfl
structure AC where
 i:Nat
 fm:aj×M aj×Bool
 nums:M Int
 row:M Int
structure AC.Ok(c:AC):Prop where
 AG:oz[c.i]? =I c.fm
 nums:c.nums.length=c.fm.2.1.length
 row:c.fm.2.2=ao->c.row=[]
noncomputable def AC.enc(c:AC):M Int:=(c.i:Int)::(c.nums++if c.fm.2.2=aa then(c.row.length:Int)::c.row else [])
def AC.raw(c:AC):M (M Int):=((c.i:Int)::c.nums)::if c.fm.2.2=aa then [c.row]else []
theorem zQ1{α:Type}:∀{l:M α},l.length=1->∃a,l=[a]|[a],_=>⟨a,G⟩
theorem zQ2{α:Type}:∀{l:M α},l.length=2->∃a b,l=[a,b]|[a,b],_=>⟨a,b,G⟩
theorem zQ3{α:Type}:∀{l:M α},l.length=3->∃a b d,l=[a,b,d]|[a,b,d],_=>⟨a,b,d,G⟩
theorem zQ4{α:Type}:∀{l:M α},l.length=4->∃a b d e,l=[a,b,d,e]|[a,b,d,e],_=>⟨a,b,d,e,G⟩
def zQA{α:Type}(P:Nat->α->Prop):Nat->M α->Prop|_,[]=>True|n,f::l=>P n f/\zQA P (n+1) l
theorem zQA.zQg{α:Type}{P:Nat->α->Prop}:∀{l:M α}{n i:Nat}{f:α},zQA P n l->l[i]? =I f->P (n+i) f|_::_,_,0,_,h,e=>by cases e;exact h.1|_::l,n,i+1,_,h,e=>by have:=zQA.zQg (l:=l) (i:=i) h.2 e;rwa[Nat.add_assoc,Nat.add_comm 1]at this
def zQc:Nat->M (aj×M aj×Bool)->Int->aG (Nat×Nat)|_,[],_=>ak|i,f::l,p=>if p=i then I (f.2.1.length,if f.2.2=aa then 1 else 0)else zQc (i+1) l p
theorem zQd{p:Int}{n k:Nat}:∀{l:M (aj×M aj×Bool)}{i:Nat},zQc i l p=I (n,k)->∃(j:Nat)(fm:aj×M aj×Bool),p=((i+j:Nat):Int)/\l[j]? =I fm/\n=fm.2.1.length/\k=if fm.2.2=aa then 1 else 0
 |f::l,i,h=>by
  unfold zQc at h;split at h
  .cases h;exact⟨0,f,‹_›,G,G,G⟩
  obtain⟨j,fm,h1,h2⟩:=zQd h;exact⟨j+1,fm,by lia,h2⟩
theorem agC{p:Int}(h:BO p=I (n,k)):∃(i:Nat)(fm:aj×M aj×Bool),p=i/\oz[i]? =I fm/\n=fm.2.1.length/\k=if fm.2.2=aa then 1 else 0:=by
 obtain⟨j,fm,h1,h2⟩:=zQd (i:=0) (l:=oz) h;exact⟨j,fm,by lia,h2⟩
theorem agD{t:M Int}{c:M (M Int)}(h:alX BO l=I (c,t)):∃a:AC,a.Ok/\l=a.enc++t/\c=a.raw:=by
 unfold alX at h;split at h
 .cases h
 rename_i p r;split at h
 .cases h
 rename_i n k hs;obtain⟨i,fm,rfl,hf,rfl,rfl⟩:=agC hs;split at h
 .cases h
 rename_i hlen;have hl:(r.take fm.2.1.length).length=fm.2.1.length:=by rw[gT];lia
 by_cases q:fm.2.2=aa
 .rw[av q]at h;unfold alY at h;unfold PyFlat.row at h;split at h
  .cases h
  rename_i xs t' hr;split at hr
  .cases hr
  rename_i x s hx;split at hx
  .cases hx
  rename_i m r' hd;split at hx
  .rename_i hm;injection hx with hx;injection hx with hY lc;injection hr with hr;injection hr with ke o2;injection h with h;injection h with h1 h2;exists⟨i,fm,r.take fm.2.1.length,x⟩,⟨hf,hl,λe=>by rw[q]at e;cases e⟩,?_
   .unfold AC.enc;rw[av q];have e1:r=r.take fm.2.1.length++(m::r'):=by rw[<-hd,pI]
    have e2:(x.length:Int)=m:=by rw[<-hY,gT];lia
    rw[e2,sR,iu,sR,<-h2,<-o2,<-lc,<-hY,pI];exact cC _ e1
   unfold AC.raw;rw[av q,<-h1,<-ke]
  cases hx
 have q':fm.2.2=ao:=by simpa using q
 rw[au q]at h;unfold alY at h;injection h with h;injection h with h1 h2;exists⟨i,fm,r.take fm.2.1.length,[]⟩,⟨hf,hl,λ_=>G⟩,?_
 .unfold AC.enc;rw[au q];show(i:Int)::r=(i:Int)::(_++[])++t;rw[jT,sR,<-h2,pI]
 unfold AC.raw;rw[au q,<-h1]
theorem RT:∀f l cy,BP BO f l=I cy->∃as:M AC,(∀a∈as,a.Ok)/\l=as.flatMap AC.enc/\cy=as.map AC.raw
 |f,[],cy,h=>by
  have:cy=[]:=by cases f<;>(unfold BP at h;injection h with h;exact h.symm)
  exists [],⟨λa ha=>(eG ha).elim,G,this⟩
 |0,p::r,cy,h=>by unfold BP at h;cases h
 |f+1,p::r,cy,h=>by
  unfold BP at h;split at h
  .cases h
  rename_i c t hc;split at h
  .cases h
  rename_i cs' hcs;injection h with h;obtain⟨a,ok,e1,e2⟩:=agD hc;obtain⟨as,oks,e3,e4⟩:=RT f t cs' hcs;refine⟨a::as,λb hb=> ?_,by rw[gW,e1,e3],by rw[<-h,e2,e4];rfl⟩;obtain q|q:=bh.mp hb
  .rw[q];exact ok
  exact oks b q
def RU(K:aR)(na:af)(ns:M aj):Prop:=gK K na (ns.map V.str)/\∃o,K.lookup na=I o/\o.cls= .type "tuple"/\o.dict=ak
structure RV(K:aR)(mg:aj->aG aq):Prop where
 ex:∃a,∃KK:M af,mg "FORMS"=I (.ref a)/\gK K a (KK.map V.ref)/\∀(i:Nat)(fm:aj×M aj×Bool),oz[i]? =I fm->∃fa na,KK[i]? =I fa/\gK K fa [.str fm.1,.ref na,.bl fm.2.2]/\RU K na fm.2.1
structure qz(K:aR)(C:af):Prop where
 cl:fK K C
 name:cF K C "name"
 names:cF K C "names"
 numbers:cF K C "numbers"
 row:cF K C "row"
 end_:cF K C "end"
noncomputable def RW(nm:aj)(na n r:af)(e:Nat):M (aj×V):=[("name",.str nm),("names",.ref na),("numbers",.ref n),("row",.ref r),("end",.int (e:Nat))]
structure agE(K:aR)(q:cW)(H0 H:Hp)(a:af)(x:AC)(e:Nat)(dx na n r:af):Prop where
 at_:H a=I (.ins q.C dx (RW x.fm.1 na n r e))
 nums:H n=I (.lst (x.nums.map V.int))
 row:H r=I (.lst (x.row.map V.int))
 na:RU K na x.fm.2.1
 n0:H0 n=ak
 NG:H0 r=ak
def kW(K:aR)(q:cW)(H0 H:Hp)(a:af)(x:AC)(e:Nat):Prop:=∃dx na n r,agE K q H0 H a x e dx na n r
variable{H0:Hp}{a:af}{x:AC}{e:Nat}
def kW.same{U:Hp}(h:kW K q H0 H a x e)(s:ah H U):kW K q H0 U a x e:=by obtain⟨dx,na,n,r,h1,h2,h3,h4,h5,h6⟩:=h;exists dx,na,n,r,s _ _ h1,s _ _ h2,s _ _ h3,h4,h5,h6
def kW.agF{H1:Hp}(h:kW K q H1 H a x e)(s:ah H0 H1):kW K q H0 H a x e:=by obtain⟨dx,na,n,r,h1,h2,h3,h4,h5,h6⟩:=h;exists dx,na,n,r,h1,h2,h3,h4,s.free h5,s.free h6
inductive RX K(q:cW)(vs:M V)(H:Hp)(Q:VK)(E:XK):Prop|mk(p fa na n r dx:af)(nm:aj)(b:Bool)(e:Nat)(_:vs=[.ref p,.ref fa,.ref n,.ref r,.int (e:Nat)])(_:H p=I (.ins q.C dx []))(_:gK K fa [.str nm,.ref na,.bl b])(_:∀U,U p=I (.ins q.C dx (RW nm na n r e))->(∀b o,H b=I o->b≠p->U b=I o)->Q .bx U)
def agG(F:dg K "__init__" "Call.__init__" Ji f fd)(N:qz K q.C):aM P w K mg ai aO 1 f fd ["self","form","numbers","row","end"] (RX K q):=by refine F.aX ["self","form","numbers","row","end"] (λS H vs Q E hr h=> ?_);obtain⟨p,fa,na,n,r,dx,nm,b,e,rfl,hp,hF,k⟩:=h;exists _,aC (cR (pv 0) (dS (pv 1) aF) G) (aC (cR (pv 0) (dS (pv 1) aF) G) (aC (cR (pv 0) (pv 2) G) (aC (cR (pv 0) (pv 3) G) (cA (cR (pv 0) (pv 4) G))))),_,G,fa,_,_,_,G,G,hF.sq,aW G,_,G,p,q.C,dx,_,G,hp,N.cl,N.name,(by decide),_,G,fa,_,_,_,G,G,hF.sq,aW G,_,G,p,q.C,dx,_,G,ay,N.cl,N.names,(by show 1<1000;decide),_,G,_,G,p,q.C,dx,_,G,ay,N.cl,N.numbers,(by show 2<1000;decide),_,G,_,G,p,q.C,dx,_,G,ay,N.cl,N.row,(by show 3<1000;decide);exists _,G,_,G,p,q.C,dx,_,G,ay,N.cl,N.end_,(by show 4<1000;decide);refine k _ (by rw[ay];rfl) λb o e hb=> ?_;rw[aD hb,aD hb,aD hb,aD hb,aD hb];exact e
inductive RY K(q:cW)(vs:M V)H(Q:VK)(E:XK):Prop|mk(l:af)(pre post:M Int)(x:AC)(_:vs=[.ref l,.int (pre.length:Nat)])(_:az K H l ((pre++(x.enc++post)).map V.int))(_:x.Ok)(_:∀U a,ah H U->kW K q H U a x (pre.length+x.enc.length)->Q (.ref a) U)
def xG:gq ["calls","place","form","behind","numbers","end"] ["calls","place"] (cz (top 9)):=iQ
theorem RZ{pre:M Int}{z:Int}i(h:l[i]? =I z):((pre++l).map V.int)[pre.length+i]? =I (.int z):=by rw[bF,vc (by lia),IY,h];rfl
theorem R0(pre a b:M Int)i j(hi:i=pre.length)(hj:j=pre.length+a.length):e_ ((pre++(a++b)).map V.int) (I (i:Int)) (I (j:Int))=a.map V.int:=by subst hi hj;unfold e_;rw[HT.p6,HT.p6,aE,bD,bD,vh (by lia),vh (by lia),IY,<-qO,<-yl,alS,List.take_left]
theorem agH(F:bf K "read_call" (top 9) f fd)(B:dR mg)(ar:RV K mg)(hC:Cons P w K mg ai 1 "Call" ["self","form","numbers","row","end"] (RX K q) q.C):aM P w K mg ai aO 3 f fd ["calls","place"] (RY K q):=by
 refine F.ok xG (λvs H Q E h=> ?_) (λa6 A b8 s H vs Q E hr h=> ?_)
 .obtain⟨l,pre,post,x,rfl,_⟩:=h;rfl
 obtain⟨l,pre,post,x,rfl,hL,ok,k⟩:=h;obtain⟨ga,KK,hm,hGT,agI⟩:=ar.ex;obtain⟨fa,na,g1,g2,g3⟩:=agI x.i x.fm ok.AG
 exists _,aC (aY 2 xG.nd (dS (fz (by rfl) hm (show RelV (.ref ga) _ from G)) (bk (pv 0) (pv 1)))) (aC (aY 3 xG.nd (bP fY (bP fY (pv 1) aF) (bJ dc (by rfl) B.len cJ (aB (dS (pv 2) aF))))) (aC (aY 4 xG.nd (mK nH (pv 0) (g4 (bP fY (pv 1) aF)) (g4 (pv 3)))) (aC (bH (gY (fQ (dS (pv 2) aF))) (aH (gw hC hr (dw (pv 2) (cg (pv 4) (br eT) (pv 3))))) bG) (aC (aY 5 xG.nd (bP fY (bP fY (pv 3) aF) (bk (pv 0) (pv 3)))) (aH (gw hC hr (dw (pv 2) (cg (pv 4) (mK nH (pv 0) (g4 (bP fY (pv 3) aF)) (g4 (pv 5))) (pv 5)))))))));have fO:((pre++(x.enc++post)).map V.int)[pre.length]? =I (.int (x.i:Nat)):=RZ 0 G;have agJ:(KK.map V.ref)[x.i]? =I (.ref fa):=by rw[bF,g1];rfl
 exists _,G,_,G,l,_,_,_,G,G,hL,aW fO,ga,_,_,_,G,G,hGT.sq,aW agJ,_,G,_,_,G,G,_,G,fa,_,_,_,G,G,g2.sq,aW G,na,_,G,.inr g3.1.sq,_,_,G,G;have e1:((pre.length:Nat):Int)+1=((pre.length+1:Nat):Int):=by lia
 have e2:((pre.length:Nat):Int)+1+((x.fm.2.1.map V.str).length:Nat)=((pre.length+1+x.nums.length:Nat):Int):=by rw[aE,ok.nums];lia
 refine r5 ?_;rw[e2];refine⟨_,G,_,G,_,_,G,G,_,G,_,G,_,G,l,_,G,hL,λn hn=> ?_⟩;rw[e1,show pre++(x.enc++post)=(pre++[(x.i:Int)])++(x.nums++((if x.fm.2.2=aa then(x.row.length:Int)::x.row else [])++post)) by unfold AC.enc;simp,R0 _ _ _ _ _ (by simp) (by simp)];have s1:ah H (upd H n (.lst (x.nums.map V.int))):=ah.new hn;exists _,G,fa,_,_,_,G,G,g2.sq,aW (j:=2) G,_,G;cases hb:x.fm.2.2 with
 |false=>
  refine bK ⟨_,G,_,G,b6 _,λr y5=> ?_⟩;have s2:ah (upd H n (.lst (x.nums.map V.int))) (upd (upd H n (.lst (x.nums.map V.int))) r (.lst [])):=ah.new y5;refine⟨_,G,λz dz hz a9 aw=>⟨z,fa,na,n,r,dz,x.fm.1,ao,pre.length+1+x.nums.length,G,ay,by rw[<-hb];exact g2,λH9 h9 k9=>⟨G,?_⟩⟩⟩;have s9:ah _ H9:=ah.made hz a9 k9;have hlen:pre.length+x.enc.length=pre.length+1+x.nums.length:=by unfold AC.enc;rw[hb];simp;lia
  rw[hlen]at k;exact k H9 z (s1.trans (s2.trans s9)) ⟨dz,na,n,r,h9,s9 _ _ (s2 _ _ ay),by rw[ok.row hb];exact s9 _ _ ay,g3,hn,s1.free y5⟩
 |true=>
  have R1:=s1.seq hL;have e3:pre++(x.enc++post)=(pre++(x.i:Int)::x.nums)++((x.row.length:Int)::x.row++post):=by unfold AC.enc;rw[av hb];simp
  have h3:(pre++(x.i:Int)::x.nums).length=pre.length+1+x.nums.length:=by simp;lia
  have agK:((pre++(x.enc++post)).map V.int)[pre.length+1+x.nums.length]? =I (.int (x.row.length:Nat)):=by rw[e3,<-h3];exact RZ 0 G
  refine bX ⟨_,G,_,_,G,G,_,G,_,G,l,_,_,_,G,G,R1,aW agK,_,_,G,G,?_⟩;have e4:((pre.length+1+x.nums.length:Nat):Int)+1=((pre.length+1+x.nums.length+1:Nat):Int):=by lia
  have e5:((pre.length+1+x.nums.length:Nat):Int)+1+(x.row.length:Nat)=((pre.length+1+x.nums.length+1+x.row.length:Nat):Int):=by lia
  refine r5 ?_;dsimp only;rw[e5];refine⟨_,G,_,G,_,G,_,G,_,_,G,G,_,G,_,G,_,G,l,_,G,R1,λr y5=> ?_⟩;dsimp only;rw[e4,show pre++(x.enc++post)=(pre++(x.i:Int)::(x.nums++[(x.row.length:Int)]))++(x.row++post) by unfold AC.enc;rw[av hb];simp,R0 _ _ _ _ _ (by simp;lia) (by simp;lia)];have s2:ah (upd H n (.lst (x.nums.map V.int))) (upd (upd H n (.lst (x.nums.map V.int))) r (.lst (x.row.map V.int))):=ah.new y5;refine⟨_,G,λz dz hz a9 aw=>⟨z,fa,na,n,r,dz,x.fm.1,aa,pre.length+1+x.nums.length+1+x.row.length,G,ay,by rw[<-hb];exact g2,λH9 h9 k9=>⟨G,?_⟩⟩⟩;have s9:ah _ H9:=ah.made hz a9 k9;have hlen:pre.length+x.enc.length=pre.length+1+x.nums.length+1+x.row.length:=by unfold AC.enc;rw[av hb];simp;lia
  rw[hlen]at k;exact k H9 z (s1.trans (s2.trans s9)) ⟨dz,na,n,r,h9,s9 _ _ (s2 _ _ ay),s9 _ _ ay,g3,hn,s1.free y5⟩
abbrev AX:=af×AC
def sf(K:aR)(q:cW)(H0 H:Hp)(l:M AX):Prop:=∀x∈l,∃e,kW K q H0 H x.1 x.2 e
def sf.same{K:aR}{q:cW}{H0 H U:Hp}{l:M AX}(h:sf K q H0 H l)(s:ah H U):sf K q H0 U l:=λx hx=>by obtain⟨e,h⟩:=h x hx;exists e,h.same s
def m5(l:M AX):M V:=l.map λx=>V.ref x.1
theorem agL(x:AC):1<=x.enc.length:=by unfold AC.enc;rw[bT];lia
inductive R4 K(q:cW)(vs:M V)H(Q:VK)(E:XK):Prop|mk(l:af)(as:M AC)(_:vs=[.ref l])(_:az K H l ((as.flatMap AC.enc).map V.int))(_:(∀a∈as,a.Ok))(_:as.length<=1000)(_:∀U p(xs:M AX),ah H U->H p=ak->U p=I (.lst (m5 xs))->xs.map (·.2)=as->sf K q H U xs->Q (.ref p) U)
def xH:gq ["calls","found","place","call"] ["calls"] (cz (top 10)):=iQ
theorem agM(F:bf K "read_calls" (top 10) f fd)(B:dR mg)(N:qz K q.C)(hR:Def P w K mg ai 3 "read_call" ["calls","place"] (RY K q)):aM P w K mg ai aO 4 f fd ["calls"] (R4 K q):=by
 refine F.ok xH (λvs H Q E h=> ?_) (λa6 A b8 s H vs Q E hr h=> ?_)
 .obtain⟨l,as,rfl,_⟩:=h;rfl
 obtain⟨l,as,rfl,hL,aQ,dV,k⟩:=h
 exists _,aC (aY 1 xH.nd (br eT)) (aC (aY 2 xH.nd aF) (aC (vQ eN (bL pY (pv 2) (bJ dc (by rfl) B.len cJ (aB (pv 0)))) (aC (aY 3 xH.nd (aT hR hr (bu (pv 0) (pv 2)))) (aC (fR (ee fq l7 nq lK (pv 1) (aB (pv 3)))) (cA (aY 2 xH.nd (aS 3)))))) (aH (pv 1))));refine⟨b6 _,λz hz=> ?_⟩;have s0:ah H (upd H z (.lst [])):=ah.new hz;exists λm σ U=>∃(xs:M AX)(rest:M AC)(v3:aG V),m=rest.length/\σ=[I (.ref l),I (.ref z),I (.int (((xs.map (·.2)).flatMap AC.enc).length:Nat)),v3]/\xs.map (·.2)++rest=as/\ah H U/\U z=I (.lst (m5 xs))/\sf K q H (cB U z) xs,⟨_,[],as,ak,G,G,G,s0,ay,λx hx=>(eG hx).elim⟩;rintro m σ U⟨xs,rest,v3,rfl,rfl,e1,s1,my,C1⟩;exists _,G,_,G,l,_,G,.inl (s1.seq hL),_,_,G,G,_,G;rw[aE];have e2:(as.flatMap AC.enc).length=((xs.map (·.2)).flatMap AC.enc).length+(rest.flatMap AC.enc).length:=by rw[<-e1,qQ,bD]
 cases rest with
 |nil=>rw[aV (by rw[e2];show¬(_:Int)<((_+0:Nat):Int);lia)];rw[jT]at e1;exact bX ⟨_,G,k U z xs s1 hz my e1 (C1.same (kR _ _))⟩
 |cons x rest=>
  have hY:=agL x
  have al:((xs.map (·.2)).flatMap AC.enc).length<(as.flatMap AC.enc).length:=by rw[e2,gW,bD];lia
  rw[aP (by lia)];have ea:as.flatMap AC.enc=(xs.map (·.2)).flatMap AC.enc++(x.enc++rest.flatMap AC.enc):=by rw[<-e1,qQ,gW]
  refine bK ⟨λσ' H2=>∃(xs:M AX)(v3:aG V),σ'=[I (.ref l),I (.ref z),I (.int (((xs.map (·.2)).flatMap AC.enc).length:Nat)),v3]/\xs.map (·.2)++rest=as/\ah H H2/\H2 z=I (.lst (m5 xs))/\sf K q H (cB H2 z) xs,λσ' H2⟨xs,v3,q1,q2⟩=>⟨rest.length,by rw[bT];lia,xs,rest,v3,G,q1,q2⟩,?_⟩;refine⟨_,G,_,G,l,(xs.map (·.2)).flatMap AC.enc,rest.flatMap AC.enc,x,G,by rw[<-ea];exact s1.seq hL,aQ x (by rw[<-e1];exact ki _ bW),λH2 a s2 C2=> ?_⟩;have G5:=s2 _ _ my;obtain⟨dx,na,n,r,c1,c2,c3,dt,pp,y6⟩:=C2.agF s1;have R5:a≠z:=λe=>by rw[e,G5]at c1;cases c1
  have hnz:n≠z:=λe=>by obtain⟨_,_,n',_,d1,_,_,_,Ha,_⟩:=C2;rw[c1]at d1;cases d1;rw[e,my]at Ha;cases Ha
  have hrz:r≠z:=λe=>by obtain⟨_,_,_,r',d1,_,_,_,_,xn⟩:=C2;rw[c1]at d1;cases d1;rw[e,my]at xn;cases xn
  have w2:(m5 xs).length<=1000:=by have:=cC qG e1;rw[bD,aE]at this;unfold m5;rw[aE];lia
  refine⟨_,G,.inl ⟨G,_,az.of G5⟩,_,G,z,_,_,G,G,G5,by rw[cY];lia,?_⟩;exists _,G,a,q.C,dx,_,_,G,by rw[aD R5];exact c1,N.cl,N.end_,G;exists xs++[(a,x)],I (.ref a),?_,by rw[dH,iu];exact e1,λb o e=>by rw[aD (b_ e hz)];exact s2 _ _ (s1 _ _ e),by rw[ay];unfold m5;rw[dH];rfl
  .rw[dH,qQ,bD];show _=[I (V.ref l),I (V.ref z),I (V.int ((_+((x.enc++[]).length:Nat):Nat):Int)),I (V.ref a)];rw[jT];rfl
  rw[Ah];intro y hy;obtain hy|hy:=dG.mp hy
  .obtain⟨e,hy⟩:=C1 y hy;exists e,hy.same (Fy s2)
  cases nu.mp hy;exists _,dx,na,n,r,fW R5 c1,fW hnz c2,fW hrz c3,dt,pp,y6
end Sp
namespace Sp
open PySem PySem.Spec PyProof.Rows L2 Sg
open Vbcuaf (House whenOk isJourney isTime isPrincipal isOffice isMoney within onJourney)
noncomputable def nV:M (aj×fV):=[("known",ET),("status",EK),("keeper",EJ),("way",EM),("faults",EN),("missing",ER),("seals",ES),("reserved",Ff),("peak",Fi),("shorts",Ft),("overdue",EX),("may",Fp),("plan",GB),("then",Fv),("was",Fw),("broken",E2),("journeys",E5),("check",Gg),("printed",GG),("would",Gq),("at",EY),("road",E1),("when",Fq),("counts",E6)]
def sj:M (aj×rX):=[("journey",FJ),("guarantee",FP),("tell",Ak),("letter",AA)]
def kc(names:M aj)(nums:M Int):aG Int:=if names.contains "j"=aa then nums[names.findIdx λn=>decide (n=("j":aj))]? else ak
structure sr(h:House)(x:AC):Prop where
 bad:dD x.fm.2.1 x.nums=ao->gE h x.raw=(h,[-1])
 R6:dD x.fm.2.1 x.nums=aa->∀n,kc x.fm.2.1 x.nums=I n->iJ h n=ao->gE h x.raw=(h,[-3])
 go:dD x.fm.2.1 x.nums=aa->(∀n,kc x.fm.2.1 x.nums=I n->iJ h n=aa)->(∃A,(x.fm.1,A)∈sj/\A h x.nums x.row (gE h x.raw).1 (gE h x.raw).2)\/((gE h x.raw).1=h/\∃A,(x.fm.1,A)∈nV/\A h x.nums x.row (gE h x.raw).2)
def nW:dD [] []=aa:=rfl
def xJ n a:dD [n] [a]=inR n a:=by show(aa&&(inR n a&&aa))=_;rw[eB,yw]
def G6 n m a b:dD [n,m] [a,b]=(inR n a&&inR m b):=by show(aa&&(inR n a&&(inR m b&&aa)))=_;rw[eB,yw]
def G7 n m o a b c:dD [n,m,o] [a,b,c]=(inR n a&&(inR m b&&inR o c)):=by show(aa&&(inR n a&&(inR m b&&(inR o c&&aa))))=_;rw[eB,yw]
def agN n m o p a b c d:dD [n,m,o,p] [a,b,c,d]=(inR n a&&(inR m b&&(inR o c&&inR p d))):=by show(aa&&(inR n a&&(inR m b&&(inR o c&&(inR p d&&aa)))))=_;rw[eB,yw]
def G8 a:inR "j" a=isJourney a:=eU (by decide)
def qA a:inR "t" a=isTime a:=eU (by decide)
def uL a:inR "p" a=isPrincipal a:=eU (by decide)
def R7 a:inR "o" a=isOffice a:=eU (by decide)
def R8 a:inR "n" a=within a 0 40:=eU (by decide)
def R9 a:inR "money" a=isMoney a:=eU (by decide)
def agO a:inR "hundredths" a=within a 1 100:=eU (by decide)
def agP a:inR "limit" a=within a 1 1000000:=eU (by decide)
variable{h:House}
def lW{raw:M (M Int)}{b:Bool}{c:Vw}(e:tE raw=whenOk b c):gE h raw=if b=aa then gD h c else(h,[-1]):=by unfold gE whenOk at*;rw[e];cases b<;>rfl
def uM(J:jm h.journeys){n:Nat}{f:bw->House×alZ}:(iJ h (n:Int)=ao->onJourney h n f=(h,[-3]))/\(iJ h (n:Int)=aa->∃j,j∈h.journeys/\j.number=n/\onJourney h n f=f j):=by
 rw[Pd J];unfold onJourney;cases e:ny h n with
 |none=>exact⟨λ_=>G,λz=>by cases z⟩
 |some j=>refine⟨λz=>(by cases z),λ_=>⟨j,IE e,?_,G⟩⟩;have:=UR e;simpa using this
variable{i:Nat}{nm:aj}{a b:Int}{A:fV}
def AH(J:jm h.journeys){mk:Nat->Nat->Vw}{g:bw->Nat->M Int}(hm:(nm,A)∈nV)(hc:tE [[(i:Int),a,b]]=whenOk (isJourney a&&isTime b) (mk a.toNat b.toNat))(hs:∀n t,gD h (mk n t)=onJourney h n λj=>(h,g j t))(hA:∀j t,j∈h.journeys->A h [(j.number:Int),(t:Nat)] [] (g j t)):
  sr h ⟨i,(nm,["j","t"],ao),[a,b],[]⟩:=by
 have e:=lW (h:=h) hc;have hf:dD ["j","t"] [a,b]=(isJourney a&&isTime b):=by rw[G6,G8,qA]
 have hj:kc ["j","t"] [a,b]=I a:=rfl
 have nat:(isJourney a&&isTime b)=aa->(a.toNat:Int)=a/\(b.toNat:Int)=b:=λz=>by rw[cU]at z;exact⟨(ef z.1 (by decide)).1,(ef z.2 (by decide)).1⟩
 exists λz=> ?_,λz n hn hz=> ?_,λz hz=>.inr ?_
 .rw[hf]at z;exact e.trans (au (by rw[z];decide))
 .rw[hf]at z;have:=(cG (hj.symm.trans hn)).symm;subst this;rw[<-(nat z).1]at hz;exact e.trans ((av z).trans ((hs _ _).trans ((uM J).1 hz)))
 rw[hf]at z;have hz:=hz a hj;rw[<-(nat z).1]at hz;obtain⟨j,j1,j2,y7⟩:=(uM J).2 hz;have e2:gE h (AC.raw ⟨i,(nm,["j","t"],ao),[a,b],[]⟩)=(h,g j b.toNat):=e.trans ((av z).trans ((hs _ _).trans y7));rw[e2];exists G,A,hm;have:=hA j b.toNat j1;rw[j2,(nat z).1,(nat z).2]at this;exact this
def AI(J:jm h.journeys){mk:Nat->Vw}{g:bw->M Int}(hm:(nm,A)∈nV)(hc:tE [[(i:Int),a]]=whenOk (isJourney a) (mk a.toNat))(hs:∀n,gD h (mk n)=onJourney h n λj=>(h,g j))(hA:∀j,j∈h.journeys->A h [(j.number:Int)] [] (g j)):
  sr h ⟨i,(nm,["j"],ao),[a],[]⟩:=by
 have e:=lW (h:=h) hc;have hf:dD ["j"] [a]=isJourney a:=by rw[xJ,G8]
 have hj:kc ["j"] [a]=I a:=rfl;have nat:isJourney a=aa->(a.toNat:Int)=a:=λz=>(ef z (by decide)).1;exists λz=> ?_,λz n hn hz=> ?_,λz hz=>.inr ?_
 .rw[hf]at z;exact e.trans (au (by rw[z];decide))
 .rw[hf]at z;have:=(cG (hj.symm.trans hn)).symm;subst this;rw[<-nat z]at hz;exact e.trans ((av z).trans ((hs _).trans ((uM J).1 hz)))
 rw[hf]at z;have hz:=hz a hj;rw[<-nat z]at hz;obtain⟨j,j1,j2,y7⟩:=(uM J).2 hz;have e2:gE h (AC.raw ⟨i,(nm,["j"],ao),[a],[]⟩)=(h,g j):=e.trans ((av z).trans ((hs _).trans y7));rw[e2];exists G,A,hm;have:=hA j j1;rw[j2,nat z]at this;exact this
def h_{names:M aj}{nums row:M Int}{R_:Bool}(hj:names.contains "j"=ao){b:Bool}{r:House×alZ}(hf:dD names nums=b)(e:gE h (AC.raw ⟨i,(nm,names,R_),nums,row⟩)=if b=aa then r else(h,[-1]))
  (dq:b=aa->(∃A,(nm,A)∈sj/\A h nums row r.1 r.2)\/(r.1=h/\∃A,(nm,A)∈nV/\A h nums row r.2)):sr h ⟨i,(nm,names,R_),nums,row⟩:=by
 exists λz=> ?_,λz n hn hz=> ?_,λz hz=> ?_
 .have z:=hf.symm.trans z;rw[e,au (by rw[z];decide)]
 .unfold kc at hn;rw[hj,au (by decide)]at hn;cases hn
 have z:=hf.symm.trans z;rw[e,av z];exact dq z
def n1{lo hi:Int}(z:within a lo hi=aa)(h0:0<=lo:=by decide):(a.toNat:Int)=a:=(ef z h0).1
variable{l1 G9 l2 u2:Int}
def n2(z:(within a l1 G9&&within b l2 u2)=aa)(h1:0<=l1:=by decide)(h2:0<=l2:=by decide):(a.toNat:Int)=a/\(b.toNat:Int)=b:=by rw[cU]at z;exists n1 z.1 h1,n1 z.2 h2
variable{d:Int}
def n3{Fn G_:Int}(z:(within a l1 G9&&(within b l2 u2&&within d Fn G_))=aa)(h1:0<=l1:=by decide)(h2:0<=l2:=by decide)(h3:0<=Fn:=by decide):(a.toNat:Int)=a/\(b.toNat:Int)=b/\(d.toNat:Int)=d:=by rw[cU]at z;exists n1 z.1 h1,n2 z.2 h2 h3
def agQ o:nM o=(decide (2<=o.length)&&(decide (o.length<=6)&&o.all isOffice)):=by unfold nM;rw[Bool.and_assoc,show inR "o"=isOffice from funext R7]
def agR(J:jm h.journeys):sr h ⟨17,("was",["n","j","t"],ao),[a,b,d],[]⟩:=by
 have e:gE h (AC.raw ⟨17,("was",["n","j","t"],ao),[a,b,d],[]⟩)=if(within a 0 40&&(isJourney b&&isTime d))=aa then gD h (.wasAt a.toNat b.toNat d.toNat)else(h,[-1]):=lW G;have hf:dD ["n","j","t"] [a,b,d]=(within a 0 40&&(isJourney b&&isTime d)):=by rw[G7,R8,G8,qA]
 have hj:kc ["n","j","t"] [a,b,d]=I b:=rfl;have hs:gD h (.wasAt a.toNat b.toNat d.toNat)=if h.tells.length<a.toNat then(h,[-3])else onJourney h b.toNat λj=>(h,0::qM (jx (kF h a.toNat) j d.toNat)):=rfl;exists λz=> ?_,λz n hn hz=> ?_,λz hz=>.inr ?_
 .rw[hf]at z;exact e.trans (au (by rw[z];decide))
 .rw[hf]at z;have:=(cG (hj.symm.trans hn)).symm;subst this;rw[<-(n3 z).2.1]at hz;refine e.trans ((av z).trans (hs.trans ?_));split
  .rfl
  exact(uM J).1 hz
 rw[hf]at z;have hz:=hz b hj;rw[<-(n3 z).2.1]at hz;obtain⟨j,j1,j2,y7⟩:=(uM J).2 hz
 have e2:gE h (AC.raw ⟨17,("was",["n","j","t"],ao),[a,b,d],[]⟩)=(h,if h.tells.length<a.toNat then [-3]else 0::qM (jx (kF h a.toNat) j d.toNat)):=by
  refine e.trans ((av z).trans (hs.trans ?_));split
  .rfl
  exact y7
 rw[e2];exists G,Fw,(bN (i:=14) G),a.toNat,j,d.toNat,?_,j1,G;rw[j2,(n3 z).1,(n3 z).2.1,(n3 z).2.2]
theorem agS(H:z7 h)(hn:∀n∈bq h,gf n){x:AC}(ok:x.Ok)(hr:x.row.length<=20000):sr h x:=by
 have J:=H.js;have Z:zQA (λi fm=>∀nums row,nums.length=fm.2.1.length->(fm.2.2=ao->row=[])->row.length<=20000->sr h ⟨i,fm,nums,row⟩) 0 oz:=by
  repeat' first|exact trivial|refine And.intro ?_ ?_
  all_goals intro nums row h2 h3 hr
  .obtain⟨a,b,d,e,rfl⟩:=zQ4 h2;refine h_ G (by rw[agN,uL,R9,agO,agP]) ?_ λz=>.inl ⟨FJ,(bN (i:=0) G),a.toNat,b.toNat,d.toNat,e.toNat,?_,?_,G⟩
   .refine(lW G).trans ?_;rw[agQ];cases isPrincipal a<;>cases isMoney b<;>cases within d 1 100<;>cases within e 1 1000000<;>rfl
   .rw[cU]at z;obtain⟨g2,g3,ev⟩:=n3 z.2;rw[n1 z.1,g2,g3,ev]
   rw[cU,cU]at z;have:=ef z.2.1 (by decide);lia
  .cases h3 G;obtain⟨a,b,d,rfl⟩:=zQ3 h2;refine h_ G (by rw[G7,uL,qA,R9]) (lW G) λz=>.inl ⟨FP,(bN (i:=1) G),a.toNat,b.toNat,d.toNat,?_,G⟩;obtain⟨g1,g2,g3⟩:=n3 z;rw[g1,g2,g3]
  .cases yx h2;refine h_ G nW ?_ λ_=>.inl ⟨Ak,(bN (i:=2) G),G⟩
   have e:tE (AC.raw ⟨2,("tell",[],aa),[],row⟩)=(nP row).map .tell:=by show(if decide (row.length<=80)=aa then(qU 10 row).map anl else ak)=_;unfold nP;split<;>rfl
   unfold gE;rw[e];cases nP row<;>rfl
  .cases h3 G;cases yx h2;exact h_ G nW (r:=gD h .known) G λ_=>.inr ⟨G,ET,(bN (i:=0) G),G⟩
  .cases h3 G;obtain⟨a,b,rfl⟩:=zQ2 h2;exact AH J (A:=EK) (bN (i:=1) G) G (λn t=>G) λj t hj=>⟨j,t,G,hj,G⟩
  .cases h3 G;obtain⟨a,b,rfl⟩:=zQ2 h2;exact AH J (A:=EJ) (bN (i:=2) G) G (λn t=>G) λj t hj=>⟨j,t,G,hj,G⟩
  .cases h3 G;obtain⟨a,rfl⟩:=zQ1 h2;exact AI J (A:=EM) (bN (i:=3) G) G (λn=>G) λj hj=>⟨j,G,hj,G⟩
  .cases h3 G;obtain⟨a,rfl⟩:=zQ1 h2;exact AI J (A:=EN) (bN (i:=4) G) G (λn=>G) λj hj=>⟨j,G,hj,G⟩
  .cases h3 G;obtain⟨a,rfl⟩:=zQ1 h2;exact AI J (A:=ER) (bN (i:=5) G) G (λn=>G) λj hj=>⟨j,G,hj,G⟩
  .cases h3 G;obtain⟨a,rfl⟩:=zQ1 h2;exact AI J (A:=ES) (bN (i:=6) G) G (λn=>G) λj hj=>⟨j,G,hj,G⟩
  .cases h3 G;obtain⟨a,b,rfl⟩:=zQ2 h2;exact h_ G (by rw[G6,uL,qA]) (lW G) λz=>.inr ⟨G,Ff,(bN (i:=7) G),a.toNat,b.toNat,(by rw[(n2 z).1,(n2 z).2]),G⟩
  .cases h3 G;obtain⟨a,rfl⟩:=zQ1 h2;exact h_ G (by rw[xJ,uL]) (lW G) λz=>.inr ⟨G,Fi,(bN (i:=8) G),a.toNat,(by rw[n1 z]),G⟩
  .cases h3 G;obtain⟨a,rfl⟩:=zQ1 h2;exact h_ G (by rw[xJ,uL]) (lW G) λz=>.inr ⟨G,Ft,(bN (i:=9) G),a.toNat,(by rw[n1 z]),G⟩
  .cases h3 G;obtain⟨a,rfl⟩:=zQ1 h2;exact h_ G (by rw[xJ,qA]) (lW G) λz=>.inr ⟨G,EX,(bN (i:=10) G),a.toNat,(by rw[n1 z]),G⟩
  .cases h3 G;obtain⟨a,b,rfl⟩:=zQ2 h2;exact AH J (A:=Fp) (bN (i:=11) G) G (λn t=>by show onJourney h n _=onJourney h n _;congr 1;funext j;split<;>rfl) λj t hj=>⟨j,t,G,hj,G⟩
  .cases yx h2;refine h_ G nW (r:=(h,match nU row with|none=>[-1]|some l=>match BG l with|none=>[-5]|some x=>0::(x.1:Int)::jy x.2)) ?_ λ_=>.inr ⟨G,GB,(bN (i:=12) G),hr,G⟩
   have e:tE (AC.raw ⟨15,("plan",[],aa),[],row⟩)=(nU row).map .plan:=by show(if(decide (1<=row.length)&&decide (row.length<=48))=aa then(gm 6 row).map anm else ak)=_;unfold nU;split<;>rfl
   unfold gE;rw[e];cases nU row<;>rfl
  .cases h3 G;obtain⟨a,b,d,rfl⟩:=zQ3 h2;refine h_ G (by rw[G7,R8,uL,qA]) (r:=(h,if h.tells.length<a.toNat then [-3]else [0,(vp (kF h a.toNat) h.journeys b.toNat d.toNat:Int)])) ?_ λz=>.inr ⟨G,Fv,(bN (i:=13) G),a.toNat,b.toNat,d.toNat,(by rw[(n3 z).1,(n3 z).2.1,(n3 z).2.2]),G⟩;refine(lW G).trans ?_;show(if _=aa then(if h.tells.length<a.toNat then(h,[-3])else(h,_))else _)=_;split
   .split<;>rfl
   rfl
  .cases h3 G;obtain⟨a,b,d,rfl⟩:=zQ3 h2;exact agR J
  .cases h3 G;cases yx h2;exact h_ G nW (r:=gD h .broken) G λ_=>.inr ⟨G,E2,(bN (i:=15) G),G⟩
  .cases h3 G;cases yx h2;exact h_ G nW (r:=gD h .journeys) G λ_=>.inr ⟨G,E5,(bN (i:=16) G),G⟩
  .cases yx h2;refine h_ G nW (r:=match iM 1200 row with|none=>(h,[-1])|some t=>match i_ t with| .error _=>(h,[-5])| .ok l=>vv h l) ?_ λ_=>.inl ⟨AA,(bN (i:=3) G),G⟩;have e:tE (AC.raw ⟨20,("letter",[],aa),[],row⟩)=(iM 1200 row).map .letter:=rfl;unfold gE;rw[e];cases iM 1200 row with
   |none=>rfl
   |some t=>show gD h (.letter t)=_;unfold gD;simp only;cases i_ t<;>first|rfl|(simp only;split<;>rfl)
  .cases yx h2;refine h_ G nW (r:=(h,match iM 1200 row with|none=>[-1]|some t=>match i_ t with| .error e=>[0,(e.1:Int),(e.2:Int)]| .ok _=>[0,0,0])) ?_ λ_=>.inr ⟨G,Gg,(bN (i:=17) G),hr,G⟩;have e:tE (AC.raw ⟨21,("check",[],aa),[],row⟩)=(iM 1200 row).map .check:=rfl;unfold gE;rw[e];cases iM 1200 row with
   |none=>rfl
   |some t=>show gD h (.check t)=_;unfold gD;simp only;cases i_ t<;>first|rfl|(simp only;split<;>rfl)
  .cases h3 G;cases yx h2;exact h_ G nW (r:=gD h .print) G λ_=>.inr ⟨G,GG,(bN (i:=18) G),hn,by have:=H.small h.tells.length;exact cX this (by decide),G⟩
  .cases yx h2;refine h_ G nW (r:=(h,match iM 1200 row with|none=>[-1]|some t=>match i_ t with| .error e=>[-5]| .ok l=>if(l.all λn=>(ny h n.journey).isSome)=ao then [-3]else 0::(jy (qX (bq h) (mw l (bq h)) h.journeys)++jy (vB (bq h) (mw l (bq h)) h.journeys h.guarantees)))) ?_ λ_=>.inr ⟨G,Gq,(bN (i:=19) G),hr,G⟩;have e:tE (AC.raw ⟨23,("would",[],aa),[],row⟩)=(iM 1200 row).map .would:=rfl;unfold gE;rw[e];cases iM 1200 row with
   |none=>rfl
   |some t=>show gD h (.would t)=_;unfold gD;simp only;cases i_ t<;>first|rfl|(simp only;split<;>rfl)
  .cases h3 G;obtain⟨a,b,rfl⟩:=zQ2 h2;exact h_ G (by rw[G6,R7,qA]) (lW G) λz=>.inr ⟨G,EY,(bN (i:=20) G),a.toNat,b.toNat,(by rw[(n2 z).1,(n2 z).2]),G⟩
  .cases h3 G;obtain⟨a,rfl⟩:=zQ1 h2;exact h_ G (by rw[xJ,qA]) (lW G) λz=>.inr ⟨G,E1,(bN (i:=21) G),a.toNat,(by rw[n1 z]),G⟩
  .cases h3 G;obtain⟨a,b,rfl⟩:=zQ2 h2;exact AH J (A:=Fq) (bN (i:=22) G) G (λn t=>by show onJourney h n _=onJourney h n _;congr 1;funext j;split<;>rfl) λj t hj=>⟨j,t,G,hj,G⟩
  .cases h3 G;cases yx h2;exact h_ G nW (r:=gD h .counts) G λ_=>.inr ⟨G,E6,(bN (i:=23) G),G⟩
 have:=Z.zQg ok.AG x.nums x.row ok.nums ok.row hr;rwa[Nat.zero_add]at this
end Sp
namespace Sp
open PySem PySem.Spec PyProof.Rows L2 Sg
open Vbcuaf (House)
def su(h:House):Prop:=∀l∈h.tells,∀n∈l,gf n
theorem Sa:∀l k,(∀n∈l,gf n)->(∀n∈k,gf n)->∀n∈mw l k,gf n
 |[],k,_,hk=>hk|n::l,k,hl,hk=>Sa l (nj n k) (λx hx=>hl x (bZ _ hx)) λx hx=>by
  obtain e|e:=zA hx
  .rw[e];exact hl n bW
  exact hk x e
variable{h:House}
def agT(ab:su h):∀n∈bq h,gf n:=by
 have key:∀(ls:M (M bO))(k:M bO),(∀l∈ls,∀n∈l,gf n)->(∀n∈k,gf n)->∀n∈ls.foldl (λk l=>mw l k) k,gf n:=by
  intro ls;induction ls with
  |nil=>intro k _ hk;exact hk
  |cons l ls ih=>intro k hl hk;exact ih _ (λx hx=>hl x (bZ _ hx)) (Sa l k (hl l bW) hk)
 exact key _ _ (λl hl=>ab l (UZ hl)) λn hn=>(eG hn).elim
def Sb(ab:su h){l:M bO}(hl:∀n∈l,gf n):su (vv h l).1:=by
 unfold vv;simp only;split
 .exact ab
 split
 .exact ab
 intro x hx;obtain z|z:=dG.mp hx
 .exact ab x z
 cases nu.mp z;exact hl
theorem Sd:∀f l ns,qU f l=I ns->∀n∈ns,gf n
 |0,[],ns,h=>by cases h;exact λn hn=>(eG hn).elim
 |0,_::_,ns,h=>by cases h
 |f+1,[],ns,h=>by cases h;exact λn hn=>(eG hn).elim
 |f+1,[a],ns,h=>by cases h
 |f+1,[a,b],ns,h=>by cases h
 |f+1,[a,b,c],ns,h=>by cases h
 |f+1,[a,b,c,d],ns,h=>by cases h
 |f+1,[a,b,c,d,e],ns,h=>by cases h
 |f+1,[a,b,c,d,e,t],ns,h=>by cases h
 |f+1,[a,b,c,d,e,t,x],ns,h=>by cases h
 |f+1,a::b::c::d::e::t::x::y::r,ns,h=>by
  have hu:qU (f+1) (a::b::c::d::e::t::x::y::r)=if qm a b c d e t x y=aa then(qU f r).map λq=>⟨a.toNat,b.toNat,c.toNat,d.toNat,e.toNat,t.toNat,x.toNat,y.toNat⟩::q else ak:=rfl;rw[hu]at h;cases hb:qm a b c d e t x y with
  |false=>rw[hb]at h;cases h
  |true=>
   rw[hb,av G]at h;obtain⟨q,h1,rfl⟩:=gP.mp h;unfold qm at hb;simp only[cU]at hb;have g1:=ef hb.1 (by decide);have g2:=ef hb.2.1 (by decide);have g3:=ef hb.2.2.1 (by decide);have ev:=ef hb.2.2.2.1 (by decide);have g5:=ef hb.2.2.2.2.1 (by decide);have mo:=ef hb.2.2.2.2.2.1 (by decide);have mr:=ef hb.2.2.2.2.2.2.1 (by decide);have pc:=ef hb.2.2.2.2.2.2.2 (by decide);intro n hn;obtain z|z:=bh.mp hn
   .subst z;refine⟨by show e.toNat<=4;lia,?_⟩;unfold cM;simp only[bh,eG,tD,Jb,Jc];exact⟨by lia,by lia,by lia,by lia,by lia,by lia,by lia,by lia⟩
   exact(Sd f r q h1) n z
variable{l:M iB}
def sA{lo hi:Nat}{x:Nat×M iB}(h:Vr lo hi l= .ok x):x.1<=hi:=by
 unfold Vr at h;split at h
 .split at h
  .cases h
  split at h
  .rename_i hc;cases h;exact hc.2
  cases h
 cases h
theorem agU{x:bO×M iB}(h:qV l= .ok x):gf x.1:=by exists Gf h;have hk:=Gf h;obtain⟨x1,g1,h⟩:=eu h;obtain⟨x2,_,h⟩:=eu h;obtain⟨x3,g3,h⟩:=eu h;obtain⟨afK,_,h⟩:=eu h;obtain⟨afL,g5,h⟩:=eu h;obtain⟨Q8,mo,h⟩:=eu h;obtain⟨N0,_,h⟩:=eu h;obtain⟨afM,pc,h⟩:=eu h;obtain⟨afN,_,h⟩:=eu h;obtain⟨x10,X1,h⟩:=eu h;obtain⟨x11,_,h⟩:=eu h;obtain⟨x12,g12,h⟩:=eu h;obtain⟨x13,_,h⟩:=eu h;obtain⟨x14,g14,h⟩:=eu h;obtain⟨x15,_,h⟩:=eu h;cases h;have cx:=sA g1;have f8:=sA g3;have lv:=sA g5;have amy:=sA pc;have a10:=sA X1;have a12:=sA g12;have a14:=sA g14;have hk:Q8.1<=4:=hk;unfold cM;simp only[bh,eG,tD,Jb,Jc];exact⟨by lia,by lia,by lia,by lia,by lia,by lia,by lia,by lia⟩
def agV:∀{f:Nat}{l:M iB}{ns:M bO},gn f l= .ok ns->∀n∈ns,gf n:=by
 intro f;induction f with
 |zero=>
  intro l ns h;unfold gn at h;split at h
  .cases h;exact λx hx=>(eG hx).elim
  cases h
 |succ f ih=>
  intro l ns h;unfold gn at h;split at h
  .cases h;exact λx hx=>(eG hx).elim
  cases hn:qV l with
  |error e=>rw[hn]at h;cases h
  |ok x=>
   rw[hn]at h;simp only at h;cases hr:gn f x.2 with
   |error e=>rw[hr]at h;cases h
   |ok r=>
    rw[hr]at h;cases h;intro z hz;obtain q|q:=bh.mp hz
    .rw[q];exact agU hn
    exact ih hr z q
def agW(ab:su h){x:AC}(S:sr h x):su (gE h x.raw).1:=by
 cases hf:dD x.fm.2.1 x.nums with
 |false=>rw[S.bad hf];exact ab
 |true=>
  by_cases hj:∃n,kc x.fm.2.1 x.nums=I n/\iJ h n=ao
  .obtain⟨n,h1,h2⟩:=hj;rw[S.R6 hf n h1 h2];exact ab
  rcases S.go hf λn hn=>by
   cases hz:iJ h n with
   |true=>rfl
   |false=>exact aU ⟨n,hn,hz⟩ hj
   with⟨A,hA,r⟩|⟨e,_⟩
  .simp only[sj,bh,eG,tD,By]at hA;generalize(gE h x.raw).1=h' at r⊢;generalize(gE h x.raw).2=out at r;obtain⟨_,rfl⟩|⟨_,rfl⟩|⟨_,rfl⟩|⟨_,rfl⟩:=hA
   .obtain⟨p,a,r',l,_,_,e⟩:=r;have e:=cC BK e;have e:h'=_:=e;rw[e];split
    .unfold gD;simp only;split
     .exact ab
     split<;>exact ab
    exact ab
   .obtain⟨p,t,a,_,e⟩:=r;have e:h'=_:=cC BK e;rw[e];unfold gD;simp only;split<;>exact ab
   .have e:h'=_:=cC BK r;rw[e];cases hs:nP x.row with
    |none=>exact ab|some l=>
     unfold nP at hs;split at hs
     .exact Sb ab (Sd _ _ _ hs)
     cases hs
   have e:h'=_:=cC BK r;rw[e];cases iM 1200 x.row with
   |none=>exact ab
   |some t=>
    simp only;cases hl:i_ t with
    |error e=>exact ab
    |ok l=>exact Sb ab (agV hl)
  rw[e];exact ab
def agX:su gk:=λl hl=>(eG hl).elim
end Sp
namespace Sp
open PySem PySem.Spec PyProof.Rows L2 Sg
variable{P:bY}{w:bR}{K:aR}{mg:aj->aG aq}{ai:bB}{c:fh}
structure Hf(P:bY)(w:bR)(K:aR)(mg:aj->aG aq)(ai:bB)(c:fh):Prop where
 ex:∃a ae,mg "ASKERS"=I (.ref a)/\oW P w K a ae/\∀nm A,(nm,A)∈nV->∃f fd k,dB ae (.inr nm)=I (.ref f)/\aM P w K mg ai aO k f fd dh (fj K c A)/\k<=12/\kZ K (.ref f)=aa/\Binds K fd dh []
structure AK(P:bY)(w:bR)(K:aR)(mg:aj->aG aq)(ai:bB)(c:fh):Prop where
 ex:∃a ae,mg "TELLERS"=I (.ref a)/\oW P w K a ae/\(∀nm A,(nm,A)∈sj->∃f fd k,dB ae (.inr nm)=I (.ref f)/\aM P w K mg ai aO k f fd dh (uA K c A)/\k<=12/\kZ K (.ref f)=aa/\Binds K fd dh [])/\∀nm A,(nm,A)∈nV->dB ae (.inr nm)=ak
variable{q:cW}
inductive Se K c(q:cW)(vs:M V)H(Q:VK)(E:XK):Prop|mk(b a:af)(h:dN)(H0:Hp)(x:AC)(e:Nat)(A:fV)(out:M Int)(_:vs=[.ref b,.ref a])(_:iT c H b h)(_:kW K q H0 H a x e)(_:(x.fm.1,A)∈nV)(_:A h x.nums x.row out)(_:∀U p,ah H U->U p=I (.lst (out.map V.int))->Q (.ref p) U)
def agY:gq ["book","call"] ["book","call"] (cz (top 157)):=iQ
variable{f:af}{fd:gC}
def agZ(F:bf K "answer_asked" (top 157) f fd)(N:qz K q.C)(ar:Hf P w K mg ai c):aM P w K mg ai aO 13 f fd ["book","call"] (Se K c q):=by
 refine F.ok agY (λvs H Q E h=> ?_) (λa6 A b8 s H vs Q E hr h=> ?_)
 .obtain⟨b,a,h,H0,x,e,A,out,rfl,_⟩:=h;rfl
 obtain⟨b,a,h,H0,x,e,A,out,rfl,BA,⟨dx,na,n,r,c1,c2,c3,dt,_,_⟩,hA,ax,k⟩:=h;obtain⟨ga,ae,g1,g2,g3⟩:=ar.ex;obtain⟨fa,Hg,Hh,v1,v2,v3,v4,v5⟩:=g3 x.fm.1 A hA;exists _,aH (Ox (zV (fz (by rfl) g1 (show RelV (.ref ga) _ from G)) (aS 1) (λ_ _=>G)) hr (cg (pv 0) (aS 1) (aS 1))),_,G,a,q.C,dx,_,_,G,c1,N.cl,N.name,G,ga,ae,.inr x.fm.1,.ref fa,G,g2,G,v1,fa,Hg,_,_,Hh,G,v2,v3,v4,v5,_,G,_,G,a,q.C,dx,_,_,G,c1,N.cl,N.numbers,G,_,G,a,q.C,dx,_,_,G,c1,N.cl,N.row,G,b,n,r,h,x.nums,x.row,out,G,BA,az.of c2,az.of c3,ax,k
inductive Sf K(q:cW)(vs:M V)H(Q:VK)(E:XK):Prop|mk(a:af)(H0:Hp)(x:AC)(e:Nat)(b:Bool)(_:vs=[.ref a])(_:kW K q H0 H a x e)(_:((b=aa/\∃A,(x.fm.1,A)∈sj)\/(b=ao/\∃A,(x.fm.1,A)∈nV)))(_:Q (.bl b) H)
def ag0:gq ["call"] ["call"] (cz (top 172)):=iQ
def ag1(F:bf K "is_telling" (top 172) f fd)(N:qz K q.C)(ar:AK P w K mg ai c):aM P w K mg ai aO 1 f fd ["call"] (Sf K q):=by
 refine F.ok ag0 (λvs H Q E h=> ?_) (λa6 A b8 s H vs Q E hr h=> ?_)
 .obtain⟨a,H0,x,e,b,rfl,_⟩:=h;rfl
 obtain⟨a,H0,x,e,b,rfl,⟨dx,na,n,r,c1,c2,c3,dt,_,_⟩,hb,k⟩:=h;obtain⟨ga,ae,g1,g2,g3,ev⟩:=ar.ex;exists _,aH (WJ (acp (aS 0) (fz (by rfl) g1 (show RelV (.ref ga) _ from G))) (by with_unfolding_all rfl)),_,G,a,q.C,dx,_,_,G,c1,N.cl,N.name,G,ga,ae,.inr x.fm.1,G,g2,G;obtain⟨rfl,A,hA⟩|⟨rfl,A,hA⟩:=hb
 .obtain⟨_,_,_,v1,_⟩:=g3 _ A hA;rw[v1];exact k
 rw[ev _ A hA];exact k
inductive Si K c(q:cW)(vs:M V)H(Q:VK)(E:XK):Prop|mk(b a dx lj lg lh:af)(h h':dN)(H0:Hp)(x:AC)(e:Nat)(A:rX)(out:M Int)(_:vs=[.ref b,.ref a])(_:gy c H b h dx lj lg lh)(_:kW K q H0 H a x e)(_:x.row.length<=20000)(_:(x.fm.1,A)∈sj)(_:A h x.nums x.row h' out)(_:∀U p,gy c U b h' dx lj lg lh->Rest H U lj lg lh->U p=I (.lst (out.map V.int))->Q (.ref p) U)
def ag2:gq ["book","call"] ["book","call"] (cz (top 173)):=iQ
def ag3(F:bf K "answer_told" (top 173) f fd)(N:qz K q.C)(ar:AK P w K mg ai c):aM P w K mg ai aO 13 f fd ["book","call"] (Si K c q):=by
 refine F.ok ag2 (λvs H Q E h=> ?_) (λa6 A b8 s H vs Q E hr h=> ?_)
 .obtain⟨b,a,dx,lj,lg,lh,h,h',H0,x,e,A,out,rfl,_⟩:=h;rfl
 obtain⟨b,a,y8,lj,lg,lh,h,h',H0,x,e,A,out,rfl,BF,⟨dx,na,n,r,c1,c2,c3,dt,_,_⟩,cd,hA,ax,k⟩:=h;obtain⟨ga,ae,g1,g2,g3,_⟩:=ar.ex;obtain⟨fa,Hg,Hh,v1,v2,v3,v4,v5⟩:=g3 x.fm.1 A hA;exists _,aH (Ox (zV (fz (by rfl) g1 (show RelV (.ref ga) _ from G)) (aS 1) (λ_ _=>G)) hr (cg (pv 0) (aS 1) (aS 1))),_,G,a,q.C,dx,_,_,G,c1,N.cl,N.name,G,ga,ae,.inr x.fm.1,.ref fa,G,g2,G,v1,fa,Hg,_,_,Hh,G,v2,v3,v4,v5,_,G,_,G,a,q.C,dx,_,_,G,c1,N.cl,N.numbers,G,_,G,a,q.C,dx,_,_,G,c1,N.cl,N.row,G,b,n,r,y8,lj,lg,lh,h,h',x.nums,x.row,out,G,BF,az.of c2,c3,cd,ax,λU p B' R' _ hp=>k U p B' R' hp
def uN(h:dN)(names:M aj)(nums:M Int):Bool:=match kc names nums with|some n=> !iJ h n|none=>ao
inductive Sj K c(q:cW)(vs:M V)H(Q:VK)(E:XK):Prop|mk(b a:af)(h:dN)(H0:Hp)(x:AC)(e:Nat)(_:vs=[.ref b,.ref a])(_:iT c H b h)(_:kW K q H0 H a x e)(_:x.nums.length=x.fm.2.1.length)(_:x.fm.2.1.length<=10)(_:Q (.bl (uN h x.fm.2.1 x.nums)) H)
def ag4:gq ["book","call"] ["book","call"] (cz (top 175)):=iQ
variable{h:dN}{names:M aj}{nums:M Int}
def ag5(b3:∀m,kc names nums=I m->iJ h m=aa):uN h names nums=ao:=by
 unfold uN;cases hm:kc names nums with
 |none=>rfl
 |some m=>simp only;rw[b3 m hm];rfl
def ag6{m:Int}(h1:kc names nums=I m)(h2:iJ h m=ao):uN h names nums=aa:=by unfold uN;rw[h1];simp only;rw[h2];rfl
theorem Sk x:∀l:M aj,fL (.str x) (l.map V.str)=l.contains x
 |[]=>rfl|a::l=>by
  rw[b9,IK];show(fZ (V.str a) (V.str x)||fL (.str x) (l.map V.str))=_;rw[Sk x l];congr 1;show decide (a=x)=_;by_cases e:a=x
  .rw[aP e,e];simp
  rw[aV e];exact(gB.mpr λz=>e z.symm).symm
theorem Sl x:∀l:M aj,l.contains x=aa->∃z,(l.map V.str)[l.findIdx λn=>decide (n=x)]? =I z/\fZ z (.str x)=aa/\∀m z',m<(l.findIdx λn=>decide (n=x))->(l.map V.str)[m]? =I z'->fZ z' (.str x)=ao
 |[],h=>by cases h
 |a::l,h=>by
  rw[Vt];by_cases e:a=x
  .rw[aP e];exists V.str a,G,by show decide (a=x)=aa;exact aP e,λm z' hm=>aU hm (IP _)
  rw[aV e];rw[IK,show(x==a)=ao from gB.mpr λz=>e z.symm,Bk]at h;obtain⟨z,h1,h2,h3⟩:=Sl x l h;refine⟨z,h1,h2,λm z' hm hz=> ?_⟩;cases m with
  |zero=>cases hz;exact aV e
  |succ m=>exact h3 m z' (alP hm) hz
theorem ag7(F:bf K "names_no_journey" (top 175) f fd)(NB:nN K c.B)(N:qz K q.C)(hH:Met P w K mg ai 1 "has_journey" ["self","number"] (Ey c) c.B):aM P w K mg ai aO 2 f fd ["book","call"] (Sj K c q):=by
 refine F.ok ag4 (λvs H Q E h=> ?_) (λa6 A b8 s H vs Q E hr h=> ?_)
 .obtain⟨b,a,h,H0,x,e,rfl,_⟩:=h;rfl
 obtain⟨b,a,h,H0,x,e,rfl,BA,⟨dx,na,n,r,c1,c2,c3,⟨dt,od,ww,wx,ag8⟩,_,_⟩,hl,amz,k⟩:=h
 exists _,aC (bH (tT zc dQ (aS 1) (by with_unfolding_all rfl)) (aH tP) bG) (aH (WR (cK hH NB.cl hr (pv 0) (aB (bk (aS 1) (ee alQ Vh alR Oz (aS 1) (aB dQ)))))))
 have flat:(x.fm.2.1.map V.str).all iF=aa:=by rw[xZ];exact jU.mpr λ_ _=>G
 exists _,G,a,q.C,dx,_,_,G,c1,N.cl,N.names,G,na,_,G,.inr dt.sq,G,flat,_,G;rw[Sk];unfold uN kc at k;cases hj:x.fm.2.1.contains "j"with
 |false=>rw[hj]at k;exact bK k
 |true=>
  rw[hj,av G]at k;obtain⟨z,z1,z2,z3⟩:=Sl "j" _ hj
  have al:(x.fm.2.1.findIdx λn=>decide (n=("j":aj)))<x.nums.length:=by have:=(eL.mp z1).1;rw[aE]at this;lia
  rw[bg al]at k;obtain⟨y8,_,_,_,hb⟩:=BA.ins;have fO:(x.nums.map V.int)[x.fm.2.1.findIdx λn=>decide (n=("j":aj))]? =I (V.int (x.nums[x.fm.2.1.findIdx λn=>decide (n=("j":aj))]'al)):=by rw[bF,bg al];rfl
  refine bX ⟨_,G,b,y8,_,G,hb,G,_,G,a,q.C,dx,_,_,G,c1,N.cl,N.numbers,G,_,G,a,q.C,dx,_,_,G,c1,N.cl,N.names,G,.inr (.inl ⟨G,od,ww,wx,ag8⟩),na,_,_,_,z,G,G,dt.sq,G,flat,z1,z2,z3,n,_,_,_,G,G,az.of c2,aW fO,b,h,_,G,BA,_,G,k⟩
inductive ag9(te:TE)σ H(Q:VK):Prop|mk T xs(_:H T=I (.lst xs))(_:te σ (cB H T) λv U=>U T=ak->Q v (upd U T (.lst xs)))
variable{X:Cx}
def ag_{e:bE}{te:TE}(h:PE X e te):PE X e (ag9 te):=by
 intro pins s σ H Q ab⟨T,xs,hT,hw⟩;obtain⟨hz,ad,n,rv,hg⟩:=ab.aQ T _ hT;have Sm:T≠X.env.locals:=λz=>by rw[z,ab.free]at hT;cases hT
 have nfs:T∉X.fs:=λhb=>by obtain⟨_,o,ho,_⟩:=ab.ok.kJ.mem hb;rw[ab.ai.free T o ho (ab.ok.pR T hb) λz=>ab.ok.tO T z hb]at hT;cases hT
 have old:∀b o,X.gp.heap.get? b=I o->X.pQ b=ak->b∉X.ex->b≠T:=λb o h1 h2 h3 z=>by have:=ab.ai.free b o h1 h2 h3;rw[z,hT]at this;cases this
 have zi:∀{b:af}{o:HO},H b=I o->(∀ys,o≠ .lst ys)->cB H T b=I o:=λe hn=>wZ hT e hn
 have I1:Inv X ((T,{cls:=.type "list",data:=.seq ad.toArray n})::pins) σ (cB H T) s:=by
  exists ab.ok,ab.os,ab.bare,⟨ab.ai.keep,ab.ai.slot,λb o h1 h2 h3=> ?_,ab.ai.there,λb ys e=>zi (ab.ai.jA b ys e) (λ_ z=>by cases z),λb o u e=>zi (ab.ai.kI b o u e) (λ_ z=>by cases z),λb ps e=> ?_⟩,ab.loc,ab.cell,?_,λx c e=> ?_,λp hp=> ?_,λa o e=> ?_,ab.len
  .unfold cB;split
   .rfl
   exact ab.ai.free b o h1 h2 h3
  .obtain⟨more,e⟩:=ab.ai.mF b ps e;exact⟨more,zi e (λ_ z=>by cases z)⟩
  .unfold cB;split
   .rfl
   exact ab.free
  .unfold cB;split
   .rfl
   exact ab.je x c e
  .obtain z|z:=dG.mp hp
   .obtain⟨p1,p2,p3⟩:=ab.pin p (k6 _ z);exists p1,?_,p3;unfold cB;split
    .rfl
    exact p2
   obtain z|z:=bh.mp z
   .subst z;exact⟨hg,kQ H T,Sm,nfs,λv z=>by cases z⟩
   obtain⟨p1,p2,p3⟩:=ab.pin p (ki _ z);exists p1,?_,p3;unfold cB;split
   .rfl
   exact p2
  exact(ab.aQ a o (kR H T _ _ e)).lB (λb u _ q=>q) (λb q=>zi q (λ_ z=>by cases z)) λb ys q=>zi q (λ_ z=>by cases z)
 refine a_ (h _ s σ (cB H T) _ I1 hw) λv s2⟨x,H2,I2,rx,q2⟩=> ?_;obtain⟨p1,p2,_⟩:=I2.pin (T,_) (ki _ bW);have zn:ah H2 (upd H2 T (.lst xs)):=ah.new p2;exists x,upd H2 T (.lst xs),?_,rx,q2 p2;exists I2.ok,I2.os,I2.bare,⟨I2.ai.keep,I2.ai.slot,λb o h1 h2 h3=> ?_,I2.ai.there,λb ys e=>zn _ _ (I2.ai.jA b ys e),λb o u e=>zn _ _ (I2.ai.kI b o u e),λb ps e=> ?_⟩,I2.loc,I2.cell,?_,λy c e=> ?_,λp hp=> ?_,λa o e=> ?_,I2.len
 .rw[aD (old b o h1 h2 h3)];exact I2.ai.free b o h1 h2 h3
 .obtain⟨more,e⟩:=I2.ai.mF b ps e;exists more,zn _ _ e
 .rw[aD (λz=>Sm z.symm)];exact I2.free
 .rw[aD]
  .exact I2.je y c e
  intro z;obtain⟨u,o,ho,hd⟩:=I2.cell y c e;rw[z,p1]at ho;cases ho;cases hd
 .have SU:p∈X.pn++((T,{cls:=.type "list",data:=.seq ad.toArray n})::pins):=by
   obtain z|z:=dG.mp hp
   .exact k6 _ z
   exact ki _ (bZ _ z)
  obtain⟨g1,g2,g3⟩:=I2.pin p SU;exists g1,?_,g3
  have aw:p.1≠T:=λz=>by have:=(ab.pin p hp).2.1;rw[z,hT]at this;cases this
  rw[aD aw];exact g2
 by_cases z:a=T
 .subst z;rw[ay]at e;cases e;exists hz,ad,n,rv,p1
 rw[aD z]at e;exact(I2.aQ a o e).lB (λb u _ q=>q) (λb q=>zn _ _ q) λb ys q=>zn _ _ q
def Sn:∀fm∈oz,(∀nm∈fm.2.1,nm∈gF.map (·.1))/\fm.2.1.length<=10:=by decide
abbrev nx(h:dN)(x:AC):dN×M Int:=gE h x.raw
inductive So K c(q:cW)(vs:M V)H(Q:VK)(E:XK):Prop|mk(b a dx lj lg lh:af)(h:dN)(H0:Hp)(x:AC)(e:Nat)(_:vs=[.ref b,.ref a])(_:gy c H b h dx lj lg lh)(_:kW K q H0 H a x e)(_:x.Ok)(_:x.row.length<=20000)(_:sr h x)(_:∀U p,gy c U b (nx h x).1 dx lj lg lh->Rest H U lj lg lh->U p=I (.lst ((nx h x).2.map V.int))->Q (.ref p) U)
def aha:gq ["book","call"] ["book","call"] (cz (top 176)):=iQ
theorem ahb(F:bf K "answer_of" (top 176) f fd)(Z:j8 mg)(N:qz K q.C)(hF:Def P w K mg ai 2 "fits" ["names","numbers"] (qg K))(hN:Def P w K mg ai 2 "names_no_journey" ["book","call"] (Sj K c q))(hT:Def P w K mg ai 13 "answer_told" ["book","call"] (Si K c q))(hI:Def P w K mg ai 1 "is_telling" ["call"] (Sf K q))(hA:Def P w K mg ai 13 "answer_asked" ["book","call"] (Se K c q)):
  aM P w K mg ai aO 14 f fd ["book","call"] (So K c q):=by
 refine F.ok aha (λvs H Q E h=> ?_) (λa6 A b8 s H vs Q E hr h=> ?_)
 .obtain⟨b,a,dx,lj,lg,lh,h,H0,x,e,rfl,_⟩:=h;rfl
 obtain⟨b,a,y8,lj,lg,lh,h,H0,x,e,rfl,BF,CA,ok,cd,S,k⟩:=h
 exists _,aC (bH (gY (fQ (aT hF hr (bu (aS 1) (aS 1))))) (aH (br (aB (bM G Z.fF)))) bG) (aC (bH (fQ (aT hN hr (bu (pv 0) (pv 1)))) (aH (br (aB (bM G Z.E4)))) bG) (aH (lC (fQ (aT hI hr (aB (pv 1)))) (aT hT hr (bu (pv 0) (pv 1))) (aT hA hr (bu (pv 0) (pv 1))))));obtain⟨dx,na,n,r,c1,c2,c3,dt,pp,y6⟩:=id CA;obtain⟨nm1,nm2⟩:=Sn x.fm (bN ok.AG);refine⟨_,G,a,q.C,dx,_,_,G,c1,N.cl,N.names,G,_,G,a,q.C,dx,_,_,G,c1,N.cl,N.numbers,G,na,n,x.fm.2.1,x.nums,G,dt.1.sq,az.of c2,nm1,by lia,λH1 s1=>⟨_,G,?_⟩⟩;cases hf:dD x.fm.2.1 x.nums with
 |false=>
  have e1:nx h x=(h,[-1]):=S.bad hf;refine bK ⟨(by decide),λp hp=>k _ p ?_ (.of (s1.trans (ah.new hp))) ?_⟩
  .rw[e1];exact BF.same (s1.trans (ah.new hp))
  rw[e1];exact ay
 |true=>
  refine bX ⟨_,G,_,G,b,a,h,H0,x,e,G,(BF.same s1).at,CA.same s1,ok.nums,nm2,_,G,?_⟩;by_cases hj:∃m,kc x.fm.2.1 x.nums=I m/\iJ h m=ao
  .obtain⟨m,m1,m2⟩:=hj;have e1:nx h x=(h,[-3]):=S.R6 hf m m1 m2;rw[ag6 m1 m2];refine bK ⟨(by decide),λp hp=>k _ p ?_ (.of (s1.trans (ah.new hp))) ?_⟩
   .rw[e1];exact BF.same (s1.trans (ah.new hp))
   rw[e1];exact ay
  have b3:∀m,kc x.fm.2.1 x.nums=I m->iJ h m=aa:=λm hm=>by
   cases hz:iJ h m with
   |true=>rfl
   |false=>exact aU ⟨m,hm,hz⟩ hj
  rw[ag5 b3];obtain⟨A,hA,r⟩|⟨e1,A,hA,r⟩:=S.go hf b3
  .refine bX ⟨_,G,a,H0,x,e,aa,G,CA.same s1,.inl ⟨G,A,hA⟩,_,G,?_⟩;refine bK ⟨_,G,_,G,b,a,y8,lj,lg,lh,h,_,H0,x,e,A,_,G,BF.same s1,CA.same s1,cd,hA,r,λU p B' R' hp=>k U p B' (λy o ey n1 n2 n3=>R' y o (s1 _ _ ey) n1 n2 n3) hp⟩
  refine bX ⟨_,G,a,H0,x,e,ao,G,CA.same s1,.inr ⟨G,A,hA⟩,_,G,?_⟩;refine bX ⟨_,G,_,G,b,a,h,H0,x,e,A,_,G,(BF.same s1).at,CA.same s1,hA,r,λU p s2 hp=>k U p ?_ (.of (s1.trans s2)) hp⟩;rw[show(nx h x).1=h from e1];exact BF.same (s1.trans s2)
end Sp
namespace Sp
open PySem PySem.Spec PyProof.Rows L2 Sg
open Vbcuaf (House)
def nX(h:House)(as:M AC):House:=as.foldl (λh x=>(nx h x).1) h
def outs(h:House)(as:M AC):M (M Int):=PyFlat.played ano h (as.map AC.raw)
theorem Hi:∀as bs(h:House),outs h (as++bs)=outs h as++outs (nX h as) bs|[],bs,h=>rfl|a::as,bs,h=>by show(nx h a).2::outs (nx h a).1 (as++bs)=_;rw[Hi as bs];rfl
def Sq a b:ow (a++b)=ow a++ow b:=by unfold ow;rw[qQ]
def Off(H:Hp)(lj lg lh:af):Hp:=cB (cB (cB H lj) lg) lh
def Off.same H lj lg lh:ah (Off H lj lg lh) H:=((kR _ _).trans (kR _ _)).trans (kR _ _)
variable{H:Hp}
def Off.rest{U:Hp}{lj lg lh:af}(r:Rest H U lj lg lh):ah (Off H lj lg lh) (Off U lj lg lh):=λx o e=>by have n3:=b_ e (kQ _ _);have e2:=kR _ _ _ _ e;have n2:=b_ e2 (kQ _ _);have e1:=kR _ _ _ _ e2;have n1:=b_ e1 (kQ _ _);exact fW n3 (fW n2 (fW n1 (r x o (kR _ _ _ _ e1) n1 n2 n3)))
def ahc{t:af}(h:H t=ak):cB H t=H:=by
 funext x;unfold cB;split
 .rename_i e;rw[e,h]
 rfl
def ahd{X:Cx}{k j:Nat}{x:aj}{ps:M aj}{sp:L2.Sp}{C:af}{p pos:fG}(D:Cons X.prog X.w X.K X.mg X.ai k x ps sp C)(hr:d8 j X.A)(hg:Gl X x:=by rfl)(hj:k+1<=j:=by decide)(d5:(x==("__debug__":aj))=ao:=by decide):PE X (.Call (.Name x p) [] [] pos) (vY C sp [] E0 gH):=match D with| .mk m ok at_ b=>XO m ok (hr.mono hj) hg at_ b .nil t9 d5
variable{K:aR}
inductive Hj K(vs:M V)H(Q:VK)(E:XK):Prop|mk(l:af)(as:M AC)(_:vs=[.ref l])(_:az K H l ((as.flatMap AC.enc).map V.int))(_:(∀a∈as,a.Ok))(_:(∀a∈as,a.row.length<=20000))(_:as.length<=1000)(_:(ow (outs gk as)).length<=10000000)(_:∀U p,U p=I (.lst ((ow (outs gk as)).map V.int))->Q (.ref p) U)
def xK:gq ["calls","book","told","call","answer"] ["calls"] (cz (top 177)):=iQ
variable{P:bY}{w:bR}{mg:aj->aG aq}{ai:bB}{c:fh}{q:cW}
theorem ahe{f:af}{fd:gC}(F:bf K "answers" (top 177) f fd)(B:dR mg)(hB:Cons P w K mg ai 1 "Book" ["self"] (Pb c) c.B)(hR:Def P w K mg ai 4 "read_calls" ["calls"] (R4 K q))(hA:Def P w K mg ai 14 "answer_of" ["book","call"] (So K c q)):
  aM P w K mg ai aO 15 f fd ["calls"] (Hj K):=by
 refine F.ok xK (λvs H Q E h=> ?_) (λa6 A b8 s H vs Q E hr h=> ?_)
 .obtain⟨l,as,rfl,_⟩:=h;rfl
 obtain⟨l,as,rfl,hL,aQ,sK,dV,ahf,k⟩:=h
 exists _,aC (aY 1 xK.nd (ahd hB hr)) (aC (aY 2 xK.nd (br eT)) (aC (fC eN G (cV (aT hR hr (aB (pv 0)))) (cE 3 xK.nd) (aC (aY 4 xK.nd (ag_ (aT hA hr (bu (pv 1) (pv 3))))) (aC (fR (ee fq l7 nq lK (pv 2) (aB (bJ dc (by rfl) B.len cJ (aB (pv 4)))))) (cA (fR (ee fq l8 oq oG (pv 2) (aB (pv 4)))))))) (aH (pv 2))));refine λb ahg hb ma aw=>⟨b,ahg,G,ay,λHb BAb ahh=>⟨G,?_⟩⟩;have sb:=ah.made hb ma ahh;obtain⟨⟨dx,lj,lg,lh,jl,gd,hs,BI⟩,dY⟩:=BAb;have BF0:gy c Hb b gk dx lj lg lh:=⟨⟨jl,gd,hs,BI⟩,dY⟩;refine⟨b6 _,λt ht=> ?_⟩;have s0:ah Hb (upd Hb t (.lst [])):=ah.new ht;refine⟨_,G,l,as,G,(sb.trans s0).seq hL,aQ,dV,λH1 p xs s1 hp ag th C1=>⟨p,G,⟨_,az.of ag⟩,?_⟩⟩;have Ss:=s1 _ _ ay;have sc:=mY ht (s0.trans s1);have BF1:=BF0.same sc;obtain⟨Su,Sv⟩:∃Su,Hb lj=I (.lst Su):=⟨_,BI.js.at_⟩;have Sw:=BI.fO;obtain⟨Sx,Sy⟩:∃Sx,Hb lg=I (.dT Sx):=⟨_,BI.gs.at_⟩;have Hl:=s0.trans s1;have off:∀{y:af}{o:HO},H1 y=I o->y≠t->y≠lj->y≠lg->y≠lh->Off (cB H1 t) lj lg lh y=I o:=λe n1 n2 n3 n4=>fW n4 (fW n3 (fW n2 (fW n1 e)));have fr:∀{y:af},upd Hb t (.lst []) y=ak->y≠t/\y≠lj/\y≠lg/\y≠lh:=λ{y}e=>⟨λz=>(by rw[z,ay]at e;cases e),λz=>(by rw[z,s0 _ _ Sv]at e;cases e),λz=>(by rw[z,s0 _ _ Sy]at e;cases e),λz=>(by rw[z,s0 _ _ Sw]at e;cases e)⟩
 have C2:sf K q (upd Hb t (.lst [])) (Off (cB H1 t) lj lg lh) xs:=λy hy=>by obtain⟨e,cdx,na,n,r,c1,c2,c3,dt,pp,y6⟩:=C1 y hy;obtain⟨n1,n2,n3,n4⟩:=fr pp;obtain⟨r1,r2,r3,r4⟩:=fr y6;exists e,cdx,na,n,r,off c1 (λz=>by rw[z,Ss]at c1;cases c1) (λz=>by rw[z,Hl _ _ Sv]at c1;cases c1) (λz=>by rw[z,Hl _ _ Sy]at c1;cases c1) (λz=>by rw[z,Hl _ _ Sw]at c1;cases c1),off c2 n1 n2 n3 n4,off c3 r1 r2 r3 r4,dt,pp,y6
 obtain⟨p1,p2,p3,p4⟩:=fr hp;have kz:Off (cB H1 t) lj lg lh p=I (.lst (m5 xs)):=off ag p1 p2 p3 p4
 have hup:H1=upd (cB H1 t) t (.lst []):=by
  funext y;by_cases z:y=t
  .rw[z,ay,Ss]
  rw[aD z];unfold cB;rw[au z]
 have w2:xs.length=as.length:=by rw[<-th,aE]
 refine jD (K:=K) (a:=p) (xs:=m5 xs) (λi σ U=>∃(Hc:Hp)(v3 v4:aG V),σ=[I (.ref l),I (.ref b),I (.ref t),v3,v4]/\U=upd Hc t (.lst ((ow (outs gk (as.take i))).map V.int))/\Hc t=ak/\gy c Hc b (nX gk (as.take i)) dx lj lg lh/\su (nX gk (as.take i))/\ah (Off (cB H1 t) lj lg lh) (Off Hc lj lg lh)) ⟨cB H1 t,ak,ak,G,hup,kQ _ _,BF1,agX,ah.refl _⟩ (λi σ U _ h=> ?_) (λi y σ U hi h=> ?_) λσ U h=> ?_
 .obtain⟨Hc,v3,v4,_,rfl,KM,_,_,zr⟩:=h;exact az.of ((ah.new KM) _ _ (Off.same _ _ _ _ _ _ (zr _ _ kz)))
 .obtain⟨Hc,v3,v4,rfl,rfl,KM,Ho,NI,zr⟩:=h;unfold m5 at hi;rw[bF]at hi;obtain⟨y,hy,rfl⟩:=gP.mp hi;have Sz:as[i]? =I y.2:=by rw[<-th,bF,hy];rfl
  have a7:=bN Sz;have hW:as.take (i+1)=as.take i++[y.2]:=by rw[BL,Sz];rfl
  obtain⟨e,CA⟩:=C2 y (bN hy);have CA1:=(CA.same zr).same (Off.same Hc lj lg lh)
  have bi:nX gk (as.take (i+1))=(nx (nX gk (as.take i)) y.2).1:=by rw[hW];unfold nX;rw[pH];rfl
  have SA:ow (outs gk (as.take (i+1)))=ow (outs gk (as.take i))++(((nx (nX gk (as.take i)) y.2).2.length:Int)::(nx (nX gk (as.take i)) y.2).2):=by rw[hW,Hi,Sq];congr 1;show((nx (nX gk (as.take i)) y.2).2.length:Int)::(nx (nX gk (as.take i)) y.2).2++[]=_;rw[jT]
  have c4:(ow (outs gk (as.take (i+1)))).length<=10000000:=by
   refine cX ?_ ahf
   conv=>rhs;rw[<-pI (i+1) as,Hi,Sq,bD]
   exact qK _ _
  rw[SA,bD,bT]at c4;have SO:=agS Ho.ok (agT NI) (aQ _ a7) (sK _ a7);refine r5 ?_;dsimp only;exists t,_,ay;rw[Ah,ahc KM];refine⟨_,G,_,G,b,y.1,dx,lj,lg,lh,_,_,y.2,e,G,Ho,CA1,aQ _ a7,sK _ a7,SO,λH2 p2 B2 R2 Hq=>λSD=> ?_⟩;have aw:p2≠t:=b_ Hq SD;refine⟨_,G,.inl ⟨G,_,az.of ay⟩,_,G,p2,_,G,.inl (az.of (by rw[aD aw];exact Hq)),t,_,_,G,G,ay,by rw[aE,cY];lia,?_⟩;exists _,G,.inl ⟨G,_,az.of ay⟩,_,G,t,p2,_,_,G,G,ay,by rw[aD aw,aD aw];exact Hq,?_
  .rw[bD,aE,aE,Bd,cY];lia
  exists H2,I (.ref y.1),I (.ref p2),G,?_,SD,by rw[bi];exact B2,by rw[bi];exact agW NI SO,zr.trans (Off.rest R2);rw[JX,JX,SA,dH,b9,aE,iu];rfl
 obtain⟨Hc,v3,v4,rfl,rfl,KM,Ho,NI,zr⟩:=h;exists _,G,k _ t ?_;rw[ay,show(m5 xs).length=as.length by unfold m5;rw[aE,w2],i8]
end Sp
namespace Hd
open PySem PySem.W PySem.Calls PyProof.Rows L2 Sp Sg
variable{K:aR}{x:aj}{f:af}
def AL(h:mD K x=I f):jQ K gg x=I (I (.ref f)):=by
 unfold mD at h;split at h
 .rename_i e;cases h;exact e
 cases h
variable{st:b5}
def SE{a8:aj}(h:yF K x a8 f=yG st):∃fd,dg K x a8 st f fd:=by
 unfold yF at h;split at h
 .rename_i oc od fd sl e;obtain⟨n,qn,pa,amA,sc,gl,cl,amB,kw,dn,pm,an,co,ct,bl⟩:=fd;unfold yG at h;simp only[lq,By,cU,yf]at h;obtain⟨rfl,rfl,rfl,rfl,rfl,rfl,rfl,rfl,rfl,h1,h2⟩:=h;exists _,⟨oc,od,kw,dn,pm,an,co,ct,sl,G,e,h1⟩,h2
 cases h
variable{α:Type}
def zip_map{β γ:Type}{l:M α}{m:M β}{f:α->γ}{g:β->γ}(h:l.map f=m.map g){a:α}{b:β}(hx:(a,b)∈l.zip m):f a=g b:=by obtain⟨i,hi⟩:=alE hx;obtain⟨h1,h2⟩:=ym.mp hi;have e:=cC (·[i]?) h;simp only[bF,h1,h2]at e;exact cG e
def AM(T:yI K=qZ)(hx:(x,st)∈tG):∃f fd,jQ K gg x=I (I (.ref f))/\dg K x x st f fd:=by
 have h:=zip_map T hx;unfold JL at h;split at h
 .rename_i f e;obtain⟨fd,F⟩:=SE h;exists f,fd,AL e,F
 cases h
variable{C:af}
def SG(T:yJ K=q6)(B:B3 K=aa){c m qn:aj}(hx:((c,m,qn),st)∈BV)(hC:jQ K gg c=I (I (.ref C))):∃f fd,Meth K C m f/\dg K m qn st f fd:=by
 have h:=zip_map T hx;have hb:=jU.mp B (c,m,qn) (xT hx).1;unfold JM at h;simp only at h hb;cases e:yH K c m with
 |none=>rw[e]at hb;cases hb
 |some f=>
  rw[e]at h hb;simp only at h hb;obtain⟨fd,F⟩:=SE h;exists f,fd,⟨?_,hb,F.kp⟩,F;unfold yH mD at e;rw[hC]at e;simp only at e;split at e
  .rename_i e2;cases e;exact e2
  cases e
structure uO(K:aR)(c:aj)(C:af)(attrs:M aj):Prop where
 at_:jQ K gg c=I (I (.ref C))
 cl:fK K C
 mak:HL K C=aa
 kp:kZ K (.ref C)=aa
 no:∀a∈attrs,cF K C a
variable{attrs:M aj}
def ahi(B:B0 K=aa){c:aj}(hx:(c,attrs)∈BZ):∃C,uO K c C attrs:=by
 have h:=jU.mp B (c,attrs) hx;simp only at h;cases e:mD K c with
 |none=>rw[e]at h;cases h
 |some C=>
  rw[e]at h;simp only[cU]at h;obtain⟨h1,h2,h3,h4,h5,h6,h7⟩:=h;refine⟨C,AL e,⟨h1,h2,h3,iZ.mp h4⟩,h5,h6,λa ha=> ?_⟩;have:=jU.mp h7 a ha;unfold JN at this;split at this
  .rename_i e2;exact e2
  cases this
def DP(B:BY K=aa)(hx:x∈BX):jQ K gg x=I ak:=by
 have h:=jU.mp B x hx;split at h
 .rename_i e;exact e
 cases h
def dv(B:BW K=aa){l:fP}(hx:(x,l)∈tH):∃v,jQ K gg x=I (I v)/\jz K l v=aa:=by
 have h:=jU.mp B (x,l) hx;simp only at h;split at h
 .rename_i v e;exists v,e,h
 cases h
variable{v:aq}
def SH{n:Int}(h:jz K (.i n) v=aa):∃t,v= .int n t:=by
 unfold jz at h;split at h
 .rename_i m t;rw[iZ.mp h];exists t,G
 cases h
def Hr(h:jz K (.s x) v=aa):∃t,v= .str x t:=by
 unfold jz at h;split at h
 .rename_i m t;rw[iZ.mp h];exists t,G
 cases h
def ahj{c:Bool}(h:jz K (.b c) v=aa):v= .bool c:=by
 unfold jz at h;split at h
 .rename_i m;rw[iZ.mp h]
 cases h
structure TupIs(K:aR)(a:af)(us:M aq):Prop where
 ex:∃o ad n,K.lookup a=I o/\o.cls= .type "tuple"/\o.dict=ak/\o.data= .seq ad n/\ad.toList=us
def uP{l:M fP}(h:jz K (.t l) v=aa):∃a us,v= .ref a/\TupIs K a us/\mE K l us=aa:=by
 unfold jz at h;split at h
 .rename_i a;split at h
  .rename_i ad n sl e;exists a,_,G,⟨_,ad,n,e,G,G,G,G⟩,h
  cases h
 cases h
theorem o6:∀{l:M fP}{us:M aq},mE K l us=aa->us.length=l.length/\∀(i:Nat)x,l[i]? =I x->∃u,us[i]? =I u/\jz K x u=aa
 |[],us,h=>by
  cases us with
  |nil=>exact⟨G,λi x hx=>by simp at hx⟩
  |cons u us=>cases h
 |y::l,us,h=>by
  unfold mE at h;split at h
  .rename_i u us;rw[cU]at h;obtain⟨h1,h2⟩:=o6 h.2;refine⟨by rw[bT,bT,h1],λi x hx=> ?_⟩;cases i with
   |zero=>cases hx;exists u,G,h.1
   |succ i=>exact h2 i x hx
  cases h
variable{a:af}{us:M aq}
def TupIs.xM{vs:M V}(T:TupIs K a us)(hl:us.length<=1000)(hv:Vals vs us):gK K a vs:=by
 obtain⟨o,ad,n,h1,h2,h3,h4,h5⟩:=T.ex;refine⟨o,ad,n,h1,h2,h4,?_,by rw[h5];exact hv⟩;have:ad.size=us.length:=by rw[<-h5,fk]
 rw[this];exact uU (wj hl)
def TupIs.plain(T:TupIs K a us):∃o,K.lookup a=I o/\o.cls= .type "tuple"/\o.dict=ak:=by obtain⟨o,ad,n,h1,h2,h3,h4,h5⟩:=T.ex;exists o,h1,h2,h3
theorem SI:∀{xs:M aj}{us:M aq},mE K (xs.map fP.s) us=aa->Vals (xs.map V.str) us
 |[],us,h=>by have:=(o6 h).1;rw[yx this];exact .nil|x::xs,us,h=>by
  unfold qN mE at h;split at h
  .rename_i u us;rw[cU]at h;obtain⟨t,rfl⟩:=Hr h.1;exact .cons ⟨t,G⟩ (SI h.2)
  cases h
theorem SJ:∀{xs:M Int}{us:M aq},mE K (xs.map fP.i) us=aa->Vals (xs.map V.int) us
 |[],us,h=>by have:=(o6 h).1;rw[yx this];exact .nil|x::xs,us,h=>by
  unfold qN mE at h;split at h
  .rename_i u us;rw[cU]at h;obtain⟨t,rfl⟩:=SH h.1;exact .cons ⟨t,G⟩ (SJ h.2)
  cases h
def Hs{xs:M aj}(hl:xs.length<=1000)(h:jz K (.t (xs.map fP.s)) v=aa):∃a,v= .ref a/\gK K a (xs.map V.str)/\∃o,K.lookup a=I o/\o.cls= .type "tuple"/\o.dict=ak:=by obtain⟨a,us,rfl,T,h2⟩:=uP h;exists a,G,T.xM (by rw[(o6 h2).1,aE];exact hl) (SI h2),T.plain
def SK{xs:M Int}(hl:xs.length<=1000)(h:jz K (.t (xs.map fP.i)) v=aa):∃a,v= .ref a/\gK K a (xs.map V.int):=by obtain⟨a,us,rfl,T,h2⟩:=uP h;exact⟨a,G,T.xM (by rw[(o6 h2).1,aE];exact hl) (SJ h2)⟩
theorem jA:∀{l:M fP}{us:M aq},(∀x∈l,∃y,x=fP.t y)->mE K l us=aa->∃as:M af,us=as.map eW
 |[],us,_,h=>by have:=(o6 h).1;exists [],yx this|x::l,us,hx,h=>by
  unfold mE at h;split at h
  .rename_i u us;rw[cU]at h;obtain⟨y,rfl⟩:=hx x bW;obtain⟨a,_,rfl,_⟩:=uP h.1;obtain⟨as,rfl⟩:=jA (λz hz=>hx z (bZ _ hz)) h.2;exists a::as,G
  cases h
theorem Ht:∀as:M af,Vals (as.map V.ref) (as.map eW)|[]=>.nil|a::as=>.cons G (Ht as)
def uV:aq->V| .ref a=>.ref a|_=>.bx
abbrev DE:=aj×aq×Int
theorem Hu:∀{ks:M aj}{l:M DE},vF ks l=aa->l.map (·.1)=ks
 |[],l,h=>by
  cases l with
  |nil=>rfl
  |cons e l=>cases h
 |k::ks,l,h=>by
  unfold vF at h;split at h
  .rw[cU]at h;rw[b9,Hu h.2,iZ.mp h.1]
  cases h
variable{l:M DE}
def Hv(h:oA K x=I (a,l)):jQ K gg x=I (I (.ref a))/\∃o es ep,K.lookup a=I o/\o.ExactDict/\o.data= .dict es ep/\(∀e∈es.toList,∃y t,e.key= .str y t)/\l=es.toList.map λe=>((match e.key with| .str y _=>y|_=>m8),e.val,e.hash):=by
 unfold oA at h;cases e1:mD K x with
 |none=>rw[e1]at h;cases h
 |some b=>
  rw[e1]at h;simp only at h;split at h
  .rename_i es ep sl e2;split at h
   .rename_i e3;cases h;rw[cU]at e3;exists AL e1,_,es,ep,e2,⟨G,G,Array.eq_empty_of_size_eq_zero (iZ.mp e3.1)⟩,G,λe he=> ?_,G;have:=jU.mp e3.2 e he;split at this
    .rename_i y t e4;exists y,t,e4
    cases this
   cases h
  cases h
def ahk(h:oA K x=I (a,l)):hashes K x=l.map λe=>e.2.2:=by unfold hashes;rw[h]
variable{P:bY}{w:bR}
def SM{names:M aj}(h:oA K x=I (a,l))(hk:l.map (·.1)=names)(hh:hashes K x=names.map (o7 w))(hn:names.Nodup)(hs:(a==iK)=ao)(hv:∀e∈l,∃b,e.2.1= .ref b):oW P w K a (l.map λe=>((jr e.1:Key),uV e.2.1)):=by
 rw[ahk h,<-hk,bQ]at hh;obtain⟨_,o,es,ep,h1,h2,h3,h4,rfl⟩:=Hv h;exists⟨o,(es.toList.map λe=>((jr (match e.key with| .str y _=>y|_=>m8):Key),e.val)),h1,⟨es,ep,h2,h3,λe he=> ?_,?_,?_⟩,?_⟩,hs
 .have he:=ajR.mpr he;obtain⟨y,t,e1⟩:=h4 e he;refine⟨.inr y,by rw[e1];exact B6 P w y t,?_⟩;have:=(List.map_inj_left.mp hh) _ (vD he);simp only[e1]at this;exact this
 .have key:∀l:M qJ,(∀e∈l,∃y t,e.key= .str y t)->Pairs (iN P w) l (l.map λe=>((jr (match e.key with| .str y _=>y|_=>m8):Key),e.val)):=λl=>by
   induction l with
   |nil=>intro _;exact .nil
   |cons e l ih=>intro h;obtain⟨y,t,e1⟩:=h e bW;exact .cons (by simp only[e1];exact B6 P w y t) G (ih λz hz=>h z (bZ _ hz))
  exact key _ h4
 .rw[bQ]at hk⊢;rw[<-hk]at hn;have:(es.toList.map ((λx=>x.1)∘λe=>((jr (match e.key with| .str y _=>y|_=>m8):Key),e.val)))=(es.toList.map ((λx=>x.1)∘λe=>((match e.key with| .str y _=>y|_=>m8),e.val,e.hash))).map jr:=by rw[bQ];rfl
  rw[this];exact anp _ (λa b ix z=>ix (HU z)) hn
 rw[bQ]
 have key:∀l:M qJ,(∀e∈l,∃b,e.val= .ref b)->KV (l.map ((λe:DE=>((jr e.1:Key),uV e.2.1))∘λe=>((match e.key with| .str y _=>y|_=>m8),e.val,e.hash))) (l.map λe=>((jr (match e.key with| .str y _=>y|_=>m8):Key),e.val)):=λl=>by
  induction l with
  |nil=>intro _;exact .nil
  |cons e l ih=>intro h;obtain⟨b,e1⟩:=h e bW;refine .cons ⟨G,?_⟩ (ih λz hz=>h z (bZ _ hz));show RelV (uV e.val) e.val;rw[e1];rfl
 exact key _ λe he=>hv _ (vD he)
theorem Hw:∀{l:M DE}{nm:aj}{v:aq}{z:Int},(l.map (·.1)).Nodup->(nm,v,z)∈l->dB (l.map λe=>((jr e.1:Key),uV e.2.1)) (.inr nm)=I (uV v)
 |[],nm,v,z,_,h=>(eG h).elim|e::l,nm,v,z,hn,h=>by
  rw[b9,k8]at hn;unfold dB;rw[b9,iw];obtain q|q:=bh.mp h
  .subst q;rw[aP G];rfl
  have aw:¬((jr e.1:Key)= .inr nm):=λy=>hn.1 (by rw[HU y];exact vD q);rw[aV aw];exact Hw hn.2 q
variable{nm:aj}
def ahl(h:nm∉l.map (·.1)):dB (l.map λe=>((jr e.1:Key),uV e.2.1)) (.inr nm)=ak:=by unfold dB;rw[Option.map_eq_none_iff,US];intro x hx;obtain⟨e,he,rfl⟩:=b7.mp hx;simp only[yf];exact λz=>h (by rw[<-HU z];exact vD he)
theorem SN{t:M (aj×aj)}(h:tK K x t=aa)(hh:hashes K x=(t.map (·.1)).map (o7 w))(hn:(t.map (·.1)).Nodup):∃a ae,jQ K gg x=I (I (.ref a))/\oW P w K a ae/\(∀nm fn,(nm,fn)∈t->∀f,jQ K gg fn=I (I (.ref f))->dB ae (.inr nm)=I (.ref f))/\∀nm,nm∉t.map (·.1)->dB ae (.inr nm)=ak:=by
 unfold tK at h;cases e:oA K x with
 |none=>rw[e]at h;cases h
 |some r=>
  obtain⟨a,l⟩:=r;rw[e]at h;simp only[cU]at h;obtain⟨h1,h2,h3⟩:=h;have hk:=Hu h2;have hl:l.length=t.length:=by rw[<-aE,hk,aE]
  have each:∀(i:Nat)(y:aj×aj)(d:DE),t[i]? =I y->l[i]? =I d->∃f,mD K y.2=I f/\d.2.1= .ref f:=λi y d hy hd=>by
   have:=jU.mp h3 (y,d) (bN (by rw[ym];exists hy,hd));simp only at this;split at this
   .rename_i f g e1 e2;exact⟨f,e1,by rw[e2,iZ.mp this]⟩
   cases this
  have hv:∀d∈l,∃b,d.2.1= .ref b:=λd hd=>by obtain⟨i,hi,rfl⟩:=Jd hd;obtain⟨f,_,h⟩:=each i t[i] l[i] (bg (by lia)) (bg hi);exists f,h
  refine⟨a,_,(Hv e).1,SM e hk hh hn (by simpa using h1) hv,λnm fn hm f hf=> ?_,λnm hm=>ahl (by rw[hk];exact hm)⟩;obtain⟨i,hi,he⟩:=Jd hm;have pE:i<l.length:=by lia
  obtain⟨g,g1,g2⟩:=each i (nm,fn) l[i] (by rw[bg hi,he]) (bg pE);have hg:=(AL g1).symm.trans hf;cases hg
  have kl:l[i].1=nm:=by have h5:=cC (λz=>z[i]?) hk;simp only[bF,bg hi,bg pE,gh,he]at h5;exact cG h5
  have:=Hw (nm:=nm) (v:=.ref f) (z:=l[i].2.2) (by rw[hk];exact hn) (by rw[<-kl,<-g2];exact sY pE);exact this
variable{mg:aj->aG aq}
theorem ahm(h:yK K=aa)(hh:hashes K "RANGES"=(gF.map (·.1)).map (o7 w))(LE:∀x r,jQ K gg x=I r->mg x=r):Ranges P w K mg:=by
 unfold yK at h;cases e:oA K "RANGES"with
 |none=>rw[e]at h;cases h
 |some r=>
  obtain⟨a,l⟩:=r;rw[e]at h;simp only[cU]at h;obtain⟨h1,h2,h3⟩:=h;have hk:=Hu h2;have hn:(gF.map (·.1)).Nodup:=by decide
  have hl:l.length=gF.length:=by rw[<-aE,hk,aE]
  have each:∀(i:Nat)(y:aj×Int×Int)(d:DE),gF[i]? =I y->l[i]? =I d->∃f,d.2.1= .ref f/\gK K f [.int y.2.1,.int y.2.2]:=λi y d hy hd=>by have:=jU.mp h3 (y,d) (bN (by rw[ym];exists hy,hd));obtain⟨b,e1,e2⟩:=SK (xs:=[y.2.1,y.2.2]) (by show 2<=1000;decide) this;exists b,e1,e2
  have hv:∀d∈l,∃b,d.2.1= .ref b:=λd hd=>by obtain⟨i,hi,rfl⟩:=Jd hd;obtain⟨f,h,_⟩:=each i gF[i] l[i] (bg (by lia)) (bg hi);exists f,h
  refine⟨a,_,LE _ _ (Hv e).1,SM (P:=P) e hk hh hn (by simpa using h1) hv,λnm hm=> ?_⟩;obtain⟨y,hy,rfl⟩:=b7.mp hm;obtain⟨i,hi,he⟩:=Jd hy;have pE:i<l.length:=by lia
  obtain⟨f,f1,f2⟩:=each i y l[i] (by rw[bg hi,he]) (bg pE)
  have kl:l[i].1=y.1:=by have h5:=cC (λz=>z[i]?) hk;simp only[bF,bg hi,bg pE,gh,he]at h5;exact cG h5
  exists f,Hw (v:=.ref f) (z:=l[i].2.2) (by rw[hk];exact hn) (by rw[<-kl,<-f1];exact sY pE)
  have hr:fU y.1=(y.2.1,y.2.2):=by
   have key:∀y∈gF,fU y.1=(y.2.1,y.2.2):=by decide
   exact key y hy
  rw[hr];exact f2
def kX{l:M α}{a:α}(i:Nat)(h:l[i]? =I a):a∈l:=bN h
structure EE(P:bY)(w:bR)(K:aR)(mg:aj->aG aq)(ai:bB):Prop where
 g:∀x r,jQ K gg x=I r->mg x=r
 tab:tabOf K=vH w
def VP:Nat->(M aq->Prop)->Prop|0,p=>p []|n+1,p=>∀a,VP n λl=>p (a::l)
theorem SQ:∀{n:Nat}{p:M aq->Prop},VP n p->∀us,us.length=n->p us|0,_,h,[],_=>h|_+1,_,h,a::us,e=>SQ (h a) us (Nat.succ.inj e)
def AO(x q:aj)(st:b5)(ps:M aj)(us:M aq):Prop:=∀kV dn pm an a6 ct,Uv (A8 x q (yE st) (tF st) (cz st) .none kV dn pm an a6 ct) ⟨us,[]⟩=pure (ps.zip us)
variable{ps:M aj}
def Hx{q:aj}{fd:gC}(F:dg K x q st f fd)(h:VP ps.length (AO x q st ps)):Binds K fd ps []:=F.binds λkV dn pm an a6 ct us hl=>SQ h us hl kV dn pm an a6 ct
variable{ai:bB}
def EE.AQ(E:EE P w K mg ai):yI K=qZ:=cC (λx=>x.2.1) E.tab
def EE.SR(E:EE P w K mg ai):yJ K=q6:=cC (λx=>x.2.2.1) E.tab
def EE.bs(E:EE P w K mg ai):BW K=aa/\BY K=aa/\B0 K=aa/\B3 K=aa/\yK K=aa/\tK K "ASKERS" nB=aa/\tK K "TELLERS" oB=aa:=by have h:allB K=aa:=cC (λx=>x.1) E.tab;unfold allB at h;simpa only[cU]using h
def EE.h1(E:EE P w K mg ai):hashes K "RANGES"=(gF.map (·.1)).map (o7 w):=cC (λx=>x.2.2.2.1) E.tab
def EE.h2(E:EE P w K mg ai):hashes K "ASKERS"=(nB.map (·.1)).map (o7 w):=cC (λx=>x.2.2.2.2.1) E.tab
def EE.h3(E:EE P w K mg ai):hashes K "TELLERS"=(oB.map (·.1)).map (o7 w):=cC (λx=>x.2.2.2.2.2) E.tab
variable{k:Nat}{sp:L2.Sp}
def EE.d(E:EE P w K mg ai)(i:Nat)(ok:∀{f fd},dg K x x st f fd->aM P w K mg ai aO k f fd ps sp)(hi:tG[i]? =I (x,st):=by kernel_rfl)(b:VP ps.length (AO x x st ps):=by(repeat intro _);kernel_rfl):Def P w K mg ai k x ps sp:=by obtain⟨f,fd,h1,F⟩:=AM E.AQ (bN hi);exists ok F,E.g _ _ h1,F.kp,Hx F b
def EE.m(E:EE P w K mg ai){c m qn:aj}{st:b5}{C:af}{attrs:M aj}{k:Nat}{ps:M aj}{sp:L2.Sp}(N:uO K c C attrs)(i:Nat)(ok:∀{f fd},dg K m qn st f fd->aM P w K mg ai aO k f fd ps sp)(hi:BV[i]? =I ((c,m,qn),st):=by kernel_rfl)(b:VP ps.length (AO m qn st ps):=by(repeat intro _);kernel_rfl):Met P w K mg ai k m ps sp C:=by obtain⟨f,fd,a5,F⟩:=SG E.SR E.bs.2.2.2.1 (bN hi) N.at_;exists a5,ok F,Hx F b
def EE.c(E:EE P w K mg ai){c qn:aj}{st:b5}{C:af}{attrs:M aj}{k:Nat}{ps:M aj}{sp:L2.Sp}(N:uO K c C attrs)(i:Nat)(ok:∀{f fd},dg K "__init__" qn st f fd->aM P w K mg ai aO k f fd ps sp)(hi:BV[i]? =I ((c,("__init__":aj),qn),st):=by kernel_rfl)(b:VP ps.length (AO "__init__" qn st ps):=by(repeat intro _);kernel_rfl):Cons P w K mg ai k c ps sp C:=by obtain⟨f,fd,a5,F⟩:=SG E.SR E.bs.2.2.2.1 (bN hi) N.at_;exists⟨N.mak,a5.at_,a5.fn,N.kp⟩,ok F,E.g _ _ N.at_,Hx F b
def uO.cT{c:aj}(N:uO K c C attrs)(h:x∈attrs:=by simp):cF K C x:=N.no x h
def EE.gi(E:EE P w K mg ai){i:Int}(k:Nat)(h:tH[k]? =I (x,fP.i i):=by kernel_rfl):cS mg x i:=by obtain⟨v,h1,h2⟩:=dv E.bs.1 (kX k h);exists v,E.g _ _ h1,SH h2
def EE.gs(E:EE P w K mg ai){y:aj}(k:Nat)(h:tH[k]? =I (x,fP.s y):=by kernel_rfl):qo mg x y:=by obtain⟨v,h1,h2⟩:=dv E.bs.1 (kX k h);exists v,E.g _ _ h1,Hr h2
def EE.gt(E:EE P w K mg ai){ys:M aj}(h:(x,fP.t (ys.map fP.s))∈tH)(hl:ys.length<=1000):∃a,mg x=I (.ref a)/\gK K a (ys.map V.str)/\∃o,K.lookup a=I o/\o.cls= .type "tuple"/\o.dict=ak:=by obtain⟨v,h1,h2⟩:=dv E.bs.1 h;obtain⟨a,rfl,h3,h4⟩:=Hs hl h2;exists a,E.g _ _ h1,h3,h4
def EE.no(E:EE P w K mg ai)(k:Nat)(h:BX[k]? =I x:=by kernel_rfl):mg x=ak:=E.g _ _ (DP E.bs.2.1 (kX k h))
def EE.cl(E:EE P w K mg ai){c:aj}(i:Nat)(h:BZ[i]? =I (c,attrs)):∃C,uO K c C attrs:=ahi E.bs.2.2.1 (bN h)
def EE.nQ(E:EE P w K mg ai):Q4 K mg:=by obtain⟨v,h1,h2⟩:=dv E.bs.1 (x:="STEPS") (l:=.t (eS.map λs=>.t [.s s.py.1,.s s.py.2])) (kX 54 (by kernel_rfl));obtain⟨a,us,rfl,T,h3⟩:=uP h2;obtain⟨as,rfl⟩:=jA (λx hx=>by obtain⟨s,_,rfl⟩:=b7.mp hx;exists _,G) h3;obtain⟨h4,h5⟩:=o6 h3;rw[aE,aE]at h4;refine⟨a,as,E.g _ _ h1,T.xM (by rw[aE,h4];decide) (Ht as),h4,λi s hs=> ?_⟩;obtain⟨u,hu,hl⟩:=h5 i _ (by rw[bF,hs];rfl);obtain⟨b,rfl,h6,_⟩:=Hs (xs:=[s.py.1,s.py.2]) (by show 2<=1000;decide) hl;rw[bF]at hu;obtain⟨b',hb,e⟩:=gP.mp hu;cases e;exists b,hb,h6
def EE.frm(E:EE P w K mg ai):RV K mg:=by
 obtain⟨v,h1,h2⟩:=dv E.bs.1 (x:="FORMS") (l:=.t (oz.map λf=>.t [.s f.1,.t (f.2.1.map .s),.b f.2.2])) (kX 55 (by kernel_rfl));obtain⟨a,us,rfl,T,h3⟩:=uP h2;obtain⟨as,rfl⟩:=jA (λx hx=>by obtain⟨s,_,rfl⟩:=b7.mp hx;exists _,G) h3;obtain⟨h4,h5⟩:=o6 h3;rw[aE,aE]at h4;refine⟨a,as,E.g _ _ h1,T.xM (by rw[aE,h4];decide) (Ht as),λi fm hf=> ?_⟩;obtain⟨u,hu,hl⟩:=h5 i _ (by rw[bF,hf];rfl);obtain⟨b,vs,rfl,ahn,h6⟩:=uP hl;rw[bF]at hu;obtain⟨b',hb,e⟩:=gP.mp hu;cases e;obtain⟨g1,g2⟩:=o6 h6;obtain⟨G9,u2,G_,rfl⟩:=zQ3 g1;obtain⟨_,e1,k1⟩:=g2 0 _ G;obtain⟨_,e2,k2⟩:=g2 1 _ G;obtain⟨_,e3,k3⟩:=g2 2 _ G;cases e1;cases e2;cases e3;obtain⟨t,rfl⟩:=Hr k1;have hlen:fm.2.1.length<=1000:=cX (Sn fm (bN hf)).2 (by decide);obtain⟨na,rfl,aho,ahp⟩:=Hs hlen k2;have k3:=ahj k3;subst k3;exists b,na,hb,ahn.xM (by show 3<=1000;decide) (.cons ⟨t,G⟩ (.cons G (.cons G .nil))),aho,ahp
def eV{p:α->Prop}{a:α}{l:M α}(h:p a)(t:∀e∈l,p e):∀e∈a::l,p e:=List.forall_mem_cons.mpr ⟨h,t⟩
def tk{T:M (aj×aj)}{fn:aj}(i:Nat)(h:Def P w K mg ai k fn dh sp)(hi:T[i]? =I (nm,fn):=by kernel_rfl)(hk:k<=12:=by decide):∃fn,(nm,fn)∈T/\∃k,Def P w K mg ai k fn dh sp/\k<=12:=⟨fn,kX i hi,k,h,hk⟩
def ahq:∀e∈nB,∃d∈tG,d.1=e.2:=by decide+kernel
def ahr:∀e∈oB,∃d∈tG,d.1=e.2:=by decide+kernel
def EE.nf(E:EE P w K mg ai):(∃d∈tG,d.1=x)->∃f,jQ K gg x=I (I (.ref f)):=λ⟨d,h,e⟩=>by obtain⟨f,_,h5,_⟩:=AM (x:=d.1) (st:=d.2) E.AQ h;rw[e]at h5;exists f,h5
def EE.ask{c:fh}(E:EE P w K mg ai)(h:∀e∈nV,∃fn,(e.1,fn)∈nB/\∃k,Def P w K mg ai k fn dh (fj K c e.2)/\k<=12):Hf P w K mg ai c:=by obtain⟨a,ae,h1,h2,h3,h4⟩:=SN (P:=P) E.bs.2.2.2.2.2.1 E.h2 (by decide);refine⟨a,ae,E.g _ _ h1,h2,λnm A hA=> ?_⟩;obtain⟨fn,hf,k,⟨o,u,p,b⟩,hk⟩:=h _ hA;obtain⟨_,h5⟩:=E.nf (ahq _ hf);cases u.symm.trans (E.g _ _ h5);exists _,_,k,h3 nm fn hf _ h5,o,hk,p,b
def EE.tell{c:fh}(E:EE P w K mg ai)(h:∀e∈sj,∃fn,(e.1,fn)∈oB/\∃k,Def P w K mg ai k fn dh (uA K c e.2)/\k<=12):AK P w K mg ai c:=by
 obtain⟨a,ae,h1,h2,h3,h4⟩:=SN (P:=P) E.bs.2.2.2.2.2.2 E.h3 (by decide);exists a,ae,E.g _ _ h1,h2,λnm A hA=> ?_,λnm A hA=>h4 nm ?_
 .obtain⟨fn,hf,k,⟨o,u,p,b⟩,hk⟩:=h _ hA;obtain⟨_,h5⟩:=E.nf (ahr _ hf);cases u.symm.trans (E.g _ _ h5);exists _,_,k,h3 nm fn hf _ h5,o,hk,p,b
 have key:∀nm∈nB.map (·.1),nm∉oB.map (·.1):=by decide
 refine key nm ?_;have e:nB.map (·.1)=nV.map (·.1):=rfl;rw[e];exact vD (f:=(·.1)) hA
set_option maxHeartbeats 0 in
def ahs(E:EE P w K mg ai):∀f fd,bf K "answers" (top 177) f fd->aM P w K mg ai aO 15 f fd ["calls"] (Hj K):=by
 obtain⟨aht,ii⟩:=E.cl 0 G;obtain⟨ahu,m0⟩:=E.cl 1 G;obtain⟨ahv,t0⟩:=E.cl 2 G;obtain⟨ahw,em⟩:=E.cl 3 G;obtain⟨ahx,ij⟩:=E.cl 4 G;obtain⟨ahy,zt⟩:=E.cl 5 G;obtain⟨ahz,ui⟩:=E.cl 6 G;obtain⟨ahA,L9⟩:=E.cl 7 G;obtain⟨ahB,uj⟩:=E.cl 8 G;obtain⟨ahC,Ap⟩:=E.cl 9 G;obtain⟨ahD,p0⟩:=E.cl 10 G;let c:fh:=⟨aht,ahu,ahv,ahw,ahx⟩;let q:cW:=⟨ahy,ahz,ahA,ahB,ahC,ahD⟩;have NN:fc K c.N:=⟨ii.cl,ii.cT,ii.cT,ii.cT,ii.cT,ii.cT,ii.cT,ii.cT,ii.cT,ii.cT⟩;have NJ:rL K c.J:=⟨m0.cl,m0.cT,m0.cT,m0.cT,m0.cT,m0.cT,m0.cT⟩;have NS:qe K c.S:=⟨t0.cl,t0.cT,t0.cT,t0.cT,t0.cT⟩;have NV:jM K c.V:=⟨em.cl,em.cT,em.cT⟩;have NB:nN K c.B:=⟨ij.cl,ij.cT,ij.cT,ij.cT⟩;have NP:w9 K q.P:=⟨zt.cl,zt.cT,zt.cT,zt.cT⟩;have NY:xA K q.Y:=⟨ui.cl,ui.cT,ui.cT,ui.cT,ui.cT⟩;have NA:xB K q.A:=⟨L9.cl,L9.cT,L9.cT⟩;have NT:uC K q.T:=⟨uj.cl,uj.cT,uj.cT,uj.cT,uj.cT⟩;have NL:xx K q.L:=⟨Ap.cl,Ap.cT,Ap.cT,Ap.cT⟩;have NC:qz K q.C:=⟨p0.cl,p0.cT,p0.cT,p0.cT,p0.cT,p0.cT⟩;have Bt:dR mg:=⟨E.no 0,E.no 1,E.no 2,E.no 3,E.no 4,E.no 5,E.no 6,E.no 7,E.no 8,E.no 9,E.no 10⟩;have Kd:Kinds mg:=⟨E.gi 0,E.gi 1,E.gi 2,E.gi 3,E.gi 4⟩;have Z:uf mg:=⟨E.gi 5,E.gi 6,E.gi 7,E.gi 8,E.gi 9,E.gi 10,E.gi 11,E.gi 12,E.gi 13,E.gi 14,E.gi 15,E.gi 16,E.gi 17⟩;have Z2:j8 mg:=⟨E.gi 28,E.gi 29,E.gi 30,E.gi 31,E.gi 32,E.gi 33,E.gi 34⟩;have SS:∀{x:aj}{ys:M aj},(x,fP.t (ys.map fP.s))∈tH->ys.length<=1000->Am K mg x (ys.map V.str):=λh hl=>by obtain⟨a,h1,h2,_⟩:=E.gt h hl;exists a,h1,h2
 have TG:qp K mg:=⟨E.no 13,E.gs 42,E.gs 43,E.gs 44,E.gs 45,E.gs 46,E.gs 47,E.gi 40,E.gi 41,SS (ys:=[".",";"]) (kX 52 (by kernel_rfl)) (by decide),SS (ys:=[" ","\n"]) (kX 53 (by kernel_rfl)) (by decide)⟩;have LG:qt K mg:=⟨E.gi 35,E.gi 36,E.gi 37,E.gi 38,E.gi 39,⟨E.gt (ys:=jc) (kX 48 (by kernel_rfl)) (by decide)⟩⟩;have GN:wM K mg:=by obtain⟨a,h1,h2,_⟩:=E.gt (ys:=jb) (kX 49 (by kernel_rfl)) (by decide);exists a,h1,h2
 have ahE:Qi K mg:=by obtain⟨a,h1,h2,_⟩:=E.gt (ys:=kH) (kX 50 (by kernel_rfl)) (by decide);exists a,h1,h2
 have ahF:Rc K mg:=by obtain⟨v,h1,h2⟩:=dv E.bs.1 (x:="PRINCIPALS") (l:=.t ([1,2,3,4,5,6].map fP.i)) (kX 51 G);obtain⟨a,rfl,h3⟩:=SK (by decide) h2;exists a,E.g _ _ h1,h3
 have ahG:=E.nQ;have ahH:=E.frm;have ahI:Ranges P w K mg:=ahm E.bs.2.2.2.2.1 E.h1 E.g;have SV:=E.c ii 1 λF=>aaZ F NN;have SW:=E.d 13 λF=>aah F NN Kd;have Hy:=E.d 14 λF=>aai F NN Kd;have ahJ:=E.d 15 λF=>aak F NN;have SX:=E.d 16 λF=>aao F SW Hy ahJ;have SY:=E.d 17 λF=>aau F NN Bt SX;have S1:=E.d 23 λF=>aay F NN Bt;have S4:=E.d 24 λF=>aaE F NN Kd Z S1
 have ahK:=E.d 25 λF=>aaF F NN Bt Z S1 S4;have ahL:=E.d 26 λF=>aaG F NN;have ahM:=E.d 27 λF=>aaH F NN Kd;have ahN:=E.d 28 λF=>aaI F NN NJ ahL;have ahO:=E.d 21 λF=>aaJ F NN Z;have ahP:=E.d 18 λF=>aaL F NN Z SW Hy;have ahQ:=E.d 20 λF=>aaO F NN;have ahR:=E.d 19 λF=>aaR F NN SX SY ahP;have S5:=E.d 8 λF=>aa3 F NN Bt;have S6:=E.d 10 λF=>aa4 (C:=c.N) F Bt;have S7:=E.d 11 λF=>aa5 F NN Kd S6;have ahS:=E.d 12 λF=>aa6 F NN S7;have ahT:=E.d 9 λF=>aa9 F NN Bt;have S8:=E.d 29 λF=>abe F NS;have ahU:=E.d 30 λF=>abf F NS S8;have Hz:=E.d 31 λF=>abg F NS Bt S8;have ahV:=E.d 32 λF=>abh F NS Bt Hz;have HA:=E.d 33 λF=>abi F;have S9:=E.d 34 λF=>abj F Bt HA;have S_:=E.d 52 λF=>abk F;have ahW:=E.d 57 λF=>abm F Bt;have Tc:=E.d 35 λF=>ack F NS Bt;have ahX:=E.d 36 λF=>abq F Bt (E.gi 18) Tc HA Hz S9;have Td:=E.d 2 λF=>acL F ahI;have At:=E.d 3 λF=>acM F Bt Td;have ahY:=E.d 4 λF=>acO F Bt (E.gi 19) (E.gi 20) At;have ahZ:=E.d 5 λF=>acP F Bt GN (E.gi 21) At;have HB:=E.d 6 λF=>acQ F Bt (E.gi 22) At;have ah0:=E.d 22 λF=>acX F NN Kd Bt ahO;have ah1:=E.d 7 λF=>acV F Bt GN SV;have ah2:=E.c m0 5 λF=>abl F NJ S_;have ah3:=E.c t0 2 λF=>abn F NS NN ahM;have Te:=E.c em 9 λF=>ac3 F NV;have Tf:=E.m em 10 λF=>ac4 F NV Bt (E.no 11);have Md:=E.m em 12 λF=>ac5 F NV;have Bi:=E.m em 13 λF=>ac6 F NV NJ Md;have ah4:=E.m em 14 λF=>ac7 F NV S7;have Tg:=E.m em 15 λF=>ac9 F NV ahS;have Bn:=E.m em 16 λF=>ac_ F NV Bi Tg SY;have ah5:=E.m em 19 λF=>adb F NV Bi Bn ahK;have ah6:=E.m em 18 λF=>ade F NV Bi Bn ah0;have ah7:=E.m em 11 λF=>adf F NV NJ Tf Md;have ah8:=E.m em 17 λF=>adi F NV NN Bi Bn Hy;have ah9:=E.m em 20 λF=>adl F NV NJ ah7 Bn Md ah3;have ah_:=E.c ij 21 λF=>adq F NB;have Th:=E.m ij 22 λF=>ads F NB Bt;have Ti:=E.m ij 23 λF=>adt F NB Bt;have aia:=E.m ij 24 λF=>adu F NB NN Bt Ti;have Tj:=E.m ij 25 λF=>adv F NB Te;have Tn:=E.m ij 26 λF=>adw F NB Tj Th;have aib:=E.m ij 27 λF=>ady F NB NV Tn S5 Te;have Lw:Lo P w K mg ai c:=⟨NB,NV,NJ,NN,NS,Bt,Z,Tn,Tj,Th,aia,aib,Tf,Md,Bi,ah4,Tg,Bn,ah8,ah6,ah5,ah9,ahW,S6,S4,ahN,ahR,ahQ,S9,Hz,ahU,ahV⟩;have aic:=E.d 60 λF=>adI F Lw;have aid:=E.d 59 λF=>adJ F Lw;have aie:=E.d 61 λF=>adL F Lw;have aif:=E.d 62 λF=>adN F Lw;have aih:=E.d 63 λF=>adP F Lw;have aii:=E.d 64 λF=>adR F Lw;have aij:=E.d 58 λF=>adS F Lw NN.row;have aik:=E.d 68 λF=>adU F Lw;have ail:=E.d 81 λF=>adV F Lw;have aim:=E.d 82 λF=>adX F Lw;have ain:=E.d 75 λF=>ad1 F Lw;have aio:=E.d 76 λF=>ad3 F Lw;have aip:=E.d 83 λF=>ad4 F Lw;have aiq:=E.d 65 λF=>aeb F Lw;have air:=E.d 66 λF=>aec F Lw;have ais:=E.d 73 λF=>aeq F Lw Z2;have ait:=E.d 74 λF=>aer F Lw Z2;have aiu:=E.d 67 λF=>aep F Lw ahX;have aiv:=E.d 37 λF=>aee F Lw (E.no 12) Tc HA;have To:=E.d 69 λF=>aek F Lw aiv;have aiw:=E.d 70 λF=>aem F Lw Z2 To
 have aix:=E.d 71 λF=>aen F Lw Z2 To
 have aiy:=E.c zt 6 λF=>aet F NP;have aiz:=E.d 53 λF=>aew (c:=c) F Bt ahE (E.gi 23) At S_ aiy;have aiA:=E.d 85 λF=>aeD F Lw Z2 (E.gi 24) ahY ah2;have aiB:=E.d 86 λF=>aeJ F Lw Z2 (E.gi 25);have Tp:=E.d 87 λF=>aeL F Lw Z2 (E.gi 26) (E.gi 27) S5 ahT;have aiC:=E.d 88 λF=>aeQ F Z2 ahZ ah1 Tp;have HC:=E.c uj 3 λF=>aeS F NT;have Tq:=E.d 39 λF=>aeT F Bt;have aiD:=E.d 38 λF=>aeV F Bt TG.ord TG.blanks;have aiE:=E.d 40 λF=>ae1 F TG Tq HC;have aiF:=E.d 41 λF=>ae2 F TG Tq HC;have aiG:=E.d 42 λF=>ae3 F Bt TG aiD aiE aiF HC;have aiH:=E.d 43 λF=>afe F NT TG LG;have aiI:=E.d 44 λF=>afh F NT TG LG aiH Td;have aiJ:=E.d 45 λF=>afj F NT LG;have aiK:=E.d 46 λF=>afk F SV;have aiL:=E.c Ap 4 λF=>afl F NL;have aiM:=E.d 47 λF=>afA F Bt GN aiK;have HD:=E.d 48 λF=>afC F Bt NT TG LG GN ahG (E.gi 21) aiG aiI aiJ aiM aiL;have aiN:=E.d 89 λF=>afO F Z2 LG NL HB HD Tp;have aiO:=E.d 77 λF=>afP F Z2 NL HB HD;have aiP:=E.d 79 λF=>afS F Lw ahF;have aiQ:=E.d 80 λF=>af1 F Lw Z2 LG NL HB HD aiP;have aiR:=E.c ui 7 λF=>af_ F NY;have aiS:=E.c L9 8 λF=>aga F NA;have aiT:=E.d 54 λF=>agb F NY NP aiR;obtain⟨KB,fdb,Tr,Fb⟩:=AM E.AQ (kX 55 G:(("better_plan":aj),qY)∈tG);have Tt:=Fb.binds (ps:=["planned","stays","best"]) λ_ _ _ _ _ _ us hl=>match us,hl with|[_,_,_],_=>rfl;have hbp:=Ry (q:=q) Fb (E.g _ _ Tr) Fb.kp Tt Bt NY NP NA Bt.max aiT aiS;have aiU:=E.d 56 λF=>agm F (E.g _ _ Tr) Fb.kp Tt hbp;have aiV:=E.d 72 λF=>agn F Lw Z2 NA aiz aiU;have aiW:=E.d 49 λF=>ags F LG;have aiX:=E.d 50 λF=>agv F NN aiW;have aiY:=E.d 51 λF=>agx F TG aiX;have aiZ:=E.d 78 λF=>agA F Lw aiY;have ai0:=E.c p0 0 λF=>agG F NC;have ai1:=E.d 0 λF=>agH F Bt ahH ai0;have ai2:=E.d 1 λF=>agM F Bt NC ai1;have ai3:Hf P w K mg ai c:=E.ask (eV (tk 0 aij) (eV (tk 1 aid) (eV (tk 2 aic) (eV (tk 3 aie) (eV (tk 4 aif) (eV (tk 5 aih) (eV (tk 6 aii) (eV (tk 7 aiq) (eV (tk 8 air) (eV (tk 9 aiu) (eV (tk 10 aik) (eV (tk 11 aiw) (eV (tk 12 aiV) (eV (tk 13 ais) (eV (tk 14 ait) (eV (tk 15 ain) (eV (tk 16 aio) (eV (tk 17 aiO) (eV (tk 18 aiZ) (eV (tk 19 aiQ) (eV (tk 20 ail) (eV (tk 21 aim) (eV (tk 22 aix) (eV (tk 23 aip) nofun))))))))))))))))))))))));have Tu:AK P w K mg ai c:=E.tell (eV (tk 0 aiA) (eV (tk 1 aiB) (eV (tk 2 aiC) (eV (tk 3 aiN) nofun))));have ai4:=E.d 84 λF=>agZ (q:=q) F NC ai3;have ai5:=E.d 90 λF=>ag1 (q:=q) F NC Tu;have ai6:=E.d 91 λF=>ag3 (q:=q) F NC Tu;have ai7:=E.d 92 λF=>ag7 (q:=q) F NB NC Ti;have ai8:=E.d 93 λF=>ahb F Z2 NC At ai7 ai6 ai5 ai4;exact λf fd F=>ahe F Bt ah_ ai2 ai8
end Hd
section
namespace L2
open PySem PySem.Spec PyProof.Rows
open PySem.W (WData Codec OpenSpec Well WellAll ReadsW ReadsAllW)
mutual
inductive Dw(K:aR)(H:Hp):V->WData->Prop|bx:Dw K H .bx .none|bl (b:Bool):Dw K H (.bl b) (.bool b)|int (i:Int):Dw K H (.int i) (.int i)|str (x:aj):Dw K H (.str x) (.str x)|gX (b:Array UInt8):Dw K H (.gX b) (.bytes b.toList)|lst {a:af} {xs:List V} {ds:List WData}:az K H a xs->nY K H xs ds->Dw K H (.ref a) (.list ds)|tup {a:af} {xs:List V} {ds:List WData}:bz K H a xs->nY K H xs ds->Dw K H (.ref a) (.tuple ds)
inductive nY(K:aR)(H:Hp):List V->List WData->Prop|nil:nY K H [] []|cons {v:V} {vs:List V} {d:WData} {ds:List WData}:Dw K H v d->nY K H vs ds->nY K H (v::vs) (d::ds)
end
theorem Tv{K:aR}{H:Hp}:∀ns:M Int,nY K H (ns.map V.int) (ns.map Vx)|[]=>.nil|n::r=>.cons (.int n) (Tv r)
theorem Tw{K:aR}{H:Hp}:∀(ns:M Int)(xs:M V),nY K H xs (ns.map Vx)->xs=ns.map V.int
 |[],xs,h=>by cases h;rfl
 |n::r,xs,h=>by
  cases h with
  |cons h1 h2=>cases h1;rw[Tw r _ h2]<;>rfl
variable{P:bY}{w:bR}{K:aR}{H:Hp}{h:bB}{a:af}{xs:M V}
def ai9(aQ:dP P w H h)(KX:K.In h)(q:az K H a xs):∃(ad:M aq)(o:bA)(n:Nat),Vals xs ad/\h.get? a=I o/\o.cls= .type "list"/\o.data= .seq ad.toArray n:=by
 obtain q|⟨o,ad,n,e,hc,_,hd,_,hv⟩:=q
 .obtain⟨_,ad,n,hv,e⟩:=(show fJ P w H h a (.lst xs) from q.ok aQ);exists ad,_,n,hv,e,G,G
 exact⟨ad.toList,o,n,hv,KX _ _ e,hc,by simp[hd]⟩
def ai_(aQ:dP P w H h)(KX:K.In h)(q:bz K H a xs):∃(ad:M aq)(o:bA)(n:Nat),Vals xs ad/\h.get? a=I o/\o.cls= .type "tuple"/\o.data= .seq ad.toArray n:=by
 obtain q|⟨o,ad,n,e,hc,hd,_,hv⟩:=q
 .obtain⟨_,ad,hv,o,e,hc,n,hd⟩:=(show fJ P w H h a (.tup xs) from q.ok aQ);exists ad,o,n,hv,e,hc,hd
 exact⟨ad.toList,o,n,hv,KX _ _ e,hc,by simp[hd]⟩
variable{R:PySem.W.WRecords}{cl:aj->aG af}
mutual
theorem Dw.reads(aQ:dP P w H h)(KX:K.In h):∀(d:WData)(v:V)(u:aq),Dw K H v d->RelV v u->∃as,ReadsW R cl h u d as
 | .none,_,_,x,r=>by cases x;cases r;exists _,ReadsW.none
 | .bool b,_,_,x,r=>by cases x;cases r;exists _,ReadsW.bool b
 | .int i,_,_,x,r=>by cases x;obtain⟨t,rfl⟩:=r;exists _,ReadsW.int i t
 | .str s,_,_,x,r=>by cases x;obtain⟨t,rfl⟩:=r;exists _,ReadsW.str s t
 | .bytes b,_,_,x,r=>by cases x;obtain⟨t,rfl⟩:=r;exists _,ReadsW.bytes _ t
 | .list ds,_,_,x,r=>by
  cases x with
  |lst hs ha=>cases r;obtain⟨ad,o,n,rv,ho,hc,hd⟩:=ai9 aQ KX hs;obtain⟨as,hr⟩:=Dw.readsAll aQ KX ds _ ad ha rv;exists _,ReadsW.list ho hc hd hr
 | .tuple ds,_,_,x,r=>by
  cases x with
  |tup hs ha=>cases r;obtain⟨ad,o,n,rv,ho,hc,hd⟩:=ai_ aQ KX hs;obtain⟨as,hr⟩:=Dw.readsAll aQ KX ds _ ad ha rv;exists _,ReadsW.tuple ho hc hd hr
 | .float _,_,_,x,_=>by cases x
 | .dict _,_,_,x,_=>by cases x
 | .bytearray _,_,_,x,_=>by cases x
 | .set _,_,_,x,_=>by cases x
 | .frozenset _,_,_,x,_=>by cases x
 | .obj _ _,_,_,x,_=>by cases x
theorem Dw.readsAll(aQ:dP P w H h)(KX:K.In h):∀(ds:M WData)(vs:M V)(us:M aq),nY K H vs ds->Vals vs us->∃as,ReadsAllW R cl h us ds as
 |[],_,_,x,r=>by cases x;cases r;exists _,ReadsAllW.nil
 |d::ds,_,_,x,r=>by
  cases x with
  |cons h1 h2=>
   cases r with
   |cons r1 r2=>obtain⟨as,q1⟩:=Dw.reads aQ KX d _ _ h1 r1;obtain⟨bs,q2⟩:=Dw.readsAll aQ KX ds _ _ h2 r2;exists _,ReadsAllW.cons q1 q2
end
mutual
def kg:WData->Bool| .none=>aa| .bool _=>aa| .int _=>aa| .str _=>aa| .bytes _=>aa| .list xs=>lX xs| .tuple xs=>lX xs|_=>ao
def lX:M WData->Bool|[]=>aa|x::r=>kg x&&lX r
end
theorem Tz{α:Type}{f:α->WData}(h:∀a,kg (f a)=aa):∀l:M α,lX (l.map f)=aa|[]=>rfl|x::r=>by show(kg (f x)&&lX (r.map f))=aa;rw[h x,Tz h r]<;>rfl
theorem qB:∀(c:Codec)(a:c.denote),kg (c.enc a)=aa
 | .unit,_=>rfl| .bool,_=>rfl| .int _ _,_=>rfl| .nat _ _,_=>rfl| .u8,_=>rfl| .bytes _ _,_=>rfl| .text _ _ _ _,_=>rfl| .list _ _ c,a=>Tz (λx=>qB c x) a| .pair c d,a=>by show(kg (c.enc a.1)&&(kg (d.enc a.2)&&aa))=aa;rw[qB c a.1,qB d a.2]<;>rfl
 | .triple c d e,a=>by show(kg (c.enc a.1)&&(kg (d.enc a.2.1)&&(kg (e.enc a.2.2)&&aa)))=aa;rw[qB c a.1,qB d a.2.1,qB e a.2.2]<;>rfl
 | .option c,ak=>rfl| .option c,I x=>qB c x
theorem TF:∀(cy:M Codec)(a:al0 cy),lX (Je cy a)=aa|[],_=>rfl|c::cy,a=>by show(kg (c.enc a.1)&&lX (Je cy a.2))=aa;rw[qB c a.1,TF cy a.2]<;>rfl
theorem HE:∀{xs:M WData}{d:WData},d∈xs->d.weight<=Jf xs
 |[],d,h=>aU h (by simp)|x::r,d,h=>by
  show d.weight<=x.weight+1+Jf r;obtain e|m:=bh.mp h
  .rw[e];lia
  have z:=HE m;lia
noncomputable def toV:aq->V| .none=>.bx| .bool b=>.bl b| .int i _=>.int i| .str x _=>.str x| .bytes b _=>.gX b| .ref a=>.ref a|_=>.bx
def kY(A:M af):aq->Prop| .none=>True| .bool _=>True| .int _ _=>True| .str _ _=>True| .bytes _ _=>True| .ref a=>a∈A|_=>False
variable{A:M af}
def kY.mono{B:M af}(h:∀a∈A,a∈B):∀{u:aq},kY A u->kY B u:=λ{u}x=>by
 cases u with
 |ref a=>exact h a x
 |none=>trivial
 |bool b=>trivial
 |int i t=>trivial
 |str s t=>trivial
 |bytes b t=>trivial
 |_=>exact ju x
def aja{u:aq}(x:kY A u):RelV (toV u) u:=by
 cases u with
 |ref a=>rfl
 |none=>rfl
 |bool b=>rfl
 |int i t=>exists t,G
 |str s t=>exists t,G
 |bytes b t=>exists t,G
 |_=>exact ju x
theorem uQ{A:M af}:∀{vs:M aq},(∀u∈vs,kY A u)->Vals (vs.map toV) vs|[],_=>.nil|u::r,h=>.cons (aja (h u (bW ..))) (uQ λx hx=>h x (bZ _ hx))
def lY(h:bB)(A:M af)(a:af):Prop:=∃vs:M aq,vs.length<=sizeLine/\(∀u∈vs,kY A u)/\
 (h.get? a=I {cls:=.type "list",data:=.seq vs.toArray}\/h.get? a=I {cls:=.type "tuple",data:=.seq vs.toArray})
def lY.mono{h:bB}{A B:M af}{a:af}(k:∀a∈A,a∈B)(x:lY h A a):lY h B a:=by obtain⟨vs,h1,h2,h3⟩:=x;exists vs,h1,λu hu=>(h2 u hu).mono k,h3
theorem AR{P:sC}{h:bB}:∀{vs:M aq}{ds:M WData},WellAll P h vs ds->vs.length=ds.length|_,_,.nil=>rfl|_,_,.cons _ b=>by show _+1=_+1;rw[AR b]
variable{v:aq}{ds:M WData}
def TH{P:sC}(x:Well P h v (.list ds)):∃(a:af)(vs:M aq),v= .ref a/\h.get? a=I {cls:=.type "list",data:=.seq vs.toArray}/\WellAll P h vs ds:=by
 cases x with
 |list ho b3=>exists _,_,G,ho,b3
def TM{P:sC}(x:Well P h v (.tuple ds)):∃(a:af)(vs:M aq),v= .ref a/\h.get? a=I {cls:=.type "tuple",data:=.seq vs.toArray}/\WellAll P h vs ds:=by
 cases x with
 |tuple ho b3=>exists _,_,G,ho,b3
variable{us:M aq}
def TN{P:sC}{d:WData}(x:WellAll P h us (d::ds)):∃(v:aq)(vs:M aq),us=v::vs/\Well P h v d/\WellAll P h vs ds:=by
 cases x with
 |cons a b=>exists _,_,G,a,b
def TQ{n:Nat}(h:n<=1048576):n<=sizeLine:=cX h (by decide)
variable{P:sC}
mutual
theorem ajb:∀(d:WData)(v:aq),Well P h v d->kg d=aa->d.weight<=1048576->∃A:M af,kY A v/\∀a∈A,lY h A a
 | .none,_,x,_,_=>by cases x;exact⟨[],trivial,λa m=>aU m (by simp)⟩
 | .bool b,_,x,_,_=>by cases x;exact⟨[],trivial,λa m=>aU m (by simp)⟩
 | .int i,_,x,_,_=>by cases x;exact⟨[],trivial,λa m=>aU m (by simp)⟩
 | .str s,_,x,_,_=>by cases x;exact⟨[],trivial,λa m=>aU m (by simp)⟩
 | .bytes b,_,x,_,_=>by cases x;exact⟨[],trivial,λa m=>aU m (by simp)⟩
 | .list ds,_,x,p,z=>by
  obtain⟨a,vs,rfl,ho,b3⟩:=TH x;have z2:Jf ds<=1048576:=z;obtain⟨A,h1,h2⟩:=AU ds _ b3 p λd hd=>cX (HE hd) z2;have k:∀b∈A,b∈a::A:=λb hb=>bZ _ hb;refine⟨a::A,bW ..,λb hb=> ?_⟩;obtain e|m:=bh.mp hb
  .rw[e];exists vs,TQ (by rw[AR b3];exact cX (al1 ds) z2),λu hu=>(h1 u hu).mono k,.inl ho
  exact(h2 b m).mono k
 | .tuple ds,_,x,p,z=>by
  obtain⟨a,vs,rfl,ho,b3⟩:=TM x;have z2:Jf ds<=1048576:=z;obtain⟨A,h1,h2⟩:=AU ds _ b3 p λd hd=>cX (HE hd) z2;have k:∀b∈A,b∈a::A:=λb hb=>bZ _ hb;refine⟨a::A,bW ..,λb hb=> ?_⟩;obtain e|m:=bh.mp hb
  .rw[e];exists vs,TQ (by rw[AR b3];exact cX (al1 ds) z2),λu hu=>(h1 u hu).mono k,.inr ho
  exact(h2 b m).mono k
 | .float _,_,_,p,_=>mC (show ao=aa from p)| .dict _,_,_,p,_=>mC (show ao=aa from p)| .bytearray _,_,_,p,_=>mC (show ao=aa from p)| .set _,_,_,p,_=>mC (show ao=aa from p)| .frozenset _,_,_,p,_=>mC (show ao=aa from p)| .obj _ _,_,_,p,_=>mC (show ao=aa from p)
theorem AU:∀(ds:M WData)(vs:M aq),WellAll P h vs ds->lX ds=aa->(∀d∈ds,d.weight<=1048576)->∃A:M af,(∀u∈vs,kY A u)/\∀a∈A,lY h A a
 |[],_,x,_,_=>by cases x;exact⟨[],λu m=>aU m (by simp),λa m=>aU m (by simp)⟩
 |d::ds,_,x,p,z=>by
  obtain⟨v,vs,rfl,x1,x2⟩:=TN x;have q:kg d=aa/\lX ds=aa:=al2.mp p;obtain⟨A,cx,dL⟩:=ajb d v x1 q.1 (z d (bW ..));obtain⟨B,b1,cc⟩:=AU ds vs x2 q.2 λe he=>z e (bZ _ he);have TR:∀b∈A,b∈A++B:=λb hb=>dG.mpr (.inl hb);have TU:∀b∈B,b∈A++B:=λb hb=>dG.mpr (.inr hb);exists A++B,λu hu=> ?_,λb hb=> ?_
  .obtain e|m:=bh.mp hu
   .rw[e];exact cx.mono TR
   exact(b1 u m).mono TU
  obtain m|m:=dG.mp hb
  .exact(dL b m).mono TR
  exact(cc b m).mono TU
end
noncomputable def AV(o:bA):aG HO:=match o.data with
 | .seq vs _=>if(o.cls==m_ "list")=aa then I (.cQ o (.lst (vs.toList.map toV)))else I (.cQ o (.tup (vs.toList.map toV)))
 |_=>ak
noncomputable def ic(K:aR)(h:bB)(A:M af):Hp:=λb=>if b∈A then(if(K.lookup b).isNone=aa then(h.get? b).bind AV else ak)else ak
def HF(H:Hp):Prop:=∀b,H b=ak\/∃o u,H b=I (.cQ o u)
def TV(vs:M aq):AV {cls:=.type "list",data:=.seq vs.toArray}=I (.cQ {cls:=.type "list",data:=.seq vs.toArray} (.lst (vs.map toV))):=by show(if(m_ "list"==m_ "list")=aa then I (HO.cQ {cls:=.type "list",data:=.seq vs.toArray} (.lst (vs.toArray.toList.map toV)))else I (HO.cQ {cls:=.type "list",data:=.seq vs.toArray} (.tup (vs.toArray.toList.map toV))))=_;rw[av (beq_self_eq_true _)]
def TX(vs:M aq):AV {cls:=.type "tuple",data:=.seq vs.toArray}=I (.cQ {cls:=.type "tuple",data:=.seq vs.toArray} (.tup (vs.map toV))):=by show(if(m_ "tuple"==m_ "list")=aa then I (HO.cQ {cls:=.type "tuple",data:=.seq vs.toArray} (.lst (vs.toArray.toList.map toV)))else I (HO.cQ {cls:=.type "tuple",data:=.seq vs.toArray} (.tup (vs.toArray.toList.map toV))))=_;rw[au (by decide)]
variable{b:af}
def AW{o:bA}(hb:b∈A)(hk:K.lookup b=ak)(e:h.get? b=I o):ic K h A b=AV o:=by unfold ic;rw[av hb,hk,av (show(ak:aG bA).isNone=aa from G),e]<;>rfl
variable{u:HO}
def ajc(q:ic K h A b=I u):b∈A/\K.lookup b=ak:=by
 unfold ic at q;by_cases hb:b∈A
 .rw[av hb]at q;cases hk:K.lookup b with|none=>exists hb,G|some o=>rw[hk,au (by simp)]at q;cases q
 rw[au hb]at q;cases q
def AY(ck:∀a∈A,lY h A a)(q:ic K h A b=I u):K.lookup b=ak/\∃vs:M aq,vs.length<=sizeLine/\(∀u∈vs,kY A u)/\
  ((h.get? b=I {cls:=.type "list",data:=.seq vs.toArray}/\u= .cQ {cls:=.type "list",data:=.seq vs.toArray} (.lst (vs.map toV)))\/(h.get? b=I {cls:=.type "tuple",data:=.seq vs.toArray}/\u= .cQ {cls:=.type "tuple",data:=.seq vs.toArray} (.tup (vs.map toV)))):=by
 obtain⟨hb,hk⟩:=ajc q;obtain⟨vs,h1,h2,h3⟩:=ck b hb;exists hk,vs,h1,h2;obtain e|e:=h3
 .rw[AW hb hk e,TV]at q;exact .inl ⟨e,(cG q).symm⟩
 rw[AW hb hk e,TX]at q;exact .inr ⟨e,(cG q).symm⟩
def ajd(ck:∀a∈A,lY h A a):HF (ic K h A):=λb=>by
 cases q:ic K h A b with
 |none=>exact .inl G
 |some u=>
  obtain⟨_,vs,_,_,⟨_,e⟩|⟨_,e⟩⟩:=AY ck q
  .exact .inr ⟨_,_,by rw[e]⟩
  exact .inr ⟨_,_,by rw[e]⟩
variable{P:bY}
def aje(ck:∀a∈A,lY h A a):dP P w (ic K h A) h:=λb u q=>by
 obtain⟨_,vs,h1,h2,⟨e,rfl⟩|⟨e,rfl⟩⟩:=AY ck q
 .exists e,by rw[aE];exact h1,vs,_,uQ h2,e
 exists e,by rw[aE];exact h1,vs,uQ h2,_,e,G,_,G
variable{vs:M aq}
def AZ{c c':aq}(e:(I {cls:=c,data:=.seq vs.toArray}:aG bA)=I {cls:=c',data:=.seq us.toArray}):c=c'/\vs=us:=by have e1:=cG e;have e2:c=c':=cC Obj.cls e1;have e3:Jg vs.toArray=Jg us.toArray:=cC Obj.data e1;injection e3 with e4;exists e2;have e5:=cC Uk e4;simpa using e5
def ajf(KX:K.In h)(ck:∀a∈A,lY h A a)(ha:a∈A)(e:h.get? a=I {cls:=.type "list",data:=.seq vs.toArray}):(∀u∈vs,kY A u)/\az K (ic K h A) a (vs.map toV):=by
 obtain⟨us,h1,h2,h3⟩:=ck a ha
 have hu:us=vs:=by
  obtain q|q:=h3
  .rw[e]at q;exact(AZ q).2.symm
  rw[e]at q;exact aU (al3 (AZ q).1) (by decide)
 subst hu;exists h2;cases hk:K.lookup a with
 |none=>exact .inl (.inr ⟨_,by rw[AW ha hk e,TV]⟩)
 |some o=>have e2:=KX a o hk;rw[e]at e2;obtain rfl:=cG e2;exact .inr ⟨_,us.toArray,_,hk,G,G,G,by rw[eX];exact h1,by simpa using uQ h2⟩
def ajg(KX:K.In h)(ck:∀a∈A,lY h A a)(ha:a∈A)(e:h.get? a=I {cls:=.type "tuple",data:=.seq vs.toArray}):(∀u∈vs,kY A u)/\bz K (ic K h A) a (vs.map toV):=by
 obtain⟨us,h1,h2,h3⟩:=ck a ha
 have hu:us=vs:=by
  obtain q|q:=h3
  .rw[e]at q;exact aU (al3 (AZ q).1) (by decide)
  rw[e]at q;exact(AZ q).2.symm
 subst hu;exists h2;cases hk:K.lookup a with
 |none=>exact .inl (.inr ⟨_,by rw[AW ha hk e,TX]⟩)
 |some o=>have e2:=KX a o hk;rw[e]at e2;obtain rfl:=cG e2;exact .inr ⟨_,us.toArray,_,hk,G,G,by rw[eX];exact h1,by simpa using uQ h2⟩
mutual
theorem ajh{HG:sC}(KX:K.In h)(ck:∀a∈A,lY h A a):∀(d:WData)(v:aq),Well HG h v d->kg d=aa->kY A v->Dw K (ic K h A) (toV v) d
 | .none,_,x,_,_=>by cases x;exact .bx
 | .bool b,_,x,_,_=>by cases x;exact .bl b
 | .int i,_,x,_,_=>by cases x;exact .int i
 | .str s,_,x,_,_=>by cases x;exact .str s
 | .bytes b,_,x,_,_=>by cases x;have z:=Dw.gX (K:=K) (H:=ic K h A) b.toArray;exact z
 | .list ds,_,x,p,hu=>by obtain⟨a,vs,rfl,ho,b3⟩:=TH x;obtain⟨h2,hs⟩:=ajf KX ck hu ho;exact .lst hs (A0 KX ck ds _ b3 p h2)
 | .tuple ds,_,x,p,hu=>by obtain⟨a,vs,rfl,ho,b3⟩:=TM x;obtain⟨h2,hs⟩:=ajg KX ck hu ho;exact .tup hs (A0 KX ck ds _ b3 p h2)
 | .float _,_,_,p,_=>mC (show ao=aa from p)| .dict _,_,_,p,_=>mC (show ao=aa from p)| .bytearray _,_,_,p,_=>mC (show ao=aa from p)| .set _,_,_,p,_=>mC (show ao=aa from p)| .frozenset _,_,_,p,_=>mC (show ao=aa from p)| .obj _ _,_,_,p,_=>mC (show ao=aa from p)
theorem A0{HG:sC}(KX:K.In h)(ck:∀a∈A,lY h A a):∀(ds:M WData)(vs:M aq),WellAll HG h vs ds->lX ds=aa->(∀u∈vs,kY A u)->nY K (ic K h A) (vs.map toV) ds
 |[],_,x,_,_=>by cases x;exact .nil
 |d::ds,_,x,p,hu=>by obtain⟨v,vs,rfl,x1,x2⟩:=TN x;have q:kg d=aa/\lX ds=aa:=al2.mp p;exact .cons (ajh KX ck d v x1 q.1 (hu _ (bW ..))) (A0 KX ck ds vs x2 q.2 λu m=>hu u (bZ _ m))
end
def aji{mg mb:aj->aG aq}{CX:rB}{k:Nat}{fa:af}{fd:gC}{ps:M aj}{sp:Sp}{s₁:aI}{vals:M aq}{d0:WData}
  (KX:K.In s₁.heap)(cp:s₁.heap.Ns gg mg)(hb:s₁.heap.Ns HJ mb)(F5:∀x:aj,x≠"__name__"->mb x=jt x)(ajj:s₁.heap.NoLimit)(hg:s₁.gens= #[])
  (ll:WellAll w.params s₁.heap vals ds)(ag:lX ds=aa)(hwt:∀d∈ds,d.weight<=1048576)(hr:d8 k Jh)
  (F:∀ai:bB,K.In ai->ai.Ns gg mg->aM P w K mg ai CX k fa fd ps sp)(ajk:∀(s:aI)(us:M aq),us.length=ps.length->HZ s fd ⟨us,[]⟩ (ps.zip us))(hlen:ds.length=ps.length)
  (md:∀(H:Hp)(xs:M V),HF H->nY K H xs ds->sp xs H (λv U=>Dw K U v d0) λ_ _ _=>False)
  (hCX:∀H e s',CX [] H s₁ (λ_ _ _=>False) e s'->False):
  l0 (aL P w) Jh (.call (.ref fa) ⟨vals,[]⟩) (λr s'=>∃u as,r= .ok (.ret u)/\ReadsW R cl s'.heap u d0 as/\OldK s₁.heap s'.heap/\s'.os=s₁.os/\uT s'.gens) s₁:=by
 obtain⟨A,ho,ck⟩:=AU ds vals ll ag hwt;have hO:HF (ic K s₁.heap A):=ajd ck;have aQ:dP P w (ic K s₁.heap A) s₁.heap:=aje ck;have hS:=A0 KX ck ds vals ll ag ho;have hV:=uQ ho;have hK:∀b u,ic K s₁.heap A b=I u->K.lookup b=ak:=λb u q=>(AY ck q).1
 have rd:∀{b:af}{o:bA}{es:Array qJ}{ep:Nat},s₁.heap.get? b=I o->o.data= .dict es ep->ic K s₁.heap A b=ak:=λ{b o es ep}e d=>by
  cases q:ic K s₁.heap A b with
  |none=>rfl
  |some u=>
   obtain⟨_,vs,_,_,⟨e2,_⟩|⟨e2,_⟩⟩:=AY ck q
   .rw[e2]at e;cases e;have d':Jg vs.toArray _=Data.dict es ep:=d;cases d'
   rw[e2]at e;cases e;have d':Jg vs.toArray _=Data.dict es ep:=d;cases d'
 generalize ic K s₁.heap A=H at hO aQ hS hK rd;have TY:∀{b:af}{o:bA},s₁.heap.get? b=I o->H b=ak->(oF s₁.heap H).get? b=I o:=λe n=>Wt e n;have Mo:∀{b:af}{m:aj->aG aq},s₁.heap.Ns b m->(oF s₁.heap H).Ns b m:=λ{b m}⟨o,es,ep,e,d,r⟩=>⟨o,es,ep,TY e (rd e d),d,r⟩
 have ajl:∀b o,K.lookup b=I o->H b=ak:=λb o e=>by
  cases q:H b with
  |none=>rfl
  |some u=>rw[hK b u q]at e;cases e
 have TZ:K.In (oF s₁.heap H):=λb o e=>TY (KX b o e) (ajl b o e);have ajm:Mod K mg (oF s₁.heap H):=⟨TZ,Mo cp,⟨mb,Mo hb,F5⟩,let⟨ajn,h1,h2⟩:=ajj;⟨ajn,Mo h1,h2⟩⟩;have e0:rC P w K mg (oF s₁.heap H) Jh [] s₁ H:=⟨G,ajm,λb o e=>Wu e,A5 (Ws _ _),trivial,λb hb=>aU (show b∈([]:M af) from hb) (by simp),aQ,.of_eq hg⟩;have hl:vals.length=ps.length:=by rw[AR ll];exact hlen
 refine u6 ((F _ TZ (Mo cp)).run Jh [] s₁ H ⟨vals,[]⟩ vals (vals.map toV) _ _ hr e0 (ajk s₁ vals hl) hV (md H _ hO hS)) λr s' x=> ?_;cases r with
 |error e=>exact(hCX H e s' x).elim
 |ok km=>
  cases km with
  |next=>exact ju x
  |brk=>exact ju x
  |cont=>exact ju x
  |ret u=>
   obtain⟨v,U,os,bare,un,T3,r',q⟩:=x
   have kept:∀b o,s₁.heap.get? b=I o->s'.heap.get? b=I o:=λb o e=>by
    cases q2:H b with
    |none=>exact un.keep b o e q2 (by intro z;exact aU (show b∈([]:M af) from z) (by simp)) (by simp)
    |some u2=>
     obtain z|⟨ob,G_,z⟩:=hO b
     .rw[q2]at z;cases z
     have z2:=un.kI b ob _ z;obtain⟨e1,_⟩:=aQ b _ z;obtain⟨e2,_⟩:=T3 b _ z2;rw[e]at e1;cases e1;exact e2
   have KX':K.In s'.heap:=λb o e=>kept b o (KX b o e);obtain⟨as,T4⟩:=Dw.reads (R:=R) (cl:=cl) T3 KX' d0 v u q r';exists u,as,G,T4,OldK.of_keep kept,os,bare
def ajo(h:WData.layableAll ds=aa):∀d∈ds,d.weight<=1048576:=λd hd=>(PySem.W.layableW_iff.mp (jU.mp h d hd)).2.2
theorem T6:∀(cy:M Codec)(a:al0 cy),(Je cy a).length=cy.length|[],_=>rfl|c::cy,a=>by show(Je cy a.2).length+1=cy.length+1;rw[T6 cy a.2]
end L2
end
namespace Hd
open PySem PySem.W PySem.Calls PyProof.Rows L2 Sp Sg
theorem ajp(as:M AC)(a:AC)(h:a∈as)(k:a.Ok):a.row.length<=(as.flatMap AC.enc).length:=by
 by_cases q:a.fm.2.2=aa
 .have:a.row.length<=a.enc.length:=by
   unfold AC.enc;rw[av q];simp only[bT,bD];lia
  refine cX this ?_;obtain⟨l1,l2,rfl⟩:=List.append_of_mem h;rw[qQ,gW];simp only[bD];lia
 rw[k.row (Bool.not_eq_true _|>.mp q)];exact b6 _
theorem ajq(a:AC)(k:a.Ok):al4 a.raw=a.raw:=by
 have Z:zQA (λi fm=>∀nums row,nums.length=fm.2.1.length->al4 (AC.raw ⟨i,fm,nums,row⟩)=AC.raw ⟨i,fm,nums,row⟩) 0 oz:=by
  repeat' first|exact trivial|refine And.intro ?_ ?_
  all_goals intro nums row h;first|cases yx h;rfl|obtain⟨a,rfl⟩:=zQ1 h;rfl|obtain⟨a,b,rfl⟩:=zQ2 h;rfl|obtain⟨a,b,d,rfl⟩:=zQ3 h;rfl|obtain⟨a,b,d,e,rfl⟩:=zQ4 h;rfl
 have:=Z.zQg k.AG a.nums a.row k.nums;rwa[Nat.zero_add]at this
def ajr(as:M AC)(h:∀a∈as,a.Ok):(as.map AC.raw).map al4=as.map AC.raw:=by rw[bQ];exact kB λa ha=>ajq a (h a ha)
def YP(w:bR)(h:bB):Prop:=∃K:aR,K.In h/\tabOf K=vH w
abbrev RR:=PySem.Challenge.rw_sealedgoods_s01_answers
def ws0{a b:Bool}(h:a=aa)(k:b=aa):(a&&b)=aa:=by rw[h,k];rfl
def ws:RR.wellSaid=aa:=ws0 (ws0 (ws0 (ws0 (ws0 (ws0 (ws0 (ws0 (ws0 (ws0 (by decide+kernel) (by decide+kernel)) (by decide+kernel)) (by decide+kernel)) (by decide+kernel)) (by decide+kernel)) (by decide+kernel)) (by decide+kernel)) (by decide+kernel)) (by decide+kernel)) (by decide+kernel)
theorem walk{d:DefRec}(hn:d.name=RR.name):WalkOS Q loose (λ_ _=>True) YP RR d [] (λf vs=>PySem.call f vs):=by
 intro w gp s₁ mg mb ar Y fa o pm fg dn Op kV ho hd fe hD LE hg args vals as ajs ajt T4 ll hlo;obtain⟨a,e1,e2⟩:=PySem.W.os_pre_some ajs;obtain⟨e3,fi⟩:=Codec.encAll_of_decAll RR.args args a e1;subst e3;obtain⟨K,KX,tb⟩:=Y
 have T7:∀x r,jQ K gg x=I r->mg x=r:=λx r e=>by
  cases r with
  |none=>exact PySem.W.mg_none_of KX ar.T.g e
  |some v=>exact PySem.W.mg_of KX ar.T.g e
 have T8:∀ai,EE PP w K mg ai:=λai=>⟨T7,tb⟩;obtain⟨f,fd,h1,F⟩:=AM (T8 s₁.heap).AQ (x:="answers") (st:=(top 177)) (bN (i:=94) G);rw[hn]at LE
 have aju:fa=f:=by have:=LE.symm.trans (T7 _ _ h1);injection this with this;injection this
 subst aju
 have hb:∀(s:aI)(us:M aq),us.length=(["calls"]:M aj).length->HZ s fd ⟨us,[]⟩ ((["calls"]:M aj).zip us):=by obtain⟨oc,od,kV,dn,pm,an,a6,ct,rh,rfl,lk,fe⟩:=F.ex;exact λs us hu=>match us,hu with|[_],_=>.of_eq G
 refine PySem.W.enter_call (u6 (aji (R:=[]) (cl:=classAt gp.heap) (k:=15) (CX:=aO) (ps:=["calls"]) (sp:=Hj K) (d0:=RR.ret.enc (Codec.app RR.args RR.f a)) KX ar.T.g ar.T.b ar.T.builtins ar.T.nolimit hg ll (TF _ _) (ajo ajt) ⟨G,by decide,by decide⟩ (λai _ _=>ahs (T8 ai) _ _ F) hb (by rw[T6];rfl)
  (λH xs hO hS=> ?S) λH e s' z=>z) λr' s' hq=> ?_)
 case S=>
  cases hS with
  |cons h1 h2=>
   cases h2;cases h1 with
   |lst hs ha=>
    have e:=L2.Tw a.1 _ ha;subst e;have q:((Codec.inLen 0 17000 a.1&&a.1.all (Codec.inInt (-1000000000000000000) 1000000000000000000))&&aa)=aa:=fi;rw[cU,cU]at q;have hlen:a.1.length<=17000:=(Codec.inNat_iff.mp q.1.1).2;have uk:al5 a.1=aa:=e2;unfold al5 at uk;cases ec:BP BO a.1.length a.1 with
    |none=>rw[ec]at uk;cases uk
    |some raw=>
     rw[ec]at uk;simp only[cU]at uk;obtain⟨⟨⟨⟨_,h60⟩,_⟩,_⟩,pj⟩:=uk;obtain⟨as,aQ,el,cj⟩:=RT _ _ _ ec
     have T9:Vy a.1=ow (outs gk as):=by unfold Vy PyVbcuaf.calls;rw[ec];dsimp only;rw[cj,ajr as aQ];rfl
     have n60:as.length<=60:=by have:=c_ h60;rwa [cj,aE]at this
     exists _,as,G,(by rw[<-el];exact hs),aQ,λx hx=> ?_,by lia,?_,λU p hp=> ?_
     .have:=ajp as x hx (aQ x hx);rw[<-el]at this;lia
     .rw[<-T9];exact c_ pj
     show Dw K U (.ref p) (.list ((Vy a.1).map Vx));rw[T9];exact .lst (L2.az.of hp) (L2.Tv _)
 obtain⟨u,tJ,rfl,h1,h2,h3,h4⟩:=hq;exists .inl ⟨u,_,tJ,G,λ_=>G,h1,(OpenSpec.post_iff ws fi _ _).mpr G,λz=>mC (show ao=aa from z)⟩,h2,h3,h4
end Hd
open PySem PySem.W PyProof.Rows
set_option maxRecDepth 100000 in
set_option maxHeartbeats 0 in
theorem PySem.Challenge.cw_sealedgoods_s01_answers_holds : PySem.Challenge.rw_sealedgoods_s01_answers.Holds := by
 have hs:(defOf Hd.Q Hd.RR.name).isSome=aa:=by kernel_rfl
 obtain⟨⟨d,kwd⟩,HH⟩:=ajV.mp hs;have h3:(defOf Hd.Q Hd.RR.name).map (λz=>(z.1.params,z.1.body,z.1.scope))=Hd.RR.prog.theDef Hd.RR.name:=by kernel_rfl
 have h4:(defOf Hd.Q Hd.RR.name).map (λz=>kwWritten? z.1.params.kwonlyargs z.1.params.kw_defaults)=I (I []):=by kernel_rfl
 have h5:(defOf Hd.Q Hd.RR.name).map (λz=>z.2)=I []:=by kernel_rfl
 rw[HH]at h3 h4 h5;have e5:kwd=[]:=cG h5;subst e5
 exact holds_os (r:=PySem.Challenge.rw_sealedgoods_s01_answers) (q:=Hd.Q) (XP:=λ_ _=>True) (YP:=Hd.YP) (d:=d) (kwd:=[]) Hd.left (λw s e=>⟨_,Hd.We s.heap,e⟩) (λw h h'⟨K,k1,k2⟩kp=>⟨K,k1.keeps kp,k2⟩) (λ_ _=>trivial) (λ_ _ _ _ _=>trivial)
  HH h3.symm (cG h4) (λ_ _=>recFacts_nil G) (λ_ h=>OpenSpec.pre_hasAll Hd.ws h) Hd.ws (by decide+kernel) ⟨G,G,G,G,G,by decide+kernel⟩ ⟨[.list [.int 3]],by decide+kernel,by decide+kernel⟩ (Hd.walk (defOf_name HH))
